import PyProof.Rows.All
import Wide.All
import OpenK.AllK
import Wide.FinOn
import Lean
import PyProof.EqAt
import PyProof.EqKinds
import PyProof.TupleCall
import PySem.Challenge.RW_indexwise_k63_programs_written
set_option Elab.async false
set_option linter.all false
set_option maxRecDepth 100000
set_option maxHeartbeats 3200000
local macro_rules | `(tactic| trivial) => `(tactic| first | exact .inl rfl | exact .inr (.inl rfl) | exact .inr (.inr rfl) | exact .inr rfl | assumption | exact True.intro | exact ⟨rfl,rfl,rfl,by decide +kernel,rfl,by decide +kernel,by decide +kernel⟩)
local macro_rules | `(()) => `(by first | omega | decide +kernel | trivial | (intro _; rfl) | simp)
open Array renaming length_toList→Ι,getD_eq_getD_getElem?→q9,perm_iff_toList_perm→B7,getElem?_eq_getElem→FP
open Bool renaming and_eq_true→Ζ,false_ne_true→Ξ,true_and→ϧ,false_and→ϴ,eq_iff_iff→o9,eq_false_iff→x6,and_false→FA,false_or→F4,or_eq_true→Gk
open False renaming elim→n_
open ForInStep renaming yield→A8
open Int renaming toNat_natCast→FZ
open List renaming length_map→δ,mem_cons→ν,mem_singleton→ξ,mem_cons_self→ο,map_append→ς,getElem?_eq_some_iff→ψ,getElem?_eq_getElem→Α,length_cons→Γ,size_toArray→Δ,mem_cons_of_mem→Ε,length_append→Η,getElem?_map→Ν,mem_of_getElem?→Ο,mem_append→Τ,length_take→Υ,map_cons→Χ,map_map→Ψ,mem_map→Ω,take_length→ϒ,mem_append_right→ϔ,take_add_one→ϕ,range→Ϝ,lookup_cons→Ϟ,not_mem_nil→ϟ,append_nil→ϡ,all_eq_true→ϭ,lookup→ϲ,length_singleton→ϳ,getElem?_append_right→ϵ,length_drop→Ϸ,cons_append→Ϲ,append_assoc→c_,nil_append→e_,any_eq_true→f_,getElem?_append_left→i6,length_nil→j4,getElem_mem→j5,sum_cons→j7,replicate→j8,map_nil→j9,find?_cons→j_,getElem?_eq_none→k7,mem_of_mem_take→m8,mem_map_of_mem→p_,length_replicate→t_,drop_eq_getElem_cons→u6,nodup_cons→u9,length→w_,filterMap_cons→y6,map_congr_left→y8,mem_range→y_,take_of_length_le→A6,mem_filter→A7,take_left'→A9,mem_append_left→B3,drop_zero→B9,all_map→C4,any_cons→C_,forIn_cons→EJ,sum_append→EL,drop_left'→EM,mem_filterMap→EN,getElem_inj→E5,zipIdx_cons→E9,getElem?_set_ne→Fa,mem_of_mem_drop→Fc,zipIdx_nil→Fg,getElem_of_mem→Fk,find?_eq_none→FC,forIn_nil→FH,filter_append→FL,pairwise_iff_getElem→FO,extract_eq_drop_take→FQ,any_eq_false→FW,ext_getElem?→F1,drop_length→Ga,of_mem_zip→Gh,getD→Gq
open List.cons renaming injEq→Gm
open Nat renaming le_refl→π,zero_le→ϊ,lt_of_lt_of_le→ϛ,ne_of_lt→Ϣ,le_add_right→Ϩ,le_trans→a7,le_of_ble_eq_true→i_,le_of_lt→u_,lt_irrefl→x9,ne_of_gt→A2,mul_le_mul_right→B8,lt_succ_self→E7,min_eq_left→Fh,add_left_cancel→Fl,le_succ→FY,lt_add_right→F9,sub_self→Ge
open Ne renaming symm→ϋ
open Option renaming map_eq_some_iff→ϖ,isSome_map→EW
open Option.some renaming inj→Ϛ
open Or renaming inl→υ,inr→C8
open PyProof.Rows renaming slot_tuple_getitem→ϱ,callWith_type1→b_,envOfC→Fn,slice_from_eq→FK,AllBare→FT,IsTup→GB
open PyProof.Rows.IsTup renaming new→Gp
open PySem renaming Value→ζ,wpAny_bind→η,sizeLine_eq→θ,Shared→ι,strLen_append→μ,Program→χ,wpAny_pure→ω,FuncData→Θ,World→Ρ,Around→ό,wpAny_field→ϣ,wpAny_setField_rec→ϩ,IsPair→Ϭ,wpAny_callSpecial?_slot→ϸ,wpAny_seqItems→Ϻ,wpAny_newObj_type→ϻ,wpAny_call_entry→a9,wpAny_truthy_bool→a_,wpAny_updateSeq_pair→m7,wpAny_mono→n9,IsZip→r6,wpAny_Call_Name_kw→r9,wpAny_passesOwn→u8,Builtin→v_,wpAny_onRaise→x_,mem_of_lookup→y7,wpAny_getItem_str_slice→z_,ZipApart→A0,wpAny_holding→A_,NameKind→B4,call_meets→B6,wpAny_letOwnedTupleGo_zip→C7,GenState→C9,wpAny_pyIter_tuple→EO,typeIs_str→ER,Scope→EU,DictEntry→E6,wpAny_letGo→Fb,wpAny_execs_nil→Fd,post_val_or_str→Fe,wpAny_rule→FE,wpAny_FormattedValue_plain→FF,wpAny_pyIter_list→FV,wpAny_attempt→F5,noFill_tuple_add→F6,wpAny_pyIter_zip→F8,Within→Gc,codeAny_mono→Gd,wpAny_newTuple→Gn,OsState→Gr,Result→Gu,IsPart→Gv,Operator→Gx,BindsTo→Gy,SetTable→Gz,Drawn→GA
open PySem.AutoSeq1 renaming wpAny_loadPart'→m6
open PySem.Builtin.List renaming listTooLong→l_
open PySem.Builtin.Slice renaming slicePlaces→u5,sliceApplied→B5,sliceAdjust→C6
open PySem.Builtin.SmallTypes renaming nextOf→ϗ,ownedTupleIsFree→Ϙ,ownedTupleHandOut→i7
open PySem.Builtin.Str renaming occurrences→m9
open PySem.Builtin.Tuple renaming tupleExact→ϰ,tupleItemsOf→Fz,tupleIsExact→FG
open PySem.Calls renaming Name_function_global→Fw
open PySem.Data renaming cell→B0,fields→FU,seq→F7
open PySem.F renaming plainAttrs_str→Κ,plainAttrs_list→Φ,slot_list_append→ϐ,type_list_append→ϑ,slot_str_join→Ϫ,type_str_join→ϫ,slot_str_split→g_,type_str_split→h_,slot_zip_next→o_,slot_tuple_iterator_next→s_,slot_str_startswith→B1,type_str_startswith→B2,slot_str_partition→B_,type_str_partition→C0,args_tuple_add_2→D0,slot_list_extend→D_,type_list_extend→EI,entry_tuple_add→ET,slot_tuple_add→EY,args_zip_next_1→E2,slot_str_count→E3,type_str_count→E4,entry_zip_next→E_,args_tuple_iterator_next_1→Ff,slot_enumerate_iter→Fo,entry_tuple_iterator_next→Fp,args_str_split_2→FJ,entry_str_split→F3,slot_str_split→F_
open PySem.Heap renaming get?_push_of_some→ρ,lt_size→Β,get?_push_size→Λ,size_push→j0,SameBut→C1,get?_push_ne→EZ,size_update→E8
open PySem.NameKind renaming free→Ϗ,cell→j6
open PySem.Obj renaming mapSeq→ES
open PySem.PassesOwn renaming never→Ϯ
open PySem.SeqAt renaming EqAt→ϝ,RcAt→Gw
open PySem.SeqAt.EqAt renaming int_str→Fq,str_int→Fu,same→Gi
open PySem.Shared renaming heap→Go
open PySem.Str renaming ofString→γ,join→ύ,empty_append→ϯ,empty→d_,append_assoc→q_
open PySem.StrLaws renaming subAt_eq→C5
open PySem.Value renaming ref→ώ,str→k_,int→y9,none→A1,type→Fv,bool→Gs
open PySem.Value.type renaming inj→Μ
open PySem.W renaming Frag→ε,nsIn→ϓ,mg_of→ϙ,mg_none_of→Ϡ,findIn→Ϥ,keepIn→ϥ,kitOne→a8,kia_one→e9,emptyDict→i9,fnOf→j3,instObj→m_,codeIn→r_,plainGet→C2,isFn→C3,callWith_K→EQ,hasDictIn→EV,kitCls→E1,plainGet_of→Fj,lookIn→Fy,methodObj→FR,plainOver→FX,takerIn→Gf,makesIn→Gg,OpenLaw→Gj
open PySem.W.KT renaming app_list→Fm
open PySem.W.KasT renaming kasWp_bind→EK
open Sum renaming inr→Ϧ,inl→Gb
open True renaming intro→A5
theorem Q9{p:Prop}[i:Decidable p](h:p):decide p=true:=decide_eq_true h
theorem Q8{p:Prop}[i:Decidable p](h:¬p):decide p=false:=decide_eq_false h
theorem Q7{p:Prop}[i:Decidable p](h:decide p=true):p:=of_decide_eq_true h
theorem Q6{c:Prop}{h:Decidable c}(k:¬c){α:Sort u}{t e:α}:ite c t e=e:=if_neg k
theorem Q5{c:Prop}{h:Decidable c}(k:c){α:Sort u}{t e:α}:ite c t e=t:=if_pos k
namespace L2
open PySem PySem.Spec PyProof.Rows
abbrev Key:=Sum Int Str
def nG:Key->ζ->Bool
 |.inl k,v=>ζ.isInt k v
 |.inr x,v=>ζ.isStrOf x v
def Eh(w:Ρ):Key->Int
 |.inl k=>hashInt k
 |.inr x=>hashStr w x
theorem bg:∀{k:Key}{v:ζ},nG k v=true->(∃i t,k=Gb i/\v=y9 i t)\/(∃x t,k=Ϧ x/\v=k_ x t)
 |.inl i,v,h=>by
  obtain⟨t,e⟩:=ζ.isInt_shape (k:=i) (v:=v) h
  exact .inl ⟨i,t,rfl,e⟩
 |.inr x,v,h=>by
  obtain⟨t,e⟩:=ζ.isStrOf_shape (x:=x) (v:=v) h
  exact .inr ⟨x,t,rfl,e⟩
theorem wK(i:Int)(t:Tok):nG (.inl i) (.int i t)=true:=by simp[nG,ζ.isInt]
theorem xm(x:Str)(t:Tok):nG (.inr x) (.str x t)=true:=by simp[nG,ζ.isStrOf]
theorem BC(a b:Int):decide ((Gb a:Key)=Gb b)=(a==b):=by
 by_cases e:a=b
 ·subst e;simp
 ·have h:¬ (Gb a:Key)=Gb b:=λq=>e (Gb.inj q)
  rw[Q8 h]
  exact(beq_eq_false_iff_ne.mpr e).symm
theorem Cq(a b:Str):decide ((Ϧ a:Key)=Ϧ b)=decide (a=b):=by
 by_cases e:a=b
 ·subst e;simp
 ·have h:¬ (Ϧ a:Key)=Ϧ b:=λq=>e (Ϧ.inj q)
  rw[Q8 h,Q8 e]
theorem BS(a:Int)(b:Str):decide ((Gb a:Key)=Ϧ b)=false:=Q8 (λq=>nomatch q)
theorem BJ(a:Str)(b:Int):decide ((Ϧ a:Key)=Gb b)=false:=Q8 (λq=>nomatch q)
def aS(prog:χ)(w:Ρ):PySem.KeyKind prog w Key where
 is:=nG
 hash:=Eh w
 inj:=λv a b ha hb=>by
  rcases bg ha with ⟨i,t,rfl,rfl⟩|⟨x,t,rfl,rfl⟩
  ·rcases bg hb with ⟨j,u,rfl,e⟩|⟨y,u,rfl,e⟩
   ·injection e with e1 _;rw[e1]
   ·exact nomatch e
  ·rcases bg hb with ⟨j,u,rfl,e⟩|⟨y,u,rfl,e⟩
   ·exact nomatch e
   ·injection e with e1 _;rw[e1]
 byValue:=λk v h=>by
   rcases bg h with ⟨i,t,rfl,rfl⟩|⟨x,t,rfl,rfl⟩<;>rfl
 pyHash:=λhv h=>by
  rcases bg hv with ⟨i,t,rfl,rfl⟩|⟨x,t,rfl,rfl⟩
  ·exact wpAny_pyHash_int h
  ·exact wpAny_pyHash_str h
 eqBool:=λhu hv h=>by
  rcases bg hu with ⟨i,t,rfl,rfl⟩|⟨x,t,rfl,rfl⟩
  ·rcases bg hv with ⟨j,u,rfl,rfl⟩|⟨y,u,rfl,rfl⟩
   ·rw[BC]at h;exact wpAny_eqBool_int h
   ·rw[BS]at h;exact Fq i t y u _ _ _ _ h
  ·rcases bg hv with ⟨j,u,rfl,rfl⟩|⟨y,u,rfl,rfl⟩
   ·rw[BJ]at h;exact Fu x t j u _ _ _ _ h
   ·rw[Cq]at h;exact wpAny_eqBool_str h
 «strs»:=λk x t v h=>by
  rcases bg h with ⟨i,u,rfl,e⟩|⟨y,u,rfl,e⟩
  ·exact nomatch e
  ·injection e with e1 _
   subst e1
   cases v<;>rfl
theorem qE(prog:χ)(w:Ρ)(i:Int)(t:Tok):(aS prog w).is (.inl i) (.int i t)=true:=wK i t
theorem fC(prog:χ)(w:Ρ)(x:Str)(t:Tok):(aS prog w).is (.inr x) (.str x t)=true:=xm x t
inductive V where
 |non|bl (b:Bool)|int (i:Int)|str (x:Str)|byt (b:Array UInt8)|flt (b:UInt64)|ref (a:Addr)|ty (n:String)
 deriving DecidableEq
def aL:V->ζ->Prop
 |.non,u=>u=A1
 |.bl b,u=>u=Gs b
 |.int i,u=>∃t,u=y9 i t
 |.str x,u=>∃t,u=k_ x t
 |.byt b,u=>∃t,u=ζ.bytes b t
 |.flt b,u=>∃t,u=ζ.float b t
 |.ref a,u=>u=ώ a
 |.ty n,u=>u=Fv n
abbrev aF:List V->List ζ->Prop:=Paired aL
theorem aF.length{xs:List V}{us:List ζ}(r:aF xs us):xs.length=us.length:=Paired.length r
theorem aF.get:∀{xs:List V}{us:List ζ}{i:Nat}{x:V},aF xs us->xs[i]?=some x->∃u,us[i]?=some u/\aL x u
 |_,_,_,_,.nil,e=>by simp at e
 |_,_,0,_,.cons r _,e=>by simp at e;subst e;exact⟨_,rfl,r⟩
 |_,_,i+1,x,.cons _ t,e=>by
  obtain⟨u,h1,h2⟩:=aF.get (i:=i) (x:=x) t (by simpa using e)
  exact⟨u,by simpa using h1,h2⟩
theorem aF.set{x:V}{u:ζ}(r:aL x u):∀{xs:List V}{us:List ζ}(i:Nat),aF xs us->aF (xs.set i x) (us.set i u)
 |_,_,_,.nil=>.nil
 |_,_,0,.cons _ t=>.cons r t
 |_,_,i+1,.cons q t=>.cons q (aF.set r i t)
theorem aF.append:∀{xs ys:List V}{us ws:List ζ},aF xs us->aF ys ws->aF (xs++ys) (us++ws)
 |_,_,_,_,.nil,s=>s
 |_,_,_,_,.cons r t,s=>.cons r (aF.append t s)
theorem aF.take:∀{xs:List V}{us:List ζ}(n:Nat),aF xs us->aF (xs.take n) (us.take n)
 |_,_,0,_=>.nil
 |_,_,_+1,.nil=>.nil
 |_,_,n+1,.cons r t=>.cons r (aF.take n t)
theorem aF.drop:∀{xs:List V}{us:List ζ}(n:Nat),aF xs us->aF (xs.drop n) (us.drop n)
 |_,_,0,r=>r
 |_,_,_+1,.nil=>.nil
 |_,_,n+1,.cons _ t=>aF.drop n t
def iW:Option V->Option ζ->Prop
 |some v,some u=>aL v u
 |none,none=>True
 |_,_=>False
def KV{κ:Type}:List (κ×V)->List (κ×ζ)->Prop:=Paired λ(p:κ×V) (q:κ×ζ)=>p.1=q.1/\aL p.2 q.2
def kV:Key->V
 |.inl i=>.int i
 |.inr x=>.str x
inductive HO where
 |lst (xs:List V)
 |tup (xs:List V)
 |dK (kvs:List (Key×V))|dT (kvs:List (List Key×V))
 |set (S:Int->Bool) (n:Nat)
 |ins (C dx:Addr) (fs:List (Str×V))
 |own (x:Addr)
 |xd (fs:List (Str×V))
 |met (f x:Addr)
 |rng (lo hi:Int)
 |frz (o:Obj) (u:HO)
 |tbl (ps:Array ζ)
 |ext (φ:Heap->Prop)
abbrev Hp:=Addr->Option HO
def upd(H:Hp)(a:Addr)(o:HO):Hp:=λb=>if b=a then some o else H b
theorem aa{H:Hp}{a:Addr}{o:HO}:upd H a o a=some o:=by unfold upd;rw[Q5 rfl]
theorem ao{H:Hp}{a b:Addr}{o:HO}(h:b≠a):upd H a o b=H b:=by unfold upd;rw[Q6 h]
theorem CH{H:Hp}{a b:Addr}{o u:HO}(h:H a=some o)(h':H b=some u)(d:o≠u):a≠b:=by
 intro e;subst e;rw[h]at h';exact d (Ϛ h')
theorem ah{H:Hp}{a b:Addr}{o:HO}(h:H a=some o)(h':H b=none):a≠b:=by
 intro e;subst e;rw[h]at h';cases h'
def NoD(h:Heap)(a:Addr):Prop:=∃o,h.get? a=some o/\o.dict=none
theorem NoD.new(h:Heap){o:Obj}(e:o.dict=none)(f:o.isFreed=false:=by rfl):NoD (h.push o) h.objs.size:=⟨_,Λ _ f,e⟩
section
variable(P:χ)(w:Ρ)
def bf(H:Hp)(h:Heap)(a:Addr):HO->Prop
 |.lst xs=>xs.length<=sizeLine/\∃(its:List ζ) (n:Nat),aF xs its/\h.get? a=some {cls:=.type "list",data:=.seq its.toArray n}
 |.tup xs=>xs.length<=sizeLine/\∃its:List ζ,aF xs its/\GB h a its.toArray/\NoD h a
 |.dK kvs=>kvs.length<=sizeLine/\(a==sysModules)=false/\∃vs,KV kvs vs/\h.DictOf (aS P w) a vs
 |.dT kvs=>kvs.length<=sizeLine/\(a==sysModules)=false/\∃xs:List (List Key×Addr×ζ),
   Paired (λ(p:List Key×V) (q:List Key×Addr×ζ)=>p.1=q.1/\H q.2.1=some (.tup (p.1.map kV))/\aL p.2 q.2.2) kvs xs /\
   ∃o es ep,h.get? a=some o/\o.ExactDict/\o.data=.dict es ep/\es.toList=xs.map (entryOfKey (tupleKind (aS P w)))/\(xs.map (·.1)).Nodup
 |.set S n=>h.SetOf (intKind P w) a S n
 |.ins C dx fs=>H dx=some (.own a)/\fs.length<=1000/\dx≠a/\h.get? a=some (m_ C dx) /\
   ∃mA,h.Ns1 dx mA/\(∀f,iW (fs.lookup f) (mA f))/\Gc mA (fs.map (·.1))
 |.own _=>∃o,h.get? a=some o
 |.xd fs=>∃mA,h.Ns1 a mA/\∀f,iW (fs.lookup f) (mA f)
 |.rng lo hi=>∃t u v,h.get? a=some {cls:=.type "range",data:=.fields #[.int lo t,.int hi u,.int 1 v]}
 |.frz o u=>h.get? a=some o/\bf H h a u
 |.tbl ps=>h.get? a=some {cls:=.none,data:=.fields ps}
 |.met f x=>h.get? a=some (FR (.ref f) (.ref x))
 |.ext φ=>φ h/\(∃o,h.get? a=some o)/\∀h1 h2:Heap,φ h1->(∀o,h1.get? a=some o->h2.get? a=some o)->φ h2
def HOk(H:Hp)(h:Heap):Prop:=∀a o,H a=some o->bf P w H h a o
end
section
variable{P:χ}{w:Ρ}{H H':Hp}{h h':Heap}{a:Addr}{o:HO}
theorem bf.lt(x:bf P w H h a o):a<h.objs.size:=by
 cases o with
 |lst xs=>obtain⟨_,_,_,_,e⟩:=x;exact Β e
 |tup xs=>obtain⟨_,_,_,p⟩:=x;exact p.1.lt
 |dK kvs=>obtain⟨_,_,_,_,o,_,_,e,_⟩:=x;exact Β e
 |dT kvs=>obtain⟨_,_,_,_,o,_,_,e,_⟩:=x;exact Β e
 |set S n=>obtain⟨o,_,_,_,e,_⟩:=x;exact Β e
 |ins C dx fs=>obtain⟨_,_,_,e,_⟩:=x;exact Β e
 |own y=>obtain⟨_,e⟩:=x;exact Β e
 |xd fs=>obtain⟨_,⟨_,_,_,e,_⟩,_⟩:=x;exact Β e
 |rng lo hi=>obtain⟨_,_,_,e⟩:=x;exact Β e
 |frz ob u=>obtain⟨e,_⟩:=x;exact Β e
 |tbl ps=>exact Β (show h.get? a=some _ from x)
 |met f y=>exact Β (show h.get? a=some _ from x)
 |ext φ=>obtain⟨_,⟨_,e⟩,_⟩:=x;exact Β e
theorem Paired.mapP{α β:Type}{F G:α->β->Prop}:∀{l₁:List α}{l₂:List β},Paired F l₁ l₂->(∀a b,F a b->G a b)->Paired G l₁ l₂
 |_,_,.nil,_=>.nil
 |_,_,.cons r t,f=>.cons (f _ _ r) (Paired.mapP t f)
theorem bf.stay(x:bf P w H h a o)(k:∀b u,(b=a\/H b=some (.own a))->h.get? b=some u->h'.get? b=some u)
  (ho:∀b,H b=some (.own a)->H' b=some (.own a)) (ht:∀b xs,H b=some (.tup xs)->H' b=some (.tup xs)):bf P w H' h' a o:=by
 induction o with
 |lst xs=>obtain⟨z,its,n,r,e⟩:=x;exact⟨z,its,n,r,k _ _ (.inl rfl) e⟩
 |tup xs=>obtain⟨z,its,r,⟨ob,e,c⟩,od,e2,c2⟩:=x;exact⟨z,its,r,⟨ob,k _ _ (.inl rfl) e,c⟩,od,k _ _ (.inl rfl) e2,c2⟩
 |dK kvs=>obtain⟨z,y,vs,r,ob,es,ep,e,c⟩:=x;exact⟨z,y,vs,r,ob,es,ep,k _ _ (.inl rfl) e,c⟩
 |dT kvs=>
  obtain⟨z,y,xs,r,ob,es,ep,e,c⟩:=x
  exact⟨z,y,xs,Paired.mapP r λp q z=>⟨z.1,ht _ _ z.2.1,z.2.2⟩,ob,es,ep,k _ _ (.inl rfl) e,c⟩
 |set S n=>obtain⟨ob,es,ep,t,e,c⟩:=x;exact⟨ob,es,ep,t,k _ _ (.inl rfl) e,c⟩
 |ins C dx fs=>
  obtain⟨d,z,ne,e,mA,⟨od,es,ep,e2,c⟩,r⟩:=x
  exact⟨ho _ d,z,ne,k _ _ (.inl rfl) e,mA,⟨od,es,ep,k _ _ (.inr d) e2,c⟩,r⟩
 |own y=>obtain⟨ob,e⟩:=x;exact⟨ob,k _ _ (.inl rfl) e⟩
 |xd fs=>obtain⟨mA,⟨od,es,ep,e,c⟩,r⟩:=x;exact⟨mA,⟨od,es,ep,k _ _ (.inl rfl) e,c⟩,r⟩
 |rng lo hi=>obtain⟨t,u,v,e⟩:=x;exact⟨t,u,v,k _ _ (.inl rfl) e⟩
 |frz ob u ih=>obtain⟨e,q⟩:=x;exact⟨k _ _ (.inl rfl) e,ih q⟩
 |tbl ps=>
  have e:h.get? a=some {cls:=.none,data:=.fields ps}:=x
  show h'.get? a=some {cls:=.none,data:=.fields ps}
  exact k a _ (.inl rfl) e
 |met f y=>
  have e:h.get? a=some (FR (.ref f) (.ref y)):=x
  show h'.get? a=some (FR (.ref f) (.ref y))
  exact k a _ (.inl rfl) e
 |ext φ=>obtain⟨p,⟨o,e⟩,st⟩:=x;exact⟨st _ _ p λo q=>k _ _ (.inl rfl) q,⟨o,k _ _ (.inl rfl) e⟩,st⟩
theorem HOk.lt(x:HOk P w H h)(e:H a=some o):a<h.objs.size:=(x a o e).lt
theorem HOk.fresh(x:HOk P w H h)(e:h.objs.size<=a):H a=none:=by
 cases q:H a with
 |none=>rfl
 |some u=>exact absurd (ϛ (x.lt q) e) (x9 _)
theorem HOk.kept(x:HOk P w H h)(k:∀b u,h.get? b=some u->h'.get? b=some u):HOk P w H h':=λa o e=>
 (x a o e).stay (λb u _ q=>k b u q) (λ_ q=>q) λ_ _ q=>q
theorem HOk.laid(x:HOk P w H h)(k:∀b u,h.get? b=some u->h'.get? b=some u)(hp:h.objs.size<=a)(new:bf P w (upd H a o) h' a o):HOk P w (upd H a o) h':=λb u e=>by
 have hn:=x.fresh hp
 by_cases hb:b=a
 ·subst hb;rw[aa]at e;cases e;exact new
 ·rw[ao hb]at e
  exact(x b u e).stay (λc v _ q=>k c v q) (λc q=>by rw[ao (ah q hn)];exact q) λc xs q=>by rw[ao (ah q hn)];exact q
end
def Rd(H:Hp)(a:Addr)(u:HO):Prop:=H a=some u\/∃o,H a=some (.frz o u)
theorem Rd.ok{P:χ}{w:Ρ}{H:Hp}{h:Heap}{a:Addr}{u:HO}(r:Rd H a u)(x:HOk P w H h):bf P w H h a u:=by
 rcases r with r|⟨o,r⟩
 ·exact x a u r
 ·obtain⟨_,q⟩:=x a _ r
  exact q
def Mut:Option HO->Prop
 |some (.lst _)=>True
 |some (.dK _)=>True
 |some (.dT _)=>True
 |some (.set _ _)=>True
 |some (.ins _ _ _)=>True
 |some (.ext _)=>True
 |_=>False
section
variable{P:χ}{w:Ρ}{H:Hp}{h h':Heap}{x e:Addr}{o':HO}
theorem HOk.write(ok:HOk P w H h)(mu:Mut (H x))(he:e=x\/H e=some (.own x))(k:∀b u,b≠e->h.get? b=some u->h'.get? b=some u)(heo:∃u,h'.get? e=some u)
  (new:bf P w (upd H x o') h' x o'):HOk P w (upd H x o') h':=λb u q=>by
 have nown:∀c y,H c=some (.own y)->c≠x:=λc y r z=>by subst z;rw[r]at mu;exact mu
 have ntup:∀c xs,H c=some (.tup xs)->c≠x:=λc xs r z=>by subst z;rw[r]at mu;exact mu
 by_cases hb:b=x
 ·subst hb;rw[aa]at q;cases q;exact new
 ·rw[ao hb]at q
  by_cases hbe:b=e
  ·have q':H b=some (.own x):=by
    rcases he with z|z
    ·exact absurd (hbe.trans z) hb
    ·rw[hbe];exact z
   rw[q]at q';cases q'
   obtain⟨v,hv⟩:=heo
   exact⟨v,by rw[hbe];exact hv⟩
  ·refine(ok b u q).stay (λc v hc r=>k c v ?_ r) (λc r=>by rw[ao (nown c b r)];exact r) λc xs r=>by rw[ao (ntup c xs r)];exact r
   rcases hc with rfl|hc
   ·exact hbe
   ·rintro rfl
    rcases he with z|z
    ·exact nown c b hc z
    ·rw[hc]at z;cases z;exact hb rfl
end
structure Un(fs ex:List Addr)(H H':Hp)(h h':Heap):Prop where
 keep:∀b o,h.get? b=some o->H b=none->b∉fs->b∉ex->h'.get? b=some o
 slot:∀b o,h.get? b=some o->H b=none->b∈fs->b∉ex->∃sl,h'.get? b=some {o with slots:=sl}
 free:∀b o,h.get? b=some o->H b=none->b∉ex->H' b=none
 there:∀b o,h.get? b=some o->b∉ex->∃o',h'.get? b=some o'
 tups:∀b xs,H b=some (.tup xs)->H' b=some (.tup xs)
 frzs:∀b o u,H b=some (.frz o u)->H' b=some (.frz o u)
 tbls:∀b ps,H b=some (.tbl ps)->∃more,H' b=some (.tbl (ps++more))
section
variable{fs fs' ex ex':List Addr}{H H1 H2:Hp}{h h1 h2 h':Heap}{a x e:Addr}{o:HO}
theorem Un.any(u:Un fs ex H H1 h h1){b:Addr}{ob:Obj}(q:h.get? b=some ob)(n:H b=none)(hx:b∉ex):∃sl,h1.get? b=some {ob with slots:=sl}:=by
 by_cases hb:b∈fs
 ·exact u.slot b ob q n hb hx
 ·exact⟨ob.slots,u.keep b ob q n hb hx⟩
theorem Un.kept(k:∀b u,h.get? b=some u->h'.get? b=some u):Un fs ex H H h h':=
 ⟨λb ob q _ _ _=>k b ob q,λb ob q _ _ _=>⟨ob.slots,k b ob q⟩,λ_ _ _ n _=>n,λb ob q _=>⟨ob,k b ob q⟩,λ_ _ q=>q,λ_ _ _ q=>q,λ_ ps q=>⟨#[],by rw[q];simp⟩⟩
theorem Un.refl:Un fs ex H H h h:=Un.kept λ_ _ q=>q
theorem Un.laid(k:∀b u,h.get? b=some u->h'.get? b=some u)(hp:h.objs.size<=a)(hn:H a=none):Un fs ex H (upd H a o) h h' where
 keep:=λb u q _ _ _=>k b u q
 slot:=λb u q _ _ _=>⟨u.slots,k b u q⟩
 free:=λb u q n _=>by rw[ao (Ϣ (ϛ (Β q) hp))];exact n
 there:=λb u q _=>⟨u,k b u q⟩
 tups:=λb xs q=>by rw[ao (ah q hn)];exact q
 frzs:=λb u xs q=>by rw[ao (ah q hn)];exact q
 tbls:=λb ps q=>⟨#[],by rw[ao (ah q hn),q];simp⟩
theorem Un.write(mu:Mut (H x))(he:e=x\/H e=some (.own x))(k:∀b u,b≠e->h.get? b=some u->h'.get? b=some u)(heo:∃u,h'.get? e=some u):Un fs ex H (upd H x o) h h':=by
 have hx:∀b,H b=none->b≠x:=λb n z=>by subst z;rw[n]at mu;exact mu
 have hb:∀b,H b=none->b≠e:=λb n z=>by
  subst z
  rcases he with r|r
  ·exact hx b n r
  ·rw[n]at r;cases r
 have hm:∀b u,H b=some u->¬ Mut (some u)->b≠x:=λb u q nm z=>by subst z;rw[q]at mu;exact nm mu
 refine⟨λb u q n _ _=>k b u (hb b n) q,λb u q n _ _=>⟨u.slots,k b u (hb b n) q⟩,λb u q n _=>by rw[ao (hx b n)];exact n,λb u q _=>?_,
  λb xs q=>by rw[ao (hm b _ q λz=>z)];exact q,λb u xs q=>by rw[ao (hm b _ q λz=>z)];exact q,λb ps q=>⟨#[],by rw[ao (hm b _ q λz=>z),q];simp⟩⟩
 by_cases hbe:b=e
 ·subst hbe;exact heo
 ·exact⟨u,k b u hbe q⟩
end
def trk(h:Heap)(H:Hp):List Addr:=(Ϝ h.objs.size).filter λa=>(H a).isSome
def oh(h:Heap)(H:Hp):Heap:=PySem.W.hideAll h (trk h H)
theorem wY(h:Heap)(H:Hp):(oh h H).objs.size=h.objs.size:=PySem.W.hideAll_size _ _
theorem xR{h:Heap}{H:Hp}{b:Addr}{o:Obj}(e:h.get? b=some o)(n:H b=none):(oh h H).get? b=some o:=
 PySem.W.hideAll_get _ e λhm=>by
  have q:(H b).isSome=true:=(A7.mp hm).2
  rw[n]at q;simp at q
theorem zw{h:Heap}{H:Hp}{b:Addr}{o:Obj}(e:(oh h H).get? b=some o):h.get? b=some o/\H b=none:=by
 have e':h.get? b=some o:=PySem.W.of_hideAll (trk h H) e
 refine⟨e',?_⟩
 cases q:H b with
 |none=>rfl
 |some x=>
  have hm:b∈trk h H:=A7.mpr ⟨y_.mpr (Β e'),by simp[q]⟩
  have z:(oh h H).get? b=none:=PySem.W.hideAll_none (trk h H) hm
  rw[z]at e;cases e
def jF(g h:Heap)(L:Addr):List (Addr×Obj):=(Ϝ h.objs.size).filterMap λa=>if a=L\/(g.get? a).isSome=true then none else (h.get? a).map λo=>(a,o)
theorem rH{g h:Heap}{L a:Addr}{o:Obj}(h1:a≠L)(h2:g.get? a=none)(h3:h.get? a=some o):(a,o)∈jF g h L:=
 EN.mpr ⟨a,y_.mpr (Β h3),by simp[h1,h2,h3]⟩
theorem jP{g h:Heap}{L:Addr}{p:Addr×Obj}(hp:p∈jF g h L):p.1≠L/\g.get? p.1=none/\h.get? p.1=some p.2:=by
 obtain⟨b,_,e⟩:=EN.mp hp
 split at e
 ·cases e
 ·rename_i hn
  cases q:h.get? b with
  |none=>rw[q]at e;simp at e
  |some u=>
   rw[q]at e
   simp only[Option.map_some,Option.some.injEq]at e
   subst e
   refine⟨λz=>hn (.inl z),?_,q⟩
   show g.get? b=none
   cases r:g.get? b with
   |none=>rfl
   |some v=>exact(hn (.inr (by simp[r]))).elim
theorem xC{g h:Heap}{L:Addr}:News g L h (jF g h L):=λp hp=>let ⟨a,b,c⟩:=jP hp;⟨c,a,b⟩
structure Mod(K:ε)(mg:Str->Option ζ)(base:Heap):Prop where
 kin:K.In base
 glob:base.Ns mainGlobals mg
 blt:∃mb,base.Ns builtinsNs mb/\∀x:Str,x≠"__name__"->mb x=bootBuiltins x
 nolimit:base.NoLimit
structure Cx where
 prog:χ
 w:Ρ
 K:ε
 mg:Str->Option ζ
 base:Heap
 A:ό
 N:List Str
 s₀:ι
 H₀:Hp
 env:Env
 outer:List Env
 stack:List Env
 ex:List Addr
 fn:Str->Bool
 calm:Bool
 pn:List (Addr×Obj)
 xe:ζ->ι->Prop
def frs(l:List Env):List Addr:=l.filterMap (·.frame)
abbrev Cx.fs(X:Cx):List Addr:=frs X.outer
def Vis(sc:EU)(x:Str):Prop:=sc.names.lookup x=some .local\/sc.names.lookup x=some .cell\/sc.names.lookup x=some .free
def Loc(sc:EU)(x:Str):Prop:=sc.names.lookup x=some .local\/sc.names.lookup x=some .cell
def Er(env:Env)(h:Heap)(m:Str->Option ζ)(x:Str)(u:ζ):Prop:=
 (env.kindOf x=some .local/\m x=some u)\/((env.kindOf x=some .cell\/env.kindOf x=some .free)/\∃c,env.cells.lookup x=some c/\h.IsCell c (some u))
structure Cx.Ok(X:Cx):Prop where
 mod:Mod X.K X.mg X.base
 kind:X.env.scope.kind=.function
 glob:X.env.globals=mainGlobals
 blt:X.env.builtins=builtinsNs
 above:X.s₀.heap.objs.size<=X.env.locals
 inj:∀x y c,X.env.cells.lookup x=some c->X.env.cells.lookup y=some c->x=y
 has:∀x,(X.env.kindOf x=some .cell\/X.env.kindOf x=some .free)->∃c,X.env.cells.lookup x=some c
 cab:∀x c,X.fn x=true->X.env.cells.lookup x=some c->X.s₀.heap.objs.size<=c
 hd:X.calm=true->X.A.handled=none
 frames:X.A.frames=some X.stack
 stk:X.stack=X.outer\/(X.stack=X.env::X.outer/\X.env.frame=some X.env.locals)
 exf:∀b∈X.ex,b≠X.env.locals/\∀x c,X.env.cells.lookup x=some c->c≠b
 bs:∀b o,X.base.get? b=some o->X.s₀.heap.get? b=some o/\X.H₀ b=none
 bsz:X.base.objs.size<=X.s₀.heap.objs.size
 noex:∀b o,X.base.get? b=some o->b∉X.ex
 exfs:∀b∈X.ex,b∉X.fs
 funs:X.s₀.heap.FunFrames X.base X.outer
 frf:∀b∈X.fs,X.H₀ b=none
structure Inv(X:Cx)(pins:List (Addr×Obj))(σ:List (Option V))(H:Hp)(s:ι):Prop where
 ok:X.Ok
 os:s.os=X.s₀.os
 bare:FT s.gens
 base:Un X.fs X.ex X.H₀ H X.s₀.heap s.heap
 loc:∃m,s.heap.Ns X.env.locals m/\∀(i:Nat)(x:Str)(v:V),X.N[i]?=some x->σ[i]?=some (some v)->Vis X.env.scope x->∃u,aL v u/\Er X.env s.heap m x u
 cell:∀x c,X.env.cells.lookup x=some c->∃v,s.heap.IsCell c v
 free:H X.env.locals=none
 freeC:∀x c,X.env.cells.lookup x=some c->H c=none
 pin:∀p∈X.pn++pins,s.heap.get? p.1=some p.2/\H p.1=none/\p.1≠X.env.locals/\p.1∉X.fs/\∀v,p.2.data≠.cell v
 hok:HOk X.prog X.w H s.heap
 len:σ.length=X.N.length
section
variable{X:Cx}{pins:List (Addr×Obj)}{σ:List (Option V)}{H H':Hp}{s:ι}{h':Heap}
theorem Cx.Ok.nofr(ok:X.Ok){b:Addr}{o:Obj}(e:X.base.get? b=some o):b∉X.fs:=λhb=>by
 have:=(ok.funs.mem hb).1
 rw[e]at this;cases this
theorem Inv.bs(I:Inv X pins σ H s):∀b o,X.base.get? b=some o->s.heap.get? b=some o/\H b=none:=λb o e=>
 ⟨I.base.keep b o (I.ok.bs b o e).1 (I.ok.bs b o e).2 (I.ok.nofr e) (I.ok.noex b o e),I.base.free b o (I.ok.bs b o e).1 (I.ok.bs b o e).2 (I.ok.noex b o e)⟩
theorem Inv.bk(I:Inv X pins σ H s):∀b o,X.base.get? b=some o->s.heap.get? b=some o:=λb o e=>(I.bs b o e).1
theorem Inv.mod(I:Inv X pins σ H s):Mod X.K X.mg X.base:=I.ok.mod
theorem Inv.kIn(I:Inv X pins σ H s):X.K.In s.heap:=I.ok.mod.kin.keeps I.bk
theorem Inv.lt(I:Inv X pins σ H s):X.env.locals<s.heap.objs.size:=let ⟨_,hn,_⟩:=I.loc;hn.lt
theorem Inv.sz(I:Inv X pins σ H s):X.s₀.heap.objs.size<=s.heap.objs.size:=a7 I.ok.above (u_ I.lt)
theorem Inv.nofs(I:Inv X pins σ H s){a:Addr}(h:s.heap.objs.size<=a):a∉X.fs:=λhb=>by
 obtain⟨_,o,ho,_⟩:=I.ok.funs.mem hb
 exact absurd (ϛ (Β ho) (a7 I.sz h)) (x9 _)
theorem Inv.cne(I:Inv X pins σ H s):∀x c,X.env.cells.lookup x=some c->c≠X.env.locals:=λx c e z=>by
 obtain⟨v,o,ho,hd⟩:=I.cell x c e
 obtain⟨m,⟨o',es,ep,ho',hd',_⟩,_⟩:=I.loc
 rw[z,ho']at ho;cases ho;rw[hd']at hd;cases hd
theorem Inv.funs(I:Inv X pins σ H s):s.heap.FunFrames X.base X.outer:=by
 have all:∀(l:List Env),(∀b∈frs l,b∈X.fs)->X.s₀.heap.FunFrames X.base l->s.heap.FunFrames X.base l:=by
  intro l
  induction l with
  |nil=>intro _ _;trivial
  |cons env r ih=>
   intro hs hl
   obtain⟨hk,⟨L,o,hf,hn,ho,hd⟩,hr⟩:=hl
   have hL:L∈X.fs:=hs L (by unfold frs;rw[y6,hf];exact ο)
   obtain⟨sl,e⟩:=I.base.slot L o ho (I.ok.frf L hL) hL λz=>I.ok.exfs L z hL
   exact⟨hk,⟨L,_,hf,hn,e,hd⟩,ih (λb hb=>hs b (by unfold frs;rw[y6,hf];exact Ε _ hb)) hr⟩
 exact all X.outer (λ_ hb=>hb) I.ok.funs
theorem Inv.stack(I:Inv X pins σ H s):s.heap.FunFrames X.base X.stack:=by
 rcases I.ok.stk with e|⟨e,hf⟩
 ·rw[e];exact I.funs
 ·rw[e]
  obtain⟨m,hn,_⟩:=I.loc
  refine .cons (by rw[I.ok.kind];decide) hf hn ?_ I.funs
  exact Heap.get?_none_of_le (a7 I.ok.bsz I.ok.above)
theorem Inv.stkSub(I:Inv X pins σ H s):∀b∈frs X.stack,b∈X.env.locals::X.fs:=λb hb=>by
 rcases I.ok.stk with e|⟨e,hf⟩
 ·rw[e]at hb;exact Ε _ hb
 ·rw[e]at hb
  unfold frs at hb
  rw[y6,hf]at hb
  exact hb
theorem Inv.stkFree(I:Inv X pins σ H s):∀b∈frs X.stack,H b=none:=λb hb=>by
 rcases ν.mp (I.stkSub b hb)with e|hb
 ·rw[e];exact I.free
 ·obtain⟨_,o,ho,_⟩:=I.ok.funs.mem hb
  exact I.base.free b o ho (I.ok.frf b hb) λz=>I.ok.exfs b z hb
theorem Inv.step{g':Array C9}{t':Nat}{d':GA}{ch:List Addr}(I:Inv X pins σ H s)
  (hch:∀b∈ch,(b∈X.ex\/X.s₀.heap.objs.size<=b)/\b≠X.env.locals/\(∀x c,X.env.cells.lookup x=some c->c≠b)/\∀p∈X.pn++pins,p.1≠b)
  (keep:∀b o,b≠X.env.locals->b∉X.fs->b∉ch->s.heap.get? b=some o->H b=none->h'.get? b=some o)
  (slot:∀b o,b≠X.env.locals->b∈X.fs->b∉ch->s.heap.get? b=some o->H b=none->∃sl,h'.get? b=some {o with slots:=sl}) (free:∀b o,b∉ch->s.heap.get? b=some o->H b=none->H' b=none)
  (there:∀b o,b∉ch->s.heap.get? b=some o->∃o',h'.get? b=some o')
  (tups:∀b xs,H b=some (.tup xs)->H' b=some (.tup xs)) (frzs:∀b o u,H b=some (.frz o u)->H' b=some (.frz o u)) (tbls:∀b ps,H b=some (.tbl ps)->∃more,H' b=some (.tbl (ps++more)))
  (ns:∀m,s.heap.Ns X.env.locals m->h'.Ns X.env.locals m) (hok:HOk X.prog X.w H' h') (hg:FT g'):
  Inv X pins σ H' {s with heap:=h',gens:=g',drawn:=d',toks:=t'}:=by
 have neL:∀b o,X.s₀.heap.get? b=some o->b≠X.env.locals:=λb o e=>Ϣ (ϛ (Β e) I.ok.above)
 have neC:∀b o,X.s₀.heap.get? b=some o->b∉X.ex->b∉ch:=λb o e hx hb=>by
  rcases(hch b hb).1 with z|z
  ·exact hx z
  ·exact absurd (ϛ (Β e) z) (x9 _)
 have cellK:∀x c,X.env.cells.lookup x=some c->∀v,s.heap.IsCell c v->h'.IsCell c v:=λx c e v ⟨o,ho,hd⟩=>by
  have nch:c∉ch:=λz=>(hch c z).2.2.1 x c e rfl
  by_cases hc:c∈X.fs
  ·obtain⟨sl,q⟩:=slot c o (I.cne x c e) hc nch ho (I.freeC x c e)
   exact⟨_,q,hd⟩
  ·exact⟨o,keep c o (I.cne x c e) hc nch ho (I.freeC x c e),hd⟩
 refine⟨I.ok,I.os,hg,⟨λb o e n hb hx=>?_,λb o e n hb hx=>?_,λb o e n hx=>?_,λb o e hx=>?_,λb xs e=>tups b xs (I.base.tups b xs e),λb o xs e=>frzs b o xs (I.base.frzs b o xs e),λb ps e=>?_⟩,?_,λx c e=>?_,?_,λx c e=>?_,λp hp=>?_,hok,I.len⟩
 ·exact keep b o (neL b o e) hb (neC b o e hx) (I.base.keep b o e n hb hx) (I.base.free b o e n hx)
 ·obtain⟨sl,e1⟩:=I.base.slot b o e n hb hx
  obtain⟨sl',e2⟩:=slot b _ (neL b o e) hb (neC b o e hx) e1 (I.base.free b o e n hx)
  exact⟨sl',e2⟩
 ·obtain⟨o',e1⟩:=I.base.there b o e hx
  exact free b o' (neC b o e hx) e1 (I.base.free b o e n hx)
 ·obtain⟨o',e1⟩:=I.base.there b o e hx
  exact there b o' (neC b o e hx) e1
 ·obtain⟨m1,e1⟩:=I.base.tbls b ps e
  obtain⟨m2,e2⟩:=tbls b _ e1
  exact⟨m1++m2,by rw[e2,Array.append_assoc]⟩
 ·obtain⟨m,hn,hl⟩:=I.loc
  refine⟨m,ns m hn,λi x v e1 e2 e3=>?_⟩
  obtain⟨u,r,l⟩:=hl i x v e1 e2 e3
  refine⟨u,r,?_⟩
  rcases l with l|⟨k,c,e,z⟩
  ·exact .inl l
  ·exact .inr ⟨k,c,e,cellK x c e _ z⟩
 ·obtain⟨v,z⟩:=I.cell x c e
  exact⟨v,cellK x c e v z⟩
 ·obtain⟨m,⟨o,_,_,ho,_⟩,_⟩:=I.loc
  exact free _ o (λz=>(hch _ z).2.1 rfl) ho I.free
 ·obtain⟨v,o,ho,hd⟩:=I.cell x c e
  exact free c o (λz=>(hch c z).2.2.1 x c e rfl) ho (I.freeC x c e)
 ·obtain⟨e,n,ne,nf,d⟩:=I.pin p hp
  have nch:p.1∉ch:=λz=>(hch p.1 z).2.2.2 p hp rfl
  exact⟨keep p.1 p.2 ne nf nch e n,free p.1 p.2 nch e n,ne,nf,d⟩
theorem Inv.un{t':Nat}(I:Inv X pins σ H s)(u:Un X.fs [] H H' s.heap h')(hok:HOk X.prog X.w H' h'):Inv X pins σ H' {s with heap:=h',toks:=t'}:=by
 obtain⟨m,⟨o,es,ep,ho,r⟩,_⟩:=id I.loc
 obtain⟨sl,hL⟩:=u.any ho I.free ()
 exact I.step (g':=s.gens) (d':=s.drawn) (ch:=[]) (λ_ z=>nomatch z) (λb o _ hb _ e n=>u.keep b o e n hb ()) (λb o _ hb _ e n=>u.slot b o e n hb ()) (λb o _ e n=>u.free b o e n ()) (λb o _ e=>u.there b o e ()) u.tups u.frzs u.tbls (λm' hm=>by
  obtain⟨o',es',ep',ho',r'⟩:=hm
  rw[ho]at ho';cases ho'
  exact⟨_,es',ep',hL,r'⟩) hok I.bare
theorem Inv.call{g':Array C9}{t':Nat}{d':GA}{ch:List Addr}(I:Inv X pins σ H s)(u:Un (frs X.stack) ch H H' s.heap h')(hok:HOk X.prog X.w H' h')(hg:FT g')
  (hch:∀b∈ch,(b∈X.ex\/X.s₀.heap.objs.size<=b)/\b≠X.env.locals/\(∀x c,X.env.cells.lookup x=some c->c≠b)/\∀p∈X.pn++pins,p.1≠b):
  Inv X pins σ H' {s with heap:=h',gens:=g',drawn:=d',toks:=t'}:=by
 obtain⟨m,⟨o,es,ep,ho,r⟩,_⟩:=id I.loc
 obtain⟨sl,hL⟩:=u.any ho I.free λz=>(hch _ z).2.1 rfl
 exact I.step (ch:=ch) hch (λb o hL hb hc e n=>u.keep b o e n (λz=>(ν.mp (I.stkSub b z)).elim hL hb) hc) (λb o _ _ hc e n=>u.any e n hc) (λb o hc e n=>u.free b o e n hc) (λb o hc e=>u.there b o e hc) u.tups u.frzs u.tbls (λm' hm=>by
  obtain⟨o',es',ep',ho',r'⟩:=hm
  rw[ho]at ho';cases ho'
  exact⟨_,es',ep',hL,r'⟩) hok hg
theorem Inv.turned{t':Nat}{it:Addr}(I:Inv X pins σ H s)(k:∀b o,b≠it->s.heap.get? b=some o->h'.get? b=some o)(hn:H it=none)(hL:it≠X.env.locals)
  (h1:it∈X.ex\/X.s₀.heap.objs.size<=it) (h2:∀x c,X.env.cells.lookup x=some c->c≠it) (h3:∀p∈X.pn++pins,p.1≠it):Inv X pins σ H {s with heap:=h',toks:=t'}:=by
 have nit:∀b u,H b=some u->b≠it:=λb u e z=>by rw[z,hn]at e;cases e
 refine I.step (g':=s.gens) (d':=s.drawn) (ch:=[it]) (λb hb=>?_) (λb o _ _ hc e _=>k b o (λz=>hc (by simp[z])) e) (λb o _ _ hc e _=>⟨o.slots,k b o (λz=>hc (by simp[z])) e⟩) (λ_ _ _ _ n=>n)
  (λb o hc e=>⟨o,k b o (λz=>hc (by simp[z])) e⟩) (λ_ _ e=>e) (λ_ _ _ e=>e) (λb ps e=>⟨#[],by rw[e];simp⟩) (λm hm=>?_) (λb u e=>?_) I.bare
 ·have e:b=it:=by simpa using hb
  subst e
  exact⟨h1,hL,h2,h3⟩
 ·obtain⟨o,es,ep,ho,r⟩:=hm
  exact⟨o,es,ep,k _ o (ϋ hL) ho,r⟩
 ·refine(I.hok b u e).stay (λc v hc q=>k c v ?_ q) (λ_ q=>q) λ_ _ q=>q
  rcases hc with z|z
  ·rw[z];exact nit b u e
  ·exact nit c _ z
theorem Inv.tok(I:Inv X pins σ H s)(t:Nat):Inv X pins σ H {s with toks:=t}:=I.un (h':=s.heap) (t':=t) Un.refl I.hok
theorem Inv.kept{t':Nat}(I:Inv X pins σ H s)(k:∀b u,s.heap.get? b=some u->h'.get? b=some u):Inv X pins σ H {s with heap:=h',toks:=t'}:=I.un (Un.kept k) (I.hok.kept k)
theorem Inv.laid{a:Addr}{o:HO}{t':Nat}(I:Inv X pins σ H s)(k:∀b u,s.heap.get? b=some u->h'.get? b=some u)(hp:s.heap.objs.size<=a)(new:bf X.prog X.w (upd H a o) h' a o):
  Inv X pins σ (upd H a o) {s with heap:=h',toks:=t'}:=I.un (Un.laid k hp (I.hok.fresh hp)) (I.hok.laid k hp new)
theorem Inv.write{x e:Addr}{o:HO}{t':Nat}(I:Inv X pins σ H s)(mu:Mut (H x))(he:e=x\/H e=some (.own x))(k:∀b u,b≠e->s.heap.get? b=some u->h'.get? b=some u)(heo:∃u,h'.get? e=some u)
  (new:bf X.prog X.w (upd H x o) h' x o):Inv X pins σ (upd H x o) {s with heap:=h',toks:=t'}:=I.un (Un.write mu he k heo) (I.hok.write mu he k heo new)
theorem Inv.weak{σ':List (Option V)}(I:Inv X pins σ H s)(hl:σ'.length=σ.length)(w:∀(i:Nat) v,σ'[i]?=some (some v)->σ[i]?=some (some v)):Inv X pins σ' H s:=
 ⟨I.ok,I.os,I.bare,I.base,let ⟨m,hn,hl'⟩:=I.loc;⟨m,hn,λi x v e1 e2 e3=>hl' i x v e1 (w i v e2) e3⟩,I.cell,I.free,I.freeC,I.pin,I.hok,hl.trans I.len⟩
theorem Inv.pins_of{pins':List (Addr×Obj)}(I:Inv X pins σ H s)(h:∀p∈pins',s.heap.get? p.1=some p.2/\H p.1=none/\p.1≠X.env.locals/\p.1∉X.fs/\∀v,p.2.data≠.cell v):Inv X pins' σ H s:=
 ⟨I.ok,I.os,I.bare,I.base,I.loc,I.cell,I.free,I.freeC,λp hp=>(Τ.mp hp).elim (λz=>I.pin p (B3 _ z)) (h p),I.hok,I.len⟩
theorem rO{N:List Str}(hN:N.Nodup){i j:Nat}{x:Str}(a:N[i]?=some x)(b:N[j]?=some x):i=j:=by
 obtain⟨h1,e1⟩:=ψ.mp a
 obtain⟨h2,e2⟩:=ψ.mp b
 exact(E5 hN).mp (e1.trans e2.symm)
theorem nI{M:Model}{A:ό}{E:ζ->ι->Prop}{i:Nat}{x:Str}{v:V}{u:ζ}{Q:Unit->ι->Prop}(I:Inv X pins σ H s)(hN:X.N.Nodup)(hi:X.N[i]?=some x)(hx:Loc X.env.scope x)(r:aL v u)
  (h:∀s',Inv X pins (σ.set i (some v)) H s'->(∃a,C1 a s.heap s'.heap/\(a=X.env.locals\/X.env.cells.lookup x=some a))->Q Unit.unit s') (hf:X.fn x=true\/X.env.scope.names.lookup x=some .local:=by first|exact .inl rfl|exact .inr rfl|assumption):wpAny M A (storeName X.env x u) Q E s:=by
 obtain⟨m,hn,hl⟩:=id I.loc
 have hcls:(X.env.scope.kind==.class||(X.env.scope.kind==.module&&X.env.locals != X.env.globals))=false:=by rw[I.ok.kind];rfl
 have hiσ:i<σ.length:=by rw[I.len];exact(ψ.mp hi).1
 have cne:=I.cne
 have tracked:∀{a:Addr}{h':Heap},(∃o,s.heap.get? a=some o/\H a=none)->C1 a s.heap h'->HOk X.prog X.w H h':=λ{a h'} ha hs b ob e=>by
  obtain⟨_,_,hfree⟩:=ha
  refine(I.hok b ob e).stay (λc w' hc q=>(hs.2 c ?_).trans q) (λ_ q=>q) λ_ _ q=>q
  rintro rfl
  rcases hc with rfl|hc
  ·rw[hfree]at e;cases e
  ·rw[hfree]at hc;cases hc
 rcases hx with hk|hk
 ·refine wpAny_storeName_local hk hn (λh' hn' hs=>?_) hcls
  obtain⟨oL,_,_,hoL,_⟩:=id hn
  refine h _ ⟨I.ok,I.os,I.bare,⟨λb o e n hb hx=>?_,λb o e n hb hx=>?_,I.base.free,λb o e hx=>?_,I.base.tups,I.base.frzs,I.base.tbls⟩,⟨_,hn',λj y v' e1 e2 e3=>?_⟩,λy c e=>?_,I.free,I.freeC,λp hp=>?_,tracked ⟨oL,hoL,I.free⟩ hs,by simpa using I.len⟩ ⟨_,hs,.inl rfl⟩
  ·exact(hs.2 b (Ϣ (ϛ (Β e) I.ok.above))).trans (I.base.keep b o e n hb hx)
  ·obtain⟨sl,e1⟩:=I.base.slot b o e n hb hx
   exact⟨sl,(hs.2 b (Ϣ (ϛ (Β e) I.ok.above))).trans e1⟩
  ·obtain⟨o',e1⟩:=I.base.there b o e hx
   exact⟨o',(hs.2 b (Ϣ (ϛ (Β e) I.ok.above))).trans e1⟩
  ·by_cases hj:j=i
   ·subst hj
    rw[hi]at e1;cases e1
    rw[List.getElem?_set_self hiσ]at e2
    cases e2
    exact⟨u,r,.inl ⟨hk,()⟩⟩
   ·rw[Fa (ϋ hj)]at e2
    obtain⟨u',r',q⟩:=hl j y v' e1 e2 e3
    refine⟨u',r',?_⟩
    rcases q with ⟨k,e⟩|⟨k,c,e,z⟩
    ·refine .inl ⟨k,?_⟩
     have:y≠x:=λe=>hj (rO hN e1 (e▸hi))
     simp[this,e]
    ·exact .inr ⟨k,c,e,z.sameBut hs (cne y c e)⟩
  ·obtain⟨w',z⟩:=I.cell y c e
   exact⟨w',z.sameBut hs (cne y c e)⟩
  ·obtain⟨e,n,ne,nf,d⟩:=I.pin p hp
   exact⟨(hs.2 p.1 ne).trans e,n,ne,nf,d⟩
 ·have hfn:X.fn x=true:=by
   rcases hf with z|z
   ·exact z
   ·rw[z]at hk;cases hk
  obtain⟨c,hc⟩:=I.ok.has x (.inl hk)
  obtain⟨w',z⟩:=I.cell x c hc
  refine wpAny_storeName_cell I.ok.kind hk hc z (λh' hc' hs=>?_)
  obtain⟨oc,hoc,hocd⟩:=id z
  refine h {s with heap:=h'} ⟨I.ok,I.os,I.bare,⟨λb o e n hb hx=>?_,λb o e n hb hx=>?_,I.base.free,λb o e hx=>?_,I.base.tups,I.base.frzs,I.base.tbls⟩,⟨m,hn.sameBut hs (ϋ (cne x c hc)),λj y v' e1 e2 e3=>?_⟩,λy c' e=>?_,I.free,I.freeC,λp hp=>?_,tracked ⟨oc,hoc,I.freeC x c hc⟩ hs,by simpa using I.len⟩ ⟨c,hs,.inr hc⟩
  ·exact(hs.2 b (Ϣ (ϛ (Β e) (I.ok.cab x c hfn hc)))).trans (I.base.keep b o e n hb hx)
  ·obtain⟨sl,e1⟩:=I.base.slot b o e n hb hx
   exact⟨sl,(hs.2 b (Ϣ (ϛ (Β e) (I.ok.cab x c hfn hc)))).trans e1⟩
  ·obtain⟨o',e1⟩:=I.base.there b o e hx
   exact⟨o',(hs.2 b (Ϣ (ϛ (Β e) (I.ok.cab x c hfn hc)))).trans e1⟩
  ·by_cases hj:j=i
   ·subst hj
    rw[hi]at e1;cases e1
    rw[List.getElem?_set_self hiσ]at e2
    cases e2
    exact⟨u,r,.inr ⟨.inl hk,c,hc,hc'⟩⟩
   ·rw[Fa (ϋ hj)]at e2
    obtain⟨u',r',q⟩:=hl j y v' e1 e2 e3
    refine⟨u',r',?_⟩
    rcases q with q|⟨k,c',e,z'⟩
    ·exact .inl q
    ·refine .inr ⟨k,c',e,z'.sameBut hs ?_⟩
     rintro rfl
     exact hj (rO hN e1 (I.ok.inj _ _ _ e hc▸hi))
  ·by_cases hcc:c'=c
   ·subst hcc;exact⟨_,hc'⟩
   ·obtain⟨w2,z2⟩:=I.cell y c' e
    exact⟨w2,z2.sameBut hs hcc⟩
  ·obtain⟨e,n,ne,nf,d⟩:=I.pin p hp
   refine⟨(hs.2 p.1 ?_).trans e,n,ne,nf,d⟩
   intro q
   rw[q,hoc]at e
   have q':oc=p.2:=Ϛ e
   exact d w' (by rw[<-q'];exact hocd)
theorem lO{M:Model}{A:ό}{E:ζ->ι->Prop}{i:Nat}{x:Str}{v:V}{u:ζ}{Q:Unit->ι->Prop}(I:Inv X pins σ H s)(hN:X.N.Nodup)(hi:X.N[i]?=some x)(hx:Loc X.env.scope x)(r:aL v u)
  (h:∀s',Inv X pins (σ.set i (some v)) H s'->Q Unit.unit s') (hf:X.fn x=true\/X.env.scope.names.lookup x=some .local:=by first|exact .inl rfl|exact .inr rfl|assumption):wpAny M A (storeName X.env x u) Q E s:=
 nI I hN hi hx r (λs' I' _=>h s' I') hf
theorem Inv.call'{s':ι}{ch:List Addr}(I:Inv X pins σ H s)(ho:s'.os=s.os)(u:Un (frs X.stack) ch H H' s.heap s'.heap)(hok:HOk X.prog X.w H' s'.heap)(hg:FT s'.gens)
  (hch:∀b∈ch,(b∈X.ex\/X.s₀.heap.objs.size<=b)/\b≠X.env.locals/\(∀x c,X.env.cells.lookup x=some c->c≠b)/\∀p∈X.pn++pins,p.1≠b):Inv X pins σ H' s':=by
 obtain⟨h',g',d',t',o'⟩:=s'
 have e:o'=s.os:=ho
 subst e
 exact I.call (g':=g') (t':=t') (d':=d') u hok hg hch
end
abbrev XK:=ζ->Option Addr->Hp->Prop
abbrev St:=List (Option V)
abbrev VK:=V->Hp->Prop
abbrev TE:=St->Hp->VK->Prop
abbrev TT:=St->Hp->(Bool->Hp->Prop)->Prop
abbrev TA:=St->Hp->(List V->Hp->Prop)->Prop
structure bZ where
 nx:St->Hp->Prop
 rt:VK
 bk:St->Hp->Prop:=λ_ _=>False
 ct:St->Hp->Prop:=λ_ _=>False
abbrev TS:=bZ->St->Hp->Prop
def EP(X:Cx)(pins:List (Addr×Obj))(σ:St)(Q:VK)(u:ζ)(s':ι):Prop:=∃v H',Inv X pins σ H' s'/\aL v u/\Q v H'
def TP(X:Cx)(pins:List (Addr×Obj))(σ:St)(Q:Bool->Hp->Prop)(b:Bool)(s':ι):Prop:=∃H',Inv X pins σ H' s'/\Q b H'
def AP(X:Cx)(pins:List (Addr×Obj))(σ:St)(Q:List V->Hp->Prop)(us:List ζ)(s':ι):Prop:=∃vs H',Inv X pins σ H' s'/\aF vs us/\Q vs H'
def SP(X:Cx)(pins:List (Addr×Obj))(D:bZ)(f:Flow)(s':ι):Prop:=
 match f with
 |.next=>∃σ' H',Inv X pins σ' H' s'/\D.nx σ' H'
 |.brk=>∃σ' H',Inv X pins σ' H' s'/\D.bk σ' H'
 |.cont=>∃σ' H',Inv X pins σ' H' s'/\D.ct σ' H'
 |.ret u=>∃v σ' H',Inv X pins σ' H' s'/\aL v u/\D.rt v H'
def PE(X:Cx)(e:Expr)(t:TE):Prop:=
 ∀(pins:List (Addr×Obj))(s:ι)(σ:St)(H:Hp)(Q:VK),Inv X pins σ H s->t σ H Q->wpAny (model X.prog X.w) X.A (eval e X.env) (EP X pins σ Q) X.xe s
def PT(X:Cx)(e:Expr)(t:TT):Prop:=
 ∀(pins:List (Addr×Obj))(s:ι)(σ:St)(H:Hp)(Q:Bool->Hp->Prop),Inv X pins σ H s->t σ H Q->wpAny (model X.prog X.w) X.A (isTrue e X.env (eval e X.env)) (TP X pins σ Q) X.xe s
def PW(X:Cx)(e:Expr)(t:TT):Prop:=
 ∀(whole:Sem ζ)(pins:List (Addr×Obj))(s:ι)(σ:St)(H:Hp)(Q:Bool->Hp->Prop),Inv X pins σ H s->t σ H Q->wpAny (model X.prog X.w) X.A (isTrue e X.env whole) (TP X pins σ Q) X.xe s
theorem PW.pt{X:Cx}{e:Expr}{t:TT}(h:PW X e t):PT X e t:=h _
def PA(X:Cx)(es:List Expr)(t:TA):Prop:=
 ∀(pos:Pos)(pins:List (Addr×Obj))(s:ι)(σ:St)(H:Hp)(Q:List V->Hp->Prop),Inv X pins σ H s->t σ H Q->wpAny (model X.prog X.w) X.A (spliced (backTo pos (starEach es X.env))) (AP X pins σ Q) X.xe s
def PS(X:Cx)(st:Stmt)(t:TS):Prop:=
 ∀(pins:List (Addr×Obj))(s:ι)(σ:St)(H:Hp)(D:bZ),Inv X pins σ H s->t D σ H->wpAny (model X.prog X.w) X.A (exec st X.env) (SP X pins D) X.xe s
def PSs(X:Cx)(st:List Stmt)(t:TS):Prop:=
 ∀(pins:List (Addr×Obj))(s:ι)(σ:St)(H:Hp)(D:bZ),Inv X pins σ H s->t D σ H->wpAny (model X.prog X.w) X.A (execs st X.env) (SP X pins D) X.xe s
theorem thn{α:Type}{t:Sem α}{Q Q':α->ι->Prop}{M:Model}{A:ό}{E:ζ->ι->Prop}{s:ι}(h:wpAny M A t Q E s)(hQ:∀a s,Q a s->Q' a s):wpAny M A t Q' E s:=n9 h hQ λ_ _ x=>x
section
variable{X:Cx}
def lG(i:Nat):TE:=λσ H Q=>∃v,σ[i]?=some (some v)/\Q v H
def tC(v:V):TE:=λ_ H Q=>Q v H
theorem xS{i:Nat}{x:Str}{pos:Pos}(hN:X.N[i]?=some x)(hv:Vis X.env.scope x)(hd:(x==("__debug__" : Str))=false:=by decide)(hcd:(x==("__classdict__" : Str))=false:=by decide):PE X (.Name x pos) (lG i):=by
 intro pins s σ H Q I h
 obtain⟨v,e,h⟩:=h
 obtain⟨m,hn,hl⟩:=I.loc
 obtain⟨u,r,l⟩:=hl i x v hN e hv
 have fin:EP X pins σ Q u s:=⟨v,H,I,r,h⟩
 rcases l with ⟨hk,hm⟩|⟨hk,c,hc,hcell⟩
 ·exact wpAny_Name (wpAny_loadName_local I.ok.kind hk hn hm fin) hd
 ·rcases hk with hk|hk
  ·exact wpAny_Name (wpAny_loadName_cell I.ok.kind hk hc hcell fin) hd
  ·exact wpAny_Name (wpAny_loadName_free I.ok.kind hk hc hcell fin hcd) hd
theorem pe_int{i j pos}:PE X (.Constant (.int i) j pos) (tC (.int i)):=λ_ _ _ H _ I h=>wpAny_Constant_int ⟨.int i,H,I.tok _,⟨_,rfl⟩,h⟩
theorem pe_bl{b j pos}:PE X (.Constant (.bool b) j pos) (tC (.bl b)):=λ_ _ _ H _ I h=>Constant_bool ⟨.bl b,H,I,rfl,h⟩
theorem pe_non{j pos}:PE X (.Constant .none j pos) (tC .non):=λ_ _ _ H _ I h=>Constant_none ⟨.non,H,I,rfl,h⟩
theorem pe_str{x j pos}:PE X (.Constant (.str x) j pos) (tC (.str x)):=λ_ _ _ H _ I h=>Calls.Constant_str ⟨.str x,H,I.tok _,⟨_,rfl⟩,h⟩
def Gl(X:Cx)(x:Str):Prop:=X.env.kindOf x=some .globalImplicit
theorem jC{E:ζ->ι->Prop}{pins:List (Addr×Obj)}{s:ι}{σ:St}{H:Hp}{x:Str}{u:ζ}{pos:Pos}{Q:ζ->ι->Prop}(I:Inv X pins σ H s)(hg:Gl X x)(hm:X.mg x=some u)(h:Q u s)
  (hd:(x==("__debug__" : Str))=false:=by decide):wpAny (model X.prog X.w) X.A (eval (.Name x pos) X.env) Q E s:=
 Fw I.ok.kind hg (Calls.loadGlobal_global (by rw[I.ok.glob];exact I.mod.glob.keeps I.bk) hm h) hd
theorem fc{E:ζ->ι->Prop}{pins:List (Addr×Obj)}{s:ι}{σ:St}{H:Hp}{x:Str}{u:ζ}{pos:Pos}{Q:ζ->ι->Prop}(I:Inv X pins σ H s)(hg:Gl X x)(hm:X.mg x=none)(hv:bootBuiltins x=some u)(h:Q u s)
  (hn:x≠"__name__":=by decide) (hd:(x==("__debug__" : Str))=false:=by decide):wpAny (model X.prog X.w) X.A (eval (.Name x pos) X.env) Q E s:=by
 obtain⟨mb,h1,h2⟩:=I.mod.blt
 exact Fw I.ok.kind hg (Calls.loadGlobal_builtin (by rw[I.ok.glob];exact I.mod.glob.keeps I.bk) hm (by rw[I.ok.blt];exact h1.keeps I.bk) ((h2 x hn).trans hv) h) hd
theorem pe_glob{x:Str}{v:V}{u:ζ}{pos:Pos}(hg:Gl X x)(hm:X.mg x=some u)(r:aL v u)(hd:(x==("__debug__" : Str))=false:=by decide):PE X (.Name x pos) (tC v):=
 λ_ _ _ H _ I h=>jC I hg hm ⟨v,H,I,r,h⟩ hd
theorem pe_bltn{x:Str}{v:V}{u:ζ}{pos:Pos}(hg:Gl X x)(hm:X.mg x=none)(hv:bootBuiltins x=some u)(r:aL v u)(hn:x≠"__name__":=by decide)(hd:(x==("__debug__" : Str))=false:=by decide):PE X (.Name x pos) (tC v):=
 λ_ _ _ H _ I h=>fc I hg hm hv ⟨v,H,I,r,h⟩ hn hd
variable{a b:Expr}{ta tb:TE}{pos:Pos}
def tB(t:TE):TT:=λσ H Q=>t σ H λx H1=>∃c,x=.bl c/\Q c H1
theorem pt_val{e:Expr}{t:TE}(h:PE X e t)(he:∀whole,isTrue e X.env whole=(do let v <-whole;standAt e.pos;holding [v] (truthy v)):=by intro _;rfl):PT X e (tB t):=by
 intro pins s σ H Q I hw
 refine isTrue_plain (thn (h pins s σ H _ I hw) λv s1 ⟨x,H1,I1,r1,q1⟩=>?_) (he _)
 obtain⟨d,rfl,q⟩:=q1
 cases r1
 exact a_ ⟨H1,I1,q⟩
variable{tA tB':TT}{rest:List Expr}
def Cy(t u:TT):TT:=λσ H Q=>t σ H λc H1=>if c=true then u σ H1 Q else Q false H1
def tOr(t u:TT):TT:=λσ H Q=>t σ H λc H1=>if c=true then Q true H1 else u σ H1 Q
def Ef(t:TT):TT:=λσ H Q=>t σ H λc H1=>Q (!c) H1
theorem pw_and1(ha:PT X a tA):PW X (.BoolOp .And [a] pos) tA:=by
 intro wh pins s σ H Q I h
 refine isTrue_and (thn (ha pins s σ H Q I h) λc s1 e=>?_)
 cases c with
 |true=>exact isTrue_and_nil e
 |false=>exact e
theorem pw_or1(ha:PT X a tA):PW X (.BoolOp .Or [a] pos) tA:=by
 intro wh pins s σ H Q I h
 refine isTrue_or (thn (ha pins s σ H Q I h) λc s1 e=>?_)
 cases c with
 |false=>exact isTrue_or_nil e
 |true=>exact e
theorem pw_and(ha:PT X a tA)(hb:PW X (.BoolOp .And (b::rest) pos) tB'):PW X (.BoolOp .And (a::b::rest) pos) (Cy tA tB'):=by
 intro wh pins s σ H Q I h
 refine isTrue_and (thn (ha pins s σ H _ I h) λc s1 ⟨H1,I1,q1⟩=>?_)
 cases c with
 |true=>exact hb wh pins s1 σ H1 Q I1 q1
 |false=>exact⟨H1,I1,q1⟩
theorem pw_or(ha:PT X a tA)(hb:PW X (.BoolOp .Or (b::rest) pos) tB'):PW X (.BoolOp .Or (a::b::rest) pos) (tOr tA tB'):=by
 intro wh pins s σ H Q I h
 refine isTrue_or (thn (ha pins s σ H _ I h) λc s1 ⟨H1,I1,q1⟩=>?_)
 cases c with
 |true=>exact⟨H1,I1,q1⟩
 |false=>exact hb wh pins s1 σ H1 Q I1 q1
theorem pt_not(ha:PT X a tA):PT X (.UnaryOp .Not a pos) (Ef tA):=by
 intro pins s σ H Q I h
 exact isTrue_not (ha pins s σ H (λc H1=>Q (!c) H1) I h)
def CU(ta tb:TE):TE:=λσ H Q=>ta σ H λx H1=>∃c,x=.bl c/\if c=true then tb σ H1 Q else Q (.bl false) H1
def DU(ta tb:TE):TE:=λσ H Q=>ta σ H λx H1=>∃c,x=.bl c/\if c=true then Q (.bl true) H1 else tb σ H1 Q
def DQ(ta:TE):TE:=λσ H Q=>ta σ H λx H1=>∃c,x=.bl c/\Q (.bl (!c)) H1
theorem pe_one{op}{t:TE}(h:PE X a t):PE X (.BoolOp op [a] pos) t:=λpins s σ H Q I hw=>BoolOp_one (h pins s σ H Q I hw)
theorem pe_and(ha:PE X a ta)(hb:PE X (.BoolOp .And (b::rest) pos) tb):PE X (.BoolOp .And (a::b::rest) pos) (CU ta tb):=by
 intro pins s σ H Q I h
 refine BoolOp_and (thn (ha pins s σ H _ I h) λv s1 ⟨x,H1,I1,r1,q1⟩=>?_)
 obtain⟨c,rfl,q1⟩:=q1
 cases r1
 refine a_ ?_
 cases c with
 |true=>exact hb pins s1 σ H1 Q I1 q1
 |false=>exact⟨.bl false,H1,I1,rfl,q1⟩
theorem pe_or(ha:PE X a ta)(hb:PE X (.BoolOp .Or (b::rest) pos) tb):PE X (.BoolOp .Or (a::b::rest) pos) (DU ta tb):=by
 intro pins s σ H Q I h
 refine BoolOp_or (thn (ha pins s σ H _ I h) λv s1 ⟨x,H1,I1,r1,q1⟩=>?_)
 obtain⟨c,rfl,q1⟩:=q1
 cases r1
 refine a_ ?_
 cases c with
 |false=>exact hb pins s1 σ H1 Q I1 q1
 |true=>exact⟨.bl true,H1,I1,rfl,q1⟩
theorem pe_not(ha:PE X a ta):PE X (.UnaryOp .Not a pos) (DQ ta):=by
 intro pins s σ H Q I h
 refine UnaryOp_ (thn (ha pins s σ H _ I h) λv s1 ⟨x,H1,I1,r1,q1⟩=>?_)
 obtain⟨c,rfl,q1⟩:=q1
 cases r1
 exact not_of (a_ ⟨.bl (!c),H1,I1,rfl,q1⟩)
def tIf(t:TT)(ta tb:TE):TE:=λσ H Q=>t σ H λc H1=>if c=true then ta σ H1 Q else tb σ H1 Q
theorem pe_ifExp{c:Expr}(hc:PT X c tA)(ha:PE X a ta)(hb:PE X b tb):PE X (.IfExp c a b pos) (tIf tA ta tb):=by
 intro pins s σ H Q I h
 refine wpAny_IfExp (thn (hc pins s σ H _ I h) λd s1 ⟨H1,I1,q1⟩=>?_)
 cases d with
 |true=>exact ha pins s1 σ H1 Q I1 q1
 |false=>exact hb pins s1 σ H1 Q I1 q1
end
def SqL(K:ε)(H:Hp)(a:Addr)(xs:List V):Prop:=
 Rd H a (.lst xs) \/
  ∃(o:Obj) (its:Array ζ) (n:Nat),K.lookup a=some o/\o.cls=.type "list"/\o.dict=none/\o.data=.seq its n/\its.size<=sizeLine/\aF xs its.toList
def SqT(K:ε)(H:Hp)(a:Addr)(xs:List V):Prop:=
 Rd H a (.tup xs) \/
  ∃(o:Obj) (its:Array ζ) (n:Nat),K.lookup a=some o/\o.cls=.type "tuple"/\o.data=.seq its n/\its.size<=sizeLine/\aF xs its.toList
def EE:ζ->Option V
 |.none=>some .non
 |.bool b=>some (.bl b)
 |.int i _=>some (.int i)
 |.str x _=>some (.str x)
 |.bytes b _=>some (.byt b)
 |.float b _=>some (.flt b)
 |.ref a=>some (.ref a)
 |.type n=>some (.ty n)
 |_=>none
theorem aL.abs{x:V}{u:ζ}(r:aL x u):EE u=some x:=by
 cases x with
 |non=>cases r;rfl
 |bl _=>cases r;rfl
 |int _=>obtain⟨t,rfl⟩:=r;rfl
 |str _=>obtain⟨t,rfl⟩:=r;rfl
 |byt _=>obtain⟨t,rfl⟩:=r;rfl
 |flt _=>obtain⟨t,rfl⟩:=r;rfl
 |ref _=>cases r;rfl
 |ty _=>cases r;rfl
theorem aL.inj{x y:V}{u:ζ}(r:aL x u)(q:aL y u):x=y:=Ϛ (r.abs.symm.trans q.abs)
theorem aF.inj:∀{xs ys:List V}{us:List ζ},aF xs us->aF ys us->xs=ys
 |_,_,_,.nil,.nil=>rfl
 |_,_,_,.cons r t,.cons r' t'=>by rw[r.inj r',aF.inj t t']
section
variable{X:Cx}{pins:List (Addr×Obj)}{σ:St}{H:Hp}{s:ι}{a:Addr}{xs ys:List V}
theorem SqL.of{K:ε}(h:H a=some (.lst xs)):SqL K H a xs:=.inl (.inl h)
theorem SqT.of{K:ε}(h:H a=some (.tup xs)):SqT K H a xs:=.inl (.inl h)
theorem Inv.list(I:Inv X pins σ H s)(h:SqL X.K H a xs):∃its:List ζ,aF xs its/\PlainL s.heap a its.toArray/\xs.length<=sizeLine:=by
 rcases h with h|⟨o,its,n,hk,hc,hd,hs,hz,r⟩
 ·obtain⟨z,its,n,r,e⟩:=h.ok I.hok
  exact⟨its,r,⟨_,n,e,rfl,rfl,rfl⟩,z⟩
 ·refine⟨its.toList,r,⟨o,n,I.kIn a o hk,hc,hd,by simpa using hs⟩,?_⟩
  have e:=r.length
  simp only[Ι]at e
  omega
theorem Inv.tuple(I:Inv X pins σ H s)(h:SqT X.K H a xs):∃its:List ζ,aF xs its/\GB s.heap a its.toArray/\xs.length<=sizeLine:=by
 rcases h with h|⟨o,its,n,hk,hc,hs,hz,r⟩
 ·obtain⟨z,its,r,p⟩:=h.ok I.hok
  exact⟨its,r,p.1,z⟩
 ·refine⟨its.toList,r,⟨o,I.kIn a o hk,hc,n,by simpa using hs⟩,?_⟩
  have e:=r.length
  simp only[Ι]at e
  omega
theorem Inv.list_inj(I:Inv X pins σ H s)(h:SqL X.K H a xs)(h':SqL X.K H a ys):xs=ys:=by
 obtain⟨its,r,⟨o,n,e,_,_,d⟩,_⟩:=I.list h
 obtain⟨its',r',⟨o',n',e',_,_,d'⟩,_⟩:=I.list h'
 rw[e]at e';cases e'
 rw[d]at d'
 injection d' with d1 _
 have:its=its':=by simpa using congrArg Array.toList d1
 subst this
 exact r.inj r'
theorem Inv.tuple_inj(I:Inv X pins σ H s)(h:SqT X.K H a xs)(h':SqT X.K H a ys):xs=ys:=by
 obtain⟨its,r,⟨o,e,_,n,d⟩,_⟩:=I.tuple h
 obtain⟨its',r',⟨o',e',_,n',d'⟩,_⟩:=I.tuple h'
 rw[e]at e';cases e'
 rw[d]at d'
 injection d' with d1 _
 have:its=its':=by simpa using congrArg Array.toList d1
 subst this
 exact r.inj r'
end
abbrev Cx.wish(X:Cx)(E:ζ->ι->Prop):Cx:={X with xe:=E}
abbrev Cx.nox(X:Cx):Cx:=X.wish λ_ _=>False
theorem Cx.Ok.wish{X:Cx}(ok:X.Ok)(E:ζ->ι->Prop):(X.wish E).Ok:=
 ⟨ok.mod,ok.kind,ok.glob,ok.blt,ok.above,ok.inj,ok.has,ok.cab,ok.hd,ok.frames,ok.stk,ok.exf,ok.bs,ok.bsz,ok.noex,ok.exfs,ok.funs,ok.frf⟩
theorem Cx.Ok.unwish{X:Cx}{E:ζ->ι->Prop}(ok:(X.wish E).Ok):X.Ok:=
 ⟨ok.mod,ok.kind,ok.glob,ok.blt,ok.above,ok.inj,ok.has,ok.cab,ok.hd,ok.frames,ok.stk,ok.exf,ok.bs,ok.bsz,ok.noex,ok.exfs,ok.funs,ok.frf⟩
section
variable{X:Cx}{pins:List (Addr×Obj)}{σ:St}{H:Hp}{s:ι}{E:ζ->ι->Prop}
theorem Inv.wish(I:Inv X pins σ H s)(E:ζ->ι->Prop):Inv (X.wish E) pins σ H s:=⟨I.ok.wish E,I.os,I.bare,I.base,I.loc,I.cell,I.free,I.freeC,I.pin,I.hok,I.len⟩
theorem Inv.unwish(I:Inv (X.wish E) pins σ H s):Inv X pins σ H s:=⟨I.ok.unwish,I.os,I.bare,I.base,I.loc,I.cell,I.free,I.freeC,I.pin,I.hok,I.len⟩
theorem SP.unwish{D:bZ}{f:Flow}{s':ι}(h:SP (X.wish E) pins D f s'):SP X pins D f s':=by
 cases f with
 |next=>obtain⟨σ',H',I,q⟩:=h;exact⟨σ',H',I.unwish,q⟩
 |brk=>obtain⟨σ',H',I,q⟩:=h;exact⟨σ',H',I.unwish,q⟩
 |cont=>obtain⟨σ',H',I,q⟩:=h;exact⟨σ',H',I.unwish,q⟩
 |ret u=>obtain⟨v,σ',H',I,r,q⟩:=h;exact⟨v,σ',H',I.unwish,r,q⟩
theorem PSs.nox{st:List Stmt}{t:TS}(h:PSs X.nox st t):PSs X st t:=λpins s σ H D I hw=>
 n9 (h pins s σ H D (I.wish _) hw) (λ_ _ q=>q.unwish) λ_ _ z=>n_ z
end
section
variable{X:Cx}{st:Stmt}{rest:List Stmt}{t u:TS}{e:Expr}{te:TE}{pos:Pos}
def AX:TS:=λD σ H=>D.nx σ H
def lJ(t u:TS):TS:=λD σ H=>t {D with nx:=u D} σ H
theorem pss_nil:PSs X [] AX:=λ_ _ σ H _ I h=>Fd ⟨σ,H,I,h⟩
theorem pss_cons(h1:PS X st t)(h2:PSs X rest u):PSs X (st::rest) (lJ t u):=by
 intro pins s σ H D I h
 refine wpAny_execs_cons (thn (h1 pins s σ H {D with nx:=u D} I h) λf s1 q=>?_)
 cases f with
 |next=>
  obtain⟨σ',H',I',q⟩:=q
  exact h2 pins s1 σ' H' D I' q
 |ret v=>exact q
 |brk=>exact q
 |cont=>exact q
theorem pss_one(h1:PS X st t):PSs X [st] t:=by
 intro pins s σ H D I h
 refine wpAny_execs_cons (thn (h1 pins s σ H D I h) λf s1 q=>?_)
 cases f with
 |next=>exact Fd q
 |ret v=>exact q
 |brk=>exact q
 |cont=>exact q
theorem Inv.quiet{pins:List (Addr×Obj)}{σ:St}{H:Hp}{s:ι}(I:Inv X pins σ H s):interactive X.env=false:=by simp[interactive,I.ok.kind]
def CG(te:TE):TS:=λD σ H=>te σ H λ_ H1=>D.nx σ H1
theorem ps_expr(he:PE X e te)(hs:swapsWith e none pos.line X.env=pure false:=by rfl):PS X (.Expr e pos) (CG te):=by
 intro pins s σ H D I h
 exact wpAny_Expr_any (thn (he pins s σ H _ I h) λv s1 ⟨x,H1,I1,r1,q1⟩=>⟨σ,H1,I1,q1⟩) I.quiet hs
def Cd(te:TE):TS:=λD σ H=>te σ H D.rt
theorem ps_ret(he:PE X e te):PS X (.Return (some e) pos) (Cd te):=by
 intro pins s σ H D I h
 exact wpAny_Return_some (thn (he pins s σ H _ I h) λv s1 ⟨x,H1,I1,r1,q1⟩=>⟨x,σ,H1,I1,r1,q1⟩)
def Dd(c:TT)(t u:TS):TS:=λD σ H=>c σ H λb H1=>if b=true then t D σ H1 else u D σ H1
theorem ps_if{c:Expr}{a b:List Stmt}{tc:TT}(hc:PT X c tc)(ha:PSs X a t)(hb:PSs X b u):PS X (.If c a b pos) (Dd tc t u):=by
 intro pins s σ H D I h
 refine wpAny_If (thn (hc pins s σ H _ I h) λd s1 ⟨H1,I1,q1⟩=>?_)
 cases d with
 |true=>exact ha pins s1 σ H1 D I1 q1
 |false=>exact hb pins s1 σ H1 D I1 q1
end
abbrev TG:=V->St->Hp->(St->Hp->Prop)->Prop
abbrev TGs:=List V->St->Hp->(St->Hp->Prop)->Prop
def PG(X:Cx)(target:Expr)(t:TG):Prop:=
 ∀(pins:List (Addr×Obj))(s:ι)(σ:St)(H:Hp)(v:V)(u:ζ)(Q:St->Hp->Prop),Inv X pins σ H s->aL v u->t v σ H Q ->
  wpAny (model X.prog X.w) X.A (assign target X.env u) (λ_ s'=>∃σ' H',Inv X pins σ' H' s'/\Q σ' H') X.xe s
def PGs(X:Cx)(ts:List Expr)(t:TGs):Prop:=
 ∀(pins:List (Addr×Obj))(s:ι)(σ:St)(H:Hp)(vs:List V)(us:List ζ)(Q:St->Hp->Prop),Inv X pins σ H s->aF vs us->t vs σ H Q ->
  wpAny (model X.prog X.w) X.A (assignInOrder ((assignEach ts X.env).map (·.2)) us) (λ_ s'=>∃σ' H',Inv X pins σ' H' s'/\Q σ' H') X.xe s
abbrev Ce:=V->V->V->Hp->(Hp->Prop)->Prop
def Dg(X:Cx)(t:Ce):Prop:=
 ∀(pins:List (Addr×Obj))(s:ι)(σ:St)(H:Hp)(o i v:V)(ov iv u:ζ)(Q:Hp->Prop),Inv X pins σ H s->aL o ov->aL i iv->aL v u->t o i v H Q ->
  wpAny (model X.prog X.w) X.A (setItem ov iv u) (λ_ s'=>∃H',Inv X pins σ H' s'/\Q H') X.xe s
abbrev TIp:=V->V->Hp->VK->Prop
def PIp(X:Cx)(op:Gx)(t:TIp):Prop:=
 ∀(pins:List (Addr×Obj))(s:ι)(σ:St)(H:Hp)(x y:V)(v u:ζ)(Q:VK),Inv X pins σ H s->aL x v->aL y u->t x y H Q ->
  wpAny (model X.prog X.w) X.A (inplaceOp op v u) (EP X pins σ Q) X.xe s
section
variable{X:Cx}{pos:Pos}
def dE(i:Nat):TG:=λv σ H Q=>Q (σ.set i (some v)) H
theorem pg_name{i:Nat}{x:Str}(hN:X.N.Nodup)(hi:X.N[i]?=some x)(hx:Loc X.env.scope x)(hf:X.fn x=true\/X.env.scope.names.lookup x=some .local:=by first|exact .inl rfl|exact .inr rfl|assumption):PG X (.Name x pos) (dE i):=by
 intro pins s σ H v u Q I r h
 exact wpAny_assign_Name (lO I hN hi hx r (λs' I'=>⟨_,H,I',h⟩) hf)
def wq:TGs:=λvs σ H Q=>vs=[]/\Q σ H
def ji(t:TG)(u:TGs):TGs:=λvs σ H Q=>∃v r,vs=v::r/\t v σ H λσ' H'=>u r σ' H' Q
theorem pgs_nil:PGs X [] wq:=by
 intro pins s σ H vs us Q I r h
 obtain⟨e,h⟩:=h
 subst e
 cases r
 exact assignInOrder_nil ⟨σ,H,I,h⟩
theorem pgs_cons{e:Expr}{es:List Expr}{t:TG}{u:TGs}(h1:PG X e t)(h2:PGs X es u)
  (hs:(assignEach (e::es) X.env).map (·.2)=assign e X.env::(assignEach es X.env).map (·.2):=by rfl):PGs X (e::es) (ji t u):=by
 intro pins s σ H vs us Q I r h
 obtain⟨v,vr,e1,h⟩:=h
 subst e1
 cases r with
 |cons r rr=>
  rw[hs]
  refine assignInOrder_cons (thn (h1 pins s σ H _ _ _ I r h) λ_ s1 ⟨σ1,H1,I1,q1⟩=>?_)
  exact h2 pins s1 σ1 H1 _ _ Q I1 rr q1
def zQ(K:ε)(n:Nat)(t:TGs):TG:=λv σ H Q=>∃a xs,v=.ref a/\SqT K H a xs/\xs.length=n/\t xs σ H Q
theorem pg_tup{es:List Expr}{k:Nat}{t:TGs}{n:Nat}(hc:X.calm=true)(h:PGs X es t)
  (hn:(assignEach es X.env).length=n:=by rfl) (hst:(assignEach es X.env).findIdx? (·.1)=none:=by rfl):PG X (.Tuple es k pos) (zQ X.K n t):=by
 intro pins s σ H v u Q I r hw
 obtain⟨a,xs,e1,hq,hl,hw⟩:=hw
 subst e1
 cases r
 obtain⟨its,rv,ht,hz⟩:=I.tuple hq
 refine assign_Tuple_tuple (I.ok.hd hc) ht (by simp[hn,<-hl,rv.length]) hst λh' hx=>?_
 have I1:Inv X pins σ H {s with heap:=h'}:=I.kept (t':=s.toks) λb o e=>hx b o (Ϣ (Β e)) e
 exact h pins _ σ H xs _ Q I1 (by simpa using rv) hw
def Ed(to ti:TE)(t:Ce):TG:=λv σ H Q=>to σ H λo H1=>ti σ H1 λi H2=>t o i v H2 λH3=>Q σ H3
theorem pg_sub{o i:Expr}{to ti:TE}{t:Ce}(ho:PE X o to)(hi:PE X i ti)(hs:Dg X t)
  (ha:∀v,assign (.Subscript o i pos) X.env v=(do
   let ov <-holding [v] (eval o X.env)
   let iv <-holding [v,ov] (eval i X.env)
   standAt pos
   holding [v,ov,iv] (setItem ov iv v)
   release [v,ov,iv] []):=by intro _;rfl):PG X (.Subscript o i pos) (Ed to ti t):=by
 intro pins s σ H v u Q I r h
 rw[ha]
 refine η (A_ (thn (ho pins s σ H _ I h) λov s1 ⟨x,H1,I1,r1,q1⟩=>?_))
 refine η (A_ (thn (hi pins s1 σ H1 _ I1 q1) λiv s2 ⟨y,H2,I2,r2,q2⟩=>?_))
 refine η (wpAny_standAt (η (A_ (thn (hs pins s2 σ H2 x y v ov iv u _ I2 r1 r2 r q2) λ_ s3 ⟨H3,I3,q3⟩=>?_))))
 exact wpAny_release ⟨σ,H3,I3,q3⟩
def Cp(te:TE)(g:TG):TS:=λD σ H=>te σ H λx H1=>g x σ H1 D.nx
theorem ps_asg{tg e:Expr}{te:TE}{g:TG}(he:PE X e te)(hg:PG X tg g)(hs:swapsWithSole [tg] e pos.line X.env=pure false:=by rfl)(hw:swappedStores [tg] e X.env=pure none:=by rfl)
  (h1:(assignEach [tg] X.env).map (·.2)=[assign tg X.env]:=by rfl):PS X (.Assign [tg] e pos) (Cp te g):=by
 intro pins s σ H D I h
 refine wpAny_Assign_stores (thn (he pins s σ H _ I h) λv s1 ⟨x,H1,I1,r1,q1⟩=>?_) hs hw
 rw[h1]
 exact thn (hg pins s1 σ H1 x v _ I1 r1 q1) λ_ s2 q=>q
theorem ps_set{i:Nat}{x:Str}{e:Expr}{te:TE}{pos':Pos}(hN:X.N.Nodup)(hi:X.N[i]?=some x)(hx:Loc X.env.scope x)(he:PE X e te)(hs:swapsWith e (some (.Name x pos')) pos.line X.env=pure false:=by rfl)(hf:X.fn x=true\/X.env.scope.names.lookup x=some .local:=by first|exact .inl rfl|exact .inr rfl|assumption):
  PS X (.Assign [.Name x pos'] e pos) (Cp te (dE i)):=by
 intro pins s σ H D I h
 refine wpAny_Assign_Name (thn (he pins s σ H _ I h) λv s1 ⟨y,H1,I1,r1,q1⟩=>?_) hs
 exact lO I1 hN hi hx r1 (λs2 I2=>⟨_,H1,I2,q1⟩) hf
def EF(i:Nat)(te:TE)(ti:TIp):TS:=λD σ H=>∃x,σ[i]?=some (some x)/\te σ H λy H1=>ti x y H1 λz H2=>D.nx (σ.set i (some z)) H2
theorem ps_aug{i:Nat}{x:Str}{e:Expr}{te:TE}{op:Gx}{ti:TIp}{pos':Pos}(hN:X.N.Nodup)(hi:X.N[i]?=some x)(hx:Loc X.env.scope x)(he:PE X e te)(ho:PIp X op ti)(hf:X.fn x=true\/X.env.scope.names.lookup x=some .local:=by first|exact .inl rfl|exact .inr rfl|assumption):
  PS X (.AugAssign (.Name x pos') op e pos) (EF i te ti):=by
 intro pins s σ H D I h
 obtain⟨v,e1,h⟩:=h
 obtain⟨m,hn,hl⟩:=I.loc
 have vis:Vis X.env.scope x:=by rcases hx with k|k;exact .inl k;exact .inr (.inl k)
 obtain⟨u,r,l⟩:=hl i x v hi e1 vis
 refine wpAny_AugAssign_Name ?_
 have go:wpAny (model X.prog X.w) X.A (eval e X.env) (λw s₂=>wpAny (model X.prog X.w) X.A (inplaceOp op u w) (λr s₃=>wpAny (model X.prog X.w) X.A (storeName X.env x r) (λ_=>SP X pins D .next) X.xe s₃) X.xe s₂) X.xe s:=by
  refine thn (he pins s σ H _ I h) λw s1 ⟨y,H1,I1,r1,q1⟩=>?_
  refine thn (ho pins s1 σ H1 v y u w _ I1 r r1 q1) λz s2 ⟨zv,H2,I2,r2,q2⟩=>?_
  exact lO I2 hN hi hx r2 (λs3 I3=>⟨_,H2,I3,q2⟩) hf
 rcases l with ⟨hk,hm⟩|⟨hk,c,hc,hcell⟩
 ·exact wpAny_loadName_local I.ok.kind hk hn hm go
 ·rcases hk with hk|hk
  ·exact wpAny_loadName_cell I.ok.kind hk hc hcell go
  ·rcases hx with k|k
   ·have:X.env.scope.names.lookup x=some .free:=hk
    rw[k]at this;cases this
   ·have:X.env.scope.names.lookup x=some .free:=hk
    rw[k]at this;cases this
def ipI(f:Int->Int->Int):TIp:=λx y H Q=>∃i j,x=.int i/\y=.int j/\Q (.int (f i j)) H
theorem yj:PIp X .Add (ipI λi j=>i+j):=by
 intro pins s σ H x y v u Q I r1 r2 h
 obtain⟨i,j,e1,e2,q⟩:=h
 subst e1;subst e2
 obtain⟨t,rfl⟩:=r1
 obtain⟨t',rfl⟩:=r2
 exact iadd_int ⟨.int _,H,I.tok _,⟨_,rfl⟩,q⟩
def su(c:TT)(tb:TS):TS:=λD σ H=>∃W:Nat->St->Hp->Prop,(∃m,W m σ H)/\∀m σ H,W m σ H ->
 c σ H λb H1=>if b=true then ∃N:St->Hp->Prop,(∀σ' H',N σ' H'->∃m',m'<m/\W m' σ' H')/\tb {D with nx:=N,ct:=N,bk:=D.nx} σ H1 else D.nx σ H1
theorem ps_while{c:Expr}{body:List Stmt}{tc:TT}{tb:TS}(hp:PassesOwn (model X.prog X.w) X.A X.env X.xe)(hc:PT X c tc)(hb:PSs X body tb):PS X (.While c body [] pos) (su tc tb):=by
 intro pins s σ H D I h
 obtain⟨W,⟨m0,w0⟩,turn⟩:=h
 refine wpAny_While (codeAny_whileLoop (λn s'=>∃σ' H',Inv X pins σ' H' s'/\W n σ' H') ?_ m0 ⟨σ,H,I,w0⟩)
 rintro n s1 ⟨σ1,H1,I1,w1⟩
 refine u8 hp (thn (hc pins s1 σ1 H1 _ I1 (turn n σ1 H1 w1)) λb s2 ⟨H2,I2,q2⟩=>?_)
 cases b with
 |true=>
  obtain⟨N,hN,q2⟩:=q2
  rw[Q5 rfl]
  refine u8 hp (thn (hb pins s2 σ1 H2 _ I2 q2) λf s3 q3=>?_)
  cases f with
  |next=>
   obtain⟨σ3,H3,I3,n3⟩:=q3
   obtain⟨m',hm,w3⟩:=hN σ3 H3 n3
   exact⟨m',hm,σ3,H3,I3,w3⟩
  |cont=>
   obtain⟨σ3,H3,I3,n3⟩:=q3
   obtain⟨m',hm,w3⟩:=hN σ3 H3 n3
   exact⟨m',hm,σ3,H3,I3,w3⟩
  |brk=>exact q3
  |ret v=>exact q3
 |false=>
  rw[Q6 Ξ]
  exact Fd ⟨σ1,H2,I2,q2⟩
end
structure It where
 go:Nat->Hp->Prop
 yld:Nat->Hp->V->Hp->Prop
 stop:Nat->Hp->Prop
def mh(X:Cx)(pins:List (Addr×Obj))(H:Hp)(b:Addr):Prop:=
 H b=none/\b≠X.env.locals/\b∉X.fs/\(b∈X.ex\/X.s₀.heap.objs.size<=b)/\(∀x c,X.env.cells.lookup x=some c->c≠b)/\∀p∈X.pn++pins,p.1≠b
theorem Inv.fpOk{X:Cx}{pins:List (Addr×Obj)}{σ:St}{H H':Hp}{s:ι}{b:Addr}(I:Inv X pins σ H s)(hb:s.heap.objs.size<=b)(hn:H' b=none):mh X pins H' b:=by
 refine⟨hn,A2 (ϛ I.lt hb),I.nofs hb,.inr (a7 I.sz hb),λx c e z=>?_,λp hp z=>?_⟩
 ·obtain⟨v,q⟩:=I.cell x c e
  exact absurd (ϛ q.lt (by rw[z];exact hb)) (x9 _)
 ·exact absurd (ϛ (Β (I.pin p hp).1) (by rw[z];exact hb)) (x9 _)
structure gY(P:χ)(w:Ρ)(K:ε)(tg:Expr)(J:It)(fp:List Addr)(it:Addr)(tn:Nat->Heap->Prop):Prop where
 mem:it∈fp
 obj:∀i h,tn i h->∀b∈fp,∃o,h.get? b=some o/\∀v,o.data≠.cell v
 keep:∀i h h',tn i h->(∀b∈fp,∀o,h.get? b=some o->h'.get? b=some o)->tn i h'
 item:∀(X:Cx),X.prog=P->X.w=w->X.K=K->X.calm=true->∀(i:Nat)(pins:List (Addr×Obj))(s:ι)(σ:St)(H:Hp)(E:ζ->ι->Prop),Inv X pins σ H s->(∀b∈fp,mh X pins H b)->tn i s.heap->J.go i H ->
  wpAny (model P w) X.A (pyNext (.ref it)) (λr s1=>∃u,r=some u /\
   wpAny (model P w) X.A (letOwnedTupleGo tg (.ref it) u) (λ_ s2=>∃x H',Inv X pins σ H' s2/\aL x u/\J.yld i H x H'/\tn (i+1) s2.heap/\∀b∈fp,H' b=none) E s1) E s
 done:∀(X:Cx),X.prog=P->X.w=w->X.K=K->X.calm=true->∀(i:Nat)(pins:List (Addr×Obj))(s:ι)(σ:St)(H:Hp)(E:ζ->ι->Prop),Inv X pins σ H s->(∀b∈fp,mh X pins H b)->tn i s.heap->J.stop i H ->
  wpAny (model P w) X.A (pyNext (.ref it)) (λr s1=>r=none/\Inv X pins σ H s1) E s
 self:∀(A:ό)(i:Nat)(s:ι)(Q:ζ->ι->Prop)(E:ζ->ι->Prop),tn i s.heap->Q (.ref it) s->wpAny (model P w) A (pyIter (.ref it)) Q E s
abbrev TI:=St->Hp->(It->Hp->Prop)->Prop
def PIE(X:Cx)(pins:List (Addr×Obj))(σ:St)(tg:Expr)(R:It->Hp->Prop)(itv:ζ)(s2:ι):Prop:=
 ∃(it:Addr) (fp:List Addr) (tn:Nat->Heap->Prop) (J:It) (H':Hp),itv=.ref it/\Inv X pins σ H' s2/\gY X.prog X.w X.K tg J fp it tn/\tn 0 s2.heap/\(∀b∈fp,mh X pins H' b)/\R J H'
def PI(X:Cx)(tg iter:Expr)(wi:TI):Prop:=
 ∀(pins:List (Addr×Obj))(s:ι)(σ:St)(H:Hp)(R:It->Hp->Prop),Inv X pins σ H s->wi σ H R ->
  wpAny (model X.prog X.w) X.A (eval iter X.env) (λv s1=>wpAny (model X.prog X.w) X.A (pyIter v) (PIE X pins σ tg R) X.xe s1) X.xe s
theorem vV{M:Model}{A:ό}{E:ζ->ι->Prop}{s:ι}{tg:Expr}{it:Addr}{u:ζ}{o:Obj}{n:String}{vs:Array ζ}{Q:Unit->ι->Prop}(ho:s.heap.get? it=some o)(hc:o.cls=.type n)(hd:o.data=.fields vs)
  (hn:["enumerate","zip","dict_itemiterator","dict_reverseitemiterator","odict_iterator","itertools.zip_longest","itertools.pairwise"].contains n=false) (hQ:Q Unit.unit s):wpAny M A (letOwnedTupleGo tg (.ref it) u) Q E s:=by
 unfold letOwnedTupleGo
 cases tg<;>first
  |exact ω hQ
  |(cases u<;>first
    |exact ω hQ
    | (refine η (wpAny_load ho ?_)
       rw[hc,hd]
       show wpAny M A (if (["enumerate","zip","dict_itemiterator","dict_reverseitemiterator","odict_iterator","itertools.zip_longest","itertools.pairwise"].contains n&&vs[0]?==some (rawInt _))=true then _ else _) Q E s
       rw[Q6 (by intro h;rw[hn,ϴ]at h;cases h)]
       exact ω hQ))
def Itl(K:ε)(a:Addr):It:=
 ⟨λi H=>∃xs x,SqL K H a xs/\xs[i]?=some x,λi H x H'=>H'=H/\∀xs,SqL K H a xs->xs[i]?=some x,λi H=>∃xs,SqL K H a xs/\xs.length<=i⟩
def Itt(K:ε)(a:Addr):It:=
 ⟨λi H=>∃xs x,SqT K H a xs/\xs[i]?=some x,λi H x H'=>H'=H/\∀xs,SqT K H a xs->xs[i]?=some x,λi H=>∃xs,SqT K H a xs/\xs.length<=i⟩
def Itr(lo:Int)(n:Nat):It:=⟨λi _=>i<n,λi H x H'=>H'=H/\x=.int (lo+i),λi _=>n<=i⟩
theorem xc{P:χ}{w:Ρ}{K:ε}{tg:Expr}(a it:Addr):gY P w K tg (Itl K a) [it] it (λi h=>h.IsListIter it a i) where
 mem:=by simp
 obj:=λi h st b hb=>by
  have e:b=it:=by simpa using hb
  subst e
  obtain⟨o,e,c,d⟩:=st
  exact⟨o,e,λv z=>by rw[d]at z;cases z⟩
 keep:=λi h h' st k=>st.at λo e=>k it () o e
 item:=by
  intro X hP hw hK hc i pins s σ H E I hf st hg
  subst hP hw hK
  obtain⟨xs,x,hq,hx⟩:=hg
  obtain⟨its,rv,p,hz⟩:=I.list hq
  obtain⟨u,hu,ru⟩:=rv.get hx
  obtain⟨f0,f1,f2,f3,f4,f5⟩:=hf it ()
  refine wpAny_pyNext_list_item st p.isList (x:=u) (by simpa using hu) λh' st' sb=>?_
  have I1:Inv X pins σ H {s with heap:=h'}:=I.turned (t':=s.toks) (λb o hb e=>(sb.2 b hb).trans e) f0 f1 f3 f4 f5
  obtain⟨o,e,c,d⟩:=id st'
  exact⟨u,rfl,vV (s:={s with heap:=h'}) e c d () ⟨x,H,I1,ru,⟨rfl,λys hy=>by rw[I.list_inj hy hq];exact hx⟩,st',λb hb=>(hf b hb).1⟩⟩
 done:=by
  intro X hP hw hK hc i pins s σ H E I hf st hg
  subst hP hw hK
  obtain⟨xs,hq,hx⟩:=hg
  obtain⟨its,rv,p,hz⟩:=I.list hq
  obtain⟨f0,f1,f2,f3,f4,f5⟩:=hf it ()
  have hl:=rv.length
  exact wpAny_pyNext_list_end (I.ok.hd hc) st p.isList (by simp;omega) λh' eb=>⟨rfl,I.turned (t':=s.toks) (λb o hb e=>eb b o hb e) f0 f1 f3 f4 f5⟩
 self:=λ_ _ _ _ _ st h=>wpAny_pyIter_listiter st h
theorem ut{P:χ}{w:Ρ}{K:ε}{tg:Expr}(a it:Addr):gY P w K tg (Itt K a) [it] it (λi h=>h.IsTupleIter it a i) where
 mem:=by simp
 obj:=λi h st b hb=>by
  have e:b=it:=by simpa using hb
  subst e
  obtain⟨o,e,c,d⟩:=st
  exact⟨o,e,λv z=>by rw[d]at z;cases z⟩
 keep:=λi h h' st k=>st.at λo e=>k it () o e
 item:=by
  intro X hP hw hK hc i pins s σ H E I hf st hg
  subst hP hw hK
  obtain⟨xs,x,hq,hx⟩:=hg
  obtain⟨its,rv,p,hz⟩:=I.tuple hq
  obtain⟨u,hu,ru⟩:=rv.get hx
  obtain⟨f0,f1,f2,f3,f4,f5⟩:=hf it ()
  refine wpAny_pyNext_tuple_item st (show s.heap.IsTuple a its.toArray from p) (x:=u) (by simpa using hu) λh' st' sb=>?_
  have I1:Inv X pins σ H {s with heap:=h'}:=I.turned (t':=s.toks) (λb o hb e=>(sb.2 b hb).trans e) f0 f1 f3 f4 f5
  obtain⟨o,e,c,d⟩:=id st'
  exact⟨u,rfl,vV (s:={s with heap:=h'}) e c d () ⟨x,H,I1,ru,⟨rfl,λys hy=>by rw[I.tuple_inj hy hq];exact hx⟩,st',λb hb=>(hf b hb).1⟩⟩
 done:=by
  intro X hP hw hK hc i pins s σ H E I hf st hg
  subst hP hw hK
  obtain⟨xs,hq,hx⟩:=hg
  obtain⟨its,rv,p,hz⟩:=I.tuple hq
  obtain⟨f0,f1,f2,f3,f4,f5⟩:=hf it ()
  have hl:=rv.length
  exact wpAny_pyNext_tuple_end (I.ok.hd hc) st (show s.heap.IsTuple a its.toArray from p) (by simp;omega) λh' eb=>⟨rfl,I.turned (t':=s.toks) (λb o hb e=>eb b o hb e) f0 f1 f3 f4 f5⟩
 self:=λ_ _ _ _ _ st h=>wpAny_pyIter_tupleiter st h
theorem sH{P:χ}{w:Ρ}{K:ε}{tg:Expr}(it:Addr)(lo:Int)(n:Nat):gY P w K tg (Itr lo n) [it] it (λi h=>IsRangeIter h it (lo+(i:Nat)*1) ((n:Int)-(i:Nat)) 1) where
 mem:=by simp
 obj:=λi h st b hb=>by
  have e:b=it:=by simpa using hb
  subst e
  exact⟨_,st,λv z=>by
   have z':FU _=B0 v:=z
   cases z'⟩
 keep:=λi h h' st k=>k it () _ st
 item:=by
  intro X hP hw hK hc i pins s σ H E I hf st hg
  subst hP hw hK
  obtain⟨f0,f1,f2,f3,f4,f5⟩:=hf it ()
  have W:=Walks.range (prog:=X.prog) (w:=X.w) (I.ok.hd hc) it lo 1 n
  refine W.item i s _ _ hg st λv h' tk hv st' kk=>?_
  obtain⟨t,rfl⟩:=hv
  have I1:Inv X pins σ H {s with heap:=h',toks:=tk}:=I.turned (λb o hb e=>kk b o (by simpa using hb) e) f0 f1 f3 f4 f5
  refine⟨_,rfl,vV (s:={s with heap:=h',toks:=tk}) (n:="range_iterator") st' rfl rfl () ⟨.int (lo+i),H,I1,⟨t,?_⟩,⟨rfl,rfl⟩,st',λb hb=>(hf b hb).1⟩⟩
  rw[Int.mul_one]
 done:=by
  intro X hP hw hK hc i pins s σ H E I hf st hg
  subst hP hw hK
  obtain⟨f0,f1,f2,f3,f4,f5⟩:=hf it ()
  exact wpAny_pyNext_range_end (I.ok.hd hc) st (by have:n<=i:=hg;omega) λh' eb=>⟨rfl,I.turned (t':=s.toks) (λb o hb e=>eb b o hb e) f0 f1 f3 f4 f5⟩
 self:=λ_ _ _ _ _ st h=>wpAny_pyIter_rangeiter st h
section
variable{X:Cx}{tg:Expr}
def DH(K:ε)(tl:TE):TI:=λσ H R=>tl σ H λx H1=>∃a,x=.ref a/\(∃xs,SqL K H1 a xs)/\R (Itl K a) H1
def EB(K:ε)(tl:TE):TI:=λσ H R=>tl σ H λx H1=>∃a,x=.ref a/\(∃xs,SqT K H1 a xs)/\R (Itt K a) H1
theorem pi_list{l:Expr}{tl:TE}(hl:PE X l tl):PI X tg l (DH X.K tl):=by
 intro pins s σ H R I h
 refine thn (hl pins s σ H _ I h) λv s1 ⟨x,H1,I1,r1,q1⟩=>?_
 obtain⟨a,e,⟨xs,hq⟩,q⟩:=q1
 subst e
 cases r1
 obtain⟨its,rv,p,hz⟩:=I1.list hq
 refine FV p.isList ?_
 refine⟨s1.heap.objs.size,[s1.heap.objs.size],_,_,H1,rfl,I1.kept (t':=s1.toks) λb o e=>ρ _ e,xc a _,⟨_,Λ _ rfl,rfl,rfl⟩,λb hb=>?_,q⟩
 have e:b=s1.heap.objs.size:=by simpa using hb
 subst e
 exact I1.fpOk (π _) (I1.hok.fresh (π _))
theorem pi_tup{l:Expr}{tl:TE}(hl:PE X l tl):PI X tg l (EB X.K tl):=by
 intro pins s σ H R I h
 refine thn (hl pins s σ H _ I h) λv s1 ⟨x,H1,I1,r1,q1⟩=>?_
 obtain⟨a,e,⟨xs,hq⟩,q⟩:=q1
 subst e
 cases r1
 obtain⟨its,rv,p,hz⟩:=I1.tuple hq
 refine EO (show s1.heap.IsTuple a its.toArray from p) ?_
 refine⟨s1.heap.objs.size,[s1.heap.objs.size],_,_,H1,rfl,I1.kept (t':=s1.toks) λb o e=>ρ _ e,ut a _,⟨_,Λ _ rfl,rfl,rfl⟩,λb hb=>?_,q⟩
 have e:b=s1.heap.objs.size:=by simpa using hb
 subst e
 exact I1.fpOk (π _) (I1.hok.fresh (π _))
theorem xO{pins:List (Addr×Obj)}{σ:St}{H:Hp}{s:ι}{R:It->Hp->Prop}{E:ζ->ι->Prop}{lo hi:Int}{t u v:Tok}{tk:Nat}(I:Inv X pins σ H s)(h1:-(2^62)<=lo)(h2:lo<2^62)(h3:-(2^62)<=hi)(h4:hi<2^62)
  (q:R (Itr lo (hi-lo).toNat) H):wpAny (model X.prog X.w) X.A (pyIter (.ref s.heap.objs.size)) (PIE X pins σ tg R) E {s with heap:=s.heap.push {cls:=.type "range",data:=.fields #[.int lo t,.int hi u,.int 1 v]},toks:=tk}:=by
 refine wpAny_pyIter_range (IsRange.new ..) (small_one h1 h2 h3 h4) ?_
 have I1:Inv X pins σ H {s with heap:=s.heap.push {cls:=.type "range",data:=.fields #[.int lo t,.int hi u,.int 1 v]},toks:=tk}:=I.kept λb o e=>ρ _ e
 refine⟨(s.heap.push {cls:=.type "range",data:=.fields #[.int lo t,.int hi u,.int 1 v]}).objs.size,[(s.heap.push {cls:=.type "range",data:=.fields #[.int lo t,.int hi u,.int 1 v]}).objs.size],_,_,H,rfl,
  I1.kept (t':=tk) λb o e=>ρ _ e,sH _ lo (hi-lo).toNat,?_,λb hb=>?_,q⟩
 ·have e1:lo+((0:Nat):Int)*1=lo:=by simp
  have e2:(((hi-lo).toNat:Nat):Int)-((0:Nat):Int)=v_.Range.rangeSize lo hi 1:=by rw[rangeSize_one];split<;>omega
  show IsRangeIter _ _ (lo+((0:Nat):Int)*1) ((((hi-lo).toNat:Nat):Int)-((0:Nat):Int)) 1
  rw[e1,e2]
  exact Λ _ rfl
 ·have e:b=(s.heap.push {cls:=.type "range",data:=.fields #[.int lo t,.int hi u,.int 1 v]}).objs.size:=by simpa using hb
  subst e
  exact I1.fpOk (π _) (I1.hok.fresh (π _))
def Ds(ta:TA):TI:=λσ H R=>ta σ H λvs H1=>∃j:Int,vs=[.int j]/\-(2^62)<=j/\j<2^62/\R (Itr 0 j.toNat) H1
theorem pi_range1{a:Expr}{ta:TA}{p pos:Pos}(hg:Gl X "range")(hm:X.mg "range"=none)(ha:PA X [a] ta)(hs:starEach [a] X.env=[(false,eval a X.env)]:=by rfl):PI X tg (.Call (.Name "range" p) [a] [] pos) (Ds ta):=by
 intro pins s σ H R I h
 refine Call_ (fc I hg hm boot_range (b_ (thn (ha pos pins s σ H _ I h) λus s1 ⟨vs,H1,I1,r1,q1⟩=>?_) hs rfl))
 obtain⟨j,e,q1,q2,q⟩:=q1
 subst e
 cases r1 with
 |cons r rr=>
  cases rr
  obtain⟨t,rfl⟩:=r
  exact call_range_1 (xO I1 () () q1 q2 (by simpa using q))
def Ek(wi:TI)(g:TG)(tb:TS):TS:=λD σ H=>wi σ H λJ H1=>∃W:Nat->Nat->St->Hp->Prop,(∃m,W 0 m σ H1)/\∀i m σ H,W i m σ H ->
 (J.stop i H/\D.nx σ H)\/(J.go i H/\∃N:St->Hp->Prop,(∀σ' H',N σ' H'->∃m',m'<m/\W (i+1) m' σ' H')/\∀x H',J.yld i H x H'->g x σ H' λσ2 H2=>tb {D with nx:=N,ct:=N,bk:=D.nx} σ2 H2)
def me(fp:List Addr)(h:Heap):List (Addr×Obj):=fp.filterMap λb=>(h.get? b).map λo=>(b,o)
theorem eL{fp:List Addr}{h:Heap}{b:Addr}{o:Obj}(hb:b∈fp)(e:h.get? b=some o):(b,o)∈me fp h:=EN.mpr ⟨b,hb,by rw[e];rfl⟩
theorem xl{fp:List Addr}{h:Heap}{p:Addr×Obj}(hp:p∈me fp h):p.1∈fp/\h.get? p.1=some p.2:=by
 obtain⟨b,hb,e⟩:=EN.mp hp
 cases q:h.get? b with
 |none=>rw[q]at e;cases e
 |some o=>
  rw[q]at e
  have e':(b,o)=p:=Ϛ e
  subst e'
  exact⟨hb,q⟩
theorem Inv.pinned{pins:List (Addr×Obj)}{σ:St}{H:Hp}{s:ι}{fp:List Addr}(I:Inv X pins σ H s)(hf:∀b∈fp,mh X pins H b)(ho:∀b∈fp,∃o,s.heap.get? b=some o/\∀v,o.data≠.cell v):Inv X (pins++me fp s.heap) σ H s:=
 I.pins_of λp hp=>(Τ.mp hp).elim (λz=>I.pin p (ϔ _ z)) λz=>by
  obtain⟨hb,e⟩:=xl z
  obtain⟨f0,f1,f2,_⟩:=hf p.1 hb
  obtain⟨o,e',d⟩:=ho p.1 hb
  rw[e]at e';cases e'
  exact⟨e,f0,f1,f2,d⟩
theorem Inv.unpinned{pins pl:List (Addr×Obj)}{σ:St}{H:Hp}{s:ι}(I:Inv X (pins++pl) σ H s):Inv X pins σ H s:=I.pins_of λp hp=>I.pin p (ϔ _ (B3 _ hp))
theorem ps_for{iter:Expr}{body:List Stmt}{wi:TI}{g:TG}{tb:TS}{pos:Pos}(hp:PassesOwn (model X.prog X.w) X.A X.env X.xe)(hc:X.calm=true)(hi:PI X tg iter wi)(hg:PG X tg g)(hb:PSs X body tb)
  (hs:∀x,foldedSetIterable iter X.env x=pure x:=by intro _;rfl):PS X (.For tg iter body [] pos) (Ek wi g tb):=by
 intro pins s σ H D I h
 refine wpAny_For (thn (hi pins s σ H _ I h) λv s1 h1=>thn h1 λitv s2 h2=>?_) hs
 obtain⟨it,fp,tn,J,H2,e,I2,T,st2,f2,W,⟨m0,w0⟩,turn⟩:=h2
 subst e
 have stat:∀{H':Hp},(∀b∈fp,H' b=none)->∀b∈fp,mh X pins H' b:=λhn b hb=>⟨hn b hb,(f2 b hb).2⟩
 refine codeAny_forLoop_any (λn s'=>∃i σ' H',Inv X pins σ' H' s'/\tn i s'.heap/\(∀b∈fp,H' b=none)/\W i n σ' H') ?_ m0 ⟨0,σ,H2,I2,st2,λb hb=>(f2 b hb).1,w0⟩
 rintro n s3 ⟨i,σ3,H3,I3,st3,fr3,w3⟩
 rcases turn i n σ3 H3 w3 with ⟨stop,qn⟩|⟨go,N,hN,step⟩
 ·refine u8 hp (thn (T.done X rfl rfl rfl hc i pins s3 σ3 H3 X.xe I3 (stat fr3) st3 stop) λr s4 ⟨hr,I4⟩=>?_)
  subst hr
  exact Fd ⟨σ3,H3,I4,qn⟩
 ·refine u8 hp (thn (T.item X rfl rfl rfl hc i pins s3 σ3 H3 X.xe I3 (stat fr3) st3 go) λr s4 ⟨u,hr,h4⟩=>?_)
  subst hr
  refine u8 hp (thn h4 λ_ s5 ⟨x,H5,I5,r5,y5,st5,fr5⟩=>?_)
  have I5':=I5.pinned (stat fr5) (T.obj _ _ st5)
  refine u8 hp (thn (hg _ s5 σ3 H5 x u _ I5' r5 (step x H5 y5)) λ_ s6 ⟨σ6,H6,I6,q6⟩=>?_)
  refine u8 hp (thn (hb _ s6 σ6 H6 _ I6 q6) λf s7 q7=>?_)
  have again:∀{σ7:St}{H7:Hp},Inv X (pins++me fp s5.heap) σ7 H7 s7->N σ7 H7->∃m,m<n/\∃i σ' H',Inv X pins σ' H' s7/\tn i s7.heap/\(∀b∈fp,H' b=none)/\W i m σ' H':=λ{σ7 H7} I7 n7=>by
   obtain⟨m',hm,w7⟩:=hN σ7 H7 n7
   refine⟨m',hm,i+1,σ7,H7,I7.unpinned,T.keep _ _ _ st5 λb hb o e=>(I7.pin (b,o) (ϔ _ (ϔ _ (eL hb e)))).1,λb hb=>?_,w7⟩
   obtain⟨o,e,d⟩:=T.obj _ _ st5 b hb
   exact(I7.pin (b,o) (ϔ _ (ϔ _ (eL hb e)))).2.1
  cases f with
  |next=>obtain⟨σ7,H7,I7,n7⟩:=q7;exact again I7 n7
  |cont=>obtain⟨σ7,H7,I7,n7⟩:=q7;exact again I7 n7
  |brk=>obtain⟨σ7,H7,I7,q7⟩:=q7;exact⟨σ7,H7,I7.unpinned,q7⟩
  |ret v=>obtain⟨x7,σ7,H7,I7,r7,q7⟩:=q7;exact⟨x7,σ7,H7,I7.unpinned,r7,q7⟩
end
theorem pO{K:ε}{a:Addr}{xs:List V}{g:TG}{tb:TS}{D:bZ}{σ:St}{H:Hp}(Pv:Nat->St->Hp->Prop)(h0:Pv 0 σ H)(hl:∀i σ H,i<=xs.length->Pv i σ H->SqL K H a xs)
  (hs:∀i x σ H,xs[i]?=some x->Pv i σ H->g x σ H λσ2 H2=>tb {D with nx:=Pv (i+1),ct:=Pv (i+1),bk:=D.nx} σ2 H2) (hd:∀σ H,Pv xs.length σ H->D.nx σ H):
  ∃W:Nat->Nat->St->Hp->Prop,(∃m,W 0 m σ H)/\∀i m σ H,W i m σ H ->
   ((Itl K a).stop i H/\D.nx σ H)\/((Itl K a).go i H/\∃N:St->Hp->Prop,(∀σ' H',N σ' H'->∃m',m'<m/\W (i+1) m' σ' H')/\∀x H',(Itl K a).yld i H x H'->g x σ H' λσ2 H2=>tb {D with nx:=N,ct:=N,bk:=D.nx} σ2 H2):=by
 refine⟨λi m σ H=>m=xs.length-i/\i<=xs.length/\Pv i σ H,⟨xs.length,(),ϊ _,h0⟩,?_⟩
 rintro i m σ H ⟨rfl,hi,p⟩
 have q:=hl i σ H hi p
 by_cases hlt:i<xs.length
 ·refine .inr ⟨⟨xs,xs[i],q,by simp[hlt]⟩,Pv (i+1),λσ' H' p'=>⟨xs.length-(i+1),(),rfl,hlt,p'⟩,λx H' y=>?_⟩
  obtain⟨e,y⟩:=y
  subst e
  exact hs i x σ _ (y xs q) p
 ·have e:i=xs.length:=by omega
  subst e
  exact .inl ⟨⟨xs,q,π _⟩,hd σ H p⟩
theorem vT{K:ε}{a:Addr}{xs:List V}{g:TG}{tb:TS}{D:bZ}{σ:St}{H:Hp}(Pv:Nat->St->Hp->Prop)(h0:Pv 0 σ H)(hl:∀i σ H,i<=xs.length->Pv i σ H->SqT K H a xs)
  (hs:∀i x σ H,xs[i]?=some x->Pv i σ H->g x σ H λσ2 H2=>tb {D with nx:=Pv (i+1),ct:=Pv (i+1),bk:=D.nx} σ2 H2) (hd:∀σ H,Pv xs.length σ H->D.nx σ H):
  ∃W:Nat->Nat->St->Hp->Prop,(∃m,W 0 m σ H)/\∀i m σ H,W i m σ H ->
   ((Itt K a).stop i H/\D.nx σ H)\/((Itt K a).go i H/\∃N:St->Hp->Prop,(∀σ' H',N σ' H'->∃m',m'<m/\W (i+1) m' σ' H')/\∀x H',(Itt K a).yld i H x H'->g x σ H' λσ2 H2=>tb {D with nx:=N,ct:=N,bk:=D.nx} σ2 H2):=by
 refine⟨λi m σ H=>m=xs.length-i/\i<=xs.length/\Pv i σ H,⟨xs.length,(),ϊ _,h0⟩,?_⟩
 rintro i m σ H ⟨rfl,hi,p⟩
 have q:=hl i σ H hi p
 by_cases hlt:i<xs.length
 ·refine .inr ⟨⟨xs,xs[i],q,by simp[hlt]⟩,Pv (i+1),λσ' H' p'=>⟨xs.length-(i+1),(),rfl,hlt,p'⟩,λx H' y=>?_⟩
  obtain⟨e,y⟩:=y
  subst e
  exact hs i x σ _ (y xs q) p
 ·have e:i=xs.length:=by omega
  subst e
  exact .inl ⟨⟨xs,q,π _⟩,hd σ H p⟩
theorem nu{lo:Int}{n:Nat}{g:TG}{tb:TS}{D:bZ}{σ:St}{H:Hp}(Pv:Nat->St->Hp->Prop)(h0:Pv 0 σ H)
  (hs:∀i σ H,i<n->Pv i σ H->g (.int (lo+i)) σ H λσ2 H2=>tb {D with nx:=Pv (i+1),ct:=Pv (i+1),bk:=D.nx} σ2 H2) (hd:∀σ H,Pv n σ H->D.nx σ H):
  ∃W:Nat->Nat->St->Hp->Prop,(∃m,W 0 m σ H)/\∀i m σ H,W i m σ H ->
   ((Itr lo n).stop i H/\D.nx σ H)\/((Itr lo n).go i H/\∃N:St->Hp->Prop,(∀σ' H',N σ' H'->∃m',m'<m/\W (i+1) m' σ' H')/\∀x H',(Itr lo n).yld i H x H'->g x σ H' λσ2 H2=>tb {D with nx:=N,ct:=N,bk:=D.nx} σ2 H2):=by
 refine⟨λi m σ H=>m=n-i/\i<=n/\Pv i σ H,⟨n,(),ϊ _,h0⟩,?_⟩
 rintro i m σ H ⟨rfl,hi,p⟩
 by_cases hlt:i<n
 ·refine .inr ⟨hlt,Pv (i+1),λσ' H' p'=>⟨n-(i+1),(),rfl,hlt,p'⟩,λx H' y=>?_⟩
  obtain⟨e,y⟩:=y
  subst e y
  exact hs i σ _ hlt p
 ·have e:i=n:=by omega
  subst e
  exact .inl ⟨π _,hd σ H p⟩
abbrev R2:=V->V->Hp->VK->Prop
def OpR(X:Cx)(f:ζ->ζ->Sem ζ)(r:R2):Prop:=
 ∀(pins:List (Addr×Obj))(s:ι)(σ:St)(H:Hp)(x y:V)(v u:ζ)(Q:VK),Inv X pins σ H s->aL x v->aL y u->r x y H Q ->
  wpAny (model X.prog X.w) X.A (f v u) (EP X pins σ Q) X.xe s
def UnR(X:Cx)(f:ζ->Sem ζ)(r:V->Hp->VK->Prop):Prop:=
 ∀(pins:List (Addr×Obj))(s:ι)(σ:St)(H:Hp)(x:V)(v:ζ)(Q:VK),Inv X pins σ H s->aL x v->r x H Q ->
  wpAny (model X.prog X.w) X.A (f v) (EP X pins σ Q) X.xe s
def cK(X:Cx)(f:ζ)(r:List V->Hp->VK->Prop):Prop:=
 ∀(pins:List (Addr×Obj))(s:ι)(σ:St)(H:Hp)(xs:List V)(us:List ζ)(Q:VK),Inv X pins σ H s->aF xs us->r xs H Q ->
  wpAny (model X.prog X.w) X.A (call f us) (EP X pins σ Q) X.xe s
def Ec(X:Cx)(r:V->Hp->(Bool->Hp->Prop)->Prop):Prop:=
 ∀(pins:List (Addr×Obj))(s:ι)(σ:St)(H:Hp)(x:V)(v:ζ)(Q:Bool->Hp->Prop),Inv X pins σ H s->aL x v->r x H Q ->
  wpAny (model X.prog X.w) X.A (truthy v) (TP X pins σ Q) X.xe s
def tOp(r:R2)(ta tb:TE):TE:=λσ H Q=>ta σ H λx H1=>tb σ H1 λy H2=>r x y H2 Q
def tUn(r:V->Hp->VK->Prop)(ta:TE):TE:=λσ H Q=>ta σ H λx H1=>r x H1 Q
def rI(C:Int->Int->Prop)(g:Int->Int->V):R2:=λx y H Q=>∃i j,x=.int i/\y=.int j/\C i j/\Q (g i j) H
def rI0(g:Int->Int->V):R2:=λx y H Q=>∃i j,x=.int i/\y=.int j/\Q (g i j) H
def rU(g:Int->V):V->Hp->VK->Prop:=λx H Q=>∃i,x=.int i/\Q (g i) H
section
variable{X:Cx}{a b c:Expr}{ta tb tc:TE}{pos:Pos}
theorem Cm(ha:PE X a ta)(hb:PE X b tb){pins:List (Addr×Obj)}{s:ι}{σ:St}{H:Hp}{R:V->V->Hp->Prop}(I:Inv X pins σ H s)
  (h:ta σ H λx H1=>tb σ H1 λy H2=>R x y H2) {Q:ζ->ι->Prop} {f:ζ->ζ->Sem ζ}
  (hf:∀v u s2 x y H2,Inv X pins σ H2 s2->aL x v->aL y u->R x y H2->wpAny (model X.prog X.w) X.A (f v u) Q X.xe s2):
  wpAny (model X.prog X.w) X.A (eval a X.env) (λv s₁=>wpAny (model X.prog X.w) X.A (eval b X.env) (λu s₂=>wpAny (model X.prog X.w) X.A (f v u) Q X.xe s₂) X.xe s₁) X.xe s:=by
 refine thn (ha pins s σ H _ I h) λv s1 ⟨x,H1,I1,r1,q1⟩=>?_
 refine thn (hb pins s1 σ H1 _ I1 q1) λu s2 ⟨y,H2,I2,r2,q2⟩=>?_
 exact hf v u s2 x y H2 I2 r1 r2 q2
theorem pe_op{op:Gx}{r:R2}(ho:OpR X (binaryOp op) r)(ha:PE X a ta)(hb:PE X b tb):PE X (.BinOp a op b pos) (tOp r ta tb):=by
 intro pins s σ H Q I h
 exact wpAny_BinOp (Cm ha hb I h λv u s2 x y H2 I2 rx ry q=>ho pins s2 σ H2 x y v u Q I2 rx ry q)
theorem pe_un{op:UnaryOp}{r:V->Hp->VK->Prop}(ho:UnR X (unaryOp op) r)(ha:PE X a ta):PE X (.UnaryOp op a pos) (tUn r ta):=by
 intro pins s σ H Q I h
 exact UnaryOp_ (thn (ha pins s σ H _ I h) λv s1 ⟨x,H1,I1,r1,q1⟩=>ho pins s1 σ H1 x v Q I1 r1 q1)
theorem opI{f:ζ->ζ->Sem ζ}{C:Int->Int->Prop}{g:Int->Int->Int}
  (rule:∀(i j:Int)(t u:Tok)(s:ι)(Q:ζ->ι->Prop)(E:ζ->ι->Prop),C i j->Q (.int (g i j) s.toks) {s with toks:=s.toks+1}->wpAny (model X.prog X.w) X.A (f (.int i t) (.int j u)) Q E s):
  OpR X f (rI C λi j=>.int (g i j)):=by
 intro pins s σ H x y v u Q I rx ry h
 obtain⟨i,j,rfl,rfl,hc,q⟩:=h
 obtain⟨t,rfl⟩:=rx
 obtain⟨t',rfl⟩:=ry
 exact rule i j t t' s _ _ hc ⟨.int (g i j),H,I.tok _,⟨_,rfl⟩,q⟩
theorem DM{f:ζ->ζ->Sem ζ}{g:Int->Int->Int}
  (rule:∀(i j:Int)(t u:Tok)(s:ι)(Q:ζ->ι->Prop)(E:ζ->ι->Prop),Q (.int (g i j) s.toks) {s with toks:=s.toks+1}->wpAny (model X.prog X.w) X.A (f (.int i t) (.int j u)) Q E s):
  OpR X f (rI0 λi j=>.int (g i j)):=by
 intro pins s σ H x y v u Q I rx ry h
 obtain⟨i,j,rfl,rfl,q⟩:=h
 obtain⟨t,rfl⟩:=rx
 obtain⟨t',rfl⟩:=ry
 exact rule i j t t' s _ _ ⟨.int (g i j),H,I.tok _,⟨_,rfl⟩,q⟩
theorem zu{f:ζ->ζ->Sem ζ}{g:Int->Int->Bool}
  (rule:∀(i j:Int)(t u:Tok)(s:ι)(Q:ζ->ι->Prop)(E:ζ->ι->Prop),Q (.bool (g i j)) s->wpAny (model X.prog X.w) X.A (f (.int i t) (.int j u)) Q E s):
  OpR X f (rI0 λi j=>.bl (g i j)):=by
 intro pins s σ H x y v u Q I rx ry h
 obtain⟨i,j,rfl,rfl,q⟩:=h
 obtain⟨t,rfl⟩:=rx
 obtain⟨t',rfl⟩:=ry
 exact rule i j t t' s _ _ ⟨.bl (g i j),H,I,rfl,q⟩
def Bo(i j:Int):Prop:=0<=j/\j<=1000000/\i.natAbs<2^64
def Cr(i j:Int):Prop:=(-(2^64)<i/\i<2^64)\/(-(2^64)<j/\j<2^64)
theorem Cr.ok{i j:Int}(h:Cr i j):IntMulOk i j:=by
 rcases h with ⟨h1,h2⟩|⟨h1,h2⟩
 ·exact .of_left (intBits_le_64 h1 h2)
 ·exact .of_right (intBits_le_64 h1 h2)
theorem bO:OpR X (binaryOp .Add) (rI0 λi j=>.int (i+j)):=DM λ_ _ _ _ _ _ _ q=>add_int q
theorem cn:OpR X (binaryOp .Sub) (rI0 λi j=>.int (i-j)):=DM λ_ _ _ _ _ _ _ q=>sub_int q
theorem gN:OpR X (binaryOp .Mult) (rI Cr λi j=>.int (i*j)):=opI λ_ _ _ _ _ _ _ hc q=>mul_int q hc.ok
theorem gP:OpR X (binaryOp .Mod) (rI (λ_ j=>0<j) λi j=>.int (i%j)):=opI λi j _ _ _ _ _ hc q=>by
 have h1:(0:Int)<j:=hc
 exact mod_int' () (by rw[Int.fmod_eq_emod_of_nonneg i ()];exact q)
theorem sY:OpR X (binaryOp .Pow) (rI Bo λi j=>.int (i^j.toNat)):=opI λ_ _ _ _ _ _ _ hc q=>pow_int_small hc.1 hc.2.1 hc.2.2 q
theorem unI{f:ζ->Sem ζ}{g:Int->Int}
  (rule:∀(i:Int)(t:Tok)(s:ι)(Q:ζ->ι->Prop)(E:ζ->ι->Prop),Q (.int (g i) s.toks) {s with toks:=s.toks+1}->wpAny (model X.prog X.w) X.A (f (.int i t)) Q E s):
  UnR X f (rU λi=>.int (g i)):=by
 intro pins s σ H x v Q I rx h
 obtain⟨i,rfl,q⟩:=h
 obtain⟨t,rfl⟩:=rx
 exact rule i t s _ _ ⟨.int (g i),H,I.tok _,⟨_,rfl⟩,q⟩
theorem rZ:UnR X (unaryOp .USub) (rU λi=>.int (-i)):=unI λ_ _ _ _ _ q=>neg_int q
end
def Dl:V->V->Bool
 |.non,.non=>true|.non,.int _=>true|.int _,.non=>true|.non,.bl _=>true|.bl _,.non=>true|.non,.str _=>true|.str _,.non=>true
 |.int _,.int _=>true|.bl _,.bl _=>true|.str _,.str _=>true|.byt _,.byt _=>true
 |.int _,.str _=>true|.str _,.int _=>true|.bl _,.str _=>true|.str _,.bl _=>true
 |_,_=>false
def rEq:R2:=λx y H Q=>Dl x y=true/\Q (.bl (decide (x=y))) H
def rNe:R2:=λx y H Q=>Dl x y=true/\Q (.bl (!decide (x=y))) H
theorem uM{i j:Int}:decide (V.int i=V.int j)=(i==j):=by
 rw[o9]
 simp
theorem yh{i j:Bool}:decide (V.bl i=V.bl j)=(i==j):=by
 rw[o9]
 simp
theorem ve{i j:Str}:decide (V.str i=V.str j)=(i==j):=by
 rw[o9]
 simp
theorem vC{i j:Array UInt8}:decide (V.byt i=V.byt j)=(i.toList==j.toList):=by
 rw[o9]
 cases i
 cases j
 simp
section
variable{X:Cx}{a b c:Expr}{ta tb tc:TE}{pos:Pos}
theorem aO{pins:List (Addr×Obj)}{σ:St}{H:Hp}{s:ι}{Q:VK}{k k':Bool}(I:Inv X pins σ H s)(q:Q (.bl k) H)(e:k=k'):EP X pins σ Q (.bool k') s:=by
 subst e
 exact⟨.bl k,H,I,rfl,q⟩
theorem aw:OpR X (compareOp .Eq) rEq:=by
 intro pins s σ H x y v u Q I rx ry h
 obtain⟨hs,q⟩:=h
 cases x with
 |non=>
  cases rx
  cases y with
  |non=>cases ry;exact PySem.EqNone.eq_none_none (aO I q ())
  |bl j=>cases ry;exact PySem.EqNone.eq_none_bool (aO I q ())
  |int j=>obtain⟨t',rfl⟩:=ry;exact PySem.EqNone.eq_none_int (aO I q ())
  |str j=>obtain⟨t',rfl⟩:=ry;exact PySem.EqNone.eq_none_str (aO I q ())
  |_=>exact absurd (show false=true from hs) Ξ
 |bl i=>
  cases rx
  cases y with
  |non=>cases ry;exact PySem.EqNone.eq_bool_none (aO I q ())
  |bl j=>cases ry;exact eq_bool (aO I q yh)
  |str j=>obtain⟨t',rfl⟩:=ry;exact PySem.EqMixed.eq_bool_str (aO I q ())
  |_=>exact absurd (show false=true from hs) Ξ
 |int i=>
  obtain⟨t,rfl⟩:=rx
  cases y with
  |non=>cases ry;exact PySem.EqNone.eq_int_none (aO I q ())
  |int j=>obtain⟨t',rfl⟩:=ry;exact eq_int (aO I q uM)
  |str j=>obtain⟨t',rfl⟩:=ry;exact PySem.EqMixed.eq_int_str (aO I q ())
  |_=>exact absurd (show false=true from hs) Ξ
 |str i=>
  obtain⟨t,rfl⟩:=rx
  cases y with
  |non=>cases ry;exact PySem.EqNone.eq_str_none (aO I q ())
  |bl j=>cases ry;exact PySem.EqMixed.eq_str_bool (aO I q ())
  |int j=>obtain⟨t',rfl⟩:=ry;exact PySem.EqMixed.eq_str_int (aO I q ())
  |str j=>obtain⟨t',rfl⟩:=ry;exact eq_str (aO I q ve)
  |_=>exact absurd (show false=true from hs) Ξ
 |byt i=>
  obtain⟨t,rfl⟩:=rx
  cases y with
  |byt j=>obtain⟨t',rfl⟩:=ry;exact PySem.W.eq_bytes (aO I q vC)
  |_=>exact absurd (show false=true from hs) Ξ
 |_=>cases y<;>exact absurd (show false=true from hs) Ξ
theorem eT:OpR X (compareOp .NotEq) rNe:=by
 intro pins s σ H x y v u Q I rx ry h
 obtain⟨hs,q⟩:=h
 cases x with
 |non=>
  cases rx
  cases y with
  |non=>cases ry;exact PySem.EqNone.ne_none_none (aO I q ())
  |bl j=>cases ry;exact PySem.EqNone.ne_none_bool (aO I q ())
  |int j=>obtain⟨t',rfl⟩:=ry;exact PySem.EqNone.ne_none_int (aO I q ())
  |str j=>obtain⟨t',rfl⟩:=ry;exact PySem.EqNone.ne_none_str (aO I q ())
  |_=>exact absurd (show false=true from hs) Ξ
 |bl i=>
  cases rx
  cases y with
  |non=>cases ry;exact PySem.EqNone.ne_bool_none (aO I q ())
  |bl j=>cases ry;exact ne_bool (aO I q (congrArg not yh))
  |str j=>obtain⟨t',rfl⟩:=ry;exact PySem.EqMixed.ne_bool_str (aO I q ())
  |_=>exact absurd (show false=true from hs) Ξ
 |int i=>
  obtain⟨t,rfl⟩:=rx
  cases y with
  |non=>cases ry;exact PySem.EqNone.ne_int_none (aO I q ())
  |int j=>obtain⟨t',rfl⟩:=ry;exact ne_int (aO I q (congrArg not uM))
  |str j=>obtain⟨t',rfl⟩:=ry;exact PySem.EqMixed.ne_int_str (aO I q ())
  |_=>exact absurd (show false=true from hs) Ξ
 |str i=>
  obtain⟨t,rfl⟩:=rx
  cases y with
  |non=>cases ry;exact PySem.EqNone.ne_str_none (aO I q ())
  |bl j=>cases ry;exact PySem.EqMixed.ne_str_bool (aO I q ())
  |int j=>obtain⟨t',rfl⟩:=ry;exact PySem.EqMixed.ne_str_int (aO I q ())
  |str j=>obtain⟨t',rfl⟩:=ry;exact ne_str (aO I q (congrArg not ve))
  |_=>exact absurd (show false=true from hs) Ξ
 |byt i=>
  obtain⟨t,rfl⟩:=rx
  cases y with
  |byt j=>obtain⟨t',rfl⟩:=ry;exact PySem.W.ne_bytes (aO I q (congrArg not vC))
  |_=>exact absurd (show false=true from hs) Ξ
 |_=>cases y<;>exact absurd (show false=true from hs) Ξ
theorem jk:OpR X (compareOp .Lt) (rI0 λi j=>.bl (decide (i<j))):=zu λ_ _ _ _ _ _ _ q=>lt_int q
theorem ir:OpR X (compareOp .LtE) (rI0 λi j=>.bl (decide (i<=j))):=zu λ_ _ _ _ _ _ _ q=>le_int q
theorem eR:OpR X (compareOp .Gt) (rI0 λi j=>.bl (decide (j<i))):=zu λ_ _ _ _ _ _ _ q=>gt_int q
theorem AS:OpR X (compareOp .GtE) (rI0 λi j=>.bl (decide (j<=i))):=zu λ_ _ _ _ _ _ _ q=>ge_int q
theorem iC:OpR X (compareOp .Is) (λx y H Q=>y=.non/\Q (.bl (decide (x=.non))) H):=by
 intro pins s σ H x y v u Q I rx ry h
 obtain⟨rfl,q⟩:=h
 cases ry
 refine is_none_gen (aO I q ?_)
 cases x<;>first
  |(cases rx;rfl)
  |(obtain⟨t,rfl⟩:=rx;rfl)
theorem ai(b:Expr){op:CmpOp}(h:op≠.In:=by decide)(h2:op≠.NotIn:=by decide):behindInMarks op b=false:=by
 have e1:(op==CmpOp.In)=false:=by cases op<;>first|rfl|exact absurd rfl h
 have e2:(op==CmpOp.NotIn)=false:=by cases op<;>first|rfl|exact absurd rfl h2
 cases b<;>simp[behindInMarks,e1,e2]
theorem pe_cmpR{op:CmpOp}{r:R2}(ho:OpR X (compareOp op) r)(ha:PE X a ta)(hb:PE X b tb)(hm:behindInMarks op b=false):PE X (.Compare a [op] [b] pos) (tOp r ta tb):=by
 intro pins s σ H Q I h
 exact wpAny_Compare1 (Cm ha hb I h λv u s2 x y H2 I2 rx ry q=>ho pins s2 σ H2 x y v u Q I2 rx ry q) hm
def AY(t:TE):TT:=λσ H Q=>t σ H λx H'=>∃k,x=.bl k/\Q k H'
theorem pt_cmpR{op:CmpOp}{r:R2}(ho:OpR X (compareOp op) r)(ha:PE X a ta)(hb:PE X b tb)(hm:behindInMarks op b=false):PT X (.Compare a [op] [b] pos) (AY (tOp r ta tb)):=by
 intro pins s σ H Q I h
 refine wpAny_isTrue_Compare1 (thn (ha pins s σ H _ I h) λv s1 ⟨x,H1,I1,r1,q1⟩=>thn (hb pins s1 σ H1 _ I1 q1) λu s2 ⟨y,H2,I2,r2,q2⟩=>
  thn (ho pins s2 σ H2 x y v u _ I2 r1 r2 q2) λc s3 ⟨z,H3,I3,r3,k,e,q3⟩=>?_) hm
 subst e
 cases r3
 exact a_ ⟨H3,I3,q3⟩
def xQ(r r':R2)(ta tb tc:TE):TE:=λσ H Q=>ta σ H λx H1=>tb σ H1 λy H2=>r x y H2 λz H3=>∃k,z=.bl k /\
 (if k=true then tc σ H3 λw' H4=>r' y w' H4 Q else Q (.bl false) H3)
theorem pe_chain{op op':CmpOp}{r r':R2}(ho:OpR X (compareOp op) r)(ho':OpR X (compareOp op') r')(ha:PE X a ta)(hb:PE X b tb)(hc:PE X c tc)
  (hm:lastMarks [op,op'] [b,c]=false:=by with_unfolding_all rfl):PE X (.Compare a [op,op'] [b,c] pos) (xQ r r' ta tb tc):=by
 intro pins s σ H Q I h
 refine Compare_chain (thn (ha pins s σ H _ I h) λv s1 ⟨x,H1,I1,r1,q1⟩=>chain_link (thn (hb pins s1 σ H1 _ I1 q1) λu s2 ⟨y,H2,I2,r2,q2⟩=>
  thn (ho pins s2 σ H2 x y v u _ I2 r1 r2 q2) λd s3 ⟨z,H3,I3,r3,k,e,q3⟩=>?_)) hm
 subst e
 cases r3
 refine a_ ?_
 cases k with
 |false=>exact ite_ff ⟨.bl false,H3,I3,rfl,q3⟩
 |true=>exact ite_tt (chain_last (thn (hc pins s3 σ H3 _ I3 q3) λw' s4 ⟨z',H4,I4,r4,q4⟩=>ho' pins s4 σ H4 y z' u w' Q I4 r2 r4 q4))
theorem pt_chain{op op':CmpOp}{r r':R2}(ho:OpR X (compareOp op) r)(ho':OpR X (compareOp op') r')(ha:PE X a ta)(hb:PE X b tb)(hc:PE X c tc)
  (hm:lastMarks [op,op'] [b,c]=false:=by with_unfolding_all rfl):PT X (.Compare a [op,op'] [b,c] pos) (AY (xQ r r' ta tb tc)):=by
 intro pins s σ H Q I h
 refine isTrue_chain (thn (ha pins s σ H _ I h) λv s1 ⟨x,H1,I1,r1,q1⟩=>test_link (thn (hb pins s1 σ H1 _ I1 q1) λu s2 ⟨y,H2,I2,r2,q2⟩=>
  thn (ho pins s2 σ H2 x y v u _ I2 r1 r2 q2) λd s3 ⟨z,H3,I3,r3,k,e,q3⟩=>?_)) hm
 subst e
 cases r3
 refine a_ ?_
 cases k with
 |false=>
  obtain⟨k',e',q'⟩:=q3
  cases e'
  exact ite_ff ⟨H3,I3,q'⟩
 |true=>
  refine ite_tt (test_last (thn (hc pins s3 σ H3 _ I3 q3) λw' s4 ⟨z',H4,I4,r4,q4⟩=>thn (ho' pins s4 σ H4 y z' u w' _ I4 r2 r4 q4) λd' s5 ⟨z2,H5,I5,r5,k2,e2,q5⟩=>?_))
  subst e2
  cases r5
  exact a_ ⟨H5,I5,q5⟩
def zA(K:ε)(x:V)(H:Hp)(k:Bool):Prop:=
 match x with
 |.non=>k=false
 |.bl b=>k=b
 |.int i=>k=(i != 0)
 |.str y=>y.length<=sizeLine/\k=((y.length:Int) != 0)
 |.byt y=>y.size<=sizeLine/\k=((y.size:Int) != 0)
 |.ref p=>(∃xs,SqL K H p xs/\k=!xs.isEmpty)\/(∃xs,SqT K H p xs/\k=!xs.isEmpty)\/∃kvs,H p=some (.dK kvs)/\k=!kvs.isEmpty
 |_=>False
theorem sL{κ:Type}{kvs:List (κ×V)}{vs:List (κ×ζ)}(r:KV kvs vs):(!vs.isEmpty)=!kvs.isEmpty:=by
 cases r<;>rfl
theorem lZ{xs:List V}{its:List ζ}(r:aF xs its):(!its.toArray.isEmpty)=!xs.isEmpty:=by
 cases r<;>simp
theorem gB:(sizeLine:Nat)<2^63:=by rw[θ];decide
theorem BE:Ec X (λx H Q=>∃k,zA X.K x H k/\Q k H):=by
 intro pins s σ H x v Q I rx h
 obtain⟨k,e,q⟩:=h
 have hl:=gB
 have hs:sizeLine=16777216:=θ
 cases x with
 |non=>
  cases rx
  have e':k=false:=e
  subst e'
  exact truthy_none ⟨H,I,q⟩
 |bl b=>
  cases rx
  have e':k=b:=e
  subst e'
  exact a_ ⟨H,I,q⟩
 |int i=>
  obtain⟨t,rfl⟩:=rx
  have e':k=(i != 0):=e
  subst e'
  exact PySem.P.truthy_int ⟨H,I,q⟩
 |str y=>
  obtain⟨t,rfl⟩:=rx
  obtain⟨hy,e'⟩:y.length<=sizeLine/\k=((y.length:Int) != 0):=e
  subst e'
  exact PySem.P.truthy_str () ⟨H,I.tok _,q⟩
 |byt y=>
  obtain⟨t,rfl⟩:=rx
  obtain⟨hy,e'⟩:y.size<=sizeLine/\k=((y.size:Int) != 0):=e
  subst e'
  exact PySem.W.truthy_bytes () ⟨H,I.tok _,q⟩
 |ref p=>
  cases rx
  have e':(∃xs,SqL X.K H p xs/\k=!xs.isEmpty)\/(∃xs,SqT X.K H p xs/\k=!xs.isEmpty)\/∃kvs,H p=some (.dK kvs)/\k=!kvs.isEmpty:=e
  rcases e' with ⟨xs,hx,e'⟩|⟨xs,hx,e'⟩|⟨kvs,hx,e'⟩
  ·subst e'
   obtain⟨its,r,pl,hz⟩:=I.list hx
   have hlen:=r.length
   exact wpAny_truthy_list pl.isList (by simp only[Δ];omega) ⟨H,I.tok _,by rw[lZ r];exact q⟩
  ·subst e'
   obtain⟨its,r,pl,hz⟩:=I.tuple hx
   have hlen:=r.length
   exact truthy_tuple pl (by simp only[Δ];omega) ⟨H,I.tok _,by rw[lZ r];exact q⟩
  ·subst e'
   obtain⟨hz,hS,vs,r,m⟩:kvs.length<=sizeLine/\(p==sysModules)=false/\∃vs,KV kvs vs/\s.heap.DictOf (aS X.prog X.w) p vs:=I.hok p _ hx
   have hlen:kvs.length=vs.length:=Paired.length r
   exact wpAny_truthy_dict hS m () ⟨H,I.tok _,by rw[sL r];exact q⟩
 |_=>exact(show False from e).elim
theorem pt_truth(ha:PE X a ta)(he:∀whole,isTrue a X.env whole=(do let v <-whole;standAt a.pos;holding [v] (truthy v))):
  PT X a (λσ H Q=>ta σ H λx H'=>∃k,zA X.K x H' k/\Q k H'):=by
 intro pins s σ H Q I h
 exact isTrue_plain (thn (ha pins s σ H _ I h) λv s1 ⟨x,H1,I1,r1,q1⟩=>BE pins s1 σ H1 x v Q I1 r1 q1) (he _)
theorem au:OpR X (binaryOp .Add) (λx y H Q=>∃i j,x=.str i/\y=.str j/\i.length+j.length<=sizeLine/\Q (.str (i++j)) H):=by
 intro pins s σ H x y v u Q I rx ry h
 obtain⟨i,j,rfl,rfl,hz,q⟩:=h
 obtain⟨t,rfl⟩:=rx
 obtain⟨t',rfl⟩:=ry
 exact add_str (λt' tk=>⟨.str (i++j),H,I.tok _,⟨_,rfl⟩,q⟩) hz
theorem dA{x:V}{us:List ζ}(r:aF [x] us):∃u,us=[u]/\aL x u:=by
 cases r with
 |cons r1 r2=>cases r2;exact⟨_,rfl,r1⟩
theorem mQ{x y:V}{us:List ζ}(r:aF [x,y] us):∃u w',us=[u,w']/\aL x u/\aL y w':=by
 cases r with
 |cons r1 r2=>
  cases r2 with
  |cons r3 r4=>cases r4;exact⟨_,_,rfl,r1,r3⟩
theorem wI(hc:X.calm=true):cK X (.builtin "max") (λxs H Q=>∃i j,xs=[.int i,.int j]/\Q (.int (if j>i then j else i)) H):=by
 intro pins s σ H xs us Q I r h
 obtain⟨i,j,rfl,q⟩:=h
 obtain⟨u,w',rfl,⟨t,rfl⟩,⟨t',rfl⟩⟩:=mQ r
 refine max_two_ints (I.ok.hd hc) λh' tk k=>⟨_,H,I.kept k,?_,q⟩
 by_cases hj:j>i
 ·rw[Q5 hj,Q5 hj];exact⟨_,rfl⟩
 ·rw[Q6 hj,Q6 hj];exact⟨_,rfl⟩
theorem xt(hc:X.calm=true):cK X (.builtin "min") (λxs H Q=>∃i j,xs=[.int i,.int j]/\Q (.int (if j<i then j else i)) H):=by
 intro pins s σ H xs us Q I r h
 obtain⟨i,j,rfl,q⟩:=h
 obtain⟨u,w',rfl,⟨t,rfl⟩,⟨t',rfl⟩⟩:=mQ r
 refine min_two_ints (I.ok.hd hc) λh' tk k=>⟨_,H,I.kept k,?_,q⟩
 by_cases hj:j<i
 ·rw[Q5 hj,Q5 hj];exact⟨_,rfl⟩
 ·rw[Q6 hj,Q6 hj];exact⟨_,rfl⟩
theorem wS:cK X (.type "int") (λxs H Q=>(∃i,xs=[.int i]/\Q (.int i) H)\/∃k,xs=[.bl k]/\Q (.int (if k then 1 else 0)) H):=by
 intro pins s σ H xs us Q I r h
 rcases h with ⟨i,rfl,q⟩|⟨k,rfl,q⟩
 ·obtain⟨u,rfl,t,rfl⟩:=dA r
  exact call_int_int ⟨.int i,H,I,⟨_,rfl⟩,q⟩
 ·obtain⟨u,rfl,r1⟩:=dA r
  cases r1
  exact call_int_bool ⟨.int (if k then 1 else 0),H,I.tok _,⟨_,rfl⟩,q⟩
theorem ce:cK X (.type "str") (λxs H Q=>∃i,xs=[.int i]/\i.natAbs.log2<1920/\Q (.str (toString i)) H):=by
 intro pins s σ H xs us Q I r h
 obtain⟨i,rfl,hz,q⟩:=h
 obtain⟨u,rfl,t,rfl⟩:=dA r
 exact PySem.P.str_of_int hz ⟨.str _,H,I.tok _,⟨_,rfl⟩,q⟩
end
structure rY(h:Heap)(x dx C:Addr)(mA:Str->Option ζ):Prop where
 obj:h.get? x=some (m_ C dx)
 ns:h.Ns1 dx mA
 ne:dx≠x
theorem wC{h:Heap}{dx:Addr}{mA:Str->Option ζ}(n:h.Ns1 dx mA):∃od,h.get? dx=some od/\∀name,Fy name od=some (mA name):=by
 obtain⟨o,es,ep,ho,hd,hk,_,hm⟩:=n
 refine⟨o,ho,λname=>?_⟩
 have e:=hm name
 unfold nsFind findBy at e
 rw[<-Array.find?_toList]at e
 unfold Fy
 rw[hd]
 dsimp only
 split
 ·rename_i y q
  rw[q]at e
  exact congrArg some e
 ·rename_i q
  rw[q]at e
  have a:es.toList.any (·.refKey)=false:=by
   rw[FW]
   intro y hy
   obtain⟨z,t,hkey⟩:=hk y (Array.mem_toList_iff.mp hy)
   simp[E6.refKey,hkey]
  have a':¬ es.toList.any (·.refKey)=true:=by rw[a];exact Ξ
  rw[Q6 a']
  exact congrArg some e
theorem rY.look{h:Heap}{x dx C:Addr}{mA:Str->Option ζ}(I:rY h x dx C mA):∃od,PySem.W.InstAt h x (m_ C dx) C (some od)/\∀name,Fy name od=some (mA name):=
 let ⟨od,ho,hl⟩:=wC I.ns
 ⟨od,⟨I.obj,rfl,rfl,ho⟩,hl⟩
section
variable{prog:χ}{w:Ρ}{A:ό}{E:ζ->ι->Prop}{s:ι}{K:ε}{x dx C f:Addr}{mA:Str->Option ζ}{name:Str}{v:ζ}
theorem zU{expr:Bool}{Q:ζ->ι->Prop}(X:K.In s.heap)(I:rY s.heap x dx C mA)(hg:C2 K C name=true)(hh:EV K C=true)
  (ha:Ϥ K (.ref C) name=some none) (hv:mA name=some v) (hv':PySem.W.handedIn v=true) (h:Q v {s with toks:=s.toks+1}):
  wpAny (model prog w) A (getAttr (.ref x) name expr) Q E s:=by
 obtain⟨od,J,hl⟩:=I.look
 exact PySem.W.get_value X J (Fj hg).1 (PySem.W.findObj_own hh ha rfl (by rw[hl,hv])) hv' h
theorem yG{pl:Sem Bool}{Q:ζ×List ζ->ι->Prop}(X:K.In s.heap)(I:rY s.heap x dx C mA)(hg:C2 K C name=true)
  (hf:Ϥ K (.ref C) name=some (some (.ref f))) (ht:C3 K (.ref f)=true) (hv:mA name=none) (h:Q (.ref f,[.ref x]) s):
  wpAny (model prog w) A (getMethod (.ref x) name pl) Q E s:=by
 obtain⟨od,J,hl⟩:=I.look
 exact PySem.W.method_fn X J (Fj hg).1 (Fj hg).2 hf (beq_iff_eq.mp ht) (by show(Fy name od).map (·.isSome)=some false;rw[hl,hv];rfl) h
theorem zB{ns:List Str}{Q:Unit->ι->Prop}(X:K.In s.heap)(I:rY s.heap x dx C mA)
  (hs:Ϥ K (.ref C) "__setattr__"=some (some (.builtin "object.__setattr__"))) (hp:FX K C=true) (ht:Gf K C name=some none) (hh:EV K C=true)
  (hw:Gc mA ns) (hsz:ns.length<=sizeLine)
  (h:∀h',rY h' x dx C (λy=>if y=name then some v else mA y)->C1 dx s.heap h'->Q Unit.unit {s with heap:=h',toks:=s.toks+2}):
  wpAny (model prog w) A (setAttr (.ref x) name v) Q E s:=by
 obtain⟨od,J,hl⟩:=I.look
 refine PySem.W.set_plain X J hs (PySem.W.osa_open (s:={s with toks:=s.toks+1}) (r:=none) X J hp ht λb=>?_)
 obtain⟨cd,hc,hd'⟩:=PySem.W.any_some hh
 have hx:s.heap.get? x=some ⟨.ref C,some dx,.plain,#[]⟩:=I.obj
 refine η (ω (η (η (wpAny_loadPart hx (η (PySem.W.Looks.here (s:={s with toks:=s.toks+1}) (PySem.W.looks_clsIn X hc) ?_))))))
 rw[hd']
 refine ω (a:=some dx) (η (ω (η ?_)))
 refine wpAny_nsSet1 (s:={s with toks:=s.toks+1}) I.ns λh' hn2 hs2=>?_
 obtain⟨oD,esD,epD,hoD,hdD,hcD⟩:=hn2.count (Gc.cons name v hw)
 refine η (wpAny_lookBehind hoD (by rw[hdD];exact pastItsLine_dict (a7 hcD (by rw[Γ];omega))) ?_)
 exact ω (h _ ⟨(hs2.2 _ (ϋ I.ne)).trans I.obj,hn2,I.ne⟩ hs2)
theorem xP{R:Gu->ι->Prop}{vs:List ζ}{kw:List (Str×ζ)}(X:K.In s.heap)(hm:Gg K C=true)
  (hi:Ϥ K (.ref C) "__init__"=some (some (.ref f))) (hf:PySem.W.typeIn K (.ref f)=some (.type "function"))
  (h:codeAny (model prog w) (A.under (.builtin "type.__call__" ⟨.ref C::vs,kw⟩)) (.call (.ref f) ⟨.ref (s.heap.objs.size+1)::vs,kw⟩) (PySem.W.InitBack (s.heap.objs.size+1) R)
   {s with heap:=(s.heap.push i9).push (m_ C s.heap.objs.size)}):
  codeAny (model prog w) A (.call (.ref C) ⟨vs,kw⟩) R s:=by
 obtain⟨hh,g,d,t,os⟩:=s
 exact PySem.W.make_core (PySem.W.makes_of X hm) (PySem.W.looks_findIn X hi) (λself=>PySem.W.bind_fn X self hf) (.inl rfl) h
end
def dU(f:Str)(v:V):List (Str×V)->List (Str×V)
 |[]=>[(f,v)]
 |(g,x)::r=>if g=f then (g,v)::r else (g,x)::dU f v r
theorem jv(f g:Str)(v:V):∀fs:List (Str×V),(dU f v fs).lookup g=if g=f then some v else fs.lookup g
 |[]=>by
  show ϲ g [(f,v)]=_
  by_cases h:g=f
  ·have hb:(g==f)=true:=beq_iff_eq.mpr h
   simp only[ϲ,hb,Q5 h]
  ·have hb:(g==f)=false:=beq_eq_false_iff_ne.mpr h
   simp only[ϲ,hb,Q6 h]
 |(k,x)::r=>by
  have ih:=jv f g v r
  rw[show dU f v ((k,x)::r)=(if k=f then (k,v)::r else (k,x)::dU f v r)from rfl]
  by_cases hk:k=f
  ·rw[Q5 hk]
   by_cases h:g=k
   ·have hb:(g==k)=true:=beq_iff_eq.mpr h
    simp only[ϲ,hb,Q5 (h.trans hk)]
   ·have hb:(g==k)=false:=beq_eq_false_iff_ne.mpr h
    simp only[ϲ,hb,Q6 (λe:g=f=>h (e.trans hk.symm))]
  ·rw[Q6 hk]
   by_cases h:g=k
   ·have hb:(g==k)=true:=beq_iff_eq.mpr h
    simp only[ϲ,hb,Q6 (λe:g=f=>hk (h.symm.trans e))]
   ·have hb:(g==k)=false:=beq_eq_false_iff_ne.mpr h
    simp only[ϲ,hb]
    exact ih
theorem iS(f:Str)(v:V):∀fs:List (Str×V),f∈(dU f v fs).map (·.1)/\∀g,g∈fs.map (·.1)->g∈(dU f v fs).map (·.1)
 |[]=>⟨by simp[dU],λg h=>by simp at h⟩
 |(k,x)::r=>by
  obtain⟨i1,i2⟩:=iS f v r
  rw[show dU f v ((k,x)::r)=(if k=f then (k,v)::r else (k,x)::dU f v r)from rfl]
  by_cases hk:k=f
  ·rw[Q5 hk]
   subst hk
   exact⟨(),λg h=>by simpa using h⟩
  ·rw[Q6 hk]
   refine⟨?_,λg h=>?_⟩
   ·rw[Χ]
    exact Ε _ i1
   ·rw[Χ]at h⊢
    rcases ν.mp h with e|e
    ·exact ν.mpr (.inl e)
    ·exact Ε _ (i2 g e)
theorem jl(f:Str)(v:V):∀fs:List (Str×V),(dU f v fs).length<=fs.length+1
 |[]=>by simp[dU]
 |(k,x)::r=>by
  have ih:=jl f v r
  rw[show dU f v ((k,x)::r)=(if k=f then (k,v)::r else (k,x)::dU f v r)from rfl]
  by_cases hk:k=f
  ·rw[Q5 hk,Γ,Γ];omega
  ·rw[Q6 hk,Γ,Γ];omega
theorem iW.some_of{v:V}{o:Option ζ}(r:iW (some v) o):∃u,o=some u/\aL v u:=by
 cases o with
 |none=>exact(show False from r).elim
 |some u=>exact⟨u,rfl,r⟩
theorem iW.none_of{o:Option ζ}(r:iW none o):o=none:=by
 cases o with
 |none=>rfl
 |some u=>exact(show False from r).elim
theorem wG{v:V}{u:ζ}(r:aL v u):PySem.W.handedIn u=true:=by
 cases v with
 |non=>cases(show u=A1 from r);rfl
 |bl b=>cases(show u=Gs b from r);rfl
 |int i=>obtain⟨t,e⟩:=(show ∃t,u=y9 i t from r);cases e;rfl
 |str x=>obtain⟨t,e⟩:=(show ∃t,u=k_ x t from r);cases e;rfl
 |byt b=>obtain⟨t,e⟩:=(show ∃t,u=ζ.bytes b t from r);cases e;rfl
 |flt b=>obtain⟨t,e⟩:=(show ∃t,u=ζ.float b t from r);cases e;rfl
 |ref a=>cases(show u=ώ a from r);rfl
 |ty n=>cases(show u=Fv n from r);rfl
section
variable{P:χ}{w:Ρ}{H H':Hp}{h h':Heap}{a C dx:Addr}{fs fs':List (Str×V)}
theorem jH(hok:HOk P w H h)(e:H a=some (.ins C dx fs)):∃mA,rY h a dx C mA/\(∀f,iW (fs.lookup f) (mA f))/\Gc mA (fs.map (·.1))/\fs.length<=1000/\H dx=some (.own a):=by
 obtain⟨d,z,ne,ob,mA,n,r,q⟩:=(show bf P w H h a (.ins C dx fs)from hok a _ e)
 exact⟨mA,⟨ob,n,ne⟩,r,q,z,d⟩
end
structure Cls(K:ε)(C:Addr):Prop where
 pg:C2 K C d_=true
 hd:EV K C=true
 po:FX K C=true
 sa:Ϥ K (.ref C) "__setattr__"=some (some (.builtin "object.__setattr__"))
theorem Cls.get{K:ε}{C:Addr}(c:Cls K C)(f:Str):C2 K C f=true:=c.pg
def cq(K:ε)(C:Addr)(f:Str):Prop:=Ϥ K (.ref C) f=some none
theorem cq.taker{K:ε}{C:Addr}{f:Str}(n:cq K C f):Gf K C f=some none:=by
 unfold Gf
 rw[show Ϥ K (.ref C) f=some none from n]
 rfl
structure sf(K:ε)(C:Addr)(m:Str)(f:Addr):Prop where
 at_:Ϥ K (.ref C) m=some (some (.ref f))
 fn:C3 K (.ref f)=true
 kp:ϥ K (.ref f)=true
section
variable{X:Cx}{pins:List (Addr×Obj)}{σ:St}{H:Hp}{s:ι}{a C dx:Addr}{fs:List (Str×V)}{f:Str}{v:V}{A:ό}{E:ζ->ι->Prop}
theorem lY{b:Bool}{Q:ζ->ι->Prop}(I:Inv X pins σ H s)(e:H a=some (.ins C dx fs))(c:Cls X.K C)(n:cq X.K C f)(l:fs.lookup f=some v)
  (h:∀u s',Inv X pins σ H s'->aL v u->Q u s'):wpAny (model X.prog X.w) A (getAttr (.ref a) f b) Q E s:=by
 obtain⟨mA,O,r,_,_,_⟩:=jH I.hok e
 obtain⟨u,hu,ru⟩:=iW.some_of (v:=v) (o:=mA f) (by rw[<-l];exact r f)
 exact zU I.kIn O (c.get f) c.hd n hu (wG ru) (h u _ (I.tok _) ru)
theorem kq{m:Str}{g:Addr}{pl:Sem Bool}{Q:ζ×List ζ->ι->Prop}(I:Inv X pins σ H s)(e:H a=some (.ins C dx fs))(c:Cls X.K C)(k:sf X.K C m g)(l:fs.lookup m=none)
  (h:Q (.ref g,[.ref a]) s):wpAny (model X.prog X.w) A (getMethod (.ref a) m pl) Q E s:=by
 obtain⟨mA,O,r,_,_,_⟩:=jH I.hok e
 have hn:mA m=none:=iW.none_of (by rw[<-l];exact r m)
 exact yG I.kIn O (c.get m) k.at_ k.fn hn h
theorem kR{y:V}{u:ζ}{Q:Unit->ι->Prop}(I:Inv X pins σ H s)(e:H a=some (.ins C dx fs))(c:Cls X.K C)(n:cq X.K C f)(hl:fs.length<1000)(ry:aL y u)
  (h:∀s',Inv X pins σ (upd H a (.ins C dx (dU f y fs))) s'->Q Unit.unit s'):wpAny (model X.prog X.w) A (setAttr (.ref a) f u) Q E s:=by
 obtain⟨mA,O,r,wi,_,ho⟩:=jH I.hok e
 have hz:(fs.map (·.1)).length<=sizeLine:=by rw[δ,θ];omega
 refine zB I.kIn O c.sa c.po n.taker c.hd wi hz λh' O' sb=>h _ ?_
 have hd:∃o,h'.get? dx=some o:=let ⟨o,_,_,e',_⟩:=O'.ns;⟨o,e'⟩
 refine I.write (x:=a) (e:=dx) (by rw[e];exact A5) (.inr ho) (λb q hb z=>(sb.2 b hb).trans z) hd ?_
 refine⟨by rw[ao O.ne];exact ho,?_,O.ne,O'.obj,_,O'.ns,λg=>?_,λg hg=>?_⟩
 ·have:=jl f y fs;omega
 ·show iW ((dU f y fs).lookup g) (if g=f then some u else mA g)
  rw[jv]
  by_cases q:g=f
  ·rw[Q5 q,Q5 q];exact ry
  ·rw[Q6 q,Q6 q];exact r g
 ·by_cases q:g=f
  ·rw[q];exact(iS f y fs).1
  ·refine(iS f y fs).2 g (wi g λz=>hg ?_)
   show(if g=f then some u else mA g)=none
   rw[Q6 q];exact z
theorem Inv.made(I:Inv X pins σ H s):Inv X pins σ (upd (upd H s.heap.objs.size (.own (s.heap.objs.size+1))) (s.heap.objs.size+1) (.ins C s.heap.objs.size []))
  {s with heap:=(s.heap.push i9).push (m_ C s.heap.objs.size)}:=by
 have e1:(s.heap.push i9).get? s.heap.objs.size=some i9:=Λ s.heap rfl
 have e2:((s.heap.push i9).push (m_ C s.heap.objs.size)).get? (s.heap.objs.size+1)=some (m_ C s.heap.objs.size):=by
  have:=Λ (s.heap.push i9) (o:=m_ C s.heap.objs.size) rfl
  rwa[j0]at this
 have e3:(s.heap.push i9).Ns s.heap.objs.size (λ_=>none):=⟨i9,#[],_,e1,rfl,(λe he=>absurd he ()),λ_=>rfl⟩
 have I1:=I.laid (a:=s.heap.objs.size) (o:=.own (s.heap.objs.size+1)) (h':=s.heap.push i9) (t':=s.toks) (λb u q=>ρ _ q) (π _) ⟨_,e1⟩
 refine I1.laid (a:=s.heap.objs.size+1) (o:=.ins C s.heap.objs.size []) (t':=s.toks) (λb u q=>ρ _ q) (Nat.le_of_eq (j0 _ _)) ?_
 have ne:s.heap.objs.size≠s.heap.objs.size+1:=Ϣ (E7 _)
 refine⟨by rw[ao ne,aa],ϊ _,ne,e2,λ_=>none,(Heap.Ns1.of_empty e3).at λo q=>ρ _ q,λ_=>A5,λy hy=>absurd rfl hy⟩
theorem zO{prog:χ}{w:Ρ}{env:Env}{e:Expr}{f:Str}{pos:Pos}{s:ι}{Q:ζ->ι->Prop}(hb:attributeBase e f env (eval e env)=eval e env)
  (h:wpAny (model prog w) A (eval e env) (λo s₁=>wpAny (model prog w) A (getAttr o f true) Q E s₁) E s):wpAny (model prog w) A (eval (.Attribute e f pos) env) Q E s:=
 Attribute_any_ h (by rw[arm_eval_Attribute,hb])
end
def EC(K:ε)(ta:TE)(f:Str):TE:=λσ H Q=>ta σ H λx H1=>∃a C dx fs v,x=.ref a/\H1 a=some (.ins C dx fs)/\Cls K C/\cq K C f/\fs.lookup f=some v/\Q v H1
def Ey(K:ε)(ta tv:TE)(f:Str):TS:=λD σ H=>tv σ H λy H1=>ta σ H1 λx H2=>∃a C dx fs,x=.ref a/\H2 a=some (.ins C dx fs)/\Cls K C/\cq K C f/\fs.length<1000 /\
 D.nx σ (upd H2 a (.ins C dx (dU f y fs)))
def Du(X:Cx)(op:Gx)(rd:V->V->Hp->VK->Prop):Prop:=
 ∀(pins:List (Addr×Obj))(s:ι)(σ:St)(H:Hp)(x y:V)(u v:ζ)(Q:VK),Inv X pins σ H s->aL x u->aL y v->rd x y H Q->wpAny (model X.prog X.w) X.A (inplaceOp op u v) (EP X pins σ Q) X.xe s
def AC(K:ε)(ta tv:TE)(rd:V->V->Hp->VK->Prop)(f:Str):TS:=λD σ H=>ta σ H λx H1=>∃a C dx fs v,x=.ref a/\H1 a=some (.ins C dx fs)/\Cls K C/\cq K C f/\fs.lookup f=some v /\
 tv σ H1 λy H2=>rd v y H2 λz H3=>∃dx' fs',H3 a=some (.ins C dx' fs')/\fs'.length<1000/\D.nx σ (upd H3 a (.ins C dx' (dU f z fs')))
section
variable{X:Cx}{o e value:Expr}{f:Str}{pos pos' tpos:Pos}{ta tv:TE}
theorem pe_fld(he:PE X e ta)(hb:attributeBase e f X.env (eval e X.env)=eval e X.env):PE X (.Attribute e f pos) (EC X.K ta f):=by
 intro pins s σ H Q I h
 refine zO hb (thn (he pins s σ H _ I h) λu s1 ⟨x,H1,I1,rx,a,C,dx,fs,v,ex,ea,c,n,l,q⟩=>?_)
 subst ex
 obtain rfl:u=ώ a:=rx
 exact lY I1 ea c n l λu' s2 I2 ru=>⟨v,H1,I2,ru,q⟩
theorem ps_fld(ha:PE X o ta)(hv:PE X value tv)(hs:swapsWith value (some (.Attribute o f pos')) pos.line X.env=pure false):PS X (.Assign [.Attribute o f pos'] value pos) (Ey X.K ta tv f):=by
 intro pins s σ H D I h
 refine plainObj_wpAny_Assign_Attribute (thn (hv pins s σ H _ I h) λu s1 ⟨y,H1,I1,ry,q⟩=>thn (ha pins s1 σ H1 _ I1 q) λov s2 ⟨x,H2,I2,rx,a,C,dx,fs,ex,ea,c,n,l,q2⟩=>?_) hs
 subst ex
 obtain rfl:ov=ώ a:=rx
 exact kR I2 ea c n l ry λs3 I3=>⟨σ,_,I3,q2⟩
theorem ps_fldaug{op:Gx}{rd:V->V->Hp->VK->Prop}(ha:PE X o ta)(hv:PE X value tv)(hop:Du X op rd):PS X (.AugAssign (.Attribute o f tpos) op value pos) (AC X.K ta tv rd f):=by
 intro pins s σ H D I h
 refine wpAny_AugAssign_AttributeAny (thn (ha pins s σ H _ I h) λov s1 ⟨x,H1,I1,rx,a,C,dx,fs,v,ex,ea,c,n,l,q⟩=>?_)
 subst ex
 obtain rfl:ov=ώ a:=rx
 refine lY I1 ea c n l λu s2 I2 ru=>thn (hv pins s2 σ H1 _ I2 q) λw3 s3 ⟨y,H2,I3,ry,q3⟩=>thn (hop pins s3 σ H2 v y u w3 _ I3 ru ry q3) λw4 s4 ⟨z,H3,I4,rz,dx',fs',ea',l',q4⟩=>?_
 exact kR I4 ea' c n l' rz λs5 I5=>⟨σ,_,I5,q4⟩
def Es:V->V->Hp->VK->Prop:=λx y H Q=>∃i j,x=.int i/\y=.int j/\Q (.int (i+j)) H
theorem xz:Du X .Add Es:=by
 rintro pins s σ H x y u v Q I rx ry ⟨i,j,rfl,rfl,q⟩
 obtain⟨t,rfl⟩:=(show ∃t,u=y9 i t from rx)
 obtain⟨t',rfl⟩:=(show ∃t',v=y9 j t' from ry)
 exact PyProof.Rows.iadd_int ⟨.int (i+j),H,I.tok _,⟨_,rfl⟩,q⟩
end
section
variable{X:Cx}{pins:List (Addr×Obj)}{σ:St}{H:Hp}{s:ι}{A:ό}{E:ζ->ι->Prop}{Q:ζ->ι->Prop}{c:ζ}{b:Bool}
inductive dS (K:ε) (H:Hp):V->ζ->Prop where
 |non:dS K H .non (.type "NoneType")
 |bl (x:Bool):dS K H (.bl x) (.type "bool")
 |int (i:Int):dS K H (.int i) (.type "int")
 |str (x:Str):dS K H (.str x) (.type "str")
 |flt (x:UInt64):dS K H (.flt x) (.type "float")
 |lst {a:Addr} {xs:List V} (e:H a=some (.lst xs)):dS K H (.ref a) (.type "list")
 |frz {a:Addr} {o:Obj} {xs:List V} (e:H a=some (.frz o (.lst xs))):dS K H (.ref a) (.type "list")
 |tup {a:Addr} {xs:List V} (e:H a=some (.tup xs)):dS K H (.ref a) (.type "tuple")
 |dK {a:Addr} {kvs:List (Key×V)} (e:H a=some (.dK kvs)):dS K H (.ref a) (.type "dict")
 |dT {a:Addr} {kvs:List (List Key×V)} (e:H a=some (.dT kvs)):dS K H (.ref a) (.type "dict")
 |ins {a C dx:Addr} {fs:List (Str×V)} (e:H a=some (.ins C dx fs)) (cl:Cls K C) (ha:Ϥ K (.ref C) "__class__"=some (some (.builtin "object.__class__")))
   (hn:PySem.W.specialIn K (.builtin "object.__class__") "__get__"=some (some (.builtin "getset_descriptor.__get__"))) (htk:PySem.W.takesIn K (.builtin "object.__class__")=some true)
   (hm:PySem.W.mroIn K C (.type "object")=some true):dS K H (.ref a) (.ref C)
theorem wU{x:V}{u t:ζ}(I:Inv X pins σ H s)(rx:aL x u)(ty:dS X.K H x t)(e:a8 X.K t c=some b)(h:∀tk,Q (.bool b) {s with toks:=tk}):
  wpAny (model X.prog X.w) A (call (.builtin "isinstance") [u,c]) Q E s:=by
 cases ty with
 |non=>cases(show u=A1 from rx);exact e9 PySem.W.kitx_none I.kIn A5 e (λz=>nomatch z) h
 |bl y=>cases(show u=Gs y from rx);exact e9 PySem.W.kitx_bool I.kIn A5 e (λz=>nomatch z) h
 |int i=>obtain⟨t,q⟩:=(show ∃t,u=y9 i t from rx);cases q;exact e9 PySem.W.kitx_int I.kIn A5 e (λz=>nomatch z) h
 |str y=>obtain⟨t,q⟩:=(show ∃t,u=k_ y t from rx);cases q;exact e9 PySem.W.kitx_str I.kIn A5 e (λz=>nomatch z) h
 |flt y=>obtain⟨t,q⟩:=(show ∃t,u=ζ.float y t from rx);cases q;exact e9 PySem.W.kitx_float I.kIn A5 e (λz=>nomatch z) h
 | @lst a xs ea=>
  cases(show u=ώ a from rx)
  obtain⟨_,_,n,_,h1⟩:=(show bf X.prog X.w H s.heap a (.lst xs)from I.hok a _ ea)
  exact e9 PySem.W.kitx_list I.kIn ⟨_,h1,rfl⟩ e (λz=>nomatch z) h
 | @frz a ob xs ea=>
  cases(show u=ώ a from rx)
  obtain⟨_,_,_,n,_,h1⟩:=(show bf X.prog X.w H s.heap a (.frz ob (.lst xs))from I.hok a _ ea)
  exact e9 PySem.W.kitx_list I.kIn ⟨_,h1,rfl⟩ e (λz=>nomatch z) h
 | @tup a xs ea=>
  cases(show u=ώ a from rx)
  obtain⟨_,_,_,p⟩:=(show bf X.prog X.w H s.heap a (.tup xs)from I.hok a _ ea)
  obtain⟨⟨o,h1,h2,_⟩,_⟩:=p
  exact e9 PySem.W.kitx_tuple I.kIn ⟨o,h1,h2⟩ e (λz=>nomatch z) h
 | @dK a kvs ea=>
  cases(show u=ώ a from rx)
  obtain⟨_,_,vs,_,p⟩:=(show bf X.prog X.w H s.heap a (.dK kvs)from I.hok a _ ea)
  obtain⟨o,es,ep,h1,h2,_⟩:=p
  exact e9 PySem.W.kitx_dict I.kIn ⟨o,h1,h2.1⟩ e (λz=>nomatch z) h
 | @dT a kvs ea=>
  cases(show u=ώ a from rx)
  obtain⟨_,_,xs,_,o,es,ep,h1,h2,_⟩:=(show bf X.prog X.w H s.heap a (.dT kvs)from I.hok a _ ea)
  exact e9 PySem.W.kitx_dict I.kIn ⟨o,h1,h2.1⟩ e (λz=>nomatch z) h
 | @ins a C dx fs ea cl ha hn htk hm=>
  cases(show u=ώ a from rx)
  obtain⟨mA,O,_⟩:=jH I.hok ea
  obtain⟨od,J,_⟩:=O.look
  exact e9 (PySem.W.kitx_own (cl.get _) cl.hd ha hn htk hm) I.kIn J e (λz=>nomatch z) h
end
structure ca(k:Nat)(A:ό):Prop where
 hd:A.handled=none
 dp:A.depth+3*k+5<recursionLimit
 un:A.units+16*k+200<cLine
theorem ca.mono{j k:Nat}{A:ό}(r:ca k A)(h:j<=k):ca j A:=⟨r.hd,by have:=r.dp;omega,by have:=r.un;omega⟩
theorem ca.deeper{k:Nat}{A:ό}(r:ca (k+1) A)(env:Env):ca k (A.deeper env):=
 ⟨r.hd,by have:=r.dp;show A.depth+1+3*k+5<_;omega,by have:=r.un;show A.units+3+16*k+200<_;omega⟩
theorem sN{A:ό}{C:Addr}{us:List ζ}{kw:List (Str×ζ)}:(A.under (.builtin "type.__call__" ⟨.ref C::us,kw⟩)).depth=A.depth+1:=by
 first|rfl|simp[ό.under,Code.weight,Code.isCreation,Code.isGuard,Code.isCaller,Code.frames,Code.isFrame,guardIds]
theorem tH{A:ό}{C:Addr}{us:List ζ}{kw:List (Str×ζ)}:(A.under (.builtin "type.__call__" ⟨.ref C::us,kw⟩)).units=A.units+1:=by
 first|rfl|simp[ό.under,Code.cUnits,Code.frames,Code.isFrame]
theorem ca.make{k:Nat}{A:ό}(r:ca (k+1) A)(C:Addr)(us:List ζ)(kw:List (Str×ζ)):ca k (A.under (.builtin "type.__call__" ⟨.ref C::us,kw⟩)):=
 ⟨r.hd,by have:=r.dp;rw[sN];omega,by have:=r.un;rw[tH];omega⟩
theorem ca.depth{k:Nat}{A:ό}(r:ca k A):A.depth<recursionLimit:=by have:=r.dp;omega
theorem ca.units{k:Nat}{A:ό}(r:ca k A):A.units+64<cLine:=by have:=r.un;omega
def qV:TA:=λ_ H Q=>Q [] H
def qj(ta:TE)(tr:TA):TA:=λσ H Q=>ta σ H λx H1=>tr σ H1 λxs H2=>Q (x::xs) H2
section
variable{X:Cx}{e:Expr}{es:List Expr}{te:TE}{t:TA}{pos:Pos}
theorem pa_nil:PA X [] qV:=λ_ _ _ _ H Q I h=>Calls.spliced_nil ⟨[],H,I,.nil,h⟩
theorem pa_cons(ha:PE X e te)(hr:PA X es t)(hs:starEach (e::es) X.env=(false,eval e X.env)::starEach es X.env:=by rfl):PA X (e::es) (qj te t):=by
 intro pos pins s σ H Q I h
 rw[hs]
 show wpAny _ _ (spliced ((false,eval e X.env)::backTo pos (starEach es X.env))) _ _ s
 refine Calls.spliced_cons (thn (ha pins s σ H _ I h) λu s1 ⟨x,H1,I1,r1,q1⟩=>?_)
 exact thn (hr pos pins s1 σ H1 _ I1 q1) λus s2 ⟨xs,H2,I2,r2,q2⟩=>⟨x::xs,H2,I2,.cons r1 r2,q2⟩
def Ez(t:TA):TE:=λσ H Q=>t σ H λxs H1=>xs.length<=sizeLine/\∀p,H1 p=none->Q (.ref p) (upd H1 p (.tup xs))
def Eo(t:TA):TE:=λσ H Q=>t σ H λxs H1=>xs.length<=sizeLine/\∀p,H1 p=none->Q (.ref p) (upd H1 p (.lst xs))
theorem pe_tup{x1}(h:PA X es t):PE X (.Tuple es x1 pos) (Ez t):=by
 intro pins s σ H Q I hq
 refine wpAny_Tuple_spliced (thn (h pos pins s σ H _ I hq) λus s1 ⟨xs,H1,I1,r,z,q⟩=>⟨by rw[<-r.length];exact z,?_⟩)
 have hf:H1 s1.heap.objs.size=none:=I1.hok.fresh (π _)
 refine⟨.ref s1.heap.objs.size,upd H1 s1.heap.objs.size (.tup xs),I1.laid (t':=s1.toks) (λb u e=>ρ _ e) (π _) ?_,rfl,q _ hf⟩
 exact⟨z,us,r,⟨_,Λ _ rfl,rfl,_,rfl⟩,NoD.new _ rfl⟩
theorem pe_lst(h:PA X es t):PE X (.List es pos) (Eo t):=by
 intro pins s σ H Q I hq
 refine wpAny_List_spliced (thn (h pos pins s σ H _ I hq) λus s1 ⟨xs,H1,I1,r,z,q⟩=>⟨by rw[<-r.length];exact z,?_⟩)
 have hf:H1 s1.heap.objs.size=none:=I1.hok.fresh (π _)
 refine⟨.ref s1.heap.objs.size,upd H1 s1.heap.objs.size (.lst xs),I1.laid (t':=s1.toks) (λb u e=>ρ _ e) (π _) ?_,rfl,q _ hf⟩
 exact⟨z,us,0,r,Λ _ rfl⟩
end
abbrev Sp:=List V->Hp->VK->XK->Prop
abbrev CXT:=List Env->Hp->ι->XK->ζ->ι->Prop
structure uu(P:χ)(w:Ρ)(K:ε)(mg:Str->Option ζ)(base:Heap)(A:ό)(outer:List Env)(s:ι)(H:Hp):Prop where
 frames:A.frames=some outer
 mod:Mod K mg base
 bs:∀b o,base.get? b=some o->s.heap.get? b=some o/\H b=none
 bsz:base.objs.size<=s.heap.objs.size
 funs:s.heap.FunFrames base outer
 frf:∀b∈frs outer,H b=none
 hok:HOk P w H s.heap
 bare:FT s.gens
def CE(outer:List Env)(P:χ)(w:Ρ)(H:Hp)(s:ι)(Q:VK)(u:ζ)(s':ι):Prop:=
 ∃v H',s'.os=s.os/\FT s'.gens/\Un (frs outer) [] H H' s.heap s'.heap/\HOk P w H' s'.heap/\aL v u/\Q v H'
def CR(CX:CXT)(outer:List Env)(P:χ)(w:Ρ)(H:Hp)(s:ι)(Q:VK)(E:XK)(r:Gu)(s':ι):Prop:=
 match r with
 |.ok (.ret u)=>CE outer P w H s Q u s'
 |.ok _=>False
 |.error e=>CX outer H s E e s'
structure av(P:χ)(w:Ρ)(K:ε)(mg:Str->Option ζ)(base:Heap)(CX:CXT)(k:Nat)(f:Addr)(fd:Θ)(ps:List Str)(sp:Sp):Prop where
 len:∀vs H Q E,sp vs H Q E->vs.length=ps.length
 run:∀(A:ό)(outer:List Env)(s:ι)(H:Hp)(args:Args)(us:List ζ)(vs:List V)(Q:VK)(E:XK),ca k A->uu P w K mg base A outer s H->Gy s fd args (ps.zip us)->aF vs us->sp vs H Q E ->
  codeAny (model P w) A (.call (.ref f) args) (CR CX outer P w H s Q E) s
theorem av.mono{P:χ}{w:Ρ}{K:ε}{mg:Str->Option ζ}{base:Heap}{CX:CXT}{j k:Nat}{f:Addr}{fd:Θ}{ps:List Str}{sp:Sp}(F:av P w K mg base CX j f fd ps sp)(h:j<=k):
  av P w K mg base CX k f fd ps sp:=⟨F.len,λA outer s H args us vs Q E hr=>F.run A outer s H args us vs Q E (hr.mono h)⟩
theorem av.imp{P:χ}{w:Ρ}{K:ε}{mg:Str->Option ζ}{base:Heap}{CX:CXT}{k:Nat}{f:Addr}{fd:Θ}{ps:List Str}{sp sp':Sp}(F:av P w K mg base CX k f fd ps sp)
  (h:∀vs H Q E,sp' vs H Q E->sp vs H Q E):av P w K mg base CX k f fd ps sp':=
 ⟨λvs H Q E q=>F.len vs H Q E (h _ _ _ _ q),λA outer s H args us vs Q E hr he hb hv hs=>F.run A outer s H args us vs Q E hr he hb hv (h _ _ _ _ hs)⟩
theorem uu.make{P:χ}{w:Ρ}{K:ε}{mg:Str->Option ζ}{base:Heap}{A:ό}{outer:List Env}{s:ι}{H:Hp}(e:uu P w K mg base A outer s H)(C:Addr)(us:List ζ)(kw:List (Str×ζ)):
  uu P w K mg base (A.under (.builtin "type.__call__" ⟨.ref C::us,kw⟩)) outer s H:=⟨by first|exact e.frames|(simpa[ό.under,Code.envs,Code.isFrame,pushEnvs]using e.frames),e.mod,e.bs,e.bsz,e.funs,e.frf,e.hok,e.bare⟩
section
variable{X:Cx}{pins:List (Addr×Obj)}{σ:St}{H:Hp}{s s':ι}
theorem Inv.env0(I:Inv X pins σ H s):uu X.prog X.w X.K X.mg X.base X.A X.stack s H:=
 ⟨I.ok.frames,I.ok.mod,I.bs,a7 I.ok.bsz I.sz,I.stack,I.stkFree,I.hok,I.bare⟩
theorem Inv.after{Q:VK}{u:ζ}(I:Inv X pins σ H s)(h:CE X.stack X.prog X.w H s Q u s'):EP X pins σ Q u s':=by
 obtain⟨v,H',os,bare,un,hok,r,q⟩:=h
 obtain⟨hh,g,d,t,os'⟩:=s'
 obtain rfl:os'=s.os:=os
 exact⟨v,H',I.call (h':=hh) (g':=g) (d':=d) (t':=t) (ch:=[]) un hok bare (λb z=>absurd z ()),r,q⟩
end
def mX(sp:Sp)(dvs:List V)(E:XK)(t:TA):TE:=λσ H Q=>t σ H λvs H1=>sp (vs++dvs) H1 Q E
def Be(C:Addr)(m:Str)(sp:Sp)(dvs:List V)(E:XK)(ta:TE)(t:TA):TE:=λσ H Q=>ta σ H λx H1=>∃a dx fs,x=.ref a/\H1 a=some (.ins C dx fs)/\fs.lookup m=none /\
 t σ H1 λvs H2=>sp (x::(vs++dvs)) H2 Q E
def Dt(C:Addr)(sp:Sp)(dvs:List V)(E:XK)(t:TA):TE:=λσ H Q=>t σ H λvs H1=>∀x dx,H1 x=none->H1 dx=none->dx≠x ->
 sp (.ref x::(vs++dvs)) (upd (upd H1 dx (.own x)) x (.ins C dx [])) (λv H2=>v=.non/\Q (.ref x) H2) E
def bQ(K:ε)(fd:Θ)(ps:List Str)(ds:List ζ):Prop:=
 ∀(s:ι)(us:List ζ),K.In s.heap->(us++ds).length=ps.length->Gy s fd ⟨us,[]⟩ (ps.zip (us++ds))
theorem bQ.all{K:ε}{fd:Θ}{ps:List Str}(h:∀us:List ζ,us.length=ps.length->bindArgs fd ⟨us,[]⟩=pure (ps.zip us)):bQ K fd ps []:=λs us _ hl=>by
 rw[ϡ]at hl⊢
 exact .of_eq (h us hl)
def fQ(CX:CXT)(X:Cx)(E:XK):Prop:=∀(pins:List (Addr×Obj))(σ:St)(H:Hp)(s:ι)(e:ζ)(s':ι),Inv X pins σ H s->CX X.stack H s E e s'->X.xe e s'
section
variable{X:Cx}{CX:CXT}{k:Nat}{f C:Addr}{fd:Θ}{ps:List Str}{sp:Sp}{dvs:List V}{ds:List ζ}{E:XK}{x m:Str}{p pos apos:Pos}{e o:Expr}{es:List Expr}{ta:TE}{t:TA}
theorem jK{pins:List (Addr×Obj)}{σ:St}{H:Hp}{s:ι}{Q:VK}{us:List ζ}{vs:List V}(F:av X.prog X.w X.K X.mg X.base CX k f fd ps sp)(hr:ca k X.A)(hb:bQ X.K fd ps ds)(hd:aF dvs ds)(hx:fQ CX X E)
  (I:Inv X pins σ H s) (r:aF vs us) (h:sp (vs++dvs) H Q E):wpAny (model X.prog X.w) X.A (call (.ref f) us) (EP X pins σ Q) X.xe s:=by
 have r2:aF (vs++dvs) (us++ds):=r.append hd
 have hl:(us++ds).length=ps.length:=by rw[<-r2.length];exact F.len _ _ _ _ h
 refine wpAny_call (Gd (F.run X.A X.stack s H ⟨us,[]⟩ (us++ds) (vs++dvs) Q E hr I.env0 (hb s us I.kIn hl) r2 h) λr s' hq=>?_)
 cases r with
 |error e=>exact hx pins σ H s e s' I hq
 |ok fl=>
  cases fl with
  |ret u=>exact I.after hq
  |next=>exact n_ hq
  |brk=>exact n_ hq
  |cont=>exact n_ hq
theorem Aa(F:av X.prog X.w X.K X.mg X.base CX k f fd ps sp)(hr:ca k X.A)(hg:Gl X x)(hm:X.mg x=some (.ref f))(hk:ϥ X.K (.ref f)=true)(hb:bQ X.K fd ps ds)(hd:aF dvs ds)(hx:fQ CX X E)
  (ha:PA X (e::es) t) (hdb:(x==("__debug__" : Str))=false:=by decide) (he:starEach (e::es) X.env=(false,eval e X.env)::starEach es X.env:=by rfl) (hpl:(backTo pos (starEach es X.env)).any (·.1)=false:=by rfl):
  PE X (.Call (.Name x p) (e::es) [] pos) (mX sp dvs E t):=by
 intro pins s σ H Q I h
 refine r9 (jC I hg hm ?_ hdb)
 refine EQ (h₀:=X.base) I.ok.mod.kin hk (thn (ha pos pins s σ H _ I h) λus s1 ⟨vs,H1,I1,r,q⟩=>⟨I1.kIn,?_⟩) he hpl
 exact jK F hr hb hd hx I1 r q
theorem zc(F:av X.prog X.w X.K X.mg X.base CX k f fd ps sp)(hr:ca k X.A)(hg:Gl X x)(hm:X.mg x=some (.ref f))(hk:ϥ X.K (.ref f)=true)(hb:bQ X.K fd ps ds)(hd:aF dvs ds)(hx:fQ CX X E)
  (hdb:(x==("__debug__" : Str))=false:=by decide):PE X (.Call (.Name x p) [] [] pos) (mX sp dvs E qV):=by
 intro pins s σ H Q I h
 refine r9 (jC I hg hm ?_ hdb)
 exact PySem.W.callWith_K0 I.kIn hk (jK (us:=[]) F hr hb hd hx I .nil h)
theorem pe_meth{pl:Sem Bool}(he:PE X o ta)(c:Cls X.K C)(hm:sf X.K C m f)(F:av X.prog X.w X.K X.mg X.base CX k f fd ps sp)(hr:ca k X.A)(hb:bQ X.K fd ps ds)(hd:aF dvs ds)(hx:fQ CX X E)(ha:PA X (e::es) t)
  (hst:starEach (e::es) X.env=(false,eval e X.env)::starEach es X.env:=by rfl) (hpl:(backTo pos (starEach es X.env)).any (·.1)=false:=by rfl)
  (ht:eval (.Call (.Attribute o m apos) (e::es) [] pos) X.env=(do
   let ov <-eval o X.env
   standAt apos.atName
   let (f,first) <-holding [ov] (getMethod ov m pl)
   callWith pos f first (backTo pos (starEach (e::es) X.env)) (backToKw pos (keywordEach [] X.env))):=by rfl):
  PE X (.Call (.Attribute o m apos) (e::es) [] pos) (Be C m sp dvs E ta t):=by
 intro pins s σ H Q I h
 refine PySem.W.methodCall_KW (pl:=pl) (thn (he pins s σ H _ I h) λu s1 ⟨x,H1,I1,rx,a,dx,fs,ex,ea,l,q⟩=>?_) ht
 subst ex
 obtain rfl:u=ώ a:=rx
 refine kq I1 ea c hm l ?_
 refine EQ (first:=[.ref a]) (h₀:=X.base) I.ok.mod.kin hm.kp (thn (ha pos pins s1 σ H1 _ I1 q) λus s2 ⟨vs,H2,I2,r,q2⟩=>⟨I2.kIn,?_⟩) hst hpl
 exact jK (us:=.ref a::us) (vs:=.ref a::vs) F hr hb hd hx I2 (.cons rfl r) q2
theorem pe_meth0{pl:Sem Bool}(he:PE X o ta)(c:Cls X.K C)(hm:sf X.K C m f)(F:av X.prog X.w X.K X.mg X.base CX k f fd ps sp)(hr:ca k X.A)(hb:bQ X.K fd ps ds)(hd:aF dvs ds)(hx:fQ CX X E)
  (ht:eval (.Call (.Attribute o m apos) [] [] pos) X.env=(do
   let ov <-eval o X.env
   standAt apos.atName
   let (f,first) <-holding [ov] (getMethod ov m pl)
   callWith pos f first (backTo pos (starEach [] X.env)) (backToKw pos (keywordEach [] X.env))):=by rfl):
  PE X (.Call (.Attribute o m apos) [] [] pos) (Be C m sp dvs E ta qV):=by
 intro pins s σ H Q I h
 refine PySem.W.methodCall_KW (pl:=pl) (thn (he pins s σ H _ I h) λu s1 ⟨x,H1,I1,rx,a,dx,fs,ex,ea,l,q⟩=>?_) ht
 subst ex
 obtain rfl:u=ώ a:=rx
 refine kq I1 ea c hm l ?_
 exact PySem.W.callWith_K0 (first:=[.ref a]) I1.kIn hm.kp (jK (us:=[.ref a]) (vs:=[.ref a]) F hr hb hd hx I1 (.cons rfl .nil) q)
structure Mk(K:ε)(C f:Addr):Prop where
 makes:Gg K C=true
 init:Ϥ K (.ref C) "__init__"=some (some (.ref f))
 fn:C3 K (.ref f)=true
 kp:ϥ K (.ref C)=true
theorem yH{pins:List (Addr×Obj)}{σ:St}{H:Hp}{s:ι}{Q:VK}{us:List ζ}{vs:List V}(M:Mk X.K C f)(F:av X.prog X.w X.K X.mg X.base CX k f fd ps sp)(hr:ca (k+1) X.A)(hb:bQ X.K fd ps ds)(hd:aF dvs ds)
  (hx:fQ CX X E) (I:Inv X pins σ H s) (r:aF vs us)
  (h:∀x dx,H x=none->H dx=none->dx≠x->sp (.ref x::(vs++dvs)) (upd (upd H dx (.own x)) x (.ins C dx [])) (λv H2=>v=.non/\Q (.ref x) H2) E):
  wpAny (model X.prog X.w) X.A (call (.ref C) us) (EP X pins σ Q) X.xe s:=by
 have hq:=h (s.heap.objs.size+1) s.heap.objs.size (I.hok.fresh (FY _)) (I.hok.fresh (π _)) (Ϣ (E7 _))
 have I2:=Inv.made (C:=C) I
 have r2:aF (V.ref (s.heap.objs.size+1)::(vs++dvs)) (ώ (s.heap.objs.size+1)::(us++ds)):=.cons rfl (r.append hd)
 have hl:(ώ (s.heap.objs.size+1)::us++ds).length=ps.length:=by
  have e:=r2.length
  rw[F.len _ _ _ _ hq]at e
  exact e.symm
 refine wpAny_call (xP (f:=f) I.kIn M.makes M.init (beq_iff_eq.mp M.fn) (Gd (F.run _ X.stack _ _ ⟨ώ (s.heap.objs.size+1)::us,[]⟩ (ώ (s.heap.objs.size+1)::(us++ds)) _ _ E (hr.make C us [])
  (I2.env0.make C us []) (hb _ (ώ (s.heap.objs.size+1)::us) I2.kIn hl) r2 hq) λr s' hq'=>?_))
 cases r with
 |error e=>exact hx pins σ _ _ e s' I2 hq'
 |ok fl=>
  cases fl with
  |ret u=>
   obtain⟨v,H',I3,rv,ev,q3⟩:=I2.after hq'
   subst ev
   exact⟨rv,⟨V.ref (s.heap.objs.size+1),H',I3,rfl,q3⟩⟩
  |next=>exact n_ hq'
  |brk=>exact n_ hq'
  |cont=>exact n_ hq'
theorem pe_make(M:Mk X.K C f)(F:av X.prog X.w X.K X.mg X.base CX k f fd ps sp)(hr:ca (k+1) X.A)(hg:Gl X x)(hm:X.mg x=some (.ref C))(hb:bQ X.K fd ps ds)(hd:aF dvs ds)(hx:fQ CX X E)
  (ha:PA X (e::es) t) (hdb:(x==("__debug__" : Str))=false:=by decide) (he:starEach (e::es) X.env=(false,eval e X.env)::starEach es X.env:=by rfl) (hpl:(backTo pos (starEach es X.env)).any (·.1)=false:=by rfl):
  PE X (.Call (.Name x p) (e::es) [] pos) (Dt C sp dvs E t):=by
 intro pins s σ H Q I h
 refine r9 (jC I hg hm ?_ hdb)
 refine EQ (h₀:=X.base) I.ok.mod.kin M.kp (thn (ha pos pins s σ H _ I h) λus s1 ⟨vs,H1,I1,r,q⟩=>⟨I1.kIn,?_⟩) he hpl
 exact yH M F hr hb hd hx I1 r q
end
section
variable{X:Cx}{CX:CXT}{k:Nat}{f C:Addr}{fd:Θ}{ps ks:List Str}{sp:Sp}{E:XK}{x m:Str}{p pos apos kpos:Pos}{e o:Expr}{es:List Expr}{kws:List Keyword}{te ta:TE}{t tk:TA}{nm:Option Str}
variable{g:List ζ->List ζ->List ζ}{gV:List V->List V->List V}
end
structure am(N P:List Str)(sc:EU):Prop where
 kind:sc.kind=.function
 co:sc.isCoroutine=false
 gen:sc.isGenerator=false
 nd:N.Nodup
 pre:N.take P.length=P
 par:∀x∈P,sc.names.lookup x=some .local\/sc.names.lookup x=some .cell
 nofree:∀y∈sc.names,y.2≠.free
theorem mL{kindOf:Str->Option B4}{x:Str}:∀{binds:List (Str×ζ)}{m:Str->Option ζ},(∀v,(x,v)∉binds)->bindL kindOf binds m x=m x
 |[],_,_=>rfl
 |(n,v)::r,m,h=>by
  unfold bindL
  rw[mL λw hw=>h w (Ε _ hw)]
  split
  ·have:x≠n:=by rintro rfl;exact h v ο
   simp[this]
  ·rfl
theorem mK{kindOf:Str->Option B4}{x:Str}:∀{binds:List (Str×ζ)}{m:Str->Option ζ},(∀v,(x,v)∉binds)->bindC kindOf binds m x=m x
 |[],_,_=>rfl
 |(n,v)::r,m,h=>by
  unfold bindC
  rw[mK λw hw=>h w (Ε _ hw)]
  split
  ·rfl
  ·have:x≠n:=by rintro rfl;exact h v ο
   simp[this]
theorem mI{kindOf:Str->Option B4}{x:Str}{v:ζ}:∀{P:List Str}{vs:List ζ}{i:Nat}{m:Str->Option ζ},P.Nodup->P[i]?=some x->vs[i]?=some v->kindOf x=some .local ->
  bindL kindOf (P.zip vs) m x=some v
 |[],_,_,_,_,h,_,_=>by simp at h
 |_::_,[],_,_,_,_,h,_=>by simp at h
 |p::P,w::vs,0,m,nd,h1,h2,hk=>by
  simp at h1 h2;subst h1;subst h2
  show bindL kindOf ((p,w)::P.zip vs) m p=_
  unfold bindL
  rw[mL λv hv=>(u9.mp nd).1 (Gh hv).1,Q5 hk]
  simp
 |p::P,w::vs,i+1,m,nd,h1,h2,hk=>by
  show bindL kindOf ((p,w)::P.zip vs) m x=_
  unfold bindL
  exact mI (i:=i) (u9.mp nd).2 (by simpa using h1) (by simpa using h2) hk
theorem mW{kindOf:Str->Option B4}{x:Str}{v:ζ}:∀{P:List Str}{vs:List ζ}{i:Nat}{m:Str->Option ζ},P.Nodup->P[i]?=some x->vs[i]?=some v->kindOf x≠some .local ->
  bindC kindOf (P.zip vs) m x=some v
 |[],_,_,_,_,h,_,_=>by simp at h
 |_::_,[],_,_,_,_,h,_=>by simp at h
 |p::P,w::vs,0,m,nd,h1,h2,hk=>by
  simp at h1 h2;subst h1;subst h2
  show bindC kindOf ((p,w)::P.zip vs) m p=_
  unfold bindC
  rw[mK λv hv=>(u9.mp nd).1 (Gh hv).1,Q6 hk]
  simp
 |p::P,w::vs,i+1,m,nd,h1,h2,hk=>by
  show bindC kindOf ((p,w)::P.zip vs) m x=_
  unfold bindC
  exact mW (i:=i) (u9.mp nd).2 (by simpa using h1) (by simpa using h2) hk
def jf(N:List Str)(vs:List V):St:=vs.map some++j8 (N.length-vs.length) none
def bi(CX:CXT)(P:χ)(w:Ρ)(K:ε)(mg:Str->Option ζ)(base:Heap)(N:List Str)(qual:Str)(scope:EU)(f:Addr)(cd:ζ)(A:ό)(outer:List Env)(s:ι)(H:Hp)(E:XK):Cx where
 prog:=P
 w:=w
 K:=K
 mg:=mg
 base:=base
 A:=A.deeper (envOfC qual scope s.heap.objs.size f cd)
 N:=N
 s₀:=s
 H₀:=H
 env:=envOfC qual scope s.heap.objs.size f cd
 outer:=outer
 stack:=envOfC qual scope s.heap.objs.size f cd::outer
 ex:=[]
 calm:=true
 fn:=λ_=>true
 pn:=[]
 xe:=λe s'=>wpAny (model P w) (A.deeper (envOfC qual scope s.heap.objs.size f cd)) (leaving (envOfC qual scope s.heap.objs.size f cd) e) (λ_ s''=>CX outer H s E e s'') (λe' s''=>CX outer H s E e' s'') s'
theorem rF{sc:EU}{n:Nat}{x:Str}(h:sc.names.lookup x=some .cell):∃c,(cellsFrom n sc.names []).lookup x=some c:=by
 have q:=PySem.W.cellsFrom_some sc.names n [] (.inl h)
 exact Option.isSome_iff_exists.mp q
theorem wL{CX:CXT}{P:χ}{w:Ρ}{K:ε}{mg:Str->Option ζ}{base:Heap}{N ps:List Str}{qual:Str}{scope:EU}{f:Addr}{cd:ζ}{A:ό}{outer:List Env}{s s1:ι}{H:Hp}{E:XK}{us:List ζ}{vs:List V}
  (S:am N ps scope) (hd:A.handled=none) (e0:uu P w K mg base A outer s H) (hl:vs.length=ps.length) (r:aF vs us)
  (x:InCallC s s.heap.objs.size (bindL (envOfC qual scope s.heap.objs.size f cd).kindOf (ps.zip us) λ_=>none) (cellsFrom (s.heap.objs.size+1) scope.names []) (bindC (envOfC qual scope s.heap.objs.size f cd).kindOf (ps.zip us) λ_=>none) s1):
  Inv (bi CX P w K mg base N qual scope f cd A outer s H E) [] (jf N vs) H s1:=by
 have hpl:ps.length<=N.length:=by have:=congrArg w_ S.pre;rw[Υ]at this;omega
 obtain⟨h1,tk,rfl,hk⟩:=x.done
 have noA:∀b:Addr,b∉(bi CX P w K mg base N qual scope f cd A outer s H E).ex:=λb z=>absurd (show b∈([]:List Addr)from z) ()
 refine⟨⟨e0.mod,S.kind,rfl,rfl,π _,λy z c h1 h2=>?_,λy hy=>?_,λy c _ h=>?_,λ_=>hd,ό.frames_deeper e0.frames,.inr ⟨rfl,rfl⟩,λb z=>absurd z (noA b),e0.bs,e0.bsz,λb _ _=>noA b,λb z=>absurd z (noA b),e0.funs,e0.frf⟩,
  rfl,e0.bare,Un.kept hk,⟨_,x.toInCall.ns,λi y v h1 h2 h3=>?_⟩,λy c h=>⟨_,x.cell y c h⟩,e0.hok.fresh (π _),λy c h=>?_,λp hp=>absurd (show p∈([]:List (Addr×Obj))from hp) (),e0.hok.kept hk,?_⟩
 ·exact name_of_addr x.apart (y7 h1) (y7 h2)
 ·have hy:scope.names.lookup y=some .cell\/scope.names.lookup y=some .free:=hy
  rcases hy with hy|hy
  ·exact rF hy
  ·exact absurd rfl (S.nofree _ (y7 hy))
 ·exact u_ (x.above y c (y7 h))
 ·have hi:i<vs.length:=by
   unfold jf at h2
   by_cases hi:i<vs.length
   ·exact hi
   ·rw[ϵ (by simpa using hi)]at h2
    rw[List.getElem?_replicate]at h2
    split at h2<;>cases h2
  have ha:vs[i]?=some v:=by
   unfold jf at h2
   rw[i6 (by simpa using hi),Ν]at h2
   cases e:vs[i]? with
   |none=>rw[e]at h2;cases h2
   |some a=>rw[e]at h2;cases h2;rfl
  obtain⟨u,hu,rv⟩:=r.get ha
  have hp:ps[i]?=some y:=by
   rw[<-S.pre,List.getElem?_take_of_lt ()];exact h1
  have ndP:ps.Nodup:=by rw[<-S.pre];exact S.nd.sublist (List.take_sublist _ _)
  refine⟨u,rv,?_⟩
  rcases S.par y (Ο hp)with k|k
  ·exact .inl ⟨k,mI ndP hp hu k⟩
  ·obtain⟨c,e⟩:=rF (n:=s.heap.objs.size+1) k
   refine .inr ⟨.inl k,c,e,?_⟩
   have q:=x.cell y c e
   rw[mW ndP hp hu (by show scope.names.lookup y≠_;rw[k];decide)]at q
   exact q
 ·exact e0.hok.fresh (u_ (x.above y c (y7 h)))
 ·unfold jf
  show _=N.length
  rw[Η,δ,t_]
  omega
theorem CK{CX:CXT}{P:χ}{w:Ρ}{K:ε}{mg:Str->Option ζ}{base:Heap}{k:Nat}{f:Addr}{name qual:Str}{params:Arguments}{body:List Stmt}{scope:EU}{dV kV doc pm cdv ct oc:ζ}{an od:Option Addr}
  {osl:Array (Option ζ)} {N ps:List Str} {sp:Sp} (lk:K.lookup f=some ⟨oc,od,.func (j3 name qual params body scope dV kV doc pm an cdv ct),osl⟩) (hcd:r_ K cdv qual=true) (S:am N ps scope)
  (len:∀vs H Q E,sp vs H Q E->vs.length=ps.length)
  (hbody:∀(A:ό)(outer:List Env)(s:ι)(H:Hp)(vs:List V)(Q:VK)(E:XK),ca k (A.deeper (envOfC qual scope s.heap.objs.size f cdv))->sp vs H Q E ->
   ∃t,PSs (bi CX P w K mg base N qual scope f cdv A outer s H E) body t/\t {nx:=λ_ H'=>Q .non H',rt:=Q} (jf N vs) H):
  av P w K mg base CX (k+1) f (j3 name qual params body scope dV kV doc pm an cdv ct) ps sp:=by
 refine⟨len,λA outer s H args us vs Q E hr e0 hb r hsp=>?_⟩
 have hl:=len _ _ _ _ hsp
 have KX:K.In s.heap:=e0.mod.kin.keeps λb o e=>(e0.bs b o e).1
 have lim:s.heap.NoLimit:=e0.mod.nolimit.keeps λb o e=>(e0.bs b o e).1
 have hkind:∀y∈ps.zip us,scope.names.lookup y.1=some .local\/(scope.names.lookup y.1=some .cell/\((cellsFrom (s.heap.objs.size+1) scope.names []).lookup y.1).isSome=true):=λ⟨n,v⟩ hy=>by
  rcases S.par n (Gh hy).1 with q|q
  ·exact .inl q
  ·exact .inr ⟨q,PySem.W.cellsFrom_some _ _ _ (.inl q)⟩
 refine codeAny_call_function hr.depth (KX _ _ lk) rfl S.co S.gen rfl (PySem.W.codeRec_of KX hcd) (hb _ _ _ _ ?_)
 refine wpAny_newFunctionEnv_cells S.kind hkind λenv he s1 x=>?_
 subst he
 refine⟨lim.keeps x.toInCall.keep,codeAny_func ?_⟩
 obtain⟨t,ht,hq⟩:=hbody A outer s H vs Q E (hr.deeper _) hsp
 have I:Inv (bi CX P w K mg base N qual scope f cdv A outer s H E) [] (jf N vs) H s1:=wL S hr.hd e0 hl r x
 refine n9 (ht [] s1 (jf N vs) H _ I hq) (λfl s' hs=>?_) λe s' hs=>hs
 have fin:∀{σ':St}{H':Hp}{v:V}{u:ζ},Inv (bi CX P w K mg base N qual scope f cdv A outer s H E) [] σ' H' s'->aL v u->Q v H'->CE outer P w H s Q u s':=
  λ{σ' H' v u} J rv q=>⟨v,H',J.os,J.bare,J.base,J.hok,rv,q⟩
 cases fl with
 |ret u=>
  obtain⟨v,σ',H',J,rv,q⟩:=hs
  exact fin J rv q
 |next=>
  obtain⟨σ',H',J,q⟩:=hs
  exact fin (v:=V.non) (u:=A1) J rfl q
 |brk=>
  obtain⟨_,_,_,q⟩:=hs
  exact n_ q
 |cont=>
  obtain⟨_,_,_,q⟩:=hs
  exact n_ q
section
variable{X:Cx}{x:Str}{p pos:Pos}{e:Expr}{es:List Expr}{t:TA}{id T:String}{r:List V->Hp->VK->Prop}
def tCB(r:List V->Hp->VK->Prop)(t:TA):TE:=λσ H Q=>t σ H λvs H1=>r vs H1 Q
theorem pe_callB(hc:cK X (.builtin id) r)(hg:Gl X x)(hm:X.mg x=none)(hv:bootBuiltins x=some (.builtin id))(ha:PA X (e::es) t)(hn:x≠"__name__":=by decide)(hdb:(x==("__debug__" : Str))=false:=by decide)
  (he:starEach (e::es) X.env=(false,eval e X.env)::starEach es X.env:=by rfl) (hpl:(backTo pos (starEach es X.env)).any (·.1)=false:=by rfl):PE X (.Call (.Name x p) (e::es) [] pos) (tCB r t):=by
 intro pins s σ H Q I h
 refine r9 (fc I hg hm hv ?_ hn hdb)
 exact PyProof.Rows.callWith_builtin1 (thn (ha pos pins s σ H _ I h) λus s1 ⟨vs,H1,I1,r1,q1⟩=>hc pins s1 σ H1 vs us Q I1 r1 q1) he hpl
theorem pe_callTy(hc:cK X (.type T) r)(hg:Gl X x)(hm:X.mg x=none)(hv:bootBuiltins x=some (.type T))(ha:PA X (e::es) t)(hn:x≠"__name__":=by decide)(hdb:(x==("__debug__" : Str))=false:=by decide)
  (he:starEach (e::es) X.env=(false,eval e X.env)::starEach es X.env:=by rfl) (hpl:(backTo pos (starEach es X.env)).any (·.1)=false:=by rfl):PE X (.Call (.Name x p) (e::es) [] pos) (tCB r t):=by
 intro pins s σ H Q I h
 refine r9 (fc I hg hm hv ?_ hn hdb)
 exact b_ (thn (ha pos pins s σ H _ I h) λus s1 ⟨vs,H1,I1,r1,q1⟩=>hc pins s1 σ H1 vs us Q I1 r1 q1) he hpl
end
section
variable{κ:Type}[DecidableEq κ]
def tz(kvs:List (κ×V))(k:κ):Option V:=(kvs.find? λkv=>decide (kv.1=k)).map (·.2)
def fJ(kvs:List (κ×V))(k:κ)(v:V):List (κ×V):=
 if (kvs.any λkv=>decide (kv.1=k))=true then kvs.map (λkv=>if kv.1=k then (kv.1,v)else kv)else kvs++[(k,v)]
theorem rV{p:κ×V}{r:List (κ×V)}{k:κ}(e:p.1=k):tz (p::r) k=some p.2:=by simp[tz,j_,e]
theorem qS{p:κ×V}{r:List (κ×V)}{k:κ}(e:¬ p.1=k):tz (p::r) k=tz r k:=by simp[tz,j_,e]
theorem qA(k:κ):∀kvs:List (κ×V),(kvs.any λkv=>decide (kv.1=k))=(tz kvs k).isSome
 |[]=>rfl
 |p::r=>by
  rw[C_]
  by_cases e:p.1=k
  ·simp only[rV e,Q9 e,Bool.true_or,Option.isSome_some]
  ·rw[qS e,Q8 e,F4];exact qA k r
theorem jb(kvs:List (κ×V))(k:κ)(v:V):(fJ kvs k v).length<=kvs.length+1:=by
 unfold fJ
 split
 ·rw[δ];omega
 ·rw[Η,Γ,j4];omega
theorem iW.isSome_eq{o:Option V}{u:Option ζ}(r:iW o u):o.isSome=u.isSome:=by
 cases o with
 |none=>cases u with
  |none=>rfl
  |some _=>exact(show False from r).elim
 |some _=>cases u with
  |none=>exact(show False from r).elim
  |some _=>rfl
theorem KV.any{kvs:List (κ×V)}{vs:List (κ×ζ)}(r:KV kvs vs)(k:κ):(kvs.any λkv=>decide (kv.1=k))=vs.any λkv=>decide (kv.1=k):=by
 unfold KV at r
 induction r with
 |nil=>rfl
 |cons h t ih=>rw[C_,C_,ih,h.1]
theorem KV.repl{kvs:List (κ×V)}{vs:List (κ×ζ)}(r:KV kvs vs)(k:κ){y:V}{u:ζ}(ry:aL y u):
  KV (kvs.map λkv=>if kv.1=k then (kv.1,y)else kv) (vs.map λkv=>if kv.1=k then (kv.1,u)else kv):=by
 unfold KV at r⊢
 induction r with
 |nil=>exact .nil
 | @cons p q ps qs h t ih=>
  rw[Χ,Χ]
  refine .cons ?_ ih
  obtain⟨h1,h2⟩:=h
  by_cases e:p.1=k
  ·rw[Q5 e,Q5 (h1.symm.trans e)];exact⟨h1,ry⟩
  ·rw[Q6 e,Q6 (λz=>e (h1.trans z))];exact⟨h1,h2⟩
theorem KV.put{kvs:List (κ×V)}{vs:List (κ×ζ)}(r:KV kvs vs)(k:κ){y:V}{u:ζ}(ry:aL y u):KV (fJ kvs k y) (stored vs k u):=by
 unfold fJ stored
 rw[r.any k]
 by_cases e:(vs.any λkv=>decide (kv.1=k))=true
 ·rw[Q5 e,Q5 e];exact r.repl k ry
 ·rw[Q6 e,Q6 e];exact Paired.snoc r ⟨rfl,ry⟩
theorem KV.keys{kvs:List (κ×V)}{vs:List (κ×ζ)}(r:KV kvs vs):kvs.map (·.1)=vs.map (·.1):=by
 unfold KV at r
 induction r with
 |nil=>rfl
 |cons h t ih=>rw[Χ,Χ,ih,h.1]
theorem KV.length{kvs:List (κ×V)}{vs:List (κ×ζ)}(r:KV kvs vs):kvs.length=vs.length:=Paired.length r
end
theorem qY{P:χ}{w:Ρ}{k:Key}{u:ζ}(r:aL (kV k) u):(aS P w).is k u=true:=by
 cases k with
 |inl i=>obtain⟨t,e⟩:=(show ∃t,u=y9 i t from r);subst e;exact qE P w i t
 |inr x=>obtain⟨t,e⟩:=(show ∃t,u=k_ x t from r);subst e;exact fC P w x t
theorem mN{P:χ}{w:Ρ}:∀{ks:List Key}{us:List ζ},aF (ks.map kV) us->ItemsAre (aS P w) ks us
 |[],_,r=>by rw[j9]at r;cases r;exact .nil
 |k::ks,_,r=>by
  rw[Χ]at r
  cases r with
  |cons h t=>exact .cons (qY h) (mN t)
abbrev KT(H:Hp):List (List Key×V)->List (List Key×Addr×ζ)->Prop:=Paired λp q=>p.1=q.1/\H q.2.1=some (.tup (p.1.map kV))/\aL p.2 q.2.2
theorem KT.val{H:Hp}{kvs:List (List Key×V)}{xs:List (List Key×Addr×ζ)}(r:KT H kvs xs)(k:List Key):iW (tz kvs k) ((atKey xs k).map (·.2)):=by
 induction r with
 |nil=>exact A5
 | @cons p q ps qs h t ih=>
  obtain⟨h1,_,h2⟩:=h
  by_cases e:p.1=k
  ·have e':q.1=k:=h1.symm.trans e
   have b:atKey (q::qs) k=some q.2:=by simp[atKey,j_,e']
   rw[rV e,b];exact h2
  ·have e':¬ q.1=k:=λz=>e (h1.trans z)
   have b:atKey (q::qs) k=atKey qs k:=by simp[atKey,j_,e']
   rw[qS e,b];exact ih
theorem KT.repl{H:Hp}{kvs:List (List Key×V)}{xs:List (List Key×Addr×ζ)}(r:KT H kvs xs)(k:List Key){y:V}{u:ζ}(ry:aL y u):
  KT H (kvs.map λkv=>if kv.1=k then (kv.1,y)else kv) (xs.map (putAt k u)):=by
 induction r with
 |nil=>exact .nil
 | @cons p q ps qs h t ih=>
  rw[Χ,Χ]
  refine .cons ?_ ih
  obtain⟨h1,h2,h3⟩:=h
  unfold putAt
  by_cases e:p.1=k
  ·rw[Q5 e,Q5 (h1.symm.trans e)];exact⟨h1,h2,ry⟩
  ·rw[Q6 e,Q6 (λz=>e (h1.trans z))];exact⟨h1,h2,h3⟩
theorem KT.put{H:Hp}{kvs:List (List Key×V)}{xs:List (List Key×Addr×ζ)}(r:KT H kvs xs)(k:List Key){b:Addr}{y:V}{u:ζ}(hb:H b=some (.tup (k.map kV)))(ry:aL y u):
  KT H (fJ kvs k y) (storedH xs k b u):=by
 have e:(kvs.any λkv=>decide (kv.1=k))=(atKey xs k).isSome:=by
  rw[qA,(r.val k).isSome_eq,EW]
 unfold fJ storedH
 rw[e]
 by_cases q:(atKey xs k).isSome=true
 ·rw[Q5 q,Q5 q];exact r.repl k ry
 ·rw[Q6 q,Q6 q];exact Paired.snoc r ⟨rfl,hb,ry⟩
theorem KT.keeps{H H':Hp}{kvs:List (List Key×V)}{xs:List (List Key×Addr×ζ)}(r:KT H kvs xs)(ht:∀b ys,H b=some (.tup ys)->H' b=some (.tup ys)):KT H' kvs xs:=
 Paired.mapP r λ_ _ z=>⟨z.1,ht _ _ z.2.1,z.2.2⟩
section
variable{P:χ}{w:Ρ}{H:Hp}{h:Heap}{a:Addr}
theorem AQ{u:HO}(ok:HOk P w H h)(e:Rd H a u):bf P w H h a u:=e.ok ok
theorem DR{kvs:List (Key×V)}(ok:HOk P w H h)(e:Rd H a (.dK kvs)):kvs.length<=sizeLine/\(a==sysModules)=false/\∃vs,KV kvs vs/\h.DictOf (aS P w) a vs:=
 show bf P w H h a (.dK kvs)from AQ ok e
theorem yJ{kvs:List (Key×V)}(ok:HOk P w H h)(e:H a=some (.dK kvs)):kvs.length<=sizeLine/\(a==sysModules)=false/\∃vs,KV kvs vs/\h.DictOf (aS P w) a vs:=DR ok (.inl e)
theorem yr{ks:List Key}(ok:HOk P w H h)(e:H a=some (.tup (ks.map kV))):(tupleKind (aS P w)).is h ks a:=by
 obtain⟨_,its,r,⟨o,h1,h2,n,h3⟩,_⟩:=(show bf P w H h a (.tup (ks.map kV))from ok a _ e)
 exact⟨o,its.toArray,n,h1,h2,h3,by simpa using mN r⟩
theorem Dj{kvs:List (List Key×V)}(ok:HOk P w H h)(e:Rd H a (.dT kvs)):kvs.length<=sizeLine/\(a==sysModules)=false /\
  ∃xs,KT H kvs xs/\h.DictOfH (tupleKind (aS P w)) a xs:=by
 obtain⟨z,y,xs,r,o,es,ep,h1,h2,h3,h4,h5⟩:=(show bf P w H h a (.dT kvs)from AQ ok e)
 refine⟨z,y,xs,r,o,es,ep,h1,h2,h3,h4,λx hx=>?_,h5⟩
 have all:∀{l:List (List Key×V)}{m:List (List Key×Addr×ζ)},KT H l m->∀x∈m,(tupleKind (aS P w)).is h x.1 x.2.1:=by
  intro l m q
  induction q with
  |nil=>intro x hx;exact nomatch hx
  | @cons p q ps qs hq t ih=>
   intro x hx
   rcases ν.mp hx with e|hx
   ·subst e
    exact yr ok (by rw[<-hq.1];exact hq.2.1)
   ·exact ih x hx
 exact all r x hx
theorem Dz{kvs:List (List Key×V)}(ok:HOk P w H h)(e:H a=some (.dT kvs)):kvs.length<=sizeLine/\(a==sysModules)=false /\
  ∃xs,KT H kvs xs/\h.DictOfH (tupleKind (aS P w)) a xs:=Dj ok (.inl e)
end
def ww(H:Hp)(a:Addr)(y v:V)(H':Hp):Prop:=
 (∃kvs k,H a=some (.dK kvs)/\y=kV k/\kvs.length<sizeLine/\H'=upd H a (.dK (fJ kvs k v))) \/
 ∃kvs k b,H a=some (.dT kvs)/\y=.ref b/\H b=some (.tup (k.map kV))/\kvs.length<sizeLine/\H'=upd H a (.dT (fJ kvs k v))
theorem ww.k{H:Hp}{a:Addr}{kvs:List (Key×V)}{k:Key}{v:V}(e:H a=some (.dK kvs))(hl:kvs.length<sizeLine):ww H a (kV k) v (upd H a (.dK (fJ kvs k v))):=.inl ⟨kvs,k,e,rfl,hl,rfl⟩
section
variable{X:Cx}{pins:List (Addr×Obj)}{σ:St}{H:Hp}{s:ι}{a:Addr}{y v:V}{u r:ζ}{o:Option V}{A:ό}{E:ζ->ι->Prop}
theorem Inv.big(I:Inv X pins σ H s):sysModules<s.heap.objs.size:=by
 have h:mainGlobals<s.heap.objs.size:=(I.mod.glob.keeps I.bk).lt
 exact Nat.lt_trans () h
theorem vS{h':Heap}{t':Nat}{ob:HO}(I:Inv X pins σ H s)(mu:Mut (H a))(hs:C1 a s.heap h')(he:∃q,h'.get? a=some q)(new:bf X.prog X.w (upd H a ob) h' a ob):
  Inv X pins σ (upd H a ob) {s with heap:=h',toks:=t'}:=
 I.write (x:=a) (e:=a) mu (.inl rfl) (λb q hb z=>(hs.2 b hb).trans z) he new
theorem BM{P:χ}{w:Ρ}{H':Hp}{h':Heap}{kvs:List (Key×V)}{vs:List (Key×ζ)}(z:kvs.length<=sizeLine)(hd:(a==sysModules)=false)(rel:KV kvs vs)(dd:h'.DictOf (aS P w) a vs):
  bf P w H' h' a (.dK kvs):=⟨z,hd,vs,rel,dd⟩
theorem xi{H':Hp}{Q:Unit->ι->Prop}(hu:A.units+1<cLine)(I:Inv X pins σ H s)(g:ww H a y v H')(ry:aL y u)(rv:aL v r)(h:∀s',Inv X pins σ H' s'->Q Unit.unit s'):
  wpAny (model X.prog X.w) A (setItem (.ref a) u r) Q E s:=by
 rcases g with ⟨kvs,k,e,ey,l,eH⟩|⟨kvs,k,b,e,ey,eb,l,eH⟩
 ·subst ey eH
  obtain⟨z,hd,vs,rel,dd⟩:=yJ I.hok e
  have hz:vs.length<=sizeLine:=by rw[<-rel.length];exact z
  have hl:(fJ kvs k v).length<=sizeLine:=by have:=jb kvs k v;omega
  refine wpAny_setItem_pairs (hsz:=hz) (qY ry) dd λh' dd' hs=>h _ ?_
  have he:∃q,h'.get? a=some q:=let ⟨q,_,_,hq,_⟩:=dd';⟨q,hq⟩
  exact vS I (by rw[e];exact A5) hs he (BM hl hd (rel.put k rv) dd')
 ·subst ey eH
  cases(show u=ώ b from ry)
  obtain⟨z,hd,xs,rel,dd⟩:=Dz I.hok e
  have hz:xs.length<=sizeLine:=by rw[<-Paired.length rel];exact z
  have hl:(fJ kvs k v).length<=sizeLine:=by have:=jb kvs k v;omega
  refine wpAny_setItem_heap (hsz:=hz) (tupleKind_room_in1 hu) (yr I.hok eb) dd λh' dd' hs=>h _ ?_
  obtain⟨q,es,ep,hq,h2,h3,h4,_,h5⟩:=dd'
  refine vS I (by rw[e];exact A5) hs ⟨q,hq⟩ ⟨hl,hd,_,(rel.put k eb rv).keeps λc ys ec=>?_,q,es,ep,hq,h2,h3,h4,h5⟩
  rw[ao (CH ec e (λz=>nomatch z))]
  exact ec
end
section
variable{X:Cx}{pins:List (Addr×Obj)}{σ:St}{H:Hp}{s:ι}{a:Addr}{kvs:List (Key×V)}{k:Key}{u:ζ}{A:ό}{E:ζ->ι->Prop}
end
def Dc(i:Expr):Prop:=∀ov iv,subscripted i false ov iv=operate [ov,iv] (getItem ov iv)
theorem AE{prog:χ}{w:Ρ}{A:ό}{E:ζ->ι->Prop}{s:ι}{env:Env}{value slice:Expr}{pos:Pos}{T id:String}{Q:ζ->ι->Prop}
  (hl:typeLookup (.type T) "__getitem__"=pure (some (.builtin id))) (hs:Dc slice)
  (h:wpAny (model prog w) A (eval value env) (λo s₁=>wpAny (model prog w) A (eval slice env) (λi s₂=>s₂.TypeIs o T/\wpAny (model prog w) A (getItem o i) Q E s₂) E s₁) E s):
  wpAny (model prog w) A (eval (.Subscript value slice pos) env) Q E s:=by
 refine Subscript_ (n9 h (λo s₁ h₁=>n9 h₁ (λi s₂ h₂=>?_) λ_ _ x=>x) λ_ _ x=>x)
 obtain⟨hT,h₂⟩:=h₂
 unfold subscriptTail
 refine η ?_
 rw[getitemInPython_of_ne hT.not_modules]
 refine η (wpAny_specialOf hT hl ?_)
 have fin:wpAny (model prog w) A (subscripted slice false o i) (λr s₃=>wpAny (model prog w) A (letTemporaryGo value o r>>=λ_=>pure r) Q E s₃) E s₂:=by
  rw[hs o i]
  exact wpAny_operating (n9 h₂ (λr s₃ h₃=>η (wpAny_letTemporaryGo (ω h₃))) λ_ _ x=>x)
 first
  |exact ω (η fin)
  |exact η (ω (η fin))
  |exact η fin
def DK(td ty tv:TE):TS:=λD σ H=>tv σ H λv H1=>td σ H1 λx H2=>ty σ H2 λy H3=>∃a H4,x=.ref a/\ww H3 a y v H4/\D.nx σ H4
section
variable{X:Cx}{o i e value:Expr}{pos pos' tpos:Pos}{td ty tv:TE}
theorem ps_dput(hu:X.A.units+1<cLine)(ho:PE X o td)(hi:PE X i ty)(hv:PE X value tv)(hs:swapsWith value (some (.Subscript o i pos')) pos.line X.env=pure false):
  PS X (.Assign [.Subscript o i pos'] value pos) (DK td ty tv):=by
 intro pins s σ H D I h
 refine wpAny_Assign_Subscript (thn (hv pins s σ H _ I h) λr s1 ⟨v,H1,I1,rv,q1⟩=>thn (ho pins s1 σ H1 _ I1 q1) λu s2 ⟨x,H2,I2,rx,q2⟩=>thn (hi pins s2 σ H2 _ I2 q2) λiv s3 ⟨y,H3,I3,ry,a,H4,ex,g,q3⟩=>?_) hs
 subst ex
 obtain rfl:u=ώ a:=rx
 exact xi hu I3 g ry rv λs4 I4=>⟨σ,H4,I4,q3⟩
end
theorem yQ{P:χ}{w:Ρ}{H:Hp}(h:Heap)(hb:sysModules<h.objs.size):bf P w H (h.push {cls:=.type "dict",data:=.dict #[]}) h.objs.size (.dK []):=
 ⟨ϊ _,beq_eq_false_iff_ne.mpr (ϋ (Ϣ hb)),[],.nil,Heap.DictOf.new h⟩
def BH:TE:=λ_ H Q=>∀p,H p=none->Q (.ref p) (upd H p (.dK []))
section
variable{X:Cx}{pos:Pos}
theorem pe_dnewK:PE X (.Dict [] [] pos) BH:=λpins s σ H Q I h=>
 wpAny_Dict_empty ⟨.ref s.heap.objs.size,_,I.laid (a:=s.heap.objs.size) (o:=.dK []) (t':=s.toks) (λ_ _ q=>ρ _ q) (π _) (yQ s.heap I.big),rfl,h _ (I.hok.fresh (π _))⟩
end
section
variable{X:Cx}{pins:List (Addr×Obj)}{σ:St}{H:Hp}{s:ι}{a:Addr}{y d:V}{u r:ζ}{o:Option V}{A:ό}{E:ζ->ι->Prop}
end
section
variable{X:Cx}{o e f:Expr}{apos cpos:Pos}{td ty tx:TE}
end
section
variable{X:Cx}{pins:List (Addr×Obj)}{σ:St}{H:Hp}{s:ι}{a:Addr}{kvs:List (Key×V)}{A:ό}{E:ζ->ι->Prop}
end
section
variable{X:Cx}{pins:List (Addr×Obj)}{σ:St}{H:Hp}{s:ι}{a:Addr}{y:V}{u:ζ}{A:ό}{E:ζ->ι->Prop}
end
end L2
namespace HT
open PySem PyProof.Rows
section
open PySem.SeqAt
open PySem.AutoSeq1 (wpAny_loadPart')
open PySem.MeetsSeq PySem.MeetsSeq2 PySem.MeetsSeq3
end
section
variable{prog:χ}{w:Ρ}{A:ό}{E:ζ->ι->Prop}{s:ι}
theorem cat_tup{t b:Addr}{vs ws:List ζ}{Q:ζ->ι->Prop}(ht:GB s.heap t vs.toArray)(hb:GB s.heap b ws.toArray)(hv:vs≠[])
  (h1:ws=[]->Q (.ref t) s) (h2:ws≠[]->Q (.ref s.heap.objs.size) {s with heap:=s.heap.push {cls:=.type "tuple",data:=.seq (vs++ws).toArray} })
  (hsz:vs.length+ws.length<=sizeLine):wpAny (model prog w) A (binaryOp .Add (.ref t) (.ref b)) Q E s:=by
 obtain⟨⟨cls,dd,data,sl⟩,ho,hc,n,hd⟩:=id ht
 obtain⟨⟨cls2,dd2,data2,sl2⟩,ho2,hc2,n2,hd2⟩:=id hb
 simp only at hc hd hc2 hd2
 subst hc hd hc2 hd2
 have e:vs.toArray++ws.toArray=(vs++ws).toArray:=by simp
 by_cases hw:ws=[]
 ·exact concat_meets ⟨_,ho,rfl⟩ ⟨_,ho2,rfl⟩ F6 seq_tuple_add EY ET (D0 _ _)
   (tuple_addW1 t b vs.toArray ws.toArray n n2 dd dd2 sl sl2 (by simpa using hv) (by simp[hw])) ⟨ho,ho2,h1 hw⟩
 ·refine concat_meets ⟨_,ho,rfl⟩ ⟨_,ho2,rfl⟩ F6 seq_tuple_add EY ET (D0 _ _)
   (tuple_addW2 t b vs.toArray ws.toArray n n2 dd dd2 sl sl2 (by simpa using hv) (by simpa using hw) (by rw[Δ,Δ];exact hsz)) ⟨ho,ho2,?_⟩
  rw[e]
  exact h2 hw
def sIx(n d:Nat):Option Int->Nat
 |none=>d
 |some v=>if v<0 then (v+(n:Int)).toNat else min v.toNat n
theorem sIx_nat(n d k:Nat):sIx n d (some (k:Int))=min k n:=by
 show(if (k:Int)<0 then ((k:Int)+(n:Int)).toNat else min (k:Int).toNat n)=min k n
 rw[Q6 (),FZ]
theorem Cl(n d:Nat)(hd:d<=n)(o:Option Int):sIx n d o<=n:=by
 cases o with
 |none=>exact hd
 |some v=>
  show(if v<0 then (v+(n:Int)).toNat else min v.toNat n)<=n
  by_cases hv:v<0
  ·rw[Q5 hv];omega
  ·rw[Q6 hv];exact Nat.min_le_right _ _
theorem uT(v:Int)(n d:Nat):(if v<0 then max (v+(n:Int)) 0 else min v (n:Int))=((sIx n d (some v):Nat):Int):=by
 show(if v<0 then max (v+(n:Int)) 0 else min v (n:Int))=(((if v<0 then (v+(n:Int)).toNat else min v.toNat n):Nat):Int)
 by_cases hv:v<0
 ·simp only[Q5 hv];omega
 ·simp only[Q6 hv];omega
theorem tV(lo hi:Option Int)(n:Nat):C6 lo hi 1 (n:Int)=(((sIx n 0 lo:Nat):Int),((sIx n n hi:Nat):Int)):=by
 have h1:¬ ((1:Int)<0):=by omega
 unfold C6
 simp only[h1,if_false]
 refine Prod.ext ?_ ?_
 ·cases lo with
  |none=>rfl
  |some v=>exact uT v n 0
 ·cases hi with
  |none=>rfl
  |some v=>exact uT v n n
theorem ux(i j:Nat):u5 (i:Int) (j:Int) 1=j-i:=by
 unfold u5
 have h1:(1:Int)>0:=by omega
 simp only[h1,if_true,Int.ediv_one]
 split<;>omega
theorem lT{v:ζ}{o:Option Int}{Q:Option Int->ι->Prop}(p:Gv v o)(h:Q o s):wpAny (model prog w) A (v_.Slice.slicePartIndex v) Q E s:=by
 cases p with
 |none=>exact slicePart_none h
 |int i t=>exact slicePart_int h
theorem sliceApplied_gen{sl:Addr}{vl vu:ζ}{lo hi:Option Int}{n:Nat}{Q:Int×Int×Nat->ι->Prop}(hs:s.heap.IsSliceOf sl vl vu .none)(pl:Gv vl lo)(pu:Gv vu hi)
  (h:Q (((sIx n 0 lo:Nat):Int),1,sIx n n hi-sIx n 0 lo) s):wpAny (model prog w) A (B5 (.ref sl) (pure (n:Int))) Q E s:=by
 obtain⟨os,hos,hcs,hds⟩:=id hs
 unfold B5 v_.Slice.sliceFields
 refine η (η (ϣ hos hds (x:=vl) rfl (η (ϣ hos hds (x:=vu) rfl (η (ϣ hos hds (x:=.none) rfl (ω ?_)))))))
 refine η (slicePart_none ?_)
 show wpAny _ _ (if ((1:Int)==0)=true then _ else _) _ _ s
 rw[Q6 ()]
 refine η (lT pl (η (lT pu (η (ω ?_)))))
 show wpAny _ _ (match C6 lo hi 1 (n:Int)with|(lo,hi)=>pure (lo,(1:Int),u5 lo hi 1)) _ _ s
 rw[tV lo hi n]
 show wpAny _ _ (pure (((sIx n 0 lo:Nat):Int),(1:Int),u5 ((sIx n 0 lo:Nat):Int) ((sIx n n hi:Nat):Int) 1)) _ _ s
 rw[ux]
 exact ω h
theorem pick_gen(xs:Array ζ)(i k:Nat):((Ϝ k).filterMap λ(m:Nat)=>xs[((i:Int)+(m:Int)*1).toNat]?).toArray=((xs.toList.drop i).take k).toArray:=by
 have e:(λ(m:Nat)=>xs[((i:Int)+(m:Int)*1).toNat]?)=λm=>xs[i+m]?:=by
  funext m
  have:((i:Int)+(m:Int)*1).toNat=i+m:=by omega
  rw[this]
 rw[e]
 have:=pick_run xs i k
 rw[List.filterMap_map]at this
 have e2:((λx=>xs[x]?)∘λx=>i+x)=λm=>xs[i+m]?:=rfl
 rw[e2]at this
 rw[this]
theorem getItem_tuple_cut{t sl:Addr}{items:Array ζ}{vl vu:ζ}{lo hi:Option Int}{Q:ζ->ι->Prop}(ht:GB s.heap t items)(hs:s.heap.IsSliceOf sl vl vu .none)(pl:Gv vl lo)(pu:Gv vu hi)
  (hw:¬ (sIx items.size 0 lo=0/\sIx items.size items.size hi=items.size))
  (h:Q (.ref s.heap.objs.size) {s with heap:=s.heap.push {cls:=.type "tuple",data:=.seq ((items.toList.drop (sIx items.size 0 lo)).take (sIx items.size items.size hi-sIx items.size 0 lo)).toArray} })
  (hsz:items.size<=sizeLine):wpAny (model prog w) A (getItem (.ref t) (.ref sl)) Q E s:=by
 have htake:sizeOk (.seq ((items.toList.drop (sIx items.size 0 lo)).take (sIx items.size items.size hi-sIx items.size 0 lo)).toArray):=by
  show((items.toList.drop (sIx items.size 0 lo)).take (sIx items.size items.size hi-sIx items.size 0 lo)).toArray.size<=sizeLine
  rw[Δ,Υ,Ϸ,Ι]
  omega
 have hj:sIx items.size items.size hi<=items.size:=Cl _ _ (π _) hi
 obtain⟨os,hos,hcs,hds⟩:=id hs
 have hTs:s.TypeIs (.ref sl) "slice":=⟨os,hos,hcs⟩
 unfold getItem
 try with_reducible refine A_ ?_
 first|refine η (ω ?_)|skip
 refine η (wpAny_sequenceKey ht.typeIs () ?_)
 refine η (ϸ (name:=γ "__getitem__") ht.typeIs ϱ
  (a9 ϱ ht.typeIs entry_tuple_getitem ?_ (args_tuple_getitem _ _)))
 show wpAny _ _ (Fz (.ref t)>>=_) _ _ s
 refine η (tupleItemsOf_ ht ?_)
 refine η (wpAny_typeOf hTs ?_)
 rw[Q5 ()]
 refine η (sliceApplied_gen hs pl pu ?_)
 have hno:¬ ((((sIx items.size 0 lo:Nat):Int)==0&&(1:Int)==1&&(sIx items.size items.size hi-sIx items.size 0 lo)==items.size)=true):=by
  intro q
  rw[Ζ,Ζ]at q
  have q1:((sIx items.size 0 lo:Nat):Int)=0:=eq_of_beq q.1.1
  have q2:sIx items.size items.size hi-sIx items.size 0 lo=items.size:=eq_of_beq q.2
  exact hw ⟨(),()⟩
 show wpAny _ _ (if (((sIx items.size 0 lo:Nat):Int)==0&&(1:Int)==1&&(sIx items.size items.size hi-sIx items.size 0 lo)==items.size)=true then _ else _) _ _ s
 rw[Q6 hno,pick_gen]
 first
  |exact η (m:=ϰ _) (ϻ (ω ⟨_,rfl,ω h⟩) htake)
  |exact η (m:=ϰ _) (ϻ (η (ω (ω ⟨_,rfl,ω h⟩))) htake)
  |exact η (η (m:=ϰ _) (ϻ (ω (ω ⟨_,rfl,ω h⟩)) htake))
  |exact η (η (m:=ϰ _) (ϻ (ω ⟨_,rfl,ω h⟩) htake))
end
end HT
namespace L2
open PySem PySem.Spec PyProof.Rows
abbrev TO:=St->Hp->(Option Int->Hp->Prop)->Prop
def PO(X:Cx)(e:Option Expr)(t:TO):Prop:=
 ∀(pins:List (Addr×Obj))(s:ι)(σ:St)(H:Hp)(Q:Option Int->Hp->Prop),Inv X pins σ H s->t σ H Q ->
  wpAny (model X.prog X.w) X.A (evalPart e X.env) (λu s'=>∃o H',Inv X pins σ H' s'/\Gv u o/\Q o H') X.xe s
def bz:TO:=λ_ H Q=>Q none H
def Dh(t:TE):TO:=λσ H Q=>t σ H λx H1=>∃i,x=.int i/\Q (some i) H1
section
variable{X:Cx}{e:Expr}{te:TE}{lo hi:Option Expr}{tl th:TO}{pos p2:Pos}
theorem po_none:PO X none bz:=by
 intro pins s σ H Q I h
 rw[evalPart_none]
 exact ω ⟨none,H,I,.none,h⟩
theorem po_some(h:PE X e te):PO X (some e) (Dh te):=by
 intro pins s σ H Q I hw
 rw[evalPart_some]
 refine thn (h pins s σ H _ I hw) λu s1 ⟨x,H1,I1,r1,q1⟩=>?_
 obtain⟨i,rfl,q⟩:=q1
 obtain⟨t,rfl⟩:=r1
 exact⟨some i,H1,I1,.int i t,q⟩
def SlR(X:Cx)(r:V->Option Int->Option Int->Hp->VK->Prop):Prop:=
 ∀(pins:List (Addr×Obj))(s:ι)(σ:St)(H:Hp)(x:V)(v vl vu:ζ)(lo hi:Option Int)(sl:Addr)(Q:VK),Inv X pins σ H s->aL x v->s.heap.IsSliceOf sl vl vu .none->Gv vl lo->Gv vu hi->r x lo hi H Q ->
  ∃T id,typeLookup (.type T) "__getitem__"=pure (some (.builtin id))/\s.TypeIs v T/\wpAny (model X.prog X.w) X.A (getItem v (.ref sl)) (EP X pins σ Q) X.xe s
def tSl(r:V->Option Int->Option Int->Hp->VK->Prop)(te:TE)(tl th:TO):TE:=λσ H Q=>te σ H λx H1=>tl σ H1 λl H2=>th σ H2 λu H3=>r x l u H3 Q
theorem pe_slice{r:V->Option Int->Option Int->Hp->VK->Prop}(hr:SlR X r)(he:PE X e te)(hl:PO X lo tl)(hu:PO X hi th):PE X (.Subscript e (.Slice lo hi none p2) pos) (tSl r te tl th):=by
 intro pins s σ H Q I h
 refine Subscript_ (thn (he pins s σ H _ I h) λv s1 ⟨x,H1,I1,r1,q1⟩=>?_)
 refine wpAny_Slice (thn (hl pins s1 σ H1 _ I1 q1) λvl s2 ⟨l,H2,I2,pl,q2⟩=>thn (hu pins s2 σ H2 _ I2 q2) λvu s3 ⟨u,H3,I3,pu,q3⟩=>?_)
 rw[evalPart_none]
 refine ω ?_
 have I4:Inv X pins σ H3 {s3 with heap:=s3.heap.push {cls:=.type "slice",data:=.fields #[vl,vu,.none]} }:=I3.kept (t':=s3.toks) λb ob q=>ρ _ q
 obtain⟨T,id,hT,ht,hg⟩:=hr pins {s3 with heap:=s3.heap.push {cls:=.type "slice",data:=.fields #[vl,vu,.none]} } σ H3 x v vl vu l u s3.heap.objs.size Q I4 r1 (Heap.IsSliceOf.new ..) pl pu q3
 show wpAny (model X.prog X.w) X.A (subscriptTail e (.Slice lo hi none p2) v (.ref s3.heap.objs.size)) (EP X pins σ Q) X.xe {s3 with heap:=s3.heap.push {cls:=.type "slice",data:=.fields #[vl,vu,.none]} }
 exact tail_any (ops:=[.ref s3.heap.objs.size,v]) ht hT hg (by with_unfolding_all rfl)
def bU(xs:List V)(lo hi:Option Int):List V:=(xs.drop (HT.sIx xs.length 0 lo)).take (HT.sIx xs.length xs.length hi-HT.sIx xs.length 0 lo)
theorem fv(xs:List V)(lo hi:Option Int):(bU xs lo hi).length<=xs.length:=by
 unfold bU
 rw[Υ,Ϸ]
 omega
def DV(K:ε):V->Option Int->Option Int->Hp->VK->Prop:=λx lo hi H Q=>∃a xs,x=.ref a/\SqT K H a xs /\
 ¬ (HT.sIx xs.length 0 lo=0/\HT.sIx xs.length xs.length hi=xs.length)/\∀p,H p=none->Q (.ref p) (upd H p (.tup (bU xs lo hi)))
theorem BP:SlR X (DV X.K):=by
 intro pins s σ H x v vl vu lo hi sl Q I rx hs pl pu h
 obtain⟨a,xs,rfl,hx,hw,q⟩:=h
 cases rx
 obtain⟨its,r,ht,hz⟩:=I.tuple hx
 have hlen:its.toArray.size=xs.length:=by rw[Δ];exact r.length.symm
 refine⟨"tuple",_,ϱ.lookup,ht.typeIs,?_⟩
 refine HT.getItem_tuple_cut ht hs pl pu (by rw[hlen];exact hw) ?_ (by rw[hlen];exact hz)
 rw[hlen]
 refine⟨.ref s.heap.objs.size,_,I.laid (t':=s.toks) (o:=.tup (bU xs lo hi)) (λb ob q=>ρ _ q) (π _) ?_,rfl,q _ (I.hok.fresh (π _))⟩
 exact⟨a7 (fv xs lo hi) hz,_,(r.drop (HT.sIx xs.length 0 lo)).take (HT.sIx xs.length xs.length hi-HT.sIx xs.length 0 lo),Gp _ _,NoD.new _ rfl⟩
def DS(K:ε):R2:=λx y H Q=>∃a b xs ys,x=.ref a/\y=.ref b/\SqT K H a xs/\SqT K H b ys/\xs≠[]/\xs.length+ys.length<=sizeLine /\
 (ys=[]->Q (.ref a) H)/\(ys≠[]->∀p,H p=none->Q (.ref p) (upd H p (.tup (xs++ys))))
theorem aF.nil_iff{xs:List V}{us:List ζ}(r:aF xs us):us=[]↔xs=[]:=by
 cases r with
 |nil=>simp
 |cons _ _=>simp
theorem Au:OpR X (binaryOp .Add) (DS X.K):=by
 intro pins s σ H x y v u Q I rx ry h
 obtain⟨a,b,xs,ys,rfl,rfl,ha,hb,hx,hz,q1,q2⟩:=h
 cases rx
 cases ry
 obtain⟨its,r1,p1,_⟩:=I.tuple ha
 obtain⟨its2,r2,p2,_⟩:=I.tuple hb
 refine HT.cat_tup p1 p2 (λz=>hx (r1.nil_iff.mp z)) (λz=>⟨.ref a,H,I,rfl,q1 (r2.nil_iff.mp z)⟩) (λz=>?_) (by rw[<-r1.length,<-r2.length];exact hz)
 refine⟨.ref s.heap.objs.size,_,I.laid (t':=s.toks) (o:=.tup (xs++ys)) (λb ob q=>ρ _ q) (π _) ?_,rfl,q2 (λw=>z (r2.nil_iff.mpr w)) _ (I.hok.fresh (π _))⟩
 exact⟨by rw[Η];exact hz,_,r1.append r2,Gp _ _,NoD.new _ rfl⟩
end
def ixN(n:Nat)(i:Int):Option Nat:=if 0<=i then (if i<n then some i.toNat else none)else if -(n:Int)<=i then some (i+n).toNat else none
def atI{α:Type}(xs:List α)(i:Int):Option α:=(ixN xs.length i).bind λj=>xs[j]?
theorem uB{n:Nat}{i:Int}{j:Nat}(h:ixN n i=some j):seqIndex? i n=some j/\j<n/\-(n:Int)<=i/\i<n:=by
 unfold ixN at h
 by_cases h0:0<=i
 ·rw[Q5 h0]at h
  by_cases h1:i<n
  ·rw[Q5 h1]at h
   have e:i.toNat=j:=Ϛ h
   exact⟨by rw[seqIndex_of h0 h1,e],(),(),h1⟩
  ·rw[Q6 h1]at h;cases h
 ·rw[Q6 h0]at h
  by_cases h1:-(n:Int)<=i
  ·rw[Q5 h1]at h
   have e:(i+n).toNat=j:=Ϛ h
   exact⟨by rw[seqIndex_neg () h1,e],(),h1,()⟩
  ·rw[Q6 h1]at h;cases h
theorem oC{α:Type}{xs:List α}{i:Int}{v:α}(h:atI xs i=some v):∃j,seqIndex? i xs.length=some j/\xs[j]?=some v/\j<xs.length/\-(xs.length:Int)<=i/\i<xs.length:=by
 unfold atI at h
 cases e:ixN xs.length i with
 |none=>rw[e]at h;cases h
 |some j=>
  rw[e]at h
  obtain⟨h1,h2,h3,h4⟩:=uB e
  exact⟨j,h1,h,h2,h3,h4⟩
theorem ae{α:Type}{xs:List α}{j:Nat}{v:α}(h:xs[j]?=some v):atI xs (j:Int)=some v:=by
 have hj:j<xs.length:=(ψ.mp h).1
 have e:ixN xs.length (j:Int)=some j:=by
  unfold ixN
  rw[Q5 (),Q5 ()];simp
 unfold atI;rw[e];exact h
def AB(b:Expr):Prop:=∀o i,subscripted b false o i=operate [o,i] (getItem o i)
def IxR(X:Cx)(r:R2):Prop:=
 ∀(value slice:Expr)(pins:List (Addr×Obj))(s:ι)(σ:St)(H:Hp)(x y:V)(v u:ζ)(Q:VK),Inv X pins σ H s->aL x v->aL y u->r x y H Q ->
  subscripted slice false v u=operate [v,u] (getItem v u)->wpAny (model X.prog X.w) X.A (subscriptTail value slice v u) (EP X pins σ Q) X.xe s
def MtR(X:Cx)(id:String)(r:V->List V->Hp->VK->Prop):Prop:=
 ∀(pins:List (Addr×Obj))(s:ι)(σ:St)(H:Hp)(x:V)(xs:List V)(v:ζ)(us:List ζ)(Q:VK),Inv X pins σ H s->aL x v->aF xs us->r x xs H Q ->
  wpAny (model X.prog X.w) X.A (call (.builtin id) (v::us)) (EP X pins σ Q) X.xe s
section
variable{X:Cx}{a b:Expr}{ta tb:TE}{pos:Pos}
theorem pe_ix{r:R2}(hr:IxR X r)(ha:PE X a ta)(hb:PE X b tb)(hs:AB b):PE X (.Subscript a b pos) (tOp r ta tb):=by
 intro pins s σ H Q I h
 exact Subscript_ (Cm ha hb I h λv u s2 x y H2 I2 rx ry q=>hr a b pins s2 σ H2 x y v u Q I2 rx ry q (hs _ _))
def CT(K:ε):R2:=λx y H Q=>∃p xs i v,x=.ref p/\y=.int i/\SqL K H p xs/\atI xs i=some v/\Q v H
def yl(K:ε):R2:=λx y H Q=>∃p xs i v,x=.ref p/\y=.int i/\SqT K H p xs/\atI xs i=some v/\Q v H
def Ew:R2:=λx y H Q=>∃z i c,x=.str z/\y=.int i/\z.length<=sizeLine/\atI z.cps.toList i=some c/\Q (.str ⟨#[c]⟩) H
theorem aE:IxR X (CT X.K):=by
 intro value slice pins s σ H x y v u Q I rx ry h hs
 obtain⟨p,xs,i,z,rfl,rfl,hq,he,q⟩:=h
 cases rx
 obtain⟨t,rfl⟩:=ry
 obtain⟨its,r,pl,hz⟩:=I.list hq
 obtain⟨j,h1,h2,h3,h4,h5⟩:=oC he
 obtain⟨w,ew,rw'⟩:=r.get h2
 have hl:=r.length
 have hn:=gB
 have fin:EP X pins σ Q w s:=⟨z,H,I,rw',q⟩
 by_cases h0:0<=i
 ·have hj:i.toNat=j:=by
   rw[seqIndex_of h0 h5]at h1
   exact Ϛ h1
  exact item_listR pl.isList h0 () (by rw[hj];simpa using ew) fin hs
 ·have hj:(i+(its.toArray.size:Int)).toNat=j:=by
   rw[seqIndex_neg () h4]at h1
   rw[Δ,<-hl]
   exact Ϛ h1
  exact subscriptTail_builtinR (x:=w) pl.isList.typeIs slot_list_getitem.lookup
   (wpAny_getItem_list_neg (Q:=λr s'=>r=w/\EP X pins σ Q r s') pl.isList () (by rw[Δ]<;>omega) () (by rw[hj];simpa using ew) ⟨rfl,fin⟩) hs
theorem aj:IxR X (yl X.K):=by
 intro value slice pins s σ H x y v u Q I rx ry h hs
 obtain⟨p,xs,i,z,rfl,rfl,hq,he,q⟩:=h
 cases rx
 obtain⟨t,rfl⟩:=ry
 obtain⟨its,r,pl,hz⟩:=I.tuple hq
 obtain⟨j,h1,h2,h3,h4,h5⟩:=oC he
 obtain⟨w,ew,rw'⟩:=r.get h2
 have hl:=r.length
 have hn:=gB
 have fin:EP X pins σ Q w s:=⟨z,H,I,rw',q⟩
 exact subscriptTail_builtinR (x:=w) pl.typeIs slot_tuple_getitem.lookup
  (getItem_tuple (j:=j) (Q:=λr s'=>r=w/\EP X pins σ Q r s') pl () () (by rw[Δ,<-hl];exact h1) (by simpa using ew) ⟨rfl,fin⟩) hs
theorem si:IxR X Ew:=by
 intro value slice pins s σ H x y v u Q I rx ry h hs
 obtain⟨z,i,c,rfl,rfl,hz,he,q⟩:=h
 obtain⟨t,rfl⟩:=rx
 obtain⟨t',rfl⟩:=ry
 obtain⟨j,h1,h2,h3,h4,h5⟩:=oC he
 have hl:z.cps.toList.length=z.length:=by simp[Str.length]
 rw[hl]at h1 h4 h5
 have hn:=gB
 exact tail_any (ER s z t) slot_str_getitem.lookup (getItem_str (c:=c) (by
  have e1:decide (i < -(2^63:Int))=false:=Q8 ()
  have e2:decide (i>=2^63)=false:=Q8 ()
  rw[e1,e2,Bool.or_false]) (by rw[h1];simpa using h2) ⟨.str ⟨#[c]⟩,H,I.tok _,⟨_,rfl⟩,q⟩) hs
theorem tD(its:List ζ)(n j:Nat)(u:ζ):ES (·.setIfInBounds j u) {cls:=.type "list",data:=.seq its.toArray n}={cls:=.type "list",data:=.seq (its.set j u).toArray n}:=by
 simp[ES]
theorem Inv.lst{pins:List (Addr×Obj)}{σ:St}{H:Hp}{s:ι}{p:Addr}{xs:List V}(I:Inv X pins σ H s)(h:H p=some (.lst xs)):
  ∃(its:List ζ) (n:Nat),aF xs its/\s.heap.get? p=some {cls:=.type "list",data:=.seq its.toArray n}/\xs.length<=sizeLine:=by
 obtain⟨z,its,n,r,e⟩:=I.hok p _ h
 exact⟨its,n,r,e,z⟩
theorem Inv.lstUpd{pins:List (Addr×Obj)}{σ:St}{H:Hp}{s:ι}{p:Addr}{xs ys:List V}{its its':List ζ}{n n':Nat}{f:Obj->Obj}(I:Inv X pins σ H s)(h:H p=some (.lst xs))
  (ho:s.heap.get? p=some {cls:=.type "list",data:=.seq its.toArray n}) (hf:f {cls:=.type "list",data:=.seq its.toArray n}={cls:=.type "list",data:=.seq its'.toArray n'}) (r:aF ys its') (hz:ys.length<=sizeLine) (t:Nat):
  Inv X pins σ (upd H p (.lst ys)) {s with heap:=s.heap.update p f,toks:=t}:=by
 have e:(s.heap.update p f).get? p=some {cls:=.type "list",data:=.seq its'.toArray n'}:=by
  rw[Heap.get?_update_self f ho (by rw[hf]<;>rfl),hf]
 refine I.write (x:=p) (e:=p) (by rw[h];trivial) (.inl rfl) (λb u hb q=>(Heap.get?_update_other _ _ (ϋ hb)).trans q) ⟨_,e⟩ ?_
 exact⟨hz,its',n',r,e⟩
def Dp:V->V->V->Hp->(Hp->Prop)->Prop:=λo i v H Q=>∃p xs k j,o=.ref p/\i=.int k/\H p=some (.lst xs)/\ixN xs.length k=some j/\Q (upd H p (.lst (xs.set j v)))
theorem ke:Dg X Dp:=by
 intro pins s σ H o i v ov iv u Q I ro ri rv h
 obtain⟨p,xs,k,j,rfl,rfl,hp,hj,q⟩:=h
 cases ro
 obtain⟨t,rfl⟩:=ri
 obtain⟨its,n,r,ho,hz⟩:=I.lst hp
 obtain⟨h1,h2,h3,h4⟩:=uB hj
 have hl:=r.length
 have hn:=gB
 have I':Inv X pins σ (upd H p (.lst (xs.set j v))) {s with heap:=s.heap.update p (ES (·.setIfInBounds j u))}:=
  I.lstUpd hp ho (tD its n j u) (r.set rv j) (by rw[List.length_set];exact hz) s.toks
 by_cases h0:0<=k
 ·have hk:k.toNat=j:=by
   rw[seqIndex_of h0 h4]at h1
   exact Ϛ h1
  exact PySem.W.ki_setAt ho h0 () (by rw[Δ,<-hl];exact h4) (by rw[hk];exact⟨_,I',q⟩)
 ·have hk:(k+(its.toArray.size:Int)).toNat=j:=by
   rw[seqIndex_neg () h3]at h1
   rw[Δ,<-hl]
   exact Ϛ h1
  exact PySem.W.ki_setBack ho () (by rw[Δ,<-hl];exact h3) () (by rw[hk];exact⟨_,I',q⟩)
theorem nV(lo hi:Option Int)(n:Nat):(sliceBounds lo hi none n).1=((HT.sIx n 0 lo:Nat):Int)/\(sliceBounds lo hi none n).2.1=((HT.sIx n n hi:Nat):Int)/\(sliceBounds lo hi none n).2.2=1:=by
 refine⟨?_,?_,rfl⟩
 ·cases lo with
  |none=>simp[sliceBounds,HT.sIx]
  |some i=>
   simp only[sliceBounds,HT.sIx,Option.getD_none,show(1:Int)>0 by decide,if_true]
   by_cases h:i<0
   ·simp only[h,if_true]<;>omega
   ·simp only[h,if_false]<;>omega
 ·cases hi with
  |none=>simp[sliceBounds,HT.sIx]
  |some i=>
   simp only[sliceBounds,HT.sIx,Option.getD_none,show(1:Int)>0 by decide,if_true]
   by_cases h:i<0
   ·simp only[h,if_true]<;>omega
   ·simp only[h,if_false]<;>omega
theorem ms(its:List ζ)(lo hi:Option Int):slicePick its.toArray lo hi none=((its.drop (HT.sIx its.length 0 lo)).take (HT.sIx its.length its.length hi-HT.sIx its.length 0 lo)).toArray:=by
 obtain⟨h1,h2,h3⟩:=nV lo hi its.toArray.size
 unfold slicePick
 rw[h1,h2,h3]
 simp only[sliceRange_one,pick_run,Δ]<;>rfl
def Em(K:ε):V->Option Int->Option Int->Hp->VK->Prop:=λx lo hi H Q=>∃a xs,x=.ref a/\SqL K H a xs/\∀p,H p=none->Q (.ref p) (upd H p (.lst (bU xs lo hi)))
theorem cX:SlR X (Em X.K):=by
 intro pins s σ H x v vl vu lo hi sl Q I rx hs pl pu h
 obtain⟨a,xs,rfl,hx,q⟩:=h
 cases rx
 obtain⟨its,r,ht,hz⟩:=I.list hx
 have hlen:=r.length
 refine⟨"list",_,slot_list_getitem.lookup,ht.isList.typeIs,?_⟩
 refine wpAny_getItem_list_slice ht.isList hs pl pu .none () ?_ (by rw[Δ]<;>omega)
 rw[ms,<-hlen]
 refine⟨.ref s.heap.objs.size,_,I.laid (t':=s.toks) (o:=.lst (bU xs lo hi)) (λb ob q=>ρ _ q) (π _) ?_,rfl,q _ (I.hok.fresh (π _))⟩
 exact⟨a7 (fv xs lo hi) hz,_,0,(r.drop (HT.sIx xs.length 0 lo)).take (HT.sIx xs.length xs.length hi-HT.sIx xs.length 0 lo),Λ _ rfl⟩
def jw:V->Bool
 |.non=>true
 |.bl _=>true
 |.int _=>true
 |.str _=>true
 |_=>false
def eqV:V->V->Bool
 |.non,.non=>true
 |.bl a,.bl b=>a==b
 |.bl a,.int b=>(if a then 1 else 0)==b
 |.int a,.bl b=>a==(if b then 1 else 0)
 |.int a,.int b=>a==b
 |.str a,.str b=>a==b
 |_,_=>false
theorem Cg{A:ό}{s:ι}{y x:V}{u v:ζ}(ry:aL y u)(rx:aL x v)(fy:jw y=true)(fx:jw x=true):ϝ A s u v (eqV y x):=by
 cases y with
 |non=>
  cases ry
  cases x with
  |non=>cases rx;exact Gi _
  |bl b=>cases rx;exact ϝ.none_bool b
  |int b=>obtain⟨t,rfl⟩:=rx;exact ϝ.none_int b t
  |str b=>obtain⟨t,rfl⟩:=rx;exact ϝ.none_str b t
  |_=>exact absurd (show false=true from fx) Ξ
 |bl a=>
  cases ry
  cases x with
  |non=>cases rx;exact ϝ.bool_none a
  |bl b=>cases rx;exact ϝ.bool_bool a b
  |int b=>obtain⟨t,rfl⟩:=rx;exact ϝ.bool_int a b t
  |str b=>obtain⟨t,rfl⟩:=rx;exact ϝ.bool_str a b t
  |_=>exact absurd (show false=true from fx) Ξ
 |int a=>
  obtain⟨t',rfl⟩:=ry
  cases x with
  |non=>cases rx;exact ϝ.int_none a t'
  |bl b=>cases rx;exact ϝ.int_bool a t' b
  |int b=>obtain⟨t,rfl⟩:=rx;exact ϝ.int_int a t' b t
  |str b=>obtain⟨t,rfl⟩:=rx;exact Fq a t' b t
  |_=>exact absurd (show false=true from fx) Ξ
 |str a=>
  obtain⟨t',rfl⟩:=ry
  cases x with
  |non=>cases rx;exact ϝ.str_none a t'
  |bl b=>cases rx;exact ϝ.str_bool a t' b
  |int b=>obtain⟨t,rfl⟩:=rx;exact Fu a t' b t
  |str b=>obtain⟨t,rfl⟩:=rx;exact ϝ.str_str a t' b t
  |_=>exact absurd (show false=true from fx) Ξ
 |_=>exact absurd (show false=true from fy) Ξ
def eqU(x:V)(u:ζ):Bool:=match u with
 |.none=>eqV .non x
 |.bool b=>eqV (.bl b) x
 |.int i _=>eqV (.int i) x
 |.str z _=>eqV (.str z) x
 |_=>false
theorem zl{x y:V}{u:ζ}(r:aL y u)(f:jw y=true):eqU x u=eqV y x:=by
 cases y with
 |non=>cases r;rfl
 |bl b=>cases r;rfl
 |int i=>obtain⟨t,rfl⟩:=r;rfl
 |str z=>obtain⟨t,rfl⟩:=r;rfl
 |_=>exact absurd (show false=true from f) Ξ
theorem io{x:V}:∀{xs:List V}{us:List ζ},aF xs us->xs.all jw=true->us.any (eqU x)=xs.any λy=>eqV y x
 |_,_,.nil,_=>rfl
 |y::xs,u::us,.cons r t,f=>by
  rw[List.all_cons,Ζ]at f
  rw[C_,C_,zl r f.1,io t f.2]
theorem fb{A:ό}{s:ι}{x:V}{v:ζ}(rx:aL x v)(fx:jw x=true):∀{xs:List V}{us:List ζ},aF xs us->xs.all jw=true->∀u∈us,ϝ A s u v (eqU x u)
 |_,_,.nil,_=>λu hu=>by cases hu
 |y::xs,u::us,.cons r t,f=>λu' hu=>by
  rw[List.all_cons,Ζ]at f
  rcases ν.mp hu with rfl|hu
  ·rw[zl r f.1];exact Cg r rx f.1 fx
  ·exact fb rx fx t f.2 u' hu
def inV(x:V)(xs:List V):Bool:=xs.any λy=>eqV y x
def rIn(K:ε)(neg:Bool):R2:=λx y H Q=>∃p xs,y=.ref p/\(SqL K H p xs\/SqT K H p xs)/\jw x=true/\xs.all jw=true/\Q (.bl (if neg then !inV x xs else inV x xs)) H
theorem ni:OpR X (compareOp .In) (rIn X.K false):=by
 intro pins s σ H x y v u Q I rx ry h
 obtain⟨p,xs,rfl,hq,fx,fs,q⟩:=h
 cases ry
 rcases hq with hq|hq
 ·obtain⟨its,r,pl,hz⟩:=I.list hq
  refine SeqAt.in_listAt (eqU x) pl.isList (λw hw=>fb rx fx r fs w (by simpa using hw)) ⟨.bl _,H,I,rfl,?_⟩
  rw[show its.toArray.any (eqU x)=its.any (eqU x) by simp,io r fs]
  exact q
 ·obtain⟨its,r,pl,hz⟩:=I.tuple hq
  refine SeqAt.in_tupleAt (eqU x) pl (λw hw=>fb rx fx r fs w (by simpa using hw)) ⟨.bl _,H,I,rfl,?_⟩
  rw[show its.toArray.any (eqU x)=its.any (eqU x) by simp,io r fs]
  exact q
theorem ij:OpR X (compareOp .NotIn) (rIn X.K true):=by
 intro pins s σ H x y v u Q I rx ry h
 obtain⟨p,xs,rfl,hq,fx,fs,q⟩:=h
 cases ry
 rcases hq with hq|hq
 ·obtain⟨its,r,pl,hz⟩:=I.list hq
  refine SeqAt.notIn_listAt (eqU x) pl.isList (λw hw=>fb rx fx r fs w (by simpa using hw)) ⟨.bl _,H,I,rfl,?_⟩
  rw[show its.toArray.any (eqU x)=its.any (eqU x) by simp,io r fs]
  exact q
 ·obtain⟨its,r,pl,hz⟩:=I.tuple hq
  refine SeqAt.notIn_tupleAt (eqU x) pl (λw hw=>fb rx fx r fs w (by simpa using hw)) ⟨.bl _,H,I,rfl,?_⟩
  rw[show its.toArray.any (eqU x)=its.any (eqU x) by simp,io r fs]
  exact q
theorem ar:cK X (.builtin "len") (λxs H Q=>∃p ys,xs=[.ref p]/\(SqL X.K H p ys\/SqT X.K H p ys)/\Q (.int ys.length) H):=by
 intro pins s σ H xs us Q I r h
 obtain⟨p,ys,rfl,hq,q⟩:=h
 obtain⟨u,rfl,rx⟩:=dA r
 cases rx
 have hn:=gB
 rcases hq with hq|hq
 ·obtain⟨its,r',pl,hz⟩:=I.list hq
  have hlen:=r'.length
  exact Calls.call_len_list pl.isList (by simp only[Δ]<;>omega) ⟨.int ys.length,H,I.tok _,⟨s.toks+1,by rw[Δ,hlen]⟩,q⟩
 ·obtain⟨its,r',pl,hz⟩:=I.tuple hq
  have hlen:=r'.length
  exact len_tuple pl (by simp only[Δ]<;>omega) ⟨.int ys.length,H,I.tok _,⟨s.toks+1,by rw[Δ,hlen]⟩,q⟩
theorem bK:cK X (.builtin "len") (λxs H Q=>∃z,xs=[.str z]/\z.length<=sizeLine/\Q (.int z.length) H):=by
 intro pins s σ H xs us Q I r h
 obtain⟨z,rfl,hz,q⟩:=h
 obtain⟨u,rfl,t,rfl⟩:=dA r
 have hn:=gB
 exact len_str () ⟨.int z.length,H,I.tok _,⟨_,rfl⟩,q⟩
theorem hV:cK X (.type "list") (λxs H Q=>∃p ys,xs=[.ref p]/\(SqL X.K H p ys\/SqT X.K H p ys)/\∀l,H l=none->Q (.ref l) (upd H l (.lst ys))):=by
 intro pins s σ H xs us Q I r h
 obtain⟨p,ys,rfl,hq,q⟩:=h
 obtain⟨u,rfl,rx⟩:=dA r
 cases rx
 have fin:∀(its:List ζ),aF ys its->ys.length<=sizeLine->∀(h':Heap)(c':Nat),(∀b o',s.heap.get? b=some o'->h'.get? b=some o') ->
   h'.get? s.heap.objs.size=some {cls:=.type "list",dict:=none,data:=.seq its.toArray c',slots:=#[]}->EP X pins σ Q (.ref s.heap.objs.size) {s with heap:=h'}:=λits r' hz h' c' kp e=>
  ⟨.ref s.heap.objs.size,_,I.laid (t':=s.toks) kp (π _) (show bf X.prog X.w _ h' _ (.lst ys)from⟨hz,its,c',r',e⟩),rfl,q _ (I.hok.fresh (π _))⟩
 rcases hq with hq|hq
 ·obtain⟨its,r',pl,hz⟩:=I.list hq
  have hlen:=r'.length
  obtain⟨o,ho,hc,n,hd⟩:=pl.isList
  exact call_list_seq p (.inl rfl) ho hc hd (λh' c' kp e=>fin its r' hz h' c' kp e) (by simp only[Δ]<;>omega)
 ·obtain⟨its,r',pl,hz⟩:=I.tuple hq
  have hlen:=r'.length
  obtain⟨o,ho,hc,n,hd⟩:=pl
  exact call_list_seq p (.inr rfl) ho hc hd (λh' c' kp e=>fin its r' hz h' c' kp e) (by simp only[Δ]<;>omega)
theorem ay:cK X (.type "tuple") (λxs H Q=>∃p ys,xs=[.ref p]/\((SqL X.K H p ys/\∀l,H l=none->Q (.ref l) (upd H l (.tup ys)))\/(SqT X.K H p ys/\Q (.ref p) H))):=by
 intro pins s σ H xs us Q I r h
 obtain⟨p,ys,rfl,h⟩:=h
 obtain⟨u,rfl,rx⟩:=dA r
 cases rx
 rcases h with ⟨hq,q⟩|⟨hq,q⟩
 ·obtain⟨its,r',pl,hz⟩:=I.list hq
  have hlen:=r'.length
  refine call_tuple_list pl.isList (λh' kp=>?_) (by simp only[Δ]<;>omega)
  have I1:Inv X pins σ H {s with heap:=h'}:=I.kept (t':=s.toks) kp
  have I2:Inv X pins σ (upd H h'.objs.size (.tup ys)) {s with heap:=h'.push {cls:=.type "tuple",data:=.seq its.toArray} }:=
   I1.laid (t':=s.toks) (λb o e=>ρ _ e) (π _) (show bf X.prog X.w _ _ _ (.tup ys)from⟨hz,its,r',Gp _ _,NoD.new _ rfl⟩)
  exact⟨.ref h'.objs.size,_,I2,rfl,q _ (I1.hok.fresh (π _))⟩
 ·obtain⟨its,r',pl,hz⟩:=I.tuple hq
  exact call_tuple_same pl ⟨.ref p,H,I,rfl,q⟩
def tyV(K:ε)(T:String)(x:V)(H:Hp):Prop:=match x with
 |.str _=>T="str"
 |.int _=>T="int"
 |.ref p=>(T="list"/\∃xs,SqL K H p xs)\/(T="tuple"/\∃o,K.lookup p=some o/\o.cls=.type "tuple"/\o.dict=none) \/
   (T="dict"/\((∃kvs,H p=some (.dK kvs))\/∃kvs,H p=some (.dT kvs)))\/(T="set"/\∃S n,H p=some (.set S n))
 |_=>False
theorem ye{pins:List (Addr×Obj)}{σ:St}{H:Hp}{s:ι}{T:String}{x:V}{v:ζ}(I:Inv X pins σ H s)(r:aL x v)(ty:tyV X.K T x H):
  s.TypeIs v T/\∀a,v=.ref a->∃ob,s.heap.get? a=some ob/\ob.dict=none:=by
 cases x with
 |str z=>
  obtain⟨t,rfl⟩:=r
  cases(show T="str" from ty)
  exact⟨ER s z t,λ_ e=>nomatch e⟩
 |int i=>
  obtain⟨t,rfl⟩:=r
  cases(show T="int" from ty)
  exact⟨typeIs_int s i t,λ_ e=>nomatch e⟩
 |ref p=>
  cases r
  rcases ty with ⟨rfl,xs,hq⟩|⟨rfl,o,hk,hc,hd⟩|⟨rfl,hk⟩|⟨rfl,S,n,hk⟩
  ·obtain⟨its,_,pl,_⟩:=I.list hq
   refine⟨pl.isList.typeIs,λa e=>?_⟩
   cases e
   obtain⟨o,n,e,c,hd,_⟩:=pl
   exact⟨o,e,hd⟩
  ·refine⟨⟨o,I.kIn p o hk,hc⟩,λa e=>?_⟩
   cases e
   exact⟨o,I.kIn _ o hk,hd⟩
  ·have z:∃o,s.heap.get? p=some o/\o.ExactDict:=by
    rcases hk with ⟨kvs,hk⟩|⟨kvs,hk⟩
    ·obtain⟨_,_,_,_,o,_,_,e,ex,_⟩:=I.hok p _ hk
     exact⟨o,e,ex⟩
    ·obtain⟨_,_,_,_,o,_,_,e,ex,_⟩:=I.hok p _ hk
     exact⟨o,e,ex⟩
   obtain⟨o,e,ex⟩:=z
   refine⟨⟨o,e,ex.1⟩,λa e2=>?_⟩
   cases e2
   exact⟨o,e,ex.2.1⟩
  ·obtain⟨o,_,_,_,e,ex,_⟩:=I.hok p _ hk
   refine⟨⟨o,e,ex.1⟩,λa e2=>?_⟩
   cases e2
   exact⟨o,e,ex.2.1⟩
 |_=>exact n_ ty
def El(K:ε)(T:String)(r:V->List V->Hp->VK->Prop)(to:TE):TE:=λσ H Q=>to σ H λx H1=>tyV K T x H1/\r x [] H1 Q
def tBM(K:ε)(T:String)(r:V->List V->Hp->VK->Prop)(to:TE)(t:TA):TE:=λσ H Q=>to σ H λx H1=>tyV K T x H1/\t σ H1 λxs H2=>r x xs H2 Q
variable{o e:Expr}{es:List Expr}{to:TE}{t:TA}{name:Str}{apos cpos:Pos}{T id:String}{r:V->List V->Hp->VK->Prop}
theorem pe_bm0(pa:PlainAttrs T)(slot:Slot T name id)(hty:typeOf (.builtin id)=pure (.type "method_descriptor"))(hm:MtR X id r)(ho:PE X o to)
  (hbase:attributeBase o name X.env (eval o X.env)=eval o X.env:=by rfl) (hline:(apos.endLine==cpos.line)=true:=by rfl):PE X (.Call (.Attribute o name apos) [] [] cpos) (El X.K T r to):=by
 intro pins s σ H Q I h
 refine wpAny_Call_method0_late hbase hline (thn (ho pins s σ H _ I h) λv s1 ⟨x,H1,I1,r1,ty,q1⟩=>?_)
 obtain⟨h1,h2⟩:=ye I1 r1 ty
 exact⟨T,id,pa,slot,hty,h1,h2,Calls.callWith_builtin rfl (PySem.evalArgs_none (hm pins s1 σ H1 x [] v [] Q I1 r1 .nil q1))⟩
theorem pe_bm(pa:PlainAttrs T)(slot:Slot T name id)(hty:typeOf (.builtin id)=pure (.type "method_descriptor"))(hm:MtR X id r)(ho:PE X o to)(ha:PA X (e::es) t)
  (hbase:attributeBase o name X.env (eval o X.env)=eval o X.env:=by rfl)
  (hfew:((backTo cpos (starEach (e::es) X.env)).all (λx=>!x.1)&&(backToKw cpos (keywordEach [] X.env)).all (λx=>x.1.isSome)
   && decide ((e::es).length+([]:List Keyword).length+(if ([]:List Keyword).isEmpty then 0 else 1)<30))=true:=by rfl)
  (hline:(apos.endLine==cpos.line)=true:=by rfl) (hs:starEach (e::es) X.env=(false,eval e X.env)::starEach es X.env:=by rfl) (hplain:(backTo cpos (starEach es X.env)).any (·.1)=false:=by rfl):
  PE X (.Call (.Attribute o name apos) (e::es) [] cpos) (tBM X.K T r to t):=by
 intro pins s σ H Q I h
 refine wpAny_Call_method_late hbase hfew hline rfl (thn (ho pins s σ H _ I h) λv s1 ⟨x,H1,I1,r1,ty,q1⟩=>?_)
 obtain⟨h1,h2⟩:=ye I1 r1 ty
 refine⟨T,id,pa,slot,hty,h1,h2,?_⟩
 have hA:=ha cpos pins s1 σ H1 _ I1 q1
 rw[hs]at hA⊢
 refine Calls.callWith_builtin (by show(false||(backTo cpos (starEach es X.env)).any (·.1))=false;rw[hplain]<;>rfl) (Calls.evalArgs_plain ?_)
 exact thn hA λus s2 ⟨vs,H2,I2,r2,q2⟩=>hm pins s2 σ H2 x vs v us Q I2 r1 r2 q2
end
def MtM(X:Cx)(id:String)(r:V->List V->Hp->VK->Prop):Prop:=
 ∀(pins:List (Addr×Obj))(s:ι)(σ:St)(H:Hp)(x:V)(xs:List V)(v:ζ)(us:List ζ)(Q:VK),Inv X pins σ H s->aL x v->aF xs us->r x xs H Q ->
  wpAny (model X.prog X.w) X.A (call (.builtin id) (v::us)) (EP X pins σ Q) X.xe s
theorem aF.one:∀{x:V}{us:List ζ},aF [x] us->∃u,us=[u]/\aL x u
 |_,_,.cons r .nil=>⟨_,rfl,r⟩
theorem aF.zero:∀{us:List ζ},aF [] us->us=[]
 |_,.nil=>rfl
theorem aF.dropLast{xs:List V}{us:List ζ}(h:aF xs us):aF xs.dropLast us.dropLast:=by
 induction h with
 |nil=>exact .nil
 |cons r t ih=>
  cases t with
  |nil=>exact .nil
  |cons q t'=>exact .cons r ih
theorem tN{α:Type}(l:List α):l.eraseIdx (l.length-1)=l.dropLast:=by
 induction l with
 |nil=>rfl
 |cons a r ih=>
  cases r with
  |nil=>rfl
  |cons b r=>
   have e:(a::b::r).length-1=((b::r).length-1)+1:=by
    have h1:(a::b::r).length=r.length+2:=rfl
    have h2:(b::r).length=r.length+1:=rfl
    omega
   rw[e,List.eraseIdx_cons_succ,ih]
   all_goals rfl
section
variable{X:Cx}{pins:List (Addr×Obj)}{σ:St}{H:Hp}{s:ι}{l b:Addr}{xs ys zs:List V}
theorem Inv.lset{its its':List ζ}{n:Nat}{f:Array ζ->Array ζ}{t':Nat}(I:Inv X pins σ H s)(hH:H l=some (.lst xs))
  (e:s.heap.get? l=some {cls:=.type "list",data:=.seq its.toArray n}) (hf:f its.toArray=its'.toArray) (hv:aF ys its') (hz:ys.length<=sizeLine):
  Inv X pins σ (upd H l (.lst ys)) {s with heap:=s.heap.update l (ES f),toks:=t'}:=by
 have q:=PySem.IsL.update e f
 rw[hf]at q
 refine I.write (x:=l) (e:=l) (by rw[hH];exact trivial) (.inl rfl) (λb' u hb hu=>(Heap.get?_update_other s.heap (ES f) (ϋ hb)).trans hu) ⟨_,q⟩ ?_
 exact⟨hz,its',_,hv,q⟩
theorem Inv.lnew{its:List ζ}{t':Nat}(I:Inv X pins σ H s)(hv:aF ys its)(hz:ys.length<=sizeLine):
  Inv X pins σ (upd H s.heap.objs.size (.lst ys)) {s with heap:=s.heap.push {cls:=.type "list",data:=.seq its.toArray},toks:=t'}:=
 I.laid (λ_ _ q=>ρ _ q) (π _) ⟨hz,its,0,hv,Λ _ rfl⟩
theorem Inv.fresh(I:Inv X pins σ H s):H s.heap.objs.size=none:=I.hok.fresh (π _)
theorem Inv.lstM(I:Inv X pins σ H s)(hH:H l=some (.lst xs)):xs.length<=sizeLine/\∃(its:List ζ) (n:Nat),aF xs its/\xs.length=its.length/\s.heap.get? l=some {cls:=.type "list",data:=.seq its.toArray n}:=by
 obtain⟨z,its,n,r,e⟩:=I.hok l _ hH
 exact⟨z,its,n,r,r.length,e⟩
theorem qz{n:Nat}(h:n<=sizeLine):l_ n=false:=by
 unfold l_
 exact Q8 ()
end
section
variable{X:Cx}
def vU:V->List V->Hp->VK->Prop:=λx vs H Q=>∃l xs y,x=.ref l/\vs=[y]/\H l=some (.lst xs)/\xs.length<sizeLine/\Q .non (upd H l (.lst (xs++[y])))
theorem aZ:MtM X "list.append" vU:=by
 intro pins s σ H x vs v us Q I rx rv h
 obtain⟨l,xs,y,rfl,rfl,hH,hz,q⟩:=h
 cases rx
 obtain⟨u,rfl,ru⟩:=rv.one
 obtain⟨z,its,n,r,hl,e⟩:=I.lstM hH
 refine B6 F.slot_list_append ⟨_,e,rfl⟩ F.entry_list_append (F.args_list_append_2 _ _) (PySem.list_append l its.toArray n u (by rw[Δ];omega)) ⟨e,?_⟩
 refine⟨.non,_,I.lset (its':=its++[u]) hH e () (r.append (.cons ru .nil)) ?_,rfl,q⟩
 rw[Η,ϳ]
 omega
def zV:V->List V->Hp->VK->Prop:=λx vs H Q=>∃l b xs zs,x=.ref l/\vs=[.ref b]/\H l=some (.lst xs)/\H b=some (.lst zs)/\xs.length+zs.length<=sizeLine/\Q .non (upd H l (.lst (xs++zs)))
theorem mU:MtM X "list.extend" zV:=by
 intro pins s σ H x vs v us Q I rx rv h
 obtain⟨l,b,xs,zs,rfl,rfl,hH,hB,hz,q⟩:=h
 cases rx
 obtain⟨u,rfl,ru⟩:=rv.one
 cases ru
 obtain⟨z,its,n,r,hl,e⟩:=I.lstM hH
 obtain⟨z2,its2,n2,r2,hl2,e2⟩:=I.lstM hB
 have hsz:its.toArray.size+its2.toArray.size<=sizeLine:=by rw[Δ,Δ];omega
 have hlong:¬ (!its.toArray.isEmpty&&l_ (its.toArray.size+its2.toArray.size))=true:=by
  rw[qz hsz,FA]
  exact Ξ
 refine B6 F.slot_list_extend ⟨_,e,rfl⟩ F.entry_list_extend (F.args_list_extend_2 _ _)
  (AutoSeq1.list_extend_list_list_0 l its.toArray n b its2.toArray n2 hlong (by rw[Δ];omega) ()) ⟨e,e2,?_⟩
 refine⟨.non,_,I.lset (its':=its++its2) hH e () (r.append r2) ?_,rfl,q⟩
 rw[Η]
 omega
def DX:V->List V->Hp->VK->Prop:=λx vs H Q=>∃l xs y,x=.ref l/\vs=[]/\H l=some (.lst xs)/\xs[xs.length-1]?=some y/\Q y (upd H l (.lst xs.dropLast))
theorem xU:MtM X "list.pop" DX:=by
 intro pins s σ H x vs v us Q I rx rv h
 obtain⟨l,xs,y,rfl,rfl,hH,hy,q⟩:=h
 cases rx
 have hus:=rv.zero
 subst hus
 obtain⟨z,its,n,r,hl,e⟩:=I.lstM hH
 obtain⟨u,hu,ru⟩:=r.get hy
 have hy':its.toArray[its.toArray.size-1]?=some u:=by
  show its.toArray[its.length-1]?=some u
  rw[<-Array.getElem?_toList,<-hl]
  exact hu
 refine B6 F.slot_list_pop ⟨_,e,rfl⟩ F.entry_list_pop (F.args_list_pop_1 _) (MeetsSeq.list_pop_last l its.toArray n u hy' (by rw[Δ];omega)) ⟨e,?_⟩
 refine⟨y,_,I.lset (its':=its.dropLast) hH e ?_ r.dropLast ?_,ru,q⟩
 ·show its.toArray.eraseIdxIfInBounds (its.toArray.size-1)=its.dropLast.toArray
  rw[Δ,List.eraseIdxIfInBounds_toArray,tN]
 ·rw[List.length_dropLast]
  omega
def DZ:R2:=λx y H Q=>∃l b xs zs,x=.ref l/\y=.ref b/\H l=some (.lst xs)/\H b=some (.lst zs)/\xs.length+zs.length<=sizeLine/\∀p,H p=none->Q (.ref p) (upd H p (.lst (xs++zs)))
theorem gC:OpR X (binaryOp .Add) DZ:=by
 intro pins s σ H x y v u Q I rx ry h
 obtain⟨l,b,xs,zs,rfl,rfl,hH,hB,hz,q⟩:=h
 cases rx
 cases ry
 obtain⟨z,its,n,r,hl,e⟩:=I.lstM hH
 obtain⟨z2,its2,n2,r2,hl2,e2⟩:=I.lstM hB
 refine PySem.P.add_list e e2 ?_ (by rw[Δ,Δ];omega)
 have ea:its.toArray++its2.toArray=(its++its2).toArray:=by simp
 rw[ea]
 exact⟨.ref _,_,I.lnew (t':=s.toks) (r.append r2) (by rw[Η];omega),rfl,q _ I.fresh⟩
end
section
variable{prog:χ}{w:Ρ}{A:ό}{E:ζ->ι->Prop}{s:ι}
end
section
variable{X:Cx}
end
end L2
namespace Att
open PySem PySem.W PySem.Calls PyProof.Rows
theorem jz{P:Params}{h:Heap}:∀(ns:List Int)(vs:List ζ),WellAll P h vs (ns.map WData.int)->IntsAre vs ns:=by
 intro ns
 induction ns with
 |nil=>
  intro vs w
  rw[j9]at w
  cases w
  exact .nil
 |cons n ns ih=>
  intro vs w
  rw[Χ]at w
  cases w with
  |cons a b=>
   cases a
   exact .cons _ _ (ih _ b)
theorem wD{l:OpenLaw}{n:Nat}(hn:l.most=some n){P:Params}{h:Heap}{args:List WData}{vals:List ζ}
  (hpre:l.row.toRowW.claim.pre args=true) (hwl:WellAll P h vals args):
  ∃a vs ns,vals=[ώ a]/\args=[WData.list (ns.map WData.int)]/\h.get? a=some {cls:=.type "list",data:=.seq vs.toArray}/\IntsAre vs ns/\ns.length<=n:=by
 have hsh:WShape.hasAll [] args [.list .int]=true:=(pre_splitW hpre).1
 have hc:l.pre.holds [] {args:=args}=true:=(pre_splitW hpre).2
 obtain⟨d,r,rfl,h1,h2⟩:=hasAllW_cons hsh
 obtain rfl:=hasAllW_nil h2
 obtain⟨xs,rfl,h3⟩:=hasW_list h1
 obtain⟨ns,rfl⟩:=items_int h3
 have hlen:ns.length<=n:=by
  unfold OpenLaw.pre at hc
  have h4:(WTm.not (.lt (.lit (.int (n:Int))) (.len (.arg 0)))).holds [] {args:=[.list (ns.map .int)]}=true:=by
   have h4:=(holds_andW hc).1
   rw[hn]at h4
   exact h4
  have h5:=condW_of h4 (w_not (w_lt w_lit (w_len_list (w_arg rfl))))
  rw[δ]at h5
  refine Nat.le_of_not_lt λq=>?_
  have q':(n:Int)<((ns.length:Nat):Int):=by omega
  first
   |(rw[Q9 q']at h5;exact absurd h5 ())
   |(simp at h5;omega)
 cases hwl with
 |cons w1 w2=>
  cases w2
  cases w1 with
  |list ho hall=>exact⟨_,_,ns,rfl,rfl,ho,jz ns _ hall,hlen⟩
theorem wF(l:OpenLaw)(args:List WData):l.row.toRowW.claim.post args (.bool true) args=true:=
 postW_of (r:=l.row.toRowW) (X:=(true==true))
  (show WShape.has [] (.bool true) .bool=true by first|rfl|decide|simp[WShape.has,WShape.arms,WShape.armsAll])
  (show(WTm.eq .res (.lit (.bool true))).value [] {args:=args,res:=some (.bool true),after:=args}=some (.bool (true==true))from w_eq_bool (w_res rfl) w_lit) rfl
theorem attach_call{l:OpenLaw}{n:Nat}{q:χ}{loose:List Str}{XP:(Str->Option ζ)->Heap->Prop}{YP:Ρ->Heap->Prop}{d:DefRec}
  (hn:l.most=some n) (hdf:d.params.defaults=[])
  (call:∀(w:Ρ)(s₀ s₁:ι)(mg mb:Str->Option ζ)(fa:Addr)(o:Obj)(pm cd doc:ζ)(a:Addr)(vs:List ζ)(ns:List Int),
   Ground q loose [] XP w s₀ mg mb s₁.heap->YP w s₁.heap ->
   s₁.heap.get? fa=some o->o.data=.func (docDef d.name d.params d.body d.scope pm cd doc)->s₁.heap.CodeRec cd d.name->mg d.name=some (.ref fa) ->
   s₁.heap.get? a=some {cls:=.type "list",data:=.seq vs.toArray}->IntsAre vs ns->ns.length<=n->s₁.gens=#[] ->
   codeAny (model l.prog w) callerA (.call (.ref fa) ⟨[.ref a],[]⟩) (λr s'=>r=.ok (.ret (.bool true))/\OldK s₁.heap s'.heap/\s'.os=s₁.os/\FT s'.gens) s₁):
  WalkO q loose XP YP l.row.toRowW d [] (λf vs=>PySem.call f vs):=by
 intro w s₀ s₁ mg mb G Y fa o pm cd doc dV kV ho hd hcd hD hmg hg args vals as hpre hlay hrd hwl hlo
 obtain rfl:dV=.none:=Dflts.none hD hdf
 obtain rfl:kV=.none:=Dflts.noKw hD
 obtain⟨a,vs,ns,rfl,rfl,hobj,hints,hlen⟩:=wD hn hpre hwl
 refine enter_call (Gd (call w s₀ s₁ mg mb fa o pm cd doc a vs ns G Y ho (fd_plain hd) hcd hmg hobj hints hlen hg) λr s' hq=>?_)
 obtain⟨rfl,h2,h3,h4⟩:=hq
 exact⟨.inl ⟨.bool true,.bool true,[],rfl,λ_=>rfl,.bool true,wF l _,λ_=>⟨List.Pairwise.nil,λ_ hm=>(nomatch hm)⟩⟩,h2,h3,h4⟩
section
variable{prog:χ}{w:Ρ}{A:ό}{E:ζ->ι->Prop}{s:ι}{K:Frag}
def noObjs(h:Heap):Heap:={h with objs:=#[]}
theorem noObjs_get(h:Heap)(b:Addr):(noObjs h).get? b=none:=by
 cases e:(noObjs h).get? b with
 |none=>rfl
 |some o=>exact absurd (Β e) (Nat.not_lt_zero _)
theorem fr_all{h:Heap}{L:Addr}{m:Str->Option ζ}(n:h.Ns L m):Fr (noObjs h) L h m:=
 ⟨n,λb o e=>(by rw[noObjs_get]at e;cases e),ϊ _⟩
end
end Att
namespace L2
open PySem PySem.Spec PyProof.Rows
theorem mF:∀{vs:List ζ}{ns:List Int},IntsAre vs ns->aF (ns.map V.int) vs
 |_,_,.nil=>.nil
 |_,_,.cons n t h=>.cons ⟨t,rfl⟩ (mF h)
def Cf(H:Hp):Prop:=∀b,H b=none\/∃o xs,H b=some (.frz o (.lst xs))
theorem zg{P:χ}{w:Ρ}{K:ε}{mg mb:Str->Option ζ}{CX:CXT}{k:Nat}{fa a:Addr}{fd:Θ}{x:Str}{sp:Sp}{s₁:ι}{vs:List ζ}{ns:List Int}
  (KX:K.In s₁.heap) (hns:s₁.heap.Ns mainGlobals mg) (hb:s₁.heap.Ns builtinsNs mb) (hbb:∀x:Str,x≠"__name__"->mb x=bootBuiltins x) (hlim:s₁.heap.NoLimit) (hg:s₁.gens=#[])
  (ha:s₁.heap.get? a=some {cls:=.type "list",data:=.seq vs.toArray}) (hi:IntsAre vs ns) (hl:ns.length<=sizeLine) (hr:ca k callerA)
  (F:∀base:Heap,K.In base->base.Ns mainGlobals mg->av P w K mg base CX k fa fd [x] sp) (hbind:∀(s:ι)(u:ζ),Gy s fd ⟨[u],[]⟩ [(x,u)])
  (hsp:∀H:Hp,Cf H->SqL K H a (ns.map V.int)->sp [.ref a] H (λv _=>v=.bl true) λ_ _ _=>False)
  (hCX:∀H e s',CX [] H s₁ (λ_ _ _=>False) e s'->False):
  codeAny (model P w) callerA (.call (.ref fa) ⟨[.ref a],[]⟩) (λr s'=>r=.ok (.ret (.bool true))/\OldK s₁.heap s'.heap/\s'.os=s₁.os/\FT s'.gens) s₁:=by
 have rv:=mF hi
 have lenV:=hi.length
 have core:∀H:Hp,Cf H->SqL K H a (ns.map V.int)->HOk P w H s₁.heap->(∀b,H b≠none->b=a)->(H a≠none->K.lookup a=none) ->
   codeAny (model P w) callerA (.call (.ref fa) ⟨[.ref a],[]⟩) (λr s'=>r=.ok (.ret (.bool true))/\OldK s₁.heap s'.heap/\s'.os=s₁.os/\FT s'.gens) s₁:=by
  intro H hO hS hok hA hK
  have base_of:∀{b:Addr}{o:Obj},s₁.heap.get? b=some o->H b=none->(oh s₁.heap H).get? b=some o:=λe n=>xR e n
  have noA:∀{b:Addr}{o:Obj}{es:Array E6}{ep:Nat},s₁.heap.get? b=some o->o.data=.dict es ep->H b=none:=λ{b o es ep} e d=>by
   cases q:H b with
   |none=>rfl
   |some u=>
    have e':b=a:=hA b (by rw[q];simp)
    subst e'
    rw[ha]at e;cases e
    have d':F7 vs.toArray _=Data.dict es ep:=d
    cases d'
  have nsK:∀{b:Addr}{m:Str->Option ζ},s₁.heap.Ns b m->(oh s₁.heap H).Ns b m:=λ{b m} ⟨o,es,ep,e,d,r⟩=>⟨o,es,ep,base_of e (noA e d),d,r⟩
  have hKb:K.In (oh s₁.heap H):=λb o e=>base_of (KX b o e) (by
   cases q:H b with
   |none=>rfl
   |some u=>
    have e':b=a:=hA b (by rw[q];simp)
    subst e'
    rw[hK (by rw[q];simp)]at e;cases e)
  have hM:Mod K mg (oh s₁.heap H):=⟨hKb,nsK hns,⟨mb,nsK hb,hbb⟩,let ⟨mc,h1,h2⟩:=hlim;⟨mc,nsK h1,h2⟩⟩
  have e0:uu P w K mg (oh s₁.heap H) callerA [] s₁ H:=⟨rfl,hM,λb o e=>zw e,Nat.le_of_eq (wY _ _),trivial,λb hb=>absurd (show b∈([]:List Addr)from hb) (),hok,.of_eq hg⟩
  refine Gd ((F _ hKb (nsK hns)).run callerA [] s₁ H ⟨[.ref a],[]⟩ [.ref a] [.ref a] _ _ hr e0 (hbind s₁ (.ref a)) (.cons rfl .nil) (hsp H hO hS)) λr s' h=>?_
  cases r with
  |error e=>exact(hCX H e s' h).elim
  |ok fl=>
   cases fl with
   |next=>exact n_ h
   |brk=>exact n_ h
   |cont=>exact n_ h
   |ret u=>
    obtain⟨v,H',os,bare,un,hok',r',q⟩:=h
    have q':v=.bl true:=q
    subst q'
    obtain rfl:u=Gs true:=r'
    refine⟨rfl,OldK.of_keep λb o e=>?_,os,bare⟩
    cases q:H b with
    |none=>exact un.keep b o e q (by intro z;exact absurd (show b∈([]:List Addr)from z) ()) ()
    |some u=>
     rcases hO b with z|⟨ob,xs,z⟩
     ·rw[q]at z;cases z
     ·have z2:=un.frzs b ob _ z
      obtain⟨e1,_⟩:=hok b _ z
      obtain⟨e2,_⟩:=hok' b _ z2
      rw[e]at e1;cases e1
      exact e2
 cases hk:K.lookup a with
 |some o=>
  have e:=KX a o hk
  rw[ha]at e
  cases e
  refine core (λ_=>none) (λ_=>.inl rfl) (.inr ⟨_,vs.toArray,_,hk,rfl,rfl,rfl,by rw[Δ,lenV];exact hl,by simpa using rv⟩) (λb u z=>by have z':(none:Option HO)=some u:=z;cases z') (λb z=>absurd rfl z) λz=>absurd rfl z
 |none=>
  refine core (λb=>if b=a then some (.frz {cls:=.type "list",data:=.seq vs.toArray} (.lst (ns.map V.int)))else none) (λb=>?_) (.inl (.inr ⟨{cls:=.type "list",data:=.seq vs.toArray},Q5 rfl⟩)) (λb u z=>?_) (λb z=>?_) λ_=>hk
  ·by_cases hb:b=a
   ·exact .inr ⟨_,_,Q5 hb⟩
   ·exact .inl (Q6 hb)
  ·by_cases hb:b=a
   ·have z':=(Q5 hb).symm.trans z
    cases z'
    subst hb
    exact⟨ha,by rw[δ];exact hl,vs,_,rv,ha⟩
   ·have z':=(Q6 hb).symm.trans z
    cases z'
  ·by_cases hb:b=a
   ·exact hb
   ·exact absurd (Q6 hb) z
theorem walk_of{l:Gj}{n k:Nat}{q:χ}{loose:List Str}{XP:(Str->Option ζ)->Heap->Prop}{YP:Ρ->Heap->Prop}{d:DefRec}{K:Params->ε}{CX:Ρ->CXT}{sp:Ρ->Sp}{x:Str}
  (hn:l.most=some n) (hn2:n<=sizeLine) (hdf:d.params.defaults=[]) (hr:ca k callerA)
  (hY:∀(w:Ρ)(h:Heap),YP w h->(K w.params).In h)
  (F:∀(w:Ρ)(mg:Str->Option ζ)(fa:Addr)(h:Heap),(K w.params).In h->h.Ns mainGlobals mg->mg d.name=some (.ref fa) ->
   ∃fd:Θ,(∀(s:ι)(u:ζ),Gy s fd ⟨[u],[]⟩ [(x,u)]) /\
    ∀base:Heap,(K w.params).In base->base.Ns mainGlobals mg->av l.prog w (K w.params) mg base (CX w) k fa fd [x] (sp w))
  (hsp:∀(w:Ρ)(H:Hp)(a:Addr)(ns:List Int),ns.length<=n->Cf H->SqL (K w.params) H a (ns.map V.int)->sp w [.ref a] H (λv _=>v=.bl true) λ_ _ _=>False)
  (hCX:∀(w:Ρ)(H:Hp)(s:ι)(e:ζ)(s':ι),CX w [] H s (λ_ _ _=>False) e s'->False):
  PySem.W.WalkO q loose XP YP l.row.toRowW d [] (λf vs=>PySem.call f vs):=by
 refine Att.attach_call hn hdf λw s₀ s₁ mg mb fa o pm cd doc a vs ns G Y ho hd hcd hmg hobj hints hlen hg=>?_
 have KX:=hY w _ Y
 obtain⟨fd,hb,hF⟩:=F w mg fa _ KX G.T.g hmg
 exact zg KX G.T.g G.T.b G.T.builtins G.T.nolimit hg hobj hints (a7 hlen hn2) hr hF hb (λH hO hS=>hsp w H a ns hlen hO hS) λH e s'=>hCX w H s₁ e s'
def cg(s:Stmt):Arguments:=match s with
 |.FunctionDef _ a _ _ _ _ _ _ _ _=>a
 |_=>{posonlyargs:=[],args:=[],vararg:=none,kwonlyargs:=[],kw_defaults:=[],kwarg:=none,defaults:=[]}
def bS(s:Stmt):List Stmt:=match s with
 |.FunctionDef _ _ b _ _ _ _ _ _ _=>b
 |_=>[]
def af(s:Stmt):EU:=match s with
 |.FunctionDef _ _ _ _ _ _ sc _ _ _=>sc
 |_=>{kind:=.function,names:=[],isGenerator:=false,isCoroutine:=false}
abbrev CX0:CXT:=λ_ _ _ _ _ _=>False
abbrev E0:XK:=λ_ _ _=>False
theorem eU{X:Cx}:fQ CX0 X E0:=λ_ _ _ _ _ _ _ h=>h.elim
structure Fun(K:ε)(x qual:Str)(st:Stmt)(f:Addr)(fd:Θ):Prop where
 ex:∃(oc:ζ) (od:Option Addr) (kV doc pm:ζ) (an:Option Addr) (cdv ct:ζ) (osl:Array (Option ζ)),
  fd=j3 x qual (cg st) (bS st) (af st) .none kV doc pm an cdv ct/\K.lookup f=some ⟨oc,od,.func fd,osl⟩/\r_ K cdv qual=true
 kp:ϥ K (.ref f)=true
section
variable{P:χ}{w:Ρ}{K:ε}{mg:Str->Option ζ}{base:Heap}
theorem Fun.ok{x qual:Str}{st:Stmt}{f:Addr}{fd:Θ}{N ps:List Str}{k:Nat}{sp:Sp}(F:Fun K x qual st f fd)(S:am N ps (af st))(len:∀vs H Q E,sp vs H Q E->vs.length=ps.length)
  (hbody:∀(cdv:ζ)(A:ό)(outer:List Env)(s:ι)(H:Hp)(vs:List V)(Q:VK)(E:XK),ca k (A.deeper (envOfC qual (af st) s.heap.objs.size f cdv))->sp vs H Q E ->
   ∃t,PSs (bi CX0 P w K mg base N qual (af st) f cdv A outer s H E).nox (bS st) t/\t {nx:=λ_ H'=>Q .non H',rt:=Q} (jf N vs) H):av P w K mg base CX0 (k+1) f fd ps sp:=by
 obtain⟨oc,od,kV,doc,pm,an,cdv,ct,osl,rfl,lk,hcd⟩:=F.ex
 refine CK lk hcd S len λA outer s H vs Q E hr hsp=>?_
 obtain⟨t,h,q⟩:=hbody cdv A outer s H vs Q E hr hsp
 exact⟨t,h.nox,q⟩
theorem Fun.binds{x qual:Str}{st:Stmt}{f:Addr}{fd:Θ}{ps:List Str}(F:Fun K x qual st f fd)
  (h:∀(kV doc pm:ζ)(an:Option Addr)(cdv ct:ζ)(us:List ζ),us.length=ps.length->bindArgs (j3 x qual (cg st) (bS st) (af st) .none kV doc pm an cdv ct) ⟨us,[]⟩=pure (ps.zip us)):bQ K fd ps []:=by
 obtain⟨oc,od,kV,doc,pm,an,cdv,ct,osl,rfl,lk,hcd⟩:=F.ex
 exact .all (h kV doc pm an cdv ct)
theorem lW{x qual:Str}{st:Stmt}{f:Addr}{oc:ζ}{od an:Option Addr}{osl:Array (Option ζ)}{kV doc pm cdv ct:ζ}(l:K.lookup f=some ⟨oc,od,.func (j3 x qual (cg st) (bS st) (af st) .none kV doc pm an cdv ct),osl⟩)
  (c:r_ K cdv qual=true) (k:ϥ K (.ref f)=true):Fun K x qual st f (j3 x qual (cg st) (bS st) (af st) .none kV doc pm an cdv ct):=⟨⟨oc,od,kV,doc,pm,an,cdv,ct,osl,rfl,l,c⟩,k⟩
end
theorem Dk{A:ό}{k:Nat}(hr:ca k A):A.units+1<cLine:=Nat.lt_of_le_of_lt (Nat.add_le_add_left (by decide:1<=64) _) hr.units
theorem wP{n:Nat}(h:n<=1000):n<sizeLine:=Nat.lt_of_le_of_lt h ()
section
variable{X:Cx}
theorem pv(i:Nat){x:Str}{pos:Pos}(hN:X.N[i]?=some x:=by rfl)(hv:Vis X.env.scope x:=by first|exact υ rfl|exact C8 (υ rfl)|exact C8 (C8 rfl))(hd:(x==("__debug__" : Str))=false:=by decide)
  (hcd:(x==("__classdict__" : Str))=false:=by decide):PE X (.Name x pos) (lG i):=xS hN hv hd hcd
end
theorem aD{A B:Prop}(h:B):if false=true then A else B:=by
 rw[Q6 Ξ]
 exact h
theorem ax{A B:Prop}(h:A):if true=true then A else B:=by
 rw[Q5 rfl]
 exact h
theorem ap{c A B:Prop}[Decidable c](h1:c->A)(h2:¬ c->B):if c then A else B:=by
 by_cases h:c
 ·rw[Q5 h]
  exact h1 h
 ·rw[Q6 h]
  exact h2 h
theorem Bb{c A B:Prop}[Decidable c](hc:c)(h:B):if (!decide c)=true then A else B:=by
 rw[Q9 hc]
 exact aD h
def ak(H H':Hp):Prop:=∀b o,H b=some o->H' b=some o
theorem ak.refl(H:Hp):ak H H:=λ_ _ h=>h
theorem ak.trans{H H1 H2:Hp}(a:ak H H1)(b:ak H1 H2):ak H H2:=λc o h=>b c o (a c o h)
theorem ak.free{H H':Hp}(e:ak H H'){l:Addr}(h:H' l=Option.none):H l=Option.none:=by
 cases q:H l with
 |none=>rfl
 |some o=>
  rw[e l o q]at h
  cases h
theorem ak.seq{K:ε}{H H':Hp}{a:Addr}{xs:List V}(e:ak H H')(h:SqL K H a xs):SqL K H' a xs:=by
 rcases h with (h|⟨o,h⟩)|h
 ·exact .inl (.inl (e _ _ h))
 ·exact .inl (.inr ⟨o,e _ _ h⟩)
 ·exact .inr h
section
variable{κ:Type}[DecidableEq κ]
end
theorem zN{prog:χ}{w:Ρ}{A:ό}{R:Gu->ι->Prop}{s:ι}{elt target iter:Expr}{ifs:List Expr}{scope:EU}{pos:Pos}{it acc:ζ}{env:Env}(I:Nat->ι->Prop)
  (turn:∀n s,I n s->wpAny (model prog w) A (pyNext it) (λr s₁=>match r with
   |none=>R (.ok .next) s₁
   |some v=>wpAny (model prog w) A (letOwnedTupleGo target it v) (λ_ s₁'=>wpAny (model prog w) A (assign target env v) (λ_ s₂=>
     wpAny (model prog w) A (forIn ifs true λc r=>if r=true then do let ok <-isTrue c env (eval c env);pure (A8 ok)else pure (A8 r)) (λok s₃=>
      if ok=true then wpAny (model prog w) A (eval elt env) (λx s₄=>
       wpAny (model prog w) A (call (.builtin "list.append") [acc,x]) (λ_ s₅=>∃m,m<n/\I m s₅) (λ_ _=>False) s₄) (λ_ _=>False) s₃
      else ∃m,m<n/\I m s₃) (λ_ _=>False) s₂) (λ_ _=>False) s₁') (λ_ _=>False) s₁) (λ_ _=>False) s)
  (n:Nat) (h:I n s):
  codeAny (model prog w) A (.compLoop (.ListComp elt [⟨target,iter,ifs,0⟩] scope pos) 0 it acc env) R s:=by
 refine codeAny_loop rfl I (λn s hI=>?_) n h
 show wpAny _ A ((compTurn (.ListComp elt [⟨target,iter,ifs,0⟩] scope pos) 0 it acc env).onRaise (λx=>do noteFrame x env;theTreesLotGoes x)) _ _ s
 refine wpAny_noted ?_
 rw[compTurn_list]
 have no:∀{E:ζ->ι->Prop}(x:ζ)(s:ι),False->E x s:=λ_ _ z=>z.elim
 refine η (wpAny_standAt (η (n9 (turn n s hI) (λr s₁ h₁=>?_) no)))
 cases r with
 |none=>exact ω h₁
 |some v=>
  refine η (n9 h₁ (λ_ s₁' h₁'=>?_) no)
  refine η (n9 h₁' (λ_ s₂ h₂=>η (n9 h₂ (λok s₃ h₃=>?_) no)) no)
  cases ok with
  |false=>exact ω ⟨rfl,h₃⟩
  |true=>
   exact η (η (n9 h₃ (λx s₄ h₄=>η (n9 h₄ (λ_ s₅ h₅=>ω (ω ⟨rfl,h₅⟩)) no)) no))
def aU(env:Env):List (Str×B4)->List (Str×Addr)->List (Str×Addr)
 |[],acc=>acc
 |(n,k)::r,acc=>if k=.free then aU env r (match env.cells.lookup n with|some c=>(n,c)::acc|none=>acc)else aU env r acc
theorem ql{env:Env}{scope:EU}(h:∀x∈scope.names,x.2=.free->∃c,env.cells.lookup x.1=some c):closureFor scope env=pure (aU env scope.names []):=by
 have all:∀(l:List (Str×B4))(acc:List (Str×Addr)),(∀x∈l,x.2=Ϗ->∃c,env.cells.lookup x.1=some c) ->
   (forIn l acc λx cs=>(do
    if x.2==Ϗ then
     let a <-cellOf env x.1
     pure (A8 ((x.1,a)::cs))
    else pure (A8 cs):Sem _))=pure (aU env l acc):=by
  intro l
  induction l with
  |nil=>intro acc _;rfl
  |cons x r ih=>
   intro acc hl
   obtain⟨n,k⟩:=x
   have hr:=λy hy=>hl y (Ε _ hy)
   rw[EJ]
   by_cases hk:k=.free
   ·subst hk
    obtain⟨c,hc⟩:=hl (n,.free) ο rfl
    simp only[beq_self_eq_true,if_true,aU]
    have e:cellOf env n=pure c:=by unfold cellOf;rw[show env.cells.lookup n=some c from hc]
    rw[e]
    simp only[pure_bind]
    rw[ih _ hr,show env.cells.lookup n=some c from hc]
   ·have hb:(k==Ϗ)=false:=by simpa using hk
    simp only[hb,Bool.false_eq_true,if_false,aU,Q6 hk,pure_bind]
    exact ih _ hr
 unfold closureFor
 exact(congrArg (λt:Sem (List (Str×Addr))=>t>>=pure) (all scope.names [] h)).trans ()
theorem bw{env:Env}:∀(l:List (Str×B4))(acc:List (Str×Addr)),(∀n c,acc.lookup n=some c->env.cells.lookup n=some c)->∀n c,(aU env l acc).lookup n=some c->env.cells.lookup n=some c
 |[],acc,h,n,c,e=>h n c e
 |(m,k)::r,acc,h,n,c,e=>by
  unfold aU at e
  split at e
  ·refine bw r _ ?_ n c e
   intro n' c' e'
   split at e'
   ·rename_i c0 hc0
    rw[Ϟ]at e'
    split at e'
    ·rename_i hb
     have:n'=m:=by simpa using hb
     subst this
     cases e'
     exact hc0
    ·exact h n' c' e'
   ·exact h n' c' e'
  ·exact bw r _ h n c e
theorem eF{env:Env}{n:Str}:∀(l:List (Str×B4))(acc:List (Str×Addr)),(∃c,acc.lookup n=some c)->∃c,(aU env l acc).lookup n=some c
 |[],acc,h=>h
 |(m,k)::r,acc,h=>by
  unfold aU
  split
  ·refine eF r _ ?_
   obtain⟨c,hc⟩:=h
   split
   ·rw[Ϟ]
    split
    ·exact⟨_,rfl⟩
    ·exact⟨c,hc⟩
   ·exact⟨c,hc⟩
  ·exact eF r _ h
theorem cV{env:Env}{n:Str}(hc:∃c,env.cells.lookup n=some c):∀(l:List (Str×B4))(acc:List (Str×Addr)),(n,Ϗ)∈l->∃c,(aU env l acc).lookup n=some c
 |[],_,h=>by cases h
 |(m,k)::r,acc,h=>by
  obtain⟨c,hc⟩:=hc
  unfold aU
  rcases ν.mp h with e|h
  ·cases e
   rw[Q5 rfl,hc]
   exact eF r _ ⟨c,()⟩
  ·split
   ·exact cV ⟨c,hc⟩ r _ h
   ·exact cV ⟨c,hc⟩ r _ h
def Cx.comp(X:Cx)(N:List Str)(scope:EU)(fp:List Addr)(s:ι)(H:Hp):Cx where
 prog:=X.prog
 w:=X.w
 K:=X.K
 mg:=X.mg
 base:=X.base
 A:=X.A
 N:=N
 s₀:=s
 H₀:=H
 env:=compEnvC scope (aU X.env scope.names []) (s.heap.objs.size+1) X.env
 outer:=X.stack
 stack:=X.stack
 ex:=fp
 calm:=X.calm
 fn:=λ_=>false
 pn:=[]
 xe:=λ_ _=>False
def dH(k:Nat)(ix:List Nat)(σ:St):St:=j8 k none++ix.map λj=>(σ[j]?).join
structure dJ(N:List Str)(sc:EU)(scope:EU)(own:List Str)(ix:List Nat):Prop where
 kind:scope.kind=.function
 nocell:∀y∈scope.names,y.2≠.cell
 names:∀y∈scope.names,y.2=.local->scope.names.lookup y.1=some .local
 free:∀y∈scope.names,y.2=.free->sc.names.lookup y.1=some .cell\/sc.names.lookup y.1=some .free
 cap:∀j∈ix,∀x,N[j]?=some x->(x,Ϗ)∈scope.names/\(scope.names.lookup x=some .free)
 inN:∀j∈ix,j<N.length
abbrev lcN(N own:List Str)(ix:List Nat):List Str:=own++ix.filterMap λj=>N[j]?
theorem Am{N own:List Str}{ix:List Nat}(h:∀j∈ix,j<N.length):(lcN N own ix).length=own.length+ix.length:=by
 unfold lcN
 rw[Η]
 congr 1
 induction ix with
 |nil=>rfl
 |cons j r ih=>
  have hj:j<N.length:=h j ο
  rw[y6,Α hj]
  show _+1=_+1
  rw[ih λi hi=>h i (Ε _ hi)]
theorem gq{N:List Str}:∀{ix:List Nat},(∀j∈ix,j<N.length)->∀{i:Nat}{x:Str},(ix.filterMap λj=>N[j]?)[i]?=some x->∃j,ix[i]?=some j/\N[j]?=some x
 |[],_,i,x,e=>by simp at e
 |j::r,h,i,x,e=>by
  have hj:j<N.length:=h j ο
  rw[y6,Α hj]at e
  cases i with
  |zero=>
   refine⟨j,rfl,?_⟩
   rw[Α hj]
   exact e
  |succ i=>
   obtain⟨j',e1,e2⟩:=gq (λi hi=>h i (Ε _ hi)) (i:=i) (x:=x) (by simpa using e)
   exact⟨j',by simpa using e1,e2⟩
theorem nH{k:Nat}{ix:List Nat}{σ:St}{i:Nat}{v:V}(h:(dH k ix σ)[i]?=some (some v)):∃i' j,i=k+i'/\ix[i']?=some j/\σ[j]?=some (some v):=by
 unfold dH at h
 by_cases hi:i<k
 ·rw[i6 (by simpa using hi),List.getElem?_replicate,Q5 hi]at h
  cases h
 ·rw[ϵ (by simpa using hi),t_,Ν]at h
  refine⟨i-k,?_⟩
  cases e:ix[i-k]? with
  |none=>rw[e]at h;cases h
  |some j=>
   rw[e]at h
   refine⟨j,(),rfl,?_⟩
   have h':(σ[j]?).join=some v:=by simpa using h
   cases q:σ[j]? with
   |none=>rw[q]at h';cases h'
   |some o=>
    rw[q]at h'
    exact congrArg some h'
theorem cS{env:Env}{x:Str}:∀{names:List (Str×B4)},names.lookup x=some .free ->
  (names.map λ(n,k)=>if (k==Ϗ&&env.scope.kind==.function&&env.kindOf n==some .cell)then (n,j6)else (n,k)).lookup x=some .cell \/
  (names.map λ(n,k)=>if (k==Ϗ&&env.scope.kind==.function&&env.kindOf n==some .cell)then (n,j6)else (n,k)).lookup x=some .free
 |[],h=>by simp at h
 |(n,k)::r,h=>by
  have ih:=@cS env x r
  rw[Χ]
  show ϲ x ((if (k==Ϗ&&env.scope.kind==.function&&env.kindOf n==some .cell)=true then (n,j6)else (n,k))::_)=_\/ϲ x ((if (k==Ϗ&&env.scope.kind==.function&&env.kindOf n==some .cell)=true then (n,j6)else (n,k))::_)=_
  cases hx:x==n with
  |true=>
   simp only[Ϟ,hx]at h
   cases h
   by_cases hc:(Ϗ==Ϗ&&env.scope.kind==.function&&env.kindOf n==some .cell)=true
   ·rw[Q5 hc];left;simp only[Ϟ,hx]
   ·rw[Q6 hc];right;simp only[Ϟ,hx]
  |false=>
   simp only[Ϟ,hx]at h
   by_cases hc:(k==Ϗ&&env.scope.kind==.function&&env.kindOf n==some .cell)=true
   ·rw[Q5 hc];simp only[Ϟ,hx];exact ih h
   ·rw[Q6 hc];simp only[Ϟ,hx];exact ih h
theorem cQ{env:Env}{x:Str}{kd:B4}:∀{names:List (Str×B4)},
  (names.map λ(n,k)=>if (k==Ϗ&&env.scope.kind==.function&&env.kindOf n==some .cell)then (n,j6)else (n,k)).lookup x=some kd->(kd=.cell\/kd=.free)->(∀y∈names,y.2≠.cell) ->
  (x,Ϗ)∈names
 |[],h,_,_=>by simp at h
 |(n,k)::r,h,hk,hc=>by
  have ih:=@cQ env x kd r
  rw[Χ]at h
  have hcr:∀y∈r,y.2≠.cell:=λy hy=>hc y (Ε _ hy)
  by_cases hf:k=.free
  ·subst hf
   cases hx:x==n with
   |true=>
    have:x=n:=by simpa using hx
    subst this
    exact ο
   |false=>
    refine Ε _ (ih ?_ hk hcr)
    by_cases hcc:(Ϗ==Ϗ&&env.scope.kind==.function&&env.kindOf n==some .cell)=true
    ·have h2:ϲ x ((if (Ϗ==Ϗ&&env.scope.kind==.function&&env.kindOf n==some .cell)=true then (n,j6)else (n,Ϗ))::r.map λ(n,k)=>if (k==Ϗ&&env.scope.kind==.function&&env.kindOf n==some .cell)then (n,j6)else (n,k))=some kd:=h
     rw[Q5 hcc,Ϟ,hx]at h2
     exact h2
    ·have h2:ϲ x ((if (Ϗ==Ϗ&&env.scope.kind==.function&&env.kindOf n==some .cell)=true then (n,j6)else (n,Ϗ))::r.map λ(n,k)=>if (k==Ϗ&&env.scope.kind==.function&&env.kindOf n==some .cell)then (n,j6)else (n,k))=some kd:=h
     rw[Q6 hcc,Ϟ,hx]at h2
     exact h2
  ·have hb:(k==Ϗ)=false:=by simpa using hf
   have h2:ϲ x ((if (k==Ϗ&&env.scope.kind==.function&&env.kindOf n==some .cell)=true then (n,j6)else (n,k))::r.map λ(n,k)=>if (k==Ϗ&&env.scope.kind==.function&&env.kindOf n==some .cell)then (n,j6)else (n,k))=some kd:=h
   rw[hb,ϴ,ϴ,Q6 Ξ,Ϟ]at h2
   cases hx:x==n with
   |true=>
    rw[hx]at h2
    cases h2
    rcases hk with z|z
    ·exact absurd z (hc (n,_) ο)
    ·exact absurd z hf
   |false=>
    rw[hx]at h2
    exact Ε _ (ih h2 hk hcr)
theorem nlt{a b:Nat}(h:a<b):a≠b:=Ϣ h
theorem ngt{a b:Nat}(h:a<b):b≠a:=A2 h
theorem ue{a b:Nat}(h:a<b):a≠b+1:=Ϣ (Nat.lt_succ_of_lt h)
theorem Ej{a b:Nat}(h:a<b):b+1≠a:=A2 (Nat.lt_succ_of_lt h)
theorem nss(a:Nat):a≠a+1:=Ϣ (E7 a)
theorem CP(a:Nat):a+1≠a:=A2 (E7 a)
section
variable{X:Cx}{pins:List (Addr×Obj)}{σ:St}{H:Hp}{s:ι}{scope:EU}{own:List Str}{ix:List Nat}{fp:List Addr}
theorem Inv.compOk{N:List Str}(I:Inv X pins σ H s)(L:dJ X.N X.env.scope scope own ix)(hf:∀b∈fp,mh X pins H b)(hlt:∀b∈fp,b<s.heap.objs.size):(X.comp N scope fp s H).Ok where
 mod:=I.ok.mod
 kind:=L.kind
 glob:=I.ok.glob
 blt:=I.ok.blt
 above:=FY _
 inj:=λx y c h1 h2=>I.ok.inj x y c (bw _ _ (λ_ _ z=>by simp at z) x c h1) (bw _ _ (λ_ _ z=>by simp at z) y c h2)
 has:=λx hx=>by
  have hm:(x,Ϗ)∈scope.names:=by
   rcases hx with hx|hx
   ·exact cQ (env:=X.env) (x:=x) (names:=scope.names) hx (.inl rfl) L.nocell
   ·exact cQ (env:=X.env) (x:=x) (names:=scope.names) hx (.inr rfl) L.nocell
  exact cV (I.ok.has x (L.free _ hm rfl)) _ _ hm
 cab:=λx c h=>by cases h
 hd:=I.ok.hd
 frames:=I.ok.frames
 stk:=.inl rfl
 exf:=λb hb=>⟨ue (hlt b hb),λx c e=>(hf b hb).2.2.2.2.1 x c (bw _ _ (λ_ _ z=>by simp at z) x c e)⟩
 bs:=I.bs
 bsz:=a7 I.ok.bsz I.sz
 noex:=λb o e hb=>by
  rcases(hf b hb).2.2.2.1 with z|z
  ·exact I.ok.noex b o e z
  ·exact absurd (ϛ (Β e) (a7 I.ok.bsz z)) (x9 _)
 exfs:=λb hb z=>by
  rcases ν.mp (I.stkSub b z)with e|e
  ·exact(hf b hb).2.1 e
  ·exact(hf b hb).2.2.1 e
 funs:=I.stack
 frf:=I.stkFree
theorem Inv.compStart{h1:Heap}{tk:Nat}(I:Inv X pins σ H s)(L:dJ X.N X.env.scope scope own ix)(hf:∀b∈fp,mh X pins H b)(hlt:∀b∈fp,b<s.heap.objs.size)
  (k:∀b o,s.heap.get? b=some o->h1.get? b=some o) {m:Str->Option ζ} (hn:h1.Ns (s.heap.objs.size+1) m):
  Inv (X.comp (lcN X.N own ix) scope fp s H) [] (dH own.length ix σ) H {s with heap:=h1,toks:=tk}:=by
 have sub:=λx c=>bw (env:=X.env) scope.names [] (λ_ _ z=>by simp at z) x c
 refine⟨I.compOk L hf hlt,rfl,I.bare,Un.kept k,⟨m,hn,λi x v e1 e2 e3=>?_⟩,λx c e=>?_,I.hok.fresh (FY _),λx c e=>I.freeC x c (sub x c e),λp hp=>absurd (show p∈([]:List (Addr×Obj))from hp) (),I.hok.kept k,?_⟩
 ·obtain⟨i',j,rfl,hj,hv⟩:=nH e2
  have e1':(lcN X.N own ix)[own.length+i']?=some x:=e1
  unfold lcN at e1'
  rw[ϵ (Ϩ _ _),Nat.add_sub_cancel_left]at e1'
  obtain⟨j',hj',hN⟩:=gq L.inN e1'
  rw[hj]at hj'
  cases hj'
  have hjm:j∈ix:=Ο hj
  obtain⟨hmem,hlk⟩:=L.cap j hjm x hN
  have hkind:=L.free _ hmem rfl
  obtain⟨m0,hn0,hl0⟩:=I.loc
  obtain⟨u,r,l⟩:=hl0 j x v hN hv (by rcases hkind with z|z;exact .inr (.inl z);exact .inr (.inr z))
  refine⟨u,r,.inr ⟨?_,?_⟩⟩
  ·exact cS (env:=X.env) hlk
  ·rcases l with ⟨kl,_⟩|⟨_,c,hc,hcell⟩
   ·have kl':X.env.scope.names.lookup x=some .local:=kl
    rcases hkind with z|z
    ·rw[kl']at z;cases z
    ·rw[kl']at z;cases z
   ·obtain⟨c',hc'⟩:=cV (env:=X.env) ⟨c,hc⟩ scope.names [] hmem
    have:c'=c:=by
     have q:=sub x c' hc'
     rw[hc]at q
     exact(Ϛ q).symm
    subst this
    obtain⟨o,ho,hd⟩:=hcell
    exact⟨c',hc',o,k _ _ ho,hd⟩
 ·obtain⟨v,o,ho,hd⟩:=I.cell x c (sub x c e)
  exact⟨v,o,k _ _ ho,hd⟩
 ·show(dH own.length ix σ).length=(lcN X.N own ix).length
  rw[Am L.inN]
  unfold dH
  rw[Η,t_,δ]
def GW(k:Nat)(g:TG):Prop:=∀x (σ:St) H (Q:St->Hp->Prop),g x σ H Q->g x σ H λσ2 H2=>Q σ2 H2/\σ2.length=σ.length/\∀j,k<=j->σ2[j]?=σ[j]?
theorem aW{k i:Nat}(h:i<k):GW k (dE i):=λx σ H Q q=>⟨q,(),λj hj=>by rw[Fa ()]⟩
def GWs(k:Nat)(g:TGs):Prop:=∀x (σ:St) H (Q:St->Hp->Prop),g x σ H Q->g x σ H λσ2 H2=>Q σ2 H2/\σ2.length=σ.length/\∀j,k<=j->σ2[j]?=σ[j]?
def GM(g:TG):Prop:=∀x (σ:St) H (Q Q':St->Hp->Prop),(∀s h,Q s h->Q' s h)->g x σ H Q->g x σ H Q'
theorem nO{i:Nat}:GM (dE i):=λ_ _ _ _ _ h q=>h _ _ q
theorem zC{k:Nat}:GWs k wq:=λx σ H Q q=>⟨q.1,q.2,rfl,λ_ _=>rfl⟩
theorem rA{k:Nat}{t:TG}{u:TGs}(ht:GW k t)(hu:GWs k u)(mt:GM t)(mu:∀x (σ:St) H (Q Q':St->Hp->Prop),(∀s h,Q s h->Q' s h)->u x σ H Q->u x σ H Q'):GWs k (ji t u):=λx σ H Q q=>by
 obtain⟨v,r,e,q⟩:=q
 refine⟨v,r,e,mt _ _ _ _ _ ?_ (ht _ _ _ _ q)⟩
 rintro σ1 H1 ⟨q1,l1,j1⟩
 refine mu _ _ _ _ _ ?_ (hu _ _ _ _ q1)
 rintro σ2 H2 ⟨q2,l2,j2⟩
 exact⟨q2,l2.trans l1,λj hj=>(j2 j hj).trans (j1 j hj)⟩
theorem uN:∀x (σ:St) H (Q Q':St->Hp->Prop),(∀s h,Q s h->Q' s h)->wq x σ H Q->wq x σ H Q':=λ_ _ _ _ _ h q=>⟨q.1,h _ _ q.2⟩
theorem xu{t:TG}{u:TGs}(mt:GM t)(mu:∀x (σ:St) H (Q Q':St->Hp->Prop),(∀s h,Q s h->Q' s h)->u x σ H Q->u x σ H Q'):∀x (σ:St) H (Q Q':St->Hp->Prop),(∀s h,Q s h->Q' s h)->ji t u x σ H Q->ji t u x σ H Q':=
 λ_ _ _ _ _ h ⟨v,r,e,q⟩=>⟨v,r,e,mt _ _ _ _ _ (λ_ _ q1=>mu _ _ _ _ _ h q1) q⟩
theorem By{k:Nat}{K:ε}{n:Nat}{t:TGs}(ht:GWs k t):GW k (zQ K n t):=λx σ H Q q=>by
 obtain⟨a,xs,e,hq,hl,q⟩:=q
 exact⟨a,xs,e,hq,hl,ht _ _ _ _ q⟩
theorem gx{K:ε}{i j k:Nat}(hi:i<k)(hj:j<k):GW k (zQ K 2 (ji (dE i) (ji (dE j) wq))):=
 By (rA (aW hi) (rA (aW hj) zC nO uN) nO (xu nO uN))
def PIf(X:Cx)(ifs:List Expr)(t:TT):Prop:=
 ∀(pins:List (Addr×Obj))(s:ι)(σ:St)(H:Hp)(Q:Bool->Hp->Prop),Inv X pins σ H s->t σ H Q ->
  wpAny (model X.prog X.w) X.A (forIn ifs true λc r=>if r=true then do let ok <-isTrue c X.env (eval c X.env);pure (A8 ok)else pure (A8 r)) (TP X pins σ Q) X.xe s
def yW:TT:=λ_ H Q=>Q true H
theorem pif_nil:PIf X [] yW:=λ_ _ _ H _ I h=>wpAny_tests_nil ⟨H,I,h⟩
theorem zK{c:Expr}{t:TT}(h:PT X c t):PIf X [c] t:=λpins s σ H Q I q=>wpAny_tests_one (h pins s σ H Q I q)
def rLC(J:It)(k:Nat)(ix:List Nat)(g:TG)(tt:TT)(te:TE)(σ:St)(H1:Hp)(Q:List V->Hp->Prop):Prop:=
 ∃W:Nat->Nat->List V->Hp->Prop,(∃m,W 0 m [] H1)/\∀i m ys H,W i m ys H ->
  (J.stop i H/\Q ys H) \/
  (J.go i H/\∃N:List V->Hp->Prop,(∀ys' H',N ys' H'->∃m',m'<m/\W (i+1) m' ys' H')/\∀x H',J.yld i H x H'->g x (dH k ix σ) H' λσ2 H2=>tt σ2 H2 λc H3=>
   if c=true then te σ2 H3 λy H4=>ys.length<sizeLine/\N (ys++[y]) H4
   else N ys H3)
theorem pN{elt tg iter:Expr}{ifs:List Expr}{pos:Pos}{it:Addr}{tn:Nat->Heap->Prop}{J:It}{g:TG}{tt:TT}{te:TE}{E:ζ->ι->Prop}{Qf:List V->Hp->Prop}{RR:ζ->Addr->Gu->ι->Prop}
  (L:dJ X.N X.env.scope scope own ix) (hc:X.calm=true) (hg:∀fp s H,PG (X.comp (lcN X.N own ix) scope fp s H) tg g) (gw:GW own.length g)
  (ht:∀fp s H,PIf (X.comp (lcN X.N own ix) scope fp s H) ifs tt) (he:∀fp s H,PE (X.comp (lcN X.N own ix) scope fp s H) elt te)
  (I:Inv X pins σ H s) (T:gY X.prog X.w X.K tg J fp it tn) (st:tn 0 s.heap) (hf:∀b∈fp,mh X pins H b)
  (hw:rLC J own.length ix g tt te σ H Qf)
  (hRR:∀(D C:Addr)(s':ι)(ys:List V)(H':Hp)(m:Str->Option ζ),s'.heap.Ns C m->C≠X.env.locals->(∀x c,X.env.cells.lookup x=some c->c≠C)->X.s₀.heap.objs.size<=C->(∀p∈X.pn++pins,p.1≠C)->upd H' D (.lst ys) C=none->H' D=none ->
   Inv X pins σ (upd H' D (.lst ys)) s'->Qf ys H'->RR (.ref D) C (.ok .next) s'):
  wpAny (model X.prog X.w) X.A (newList []) (λacc s₃=>wpAny (model X.prog X.w) X.A (newFunctionEnv scope X.env.globals (aU X.env scope.names []) [] X.env.qual none .none (some X.env)) (λcenv s₄=>
   codeAny (model X.prog X.w) X.A (.compStart (.ListComp elt [⟨tg,iter,ifs,0⟩] scope pos) 0 (.ref it) acc {cenv with scope:=relabel scope X.env}) (RR acc cenv.locals) s₄) E s₃) E s:=by
 obtain⟨W,⟨m0,w0⟩,turn⟩:=hw
 have hlt:∀b∈fp,b<s.heap.objs.size:=λb hb=>by
  obtain⟨o,e,_⟩:=T.obj 0 s.heap st b hb
  exact Β e
 refine ϻ (wpAny_newFunctionEnv L.nocell (by intro y hy;simp at hy) (λh₁ hns₁ hsb₁=>?_) L.kind)
 dsimp only at hns₁ hsb₁⊢
 generalize hH2:s.heap.push {cls:=.type "list",dict:=none,data:=.seq ([]:List ζ).toArray}=h2 at hns₁ hsb₁⊢
 have hC:h2.objs.size=s.heap.objs.size+1:=by rw[<-hH2,j0]
 have old:∀b o,s.heap.get? b=some o->h₁.get? b=some o:=λb o e=>by
  exact hsb₁.extBut b o (by rw[hC];exact ue (Β e)) (ρ _ (hH2▸ρ _ e))
 have hacc:h₁.PlainList s.heap.objs.size #[]:=⟨_,hsb₁.extBut _ _ (by rw[hC];exact nss _) (ρ _ (hH2▸Λ _ rfl))⟩
 have hD0:H s.heap.objs.size=none:=I.hok.fresh (π _)
 rw[hC]at hns₁
 have I0:=I.compStart (tk:=s.toks+([]:List (Str×ζ)).length) L hf hlt old hns₁
 have sub:=λx c=>bw (env:=X.env) scope.names [] (λ_ _ z=>by simp at z) x c
 have cellLt:∀x c,X.env.cells.lookup x=some c->c<s.heap.objs.size:=λx c e=>by
  obtain⟨v,q⟩:=I.cell x c e
  exact q.lt
 have stkLt:∀b∈frs X.stack,b<s.heap.objs.size:=λb hb=>by
  obtain⟨_,o,ho,_⟩:=I.stack.mem hb
  exact Β ho
 have env_eq:({newEnv scope h2.objs.size X.env.globals (aU X.env scope.names []) X.env.qual none .none (some X.env) builtinsNs with scope:=relabel scope X.env}:Env)=(X.comp (lcN X.N own ix) scope fp s H).env:=by
  show compEnvC scope (aU X.env scope.names []) h2.objs.size X.env=compEnvC scope (aU X.env scope.names []) (s.heap.objs.size+1) X.env
  rw[hC]
 have loop:codeAny (model X.prog X.w) X.A (.compLoop (.ListComp elt [⟨tg,iter,ifs,0⟩] scope pos) 0 (.ref it) (.ref s.heap.objs.size) (X.comp (lcN X.N own ix) scope fp s H).env) (RR (.ref s.heap.objs.size) (s.heap.objs.size+1))
   {s with heap:=h₁,toks:=s.toks+([]:List (Str×ζ)).length}:=by
  refine zN (λn s'=>∃i ys H',Inv (X.comp (lcN X.N own ix) scope fp s H) [] (dH own.length ix σ) H' s'/\tn i s'.heap/\(∀b∈fp,H' b=none)/\H' s.heap.objs.size=none /\
   (∃its:List ζ,aF ys its/\s'.heap.PlainList s.heap.objs.size its.toArray)/\ys.length<=sizeLine/\W i n ys H') ?_ m0
   ⟨0,[],H,I0,T.keep _ _ _ st (λb _ o e=>old b o e),λb hb=>(hf b hb).1,hD0,⟨[],.nil,hacc⟩,ϊ _,w0⟩
  rintro n s3 ⟨i,ys,H3,I3,st3,fr3,d3,⟨its,rv,n3,hp3⟩,hz,w3⟩
  have Ip:=I3.pins_of (pins':=[(s.heap.objs.size,{cls:=.type "list",data:=.seq its.toArray n3})]) (λp hp=>by
   have e:p=(s.heap.objs.size,{cls:=.type "list",data:=.seq its.toArray n3}):=by simpa using hp
   subst e
   exact⟨hp3,d3,nss _,λz=>absurd (stkLt _ z) (x9 _),λv z=>by cases z⟩)
  have stat:∀{H':Hp},(∀b∈fp,H' b=none)->∀b∈fp,mh (X.comp (lcN X.N own ix) scope fp s H) [(s.heap.objs.size,{cls:=.type "list",data:=.seq its.toArray n3})] H' b:=λhn b hb=>
   ⟨hn b hb,ue (hlt b hb),I3.ok.exfs b hb,.inl hb,λx c e=>(I3.ok.exf b hb).2 x c e,λp hp=>by
    have e:p=(s.heap.objs.size,{cls:=.type "list",data:=.seq its.toArray n3}):=by simpa using(show p∈([]:List (Addr×Obj))++[(s.heap.objs.size,{cls:=.type "list",data:=.seq its.toArray n3})]from hp)
    subst e
    exact ngt (hlt b hb)⟩
  rcases turn i n ys H3 w3 with ⟨stop,qf⟩|⟨go,N,hN,step⟩
  ·refine thn (T.done (X.comp (lcN X.N own ix) scope fp s H) rfl rfl rfl hc i _ s3 _ H3 _ Ip (stat fr3) st3 stop) λr s4 ⟨hr,I4⟩=>?_
   subst hr
   obtain⟨e4,d4,_⟩:=I4.pin (s.heap.objs.size,{cls:=.type "list",data:=.seq its.toArray n3}) (ϔ _ ο)
   obtain⟨mC,hnC,_⟩:=I4.loc
   have hok:HOk X.prog X.w (upd H3 s.heap.objs.size (.lst ys)) s4.heap:=λb u e=>by
    by_cases hb:b=s.heap.objs.size
    ·subst hb
     rw[aa]at e
     cases e
     exact⟨hz,its,n3,rv,e4⟩
    ·rw[ao hb]at e
     exact(I4.hok b u e).stay (λc v _ q=>q) (λc q=>by rw[ao (ah q d4)];exact q) λc xs q=>by rw[ao (ah q d4)];exact q
   have ub:=I4.base
   have un:Un (frs X.stack) fp H (upd H3 s.heap.objs.size (.lst ys)) s.heap s4.heap:=
    ⟨ub.keep,ub.slot,λb o e n hx=>by rw[ao (Ϣ (Β e))];exact ub.free b o e n hx,ub.there,
     λb xs e=>by rw[ao (ah (ub.tups b xs e) d4)];exact ub.tups b xs e,λb o u e=>by rw[ao (ah (ub.frzs b o u e) d4)];exact ub.frzs b o u e,
     λb ps e=>by
      obtain⟨more,q⟩:=ub.tbls b ps e
      exact⟨more,by rw[ao (ah q d4)];exact q⟩⟩
   have I5:Inv X pins σ (upd H3 s.heap.objs.size (.lst ys)) s4:=I.call' I4.os un hok I4.bare λb hb=>by
    obtain⟨f0,f1,f2,f3,f4,f5⟩:=hf b hb
    exact⟨f3,f1,f4,f5⟩
   refine hRR _ _ s4 ys H3 mC hnC ?_ ?_ ?_ ?_ ?_ d4 I5 qf
   ·exact Ej I.lt
   ·intro x c e
    exact ue (cellLt x c e)
   ·exact a7 I.sz (FY _)
   ·intro p hp
    exact ue (Β (I.pin p hp).1)
   ·rw[ao (CP _)]
    exact I4.free
  ·refine thn (T.item (X.comp (lcN X.N own ix) scope fp s H) rfl rfl rfl hc i _ s3 _ H3 _ Ip (stat fr3) st3 go) λr s4 ⟨u,hr,h4⟩=>?_
   subst hr
   refine thn h4 λ_ s5 ⟨x,H5,I5,r5,y5,st5,fr5⟩=>?_
   have I5':=I5.pinned (stat fr5) (T.obj _ _ st5)
   refine thn (hg fp s H _ s5 _ H5 x u _ I5' r5 (gw _ _ _ _ (step x H5 y5))) λ_ s6 ⟨σ6,H6,I6,q6,l6,k6⟩=>?_
   refine thn (ht fp s H _ s6 σ6 H6 _ I6 q6) λc s7 ⟨H7,I7,q7⟩=>?_
   have again:∀{s8:ι}{H8:Hp},Inv (X.comp (lcN X.N own ix) scope fp s H) ([(s.heap.objs.size,{cls:=.type "list",data:=.seq its.toArray n3})]++me fp s5.heap) σ6 H8 s8 ->
     Inv (X.comp (lcN X.N own ix) scope fp s H) [] (dH own.length ix σ) H8 s8/\tn (i+1) s8.heap/\(∀b∈fp,H8 b=none)/\H8 s.heap.objs.size=none/\s8.heap.get? s.heap.objs.size=some {cls:=.type "list",data:=.seq its.toArray n3}:=λ{s8 H8} I8=>by
    obtain⟨e8,d8,_⟩:=I8.pin (s.heap.objs.size,{cls:=.type "list",data:=.seq its.toArray n3}) (ϔ _ (B3 _ ο))
    refine⟨(I8.pins_of (pins':=[]) λp hp=>by cases hp).weak l6.symm λj v e=>?_,T.keep _ _ _ st5 λb hb o e=>(I8.pin (b,o) (ϔ _ (ϔ _ (eL hb e)))).1,λb hb=>?_,d8,e8⟩
    ·obtain⟨i',j',rfl,_,_⟩:=nH e
     rw[k6 _ (Ϩ _ _)]
     exact e
    ·obtain⟨o,e,d⟩:=T.obj _ _ st5 b hb
     exact(I8.pin (b,o) (ϔ _ (ϔ _ (eL hb e)))).2.1
   cases c with
   |false=>
    rw[Q6 Ξ]at q7⊢
    obtain⟨m',hm,w7⟩:=hN _ _ q7
    obtain⟨a1,a2,a3,a4,a5⟩:=again I7
    exact⟨m',hm,i+1,ys,H7,a1,a2,a3,a4,⟨its,rv,n3,a5⟩,hz,w7⟩
   |true=>
    rw[Q5 rfl]at q7⊢
    refine thn (he fp s H _ s7 σ6 H7 _ I7 q7) λv s8 ⟨y,H8,I8,r8,hz8,q8⟩=>?_
    obtain⟨m',hm,w8⟩:=hN _ _ q8
    obtain⟨a1,a2,a3,a4,a5⟩:=again I8
    refine wpAny_list_append_plain (s:=s8) (l:=s.heap.objs.size) (items:=its.toArray) ⟨n3,a5⟩ (λh9 hl9 hs9=>?_) (by have:=rv.length;simp;omega)
    have I9:Inv (X.comp (lcN X.N own ix) scope fp s H) [] (dH own.length ix σ) H8 {s8 with heap:=h9}:=a1.turned (t':=s8.toks) (it:=s.heap.objs.size) (λb o hb e=>hs9.extBut b o hb e) a4 (nss _)
     (.inr (π _)) (λx c e=>nlt (cellLt x c (sub x c e))) (λp hp=>absurd (show p∈([]:List (Addr×Obj))from hp) ())
    refine⟨m',hm,i+1,ys++[y],H8,I9,T.keep _ _ _ a2 (λb hb o e=>hs9.extBut b o (nlt (hlt b hb)) e),a3,a4,⟨its++[v],aF.append rv (.cons r8 .nil),?_⟩,?_,w8⟩
    ·have e:(its++[v]).toArray=its.toArray.push v:=by simp
     rw[e]
     exact hl9
    ·rw[Η]
     show _+1<=_
     omega
 show codeAny _ _ (.compStart _ 0 (.ref it) (.ref s.heap.objs.size) _) (RR (.ref s.heap.objs.size) h2.objs.size) _
 rw[hC]
 have e2:=env_eq
 rw[hC]at e2
 refine Eq.mpr (congrArg (λe=>codeAny (model X.prog X.w) X.A (.compStart (.ListComp elt [⟨tg,iter,ifs,0⟩] scope pos) 0 (.ref it) (.ref s.heap.objs.size) e) (RR (.ref s.heap.objs.size) (s.heap.objs.size+1)) {s with heap:=h₁,toks:=s.toks+([]:List (Str×ζ)).length}) e2) ?_
 exact codeAny_compStart_list loop (T.self X.A 0 _ _ _ (T.keep _ _ _ st λb _ o e=>old b o e) loop)
end
section
variable{X:Cx}{scope:EU}{own:List Str}{ix:List Nat}
def tLC(wi:TI)(k:Nat)(ix:List Nat)(g:TG)(tt:TT)(te:TE):TE:=λσ H Q=>wi σ H λJ H1=>rLC J k ix g tt te σ H1 λys H'=>∀a,H' a=none->Q (.ref a) (upd H' a (.lst ys))
theorem Inv.clos{pins:List (Addr×Obj)}{σ:St}{H:Hp}{s:ι}(I:Inv X pins σ H s)(L:dJ X.N X.env.scope scope own ix):closureFor scope X.env=pure (aU X.env scope.names []):=
 ql λx hx hf=>I.ok.has x.1 (L.free x hx hf)
theorem pe_lc{elt tg iter:Expr}{ifs:List Expr}{pos:Pos}{wi:TI}{g:TG}{tt:TT}{te:TE}(hi:PI X tg iter wi)(L:dJ X.N X.env.scope scope own ix)(hc:X.calm=true)
  (hg:∀fp s H,PG (X.comp (lcN X.N own ix) scope fp s H) tg g) (gw:GW own.length g) (ht:∀fp s H,PIf (X.comp (lcN X.N own ix) scope fp s H) ifs tt) (he:∀fp s H,PE (X.comp (lcN X.N own ix) scope fp s H) elt te)
  (hs:∀x,foldedSetIterable iter X.env x=pure x:=by intro _;rfl):PE X (.ListComp elt [⟨tg,iter,ifs,0⟩] scope pos) (tLC wi own.length ix g tt te):=by
 intro pins s σ H Q I h
 rw[eval_ListComp]
 refine wpAny_comprehension_free (use:=none) rfl hs (I.clos L) L.kind L.names (thn (hi pins s σ H _ I h) λv s1 h1=>thn h1 λitv s2 h2=>?_)
 obtain⟨it,fp,tn,J,H2,e,I2,T,st2,f2,hw⟩:=h2
 subst e
 refine pN (RR:=λacc C=>compPost (model X.prog X.w) X.A X.xe none (EP X pins σ Q) acc C) L hc hg gw ht he I2 T st2 f2 hw ?_
 intro D C s' ys H' m hn c1 c2 c3 c4 c5 d I' q
 exact⟨m,hn,λh' hs'=>⟨.ref D,_,I'.turned (t':=s'.toks) (it:=C) (λb o hb e=>hs'.extBut b o hb e) c5 c1 (.inr c3) c2 c4,rfl,q D d⟩⟩
theorem ps_lc{elt tg iter:Expr}{ifs:List Expr}{pos spos py:Pos}{wi:TI}{g:TG}{tt:TT}{te:TE}{i:Nat}{y:Str}(hN:X.N.Nodup)(hy:X.N[i]?=some y)(hx:X.env.scope.names.lookup y=some .local)(hi:PI X tg iter wi)(L:dJ X.N X.env.scope scope own ix)(hc:X.calm=true)
  (hg:∀fp s H,PG (X.comp (lcN X.N own ix) scope fp s H) tg g) (gw:GW own.length g) (ht:∀fp s H,PIf (X.comp (lcN X.N own ix) scope fp s H) ifs tt) (he:∀fp s H,PE (X.comp (lcN X.N own ix) scope fp s H) elt te)
  (hsw:swapsWith (.ListComp elt [⟨tg,iter,ifs,0⟩] scope pos) (some (.Name y py)) spos.line X.env=pure true:=by rfl)
  (hs:∀x,foldedSetIterable iter X.env x=pure x:=by intro _;rfl):PS X (.Assign [.Name y py] (.ListComp elt [⟨tg,iter,ifs,0⟩] scope pos) spos) (Cp (tLC wi own.length ix g tt te) (dE i)):=by
 intro pins s σ H Dn I h
 rw[exec_Assign_Name_used _ _ _ _ hsw]
 refine η (wpAny_standAt (η ?_))
 show wpAny _ X.A (do let _ <-comprehension (.ListComp elt [⟨tg,iter,ifs,0⟩] scope pos) scope X.env _ (newList []) false (eval iter X.env) (some (assign (.Name y py) X.env))) _ _ s
 refine η (thn (wpAny_comprehension_free (use:=some (assign (.Name y py) X.env)) (Q:=λ_ s'=>SP X pins Dn .next s') rfl hs (I.clos L) L.kind L.names
  (thn (hi pins s σ H _ I h) λv s1 h1=>thn h1 λitv s2 h2=>?_)) λ_ s' hq=>ω (ω hq))
 obtain⟨it,fp,tn,J,H2,e,I2,T,st2,f2,hw⟩:=h2
 subst e
 refine pN (RR:=λacc C=>compPost (model X.prog X.w) X.A X.xe (some (assign (.Name y py) X.env)) (λ_ s'=>SP X pins Dn .next s') acc C) L hc hg gw ht he I2 T st2 f2 hw ?_
 intro D C s' ys H' m hn c1 c2 c3 c4 c5 d I' q
 show wpAny _ X.A (assign (.Name y py) X.env (.ref D)) _ _ s'
 refine wpAny_assign_Name (nI I' hN hy (.inl hx) (v:=.ref D) rfl (λs2 I2 ⟨a,hs2,ha⟩=>?_) (.inr hx))
 have aC:a≠C:=by
  rcases ha with rfl|ha
  ·exact ϋ c1
  ·exact c2 y a ha
 refine⟨m,hn.sameBut hs2 (ϋ aC),λh' hs'=>?_⟩
 exact⟨_,_,I2.turned (t':=s2.toks) (it:=C) (λb o hb e=>hs'.extBut b o hb e) c5 c1 (.inr c3) c2 c4,q D d⟩
end
section
variable{k:Nat}{ix:List Nat}{g:TG}{tt:TT}{te:TE}{σ:St}{H1:Hp}{Q:List V->Hp->Prop}
def cO(k:Nat)(ix:List Nat)(g:TG)(tt:TT)(te:TE)(σ:St)(x:V)(ys:List V)(H:Hp)(N:List V->Hp->Prop):Prop:=
 g x (dH k ix σ) H λσ2 H2=>tt σ2 H2 λc H3=>if c=true then te σ2 H3 λy H4=>ys.length<sizeLine/\N (ys++[y]) H4 else N ys H3
theorem jN{J:It}{n:Nat}(Pv:Nat->List V->Hp->Prop)(h0:Pv 0 [] H1)(hgo:∀i ys H,i<n->Pv i ys H->J.go i H)(hst:∀ys H,Pv n ys H->J.stop n H)
  (hs:∀i ys H x H',i<n->Pv i ys H->J.yld i H x H'->cO k ix g tt te σ x ys H' (Pv (i+1))) (hd:∀ys H,Pv n ys H->Q ys H):rLC J k ix g tt te σ H1 Q:=by
 refine⟨λi m ys H=>m=n-i/\i<=n/\Pv i ys H,⟨n,(),ϊ _,h0⟩,?_⟩
 rintro i m ys H ⟨rfl,hi,p⟩
 by_cases hlt:i<n
 ·exact .inr ⟨hgo i ys H hlt p,Pv (i+1),λys' H' q=>⟨n-(i+1),(),rfl,hlt,q⟩,λx H' y=>hs i ys H x H' hlt p y⟩
 ·have e:i=n:=by omega
  subst e
  exact .inl ⟨hst ys H p,hd ys H p⟩
theorem kK{lo:Int}{n:Nat}(Pv:Nat->List V->Hp->Prop)(h0:Pv 0 [] H1)(hs:∀i ys H,i<n->Pv i ys H->cO k ix g tt te σ (.int (lo+i)) ys H (Pv (i+1)))
  (hd:∀ys H,Pv n ys H->Q ys H):rLC (Itr lo n) k ix g tt te σ H1 Q:=
 jN (n:=n) Pv h0 (λi _ _ h _=>h) (λ_ _ _=>π _) (λi ys H x H' h p y=>by
  obtain⟨e,y⟩:=y
  subst e y
  exact hs i ys _ h p) hd
theorem dL{K:ε}{a:Addr}{xs:List V}(Pv:Nat->List V->Hp->Prop)(h0:Pv 0 [] H1)(hl:∀i ys H,i<=xs.length->Pv i ys H->SqL K H a xs)
  (hs:∀i ys H x,xs[i]?=some x->Pv i ys H->cO k ix g tt te σ x ys H (Pv (i+1))) (hd:∀ys H,Pv xs.length ys H->Q ys H):rLC (Itl K a) k ix g tt te σ H1 Q:=
 jN (n:=xs.length) Pv h0 (λi ys H h p=>⟨xs,xs[i],hl i ys H (u_ h) p,by simp[h]⟩) (λys H p=>⟨xs,hl _ ys H (π _) p,π _⟩) (λi ys H x H' h p y=>by
  obtain⟨e,y⟩:=y
  subst e
  exact hs i ys _ x (y xs (hl i ys _ (u_ h) p)) p) hd
theorem iA{K:ε}{a:Addr}{xs:List V}(Pv:Nat->List V->Hp->Prop)(h0:Pv 0 [] H1)(hl:∀i ys H,i<=xs.length->Pv i ys H->SqT K H a xs)
  (hs:∀i ys H x,xs[i]?=some x->Pv i ys H->cO k ix g tt te σ x ys H (Pv (i+1))) (hd:∀ys H,Pv xs.length ys H->Q ys H):rLC (Itt K a) k ix g tt te σ H1 Q:=
 jN (n:=xs.length) Pv h0 (λi ys H h p=>⟨xs,xs[i],hl i ys H (u_ h) p,by simp[h]⟩) (λys H p=>⟨xs,hl _ ys H (π _) p,π _⟩) (λi ys H x H' h p y=>by
  obtain⟨e,y⟩:=y
  subst e
  exact hs i ys _ x (y xs (hl i ys _ (u_ h) p)) p) hd
end
def Itf(f:Nat->V)(n:Nat):It:=⟨λi _=>i<n,λi H x H'=>H'=H/\x=f i,λi _=>i=n⟩
theorem lP{P:χ}{w:Ρ}{K:ε}{tg:Expr}{it:Addr}{n:Nat}{Pv:Nat->ζ->Prop}{tn:Nat->Heap->Prop}{f:Nat->V}
  (W:∀A:ό,A.handled=none->Walks P w A it [it] [it] n Pv tn) (ob:∀i h,tn i h->∃o nm vs,h.get? it=some o/\o.cls=.type nm/\o.data=.fields vs/\["enumerate","zip","dict_itemiterator","dict_reverseitemiterator","odict_iterator","itertools.zip_longest","itertools.pairwise"].contains nm=false)
  (rel:∀i v,Pv i v->aL (f i) v) (hself:∀(A:ό)(i:Nat)(s:ι)(Q:ζ->ι->Prop)(E:ζ->ι->Prop),tn i s.heap->Q (.ref it) s->wpAny (model P w) A (pyIter (.ref it)) Q E s):gY P w K tg (Itf f n) [it] it tn where
 mem:=by simp
 obj:=λi h st b hb=>by
  have e:b=it:=by simpa using hb
  subst e
  obtain⟨o,nm,vs,e,_,d,_⟩:=ob i h st
  exact⟨o,e,λv z=>by rw[d]at z;cases z⟩
 keep:=λi h h' st k=>by
  by_cases hA:∃A:ό,A.handled=none
  ·obtain⟨A,hA⟩:=hA
   exact(W A hA).frame i h h' st k
  ·exact absurd ⟨callerA,rfl⟩ hA
 item:=by
  intro X hP hw hK hc i pins s σ H E I hf st hg
  subst hP hw hK
  obtain⟨f0,f1,f2,f3,f4,f5⟩:=hf it ()
  refine(W X.A (I.ok.hd hc)).item i s _ _ hg st λv h' tk hv st' kk=>?_
  have I1:Inv X pins σ H {s with heap:=h',toks:=tk}:=I.turned (λb o hb e=>kk b o (by simpa using hb) e) f0 f1 f3 f4 f5
  obtain⟨o,nm,vs,e,c,d,hn⟩:=ob _ _ st'
  exact⟨v,rfl,vV (s:={s with heap:=h',toks:=tk}) e c d hn ⟨f i,H,I1,rel i v hv,⟨rfl,rfl⟩,st',λb hb=>(hf b hb).1⟩⟩
 done:=by
  intro X hP hw hK hc i pins s σ H E I hf st hg
  subst hP hw hK
  obtain⟨f0,f1,f2,f3,f4,f5⟩:=hf it ()
  have e:i=n:=hg
  subst e
  exact(W X.A (I.ok.hd hc)).done s _ _ st λh' tk kk=>⟨rfl,I.turned (λb o hb e=>kk b o (by simpa using hb) e) f0 f1 f3 f4 f5⟩
 self:=hself
section
variable{X:Cx}{tg:Expr}
theorem Inv.fp1{pins:List (Addr×Obj)}{σ:St}{H:Hp}{s:ι}(I:Inv X pins σ H s):∀b∈[s.heap.objs.size],mh X pins H b:=λb hb=>by
 have e:b=s.heap.objs.size:=by simpa using hb
 subst e
 exact I.fpOk (π _) (I.hok.fresh (π _))
def pQ(x:Str)(i:Nat):V:=.str ⟨#[x.cps.getD i 0]⟩
def Ei(ts:TE):TI:=λσ H R=>ts σ H λx H1=>∃z,x=.str z/\R (Itf (pQ z) z.cps.size) H1
theorem pi_str{e:Expr}{ts:TE}(hl:PE X e ts):PI X tg e (Ei ts):=by
 intro pins s σ H R I h
 refine thn (hl pins s σ H _ I h) λv s1 ⟨x,H1,I1,r1,q1⟩=>?_
 obtain⟨z,e,q⟩:=q1
 subst e
 obtain⟨t,rfl⟩:=r1
 have rel:∀i v,SignAt z i v->aL (pQ z i) v:=λi v ⟨c,u,hc,hv⟩=>by
  subst hv
  refine⟨u,?_⟩
  have e:z.cps.getD i 0=c:=by rw[q9,hc];rfl
  rw[e]
 cases ha:z.cps.all (· < 128)with
 |false=>
  refine wpAny_pyIter_wide ha ?_
  exact⟨s1.heap.objs.size,[s1.heap.objs.size],_,_,H1,rfl,I1.kept (t':=s1.toks) λb o e=>ρ _ e,
   lP (λA hA=>Walks.strWide hA _ z t) (λi h ⟨o,e,c,d⟩=>⟨o,"str_iterator",_,e,c,d,()⟩) rel (λA i s Q E st hq=>wpAny_pyIter_striter_wide st hq),⟨_,Λ _ rfl,rfl,rfl⟩,λb hb=>I1.fp1 b hb,q⟩
 |true=>
  refine wpAny_pyIter_ascii ha ?_
  exact⟨s1.heap.objs.size,[s1.heap.objs.size],_,_,H1,rfl,I1.kept (t':=s1.toks) λb o e=>ρ _ e,
   lP (λA hA=>Walks.strAscii hA _ z t) (λi h ⟨o,e,c,d⟩=>⟨o,"str_ascii_iterator",_,e,c,d,()⟩) rel (λA i s Q E st hq=>wpAny_pyIter_striter_ascii st hq),⟨_,Λ _ rfl,rfl,rfl⟩,λb hb=>I1.fp1 b hb,q⟩
theorem KV.at{kvs:List (Key×V)}{vs:List (Key×ζ)}(r:KV kvs vs){i:Nat}{k:Key}{v:ζ}(e:vs[i]?=some (k,v)):∃x,kvs[i]?=some (k,x)/\aL x v:=by
 induction r generalizing i with
 |nil=>simp at e
 | @cons p q ps qs h t ih=>
  cases i with
  |zero=>
   have e':q=(k,v):=by simpa using e
   obtain⟨p1,p2⟩:=p
   subst e'
   obtain⟨h1,h2⟩:=h
   have h1':p1=k:=h1
   subst h1'
   exact⟨p2,rfl,h2⟩
  |succ i=>exact ih (by simpa using e)
theorem Do{P:χ}{w:Ρ}{k:Key}{u:ζ}(h:(aS P w).is k u=true):aL (kV k) u:=by
 rcases bg (k:=k) (v:=u) h with ⟨i,t,rfl,rfl⟩|⟨x,t,rfl,rfl⟩
 ·exact⟨t,rfl⟩
 ·exact⟨t,rfl⟩
def Ite(K:ε)(a:Addr):It:=
 ⟨λi H=>∃xs x,SqL K H a xs/\xs[i]?=some x,λi H x H'=>∃p y,H p=none/\H'=upd H p (.tup [.int i,y])/\x=.ref p/\∀xs,SqL K H a xs->xs[i]?=some y,λi H=>∃xs,SqL K H a xs/\xs.length<=i⟩
theorem xf{P:χ}{w:Ρ}{K:ε}{elts:List Expr}{x1}{tp:Pos}(a e it:Addr)(hei:e≠it):gY P w K (.Tuple elts x1 tp) (Ite K a) [e,it] e (λi h=>(∃old,IsEnum h e it i old)/\h.IsListIter it a i) where
 mem:=by simp
 obj:=λi h st b hb=>by
  obtain⟨⟨old,s1⟩,⟨o,e2,c,d⟩⟩:=st
  rcases ν.mp hb with rfl|hb
  ·exact⟨_,s1,λv z=>by
    have z':FU _=B0 v:=z
    cases z'⟩
  ·have e':b=it:=by simpa using hb
   subst e'
   exact⟨o,e2,λv z=>by rw[d]at z;cases z⟩
 keep:=λi h h' st k=>⟨let ⟨old,s1⟩:=st.1;⟨old,k e () _ s1⟩,st.2.at λo q=>k it () o q⟩
 item:=by
  intro X hP hw hK hc i pins s σ H E I hf st hg
  subst hP hw hK
  obtain⟨xs,x,hq,hx⟩:=hg
  obtain⟨its,rv,p,hz⟩:=I.list hq
  obtain⟨u,hu,ru⟩:=rv.get hx
  obtain⟨f0,f1,f2,f3,f4,f5⟩:=hf e ()
  obtain⟨g0,g1,g2,g3,g4,g5⟩:=hf it ()
  obtain⟨⟨old,s1⟩,s2⟩:=st
  have he:e<s.heap.objs.size:=Β s1
  have hit:it<s.heap.objs.size:=by obtain⟨o,q,_⟩:=s2;exact Β q
  refine wpAny_pyNext_enum_item s1 s2 p.isList (x:=u) (by simpa using hu) hei λh1 heo hit1 ht1 hz1 hk1=>?_
  refine⟨_,rfl,wpAny_letOwnedTupleGo_enum heo λh2 he2 hs2=>?_⟩
  have hn:H s.heap.objs.size=none:=I.hok.fresh (π _)
  have keep:∀b o,b≠e->b≠it->s.heap.get? b=some o->h2.get? b=some o:=λb o h1' h2' q=>(hs2.2 b h1').trans (hk1 b o h1' h2' q)
  have tup:h2.get? s.heap.objs.size=some {cls:=.type "tuple",data:=.seq #[.int i s.toks,u]}:=(hs2.2 _ (ngt he)).trans ht1
  have I2:Inv X pins σ (upd H s.heap.objs.size (.tup [.int i,x])) {s with heap:=h2,toks:=s.toks+1}:=by
   have nitx:∀b v,H b=some v->b≠e/\b≠it:=λb v q=>⟨(λz=>by rw[z,f0]at q;cases q),(λz=>by rw[z,g0]at q;cases q)⟩
   refine I.step (g':=s.gens) (d':=s.drawn) (ch:=[e,it]) (λb hb=>?_) (λb o _ _ hc' q _=>keep b o (λz=>hc' (by simp[z])) (λz=>hc' (by simp[z])) q) (λb o _ _ hc' q _=>⟨o.slots,keep b o (λz=>hc' (by simp[z])) (λz=>hc' (by simp[z])) q⟩)
    (λb o _ q n=>by rw[ao (nlt (Β q))];exact n) (λb o hc' q=>⟨o,keep b o (λz=>hc' (by simp[z])) (λz=>hc' (by simp[z])) q⟩)
    (λb xs q=>by rw[ao (ah q hn)];exact q) (λb o v q=>by rw[ao (ah q hn)];exact q) (λb ps q=>⟨#[],by rw[ao (ah q hn),q];simp⟩) (λm hm=>?_) (λb v q=>?_) I.bare
   ·rcases ν.mp hb with rfl|hb
    ·exact⟨f3,f1,f4,f5⟩
    ·have e':b=it:=by simpa using hb
     subst e'
     exact⟨g3,g1,g4,g5⟩
   ·obtain⟨o,es,ep,ho,r⟩:=hm
    exact⟨o,es,ep,keep _ o (ϋ f1) (ϋ g1) ho,r⟩
   ·by_cases hb:b=s.heap.objs.size
    ·subst hb
     rw[aa]at q
     cases q
     exact⟨(show 2<=sizeLine by rw[θ];decide),[.int i s.toks,u],.cons ⟨_,rfl⟩ (.cons ru .nil),⟨_,tup,rfl,0,rfl⟩,_,tup,rfl⟩
    ·rw[ao hb]at q
     refine(I.hok b v q).stay (λc w' hc' q'=>?_) (λc q'=>by rw[ao (ah q' hn)];exact q') λc xs q'=>by rw[ao (ah q' hn)];exact q'
     rcases hc' with z|z
     ·subst z;exact keep c w' (nitx c v q).1 (nitx c v q).2 q'
     ·exact keep c w' (nitx c _ z).1 (nitx c _ z).2 q'
  refine⟨.ref s.heap.objs.size,_,I2,rfl,⟨_,x,hn,rfl,rfl,λys hy=>by rw[I.list_inj hy hq];exact hx⟩,⟨⟨u,?_⟩,?_⟩,λb hb=>?_⟩
  ·have e1:((i+1:Nat):Int)=(i:Int)+1:=by omega
   rw[e1]
   exact he2
  ·exact hit1.at λo q=>(hs2.2 _ (ϋ hei)).trans q
  ·have hb':b<s.heap.objs.size:=by
    rcases ν.mp hb with rfl|hb
    ·exact he
    ·have e':b=it:=by simpa using hb
     subst e';exact hit
   rw[ao (nlt hb')]
   exact(hf b hb).1
 done:=by
  intro X hP hw hK hc i pins s σ H E I hf st hg
  subst hP hw hK
  obtain⟨xs,hq,hx⟩:=hg
  obtain⟨its,rv,p,hz⟩:=I.list hq
  obtain⟨g0,g1,g2,g3,g4,g5⟩:=hf it ()
  obtain⟨⟨old,s1⟩,s2⟩:=st
  have hl:=rv.length
  exact wpAny_pyNext_enum_end (I.ok.hd hc) s1 s2 p.isList (by simp;omega) λh' eb=>⟨rfl,I.turned (t':=s.toks) (λb o hb q=>eb b o hb q) g0 g1 g3 g4 g5⟩
 self:=λA i s Q E st h=>by
  obtain⟨⟨old,s1⟩,s2⟩:=st
  have hT:s.TypeIs (.ref e) "enumerate":=⟨_,s1,rfl⟩
  refine wpAny_pyIter_slot hT Fo (a9 Fo hT PySem.F.entry_enumerate_iter ?_ (PySem.F.args_enumerate_iter_1 _))
  show wpAny _ _ (ret (.ref e)) _ _ s
  exact ω ⟨_,rfl,"enumerate",_,hT,PySem.F.slot_enumerate_next.lookup,h⟩
def DD(K:ε)(ta:TA):TI:=λσ H R=>ta σ H λvs H1=>∃a,vs=[.ref a]/\(∃xs,SqL K H1 a xs)/\R (Ite K a) H1
theorem pi_enum{a:Expr}{ta:TA}{p pos:Pos}{elts:List Expr}{x1}{tp:Pos}(hg:Gl X "enumerate")(hm:X.mg "enumerate"=none)(ha:PA X [a] ta)(hs:starEach [a] X.env=[(false,eval a X.env)]:=by rfl):PI X (.Tuple elts x1 tp) (.Call (.Name "enumerate" p) [a] [] pos) (DD X.K ta):=by
 intro pins s σ H R I h
 refine Call_ (fc I hg hm (u:=.type "enumerate") () (b_ (thn (ha pos pins s σ H _ I h) λus s1 ⟨vs,H1,I1,r1,q1⟩=>?_) hs rfl))
 obtain⟨l,e,⟨xs,hq⟩,q⟩:=q1
 subst e
 cases r1 with
 |cons r rr=>
  cases rr
  cases r
  obtain⟨its,rv,p,hz⟩:=I1.list hq
  refine call_enumerate_list p.isList λh' he hit hsz kp=>?_
  have I2:Inv X pins σ H1 {s1 with heap:=h'}:=I1.kept (t':=s1.toks) kp
  have T:gY X.prog X.w X.K (.Tuple elts x1 tp) (Ite X.K l) [s1.heap.objs.size+1,s1.heap.objs.size] (s1.heap.objs.size+1) (λi h=>(∃old,IsEnum h (s1.heap.objs.size+1) s1.heap.objs.size i old)/\h.IsListIter s1.heap.objs.size l i):=xf l _ _ (CP _)
  refine T.self X.A 0 {s1 with heap:=h'} _ _ ⟨⟨_,he⟩,hit⟩ ?_
  refine⟨s1.heap.objs.size+1,_,_,_,H1,rfl,I2,T,⟨⟨_,he⟩,hit⟩,λb hb=>?_,q⟩
  have hb':s1.heap.objs.size<=b:=by
   rcases ν.mp hb with rfl|hb
   ·exact FY _
   ·have e':b=s1.heap.objs.size:=by simpa using hb
    subst e';exact π _
  obtain⟨f0,f1⟩:=I1.fpOk hb' (I1.hok.fresh hb')
  exact⟨f0,f1⟩
end
section
variable{X:Cx}
theorem dX:OpR X (compareOp .LtE) (λx y H Q=>∃i j,x=.str i/\y=.str j/\Q (.bl (!decide (j.cps.toList<i.cps.toList))) H):=by
 intro pins s σ H x y v u Q I rx ry h
 obtain⟨i,j,rfl,rfl,q⟩:=h
 obtain⟨t,rfl⟩:=rx
 obtain⟨t',rfl⟩:=ry
 exact PySem.P.le_str (aO I q rfl)
theorem oO{s:ι}{h':Heap}{o:Obj}(hk:∀b x,b∉[s.heap.objs.size]->(s.heap.push o).get? b=some x->h'.get? b=some x)(b:Addr)(x:Obj)(e:s.heap.get? b=some x):h'.get? b=some x:=
 hk b x (λz=>by rw[ξ.mp z]at e;exact x9 _ (Β e)) (ρ _ e)
theorem rk:∀{bs:List Bool}{us:List ζ},aF (bs.map V.bl) us->∀(i:Nat)(v:ζ),us[i]?=some v->∃b,bs[i]?=some b/\v=.bool b
 |[],_,.nil,i,v,e=>by simp at e
 |b::bs,u::us,.cons r t,0,v,e=>by
  have e':u=v:=by simpa using e
  subst e'
  exact⟨b,rfl,r⟩
 |b::bs,u::us,.cons r t,i+1,v,e=>rk (bs:=bs) t i v (by simpa using e)
theorem de(hc:X.calm=true):cK X (.builtin "all") (λxs H Q=>∃(a:Addr) (bs:List Bool),xs=[.ref a]/\SqL X.K H a (bs.map V.bl)/\Q (.bl (bs.all id)) H):=by
 intro pins s σ H xs us Q I r h
 obtain⟨a,bs,rfl,hq,q⟩:=h
 obtain⟨u,rfl,ru⟩:=dA r
 cases ru
 obtain⟨its,rv,p,hz⟩:=I.list hq
 have hl:=p.isList
 have hlt:a<s.heap.objs.size:=by obtain⟨_,e,_⟩:=hl;exact Β e
 refine call_all_walk (FV hl ?_)
 refine⟨s.heap.objs.size,[s.heap.objs.size,a],[s.heap.objs.size],its.toArray.size,_,_,λi=>(bs[i]?).getD true,rfl,Walks.list (A:=X.A.in1) (I.ok.hd hc) _ a (Ϣ hlt) its.toArray,
  ⟨⟨_,Λ _ rfl,rfl,rfl⟩,hl.push _⟩,λi v s' Q' E' hP hQ=>?_,λh' tk hk=>?_⟩
 ·obtain⟨b,e,rfl⟩:=rk rv i v (by simpa using hP)
  simp only[e,Option.getD_some]at hQ
  exact a_ hQ
 ·have hlen:=rv.length
  have e:((Ϝ its.toArray.size).all λi=>(bs[i]?).getD true)=bs.all id:=by
   rw[Δ,<-hlen,δ,o9,ϭ,ϭ]
   constructor
   ·intro z b hb
    obtain⟨i,hi,rfl⟩:=Fk hb
    have:=z i (y_.mpr hi)
    simpa[hi]using this
   ·intro z i hi
    have hi':=y_.mp hi
    rw[Α hi']
    exact z _ (j5 hi')
  rw[e]
  exact⟨.bl _,H,I.kept (oO hk),rfl,q⟩
theorem aY:cK X (.builtin "isinstance") (λxs H Q=>∃x t n b,xs=[x,.ty n]/\dS X.K H x t/\a8 X.K t (.type n)=some b/\Q (.bl b) H):=by
 intro pins s σ H xs us Q I r h
 obtain⟨x,t,n,b,rfl,ty,e,q⟩:=h
 obtain⟨u,w',rfl,rx,rn⟩:=mQ r
 cases rn
 exact wU I rx ty e λtk=>⟨.bl b,H,I.tok tk,rfl,q⟩
theorem vB:∀{ys:List Str}{us:List ζ},aF (ys.map V.str) us->StrsAre us ys
 |[],_,.nil=>.nil
 |y::ys,u::us,.cons r t=>by
  obtain⟨k,rfl⟩:=r
  exact .cons y k (vB t)
theorem cz:MtR X "str.join" (λx xs H Q=>∃(z:Str) (a:Addr) (ys:List Str),x=.str z/\xs=[.ref a]/\SqL X.K H a (ys.map V.str)/\(ys.map (·.length)).sum+ys.length*z.length<=16777216/\Q (.str (Txt.join z ys)) H):=by
 intro pins s σ H x xs v us Q I rx r h
 obtain⟨z,a,ys,rfl,rfl,hq,hz,q⟩:=h
 obtain⟨t,rfl⟩:=rx
 obtain⟨u,rfl,ru⟩:=dA r
 cases ru
 obtain⟨its,rv,p,_⟩:=I.list hq
 exact join_list p.isList (by simpa using vB rv) hz λt' k=>⟨.str _,H,I.tok _,⟨_,rfl⟩,q⟩
theorem lH:SlR X (λx lo hi H Q=>∃z,x=.str z/\z.length<=sizeLine/\Q (.str (Txt.slice z lo hi)) H):=by
 intro pins s σ H x v vl vu lo hi sl Q I rx hs pl pu h
 obtain⟨z,rfl,hz,q⟩:=h
 obtain⟨t,rfl⟩:=rx
 refine⟨"str",_,slot_str_getitem.lookup,ER _ _ _,?_⟩
 have fin:(Txt.slice z lo hi).length<=sizeLine/\∀t' k,EP X pins σ Q (.str (Txt.slice z lo hi) t') {s with toks:=k}:=⟨a7 (Txt.slice_le z _ _) hz,λt' k=>⟨.str _,H,I.tok _,⟨_,rfl⟩,q⟩⟩
 cases pl with
 |none=>
  cases pu with
  |none=>exact z_ (l:=none) (u:=none) (st:=none) hs rfl (Fe fin)
  |int j uj=>exact z_ (l:=none) (u:=some (j,uj)) (st:=none) hs rfl (Fe fin)
 |int i ui=>
  cases pu with
  |none=>exact z_ (l:=some (i,ui)) (u:=none) (st:=none) hs rfl (Fe fin)
  |int j uj=>exact z_ (l:=some (i,ui)) (u:=some (j,uj)) (st:=none) hs rfl (Fe fin)
end
open PySem PySem.Spec PyProof.Rows PySem.W
section
variable{cmp:Nat->Nat->(Bool->ι->Prop)->ι->Prop}{lt:Nat->Nat->Bool}{n:Nat}{s:ι}
structure Ord(cmp:Nat->Nat->(Bool->ι->Prop)->ι->Prop)(lt:Nat->Nat->Bool)(n:Nat)(s:ι):Prop where
 ask:∀i j C,i<n->j<n->i≠j->C (lt i j) s->cmp i j C s
 tr:∀i j k,lt i j=true->lt j k=true->lt i k=true
 tot:∀i j,i<n->j<n->i≠j->lt i j=false->lt j i=true
 asym:∀i j,lt i j=true->lt j i=false
structure Re(n:Nat)(p:Array Nat):Prop where
 size:p.size=n
 lt:∀i,i<n->p.getD i 0<n
 inj:∀i j,i<n->j<n->i≠j->p.getD i 0≠p.getD j 0
 perm:p.Perm (List.toArray (Ϝ n))
theorem Re.of_perm{p:Array Nat}(h:p.Perm (List.toArray (Ϝ n))):Re n p:=by
 have hs:p.size=n:=by have:=h.size_eq;simpa using this
 have hl:p.toList.Perm (Ϝ n):=by simpa using B7.mp h
 have nd:p.toList.Nodup:=(List.Perm.nodup_iff hl).mpr List.nodup_range
 have get:∀i,(hi:i<n)->p.getD i 0=p.toList[i]'(by simpa[hs]using hi):=λi hi=>by
  simp[Array.getD,hs,hi]
 refine⟨hs,λi hi=>?_,λi j hi hj hij e=>?_,h⟩
 ·have hm:p.getD i 0∈p.toList:=by rw[get i hi];exact j5 _
  exact y_.mp ((List.Perm.mem_iff hl).mp hm)
 ·rw[get i hi,get j hj]at e
  exact hij ((E5 nd).mp e)
def Up(lt:Nat->Nat->Bool)(p:Array Nat)(m:Nat):Prop:=∀i j,i<j->j<m->lt (p.getD i 0) (p.getD j 0)=true
def Dn(lt:Nat->Nat->Bool)(p:Array Nat)(m:Nat):Prop:=∀i j,i<j->j<m->lt (p.getD j 0) (p.getD i 0)=true
theorem Up.next{p:Array Nat}{m:Nat}(O:Ord cmp lt n s)(h:Up lt p m)(h1:1<=m)(hq:lt (p.getD (m-1) 0) (p.getD m 0)=true):Up lt p (m+1):=λi j hij hj=>by
 by_cases e:j=m
 ·subst e
  by_cases e2:i=j-1
  ·subst e2;exact hq
  ·exact O.tr _ _ _ (h i (j-1) () ()) hq
 ·exact h i j hij ()
theorem Dn.next{p:Array Nat}{m:Nat}(O:Ord cmp lt n s)(h:Dn lt p m)(h1:1<=m)(hq:lt (p.getD m 0) (p.getD (m-1) 0)=true):Dn lt p (m+1):=λi j hij hj=>by
 by_cases e:j=m
 ·subst e
  by_cases e2:i=j-1
  ·subst e2;exact hq
  ·exact O.tr _ _ _ hq (h i (j-1) () ())
 ·exact h i j hij ()
theorem tF{p:Array Nat}{Q:Nat->ι->Prop}(O:Ord cmp lt n s)(r:Re n p):∀(f m:Nat),1<=m->m+f<=n->Up lt p m->(∀m',m<=m'->m'<=m+f->Up lt p m'->(m'=m+f\/lt (p.getD m' 0) (p.getD (m'-1) 0)=true)->Q m' s)->(kas_asc p f m).kasWp cmp Q s
 |0,m,h1,hm,u,q=>q m (π _) (π _) u (.inl rfl)
 |f+1,m,h1,hm,u,q=>by
  show cmp _ _ _ s
  refine O.ask _ _ _ (r.lt m ()) (r.lt (m-1) ()) (r.inj _ _ () () ()) ?_
  cases c:lt (p.getD m 0) (p.getD (m-1) 0)with
  |true=>
   show(KasT.ret m).kasWp cmp Q s
   exact q m (π _) () u (.inr c)
  |false=>
   show(kas_asc p f (m+1)).kasWp cmp Q s
   have hq:=O.tot _ _ (r.lt m ()) (r.lt (m-1) ()) (r.inj _ _ () () ()) c
   refine tF O r f (m+1) () () (u.next O h1 hq) λm' a b c d=>q m' () () c ?_
   rcases d with d|d
   ·exact .inl ()
   ·exact .inr d
theorem vz{p:Array Nat}{Q:Array Nat×Nat×Nat->ι->Prop}(O:Ord cmp lt n s)(r:Re n p):∀(f m:Nat),1<=m->m+f<=n->Dn lt p m->(∀m',m<=m'->m'<=m+f->Dn lt p m'->Q (p,m',0) s)->(kas_desc f p m 0).kasWp cmp Q s
 |0,m,h1,hm,u,q=>q m (π _) (π _) u
 |f+1,m,h1,hm,u,q=>by
  show cmp _ _ _ s
  refine O.ask _ _ _ (r.lt m ()) (r.lt (m-1) ()) (r.inj _ _ () () ()) ?_
  cases c:lt (p.getD m 0) (p.getD (m-1) 0)with
  |true=>
   show(kas_desc f p (m+1) 0).kasWp cmp Q s
   exact vz O r f (m+1) () () (u.next O h1 c) λm' a b c=>q m' () () c
  |false=>
   show cmp _ _ _ s
   refine O.ask _ _ _ (r.lt (m-1) ()) (r.lt m ()) (r.inj _ _ () () ()) ?_
   rw[O.tot _ _ (r.lt m ()) (r.lt (m-1) ()) (r.inj _ _ () () ()) c]
   show(KasT.ret (p,m,0)).kasWp cmp Q s
   exact q m (π _) () u
theorem vN{p:Array Nat}{m k:Nat}(hm:m<=p.size):(kas_rev p 0 m).getD k 0=if k<m then p.getD (m-1-k) 0 else p.getD k 0:=by
 have h:=getElem?_mirror_all (xs:=p) (i:=0) (j:=m) hm k
 have e1:∀(a:Array Nat)(i:Nat),a.getD i 0=(a[i]?).getD 0:=λa i=>by rw[q9]
 rw[e1]
 unfold kas_rev
 rw[h]
 by_cases hk:k<m
 ·rw[Q5 hk]
  simp only[e1]
  rw[Q5 ()]
  congr 2
  omega
 ·rw[Q6 hk]
  simp only[e1]
  rw[Q6 ()]
theorem yk{p:Array Nat}{m:Nat}(r:Re n p):Re n (kas_rev p 0 m):=Re.of_perm ((mirror_perm p 0 m _).trans r.perm)
theorem xW{Q:Nat×Array Nat->ι->Prop}{p:Array Nat}(O:Ord cmp lt n s)(r:Re n p)(h2:2<=n)(q:∀m p',Re n p'->1<=m->m<=n->Up lt p' m->Q (m,p') s):(kas_count n p).kasWp cmp Q s:=by
 unfold kas_count
 rw[EK]
 refine tF O r (n-1) 1 (π _) () (λi j h1 h2=>by omega) λm a b u e=>?_
 by_cases hm:(m==n)=true
 ·rw[Q5 hm]
  exact q m p r a () u
 ·rw[Q6 hm]
  have hmn:m≠n:=by simpa using hm
  by_cases h1:m>1
  ·rw[Q5 h1]
   show cmp _ _ _ s
   refine O.ask _ _ _ (r.lt 0 ()) (r.lt (m-1) ()) (r.inj _ _ () () ()) ?_
   rw[u 0 (m-1) () ()]
   show(KasT.ret (m,p)).kasWp cmp Q s
   exact q m p r a () u
  ·rw[Q6 h1]
   have e1:m=1:=by omega
   subst e1
   have hd:lt (p.getD 1 0) (p.getD 0 0)=true:=by
    rcases e with e|e
    ·omega
    ·exact e
   unfold kas_descPart
   rw[EK]
   refine vz O r (n-(1+1)) (1+1) () () (λi j h1 h2=>?_) λm' a' b' dn=>?_
   ·have:i=0:=by omega
    have:j=1:=by omega
    subst_vars
    exact hd
   ·show(if (0:Nat)>0 then _ else kas_tail3 m' n p).kasWp cmp Q s
    rw[Q6 ()]
    unfold kas_tail3
    rw[EK]
    have up:Up lt (kas_rev p 0 m') m':=λi j hij hj=>by
     rw[vN (by rw[r.size];omega),vN (by rw[r.size];omega),Q5 (),Q5 ()]
     exact dn _ _ () ()
    refine tF O (yk r) (n-m') m' () () up λm2 a2 b2 u2 _=>?_
    exact q m2 _ (yk r) () () u2
theorem ki{p:Array Nat}{k:Nat}{Q:Nat->ι->Prop}(O:Ord cmp lt n s)(r:Re n p)(hk:k<n)(u:Up lt p k)(q:∀l,l<=k->(∀i,i<l->lt (p.getD i 0) (p.getD k 0)=true)->(∀i,l<=i->i<k->lt (p.getD k 0) (p.getD i 0)=true)->Q l s):
  ∀(f l e:Nat),l<=e->e<=k->e-l<=f->(∀i,i<l->lt (p.getD i 0) (p.getD k 0)=true)->(∀i,e<=i->i<k->lt (p.getD k 0) (p.getD i 0)=true)->(kas_place p k f l e).kasWp cmp Q s
 |0,l,e,h1,h2,h3,a,b=>q l () a λi hi hk'=>b i () hk'
 |f+1,l,e,h1,h2,h3,a,b=>by
  show(if l>=e then KasT.ret l else _).kasWp cmp Q s
  by_cases h:l>=e
  ·rw[Q5 h]
   exact q l () a λi hi hk'=>b i () hk'
  ·rw[Q6 h]
   show cmp _ _ _ s
   have hm:(l+e)/2<k:=by omega
   refine O.ask _ _ _ (r.lt k hk) (r.lt _ ()) (r.inj _ _ hk () ()) ?_
   cases c:lt (p.getD k 0) (p.getD ((l+e)/2) 0)with
   |true=>
    show(kas_place p k f l ((l+e)/2)).kasWp cmp Q s
    refine ki O r hk u q f l _ () () () a λi hi hk'=>?_
    by_cases ei:i=(l+e)/2
    ·subst ei;exact c
    ·exact O.tr _ _ _ c (u _ i () hk')
   |false=>
    show(kas_place p k f ((l+e)/2+1) e).kasWp cmp Q s
    have c':=O.tot _ _ (r.lt k hk) (r.lt _ ()) (r.inj _ _ hk () ()) c
    refine ki O r hk u q f _ e () h2 () (λi hi=>?_) b
    by_cases ei:i=(l+e)/2
    ·subst ei;exact c'
    ·exact O.tr _ _ _ (u i _ () hm) c'
theorem uY{p:Array Nat}{k d j:Nat}(hk:k<p.size)(hd:d<=k):(bubble p k d).getD j 0=if j<k-d\/k<j then p.getD j 0 else if j=k-d then p.getD k 0 else p.getD (j-1) 0:=by
 have e1:∀(a:Array Nat)(i:Nat),a.getD i 0=(a[i]?).getD 0:=λa i=>by rw[q9]
 have h:=getElem?_bubble (xs:=p) (src:=k) hk d hd j
 rw[e1,h]
 by_cases a:j=k-d
 ·rw[Q5 a,Q6 (),Q5 a,e1]
 ·rw[Q6 a]
  by_cases b:k-d<j/\j<=k
  ·rw[Q5 b,Q6 (),Q6 a,e1]
  ·rw[Q6 b,Q5 (),e1]
theorem zk{Q:Array Nat->ι->Prop}(O:Ord cmp lt n s)(q:∀p,Re n p->Up lt p n->Q p s):∀(f k:Nat)(p:Array Nat),Re n p->1<=k->k+f=n->Up lt p k->(kas_bin f p k).kasWp cmp Q s
 |0,k,p,r,h1,hn,u=>q p r (by rw[<-hn];exact u)
 |f+1,k,p,r,h1,hn,u=>by
  show((kas_place p k k 0 k).bind λl=>kas_bin f (bubble p k (k-l)) (k+1)).kasWp cmp Q s
  rw[EK]
  refine ki O r () u (λl hl a b=>?_) k 0 k (ϊ _) (π _) () (λi hi=>by omega) (λi h1 h2=>by omega)
  have hks:k<p.size:=by rw[r.size];omega
  refine zk O q f (k+1) _ (Re.of_perm ((bubble_perm p k _).trans r.perm)) () () λi j hij hj=>?_
  rw[uY hks (),uY hks ()]
  have ek:k-(k-l)=l:=by omega
  rw[ek]
  by_cases hi:i<l
  ·rw[Q5 (.inl hi)]
   by_cases hj2:j<l
   ·rw[Q5 (.inl hj2)];exact u i j hij ()
   ·rw[Q6 ()]
    by_cases hj3:j=l
    ·rw[Q5 hj3];exact a i hi
    ·rw[Q6 hj3];exact u i (j-1) () ()
  ·rw[Q6 ()]
   by_cases hi2:i=l
   ·rw[Q5 hi2,Q6 (),Q6 ()]
    exact b (j-1) () ()
   ·rw[Q6 hi2,Q6 (),Q6 ()]
    exact u (i-1) (j-1) () ()
theorem zn{Q:Array Nat->ι->Prop}(O:Ord cmp lt n s)(h2:2<=n)(q:∀p,Re n p->Up lt p n->Q p s):(kas_sort n).kasWp cmp Q s:=by
 unfold kas_sort
 rw[EK]
 refine xW O (Re.of_perm (Array.Perm.refl _)) h2 λm p r h1 hm u=>?_
 show(if m<n then kas_bin (n-max m 1) p (max m 1)else .ret p).kasWp cmp Q s
 have em:max m 1=m:=by omega
 rw[em]
 by_cases h:m<n
 ·rw[Q5 h]
  exact zk O q (n-m) m p r h1 () u
 ·rw[Q6 h]
  have:m=n:=by omega
  subst this
  exact q p r u
end
theorem mr{prog:χ}{w:Ρ}{A:ό}{E:ζ->ι->Prop}{st:ι}{l:Addr}{us:List ζ}{ep:Nat}{R:PySem.Fin->ι->Prop}(at0:st.heap.get? l=some (seqObj "list" us.toArray ep))(few:us.length<2)
  (fin:∀hp ep',(∀b o,b≠l->st.heap.get? b=some o->hp.get? b=some o)->hp.get? l=some (seqObj "list" us.toArray ep')->R (.done (.ret .none)) {st with heap:=hp}):
  wpAny (model prog w) A (v_.«list.sort» ⟨[.ref l],[]⟩) R E st:=by
 have sz:us.toArray.size=us.length:=by simp
 have lt0:l<st.heap.objs.size:=Β at0
 have line:us.length<=sizeLine:=by rw[θ];omega
 rw[list_sort_plain]
 refine η (listItems_at at0 rfl (η (listUpdate_at at0 rfl ?_ (by rw[sz];exact line) (ϊ _))))
 have at1:=get?_update_seq at0 (λ_=>(#[]:Array ζ))
 refine η (seqEpoch_at at1 rfl (η (Gn ?_ (by show us.length<=_;exact line))))
 refine η (wpAny_newList ?_ (ϊ _))
 refine A_ ?_
 rw[Q5 (by rw[sz];exact few),Q5 (by rw[sz];exact few)]
 show wpAny (model prog w) A _ R E {st with heap:=((st.heap.update l (ES λ_=>(#[]:Array ζ))).push (seqObj "tuple" us.toArray 0)).push (seqObj "list" #[] 0)}
 have at2:(((st.heap.update l (ES λ_=>(#[]:Array ζ))).push (seqObj "tuple" us.toArray 0)).push (seqObj "list" #[] 0)).get? l=some (seqObj "list" #[] (if ((#[]:Array ζ).size==us.toArray.size)=true then ep else ep+1)):=by
  rw[EZ _ _ _ (by rw[size_push',E8];exact ue lt0),EZ _ _ _ (by rw[E8];exact nlt lt0)]
  exact at1
 have all:(arrOf (SortSt.mk' general' (us.toArray.zip us.toArray) #[] 7 none)).map (·.2)=us.toArray:=by
  show(us.toArray.zip us.toArray).map (·.2)=us.toArray
  apply Array.ext'
  simp[List.map_snd_zip]
 have at3:=get?_update_seq at2 (λ_=>us.toArray)
 refine η (ω ?_)
 dsimp only
 rw[StateT.run_pure]
 refine η (ω ?_)
 dsimp only
 refine η (seqEpoch_at at2 rfl ?_)
 refine η (listUpdate_at at2 rfl ?_ (ϊ _) (by rw[all,sz];omega))
 simp only[bne_self_eq_false,Bool.false_eq_true,if_false]
 rw[all]
 refine ω (fin _ _ (λb o hb e=>?_) at3)
 rw[Heap.get?_update_ne _ _ _ _ hb,EZ _ _ _ (by rw[size_push',E8];exact ue (Β e)),EZ _ _ _ (by rw[E8];exact nlt (Β e)),Heap.get?_update_ne _ _ _ _ hb]
 exact e
theorem Bt{h:Heap}{a:Addr}{m m':Str->Option ζ}(x:h.Ns a m)(y:h.Ns a m'):m=m':=by
 obtain⟨o,es,ep,e,d,_,f⟩:=x
 obtain⟨o',es',ep',e',d',_,f'⟩:=y
 rw[e]at e'
 cases e'
 rw[d]at d'
 cases d'
 funext z
 rw[<-f z,f' z]
theorem zz{a b:List Nat}(h:¬ a<b)(h2:a≠b):b<a:=by
 by_cases h3:b<a
 ·exact h3
 ·exact absurd (List.le_antisymm (List.not_lt.mp h3) (List.not_lt.mp h)) h2
theorem Al{a b:Str}(h:a.cps.toList=b.cps.toList):a=b:=by
 cases a
 cases b
 congr 1
 exact Array.ext' h
section
variable{X:Cx}{pins:List (Addr×Obj)}{σ:St}{H:Hp}{s:ι}
abbrev TK:=Addr×Str×List V
def xK(p q:TK):Prop:=p.2.1.cps.toList<q.2.1.cps.toList
theorem zZ(ps:List TK):∀(us:List ζ),aF (ps.map λp=>V.ref p.1) us->us=ps.map λp=>ώ p.1:=by
 induction ps with
 |nil=>
  intro us r
  cases r
  rfl
 |cons p ps ih=>
  intro us r
  rw[Χ]at r⊢
  cases r with
  |cons r t=>
   rw[ih _ t,show _=ώ p.1 from r]
theorem iF(ps:List TK):aF (ps.map λp=>V.ref p.1) (ps.map λp=>ώ p.1):=by
 induction ps with
 |nil=>exact .nil
 |cons p ps ih=>exact .cons rfl ih
theorem xx(I:Inv X pins σ H s){a:Addr}{x:Str}{r:List V}(h:H a=some (.tup (.str x::r))):∃(o:Obj) (us:List ζ) (n:Nat) (t:Tok),s.heap.get? a=some o/\o.cls=.type "tuple"/\o.data=.seq (k_ x t::us).toArray n:=by
 obtain⟨_,its,rv,⟨o,e,c,n,d⟩,_⟩:=(show bf X.prog X.w H s.heap a (.tup (.str x::r))from I.hok a _ h)
 cases rv with
 |cons r1 r2=>
  obtain⟨t,rfl⟩:=r1
  exact⟨o,_,n,t,e,c,d⟩
theorem wz{n:Nat}{p:Array Nat}{α:Type}{d:α}{ps:List α}(hn:ps.length=n)(r:Re n p):(p.toList.map λi=>ps.getD i d).Perm ps:=by
 have hl:p.toList.Perm (Ϝ n):=by simpa using B7.mp r.perm
 refine(hl.map _).trans ?_
 have e:(Ϝ n).map (λi=>ps.getD i d)=ps:=by
  apply F1
  intro i
  rw[Ν]
  by_cases hi:i<n
  ·rw[List.getElem?_range hi]
   simp[Gq,show i<ps.length by omega]
  ·rw[k7 (by simpa using hi),k7 ()]
   rfl
 rw[e]
theorem my{n:Nat}{p:Array Nat}{α:Type}{d:α}{ps:List α}{R:α->α->Prop}{lt:Nat->Nat->Bool}(hlt:∀i j,i<n->j<n->lt i j=true->R (ps.getD i d) (ps.getD j d))(r:Re n p)(u:Up lt p n):(p.toList.map λi=>ps.getD i d).Pairwise R:=by
 rw[FO]
 intro i j hi hj hij
 rw[δ,Ι,r.size]at hi hj
 have get:∀k (hk:k<n) h,(p.toList.map λi=>ps.getD i d)[k]'h=ps.getD (p.getD k 0) d:=λk hk h=>by
  rw[List.getElem_map]
  congr 1
  simp[Array.getD,r.size,hk]
 rw[get i hi,get j hj]
 exact hlt _ _ (r.lt i hi) (r.lt j hj) (u i j hij hj)
end
open PySem PySem.Spec PyProof.Rows
def CS(N:List Str)(sc scope:EU)(ix:List Nat):Bool:=
 decide (scope.kind=.function)&&scope.names.all (λy=>decide (y.2≠.cell))&&scope.names.all (λy=>decide (y.2=.local->scope.names.lookup y.1=some .local)) &&
 scope.names.all (λy=>decide (y.2=.free->sc.names.lookup y.1=some .cell\/sc.names.lookup y.1=some .free)) &&
 ix.all (λj=>decide (j<N.length)&&match N[j]? with|some x=>scope.names.any (λy=>decide (y.1=x)&&decide (y.2=.free))&&decide (scope.names.lookup x=some .free)|none=>false)
theorem dJ.of{N:List Str}{sc scope:EU}{own:List Str}{ix:List Nat}(h:CS N sc scope ix=true):dJ N sc scope own ix:=by
 unfold CS at h
 simp only[Ζ,decide_eq_true_eq,ϭ]at h
 obtain⟨⟨⟨⟨h1,h2⟩,h3⟩,h4⟩,h5⟩:=h
 refine⟨h1,h2,h3,h4,λj hj x hx=>?_,λj hj=>(h5 j hj).1⟩
 have:=(h5 j hj).2
 rw[hx]at this
 simp only[Ζ,decide_eq_true_eq,f_]at this
 obtain⟨⟨⟨n,k⟩,hy,e1,e2⟩,e3⟩:=this
 have e1':n=x:=e1
 have e2':k=.free:=e2
 subst e1' e2'
 exact⟨hy,e3⟩
theorem bc{l N:List Str}(h:l.Nodup)(e:N=l):N.Nodup:=by rw[e];exact h
structure Def(P:χ)(w:Ρ)(K:ε)(mg:Str->Option ζ)(base:Heap)(k:Nat)(x:Str)(ps:List Str)(sp:Sp):Prop where
 ex:∃f fd,av P w K mg base CX0 k f fd ps sp/\bQ K fd ps []/\ϥ K (.ref f)=true/\mg x=some (.ref f)
theorem Def.up{P:χ}{w:Ρ}{K:ε}{mg:Str->Option ζ}{base:Heap}{j k:Nat}{x:Str}{ps:List Str}{sp:Sp}(d:Def P w K mg base j x ps sp)(h:j<=k):Def P w K mg base k x ps sp:=
 let ⟨f,fd,F,b,kp,m⟩:=d.ex
 ⟨f,fd,F.mono h,b,kp,m⟩
theorem pe_def{X:Cx}{k:Nat}{x:Str}{ps:List Str}{sp:Sp}{p pos:Pos}{e:Expr}{es:List Expr}{t:TA}(d:Def X.prog X.w X.K X.mg X.base k x ps sp)(hr:ca k X.A)(hg:Gl X x)(ha:PA X (e::es) t)(hdb:(x==("__debug__" : Str))=false:=by decide)
  (he:starEach (e::es) X.env=(false,eval e X.env)::starEach es X.env:=by rfl) (hpl:(backTo pos (starEach es X.env)).any (·.1)=false:=by rfl):PE X (.Call (.Name x p) (e::es) [] pos) (mX sp [] E0 t):=by
 obtain⟨f,fd,F,b,kp,m⟩:=d.ex
 exact Aa F hr hg m kp b .nil eU ha hdb he hpl
inductive Dv where
 |non|bl (b:Bool)|int (i:Int)|str (x:Str)|tup (xs:List Dv)|lst (xs:List Dv)|dct
mutual
def Rep(H:Hp):Dv->V->Prop
 |.non,v=>v=.non
 |.bl b,v=>v=.bl b
 |.int i,v=>v=.int i
 |.str x,v=>v=.str x
 |.tup ds,v=>∃a vs,v=.ref a/\H a=some (.tup vs)/\Reps H ds vs
 |.lst ds,v=>∃a vs,v=.ref a/\H a=some (.lst vs)/\Reps H ds vs
 |.dct,v=>∃a,v=.ref a/\H a=some (.dK [])
def Reps(H:Hp):List Dv->List V->Prop
 |[],vs=>vs=[]
 |d::ds,vs=>∃v r,vs=v::r/\Rep H d v/\Reps H ds r
end
mutual
theorem Rep.mono{H H':Hp}(s:ak H H'):∀{d:Dv}{v:V},Rep H d v->Rep H' d v
 |.non,_,h=>by simpa only[Rep]using h
 |.bl b,_,h=>by simpa only[Rep]using h
 |.int i,_,h=>by simpa only[Rep]using h
 |.str x,_,h=>by simpa only[Rep]using h
 |.tup ds,_,h=>by
  simp only[Rep]at h⊢
  obtain⟨a,vs,e,h1,h2⟩:=h
  exact⟨a,vs,e,s _ _ h1,Reps.mono s h2⟩
 |.lst ds,_,h=>by
  simp only[Rep]at h⊢
  obtain⟨a,vs,e,h1,h2⟩:=h
  exact⟨a,vs,e,s _ _ h1,Reps.mono s h2⟩
 |.dct,_,h=>by
  simp only[Rep]at h⊢
  obtain⟨a,e,h1⟩:=h
  exact⟨a,e,s _ _ h1⟩
theorem Reps.mono{H H':Hp}(s:ak H H'):∀{ds:List Dv}{vs:List V},Reps H ds vs->Reps H' ds vs
 |[],_,h=>by simpa only[Reps]using h
 |d::ds,_,h=>by
  simp only[Reps]at h⊢
  obtain⟨v,r,e,h1,h2⟩:=h
  exact⟨v,r,e,Rep.mono s h1,Reps.mono s h2⟩
end
theorem Reps.length{H:Hp}:∀{ds:List Dv}{vs:List V},Reps H ds vs->vs.length=ds.length
 |[],_,h=>by simp only[Reps]at h;subst h;rfl
 |d::ds,_,h=>by
  simp only[Reps]at h
  obtain⟨v,r,e,h1,h2⟩:=h
  subst e
  rw[Γ,Γ,Reps.length h2]
theorem Reps.get{H:Hp}:∀{ds:List Dv}{vs:List V},Reps H ds vs->∀{i:Nat}{v:V},vs[i]?=some v->∃d,ds[i]?=some d/\Rep H d v
 |[],_,h,i,v,e=>by simp only[Reps]at h;subst h;simp at e
 |d::ds,_,h,i,v,e=>by
  simp only[Reps]at h
  obtain⟨v',r,e',h1,h2⟩:=h
  subst e'
  cases i with
  | zero => exact ⟨d, rfl, by have : v' = v := by simpa using e
                              subst this;exact h1⟩
  |succ i=>obtain⟨d',e1,e2⟩:=Reps.get h2 (i:=i) (v:=v) (by simpa using e);exact⟨d',by simpa using e1,e2⟩
def Dv.tn:Dv->String
 |.non=>"NoneType" |.bl _=>"bool" |.int _=>"int" |.str _=>"str" |.tup _=>"tuple" |.lst _=>"list" |.dct=>"dict"
theorem Rep.ty{K:ε}{H:Hp}{d:Dv}{v:V}(h:Rep H d v):dS K H v (.type d.tn):=by
 cases d with
 |non=>simp only[Rep]at h;subst h;exact .non
 |bl b=>simp only[Rep]at h;subst h;exact .bl b
 |int i=>simp only[Rep]at h;subst h;exact .int i
 |str x=>simp only[Rep]at h;subst h;exact .str x
 |tup ds=>simp only[Rep]at h;obtain⟨a,vs,rfl,h1,_⟩:=h;exact .tup h1
 |lst ds=>simp only[Rep]at h;obtain⟨a,vs,rfl,h1,_⟩:=h;exact .lst h1
 |dct=>simp only[Rep]at h;obtain⟨a,rfl,h1⟩:=h;exact .dK h1
def isT(d:Dv)(n:String):Bool:=d.tn==n||(d.tn=="bool" && n=="int")
theorem Ac(K:ε)(d:Dv):a8 K (.type d.tn) (.type "int")=some (isT d "int"):=by
 unfold a8 E1
 cases d<;>kernel_rfl
theorem pY(K:ε)(d:Dv):a8 K (.type d.tn) (.type "bool")=some (isT d "bool"):=by
 unfold a8 E1
 cases d<;>kernel_rfl
theorem ga(K:ε)(d:Dv):a8 K (.type d.tn) (.type "str")=some (isT d "str"):=by
 unfold a8 E1
 cases d<;>kernel_rfl
theorem cr(K:ε)(d:Dv):a8 K (.type d.tn) (.type "tuple")=some (isT d "tuple"):=by
 unfold a8 E1
 cases d<;>kernel_rfl
theorem rB(K:ε)(d:Dv):a8 K (.type d.tn) (.type "list")=some (isT d "list"):=by
 unfold a8 E1
 cases d<;>kernel_rfl
section
variable{k:Nat}{ix:List Nat}{g:TG}{tt:TT}{te:TE}{σ:St}{H1:Hp}{Q:List V->Hp->Prop}
theorem jU{f F:Nat->V}{n:Nat}(hs:∀i ys,i<n->ys.length=i->cO k ix g tt te σ (f i) ys H1 λys' H'=>ys'=ys++[F i]/\H'=H1)(hd:Q ((Ϝ n).map F) H1):rLC (Itf f n) k ix g tt te σ H1 Q:=by
 refine⟨λi m ys H=>m=n-i/\i<=n/\H=H1/\ys=(Ϝ i).map F,⟨n,(),ϊ _,rfl,rfl⟩,?_⟩
 rintro i m ys H ⟨rfl,hi,rfl,rfl⟩
 by_cases hlt:i<n
 ·refine .inr ⟨hlt,λys' H'=>ys'=(Ϝ i).map F++[F i]/\H'=H,λys' H' ⟨e1,e2⟩=>⟨n-(i+1),(),rfl,hlt,e2,by rw[e1,List.range_succ,ς];rfl⟩,λx H' y=>?_⟩
  obtain⟨e,y⟩:=y
  subst e y
  exact hs i _ hlt ()
 ·have e:i=n:=by omega
  subst e
  exact .inl ⟨rfl,hd⟩
theorem aV{i:Nat}{x:V}{ys:List V}{H:Hp}{N:List V->Hp->Prop}(h:te ((dH k ix σ).set i (some x)) H λy H4=>ys.length<sizeLine/\N (ys++[y]) H4):cO k ix (dE i) yW te σ x ys H N:=by
 exact ax (B:=N ys H) h
theorem dj{i j:Nat}{K:ε}{a:Addr}{x y:V}{ys:List V}{H:Hp}{N:List V->Hp->Prop}(ha:H a=some (.tup [x,y]))(h:te (((dH k ix σ).set i (some x)).set j (some y)) H λy H4=>ys.length<sizeLine/\N (ys++[y]) H4):
  cO k ix (zQ K 2 (ji (dE i) (ji (dE j) wq))) yW te σ (.ref a) ys H N:=by
 refine⟨a,_,rfl,SqT.of ha,rfl,_,_,rfl,_,_,rfl,rfl,?_⟩
 exact ax (B:=N ys H) h
theorem zF{f:Nat->V}{n:Nat}{g:TG}{tb:TS}{D:bZ}{σ:St}{H:Hp}(Pv:Nat->St->Hp->Prop)(h0:Pv 0 σ H)
  (hs:∀i σ H,i<n->Pv i σ H->g (f i) σ H λσ2 H2=>tb {D with nx:=Pv (i+1),ct:=Pv (i+1),bk:=D.nx} σ2 H2) (hd:∀σ H,Pv n σ H->D.nx σ H):
  ∃W:Nat->Nat->St->Hp->Prop,(∃m,W 0 m σ H)/\∀i m σ H,W i m σ H ->
   ((Itf f n).stop i H/\D.nx σ H)\/((Itf f n).go i H/\∃N:St->Hp->Prop,(∀σ' H',N σ' H'->∃m',m'<m/\W (i+1) m' σ' H')/\∀x H',(Itf f n).yld i H x H'->g x σ H' λσ2 H2=>tb {D with nx:=N,ct:=N,bk:=D.nx} σ2 H2):=by
 refine⟨λi m σ H=>m=n-i/\i<=n/\Pv i σ H,⟨n,(),ϊ _,h0⟩,?_⟩
 rintro i m σ H ⟨rfl,hi,p⟩
 by_cases hlt:i<n
 ·refine .inr ⟨hlt,Pv (i+1),λσ' H' p'=>⟨n-(i+1),(),rfl,hlt,p'⟩,λx H' y=>?_⟩
  obtain⟨e,y⟩:=y
  subst e y
  exact hs i σ _ hlt p
 ·have e:i=n:=by omega
  subst e
  exact .inl ⟨rfl,hd σ H p⟩
end
mutual
def Dv.small:Dv->Bool
 |.str x=>decide (x.cps.size<=1000)
 |.tup xs=>smalls xs&&decide (xs.length<=1000)
 |.lst xs=>smalls xs&&decide (xs.length<=1000)
 |_=>true
def smalls:List Dv->Bool
 |[]=>true
 |d::ds=>d.small&&smalls ds
end
theorem dg:∀{ds:List Dv},smalls ds=true->∀{i:Nat}{d:Dv},ds[i]?=some d->d.small=true
 |[],_,i,d,e=>by simp at e
 |x::ds,h,i,d,e=>by
  simp only[smalls,Ζ]at h
  cases i with
  |zero=>
   have e':x=d:=by simpa using e
   subst e';exact h.1
  |succ i=>exact dg h.2 (i:=i) (by simpa using e)
theorem vD{x:Str}(h:x.cps.size<=1000):x.length<=sizeLine:=u_ (wP h)
theorem ac{H:Hp}{p:Addr}(h:H p=none)(o:HO):ak H (upd H p o):=λb u q=>by rw[ao (ah q h)];exact q
section
variable{X:Cx}
theorem jI(K:ε)(h:X.K=K):IxR X (CT K):=by subst h;exact aE
theorem zy(K:ε)(h:X.K=K):IxR X (yl K):=by subst h;exact aj
theorem yY(K:ε)(h:X.K=K):cK X (.builtin "len") (λxs H Q=>∃p ys,xs=[.ref p]/\(SqL K H p ys\/SqT K H p ys)/\Q (.int ys.length) H):=by subst h;exact ar
theorem Eb(K:ε)(h:X.K=K):cK X (.builtin "isinstance") (λxs H Q=>∃x t n b,xs=[x,.ty n]/\dS K H x t/\a8 K t (.type n)=some b/\Q (.bl b) H):=by subst h;exact aY
def CW(K:ε):R2:=λx y H Q=>∃a b xs ys,x=.ref a/\y=.ref b/\SqT K H a xs/\SqT K H b ys/\xs.length+ys.length<=sizeLine /\
 (xs=[]->Q (.ref b) H)/\(ys=[]->Q (.ref a) H)/\(∀p,H p=none->Q (.ref p) (upd H p (.tup (xs++ys))))
theorem fZ:OpR X (binaryOp .Add) (CW X.K):=by
 intro pins s σ H x y v u Q I rx ry h
 obtain⟨a,b,xs,ys,rfl,rfl,ha,hb,hz,q0,q1,q2⟩:=h
 by_cases hx:xs=[]
 ·cases rx
  cases ry
  obtain⟨its,r1,p1,_⟩:=I.tuple ha
  obtain⟨its2,r2,p2,_⟩:=I.tuple hb
  subst hx
  cases r1
  obtain⟨⟨cls,dd,data,sl⟩,ho,hc,n,hd⟩:=id p1
  obtain⟨⟨cls2,dd2,data2,sl2⟩,ho2,hc2,n2,hd2⟩:=id p2
  simp only at hc hd hc2 hd2
  subst hc hd hc2 hd2
  exact concat_meets ⟨_,ho,rfl⟩ ⟨_,ho2,rfl⟩ F6 seq_tuple_add EY ET (D0 _ _) (tuple_addW0 a b _ _ n n2 dd dd2 sl sl2 rfl) ⟨ho,ho2,⟨.ref b,H,I,rfl,q0 rfl⟩⟩
 ·exact Au pins s σ H (.ref a) (.ref b) v u Q I rx ry ⟨a,b,xs,ys,rfl,rfl,ha,hb,hx,hz,q1,λ_=>q2⟩
end
section
variable{σ:St}{H:Hp}{d e:Dv}{ds es:List Dv}{ta tb:TE}{t:TA}
theorem Reps.append{H:Hp}:∀{ds es:List Dv}{vs ws:List V},Reps H ds vs->Reps H es ws->Reps H (ds++es) (vs++ws)
 |[],_,_,_,h,g=>by simp only[Reps]at h;subst h;exact g
 |d::ds,es,vs,ws,h,g=>by
  simp only[Reps]at h
  obtain⟨v,r,rfl,h1,h2⟩:=h
  simp only[Ϲ,Reps]
  exact⟨v,r++ws,rfl,h1,Reps.append h2 g⟩
end
def bj(H:Hp)(l:Addr):Hp:=λb=>if b=l then none else H b
theorem bL{H:Hp}{l:Addr}:ak (bj H l) H:=λb o h=>by
 unfold bj at h
 by_cases e:b=l
 ·rw[Q5 e]at h;cases h
 ·rw[Q6 e]at h;exact h
theorem bH{H H':Hp}{l:Addr}(s:ak H H'):ak (bj H l) (bj H' l):=λb o h=>by
 unfold bj at h⊢
 by_cases e:b=l
 ·rw[Q5 e]at h;cases h
 ·rw[Q6 e]at h⊢;exact s b o h
theorem ik{H H':Hp}{l:Addr}(s:ak H H')(hl:H l=none):ak H (bj H' l):=λb o h=>by
 unfold bj
 rw[Q6 (ah h hl)]
 exact s b o h
theorem xr{H:Hp}{l p:Addr}{o:HO}(hl:H l≠none)(hp:H p=none):bj (upd H p o) l p=some o/\ak (bj H l) (bj (upd H p o) l):=by
 have ne:p≠l:=λe=>hl (e▸hp)
 refine⟨?_,bH (ac hp o)⟩
 unfold bj
 rw[Q6 ne,aa]
section
variable{σ:St}{H:Hp}{d e:Dv}{ds es:List Dv}{ta tb:TE}{t:TA}{l:Addr}
variable{i:Nat}{u:TS}{D:bZ}
end
section
variable{X:Cx}
end
section
variable{prog:χ}{w:Ρ}{K:Type}[DecidableEq K]{knd:PySem.KeyKind prog w K}{A:ό}{R:Gu->ι->Prop}{I d:Addr}{fp wr:List Addr}{n:Nat}{P:Nat->ζ->Prop}{St:Nat->Heap->Prop}
end
section
variable{prog:χ}{w:Ρ}{K:Type}[DecidableEq K]{knd:PySem.KeyKind prog w K}{A:ό}{E:ζ->ι->Prop}{s:ι}
end
section
variable{X:Cx}
end
open PySem PySem.Spec PyProof.Rows PySem.W
section
variable{X:Cx}{pins:List (Addr×Obj)}{σ:St}{H:Hp}{s:ι}
theorem Inv.setList{D:Addr}{ys0 ys:List V}{its:List ζ}{c:Nat}{h':Heap}{m:Str->Option ζ}(I:Inv X pins σ H s)(hm:s.heap.Ns X.env.locals m)(hD:H D=some (.lst ys0))(rv:aF ys its)(hz:ys.length<=sizeLine)
  (F:h'.Ns X.env.locals m) (k:∀b o,b≠X.env.locals->b≠D->s.heap.get? b=some o->h'.get? b=some o) (e:h'.get? D=some {cls:=.type "list",data:=.seq its.toArray c}):Inv X pins σ (upd H D (.lst ys)) {s with heap:=h'}:=by
 have nl:∀b v,H b=some v->b≠X.env.locals:=λb v q z=>by rw[z,I.free]at q;cases q
 have nD:∀b,H b=none->b≠D:=λb q z=>by rw[z,hD]at q;cases q
 have nT:∀b v,H b=some v->v≠.lst ys0->b≠D:=λb v q n z=>by rw[z,hD]at q;cases q;exact n rfl
 refine I.step (g':=s.gens) (d':=s.drawn) (t':=s.toks) (ch:=[]) (λb hb=>by cases hb) (λb o hL _ _ q n=>k b o hL (nD b n) q) (λb o hL _ _ q n=>⟨o.slots,k b o hL (nD b n) q⟩) (λb o _ q n=>by rw[ao (nD b n)];exact n) (λb o _ q=>?_)
  (λb xs q=>by rw[ao (nT b _ q nofun)];exact q) (λb o v q=>by rw[ao (nT b _ q nofun)];exact q) (λb ps q=>⟨#[],by rw[ao (nT b _ q nofun),q];simp⟩) (λm' hm'=>by rw[Bt hm' hm];exact F) (λb v q=>?_) I.bare
 ·by_cases hb:b=X.env.locals
  ·subst hb
   obtain⟨o',_,_,q',_⟩:=F
   exact⟨o',q'⟩
  ·by_cases hd:b=D
   ·subst hd;exact⟨_,e⟩
   ·exact⟨o,k b o hb hd q⟩
 ·by_cases hb:b=D
  ·subst hb
   rw[aa]at q
   cases q
   exact⟨hz,its,c,rv,e⟩
  ·rw[ao hb]at q
   refine(I.hok b v q).stay (λc w' hc q'=>?_) (λc q'=>by rw[ao (nT c _ q' nofun)];exact q') λc xs q'=>by rw[ao (nT c _ q' nofun)];exact q'
   rcases hc with z|z
   ·subst z;exact k c w' (nl c v q) hb q'
   ·exact k c w' (nl c _ z) (nT c _ z nofun) q'
theorem xB{A:ό}{E:ζ->ι->Prop}{l:Addr}{ps:List TK}{Q:ζ->ι->Prop}(I:Inv X pins σ H s)(hq:H l=some (.lst (ps.map λp=>V.ref p.1)))(ht:∀p∈ps,H p.1=some (.tup (.str p.2.1::p.2.2)))
  (nd:(ps.map (·.2.1)).Nodup) (h64:ps.length<64) (q:∀(qs:List TK)(h':Heap),qs.Perm ps->qs.Pairwise xK->Inv X pins σ (upd H l (.lst (qs.map λp=>V.ref p.1))) {s with heap:=h'}->Q .none {s with heap:=h'}):
  wpAny (model X.prog X.w) A (call (.builtin "list.sort") [.ref l]) Q E s:=by
 obtain⟨hz,its,n,rv,at0⟩:=(show bf X.prog X.w H s.heap l (.lst (ps.map λp=>V.ref p.1))from I.hok l _ hq)
 have ei:=zZ ps its rv
 subst ei
 obtain⟨m,hm,_⟩:=I.loc
 have nL:l≠X.env.locals:=λz=>by rw[z,I.free]at hq;cases hq
 have lne:∀p∈ps,p.1≠l/\p.1≠X.env.locals:=λp hp=>by
  refine⟨λz=>?_,λz=>?_⟩
  ·have t:=ht p hp
   rw[z,hq]at t
   cases t
  ·have t:=ht p hp
   rw[z,I.free]at t
   cases t
 by_cases few:ps.length<2
 ·refine a9 slot_list_sort ⟨_,at0,rfl⟩ entry_list_sort (mr at0 (by simpa using few) λhp ep k2 e2=>⟨_,rfl,?_⟩) (args_list_sort _)
  refine q ps hp (List.Perm.refl _) ?_ (I.setList hm hq (iF ps) hz (hm.at' λo e=>k2 _ o (ϋ nL) e) (λb o _ hb z=>k2 b o hb z) e2)
  match ps,few with
  |[],_=>exact .nil
  |[p],_=>exact List.pairwise_singleton _ _
 ·have hlen:(ps.map λp=>ώ p.1).length=ps.length:=δ _
  have F0:Fr (Att.noObjs s.heap) X.env.locals s.heap m:=Att.fr_all hm
  generalize hN:(jF (Att.noObjs s.heap) s.heap X.env.locals).filter (λp=>decide (p.1≠l))=nw
  have N0:News (Att.noObjs s.heap) X.env.locals s.heap nw:=λp hp=>by rw[<-hN]at hp;exact xC p (A7.mp hp).1
  have nl0:∀p∈nw,p.1≠l:=λp hp=>by rw[<-hN]at hp;exact Q7 (A7.mp hp).2
  refine a9 slot_list_sort ⟨_,at0,rfl⟩ entry_list_sort (kat_list_sort F0 N0 at0 nL (Att.noObjs_get _ _) nl0 (by rw[hlen];omega) (by rw[hlen];exact h64) λe1 h' F' N'=>?_) (args_list_sort _)
  have keep:∀(g:Heap)(x:Obj),News (Att.noObjs s.heap) X.env.locals g ((l,x)::nw)->∀b o,b≠X.env.locals->b≠l->s.heap.get? b=some o->g.get? b=some o:=λg x N b o hb hl e=>
   (N (b,o) (Ε _ (by rw[<-hN];exact A7.mpr ⟨rH hb (Att.noObjs_get _ _) e,Q9 hl⟩))).1
  have kp:=keep h' _ N'
  have atv:∀i,i<ps.length->(ps.map λp=>ώ p.1).getD i .none=ώ (ps.getD i (0,default,[])).1:=λi hi=>by
   simp[Gq,hi]
  have item:∀i,i<ps.length->∃(o:Obj) (us:List ζ) (n:Nat) (t:Tok),h'.get? (ps.getD i (0,default,[])).1=some o/\o.cls=.type "tuple"/\o.data=.seq (k_ (ps.getD i (0,default,[])).2.1 t::us).toArray n:=λi hi=>by
   have hm':ps.getD i (0,default,[])∈ps:=by
    have e:ps.getD i (0,default,[])=ps[i]:=by simp[Gq,hi]
    rw[e];exact j5 hi
   obtain⟨o,us,n,t,e,c,d⟩:=xx I (ht _ hm')
   exact⟨o,us,n,t,kp _ o (lne _ hm').2 (lne _ hm').1 e,c,d⟩
  have firsts:∀(qs:List TK),(∀p∈qs,p∈ps)->∃fs:List ζ,KatTups h' (qs.map λp=>ώ p.1) fs/\fs.length=qs.length/\∀v∈fs,∃x t,v=k_ x t:=by
   intro qs
   induction qs with
   |nil=>intro _;exact⟨[],KatTups.nil,rfl,()⟩
   |cons p qs ih=>
    intro hs
    obtain⟨fs,t1,t2,t3⟩:=ih λx hx=>hs x (Ε _ hx)
    have hp:=hs p ο
    obtain⟨o,us,n,t,e,c,d⟩:=xx I (ht _ hp)
    refine⟨k_ p.2.1 t::fs,KatTups.cons (kp _ o (lne _ hp).2 (lne _ hp).1 e) c d () t1,by simp[t2],λv hv=>?_⟩
    rcases ν.mp hv with rfl|hv
    ·exact⟨_,_,rfl⟩
    ·exact t3 v hv
  obtain⟨fs,t1,t2,t3⟩:=firsts ps λp hp=>hp
  refine kat_kind (T:=.type "str") (s:={s with heap:=h'}) t1 (by rw[t2];omega) (λv hv=>?_) () ?_
  ·obtain⟨x,t,rfl⟩:=t3 v hv
   exact Looks.of_pure rfl
  rw[hlen]
  have O:Ord (kas_ask X.prog X.w A.in1 (tuples' (Fv "str" != Fv "tuple")) (ps.map λp=>ώ p.1)) (λi j=>decide ((ps.getD i (0,default,[])).2.1.cps.toList<(ps.getD j (0,default,[])).2.1.cps.toList)) ps.length {s with heap:=h'}:=by
   have unlike:∀i j,i<ps.length->j<ps.length->i≠j->(ps.getD i (0,default,[])).2.1≠(ps.getD j (0,default,[])).2.1:=λi j hi hj hij e=>by
    have ei:ps.getD i (0,default,[])=ps[i]:=by simp[Gq,hi]
    have ej:ps.getD j (0,default,[])=ps[j]:=by simp[Gq,hj]
    rw[ei,ej]at e
    exact hij ((E5 (h₀:=by simpa using hi) (h₁:=by simpa using hj) nd).mp (by simpa using e))
   refine⟨λi j C hi hj hij hC=>?_,λi j k h1 h2=>?_,λi j hi hj hij h1=>?_,λi j h1=>?_⟩
   ·show wpAny _ _ (keyLt' _ _ _) C _ _
    rw[atv i hi,atv j hj]
    obtain⟨o,us,n,t,e,c,d⟩:=item i hi
    obtain⟨o2,us2,n2,t2',e2,c2,d2⟩:=item j hj
    refine kat_lt (s:={s with heap:=h'}) e d e2 d2 ?_
    show KatLex _ _ _ _ _ _ ((k_ _ t,k_ _ t2')::_) 0 _
    refine kat_cons (wpAny_eqBool_str ?_)
    rw[Q8 (unlike i j hi hj hij)]
    exact kat_no (oneLt_str hC)
   ·exact Q9 (List.lt_trans (Q7 h1) (Q7 h2))
   ·exact Q9 (zz (of_decide_eq_false h1) λe=>unlike i j hi hj hij (Al e))
   ·exact Q8 (List.lt_asymm (Q7 h1))
  refine zn O () λp re up=>?_
  have outs:(p.toList.map λi=>(ps.map λp=>ώ p.1).getD i .none)=(p.toList.map λi=>ps.getD i (0,default,[])).map λp=>ώ p.1:=by
   rw[Ψ]
   refine y8 λi hi=>?_
   have hl2:p.toList.Perm (Ϝ ps.length):=by simpa using B7.mp re.perm
   exact atv i (y_.mp ((List.Perm.mem_iff hl2).mp hi))
  rw[outs]
  refine KasFin.intro (news:=(l,seqObj "list" #[] e1)::nw) (g:=λo'=>(l,o')::nw) F' N' (.head nl0) λh2 c F2 N2=>?_
  have pq:=wz (d:=(0,default,[])) rfl re
  have I2:=I.setList (D:=l) (ys:=(p.toList.map λi=>ps.getD i (0,default,[])).map λp=>V.ref p.1) hm hq (iF _) (by rw[δ,pq.length_eq];simpa using hz) F2.ns (keep h2 _ N2) (N2 (l,_) ο).1
  exact⟨_,rfl,q _ h2 pq (my (R:=xK) (λi j _ _ h=>(Q7 h:(ps.getD i (0,default,[])).2.1.cps.toList<(ps.getD j (0,default,[])).2.1.cps.toList)) re up) I2⟩
def jW(v d:Addr):HO:=.ext λh=>h.IsItemsView v d
theorem xM:MtR X "dict.items" (λx xs H Q=>∃d kvs,x=.ref d/\xs=[]/\H d=some (.dK kvs)/\∀v,H v=none->Q (.ref v) (upd H v (jW v d))):=by
 intro pins s σ H x xs u us Q I rx rv h
 obtain⟨d,kvs,rfl,rfl,hd,q⟩:=h
 cases rx
 cases rv
 obtain⟨z,hdm,vs,rel,dd⟩:=yJ I.hok hd
 refine call_meetsIn PySem.F.slot_dict_items dd.typeIs PySem.F.entry_dict_items (PySem.F.args_dict_items_1 _) (meets_dict_items (aS X.prog X.w) d hdm) ⟨⟨vs,dd⟩,?_⟩
 refine⟨.ref s.heap.objs.size,_,I.laid (t':=s.toks) (a:=s.heap.objs.size) (o:=jW s.heap.objs.size d) (λb u q=>ρ _ q) (π _) ?_,rfl,q _ I.fresh⟩
 exact⟨⟨_,Λ _ rfl,rfl,rfl⟩,⟨_,Λ _ rfl⟩,λh1 h2 ⟨o,e,r⟩ k=>⟨o,k o e,r⟩⟩
def lays(H:Hp)(rs:List TK):Hp:=λb=>match rs.find? (λr=>decide (r.1=b))with|some r=>some (.tup (.str r.2.1::r.2.2))|none=>H b
theorem kj{rs:List TK}{b:Addr}(h:∀r∈rs,r.1≠b):lays H rs b=H b:=by
 unfold lays
 rw[FC.mpr (λr hr e=>h r hr (Q7 e))]
theorem uS{rs:List TK}(nd:(rs.map (·.1)).Nodup){r:TK}(hr:r∈rs):lays H rs r.1=some (.tup (.str r.2.1::r.2.2)):=by
 unfold lays
 cases e:rs.find? (λx=>decide (x.1=r.1))with
 |none=>exact absurd (Q9 rfl) (FC.mp e r hr)
 |some x=>
  have hx:=List.mem_of_find?_eq_some e
  have e1:x.1=r.1:=Q7 (List.find?_some (p:=λx:TK=>decide (x.1=r.1)) e)
  obtain⟨i,hi,rfl⟩:=Fk hx
  obtain⟨j,hj,rfl⟩:=Fk hr
  have:i=j:=(E5 (h₀:=by simpa using hi) (h₁:=by simpa using hj) nd).mp (by simpa using e1)
  subst this
  rfl
theorem Inv.lays{h':Heap}{tk:Nat}{rs:List TK}(I:Inv X pins σ H s)(k:∀b u,s.heap.get? b=some u->h'.get? b=some u)(nd:(rs.map (·.1)).Nodup)(hp:∀r∈rs,s.heap.objs.size<=r.1)
  (new:∀r∈rs,bf X.prog X.w (L2.lays H rs) h' r.1 (.tup (.str r.2.1::r.2.2))):Inv X pins σ (L2.lays H rs) {s with heap:=h',toks:=tk}:=by
 have out:∀b,b<s.heap.objs.size->L2.lays H rs b=H b:=λb hb=>kj λr hr e=>absurd hb (Nat.not_lt.mpr (e▸hp r hr))
 refine I.un (t':=tk) ⟨λb u q _ _ _=>k b u q,λb u q _ _ _=>⟨u.slots,k b u q⟩,λb u q n _=>by rw[out b (Β q)];exact n,λb u q _=>⟨u,k b u q⟩,λb xs q=>by rw[out b (I.hok.lt q)];exact q,λb u xs q=>by rw[out b (I.hok.lt q)];exact q,
  λb ps q=>⟨#[],by rw[out b (I.hok.lt q),q];simp⟩⟩ λb u e=>?_
 by_cases hb:∃r∈rs,r.1=b
 ·obtain⟨r,hr,rfl⟩:=hb
  rw[uS nd hr]at e
  cases e
  exact new r hr
 ·rw[kj λr hr z=>hb ⟨r,hr,z⟩]at e
  exact(I.hok b u e).stay (λc v _ q=>k c v q) (λc q=>by rw[out c (I.hok.lt q)];exact q) λc xs q=>by rw[out c (I.hok.lt q)];exact q
theorem pG(hc:X.calm=true):cK X (.builtin "sorted") (λxs H Q=>∃(v d:Addr) (m:List (Str×V)),xs=[.ref v]/\H v=some (jW v d)/\H d=some (.dK (m.map λp=>((Ϧ p.1:Key),p.2)))/\m.length<64 /\
  ∀(H':Hp)(l:Addr)(qs:List TK),ak H H'->H l=none->(∀r∈qs,H' r.1=some (.tup (.str r.2.1::r.2.2))/\H r.1=none)->H' l=some (.lst (qs.map λr=>V.ref r.1))->(qs.map (·.2)).Perm (m.map λp=>(p.1,[p.2]))->qs.Pairwise xK->Q (.ref l) H'):=by
 intro pins s σ H xs us Q I r h
 obtain⟨v,d,m,rfl,hv,hd,h64,q⟩:=h
 obtain⟨u,rfl,ru⟩:=dA r
 cases ru
 obtain⟨vw,_,_⟩:=(show bf X.prog X.w H s.heap v (jW v d)from I.hok v _ hv)
 obtain⟨z,hdm,vs,rel,dd⟩:=yJ I.hok hd
 have hvl:vs.length=m.length:=by have:=rel.length;rw[δ]at this;exact this.symm
 obtain⟨ep,da⟩:=dd.dictAt
 have ndk:(vs.map (·.1)).Nodup:=by obtain⟨_,_,_,_,_,_,_,nd⟩:=da;exact nd
 refine Calls.call_function_entry kind_sorted plain_sorted entry_sorted (args_sorted1 _) ?_
 unfold v_.«sorted»
 refine η (m:=checkCount "sorted" 1 1 _) (ω (η (kdx_collect (A:=X.A.in1) (knd:=aS X.prog X.w) (kvs:=vs) (ep:=ep) (I.ok.hd hc) vw da (by rw[<-rel.length];exact z) λh' tk as hk hl hG=>?_)))
 have hlm:as.length=m.length:=by omega
 have e1:((as.zip m).map λp=>((p.1,p.2.1,[p.2.2]):TK)).map (·.1)=as:=by
  rw[Ψ]
  have:((λx:TK=>x.1)∘λp:Addr×Str×V=>((p.1,p.2.1,[p.2.2]):TK))=Prod.fst:=rfl
  rw[this,List.map_fst_zip ()]
 have e2:((as.zip m).map λp=>((p.1,p.2.1,[p.2.2]):TK)).map (·.2)=m.map λp=>(p.1,[p.2]):=by
  rw[Ψ]
  have:((λx:TK=>x.2)∘λp:Addr×Str×V=>((p.1,p.2.1,[p.2.2]):TK))=(λp:Str×V=>(p.1,[p.2]))∘Prod.snd:=rfl
  rw[this,<-Ψ,List.map_snd_zip ()]
 have e3:((as.zip m).map λp=>((p.1,p.2.1,[p.2.2]):TK)).map (λr=>V.ref r.1)=as.map V.ref:=by
  have:(λr:TK=>V.ref r.1)=V.ref∘(λr:TK=>r.1):=rfl
  rw[this,<-Ψ,e1]
 have pairs:∀r∈(as.zip m).map λp=>((p.1,p.2.1,[p.2.2]):TK),∃(x:Str) (y:V) (u w':ζ),r.2=(x,[y])/\aL (.str x) u/\aL y w'/\h'.get? r.1=some {cls:=.type "tuple",data:=.seq #[u,w']}:=λr hr=>by
  obtain⟨⟨a,x,y⟩,hp,rfl⟩:=Ω.mp hr
  obtain⟨j,hj⟩:=List.getElem?_of_mem hp
  obtain⟨ha,hm⟩:=List.getElem?_zip_eq_some.mp hj
  obtain⟨key,k,w',g1,g2,g3⟩:=hG.pairs j a ha
  obtain⟨y',hy,ry⟩:=rel.at g1
  rw[Ν,hm]at hy
  have hy':((Ϧ x:Key),y)=(k,y'):=Ϛ hy
  injection hy' with k1 k2
  subst k1 k2
  exact⟨x,y,key,w',rfl,Do g2,ry,g3⟩
 generalize hrs:(as.zip m).map (λp=>((p.1,p.2.1,[p.2.2]):TK))=rs at e1 e2 e3 pairs
 have lrs:rs.length=m.length:=by rw[<-hrs,δ,List.length_zip];omega
 have nda:(rs.map (·.1)).Nodup:=by rw[e1];exact hG.rise.imp λh=>Ϣ h
 have above:∀r∈rs,s.heap.objs.size<=r.1:=λr hr=>u_ (hG.above r.1 (by rw[<-e1];exact p_ hr))
 have tup:∀(Hx:Hp)(r:TK),r∈rs->bf X.prog X.w Hx h' r.1 (.tup (.str r.2.1::r.2.2)):=λHx r hr=>by
  obtain⟨x,y,u,w',er,r1,r2,g⟩:=pairs r hr
  rw[er]
  exact⟨by show 2<=sizeLine;rw[θ];decide,[u,w'],.cons r1 (.cons r2 .nil),⟨_,g,rfl,0,rfl⟩,⟨_,g,rfl⟩⟩
 have I1:Inv X pins σ (lays H rs) {s with heap:=h',toks:=tk}:=I.lays hk nda above λr hr=>tup _ r hr
 have s1:ak H (lays H rs):=λb o e=>by
  have ho:∀r∈rs,r.1≠b:=λr hr z'=>by
   have h1:=above r hr
   rw[z']at h1
   exact absurd (I.hok.lt e) (Nat.not_lt.mpr h1)
  rw[kj ho];exact e
 refine η (wpAny_newList ?_ (by rw[δ,hlm,θ];omega))
 have rvals:aF (rs.map λr=>V.ref r.1) (as.map ώ):=by
  have:=iF rs
  have e4:rs.map (λp=>ώ p.1)=as.map ώ:=by
   rw[<-e1,Ψ];rfl
  rwa[e4]at this
 have I2:=I1.lnew (t':=tk) (its:=as.map ώ) rvals (by rw[δ,lrs,θ];omega)
 have fr:lays H rs h'.objs.size=none:=I1.fresh
 have s2:ak (lays H rs) (upd (lays H rs) h'.objs.size (.lst (rs.map λr=>V.ref r.1))):=ac fr _
 have inr:∀r∈rs,lays H rs r.1=some (.tup (.str r.2.1::r.2.2)):=λr hr=>uS nda hr
 have hnone:H h'.objs.size=none:=by
  cases e:H h'.objs.size with
  |none=>rfl
  |some o=>have:=s1 _ _ e;rw[fr]at this;cases this
 have nd2:(rs.map (·.2.1)).Nodup:=by
  have e5:rs.map (·.2.1)=m.map (·.1):=by
   have:=congrArg (List.map Prod.fst) e2
   simpa[Ψ,Function.comp_def]using this
  have e6:(m.map (·.1)).map (Ϧ:Str->Key)=vs.map (·.1):=by
   rw[<-rel.keys,Ψ,Ψ];rfl
  rw[e5]
  rw[<-e6]at ndk
  rw[List.Nodup,List.pairwise_map]at ndk
  exact ndk.imp λh e=>h (by rw[e])
 refine η (A_ (xB (A:=X.A.in1) (l:=h'.objs.size) (ps:=rs) I2 aa (λr hr=>s2 _ _ (inr r hr)) nd2 () λqs h2 pq pw I3=>?_))
 refine ω ⟨_,rfl,.ref h'.objs.size,_,I3,rfl,q _ _ qs (λb o e=>?_) hnone (λr hr=>⟨?_,I.hok.fresh (above r (pq.mem_iff.mp hr))⟩) aa (by rw[<-e2];exact pq.map _) pw⟩
 ·have:=s2 _ _ (s1 _ _ e)
  rw[ao (λz'=>by rw[z',hnone]at e;cases e)]
  exact this
 ·have hm:=pq.mem_iff.mp hr
  rw[ao (ah (inr r hm) fr)]
  exact s2 _ _ (inr r hm)
end
open PySem PySem.Spec PyProof.Rows
section
variable{X:Cx}{pins:List (Addr×Obj)}{σ:St}{H:Hp}{s:ι}
end
section
variable{X:Cx}
end
section
variable{P:χ}{w:Ρ}{K:ε}{mg:Str->Option ζ}{base:Heap}
end
open PySem PySem.Spec PyProof.Rows PySem.W
section
variable{X:Cx}{e st:Expr}{te:TE}{ts:TO}{p2 pos:Pos}
end
section
variable{X:Cx}
end
section
variable{P:χ}{w:Ρ}{A:ό}{E:ζ->ι->Prop}{s:ι}
end
section
variable{P:χ}{w:Ρ}{A:ό}{R:Gu->ι->Prop}{I:Addr}{fp wr:List Addr}{G:Array C9->Array C9->Prop}{n:Nat}{Pv:Nat->ζ->Prop}{St:Nat->ι->Prop}
end
section
variable{P:χ}{w:Ρ}{A:ό}{E:ζ->ι->Prop}{s:ι}
end
section
variable{P:χ}{w:Ρ}{A:ό}{E:ζ->ι->Prop}
variable{s:ι}{it S:Addr}{o:Obj}{es:Array (Int×ζ)}{ep n i:Nat}{t:Gz}
end
section
variable{P:χ}{w:Ρ}{A:ό}{E:ζ->ι->Prop}{s:ι}{it S:Addr}{o:Obj}{es:Array (Int×ζ)}{ep n i:Nat}{t:Gz}
end
section
variable{P:χ}{w:Ρ}{A:ό}{E:ζ->ι->Prop}{s:ι}{it S tp:Addr}{o ot:Obj}{es:Array (Int×ζ)}{ep n i m:Nat}{t:Gz}{pl:Array ζ}
end
section
variable{P:χ}{w:Ρ}{A:ό}{E:ζ->ι->Prop}{s:ι}{S:Addr}{o:Obj}{es:Array (Int×ζ)}{ep:Nat}{t:Gz}
end
section
variable{P:χ}{w:Ρ}{it S tp:Addr}{o ot:Obj}{es:Array (Int×ζ)}{ep m:Nat}{t:Gz}
end
section
variable{P:χ}{w:Ρ}{A:ό}{E:ζ->ι->Prop}{s:ι}{S:Addr}{xs:List Str}
variable{R:Gu->ι->Prop}{it L:Addr}{fp:List Addr}{vs:List ζ}{St:Nat->Heap->Prop}
end
section
variable{P:χ}{w:Ρ}{A:ό}{E:ζ->ι->Prop}{s:ι}{S:Addr}{xs:List Str}
end
section
variable{X:Cx}{pins:List (Addr×Obj)}{σ:St}{H:Hp}{s:ι}
end
section
variable{X:Cx}
theorem zY{j:Int}(h0:0<j)(h1:j<10^60):j.natAbs.log2<9000:=by
 have hn:j.natAbs<2^200:=by omega
 have:=(Nat.log2_lt (n:=j.natAbs) (k:=200) ()).mpr hn
 omega
def De(i j:Int):Prop:=0<j/\j<10^60
theorem qH:OpR X (binaryOp .FloorDiv) (rI De λi j=>.int (i/j)):=opI λi j _ _ _ _ _ hc q=>by
 have h1:(0:Int)<j:=hc.1
 exact floordiv_int () (by rw[Int.fdiv_eq_ediv_of_nonneg i ()];exact q) (.inl (PyProof.noPylong_of_log2 (zY hc.1 hc.2)))
end
open PySem PySem.Spec PyProof.Rows
section
variable{prog:χ}{w:Ρ}{A:ό}{E:ζ->ι->Prop}{s:ι}
theorem bD{it t:Addr}{i:Nat}{its:Array ζ}{x:ζ}{Q:ζ->ι->Prop}(hit:s.heap.IsTupleIter it t i)(ht:s.heap.IsTuple t its)(hx:its[i]?=some x)
  (hQ:∀h',h'.IsTupleIter it t (i+1)->C1 it s.heap h'->Q x {s with heap:=h'}):wpAny (model prog w) A (ϗ (.ref it)) Q E s:=by
 obtain⟨o,ho,hc,hd⟩:=id hit
 obtain⟨ol,hol,_,nl,hdl⟩:=ht
 unfold ϗ
 refine η (ϸ (name:=γ "__next__") hit.typeIs s_ (a9 s_ hit.typeIs Fp ?_ (Ff _)))
 show wpAny _ _ (field (.ref it) 0>>=_) _ _ s;refine η (ϣ ho hd (x:=.ref t) rfl ?_)
 show wpAny _ _ (if (ώ t==A1)=true then _ else _) _ _ s;rw[Q6 (show ¬ ((ώ t==A1)=true)from Ξ)]
 show wpAny _ _ (field (.ref it) 1>>=_) _ _ s;refine η (ϣ ho hd (x:=.int i 0) rfl ?_)
 show wpAny _ _ (seqItems? (.ref t)>>=_) _ _ s;refine η (Ϻ hol hdl ?_);simp only[FZ,hx]
 refine η (wpAny_setField ho hd () (ω ⟨x,rfl,ω (hQ _ ⟨_,Heap.get?_update_self _ ho (Obj.isFreed_of_fields (Obj.data_mapFields hd _)),(Obj.cls_mapFields ..).trans hc,by rw[Obj.data_mapFields hd];simp[rawInt]⟩ (C1.update ..))⟩))
theorem dw{it t:Addr}{i:Nat}{its:Array ζ}{Q:ζ->ι->Prop}(hh:A.handled=none)(hit:s.heap.IsTupleIter it t i)(ht:s.heap.IsTuple t its)(hx:its[i]?=none)
  (hE:∀h' e,Heap.ExtBut it s.heap h'->(∃o,h'.get? e=some o/\o.cls=.type "StopIteration")->E (.ref e) {s with heap:=h'}):wpAny (model prog w) A (ϗ (.ref it)) Q E s:=by
 obtain⟨o,ho,hc,hd⟩:=id hit
 obtain⟨ol,hol,_,nl,hdl⟩:=ht
 unfold ϗ
 refine η (ϸ (name:=γ "__next__") hit.typeIs s_ (a9 s_ hit.typeIs Fp ?_ (Ff _)))
 show wpAny _ _ (field (.ref it) 0>>=_) _ _ s;refine η (ϣ ho hd (x:=.ref t) rfl ?_)
 show wpAny _ _ (if (ώ t==A1)=true then _ else _) _ _ s;rw[Q6 (show ¬ ((ώ t==A1)=true)from Ξ)]
 show wpAny _ _ (field (.ref it) 1>>=_) _ _ s;refine η (ϣ ho hd (x:=.int i 0) rfl ?_)
 show wpAny _ _ (seqItems? (.ref t)>>=_) _ _ s;refine η (Ϻ hol hdl ?_);simp only[FZ,hx]
 refine η (FE (η (wpAny_setField ho hd () ?_)));show wpAny _ _ (newExc (.type "StopIteration") []>>=_) _ _ _
 refine η ?_;simp only[newExc,newTuple];refine η (ϻ ?_ (by size_fits))
 refine η (m:=firstArgMember _ _) (wpAny_of_eq (a:=A1) (by first|rfl|(simp only[firstArgMember];rfl)) (ϻ ?_ (by size_fits)))
 simp only[raiseNew];refine η (wpAny_handled ?_);first|rw[show A.in1.handled=none from hh]|rw[hh]
 refine η (ω (wpAny_throw (hE _ _ (((C1.update ..).extBut.push _).push _) ⟨_,Λ _ rfl,rfl⟩)))
end
section
variable{X:Cx}
end
open PySem PySem.Spec PyProof.Rows PySem.W
section
variable{X:Cx}
variable{tg:Expr}
end
noncomputable def gj(p:Prop):Bool:=@decide p (Classical.propDecidable p)
theorem dZ{p:Prop}:gj p=true↔p:=by unfold gj;exact @decide_eq_true_iff p (Classical.propDecidable p)
theorem eM{p:Prop}{b:Bool}(h:b=true↔p):b=gj p:=by rw[o9,dZ];exact h
theorem cP{p:Prop}(h:¬ p):false=gj p:=eM ⟨λz=>(nomatch z),λz=>absurd z h⟩
mutual
theorem Rep.inj{H:Hp}:∀(d e:Dv)(v:V),Rep H d v->Rep H e v->d=e
 |.tup ds,e,v,h1,h2=>by
  simp only[Rep]at h1
  obtain⟨a,vs,rfl,ha,rs⟩:=h1
  cases e with
  |tup es=>simp only[Rep]at h2;obtain⟨b,ws,eb,hb,rs2⟩:=h2;cases eb;rw[ha]at hb;cases hb;rw[Reps.inj ds es vs rs rs2]
  |lst es=>simp only[Rep]at h2;obtain⟨b,ws,eb,hb,rs2⟩:=h2;cases eb;rw[ha]at hb;cases hb
  |dct=>simp only[Rep]at h2;obtain⟨b,eb,hb⟩:=h2;cases eb;rw[ha]at hb;cases hb
  |_=>simp only[Rep]at h2;cases h2
 |.lst ds,e,v,h1,h2=>by
  simp only[Rep]at h1
  obtain⟨a,vs,rfl,ha,rs⟩:=h1
  cases e with
  |lst es=>simp only[Rep]at h2;obtain⟨b,ws,eb,hb,rs2⟩:=h2;cases eb;rw[ha]at hb;cases hb;rw[Reps.inj ds es vs rs rs2]
  |tup es=>simp only[Rep]at h2;obtain⟨b,ws,eb,hb,rs2⟩:=h2;cases eb;rw[ha]at hb;cases hb
  |dct=>simp only[Rep]at h2;obtain⟨b,eb,hb⟩:=h2;cases eb;rw[ha]at hb;cases hb
  |_=>simp only[Rep]at h2;cases h2
 |.dct,e,v,h1,h2=>by
  simp only[Rep]at h1
  obtain⟨a,rfl,ha⟩:=h1
  cases e with
  |dct=>rfl
  |tup es=>simp only[Rep]at h2;obtain⟨b,ws,eb,hb,rs2⟩:=h2;cases eb;rw[ha]at hb;cases hb
  |lst es=>simp only[Rep]at h2;obtain⟨b,ws,eb,hb,rs2⟩:=h2;cases eb;rw[ha]at hb;cases hb
  |_=>simp only[Rep]at h2;cases h2
 |.non,e,v,h1,h2=>by
  simp only[Rep]at h1;subst h1
  cases e with
  |non=>rfl
  |tup es=>simp only[Rep]at h2;obtain⟨b,ws,eb,_⟩:=h2;cases eb
  |lst es=>simp only[Rep]at h2;obtain⟨b,ws,eb,_⟩:=h2;cases eb
  |dct=>simp only[Rep]at h2;obtain⟨b,eb,_⟩:=h2;cases eb
  |_=>simp only[Rep]at h2;cases h2
 |.bl _,e,v,h1,h2=>by
  simp only[Rep]at h1;subst h1
  cases e with
  |bl b=>simp only[Rep]at h2;cases h2;rfl
  |tup es=>simp only[Rep]at h2;obtain⟨b,ws,eb,_⟩:=h2;cases eb
  |lst es=>simp only[Rep]at h2;obtain⟨b,ws,eb,_⟩:=h2;cases eb
  |dct=>simp only[Rep]at h2;obtain⟨b,eb,_⟩:=h2;cases eb
  |_=>simp only[Rep]at h2;cases h2
 |.int _,e,v,h1,h2=>by
  simp only[Rep]at h1;subst h1
  cases e with
  |int b=>simp only[Rep]at h2;cases h2;rfl
  |tup es=>simp only[Rep]at h2;obtain⟨b,ws,eb,_⟩:=h2;cases eb
  |lst es=>simp only[Rep]at h2;obtain⟨b,ws,eb,_⟩:=h2;cases eb
  |dct=>simp only[Rep]at h2;obtain⟨b,eb,_⟩:=h2;cases eb
  |_=>simp only[Rep]at h2;cases h2
 |.str _,e,v,h1,h2=>by
  simp only[Rep]at h1;subst h1
  cases e with
  |str b=>simp only[Rep]at h2;cases h2;rfl
  |tup es=>simp only[Rep]at h2;obtain⟨b,ws,eb,_⟩:=h2;cases eb
  |lst es=>simp only[Rep]at h2;obtain⟨b,ws,eb,_⟩:=h2;cases eb
  |dct=>simp only[Rep]at h2;obtain⟨b,eb,_⟩:=h2;cases eb
  |_=>simp only[Rep]at h2;cases h2
theorem Reps.inj{H:Hp}:∀(ds es:List Dv)(vs:List V),Reps H ds vs->Reps H es vs->ds=es
 |[],es,vs,h1,h2=>by
  simp only[Reps]at h1;subst h1
  cases es with
  |nil=>rfl
  |cons e es=>simp only[Reps]at h2;obtain⟨v,r,e2,_⟩:=h2;cases e2
 |d::ds,es,vs,h1,h2=>by
  simp only[Reps]at h1
  obtain⟨v,r,rfl,r1,rs1⟩:=h1
  cases es with
  |nil=>simp only[Reps]at h2;cases h2
  |cons e es=>
   simp only[Reps]at h2
   obtain⟨v2,r2,e2,r3,rs3⟩:=h2
   cases e2
   rw[Rep.inj d e v r1 r3,Reps.inj ds es r rs1 rs3]
end
inductive Pl:Nat->Dv->Prop
 |int {n:Nat} {i:Int}:Pl n (.int i)
 |str {n:Nat} {x:Str}:Pl n (.str x)
 |non {n:Nat}:Pl n .non
 |tup {n:Nat} {ds:List Dv}:(∀d∈ds,Pl n d)->Pl (n+1) (.tup ds)
theorem Pl.up{m n:Nat}{d:Dv}(h:Pl m d):m<=n->Pl n d:=by
 induction h generalizing n with
 |int=>intro _;exact .int
 |str=>intro _;exact .str
 |non=>intro _;exact .non
 |tup _ ih=>
  intro l
  obtain⟨k,rfl⟩:∃k,n=k+1:=⟨n-1,()⟩
  exact .tup λd hd=>ih d hd ()
theorem uw{ds es:List Dv}:((Ϝ (min ds.length es.length)).all (λj=>gj (ds[j]?=es[j]?))&&ds.length==es.length)=gj (Dv.tup ds=.tup es):=by
 refine eM ?_
 rw[Ζ,ϭ,beq_iff_eq]
 constructor
 ·rintro⟨h,hl⟩
  congr 1
  refine F1 λj=>?_
  by_cases hj:j<ds.length
  ·exact dZ.mp (h j (y_.mpr ()))
  ·rw[k7 (),k7 ()]
 ·intro h
  cases h
  exact⟨λj _=>dZ.mpr rfl,rfl⟩
section
variable{X:Cx}{pins:List (Addr×Obj)}{σ:St}{H:Hp}{s:ι}
theorem gE(I:Inv X pins σ H s){A:ό}{n:Nat}{ds es:List Dv}{vs ws:List V}{its its2:List ζ}
  (h:∀d∈ds,∀e∈es,∀(v w:V)(a b:ζ),Rep H d v->Rep H e w->aL v a->aL w b->ϝ A s a b (gj (d=e))) (rs1:Reps H ds vs) (rs2:Reps H es ws) (rv1:aF vs its) (rv2:aF ws its2):
  its.toArray.size=ds.length/\its2.toArray.size=es.length/\∀j (h1:j<its.toArray.size) (h2:j<its2.toArray.size),ϝ A s its.toArray[j] its2.toArray[j] (gj (ds[j]?=es[j]?)):=by
 have l1:=rs1.length
 have l2:=rs2.length
 have l3:=rv1.length
 have l4:=rv2.length
 refine⟨by simp;omega,by simp;omega,λj h1 h2=>?_⟩
 have hj:j<its.length:=by simpa using h1
 have hj2:j<its2.length:=by simpa using h2
 obtain⟨u,hu1,ru⟩:=aF.get (i:=j) (x:=vs[j]'()) rv1 (Α _)
 obtain⟨u2,hu2,ru2⟩:=aF.get (i:=j) (x:=ws[j]'()) rv2 (Α _)
 obtain⟨d,hd,Rd⟩:=rs1.get (i:=j) (v:=vs[j]'()) (Α _)
 obtain⟨d2,hd2,Rd2⟩:=rs2.get (i:=j) (v:=ws[j]'()) (Α _)
 have e1:its.toArray[j]=u:=by
  rw[Α hj]at hu1
  simpa using Ϛ hu1
 have e2:its2.toArray[j]=u2:=by
  rw[Α hj2]at hu2
  simpa using Ϛ hu2
 rw[e1,e2,hd,hd2]
 have e3:gj (some d=some d2)=gj (d=d2):=eM (by rw[dZ];exact⟨Ϛ,λz=>by rw[z]⟩)
 rw[e3]
 exact h d (Ο hd) d2 (Ο hd2) _ _ _ _ Rd Rd2 ru ru2
theorem uG(I:Inv X pins σ H s){n:Nat}{d:Dv}(h:Pl n d):∀{e:Dv},Pl n e->∀{A:ό}{v w:V}{a b:ζ},A.units+n<cLine->Rep H d v->Rep H e w->aL v a->aL w b->ϝ A s a b (gj (d=e)):=by
 induction h with
 | @int n i=>
  intro e he A v w a b hu r1 r2 q1 q2
  simp only[Rep]at r1
  subst r1
  obtain⟨t,rfl⟩:=(show ∃t,a=y9 i t from q1)
  cases he with
  | @int _ j=>simp only[Rep]at r2;subst r2;obtain⟨u,rfl⟩:=(show ∃t,b=y9 j t from q2);rw[<-eM (b:=(i==j)) (by rw[beq_iff_eq];exact⟨λz=>by rw[z],λz=>Dv.int.inj z⟩)];exact ϝ.int_int i t j u
  | @str _ x=>simp only[Rep]at r2;subst r2;obtain⟨u,rfl⟩:=(show ∃t,b=k_ x t from q2);rw[<-cP nofun];exact Fq i t x u
  |non=>simp only[Rep]at r2;subst r2;cases q2;rw[<-cP nofun];exact ϝ.int_none i t
  | @tup n es _=>simp only[Rep]at r2;obtain⟨l,ws,rfl,hl,_⟩:=r2;cases q2;obtain⟨its,_,p,_⟩:=I.tuple (SqT.of hl);rw[<-cP nofun];exact ϝ.int_tuple i t p ()
 | @str n x=>
  intro e he A v w a b hu r1 r2 q1 q2
  simp only[Rep]at r1
  subst r1
  obtain⟨t,rfl⟩:=(show ∃t,a=k_ x t from q1)
  cases he with
  | @int _ j=>simp only[Rep]at r2;subst r2;obtain⟨u,rfl⟩:=(show ∃t,b=y9 j t from q2);rw[<-cP nofun];exact Fu x t j u
  | @str _ y=>simp only[Rep]at r2;subst r2;obtain⟨u,rfl⟩:=(show ∃t,b=k_ y t from q2);rw[<-eM (b:=(x==y)) (by rw[beq_iff_eq];exact⟨λz=>by rw[z],λz=>Dv.str.inj z⟩)];exact ϝ.str_str x t y u
  |non=>simp only[Rep]at r2;subst r2;cases q2;rw[<-cP nofun];exact ϝ.str_none x t
  | @tup n es _=>simp only[Rep]at r2;obtain⟨l,ws,rfl,hl,_⟩:=r2;cases q2;obtain⟨its,_,p,_⟩:=I.tuple (SqT.of hl);rw[<-cP nofun];exact ϝ.str_tuple x t p ()
 | @non n=>
  intro e he A v w a b hu r1 r2 q1 q2
  simp only[Rep]at r1
  subst r1
  cases q1
  cases he with
  | @int _ j=>simp only[Rep]at r2;subst r2;obtain⟨u,rfl⟩:=(show ∃t,b=y9 j t from q2);rw[<-cP nofun];exact ϝ.none_int j u
  | @str _ y=>simp only[Rep]at r2;subst r2;obtain⟨u,rfl⟩:=(show ∃t,b=k_ y t from q2);rw[<-cP nofun];exact ϝ.none_str y u
  |non=>simp only[Rep]at r2;subst r2;cases q2;rw[<-eM (b:=true) ⟨λ_=>rfl,λ_=>rfl⟩];exact Gi _
  | @tup n es _=>simp only[Rep]at r2;obtain⟨l,ws,rfl,hl,_⟩:=r2;cases q2;obtain⟨its,_,p,_⟩:=I.tuple (SqT.of hl);rw[<-cP nofun];exact ϝ.none_tuple p ()
 | @tup n ds hds ih=>
  intro e he A v w a b hu r1 r2 q1 q2
  have r1':=r1
  simp only[Rep]at r1
  obtain⟨l,vs,rfl,h1,rs1⟩:=r1
  cases q1
  obtain⟨its,rv1,p1,_⟩:=I.tuple (SqT.of h1)
  cases he with
  | @int _ j=>simp only[Rep]at r2;subst r2;obtain⟨u,rfl⟩:=(show ∃t,b=y9 j t from q2);rw[<-cP nofun];exact ϝ.tuple_int j u p1 ()
  | @str _ y=>simp only[Rep]at r2;subst r2;obtain⟨u,rfl⟩:=(show ∃t,b=k_ y t from q2);rw[<-cP nofun];exact ϝ.tuple_str y u p1 ()
  |non=>simp only[Rep]at r2;subst r2;cases q2;rw[<-cP nofun];exact ϝ.tuple_none p1 ()
  | @tup _ es hes=>
   have r2':=r2
   simp only[Rep]at r2
   obtain⟨b',ws,rfl,h2,rs2⟩:=r2
   cases q2
   obtain⟨its2,rv2,p2,_⟩:=I.tuple (SqT.of h2)
   have hu':A.in1.units+n<cLine:=by show A.units+1+n<cLine;omega
   obtain⟨z1,z2,q⟩:=gE I (A:=A.in1) (n:=n) (λd hd e he v w a b r1 r2 q1 q2=>ih d hd (hes e he) hu' r1 r2 q1 q2) rs1 rs2 rv1 rv2
   by_cases hlb:l=b'
   ·subst hlb
    rw[<-eM (b:=true) ⟨λ_=>Rep.inj _ _ _ r1' r2',λ_=>rfl⟩]
    exact Gi _
   ·have r:=Gw.tuples (e:=λj=>gj (ds[j]?=es[j]?)) p1 p2 () q
    rw[z1,z2,uw]at r
    exact ϝ.of_refs hlb r
end
section
variable{X:Cx}
end
theorem jS{A:ό}{k:Nat}(hr:ca k A):A.units+150<cLine:=by have:=hr.un;omega
section
variable{X:Cx}{k:Nat}{f:Addr}{fd:Θ}{ps:List Str}{sp:Sp}{x:Str}{p pos:Pos}{e:Expr}{es:List Expr}{t:TA}
def Ca(f:Addr)(i:Nat)(sp:Sp)(t:TA):TE:=λσ H Q=>σ[i]?=some (some (.ref f))/\t σ H λvs H1=>sp (vs++[]) H1 Q E0
theorem pe_callV(i:Nat)(F:av X.prog X.w X.K X.mg X.base CX0 k f fd ps sp)(hr:ca k X.A)(hk:ϥ X.K (.ref f)=true)(hb:bQ X.K fd ps [])(ha:PA X (e::es) t)(hN:X.N[i]?=some x:=by rfl)
  (hv:Vis X.env.scope x:=by first|exact υ rfl|exact C8 (υ rfl)|exact C8 (C8 rfl)) (hd:(x==("__debug__" : Str))=false:=by decide) (hcd:(x==("__classdict__" : Str))=false:=by decide)
  (he:starEach (e::es) X.env=(false,eval e X.env)::starEach es X.env:=by rfl) (hpl:(backTo pos (starEach es X.env)).any (·.1)=false:=by rfl):PE X (.Call (.Name x p) (e::es) [] pos) (Ca f i sp t):=by
 intro pins s σ H Q I h
 obtain⟨h1,h2⟩:=h
 refine r9 (thn (xS (X:=X) (pos:=p) hN hv hd hcd pins s σ H (λv H'=>v=.ref f/\H'=H) I ⟨_,h1,rfl,rfl⟩) λu s1 ⟨v,H1,I1,r1,e1,e2⟩=>?_)
 subst e1 e2
 cases r1
 exact EQ (h₀:=X.base) I1.ok.mod.kin hk (thn (ha pos pins s1 σ _ _ I1 h2) λus s2 ⟨vs,H2,I2,r,q⟩=>⟨I2.kIn,jK F hr hb .nil eU I2 r q⟩) he hpl
end
section
variable{prog:χ}{w:Ρ}{A:ό}{E:ζ->ι->Prop}{s:ι}{r l S:Addr}{items:Array ζ}
end
section
variable{X:Cx}{e:Expr}{te:TE}{p p1 pos pos1:Pos}
end
def Itz(K:ε)(a b:Addr):It:=
 ⟨λi H=>∃xs ys x y,SqL K H a xs/\SqL K H b ys/\xs[i]?=some x/\ys[i]?=some y,λi H z H'=>∃p x y,H p=none/\H'=upd H p (.tup [x,y])/\z=.ref p/\(∀xs,SqL K H a xs->xs[i]?=some x)/\∀ys,SqL K H b ys->ys[i]?=some y,
 λi H=>∃xs ys,SqL K H a xs/\SqL K H b ys/\(xs.length<=i\/ys.length<=i)⟩
theorem aG{h:Heap}{a b:Addr}{o u:Obj}(h1:h.get? a=some o)(h2:h.get? b=some u)(n:o.cls≠u.cls):a≠b:=λz=>by subst z;rw[h1]at h2;cases h2;exact n rfl
theorem yb{P:χ}{w:Ρ}{K:ε}{elts:List Expr}{x1}{tp:Pos}(a b z TI TO i1 i2:Addr)(D1:TI≠z/\TO≠z/\i1≠z/\i2≠z/\TI≠TO/\TI≠i1/\TI≠i2/\TO≠i1/\TO≠i2/\i1≠i2):
  gY P w K (.Tuple elts x1 tp) (Itz K a b) [z,TI,TO,i1,i2] z (λi h=>r6 h z TI TO .none/\Ϭ h TI (.ref i1) (.ref i2)/\(∃u v,Ϭ h TO u v)/\h.IsListIter i1 a i/\h.IsListIter i2 b i) where
 mem:=by simp
 obj:=λi h st c hc=>by
  obtain⟨hz,hTI,⟨u,v,hTO⟩,⟨o1,e1,c1,d1⟩,⟨o2,e2,c2,d2⟩⟩:=st
  simp only[ν,ϟ,or_false]at hc
  rcases hc with rfl|rfl|rfl|rfl|rfl
  ·exact⟨_,hz,λv z=>by
    have z':FU _=B0 v:=z
    cases z'⟩
  ·exact⟨_,hTI,λv z=>by
    have z':F7 _ _=B0 v:=z
    cases z'⟩
  ·exact⟨_,hTO,λv z=>by
    have z':F7 _ _=B0 v:=z
    cases z'⟩
  ·exact⟨o1,e1,λv z=>by rw[d1]at z;cases z⟩
  ·exact⟨o2,e2,λv z=>by rw[d2]at z;cases z⟩
 keep:=λi h h' st k=>by
  obtain⟨hz,hTI,⟨u,v,hTO⟩,h1,h2⟩:=st
  exact⟨k z () _ hz,k TI () _ hTI,⟨u,v,k TO () _ hTO⟩,h1.at λo e=>k i1 () o e,h2.at λo e=>k i2 () o e⟩
 item:=by
  intro X hP hw hK hc i pins s σ H E I hf st hg
  subst hP hw hK
  obtain⟨xs,ys,x,y,hq1,hq2,hx,hy⟩:=hg
  obtain⟨its1,rv1,p1,_⟩:=I.list hq1
  obtain⟨its2,rv2,p2,_⟩:=I.list hq2
  obtain⟨u1,hu1,ru1⟩:=rv1.get hx
  obtain⟨u2,hu2,ru2⟩:=rv2.get hy
  obtain⟨hz,hTI,⟨u,v,hTO⟩,h1,h2⟩:=st
  obtain⟨d1,d2,d3,d4,d5,d6,d7,d8,d9,d10⟩:=D1
  have L1:=p1.isList
  have L2:=p2.isList
  have D:A0 z TI TO i1 i2 a b:=by
   obtain⟨o1,e1,c1,_⟩:=id L1
   obtain⟨o2,e2,c2,_⟩:=id L2
   obtain⟨o3,e3,c3,_⟩:=id h1
   obtain⟨o4,e4,c4,_⟩:=id h2
   exact⟨d1,d2,d3,d4,d5,d6,d7,d8,d9,d10,aG e1 hz (by rw[c1];exactλz=>absurd (Μ z) ()),aG e1 hTO (by rw[c1];exactλz=>absurd (Μ z) ()),aG e1 e3 (by rw[c1,c3];exactλz=>absurd (Μ z) ()),aG e1 e4 (by rw[c1,c4];exactλz=>absurd (Μ z) ()),
    aG e2 hz (by rw[c2];exactλz=>absurd (Μ z) ()),aG e2 hTO (by rw[c2];exactλz=>absurd (Μ z) ()),aG e2 e3 (by rw[c2,c3];exactλz=>absurd (Μ z) ()),aG e2 e4 (by rw[c2,c4];exactλz=>absurd (Μ z) ())⟩
  refine wpAny_pyNext_zip_item D hz hTI hTO h1 h2 L1 L2 (x:=u1) (y:=u2) (by simpa using hu1) (by simpa using hu2) λh3 a1 a2 a3 a4 a5 a6 hk=>?_
  refine⟨_,rfl,C7 a1 λh4 hz4 hs4=>?_⟩
  have hzl:z<s.heap.objs.size:=Β hz
  have hn:H s.heap.objs.size=none:=I.hok.fresh (π _)
  have keep:∀c o,c≠z->c≠TO->c≠i1->c≠i2->s.heap.get? c=some o->h4.get? c=some o:=λc o c1 c2 c3 c4 q=>(hs4.2 c c1).trans (hk c o c1 c2 c3 c4 q)
  have tup:h4.get? s.heap.objs.size=some {cls:=.type "tuple",data:=.seq #[u1,u2]}:=(hs4.2 _ (ngt hzl)).trans a5
  have fpn:∀c∈[z,TI,TO,i1,i2],H c=none:=λc hc=>(hf c hc).1
  have nit:∀c v,H c=some v->c≠z/\c≠TO/\c≠i1/\c≠i2:=λc v q=>⟨(λe=>by rw[e,fpn z ()]at q;cases q),(λe=>by rw[e,fpn TO ()]at q;cases q),(λe=>by rw[e,fpn i1 ()]at q;cases q),(λe=>by rw[e,fpn i2 ()]at q;cases q)⟩
  have kch:∀c o,c∉[z,TO,i1,i2]->s.heap.get? c=some o->h4.get? c=some o:=λc o hc q=>keep c o (λe=>hc (by simp[e])) (λe=>hc (by simp[e])) (λe=>hc (by simp[e])) (λe=>hc (by simp[e])) q
  have I2:Inv X pins σ (upd H s.heap.objs.size (.tup [x,y])) {s with heap:=h4,toks:=s.toks}:=by
   refine I.step (g':=s.gens) (d':=s.drawn) (ch:=[z,TO,i1,i2]) (λc hc=>?_) (λc o _ _ hc' q _=>kch c o hc' q) (λc o _ _ hc' q _=>⟨o.slots,kch c o hc' q⟩) (λc o _ q n=>by rw[ao (nlt (Β q))];exact n) (λc o hc' q=>⟨o,kch c o hc' q⟩)
    (λc xs q=>by rw[ao (ah q hn)];exact q) (λc o v q=>by rw[ao (ah q hn)];exact q) (λc ps q=>⟨#[],by rw[ao (ah q hn),q];simp⟩) (λm hm=>?_) (λc v q=>?_) I.bare
   ·have hc':c∈[z,TI,TO,i1,i2]:=by
     simp only[ν,ϟ,or_false]at hc⊢
     rcases hc with e|e|e|e<;>simp[e]
    obtain⟨f0,f1,f2,f3,f4,f5⟩:=hf c hc'
    exact⟨f3,f1,f4,f5⟩
   ·obtain⟨o,es,ep,ho,r⟩:=hm
    exact⟨o,es,ep,keep _ o (ϋ (hf z ()).2.1) (ϋ (hf TO ()).2.1) (ϋ (hf i1 ()).2.1) (ϋ (hf i2 ()).2.1) ho,r⟩
   ·by_cases hb:c=s.heap.objs.size
    ·subst hb
     rw[aa]at q
     cases q
     exact⟨(show 2<=sizeLine by rw[θ];decide),[u1,u2],.cons ru1 (.cons ru2 .nil),⟨_,tup,rfl,0,rfl⟩,_,tup,rfl⟩
    ·rw[ao hb]at q
     refine(I.hok c v q).stay (λc' w' hc' q'=>?_) (λc' q'=>by rw[ao (ah q' hn)];exact q') λc' xs q'=>by rw[ao (ah q' hn)];exact q'
     rcases hc' with e|e
     ·subst e;obtain⟨n1,n2,n3,n4⟩:=nit c' v q;exact keep c' w' n1 n2 n3 n4 q'
     ·obtain⟨n1,n2,n3,n4⟩:=nit c' _ e;exact keep c' w' n1 n2 n3 n4 q'
  refine⟨.ref s.heap.objs.size,_,I2,rfl,⟨_,x,y,hn,rfl,rfl,λxs' h'=>by rw[I.list_inj h' hq1];exact hx,λys' h'=>by rw[I.list_inj h' hq2];exact hy⟩,?_,λc hc=>?_⟩
  ·exact⟨hz4,hs4.extBut _ _ d1 (hk TI _ d1 d5 d6 d7 hTI),⟨_,_,hs4.extBut _ _ d2 a2⟩,a3.at λo e=>hs4.extBut _ _ d3 e,a4.at λo e=>hs4.extBut _ _ d4 e⟩
  ·have hb':c<s.heap.objs.size:=by
    simp only[ν,ϟ,or_false]at hc
    obtain⟨o3,e3,_⟩:=h1
    obtain⟨o4,e4,_⟩:=h2
    rcases hc with e|e|e|e|e
    ·rw[e];exact hzl
    ·rw[e];exact Β hTI
    ·rw[e];exact Β hTO
    ·rw[e];exact Β e3
    ·rw[e];exact Β e4
   rw[ao (nlt hb')]
   exact fpn c hc
 done:=by
  intro X hP hw hK hc i pins s σ H E I hf st hg
  subst hP hw hK
  obtain⟨xs,ys,hq1,hq2,hend⟩:=hg
  obtain⟨its1,rv1,p1,_⟩:=I.list hq1
  obtain⟨its2,rv2,p2,_⟩:=I.list hq2
  obtain⟨hz,hTI,⟨u,v,hTO⟩,h1,h2⟩:=st
  obtain⟨d1,d2,d3,d4,d5,d6,d7,d8,d9,d10⟩:=D1
  have L1:=p1.isList
  have L2:=p2.isList
  have D:A0 z TI TO i1 i2 a b:=by
   obtain⟨o1,e1,c1,_⟩:=id L1
   obtain⟨o2,e2,c2,_⟩:=id L2
   obtain⟨o3,e3,c3,_⟩:=id h1
   obtain⟨o4,e4,c4,_⟩:=id h2
   exact⟨d1,d2,d3,d4,d5,d6,d7,d8,d9,d10,aG e1 hz (by rw[c1];exactλz=>absurd (Μ z) ()),aG e1 hTO (by rw[c1];exactλz=>absurd (Μ z) ()),aG e1 e3 (by rw[c1,c3];exactλz=>absurd (Μ z) ()),aG e1 e4 (by rw[c1,c4];exactλz=>absurd (Μ z) ()),
    aG e2 hz (by rw[c2];exactλz=>absurd (Μ z) ()),aG e2 hTO (by rw[c2];exactλz=>absurd (Μ z) ()),aG e2 e3 (by rw[c2,c3];exactλz=>absurd (Μ z) ()),aG e2 e4 (by rw[c2,c4];exactλz=>absurd (Μ z) ())⟩
  have l1:=rv1.length
  have l2:=rv2.length
  have fpn:∀c∈[z,TI,TO,i1,i2],H c=none:=λc hc=>(hf c hc).1
  refine wpAny_pyNext_zip_end (I.ok.hd hc) D hz hTI hTO h1 h2 L1 L2 (hend.imp (λh=>by simp;omega) λh=>by simp;omega) λh4 hk=>⟨rfl,?_⟩
  have nit:∀c v,H c=some v->c≠z/\c≠TO/\c≠i1/\c≠i2:=λc v q=>⟨(λe=>by rw[e,fpn z ()]at q;cases q),(λe=>by rw[e,fpn TO ()]at q;cases q),(λe=>by rw[e,fpn i1 ()]at q;cases q),(λe=>by rw[e,fpn i2 ()]at q;cases q)⟩
  have kch:∀c o,c∉[z,TO,i1,i2]->s.heap.get? c=some o->h4.get? c=some o:=λc o hc q=>hk c o (λe=>hc (by simp[e])) (λe=>hc (by simp[e])) (λe=>hc (by simp[e])) (λe=>hc (by simp[e])) q
  refine I.step (t':=s.toks) (g':=s.gens) (d':=s.drawn) (ch:=[z,TO,i1,i2]) (λc hc=>?_) (λc o _ _ hc' q _=>kch c o hc' q) (λc o _ _ hc' q _=>⟨o.slots,kch c o hc' q⟩) (λc o _ q n=>n) (λc o hc' q=>⟨o,kch c o hc' q⟩)
   (λc xs q=>q) (λc o v q=>q) (λc ps q=>⟨#[],by rw[q];simp⟩) (λm hm=>?_) (λc v q=>?_) I.bare
  ·have hc':c∈[z,TI,TO,i1,i2]:=by
    simp only[ν,ϟ,or_false]at hc⊢
    rcases hc with e|e|e|e<;>simp[e]
   obtain⟨f0,f1,f2,f3,f4,f5⟩:=hf c hc'
   exact⟨f3,f1,f4,f5⟩
  ·obtain⟨o,es,ep,ho,r⟩:=hm
   exact⟨o,es,ep,hk _ o (ϋ (hf z ()).2.1) (ϋ (hf TO ()).2.1) (ϋ (hf i1 ()).2.1) (ϋ (hf i2 ()).2.1) ho,r⟩
  ·refine(I.hok c v q).stay (λc' w' hc' q'=>?_) (λc' q'=>q') λc' xs q'=>q'
   rcases hc' with e|e
   ·subst e;obtain⟨n1,n2,n3,n4⟩:=nit c' v q;exact hk c' w' n1 n2 n3 n4 q'
   ·obtain⟨n1,n2,n3,n4⟩:=nit c' _ e;exact hk c' w' n1 n2 n3 n4 q'
 self:=λA i s Q E st h=>F8 st.1 h
section
variable{X:Cx}
def Ea(K:ε)(ta:TA):TI:=λσ H R=>ta σ H λvs H1=>∃a b,vs=[.ref a,.ref b]/\(∃xs,SqL K H1 a xs)/\(∃ys,SqL K H1 b ys)/\R (Itz K a b) H1
theorem pi_zip{a b:Expr}{ta:TA}{p pos:Pos}{elts:List Expr}{x1}{tp:Pos}(hg:Gl X "zip")(hm:X.mg "zip"=none)(ha:PA X [a,b] ta)(hs:starEach [a,b] X.env=(false,eval a X.env)::starEach [b] X.env:=by rfl)(hpl:(backTo pos (starEach [b] X.env)).any (·.1)=false:=by rfl):
  PI X (.Tuple elts x1 tp) (.Call (.Name "zip" p) [a,b] [] pos) (Ea X.K ta):=by
 intro pins s σ H R I h
 refine Call_ (fc I hg hm (u:=.type "zip") () (b_ (thn (ha pos pins s σ H _ I h) λus s1 ⟨vs,H1,I1,r1,q1⟩=>?_) hs hpl))
 obtain⟨l,m,e,⟨xs,hq1⟩,⟨ys,hq2⟩,q⟩:=q1
 subst e
 obtain⟨u,w',rfl,ru,rw'⟩:=mQ r1
 cases ru
 cases rw'
 obtain⟨its1,rv1,p1,_⟩:=I1.list hq1
 obtain⟨its2,rv2,p2,_⟩:=I1.list hq2
 refine call_zip_2 p1.isList p2.isList λh' hz hTI hTO hi1 hi2 hsz kp=>?_
 have I2:Inv X pins σ H1 {s1 with heap:=h'}:=I1.kept (t':=s1.toks) kp
 have add:∀(n i j:Nat),i≠j->n+i≠n+j:=λn i j h z=>h (Fl z)
 have T:gY X.prog X.w X.K (.Tuple elts x1 tp) (Itz X.K l m) [s1.heap.objs.size+4,s1.heap.objs.size+2,s1.heap.objs.size+3,s1.heap.objs.size,s1.heap.objs.size+1] (s1.heap.objs.size+4) _:=
  yb l m (s1.heap.objs.size+4) (s1.heap.objs.size+2) (s1.heap.objs.size+3) s1.heap.objs.size (s1.heap.objs.size+1)
   ⟨add _ 2 4 (),add _ 3 4 (),add _ 0 4 (),add _ 1 4 (),add _ 2 3 (),add _ 2 0 (),add _ 2 1 (),add _ 3 0 (),add _ 3 1 (),add _ 0 1 ()⟩
 refine T.self X.A 0 {s1 with heap:=h'} _ _ ⟨hz,hTI,⟨_,_,hTO⟩,hi1,hi2⟩ ?_
 refine⟨s1.heap.objs.size+4,_,_,_,H1,rfl,I2,T,⟨hz,hTI,⟨_,_,hTO⟩,hi1,hi2⟩,λb hb=>?_,q⟩
 have hb':s1.heap.objs.size<=b:=by
  simp only[ν,ϟ,or_false]at hb
  rcases hb with e|e|e|e|e
  ·rw[e];exact Ϩ _ _
  ·rw[e];exact Ϩ _ _
  ·rw[e];exact Ϩ _ _
  ·rw[e];exact π _
  ·rw[e];exact Ϩ _ _
 obtain⟨f0,f1⟩:=I1.fpOk hb' (I1.hok.fresh hb')
 exact⟨f0,f1⟩
end
section
variable{X:Cx}{pins:List (Addr×Obj)}{s:ι}{σ:St}{H:Hp}
end
section
variable{X:Cx}
end
section
end
section
variable{prog:χ}{w:Ρ}{A:ό}{E:ζ->ι->Prop}{s:ι}
end
section
variable{X:Cx}{tg e:Expr}{ta:TA}{p pos:Pos}
end
section
variable{X:Cx}
end
open PySem PySem.Spec PyProof.Rows
theorem pe_def0{X:Cx}{k:Nat}{x:Str}{ps:List Str}{sp:Sp}{p pos:Pos}(d:Def X.prog X.w X.K X.mg X.base k x ps sp)(hr:ca k X.A)(hg:Gl X x)(hdb:(x==("__debug__" : Str))=false:=by decide):PE X (.Call (.Name x p) [] [] pos) (mX sp [] E0 qV):=by
 obtain⟨f,fd,F,b,kp,m⟩:=d.ex
 exact zc F hr hg m kp b .nil eU hdb
section
variable{σ:St}{H:Hp}{d e:Dv}{ds es:List Dv}{ta tb:TE}{t:TA}{l:Addr}
variable{i:Nat}{u:TS}{D:bZ}
end
open PySem PySem.Spec PyProof.Rows PySem.W
abbrev TF:=St->Hp->Str->(Str->Hp->Prop)->Prop
section
variable{X:Cx}
def PF(X:Cx)(es:List Expr)(t:TF):Prop:=∀(pins:List (Addr×Obj))(s:ι)(σ:St)(H:Hp)(acc:Str)(Q:Str->Hp->Prop),Inv X pins σ H s->t σ H acc Q->Joins (model X.prog X.w) X.A X.xe (evalEach es X.env) acc (λout s'=>∃H',Inv X pins σ H' s'/\Q out H') s
def DE:TF:=λ_ H acc Q=>Q acc H
def Bn(te:TE)(t:TF):TF:=λσ H acc Q=>te σ H λx H1=>∃y,x=.str y/\(acc++y).length<=sizeLine/\t σ H1 (acc++y) Q
def tFv(te:TE):TE:=λσ H Q=>te σ H λx H1=>∃y,x=.str y/\y.length<=sizeLine/\Q (.str y) H1
def tFs(t:TF):TE:=λσ H Q=>t σ H d_ λout H'=>out.length<=sizeLine/\Q (.str out) H'
theorem pf_nil:PF X [] DE:=λpins s σ H acc Q I h=>⟨H,I,h⟩
theorem pf_cons{e:Expr}{es:List Expr}{te:TE}{t:TF}(he:PE X e te)(hr:PF X es t):PF X (e::es) (Bn te t):=λpins s σ H acc Q I h=>
 thn (he pins s σ H _ I h) λv s1 ⟨x,H1,I1,r1,y,ex,hy,q⟩=>by
  subst ex
  obtain⟨k,rfl⟩:=r1
  exact⟨y,k,rfl,hy,hr pins s1 σ H1 (acc++y) Q I1 q⟩
theorem pe_fv{e:Expr}{te:TE}{pos:Pos}(he:PE X e te):PE X (.FormattedValue e (-1) none pos) (tFv te):=λpins s σ H Q I h=>
 FF (thn (he pins s σ H _ I h) λv s1 ⟨x,H1,I1,r1,y,ex,hy,q⟩=>by
  subst ex
  obtain⟨k,rfl⟩:=r1
  exact wpAny_formatField_str ⟨.str y,H1,I1,⟨k,rfl⟩,q⟩ ⟨.str y,H1,I1.tok _,⟨_,rfl⟩,q⟩ hy)
theorem nF{M:Model}{A:ό}{E:ζ->ι->Prop}:∀{es:List (Sem ζ)}{acc:Str}{Q Q':Str->ι->Prop}{s:ι},(∀o s',Q o s'->Q' o s')->Joins M A E es acc Q s->Joins M A E es acc Q' s
 |[],_,_,_,_,h,j=>h _ _ j
 |x::es,acc,Q,Q',s,h,j=>n9 j (λv s1 ⟨y,k,e,hy,j'⟩=>⟨y,k,e,hy,nF h j'⟩) λ_ _ e=>e
theorem pe_fstr{a b:Expr}{es:List Expr}{t:TF}{pos:Pos}(h:PF X (a::b::es) t):PE X (.JoinedStr (a::b::es) pos) (tFs t):=λpins s σ H Q I q=>
 wpAny_JoinedStr (nF (λo s' ⟨H',I',ho,q'⟩=>⟨ho,.str o,H',I'.tok _,⟨_,rfl⟩,q'⟩) (h pins s σ H _ _ I q))
end
section
variable{prog:χ}{w:Ρ}{A:ό}{E:ζ->ι->Prop}{s:ι}
theorem uk{t sl:Addr}{items:Array ζ}{lo st:Int}{n:Nat}{Q:ζ->ι->Prop}(ht:GB s.heap t items)(hTs:s.TypeIs (.ref sl) "slice")
  (hap:∀{A':ό}{E':ζ->ι->Prop}{Q':Int×Int×Nat->ι->Prop},Q' (lo,st,n) s->wpAny (model prog w) A' (B5 (.ref sl) (pure (items.size:Int))) Q' E' s)
  (hw:(lo==0&&st==1&&n==items.size)=true->Q (.ref t) s)
  (hn:Q (.ref s.heap.objs.size) {s with heap:=s.heap.push {cls:=.type "tuple",data:=.seq ((Ϝ n).filterMap λ(k:Nat)=>items[(lo+(k:Int)*st).toNat]?).toArray} })
  (hsz:((Ϝ n).filterMap λ(k:Nat)=>items[(lo+(k:Int)*st).toNat]?).toArray.size<=sizeLine):wpAny (model prog w) A (getItem (.ref t) (.ref sl)) Q E s:=by
 unfold getItem;try with_reducible refine A_ ?_
 (first|refine η (ω ?_)|skip);refine η (wpAny_sequenceKey ht.typeIs () ?_)
 refine η (ϸ (name:=γ "__getitem__") ht.typeIs ϱ (a9 ϱ ht.typeIs entry_tuple_getitem ?_ (args_tuple_getitem _ _)))
 show wpAny _ _ (Fz (.ref t)>>=_) _ _ s;refine η (tupleItemsOf_ ht ?_)
 refine η (wpAny_typeOf hTs ?_);rw[Q5 ()]
 refine η (hap ?_)
 show wpAny _ _ (if (lo==0&&st==1&&n==items.size)=true then _ else _) _ _ s
 by_cases c:(lo==0&&st==1&&n==items.size)=true
 ·rw[Q5 c]
  refine η (m:=FG (.ref t)) ?_
  unfold FG
  refine η (wpAny_typeOf ht.typeIs (ω ?_))
  show wpAny _ _ (if (Fv "tuple" == Fv "tuple")=true then _ else _) _ _ s
  rw[Q5 ()]
  exact η (FE (η (ω (ω ⟨_,rfl,ω (hw c)⟩))))
 ·rw[Q6 c]
  first
   |exact η (m:=ϰ _) (ϻ (ω ⟨_,rfl,ω hn⟩) hsz)
   |exact η (m:=ϰ _) (ϻ (η (ω (ω ⟨_,rfl,ω hn⟩))) hsz)
   |exact η (η (m:=ϰ _) (ϻ (ω (ω ⟨_,rfl,ω hn⟩)) hsz))
   |exact η (η (m:=ϰ _) (ϻ (ω ⟨_,rfl,ω hn⟩) hsz))
end
section
variable{X:Cx}
def Db(K:ε):V->Option Int->Option Int->Hp->VK->Prop:=λx lo hi H Q=>∃a xs,x=.ref a/\SqT K H a xs/\(bU xs lo hi=xs->Q (.ref a) H)/\∀p,H p=none->Q (.ref p) (upd H p (.tup (bU xs lo hi)))
theorem gi:SlR X (Db X.K):=by
 intro pins s σ H x v vl vu lo hi sl Q I rx hs pl pu h
 obtain⟨a,xs,rfl,hx,hw,q⟩:=h
 cases rx
 by_cases c:HT.sIx xs.length 0 lo=0/\HT.sIx xs.length xs.length hi=xs.length
 ·obtain⟨its,r,ht,hz⟩:=I.tuple hx
  have hlen:its.toArray.size=xs.length:=by rw[Δ];exact r.length.symm
  have ec:bU xs lo hi=xs:=by unfold bU;rw[c.1,c.2];simp
  obtain⟨os,hos,hcs,hds⟩:=id hs
  refine⟨"tuple",_,ϱ.lookup,ht.typeIs,uk (lo:=((HT.sIx its.toArray.size 0 lo:Nat):Int)) (st:=1) (n:=HT.sIx its.toArray.size its.toArray.size hi-HT.sIx its.toArray.size 0 lo) ht ⟨os,hos,hcs⟩ (λq'=>HT.sliceApplied_gen hs pl pu q') (λ_=>⟨.ref a,H,I,rfl,hw ec⟩) ?_ ?_⟩
  ·rw[HT.pick_gen,hlen]
   refine⟨.ref s.heap.objs.size,_,I.laid (t':=s.toks) (o:=.tup (bU xs lo hi)) (λb ob q=>ρ _ q) (π _) ?_,rfl,q _ (I.hok.fresh (π _))⟩
   exact⟨a7 (fv xs lo hi) hz,_,(r.drop (HT.sIx xs.length 0 lo)).take (HT.sIx xs.length xs.length hi-HT.sIx xs.length 0 lo),Gp _ _,NoD.new _ rfl⟩
  ·rw[HT.pick_gen,Δ,Υ,Ϸ]
   have:its.toArray.toList.length=xs.length:=by simpa using hlen
   omega
 ·exact BP pins s σ H (.ref a) (.ref a) vl vu lo hi sl Q I rfl hs pl pu ⟨a,xs,rfl,hx,c,q⟩
end
section
variable{prog:χ}{w:Ρ}{A:ό}{E:ζ->ι->Prop}{s:ι}
end
section
variable{X:Cx}
end
def look(kvs:List (Str×Addr))(k:Str):Option Addr:=(kvs.find? λp=>decide (p.1=k)).map (·.2)
structure FD(P:χ)(w:Ρ)(K:ε)(a:Addr)(kvs:List (Str×Addr)):Prop where
 nd:(kvs.map (·.1)).Nodup
 lo:(a==sysModules)=false
 ex:∃o es ep,K.lookup a=some o/\o.ExactDict/\o.data=.dict es ep/\KeysOf (aS P w) es/\Pairs (aS P w) es.toList (kvs.map λp=>((Ϧ p.1:Key),ώ p.2))
theorem kf(kvs:List (Str×Addr))(k:Str):valueAt (kvs.map λp=>((Ϧ p.1:Key),ώ p.2)) (Ϧ k)=(look kvs k).map ώ:=by
 unfold valueAt look
 induction kvs with
 |nil=>rfl
 |cons p kvs ih=>
  rw[Χ,j_,j_]
  by_cases h:p.1=k
  ·rw[Q9 h,show decide ((Ϧ p.1:Key)=Ϧ k)=true from Q9 (by rw[h])]
   rfl
  ·rw[Q8 h,show decide ((Ϧ p.1:Key)=Ϧ k)=false from Q8 (λz=>h (by injection z))]
   exact ih
section
variable{X:Cx}{pins:List (Addr×Obj)}{s:ι}{σ:St}{H:Hp}{a:Addr}{kvs:List (Str×Addr)}
theorem FD.of(f:FD X.prog X.w X.K a kvs)(I:Inv X pins σ H s):s.heap.DictOf (aS X.prog X.w) a (kvs.map λp=>((Ϧ p.1:Key),ώ p.2)):=by
 obtain⟨o,es,ep,hk,h1,h2,h3,h4⟩:=f.ex
 refine⟨o,es,ep,I.kIn a o hk,h1,h2,h3,h4,?_⟩
 have e:(kvs.map λp=>((Ϧ p.1:Key),ώ p.2)).map (·.1)=(kvs.map (·.1)).map Ϧ:=by rw[Ψ,Ψ];rfl
 rw[e]
 exact List.Pairwise.map Ϧ (λa b h z=>h (by injection z)) f.nd
def DC(a:Addr)(kvs:List (Str×Addr))(neg:Bool):R2:=λx y H Q=>∃k,x=.str k/\y=.ref a/\Q (.bl (xor neg (look kvs k).isSome)) H
theorem Co(f:FD X.prog X.w X.K a kvs):OpR X (compareOp .In) (DC a kvs false):=by
 intro pins s σ H x y v u Q I rx ry h
 obtain⟨k,rfl,rfl,q⟩:=h
 cases ry
 refine wpAny_in_of (qY (k:=Ϧ k) rx) f.lo (f.of I).mapOf ?_
 rw[kf,EW]
 exact⟨.bl (look kvs k).isSome,H,I.tok _,rfl,by simpa using q⟩
theorem mR(f:FD X.prog X.w X.K a kvs):OpR X (compareOp .NotIn) (DC a kvs true):=by
 intro pins s σ H x y v u Q I rx ry h
 obtain⟨k,rfl,rfl,q⟩:=h
 cases ry
 refine wpAny_notIn_of (qY (k:=Ϧ k) rx) f.lo (f.of I).mapOf ?_
 rw[kf,EW]
 exact⟨.bl (!(look kvs k).isSome),H,I.tok _,rfl,by simpa using q⟩
def Dw(a:Addr)(kvs:List (Str×Addr))(td ty:TE):TE:=λσ H Q=>td σ H λx H1=>ty σ H1 λy H2=>∃k b,x=.ref a/\y=.str k/\look kvs k=some b/\Q (.ref b) H2
theorem pe_getF{o i:Expr}{td ty:TE}{pos:Pos}(f:FD X.prog X.w X.K a kvs)(ho:PE X o td)(hi:PE X i ty)(hs:Dc i):PE X (.Subscript o i pos) (Dw a kvs td ty):=by
 intro pins s σ H Q I h
 refine AE PySem.F.slot_dict_getitem.lookup hs (thn (ho pins s σ H _ I h) λu s1 ⟨x,H1,I1,rx,q1⟩=>thn (hi pins s1 σ H1 _ I1 q1) λiv s2 ⟨y,H2,I2,ry,k,b,ex,ey,hl,q2⟩=>?_)
 subst ex ey
 obtain rfl:u=ώ a:=rx
 refine⟨(f.of I2).typeIs,wpAny_getItem_of (v:=.ref b) (qY (k:=Ϧ k) ry) (f.of I2).mapOf (by rw[kf,hl];rfl) ⟨.ref b,H2,I2.tok _,rfl,q2⟩⟩
end
abbrev oU(h:Heap)(l1:Addr):Heap:=h.push {cls:=.type "tuple_iterator",data:=.fields #[.ref l1,.int 0 0]}
abbrev pJ(h:Heap)(l1 l2:Addr):Heap:=(oU h l1).push {cls:=.type "tuple_iterator",data:=.fields #[.ref l2,.int 0 0]}
abbrev pf(h:Heap)(l1 l2:Addr):Heap:=(pJ h l1 l2).push {cls:=.type "tuple",data:=.seq #[.ref h.objs.size,.ref (oU h l1).objs.size]}
abbrev oZ(h:Heap)(l1 l2:Addr):Heap:=(pf h l1 l2).push {cls:=.type "tuple",data:=.seq #[.none,.none]}
abbrev iQ(h:Heap)(l1 l2:Addr):Heap:=(oZ h l1 l2).push {cls:=.type "zip",data:=.fields #[.none,.bool false,.bool false,.ref (pJ h l1 l2).objs.size,.ref (pf h l1 l2).objs.size]}
section
variable{prog:χ}{w:Ρ}{A:ό}{E:ζ->ι->Prop}{s:ι}
theorem sd{z TI TO i1 i2 l1 l2:Addr}{k1 k2:Nat}{xs ys:Array ζ}{x y a b:ζ}{Q:ζ->ι->Prop}(D:A0 z TI TO i1 i2 l1 l2)(hz:r6 s.heap z TI TO .none)(hTI:Ϭ s.heap TI (.ref i1) (.ref i2))(hTO:Ϭ s.heap TO a b)
  (h1:s.heap.IsTupleIter i1 l1 k1) (h2:s.heap.IsTupleIter i2 l2 k2) (hl1:s.heap.IsTuple l1 xs) (hl2:s.heap.IsTuple l2 ys) (hx:xs[k1]?=some x) (hy:ys[k2]?=some y)
  (hQ:∀h',r6 h' z TI TO (rawInt s.heap.objs.size)->Ϭ h' TO x y->h'.IsTupleIter i1 l1 (k1+1)->h'.IsTupleIter i2 l2 (k2+1)->Ϭ h' s.heap.objs.size x y->(∀c o,c≠z->c≠TO->c≠i1->c≠i2->s.heap.get? c=some o->h'.get? c=some o)->Q (.ref s.heap.objs.size) {s with heap:=h'}):
  wpAny (model prog w) A (v_.«zip.__next__» ⟨[.ref z],[]⟩) (λfin s'=>∃v,fin=.done (.ret v)/\Q v s') E s:=by
 show wpAny _ _ (field (.ref z) 2>>=_) _ _ _;refine η (ϣ hz rfl (x:=.bool false) rfl ?_)
 show wpAny _ _ (field (.ref z) 3>>=_) _ _ _;refine η (ϣ hz rfl (x:=.ref TI) rfl ?_);refine η (Ϻ hTI rfl ?_)
 show wpAny _ _ (Ϙ (.ref z)>>=_) _ _ _;refine η ?_;unfold Ϙ
 refine η (ϣ hz rfl (x:=.none) rfl (ω ?_));simp only[if_true];refine η (FE ?_)
 refine η (ϣ hz rfl (x:=.ref TO) rfl ?_);refine η (ϩ hz () λg1 z1 c1=>?_)
 replace z1:r6 g1 z TI TO .ellipsis:=z1
 refine η ?_;simp only[E9,Fg,EJ,FH];refine η (η (x_ ?_))
 show wpAny _ _ (ϗ (.ref i1)>>=_) _ _ _;refine η (bD (h1.extBut c1.extBut D.i1z) (hl1.extBut c1.extBut D.l1z) hx λg2 it2 c2=>ω ?_)
 have t2:Ϭ g2 TO a b:=c2.extBut _ _ D.TOi1 (c1.extBut _ _ D.TOz hTO)
 refine η (Ϻ t2 rfl ?_);refine η (m7 t2 λg3 t3 c3=>?_)
 replace t3:Ϭ g3 TO x b:=t3
 refine η (Fb (ω ?_));refine η (η (x_ ?_))
 show wpAny _ _ (ϗ (.ref i2)>>=_) _ _ _;refine η (bD (((h2.extBut c1.extBut D.i2z).extBut c2.extBut D.i12.symm).extBut c3.extBut D.TOi2.symm) (((hl2.extBut c1.extBut D.l2z).extBut c2.extBut D.l2i1).extBut c3.extBut D.l2TO) hy λg4 it4 c4=>ω ?_)
 have t4:Ϭ g4 TO x b:=c4.extBut _ _ D.TOi2 t3
 refine η (Ϻ t4 rfl ?_);refine η (m7 t4 λg5 t5 c5=>?_)
 replace t5:Ϭ g5 TO x y:=t5
 refine η (Fb (ω (ω ?_)));refine η (Ϻ t5 rfl ?_);refine η (Gn ?_)
 have sz:g5.objs.size=s.heap.objs.size:=by rw[c5.1,c4.1,c3.1,c2.1,c1.1]
 have z5:r6 g5 z TI TO .ellipsis:=c5.extBut _ _ D.TOz.symm (c4.extBut _ _ D.i2z.symm (c3.extBut _ _ D.TOz.symm (c2.extBut _ _ D.i1z.symm z1)))
 have k5:∀c o,c≠z->c≠TO->c≠i1->c≠i2->s.heap.get? c=some o->g5.get? c=some o:=λc o d1 d2 d3 d4 e=>c5.extBut _ _ d2 (c4.extBut _ _ d4 (c3.extBut _ _ d2 (c2.extBut _ _ d3 (c1.extBut _ _ d1 e))))
 have j1:g5.IsTupleIter i1 l1 (k1+1):=((it2.extBut c3.extBut D.TOi1.symm).extBut c4.extBut D.i12).extBut c5.extBut D.TOi1.symm
 have j2:g5.IsTupleIter i2 l2 (k2+1):=it4.extBut c5.extBut D.TOi2.symm
 have zlt:z<g5.objs.size:=Β z5
 show wpAny _ _ (i7 (.ref z) (.ref g5.objs.size)>>=_) _ _ _;refine η ?_;unfold i7
 have z6:r6 (g5.push {cls:=.type "tuple",data:=.seq #[x,y]}) z TI TO .ellipsis:=ρ _ z5
 refine η (ϩ z6 () λg7 z7 c7=>?_)
 replace z7:r6 g7 z TI TO (rawInt g5.objs.size):=z7
 refine ϩ z7 () λg8 z8 c8=>?_
 replace z8:r6 g8 z TI TO (rawInt g5.objs.size):=z8
 have up:∀c o,c≠z->g5.get? c=some o->g8.get? c=some o:=λc o d1 e=>c8.extBut _ _ d1 (c7.extBut _ _ d1 (ρ _ e))
 have p8:Ϭ g8 g5.objs.size x y:=c8.extBut _ _ (A2 zlt) (c7.extBut _ _ (A2 zlt) (Λ _ rfl))
 rw[sz]at z8 p8
 refine ω ⟨_,rfl,?_⟩
 show Q (.ref g5.objs.size) _;rw[sz]
 exact hQ g8 z8 (up _ _ D.TOz t5) (j1.at λo e=>up _ o D.i1z e) (j2.at λo e=>up _ o D.i2z e) p8 λc o d1 d2 d3 d4 e=>up c o d1 (k5 c o d1 d2 d3 d4 e)
theorem wB{z TI TO i1 i2 l1 l2:Addr}{k1 k2:Nat}{xs ys:Array ζ}{a b:ζ}{Q:Fin->ι->Prop}(hh:A.handled=none)(D:A0 z TI TO i1 i2 l1 l2)(hz:r6 s.heap z TI TO .none)(hTI:Ϭ s.heap TI (.ref i1) (.ref i2))(hTO:Ϭ s.heap TO a b)
  (h1:s.heap.IsTupleIter i1 l1 k1) (h2:s.heap.IsTupleIter i2 l2 k2) (hl1:s.heap.IsTuple l1 xs) (hl2:s.heap.IsTuple l2 ys) (hend:xs[k1]?=none\/ys[k2]?=none)
  (hE:∀h' e,(∀c o,c≠z->c≠TO->c≠i1->c≠i2->s.heap.get? c=some o->h'.get? c=some o)->(∃o,h'.get? e=some o/\o.cls=.type "StopIteration")->E (.ref e) {s with heap:=h'}):wpAny (model prog w) A (v_.«zip.__next__» ⟨[.ref z],[]⟩) Q E s:=by
 show wpAny _ _ (field (.ref z) 2>>=_) _ _ _;refine η (ϣ hz rfl (x:=.bool false) rfl ?_)
 show wpAny _ _ (field (.ref z) 3>>=_) _ _ _;refine η (ϣ hz rfl (x:=.ref TI) rfl ?_);refine η (Ϻ hTI rfl ?_)
 show wpAny _ _ (Ϙ (.ref z)>>=_) _ _ _;refine η ?_;unfold Ϙ
 refine η (ϣ hz rfl (x:=.none) rfl (ω ?_));simp only[if_true];refine η (FE ?_)
 refine η (ϣ hz rfl (x:=.ref TO) rfl ?_);refine η (ϩ hz () λg1 z1 c1=>?_)
 replace z1:r6 g1 z TI TO .ellipsis:=z1
 refine η ?_;simp only[E9,Fg,EJ,FH];refine η (η (x_ ?_))
 show wpAny _ _ (ϗ (.ref i1)>>=_) _ _ _
 cases hx:xs[k1]? with
 |none=>
  refine η (dw hh (h1.extBut c1.extBut D.i1z) (hl1.extBut c1.extBut D.l1z) hx λg2 e c2 ⟨oe,hoe,hce⟩=>?_)
  have z2:r6 g2 z TI TO .ellipsis:=c2 _ _ D.i1z.symm z1
  have ez:e≠z:=λq=>by subst q;rw[z2]at hoe;cases hoe;simp at hce
  exact ϩ z2 () λg3 _ c3=>hE g3 e (λc o d1 _ d3 _ q=>c3.extBut _ _ d1 (c2 _ _ d3 (c1.extBut _ _ d1 q))) ⟨oe,c3.extBut _ _ ez hoe,hce⟩
 |some x=>
  have hy:ys[k2]?=none:=hend.resolve_left (by rw[hx];exact nofun)
  refine η (bD (h1.extBut c1.extBut D.i1z) (hl1.extBut c1.extBut D.l1z) hx λg2 it2 c2=>ω ?_)
  have t2:Ϭ g2 TO a b:=c2.extBut _ _ D.TOi1 (c1.extBut _ _ D.TOz hTO)
  refine η (Ϻ t2 rfl ?_);refine η (m7 t2 λg3 t3 c3=>?_)
  refine η (Fb (ω ?_));refine η (η (x_ ?_))
  show wpAny _ _ (ϗ (.ref i2)>>=_) _ _ _;refine η (dw hh (((h2.extBut c1.extBut D.i2z).extBut c2.extBut D.i12.symm).extBut c3.extBut D.TOi2.symm) (((hl2.extBut c1.extBut D.l2z).extBut c2.extBut D.l2i1).extBut c3.extBut D.l2TO) hy λg4 e c4 ⟨oe,hoe,hce⟩=>?_)
  have z4:r6 g4 z TI TO .ellipsis:=c4 _ _ D.i2z.symm (c3.extBut _ _ D.TOz.symm (c2.extBut _ _ D.i1z.symm z1))
  have ez:e≠z:=λq=>by subst q;rw[z4]at hoe;cases hoe;simp at hce
  exact ϩ z4 () λg5 _ c5=>hE g5 e (λc o d1 d2 d3 d4 q=>c5.extBut _ _ d1 (c4 _ _ d4 (c3.extBut _ _ d2 (c2.extBut _ _ d3 (c1.extBut _ _ d1 q))))) ⟨oe,c5.extBut _ _ ez hoe,hce⟩
theorem rg{z TI TO i1 i2 l1 l2:Addr}{k1 k2:Nat}{xs ys:Array ζ}{x y a b:ζ}{Q:Option ζ->ι->Prop}(D:A0 z TI TO i1 i2 l1 l2)(hz:r6 s.heap z TI TO .none)(hTI:Ϭ s.heap TI (.ref i1) (.ref i2))(hTO:Ϭ s.heap TO a b)
  (h1:s.heap.IsTupleIter i1 l1 k1) (h2:s.heap.IsTupleIter i2 l2 k2) (hl1:s.heap.IsTuple l1 xs) (hl2:s.heap.IsTuple l2 ys) (hx:xs[k1]?=some x) (hy:ys[k2]?=some y)
  (hQ:∀h',r6 h' z TI TO (rawInt s.heap.objs.size)->Ϭ h' TO x y->h'.IsTupleIter i1 l1 (k1+1)->h'.IsTupleIter i2 l2 (k2+1)->Ϭ h' s.heap.objs.size x y->(∀c o,c≠z->c≠TO->c≠i1->c≠i2->s.heap.get? c=some o->h'.get? c=some o)->Q (some (.ref s.heap.objs.size)) {s with heap:=h'}):
  wpAny (model prog w) A (pyNext (.ref z)) Q E s:=by
 have hT:s.TypeIs (.ref z) "zip":=⟨_,hz,rfl⟩;unfold pyNext
 exact η (F5 (ϸ (name:=γ "__next__") hT o_ (a9 o_ hT E_ (sd D hz hTI hTO h1 h2 hl1 hl2 hx hy λh' a1 a2 a3 a4 a5 a6=>ω (hQ h' a1 a2 a3 a4 a5 a6)) (E2 _))))
theorem tR{z TI TO i1 i2 l1 l2:Addr}{k1 k2:Nat}{xs ys:Array ζ}{a b:ζ}{Q:Option ζ->ι->Prop}(hh:A.handled=none)(D:A0 z TI TO i1 i2 l1 l2)(hz:r6 s.heap z TI TO .none)(hTI:Ϭ s.heap TI (.ref i1) (.ref i2))(hTO:Ϭ s.heap TO a b)
  (h1:s.heap.IsTupleIter i1 l1 k1) (h2:s.heap.IsTupleIter i2 l2 k2) (hl1:s.heap.IsTuple l1 xs) (hl2:s.heap.IsTuple l2 ys) (hend:xs[k1]?=none\/ys[k2]?=none)
  (hQ:∀h',(∀c o,c≠z->c≠TO->c≠i1->c≠i2->s.heap.get? c=some o->h'.get? c=some o)->Q none {s with heap:=h'}):wpAny (model prog w) A (pyNext (.ref z)) Q E s:=by
 have hT:s.TypeIs (.ref z) "zip":=⟨_,hz,rfl⟩;unfold pyNext
 refine η (F5 (ϸ (name:=γ "__next__") hT o_ (a9 o_ hT E_ (wB hh D hz hTI hTO h1 h2 hl1 hl2 hend λh' e hk ⟨o,ho,hc⟩=>?_) (E2 _))))
 exact η (wpAny_isInstance (T:="StopIteration") (b:=true) ⟨o,ho,hc⟩ isSubtype_stop (ω (hQ _ hk)))
theorem qP(l1 l2:Addr)(xs ys:Array ζ)(n n':Nat)(dct dct':Option Addr)(slt slt':Array (Option ζ)):
  Meets (v_.«zip.__new__» ⟨[.type "zip",.ref l1,.ref l2],[]⟩) (λ_ R s=>s.heap.get? l1=some {cls:=.type "tuple",dict:=dct',data:=.seq xs n',slots:=slt'}/\s.heap.get? l2=some {cls:=.type "tuple",dict:=dct,data:=.seq ys n,slots:=slt} /\
   R (.ok (.ret (.ref (oZ s.heap l1 l2).objs.size))) {s with heap:=iQ s.heap l1 l2}):=
 .of_wp λprog w A R s h=>by
  obtain⟨hp,g,d,tk,os⟩:=s;obtain⟨hl1,hl2,h⟩:=h
  have hsub:=sub_zip
  have hL1:Heap.IsTuple (Go ⟨hp,g,d,tk,os⟩) l1 xs:=⟨_,hl1,rfl,n',rfl⟩
  have hl2':(hp.push {cls:=.type "tuple_iterator",data:=.fields #[.ref l1,.int 0 0]}).get? l2=some {cls:=.type "tuple",dict:=dct,data:=.seq ys n,slots:=slt}:=ρ _ hl2
  have hL2:Heap.IsTuple (Go ⟨hp.push {cls:=.type "tuple_iterator",data:=.fields #[.ref l1,.int 0 0]},g,d,tk,os⟩) l2 ys:=⟨_,hl2',rfl,n,rfl⟩
  wp_walk using EO hL1,EO hL2,m6 hl1,m6 hl2'
  exact⟨_,rfl,h⟩
theorem tq{l1 l2:Addr}{xs ys:Array ζ}{Q:ζ->ι->Prop}(hl1:s.heap.IsTuple l1 xs)(hl2:s.heap.IsTuple l2 ys)
  (h:∀h',r6 h' (s.heap.objs.size+4) (s.heap.objs.size+2) (s.heap.objs.size+3) .none->Ϭ h' (s.heap.objs.size+2) (.ref s.heap.objs.size) (.ref (s.heap.objs.size+1))->Ϭ h' (s.heap.objs.size+3) .none .none->h'.IsTupleIter s.heap.objs.size l1 0->h'.IsTupleIter (s.heap.objs.size+1) l2 0 ->
   (∀c o,s.heap.get? c=some o->h'.get? c=some o)->Q (.ref (s.heap.objs.size+4)) {s with heap:=h'}):wpAny (model prog w) A (call (.type "zip") [.ref l1,.ref l2]) Q E s:=by
 obtain⟨⟨c,dct,dt,sl⟩,hl,hc,n,hd⟩:=hl2
 replace hc:c=.type "tuple":=hc
 replace hd:dt=.seq ys n:=hd
 subst hc hd
 obtain⟨⟨c',dct',dt',sl'⟩,hl',hc',n',hd'⟩:=hl1
 replace hc':c'=.type "tuple":=hc'
 replace hd':dt'=.seq xs n':=hd'
 subst hc' hd'
 refine callType_new F.called_zip () (F.typeCall_zip_2 _ _) (F.newCall_zip_2 _ _) (λobj=>F.args_object_init_3 obj _ _) F.entry_zip_new (qP l1 l2 xs ys n n' dct dct' sl sl') ⟨hl',hl,?_⟩
 have y1:(oU s.heap l1).objs.size=s.heap.objs.size+1:=j0 ..
 have y2:(pJ s.heap l1 l2).objs.size=s.heap.objs.size+2:=by rw[j0,y1]
 have y3:(pf s.heap l1 l2).objs.size=s.heap.objs.size+3:=by rw[j0,y2]
 have y4:(oZ s.heap l1 l2).objs.size=s.heap.objs.size+4:=by rw[j0,y3]
 have up:∀{h:Heap}{o:Obj}{c:Addr}{p:Obj},h.get? c=some p->(h.push o).get? c=some p:=λq=>ρ _ q
 have v5:(iQ s.heap l1 l2).get? (oZ s.heap l1 l2).objs.size=some _:=Λ _ rfl
 have v4:(iQ s.heap l1 l2).get? (pf s.heap l1 l2).objs.size=some _:=up (Λ _ rfl)
 have v3:(iQ s.heap l1 l2).get? (pJ s.heap l1 l2).objs.size=some _:=up (up (Λ _ rfl))
 have v2:(iQ s.heap l1 l2).get? (oU s.heap l1).objs.size=some _:=up (up (up (Λ _ rfl)))
 have v1:(iQ s.heap l1 l2).get? s.heap.objs.size=some _:=up (up (up (up (Λ _ rfl))))
 show _/\_
 rw[y2,y3,y4]at v5
 rw[y1,y2]at v3
 rw[y3]at v4
 rw[y1]at v2
 rw[y4]
 exact⟨⟨_,v5,rfl⟩,h _ v5 v3 v4 ⟨_,v1,rfl,rfl⟩ ⟨_,v2,rfl,rfl⟩ λc o q=>up (up (up (up (up q))))⟩
end
def kL(K:ε)(a b:Addr):It:=
 ⟨λi H=>∃xs ys x y,SqT K H a xs/\SqT K H b ys/\xs[i]?=some x/\ys[i]?=some y,λi H z H'=>∃p x y,H p=none/\H'=upd H p (.tup [x,y])/\z=.ref p/\(∀xs,SqT K H a xs->xs[i]?=some x)/\∀ys,SqT K H b ys->ys[i]?=some y,
 λi H=>∃xs ys,SqT K H a xs/\SqT K H b ys/\(xs.length<=i\/ys.length<=i)⟩
theorem tO{P:χ}{w:Ρ}{K:ε}{elts:List Expr}{x1}{tp:Pos}(a b z TI TO i1 i2:Addr)(D1:TI≠z/\TO≠z/\i1≠z/\i2≠z/\TI≠TO/\TI≠i1/\TI≠i2/\TO≠i1/\TO≠i2/\i1≠i2)(D2:a≠TO/\b≠TO):
  gY P w K (.Tuple elts x1 tp) (kL K a b) [z,TI,TO,i1,i2] z (λi h=>r6 h z TI TO .none/\Ϭ h TI (.ref i1) (.ref i2)/\(∃u v,Ϭ h TO u v)/\h.IsTupleIter i1 a i/\h.IsTupleIter i2 b i) where
 mem:=by simp
 obj:=λi h st c hc=>by
  obtain⟨hz,hTI,⟨u,v,hTO⟩,⟨o1,e1,c1,d1⟩,⟨o2,e2,c2,d2⟩⟩:=st
  simp only[ν,ϟ,or_false]at hc
  rcases hc with rfl|rfl|rfl|rfl|rfl
  ·exact⟨_,hz,λv z=>by
    have z':FU _=B0 v:=z
    cases z'⟩
  ·exact⟨_,hTI,λv z=>by
    have z':F7 _ _=B0 v:=z
    cases z'⟩
  ·exact⟨_,hTO,λv z=>by
    have z':F7 _ _=B0 v:=z
    cases z'⟩
  ·exact⟨o1,e1,λv z=>by rw[d1]at z;cases z⟩
  ·exact⟨o2,e2,λv z=>by rw[d2]at z;cases z⟩
 keep:=λi h h' st k=>by
  obtain⟨hz,hTI,⟨u,v,hTO⟩,h1,h2⟩:=st
  exact⟨k z () _ hz,k TI () _ hTI,⟨u,v,k TO () _ hTO⟩,h1.at λo e=>k i1 () o e,h2.at λo e=>k i2 () o e⟩
 item:=by
  intro X hP hw hK hc i pins s σ H E I hf st hg
  subst hP hw hK
  obtain⟨xs,ys,x,y,hq1,hq2,hx,hy⟩:=hg
  obtain⟨its1,rv1,p1,_⟩:=I.tuple hq1
  obtain⟨its2,rv2,p2,_⟩:=I.tuple hq2
  obtain⟨u1,hu1,ru1⟩:=rv1.get hx
  obtain⟨u2,hu2,ru2⟩:=rv2.get hy
  obtain⟨hz,hTI,⟨u,v,hTO⟩,h1,h2⟩:=st
  obtain⟨d1,d2,d3,d4,d5,d6,d7,d8,d9,d10⟩:=D1
  have L1:s.heap.IsTuple a its1.toArray:=p1
  have L2:s.heap.IsTuple b its2.toArray:=p2
  have D:A0 z TI TO i1 i2 a b:=by
   obtain⟨o1,e1,c1,_⟩:=id L1
   obtain⟨o2,e2,c2,_⟩:=id L2
   obtain⟨o3,e3,c3,_⟩:=id h1
   obtain⟨o4,e4,c4,_⟩:=id h2
   exact⟨d1,d2,d3,d4,d5,d6,d7,d8,d9,d10,aG e1 hz (by rw[c1];exactλz=>absurd (Μ z) ()),D2.1,aG e1 e3 (by rw[c1,c3];exactλz=>absurd (Μ z) ()),aG e1 e4 (by rw[c1,c4];exactλz=>absurd (Μ z) ()),
    aG e2 hz (by rw[c2];exactλz=>absurd (Μ z) ()),D2.2,aG e2 e3 (by rw[c2,c3];exactλz=>absurd (Μ z) ()),aG e2 e4 (by rw[c2,c4];exactλz=>absurd (Μ z) ())⟩
  refine rg D hz hTI hTO h1 h2 L1 L2 (x:=u1) (y:=u2) (by simpa using hu1) (by simpa using hu2) λh3 a1 a2 a3 a4 a5 hk=>?_
  refine⟨_,rfl,C7 a1 λh4 hz4 hs4=>?_⟩
  have hzl:z<s.heap.objs.size:=Β hz
  have hn:H s.heap.objs.size=none:=I.hok.fresh (π _)
  have keep:∀c o,c≠z->c≠TO->c≠i1->c≠i2->s.heap.get? c=some o->h4.get? c=some o:=λc o c1 c2 c3 c4 q=>(hs4.2 c c1).trans (hk c o c1 c2 c3 c4 q)
  have tup:h4.get? s.heap.objs.size=some {cls:=.type "tuple",data:=.seq #[u1,u2]}:=(hs4.2 _ (ngt hzl)).trans a5
  have fpn:∀c∈[z,TI,TO,i1,i2],H c=none:=λc hc=>(hf c hc).1
  have nit:∀c v,H c=some v->c≠z/\c≠TO/\c≠i1/\c≠i2:=λc v q=>⟨(λe=>by rw[e,fpn z ()]at q;cases q),(λe=>by rw[e,fpn TO ()]at q;cases q),(λe=>by rw[e,fpn i1 ()]at q;cases q),(λe=>by rw[e,fpn i2 ()]at q;cases q)⟩
  have kch:∀c o,c∉[z,TO,i1,i2]->s.heap.get? c=some o->h4.get? c=some o:=λc o hc q=>keep c o (λe=>hc (by simp[e])) (λe=>hc (by simp[e])) (λe=>hc (by simp[e])) (λe=>hc (by simp[e])) q
  have I2:Inv X pins σ (upd H s.heap.objs.size (.tup [x,y])) {s with heap:=h4,toks:=s.toks}:=by
   refine I.step (g':=s.gens) (d':=s.drawn) (ch:=[z,TO,i1,i2]) (λc hc=>?_) (λc o _ _ hc' q _=>kch c o hc' q) (λc o _ _ hc' q _=>⟨o.slots,kch c o hc' q⟩) (λc o _ q n=>by rw[ao (nlt (Β q))];exact n) (λc o hc' q=>⟨o,kch c o hc' q⟩)
    (λc xs q=>by rw[ao (ah q hn)];exact q) (λc o v q=>by rw[ao (ah q hn)];exact q) (λc ps q=>⟨#[],by rw[ao (ah q hn),q];simp⟩) (λm hm=>?_) (λc v q=>?_) I.bare
   ·have hc':c∈[z,TI,TO,i1,i2]:=by
     simp only[ν,ϟ,or_false]at hc⊢
     rcases hc with e|e|e|e<;>simp[e]
    obtain⟨f0,f1,f2,f3,f4,f5⟩:=hf c hc'
    exact⟨f3,f1,f4,f5⟩
   ·obtain⟨o,es,ep,ho,r⟩:=hm
    exact⟨o,es,ep,keep _ o (ϋ (hf z ()).2.1) (ϋ (hf TO ()).2.1) (ϋ (hf i1 ()).2.1) (ϋ (hf i2 ()).2.1) ho,r⟩
   ·by_cases hb:c=s.heap.objs.size
    ·subst hb
     rw[aa]at q
     cases q
     exact⟨(show 2<=sizeLine by rw[θ];decide),[u1,u2],.cons ru1 (.cons ru2 .nil),⟨_,tup,rfl,0,rfl⟩,_,tup,rfl⟩
    ·rw[ao hb]at q
     refine(I.hok c v q).stay (λc' w' hc' q'=>?_) (λc' q'=>by rw[ao (ah q' hn)];exact q') λc' xs q'=>by rw[ao (ah q' hn)];exact q'
     rcases hc' with e|e
     ·subst e;obtain⟨n1,n2,n3,n4⟩:=nit c' v q;exact keep c' w' n1 n2 n3 n4 q'
     ·obtain⟨n1,n2,n3,n4⟩:=nit c' _ e;exact keep c' w' n1 n2 n3 n4 q'
  refine⟨.ref s.heap.objs.size,_,I2,rfl,⟨_,x,y,hn,rfl,rfl,λxs' h'=>by rw[I.tuple_inj h' hq1];exact hx,λys' h'=>by rw[I.tuple_inj h' hq2];exact hy⟩,?_,λc hc=>?_⟩
  ·exact⟨hz4,hs4.extBut _ _ d1 (hk TI _ d1 d5 d6 d7 hTI),⟨_,_,hs4.extBut _ _ d2 a2⟩,a3.at λo e=>hs4.extBut _ _ d3 e,a4.at λo e=>hs4.extBut _ _ d4 e⟩
  ·have hb':c<s.heap.objs.size:=by
    simp only[ν,ϟ,or_false]at hc
    obtain⟨o3,e3,_⟩:=h1
    obtain⟨o4,e4,_⟩:=h2
    rcases hc with e|e|e|e|e
    ·rw[e];exact hzl
    ·rw[e];exact Β hTI
    ·rw[e];exact Β hTO
    ·rw[e];exact Β e3
    ·rw[e];exact Β e4
   rw[ao (nlt hb')]
   exact fpn c hc
 done:=by
  intro X hP hw hK hc i pins s σ H E I hf st hg
  subst hP hw hK
  obtain⟨xs,ys,hq1,hq2,hend⟩:=hg
  obtain⟨its1,rv1,p1,_⟩:=I.tuple hq1
  obtain⟨its2,rv2,p2,_⟩:=I.tuple hq2
  obtain⟨hz,hTI,⟨u,v,hTO⟩,h1,h2⟩:=st
  obtain⟨d1,d2,d3,d4,d5,d6,d7,d8,d9,d10⟩:=D1
  have L1:s.heap.IsTuple a its1.toArray:=p1
  have L2:s.heap.IsTuple b its2.toArray:=p2
  have D:A0 z TI TO i1 i2 a b:=by
   obtain⟨o1,e1,c1,_⟩:=id L1
   obtain⟨o2,e2,c2,_⟩:=id L2
   obtain⟨o3,e3,c3,_⟩:=id h1
   obtain⟨o4,e4,c4,_⟩:=id h2
   exact⟨d1,d2,d3,d4,d5,d6,d7,d8,d9,d10,aG e1 hz (by rw[c1];exactλz=>absurd (Μ z) ()),D2.1,aG e1 e3 (by rw[c1,c3];exactλz=>absurd (Μ z) ()),aG e1 e4 (by rw[c1,c4];exactλz=>absurd (Μ z) ()),
    aG e2 hz (by rw[c2];exactλz=>absurd (Μ z) ()),D2.2,aG e2 e3 (by rw[c2,c3];exactλz=>absurd (Μ z) ()),aG e2 e4 (by rw[c2,c4];exactλz=>absurd (Μ z) ())⟩
  have l1:=rv1.length
  have l2:=rv2.length
  have fpn:∀c∈[z,TI,TO,i1,i2],H c=none:=λc hc=>(hf c hc).1
  refine tR (I.ok.hd hc) D hz hTI hTO h1 h2 L1 L2 (hend.imp (λh=>by simp;omega) λh=>by simp;omega) λh4 hk=>⟨rfl,?_⟩
  have nit:∀c v,H c=some v->c≠z/\c≠TO/\c≠i1/\c≠i2:=λc v q=>⟨(λe=>by rw[e,fpn z ()]at q;cases q),(λe=>by rw[e,fpn TO ()]at q;cases q),(λe=>by rw[e,fpn i1 ()]at q;cases q),(λe=>by rw[e,fpn i2 ()]at q;cases q)⟩
  have kch:∀c o,c∉[z,TO,i1,i2]->s.heap.get? c=some o->h4.get? c=some o:=λc o hc q=>hk c o (λe=>hc (by simp[e])) (λe=>hc (by simp[e])) (λe=>hc (by simp[e])) (λe=>hc (by simp[e])) q
  refine I.step (t':=s.toks) (g':=s.gens) (d':=s.drawn) (ch:=[z,TO,i1,i2]) (λc hc=>?_) (λc o _ _ hc' q _=>kch c o hc' q) (λc o _ _ hc' q _=>⟨o.slots,kch c o hc' q⟩) (λc o _ q n=>n) (λc o hc' q=>⟨o,kch c o hc' q⟩)
   (λc xs q=>q) (λc o v q=>q) (λc ps q=>⟨#[],by rw[q];simp⟩) (λm hm=>?_) (λc v q=>?_) I.bare
  ·have hc':c∈[z,TI,TO,i1,i2]:=by
    simp only[ν,ϟ,or_false]at hc⊢
    rcases hc with e|e|e|e<;>simp[e]
   obtain⟨f0,f1,f2,f3,f4,f5⟩:=hf c hc'
   exact⟨f3,f1,f4,f5⟩
  ·obtain⟨o,es,ep,ho,r⟩:=hm
   exact⟨o,es,ep,hk _ o (ϋ (hf z ()).2.1) (ϋ (hf TO ()).2.1) (ϋ (hf i1 ()).2.1) (ϋ (hf i2 ()).2.1) ho,r⟩
  ·refine(I.hok c v q).stay (λc' w' hc' q'=>?_) (λc' q'=>q') λc' xs q'=>q'
   rcases hc' with e|e
   ·subst e;obtain⟨n1,n2,n3,n4⟩:=nit c' v q;exact hk c' w' n1 n2 n3 n4 q'
   ·obtain⟨n1,n2,n3,n4⟩:=nit c' _ e;exact hk c' w' n1 n2 n3 n4 q'
 self:=λA i s Q E st h=>F8 st.1 h
theorem sj{h:Heap}{a:Addr}{its:Array ζ}(p:GB h a its):a<h.objs.size:=by
 obtain⟨o,e,_⟩:=p
 exact Β e
section
variable{X:Cx}
def Ci(K:ε)(ta:TA):TI:=λσ H R=>ta σ H λvs H1=>∃a b,vs=[.ref a,.ref b]/\(∃xs,SqT K H1 a xs)/\(∃ys,SqT K H1 b ys)/\R (kL K a b) H1
theorem pi_zipTT{a b:Expr}{ta:TA}{p pos:Pos}{elts:List Expr}{x1}{tp:Pos}(hg:Gl X "zip")(hm:X.mg "zip"=none)(ha:PA X [a,b] ta)(hs:starEach [a,b] X.env=(false,eval a X.env)::starEach [b] X.env:=by rfl)(hpl:(backTo pos (starEach [b] X.env)).any (·.1)=false:=by rfl):
  PI X (.Tuple elts x1 tp) (.Call (.Name "zip" p) [a,b] [] pos) (Ci X.K ta):=by
 intro pins s σ H R I h
 refine Call_ (fc I hg hm (u:=.type "zip") () (b_ (thn (ha pos pins s σ H _ I h) λus s1 ⟨vs,H1,I1,r1,q1⟩=>?_) hs hpl))
 obtain⟨l,m,e,⟨xs,hq1⟩,⟨ys,hq2⟩,q⟩:=q1
 subst e
 obtain⟨u,w',rfl,ru,rw'⟩:=mQ r1
 cases ru
 cases rw'
 obtain⟨its1,rv1,p1,_⟩:=I1.tuple hq1
 obtain⟨its2,rv2,p2,_⟩:=I1.tuple hq2
 refine tq p1 p2 λh' hz hTI hTO hi1 hi2 kp=>?_
 have I2:Inv X pins σ H1 {s1 with heap:=h'}:=I1.kept (t':=s1.toks) kp
 have add:∀(n i j:Nat),i≠j->n+i≠n+j:=λn i j h z=>h (Fl z)
 have T:gY X.prog X.w X.K (.Tuple elts x1 tp) (kL X.K l m) [s1.heap.objs.size+4,s1.heap.objs.size+2,s1.heap.objs.size+3,s1.heap.objs.size,s1.heap.objs.size+1] (s1.heap.objs.size+4) _:=
  tO l m (s1.heap.objs.size+4) (s1.heap.objs.size+2) (s1.heap.objs.size+3) s1.heap.objs.size (s1.heap.objs.size+1)
   ⟨add _ 2 4 (),add _ 3 4 (),add _ 0 4 (),add _ 1 4 (),add _ 2 3 (),add _ 2 0 (),add _ 2 1 (),add _ 3 0 (),add _ 3 1 (),add _ 0 1 ()⟩ ⟨Ϣ (F9 3 (sj p1)),Ϣ (F9 3 (sj p2))⟩
 refine T.self X.A 0 {s1 with heap:=h'} _ _ ⟨hz,hTI,⟨_,_,hTO⟩,hi1,hi2⟩ ?_
 refine⟨s1.heap.objs.size+4,_,_,_,H1,rfl,I2,T,⟨hz,hTI,⟨_,_,hTO⟩,hi1,hi2⟩,λb hb=>?_,q⟩
 have hb':s1.heap.objs.size<=b:=by
  simp only[ν,ϟ,or_false]at hb
  rcases hb with e|e|e|e|e
  ·rw[e];exact Ϩ _ _
  ·rw[e];exact Ϩ _ _
  ·rw[e];exact Ϩ _ _
  ·rw[e];exact π _
  ·rw[e];exact Ϩ _ _
 obtain⟨f0,f1⟩:=I1.fpOk hb' (I1.hok.fresh hb')
 exact⟨f0,f1⟩
theorem yU{k:Nat}{ix:List Nat}{g:TG}{tt:TT}{te:TE}{σ:St}{H1:Hp}{Q:List V->Hp->Prop}{K:ε}{a b:Addr}{xs ys:List V}(Pv:Nat->List V->Hp->Prop)(h0:Pv 0 [] H1)(hl:∀i zs H,Pv i zs H->SqT K H a xs/\SqT K H b ys)
  (hs:∀i zs H x y p,xs[i]?=some x->ys[i]?=some y->Pv i zs H->H p=none->cO k ix g tt te σ (.ref p) zs (upd H p (.tup [x,y])) (Pv (i+1))) (hd:∀zs H,Pv (min xs.length ys.length) zs H->Q zs H):rLC (kL K a b) k ix g tt te σ H1 Q:=by
 refine jN (n:=min xs.length ys.length) Pv h0 (λi zs H h p=>?_) (λzs H p=>?_) (λi zs H x H' h p y=>?_) hd
 ·obtain⟨q1,q2⟩:=hl i zs H p
  exact⟨xs,ys,xs[i]'(),ys[i]'(),q1,q2,(),()⟩
 ·obtain⟨q1,q2⟩:=hl _ zs H p
  exact⟨xs,ys,q1,q2,()⟩
 ·obtain⟨q1,q2⟩:=hl i zs H p
  obtain⟨c,x',y',hb,e1,e2,hx,hy⟩:=y
  subst e1 e2
  exact hs i zs H x' y' c (hx xs q1) (hy ys q2) p hb
theorem wu{K:ε}{a b:Addr}{xs ys:List V}{g:TG}{tb:TS}{D:bZ}{σ:St}{H:Hp}(Pv:Nat->St->Hp->Prop)(h0:Pv 0 σ H)(hl:∀i σ H,Pv i σ H->SqT K H a xs/\SqT K H b ys)
  (hs:∀i x y σ H p,xs[i]?=some x->ys[i]?=some y->Pv i σ H->H p=none->g (.ref p) σ (upd H p (.tup [x,y])) λσ2 H2=>tb {D with nx:=Pv (i+1),ct:=Pv (i+1),bk:=D.nx} σ2 H2) (hd:∀σ H,Pv (min xs.length ys.length) σ H->D.nx σ H):
  ∃W:Nat->Nat->St->Hp->Prop,(∃m,W 0 m σ H)/\∀i m σ H,W i m σ H ->
   ((kL K a b).stop i H/\D.nx σ H)\/((kL K a b).go i H/\∃N:St->Hp->Prop,(∀σ' H',N σ' H'->∃m',m'<m/\W (i+1) m' σ' H')/\∀x H',(kL K a b).yld i H x H'->g x σ H' λσ2 H2=>tb {D with nx:=N,ct:=N,bk:=D.nx} σ2 H2):=by
 refine⟨λi m σ H=>m=min xs.length ys.length-i/\i<=min xs.length ys.length/\Pv i σ H,⟨min xs.length ys.length,(),ϊ _,h0⟩,?_⟩
 rintro i m σ H ⟨rfl,hi,p⟩
 obtain⟨q1,q2⟩:=hl i σ H p
 by_cases hlt:i<min xs.length ys.length
 ·have h1:i<xs.length:=by omega
  have h2:i<ys.length:=by omega
  refine .inr ⟨⟨xs,ys,xs[i],ys[i],q1,q2,by simp[h1],by simp[h2]⟩,Pv (i+1),λσ' H' p'=>⟨min xs.length ys.length-(i+1),(),rfl,hlt,p'⟩,λz H' y=>?_⟩
  obtain⟨c,x,y,hb,e1,e2,hx,hy⟩:=y
  subst e1 e2
  exact hs i x y σ H c (hx xs q1) (hy ys q2) p hb
 ·have e:i=min xs.length ys.length:=by omega
  subst e
  exact .inl ⟨⟨xs,ys,q1,q2,()⟩,hd σ H p⟩
end
theorem qc(l:Addr)(items:Array ζ)(n:Nat)(b:Addr)(items2:Array ζ)(n2:Nat)(dct:Option Addr)(slt:Array (Option ζ))(hs0:¬(!items.isEmpty&&l_ (items.size+items2.size))=true)(hs1:items.size<=sizeLine)(hs2:items.size+items2.size<=sizeLine+1):
  Meets (v_.«list.extend» ⟨[.ref l,.ref b],[]⟩) (λ_ R s=>s.heap.get? l=some {cls:=.type "list",data:=.seq items n}/\s.heap.get? b=some {cls:=.type "tuple",dict:=dct,data:=.seq items2 n2,slots:=slt}/\R (.ok (.ret A1)) {s with heap:=s.heap.update l (ES λx=>x++items2),toks:=s.toks}):=
 .of_wp λprog w A R s h=>by
  obtain⟨hp,g,d,tk,os⟩:=s
  obtain⟨hl,hb,h⟩:=h
  have f1:=AutoSeq1.idx_int
  have f2:=AutoSeq1.sub_tuple_tuple
  have f3:=AutoSeq1.sub_list_list
  have f4:=AutoSeq1.sub_tuple_list
  have f5:=AutoSeq1.sub_list_tuple
  have hz':(items++items2).size<=sizeLine+1:=by rw[Array.size_append];exact hs2
  wp_walk using(wpAny_updateSeq hl rfl (hz:=hs1) (_hz':=hz')),m6 hl,m6 hb
  exact⟨_,rfl,h⟩
section
variable{X:Cx}
def Dq(K:ε):V->List V->Hp->VK->Prop:=λx vs H Q=>∃l b xs zs,x=.ref l/\vs=[.ref b]/\H l=some (.lst xs)/\SqT K H b zs/\xs.length+zs.length<=sizeLine/\Q .non (upd H l (.lst (xs++zs)))
theorem Aj:MtM X "list.extend" (Dq X.K):=by
 intro pins s σ H x vs v us Q I rx rv h
 obtain⟨l,b,xs,zs,rfl,rfl,hH,hB,hz,q⟩:=h
 cases rx
 obtain⟨u,rfl,ru⟩:=rv.one
 cases ru
 obtain⟨z,its,n,r,hl,e⟩:=I.lstM hH
 obtain⟨its2,r2,⟨⟨cls,dd,data,sl⟩,e2,hc,n2,hd⟩,_⟩:=I.tuple hB
 simp only at hc hd
 subst hc hd
 have hl2:=r2.length
 have hsz:its.toArray.size+its2.toArray.size<=sizeLine:=by rw[Δ,Δ];omega
 have hlong:¬ (!its.toArray.isEmpty&&l_ (its.toArray.size+its2.toArray.size))=true:=by
  rw[qz hsz,FA]
  exact Ξ
 refine B6 F.slot_list_extend ⟨_,e,rfl⟩ F.entry_list_extend (F.args_list_extend_2 _ _)
  (qc l its.toArray n b its2.toArray n2 dd sl hlong (by rw[Δ];omega) ()) ⟨e,e2,?_⟩
 refine⟨.non,_,I.lset (its':=its++its2) hH e () (r.append r2) ?_,rfl,q⟩
 rw[Η]
 omega
theorem yz(hu:X.A.units<cLine):OpR X (compareOp .Eq) (λx y H Q=>∃(l b:Addr) (xs:List V),x=.ref l/\y=.ref b/\SqL X.K H l xs/\SqL X.K H b []/\Q (.bl xs.isEmpty) H):=by
 intro pins s σ H x y v u Q I rx ry h
 obtain⟨l,b,xs,rfl,rfl,hl,hb,q⟩:=h
 cases rx
 cases ry
 obtain⟨its,r1,p1,_⟩:=I.list hl
 obtain⟨its2,r2,p2,_⟩:=I.list hb
 have l1:=r1.length
 have l2:=r2.length
 cases xs with
 |nil=>
  refine Gw.lists (e:=λ_=>true) p1.isList p2.isList (by simp;omega) hu (λj h1 h2=>?_) X.prog X.w X.xe _ ?_
  ·have:j<its.length:=by simpa using h1
   simp at l1;omega
  ·have e:((Ϝ its.toArray.size).all λ_=>true)=true:=by simp
   rw[e]
   exact⟨.bl true,H,I,rfl,q⟩
 |cons x xs=>
  refine Gw.lists_lengths p1.isList p2.isList ?_ hu X.prog X.w X.xe _ ⟨.bl false,H,I,rfl,q⟩
  rw[Γ]at l1
  rw[j4]at l2
  rw[Δ,Δ,bne_iff_ne]
  omega
def Dy:R2:=λx y H Q=>∃(n:Nat) (ds:List Dv),(∀d∈ds,Pl n d)/\n<=140/\Rep H (.lst ds) x/\Rep H (.lst ds) y/\Q (.bl false) H
theorem oa(hu:X.A.units+150<cLine):OpR X (compareOp .NotEq) Dy:=by
 intro pins s σ H x y v u Q I rx ry h
 obtain⟨n,ds,hd,hn,r1,r2,q⟩:=h
 simp only[Rep]at r1 r2
 obtain⟨l,vs,rfl,h1,rs1⟩:=r1
 obtain⟨b',ws,rfl,h2,rs2⟩:=r2
 cases rx
 cases ry
 obtain⟨its,rv1,p1,_⟩:=I.list (SqL.of h1)
 obtain⟨its2,rv2,p2,_⟩:=I.list (SqL.of h2)
 have hu':X.A.in1.units+n<cLine:=by show X.A.units+1+n<cLine;omega
 obtain⟨z1,z2,w⟩:=gE I (A:=X.A.in1) (n:=n) (λd hd1 e he v w a b r1 r2 q1 q2=>uG I (hd d hd1) (hd e he) hu' r1 r2 q1 q2) rs1 rs2 rv1 rv2
 refine SeqAt.RcNeAt.lists (e:=λj=>gj (ds[j]?=ds[j]?)) p1.isList p2.isList () () w X.prog X.w X.xe _ ?_
 have e:(!((Ϝ its.toArray.size).all λj=>gj (ds[j]?=ds[j]?)))=false:=by
  rw[Bool.not_eq_false',ϭ]
  exactλj _=>dZ.mpr rfl
 rw[e]
 exact⟨.bl false,H,I,rfl,q⟩
end
section
variable{prog:χ}{w:Ρ}{A:ό}{E:ζ->ι->Prop}{s:ι}
end
section
variable{X:Cx}
end
section
variable{prog:χ}{w:Ρ}{A:ό}{E:ζ->ι->Prop}
end
section
variable{X:Cx}{pos:Pos}
end
end L2
namespace KB
open PySem L2
abbrev Pr:=Str×Int
def En(p q:Pr):Prop:=p.1.cps.toList<q.1.cps.toList
structure qb(ps:List Pr):Prop where
 pw:ps.Pairwise En
 ge:∀p∈ps,1<=p.2
def eY(kvs:List Pr)(x:Str)(n:Int):List Pr:=if (kvs.any λp=>decide (p.1=x))=true then kvs.map (λp=>if p.1=x then (p.1,n)else p)else kvs++[(x,n)]
def nmB(x:Str):Bool:=decide (1<=x.cps.size)&&decide (x.cps.size<=8)&&x.cps.toList.all λc=>decide (97<=c)&&decide (c<=122)
def azB(c:Nat):Bool:=decide (97<=c)&&decide (c<=122)
theorem Rep.tup_inv{H:Hp}{ds:List Dv}{v:V}(h:Rep H (.tup ds) v):∃a vs,v=.ref a/\H a=some (.tup vs)/\Reps H ds vs:=by simpa only[Rep]using h
theorem Reps.two{H:Hp}{d e:Dv}{vs:List V}(h:Reps H [d,e] vs):∃x y,vs=[x,y]/\Rep H d x/\Rep H e y:=by
 simp only[Reps]at h
 obtain⟨x,r,rfl,h1,y,r2,rfl,h2,rfl⟩:=h
 exact⟨x,y,rfl,h1,h2⟩
def dk(kvs:List (Str×Int)):List (Key×V):=kvs.map λp=>(Ϧ p.1,V.int p.2)
def bR(c:Int)(ps:List (Str×Int)):Dv:=.tup [.int c,.tup (ps.map λp=>.tup [.str p.1,.int p.2])]
def tkV(r:TK):Str×Int:=(r.2.1,match r.2.2 with| [.int n]=>n|_=>0)
theorem nh{H:Hp}:∀{rs:List TK},(∀r∈rs,H r.1=some (.tup [.str (tkV r).1,.int (tkV r).2]))->Reps H ((rs.map tkV).map λp=>Dv.tup [.str p.1,.int p.2]) (rs.map λr=>V.ref r.1)
 |[],_=>by simp[Reps]
 |r::rs,h=>by
  simp only[Χ,Reps]
  refine⟨_,_,rfl,?_,nh λx hx=>h x (Ε _ hx)⟩
  simp only[Rep,Reps]
  exact⟨r.1,_,rfl,h r ο,_,_,rfl,rfl,_,_,rfl,rfl,rfl⟩
theorem vq{a b:Str}:((Ϧ a:Key)=Ϧ b)↔a=b:=⟨λh=>by injection h,λh=>by rw[h]⟩
theorem CF(kvs:List (Str×Int))(x:Str)(n:Int):dk (eY kvs x n)=fJ (dk kvs) (Ϧ x) (.int n):=by
 unfold eY fJ dk
 have e:((kvs.map λp=>((Ϧ p.1:Key),V.int p.2)).any λkv=>decide (kv.1=Ϧ x))=kvs.any λp=>decide (p.1=x):=by
  rw[List.any_map]
  congr 1
  funext p
  simp[Function.comp]
 rw[e]
 split
 ·rw[Ψ,Ψ]
  refine y8 λp _=>?_
  simp only[Function.comp]
  by_cases h:p.1=x
  ·rw[Q5 h,Q5 (vq.mpr h)]
  ·rw[Q6 h,Q6 (λz=>h (vq.mp z))]
 ·rw[ς]
  rfl
theorem wj{kvs:List (Str×Int)}{x:Str}{n:Int}(nd:(kvs.map (·.1)).Nodup):((eY kvs x n).map (·.1)).Nodup:=by
 unfold eY
 split
 ·have e:(kvs.map (λp=>if p.1=x then (p.1,n)else p)).map (·.1)=kvs.map (·.1):=by
   rw[Ψ]
   refine y8 λp _=>?_
   simp only[Function.comp]
   split<;>rfl
  rw[e];exact nd
 ·rename_i h
  rw[ς,List.nodup_append]
  refine⟨nd,(),λa ha b hb=>?_⟩
  have hb':b=x:=by simpa using hb
  subst hb'
  intro e
  subst e
  obtain⟨p,hp,e⟩:=Ω.mp ha
  exact h (f_.mpr ⟨p,hp,Q9 e⟩)
theorem zh(kvs:List (Str×Int))(x:Str)(n:Int):(eY kvs x n).length<=kvs.length+1:=by
 unfold eY
 split
 ·rw[δ];omega
 ·rw[Η];simp
theorem yN{R:Str×Int->Prop}{kvs:List (Str×Int)}{x:Str}{n:Int}(h:∀p∈kvs,R p)(hx:R (x,n)):∀p∈eY kvs x n,R p:=by
 intro p hp
 unfold eY at hp
 split at hp
 ·obtain⟨q,hq,e⟩:=Ω.mp hp
  by_cases z:q.1=x
  ·rw[Q5 z]at e
   rw[<-e,z];exact hx
  ·rw[Q6 z]at e
   rw[<-e];exact h q hq
 ·rcases Τ.mp hp with hp|hp
  ·exact h p hp
  ·rw[ξ.mp hp];exact hx
abbrev aR(ps:List Pr):List Dv:=ps.map λp=>.tup [.str p.1,.int p.2]
theorem vc{H:Hp}{ps:List Pr}{us:List V}(ru:Reps H (aR ps) us){i:Nat}{x:V}(hx:us[i]?=some x):∃p b,ps[i]?=some p/\x=.ref b/\H b=some (.tup [.str p.1,.int p.2]):=by
 obtain⟨d,hd,Rd⟩:=ru.get hx
 rw[Ν]at hd
 cases e:ps[i]? with
 |none=>rw[e]at hd;cases hd
 |some p=>
  rw[e]at hd
  obtain rfl:Dv.tup [.str p.1,.int p.2]=d:=Ϛ hd
  obtain⟨b,zs,rfl,hb,rz⟩:=Rep.tup_inv Rd
  obtain⟨y,z,rfl,Ry,Rz⟩:=Reps.two rz
  simp only[Rep]at Ry Rz
  subst Ry Rz
  exact⟨p,b,rfl,rfl,hb⟩
theorem uV{H:Hp}{c:Int}{ps:List Pr}{v:V}(R:Rep H (bR c ps) v):∃a b us,v=.ref a/\H a=some (.tup [.int c,.ref b])/\H b=some (.tup us)/\Reps H (aR ps) us/\us.length=ps.length:=by
 obtain⟨a,tv,rfl,ha,rt⟩:=Rep.tup_inv R
 obtain⟨x,y,rfl,R0,R1⟩:=Reps.two rt
 simp only[Rep]at R0
 subst R0
 obtain⟨b,us,rfl,hb,ru⟩:=Rep.tup_inv R1
 have:=ru.length
 rw[δ]at this
 exact⟨a,b,us,rfl,ha,hb,ru,this⟩
theorem oT{H:Hp}{c:Int}{ps:List Pr}{a b:Addr}{us:List V}(ha:H a=some (.tup [.int c,.ref b]))(hb:H b=some (.tup us))(ru:Reps H (aR ps) us):Rep H (bR c ps) (.ref a):=by
 simp only[bR,Rep,Reps]
 exact⟨a,_,rfl,ha,_,_,rfl,rfl,_,_,rfl,⟨b,us,rfl,hb,ru⟩,rfl⟩
theorem eqI{i j:Int}(h:decide (V.int i=V.int j)=true):i=j:=by
 have:=Q7 h
 injection this
theorem z2:2<=sizeLine:=by rw[θ];decide
theorem z1:1<=sizeLine:=by rw[θ];decide
theorem z3:3<=sizeLine:=by rw[θ];decide
theorem xY{kvs:List Pr}{x:Str}{n:Int}(h:x∉kvs.map (·.1)):eY kvs x n=kvs++[(x,n)]:=by
 unfold eY
 rw[Q6]
 intro e
 rw[f_]at e
 obtain⟨p,hp,e⟩:=e
 exact h (Ω.mpr ⟨p,hp,Q7 e⟩)
theorem nt{kvs:List Pr}{x:Str}{n:Int}(h:x∈kvs.map (·.1)):(eY kvs x n).map (·.1)=kvs.map (·.1):=by
 unfold eY
 obtain⟨p,hp,rfl⟩:=Ω.mp h
 rw[Q5 (f_.mpr ⟨p,hp,Q9 rfl⟩),Ψ]
 refine y8 λr _=>?_
 show(if r.1=p.1 then (r.1,n)else r).1=r.1
 split<;>rfl
section
variable{K:ε}
end
theorem tnx{D:bZ}{σ:St}{H:Hp}(h:D.nx σ H):AX D σ H:=h
theorem Ak{ns:List Int}{k:Int}(h0:0<=k)(h:k<(ns.length:Int)):∃v:Int,atI (ns.map V.int) k=some (.int v):=by
 have hk:k.toNat<ns.length:=by omega
 have q:atI (ns.map V.int) ((k.toNat:Nat):Int)=some (.int ns[k.toNat]):=ae (by rw[Ν,Α hk]<;>rfl)
 have ek:k=((k.toNat:Nat):Int):=by omega
 rw[<-ek]at q
 exact⟨_,q⟩
theorem kb{a:Int}(n:Int)(h:0<n):0<=a%n/\a%n<n:=⟨Int.emod_nonneg _ (),Int.emod_lt_of_pos _ h⟩
def aq(a:Addr)(H H':Hp):Prop:=∀g o,g≠a->H g=some o->H' g=some o
theorem aq.refl(a:Addr)(H:Hp):aq a H H:=λ_ _ _ e=>e
theorem aq.trans{a:Addr}{H H1 H2:Hp}(s:aq a H H1)(t:aq a H1 H2):aq a H H2:=λg o hg e=>t g o hg (s g o hg e)
theorem ak.b{H H':Hp}(a:Addr)(s:ak H H'):aq a H H':=λg o _ e=>s g o e
theorem aq.upd(H:Hp)(a:Addr)(o:HO):aq a H (upd H a o):=λg u hg e=>by rw[ao hg];exact e
theorem aq.same{a:Addr}{H H1 H2:Hp}(h:H a=none)(s:ak H H1)(t:aq a H1 H2):ak H H2:=λg o e=>t g o (ah e h) (s g o e)
def mj(H H':Hp):Prop:=∀b zs,H b=some (.tup zs)->H' b=some (.tup zs)
theorem aq.tups{a:Addr}{H H':Hp}{xs:List V}(s:aq a H H')(h:H a=some (.lst xs)):mj H H':=λb zs e=>s b _ (λz=>by rw[z,h]at e;cases e) e
theorem bt{H H':Hp}:∀{ds:List Dv}{vs:List V},(∀d∈ds,∀v,Rep H d v->Rep H' d v)->Reps H ds vs->Reps H' ds vs
 |[],vs,_,h=>by simpa only[Reps]using h
 |d::ds,vs,f,h=>by
  simp only[Reps]at h⊢
  obtain⟨v,r,rfl,h1,h2⟩:=h
  exact⟨v,r,rfl,f d ο v h1,bt (λe he=>f e (Ε _ he)) h2⟩
theorem aT{H H':Hp}(t:mj H H'){n:Nat}{d:Dv}(h:L2.Pl n d):∀{v:V},Rep H d v->Rep H' d v:=by
 induction h with
 |int=>intro v r;simpa only[Rep]using r
 |str=>intro v r;simpa only[Rep]using r
 |non=>intro v r;simpa only[Rep]using r
 |tup _ ih=>
  intro v r
  simp only[Rep]at r⊢
  obtain⟨a,vs,rfl,ha,rs⟩:=r
  exact⟨a,vs,rfl,t _ _ ha,bt (λd hd v r=>ih d hd r) rs⟩
theorem oE(c:Int)(ps:List Pr):L2.Pl 3 (bR c ps):=.tup λd hd=>by
 rcases ν.mp hd with rfl|hd
 ·exact .int
 ·rw[ξ.mp hd]
  refine .tup λe he=>?_
  obtain⟨p,_,rfl⟩:=Ω.mp he
  refine .tup λg hg=>?_
  rcases ν.mp hg with rfl|hg
  ·exact .str
  ·rw[ξ.mp hg];exact .int
theorem AF{c:TT}{tb:TS}{D:bZ}{σ:St}{H:Hp}(Pv:Nat->St->Hp->Prop)(m:Nat)(h0:Pv m σ H)
  (hs:∀m σ H,Pv m σ H->c σ H λb H1=>if b=true then tb {D with nx:=λσ' H'=>∃m',m'<m/\Pv m' σ' H',ct:=λσ' H'=>∃m',m'<m/\Pv m' σ' H',bk:=D.nx} σ H1 else D.nx σ H1)
  (mono:∀σ H Q Q',(∀b H1,Q b H1->Q' b H1)->c σ H Q->c σ H Q'):su c tb D σ H:=by
 refine⟨Pv,⟨m,h0⟩,λm σ H p=>mono σ H _ _ (λb H1 q=>?_) (hs m σ H p)⟩
 cases b with
 |true=>exact⟨_,λσ' H' q'=>q',q⟩
 |false=>exact q
theorem kW{K:ε}{i:Nat}:∀σ H (Q Q':Bool->Hp->Prop),(∀b H1,Q b H1->Q' b H1)->(λ(σ:St) (H:Hp) (Q:Bool->Hp->Prop)=>lG i σ H λx H'=>∃k,zA K x H' k/\Q k H') σ H Q->(λ(σ:St) (H:Hp) (Q:Bool->Hp->Prop)=>lG i σ H λx H'=>∃k,zA K x H' k/\Q k H') σ H Q':=by
 rintro σ H Q Q' h ⟨v,e,k,t,q⟩
 exact⟨v,e,k,t,h _ _ q⟩
inductive Kd where
 |whole
 |place (c:Int) (ps:List Pr)
 |row (c:Int) (ps:List Pr) (k:Kd)
 |pair (k j:Kd)
def Kd.dv:Kd->Dv
 |.whole=>.tup [.str "whole"]
 |.place c ps=>.tup [.str "place",bR c ps]
 |.row c ps k=>.tup [.str "row",bR c ps,k.dv]
 |.pair k j=>.tup [.str "pair",k.dv,j.dv]
def Kd.size:Kd->Nat
 |.whole=>1
 |.place _ _=>1
 |.row _ _ k=>k.size+1
 |.pair k j=>k.size+j.size+1
theorem Kd.size_pos:∀k:Kd,1<=k.size
 |.whole=>π _
 |.place _ _=>π _
 |.row _ _ k=>by show 1<=k.size+1;omega
 |.pair k j=>by show 1<=k.size+j.size+1;omega
theorem Kd.pl:∀k:Kd,L2.Pl (k.size+3) k.dv
 |.whole=>.tup λd hd=>by rw[ξ.mp hd];exact .str
 |.place c ps=>.tup λd hd=>by
  rcases ν.mp hd with rfl|hd
  ·exact .str
  ·rw[ξ.mp hd];exact oE c ps
 |.row c ps k=>.tup λd hd=>by
  rcases ν.mp hd with rfl|hd
  ·exact .str
  rcases ν.mp hd with rfl|hd
  ·exact(oE c ps).up (by show 3<=k.size+3;omega)
  ·rw[ξ.mp hd];exact k.pl
 |.pair k j=>.tup λd hd=>by
  rcases ν.mp hd with rfl|hd
  ·exact .str
  rcases ν.mp hd with rfl|hd
  ·exact k.pl.up (by show k.size+3<=k.size+j.size+3;omega)
  ·rw[ξ.mp hd];exact j.pl.up (by show j.size+3<=k.size+j.size+3;omega)
def Kd.word:Kd->Str
 |.whole=>"whole"
 |.place _ _=>"place"
 |.row _ _ _=>"row"
 |.pair _ _=>"pair"
def Kd.All(P:Int->List Pr->Prop):Kd->Prop
 |.whole=>True
 |.place c ps=>P c ps
 |.row c ps k=>P c ps/\k.All P
 |.pair k j=>k.All P/\j.All P
theorem Kd.tupS{H H':Hp}(t:mj H H'){k:Kd}{v:V}(r:Rep H k.dv v):Rep H' k.dv v:=aT t k.pl r
theorem Kd.inv{H:Hp}{k:Kd}{v:V}(r:Rep H k.dv v):∃a vs,v=.ref a/\H a=some (.tup (.str k.word::vs)) /\
  (match k with
   |.whole=>vs=[]
   |.place c ps=>∃l,vs=[l]/\Rep H (bR c ps) l
   |.row c ps j=>∃l u,vs=[l,u]/\Rep H (bR c ps) l/\Rep H j.dv u
   |.pair i j=>∃u w,vs=[u,w]/\Rep H i.dv u/\Rep H j.dv w):=by
 cases k with
 |whole=>
  simp only[Kd.dv,Rep,Reps]at r
  obtain⟨a,vs,rfl,ha,x,r1,rfl,rfl,rfl⟩:=r
  exact⟨a,[],rfl,ha,rfl⟩
 |place c ps=>
  rw[Kd.dv,Rep]at r
  obtain⟨a,vs,rfl,ha,rs⟩:=r
  simp only[Reps]at rs
  obtain⟨x,r1,rfl,hx,y,r2,rfl,hy,rfl⟩:=rs
  simp only[Rep]at hx
  subst hx
  exact⟨a,_,rfl,ha,y,rfl,hy⟩
 |row c ps j=>
  rw[Kd.dv,Rep]at r
  obtain⟨a,vs,rfl,ha,rs⟩:=r
  simp only[Reps]at rs
  obtain⟨x,r1,rfl,hx,y,r2,rfl,hy,z,r3,rfl,hz,rfl⟩:=rs
  simp only[Rep]at hx
  subst hx
  exact⟨a,_,rfl,ha,y,z,rfl,hy,hz⟩
 |pair i j=>
  rw[Kd.dv,Rep]at r
  obtain⟨a,vs,rfl,ha,rs⟩:=r
  simp only[Reps]at rs
  obtain⟨x,r1,rfl,hx,y,r2,rfl,hy,z,r3,rfl,hz,rfl⟩:=rs
  simp only[Rep]at hx
  subst hx
  exact⟨a,_,rfl,ha,y,z,rfl,hy,hz⟩
theorem nJ{H:Hp}{a:Addr}(h:H a=some (.tup [.str "whole"])):Rep H Kd.whole.dv (.ref a):=by
 simp only[Kd.dv,Rep,Reps]
 exact⟨a,_,rfl,h,_,_,rfl,rfl,rfl⟩
theorem mT{H:Hp}{a:Addr}{l:V}{c:Int}{ps:List Pr}(h:H a=some (.tup [.str "place",l]))(r:Rep H (bR c ps) l):Rep H (Kd.place c ps).dv (.ref a):=by
 rw[Kd.dv,Rep]
 refine⟨a,_,rfl,h,?_⟩
 simp only[Reps]
 exact⟨_,_,rfl,by simp only[Rep],_,_,rfl,r,rfl⟩
theorem uz{H:Hp}{a:Addr}{l u:V}{c:Int}{ps:List Pr}{k:Kd}(h:H a=some (.tup [.str "row",l,u]))(r:Rep H (bR c ps) l)(r2:Rep H k.dv u):Rep H (Kd.row c ps k).dv (.ref a):=by
 rw[Kd.dv,Rep]
 refine⟨a,_,rfl,h,?_⟩
 simp only[Reps]
 exact⟨_,_,rfl,by simp only[Rep],_,_,rfl,r,_,_,rfl,r2,rfl⟩
theorem qJ{H:Hp}{a:Addr}{l u:V}{j k:Kd}(h:H a=some (.tup [.str "pair",l,u]))(r:Rep H j.dv l)(r2:Rep H k.dv u):Rep H (Kd.pair j k).dv (.ref a):=by
 rw[Kd.dv,Rep]
 refine⟨a,_,rfl,h,?_⟩
 simp only[Reps]
 exact⟨_,_,rfl,by simp only[Rep],_,_,rfl,r,_,_,rfl,r2,rfl⟩
theorem pZ{G H2:Hp}{kvs:List Pr}{qs:List TK}(hq:∀r∈qs,H2 r.1=some (.tup (.str r.2.1::r.2.2))/\G r.1=none)(pq:(qs.map (·.2)).Perm ((kvs.map λp=>(p.1,V.int p.2)).map λp=>(p.1,[p.2])))(pw:qs.Pairwise xK)(hall:∀p∈kvs,1<=p.2):
  (qs.map tkV).Perm kvs/\qb (qs.map tkV)/\∀t,H2 t=none->Rep (upd H2 t (.tup (qs.map λr=>V.ref r.1))) (.tup (aR (qs.map tkV))) (.ref t):=by
 have shape:∀r∈qs,∃p∈kvs,r.2=(p.1,[V.int p.2]):=λr hr'=>by
  have:=pq.mem_iff.mp (p_ (f:=(·.2)) hr')
  rw[Ψ]at this
  obtain⟨p,hp,e⟩:=Ω.mp this
  exact⟨p,hp,e.symm⟩
 have tk:∀r∈qs,r.2.1=(tkV r).1/\r.2.2=[V.int (tkV r).2]:=λr hr'=>by
  obtain⟨p,_,e⟩:=shape r hr'
  unfold tkV
  rw[e]
  exact⟨rfl,rfl⟩
 have perm:(qs.map tkV).Perm kvs:=by
  have e1:qs.map tkV=(qs.map (·.2)).map λz=>(z.1,match z.2 with| [.int n]=>n|_=>0):=by
   rw[Ψ];rfl
  have e2:kvs=((kvs.map λp=>(p.1,V.int p.2)).map λp=>(p.1,[p.2])).map λz=>(z.1,match z.2 with| [.int n]=>n|_=>0):=by
   rw[Ψ,Ψ]
   exact(List.map_id kvs).symm
  rw[e1]
  rw[e2]
  exact pq.map _
 refine⟨perm,⟨List.pairwise_map.mpr (pw.imp λ{x y} h=>h),λp hp=>hall p (perm.mem_iff.mp hp)⟩,λt ht=>?_⟩
 simp only[Rep]
 refine⟨t,_,rfl,aa,nh λr hr'=>?_⟩
 have:=(hq r hr').1
 rw[(tk r hr').1,(tk r hr').2]at this
 exact ac ht _ _ _ this
theorem zi{H:Hp}{c:Int}{ps:List Pr}{p:Addr}{w:V}(hp:H p=some (.tup [.int c,w]))(R:Rep H (.tup (aR ps)) w):Rep H (bR c ps) (.ref p):=by
 obtain⟨b,us,rfl,hb,ru⟩:=Rep.tup_inv R
 exact oT hp hb ru
theorem iX{H:Hp}:∀{ds:List Dv}{d:Dv}{vs:List V},Reps H (ds++[d]) vs->∃vs0 v,vs=vs0++[v]/\Reps H ds vs0/\Rep H d v
 |[],d,vs,h=>by
  simp only[e_,Reps]at h
  obtain⟨v,r,rfl,hv,rfl⟩:=h
  exact⟨[],v,rfl,by simp only[Reps],hv⟩
 |e::ds,d,vs,h=>by
  simp only[Ϲ,Reps]at h
  obtain⟨v,r,rfl,hv,hr⟩:=h
  obtain⟨vs0,u,rfl,h1,h2⟩:=iX hr
  exact⟨v::vs0,u,rfl,by simp only[Reps];exact⟨v,vs0,rfl,hv,h1⟩,h2⟩
theorem aQ{H:Hp}{d:Dv}{v:V}(h:Rep H d v):Reps H [d] [v]:=by simp only[Reps];exact⟨v,[],rfl,h,rfl⟩
theorem rQ(vs:List V)(v:V):(vs++[v])[(vs++[v]).length-1]?=some v:=by simp
theorem uP{t1 t2:TT}{σ:St}{H:Hp}{Q:Bool->Hp->Prop}(C:Prop)(qT:C->Q true H)(qF:Q false H)(f:(C->Q true H)->Q false H->Cy t1 t2 σ H Q):Cy t1 t2 σ H Q:=f qT qF
theorem oW{α:Type}:∀{l:List α},l≠[]->∃l0 x,l=l0++[x]:=λ{l} h=>by
 rcases List.eq_nil_or_concat l with e|⟨l0,x,e⟩
 ·exact absurd e h
 ·exact⟨l0,x,by rw[e];simp⟩
theorem gnm{i:Nat}{x:V}{σ:St}{H:Hp}{N:St->Hp->Prop}(h:N (σ.set i (some x)) H):dE i x σ H N:=h
theorem ifT{A B:Prop}(h:if true=true then A else B):A:=by rwa[Q5 rfl]at h
theorem ifF{A B:Prop}(h:if false=true then A else B):B:=by rwa[Q6 Ξ]at h
theorem Dm:¬ (γ "whole"=γ "place"):=by decide +kernel
theorem DO:¬ (γ "whole"=γ "row"):=by decide +kernel
theorem DN:¬ (γ "whole"=γ "pair"):=by decide +kernel
theorem Ct:¬ (γ "place"=γ "row"):=by decide +kernel
theorem BA:¬ (γ "place"=γ "pair"):=by decide +kernel
theorem Bp:¬ (γ "row"=γ "pair"):=by decide +kernel
theorem wne{x y:Str}(h:¬ x=y):¬ V.str x=V.str y:=λe=>h (V.str.inj e)
end KB
namespace L2
open PySem PySem.Spec PyProof.Rows PySem.W
section
variable{X:Cx}
end
end L2
namespace KB
open PySem L2
theorem eE{H:Hp}{α:Type}{f:α->Dv}{xs:List α}{us:List V}{i:Nat}{u:V}(R:Reps H (xs.map f) us)(h:us[i]?=some u):∃x,xs[i]?=some x/\Rep H (f x) u:=by
 obtain⟨d,hd,Rd⟩:=R.get h
 rw[Ν]at hd
 obtain⟨x,hx,rfl⟩:=ϖ.mp hd
 exact⟨x,hx,Rd⟩
end KB
namespace L2
open PySem PySem.Spec PyProof.Rows PySem.W
section
variable{P:χ}{w:Ρ}{A:ό}{E:ζ->ι->Prop}{s:ι}
end
section
variable{X:Cx}
theorem ps_dead{st:Stmt}:PS X st (λ_ _ _=>False):=λ_ _ _ _ _ _ h=>h.elim
theorem BV(hu:X.A.units<cLine):OpR X (compareOp .NotEq) (λx y H Q=>∃(l b:Addr) (xs:List V),x=.ref l/\y=.ref b/\SqL X.K H l xs/\SqL X.K H b []/\Q (.bl (!xs.isEmpty)) H):=by
 intro pins s σ H x y v u Q I rx ry h
 obtain⟨l,b,xs,rfl,rfl,hl,hb,q⟩:=h
 cases rx
 cases ry
 obtain⟨its,r1,p1,_⟩:=I.list hl
 obtain⟨its2,r2,p2,_⟩:=I.list hb
 have l1:=r1.length
 have l2:=r2.length
 cases xs with
 |nil=>
  refine SeqAt.RcNeAt.lists (e:=λ_=>true) p1.isList p2.isList (by simp;omega) hu (λj h1 h2=>?_) X.prog X.w X.xe _ ?_
  ·have:j<its.length:=by simpa using h1
   simp at l1;omega
  ·have e:(!((Ϝ its.toArray.size).all λ_=>true))=false:=by simp
   rw[e]
   exact⟨.bl false,H,I,rfl,q⟩
 |cons x xs=>
  refine SeqAt.RcNeAt.lists_lengths p1.isList p2.isList ?_ hu X.prog X.w X.xe _ ⟨.bl true,H,I,rfl,q⟩
  rw[Γ]at l1
  rw[j4]at l2
  rw[Δ,Δ,bne_iff_ne]
  omega
def DG:R2:=λx y H Q=>∃(n:Nat) (ds:List Dv),(∀d∈ds,Pl n d)/\n<=140/\Rep H (.lst ds) x/\Rep H (.lst ds) y/\Q (.bl true) H
theorem zL(hu:X.A.units+150<cLine):OpR X (compareOp .Eq) DG:=by
 intro pins s σ H x y v u Q I rx ry h
 obtain⟨n,ds,hd,hn,r1,r2,q⟩:=h
 simp only[Rep]at r1 r2
 obtain⟨l,vs,rfl,h1,rs1⟩:=r1
 obtain⟨b',ws,rfl,h2,rs2⟩:=r2
 cases rx
 cases ry
 obtain⟨its,rv1,p1,_⟩:=I.list (SqL.of h1)
 obtain⟨its2,rv2,p2,_⟩:=I.list (SqL.of h2)
 have hu':X.A.in1.units+n<cLine:=by show X.A.units+1+n<cLine;omega
 obtain⟨z1,z2,w⟩:=gE I (A:=X.A.in1) (n:=n) (λd hd1 e he v w a b r1 r2 q1 q2=>uG I (hd d hd1) (hd e he) hu' r1 r2 q1 q2) rs1 rs2 rv1 rv2
 refine Gw.lists (e:=λj=>gj (ds[j]?=ds[j]?)) p1.isList p2.isList () () w X.prog X.w X.xe _ ?_
 have e:((Ϝ its.toArray.size).all λj=>gj (ds[j]?=ds[j]?))=true:=by
  rw[ϭ]
  exactλj _=>dZ.mpr rfl
 rw[e]
 exact⟨.bl true,H,I,rfl,q⟩
end
section
variable{prog:χ}{w:Ρ}{A:ό}{E:ζ->ι->Prop}{s:ι}{r l:Addr}{items:Array ζ}
end
section
variable{X:Cx}{e:Expr}{te:TE}{p p1 pos pos1:Pos}
end
section
variable{X:Cx}
def EG(te:TE):TE:=λσ H Q=>te σ H λx H1=>∃i:Int,x=.int i/\i.natAbs.log2<1920/\Q (.str (toString i)) H1
theorem BR{e:Expr}{te:TE}{pos:Pos}(he:PE X e te):PE X (.FormattedValue e (-1) none pos) (EG te):=λpins s σ H Q I h=>
 FF (thn (he pins s σ H _ I h) λv s1 ⟨x,H1,I1,r1,i,ex,hd,q⟩=>by
  subst ex
  obtain⟨k,rfl⟩:=r1
  exact wpAny_formatField_int hd ⟨.str (toString i),H1,I1.tok _,⟨_,rfl⟩,q⟩)
theorem uv:MtR X "str.startswith" (λx xs H Q=>∃(a b:Str) (i:Int),x=.str a/\xs=[.str b,.int i]/\Q (.bl (Txt.startswith3 a b i)) H):=by
 intro pins s σ H x xs v us Q I rx r h
 obtain⟨a,b,i,rfl,rfl,q⟩:=h
 obtain⟨t,rfl⟩:=rx
 cases r with
 |cons r1 rr=>
  cases rr with
  |cons r2 rr=>
   cases rr
   obtain⟨t1,rfl⟩:=r1
   obtain⟨t2,rfl⟩:=r2
   exact SC.startswith3 ⟨.bl _,H,I,rfl,q⟩
theorem mz:cK X (.type "int") (λxs H Q=>∃(a:Str) (n:Int),xs=[.str a]/\PySem.intText? a=some n/\a.length<=640/\Q (.int n) H):=by
 intro pins s σ H xs us Q I r h
 obtain⟨a,n,rfl,hn,hl,q⟩:=h
 obtain⟨u,rfl,t,rfl⟩:=dA r
 exact KIN.call_text hn hl ⟨.int n,H,I.tok _,⟨_,rfl⟩,q⟩
theorem ka:∀l:List (Str×Tok),aF ((l.map (·.1)).map V.str) (strValues l)
 |[]=>.nil
 |(x,t)::l=>.cons ⟨t,rfl⟩ (ka l)
theorem cZ:MtR X "str.split" (λx xs H Q=>∃a b:Str,x=.str a/\xs=[.str b]/\(b.length==0)=false/\a.length<=sizeLine/\(Txt.split a b).length<=sizeLine/\∀p,H p=none->Q (.ref p) (upd H p (.lst ((Txt.split a b).map V.str)))):=by
 intro pins s σ H x xs v us Q I rx r h
 obtain⟨a,b,rfl,rfl,hb,ha,hz,q⟩:=h
 obtain⟨t,rfl⟩:=rx
 obtain⟨u,rfl,t1,rfl⟩:=dA r
 have fin:∀(l:List (Str×Tok))(tk:Nat),l.map (·.1)=Txt.split a b->EP X pins σ Q (.ref s.heap.objs.size) {s with heap:=s.heap.push {cls:=.type "list",data:=.seq (strValues l).toArray},toks:=tk}:=λl tk e=>by
  refine⟨.ref _,_,I.laid (t':=tk) (o:=.lst ((Txt.split a b).map V.str)) (λb ob q=>ρ _ q) (π _) ?_,rfl,q _ (I.hok.fresh (π _))⟩
  refine⟨by rw[δ];exact hz,strValues l,0,?_,Λ _ rfl⟩
  rw[<-e];exact ka l
 cases h1:(decide (a.length<b.length)||decide (v_.Str.strKind a<v_.Str.strKind b))
 ·cases hf:(m9 a b 0 a.length (a.length+1)).isEmpty
  ·have es:Txt.split a b=v_.Str.partsBetween a (m9 a b 0 a.length (a.length+1)) b.length:=(Q6 (ne_true_of_eq_false h1)).trans (Q6 (ne_true_of_eq_false hf))
   refine B6 F_ (ER _ _ _) F3 (FJ _ _) (meets_str_split_sep a b t t1 h1 hb hf ha (by rw[<-es];exact hz)) ?_
   show wants (EP X pins σ Q) X.xe _ {s with toks:=_,heap:=s.heap.push {cls:=.type "list",data:=.seq (strsFrom s.toks (v_.Str.partsBetween a (m9 a b 0 a.length (a.length+1)) b.length)).toArray} }
   rw[strsFrom_eq]
   exact fin (numbered s.toks _) _ ((numbered_texts _ _).trans es.symm)
  ·exact B6 F_ (ER _ _ _) F3 (FJ _ _) (meets_str_split_not_found a b t t1 h1 hb hf) (fin [(a,t)] s.toks ((Q6 (ne_true_of_eq_false h1)).trans (Q5 hf)).symm)
 ·exact B6 F_ (ER _ _ _) F3 (FJ _ _) (meets_str_split_cannot_occur a b t t1 h1) (fin [(a,t)] s.toks (Q5 h1).symm)
end
abbrev pd(h:Heap)(l1:Addr):Heap:=h.push {cls:=.type "tuple_iterator",data:=.fields #[.ref l1,.int 0 0]}
abbrev pH(h:Heap)(l1 l2:Addr):Heap:=(pd h l1).push {cls:=.type "list_iterator",data:=.fields #[.ref l2,.int 0 0]}
abbrev oJ(h:Heap)(l1 l2:Addr):Heap:=(pH h l1 l2).push {cls:=.type "tuple",data:=.seq #[.ref h.objs.size,.ref (pd h l1).objs.size]}
abbrev pE(h:Heap)(l1 l2:Addr):Heap:=(oJ h l1 l2).push {cls:=.type "tuple",data:=.seq #[.none,.none]}
abbrev iD(h:Heap)(l1 l2:Addr):Heap:=(pE h l1 l2).push {cls:=.type "zip",data:=.fields #[.none,.bool false,.bool false,.ref (pH h l1 l2).objs.size,.ref (oJ h l1 l2).objs.size]}
section
variable{prog:χ}{w:Ρ}{A:ό}{E:ζ->ι->Prop}{s:ι}
theorem tW{z TI TO i1 i2 l1 l2:Addr}{k1 k2:Nat}{xs ys:Array ζ}{x y a b:ζ}{Q:ζ->ι->Prop}(D:A0 z TI TO i1 i2 l1 l2)(hz:r6 s.heap z TI TO .none)(hTI:Ϭ s.heap TI (.ref i1) (.ref i2))(hTO:Ϭ s.heap TO a b)
  (h1:s.heap.IsTupleIter i1 l1 k1) (h2:s.heap.IsListIter i2 l2 k2) (hl1:s.heap.IsTuple l1 xs) (hl2:s.heap.IsList l2 ys) (hx:xs[k1]?=some x) (hy:ys[k2]?=some y)
  (hQ:∀h',r6 h' z TI TO (rawInt s.heap.objs.size)->Ϭ h' TO x y->h'.IsTupleIter i1 l1 (k1+1)->h'.IsListIter i2 l2 (k2+1)->Ϭ h' s.heap.objs.size x y->(∀c o,c≠z->c≠TO->c≠i1->c≠i2->s.heap.get? c=some o->h'.get? c=some o)->Q (.ref s.heap.objs.size) {s with heap:=h'}):
  wpAny (model prog w) A (v_.«zip.__next__» ⟨[.ref z],[]⟩) (λfin s'=>∃v,fin=.done (.ret v)/\Q v s') E s:=by
 show wpAny _ _ (field (.ref z) 2>>=_) _ _ _;refine η (ϣ hz rfl (x:=.bool false) rfl ?_)
 show wpAny _ _ (field (.ref z) 3>>=_) _ _ _;refine η (ϣ hz rfl (x:=.ref TI) rfl ?_);refine η (Ϻ hTI rfl ?_)
 show wpAny _ _ (Ϙ (.ref z)>>=_) _ _ _;refine η ?_;unfold Ϙ
 refine η (ϣ hz rfl (x:=.none) rfl (ω ?_));simp only[if_true];refine η (FE ?_)
 refine η (ϣ hz rfl (x:=.ref TO) rfl ?_);refine η (ϩ hz () λg1 z1 c1=>?_)
 replace z1:r6 g1 z TI TO .ellipsis:=z1
 refine η ?_;simp only[E9,Fg,EJ,FH];refine η (η (x_ ?_))
 show wpAny _ _ (ϗ (.ref i1)>>=_) _ _ _;refine η (bD (h1.extBut c1.extBut D.i1z) (hl1.extBut c1.extBut D.l1z) hx λg2 it2 c2=>ω ?_)
 have t2:Ϭ g2 TO a b:=c2.extBut _ _ D.TOi1 (c1.extBut _ _ D.TOz hTO)
 refine η (Ϻ t2 rfl ?_);refine η (m7 t2 λg3 t3 c3=>?_)
 replace t3:Ϭ g3 TO x b:=t3
 refine η (Fb (ω ?_));refine η (η (x_ ?_))
 show wpAny _ _ (ϗ (.ref i2)>>=_) _ _ _;refine η (wpAny_nextOf_list_item (((h2.extBut c1.extBut D.i2z).extBut c2.extBut D.i12.symm).extBut c3.extBut D.TOi2.symm) (((hl2.extBut c1.extBut D.l2z).extBut c2.extBut D.l2i1).extBut c3.extBut D.l2TO) hy λg4 it4 c4=>ω ?_)
 have t4:Ϭ g4 TO x b:=c4.extBut _ _ D.TOi2 t3
 refine η (Ϻ t4 rfl ?_);refine η (m7 t4 λg5 t5 c5=>?_)
 replace t5:Ϭ g5 TO x y:=t5
 refine η (Fb (ω (ω ?_)));refine η (Ϻ t5 rfl ?_);refine η (Gn ?_)
 have sz:g5.objs.size=s.heap.objs.size:=by rw[c5.1,c4.1,c3.1,c2.1,c1.1]
 have z5:r6 g5 z TI TO .ellipsis:=c5.extBut _ _ D.TOz.symm (c4.extBut _ _ D.i2z.symm (c3.extBut _ _ D.TOz.symm (c2.extBut _ _ D.i1z.symm z1)))
 have k5:∀c o,c≠z->c≠TO->c≠i1->c≠i2->s.heap.get? c=some o->g5.get? c=some o:=λc o d1 d2 d3 d4 e=>c5.extBut _ _ d2 (c4.extBut _ _ d4 (c3.extBut _ _ d2 (c2.extBut _ _ d3 (c1.extBut _ _ d1 e))))
 have j1:g5.IsTupleIter i1 l1 (k1+1):=((it2.extBut c3.extBut D.TOi1.symm).extBut c4.extBut D.i12).extBut c5.extBut D.TOi1.symm
 have j2:g5.IsListIter i2 l2 (k2+1):=it4.extBut c5.extBut D.TOi2.symm
 have zlt:z<g5.objs.size:=Β z5
 show wpAny _ _ (i7 (.ref z) (.ref g5.objs.size)>>=_) _ _ _;refine η ?_;unfold i7
 have z6:r6 (g5.push {cls:=.type "tuple",data:=.seq #[x,y]}) z TI TO .ellipsis:=ρ _ z5
 refine η (ϩ z6 () λg7 z7 c7=>?_)
 replace z7:r6 g7 z TI TO (rawInt g5.objs.size):=z7
 refine ϩ z7 () λg8 z8 c8=>?_
 replace z8:r6 g8 z TI TO (rawInt g5.objs.size):=z8
 have up:∀c o,c≠z->g5.get? c=some o->g8.get? c=some o:=λc o d1 e=>c8.extBut _ _ d1 (c7.extBut _ _ d1 (ρ _ e))
 have p8:Ϭ g8 g5.objs.size x y:=c8.extBut _ _ (A2 zlt) (c7.extBut _ _ (A2 zlt) (Λ _ rfl))
 rw[sz]at z8 p8
 refine ω ⟨_,rfl,?_⟩
 show Q (.ref g5.objs.size) _;rw[sz]
 exact hQ g8 z8 (up _ _ D.TOz t5) (j1.at λo e=>up _ o D.i1z e) (j2.at λo e=>up _ o D.i2z e) p8 λc o d1 d2 d3 d4 e=>up c o d1 (k5 c o d1 d2 d3 d4 e)
theorem wp{z TI TO i1 i2 l1 l2:Addr}{k1 k2:Nat}{xs ys:Array ζ}{a b:ζ}{Q:Fin->ι->Prop}(hh:A.handled=none)(D:A0 z TI TO i1 i2 l1 l2)(hz:r6 s.heap z TI TO .none)(hTI:Ϭ s.heap TI (.ref i1) (.ref i2))(hTO:Ϭ s.heap TO a b)
  (h1:s.heap.IsTupleIter i1 l1 k1) (h2:s.heap.IsListIter i2 l2 k2) (hl1:s.heap.IsTuple l1 xs) (hl2:s.heap.IsList l2 ys) (hend:xs[k1]?=none\/ys[k2]?=none)
  (hE:∀h' e,(∀c o,c≠z->c≠TO->c≠i1->c≠i2->s.heap.get? c=some o->h'.get? c=some o)->(∃o,h'.get? e=some o/\o.cls=.type "StopIteration")->E (.ref e) {s with heap:=h'}):wpAny (model prog w) A (v_.«zip.__next__» ⟨[.ref z],[]⟩) Q E s:=by
 show wpAny _ _ (field (.ref z) 2>>=_) _ _ _;refine η (ϣ hz rfl (x:=.bool false) rfl ?_)
 show wpAny _ _ (field (.ref z) 3>>=_) _ _ _;refine η (ϣ hz rfl (x:=.ref TI) rfl ?_);refine η (Ϻ hTI rfl ?_)
 show wpAny _ _ (Ϙ (.ref z)>>=_) _ _ _;refine η ?_;unfold Ϙ
 refine η (ϣ hz rfl (x:=.none) rfl (ω ?_));simp only[if_true];refine η (FE ?_)
 refine η (ϣ hz rfl (x:=.ref TO) rfl ?_);refine η (ϩ hz () λg1 z1 c1=>?_)
 replace z1:r6 g1 z TI TO .ellipsis:=z1
 refine η ?_;simp only[E9,Fg,EJ,FH];refine η (η (x_ ?_))
 show wpAny _ _ (ϗ (.ref i1)>>=_) _ _ _
 cases hx:xs[k1]? with
 |none=>
  refine η (dw hh (h1.extBut c1.extBut D.i1z) (hl1.extBut c1.extBut D.l1z) hx λg2 e c2 ⟨oe,hoe,hce⟩=>?_)
  have z2:r6 g2 z TI TO .ellipsis:=c2 _ _ D.i1z.symm z1
  have ez:e≠z:=λq=>by subst q;rw[z2]at hoe;cases hoe;simp at hce
  exact ϩ z2 () λg3 _ c3=>hE g3 e (λc o d1 _ d3 _ q=>c3.extBut _ _ d1 (c2 _ _ d3 (c1.extBut _ _ d1 q))) ⟨oe,c3.extBut _ _ ez hoe,hce⟩
 |some x=>
  have hy:ys[k2]?=none:=hend.resolve_left (by rw[hx];exact nofun)
  refine η (bD (h1.extBut c1.extBut D.i1z) (hl1.extBut c1.extBut D.l1z) hx λg2 it2 c2=>ω ?_)
  have t2:Ϭ g2 TO a b:=c2.extBut _ _ D.TOi1 (c1.extBut _ _ D.TOz hTO)
  refine η (Ϻ t2 rfl ?_);refine η (m7 t2 λg3 t3 c3=>?_)
  refine η (Fb (ω ?_));refine η (η (x_ ?_))
  show wpAny _ _ (ϗ (.ref i2)>>=_) _ _ _;refine η (wpAny_nextOf_list_end hh (((h2.extBut c1.extBut D.i2z).extBut c2.extBut D.i12.symm).extBut c3.extBut D.TOi2.symm) (((hl2.extBut c1.extBut D.l2z).extBut c2.extBut D.l2i1).extBut c3.extBut D.l2TO) hy λg4 e c4 ⟨oe,hoe,hce⟩=>?_)
  have z4:r6 g4 z TI TO .ellipsis:=c4 _ _ D.i2z.symm (c3.extBut _ _ D.TOz.symm (c2.extBut _ _ D.i1z.symm z1))
  have ez:e≠z:=λq=>by subst q;rw[z4]at hoe;cases hoe;simp at hce
  exact ϩ z4 () λg5 _ c5=>hE g5 e (λc o d1 d2 d3 d4 q=>c5.extBut _ _ d1 (c4 _ _ d4 (c3.extBut _ _ d2 (c2.extBut _ _ d3 (c1.extBut _ _ d1 q))))) ⟨oe,c5.extBut _ _ ez hoe,hce⟩
theorem pX{z TI TO i1 i2 l1 l2:Addr}{k1 k2:Nat}{xs ys:Array ζ}{x y a b:ζ}{Q:Option ζ->ι->Prop}(D:A0 z TI TO i1 i2 l1 l2)(hz:r6 s.heap z TI TO .none)(hTI:Ϭ s.heap TI (.ref i1) (.ref i2))(hTO:Ϭ s.heap TO a b)
  (h1:s.heap.IsTupleIter i1 l1 k1) (h2:s.heap.IsListIter i2 l2 k2) (hl1:s.heap.IsTuple l1 xs) (hl2:s.heap.IsList l2 ys) (hx:xs[k1]?=some x) (hy:ys[k2]?=some y)
  (hQ:∀h',r6 h' z TI TO (rawInt s.heap.objs.size)->Ϭ h' TO x y->h'.IsTupleIter i1 l1 (k1+1)->h'.IsListIter i2 l2 (k2+1)->Ϭ h' s.heap.objs.size x y->(∀c o,c≠z->c≠TO->c≠i1->c≠i2->s.heap.get? c=some o->h'.get? c=some o)->Q (some (.ref s.heap.objs.size)) {s with heap:=h'}):
  wpAny (model prog w) A (pyNext (.ref z)) Q E s:=by
 have hT:s.TypeIs (.ref z) "zip":=⟨_,hz,rfl⟩;unfold pyNext
 exact η (F5 (ϸ (name:=γ "__next__") hT o_ (a9 o_ hT E_ (tW D hz hTI hTO h1 h2 hl1 hl2 hx hy λh' a1 a2 a3 a4 a5 a6=>ω (hQ h' a1 a2 a3 a4 a5 a6)) (E2 _))))
theorem tX{z TI TO i1 i2 l1 l2:Addr}{k1 k2:Nat}{xs ys:Array ζ}{a b:ζ}{Q:Option ζ->ι->Prop}(hh:A.handled=none)(D:A0 z TI TO i1 i2 l1 l2)(hz:r6 s.heap z TI TO .none)(hTI:Ϭ s.heap TI (.ref i1) (.ref i2))(hTO:Ϭ s.heap TO a b)
  (h1:s.heap.IsTupleIter i1 l1 k1) (h2:s.heap.IsListIter i2 l2 k2) (hl1:s.heap.IsTuple l1 xs) (hl2:s.heap.IsList l2 ys) (hend:xs[k1]?=none\/ys[k2]?=none)
  (hQ:∀h',(∀c o,c≠z->c≠TO->c≠i1->c≠i2->s.heap.get? c=some o->h'.get? c=some o)->Q none {s with heap:=h'}):wpAny (model prog w) A (pyNext (.ref z)) Q E s:=by
 have hT:s.TypeIs (.ref z) "zip":=⟨_,hz,rfl⟩;unfold pyNext
 refine η (F5 (ϸ (name:=γ "__next__") hT o_ (a9 o_ hT E_ (wp hh D hz hTI hTO h1 h2 hl1 hl2 hend λh' e hk ⟨o,ho,hc⟩=>?_) (E2 _))))
 exact η (wpAny_isInstance (T:="StopIteration") (b:=true) ⟨o,ho,hc⟩ isSubtype_stop (ω (hQ _ hk)))
theorem rT(l1 l2:Addr)(xs ys:Array ζ)(n':Nat)(dct':Option Addr)(slt':Array (Option ζ)):
  Meets (v_.«zip.__new__» ⟨[.type "zip",.ref l1,.ref l2],[]⟩) (λ_ R s=>s.heap.get? l1=some {cls:=.type "tuple",dict:=dct',data:=.seq xs n',slots:=slt'}/\s.heap.IsList l2 ys /\
   R (.ok (.ret (.ref (pE s.heap l1 l2).objs.size))) {s with heap:=iD s.heap l1 l2}):=
 .of_wp λprog w A R s h=>by
  obtain⟨hp,g,d,tk,os⟩:=s;obtain⟨hl1,hl2,h⟩:=h
  have hsub:=sub_zip
  have hL1:Heap.IsTuple (Go ⟨hp,g,d,tk,os⟩) l1 xs:=⟨_,hl1,rfl,n',rfl⟩
  have hL2:Heap.IsList (Go ⟨hp.push {cls:=.type "tuple_iterator",data:=.fields #[.ref l1,.int 0 0]},g,d,tk,os⟩) l2 ys:=let ⟨o,ho,r⟩:=hl2;⟨o,ρ _ ho,r⟩
  wp_walk using EO hL1,FV hL2,m6 hl1
  exact⟨_,rfl,h⟩
theorem sP{l1 l2:Addr}{xs ys:Array ζ}{Q:ζ->ι->Prop}(hl1:s.heap.IsTuple l1 xs)(hl2:s.heap.IsList l2 ys)
  (h:∀h',r6 h' (s.heap.objs.size+4) (s.heap.objs.size+2) (s.heap.objs.size+3) .none->Ϭ h' (s.heap.objs.size+2) (.ref s.heap.objs.size) (.ref (s.heap.objs.size+1))->Ϭ h' (s.heap.objs.size+3) .none .none->h'.IsTupleIter s.heap.objs.size l1 0->h'.IsListIter (s.heap.objs.size+1) l2 0 ->
   (∀c o,s.heap.get? c=some o->h'.get? c=some o)->Q (.ref (s.heap.objs.size+4)) {s with heap:=h'}):wpAny (model prog w) A (call (.type "zip") [.ref l1,.ref l2]) Q E s:=by
 obtain⟨⟨c',dct',dt',sl'⟩,hl',hc',n',hd'⟩:=hl1
 replace hc':c'=.type "tuple":=hc'
 replace hd':dt'=.seq xs n':=hd'
 subst hc' hd'
 refine callType_new F.called_zip () (F.typeCall_zip_2 _ _) (F.newCall_zip_2 _ _) (λobj=>F.args_object_init_3 obj _ _) F.entry_zip_new (rT l1 l2 xs ys n' dct' sl') ⟨hl',hl2,?_⟩
 have y1:(pd s.heap l1).objs.size=s.heap.objs.size+1:=j0 ..
 have y2:(pH s.heap l1 l2).objs.size=s.heap.objs.size+2:=by rw[j0,y1]
 have y3:(oJ s.heap l1 l2).objs.size=s.heap.objs.size+3:=by rw[j0,y2]
 have y4:(pE s.heap l1 l2).objs.size=s.heap.objs.size+4:=by rw[j0,y3]
 have up:∀{h:Heap}{o:Obj}{c:Addr}{p:Obj},h.get? c=some p->(h.push o).get? c=some p:=λq=>ρ _ q
 have v5:(iD s.heap l1 l2).get? (pE s.heap l1 l2).objs.size=some _:=Λ _ rfl
 have v4:(iD s.heap l1 l2).get? (oJ s.heap l1 l2).objs.size=some _:=up (Λ _ rfl)
 have v3:(iD s.heap l1 l2).get? (pH s.heap l1 l2).objs.size=some _:=up (up (Λ _ rfl))
 have v2:(iD s.heap l1 l2).get? (pd s.heap l1).objs.size=some _:=up (up (up (Λ _ rfl)))
 have v1:(iD s.heap l1 l2).get? s.heap.objs.size=some _:=up (up (up (up (Λ _ rfl))))
 show _/\_
 rw[y2,y3,y4]at v5
 rw[y1,y2]at v3
 rw[y3]at v4
 rw[y1]at v2
 rw[y4]
 exact⟨⟨_,v5,rfl⟩,h _ v5 v3 v4 ⟨_,v1,rfl,rfl⟩ ⟨_,v2,rfl,rfl⟩ λc o q=>up (up (up (up (up q))))⟩
end
def vi(K:ε)(a b:Addr):It:=
 ⟨λi H=>∃xs ys x y,SqT K H a xs/\SqL K H b ys/\xs[i]?=some x/\ys[i]?=some y,λi H z H'=>∃p x y,H p=none/\H'=upd H p (.tup [x,y])/\z=.ref p/\(∀xs,SqT K H a xs->xs[i]?=some x)/\∀ys,SqL K H b ys->ys[i]?=some y,
 λi H=>∃xs ys,SqT K H a xs/\SqL K H b ys/\(xs.length<=i\/ys.length<=i)⟩
theorem sW{P:χ}{w:Ρ}{K:ε}{elts:List Expr}{x1}{tp:Pos}(a b z TI TO i1 i2:Addr)(D1:TI≠z/\TO≠z/\i1≠z/\i2≠z/\TI≠TO/\TI≠i1/\TI≠i2/\TO≠i1/\TO≠i2/\i1≠i2)(D2:a≠TO):
  gY P w K (.Tuple elts x1 tp) (vi K a b) [z,TI,TO,i1,i2] z (λi h=>r6 h z TI TO .none/\Ϭ h TI (.ref i1) (.ref i2)/\(∃u v,Ϭ h TO u v)/\h.IsTupleIter i1 a i/\h.IsListIter i2 b i) where
 mem:=by simp
 obj:=λi h st c hc=>by
  obtain⟨hz,hTI,⟨u,v,hTO⟩,⟨o1,e1,c1,d1⟩,⟨o2,e2,c2,d2⟩⟩:=st
  simp only[ν,ϟ,or_false]at hc
  rcases hc with rfl|rfl|rfl|rfl|rfl
  ·exact⟨_,hz,λv z=>by
    have z':FU _=B0 v:=z
    cases z'⟩
  ·exact⟨_,hTI,λv z=>by
    have z':F7 _ _=B0 v:=z
    cases z'⟩
  ·exact⟨_,hTO,λv z=>by
    have z':F7 _ _=B0 v:=z
    cases z'⟩
  ·exact⟨o1,e1,λv z=>by rw[d1]at z;cases z⟩
  ·exact⟨o2,e2,λv z=>by rw[d2]at z;cases z⟩
 keep:=λi h h' st k=>by
  obtain⟨hz,hTI,⟨u,v,hTO⟩,h1,h2⟩:=st
  exact⟨k z () _ hz,k TI () _ hTI,⟨u,v,k TO () _ hTO⟩,h1.at λo e=>k i1 () o e,h2.at λo e=>k i2 () o e⟩
 item:=by
  intro X hP hw hK hc i pins s σ H E I hf st hg
  subst hP hw hK
  obtain⟨xs,ys,x,y,hq1,hq2,hx,hy⟩:=hg
  obtain⟨its1,rv1,p1,_⟩:=I.tuple hq1
  obtain⟨its2,rv2,p2,_⟩:=I.list hq2
  obtain⟨u1,hu1,ru1⟩:=rv1.get hx
  obtain⟨u2,hu2,ru2⟩:=rv2.get hy
  obtain⟨hz,hTI,⟨u,v,hTO⟩,h1,h2⟩:=st
  obtain⟨d1,d2,d3,d4,d5,d6,d7,d8,d9,d10⟩:=D1
  have L1:s.heap.IsTuple a its1.toArray:=p1
  have L2:=p2.isList
  have D:A0 z TI TO i1 i2 a b:=by
   obtain⟨o1,e1,c1,_⟩:=id L1
   obtain⟨o2,e2,c2,_⟩:=id L2
   obtain⟨o3,e3,c3,_⟩:=id h1
   obtain⟨o4,e4,c4,_⟩:=id h2
   exact⟨d1,d2,d3,d4,d5,d6,d7,d8,d9,d10,aG e1 hz (by rw[c1];exactλz=>absurd (Μ z) ()),D2,aG e1 e3 (by rw[c1,c3];exactλz=>absurd (Μ z) ()),aG e1 e4 (by rw[c1,c4];exactλz=>absurd (Μ z) ()),
    aG e2 hz (by rw[c2];exactλz=>absurd (Μ z) ()),aG e2 hTO (by rw[c2];exactλz=>absurd (Μ z) ()),aG e2 e3 (by rw[c2,c3];exactλz=>absurd (Μ z) ()),aG e2 e4 (by rw[c2,c4];exactλz=>absurd (Μ z) ())⟩
  refine pX D hz hTI hTO h1 h2 L1 L2 (x:=u1) (y:=u2) (by simpa using hu1) (by simpa using hu2) λh3 a1 a2 a3 a4 a5 hk=>?_
  refine⟨_,rfl,C7 a1 λh4 hz4 hs4=>?_⟩
  have hzl:z<s.heap.objs.size:=Β hz
  have hn:H s.heap.objs.size=none:=I.hok.fresh (π _)
  have keep:∀c o,c≠z->c≠TO->c≠i1->c≠i2->s.heap.get? c=some o->h4.get? c=some o:=λc o c1 c2 c3 c4 q=>(hs4.2 c c1).trans (hk c o c1 c2 c3 c4 q)
  have tup:h4.get? s.heap.objs.size=some {cls:=.type "tuple",data:=.seq #[u1,u2]}:=(hs4.2 _ (ngt hzl)).trans a5
  have fpn:∀c∈[z,TI,TO,i1,i2],H c=none:=λc hc=>(hf c hc).1
  have nit:∀c v,H c=some v->c≠z/\c≠TO/\c≠i1/\c≠i2:=λc v q=>⟨(λe=>by rw[e,fpn z ()]at q;cases q),(λe=>by rw[e,fpn TO ()]at q;cases q),(λe=>by rw[e,fpn i1 ()]at q;cases q),(λe=>by rw[e,fpn i2 ()]at q;cases q)⟩
  have kch:∀c o,c∉[z,TO,i1,i2]->s.heap.get? c=some o->h4.get? c=some o:=λc o hc q=>keep c o (λe=>hc (by simp[e])) (λe=>hc (by simp[e])) (λe=>hc (by simp[e])) (λe=>hc (by simp[e])) q
  have I2:Inv X pins σ (upd H s.heap.objs.size (.tup [x,y])) {s with heap:=h4,toks:=s.toks}:=by
   refine I.step (g':=s.gens) (d':=s.drawn) (ch:=[z,TO,i1,i2]) (λc hc=>?_) (λc o _ _ hc' q _=>kch c o hc' q) (λc o _ _ hc' q _=>⟨o.slots,kch c o hc' q⟩) (λc o _ q n=>by rw[ao (nlt (Β q))];exact n) (λc o hc' q=>⟨o,kch c o hc' q⟩)
    (λc xs q=>by rw[ao (ah q hn)];exact q) (λc o v q=>by rw[ao (ah q hn)];exact q) (λc ps q=>⟨#[],by rw[ao (ah q hn),q];simp⟩) (λm hm=>?_) (λc v q=>?_) I.bare
   ·have hc':c∈[z,TI,TO,i1,i2]:=by
     simp only[ν,ϟ,or_false]at hc⊢
     rcases hc with e|e|e|e<;>simp[e]
    obtain⟨f0,f1,f2,f3,f4,f5⟩:=hf c hc'
    exact⟨f3,f1,f4,f5⟩
   ·obtain⟨o,es,ep,ho,r⟩:=hm
    exact⟨o,es,ep,keep _ o (ϋ (hf z ()).2.1) (ϋ (hf TO ()).2.1) (ϋ (hf i1 ()).2.1) (ϋ (hf i2 ()).2.1) ho,r⟩
   ·by_cases hb:c=s.heap.objs.size
    ·subst hb
     rw[aa]at q
     cases q
     exact⟨(show 2<=sizeLine by rw[θ];decide),[u1,u2],.cons ru1 (.cons ru2 .nil),⟨_,tup,rfl,0,rfl⟩,_,tup,rfl⟩
    ·rw[ao hb]at q
     refine(I.hok c v q).stay (λc' w' hc' q'=>?_) (λc' q'=>by rw[ao (ah q' hn)];exact q') λc' xs q'=>by rw[ao (ah q' hn)];exact q'
     rcases hc' with e|e
     ·subst e;obtain⟨n1,n2,n3,n4⟩:=nit c' v q;exact keep c' w' n1 n2 n3 n4 q'
     ·obtain⟨n1,n2,n3,n4⟩:=nit c' _ e;exact keep c' w' n1 n2 n3 n4 q'
  refine⟨.ref s.heap.objs.size,_,I2,rfl,⟨_,x,y,hn,rfl,rfl,λxs' h'=>by rw[I.tuple_inj h' hq1];exact hx,λys' h'=>by rw[I.list_inj h' hq2];exact hy⟩,?_,λc hc=>?_⟩
  ·exact⟨hz4,hs4.extBut _ _ d1 (hk TI _ d1 d5 d6 d7 hTI),⟨_,_,hs4.extBut _ _ d2 a2⟩,a3.at λo e=>hs4.extBut _ _ d3 e,a4.at λo e=>hs4.extBut _ _ d4 e⟩
  ·have hb':c<s.heap.objs.size:=by
    simp only[ν,ϟ,or_false]at hc
    obtain⟨o3,e3,_⟩:=h1
    obtain⟨o4,e4,_⟩:=h2
    rcases hc with e|e|e|e|e
    ·rw[e];exact hzl
    ·rw[e];exact Β hTI
    ·rw[e];exact Β hTO
    ·rw[e];exact Β e3
    ·rw[e];exact Β e4
   rw[ao (nlt hb')]
   exact fpn c hc
 done:=by
  intro X hP hw hK hc i pins s σ H E I hf st hg
  subst hP hw hK
  obtain⟨xs,ys,hq1,hq2,hend⟩:=hg
  obtain⟨its1,rv1,p1,_⟩:=I.tuple hq1
  obtain⟨its2,rv2,p2,_⟩:=I.list hq2
  obtain⟨hz,hTI,⟨u,v,hTO⟩,h1,h2⟩:=st
  obtain⟨d1,d2,d3,d4,d5,d6,d7,d8,d9,d10⟩:=D1
  have L1:s.heap.IsTuple a its1.toArray:=p1
  have L2:=p2.isList
  have D:A0 z TI TO i1 i2 a b:=by
   obtain⟨o1,e1,c1,_⟩:=id L1
   obtain⟨o2,e2,c2,_⟩:=id L2
   obtain⟨o3,e3,c3,_⟩:=id h1
   obtain⟨o4,e4,c4,_⟩:=id h2
   exact⟨d1,d2,d3,d4,d5,d6,d7,d8,d9,d10,aG e1 hz (by rw[c1];exactλz=>absurd (Μ z) ()),D2,aG e1 e3 (by rw[c1,c3];exactλz=>absurd (Μ z) ()),aG e1 e4 (by rw[c1,c4];exactλz=>absurd (Μ z) ()),
    aG e2 hz (by rw[c2];exactλz=>absurd (Μ z) ()),aG e2 hTO (by rw[c2];exactλz=>absurd (Μ z) ()),aG e2 e3 (by rw[c2,c3];exactλz=>absurd (Μ z) ()),aG e2 e4 (by rw[c2,c4];exactλz=>absurd (Μ z) ())⟩
  have l1:=rv1.length
  have l2:=rv2.length
  have fpn:∀c∈[z,TI,TO,i1,i2],H c=none:=λc hc=>(hf c hc).1
  refine tX (I.ok.hd hc) D hz hTI hTO h1 h2 L1 L2 (hend.imp (λh=>by simp;omega) λh=>by simp;omega) λh4 hk=>⟨rfl,?_⟩
  have nit:∀c v,H c=some v->c≠z/\c≠TO/\c≠i1/\c≠i2:=λc v q=>⟨(λe=>by rw[e,fpn z ()]at q;cases q),(λe=>by rw[e,fpn TO ()]at q;cases q),(λe=>by rw[e,fpn i1 ()]at q;cases q),(λe=>by rw[e,fpn i2 ()]at q;cases q)⟩
  have kch:∀c o,c∉[z,TO,i1,i2]->s.heap.get? c=some o->h4.get? c=some o:=λc o hc q=>hk c o (λe=>hc (by simp[e])) (λe=>hc (by simp[e])) (λe=>hc (by simp[e])) (λe=>hc (by simp[e])) q
  refine I.step (t':=s.toks) (g':=s.gens) (d':=s.drawn) (ch:=[z,TO,i1,i2]) (λc hc=>?_) (λc o _ _ hc' q _=>kch c o hc' q) (λc o _ _ hc' q _=>⟨o.slots,kch c o hc' q⟩) (λc o _ q n=>n) (λc o hc' q=>⟨o,kch c o hc' q⟩)
   (λc xs q=>q) (λc o v q=>q) (λc ps q=>⟨#[],by rw[q];simp⟩) (λm hm=>?_) (λc v q=>?_) I.bare
  ·have hc':c∈[z,TI,TO,i1,i2]:=by
    simp only[ν,ϟ,or_false]at hc⊢
    rcases hc with e|e|e|e<;>simp[e]
   obtain⟨f0,f1,f2,f3,f4,f5⟩:=hf c hc'
   exact⟨f3,f1,f4,f5⟩
  ·obtain⟨o,es,ep,ho,r⟩:=hm
   exact⟨o,es,ep,hk _ o (ϋ (hf z ()).2.1) (ϋ (hf TO ()).2.1) (ϋ (hf i1 ()).2.1) (ϋ (hf i2 ()).2.1) ho,r⟩
  ·refine(I.hok c v q).stay (λc' w' hc' q'=>?_) (λc' q'=>q') λc' xs q'=>q'
   rcases hc' with e|e
   ·subst e;obtain⟨n1,n2,n3,n4⟩:=nit c' v q;exact hk c' w' n1 n2 n3 n4 q'
   ·obtain⟨n1,n2,n3,n4⟩:=nit c' _ e;exact hk c' w' n1 n2 n3 n4 q'
 self:=λA i s Q E st h=>F8 st.1 h
section
variable{X:Cx}
def BX(K:ε)(ta:TA):TI:=λσ H R=>ta σ H λvs H1=>∃a b,vs=[.ref a,.ref b]/\(∃xs,SqT K H1 a xs)/\(∃ys,SqL K H1 b ys)/\R (vi K a b) H1
theorem yB{a b:Expr}{ta:TA}{p pos:Pos}{elts:List Expr}{x1}{tp:Pos}(hg:Gl X "zip")(hm:X.mg "zip"=none)(ha:PA X [a,b] ta)(hs:starEach [a,b] X.env=(false,eval a X.env)::starEach [b] X.env:=by rfl)(hpl:(backTo pos (starEach [b] X.env)).any (·.1)=false:=by rfl):
  PI X (.Tuple elts x1 tp) (.Call (.Name "zip" p) [a,b] [] pos) (BX X.K ta):=by
 intro pins s σ H R I h
 refine Call_ (fc I hg hm (u:=.type "zip") () (b_ (thn (ha pos pins s σ H _ I h) λus s1 ⟨vs,H1,I1,r1,q1⟩=>?_) hs hpl))
 obtain⟨l,m,e,⟨xs,hq1⟩,⟨ys,hq2⟩,q⟩:=q1
 subst e
 obtain⟨u,w',rfl,ru,rw'⟩:=mQ r1
 cases ru
 cases rw'
 obtain⟨its1,rv1,p1,_⟩:=I1.tuple hq1
 obtain⟨its2,rv2,p2,_⟩:=I1.list hq2
 refine sP p1 p2.isList λh' hz hTI hTO hi1 hi2 kp=>?_
 have I2:Inv X pins σ H1 {s1 with heap:=h'}:=I1.kept (t':=s1.toks) kp
 have add:∀(n i j:Nat),i≠j->n+i≠n+j:=λn i j h z=>h (Fl z)
 have T:gY X.prog X.w X.K (.Tuple elts x1 tp) (vi X.K l m) [s1.heap.objs.size+4,s1.heap.objs.size+2,s1.heap.objs.size+3,s1.heap.objs.size,s1.heap.objs.size+1] (s1.heap.objs.size+4) _:=
  sW l m (s1.heap.objs.size+4) (s1.heap.objs.size+2) (s1.heap.objs.size+3) s1.heap.objs.size (s1.heap.objs.size+1)
   ⟨add _ 2 4 (),add _ 3 4 (),add _ 0 4 (),add _ 1 4 (),add _ 2 3 (),add _ 2 0 (),add _ 2 1 (),add _ 3 0 (),add _ 3 1 (),add _ 0 1 ()⟩ (Ϣ (F9 3 (sj p1)))
 refine T.self X.A 0 {s1 with heap:=h'} _ _ ⟨hz,hTI,⟨_,_,hTO⟩,hi1,hi2⟩ ?_
 refine⟨s1.heap.objs.size+4,_,_,_,H1,rfl,I2,T,⟨hz,hTI,⟨_,_,hTO⟩,hi1,hi2⟩,λb hb=>?_,q⟩
 have hb':s1.heap.objs.size<=b:=by
  simp only[ν,ϟ,or_false]at hb
  rcases hb with e|e|e|e|e
  ·rw[e];exact Ϩ _ _
  ·rw[e];exact Ϩ _ _
  ·rw[e];exact Ϩ _ _
  ·rw[e];exact π _
  ·rw[e];exact Ϩ _ _
 obtain⟨f0,f1⟩:=I1.fpOk hb' (I1.hok.fresh hb')
 exact⟨f0,f1⟩
theorem ya{k:Nat}{ix:List Nat}{g:TG}{tt:TT}{te:TE}{σ:St}{H1:Hp}{Q:List V->Hp->Prop}{K:ε}{a b:Addr}{xs ys:List V}(Pv:Nat->List V->Hp->Prop)(h0:Pv 0 [] H1)(hl:∀i zs H,Pv i zs H->SqT K H a xs/\SqL K H b ys)
  (hs:∀i zs H x y p,xs[i]?=some x->ys[i]?=some y->Pv i zs H->H p=none->cO k ix g tt te σ (.ref p) zs (upd H p (.tup [x,y])) (Pv (i+1))) (hd:∀zs H,Pv (min xs.length ys.length) zs H->Q zs H):rLC (vi K a b) k ix g tt te σ H1 Q:=by
 refine jN (n:=min xs.length ys.length) Pv h0 (λi zs H h p=>?_) (λzs H p=>?_) (λi zs H x H' h p y=>?_) hd
 ·obtain⟨q1,q2⟩:=hl i zs H p
  exact⟨xs,ys,xs[i]'(),ys[i]'(),q1,q2,(),()⟩
 ·obtain⟨q1,q2⟩:=hl _ zs H p
  exact⟨xs,ys,q1,q2,()⟩
 ·obtain⟨q1,q2⟩:=hl i zs H p
  obtain⟨c,x',y',hb,e1,e2,hx,hy⟩:=y
  subst e1 e2
  exact hs i zs H x' y' c (hx xs q1) (hy ys q2) p hb
theorem wN(K:ε)(h:X.K=K):cK X (.type "tuple") (λxs H Q=>∃p ys,xs=[.ref p]/\((SqL K H p ys/\∀l,H l=none->Q (.ref l) (upd H l (.tup ys)))\/(SqT K H p ys/\Q (.ref p) H))):=by subst h;exact ay
theorem Ck{o e:Expr}{es:List Expr}{to:TE}{t:TA}{name:Str}{apos cpos:Pos}{T id:String}{r:V->List V->Hp->VK->Prop}(K:ε)(h:X.K=K)(pa:PlainAttrs T)(slot:Slot T name id)(hty:typeOf (.builtin id)=pure (.type "method_descriptor"))(hm:MtR X id r)(ho:PE X o to)(ha:PA X (e::es) t)
  (hbase:attributeBase o name X.env (eval o X.env)=eval o X.env:=by rfl)
  (hfew:((backTo cpos (starEach (e::es) X.env)).all (λx=>!x.1)&&(backToKw cpos (keywordEach [] X.env)).all (λx=>x.1.isSome)
   && decide ((e::es).length+([]:List Keyword).length+(if ([]:List Keyword).isEmpty then 0 else 1)<30))=true:=by rfl)
  (hline:(apos.endLine==cpos.line)=true:=by rfl) (hs:starEach (e::es) X.env=(false,eval e X.env)::starEach es X.env:=by rfl) (hplain:(backTo cpos (starEach es X.env)).any (·.1)=false:=by rfl):
  PE X (.Call (.Attribute o name apos) (e::es) [] cpos) (tBM K T r to t):=by
 subst h
 exact pe_bm pa slot hty hm ho ha hbase hfew hline hs hplain
theorem jy(x y:Str)(t u:Tok):Meets (v_.«str.count» ⟨[.str x t,.str y u],[]⟩) (λ_ R s=>(Made.int (Txt.count x y)).post (λv s'=>R (.ok (.ret v)) s') s):=
 λprog w A R s h=>gives_str_count x y t u prog w A R s h
theorem iR:MtR X "str.count" (λx xs H Q=>∃a b:Str,x=.str a/\xs=[.str b]/\Q (.int (Txt.count a b)) H):=by
 intro pins s σ H x xs v us Q I rx r h
 obtain⟨a,b,rfl,rfl,q⟩:=h
 obtain⟨t,rfl⟩:=rx
 obtain⟨u,rfl,t1,rfl⟩:=dA r
 refine B6 F.slot_str_count (ER _ _ _) F.entry_str_count (F.args_str_count_2 _ _) (jy a b t t1) ?_
 rw[Made.post]
 exact⟨.int _,H,I.tok _,⟨_,rfl⟩,q⟩
theorem eo:MtR X "str.partition" (λx xs H Q=>∃a b:Str,x=.str a/\xs=[.str b]/\(b.length==0)=false/\a.length<=sizeLine/\∀p,H p=none->Q (.ref p) (upd H p (.tup [.str (Txt.partition a b).1,.str (Txt.partition a b).2.1,.str (Txt.partition a b).2.2]))):=by
 intro pins s σ H x xs v us Q I rx r h
 obtain⟨a,b,rfl,rfl,hb,ha,q⟩:=h
 obtain⟨t,rfl⟩:=rx
 obtain⟨u,rfl,t1,rfl⟩:=dA r
 have fin:∀(t1 t2 t3:Tok)(tk:Nat),EP X pins σ Q (.ref s.heap.objs.size) {s with heap:=s.heap.push {cls:=.type "tuple",data:=.seq #[.str (Txt.partition a b).1 t1,.str (Txt.partition a b).2.1 t2,.str (Txt.partition a b).2.2 t3]},toks:=tk}:=λt1 t2 t3 tk=>by
  refine⟨.ref _,_,I.laid (t':=tk) (o:=.tup [.str (Txt.partition a b).1,.str (Txt.partition a b).2.1,.str (Txt.partition a b).2.2]) (λb ob q=>ρ _ q) (π _) ?_,rfl,q _ (I.hok.fresh (π _))⟩
  exact⟨by rw[θ];show 3<=16777216;decide,_,.cons ⟨t1,rfl⟩ (.cons ⟨t2,rfl⟩ (.cons ⟨t3,rfl⟩ .nil)),Gp _ _,NoD.new _ rfl⟩
 refine B6 F.slot_str_partition (ER _ _ _) F.entry_str_partition (F.args_str_partition_2 _ _) (meets_str_partition a b t t1 hb ha) ?_
 unfold Txt.partition at fin
 cases h:m9 a b 0 a.length 1 with
 |nil=>rw[h]at fin;exact fin t s.toks s.toks _
 |cons i l=>rw[h]at fin;exact fin _ t1 _ _
theorem nb:MtR X "str.startswith" (λx xs H Q=>∃a b:Str,x=.str a/\xs=[.str b]/\Q (.bl (Txt.startswith a b)) H):=by
 intro pins s σ H x xs v us Q I rx r h
 obtain⟨a,b,rfl,rfl,q⟩:=h
 obtain⟨t,rfl⟩:=rx
 obtain⟨u,rfl,t1,rfl⟩:=dA r
 exact SC.startswith ⟨.bl _,H,I,rfl,q⟩
end
end L2
namespace XB
open PySem L2 KB
inductive So|n|x|l|k|w|f|y|e|a|r
deriving DecidableEq
def srt:So->Str
 |.n=>"number"
 |.x=>"name"
 |.l=>"length"
 |.k=>"kind"
 |.w=>"reckon"
 |.f=>"def"
 |.y=>"name"
 |.e=>"part"
 |.a=>"args"
 |.r=>"things"
abbrev Wd:=Str×Str×List So
def WT:List Wd:=[("number","n",[.n]),("name","x",[.x]),("length","l",[.l]),("none","k",[.k]),("place","ll",[.l,.l]),("reckon","wee",[.w,.e,.e]),
 ("if","eee",[.e,.e,.e]),("let","xee",[.x,.e,.e]),("call","fa",[.f,.a]),("pair","ee",[.e,.e]),("first","e",[.e]),("second","e",[.e]),
 ("row","r",[.r]),("join","ee",[.e,.e]),("take","le",[.l,.e]),("drop","le",[.l,.e]),("zip","ee",[.e,.e]),("turn","e",[.e]),
 ("get","ee",[.e,.e]),("value","e",[.e]),("up","le",[.l,.e]),("wide","le",[.l,.e]),("mirror","e",[.e]),("fork","lexee",[.l,.e,.x,.e,.e]),
 ("when","elxee",[.e,.l,.x,.e,.e]),("loop","xle",[.x,.l,.e]),("fold","xlyee",[.x,.l,.y,.e,.e])]
def ST:List Wd:=[("number","n",[.n]),("name","x",[.x]),("length","l",[.l]),("reckon","wee",[.w,.e,.e]),("if","eee",[.e,.e,.e]),("let","xee",[.x,.e,.e]),
 ("call","fa",[.f,.a]),("pair","ee",[.e,.e]),("first","e",[.e]),("second","e",[.e]),("row","r",[.r]),("none","k",[.k]),
 ("join","ee",[.e,.e]),("take","le",[.l,.e]),("drop","le",[.l,.e]),("zip","ee",[.e,.e]),("turn","e",[.e]),("get","ee",[.e,.e]),
 ("place","ll",[.l,.l]),("value","e",[.e]),("up","le",[.l,.e]),("wide","le",[.l,.e]),("mirror","e",[.e]),("fork","lexee",[.l,.e,.x,.e,.e]),
 ("when","elxee",[.e,.l,.x,.e,.e]),("loop","xle",[.x,.l,.e]),("fold","xlyee",[.x,.l,.y,.e,.e])]
theorem AO:∀p∈WT,p∈ST:=by decide +kernel
theorem Bd:(ST.map (·.1)).Nodup:=by decide +kernel
theorem AR:(WT.map (·.1)).Nodup:=by decide +kernel
theorem CB:∀p∈ST,p.2.2.length<=5:=by decide +kernel
theorem cW:∀p∈WT,p.2.2.length<=5:=by decide +kernel
def jc(ss:List So):Nat:=(ss.map λ| .e=>1|.a=>4|.r=>4|_=>0).sum
theorem AD:∀p∈WT,jc p.2.2<=4:=by decide +kernel
theorem vj:∀s:So,V.str (srt s)=V.str "part"↔s=.e:=by
 intro s
 cases s<;>simp only[V.str.injEq,srt]<;>decide +kernel
theorem rh:∀s:So,V.str (srt s)=V.str "args"↔s=.a:=by
 intro s
 cases s<;>simp only[V.str.injEq,srt]<;>decide +kernel
theorem rC:∀s:So,V.str (srt s)=V.str "things"↔s=.r:=by
 intro s
 cases s<;>simp only[V.str.injEq,srt]<;>decide +kernel
theorem Bl:∀s:So,V.str (srt s)=V.str "number"↔s=.n:=by
 intro s
 cases s<;>simp only[V.str.injEq,srt]<;>decide +kernel
theorem mM:∀s:So,V.str (srt s)=V.str "length"↔s=.l:=by
 intro s
 cases s<;>simp only[V.str.injEq,srt]<;>decide +kernel
theorem mJ:∀s:So,V.str (srt s)=V.str "kind"↔s=.k:=by
 intro s
 cases s<;>simp only[V.str.injEq,srt]<;>decide +kernel
theorem AT:∀s:So,V.str (srt s)=V.str "reckon"↔s=.w:=by
 intro s
 cases s<;>simp only[V.str.injEq,srt]<;>decide +kernel
theorem Bk:∀s:So,V.str (srt s)=V.str "def"↔s=.f:=by
 intro s
 cases s<;>simp only[V.str.injEq,srt]<;>decide +kernel
theorem qG:∀s:So,V.str (srt s)=V.str "name"↔(s=.x\/s=.y):=by
 intro s
 cases s<;>simp only[V.str.injEq,srt]<;>decide +kernel
theorem wb{α:Type}{l:List α}{f:α->Str}(hn:(l.map f).Nodup){p:α}(hp:p∈l):l.find? (λq=>decide (f q=f p))=some p:=by
 induction l with
 |nil=>cases hp
 |cons q l ih=>
  rw[Χ,u9]at hn
  rw[j_]
  rcases ν.mp hp with rfl|hp
  ·simp
  ·rw[show decide (f q=f p)=false from Q8 λe=>hn.1 (by rw[e];exact p_ hp)]
   exact ih hn.2 hp
structure Shp(P:χ)(w:Ρ)(K:ε)(g:Addr):Prop where
 ex:∃kvs,FD P w K g kvs/\(∀p∈WT,∃b,look kvs p.1=some b/\∀H,SqT K H b (p.2.2.map λs=>V.str (srt s)))/\∀x,(look kvs x).isSome=WT.any λp=>decide (p.1=x)
def BI:E6->Str×Addr
 |⟨_,.str x _,.ref b⟩=>(x,b)
 |_=>("",0)
inductive Ents (w:Ρ):List E6->Prop
 |nil:Ents w []
 |cons {x:Str} {t:Tok} {b:Addr} {es:List E6}:Ents w es->Ents w (⟨PyData.keyHash w.params x,.str x t,.ref b⟩::es)
inductive AreS:List ζ->List Str->Prop
 |nil:AreS [] []
 |cons {x:Str} {t:Tok} {us:List ζ} {xs:List Str}:AreS us xs->AreS (.str x t::us) (x::xs)
theorem AreS.vals{us:List ζ}{xs:List Str}(h:AreS us xs):aF (xs.map V.str) us:=by
 induction h with
 |nil=>exact .nil
 | @cons x t us xs _ ih=>exact .cons ⟨t,rfl⟩ ih
inductive TupsK (K:ε):List (Str×Addr)->List Wd->Prop
 |nil:TupsK K [] []
 |cons {x z:Str} {b:Addr} {kvs:List (Str×Addr)} {ss:List So} {ps:List Wd} {od:Option Addr} {its:List ζ} {n:Nat} {sl:Array (Option ζ)} :
  K.lookup b=some ⟨.type "tuple",od,.seq its.toArray n,sl⟩->AreS its (ss.map srt)->TupsK K kvs ps->TupsK K ((x,b)::kvs) ((x,z,ss)::ps)
theorem TupsK.keys{K:ε}{kvs:List (Str×Addr)}{ps:List Wd}(h:TupsK K kvs ps):kvs.map (·.1)=ps.map (·.1):=by
 induction h with
 |nil=>rfl
 |cons _ _ _ ih=>rw[Χ,Χ,ih]
theorem TupsK.look{K:ε}{kvs:List (Str×Addr)}{ps:List Wd}(h:TupsK K kvs ps)(hf:∀p∈ps,p.2.2.length<=5):(ps.map (·.1)).Nodup->∀p∈ps,∃b,L2.look kvs p.1=some b/\∀H,SqT K H b (p.2.2.map λs=>V.str (srt s)):=by
 induction h with
 |nil=>intro _ p hp;cases hp
 | @cons x z b kvs ss ps od its n sl hl ha _ ih=>
  intro hn p hp
  rw[Χ,u9]at hn
  unfold L2.look
  rw[j_]
  rcases ν.mp hp with rfl|hp'
  ·rw[Q9 rfl]
   refine⟨b,rfl,λH=>.inr ⟨_,_,_,hl,rfl,rfl,?_,?_⟩⟩
   ·have h5:ss.length<=5:=hf _ ο
    have:=ha.vals.length
    rw[δ,δ]at this
    rw[Δ,θ]
    omega
   ·have:=ha.vals
    rw[Ψ]at this
    exact this
  ·rw[Q8 (λe:x=p.1=>hn.1 (by rw[show(x,z,ss).1=p.1 from e];exact p_ (f:=(·.1)) hp'))]
   exact ih (λq hq=>hf q (Ε _ hq)) hn.2 p hp'
theorem Ents.pairs{P:χ}{w:Ρ}{es:List E6}(h:Ents w es):Pairs (aS P w) es ((es.map BI).map λp=>((Ϧ p.1:Key),ώ p.2)):=by
 induction h with
 |nil=>exact .nil
 | @cons x t b es _ ih=>exact .cons (fC P w x t) rfl ih
theorem Ents.keys{P:χ}{w:Ρ}{es:List E6}(h:Ents w es):∀e∈es,∃k,(aS P w).is k e.key=true/\e.hash=(aS P w).hash k:=by
 induction h with
 |nil=>intro e he;cases he
 | @cons x t b es _ ih=>
  intro e he
  rcases ν.mp he with rfl|he
  ·exact⟨Ϧ x,fC P w x t,rfl⟩
  ·exact ih e he
theorem wH(kvs:List (Str×Addr))(x:Str):(L2.look kvs x).isSome=(kvs.map (·.1)).any λy=>decide (y=x):=by
 unfold L2.look
 rw[EW]
 induction kvs with
 |nil=>rfl
 |cons p kvs ih=>
  rw[j_,Χ,C_]
  by_cases h:p.1=x
  ·rw[Q9 h];rfl
  ·rw[Q8 h,F4];exact ih
theorem CV:∀p∈ST,p∈WT:=by decide +kernel
theorem Bm(x:Str):(ST.map (·.1)).any (λy=>decide (y=x))=WT.any λp=>decide (p.1=x):=by
 rw[o9,f_,f_]
 constructor
 ·rintro⟨y,hy,h⟩
  obtain⟨p,hp,rfl⟩:=Ω.mp hy
  exact⟨p,CV p hp,h⟩
 ·rintro⟨p,hp,h⟩
  exact⟨p.1,p_ (AO p hp),h⟩
theorem shp_mk{P:χ}{w:Ρ}{K:ε}{g:Addr}{es:List E6}{ep:Nat}(hl:K.lookup g=some ⟨.type "dict",none,.dict es.toArray ep,#[]⟩)(lo:(g==sysModules)=false)(he:Ents w es)(ht:TupsK K (es.map BI) ST):Shp P w K g:=by
 refine⟨es.map BI,⟨by rw[ht.keys];exact Bd,lo,_,_,_,hl,⟨rfl,rfl,rfl⟩,rfl,λe hm=>he.keys e (by simpa using hm),by simpa using he.pairs⟩,λp hp=>ht.look CB Bd p (AO p hp),λx=>by rw[wH,ht.keys,Bm]⟩
inductive F2 (R:So->Dv->Prop):List So->List Dv->Prop
 |nil:F2 R [] []
 |cons {s:So} {d:Dv} {ss:List So} {ds:List Dv}:R s d->F2 R ss ds->F2 R (s::ss) (d::ds)
theorem F2.length{R:So->Dv->Prop}{ss:List So}{ds:List Dv}(h:F2 R ss ds):ds.length=ss.length:=by
 induction h with
 |nil=>rfl
 |cons _ _ ih=>rw[Γ,Γ,ih]
theorem F2.get{R:So->Dv->Prop}{ss:List So}{ds:List Dv}(h:F2 R ss ds){i:Nat}{s:So}(hs:ss[i]?=some s):∃d,ds[i]?=some d/\R s d:=by
 induction h generalizing i with
 |nil=>cases hs
 |cons h _ ih=>
  cases i with
  |zero=>cases hs;exact⟨_,rfl,h⟩
  |succ i=>exact ih hs
def Fld(E:Dv->Prop)(L:So->Dv->Prop):So->Dv->Prop
 |.e,d=>E d
 |.a,d=>∃es,d=.tup es/\es.length<=4/\∀e∈es,E e
 |.r,d=>∃es,d=.tup es/\1<=es.length/\es.length<=4/\∀e∈es,E e
 |s,d=>L s d
def xy:Dv->List Dv
 |.tup ds=>ds
 |_=>[]
def ptD:So->Dv->List Dv
 |.e,d=>[d]
 |.a,d=>xy d
 |.r,d=>xy d
 |_,_=>[]
def bn:List So->List Dv->List Dv
 |s::ss,d::ds=>ptD s d++bn ss ds
 |_,_=>[]
def zD(w:Str):List So:=match WT.find? (λq=>decide (q.1=w))with
 |some p=>p.2.2
 |none=>[]
theorem Ay{p:Wd}(hp:p∈WT):zD p.1=p.2.2:=by unfold zD;rw[wb AR hp]
def dh:Dv->List Dv
 |.tup (.str w::ds)=>bn (zD w) ds
 |_=>[]
theorem parts_of{p:Wd}(hp:p∈WT)(ds:List Dv):dh (.tup (.str p.1::ds))=bn p.2.2 ds:=by
 show bn (zD p.1) ds=_
 rw[Ay hp]
theorem Ao{E:Dv->Prop}{L:So->Dv->Prop}{ss:List So}{ds:List Dv}(h:F2 (Fld E L) ss ds):(∀e∈bn ss ds,E e)/\(bn ss ds).length<=jc ss:=by
 induction h with
 |nil=>exact⟨λe he=>by simp[bn]at he,by simp[bn]⟩
 | @cons s d ss ds h _ ih=>
  obtain⟨i1,i2⟩:=ih
  have em:jc (s::ss)=jc [s]+jc ss:=by simp[jc]
  rw[em]
  have key:(∀e∈ptD s d,E e)/\(ptD s d).length<=jc [s]:=by
   cases s with
   |e=>exact⟨λe he=>by rw[ξ.mp he];exact h,π _⟩
   |a=>obtain⟨es,rfl,h1,h2⟩:=h;exact⟨h2,h1⟩
   |r=>obtain⟨es,rfl,h0,h1,h2⟩:=h;exact⟨h2,h1⟩
   |_=>exact⟨λe he=>by simp[ptD]at he,by simp[ptD,jc]⟩
  show(∀e∈ptD s d++bn ss ds,E e)/\(ptD s d++bn ss ds).length<=_
  refine⟨λe he=>?_,by rw[Η];omega⟩
  rcases Τ.mp he with he|he
  ·exact key.1 e he
  ·exact i1 e he
theorem mE(ss:List So)(ds:List Dv)(i:Nat){s:So}{d:Dv}(hs:ss[i]?=some s)(hd:ds[i]?=some d):bn (ss.take (i+1)) (ds.take (i+1))=bn (ss.take i) (ds.take i)++ptD s d:=by
 induction i generalizing ss ds with
 |zero=>
  cases ss with
  |nil=>cases hs
  |cons s' ss=>
   cases ds with
   |nil=>cases hd
   |cons d' ds=>cases hs;cases hd;simp[bn]
 |succ i ih=>
  cases ss with
  |nil=>cases hs
  |cons s' ss=>
   cases ds with
   |nil=>cases hd
   |cons d' ds=>
    simp only[List.take_succ_cons,bn]
    rw[ih ss ds hs hd,c_]
theorem bW(xs:List V)(n:Nat):bU xs (some (n:Int)) none=xs.drop n:=by
 unfold bU
 have e1:HT.sIx xs.length 0 (some (n:Int))=min n xs.length:=HT.sIx_nat _ _ _
 have e2:HT.sIx xs.length xs.length none=xs.length:=rfl
 rw[e1,e2]
 rcases Nat.le_total n xs.length with h|h
 ·rw[Fh h,A6 (by rw[Ϸ];exact π _)]
 ·rw[Nat.min_eq_right h,Ge,List.take_zero,List.drop_of_length_le h]
theorem Cb{t1 t2:TT}{σ:St}{H:Hp}{Q:Bool->Hp->Prop}(q:Q true H)(f:Q true H->tOr t1 t2 σ H Q):tOr t1 t2 σ H Q:=f q
theorem gc{K:ε}{g:Addr}{us:List V}{lo hi:Option Int}{H:Hp}{Q:VK}(hg:H g=some (.tup us))(k:∀H' p,ak H H'->H' p=some (.tup (bU us lo hi))->Q (.ref p) H'):Db K (.ref g) lo hi H Q:=
 ⟨g,us,rfl,SqT.of hg,λe=>k H g (ak.refl _) (by rw[e];exact hg),λp hp=>k _ p (ac hp _) aa⟩
def Cc(d:Dv):Prop:=∃(p:Wd) (ds:List Dv),p∈WT/\d=.tup (.str p.1::ds)/\F2 (Fld (λ_=>True) (λ_ _=>True)) p.2.2 ds
theorem xb{H:Hp}{ds:List Dv}{vs:List V}(h:Reps H ds vs){i:Nat}{d:Dv}(hd:ds[i]?=some d):∃v,vs[i]?=some v/\Rep H d v:=by
 have l:=h.length
 have hi:i<vs.length:=by rw[l];exact(ψ.mp hd).1
 obtain⟨e,he,r⟩:=h.get (Α hi)
 rw[hd]at he
 cases he
 exact⟨_,Α hi,r⟩
theorem bF{H:Hp}{d:Dv}{ds:List Dv}{vs:List V}(h:Reps H (d::ds) vs):∃v ws,vs=v::ws/\Rep H d v/\Reps H ds ws:=by simpa only[Reps]using h
theorem uH{t1 t2:TS}{D:bZ}{σ:St}{H:Hp}(M:St->Hp->Prop)(h2:∀σ' H',M σ' H'->t2 D σ' H')(f:∀N:St->Hp->Prop,(∀σ' H',M σ' H'->N σ' H')->t1 {D with nx:=N} σ H):lJ t1 t2 D σ H:=f (t2 D) h2
theorem aX{t1 t2:TS}{D:bZ}{σ:St}{H:Hp}(f:∀N:St->Hp->Prop,(∀σ' H',t2 D σ' H'->N σ' H')->t1 {D with nx:=N} σ H):lJ t1 t2 D σ H:=f (t2 D) λ_ _ h=>h
def wE{f:Nat->V}{n:Nat}{g:TG}{tb:TS}{D:bZ}{σ:St}{H:Hp}(Pv:Nat->St->Hp->Prop)(h0:Pv 0 σ H)
  (hs:∀i σ H (D':bZ),(∀σ' H',Pv (i+1) σ' H'->D'.nx σ' H')->i<n->Pv i σ H->g (f i) σ H λσ2 H2=>tb D' σ2 H2) (hd:∀σ H,Pv n σ H->D.nx σ H):=zF (f:=f) (n:=n) (g:=g) (tb:=tb) (D:=D) (σ:=σ) (H:=H) Pv h0 (λi σ H hi p=>hs i σ H _ (λ_ _ h=>h) hi p) hd
def jg{lo:Int}{n:Nat}{g:TG}{tb:TS}{D:bZ}{σ:St}{H:Hp}(Pv:Nat->St->Hp->Prop)(h0:Pv 0 σ H)
  (hs:∀i σ H (D':bZ),(∀σ' H',Pv (i+1) σ' H'->D'.nx σ' H')->i<n->Pv i σ H->g (.int (lo+i)) σ H λσ2 H2=>tb D' σ2 H2) (hd:∀σ H,Pv n σ H->D.nx σ H):=nu (lo:=lo) (n:=n) (g:=g) (tb:=tb) (D:=D) (σ:=σ) (H:=H) Pv h0 (λi σ H hi p=>hs i σ H _ (λ_ _ h=>h) hi p) hd
def js{K:ε}{a b:Addr}{xs ys:List V}{g:TG}{tb:TS}{D:bZ}{σ:St}{H:Hp}(Pv:Nat->St->Hp->Prop)(h0:Pv 0 σ H)(hl:∀i σ H,Pv i σ H->SqT K H a xs/\SqT K H b ys)
  (hs:∀i x y σ H p (D':bZ),(∀v H,D.rt v H->D'.rt v H)->(∀σ' H',Pv (i+1) σ' H'->D'.nx σ' H')->xs[i]?=some x->ys[i]?=some y->Pv i σ H->H p=none->g (.ref p) σ (upd H p (.tup [x,y])) λσ2 H2=>tb D' σ2 H2) (hd:∀σ H,Pv (min xs.length ys.length) σ H->D.nx σ H):=
 wu (K:=K) (a:=a) (b:=b) (xs:=xs) (ys:=ys) (g:=g) (tb:=tb) (D:=D) (σ:=σ) (H:=H) Pv h0 hl (λi x y σ H p hx hy q hp=>hs i x y σ H p _ (λ_ _ h=>h) (λ_ _ h=>h) hx hy q hp) hd
def tT{K:ε}{a:Addr}{xs:List V}{g:TG}{tb:TS}{D:bZ}{σ:St}{H:Hp}(Pv:Nat->St->Hp->Prop)(h0:Pv 0 σ H)(hl:∀i σ H,i<=xs.length->Pv i σ H->SqL K H a xs)
  (hs:∀i x σ H (D':bZ),(∀σ' H',Pv (i+1) σ' H'->D'.nx σ' H')->xs[i]?=some x->Pv i σ H->g x σ H λσ2 H2=>tb D' σ2 H2) (hd:∀σ H,Pv xs.length σ H->D.nx σ H):=
 pO (K:=K) (a:=a) (xs:=xs) (g:=g) (tb:=tb) (D:=D) (σ:=σ) (H:=H) Pv h0 hl (λi x σ H hx q=>hs i x σ H _ (λ_ _ h=>h) hx q) hd
theorem qX{c:TT}{tb:TS}{D:bZ}{σ:St}{H:Hp}(Pv:Nat->St->Hp->Prop)(m:Nat)(h0:Pv m σ H)
  (hs:∀m σ H (D':bZ),(∀v H,D.rt v H->D'.rt v H)->(∀m' σ' H',m'<m->Pv m' σ' H'->D'.nx σ' H')->Pv m σ H->c σ H λb H1=>if b=true then tb D' σ H1 else D.nx σ H1)
  (mono:∀σ H Q Q',(∀b H1,Q b H1->Q' b H1)->c σ H Q->c σ H Q'):su c tb D σ H:=
 AF Pv m h0 (λm σ H p=>hs m σ H _ (λ_ _ h=>h) (λm' _ _ l q=>⟨m',l,q⟩) p) mono
end XB
namespace L2.EX
open PySem PySem.Spec PyProof.Rows PySem.W
section
variable{P:χ}{w:Ρ}{A:ό}{R:Gu->ι->Prop}{E:ζ->ι->Prop}{h:Heap}{g:Array C9}{d:GA}{t:Nat}{os:Gr}
variable{nm q:Str}{C N:Addr}{bs bm:List ζ}{hdct:Bool}{sn:List Str}{sub:List ζ}{ab:Bool}{col:Option Bool}{dd:Option Addr}{k0 k1 k2 k3 k5:Option ζ}{B newId inN:String}{bmN:List ζ}
end
section
variable{P:χ}{w:Ρ}{A:ό}{E:ζ->ι->Prop}{h:Heap}{g:Array C9}{d:GA}{t:Nat}{os:Gr}
variable{nm q:Str}{C N fI:Addr}{bs bm:List ζ}{hdct:Bool}{sn:List Str}{sub:List ζ}{ab:Bool}{col:Option Bool}{dd:Option Addr}{k0 k1 k2 k3 k5:Option ζ}{B newId inN:String}{bmN:List ζ}
end
open PySem PySem.Spec PyProof.Rows PySem.W
section
variable{P:χ}{w:Ρ}{A:ό}{E:ζ->ι->Prop}{h:Heap}{g:Array C9}{d:GA}{t:Nat}{os:Gr}
variable{nm q:Str}{C N fI:Addr}{bs bm:List ζ}{hdct:Bool}{sn:List Str}{sub:List ζ}{ab:Bool}{col:Option Bool}{dd:Option Addr}{k0 k1 k2 k3 k5:Option ζ}{B newId nid initId:String}{bmB:List ζ}
end
open PySem PySem.Spec PyProof.Rows PySem.W
section
variable{P:χ}{w:Ρ}{A:ό}{E:ζ->ι->Prop}{h:Heap}{g:Array C9}{d:GA}{t:Nat}{os:Gr}
variable{nm q:Str}{C D N x:Addr}{bs bmB:List ζ}{sn:List Str}{sub:List ζ}{ab:Bool}{col:Option Bool}{dd:Option Addr}{k0 k1 k2 k3 k5:Option ζ}{B newId sa owner:String}{name:Str}{v:ζ}{tk:Tok}
end
open PySem PySem.Spec PyProof.Rows PySem.W
section
variable{P:χ}{w:Ρ}{A:ό}{E:ζ->ι->Prop}{h:Heap}{g:Array C9}{d:GA}{t:Nat}{os:Gr}
variable{nm q:Str}{C D N x:Addr}{bs bmB:List ζ}{sn:List Str}{sub:List ζ}{ab:Bool}{col:Option Bool}{dd:Option Addr}{k0 k1 k2 k3 k5:Option ζ}{B newId sa owner:String}{name:Str}{v:ζ}
end
open PySem PySem.Spec PyProof.Rows PySem.W
section
variable{P:χ}{w:Ρ}{A:ό}{E:ζ->ι->Prop}{h:Heap}{g:Array C9}{d:GA}{t:Nat}{os:Gr}
variable{nm q:Str}{C D N x dx a0:Addr}{bs bmB:List ζ}{sn:List Str}{sub:List ζ}{ab:Bool}{col:Option Bool}{dd:Option Addr}{k0 k1 k2 k3 k5:Option ζ}{B newId:String}{name:Str}{v:ζ}{tk:Tok}{mA:Str->Option ζ}{sl:Array (Option ζ)}{ws:Array ζ}
end
open PySem PySem.Spec PyProof.Rows PySem.W
section
variable{M:Model}{A:ό}{E:ζ->ι->Prop}{s:ι}{base:Heap}{env:Env}{outer:List Env}{L e T:Addr}{cls:ζ}{dx:Option Addr}
end
open PySem PySem.Spec PyProof.Rows PySem.W
section
variable{P:χ}{w:Ρ}{A:ό}{E:ζ->ι->Prop}{h:Heap}{g:Array C9}{d:GA}{t:Nat}{os:Gr}
variable{nm q:Str}{C D N e:Addr}{bs bmB:List ζ}{sn:List Str}{sub:List ζ}{ab:Bool}{col:Option Bool}{dd:Option Addr}{k0 k1 k2 k3 k5:Option ζ}{B newId:String}{oe:Obj}
variable{tk:Tok}
end
open PySem PySem.Spec PyProof.Rows PySem.W
section
variable{X:Cx}{pins:List (Addr×Obj)}{σ:St}{H:Hp}{s:ι}{C D fI t dx a:Addr}
variable{k:Nat}{fd:Θ}{ps:List Str}{sp:Sp}{Q:VK}{us:List ζ}{vs:List V}
end
open PySem PySem.Spec PyProof.Rows PySem.W
section
variable{P:χ}{w:Ρ}{K:Frag}{mg:Str->Option ζ}{base:Heap}{N:List Str}{qual:Str}{scope:EU}{f:Addr}{cd:ζ}{A:ό}{outer:List Env}{s0:ι}{H0:Hp}{E:XK}
end
section
variable{X:Cx}{D fI C:Addr}{x:Str}{np cpos pos:Pos}{e:Expr}{es:List Expr}{t:TA}{E:XK}{k:Nat}{fd:Θ}{ps:List Str}
end
open PySem PySem.Spec PyProof.Rows PySem.W
section
variable{X:Cx}{D fI C:Addr}{x:Str}{np apos cpos pos pos':Pos}{e o value:Expr}{es:List Expr}{t:TA}{ta tv:TE}{pl:Sem Bool}
end
open PySem PySem.Spec PyProof.Rows PySem.W
section
variable{X:Cx}{pins:List (Addr×Obj)}{σ:St}{H:Hp}{s:ι}{h':Heap}{e:Addr}
end
section
variable{X:Cx}{D fI f:Addr}{x xD n:Str}{np cpos epos tp hpos pos:Pos}{e:Expr}{es:List Expr}{t:TA}{k i:Nat}{fd:Θ}{ps:List Str}{sp:Sp}{b₀:Stmt}{suite:List Stmt}{ts:Addr->TS}
end
open PySem PySem.Spec PyProof.Rows PySem.W
section
variable{X:Cx}{D fI:Addr}
variable{o:Expr}{to:TE}{pos:Pos}
end
section
variable{prog:χ}{w:Ρ}{A:ό}{E:ζ->ι->Prop}{s:ι}{e:Addr}
end
open PySem PySem.Spec PyProof.Rows PySem.W
section
variable{P:χ}{w:Ρ}{K:Frag}{mg:Str->Option ζ}{base:Heap}
variable{N:List Str}{qual:Str}{scope:EU}{f0:Addr}{cd:ζ}{A:ό}{outer:List Env}{s0:ι}{H0:Hp}{E:XK}{k:Nat}{x:Str}{ps:List Str}{sp:Sp}{p pos:Pos}{e:Expr}{es:List Expr}{t:TA}
end
end L2.EX
namespace L2
open PySem PySem.Spec PyProof.Rows PySem.W
section
variable{X:Cx}
end
end L2
namespace WR
open PySem L2 L2.EX
structure Bx(p:Prop):Prop where
 h:p
theorem aA{p:Prop}(h:p):autoParam p Lean.Syntax.missing:=h
def okV(N:List Str)(sc:EU)(i:Nat)(x:Str):Bool:=decide (N[i]?=some x)&&((sc.names.lookup x==some .local||sc.names.lookup x==some .cell||sc.names.lookup x==some .free)&&(x==("__debug__" : Str)||x==("__classdict__" : Str))==false)
theorem wv{X:Cx}(i:Nat){x:Str}{pos:Pos}(h:okV X.N X.env.scope i x=true):Bx (PE X (.Name x pos) (lG i)):=by
 simp only[okV,Ζ,Gk,decide_eq_true_eq,beq_iff_eq]at h
 obtain⟨a,b,c⟩:=h
 have c1:=Bool.or_eq_false_iff.mp c
 exact⟨pv i a (by rcases b with (b|b)|b;exact .inl b;exact .inr (.inl b);exact .inr (.inr b)) c1.1 c1.2⟩
def wab:=λ{v0 v1 v2} (v3:Bx _)=>Bx.mk (@L2.PW.pt v0 v1 v2 v3.h)
def wac:=λ{v0 v1 v2 v3 v4 v5 v6 v7} (v8:Bx _) (v9:Bx _) (v10:Bx _)=>Bx.mk (@L2.pe_ifExp v0 v1 v2 v3 v4 v5 v6 v7 v8.h v9.h v10.h)
def wad:=λ{v0 v1}=>Bx.mk (@L2.ps_dead v0 v1)
def wae:=λ{v0 v1 v2 v3 v4} (v5:Bx _) (v6:Bx _) v7=>Bx.mk (@L2.pa_cons v0 v1 v2 v3 v4 v5.h v6.h (aA v7))
def waf:=λ{v0}=>Bx.mk (@L2.pa_nil v0)
def wag:=λ{v0 v1 v2 v3 v4 v5 v6} (v7:Bx _) (v8:Bx _)=>Bx.mk (@L2.pe_and v0 v1 v2 v3 v4 v5 v6 v7.h v8.h)
def wah:=λ{v0 v1 v2 v3}=>Bx.mk (@L2.pe_bl v0 v1 v2 v3)
def wai:=λ{v0 v1 v3 v4} v2 v5 v6 v7 v8 v9 v10=>Bx.mk (@L2.pe_bltn v0 v1 v2 v3 v4 v5 v6 v7 v8 (aA v9) (aA v10))
def waj:=λ{v0 v1 v2 v3 v4 v5 v6 v7 v8 v9 v10 v11} v12 v13 v14 v15 (v16:Bx _) (v17:Bx _) v18 v19 v20 v21 v22=>Bx.mk (@L2.pe_bm v0 v1 v2 v3 v4 v5 v6 v7 v8 v9 v10 v11 v12 v13 v14 v15 v16.h v17.h (aA v18) (aA v19) (aA v20) (aA v21) (aA v22))
def wak:=λ{v0 v1 v2 v3 v4 v5 v6 v7 v8} v9 v10 v11 v12 (v13:Bx _) v14 v15=>Bx.mk (@L2.pe_bm0 v0 v1 v2 v3 v4 v5 v6 v7 v8 v9 v10 v11 v12 v13.h (aA v14) (aA v15))
def wal:=λ{v0 v1 v2 v3 v4 v5 v6 v7 v8} v9 v10 v11 v12 (v13:Bx _) v14 v15 v16 v17=>Bx.mk (@L2.pe_callB v0 v1 v2 v3 v4 v5 v6 v7 v8 v9 v10 v11 v12 v13.h (aA v14) (aA v15) (aA v16) (aA v17))
def wam:=λ{v0 v1 v2 v3 v4 v5 v6 v7 v8} v9 v10 v11 v12 (v13:Bx _) v14 v15 v16 v17=>Bx.mk (@L2.pe_callTy v0 v1 v2 v3 v4 v5 v6 v7 v8 v9 v10 v11 v12 v13.h (aA v14) (aA v15) (aA v16) (aA v17))
def wan:=λ{v0 v1 v2 v3 v4 v5 v6 v7 v8 v9 v10 v11} v12 v13 v14 v15 v16 (v17:Bx _) v18 v19 v20 v21 v22 v23=>Bx.mk (@L2.pe_callV v0 v1 v2 v3 v4 v5 v6 v7 v8 v9 v10 v11 v12 v13 v14 v15 v16 v17.h (aA v18) (aA v19) (aA v20) (aA v21) (aA v22) (aA v23))
def wao:=λ{v0 v1 v2 v3 v4 v5 v6 v7 v8 v9 v10 v11} v12 v13 (v14:Bx _) (v15:Bx _) (v16:Bx _) v17=>Bx.mk (@L2.pe_chain v0 v1 v2 v3 v4 v5 v6 v7 v8 v9 v10 v11 v12 v13 v14.h v15.h v16.h (aA v17))
def wap:=λ{v0 v1 v2 v3 v4 v5 v6 v7} v8 (v9:Bx _) (v10:Bx _) v11=>Bx.mk (@L2.pe_cmpR v0 v1 v2 v3 v4 v5 v6 v7 v8 v9.h v10.h v11)
def waq:=λ{v0 v1 v2 v3 v4 v5 v6 v7 v8 v9} v10 v11 v12 (v13:Bx _) v14 v15 v16=>Bx.mk (@L2.pe_def v0 v1 v2 v3 v4 v5 v6 v7 v8 v9 v10 v11 v12 v13.h (aA v14) (aA v15) (aA v16))
def war:=λ{v0 v1 v2 v3 v4 v5 v6} v7 v8 v9 v10=>Bx.mk (@L2.pe_def0 v0 v1 v2 v3 v4 v5 v6 v7 v8 v9 (aA v10))
def was:=λ{v0 v1 v2 v3 v4 v5} (v6:Bx _)=>Bx.mk (@L2.pe_fstr v0 v1 v2 v3 v4 v5 v6.h)
def wat:=λ{v0 v1 v2 v3} (v4:Bx _)=>Bx.mk (@L2.pe_fv v0 v1 v2 v3 v4.h)
def wau:=λ{v0 v1 v2 v3 v4} (v5:Bx _) (v6:Bx _)=>Bx.mk (@L2.pf_cons v0 v1 v2 v3 v4 v5.h v6.h)
def wav:=λ{v0}=>Bx.mk (@L2.pf_nil v0)
def waA:=λ{v0 v1}=>Bx.mk (@L2.pe_dnewK v0 v1)
def waB:=λ{v0 v1 v3 v4} v2 v5 v6 v7 v8=>Bx.mk (@L2.pe_glob v0 v1 v2 v3 v4 v5 v6 v7 (aA v8))
def waC:=λ{v0 v1 v2 v3}=>Bx.mk (@L2.pe_int v0 v1 v2 v3)
def waD:=λ{v0 v1 v2 v3 v4 v5 v6} v7 (v8:Bx _) (v9:Bx _) v10=>Bx.mk (@L2.pe_ix v0 v1 v2 v3 v4 v5 v6 v7 v8.h v9.h v10)
def waE:=λ{v0 v1 v4 v5 v6 v7 v8 v9 v10 v11 v12} v2 v3 (v13:Bx _) v14 v15 (v16:∀x0 x1 x2,Bx _) v17 (v18:∀x0 x1 x2,Bx _) (v19:∀x0 x1 x2,Bx _) v20=>Bx.mk (@L2.pe_lc v0 v1 v2 v3 v4 v5 v6 v7 v8 v9 v10 v11 v12 v13.h v14 v15 (λx0 x1 x2=>(v16 x0 x1 x2).h) v17 (λx0 x1 x2=>(v18 x0 x1 x2).h) (λx0 x1 x2=>(v19 x0 x1 x2).h) (aA v20))
def waG:=λ{v0 v1 v2 v3 v4} (v5:Bx _) v6=>Bx.mk (@L2.pe_fld v0 v1 v2 v3 v4 v5.h v6)
def waH:=λ{v0 v1 v2 v3 v4 v5 v6 v7} (v8:Bx _) (v9:Bx _) v10=>Bx.mk (@L2.ps_fld v0 v1 v2 v3 v4 v5 v6 v7 v8.h v9.h v10)
def waI:=λ{v0 v1 v2 v3 v4 v5 v6 v7 v8 v9} (v10:Bx _) (v11:Bx _) v12=>Bx.mk (@L2.ps_fldaug v0 v1 v2 v3 v4 v5 v6 v7 v8 v9 v10.h v11.h v12)
def waJ:=λ{v0 v1 v2 v3 v4 v5 v6 v7 v8 v9 v10 v11 v12 v13 v14 v15 v16 v17 v18 v19} (v20:Bx _) v21 v22 v23 v24 v25 v26 v27 (v28:Bx _) v29 v30 v31=>Bx.mk (@L2.pe_meth v0 v1 v2 v3 v4 v5 v6 v7 v8 v9 v10 v11 v12 v13 v14 v15 v16 v17 v18 v19 v20.h v21 v22 v23 v24 v25 v26 v27 v28.h (aA v29) (aA v30) (aA v31))
def waK:=λ{v0 v1 v2 v3 v4 v5 v6 v7 v8 v9 v10 v11 v12 v13 v14 v15 v16} v17 v18 v19 v20 v21 v22 v23 v24 (v25:Bx _) v26 v27 v28=>Bx.mk (@L2.pe_make v0 v1 v2 v3 v4 v5 v6 v7 v8 v9 v10 v11 v12 v13 v14 v15 v16 v17 v18 v19 v20 v21 v22 v23 v24 v25.h (aA v26) (aA v27) (aA v28))
def waL:=λ{v0 v1 v2 v3 v4 v5 v6 v7 v8 v9 v10 v11 v12 v13 v14 v15 v16} (v17:Bx _) v18 v19 v20 v21 v22 v23 v24 v25=>Bx.mk (@L2.pe_meth0 v0 v1 v2 v3 v4 v5 v6 v7 v8 v9 v10 v11 v12 v13 v14 v15 v16 v17.h v18 v19 v20 v21 v22 v23 v24 (aA v25))
def waM:=λ{v0 v1 v2 v3} (v4:Bx _)=>Bx.mk (@L2.pe_lst v0 v1 v2 v3 v4.h)
def waN:=λ{v0 v1 v2}=>Bx.mk (@L2.pe_non v0 v1 v2)
def waO:=λ{v0 v1 v2 v3} (v4:Bx _)=>Bx.mk (@L2.pe_not v0 v1 v2 v3 v4.h)
def waP:=λ{v0 v1 v2 v3 v4} (v5:Bx _)=>Bx.mk (@L2.pe_one v0 v1 v2 v3 v4 v5.h)
def waQ:=λ{v0 v1 v2 v3 v4 v5 v6 v7} v8 (v9:Bx _) (v10:Bx _)=>Bx.mk (@L2.pe_op v0 v1 v2 v3 v4 v5 v6 v7 v8 v9.h v10.h)
def waR:=λ{v0 v1 v2 v3 v4 v5 v6} (v7:Bx _) (v8:Bx _)=>Bx.mk (@L2.pe_or v0 v1 v2 v3 v4 v5 v6 v7.h v8.h)
def waT:=λ{v0 v1 v2 v3 v4 v5 v6 v7 v8 v9} v10 (v11:Bx _) (v12:Bx _) (v13:Bx _)=>Bx.mk (@L2.pe_slice v0 v1 v2 v3 v4 v5 v6 v7 v8 v9 v10 v11.h v12.h v13.h)
def waV:=λ{v0 v1 v2 v3}=>Bx.mk (@L2.pe_str v0 v1 v2 v3)
def waX:=λ{v0 v1 v2 v3 v4} (v5:Bx _)=>Bx.mk (@L2.pe_tup v0 v1 v2 v3 v4 v5.h)
def waY:=λ{v0 v1 v2 v3 v4 v5} v6 (v7:Bx _)=>Bx.mk (@L2.pe_un v0 v1 v2 v3 v4 v5 v6 v7.h)
def waZ:=λ{v0 v1 v3} v2 v4 v5 v6 v7=>Bx.mk (@L2.pg_name v0 v1 v2 v3 v4 v5 v6 (aA v7))
def wba:=λ{v0 v1 v2 v3 v4 v5 v6} (v7:Bx _) (v8:Bx _) v9 v10=>Bx.mk (@L2.pg_sub v0 v1 v2 v3 v4 v5 v6 v7.h v8.h v9 (aA v10))
def wbb:=λ{v0 v1 v2 v3 v4 v5} v6 (v7:Bx _) v8 v9=>Bx.mk (@L2.pg_tup v0 v1 v2 v3 v4 v5 v6 v7.h (aA v8) (aA v9))
def wbd:=λ{v0 v1 v2 v3 v4} (v5:Bx _) (v6:Bx _) v7=>Bx.mk (@L2.pgs_cons v0 v1 v2 v3 v4 v5.h v6.h (aA v7))
def wbe:=λ{v0}=>Bx.mk (@L2.pgs_nil v0)
def wbg:=λ{v0 v1 v2 v3 v4 v5 v6 v7} v8 v9 (v10:Bx _) v11=>Bx.mk (@L2.pi_enum v0 v1 v2 v3 v4 v5 v6 v7 v8 v9 v10.h (aA v11))
def wbi:=λ{v0 v1 v2 v3} (v4:Bx _)=>Bx.mk (@L2.pi_list v0 v1 v2 v3 v4.h)
def wbk:=λ{v0 v1 v2 v3 v4 v5} v6 v7 (v8:Bx _) v9=>Bx.mk (@L2.pi_range1 v0 v1 v2 v3 v4 v5 v6 v7 v8.h (aA v9))
def wbn:=λ{v0 v1 v2 v3} (v4:Bx _)=>Bx.mk (@L2.pi_str v0 v1 v2 v3 v4.h)
def wbo:=λ{v0 v1 v2 v3} (v4:Bx _)=>Bx.mk (@L2.pi_tup v0 v1 v2 v3 v4.h)
def wbq:=λ{v0 v1 v2 v3 v4 v5 v6 v7 v8} v9 v10 (v11:Bx _) v12 v13=>Bx.mk (@L2.pi_zip v0 v1 v2 v3 v4 v5 v6 v7 v8 v9 v10 v11.h (aA v12) (aA v13))
def wbs:=λ{v0 v1 v2 v3 v4 v5 v6 v7 v8} v9 v10 (v11:Bx _) v12 v13=>Bx.mk (@L2.pi_zipTT v0 v1 v2 v3 v4 v5 v6 v7 v8 v9 v10 v11.h (aA v12) (aA v13))
def wbu:=λ{v0 v1 v2 v3 v4 v5 v6 v7} v8 (v9:Bx _) (v10:Bx _) v11=>Bx.mk (@L2.pe_getF v0 v1 v2 v3 v4 v5 v6 v7 v8 v9.h v10.h v11)
def wbx:=λ{v0}=>Bx.mk (@L2.pif_nil v0)
def wbz:=λ{v0}=>Bx.mk (@L2.po_none v0)
def wbA:=λ{v0 v1 v2} (v3:Bx _)=>Bx.mk (@L2.po_some v0 v1 v2 v3.h)
def wbD:=λ{v0 v1 v2 v3 v4 v5} (v6:Bx _) (v7:Bx _) v8 v9 v10=>Bx.mk (@L2.ps_asg v0 v1 v2 v3 v4 v5 v6.h v7.h (aA v8) (aA v9) (aA v10))
def wbE:=λ{v0 v1 v3 v4 v5 v6 v7 v8} v2 v9 v10 v11 (v12:Bx _) v13 v14=>Bx.mk (@L2.ps_aug v0 v1 v2 v3 v4 v5 v6 v7 v8 v9 v10 v11 v12.h v13 (aA v14))
def wbF:=λ{v0 v1 v2 v3 v4 v5 v6 v7 v8} v9 (v10:Bx _) (v11:Bx _) (v12:Bx _) v13=>Bx.mk (@L2.ps_dput v0 v1 v2 v3 v4 v5 v6 v7 v8 v9 v10.h v11.h v12.h v13)
def wbG:=λ{v0 v1 v2 v3} (v4:Bx _) v5=>Bx.mk (@L2.ps_expr v0 v1 v2 v3 v4.h (aA v5))
def wbH:=λ{v0 v1 v2 v3 v4 v5 v6 v7} v8 v9 (v10:Bx _) (v11:Bx _) (v12:Bx _) v13=>Bx.mk (@L2.ps_for v0 v1 v2 v3 v4 v5 v6 v7 v8 v9 v10.h v11.h v12.h (aA v13))
def wbI:=λ{v0 v1 v2 v3 v4 v5 v6 v7} (v8:Bx _) (v9:Bx _) (v10:Bx _)=>Bx.mk (@L2.ps_if v0 v1 v2 v3 v4 v5 v6 v7 v8.h v9.h v10.h)
def wbJ:=λ{v0 v1 v4 v5 v6 v7 v8 v9 v10 v11 v12 v13 v14 v16} v2 v3 v15 v17 v18 v19 (v20:Bx _) v21 v22 (v23:∀x0 x1 x2,Bx _) v24 (v25:∀x0 x1 x2,Bx _) (v26:∀x0 x1 x2,Bx _) v27 v28=>Bx.mk (@L2.ps_lc v0 v1 v2 v3 v4 v5 v6 v7 v8 v9 v10 v11 v12 v13 v14 v15 v16 v17 v18 v19 v20.h v21 v22 (λx0 x1 x2=>(v23 x0 x1 x2).h) v24 (λx0 x1 x2=>(v25 x0 x1 x2).h) (λx0 x1 x2=>(v26 x0 x1 x2).h) (aA v27) (aA v28))
def wbK:=λ{v0 v1 v2 v3} (v4:Bx _)=>Bx.mk (@L2.ps_ret v0 v1 v2 v3 v4.h)
def wbM:=λ{v0 v1 v3 v4 v5 v6} v2 v7 v8 v9 (v10:Bx _) v11 v12=>Bx.mk (@L2.ps_set v0 v1 v2 v3 v4 v5 v6 v7 v8 v9 v10.h (aA v11) (aA v12))
def wbN:=λ{v0 v1 v2 v3 v4 v5} v6 (v7:Bx _) (v8:Bx _)=>Bx.mk (@L2.ps_while v0 v1 v2 v3 v4 v5 v6 v7.h v8.h)
def wbO:=λ{v0 v1 v2 v3 v4} (v5:Bx _) (v6:Bx _)=>Bx.mk (@L2.pss_cons v0 v1 v2 v3 v4 v5.h v6.h)
def wbP:=λ{v0}=>Bx.mk (@L2.pss_nil v0)
def wbQ:=λ{v0 v1 v2} (v3:Bx _)=>Bx.mk (@L2.pss_one v0 v1 v2 v3.h)
def wbR:=λ{v0 v1 v2 v3 v4 v5 v6 v7 v8 v9 v10 v11} v12 v13 (v14:Bx _) (v15:Bx _) (v16:Bx _) v17=>Bx.mk (@L2.pt_chain v0 v1 v2 v3 v4 v5 v6 v7 v8 v9 v10 v11 v12 v13 v14.h v15.h v16.h (aA v17))
def wbS:=λ{v0 v1 v2 v3 v4 v5 v6 v7} v8 (v9:Bx _) (v10:Bx _) v11=>Bx.mk (@L2.pt_cmpR v0 v1 v2 v3 v4 v5 v6 v7 v8 v9.h v10.h v11)
def wbT:=λ{v0 v1 v2 v3} (v4:Bx _)=>Bx.mk (@L2.pt_not v0 v1 v2 v3 v4.h)
def wbU:=λ{v0 v1 v2} (v3:Bx _) v4=>Bx.mk (@L2.pt_truth v0 v1 v2 v3.h v4)
def wbV:=λ{v0 v1 v2} (v3:Bx _) v4=>Bx.mk (@L2.pt_val v0 v1 v2 v3.h (aA v4))
def wbW:=λ{v0 v1 v2 v3 v4 v5 v6} (v7:Bx _) (v8:Bx _)=>Bx.mk (@L2.pw_and v0 v1 v2 v3 v4 v5 v6 v7.h v8.h)
def wbX:=λ{v0 v1 v2 v3} (v4:Bx _)=>Bx.mk (@L2.pw_and1 v0 v1 v2 v3 v4.h)
def wbY:=λ{v0 v1 v2 v3 v4 v5 v6} (v7:Bx _) (v8:Bx _)=>Bx.mk (@L2.pw_or v0 v1 v2 v3 v4 v5 v6 v7.h v8.h)
def wbZ:=λ{v0 v1 v2 v3} (v4:Bx _)=>Bx.mk (@L2.pw_or1 v0 v1 v2 v3 v4.h)
theorem un{X:Cx}{b:List Stmt}{t:TS}(h:Bx (PSs X b t)):PSs X b t:=h.h
end WR
namespace K63
open PySem L2 KB XB WR
def top (i : Nat) : Stmt := PySem.Challenge.pw_indexwise_k63_programs_written.main.body.getD i (.Pass ⟨0, 0, 0, 0⟩)
def qM:List Str:=["plus","minus","times","less","same"]
structure Txt(K:ε)(mg:Str->Option ζ):Prop where
 len:mg "len"=none
 isinstance:mg "isinstance"=none
 int:mg "int"=none
 bool:mg "bool"=none
 str:mg "str"=none
 tuple:mg "tuple"=none
 all:mg "all"=none
 zip:mg "zip"=none
 range:mg "range"=none
 sorted:mg "sorted"=none
 max:mg "max"=none
 min:mg "min"=none
 list:mg "list"=none
 enumerate:mg "enumerate"=none
 lLONGEST_NAME:∃t,mg "LONGEST_NAME"=some (.int 8 t)
 lGREATEST_SIZE:∃t,mg "GREATEST_SIZE"=some (.int 12 t)
 lGREATEST_NUMBER:∃t,mg "GREATEST_NUMBER"=some (.int 99 t)
 lWHOLE_BOUND:∃t,mg "WHOLE_BOUND"=some (.int 1000000000000 t)
 lMOST_NODES:∃t,mg "MOST_NODES"=some (.int 40 t)
 lMOST_ABOVE:∃t,mg "MOST_ABOVE"=some (.int 7 t)
 lMOST_THINGS:∃t,mg "MOST_THINGS"=some (.int 4 t)
 lMOST_FIGURES:∃t,mg "MOST_FIGURES"=some (.int 60 t)
 lMOST_ROWS:∃t,mg "MOST_ROWS"=some (.int 12 t)
 lMOST_BRACKETS:∃t,mg "MOST_BRACKETS"=some (.int 20 t)
theorem Txt.g_MOST_ROWS{X:Cx}{pos:Pos}(T:Txt X.K X.mg)(hg:Gl X "MOST_ROWS"):PE X (.Name "MOST_ROWS" pos) (tC (.int 12)):=by
 obtain⟨t,e⟩:=T.lMOST_ROWS
 exact pe_glob hg e ⟨t,rfl⟩
theorem Txt.g_LONGEST_NAME{X:Cx}{pos:Pos}(T:Txt X.K X.mg)(hg:Gl X "LONGEST_NAME"):PE X (.Name "LONGEST_NAME" pos) (tC (.int 8)):=by
 obtain⟨t,e⟩:=T.lLONGEST_NAME
 exact pe_glob hg e ⟨t,rfl⟩
theorem Txt.g_GREATEST_SIZE{X:Cx}{pos:Pos}(T:Txt X.K X.mg)(hg:Gl X "GREATEST_SIZE"):PE X (.Name "GREATEST_SIZE" pos) (tC (.int 12)):=by
 obtain⟨t,e⟩:=T.lGREATEST_SIZE
 exact pe_glob hg e ⟨t,rfl⟩
theorem Txt.g_GREATEST_NUMBER{X:Cx}{pos:Pos}(T:Txt X.K X.mg)(hg:Gl X "GREATEST_NUMBER"):PE X (.Name "GREATEST_NUMBER" pos) (tC (.int 99)):=by
 obtain⟨t,e⟩:=T.lGREATEST_NUMBER
 exact pe_glob hg e ⟨t,rfl⟩
theorem Txt.g_WHOLE_BOUND{X:Cx}{pos:Pos}(T:Txt X.K X.mg)(hg:Gl X "WHOLE_BOUND"):PE X (.Name "WHOLE_BOUND" pos) (tC (.int 1000000000000)):=by
 obtain⟨t,e⟩:=T.lWHOLE_BOUND
 exact pe_glob hg e ⟨t,rfl⟩
theorem Txt.g_MOST_NODES{X:Cx}{pos:Pos}(T:Txt X.K X.mg)(hg:Gl X "MOST_NODES"):PE X (.Name "MOST_NODES" pos) (tC (.int 40)):=by
 obtain⟨t,e⟩:=T.lMOST_NODES
 exact pe_glob hg e ⟨t,rfl⟩
theorem Txt.g_MOST_ABOVE{X:Cx}{pos:Pos}(T:Txt X.K X.mg)(hg:Gl X "MOST_ABOVE"):PE X (.Name "MOST_ABOVE" pos) (tC (.int 7)):=by
 obtain⟨t,e⟩:=T.lMOST_ABOVE
 exact pe_glob hg e ⟨t,rfl⟩
theorem Txt.g_MOST_THINGS{X:Cx}{pos:Pos}(T:Txt X.K X.mg)(hg:Gl X "MOST_THINGS"):PE X (.Name "MOST_THINGS" pos) (tC (.int 4)):=by
 obtain⟨t,e⟩:=T.lMOST_THINGS
 exact pe_glob hg e ⟨t,rfl⟩
theorem Txt.g_MOST_FIGURES{X:Cx}{pos:Pos}(T:Txt X.K X.mg)(hg:Gl X "MOST_FIGURES"):PE X (.Name "MOST_FIGURES" pos) (tC (.int 60)):=by
 obtain⟨t,e⟩:=T.lMOST_FIGURES
 exact pe_glob hg e ⟨t,rfl⟩
theorem Txt.g_MOST_BRACKETS{X:Cx}{pos:Pos}(T:Txt X.K X.mg)(hg:Gl X "MOST_BRACKETS"):PE X (.Name "MOST_BRACKETS" pos) (tC (.int 20)):=by
 obtain⟨t,e⟩:=T.lMOST_BRACKETS
 exact pe_glob hg e ⟨t,rfl⟩
abbrev gy:Stmt:=top 5
abbrev iG:Stmt:=top 6
abbrev iU:Stmt:=top 7
abbrev fg:Stmt:=top 8
abbrev fH:Stmt:=top 9
def cb:Dv->Bool
 |.int _=>true
 |_=>false
def bG:Dv->Bool
 |.str x=>nmB x
 |_=>false
def geD(k:Int):Dv->Bool
 |.int i=>decide (k<=i)
 |_=>false
def gr:Dv->Bool
 |.tup [a,b]=>bG a&&(cb b&&geD 1 b)
 |_=>false
def headD:Dv->Str
 |.tup (.str x::_)=>x
 |_=>""
def goD(last:Str):List Dv->Bool
 |[]=>true
 |p::r=>gr p&&(decide (last.cps.toList<(headD p).cps.toList)&&goD (headD p) r)
def jY:Dv->Bool
 |.tup xs=>goD "" xs
 |_=>false
def pR:Dv->Bool
 |.tup [a,b]=>cb a&&(geD 0 a&&jY b)
 |_=>false
def spD(f:Dv->Bool):Sp:=λvs H Q _=>∃v d,vs=[v]/\Rep H d v/\∀H',ak H H'->Q (.bl (f d)) H'
variable{P:χ}{w:Ρ}{K:ε}{mg:Str->Option ζ}{base:Heap}
theorem qx:am ["thing"] ["thing"] (af gy):=by trivial
theorem qZ{f:Addr}{fd:Θ}(F:Fun K "is_whole" "is_whole" gy f fd)(T:Txt K mg):av P w K mg base CX0 1 f fd ["thing"] (spD cb):=by
 refine F.ok qx (λvs H Q E h=>?_) (λcdv A outer s H vs Q E hr h=>?_)
 ·obtain⟨v,d,rfl,_⟩:=h
  rfl
 obtain⟨v,d,rfl,R,q⟩:=h
 refine⟨_,(@un _ _ _ (wbQ (wbK (wag (wal aY rfl T.isinstance () (wae (wv 0 rfl) (wae (wai (.ty "int") rfl T.int () rfl () ()) waf rfl) rfl) () () rfl rfl) (waP (waO (wal aY rfl T.isinstance () (wae (wv 0 rfl) (wae (wai (.ty "bool") rfl T.bool () rfl () ()) waf rfl) rfl) () () rfl rfl))))))),?_⟩
 refine⟨_,rfl,v,_,_,_,rfl,R.ty,Ac K d,_,rfl,?_⟩
 cases d with
 |int i=>exact ax ⟨_,rfl,v,_,_,_,rfl,R.ty,pY K _,_,rfl,q H (ak.refl H)⟩
 |bl b=>exact ax ⟨_,rfl,v,_,_,_,rfl,R.ty,pY K _,_,rfl,q H (ak.refl H)⟩
 |_=>exact aD (q H (ak.refl H))
def spS(f:Dv->Bool):Sp:=λvs H Q _=>∃v d,vs=[v]/\Rep H d v/\d.small=true/\∀H',ak H H'->Q (.bl (f d)) H'
theorem oS(a b:Nat):decide (([a]:List Nat)<[b])=decide (a<b):=by
 by_cases h:a<b
 ·rw[Q9 h]
  exact Q9 (List.cons_lt_cons_iff.mpr (.inl h))
 ·rw[Q8 h]
  exact Q8 λz=>by
   rcases List.cons_lt_cons_iff.mp z with z|⟨_,z⟩
   ·exact h z
   ·exact List.not_lt_nil _ z
theorem BU(x:Str):((Ϝ x.cps.size).map λi=>azB (x.cps.getD i 0)).all id=x.cps.toList.all azB:=by
 have e:(Ϝ x.cps.size).map (λi=>azB (x.cps.getD i 0))=x.cps.toList.map azB:=by
  apply F1
  intro i
  rw[Ν,Ν]
  by_cases hi:i<x.cps.size
  ·rw[List.getElem?_range hi]
   simp[hi]
  ·rw[k7 (by simpa using hi),k7 (by simpa using hi)]
   rfl
 rw[e,C4]
 rfl
theorem uh:am ["thing"] ["thing"] (af iG):=by trivial
theorem ug{f:Addr}{fd:Θ}(F:Fun K "is_name" "is_name" iG f fd)(T:Txt K mg):av P w K mg base CX0 1 f fd ["thing"] (spS bG):=by
 refine F.ok uh (λvs H Q E h=>?_) (λcdv A outer s H vs Q E hr h=>?_)
 ·obtain⟨v,d,rfl,_⟩:=h
  rfl
 obtain⟨v,d,rfl,R,hsm,q⟩:=h
 refine⟨_,(@un _ _ _ (wbO (wbI (wab (wbY (wbT (wbV (wal aY rfl T.isinstance () (wae (wv 0 rfl) (wae (wai (.ty "str") rfl T.str () rfl () ()) waf rfl) rfl) () () rfl rfl) ())) (wbZ (wbT (wbR ir ir waC (wal bK rfl T.len () (wae (wv 0 rfl) waf rfl) () () rfl rfl) ⟨T.g_LONGEST_NAME rfl⟩ (by with_unfolding_all rfl)))))) (wbQ (wbK wah)) wbP) (wbQ (wbK (wal (de rfl) rfl T.all () (wae (waE ["sign"] [] (wbn (wv 0 rfl)) (.of rfl) rfl (λ_ _ _=>⟨pg_name (i:=0) (bc (l:=["sign"]) (()) rfl) rfl (υ rfl)⟩) (aW ()) (λ_ _ _=>wbx) (λ_ _ _=>(wao dX dX waV (wv 0 rfl) waV (by with_unfolding_all rfl))) ()) waf rfl) () () rfl rfl))))),?_⟩
 refine⟨_,rfl,v,_,_,_,rfl,R.ty,ga K d,_,rfl,?_⟩
 cases d with
 |str x=>
  have hx:x.cps.size<=1000:=by simpa[Dv.small]using hsm
  obtain rfl:v=.str x:=R
  refine aD ⟨_,rfl,x,rfl,vD hx,_,_,rfl,rfl,_,rfl,?_⟩
  have no:nmB x=false->Q (.bl false) H:=λe=>by
   have:=q H (ak.refl H)
   rwa[show bG (.str x)=false from e]at this
  refine ap (λh1=>?_) (λh1=>?_)
  ·refine⟨_,_,rfl,rfl,_,rfl,?_⟩
   have h1':1<=x.cps.size:=by
    have:=Q7 h1
    have e:x.length=x.cps.size:=rfl
    omega
   by_cases h8:x.cps.size<=8
   ·rw[show decide (((x.length:Nat):Int)<=8)=true from Q9 (by have e:x.length=x.cps.size:=rfl;omega)]
    refine aD ?_
    refine⟨_,rfl,x,rfl,jU (F:=λi=>V.bl (azB (x.cps.getD i 0))) (λi ys hi hl=>?_) λa ha=>⟨a,(Ϝ x.cps.size).map λi=>azB (x.cps.getD i 0),rfl,SqL.of ?_,?_⟩⟩
    ·refine aV ⟨_,rfl,_,_,rfl,rfl,_,rfl,?_⟩
     have e1:decide ((⟨#[x.cps.getD i 0]⟩:Str).cps.toList<(γ "a").cps.toList)=decide (x.cps.getD i 0<97):=oS _ _
     have e2:decide ((γ "z").cps.toList<(⟨#[x.cps.getD i 0]⟩:Str).cps.toList)=decide (122<x.cps.getD i 0):=oS _ _
     rw[e1]
     by_cases c1:x.cps.getD i 0<97
     ·rw[Q9 c1]
      refine aD ⟨by rw[hl,θ];omega,?_,rfl⟩
      unfold azB
      rw[Q8 ()]
      rfl
     ·rw[Q8 c1]
      refine ax ⟨_,_,rfl,rfl,?_⟩
      refine⟨by rw[hl,θ];omega,?_,rfl⟩
      rw[e2]
      unfold azB
      rw[Q9 (show 97<=x.cps.getD i 0 by omega)]
      by_cases c2:122<x.cps.getD i 0
      ·rw[Q9 c2,Q8 ()];rfl
      ·rw[Q8 c2,Q9 ()];rfl
    ·rw[aa,Ψ]
     rfl
    ·rw[BU]
     have:=q _ (ac ha (.lst ((Ϝ x.cps.size).map λi=>V.bl (azB (x.cps.getD i 0)))))
     rwa[show bG (.str x)=x.cps.toList.all azB by
      show nmB x=_
      unfold nmB
      rw[Q9 h1',Q9 h8]
      rfl]at this
   ·rw[show decide (((x.length:Nat):Int)<=8)=false from Q8 (by have e:x.length=x.cps.size:=rfl;omega)]
    refine ax (no ?_)
    unfold nmB
    rw[Q8 h8,FA,ϴ]
  ·refine⟨_,rfl,ax (no ?_)⟩
   have h1':¬ 1<=x.cps.size:=by
    have:=of_decide_eq_false (x6.mpr h1)
    have e:x.length=x.cps.size:=rfl
    omega
   unfold nmB
   rw[Q8 h1',ϴ,ϴ]
 |_=>exact ax (ax (q H (ak.refl H)))
theorem ul(ds:List Dv):(∃a b,ds=[a,b])\/(∀a b,ds≠[a,b]):=by
 match ds with
 |[]=>exact .inr λa b e=>nomatch e
 |[_]=>exact .inr λa b e=>nomatch e
 |[a,b]=>exact .inl ⟨a,b,rfl⟩
 |_::_::_::_=>exact .inr λa b e=>nomatch e
theorem oR{ds:List Dv}(h:∀a b,ds≠[a,b]):ds.length≠2:=λe=>by
 match ds,e with
 |[a,b],_=>exact h a b rfl
theorem yR{ds:List Dv}(h:∀a b,ds≠[a,b]):gr (.tup ds)=false:=by
 match ds with
 |[]=>rfl
 |[_]=>rfl
 |[a,b]=>exact absurd rfl (h a b)
 |_::_::_::_=>rfl
theorem zr{ds:List Dv}(h:∀a b,ds≠[a,b]):pR (.tup ds)=false:=by
 match ds with
 |[]=>rfl
 |[_]=>rfl
 |[a,b]=>exact absurd rfl (h a b)
 |_::_::_::_=>rfl
theorem uD{k:Int}{d:Dv}(h:cb d=true):∃i,d=.int i/\geD k d=decide (k<=i):=by
 cases d with
 |int i=>exact⟨i,rfl,rfl⟩
 |_=>cases h
theorem pD{a b:Dv}(h:(Dv.tup [a,b]).small=true):a.small=true/\b.small=true:=by
 simp only[Dv.small,smalls,Ζ]at h
 exact⟨h.1.1,h.1.2.1⟩
theorem tu:am ["thing"] ["thing"] (af iU):=by trivial
theorem sq{f:Addr}{fd:Θ}{k:Nat}(F:Fun K "is_part" "is_part" iU f fd)(T:Txt K mg)(Dis_whole:Def P w K mg base k "is_whole" ["thing"] (spD cb))(Dis_name:Def P w K mg base k "is_name" ["thing"] (spS bG)):
  av P w K mg base CX0 (k+1) f fd ["thing"] (spS gr):=by
 refine F.ok tu (λvs H Q E h=>?_) (λcdv A outer s H vs Q E hr h=>?_)
 ·obtain⟨v,d,rfl,_⟩:=h
  rfl
 obtain⟨v,d,rfl,R,hsm,q⟩:=h
 refine⟨_,(@un _ _ _ (wbO (wbI (wab (wbY (wbT (wbV (wal aY rfl T.isinstance () (wae (wv 0 rfl) (wae (wai (.ty "tuple") rfl T.tuple () rfl () ()) waf rfl) rfl) () () rfl rfl) ())) (wbZ (wbS eT (wal ar rfl T.len () (wae (wv 0 rfl) waf rfl) () () rfl rfl) waC (ai _))))) (wbQ (wbK wah)) wbP) (wbQ (wbK (wag (waq Dis_name hr rfl (wae (waD aj (wv 0 rfl) waC (λ_ _=>rfl)) waf rfl) () rfl rfl) (wag (waq Dis_whole hr rfl (wae (waD aj (wv 0 rfl) waC (λ_ _=>rfl)) waf rfl) () rfl rfl) (waP (wap AS (waD aj (wv 0 rfl) waC (λ_ _=>rfl)) waC (ai _))))))))),?_⟩
 refine⟨_,rfl,v,_,_,_,rfl,R.ty,cr K d,_,rfl,?_⟩
 cases d with
 |tup ds=>
  obtain⟨a,vs,rfl,ha,rs⟩:=Rep.tup_inv R
  have hl:=rs.length
  refine aD ⟨_,rfl,a,vs,rfl,.inr (SqT.of ha),rfl,_,rfl,?_⟩
  rcases ul ds with ⟨d0,d1,rfl⟩|no
  ·obtain⟨x,y,rfl,R0,R1⟩:=Reps.two rs
   obtain⟨z0,z1⟩:=pD hsm
   refine Bb rfl ?_
   have qe:∀c H',ak H H'->gr (.tup [d0,d1])=c->Q (.bl c) H':=λc H' s1 e=>e▸q H' s1
   refine⟨_,rfl,a,_,0,x,rfl,rfl,SqT.of ha,ae (j:=0) rfl,x,d0,rfl,R0,z0,λH1 s1=>⟨_,rfl,?_⟩⟩
   cases c0:bG d0 with
   |false=>exact aD (qe _ H1 s1 (by show(bG d0&&_)=false;rw[c0];rfl))
   |true=>
    refine ax ⟨_,rfl,a,_,1,y,rfl,rfl,SqT.of (s1 _ _ ha),ae (j:=1) rfl,y,d1,rfl,R1.mono s1,λH2 s2=>⟨_,rfl,?_⟩⟩
    cases c1:cb d1 with
    |false=>exact aD (qe _ H2 (s1.trans s2) (by show(bG d0&&(cb d1&&_))=false;rw[c0,c1];rfl))
    |true=>
     obtain⟨i,rfl,e⟩:=uD (k:=1) c1
     obtain rfl:y=.int i:=R1
     refine ax ⟨_,rfl,a,_,1,.int i,rfl,rfl,SqT.of (s2 _ _ (s1 _ _ ha)),ae (j:=1) rfl,_,_,rfl,rfl,?_⟩
     refine qe _ H2 (s1.trans s2) ?_
     show(bG d0&&(cb (.int i)&&geD 1 (.int i)))=_
     rw[c0,c1,e]
     rfl
  ·have hn:¬ (V.int ((vs.length:Nat):Int)=V.int 2):=λe=>oR no (by injection e with e;omega)
   rw[Q8 hn]
   refine ax ?_
   have:=q H (ak.refl H)
   rwa[yR no]at this
 |_=>exact ax (ax (q H (ak.refl H)))
theorem oH:am ["thing"] ["thing"] (af fH):=by trivial
theorem oz{f:Addr}{fd:Θ}{k:Nat}(F:Fun K "is_length" "is_length" fH f fd)(T:Txt K mg)(Dis_whole:Def P w K mg base k "is_whole" ["thing"] (spD cb))(Dare_parts:Def P w K mg base k "are_parts" ["thing"] (spS jY)):
  av P w K mg base CX0 (k+1) f fd ["thing"] (spS pR):=by
 refine F.ok oH (λvs H Q E h=>?_) (λcdv A outer s H vs Q E hr h=>?_)
 ·obtain⟨v,d,rfl,_⟩:=h
  rfl
 obtain⟨v,d,rfl,R,hsm,q⟩:=h
 refine⟨_,(@un _ _ _ (wbO (wbI (wab (wbY (wbT (wbV (wal aY rfl T.isinstance () (wae (wv 0 rfl) (wae (wai (.ty "tuple") rfl T.tuple () rfl () ()) waf rfl) rfl) () () rfl rfl) ())) (wbZ (wbS eT (wal ar rfl T.len () (wae (wv 0 rfl) waf rfl) () () rfl rfl) waC (ai _))))) (wbQ (wbK wah)) wbP) (wbQ (wbK (wag (waq Dis_whole hr rfl (wae (waD aj (wv 0 rfl) waC (λ_ _=>rfl)) waf rfl) () rfl rfl) (wag (wap AS (waD aj (wv 0 rfl) waC (λ_ _=>rfl)) waC (ai _)) (waP (waq Dare_parts hr rfl (wae (waD aj (wv 0 rfl) waC (λ_ _=>rfl)) waf rfl) () rfl rfl)))))))),?_⟩
 refine⟨_,rfl,v,_,_,_,rfl,R.ty,cr K d,_,rfl,?_⟩
 cases d with
 |tup ds=>
  obtain⟨a,vs,rfl,ha,rs⟩:=Rep.tup_inv R
  have hl:=rs.length
  refine aD ⟨_,rfl,a,vs,rfl,.inr (SqT.of ha),rfl,_,rfl,?_⟩
  rcases ul ds with ⟨d0,d1,rfl⟩|no
  ·obtain⟨x,y,rfl,R0,R1⟩:=Reps.two rs
   obtain⟨z0,z1⟩:=pD hsm
   refine Bb rfl ?_
   have qe:∀c H',ak H H'->pR (.tup [d0,d1])=c->Q (.bl c) H':=λc H' s1 e=>e▸q H' s1
   refine⟨_,rfl,a,_,0,x,rfl,rfl,SqT.of ha,ae (j:=0) rfl,x,d0,rfl,R0,λH1 s1=>⟨_,rfl,?_⟩⟩
   cases c0:cb d0 with
   |false=>exact aD (qe _ H1 s1 (by show(cb d0&&_)=false;rw[c0];rfl))
   |true=>
    obtain⟨i,rfl,e⟩:=uD (k:=0) c0
    obtain rfl:x=.int i:=R0
    refine ax ⟨_,rfl,a,_,0,.int i,rfl,rfl,SqT.of (s1 _ _ ha),ae (j:=0) rfl,_,_,rfl,rfl,_,rfl,?_⟩
    by_cases c1:0<=i
    ·rw[Q9 c1]
     refine ax ⟨_,rfl,a,_,1,y,rfl,rfl,SqT.of (s1 _ _ ha),ae (j:=1) rfl,y,d1,rfl,R1.mono s1,z1,λH2 s2=>?_⟩
     refine qe _ H2 (s1.trans s2) ?_
     show(cb (.int i)&&(geD 0 (.int i)&&jY d1))=_
     rw[c0,e,Q9 c1]
     rfl
    ·rw[Q8 c1]
     refine aD (qe _ H1 s1 ?_)
     show(cb (.int i)&&(geD 0 (.int i)&&jY d1))=_
     rw[c0,e,Q8 c1]
     rfl
  ·have hn:¬ (V.int ((vs.length:Nat):Int)=V.int 2):=λe=>oR no (by injection e with e;omega)
   rw[Q8 hn]
   refine ax ?_
   have:=q H (ak.refl H)
   rwa[zr no]at this
 |_=>exact ax (ax (q H (ak.refl H)))
theorem lS{d:Dv}(h:gr d=true):∃nm b,d=.tup [.str nm,.int b]/\headD d=nm/\nmB nm=true/\1<=b:=by
 match d,h with
 |.tup [a,b],h=>
  simp only[gr,Ζ]at h
  obtain⟨h1,h2,h3⟩:=h
  cases a with
  |str x=>
   cases b with
   |int i=>exact⟨x,i,rfl,rfl,h1,Q7 h3⟩
   |_=>cases h2
  |_=>cases h1
theorem ie:am ["thing","last","part"] ["thing"] (af fg):=by trivial
theorem om{f:Addr}{fd:Θ}{k:Nat}(F:Fun K "are_parts" "are_parts" fg f fd)(T:Txt K mg)(Dis_part:Def P w K mg base k "is_part" ["thing"] (spS gr)):
  av P w K mg base CX0 (k+1) f fd ["thing"] (spS jY):=by
 have nd:=ie.nd
 refine F.ok ie (λvs H Q E h=>?_) (λcdv A outer s H vs Q E hr h=>?_)
 ·obtain⟨v,d,rfl,_⟩:=h
  rfl
 obtain⟨v,d,rfl,R,hsm,q⟩:=h
 refine⟨_,(@un _ _ _ (wbO (wbI (wbT (wbV (wal aY rfl T.isinstance () (wae (wv 0 rfl) (wae (wai (.ty "tuple") rfl T.tuple () rfl () ()) waf rfl) rfl) () () rfl rfl) ())) (wbQ (wbK wah)) wbP) (wbO (wbM 1 nd rfl (υ rfl) waV rfl ()) (wbO (wbH Ϯ rfl (wbo (wv 0 rfl)) (waZ 2 nd rfl (υ rfl) ()) (wbO (wbI (wab (wbY (wbT (wbV (waq Dis_part hr rfl (wae (wv 2 rfl) waf rfl) () rfl rfl) ())) (wbZ (wbS dX (waD aj (wv 2 rfl) waC (λ_ _=>rfl)) (wv 1 rfl) (ai _))))) (wbQ (wbK wah)) wbP) (wbQ (wbM 1 nd rfl (υ rfl) (waD aj (wv 2 rfl) waC (λ_ _=>rfl)) rfl ()))) ()) (wbQ (wbK wah)))))),?_⟩
 refine⟨_,rfl,v,_,_,_,rfl,R.ty,cr K d,_,rfl,?_⟩
 cases d with
 |tup ds=>
  obtain⟨a,vs,rfl,ha,rs⟩:=Rep.tup_inv R
  have hl:=rs.length
  have hds:smalls ds=true:=by
   simp only[Dv.small,Ζ]at hsm
   exact hsm.1
  refine aD ?_
  refine⟨_,rfl,a,rfl,⟨vs,SqT.of ha⟩,vT (xs:=vs) (λi σ H'=>∃(last:Str) (pv:Option V),σ=[some (.ref a),some (.str last),pv]/\ak H H'/\goD last (ds.drop i)=goD "" ds)
   ⟨"",none,rfl,ak.refl H,rfl⟩ (λi σ H' _ ⟨_,_,_,s1,_⟩=>SqT.of (s1 _ _ ha)) ?_ ?_⟩
  ·rintro i x σ H1 hi ⟨last,pv,rfl,s1,hg⟩
   obtain⟨d,hd,Rd⟩:=rs.get hi
   have hdi:ds.drop i=d::ds.drop (i+1):=by
    obtain⟨h1,h2⟩:=ψ.mp hd
    rw[u6 h1,h2]
   have hsd:=dg hds hd
   rw[hdi]at hg
   refine⟨_,rfl,x,d,rfl,Rd.mono s1,hsd,λH2 s2=>⟨_,rfl,?_⟩⟩
   have no:goD last (d::ds.drop (i+1))=false->∀H',ak H H'->Q (.bl false) H':=λe H' s'=>by
    have:=q H' s'
    rwa[show jY (.tup ds)=false by show goD "" ds=false;rw[<-hg,e]]at this
   cases c:gr d with
   |false=>
    refine ax (ax (no ?_ H2 (s1.trans s2)))
    simp only[goD,c,ϴ]
   |true=>
    obtain⟨nm,b,rfl,hh,_⟩:=lS c
    obtain⟨p,us,rfl,hp,ru⟩:=Rep.tup_inv Rd
    obtain⟨y,z,rfl,R0,R1⟩:=Reps.two ru
    obtain rfl:y=.str nm:=R0
    have hp2:H2 p=some (.tup [.str nm,z]):=s2 _ _ (s1 _ _ hp)
    refine aD ⟨_,rfl,p,_,0,.str nm,rfl,rfl,SqT.of hp2,ae (j:=0) rfl,_,rfl,_,_,rfl,rfl,_,rfl,?_⟩
    by_cases lt:last.cps.toList<nm.cps.toList
    ·rw[Q9 lt]
     refine aD ⟨_,rfl,p,_,0,.str nm,rfl,rfl,SqT.of hp2,ae (j:=0) rfl,nm,_,rfl,s1.trans s2,?_⟩
     rw[<-hg]
     simp only[goD,c,hh,ϧ]
     rw[Q9 lt,ϧ]
    ·rw[Q8 lt]
     refine ax (no ?_ H2 (s1.trans s2))
     simp only[goD,c,hh,ϧ]
     rw[Q8 lt,ϴ]
  ·rintro σ H1 ⟨last,pv,rfl,s1,hg⟩
   have:=q H1 s1
   rw[show jY (.tup ds)=true by
    show goD "" ds=true
    rw[<-hg,hl,Ga]
    rfl]at this
   exact this
 |_=>exact ax (q H (ak.refl H))
abbrev gF:Stmt:=top 14
abbrev gT:Stmt:=top 15
abbrev gz:Stmt:=top 16
abbrev fj:Stmt:=top 17
def gW:Dv->Int
 |.tup [_,.int n]=>n
 |_=>0
def Ep:Dv->Int
 |.tup (.int c::_)=>c
 |_=>0
def zM:Dv->List Dv
 |.tup [_,.tup ps]=>ps
 |_=>[]
def slD(d:Dv):Bool:=pR d&&(decide (Ep d<=99)&&(zM d).all λp=>decide (gW p<=99))
def fW:Dv->Bool
 |.tup (.str _::_)=>true
 |_=>false
def dq:Dv->Bool
 |.tup [.str x]=>decide (x="whole")
 |.tup [.str x,l]=>decide (x="place")&&slD l
 |.tup [.str x,a,_]=>(decide (x="row")&&slD a)||decide (x="pair")
 |_=>false
def dc{α:Type}(x:Str)(r:List α):List α:=if x="row" then r.drop 1 else if x="pair" then r else []
theorem xg{d:Dv}(h:pR d=true):∃c ps,d=.tup [.int c,.tup ps]/\0<=c/\goD "" ps=true:=by
 match d,h with
 |.tup [a,b],h=>
  simp only[pR,Ζ]at h
  obtain⟨h1,h2,h3⟩:=h
  cases a with
  |int i=>
   cases b with
   |tup ps=>exact⟨i,ps,rfl,Q7 h2,h3⟩
   |_=>cases h3
  |_=>cases h1
theorem rE:∀{l:Str}{ps:List Dv},goD l ps=true->∀p∈ps,gr p=true
 |_,[],_,p,hp=>by cases hp
 |l,x::ps,h,p,hp=>by
  simp only[goD,Ζ]at h
  rcases ν.mp hp with rfl|hp
  ·exact h.1
  ·exact rE h.2.2 p hp
def AV:Sp:=λvs H Q _=>∃(a:Addr) (x:Str) (us:List V),vs=[.ref a]/\H a=some (.tup (.str x::us))/\(x="row"->us.length=2)/\(x="pair"->us.length=2)/\∀(l:Addr),H l=none->Q (.ref l) (upd H l (.lst (dc x us)))
theorem cH(x y:Str):decide (V.str x=V.str y)=decide (x=y):=by
 by_cases h:x=y
 ·rw[Q9 h,Q9 (by rw[h])]
 ·rw[Q8 h,Q8 (λz=>h (by injection z))]
theorem qQ:am ["thing"] ["thing"] (af gF):=by trivial
theorem qa{f:Addr}{fd:Θ}{k:Nat}(F:Fun K "is_small_length" "is_small_length" gF f fd)(T:Txt K mg)(Dis_length:Def P w K mg base k "is_length" ["thing"] (spS pR)):
  av P w K mg base CX0 (k+1) f fd ["thing"] (spS slD):=by
 refine F.ok qQ (λvs H Q E h=>?_) (λcdv A outer s H vs Q E hr h=>?_)
 ·obtain⟨v,d,rfl,_⟩:=h
  rfl
 obtain⟨v,d,rfl,R,hsm,q⟩:=h
 refine⟨_,(@un _ _ _ (wbO (wbI (wab (wbY (wbT (wbV (waq Dis_length hr rfl (wae (wv 0 rfl) waf rfl) () rfl rfl) ())) (wbZ (wbS eR (waD aj (wv 0 rfl) waC (λ_ _=>rfl)) ⟨T.g_GREATEST_NUMBER rfl⟩ (ai _))))) (wbQ (wbK wah)) wbP) (wbQ (wbK (wal (de rfl) rfl T.all () (wae (waE (["name","times"]) [] (wbo (waD aj (wv 0 rfl) waC (λ_ _=>rfl))) (.of rfl) rfl (λ_ _ _=>⟨pg_tup rfl (pgs_cons (pg_name (i:=0) (bc (l:=["name","times"]) (()) rfl) rfl (υ rfl)) (pgs_cons (pg_name (i:=1) (bc (l:=["name","times"]) (()) rfl) rfl (υ rfl)) pgs_nil))⟩) (gx () ()) (λ_ _ _=>wbx) (λ_ _ _=>(wap ir (wv 1 rfl) ⟨T.g_GREATEST_NUMBER rfl⟩ (ai _))) ()) waf rfl) () () rfl rfl))))),?_⟩
 dsimp only[bi,Cx.nox]
 refine⟨_,rfl,v,d,rfl,R,hsm,λH1 s1=>⟨_,rfl,?_⟩⟩
 cases c0:pR d with
 |false=>
  refine ax ?_
  have:=q H1 s1
  rwa[show slD d=false by unfold slD;rw[c0];rfl]at this
 |true=>
  refine aD ?_
  obtain⟨c,ps,rfl,hc,hg⟩:=xg c0
  obtain⟨a,vs,rfl,ha,rs⟩:=Rep.tup_inv R
  obtain⟨x,y,rfl,R0,R1⟩:=Reps.two rs
  obtain rfl:x=.int c:=R0
  obtain⟨b,us,rfl,hb,ru⟩:=Rep.tup_inv R1
  have hps:ps.length<=1000:=by
   have:=(pD hsm).2
   simp only[Dv.small,Ζ,decide_eq_true_eq]at this
   exact this.2
  have hl:=ru.length
  have e0:slD (.tup [.int c,.tup ps])=(decide (c<=99)&&ps.all λp=>decide (gW p<=99)):=by
   unfold slD;rw[c0];rfl
  refine⟨_,rfl,a,_,0,.int c,rfl,rfl,SqT.of (s1 _ _ ha),ae (j:=0) rfl,_,_,rfl,rfl,_,rfl,?_⟩
  refine ap (λh=>?_) (λh=>?_)
  ·have h':99<c:=Q7 h
   have:=q H1 s1
   rw[e0,Q8 (),ϴ]at this
   exact this
  have h':c<=99:=by have:=of_decide_eq_false (x6.mpr h);omega
  have hb1:=s1 _ _ hb
  refine⟨_,rfl,a,_,1,.ref b,rfl,rfl,SqT.of (s1 _ _ ha),ae (j:=1) rfl,b,rfl,⟨us,SqT.of hb1⟩,iA (xs:=us) (λi ys H'=>H'=H1/\ys=(ps.take i).map λp=>V.bl (decide (gW p<=99))) ⟨rfl,rfl⟩ (λi ys H' _ p=>by rw[p.1];exact SqT.of hb1) ?_ ?_⟩
  ·rintro i ys H' x hx ⟨rfl,rfl⟩
   obtain⟨d,hd,Rd⟩:=ru.get hx
   obtain⟨hi,ed⟩:=ψ.mp hd
   obtain⟨nm,t,rfl,hh,_⟩:=lS (rE hg d (Ο hd))
   obtain⟨p,zs,rfl,hp,rz⟩:=Rep.tup_inv Rd
   obtain⟨y,z,rfl,Ry,Rz⟩:=Reps.two rz
   obtain rfl:y=.str nm:=Ry
   obtain rfl:z=.int t:=Rz
   refine dj (s1 _ _ hp) ⟨_,rfl,_,_,rfl,rfl,?_,rfl,?_⟩
   ·rw[δ,Υ,θ];omega
   ·rw[ϕ,hd,ς]
    rfl
  ·rintro ys H' ⟨rfl,rfl⟩ r hr'
   rw[hl,ϒ]
   refine⟨r,ps.map λp=>decide (gW p<=99),rfl,SqL.of (by rw[aa,Ψ];rfl),?_⟩
   have:=q _ (s1.trans (ac hr' (.lst (ps.map λp=>V.bl (decide (gW p<=99))))))
   rw[e0,Q9 h',ϧ]at this
   rw[C4]
   exact this
theorem rG:am ["thing"] ["thing"] (af gT):=by trivial
theorem qN{f:Addr}{fd:Θ}(F:Fun K "has_word" "has_word" gT f fd)(T:Txt K mg):av P w K mg base CX0 1 f fd ["thing"] (spD fW):=by
 refine F.ok rG (λvs H Q E h=>?_) (λcdv A outer s H vs Q E hr h=>?_)
 ·obtain⟨v,d,rfl,_⟩:=h
  rfl
 obtain⟨v,d,rfl,R,q⟩:=h
 refine⟨_,(@un _ _ _ (wbQ (wbK (wag (wal aY rfl T.isinstance () (wae (wv 0 rfl) (wae (wai (.ty "tuple") rfl T.tuple () rfl () ()) waf rfl) rfl) () () rfl rfl) (wag (wap eR (wal ar rfl T.len () (wae (wv 0 rfl) waf rfl) () () rfl rfl) waC (ai _)) (waP (wal aY rfl T.isinstance () (wae (waD aj (wv 0 rfl) waC (λ_ _=>rfl)) (wae (wai (.ty "str") rfl T.str () rfl () ()) waf rfl) rfl) () () rfl rfl))))))),?_⟩
 dsimp only[bi,Cx.nox]
 refine⟨_,rfl,v,_,_,_,rfl,R.ty,cr K d,_,rfl,?_⟩
 cases d with
 |tup ds=>
  obtain⟨a,vs,rfl,ha,rs⟩:=Rep.tup_inv R
  refine ax ⟨_,rfl,a,vs,rfl,.inr (SqT.of ha),_,_,rfl,rfl,_,rfl,?_⟩
  cases ds with
  |nil=>
   simp only[Reps]at rs
   subst rs
   exact aD (q H (ak.refl H))
  |cons d0 ds=>
   simp only[Reps]at rs
   obtain⟨x,r,rfl,R0,rr⟩:=rs
   rw[show decide (((0:Int))<(((x::r).length:Nat):Int))=true from Q9 (by rw[Γ];omega)]
   refine ax ⟨_,rfl,a,_,0,x,rfl,rfl,SqT.of ha,ae (j:=0) rfl,x,_,_,_,rfl,R0.ty,ga K d0,?_⟩
   have:=q H (ak.refl H)
   cases d0<;>exact this
 |_=>exact aD (q H (ak.refl H))
theorem gJ{d:Dv}(h:fW d=true):∃x r,d=.tup (.str x::r):=by
 match d,h with
 |.tup (.str x::r),_=>exact⟨x,r,rfl⟩
theorem tP{d:Dv}(h:fW d=false):dq d=false:=by
 match d,h with
 |.tup [.str x],h=>cases h
 |.tup [.str x,l],h=>cases h
 |.tup [.str x,a,b],h=>cases h
 |.tup (.str x::a::b::c::r),h=>cases h
 |.tup [],_=>rfl
 |.tup (.non::r),_=>rfl
 |.tup (.bl _::r),_=>rfl
 |.tup (.int _::r),_=>rfl
 |.tup (.tup _::r),_=>rfl
 |.tup (.lst _::r),_=>rfl
 |.tup (.dct::r),_=>rfl
 |.non,_=>rfl
 |.bl _,_=>rfl
 |.int _,_=>rfl
 |.str _,_=>rfl
 |.lst _,_=>rfl
 |.dct,_=>rfl
theorem w1:(γ "whole")≠(γ "place"):=by decide +kernel
theorem w2:(γ "whole")≠(γ "row"):=by decide +kernel
theorem w3:(γ "whole")≠(γ "pair"):=by decide +kernel
theorem w4:(γ "place")≠(γ "row"):=by decide +kernel
theorem w5:(γ "place")≠(γ "pair"):=by decide +kernel
theorem w6:(γ "row")≠(γ "pair"):=by decide +kernel
theorem zE{r:List Dv}:dq (.tup (.str "whole" :: r))=decide (r.length=0):=by
 match r with
 |[]=>show decide (γ "whole"=γ "whole")=_;rw[Q9 rfl];rfl
 |[l]=>show(decide (γ "whole"=γ "place")&&slD l)=_;rw[Q8 w1];rfl
 |[a,b]=>show((decide (γ "whole"=γ "row")&&slD a)||decide (γ "whole"=γ "pair"))=_;rw[Q8 w2,Q8 w3];rfl
 |a::b::c::r=>rfl
theorem vb{r:List Dv}:dq (.tup (.str "place" :: r))=(decide (r.length=1)&&slD (r.headD .non)):=by
 match r with
 |[]=>show decide (γ "place"=γ "whole")=_;rw[Q8 (ϋ w1)];rfl
 |[l]=>show(decide (γ "place"=γ "place")&&slD l)=_;rw[Q9 rfl];rfl
 |[a,b]=>show((decide (γ "place"=γ "row")&&slD a)||decide (γ "place"=γ "pair"))=_;rw[Q8 w4,Q8 w5];rfl
 |a::b::c::r=>
  rw[Q8 ()];rfl
theorem AU{r:List Dv}:dq (.tup (.str "row" :: r))=(decide (r.length=2)&&slD (r.headD .non)):=by
 match r with
 |[]=>show decide (γ "row"=γ "whole")=_;rw[Q8 (ϋ w2)];rfl
 |[l]=>show(decide (γ "row"=γ "place")&&slD l)=_;rw[Q8 (ϋ w4)];rfl
 |[a,b]=>show((decide (γ "row"=γ "row")&&slD a)||decide (γ "row"=γ "pair"))=_;rw[Q9 rfl,Q8 w6,Bool.or_false];rfl
 |a::b::c::r=>
  rw[Q8 ()];rfl
theorem Bv{x:Str}{r:List Dv}(h1:x≠"whole")(h2:x≠"place")(h3:x≠"row"):dq (.tup (.str x::r))=(decide (r.length=2)&&decide (x="pair")):=by
 match r with
 |[]=>show decide (x="whole")=_;rw[Q8 h1];rfl
 |[l]=>show(decide (x="place")&&slD l)=_;rw[Q8 h2];rfl
 |[a,b]=>show((decide (x="row")&&slD a)||decide (x="pair"))=_;rw[Q8 h3,ϴ,F4];rfl
 |a::b::c::r=>
  rw[Q8 ()];rfl
theorem gb{vs:List V}{r:List Dv}{x:V}(h:vs.length=r.length)(n m:Nat)(e:m=n+1):decide (V.int (((x::vs).length:Nat):Int)=V.int (m:Int))=decide (r.length=n):=by
 by_cases z:r.length=n
 ·rw[Q9 z,Q9 (by rw[Γ,h,z,e])]
 ·rw[Q8 z,Q8 (λy=>z (by injection y with y;rw[Γ,h]at y;omega))]
theorem qy:am ["thing"] ["thing"] (af gz):=by trivial
theorem rc{f:Addr}{fd:Θ}{k:Nat}(F:Fun K "is_point" "is_point" gz f fd)(T:Txt K mg)(Dhas_word:Def P w K mg base k "has_word" ["thing"] (spD fW))(Dis_small_length:Def P w K mg base k "is_small_length" ["thing"] (spS slD)):
  av P w K mg base CX0 (k+1) f fd ["thing"] (spS dq):=by
 refine F.ok qy (λvs H Q E h=>?_) (λcdv A outer s H vs Q E hr h=>?_)
 ·obtain⟨v,d,rfl,_⟩:=h
  rfl
 obtain⟨v,d,rfl,R,hsm,q⟩:=h
 refine⟨_,(@un _ _ _ (wbO (wbI (wbT (wbV (waq Dhas_word hr rfl (wae (wv 0 rfl) waf rfl) () rfl rfl) ())) (wbQ (wbK wah)) wbP) (wbO (wbI (wbS aw (waD aj (wv 0 rfl) waC (λ_ _=>rfl)) waV (ai _)) (wbQ (wbK (wap aw (wal ar rfl T.len () (wae (wv 0 rfl) waf rfl) () () rfl rfl) waC (ai _)))) wbP) (wbO (wbI (wbS aw (waD aj (wv 0 rfl) waC (λ_ _=>rfl)) waV (ai _)) (wbQ (wbK (wag (wap aw (wal ar rfl T.len () (wae (wv 0 rfl) waf rfl) () () rfl rfl) waC (ai _)) (waP (waq Dis_small_length hr rfl (wae (waD aj (wv 0 rfl) waC (λ_ _=>rfl)) waf rfl) () rfl rfl))))) wbP) (wbO (wbI (wbS aw (waD aj (wv 0 rfl) waC (λ_ _=>rfl)) waV (ai _)) (wbQ (wbK (wag (wap aw (wal ar rfl T.len () (wae (wv 0 rfl) waf rfl) () () rfl rfl) waC (ai _)) (waP (waq Dis_small_length hr rfl (wae (waD aj (wv 0 rfl) waC (λ_ _=>rfl)) waf rfl) () rfl rfl))))) wbP) (wbQ (wbK (wag (wap aw (wal ar rfl T.len () (wae (wv 0 rfl) waf rfl) () () rfl rfl) waC (ai _)) (waP (wap aw (waD aj (wv 0 rfl) waC (λ_ _=>rfl)) waV (ai _))))))))))),?_⟩
 dsimp only[bi,Cx.nox]
 refine⟨_,rfl,v,d,rfl,R,λH1 s1=>⟨_,rfl,?_⟩⟩
 cases c0:fW d with
 |false=>
  refine ax ?_
  have:=q H1 s1
  rwa[tP c0]at this
 |true=>
  refine aD ?_
  obtain⟨x,r,rfl⟩:=gJ c0
  obtain⟨a,vs,rfl,ha,rs⟩:=Rep.tup_inv (R.mono s1)
  simp only[Reps]at rs
  obtain⟨y,us,rfl,R0,ru⟩:=rs
  obtain rfl:y=.str x:=R0
  have hl:=ru.length
  refine⟨_,rfl,a,_,0,.str x,rfl,rfl,SqT.of ha,ae (j:=0) rfl,rfl,_,rfl,?_⟩
  show if decide (V.str x=V.str "whole")=true then _ else _
  rw[cH]
  by_cases h1:x="whole"
  ·subst h1
   rw[Q9 rfl]
   refine ax ⟨_,rfl,a,_,rfl,.inr (SqT.of ha),rfl,?_⟩
   have:=q H1 s1
   rw[zE,<-gb (x:=.str "whole") hl 0 1 rfl]at this
   exact this
  rw[Q8 h1]
  refine aD ⟨_,rfl,a,_,0,.str x,rfl,rfl,SqT.of ha,ae (j:=0) rfl,rfl,_,rfl,?_⟩
  show if decide (V.str x=V.str "place")=true then _ else _
  rw[cH]
  by_cases h2:x="place"
  ·subst h2
   rw[Q9 rfl]
   refine ax ⟨_,rfl,a,_,rfl,.inr (SqT.of ha),rfl,_,rfl,?_⟩
   show if decide (V.int _=V.int ((2:Nat):Int))=true then _ else _
   rw[gb (x:=.str "place") hl 1 2 rfl]
   by_cases z:r.length=1
   ·rw[Q9 z]
    match r,us,z,ru with
    |[l],us,_,ru=>
     simp only[Reps]at ru
     obtain⟨u,rest,rfl,Ru,rfl⟩:=ru
     refine ax ⟨_,rfl,a,_,1,u,rfl,rfl,SqT.of ha,ae (j:=1) rfl,u,l,rfl,Ru,dg (i:=1) (ds:=[.str "place",l]) (by simp only[Dv.small,Ζ]at hsm;exact hsm.1) rfl,λH2 s2=>?_⟩
     have:=q H2 (s1.trans s2)
     rw[vb]at this
     exact this
   ·rw[Q8 z]
    refine aD ?_
    have:=q H1 s1
    rw[vb,Q8 z]at this
    exact this
  rw[Q8 h2]
  refine aD ⟨_,rfl,a,_,0,.str x,rfl,rfl,SqT.of ha,ae (j:=0) rfl,rfl,_,rfl,?_⟩
  show if decide (V.str x=V.str "row")=true then _ else _
  rw[cH]
  by_cases h3:x="row"
  ·subst h3
   rw[Q9 rfl]
   refine ax ⟨_,rfl,a,_,rfl,.inr (SqT.of ha),rfl,_,rfl,?_⟩
   show if decide (V.int _=V.int ((3:Nat):Int))=true then _ else _
   rw[gb (x:=.str "row") hl 2 3 rfl]
   by_cases z:r.length=2
   ·rw[Q9 z]
    match r,us,z,ru with
    |[l,m],us,_,ru=>
     obtain⟨u,u',rfl,Ru,Ru'⟩:=Reps.two ru
     refine ax ⟨_,rfl,a,_,1,u,rfl,rfl,SqT.of ha,ae (j:=1) rfl,u,l,rfl,Ru,dg (i:=1) (ds:=[.str "row",l,m]) (by simp only[Dv.small,Ζ]at hsm;exact hsm.1) rfl,λH2 s2=>?_⟩
     have:=q H2 (s1.trans s2)
     rw[AU]at this
     exact this
   ·rw[Q8 z]
    refine aD ?_
    have:=q H1 s1
    rw[AU,Q8 z]at this
    exact this
  rw[Q8 h3]
  refine aD ⟨_,rfl,a,_,rfl,.inr (SqT.of ha),rfl,_,rfl,?_⟩
  show if decide (V.int _=V.int ((3:Nat):Int))=true then _ else _
  rw[gb (x:=.str x) hl 2 3 rfl]
  have qq:=q H1 s1
  rw[Bv h1 h2 h3]at qq
  by_cases z:r.length=2
  ·rw[Q9 z]at qq⊢
   refine ax ⟨_,rfl,a,_,0,.str x,rfl,rfl,SqT.of ha,ae (j:=0) rfl,rfl,?_⟩
   rw[ϧ,<-cH]at qq
   exact qq
  ·rw[Q8 z]at qq⊢
   exact aD qq
theorem sZ:am ["point"] ["point"] (af fj):=by trivial
theorem sv{f:Addr}{fd:Θ}(F:Fun K "things_of" "things_of" fj f fd)(T:Txt K mg):av P w K mg base CX0 1 f fd ["point"] AV:=by
 refine F.ok sZ (λvs H Q E h=>?_) (λcdv A outer s H vs Q E hr h=>?_)
 ·obtain⟨a,x,us,rfl,_⟩:=h
  rfl
 obtain⟨a,x,us,rfl,ha,hr2,hp2,q⟩:=h
 refine⟨_,(@un _ _ _ (wbO (wbI (wbS aw (waD aj (wv 0 rfl) waC (λ_ _=>rfl)) waV (ai _)) (wbQ (wbK (waM (wae (waD aj (wv 0 rfl) waC (λ_ _=>rfl)) waf rfl)))) wbP) (wbO (wbI (wbS aw (waD aj (wv 0 rfl) waC (λ_ _=>rfl)) waV (ai _)) (wbQ (wbK (waM (wae (waD aj (wv 0 rfl) waC (λ_ _=>rfl)) (wae (waD aj (wv 0 rfl) waC (λ_ _=>rfl)) waf rfl) rfl)))) wbP) (wbQ (wbK (waM waf)))))),?_⟩
 dsimp only[bi,Cx.nox]
 refine⟨_,rfl,a,_,0,.str x,rfl,rfl,SqT.of ha,ae (j:=0) rfl,rfl,_,rfl,?_⟩
 show if decide (V.str x=V.str "row")=true then _ else _
 rw[cH]
 by_cases h1:x="row"
 ·subst h1
  have hl:=hr2 rfl
  match us,hl with
  |[u,u'],_=>
   rw[Q9 rfl]
   refine ax ⟨_,rfl,a,_,2,u',rfl,rfl,SqT.of ha,ae (j:=2) rfl,z1,λl hl=>q l hl⟩
 rw[Q8 h1]
 refine aD ⟨_,rfl,a,_,0,.str x,rfl,rfl,SqT.of ha,ae (j:=0) rfl,rfl,_,rfl,?_⟩
 show if decide (V.str x=V.str "pair")=true then _ else _
 rw[cH]
 by_cases h2:x="pair"
 ·subst h2
  have hl:=hp2 rfl
  match us,hl with
  |[u,u'],_=>
   rw[Q9 rfl]
   refine ax ⟨_,rfl,a,_,1,u,rfl,rfl,SqT.of ha,ae (j:=1) rfl,_,rfl,a,_,2,u',rfl,rfl,SqT.of ha,ae (j:=2) rfl,z2,λl hl=>?_⟩
   have:=q l hl
   rw[show dc (γ "pair") [u,u']=[u,u'] by unfold dc;rw[Q6 (ϋ w6),Q5 rfl]]at this
   exact this
 rw[Q8 h2]
 refine aD ⟨ϊ _,λl hl=>?_⟩
 have:=q l hl
 rw[show dc x us=[] by unfold dc;rw[Q6 h1,Q6 h2]]at this
 exact this
abbrev iY:Stmt:=top 18
def aK:Dv->Nat
 |.tup [.str x]=>if x="whole" then 1 else 99
 |.tup [.str x,l]=>if x="place"/\slD l=true then 1 else 99
 |.tup [.str x,a,b]=>if x="pair" then 1+aK a+aK b else if x="row"/\slD a=true then 1+aK b else 99
 |_=>99
termination_by d=>sizeOf d
decreasing_by all_goals simp_wf;omega
theorem uJ{d:Dv}(h:dq d=false):aK d=99:=by
 match d,h with
 |.tup [.str x],h=>
  rw[aK,Q6 (of_decide_eq_false h)]
 |.tup [.str x,l],h=>
  rw[aK,Q6 (λz=>by
   have h':(decide (x="place")&&slD l)=false:=h
   rw[Q9 z.1,z.2]at h';cases h')]
 |.tup [.str x,a,b],h=>
  have h':((decide (x="row")&&slD a)||decide (x="pair"))=false:=h
  rw[Bool.or_eq_false_iff]at h'
  rw[aK,Q6 (of_decide_eq_false h'.2),Q6 (λz=>by
   have h2:=h'.1
   rw[Q9 z.1,z.2]at h2;cases h2)]
 |.tup (.str x::a::b::c::r),_=>rw[aK]<;>simp
 |.tup [],_=>rw[aK]<;>simp
 |.tup (.non::r),_=>rw[aK]<;>simp
 |.tup (.bl _::r),_=>rw[aK]<;>simp
 |.tup (.int _::r),_=>rw[aK]<;>simp
 |.tup (.tup _::r),_=>rw[aK]<;>simp
 |.tup (.lst _::r),_=>rw[aK]<;>simp
 |.tup (.dct::r),_=>rw[aK]<;>simp
 |.non,_=>rw[aK]<;>simp
 |.bl _,_=>rw[aK]<;>simp
 |.int _,_=>rw[aK]<;>simp
 |.str _,_=>rw[aK]<;>simp
 |.lst _,_=>rw[aK]<;>simp
 |.dct,_=>rw[aK]<;>simp
theorem jr{d:Dv}(h:dq d=true):∃x r,d=.tup (.str x::r)/\(x="row"->r.length=2)/\(x="pair"->r.length=2)/\aK d=1+((dc x r).map aK).sum:=by
 match d,h with
 |.tup [.str x],h=>
  have h':x="whole":=Q7 h
  subst h'
  exact⟨_,_,rfl,λz=>absurd z w2,λz=>absurd z w3,by rw[aK,Q5 rfl];unfold dc;rw[Q6 w2,Q6 w3];rfl⟩
 |.tup [.str x,l],h=>
  have h':(decide (x="place")&&slD l)=true:=h
  rw[Ζ]at h'
  have e:x="place":=Q7 h'.1
  subst e
  exact⟨_,_,rfl,λz=>absurd z w4,λz=>absurd z w5,by rw[aK,Q5 ⟨rfl,h'.2⟩];unfold dc;rw[Q6 w4,Q6 w5];rfl⟩
 |.tup [.str x,a,b],h=>
  have h':((decide (x="row")&&slD a)||decide (x="pair"))=true:=h
  rw[Gk,Ζ]at h'
  refine⟨x,_,rfl,λ_=>rfl,λ_=>rfl,?_⟩
  rw[aK]
  rcases h' with ⟨h1,h2⟩|h1
  ·have e:x="row":=Q7 h1
   subst e
   rw[Q6 w6,Q5 ⟨rfl,h2⟩]
   unfold dc
   rw[Q5 rfl]
   simp
  ·have e:x="pair":=Q7 h1
   subst e
   rw[Q5 rfl]
   unfold dc
   rw[Q6 (ϋ w6),Q5 rfl]
   simp[Nat.add_assoc]
theorem size_pos(d:Dv):1<=aK d:=by
 cases h:dq d with
 |false=>rw[uJ h];decide
 |true=>obtain⟨x,r,_,_,_,e⟩:=jr h;rw[e];omega
theorem xn{H:Hp}{x:Str}{r:List Dv}{us:List V}(h:Reps H r us):Reps H (dc x r) (dc x us):=by
 unfold dc
 split
 ·match r,us,h with
  |[],us,h=>simp only[Reps]at h;subst h;simp only[List.drop_nil,Reps]
  |d::r,us,h=>simp only[Reps]at h;obtain⟨v,q,rfl,_,h2⟩:=h;exact h2
 ·split
  ·exact h
  ·simp only[Reps]
theorem uo{x:Str}{r:List Dv}(h:smalls r=true):smalls (dc x r)=true:=by
 unfold dc
 split
 ·match r,h with
  |[],_=>rfl
  |d::r,h=>simp only[smalls,Ζ]at h;exact h.2
 ·split
  ·exact h
  ·rfl
theorem qk{α:Type}{x:Str}{r:List α}(h1:x="row"->r.length=2)(h2:x="pair"->r.length=2):(dc x r).length<=2:=by
 unfold dc
 split
 ·rename_i e;rw[Ϸ,h1 e];decide
 ·split
  ·rename_i e;rw[h2 e];exact π _
  ·exact ϊ _
theorem kr:∀{xs ys:List Dv},smalls xs=true->smalls ys=true->smalls (xs++ys)=true
 |[],_,_,h=>h
 |x::xs,ys,g,h=>by
  simp only[smalls,Ζ,Ϲ]at g⊢
  exact⟨g.1,kr g.2 h⟩
theorem jt:∀{xs:List Dv}{y:Dv},smalls (xs++[y])=true->smalls xs=true/\y.small=true
 |[],y,h=>by simpa[smalls]using h
 |x::xs,y,h=>by
  simp only[smalls,Ζ,Ϲ]at h⊢
  have:=jt h.2
  exact⟨⟨h.1,this.1⟩,this.2⟩
theorem oM{H:Hp}{l:Addr}{o:HO}:ak (bj H l) (bj (upd H l o) l):=λb u h=>by
 unfold bj at h⊢
 split at h
 ·cases h
 ·rename_i e;rw[Q6 e,ao e];exact h
def jL:Sp:=spS λd=>decide (aK d<=12)
theorem kO:am ["thing","size","waiting","point"] ["thing"] (af iY):=by trivial
theorem tY{f:Addr}{fd:Θ}{k:Nat}(F:Fun K "is_kind" "is_kind" iY f fd)(T:Txt K mg)(Dis_point:Def P w K mg base k "is_point" ["thing"] (spS dq))(Dthings_of:Def P w K mg base k "things_of" ["point"] AV):
  av P w K mg base CX0 (k+1) f fd ["thing"] jL:=by
 have nd:=kO.nd
 refine F.ok kO (λvs H Q E h=>?_) (λcdv A outer s H vs Q E hr h=>?_)
 ·obtain⟨v,d,rfl,_⟩:=h
  rfl
 obtain⟨v,d,rfl,R,hsm,q⟩:=h
 replace q:∀(H':Hp),ak H H'->Q (V.bl (decide (aK d<=12))) H':=q
 refine⟨_,(@un _ _ _ (wbO (wbM 1 nd rfl (υ rfl) waC rfl ()) (wbO (wbM 2 nd rfl (υ rfl) (waM (wae (wv 0 rfl) waf rfl)) rfl ()) (wbO (wbN Ϯ (wbU (wv 2 rfl) (λ_=>rfl)) (wbO (wbM 3 nd rfl (υ rfl) (wak Φ PySem.F.slot_list_pop PySem.F.type_list_pop xU (wv 2 rfl) rfl rfl) rfl ()) (wbO (wbE 1 nd rfl (υ rfl) waC yj ()) (wbO (wbI (wab (wbY (wbS eR (wv 1 rfl) ⟨T.g_GREATEST_SIZE rfl⟩ (ai _)) (wbZ (wbT (wbV (waq Dis_point hr rfl (wae (wv 3 rfl) waf rfl) () rfl rfl) ()))))) (wbQ (wbK wah)) wbP) (wbQ (wbG (waj Φ D_ EI mU (wv 2 rfl) (wae (waq Dthings_of hr rfl (wae (wv 3 rfl) waf rfl) () rfl rfl) waf rfl) rfl rfl rfl rfl rfl) rfl)))))) (wbQ (wbK wah)))))),?_⟩
 dsimp only[bi,Cx.nox]
 refine⟨_,rfl,z1,λW1 hW=>?_⟩
 have q1:=ac hW (.lst [v])
 refine qX (λm σ H'=>∃(o3:Option V) (sz:Nat) (ws:List Dv) (vs:List V),σ=[some v,some (.int sz),some (.ref W1),o3]/\ak H (bj H' W1)/\H' W1=some (.lst vs)/\Reps (bj H' W1) ws vs/\smalls ws=true/\(sz+(ws.map aK).sum<=12↔aK d<=12)/\m=12-sz/\sz<=12/\ws.length<=1+sz) 12
  ⟨_,0,[d],[v],rfl,ik q1 hW,aa,aQ (R.mono (ik q1 hW)),by simp only[smalls,hsm,Bool.and_self],(),rfl,(),π _⟩ ?_ kW
 rintro m σ H1 D1 gR gD ⟨o3,sz,ws,vs,rfl,s1,w1,R1,sm,eq,rfl,s12,lw⟩
 have s01:ak H H1:=s1.trans bL
 refine⟨_,rfl,_,.inl ⟨vs,SqL.of w1,rfl⟩,?_⟩
 by_cases ne:ws=[]
 ·subst ne
  have e:vs=[]:=by simpa only[Reps]using R1
  subst e
  refine aD ?_
  have:=q H1 s01
  rw[Q9 (eq.mp (by simpa using s12))]at this
  exact this
 ·obtain⟨w0,x,rfl⟩:=oW ne
  obtain⟨v0,u,rfl,Ra,Ru⟩:=iX R1
  have e:(!(v0++[u]).isEmpty)=true:=by simp
  rw[e]
  refine ax ?_
  rw[ς,EL,Χ,j9,j7,List.sum_nil]at eq
  rw[Η,ϳ]at lw
  obtain⟨sm0,smx⟩:=jt sm
  refine⟨_,rfl,.inl ⟨rfl,_,SqL.of w1⟩,W1,_,_,rfl,rfl,w1,rQ _ _,?_⟩
  rw[List.dropLast_concat]
  have t2:ak (bj H1 W1) (bj (upd H1 W1 (.lst v0)) W1):=oM
  have w2:upd H1 W1 (.lst v0) W1=some (.lst v0):=aa
  have s02:ak H _:=s1.trans (t2.trans bL)
  generalize upd H1 W1 (.lst v0)=H2 at t2 w2 s02⊢
  have xp:=size_pos x
  refine⟨_,rfl,_,_,rfl,rfl,?_⟩
  refine⟨_,rfl,_,_,rfl,rfl,_,rfl,?_⟩
  refine ap (λh=>?_) (λh=>?_)
  ·have h':(12:Int)<(sz:Int)+1:=Q7 h
   have:=q H2 s02
   rw[Q8 (λz=>by have:=eq.mpr z;omega)]at this
   exact ax (gR _ _ this)
  have h':sz+1<=12:=by have z:¬ ((12:Int)<(sz:Int)+1):=of_decide_eq_false (x6.mpr h);omega
  refine⟨_,rfl,u,x,rfl,Ru.mono (t2.trans bL),smx,λH3 s3=>⟨_,rfl,?_⟩⟩
  have s03:=s02.trans s3
  cases c:dq x with
  |false=>
   have:=q H3 s03
   rw[Q8 (λz=>by have:=eq.mpr z;rw[uJ c]at this;omega)]at this
   exact ax (gR _ _ this)
  |true=>
   refine aD ?_
   obtain⟨wd,r,rfl,k1,k2,es⟩:=jr c
   have Rx:Rep (bj H3 W1) (.tup (.str wd::r)) u:=Ru.mono (t2.trans (bH s3))
   obtain⟨a,us,rfl,ha,rs⟩:=Rep.tup_inv Rx
   simp only[Reps]at rs
   obtain⟨y,ur,rfl,R0,ru⟩:=rs
   obtain rfl:y=.str wd:=R0
   have hl:=ru.length
   have w3:=s3 _ _ w2
   have lk:(dc wd ur).length<=2:=qk (λz=>by rw[hl];exact k1 z) (λz=>by rw[hl];exact k2 z)
   have lv:v0.length<=12:=by rw[Ra.length];omega
   refine⟨_,rfl,.inl ⟨rfl,_,SqL.of w3⟩,_,rfl,a,wd,ur,rfl,bL _ _ ha,λz=>by rw[hl];exact k1 z,λz=>by rw[hl];exact k2 z,λl hl4=>?_⟩
   have q4:=ac hl4 (.lst (dc wd ur))
   refine⟨W1,l,_,_,rfl,rfl,q4 _ _ w3,aa,by rw[θ];omega,?_⟩
   have t5:ak (bj H3 W1) (bj (upd (upd H3 l (.lst (dc wd ur))) W1 (.lst (v0++dc wd ur))) W1):=(bH q4).trans oM
   have t15:=t2.trans ((bH s3).trans t5)
   refine gD (12-(sz+1)) _ _ () ⟨_,sz+1,w0++dc wd r,v0++dc wd ur,rfl,s1.trans t15,aa,Reps.append (Ra.mono t15) ((xn ru).mono t5),kr sm0 (uo (by simp only[Dv.small,smalls,Ζ]at smx;exact smx.1.2)),?_,rfl,h',?_⟩
   ·rw[<-eq,es,ς,EL]
    constructor<;>intro z<;>omega
   ·have:=qk (α:=Dv) k1 k2
    rw[Η];omega
abbrev gI:Stmt:=top 19
abbrev dO:Stmt:=top 27
abbrev lc:Stmt:=top 28
abbrev uf:Stmt:=top 29
def ku(b:Int):Dv->Bool
 |.int i=>decide (0<=i)&&decide (i<b)
 |_=>false
def eW(b:Int):Dv->Bool
 |.tup ds=>decide (b<=(ds.length:Int))&&decide ((ds.length:Int)<=4)
 |_=>false
def bX(x:Str):Bool:=inV (.str x) (qM.map V.str)
def cp(x:Str):Bool:=WT.any λp=>decide (p.1=x)
def jx:Dv->Bool
 |.str x=>nmB x&&(!cp x && !bX x)
 |_=>false
def xT:Dv->Bool
 |.str x=>bX x
 |_=>false
def wQ:So->Dv->Bool
 |.n,d=>ku 1000000000000 d
 |.x,d=>bG d
 |.y,d=>bG d
 |.l,d=>slD d
 |.k,d=>decide (aK d<=12)
 |.w,d=>xT d
 |.f,d=>jx d
 |.a,d=>eW 0 d
 |.r,d=>eW 1 d
 |.e,_=>true
def vH:Sp:=λvs H Q _=>∃(v:V) (d:Dv) (b:Int),vs=[v,.int b]/\Rep H d v/\∀H',ak H H'->Q (.bl (ku b d)) H'
def vE:Sp:=λvs H Q _=>∃(v:V) (d:Dv) (b:Int),vs=[v,.int b]/\Rep H d v/\∀H',ak H H'->Q (.bl (eW b d)) H'
def xX:Sp:=λvs H Q _=>∃(s:So) (v:V) (d:Dv),vs=[.str (srt s),v]/\Rep H d v/\d.small=true/\∀H',ak H H'->Q (.bl (wQ s d)) H'
theorem rM:am ["thing","bound"] ["thing","bound"] (af gI):=by trivial
theorem qv{f:Addr}{fd:Θ}{k:Nat}(F:Fun K "is_below" "is_below" gI f fd)(T:Txt K mg)(Dis_whole:Def P w K mg base k "is_whole" ["thing"] (spD cb)):av P w K mg base CX0 (k+1) f fd ["thing","bound"] vH:=by
 refine F.ok rM (λvs H Q E h=>?_) (λcdv A outer s H vs Q E hr h=>?_)
 ·obtain⟨v,d,b,rfl,_⟩:=h
  rfl
 obtain⟨v,d,b,rfl,R,q⟩:=h
 refine⟨_,(@un _ _ _ (wbQ (wbK (wag (waq Dis_whole hr rfl (wae (wv 0 rfl) waf rfl) () rfl rfl) (waP (wao ir jk waC (wv 0 rfl) (wv 1 rfl) (by with_unfolding_all rfl))))))),?_⟩
 refine⟨_,rfl,v,d,rfl,R,λH1 s1=>⟨_,rfl,?_⟩⟩
 have qq:=q H1 s1
 cases d with
 |int i=>
  obtain rfl:v=.int i:=R
  refine ax ⟨_,rfl,_,_,rfl,rfl,_,rfl,?_⟩
  have qq':Q (.bl (decide (0<=i)&&decide (i<b))) H1:=qq
  by_cases h:0<=i
  ·rw[Q9 h]at qq'⊢
   exact ax ⟨_,rfl,_,_,rfl,rfl,qq'⟩
  ·rw[Q8 h]at qq'⊢
   exact aD qq'
 |_=>exact aD qq
theorem xq:am ["thing","least"] ["thing","least"] (af lc):=by trivial
theorem xa{f:Addr}{fd:Θ}(F:Fun K "is_few" "is_few" lc f fd)(T:Txt K mg):av P w K mg base CX0 1 f fd ["thing","least"] vE:=by
 refine F.ok xq (λvs H Q E h=>?_) (λcdv A outer s H vs Q E hr h=>?_)
 ·obtain⟨v,d,b,rfl,_⟩:=h
  rfl
 obtain⟨v,d,b,rfl,R,q⟩:=h
 refine⟨_,(@un _ _ _ (wbQ (wbK (wag (wal aY rfl T.isinstance () (wae (wv 0 rfl) (wae (wai (.ty "tuple") rfl T.tuple () rfl () ()) waf rfl) rfl) () () rfl rfl) (waP (wao ir ir (wv 1 rfl) (wal ar rfl T.len () (wae (wv 0 rfl) waf rfl) () () rfl rfl) ⟨T.g_MOST_THINGS rfl⟩ (by with_unfolding_all rfl))))))),?_⟩
 have qq:=q H (ak.refl H)
 refine⟨_,rfl,v,_,_,_,rfl,R.ty,cr K d,_,rfl,?_⟩
 cases d with
 |tup ds=>
  obtain⟨a,vs,rfl,ha,rs⟩:=Rep.tup_inv R
  have hl:=rs.length
  refine ax ⟨_,rfl,_,rfl,a,vs,rfl,.inr (SqT.of ha),_,_,rfl,rfl,_,rfl,?_⟩
  have qq':Q (.bl (decide (b<=(ds.length:Int))&&decide ((ds.length:Int)<=4))) H:=qq
  rw[<-hl]at qq'
  by_cases h:b<=(vs.length:Int)
  ·rw[Q9 h]at qq'⊢
   exact ax ⟨_,_,rfl,rfl,qq'⟩
  ·rw[Q8 h]at qq'⊢
   exact aD qq'
 |_=>exact aD qq
theorem jO:am ["thing"] ["thing"] (af dO):=by trivial
theorem lV{f gS gR:Addr}{fd:Θ}{k:Nat}(F:Fun K "is_def_name" "is_def_name" dO f fd)(T:Txt K mg)(S:Shp P w K gS)(GS:mg "SHAPES"=some (.ref gS))(GR:mg "RECKONS"=some (.ref gR))(hR:∀H,SqT K H gR (qM.map V.str))(Dis_name:Def P w K mg base k "is_name" ["thing"] (spS bG)):av P w K mg base CX0 (k+1) f fd ["thing"] (spS jx):=by
 refine F.ok jO (λvs H Q E h=>?_) (λcdv A outer s H vs Q E hr h=>?_)
 ·obtain⟨v,d,rfl,_⟩:=h
  rfl
 obtain⟨v,d,rfl,R,sm,q⟩:=h
 obtain⟨kvs,FS,_,hS⟩:=S.ex
 refine⟨_,(@un _ _ _ (wbQ (wbK (wag (waq Dis_name hr rfl (wae (wv 0 rfl) waf rfl) () rfl rfl) (wag (wap (mR FS) (wv 0 rfl) (waB (.ref gS) rfl GS rfl ()) (by with_unfolding_all rfl)) (waP (wap ij (wv 0 rfl) (waB (.ref gR) rfl GR rfl ()) (by with_unfolding_all rfl)))))))),?_⟩
 refine⟨_,rfl,v,d,rfl,R,sm,λH1 s1=>⟨_,rfl,?_⟩⟩
 have qq:=q H1 s1
 cases d with
 |str x=>
  obtain rfl:v=.str x:=R
  have qq':Q (.bl (nmB x&&(!cp x && !bX x))) H1:=qq
  show if nmB x=true then _ else _
  cases hn:nmB x with
  |false=>rw[hn]at qq';exact aD qq'
  |true=>
   rw[hn]at qq'
   refine ax ⟨_,rfl,x,rfl,rfl,_,rfl,?_⟩
   rw[hS x]
   show if xor true (cp x)=true then _ else _
   cases hw:cp x with
   |true=>rw[hw]at qq';exact aD qq'
   |false=>
    rw[hw]at qq'
    exact ax ⟨_,rfl,gR,_,rfl,.inr (hR _),rfl,(),qq'⟩
 |_=>exact aD qq
theorem zX:am ["sort","thing"] ["sort","thing"] (af uf):=by trivial
theorem Af{f gR:Addr}{fd:Θ}{k:Nat}(F:Fun K "fits" "fits" uf f fd)(T:Txt K mg)(GR:mg "RECKONS"=some (.ref gR))(hR:∀H,SqT K H gR (qM.map V.str))(Dis_below:Def P w K mg base k "is_below" ["thing","bound"] vH)(Dis_name:Def P w K mg base k "is_name" ["thing"] (spS bG))(Dis_small_length:Def P w K mg base k "is_small_length" ["thing"] (spS slD))(Dis_kind:Def P w K mg base k "is_kind" ["thing"] jL)(Dis_def_name:Def P w K mg base k "is_def_name" ["thing"] (spS jx))(Dis_few:Def P w K mg base k "is_few" ["thing","least"] vE):av P w K mg base CX0 (k+1) f fd ["sort","thing"] xX:=by
 refine F.ok zX (λvs H Q E h=>?_) (λcdv A outer s H vs Q E hr h=>?_)
 ·obtain⟨s,v,d,rfl,_⟩:=h
  rfl
 obtain⟨so,v,d,rfl,R,sm,q⟩:=h
 refine⟨_,(@un _ _ _ (wbO (wbI (wbS aw (wv 0 rfl) waV (ai _)) (wbQ (wbK (waq Dis_below hr rfl (wae (wv 1 rfl) (wae ⟨T.g_WHOLE_BOUND rfl⟩ waf rfl) rfl) () rfl rfl))) wbP) (wbO (wbI (wbS aw (wv 0 rfl) waV (ai _)) (wbQ (wbK (waq Dis_name hr rfl (wae (wv 1 rfl) waf rfl) () rfl rfl))) wbP) (wbO (wbI (wbS aw (wv 0 rfl) waV (ai _)) (wbQ (wbK (waq Dis_small_length hr rfl (wae (wv 1 rfl) waf rfl) () rfl rfl))) wbP) (wbO (wbI (wbS aw (wv 0 rfl) waV (ai _)) (wbQ (wbK (waq Dis_kind hr rfl (wae (wv 1 rfl) waf rfl) () rfl rfl))) wbP) (wbO (wbI (wbS aw (wv 0 rfl) waV (ai _)) (wbQ (wbK (wag (wal aY rfl T.isinstance () (wae (wv 1 rfl) (wae (wai (.ty "str") rfl T.str () rfl () ()) waf rfl) rfl) () () rfl rfl) (waP (wap ni (wv 1 rfl) (waB (.ref gR) rfl GR rfl ()) (by with_unfolding_all rfl)))))) wbP) (wbO (wbI (wbS aw (wv 0 rfl) waV (ai _)) (wbQ (wbK (waq Dis_def_name hr rfl (wae (wv 1 rfl) waf rfl) () rfl rfl))) wbP) (wbO (wbI (wbS aw (wv 0 rfl) waV (ai _)) (wbQ (wbK (waq Dis_few hr rfl (wae (wv 1 rfl) (wae waC waf rfl) rfl) () rfl rfl))) wbP) (wbO (wbI (wbS aw (wv 0 rfl) waV (ai _)) (wbQ (wbK (waq Dis_few hr rfl (wae (wv 1 rfl) (wae waC waf rfl) rfl) () rfl rfl))) wbP) (wbQ (wbK wah))))))))))),?_⟩
 refine⟨_,rfl,rfl,_,rfl,ap (λh=>?_) (λh1=>?_)⟩
 ·have e:=(Bl so).mp (Q7 h)
  subst e
  exact⟨_,rfl,v,d,_,rfl,R,q⟩
 refine⟨_,rfl,rfl,_,rfl,ap (λh=>?_) (λh2=>?_)⟩
 ·rcases(qG so).mp (Q7 h)with e|e
  ·subst e;exact⟨_,rfl,v,d,rfl,R,sm,q⟩
  ·subst e;exact⟨_,rfl,v,d,rfl,R,sm,q⟩
 refine⟨_,rfl,rfl,_,rfl,ap (λh=>?_) (λh3=>?_)⟩
 ·have e:=(mM so).mp (Q7 h)
  subst e
  exact⟨_,rfl,v,d,rfl,R,sm,q⟩
 refine⟨_,rfl,rfl,_,rfl,ap (λh=>?_) (λh4=>?_)⟩
 ·have e:=(mJ so).mp (Q7 h)
  subst e
  exact⟨_,rfl,v,d,rfl,R,sm,q⟩
 refine⟨_,rfl,rfl,_,rfl,ap (λh=>?_) (λh5=>?_)⟩
 ·have e:=(AT so).mp (Q7 h)
  subst e
  refine⟨_,rfl,v,_,_,_,rfl,R.ty,ga K d,_,rfl,?_⟩
  have qq:=q H (ak.refl H)
  cases d with
  |str x=>
   obtain rfl:v=.str x:=R
   exact ax ⟨_,rfl,gR,_,rfl,.inr (hR _),rfl,(),qq⟩
  |_=>exact aD qq
 refine⟨_,rfl,rfl,_,rfl,ap (λh=>?_) (λh6=>?_)⟩
 ·have e:=(Bk so).mp (Q7 h)
  subst e
  exact⟨_,rfl,v,d,rfl,R,sm,q⟩
 refine⟨_,rfl,rfl,_,rfl,ap (λh=>?_) (λh7=>?_)⟩
 ·have e:=(rh so).mp (Q7 h)
  subst e
  exact⟨_,rfl,v,d,_,rfl,R,q⟩
 refine⟨_,rfl,rfl,_,rfl,ap (λh=>?_) (λh8=>?_)⟩
 ·have e:=(rC so).mp (Q7 h)
  subst e
  exact⟨_,rfl,v,d,_,rfl,R,q⟩
 have e:so=.e:=by
  cases so with
  |e=>rfl
  |n=>exact absurd (Q9 ((Bl .n).mpr rfl)) h1
  |x=>exact absurd (Q9 ((qG .x).mpr (.inl rfl))) h2
  |y=>exact absurd (Q9 ((qG .y).mpr (.inr rfl))) h2
  |l=>exact absurd (Q9 ((mM .l).mpr rfl)) h3
  |k=>exact absurd (Q9 ((mJ .k).mpr rfl)) h4
  |w=>exact absurd (Q9 ((AT .w).mpr rfl)) h5
  |f=>exact absurd (Q9 ((Bk .f).mpr rfl)) h6
  |a=>exact absurd (Q9 ((rh .a).mpr rfl)) h7
  |r=>exact absurd (Q9 ((rC .r).mpr rfl)) h8
 subst e
 exact q H (ak.refl H)
abbrev iL:Stmt:=top 30
abbrev gG:Stmt:=top 31
def vW:Sp:=λvs H Q _=>∃(v:V) (d:Dv) (G:Hp),vs=[v]/\ak G H/\Rep G d v/\Cc d/\∀(H':Hp)(l:Addr)(us:List V),ak H H'->H l=none->H' l=some (.lst us)->Reps G (dh d) us->Q (.ref l) H'
def okF:List So->List Dv->Bool
 |[],[]=>true
 |s::ss,d::ds=>wQ s d&&okF ss ds
 |_,_=>false
def kT:List Dv->Bool
 |.str x::_::.str y::_=>decide (x≠y)
 |_=>false
def fD:Dv->Bool
 |.tup (.str w::ds)=>match WT.find? (λq=>decide (q.1=w))with
  |some p=>okF p.2.2 ds&&(decide (w≠"fold")||kT ds)
  |none=>false
 |_=>false
theorem wM{d:Dv}(h:fW d=false):fD d=false:=by
 match d,h with
 |.tup (.str x::r),h=>cases h
 |.tup [],_=>rfl
 |.tup (.non::r),_=>rfl
 |.tup (.bl _::r),_=>rfl
 |.tup (.int _::r),_=>rfl
 |.tup (.tup _::r),_=>rfl
 |.tup (.lst _::r),_=>rfl
 |.tup (.dct::r),_=>rfl
 |.non,_=>rfl
 |.bl _,_=>rfl
 |.int _,_=>rfl
 |.str _,_=>rfl
 |.lst _,_=>rfl
 |.dct,_=>rfl
theorem vX{x:Str}{ds:List Dv}(h:cp x=false):fD (.tup (.str x::ds))=false:=by
 have e:WT.find? (λq=>decide (q.1=x))=none:=by
  rw[FC]
  intro p hp
  have:=FW.mp h p hp
  exact this
 show(match WT.find? (λq=>decide (q.1=x))with|some p'=>okF p'.2.2 ds&&(decide (x≠"fold")||kT ds)|none=>false)=_
 rw[e]
theorem px{x:Str}(h:cp x=true):∃p∈WT,p.1=x:=by
 obtain⟨p,hp,e⟩:=f_.mp h
 exact⟨p,hp,Q7 e⟩
theorem cy{p:Wd}(hp:p∈WT)(ds:List Dv):fD (.tup (.str p.1::ds))=(okF p.2.2 ds&&(decide (p.1≠"fold")||kT ds)):=by
 show(match WT.find? (λq=>decide (q.1=p.1))with|some p'=>okF p'.2.2 ds&&(decide (p.1≠"fold")||kT ds)|none=>false)=_
 rw[wb AR hp]
theorem uQ:∀{ss:List So}{ds:List Dv},okF ss ds=true->ds.length=ss.length
 |[],[],_=>rfl
 |s::ss,d::ds,h=>by
  simp only[okF,Ζ]at h
  rw[Γ,Γ,uQ h.2]
 |[],_::_,h=>by cases h
 |_::_,[],h=>by cases h
theorem yL{ss:List So}{ds:List Dv}{i:Nat}{s:So}{d:Dv}(hs:ss[i]?=some s)(hd:ds[i]?=some d):okF (ss.drop i) (ds.drop i)=(wQ s d&&okF (ss.drop (i+1)) (ds.drop (i+1))):=by
 obtain⟨h1,rfl⟩:=ψ.mp hs
 obtain⟨h2,rfl⟩:=ψ.mp hd
 rw[u6 h1,u6 h2]
 rfl
theorem vI{b:Int}{d:Dv}(h:eW b d=true):∃es,d=.tup es/\b<=(es.length:Int)/\es.length<=4:=by
 cases d with
 |tup es=>
  simp only[eW,Ζ,decide_eq_true_eq]at h
  exact⟨es,rfl,h.1,()⟩
 |_=>cases h
theorem yy:∀{ss:List So}{ds:List Dv},okF ss ds=true->F2 (Fld (λ_=>True) (λ_ _=>True)) ss ds
 |[],[],_=>.nil
 |s::ss,d::ds,h=>by
  simp only[okF,Ζ]at h
  refine .cons ?_ (yy h.2)
  cases s with
  |a=>obtain⟨es,rfl,_,h4⟩:=vI (b:=0) h.1;exact⟨es,rfl,h4,λ_ _=>trivial⟩
  |r=>obtain⟨es,rfl,h1,h4⟩:=vI (b:=1) h.1;exact⟨es,rfl,(),h4,λ_ _=>trivial⟩
  |e=>trivial
  |_=>trivial
 |[],_::_,h=>by cases h
 |_::_,[],h=>by cases h
theorem xo{d:Dv}(h:fD d=true):Cc d:=by
 match d,h with
 |.tup (.str x::ds),h=>
  cases hw:cp x with
  |false=>rw[vX hw]at h;cases h
  |true=>
   obtain⟨p,hp,rfl⟩:=px hw
   rw[cy hp,Ζ]at h
   exact⟨p,ds,hp,rfl,yy h.1⟩
 |.tup [],h=>cases h
 |.tup (.non::r),h=>cases h
 |.tup (.bl _::r),h=>cases h
 |.tup (.int _::r),h=>cases h
 |.tup (.tup _::r),h=>cases h
 |.tup (.lst _::r),h=>cases h
 |.tup (.dct::r),h=>cases h
 |.non,h=>cases h
 |.bl _,h=>cases h
 |.int _,h=>cases h
 |.str _,h=>cases h
 |.lst _,h=>cases h
 |.dct,h=>cases h
theorem EH{ds:List Dv}(h:ds.length=5):∃a b c d e,ds=[a,b,c,d,e]:=by
 match ds,h with
 |[a,b,c,d,e],_=>exact⟨a,b,c,d,e,rfl⟩
theorem uK:∀p∈WT,p.1="fold"->p.2.2=[.x,.l,.y,.e,.e]:=by decide +kernel
theorem qw{d:Dv}(h:bG d=true):∃x,d=.str x:=by
 cases d with
 |str x=>exact⟨x,rfl⟩
 |_=>cases h
theorem ju:am ["node","parts","sort","given"] ["node"] (af gG):=by trivial
theorem rK{f gS:Addr}{fd:Θ}(F:Fun K "parts_of" "parts_of" gG f fd)(T:Txt K mg)(S:Shp P w K gS)(GS:mg "SHAPES"=some (.ref gS)):av P w K mg base CX0 1 f fd ["node"] vW:=by
 have nd:=ju.nd
 refine F.ok ju (λvs H Q E h=>?_) (λcdv A outer s H vs Q E hr h=>?_)
 ·obtain⟨v,d,G,rfl,_⟩:=h
  rfl
 obtain⟨v,d,G,rfl,sG,R,⟨p,ds,hp,rfl,hf⟩,q⟩:=h
 obtain⟨kvs,FS,hS,_⟩:=S.ex
 obtain⟨a,vs,rfl,haG,rs⟩:=Rep.tup_inv R
 obtain⟨v0,ws,rfl,R0,rw'⟩:=bF rs
 have ha:=sG _ _ haG
 obtain rfl:v0=.str p.1:=R0
 obtain⟨b,hb,hbT⟩:=hS p hp
 have lds:=hf.length
 have lws:=rw'.length
 have h5:=cW p hp
 refine⟨_,(@un _ _ _ (wbO (wbM 1 nd rfl (υ rfl) (waM waf) rfl ()) (wbO (wbH Ϯ rfl (wbs rfl T.zip (wae (wbu FS (waB (.ref gS) rfl GS rfl ()) (waD aj (wv 0 rfl) waC (λ_ _=>rfl)) (λ_ _=>rfl)) (wae (waT gi (wv 0 rfl) (wbA waC) wbz) waf rfl) rfl) rfl rfl) (wbb rfl (wbd (waZ 2 nd rfl (υ rfl) ()) (wbd (waZ 3 nd rfl (υ rfl) ()) wbe rfl) rfl) rfl rfl) (wbO (wbI (wbS aw (wv 2 rfl) waV (ai _)) (wbQ (wbG (waj Φ ϐ ϑ aZ (wv 1 rfl) (wae (wv 3 rfl) waf rfl) rfl rfl rfl rfl rfl) rfl)) wbP) (wbQ (wbI (wab (wbY (wbS aw (wv 2 rfl) waV (ai _)) (wbZ (wbS aw (wv 2 rfl) waV (ai _))))) (wbQ (wbG (waj Φ D_ EI Aj (wv 1 rfl) (wae (wv 3 rfl) waf rfl) rfl rfl rfl rfl rfl) rfl)) wbP))) ()) (wbQ (wbK (wv 1 rfl)))))),?_⟩
 dsimp only[bi,Cx.nox]
 refine⟨ϊ _,λl hl=>?_⟩
 have q1:=ac hl (.lst [])
 have l1:upd H l (.lst []) l=some (.lst []):=aa
 generalize upd H l (.lst [])=H1 at q1 l1⊢
 refine gnm ?_
 dsimp only
 refine⟨_,rfl,a,_,0,.str p.1,rfl,rfl,SqT.of (q1 _ _ ha),ae (j:=0) rfl,p.1,b,rfl,rfl,hb,?_⟩
 refine⟨_,rfl,1,rfl,?_⟩
 dsimp only[bz]
 refine gc (q1 _ _ ha) λH2 t s2 ht=>?_
 have ec:bU (V.str p.1::ws) (some 1) none=ws:=bW (V.str p.1::ws) 1
 rw[ec]at ht
 have s02:=q1.trans s2
 have l2:=s2 _ _ l1
 refine⟨b,t,rfl,⟨_,hbT _⟩,⟨_,SqT.of ht⟩,js (D:={nx:=Cd (lG 1) {nx:=λx H'=>Q V.non H',rt:=Q},rt:=Q}) (xs:=p.2.2.map λs=>V.str (srt s)) (ys:=ws) (λi σ H'=>∃(o2 o3:Option V) (us:List V),σ=[some (.ref a),some (.ref l),o2,o3]/\ak H H'/\H' t=some (.tup ws)/\H' l=some (.lst us)/\Reps G (bn (p.2.2.take i) (ds.take i)) us/\us.length<=4*i) ⟨_,_,[],rfl,s02,ht,l2,by simp[bn,Reps],π _⟩ (λi σ H' ⟨_,_,_,_,_,h,_⟩=>⟨hbT _,SqT.of h⟩) ?T1 ?_⟩
 case T1=>
  rintro i x y σ H3 t3 D1 gR gD hx hy ⟨o2,o3,us,rfl,s3,ht3,l3,R3,lu⟩ hp3
  rw[Ν]at hx
  obtain⟨so,hso,rfl⟩:=ϖ.mp hx
  have hi:i<p.2.2.length:=(ψ.mp hso).1
  obtain⟨d,hd,hfd⟩:=hf.get hso
  obtain⟨y',hy',Ry⟩:=xb rw' hd
  rw[hy]at hy'
  cases hy'
  have q4:=ac hp3 (.tup [.str (srt so),y])
  have ht4:upd H3 t3 (.tup [.str (srt so),y]) t3=some (.tup [.str (srt so),y]):=aa
  have s4:=s3.trans q4
  have l4:=q4 _ _ l3
  have t4:=q4 _ _ ht3
  generalize upd H3 t3 (.tup [.str (srt so),y])=H4 at ht4 s4 l4 t4⊢
  refine⟨t3,_,rfl,SqT.of ht4,rfl,_,_,rfl,_,_,rfl,rfl,?_⟩
  have put:∀(us':List V),Reps G (ptD so d) us'->us'.length<=4->(∃(o2 o3:Option V) (us2:List V),[some (V.ref a),some (.ref l),some (.str (srt so)),some y]=[some (.ref a),some (.ref l),o2,o3]/\ak H (upd H4 l (.lst (us++us')))/\upd H4 l (.lst (us++us')) t=some (.tup ws)/\upd H4 l (.lst (us++us')) l=some (.lst us2)/\Reps G (bn (p.2.2.take (i+1)) (ds.take (i+1))) us2/\us2.length<=4*(i+1)):=λus' Ru lu'=>by
   refine⟨_,_,us++us',rfl,λg o e=>?_,?_,aa,?_,by rw[Η];omega⟩
   ·rw[ao (ah e hl)];exact s4 g o e
   ·rw[ao (λe=>by rw[e,l4]at t4;cases t4)];exact t4
   ·rw[mE _ _ _ hso hd]
    exact Reps.append R3 Ru
  have same:ptD so d=[]->(∃(o2 o3:Option V) (us2:List V),[some (V.ref a),some (.ref l),some (.str (srt so)),some y]=[some (.ref a),some (.ref l),o2,o3]/\ak H H4/\H4 t=some (.tup ws)/\H4 l=some (.lst us2)/\Reps G (bn (p.2.2.take (i+1)) (ds.take (i+1))) us2/\us2.length<=4*(i+1)):=λe=>by
   refine⟨_,_,us,rfl,s4,t4,l4,?_,()⟩
   rw[mE _ _ _ hso hd,e,ϡ]
   exact R3
  replace put:=λus' h1 h2=>gD _ _ (put us' h1 h2)
  replace same:=λe=>gD _ _ (same e)
  refine⟨_,rfl,rfl,_,rfl,ap (λh=>?_) (λh=>?_)⟩
  ·have e:=(vj so).mp (Q7 h)
   subst e
   refine⟨_,rfl,.inl ⟨rfl,_,SqL.of l4⟩,_,rfl,l,_,_,rfl,rfl,l4,by rw[θ];omega,?_⟩
   have fin:=put [y] (aQ Ry) (by show 1<=4;decide)
   refine⟨_,rfl,rfl,_,rfl,ap (λh2=>absurd ((rh .e).mp (Q7 h2)) ()) (λ_=>⟨_,rfl,rfl,_,rfl,?_⟩)⟩
   rw[show decide (V.str (srt .e)=V.str "things")=false from Q8 λh2=>absurd ((rC .e).mp h2) ()]
   exact aD fin
  ·have ne:so≠.e:=λe=>h (Q9 ((vj so).mpr e))
   by_cases har:so=.a\/so=.r
   ·obtain⟨es,rfl,l4e⟩:∃es,d=.tup es/\es.length<=4:=by
     rcases har with e|e
     ·subst e;obtain⟨es,h1,h2,_⟩:=hfd;exact⟨es,h1,h2⟩
     ·subst e;obtain⟨es,h1,_,h2,_⟩:=hfd;exact⟨es,h1,h2⟩
    have ek:ptD so (.tup es)=es:=by rcases har with e|e<;>subst e<;>rfl
    obtain⟨b2,zs,rfl,hb2,rz⟩:=Rep.tup_inv Ry
    have lz:=rz.length
    refine tnx ?_
    dsimp only
    refine Cb (ax ?_) λqT=>?_
    ·refine⟨_,rfl,.inl ⟨rfl,_,SqL.of l4⟩,_,rfl,l,b2,_,zs,rfl,rfl,l4,SqT.of (s4 _ _ (sG _ _ hb2)),by rw[θ];omega,put zs (by rw[ek];exact rz) ()⟩
    ·rcases har with e|e
     ·exact⟨_,rfl,rfl,_,rfl,ap (λ_=>qT) (λh2=>absurd (Q9 ((rh so).mpr e)) h2)⟩
     ·refine⟨_,rfl,rfl,_,rfl,ap (λ_=>qT) (λ_=>⟨_,rfl,rfl,_,rfl,?_⟩)⟩
      rw[Q9 ((rC so).mpr e)]
      exact qT
   ·have na:so≠.a:=λe=>har (.inl e)
    have nr:so≠.r:=λe=>har (.inr e)
    refine tnx ⟨_,rfl,rfl,_,rfl,ap (λh2=>absurd ((rh so).mp (Q7 h2)) na) (λ_=>⟨_,rfl,rfl,_,rfl,?_⟩)⟩
    rw[show decide (V.str (srt so)=V.str "things")=false from Q8 λh2=>nr ((rC so).mp h2)]
    refine aD (same ?_)
    cases so with
    |e=>exact absurd rfl ne
    |a=>exact absurd rfl na
    |r=>exact absurd rfl nr
    |_=>rfl
 rintro σ H3 ⟨o2,o3,us,rfl,s3,ht3,l3,R3,lu⟩
 refine⟨_,rfl,q H3 l us s3 hl l3 ?_⟩
 rw[δ,Fh (),ϒ,<-lds,ϒ]at R3
 rw[parts_of hp]
 exact R3
theorem jV:am ["thing","shape","sort","given"] ["thing"] (af iL):=by trivial
theorem tJ{f gS:Addr}{fd:Θ}{k:Nat}(F:Fun K "is_node" "is_node" iL f fd)(T:Txt K mg)(S:Shp P w K gS)(GS:mg "SHAPES"=some (.ref gS))(Dhas_word:Def P w K mg base k "has_word" ["thing"] (spD fW))(Dfits:Def P w K mg base k "fits" ["sort","thing"] xX):av P w K mg base CX0 (k+1) f fd ["thing"] (spS fD):=by
 have nd:=jV.nd
 refine F.ok jV (λvs H Q E h=>?_) (λcdv A outer s H vs Q E hr h=>?_)
 ·obtain⟨v,d,rfl,_⟩:=h
  rfl
 obtain⟨v,d,rfl,R,hsm,q⟩:=h
 obtain⟨kvs,FS,hS,hS2⟩:=S.ex
 refine⟨_,(@un _ _ _ (wbO (wbI (wab (wbY (wbT (wbV (waq Dhas_word hr rfl (wae (wv 0 rfl) waf rfl) () rfl rfl) ())) (wbZ (wbS (mR FS) (waD aj (wv 0 rfl) waC (λ_ _=>rfl)) (waB (.ref gS) rfl GS rfl ()) (by with_unfolding_all rfl))))) (wbQ (wbK wah)) wbP) (wbO (wbM 1 nd rfl (υ rfl) (wbu FS (waB (.ref gS) rfl GS rfl ()) (waD aj (wv 0 rfl) waC (λ_ _=>rfl)) (λ_ _=>rfl)) rfl ()) (wbO (wbI (wbS eT (wal ar rfl T.len () (wae (wv 0 rfl) waf rfl) () () rfl rfl) (waQ bO (wal ar rfl T.len () (wae (wv 1 rfl) waf rfl) () () rfl rfl) waC) (ai _)) (wbQ (wbK wah)) wbP) (wbO (wbH Ϯ rfl (wbs rfl T.zip (wae (wv 1 rfl) (wae (waT gi (wv 0 rfl) (wbA waC) wbz) waf rfl) rfl) rfl rfl) (wbb rfl (wbd (waZ 2 nd rfl (υ rfl) ()) (wbd (waZ 3 nd rfl (υ rfl) ()) wbe rfl) rfl) rfl rfl) (wbQ (wbI (wbT (wbV (waq Dfits hr rfl (wae (wv 2 rfl) (wae (wv 3 rfl) waf rfl) rfl) () rfl rfl) ())) (wbQ (wbK wah)) wbP)) ()) (wbQ (wbK (waR (wap eT (waD aj (wv 0 rfl) waC (λ_ _=>rfl)) waV (ai _)) (waP (wap eT (waD aj (wv 0 rfl) waC (λ_ _=>rfl)) (waD aj (wv 0 rfl) waC (λ_ _=>rfl)) (ai _))))))))))),?_⟩
 dsimp only[bi,Cx.nox]
 refine⟨_,rfl,v,d,rfl,R,λH1 s1=>⟨_,rfl,?_⟩⟩
 cases c0:fW d with
 |false=>
  refine ax (ax ?_)
  have:=q H1 s1
  rwa[wM c0]at this
 |true=>
  refine aD ?_
  obtain⟨x,ds,rfl⟩:=gJ c0
  obtain⟨a,vs,rfl,ha,rs⟩:=Rep.tup_inv (R.mono s1)
  obtain⟨y,ws,rfl,R0,ru⟩:=bF rs
  obtain rfl:y=.str x:=R0
  have lws:=ru.length
  have hds:smalls ds=true:=by
   simp only[Dv.small,smalls,Ζ]at hsm
   exact hsm.1.2
  refine⟨_,rfl,a,_,0,.str x,rfl,rfl,SqT.of ha,ae (j:=0) rfl,x,rfl,rfl,_,rfl,?_⟩
  rw[hS2 x]
  show if xor true (cp x)=true then _ else _
  cases hw:cp x with
  |false=>
   refine ax ?_
   have:=q H1 s1
   rwa[vX hw]at this
  |true=>
   refine aD ?_
   obtain⟨p,hp,rfl⟩:=px hw
   obtain⟨b,hb,hbT⟩:=hS p hp
   have h5:=cW p hp
   refine⟨_,rfl,a,_,0,.str p.1,rfl,rfl,SqT.of ha,ae (j:=0) rfl,p.1,b,rfl,rfl,hb,?_⟩
   refine⟨_,rfl,a,_,rfl,.inr (SqT.of ha),_,rfl,b,_,rfl,.inr (hbT _),_,_,rfl,rfl,rfl,_,rfl,?_⟩
   by_cases hl:ds.length=p.2.2.length
   ·rw[show(!decide (V.int (((V.str p.1::ws).length:Nat):Int)=V.int ((((p.2.2.map λs=>V.str (srt s)).length:Nat):Int)+1)))=false by
     rw[Γ,lws,hl,δ,show((p.2.2.length+1:Nat):Int)=(p.2.2.length:Int)+1 by omega,Q9 rfl];rfl]
    refine aD ?_
    refine⟨_,rfl,_,rfl,1,rfl,?_⟩
    dsimp only[bz]
    refine gc ha λH2 t s2 ht=>?_
    have ec:bU (V.str p.1::ws) (some 1) none=ws:=bW (V.str p.1::ws) 1
    rw[ec]at ht
    have s02:=s1.trans s2
    refine⟨b,t,rfl,⟨_,hbT _⟩,⟨_,SqT.of ht⟩,js (D:={nx:=Cd (DU (tOp rNe (tOp (yl K) (lG 0) (tC (V.int 0))) (tC (V.str (γ "fold")))) (tOp rNe (tOp (yl K) (lG 0) (tC (V.int 1))) (tOp (yl K) (lG 0) (tC (V.int 3))))) {nx:=λx H'=>Q V.non H',rt:=Q},rt:=Q}) (xs:=p.2.2.map λs=>V.str (srt s)) (ys:=ws) (λi σ H'=>∃(o2 o3:Option V),σ=[some (.ref a),some (.ref b),o2,o3]/\ak H2 H'/\okF p.2.2 ds=okF (p.2.2.drop i) (ds.drop i)) ⟨_,_,rfl,ak.refl _,rfl⟩ (λi σ H' ⟨_,_,_,h,_⟩=>⟨hbT _,SqT.of (h _ _ ht)⟩) ?T1 ?_⟩
    case T1=>
     rintro i x y σ H3 t3 D1 gR gD hx hy ⟨o2,o3,rfl,s3,ok3⟩ hp3
     rw[Ν]at hx
     obtain⟨so,hso,rfl⟩:=ϖ.mp hx
     obtain⟨d,hd,Ry⟩:=ru.get hy
     have q4:=ac hp3 (.tup [.str (srt so),y])
     have ht4:upd H3 t3 (.tup [.str (srt so),y]) t3=some (.tup [.str (srt so),y]):=aa
     have s4:=s2.trans (s3.trans q4)
     have s24:=s3.trans q4
     generalize upd H3 t3 (.tup [.str (srt so),y])=H4 at ht4 s4 s24⊢
     refine⟨t3,_,rfl,SqT.of ht4,rfl,_,_,rfl,_,_,rfl,rfl,?_⟩
     refine⟨_,rfl,_,rfl,so,y,d,rfl,Ry.mono s4,dg hds hd,λH5 s5=>⟨_,rfl,?_⟩⟩
     rw[yL hso hd]at ok3
     cases hfit:wQ so d with
     |false=>
      refine ax ?_
      have:=q H5 (s1.trans (s4.trans s5))
      rw[cy hp,ok3,hfit]at this
      exact gR _ _ this
     |true=>
      refine aD (gD _ _ ⟨_,_,rfl,s24.trans s5,?_⟩)
      rw[ok3,hfit,ϧ]
    rintro σ H3 ⟨o2,o3,rfl,s3,ok3⟩
    have okk:okF p.2.2 ds=true:=by
     rw[ok3,δ,Fh (),Ga,<-hl,Ga]
     rfl
    have s23:=s2.trans s3
    have qq:=q H3 (s1.trans s23)
    rw[cy hp,okk,ϧ]at qq
    refine⟨_,rfl,a,_,0,.str p.1,rfl,rfl,SqT.of (s23 _ _ ha),ae (j:=0) rfl,rfl,_,rfl,?_⟩
    show if (!decide (V.str p.1=V.str "fold"))=true then _ else _
    rw[cH]
    by_cases hf:p.1="fold"
    ·rw[Q9 hf]
     refine aD ?_
     have hss:=uK p hp hf
     rw[hss]at okk
     have l5:ds.length=5:=by rw[hl,hss];rfl
     obtain⟨d1,d2,d3,d4,d5,rfl⟩:=EH l5
     ·simp only[okF,wQ,Ζ]at okk
      obtain⟨x1,rfl⟩:=qw okk.1
      obtain⟨x3,rfl⟩:=qw okk.2.2.1
      obtain⟨u1,r1,rfl,R1,ru⟩:=bF ru
      obtain⟨u2,r2,rfl,R2,ru⟩:=bF ru
      obtain⟨u3,r3,rfl,R3,ru⟩:=bF ru
      obtain rfl:u1=.str x1:=R1
      obtain rfl:u3=.str x3:=R3
      refine⟨_,rfl,a,_,1,.str x1,rfl,rfl,SqT.of (s23 _ _ ha),ae (j:=1) rfl,_,rfl,a,_,3,.str x3,rfl,rfl,SqT.of (s23 _ _ ha),ae (j:=3) rfl,rfl,?_⟩
      show Q (.bl (!decide (V.str x1=V.str x3))) H3
      rw[cH]
      rw[show decide (p.1≠"fold")=false from Q8 (λz=>z hf),F4]at qq
      have e:kT [.str x1,d2,.str x3,d4,d5]=!decide (x1=x3):=by
       show decide (x1≠x3)=_
       by_cases h:x1=x3
       ·rw[Q9 h,Q8 (λz=>z h)];rfl
       ·rw[Q8 h,Q9 h];rfl
      rw[e]at qq
      exact qq
    ·rw[Q8 hf]
     refine ax ?_
     rw[Q9 hf,Bool.true_or]at qq
     exact qq
   ·rw[show(!decide (V.int (((V.str p.1::ws).length:Nat):Int)=V.int ((((p.2.2.map λs=>V.str (srt s)).length:Nat):Int)+1)))=true by
     rw[Q8 λz=>hl (by injection z with z;rw[Γ,lws,δ]at z;omega)];rfl]
    refine ax ?_
    have:=q H1 s1
    rw[cy hp]at this
    cases ho:okF p.2.2 ds with
    |true=>exact absurd (uQ ho) hl
    |false=>rw[ho]at this;exact this
abbrev iz:Stmt:=top 32
def exN:Nat->Dv->Nat
 |0,_=>99
 |n+1,d=>if fD d=true then 1+((dh d).map (exN n)).sum else 99
def qo:Sp:=spS λd=>decide (exN 8 d<=40)
theorem vJ(n:Nat)(d:Dv):1<=exN n d:=by
 cases n with
 |zero=>show 1<=99;decide
 |succ n=>unfold exN;split<;>omega
def prD(p:Dv×Nat):Dv:=.tup [p.1,.int p.2]
def md(ws:List (Dv×Nat)):Nat:=(ws.map λp=>exN (8-p.2) p.1).sum
theorem rX(xs ys:List (Dv×Nat)):md (xs++ys)=md xs+md ys:=by unfold md;rw[ς,EL]
theorem sQ{ds:List Dv}(h:smalls ds=true):∀d∈ds,d.small=true:=by
 induction ds with
 |nil=>intro d hd;cases hd
 |cons x ds ih=>
  simp only[smalls,Ζ]at h
  intro d hd
  rcases ν.mp hd with rfl|hd
  ·exact h.1
  ·exact ih h.2 d hd
theorem dz{ds:List Dv}(h:(Dv.tup ds).small=true):∀d∈ds,d.small=true:=by
 simp only[Dv.small,Ζ]at h
 exact sQ h.1
theorem je{d:Dv}(h:d.small=true):∀e∈xy d,e.small=true:=by
 cases d with
 |tup ds=>exact dz h
 |_=>intro e he;cases he
theorem nq:∀(ss:List So)(ds:List Dv),(∀d∈ds,d.small=true)->∀e∈bn ss ds,e.small=true
 |[],_,_,e,he=>by simp[bn]at he
 |_::_,[],_,e,he=>by simp[bn]at he
 |s::ss,d::ds,h,e,he=>by
  rcases Τ.mp (show e∈ptD s d++bn ss ds from he)with h1|h1
  ·cases s with
   |e=>rw[ξ.mp h1];exact h d ο
   |a=>exact je (h d ο) e h1
   |r=>exact je (h d ο) e h1
   |_=>cases h1
  ·exact nq ss ds (λx hx=>h x (Ε _ hx)) e h1
theorem qU{d:Dv}(h:d.small=true):∀e∈dh d,e.small=true:=by
 match d,h with
 |.tup (.str w::ds),h=>exact nq _ ds λx hx=>dz h x (Ε _ hx)
 |.tup [],_=>intro e he;cases he
 |.tup (.non::r),_=>intro e he;cases he
 |.tup (.bl _::r),_=>intro e he;cases he
 |.tup (.int _::r),_=>intro e he;cases he
 |.tup (.tup _::r),_=>intro e he;cases he
 |.tup (.lst _::r),_=>intro e he;cases he
 |.tup (.dct::r),_=>intro e he;cases he
 |.non,_=>intro e he;cases he
 |.bl _,_=>intro e he;cases he
 |.int _,_=>intro e he;cases he
 |.str _,_=>intro e he;cases he
 |.lst _,_=>intro e he;cases he
 |.dct,_=>intro e he;cases he
theorem qD{d:Dv}(h:Cc d):(dh d).length<=4:=by
 obtain⟨p,ds,hp,rfl,hf⟩:=h
 rw[XB.parts_of hp]
 exact a7 (Ao hf).2 (AD p hp)
theorem kJ:am ["thing","count","waiting","found","node","above"] ["thing"] (af iz):=by trivial
theorem tw{f:Addr}{fd:Θ}{k:Nat}(F:Fun K "is_expression" "is_expression" iz f fd)(T:Txt K mg)(Dis_node:Def P w K mg base k "is_node" ["thing"] (spS fD))(Dparts_of:Def P w K mg base k "parts_of" ["node"] vW):av P w K mg base CX0 (k+1) f fd ["thing"] qo:=by
 have nd:=kJ.nd
 refine F.ok kJ (λvs H Q E h=>?_) (λcdv A outer s H vs Q E hr h=>?_)
 ·obtain⟨v,d,rfl,_⟩:=h
  rfl
 obtain⟨v,d,rfl,R,hsm,q⟩:=h
 replace q:∀(H':Hp),ak H H'->Q (V.bl (decide (exN 8 d<=40))) H':=q
 refine⟨_,(@un _ _ _ (wbO (wbM 1 nd rfl (υ rfl) waC rfl ()) (wbO (wbM 2 nd rfl (υ rfl) (waM (wae (waX (wae (wv 0 rfl) (wae waC waf rfl) rfl)) waf rfl)) rfl ()) (wbO (wbN Ϯ (wbU (wv 2 rfl) (λ_=>rfl)) (wbO (wbM 3 nd rfl (υ rfl) (wak Φ PySem.F.slot_list_pop PySem.F.type_list_pop xU (wv 2 rfl) rfl rfl) rfl ()) (wbO (wbM 4 nd rfl (υ rfl) (waD aj (wv 3 rfl) waC (λ_ _=>rfl)) rfl ()) (wbO (wbM 5 nd rfl (C8 rfl) (waD aj (wv 3 rfl) waC (λ_ _=>rfl)) rfl ()) (wbO (wbE 1 nd rfl (υ rfl) waC yj ()) (wbO (wbI (wab (wbY (wbS eR (wv 1 rfl) ⟨T.g_MOST_NODES rfl⟩ (ai _)) (wbY (wbS eR (wv 5 rfl) ⟨T.g_MOST_ABOVE rfl⟩ (ai _)) (wbZ (wbT (wbV (waq Dis_node hr rfl (wae (wv 4 rfl) waf rfl) () rfl rfl) ())))))) (wbQ (wbK wah)) wbP) (wbQ (wbG (waj Φ D_ EI mU (wv 2 rfl) (wae (waE ["part"] [5] (wbi (waq Dparts_of hr rfl (wae (wv 4 rfl) waf rfl) () rfl rfl)) (.of rfl) rfl (λ_ _ _=>⟨pg_name (i:=0) (bc (l:=["part","above"]) (()) rfl) rfl (υ rfl)⟩) (aW ()) (λ_ _ _=>wbx) (λ_ _ _=>(waX (wae (wv 0 rfl) (wae (waQ bO (wv 1 rfl) waC) waf rfl) rfl))) ()) waf rfl) rfl rfl rfl rfl rfl) rfl)))))))) (wbQ (wbK wah)))))),?_⟩
 dsimp only[bi,Cx.nox]
 refine⟨_,rfl,z2,λt0 ht0=>⟨z1,λW1 hW=>?_⟩⟩
 have q0:=ac ht0 (.tup [v,.int 0])
 have q1:=ac hW (.lst [.ref t0])
 have r0:Rep (upd H t0 (.tup [v,.int 0])) (prD (d,0)) (.ref t0):=by
  unfold prD
  rw[Rep]
  exact⟨t0,_,rfl,aa,by simp only[Reps];exact⟨_,_,rfl,R.mono q0,_,_,rfl,by simp only[Rep];rfl,rfl⟩⟩
 refine qX (λm σ H'=>∃(o3 o4 o5:Option V) (cnt:Nat) (ws:List (Dv×Nat)) (vs:List V),σ=[some v,some (.int cnt),some (.ref W1),o3,o4,o5]/\ak H (bj H' W1)/\H' W1=some (.lst vs)/\Reps (bj H' W1) (ws.map prD) vs/\(∀p∈ws,p.1.small=true/\p.2<=8)/\(cnt+md ws<=40↔exN 8 d<=40)/\m=40-cnt/\cnt<=40/\ws.length<=1+4*cnt) 40
  ⟨_,_,_,0,[(d,0)],[.ref t0],rfl,q0.trans (ik q1 hW),aa,aQ (r0.mono (ik q1 hW)),λp hp=>by rw[ξ.mp hp];exact⟨hsm,ϊ _⟩,by simp[md],rfl,(),π _⟩ ?_ kW
 rintro m σ H1 D1 gR gD ⟨o3,o4,o5,cnt,ws,vs,rfl,s1,w1,R1,sm,eq,rfl,c40,lw⟩
 have s01:ak H H1:=s1.trans bL
 refine⟨_,rfl,_,.inl ⟨vs,SqL.of w1,rfl⟩,?_⟩
 by_cases ne:ws=[]
 ·subst ne
  have e:vs=[]:=by simpa only[j9,Reps]using R1
  subst e
  refine aD ?_
  have:=q H1 s01
  rw[Q9 (eq.mp (by simpa[md]using c40))]at this
  exact this
 ·obtain⟨w0,x,rfl⟩:=oW ne
  rw[ς]at R1
  obtain⟨v0,u,rfl,Ra,Ru⟩:=iX R1
  have e:(!(v0++[u]).isEmpty)=true:=by simp
  rw[e]
  refine ax ?_
  rw[rX]at eq
  have wx:md [x]=exN (8-x.2) x.1:=by simp[md]
  rw[wx]at eq
  rw[Η,ϳ]at lw
  obtain⟨smx,x8⟩:=sm x ()
  refine⟨_,rfl,.inl ⟨rfl,_,SqL.of w1⟩,W1,_,_,rfl,rfl,w1,rQ _ _,?_⟩
  rw[List.dropLast_concat]
  have t2:ak (bj H1 W1) (bj (upd H1 W1 (.lst v0)) W1):=oM
  have w2:upd H1 W1 (.lst v0) W1=some (.lst v0):=aa
  have s02:ak H _:=s1.trans (t2.trans bL)
  generalize upd H1 W1 (.lst v0)=H2 at t2 w2 s02⊢
  obtain⟨t,us,rfl,ht,ru⟩:=Rep.tup_inv (show Rep (bj H1 W1) (.tup [x.1,.int x.2]) u from Ru)
  obtain⟨y,z,rfl,Ry,Rz⟩:=Reps.two ru
  obtain rfl:z=.int x.2:=Rz
  have ht2:=bL _ _ (t2 _ _ ht)
  have xp:=vJ (8-x.2) x.1
  refine⟨_,rfl,t,_,0,y,rfl,rfl,SqT.of ht2,ae (j:=0) rfl,?_⟩
  refine⟨_,rfl,t,_,1,.int x.2,rfl,rfl,SqT.of ht2,ae (j:=1) rfl,?_⟩
  refine⟨_,rfl,_,_,rfl,rfl,?_⟩
  refine⟨_,rfl,_,_,rfl,rfl,_,rfl,?_⟩
  refine ap (λh=>?_) (λh=>?_)
  ·have h':(40:Int)<(cnt:Int)+1:=Q7 h
   have:=q H2 s02
   rw[Q8 (λz=>by have:=eq.mpr z;omega)]at this
   exact ax (gR _ _ this)
  have h':cnt+1<=40:=by have z:¬ ((40:Int)<(cnt:Int)+1):=of_decide_eq_false (x6.mpr h);omega
  refine⟨_,rfl,_,_,rfl,rfl,_,rfl,?_⟩
  refine ap (λh2=>?_) (λh2=>?_)
  ·have h2':(7:Int)<(x.2:Int):=Q7 h2
   have:=q H2 s02
   rw[Q8 (λz=>by
    have:=eq.mpr z
    rw[show 8-x.2=0 by omega]at this
    have e99:exN 0 x.1=99:=rfl
    omega)]at this
   exact ax (gR _ _ this)
  have h2':x.2<=7:=by have z:¬ ((7:Int)<(x.2:Int)):=of_decide_eq_false (x6.mpr h2);omega
  obtain⟨j,hj⟩:∃j,8-x.2=j+1:=⟨7-x.2,()⟩
  refine⟨_,rfl,y,x.1,rfl,Ry.mono (t2.trans bL),smx,λH3 s3=>⟨_,rfl,?_⟩⟩
  have s03:=s02.trans s3
  cases c:fD x.1 with
  |false=>
   have:=q H3 s03
   rw[Q8 (λz=>by
    have:=eq.mpr z
    have e99:exN (8-x.2) x.1=99:=by rw[hj];unfold exN;rw[c];rfl
    omega)]at this
   exact ax (gR _ _ this)
  |true=>
   refine aD ?_
   have w3:=s3 _ _ w2
   have t3:=t2.trans (bH (l:=W1) s3)
   have hW3:H3 W1≠none:=by rw[w3];exact nofun
   have nn:=xo c
   have p4:=qD nn
   have exj:exN (8-x.2) x.1=1+((dh x.1).map (exN j)).sum:=by rw[hj];show(if fD x.1=true then _ else _)=_;rw[c];rfl
   refine tnx ⟨_,rfl,.inl ⟨rfl,_,SqL.of w3⟩,_,rfl,y,x.1,bj H3 W1,rfl,bL,Ry.mono t3,nn,λH4 l ks s4 hl h4 R4=>⟨l,rfl,⟨_,SqL.of h4⟩,dL (xs:=ks) (λi ys H'=>ak H4 H'/\Reps (bj H' W1) (((dh x.1).take i).map λe=>prD (e,x.2+1)) ys) ⟨ak.refl _,by simp[Reps]⟩ (λi ys H' _ p=>SqL.of (p.1 _ _ h4)) ?_ ?_⟩⟩
   ·rintro i ys H5 pv hpv ⟨s5,R5⟩
    obtain⟨e,he,Re⟩:=R4.get hpv
    have hi:i<(dh x.1).length:=(ψ.mp he).1
    refine aV ⟨_,rfl,_,rfl,_,_,rfl,rfl,z2,λp hp=>⟨?_,s5.trans (ac hp _),?_⟩⟩
    ·rw[R5.length,δ,Υ,θ];omega
    ·have hW5:H5 W1≠none:=by rw[s5 _ _ (s4 _ _ w3)];exact nofun
     obtain⟨e1,e2⟩:=xr (o:=.tup [pv,.int ((x.2:Int)+1)]) hW5 hp
     rw[ϕ,he,ς]
     refine Reps.append (R5.mono e2) ?_
     refine aQ (show Rep _ (.tup [e,.int ((x.2+1:Nat):Int)]) (.ref p)from ?_)
     rw[Rep]
     refine⟨p,_,rfl,e1,?_⟩
     simp only[Reps]
     exact⟨_,_,rfl,(Re.mono (bH (s4.trans s5))).mono e2,_,_,rfl,by simp only[Rep];rfl,rfl⟩
   ·rintro ys H5 ⟨s5,R5⟩ r hr'
    have q6:=ac hr' (.lst ys)
    have lk:=R4.length
    rw[lk,ϒ]at R5
    have lys:=R5.length
    rw[δ]at lys
    have w5:=q6 _ _ (s5 _ _ (s4 _ _ w3))
    have lv:=Ra.length
    rw[δ]at lv
    refine⟨W1,r,_,_,rfl,rfl,w5,aa,by rw[θ];omega,?_⟩
    have hW5:H5 W1≠none:=by rw[s5 _ _ (s4 _ _ w3)];exact nofun
    have t6:ak (bj H5 W1) (bj (upd (upd H5 r (.lst ys)) W1 (.lst (v0++ys))) W1):=(bH q6).trans oM
    have t16:=t3.trans ((bH (s4.trans s5)).trans t6)
    refine gD (40-(cnt+1)) _ _ () ⟨_,_,_,cnt+1,w0++(dh x.1).map λe=>(e,x.2+1),v0++ys,rfl,s1.trans t16,aa,?_,?_,?_,rfl,h',?_⟩
    ·rw[ς]
     refine Reps.append (Ra.mono t16) ?_
     rw[Ψ]
     exact R5.mono t6
    ·intro p hp
     rcases Τ.mp hp with h1|h1
     ·exact sm p (B3 _ h1)
     ·obtain⟨e,he,rfl⟩:=Ω.mp h1
      exact⟨qU smx e he,by show x.2+1<=8;omega⟩
    ·rw[<-eq,rX,exj]
     have e7:md ((dh x.1).map λe=>(e,x.2+1))=((dh x.1).map (exN j)).sum:=by
      unfold md
      rw[Ψ]
      congr 1
      refine y8 λe _=>?_
      show exN (8-(x.2+1)) e=exN j e
      rw[show 8-(x.2+1)=j by omega]
     rw[e7]
     constructor<;>intro z<;>omega
    ·rw[Η,δ];omega
theorem Ex{x:Str}:aK (.tup [.str x])=if x="whole" then 1 else 99:=by rw[aK]
theorem Eg{x:Str}{l:Dv}:aK (.tup [.str x,l])=if x="place"/\slD l=true then 1 else 99:=by rw[aK]
theorem CY{x:Str}{a b:Dv}:aK (.tup [.str x,a,b])=if x="pair" then 1+aK a+aK b else if x="row"/\slD a=true then 1+aK b else 99:=by rw[aK]
def SL(c:Int)(ps:List Pr):Prop:=slD (bR c ps)=true/\(bR c ps).small=true
theorem qW:∀{ps:List Pr}{l:Str},ps.Pairwise (λp q=>p.1.cps.toList<q.1.cps.toList)->(∀p∈ps,1<=p.2)->(∀p∈ps,nmB p.1=true)->(∀p∈ps,l.cps.toList<p.1.cps.toList)->goD l (aR ps)=true
 |[],_,_,_,_,_=>rfl
 |p::ps,l,h1,h2,h3,h4=>by
  have e:aR (p::ps)=.tup [.str p.1,.int p.2]::aR ps:=rfl
  rw[e,goD]
  have h1':=List.pairwise_cons.mp h1
  show(gr _&&(decide (l.cps.toList<p.1.cps.toList)&&goD p.1 (aR ps)))=true
  rw[qW h1'.2 (λq hq=>h2 q (Ε _ hq)) (λq hq=>h3 q (Ε _ hq)) (λq hq=>h1'.1 q hq)]
  show((nmB p.1&&(true&&decide (1<=p.2)))&&(decide (l.cps.toList<p.1.cps.toList)&&true))=true
  rw[h3 p ο,Q9 (h2 p ο),Q9 (h4 p ο)]
  rfl
theorem iq:∀{ps:List Pr},(∀p∈ps,p.1.cps.size<=8)->smalls (aR ps)=true
 |[],_=>rfl
 |p::ps,h=>by
  simp only[aR,Χ,smalls,Dv.small,Ζ,decide_eq_true_eq]
  refine⟨⟨⟨by have:=h p ο;omega,trivial,trivial⟩,()⟩,iq λq hq=>h q (Ε _ hq)⟩
theorem aP{x:Str}(h:nmB x=true):1<=x.cps.size/\x.cps.size<=8:=by
 unfold nmB at h
 simp only[Ζ,decide_eq_true_eq]at h
 exact h.1
theorem yM{x:Str}(h:nmB x=true):(γ "").cps.toList<x.cps.toList:=by
 have:=(aP h).1
 have e:(γ "").cps.toList=[]:=by decide +kernel
 rw[e]
 cases hx:x.cps.toList with
 |nil=>
  have:x.cps.toList.length=x.cps.size:=by simp
  rw[hx]at this;simp at this;omega
 |cons c cs=>exact List.nil_lt_cons c cs
theorem Cu{c:Int}{ps:List Pr}(c0:0<=c)(c1:c<=99)(can:qb ps)(hl:ps.length<=900)(hn':∀p∈ps,nmB p.1=true/\p.2<=99):SL c ps:=by
 constructor
 ·show((true&&(decide (0<=c)&&goD "" (aR ps)))&&(decide (c<=99)&&(aR ps).all λp=>decide (gW p<=99)))=true
  rw[qW can.1 can.2 (λp hp=>(hn' p hp).1) (λp hp=>yM (hn' p hp).1),Q9 c0,Q9 c1]
  rw[show((aR ps).all λp=>decide (gW p<=99))=true by
   rw[ϭ]
   intro d hd
   obtain⟨p,hp,rfl⟩:=Ω.mp hd
   exact Q9 (hn' p hp).2]
  rfl
 ·have h8:∀p∈ps,p.1.cps.size<=8:=λp hp=>(aP (hn' p hp).1).2
  have h1:=iq h8
  have h2:(Dv.tup (aR ps)).small=true:=by
   simp only[Dv.small,h1,ϧ]
   exact Q9 (by rw[show(aR ps).length=ps.length from δ _];omega)
  show(Dv.tup [.int c,.tup (aR ps)]).small=true
  simp only[Dv.small,smalls]at h2⊢
  simp only[h2,ϧ,Bool.and_true]
  rfl
theorem bY{ds:List Dv}(h:∀d∈ds,d.small=true)(hl:ds.length<=1000):(Dv.tup ds).small=true:=by
 have:∀ds:List Dv,(∀d∈ds,d.small=true)->smalls ds=true:=by
  intro ds
  induction ds with
  |nil=>intro _;rfl
  |cons d ds ih=>intro h;simp only[smalls,Ζ];exact⟨h d ο,ih λe he=>h e (Ε _ he)⟩
 simp only[Dv.small,this ds h,ϧ]
 exact Q9 hl
theorem fO:∀{k:Kd},k.All SL->k.dv.small=true
 |.whole,_=>by decide +kernel
 |.place c ps,h=>bY (λd hd=>by
   rcases ν.mp hd with rfl|hd
   ·decide +kernel
   ·rw[ξ.mp hd];exact h.2) (by show 2<=1000;decide)
 |.row c ps k,h=>bY (λd hd=>by
   rcases ν.mp hd with rfl|hd
   ·decide +kernel
   ·rcases ν.mp hd with rfl|hd
    ·exact h.1.2
    ·rw[ξ.mp hd];exact fO h.2) (by show 3<=1000;decide)
 |.pair i j,h=>bY (λd hd=>by
   rcases ν.mp hd with rfl|hd
   ·decide +kernel
   ·rcases ν.mp hd with rfl|hd
    ·exact fO h.1
    ·rw[ξ.mp hd];exact fO h.2) (by show 3<=1000;decide)
theorem gX:∀{k:Kd},k.All SL->aK k.dv=k.size
 |.whole,_=>by show aK (.tup [.str "whole"])=1;rw[Ex,Q5 rfl]
 |.place c ps,h=>by show aK (.tup [.str "place",bR c ps])=1;rw[Eg,Q5 ⟨rfl,h.1⟩]
 |.row c ps k,h=>by show aK (.tup [.str "row",bR c ps,k.dv])=k.size+1;rw[CY,Q6 w6,Q5 ⟨rfl,h.1.1⟩,gX h.2];omega
 |.pair i j,h=>by show aK (.tup [.str "pair",i.dv,j.dv])=i.size+j.size+1;rw[CY,Q5 rfl,gX h.1,gX h.2];omega
theorem AK{l:List Nat}{x:Nat}(h:x∈l):x<=l.sum:=by
 induction l with
 |nil=>cases h
 |cons y l ih=>
  rw[j7]
  rcases ν.mp h with rfl|h
  ·omega
  ·have:=ih h;omega
abbrev sO:Stmt:=top 70
abbrev on:Stmt:=top 71
abbrev nY:Stmt:=top 72
def St2(H:Hp)(a:Addr):Prop:=∃(n:Int) (b:Bool),H a=some (.lst [.int n,.bl b])
theorem St2.b{H H':Hp}{a b:Addr}(h:St2 H a)(s:aq b H H')(n:a≠b):St2 H' a:=let ⟨i,c,e⟩:=h;⟨i,c,s _ _ n e⟩
theorem St2.m{H H':Hp}{a:Addr}(h:St2 H a)(s:ak H H'):St2 H' a:=let ⟨i,c,e⟩:=h;⟨i,c,s _ _ e⟩
theorem St2.tups{H H':Hp}{a:Addr}(h:St2 H a)(s:aq a H H'):mj H H':=let ⟨_,_,e⟩:=h;s.tups e
def dQ:Sp:=λvs H Q _=>∃(a:Addr) (m:Int),vs=[.ref a,.int m]/\St2 H a/\0<m/\m<10^40/\∀(H':Hp)(x:Int),aq a H H'->St2 H' a->0<=x->x<m->Q (.int x) H'
def oX(K:ε):Sp:=λvs H Q _=>∃(s:Addr) (ns:List Int) (k:Int),vs=[.ref s,.int k]/\SqL K H s (ns.map V.int)/\0<=k/\∀(H':Hp)(a:Addr),ak H H'->H a=none->St2 H' a->Q (.ref a) H'
def czB(c:Nat):Bool:=azB c && !([97,101,105,111,117].contains c)
def Az(x:Str)(n:Nat):Prop:=x.cps.toList.length=n/\∀c∈x.cps.toList,czB c=true
theorem Az.len{x:Str}{n:Nat}(h:Az x n):x.length=n:=by
 have e:x.cps.toList.length=x.length:=Ι
 rw[<-e];exact h.1
theorem sy{x y:Str}{n m:Nat}(h:Az x n)(g:Az y m):Az (x++y) (n+m):=by
 have e:=Fm x y
 refine⟨by rw[e,Η,h.1,g.1],λc hc=>?_⟩
 rw[e]at hc
 rcases Τ.mp hc with hc|hc
 ·exact h.2 c hc
 ·exact g.2 c hc
theorem nX{c:Nat}(h:czB c=true):Az ⟨#[c]⟩ 1:=⟨rfl,λd hd=>by
 have e:d=c:=by simpa using hd
 rw[e];exact h⟩
theorem yF:Az d_ 0:=⟨rfl,λd hd=>by cases hd⟩
theorem Aq{x:Str}{n:Nat}{i:Int}(h:Az x n)(h0:0<=i)(h1:i<=n):Az (Txt.slice x (some i) none) (n-i.toNat):=by
 have e:=FK (x:=x) (i:=i) (b:=(x.length:Int)) h0 (by rw[h.len];exact h1) rfl
 rw[e]
 refine⟨?_,λc hc=>?_⟩
 ·show((x.cps.toList.drop i.toNat).take ((x.length:Int)-i).toNat).toArray.toList.length=_
  simp only[Υ,Ϸ,h.1,h.len]
  omega
 ·have hc':c∈(x.cps.toList.drop i.toNat).take ((x.length:Int)-i).toNat:=by simpa using hc
  exact h.2 c (Fc (m8 hc'))
theorem DB{x:Str}{n:Nat}{i:Int}(h:Az x n)(h0:0<=i)(h1:i<=n):Az (Txt.slice x none (some i)) i.toNat:=by
 have e:=eq_of_beq (PyProof.Rows.slice_closes_toL (x:=x) (j:=i) h0 (by rw[h.len];exact h1))
 rw[e]
 refine⟨?_,λc hc=>?_⟩
 ·show((x.cps.toList.drop (0:Int).toNat).take (i-0).toNat).toArray.toList.length=_
  simp only[Υ,Ϸ,h.1]
  have:(0:Int).toNat=0:=rfl
  omega
 ·have hc':c∈(x.cps.toList.drop (0:Int).toNat).take (i-0).toNat:=by simpa using hc
  exact h.2 c (Fc (m8 hc'))
theorem CL{x:Str}{n:Nat}(h:Az x n)(h1:1<=n)(h8:n<=8):nmB x=true:=by
 unfold nmB
 have e:x.cps.size=n:=by have:=h.1;simpa using this
 rw[e,Q9 h1,Q9 h8,Bool.and_self,ϧ]
 exact ϭ.mpr λc hc=>(Ζ _ _▸h.2 c hc:azB c=true/\_).1
def Cn(x:Str):Prop:=nmB x=true/\∀c∈x.cps.toList,czB c=true
def Nth(z:Int)(n:Nat)(ws:List Str):Prop:=∀(j:Nat)(u:Str),ws[j]?=some u->∃c,atI (γ "bcdfghjklmnpqrstvwxyz").cps.toList ((z+5*(j:Int))%21)=some c/\u.cps.toList[n]?=some c
theorem Nth.nil{z:Int}{n:Nat}:Nth z n []:=λj u h=>by simp at h
theorem Nth.snoc{z:Int}{n c:Nat}{ws:List Str}{x y:Str}(h:Nth z n ws)(hc:atI (γ "bcdfghjklmnpqrstvwxyz").cps.toList ((z+5*(ws.length:Int))%21)=some c)(hx:x.cps.toList.length=n):Nth z n (ws++[x++⟨#[c]⟩++y]):=λj u e=>by
 by_cases hj:j<ws.length
 ·rw[i6 hj]at e;exact h j u e
 ·rw[ϵ ()]at e
  have hj2:j=ws.length:=by
   have:=(ψ.mp e).1
   rw[ϳ]at this;omega
  subst hj2
  rw[Ge]at e
  cases e
  refine⟨c,hc,?_⟩
  rw[Fm,Fm,c_,ϵ (),hx,Ge]
  rfl
theorem Aw:∀a:Nat,a<21->∀b:Nat,b<21->(γ "bcdfghjklmnpqrstvwxyz").cps.toList[a]?=(γ "bcdfghjklmnpqrstvwxyz").cps.toList[b]?->a=b:=by decide +kernel
theorem Nth.nodup{z:Int}{n:Nat}{ws:List Str}(h:Nth z n ws)(hl:ws.length<=21):ws.Nodup:=by
 rw[List.Nodup,FO]
 intro i j hi hj hij e
 obtain⟨c,h1,h2⟩:=h i _ (Α hi)
 obtain⟨d,h3,h4⟩:=h j _ (Α hj)
 rw[e,h4]at h2
 cases h2
 have k:∀a:Int,0<=a->∀v,atI (γ "bcdfghjklmnpqrstvwxyz").cps.toList a=some v->(γ "bcdfghjklmnpqrstvwxyz").cps.toList[a.toNat]?=some v:=λa ha v hv=>by
  unfold atI ixN at hv
  rw[Q5 ha]at hv
  split at hv
  ·exact hv
  ·cases hv
 have e1:=k _ () _ h1
 have e2:=k _ () _ h3
 have:=Aw ((z+5*(i:Int))%21).toNat () ((z+5*(j:Int))%21).toNat () (by rw[e1,e2])
 omega
def uC:Sp:=λvs H Q _=>∃(a:Addr) (m:Nat),vs=[.ref a,.int m]/\St2 H a/\m<=10/\∀(H':Hp)(r:Addr)(xs:List Str),aq a H H'->St2 H' a->H r=none->H' r=some (.lst (xs.map V.str))->xs.length=m->(∀x∈xs,Cn x)->xs.Nodup->Q (.ref r) H'
theorem ym:∀j,j<21->∃c,(γ "bcdfghjklmnpqrstvwxyz").cps.toList[j]?=some c/\czB c=true:=by
 have h:∀j,j<21->(((γ "bcdfghjklmnpqrstvwxyz").cps.toList[j]?).map czB)=some true:=by decide +kernel
 intro j hj
 obtain⟨c,e1,e2⟩:=ϖ.mp (h j hj)
 exact⟨c,e1,e2⟩
theorem uO{i:Int}(h0:0<=i)(h1:i<21):∃c,atI (γ "bcdfghjklmnpqrstvwxyz").cps.toList i=some c/\czB c=true:=by
 obtain⟨c,e,h⟩:=ym i.toNat ()
 have q:=ae e
 rw[show((i.toNat:Nat):Int)=i by omega]at q
 exact⟨c,q,h⟩
theorem vg:am ["_law_state_here","_law_many","_law_found"] ["_law_state_here","_law_many"] (af sO):=by trivial
theorem Ar{f:Addr}{fd:Θ}(F:Fun K "_law_draw" "_law_draw" sO f fd)(T:Txt K mg):av P w K mg base CX0 1 f fd ["_law_state_here","_law_many"] dQ:=by
 have nd:=vg.nd
 refine F.ok vg (λvs H Q E h=>?_) (λcdv A outer s H vs Q E hr h=>?_)
 ·obtain⟨a,m,rfl,_⟩:=h
  rfl
 obtain⟨a,m,rfl,⟨n,b,ha⟩,m0,mB,q⟩:=h
 refine⟨_,(@un _ _ _ (wbO (wbI (wbV (waD aE (wv 0 rfl) waC (λ_ _=>rfl)) ()) (wbO (wbM 2 nd rfl (υ rfl) (waQ gP (waD aE (wv 0 rfl) waC (λ_ _=>rfl)) (wv 1 rfl)) rfl ()) (wbO (wbD (waQ qH (waD aE (wv 0 rfl) waC (λ_ _=>rfl)) (wv 1 rfl)) (wba (wv 0 rfl) waC ke ()) rfl rfl rfl) (wbQ (wbK (wv 2 rfl))))) wbP) (wbO (wbD (waQ gP (waQ bO (waQ gN (waD aE (wv 0 rfl) waC (λ_ _=>rfl)) waC) waC) waC) (wba (wv 0 rfl) waC ke ()) rfl rfl rfl) (wbQ (wbK (waQ gP (waQ gP (waQ gN (waQ qH (waQ gP (waQ gN (waD aE (wv 0 rfl) waC (λ_ _=>rfl)) waC) waC) waC) waC) waC) (wv 1 rfl))))))),?_⟩
 dsimp only[bi,Cx.nox]
 refine⟨_,rfl,a,_,1,.bl b,rfl,rfl,SqL.of ha,ae (j:=1) rfl,_,rfl,?_⟩
 cases b with
 |true=>
  refine ax ?_
  refine⟨_,rfl,a,_,0,.int n,rfl,rfl,SqL.of ha,ae (j:=0) rfl,_,rfl,_,_,rfl,rfl,m0,?_⟩
  refine⟨_,rfl,a,_,0,.int n,rfl,rfl,SqL.of ha,ae (j:=0) rfl,_,rfl,_,_,rfl,rfl,⟨m0,()⟩,_,rfl,a,_,0,0,rfl,rfl,ha,rfl,?_⟩
  exact⟨_,rfl,q _ _ (aq.upd _ _ _) ⟨_,_,aa⟩ (kb m m0).1 (kb m m0).2⟩
 |false=>
  refine aD ?_
  refine⟨_,rfl,a,_,0,.int n,rfl,rfl,SqL.of ha,ae (j:=0) rfl,_,_,rfl,rfl,.inr ⟨(),()⟩,_,_,rfl,rfl,_,_,rfl,rfl,(by show(0:Int)<2147483647;decide),_,rfl,a,_,0,0,rfl,rfl,ha,rfl,?_⟩
  refine⟨_,rfl,a,_,0,_,rfl,rfl,SqL.of aa,ae (j:=0) rfl,_,_,rfl,rfl,.inr ⟨(),()⟩,_,_,rfl,rfl,(by show(0:Int)<2147483629;decide),_,_,rfl,rfl,⟨(),()⟩,_,_,rfl,rfl,.inr ⟨(),()⟩,_,_,rfl,rfl,(by show(0:Int)<2147483587;decide),_,rfl,_,_,rfl,rfl,m0,?_⟩
  exact q _ _ (aq.upd _ _ _) ⟨_,_,aa⟩ (kb m m0).1 (kb m m0).2
theorem qi:am ["_law_script","_law_k","_law_cell"] ["_law_script","_law_k"] (af on):=by trivial
theorem yD{f:Addr}{fd:Θ}(F:Fun K "_law_state" "_law_state" on f fd)(T:Txt K mg):av P w K mg base CX0 1 f fd ["_law_script","_law_k"] (oX K):=by
 have nd:=qi.nd
 refine F.ok qi (λvs H Q E h=>?_) (λcdv A outer s H vs Q E hr h=>?_)
 ·obtain⟨a,ns,k,rfl,_⟩:=h
  rfl
 obtain⟨a,ns,k,rfl,hS,k0,q⟩:=h
 have p15:Bo 10 15:=⟨(),(),()⟩
 refine⟨_,(@un _ _ _ (wbO (wbM 2 nd rfl (υ rfl) waC rfl ()) (wbO (wbI (wbS jk (wv 1 rfl) (wal ar rfl T.len () (wae (wv 0 rfl) waf rfl) () () rfl rfl) (ai _)) (wbQ (wbM 2 nd rfl (υ rfl) (waD aE (wv 0 rfl) (wv 1 rfl) (λ_ _=>rfl)) rfl ())) wbP) (wbO (wbI (wbS jk (wv 2 rfl) (waQ sY waC waC) (ai _)) (wbQ (wbK (waM (wae (waQ bO (waQ bO (wv 2 rfl) (waQ gN waC (wv 1 rfl))) waC) (wae wah waf rfl) rfl)))) wbP) (wbQ (wbK (waM (wae (wv 2 rfl) (wae wah waf rfl) rfl)))))))),?_⟩
 dsimp only[bi,Cx.nox]
 refine⟨_,rfl,_,rfl,a,_,rfl,.inl hS,_,_,rfl,rfl,_,rfl,ap (λc=>?_) (λc=>?_)⟩
 ·have c':=Q7 c
  rw[δ]at c'
  obtain⟨v,hv⟩:=Ak k0 c'
  refine⟨_,rfl,_,rfl,a,_,_,_,rfl,rfl,hS,hv,?_⟩
  refine⟨_,rfl,_,_,rfl,rfl,p15,_,_,rfl,rfl,_,rfl,ap (λd=>?_) (λd=>?_)⟩
  ·exact⟨_,rfl,_,rfl,_,_,rfl,rfl,.inl ⟨(),()⟩,_,_,rfl,rfl,_,_,rfl,rfl,z2,λl hl=>q _ l (ac hl _) hl ⟨_,_,aa⟩⟩
  ·exact⟨_,rfl,z2,λl hl=>q _ l (ac hl _) hl ⟨_,_,aa⟩⟩
 ·refine⟨_,rfl,_,_,rfl,rfl,p15,_,_,rfl,rfl,_,rfl,ap (λd=>?_) (λd=>?_)⟩
  ·exact⟨_,rfl,_,rfl,_,_,rfl,rfl,.inl ⟨(),()⟩,_,_,rfl,rfl,_,_,rfl,rfl,z2,λl hl=>q _ l (ac hl _) hl ⟨_,_,aa⟩⟩
  ·exact⟨_,rfl,z2,λl hl=>q _ l (ac hl _) hl ⟨_,_,aa⟩⟩
theorem qC:am ["_law_state_here","_law_many","_law_letters","_law_stem","_law_k","_law_at","_law_turn"] ["_law_state_here","_law_many"] (af nY):=by trivial
theorem xV{f:Addr}{fd:Θ}{k:Nat}(F:Fun K "_law_names" "_law_names" nY f fd)(T:Txt K mg)(D_law_draw:Def P w K mg base k "_law_draw" ["_law_state_here","_law_many"] dQ):av P w K mg base CX0 (k+1) f fd ["_law_state_here","_law_many"] uC:=by
 have nd:=qC.nd
 refine F.ok qC (λvs H Q E h=>?_) (λcdv A outer s H vs Q E hr h=>?_)
 ·obtain⟨a,m,rfl,_⟩:=h
  rfl
 obtain⟨a,m,rfl,h2,m10,q⟩:=h
 refine⟨_,(@un _ _ _ (wbO (wbM 2 nd rfl (C8 rfl) waV rfl ()) (wbO (wbM 3 nd rfl (C8 rfl) waV rfl ()) (wbO (wbH Ϯ rfl (wbk rfl T.range (wae (waq D_law_draw hr rfl (wae (wv 0 rfl) (wae waC waf rfl) rfl) () rfl rfl) waf rfl) rfl) (waZ 4 nd rfl (υ rfl) ()) (wbQ (wbM 3 nd rfl (C8 rfl) (waQ au (wv 3 rfl) (waD si (wv 2 rfl) (waq D_law_draw hr rfl (wae (wv 0 rfl) (wae waC waf rfl) rfl) () rfl rfl) (λ_ _=>rfl))) rfl ())) ()) (wbO (wbM 5 nd rfl (C8 rfl) (waq D_law_draw hr rfl (wae (wv 0 rfl) (wae (waQ bO (wal bK rfl T.len () (wae (wv 3 rfl) waf rfl) () () rfl rfl) waC) waf rfl) rfl) () rfl rfl) rfl ()) (wbO (wbM 6 nd rfl (C8 rfl) (waq D_law_draw hr rfl (wae (wv 0 rfl) (wae waC waf rfl) rfl) () rfl rfl) rfl ()) (wbQ (wbK (waE ["_law_k"] ([2,3,5,6]) (wbk rfl T.range (wae (wv 1 rfl) waf rfl) rfl) (.of rfl) rfl (λ_ _ _=>⟨pg_name (i:=0) (bc (l:=["_law_k","_law_letters","_law_stem","_law_at","_law_turn"]) (()) rfl) rfl (υ rfl)⟩) (aW ()) (λ_ _ _=>wbx) (λ_ _ _=>(waQ au (waQ au (waT lH (wv 2 rfl) wbz (wbA (wv 3 rfl))) (waD si (wv 1 rfl) (waQ gP (waQ bO (wv 4 rfl) (waQ gN waC (wv 0 rfl))) waC) (λ_ _=>rfl))) (waT lH (wv 2 rfl) (wbA (wv 3 rfl)) wbz))) ()))))))))),?_⟩
 have abc:(γ "bcdfghjklmnpqrstvwxyz").length<=sizeLine:=by rw[θ];decide +kernel
 refine⟨_,rfl,a,8,rfl,h2,(),(),λH1 x s1 st1 x0 x8=>?_⟩
 refine⟨x,rfl,(),(),nu (n:=x.toNat) (λi σ H'=>∃(stem:Str) (o1:Option V),σ=[some (.ref a),some (.int m),some (.str "bcdfghjklmnpqrstvwxyz"),some (.str stem),o1,none,none]/\aq a H H'/\St2 H' a/\Az stem i) ⟨_,_,rfl,s1,st1,yF⟩ ?T1 ?_⟩
 case T1=>
  rintro i σ H2 hi ⟨stem,o1,rfl,s2,st2,az⟩
  refine⟨_,rfl,_,rfl,_,rfl,a,21,rfl,st2,(),(),λH3 y s3 st3 y0 y1=>?_⟩
  obtain⟨ch,hc,hz⟩:=uO y0 y1
  refine⟨_,_,ch,rfl,rfl,abc,hc,_,_,rfl,rfl,?_,?_⟩
  ·rw[az.len,(nX hz).len,θ];omega
  ·exact⟨_,_,rfl,s2.trans s3,st3,sy az (nX hz)⟩
 rintro σ H2 ⟨stem,o1,rfl,s2,st2,az⟩
 have ln:=az.len
 have stl:stem.length<=sizeLine:=by rw[ln,θ];omega
 refine⟨_,rfl,_,rfl,_,rfl,stl,_,_,rfl,rfl,a,_,rfl,st2,(),by rw[ln];omega,λH3 y s3 st3 y0 y1=>?_⟩
 refine⟨_,rfl,a,21,rfl,st3,(),(),λH4 z s4 st4 z0 z1=>?_⟩
 have at1:y<=x.toNat:=by rw[ln]at y1;omega
 have zf:=Aq az y0 at1
 have zt:=DB az y0 at1
 refine⟨_,rfl,_,rfl,(),(),kK (n:=((m:Int)).toNat) (λi ys H'=>H'=H4/\∃ws:List Str,ys=ws.map V.str/\ws.length=i/\(∀z∈ws,Cn z)/\Nth z y.toNat ws) ⟨rfl,[],rfl,rfl,(),Nth.nil⟩ ?_ ?_⟩
 ·rintro i ys H5 hi ⟨rfl,ws,rfl,hw,hw1,nth⟩
  obtain⟨b0,b1⟩:=kb (a:=z+5*((0:Int)+(i:Int))) 21 ()
  obtain⟨ch,hc,hz2⟩:=uO b0 b1
  have e1:=sy zt (nX hz2)
  have e2:=sy e1 zf
  refine aV ⟨_,rfl,_,rfl,_,rfl,_,rfl,stl,_,rfl,_,rfl,_,rfl,_,_,rfl,rfl,.inl ⟨(),()⟩,_,_,rfl,rfl,_,_,rfl,rfl,(by show(0:Int)<21;decide),_,_,ch,rfl,rfl,abc,hc,_,_,rfl,rfl,?_,_,rfl,_,rfl,_,rfl,_,rfl,stl,_,_,rfl,rfl,?_,?_,rfl,ws++[Txt.slice stem none (some y)++⟨#[ch]⟩++Txt.slice stem (some y) none],(),by simp[hw],λw hw'=>?_,nth.snoc (by rw[hw,<-Int.zero_add (i:Int)];exact hc) zt.1⟩
  ·rw[zt.len,(nX hz2).len,θ];omega
  ·rw[e1.len,zf.len,θ];omega
  ·rw[δ,θ];omega
  ·rcases Τ.mp hw' with h|h
   ·exact hw1 w h
   ·rw[ξ.mp h];exact⟨CL e2 () (),e2.2⟩
 rintro ys H5 ⟨rfl,ws,rfl,hw,hw1,nth⟩ r hr'
 have s05:aq a H H5:=s2.trans (s3.trans s4)
 have hra:r≠a:=λe=>by obtain⟨n,b,e2⟩:=st4;rw[e,e2]at hr';cases hr'
 have hrn:H r=none:=by
  cases e:H r with
  |none=>rfl
  |some o=>have:=s05 r o hra e;rw[hr']at this;cases this
 exact q _ r ws (s05.trans (ak.b a (ac hr' _))) (st4.m (ac hr' _)) hrn aa (by rw[hw];omega) hw1 (nth.nodup (by rw[hw];omega))
abbrev lL:Stmt:=top 73
structure Ln(xs:List Str)(most:Int)(c:Int)(ps:List Pr):Prop where
 c0:0<=c
 cB:c<=most
 can:qb ps
 nm:∀p∈ps,p.1∈xs/\p.2<=most
 len:ps.length<=10
def jJ:Sp:=λvs H Q _=>∃(a b:Addr) (m:Int) (xs:List Str),vs=[.ref a,.ref b,.int m]/\St2 H a/\H b=some (.lst (xs.map V.str))/\b≠a/\xs.length<=10/\2<=m/\m<10^39 /\
 ∀(H':Hp)(v:V)(c:Int)(ps:List Pr),aq a H H'->St2 H' a->Rep H' (bR c ps) v->Ln xs m c ps->Q v H'
theorem DF{i:Int}(h0:0<=i)(h1:i<4):∃n:Int,atI ([V.int 0,V.int 0,V.int 1,V.int 2]:List V) i=some (.int n)/\0<=n/\n<=2:=by
 have e:i=0\/i=1\/i=2\/i=3:=by omega
 rcases e with rfl|rfl|rfl|rfl
 ·exact⟨0,ae (j:=0) rfl,()⟩
 ·exact⟨0,ae (j:=1) rfl,()⟩
 ·exact⟨1,ae (j:=2) rfl,()⟩
 ·exact⟨2,ae (j:=3) rfl,()⟩
theorem z4:4<=sizeLine:=by rw[θ];decide
theorem mV:am ["_law_state_here","_law_names_here","_law_most","_law_counts","_law_name","_law_way","_law_count"] ["_law_state_here","_law_names_here","_law_most"] (af lL):=by trivial
theorem xj{f:Addr}{fd:Θ}{k:Nat}(F:Fun K "_law_length" "_law_length" lL f fd)(T:Txt K mg)(D_law_draw:Def P w K mg base k "_law_draw" ["_law_state_here","_law_many"] dQ):av P w K mg base CX0 (k+1) f fd ["_law_state_here","_law_names_here","_law_most"] jJ:=by
 have nd:=mV.nd
 refine F.ok mV (λvs H Q E h=>?_) (λcdv A outer s H vs Q E hr h=>?_)
 ·obtain⟨a,b,m,xs,rfl,_⟩:=h
  rfl
 obtain⟨a,b,m,xs,rfl,st,hb,hba,lx,m2,mB,q⟩:=h
 have hu:=Dk hr
 refine⟨_,(@un _ _ _ (wbO (wbM 3 nd rfl (υ rfl) waA rfl ()) (wbO (wbH Ϯ rfl (wbi (wv 1 rfl)) (waZ 4 nd rfl (υ rfl) ()) (wbO (wbM 5 nd rfl (υ rfl) (waq D_law_draw hr rfl (wae (wv 0 rfl) (wae waC waf rfl) rfl) () rfl rfl) rfl ()) (wbO (wbI (wbS eR (wv 5 rfl) waC (ai _)) (wbQ (wbF hu (wv 3 rfl) (wv 4 rfl) waC rfl)) wbP) (wbQ (wbI (wbS aw (wv 5 rfl) waC (ai _)) (wbQ (wbF hu (wv 3 rfl) (wv 4 rfl) (waQ bO waC (waq D_law_draw hr rfl (wae (wv 0 rfl) (wae (wv 2 rfl) waf rfl) rfl) () rfl rfl)) rfl)) wbP)))) ()) (wbO (wbM 6 nd rfl (υ rfl) (waD aE (waM (wae waC (wae waC (wae waC (wae waC waf rfl) rfl) rfl) rfl)) (waq D_law_draw hr rfl (wae (wv 0 rfl) (wae waC waf rfl) rfl) () rfl rfl) (λ_ _=>rfl)) rfl ()) (wbO (wbI (wbS aw (wv 6 rfl) waC (ai _)) (wbQ (wbM 6 nd rfl (υ rfl) (waq D_law_draw hr rfl (wae (wv 0 rfl) (wae (waQ bO (wv 2 rfl) waC) waf rfl) rfl) () rfl rfl) rfl ())) wbP) (wbQ (wbK (waX (wae (wv 6 rfl) (wae (wam ay rfl T.tuple () (wae (wal (pG rfl) rfl T.sorted () (wae (wak PySem.F.plainAttrs_dict PySem.F.slot_dict_items PySem.F.type_dict_items xM (wv 3 rfl) rfl rfl) waf rfl) () () rfl rfl) waf rfl) () () rfl rfl) waf rfl) rfl))))))))),?_⟩
 dsimp only[bi,Cx.nox]
 intro d hd
 have s0:aq a H (upd H d (.dK [])):=ak.b a (ac hd _)
 have da:d≠a:=λe=>by obtain⟨n,c,e2⟩:=st;rw[e,e2]at hd;cases hd
 have db:b≠d:=ah hb hd
 refine⟨_,rfl,b,rfl,⟨_,SqL.of (s0 _ _ hba hb)⟩,pO (xs:=xs.map V.str) (λi σ H'=>∃(kvs:List Pr) (o1 o2:Option V),σ=[some (.ref a),some (.ref b),some (.int m),some (.ref d),o1,o2,none]/\aq a H H'/\St2 H' a/\H' d=some (.dK (dk kvs))/\(kvs.map (·.1)).Nodup/\kvs.length<=i/\∀p∈kvs,p.1∈xs/\1<=p.2/\p.2<=m)
  ⟨[],_,_,rfl,s0,st.m (ac hd _),aa,(),(),()⟩ (λi σ H' _ ⟨_,_,_,_,s1,_⟩=>SqL.of (s1 _ _ hba hb)) ?T1 ?_⟩
 case T1=>
  rintro i x σ H1 hx ⟨kvs,o1,o2,rfl,s1,st1,d1,ndk,lk,hall⟩
  rw[Ν]at hx
  obtain⟨y,hy,rfl⟩:=ϖ.mp hx
  have hi:i<xs.length:=(ψ.mp hy).1
  have hyx:=Ο hy
  refine⟨_,rfl,a,4,rfl,st1,(),(),λH2 z s2 st2 z0 z4=>?_⟩
  have d2:=s2 _ _ da d1
  have put:∀(H3:Hp)(kv:List Pr)(n:Int),(kv.map (·.1)).Nodup->kv.length<=i+1->(kv.length<=i\/y∈kv.map (·.1))->(∀p∈kv,p.1∈xs/\1<=p.2/\p.2<=m)->aq a H H3->St2 H3 a->H3 d=some (.dK (dk kv))->1<=n->n<=m ->
    (aq a H (upd H3 d (.dK (fJ (dk kv) (Ϧ y) (.int n))))/\St2 (upd H3 d (.dK (fJ (dk kv) (Ϧ y) (.int n)))) a/\upd H3 d (.dK (fJ (dk kv) (Ϧ y) (.int n))) d=some (.dK (dk (eY kv y n)))/\((eY kv y n).map (·.1)).Nodup/\(eY kv y n).length<=i+1/\y∈(eY kv y n).map (·.1)/\∀p∈eY kv y n,p.1∈xs/\1<=p.2/\p.2<=m):=λH3 kv n ndv lv or hv s3 st3 d3 n1 nm=>by
   refine⟨λg o hg e=>?_,st3.b (aq.upd _ _ _) (ϋ da),by rw[aa,CF],wj ndv,?_,?_,yN (R:=λp=>p.1∈xs/\1<=p.2/\p.2<=m) hv ⟨hyx,n1,nm⟩⟩
   ·rw[ao (ah e hd)];exact s3 g o hg e
   ·rcases or with h|h
    ·exact a7 (zh _ _ _) ()
    ·have:=congrArg w_ (nt (n:=n) h);rw[δ,δ]at this;omega
   ·by_cases h:y∈kv.map (·.1)
    ·rw[nt h];exact h
    ·rw[xY h,ς];exact Τ.mpr (.inr ())
  have szd:∀kv:List Pr,kv.length<=i+1->(dk kv).length<sizeLine:=λkv h=>by rw[show(dk kv).length=kv.length from δ _,θ];omega
  refine⟨_,rfl,_,_,rfl,rfl,_,rfl,ap (λh1=>?_) (λh1=>?_)⟩
  ·refine⟨_,rfl,_,rfl,d,_,rfl,ww.k (k:=Ϧ y) d2 (szd _ ()),?_⟩
   obtain⟨s3,st3,d3,nd3,l3,i3,a3⟩:=put H2 kvs 1 ndk () (.inl lk) hall (s1.trans s2) st2 d2 () ()
   generalize upd H2 d (.dK (fJ (dk kvs) (Ϧ y) (.int 1)))=H3 at s3 st3 d3⊢
   generalize eY kvs y 1=kv at d3 nd3 l3 i3 a3
   refine⟨_,rfl,rfl,_,rfl,ap (λh3=>?_) (λh3=>⟨kv,_,_,rfl,s3,st3,d3,nd3,l3,a3⟩)⟩
   refine⟨_,rfl,_,rfl,a,m,rfl,st3,(),(),λH4 n s4 st4 n0 n1=>?_⟩
   refine⟨_,_,rfl,rfl,_,rfl,_,rfl,d,_,rfl,ww.k (k:=Ϧ y) (s4 _ _ da d3) (szd _ l3),?_⟩
   obtain⟨s5,st5,d5,nd5,l5,i5,a5⟩:=put H4 kv (1+n) nd3 l3 (.inr i3) a3 (s3.trans s4) st4 (s4 _ _ da d3) () ()
   exact⟨_,_,_,rfl,s5,st5,d5,nd5,l5,a5⟩
  ·refine⟨_,rfl,rfl,_,rfl,ap (λh3=>?_) (λh3=>⟨kvs,_,_,rfl,s1.trans s2,st2,d2,ndk,(),hall⟩)⟩
   exact absurd (eqI h3) (λe=>h1 (Q9 ()))
 rintro σ H1 ⟨kvs,o1,o2,rfl,s1,st1,d1,ndk,lk,hall⟩
 rw[δ]at lk
 refine⟨z4,λl hl=>?_⟩
 have q1:=ac hl (.lst [V.int 0,.int 0,.int 1,.int 2])
 refine⟨_,rfl,a,4,rfl,st1.m q1,(),(),λH2 z s2 st2 z0 z4'=>?_⟩
 have la:l≠a:=λe=>by obtain⟨n,c,e2⟩:=st1;rw[e,e2]at hl;cases hl
 obtain⟨n,hn,n0,n2⟩:=DF z0 z4'
 refine⟨l,_,_,.int n,rfl,rfl,SqL.of (s2 _ _ la aa),hn,?_⟩
 have d2:=s2 _ _ da (q1 _ _ d1)
 have s02:aq a H H2:=s1.trans ((ak.b a q1).trans s2)
 have fin:∀(H3:Hp)(c:Int),aq a H H3->St2 H3 a->H3 d=some (.dK (dk kvs))->0<=c->c<=m->∀(H4:Hp)(w:V)(ps:List Pr),ak H3 H4->Rep H4 (.tup (aR ps)) w->ps.Perm kvs->qb ps->2<=sizeLine/\∀p,H4 p=none->Q (.ref p) (upd H4 p (.tup [.int c,w])):=λH3 c s3 st3 _ c0 cB H4 w ps s4 R pq can=>⟨z2,λp hp=>by
  have s5:=ac hp (.tup [.int c,w])
  exact q _ _ c ps (s3.trans (ak.b a (s4.trans s5))) (st3.m (s4.trans s5)) (zi aa (R.mono s5)) ⟨c0,cB,can,λx hx=>⟨(hall x (pq.mem_iff.mp hx)).1,(hall x (pq.mem_iff.mp hx)).2.2⟩,by rw[pq.length_eq];omega⟩⟩
 have items:∀(H3:Hp)(c:Int),aq a H H3->St2 H3 a->H3 d=some (.dK (dk kvs))->0<=c->c<=m->∀v,H3 v=none->∀(H4:Hp)(l:Addr)(qs:List TK),ak (upd H3 v (jW v d)) H4->(∀r∈qs,H4 r.1=some (.tup (.str r.2.1::r.2.2))/\upd H3 v (jW v d) r.1=none)->H4 l=some (.lst (qs.map λr=>V.ref r.1))->(qs.map (·.2)).Perm ((kvs.map λp=>(p.1,V.int p.2)).map λp=>(p.1,[p.2]))->qs.Pairwise xK ->
   ∀t,H4 t=none->2<=sizeLine/\∀p,upd H4 t (.tup (qs.map λr=>V.ref r.1)) p=none->Q (.ref p) (upd (upd H4 t (.tup (qs.map λr=>V.ref r.1))) p (.tup [.int c,.ref t])):=λH3 c s3 st3 d3 c0 cB v hv H4 l qs s4 hq hl pq pw t ht=>by
  obtain⟨perm,can,rep⟩:=pZ hq pq pw λp hp=>(hall p hp).2.1
  exact fin H3 c s3 st3 d3 c0 cB _ _ _ ((ac hv _).trans (s4.trans (ac ht _))) (rep t ht) perm can
 have two:∀(H3:Hp)(v:Addr),H3 d=some (.dK (dk kvs))->H3 v=none->upd H3 v (jW v d) d=some (.dK ((kvs.map λp=>(p.1,V.int p.2)).map λp=>((Ϧ p.1:Key),p.2))):=λH3 v d3 hv=>by rw[ao (ah d3 hv),d3,Ψ];rfl
 have l64:(kvs.map λp=>(p.1,V.int p.2)).length<64:=by rw[δ];omega
 refine⟨_,rfl,rfl,_,rfl,ap (λh2=>?_) (λh2=>?_)⟩
 ·refine⟨_,rfl,_,rfl,_,_,rfl,rfl,a,_,rfl,st2,(),(),λH3 x s3 st3 x0 x1=>?_⟩
  have d3:=s3 _ _ da d2
  refine⟨_,rfl,_,rfl,.inr (.inr (.inl ⟨rfl,.inl ⟨_,d3⟩⟩)),d,_,rfl,rfl,d3,λv hv=>?_⟩
  refine⟨v,d,kvs.map λp=>(p.1,V.int p.2),rfl,aa,two H3 v d3 hv,l64,λH4 l4 qs s4 _ hq hl4 pq pw=>⟨l4,_,rfl,.inl ⟨SqL.of hl4,λt ht=>?_⟩⟩⟩
  exact items H3 x (s02.trans s3) st3 d3 x0 () v hv H4 l4 qs s4 hq hl4 pq pw t ht
 ·refine⟨_,rfl,_,rfl,.inr (.inr (.inl ⟨rfl,.inl ⟨_,d2⟩⟩)),d,_,rfl,rfl,d2,λv hv=>?_⟩
  refine⟨v,d,kvs.map λp=>(p.1,V.int p.2),rfl,aa,two H2 v d2 hv,l64,λH4 l4 qs s4 _ hq hl4 pq pw=>⟨l4,_,rfl,.inl ⟨SqL.of hl4,λt ht=>?_⟩⟩⟩
  exact items H2 n s02 st2 d2 n0 () v hv H4 l4 qs s4 hq hl4 pq pw t ht
abbrev fw:Stmt:=top 38
abbrev cw:Stmt:=top 39
abbrev se:Stmt:=top 40
abbrev ft:Stmt:=top 41
def be(i:Int):Str:=γ (toString i)
def aH(p:Pr):Str:=if p.2=1 then p.1 else be p.2++γ "*" ++ p.1
def ba(c:Int)(ps:List Pr):List Str:=ps.map aH++(if c≠0\/ps=[]then [be c]else [])
def ci(c:Int)(ps:List Pr):Str:=ύ (γ "+") (ba c ps)
def kdT:Kd->Str
 |.whole=>γ "whole"
 |.place c ps=>γ "place" ++ γ "(" ++ ύ (γ ", ") [ci c ps]++γ ")"
 |.row c ps k=>γ "row" ++ γ "(" ++ ύ (γ ", ") [ci c ps,kdT k]++γ ")"
 |.pair a b=>γ "pair" ++ γ "(" ++ ύ (γ ", ") [kdT a,kdT b]++γ ")"
structure Wr(c:Int)(ps:List Pr):Prop where
 can:qb ps
 c0:0<=c
 c1:c<10^60
 len:ps.length<=21
 le:∀p∈ps,p.2<10^60/\p.1.length<=8
theorem kX{i:Int}(h0:0<=i)(h1:i<10^60):i.natAbs.log2<1920:=by
 refine Nat.lt_trans ?_ (show 200<1920 by decide)
 by_cases e:i.natAbs=0
 ·rw[e];decide
 ·exact(Nat.log2_lt e).mpr (ϛ (show i.natAbs<10^60 by omega) ())
theorem cT{i:Int}(h0:0<=i)(h1:i<10^60):(be i).length<=60:=PyProof.Rows.toString_length_le h0 (k:=60) () h1
theorem yv:(γ "*").length=1:=by decide +kernel
theorem xZ:(γ "+").length=1:=by decide +kernel
theorem hJ{p:Pr}(h0:1<=p.2)(h1:p.2<10^60)(h8:p.1.length<=8):(aH p).length<=69:=by
 unfold aH
 split
 ·omega
 ·rw[μ,μ,yv]
  have:=cT (i:=p.2) () h1
  omega
def Bi:Sp:=λvs H Q _=>∃(x:Str) (n:Int),vs=[.str x,.int n]/\x.length<=8/\1<=n/\n<10^60/\Q (.str (aH (x,n))) H
def mD:Sp:=λvs H Q _=>∃(v:V) (c:Int) (ps:List Pr),vs=[v]/\Rep H (bR c ps) v/\Wr c ps/\∀H',ak H H'->Q (.str (ci c ps)) H'
theorem tj(z:Str)(ys:List Str):Txt.join z ys=ύ z ys:=by
 show v_.Str.glued z ys=_
 rw[StrLaws.glued_eq_join]
theorem pF:am ["name","times"] ["name","times"] (af fw):=by trivial
theorem oi{f:Addr}{fd:Θ}(F:Fun K "show_part" "show_part" fw f fd)(T:Txt K mg):av P w K mg base CX0 1 f fd ["name","times"] Bi:=by
 refine F.ok pF (λvs H Q E h=>?_) (λcdv A outer s H vs Q E hr h=>?_)
 ·obtain⟨x,n,rfl,_⟩:=h
  rfl
 obtain⟨x,n,rfl,x8,n1,n60,q⟩:=h
 refine⟨_,(@un _ _ _ (wbQ (wbK (wac (wbS aw (wv 1 rfl) waC (ai _)) (wv 0 rfl) (was (wau ⟨BR (pv 1)⟩ (wau waV (wau (wat (wv 0 rfl)) wav)))))))),?_⟩
 refine⟨_,rfl,rfl,_,rfl,ap (λh=>?_) (λh=>?_)⟩
 ·have e:n=1:=by simpa using h
  have ep:aH (x,n)=x:=Q5 e
  rw[ep]at q
  exact⟨_,rfl,q⟩
 ·have e:¬ n=1:=by simpa using h
  have ep:aH (x,n)=be n++γ "*" ++ x:=Q6 e
  rw[ep]at q
  have l0:=cT (i:=n) () n60
  have e1:d_++be n=be n:=ϯ _
  have l1:(be n++γ "*").length<=61:=by rw[μ,yv];omega
  have l2:(be n++γ "*" ++ x).length<=69:=by rw[μ];omega
  refine⟨_,rfl,n,rfl,kX () n60,be n,rfl,by rw[e1,θ];omega,?_⟩
  rw[e1]
  exact⟨_,rfl,by rw[θ];omega,_,rfl,x,rfl,by rw[θ];omega,x,rfl,by rw[θ];omega,by rw[θ];omega,q⟩
theorem bp(s a:Str):ύ s [a]=a:=rfl
theorem bb(s a b:Str)(r:List Str):ύ s (a::b::r)=a++s++ύ s (b::r):=rfl
theorem cf(s:Str):∀ys:List Str,(ύ s ys).length<=(ys.map (·.length)).sum+ys.length*s.length
 |[]=>ϊ _
 |[a]=>by rw[bp];simp
 |a::b::r=>by
  have ih:=cf s (b::r)
  rw[bb,μ,μ]
  simp only[Χ,j7,Γ,Nat.add_mul]at ih⊢
  omega
theorem eV:(γ ", ").length=2:=by decide +kernel
theorem lb3:(γ "(").length=1:=by decide +kernel
theorem lb4:(γ ")").length=1:=by decide +kernel
theorem cv{B:Nat}:∀{ys:List Str},(∀y∈ys,y.length<=B)->(ys.map (·.length)).sum<=ys.length*B
 |[],_=>by simp
 |y::ys,h=>by
  have h1:=h y ο
  have h2:=cv (ys:=ys) λe he=>h e (Ε _ he)
  rw[Χ,j7,Γ,Nat.add_mul]
  omega
theorem iy{c:Int}{ps:List Pr}(h:Wr c ps):(∀y∈ba c ps,y.length<=69)/\(ba c ps).length<=22:=by
 have l:=h.len
 unfold ba
 refine⟨λy hy=>?_,?_⟩
 ·rcases Τ.mp hy with h1|h1
  ·obtain⟨p,hp,rfl⟩:=Ω.mp h1
   exact hJ (h.can.ge p hp) (h.le p hp).1 (h.le p hp).2
  ·split at h1
   ·rw[ξ.mp h1];have:=cT h.c0 h.c1;omega
   ·cases h1
 ·rw[Η,δ]
  split
  ·rw[ϳ];omega
  ·rw[j4];omega
theorem cm{c:Int}{ps:List Pr}(h:Wr c ps):(ci c ps).length<=1540:=by
 obtain⟨h1,h2⟩:=iy h
 have a:=cf (γ "+") (ba c ps)
 have b:=cv h1
 rw[xZ]at a
 unfold ci
 have:(ba c ps).length*69<=22*69:=B8 _ h2
 omega
theorem bo:∀{k:Kd},k.All Wr->(kdT k).length<=1700*k.size
 |.whole,_=>by show(γ "whole").length<=1700*1;exact i_ ()
 |.place c ps,h=>by
  have l:=cm (c:=c) (ps:=ps) h
  have w:(γ "place").length=5:=by decide +kernel
  rw[kdT,bp,μ,μ,μ,w,lb3,lb4]
  show _<=1700*1
  omega
 |.row c ps k,h=>by
  have l:=cm (c:=c) (ps:=ps) h.1
  have i:=bo (k:=k) h.2
  have w:(γ "row").length=3:=by decide +kernel
  rw[kdT,bb,bp,μ,μ,μ,μ,μ,w,lb3,lb4,eV]
  show _<=1700*(k.size+1)
  omega
 |.pair a b,h=>by
  have i:=bo (k:=a) h.1
  have j:=bo (k:=b) h.2
  have w:(γ "pair").length=4:=by decide +kernel
  rw[kdT,bb,bp,μ,μ,μ,μ,μ,w,lb3,lb4,eV]
  show _<=1700*(a.size+b.size+1)
  omega
def kh:Sp:=λvs H Q _=>∃(z:Str) (l:Addr) (ys:List Str),vs=[.str z,.ref l]/\H l=some (.lst (ys.map V.str))/\z.length<=10/\(ys.map (·.length)).sum+ys.length*2<=2000000/\Q (.str (z++γ "(" ++ ύ (γ ", ") ys++γ ")")) H
def gp(n:Nat):Sp:=λvs H Q _=>∃(v:V) (k:Kd),vs=[v]/\Rep H k.dv v/\k.size<=n/\n<=12/\k.All Wr/\∀H',ak H H'->Q (.str (kdT k)) H'
theorem fV:am ["a","parts"] ["a"] (af cw):=by trivial
theorem lg{f:Addr}{fd:Θ}{k:Nat}(F:Fun K "show_length" "show_length" cw f fd)(T:Txt K mg)(Dshow_part:Def P w K mg base k "show_part" ["name","times"] Bi):av P w K mg base CX0 (k+1) f fd ["a"] mD:=by
 have nd:=fV.nd
 refine F.ok fV (λvs H Q E h=>?_) (λcdv A outer s H vs Q E hr h=>?_)
 ·obtain⟨v,c,ps,rfl,_⟩:=h
  rfl
 obtain⟨v,c,ps,rfl,R,wr,q⟩:=h
 have hu9:=jS hr
 have huL:(A.deeper (Fn (γ "show_length") (af cw) s.heap.objs.size f cdv)).units<cLine:=by omega
 obtain⟨a,a1,us,rfl,ha,ha1,ru,lu⟩:=uV R
 obtain⟨tl,tn⟩:=iy wr
 have wl:=wr.len
 refine⟨_,(@un _ _ _ (wbO (wbJ (["name","times"]) [] 1 nd rfl rfl (wbo (waD aj (wv 0 rfl) waC (λ_ _=>rfl))) (.of rfl) rfl (λ_ _ _=>⟨pg_tup rfl (pgs_cons (pg_name (i:=0) (bc (l:=["name","times"]) (()) rfl) rfl (υ rfl)) (pgs_cons (pg_name (i:=1) (bc (l:=["name","times"]) (()) rfl) rfl (υ rfl)) pgs_nil))⟩) (gx () ()) (λ_ _ _=>wbx) (λ_ _ _=>(waq Dshow_part hr rfl (wae (wv 0 rfl) (wae (wv 1 rfl) waf rfl) rfl) () rfl rfl)) rfl ()) (wbO (wbI (wab (wbY (wbS eT (waD aj (wv 0 rfl) waC (λ_ _=>rfl)) waC (ai _)) (wbZ (wbS (yz huL) (wv 1 rfl) (waM waf) (ai _))))) (wbQ (wbG (waj Φ ϐ ϑ aZ (wv 1 rfl) (wae (wam ce rfl T.str () (wae (waD aj (wv 0 rfl) waC (λ_ _=>rfl)) waf rfl) () () rfl rfl) waf rfl) rfl rfl rfl rfl rfl) rfl)) wbP) (wbQ (wbK (waj Κ Ϫ ϫ cz waV (wae (wv 1 rfl) waf rfl) rfl rfl rfl rfl rfl)))))),?_⟩
 dsimp only[bi,Cx.nox]
 refine⟨_,rfl,a,_,1,.ref a1,rfl,rfl,SqT.of ha,ae (j:=1) rfl,a1,rfl,⟨us,SqT.of ha1⟩,iA (xs:=us) (λi ys H'=>H'=H/\ys=((ps.take i).map aH).map V.str) ⟨rfl,rfl⟩ (λi ys H' _ p=>by rw[p.1];exact SqT.of ha1) ?L1 ?_⟩
 case L1=>
  rintro i ys H' x hx ⟨rfl,rfl⟩
  obtain⟨p,b,hp,rfl,hb⟩:=vc ru hx
  have hi:i<us.length:=(ψ.mp hx).1
  have hpm:=Ο hp
  refine dj hb ⟨_,rfl,_,rfl,p.1,p.2,rfl,(wr.le p hpm).2,wr.can.ge p hpm,(wr.le p hpm).1,?_,rfl,?_⟩
  ·rw[δ,δ,Υ,θ];omega
  ·rw[ϕ,hp,ς,ς];rfl
 rintro ys H' ⟨rfl,rfl⟩ l hl
 rw[lu,ϒ]
 have s1:=ac hl (.lst ((ps.map aH).map V.str))
 have h1:upd H' l (.lst ((ps.map aH).map V.str)) l=some (.lst ((ps.map aH).map V.str)):=aa
 generalize upd H' l (.lst ((ps.map aH).map V.str))=H1 at s1 h1⊢
 refine gnm ?_
 have fin:∀(H2:Hp)(ts:List Str),ts=ba c ps->ak H' H2->H2 l=some (.lst (ts.map V.str))->∃(z:Str) (a:Addr) (ys:List Str),V.str (γ "+")=.str z/\[V.ref l]=[.ref a]/\SqL K H2 a (ys.map V.str)/\(ys.map (·.length)).sum+ys.length*z.length<=16777216/\Q (.str (Txt.join z ys)) H2:=λH2 ts e s2 h2=>by
  subst e
  have b:=cv tl
  have:(ba c ps).length*69<=22*69:=B8 _ tn
  refine⟨_,l,ba c ps,rfl,rfl,SqL.of h2,by rw[xZ];omega,?_⟩
  rw[tj]
  exact q H2 s2
 have lp:((ps.map aH).map V.str).length<=21:=by rw[δ,δ];exact wl
 have app:(c≠0\/ps=[])->ps.map aH++[be c]=ba c ps:=λe=>by unfold ba;rw[Q5 e]
 refine⟨_,rfl,a,_,0,.int c,rfl,rfl,SqT.of (s1 _ _ ha),ae (j:=0) rfl,rfl,_,rfl,ap (λh=>?_) (λh=>?_)⟩
 ·have hc:c≠0:=by simpa using h
  refine ax ⟨_,rfl,.inl ⟨rfl,_,SqL.of h1⟩,_,rfl,a,_,0,.int c,rfl,rfl,SqT.of (s1 _ _ ha),ae (j:=0) rfl,c,rfl,kX wr.c0 wr.c1,l,_,.str (be c),rfl,rfl,h1,by rw[θ];omega,rfl,_,rfl,?_⟩
  exact fin _ _ (app (.inl hc)) (λg o e=>by rw[ao (ah e hl)];exact s1 _ _ e) (by rw[aa,ς];rfl)
 ·have hc:c=0:=by simpa using h
  refine⟨_,rfl,ϊ _,λe he=>⟨l,e,_,rfl,rfl,SqL.of (ac he _ _ _ h1),SqL.of aa,_,rfl,?_⟩⟩
  have s2:=ac he (.lst [])
  have h2:=s2 _ _ h1
  have s02:=s1.trans s2
  generalize upd H1 e (.lst [])=H2 at s2 h2 s02⊢
  cases ps with
  |nil=>
   refine ax ⟨_,rfl,.inl ⟨rfl,_,SqL.of h2⟩,_,rfl,a,_,0,.int c,rfl,rfl,SqT.of (s02 _ _ ha),ae (j:=0) rfl,c,rfl,kX wr.c0 wr.c1,l,_,.str (be c),rfl,rfl,h2,by rw[θ];omega,rfl,_,rfl,?_⟩
   exact fin _ _ (app (.inr rfl)) (λg o e=>by rw[ao (ah e hl)];exact s02 _ _ e) (by rw[aa];rfl)
  |cons p ps=>
   refine aD ⟨rfl,_,rfl,?_⟩
   exact fin _ _ (by unfold ba;rw[Q6 (λz=>z.elim (λy=>y hc) (λy=>by cases y)),ϡ]) s02 h2
theorem vZ:am ["word","texts","inner"] ["word","texts"] (af se):=by trivial
theorem Ae{f:Addr}{fd:Θ}(F:Fun K "in_brackets" "in_brackets" se f fd)(T:Txt K mg):av P w K mg base CX0 1 f fd ["word","texts"] kh:=by
 have nd:=vZ.nd
 refine F.ok vZ (λvs H Q E h=>?_) (λcdv A outer s H vs Q E hr h=>?_)
 ·obtain⟨z,l,ys,rfl,_⟩:=h
  rfl
 obtain⟨z,l,ys,rfl,hl,lz,ls,q⟩:=h
 refine⟨_,(@un _ _ _ (wbO (wbM 2 nd rfl (υ rfl) (waj Κ Ϫ ϫ cz waV (wae (wv 1 rfl) waf rfl) rfl rfl rfl rfl rfl) rfl ()) (wbQ (wbK (was (wau (wat (wv 0 rfl)) (wau waV (wau (wat (wv 2 rfl)) (wau waV wav))))))))),?_⟩
 dsimp only[bi,Cx.nox]
 refine⟨rfl,_,rfl,_,l,ys,rfl,rfl,SqL.of hl,by rw[eV];omega,?_⟩
 rw[tj]
 have hj:=cf (γ ", ") ys
 rw[eV]at hj
 have lj:(ύ (γ ", ") ys).length<=2000000:=by omega
 generalize ύ (γ ", ") ys=jn at lj q⊢
 have e1:d_++z=z:=ϯ z
 have l1:(z++γ "(").length<=11:=by rw[μ,lb3];omega
 have l2:(z++γ "(" ++ jn).length<=2000011:=by rw[μ];omega
 have l3:(z++γ "(" ++ jn++γ ")").length<=2000012:=by rw[μ,lb4];omega
 refine⟨_,rfl,z,rfl,by rw[θ];omega,z,rfl,by rw[e1,θ];omega,?_⟩
 rw[e1]
 refine⟨_,rfl,by rw[θ];omega,_,rfl,jn,rfl,by rw[θ];omega,jn,rfl,by rw[θ];omega,_,rfl,by rw[θ];omega,by rw[θ];omega,q⟩
theorem oP:am ["kind"] ["kind"] (af ft):=by trivial
theorem oA{f:Addr}{fd:Θ}{k0 n:Nat}(F:Fun K "show_kind" "show_kind" ft f fd)(T:Txt K mg)(Din_brackets:Def P w K mg base k0 "in_brackets" ["word","texts"] kh)(Dshow_length:Def P w K mg base k0 "show_length" ["a"] mD)(Dshow_kind:Def P w K mg base k0 "show_kind" ["kind"] (gp n)):av P w K mg base CX0 (k0+1) f fd ["kind"] (gp (n+1)):=by
 refine F.ok oP (λvs H Q E h=>?_) (λcdv A outer s H vs Q E hr h=>?_)
 ·obtain⟨v,k,rfl,_⟩:=h
  rfl
 obtain⟨v,k,rfl,R,kn,n12,kA,q⟩:=h
 obtain⟨b,vs,rfl,hb,hv⟩:=Kd.inv R
 have kl:=bo kA
 refine⟨_,(@un _ _ _ (wbO (wbI (wbS aw (waD aj (wv 0 rfl) waC (λ_ _=>rfl)) waV (ai _)) (wbQ (wbK (waq Din_brackets hr rfl (wae waV (wae (waM (wae (waq Dshow_length hr rfl (wae (waD aj (wv 0 rfl) waC (λ_ _=>rfl)) waf rfl) () rfl rfl) waf rfl)) waf rfl) rfl) () rfl rfl))) wbP) (wbO (wbI (wbS aw (waD aj (wv 0 rfl) waC (λ_ _=>rfl)) waV (ai _)) (wbQ (wbK (waq Din_brackets hr rfl (wae waV (wae (waM (wae (waq Dshow_length hr rfl (wae (waD aj (wv 0 rfl) waC (λ_ _=>rfl)) waf rfl) () rfl rfl) (wae (waq Dshow_kind hr rfl (wae (waD aj (wv 0 rfl) waC (λ_ _=>rfl)) waf rfl) () rfl rfl) waf rfl) rfl)) waf rfl) rfl) () rfl rfl))) wbP) (wbO (wbI (wbS aw (waD aj (wv 0 rfl) waC (λ_ _=>rfl)) waV (ai _)) (wbQ (wbK (waq Din_brackets hr rfl (wae waV (wae (waM (wae (waq Dshow_kind hr rfl (wae (waD aj (wv 0 rfl) waC (λ_ _=>rfl)) waf rfl) () rfl rfl) (wae (waq Dshow_kind hr rfl (wae (waD aj (wv 0 rfl) waC (λ_ _=>rfl)) waf rfl) () rfl rfl) waf rfl) rfl)) waf rfl) rfl) () rfl rfl))) wbP) (wbQ (wbK waV)))))),?_⟩
 dsimp only[bi,Cx.nox]
 refine⟨_,rfl,b,_,0,.str k.word,rfl,rfl,SqT.of hb,ae (j:=0) rfl,rfl,_,rfl,?_⟩
 cases k with
 |whole=>
  refine ap (λh=>absurd (Q7 h) (wne Dm)) (λ_=>?_)
  refine⟨_,rfl,b,_,0,.str "whole",rfl,rfl,SqT.of hb,ae (j:=0) rfl,rfl,_,rfl,ap (λh=>absurd (Q7 h) (wne DO)) (λ_=>?_)⟩
  refine⟨_,rfl,b,_,0,.str "whole",rfl,rfl,SqT.of hb,ae (j:=0) rfl,rfl,_,rfl,ap (λh=>absurd (Q7 h) (wne DN)) (λ_=>?_)⟩
  exact q H (ak.refl _)
 |place c ps=>
  obtain⟨l,rfl,Rl⟩:=hv
  refine ap (λ_=>?_) (λh=>absurd (Q9 rfl) h)
  refine⟨_,rfl,b,_,1,l,rfl,rfl,SqT.of hb,ae (j:=1) rfl,l,c,ps,rfl,Rl,kA,λH1 s1=>⟨z1,λt ht=>?_⟩⟩
  have ll:=cm (c:=c) (ps:=ps) kA
  refine⟨_,t,[ci c ps],rfl,aa,(),by simp;omega,q _ (s1.trans (ac ht _))⟩
 |row c ps j=>
  obtain⟨l,u,rfl,Rl,Ru⟩:=hv
  have jn:j.size+1<=n+1:=kn
  refine ap (λh=>absurd (Q7 h) (wne (ϋ Ct))) (λ_=>?_)
  refine⟨_,rfl,b,_,0,.str "row",rfl,rfl,SqT.of hb,ae (j:=0) rfl,rfl,_,rfl,ap (λ_=>?_) (λh=>absurd (Q9 rfl) h)⟩
  have ll:=cm (c:=c) (ps:=ps) kA.1
  have lk:=bo kA.2
  refine⟨_,rfl,b,_,1,l,rfl,rfl,SqT.of hb,ae (j:=1) rfl,l,c,ps,rfl,Rl,kA.1,λH1 s1=>⟨_,rfl,b,_,2,u,rfl,rfl,SqT.of (s1 _ _ hb),ae (j:=2) rfl,u,j,rfl,Ru.mono s1,(),(),kA.2,λH2 s2=>⟨z2,λt ht=>?_⟩⟩⟩
  refine⟨_,t,[ci c ps,kdT j],rfl,aa,(),by simp;omega,q _ (s1.trans (s2.trans (ac ht _)))⟩
 |pair i j=>
  obtain⟨u1,u2,rfl,Ru1,Ru2⟩:=hv
  have jn:i.size+j.size+1<=n+1:=kn
  refine ap (λh=>absurd (Q7 h) (wne (ϋ BA))) (λ_=>?_)
  refine⟨_,rfl,b,_,0,.str "pair",rfl,rfl,SqT.of hb,ae (j:=0) rfl,rfl,_,rfl,ap (λh=>absurd (Q7 h) (wne (ϋ Bp))) (λ_=>?_)⟩
  refine⟨_,rfl,b,_,0,.str "pair",rfl,rfl,SqT.of hb,ae (j:=0) rfl,rfl,_,rfl,ap (λ_=>?_) (λh=>absurd (Q9 rfl) h)⟩
  have l1:=bo kA.1
  have l2:=bo kA.2
  refine⟨_,rfl,b,_,1,u1,rfl,rfl,SqT.of hb,ae (j:=1) rfl,u1,i,rfl,Ru1,(),(),kA.1,λH1 s1=>⟨_,rfl,b,_,2,u2,rfl,rfl,SqT.of (s1 _ _ hb),ae (j:=2) rfl,u2,j,rfl,Ru2.mono s1,(),(),kA.2,λH2 s2=>⟨z2,λt ht=>?_⟩⟩⟩
  refine⟨_,t,[kdT i,kdT j],rfl,aa,(),by simp;omega,q _ (s1.trans (s2.trans (ac ht _)))⟩
abbrev jA:Stmt:=top 74
abbrev nU:Stmt:=top 75
theorem rD:am ["_law_length_here","_law_words","_law_name","_law_times"] ["_law_length_here"] (af jA):=by trivial
theorem yO{f:Addr}{fd:Θ}(F:Fun K "_law_length_text" "_law_length_text" jA f fd)(T:Txt K mg):av P w K mg base CX0 1 f fd ["_law_length_here"] mD:=by
 have nd:=rD.nd
 refine F.ok rD (λvs H Q E h=>?_) (λcdv A outer s H vs Q E hr h=>?_)
 ·obtain⟨v,c,ps,rfl,_⟩:=h
  rfl
 obtain⟨v,c,ps,rfl,R,wr,q⟩:=h
 have hu9:=jS hr
 have huL:(A.deeper (Fn (γ "_law_length_text") (af jA) s.heap.objs.size f cdv)).units<cLine:=by omega
 obtain⟨a,a1,us,rfl,ha,ha1,ru,lu⟩:=uV R
 obtain⟨tl,tn⟩:=iy wr
 have wl:=wr.len
 refine⟨_,(@un _ _ _ (wbO (wbM 1 nd rfl (υ rfl) (waM waf) rfl ()) (wbO (wbH Ϯ rfl (wbo (waD aj (wv 0 rfl) waC (λ_ _=>rfl))) (wbb rfl (wbd (waZ 2 nd rfl (υ rfl) ()) (wbd (waZ 3 nd rfl (υ rfl) ()) wbe rfl) rfl) rfl rfl) (wbQ (wbG (waj Φ ϐ ϑ aZ (wv 1 rfl) (wae (waQ au (waD aE (waM (wae (waQ au (wam ce rfl T.str () (wae (wv 3 rfl) waf rfl) () () rfl rfl) waV) (wae waV waf rfl) rfl)) (wam wS rfl T.int () (wae (wap aw (wv 3 rfl) waC (ai _)) waf rfl) () () rfl rfl) (λ_ _=>rfl)) (wv 2 rfl)) waf rfl) rfl rfl rfl rfl rfl) rfl)) ()) (wbO (wbI (wab (wbY (wbS eT (waD aj (wv 0 rfl) waC (λ_ _=>rfl)) waC (ai _)) (wbZ (wbS (yz huL) (wv 1 rfl) (waM waf) (ai _))))) (wbQ (wbG (waj Φ ϐ ϑ aZ (wv 1 rfl) (wae (wam ce rfl T.str () (wae (waD aj (wv 0 rfl) waC (λ_ _=>rfl)) waf rfl) () () rfl rfl) waf rfl) rfl rfl rfl rfl rfl) rfl)) wbP) (wbQ (wbK (waj Κ Ϫ ϫ cz waV (wae (wv 1 rfl) waf rfl) rfl rfl rfl rfl rfl))))))),?_⟩
 dsimp only[bi,Cx.nox]
 refine⟨ϊ _,λl hl=>?_⟩
 have s0:=ac hl (.lst [])
 have h0:upd H l (.lst []) l=some (.lst []):=aa
 generalize upd H l (.lst [])=H0 at s0 h0⊢
 refine gnm ?_
 refine⟨_,rfl,a,_,1,.ref a1,rfl,rfl,SqT.of (s0 _ _ ha),ae (j:=1) rfl,a1,rfl,⟨us,SqT.of (s0 _ _ ha1)⟩,vT (xs:=us) (λi σ H'=>∃(o2 o3:Option V),σ=[some (.ref a),some (.ref l),o2,o3]/\ak H H'/\H' l=some (.lst (((ps.take i).map aH).map V.str))) ⟨_,_,rfl,s0,h0⟩ (λi σ H' _ ⟨_,_,_,sx,_⟩=>SqT.of (sx _ _ ha1)) ?T1 ?_⟩
 case T1=>
  rintro i x σ H1 hx ⟨o2,o3,rfl,s1,h1⟩
  obtain⟨p,b,hp,rfl,hb⟩:=vc ru hx
  have hi:i<us.length:=(ψ.mp hx).1
  have hpm:=Ο hp
  have p1:=wr.can.ge p hpm
  obtain⟨p60,p8⟩:=wr.le p hpm
  have nl:=cT (i:=p.2) () p60
  have pl:=hJ p1 p60 p8
  refine⟨b,_,rfl,SqT.of (s1 _ _ hb),rfl,_,_,rfl,_,_,rfl,rfl,?_⟩
  refine⟨_,rfl,.inl ⟨rfl,_,SqL.of h1⟩,_,rfl,p.2,rfl,kX () p60,_,_,rfl,rfl,by rw[yv,θ];show(be p.2).length+1<=_;omega,z2,λe he=>?_⟩
  have s2:=ac he (.lst [.str (be p.2++γ "*"),.str (γ "")])
  have h2:=s2 _ _ h1
  have lp:((((ps.take i).map aH).map V.str)).length<=21:=by rw[δ,δ,Υ];omega
  have inv:∀(z:Str),z=aH p->∀H2,ak H1 H2->ak H (upd H2 l (.lst (((ps.take i).map aH).map V.str++[.str z])))/\upd H2 l (.lst (((ps.take i).map aH).map V.str++[.str z])) l=some (.lst (((ps.take (i+1)).map aH).map V.str)):=λz ez H2 s'=>by
   refine⟨λg o eg=>by rw[ao (ah eg hl)];exact s' _ _ (s1 _ _ eg),?_⟩
   rw[aa,ϕ,hp,ς,ς,ez];rfl
  by_cases e1:p.2=1
  ·have ei:(if decide (V.int p.2=V.int 1)=true then (1:Int)else 0)=1:=by rw[e1];simp
   have ez:γ "" ++ p.1=aH p:=by unfold aH;rw[Q5 e1];exact ϯ p.1
   obtain⟨i1,i2⟩:=inv _ ez _ s2
   exact⟨_,rfl,rfl,.inr ⟨_,rfl,e,_,_,.str (γ ""),rfl,rfl,SqL.of aa,by rw[ei];rfl,_,rfl,_,_,rfl,rfl,by rw[<-μ,ez,θ];omega,l,_,_,rfl,rfl,h2,by rw[θ];omega,_,_,rfl,i1,i2⟩⟩
  ·have ei:(if decide (V.int p.2=V.int 1)=true then (1:Int)else 0)=0:=by rw[Q8 (λz=>e1 (by injection z))];rfl
   have ez:be p.2++γ "*" ++ p.1=aH p:=by unfold aH;rw[Q6 e1]
   obtain⟨i1,i2⟩:=inv _ ez _ s2
   exact⟨_,rfl,rfl,.inr ⟨_,rfl,e,_,_,.str (be p.2++γ "*"),rfl,rfl,SqL.of aa,by rw[ei];rfl,_,rfl,_,_,rfl,rfl,by rw[<-μ,ez,θ];omega,l,_,_,rfl,rfl,h2,by rw[θ];omega,_,_,rfl,i1,i2⟩⟩
 rintro σ H1 ⟨o2,o3,rfl,s1,h1⟩
 rw[lu,ϒ]at h1
 have fin:∀(H2:Hp)(ts:List Str),ts=ba c ps->ak H H2->H2 l=some (.lst (ts.map V.str))->∃(z:Str) (a:Addr) (ys:List Str),V.str (γ "+")=.str z/\[V.ref l]=[.ref a]/\SqL K H2 a (ys.map V.str)/\(ys.map (·.length)).sum+ys.length*z.length<=16777216/\Q (.str (Txt.join z ys)) H2:=λH2 ts e s2 h2=>by
  subst e
  have b:=cv tl
  have:(ba c ps).length*69<=22*69:=B8 _ tn
  refine⟨_,l,ba c ps,rfl,rfl,SqL.of h2,by rw[xZ];omega,?_⟩
  rw[tj]
  exact q H2 s2
 have lp:((ps.map aH).map V.str).length<=21:=by rw[δ,δ];exact wl
 have app:(c≠0\/ps=[])->ps.map aH++[be c]=ba c ps:=λe=>by unfold ba;rw[Q5 e]
 refine⟨_,rfl,a,_,0,.int c,rfl,rfl,SqT.of (s1 _ _ ha),ae (j:=0) rfl,rfl,_,rfl,ap (λh=>?_) (λh=>?_)⟩
 ·have hc:c≠0:=by simpa using h
  refine ax ⟨_,rfl,.inl ⟨rfl,_,SqL.of h1⟩,_,rfl,a,_,0,.int c,rfl,rfl,SqT.of (s1 _ _ ha),ae (j:=0) rfl,c,rfl,kX wr.c0 wr.c1,l,_,.str (be c),rfl,rfl,h1,by rw[θ];omega,rfl,_,rfl,?_⟩
  exact fin _ _ (app (.inl hc)) (λg o e=>by rw[ao (ah e hl)];exact s1 _ _ e) (by rw[aa,ς];rfl)
 ·have hc:c=0:=by simpa using h
  refine⟨_,rfl,ϊ _,λe he=>⟨l,e,_,rfl,rfl,SqL.of (ac he _ _ _ h1),SqL.of aa,_,rfl,?_⟩⟩
  have s2:=ac he (.lst [])
  have h2:=s2 _ _ h1
  have s02:=s1.trans s2
  generalize upd H1 e (.lst [])=H2 at s2 h2 s02⊢
  cases ps with
  |nil=>
   refine ax ⟨_,rfl,.inl ⟨rfl,_,SqL.of h2⟩,_,rfl,a,_,0,.int c,rfl,rfl,SqT.of (s02 _ _ ha),ae (j:=0) rfl,c,rfl,kX wr.c0 wr.c1,l,_,.str (be c),rfl,rfl,h2,by rw[θ];omega,rfl,_,rfl,?_⟩
   exact fin _ _ (app (.inr rfl)) (λg o e=>by rw[ao (ah e hl)];exact s02 _ _ e) (by rw[aa];rfl)
  |cons p ps=>
   refine aD ⟨rfl,_,rfl,?_⟩
   exact fin _ _ (by unfold ba;rw[Q6 (λz=>z.elim (λy=>y hc) (λy=>by cases y)),ϡ]) s02 h2
theorem xJ:am ["_law_kind_here"] ["_law_kind_here"] (af nU):=by trivial
theorem yf{f:Addr}{fd:Θ}{k0 n:Nat}(F:Fun K "_law_kind_text" "_law_kind_text" nU f fd)(T:Txt K mg)(D_law_length_text:Def P w K mg base k0 "_law_length_text" ["_law_length_here"] mD)(D_law_kind_text:Def P w K mg base k0 "_law_kind_text" ["_law_kind_here"] (gp n)):av P w K mg base CX0 (k0+1) f fd ["_law_kind_here"] (gp (n+1)):=by
 refine F.ok xJ (λvs H Q E h=>?_) (λcdv A outer s H vs Q E hr h=>?_)
 ·obtain⟨v,k,rfl,_⟩:=h
  rfl
 obtain⟨v,k,rfl,R,kn,n12,kA,q⟩:=h
 obtain⟨b,vs,rfl,hb,hv⟩:=Kd.inv R
 have kl:=bo kA
 have lpl:(γ "place(").length=6:=by decide +kernel
 have lro:(γ "row(").length=4:=by decide +kernel
 have lpa:(γ "pair(").length=5:=by decide +kernel
 refine⟨_,(@un _ _ _ (wbO (wbI (wbS aw (waD aj (wv 0 rfl) waC (λ_ _=>rfl)) waV (ai _)) (wbQ (wbK waV)) wbP) (wbO (wbI (wbS aw (waD aj (wv 0 rfl) waC (λ_ _=>rfl)) waV (ai _)) (wbQ (wbK (waQ au (waQ au waV (waq D_law_length_text hr rfl (wae (waD aj (wv 0 rfl) waC (λ_ _=>rfl)) waf rfl) () rfl rfl)) waV))) wbP) (wbO (wbI (wbS aw (waD aj (wv 0 rfl) waC (λ_ _=>rfl)) waV (ai _)) (wbQ (wbK (waQ au (waQ au (waQ au (waQ au waV (waq D_law_length_text hr rfl (wae (waD aj (wv 0 rfl) waC (λ_ _=>rfl)) waf rfl) () rfl rfl)) waV) (waq D_law_kind_text hr rfl (wae (waD aj (wv 0 rfl) waC (λ_ _=>rfl)) waf rfl) () rfl rfl)) waV))) wbP) (wbQ (wbK (waQ au (waQ au (waQ au (waQ au waV (waq D_law_kind_text hr rfl (wae (waD aj (wv 0 rfl) waC (λ_ _=>rfl)) waf rfl) () rfl rfl)) waV) (waq D_law_kind_text hr rfl (wae (waD aj (wv 0 rfl) waC (λ_ _=>rfl)) waf rfl) () rfl rfl)) waV))))))),?_⟩
 dsimp only[bi,Cx.nox]
 refine⟨_,rfl,b,_,0,.str k.word,rfl,rfl,SqT.of hb,ae (j:=0) rfl,rfl,_,rfl,?_⟩
 cases k with
 |whole=>
  refine ap (λ_=>?_) (λh=>absurd (Q9 rfl) h)
  exact q H (ak.refl _)
 |place c ps=>
  obtain⟨l,rfl,Rl⟩:=hv
  have ll:=cm (c:=c) (ps:=ps) kA
  refine ap (λh=>absurd (Q7 h) (wne (ϋ Dm))) (λ_=>?_)
  refine⟨_,rfl,b,_,0,.str "place",rfl,rfl,SqT.of hb,ae (j:=0) rfl,rfl,_,rfl,ap (λ_=>?_) (λh=>absurd (Q9 rfl) h)⟩
  refine⟨_,rfl,b,_,1,l,rfl,rfl,SqT.of hb,ae (j:=1) rfl,l,c,ps,rfl,Rl,kA,λH1 s1=>⟨_,_,rfl,rfl,by rw[lpl,θ];omega,_,_,rfl,rfl,by rw[μ,lpl,lb4,θ];omega,?_⟩⟩
  have e:γ "place(" ++ ci c ps++γ ")"=kdT (.place c ps):=by
   rw[kdT,bp,show γ "place("=γ "place" ++ γ "(" by decide +kernel]
  rw[e];exact q H1 s1
 |row c ps j=>
  obtain⟨l,u,rfl,Rl,Ru⟩:=hv
  have jn:j.size+1<=n+1:=kn
  have ll:=cm (c:=c) (ps:=ps) kA.1
  have lk:=bo kA.2
  refine ap (λh=>absurd (Q7 h) (wne (ϋ DO))) (λ_=>?_)
  refine⟨_,rfl,b,_,0,.str "row",rfl,rfl,SqT.of hb,ae (j:=0) rfl,rfl,_,rfl,ap (λh=>absurd (Q7 h) (wne (ϋ Ct))) (λ_=>?_)⟩
  refine⟨_,rfl,b,_,0,.str "row",rfl,rfl,SqT.of hb,ae (j:=0) rfl,rfl,_,rfl,ap (λ_=>?_) (λh=>absurd (Q9 rfl) h)⟩
  refine⟨_,rfl,b,_,1,l,rfl,rfl,SqT.of hb,ae (j:=1) rfl,l,c,ps,rfl,Rl,kA.1,λH1 s1=>⟨_,_,rfl,rfl,by rw[lro,θ];omega,_,_,rfl,rfl,by rw[μ,lro,eV,θ];omega,_,rfl,b,_,2,u,rfl,rfl,SqT.of (s1 _ _ hb),ae (j:=2) rfl,u,j,rfl,Ru.mono s1,(),(),kA.2,λH2 s2=>⟨_,_,rfl,rfl,by rw[μ,μ,lro,eV,θ];omega,_,_,rfl,rfl,by rw[μ,μ,μ,lro,eV,lb4,θ];omega,?_⟩⟩⟩
  have e:γ "row(" ++ ci c ps++γ ", " ++ kdT j++γ ")"=kdT (.row c ps j):=by
   rw[kdT,bb,bp,show γ "row("=γ "row" ++ γ "(" by decide +kernel]
   simp only[q_]
  rw[e];exact q H2 (s1.trans s2)
 |pair i j=>
  obtain⟨u1,u2,rfl,Ru1,Ru2⟩:=hv
  have jn:i.size+j.size+1<=n+1:=kn
  have l1:=bo kA.1
  have l2:=bo kA.2
  refine ap (λh=>absurd (Q7 h) (wne (ϋ DN))) (λ_=>?_)
  refine⟨_,rfl,b,_,0,.str "pair",rfl,rfl,SqT.of hb,ae (j:=0) rfl,rfl,_,rfl,ap (λh=>absurd (Q7 h) (wne (ϋ BA))) (λ_=>?_)⟩
  refine⟨_,rfl,b,_,0,.str "pair",rfl,rfl,SqT.of hb,ae (j:=0) rfl,rfl,_,rfl,ap (λh=>absurd (Q7 h) (wne (ϋ Bp))) (λ_=>?_)⟩
  refine⟨_,rfl,b,_,1,u1,rfl,rfl,SqT.of hb,ae (j:=1) rfl,u1,i,rfl,Ru1,(),(),kA.1,λH1 s1=>⟨_,_,rfl,rfl,by rw[lpa,θ];omega,_,_,rfl,rfl,by rw[μ,lpa,eV,θ];omega,_,rfl,b,_,2,u2,rfl,rfl,SqT.of (s1 _ _ hb),ae (j:=2) rfl,u2,j,rfl,Ru2.mono s1,(),(),kA.2,λH2 s2=>⟨_,_,rfl,rfl,by rw[μ,μ,lpa,eV,θ];omega,_,_,rfl,rfl,by rw[μ,μ,μ,lpa,eV,lb4,θ];omega,?_⟩⟩⟩
  have e:γ "pair(" ++ kdT i++γ ", " ++ kdT j++γ ")"=kdT (.pair i j):=by
   rw[kdT,bb,bp,show γ "pair("=γ "pair" ++ γ "(" by decide +kernel]
   simp only[q_]
  rw[e];exact q H2 (s1.trans s2)
open PySem L2 KB XB PySem.NumText WR
abbrev fU:Stmt:=top 53
def dgB(c:Nat):Bool:=decide (48<=c)&&decide (c<=57)
def dgs(x:Str):Bool:=decide (1<=x.cps.size)&&decide (x.cps.size<=60)&&x.cps.toList.all dgB
def oV(x:Str):V:=if dgs x=true then .int ((digitsVal x.cps.toList:Nat):Int)else .non
theorem BN(x:Str):((Ϝ x.cps.size).map λi=>dgB (x.cps.getD i 0)).all id=x.cps.toList.all dgB:=by
 have e:(Ϝ x.cps.size).map (λi=>dgB (x.cps.getD i 0))=x.cps.toList.map dgB:=by
  apply List.ext_getElem
  ·simp
  ·intro i h1 h2
   have h3:i<x.cps.size:=by simpa using h1
   simp[Array.getD,h3]
 rw[e,C4]
 rfl
theorem eJ{x:Str}(h:dgs x=true):AllDigits x.cps.toList/\1<=x.cps.size/\x.cps.size<=60:=by
 unfold dgs at h
 simp only[Ζ,decide_eq_true_eq,ϭ]at h
 refine⟨λc hc=>?_,h.1.1,h.1.2⟩
 have:=h.2 c hc
 unfold dgB at this
 simpa using this
theorem zI{x:Str}(h:dgs x=true):PySem.intText? x=some ((digitsVal x.cps.toList:Nat):Int)/\x.length<=640:=by
 obtain⟨h1,h2,h3⟩:=eJ h
 have e:x.length=x.cps.size:=rfl
 exact⟨intText_digits h1 (λz=>by have h9:x.cps.toList.length=x.cps.size:=Ι;rw[z,j4]at h9;omega) (),()⟩
theorem hU{n:Int}(h0:0<=n)(h1:n<10^60):dgs (be n)=true/\digitsVal (be n).cps.toList=n.toNat:=by
 have hl:=cT h0 h1
 obtain⟨m,rfl⟩:=Int.eq_ofNat_of_zero_le h0
 have es:(be (m:Int)).cps.toList=(Nat.toDigits 10 m).map Char.toNat:=PySem.W.KIN.signs_num m
 have hd:AllDigits (be ((m:Nat):Int)).cps.toList:=by
  intro c hc
  rw[es]at hc
  obtain⟨ch,hch,e⟩:=Ω.mp hc
  have r:=PyProof.Rows.digit_range (Nat.isDigit_of_mem_toDigits () () hch)
  rw[<-e]
  exact r
 have hne:1<=(be ((m:Nat):Int)).cps.size:=by
  have h:=toDigits_len_ge 10 m
  have e2:=congrArg w_ es
  rw[Ι,δ]at e2
  omega
 refine⟨?_,by rw[es,PySem.W.KIN.val_back];rfl⟩
 unfold dgs
 rw[Q9 hne,Q9 (show(be ((m:Nat):Int)).cps.size<=60 from hl),ϧ,ϧ,ϭ]
 intro c hc
 have:=hd c hc
 unfold dgB
 rw[Q9 this.1,Q9 this.2];rfl
theorem jR{n:Int}(h0:0<=n)(h1:n<10^60):oV (be n)=.int n:=by
 obtain⟨a,b⟩:=hU h0 h1
 unfold oV
 rw[Q5 a,b]
 exact congrArg V.int (Int.toNat_of_nonneg h0)
def va:Sp:=λvs H Q _=>∃x:Str,vs=[.str x]/\x.cps.size<=1000/\∀H',ak H H'->Q (oV x) H'
theorem pk:am ["word"] ["word"] (af fU):=by trivial
theorem pK{f:Addr}{fd:Θ}(F:Fun K "number_of" "number_of" fU f fd)(T:Txt K mg):av P w K mg base CX0 1 f fd ["word"] va:=by
 refine F.ok pk (λvs H Q E h=>?_) (λcdv A outer s H vs Q E hr h=>?_)
 ·obtain⟨x,rfl,_⟩:=h
  rfl
 obtain⟨x,rfl,hx,q⟩:=h
 refine⟨_,(@un _ _ _ (wbO (wbI (wbT (wbR ir ir waC (wal bK rfl T.len () (wae (wv 0 rfl) waf rfl) () () rfl rfl) ⟨T.g_MOST_FIGURES rfl⟩ (by with_unfolding_all rfl))) (wbQ (wbK waN)) wbP) (wbO (wbI (wbT (wbV (wal (de rfl) rfl T.all () (wae (waE ["sign"] [] (wbn (wv 0 rfl)) (.of rfl) rfl (λ_ _ _=>⟨pg_name (i:=0) (bc (l:=["sign"]) (()) rfl) rfl (υ rfl)⟩) (aW ()) (λ_ _ _=>wbx) (λ_ _ _=>(wao dX dX waV (wv 0 rfl) waV (by with_unfolding_all rfl))) ()) waf rfl) () () rfl rfl) ())) (wbQ (wbK waN)) wbP) (wbQ (wbK (wam mz rfl T.int () (wae (wv 0 rfl) waf rfl) () () rfl rfl)))))),?_⟩
 have ex:x.length=x.cps.size:=rfl
 have no:dgs x=false->∀H',ak H H'->Q .non H':=λe H' s'=>by
  have:=q H' s'
  unfold oV at this
  rwa[Q6 (by rw[e];decide)]at this
 refine⟨_,rfl,x,rfl,vD hx,_,_,rfl,rfl,_,rfl,?_⟩
 refine ap (λh1=>?_) (λh1=>?_)
 ·refine⟨_,_,rfl,rfl,_,rfl,?_⟩
  have h1':1<=x.cps.size:=by have:=Q7 h1;omega
  by_cases h8:x.cps.size<=60
  ·rw[show decide (((x.length:Nat):Int)<=60)=true from Q9 ()]
   refine aD ?_
   refine⟨_,rfl,x,rfl,jU (F:=λi=>V.bl (dgB (x.cps.getD i 0))) (λi ys hi hl=>?_) λa ha=>⟨a,(Ϝ x.cps.size).map λi=>dgB (x.cps.getD i 0),rfl,SqL.of ?_,_,rfl,?_⟩⟩
   ·refine aV ⟨_,rfl,_,_,rfl,rfl,_,rfl,?_⟩
    have e1:decide ((⟨#[x.cps.getD i 0]⟩:Str).cps.toList<(γ "0").cps.toList)=decide (x.cps.getD i 0<48):=oS _ _
    have e2:decide ((γ "9").cps.toList<(⟨#[x.cps.getD i 0]⟩:Str).cps.toList)=decide (57<x.cps.getD i 0):=oS _ _
    rw[e1]
    by_cases c1:x.cps.getD i 0<48
    ·rw[Q9 c1]
     refine aD ⟨by rw[hl,θ];omega,?_,rfl⟩
     unfold dgB
     rw[Q8 ()]
     rfl
    ·rw[Q8 c1]
     refine ax ⟨_,_,rfl,rfl,?_⟩
     refine⟨by rw[hl,θ];omega,?_,rfl⟩
     rw[e2]
     unfold dgB
     rw[Q9 (show 48<=x.cps.getD i 0 by omega)]
     by_cases c2:57<x.cps.getD i 0
     ·rw[Q9 c2,Q8 ()];rfl
     ·rw[Q8 c2,Q9 ()];rfl
   ·rw[aa,Ψ]
    rfl
   ·rw[BN]
    have s1:=ac ha (.lst ((Ϝ x.cps.size).map λi=>V.bl (dgB (x.cps.getD i 0))))
    have ed:dgs x=x.cps.toList.all dgB:=by unfold dgs;rw[Q9 h1',Q9 h8];rfl
    cases e:x.cps.toList.all dgB with
    |false=>exact ax (no (by rw[ed,e]) _ s1)
    |true=>
     rw[e]at ed
     obtain⟨ei,el⟩:=zI ed
     refine aD ⟨_,rfl,x,_,rfl,ei,el,?_⟩
     have:=q _ s1
     unfold oV at this
     rwa[Q5 ed]at this
  ·rw[show decide (((x.length:Nat):Int)<=60)=false from Q8 ()]
   refine ax (no ?_ H (ak.refl _))
   unfold dgs
   rw[Q8 h8,FA,ϴ]
 ·refine⟨_,rfl,ax (no ?_ H (ak.refl _))⟩
  have h1':¬ 1<=x.cps.size:=by
   have:=of_decide_eq_false (x6.mpr h1)
   omega
  unfold dgs
  rw[Q8 h1',ϴ,ϴ]
open PySem L2 KB XB WR
abbrev iK:Stmt:=top 54
abbrev fq:Stmt:=top 55
abbrev fF:Stmt:=top 57
theorem dF{a b:Str}(h:a.cps.toList=b.cps.toList):a=b:=by
 cases a;cases b;congr;exact Array.ext' h
theorem aJ(a b:Str):(a++b).cps.toList=a.cps.toList++b.cps.toList:=by
 show(a.cps++b.cps).toList=_
 rw[Array.toList_append]
theorem zd{c:Nat}:∀{a a' r r':List Nat},c∉a->c∉a'->a++c::r=a'++c::r'->a=a'/\r=r'
 |[],[],r,r',_,_,h=>by simpa using h
 |[],y::a',r,r',_,h2,h=>by
  simp only[e_,Ϲ,Gm]at h
  exact absurd (ν.mpr (.inl h.1)) h2
 |y::a,[],r,r',h1,_,h=>by
  simp only[e_,Ϲ,Gm]at h
  exact absurd (ν.mpr (.inl h.1.symm)) h1
 |y::a,z::a',r,r',h1,h2,h=>by
  simp only[Ϲ,Gm]at h
  obtain⟨e1,e2⟩:=zd (λm=>h1 (Ε _ m)) (λm=>h2 (Ε _ m)) h.2
  exact⟨by rw[h.1,e1],e2⟩
theorem rR(c:Nat):∀{A B:List Str},A≠[]->B≠[]->(∀p∈A,c∉p.cps.toList)->(∀p∈B,c∉p.cps.toList)->ύ ⟨#[c]⟩ A=ύ ⟨#[c]⟩ B->A=B
 |[],_,h,_,_,_,_=>absurd rfl h
 |_,[],_,h,_,_,_=>absurd rfl h
 |[a],[b],_,_,_,_,h=>by rw[bp,bp]at h;rw[h]
 |[a],b::d::r,_,_,h1,_,h=>by
  rw[bp,bb]at h
  have:=congrArg (λz:Str=>z.cps.toList) h
  simp only[aJ]at this
  exact absurd (by rw[this];simp) (h1 a ο)
 |a::d::r,[b],_,_,_,h2,h=>by
  rw[bp,bb]at h
  have:=congrArg (λz:Str=>z.cps.toList) h
  simp only[aJ]at this
  exact absurd (by rw[<-this];simp) (h2 b ο)
 |a::d::r,b::e::t,_,_,h1,h2,h=>by
  rw[bb,bb]at h
  have:=congrArg (λz:Str=>z.cps.toList) h
  simp only[aJ,c_,List.singleton_append]at this
  obtain⟨e1,e2⟩:=zd (h1 a ο) (h2 b ο) this
  rw[dF e1,rR c (A:=d::r) (B:=e::t) () () (λp hp=>h1 p (Ε _ hp)) (λp hp=>h2 p (Ε _ hp)) (dF e2)]
theorem xv(x y:Str):Txt.split x y≠[]:=by
 unfold Txt.split
 split
 ·simp
 ·split
  ·simp
  ·rw[StrLaws.partsBetween_eq]
   obtain⟨p,r,e⟩:=StrLaws.partsFrom_ne x y.length 0 (m9 x y 0 x.length (x.length+1))
   rw[e];simp
theorem dC(c:Nat){A:List Str}(h:A≠[])(hf:∀p∈A,c∉p.cps.toList):Txt.split (ύ ⟨#[c]⟩ A) ⟨#[c]⟩=A:=
 rR c (xv _ _) h (StrLaws.split_free _ c) hf (StrLaws.join_split _ _)
def Wn(ps:List Pr):Prop:=∀p∈ps,nmB p.1=true
theorem fK{x:Str}(h:nmB x=true):1<=x.cps.size/\x.cps.size<=8/\∀c∈x.cps.toList,97<=c/\c<=122:=by
 unfold nmB at h
 simp only[Ζ,decide_eq_true_eq,ϭ]at h
 exact⟨h.1.1,h.1.2,h.2⟩
theorem jG:γ "*"=⟨#[42]⟩:=by decide +kernel
theorem vF:γ "+"=⟨#[43]⟩:=by decide +kernel
theorem fY{n:Int}(h0:0<=n)(h1:n<10^60):∀c∈(be n).cps.toList,48<=c/\c<=57:=(eJ (hU h0 h1).1).1
theorem wm{p:Pr}(h0:1<=p.2)(h1:p.2<10^60)(hn:nmB p.1=true):43∉(aH p).cps.toList:=by
 obtain⟨_,_,az⟩:=fK hn
 unfold aH
 split
 ·intro h;have:=az _ h;omega
 ·intro h
  rw[aJ,aJ,jG]at h
  rcases Τ.mp h with h|h
  ·rcases Τ.mp h with h|h
   ·have:=fY (n:=p.2) () h1 _ h;omega
   ·simp at h
  ·have:=az _ h;omega
theorem qp{p:Pr}(hn:nmB p.1=true):oV (aH p)=.non:=by
 obtain⟨n1,_,az⟩:=fK hn
 unfold oV
 rw[Q6]
 intro h
 obtain⟨ad,_,_⟩:=eJ h
 obtain⟨c,hc⟩:∃c,c∈p.1.cps.toList:=by
  cases e:p.1.cps.toList with
  |nil=>have:=Ι (xs:=p.1.cps);rw[e,j4]at this;omega
  |cons c r=>exact⟨c,ο⟩
 have a:=az c hc
 have:c∈(aH p).cps.toList:=by
  unfold aH
  split
  ·exact hc
  ·rw[aJ];exact ϔ _ hc
 have:=ad c this
 omega
def kY:Sp:=λvs H Q _=>∃p:Pr,vs=[.str (aH p)]/\1<=p.2/\p.2<10^60/\nmB p.1=true/\∀H' w,ak H H'->Rep H' (.tup [.str p.1,.int p.2]) w->Q w H'
theorem lK:am ["text","halves"] ["text"] (af iK):=by trivial
theorem uq{f:Addr}{fd:Θ}{k:Nat}(F:Fun K "part_of" "part_of" iK f fd)(T:Txt K mg)(Dnumber_of:Def P w K mg base k "number_of" ["word"] va):av P w K mg base CX0 (k+1) f fd ["text"] kY:=by
 have nd:=lK.nd
 refine F.ok lK (λvs H Q E h=>?_) (λcdv A outer s H vs Q E hr h=>?_)
 ·obtain⟨p,rfl,_⟩:=h
  rfl
 obtain⟨p,rfl,p1,p60,pn,q⟩:=h
 obtain⟨n1,n8,az⟩:=fK pn
 have pl:=hJ p1 p60 n8
 refine⟨_,(@un _ _ _ (wbO (wbM 1 nd rfl (υ rfl) (waj Κ g_ h_ cZ (wv 0 rfl) (wae waV waf rfl) rfl rfl rfl rfl rfl) rfl ()) (wbO (wbI (wbS aw (wal ar rfl T.len () (wae (wv 1 rfl) waf rfl) () () rfl rfl) waC (ai _)) (wbQ (wbK (waX (wae (waD aE (wv 1 rfl) waC (λ_ _=>rfl)) (wae (waq Dnumber_of hr rfl (wae (waD aE (wv 1 rfl) waC (λ_ _=>rfl)) waf rfl) () rfl rfl) waf rfl) rfl)))) wbP) (wbQ (wbK (waX (wae (wv 0 rfl) (wae waC waf rfl) rfl))))))),?_⟩
 have rp:∀{H':Hp}{t:Addr},H' t=some (.tup [.str p.1,.int p.2])->Rep H' (.tup [.str p.1,.int p.2]) (.ref t):=λ{H' t} h=>by
  rw[Rep];exact⟨t,_,rfl,h,by simp only[Reps];exact⟨_,_,rfl,by simp only[Rep],_,_,rfl,by simp only[Rep],rfl⟩⟩
 by_cases e1:p.2=1
 ·have ep:aH p=p.1:=Q5 e1
  have es:Txt.split (aH p) (γ "*")=[p.1]:=by
   rw[ep,jG]
   exact dC 42 (A:=[p.1]) () λz hz=>by rw[ξ.mp hz];intro h;have:=az _ h;omega
  refine⟨_,rfl,rfl,aH p,γ "*",rfl,rfl,(),by rw[θ];omega,by rw[es,θ];exact i_ rfl,λl hl=>?_⟩
  rw[es]
  refine gnm ?_
  refine⟨_,rfl,l,_,rfl,.inl (SqL.of aa),rfl,_,rfl,ap (λh=>absurd (Q7 h) (λz=>by injection z with z;exact absurd z (show ¬ ((1:Nat):Int)=2 by decide))) (λ_=>?_)⟩
  refine⟨_,rfl,z2,λt ht=>?_⟩
  rw[ep]
  refine q _ _ ((ac hl _).trans (ac ht _)) ?_
  have:=@rp (upd (upd H l (.lst ([p.1].map V.str))) t (.tup [.str p.1,.int 1])) t (by rw[aa,e1])
  exact this
 ·have ep:aH p=ύ (γ "*") [be p.2,p.1]:=by unfold aH;rw[Q6 e1,bb,bp]
  have es:Txt.split (aH p) (γ "*")=[be p.2,p.1]:=by
   rw[ep,jG]
   refine dC 42 (A:=[be p.2,p.1]) () λz hz=>?_
   rcases ν.mp hz with rfl|hz
   ·intro h;have:=fY (n:=p.2) () p60 _ h;omega
   ·rw[ξ.mp hz];intro h;have:=az _ h;omega
  have nl:=cT (i:=p.2) () p60
  refine⟨_,rfl,rfl,aH p,γ "*",rfl,rfl,(),by rw[θ];omega,by rw[es,θ];exact i_ rfl,λl hl=>?_⟩
  rw[es]
  have s1:=ac hl (.lst ([be p.2,p.1].map V.str))
  have h1:upd H l (.lst ([be p.2,p.1].map V.str)) l=some (.lst [.str (be p.2),.str p.1]):=aa
  generalize upd H l (.lst ([be p.2,p.1].map V.str))=H1 at s1 h1⊢
  refine gnm ?_
  refine⟨_,rfl,l,_,rfl,.inl (SqL.of h1),rfl,_,rfl,ap (λ_=>?_) (λh=>absurd (Q9 rfl) h)⟩
  refine⟨_,rfl,l,_,1,.str p.1,rfl,rfl,SqL.of h1,ae (j:=1) rfl,_,rfl,l,_,0,.str (be p.2),rfl,rfl,SqL.of h1,ae (j:=0) rfl,be p.2,rfl,(by show(be p.2).length<=1000;omega),λH2 s2=>⟨z2,λt ht=>?_⟩⟩
  rw[jR () p60]
  exact q _ _ (s1.trans (s2.trans (ac ht _))) (rp aa)
theorem uR{α:Type}(ys:List α)(z:α):atI (ys++[z]) (-1)=some z:=by
 unfold atI ixN
 rw[Q6 (),Q5 (by rw[Η,ϳ];omega)]
 show(ys++[z])[((-1:Int)+((ys++[z]).length:Int)).toNat]?=some z
 rw[show((-1:Int)+((ys++[z]).length:Int)).toNat=ys.length by rw[Η,ϳ];omega]
 simp
theorem yo(ys:List V)(z:V):bU (ys++[z]) none (some (-1))=ys:=by
 have h:HT.sIx (ys++[z]).length (ys++[z]).length (some (-1))=ys.length:=by
  unfold HT.sIx
  simp
  omega
 have h0:HT.sIx (ys++[z]).length 0 none=0:=rfl
 unfold bU
 rw[h,h0,B9,Nat.sub_zero,A9]
 rfl
theorem xI{c:Int}{ps:List Pr}:ba c ps≠[]:=by
 unfold ba
 split
 ·simp
 ·next h=>intro e;rw[ϡ,List.map_eq_nil_iff]at e;exact h (.inr e)
theorem sT{c:Int}{ps:List Pr}(h:Wr c ps)(hn:Wn ps):∀y∈ba c ps,43∉y.cps.toList:=λy hy=>by
 unfold ba at hy
 rcases Τ.mp hy with h1|h1
 ·obtain⟨p,hp,rfl⟩:=Ω.mp h1
  exact wm (h.can.ge p hp) (h.le p hp).1 (hn p hp)
 ·split at h1
  ·rw[ξ.mp h1];intro z;have:=fY h.c0 h.c1 _ z;omega
  ·cases h1
theorem mf{c:Int}{ps:List Pr}(h:Wr c ps)(hn:Wn ps):Txt.split (ci c ps) (γ "+")=ba c ps:=by
 unfold ci
 rw[vF]
 exact dC 43 xI (sT h hn)
def vG:Sp:=λvs H Q _=>∃(c:Int) (ps:List Pr),vs=[.str (ci c ps)]/\Wr c ps/\Wn ps/\∀H' w,ak H H'->Rep H' (bR c ps) w->Q w H'
theorem il:am ["text","texts","count"] ["text"] (af fq):=by trivial
theorem oN{f:Addr}{fd:Θ}{k:Nat}(F:Fun K "length_of" "length_of" fq f fd)(T:Txt K mg)(Dnumber_of:Def P w K mg base k "number_of" ["word"] va)(Dpart_of:Def P w K mg base k "part_of" ["text"] kY):av P w K mg base CX0 (k+1) f fd ["text"] vG:=by
 have nd:=il.nd
 refine F.ok il (λvs H Q E h=>?_) (λcdv A outer s H vs Q E hr h=>?_)
 ·obtain⟨c,ps,rfl,_⟩:=h
  rfl
 obtain⟨c,ps,rfl,wr,wn,q⟩:=h
 obtain⟨tl,tn⟩:=iy wr
 have ll:=cm wr
 have es:=mf wr wn
 have wl:=wr.len
 refine⟨_,(@un _ _ _ (wbO (wbM 1 nd rfl (υ rfl) (waj Κ g_ h_ cZ (wv 0 rfl) (wae waV waf rfl) rfl rfl rfl rfl rfl) rfl ()) (wbO (wbM 2 nd rfl (υ rfl) (waq Dnumber_of hr rfl (wae (waD aE (wv 1 rfl) (waY rZ waC) (λ_ _=>rfl)) waf rfl) () rfl rfl) rfl ()) (wbO (wbI (wbS iC (wv 2 rfl) waN (ai _)) (wbQ (wbK (waX (wae waC (wae (wam ay rfl T.tuple () (wae (waE ["each"] [] (wbi (wv 1 rfl)) (.of rfl) rfl (λ_ _ _=>⟨pg_name (i:=0) (bc (l:=["each"]) (()) rfl) rfl (υ rfl)⟩) (aW ()) (λ_ _ _=>wbx) (λ_ _ _=>(waq Dpart_of hr rfl (wae (wv 0 rfl) waf rfl) () rfl rfl)) ()) waf rfl) () () rfl rfl) waf rfl) rfl)))) wbP) (wbQ (wbK (waX (wae (wv 2 rfl) (wae (wam ay rfl T.tuple () (wae (waE ["each"] [] (wbi (waT cX (wv 1 rfl) wbz (wbA (waY rZ waC)))) (.of rfl) rfl (λ_ _ _=>⟨pg_name (i:=0) (bc (l:=["each"]) (()) rfl) rfl (υ rfl)⟩) (aW ()) (λ_ _ _=>wbx) (λ_ _ _=>(waq Dpart_of hr rfl (wae (wv 0 rfl) waf rfl) () rfl rfl)) ()) waf rfl) () () rfl rfl) waf rfl) rfl)))))))),?_⟩
 refine⟨_,rfl,rfl,ci c ps,γ "+",rfl,rfl,(),by rw[θ];omega,by rw[es,θ];omega,λl hl=>?_⟩
 rw[es]
 have s1:=ac hl (.lst ((ba c ps).map V.str))
 have h1:upd H l (.lst ((ba c ps).map V.str)) l=some (.lst ((ba c ps).map V.str)):=aa
 generalize upd H l (.lst ((ba c ps).map V.str))=H1 at s1 h1⊢
 refine gnm ?_
 have rd:∀(l2:Addr)(H2:Hp){σ:St}{Q2:List V->Hp->Prop},H2 l2=some (.lst ((ps.map aH).map V.str))->(∀ys H',ak H2 H'->Reps H' (aR ps) ys->Q2 ys H')->rLC (Itl K l2) 1 [] (dE 0) yW (mX kY [] E0 (qj (lG 0) qV)) σ H2 Q2:=λl2 H2 σ Q2 hl2 q2=>by
  refine dL (xs:=(ps.map aH).map V.str) (λi ys H'=>ak H2 H'/\Reps H' (aR (ps.take i)) ys) ⟨ak.refl _,by simp[Reps]⟩ (λi ys H' _ p=>SqL.of (p.1 _ _ hl2)) ?_ ?_
  ·rintro i ys H3 x hx ⟨s3,R3⟩
   rw[Ψ,Ν]at hx
   obtain⟨p,hp,rfl⟩:=ϖ.mp hx
   have hpm:=Ο hp
   have hi:i<ps.length:=(ψ.mp hp).1
   refine aV ⟨_,rfl,p,rfl,wr.can.ge p hpm,(wr.le p hpm).1,wn p hpm,λH4 w4 s4 R4=>⟨?_,s3.trans s4,?_⟩⟩
   ·rw[R3.length,δ,Υ,θ];omega
   ·rw[ϕ,hp,show aR (ps.take i++(some p).toList)=aR (ps.take i)++aR [p]from ς]
    exact Reps.append (R3.mono s4) (aQ R4)
  ·rintro ys H3 ⟨s3,R3⟩
   rw[δ,δ,ϒ]at R3
   exact q2 ys H3 s3 R3
 by_cases hc:c≠0\/ps=[]
 ·have el:ba c ps=ps.map aH++[be c]:=by unfold ba;rw[Q5 hc]
  rw[el,ς]at h1
  have nl:=cT wr.c0 wr.c1
  refine⟨_,rfl,_,rfl,l,_,-1,.str (be c),rfl,rfl,SqL.of h1,uR _ _,be c,rfl,(by show(be c).length<=1000;omega),λH2 s2=>?_⟩
  rw[jR wr.c0 wr.c1]
  refine gnm ?_
  refine⟨_,rfl,rfl,_,rfl,ap (λh=>absurd h ()) (λ_=>?_)⟩
  have h2:=s2 _ _ h1
  refine⟨_,rfl,_,rfl,?_⟩
  dsimp only[bz]
  refine⟨_,rfl,_,rfl,l,_,rfl,SqL.of h2,λl3 hl3=>?_⟩
  have ec:bU ((ps.map aH).map V.str++[be c].map V.str) none (some (-1))=(ps.map aH).map V.str:=yo _ _
  rw[ec]
  have s3:=ac hl3 (.lst ((ps.map aH).map V.str))
  refine⟨l3,rfl,⟨_,SqL.of aa⟩,rd l3 _ aa λys H4 s4 R4 l5 hl5=>?_⟩
  have s5:=ac hl5 (.lst ys)
  refine⟨l5,_,rfl,.inl ⟨SqL.of aa,λt ht=>⟨z2,λm hm=>?_⟩⟩⟩
  have s6:=ac ht (.tup ys)
  have s7:=ac hm (.tup [.int c,.ref t])
  have s57:=s5.trans (s6.trans s7)
  exact q _ _ (s1.trans (s2.trans (s3.trans (s4.trans s57)))) (oT aa (s7 _ _ aa) (R4.mono s57))
 ·have el:ba c ps=ps.map aH:=by unfold ba;rw[Q6 hc,ϡ]
  have c0:c=0:=Classical.byContradiction λz=>hc (.inl z)
  have pne:ps≠[]:=λz=>hc (.inr z)
  obtain⟨p0,pz,ep⟩:=oW pne
  rw[el]at h1
  have pm:pz∈ps:=by rw[ep];exact ϔ _ (ξ.mpr rfl)
  have hat:atI ((ps.map aH).map V.str) (-1)=some (.str (aH pz)):=by rw[ep,ς,ς];exact uR _ _
  have pl:=hJ (wr.can.ge pz pm) (wr.le pz pm).1 (wr.le pz pm).2
  refine⟨_,rfl,_,rfl,l,_,-1,.str (aH pz),rfl,rfl,SqL.of h1,hat,aH pz,rfl,(by show(aH pz).length<=1000;omega),λH2 s2=>?_⟩
  rw[qp (wn pz pm)]
  refine gnm ?_
  refine⟨_,rfl,rfl,_,rfl,ap (λ_=>?_) (λh=>absurd () h)⟩
  have h2:=s2 _ _ h1
  refine⟨_,rfl,l,rfl,⟨_,SqL.of h2⟩,rd l _ h2 λys H4 s4 R4 l5 hl5=>?_⟩
  have s5:=ac hl5 (.lst ys)
  refine⟨l5,_,rfl,.inl ⟨SqL.of aa,λt ht=>⟨z2,λm hm=>?_⟩⟩⟩
  have s6:=ac ht (.tup ys)
  have s7:=ac hm (.tup [.int 0,.ref t])
  have s57:=s5.trans (s6.trans s7)
  refine q _ _ (s1.trans (s2.trans (s4.trans s57))) ?_
  rw[c0]
  exact oT aa (s7 _ _ aa) (R4.mono s57)
abbrev iP:Stmt:=top 58
def gm(x:Str):Dv:=.tup [.str x,.non]
def brD:Kd->Dv
 |.whole=>gm (γ "whole")
 |.place c ps=>.tup [.str (γ "place"),.lst [gm (ci c ps)]]
 |.row c ps k=>.tup [.str (γ "row"),.lst [gm (ci c ps),brD k]]
 |.pair a b=>.tup [.str (γ "pair"),.lst [brD a,brD b]]
def Wa(c:Int)(ps:List Pr):Prop:=Wr c ps/\Wn ps
theorem fh{H:Hp}{x:Str}{v:V}(R:Rep H (gm x) v):∃a,v=.ref a/\H a=some (.tup [.str x,.non]):=by
 unfold gm at R
 obtain⟨a,vs,rfl,ha,rv⟩:=Rep.tup_inv R
 obtain⟨x1,x2,rfl,r1,r2⟩:=Reps.two rv
 simp only[Rep]at r1 r2
 subst r1 r2
 exact⟨a,rfl,ha⟩
theorem cU{H:Hp}{d:Dv}{vs:List V}(h:Reps H [d] vs):∃x,vs=[x]/\Rep H d x:=by
 simp only[Reps]at h
 obtain⟨v,r,rfl,h1,rfl⟩:=h
 exact⟨v,rfl,h1⟩
def nK:Sp:=λvs H Q _=>∃(v:V) (c:Int) (ps:List Pr),vs=[v]/\Rep H (gm (ci c ps)) v/\Wa c ps/\∀H' w,ak H H'->Rep H' (bR c ps) w->Q w H'
def fE(n:Nat):Sp:=λvs H Q _=>∃(v:V) (k:Kd),vs=[v]/\Rep H (brD k) v/\k.size<=n/\k.All Wa/\∀H' w,ak H H'->Rep H' k.dv w->Q w H'
theorem lU{H:Hp}{w:Str}{ds:List Dv}{v:V}(R:Rep H (.tup [.str w,.lst ds]) v):∃a l us,v=.ref a/\H a=some (.tup [.str w,.ref l])/\H l=some (.lst us)/\Reps H ds us:=by
 obtain⟨a,vs,rfl,ha,rv⟩:=Rep.tup_inv R
 obtain⟨x1,x2,rfl,r1,r2⟩:=Reps.two rv
 simp only[Rep]at r1 r2
 obtain⟨l,us,rfl,hl,ru⟩:=r2
 subst r1
 exact⟨a,l,us,rfl,ha,hl,ru⟩
theorem oQ:am ["branch"] ["branch"] (af fF):=by trivial
theorem oB{f:Addr}{fd:Θ}{k:Nat}(F:Fun K "length_in" "length_in" fF f fd)(T:Txt K mg)(Dlength_of:Def P w K mg base k "length_of" ["text"] vG):av P w K mg base CX0 (k+1) f fd ["branch"] nK:=by
 refine F.ok oQ (λvs H Q E h=>?_) (λcdv A outer s H vs Q E hr h=>?_)
 ·obtain⟨v,c,ps,rfl,_⟩:=h
  rfl
 obtain⟨v,c,ps,rfl,R,wa,q⟩:=h
 obtain⟨a,rfl,ha⟩:=fh R
 refine⟨_,(@un _ _ _ (wbQ (wbK (wac (wbS iC (waD aj (wv 0 rfl) waC (λ_ _=>rfl)) waN (ai _)) (waq Dlength_of hr rfl (wae (waD aj (wv 0 rfl) waC (λ_ _=>rfl)) waf rfl) () rfl rfl) waN)))),?_⟩
 dsimp only[bi,Cx.nox]
 refine⟨_,rfl,a,_,1,.non,rfl,rfl,SqT.of ha,ae (j:=1) rfl,rfl,_,rfl,ap (λ_=>?_) (λh=>absurd () h)⟩
 exact⟨_,rfl,a,_,0,.str (ci c ps),rfl,rfl,SqT.of ha,ae (j:=0) rfl,c,ps,rfl,wa.1,wa.2,q⟩
theorem jX:am ["branch","word","inner"] ["branch"] (af iP):=by trivial
theorem tG{f:Addr}{fd:Θ}{k0 n:Nat}(F:Fun K "kind_in" "kind_in" iP f fd)(T:Txt K mg)(Dlength_in:Def P w K mg base k0 "length_in" ["branch"] nK)(Dkind_in:Def P w K mg base k0 "kind_in" ["branch"] (fE n)):av P w K mg base CX0 (k0+1) f fd ["branch"] (fE (n+1)):=by
 have nd:=jX.nd
 refine F.ok jX (λvs H Q E h=>?_) (λcdv A outer s H vs Q E hr h=>?_)
 ·obtain⟨v,k,rfl,_⟩:=h
  rfl
 obtain⟨v,k,rfl,R,kn,kA,q⟩:=h
 refine⟨_,(@un _ _ _ (wbO (wbM 1 nd rfl (υ rfl) (waD aj (wv 0 rfl) waC (λ_ _=>rfl)) rfl ()) (wbO (wbM 2 nd rfl (υ rfl) (waD aj (wv 0 rfl) waC (λ_ _=>rfl)) rfl ()) (wbO (wbI (wbS iC (wv 2 rfl) waN (ai _)) (wbQ (wbK (waX (wae (wv 1 rfl) waf rfl)))) wbP) (wbO (wbI (wab (wbW (wbS aw (wv 1 rfl) waV (ai _)) (wbX (wbS aw (wal ar rfl T.len () (wae (wv 2 rfl) waf rfl) () () rfl rfl) waC (ai _))))) (wbQ (wbK (waX (wae waV (wae (waq Dlength_in hr rfl (wae (waD aE (wv 2 rfl) waC (λ_ _=>rfl)) waf rfl) () rfl rfl) waf rfl) rfl)))) wbP) (wbO (wbI (wab (wbW (wbS aw (wv 1 rfl) waV (ai _)) (wbX (wbS aw (wal ar rfl T.len () (wae (wv 2 rfl) waf rfl) () () rfl rfl) waC (ai _))))) (wbQ (wbK (waX (wae waV (wae (waq Dlength_in hr rfl (wae (waD aE (wv 2 rfl) waC (λ_ _=>rfl)) waf rfl) () rfl rfl) (wae (waq Dkind_in hr rfl (wae (waD aE (wv 2 rfl) waC (λ_ _=>rfl)) waf rfl) () rfl rfl) waf rfl) rfl) rfl)))) wbP) (wbO (wbI (wab (wbW (wbS aw (wv 1 rfl) waV (ai _)) (wbX (wbS aw (wal ar rfl T.len () (wae (wv 2 rfl) waf rfl) () () rfl rfl) waC (ai _))))) (wbQ (wbK (waX (wae waV (wae (waq Dkind_in hr rfl (wae (waD aE (wv 2 rfl) waC (λ_ _=>rfl)) waf rfl) () rfl rfl) (wae (waq Dkind_in hr rfl (wae (waD aE (wv 2 rfl) waC (λ_ _=>rfl)) waf rfl) () rfl rfl) waf rfl) rfl) rfl)))) wbP) (wbQ (wbK waN))))))))),?_⟩
 dsimp only[bi,Cx.nox]
 cases k with
 |whole=>
  obtain⟨a,rfl,ha⟩:=fh R
  refine⟨_,rfl,a,_,0,.str "whole",rfl,rfl,SqT.of ha,ae (j:=0) rfl,?_⟩
  refine gnm ?_
  refine⟨_,rfl,a,_,1,.non,rfl,rfl,SqT.of ha,ae (j:=1) rfl,?_⟩
  refine gnm ?_
  refine⟨_,rfl,rfl,_,rfl,ap (λ_=>?_) (λh=>absurd () h)⟩
  refine⟨_,rfl,z1,λt ht=>?_⟩
  exact q _ _ (ac ht _) (nJ aa)
 |place c ps=>
  obtain⟨a,l,us,rfl,ha,hl,ru⟩:=lU R
  obtain⟨u1,rfl,r1⟩:=cU ru
  refine⟨_,rfl,a,_,0,.str "place",rfl,rfl,SqT.of ha,ae (j:=0) rfl,?_⟩
  refine gnm ?_
  refine⟨_,rfl,a,_,1,.ref l,rfl,rfl,SqT.of ha,ae (j:=1) rfl,?_⟩
  refine gnm ?_
  refine⟨_,rfl,rfl,_,rfl,ap (λh=>absurd h ()) (λ_=>?_)⟩
  refine⟨_,rfl,rfl,_,rfl,ap (λ_=>?_) (λh=>absurd (Q9 rfl) h)⟩
  refine⟨_,rfl,l,_,rfl,.inl (SqL.of hl),rfl,_,rfl,ap (λ_=>?_) (λh=>absurd (Q9 rfl) h)⟩
  refine⟨_,rfl,l,_,0,u1,rfl,rfl,SqL.of hl,ae (j:=0) rfl,u1,c,ps,rfl,r1,kA,λH1 w1 s1 R1=>⟨z2,λt ht=>?_⟩⟩
  exact q _ _ (s1.trans (ac ht _)) (mT aa (R1.mono (ac ht _)))
 |row c ps j=>
  obtain⟨a,l,us,rfl,ha,hl,ru⟩:=lU R
  obtain⟨u1,u2,rfl,r1,r2⟩:=Reps.two ru
  have jn:j.size+1<=n+1:=kn
  refine⟨_,rfl,a,_,0,.str "row",rfl,rfl,SqT.of ha,ae (j:=0) rfl,?_⟩
  refine gnm ?_
  refine⟨_,rfl,a,_,1,.ref l,rfl,rfl,SqT.of ha,ae (j:=1) rfl,?_⟩
  refine gnm ?_
  refine⟨_,rfl,rfl,_,rfl,ap (λh=>absurd h ()) (λ_=>?_)⟩
  refine⟨_,rfl,rfl,_,rfl,ap (λh=>absurd (Q7 h) (wne (ϋ Ct))) (λ_=>aD ?_)⟩
  refine⟨_,rfl,rfl,_,rfl,ap (λ_=>?_) (λh=>absurd (Q9 rfl) h)⟩
  refine⟨_,rfl,l,_,rfl,.inl (SqL.of hl),rfl,_,rfl,ap (λ_=>?_) (λh=>absurd (Q9 rfl) h)⟩
  refine⟨_,rfl,l,_,0,u1,rfl,rfl,SqL.of hl,ae (j:=0) rfl,u1,c,ps,rfl,r1,kA.1,λH1 w1 s1 R1=>⟨_,rfl,l,_,1,u2,rfl,rfl,SqL.of (s1 _ _ hl),ae (j:=1) rfl,u2,j,rfl,r2.mono s1,(),kA.2,λH2 w2 s2 R2=>⟨z3,λt ht=>?_⟩⟩⟩
  have s3:=ac ht (.tup [.str "row",w1,w2])
  exact q _ _ (s1.trans (s2.trans s3)) (uz aa (R1.mono (s2.trans s3)) (R2.mono s3))
 |pair i j=>
  obtain⟨a,l,us,rfl,ha,hl,ru⟩:=lU R
  obtain⟨u1,u2,rfl,r1,r2⟩:=Reps.two ru
  have jn:i.size+j.size+1<=n+1:=kn
  refine⟨_,rfl,a,_,0,.str "pair",rfl,rfl,SqT.of ha,ae (j:=0) rfl,?_⟩
  refine gnm ?_
  refine⟨_,rfl,a,_,1,.ref l,rfl,rfl,SqT.of ha,ae (j:=1) rfl,?_⟩
  refine gnm ?_
  refine⟨_,rfl,rfl,_,rfl,ap (λh=>absurd h ()) (λ_=>?_)⟩
  refine⟨_,rfl,rfl,_,rfl,ap (λh=>absurd (Q7 h) (wne (ϋ BA))) (λ_=>aD ?_)⟩
  refine⟨_,rfl,rfl,_,rfl,ap (λh=>absurd (Q7 h) (wne (ϋ Bp))) (λ_=>aD ?_)⟩
  refine⟨_,rfl,rfl,_,rfl,ap (λ_=>?_) (λh=>absurd (Q9 rfl) h)⟩
  refine⟨_,rfl,l,_,rfl,.inl (SqL.of hl),rfl,_,rfl,ap (λ_=>?_) (λh=>absurd (Q9 rfl) h)⟩
  have ip:=i.size_pos
  have jp:=j.size_pos
  refine⟨_,rfl,l,_,0,u1,rfl,rfl,SqL.of hl,ae (j:=0) rfl,u1,i,rfl,r1,(),kA.1,λH1 w1 s1 R1=>⟨_,rfl,l,_,1,u2,rfl,rfl,SqL.of (s1 _ _ hl),ae (j:=1) rfl,u2,j,rfl,r2.mono s1,(),kA.2,λH2 w2 s2 R2=>⟨z3,λt ht=>?_⟩⟩⟩
  have s3:=ac ht (.tup [.str "pair",w1,w2])
  exact q _ _ (s1.trans (s2.trans s3)) (qJ aa (R1.mono (s2.trans s3)) (R2.mono s3))
abbrev tS:Stmt:=top 77
def jM(n:Nat):Sp:=λvs H Q _=>∃(a b:Addr) (rm:Int) (xs:List Str),vs=[.ref a,.ref b,.int rm]/\1<=rm/\rm<=n/\n<=12/\St2 H a/\H b=some (.lst (xs.map V.str))/\b≠a/\xs.length<=10 /\
 ∀(H':Hp)(v:V)(k:Kd),aq a H H'->St2 H' a->Rep H' k.dv v->k.All (Ln xs 99)->(k.size:Int)<=rm->Q v H'
theorem uE:am ["_law_state_here","_law_names_here","_law_room","_law_way","_law_share","_law_one","_law_length_here"] ["_law_state_here","_law_names_here","_law_room"] (af tS):=by trivial
theorem zG{f:Addr}{fd:Θ}{k0 n:Nat}(F:Fun K "_law_kind" "_law_kind" tS f fd)(T:Txt K mg)(D_law_draw:Def P w K mg base k0 "_law_draw" ["_law_state_here","_law_many"] dQ)(D_law_length:Def P w K mg base k0 "_law_length" ["_law_state_here","_law_names_here","_law_most"] jJ)(D_law_kind:Def P w K mg base k0 "_law_kind" ["_law_state_here","_law_names_here","_law_room"] (jM n)):av P w K mg base CX0 (k0+1) f fd ["_law_state_here","_law_names_here","_law_room"] (jM (n+1)):=by
 have nd:=uE.nd
 refine F.ok uE (λvs H Q E h=>?_) (λcdv A outer s H vs Q E hr h=>?_)
 ·obtain⟨a,b,rm,xs,rfl,_⟩:=h
  rfl
 obtain⟨a,b,rm,xs,rfl,r1,rn,n12,st,hb,hba,lx,q⟩:=h
 refine⟨_,(@un _ _ _ (wbO (wbM 3 nd rfl (υ rfl) (waq D_law_draw hr rfl (wae (wv 0 rfl) (wae waC waf rfl) rfl) () rfl rfl) rfl ()) (wbO (wbI (wab (wbW (wbS eR (wv 2 rfl) waC (ai _)) (wbX (wbS aw (wv 3 rfl) waC (ai _))))) (wbO (wbM 4 nd rfl (υ rfl) (waQ bO waC (waq D_law_draw hr rfl (wae (wv 0 rfl) (wae (waQ cn (wv 2 rfl) waC) waf rfl) rfl) () rfl rfl)) rfl ()) (wbO (wbM 5 nd rfl (υ rfl) (waq D_law_kind hr rfl (wae (wv 0 rfl) (wae (wv 1 rfl) (wae (wv 4 rfl) waf rfl) rfl) rfl) () rfl rfl) rfl ()) (wbQ (wbK (waX (wae waV (wae (wv 5 rfl) (wae (waq D_law_kind hr rfl (wae (wv 0 rfl) (wae (wv 1 rfl) (wae (waQ cn (waQ cn (wv 2 rfl) waC) (wv 4 rfl)) waf rfl) rfl) rfl) () rfl rfl) waf rfl) rfl) rfl)))))) wbP) (wbO (wbI (wbS aw (wv 3 rfl) waC (ai _)) (wbQ (wbK (waX (wae waV waf rfl)))) wbP) (wbO (wbM 6 nd rfl (υ rfl) (waq D_law_length hr rfl (wae (wv 0 rfl) (wae (wv 1 rfl) (wae waC waf rfl) rfl) rfl) () rfl rfl) rfl ()) (wbO (wbI (wab (wbW (wbS eR (wv 2 rfl) waC (ai _)) (wbX (wbS jk (wv 3 rfl) waC (ai _))))) (wbQ (wbK (waX (wae waV (wae (wv 6 rfl) (wae (waq D_law_kind hr rfl (wae (wv 0 rfl) (wae (wv 1 rfl) (wae (waQ cn (wv 2 rfl) waC) waf rfl) rfl) rfl) () rfl rfl) waf rfl) rfl) rfl)))) wbP) (wbQ (wbK (waX (wae waV (wae (wv 6 rfl) waf rfl) rfl)))))))))),?_⟩
 refine⟨_,rfl,a,5,rfl,st,(),(),λH1 x s1 st1 x0 x5=>?_⟩
 have b1:=s1 _ _ hba hb
 refine gnm ?_
 dsimp only
 refine uP (2<rm/\x=0) ?A ?B (λqT qF=>⟨_,rfl,_,_,rfl,rfl,_,rfl,ap (λh1=>⟨_,rfl,rfl,_,rfl,ap (λh2=>ifT (qT ⟨Q7 h1,by simpa using h2⟩)) (λ_=>ifF qF)⟩) (λ_=>qF)⟩)
 case A=>
  rintro⟨pr,hx⟩
  refine ax ?_
  refine⟨_,rfl,_,rfl,_,_,rfl,rfl,a,rm-2,rfl,st1,(),(),λH2 y s2 st2 y0 y1=>⟨_,_,rfl,rfl,?_⟩⟩
  refine gnm ?_
  have b2:=s2 _ _ hba b1
  have s02:=s1.trans s2
  refine⟨_,rfl,_,rfl,_,rfl,a,b,1+y,xs,rfl,(),(),(),st2,b2,hba,lx,λH3 v3 k3 s3 st3 R3 A3 z3'=>?_⟩
  refine gnm ?_
  have b3:=s3 _ _ hba b2
  refine⟨_,rfl,_,rfl,_,rfl,_,rfl,_,_,rfl,rfl,_,rfl,_,_,rfl,rfl,a,b,rm-1-(1+y),xs,rfl,(),(),(),st3,b3,hba,lx,λH4 v4 k4 s4 st4 R4 A4 z4=>⟨z3,λt ht=>?_⟩⟩
  have t4:=st3.tups s4
  have s5:=ac ht (.tup [.str "pair",v3,v4])
  refine q _ _ (.pair k3 k4) (s02.trans (s3.trans (s4.trans (ak.b a s5)))) (st4.m s5) (qJ aa ((Kd.tupS t4 R3).mono s5) (R4.mono s5)) ⟨A3,A4⟩ ?_
  show((k3.size+k4.size+1:Nat):Int)<=rm
  omega
 case B=>
  refine aD (tnx ?_)
  dsimp only
  refine⟨_,rfl,rfl,_,rfl,ap (λ_=>⟨z1,λt ht=>?_⟩) (λ_=>?_)⟩
  ·have s2:=ac ht (.tup [.str "whole"])
   exact q _ _ .whole (s1.trans (ak.b a s2)) (st1.m s2) (nJ aa) trivial (by show(1:Int)<=rm;omega)
  refine⟨_,rfl,_,rfl,a,b,99,xs,rfl,st1,b1,hba,lx,(),(),λH2 v2 c ps s2 st2 R2 ln=>?_⟩
  refine gnm ?_
  dsimp only
  have b2:=s2 _ _ hba b1
  have s02:=s1.trans s2
  refine uP (1<rm) ?C ?D (λqT qF=>⟨_,rfl,_,_,rfl,rfl,_,rfl,ap (λh1=>⟨_,rfl,_,_,rfl,rfl,_,rfl,ap (λ_=>ifT (qT (Q7 h1))) (λ_=>ifF qF)⟩) (λ_=>qF)⟩)
  case C=>
   intro r2
   refine ax ⟨_,rfl,_,rfl,_,rfl,_,rfl,_,_,rfl,rfl,a,b,rm-1,xs,rfl,(),(),(),st2,b2,hba,lx,λH3 v3 k3 s3 st3 R3 A3 z3'=>⟨z3,λt ht=>?_⟩⟩
   have t3:=st2.tups s3
   have s4:=ac ht (.tup [.str "row",v2,v3])
   refine q _ _ (.row c ps k3) (s02.trans (s3.trans (ak.b a s4))) (st3.m s4) (uz aa ((aT t3 (oE c ps) R2).mono s4) (R3.mono s4)) ⟨ln,A3⟩ ?_
   show((k3.size+1:Nat):Int)<=rm
   omega
  case D=>
   refine aD ⟨_,rfl,z2,λt ht=>?_⟩
   have s4:=ac ht (.tup [.str "place",v2])
   exact q _ _ (.place c ps) (s02.trans (ak.b a s4)) (st2.m s4) (mT aa (R2.mono s4)) ln (by show(1:Int)<=rm;omega)
def vf(s:Stmt)(i:Nat):Stmt:=match s with|.ClassDef _ _ _ body _ _ _ _ _ _ _=>body.getD i (.Pass ⟨0,0,0,0⟩)|_=>.Pass ⟨0,0,0,0⟩
abbrev gg:Stmt:=vf (top 51) 0
abbrev mH:Stmt:=vf (top 51) 1
abbrev bV:Stmt:=vf (top 51) 2
abbrev ee:Stmt:=vf (top 51) 3
def Sg(C:Addr)(H:Hp)(a:Addr)(x:Str)(i:Nat):Prop:=∃dx,H a=some (.ins C dx [(γ "text",.str x),(γ "at",.int i)])
theorem CJ:(γ "at" == γ "text")=false:=by decide +kernel
theorem iw(x:Str)(i:Int):ϲ (γ "text") [(γ "text",V.str x),(γ "at",V.int i)]=some (.str x):=by rw[Ϟ,beq_self_eq_true]
theorem jq(x:Str)(i:Int):ϲ (γ "at") [(γ "text",V.str x),(γ "at",V.int i)]=some (.int i):=by rw[Ϟ,CJ,Ϟ,beq_self_eq_true]
theorem xN(x:Str)(i j:Int):dU (γ "at") (.int j) [(γ "text",V.str x),(γ "at",V.int i)]=[(γ "text",V.str x),(γ "at",V.int j)]:=by
 have h:¬ γ "text"=γ "at":=by decide +kernel
 simp[dU,h]
def AM(C:Addr):Sp:=λvs H Q _=>∃(a:Addr) (x y:Str) (i:Nat),vs=[.ref a,.str y]/\Sg C H a x i/\y.length<=10 /\
 (Txt.startswith3 x y i=false->Q (.bl false) H)/\(Txt.startswith3 x y i=true->∀H',aq a H H'->Sg C H' a x (i+y.length)->Q (.bl true) H')
theorem BF:am ["self","signs"] ["self","signs"] (af mH):=by trivial
theorem Cw{f C:Addr}{fd:Θ}(F:Fun K "met" "Signs.met" mH f fd)(T:Txt K mg)(cl:Cls K C)(nT:cq K C "text")(nA:cq K C "at"):av P w K mg base CX0 1 f fd ["self","signs"] (AM C):=by
 refine F.ok BF (λvs H Q E h=>?_) (λcdv A outer s H vs Q E hr h=>?_)
 ·obtain⟨a,x,y,i,rfl,_⟩:=h
  rfl
 obtain⟨a,x,y,i,rfl,⟨dx,ha⟩,ly,qf,qt⟩:=h
 refine⟨_,(@un _ _ _ (wbO (wbI (wbT (wbV (waj Κ B1 B2 uv (waG (wv 0 rfl) rfl) (wae (wv 1 rfl) (wae (waG (wv 0 rfl) rfl) waf rfl) rfl) rfl rfl rfl rfl rfl) ())) (wbQ (wbK wah)) wbP) (wbO (waI (wv 0 rfl) (wal bK rfl T.len () (wae (wv 1 rfl) waf rfl) () () rfl rfl) xz) (wbQ (wbK wah))))),?_⟩
 dsimp only[bi,Cx.nox]
 refine⟨_,rfl,a,C,dx,_,.str x,rfl,ha,cl,nT,iw _ _,rfl,_,rfl,_,rfl,a,C,dx,_,.int i,rfl,ha,cl,nA,jq _ _,x,y,i,rfl,rfl,_,rfl,?_⟩
 cases e:Txt.startswith3 x y i with
 |false=>exact ax (qf e)
 |true=>
  refine aD ?_
  refine⟨_,rfl,a,C,dx,_,.int i,rfl,ha,cl,nA,jq _ _,_,rfl,y,rfl,?_,i,y.length,rfl,rfl,dx,_,ha,i_ rfl,?_⟩
  ·rw[θ];omega
  ·refine qt e _ (aq.upd _ _ _) ⟨dx,?_⟩
   rw[aa,xN]
   rfl
theorem xE:am ["self","text"] ["self","text"] (af gg):=by trivial
def vL(C:Addr):Sp:=λvs H Q _=>∃(a dx:Addr) (x:Str),vs=[.ref a,.str x]/\H a=some (.ins C dx [])/\∀H',aq a H H'->Sg C H' a x 0->Q .non H'
theorem xA{f C:Addr}{fd:Θ}(F:Fun K "__init__" "Signs.__init__" gg f fd)(T:Txt K mg)(cl:Cls K C)(nT:cq K C "text")(nA:cq K C "at"):av P w K mg base CX0 1 f fd ["self","text"] (vL C):=by
 refine F.ok xE (λvs H Q E h=>?_) (λcdv A outer s H vs Q E hr h=>?_)
 ·obtain⟨a,dx,x,rfl,_⟩:=h
  rfl
 obtain⟨a,dx,x,rfl,ha,q⟩:=h
 refine⟨_,(@un _ _ _ (wbO (waH (wv 0 rfl) (wv 1 rfl) rfl) (wbQ (waH (wv 0 rfl) waC rfl)))),?_⟩
 dsimp only[bi,Cx.nox]
 refine⟨_,rfl,_,rfl,a,C,dx,_,rfl,ha,cl,nT,i_ rfl,?_⟩
 refine⟨_,rfl,a,C,dx,_,rfl,aa,cl,nA,i_ rfl,?_⟩
 refine q _ ((aq.upd _ _ _).trans (aq.upd _ _ _)) ⟨dx,?_⟩
 rw[aa]
 have h:¬ γ "text"=γ "at":=by decide +kernel
 simp[dU,h]
theorem ic:am ["self","start"] ["self"] (af bV):=by trivial
def bJ(c:Nat):Bool:=c==40||c==44||c==41
theorem AH(c:Nat):inV (.str ⟨#[c]⟩) [.str (γ "("),.str (γ ","),.str (γ ")")]=bJ c:=by
 have e1:γ "("=⟨#[40]⟩:=by decide +kernel
 have e2:γ ","=⟨#[44]⟩:=by decide +kernel
 have e3:γ ")"=⟨#[41]⟩:=by decide +kernel
 have h:∀d:Nat,((⟨#[d]⟩:Str)==⟨#[c]⟩)=(c==d):=λd=>by
  rw[o9,beq_iff_eq,beq_iff_eq]
  constructor
  ·intro z;injection z with z;injection z with z;injection z with z _;exact z.symm
  ·intro z;rw[z]
 rw[e1,e2,e3]
 show(((⟨#[40]⟩:Str)==⟨#[c]⟩)||(((⟨#[44]⟩:Str)==⟨#[c]⟩)||(((⟨#[41]⟩:Str)==⟨#[c]⟩)||false)))=bJ c
 rw[h,h,h,Bool.or_false]
 unfold bJ
 rw[Bool.or_assoc]
def xL(C:Addr):Sp:=λvs H Q _=>∃(a:Addr) (x:Str) (i j:Nat),vs=[.ref a]/\Sg C H a x i/\x.length<=1000000/\i<=j/\j<=x.length/\(∀m,i<=m->m<j->∃c,x.cps.toList[m]?=some c/\bJ c=false)/\(j<x.length->∃c,x.cps.toList[j]?=some c/\bJ c=true) /\
 ∀H',aq a H H'->Sg C H' a x j->Q (.str (Txt.slice x (some i) (some j))) H'
theorem og{f C:Addr}{fd:Θ}(F:Fun K "next_word" "Signs.next_word" bV f fd)(T:Txt K mg)(cl:Cls K C)(nT:cq K C "text")(nA:cq K C "at"):av P w K mg base CX0 1 f fd ["self"] (xL C):=by
 have nd:=ic.nd
 refine F.ok ic (λvs H Q E h=>?_) (λcdv A outer s H vs Q E hr h=>?_)
 ·obtain⟨a,x,i,j,rfl,_⟩:=h
  rfl
 obtain⟨a,x,i,j,rfl,⟨dx,ha⟩,lx,hij,hj,nost,stp,q⟩:=h
 refine⟨_,(@un _ _ _ (wbO (wbM 1 nd rfl (υ rfl) (waG (wv 0 rfl) rfl) rfl ()) (wbO (wbN Ϯ (wab (wbW (wbS jk (waG (wv 0 rfl) rfl) (wal bK rfl T.len () (wae (waG (wv 0 rfl) rfl) waf rfl) () () rfl rfl) (ai _)) (wbX (wbS ij (waD si (waG (wv 0 rfl) rfl) (waG (wv 0 rfl) rfl) (λ_ _=>rfl)) (waX (wae waV (wae waV (wae waV waf rfl) rfl) rfl)) (by with_unfolding_all rfl))))) (wbQ (waI (wv 0 rfl) waC xz))) (wbQ (wbK (waT lH (waG (wv 0 rfl) rfl) (wbA (wv 1 rfl)) (wbA (waG (wv 0 rfl) rfl)))))))),?_⟩
 dsimp only[bi,Cx.nox]
 refine⟨_,rfl,a,C,dx,_,.int i,rfl,ha,cl,nA,jq _ _,?_⟩
 refine gnm ?_
 have lz:x.length<=sizeLine:=by rw[θ];omega
 refine⟨λm σ H'=>∃p:Nat,m=j-p/\i<=p/\p<=j/\σ=[some (.ref a),some (.int i)]/\aq a H H'/\Sg C H' a x p,⟨_,i,rfl,π _,hij,rfl,aq.refl _ _,dx,ha⟩,?_⟩
 rintro m σ H1 ⟨p,rfl,ip,pj,rfl,s1,dx1,ha1⟩
 have stop:∀H2,aq a H1 H2->p=j->H2 a=some (.ins C dx1 [(γ "text",.str x),(γ "at",.int (p:Int))])->Q (.str (Txt.slice x (some (i:Int)) (some (p:Int)))) H2:=λH2 s2 e h2=>by
  subst e
  exact q H2 (s1.trans s2) ⟨dx1,h2⟩
 refine⟨_,rfl,a,C,dx1,_,.int p,rfl,ha1,cl,nA,jq _ _,_,rfl,a,C,dx1,_,.str x,rfl,ha1,cl,nT,iw _ _,x,rfl,lz,_,_,rfl,rfl,_,rfl,ap (λhp=>?_) (λhp=>?_)⟩
 ·have hp':p<x.length:=by have:=Q7 hp;omega
  have hl:p<x.cps.toList.length:=by rw[Ι];exact hp'
  have hat:=ae (Α hl)
  refine⟨_,rfl,a,C,dx1,_,.str x,rfl,ha1,cl,nT,iw _ _,_,rfl,a,C,dx1,_,.int p,rfl,ha1,cl,nA,jq _ _,x,p,_,rfl,rfl,lz,hat,z3,λt ht=>⟨t,_,rfl,.inr (SqT.of aa),rfl,rfl,_,rfl,?_⟩⟩
  have s2:=ac ht (.tup [.str "(",.str ",",.str ")"])
  have ha2:=s2 _ _ ha1
  generalize upd H1 t (.tup [.str "(",.str ",",.str ")"])=H2 at s2 ha2⊢
  show if (!inV (.str ⟨#[x.cps.toList[p]]⟩) [.str "(",.str ",",.str ")"])=true then _ else _
  rw[AH]
  by_cases e:p=j
  ·obtain⟨c,hc,sc⟩:=stp ()
   rw[<-e,Α hl]at hc
   cases hc
   rw[sc]
   refine aD ⟨_,rfl,a,C,dx1,_,.str x,rfl,ha2,cl,nT,iw _ _,_,rfl,_,rfl,_,rfl,a,C,dx1,_,.int p,rfl,ha2,cl,nA,jq _ _,_,rfl,x,rfl,lz,?_⟩
   exact stop H2 (ak.b a s2) e ha2
  ·obtain⟨c,hc,sc⟩:=nost p ip ()
   rw[Α hl]at hc
   cases hc
   rw[sc]
   refine ax ⟨λσ' H'=>∃p':Nat,j-p'<j-p/\i<=p'/\p'<=j/\σ'=[some (.ref a),some (.int i)]/\aq a H H'/\Sg C H' a x p',λσ' H' ⟨p',h1,h2,h3,h4,h5,h6⟩=>⟨j-p',h1,p',rfl,h2,h3,h4,h5,h6⟩,?_⟩
   refine⟨_,rfl,a,C,dx1,_,.int p,rfl,ha2,cl,nA,jq _ _,p,1,rfl,rfl,dx1,_,ha2,i_ rfl,p+1,(),(),(),rfl,s1.trans ((ak.b a s2).trans (aq.upd _ _ _)),dx1,?_⟩
   rw[aa,xN]
   rfl
 ·have e:p=j:=by
   have:¬ (p:Int)<x.length:=λz=>hp (Q9 z)
   omega
  refine⟨_,rfl,a,C,dx1,_,.str x,rfl,ha1,cl,nT,iw _ _,_,rfl,_,rfl,_,rfl,a,C,dx1,_,.int p,rfl,ha1,cl,nA,jq _ _,_,rfl,x,rfl,lz,?_⟩
  exact stop H1 (aq.refl _ _) e ha1
theorem ky{x w:Str}{i:Nat}{post:List Nat}(h:x.cps.toList.drop i=w.cps.toList++post)(hi:i<=x.length):i+w.length+post.length=x.length:=by
 have e:=congrArg w_ h
 rw[Ϸ,Η,Ι,Ι]at e
 have e1:x.length=x.cps.size:=rfl
 have e2:w.length=w.cps.size:=rfl
 omega
theorem rL{x w:Str}{i:Nat}{post:List Nat}(h:x.cps.toList.drop i=w.cps.toList++post)(hi:i<=x.length):Txt.slice x (some (i:Int)) (some ((i+w.length:Nat):Int))=w:=by
 have hl:=ky h hi
 have e:=PyProof.Rows.slice_closesL (x:=x) (i:=i) (j:=((i+w.length:Nat):Int)) () () ()
 rw[beq_iff_eq.mp e,show((i:Int)).toNat=i by omega,show(((i+w.length:Nat):Int)-(i:Int)).toNat=w.length by omega,h]
 refine dF ?_
 show((w.cps.toList++post).take w.length).toArray.toList=_
 rw[show w.length=w.cps.toList.length from(Ι).symm,A9 rfl]
theorem mP{x y:Str}{i:Nat}(hi:i<=x.length):Txt.startswith3 x y (i:Int)=((x.cps.toList.drop i).take y.length==y.cps.toList):=by
 have ef:fromIndex x.length (i:Int)=i:=by
  unfold fromIndex
  rw[Q6 ()]
  omega
 unfold Txt.startswith3
 rw[ef,C5]
 by_cases h:i+y.length<=x.length
 ·rw[Q9 h,ϧ]
 ·rw[Q8 h,ϴ,eq_comm,beq_eq_false_iff_ne]
  intro e
  have:=congrArg w_ e
  rw[Υ,Ϸ,Ι,Ι]at this
  have e1:x.length=x.cps.size:=rfl
  have e2:y.length=y.cps.size:=rfl
  omega
def Bh(post:List Nat):Prop:=post=[]\/∃c r,post=c::r/\(c=44\/c=41)
theorem mY{x w:Str}{i:Nat}{post:List Nat}(h:x.cps.toList.drop i=w.cps.toList++post)(hi:i<=x.length)(hw:∀c∈w.cps.toList,bJ c=false)(hp:post=[]\/∃c r,post=c::r/\bJ c=true):
  i<=i+w.length/\i+w.length<=x.length/\(∀m,i<=m->m<i+w.length->∃c,x.cps.toList[m]?=some c/\bJ c=false)/\(i+w.length<x.length->∃c,x.cps.toList[i+w.length]?=some c/\bJ c=true):=by
 have hl:=ky h hi
 have lw:w.length=w.cps.toList.length:=(Ι).symm
 have at_:∀m,x.cps.toList[i+m]?=(w.cps.toList++post)[m]?:=λm=>by rw[<-h,List.getElem?_drop]
 refine⟨(),(),λm h1 h2=>?_,λh1=>?_⟩
 ·have e:=at_ (m-i)
  have hm:m-i<w.cps.toList.length:=by omega
  rw[show i+(m-i)=m by omega,i6 hm,Α hm]at e
  exact⟨_,e,hw _ (j5 _)⟩
 ·rcases hp with rfl|⟨c,r,rfl,hc⟩
  ·simp at hl;omega
  ·refine⟨c,?_,hc⟩
   rw[at_,lw,ϵ (π _),Ge];rfl
inductive Br|leaf (w:Str)|nd (w:Str) (ts:List Br)
mutual
def brT:Br->Str
 |.leaf w=>w
 |.nd w ts=>w++γ "(" ++ ύ (γ ", ") (brTs ts)++γ ")"
def brTs:List Br->List Str
 |[]=>[]
 |t::ts=>brT t::brTs ts
end
mutual
def bE:Br->Dv
 |.leaf w=>gm w
 |.nd w ts=>.tup [.str w,.lst (brDvs ts)]
def brDvs:List Br->List Dv
 |[]=>[]
 |t::ts=>bE t::brDvs ts
end
mutual
def bu:Br->Nat
 |.leaf _=>0
 |.nd _ ts=>brDps ts+1
def brDps:List Br->Nat
 |[]=>0
 |t::ts=>max (bu t) (brDps ts)
end
mutual
def bC:Br->Prop
 |.leaf w=>(∀c∈w.cps.toList,bJ c=false)/\1<=w.cps.size
 |.nd w ts=>(∀c∈w.cps.toList,bJ c=false)/\ts.length<=8/\brOks ts
def brOks:List Br->Prop
 |[]=>True
 |t::ts=>bC t/\brOks ts
end
theorem dG:∀ts,brTs ts=ts.map brT
 |[]=>rfl
 |t::ts=>by rw[brTs,dG ts];rfl
theorem gh:∀ts,brDvs ts=ts.map bE
 |[]=>rfl
 |t::ts=>by rw[brDvs,gh ts];rfl
theorem qr:∀{ts:List Br}{u},u∈ts->bu u<=brDps ts
 |t::ts,u,h=>by
  rw[brDps]
  rcases ν.mp h with rfl|h
  ·omega
  ·have:=qr h;omega
theorem mG:∀{ts:List Br},brOks ts->∀u∈ts,bC u
 |t::ts,h,u,hu=>by
  rw[brOks]at h
  rcases ν.mp hu with rfl|hu
  ·exact h.1
  ·exact mG h.2 u hu
theorem kH:∀{ts:List Br},(∀u∈ts,bC u)->brOks ts
 |[],_=>trivial
 |t::ts,h=>⟨h t ο,kH λu hu=>h u (Ε _ hu)⟩
theorem uI{m:Str}(h1:(m==γ "text")=false)(h2:(m==γ "at")=false)(x:Str)(i:Int):ϲ m [(γ "text",V.str x),(γ "at",V.int i)]=none:=by rw[Ϟ,h1,Ϟ,h2];rfl
theorem AJ{post:List Nat}(h:Bh post):post=[]\/∃c r,post=c::r/\bJ c=true:=by
 rcases h with h|⟨c,r,h,rfl|rfl⟩
 ·exact .inl h
 ·exact .inr ⟨_,r,h,rfl⟩
 ·exact .inr ⟨_,r,h,rfl⟩
theorem AG{x w:Str}{i:Nat}{post:List Nat}(h:x.cps.toList.drop i=w.cps.toList++post)(hi:i<=x.length)(hp:Bh post):Txt.startswith3 x (γ "(") ((i+w.length:Nat):Int)=false:=by
 have hl:=ky h hi
 rw[mP (),show(x.cps.toList.drop (i+w.length))=post by
  rw[<-List.drop_drop,h,show w.length=w.cps.toList.length from(Ι).symm,EM rfl]]
 have e:(γ "(").cps.toList=[40]:=by decide +kernel
 rw[e,lb3]
 rcases hp with rfl|⟨c,r,rfl,rfl|rfl⟩
 ·rfl
 ·rfl
 ·rfl
def nw(H H':Hp):Hp:=λb=>match H b with|none=>H' b|some _=>none
def fe(C:Addr)(n:Nat):Sp:=λvs H Q _=>∃(a:Addr) (x:Str) (i:Nat) (most:Int) (t:Br) (post:List Nat),vs=[.ref a,.int most]/\Sg C H a x i/\x.length<=1000000/\i<=x.length/\x.cps.toList.drop i=(brT t).cps.toList++post/\Bh post/\bC t/\(bu t:Int)<=most/\most<n /\
 ∀H' v,aq a H H'->Sg C H' a x (i+(brT t).length)->Rep (nw H H') (bE t) v->Q v H'
theorem ii{s:Str}{c:Nat}:∀{ys:List Str},c∈(ύ s ys).cps.toList->c∈s.cps.toList\/∃y∈ys,c∈y.cps.toList
 |[],h=>by cases h
 |[a],h=>.inr ⟨a,ξ.mpr rfl,h⟩
 |a::b::r,h=>by
  rw[bb,aJ,aJ]at h
  rcases Τ.mp h with h|h
  ·rcases Τ.mp h with h|h
   ·exact .inr ⟨a,ο,h⟩
   ·exact .inl h
  ·rcases ii h with h|⟨y,hy,h⟩
   ·exact .inl h
   ·exact .inr ⟨y,Ε _ hy,h⟩
theorem lQ{c:Nat}(h:48<=c/\c<=57):bJ c=false:=by unfold bJ;simp;omega
theorem oY{c:Nat}(h:97<=c/\c<=122):bJ c=false:=by unfold bJ;simp;omega
theorem xh{p:Pr}(h0:1<=p.2)(h1:p.2<10^60)(hn:nmB p.1=true):∀c∈(aH p).cps.toList,bJ c=false:=λc hc=>by
 obtain⟨_,_,az⟩:=fK hn
 unfold aH at hc
 split at hc
 ·exact oY (az c hc)
 ·rw[aJ,aJ,jG]at hc
  rcases Τ.mp hc with h|h
  ·rcases Τ.mp h with h|h
   ·exact lQ (fY (n:=p.2) () h1 c h)
   ·rw[ξ.mp h];rfl
  ·exact oY (az c h)
theorem nv{c:Int}{ps:List Pr}(wa:Wa c ps):∀d∈(ci c ps).cps.toList,bJ d=false:=λd hd=>by
 unfold ci at hd
 rcases ii hd with h|⟨y,hy,h⟩
 ·rw[vF]at h;rw[ξ.mp h];rfl
 ·unfold ba at hy
  rcases Τ.mp hy with h1|h1
  ·obtain⟨p,hp,rfl⟩:=Ω.mp h1
   exact xh (wa.1.can.ge p hp) (wa.1.le p hp).1 (wa.2 p hp) d h
  ·split at h1
   ·rw[ξ.mp h1]at h;exact lQ (fY wa.1.c0 wa.1.c1 d h)
   ·cases h1
theorem dy{x:Str}(h:1<=x.cps.size):∃c r,x.cps.toList=c::r:=by
 cases e:x.cps.toList with
 |nil=>have:=Ι (xs:=x.cps);rw[e,j4]at this;omega
 |cons c r=>exact⟨c,r,rfl⟩
theorem wJ{s a:Str}{c:Nat}{r:List Nat}(h:a.cps.toList=c::r):∀ys:List Str,∃r',(ύ s (a::ys)).cps.toList=c::r'
 |[]=>⟨r,h⟩
 |b::ys=>by rw[bb,aJ,aJ,h];exact⟨_,rfl⟩
theorem wZ{p:Pr}(h0:1<=p.2)(h1:p.2<10^60)(hn:nmB p.1=true):∃c r,(aH p).cps.toList=c::r:=by
 unfold aH
 split
 ·exact dy (fK hn).1
 ·obtain⟨c,r,e⟩:=dy (eJ (hU (n:=p.2) () h1).1).2.1
  rw[aJ,aJ,e];exact⟨_,_,rfl⟩
theorem wV{c:Int}{ps:List Pr}(wa:Wa c ps):∃d r,(ci c ps).cps.toList=d::r/\d≠41:=by
 have h:∃d r,(ci c ps).cps.toList=d::r:=by
  unfold ci ba
  cases ps with
  |nil=>
   obtain⟨d,r,e⟩:=dy (eJ (hU wa.1.c0 wa.1.c1).1).2.1
   rw[Q5 (.inr rfl),j9,e_]
   exact⟨d,r,e⟩
  |cons p ps=>
   obtain⟨d,r,e⟩:=wZ (wa.1.can.ge p ο) (wa.1.le p ο).1 (wa.2 p ο)
   rw[Χ,Ϲ]
   obtain⟨r',e'⟩:=wJ (s:=γ "+") e (ps.map aH++if c≠0\/p::ps=[]then [be c]else [])
   exact⟨d,r',e'⟩
 obtain⟨d,r,e⟩:=h
 refine⟨d,r,e,λz=>?_⟩
 have:=nv wa d (by rw[e];exact ο)
 rw[z]at this
 exact absurd this ()
theorem zW{t:Br}(ok:bC t):∃d r,(brT t).cps.toList=d::r/\d≠41:=by
 have e1:(γ "(").cps.toList=[40]:=by decide +kernel
 cases t with
 |leaf w=>
  rw[bC]at ok
  obtain⟨c,r,e⟩:=dy ok.2
  refine⟨c,r,by rw[brT];exact e,λz=>?_⟩
  have:=ok.1 c (by rw[e];exact ο)
  rw[z]at this
  exact absurd this ()
 |nd w ts=>
  rw[bC]at ok
  rw[brT,aJ,aJ,aJ,e1]
  cases e:w.cps.toList with
  |nil=>exact⟨40,_,rfl,()⟩
  |cons c r=>
   refine⟨c,_,rfl,λz=>?_⟩
   have:=ok.1 c (by rw[e];exact ο)
   rw[z]at this
   exact absurd this ()
def rem(post:List Nat):List Br->List Nat
 |[]=>41::post
 |t::ts=>44::32::((brT t).cps.toList++rem post ts)
def inn(post:List Nat):List Br->List Nat
 |[]=>41::post
 |t::ts=>(brT t).cps.toList++rem post ts
theorem rl(post:List Nat):∀(t:Br)(ts:List Br),(ύ (γ ", ") (brTs (t::ts))).cps.toList++41::post=inn post (t::ts)
 |t,[]=>by rw[brTs,brTs,bp];rfl
 |t,u::ts=>by
  have e3:(γ ", ").cps.toList=[44,32]:=by decide +kernel
  have:=rl post u ts
  rw[brTs]at this
  rw[brTs,brTs,bb,aJ,aJ,e3,c_,c_,this]
  rfl
structure Nd(t:Br)(w:Str)(ts:List Br):Prop where
 fr:∀c∈w.cps.toList,bJ c=false
 tx:∀post,(brT t).cps.toList++post=w.cps.toList++40::inn post ts
 dv:bE t=.tup [.str w,.lst (ts.map bE)]
 ok:∀u∈ts,bC u/\bu u<bu t
 le:ts.length<=8
 dp:1<=bu t
theorem yt{t:Br}(ok:bC t):(bE t=gm (brT t)/\∀c∈(brT t).cps.toList,bJ c=false)\/∃w ts,Nd t w ts:=by
 have e1:(γ "(").cps.toList=[40]:=by decide +kernel
 have e2:(γ ")").cps.toList=[41]:=by decide +kernel
 cases t with
 |leaf w=>rw[bC]at ok;exact .inl ⟨by rw[bE,brT],by rw[brT];exact ok.1⟩
 |nd w ts=>
  rw[bC]at ok
  refine .inr ⟨w,ts,ok.1,λpost=>?_,by rw[bE,gh],λu hu=>⟨mG ok.2.2 u hu,by rw[bu];have:=qr hu;omega⟩,ok.2.1,by rw[bu];omega⟩
  rw[brT,aJ,aJ,aJ,e1,e2]
  simp only[c_,Ϲ,e_]
  cases ts with
  |nil=>rw[brTs];rfl
  |cons t ts=>rw[rl]
theorem uL{H H1 H2:Hp}(h:∀b o,H b=none->H1 b=some o->H2 b=some o):ak (nw H H1) (nw H H2):=λb o e=>by
 unfold nw at e⊢
 cases hb:H b with
 |none=>rw[hb]at e;exact h b o hb e
 |some _=>rw[hb]at e;cases e
theorem vQ{H H1 H2:Hp}(h:∀b,H1 b=none->H b=none):ak (nw H1 H2) (nw H H2):=λb o e=>by
 unfold nw at e⊢
 cases hb:H1 b with
 |none=>rw[hb]at e;rw[h b hb];exact e
 |some _=>rw[hb]at e;cases e
theorem pL{C a:Addr}{H1 H2:Hp}{x:Str}{p:Nat}(s:aq a H1 H2)(g:Sg C H2 a x p){b:Addr}(h:H2 b=none):H1 b=none:=by
 have n:b≠a:=λz=>by obtain⟨_,e⟩:=g;rw[z,e]at h;cases h
 cases e:H1 b with
 |none=>rfl
 |some o=>rw[s b o n e]at h;cases h
theorem Bw(post:List Nat)(ts:List (Br)):Bh (rem post ts):=by
 cases ts with
 |nil=>exact .inr ⟨41,post,rfl,.inr rfl⟩
 |cons t ts=>exact .inr ⟨44,_,rfl,.inl rfl⟩
theorem jB{x:Str}{i:Nat}{u v:List Nat}(h:x.cps.toList.drop i=u++v):x.cps.toList.drop (i+u.length)=v:=by
 rw[<-List.drop_drop,h,EM rfl]
theorem cY{x y:Str}{i:Nat}{u:List Nat}(hi:i<=x.length)(h:x.cps.toList.drop i=u):Txt.startswith3 x y (i:Int)=(u.take y.length==y.cps.toList):=by rw[mP hi,h]
theorem mZ:am ["self","most","word","inner"] ["self","most"] (af ee):=by trivial
theorem wt{f C g1 g2 g3:Addr}{fd d1 d2 d3:Θ}{k0 n:Nat}(F:Fun K "branch" "Signs.branch" ee f fd)(T:Txt K mg)(cl:Cls K C)(m_next_word:sf K C "next_word" g1)(F_next_word:av P w K mg base CX0 k0 g1 d1 ["self"] (xL C))(b_next_word:bQ K d1 ["self"] [])
  (m_met:sf K C "met" g2) (F_met:av P w K mg base CX0 k0 g2 d2 ["self","signs"] (AM C)) (b_met:bQ K d2 ["self","signs"] []) (m_branch:sf K C "branch" g3) (F_branch:av P w K mg base CX0 k0 g3 d3 ["self","most"] (fe C n)) (b_branch:bQ K d3 ["self","most"] []):av P w K mg base CX0 (k0+1) f fd ["self","most"] (fe C (n+1)):=by
 have nd:=mZ.nd
 refine F.ok mZ (λvs H Q E h=>?_) (λcdv A outer s H vs Q E hr h=>?_)
 ·obtain⟨a,x,i,most,t,post,rfl,_⟩:=h
  rfl
 obtain⟨a,x,i,most,t,post,rfl,sg,lx,hi,hd,bh,ok,dm,mn,q⟩:=h
 refine⟨_,(@un _ _ _ (wbO (wbM 2 nd rfl (υ rfl) (waL (wv 0 rfl) cl m_next_word F_next_word hr b_next_word .nil eU rfl) rfl ()) (wbO (wbI (wab (wbY (wbS aw (wv 1 rfl) waC (ai _)) (wbZ (wbT (wbV (waJ (wv 0 rfl) cl m_met F_met hr b_met .nil eU (wae waV waf rfl) rfl rfl rfl) ()))))) (wbQ (wbK (waX (wae (wv 2 rfl) (wae waN waf rfl) rfl)))) wbP) (wbO (wbM 3 nd rfl (υ rfl) (waM waf) rfl ()) (wbO (wbI (wbT (wbV (waJ (wv 0 rfl) cl m_met F_met hr b_met .nil eU (wae waV waf rfl) rfl rfl rfl) ())) (wbO (wbG (waj Φ ϐ ϑ aZ (wv 3 rfl) (wae (waJ (wv 0 rfl) cl m_branch F_branch hr b_branch .nil eU (wae (waQ cn (wv 1 rfl) waC) waf rfl) rfl rfl rfl) waf rfl) rfl rfl rfl rfl rfl) rfl) (wbO (wbN Ϯ (wbV (waJ (wv 0 rfl) cl m_met F_met hr b_met .nil eU (wae waV waf rfl) rfl rfl rfl) ()) (wbQ (wbG (waj Φ ϐ ϑ aZ (wv 3 rfl) (wae (waJ (wv 0 rfl) cl m_branch F_branch hr b_branch .nil eU (wae (waQ cn (wv 1 rfl) waC) waf rfl) rfl rfl rfl) waf rfl) rfl rfl rfl rfl rfl) rfl))) (wbQ (wbG (waJ (wv 0 rfl) cl m_met F_met hr b_met .nil eU (wae waV waf rfl) rfl rfl rfl) rfl)))) wbP) (wbQ (wbK (waX (wae (wv 2 rfl) (wae (wv 3 rfl) waf rfl) rfl))))))))),?_⟩
 dsimp only[bi,Cx.nox]
 obtain⟨dx,ha⟩:=sg
 have nN:∀(y:Str)(p:Int),ϲ (γ "next_word") [(γ "text",V.str y),(γ "at",V.int p)]=none:=uI () ()
 have nM:∀(y:Str)(p:Int),ϲ (γ "met") [(γ "text",V.str y),(γ "at",V.int p)]=none:=uI () ()
 have nB:∀(y:Str)(p:Int),ϲ (γ "branch") [(γ "text",V.str y),(γ "at",V.int p)]=none:=uI () ()
 have e40:(γ "(").cps.toList=[40]:=by decide +kernel
 have e41:(γ ")").cps.toList=[41]:=by decide +kernel
 have e44:(γ ", ").cps.toList=[44,32]:=by decide +kernel
 rcases yt ok with ⟨ed,fr⟩|⟨w0,ts,N⟩
 ·obtain⟨w1,w2,w3,w4⟩:=mY hd hi fr (AJ bh)
  refine⟨_,rfl,a,dx,_,rfl,ha,nN _ _,a,x,i,i+(brT t).length,rfl,⟨dx,ha⟩,lx,w1,w2,w3,w4,λH1 s1 sg1=>?_⟩
  rw[rL hd hi]
  obtain⟨dx1,ha1⟩:=id sg1
  refine gnm ?_
  have done:∀t0,H1 t0=none->Q (.ref t0) (upd H1 t0 (.tup [.str (brT t),.non])):=λt0 h0=>by
   have n1:t0≠a:=λz=>by rw[z,ha1]at h0;cases h0
   have h00:H t0=none:=by
    cases e:H t0 with
    |none=>rfl
    |some o=>rw[s1 t0 o n1 e]at h0;cases h0
   refine q _ _ (s1.trans (ak.b a (ac h0 _))) ⟨dx1,ac h0 _ _ _ ha1⟩ ?_
   rw[ed]
   unfold gm
   rw[Rep]
   refine⟨t0,[.str (brT t),.non],rfl,?_,by simp only[Reps];exact⟨_,_,rfl,by simp only[Rep],_,_,rfl,by simp only[Rep],rfl⟩⟩
   unfold nw
   rw[h00];exact aa
  refine⟨_,rfl,rfl,_,rfl,ap (λ_=>ax ⟨_,rfl,z2,done⟩) (λ_=>?_)⟩
  refine⟨_,rfl,a,dx1,_,rfl,ha1,nM _ _,a,x,γ "(",i+(brT t).length,rfl,sg1,(),λ_=>⟨_,rfl,ax ⟨_,rfl,z2,done⟩⟩,λe=>absurd e (by rw[AG hd hi bh];decide)⟩
 ·have hx:x.cps.toList.drop i=w0.cps.toList++40::inn post ts:=by rw[hd,N.tx]
  obtain⟨w1,w2,w3,w4⟩:=mY hx hi N.fr (.inr ⟨40,_,rfl,rfl⟩)
  have hx1:x.cps.toList.drop (i+w0.length)=40::inn post ts:=by
   rw[show w0.length=w0.cps.toList.length from(Ι).symm];exact jB hx
  have hx2:x.cps.toList.drop (i+w0.length+1)=inn post ts:=jB (u:=[40]) hx1
  have d1:=N.dp
  have lt1:i+w0.length<x.length:=by
   have:=congrArg w_ hx1
   rw[Ϸ,Γ,Ι]at this
   have e1:x.length=x.cps.size:=rfl
   omega
  refine⟨_,rfl,a,dx,_,rfl,ha,nN _ _,a,x,i,i+w0.length,rfl,⟨dx,ha⟩,lx,w1,w2,w3,w4,λH1 s1 sg1=>?_⟩
  rw[rL hx hi]
  obtain⟨dx1,ha1⟩:=id sg1
  refine gnm ?_
  refine⟨_,rfl,rfl,_,rfl,ap (λh=>absurd (Q7 h) (λz=>by injection z with z;omega)) (λ_=>?_)⟩
  have so:Txt.startswith3 x (γ "(") ((i+w0.length:Nat):Int)=true:=by rw[cY () hx1,e40,lb3];rfl
  refine⟨_,rfl,a,dx1,_,rfl,ha1,nM _ _,a,x,γ "(",i+w0.length,rfl,sg1,(),λe=>absurd e (by rw[so];decide),λ_ H2 s2 sg2=>⟨_,rfl,aD ?_⟩⟩
  rw[lb3]at sg2
  refine tnx ?_
  dsimp only
  refine⟨ϊ _,λl hl=>?_⟩
  refine gnm ?_
  dsimp only
  obtain⟨dx2,ha2⟩:=id sg2
  have s02:=s1.trans s2
  have la:l≠a:=λz=>by rw[z,ha2]at hl;cases hl
  have old:∀b,H2 b=none->b≠a->H b=none:=λb hb hba=>by
   cases e:H b with
   |none=>rfl
   |some o=>rw[s02 b o hba e]at hb;cases hb
  have hl0:H l=none:=old l hl la
  have s3:=ac hl (.lst [])
  have l3:upd H2 l (.lst []) l=some (.lst []):=aa
  have o3:∀b,upd H2 l (.lst []) b=none->H b=none:=λb hb=>by
   have h1:b≠l:=λz=>by rw[z,aa]at hb;cases hb
   rw[ao h1]at hb
   exact old b hb (λz=>by rw[z,ha2]at hb;cases hb)
  have ha3:=s3 _ _ ha2
  generalize upd H2 l (.lst [])=H3 at s3 l3 o3 ha3⊢
  have s03:=s02.trans (ak.b a s3)
  have ex:x.length=x.cps.size:=rfl
  have dl:∀{p:Nat}{u:List Nat},p<=x.length->x.cps.toList.drop p=u->p+u.length=x.length:=λ{p u} hp e=>by
   have:=congrArg w_ e
   rw[Ϸ,Ι]at this
   omega
  have rd:∀(u:Br)(rest:List (Br))(H4:Hp)(us:List V)(p:Nat)(dxx:Addr)(Z:V->Hp->Prop),u∈ts->H4 a=some (.ins C dxx [(γ "text",.str x),(γ "at",.int (p:Int))])->p<=x.length->x.cps.toList.drop p=(brT u).cps.toList++rem post rest->H4 l=some (.lst us)->us.length<=8 ->
    (∀H5 v5 q5,aq a H4 H5->Sg C H5 a x q5->q5<=x.length->x.cps.toList.drop q5=rem post rest->Rep (nw H4 H5) (bE u) v5->Z .non (upd H5 l (.lst (us++[v5])))) ->
    fe C n [.ref a,.int (most-1)] H4 (λv H5=>vU (.ref l) [v] H5 Z) E0:=λu rest H4 us p dxx Z hu h4 hp hdp hl4 lus k=>by
   obtain⟨ou,du⟩:=N.ok u hu
   refine⟨a,x,p,most-1,u,rem post rest,rfl,⟨dxx,h4⟩,lx,hp,hdp,Bw _ _,ou,(),(),λH5 v5 s5 sg5 R5=>?_⟩
   have hq:=dl hp hdp
   rw[Η,Ι]at hq
   have eb:(brT u).length=(brT u).cps.size:=rfl
   refine⟨l,us,v5,rfl,rfl,s5 _ _ la hl4,by rw[θ];omega,k H5 v5 _ s5 sg5 () ?_ R5⟩
   rw[show(brT u).length=(brT u).cps.toList.length from(Ι).symm]
   exact jB hdp
  have wl:∀{H':Hp}{o:HO},aq a H H'->aq a H (upd H' l o):=λ{H' o} s' b ob hb e=>by rw[ao (ah e hl0)];exact s' b ob hb e
  have sgl:∀{H':Hp}{o:HO}{p:Nat},Sg C H' a x p->Sg C (upd H' l o) a x p:=λ{H' o p} ⟨d,e⟩=>⟨d,by rw[ao (ϋ la)];exact e⟩
  have nwl:∀{H':Hp}{o:HO},ak (nw H3 H') (nw H3 (upd H' l o)):=λ{H' o}=>uL λb ob hb e=>by rw[ao (λz=>by rw[z,l3]at hb;cases hb)];exact e
  have unl:∀{H':Hp}{o:HO}{b:Addr},upd H' l o b=none->H' b=none:=λ{H' o b} hb=>by
   have h1:b≠l:=λz=>by rw[z,aa]at hb;cases hb
   rwa[ao h1]at hb
  have fin:∀(H6:Hp)(us:List V)(p:Nat),aq a H H6->Sg C H6 a x (p+1)->p<=x.length->x.cps.toList.drop p=41::post->H6 l=some (.lst us)->Reps (nw H3 H6) (ts.map bE) us->∀t0,H6 t0=none->Q (.ref t0) (upd H6 t0 (.tup [.str w0,.ref l])):=λH6 us p s6 sg6 hp5 hd5' l6 R6 t0 h0=>by
   obtain⟨dx6,ha6⟩:=id sg6
   have t0a:t0≠a:=λz=>by rw[z,ha6]at h0;cases h0
   have h00:H t0=none:=by
    cases e:H t0 with
    |none=>rfl
    |some o=>rw[s6 t0 o t0a e]at h0;cases h0
   have s7:=ac h0 (.tup [.str w0,.ref l])
   have h1:=dl hp5 hd5'
   have h2:=dl hi hd
   rw[Η,Ι]at h2
   rw[Γ]at h1
   have eb:(brT t).length=(brT t).cps.size:=rfl
   have ep:p+1=i+(brT t).length:=by omega
   refine q _ _ (s6.trans (ak.b a s7)) ⟨dx6,by rw[<-ep];exact s7 _ _ ha6⟩ ?_
   have R7:Reps (nw H (upd H6 t0 (.tup [.str w0,.ref l]))) (ts.map bE) us:=(R6.mono (vQ o3)).mono (uL λb ob hb e=>s7 _ _ e)
   rw[N.dv,Rep]
   refine⟨t0,[.str w0,.ref l],rfl,?_,?_⟩
   ·unfold nw;rw[h00];exact aa
   ·simp only[Reps]
    refine⟨_,_,rfl,by simp only[Rep],_,_,rfl,?_,rfl⟩
    rw[Rep]
    exact⟨l,us,rfl,by unfold nw;rw[hl0];exact s7 _ _ l6,R7⟩
  cases ts with
  |nil=>
   have hd3:x.cps.toList.drop (i+w0.length+1)=41::post:=hx2
   have y2:Txt.startswith3 x (γ ")") ((i+w0.length+1:Nat):Int)=true:=by rw[cY () hd3,e41,lb4];rfl
   refine⟨_,rfl,a,dx2,_,rfl,ha3,nM _ _,a,x,γ ")",i+w0.length+1,rfl,⟨dx2,ha3⟩,(),λe=>absurd e (by rw[y2];decide),λ_ H6 s6 sg6=>⟨_,rfl,aD ?_⟩⟩
   rw[lb4]at sg6
   refine tnx ?_
   dsimp only
   exact⟨_,rfl,_,rfl,z2,fin H6 [] _ (s03.trans s6) sg6 () hd3 (s6 _ _ la l3) (by simp only[j9,Reps])⟩
  |cons t1 ts=>
   have nc:Txt.startswith3 x (γ ")") ((i+w0.length+1:Nat):Int)=false:=by
    obtain⟨d,r,e,ne⟩:=zW (N.ok t1 ο).1
    rw[cY () hx2,e41,lb4,inn,e]
    show([d]==[41])=false
    rw[beq_eq_false_iff_ne]
    intro z;injection z with z _;exact ne z
   refine⟨_,rfl,a,dx2,_,rfl,ha3,nM _ _,a,x,γ ")",i+w0.length+1,rfl,⟨dx2,ha3⟩,(),λ_=>⟨_,rfl,ax ?_⟩,λe=>absurd e (by rw[nc];decide)⟩
   refine⟨_,rfl,.inl ⟨rfl,_,SqL.of l3⟩,_,rfl,a,dx2,_,rfl,ha3,nB _ _,_,rfl,_,_,rfl,rfl,?_⟩
   dsimp only[qV,e_,Ϲ,ϡ,qj]
   refine rd t1 ts H3 [] (i+w0.length+1) dx2 _ ο ha3 () hx2 l3 (ϊ _) λH4 v4 p4 s4 sg4 hp4 hd4 R4=>?_
   refine⟨λm σ H'=>∃(dn rest:List (Br)) (us:List V) (p:Nat),t1::ts=dn++rest/\m=rest.length/\σ=[some (.ref a),some (.int most),some (.str w0),some (.ref l)]/\aq a H H'/\Sg C H' a x p/\p<=x.length/\x.cps.toList.drop p=rem post rest/\H' l=some (.lst us)/\Reps (nw H3 H') (dn.map bE) us/\∀b,H' b=none->H3 b=none,⟨_,[t1],ts,[v4],p4,rfl,rfl,rfl,wl (s03.trans s4),sgl sg4,hp4,hd4,aa,(aQ R4).mono nwl,λb hb=>pL s4 sg4 (unl hb)⟩,?_⟩
   rintro m σ H5 ⟨dn,rest,us,p,et,rfl,rfl,s5,sg5,hp5,hd5,l5,R5,k5⟩
   have le:=N.le
   rw[Γ]at le
   have lus:us.length+rest.length<=8:=by
    have:=R5.length
    rw[δ]at this
    have e2:=congrArg w_ et
    rw[Γ,Η]at e2
    omega
   obtain⟨dx5,ha5⟩:=id sg5
   cases rest with
   |nil=>
    have hd5':x.cps.toList.drop p=41::post:=hd5
    have n2:Txt.startswith3 x (γ ", ") (p:Int)=false:=by
     rw[cY hp5 hd5',e44,eV,beq_eq_false_iff_ne]
     intro z;rw[List.take_succ_cons]at z;injection z with z _;exact absurd z ()
    have y2:Txt.startswith3 x (γ ")") (p:Int)=true:=by rw[cY hp5 hd5',e41,lb4];rfl
    refine⟨_,rfl,a,dx5,_,rfl,ha5,nM _ _,a,x,γ ", ",p,rfl,sg5,(),λ_=>⟨_,rfl,aD ?_⟩,λe=>absurd e (by rw[n2];decide)⟩
    refine⟨_,rfl,a,dx5,_,rfl,ha5,nM _ _,a,x,γ ")",p,rfl,sg5,(),λe=>absurd e (by rw[y2];decide),λ_ H6 s6 sg6=>?_⟩
    rw[lb4]at sg6
    refine⟨_,rfl,_,rfl,z2,fin H6 us p (s5.trans s6) sg6 hp5 hd5' (s6 _ _ la l5) ?_⟩
    rw[ϡ]at et
    rw[et]
    exact R5.mono (uL λb ob hb e=>s6 b ob (λz=>by rw[z,ha3]at hb;cases hb) e)
   |cons u rest=>
    have hd5':x.cps.toList.drop p=[44,32]++((brT u).cps.toList++rem post rest):=hd5
    have y2:Txt.startswith3 x (γ ", ") (p:Int)=true:=by rw[cY hp5 hd5',e44,eV];rfl
    refine⟨_,rfl,a,dx5,_,rfl,ha5,nM _ _,a,x,γ ", ",p,rfl,sg5,(),λe=>absurd e (by rw[y2];decide),λ_ H6 s6 sg6=>⟨_,rfl,ax ?_⟩⟩
    rw[eV]at sg6
    obtain⟨dx6,ha6⟩:=id sg6
    have l6:=s6 _ _ la l5
    have um:u∈t1::ts:=by rw[et];exact ϔ _ ο
    have hd6:x.cps.toList.drop (p+2)=(brT u).cps.toList++rem post rest:=jB hd5'
    have hp6:p+2<=x.length:=by
     have:=dl hp5 hd5'
     rw[Η]at this
     simp only[Γ,j4]at this
     omega
    refine⟨λσ' H'=>∃(dn' rest':List (Br)) (us':List V) (p':Nat),t1::ts=dn'++rest'/\rest'.length<(u::rest).length/\σ'=[some (.ref a),some (.int most),some (.str w0),some (.ref l)]/\aq a H H'/\Sg C H' a x p'/\p'<=x.length/\x.cps.toList.drop p'=rem post rest'/\H' l=some (.lst us')/\Reps (nw H3 H') (dn'.map bE) us'/\∀b,H' b=none->H3 b=none,λσ' H' ⟨dn',rest',us',p',h1,h2,h3,h4,h5,h6,h7,h8,h9⟩=>⟨rest'.length,h2,dn',rest',us',p',h1,rfl,h3,h4,h5,h6,h7,h8,h9⟩,?_⟩
    rw[Γ]at lus
    refine⟨_,rfl,.inl ⟨rfl,_,SqL.of l6⟩,_,rfl,a,dx6,_,rfl,ha6,nB _ _,_,rfl,_,_,rfl,rfl,?_⟩
    dsimp only[qV,e_,Ϲ,ϡ,qj]
    refine rd u rest H6 us (p+2) dx6 _ um ha6 hp6 hd6 l6 () λH7 v7 p7 s7 sg7 hp7 hd7 R7=>?_
    have keep:∀b,H6 b=none->H3 b=none:=λb hb=>k5 b (pL s6 sg6 hb)
    refine⟨dn++[u],rest,us++[v7],p7,by rw[et,c_];rfl,by rw[Γ];omega,rfl,wl ((s5.trans s6).trans s7),sgl sg7,hp7,hd7,aa,?_,λb hb=>keep b (pL s7 sg7 (unl hb))⟩
    rw[ς]
    refine Reps.append ((R5.mono (uL λb ob hb e=>s7 b ob (λz=>by rw[z,ha3]at hb;cases hb) (s6 b ob (λz=>by rw[z,ha3]at hb;cases hb) e))).mono nwl) (aQ ((R7.mono (vQ keep)).mono nwl))
def bP:Kd->Br
 |.whole=>.leaf (γ "whole")
 |.place c ps=>.nd (γ "place") [.leaf (ci c ps)]
 |.row c ps k=>.nd (γ "row") [.leaf (ci c ps),bP k]
 |.pair a b=>.nd (γ "pair") [bP a,bP b]
theorem eQ:∀k,brT (bP k)=kdT k
 |.whole=>by rw[bP,brT,kdT]
 |.place c ps=>by rw[bP,brT,kdT,brTs,brTs,brT]
 |.row c ps k=>by rw[bP,brT,kdT,brTs,brTs,brTs,brT,eQ k]
 |.pair a b=>by rw[bP,brT,kdT,brTs,brTs,brTs,eQ a,eQ b]
theorem jT:∀k,bE (bP k)=brD k
 |.whole=>by rw[bP,bE,brD]
 |.place c ps=>by rw[bP,bE,brD,brDvs,brDvs,bE]
 |.row c ps k=>by rw[bP,bE,brD,brDvs,brDvs,brDvs,bE,jT k]
 |.pair a b=>by rw[bP,bE,brD,brDvs,brDvs,brDvs,jT a,jT b]
theorem iu:∀k,bu (bP k)<=k.size
 |.whole=>by rw[bP,bu];exact ϊ _
 |.place c ps=>by rw[bP,bu,brDps,brDps,bu];exact π _
 |.row c ps k=>by
  rw[bP,bu,brDps,brDps,brDps,bu]
  have:=iu k
  show _<=k.size+1
  omega
 |.pair a b=>by
  rw[bP,bu,brDps,brDps,brDps]
  have:=iu a
  have:=iu b
  show _<=a.size+b.size+1
  omega
def Sm(c:Int)(ps:List Pr):Prop:=Wa c ps/\SL c ps
theorem bq{p q:Int->List Pr->Prop}(h:∀c ps,p c ps->q c ps):∀{k:Kd},k.All p->k.All q
 |.whole,_=>trivial
 |.place _ _,a=>h _ _ a
 |.row _ _ _,a=>⟨h _ _ a.1,bq h a.2⟩
 |.pair _ _,a=>⟨bq h a.1,bq h a.2⟩
theorem gf{x:Str}(h:nmB x=true):∀c∈x.cps.toList,bJ c=false:=λc hc=>oY ((fK h).2.2 c hc)
theorem ko{c:Int}{ps:List Pr}(wa:Wa c ps):bC (.leaf (ci c ps)):=by
 rw[bC]
 refine⟨nv wa,?_⟩
 obtain⟨d,r,e,_⟩:=wV wa
 have:=congrArg w_ e
 rw[Ι,Γ]at this
 omega
theorem jE{x:Str}(h:nmB x=true):bC (.leaf x):=by rw[bC];exact⟨gf h,(aP h).1⟩
theorem ib:∀{k:Kd},k.All Wa->bC (bP k)
 |.whole,_=>jE ()
 |.place c ps,h=>by rw[bP,bC];exact⟨gf (),(),by rw[brOks,brOks];exact⟨ko h,trivial⟩⟩
 |.row c ps k,h=>by rw[bP,bC];exact⟨gf (),(),by rw[brOks,brOks,brOks];exact⟨ko h.1,ib h.2,trivial⟩⟩
 |.pair a b,h=>by rw[bP,bC];exact⟨gf (),(),by rw[brOks,brOks,brOks];exact⟨ib h.1,ib h.2,trivial⟩⟩
def Ag(R:Dv->Br->Prop):So->Dv->Br->Prop
 |.e,d,b=>R d b
 |.l,d,b=>∃c ps,d=bR c ps/\b=.leaf (ci c ps)/\Sm c ps
 |.k,d,b=>∃k:Kd,d=k.dv/\b=bP k/\k.All Sm/\k.size<=6
 |.x,d,b=>∃y,d=.str y/\b=.leaf y/\nmB y=true
 |.y,d,b=>∃y,d=.str y/\b=.leaf y/\nmB y=true
 |_,_,_=>False
inductive Ags (R:Dv->Br->Prop):List So->List Dv->List Br->Prop
 |nil:Ags R [] [] []
 |cons {s:So} {d:Dv} {b:Br} {ss:List So} {ds:List Dv} {bs:List Br}:Ag R s d b->Ags R ss ds bs->Ags R (s::ss) (d::ds) (b::bs)
inductive Als (R:Dv->Br->Prop):List Dv->List Br->Prop
 |nil:Als R [] []
 |cons {d:Dv} {b:Br} {ds:List Dv} {bs:List Br}:R d b->Als R ds bs->Als R (d::ds) (b::bs)
def frm(x:Str):Bool:=decide (x≠"number")&&(decide (x≠"name")&&(decide (x≠"call")&&(decide (x≠"reckon")&&decide (x≠"row"))))
def jj:Wd:=("call","fa",[.f,.a])
def li:Wd:=("reckon","wee",[.w,.e,.e])
def rj:Wd:=("row","r",[.r])
def zP:Wd:=("number","n",[.n])
def AI:Wd:=("name","x",[.x])
theorem in5:jj∈WT/\li∈WT/\rj∈WT/\zP∈WT/\AI∈WT:=by decide +kernel
def Wx:Nat->Dv->Br->Prop
 |0,_,_=>False
 |n+1,d,b=>
  (∃i:Int,0<=i/\i<10^12/\d=.tup [.str (γ "number"),.int i]/\b=.leaf (be i)) \/
  (∃y,nmB y=true/\d=.tup [.str (γ "name"),.str y]/\b=.leaf y) \/
  (∃f ds bs,nmB f=true/\cp f=false/\bX f=false/\ds.length<=4/\Als (Wx n) ds bs/\d=.tup [.str (γ "call"),.str f,.tup ds]/\b=.nd f bs) \/
  (∃r d1 d2 b1 b2,bX r=true/\Wx n d1 b1/\Wx n d2 b2/\d=.tup [.str (γ "reckon"),.str r,d1,d2]/\b=.nd r [b1,b2]) \/
  (∃ds bs,1<=ds.length/\ds.length<=4/\Als (Wx n) ds bs/\d=.tup [.str (γ "row"),.tup ds]/\b=.nd (γ "row") bs) \/
  (∃p ds bs,p∈WT/\frm p.1=true/\Ags (Wx n) p.2.2 ds bs/\(p.1≠"fold"\/kT ds=true)/\d=.tup (.str p.1::ds)/\b=.nd p.1 bs)
theorem Als.len{R:Dv->Br->Prop}{ds:List Dv}{bs:List Br}(h:Als R ds bs):bs.length=ds.length:=by
 induction h with
 |nil=>rfl
 |cons _ _ ih=>rw[Γ,Γ,ih]
theorem Als.mem{R:Dv->Br->Prop}{ds:List Dv}{bs:List Br}(h:Als R ds bs):(∀d∈ds,∃b∈bs,R d b)/\∀b∈bs,∃d∈ds,R d b:=by
 induction h with
 |nil=>exact⟨nofun,nofun⟩
 |cons a _ ih=>
  refine⟨λd hd=>?_,λb hb=>?_⟩
  ·rcases ν.mp hd with rfl|hd
   ·exact⟨_,ο,a⟩
   ·obtain⟨b,hb,r⟩:=ih.1 d hd
    exact⟨b,Ε _ hb,r⟩
  ·rcases ν.mp hb with rfl|hb
   ·exact⟨_,ο,a⟩
   ·obtain⟨d,hd,r⟩:=ih.2 b hb
    exact⟨d,Ε _ hd,r⟩
theorem Ags.len{R:Dv->Br->Prop}{ss:List So}{ds:List Dv}{bs:List Br}(h:Ags R ss ds bs):bs.length=ss.length/\ds.length=ss.length:=by
 induction h with
 |nil=>exact⟨rfl,rfl⟩
 |cons _ _ ih=>exact⟨by rw[Γ,Γ,ih.1],by rw[Γ,Γ,ih.2]⟩
theorem qL:∀p∈WT,nmB p.1=true:=by decide +kernel
theorem gd:∀r∈qM,nmB r=true/\cp r=false:=by decide +kernel
theorem dD{r:Str}(h:bX r=true):r∈qM:=by
 unfold bX at h
 have:=f_.mp h
 obtain⟨v,hv,e⟩:=this
 obtain⟨y,hy,rfl⟩:=Ω.mp hv
 have e2:y=r:=Q7 e
 rw[<-e2]
 exact hy
theorem CI{n:Nat}{R:Dv->Br->Prop}(hR:∀d b,R d b->bC b/\bu b<=n+6):∀{s:So}{d:Dv}{b:Br},Ag R s d b->bC b/\bu b<=n+6
 |.e,_,_,h=>hR _ _ h
 |.l,_,_,h=>by obtain⟨c,ps,_,rfl,sm⟩:=h;exact⟨ko sm.1,by rw[bu];omega⟩
 |.k,_,_,h=>by obtain⟨k,_,rfl,kA,k6⟩:=h;have:=iu k;exact⟨ib (bq (λ_ _ h=>h.1) kA),()⟩
 |.x,_,_,h=>by obtain⟨y,_,rfl,hy⟩:=h;exact⟨jE hy,by rw[bu];omega⟩
 |.y,_,_,h=>by obtain⟨y,_,rfl,hy⟩:=h;exact⟨jE hy,by rw[bu];omega⟩
theorem BD{n:Nat}{R:Dv->Br->Prop}(hR:∀d b,R d b->bC b/\bu b<=n+6){ss:List So}{ds:List Dv}{bs:List Br}(h:Ags R ss ds bs):∀b∈bs,bC b/\bu b<=n+6:=by
 induction h with
 |nil=>exact nofun
 |cons a _ ih=>
  intro b hb
  rcases ν.mp hb with rfl|hb
  ·exact CI hR a
  ·exact ih b hb
theorem sw{n:Nat}:∀{bs:List Br},(∀b∈bs,bu b<=n)->brDps bs<=n
 |[],_=>ϊ _
 |b::bs,h=>by
  rw[brDps]
  have:=h b ο
  have:=sw λc hc=>h c (Ε _ hc)
  omega
theorem vM{n:Nat}{w:Str}{bs:List Br}(hw:nmB w=true)(hl:bs.length<=8)(h:∀b∈bs,bC b/\bu b<=n+6):bC (.nd w bs)/\bu (.nd w bs)<=n+1+6:=by
 rw[bC,bu]
 have:=sw λb hb=>(h b hb).2
 exact⟨⟨gf hw,hl,kH λb hb=>(h b hb).1⟩,()⟩
theorem zj{i:Int}(h0:0<=i)(h1:i<10^12):bC (.leaf (be i)):=by
 have h2:i<10^60:=by omega
 obtain⟨a,b,c⟩:=eJ (hU h0 h2).1
 rw[bC]
 exact⟨λc hc=>lQ (a c hc),b⟩
theorem Bj:∀{n:Nat}{d:Dv}{b:Br},Wx n d b->bC b/\bu b<=n+6
 |n+1,d,b,h=>by
  have hR:∀d b,Wx n d b->bC b/\bu b<=n+6:=λd b=>Bj
  rw[Wx]at h
  rcases h with ⟨i,h0,h1,rfl,rfl⟩|⟨y,hy,rfl,rfl⟩|⟨f,ds,bs,hf,_,_,l4,ha,rfl,rfl⟩|⟨r,d1,d2,b1,b2,hr,w1,w2,rfl,rfl⟩|⟨ds,bs,l1,l4,ha,rfl,rfl⟩|⟨p,ds,bs,hp,_,ha,_,rfl,rfl⟩
  ·exact⟨zj h0 h1,by rw[bu];omega⟩
  ·exact⟨jE hy,by rw[bu];omega⟩
  ·exact vM hf (by rw[ha.len];omega) λb hb=>by obtain⟨d,_,r⟩:=ha.mem.2 b hb;exact hR d b r
  ·refine vM (gd r (dD hr)).1 () λb hb=>?_
   rcases ν.mp hb with rfl|hb
   ·exact hR _ _ w1
   ·rw[ξ.mp hb];exact hR _ _ w2
  ·exact vM () (by rw[ha.len];omega) λb hb=>by obtain⟨d,_,r⟩:=ha.mem.2 b hb;exact hR d b r
  ·exact vM (qL p hp) (by rw[ha.len.1];have:=cW p hp;omega) (BD hR ha)
theorem yV{R:Dv->Br->Prop}(hR:∀d b,R d b->d.small=true):∀{s:So}{d:Dv}{b:Br},Ag R s d b->wQ s d=true/\d.small=true
 |.e,d,b,h=>⟨rfl,hR _ _ h⟩
 |.l,_,_,h=>by obtain⟨c,ps,rfl,_,sm⟩:=h;exact⟨sm.2.1,sm.2.2⟩
 |.k,_,_,h=>by
  obtain⟨k,rfl,_,kA,k6⟩:=h
  have a:=bq (q:=SL) (λ_ _ h=>h.2) kA
  exact⟨Q9 (by rw[gX a];omega),fO a⟩
 |.x,_,_,h=>by obtain⟨y,rfl,_,hy⟩:=h;exact⟨hy,Q9 (by have:=(aP hy).2;omega)⟩
 |.y,_,_,h=>by obtain⟨y,rfl,_,hy⟩:=h;exact⟨hy,Q9 (by have:=(aP hy).2;omega)⟩
theorem zq{R:Dv->Br->Prop}(hR:∀d b,R d b->d.small=true){ss:List So}{ds:List Dv}{bs:List Br}(h:Ags R ss ds bs):okF ss ds=true/\∀d∈ds,d.small=true:=by
 induction h with
 |nil=>exact⟨rfl,nofun⟩
 |cons a _ ih=>
  refine⟨by rw[okF,(yV hR a).1,ih.1];rfl,λd hd=>?_⟩
  rcases ν.mp hd with rfl|hd
  ·exact(yV hR a).2
  ·exact ih.2 d hd
theorem dW{x:Str}(h:nmB x=true):(Dv.str x).small=true:=Q9 (by have:=(aP h).2;omega)
theorem oo{ds:List Dv}{m:Int}(h:m<=ds.length)(h4:ds.length<=4):eW m (.tup ds)=true:=by
 show(decide (m<=(ds.length:Int))&&decide ((ds.length:Int)<=4))=true
 rw[Q9 h,Q9 ()];rfl
theorem bA{x:Str}{ds:List Dv}(hx:nmB x=true)(h:∀d∈ds,d.small=true)(hl:ds.length<=10):(Dv.tup (.str x::ds)).small=true:=
 bY (λd hd=>by
  rcases ν.mp hd with rfl|hd
  ·exact dW hx
  ·exact h d hd) (by rw[Γ];omega)
theorem bT:∀{n:Nat}{d:Dv}{b:Br},Wx n d b->fD d=true/\d.small=true
 |n+1,d,b,h=>by
  have hR:∀d b,Wx n d b->d.small=true:=λd b h=>(bT h).2
  rw[Wx]at h
  rcases h with ⟨i,h0,h1,rfl,rfl⟩|⟨y,hy,rfl,rfl⟩|⟨f,ds,bs,hf,hw,hr,l4,ha,rfl,rfl⟩|⟨r,d1,d2,b1,b2,hr,w1,w2,rfl,rfl⟩|⟨ds,bs,l1,l4,ha,rfl,rfl⟩|⟨p,ds,bs,hp,_,ha,fo,rfl,rfl⟩
  ·have e:=cy (p:=zP) in5.2.2.2.1 [.int i]
   refine⟨e.trans ?_,bA () (λd hd=>by rw[ξ.mp hd];rfl) ()⟩
   show((ku 1000000000000 (.int i)&&true)&&_)=true
   rw[show ku 1000000000000 (.int i)=true from by unfold ku;simp;omega]
   rw[show decide (zP.1≠γ "fold")=true from by decide +kernel]
   rfl
  ·have e:=cy (p:=AI) in5.2.2.2.2 [.str y]
   refine⟨e.trans ?_,bA () (λd hd=>by rw[ξ.mp hd];exact dW hy) ()⟩
   show((nmB y&&true)&&_)=true
   rw[hy]
   rw[show decide (AI.1≠γ "fold")=true from by decide +kernel]
   rfl
  ·have e:=cy (p:=jj) in5.1 [.str f,.tup ds]
   have sm:∀d∈ds,d.small=true:=λd hd=>by obtain⟨b,_,r⟩:=ha.mem.1 d hd;exact hR d b r
   refine⟨e.trans ?_,bA () (λd hd=>?_) ()⟩
   ·show((jx (.str f)&&(eW 0 (.tup ds)&&true))&&_)=true
    rw[oo () l4,show jx (.str f)=true from by unfold jx;simp[hf,hw,hr]]
    rw[show decide (jj.1≠γ "fold")=true from by decide +kernel]
    rfl
   ·rcases ν.mp hd with rfl|hd
    ·exact dW hf
    ·rw[ξ.mp hd];exact bY sm ()
  ·have e:=cy (p:=li) in5.2.1 [.str r,d1,d2]
   refine⟨e.trans ?_,bA () (λd hd=>?_) ()⟩
   ·show((xT (.str r)&&(true&&(true&&true)))&&_)=true
    rw[show xT (.str r)=true from hr]
    rw[show decide (li.1≠γ "fold")=true from by decide +kernel]
    rfl
   ·rcases ν.mp hd with rfl|hd
    ·exact dW (gd r (dD hr)).1
    ·rcases ν.mp hd with rfl|hd
     ·exact hR _ _ w1
     ·rw[ξ.mp hd];exact hR _ _ w2
  ·have e:=cy (p:=rj) in5.2.2.1 [.tup ds]
   have sm:∀d∈ds,d.small=true:=λd hd=>by obtain⟨b,_,r⟩:=ha.mem.1 d hd;exact hR d b r
   refine⟨e.trans ?_,bA () (λd hd=>by rw[ξ.mp hd];exact bY sm ()) ()⟩
   show((eW 1 (.tup ds)&&true)&&_)=true
   rw[oo () l4]
   rw[show decide (rj.1≠γ "fold")=true from by decide +kernel]
   rfl
  ·obtain⟨h1,h2⟩:=zq hR ha
   refine⟨(cy hp ds).trans ?_,bA (qL p hp) h2 (by rw[ha.len.2];have:=cW p hp;omega)⟩
   rw[h1]
   rcases fo with fo|fo
   ·rw[Q9 fo];rfl
   ·rw[fo,Bool.or_true];rfl
def bl(b:Br):Nat:=(brT b).length
def wgt:So->Nat
 |.l=>1540
 |.k=>10200
 |.x=>8
 |.y=>8
 |_=>0
theorem Bz:∀p∈WT,(p.2.2.map wgt).sum<=10200/\p.1.length<=8:=by decide +kernel
theorem ow(w:Str)(bs:List Br):bl (.nd w bs)<=w.length+2+(bs.map bl).sum+bs.length*2:=by
 show(brT (.nd w bs)).length<=w.length+2+(bs.map bl).sum+bs.length*2
 rw[brT,μ,μ,μ,lb3,lb4,dG]
 have:=cf (γ ", ") (bs.map brT)
 rw[eV,δ,Ψ]at this
 have e:((λx:Str=>x.length)∘brT)=bl:=rfl
 rw[e]at this
 omega
theorem pC(s:Str):∀ys:List Str,(ys.map (·.length)).sum<=(ύ s ys).length
 |[]=>ϊ _
 |[a]=>by rw[bp];simp
 |a::b::r=>by
  have ih:=pC s (b::r)
  rw[bb,μ,μ]
  simp only[Χ,j7]at ih⊢
  omega
theorem pT(w:Str)(bs:List Br):(bs.map bl).sum<=bl (.nd w bs):=by
 show(bs.map bl).sum<=(brT (.nd w bs)).length
 rw[brT,μ,μ,μ,dG]
 have:=pC (γ ", ") (bs.map brT)
 rw[Ψ]at this
 have e:((λx:Str=>x.length)∘brT)=bl:=rfl
 rw[e]at this
 omega
theorem pW{bs:List Br}{b:Br}(h:b∈bs):bl b<=(bs.map bl).sum:=AK (p_ h)
theorem BK{n:Nat}{R:Dv->Br->Prop}(hR:∀d b,R d b->bl b<=12000*exN n d):∀{s:So}{d:Dv}{b:Br},Ag R s d b->bl b<=wgt s+12000*((ptD s d).map (exN n)).sum
 |.e,d,b,h=>by have:=hR _ _ h;show bl b<=0+12000*(exN n d+0);omega
 |.l,_,_,h=>by obtain⟨c,ps,_,rfl,sm⟩:=h;have:=cm sm.1.1;unfold bl;rw[brT];show _<=1540+_;omega
 |.k,_,_,h=>by
  obtain⟨k,_,rfl,kA,k6⟩:=h
  have:=bo (bq (q:=Wr) (λ_ _ h=>h.1.1) kA)
  unfold bl
  rw[eQ]
  show _<=10200+_
  omega
 |.x,_,_,h=>by obtain⟨y,_,rfl,hy⟩:=h;have:=(aP hy).2;unfold bl;rw[brT];show y.cps.size<=8+_;omega
 |.y,_,_,h=>by obtain⟨y,_,rfl,hy⟩:=h;have:=(aP hy).2;unfold bl;rw[brT];show y.cps.size<=8+_;omega
theorem vp{n:Nat}{R:Dv->Br->Prop}(hR:∀d b,R d b->bl b<=12000*exN n d){ss:List So}{ds:List Dv}{bs:List Br}(h:Ags R ss ds bs):(bs.map bl).sum<=(ss.map wgt).sum+12000*((bn ss ds).map (exN n)).sum:=by
 induction h with
 |nil=>exact ϊ _
 | @cons s d b ss ds bs a _ ih=>
  have:=BK hR a
  rw[show bn (s::ss) (d::ds)=ptD s d++bn ss ds from rfl,ς,EL]
  simp only[Χ,j7]
  omega
theorem vK{n:Nat}{R:Dv->Br->Prop}(hR:∀d b,R d b->bl b<=12000*exN n d){ds:List Dv}{bs:List Br}(h:Als R ds bs):(bs.map bl).sum<=12000*(ds.map (exN n)).sum:=by
 induction h with
 |nil=>exact ϊ _
 | @cons d b ds bs a _ ih=>
  have:=hR _ _ a
  simp only[Χ,j7]
  omega
theorem eS{n:Nat}{p:Wd}(hp:p∈WT){ds:List Dv}(h:fD (.tup (.str p.1::ds))=true):exN (n+1) (.tup (.str p.1::ds))=1+((bn p.2.2 ds).map (exN n)).sum:=by
 rw[exN,Q5 h,parts_of hp]
theorem oq:∀{n:Nat}{d:Dv}{b:Br},Wx n d b->bl b<=12000*exN n d
 |n+1,d,b,h=>by
  have hR:∀d b,Wx n d b->bl b<=12000*exN n d:=λd b h=>oq h
  have hn:=(bT h).1
  have c1:=vJ (n+1) d
  rw[Wx]at h
  rcases h with ⟨i,h0,h1,rfl,rfl⟩|⟨y,hy,rfl,rfl⟩|⟨f,ds,bs,hf,hw,hr,l4,ha,rfl,rfl⟩|⟨r,d1,d2,b1,b2,hr,w1,w2,rfl,rfl⟩|⟨ds,bs,l1,l4,ha,rfl,rfl⟩|⟨p,ds,bs,hp,_,ha,fo,rfl,rfl⟩
  ·have:=cT (i:=i) h0 ()
   unfold bl;rw[brT];omega
  ·have e:y.length=y.cps.size:=rfl
   have:=(aP hy).2
   unfold bl;rw[brT];omega
  ·have e:=eS (n:=n) (p:=jj) in5.1 hn
   have e2:bn jj.2.2 [.str f,.tup ds]=ds:=by show []++(ds++[])=ds;rw[ϡ,e_]
   rw[e2]at e
   have h1:=ow f bs
   have h2:=vK hR ha
   have h3:=ha.len
   have h4:f.length=f.cps.size:=rfl
   have h5:=(aP hf).2
   show _<=12000*exN (n+1) (.tup (.str jj.1::[.str f,.tup ds]))
   rw[e]
   omega
  ·have e:=eS (n:=n) (p:=li) in5.2.1 hn
   have h1:=ow r [b1,b2]
   have h2:=hR _ _ w1
   have h3:=hR _ _ w2
   have h4:r.length=r.cps.size:=rfl
   have h5:=(aP (gd r (dD hr)).1).2
   have e2:((bn li.2.2 [.str r,d1,d2]).map (exN n)).sum=exN n d1+(exN n d2+0):=rfl
   rw[e2]at e
   simp only[Χ,j9,j7,List.sum_nil,Γ,j4]at h1
   show _<=12000*exN (n+1) (.tup (.str li.1::[.str r,d1,d2]))
   rw[e]
   omega
  ·have e:=eS (n:=n) (p:=rj) in5.2.2.1 hn
   have e2:bn rj.2.2 [.tup ds]=ds:=by show ds++[]=ds;rw[ϡ]
   rw[e2]at e
   have h1:=ow (γ "row") bs
   have h2:=vK hR ha
   have h3:=ha.len
   have h4:(γ "row").length=3:=by decide +kernel
   show _<=12000*exN (n+1) (.tup (.str rj.1::[.tup ds]))
   rw[e]
   omega
  ·have e:=eS (n:=n) hp hn
   have h1:=ow p.1 bs
   have h2:=vp hR ha
   have h3:=ha.len.1
   have h4:=cW p hp
   have h5:=Bz p hp
   rw[e]
   omega
abbrev dR:Stmt:=top 42
abbrev gQ:Stmt:=top 43
abbrev ck:Stmt:=top 44
theorem Als.get{R:Dv->Br->Prop}{ds:List Dv}{bs:List Br}(h:Als R ds bs):∀{i:Nat}{d:Dv},ds[i]?=some d->∃b,bs[i]?=some b/\R d b:=by
 induction h with
 |nil=>intro i d e;cases e
 |cons a _ ih=>
  intro i d e
  cases i with
  |zero=>cases e;exact⟨_,rfl,a⟩
  |succ i=>exact ih e
def bv(b:Br):V:=.str (brT b)
def qI(n:Nat):Sp:=λvs H Q _=>∃(v:V) (d:Dv) (b:Br),vs=[v]/\Rep H d v/\Wx n d b/\bl b<=1000000/\∀H',ak H H'->Q (bv b) H'
def Bg(n:Nat):Sp:=λvs H Q _=>∃(a:Addr) (us:List V) (ds:List Dv) (bs:List Br),vs=[.ref a]/\H a=some (.tup us)/\Reps H ds us/\Als (Wx n) ds bs/\ds.length<=4/\(bs.map bl).sum<=1000000/\∀(H':Hp)(l:Addr),ak H H'->H l=none->H' l=some (.lst (bs.map bv))->Q (.ref l) H'
def AZ(n:Nat):Sp:=λvs H Q _=>∃(s:So) (v:V) (d:Dv) (b:Br),vs=[.str (srt s),v]/\Rep H d v/\Ag (Wx n) s d b/\bl b<=1000000/\∀H',ak H H'->Q (bv b) H'
theorem jm:am ["expressions"] ["expressions"] (af gQ):=by trivial
theorem qB{f:Addr}{fd:Θ}{k n:Nat}(F:Fun K "show_all" "show_all" gQ f fd)(T:Txt K mg)(Dshow_expression:Def P w K mg base k "show_expression" ["expression"] (qI n)):av P w K mg base CX0 (k+1) f fd ["expressions"] (Bg n):=by
 have nd:=jm.nd
 refine F.ok jm (λvs H Q E h=>?_) (λcdv A outer s H vs Q E hr h=>?_)
 ·obtain⟨a,us,ds,bs,rfl,_⟩:=h
  rfl
 obtain⟨a,us,ds,bs,rfl,ha,ru,al,l4,lb,q⟩:=h
 have hl:=ru.length
 have bl4:=al.len
 refine⟨_,(@un _ _ _ (wbQ (wbK (waE ["each"] [] (wbo (wv 0 rfl)) (.of rfl) rfl (λ_ _ _=>⟨pg_name (i:=0) (bc (l:=["each"]) (()) rfl) rfl (υ rfl)⟩) (aW ()) (λ_ _ _=>wbx) (λ_ _ _=>(waq Dshow_expression hr rfl (wae (wv 0 rfl) waf rfl) () rfl rfl)) ())))),?_⟩
 refine⟨_,rfl,a,rfl,⟨us,SqT.of ha⟩,iA (xs:=us) (λi ys H'=>ak H H'/\ys=(bs.take i).map bv) ⟨ak.refl _,rfl⟩ (λi ys H' _ p=>SqT.of (p.1 _ _ ha)) ?_ ?_⟩
 ·rintro i ys H3 x hx ⟨s3,rfl⟩
  obtain⟨d,hd,Rd⟩:=ru.get hx
  obtain⟨b,hb,wx⟩:=al.get hd
  have:=pW (Ο hb)
  refine aV ⟨_,rfl,x,d,b,rfl,Rd.mono s3,wx,(),λH4 s4=>⟨?_,s3.trans s4,?_⟩⟩
  ·rw[δ,Υ,θ];omega
  ·rw[ϕ,hb,ς]
   rfl
 ·rintro ys H3 ⟨s3,rfl⟩ l hl'
  rw[show us.length=bs.length by omega,ϒ]
  exact q _ l (s3.trans (ac hl' _)) (by
   cases e:H l with
   |none=>rfl
   |some o=>rw[s3 l o e]at hl';cases hl') aa
theorem fu:am ["sort","given"] ["sort","given"] (af dR):=by trivial
theorem lq{f:Addr}{fd:Θ}{k n:Nat}(F:Fun K "show_behind" "show_behind" dR f fd)(T:Txt K mg)(Dshow_length:Def P w K mg base k "show_length" ["a"] mD)(Dshow_kind:Def P w K mg base k "show_kind" ["kind"] (gp 12))(Dshow_expression:Def P w K mg base k "show_expression" ["expression"] (qI n)):av P w K mg base CX0 (k+1) f fd ["sort","given"] (AZ n):=by
 have nd:=fu.nd
 refine F.ok fu (λvs H Q E h=>?_) (λcdv A outer s H vs Q E hr h=>?_)
 ·obtain⟨s,v,d,b,rfl,_⟩:=h
  rfl
 obtain⟨s,v,d,b,rfl,R,ag,lb,q⟩:=h
 refine⟨_,(@un _ _ _ (wbO (wbI (wbS aw (wv 0 rfl) waV (ai _)) (wbQ (wbK (waq Dshow_length hr rfl (wae (wv 1 rfl) waf rfl) () rfl rfl))) wbP) (wbO (wbI (wbS aw (wv 0 rfl) waV (ai _)) (wbQ (wbK (waq Dshow_kind hr rfl (wae (wv 1 rfl) waf rfl) () rfl rfl))) wbP) (wbO (wbI (wbS aw (wv 0 rfl) waV (ai _)) (wbQ (wbK (waq Dshow_expression hr rfl (wae (wv 1 rfl) waf rfl) () rfl rfl))) wbP) (wbQ (wbK (wv 1 rfl))))))),?_⟩
 refine⟨_,rfl,rfl,_,rfl,ap (λh=>?_) (λh=>?_)⟩
 ·cases(mM s).mp (Q7 h)
  obtain⟨c,ps,rfl,rfl,sm⟩:=ag
  refine⟨_,rfl,v,c,ps,rfl,R,sm.1.1,λH1 s1=>?_⟩
  have:=q H1 s1
  unfold bv at this
  rwa[brT]at this
 have hl:s≠.l:=λz=>h (Q9 ((mM s).mpr z))
 refine⟨_,rfl,rfl,_,rfl,ap (λh=>?_) (λh=>?_)⟩
 ·cases(mJ s).mp (Q7 h)
  obtain⟨k,rfl,rfl,kA,k6⟩:=ag
  refine⟨_,rfl,v,k,rfl,R,(),(),bq (λ_ _ h=>h.1.1) kA,λH1 s1=>?_⟩
  have:=q H1 s1
  unfold bv at this
  rwa[eQ]at this
 have hk:s≠.k:=λz=>h (Q9 ((mJ s).mpr z))
 refine⟨_,rfl,rfl,_,rfl,ap (λh=>?_) (λh=>?_)⟩
 ·cases(vj s).mp (Q7 h)
  exact⟨_,rfl,v,d,b,rfl,R,ag,lb,q⟩
 have he:s≠.e:=λz=>h (Q9 ((vj s).mpr z))
 have key:∃y,d=.str y/\b=.leaf y/\nmB y=true:=by
  cases s with
  |x=>exact ag
  |y=>exact ag
  |l=>exact absurd rfl hl
  |k=>exact absurd rfl hk
  |e=>exact absurd rfl he
  |n=>exact ag.elim
  |w=>exact ag.elim
  |f=>exact ag.elim
  |a=>exact ag.elim
  |r=>exact ag.elim
 obtain⟨y,rfl,rfl,hy⟩:=key
 obtain rfl:v=.str y:=R
 have:=q H (ak.refl _)
 unfold bv at this
 rw[brT]at this
 exact⟨_,rfl,this⟩
theorem Ags.get{R:Dv->Br->Prop}{ss:List So}{ds:List Dv}{bs:List Br}(h:Ags R ss ds bs):∀{i:Nat}{s:So}{d:Dv},ss[i]?=some s->ds[i]?=some d->∃b,bs[i]?=some b/\Ag R s d b:=by
 induction h with
 |nil=>intro i s d e;cases e
 |cons a _ ih=>
  intro i s d e e'
  cases i with
  |zero=>cases e;cases e';exact⟨_,rfl,a⟩
  |succ i=>exact ih e e'
theorem uc{x:Str}(h:frm x=true):x≠"number"/\x≠"name"/\x≠"call"/\x≠"reckon"/\x≠"row":=by
 unfold frm at h
 simp only[Ζ,decide_eq_true_eq]at h
 exact h
theorem fwd{x y:Str}(h:x≠y){α:Prop}(e:decide (V.str x=V.str y)=true):α:=(h (V.str.inj (Q7 e))).elim
theorem vA{z:Str}{l:Addr}{bs:List Br}{H:Hp}{Q:V->Hp->Prop}{E:XK}(hl:H l=some (.lst (bs.map bv)))(hz:nmB z=true)(h8:bs.length<=8)(lb:bl (.nd z bs)<=1000000)(q:Q (bv (.nd z bs)) H):kh [.str z,.ref l] H Q E:=by
 have h1:=pT z bs
 have h2:=(aP hz).2
 refine⟨z,l,bs.map brT,rfl,by rw[hl,Ψ];rfl,by show z.cps.size<=10;omega,?_,?_⟩
 ·rw[Ψ,δ]
  show(bs.map bl).sum+_<=_
  omega
 ·have e:bv (.nd z bs)=.str (z++γ "(" ++ ύ (γ ", ") (bs.map brT)++γ ")"):=by
   unfold bv
   rw[brT,dG]
  rw[<-e]
  exact q
theorem dB:am ["expression","word"] ["expression"] (af ck):=by trivial
theorem gA{f gS:Addr}{fd:Θ}{k n:Nat}(F:Fun K "show_expression" "show_expression" ck f fd)(T:Txt K mg)(S:Shp P w K gS)(GS:mg "SHAPES"=some (.ref gS))(Din_brackets:Def P w K mg base k "in_brackets" ["word","texts"] kh)(Dshow_all:Def P w K mg base k "show_all" ["expressions"] (Bg n))(Dshow_behind:Def P w K mg base k "show_behind" ["sort","given"] (AZ n)):av P w K mg base CX0 (k+1) f fd ["expression"] (qI (n+1)):=by
 have nd:=dB.nd
 refine F.ok dB (λvs H Q E h=>?_) (λcdv A outer s H vs Q E hr h=>?_)
 ·obtain⟨v,d,b,rfl,_⟩:=h
  rfl
 obtain⟨v,d,b,rfl,R,wx,lb,q⟩:=h
 obtain⟨kvs,FS,hS,hS2⟩:=S.ex
 refine⟨_,(@un _ _ _ (wbO (wbM 1 nd rfl (υ rfl) (waD aj (wv 0 rfl) waC (λ_ _=>rfl)) rfl ()) (wbO (wbI (wbS aw (wv 1 rfl) waV (ai _)) (wbQ (wbK (wam ce rfl T.str () (wae (waD aj (wv 0 rfl) waC (λ_ _=>rfl)) waf rfl) () () rfl rfl))) wbP) (wbO (wbI (wbS aw (wv 1 rfl) waV (ai _)) (wbQ (wbK (waD aj (wv 0 rfl) waC (λ_ _=>rfl)))) wbP) (wbO (wbI (wbS aw (wv 1 rfl) waV (ai _)) (wbQ (wbK (waq Din_brackets hr rfl (wae (waD aj (wv 0 rfl) waC (λ_ _=>rfl)) (wae (waq Dshow_all hr rfl (wae (waD aj (wv 0 rfl) waC (λ_ _=>rfl)) waf rfl) () rfl rfl) waf rfl) rfl) () rfl rfl))) wbP) (wbO (wbI (wbS aw (wv 1 rfl) waV (ai _)) (wbQ (wbK (waq Din_brackets hr rfl (wae (waD aj (wv 0 rfl) waC (λ_ _=>rfl)) (wae (waq Dshow_all hr rfl (wae (waT gi (wv 0 rfl) (wbA waC) wbz) waf rfl) () rfl rfl) waf rfl) rfl) () rfl rfl))) wbP) (wbO (wbI (wbS aw (wv 1 rfl) waV (ai _)) (wbQ (wbK (waq Din_brackets hr rfl (wae waV (wae (waq Dshow_all hr rfl (wae (waD aj (wv 0 rfl) waC (λ_ _=>rfl)) waf rfl) () rfl rfl) waf rfl) rfl) () rfl rfl))) wbP) (wbQ (wbK (waq Din_brackets hr rfl (wae (wv 1 rfl) (wae (waE (["sort","given"]) [] (wbs rfl T.zip (wae (wbu FS (waB (.ref gS) rfl GS rfl ()) (wv 1 rfl) (λ_ _=>rfl)) (wae (waT gi (wv 0 rfl) (wbA waC) wbz) waf rfl) rfl) rfl rfl) (.of rfl) rfl (λ_ _ _=>⟨pg_tup rfl (pgs_cons (pg_name (i:=0) (bc (l:=["sort","given"]) (()) rfl) rfl (υ rfl)) (pgs_cons (pg_name (i:=1) (bc (l:=["sort","given"]) (()) rfl) rfl (υ rfl)) pgs_nil))⟩) (gx () ()) (λ_ _ _=>wbx) (λ_ _ _=>(waq Dshow_behind hr rfl (wae (wv 0 rfl) (wae (wv 1 rfl) waf rfl) rfl) () rfl rfl)) ()) waf rfl) rfl) () rfl rfl)))))))))),?_⟩
 dsimp only[bi,Cx.nox]
 rw[Wx]at wx
 rcases wx with ⟨i,h0,h1,rfl,rfl⟩|⟨y,hy,rfl,rfl⟩|⟨f,ds,bs,hf,hw,hr',l4,ha,rfl,rfl⟩|⟨r,d1,d2,b1,b2,hr',w1,w2,rfl,rfl⟩|⟨ds,bs,l1,l4,ha,rfl,rfl⟩|⟨p,ds,bs,hp,hf,ha,fo,rfl,rfl⟩
 all_goals obtain⟨a,vs,rfl,hta,rs⟩:=Rep.tup_inv R
 all_goals obtain⟨y0,ws,rfl,R0,ru⟩:=bF rs
 ·obtain rfl:y0=_:=R0
  obtain⟨x,rfl,rx⟩:=cU ru
  obtain rfl:x=.int i:=rx
  refine⟨_,rfl,a,_,0,_,rfl,rfl,SqT.of hta,ae (j:=0) rfl,?_⟩
  refine gnm ?_
  refine⟨_,rfl,rfl,_,rfl,ap (λh=>?_) (λh=>absurd (Q9 rfl) h)⟩
  have:=kX (i:=i) h0 ()
  exact⟨_,rfl,a,_,1,.int i,rfl,rfl,SqT.of hta,ae (j:=1) rfl,i,rfl,this,by have:=q H (ak.refl _);unfold bv at this;rwa[brT]at this⟩
 ·obtain rfl:y0=_:=R0
  obtain⟨x,rfl,rx⟩:=cU ru
  obtain rfl:x=.str y:=rx
  refine⟨_,rfl,a,_,0,_,rfl,rfl,SqT.of hta,ae (j:=0) rfl,?_⟩
  refine gnm ?_
  refine⟨_,rfl,rfl,_,rfl,ap (fwd ()) (λ_=>?_)⟩
  refine⟨_,rfl,rfl,_,rfl,ap (λ_=>?_) (λh=>absurd (Q9 rfl) h)⟩
  refine⟨_,rfl,a,_,1,.str y,rfl,rfl,SqT.of hta,ae (j:=1) rfl,by have:=q H (ak.refl _);unfold bv at this;rwa[brT]at this⟩
 ·obtain rfl:y0=_:=R0
  obtain⟨x1,x2,rfl,r1,r2⟩:=Reps.two ru
  obtain rfl:x1=.str f:=r1
  obtain⟨t,us,rfl,ht,rt⟩:=Rep.tup_inv r2
  refine⟨_,rfl,a,_,0,_,rfl,rfl,SqT.of hta,ae (j:=0) rfl,?_⟩
  refine gnm ?_
  refine⟨_,rfl,rfl,_,rfl,ap (fwd ()) (λ_=>?_)⟩
  refine⟨_,rfl,rfl,_,rfl,ap (fwd ()) (λ_=>?_)⟩
  refine⟨_,rfl,rfl,_,rfl,ap (λ_=>?_) (λh=>absurd (Q9 rfl) h)⟩
  have h1:=pT f bs
  refine⟨_,rfl,a,_,1,.str f,rfl,rfl,SqT.of hta,ae (j:=1) rfl,_,rfl,a,_,2,.ref t,rfl,rfl,SqT.of hta,ae (j:=2) rfl,t,us,ds,bs,rfl,ht,rt,ha,l4,(),λH1 l s1 hn hl=>?_⟩
  exact vA (E:=E0) hl hf (by rw[ha.len];omega) lb (q _ s1)
 ·obtain rfl:y0=_:=R0
  obtain⟨x1,ws,rfl,r1,ru2⟩:=bF ru
  obtain rfl:x1=.str r:=r1
  refine⟨_,rfl,a,_,0,_,rfl,rfl,SqT.of hta,ae (j:=0) rfl,?_⟩
  refine gnm ?_
  refine⟨_,rfl,rfl,_,rfl,ap (fwd ()) (λ_=>?_)⟩
  refine⟨_,rfl,rfl,_,rfl,ap (fwd ()) (λ_=>?_)⟩
  refine⟨_,rfl,rfl,_,rfl,ap (fwd ()) (λ_=>?_)⟩
  refine⟨_,rfl,rfl,_,rfl,ap (λ_=>?_) (λh=>absurd (Q9 rfl) h)⟩
  have h1:=pT r [b1,b2]
  refine⟨_,rfl,a,_,1,.str r,rfl,rfl,SqT.of hta,ae (j:=1) rfl,?_⟩
  refine⟨_,rfl,2,rfl,?_⟩
  dsimp only[bz]
  refine gc hta λH1 t s1 ht=>?_
  have ec:bU (V.str (γ "reckon")::V.str r::ws) (some 2) none=ws:=bW (V.str (γ "reckon")::V.str r::ws) 2
  rw[ec]at ht
  refine⟨t,ws,[d1,d2],[b1,b2],rfl,ht,ru2.mono s1,.cons w1 (.cons w2 .nil),(),(),λH2 l s2 hn hl=>?_⟩
  exact vA (E:=E0) hl (gd r (dD hr')).1 () lb (q _ (s1.trans s2))
 ·obtain rfl:y0=_:=R0
  obtain⟨x1,rfl,r1⟩:=cU ru
  obtain⟨t,us,rfl,ht,rt⟩:=Rep.tup_inv r1
  refine⟨_,rfl,a,_,0,_,rfl,rfl,SqT.of hta,ae (j:=0) rfl,?_⟩
  refine gnm ?_
  refine⟨_,rfl,rfl,_,rfl,ap (fwd ()) (λ_=>?_)⟩
  refine⟨_,rfl,rfl,_,rfl,ap (fwd ()) (λ_=>?_)⟩
  refine⟨_,rfl,rfl,_,rfl,ap (fwd ()) (λ_=>?_)⟩
  refine⟨_,rfl,rfl,_,rfl,ap (fwd ()) (λ_=>?_)⟩
  refine⟨_,rfl,rfl,_,rfl,ap (λ_=>?_) (λh=>absurd (Q9 rfl) h)⟩
  have h1:=pT (γ "row") bs
  refine⟨_,rfl,a,_,1,.ref t,rfl,rfl,SqT.of hta,ae (j:=1) rfl,t,us,ds,bs,rfl,ht,rt,ha,l4,(),λH1 l s1 hn hl=>?_⟩
  exact vA (E:=E0) hl () (by rw[ha.len];omega) lb (q _ s1)
 ·obtain rfl:y0=_:=R0
  obtain⟨n1,n2,n3,n4,n5⟩:=uc hf
  obtain⟨g,hg,hgT⟩:=hS p hp
  have h5:=cW p hp
  have h1:=pT p.1 bs
  obtain⟨lB,lD⟩:=ha.len
  have lws:=ru.length
  refine⟨_,rfl,a,_,0,_,rfl,rfl,SqT.of hta,ae (j:=0) rfl,?_⟩
  refine gnm ?_
  refine⟨_,rfl,rfl,_,rfl,ap (fwd n1) (λ_=>?_)⟩
  refine⟨_,rfl,rfl,_,rfl,ap (fwd n2) (λ_=>?_)⟩
  refine⟨_,rfl,rfl,_,rfl,ap (fwd n3) (λ_=>?_)⟩
  refine⟨_,rfl,rfl,_,rfl,ap (fwd n4) (λ_=>?_)⟩
  refine⟨_,rfl,rfl,_,rfl,ap (fwd n5) (λ_=>?_)⟩
  refine⟨_,rfl,_,rfl,p.1,g,rfl,rfl,hg,_,rfl,1,rfl,?_⟩
  dsimp only[bz]
  refine gc hta λH1 t s1 ht=>?_
  have ec:bU (V.str p.1::ws) (some 1) none=ws:=bW (V.str p.1::ws) 1
  rw[ec]at ht
  refine⟨g,t,rfl,⟨_,hgT _⟩,⟨_,SqT.of ht⟩,yU (xs:=p.2.2.map λs=>V.str (srt s)) (ys:=ws) (λi ys H'=>ak H1 H'/\ys=(bs.take i).map bv) ⟨ak.refl _,rfl⟩ (λi zs H' p=>⟨hgT _,SqT.of (p.1 _ _ ht)⟩) ?_ ?_⟩
  ·rintro i zs H2 x y p2 hx hy ⟨s2,rfl⟩ hp2
   rw[Ν]at hx
   obtain⟨so,hso,rfl⟩:=ϖ.mp hx
   obtain⟨d,hd,Ry⟩:=ru.get hy
   obtain⟨b,hb,ag⟩:=ha.get hso hd
   have:=pW (Ο hb)
   have s3:=s2.trans (ac hp2 (.tup [.str (srt so),y]))
   refine dj aa ⟨_,rfl,_,rfl,so,y,d,b,rfl,Ry.mono (s1.trans s3),ag,(),λH4 s4=>⟨?_,s3.trans s4,?_⟩⟩
   ·rw[δ,Υ,θ];omega
   ·rw[ϕ,hb,ς]
    rfl
  ·rintro zs H2 ⟨s2,rfl⟩ l hl
   rw[show min (p.2.2.map λs=>V.str (srt s)).length ws.length=bs.length by rw[δ];omega,ϒ]
   exact vA (E:=E0) aa (qL p hp) () lb (q _ (s1.trans (s2.trans (ac hl _))))
abbrev eC:Stmt:=top 56
abbrev gH:Stmt:=top 59
abbrev iZ:Stmt:=top 60
abbrev cL:Stmt:=top 61
theorem wX{x:Str}(h:nmB x=true):oV x=.non:=by
 obtain⟨h1,_,az⟩:=fK h
 obtain⟨c,r,e⟩:=dy h1
 unfold oV
 rw[Q6]
 intro hd
 obtain⟨a,_⟩:=eJ hd
 have h2:=a c (by rw[e];exact ο)
 have h3:=az c (by rw[e];exact ο)
 omega
def uZ:Sp:=λvs H Q _=>∃(v:V) (y:Str),vs=[v]/\Rep H (gm y) v/\Q (.str y) H
def yq:Sp:=λvs H Q _=>∃(x:Str) (d:Dv),vs=[.str x]/\((∃i:Int,0<=i/\i<10^12/\x=be i/\d=.tup [.str (γ "number"),.int i])\/(nmB x=true/\d=.tup [.str (γ "name"),.str x]))/\∀H' u,ak H H'->Rep H' d u->Q u H'
def nj(n:Nat):Sp:=λvs H Q _=>∃(v:V) (d:Dv) (b:Br),vs=[v]/\Rep H (bE b) v/\Wx n d b/\∀H' u,ak H H'->Rep H' d u->Q u H'
def uX(n:Nat):Sp:=λvs H Q _=>∃(s:So) (v:V) (d:Dv) (b:Br),vs=[.str (srt s),v]/\Rep H (bE b) v/\Ag (Wx n) s d b/\∀H' u,ak H H'->Rep H' d u->Q u H'
theorem mv:am ["branch"] ["branch"] (af eC):=by trivial
theorem mm{f:Addr}{fd:Θ}(F:Fun K "word_alone" "word_alone" eC f fd)(T:Txt K mg):av P w K mg base CX0 1 f fd ["branch"] uZ:=by
 refine F.ok mv (λvs H Q E h=>?_) (λcdv A outer s H vs Q E hr h=>?_)
 ·obtain⟨v,y,rfl,_⟩:=h
  rfl
 obtain⟨v,y,rfl,R,q⟩:=h
 obtain⟨a,rfl,ha⟩:=fh R
 refine⟨_,(@un _ _ _ (wbQ (wbK (wac (wbS iC (waD aj (wv 0 rfl) waC (λ_ _=>rfl)) waN (ai _)) (waD aj (wv 0 rfl) waC (λ_ _=>rfl)) waN)))),?_⟩
 refine⟨_,rfl,a,_,1,.non,rfl,rfl,SqT.of ha,ae (j:=1) rfl,rfl,_,rfl,ap (λ_=>?_) (λh=>absurd () h)⟩
 exact⟨_,rfl,a,_,0,.str y,rfl,rfl,SqT.of ha,ae (j:=0) rfl,q⟩
theorem kP:am ["word","number"] ["word"] (af iZ):=by trivial
theorem sX{f:Addr}{fd:Θ}{k:Nat}(F:Fun K "atom_of" "atom_of" iZ f fd)(T:Txt K mg)(Dnumber_of:Def P w K mg base k "number_of" ["word"] va):av P w K mg base CX0 (k+1) f fd ["word"] yq:=by
 have nd:=kP.nd
 refine F.ok kP (λvs H Q E h=>?_) (λcdv A outer s H vs Q E hr h=>?_)
 ·obtain⟨x,d,rfl,_⟩:=h
  rfl
 obtain⟨x,d,rfl,hx,q⟩:=h
 refine⟨_,(@un _ _ _ (wbO (wbM 1 nd rfl (υ rfl) (waq Dnumber_of hr rfl (wae (wv 0 rfl) waf rfl) () rfl rfl) rfl ()) (wbQ (wbK (wac (wbS iC (wv 1 rfl) waN (ai _)) (waX (wae waV (wae (wv 0 rfl) waf rfl) rfl)) (waX (wae waV (wae (wv 1 rfl) waf rfl) rfl))))))),?_⟩
 have two:∀(H1:Hp)(w0:Str)(v1:V)(d1:Dv),Rep H1 d1 v1->ak H H1->d=.tup [.str w0,d1]->∀t,H1 t=none->Q (.ref t) (upd H1 t (.tup [.str w0,v1])):=λH1 w0 v1 d1 R1 s1 e t ht=>by
  have s2:=ac ht (.tup [.str w0,v1])
  refine q _ _ (s1.trans s2) ?_
  rw[e,Rep]
  exact⟨t,_,rfl,aa,by simp only[Reps];exact⟨_,_,rfl,by simp only[Rep],_,_,rfl,R1.mono s2,rfl⟩⟩
 rcases hx with ⟨i,h0,h1,rfl,e⟩|⟨hy,e⟩
 ·have h2:i<10^60:=by omega
  refine⟨_,rfl,be i,rfl,?_,λH1 s1=>?_⟩
  ·have:=cT h0 h2
   show(be i).length<=1000
   omega
  rw[jR h0 h2]
  refine gnm ?_
  refine⟨_,rfl,rfl,_,rfl,ap (λh=>absurd h ()) (λ_=>?_)⟩
  exact⟨_,rfl,z2,two H1 _ _ (.int i) (by simp only[Rep]) s1 e⟩
 ·refine⟨_,rfl,x,rfl,?_,λH1 s1=>?_⟩
  ·have:=(aP hy).2
   omega
  rw[wX hy]
  refine gnm ?_
  refine⟨_,rfl,rfl,_,rfl,ap (λ_=>?_) (λh=>absurd () h)⟩
  exact⟨_,rfl,z2,two H1 _ _ (.str x) (by simp only[Rep]) s1 e⟩
theorem jh:am ["sort","branch"] ["sort","branch"] (af gH):=by trivial
theorem pU{f:Addr}{fd:Θ}{k n:Nat}(F:Fun K "thing_in" "thing_in" gH f fd)(T:Txt K mg)(Dlength_in:Def P w K mg base k "length_in" ["branch"] nK)(Dkind_in:Def P w K mg base k "kind_in" ["branch"] (fE 12))(Dword_alone:Def P w K mg base k "word_alone" ["branch"] uZ)(Dexpression_in:Def P w K mg base k "expression_in" ["branch"] (nj n)):av P w K mg base CX0 (k+1) f fd ["sort","branch"] (uX n):=by
 have nd:=jh.nd
 refine F.ok jh (λvs H Q E h=>?_) (λcdv A outer s H vs Q E hr h=>?_)
 ·obtain⟨s,v,d,b,rfl,_⟩:=h
  rfl
 obtain⟨s,v,d,b,rfl,R,ag,q⟩:=h
 refine⟨_,(@un _ _ _ (wbO (wbI (wbS aw (wv 0 rfl) waV (ai _)) (wbQ (wbK (waq Dlength_in hr rfl (wae (wv 1 rfl) waf rfl) () rfl rfl))) wbP) (wbO (wbI (wbS aw (wv 0 rfl) waV (ai _)) (wbQ (wbK (waq Dkind_in hr rfl (wae (wv 1 rfl) waf rfl) () rfl rfl))) wbP) (wbO (wbI (wbS aw (wv 0 rfl) waV (ai _)) (wbQ (wbK (waq Dword_alone hr rfl (wae (wv 1 rfl) waf rfl) () rfl rfl))) wbP) (wbQ (wbK (waq Dexpression_in hr rfl (wae (wv 1 rfl) waf rfl) () rfl rfl))))))),?_⟩
 refine⟨_,rfl,rfl,_,rfl,ap (λh=>?_) (λh=>?_)⟩
 ·cases(mM s).mp (Q7 h)
  obtain⟨c,ps,rfl,rfl,sm⟩:=ag
  rw[bE]at R
  exact⟨_,rfl,v,c,ps,rfl,R,sm.1,q⟩
 have hl:s≠.l:=λz=>h (Q9 ((mM s).mpr z))
 refine⟨_,rfl,rfl,_,rfl,ap (λh=>?_) (λh=>?_)⟩
 ·cases(mJ s).mp (Q7 h)
  obtain⟨k,rfl,rfl,kA,k6⟩:=ag
  rw[jT]at R
  exact⟨_,rfl,v,k,rfl,R,(),bq (λ_ _ h=>h.1) kA,q⟩
 have hk:s≠.k:=λz=>h (Q9 ((mJ s).mpr z))
 refine⟨_,rfl,rfl,_,rfl,ap (λh=>?_) (λh=>?_)⟩
 ·have key:∃y,d=.str y/\b=.leaf y/\nmB y=true:=by
   rcases(qG s).mp (Q7 h)with rfl|rfl
   ·exact ag
   ·exact ag
  obtain⟨y,rfl,rfl,hy⟩:=key
  rw[bE]at R
  exact⟨_,rfl,v,y,rfl,R,q H _ (ak.refl _) (by simp only[Rep])⟩
 have hx:¬ (s=.x\/s=.y):=λz=>h (Q9 ((qG s).mpr z))
 have key:Wx n d b:=by
  cases s with
  |x=>exact absurd (.inl rfl) hx
  |y=>exact absurd (.inr rfl) hx
  |l=>exact absurd rfl hl
  |k=>exact absurd rfl hk
  |e=>exact ag
  |n=>exact ag.elim
  |w=>exact ag.elim
  |f=>exact ag.elim
  |a=>exact ag.elim
  |r=>exact ag.elim
 exact⟨_,rfl,v,d,b,rfl,R,key,q⟩
theorem zm:∀p∈WT,bX p.1=false:=by decide +kernel
theorem z3:3<=sizeLine:=by rw[θ];decide
theorem Als.getB{R:Dv->Br->Prop}{ds:List Dv}{bs:List Br}(h:Als R ds bs):∀{i:Nat}{b:Br},bs[i]?=some b->∃d,ds[i]?=some d/\R d b:=by
 induction h with
 |nil=>intro i d e;cases e
 |cons a _ ih=>
  intro i d e
  cases i with
  |zero=>cases e;exact⟨_,rfl,a⟩
  |succ i=>exact ih e
theorem Ags.getB{R:Dv->Br->Prop}{ss:List So}{ds:List Dv}{bs:List Br}(h:Ags R ss ds bs):∀{i:Nat}{s:So}{b:Br},ss[i]?=some s->bs[i]?=some b->∃d,ds[i]?=some d/\Ag R s d b:=by
 induction h with
 |nil=>intro i s d e;cases e
 |cons a _ ih=>
  intro i s d e e'
  cases i with
  |zero=>cases e;cases e';exact⟨_,rfl,a⟩
  |succ i=>exact ih e e'
theorem dY:am ["branch","word","inner"] ["branch"] (af cL):=by trivial
theorem iH{f gS gR:Addr}{fd:Θ}{k n:Nat}(F:Fun K "expression_in" "expression_in" cL f fd)(T:Txt K mg)(S:Shp P w K gS)(GS:mg "SHAPES"=some (.ref gS))(GR:mg "RECKONS"=some (.ref gR))(hR:∀H,SqT K H gR (qM.map V.str))(Datom_of:Def P w K mg base k "atom_of" ["word"] yq)(Dthing_in:Def P w K mg base k "thing_in" ["sort","branch"] (uX n))(Dexpression_in:Def P w K mg base k "expression_in" ["branch"] (nj n)):av P w K mg base CX0 (k+1) f fd ["branch"] (nj (n+1)):=by
 have nd:=dY.nd
 refine F.ok dY (λvs H Q E h=>?_) (λcdv A outer s H vs Q E hr h=>?_)
 ·obtain⟨v,d,b,rfl,_⟩:=h
  rfl
 obtain⟨v,d,b,rfl,R,wx,q⟩:=h
 obtain⟨kvs,FS,hS,hS2⟩:=S.ex
 refine⟨_,(@un _ _ _ (wbO (wbM 1 nd rfl (υ rfl) (waD aj (wv 0 rfl) waC (λ_ _=>rfl)) rfl ()) (wbO (wbM 2 nd rfl (υ rfl) (waD aj (wv 0 rfl) waC (λ_ _=>rfl)) rfl ()) (wbO (wbI (wbS iC (wv 2 rfl) waN (ai _)) (wbQ (wbK (waq Datom_of hr rfl (wae (wv 1 rfl) waf rfl) () rfl rfl))) wbP) (wbO (wbI (wbS ni (wv 1 rfl) (waB (.ref gR) rfl GR rfl ()) (by with_unfolding_all rfl)) (wbQ (wbK (waQ fZ (waX (wae waV (wae (wv 1 rfl) waf rfl) rfl)) (wam ay rfl T.tuple () (wae (waE ["each"] [] (wbi (wv 2 rfl)) (.of rfl) rfl (λ_ _ _=>⟨pg_name (i:=0) (bc (l:=["each"]) (()) rfl) rfl (υ rfl)⟩) (aW ()) (λ_ _ _=>wbx) (λ_ _ _=>(waq Dexpression_in hr rfl (wae (wv 0 rfl) waf rfl) () rfl rfl)) ()) waf rfl) () () rfl rfl)))) wbP) (wbO (wbI (wbS aw (wv 1 rfl) waV (ai _)) (wbQ (wbK (waX (wae waV (wae (wam ay rfl T.tuple () (wae (waE ["each"] [] (wbi (wv 2 rfl)) (.of rfl) rfl (λ_ _ _=>⟨pg_name (i:=0) (bc (l:=["each"]) (()) rfl) rfl (υ rfl)⟩) (aW ()) (λ_ _ _=>wbx) (λ_ _ _=>(waq Dexpression_in hr rfl (wae (wv 0 rfl) waf rfl) () rfl rfl)) ()) waf rfl) () () rfl rfl) waf rfl) rfl)))) wbP) (wbO (wbI (wbS (Co FS) (wv 1 rfl) (waB (.ref gS) rfl GS rfl ()) (by with_unfolding_all rfl)) (wbQ (wbK (waQ fZ (waX (wae (wv 1 rfl) waf rfl)) (wam ay rfl T.tuple () (wae (waE (["sort","each"]) [] ⟨yB rfl T.zip (pa_cons (pe_getF FS (pe_glob (v:=.ref gS) rfl GS rfl) (pv 1) (λ_ _=>rfl)) (pa_cons (pv 2) pa_nil))⟩ (.of rfl) rfl (λ_ _ _=>⟨pg_tup rfl (pgs_cons (pg_name (i:=0) (bc (l:=["sort","each"]) (()) rfl) rfl (υ rfl)) (pgs_cons (pg_name (i:=1) (bc (l:=["sort","each"]) (()) rfl) rfl (υ rfl)) pgs_nil))⟩) (gx () ()) (λ_ _ _=>wbx) (λ_ _ _=>(waq Dthing_in hr rfl (wae (wv 0 rfl) (wae (wv 1 rfl) waf rfl) rfl) () rfl rfl)) ()) waf rfl) () () rfl rfl)))) wbP) (wbQ (wbK (waX (wae waV (wae (wv 1 rfl) (wae (wam ay rfl T.tuple () (wae (waE ["each"] [] (wbi (wv 2 rfl)) (.of rfl) rfl (λ_ _ _=>⟨pg_name (i:=0) (bc (l:=["each"]) (()) rfl) rfl (υ rfl)⟩) (aW ()) (λ_ _ _=>wbx) (λ_ _ _=>(waq Dexpression_in hr rfl (wae (wv 0 rfl) waf rfl) () rfl rfl)) ()) waf rfl) () () rfl rfl) waf rfl) rfl) rfl))))))))))),?_⟩
 dsimp only[bi,Cx.nox]
 rw[Wx]at wx
 have rd:∀{l:Addr}{ds:List Dv}{bs:List Br}{us:List V}{H2:Hp}{σ:St}{Q2:List V->Hp->Prop},Als (Wx n) ds bs->ds.length<=8->H2 l=some (.lst us)->Reps H2 (bs.map bE) us->(∀ys H',ak H2 H'->Reps H' ds ys->Q2 ys H')->rLC (Itl K l) 1 [] (dE 0) yW (mX (nj n) [] E0 (qj (lG 0) qV)) σ H2 Q2:=λ{l ds bs us H2 σ Q2} al l8 hl ru q2=>by
  have lu:=ru.length
  rw[δ,al.len]at lu
  refine dL (xs:=us) (λi ys H'=>ak H2 H'/\Reps H' (ds.take i) ys) ⟨ak.refl _,by simp[Reps]⟩ (λi ys H' _ p=>SqL.of (p.1 _ _ hl)) ?_ ?_
  ·rintro i ys H3 x hx ⟨s3,R3⟩
   obtain⟨e,he,Re⟩:=ru.get hx
   rw[Ν]at he
   obtain⟨b,hb,rfl⟩:=ϖ.mp he
   obtain⟨d,hd,wx⟩:=al.getB hb
   refine aV ⟨_,rfl,x,d,b,rfl,Re.mono s3,wx,λH4 w4 s4 R4=>⟨?_,s3.trans s4,?_⟩⟩
   ·rw[R3.length,Υ,θ];omega
   ·rw[ϕ,hd]
    exact Reps.append (R3.mono s4) (aQ R4)
  ·rintro ys H3 ⟨s3,R3⟩
   rw[lu,ϒ]at R3
   exact q2 ys H3 s3 R3
 have cat:∀{H3:Hp}{t0 t:Addr}{x:V}{xs ys:List V}{d0:Dv}{ds0 ds1:List Dv},H3 t0=some (.tup (x::xs))->Reps H3 (d0::ds0) (x::xs)->Reps H3 ds1 ys->ak H H3->d=.tup ((d0::ds0)++ds1)->(x::xs=[]->Q (.ref t) H3)/\(ys=[]->Q (.ref t0) H3)/\∀p,H3 p=none->Q (.ref p) (upd H3 p (.tup ((x::xs)++ys))):=λ{H3 t0 t x xs ys d0 ds0 ds1} h0 r0 r1 s3 e=>by
  refine⟨nofun,λe1=>?_,λp hp=>?_⟩
  ·have:=r1.length
   rw[e1,j4]at this
   rw[List.eq_nil_of_length_eq_zero this.symm,ϡ]at e
   refine q _ _ s3 ?_
   rw[e,Rep]
   exact⟨t0,_,rfl,h0,r0⟩
  ·have s4:=ac hp (.tup ((x::xs)++ys))
   refine q _ _ (s3.trans s4) ?_
   rw[e,Rep]
   exact⟨p,_,rfl,aa,Reps.append (r0.mono s4) (r1.mono s4)⟩
 rcases wx with ⟨i,h0,h1,rfl,rfl⟩|⟨y,hy,rfl,rfl⟩|⟨f,ds,bs,hf,hw,hr',l4,ha,rfl,rfl⟩|⟨r,d1,d2,b1,b2,hr',w1,w2,rfl,rfl⟩|⟨ds,bs,l1,l4,ha,rfl,rfl⟩|⟨p,ds,bs,hp,hf,ha,fo,rfl,rfl⟩
 ·rw[bE]at R
  obtain⟨a,rfl,hta⟩:=fh R
  refine⟨_,rfl,a,_,0,_,rfl,rfl,SqT.of hta,ae (j:=0) rfl,?_⟩
  refine gnm ?_
  refine⟨_,rfl,a,_,1,_,rfl,rfl,SqT.of hta,ae (j:=1) rfl,?_⟩
  refine gnm ?_
  refine⟨_,rfl,rfl,_,rfl,ap (λ_=>?_) (λh=>absurd () h)⟩
  exact⟨_,rfl,_,_,rfl,.inl ⟨i,h0,h1,rfl,rfl⟩,q⟩
 ·rw[bE]at R
  obtain⟨a,rfl,hta⟩:=fh R
  refine⟨_,rfl,a,_,0,_,rfl,rfl,SqT.of hta,ae (j:=0) rfl,?_⟩
  refine gnm ?_
  refine⟨_,rfl,a,_,1,_,rfl,rfl,SqT.of hta,ae (j:=1) rfl,?_⟩
  refine gnm ?_
  refine⟨_,rfl,rfl,_,rfl,ap (λ_=>?_) (λh=>absurd () h)⟩
  exact⟨_,rfl,_,_,rfl,.inr ⟨hy,rfl⟩,q⟩
 all_goals rw[bE,gh]at R
 all_goals obtain⟨a,l,us,rfl,hta,hl,ru⟩:=lU R
 all_goals refine⟨_,rfl,a,_,0,_,rfl,rfl,SqT.of hta,ae (j:=0) rfl,?_⟩
 all_goals refine gnm ?_
 all_goals refine⟨_,rfl,a,_,1,_,rfl,rfl,SqT.of hta,ae (j:=1) rfl,?_⟩
 all_goals refine gnm ?_
 all_goals refine⟨_,rfl,rfl,_,rfl,ap (λh=>absurd h ()) (λ_=>?_)⟩
 all_goals refine tnx ?_
 all_goals dsimp only
 all_goals refine⟨_,rfl,gR,_,rfl,.inr (hR _),rfl,(),_,rfl,?_⟩
 ·refine ap (λh=>absurd (show bX f=true from h) (by rw[hr'];decide)) (λ_=>?_)
  refine⟨_,rfl,rfl,_,rfl,ap (λh=>?_) (λ_=>?_)⟩
  ·have e:f=γ "row":=V.str.inj (Q7 h)
   rw[e]at hw
   exact absurd hw ()
  refine⟨_,rfl,f,rfl,rfl,_,rfl,?_⟩
  rw[hS2 f,show(WT.any λp=>decide (p.1=f))=false from hw]
  refine ap (λh=>absurd h ()) (λ_=>?_)
  refine⟨_,rfl,_,rfl,l,rfl,⟨_,SqL.of hl⟩,rd ha () hl ru λys H4 s4 R4 l5 hl5=>?_⟩
  have s5:=ac hl5 (.lst ys)
  refine⟨l5,_,rfl,.inl ⟨SqL.of aa,λt ht=>⟨z3,λm hm=>?_⟩⟩⟩
  have s6:=ac ht (.tup ys)
  have s7:=ac hm (.tup [.str (γ "call"),.str f,.ref t])
  refine q _ _ (s4.trans (s5.trans (s6.trans s7))) ?_
  rw[Rep]
  refine⟨m,_,rfl,aa,?_⟩
  simp only[Reps]
  refine⟨_,_,rfl,by simp only[Rep],_,_,rfl,by simp only[Rep],_,_,rfl,?_,rfl⟩
  rw[Rep]
  exact⟨t,ys,rfl,s7 _ _ aa,R4.mono (s5.trans (s6.trans s7))⟩
 ·refine ap (λ_=>?_) (λh=>absurd (show bX r=true from hr') h)
  refine⟨_,rfl,z2,λt0 ht0=>?_⟩
  have s1:=ac ht0 (.tup [.str (γ "reckon"),.str r])
  refine⟨_,rfl,l,rfl,⟨_,SqL.of (s1 _ _ hl)⟩,rd (ds:=[d1,d2]) (.cons w1 (.cons w2 .nil)) () (s1 _ _ hl) (ru.mono s1) λys H4 s4 R4 l5 hl5=>?_⟩
  have s5:=ac hl5 (.lst ys)
  refine⟨l5,_,rfl,.inl ⟨SqL.of aa,λt ht=>?_⟩⟩
  have s6:=ac ht (.tup ys)
  have s46:=s4.trans (s5.trans s6)
  have h0:=s46 _ _ (aa (H:=H) (a:=t0) (o:=.tup [.str (γ "reckon"),.str r]))
  refine⟨t0,t,_,_,rfl,rfl,SqT.of h0,SqT.of aa,?_,cat (d0:=.str (γ "reckon")) (ds0:=[.str r]) h0 ?_ (R4.mono (s5.trans s6)) (s1.trans s46) rfl⟩
  ·rw[R4.length,θ];simp
  ·simp only[Reps]
   exact⟨_,_,rfl,by simp only[Rep],_,_,rfl,by simp only[Rep],rfl⟩
 ·refine ap (λh=>absurd (show bX _=true from h) ()) (λ_=>?_)
  refine⟨_,rfl,rfl,_,rfl,ap (λ_=>?_) (λh=>absurd (Q9 rfl) h)⟩
  refine⟨_,rfl,l,rfl,⟨_,SqL.of hl⟩,rd ha () hl ru λys H4 s4 R4 l5 hl5=>?_⟩
  have s5:=ac hl5 (.lst ys)
  refine⟨l5,_,rfl,.inl ⟨SqL.of aa,λt ht=>⟨z2,λm hm=>?_⟩⟩⟩
  have s6:=ac ht (.tup ys)
  have s7:=ac hm (.tup [.str (γ "row"),.ref t])
  refine q _ _ (s4.trans (s5.trans (s6.trans s7))) ?_
  rw[Rep]
  refine⟨m,_,rfl,aa,?_⟩
  simp only[Reps]
  refine⟨_,_,rfl,by simp only[Rep],_,_,rfl,?_,rfl⟩
  rw[Rep]
  exact⟨t,ys,rfl,s7 _ _ aa,R4.mono (s5.trans (s6.trans s7))⟩
 ·obtain⟨n1,n2,n3,n4,n5⟩:=uc hf
  obtain⟨g,hg,hgT⟩:=hS p hp
  have h5:=cW p hp
  obtain⟨lB,lD⟩:=ha.len
  have lus:=ru.length
  rw[δ]at lus
  refine ap (λh=>absurd (zm p hp) (by rw[show bX p.1=true from h];decide)) (λ_=>?_)
  refine⟨_,rfl,rfl,_,rfl,ap (fwd n5) (λ_=>?_)⟩
  refine⟨_,rfl,p.1,rfl,rfl,_,rfl,?_⟩
  rw[hS2 p.1,show(WT.any λq=>decide (q.1=p.1))=true from f_.mpr ⟨p,hp,Q9 rfl⟩]
  refine ap (λ_=>?_) (λh=>absurd () h)
  refine⟨_,rfl,z1,λt0 ht0=>?_⟩
  have s1:=ac ht0 (.tup [.str p.1])
  refine⟨_,rfl,p.1,g,rfl,rfl,hg,_,rfl,g,l,rfl,⟨_,hgT _⟩,⟨_,SqL.of (s1 _ _ hl)⟩,ya (xs:=p.2.2.map λs=>V.str (srt s)) (ys:=us) (λi ys H'=>ak (upd H t0 (.tup [.str p.1])) H'/\Reps H' (ds.take i) ys) ⟨ak.refl _,by simp[Reps]⟩ (λi zs H' p=>⟨hgT _,SqL.of (p.1 _ _ (s1 _ _ hl))⟩) ?_ ?_⟩
  ·rintro i zs H2 x y p2 hx hy ⟨s2,R2⟩ hp2
   rw[Ν]at hx
   obtain⟨so,hso,rfl⟩:=ϖ.mp hx
   obtain⟨e,he,Re⟩:=ru.get hy
   rw[Ν]at he
   obtain⟨b,hb,rfl⟩:=ϖ.mp he
   obtain⟨d,hd,ag⟩:=ha.getB hso hb
   have q3:=ac hp2 (.tup [.str (srt so),y])
   have s3:=s2.trans q3
   refine dj aa ⟨_,rfl,_,rfl,so,y,d,b,rfl,Re.mono (s1.trans s3),ag,λH4 w4 s4 R4=>⟨?_,s3.trans s4,?_⟩⟩
   ·rw[R2.length,Υ,θ];omega
   ·rw[ϕ,hd]
    exact Reps.append (R2.mono (q3.trans s4)) (aQ R4)
  ·rintro ys H2 ⟨s2,R2⟩ l5 hl5
   rw[show min (p.2.2.map λs=>V.str (srt s)).length us.length=ds.length by rw[δ];omega,ϒ]at R2
   have s5:=ac hl5 (.lst ys)
   refine⟨l5,_,rfl,.inl ⟨SqL.of aa,λt ht=>?_⟩⟩
   have s6:=ac ht (.tup ys)
   have s46:=s2.trans (s5.trans s6)
   have h0:=s46 _ _ (aa (H:=H) (a:=t0) (o:=.tup [.str p.1]))
   refine⟨t0,t,_,_,rfl,rfl,SqT.of h0,SqT.of aa,?_,cat h0 (aQ (by simp only[Rep])) (R2.mono (s5.trans s6)) (s1.trans s46) rfl⟩
   rw[R2.length,θ,ϳ];omega
abbrev eZ:Stmt:=top 52
abbrev cR:Stmt:=top 65
abbrev ja:Stmt:=top 66
theorem Cz{H H':Hp}:ak (nw H H') H':=λb o e=>by
 unfold nw at e
 split at e
 ·exact e
 ·cases e
def ua:Sp:=λvs H Q _=>∃b:Br,vs=[.str (brT b)]/\bC b/\bu b<=20/\bl b<=1000000/\∀H' v,ak H H'->Rep H' (bE b) v->Q v H'
def WE(d:Dv)(x:Str):Prop:=∃b,x=brT b/\Wx 8 d b/\exN 8 d<=40
def yT(W:Dv->Str->Prop):Sp:=λvs H Q _=>∃(x:Str) (d:Dv),vs=[.str x]/\W d x/\∀H' v,ak H H'->Rep H' d v->Q v H'
def CQ(W:Dv->Str->Prop):Sp:=λvs H Q _=>∃(v:V) (x:Str) (d:Dv),vs=[v]/\Rep H d v/\W d x/\∀H',ak H H'->Q (.bl true) H'
def Bu(W:Dv->Str->Prop):Sp:=λvs H Q _=>∃(v:V) (x:Str) (d:Dv),vs=[v]/\Rep H d v/\W d x/\∀H',ak H H'->Q (.str x) H'
def xF(fr fi fs:Addr)(W:Dv->Str->Prop):Sp:=λvs H Q _=>∃(x:Str) (d:Dv) (p:V),vs=[.str x,.ref fr,.ref fi,.ref fs,p]/\W d x/\∀H' v,ak H H'->Rep H' d v->Q v H'
theorem BG(x:Str):isT (.str x) "str"=true:=by show("str" == "str" || "str" == "bool" && "str" == "int")=true;decide +kernel
theorem pc:am ["text"] ["text"] (af eZ):=by trivial
theorem pp{f C g1 g2:Addr}{fd d1 d2:Θ}{k0:Nat}(F:Fun K "branch_of" "branch_of" eZ f fd)(T:Txt K mg)(cl:Cls K C)(M_Signs:Mk K C g1)(F_Signs:av P w K mg base CX0 k0 g1 d1 ["self","text"] (vL C))(B_Signs:bQ K d1 ["self","text"] [])(G_Signs:mg "Signs"=some (.ref C))
  (m_branch:sf K C "branch" g2) (F_branch:av P w K mg base CX0 (k0+1) g2 d2 ["self","most"] (fe C 21)) (b_branch:bQ K d2 ["self","most"] []):av P w K mg base CX0 (k0+2) f fd ["text"] ua:=by
 refine F.ok pc (λvs H Q E h=>?_) (λcdv A outer s H vs Q E hr h=>?_)
 ·obtain⟨b,rfl,_⟩:=h
  rfl
 obtain⟨b,rfl,ok,dp,lb,q⟩:=h
 have nB:∀(y:Str)(p:Int),ϲ (γ "branch") [(γ "text",V.str y),(γ "at",V.int p)]=none:=uI () ()
 refine⟨_,(@un _ _ _ (wbQ (wbK (waJ (waK M_Signs F_Signs hr rfl G_Signs B_Signs .nil eU (wae (wv 0 rfl) waf rfl) () rfl rfl) cl m_branch F_branch hr b_branch .nil eU (wae ⟨T.g_MOST_BRACKETS rfl⟩ waf rfl) rfl rfl rfl)))),?_⟩
 refine⟨_,rfl,λx dx nx ndx nex=>⟨x,dx,brT b,rfl,aa,λH1 s1 sg1=>⟨rfl,?_⟩⟩⟩
 obtain⟨dx1,ha1⟩:=id sg1
 refine⟨x,dx1,_,rfl,ha1,nB _ _,x,brT b,0,20,b,[],rfl,sg1,lb,ϊ _,by rw[B9,ϡ],.inl rfl,ok,(),(),λH2 v s2 sg2 R2=>?_⟩
 refine q H2 v (λb o e=>?_) (R2.mono Cz)
 have bx:b≠x:=ah e nx
 have bd:b≠dx:=ah e ndx
 exact s2 b o bx (s1 b o bx (by rw[ao bx,ao bd];exact e))
theorem iJ:am ["text"] ["text"] (af cR):=by trivial
theorem iE{f:Addr}{fd:Θ}{k0:Nat}(F:Fun K "expression_of" "expression_of" cR f fd)(T:Txt K mg)(Dbranch_of:Def P w K mg base k0 "branch_of" ["text"] ua)(Dexpression_in:Def P w K mg base k0 "expression_in" ["branch"] (nj 8)):av P w K mg base CX0 (k0+1) f fd ["text"] (yT WE):=by
 refine F.ok iJ (λvs H Q E h=>?_) (λcdv A outer s H vs Q E hr h=>?_)
 ·obtain⟨x,d,rfl,_⟩:=h
  rfl
 obtain⟨x,d,rfl,⟨b,rfl,wx,c40⟩,q⟩:=h
 have h1:=oq wx
 obtain⟨h2,h3⟩:=Bj wx
 refine⟨_,(@un _ _ _ (wbQ (wbK (waq Dexpression_in hr rfl (wae (waq Dbranch_of hr rfl (wae (wv 0 rfl) waf rfl) () rfl rfl) waf rfl) () rfl rfl)))),?_⟩
 exact⟨_,rfl,b,rfl,h2,(),(),λH1 v1 s1 R1=>⟨v1,d,b,rfl,R1,wx,λH2 v2 s2 R2=>q H2 v2 (s1.trans s2) R2⟩⟩
theorem kt:am ["text","reader","is_one","shower","place","thing"] ["text","reader","is_one","shower","place"] (af ja):=by trivial
theorem tU{f fr fi fs:Addr}{fd dr di ds:Θ}{pr pi pz:List Str}{k0:Nat}{W:Dv->Str->Prop}(F:Fun K "just_so" "just_so" ja f fd)(T:Txt K mg)(FV_reader:av P w K mg base CX0 k0 fr dr pr (yT W))(KV_reader:ϥ K (.ref fr)=true)(BV_reader:bQ K dr pr [])
  (FV_is_one:av P w K mg base CX0 k0 fi di pi (CQ W)) (KV_is_one:ϥ K (.ref fi)=true) (BV_is_one:bQ K di pi []) (FV_shower:av P w K mg base CX0 k0 fs ds pz (Bu W)) (KV_shower:ϥ K (.ref fs)=true) (BV_shower:bQ K ds pz []):
  av P w K mg base CX0 (k0+1) f fd ["text","reader","is_one","shower","place"] (xF fr fi fs W):=by
 have nd:=kt.nd
 refine F.ok kt (λvs H Q E h=>?_) (λcdv A outer s H vs Q E hr h=>?_)
 ·obtain⟨x,d,p,rfl,_⟩:=h
  rfl
 obtain⟨x,d,p,rfl,hw,q⟩:=h
 refine⟨_,(@un _ _ _ (wbO (wbI (wbV (wal aY rfl T.isinstance () (wae (wv 0 rfl) (wae (wai (.ty "str") rfl T.str () rfl () ()) waf rfl) rfl) () () rfl rfl) ()) (wbO (wbM 5 nd rfl (υ rfl) (wan 1 FV_reader hr KV_reader BV_reader (wae (wv 0 rfl) waf rfl) rfl () () () rfl rfl) rfl ()) (wbQ (wbI (wab (wbW (wbV (wan 2 FV_is_one hr KV_is_one BV_is_one (wae (wv 5 rfl) waf rfl) rfl () () () rfl rfl) ()) (wbX (wbS aw (wan 3 FV_shower hr KV_shower BV_shower (wae (wv 5 rfl) waf rfl) rfl () () () rfl rfl) (wv 0 rfl) (ai _))))) (wbQ (wbK (wv 5 rfl))) wbP))) wbP) (wbQ wad))),?_⟩
 refine⟨_,rfl,_,_,_,_,rfl,dS.str x,ga K (.str x),?_⟩
 rw[BG]
 refine⟨_,rfl,ax ?_⟩
 refine⟨rfl,_,rfl,x,d,rfl,hw,λH1 v1 s1 R1=>?_⟩
 refine gnm ?_
 refine⟨rfl,_,rfl,v1,x,d,rfl,R1,hw,λH2 s2=>⟨_,rfl,ax ?_⟩⟩
 refine⟨rfl,_,rfl,v1,x,d,rfl,R1.mono s2,hw,λH3 s3=>⟨_,rfl,rfl,_,rfl,ap (λ_=>?_) (λh=>absurd (Q9 rfl) h)⟩⟩
 exact⟨_,rfl,q H3 v1 (s1.trans (s2.trans s3)) (R1.mono (s2.trans s3))⟩
abbrev tM:Stmt:=top 76
abbrev nW:Stmt:=top 78
def Wk(K:ε)(H:Hp)(a sc:Addr)(ns:List Int)(i m:Int):Prop:=H a=some (.lst [.ref sc,.int i,.int m])/\(∀H',aq a H H'->SqL K H' sc (ns.map V.int))/\0<=i/\i<10^15
def yd(K:ε):Sp:=λvs H Q _=>∃(a sc:Addr) (ns:List Int) (i m:Int),vs=[.ref a]/\Wk K H a sc ns i m/\ns.length<10^15/\∀(H':Hp)(r:Addr),aq a H H'->H' a=some (.lst [.ref sc,.int (i+1),.int m])->H r=none->St2 H' r->Q (.ref r) H'
def FM:List (Str×Str):=([("number",""),("name",""),("length","L"),("if","eee"),("let","xee"),("pair","ee"),("first","e"),("second","e"),("none","K"),("join","ee"),("take","Le"),("drop","Le"),("zip","ee"),("turn","e"),("get","ee"),("place","LL"),("value","e"),("up","Le"),("wide","Le"),("mirror","e"),("fork","Lexee"),("when","eLxee"),("loop","xLe"),("fold","xLxee"),("reckon","ee"),("reckon","ee"),("row","e"),("row","ee"),("row","eee"),("row","eeee"),("call",""),("call","e"),("call","ee"),("call","eee"),("call","eeee")]:List (String×String)).map λp=>(γ p.1,γ p.2)
def fmD(p:Str×Str):Dv:=.tup [.str p.1,.str p.2]
def vv:Sp:=λvs H Q _=>vs=[]/\∀(H':Hp)(l:Addr)(us:List V),ak H H'->H l=none->H' l=some (.lst us)->Reps H' (FM.map fmD) us->Q (.ref l) H'
def WS:Str:=γ "number: name: length:L if:eee let:xee pair:ee first:e second:e none:K join:ee take:Le drop:Le" ++ γ " zip:ee turn:e get:ee place:LL value:e up:Le wide:Le mirror:e fork:Lexee when:eLxee" ++ γ " loop:xLe fold:xLxee reckon:ee reckon:ee row:e row:ee row:eee row:eeee" ++ γ " call: call:e call:ee call:eee call:eeee"
def fmT(p:Str×Str):Str:=p.1++γ ":" ++ p.2
theorem rJ:Txt.split WS (γ " ")=FM.map fmT:=by decide +kernel
theorem xH:∀p∈FM,Txt.split (fmT p) (γ ":")=[p.1,p.2]/\(fmT p).length<=100:=by decide +kernel
theorem CA:WS.length<=300:=by decide +kernel
theorem uF:am ["_law_walk","_law_at"] ["_law_walk"] (af tM):=by trivial
theorem zo{f:Addr}{fd:Θ}{k:Nat}(F:Fun K "_law_next" "_law_next" tM f fd)(T:Txt K mg)(D_law_state:Def P w K mg base k "_law_state" ["_law_script","_law_k"] (oX K)):av P w K mg base CX0 (k+1) f fd ["_law_walk"] (yd K):=by
 have nd:=uF.nd
 refine F.ok uF (λvs H Q E h=>?_) (λcdv A outer s H vs Q E hr h=>?_)
 ·obtain⟨a,sc,ns,i,m,rfl,_⟩:=h
  rfl
 obtain⟨a,sc,ns,i,m,rfl,⟨ha,hS,i0,i1⟩,ln,q⟩:=h
 refine⟨_,(@un _ _ _ (wbO (wbM 1 nd rfl (υ rfl) (waD aE (wv 0 rfl) waC (λ_ _=>rfl)) rfl ()) (wbO (wbD (waQ bO (wv 1 rfl) waC) (wba (wv 0 rfl) waC ke ()) rfl rfl rfl) (wbO (wbI (wbS jk (wv 1 rfl) (waD aE (wv 0 rfl) waC (λ_ _=>rfl)) (ai _)) (wbQ (wbK (waq D_law_state hr rfl (wae (waD aE (wv 0 rfl) waC (λ_ _=>rfl)) (wae (wv 1 rfl) waf rfl) rfl) () rfl rfl))) wbP) (wbQ (wbK (waM (wae (waQ bO (waQ bO (waQ gN waC (wv 1 rfl)) (wal ar rfl T.len () (wae (waD aE (wv 0 rfl) waC (λ_ _=>rfl)) waf rfl) () () rfl rfl)) waC) (wae wah waf rfl) rfl)))))))),?_⟩
 refine⟨_,rfl,a,_,1,.int i,rfl,rfl,SqL.of ha,ae (j:=1) rfl,?_⟩
 refine gnm ?_
 refine⟨_,rfl,_,_,rfl,rfl,_,rfl,a,_,1,1,rfl,rfl,ha,rfl,?_⟩
 have sB:=aq.upd H a (.lst [.ref sc,.int (i+1),.int m])
 have h1:upd H a (.lst [.ref sc,.int (i+1),.int m]) a=some (.lst [.ref sc,.int (i+1),.int m]):=aa
 have hS1:SqL K (upd H a (.lst [.ref sc,.int (i+1),.int m])) sc (ns.map V.int):=hS _ sB
 have old:∀r,upd H a (.lst [.ref sc,.int (i+1),.int m]) r=none->H r=none:=λr hr=>by
  have:r≠a:=λz=>by rw[z,aa]at hr;cases hr
  rwa[ao this]at hr
 refine⟨_,rfl,_,rfl,a,_,2,.int m,rfl,rfl,SqL.of h1,ae (j:=2) rfl,_,_,rfl,rfl,_,rfl,ap (λ_=>?_) (λ_=>?_)⟩
 ·refine⟨_,rfl,a,_,0,.ref sc,rfl,rfl,SqL.of h1,ae (j:=0) rfl,_,rfl,sc,ns,i,rfl,hS1,i0,λH2 r s2 hr st=>?_⟩
  exact q H2 r (sB.trans (ak.b a s2)) (s2 _ _ h1) (old r hr) st
 ·refine⟨_,rfl,_,_,rfl,rfl,.inl ⟨(),()⟩,_,rfl,a,_,0,.ref sc,rfl,rfl,SqL.of h1,ae (j:=0) rfl,sc,_,rfl,.inl hS1,_,_,rfl,rfl,_,_,rfl,rfl,z2,λr hr=>?_⟩
  exact q _ r (sB.trans (ak.b a (ac hr _))) (ac hr _ _ _ h1) (old r hr) ⟨_,_,aa⟩
theorem pP:am ["_law_words"] [] (af nW):=by trivial
theorem yZ{f:Addr}{fd:Θ}(F:Fun K "_law_forms" "_law_forms" nW f fd)(T:Txt K mg):av P w K mg base CX0 1 f fd [] vv:=by
 have nd:=pP.nd
 refine F.ok pP (λvs H Q E h=>?_) (λcdv A outer s H vs Q E hr h=>?_)
 ·obtain⟨rfl,_⟩:=h
  rfl
 obtain⟨rfl,q⟩:=h
 refine⟨_,(@un _ _ _ (wbO (wbM 0 nd rfl (υ rfl) waV rfl ()) (wbO (wbM 0 nd rfl (υ rfl) (waQ au (wv 0 rfl) waV) rfl ()) (wbO (wbM 0 nd rfl (υ rfl) (waQ au (wv 0 rfl) waV) rfl ()) (wbO (wbM 0 nd rfl (υ rfl) (waQ au (wv 0 rfl) waV) rfl ()) (wbQ (wbK (waE ["_law_word"] [] (wbi (waj Κ g_ h_ cZ (wv 0 rfl) (wae waV waf rfl) rfl rfl rfl rfl rfl)) (.of rfl) rfl (λ_ _ _=>⟨pg_name (i:=0) (bc (l:=["_law_word"]) (()) rfl) rfl (υ rfl)⟩) (aW ()) (λ_ _ _=>wbx) (λ_ _ _=>(wam (wN K rfl) rfl T.tuple () (wae ⟨Ck K rfl Κ g_ h_ cZ (pv 0) (pa_cons pe_str pa_nil)⟩ waf rfl) () () rfl rfl)) ())))))))),?_⟩
 have len2:∀{m:Nat},m<=1000->m<=sizeLine:=λh=>by rw[θ];omega
 refine gnm ?_
 refine⟨_,rfl,_,_,rfl,rfl,len2 (),?_⟩
 refine gnm ?_
 refine⟨_,rfl,_,_,rfl,rfl,len2 (),?_⟩
 refine gnm ?_
 refine⟨_,rfl,_,_,rfl,rfl,len2 (),?_⟩
 refine gnm ?_
 have wl:=CA
 refine⟨_,rfl,rfl,WS,γ " ",rfl,rfl,(),len2 (),len2 (by rw[rJ];decide +kernel),λl hl=>?_⟩
 rw[rJ]
 have s1:=ac hl (.lst ((FM.map fmT).map V.str))
 have h1:upd H l (.lst ((FM.map fmT).map V.str)) l=some (.lst ((FM.map fmT).map V.str)):=aa
 generalize upd H l (.lst ((FM.map fmT).map V.str))=H1 at s1 h1⊢
 refine⟨l,rfl,⟨_,SqL.of h1⟩,dL (xs:=(FM.map fmT).map V.str) (λi ys H'=>ak H1 H'/\Reps H' ((FM.take i).map fmD) ys) ⟨ak.refl _,by simp[Reps]⟩ (λi ys H' _ p=>SqL.of (p.1 _ _ h1)) ?_ ?_⟩
 ·rintro i ys H3 x hx ⟨s3,R3⟩
  rw[Ψ,Ν]at hx
  obtain⟨p,hp,rfl⟩:=ϖ.mp hx
  obtain⟨e1,e2⟩:=xH p (Ο hp)
  have hi:=(ψ.mp hp).1
  have h35:FM.length=35:=by decide +kernel
  refine aV ⟨_,rfl,rfl,fmT p,γ ":",rfl,rfl,(),len2 (),len2 (by rw[e1];simp),λr hr'=>?_⟩
  rw[e1]
  have s4:=ac hr' (.lst ([p.1,p.2].map V.str))
  refine⟨r,_,rfl,.inl ⟨SqL.of aa,λt ht=>⟨?_,s3.trans (s4.trans (ac ht _)),?_⟩⟩⟩
  ·rw[R3.length,δ,Υ];exact len2 ()
  ·rw[ϕ,hp,ς]
   have s5:=ac ht (.tup ([p.1,p.2].map V.str))
   refine Reps.append (R3.mono (s4.trans s5)) (aQ ?_)
   show Rep _ (.tup [.str p.1,.str p.2]) _
   rw[Rep]
   exact⟨t,_,rfl,aa,by simp only[Reps,Χ,j9];exact⟨_,_,rfl,by simp only[Rep],_,_,rfl,by simp only[Rep],rfl⟩⟩
 ·rintro ys H3 ⟨s3,R3⟩ r hr'
  rw[δ,δ,ϒ]at R3
  have s4:=ac hr' (.lst ys)
  exact q _ r ys (s1.trans (s3.trans s4)) (by
   cases e:H r with
   |none=>rfl
   |some o=>rw[s3 r o (s1 r o e)]at hr';cases hr') aa (R3.mono s4)
abbrev pb:Stmt:=top 79
theorem yp{xs:List Str}{c:Int}{ps:List Pr}(h:Ln xs 99 c ps)(hn:∀x∈xs,nmB x=true):Sm c ps:=by
 have n1:∀p∈ps,nmB p.1=true:=λp hp=>hn _ (h.nm p hp).1
 refine⟨⟨⟨h.can,h.c0,by have:=h.cB;omega,by have:=h.len;omega,λp hp=>⟨by have:=(h.nm p hp).2;omega,(aP (n1 p hp)).2⟩⟩,n1⟩,Cu h.c0 h.cB h.can (by have:=h.len;omega) λp hp=>⟨n1 p hp,(h.nm p hp).2⟩⟩
structure Wo(H:Hp)(g r1 r2:Addr)(xs ys:List Str):Prop where
 hg:H g=some (.tup [.ref r1,.ref r2])
 h1:H r1=some (.lst (xs.map V.str))
 h2:H r2=some (.lst (ys.map V.str))
 l1:xs.length=12
 nd:xs.Nodup
 n1:∀x∈xs,nmB x=true
 l2:1<=ys.length/\ys.length<=5
 n2:∀y∈ys,nmB y=true/\cp y=false/\bX y=false
theorem Wo.ne{H:Hp}{g r1 r2 a:Addr}{xs ys:List Str}(w:Wo H g r1 r2 xs ys)(h:St2 H a):g≠a/\r1≠a/\r2≠a:=by
 obtain⟨n,b,e⟩:=h
 refine⟨λz=>?_,λz=>?_,λz=>?_⟩
 ·have:=w.hg;rw[z,e]at this;cases this
 ·have h1:=w.h1
  have l1:=w.l1
  rw[z,e]at h1
  injection h1 with h1
  injection h1 with h1
  cases xs with
  |nil=>cases l1
  |cons x xs=>injection h1 with h1;cases h1
 ·have h2:=w.h2
  have l2:=w.l2.1
  rw[z,e]at h2
  injection h2 with h2
  injection h2 with h2
  cases ys with
  |nil=>simp at l2
  |cons x xs=>injection h2 with h2;cases h2
theorem Wo.b{H H':Hp}{g r1 r2 a:Addr}{xs ys:List Str}(w:Wo H g r1 r2 xs ys)(n:g≠a/\r1≠a/\r2≠a)(s:aq a H H'):Wo H' g r1 r2 xs ys:=
 ⟨s _ _ n.1 w.hg,s _ _ n.2.1 w.h1,s _ _ n.2.2 w.h2,w.l1,w.nd,w.n1,w.l2,w.n2⟩
def lt:So->Str
 |.e=>"e"
 |.l=>"L"
 |.k=>"K"
 |_=>"x"
def vO:Sp:=λvs H Q _=>∃(s:So) (a g r1 r2:Addr) (xs ys:List Str),vs=[.str (lt s),.ref a,.ref g]/\(s=.l\/s=.k\/s=.x\/s=.y)/\St2 H a/\Wo H g r1 r2 xs ys /\
 ∀(H':Hp)(v:V)(d:Dv)(b:Br),aq a H H'->St2 H' a->Rep H' (.tup [d,.str (brT b)]) v->(∀R,Ag R s d b)->bl b<=10200->((s=.x\/s=.y)->∃y∈xs,d=.str y/\b=.leaf y)->Q v H'
theorem jD(xs:List V)(n:Nat):bU xs none (some (n:Int))=xs.take n:=by
 unfold bU
 have e1:HT.sIx xs.length xs.length (some (n:Int))=min n xs.length:=HT.sIx_nat _ _ _
 have e2:HT.sIx xs.length 0 none=0:=rfl
 rw[e1,e2,B9,Nat.sub_zero]
 rcases Nat.le_total n xs.length with h|h
 ·rw[Fh h]
 ·rw[Nat.min_eq_right h,ϒ,A6 h]
theorem xG(xs:List Str):bU (xs.map V.str) none (some 4)=(xs.take 4).map V.str:=by
 rw[List.map_take];exact jD _ 4
theorem qg:am ["_law_letter","_law_node","_law_world_here","_law_length_here","_law_kind_here","_law_name"] ["_law_letter","_law_node","_law_world_here"] (af pb):=by trivial
theorem yS{f:Addr}{fd:Θ}{k:Nat}(F:Fun K "_law_inner" "_law_inner" pb f fd)(T:Txt K mg)(D_law_draw:Def P w K mg base k "_law_draw" ["_law_state_here","_law_many"] dQ)(D_law_length:Def P w K mg base k "_law_length" ["_law_state_here","_law_names_here","_law_most"] jJ)(D_law_length_text:Def P w K mg base k "_law_length_text" ["_law_length_here"] mD)(D_law_kind:Def P w K mg base k "_law_kind" ["_law_state_here","_law_names_here","_law_room"] (jM 12))(D_law_kind_text:Def P w K mg base k "_law_kind_text" ["_law_kind_here"] (gp 12)):av P w K mg base CX0 (k+1) f fd ["_law_letter","_law_node","_law_world_here"] vO:=by
 have nd:=qg.nd
 refine F.ok qg (λvs H Q E h=>?_) (λcdv A outer s H vs Q E hr h=>?_)
 ·obtain⟨s,a,g,r1,r2,xs,ys,rfl,_⟩:=h
  rfl
 obtain⟨s,a,g,r1,r2,xs,ys,rfl,hs,st,wo,q⟩:=h
 obtain⟨ng,n1,n2⟩:=wo.ne st
 refine⟨_,(@un _ _ _ (wbO (wbI (wbS aw (wv 0 rfl) waV (ai _)) (wbO (wbM 3 nd rfl (υ rfl) (waq D_law_length hr rfl (wae (wv 1 rfl) (wae (waT cX (waD aj (wv 2 rfl) waC (λ_ _=>rfl)) wbz (wbA waC)) (wae waC waf rfl) rfl) rfl) () rfl rfl) rfl ()) (wbQ (wbK (waX (wae (wv 3 rfl) (wae (waq D_law_length_text hr rfl (wae (wv 3 rfl) waf rfl) () rfl rfl) waf rfl) rfl))))) wbP) (wbO (wbI (wbS aw (wv 0 rfl) waV (ai _)) (wbO (wbM 4 nd rfl (υ rfl) (waq D_law_kind hr rfl (wae (wv 1 rfl) (wae (waT cX (waD aj (wv 2 rfl) waC (λ_ _=>rfl)) wbz (wbA waC)) (wae waC waf rfl) rfl) rfl) () rfl rfl) rfl ()) (wbQ (wbK (waX (wae (wv 4 rfl) (wae (waq D_law_kind_text hr rfl (wae (wv 4 rfl) waf rfl) () rfl rfl) waf rfl) rfl))))) wbP) (wbO (wbM 5 nd rfl (υ rfl) (waD aE (waD aj (wv 2 rfl) waC (λ_ _=>rfl)) (waq D_law_draw hr rfl (wae (wv 1 rfl) (wae waC waf rfl) rfl) () rfl rfl) (λ_ _=>rfl)) rfl ()) (wbQ (wbK (waX (wae (wv 5 rfl) (wae (wv 5 rfl) waf rfl) rfl)))))))),?_⟩
 dsimp only[bi,Cx.nox]
 have n4:∀x∈xs.take 4,nmB x=true:=λx hx=>wo.n1 x (m8 hx)
 have cut:∀{l:Addr},H l=none->aq a H (upd H l (.lst ((xs.take 4).map V.str)))/\St2 (upd H l (.lst ((xs.take 4).map V.str))) a/\l≠a/\upd H l (.lst ((xs.take 4).map V.str)) l=some (.lst ((xs.take 4).map V.str)):=λ{l} hl=>by
  have s1:=ac hl (.lst ((xs.take 4).map V.str))
  exact⟨ak.b a s1,st.m s1,(λz=>by obtain⟨_,_,e⟩:=st;rw[z,e]at hl;cases hl),aa⟩
 refine⟨_,rfl,rfl,_,rfl,?_⟩
 rcases hs with rfl|rfl|hx
 ·refine ap (λ_=>?_) (λh=>absurd (Q9 rfl) h)
  refine⟨_,rfl,_,rfl,g,_,0,.ref r1,rfl,rfl,SqT.of wo.hg,ae (j:=0) rfl,?_⟩
  dsimp only[bz]
  refine⟨4,rfl,r1,_,rfl,SqL.of wo.h1,λl hl=>?_⟩
  rw[xG]
  obtain⟨s1,st1,la,h1⟩:=cut hl
  refine⟨a,l,99,xs.take 4,rfl,st1,h1,la,by rw[Υ];omega,(),(),λH2 v c ps s2 st2 R2 ln=>?_⟩
  have sm:=yp ln n4
  refine gnm ?_
  refine⟨_,rfl,_,rfl,v,c,ps,rfl,R2,sm.1.1,λH3 s3=>⟨z2,λt ht=>?_⟩⟩
  have s4:=ac ht (.tup [v,.str (ci c ps)])
  have ll:=cm sm.1.1
  refine q _ _ (bR c ps) (.leaf (ci c ps)) (s1.trans (s2.trans (ak.b a (s3.trans s4)))) (st2.m (s3.trans s4)) ?_ (λR=>⟨c,ps,rfl,rfl,sm⟩) (by unfold bl;rw[brT];omega) (λz=>by rcases z with z|z<;>cases z)
  rw[brT,Rep]
  exact⟨t,_,rfl,aa,by simp only[Reps];exact⟨_,_,rfl,R2.mono (s3.trans s4),_,_,rfl,by simp only[Rep],rfl⟩⟩
 ·refine ap (λh=>absurd h ()) (λ_=>?_)
  refine⟨_,rfl,rfl,_,rfl,ap (λ_=>?_) (λh=>absurd (Q9 rfl) h)⟩
  refine⟨_,rfl,_,rfl,g,_,0,.ref r1,rfl,rfl,SqT.of wo.hg,ae (j:=0) rfl,?_⟩
  dsimp only[bz]
  refine⟨4,rfl,r1,_,rfl,SqL.of wo.h1,λl hl=>?_⟩
  rw[xG]
  obtain⟨s1,st1,la,h1⟩:=cut hl
  refine⟨a,l,6,xs.take 4,rfl,(),(),(),st1,h1,la,by rw[Υ];omega,λH2 v k s2 st2 R2 kA k6=>?_⟩
  have sm:k.All Sm:=bq (λ_ _ h=>yp h n4) kA
  have wr:k.All Wr:=bq (λ_ _ h=>h.1.1) sm
  refine gnm ?_
  refine⟨_,rfl,_,rfl,v,k,rfl,R2,(),(),wr,λH3 s3=>⟨z2,λt ht=>?_⟩⟩
  have s4:=ac ht (.tup [v,.str (kdT k)])
  have ll:=bo wr
  refine q _ _ k.dv (bP k) (s1.trans (s2.trans (ak.b a (s3.trans s4)))) (st2.m (s3.trans s4)) ?_ (λR=>⟨k,rfl,rfl,sm,()⟩) (by unfold bl;rw[eQ];omega) (λz=>by rcases z with z|z<;>cases z)
  rw[eQ,Rep]
  exact⟨t,_,rfl,aa,by simp only[Reps];exact⟨_,_,rfl,R2.mono (s3.trans s4),_,_,rfl,by simp only[Rep],rfl⟩⟩
 ·have el:lt s=γ "x":=by rcases hx with rfl|rfl<;>rfl
  rw[el]
  refine ap (λh=>absurd h ()) (λ_=>?_)
  refine⟨_,rfl,rfl,_,rfl,ap (λh=>absurd h ()) (λ_=>?_)⟩
  refine⟨_,rfl,g,_,0,.ref r1,rfl,rfl,SqT.of wo.hg,ae (j:=0) rfl,_,rfl,a,12,rfl,st,(),(),λH2 i s2 st2 i0 i1=>?_⟩
  obtain⟨y,hy,he⟩:∃y,y∈xs/\atI (xs.map V.str) i=some (.str y):=by
   have hi:i.toNat<xs.length:=by rw[wo.l1];omega
   refine⟨xs[i.toNat],j5 hi,?_⟩
   have e:=ae (xs:=xs.map V.str) (j:=i.toNat) (v:=.str xs[i.toNat]) (by rw[Ν,Α hi];rfl)
   rwa[show((i.toNat:Nat):Int)=i by omega]at e
  refine⟨r1,_,i,.str y,rfl,rfl,SqL.of (s2 _ _ n1 wo.h1),he,?_⟩
  refine gnm ?_
  refine⟨_,rfl,_,rfl,z2,λt ht=>?_⟩
  have ny:=wo.n1 y hy
  have s4:=ac ht (.tup [.str y,.str y])
  refine q _ _ (.str y) (.leaf y) (s2.trans (ak.b a s4)) (st2.m s4) ?_ (λR=>by rcases hx with rfl|rfl<;>exact⟨y,rfl,rfl,ny⟩) (by unfold bl;rw[brT];have:=(aP ny).2;show y.cps.size<=_;omega) (λ_=>⟨y,hy,rfl,rfl⟩)
  rw[brT,Rep]
  exact⟨t,_,rfl,aa,by simp only[Reps];exact⟨_,_,rfl,by simp only[Rep],_,_,rfl,by simp only[Rep],rfl⟩⟩
abbrev oK:Stmt:=top 80
theorem AN{m:Nat}{R:Dv->Br->Prop}(hm:9<=m)(hR:∀d b,R d b->L2.Pl m d):∀{s:So}{d:Dv}{b:Br},Ag R s d b->L2.Pl m d
 |.e,_,_,h=>hR _ _ h
 |.l,_,_,h=>by obtain⟨c,ps,rfl,_,_⟩:=h;exact(oE c ps).up ()
 |.k,_,_,h=>by obtain⟨k,rfl,_,_,k6⟩:=h;exact k.pl.up ()
 |.x,_,_,h=>by obtain⟨y,rfl,_,_⟩:=h;exact .str
 |.y,_,_,h=>by obtain⟨y,rfl,_,_⟩:=h;exact .str
theorem sk{m:Nat}{R:Dv->Br->Prop}(hm:9<=m)(hR:∀d b,R d b->L2.Pl m d){ss:List So}{ds:List Dv}{bs:List Br}(h:Ags R ss ds bs):∀d∈ds,L2.Pl m d:=by
 induction h with
 |nil=>exact nofun
 |cons a _ ih=>
  intro d hd
  rcases ν.mp hd with rfl|hd
  ·exact AN hm hR a
  ·exact ih d hd
theorem fX{m:Nat}{x:Str}{ds:List Dv}(h:∀d∈ds,L2.Pl m d):L2.Pl (m+1) (.tup (.str x::ds)):=.tup λd hd=>by
 rcases ν.mp hd with rfl|hd
 ·exact .str
 ·exact h d hd
theorem kg:∀{n:Nat}{d:Dv}{b:Br},Wx n d b->L2.Pl (2*n+9) d
 |n+1,d,b,h=>by
  have hR:∀d b,Wx n d b->L2.Pl (2*n+9) d:=λd b h=>kg h
  rw[Wx]at h
  show L2.Pl (2*n+10+1) d
  rcases h with ⟨i,h0,h1,rfl,rfl⟩|⟨y,hy,rfl,rfl⟩|⟨f,ds,bs,hf,hw,hr,l4,ha,rfl,rfl⟩|⟨r,d1,d2,b1,b2,hr,w1,w2,rfl,rfl⟩|⟨ds,bs,l1,l4,ha,rfl,rfl⟩|⟨p,ds,bs,hp,_,ha,fo,rfl,rfl⟩
  ·exact fX λd hd=>by rw[ξ.mp hd];exact .int
  ·exact fX λd hd=>by rw[ξ.mp hd];exact .str
  ·exact fX λd hd=>by
    rcases ν.mp hd with rfl|hd
    ·exact .str
    ·rw[ξ.mp hd];exact .tup λd hd=>by obtain⟨b,_,r⟩:=ha.mem.1 d hd;exact hR d b r
  ·exact fX λd hd=>by
    rcases ν.mp hd with rfl|hd
    ·exact .str
    ·rcases ν.mp hd with rfl|hd
     ·exact(hR _ _ w1).up ()
     ·rw[ξ.mp hd];exact(hR _ _ w2).up ()
  ·exact fX λd hd=>by rw[ξ.mp hd];exact .tup λd hd=>by obtain⟨b,_,r⟩:=ha.mem.1 d hd;exact hR d b r
  ·exact fX λd hd=>(sk () hR ha d hd).up ()
theorem Di{i:Int}(h0:0<=i)(h1:i<5):∃r:Str,bX r=true/\atI ([V.str (γ "plus"),V.str (γ "minus"),V.str (γ "times"),V.str (γ "less"),V.str (γ "same")]:List V) i=some (.str r):=by
 have e:i=0\/i=1\/i=2\/i=3\/i=4:=by omega
 rcases e with rfl|rfl|rfl|rfl|rfl
 ·exact⟨_,(),ae (j:=0) rfl⟩
 ·exact⟨_,(),ae (j:=1) rfl⟩
 ·exact⟨_,(),ae (j:=2) rfl⟩
 ·exact⟨_,(),ae (j:=3) rfl⟩
 ·exact⟨_,(),ae (j:=4) rfl⟩
def BQ(R:Dv->Br->Prop)(xs:List Str)(w:Str)(ds:List Dv)(bs:List Br)(sub:List Dv):Prop:=
 (w="reckon"/\Als R ds bs/\ds.length=2/\sub=ds)\/(w="row"/\Als R ds bs/\1<=ds.length/\ds.length<=4/\sub=ds)\/(w="call"/\Als R ds bs/\ds.length<=4/\sub=ds) \/
 (∃p∈WT,w=p.1/\frm p.1=true/\Ags R p.2.2 ds bs/\sub=bn p.2.2 ds/\∀y,ds[0]?=some (.str y)->y∈xs)
theorem DA{n:Nat}{xs:List Str}{w:Str}{ds sub:List Dv}{bs:List Br}(h:BQ (Wx n) xs w ds bs sub):∀d∈ds,L2.Pl (2*n+9) d:=by
 have hR:∀d b,Wx n d b->L2.Pl (2*n+9) d:=λd b h=>kg h
 have al:Als (Wx n) ds bs->∀d∈ds,L2.Pl (2*n+9) d:=λha d hd=>by obtain⟨b,_,r⟩:=ha.mem.1 d hd;exact hR d b r
 rcases h with ⟨_,h,_⟩|⟨_,h,_⟩|⟨_,h,_⟩|⟨p,_,_,_,h,_⟩
 ·exact al h
 ·exact al h
 ·exact al h
 ·exact sk () hR h
def vm:Sp:=λvs H Q _=>∃(n:Nat) (w:Str) (lp lt a g r1 r2:Addr) (us:List V) (ds sub:List Dv) (bs:List Br) (xs ys:List Str),vs=[.str w,.ref lp,.ref lt,.ref a,.ref g]/\H lp=some (.lst us)/\Reps H ds us/\H lt=some (.lst (bs.map bv))/\lp≠a/\lt≠a/\St2 H a/\Wo H g r1 r2 xs ys /\
 BQ (Wx n) xs w ds bs sub/\(bs.map bl).sum<=1000000/\∀(H':Hp)(v:V)(d:Dv)(b:Br),aq a H H'->St2 H' a->Rep H' (.tup [d,.str (brT b)]) v->Wx (n+1) d b->exN (n+1) d=1+(sub.map (exN n)).sum->Q v H'
theorem uW{t u:TS}{D:bZ}{σ:St}{H:Hp}(h:∀X:St->Hp->Prop,(∀σ' H',u D σ' H'->X σ' H')->t {D with nx:=X} σ H):lJ t u D σ H:=h _ λ_ _ z=>z
theorem Et{s1 s2 i1 i2 i3 i4 r:TS}{D:bZ}{σ:St}{H:Hp}(h:∀Y1 Y2 Y3 Y4 Y5 Y6:St->Hp->Prop,(∀σ H,r D σ H->Y6 σ H)->(∀σ H,i4 {D with nx:=Y6} σ H->Y5 σ H)->(∀σ H,i3 {D with nx:=Y5} σ H->Y4 σ H)->(∀σ H,i2 {D with nx:=Y4} σ H->Y3 σ H)->(∀σ H,i1 {D with nx:=Y3} σ H->Y2 σ H)->(∀σ H,s2 {D with nx:=Y2} σ H->Y1 σ H)->s1 {D with nx:=Y1} σ H):
  lJ s1 (lJ s2 (lJ i1 (lJ i2 (lJ i3 (lJ i4 r))))) D σ H:=h _ _ _ _ _ _ (λ_ _ z=>z) (λ_ _ z=>z) (λ_ _ z=>z) (λ_ _ z=>z) (λ_ _ z=>z) λ_ _ z=>z
theorem zp{k:Nat}{ix:List Nat}{i:Nat}{tt:TT}{te:TE}{σ:St}{x:V}{ys:List V}{H:Hp}{N:List V->Hp->Prop}(h:tt ((dH k ix σ).set i (some x)) H λc H3=>if c=true then te ((dH k ix σ).set i (some x)) H3 λy H4=>ys.length<sizeLine/\N (ys++[y]) H4 else N ys H3):
  cO k ix (dE i) tt te σ x ys H N:=h
theorem Ad{xs:List Str}{y:Str}(nd:xs.Nodup)(h:y∈xs):(xs.filter λz=>decide (z≠y)).length+1=xs.length:=by
 induction xs with
 |nil=>cases h
 |cons x xs ih=>
  rw[u9]at nd
  by_cases e:x=y
  ·subst e
   rw[List.filter_cons_of_neg (),Γ]
   have:xs.filter (λz=>decide (z≠x))=xs:=List.filter_eq_self.mpr λz hz=>Q9 λq=>nd.1 (q▸hz)
   rw[this]
  ·rw[List.filter_cons_of_pos (by simpa using e),Γ,Γ]
   have:=ih nd.2 ((ν.mp h).resolve_left (λq=>e q.symm))
   omega
theorem qK:am ["_law_word","_law_parts","_law_texts","_law_node","_law_world_here","_law_told","_law_one","_law_other"] ["_law_word","_law_parts","_law_texts","_law_node","_law_world_here"] (af oK):=by trivial
theorem xw{f:Addr}{fd:Θ}{k:Nat}(F:Fun K "_law_whole" "_law_whole" oK f fd)(T:Txt K mg)(D_law_draw:Def P w K mg base k "_law_draw" ["_law_state_here","_law_many"] dQ):av P w K mg base CX0 (k+1) f fd ["_law_word","_law_parts","_law_texts","_law_node","_law_world_here"] vm:=by
 have nd:=qK.nd
 refine F.ok qK (λvs H Q E h=>?_) (λcdv A outer s H vs Q E hr h=>?_)
 ·obtain⟨n,w,lp,lt,a,g,r1,r2,us,ds,sub,bs,xs,ys,rfl,_⟩:=h
  rfl
 obtain⟨n,w,lp,lt,a,g,r1,r2,us,ds,sub,bs,xs,ys,rfl,hlp,ru,hlt,nlp,nlt,st,wo,fm,lb,q⟩:=h
 refine⟨_,(@un _ _ _ (wbO (wbM 5 nd rfl (υ rfl) (wv 0 rfl) rfl ()) (wbO (wbM 6 nd rfl (υ rfl) (waQ fZ (waX (wae (wv 0 rfl) waf rfl)) (wam ay rfl T.tuple () (wae (wv 1 rfl) waf rfl) () () rfl rfl)) rfl ()) (wbO (wbI (wbS aw (wv 0 rfl) waV (ai _)) (wbO (wbM 5 nd rfl (υ rfl) (waD aE (waM (wae waV (wae waV (wae waV (wae waV (wae waV waf rfl) rfl) rfl) rfl) rfl)) (waq D_law_draw hr rfl (wae (wv 3 rfl) (wae waC waf rfl) rfl) () rfl rfl) (λ_ _=>rfl)) rfl ()) (wbQ (wbM 6 nd rfl (υ rfl) (waQ fZ (waX (wae (wv 0 rfl) (wae (wv 5 rfl) waf rfl) rfl)) (wam ay rfl T.tuple () (wae (wv 1 rfl) waf rfl) () () rfl rfl)) rfl ()))) wbP) (wbO (wbI (wbS aw (wv 0 rfl) waV (ai _)) (wbQ (wbM 6 nd rfl (υ rfl) (waX (wae (wv 0 rfl) (wae (wam ay rfl T.tuple () (wae (wv 1 rfl) waf rfl) () () rfl rfl) waf rfl) rfl)) rfl ())) wbP) (wbO (wbI (wbS aw (wv 0 rfl) waV (ai _)) (wbO (wbM 5 nd rfl (υ rfl) (waD aE (waD aj (wv 4 rfl) waC (λ_ _=>rfl)) (waq D_law_draw hr rfl (wae (wv 3 rfl) (wae (wal ar rfl T.len () (wae (waD aj (wv 4 rfl) waC (λ_ _=>rfl)) waf rfl) () () rfl rfl) waf rfl) rfl) () rfl rfl) (λ_ _=>rfl)) rfl ()) (wbQ (wbM 6 nd rfl (υ rfl) (waX (wae (wv 0 rfl) (wae (wv 5 rfl) (wae (wam ay rfl T.tuple () (wae (wv 1 rfl) waf rfl) () () rfl rfl) waf rfl) rfl) rfl)) rfl ()))) wbP) (wbO (wbI (wab (wbW (wbS aw (wv 0 rfl) waV (ai _)) (wbX (wbS aw (waD aE (wv 1 rfl) waC (λ_ _=>rfl)) (waD aE (wv 1 rfl) waC (λ_ _=>rfl)) (ai _))))) (wbO (wbM 7 nd rfl (υ rfl) (waD aE (waE ["_law_name"] [1] (wbi (waD aj (wv 4 rfl) waC (λ_ _=>rfl))) (.of rfl) rfl (λ_ _ _=>⟨pg_name (i:=0) (bc (l:=["_law_name","_law_parts"]) (()) rfl) rfl (υ rfl)⟩) (aW ()) (λ_ _ _=>⟨zK (pt_cmpR eT (pv 0) (pe_ix (jI K rfl) (pv 1) pe_int (λ_ _=>rfl)) (ai _))⟩) (λ_ _ _=>(wv 0 rfl)) ()) (waq D_law_draw hr rfl (wae (wv 3 rfl) (wae waC waf rfl) rfl) () rfl rfl) (λ_ _=>rfl)) rfl ()) (wbO (wbM 6 nd rfl (υ rfl) (waQ fZ (waQ fZ (waT gi (wv 6 rfl) wbz (wbA waC)) (waX (wae (wv 7 rfl) waf rfl))) (waT gi (wv 6 rfl) (wbA waC) wbz)) rfl ()) (wbQ (wbM 2 nd rfl (υ rfl) (waQ gC (waQ gC (waT cX (wv 2 rfl) wbz (wbA waC)) (waM (wae (wv 7 rfl) waf rfl))) (waT cX (wv 2 rfl) (wbA waC) wbz)) rfl ())))) wbP) (wbQ (wbK (waX (wae (wv 6 rfl) (wae (waQ au (waQ au (waQ au (wv 5 rfl) waV) (waj Κ Ϫ ϫ cz waV (wae (wv 2 rfl) waf rfl) rfl rfl rfl rfl rfl)) waV) waf rfl) rfl))))))))))),?_⟩
 have lu:=ru.length
 have l8:ds.length<=8:=by
  rcases fm with ⟨_,_,h,_⟩|⟨_,_,_,h,_⟩|⟨_,_,h,_⟩|⟨p,hp,_,_,h,_⟩
  ·omega
  ·omega
  ·omega
  ·have:=cW p hp;rw[h.len.2];omega
 dsimp only[bi,Cx.nox]
 refine Et λY1 Y2 Y3 Y4 Y5 Y6 h7 h6 h5 h4 h3 h2=>⟨_,rfl,gnm (h2 _ _ ?_)⟩
 have fin:∀(H3:Hp)(z:Str)(l:Addr)(o7:Option V)(bs':List Br)(d:Dv)(v:V),aq a H H3->St2 H3 a->Rep H3 d v->H3 l=some (.lst (bs'.map bv))->nmB z=true->(bs'.map bl).sum<=1000008->bs'.length<=8->Wx (n+1) d (.nd z bs')->exN (n+1) d=1+(sub.map (exN n)).sum->Y6 [some (.str w),some (.ref lp),some (.ref l),some (.ref a),some (.ref g),some (.str z),some v,o7] H3:=λH3 z l o7 bs' d v s3 st3 R3 hl nz lb' l8' wx ex=>by
  have lj:=cf (γ ", ") (bs'.map brT)
  rw[eV,δ,Ψ]at lj
  have eb:((bs'.map ((λx:Str=>x.length)∘brT)).sum)=(bs'.map bl).sum:=rfl
  rw[eb]at lj
  have lw:z.length<=8:=(aP nz).2
  refine h7 _ _ ⟨_,rfl,_,rfl,_,_,rfl,rfl,by rw[θ,lb3];omega,rfl,_,rfl,_,l,bs'.map brT,rfl,rfl,SqL.of (by rw[hl,Ψ];rfl),by rw[Ψ,δ,eV,eb];omega,?_⟩
  rw[tj]
  refine⟨_,_,rfl,rfl,by rw[θ,μ,lb3];omega,_,_,rfl,rfl,by rw[θ,μ,μ,lb3,lb4];omega,z2,λm hm=>?_⟩
  have s4:=ac hm (.tup [v,.str (z++γ "(" ++ ύ (γ ", ") (bs'.map brT)++γ ")")])
  refine q _ _ d (.nd z bs') (s3.trans (ak.b a s4)) (st3.m s4) ?_ wx ex
  rw[brT,dG,Rep]
  exact⟨m,_,rfl,aa,by simp only[Reps];exact⟨_,_,rfl,R3.mono s4,_,_,rfl,by simp only[Rep],rfl⟩⟩
 have p4:∀{τ:St}{H3:Hp},w≠γ "fold"->Y6 (some (.str w)::τ) H3->Y5 (some (.str w)::τ) H3:=λne y=>h6 _ _ ⟨_,rfl,rfl,_,rfl,ap (fwd ne) (λ_=>aD (tnx y))⟩
 have p3:∀{τ:St}{H3:Hp},w≠γ "call"->Y5 (some (.str w)::τ) H3->Y4 (some (.str w)::τ) H3:=λne y=>h5 _ _ ⟨_,rfl,rfl,_,rfl,ap (fwd ne) (λ_=>tnx y)⟩
 have p2:∀{τ:St}{H3:Hp},w≠γ "row"->Y4 (some (.str w)::τ) H3->Y3 (some (.str w)::τ) H3:=λne y=>h4 _ _ ⟨_,rfl,rfl,_,rfl,ap (fwd ne) (λ_=>tnx y)⟩
 have p1:∀{τ:St}{H3:Hp},w≠γ "reckon"->Y3 (some (.str w)::τ) H3->Y2 (some (.str w)::τ) H3:=λne y=>h3 _ _ ⟨_,rfl,rfl,_,rfl,ap (fwd ne) (λ_=>tnx y)⟩
 have key:∀(H2:Hp)(t:Addr),ak H H2->H2 t=some (.tup (.str w::us))->Y2 [some (.str w),some (.ref lp),some (.ref lt),some (.ref a),some (.ref g),some (.str w),some (.ref t),none] H2:=λH2 t s2 ht=>by
  have ruB:∀{H3:Hp},aq a H H3->Reps H3 ds us:=λ{H3} s3=>bt (λd hd v r=>aT (st.tups s3) (DA fm d hd) r) ru
  rcases fm with ⟨rfl,al,l2,rfl⟩|⟨rfl,al,l1,l4,rfl⟩|⟨rfl,al,l4,rfl⟩|⟨pw,hpw,rfl,hf,ag,rfl,hx⟩
  ·refine h3 _ _ ⟨_,rfl,rfl,_,rfl,ap (λ_=>uW λX hX=>?_) (λh=>absurd (Q9 rfl) h)⟩
   refine⟨by rw[θ];decide,λl5 hl5=>?_⟩
   have s3:=ac hl5 (.lst [.str (γ "plus"),.str (γ "minus"),.str (γ "times"),.str (γ "less"),.str (γ "same")])
   have h5:upd H2 l5 (.lst [.str (γ "plus"),.str (γ "minus"),.str (γ "times"),.str (γ "less"),.str (γ "same")]) l5=some _:=aa
   have s23:=s2.trans s3
   have l5a:l5≠a:=λz=>by obtain⟨_,_,e⟩:=st;rw[z,s2 _ _ e]at hl5;cases hl5
   generalize upd H2 l5 (.lst [.str (γ "plus"),.str (γ "minus"),.str (γ "times"),.str (γ "less"),.str (γ "same")])=H3 at s23 h5⊢
   refine⟨_,rfl,a,5,rfl,st.m s23,(),(),λH4 i s4 st4 i0 i1=>?_⟩
   obtain⟨r,hr',hat⟩:=Di i0 i1
   refine⟨l5,_,i,.str r,rfl,rfl,SqL.of (s4 _ _ l5a h5),hat,gnm (hX _ _ ?_)⟩
   have s04:aq a H H4:=(ak.b a s23).trans s4
   have nr:=(gd r (dD hr')).1
   refine⟨_,rfl,_,rfl,z2,λt5 ht5=>?_⟩
   have s5:=ac ht5 (.tup [.str (γ "reckon"),.str r])
   refine⟨_,rfl,lp,_,rfl,.inl ⟨SqL.of (s5 _ _ (s04 _ _ nlp hlp)),λt6 ht6=>?_⟩⟩
   have s6:=ac ht6 (.tup us)
   have h56:=s6 _ _ (aa (H:=H4) (a:=t5) (o:=.tup [.str (γ "reckon"),.str r]))
   refine⟨t5,t6,_,_,rfl,rfl,SqT.of h56,SqT.of aa,by rw[θ];simp;omega,nofun,(λe=>by have:=congrArg w_ e;rw[lu,l2]at this;cases this),λp hp=>?_⟩
   have s7:=ac hp (.tup ([V.str (γ "reckon"),V.str r]++us))
   have s47:=s5.trans (s6.trans s7)
   have s07:aq a H _:=s04.trans (ak.b a s47)
   obtain⟨d1,d2,rfl⟩:∃d1 d2,sub=[d1,d2]:=by
    match sub,l2 with
    |[d1,d2],_=>exact⟨d1,d2,rfl⟩
   obtain⟨b1,b2,w1,w2,rfl⟩:∃b1 b2,Wx n d1 b1/\Wx n d2 b2/\bs=[b1,b2]:=by
    cases al with
    |cons a1 al=>
     cases al with
     |cons a2 al=>
      cases al
      exact⟨_,_,a1,a2,rfl⟩
   have ru7:Reps (upd (upd (upd H4 t5 (.tup [.str (γ "reckon"),.str r])) t6 (.tup us)) p (.tup ([V.str (γ "reckon"),V.str r]++us))) [d1,d2] us:=ruB s07
   have R7:Rep (upd (upd (upd H4 t5 (.tup [.str (γ "reckon"),.str r])) t6 (.tup us)) p (.tup ([V.str (γ "reckon"),V.str r]++us))) (.tup [.str (γ "reckon"),.str r,d1,d2]) (.ref p):=by
    rw[Rep]
    refine⟨p,_,rfl,aa,Reps.append (ds:=[.str (γ "reckon"),.str r]) ?_ ru7⟩
    simp only[Reps]
    exact⟨_,_,rfl,by simp only[Rep],_,_,rfl,by simp only[Rep],rfl⟩
   have st7:=st4.m s47
   generalize upd (upd (upd H4 t5 (.tup [.str (γ "reckon"),.str r])) t6 (.tup us)) p (.tup ([V.str (γ "reckon"),V.str r]++us))=H7 at s07 R7 st7⊢
   have wx:Wx (n+1) (.tup [.str (γ "reckon"),.str r,d1,d2]) (.nd r [b1,b2]):=by
    rw[Wx];exact .inr (.inr (.inr (.inl ⟨r,d1,d2,b1,b2,hr',w1,w2,rfl,rfl⟩)))
   have ex:=eS (n:=n) (p:=li) in5.2.1 (ds:=[.str r,d1,d2]) (bT wx).1
   have hlt7:=s07 _ _ nlt hlt
   exact gnm (p2 () (p3 () (p4 () (fin _ _ _ _ _ _ _ s07 st7 R7 hlt7 nr () (by show 2<=8;decide) wx ex))))
  ·refine p1 () (h4 _ _ ⟨_,rfl,rfl,_,rfl,ap (λ_=>?_) (λh=>absurd (Q9 rfl) h)⟩)
   refine⟨_,rfl,_,rfl,lp,_,rfl,.inl ⟨SqL.of (s2 _ _ hlp),λt3 ht3=>⟨z2,λt4 ht4=>?_⟩⟩⟩
   have s3:=ac ht3 (.tup us)
   have s4:=ac ht4 (.tup [.str (γ "row"),.ref t3])
   have s24:=s2.trans (s3.trans s4)
   have R4:Rep (upd (upd H2 t3 (.tup us)) t4 (.tup [.str (γ "row"),.ref t3])) (.tup [.str (γ "row"),.tup sub]) (.ref t4):=by
    rw[Rep]
    refine⟨t4,_,rfl,aa,?_⟩
    simp only[Reps]
    refine⟨_,_,rfl,by simp only[Rep],_,_,rfl,?_,rfl⟩
    rw[Rep]
    exact⟨t3,us,rfl,s4 _ _ aa,ru.mono s24⟩
   generalize upd (upd H2 t3 (.tup us)) t4 (.tup [.str (γ "row"),.ref t3])=H4 at s24 R4⊢
   have wx:Wx (n+1) (.tup [.str (γ "row"),.tup sub]) (.nd (γ "row") bs):=by
    rw[Wx];exact .inr (.inr (.inr (.inr (.inl ⟨sub,bs,l1,l4,al,rfl,rfl⟩))))
   have ex:=eS (n:=n) (p:=rj) in5.2.2.1 (ds:=[.tup sub]) (bT wx).1
   rw[show bn rj.2.2 [.tup sub]=sub by show sub++[]=sub;rw[ϡ]]at ex
   have hlt4:=s24 _ _ hlt
   have la:=al.len
   exact gnm (p3 () (p4 () (fin _ _ _ _ _ _ _ (ak.b a s24) (st.m s24) R4 hlt4 () () () wx ex)))
  ·refine p1 () (p2 () (h5 _ _ ⟨_,rfl,rfl,_,rfl,ap (λ_=>uW λX hX=>?_) (λh=>absurd (Q9 rfl) h)⟩))
   obtain⟨ng,n1,n2⟩:=wo.ne st
   have wg:=s2 _ _ wo.hg
   have w2:=s2 _ _ wo.h2
   have ly:=wo.l2
   refine⟨_,rfl,g,_,1,.ref r2,rfl,rfl,SqT.of wg,ae (j:=1) rfl,_,rfl,_,rfl,g,_,1,.ref r2,rfl,rfl,SqT.of wg,ae (j:=1) rfl,r2,_,rfl,.inl (SqL.of w2),a,_,rfl,st.m s2,by rw[δ];omega,by rw[δ];omega,λH4 i s4 st4 i0 i1=>?_⟩
   rw[δ]at i1
   obtain⟨y,hy,hat⟩:∃y,y∈ys/\atI (ys.map V.str) i=some (.str y):=by
    have hi:i.toNat<ys.length:=by omega
    refine⟨ys[i.toNat],j5 hi,?_⟩
    have e:=ae (xs:=ys.map V.str) (j:=i.toNat) (v:=.str ys[i.toNat]) (by rw[Ν,Α hi];rfl)
    rwa[show((i.toNat:Nat):Int)=i by omega]at e
   obtain⟨y1,y2,y3⟩:=wo.n2 y hy
   refine⟨r2,_,i,.str y,rfl,rfl,SqL.of (s4 _ _ n2 w2),hat,gnm (hX _ _ ?_)⟩
   have s04:aq a H H4:=(ak.b a s2).trans s4
   refine⟨_,rfl,_,rfl,_,rfl,lp,_,rfl,.inl ⟨SqL.of (s04 _ _ nlp hlp),λt5 ht5=>⟨z3,λt6 ht6=>?_⟩⟩⟩
   have s5:=ac ht5 (.tup us)
   have s6:=ac ht6 (.tup [.str (γ "call"),.str y,.ref t5])
   have s46:=s5.trans s6
   have s06:aq a H _:=s04.trans (ak.b a s46)
   have R6:Rep (upd (upd H4 t5 (.tup us)) t6 (.tup [.str (γ "call"),.str y,.ref t5])) (.tup [.str (γ "call"),.str y,.tup sub]) (.ref t6):=by
    rw[Rep]
    refine⟨t6,_,rfl,aa,?_⟩
    simp only[Reps]
    refine⟨_,_,rfl,by simp only[Rep],_,_,rfl,by simp only[Rep],_,_,rfl,?_,rfl⟩
    rw[Rep]
    exact⟨t5,us,rfl,s6 _ _ aa,ruB s06⟩
   have st6:=st4.m s46
   generalize upd (upd H4 t5 (.tup us)) t6 (.tup [.str (γ "call"),.str y,.ref t5])=H6 at s06 R6 st6⊢
   have wx:Wx (n+1) (.tup [.str (γ "call"),.str y,.tup sub]) (.nd y bs):=by
    rw[Wx];exact .inr (.inr (.inl ⟨y,sub,bs,y1,y2,y3,l4,al,rfl,rfl⟩))
   have ex:=eS (n:=n) (p:=jj) in5.1 (ds:=[.str y,.tup sub]) (bT wx).1
   rw[show bn jj.2.2 [.str y,.tup sub]=sub by show []++(sub++[])=sub;rw[ϡ,e_]]at ex
   have hlt6:=s06 _ _ nlt hlt
   have la:=al.len
   exact gnm (p4 () (fin _ _ _ _ _ _ _ s06 st6 R6 hlt6 y1 () () wx ex))
  ·obtain⟨m1,m2,m3,m4,m5⟩:=uc hf
   refine p1 m4 (p2 m5 (p3 m3 ?_))
   have Rt:Rep H2 (.tup (.str pw.1::ds)) (.ref t):=by
    rw[Rep]
    exact⟨t,_,rfl,ht,by simp only[Reps];exact⟨_,_,rfl,by simp only[Rep],ru.mono s2⟩⟩
   have la:=ag.len
   have h5:=cW pw hpw
   have nw:=qL pw hpw
   have lw:pw.1.length<=8:=(aP nw).2
   have plain:(pw.1≠"fold"\/kT ds=true)->Wx (n+1) (.tup (.str pw.1::ds)) (.nd pw.1 bs):=λfo=>by
    rw[Wx];exact .inr (.inr (.inr (.inr (.inr ⟨pw,ds,bs,hpw,hf,ag,fo,rfl,rfl⟩))))
   by_cases ef:pw.1="fold"
   ·have ess:=uK pw hpw ef
    have hsub:bn pw.2.2 ds=bn [.x,.l,.y,.e,.e] ds:=by rw[ess]
    obtain⟨y0,dl,y2,d3,d4,b1,b3,b4,u1,u3,u4,hds,hbs,hus,ny0,agl,ny2,w3,w4⟩:∃y0 dl y2 d3 d4 b1 b3 b4 u1 u3 u4,ds=[.str y0,dl,.str y2,d3,d4]/\bs=[.leaf y0,b1,.leaf y2,b3,b4]/\us=[.str y0,u1,.str y2,u3,u4]/\nmB y0=true/\Ag (Wx n) .l dl b1/\nmB y2=true/\Wx n d3 b3/\Wx n d4 b4:=by
     have ag':=ag
     rw[ess]at ag'
     cases ag' with
     |cons a0 ag'=>
      cases ag' with
      |cons a1 ag'=>
       cases ag' with
       |cons a2 ag'=>
        cases ag' with
        |cons a3 ag'=>
         cases ag' with
         |cons a4 ag'=>
          cases ag'
          obtain⟨y0,rfl,rfl,h0⟩:=a0
          obtain⟨y2,rfl,rfl,h2⟩:=a2
          obtain⟨v0,ws,rfl,r0,ru⟩:=bF ru
          obtain⟨v1,ws,rfl,r1,ru⟩:=bF ru
          obtain⟨v2,ws,rfl,r2,ru⟩:=bF ru
          obtain⟨v3,v4,rfl,r3,r4⟩:=Reps.two ru
          obtain rfl:v0=.str y0:=r0
          obtain rfl:v2=.str y2:=r2
          exact⟨_,_,_,_,_,_,_,_,_,_,_,rfl,rfl,rfl,h0,a1,h2,a3,a4⟩
    have hlp2:=s2 _ _ hlp
    have hlt2:=s2 _ _ hlt
    rw[hus]at hlp2
    refine h6 _ _ ⟨_,rfl,rfl,_,rfl,ap (λ_=>?_) (λh=>absurd (Q9 (by rw[ef])) h)⟩
    refine⟨_,rfl,lp,_,0,.str y0,rfl,rfl,SqL.of hlp2,ae (j:=0) rfl,_,rfl,lp,_,2,.str y2,rfl,rfl,SqL.of hlp2,ae (j:=2) rfl,rfl,_,rfl,ap (λh=>uW λX hX=>?_) (λh=>?_)⟩
    ·have e02:y0=y2:=V.str.inj (Q7 h)
     have wg:=s2 _ _ wo.hg
     have w1:=s2 _ _ wo.h1
     obtain⟨ng,n1,n2⟩:=wo.ne st
     have y0x:y0∈xs:=hx y0 (by rw[hds];rfl)
     have fl:=Ad wo.nd y0x
     rw[wo.l1]at fl
     refine⟨_,rfl,g,_,0,.ref r1,rfl,rfl,SqT.of wg,ae (j:=0) rfl,r1,rfl,⟨_,SqL.of w1⟩,dL (xs:=xs.map V.str) (λi zs H'=>H'=H2/\zs=((xs.take i).filter λz=>decide (z≠y0)).map V.str) ⟨rfl,rfl⟩ (λi zs H' _ p=>by rw[p.1];exact SqL.of w1) ?_ ?_⟩
     ·rintro i zs H' x hx' ⟨rfl,rfl⟩
      rw[Ν]at hx'
      obtain⟨z,hz,rfl⟩:=ϖ.mp hx'
      have hi:=(ψ.mp hz).1
      rw[wo.l1]at hi
      refine zp ⟨_,rfl,_,rfl,lp,_,0,.str y0,rfl,rfl,SqL.of hlp2,ae (j:=0) rfl,rfl,_,rfl,?_⟩
      by_cases e:z=y0
      ·rw[show(!decide (V.str z=V.str y0))=false by rw[e,Q9 rfl];rfl]
       refine aD ⟨rfl,?_⟩
       rw[ϕ,hz,FL,Option.toList_some,List.filter_cons_of_neg (by simp[e]),List.filter_nil,ϡ]
      ·rw[show(!decide (V.str z=V.str y0))=true by rw[Q8 (λq=>e (V.str.inj q))];rfl]
       refine ax ⟨_,rfl,?_,rfl,?_⟩
       ·have:=List.length_filter_le (λz=>decide (z≠y0)) (xs.take i)
        rw[Υ]at this
        rw[δ,θ];omega
       ·rw[ϕ,hz,FL,Option.toList_some,List.filter_cons_of_pos (by simpa using e),List.filter_nil,ς]
        rfl
     rintro zs H' ⟨rfl,rfl⟩ r hr'
     rw[δ,ϒ]
     have s3:=ac hr' (.lst ((xs.filter λz=>decide (z≠y0)).map V.str))
     have h3:upd H' r (.lst ((xs.filter λz=>decide (z≠y0)).map V.str)) r=some (.lst ((xs.filter λz=>decide (z≠y0)).map V.str)):=aa
     have s23:=s2.trans s3
     have ra:r≠a:=λz=>by obtain⟨_,_,e⟩:=st;rw[z,s2 _ _ e]at hr';cases hr'
     have ht3:=s3 _ _ ht
     generalize upd H' r (.lst ((xs.filter λz=>decide (z≠y0)).map V.str))=H3 at s23 h3 ht3⊢
     refine⟨_,rfl,a,11,rfl,st.m s23,(),(),λH4 i s4 st4 i0 i1=>?_⟩
     obtain⟨o,ho,hat⟩:∃o,o∈xs.filter (λz=>decide (z≠y0))/\atI ((xs.filter λz=>decide (z≠y0)).map V.str) i=some (.str o):=by
      have hi:i.toNat<(xs.filter λz=>decide (z≠y0)).length:=by omega
      refine⟨(xs.filter λz=>decide (z≠y0))[i.toNat],j5 hi,?_⟩
      have e:=ae (xs:=(xs.filter λz=>decide (z≠y0)).map V.str) (j:=i.toNat) (v:=.str (xs.filter λz=>decide (z≠y0))[i.toNat]) (by rw[Ν,Α hi];rfl)
      rwa[show((i.toNat:Nat):Int)=i by omega]at e
     obtain⟨ox,oy⟩:=A7.mp ho
     have no:=wo.n1 o ox
     have oy0:o≠y0:=Q7 oy
     refine⟨r,_,i,.str o,rfl,rfl,SqL.of (s4 _ _ ra h3),hat,gnm (hX _ _ (uW λX hX=>?_))⟩
     have s04:aq a H H4:=(ak.b a s23).trans s4
     have ta:t≠a:=λz=>by obtain⟨_,_,e⟩:=st;rw[z,s2 _ _ e]at ht;cases ht
     have ht4:=s4 _ _ ta ht3
     rw[hus]at ht4
     refine⟨_,rfl,?_⟩
     dsimp only[bz]
     refine⟨3,rfl,gc ht4 λH5 t5 s5 ht5=>?_⟩
     rw[show bU (V.str pw.1::[V.str y0,u1,V.str y2,u3,u4]) none (some 3)=[V.str pw.1,V.str y0,u1]from jD _ 3]at ht5
     refine⟨_,rfl,z1,λt6 ht6=>?_⟩
     have s6:=ac ht6 (.tup [.str o])
     refine⟨t5,t6,_,_,rfl,rfl,SqT.of (s6 _ _ ht5),SqT.of aa,by rw[θ];simp,nofun,nofun,λt7 ht7=>?_⟩
     have s7:=ac ht7 (.tup ([V.str pw.1,V.str y0,u1]++[V.str o]))
     have h7:upd (upd H5 t6 (.tup [.str o])) t7 (.tup ([V.str pw.1,V.str y0,u1]++[V.str o])) t7=some (.tup ([V.str pw.1,V.str y0,u1]++[V.str o])):=aa
     have s47:=s5.trans (s6.trans s7)
     generalize upd (upd H5 t6 (.tup [.str o])) t7 (.tup ([V.str pw.1,V.str y0,u1]++[V.str o]))=H7 at s47 h7⊢
     refine⟨_,rfl,4,rfl,?_⟩
     dsimp only[bz]
     refine gc (s47 _ _ ht4) λH8 t8 s8 ht8=>?_
     rw[show bU (V.str pw.1::[V.str y0,u1,V.str y2,u3,u4]) (some 4) none=[u3,u4]from bW _ 4]at ht8
     refine⟨t7,t8,_,_,rfl,rfl,SqT.of (s8 _ _ h7),SqT.of ht8,by rw[θ];simp,nofun,nofun,λt9 ht9=>?_⟩
     have s9:=ac ht9 (.tup ([V.str pw.1,V.str y0,u1]++[V.str o]++[u3,u4]))
     have h9:upd H8 t9 (.tup ([V.str pw.1,V.str y0,u1]++[V.str o]++[u3,u4])) t9=some (.tup ([V.str pw.1,V.str y0,u1]++[V.str o]++[u3,u4])):=aa
     have s49:=s47.trans (s8.trans s9)
     generalize upd H8 t9 (.tup ([V.str pw.1,V.str y0,u1]++[V.str o]++[u3,u4]))=H9 at s49 h9⊢
     refine gnm (hX _ _ ?_)
     have s09:aq a H H9:=s04.trans (ak.b a s49)
     have hlt9:=s09 _ _ nlt hlt
     rw[hbs]at hlt9
     refine⟨_,rfl,?_⟩
     dsimp only[bz]
     refine⟨2,rfl,lt,_,rfl,SqL.of hlt9,λl1 hl1=>?_⟩
     rw[show bU ([Br.leaf y0,b1,.leaf y2,b3,b4].map bv) none (some 2)=[bv (.leaf y0),bv b1]from jD _ 2]
     have p1:=ac hl1 (.lst [bv (.leaf y0),bv b1])
     have g1:upd H9 l1 (.lst [bv (.leaf y0),bv b1]) l1=some (.lst [bv (.leaf y0),bv b1]):=aa
     generalize upd H9 l1 (.lst [bv (.leaf y0),bv b1])=G1 at p1 g1⊢
     refine⟨_,rfl,z1,λl2 hl2=>?_⟩
     have p2:=ac hl2 (.lst [.str o])
     refine⟨l1,l2,_,_,rfl,rfl,p2 _ _ g1,aa,by rw[θ];simp,λl3 hl3=>?_⟩
     have p3:=ac hl3 (.lst ([bv (.leaf y0),bv b1]++[.str o]))
     have g3:upd (upd G1 l2 (.lst [.str o])) l3 (.lst ([bv (.leaf y0),bv b1]++[.str o])) l3=some (.lst ([bv (.leaf y0),bv b1]++[.str o])):=aa
     have p13:=p1.trans (p2.trans p3)
     generalize upd (upd G1 l2 (.lst [.str o])) l3 (.lst ([bv (.leaf y0),bv b1]++[.str o]))=G3 at p13 g3⊢
     refine⟨_,rfl,3,rfl,?_⟩
     dsimp only[bz]
     refine⟨lt,_,rfl,SqL.of (p13 _ _ hlt9),λl4 hl4=>?_⟩
     rw[show bU ([Br.leaf y0,b1,.leaf y2,b3,b4].map bv) (some 3) none=[bv b3,bv b4]from bW _ 3]
     have p4:=ac hl4 (.lst [bv b3,bv b4])
     refine⟨l3,l4,_,_,rfl,rfl,p4 _ _ g3,aa,by rw[θ];simp,λl5 hl5=>?_⟩
     have p5:=ac hl5 (.lst ([bv (.leaf y0),bv b1]++[.str o]++[bv b3,bv b4]))
     have g5:upd (upd G3 l4 (.lst [bv b3,bv b4])) l5 (.lst ([bv (.leaf y0),bv b1]++[.str o]++[bv b3,bv b4])) l5=some (.lst ([bv (.leaf y0),bv b1]++[.str o]++[bv b3,bv b4])):=aa
     have p15:=p13.trans (p4.trans p5)
     generalize upd (upd G3 l4 (.lst [bv b3,bv b4])) l5 (.lst ([bv (.leaf y0),bv b1]++[.str o]++[bv b3,bv b4]))=G5 at p15 g5⊢
     refine gnm ?_
     have s0G:aq a H G5:=s09.trans (ak.b a p15)
     have stG:St2 G5 a:=(st4.m s49).m p15
     have ruG:=ruB s0G
     rw[hds,hus]at ruG
     have RG:Rep G5 (.tup [.str pw.1,.str y0,dl,.str o,d3,d4]) (.ref t9):=by
      rw[Rep]
      refine⟨t9,_,rfl,p15 _ _ h9,?_⟩
      simp only[Reps]at ruG
      obtain⟨_,_,e,r0,_,_,e1,r1,_,_,e2,r2,_,_,e3,r3,_,_,e4,r4,e5⟩:=ruG
      cases e
      cases e1
      cases e2
      cases e3
      cases e4
      simp only[Reps,Ϲ,e_]
      exact⟨_,_,rfl,by simp only[Rep],_,_,rfl,r0,_,_,rfl,r1,_,_,rfl,by simp only[Rep],_,_,rfl,r3,_,_,rfl,r4,rfl⟩
     have ag2:Ags (Wx n) pw.2.2 [.str y0,dl,.str o,d3,d4] [.leaf y0,b1,.leaf o,b3,b4]:=by
      rw[ess]
      exact .cons ⟨y0,rfl,rfl,ny0⟩ (.cons agl (.cons ⟨o,rfl,rfl,no⟩ (.cons w3 (.cons w4 .nil))))
     have wx:Wx (n+1) (.tup (.str pw.1::[.str y0,dl,.str o,d3,d4])) (.nd pw.1 [.leaf y0,b1,.leaf o,b3,b4]):=by
      rw[Wx];exact .inr (.inr (.inr (.inr (.inr ⟨pw,_,_,hpw,hf,ag2,.inr (Q9 (ϋ oy0)),rfl,rfl⟩))))
     have ex:=eS (n:=n) hpw (ds:=[.str y0,dl,.str o,d3,d4]) (bT wx).1
     rw[show bn pw.2.2 [.str y0,dl,.str o,d3,d4]=bn pw.2.2 ds by rw[ess,hds];rfl]at ex
     have lo:bl (.leaf o)<=8:=by unfold bl;rw[brT];exact(aP no).2
     have lb2:([Br.leaf y0,b1,.leaf o,b3,b4].map bl).sum<=1000008:=by
      rw[hbs]at lb
      simp only[Χ,j9,j7,List.sum_nil]at lb⊢
      omega
     exact fin _ _ _ _ [.leaf y0,b1,.leaf o,b3,b4] _ _ s0G stG RG g5 nw lb2 (by show 5<=8;decide) wx ex
    ·have n02:y0≠y2:=λz=>h (Q9 (by rw[z]))
     have wx:=plain (.inr (by rw[hds];exact Q9 n02))
     exact tnx (fin _ _ _ _ _ _ _ (ak.b a s2) (st.m s2) Rt hlt2 nw () () wx (eS (n:=n) hpw (ds:=ds) (bT wx).1))
   ·have wx:=plain (.inl ef)
    exact p4 ef (fin _ _ _ _ _ _ _ (ak.b a s2) (st.m s2) Rt (s2 _ _ hlt) nw () () wx (eS (n:=n) hpw (ds:=ds) (bT wx).1))
 refine⟨_,rfl,z1,λt0 ht0=>?_⟩
 have s0:=ac ht0 (.tup [.str w])
 refine⟨_,rfl,lp,_,rfl,.inl ⟨SqL.of (s0 _ _ hlp),λt1 ht1=>?_⟩⟩
 have s1:=ac ht1 (.tup us)
 have s01:=s0.trans s1
 have h01:=s1 _ _ (aa (H:=H) (a:=t0) (o:=.tup [.str w]))
 have h11:upd (upd H t0 (.tup [.str w])) t1 (.tup us) t1=some (.tup us):=aa
 generalize upd (upd H t0 (.tup [.str w])) t1 (.tup us)=H1 at s1 s01 h01 h11⊢
 refine⟨t0,t1,_,_,rfl,rfl,SqT.of h01,SqT.of h11,by rw[θ,ϳ];omega,nofun,λe=>?_,λp hp=>?_⟩
 ·exact gnm (key H1 t0 s01 (by rw[h01,e]))
 ·exact gnm (key _ p (s01.trans (ac hp _)) aa)
abbrev oG:Stmt:=top 82
def WV:Str:=γ "number name length if let pair first second none join take drop zip turn get place value up wide" ++ γ " mirror fork when loop fold reckon row call plus minus times less same whole def ask"
def WW:List Str:=(["number","name","length","if","let","pair","first","second","none","join","take","drop","zip","turn","get","place","value","up","wide","mirror","fork","when","loop","fold","reckon","row","call","plus","minus","times","less","same","whole","def","ask"]:List String).map γ
theorem qO:Txt.split WV (γ " ")=WW:=by decide +kernel
theorem Cs:WV.length<=300:=by decide +kernel
theorem iT:WW.length=35:=by decide +kernel
def vwB(x:Str):Bool:=x.cps.toList.any λc=>!czB c
theorem Bf:∀x∈WW,nmB x=true/\vwB x=true:=by decide +kernel
theorem DI:∀p∈WT,vwB p.1=true:=by decide +kernel
theorem Ab:∀r∈qM,vwB r=true:=by decide +kernel
theorem Ba{x:Str}(h:Cn x):vwB x=false:=by
 unfold vwB
 rw[FW]
 intro c hc
 rw[h.2 c hc]
 decide
theorem zx{x:Str}(h:Cn x):nmB x=true/\cp x=false/\bX x=false:=by
 have hv:=Ba h
 refine⟨h.1,?_,?_⟩
 ·cases e:cp x with
  |false=>rfl
  |true=>
   obtain⟨p,hp,rfl⟩:=px e
   rw[DI p hp]at hv
   cases hv
 ·cases e:bX x with
  |false=>rfl
  |true=>rw[Ab x (dD e)]at hv;cases hv
def six(i:Nat):List Str:=(Ϝ 6).map λk=>WW.getD ((i+3*k)%35) (γ "")
theorem Bq:∀i,i<35->(six i).Nodup/\(∀x∈six i,x∈WW):=by decide +kernel
theorem ze{xs:List Str}{i:Nat}(hi:i<35)(nd:xs.Nodup)(hc:∀x∈xs,Cn x):(xs.take 6++six i).Nodup/\∀x∈xs.take 6++six i,nmB x=true:=by
 obtain⟨h1,h2⟩:=Bq i hi
 refine⟨List.nodup_append.mpr ⟨nd.sublist (List.take_sublist _ _),h1,λx hx y hy e=>?_⟩,λx hx=>?_⟩
 ·subst e
  have:=Ba (hc x (m8 hx))
  rw[(Bf x (h2 x hy)).2]at this
  cases this
 ·rcases Τ.mp hx with hx|hx
  ·exact(hc x (m8 hx)).1
  ·exact(Bf x (h2 x hx)).1
theorem CC:∀x∈[γ "ask",γ "def"],nmB x=true/\cp x=false/\bX x=false:=by decide +kernel
theorem za{xs:List Str}(hc:∀x∈xs,Cn x):∀x∈xs.drop 6++[γ "ask",γ "def"],nmB x=true/\cp x=false/\bX x=false:=λx hx=>by
 rcases Τ.mp hx with hx|hx
 ·exact zx (hc x (Fc hx))
 ·exact CC x hx
def vP:Sp:=λvs H Q _=>∃a:Addr,vs=[.ref a]/\St2 H a/\∀(H':Hp)(g r1 r2:Addr)(xs ys:List Str),aq a H H'->St2 H' a->Wo H' g r1 r2 xs ys->Q (.ref g) H'
theorem pS:am ["_law_state_here","_law_names_here","_law_words","_law_at"] ["_law_state_here"] (af oG):=by trivial
theorem yn{f:Addr}{fd:Θ}{k:Nat}(F:Fun K "_law_world" "_law_world" oG f fd)(T:Txt K mg)(D_law_names:Def P w K mg base k "_law_names" ["_law_state_here","_law_many"] uC)(D_law_draw:Def P w K mg base k "_law_draw" ["_law_state_here","_law_many"] dQ):av P w K mg base CX0 (k+1) f fd ["_law_state_here"] vP:=by
 have nd:=pS.nd
 refine F.ok pS (λvs H Q E h=>?_) (λcdv A outer s H vs Q E hr h=>?_)
 ·obtain⟨a,rfl,_⟩:=h
  rfl
 obtain⟨a,rfl,st,q⟩:=h
 refine⟨_,(@un _ _ _ (wbO (wbM 1 nd rfl (υ rfl) (waq D_law_names hr rfl (wae (wv 0 rfl) (wae waC waf rfl) rfl) () rfl rfl) rfl ()) (wbO (wbM 2 nd rfl (C8 rfl) waV rfl ()) (wbO (wbM 2 nd rfl (C8 rfl) (waQ au (wv 2 rfl) waV) rfl ()) (wbO (wbM 2 nd rfl (C8 rfl) (waj Κ g_ h_ cZ (wv 2 rfl) (wae waV waf rfl) rfl rfl rfl rfl rfl) rfl ()) (wbO (wbM 3 nd rfl (C8 rfl) (waq D_law_draw hr rfl (wae (wv 0 rfl) (wae (wal ar rfl T.len () (wae (wv 2 rfl) waf rfl) () () rfl rfl) waf rfl) rfl) () rfl rfl) rfl ()) (wbQ (wbK (waX (wae (waQ gC (waT cX (wv 1 rfl) wbz (wbA waC)) (waE ["_law_k"] ([2,3]) (wbk rfl T.range (wae waC waf rfl) rfl) (.of rfl) rfl (λ_ _ _=>⟨pg_name (i:=0) (bc (l:=["_law_k","_law_words","_law_at"]) (()) rfl) rfl (υ rfl)⟩) (aW ()) (λ_ _ _=>wbx) (λ_ _ _=>(waD (jI K rfl) (wv 1 rfl) (waQ gP (waQ bO (wv 2 rfl) (waQ gN waC (wv 0 rfl))) (wal (yY K rfl) rfl T.len () (wae (wv 1 rfl) waf rfl) () () rfl rfl)) (λ_ _=>rfl))) ())) (wae (waQ gC (waT cX (wv 1 rfl) (wbA waC) wbz) (waM (wae waV (wae waV waf rfl) rfl))) waf rfl) rfl)))))))))),?_⟩
 dsimp only[bi,Cx.nox]
 have len2:∀{m:Nat},m<=1000->m<=sizeLine:=λh=>by rw[θ];omega
 refine⟨_,rfl,a,9,rfl,st,(),λH1 r xs s1 st1 hr1 h1 lx cx nx=>?_⟩
 refine gnm ?_
 refine gnm ?_
 refine⟨_,rfl,_,_,rfl,rfl,len2 (),?_⟩
 refine gnm ?_
 have wl:=Cs
 refine⟨_,rfl,rfl,WV,γ " ",rfl,rfl,(),len2 (),len2 (by rw[qO];decide +kernel),λl hl=>?_⟩
 rw[qO]
 have s2:=ac hl (.lst (WW.map V.str))
 have h2:upd H1 l (.lst (WW.map V.str)) l=some (.lst (WW.map V.str)):=aa
 have la:l≠a:=λz=>by obtain⟨_,_,e⟩:=st1;rw[z,e]at hl;cases hl
 have ra:r≠a:=λz=>by obtain⟨_,_,e⟩:=st;rw[z,e]at hr1;cases hr1
 generalize upd H1 l (.lst (WW.map V.str))=H2 at s2 h2⊢
 refine gnm ?_
 refine⟨_,rfl,_,rfl,l,_,rfl,.inl (SqL.of h2),a,_,rfl,st1.m s2,by rw[δ,iT];decide,by rw[δ,iT];decide,λH3 i s3 st3 i0 i1=>?_⟩
 rw[δ,iT]at i1
 refine gnm ?_
 have h3:=s3 _ _ la h2
 have r3:=s3 _ _ ra (s2 _ _ h1)
 have s03:aq a H H3:=s1.trans ((ak.b a s2).trans s3)
 have i35:i.toNat<35:=by omega
 have pick:∀k:Nat,atI (WW.map V.str) ((i+3*((0:Int)+(k:Int)))%(((WW.map V.str).length:Nat):Int))=some (.str (WW.getD ((i.toNat+3*k)%35) (γ ""))):=λk=>by
  rw[δ,iT]
  have hj:(i.toNat+3*k)%35<WW.length:=by rw[iT];omega
  have e:=ae (xs:=WW.map V.str) (j:=(i.toNat+3*k)%35) (v:=.str (WW.getD ((i.toNat+3*k)%35) (γ ""))) (by rw[Ν,Α hj,List.getD_eq_getElem?_getD,Α hj];rfl)
  rwa[show(((i.toNat+3*k)%35:Nat):Int)=(i+3*((0:Int)+(k:Int)))%((35:Nat):Int) by omega]at e
 refine⟨_,rfl,?_⟩
 dsimp only[bz]
 refine⟨6,rfl,r,_,rfl,SqL.of r3,λl1 hl1=>?_⟩
 rw[show bU (xs.map V.str) none (some 6)=(xs.take 6).map V.str by rw[List.map_take];exact jD _ 6]
 have s4:=ac hl1 (.lst ((xs.take 6).map V.str))
 have g1:upd H3 l1 (.lst ((xs.take 6).map V.str)) l1=some (.lst ((xs.take 6).map V.str)):=aa
 generalize upd H3 l1 (.lst ((xs.take 6).map V.str))=H4 at s4 g1⊢
 have h4:=s4 _ _ h3
 have r4:=s4 _ _ r3
 have s04:aq a H H4:=s03.trans (ak.b a s4)
 have st4:=st3.m s4
 refine⟨6,rfl,(),(),kK (n:=(6:Int).toNat) (λk ys H'=>H'=H4/\ys=(((Ϝ k).map λk=>WW.getD ((i.toNat+3*k)%35) (γ "")).map V.str)) ⟨rfl,rfl⟩ ?_ ?_⟩
 ·rintro k ys H' hk ⟨rfl,rfl⟩
  refine aV ⟨_,rfl,_,rfl,_,rfl,_,_,rfl,rfl,.inl ⟨(),()⟩,_,_,rfl,rfl,_,rfl,l,_,rfl,.inl (SqL.of h4),_,_,rfl,rfl,by rw[δ,iT];show(0:Int)<35;decide,l,_,_,_,rfl,rfl,SqL.of h4,pick k,?_,rfl,?_⟩
  ·rw[δ,δ,List.length_range,θ];have:(6:Int).toNat=6:=rfl;omega
  ·rw[List.range_succ,ς,ς];rfl
 rintro ys H' ⟨rfl,rfl⟩ l2 hl2
 have e6:((Ϝ (6:Int).toNat).map λk=>WW.getD ((i.toNat+3*k)%35) (γ ""))=six i.toNat:=rfl
 rw[e6]
 obtain⟨wn1,wn2⟩:=ze (xs:=xs) i35 nx cx
 have l6:(six i.toNat).length=6:=by unfold six;rw[δ,List.length_range]
 have lt6:(xs.take 6).length=6:=by rw[Υ,lx];rfl
 have p1:=ac hl2 (.lst ((six i.toNat).map V.str))
 refine⟨l1,l2,_,_,rfl,rfl,p1 _ _ g1,aa,by rw[δ,δ,l6,lt6,θ];decide,λm1 hm1=>?_⟩
 rw[<-ς]
 have p2:=ac hm1 (.lst ((xs.take 6++six i.toNat).map V.str))
 have k1:upd (upd H' l2 (.lst ((six i.toNat).map V.str))) m1 (.lst ((xs.take 6++six i.toNat).map V.str)) m1=some (.lst ((xs.take 6++six i.toNat).map V.str)):=aa
 have p12:=p1.trans p2
 generalize upd (upd H' l2 (.lst ((six i.toNat).map V.str))) m1 (.lst ((xs.take 6++six i.toNat).map V.str))=G1 at p12 k1⊢
 refine⟨_,rfl,6,rfl,?_⟩
 dsimp only[bz]
 refine⟨r,_,rfl,SqL.of (p12 _ _ r4),λl3 hl3=>?_⟩
 rw[show bU (xs.map V.str) (some 6) none=(xs.drop 6).map V.str by rw[List.map_drop];exact bW _ 6]
 have p3:=ac hl3 (.lst ((xs.drop 6).map V.str))
 have k3:upd G1 l3 (.lst ((xs.drop 6).map V.str)) l3=some (.lst ((xs.drop 6).map V.str)):=aa
 generalize upd G1 l3 (.lst ((xs.drop 6).map V.str))=G3 at p3 k3⊢
 refine⟨z2,λl4 hl4=>?_⟩
 have p4:=ac hl4 (.lst [.str (γ "ask"),.str (γ "def")])
 have ld:(xs.drop 6).length=3:=by rw[Ϸ,lx]
 refine⟨l3,l4,_,_,rfl,rfl,p4 _ _ k3,aa,by rw[δ,ld,θ];decide,λm2 hm2=>?_⟩
 have em:(xs.drop 6).map V.str++[.str (γ "ask"),.str (γ "def")]=(xs.drop 6++[γ "ask",γ "def"]).map V.str:=by rw[ς];rfl
 rw[em]
 have p5:=ac hm2 (.lst ((xs.drop 6++[γ "ask",γ "def"]).map V.str))
 refine⟨z2,λg hg=>?_⟩
 have p6:=ac hg (.tup [.ref m1,.ref m2])
 have p36:=p3.trans (p4.trans (p5.trans p6))
 have p16:=p12.trans p36
 exact q _ g m1 m2 (xs.take 6++six i.toNat) (xs.drop 6++[γ "ask",γ "def"]) (s04.trans (ak.b a p16)) (st4.m p16) ⟨aa,p36 _ _ k1,p6 _ _ aa,by rw[Η,lt6,l6],wn1,wn2,by rw[Η,ld];exact⟨(),()⟩,za cx⟩
def FMS:List (Str×Str×List So):=FM.map λp=>(p.1,p.2,if p.1=γ "fold" then [.x,.l,.y,.e,.e]else p.2.cps.toList.map λc=>if c=101 then So.e else if c=76 then So.l else if c=75 then So.k else So.x)
theorem BB:∀p∈FM,∃ls,(p.1,p.2,ls)∈FMS:=λp hp=>⟨_,Ω.mpr ⟨p,hp,rfl⟩⟩
theorem BL:∀q∈FMS,q.2.1.cps.toList.map (λc=>(⟨#[c]⟩:Str))=q.2.2.map lt/\q.2.1.cps.size=q.2.2.length/\q.2.2.length<=5/\q.2.1.cps.all (· < 128)=true:=by decide +kernel
theorem BT:∀q∈FMS,∀s∈q.2.2,s=.e\/s=.l\/s=.k\/s=.x\/s=.y:=by decide +kernel
def AA(ss:List So):Bool:=ss.all λs=>decide (s=.e)
def fmB(q:Str×Str×List So):Bool:=
 (decide (q.1="number")&&decide (q.2.2=[]))||(decide (q.1="name")&&decide (q.2.2=[]))||(decide (q.1="reckon")&&decide (q.2.2=[.e,.e]))||(decide (q.1="row")&&(AA q.2.2&&(decide (1<=q.2.2.length)&&decide (q.2.2.length<=4))))||(decide (q.1="call")&&(AA q.2.2&&decide (q.2.2.length<=4)))||(WT.any λp=>decide (p.1=q.1)&&(decide (p.2.2=q.2.2)&&frm p.1))
theorem Dx:∀q∈FMS,fmB q=true:=by decide +kernel
def nE(ss:List So):Nat:=(ss.filter λs=>decide (s=.e)).length
theorem zT:∀q∈FMS,Txt.count q.2.1 (γ "e")=(nE q.2.2:Int)/\nE q.2.2<=4:=by decide +kernel
theorem oI{R:Dv->Br->Prop}{ss:List So}{ds:List Dv}{bs:List Br}(h:Ags R ss ds bs)(he:AA ss=true):Als R ds bs/\bn ss ds=ds:=by
 induction h with
 |nil=>exact⟨.nil,rfl⟩
 | @cons s d b ss ds bs a _ ih=>
  unfold AA at he
  rw[List.all_cons,Ζ]at he
  have e:s=.e:=Q7 he.1
  subst e
  obtain⟨h1,h2⟩:=ih he.2
  exact⟨.cons a h1,by show [d]++bn ss ds=d::ds;rw[h2];rfl⟩
theorem Dr{R:Dv->Br->Prop}{xs:List Str}{q:Str×Str×List So}(hq:q∈FMS)(h1:q.1≠"number")(h2:q.1≠"name"){ds:List Dv}{bs:List Br}(h:Ags R q.2.2 ds bs)(hx:∀y,ds[0]?=some (.str y)->y∈xs):BQ R xs q.1 ds bs (bn q.2.2 ds):=by
 have hb:=Dx q hq
 unfold fmB at hb
 simp only[Gk,Ζ,decide_eq_true_eq]at hb
 obtain⟨lb,ld⟩:=h.len
 rcases hb with ((((hb|hb)|hb)|hb)|hb)|hb
 ·exact absurd hb.1 h1
 ·exact absurd hb.1 h2
 ·have e:=oI h (by rw[hb.2];decide)
  exact .inl ⟨hb.1,e.1,by rw[ld,hb.2];rfl,e.2⟩
 ·have e:=oI h hb.2.1
  exact .inr (.inl ⟨hb.1,e.1,(),(),e.2⟩)
 ·have e:=oI h hb.2.1
  exact .inr (.inr (.inl ⟨hb.1,e.1,(),e.2⟩))
 ·obtain⟨p,hp,e⟩:=f_.mp hb
  simp only[Ζ,decide_eq_true_eq]at e
  exact .inr (.inr (.inr ⟨p,hp,e.1.symm,e.2.2,by rw[e.2.1];exact h,by rw[e.2.1],hx⟩))
abbrev eO:Stmt:=top 81
theorem gs{Y:St->Hp->Prop}{t u:TS}{D:bZ}{i:Nat}{x:V}{σ:St}{H:Hp}(e:∀σ' H',lJ t u D σ' H'->Y σ' H')(h:∀X:St->Hp->Prop,(∀σ' H',u D σ' H'->X σ' H')->t {D with nx:=X} (σ.set i (some x)) H):dE i x σ H Y:=e _ _ (h _ λ_ _ z=>z)
theorem en{c:TT}{t u:TS}{D:bZ}{σ:St}{H:Hp}(h:∀Y Z:Hp->Prop,(∀H',t D σ H'->Y H')->(∀H',u D σ H'->Z H')->c σ H λb H1=>if b=true then Y H1 else Z H1):Dd c t u D σ H:=h _ _ (λ_ z=>z) λ_ z=>z
structure Cur(H H':Hp)(wk sc nd:Addr)(i m:Int):Prop where
 sb:aq wk H H'
 hk:H' wk=some (.lst [.ref sc,.int i,.int m])
 st:St2 H' nd
section
variable{H H1 H2:Hp}{wk sc nd L:Addr}{i j z:Int}
theorem Cur.m(c:Cur H H1 wk sc nd i z)(s:ak H1 H2):Cur H H2 wk sc nd i z:=⟨c.sb.trans (ak.b wk s),s _ _ c.hk,c.st.m s⟩
theorem Cur.d(c:Cur H H1 wk sc nd i z)(s:aq nd H1 H2)(t:St2 H2 nd)(n:nd≠wk)(f:H nd=none):Cur H H2 wk sc nd i z:=⟨λg o hg e=>s g o (ah e f) (c.sb g o hg e),s _ _ (ϋ n) c.hk,t⟩
theorem Cur.l(c:Cur H H1 wk sc nd i z)(s:aq L H1 H2)(f:H L=none)(n:L≠wk)(k:L≠nd):Cur H H2 wk sc nd i z:=⟨λg o hg e=>s g o (ah e f) (c.sb g o hg e),s _ _ (ϋ n) c.hk,c.st.b s (ϋ k)⟩
theorem Cur.e(c:Cur H H1 wk sc nd i z)(s:aq wk H1 H2)(h:H2 wk=some (.lst [.ref sc,.int j,.int z]))(n:nd≠wk):Cur H H2 wk sc nd j z:=⟨c.sb.trans s,h,c.st.b s n⟩
theorem Cur.tm(c:Cur H H1 wk sc nd i z)(s:aq wk H1 H2):mj H1 H2:=s.tups c.hk
end
theorem wy{H H':Hp}{a b:Addr}(s:aq a H H')(h:H' b=none)(n:b≠a):H b=none:=by
 cases e:H b with
 |none=>rfl
 |some o=>rw[s b o n e]at h;cases h
theorem Wo.nw{H:Hp}{g r1 r2 a sc:Addr}{i m:Int}{xs ys:List Str}(w:Wo H g r1 r2 xs ys)(e:H a=some (.lst [.ref sc,.int i,.int m])):g≠a/\r1≠a/\r2≠a:=by
 refine⟨λz=>?_,λz=>?_,λz=>?_⟩
 ·have:=w.hg;rw[z,e]at this;cases this
 ·have h1:=w.h1
  have l1:=w.l1
  rw[z,e]at h1
  injection h1 with h1
  injection h1 with h1
  cases xs with
  |nil=>cases l1
  |cons x xs=>injection h1 with h1;cases h1
 ·have h2:=w.h2
  have l2:=w.l2.1
  rw[z,e]at h2
  injection h2 with h2
  injection h2 with h2
  cases ys with
  |nil=>simp at l2
  |cons x xs=>injection h2 with h2;cases h2
theorem BO{n:Nat}{y:Str}{b:Br}(h:Wx n (.str y) b):False:=by
 cases n with
 |zero=>exact h
 |succ n=>rcases h with ⟨_,_,_,h,_⟩|⟨_,_,h,_⟩|⟨_,_,_,_,_,_,_,_,h,_⟩|⟨_,_,_,_,_,_,_,_,h,_⟩|⟨_,_,_,_,_,h,_⟩|⟨_,_,_,_,_,_,_,h,_⟩<;>cases h
theorem Ags.snoc{R:Dv->Br->Prop}{ss:List So}{ds:List Dv}{bs:List Br}(h:Ags R ss ds bs){s:So}{d:Dv}{b:Br}(a:Ag R s d b):Ags R (ss++[s]) (ds++[d]) (bs++[b])/\bn (ss++[s]) (ds++[d])=bn ss ds++ptD s d:=by
 induction h with
 |nil=>exact⟨.cons a .nil,by show ptD s d++[]=[]++ptD s d;rw[ϡ,e_]⟩
 | @cons s' d' b' ss ds bs a' _ ih=>exact⟨.cons a' ih.1,by show ptD s' d'++bn (ss++[s]) (ds++[d])=(ptD s' d'++bn ss ds)++ptD s d;rw[ih.2,c_]⟩
theorem An:∀q∈FMS,(q.2.2.map wgt).sum<=100000:=by decide +kernel
theorem Ap{x:Str}{ls:List So}{j:Nat}{s:So}(e:x.cps.toList.map (λc=>(⟨#[c]⟩:Str))=ls.map lt)(hj:j<x.cps.size)(hs:ls[j]?=some s):pQ x j=.str (lt s):=by
 have h:(x.cps.toList.map (λc=>(⟨#[c]⟩:Str)))[j]?=(ls.map lt)[j]?:=by rw[e]
 rw[Ν,Ν,hs,Array.getElem?_toList,FP hj]at h
 unfold pQ
 rw[q9,FP hj]
 exact congrArg V.str (Ϛ h)
structure Kp(LP LT:Addr)(us:List V)(ds:List Dv)(bs:List Br)(H:Hp):Prop where
 hp:H LP=some (.lst us)
 rp:Reps H ds us
 ht:H LT=some (.lst (bs.map bv))
theorem Kp.b{LP LT a:Addr}{us:List V}{ds:List Dv}{bs:List Br}{H H':Hp}{n:Nat}(k:Kp LP LT us ds bs H)(s:aq a H H')(t:mj H H')(n1:LP≠a)(n2:LT≠a)(pl:∀d∈ds,L2.Pl n d):Kp LP LT us ds bs H':=
 ⟨s _ _ n1 k.hp,bt (λd hd v r=>aT t (pl d hd) r) k.rp,s _ _ n2 k.ht⟩
theorem DW{s:So}(h:s=.l\/s=.k\/s=.x\/s=.y):lt s≠γ "e":=by rcases h with rfl|rfl|rfl|rfl<;>decide +kernel
theorem ud{r:Nat}{s:So}{d:Dv}{b:Br}(h:Ag (Wx r) s d b)(hs:s=.e\/s=.l\/s=.k)(y:Str):d≠.str y:=λz=>by
 subst z
 rcases hs with rfl|rfl|rfl
 ·exact BO h
 ·obtain⟨c,ps,e,_⟩:=h;cases e
 ·obtain⟨k,e,_⟩:=h;cases k<;>cases e
def cE(p:Str×Str):Int:=Txt.count p.2 (γ "e")
def DP(room bud:Nat)(p:Str×Str):Prop:=p∈FM/\(cE p=0\/(1<room/\cE p<bud))
theorem fm0:FM[0]?=some (γ "number",γ ""):=by decide +kernel
theorem Eu:cE (γ "number",γ "")=0:=by decide +kernel
def Ai(K:ε)(n:Nat):Sp:=λvs H Q _=>∃(wk g r1 r2 sc:Addr) (ns:List Int) (i m:Int) (xs ys:List Str) (room:Nat) (bud:Nat),vs=[.ref wk,.ref g,.int room,.int bud]/\Wk K H wk sc ns i m/\i+bud<10^14/\ns.length<10^15/\Wo H g r1 r2 xs ys/\1<=room/\room<=n/\n<=8/\1<=bud/\bud<=40 /\
 ∀(H':Hp)(v:V)(d:Dv)(b:Br)(c:Nat),aq wk H H'->Wk K H' wk sc ns (i+c) m->Rep H' (.tup [d,.str (brT b),.int c]) v->Wx room d b->exN room d=c->1<=c->c<=bud->Q v H'
theorem gt:am ["_law_walk","_law_world_here","_law_room","_law_budget","_law_node","_law_some","_law_one","_law_word","_law_letters","_law_told","_law_name","_law_parts","_law_texts","_law_left","_law_more","_law_letter","_law_share","_law_text","_law_nodes"] ["_law_walk","_law_world_here","_law_room","_law_budget"] (af eO):=by trivial
theorem mx{f:Addr}{fd:Θ}{k n:Nat}(F:Fun K "_law_expression" "_law_expression" eO f fd)(T:Txt K mg)(D_law_next:Def P w K mg base k "_law_next" ["_law_walk"] (yd K))(D_law_forms:Def P w K mg base k "_law_forms" [] vv)(D_law_draw:Def P w K mg base k "_law_draw" ["_law_state_here","_law_many"] dQ)(D_law_inner:Def P w K mg base k "_law_inner" ["_law_letter","_law_node","_law_world_here"] vO)(D_law_whole:Def P w K mg base k "_law_whole" ["_law_word","_law_parts","_law_texts","_law_node","_law_world_here"] vm)(D_law_expression:Def P w K mg base k "_law_expression" ["_law_walk","_law_world_here","_law_room","_law_budget"] (Ai K n)):av P w K mg base CX0 (k+1) f fd ["_law_walk","_law_world_here","_law_room","_law_budget"] (Ai K (n+1)):=by
 have nd:=gt.nd
 refine F.ok gt (λvs H Q E h=>?_) (λcdv A outer s H vs Q E hr h=>?_)
 ·obtain⟨wk,g,r1,r2,sc,ns,i,m,xs,ys,room,bud,rfl,_⟩:=h
  rfl
 obtain⟨wk,g,r1,r2,sc,ns,i,m,xs,ys,room,bud,rfl,⟨hk0,hsc,i0,i15⟩,i14,ln,wo,rm1,rm2,n8,b1,b2,q⟩:=h
 obtain⟨r,rfl⟩:∃r,room=r+1:=⟨room-1,()⟩
 have nwo:=wo.nw hk0
 refine⟨_,(@un _ _ _ (wbO (wbM 4 nd rfl (υ rfl) (waq D_law_next hr rfl (wae (wv 0 rfl) waf rfl) () rfl rfl) rfl ()) (wbO (wbM 5 nd rfl (υ rfl) (waM waf) rfl ()) (wbO (wbH Ϯ rfl (wbi (war D_law_forms hr rfl ())) (waZ 6 nd rfl (υ rfl) ()) (wbQ (wbI (wab (wbY (wbS aw (waj Κ E3 E4 iR (waD aj (wv 6 rfl) waC (λ_ _=>rfl)) (wae waV waf rfl) rfl rfl rfl rfl rfl) waC (ai _)) (wbZ (wab (wbW (wbS eR (wv 2 rfl) waC (ai _)) (wbX (wbS jk (waj Κ E3 E4 iR (waD aj (wv 6 rfl) waC (λ_ _=>rfl)) (wae waV waf rfl) rfl rfl rfl rfl rfl) (wv 3 rfl) (ai _)))))))) (wbQ (wbG (waj Φ ϐ ϑ aZ (wv 5 rfl) (wae (wv 6 rfl) waf rfl) rfl rfl rfl rfl rfl) rfl)) wbP)) ()) (wbO (wbD (waD aE (wv 5 rfl) (waq D_law_draw hr rfl (wae (wv 4 rfl) (wae (wal ar rfl T.len () (wae (wv 5 rfl) waf rfl) () () rfl rfl) waf rfl) rfl) () rfl rfl) (λ_ _=>rfl)) (wbb rfl (wbd (waZ 7 nd rfl (υ rfl) ()) (wbd (waZ 8 nd rfl (υ rfl) ()) wbe rfl) rfl) rfl rfl) rfl rfl rfl) (wbO (wbI (wbS aw (wv 7 rfl) waV (ai _)) (wbO (wbM 9 nd rfl (υ rfl) (waD aE (waM (wae waC (wae (waQ cn (waQ sY waC waC) waC) (wae waC (wae waC waf rfl) rfl) rfl) rfl)) (waq D_law_draw hr rfl (wae (wv 4 rfl) (wae waC waf rfl) rfl) () rfl rfl) (λ_ _=>rfl)) rfl ()) (wbO (wbI (wab (wbW (wbS eR (wv 9 rfl) waC (ai _)) (wbX (wbS jk (wv 9 rfl) waC (ai _))))) (wbQ (wbM 9 nd rfl (υ rfl) (waq D_law_draw hr rfl (wae (wv 4 rfl) (wae (waD aE (waM (wae waC (wae (waQ sY waC waC) waf rfl) rfl)) (waQ cn (wv 9 rfl) waC) (λ_ _=>rfl)) waf rfl) rfl) () rfl rfl) rfl ())) wbP) (wbQ (wbK (waX (wae (waX (wae (wv 7 rfl) (wae (wv 9 rfl) waf rfl) rfl)) (wae (wam ce rfl T.str () (wae (wv 9 rfl) waf rfl) () () rfl rfl) (wae waC waf rfl) rfl) rfl)))))) wbP) (wbO (wbI (wbS aw (wv 7 rfl) waV (ai _)) (wbO (wbM 10 nd rfl (υ rfl) (waD aE (waD aj (wv 1 rfl) waC (λ_ _=>rfl)) (waq D_law_draw hr rfl (wae (wv 4 rfl) (wae waC waf rfl) rfl) () rfl rfl) (λ_ _=>rfl)) rfl ()) (wbQ (wbK (waX (wae (waX (wae (wv 7 rfl) (wae (wv 10 rfl) waf rfl) rfl)) (wae (wv 10 rfl) (wae waC waf rfl) rfl) rfl))))) wbP) (wbO (wbM 11 nd rfl (υ rfl) (waM waf) rfl ()) (wbO (wbM 12 nd rfl (υ rfl) (waM waf) rfl ()) (wbO (wbM 13 nd rfl (υ rfl) (waQ cn (wv 3 rfl) waC) rfl ()) (wbO (wbM 14 nd rfl (υ rfl) (waj Κ E3 E4 iR (wv 8 rfl) (wae waV waf rfl) rfl rfl rfl rfl rfl) rfl ()) (wbO (wbH Ϯ rfl (wbn (wv 8 rfl)) (waZ 15 nd rfl (υ rfl) ()) (wbO (wbI (wbS aw (wv 15 rfl) waV (ai _)) (wbO (wbM 14 nd rfl (υ rfl) (waQ cn (wv 14 rfl) waC) rfl ()) (wbO (wbM 16 nd rfl (υ rfl) (waQ cn (wv 13 rfl) (wv 14 rfl)) rfl ()) (wbO (wbI (wbS eR (wv 14 rfl) waC (ai _)) (wbQ (wbM 16 nd rfl (υ rfl) (waQ bO waC (waq D_law_draw hr rfl (wae (wv 4 rfl) (wae (wv 16 rfl) waf rfl) rfl) () rfl rfl)) rfl ())) wbP) (wbO (wbD (waq D_law_expression hr rfl (wae (wv 0 rfl) (wae (wv 1 rfl) (wae (waQ cn (wv 2 rfl) waC) (wae (wv 16 rfl) waf rfl) rfl) rfl) rfl) () rfl rfl) (wbb rfl (wbd (waZ 6 nd rfl (υ rfl) ()) (wbd (waZ 17 nd rfl (υ rfl) ()) (wbd (waZ 18 nd rfl (υ rfl) ()) wbe rfl) rfl) rfl) rfl rfl) rfl rfl rfl) (wbQ (wbM 13 nd rfl (υ rfl) (waQ cn (wv 13 rfl) (wv 18 rfl)) rfl ())))))) (wbQ (wbD (waq D_law_inner hr rfl (wae (wv 15 rfl) (wae (wv 4 rfl) (wae (wv 1 rfl) waf rfl) rfl) rfl) () rfl rfl) (wbb rfl (wbd (waZ 6 nd rfl (υ rfl) ()) (wbd (waZ 17 nd rfl (υ rfl) ()) wbe rfl) rfl) rfl rfl) rfl rfl rfl))) (wbO (wbG (waj Φ ϐ ϑ aZ (wv 11 rfl) (wae (wv 6 rfl) waf rfl) rfl rfl rfl rfl rfl) rfl) (wbQ (wbG (waj Φ ϐ ϑ aZ (wv 12 rfl) (wae (wv 17 rfl) waf rfl) rfl rfl rfl rfl rfl) rfl)))) ()) (wbO (wbD (waq D_law_whole hr rfl (wae (wv 7 rfl) (wae (wv 11 rfl) (wae (wv 12 rfl) (wae (wv 4 rfl) (wae (wv 1 rfl) waf rfl) rfl) rfl) rfl) rfl) () rfl rfl) (wbb rfl (wbd (waZ 6 nd rfl (υ rfl) ()) (wbd (waZ 17 nd rfl (υ rfl) ()) wbe rfl) rfl) rfl rfl) rfl rfl rfl) (wbQ (wbK (waX (wae (wv 6 rfl) (wae (wv 17 rfl) (wae (waQ cn (wv 3 rfl) (wv 13 rfl)) waf rfl) rfl) rfl))))))))))))))))),?_⟩
 dsimp only[bi,Cx.nox]
 refine aX λX hX=>?_
 refine⟨_,rfl,wk,sc,ns,i,m,rfl,⟨hk0,hsc,i0,i15⟩,ln,λH1 nd s1 hk1 fnd st1=>gs hX λX hX=>?_⟩
 have nw:nd≠wk:=λz=>by rw[z,hk0]at fnd;cases fnd
 have c1:Cur H H1 wk sc nd (i+1) m:=⟨s1,hk1,st1⟩
 have woC:∀{H':Hp}{j:Int},Cur H H' wk sc nd j m->Wo H' g r1 r2 xs ys:=λc=>wo.b nwo c.sb
 have wkC:∀{H':Hp}{j:Int},Cur H H' wk sc nd j m->0<=j->j<10^15->Wk K H' wk sc ns j m:=λc h0 h1=>⟨c.hk,λ_ s=>hsc _ (c.sb.trans s),h0,h1⟩
 refine⟨ϊ _,λS hS=>gs hX λX hX=>?_⟩
 have nS:S≠wk:=λz=>by rw[z,hk1]at hS;cases hS
 have nSd:S≠nd:=λz=>by obtain⟨_,_,e⟩:=st1;rw[z,e]at hS;cases hS
 have fS:H S=none:=wy s1 hS nS
 have c2:=c1.m (ac hS (.lst []))
 have h2:upd H1 S (.lst []) S=some (.lst []):=aa
 generalize upd H1 S (.lst [])=H2 at c2 h2⊢
 clear s1 hk1 st1 hS c1
 refine⟨rfl,λH3 l us s3 fl hl R3=>⟨l,rfl,⟨us,SqL.of hl⟩,tT (xs:=us) (λj σ H'=>∃(o6:Option V) (fs:List (Str×Str)) (zs:List V),σ=[some (.ref wk),some (.ref g),some (.int (r+1:Nat)),some (.int bud),some (.ref nd),some (.ref S),o6,none,none,none,none,none,none,none,none,none,none,none,none]/\Cur H H' wk sc nd (i+1) m/\aq S H3 H'/\H' S=some (.lst zs)/\Reps H' (fs.map fmD) zs/\(∀p∈fs,DP (r+1) bud p)/\fs.length<=j/\(1<=j->fs≠[]))
  ⟨_,[],[],rfl,c2.m s3,aq.refl _ _,s3 _ _ h2,by simp[Reps],nofun,π _,λh=>by omega⟩ (λj σ H' _ ⟨_,_,_,_,_,sx,_⟩=>SqL.of (sx _ _ (λz=>by rw[z,h2]at fl;cases fl) hl)) ?T1 ?_⟩⟩
 case T1=>
  rintro j x σ H4 D go hx ⟨o6,fs,zs,rfl,c4,s4,h4,R4,ff,lf,ne⟩
  obtain⟨p,hp,Rx⟩:=eE (f:=fmD) R3 hx
  obtain⟨t,vt,rfl,ht,Rt⟩:=Rep.tup_inv (show Rep H3 (.tup [.str p.1,.str p.2]) x from Rx)
  obtain⟨w1,w2,rfl,e1,e2⟩:=Reps.two Rt
  simp only[Rep]at e1 e2
  subst e1;subst e2
  have h3:=s3 _ _ h2
  have ht4:=s4 _ _ (λz=>by rw[z,h3]at ht;cases ht) ht
  have lj:j<35:=(ψ.mp hp).1
  have lz:zs.length=fs.length:=by have:=R4.length;rwa[δ]at this
  refine gnm (en λY Z hY hZ=>?_)
  have yes:DP (r+1) bud p->Y H4:=λfp=>by
   refine hY _ ⟨_,rfl,.inl ⟨rfl,_,SqL.of h4⟩,_,rfl,S,_,_,rfl,rfl,h4,by rw[θ];omega,?_⟩
   have sB:=aq.upd H4 S (.lst (zs++[.ref t]))
   have tB:=sB.tups h4
   refine go _ _ ⟨_,fs++[p],zs++[.ref t],rfl,c4.l sB fS nS nSd,s4.trans sB,aa,?_,λp' hp'=>?_,by rw[Η];exact Nat.succ_le_succ lf,()⟩
   ·rw[ς]
    have fp2:∀p:Str×Str,L2.Pl 1 (fmD p):=λp=>.tup λd hd=>by
     rcases ν.mp hd with rfl|hd
     ·exact .str
     ·rw[ξ.mp hd];exact .str
    refine Reps.append (bt (λd hd v r=>by obtain⟨y,_,rfl⟩:=Ω.mp hd;exact aT tB (fp2 y) r) R4) (aQ ?_)
    show Rep _ (.tup [.str p.1,.str p.2]) _
    rw[Rep]
    exact⟨t,_,rfl,tB _ _ ht4,by simp only[Reps];exact⟨_,_,rfl,by simp only[Rep],_,_,rfl,by simp only[Rep],rfl⟩⟩
   ·rcases Τ.mp hp' with z|z
    ·exact ff p' z
    ·rw[ξ.mp z];exact fp
  have no:cE p≠0->Z H4:=λhc=>hZ _ (tnx (go _ _ ⟨_,fs,zs,rfl,c4,s4,h4,R4,ff,Nat.le_succ_of_le lf,λ_=>by
   rcases Nat.eq_zero_or_pos j with z|z
   ·subst z
    rw[fm0]at hp
    cases hp
    exact absurd Eu hc
   ·exact ne z⟩))
  have pm:=Ο hp
  refine⟨_,rfl,t,_,1,.str p.2,rfl,rfl,SqT.of ht4,ae (j:=1) rfl,rfl,p.2,γ "e",rfl,rfl,rfl,_,rfl,ap (λh=>?_) (λh=>?_)⟩
  ·exact ax (yes ⟨pm,.inl (V.int.inj (Q7 h))⟩)
  ·have h0:cE p≠0:=λz=>h (Q9 (congrArg V.int z))
   refine⟨_,rfl,_,_,rfl,rfl,_,rfl,ap (λh1=>?_) (λ_=>aD (no h0))⟩
   refine⟨_,rfl,t,_,1,.str p.2,rfl,rfl,SqT.of ht4,ae (j:=1) rfl,rfl,p.2,γ "e",rfl,rfl,_,rfl,_,_,rfl,rfl,_,rfl,?_⟩
   refine ap (λh2=>yes ⟨pm,.inr ⟨?_,Q7 h2⟩⟩) (λ_=>no h0)
   have:(1:Int)<((r+1:Nat):Int):=Q7 h1
   omega
 rintro σ H4 ⟨o6,fs,zs,rfl,c4,s4,h4,R4,ff,lf,ne⟩
 have lu:us.length=35:=by have:=R3.length;rwa[δ]at this
 have f0:0<fs.length:=List.length_pos_iff.mpr (ne ())
 have lz:zs.length=fs.length:=by have:=R4.length;rwa[δ]at this
 refine hX _ _ (aX λX hX=>?_)
 refine⟨_,rfl,_,rfl,_,rfl,S,_,rfl,.inl (SqL.of h4),nd,_,rfl,c4.st,(),(),λH5 x s5 st5 x0 x1=>?_⟩
 obtain⟨y,rfl⟩:∃y:Nat,x=y:=⟨x.toNat,()⟩
 have hv:=Α (l:=zs) (i:=y) ()
 obtain⟨p,hp,Rx⟩:=eE (f:=fmD) R4 hv
 obtain⟨t,vt,et,ht,Rt⟩:=Rep.tup_inv (show Rep H4 (.tup [.str p.1,.str p.2]) zs[y]from Rx)
 obtain⟨w1,w2,rfl,e1,e2⟩:=Reps.two Rt
 simp only[Rep]at e1 e2
 subst e1;subst e2
 have c5:=c4.d s5 st5 nw fnd
 have t5:=c4.st.tups s5
 refine⟨S,zs,y,.ref t,rfl,rfl,SqL.of (s5 _ _ nSd h4),ae (by rw[hv,et]),t,_,rfl,SqT.of (t5 _ _ ht),rfl,_,_,rfl,_,_,rfl,rfl,?_⟩
 obtain⟨pm,fit⟩:=ff p (Ο hp)
 obtain⟨ls,hq⟩:=BB p pm
 clear R3 R4 ff Rx Rt hv hp et ht t5 s5 s4 s3 hl fl h2 h4 lf ne lu f0 lz x0 x1 c2 c4
 refine hX _ _ (aX λX hX=>en λY Z hY hZ=>?_)
 refine⟨_,rfl,rfl,_,rfl,ap (λh=>hY _ ?_) (λhn=>hZ _ (tnx (hX _ _ (aX λX hX=>en λY Z hY hZ=>?_))))⟩
 ·have ew:p.1=γ "number":=V.str.inj (Q7 h)
  have p12:Bo 10 12:=⟨(),(),()⟩
  refine aX λX2 hX2=>⟨_,_,rfl,rfl,p12,_,_,rfl,rfl,z4,λe he=>⟨_,rfl,nd,4,rfl,c5.st.m (ac he _),(),(),λH6 x s6 st6 x0 x1=>?_⟩⟩
  have ne:e≠nd:=λz=>by obtain⟨_,_,e'⟩:=c5.st;rw[z,e']at he;cases he
  have c6:=(c5.m (ac he _)).d s6 st6 nw fnd
  have he6:=s6 _ _ ne aa
  obtain⟨o,ho,hb⟩:∃o:Int,atI [V.int 0,V.int ((10:Int)^(12:Int).toNat-1),V.int 7,V.int 8] x=some (.int o)/\0<=o/\o<10^12/\(6<o->o<9->o=7\/o=8):=by
   have:x=0\/x=1\/x=2\/x=3:=by omega
   rcases this with rfl|rfl|rfl|rfl
   ·exact⟨0,rfl,(),(),()⟩
   ·exact⟨_,rfl,(),(),()⟩
   ·exact⟨7,rfl,(),(),()⟩
   ·exact⟨8,rfl,(),(),()⟩
  refine⟨e,_,x,.int o,rfl,rfl,SqL.of he6,ho,gnm (hX2 _ _ ?_)⟩
  clear he6 ho s6 st6 he hX2
  refine uH (λσ' H'=>∃o:Int,σ'=[some (.ref wk),some (.ref g),some (.int (r+1:Nat)),some (.int bud),some (.ref nd),some (.ref S),o6,some (.str p.1),some (.str p.2),some (.int o),none,none,none,none,none,none,none,none,none]/\Cur H H' wk sc nd (i+1) m/\0<=o/\o<10^12) ?N1 (λ_ nx=>?_)
  case N1=>
   rintro _ H7 ⟨o,rfl,c7,o0,o1⟩
   refine⟨_,rfl,_,rfl,z2,λt1 ht1=>⟨_,rfl,o,rfl,?_,z3,λt2 ht2=>?_⟩⟩
   ·have:o.natAbs<2^40:=by omega
    rcases Nat.eq_zero_or_pos o.natAbs with z|z
    ·rw[z];decide
    ·exact Nat.lt_trans ((Nat.log2_lt ()).mpr this) ()
   have s8:=ac ht1 (.tup [.str p.1,.int o])
   have h8:upd H7 t1 (.tup [.str p.1,.int o]) t1=some (.tup [.str p.1,.int o]):=aa
   generalize upd H7 t1 (.tup [.str p.1,.int o])=H8 at s8 h8 ht2⊢
   have s9:=ac ht2 (.tup [.ref t1,.str (γ (toString o)),.int 1])
   have c9:=c7.m (s8.trans s9)
   have wx:Wx (r+1) (.tup [.str (γ "number"),.int o]) (.leaf (be o)):=.inl ⟨o,o0,o1,rfl,rfl⟩
   refine q _ _ _ _ 1 c9.sb (wkC c9 () ()) ?_ wx (eS (n:=r) (p:=zP) in5.2.2.2.1 (bT wx).1) (π _) b1
   rw[brT,Rep]
   refine⟨t2,_,rfl,aa,?_⟩
   simp only[Reps]
   refine⟨_,_,rfl,?_,_,_,rfl,by simp only[Rep];rfl,_,_,rfl,by simp only[Rep];rfl,rfl⟩
   rw[Rep]
   exact⟨t1,_,rfl,s9 _ _ h8,by simp only[Reps];exact⟨_,_,rfl,by simp only[Rep,ew],_,_,rfl,by simp only[Rep],rfl⟩⟩
  refine⟨_,rfl,_,_,rfl,rfl,_,rfl,ap (λh6=>?_) (λ_=>aD (tnx (nx _ _ ⟨o,rfl,c6,hb.1,hb.2.1⟩)))⟩
  refine⟨_,rfl,_,_,rfl,rfl,_,rfl,ap (λh9=>?_) (λ_=>tnx (nx _ _ ⟨o,rfl,c6,hb.1,hb.2.1⟩))⟩
  have o7:=hb.2.2 (Q7 h6) (Q7 h9)
  refine⟨_,rfl,_,_,rfl,rfl,p12,z2,λe2 he2=>⟨_,rfl,_,_,rfl,rfl,?_⟩⟩
  have c7:=c6.m (ac he2 (.lst [.int 100,.int ((10:Int)^(12:Int).toNat)]))
  obtain⟨u,hu,u0,u1⟩:∃u:Int,atI [V.int 100,V.int ((10:Int)^(12:Int).toNat)] (o-7)=some (.int u)/\0<u/\u<=10^12:=by
   rcases o7 with rfl|rfl
   ·exact⟨100,rfl,(),()⟩
   ·exact⟨_,rfl,(),()⟩
  refine⟨e2,_,o-7,.int u,rfl,rfl,SqL.of aa,hu,nd,u,rfl,c7.st,u0,(),λH8 y s8 st8 y0 y1=>gnm (nx _ _ ⟨y,rfl,c7.d s8 st8 nw fnd,y0,()⟩)⟩
 refine⟨_,rfl,rfl,_,rfl,ap (λh=>hY _ ?_) (λhm=>hZ _ (tnx (hX _ _ ?_)))⟩
 ·have ew:p.1=γ "name":=V.str.inj (Q7 h)
  have wo5:=woC c5
  have n5:=wo5.ne c5.st
  refine aX λX2 hX2=>⟨_,rfl,g,_,0,.ref r1,rfl,rfl,SqT.of wo5.hg,ae (j:=0) rfl,_,rfl,nd,12,rfl,c5.st,(),(),λH6 x s6 st6 x0 x1=>?_⟩
  obtain⟨y,hy,he⟩:∃y,y∈xs/\atI (xs.map V.str) x=some (.str y):=by
   have hi:x.toNat<xs.length:=by rw[wo.l1];omega
   refine⟨xs[x.toNat],j5 hi,?_⟩
   have e:=ae (xs:=xs.map V.str) (j:=x.toNat) (v:=.str xs[x.toNat]) (by rw[Ν,Α hi];rfl)
   rwa[show((x.toNat:Nat):Int)=x by omega]at e
  have c6:=c5.d s6 st6 nw fnd
  refine⟨r1,_,x,.str y,rfl,rfl,SqL.of (s6 _ _ n5.2.1 wo5.h1),he,gnm (hX2 _ _ ?_)⟩
  refine⟨_,rfl,_,rfl,z2,λt1 ht1=>⟨_,rfl,z3,λt2 ht2=>?_⟩⟩
  have s8:=ac ht1 (.tup [.str p.1,.str y])
  have h8:upd H6 t1 (.tup [.str p.1,.str y]) t1=some (.tup [.str p.1,.str y]):=aa
  generalize upd H6 t1 (.tup [.str p.1,.str y])=H8 at s8 h8 ht2⊢
  have s9:=ac ht2 (.tup [.ref t1,.str y,.int 1])
  have c9:=c6.m (s8.trans s9)
  have wx:Wx (r+1) (.tup [.str (γ "name"),.str y]) (.leaf y):=.inr (.inl ⟨y,wo.n1 y hy,rfl,rfl⟩)
  refine q _ _ _ _ 1 c9.sb (wkC c9 () ()) ?_ wx (eS (n:=r) (p:=AI) in5.2.2.2.2 (bT wx).1) (π _) b1
  rw[brT,Rep]
  refine⟨t2,_,rfl,aa,?_⟩
  simp only[Reps]
  refine⟨_,_,rfl,?_,_,_,rfl,by simp only[Rep],_,_,rfl,by simp only[Rep];rfl,rfl⟩
  rw[Rep]
  exact⟨t1,_,rfl,s9 _ _ h8,by simp only[Reps];exact⟨_,_,rfl,by simp only[Rep,ew],_,_,rfl,by simp only[Rep],rfl⟩⟩
 have hn:p.1≠γ "number":=λz=>hn (Q9 (congrArg V.str z))
 have hm:p.1≠γ "name":=λz=>hm (Q9 (congrArg V.str z))
 obtain⟨lsg,lsz,ls5,_⟩:=BL _ hq
 obtain⟨lsc,ls4⟩:=zT _ hq
 have lso:=BT _ hq
 have lsw:=An _ hq
 dsimp only at lsg lsz ls5 lsc ls4 lso lsw
 have fit1:nE ls+1<=bud/\(nE ls≠0->1<=r):=by
  unfold cE at fit
  rw[lsc]at fit
  omega
 refine aX λX hX=>⟨ϊ _,λLP hLP=>gs hX λX hX=>⟨ϊ _,λLT hLT=>gs hX λX hX=>?_⟩⟩
 have nP:LP≠wk:=λz=>by rw[z,c5.hk]at hLP;cases hLP
 have nPd:LP≠nd:=λz=>by obtain⟨_,_,e⟩:=c5.st;rw[z,e]at hLP;cases hLP
 have fP:H LP=none:=wy c5.sb hLP nP
 have c6:=c5.m (ac hLP (.lst []))
 have h6:upd H5 LP (.lst []) LP=some (.lst []):=aa
 generalize upd H5 LP (.lst [])=H6 at c6 h6 hLT⊢
 have nT:LT≠wk:=λz=>by rw[z,c6.hk]at hLT;cases hLT
 have nTd:LT≠nd:=λz=>by obtain⟨_,_,e⟩:=c6.st;rw[z,e]at hLT;cases hLT
 have nTP:LT≠LP:=λz=>by rw[z,h6]at hLT;cases hLT
 have fT:H LT=none:=wy c6.sb hLT nT
 have c7:=c6.m (ac hLT (.lst []))
 have h7:=ac hLT (.lst []) _ _ h6
 have g7:upd H6 LT (.lst []) LT=some (.lst []):=aa
 generalize upd H6 LT (.lst [])=H7 at c7 h7 g7⊢
 clear hLP hLT h6 c6 c5 hY hZ
 refine⟨_,rfl,_,_,rfl,rfl,gs hX λX hX=>⟨_,rfl,rfl,p.2,γ "e",rfl,rfl,gs hX λX hX=>?_⟩⟩
 refine⟨_,rfl,p.2,rfl,wE (λj σ H'=>∃(o6 o15 o16 o17 o18:Option V) (lf mo:Int) (us:List V) (ds:List Dv) (bs:List Br) (N:Nat),σ=[some (.ref wk),some (.ref g),some (.int (r+1:Nat)),some (.int bud),some (.ref nd),some (.ref S),o6,some (.str p.1),some (.str p.2),none,none,some (.ref LP),some (.ref LT),some (.int lf),some (.int mo),o15,o16,o17,o18]/\Cur H H' wk sc nd (i+1+N) m/\Kp LP LT us ds bs H'/\Ags (Wx r) (ls.take j) ds bs/\((bn (ls.take j) ds).map (exN r)).sum=N/\lf=bud-1-N/\mo=nE (ls.drop j)/\N+nE (ls.drop j)+1<=bud/\∀y,ds[0]?=some (.str y)->y∈xs)
  ⟨_,_,_,_,_,_,_,[],[],[],0,rfl,by simpa using c7,⟨h7,by simp[Reps],g7⟩,.nil,rfl,(),lsc,by simpa using fit1.1,λy h=>by simp at h⟩ ?T2 ?_⟩
 case T2=>
  intro j σ H8 D go hj h
  refine gs (λ_ _ z=>z) λX hX=>?_
  obtain⟨o6,o15,o16,o17,o18,lf,mo,us,ds,bs,N,rfl,c8,k8,ag,eN,elf,emo,hN,hx0⟩:=h
  rw[lsz]at hj
  obtain⟨s0,hs0⟩:∃s0,ls[j]?=some s0:=⟨ls[j],Α hj⟩
  have htk:ls.take (j+1)=ls.take j++[s0]:=by rw[ϕ,hs0];rfl
  have hdr:ls.drop j=s0::ls.drop (j+1):=by rw[u6 hj];congr 1;rw[Α hj]at hs0;exact Ϛ hs0
  have esg:pQ p.2 j=.str (lt s0):=Ap lsg (by rw[lsz];exact hj) hs0
  rw[esg]
  have pl8:∀d∈ds,L2.Pl (2*r+9) d:=sk () (λd b h=>kg h) ag
  have nx:∀(σ':St)(H':Hp),(∃(o16 o18:Option V) (lf' mo':Int) (v:V) (d:Dv) (b:Br) (N':Nat),σ'=[some (.ref wk),some (.ref g),some (.int (r+1:Nat)),some (.int bud),some (.ref nd),some (.ref S),some v,some (.str p.1),some (.str p.2),none,none,some (.ref LP),some (.ref LT),some (.int lf'),some (.int mo'),some (.str (lt s0)),o16,some (bv b),o18]/\Cur H H' wk sc nd (i+1+N') m/\Kp LP LT us ds bs H'/\Rep H' d v/\Ag (Wx r) s0 d b/\N+((ptD s0 d).map (exN r)).sum=N'/\lf'=bud-1-N'/\mo'=nE (ls.drop (j+1))/\N'+nE (ls.drop (j+1))+1<=bud/\∀y,d=.str y->y∈xs)->X σ' H':=by
   rintro _ H9 ⟨o16,o18,lf',mo',v,d,b,N',rfl,c9,k9,R9,ag9,eN',elf',emo',hN',hd9⟩
   have pl9:L2.Pl (2*r+9) d:=AN () (λd b h=>kg h) ag9
   obtain⟨lb,ld⟩:=ag.len
   have lu:=k9.rp.length
   have lj:(ls.take j).length<=5:=by rw[Υ];omega
   refine hX _ _ (aX λX2 hX2=>⟨_,rfl,.inl ⟨rfl,_,SqL.of k9.hp⟩,_,rfl,LP,_,_,rfl,rfl,k9.hp,by rw[θ];omega,?_⟩)
   have sB:=aq.upd H9 LP (.lst (us++[v]))
   have tB:=sB.tups k9.hp
   have c10:=c9.l sB fP nP nPd
   have h10:upd H9 LP (.lst (us++[v])) LP=some (.lst (us++[v])):=aa
   have g10:=sB _ _ nTP k9.ht
   have R10:=Reps.append (bt (λd hd v r=>aT tB (pl8 d hd) r) k9.rp) (aQ (aT tB pl9 R9))
   generalize upd H9 LP (.lst (us++[v]))=HA at sB tB c10 h10 g10 R10⊢
   refine hX2 _ _ ⟨_,rfl,.inl ⟨rfl,_,SqL.of g10⟩,_,rfl,LT,_,_,rfl,rfl,g10,by rw[δ,θ];omega,?_⟩
   have sC:=aq.upd HA LT (.lst (bs.map bv++[bv b]))
   have tC:=sC.tups g10
   have pl10:∀e∈ds++[d],L2.Pl (2*r+9) e:=λe he=>by
    rcases Τ.mp he with z|z
    ·exact pl8 e z
    ·rw[ξ.mp z];exact pl9
   obtain⟨ags,pts⟩:=ag.snoc ag9
   refine go _ _ ⟨_,_,_,_,_,lf',mo',us++[v],ds++[d],bs++[b],N',rfl,c10.l sC fT nT nTd,⟨sC _ _ (ϋ nTP) h10,bt (λd hd v r=>aT tC (pl10 d hd) r) R10,by rw[aa,ς];rfl⟩,by rw[htk];exact ags,by rw[htk,pts,ς,EL,eN];exact eN',elf',emo',hN',λy hy=>?_⟩
   cases ds with
   |nil=>exact hd9 y (Ϛ hy)
   |cons d0 ds=>exact hx0 y hy
  refine en λY Z hY hZ=>⟨_,rfl,rfl,_,rfl,?_⟩
  have hso:=lso s0 (Ο hs0)
  rcases hso with rfl|hso
  ·have nEd:nE (ls.drop j)=nE (ls.drop (j+1))+1:=by rw[hdr];rfl
   have r1':1<=r:=fit1.2 λz=>by
    have:nE ls=nE (ls.take j)+nE (ls.drop j):=by unfold nE;rw[<-Η,<-FL,List.take_append_drop]
    omega
   refine ap (λ_=>hY _ (aX λX hX=>⟨_,rfl,_,_,rfl,rfl,gs hX λX hX=>⟨_,rfl,_,rfl,_,_,rfl,rfl,gnm (hX _ _ ?_)⟩⟩)) (λh=>absurd (Q9 rfl) h)
   obtain⟨sh,hsh⟩:∃sh:Nat,lf-(mo-1)=sh:=⟨(lf-(mo-1)).toNat,()⟩
   dsimp only
   rw[hsh]
   refine uH (λσ' H'=>∃sh:Nat,σ'=[some (.ref wk),some (.ref g),some (.int (r+1:Nat)),some (.int bud),some (.ref nd),some (.ref S),o6,some (.str p.1),some (.str p.2),none,none,some (.ref LP),some (.ref LT),some (.int lf),some (.int (mo-1)),some (.str (lt .e)),some (.int sh),o17,o18]/\Cur H H' wk sc nd (i+1+N) m/\Kp LP LT us ds bs H'/\1<=sh/\N+sh+nE (ls.drop (j+1))+1<=bud) ?N3 (λ_ nx3=>?_)
   case N3=>
    rintro _ H9 ⟨sh,rfl,c9,k9,sh1,sh2⟩
    refine aX λX3 hX3=>⟨_,rfl,_,rfl,_,rfl,_,_,rfl,rfl,_,rfl,wk,g,r1,r2,sc,ns,i+1+N,m,xs,ys,r,sh,?_,wkC c9 () (),(),ln,woC c9,r1',(),(),sh1,(),λHA v d b c sA wA RA wx ex cl cu=>?_⟩
    ·show [V.ref wk,V.ref g,V.int (((r+1:Nat):Int)-1),V.int sh]=_
     rw[show((r+1:Nat):Int)-1=(r:Int) by omega]
    obtain⟨t,vt,rfl,ht,Rt⟩:=Rep.tup_inv RA
    simp only[Reps]at Rt
    obtain⟨w1,_,rfl,e1,w2,_,rfl,e2,w3,_,rfl,e3,rfl⟩:=Rt
    simp only[Rep]at e2 e3
    subst e2;subst e3
    refine⟨t,_,rfl,SqT.of ht,rfl,_,_,rfl,_,_,rfl,_,_,rfl,rfl,hX3 _ _ ⟨_,rfl,_,rfl,_,_,rfl,rfl,gnm (nx _ _ ⟨_,_,lf-c,mo-1,w1,d,b,N+c,rfl,c9.e sA ?_ nw,k9.b sA (c9.tm sA) nP nT pl8,e1,wx,?_,(),(),(),λy hd=>?_⟩)⟩⟩
    ·have:=wA.1
     rwa[show i+1+(N:Int)+c=i+1+((N+c:Nat):Int) by omega]at this
    ·show N+(exN r d+0)=_
     rw[ex];rfl
    ·exact absurd hd (ud (r:=r) (s:=.e) wx (.inl rfl) y)
   refine en λY Z hY hZ=>⟨_,rfl,_,_,rfl,rfl,_,rfl,ap (λh0=>hY _ ?_) (λh0=>hZ _ (tnx (nx3 _ _ ⟨sh,rfl,c8,k8,(),()⟩)))⟩
   refine⟨_,rfl,_,rfl,nd,sh,rfl,c8.st,(),(),λH9 x s9 st9 x0 x1=>?_⟩
   obtain⟨y,rfl⟩:∃y:Nat,x=y:=⟨x.toNat,()⟩
   exact⟨_,_,rfl,rfl,gnm (nx3 _ _ ⟨1+y,rfl,c8.d s9 st9 nw fnd,k8.b s9 (c8.st.tups s9) nPd nTd pl8,(),()⟩)⟩
  ·refine ap (λh=>absurd (V.str.inj (Q7 h)) (DW hso)) (λ_=>hZ _ ?_)
   refine⟨_,rfl,_,rfl,_,rfl,s0,nd,g,r1,r2,xs,ys,rfl,hso,c8.st,woC c8,λH9 v d b s9 st9 R9 ag9 lb hy=>?_⟩
   obtain⟨t,vt,rfl,ht,Rt⟩:=Rep.tup_inv R9
   obtain⟨w1,w2,rfl,e1,e2⟩:=Reps.two Rt
   simp only[Rep]at e2
   subst e2
   have e0:((ptD s0 d).map (exN r)).sum=0:=by rcases hso with rfl|rfl|rfl|rfl<;>rfl
   have nEd:nE (ls.drop j)=nE (ls.drop (j+1)):=by rw[hdr];rcases hso with rfl|rfl|rfl|rfl<;>rfl
   refine⟨t,_,rfl,SqT.of ht,rfl,_,_,rfl,_,_,rfl,rfl,nx _ _ ⟨_,_,lf,mo,w1,d,b,N,rfl,c8.d s9 st9 nw fnd,k8.b s9 (c8.st.tups s9) nPd nTd pl8,e1,ag9 _,by rw[e0];rfl,elf,by rw[emo,nEd],(),λy hd=>?_⟩⟩
   rcases hso with z|z|z
   ·exact absurd hd (ud (r:=r) (ag9 _) (.inr (.inl z)) y)
   ·exact absurd hd (ud (r:=r) (ag9 _) (.inr (.inr z)) y)
   ·obtain⟨y',hy',e,_⟩:=hy z
    rw[e]at hd
    cases hd
    exact hy'
 rintro σ H8 ⟨o6,o15,o16,o17,o18,lf,mo,us,ds,bs,N,rfl,c8,k8,ag,eN,elf,emo,hN,hx0⟩
 rw[lsz,ϒ]at ag eN
 have sl:=vp (n:=r) (λd b h=>oq h) ag
 rw[eN]at sl
 refine hX _ _ (aX λX hX=>⟨_,rfl,_,rfl,_,rfl,_,rfl,_,rfl,r,p.1,LP,LT,nd,g,r1,r2,us,ds,bn ls ds,bs,xs,ys,rfl,k8.hp,k8.rp,k8.ht,nPd,nTd,c8.st,woC c8,Dr hq hn hm ag hx0,(),λH9 v d b s9 st9 R9 wx ex=>?_⟩)
 obtain⟨t,vt,rfl,ht,Rt⟩:=Rep.tup_inv R9
 obtain⟨w1,w2,rfl,e1,e2⟩:=Reps.two Rt
 simp only[Rep]at e2
 subst e2
 have c9:=c8.d s9 st9 nw fnd
 refine⟨t,_,rfl,SqT.of ht,rfl,_,_,rfl,_,_,rfl,rfl,hX _ _ ⟨_,rfl,_,rfl,_,rfl,_,rfl,_,_,rfl,rfl,z3,λt2 ht2=>?_⟩⟩
 have sA:=ac ht2 (.tup [w1,bv b,.int ((bud:Int)-lf)])
 have cA:=c9.m sA
 rw[eN]at ex
 have wkA:=wkC cA () ()
 rw[show i+1+(N:Int)=i+((1+N:Nat):Int) by omega]at wkA
 refine q _ _ d b (1+N) cA.sb wkA ?_ wx ex () ()
 rw[Rep]
 refine⟨t2,_,rfl,aa,?_⟩
 simp only[Reps]
 refine⟨_,_,rfl,e1.mono sA,_,_,rfl,by simp only[Rep],_,_,rfl,?_,rfl⟩
 simp only[Rep]
 exact congrArg V.int (by show(bud:Int)-lf=_;omega)
abbrev fz:Stmt:=top 33
abbrev gU:Stmt:=top 34
abbrev eG:Stmt:=top 35
abbrev lC:Stmt:=top 36
def gv:Dv->Bool
 |.tup ds=>eW 0 (.tup ds)&&ds.all bG
 |_=>false
def fk:Dv->Bool
 |.tup [a,b]=>bG a&&decide (aK b<=12)
 |_=>false
def eD:Dv->Bool
 |.tup ds=>eW 0 (.tup ds)&&ds.all fk
 |_=>false
def exD(d:Dv):Bool:=decide (exN 8 d<=40)
def Ee:List Dv->Bool
 |[e]=>exD e
 |_=>false
def dfD:List Dv->Bool
 |[a,b,c,e]=>jx a&&(gv b&&(eD c&&exD e))
 |_=>false
def im:Dv->Bool
 |.tup (.str x::r)=>if x="ask" then Ee r else decide (x="def")&&dfD r
 |_=>false
theorem uU(e:Dv):im (.tup [.str "ask",e])=exD e:=by rw[im,Q5 rfl];rfl
theorem vx(a b c e:Dv):im (.tup [.str "def",a,b,c,e])=(jx a&&(gv b&&(eD c&&exD e))):=by
 have h:¬ γ "def"=γ "ask":=by decide +kernel
 rw[im,Q6 h,Q9 rfl,ϧ];rfl
theorem Ah{d:Dv}(h:fW d=false):im d=false:=by
 match d,h with
 |.tup (.str x::r),h=>cases h
 |.tup [],_=>rfl
 |.tup (.non::r),_=>rfl
 |.tup (.bl _::r),_=>rfl
 |.tup (.int _::r),_=>rfl
 |.tup (.tup _::r),_=>rfl
 |.tup (.lst _::r),_=>rfl
 |.tup (.dct::r),_=>rfl
 |.non,_=>rfl
 |.bl _,_=>rfl
 |.int _,_=>rfl
 |.str _,_=>rfl
 |.lst _,_=>rfl
 |.dct,_=>rfl
theorem wT{ds:List Dv}(h:∀a b,ds≠[a,b]):fk (.tup ds)=false:=by
 match ds with
 |[]=>rfl
 |[_]=>rfl
 |[a,b]=>exact absurd rfl (h a b)
 |_::_::_::_=>rfl
theorem vY{ds:List Dv}(h:eW 0 (.tup ds)=true):ds.length<=4:=by
 simp only[eW,Ζ,decide_eq_true_eq]at h
 omega
theorem oj:am ["thing"] ["thing"] (af fz):=by trivial
theorem oF{f:Addr}{fd:Θ}{k:Nat}(F:Fun K "are_names" "are_names" fz f fd)(T:Txt K mg)(Dis_few:Def P w K mg base k "is_few" ["thing","least"] vE)(Dis_name:Def P w K mg base k "is_name" ["thing"] (spS bG)):av P w K mg base CX0 (k+1) f fd ["thing"] (spS gv):=by
 refine F.ok oj (λvs H Q E h=>?_) (λcdv A outer s H vs Q E hr h=>?_)
 ·obtain⟨v,d,rfl,_⟩:=h
  rfl
 obtain⟨v,d,rfl,R,sm,q⟩:=h
 refine⟨_,(@un _ _ _ (wbQ (wbK (wag (waq Dis_few hr rfl (wae (wv 0 rfl) (wae waC waf rfl) rfl) () rfl rfl) (waP (wal (de rfl) rfl T.all () (wae (waE ["name"] [] (wbo (wv 0 rfl)) (.of rfl) rfl (λ_ _ _=>⟨pg_name (i:=0) (bc (l:=["name"]) (()) rfl) rfl (υ rfl)⟩) (aW ()) (λ_ _ _=>wbx) (λ_ _ _=>(waq Dis_name hr rfl (wae (wv 0 rfl) waf rfl) () rfl rfl)) ()) waf rfl) () () rfl rfl)))))),?_⟩
 dsimp only[bi,Cx.nox]
 refine⟨_,rfl,v,d,0,rfl,R,λH1 s1=>⟨_,rfl,?_⟩⟩
 have qq:=q H1 s1
 cases d with
 |tup ds=>
  have qd:∀b H',ak H H'->(eW 0 (.tup ds)&&ds.all bG)=b->Q (.bl b) H':=λb H' s' e=>e▸q H' s'
  cases c0:eW 0 (.tup ds)with
  |false=>exact aD (qd _ H1 s1 (by rw[c0];rfl))
  |true=>
   obtain⟨a,us,rfl,ha,ru⟩:=Rep.tup_inv R
   have hl:=ru.length
   have l4:=vY c0
   refine ax ⟨_,rfl,a,rfl,⟨us,SqT.of (s1 _ _ ha)⟩,iA (xs:=us) (λi ys H'=>ak H H'/\ys=(ds.take i).map λp=>V.bl (bG p)) ⟨s1,rfl⟩ (λi ys H' _ p=>SqT.of (p.1 _ _ ha)) ?_ ?_⟩
   ·rintro i ys H2 x hx ⟨s2,rfl⟩
    obtain⟨d,hd,Rd⟩:=ru.get hx
    have hi:=(ψ.mp hd).1
    refine aV ⟨_,rfl,x,d,rfl,Rd.mono s2,dz sm d (Ο hd),λH3 s3=>⟨?_,s2.trans s3,?_⟩⟩
    ·rw[δ,Υ,θ];omega
    ·rw[ϕ,hd,ς];rfl
   ·rintro ys H2 ⟨s2,rfl⟩ r hr'
    rw[hl,ϒ]
    refine⟨r,ds.map bG,rfl,SqL.of (by rw[aa,Ψ];rfl),?_⟩
    exact qd _ _ (s2.trans (ac hr' _)) (by rw[c0,C4];rfl)
 |_=>exact aD qq
theorem pV:am ["thing"] ["thing"] (af gU):=by trivial
theorem qm{f:Addr}{fd:Θ}{k:Nat}(F:Fun K "is_param" "is_param" gU f fd)(T:Txt K mg)(Dis_name:Def P w K mg base k "is_name" ["thing"] (spS bG))(Dis_kind:Def P w K mg base k "is_kind" ["thing"] jL):av P w K mg base CX0 (k+1) f fd ["thing"] (spS fk):=by
 refine F.ok pV (λvs H Q E h=>?_) (λcdv A outer s H vs Q E hr h=>?_)
 ·obtain⟨v,d,rfl,_⟩:=h
  rfl
 obtain⟨v,d,rfl,R,sm,q⟩:=h
 refine⟨_,(@un _ _ _ (wbQ (wbK (wag (wal aY rfl T.isinstance () (wae (wv 0 rfl) (wae (wai (.ty "tuple") rfl T.tuple () rfl () ()) waf rfl) rfl) () () rfl rfl) (wag (wap aw (wal ar rfl T.len () (wae (wv 0 rfl) waf rfl) () () rfl rfl) waC (ai _)) (wag (waq Dis_name hr rfl (wae (waD aj (wv 0 rfl) waC (λ_ _=>rfl)) waf rfl) () rfl rfl) (waP (waq Dis_kind hr rfl (wae (waD aj (wv 0 rfl) waC (λ_ _=>rfl)) waf rfl) () rfl rfl)))))))),?_⟩
 dsimp only[bi,Cx.nox]
 refine⟨_,rfl,v,_,_,_,rfl,R.ty,cr K d,_,rfl,?_⟩
 have qq:=q H (ak.refl H)
 cases d with
 |tup ds=>
  obtain⟨a,vs,rfl,ha,rs⟩:=Rep.tup_inv R
  have hl:=rs.length
  refine ax ⟨_,rfl,a,vs,rfl,.inr (SqT.of ha),rfl,_,rfl,?_⟩
  rcases ul ds with ⟨d0,d1,rfl⟩|no
  ·obtain⟨x,y,rfl,R0,R1⟩:=Reps.two rs
   obtain⟨z0,z1⟩:=pD sm
   have qe:∀c H',ak H H'->(bG d0&&decide (aK d1<=12))=c->Q (.bl c) H':=λc H' s1 e=>e▸q H' s1
   refine ax ⟨_,rfl,a,_,0,x,rfl,rfl,SqT.of ha,ae (j:=0) rfl,x,d0,rfl,R0,z0,λH1 s1=>⟨_,rfl,?_⟩⟩
   cases c0:bG d0 with
   |false=>exact aD (qe _ H1 s1 (by rw[c0];rfl))
   |true=>exact ax ⟨_,rfl,a,_,1,y,rfl,rfl,SqT.of (s1 _ _ ha),ae (j:=1) rfl,y,d1,rfl,R1.mono s1,z1,λH2 s2=>qe _ H2 (s1.trans s2) (by rw[c0];rfl)⟩
  ·have hn:¬ (V.int ((vs.length:Nat):Int)=V.int 2):=λe=>oR no (by injection e with e;omega)
   rw[Q8 hn]
   rw[wT no]at qq
   exact aD qq
 |_=>exact aD qq
theorem mq:am ["thing"] ["thing"] (af eG):=by trivial
theorem ml{f:Addr}{fd:Θ}{k:Nat}(F:Fun K "are_params" "are_params" eG f fd)(T:Txt K mg)(Dis_few:Def P w K mg base k "is_few" ["thing","least"] vE)(Dis_param:Def P w K mg base k "is_param" ["thing"] (spS fk)):av P w K mg base CX0 (k+1) f fd ["thing"] (spS eD):=by
 refine F.ok mq (λvs H Q E h=>?_) (λcdv A outer s H vs Q E hr h=>?_)
 ·obtain⟨v,d,rfl,_⟩:=h
  rfl
 obtain⟨v,d,rfl,R,sm,q⟩:=h
 refine⟨_,(@un _ _ _ (wbQ (wbK (wag (waq Dis_few hr rfl (wae (wv 0 rfl) (wae waC waf rfl) rfl) () rfl rfl) (waP (wal (de rfl) rfl T.all () (wae (waE ["param"] [] (wbo (wv 0 rfl)) (.of rfl) rfl (λ_ _ _=>⟨pg_name (i:=0) (bc (l:=["param"]) (()) rfl) rfl (υ rfl)⟩) (aW ()) (λ_ _ _=>wbx) (λ_ _ _=>(waq Dis_param hr rfl (wae (wv 0 rfl) waf rfl) () rfl rfl)) ()) waf rfl) () () rfl rfl)))))),?_⟩
 dsimp only[bi,Cx.nox]
 refine⟨_,rfl,v,d,0,rfl,R,λH1 s1=>⟨_,rfl,?_⟩⟩
 have qq:=q H1 s1
 cases d with
 |tup ds=>
  have qd:∀b H',ak H H'->(eW 0 (.tup ds)&&ds.all fk)=b->Q (.bl b) H':=λb H' s' e=>e▸q H' s'
  cases c0:eW 0 (.tup ds)with
  |false=>exact aD (qd _ H1 s1 (by rw[c0];rfl))
  |true=>
   obtain⟨a,us,rfl,ha,ru⟩:=Rep.tup_inv R
   have hl:=ru.length
   have l4:=vY c0
   refine ax ⟨_,rfl,a,rfl,⟨us,SqT.of (s1 _ _ ha)⟩,iA (xs:=us) (λi ys H'=>ak H H'/\ys=(ds.take i).map λp=>V.bl (fk p)) ⟨s1,rfl⟩ (λi ys H' _ p=>SqT.of (p.1 _ _ ha)) ?_ ?_⟩
   ·rintro i ys H2 x hx ⟨s2,rfl⟩
    obtain⟨d,hd,Rd⟩:=ru.get hx
    have hi:=(ψ.mp hd).1
    refine aV ⟨_,rfl,x,d,rfl,Rd.mono s2,dz sm d (Ο hd),λH3 s3=>⟨?_,s2.trans s3,?_⟩⟩
    ·rw[δ,Υ,θ];omega
    ·rw[ϕ,hd,ς];rfl
   ·rintro ys H2 ⟨s2,rfl⟩ r hr'
    rw[hl,ϒ]
    refine⟨r,ds.map fk,rfl,SqL.of (by rw[aa,Ψ];rfl),?_⟩
    exact qd _ _ (s2.trans (ac hr' _)) (by rw[c0,C4];rfl)
 |_=>exact aD qq
theorem xk:am ["thing"] ["thing"] (af lC):=by trivial
theorem wR{f:Addr}{fd:Θ}{k:Nat}(F:Fun K "is_row" "is_row" lC f fd)(T:Txt K mg)(Dhas_word:Def P w K mg base k "has_word" ["thing"] (spD fW))(Dis_expression:Def P w K mg base k "is_expression" ["thing"] qo)(Dis_def_name:Def P w K mg base k "is_def_name" ["thing"] (spS jx))(Dare_names:Def P w K mg base k "are_names" ["thing"] (spS gv))(Dare_params:Def P w K mg base k "are_params" ["thing"] (spS eD)):av P w K mg base CX0 (k+1) f fd ["thing"] (spS im):=by
 refine F.ok xk (λvs H Q E h=>?_) (λcdv A outer s H vs Q E hr h=>?_)
 ·obtain⟨v,d,rfl,_⟩:=h
  rfl
 obtain⟨v,d,rfl,R,sm,q⟩:=h
 refine⟨_,(@un _ _ _ (wbO (wbI (wbT (wbV (waq Dhas_word hr rfl (wae (wv 0 rfl) waf rfl) () rfl rfl) ())) (wbQ (wbK wah)) wbP) (wbO (wbI (wbS aw (waD aj (wv 0 rfl) waC (λ_ _=>rfl)) waV (ai _)) (wbQ (wbK (wag (wap aw (wal ar rfl T.len () (wae (wv 0 rfl) waf rfl) () () rfl rfl) waC (ai _)) (waP (waq Dis_expression hr rfl (wae (waD aj (wv 0 rfl) waC (λ_ _=>rfl)) waf rfl) () rfl rfl))))) wbP) (wbO (wbI (wab (wbY (wbS eT (waD aj (wv 0 rfl) waC (λ_ _=>rfl)) waV (ai _)) (wbZ (wbS eT (wal ar rfl T.len () (wae (wv 0 rfl) waf rfl) () () rfl rfl) waC (ai _))))) (wbQ (wbK wah)) wbP) (wbQ (wbK (wag (waq Dis_def_name hr rfl (wae (waD aj (wv 0 rfl) waC (λ_ _=>rfl)) waf rfl) () rfl rfl) (wag (waq Dare_names hr rfl (wae (waD aj (wv 0 rfl) waC (λ_ _=>rfl)) waf rfl) () rfl rfl) (wag (waq Dare_params hr rfl (wae (waD aj (wv 0 rfl) waC (λ_ _=>rfl)) waf rfl) () rfl rfl) (waP (waq Dis_expression hr rfl (wae (waD aj (wv 0 rfl) waC (λ_ _=>rfl)) waf rfl) () rfl rfl))))))))))),?_⟩
 dsimp only[bi,Cx.nox]
 refine⟨_,rfl,v,d,rfl,R,λH1 s1=>⟨_,rfl,?_⟩⟩
 cases c0:fW d with
 |false=>
  refine ax ?_
  have:=q H1 s1
  rwa[Ah c0]at this
 |true=>
  refine aD ?_
  obtain⟨x,r,rfl⟩:=gJ c0
  obtain⟨a,vs,rfl,ha,rs⟩:=Rep.tup_inv (R.mono s1)
  simp only[Reps]at rs
  obtain⟨y,us,rfl,R0,ru⟩:=rs
  obtain rfl:y=.str x:=R0
  have hl:=ru.length
  have sr:∀d∈r,d.small=true:=λd hd=>dz sm d (Ε _ hd)
  have qd:∀b H',ak H1 H'->im (.tup (.str x::r))=b->Q (.bl b) H':=λb H' s' e=>e▸q H' (s1.trans s')
  refine⟨_,rfl,a,_,0,.str x,rfl,rfl,SqT.of ha,ae (j:=0) rfl,rfl,_,rfl,?_⟩
  show if decide (V.str x=V.str "ask")=true then _ else _
  rw[cH]
  by_cases h1:x="ask"
  ·subst h1
   rw[Q9 rfl]
   refine ax ⟨_,rfl,a,_,rfl,.inr (SqT.of ha),rfl,_,rfl,?_⟩
   show if decide (V.int _=V.int ((2:Nat):Int))=true then _ else _
   rw[gb (x:=.str "ask") hl 1 2 rfl]
   by_cases z:r.length=1
   ·rw[Q9 z]
    match r,us,z,ru,sr,qd with
    |[e],us,_,ru,sr,qd=>
     simp only[Reps]at ru
     obtain⟨u,rest,rfl,Ru,rfl⟩:=ru
     exact ax ⟨_,rfl,a,_,1,u,rfl,rfl,SqT.of ha,ae (j:=1) rfl,u,e,rfl,Ru,sr e ο,λH2 s2=>qd _ H2 s2 (uU e)⟩
   ·rw[Q8 z]
    refine aD (qd _ H1 (ak.refl _) ?_)
    rw[im,Q5 rfl]
    match r,z with
    |[],_=>rfl
    |[e],z=>exact absurd rfl z
    |_::_::_,_=>rfl
  rw[Q8 h1]
  refine aD ⟨_,rfl,a,_,0,.str x,rfl,rfl,SqT.of ha,ae (j:=0) rfl,rfl,_,rfl,?_⟩
  show if (!decide (V.str x=V.str "def"))=true then _ else _
  rw[cH]
  by_cases h2:x="def"
  ·subst h2
   rw[Q9 rfl]
   refine aD ⟨_,rfl,a,_,rfl,.inr (SqT.of ha),rfl,_,rfl,?_⟩
   show if (!decide (V.int _=V.int ((5:Nat):Int)))=true then _ else _
   rw[gb (x:=.str "def") hl 4 5 rfl]
   by_cases z:r.length=4
   ·rw[Q9 z]
    match r,us,z,ru,sr,qd with
    |[d1,d2,d3,d4],us,_,ru,sr,qd=>
     simp only[Reps]at ru
     obtain⟨u1,_,rfl,R1,u2,_,rfl,R2,u3,_,rfl,R3,u4,_,rfl,R4,rfl⟩:=ru
     have qf:∀b H',ak H1 H'->(jx d1&&(gv d2&&(eD d3&&exD d4)))=b->Q (.bl b) H':=λb H' s' e=>qd b H' s' ((vx _ _ _ _).trans e)
     refine aD ⟨_,rfl,a,_,1,u1,rfl,rfl,SqT.of ha,ae (j:=1) rfl,u1,d1,rfl,R1,sr d1 (),λH2 s2=>⟨_,rfl,?_⟩⟩
     cases c1:jx d1 with
     |false=>exact aD (qf _ H2 s2 (by rw[c1];rfl))
     |true=>
      refine ax ⟨_,rfl,a,_,2,u2,rfl,rfl,SqT.of (s2 _ _ ha),ae (j:=2) rfl,u2,d2,rfl,R2.mono s2,sr d2 (),λH3 s3=>⟨_,rfl,?_⟩⟩
      cases c2:gv d2 with
      |false=>exact aD (qf _ H3 (s2.trans s3) (by rw[c1,c2];rfl))
      |true=>
       refine ax ⟨_,rfl,a,_,3,u3,rfl,rfl,SqT.of (s3 _ _ (s2 _ _ ha)),ae (j:=3) rfl,u3,d3,rfl,R3.mono (s2.trans s3),sr d3 (),λH4 s4=>⟨_,rfl,?_⟩⟩
       cases c3:eD d3 with
       |false=>exact aD (qf _ H4 (s2.trans (s3.trans s4)) (by rw[c1,c2,c3];rfl))
       |true=>exact ax ⟨_,rfl,a,_,4,u4,rfl,rfl,SqT.of (s4 _ _ (s3 _ _ (s2 _ _ ha))),ae (j:=4) rfl,u4,d4,rfl,R4.mono (s2.trans (s3.trans s4)),sr d4 (),λH5 s5=>qf _ H5 (s2.trans (s3.trans (s4.trans s5))) (by rw[c1,c2,c3];rfl)⟩
   ·rw[Q8 z]
    refine ax (qd _ H1 (ak.refl _) ?_)
    rw[im,Q6 h1,Q9 rfl,ϧ]
    match r,z with
    |[],_=>rfl
    |[_],_=>rfl
    |[_,_],_=>rfl
    |[_,_,_],_=>rfl
    |[_,_,_,_],z=>exact absurd rfl z
    |_::_::_::_::_::_,_=>rfl
  rw[Q8 h2]
  refine ax (ax (qd _ H1 (ak.refl _) ?_))
  rw[im,Q6 h1,Q8 h2];rfl
abbrev eu:Stmt:=top 45
abbrev gM:Stmt:=top 46
abbrev tE:Stmt:=top 47
abbrev Prm:=Str×Kd
def gk(p:Prm):Dv:=.tup [.str p.1,p.2.dv]
def cj(p:Prm):Str:=p.1++γ ": " ++ kdT p.2
structure mi(p:Prm):Prop where
 nm:nmB p.1=true
 sm:p.2.All Sm
 sz:p.2.size<=12
structure tL(f:Str)(ns:List Str)(ps:List Prm):Prop where
 nf:nmB f=true
 wf:cp f=false
 rf:bX f=false
 l4:ns.length<=4
 nn:∀x∈ns,nmB x=true
 p4:ps.length<=4
 pn:∀p∈ps,mi p
def WEb(d:Dv)(b:Br):Prop:=Wx 8 d b/\exN 8 d<=40
def DT(f:Str)(ns:List Str)(ps:List Prm)(b:Br):Str:=ύ (γ " ") (γ "def" :: f::ns)++γ " (" ++ ύ (γ ", ") (ps.map cj)++γ ") = " ++ brT b
def qR(f:Str)(ns:List Str)(ps:List Prm)(e:Dv):Dv:=.tup [.str (γ "def"),.str f,.tup (ns.map Dv.str),.tup (ps.map gk),e]
def WR1(d:Dv)(x:Str):Prop:=(∃e b,d=.tup [.str (γ "ask"),e]/\x=γ "ask " ++ brT b/\WEb e b)\/∃f ns ps e b,d=qR f ns ps e/\x=DT f ns ps b/\tL f ns ps/\WEb e b
theorem yg{H:Hp}{p:Prm}{v:V}(R:Rep H (gk p) v):∃a u,v=.ref a/\H a=some (.tup [.str p.1,u])/\Rep H p.2.dv u:=by
 obtain⟨a,vs,rfl,ha,rs⟩:=Rep.tup_inv R
 obtain⟨x,y,rfl,r1,r2⟩:=Reps.two rs
 simp only[Rep]at r1
 subst r1
 exact⟨a,y,rfl,ha,r2⟩
theorem ia{H:Hp}:∀{ns:List Str}{ws:List V},Reps H (ns.map Dv.str) ws->ws=ns.map V.str
 |[],ws,h=>by simpa only[j9,Reps]using h
 |n::ns,ws,h=>by
  simp only[Χ,Reps]at h
  obtain⟨v,r,rfl,h1,h2⟩:=h
  simp only[Rep]at h1
  rw[h1,ia h2];rfl
theorem lsp:(γ " ").length=1:=by decide +kernel
theorem lcs:(γ ": ").length=2:=by decide +kernel
theorem leq:(γ " = ").length=3:=by decide +kernel
theorem ED:(γ "def").length=3:=by decide +kernel
theorem wO:(γ "ask ").length=4:=by decide +kernel
theorem lop:(γ " (").length=2:=by decide +kernel
theorem lcq:(γ ") = ").length=4:=by decide +kernel
theorem rS{k:Kd}(h:k.All Sm):k.All Wr:=bq (λ_ _ h=>h.1.1) h
theorem yC{p:Prm}(h:mi p):(cj p).length<=20410:=by
 have h1:=bo (rS h.sm)
 have h2:p.1.length<=8:=(aP h.nm).2
 have h3:=h.sz
 unfold cj
 rw[μ,μ,lcs]
 omega
theorem nZ{ps:List Prm}(h:∀p∈ps,mi p)(l4:ps.length<=4):((ps.map cj).map (λx=>x.length)).sum<=81640:=by
 have:=cv (B:=20410) (ys:=ps.map cj) λy hy=>by obtain⟨p,hp,rfl⟩:=Ω.mp hy;exact yC (h p hp)
 rw[δ]at this
 omega
theorem tZ{f:Str}{ns:List Str}{ps:List Prm}(df:tL f ns ps):(((γ "def" :: f::ns).map (λx=>x.length)).sum)<=43:=by
 have h1:=cv (B:=8) (ys:=ns) λy hy=>(aP (df.nn y hy)).2
 have h2:f.length<=8:=(aP df.nf).2
 have:=df.l4
 simp only[Χ,j7,ED]
 omega
theorem nQ{f:Str}{ns:List Str}{ps:List Prm}(df:tL f ns ps):(ύ (γ " ") (γ "def" :: f::ns)).length<=60:=by
 have h1:=cf (γ " ") (γ "def" :: f::ns)
 have h2:=tZ df
 have:=df.l4
 rw[lsp]at h1
 simp only[Γ]at h1
 omega
theorem ph{f:Str}{ns:List Str}{ps:List Prm}(df:tL f ns ps):(ύ (γ ", ") (ps.map cj)).length<=82000:=by
 have h1:=cf (γ ", ") (ps.map cj)
 have h2:=nZ df.pn df.p4
 have:=df.p4
 rw[eV,δ]at h1
 omega
theorem gO{d:Dv}{b:Br}(h:WEb d b):(brT b).length<=480000:=by
 have:=oq h.1
 have:=h.2
 show bl b<=_
 omega
theorem WR1.len{d:Dv}{x:Str}(h:WR1 d x):x.length<=600000:=by
 rcases h with ⟨e,b,rfl,rfl,we⟩|⟨f,ns,ps,e,b,rfl,rfl,df,we⟩
 ·have:=gO we
  rw[μ,wO]
  omega
 ·have h1:=gO we
  have h2:=nQ df
  have h3:=ph df
  unfold DT
  rw[μ,μ,μ,μ,lop,lcq]
  omega
theorem Av(j p x:Str):d_++j++γ " " ++ (γ "" ++ γ "(" ++ p++γ ")")++γ " = " ++ x=j++γ " (" ++ p++γ ") = " ++ x:=by
 rw[show γ " ("=γ " " ++ γ "(" by decide +kernel,show γ ") = "=γ ")" ++ γ " = " by decide +kernel,show γ ""=d_ from rfl,ϯ,ϯ]
 simp only[q_]
def yE:Sp:=λvs H Q _=>∃(p:Prm) (v:V),vs=[.str p.1,v]/\Rep H p.2.dv v/\mi p/\∀H',ak H H'->Q (.str (cj p)) H'
theorem gl:am ["x","kind","shown"] ["x","kind"] (af eu):=by trivial
theorem mw{f:Addr}{fd:Θ}{k:Nat}(F:Fun K "show_param" "show_param" eu f fd)(T:Txt K mg)(Dshow_kind:Def P w K mg base k "show_kind" ["kind"] (gp 12)):av P w K mg base CX0 (k+1) f fd ["x","kind"] yE:=by
 have nd:=gl.nd
 refine F.ok gl (λvs H Q E h=>?_) (λcdv A outer s H vs Q E hr h=>?_)
 ·obtain⟨p,v,rfl,_⟩:=h
  rfl
 obtain⟨p,v,rfl,R,ok,q⟩:=h
 refine⟨_,(@un _ _ _ (wbO (wbM 2 nd rfl (υ rfl) (waq Dshow_kind hr rfl (wae (wv 1 rfl) waf rfl) () rfl rfl) rfl ()) (wbQ (wbK (was (wau (wat (wv 0 rfl)) (wau waV (wau (wat (wv 2 rfl)) wav)))))))),?_⟩
 have wr:=rS ok.sm
 have h1:=bo wr
 have h2:p.1.length<=8:=(aP ok.nm).2
 have h3:=ok.sz
 refine aX λX hX=>⟨_,rfl,v,p.2,rfl,R,ok.sz,(),wr,λH1 s1=>gnm (hX _ _ ?_)⟩
 have e1:d_++p.1=p.1:=ϯ _
 have l1:(d_++p.1).length<=8:=by rw[e1];exact h2
 have l2:(d_++p.1++γ ": ").length<=10:=by rw[μ,lcs];omega
 have l3:(d_++p.1++γ ": " ++ kdT p.2).length<=20410:=by rw[μ];omega
 refine⟨_,rfl,p.1,rfl,by rw[θ];omega,p.1,rfl,by rw[θ];omega,_,rfl,by rw[θ];omega,_,rfl,kdT p.2,rfl,by rw[θ];omega,_,rfl,by rw[θ];omega,by rw[θ];omega,?_⟩
 rw[e1]
 exact q H1 s1
theorem jo:am ["row","expression","head","params"] ["row"] (af gM):=by trivial
theorem qu{f:Addr}{fd:Θ}{k:Nat}(F:Fun K "show_row" "show_row" gM f fd)(T:Txt K mg)(Dshow_param:Def P w K mg base k "show_param" ["x","kind"] yE)(Dshow_expression:Def P w K mg base k "show_expression" ["expression"] (qI 8))(Din_brackets:Def P w K mg base k "in_brackets" ["word","texts"] kh):av P w K mg base CX0 (k+1) f fd ["row"] (Bu WR1):=by
 have nd:=jo.nd
 refine F.ok jo (λvs H Q E h=>?_) (λcdv A outer s H vs Q E hr h=>?_)
 ·obtain⟨v,x,d,rfl,_⟩:=h
  rfl
 obtain⟨v,x,d,rfl,R,hw,q⟩:=h
 refine⟨_,(@un _ _ _ (wbO (wbM 1 nd rfl (υ rfl) (waq Dshow_expression hr rfl (wae (waD aj (wv 0 rfl) (waY rZ waC) (λ_ _=>rfl)) waf rfl) () rfl rfl) rfl ()) (wbO (wbI (wbS aw (waD aj (wv 0 rfl) waC (λ_ _=>rfl)) waV (ai _)) (wbQ (wbK (was (wau waV (wau (wat (wv 1 rfl)) wav))))) wbP) (wbO (wbM 2 nd rfl (υ rfl) (waj Κ Ϫ ϫ cz waV (wae (waQ gC (waM (wae waV (wae (waD aj (wv 0 rfl) waC (λ_ _=>rfl)) waf rfl) rfl)) (wam hV rfl T.list () (wae (waD aj (wv 0 rfl) waC (λ_ _=>rfl)) waf rfl) () () rfl rfl)) waf rfl) rfl rfl rfl rfl rfl) rfl ()) (wbO (wbM 3 nd rfl (υ rfl) (waq Din_brackets hr rfl (wae waV (wae (waE (["x","kind"]) [] (wbo (waD aj (wv 0 rfl) waC (λ_ _=>rfl))) (.of rfl) rfl (λ_ _ _=>⟨pg_tup rfl (pgs_cons (pg_name (i:=0) (bc (l:=["x","kind"]) (()) rfl) rfl (υ rfl)) (pgs_cons (pg_name (i:=1) (bc (l:=["x","kind"]) (()) rfl) rfl (υ rfl)) pgs_nil))⟩) (gx () ()) (λ_ _ _=>wbx) (λ_ _ _=>(waq Dshow_param hr rfl (wae (wv 0 rfl) (wae (wv 1 rfl) waf rfl) rfl) () rfl rfl)) ()) waf rfl) rfl) () rfl rfl) rfl ()) (wbQ (wbK (was (wau (wat (wv 2 rfl)) (wau waV (wau (wat (wv 3 rfl)) (wau waV (wau (wat (wv 1 rfl)) wav))))))))))))),?_⟩
 dsimp only[bi,Cx.nox]
 rcases hw with ⟨e,b,rfl,rfl,we⟩|⟨f',ns,ps,e,b,rfl,rfl,df,we⟩
 ·obtain⟨a,vs,rfl,ha,rs⟩:=Rep.tup_inv R
  obtain⟨w1,w2,rfl,r1,r2⟩:=Reps.two rs
  simp only[Rep]at r1
  subst r1
  have l0:=gO we
  refine aX λX hX=>⟨_,rfl,1,rfl,a,_,_,w2,rfl,rfl,SqT.of ha,rfl,w2,e,b,rfl,r2,we.1,by show(brT b).length<=_;omega,λH1 s1=>gs hX λX hX=>?_⟩
  refine en λY Z hY hZ=>⟨_,rfl,a,_,0,.str (γ "ask"),rfl,rfl,SqT.of (s1 _ _ ha),ae (j:=0) rfl,rfl,_,rfl,ap (λ_=>hY _ ?_) (λh=>absurd (Q9 rfl) h)⟩
  have e1:d_++γ "ask "=γ "ask ":=ϯ _
  have l1:(d_++γ "ask ").length<=4:=by rw[e1,wO];exact π _
  have l2:(d_++γ "ask " ++ brT b).length<=480004:=by rw[μ];omega
  refine⟨_,rfl,by rw[θ];omega,_,rfl,brT b,rfl,by rw[θ];omega,_,rfl,by rw[θ];omega,by rw[θ];omega,?_⟩
  rw[e1]
  exact q H1 s1
 ·obtain⟨a,vs,rfl,ha,rs⟩:=Rep.tup_inv (show Rep H (.tup [.str (γ "def"),.str f',.tup (ns.map Dv.str),.tup (ps.map gk),e]) v from R)
  simp only[Reps]at rs
  obtain⟨w1,_,rfl,r1,w2,_,rfl,r2,w3,_,rfl,r3,w4,_,rfl,r4,w5,_,rfl,r5,rfl⟩:=rs
  simp only[Rep]at r1 r2
  subst r1;subst r2
  obtain⟨b1,ws,rfl,hb1,Rb⟩:=Rep.tup_inv r3
  obtain⟨c1,zs,rfl,hc1,Rc⟩:=Rep.tup_inv r4
  have ew:=ia Rb
  subst ew
  have l0:=gO we
  have l1:=nQ df
  have l2:=tZ df
  have l3:=nZ df.pn df.p4
  have l4:=ph df
  have n4:=df.l4
  have p4:=df.p4
  have lz:zs.length=ps.length:=by have:=Rc.length;rwa[δ]at this
  refine aX λX hX=>⟨_,rfl,1,rfl,a,_,_,w5,rfl,rfl,SqT.of ha,rfl,w5,e,b,rfl,r5,we.1,by show(brT b).length<=_;omega,λH1 s1=>gs hX λX hX=>?_⟩
  refine en λY Z hY hZ=>⟨_,rfl,a,_,0,.str (γ "def"),rfl,rfl,SqT.of (s1 _ _ ha),ae (j:=0) rfl,rfl,_,rfl,ap (λh=>absurd h ()) (λ_=>hZ _ (tnx (hX _ _ (aX λX hX=>?_))))⟩
  refine⟨rfl,_,rfl,a,_,1,.str f',rfl,rfl,SqT.of (s1 _ _ ha),ae (j:=1) rfl,z2,λg1 hg1=>?_⟩
  have p1:=s1.trans (ac hg1 (.lst [.str (γ "def"),.str f']))
  have h1:upd H1 g1 (.lst [.str (γ "def"),.str f']) g1=some (.lst [.str (γ "def"),.str f']):=aa
  generalize upd H1 g1 (.lst [.str (γ "def"),.str f'])=H2 at p1 h1⊢
  refine⟨_,rfl,a,_,2,.ref b1,rfl,rfl,SqT.of (p1 _ _ ha),ae (j:=2) rfl,b1,_,rfl,.inr (SqT.of (p1 _ _ hb1)),λg2 hg2=>?_⟩
  have q2:=ac hg2 (.lst (ns.map V.str))
  refine⟨g1,g2,_,_,rfl,rfl,q2 _ _ h1,aa,by rw[δ,θ];show 2+_<=_;omega,λg3 hg3=>?_⟩
  have q3:=ac hg3 (.lst ([.str (γ "def"),.str f']++ns.map V.str))
  have p3:=p1.trans (q2.trans q3)
  have h3:upd (upd H2 g2 (.lst (ns.map V.str))) g3 (.lst ([.str (γ "def"),.str f']++ns.map V.str)) g3=some (.lst ((γ "def" :: f'::ns).map V.str)):=aa
  generalize upd (upd H2 g2 (.lst (ns.map V.str))) g3 (.lst ([.str (γ "def"),.str f']++ns.map V.str))=H3 at p3 h3⊢
  refine⟨_,g3,γ "def" :: f'::ns,rfl,rfl,SqL.of h3,by rw[lsp];simp only[Γ];omega,?_⟩
  rw[tj]
  refine gs hX λX hX=>?_
  refine⟨_,rfl,a,_,3,.ref c1,rfl,rfl,SqT.of (p3 _ _ ha),ae (j:=3) rfl,c1,rfl,⟨zs,SqT.of (p3 _ _ hc1)⟩,iA (xs:=zs) (λi ys H'=>ak H3 H'/\ys=((ps.take i).map cj).map V.str) ⟨ak.refl _,rfl⟩ (λi ys H' _ p=>SqT.of (p.1 _ _ (p3 _ _ hc1))) ?L1 ?_⟩
  case L1=>
   rintro i ys H' x hx ⟨s',rfl⟩
   obtain⟨p,hp,Rx⟩:=eE (f:=gk) Rc hx
   obtain⟨e',z,rfl,he,Rz⟩:=yg Rx
   have hi:i<zs.length:=(ψ.mp hx).1
   have pm:=df.pn p (Ο hp)
   refine dj (s' _ _ (p3 _ _ he)) ⟨_,rfl,_,rfl,p,z,rfl,Rz.mono (p3.trans s'),pm,λH5 s5=>⟨?_,s'.trans s5,?_⟩⟩
   ·rw[δ,δ,Υ,θ];omega
   ·rw[ϕ,hp,ς,ς];rfl
  rintro ys H4 ⟨s4,rfl⟩ l hl
  rw[lz,ϒ]
  have s5:=(p3.trans s4).trans (ac hl (.lst ((ps.map cj).map V.str)))
  refine⟨γ "",l,ps.map cj,rfl,aa,(),by rw[δ];omega,gnm (hX _ _ ?_)⟩
  generalize upd H4 l (.lst ((ps.map cj).map V.str))=H5 at s5⊢
  have lbr:(γ "" ++ γ "(" ++ ύ (γ ", ") (ps.map cj)++γ ")").length<=82002:=by
   rw[μ,μ,μ,lb3,lb4,show(γ "").length=0 by decide +kernel]
   omega
  have fin:=Av (ύ (γ " ") (γ "def" :: f'::ns)) (ύ (γ ", ") (ps.map cj)) (brT b)
  generalize γ "" ++ γ "(" ++ ύ (γ ", ") (ps.map cj)++γ ")"=br at lbr fin⊢
  have hq:=q H5 s5
  unfold DT at hq
  rw[<-fin]at hq
  clear fin
  generalize ύ (γ " ") (γ "def" :: f'::ns)=hd at l1 hq⊢
  have e1:(d_++hd).length<=60:=by rw[ϯ];exact l1
  have e2:(d_++hd++γ " ").length<=61:=by rw[μ,lsp];omega
  have e3:(d_++hd++γ " " ++ br).length<=83000:=by rw[μ];omega
  have e4:(d_++hd++γ " " ++ br++γ " = ").length<=83003:=by rw[μ,leq];omega
  have e5:(d_++hd++γ " " ++ br++γ " = " ++ brT b).length<=600000:=by rw[μ];omega
  exact⟨_,rfl,hd,rfl,by rw[θ];omega,hd,rfl,by rw[θ];omega,_,rfl,by rw[θ];omega,_,rfl,br,rfl,by rw[θ];omega,_,rfl,by rw[θ];omega,_,rfl,by rw[θ];omega,_,rfl,brT b,rfl,by rw[θ];omega,_,rfl,by rw[θ];omega,by rw[θ];omega,hq⟩
abbrev gK:Stmt:=top 62
abbrev km:Stmt:=top 63
abbrev dN:Stmt:=top 64
theorem kZ{a y b:Str}{c m:Nat}(hy:y.cps.toList[m]?=some c)(hc:c∉a.cps.toList)(hm:∀j<m,y.cps.toList[j]?≠some c):Txt.partition (a++y++b) y=(a,y,b):=by
 have eX:(a++y++b).cps.toList=a.cps.toList++(y.cps.toList++b.cps.toList):=by rw[aJ,aJ,c_]
 have lX:(a++y++b).length=a.length+(y.length+b.length):=by rw[μ,μ];omega
 have la:a.cps.toList.length=a.length:=Ι
 have ly:y.cps.toList.length=y.length:=Ι
 have lm:m<y.length:=by rw[<-ly];exact(ψ.mp hy).1
 have atA:StrLaws.At (a++y++b) y (a++y++b).length a.length:=by
  refine⟨(),?_⟩
  rw[C5,eX,EM la,A9 ly,beq_self_eq_true]
 have no:∀k<a.length,¬ StrLaws.At (a++y++b) y (a++y++b).length k:=by
  rintro k hk ⟨_,h⟩
  rw[C5,eX,beq_iff_eq]at h
  have h2:((List.drop k (a.cps.toList++(y.cps.toList++b.cps.toList))).take y.length)[m]?=some c:=by rw[h];exact hy
  rw[List.getElem?_take_of_lt lm,List.getElem?_drop]at h2
  by_cases z:k+m<a.length
  ·rw[i6 ()]at h2
   exact hc (Ο h2)
  ·rw[ϵ (),i6 ()]at h2
   exact hm _ () h2
 rcases PyProof.Rows.partition_whole (a++y++b) y with ⟨_,h⟩|⟨i,h,h1,h2⟩
 ·exact absurd atA (h _)
 ·have ei:i=a.length:=by
   rcases Nat.lt_trichotomy i a.length with z|z|z
   ·exact absurd h1 (no i z)
   ·exact z
   ·exact absurd atA (h2 _ z)
  subst ei
  rw[h]
  refine Prod.ext ?_ (Prod.ext rfl ?_)
  ·refine dF ?_
   show((a++y++b).cps.extract 0 a.length).toList=_
   rw[Array.toList_extract,eX,FQ,B9,Nat.sub_zero,A9 la]
  ·refine dF ?_
   show((a++y++b).cps.extract (a.length+y.length) (a++y++b).length).toList=_
   rw[Array.toList_extract,eX,FQ,<-c_,EM (by rw[Η,la,ly]),A6 (by rw[lX];show b.cps.toList.length<=_;rw[Ι];show b.length<=_;omega)]
def pre(x:Str):Br->Br
 |.leaf w=>.leaf (x++γ ": " ++ w)
 |.nd w ts=>.nd (x++γ ": " ++ w) ts
def eh(p:Prm):Br:=pre p.1 (bP p.2)
theorem AL(x:Str)(b:Br):brT (pre x b)=x++γ ": " ++ brT b:=by
 cases b with
 |leaf w=>rw[pre,brT,brT]
 |nd w ts=>rw[pre,brT,brT];simp only[q_]
theorem vy(p:Prm):brT (eh p)=cj p:=by rw[eh,AL,eQ];rfl
theorem rN{x w:Str}(hx:nmB x=true)(hw:∀c∈w.cps.toList,bJ c=false):∀c∈(x++γ ": " ++ w).cps.toList,bJ c=false:=λc hc=>by
 rw[aJ,aJ]at hc
 rcases Τ.mp hc with hc|hc
 ·rcases Τ.mp hc with hc|hc
  ·exact gf hx c hc
  ·have e:(γ ": ").cps.toList=[58,32]:=by decide +kernel
   rw[e]at hc
   simp only[ν,ϟ,or_false]at hc
   rcases hc with rfl|rfl<;>rfl
 ·exact hw c hc
theorem Cv{x:Str}{b:Br}(hx:nmB x=true)(h:bC b):bC (pre x b)/\bu (pre x b)=bu b:=by
 cases b with
 |leaf w=>rw[bC]at h;rw[pre,bC,bu,bu];exact⟨⟨rN hx h.1,by have:=(aP hx).1;have e:(x++γ ": " ++ w).cps.size=(x++γ ": " ++ w).length:=rfl;rw[e,μ,μ,lcs];omega⟩,rfl⟩
 |nd w ts=>rw[bC]at h;rw[pre,bC,bu,bu];exact⟨⟨rN hx h.1,h.2⟩,rfl⟩
theorem rP{p:Prm}(h:mi p):bC (eh p)/\bu (eh p)<=12:=by
 have h1:=Cv h.nm (ib (bq (λ_ _ h=>h.1) h.sm))
 have h2:=iu p.2
 have h3:=h.sz
 exact⟨h1.1,by show bu (pre p.1 (bP p.2))<=12;rw[h1.2];omega⟩
def yP:Sp:=λvs H Q _=>∃(v:V) (p:Prm),vs=[v]/\Rep H (bE (eh p)) v/\mi p/\∀H' u,ak H H'->Rep H' (gk p) u->Q u H'
def dfT(f:Str)(ns:List Str)(ps:List Prm)(b:Br):Str:=ύ (γ " ") (f::ns)++γ " (" ++ (ύ (γ ", ") (ps.map cj)++γ ") = " ++ brT b)
def vh:Sp:=λvs H Q _=>∃(f:Str) (ns:List Str) (ps:List Prm) (e:Dv) (b:Br),vs=[.str (dfT f ns ps b)]/\tL f ns ps/\WEb e b/\∀H' u,ak H H'->Rep H' (qR f ns ps e) u->Q u H'
def Ch(x:Str):Prop:=∀c∈x.cps.toList,32<=c/\c≠61
theorem dP{a b:Str}(h:Ch a)(g:Ch b):Ch (a++b):=λc hc=>by
 rw[aJ]at hc
 rcases Τ.mp hc with z|z
 ·exact h c z
 ·exact g c z
theorem gZ{s:Str}{ys:List Str}(h:Ch s)(g:∀y∈ys,Ch y):Ch (ύ s ys):=λc hc=>by
 rcases ii hc with z|⟨y,hy,z⟩
 ·exact h c z
 ·exact g y hy c z
theorem gn{x:Str}(h:nmB x=true):Ch x:=λc hc=>by have:=(fK h).2.2 c hc;omega
theorem tf{n:Int}(h0:0<=n)(h1:n<10^60):Ch (be n):=λc hc=>by have:=fY h0 h1 c hc;omega
theorem sU:Ch (γ ", "):=by unfold Ch;decide +kernel
theorem DL:Ch (γ " "):=by unfold Ch;decide +kernel
theorem CN:Ch (γ "("):=by unfold Ch;decide +kernel
theorem Da:Ch (γ ")"):=by unfold Ch;decide +kernel
theorem Bs:Ch (γ ": "):=by unfold Ch;decide +kernel
theorem sR{c:Int}{ps:List Pr}(wa:Wa c ps):Ch (ci c ps):=by
 refine gZ (by unfold Ch;decide +kernel) λy hy=>?_
 unfold ba at hy
 rcases Τ.mp hy with h1|h1
 ·obtain⟨p,hp,rfl⟩:=Ω.mp h1
  unfold aH
  split
  ·exact gn (wa.2 p hp)
  ·have:=wa.1.can.ge p hp
   exact dP (dP (tf () (wa.1.le p hp).1) (by unfold Ch;decide +kernel)) (gn (wa.2 p hp))
 ·split at h1
  ·rw[ξ.mp h1];exact tf wa.1.c0 wa.1.c1
  ·cases h1
theorem kU{w:Str}{ts:List Br}(h:Ch w)(g:∀t∈ts,Ch (brT t)):Ch (brT (.nd w ts)):=by
 rw[brT,dG]
 exact dP (dP (dP h CN) (gZ sU λy hy=>by obtain⟨t,ht,rfl⟩:=Ω.mp hy;exact g t ht)) Da
theorem rW:∀{k:Kd},k.All Wa->Ch (brT (bP k))
 |.whole,_=>by rw[bP,brT];unfold Ch;decide +kernel
 |.place c ps,h=>by rw[bP];exact kU (by unfold Ch;decide +kernel) λt ht=>by rw[ξ.mp ht,brT];exact sR h
 |.row c ps k,h=>by
  rw[bP]
  refine kU (by unfold Ch;decide +kernel) λt ht=>?_
  rcases ν.mp ht with rfl|ht
  ·rw[brT];exact sR h.1
  ·rw[ξ.mp ht];exact rW h.2
 |.pair i j,h=>by
  rw[bP]
  refine kU (by unfold Ch;decide +kernel) λt ht=>?_
  rcases ν.mp ht with rfl|ht
  ·exact rW h.1
  ·rw[ξ.mp ht];exact rW h.2
theorem CO{R:Dv->Br->Prop}(hR:∀d b,R d b->Ch (brT b)):∀{s:So}{d:Dv}{b:Br},Ag R s d b->Ch (brT b)
 |.e,_,_,h=>hR _ _ h
 |.l,_,_,h=>by obtain⟨c,ps,_,rfl,sm⟩:=h;rw[brT];exact sR sm.1
 |.k,_,_,h=>by obtain⟨k,_,rfl,a,_⟩:=h;exact rW (bq (λ_ _ h=>h.1) a)
 |.x,_,_,h=>by obtain⟨y,_,rfl,n⟩:=h;rw[brT];exact gn n
 |.y,_,_,h=>by obtain⟨y,_,rfl,n⟩:=h;rw[brT];exact gn n
theorem CD{R:Dv->Br->Prop}(hR:∀d b,R d b->Ch (brT b)){ss:List So}{ds:List Dv}{bs:List Br}(h:Ags R ss ds bs):∀b∈bs,Ch (brT b):=by
 induction h with
 |nil=>exact nofun
 |cons a _ ih=>
  intro b hb
  rcases ν.mp hb with rfl|hb
  ·exact CO hR a
  ·exact ih b hb
theorem yA:∀{n:Nat}{d:Dv}{b:Br},Wx n d b->Ch (brT b)
 |n+1,d,b,h=>by
  have hR:∀d b,Wx n d b->Ch (brT b):=λd b=>yA
  rw[Wx]at h
  rcases h with ⟨i,h0,h1,rfl,rfl⟩|⟨y,hy,rfl,rfl⟩|⟨f,ds,bs,hf,_,_,l4,ha,rfl,rfl⟩|⟨r,d1,d2,b1,b2,hr,w1,w2,rfl,rfl⟩|⟨ds,bs,l1,l4,ha,rfl,rfl⟩|⟨p,ds,bs,hp,_,ha,_,rfl,rfl⟩
  ·rw[brT];exact tf h0 ()
  ·rw[brT];exact gn hy
  ·exact kU (gn hf) λb hb=>by obtain⟨d,_,r⟩:=ha.mem.2 b hb;exact hR d b r
  ·refine kU (gn (gd r (dD hr)).1) λb hb=>?_
   rcases ν.mp hb with rfl|hb
   ·exact hR _ _ w1
   ·rw[ξ.mp hb];exact hR _ _ w2
  ·exact kU (by unfold Ch;decide +kernel) λb hb=>by obtain⟨d,_,r⟩:=ha.mem.2 b hb;exact hR d b r
  ·exact kU (gn (qL p hp)) (CD hR ha)
theorem AW{p:Prm}(h:mi p):Ch (cj p):=by
 rw[<-vy,eh,AL]
 exact dP (dP (gn h.nm) Bs) (rW (bq (λ_ _ h=>h.1) h.sm))
theorem Bc{f:Str}{ns:List Str}{ps:List Prm}(df:tL f ns ps):∀y∈f::ns,nmB y=true:=λy hy=>by
 rcases ν.mp hy with rfl|hy
 ·exact df.nf
 ·exact df.nn y hy
theorem yx{d:Dv}{x:Str}(h:WR1 d x):10∉x.cps.toList/\1<=x.length:=by
 rcases h with ⟨e,b,rfl,rfl,we⟩|⟨f,ns,ps,e,b,rfl,rfl,df,we⟩
 ·exact⟨λz=>by have:=dP (by unfold Ch;decide +kernel:Ch (γ "ask ")) (yA we.1) 10 z;omega,by rw[μ,wO];omega⟩
 ·unfold DT
  refine⟨λz=>?_,by rw[μ,μ,lcq];omega⟩
  rw[aJ,aJ]at z
  rcases Τ.mp z with z|z
  ·rcases Τ.mp z with z|z
   ·have:=dP (dP (gZ DL λy hy=>?_) (by unfold Ch;decide +kernel:Ch (γ " ("))) (gZ sU λy hy=>by obtain⟨p,hp,rfl⟩:=Ω.mp hy;exact AW (df.pn p hp)) 10 z
    ·omega
    ·rcases ν.mp hy with rfl|hy
     ·unfold Ch;decide +kernel
     ·exact gn (Bc df y hy)
   ·exact absurd z ()
  ·have:=yA we.1 10 z;omega
theorem CM(f:Str)(ns:List Str)(ps:List Prm)(b:Br):DT f ns ps b=γ "def " ++ dfT f ns ps b:=by
 unfold DT dfT
 rw[bb,show γ "def "=γ "def" ++ γ " " by decide +kernel]
 simp only[q_]
theorem kx(a b:Str):Txt.startswith (a++b) a=true:=by
 unfold Txt.startswith
 rw[Q9 (by rw[μ];omega),C5,aJ,B9,A9 (show a.cps.toList.length=a.length from Ι),beq_self_eq_true];rfl
theorem wW{a b y:Str}(hl:y.length=a.length)(h:a≠y):Txt.startswith (a++b) y=false:=by
 unfold Txt.startswith
 rw[C5,aJ,B9,A9 (by rw[hl];exact Ι),Bool.and_eq_false_iff]
 refine .inr (beq_eq_false_iff_ne.mpr λe=>h (dF e))
theorem nk{a b:Str}{n:Int}(h:(a.length:Int)=n):Txt.slice (a++b) (some n) none=b:=by
 have hl:(a++b).length=a.length+b.length:=μ _ _
 rw[FK (b:=((a++b).length:Int)) () () rfl]
 refine dF ?_
 show(List.take _ (List.drop n.toNat (a++b).cps.toList)).toArray.toList=_
 rw[aJ,EM (by rw[Ι];show a.length=_;omega),A6 (by rw[Ι];show b.length<=_;omega)]
theorem Cj(x:Str)(b:Br):∃(w:Str) (d:Dv),bE b=.tup [.str w,d]/\bE (pre x b)=.tup [.str (x++γ ": " ++ w),d]/\w.length<=(brT b).length:=by
 cases b with
 |leaf w=>exact⟨w,.non,by rw[bE];rfl,by rw[pre,bE];rfl,by rw[brT];exact π _⟩
 |nd w ts=>exact⟨w,_,by rw[bE],by rw[pre,bE],by rw[brT,μ,μ,μ];omega⟩
theorem DY:∀j<1,(γ " (").cps.toList[j]?≠some 40:=by decide +kernel
theorem Ev:∀j<2,(γ ") = ").cps.toList[j]?≠some 61:=by decide +kernel
theorem iO{H:Hp}:∀ns:List Str,Reps H (ns.map Dv.str) (ns.map V.str)
 |[]=>by simp only[j9,Reps]
 |n::ns=>by simp only[Χ,Reps];exact⟨_,_,rfl,by simp only[Rep],iO ns⟩
theorem jd:am ["branch","halves"] ["branch"] (af gK):=by trivial
theorem rq{f:Addr}{fd:Θ}{k:Nat}(F:Fun K "param_in" "param_in" gK f fd)(T:Txt K mg)(Dkind_in:Def P w K mg base k "kind_in" ["branch"] (fE 12)):av P w K mg base CX0 (k+1) f fd ["branch"] yP:=by
 have nd:=jd.nd
 refine F.ok jd (λvs H Q E h=>?_) (λcdv A outer s H vs Q E hr h=>?_)
 ·obtain⟨v,p,rfl,_⟩:=h
  rfl
 obtain⟨v,p,rfl,R,ok,q⟩:=h
 refine⟨_,(@un _ _ _ (wbO (wbM 1 nd rfl (υ rfl) (waj Κ B_ C0 eo (waD aj (wv 0 rfl) waC (λ_ _=>rfl)) (wae waV waf rfl) rfl rfl rfl rfl rfl) rfl ()) (wbQ (wbK (waX (wae (waD aj (wv 1 rfl) waC (λ_ _=>rfl)) (wae (waq Dkind_in hr rfl (wae (waX (wae (waD aj (wv 1 rfl) waC (λ_ _=>rfl)) (wae (waD aj (wv 0 rfl) waC (λ_ _=>rfl)) waf rfl) rfl)) waf rfl) () rfl rfl) waf rfl) rfl)))))),?_⟩
 dsimp only[bi,Cx.nox]
 obtain⟨w1,d1,eK,eP,lw⟩:=Cj p.1 (bP p.2)
 have lk:=bo (rS ok.sm)
 have sz:=ok.sz
 rw[eQ]at lw
 have ln:p.1.length<=8:=(aP ok.nm).2
 rw[eh,eP]at R
 obtain⟨a,vs,rfl,ha,rs⟩:=Rep.tup_inv R
 obtain⟨v0,v1,rfl,r0,r1⟩:=Reps.two rs
 simp only[Rep]at r0
 subst r0
 refine aX λX hX=>⟨_,rfl,a,_,0,_,rfl,rfl,SqT.of ha,ae (j:=0) rfl,rfl,_,γ ": ",rfl,rfl,(),by rw[μ,μ,lcs,θ];omega,λg hg=>?_⟩
 rw[kZ (m:=0) (c:=58) () (λz=>by have:=(fK ok.nm).2.2 58 z;omega) ()]
 have s1:=ac hg (.tup [.str p.1,.str (γ ": "),.str w1])
 have h1:upd H g (.tup [.str p.1,.str (γ ": "),.str w1]) g=some (.tup [.str p.1,.str (γ ": "),.str w1]):=aa
 generalize upd H g (.tup [.str p.1,.str (γ ": "),.str w1])=H1 at s1 h1⊢
 refine gnm (hX _ _ ⟨_,rfl,g,_,0,.str p.1,rfl,rfl,SqT.of h1,ae (j:=0) rfl,_,rfl,g,_,2,.str w1,rfl,rfl,SqT.of h1,ae (j:=2) rfl,_,rfl,a,_,1,v1,rfl,rfl,SqT.of (s1 _ _ ha),ae (j:=1) rfl,z2,λt ht=>?_⟩)
 have s2:=ac ht (.tup [.str w1,v1])
 refine⟨.ref t,p.2,rfl,?_,ok.sz,bq (λ_ _ h=>h.1) ok.sm,λH3 u s3 R3=>⟨z2,λm hm=>?_⟩⟩
 ·rw[<-jT,eK,Rep]
  exact⟨t,_,rfl,aa,by simp only[Reps];exact⟨_,_,rfl,by simp only[Rep],_,_,rfl,r1.mono (s1.trans s2),rfl⟩⟩
 have s4:=ac hm (.tup [.str p.1,u])
 refine q _ _ (s1.trans (s2.trans (s3.trans s4))) ?_
 rw[gk,Rep]
 exact⟨m,_,rfl,aa,by simp only[Reps];exact⟨_,_,rfl,by simp only[Rep],_,_,rfl,R3.mono s4,rfl⟩⟩
theorem mS:am ["text","halves","words","sides","params"] ["text"] (af km):=by trivial
theorem wc{f:Addr}{fd:Θ}{k:Nat}(F:Fun K "def_of" "def_of" km f fd)(T:Txt K mg)(Dbranch_of:Def P w K mg base k "branch_of" ["text"] ua)(Dparam_in:Def P w K mg base k "param_in" ["branch"] yP)(Dexpression_of:Def P w K mg base k "expression_of" ["text"] (yT WE)):av P w K mg base CX0 (k+1) f fd ["text"] vh:=by
 have nd:=mS.nd
 refine F.ok mS (λvs H Q E h=>?_) (λcdv A outer s H vs Q E hr h=>?_)
 ·obtain⟨f,ns,ps,e,b,rfl,_⟩:=h
  rfl
 obtain⟨f',ns,ps,e,b,rfl,df,we,q⟩:=h
 refine⟨_,(@un _ _ _ (wbO (wbM 1 nd rfl (υ rfl) (waj Κ B_ C0 eo (wv 0 rfl) (wae waV waf rfl) rfl rfl rfl rfl rfl) rfl ()) (wbO (wbM 2 nd rfl (υ rfl) (waj Κ g_ h_ cZ (waD aj (wv 1 rfl) waC (λ_ _=>rfl)) (wae waV waf rfl) rfl rfl rfl rfl rfl) rfl ()) (wbO (wbM 3 nd rfl (υ rfl) (waj Κ B_ C0 eo (waD aj (wv 1 rfl) waC (λ_ _=>rfl)) (wae waV waf rfl) rfl rfl rfl rfl rfl) rfl ()) (wbO (wbM 4 nd rfl (υ rfl) (waD aj (waq Dbranch_of hr rfl (wae (waQ au (waQ au waV (waD aj (wv 3 rfl) waC (λ_ _=>rfl))) waV) waf rfl) () rfl rfl) waC (λ_ _=>rfl)) rfl ()) (wbQ (wbK (waX (wae waV (wae (waD aE (wv 2 rfl) waC (λ_ _=>rfl)) (wae (wam ay rfl T.tuple () (wae (waT cX (wv 2 rfl) (wbA waC) wbz) waf rfl) () () rfl rfl) (wae (wam ay rfl T.tuple () (wae (waE ["each"] [] (wbi (wv 4 rfl)) (.of rfl) rfl (λ_ _ _=>⟨pg_name (i:=0) (bc (l:=["each"]) (()) rfl) rfl (υ rfl)⟩) (aW ()) (λ_ _ _=>wbx) (λ_ _ _=>(waq Dparam_in hr rfl (wae (wv 0 rfl) waf rfl) () rfl rfl)) ()) waf rfl) () () rfl rfl) (wae (waq Dexpression_of hr rfl (wae (waD aj (wv 3 rfl) waC (λ_ _=>rfl)) waf rfl) () rfl rfl) waf rfl) rfl) rfl) rfl) rfl))))))))),?_⟩
 dsimp only[bi,Cx.nox]
 have l1:=nQ df
 have l2:=ph df
 have l3:=gO we
 have n4:=df.l4
 have p4:=df.p4
 have lh:(ύ (γ " ") (f'::ns)).length<=60:=by
  rw[bb,μ,μ]at l1;omega
 have hnm:=Bc df
 refine aX λX hX=>⟨_,rfl,rfl,_,γ " (",rfl,rfl,(),by unfold dfT;rw[μ,μ,μ,μ,lop,lcq,θ];omega,λg1 hg1=>?_⟩
 unfold dfT
 rw[kZ (m:=1) (c:=40) () (λz=>by
  rcases ii z with z|⟨y,hy,z⟩
  ·exact absurd z ()
  ·have:=(fK (hnm y hy)).2.2 40 z;omega) DY]
 have s1:=ac hg1 (.tup [.str (ύ (γ " ") (f'::ns)),.str (γ " ("),.str (ύ (γ ", ") (ps.map cj)++γ ") = " ++ brT b)])
 have h1:upd H g1 (.tup [.str (ύ (γ " ") (f'::ns)),.str (γ " ("),.str (ύ (γ ", ") (ps.map cj)++γ ") = " ++ brT b)]) g1=some _:=aa
 generalize upd H g1 (.tup [.str (ύ (γ " ") (f'::ns)),.str (γ " ("),.str (ύ (γ ", ") (ps.map cj)++γ ") = " ++ brT b)])=H1 at s1 h1⊢
 have esp:Txt.split (ύ (γ " ") (f'::ns)) (γ " ")=f'::ns:=dC 32 () λp hp z=>by have:=(fK (hnm p hp)).2.2 32 z;omega
 refine gs hX λX hX=>⟨_,rfl,g1,_,0,_,rfl,rfl,SqT.of h1,ae (j:=0) rfl,rfl,_,γ " ",rfl,rfl,(),by rw[θ];omega,by rw[esp,Γ,θ];omega,λg2 hg2=>?_⟩
 rw[esp]
 have s2:=ac hg2 (.lst ((f'::ns).map V.str))
 have h2:upd H1 g2 (.lst ((f'::ns).map V.str)) g2=some (.lst ((f'::ns).map V.str)):=aa
 generalize upd H1 g2 (.lst ((f'::ns).map V.str))=H2 at s2 h2⊢
 refine gs hX λX hX=>⟨_,rfl,g1,_,2,_,rfl,rfl,SqT.of (s2 _ _ h1),ae (j:=2) rfl,rfl,_,γ ") = ",rfl,rfl,(),by rw[μ,μ,lcq,θ];omega,λg3 hg3=>?_⟩
 rw[kZ (m:=2) (c:=61) () (λz=>(gZ sU (λy hy=>by obtain⟨p,hp,rfl⟩:=Ω.mp hy;exact AW (df.pn p hp)) 61 z).2 rfl) Ev]
 have s3:=ac hg3 (.tup [.str (ύ (γ ", ") (ps.map cj)),.str (γ ") = "),.str (brT b)])
 have h3:upd H2 g3 (.tup [.str (ύ (γ ", ") (ps.map cj)),.str (γ ") = "),.str (brT b)]) g3=some _:=aa
 generalize upd H2 g3 (.tup [.str (ύ (γ ", ") (ps.map cj)),.str (γ ") = "),.str (brT b)])=H3 at s3 h3⊢
 have h23:=s3 _ _ h2
 have s03:=s1.trans (s2.trans s3)
 clear s1 s2 s3 h1 h2
 have ebr:γ "(" ++ ύ (γ ", ") (ps.map cj)++γ ")"=brT (.nd (γ "") (ps.map eh)):=by
  rw[brT,dG,Ψ,show(brT∘eh)=cj from funext vy,show γ ""=d_ from rfl,ϯ]
 have lbr:bl (.nd (γ "") (ps.map eh))<=1000000:=by
  unfold bl
  rw[<-ebr,μ,μ,lb3,lb4]
  omega
 refine gs hX λX hX=>⟨_,rfl,g3,_,0,_,rfl,rfl,SqT.of h3,ae (j:=0) rfl,_,_,rfl,rfl,by rw[lb3,θ];omega,_,_,rfl,rfl,by rw[μ,lb3,lb4,θ];omega,?_⟩
 rw[ebr]
 refine⟨.nd (γ "") (ps.map eh),rfl,?_,?_,lbr,λH4 v s4 R4=>?_⟩
 ·rw[bC]
  exact⟨(),by rw[δ];omega,kH λu hu=>by obtain⟨p,hp,rfl⟩:=Ω.mp hu;exact(rP (df.pn p hp)).1⟩
 ·rw[bu]
  have:=sw (n:=12) (bs:=ps.map eh) λu hu=>by obtain⟨p,hp,rfl⟩:=Ω.mp hu;exact(rP (df.pn p hp)).2
  omega
 rw[bE,gh,Ψ]at R4
 obtain⟨t,l,us,rfl,ht,hl,Rl⟩:=lU R4
 have lu:us.length=ps.length:=by have:=Rl.length;rwa[δ]at this
 refine⟨t,_,1,.ref l,rfl,rfl,SqT.of ht,ae (j:=1) rfl,gnm (hX _ _ ?_)⟩
 refine⟨_,rfl,g2,_,0,.str f',rfl,rfl,SqL.of (s4 _ _ h23),ae (j:=0) rfl,_,rfl,1,rfl,g2,_,rfl,SqL.of (s4 _ _ h23),λg4 hg4=>?_⟩
 rw[show bU ((f'::ns).map V.str) (some 1) none=ns.map V.str from bW _ 1]
 have s5:=ac hg4 (.lst (ns.map V.str))
 refine⟨g4,_,rfl,.inl ⟨SqL.of aa,λg5 hg5=>?_⟩⟩
 have s6:=ac hg5 (.tup (ns.map V.str))
 have h6:upd (upd H4 g4 (.lst (ns.map V.str))) g5 (.tup (ns.map V.str)) g5=some (.tup (ns.map V.str)):=aa
 have s46:=s5.trans s6
 generalize upd (upd H4 g4 (.lst (ns.map V.str))) g5 (.tup (ns.map V.str))=H6 at s46 h6⊢
 clear s5 s6
 refine⟨_,rfl,l,rfl,⟨us,SqL.of (s46 _ _ hl)⟩,dL (xs:=us) (λi ys H'=>ak H6 H'/\Reps H' ((ps.take i).map gk) ys) ⟨ak.refl _,by simp[Reps]⟩ (λi ys H' _ p=>SqL.of (p.1 _ _ (s46 _ _ hl))) ?L1 ?_⟩
 case L1=>
  rintro i ys H' x hx ⟨s',R'⟩
  obtain⟨p,hp,Rx⟩:=eE (f:=λp=>bE (eh p)) Rl hx
  have hi:i<us.length:=(ψ.mp hx).1
  refine aV ⟨_,rfl,x,p,rfl,Rx.mono (s46.trans s'),df.pn p (Ο hp),λH7 u s7 R7=>⟨?_,s'.trans s7,?_⟩⟩
  ·have:=R'.length;rw[δ,Υ]at this;rw[this,θ];omega
  ·rw[ϕ,hp,ς];exact Reps.append (R'.mono s7) (aQ R7)
 rintro ys H7 ⟨s7,R7⟩ g6 hg6
 rw[lu,ϒ]at R7
 have s8:=ac hg6 (.lst ys)
 refine⟨g6,ys,rfl,.inl ⟨SqL.of aa,λg7 hg7=>?_⟩⟩
 have s9:=ac hg7 (.tup ys)
 have h9:upd (upd H7 g6 (.lst ys)) g7 (.tup ys) g7=some (.tup ys):=aa
 have s69:=s7.trans (s8.trans s9)
 have R9:=R7.mono (s8.trans s9)
 generalize upd (upd H7 g6 (.lst ys)) g7 (.tup ys)=H9 at s69 h9 R9⊢
 have s09:=s03.trans (s4.trans (s46.trans s69))
 refine⟨_,rfl,g3,_,2,_,rfl,rfl,SqT.of (s69 _ _ (s46 _ _ (s4 _ _ h3))),ae (j:=2) rfl,_,e,rfl,⟨b,rfl,we.1,we.2⟩,λHA u sA RA=>⟨by rw[θ];show 5<=16777216;decide,λm hm=>?_⟩⟩
 have sB:=ac hm (.tup [.str (γ "def"),.str f',.ref g5,.ref g7,u])
 have s0B:=sA.trans sB
 refine q _ _ (s09.trans s0B) ?_
 rw[qR,Rep]
 refine⟨m,_,rfl,aa,?_⟩
 simp only[Reps]
 refine⟨_,_,rfl,by simp only[Rep],_,_,rfl,by simp only[Rep],_,_,rfl,?_,_,_,rfl,?_,_,_,rfl,RA.mono sB,rfl⟩
 ·rw[Rep];exact⟨g5,_,rfl,s0B _ _ (s69 _ _ h6),iO ns⟩
 ·rw[Rep];exact⟨g7,ys,rfl,s0B _ _ h9,R9.mono s0B⟩
theorem fG:am ["text"] ["text"] (af dN):=by trivial
theorem jQ{f:Addr}{fd:Θ}{k:Nat}(F:Fun K "row_of_text" "row_of_text" dN f fd)(T:Txt K mg)(Dexpression_of:Def P w K mg base k "expression_of" ["text"] (yT WE))(Ddef_of:Def P w K mg base k "def_of" ["text"] vh):av P w K mg base CX0 (k+1) f fd ["text"] (yT WR1):=by
 have nd:=fG.nd
 refine F.ok fG (λvs H Q E h=>?_) (λcdv A outer s H vs Q E hr h=>?_)
 ·obtain⟨x,d,rfl,_⟩:=h
  rfl
 obtain⟨x,d,rfl,hw,q⟩:=h
 refine⟨_,(@un _ _ _ (wbO (wbI (wbV (waj Κ B1 B2 nb (wv 0 rfl) (wae waV waf rfl) rfl rfl rfl rfl rfl) ()) (wbQ (wbK (waX (wae waV (wae (waq Dexpression_of hr rfl (wae (waT lH (wv 0 rfl) (wbA waC) wbz) waf rfl) () rfl rfl) waf rfl) rfl)))) wbP) (wbO (wbI (wbV (waj Κ B1 B2 nb (wv 0 rfl) (wae waV waf rfl) rfl rfl rfl rfl rfl) ()) (wbQ (wbK (waq Ddef_of hr rfl (wae (waT lH (wv 0 rfl) (wbA waC) wbz) waf rfl) () rfl rfl))) wbP) (wbQ (wbK waN))))),?_⟩
 dsimp only[bi,Cx.nox]
 rcases hw with ⟨e,b,rfl,rfl,we⟩|⟨f',ns,ps,e,b,rfl,rfl,df,we⟩
 ·have l3:=gO we
  refine aX λX hX=>en λY Z hY hZ=>⟨_,rfl,rfl,_,γ "ask ",rfl,rfl,_,rfl,?_⟩
  rw[kx]
  refine ax (hY _ ⟨_,rfl,4,rfl,_,rfl,by rw[μ,wO,θ];omega,?_⟩)
  rw[nk (by rw[wO];rfl)]
  refine⟨_,e,rfl,⟨b,rfl,we.1,we.2⟩,λH1 u s1 R1=>⟨z2,λm hm=>?_⟩⟩
  have s2:=ac hm (.tup [.str (γ "ask"),u])
  refine q _ _ (s1.trans s2) ?_
  rw[Rep]
  exact⟨m,_,rfl,aa,by simp only[Reps];exact⟨_,_,rfl,by simp only[Rep],_,_,rfl,R1.mono s2,rfl⟩⟩
 ·have lx:=WR1.len (.inr ⟨f',ns,ps,e,b,rfl,rfl,df,we⟩)
  rw[CM]at lx⊢
  refine aX λX hX=>en λY Z hY hZ=>⟨_,rfl,rfl,_,γ "ask ",rfl,rfl,_,rfl,?_⟩
  rw[wW () ()]
  refine aD (hZ _ (tnx (hX _ _ (aX λX hX=>en λY Z hY hZ=>⟨_,rfl,rfl,_,γ "def ",rfl,rfl,_,rfl,?_⟩))))
  rw[kx]
  refine ax (hY _ ⟨_,rfl,4,rfl,_,rfl,by rw[θ];omega,?_⟩)
  rw[nk ()]
  exact⟨f',ns,ps,e,b,rfl,df,we,q⟩
theorem vR:am ["program"] ["program"] (af tE):=by trivial
def yu:Sp:=λvs H Q _=>∃(a:Addr) (us:List V) (rs:List (Dv×Str)),vs=[.ref a]/\H a=some (.lst us)/\Reps H (rs.map (·.1)) us/\(∀r∈rs,WR1 r.1 r.2)/\rs.length<=12/\∀H',ak H H'->Q (.str (ύ (γ "\n") (rs.map (·.2)))) H'
theorem zH{f:Addr}{fd:Θ}{k:Nat}(F:Fun K "show" "show" tE f fd)(T:Txt K mg)(Dshow_row:Def P w K mg base k "show_row" ["row"] (Bu WR1)):av P w K mg base CX0 (k+1) f fd ["program"] yu:=by
 have nd:=vR.nd
 refine F.ok vR (λvs H Q E h=>?_) (λcdv A outer s H vs Q E hr h=>?_)
 ·obtain⟨a,us,rs,rfl,_⟩:=h
  rfl
 obtain⟨a,us,rs,rfl,ha,R,hw,l12,q⟩:=h
 refine⟨_,(@un _ _ _ (wbQ (wbK (waj Κ Ϫ ϫ cz waV (wae (waE ["row"] [] (wbi (wv 0 rfl)) (.of rfl) rfl (λ_ _ _=>⟨pg_name (i:=0) (bc (l:=["row"]) (()) rfl) rfl (υ rfl)⟩) (aW ()) (λ_ _ _=>wbx) (λ_ _ _=>(waq Dshow_row hr rfl (wae (wv 0 rfl) waf rfl) () rfl rfl)) ()) waf rfl) rfl rfl rfl rfl rfl)))),?_⟩
 dsimp only[bi,Cx.nox]
 have lu:us.length=rs.length:=by have:=R.length;rwa[δ]at this
 refine⟨rfl,_,rfl,a,rfl,⟨us,SqL.of ha⟩,dL (xs:=us) (λi ys H'=>ak H H'/\ys=((rs.take i).map (·.2)).map V.str) ⟨ak.refl _,rfl⟩ (λi ys H' _ p=>SqL.of (p.1 _ _ ha)) ?L1 ?_⟩
 case L1=>
  rintro i ys H' x hx ⟨s',rfl⟩
  obtain⟨r,hr',Rx⟩:=eE (f:=λr:Dv×Str=>r.1) R hx
  have hi:i<us.length:=(ψ.mp hx).1
  refine aV ⟨_,rfl,x,r.2,r.1,rfl,Rx.mono s',hw r (Ο hr'),λH5 s5=>⟨?_,s'.trans s5,?_⟩⟩
  ·rw[δ,δ,Υ,θ];omega
  ·rw[ϕ,hr',ς,ς];rfl
 rintro ys H4 ⟨s4,rfl⟩ l hl
 rw[lu,ϒ]
 have s5:=s4.trans (ac hl (.lst ((rs.map (·.2)).map V.str)))
 have lb:=cv (B:=600000) (ys:=rs.map (·.2)) λy hy=>by obtain⟨r,hr',rfl⟩:=Ω.mp hy;exact(hw r hr').len
 rw[δ]at lb
 refine⟨_,l,rs.map (·.2),rfl,rfl,SqL.of aa,by rw[δ,show(γ "\n").length=1 by decide +kernel];omega,?_⟩
 rw[tj]
 exact q _ s5
abbrev gu:Stmt:=top 67
abbrev uy:Stmt:=top 68
theorem zb{d:Dv}{x:Str}(h:WR1 d x):im d=true/\d.small=true:=by
 rcases h with ⟨e,b,rfl,rfl,we⟩|⟨f,ns,ps,e,b,rfl,rfl,df,we⟩
 ·exact⟨by show im (.tup [.str "ask",e])=true;rw[uU];exact Q9 we.2,bA () (λd hd=>by rw[ξ.mp hd];exact(bT we.1).2) (by show 1<=10;decide)⟩
 ·have p4:=df.p4
  have n4:=df.l4
  have kS:∀p∈ps,p.2.All SL:=λp hp=>bq (λ_ _ h=>h.2) (df.pn p hp).sm
  constructor
  ·show im (.tup [.str "def",.str f,.tup (ns.map Dv.str),.tup (ps.map gk),e])=true
   have h0:jx (.str f)=true:=by
    show(nmB f&&(!cp f && !bX f))=true
    rw[df.nf,df.wf,df.rf];rfl
   have h1:gv (.tup (ns.map Dv.str))=true:=by
    show(eW 0 (.tup (ns.map Dv.str))&&(ns.map Dv.str).all bG)=true
    rw[oo () (by rw[δ];omega),ϧ,C4,ϭ]
    exactλy hy=>df.nn y hy
   have h2:eD (.tup (ps.map gk))=true:=by
    show(eW 0 (.tup (ps.map gk))&&(ps.map gk).all fk)=true
    rw[oo () (by rw[δ];omega),ϧ,C4,ϭ]
    intro p hp
    show(nmB p.1&&decide (aK p.2.dv<=12))=true
    rw[(df.pn p hp).nm,gX (kS p hp),Q9 (df.pn p hp).sz];rfl
   rw[vx,h0,h1,h2]
   exact Q9 we.2
  ·refine bA () (λd hd=>?_) (by show 4<=10;decide)
   rcases ν.mp hd with rfl|hd
   ·exact dW df.nf
   rcases ν.mp hd with rfl|hd
   ·exact bY (λd hd=>by obtain⟨y,hy,rfl⟩:=Ω.mp hd;exact dW (df.nn y hy)) (by rw[δ];omega)
   rcases ν.mp hd with rfl|hd
   ·refine bY (λd hd=>?_) (by rw[δ];omega)
    obtain⟨p,hp,rfl⟩:=Ω.mp hd
    exact bA (df.pn p hp).nm (λd hd=>by rw[ξ.mp hd];exact fO (kS p hp)) (by show 1<=10;decide)
   ·rw[ξ.mp hd];exact(bT we.1).2
theorem BW(vs:List V)(H:Hp)(Q:VK)(E:XK)(h:CQ WR1 vs H Q E):spS im vs H Q E:=by
 obtain⟨v,x,d,rfl,R,hw,q⟩:=h
 obtain⟨h1,h2⟩:=zb hw
 refine⟨v,d,rfl,R,h2,λH' s=>?_⟩
 rw[h1]
 exact q H' s
theorem As{k:Nat}{ix:List Nat}{g:TG}{tt:TT}{te:TE}{σ:St}{H1:Hp}{Q:List V->Hp->Prop}{K:ε}{a:Addr}{xs:List V}(Pv:Nat->List V->Hp->Prop)(h0:Pv 0 [] H1)(hl:∀i zs H,Pv i zs H->SqL K H a xs)
  (hs:∀i zs H x p,xs[i]?=some x->Pv i zs H->H p=none->cO k ix g tt te σ (.ref p) zs (upd H p (.tup [.int i,x])) (Pv (i+1))) (hd:∀zs H,Pv xs.length zs H->Q zs H):rLC (Ite K a) k ix g tt te σ H1 Q:=by
 refine jN (n:=xs.length) Pv h0 (λi zs H h p=>?_) (λzs H p=>?_) (λi zs H x H' h p y=>?_) hd
 ·exact⟨xs,xs[i],hl i zs H p,by simp[h]⟩
 ·exact⟨xs,hl _ zs H p,π _⟩
 ·obtain⟨c,x',hb,e1,e2,hx⟩:=y
  subst e1 e2
  exact hs i zs H x' c (hx xs (hl i zs H p)) p hb
def mO:Sp:=λvs H Q _=>∃(x:Str) (d:Dv) (n:Int),vs=[.str x,.int n]/\WR1 d x/\∀H' v,ak H H'->Rep H' d v->Q v H'
def yX:Sp:=λvs H Q _=>∃rs:List (Dv×Str),vs=[.str (ύ (γ "\n") (rs.map (·.2)))]/\(∀r∈rs,WR1 r.1 r.2)/\rs.length<=12/\∀(H':Hp)(l:Addr)(us:List V),ak H H'->H l=none->H' l=some (.lst us)->Reps H' (rs.map (·.1)) us->Q (.ref l) H'
theorem qh:am ["text","number"] ["text","number"] (af gu):=by trivial
theorem pM{f frow_of_text fis_row fshow_row:Addr}{fd:Θ}{k0:Nat}(F:Fun K "read_row" "read_row" gu f fd)(T:Txt K mg)(Djust_so:Def P w K mg base k0 "just_so" ["text","reader","is_one","shower","place"] (xF frow_of_text fis_row fshow_row WR1))(Grow_of_text:mg "row_of_text"=some (.ref frow_of_text))(Gis_row:mg "is_row"=some (.ref fis_row))(Gshow_row:mg "show_row"=some (.ref fshow_row)):av P w K mg base CX0 (k0+1) f fd ["text","number"] mO:=by
 refine F.ok qh (λvs H Q E h=>?_) (λcdv A outer s H vs Q E hr h=>?_)
 ·obtain⟨x,d,n,rfl,_⟩:=h
  rfl
 obtain⟨x,d,n,rfl,hw,q⟩:=h
 refine⟨_,(@un _ _ _ (wbQ (wbK (waq Djust_so hr rfl (wae (wv 0 rfl) (wae (waB (.ref frow_of_text) rfl Grow_of_text rfl ()) (wae (waB (.ref fis_row) rfl Gis_row rfl ()) (wae (waB (.ref fshow_row) rfl Gshow_row rfl ()) (wae (waX (wae (wv 1 rfl) (wae waC waf rfl) rfl)) waf rfl) rfl) rfl) rfl) rfl) () rfl rfl)))),?_⟩
 exact⟨_,rfl,_,rfl,z2,λt ht=>⟨x,d,.ref t,rfl,hw,λH1 v s1 R1=>q H1 v ((ac ht _).trans s1) R1⟩⟩
theorem vn:am ["text","rows"] ["text"] (af uy):=by trivial
theorem Ax{f:Addr}{fd:Θ}{k:Nat}(F:Fun K "read" "read" uy f fd)(T:Txt K mg)(Dread_row:Def P w K mg base k "read_row" ["text","number"] mO):av P w K mg base CX0 (k+1) f fd ["text"] yX:=by
 have nd:=vn.nd
 refine F.ok vn (λvs H Q E h=>?_) (λcdv A outer s H vs Q E hr h=>?_)
 ·obtain⟨rs,rfl,_⟩:=h
  rfl
 obtain⟨rs,rfl,hw,l12,q⟩:=h
 refine⟨_,(@un _ _ _ (wbO (wbI (wbT (wbV (wal aY rfl T.isinstance () (wae (wv 0 rfl) (wae (wai (.ty "str") rfl T.str () rfl () ()) waf rfl) rfl) () () rfl rfl) ())) (wbQ wad) wbP) (wbO (wbI (wbS aw (wv 0 rfl) waV (ai _)) (wbQ (wbK (waM waf))) wbP) (wbO (wbM 1 nd rfl (υ rfl) (waj Κ g_ h_ cZ (wv 0 rfl) (wae waV waf rfl) rfl rfl rfl rfl rfl) rfl ()) (wbO (wbI (wbS eR (wal ar rfl T.len () (wae (wv 1 rfl) waf rfl) () () rfl rfl) ⟨T.g_MOST_ROWS rfl⟩ (ai _)) (wbQ wad) wbP) (wbQ (wbK (waE (["number","row"]) [] (wbg rfl T.enumerate (wae (wv 1 rfl) waf rfl) rfl) (.of rfl) rfl (λ_ _ _=>⟨pg_tup rfl (pgs_cons (pg_name (i:=0) (bc (l:=["number","row"]) (()) rfl) rfl (υ rfl)) (pgs_cons (pg_name (i:=1) (bc (l:=["number","row"]) (()) rfl) rfl (υ rfl)) pgs_nil))⟩) (gx () ()) (λ_ _ _=>wbx) (λ_ _ _=>(waq Dread_row hr rfl (wae (wv 1 rfl) (wae (wv 0 rfl) waf rfl) rfl) () rfl rfl)) ())))))))),?_⟩
 dsimp only[bi,Cx.nox]
 have lt:=cf (γ "\n") (rs.map (·.2))
 have lb:=cv (B:=600000) (ys:=rs.map (·.2)) λy hy=>by obtain⟨r,hr',rfl⟩:=Ω.mp hy;exact(hw r hr').len
 rw[δ]at lt lb
 rw[show(γ "\n").length=1 by decide +kernel]at lt
 refine aX λX hX=>en λY Z hY hZ=>⟨_,rfl,_,_,_,_,rfl,dS.str _,ga K (.str (ύ (γ "\n") (rs.map (·.2)))),_,rfl,?_⟩
 rw[BG]
 refine aD (hZ _ (tnx (hX _ _ (aX λX hX=>en λY Z hY hZ=>⟨_,rfl,rfl,_,rfl,?_⟩))))
 by_cases e:rs=[]
 ·subst e
  exact ap (λ_=>hY _ ⟨ϊ _,λl hl=>q _ l [] (ac hl _) hl aa (by simp[Reps])⟩) (λh=>absurd (Q9 rfl) h)
 have e':rs.map (·.2)≠[]:=λz=>e (List.map_eq_nil_iff.mp z)
 have ne:ύ (γ "\n") (rs.map (·.2))≠γ "":=λz=>by
  obtain⟨r,rs',rfl⟩:∃r rs',rs=r::rs':=by cases rs with|nil=>exact absurd rfl e|cons r rs'=>exact⟨r,rs',rfl⟩
  have h1:=pC (γ "\n") ((r::rs').map (·.2))
  rw[z,show(γ "").length=0 by decide +kernel,Χ,Χ,j7]at h1
  have h2:=(yx (hw r ο)).2
  omega
 refine ap (λh=>absurd (V.str.inj (Q7 h)) ne) (λ_=>hZ _ (tnx (hX _ _ (aX λX hX=>?_))))
 have esp:Txt.split (ύ (γ "\n") (rs.map (·.2))) (γ "\n")=rs.map (·.2):=dC 10 e' λy hy z=>by obtain⟨r,hr',rfl⟩:=Ω.mp hy;exact(yx (hw r hr')).1 z
 refine⟨_,rfl,rfl,_,γ "\n",rfl,rfl,(),by rw[θ];omega,by rw[esp,δ,θ];omega,λg hg=>?_⟩
 rw[esp]
 have s1:=ac hg (.lst ((rs.map (·.2)).map V.str))
 have h1:upd H g (.lst ((rs.map (·.2)).map V.str)) g=some (.lst ((rs.map (·.2)).map V.str)):=aa
 generalize upd H g (.lst ((rs.map (·.2)).map V.str))=H1 at s1 h1⊢
 refine gs hX λX hX=>en λY Z hY hZ=>⟨_,rfl,g,_,rfl,.inl (SqL.of h1),_,_,rfl,rfl,_,rfl,ap (λh=>?_) (λ_=>hZ _ (tnx (hX _ _ ?_)))⟩
 ·have:(12:Int)<(((rs.map (·.2)).map V.str).length:Int):=Q7 h
  rw[δ,δ]at this
  omega
 refine⟨_,rfl,g,rfl,⟨_,SqL.of h1⟩,As (xs:=(rs.map (·.2)).map V.str) (λi ys H'=>ak H1 H'/\Reps H' ((rs.take i).map (·.1)) ys) ⟨ak.refl _,by simp[Reps]⟩ (λi ys H' p=>SqL.of (p.1 _ _ h1)) ?_ ?_⟩
 ·rintro i ys H' x p hx ⟨s',R'⟩ hp
  rw[Ν,Ν]at hx
  obtain⟨z,hz,rfl⟩:=ϖ.mp hx
  obtain⟨r,hr',rfl⟩:=ϖ.mp hz
  have hi:=(ψ.mp hr').1
  have s2:=ac hp (.tup [.int i,.str r.2])
  refine dj aa ⟨_,rfl,_,rfl,r.2,r.1,i,rfl,hw r (Ο hr'),λH5 v s5 R5=>⟨?_,s'.trans (s2.trans s5),?_⟩⟩
  ·have:=R'.length;rw[δ,Υ]at this;rw[this,θ];omega
  ·rw[ϕ,hr',ς];exact Reps.append (R'.mono (s2.trans s5)) (aQ R5)
 ·rintro ys H4 ⟨s4,R4⟩ l hl
  rw[δ,δ,ϒ]at R4
  have s5:=ac hl (.lst ys)
  exact q _ l ys (s1.trans (s4.trans s5)) ((s1.trans s4).free hl) aa (R4.mono s5)
abbrev yI:Stmt:=top 83
def yw(K:ε):Sp:=λvs H Q _=>∃(wk g r1 r2 sc:Addr) (ns:List Int) (i m:Int) (xs ys:List Str),vs=[.ref wk,.ref g]/\Wk K H wk sc ns i m/\i+41<10^14/\ns.length<10^15/\Wo H g r1 r2 xs ys /\
 ∀(H':Hp)(v:V)(d:Dv)(x:Str)(i':Int),aq wk H H'->Wk K H' wk sc ns i' m->i<=i'->i'<=i+41->Rep H' (.tup [d,.str x]) v->WR1 d x->Q v H'
theorem tQ{xs:List Str}{i:Int}(h0:0<=i)(h1:i<xs.length):∃y,y∈xs/\atI (xs.map V.str) i=some (.str y):=by
 have hi:i.toNat<xs.length:=by omega
 refine⟨xs[i.toNat],j5 hi,?_⟩
 have e:=ae (xs:=xs.map V.str) (j:=i.toNat) (v:=.str xs[i.toNat]) (by rw[Ν,Α hi];rfl)
 rwa[show((i.toNat:Nat):Int)=i by omega]at e
theorem sM{p:Prm}(h:p.2.size<=12):L2.Pl 17 (gk p):=(L2.Pl.tup (n:=16) λd hd=>by
 rcases ν.mp hd with rfl|hd
 ·exact .str
 ·rw[ξ.mp hd];exact p.2.pl.up ())
structure Kq(LP LT LN:Addr)(e:Dv)(vo:V)(ns:List Str)(ps:List Prm)(us:List V)(H:Hp):Prop where
 re:Rep H e vo
 hn:H LN=some (.lst (ns.map V.str))
 hp:H LP=some (.lst us)
 rp:Reps H (ps.map gk) us
 ht:H LT=some (.lst ((ps.map cj).map V.str))
 ok:∀p∈ps,mi p
 pe:L2.Pl 25 e
section
variable{LP LT LN a:Addr}{e:Dv}{vo:V}{ns:List Str}{ps:List Prm}{us:List V}{H H':Hp}
theorem Kq.m(k:Kq LP LT LN e vo ns ps us H)(s:ak H H'):Kq LP LT LN e vo ns ps us H':=⟨k.re.mono s,s _ _ k.hn,s _ _ k.hp,k.rp.mono s,s _ _ k.ht,k.ok,k.pe⟩
theorem Kq.rb(k:Kq LP LT LN e vo ns ps us H)(t:mj H H'):Rep H' e vo/\Reps H' (ps.map gk) us:=⟨aT t k.pe k.re,bt (λd hd v r=>by obtain⟨p,hp,rfl⟩:=Ω.mp hd;exact aT t (sM (k.ok p hp).sz) r) k.rp⟩
theorem Kq.b(k:Kq LP LT LN e vo ns ps us H)(s:aq a H H')(t:mj H H')(n1:LP≠a)(n2:LT≠a)(n3:LN≠a):Kq LP LT LN e vo ns ps us H':=⟨(k.rb t).1,s _ _ n3 k.hn,s _ _ n1 k.hp,(k.rb t).2,s _ _ n2 k.ht,k.ok,k.pe⟩
end
theorem yK:am ["_law_walk","_law_world_here","_law_node","_law_way","_law_one","_law_text","_law_nodes","_law_f","_law_names_here","_law_params","_law_words","_law_k","_law_name","_law_kind_here","_law_head"] ["_law_walk","_law_world_here"] (af yI):=by trivial
theorem BY{f:Addr}{fd:Θ}{k:Nat}(F:Fun K "_law_row" "_law_row" yI f fd)(T:Txt K mg)(D_law_next:Def P w K mg base k "_law_next" ["_law_walk"] (yd K))(D_law_draw:Def P w K mg base k "_law_draw" ["_law_state_here","_law_many"] dQ)(D_law_kind:Def P w K mg base k "_law_kind" ["_law_state_here","_law_names_here","_law_room"] (jM 12))(D_law_kind_text:Def P w K mg base k "_law_kind_text" ["_law_kind_here"] (gp 12))(D_law_expression:Def P w K mg base k "_law_expression" ["_law_walk","_law_world_here","_law_room","_law_budget"] (Ai K 8)):av P w K mg base CX0 (k+1) f fd ["_law_walk","_law_world_here"] (yw K):=by
 have nd:=yK.nd
 refine F.ok yK (λvs H Q E h=>?_) (λcdv A outer s H vs Q E hr h=>?_)
 ·obtain⟨wk,g,r1,r2,sc,ns,i,m,xs,ys,rfl,_⟩:=h
  rfl
 obtain⟨wk,g,r1,r2,sc,ns,i,m,xs,ys,rfl,⟨hk0,hsc,i0,i15⟩,i14,ln,wo,q⟩:=h
 have nwo:=wo.nw hk0
 refine⟨_,(@un _ _ _ (wbO (wbM 2 nd rfl (C8 rfl) (waq D_law_next hr rfl (wae (wv 0 rfl) waf rfl) () rfl rfl) rfl ()) (wbO (wbM 3 nd rfl (υ rfl) (waq D_law_draw hr rfl (wae (wv 2 rfl) (wae waC waf rfl) rfl) () rfl rfl) rfl ()) (wbO (wbD (waq D_law_expression hr rfl (wae (wv 0 rfl) (wae (wv 1 rfl) (wae waC (wae (waD aE (waM (wae waC (wae waC (wae waC waf rfl) rfl) rfl)) (waq D_law_draw hr rfl (wae (wv 2 rfl) (wae waC waf rfl) rfl) () rfl rfl) (λ_ _=>rfl)) waf rfl) rfl) rfl) rfl) () rfl rfl) (wbb rfl (wbd (waZ 4 nd rfl (υ rfl) ()) (wbd (waZ 5 nd rfl (υ rfl) ()) (wbd (waZ 6 nd rfl (υ rfl) ()) wbe rfl) rfl) rfl) rfl rfl) rfl rfl rfl) (wbO (wbI (wbS aw (wv 3 rfl) waC (ai _)) (wbQ (wbK (waX (wae (waX (wae waV (wae (wv 4 rfl) waf rfl) rfl)) (wae (waQ au waV (wv 5 rfl)) waf rfl) rfl)))) wbP) (wbO (wbM 7 nd rfl (υ rfl) (waD aE (waD aj (wv 1 rfl) waC (λ_ _=>rfl)) (waq D_law_draw hr rfl (wae (wv 2 rfl) (wae (wal ar rfl T.len () (wae (waD aj (wv 1 rfl) waC (λ_ _=>rfl)) waf rfl) () () rfl rfl) waf rfl) rfl) () rfl rfl) (λ_ _=>rfl)) rfl ()) (wbO (wbJ ["_law_k"] ([1,2]) 8 nd rfl rfl (wbk rfl T.range (wae (waq D_law_draw hr rfl (wae (wv 2 rfl) (wae waC waf rfl) rfl) () rfl rfl) waf rfl) rfl) (.of rfl) rfl (λ_ _ _=>⟨pg_name (i:=0) (bc (l:=["_law_k","_law_world_here","_law_node"]) (()) rfl) rfl (υ rfl)⟩) (aW ()) (λ_ _ _=>wbx) (λ_ _ _=>(waD (jI K rfl) (waD (zy K rfl) (wv 1 rfl) waC (λ_ _=>rfl)) (waq D_law_draw hr rfl (wae (wv 2 rfl) (wae waC waf rfl) rfl) () rfl rfl) (λ_ _=>rfl))) rfl ()) (wbO (wbM 9 nd rfl (υ rfl) (waM waf) rfl ()) (wbO (wbM 10 nd rfl (υ rfl) (waM waf) rfl ()) (wbO (wbH Ϯ rfl (wbk rfl T.range (wae (waq D_law_draw hr rfl (wae (wv 2 rfl) (wae waC waf rfl) rfl) () rfl rfl) waf rfl) rfl) (waZ 11 nd rfl (υ rfl) ()) (wbO (wbM 12 nd rfl (υ rfl) (waD aE (waD aj (wv 1 rfl) waC (λ_ _=>rfl)) (waq D_law_draw hr rfl (wae (wv 2 rfl) (wae waC waf rfl) rfl) () rfl rfl) (λ_ _=>rfl)) rfl ()) (wbO (wbM 13 nd rfl (υ rfl) (waq D_law_kind hr rfl (wae (wv 2 rfl) (wae (waT cX (waD aj (wv 1 rfl) waC (λ_ _=>rfl)) wbz (wbA waC)) (wae waC waf rfl) rfl) rfl) () rfl rfl) rfl ()) (wbO (wbG (waj Φ ϐ ϑ aZ (wv 9 rfl) (wae (waX (wae (wv 12 rfl) (wae (wv 13 rfl) waf rfl) rfl)) waf rfl) rfl rfl rfl rfl rfl) rfl) (wbQ (wbG (waj Φ ϐ ϑ aZ (wv 10 rfl) (wae (waQ au (waQ au (wv 12 rfl) waV) (waq D_law_kind_text hr rfl (wae (wv 13 rfl) waf rfl) () rfl rfl)) waf rfl) rfl rfl rfl rfl rfl) rfl))))) ()) (wbO (wbM 14 nd rfl (υ rfl) (waQ au (waQ au (waQ au (waj Κ Ϫ ϫ cz waV (wae (waQ gC (waM (wae waV (wae (wv 7 rfl) waf rfl) rfl)) (wv 8 rfl)) waf rfl) rfl rfl rfl rfl rfl) waV) (waj Κ Ϫ ϫ cz waV (wae (wv 10 rfl) waf rfl) rfl rfl rfl rfl rfl)) waV) rfl ()) (wbQ (wbK (waX (wae (waX (wae waV (wae (wv 7 rfl) (wae (wam ay rfl T.tuple () (wae (wv 8 rfl) waf rfl) () () rfl rfl) (wae (wam ay rfl T.tuple () (wae (wv 9 rfl) waf rfl) () () rfl rfl) (wae (wv 4 rfl) waf rfl) rfl) rfl) rfl) rfl)) (wae (waQ au (wv 14 rfl) (wv 5 rfl)) waf rfl) rfl))))))))))))))),?_⟩
 dsimp only[bi,Cx.nox]
 refine aX λX hX=>⟨_,rfl,wk,sc,ns,i,m,rfl,⟨hk0,hsc,i0,i15⟩,ln,λH1 nd s1 hk1 fnd st1=>gs hX λX hX=>?_⟩
 have nw:nd≠wk:=λz=>by rw[z,hk0]at fnd;cases fnd
 have c1:Cur H H1 wk sc nd (i+1) m:=⟨s1,hk1,st1⟩
 have woC:∀{H':Hp}{j:Int},Cur H H' wk sc nd j m->Wo H' g r1 r2 xs ys:=λc=>wo.b nwo c.sb
 have wkC:∀{H':Hp}{j:Int},Cur H H' wk sc nd j m->0<=j->j<10^15->Wk K H' wk sc ns j m:=λc h0 h1=>⟨c.hk,λ_ s=>hsc _ (c.sb.trans s),h0,h1⟩
 refine⟨_,rfl,nd,3,rfl,c1.st,(),(),λH2 way s2 st2 _ _=>gs hX λX hX=>?_⟩
 have c2:=c1.d s2 st2 nw fnd
 refine⟨_,rfl,_,rfl,z3,λl0 hl0=>⟨_,rfl,nd,3,rfl,(c2.m (ac hl0 _)).st,(),(),λH3 x s3 st3 x0 x1=>?_⟩⟩
 have c3:=(c2.m (ac hl0 _)).d s3 st3 nw fnd
 have nl0:l0≠nd:=λz=>by obtain⟨_,_,e'⟩:=c2.st;rw[z,e']at hl0;cases hl0
 obtain⟨bud,hb,b1,b2⟩:∃bud:Nat,atI [V.int 40,V.int 40,V.int 9] x=some (.int bud)/\1<=bud/\bud<=40:=by
  have:x=0\/x=1\/x=2:=by omega
  rcases this with rfl|rfl|rfl
  ·exact⟨40,rfl,(),()⟩
  ·exact⟨40,rfl,(),()⟩
  ·exact⟨9,rfl,(),()⟩
 refine⟨l0,_,x,.int bud,rfl,rfl,SqL.of (s3 _ _ nl0 aa),hb,wk,g,r1,r2,sc,ns,i+1,m,xs,ys,8,bud,rfl,wkC c3 () (),(),ln,woC c3,(),(),(),b1,b2,λH4 v d b c s4 w4 R4 wx ex cl cu=>?_⟩
 obtain⟨t,vt,rfl,ht,Rt⟩:=Rep.tup_inv R4
 simp only[Reps]at Rt
 obtain⟨w1,_,rfl,e1,w2,_,rfl,e2,w3,_,rfl,e3,rfl⟩:=Rt
 simp only[Rep]at e2 e3
 subst e2;subst e3
 have c4:Cur H H4 wk sc nd (i+1+c) m:=c3.e s4 w4.1 nw
 have we:WEb d b:=⟨wx,()⟩
 have lE:=gO we
 clear R4 c1 c2 c3 s4 w4 s3 s2 s1 hk1 st1 st2 st3 hb hl0
 refine⟨t,_,rfl,SqT.of ht,rfl,_,_,rfl,_,_,rfl,_,_,rfl,rfl,hX _ _ (aX λX hX=>?_)⟩
 have fin:∀{H':Hp}{v:V}{d':Dv}{x:Str},Cur H H' wk sc nd (i+1+c) m->Rep H' (.tup [d',.str x]) v->WR1 d' x->Q v H':=λcc R w=>q _ _ _ _ (i+1+c) cc.sb (wkC cc () ()) () () R w
 refine en λY Z hY hZ=>⟨_,rfl,rfl,_,rfl,ap (λ_=>hY _ ?_) (λ_=>hZ _ (tnx (hX _ _ (aX λX hX=>?_))))⟩
 ·refine⟨_,rfl,z2,λt1 ht1=>⟨_,rfl,_,_,rfl,rfl,by rw[wO,θ];omega,z2,λt2 ht2=>?_⟩⟩
  have s5:=ac ht1 (.tup [.str (γ "ask"),w1])
  have h5:upd H4 t1 (.tup [.str (γ "ask"),w1]) t1=some (.tup [.str (γ "ask"),w1]):=aa
  generalize upd H4 t1 (.tup [.str (γ "ask"),w1])=H5 at s5 h5 ht2⊢
  have s6:=ac ht2 (.tup [.ref t1,.str (γ "ask " ++ brT b)])
  refine fin (c4.m (s5.trans s6)) ?_ (.inl ⟨d,b,rfl,rfl,we⟩)
  rw[Rep]
  refine⟨t2,_,rfl,aa,?_⟩
  simp only[Reps]
  refine⟨_,_,rfl,?_,_,_,rfl,by simp only[Rep],rfl⟩
  rw[Rep]
  exact⟨t1,_,rfl,s6 _ _ h5,by simp only[Reps];exact⟨_,_,rfl,by simp only[Rep],_,_,rfl,e1.mono (s5.trans s6),rfl⟩⟩
 have wo4:=woC c4
 have n4:=wo4.ne c4.st
 have ly:=wo.l2
 refine⟨_,rfl,g,_,1,.ref r2,rfl,rfl,SqT.of wo4.hg,ae (j:=1) rfl,_,rfl,_,rfl,g,_,1,.ref r2,rfl,rfl,SqT.of wo4.hg,ae (j:=1) rfl,r2,_,rfl,.inl (SqL.of wo4.h2),nd,_,rfl,c4.st,by rw[δ];omega,by rw[δ];omega,λH5 x5 s5 st5 x50 x51=>?_⟩
 rw[δ]at x51
 obtain⟨y,hy,hat⟩:=tQ x50 x51
 obtain⟨y1,y2,y3⟩:=wo.n2 y hy
 refine⟨r2,_,x5,.str y,rfl,rfl,SqL.of (s5 _ _ n4.2.2 wo4.h2),hat,gs hX λX hX=>?_⟩
 have c5:=c4.d s5 st5 nw fnd
 have pe:=kg wx
 have R5:=aT (c4.st.tups s5) pe e1
 clear c4 e1 s5 st5 wo4 n4 hat hY hZ
 refine⟨_,rfl,nd,5,rfl,c5.st,(),(),λH6 n6 s6 st6 n60 n61=>⟨n6,rfl,(),(),kK (n:=n6.toNat) (λj zs H'=>Cur H H' wk sc nd (i+1+c) m/\Rep H' d w1/\∃nms:List Str,zs=nms.map V.str/\nms.length=j/\∀z∈nms,nmB z=true) ⟨c5.d s6 st6 nw fnd,aT (c5.st.tups s6) pe R5,[],rfl,rfl,nofun⟩ ?_ ?_⟩⟩
 ·rintro j zs H' hj ⟨c',R',nms,rfl,lj,hn⟩
  have wo':=woC c'
  have n':=wo'.ne c'.st
  refine aV ⟨_,rfl,g,_,0,.ref r1,rfl,rfl,SqT.of wo'.hg,ae (j:=0) rfl,_,rfl,nd,12,rfl,c'.st,(),(),λH8 x8 s8 st8 x80 x81=>?_⟩
  obtain⟨z,hz,hat⟩:=tQ (xs:=xs) x80 (by rw[wo.l1];exact x81)
  refine⟨r1,_,x8,.str z,rfl,rfl,SqL.of (s8 _ _ n'.2.1 wo'.h1),hat,by rw[δ,θ];omega,c'.d s8 st8 nw fnd,aT (c'.st.tups s8) pe R',nms++[z],by rw[ς];rfl,by rw[Η,lj];rfl,λz' hz'=>?_⟩
  rcases Τ.mp hz' with h|h
  ·exact hn z' h
  ·rw[ξ.mp h];exact wo.n1 z hz
 rintro zs H7 ⟨c7,R7,nms,rfl,lj,hn⟩ LN hLN
 have nN:LN≠wk:=λz=>by rw[z,c7.hk]at hLN;cases hLN
 have nNd:LN≠nd:=λz=>by obtain⟨_,_,e'⟩:=c7.st;rw[z,e']at hLN;cases hLN
 have fN:H LN=none:=wy c7.sb hLN nN
 have c8:=c7.m (ac hLN (.lst (nms.map V.str)))
 have h8:upd H7 LN (.lst (nms.map V.str)) LN=some (.lst (nms.map V.str)):=aa
 have R8:=R7.mono (ac hLN (.lst (nms.map V.str)))
 generalize upd H7 LN (.lst (nms.map V.str))=H8 at c8 h8 R8⊢
 refine gs hX λX hX=>⟨ϊ _,λLP hLP=>gs hX λX hX=>⟨ϊ _,λLT hLT=>gs hX λX hX=>?_⟩⟩
 have nP:LP≠wk:=λz=>by rw[z,c8.hk]at hLP;cases hLP
 have nPd:LP≠nd:=λz=>by obtain⟨_,_,e'⟩:=c8.st;rw[z,e']at hLP;cases hLP
 have nPN:LP≠LN:=λz=>by rw[z,h8]at hLP;cases hLP
 have fP:H LP=none:=wy c8.sb hLP nP
 have s9:=ac hLP (.lst [])
 have c9:=c8.m s9
 have h9:=s9 _ _ h8
 have p9:upd H8 LP (.lst []) LP=some (.lst []):=aa
 have R9:=R8.mono s9
 generalize upd H8 LP (.lst [])=H9 at c9 h9 p9 R9 hLT⊢
 have nT:LT≠wk:=λz=>by rw[z,c9.hk]at hLT;cases hLT
 have nTd:LT≠nd:=λz=>by obtain⟨_,_,e'⟩:=c9.st;rw[z,e']at hLT;cases hLT
 have nTN:LT≠LN:=λz=>by rw[z,h9]at hLT;cases hLT
 have nTP:LT≠LP:=λz=>by rw[z,p9]at hLT;cases hLT
 have fT:H LT=none:=wy c9.sb hLT nT
 have sA:=ac hLT (.lst [])
 have cA:=c9.m sA
 have kA:Kq LP LT LN d w1 nms [] [] (upd H9 LT (.lst [])):=⟨R9.mono sA,sA _ _ h9,sA _ _ p9,by simp[Reps],aa,nofun,pe⟩
 generalize upd H9 LT (.lst [])=HA at cA kA⊢
 clear c5 c7 c8 c9 R5 R7 R8 R9 h8 h9 p9 hLN hLP hLT s6 st6 s9 sA
 refine⟨_,rfl,nd,5,rfl,cA.st,(),(),λHB nB sB stB nB0 nB1=>⟨nB,rfl,(),(),jg (n:=nB.toNat) (λj σ H'=>∃(o11 o12 o13:Option V) (us:List V) (ps:List Prm),σ=[some (.ref wk),some (.ref g),some (.ref nd),some (.int way),some w1,some (.str (brT b)),some (.int c),some (.str y),some (.ref LN),some (.ref LP),some (.ref LT),o11,o12,o13,none]/\Cur H H' wk sc nd (i+1+c) m/\Kq LP LT LN d w1 nms ps us H'/\ps.length=j)
  ⟨_,_,_,[],[],rfl,cA.d sB stB nw fnd,kA.b sB (cA.st.tups sB) nPd nTd nNd,rfl⟩ ?T1 ?_⟩⟩
 case T1=>
  intro j σ HC D go hj h
  refine gs (λ_ _ z=>z) λX hX=>?_
  obtain⟨o11,o12,o13,us,ps,rfl,cC,kC,lp⟩:=h
  have woC':=woC cC
  have nC:=woC'.ne cC.st
  refine⟨_,rfl,g,_,0,.ref r1,rfl,rfl,SqT.of woC'.hg,ae (j:=0) rfl,_,rfl,nd,12,rfl,cC.st,(),(),λHD x8 sD stD x80 x81=>?_⟩
  obtain⟨z,hz,hat⟩:=tQ (xs:=xs) x80 (by rw[wo.l1];exact x81)
  refine⟨r1,_,x8,.str z,rfl,rfl,SqL.of (sD _ _ nC.2.1 woC'.h1),hat,gs hX λX hX=>?_⟩
  have cD:=cC.d sD stD nw fnd
  have kD:=kC.b sD (cC.st.tups sD) nPd nTd nNd
  have woD:=woC cD
  refine⟨_,rfl,_,rfl,g,_,0,.ref r1,rfl,rfl,SqT.of woD.hg,ae (j:=0) rfl,?_⟩
  dsimp only[bz]
  refine⟨4,rfl,r1,_,rfl,SqL.of woD.h1,λl hl=>?_⟩
  rw[xG]
  have lnd:l≠nd:=λz=>by obtain⟨_,_,e'⟩:=cD.st;rw[z,e']at hl;cases hl
  have sE:=ac hl (.lst ((xs.take 4).map V.str))
  have cE':=cD.m sE
  have hE:upd HD l (.lst ((xs.take 4).map V.str)) l=some (.lst ((xs.take 4).map V.str)):=aa
  have kE:=kD.m sE
  generalize upd HD l (.lst ((xs.take 4).map V.str))=HE at cE' hE kE⊢
  refine⟨nd,l,12,xs.take 4,rfl,(),(),(),cE'.st,hE,lnd,by rw[Υ];omega,λHF vk k sF stF Rk kAll kz=>gs hX λX hX=>?_⟩
  have sm:k.All Sm:=bq (λ_ _ h=>yp h λx hx=>wo.n1 x (m8 hx)) kAll
  have pm:mi (z,k):=⟨wo.n1 z hz,sm,by show k.size<=12;omega⟩
  have cF:=cE'.d sF stF nw fnd
  have kF:=kE.b sF (cE'.st.tups sF) nPd nTd nNd
  have lu:us.length=ps.length:=by have:=kF.rp.length;rwa[δ]at this
  refine⟨_,rfl,.inl ⟨rfl,_,SqL.of kF.hp⟩,_,rfl,_,rfl,z2,λt2 ht2=>?_⟩
  have sG:=ac ht2 (.tup [.str z,vk])
  have hG:upd HF t2 (.tup [.str z,vk]) t2=some (.tup [.str z,vk]):=aa
  have cG:=cF.m sG
  have kG:=kF.m sG
  have RG:=Rk.mono sG
  generalize upd HF t2 (.tup [.str z,vk])=HG at hG cG kG RG⊢
  refine⟨LP,_,_,rfl,rfl,kG.hp,by rw[θ];omega,hX _ _ ?_⟩
  have sI:=aq.upd HG LP (.lst (us++[.ref t2]))
  have tI:=sI.tups kG.hp
  have cI:=cG.l sI fP nP nPd
  have hI:upd HG LP (.lst (us++[.ref t2])) LP=some (.lst (us++[.ref t2])):=aa
  have hNI:=sI _ _ (ϋ nPN) kG.hn
  have hTI:=sI _ _ nTP kG.ht
  have hGI:=tI _ _ hG
  have RI:=Kd.tupS tI RG
  obtain⟨eI,pI⟩:=kG.rb tI
  generalize upd HG LP (.lst (us++[.ref t2]))=HI at tI cI hI hNI hTI hGI RI eI pI⊢
  have lk:=bo (rS sm)
  have lz8:z.length<=8:=(aP (wo.n1 z hz)).2
  have sz:=pm.sz
  have sz:k.size<=12:=sz
  refine⟨_,rfl,.inl ⟨rfl,_,SqL.of hTI⟩,_,rfl,_,_,rfl,rfl,by rw[lcs,θ];omega,_,rfl,vk,k,rfl,RI,sz,(),rS sm,λHJ sJ=>⟨_,_,rfl,rfl,by rw[μ,lcs,θ];omega,LT,_,_,rfl,rfl,sJ _ _ hTI,by rw[δ,δ,θ];omega,?_⟩⟩
  have cJ:=cI.m sJ
  have sK:=aq.upd HJ LT (.lst ((ps.map cj).map V.str++[.str (z++γ ": " ++ kdT k)]))
  have tK:=sK.tups (sJ _ _ hTI)
  have okN:∀p∈ps++[(z,k)],mi p:=λp hp=>by
   rcases Τ.mp hp with h|h
   ·exact kG.ok p h
   ·rw[ξ.mp h];exact pm
  have RN:Reps HJ ((ps++[(z,k)]).map gk) (us++[.ref t2]):=by
   rw[ς]
   refine Reps.append (pI.mono sJ) (aQ ?_)
   rw[gk,Rep]
   exact⟨t2,_,rfl,sJ _ _ hGI,by simp only[Reps];exact⟨_,_,rfl,by simp only[Rep],_,_,rfl,RI.mono sJ,rfl⟩⟩
  refine go _ _ ⟨_,_,_,us++[.ref t2],ps++[(z,k)],rfl,cJ.l sK fT nT nTd,⟨aT tK pe (eI.mono sJ),sK _ _ (ϋ nTN) (sJ _ _ hNI),sK _ _ (ϋ nTP) (sJ _ _ hI),bt (λd hd v r=>by obtain⟨p,hp,rfl⟩:=Ω.mp hd;exact aT tK (sM (okN p hp).sz) r) RN,by rw[aa,ς,ς];rfl,okN,pe⟩,by rw[Η,lp];rfl⟩
 rintro σ HC ⟨o11,o12,o13,us,ps,rfl,cC,kC,lp⟩
 have df:tL y nms ps:=⟨y1,y2,y3,(),hn,(),kC.ok⟩
 have l1:=nQ df
 have l2:=tZ df
 have l3:=nZ df.pn df.p4
 have l4:=ph df
 refine hX _ _ (aX λX hX=>⟨rfl,_,rfl,z2,λg1 hg1=>?_⟩)
 have p1:=ac hg1 (.lst [.str (γ "def"),.str y])
 have c1:=cC.m p1
 have k1:=kC.m p1
 have h1:upd HC g1 (.lst [.str (γ "def"),.str y]) g1=some (.lst [.str (γ "def"),.str y]):=aa
 generalize upd HC g1 (.lst [.str (γ "def"),.str y])=HD at c1 k1 h1⊢
 refine⟨_,rfl,g1,LN,_,_,rfl,rfl,h1,k1.hn,by rw[δ,θ];show 2+_<=_;omega,λg3 hg3=>?_⟩
 have p3:=ac hg3 (.lst ([.str (γ "def"),.str y]++nms.map V.str))
 have c3:=c1.m p3
 have k3:=k1.m p3
 have h3:upd HD g3 (.lst ([.str (γ "def"),.str y]++nms.map V.str)) g3=some (.lst ((γ "def" :: y::nms).map V.str)):=aa
 generalize upd HD g3 (.lst ([.str (γ "def"),.str y]++nms.map V.str))=HE at c3 k3 h3⊢
 refine⟨_,g3,γ "def" :: y::nms,rfl,rfl,SqL.of h3,by rw[lsp];simp only[Γ];omega,?_⟩
 rw[tj]
 refine⟨_,_,rfl,rfl,by rw[lop,θ];omega,rfl,_,rfl,_,LT,ps.map cj,rfl,rfl,SqL.of k3.ht,by rw[eV,δ];omega,?_⟩
 rw[tj]
 refine⟨_,_,rfl,rfl,by rw[μ,lop,θ];omega,_,_,rfl,rfl,by rw[μ,μ,lop,lcq,θ];omega,gnm (hX _ _ ?_)⟩
 refine⟨_,rfl,_,rfl,LN,_,rfl,.inl ⟨SqL.of k3.hn,λt1 ht1=>?_⟩⟩
 have q1:=ac ht1 (.tup (nms.map V.str))
 have c4:=c3.m q1
 have k4:=k3.m q1
 have h4:upd HE t1 (.tup (nms.map V.str)) t1=some (.tup (nms.map V.str)):=aa
 generalize upd HE t1 (.tup (nms.map V.str))=HF at c4 k4 h4⊢
 refine⟨_,rfl,LP,us,rfl,.inl ⟨SqL.of k4.hp,λt2 ht2=>?_⟩⟩
 have q2:=ac ht2 (.tup us)
 have c5:=c4.m q2
 have k5:=k4.m q2
 have h5:upd HF t2 (.tup us) t2=some (.tup us):=aa
 have h45:=q2 _ _ h4
 generalize upd HF t2 (.tup us)=HG at c5 k5 h5 h45⊢
 refine⟨_,rfl,by rw[θ];show 5<=16777216;decide,λt3 ht3=>⟨_,rfl,_,rfl,_,_,rfl,rfl,by rw[μ,μ,μ,lop,lcq,θ];omega,z2,λt4 ht4=>?_⟩⟩
 have q3:=ac ht3 (.tup [.str (γ "def"),.str y,.ref t1,.ref t2,w1])
 have h6:upd HG t3 (.tup [.str (γ "def"),.str y,.ref t1,.ref t2,w1]) t3=some (.tup [.str (γ "def"),.str y,.ref t1,.ref t2,w1]):=aa
 have c6:=c5.m q3
 have k6:=k5.m q3
 have h16:=q3 _ _ h45
 have h26:=q3 _ _ h5
 generalize upd HG t3 (.tup [.str (γ "def"),.str y,.ref t1,.ref t2,w1])=HH at h6 c6 k6 h16 h26 ht4⊢
 have q4:=ac ht4 (.tup [.ref t3,.str (DT y nms ps b)])
 refine fin (c6.m q4) ?_ (.inr ⟨y,nms,ps,d,b,rfl,rfl,df,we⟩)
 rw[Rep]
 refine⟨t4,_,rfl,aa,?_⟩
 simp only[Reps]
 refine⟨_,_,rfl,?_,_,_,rfl,by simp only[Rep];rfl,rfl⟩
 rw[qR,Rep]
 refine⟨t3,_,rfl,q4 _ _ h6,?_⟩
 simp only[Reps]
 refine⟨_,_,rfl,by simp only[Rep],_,_,rfl,by simp only[Rep],_,_,rfl,?_,_,_,rfl,?_,_,_,rfl,k6.re.mono q4,rfl⟩
 ·rw[Rep];exact⟨t1,_,rfl,q4 _ _ h16,iO nms⟩
 ·rw[Rep];exact⟨t2,us,rfl,q4 _ _ h26,k6.rp.mono q4⟩
abbrev iV:Stmt:=top 84
theorem jZ{d:Dv}{x:Str}(h:WR1 d x):L2.Pl 27 d:=by
 rcases h with ⟨e,b,rfl,rfl,we⟩|⟨f,ns,ps,e,b,rfl,rfl,df,we⟩
 ·refine .tup λd hd=>?_
  rcases ν.mp hd with rfl|hd
  ·exact .str
  ·rw[ξ.mp hd];exact(kg we.1).up ()
 ·unfold qR
  refine .tup λd hd=>?_
  rcases ν.mp hd with rfl|hd
  ·exact .str
  rcases ν.mp hd with rfl|hd
  ·exact .str
  rcases ν.mp hd with rfl|hd
  ·exact .tup λd hd=>by obtain⟨y,_,rfl⟩:=Ω.mp hd;exact .str
  rcases ν.mp hd with rfl|hd
  ·exact .tup λd hd=>by obtain⟨p,hp,rfl⟩:=Ω.mp hd;exact(sM (df.pn p hp).sz).up ()
  ·rw[ξ.mp hd];exact(kg we.1).up ()
structure Pg(H:Hp)(LR LL:Addr)(us:List V)(rs:List (Dv×Str)):Prop where
 hr:H LR=some (.lst us)
 rp:Reps H (rs.map (·.1)) us
 hl:H LL=some (.lst ((rs.map (·.2)).map V.str))
 ok:∀r∈rs,WR1 r.1 r.2
theorem Pg.m{H H':Hp}{LR LL:Addr}{us:List V}{rs:List (Dv×Str)}(p:Pg H LR LL us rs)(s:ak H H'):Pg H' LR LL us rs:=⟨s _ _ p.hr,p.rp.mono s,s _ _ p.hl,p.ok⟩
theorem Pg.rb{H H':Hp}{LR LL:Addr}{us:List V}{rs:List (Dv×Str)}(p:Pg H LR LL us rs)(t:mj H H'):Reps H' (rs.map (·.1)) us:=bt (λd hd v r=>by obtain⟨x,hx,rfl⟩:=Ω.mp hd;exact aT t (jZ (p.ok x hx)) r) p.rp
theorem Pg.b{H H':Hp}{LR LL a:Addr}{us:List V}{rs:List (Dv×Str)}(p:Pg H LR LL us rs)(s:aq a H H')(t:mj H H')(n1:LR≠a)(n2:LL≠a):Pg H' LR LL us rs:=⟨s _ _ n1 p.hr,p.rb t,s _ _ n2 p.hl,p.ok⟩
theorem Pg.lu{H:Hp}{LR LL:Addr}{us:List V}{rs:List (Dv×Str)}(p:Pg H LR LL us rs):us.length=rs.length:=by have:=p.rp.length;rwa[δ]at this
def yc(K:ε):Sp:=λvs H Q _=>∃(sc:Addr) (ns:List Int),vs=[.ref sc]/\SqL K H sc (ns.map V.int)/\ns.length<=63/\∀(H':Hp)(t LR LL:Addr)(us:List V)(rs:List (Dv×Str)),ak H H'->H' t=some (.tup [.ref LR,.ref LL])->Pg H' LR LL us rs->rs.length<=12->Q (.ref t) H'
theorem ma:am ["_law_script","_law_walk","_law_many","_law_world_here","_law_rows","_law_lines","_law_k","_law_row_here","_law_text"] ["_law_script"] (af iV):=by trivial
theorem sV{f:Addr}{fd:Θ}{k:Nat}(F:Fun K "_law_program" "_law_program" iV f fd)(T:Txt K mg)(D_law_draw:Def P w K mg base k "_law_draw" ["_law_state_here","_law_many"] dQ)(D_law_state:Def P w K mg base k "_law_state" ["_law_script","_law_k"] (oX K))(D_law_world:Def P w K mg base k "_law_world" ["_law_state_here"] vP)(D_law_row:Def P w K mg base k "_law_row" ["_law_walk","_law_world_here"] (yw K)):av P w K mg base CX0 (k+1) f fd ["_law_script"] (yc K):=by
 have nd:=ma.nd
 refine F.ok ma (λvs H Q E h=>?_) (λcdv A outer s H vs Q E hr h=>?_)
 ·obtain⟨sc,ns,rfl,_⟩:=h
  rfl
 obtain⟨sc,ns,rfl,hS,h63,q⟩:=h
 refine⟨_,(@un _ _ _ (wbO (wbM 1 nd rfl (υ rfl) (waM (wae (wv 0 rfl) (wae waC (wae (wal (wI rfl) rfl T.max () (wae waC (wae (wal (xt rfl) rfl T.min () (wae waC (wae (wal ar rfl T.len () (wae (wv 0 rfl) waf rfl) () () rfl rfl) waf rfl) rfl) () () rfl rfl) waf rfl) rfl) () () rfl rfl) waf rfl) rfl) rfl)) rfl ()) (wbO (wbM 2 nd rfl (υ rfl) (waQ bO waC (waq D_law_draw hr rfl (wae (waq D_law_state hr rfl (wae (wv 0 rfl) (wae waC waf rfl) rfl) () rfl rfl) (wae waC waf rfl) rfl) () rfl rfl)) rfl ()) (wbO (wbM 3 nd rfl (υ rfl) (waq D_law_world hr rfl (wae (waq D_law_state hr rfl (wae (wv 0 rfl) (wae waC waf rfl) rfl) () rfl rfl) waf rfl) () rfl rfl) rfl ()) (wbO (wbM 4 nd rfl (υ rfl) (waM waf) rfl ()) (wbO (wbM 5 nd rfl (υ rfl) (waM waf) rfl ()) (wbO (wbH Ϯ rfl (wbk rfl T.range (wae (wv 2 rfl) waf rfl) rfl) (waZ 6 nd rfl (υ rfl) ()) (wbO (wbD (waq D_law_row hr rfl (wae (wv 1 rfl) (wae (wv 3 rfl) waf rfl) rfl) () rfl rfl) (wbb rfl (wbd (waZ 7 nd rfl (υ rfl) ()) (wbd (waZ 8 nd rfl (υ rfl) ()) wbe rfl) rfl) rfl rfl) rfl rfl rfl) (wbQ (wbI (wbS ir (wal bK rfl T.len () (wae (waj Κ Ϫ ϫ cz waV (wae (waQ gC (wv 5 rfl) (waM (wae (wv 8 rfl) waf rfl))) waf rfl) rfl rfl rfl rfl rfl) waf rfl) () () rfl rfl) waC (ai _)) (wbO (wbG (waj Φ ϐ ϑ aZ (wv 4 rfl) (wae (wv 7 rfl) waf rfl) rfl rfl rfl rfl rfl) rfl) (wbQ (wbG (waj Φ ϐ ϑ aZ (wv 5 rfl) (wae (wv 8 rfl) waf rfl) rfl rfl rfl rfl rfl) rfl))) wbP))) ()) (wbQ (wbK (waX (wae (wv 4 rfl) (wae (wv 5 rfl) waf rfl) rfl))))))))))),?_⟩
 dsimp only[bi,Cx.nox]
 refine aX λX hX=>⟨_,rfl,_,rfl,sc,_,rfl,.inl hS,_,_,rfl,_,_,rfl,z3,λwk hwk=>gs hX λX hX=>?_⟩
 have m63:(if (if ((ns.map V.int).length:Int)<63 then ((ns.map V.int).length:Int)else 63)>2 then (if ((ns.map V.int).length:Int)<63 then ((ns.map V.int).length:Int)else 63)else 2)<=63:=by
  split<;>split<;>omega
 generalize (if (if ((ns.map V.int).length:Int)<63 then ((ns.map V.int).length:Int)else 63)>2 then (if ((ns.map V.int).length:Int)<63 then ((ns.map V.int).length:Int)else 63)else 2)=m at m63⊢
 have s1:=ac hwk (.lst [.ref sc,.int 2,.int m])
 have w1:Wk K (upd H wk (.lst [.ref sc,.int 2,.int m])) wk sc ns 2 m:=by
  refine⟨aa,λH' s=>?_,(),()⟩
  rcases hS with (h|⟨o,h⟩)|h
  ·exact .inl (.inl (s _ _ (ah h hwk) (s1 _ _ h)))
  ·exact .inl (.inr ⟨o,s _ _ (ah h hwk) (s1 _ _ h)⟩)
  ·exact .inr h
 generalize upd H wk (.lst [.ref sc,.int 2,.int m])=H1 at s1 w1⊢
 refine⟨_,rfl,sc,ns,0,rfl,s1.seq hS,(),λH2 a2 s2 f2 st2=>⟨a2,12,rfl,st2,(),(),λH3 x s3 st3 x0 x1=>⟨_,_,rfl,rfl,gs hX λX hX=>?_⟩⟩⟩
 have s13:=aq.same f2 s2 s3
 refine⟨_,rfl,sc,ns,1,rfl,(s1.trans s13).seq hS,(),λH4 a4 s4 f4 st4=>⟨a4,rfl,st4,λH5 g r1 r2 xs ys s5 st5 wo=>gs hX λX hX=>?_⟩⟩
 have s15:=s13.trans (aq.same f4 s4 s5)
 have wkS:∀{H':Hp},ak H1 H'->Wk K H' wk sc ns 2 m:=λs=>⟨s _ _ w1.1,λ_ s'=>w1.2.1 _ ((ak.b wk s).trans s'),w1.2.2⟩
 refine⟨ϊ _,λLR hLR=>gs hX λX hX=>⟨ϊ _,λLL hLL=>gs hX λX hX=>?_⟩⟩
 have s6:=ac hLR (.lst [])
 have s7:=ac hLL (.lst [])
 have nR:LR≠wk:=λz=>by have:=s15 _ _ w1.1;rw[z,this]at hLR;cases hLR
 have fR:H LR=none:=(s1.trans s15).free hLR
 have h6:upd H5 LR (.lst []) LR=some (.lst []):=aa
 have nL:LL≠wk:=λz=>by have:=s6 _ _ (s15 _ _ w1.1);rw[z,this]at hLL;cases hLL
 have nLR:LL≠LR:=λz=>by rw[z,h6]at hLL;cases hLL
 have fL:H LL=none:=((s1.trans s15).trans s6).free hLL
 have nRG:∀{a:Addr}{o:HO},H5 a=some o->a≠LR/\a≠LL:=λh=>⟨ah h hLR,ah (s6 _ _ h) hLL⟩
 have pg:Pg (upd (upd H5 LR (.lst [])) LL (.lst [])) LR LL [] []:=⟨s7 _ _ h6,by simp[Reps],aa,nofun⟩
 have s17:=s15.trans (s6.trans s7)
 have wo7:Wo (upd (upd H5 LR (.lst [])) LL (.lst [])) g r1 r2 xs ys:=⟨(s6.trans s7) _ _ wo.hg,(s6.trans s7) _ _ wo.h1,(s6.trans s7) _ _ wo.h2,wo.l1,wo.nd,wo.n1,wo.l2,wo.n2⟩
 obtain⟨gR,gL⟩:=nRG wo.hg
 obtain⟨r1R,r1L⟩:=nRG wo.h1
 obtain⟨r2R,r2L⟩:=nRG wo.h2
 generalize upd (upd H5 LR (.lst [])) LL (.lst [])=H7 at pg s17 wo7⊢
 refine⟨_,rfl,_,rfl,(),(),jg (n:=(1+x).toNat) (λj σ H'=>∃(o6 o7 o8:Option V) (i:Int) (us:List V) (rs:List (Dv×Str)),σ=[some (.ref sc),some (.ref wk),some (.int (1+x)),some (.ref g),some (.ref LR),some (.ref LL),o6,o7,o8]/\ak H H'/\Wk K H' wk sc ns i m/\i<=2+41*j/\Wo H' g r1 r2 xs ys/\Pg H' LR LL us rs/\rs.length<=j)
  ⟨_,_,_,2,[],[],rfl,s1.trans s17,wkS s17,(),wo7,pg,π _⟩ ?T1 ?_⟩
 case T1=>
  intro j σ H8 D go hj h
  refine gs (λ_ _ z=>z) λX hX=>?_
  obtain⟨o6,o7,o8,i,us,rs,rfl,s08,w8,i8,wo8,p8,l8⟩:=h
  refine⟨_,rfl,_,rfl,wk,g,r1,r2,sc,ns,i,m,xs,ys,rfl,w8,(),(),wo8,λH9 v d tx i' s9 w9 ig ih R9 hw=>?_⟩
  obtain⟨t,vt,rfl,ht,Rt⟩:=Rep.tup_inv R9
  obtain⟨v1,v2,rfl,e1,e2⟩:=Reps.two Rt
  simp only[Rep]at e2
  subst e2
  have s09:ak H H9:=aq.same hwk s08 s9
  have p9:=p8.b s9 (s9.tups w8.1) nR nL
  have wo9:=wo8.b (wo8.nw w8.1) s9
  have lu:=p9.lu
  refine⟨t,_,rfl,SqT.of ht,rfl,_,_,rfl,_,_,rfl,rfl,hX _ _ (en λY Z hY hZ=>?_)⟩
  refine⟨rfl,_,rfl,_,rfl,z1,λl1 hl1=>?_⟩
  have q1:=ac hl1 (.lst [.str tx])
  refine⟨LL,l1,_,_,rfl,rfl,q1 _ _ p9.hl,aa,by rw[δ,δ,θ];show _+1<=_;omega,λl2 hl2=>?_⟩
  have q2:=ac hl2 (.lst ((rs.map (·.2)).map V.str++[.str tx]))
  have h2:upd (upd H9 l1 (.lst [.str tx])) l2 (.lst ((rs.map (·.2)).map V.str++[.str tx])) l2=some (.lst ((rs.map (·.2)++[tx]).map V.str)):=by rw[aa,ς];rfl
  have s9A:=q1.trans q2
  generalize upd (upd H9 l1 (.lst [.str tx])) l2 (.lst ((rs.map (·.2)).map V.str++[.str tx]))=HA at h2 s9A⊢
  have lb:=cv (B:=600000) (ys:=rs.map (·.2)++[tx]) λy hy=>by
   rcases Τ.mp hy with hy|hy
   ·obtain⟨r,hr',rfl⟩:=Ω.mp hy;exact(p9.ok r hr').len
   ·rw[ξ.mp hy];exact hw.len
  have lj:=cf (γ "\n") (rs.map (·.2)++[tx])
  have ln1:(γ "\n").length=1:=by decide +kernel
  have lr:(rs.map (·.2)++[tx]).length<=12:=by rw[Η,δ];show _+1<=12;omega
  have lm:(rs.map (·.2)++[tx]).length*600000<=12*600000:=B8 _ lr
  rw[ln1]at lj
  refine⟨_,l2,rs.map (·.2)++[tx],rfl,rfl,SqL.of h2,by rw[ln1];omega,?_⟩
  rw[tj]
  have sA:ak H HA:=s09.trans s9A
  have pA:=p9.m s9A
  have woA:Wo HA g r1 r2 xs ys:=⟨s9A _ _ wo9.hg,s9A _ _ wo9.h1,s9A _ _ wo9.h2,wo9.l1,wo9.nd,wo9.n1,wo9.l2,wo9.n2⟩
  have wA:Wk K HA wk sc ns i' m:=⟨s9A _ _ w9.1,λ_ s'=>w9.2.1 _ ((ak.b wk s9A).trans s'),w9.2.2⟩
  refine⟨_,rfl,by rw[θ];omega,_,_,rfl,rfl,_,rfl,ap (λ_=>hY _ (aX λX hX=>?_)) (λ_=>hZ _ (tnx (go _ _ ⟨_,_,_,i',us,rs,rfl,sA,wA,(),woA,pA,()⟩)))⟩
  refine⟨_,rfl,.inl ⟨rfl,_,SqL.of pA.hr⟩,_,rfl,LR,_,_,rfl,rfl,pA.hr,by rw[θ];omega,hX _ _ ?_⟩
  have sB:=aq.upd HA LR (.lst (us++[v1]))
  have tB:=sB.tups pA.hr
  have hB:upd HA LR (.lst (us++[v1])) LR=some (.lst (us++[v1])):=aa
  have lB:=sB _ _ nLR pA.hl
  have RB:=pA.rb tB
  have eB:=aT tB (jZ hw) (e1.mono s9A)
  generalize upd HA LR (.lst (us++[v1]))=HB at sB tB hB lB RB eB⊢
  refine⟨_,rfl,.inl ⟨rfl,_,SqL.of lB⟩,_,rfl,LL,_,_,rfl,rfl,lB,by rw[δ,δ,θ];omega,?_⟩
  have sC:=aq.upd HB LL (.lst ((rs.map (·.2)).map V.str++[.str tx]))
  have tC:=sC.tups lB
  have okN:∀r∈rs++[(d,tx)],WR1 r.1 r.2:=λr hr'=>by
   rcases Τ.mp hr' with h|h
   ·exact p9.ok r h
   ·rw[ξ.mp h];exact hw
  have RN:Reps HB ((rs++[(d,tx)]).map (·.1)) (us++[v1]):=by rw[ς];exact Reps.append RB (aQ eB)
  have sBC:∀{a:Addr}{o:HO},a≠LR->a≠LL->HA a=some o->upd HB LL (.lst ((rs.map (·.2)).map V.str++[.str tx])) a=some o:=λh1 h2 e=>sC _ _ h2 (sB _ _ h1 e)
  refine go _ _ ⟨_,_,_,i',us++[v1],rs++[(d,tx)],rfl,λa o e=>sBC (ah e fR) (ah e fL) (sA _ _ e),⟨sBC (ϋ nR) (ϋ nL) wA.1,λH' s'=>?_,wA.2.2⟩,(),⟨sBC gR gL woA.hg,sBC r1R r1L woA.h1,sBC r2R r2L woA.h2,woA.l1,woA.nd,woA.n1,woA.l2,woA.n2⟩,⟨sC _ _ (ϋ nLR) hB,bt (λd hd v r=>by obtain⟨y,hy,rfl⟩:=Ω.mp hd;exact aT tC (jZ (okN y hy)) r) RN,by rw[aa,ς,ς];rfl,okN⟩,by rw[Η];show _+1<=_;omega⟩
  rcases hS with (h|⟨o,h⟩)|h
  ·exact .inl (.inl (s' _ _ (ah h hwk) (sBC (ah h fR) (ah h fL) (sA _ _ h))))
  ·exact .inl (.inr ⟨o,s' _ _ (ah h hwk) (sBC (ah h fR) (ah h fL) (sA _ _ h))⟩)
  ·exact .inr h
 rintro σ H8 ⟨o6,o7,o8,i,us,rs,rfl,s08,w8,i8,wo8,p8,l8⟩
 refine hX _ _ ⟨_,rfl,_,rfl,z2,λt ht=>?_⟩
 have s9:=ac ht (.tup [.ref LR,.ref LL])
 exact q _ t LR LL us rs (s08.trans s9) aa (p8.m s9) ()
abbrev kQ:Stmt:=top 85
def vd(K:ε):Sp:=λvs H Q _=>∃(a:Addr) (ns:List Int),vs=[.ref a]/\SqL K H a (ns.map V.int)/\ns.length<=63/\∀H',Q (.bl true) H'
theorem zJ{k:Nat}{ix:List Nat}{g:TG}{tt:TT}{te:TE}{σ:St}{H1:Hp}{Q:List V->Hp->Prop}{K:ε}{a b:Addr}{xs ys:List V}(Pv:Nat->List V->Hp->Prop)(h0:Pv 0 [] H1)(hl:∀i zs H,Pv i zs H->SqL K H a xs/\SqL K H b ys)
  (hs:∀i zs H x y p,xs[i]?=some x->ys[i]?=some y->Pv i zs H->H p=none->cO k ix g tt te σ (.ref p) zs (upd H p (.tup [x,y])) (Pv (i+1))) (hd:∀zs H,Pv (min xs.length ys.length) zs H->Q zs H):rLC (Itz K a b) k ix g tt te σ H1 Q:=by
 refine jN (n:=min xs.length ys.length) Pv h0 (λi zs H h p=>?_) (λzs H p=>?_) (λi zs H x H' h p y=>?_) hd
 ·obtain⟨q1,q2⟩:=hl i zs H p
  exact⟨xs,ys,xs[i]'(),ys[i]'(),q1,q2,(),()⟩
 ·obtain⟨q1,q2⟩:=hl _ zs H p
  exact⟨xs,ys,q1,q2,()⟩
 ·obtain⟨q1,q2⟩:=hl i zs H p
  obtain⟨c,x',y',hb,e1,e2,hx,hy⟩:=y
  subst e1 e2
  exact hs i zs H x' y' c (hx xs q1) (hy ys q2) p hb
theorem CZ:isT (.lst []) "list"=true:=by show("list" == "list" || "list" == "bool" && "list" == "int")=true;decide +kernel
theorem EA:isT (.tup []) "tuple"=true:=by show("tuple" == "tuple" || "tuple" == "bool" && "tuple" == "int")=true;decide +kernel
theorem dI{H:Hp}{l:Addr}{us:List V}{ds:List Dv}(h:H l=some (.lst us))(R:Reps H ds us):Rep H (.lst ds) (.ref l):=by rw[Rep];exact⟨l,us,rfl,h,R⟩
theorem yi:am ["_law_script","_law_rows","_law_lines","_law_text","_law_handed","_law_found","_law_told","_law_none"] ["_law_script"] (af kQ):=by trivial
theorem BZ{f:Addr}{fd:Θ}{k0:Nat}(F:Fun K "law" "law" kQ f fd)(T:Txt K mg)(D_law_program:Def P w K mg base k0 "_law_program" ["_law_script"] (yc K))(Dshow:Def P w K mg base k0 "show" ["program"] yu)(Dread:Def P w K mg base k0 "read" ["text"] yX):av P w K mg base CX0 (k0+1) f fd ["_law_script"] (vd K):=by
 have nd:=yi.nd
 refine F.ok yi (λvs H Q E h=>?_) (λcdv A outer s H vs Q E hr h=>?_)
 ·obtain⟨a,ns,rfl,_⟩:=h
  rfl
 obtain⟨sc,ns,rfl,hS,h63,q⟩:=h
 have hu:=jS hr
 have huL:(A.deeper (Fn "law" (af kQ) s.heap.objs.size f cdv)).units<cLine:=by omega
 refine⟨_,(@un _ _ _ (wbO (wbD (waq D_law_program hr rfl (wae (wv 0 rfl) waf rfl) () rfl rfl) (wbb rfl (wbd (waZ 1 nd rfl (υ rfl) ()) (wbd (waZ 2 nd rfl (υ rfl) ()) wbe rfl) rfl) rfl rfl) rfl rfl rfl) (wbO (wbM 3 nd rfl (υ rfl) (waj Κ Ϫ ϫ cz waV (wae (wv 2 rfl) waf rfl) rfl rfl rfl rfl rfl) rfl ()) (wbO (wbM 4 nd rfl (υ rfl) (wam hV rfl T.list () (wae (wv 1 rfl) waf rfl) () () rfl rfl) rfl ()) (wbO (wbM 5 nd rfl (υ rfl) (waq Dshow hr rfl (wae (wv 4 rfl) waf rfl) () rfl rfl) rfl ()) (wbO (wbI (wab (wbY (wbT (wbV (wal aY rfl T.isinstance () (wae (wv 5 rfl) (wae (wai (.ty "str") rfl T.str () rfl () ()) waf rfl) rfl) () () rfl rfl) ())) (wbY (wbS eT (wv 5 rfl) (wv 3 rfl) (ai _)) (wbZ (wbS (oa hu) (wv 4 rfl) (wv 1 rfl) (ai _)))))) (wbQ (wbK wah)) wbP) (wbO (wbM 6 nd rfl (υ rfl) (waq Dread hr rfl (wae (wv 3 rfl) waf rfl) () rfl rfl) rfl ()) (wbO (wbI (wab (wbY (wbT (wbV (wal aY rfl T.isinstance () (wae (wv 6 rfl) (wae (wai (.ty "list") rfl T.list () rfl () ()) waf rfl) rfl) () () rfl rfl) ())) (wbY (wbS (oa hu) (wv 6 rfl) (wv 1 rfl) (ai _)) (wbZ (wbT (wbV (wal (de rfl) rfl T.all () (wae (waE ["_law_row_here"] [] (wbi (wv 6 rfl)) (.of rfl) rfl (λ_ _ _=>⟨pg_name (i:=0) (bc (l:=["_law_row_here"]) (()) rfl) rfl (υ rfl)⟩) (aW ()) (λ_ _ _=>wbx) (λ_ _ _=>(wal (Eb K rfl) rfl T.isinstance () (wae (wv 0 rfl) (wae (wai (.ty "tuple") rfl T.tuple () rfl () ()) waf rfl) rfl) () () rfl rfl)) ()) waf rfl) () () rfl rfl) ())))))) (wbQ (wbK wah)) wbP) (wbO (wbG (waj Φ ϐ ϑ aZ (wv 6 rfl) (wae waN waf rfl) rfl rfl rfl rfl rfl) rfl) (wbO (wbI (wab (wbY (wbS (oa hu) (waq Dread hr rfl (wae (wv 3 rfl) waf rfl) () rfl rfl) (wv 1 rfl) (ai _)) (wbZ (wbS eT (waq Dshow hr rfl (wae (waM waf) waf rfl) () rfl rfl) waV (ai _))))) (wbQ (wbK wah)) wbP) (wbO (wbM 7 nd rfl (υ rfl) (waq Dread hr rfl (wae waV waf rfl) () rfl rfl) rfl ()) (wbO (wbI (wab (wbY (wbT (wbV (wal aY rfl T.isinstance () (wae (wv 7 rfl) (wae (wai (.ty "list") rfl T.list () rfl () ()) waf rfl) rfl) () () rfl rfl) ())) (wbZ (wbS (BV huL) (wv 7 rfl) (waM waf) (ai _))))) (wbQ (wbK wah)) wbP) (wbQ (wbK (wal (de rfl) rfl T.all () (wae (waE (["_law_row_here","_law_line"]) [] (wbq rfl T.zip (wae (wv 1 rfl) (wae (wv 2 rfl) waf rfl) rfl) rfl rfl) (.of rfl) rfl (λ_ _ _=>⟨pg_tup rfl (pgs_cons (pg_name (i:=0) (bc (l:=["_law_row_here","_law_line"]) (()) rfl) rfl (υ rfl)) (pgs_cons (pg_name (i:=1) (bc (l:=["_law_row_here","_law_line"]) (()) rfl) rfl (υ rfl)) pgs_nil))⟩) (gx () ()) (λ_ _ _=>wbx) (λ_ _ _=>(wag (wap (zL hu) (waq Dread hr rfl (wae (wv 1 rfl) waf rfl) () rfl rfl) (waM (wae (wv 0 rfl) waf rfl)) (ai _)) (waP (wap aw (waq Dshow hr rfl (wae (waM (wae (wv 0 rfl) waf rfl)) waf rfl) () rfl rfl) (wv 1 rfl) (ai _))))) ()) waf rfl) () () rfl rfl))))))))))))))),?_⟩
 dsimp only[bi,Cx.nox]
 refine aX λX hX=>⟨_,rfl,sc,ns,rfl,hS,h63,λH1 t LR LL us rs s1 ht pg l12=>⟨t,_,rfl,SqT.of ht,rfl,_,_,rfl,_,_,rfl,rfl,hX _ _ (aX λX hX=>?_)⟩⟩
 have pl:∀d∈rs.map (·.1),L2.Pl 27 d:=λd hd=>by obtain⟨r,hr',rfl⟩:=Ω.mp hd;exact jZ (pg.ok r hr')
 have lb:=cv (B:=600000) (ys:=rs.map (·.2)) λy hy=>by obtain⟨r,hr',rfl⟩:=Ω.mp hy;exact(pg.ok r hr').len
 have ln1:(γ "\n").length=1:=by decide +kernel
 rw[δ]at lb
 refine⟨rfl,_,rfl,_,LL,rs.map (·.2),rfl,rfl,SqL.of pg.hl,by rw[δ,ln1];omega,?_⟩
 rw[tj]
 refine gs hX λX hX=>⟨_,rfl,LR,us,rfl,.inl (SqL.of pg.hr),λLH hLH=>gs hX λX hX=>?_⟩
 have s2:=ac hLH (.lst us)
 have h2:upd H1 LH (.lst us) LH=some (.lst us):=aa
 have p2:=pg.m s2
 generalize upd H1 LH (.lst us)=H2 at s2 h2 p2⊢
 generalize ex:ύ (γ "\n") (rs.map (·.2))=x at hX⊢
 refine⟨_,rfl,LH,us,rs,rfl,h2,p2.rp,pg.ok,l12,λH3 s3=>?_⟩
 rw[ex]
 refine gs hX λX hX=>en λY Z hY hZ=>⟨_,rfl,_,_,_,_,rfl,dS.str x,ga K (.str x),_,rfl,?_⟩
 rw[BG]
 refine aD ⟨_,rfl,_,rfl,rfl,_,rfl,?_⟩
 show if (!decide (V.str x=V.str x))=true then _ else _
 rw[Q9 rfl]
 have p3:=p2.m s3
 refine aD ⟨_,rfl,_,rfl,27,rs.map (·.1),pl,(),dI (s3 _ _ h2) p3.rp,dI p3.hr p3.rp,_,rfl,aD (hZ _ (tnx (hX _ _ (aX λX hX=>?_))))⟩
 refine⟨_,rfl,rs,congrArg (λz=>[V.str z]) ex.symm,pg.ok,l12,λH4 l4 u4 s4 f4 h4 R4=>gs hX λX hX=>?_⟩
 have p4:=p3.m s4
 refine en λY Z hY hZ=>⟨_,rfl,_,_,_,_,rfl,dS.lst h4,rB K (.lst []),_,rfl,?_⟩
 rw[CZ]
 refine aD ⟨_,rfl,_,rfl,27,rs.map (·.1),pl,(),dI h4 R4,dI p4.hr p4.rp,_,rfl,aD ?_⟩
 have lu4:u4.length=rs.length:=by have:=R4.length;rwa[δ]at this
 refine⟨_,rfl,l4,rfl,⟨_,SqL.of h4⟩,dL (xs:=u4) (λi ys H'=>H'=H4/\ys=(j8 i true).map V.bl) ⟨rfl,rfl⟩ (λi ys H' _ p=>by rw[p.1];exact SqL.of h4) ?L1 ?_⟩
 case L1=>
  rintro i ys H' v hx ⟨rfl,rfl⟩
  obtain⟨r,hr',Rx⟩:=eE (f:=λr:Dv×Str=>r.1) R4 hx
  have hi:i<u4.length:=(ψ.mp hx).1
  obtain⟨ds,ed⟩:∃ds,r.1=.tup ds:=by
   rcases pg.ok r (Ο hr')with ⟨e,b,h,_⟩|⟨f,ns,ps,e,b,h,_⟩
   ·exact⟨_,h⟩
   ·exact⟨_,h⟩
  rw[ed]at Rx
  obtain⟨a,vs,rfl,ha,_⟩:=Rep.tup_inv Rx
  refine aV ⟨_,rfl,_,_,_,_,rfl,dS.tup ha,cr K (.tup []),?_,rfl,?_⟩
  ·rw[δ,t_,θ];omega
  ·rw[EA,List.replicate_succ',ς];rfl
 rintro ys H' ⟨rfl,rfl⟩ l5 hl5
 have s5:=ac hl5 (.lst ((j8 u4.length true).map V.bl))
 refine⟨l5,j8 u4.length true,rfl,SqL.of aa,_,rfl,?_⟩
 rw[show(j8 u4.length true).all id=true by rw[List.all_replicate];simp]
 have p5:=p4.m s5
 have h5:=s5 _ _ h4
 have R5:=R4.mono s5
 refine aD (hZ _ (tnx (hX _ _ ?_)))
 generalize upd H' l5 (.lst ((j8 u4.length true).map V.bl))=H5 at s5 p5 h5 R5⊢
 have n4:∀{a:Addr}{o:HO},H3 a=some o->a≠l4:=λh=>ah h f4
 refine aX λX hX=>⟨_,rfl,.inl ⟨rfl,_,SqL.of h5⟩,l4,_,_,rfl,rfl,h5,by rw[θ];omega,hX _ _ (aX λX hX=>?_)⟩
 have s6:=aq.upd H5 l4 (.lst (u4++[.non]))
 have p6:=p5.b s6 (s6.tups h5) (n4 p3.hr) (n4 p3.hl)
 generalize upd H5 l4 (.lst (u4++[.non]))=H6 at s6 p6⊢
 refine en λY Z hY hZ=>⟨_,rfl,rs,congrArg (λz=>[V.str z]) ex.symm,pg.ok,l12,λH7 l7 u7 s7 f7 h7 R7=>?_⟩
 have p7:=p6.m s7
 refine⟨_,rfl,27,rs.map (·.1),pl,(),dI h7 R7,dI p7.hr p7.rp,_,rfl,aD ⟨ϊ _,λl8 hl8=>⟨l8,[],[],rfl,aa,by simp[Reps],nofun,(),λH9 s9=>⟨rfl,_,rfl,?_⟩⟩⟩⟩
 have p9:=p7.m ((ac hl8 (.lst [])).trans s9)
 rw[show(!decide (V.str (ύ (γ "\n") (([]:List (Dv×Str)).map (·.2)))=V.str (γ "")))=false from congrArg not (Q9 rfl)]
 refine aD (hZ _ (tnx (hX _ _ (aX λX hX=>?_))))
 refine⟨[],rfl,nofun,(),λHA lA uA sA fA hA RA=>gs hX λX hX=>?_⟩
 have eA:uA=[]:=by simpa only[j9,Reps]using RA
 subst eA
 have pA:=p9.m sA
 refine en λY Z hY hZ=>⟨_,rfl,_,_,_,_,rfl,dS.lst hA,rB K (.lst []),_,rfl,?_⟩
 rw[CZ]
 refine aD ⟨_,rfl,ϊ _,λlB hlB=>⟨lA,lB,[],rfl,rfl,SqL.of (ac hlB _ _ _ hA),SqL.of aa,_,rfl,aD (hZ _ (tnx (hX _ _ ?_)))⟩⟩
 have pB:=pA.m (ac hlB (.lst []))
 generalize upd HA lB (.lst [])=HB at pB⊢
 have lus:=pB.lu
 refine⟨_,rfl,_,rfl,LR,LL,rfl,⟨_,SqL.of pB.hr⟩,⟨_,SqL.of pB.hl⟩,zJ (xs:=us) (ys:=(rs.map (·.2)).map V.str) (λi zs H'=>ak HB H'/\zs=(j8 i true).map V.bl) ⟨ak.refl _,rfl⟩ (λi zs H' p=>⟨SqL.of (p.1 _ _ pB.hr),SqL.of (p.1 _ _ pB.hl)⟩) ?_ ?_⟩
 ·rintro i zs H' v y p hx hy ⟨s',rfl⟩ hp
  obtain⟨r,hr',Rx⟩:=eE (f:=λr:Dv×Str=>r.1) pB.rp hx
  rw[Ν,Ν,hr']at hy
  obtain rfl:V.str r.2=y:=Ϛ hy
  have hi:i<us.length:=(ψ.mp hx).1
  have hw:∀r'∈[r],WR1 r'.1 r'.2:=λr' h=>by rw[ξ.mp h];exact pg.ok r (Ο hr')
  have sC:=s'.trans (ac hp (.tup [v,.str r.2]))
  refine dj aa ⟨_,rfl,[r],rfl,hw,by show 1<=12;decide,λH7 l7 u7 s7 f7 h7 R7=>⟨_,rfl,z1,λl8 hl8=>?_⟩⟩
  have s8:=ac hl8 (.lst [v])
  have sD:=sC.trans (s7.trans s8)
  refine⟨27,[r.1],λd hd=>by rw[ξ.mp hd];exact jZ (hw r ο),(),dI (s8 _ _ h7) (R7.mono s8),dI aa (aQ (Rx.mono sD)),true,rfl,ax ⟨_,rfl,z1,λl9 hl9=>?_⟩⟩
  have s9:=ac hl9 (.lst [v])
  refine⟨l9,[v],[r],rfl,aa,aQ (Rx.mono (sD.trans s9)),hw,by show 1<=12;decide,λHE sE=>⟨_,rfl,rfl,?_,sD.trans (s9.trans sE),?_⟩⟩
  ·rw[δ,t_,θ];omega
  ·rw[List.replicate_succ',ς]
   show _=_++[V.bl true]
   rw[show decide (V.str (ύ (γ "\n") ([r].map (·.2)))=V.str r.2)=true from Q9 rfl]
 ·rintro zs HF ⟨sF,rfl⟩ lF hlF
  refine⟨lF,j8 _ true,rfl,SqL.of aa,?_⟩
  rw[show(j8 (min us.length ((rs.map (·.2)).map V.str).length) true).all id=true by rw[List.all_replicate];simp]
  exact q _
open PySem L2 KB XB
theorem us0{p:List ζ->Prop}(h:p []):∀us:List ζ,us.length=0->p us
 |[],_=>h
theorem us1{p:List ζ->Prop}(h:∀x0,p [x0]):∀us:List ζ,us.length=1->p us
 |[x0],_=>h x0
theorem us2{p:List ζ->Prop}(h:∀x0 x1,p [x0,x1]):∀us:List ζ,us.length=2->p us
 |[x0,x1],_=>h x0 x1
theorem us3{p:List ζ->Prop}(h:∀x0 x1 x2,p [x0,x1,x2]):∀us:List ζ,us.length=3->p us
 |[x0,x1,x2],_=>h x0 x1 x2
theorem us4{p:List ζ->Prop}(h:∀x0 x1 x2 x3,p [x0,x1,x2,x3]):∀us:List ζ,us.length=4->p us
 |[x0,x1,x2,x3],_=>h x0 x1 x2 x3
theorem us5{p:List ζ->Prop}(h:∀x0 x1 x2 x3 x4,p [x0,x1,x2,x3,x4]):∀us:List ζ,us.length=5->p us
 |[x0,x1,x2,x3,x4],_=>h x0 x1 x2 x3 x4
structure Df(K:ε)(x:Str)(st:Stmt)(f:Addr)(fd:Θ):Prop where
 a:ϓ K mainGlobals x=some (some (.ref f))
 F:Fun K x x st f fd
theorem df_mk{K:ε}{x:Str}{st:Stmt}{f:Addr}{oc:ζ}{od an:Option Addr}{osl:Array (Option ζ)}{kV doc pm cdv ct:ζ}(a:ϓ K mainGlobals x=some (some (.ref f)))(l:K.lookup f=some ⟨oc,od,.func (j3 x x (cg st) (bS st) (af st) .none kV doc pm an cdv ct),osl⟩)
  (c:r_ K cdv x=true) (k:ϥ K (.ref f)=true):Df K x st f (j3 x x (cg st) (bS st) (af st) .none kV doc pm an cdv ct):=⟨a,lW l c k⟩
theorem Df.d{P:χ}{w:Ρ}{K:ε}{mg:Str->Option ζ}{base h:Heap}{x:Str}{st:Stmt}{f:Addr}{fd:Θ}{k:Nat}{ps:List Str}{sp:Sp}(d:Df K x st f fd)(X:K.In h)(G:h.Ns mainGlobals mg)(b:bQ K fd ps [])(F:av P w K mg base CX0 k f fd ps sp):Def P w K mg base k x ps sp:=⟨f,fd,F,b,d.F.kp,ϙ X G d.a⟩
theorem dM{P:χ}{w:Ρ}{K:ε}{mg:Str->Option ζ}{base:Heap}{CX:CXT}{k:Nat}{f:Addr}{fd:Θ}{ps:List Str}{sp:Sp}(n:∀vs H Q E,¬ sp vs H Q E):av P w K mg base CX k f fd ps sp:=⟨λvs H Q E h=>absurd h (n _ _ _ _),λ_ _ _ _ _ _ _ _ _ _ _ _ _ h=>absurd h (n _ _ _ _)⟩
theorem all_mk{l:Gj}{w:Ρ}{K:ε}{h:Heap}{mg:Str->Option ζ}{fa f1 f2 f3 f4 f5 f6 f7 f8 f9 f10 f11 f12 f13 f14 f15 f16 f17 f18 f19 f20 f21 f22 f23 f24 f25 f26 f27 f28 f29 f30 f31 f32 f33 f34 f35 f36 f37 f38 f39 f40 f41 f42 f43 f44 f45 f46 f47 f48 f49 f50 f51 f52 f53 f54 f55 f56 f57 f58 f59 f60 f61 f62 f63 f64:Addr}{g1 g2 g3 g4 g5 g6 g7 g8 g9 g10 g11 g12 g13 g14 g15 g16 g17 g18 g19 g20 g21 g22 g23 g24 g25 g26 g27 g28 g29 g30 g31 g32 g33 g34 g35 g36 g37 g38 g39 g40 g41 g42 g43 g44 g45 g46 g47 g48 g49 g50 g51 g52 g53 g54 g55 g56 g57 g58 g59 g60 g61 g62 g63 g64:Θ}(X:K.In h)(G:h.Ns mainGlobals mg)(hfa:mg "law"=some (.ref fa))
  (d1:Df K "is_whole" gy f1 g1)
  (d2:Df K "is_name" iG f2 g2)
  (d3:Df K "is_part" iU f3 g3)
  (d4:Df K "are_parts" fg f4 g4)
  (d5:Df K "is_length" fH f5 g5)
  (d6:Df K "is_small_length" gF f6 g6)
  (d7:Df K "has_word" gT f7 g7)
  (d8:Df K "is_point" gz f8 g8)
  (d9:Df K "things_of" fj f9 g9)
  (d10:Df K "is_kind" iY f10 g10)
  (d11:Df K "is_below" gI f11 g11)
  (d12:Df K "is_def_name" dO f12 g12)
  (d13:Df K "is_few" lc f13 g13)
  (d14:Df K "fits" uf f14 g14)
  (d15:Df K "is_node" iL f15 g15)
  (d16:Df K "parts_of" gG f16 g16)
  (d17:Df K "is_expression" iz f17 g17)
  (d18:Df K "are_names" fz f18 g18)
  (d19:Df K "is_param" gU f19 g19)
  (d20:Df K "are_params" eG f20 g20)
  (d21:Df K "is_row" lC f21 g21)
  (d22:Df K "show_param" eu f22 g22)
  (d23:Df K "show_row" gM f23 g23)
  (d24:Df K "show" tE f24 g24)
  (d25:Df K "param_in" gK f25 g25)
  (d26:Df K "def_of" km f26 g26)
  (d27:Df K "row_of_text" dN f27 g27)
  (d28:Df K "read_row" gu f28 g28)
  (d29:Df K "read" uy f29 g29)
  (d30:Df K "show_part" fw f30 g30)
  (d31:Df K "show_length" cw f31 g31)
  (d32:Df K "in_brackets" se f32 g32)
  (d33:Df K "show_kind" ft f33 g33)
  (d34:Df K "show_behind" dR f34 g34)
  (d35:Df K "show_all" gQ f35 g35)
  (d36:Df K "show_expression" ck f36 g36)
  (d37:Df K "branch_of" eZ f37 g37)
  (d38:Df K "number_of" fU f38 g38)
  (d39:Df K "part_of" iK f39 g39)
  (d40:Df K "length_of" fq f40 g40)
  (d41:Df K "word_alone" eC f41 g41)
  (d42:Df K "length_in" fF f42 g42)
  (d43:Df K "kind_in" iP f43 g43)
  (d44:Df K "thing_in" gH f44 g44)
  (d45:Df K "atom_of" iZ f45 g45)
  (d46:Df K "expression_in" cL f46 g46)
  (d47:Df K "expression_of" cR f47 g47)
  (d48:Df K "just_so" ja f48 g48)
  (d49:Df K "_law_draw" sO f49 g49)
  (d50:Df K "_law_state" on f50 g50)
  (d51:Df K "_law_names" nY f51 g51)
  (d52:Df K "_law_length" lL f52 g52)
  (d53:Df K "_law_length_text" jA f53 g53)
  (d54:Df K "_law_kind_text" nU f54 g54)
  (d55:Df K "_law_next" tM f55 g55)
  (d56:Df K "_law_kind" tS f56 g56)
  (d57:Df K "_law_forms" nW f57 g57)
  (d58:Df K "_law_inner" pb f58 g58)
  (d59:Df K "_law_whole" oK f59 g59)
  (d60:Df K "_law_expression" eO f60 g60)
  (d61:Df K "_law_world" oG f61 g61)
  (d62:Df K "_law_row" yI f62 g62)
  (d63:Df K "_law_program" iV f63 g63)
  (d64:Df K "law" kQ f64 g64)
  (z1:ϓ K mainGlobals "len"=some none)
  (z2:ϓ K mainGlobals "isinstance"=some none)
  (z3:ϓ K mainGlobals "int"=some none)
  (z4:ϓ K mainGlobals "bool"=some none)
  (z5:ϓ K mainGlobals "str"=some none)
  (z6:ϓ K mainGlobals "tuple"=some none)
  (z7:ϓ K mainGlobals "all"=some none)
  (z8:ϓ K mainGlobals "zip"=some none)
  (z9:ϓ K mainGlobals "range"=some none)
  (z10:ϓ K mainGlobals "sorted"=some none)
  (z11:ϓ K mainGlobals "max"=some none)
  (z12:ϓ K mainGlobals "min"=some none)
  (z13:ϓ K mainGlobals "list"=some none)
  (z14:ϓ K mainGlobals "enumerate"=some none)
  {tg0 tg1 tg2 tg3 tg4 tg5 tg6 tg7 tg8 tg9:Tok}
  (zg0:ϓ K mainGlobals "LONGEST_NAME"=some (some (.int 8 tg0)))
  (zg1:ϓ K mainGlobals "GREATEST_SIZE"=some (some (.int 12 tg1)))
  (zg2:ϓ K mainGlobals "GREATEST_NUMBER"=some (some (.int 99 tg2)))
  (zg3:ϓ K mainGlobals "WHOLE_BOUND"=some (some (.int 1000000000000 tg3)))
  (zg4:ϓ K mainGlobals "MOST_NODES"=some (some (.int 40 tg4)))
  (zg5:ϓ K mainGlobals "MOST_ABOVE"=some (some (.int 7 tg5)))
  (zg6:ϓ K mainGlobals "MOST_THINGS"=some (some (.int 4 tg6)))
  (zg7:ϓ K mainGlobals "MOST_FIGURES"=some (some (.int 60 tg7)))
  (zg8:ϓ K mainGlobals "MOST_ROWS"=some (some (.int 12 tg8)))
  (zg9:ϓ K mainGlobals "MOST_BRACKETS"=some (some (.int 20 tg9)))
  {gR:Addr} {odR:Option Addr} {nR:Nat} {slR:Array (Option ζ)} {tr0 tr1 tr2 tr3 tr4:Tok}
  (zR:ϓ K mainGlobals "RECKONS"=some (some (.ref gR)))
  (lR:K.lookup gR=some ⟨.type "tuple",odR,.seq #[.str "plus" tr0,.str "minus" tr1,.str "times" tr2,.str "less" tr3,.str "same" tr4] nR,slR⟩)
  {gS:Addr}
  (zS:ϓ K mainGlobals "SHAPES"=some (some (.ref gS)))
  {C fI fM fN fB:Addr} {odI anI odM anM odN anN odB anB:Option Addr} {slI slM slN slB:Array (Option ζ)} {ocI kVI dcI pmI cdI ctI ocM kVM dcM pmM cdM ctM ocN kVN dcN pmN cdN ctN ocB kVB dcB pmB cdB ctB:ζ}
  (aC:ϓ K mainGlobals "Signs"=some (some (.ref C)))
  (aI:Ϥ K (.ref C) "__init__"=some (some (.ref fI))) (iI:C3 K (.ref fI)=true)
  (lI:K.lookup fI=some ⟨ocI,odI,.func (j3 "__init__" "Signs.__init__" (cg gg) (bS gg) (af gg) .none kVI dcI pmI anI cdI ctI),slI⟩)
  (cI:r_ K cdI "Signs.__init__"=true) (kI:ϥ K (.ref fI)=true)
  (aM:Ϥ K (.ref C) "met"=some (some (.ref fM))) (iM:C3 K (.ref fM)=true)
  (lM:K.lookup fM=some ⟨ocM,odM,.func (j3 "met" "Signs.met" (cg mH) (bS mH) (af mH) .none kVM dcM pmM anM cdM ctM),slM⟩)
  (cM:r_ K cdM "Signs.met"=true) (kM:ϥ K (.ref fM)=true)
  (aN:Ϥ K (.ref C) "next_word"=some (some (.ref fN))) (iN:C3 K (.ref fN)=true)
  (lN:K.lookup fN=some ⟨ocN,odN,.func (j3 "next_word" "Signs.next_word" (cg bV) (bS bV) (af bV) .none kVN dcN pmN anN cdN ctN),slN⟩)
  (cN:r_ K cdN "Signs.next_word"=true) (kN:ϥ K (.ref fN)=true)
  (aB:Ϥ K (.ref C) "branch"=some (some (.ref fB))) (iB:C3 K (.ref fB)=true)
  (lB:K.lookup fB=some ⟨ocB,odB,.func (j3 "branch" "Signs.branch" (cg ee) (bS ee) (af ee) .none kVB dcB pmB anB cdB ctB),slB⟩)
  (cB:r_ K cdB "Signs.branch"=true) (kB:ϥ K (.ref fB)=true)
  (pg:C2 K C d_=true) (hd:EV K C=true) (po:FX K C=true) (sa:Ϥ K (.ref C) "__setattr__"=some (some (.builtin "object.__setattr__"))) (mk:Gg K C=true) (kc:ϥ K (.ref C)=true)
  (nT:Ϥ K (.ref C) "text"=some none) (nA:Ϥ K (.ref C) "at"=some none)
  (sS:XB.Shp l.prog w K gS)
  :
  ∃fd:Θ,(∀(s:ι)(v:ζ),Gy s fd ⟨[v],[]⟩ [("_law_script",v)])/\∀base:Heap,K.In base->base.Ns mainGlobals mg->av l.prog w K mg base CX0 39 fa fd ["_law_script"] (vd K):=by
 have e:=hfa.symm.trans (ϙ X G d64.a)
 cases e
 have T:Txt K mg:=⟨Ϡ X G z1,Ϡ X G z2,Ϡ X G z3,Ϡ X G z4,Ϡ X G z5,Ϡ X G z6,Ϡ X G z7,Ϡ X G z8,Ϡ X G z9,Ϡ X G z10,Ϡ X G z11,Ϡ X G z12,Ϡ X G z13,Ϡ X G z14,⟨tg0,ϙ X G zg0⟩,⟨tg1,ϙ X G zg1⟩,⟨tg2,ϙ X G zg2⟩,⟨tg3,ϙ X G zg3⟩,⟨tg4,ϙ X G zg4⟩,⟨tg5,ϙ X G zg5⟩,⟨tg6,ϙ X G zg6⟩,⟨tg7,ϙ X G zg7⟩,⟨tg8,ϙ X G zg8⟩,⟨tg9,ϙ X G zg9⟩⟩
 have b1:=d1.F.binds (ps:=["thing"]) λ_ _ _ _ _ _=>us1 λ_=>rfl
 have b2:=d2.F.binds (ps:=["thing"]) λ_ _ _ _ _ _=>us1 λ_=>rfl
 have b3:=d3.F.binds (ps:=["thing"]) λ_ _ _ _ _ _=>us1 λ_=>rfl
 have b4:=d4.F.binds (ps:=["thing"]) λ_ _ _ _ _ _=>us1 λ_=>rfl
 have b5:=d5.F.binds (ps:=["thing"]) λ_ _ _ _ _ _=>us1 λ_=>rfl
 have b6:=d6.F.binds (ps:=["thing"]) λ_ _ _ _ _ _=>us1 λ_=>rfl
 have b7:=d7.F.binds (ps:=["thing"]) λ_ _ _ _ _ _=>us1 λ_=>rfl
 have b8:=d8.F.binds (ps:=["thing"]) λ_ _ _ _ _ _=>us1 λ_=>rfl
 have b9:=d9.F.binds (ps:=["point"]) λ_ _ _ _ _ _=>us1 λ_=>rfl
 have b10:=d10.F.binds (ps:=["thing"]) λ_ _ _ _ _ _=>us1 λ_=>rfl
 have b11:=d11.F.binds (ps:=["thing","bound"]) λ_ _ _ _ _ _=>us2 λ_ _=>rfl
 have b12:=d12.F.binds (ps:=["thing"]) λ_ _ _ _ _ _=>us1 λ_=>rfl
 have b13:=d13.F.binds (ps:=["thing","least"]) λ_ _ _ _ _ _=>us2 λ_ _=>rfl
 have b14:=d14.F.binds (ps:=["sort","thing"]) λ_ _ _ _ _ _=>us2 λ_ _=>rfl
 have b15:=d15.F.binds (ps:=["thing"]) λ_ _ _ _ _ _=>us1 λ_=>rfl
 have b16:=d16.F.binds (ps:=["node"]) λ_ _ _ _ _ _=>us1 λ_=>rfl
 have b17:=d17.F.binds (ps:=["thing"]) λ_ _ _ _ _ _=>us1 λ_=>rfl
 have b18:=d18.F.binds (ps:=["thing"]) λ_ _ _ _ _ _=>us1 λ_=>rfl
 have b19:=d19.F.binds (ps:=["thing"]) λ_ _ _ _ _ _=>us1 λ_=>rfl
 have b20:=d20.F.binds (ps:=["thing"]) λ_ _ _ _ _ _=>us1 λ_=>rfl
 have b21:=d21.F.binds (ps:=["thing"]) λ_ _ _ _ _ _=>us1 λ_=>rfl
 have b22:=d22.F.binds (ps:=["x","kind"]) λ_ _ _ _ _ _=>us2 λ_ _=>rfl
 have b23:=d23.F.binds (ps:=["row"]) λ_ _ _ _ _ _=>us1 λ_=>rfl
 have b24:=d24.F.binds (ps:=["program"]) λ_ _ _ _ _ _=>us1 λ_=>rfl
 have b25:=d25.F.binds (ps:=["branch"]) λ_ _ _ _ _ _=>us1 λ_=>rfl
 have b26:=d26.F.binds (ps:=["text"]) λ_ _ _ _ _ _=>us1 λ_=>rfl
 have b27:=d27.F.binds (ps:=["text"]) λ_ _ _ _ _ _=>us1 λ_=>rfl
 have b28:=d28.F.binds (ps:=["text","number"]) λ_ _ _ _ _ _=>us2 λ_ _=>rfl
 have b29:=d29.F.binds (ps:=["text"]) λ_ _ _ _ _ _=>us1 λ_=>rfl
 have b30:=d30.F.binds (ps:=["name","times"]) λ_ _ _ _ _ _=>us2 λ_ _=>rfl
 have b31:=d31.F.binds (ps:=["a"]) λ_ _ _ _ _ _=>us1 λ_=>rfl
 have b32:=d32.F.binds (ps:=["word","texts"]) λ_ _ _ _ _ _=>us2 λ_ _=>rfl
 have b33:=d33.F.binds (ps:=["kind"]) λ_ _ _ _ _ _=>us1 λ_=>rfl
 have b34:=d34.F.binds (ps:=["sort","given"]) λ_ _ _ _ _ _=>us2 λ_ _=>rfl
 have b35:=d35.F.binds (ps:=["expressions"]) λ_ _ _ _ _ _=>us1 λ_=>rfl
 have b36:=d36.F.binds (ps:=["expression"]) λ_ _ _ _ _ _=>us1 λ_=>rfl
 have b37:=d37.F.binds (ps:=["text"]) λ_ _ _ _ _ _=>us1 λ_=>rfl
 have b38:=d38.F.binds (ps:=["word"]) λ_ _ _ _ _ _=>us1 λ_=>rfl
 have b39:=d39.F.binds (ps:=["text"]) λ_ _ _ _ _ _=>us1 λ_=>rfl
 have b40:=d40.F.binds (ps:=["text"]) λ_ _ _ _ _ _=>us1 λ_=>rfl
 have b41:=d41.F.binds (ps:=["branch"]) λ_ _ _ _ _ _=>us1 λ_=>rfl
 have b42:=d42.F.binds (ps:=["branch"]) λ_ _ _ _ _ _=>us1 λ_=>rfl
 have b43:=d43.F.binds (ps:=["branch"]) λ_ _ _ _ _ _=>us1 λ_=>rfl
 have b44:=d44.F.binds (ps:=["sort","branch"]) λ_ _ _ _ _ _=>us2 λ_ _=>rfl
 have b45:=d45.F.binds (ps:=["word"]) λ_ _ _ _ _ _=>us1 λ_=>rfl
 have b46:=d46.F.binds (ps:=["branch"]) λ_ _ _ _ _ _=>us1 λ_=>rfl
 have b47:=d47.F.binds (ps:=["text"]) λ_ _ _ _ _ _=>us1 λ_=>rfl
 have b48:=d48.F.binds (ps:=["text","reader","is_one","shower","place"]) λ_ _ _ _ _ _=>us5 λ_ _ _ _ _=>rfl
 have b49:=d49.F.binds (ps:=["_law_state_here","_law_many"]) λ_ _ _ _ _ _=>us2 λ_ _=>rfl
 have b50:=d50.F.binds (ps:=["_law_script","_law_k"]) λ_ _ _ _ _ _=>us2 λ_ _=>rfl
 have b51:=d51.F.binds (ps:=["_law_state_here","_law_many"]) λ_ _ _ _ _ _=>us2 λ_ _=>rfl
 have b52:=d52.F.binds (ps:=["_law_state_here","_law_names_here","_law_most"]) λ_ _ _ _ _ _=>us3 λ_ _ _=>rfl
 have b53:=d53.F.binds (ps:=["_law_length_here"]) λ_ _ _ _ _ _=>us1 λ_=>rfl
 have b54:=d54.F.binds (ps:=["_law_kind_here"]) λ_ _ _ _ _ _=>us1 λ_=>rfl
 have b55:=d55.F.binds (ps:=["_law_walk"]) λ_ _ _ _ _ _=>us1 λ_=>rfl
 have b56:=d56.F.binds (ps:=["_law_state_here","_law_names_here","_law_room"]) λ_ _ _ _ _ _=>us3 λ_ _ _=>rfl
 have b57:=d57.F.binds (ps:=[]) λ_ _ _ _ _ _=>us0 rfl
 have b58:=d58.F.binds (ps:=["_law_letter","_law_node","_law_world_here"]) λ_ _ _ _ _ _=>us3 λ_ _ _=>rfl
 have b59:=d59.F.binds (ps:=["_law_word","_law_parts","_law_texts","_law_node","_law_world_here"]) λ_ _ _ _ _ _=>us5 λ_ _ _ _ _=>rfl
 have b60:=d60.F.binds (ps:=["_law_walk","_law_world_here","_law_room","_law_budget"]) λ_ _ _ _ _ _=>us4 λ_ _ _ _=>rfl
 have b61:=d61.F.binds (ps:=["_law_state_here"]) λ_ _ _ _ _ _=>us1 λ_=>rfl
 have b62:=d62.F.binds (ps:=["_law_walk","_law_world_here"]) λ_ _ _ _ _ _=>us2 λ_ _=>rfl
 have b63:=d63.F.binds (ps:=["_law_script"]) λ_ _ _ _ _ _=>us1 λ_=>rfl
 obtain⟨_,_,kV,doc,pm,an,cdv,ct,_,rfl,_⟩:=id d64.F.ex
 refine⟨j3 "law" "law" (cg kQ) (bS kQ) (af kQ) .none kV doc pm an cdv ct,λs v=>.of_eq rfl,λbase _ _=>?_⟩
 have hRK:∀H,SqT K H gR (qM.map V.str):=λH=>.inr ⟨_,_,_,lR,rfl,rfl,(by show 5<=sizeLine;rw[θ];decide),.cons ⟨_,rfl⟩ (.cons ⟨_,rfl⟩ (.cons ⟨_,rfl⟩ (.cons ⟨_,rfl⟩ (.cons ⟨_,rfl⟩ .nil))))⟩
 have D1:=d1.d X G b1 (qZ d1.F T (P:=l.prog) (w:=w) (base:=base))
 have D2:=d2.d X G b2 (ug d2.F T (P:=l.prog) (w:=w) (base:=base))
 have D3:=d3.d X G b3 (sq (k:=1) d3.F T (D1.up ()) (D2.up ()))
 have D4:=d4.d X G b4 (om (k:=2) d4.F T (D3.up ()))
 have D5:=d5.d X G b5 (oz (k:=3) d5.F T (D1.up ()) (D4.up ()))
 have D6:=d6.d X G b6 (qa (k:=4) d6.F T (D5.up ()))
 have D7:=d7.d X G b7 (qN d7.F T (P:=l.prog) (w:=w) (base:=base))
 have D8:=d8.d X G b8 (rc (k:=5) d8.F T (D7.up ()) (D6.up ()))
 have D9:=d9.d X G b9 (sv (P:=l.prog) (w:=w) (base:=base) d9.F T)
 have D10:=d10.d X G b10 (tY (k:=6) d10.F T (D8.up ()) (D9.up ()))
 have D11:=d11.d X G b11 (qv (k:=1) d11.F T (D1.up ()))
 have D13:=d13.d X G b13 (xa d13.F T (P:=l.prog) (w:=w) (base:=base))
 have D12:=d12.d X G b12 (lV (k:=1) d12.F T sS (ϙ X G zS) (ϙ X G zR) hRK (D2.up ()))
 have D14:=d14.d X G b14 (Af (k:=7) d14.F T (ϙ X G zR) hRK (D11.up ()) (D2.up ()) (D6.up ()) (D10.up ()) (D12.up ()) (D13.up ()))
 have D15:=d15.d X G b15 (tJ (k:=8) d15.F T sS (ϙ X G zS) (D7.up ()) (D14.up ()))
 have D16:=d16.d X G b16 (rK d16.F T sS (ϙ X G zS) (P:=l.prog) (w:=w) (base:=base))
 have D17:=d17.d X G b17 (tw (k:=9) d17.F T (D15.up ()) (D16.up ()))
 have cl:Cls K C:=⟨pg,hd,po,sa⟩
 have FI:=lW (st:=gg) lI cI kI
 have bI:=FI.binds (ps:=["self","text"]) λ_ _ _ _ _ _=>us2 λ_ _=>rfl
 have FM:=lW (st:=mH) lM cM kM
 have bM:=FM.binds (ps:=["self","signs"]) λ_ _ _ _ _ _=>us2 λ_ _=>rfl
 have FN:=lW (st:=bV) lN cN kN
 have bN:=FN.binds (ps:=["self"]) λ_ _ _ _ _ _=>us1 λ_=>rfl
 have FB:=lW (st:=ee) lB cB kB
 have bB:=FB.binds (ps:=["self","most"]) λ_ _ _ _ _ _=>us2 λ_ _=>rfl
 have OI:av l.prog w K mg base CX0 1 fI _ _ _:=xA FI T cl nT nA
 have OM:av l.prog w K mg base CX0 1 fM _ _ _:=Cw FM T cl nT nA
 have ON:av l.prog w K mg base CX0 1 fN _ _ _:=og FN T cl nT nA
 have chB:∀n,av l.prog w K mg base CX0 (1+n) fB _ ["self","most"] (fe C n):=λn=>by
  induction n with
  |zero=>exact dM λvs H Q E h=>by obtain⟨a,x,i,most,t,post,_,_,_,_,_,_,_,h1,h2,_⟩:=h;omega
  |succ n ih=>exact wt (k0:=1+n) FB T cl ⟨aN,iN,kN⟩ (ON.mono ()) bN ⟨aM,iM,kM⟩ (OM.mono ()) bM ⟨aB,iB,kB⟩ ih bB
 have D30:=d30.d X G b30 (oi d30.F T (P:=l.prog) (w:=w) (base:=base))
 have D31:=d31.d X G b31 (lg (k:=1) d31.F T (D30.up ()))
 have D32:=d32.d X G b32 (Ae d32.F T (P:=l.prog) (w:=w) (base:=base))
 have ch33:∀n,av l.prog w K mg base CX0 (2+n) f33 _ ["kind"] (gp n):=λn=>by
  induction n with
  |zero=>exact dM λvs H Q E h=>by obtain⟨v,k,_,_,z,_⟩:=h;have:=k.size_pos;omega
  |succ n ih=>exact oA (k0:=2+n) d33.F T (D32.up ()) (D31.up ()) (d33.d X G b33 ih)
 have D33:=d33.d X G b33 (ch33 12)
 have ch36:∀n,av l.prog w K mg base CX0 (14+2*n) f36 _ ["expression"] (qI n):=λn=>by
  induction n with
  |zero=>exact dM λvs H Q E h=>by obtain⟨v,d,b,_,_,z,_⟩:=h;exact z
  |succ n ih=>exact gA (k:=14+2*n+1) d36.F T sS (ϙ X G zS) (D32.up ()) (d35.d X G b35 (qB (k:=14+2*n) d35.F T (d36.d X G b36 ih))) (d34.d X G b34 (lq (k:=14+2*n) d34.F T (D31.up ()) (D33.up ()) (d36.d X G b36 ih)))
 have D36:=d36.d X G b36 (ch36 8)
 have D37:=d37.d X G b37 (pp (k0:=21) d37.F T cl ⟨mk,aI,iI,kc⟩ (OI.mono ()) bI (ϙ X G aC) ⟨aB,iB,kB⟩ (chB 21) bB)
 have D38:=d38.d X G b38 (pK d38.F T (P:=l.prog) (w:=w) (base:=base))
 have D39:=d39.d X G b39 (uq (k:=1) d39.F T (D38.up ()))
 have D40:=d40.d X G b40 (oN (k:=2) d40.F T (D38.up ()) (D39.up ()))
 have D42:=d42.d X G b42 (oB (k:=3) d42.F T (D40.up ()))
 have D41:=d41.d X G b41 (mm d41.F T (P:=l.prog) (w:=w) (base:=base))
 have D45:=d45.d X G b45 (sX (k:=1) d45.F T (D38.up ()))
 have ch43:∀n,av l.prog w K mg base CX0 (4+n) f43 _ ["branch"] (fE n):=λn=>by
  induction n with
  |zero=>exact dM λvs H Q E h=>by obtain⟨v,k,_,_,z,_⟩:=h;have:=k.size_pos;omega
  |succ n ih=>exact tG (k0:=4+n) d43.F T (D42.up ()) (d43.d X G b43 ih)
 have D43:=d43.d X G b43 (ch43 12)
 have ch46:∀n,av l.prog w K mg base CX0 (16+2*n) f46 _ ["branch"] (nj n):=λn=>by
  induction n with
  |zero=>exact dM λvs H Q E h=>by obtain⟨v,d,b,_,_,z,_⟩:=h;exact z
  |succ n ih=>exact iH (k:=16+2*n+1) d46.F T sS (ϙ X G zS) (ϙ X G zR) hRK (D45.up ()) (d44.d X G b44 (pU (k:=16+2*n) d44.F T (D42.up ()) (D43.up ()) (D41.up ()) (d46.d X G b46 ih))) ((d46.d X G b46 ih).up ())
 have D46:=d46.d X G b46 (ch46 8)
 have Fx:=iE (k0:=32) d47.F T (D37.up ()) (D46.up ())
 have D47:=d47.d X G b47 Fx
 have D18:=d18.d X G b18 (oF (k:=1) d18.F T (D13.up ()) (D2.up ()))
 have D19:=d19.d X G b19 (qm (k:=7) d19.F T (D2.up ()) (D10.up ()))
 have D20:=d20.d X G b20 (ml (k:=8) d20.F T (D13.up ()) (D19.up ()))
 have Fi:=wR (k:=10) d21.F T (D7.up ()) (D17.up ()) (D12.up ()) (D18.up ()) (D20.up ())
 have D22:=d22.d X G b22 (mw (k:=14) d22.F T (D33.up ()))
 have Fs:=qu (k:=30) d23.F T (D22.up ()) (D36.up ()) (D32.up ())
 have D23:=d23.d X G b23 Fs
 have D24:=d24.d X G b24 (zH (k:=31) d24.F T (D23.up ()))
 have D25:=d25.d X G b25 (rq (k:=16) d25.F T (D43.up ()))
 have D26:=d26.d X G b26 (wc (k:=33) d26.F T (D37.up ()) (D25.up ()) (D47.up ()))
 have Ft:=jQ (k:=34) d27.F T (D47.up ()) (D26.up ())
 have DJ:=d48.d X G b48 (tU (k0:=35) (W:=WR1) d48.F T (Ft.mono ()) d27.F.kp b27 ((Fi.mono ()).imp BW) d21.F.kp b21 (Fs.mono ()) d23.F.kp b23)
 have D28:=d28.d X G b28 (pM (k0:=36) d28.F T DJ (ϙ X G d27.a) (ϙ X G d21.a) (ϙ X G d23.a))
 have D29:=d29.d X G b29 (Ax (k:=37) d29.F T (D28.up ()))
 have D49:=d49.d X G b49 (Ar d49.F T (P:=l.prog) (w:=w) (base:=base))
 have D50:=d50.d X G b50 (yD d50.F T (P:=l.prog) (w:=w) (base:=base))
 have D51:=d51.d X G b51 (xV (k:=1) d51.F T (D49.up ()))
 have D52:=d52.d X G b52 (xj (k:=1) d52.F T (D49.up ()))
 have D53:=d53.d X G b53 (yO d53.F T (P:=l.prog) (w:=w) (base:=base))
 have ch54:∀n,av l.prog w K mg base CX0 (1+n) f54 _ ["_law_kind_here"] (gp n):=λn=>by
  induction n with
  |zero=>exact dM λvs H Q E h=>by obtain⟨v,k,_,_,z,_⟩:=h;have:=k.size_pos;omega
  |succ n ih=>exact yf (k0:=1+n) d54.F T (D53.up ()) (d54.d X G b54 ih)
 have D54:=d54.d X G b54 (ch54 12)
 have ch56:∀n,av l.prog w K mg base CX0 (2+n) f56 _ ["_law_state_here","_law_names_here","_law_room"] (jM n):=λn=>by
  induction n with
  |zero=>exact dM λvs H Q E h=>by obtain⟨a,b,rm,xs,_,h1,h2,_⟩:=h;omega
  |succ n ih=>exact zG (k0:=2+n) d56.F T (D49.up ()) (D52.up ()) (d56.d X G b56 ih)
 have D56:=d56.d X G b56 (ch56 12)
 have D55:=d55.d X G b55 (zo (k:=1) d55.F T (D50.up ()))
 have D57:=d57.d X G b57 (yZ d57.F T (P:=l.prog) (w:=w) (base:=base))
 have D58:=d58.d X G b58 (yS (k:=14) d58.F T (D49.up ()) (D52.up ()) (D53.up ()) (D56.up ()) (D54.up ()))
 have D59:=d59.d X G b59 (xw (k:=1) d59.F T (D49.up ()))
 have D61:=d61.d X G b61 (yn (k:=2) d61.F T (D51.up ()) (D49.up ()))
 have ch60:∀n,av l.prog w K mg base CX0 (15+n) f60 _ ["_law_walk","_law_world_here","_law_room","_law_budget"] (Ai K n):=λn=>by
  induction n with
  |zero=>exact dM λvs H Q E h=>by obtain⟨_,_,_,_,_,_,_,_,_,_,room,bud,_,_,_,_,_,h1,h2,_⟩:=h;omega
  |succ n ih=>exact mx (k:=15+n) d60.F T (D55.up ()) (D57.up ()) (D49.up ()) (D58.up ()) (D59.up ()) (d60.d X G b60 ih)
 have D60:=d60.d X G b60 (ch60 8)
 have D62:=d62.d X G b62 (BY (k:=23) d62.F T (D55.up ()) (D49.up ()) (D56.up ()) (D54.up ()) (D60.up ()))
 have D63:=d63.d X G b63 (sV (k:=24) d63.F T (D49.up ()) (D50.up ()) (D61.up ()) (D62.up ()))
 exact BZ (k0:=38) d64.F T (D63.up ()) (D24.up ()) (D29.up ())
theorem walk{l:Gj}{q:χ}{loose:List Str}{XP:(Str->Option ζ)->Heap->Prop}{YP:Ρ->Heap->Prop}{d:DefRec}{K:Params->ε}(hn:l.most=some 63)(hdf:d.params.defaults=[])
  (hY:∀(w:Ρ)(h:Heap),YP w h->(K w.params).In h)
  (F:∀(w:Ρ)(mg:Str->Option ζ)(fa:Addr)(h:Heap),(K w.params).In h->h.Ns mainGlobals mg->mg d.name=some (.ref fa) ->
   ∃fd:Θ,(∀(s:ι)(u:ζ),Gy s fd ⟨[u],[]⟩ [("_law_script",u)])/\∀base:Heap,(K w.params).In base->base.Ns mainGlobals mg->av l.prog w (K w.params) mg base CX0 39 fa fd ["_law_script"] (vd (K w.params))):
  PySem.W.WalkO q loose XP YP l.row.toRowW d [] (λf vs=>PySem.call f vs):=
 L2.walk_of (n:=63) (k:=39) (x:="_law_script") (CX:=λ_=>CX0) (sp:=λw=>vd (K w.params)) hn () hdf ⟨rfl,(),()⟩ hY F (λ_ _ a ns hl _ hS=>⟨a,ns,rfl,hS,hl,λ_=>rfl⟩) λ_ _ _ _ _ z=>z
end K63
namespace PySem.W.Fast
def tw10669019286020735092:=0
def tw16377958312118405895:=0
def tw4750862383455258447:=0
def tw931652834592561762:=0
def tw3844495893301429817:=0
def tw1902941250274118186:=0
def tw17959219818122363026:=0
def tw3984448021950115026:=0
def tw16865464392406089170:=0
def tw5754165823272540716:=0
def tw12606790538537305952:=0
def tw3809699169086311570:=0
def tw3626454798104890205:=0
def tw14735373878914717314:=0
def tw9870860867904566229:=0
def tw9482281813879738599:=0
def tw15176265440384528236:=0
def tw9991399147329668611:=0
def tw7473391483362484692:=0
def tw13210858286298630639:=0
def tw9926623665634942648:=0
def tw17380260412564590998:=0
def tw7279549114342576636:=0
def tw16165012368647217168:=0
def tw10866595500132371573:=0
def tw16485736520614364824:=0
def tw14316375563229168465:=0
def tw13034651522996919206:=0
def tw5476806505115203354:=0
def tw4587260602673049:=0
def tw4429880672965957057:=0
def tw7966189422359256463:=0
def tw6499760428102869689:=0
def tw6502444014802592745:=0
def tw249629141782026182:=0
def tw17056237710318763209:=0
def tw2874219303227198985:=0
def tw13809613582825010263:=0
def tw12948183677309877319:=0
def tw9644897506727482941:=0
def tw14905136175560754338:=0
def tw7870636835588427131:=0
def tw5835805965605179161:=0
def tw2675928835798962526:=0
def tw13527717754119799005:=0
def tw839492722109859017:=0
def tw594333105963235614:=0
def tw9219038445401906604:=0
def tw12548357294995258519:=0
def tw384551728083668081:=0
def tw1893645612251451455:=0
def tw14359349149638445059:=0
def tw5695017979900843389:=0
def tw3116440408740991429:=0
def tw14103954453885025394:=0
def tw2758261364592193879:=0
def tw5787640627979594374:=0
def tw16403801309085377352:=0
def tw15572946521223379331:=0
def tw10297175113900083876:=0
def tw3188701892092451482:=0
def tw7007247703450369082:=0
def tw14140785346265834192:=0
def tw1224888279655271859:=0
def tw3248394780795987301:=0
def tw9620435347179116676:=0
def tw8967791895102362227:=0
def tw2250396046065096819:=0
def tw6419515577523257695:=0
def tw12884376074618978174:=0
def tw11478079621373532189:=0
def tw17366045938680120447:=0
def tw11171791601239106847:=0
def tw12183380552826659220:=0
def tw8053030923986799316:=0
def tw16748669951562149643:=0
def tw5938090025580178637:=0
def tw7902268171063553278:=0
def tw17092694585175116420:=0
def tw4592920805954140012:=0
def tw3190596348255083814:=0
def tw5280835176970011109:=0
def tw4082146406502026340:=0
def tw3009911576525278558:=0
def tw14918173824719000354:=0
def tw14738723405002824721:=0
def tw8380113464513173883:=0
def tw8177128917591831978:=0
def tw8338473650164251876:=0
def tw4191875790376691510:=0
def tw11248731486617550082:=0
def tw16220940783729645751:=0
def tw6648466410290210124:=0
def tw15043499233762649029:=0
def tw14802898379199278647:=0
def tw9368346984208990313:=0
def tw13745930105756053036:=0
def tw7573052248569667876:=0
def tw14142505012037769005:=0
def tw590377542651511698:=0
def tw11318305754468457408:=0
def tw4061913544494109560:=0
def tw762480501756041433:=0
def tw2147329424076906559:=0
def tw10287434787618176523:=0
def tw9243323177150984458:=0
def tw1138171764030680580:=0
def tw10023430831242654028:=0
def tw7719657203161634680:=0
def tw13808909055884609880:=0
def tw11139060139291530768:=0
def tw16867816313125062927:=0
def tw2118515800162831083:=0
def tw2538851718053192704:=0
def tw7056844396822437460:=0
def tw5245092952957553024:=0
def tw6116231608536805945:=0
def tw2537005050931679825:=0
def tw14799954141337144179:=0
def tw11614528911216558126:=0
def tw1217318032308254206:=0
def tw5884711023199182315:=0
def tw76269906810220257:=0
def tw9238340981739085557:=0
def tw16328391930869619298:=0
def tw5371516017511933559:=0
def tw17394025462465054973:=0
def tw14254381955238723834:=0
def tw4822552325534559137:=0
def tw12941169520714989483:=0
def tw3154557859730582840:=0
def tw12300111815527890110:=0
def tw8697423470457430535:=0
def tw15610673000191410755:=0
def tw14063109731675403770:=0
def tw3545795677025327474:=0
def tw113849163645199608:=0
def tw635911087059699739:=0
def tw2080426422455629064:=0
def tw12551891458499970673:=0
def tw8389178257506339763:=0
def tw3146970998516594383:=0
def tw9905692760532674673:=0
def tw6744010584438499602:=0
def tw1590665742179676860:=0
def tw884642842933948269:=0
def tw10419252356010574169:=0
def tw11504125633920761964:=0
def tw15890492593205051590:=0
def tw8171236733669907087:=0
def tw4633884782696929975:=0
def tw14007778750292113522:=0
def tw2442878866702826908:=0
def tw9051260006846688655:=0
def tw339329237756502461:=0
def tw16533982388154646250:=0
def tw11355324126380146165:=0
def tw12835521381482665766:=0
def tw8661877224642227013:=0
def tw3953293808713801256:=0
def tw8387260882131461108:=0
def tw10007995688230201687:=0
def tw16281097326244329469:=0
def tw12051902149318121327:=0
def tw3453375678424727400:=0
def tw13893281883171092540:=0
def tw17517868129057455709:=0
def tw13998341436684825997:=0
def tw16135507989985830156:=0
def tw6152941556489145570:=0
def tw7001592468927137177:=0
def tw16632135970894879795:=0
def tw15585761838520034721:=0
def tw5743802010909017411:=0
def tw11701660335508236987:=0
def tw6298942564845307996:=0
def tw9270931926576280802:=0
def tw6576082483968973781:=0
def tw6358508595570708245:=0
def tw3632312749797634227:=0
def tw12959876256973081002:=0
def tw11956862425480951131:=0
def tw17418275428293715285:=0
def tw15015819980951407343:=0
def tw5353630005134123885:=0
def tw6773261522186570313:=0
def tw363694382528316271:=0
def tw9556713817006100431:=0
def tw1191809330096826424:=0
def tw2066623466784640213:=0
def tw11046587962055689954:=0
def tw7378861427711622685:=0
def tw3854027175522286373:=0
def tw1378641216218723496:=0
def tw14443453349276917888:=0
def tw10864931899720792504:=0
def tw9113783421019824756:=0
def tw13985666437780663510:=0
def tw3218552603003015942:=0
def tw9327701359723787159:=0
def tw18017396724812105130:=0
def tw6917841416808547591:=0
def tw391943740382912975:=0
def tw14041312414755704772:=0
def tw4730684022307718558:=0
def tw7743799870272408171:=0
def tw13375566115879582059:=0
def tw964106039594561639:=0
def tw16161835185624233701:=0
def tw1871802792956771007:=0
def tw18278182945313559555:=0
def tw15282095537018685985:=0
def tw14215648939700268856:=0
def tw16782338700243279418:=0
def tw16208787047430506087:=0
def tw15649197024768819367:=0
def tw4450307671377718687:=0
def tw12827267586171023187:=0
def tw6090320082673733752:=0
def tw4224225534085543393:=0
def tw8331281595825717700:=0
def tw3775414731147033630:=0
def tw10490380124106316673:=0
def tw8190428036832541555:=0
def tw14660720080616147904:=0
def tw17228111396882170999:=0
def tw4928717438193470224:=0
def tw9821283455528017744:=0
def tw8900505978358909215:=0
def tw17644925118607050287:=0
def tw2103865467758475847:=0
def tw15062717017104106588:=0
def tw16399996155508592955:=0
def tw2504822539167250572:=0
def tw17022218992214920342:=0
def tw10164306578494315448:=0
def tw17447901218080396863:=0
def tw2451883794598747597:=0
def tw6049257479242377091:=0
def tw2365179931761291161:=0
def tw568691322542244160:=0
def tw14072700867760174896:=0
def tw4884291264065217581:=0
def tw6653053649262808677:=0
def tw11181025818432303982:=0
def tw6191497874103595508:=0
def tw16919223227584472055:=0
def tw9277693466452412215:=0
def tw7797146387436410943:=0
def tw5778246423929623506:=0
def tw13484144695295197464:=0
def tw16533381978452301015:=0
def tw5009261170852524356:=0
def tw2806834255977447563:=0
def tw422964322565162052:=0
def tw1000710766496853933:=0
def tw15272199765480514381:=0
def tw5604686708998442508:=0
def tw16648530939334937059:=0
def tw13376696903565077777:=0
def tw11712644613681355117:=0
def tw13231730170499187650:=0
def tw5890725042173201051:=0
def tw10740657600576393715:=0
def tw2150401804167871983:=0
def tw8580382347837971088:=0
def tw7882034325306639246:=0
def tw13541726110514738431:=0
def tw10144902137986233938:=0
def tw6220048764838441785:=0
def tw4471747684373766889:=0
def tw8751163473907290968:=0
def tw6087099032463525628:=0
def tw10193792628997343613:=0
def tw13331161876325593526:=0
def tw41090568742674708:=0
def tw18383383644580852602:=0
def tw1594014139417582337:=0
def tw7956310278115635803:=0
def tw5180154449359639300:=0
def tw5299454037440303122:=0
def tw15326587090831705475:=0
def tw1659351938232003866:=0
def tw7016518348103199803:=0
def tw15286632553256554679:=0
def tw16938139098822195365:=0
def tw11705966903186295157:=0
def tw8121723666872270092:=0
def tw11260794611446952193:=0
def tw18429918361721669344:=0
def tw6901097122086467349:=0
def tw7059210086906794405:=0
def tw15943027585696220591:=0
def tw260692422670178500:=0
def tw6056209985629191402:=0
def tw10568161854779660274:=0
def tw12436376674125147218:=0
def tw6855429548913250082:=0
def tw1842237882963580029:=0
def tw15689041248431312245:=0
def tw11761211352822155660:=0
def tw12245685845685608812:=0
def tw6183559422713248604:=0
def tw672726676611469519:=0
def tw6238130940367512539:=0
def tw9964610492932937349:=0
def tw2651964301228796874:=0
def tw2490520727648775004:=0
def tw12765558781247566209:=0
def tw7409726444356860647:=0
def tw11289539351926021608:=0
def tw18422658496197646250:=0
def tw12062268825427204717:=0
def tw2111677366488653338:=0
def tw2712993127939806636:=0
def tw9847572744849427291:=0
def tw15716925000428605772:=0
def tw15439876123813388777:=0
def tw420318688235457640:=0
def tw13119377737638165910:=0
def tw7516473887131379438:=0
def tw1616816918029115053:=0
def tw2581767645566648777:=0
def tw12912704772037315584:=0
def tw17437343806653987955:=0
def tw4085350808236533432:=0
def tw2059138367844093380:=0
def tw7418104470615862163:=0
def tw8538886123339749022:=0
def tw2141642370599043596:=0
def tw2684449196355168651:=0
def tw498147664526947301:=0
def tw13832640199148119905:=0
def tw8624217962740517875:=0
def tw15476093676250970225:=0
def tw1538855398176190460:=0
def tw872847368945099284:=0
def tw13223530606378581435:=0
def tw6445406445989947160:=0
def tw2200710530598278373:=0
def tw17702999794041924255:=0
def tw4774774578789610293:=0
def tw8811909235389303180:=0
def tw4524320939947057101:=0
def tw17603364594782832429:=0
def tw17500833434062969332:=0
def tw8645989464901371758:=0
def tw14916045331933002461:=0
def tw13147992246813095431:=0
def tw2495507785550662209:=0
def tw11773078673073224596:=0
def tw15068950982992527617:=0
def tw14832013112641332851:=0
end PySem.W.Fast
open PySem PySem.W PyProof.Rows
set_option maxRecDepth 100000 in
set_option maxHeartbeats 0 in
theorem PySem.Challenge.cw_indexwise_k63_programs_written_holds : PySem.Challenge.rw_indexwise_k63_programs_written.Holds := by
 w_on;o_law;k_head;(case hw=>w_witness2)
 k_fill
 refine K63.walk (l := PySem.Challenge.rw_indexwise_k63_programs_written) rfl rfl (λw h Y => PySem.W.kIn_of Y) ?F
 case F=>
  intro w mg fa h KX G hmg
  refine' K63.all_mk KX G hmg ?d1 ?d2 ?d3 ?d4 ?d5 ?d6 ?d7 ?d8 ?d9 ?d10 ?d11 ?d12 ?d13 ?d14 ?d15 ?d16 ?d17 ?d18 ?d19 ?d20 ?d21 ?d22 ?d23 ?d24 ?d25 ?d26 ?d27 ?d28 ?d29 ?d30 ?d31 ?d32 ?d33 ?d34 ?d35 ?d36 ?d37 ?d38 ?d39 ?d40 ?d41 ?d42 ?d43 ?d44 ?d45 ?d46 ?d47 ?d48 ?d49 ?d50 ?d51 ?d52 ?d53 ?d54 ?d55 ?d56 ?d57 ?d58 ?d59 ?d60 ?d61 ?d62 ?d63 ?d64 ?z1 ?z2 ?z3 ?z4 ?z5 ?z6 ?z7 ?z8 ?z9 ?z10 ?z11 ?z12 ?z13 ?z14 ?zg0 ?zg1 ?zg2 ?zg3 ?zg4 ?zg5 ?zg6 ?zg7 ?zg8 ?zg9 ?zR ?lR ?zS ?aC ?aI ?iI ?lI ?cI ?kI ?aM ?iM ?lM ?cM ?kM ?aN ?iN ?lN ?cN ?kN ?aB ?iB ?lB ?cB ?kB ?pg ?hd ?po ?sa ?mk ?kc ?nT ?nA ?sS
  all_goals try (refine' K63.df_mk ?a ?l ?c ?k;(case a=>k_is);(case l=>k_is);(case c=>k_is);(case k=>k_is))
  (case z1=>k_is);(case z2=>k_is);(case z3=>k_is);(case z4=>k_is);(case z5=>k_is);(case z6=>k_is);(case z7=>k_is);(case z8=>k_is);(case z9=>k_is);(case z10=>k_is);(case z11=>k_is);(case z12=>k_is);(case z13=>k_is);(case z14=>k_is)
  (case zg0=>k_is)
  (case zg1=>k_is)
  (case zg2=>k_is)
  (case zg3=>k_is)
  (case zg4=>k_is)
  (case zg5=>k_is)
  (case zg6=>k_is)
  (case zg7=>k_is)
  (case zg8=>k_is)
  (case zg9=>k_is)
  (case zR=>k_is)
  (case lR=>k_is)
  (case zS=>k_is)
  (case aC=>k_is)
  (case aI=>k_is)
  (case iI=>k_is)
  (case lI=>k_is)
  (case cI=>k_is)
  (case kI=>k_is)
  (case aM=>k_is)
  (case iM=>k_is)
  (case lM=>k_is)
  (case cM=>k_is)
  (case kM=>k_is)
  (case aN=>k_is)
  (case iN=>k_is)
  (case lN=>k_is)
  (case cN=>k_is)
  (case kN=>k_is)
  (case aB=>k_is)
  (case iB=>k_is)
  (case lB=>k_is)
  (case cB=>k_is)
  (case kB=>k_is)
  (case pg=>k_is)
  (case hd=>k_is)
  (case po=>k_is)
  (case sa=>k_is)
  (case mk=>k_is)
  (case kc=>k_is)
  (case nT=>k_is)
  (case nA=>k_is)
  case sS=>
   refine' XB.shp_mk ?xShl ?xSlo ?xShe ?xSht
   (case xShl=>k_is)
   (case xSlo=>decide)
   (case xShe=>repeat (first|exact XB.Ents.nil|refine XB.Ents.cons ?_))
   case xSht=>
    refine' (XB.TupsK.cons ?xSa1 ?xSb1 (XB.TupsK.cons ?xSa2 ?xSb2 (XB.TupsK.cons ?xSa3 ?xSb3 (XB.TupsK.cons ?xSa4 ?xSb4 (XB.TupsK.cons ?xSa5 ?xSb5 (XB.TupsK.cons ?xSa6 ?xSb6 (XB.TupsK.cons ?xSa7 ?xSb7 (XB.TupsK.cons ?xSa8 ?xSb8 (XB.TupsK.cons ?xSa9 ?xSb9 (XB.TupsK.cons ?xSa10 ?xSb10 (XB.TupsK.cons ?xSa11 ?xSb11 (XB.TupsK.cons ?xSa12 ?xSb12 (XB.TupsK.cons ?xSa13 ?xSb13 (XB.TupsK.cons ?xSa14 ?xSb14 (XB.TupsK.cons ?xSa15 ?xSb15 (XB.TupsK.cons ?xSa16 ?xSb16 (XB.TupsK.cons ?xSa17 ?xSb17 (XB.TupsK.cons ?xSa18 ?xSb18 (XB.TupsK.cons ?xSa19 ?xSb19 (XB.TupsK.cons ?xSa20 ?xSb20 (XB.TupsK.cons ?xSa21 ?xSb21 (XB.TupsK.cons ?xSa22 ?xSb22 (XB.TupsK.cons ?xSa23 ?xSb23 (XB.TupsK.cons ?xSa24 ?xSb24 (XB.TupsK.cons ?xSa25 ?xSb25 (XB.TupsK.cons ?xSa26 ?xSb26 (XB.TupsK.cons ?xSa27 ?xSb27 XB.TupsK.nil)))))))))))))))))))))))))))
    (case xSa1=>k_is);(case xSb1=>repeat (first|exact XB.AreS.nil|refine XB.AreS.cons ?_))
    (case xSa2=>k_is);(case xSb2=>repeat (first|exact XB.AreS.nil|refine XB.AreS.cons ?_))
    (case xSa3=>k_is);(case xSb3=>repeat (first|exact XB.AreS.nil|refine XB.AreS.cons ?_))
    (case xSa4=>k_is);(case xSb4=>repeat (first|exact XB.AreS.nil|refine XB.AreS.cons ?_))
    (case xSa5=>k_is);(case xSb5=>repeat (first|exact XB.AreS.nil|refine XB.AreS.cons ?_))
    (case xSa6=>k_is);(case xSb6=>repeat (first|exact XB.AreS.nil|refine XB.AreS.cons ?_))
    (case xSa7=>k_is);(case xSb7=>repeat (first|exact XB.AreS.nil|refine XB.AreS.cons ?_))
    (case xSa8=>k_is);(case xSb8=>repeat (first|exact XB.AreS.nil|refine XB.AreS.cons ?_))
    (case xSa9=>k_is);(case xSb9=>repeat (first|exact XB.AreS.nil|refine XB.AreS.cons ?_))
    (case xSa10=>k_is);(case xSb10=>repeat (first|exact XB.AreS.nil|refine XB.AreS.cons ?_))
    (case xSa11=>k_is);(case xSb11=>repeat (first|exact XB.AreS.nil|refine XB.AreS.cons ?_))
    (case xSa12=>k_is);(case xSb12=>repeat (first|exact XB.AreS.nil|refine XB.AreS.cons ?_))
    (case xSa13=>k_is);(case xSb13=>repeat (first|exact XB.AreS.nil|refine XB.AreS.cons ?_))
    (case xSa14=>k_is);(case xSb14=>repeat (first|exact XB.AreS.nil|refine XB.AreS.cons ?_))
    (case xSa15=>k_is);(case xSb15=>repeat (first|exact XB.AreS.nil|refine XB.AreS.cons ?_))
    (case xSa16=>k_is);(case xSb16=>repeat (first|exact XB.AreS.nil|refine XB.AreS.cons ?_))
    (case xSa17=>k_is);(case xSb17=>repeat (first|exact XB.AreS.nil|refine XB.AreS.cons ?_))
    (case xSa18=>k_is);(case xSb18=>repeat (first|exact XB.AreS.nil|refine XB.AreS.cons ?_))
    (case xSa19=>k_is);(case xSb19=>repeat (first|exact XB.AreS.nil|refine XB.AreS.cons ?_))
    (case xSa20=>k_is);(case xSb20=>repeat (first|exact XB.AreS.nil|refine XB.AreS.cons ?_))
    (case xSa21=>k_is);(case xSb21=>repeat (first|exact XB.AreS.nil|refine XB.AreS.cons ?_))
    (case xSa22=>k_is);(case xSb22=>repeat (first|exact XB.AreS.nil|refine XB.AreS.cons ?_))
    (case xSa23=>k_is);(case xSb23=>repeat (first|exact XB.AreS.nil|refine XB.AreS.cons ?_))
    (case xSa24=>k_is);(case xSb24=>repeat (first|exact XB.AreS.nil|refine XB.AreS.cons ?_))
    (case xSa25=>k_is);(case xSb25=>repeat (first|exact XB.AreS.nil|refine XB.AreS.cons ?_))
    (case xSa26=>k_is);(case xSb26=>repeat (first|exact XB.AreS.nil|refine XB.AreS.cons ?_))
    (case xSa27=>k_is);(case xSb27=>repeat (first|exact XB.AreS.nil|refine XB.AreS.cons ?_))
