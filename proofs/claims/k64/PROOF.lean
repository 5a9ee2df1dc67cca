import PyProof.Rows.All
import Wide.All
import OpenK.AllK
import Wide.FinOn
import Lean
import PyProof.EqAt
import PyProof.EqKinds
import PyProof.TupleCall
import PySem.Challenge.RW_indexwise_k64_texts_refused
set_option Elab.async false
set_option linter.all false
set_option maxRecDepth 100000
set_option maxHeartbeats 3200000
local macro_rules | `(tactic| trivial) => `(tactic| first | exact .inl rfl | exact .inr (.inl rfl) | exact .inr (.inr rfl) | exact .inr rfl | assumption | exact True.intro | exact ⟨rfl,rfl,rfl,by decide +kernel,rfl,by decide +kernel,by decide +kernel⟩)
local macro_rules | `(()) => `(by first | omega | decide +kernel | trivial | (intro _; rfl) | simp)
open Array renaming length_toList→ψ,getElem?_eq_some_iff→u6
open Bool renaming and_eq_true→ο,false_ne_true→Ζ,true_and→ϲ,false_and→ϵ,and_true→t9,eq_iff_iff→w_,eq_false_iff→y9,and_false→GQ
open False renaming elim→ϟ
open ForInStep renaming yield→A8
open Int renaming toNat_natCast→He
open List renaming mem_cons→ι,mem_cons_self→ν,mem_singleton→ξ,mem_cons_of_mem→π,length_map→ς,length_cons→χ,size_toArray→Α,length_append→Ε,append_nil→Θ,getElem?_eq_getElem→Ι,map_cons→Μ,mem_append_right→Ο,getElem?_eq_some_iff→Ρ,mem_append→Φ,map_append→ϊ,length_take→Ϗ,replicate→ϓ,lookup_cons→ϙ,cons_append→Ϛ,mem_of_getElem?→Ϝ,count_append→Ϟ,mem_map→Ϡ,length_drop→ϡ,append_assoc→Ϣ,lookup→ϥ,count_eq_zero_of_not_mem→Ϫ,nil_append→Ϭ,getElem?_map→Ϯ,all_eq_true→ϸ,range→Ϻ,not_mem_nil→a_,zipWith→e9,mem_append_left→f_,getElem?_append_right→g_,mem_map_of_mem→i4,length_singleton→i7,map_nil→i9,map_map→i_,take_length→j9,take_add_one→m5,takeWhile_cons→m8,any_eq_true→n_,sum_cons→o8,nodup_cons→r6,getElem?_append_left→u9,length_nil→x_,filterMap_cons→z_,replicate_succ→A1,dropWhile_cons→A2,length→A4,length_replicate→A_,getElem?_set_ne→B3,drop_eq_getElem_cons→C5,forIn_cons→D0,find?_cons→D_,sum_append→E1,getElem?_set_self→E7,flatten_cons→FZ,take_of_length_le→F4,zipIdx_cons→Gg,dropLast_concat→Go,of_mem_zip→Gr,zipIdx_nil→Gv,dropLast_concat_getLast→Gw,takeWhile_append_of_pos→Gx,dropWhile_append_of_pos→Gy,length_zipWith→GB,forIn_nil→GY,contains_cons→G0,find?_eq_none→G4,pairwise_cons→G5,mem_of_find?_eq_some→G_,any_eq_false→Hc,drop_length→Ho,count_cons→HL,mem_range→HM,foldl→HV
open List.cons renaming injEq→y6
open Nat renaming le_refl→θ,lt_of_lt_of_le→Χ,ne_of_lt→ϑ,le_trans→ϕ,zero_le→ϖ,le_add_right→Ϸ,ne_of_gt→o0,lt_irrefl→r_,le_of_ble_eq_true→u8,le_of_lt→A5,le_succ→B5,lt_succ_of_lt→F0,lt_succ_self→Ge,mul_le_mul_right→Gq,lt_add_right→Hm,sub_self→Hx,min_eq_left→HK
open Ne renaming symm→ϛ
open Option renaming map_eq_some_iff→ϯ,isSome_map→Hf
open Option.some renaming inj→ϧ
open Or renaming inl→Ν,inr→GT
open PyProof.Rows renaming slot_tuple_getitem→ϳ,callWith_type1→e6,envOfC→C6,slice_closes_toL→Gp,AllBare→GC,call_isinstance_of→G2,slice_from_eq→G6,slice_closesL→G8,IsTup→H_
open PyProof.Rows.IsTup renaming new→HS
open PySem renaming wpAny_bind→δ,Value→ε,Shared→η,wpAny_pure→ρ,sizeLine_eq→τ,Program→υ,FuncData→Γ,strLen_append→Η,World→Κ,wpAny_loadPart_at→Ξ,Around→Υ,wpAny_field→ύ,wpAny_newObj_type→ϝ,wpAny_setField_rec→Ϩ,wpAny_callSpecial?_slot→ϩ,wpAny_isSubtype_exc→ϫ,IsPair→ϱ,wpAny_mono→ϴ,wpAny_seqItems→Ϲ,wpAny_truthy_bool→d_,Builtin→e_,wpAny_Call_Name_kw→j7,wpAny_call_entry→j8,wpAny_updateSeq_pair→o9,wpAny_execs_nil→q_,wpAny_onRaise→s_,IsZip→u5,wpAny_passesOwn→v_,codeAny_call_builtin→y7,call_meets→y_,mem_of_lookup→A0,wpAny_getItem_str_slice→A3,codeAny_mono→A6,wpAny_holding→A9,GenState→B0,NameKind→B6,wpAny_rule→B8,ZipApart→B9,Scope→C3,wpAny_comprehension_free→C8,wpAny_pyIter_tuple→E3,typeIs_str→E4,wpAny_setField→F1,plainObj_wpAny_Assign_Attribute→F5,wpAny_execs_cons→Ga,DictEntry→Gc,wpAny_call→Gf,wpAny_standAt→Gj,wpAny_attempt→Gk,IsRangeIter→Gm,wpAny_letGo→Gn,post_val_or_str→Gs,ExcBaseFacts→GF,wpAny_loadPart→GJ,wpAny_newFunctionEnv_cells→GN,wpAny_FormattedValue_plain→GV,wpAny_letOwnedTupleGo_zip→G9,wpAny_pyIter_list→Hb,ExcAttrBase→Hh,noFill_tuple_add→Hk,wpAny_isInstance→Hl,Within→Hs,Result→Ht,BindsTo→Hu,wpAny_typeOf→Hv,OsState→Hy,Model→Hz,isSubtype_stop→HP,IsPart→HU,Drawn→HW,Operator→HX,SetTable→HZ
open PySem.AutoSeq1 renaming wpAny_loadPart'→o7
open PySem.Builtin.List renaming listTooLong→i8
open PySem.Builtin.ObjectAttr renaming storeInDict→Gi
open PySem.Builtin.Slice renaming slicePlaces→u_,sliceApplied→B7,sliceAdjust→C4
open PySem.Builtin.SmallTypes renaming nextOf→ό,ownedTupleIsFree→ϐ,ownedTupleHandOut→i0
open PySem.Builtin.Str renaming occurrences→o_
open PySem.Builtin.Tuple renaming tupleExact→ϰ,tupleItemsOf→GO,tupleIsExact→GX
open PySem.Calls renaming callWith_builtin→FY,Name_function_global→GH
open PySem.Code renaming quiet_builtin→G1
open PySem.Data renaming cell→Gb,fields→HN,seq→HY
open PySem.F renaming plainAttrs_list→ϔ,slot_list_append→b_,type_list_append→c_,plainAttrs_str→m6,slot_zip_next→r9,slot_tuple_iterator_next→t_,args_tuple_add_2→C7,slot_list_extend→C9,type_list_extend→C_,entry_tuple_add→E6,slot_tuple_add→E_,args_zip_next_1→F3,typeOf_object_class→F8,slot_str_join→F9,type_str_join→F_,entry_zip_next→Gh,args_tuple_iterator_next_1→Gu,entry_tuple_iterator_next→GD,args_str_split_2→GZ,slot_range_iterator_next→G3,entry_str_split→Hg,slot_str_split→Hn
open PySem.Heap renaming get?_push_of_some→μ,lt_size→ω,get?_push_size→Β,get?_update_other→ϗ,size_push→Ϧ,get?_none_of_le→ϭ,get?_update_self→i6,SameBut→B_
open PySem.NameKind renaming free→Ω,cell→j_
open PySem.NumText renaming digitsVal→Ϙ
open PySem.Obj renaming data_mapFields→A7,isFreed_of_fields→F7,mapSeq→GP,mapFields→Hi
open PySem.PassesOwn renaming never→j4
open PySem.SeqAt renaming EqAt→ϣ,RcAt→Hw
open PySem.SeqAt.EqAt renaming same→HI
open PySem.Shared renaming heap→HQ
open PySem.Str renaming ofString→γ,join→ώ,empty→Hj
open PySem.StrLaws renaming join_split→G7
open PySem.Value renaming ref→Λ,none→j6,builtin→t8,bool→E2,int→E5,str→GG,type→Hr
open PySem.Value.type renaming inj→Ψ
open PySem.W renaming Frag→ζ,mg_of→Δ,nsIn→Τ,findIn→ϋ,keepIn→ϒ,mg_none_of→Ϥ,fnOf→ϻ,kia_one→h_,emptyDict→i5,kitOne→l_,codeIn→m4,callWith_K→m_,instObj→p_,plainGet→C1,isFn→C2,hasDictIn→E8,cellsFrom_some→E9,methodCall_KW→F6,plainGet_of→Gz,lookIn→GI,kitCls→GU,methodObj→Ha,plainOver→Hd,takerIn→HG,makesIn→HH,OpenLaw→HJ,Looks→HR
open PySem.W.KT renaming app_list→GA
open Sum renaming inr→k_,inl→Hq
open True renaming intro→B4
theorem Q9{p:Prop}[i:Decidable p](h:p):decide p=true:=decide_eq_true h
theorem Q8{p:Prop}[i:Decidable p](h:¬p):decide p=false:=decide_eq_false h
theorem Q7{p:Prop}[i:Decidable p](h:decide p=true):p:=of_decide_eq_true h
theorem Q6{c:Prop}{h:Decidable c}(k:¬c){α:Sort u}{t e:α}:ite c t e=e:=if_neg k
theorem Q5{c:Prop}{h:Decidable c}(k:c){α:Sort u}{t e:α}:ite c t e=t:=if_pos k
namespace L2
open PySem PySem.Spec PyProof.Rows
abbrev Key:=Sum Int Str
def mK:Key->ε->Bool
 |.inl k,v=>ε.isInt k v
 |.inr x,v=>ε.isStrOf x v
def Fy(w:Κ):Key->Int
 |.inl k=>hashInt k
 |.inr x=>hashStr w x
theorem bn:∀{k:Key}{v:ε},mK k v=true->(∃i t,k=Hq i/\v=E5 i t)\/(∃x t,k=k_ x/\v=GG x t)
 |.inl i,v,h=>by
  obtain⟨t,e⟩:=ε.isInt_shape (k:=i) (v:=v) h
  exact .inl ⟨i,t,rfl,e⟩
 |.inr x,v,h=>by
  obtain⟨t,e⟩:=ε.isStrOf_shape (x:=x) (v:=v) h
  exact .inr ⟨x,t,rfl,e⟩
theorem wE(i:Int)(t:Tok):mK (.inl i) (.int i t)=true:=by simp[mK,ε.isInt]
theorem wg(x:Str)(t:Tok):mK (.inr x) (.str x t)=true:=by simp[mK,ε.isStrOf]
theorem CH(a b:Int):decide ((Hq a:Key)=Hq b)=(a==b):=by
 by_cases e:a=b
 ·subst e;simp
 ·have h:¬ (Hq a:Key)=Hq b:=λq=>e (Hq.inj q)
  rw[Q8 h]
  exact(beq_eq_false_iff_ne.mpr e).symm
theorem Dy(a b:Str):decide ((k_ a:Key)=k_ b)=decide (a=b):=by
 by_cases e:a=b
 ·subst e;simp
 ·have h:¬ (k_ a:Key)=k_ b:=λq=>e (k_.inj q)
  rw[Q8 h,Q8 e]
theorem BO(a:Int)(b:Str):decide ((Hq a:Key)=k_ b)=false:=Q8 (λq=>nomatch q)
theorem Dc(a:Str)(b:Int):decide ((k_ a:Key)=Hq b)=false:=Q8 (λq=>nomatch q)
def bV(prog:υ)(w:Κ):PySem.KeyKind prog w Key where
 is:=mK
 hash:=Fy w
 inj:=λv a b ha hb=>by
  rcases bn ha with ⟨i,t,rfl,rfl⟩|⟨x,t,rfl,rfl⟩
  ·rcases bn hb with ⟨j,u,rfl,e⟩|⟨y,u,rfl,e⟩
   ·injection e with e1 _;rw[e1]
   ·exact nomatch e
  ·rcases bn hb with ⟨j,u,rfl,e⟩|⟨y,u,rfl,e⟩
   ·exact nomatch e
   ·injection e with e1 _;rw[e1]
 byValue:=λk v h=>by
   rcases bn h with ⟨i,t,rfl,rfl⟩|⟨x,t,rfl,rfl⟩<;>rfl
 pyHash:=λhv h=>by
  rcases bn hv with ⟨i,t,rfl,rfl⟩|⟨x,t,rfl,rfl⟩
  ·exact wpAny_pyHash_int h
  ·exact wpAny_pyHash_str h
 eqBool:=λhu hv h=>by
  rcases bn hu with ⟨i,t,rfl,rfl⟩|⟨x,t,rfl,rfl⟩
  ·rcases bn hv with ⟨j,u,rfl,rfl⟩|⟨y,u,rfl,rfl⟩
   ·rw[CH]at h;exact wpAny_eqBool_int h
   ·rw[BO]at h;exact ϣ.int_str i t y u _ _ _ _ h
  ·rcases bn hv with ⟨j,u,rfl,rfl⟩|⟨y,u,rfl,rfl⟩
   ·rw[Dc]at h;exact ϣ.str_int x t j u _ _ _ _ h
   ·rw[Dy]at h;exact wpAny_eqBool_str h
 «strs»:=λk x t v h=>by
  rcases bn h with ⟨i,u,rfl,e⟩|⟨y,u,rfl,e⟩
  ·exact nomatch e
  ·injection e with e1 _
   subst e1
   cases v<;>rfl
theorem ql(prog:υ)(w:Κ)(i:Int)(t:Tok):(bV prog w).is (.inl i) (.int i t)=true:=wE i t
theorem eU(prog:υ)(w:Κ)(x:Str)(t:Tok):(bV prog w).is (.inr x) (.str x t)=true:=wg x t
inductive V where
 |non|bl (b:Bool)|int (i:Int)|str (x:Str)|byt (b:Array UInt8)|flt (b:UInt64)|ref (a:Addr)|ty (n:String)
 deriving DecidableEq
def aL:V->ε->Prop
 |.non,u=>u=j6
 |.bl b,u=>u=E2 b
 |.int i,u=>∃t,u=E5 i t
 |.str x,u=>∃t,u=GG x t
 |.byt b,u=>∃t,u=ε.bytes b t
 |.flt b,u=>∃t,u=ε.float b t
 |.ref a,u=>u=Λ a
 |.ty n,u=>u=Hr n
abbrev aw:List V->List ε->Prop:=Paired aL
theorem aw.length{xs:List V}{us:List ε}(r:aw xs us):xs.length=us.length:=Paired.length r
theorem aw.get:∀{xs:List V}{us:List ε}{i:Nat}{x:V},aw xs us->xs[i]?=some x->∃u,us[i]?=some u/\aL x u
 |_,_,_,_,.nil,e=>by simp at e
 |_,_,0,_,.cons r _,e=>by simp at e;subst e;exact⟨_,rfl,r⟩
 |_,_,i+1,x,.cons _ t,e=>by
  obtain⟨u,h1,h2⟩:=aw.get (i:=i) (x:=x) t (by simpa using e)
  exact⟨u,by simpa using h1,h2⟩
theorem aw.set{x:V}{u:ε}(r:aL x u):∀{xs:List V}{us:List ε}(i:Nat),aw xs us->aw (xs.set i x) (us.set i u)
 |_,_,_,.nil=>.nil
 |_,_,0,.cons _ t=>.cons r t
 |_,_,i+1,.cons q t=>.cons q (aw.set r i t)
theorem aw.append:∀{xs ys:List V}{us ws:List ε},aw xs us->aw ys ws->aw (xs++ys) (us++ws)
 |_,_,_,_,.nil,s=>s
 |_,_,_,_,.cons r t,s=>.cons r (aw.append t s)
theorem aw.take:∀{xs:List V}{us:List ε}(n:Nat),aw xs us->aw (xs.take n) (us.take n)
 |_,_,0,_=>.nil
 |_,_,_+1,.nil=>.nil
 |_,_,n+1,.cons r t=>.cons r (aw.take n t)
theorem aw.drop:∀{xs:List V}{us:List ε}(n:Nat),aw xs us->aw (xs.drop n) (us.drop n)
 |_,_,0,r=>r
 |_,_,_+1,.nil=>.nil
 |_,_,n+1,.cons _ t=>aw.drop n t
def mo:Option V->Option ε->Prop
 |some v,some u=>aL v u
 |none,none=>True
 |_,_=>False
def KV{κ:Type}:List (κ×V)->List (κ×ε)->Prop:=Paired λ(p:κ×V) (q:κ×ε)=>p.1=q.1/\aL p.2 q.2
def kV:Key->V
 |.inl i=>.int i
 |.inr x=>.str x
inductive HO where
 |lst (xs:List V)
 |tup (xs:List V)
 |dK (kvs:List (Key×V))|dT (kvs:List (List Key×V))
 |set (S:Int->Bool) (n:Nat)
 |ins (C dx:Addr) (fs:List (Str×V))
 |own (x:Addr)
 |xd (fs:List (Str×V))
 |met (f x:Addr)
 |rng (lo hi:Int)
 |frz (o:Obj) (u:HO)
 |tbl (ps:Array ε)
 |ext (φ:Heap->Prop)
abbrev Hp:=Addr->Option HO
def upd(H:Hp)(a:Addr)(o:HO):Hp:=λb=>if b=a then some o else H b
theorem aa{H:Hp}{a:Addr}{o:HO}:upd H a o a=some o:=by unfold upd;rw[Q5 rfl]
theorem ai{H:Hp}{a b:Addr}{o:HO}(h:b≠a):upd H a o b=H b:=by unfold upd;rw[Q6 h]
theorem ao{H:Hp}{a b:Addr}{o:HO}(h:H a=some o)(h':H b=none):a≠b:=by
 intro e;subst e;rw[h]at h';cases h'
def NoD(h:Heap)(a:Addr):Prop:=∃o,h.get? a=some o/\o.dict=none
theorem NoD.new(h:Heap){o:Obj}(e:o.dict=none)(f:o.isFreed=false:=by rfl):NoD (h.push o) h.objs.size:=⟨_,Β _ f,e⟩
section
variable(P:υ)(w:Κ)
def bG(H:Hp)(h:Heap)(a:Addr):HO->Prop
 |.lst xs=>xs.length<=sizeLine/\∃(its:List ε) (n:Nat),aw xs its/\h.get? a=some {cls:=.type "list",data:=.seq its.toArray n}
 |.tup xs=>xs.length<=sizeLine/\∃its:List ε,aw xs its/\H_ h a its.toArray/\NoD h a
 |.dK kvs=>kvs.length<=sizeLine/\(a==sysModules)=false/\∃vs,KV kvs vs/\h.DictOf (bV P w) a vs
 |.dT kvs=>kvs.length<=sizeLine/\(a==sysModules)=false/\∃xs:List (List Key×Addr×ε),
   Paired (λ(p:List Key×V) (q:List Key×Addr×ε)=>p.1=q.1/\H q.2.1=some (.tup (p.1.map kV))/\aL p.2 q.2.2) kvs xs /\
   ∃o es ep,h.get? a=some o/\o.ExactDict/\o.data=.dict es ep/\es.toList=xs.map (entryOfKey (tupleKind (bV P w)))/\(xs.map (·.1)).Nodup
 |.set S n=>h.SetOf (intKind P w) a S n
 |.ins C dx fs=>H dx=some (.own a)/\fs.length<=1000/\dx≠a/\h.get? a=some (p_ C dx) /\
   ∃mA,h.Ns1 dx mA/\(∀f,mo (fs.lookup f) (mA f))/\Hs mA (fs.map (·.1))
 |.own _=>∃o,h.get? a=some o
 |.xd fs=>∃mA,h.Ns1 a mA/\∀f,mo (fs.lookup f) (mA f)
 |.rng lo hi=>∃t u v,h.get? a=some {cls:=.type "range",data:=.fields #[.int lo t,.int hi u,.int 1 v]}
 |.frz o u=>h.get? a=some o/\bG H h a u
 |.tbl ps=>h.get? a=some {cls:=.none,data:=.fields ps}
 |.met f x=>h.get? a=some (Ha (.ref f) (.ref x))
 |.ext φ=>φ h/\(∃o,h.get? a=some o)/\∀h1 h2:Heap,φ h1->(∀o,h1.get? a=some o->h2.get? a=some o)->φ h2
def HOk(H:Hp)(h:Heap):Prop:=∀a o,H a=some o->bG P w H h a o
end
section
variable{P:υ}{w:Κ}{H H':Hp}{h h':Heap}{a:Addr}{o:HO}
theorem bG.lt(x:bG P w H h a o):a<h.objs.size:=by
 cases o with
 |lst xs=>obtain⟨_,_,_,_,e⟩:=x;exact ω e
 |tup xs=>obtain⟨_,_,_,p⟩:=x;exact p.1.lt
 |dK kvs=>obtain⟨_,_,_,_,o,_,_,e,_⟩:=x;exact ω e
 |dT kvs=>obtain⟨_,_,_,_,o,_,_,e,_⟩:=x;exact ω e
 |set S n=>obtain⟨o,_,_,_,e,_⟩:=x;exact ω e
 |ins C dx fs=>obtain⟨_,_,_,e,_⟩:=x;exact ω e
 |own y=>obtain⟨_,e⟩:=x;exact ω e
 |xd fs=>obtain⟨_,⟨_,_,_,e,_⟩,_⟩:=x;exact ω e
 |rng lo hi=>obtain⟨_,_,_,e⟩:=x;exact ω e
 |frz ob u=>obtain⟨e,_⟩:=x;exact ω e
 |tbl ps=>exact ω (show h.get? a=some _ from x)
 |met f y=>exact ω (show h.get? a=some _ from x)
 |ext φ=>obtain⟨_,⟨_,e⟩,_⟩:=x;exact ω e
theorem Paired.mapP{α β:Type}{F G:α->β->Prop}:∀{l₁:List α}{l₂:List β},Paired F l₁ l₂->(∀a b,F a b->G a b)->Paired G l₁ l₂
 |_,_,.nil,_=>.nil
 |_,_,.cons r t,f=>.cons (f _ _ r) (Paired.mapP t f)
theorem bG.stay(x:bG P w H h a o)(k:∀b u,(b=a\/H b=some (.own a))->h.get? b=some u->h'.get? b=some u)
  (ho:∀b,H b=some (.own a)->H' b=some (.own a)) (ht:∀b xs,H b=some (.tup xs)->H' b=some (.tup xs)):bG P w H' h' a o:=by
 induction o with
 |lst xs=>obtain⟨z,its,n,r,e⟩:=x;exact⟨z,its,n,r,k _ _ (.inl rfl) e⟩
 |tup xs=>obtain⟨z,its,r,⟨ob,e,c⟩,od,e2,c2⟩:=x;exact⟨z,its,r,⟨ob,k _ _ (.inl rfl) e,c⟩,od,k _ _ (.inl rfl) e2,c2⟩
 |dK kvs=>obtain⟨z,y,vs,r,ob,es,ep,e,c⟩:=x;exact⟨z,y,vs,r,ob,es,ep,k _ _ (.inl rfl) e,c⟩
 |dT kvs=>
  obtain⟨z,y,xs,r,ob,es,ep,e,c⟩:=x
  exact⟨z,y,xs,Paired.mapP r λp q z=>⟨z.1,ht _ _ z.2.1,z.2.2⟩,ob,es,ep,k _ _ (.inl rfl) e,c⟩
 |set S n=>obtain⟨ob,es,ep,t,e,c⟩:=x;exact⟨ob,es,ep,t,k _ _ (.inl rfl) e,c⟩
 |ins C dx fs=>
  obtain⟨d,z,ne,e,mA,⟨od,es,ep,e2,c⟩,r⟩:=x
  exact⟨ho _ d,z,ne,k _ _ (.inl rfl) e,mA,⟨od,es,ep,k _ _ (.inr d) e2,c⟩,r⟩
 |own y=>obtain⟨ob,e⟩:=x;exact⟨ob,k _ _ (.inl rfl) e⟩
 |xd fs=>obtain⟨mA,⟨od,es,ep,e,c⟩,r⟩:=x;exact⟨mA,⟨od,es,ep,k _ _ (.inl rfl) e,c⟩,r⟩
 |rng lo hi=>obtain⟨t,u,v,e⟩:=x;exact⟨t,u,v,k _ _ (.inl rfl) e⟩
 |frz ob u ih=>obtain⟨e,q⟩:=x;exact⟨k _ _ (.inl rfl) e,ih q⟩
 |tbl ps=>
  have e:h.get? a=some {cls:=.none,data:=.fields ps}:=x
  show h'.get? a=some {cls:=.none,data:=.fields ps}
  exact k a _ (.inl rfl) e
 |met f y=>
  have e:h.get? a=some (Ha (.ref f) (.ref y)):=x
  show h'.get? a=some (Ha (.ref f) (.ref y))
  exact k a _ (.inl rfl) e
 |ext φ=>obtain⟨p,⟨o,e⟩,st⟩:=x;exact⟨st _ _ p λo q=>k _ _ (.inl rfl) q,⟨o,k _ _ (.inl rfl) e⟩,st⟩
theorem HOk.lt(x:HOk P w H h)(e:H a=some o):a<h.objs.size:=(x a o e).lt
theorem HOk.fresh(x:HOk P w H h)(e:h.objs.size<=a):H a=none:=by
 cases q:H a with
 |none=>rfl
 |some u=>exact absurd (Χ (x.lt q) e) (r_ _)
theorem HOk.kept(x:HOk P w H h)(k:∀b u,h.get? b=some u->h'.get? b=some u):HOk P w H h':=λa o e=>
 (x a o e).stay (λb u _ q=>k b u q) (λ_ q=>q) λ_ _ q=>q
theorem HOk.laid(x:HOk P w H h)(k:∀b u,h.get? b=some u->h'.get? b=some u)(hp:h.objs.size<=a)(new:bG P w (upd H a o) h' a o):HOk P w (upd H a o) h':=λb u e=>by
 have hn:=x.fresh hp
 by_cases hb:b=a
 ·subst hb;rw[aa]at e;cases e;exact new
 ·rw[ai hb]at e
  exact(x b u e).stay (λc v _ q=>k c v q) (λc q=>by rw[ai (ao q hn)];exact q) λc xs q=>by rw[ai (ao q hn)];exact q
end
def Rd(H:Hp)(a:Addr)(u:HO):Prop:=H a=some u\/∃o,H a=some (.frz o u)
theorem Rd.ok{P:υ}{w:Κ}{H:Hp}{h:Heap}{a:Addr}{u:HO}(r:Rd H a u)(x:HOk P w H h):bG P w H h a u:=by
 rcases r with r|⟨o,r⟩
 ·exact x a u r
 ·obtain⟨_,q⟩:=x a _ r
  exact q
def Mut:Option HO->Prop
 |some (.lst _)=>True
 |some (.dK _)=>True
 |some (.dT _)=>True
 |some (.set _ _)=>True
 |some (.ins _ _ _)=>True
 |some (.ext _)=>True
 |_=>False
section
variable{P:υ}{w:Κ}{H:Hp}{h h':Heap}{x e:Addr}{o':HO}
theorem HOk.write(ok:HOk P w H h)(mu:Mut (H x))(he:e=x\/H e=some (.own x))(k:∀b u,b≠e->h.get? b=some u->h'.get? b=some u)(heo:∃u,h'.get? e=some u)
  (new:bG P w (upd H x o') h' x o'):HOk P w (upd H x o') h':=λb u q=>by
 have nown:∀c y,H c=some (.own y)->c≠x:=λc y r z=>by subst z;rw[r]at mu;exact mu
 have ntup:∀c xs,H c=some (.tup xs)->c≠x:=λc xs r z=>by subst z;rw[r]at mu;exact mu
 by_cases hb:b=x
 ·subst hb;rw[aa]at q;cases q;exact new
 ·rw[ai hb]at q
  by_cases hbe:b=e
  ·have q':H b=some (.own x):=by
    rcases he with z|z
    ·exact absurd (hbe.trans z) hb
    ·rw[hbe];exact z
   rw[q]at q';cases q'
   obtain⟨v,hv⟩:=heo
   exact⟨v,by rw[hbe];exact hv⟩
  ·refine(ok b u q).stay (λc v hc r=>k c v ?_ r) (λc r=>by rw[ai (nown c b r)];exact r) λc xs r=>by rw[ai (ntup c xs r)];exact r
   rcases hc with rfl|hc
   ·exact hbe
   ·rintro rfl
    rcases he with z|z
    ·exact nown c b hc z
    ·rw[hc]at z;cases z;exact hb rfl
end
structure Un(fs ex:List Addr)(H H':Hp)(h h':Heap):Prop where
 keep:∀b o,h.get? b=some o->H b=none->b∉fs->b∉ex->h'.get? b=some o
 slot:∀b o,h.get? b=some o->H b=none->b∈fs->b∉ex->∃sl,h'.get? b=some {o with slots:=sl}
 free:∀b o,h.get? b=some o->H b=none->b∉ex->H' b=none
 there:∀b o,h.get? b=some o->b∉ex->∃o',h'.get? b=some o'
 tups:∀b xs,H b=some (.tup xs)->H' b=some (.tup xs)
 frzs:∀b o u,H b=some (.frz o u)->H' b=some (.frz o u)
 tbls:∀b ps,H b=some (.tbl ps)->∃more,H' b=some (.tbl (ps++more))
section
variable{fs fs' ex ex':List Addr}{H H1 H2:Hp}{h h1 h2 h':Heap}{a x e:Addr}{o:HO}
theorem Un.any(u:Un fs ex H H1 h h1){b:Addr}{ob:Obj}(q:h.get? b=some ob)(n:H b=none)(hx:b∉ex):∃sl,h1.get? b=some {ob with slots:=sl}:=by
 by_cases hb:b∈fs
 ·exact u.slot b ob q n hb hx
 ·exact⟨ob.slots,u.keep b ob q n hb hx⟩
theorem Un.kept(k:∀b u,h.get? b=some u->h'.get? b=some u):Un fs ex H H h h':=
 ⟨λb ob q _ _ _=>k b ob q,λb ob q _ _ _=>⟨ob.slots,k b ob q⟩,λ_ _ _ n _=>n,λb ob q _=>⟨ob,k b ob q⟩,λ_ _ q=>q,λ_ _ _ q=>q,λ_ ps q=>⟨#[],by rw[q];simp⟩⟩
theorem Un.refl:Un fs ex H H h h:=Un.kept λ_ _ q=>q
theorem Un.laid(k:∀b u,h.get? b=some u->h'.get? b=some u)(hp:h.objs.size<=a)(hn:H a=none):Un fs ex H (upd H a o) h h' where
 keep:=λb u q _ _ _=>k b u q
 slot:=λb u q _ _ _=>⟨u.slots,k b u q⟩
 free:=λb u q n _=>by rw[ai (ϑ (Χ (ω q) hp))];exact n
 there:=λb u q _=>⟨u,k b u q⟩
 tups:=λb xs q=>by rw[ai (ao q hn)];exact q
 frzs:=λb u xs q=>by rw[ai (ao q hn)];exact q
 tbls:=λb ps q=>⟨#[],by rw[ai (ao q hn),q];simp⟩
theorem Un.write(mu:Mut (H x))(he:e=x\/H e=some (.own x))(k:∀b u,b≠e->h.get? b=some u->h'.get? b=some u)(heo:∃u,h'.get? e=some u):Un fs ex H (upd H x o) h h':=by
 have hx:∀b,H b=none->b≠x:=λb n z=>by subst z;rw[n]at mu;exact mu
 have hb:∀b,H b=none->b≠e:=λb n z=>by
  subst z
  rcases he with r|r
  ·exact hx b n r
  ·rw[n]at r;cases r
 have hm:∀b u,H b=some u->¬ Mut (some u)->b≠x:=λb u q nm z=>by subst z;rw[q]at mu;exact nm mu
 refine⟨λb u q n _ _=>k b u (hb b n) q,λb u q n _ _=>⟨u.slots,k b u (hb b n) q⟩,λb u q n _=>by rw[ai (hx b n)];exact n,λb u q _=>?_,
  λb xs q=>by rw[ai (hm b _ q λz=>z)];exact q,λb u xs q=>by rw[ai (hm b _ q λz=>z)];exact q,λb ps q=>⟨#[],by rw[ai (hm b _ q λz=>z),q];simp⟩⟩
 by_cases hbe:b=e
 ·subst hbe;exact heo
 ·exact⟨u,k b u hbe q⟩
end
def trk(h:Heap)(H:Hp):List Addr:=(Ϻ h.objs.size).filter λa=>(H a).isSome
def oz(h:Heap)(H:Hp):Heap:=PySem.W.hideAll h (trk h H)
theorem wY(h:Heap)(H:Hp):(oz h H).objs.size=h.objs.size:=PySem.W.hideAll_size _ _
theorem yk{h:Heap}{H:Hp}{b:Addr}{o:Obj}(e:h.get? b=some o)(n:H b=none):(oz h H).get? b=some o:=
 PySem.W.hideAll_get _ e λhm=>by
  have q:(H b).isSome=true:=(List.mem_filter.mp hm).2
  rw[n]at q;simp at q
theorem AU{h:Heap}{H:Hp}{b:Addr}{o:Obj}(e:(oz h H).get? b=some o):h.get? b=some o/\H b=none:=by
 have e':h.get? b=some o:=PySem.W.of_hideAll (trk h H) e
 refine⟨e',?_⟩
 cases q:H b with
 |none=>rfl
 |some x=>
  have hm:b∈trk h H:=List.mem_filter.mpr ⟨HM.mpr (ω e'),by simp[q]⟩
  have z:(oz h H).get? b=none:=PySem.W.hideAll_none (trk h H) hm
  rw[z]at e;cases e
structure Mod(K:ζ)(mg:Str->Option ε)(base:Heap):Prop where
 kin:K.In base
 glob:base.Ns mainGlobals mg
 blt:∃mb,base.Ns builtinsNs mb/\∀x:Str,x≠"__name__"->mb x=bootBuiltins x
 nolimit:base.NoLimit
structure Cx where
 prog:υ
 w:Κ
 K:ζ
 mg:Str->Option ε
 base:Heap
 A:Υ
 N:List Str
 s₀:η
 H₀:Hp
 env:Env
 outer:List Env
 stack:List Env
 ex:List Addr
 fn:Str->Bool
 calm:Bool
 pn:List (Addr×Obj)
 xe:ε->η->Prop
def frs(l:List Env):List Addr:=l.filterMap (·.frame)
abbrev Cx.fs(X:Cx):List Addr:=frs X.outer
def Vis(sc:C3)(x:Str):Prop:=sc.names.lookup x=some .local\/sc.names.lookup x=some .cell\/sc.names.lookup x=some .free
def Loc(sc:C3)(x:Str):Prop:=sc.names.lookup x=some .local\/sc.names.lookup x=some .cell
def Ex(env:Env)(h:Heap)(m:Str->Option ε)(x:Str)(u:ε):Prop:=
 (env.kindOf x=some .local/\m x=some u)\/((env.kindOf x=some .cell\/env.kindOf x=some .free)/\∃c,env.cells.lookup x=some c/\h.IsCell c (some u))
structure Cx.Ok(X:Cx):Prop where
 mod:Mod X.K X.mg X.base
 kind:X.env.scope.kind=.function
 glob:X.env.globals=mainGlobals
 blt:X.env.builtins=builtinsNs
 above:X.s₀.heap.objs.size<=X.env.locals
 inj:∀x y c,X.env.cells.lookup x=some c->X.env.cells.lookup y=some c->x=y
 has:∀x,(X.env.kindOf x=some .cell\/X.env.kindOf x=some .free)->∃c,X.env.cells.lookup x=some c
 cab:∀x c,X.fn x=true->X.env.cells.lookup x=some c->X.s₀.heap.objs.size<=c
 hd:X.calm=true->X.A.handled=none
 frames:X.A.frames=some X.stack
 stk:X.stack=X.outer\/(X.stack=X.env::X.outer/\X.env.frame=some X.env.locals)
 exf:∀b∈X.ex,b≠X.env.locals/\∀x c,X.env.cells.lookup x=some c->c≠b
 bs:∀b o,X.base.get? b=some o->X.s₀.heap.get? b=some o/\X.H₀ b=none
 bsz:X.base.objs.size<=X.s₀.heap.objs.size
 noex:∀b o,X.base.get? b=some o->b∉X.ex
 exfs:∀b∈X.ex,b∉X.fs
 funs:X.s₀.heap.FunFrames X.base X.outer
 frf:∀b∈X.fs,X.H₀ b=none
structure Inv(X:Cx)(pins:List (Addr×Obj))(σ:List (Option V))(H:Hp)(s:η):Prop where
 ok:X.Ok
 os:s.os=X.s₀.os
 bare:GC s.gens
 base:Un X.fs X.ex X.H₀ H X.s₀.heap s.heap
 loc:∃m,s.heap.Ns X.env.locals m/\∀(i:Nat)(x:Str)(v:V),X.N[i]?=some x->σ[i]?=some (some v)->Vis X.env.scope x->∃u,aL v u/\Ex X.env s.heap m x u
 cell:∀x c,X.env.cells.lookup x=some c->∃v,s.heap.IsCell c v
 free:H X.env.locals=none
 freeC:∀x c,X.env.cells.lookup x=some c->H c=none
 pin:∀p∈X.pn++pins,s.heap.get? p.1=some p.2/\H p.1=none/\p.1≠X.env.locals/\p.1∉X.fs/\∀v,p.2.data≠.cell v
 hok:HOk X.prog X.w H s.heap
 len:σ.length=X.N.length
section
variable{X:Cx}{pins:List (Addr×Obj)}{σ:List (Option V)}{H H':Hp}{s:η}{h':Heap}
theorem Cx.Ok.nofr(ok:X.Ok){b:Addr}{o:Obj}(e:X.base.get? b=some o):b∉X.fs:=λhb=>by
 have:=(ok.funs.mem hb).1
 rw[e]at this;cases this
theorem Inv.bs(I:Inv X pins σ H s):∀b o,X.base.get? b=some o->s.heap.get? b=some o/\H b=none:=λb o e=>
 ⟨I.base.keep b o (I.ok.bs b o e).1 (I.ok.bs b o e).2 (I.ok.nofr e) (I.ok.noex b o e),I.base.free b o (I.ok.bs b o e).1 (I.ok.bs b o e).2 (I.ok.noex b o e)⟩
theorem Inv.bk(I:Inv X pins σ H s):∀b o,X.base.get? b=some o->s.heap.get? b=some o:=λb o e=>(I.bs b o e).1
theorem Inv.mod(I:Inv X pins σ H s):Mod X.K X.mg X.base:=I.ok.mod
theorem Inv.kIn(I:Inv X pins σ H s):X.K.In s.heap:=I.ok.mod.kin.keeps I.bk
theorem Inv.fr(I:Inv X pins σ H s):∃m,Fr X.base X.env.locals s.heap m:=
 let ⟨m,hn,_⟩:=I.loc
 ⟨m,hn,I.bk,ϕ I.ok.bsz I.ok.above⟩
theorem Inv.lt(I:Inv X pins σ H s):X.env.locals<s.heap.objs.size:=let ⟨_,hn,_⟩:=I.loc;hn.lt
theorem Inv.sz(I:Inv X pins σ H s):X.s₀.heap.objs.size<=s.heap.objs.size:=ϕ I.ok.above (A5 I.lt)
theorem Inv.nofs(I:Inv X pins σ H s){a:Addr}(h:s.heap.objs.size<=a):a∉X.fs:=λhb=>by
 obtain⟨_,o,ho,_⟩:=I.ok.funs.mem hb
 exact absurd (Χ (ω ho) (ϕ I.sz h)) (r_ _)
theorem Inv.cne(I:Inv X pins σ H s):∀x c,X.env.cells.lookup x=some c->c≠X.env.locals:=λx c e z=>by
 obtain⟨v,o,ho,hd⟩:=I.cell x c e
 obtain⟨m,⟨o',es,ep,ho',hd',_⟩,_⟩:=I.loc
 rw[z,ho']at ho;cases ho;rw[hd']at hd;cases hd
theorem Inv.funs(I:Inv X pins σ H s):s.heap.FunFrames X.base X.outer:=by
 have all:∀(l:List Env),(∀b∈frs l,b∈X.fs)->X.s₀.heap.FunFrames X.base l->s.heap.FunFrames X.base l:=by
  intro l
  induction l with
  |nil=>intro _ _;trivial
  |cons env r ih=>
   intro hs hl
   obtain⟨hk,⟨L,o,hf,hn,ho,hd⟩,hr⟩:=hl
   have hL:L∈X.fs:=hs L (by unfold frs;rw[z_,hf];exact ν)
   obtain⟨sl,e⟩:=I.base.slot L o ho (I.ok.frf L hL) hL λz=>I.ok.exfs L z hL
   exact⟨hk,⟨L,_,hf,hn,e,hd⟩,ih (λb hb=>hs b (by unfold frs;rw[z_,hf];exact π _ hb)) hr⟩
 exact all X.outer (λ_ hb=>hb) I.ok.funs
theorem Inv.stack(I:Inv X pins σ H s):s.heap.FunFrames X.base X.stack:=by
 rcases I.ok.stk with e|⟨e,hf⟩
 ·rw[e];exact I.funs
 ·rw[e]
  obtain⟨m,hn,_⟩:=I.loc
  refine .cons (by rw[I.ok.kind];decide) hf hn ?_ I.funs
  exact ϭ (ϕ I.ok.bsz I.ok.above)
theorem Inv.stkSub(I:Inv X pins σ H s):∀b∈frs X.stack,b∈X.env.locals::X.fs:=λb hb=>by
 rcases I.ok.stk with e|⟨e,hf⟩
 ·rw[e]at hb;exact π _ hb
 ·rw[e]at hb
  unfold frs at hb
  rw[z_,hf]at hb
  exact hb
theorem Inv.stkFree(I:Inv X pins σ H s):∀b∈frs X.stack,H b=none:=λb hb=>by
 rcases ι.mp (I.stkSub b hb)with e|hb
 ·rw[e];exact I.free
 ·obtain⟨_,o,ho,_⟩:=I.ok.funs.mem hb
  exact I.base.free b o ho (I.ok.frf b hb) λz=>I.ok.exfs b z hb
theorem Inv.step{g':Array B0}{t':Nat}{d':HW}{ch:List Addr}(I:Inv X pins σ H s)
  (hch:∀b∈ch,(b∈X.ex\/X.s₀.heap.objs.size<=b)/\b≠X.env.locals/\(∀x c,X.env.cells.lookup x=some c->c≠b)/\∀p∈X.pn++pins,p.1≠b)
  (keep:∀b o,b≠X.env.locals->b∉X.fs->b∉ch->s.heap.get? b=some o->H b=none->h'.get? b=some o)
  (slot:∀b o,b≠X.env.locals->b∈X.fs->b∉ch->s.heap.get? b=some o->H b=none->∃sl,h'.get? b=some {o with slots:=sl}) (free:∀b o,b∉ch->s.heap.get? b=some o->H b=none->H' b=none)
  (there:∀b o,b∉ch->s.heap.get? b=some o->∃o',h'.get? b=some o')
  (tups:∀b xs,H b=some (.tup xs)->H' b=some (.tup xs)) (frzs:∀b o u,H b=some (.frz o u)->H' b=some (.frz o u)) (tbls:∀b ps,H b=some (.tbl ps)->∃more,H' b=some (.tbl (ps++more)))
  (ns:∀m,s.heap.Ns X.env.locals m->h'.Ns X.env.locals m) (hok:HOk X.prog X.w H' h') (hg:GC g'):
  Inv X pins σ H' {s with heap:=h',gens:=g',drawn:=d',toks:=t'}:=by
 have neL:∀b o,X.s₀.heap.get? b=some o->b≠X.env.locals:=λb o e=>ϑ (Χ (ω e) I.ok.above)
 have neC:∀b o,X.s₀.heap.get? b=some o->b∉X.ex->b∉ch:=λb o e hx hb=>by
  rcases(hch b hb).1 with z|z
  ·exact hx z
  ·exact absurd (Χ (ω e) z) (r_ _)
 have cellK:∀x c,X.env.cells.lookup x=some c->∀v,s.heap.IsCell c v->h'.IsCell c v:=λx c e v ⟨o,ho,hd⟩=>by
  have nch:c∉ch:=λz=>(hch c z).2.2.1 x c e rfl
  by_cases hc:c∈X.fs
  ·obtain⟨sl,q⟩:=slot c o (I.cne x c e) hc nch ho (I.freeC x c e)
   exact⟨_,q,hd⟩
  ·exact⟨o,keep c o (I.cne x c e) hc nch ho (I.freeC x c e),hd⟩
 refine⟨I.ok,I.os,hg,⟨λb o e n hb hx=>?_,λb o e n hb hx=>?_,λb o e n hx=>?_,λb o e hx=>?_,λb xs e=>tups b xs (I.base.tups b xs e),λb o xs e=>frzs b o xs (I.base.frzs b o xs e),λb ps e=>?_⟩,?_,λx c e=>?_,?_,λx c e=>?_,λp hp=>?_,hok,I.len⟩
 ·exact keep b o (neL b o e) hb (neC b o e hx) (I.base.keep b o e n hb hx) (I.base.free b o e n hx)
 ·obtain⟨sl,e1⟩:=I.base.slot b o e n hb hx
  obtain⟨sl',e2⟩:=slot b _ (neL b o e) hb (neC b o e hx) e1 (I.base.free b o e n hx)
  exact⟨sl',e2⟩
 ·obtain⟨o',e1⟩:=I.base.there b o e hx
  exact free b o' (neC b o e hx) e1 (I.base.free b o e n hx)
 ·obtain⟨o',e1⟩:=I.base.there b o e hx
  exact there b o' (neC b o e hx) e1
 ·obtain⟨m1,e1⟩:=I.base.tbls b ps e
  obtain⟨m2,e2⟩:=tbls b _ e1
  exact⟨m1++m2,by rw[e2,Array.append_assoc]⟩
 ·obtain⟨m,hn,hl⟩:=I.loc
  refine⟨m,ns m hn,λi x v e1 e2 e3=>?_⟩
  obtain⟨u,r,l⟩:=hl i x v e1 e2 e3
  refine⟨u,r,?_⟩
  rcases l with l|⟨k,c,e,z⟩
  ·exact .inl l
  ·exact .inr ⟨k,c,e,cellK x c e _ z⟩
 ·obtain⟨v,z⟩:=I.cell x c e
  exact⟨v,cellK x c e v z⟩
 ·obtain⟨m,⟨o,_,_,ho,_⟩,_⟩:=I.loc
  exact free _ o (λz=>(hch _ z).2.1 rfl) ho I.free
 ·obtain⟨v,o,ho,hd⟩:=I.cell x c e
  exact free c o (λz=>(hch c z).2.2.1 x c e rfl) ho (I.freeC x c e)
 ·obtain⟨e,n,ne,nf,d⟩:=I.pin p hp
  have nch:p.1∉ch:=λz=>(hch p.1 z).2.2.2 p hp rfl
  exact⟨keep p.1 p.2 ne nf nch e n,free p.1 p.2 nch e n,ne,nf,d⟩
theorem Inv.un{t':Nat}(I:Inv X pins σ H s)(u:Un X.fs [] H H' s.heap h')(hok:HOk X.prog X.w H' h'):Inv X pins σ H' {s with heap:=h',toks:=t'}:=by
 obtain⟨m,⟨o,es,ep,ho,r⟩,_⟩:=id I.loc
 obtain⟨sl,hL⟩:=u.any ho I.free ()
 exact I.step (g':=s.gens) (d':=s.drawn) (ch:=[]) (λ_ z=>nomatch z) (λb o _ hb _ e n=>u.keep b o e n hb ()) (λb o _ hb _ e n=>u.slot b o e n hb ()) (λb o _ e n=>u.free b o e n ()) (λb o _ e=>u.there b o e ()) u.tups u.frzs u.tbls (λm' hm=>by
  obtain⟨o',es',ep',ho',r'⟩:=hm
  rw[ho]at ho';cases ho'
  exact⟨_,es',ep',hL,r'⟩) hok I.bare
theorem Inv.call{g':Array B0}{t':Nat}{d':HW}{ch:List Addr}(I:Inv X pins σ H s)(u:Un (frs X.stack) ch H H' s.heap h')(hok:HOk X.prog X.w H' h')(hg:GC g')
  (hch:∀b∈ch,(b∈X.ex\/X.s₀.heap.objs.size<=b)/\b≠X.env.locals/\(∀x c,X.env.cells.lookup x=some c->c≠b)/\∀p∈X.pn++pins,p.1≠b):
  Inv X pins σ H' {s with heap:=h',gens:=g',drawn:=d',toks:=t'}:=by
 obtain⟨m,⟨o,es,ep,ho,r⟩,_⟩:=id I.loc
 obtain⟨sl,hL⟩:=u.any ho I.free λz=>(hch _ z).2.1 rfl
 exact I.step (ch:=ch) hch (λb o hL hb hc e n=>u.keep b o e n (λz=>(ι.mp (I.stkSub b z)).elim hL hb) hc) (λb o _ _ hc e n=>u.any e n hc) (λb o hc e n=>u.free b o e n hc) (λb o hc e=>u.there b o e hc) u.tups u.frzs u.tbls (λm' hm=>by
  obtain⟨o',es',ep',ho',r'⟩:=hm
  rw[ho]at ho';cases ho'
  exact⟨_,es',ep',hL,r'⟩) hok hg
theorem Inv.turned{t':Nat}{it:Addr}(I:Inv X pins σ H s)(k:∀b o,b≠it->s.heap.get? b=some o->h'.get? b=some o)(hn:H it=none)(hL:it≠X.env.locals)
  (h1:it∈X.ex\/X.s₀.heap.objs.size<=it) (h2:∀x c,X.env.cells.lookup x=some c->c≠it) (h3:∀p∈X.pn++pins,p.1≠it):Inv X pins σ H {s with heap:=h',toks:=t'}:=by
 have nit:∀b u,H b=some u->b≠it:=λb u e z=>by rw[z,hn]at e;cases e
 refine I.step (g':=s.gens) (d':=s.drawn) (ch:=[it]) (λb hb=>?_) (λb o _ _ hc e _=>k b o (λz=>hc (by simp[z])) e) (λb o _ _ hc e _=>⟨o.slots,k b o (λz=>hc (by simp[z])) e⟩) (λ_ _ _ _ n=>n)
  (λb o hc e=>⟨o,k b o (λz=>hc (by simp[z])) e⟩) (λ_ _ e=>e) (λ_ _ _ e=>e) (λb ps e=>⟨#[],by rw[e];simp⟩) (λm hm=>?_) (λb u e=>?_) I.bare
 ·have e:b=it:=by simpa using hb
  subst e
  exact⟨h1,hL,h2,h3⟩
 ·obtain⟨o,es,ep,ho,r⟩:=hm
  exact⟨o,es,ep,k _ o (ϛ hL) ho,r⟩
 ·refine(I.hok b u e).stay (λc v hc q=>k c v ?_ q) (λ_ q=>q) λ_ _ q=>q
  rcases hc with z|z
  ·rw[z];exact nit b u e
  ·exact nit c _ z
theorem Inv.tok(I:Inv X pins σ H s)(t:Nat):Inv X pins σ H {s with toks:=t}:=I.un (h':=s.heap) (t':=t) Un.refl I.hok
theorem Inv.kept{t':Nat}(I:Inv X pins σ H s)(k:∀b u,s.heap.get? b=some u->h'.get? b=some u):Inv X pins σ H {s with heap:=h',toks:=t'}:=I.un (Un.kept k) (I.hok.kept k)
theorem Inv.laid{a:Addr}{o:HO}{t':Nat}(I:Inv X pins σ H s)(k:∀b u,s.heap.get? b=some u->h'.get? b=some u)(hp:s.heap.objs.size<=a)(new:bG X.prog X.w (upd H a o) h' a o):
  Inv X pins σ (upd H a o) {s with heap:=h',toks:=t'}:=I.un (Un.laid k hp (I.hok.fresh hp)) (I.hok.laid k hp new)
theorem Inv.write{x e:Addr}{o:HO}{t':Nat}(I:Inv X pins σ H s)(mu:Mut (H x))(he:e=x\/H e=some (.own x))(k:∀b u,b≠e->s.heap.get? b=some u->h'.get? b=some u)(heo:∃u,h'.get? e=some u)
  (new:bG X.prog X.w (upd H x o) h' x o):Inv X pins σ (upd H x o) {s with heap:=h',toks:=t'}:=I.un (Un.write mu he k heo) (I.hok.write mu he k heo new)
theorem Inv.weak{σ':List (Option V)}(I:Inv X pins σ H s)(hl:σ'.length=σ.length)(w:∀(i:Nat) v,σ'[i]?=some (some v)->σ[i]?=some (some v)):Inv X pins σ' H s:=
 ⟨I.ok,I.os,I.bare,I.base,let ⟨m,hn,hl'⟩:=I.loc;⟨m,hn,λi x v e1 e2 e3=>hl' i x v e1 (w i v e2) e3⟩,I.cell,I.free,I.freeC,I.pin,I.hok,hl.trans I.len⟩
theorem Inv.pins_of{pins':List (Addr×Obj)}(I:Inv X pins σ H s)(h:∀p∈pins',s.heap.get? p.1=some p.2/\H p.1=none/\p.1≠X.env.locals/\p.1∉X.fs/\∀v,p.2.data≠.cell v):Inv X pins' σ H s:=
 ⟨I.ok,I.os,I.bare,I.base,I.loc,I.cell,I.free,I.freeC,λp hp=>(Φ.mp hp).elim (λz=>I.pin p (f_ _ z)) (h p),I.hok,I.len⟩
theorem kP{N:List Str}(hN:N.Nodup){i j:Nat}{x:Str}(a:N[i]?=some x)(b:N[j]?=some x):i=j:=by
 obtain⟨h1,e1⟩:=Ρ.mp a
 obtain⟨h2,e2⟩:=Ρ.mp b
 exact(List.getElem_inj hN).mp (e1.trans e2.symm)
theorem mx{M:Hz}{A:Υ}{E:ε->η->Prop}{i:Nat}{x:Str}{v:V}{u:ε}{Q:Unit->η->Prop}(I:Inv X pins σ H s)(hN:X.N.Nodup)(hi:X.N[i]?=some x)(hx:Loc X.env.scope x)(r:aL v u)
  (h:∀s',Inv X pins (σ.set i (some v)) H s'->(∃a,B_ a s.heap s'.heap/\(a=X.env.locals\/X.env.cells.lookup x=some a))->Q Unit.unit s') (hf:X.fn x=true\/X.env.scope.names.lookup x=some .local:=by first|exact .inl rfl|exact .inr rfl|assumption):wpAny M A (storeName X.env x u) Q E s:=by
 obtain⟨m,hn,hl⟩:=id I.loc
 have hcls:(X.env.scope.kind==.class||(X.env.scope.kind==.module&&X.env.locals != X.env.globals))=false:=by rw[I.ok.kind];rfl
 have hiσ:i<σ.length:=by rw[I.len];exact(Ρ.mp hi).1
 have cne:=I.cne
 have tracked:∀{a:Addr}{h':Heap},(∃o,s.heap.get? a=some o/\H a=none)->B_ a s.heap h'->HOk X.prog X.w H h':=λ{a h'} ha hs b ob e=>by
  obtain⟨_,_,hfree⟩:=ha
  refine(I.hok b ob e).stay (λc w' hc q=>(hs.2 c ?_).trans q) (λ_ q=>q) λ_ _ q=>q
  rintro rfl
  rcases hc with rfl|hc
  ·rw[hfree]at e;cases e
  ·rw[hfree]at hc;cases hc
 rcases hx with hk|hk
 ·refine wpAny_storeName_local hk hn (λh' hn' hs=>?_) hcls
  obtain⟨oL,_,_,hoL,_⟩:=id hn
  refine h _ ⟨I.ok,I.os,I.bare,⟨λb o e n hb hx=>?_,λb o e n hb hx=>?_,I.base.free,λb o e hx=>?_,I.base.tups,I.base.frzs,I.base.tbls⟩,⟨_,hn',λj y v' e1 e2 e3=>?_⟩,λy c e=>?_,I.free,I.freeC,λp hp=>?_,tracked ⟨oL,hoL,I.free⟩ hs,by simpa using I.len⟩ ⟨_,hs,.inl rfl⟩
  ·exact(hs.2 b (ϑ (Χ (ω e) I.ok.above))).trans (I.base.keep b o e n hb hx)
  ·obtain⟨sl,e1⟩:=I.base.slot b o e n hb hx
   exact⟨sl,(hs.2 b (ϑ (Χ (ω e) I.ok.above))).trans e1⟩
  ·obtain⟨o',e1⟩:=I.base.there b o e hx
   exact⟨o',(hs.2 b (ϑ (Χ (ω e) I.ok.above))).trans e1⟩
  ·by_cases hj:j=i
   ·subst hj
    rw[hi]at e1;cases e1
    rw[E7 hiσ]at e2
    cases e2
    exact⟨u,r,.inl ⟨hk,()⟩⟩
   ·rw[B3 (ϛ hj)]at e2
    obtain⟨u',r',q⟩:=hl j y v' e1 e2 e3
    refine⟨u',r',?_⟩
    rcases q with ⟨k,e⟩|⟨k,c,e,z⟩
    ·refine .inl ⟨k,?_⟩
     have:y≠x:=λe=>hj (kP hN e1 (e▸hi))
     simp[this,e]
    ·exact .inr ⟨k,c,e,z.sameBut hs (cne y c e)⟩
  ·obtain⟨w',z⟩:=I.cell y c e
   exact⟨w',z.sameBut hs (cne y c e)⟩
  ·obtain⟨e,n,ne,nf,d⟩:=I.pin p hp
   exact⟨(hs.2 p.1 ne).trans e,n,ne,nf,d⟩
 ·have hfn:X.fn x=true:=by
   rcases hf with z|z
   ·exact z
   ·rw[z]at hk;cases hk
  obtain⟨c,hc⟩:=I.ok.has x (.inl hk)
  obtain⟨w',z⟩:=I.cell x c hc
  refine wpAny_storeName_cell I.ok.kind hk hc z (λh' hc' hs=>?_)
  obtain⟨oc,hoc,hocd⟩:=id z
  refine h {s with heap:=h'} ⟨I.ok,I.os,I.bare,⟨λb o e n hb hx=>?_,λb o e n hb hx=>?_,I.base.free,λb o e hx=>?_,I.base.tups,I.base.frzs,I.base.tbls⟩,⟨m,hn.sameBut hs (ϛ (cne x c hc)),λj y v' e1 e2 e3=>?_⟩,λy c' e=>?_,I.free,I.freeC,λp hp=>?_,tracked ⟨oc,hoc,I.freeC x c hc⟩ hs,by simpa using I.len⟩ ⟨c,hs,.inr hc⟩
  ·exact(hs.2 b (ϑ (Χ (ω e) (I.ok.cab x c hfn hc)))).trans (I.base.keep b o e n hb hx)
  ·obtain⟨sl,e1⟩:=I.base.slot b o e n hb hx
   exact⟨sl,(hs.2 b (ϑ (Χ (ω e) (I.ok.cab x c hfn hc)))).trans e1⟩
  ·obtain⟨o',e1⟩:=I.base.there b o e hx
   exact⟨o',(hs.2 b (ϑ (Χ (ω e) (I.ok.cab x c hfn hc)))).trans e1⟩
  ·by_cases hj:j=i
   ·subst hj
    rw[hi]at e1;cases e1
    rw[E7 hiσ]at e2
    cases e2
    exact⟨u,r,.inr ⟨.inl hk,c,hc,hc'⟩⟩
   ·rw[B3 (ϛ hj)]at e2
    obtain⟨u',r',q⟩:=hl j y v' e1 e2 e3
    refine⟨u',r',?_⟩
    rcases q with q|⟨k,c',e,z'⟩
    ·exact .inl q
    ·refine .inr ⟨k,c',e,z'.sameBut hs ?_⟩
     rintro rfl
     exact hj (kP hN e1 (I.ok.inj _ _ _ e hc▸hi))
  ·by_cases hcc:c'=c
   ·subst hcc;exact⟨_,hc'⟩
   ·obtain⟨w2,z2⟩:=I.cell y c' e
    exact⟨w2,z2.sameBut hs hcc⟩
  ·obtain⟨e,n,ne,nf,d⟩:=I.pin p hp
   refine⟨(hs.2 p.1 ?_).trans e,n,ne,nf,d⟩
   intro q
   rw[q,hoc]at e
   have q':oc=p.2:=ϧ e
   exact d w' (by rw[<-q'];exact hocd)
theorem ik{M:Hz}{A:Υ}{E:ε->η->Prop}{i:Nat}{x:Str}{v:V}{u:ε}{Q:Unit->η->Prop}(I:Inv X pins σ H s)(hN:X.N.Nodup)(hi:X.N[i]?=some x)(hx:Loc X.env.scope x)(r:aL v u)
  (h:∀s',Inv X pins (σ.set i (some v)) H s'->Q Unit.unit s') (hf:X.fn x=true\/X.env.scope.names.lookup x=some .local:=by first|exact .inl rfl|exact .inr rfl|assumption):wpAny M A (storeName X.env x u) Q E s:=
 mx I hN hi hx r (λs' I' _=>h s' I') hf
theorem Inv.call'{s':η}{ch:List Addr}(I:Inv X pins σ H s)(ho:s'.os=s.os)(u:Un (frs X.stack) ch H H' s.heap s'.heap)(hok:HOk X.prog X.w H' s'.heap)(hg:GC s'.gens)
  (hch:∀b∈ch,(b∈X.ex\/X.s₀.heap.objs.size<=b)/\b≠X.env.locals/\(∀x c,X.env.cells.lookup x=some c->c≠b)/\∀p∈X.pn++pins,p.1≠b):Inv X pins σ H' s':=by
 obtain⟨h',g',d',t',o'⟩:=s'
 have e:o'=s.os:=ho
 subst e
 exact I.call (g':=g') (t':=t') (d':=d') u hok hg hch
end
abbrev XK:=ε->Option Addr->Hp->Prop
abbrev St:=List (Option V)
abbrev VK:=V->Hp->Prop
abbrev TE:=St->Hp->VK->Prop
abbrev TT:=St->Hp->(Bool->Hp->Prop)->Prop
abbrev TA:=St->Hp->(List V->Hp->Prop)->Prop
structure dI where
 nx:St->Hp->Prop
 rt:VK
 bk:St->Hp->Prop:=λ_ _=>False
 ct:St->Hp->Prop:=λ_ _=>False
abbrev TS:=dI->St->Hp->Prop
def EP(X:Cx)(pins:List (Addr×Obj))(σ:St)(Q:VK)(u:ε)(s':η):Prop:=∃v H',Inv X pins σ H' s'/\aL v u/\Q v H'
def TP(X:Cx)(pins:List (Addr×Obj))(σ:St)(Q:Bool->Hp->Prop)(b:Bool)(s':η):Prop:=∃H',Inv X pins σ H' s'/\Q b H'
def AP(X:Cx)(pins:List (Addr×Obj))(σ:St)(Q:List V->Hp->Prop)(us:List ε)(s':η):Prop:=∃vs H',Inv X pins σ H' s'/\aw vs us/\Q vs H'
def SP(X:Cx)(pins:List (Addr×Obj))(D:dI)(f:Flow)(s':η):Prop:=
 match f with
 |.next=>∃σ' H',Inv X pins σ' H' s'/\D.nx σ' H'
 |.brk=>∃σ' H',Inv X pins σ' H' s'/\D.bk σ' H'
 |.cont=>∃σ' H',Inv X pins σ' H' s'/\D.ct σ' H'
 |.ret u=>∃v σ' H',Inv X pins σ' H' s'/\aL v u/\D.rt v H'
def PE(X:Cx)(e:Expr)(t:TE):Prop:=
 ∀(pins:List (Addr×Obj))(s:η)(σ:St)(H:Hp)(Q:VK),Inv X pins σ H s->t σ H Q->wpAny (model X.prog X.w) X.A (eval e X.env) (EP X pins σ Q) X.xe s
def PT(X:Cx)(e:Expr)(t:TT):Prop:=
 ∀(pins:List (Addr×Obj))(s:η)(σ:St)(H:Hp)(Q:Bool->Hp->Prop),Inv X pins σ H s->t σ H Q->wpAny (model X.prog X.w) X.A (isTrue e X.env (eval e X.env)) (TP X pins σ Q) X.xe s
def PW(X:Cx)(e:Expr)(t:TT):Prop:=
 ∀(whole:Sem ε)(pins:List (Addr×Obj))(s:η)(σ:St)(H:Hp)(Q:Bool->Hp->Prop),Inv X pins σ H s->t σ H Q->wpAny (model X.prog X.w) X.A (isTrue e X.env whole) (TP X pins σ Q) X.xe s
theorem PW.pt{X:Cx}{e:Expr}{t:TT}(h:PW X e t):PT X e t:=h _
def PA(X:Cx)(es:List Expr)(t:TA):Prop:=
 ∀(pos:Pos)(pins:List (Addr×Obj))(s:η)(σ:St)(H:Hp)(Q:List V->Hp->Prop),Inv X pins σ H s->t σ H Q->wpAny (model X.prog X.w) X.A (spliced (backTo pos (starEach es X.env))) (AP X pins σ Q) X.xe s
def PS(X:Cx)(st:Stmt)(t:TS):Prop:=
 ∀(pins:List (Addr×Obj))(s:η)(σ:St)(H:Hp)(D:dI),Inv X pins σ H s->t D σ H->wpAny (model X.prog X.w) X.A (exec st X.env) (SP X pins D) X.xe s
def PSs(X:Cx)(st:List Stmt)(t:TS):Prop:=
 ∀(pins:List (Addr×Obj))(s:η)(σ:St)(H:Hp)(D:dI),Inv X pins σ H s->t D σ H->wpAny (model X.prog X.w) X.A (execs st X.env) (SP X pins D) X.xe s
theorem thn{α:Type}{t:Sem α}{Q Q':α->η->Prop}{M:Hz}{A:Υ}{E:ε->η->Prop}{s:η}(h:wpAny M A t Q E s)(hQ:∀a s,Q a s->Q' a s):wpAny M A t Q' E s:=ϴ h hQ λ_ _ x=>x
section
variable{X:Cx}
def fY(i:Nat):TE:=λσ H Q=>∃v,σ[i]?=some (some v)/\Q v H
def tC(v:V):TE:=λ_ H Q=>Q v H
theorem yl{i:Nat}{x:Str}{pos:Pos}(hN:X.N[i]?=some x)(hv:Vis X.env.scope x)(hd:(x==("__debug__" : Str))=false:=by decide)(hcd:(x==("__classdict__" : Str))=false:=by decide):PE X (.Name x pos) (fY i):=by
 intro pins s σ H Q I h
 obtain⟨v,e,h⟩:=h
 obtain⟨m,hn,hl⟩:=I.loc
 obtain⟨u,r,l⟩:=hl i x v hN e hv
 have fin:EP X pins σ Q u s:=⟨v,H,I,r,h⟩
 rcases l with ⟨hk,hm⟩|⟨hk,c,hc,hcell⟩
 ·exact wpAny_Name (wpAny_loadName_local I.ok.kind hk hn hm fin) hd
 ·rcases hk with hk|hk
  ·exact wpAny_Name (wpAny_loadName_cell I.ok.kind hk hc hcell fin) hd
  ·exact wpAny_Name (wpAny_loadName_free I.ok.kind hk hc hcell fin hcd) hd
theorem pe_int{i j pos}:PE X (.Constant (.int i) j pos) (tC (.int i)):=λ_ _ _ H _ I h=>wpAny_Constant_int ⟨.int i,H,I.tok _,⟨_,rfl⟩,h⟩
theorem pe_bl{b j pos}:PE X (.Constant (.bool b) j pos) (tC (.bl b)):=λ_ _ _ H _ I h=>Constant_bool ⟨.bl b,H,I,rfl,h⟩
theorem pe_non{j pos}:PE X (.Constant .none j pos) (tC .non):=λ_ _ _ H _ I h=>Constant_none ⟨.non,H,I,rfl,h⟩
theorem pe_str{x j pos}:PE X (.Constant (.str x) j pos) (tC (.str x)):=λ_ _ _ H _ I h=>Calls.Constant_str ⟨.str x,H,I.tok _,⟨_,rfl⟩,h⟩
def Gl(X:Cx)(x:Str):Prop:=X.env.kindOf x=some .globalImplicit
theorem eB{E:ε->η->Prop}{pins:List (Addr×Obj)}{s:η}{σ:St}{H:Hp}{x:Str}{u:ε}{pos:Pos}{Q:ε->η->Prop}(I:Inv X pins σ H s)(hg:Gl X x)(hm:X.mg x=some u)(h:Q u s)
  (hd:(x==("__debug__" : Str))=false:=by decide):wpAny (model X.prog X.w) X.A (eval (.Name x pos) X.env) Q E s:=
 GH I.ok.kind hg (Calls.loadGlobal_global (by rw[I.ok.glob];exact I.mod.glob.keeps I.bk) hm h) hd
theorem eA{E:ε->η->Prop}{pins:List (Addr×Obj)}{s:η}{σ:St}{H:Hp}{x:Str}{u:ε}{pos:Pos}{Q:ε->η->Prop}(I:Inv X pins σ H s)(hg:Gl X x)(hm:X.mg x=none)(hv:bootBuiltins x=some u)(h:Q u s)
  (hn:x≠"__name__":=by decide) (hd:(x==("__debug__" : Str))=false:=by decide):wpAny (model X.prog X.w) X.A (eval (.Name x pos) X.env) Q E s:=by
 obtain⟨mb,h1,h2⟩:=I.mod.blt
 exact GH I.ok.kind hg (Calls.loadGlobal_builtin (by rw[I.ok.glob];exact I.mod.glob.keeps I.bk) hm (by rw[I.ok.blt];exact h1.keeps I.bk) ((h2 x hn).trans hv) h) hd
theorem pe_glob{x:Str}{v:V}{u:ε}{pos:Pos}(hg:Gl X x)(hm:X.mg x=some u)(r:aL v u)(hd:(x==("__debug__" : Str))=false:=by decide):PE X (.Name x pos) (tC v):=
 λ_ _ _ H _ I h=>eB I hg hm ⟨v,H,I,r,h⟩ hd
theorem pe_bltn{x:Str}{v:V}{u:ε}{pos:Pos}(hg:Gl X x)(hm:X.mg x=none)(hv:bootBuiltins x=some u)(r:aL v u)(hn:x≠"__name__":=by decide)(hd:(x==("__debug__" : Str))=false:=by decide):PE X (.Name x pos) (tC v):=
 λ_ _ _ H _ I h=>eA I hg hm hv ⟨v,H,I,r,h⟩ hn hd
variable{a b:Expr}{ta tb:TE}{pos:Pos}
def tB(t:TE):TT:=λσ H Q=>t σ H λx H1=>∃c,x=.bl c/\Q c H1
theorem pt_val{e:Expr}{t:TE}(h:PE X e t)(he:∀whole,isTrue e X.env whole=(do let v <-whole;standAt e.pos;holding [v] (truthy v)):=by intro _;rfl):PT X e (tB t):=by
 intro pins s σ H Q I hw
 refine isTrue_plain (thn (h pins s σ H _ I hw) λv s1 ⟨x,H1,I1,r1,q1⟩=>?_) (he _)
 obtain⟨d,rfl,q⟩:=q1
 cases r1
 exact d_ ⟨H1,I1,q⟩
variable{tA tB':TT}{rest:List Expr}
def FO(t u:TT):TT:=λσ H Q=>t σ H λc H1=>if c=true then u σ H1 Q else Q false H1
def tOr(t u:TT):TT:=λσ H Q=>t σ H λc H1=>if c=true then Q true H1 else u σ H1 Q
def FX(t:TT):TT:=λσ H Q=>t σ H λc H1=>Q (!c) H1
theorem pw_and1(ha:PT X a tA):PW X (.BoolOp .And [a] pos) tA:=by
 intro wh pins s σ H Q I h
 refine isTrue_and (thn (ha pins s σ H Q I h) λc s1 e=>?_)
 cases c with
 |true=>exact isTrue_and_nil e
 |false=>exact e
theorem pw_or1(ha:PT X a tA):PW X (.BoolOp .Or [a] pos) tA:=by
 intro wh pins s σ H Q I h
 refine isTrue_or (thn (ha pins s σ H Q I h) λc s1 e=>?_)
 cases c with
 |false=>exact isTrue_or_nil e
 |true=>exact e
theorem pw_and(ha:PT X a tA)(hb:PW X (.BoolOp .And (b::rest) pos) tB'):PW X (.BoolOp .And (a::b::rest) pos) (FO tA tB'):=by
 intro wh pins s σ H Q I h
 refine isTrue_and (thn (ha pins s σ H _ I h) λc s1 ⟨H1,I1,q1⟩=>?_)
 cases c with
 |true=>exact hb wh pins s1 σ H1 Q I1 q1
 |false=>exact⟨H1,I1,q1⟩
theorem pw_or(ha:PT X a tA)(hb:PW X (.BoolOp .Or (b::rest) pos) tB'):PW X (.BoolOp .Or (a::b::rest) pos) (tOr tA tB'):=by
 intro wh pins s σ H Q I h
 refine isTrue_or (thn (ha pins s σ H _ I h) λc s1 ⟨H1,I1,q1⟩=>?_)
 cases c with
 |true=>exact⟨H1,I1,q1⟩
 |false=>exact hb wh pins s1 σ H1 Q I1 q1
theorem pt_not(ha:PT X a tA):PT X (.UnaryOp .Not a pos) (FX tA):=by
 intro pins s σ H Q I h
 exact isTrue_not (ha pins s σ H (λc H1=>Q (!c) H1) I h)
def EB(ta tb:TE):TE:=λσ H Q=>ta σ H λx H1=>∃c,x=.bl c/\if c=true then tb σ H1 Q else Q (.bl false) H1
def DU(ta tb:TE):TE:=λσ H Q=>ta σ H λx H1=>∃c,x=.bl c/\if c=true then Q (.bl true) H1 else tb σ H1 Q
def EE(ta:TE):TE:=λσ H Q=>ta σ H λx H1=>∃c,x=.bl c/\Q (.bl (!c)) H1
theorem pe_one{op}{t:TE}(h:PE X a t):PE X (.BoolOp op [a] pos) t:=λpins s σ H Q I hw=>BoolOp_one (h pins s σ H Q I hw)
theorem pe_and(ha:PE X a ta)(hb:PE X (.BoolOp .And (b::rest) pos) tb):PE X (.BoolOp .And (a::b::rest) pos) (EB ta tb):=by
 intro pins s σ H Q I h
 refine BoolOp_and (thn (ha pins s σ H _ I h) λv s1 ⟨x,H1,I1,r1,q1⟩=>?_)
 obtain⟨c,rfl,q1⟩:=q1
 cases r1
 refine d_ ?_
 cases c with
 |true=>exact hb pins s1 σ H1 Q I1 q1
 |false=>exact⟨.bl false,H1,I1,rfl,q1⟩
theorem pe_or(ha:PE X a ta)(hb:PE X (.BoolOp .Or (b::rest) pos) tb):PE X (.BoolOp .Or (a::b::rest) pos) (DU ta tb):=by
 intro pins s σ H Q I h
 refine BoolOp_or (thn (ha pins s σ H _ I h) λv s1 ⟨x,H1,I1,r1,q1⟩=>?_)
 obtain⟨c,rfl,q1⟩:=q1
 cases r1
 refine d_ ?_
 cases c with
 |false=>exact hb pins s1 σ H1 Q I1 q1
 |true=>exact⟨.bl true,H1,I1,rfl,q1⟩
theorem pe_not(ha:PE X a ta):PE X (.UnaryOp .Not a pos) (EE ta):=by
 intro pins s σ H Q I h
 refine UnaryOp_ (thn (ha pins s σ H _ I h) λv s1 ⟨x,H1,I1,r1,q1⟩=>?_)
 obtain⟨c,rfl,q1⟩:=q1
 cases r1
 exact not_of (d_ ⟨.bl (!c),H1,I1,rfl,q1⟩)
def tIf(t:TT)(ta tb:TE):TE:=λσ H Q=>t σ H λc H1=>if c=true then ta σ H1 Q else tb σ H1 Q
theorem pe_ifExp{c:Expr}(hc:PT X c tA)(ha:PE X a ta)(hb:PE X b tb):PE X (.IfExp c a b pos) (tIf tA ta tb):=by
 intro pins s σ H Q I h
 refine wpAny_IfExp (thn (hc pins s σ H _ I h) λd s1 ⟨H1,I1,q1⟩=>?_)
 cases d with
 |true=>exact ha pins s1 σ H1 Q I1 q1
 |false=>exact hb pins s1 σ H1 Q I1 q1
end
def SqL(K:ζ)(H:Hp)(a:Addr)(xs:List V):Prop:=
 Rd H a (.lst xs) \/
  ∃(o:Obj) (its:Array ε) (n:Nat),K.lookup a=some o/\o.cls=.type "list"/\o.dict=none/\o.data=.seq its n/\its.size<=sizeLine/\aw xs its.toList
def SqT(K:ζ)(H:Hp)(a:Addr)(xs:List V):Prop:=
 Rd H a (.tup xs) \/
  ∃(o:Obj) (its:Array ε) (n:Nat),K.lookup a=some o/\o.cls=.type "tuple"/\o.data=.seq its n/\its.size<=sizeLine/\aw xs its.toList
def Fp:ε->Option V
 |.none=>some .non
 |.bool b=>some (.bl b)
 |.int i _=>some (.int i)
 |.str x _=>some (.str x)
 |.bytes b _=>some (.byt b)
 |.float b _=>some (.flt b)
 |.ref a=>some (.ref a)
 |.type n=>some (.ty n)
 |_=>none
theorem aL.abs{x:V}{u:ε}(r:aL x u):Fp u=some x:=by
 cases x with
 |non=>cases r;rfl
 |bl _=>cases r;rfl
 |int _=>obtain⟨t,rfl⟩:=r;rfl
 |str _=>obtain⟨t,rfl⟩:=r;rfl
 |byt _=>obtain⟨t,rfl⟩:=r;rfl
 |flt _=>obtain⟨t,rfl⟩:=r;rfl
 |ref _=>cases r;rfl
 |ty _=>cases r;rfl
theorem aL.inj{x y:V}{u:ε}(r:aL x u)(q:aL y u):x=y:=ϧ (r.abs.symm.trans q.abs)
theorem aw.inj:∀{xs ys:List V}{us:List ε},aw xs us->aw ys us->xs=ys
 |_,_,_,.nil,.nil=>rfl
 |_,_,_,.cons r t,.cons r' t'=>by rw[r.inj r',aw.inj t t']
section
variable{X:Cx}{pins:List (Addr×Obj)}{σ:St}{H:Hp}{s:η}{a:Addr}{xs ys:List V}
theorem SqL.of{K:ζ}(h:H a=some (.lst xs)):SqL K H a xs:=.inl (.inl h)
theorem SqT.of{K:ζ}(h:H a=some (.tup xs)):SqT K H a xs:=.inl (.inl h)
theorem Inv.list(I:Inv X pins σ H s)(h:SqL X.K H a xs):∃its:List ε,aw xs its/\PlainL s.heap a its.toArray/\xs.length<=sizeLine:=by
 rcases h with h|⟨o,its,n,hk,hc,hd,hs,hz,r⟩
 ·obtain⟨z,its,n,r,e⟩:=h.ok I.hok
  exact⟨its,r,⟨_,n,e,rfl,rfl,rfl⟩,z⟩
 ·refine⟨its.toList,r,⟨o,n,I.kIn a o hk,hc,hd,by simpa using hs⟩,?_⟩
  have e:=r.length
  simp only[ψ]at e
  omega
theorem Inv.tuple(I:Inv X pins σ H s)(h:SqT X.K H a xs):∃its:List ε,aw xs its/\H_ s.heap a its.toArray/\xs.length<=sizeLine:=by
 rcases h with h|⟨o,its,n,hk,hc,hs,hz,r⟩
 ·obtain⟨z,its,r,p⟩:=h.ok I.hok
  exact⟨its,r,p.1,z⟩
 ·refine⟨its.toList,r,⟨o,I.kIn a o hk,hc,n,by simpa using hs⟩,?_⟩
  have e:=r.length
  simp only[ψ]at e
  omega
theorem Inv.list_inj(I:Inv X pins σ H s)(h:SqL X.K H a xs)(h':SqL X.K H a ys):xs=ys:=by
 obtain⟨its,r,⟨o,n,e,_,_,d⟩,_⟩:=I.list h
 obtain⟨its',r',⟨o',n',e',_,_,d'⟩,_⟩:=I.list h'
 rw[e]at e';cases e'
 rw[d]at d'
 injection d' with d1 _
 have:its=its':=by simpa using congrArg Array.toList d1
 subst this
 exact r.inj r'
theorem Inv.tuple_inj(I:Inv X pins σ H s)(h:SqT X.K H a xs)(h':SqT X.K H a ys):xs=ys:=by
 obtain⟨its,r,⟨o,e,_,n,d⟩,_⟩:=I.tuple h
 obtain⟨its',r',⟨o',e',_,n',d'⟩,_⟩:=I.tuple h'
 rw[e]at e';cases e'
 rw[d]at d'
 injection d' with d1 _
 have:its=its':=by simpa using congrArg Array.toList d1
 subst this
 exact r.inj r'
end
abbrev Cx.wish(X:Cx)(E:ε->η->Prop):Cx:={X with xe:=E}
abbrev Cx.nox(X:Cx):Cx:=X.wish λ_ _=>False
theorem Cx.Ok.wish{X:Cx}(ok:X.Ok)(E:ε->η->Prop):(X.wish E).Ok:=
 ⟨ok.mod,ok.kind,ok.glob,ok.blt,ok.above,ok.inj,ok.has,ok.cab,ok.hd,ok.frames,ok.stk,ok.exf,ok.bs,ok.bsz,ok.noex,ok.exfs,ok.funs,ok.frf⟩
theorem Cx.Ok.unwish{X:Cx}{E:ε->η->Prop}(ok:(X.wish E).Ok):X.Ok:=
 ⟨ok.mod,ok.kind,ok.glob,ok.blt,ok.above,ok.inj,ok.has,ok.cab,ok.hd,ok.frames,ok.stk,ok.exf,ok.bs,ok.bsz,ok.noex,ok.exfs,ok.funs,ok.frf⟩
section
variable{X:Cx}{pins:List (Addr×Obj)}{σ:St}{H:Hp}{s:η}{E:ε->η->Prop}
theorem Inv.wish(I:Inv X pins σ H s)(E:ε->η->Prop):Inv (X.wish E) pins σ H s:=⟨I.ok.wish E,I.os,I.bare,I.base,I.loc,I.cell,I.free,I.freeC,I.pin,I.hok,I.len⟩
theorem Inv.unwish(I:Inv (X.wish E) pins σ H s):Inv X pins σ H s:=⟨I.ok.unwish,I.os,I.bare,I.base,I.loc,I.cell,I.free,I.freeC,I.pin,I.hok,I.len⟩
theorem SP.unwish{D:dI}{f:Flow}{s':η}(h:SP (X.wish E) pins D f s'):SP X pins D f s':=by
 cases f with
 |next=>obtain⟨σ',H',I,q⟩:=h;exact⟨σ',H',I.unwish,q⟩
 |brk=>obtain⟨σ',H',I,q⟩:=h;exact⟨σ',H',I.unwish,q⟩
 |cont=>obtain⟨σ',H',I,q⟩:=h;exact⟨σ',H',I.unwish,q⟩
 |ret u=>obtain⟨v,σ',H',I,r,q⟩:=h;exact⟨v,σ',H',I.unwish,r,q⟩
theorem PSs.nox{st:List Stmt}{t:TS}(h:PSs X.nox st t):PSs X st t:=λpins s σ H D I hw=>
 ϴ (h pins s σ H D (I.wish _) hw) (λ_ _ q=>q.unwish) λ_ _ z=>ϟ z
end
section
variable{X:Cx}{st:Stmt}{rest:List Stmt}{t u:TS}{e:Expr}{te:TE}{pos:Pos}
def Bt:TS:=λD σ H=>D.nx σ H
def CP(t u:TS):TS:=λD σ H=>t {D with nx:=u D} σ H
theorem pss_nil:PSs X [] Bt:=λ_ _ σ H _ I h=>q_ ⟨σ,H,I,h⟩
theorem pss_cons(h1:PS X st t)(h2:PSs X rest u):PSs X (st::rest) (CP t u):=by
 intro pins s σ H D I h
 refine Ga (thn (h1 pins s σ H {D with nx:=u D} I h) λf s1 q=>?_)
 cases f with
 |next=>
  obtain⟨σ',H',I',q⟩:=q
  exact h2 pins s1 σ' H' D I' q
 |ret v=>exact q
 |brk=>exact q
 |cont=>exact q
theorem pss_one(h1:PS X st t):PSs X [st] t:=by
 intro pins s σ H D I h
 refine Ga (thn (h1 pins s σ H D I h) λf s1 q=>?_)
 cases f with
 |next=>exact q_ q
 |ret v=>exact q
 |brk=>exact q
 |cont=>exact q
theorem Inv.quiet{pins:List (Addr×Obj)}{σ:St}{H:Hp}{s:η}(I:Inv X pins σ H s):interactive X.env=false:=by simp[interactive,I.ok.kind]
def EU(te:TE):TS:=λD σ H=>te σ H λ_ H1=>D.nx σ H1
theorem ps_expr(he:PE X e te)(hs:swapsWith e none pos.line X.env=pure false:=by rfl):PS X (.Expr e pos) (EU te):=by
 intro pins s σ H D I h
 exact wpAny_Expr_any (thn (he pins s σ H _ I h) λv s1 ⟨x,H1,I1,r1,q1⟩=>⟨σ,H1,I1,q1⟩) I.quiet hs
def CO(te:TE):TS:=λD σ H=>te σ H D.rt
theorem ps_ret(he:PE X e te):PS X (.Return (some e) pos) (CO te):=by
 intro pins s σ H D I h
 exact wpAny_Return_some (thn (he pins s σ H _ I h) λv s1 ⟨x,H1,I1,r1,q1⟩=>⟨x,σ,H1,I1,r1,q1⟩)
def EO(c:TT)(t u:TS):TS:=λD σ H=>c σ H λb H1=>if b=true then t D σ H1 else u D σ H1
theorem ps_if{c:Expr}{a b:List Stmt}{tc:TT}(hc:PT X c tc)(ha:PSs X a t)(hb:PSs X b u):PS X (.If c a b pos) (EO tc t u):=by
 intro pins s σ H D I h
 refine wpAny_If (thn (hc pins s σ H _ I h) λd s1 ⟨H1,I1,q1⟩=>?_)
 cases d with
 |true=>exact ha pins s1 σ H1 D I1 q1
 |false=>exact hb pins s1 σ H1 D I1 q1
end
abbrev TG:=V->St->Hp->(St->Hp->Prop)->Prop
abbrev TGs:=List V->St->Hp->(St->Hp->Prop)->Prop
def PG(X:Cx)(target:Expr)(t:TG):Prop:=
 ∀(pins:List (Addr×Obj))(s:η)(σ:St)(H:Hp)(v:V)(u:ε)(Q:St->Hp->Prop),Inv X pins σ H s->aL v u->t v σ H Q ->
  wpAny (model X.prog X.w) X.A (assign target X.env u) (λ_ s'=>∃σ' H',Inv X pins σ' H' s'/\Q σ' H') X.xe s
def PGs(X:Cx)(ts:List Expr)(t:TGs):Prop:=
 ∀(pins:List (Addr×Obj))(s:η)(σ:St)(H:Hp)(vs:List V)(us:List ε)(Q:St->Hp->Prop),Inv X pins σ H s->aw vs us->t vs σ H Q ->
  wpAny (model X.prog X.w) X.A (assignInOrder ((assignEach ts X.env).map (·.2)) us) (λ_ s'=>∃σ' H',Inv X pins σ' H' s'/\Q σ' H') X.xe s
abbrev Cy:=V->V->V->Hp->(Hp->Prop)->Prop
def EF(X:Cx)(t:Cy):Prop:=
 ∀(pins:List (Addr×Obj))(s:η)(σ:St)(H:Hp)(o i v:V)(ov iv u:ε)(Q:Hp->Prop),Inv X pins σ H s->aL o ov->aL i iv->aL v u->t o i v H Q ->
  wpAny (model X.prog X.w) X.A (setItem ov iv u) (λ_ s'=>∃H',Inv X pins σ H' s'/\Q H') X.xe s
abbrev TIp:=V->V->Hp->VK->Prop
def PIp(X:Cx)(op:HX)(t:TIp):Prop:=
 ∀(pins:List (Addr×Obj))(s:η)(σ:St)(H:Hp)(x y:V)(v u:ε)(Q:VK),Inv X pins σ H s->aL x v->aL y u->t x y H Q ->
  wpAny (model X.prog X.w) X.A (inplaceOp op v u) (EP X pins σ Q) X.xe s
section
variable{X:Cx}{pos:Pos}
def db(i:Nat):TG:=λv σ H Q=>Q (σ.set i (some v)) H
theorem pg_name{i:Nat}{x:Str}(hN:X.N.Nodup)(hi:X.N[i]?=some x)(hx:Loc X.env.scope x)(hf:X.fn x=true\/X.env.scope.names.lookup x=some .local:=by first|exact .inl rfl|exact .inr rfl|assumption):PG X (.Name x pos) (db i):=by
 intro pins s σ H v u Q I r h
 exact wpAny_assign_Name (ik I hN hi hx r (λs' I'=>⟨_,H,I',h⟩) hf)
def wQ:TGs:=λvs σ H Q=>vs=[]/\Q σ H
def jr(t:TG)(u:TGs):TGs:=λvs σ H Q=>∃v r,vs=v::r/\t v σ H λσ' H'=>u r σ' H' Q
theorem pgs_nil:PGs X [] wQ:=by
 intro pins s σ H vs us Q I r h
 obtain⟨e,h⟩:=h
 subst e
 cases r
 exact assignInOrder_nil ⟨σ,H,I,h⟩
theorem pgs_cons{e:Expr}{es:List Expr}{t:TG}{u:TGs}(h1:PG X e t)(h2:PGs X es u)
  (hs:(assignEach (e::es) X.env).map (·.2)=assign e X.env::(assignEach es X.env).map (·.2):=by rfl):PGs X (e::es) (jr t u):=by
 intro pins s σ H vs us Q I r h
 obtain⟨v,vr,e1,h⟩:=h
 subst e1
 cases r with
 |cons r rr=>
  rw[hs]
  refine assignInOrder_cons (thn (h1 pins s σ H _ _ _ I r h) λ_ s1 ⟨σ1,H1,I1,q1⟩=>?_)
  exact h2 pins s1 σ1 H1 _ _ Q I1 rr q1
def Aw(K:ζ)(n:Nat)(t:TGs):TG:=λv σ H Q=>∃a xs,v=.ref a/\SqT K H a xs/\xs.length=n/\t xs σ H Q
theorem pg_tup{es:List Expr}{k:Nat}{t:TGs}{n:Nat}(hc:X.calm=true)(h:PGs X es t)
  (hn:(assignEach es X.env).length=n:=by rfl) (hst:(assignEach es X.env).findIdx? (·.1)=none:=by rfl):PG X (.Tuple es k pos) (Aw X.K n t):=by
 intro pins s σ H v u Q I r hw
 obtain⟨a,xs,e1,hq,hl,hw⟩:=hw
 subst e1
 cases r
 obtain⟨its,rv,ht,hz⟩:=I.tuple hq
 refine assign_Tuple_tuple (I.ok.hd hc) ht (by simp[hn,<-hl,rv.length]) hst λh' hx=>?_
 have I1:Inv X pins σ H {s with heap:=h'}:=I.kept (t':=s.toks) λb o e=>hx b o (ϑ (ω e)) e
 exact h pins _ σ H xs _ Q I1 (by simpa using rv) hw
def FT(to ti:TE)(t:Cy):TG:=λv σ H Q=>to σ H λo H1=>ti σ H1 λi H2=>t o i v H2 λH3=>Q σ H3
theorem pg_sub{o i:Expr}{to ti:TE}{t:Cy}(ho:PE X o to)(hi:PE X i ti)(hs:EF X t)
  (ha:∀v,assign (.Subscript o i pos) X.env v=(do
   let ov <-holding [v] (eval o X.env)
   let iv <-holding [v,ov] (eval i X.env)
   standAt pos
   holding [v,ov,iv] (setItem ov iv v)
   release [v,ov,iv] []):=by intro _;rfl):PG X (.Subscript o i pos) (FT to ti t):=by
 intro pins s σ H v u Q I r h
 rw[ha]
 refine δ (A9 (thn (ho pins s σ H _ I h) λov s1 ⟨x,H1,I1,r1,q1⟩=>?_))
 refine δ (A9 (thn (hi pins s1 σ H1 _ I1 q1) λiv s2 ⟨y,H2,I2,r2,q2⟩=>?_))
 refine δ (Gj (δ (A9 (thn (hs pins s2 σ H2 x y v ov iv u _ I2 r1 r2 r q2) λ_ s3 ⟨H3,I3,q3⟩=>?_))))
 exact wpAny_release ⟨σ,H3,I3,q3⟩
def Dz(te:TE)(g:TG):TS:=λD σ H=>te σ H λx H1=>g x σ H1 D.nx
theorem ps_asg{tg e:Expr}{te:TE}{g:TG}(he:PE X e te)(hg:PG X tg g)(hs:swapsWithSole [tg] e pos.line X.env=pure false:=by rfl)(hw:swappedStores [tg] e X.env=pure none:=by rfl)
  (h1:(assignEach [tg] X.env).map (·.2)=[assign tg X.env]:=by rfl):PS X (.Assign [tg] e pos) (Dz te g):=by
 intro pins s σ H D I h
 refine wpAny_Assign_stores (thn (he pins s σ H _ I h) λv s1 ⟨x,H1,I1,r1,q1⟩=>?_) hs hw
 rw[h1]
 exact thn (hg pins s1 σ H1 x v _ I1 r1 q1) λ_ s2 q=>q
theorem ps_set{i:Nat}{x:Str}{e:Expr}{te:TE}{pos':Pos}(hN:X.N.Nodup)(hi:X.N[i]?=some x)(hx:Loc X.env.scope x)(he:PE X e te)(hs:swapsWith e (some (.Name x pos')) pos.line X.env=pure false:=by rfl)(hf:X.fn x=true\/X.env.scope.names.lookup x=some .local:=by first|exact .inl rfl|exact .inr rfl|assumption):
  PS X (.Assign [.Name x pos'] e pos) (Dz te (db i)):=by
 intro pins s σ H D I h
 refine wpAny_Assign_Name (thn (he pins s σ H _ I h) λv s1 ⟨y,H1,I1,r1,q1⟩=>?_) hs
 exact ik I1 hN hi hx r1 (λs2 I2=>⟨_,H1,I2,q1⟩) hf
def FF(i:Nat)(te:TE)(ti:TIp):TS:=λD σ H=>∃x,σ[i]?=some (some x)/\te σ H λy H1=>ti x y H1 λz H2=>D.nx (σ.set i (some z)) H2
theorem ps_aug{i:Nat}{x:Str}{e:Expr}{te:TE}{op:HX}{ti:TIp}{pos':Pos}(hN:X.N.Nodup)(hi:X.N[i]?=some x)(hx:Loc X.env.scope x)(he:PE X e te)(ho:PIp X op ti)(hf:X.fn x=true\/X.env.scope.names.lookup x=some .local:=by first|exact .inl rfl|exact .inr rfl|assumption):
  PS X (.AugAssign (.Name x pos') op e pos) (FF i te ti):=by
 intro pins s σ H D I h
 obtain⟨v,e1,h⟩:=h
 obtain⟨m,hn,hl⟩:=I.loc
 have vis:Vis X.env.scope x:=by rcases hx with k|k;exact .inl k;exact .inr (.inl k)
 obtain⟨u,r,l⟩:=hl i x v hi e1 vis
 refine wpAny_AugAssign_Name ?_
 have go:wpAny (model X.prog X.w) X.A (eval e X.env) (λw s₂=>wpAny (model X.prog X.w) X.A (inplaceOp op u w) (λr s₃=>wpAny (model X.prog X.w) X.A (storeName X.env x r) (λ_=>SP X pins D .next) X.xe s₃) X.xe s₂) X.xe s:=by
  refine thn (he pins s σ H _ I h) λw s1 ⟨y,H1,I1,r1,q1⟩=>?_
  refine thn (ho pins s1 σ H1 v y u w _ I1 r r1 q1) λz s2 ⟨zv,H2,I2,r2,q2⟩=>?_
  exact ik I2 hN hi hx r2 (λs3 I3=>⟨_,H2,I3,q2⟩) hf
 rcases l with ⟨hk,hm⟩|⟨hk,c,hc,hcell⟩
 ·exact wpAny_loadName_local I.ok.kind hk hn hm go
 ·rcases hk with hk|hk
  ·exact wpAny_loadName_cell I.ok.kind hk hc hcell go
  ·rcases hx with k|k
   ·have:X.env.scope.names.lookup x=some .free:=hk
    rw[k]at this;cases this
   ·have:X.env.scope.names.lookup x=some .free:=hk
    rw[k]at this;cases this
def ipI(f:Int->Int->Int):TIp:=λx y H Q=>∃i j,x=.int i/\y=.int j/\Q (.int (f i j)) H
theorem yO:PIp X .Add (ipI λi j=>i+j):=by
 intro pins s σ H x y v u Q I r1 r2 h
 obtain⟨i,j,e1,e2,q⟩:=h
 subst e1;subst e2
 obtain⟨t,rfl⟩:=r1
 obtain⟨t',rfl⟩:=r2
 exact iadd_int ⟨.int _,H,I.tok _,⟨_,rfl⟩,q⟩
def uD(c:TT)(tb:TS):TS:=λD σ H=>∃W:Nat->St->Hp->Prop,(∃m,W m σ H)/\∀m σ H,W m σ H ->
 c σ H λb H1=>if b=true then ∃N:St->Hp->Prop,(∀σ' H',N σ' H'->∃m',m'<m/\W m' σ' H')/\tb {D with nx:=N,ct:=N,bk:=D.nx} σ H1 else D.nx σ H1
theorem ps_while{c:Expr}{body:List Stmt}{tc:TT}{tb:TS}(hp:PassesOwn (model X.prog X.w) X.A X.env X.xe)(hc:PT X c tc)(hb:PSs X body tb):PS X (.While c body [] pos) (uD tc tb):=by
 intro pins s σ H D I h
 obtain⟨W,⟨m0,w0⟩,turn⟩:=h
 refine wpAny_While (codeAny_whileLoop (λn s'=>∃σ' H',Inv X pins σ' H' s'/\W n σ' H') ?_ m0 ⟨σ,H,I,w0⟩)
 rintro n s1 ⟨σ1,H1,I1,w1⟩
 refine v_ hp (thn (hc pins s1 σ1 H1 _ I1 (turn n σ1 H1 w1)) λb s2 ⟨H2,I2,q2⟩=>?_)
 cases b with
 |true=>
  obtain⟨N,hN,q2⟩:=q2
  rw[Q5 rfl]
  refine v_ hp (thn (hb pins s2 σ1 H2 _ I2 q2) λf s3 q3=>?_)
  cases f with
  |next=>
   obtain⟨σ3,H3,I3,n3⟩:=q3
   obtain⟨m',hm,w3⟩:=hN σ3 H3 n3
   exact⟨m',hm,σ3,H3,I3,w3⟩
  |cont=>
   obtain⟨σ3,H3,I3,n3⟩:=q3
   obtain⟨m',hm,w3⟩:=hN σ3 H3 n3
   exact⟨m',hm,σ3,H3,I3,w3⟩
  |brk=>exact q3
  |ret v=>exact q3
 |false=>
  rw[Q6 Ζ]
  exact q_ ⟨σ1,H2,I2,q2⟩
end
structure It where
 go:Nat->Hp->Prop
 yld:Nat->Hp->V->Hp->Prop
 stop:Nat->Hp->Prop
def gb(X:Cx)(pins:List (Addr×Obj))(H:Hp)(b:Addr):Prop:=
 H b=none/\b≠X.env.locals/\b∉X.fs/\(b∈X.ex\/X.s₀.heap.objs.size<=b)/\(∀x c,X.env.cells.lookup x=some c->c≠b)/\∀p∈X.pn++pins,p.1≠b
theorem Inv.fpOk{X:Cx}{pins:List (Addr×Obj)}{σ:St}{H H':Hp}{s:η}{b:Addr}(I:Inv X pins σ H s)(hb:s.heap.objs.size<=b)(hn:H' b=none):gb X pins H' b:=by
 refine⟨hn,o0 (Χ I.lt hb),I.nofs hb,.inr (ϕ I.sz hb),λx c e z=>?_,λp hp z=>?_⟩
 ·obtain⟨v,q⟩:=I.cell x c e
  exact absurd (Χ q.lt (by rw[z];exact hb)) (r_ _)
 ·exact absurd (Χ (ω (I.pin p hp).1) (by rw[z];exact hb)) (r_ _)
structure mj(P:υ)(w:Κ)(K:ζ)(tg:Expr)(J:It)(fp:List Addr)(it:Addr)(tn:Nat->Heap->Prop):Prop where
 mem:it∈fp
 obj:∀i h,tn i h->∀b∈fp,∃o,h.get? b=some o/\∀v,o.data≠.cell v
 keep:∀i h h',tn i h->(∀b∈fp,∀o,h.get? b=some o->h'.get? b=some o)->tn i h'
 item:∀(X:Cx),X.prog=P->X.w=w->X.K=K->X.calm=true->∀(i:Nat)(pins:List (Addr×Obj))(s:η)(σ:St)(H:Hp)(E:ε->η->Prop),Inv X pins σ H s->(∀b∈fp,gb X pins H b)->tn i s.heap->J.go i H ->
  wpAny (model P w) X.A (pyNext (.ref it)) (λr s1=>∃u,r=some u /\
   wpAny (model P w) X.A (letOwnedTupleGo tg (.ref it) u) (λ_ s2=>∃x H',Inv X pins σ H' s2/\aL x u/\J.yld i H x H'/\tn (i+1) s2.heap/\∀b∈fp,H' b=none) E s1) E s
 done:∀(X:Cx),X.prog=P->X.w=w->X.K=K->X.calm=true->∀(i:Nat)(pins:List (Addr×Obj))(s:η)(σ:St)(H:Hp)(E:ε->η->Prop),Inv X pins σ H s->(∀b∈fp,gb X pins H b)->tn i s.heap->J.stop i H ->
  wpAny (model P w) X.A (pyNext (.ref it)) (λr s1=>r=none/\Inv X pins σ H s1) E s
 self:∀(A:Υ)(i:Nat)(s:η)(Q:ε->η->Prop)(E:ε->η->Prop),tn i s.heap->Q (.ref it) s->wpAny (model P w) A (pyIter (.ref it)) Q E s
abbrev TI:=St->Hp->(It->Hp->Prop)->Prop
def PIE(X:Cx)(pins:List (Addr×Obj))(σ:St)(tg:Expr)(R:It->Hp->Prop)(itv:ε)(s2:η):Prop:=
 ∃(it:Addr) (fp:List Addr) (tn:Nat->Heap->Prop) (J:It) (H':Hp),itv=.ref it/\Inv X pins σ H' s2/\mj X.prog X.w X.K tg J fp it tn/\tn 0 s2.heap/\(∀b∈fp,gb X pins H' b)/\R J H'
def PI(X:Cx)(tg iter:Expr)(wi:TI):Prop:=
 ∀(pins:List (Addr×Obj))(s:η)(σ:St)(H:Hp)(R:It->Hp->Prop),Inv X pins σ H s->wi σ H R ->
  wpAny (model X.prog X.w) X.A (eval iter X.env) (λv s1=>wpAny (model X.prog X.w) X.A (pyIter v) (PIE X pins σ tg R) X.xe s1) X.xe s
theorem qY{M:Hz}{A:Υ}{E:ε->η->Prop}{s:η}{tg:Expr}{it:Addr}{u:ε}{o:Obj}{n:String}{vs:Array ε}{Q:Unit->η->Prop}(ho:s.heap.get? it=some o)(hc:o.cls=.type n)(hd:o.data=.fields vs)
  (hn:["enumerate","zip","dict_itemiterator","dict_reverseitemiterator","odict_iterator","itertools.zip_longest","itertools.pairwise"].contains n=false) (hQ:Q Unit.unit s):wpAny M A (letOwnedTupleGo tg (.ref it) u) Q E s:=by
 unfold letOwnedTupleGo
 cases tg<;>first
  |exact ρ hQ
  |(cases u<;>first
    |exact ρ hQ
    | (refine δ (wpAny_load ho ?_)
       rw[hc,hd]
       show wpAny M A (if (["enumerate","zip","dict_itemiterator","dict_reverseitemiterator","odict_iterator","itertools.zip_longest","itertools.pairwise"].contains n&&vs[0]?==some (rawInt _))=true then _ else _) Q E s
       rw[Q6 (by intro h;rw[hn,ϵ]at h;cases h)]
       exact ρ hQ))
def Itl(K:ζ)(a:Addr):It:=
 ⟨λi H=>∃xs x,SqL K H a xs/\xs[i]?=some x,λi H x H'=>H'=H/\∀xs,SqL K H a xs->xs[i]?=some x,λi H=>∃xs,SqL K H a xs/\xs.length<=i⟩
def Itt(K:ζ)(a:Addr):It:=
 ⟨λi H=>∃xs x,SqT K H a xs/\xs[i]?=some x,λi H x H'=>H'=H/\∀xs,SqT K H a xs->xs[i]?=some x,λi H=>∃xs,SqT K H a xs/\xs.length<=i⟩
def Itr(lo:Int)(n:Nat):It:=⟨λi _=>i<n,λi H x H'=>H'=H/\x=.int (lo+i),λi _=>n<=i⟩
theorem wz{P:υ}{w:Κ}{K:ζ}{tg:Expr}(a it:Addr):mj P w K tg (Itl K a) [it] it (λi h=>h.IsListIter it a i) where
 mem:=by simp
 obj:=λi h st b hb=>by
  have e:b=it:=by simpa using hb
  subst e
  obtain⟨o,e,c,d⟩:=st
  exact⟨o,e,λv z=>by rw[d]at z;cases z⟩
 keep:=λi h h' st k=>st.at λo e=>k it () o e
 item:=by
  intro X hP hw hK hc i pins s σ H E I hf st hg
  subst hP hw hK
  obtain⟨xs,x,hq,hx⟩:=hg
  obtain⟨its,rv,p,hz⟩:=I.list hq
  obtain⟨u,hu,ru⟩:=rv.get hx
  obtain⟨f0,f1,f2,f3,f4,f5⟩:=hf it ()
  refine wpAny_pyNext_list_item st p.isList (x:=u) (by simpa using hu) λh' st' sb=>?_
  have I1:Inv X pins σ H {s with heap:=h'}:=I.turned (t':=s.toks) (λb o hb e=>(sb.2 b hb).trans e) f0 f1 f3 f4 f5
  obtain⟨o,e,c,d⟩:=id st'
  exact⟨u,rfl,qY (s:={s with heap:=h'}) e c d () ⟨x,H,I1,ru,⟨rfl,λys hy=>by rw[I.list_inj hy hq];exact hx⟩,st',λb hb=>(hf b hb).1⟩⟩
 done:=by
  intro X hP hw hK hc i pins s σ H E I hf st hg
  subst hP hw hK
  obtain⟨xs,hq,hx⟩:=hg
  obtain⟨its,rv,p,hz⟩:=I.list hq
  obtain⟨f0,f1,f2,f3,f4,f5⟩:=hf it ()
  have hl:=rv.length
  exact wpAny_pyNext_list_end (I.ok.hd hc) st p.isList (by simp;omega) λh' eb=>⟨rfl,I.turned (t':=s.toks) (λb o hb e=>eb b o hb e) f0 f1 f3 f4 f5⟩
 self:=λ_ _ _ _ _ st h=>wpAny_pyIter_listiter st h
theorem sW{P:υ}{w:Κ}{K:ζ}{tg:Expr}(a it:Addr):mj P w K tg (Itt K a) [it] it (λi h=>h.IsTupleIter it a i) where
 mem:=by simp
 obj:=λi h st b hb=>by
  have e:b=it:=by simpa using hb
  subst e
  obtain⟨o,e,c,d⟩:=st
  exact⟨o,e,λv z=>by rw[d]at z;cases z⟩
 keep:=λi h h' st k=>st.at λo e=>k it () o e
 item:=by
  intro X hP hw hK hc i pins s σ H E I hf st hg
  subst hP hw hK
  obtain⟨xs,x,hq,hx⟩:=hg
  obtain⟨its,rv,p,hz⟩:=I.tuple hq
  obtain⟨u,hu,ru⟩:=rv.get hx
  obtain⟨f0,f1,f2,f3,f4,f5⟩:=hf it ()
  refine wpAny_pyNext_tuple_item st (show s.heap.IsTuple a its.toArray from p) (x:=u) (by simpa using hu) λh' st' sb=>?_
  have I1:Inv X pins σ H {s with heap:=h'}:=I.turned (t':=s.toks) (λb o hb e=>(sb.2 b hb).trans e) f0 f1 f3 f4 f5
  obtain⟨o,e,c,d⟩:=id st'
  exact⟨u,rfl,qY (s:={s with heap:=h'}) e c d () ⟨x,H,I1,ru,⟨rfl,λys hy=>by rw[I.tuple_inj hy hq];exact hx⟩,st',λb hb=>(hf b hb).1⟩⟩
 done:=by
  intro X hP hw hK hc i pins s σ H E I hf st hg
  subst hP hw hK
  obtain⟨xs,hq,hx⟩:=hg
  obtain⟨its,rv,p,hz⟩:=I.tuple hq
  obtain⟨f0,f1,f2,f3,f4,f5⟩:=hf it ()
  have hl:=rv.length
  exact wpAny_pyNext_tuple_end (I.ok.hd hc) st (show s.heap.IsTuple a its.toArray from p) (by simp;omega) λh' eb=>⟨rfl,I.turned (t':=s.toks) (λb o hb e=>eb b o hb e) f0 f1 f3 f4 f5⟩
 self:=λ_ _ _ _ _ st h=>wpAny_pyIter_tupleiter st h
theorem uf{P:υ}{w:Κ}{K:ζ}{tg:Expr}(it:Addr)(lo:Int)(n:Nat):mj P w K tg (Itr lo n) [it] it (λi h=>Gm h it (lo+(i:Nat)*1) ((n:Int)-(i:Nat)) 1) where
 mem:=by simp
 obj:=λi h st b hb=>by
  have e:b=it:=by simpa using hb
  subst e
  exact⟨_,st,λv z=>by
   have z':HN _=Gb v:=z
   cases z'⟩
 keep:=λi h h' st k=>k it () _ st
 item:=by
  intro X hP hw hK hc i pins s σ H E I hf st hg
  subst hP hw hK
  obtain⟨f0,f1,f2,f3,f4,f5⟩:=hf it ()
  have W:=Walks.range (prog:=X.prog) (w:=X.w) (I.ok.hd hc) it lo 1 n
  refine W.item i s _ _ hg st λv h' tk hv st' kk=>?_
  obtain⟨t,rfl⟩:=hv
  have I1:Inv X pins σ H {s with heap:=h',toks:=tk}:=I.turned (λb o hb e=>kk b o (by simpa using hb) e) f0 f1 f3 f4 f5
  refine⟨_,rfl,qY (s:={s with heap:=h',toks:=tk}) (n:="range_iterator") st' rfl rfl () ⟨.int (lo+i),H,I1,⟨t,?_⟩,⟨rfl,rfl⟩,st',λb hb=>(hf b hb).1⟩⟩
  rw[Int.mul_one]
 done:=by
  intro X hP hw hK hc i pins s σ H E I hf st hg
  subst hP hw hK
  obtain⟨f0,f1,f2,f3,f4,f5⟩:=hf it ()
  exact wpAny_pyNext_range_end (I.ok.hd hc) st (by have:n<=i:=hg;omega) λh' eb=>⟨rfl,I.turned (t':=s.toks) (λb o hb e=>eb b o hb e) f0 f1 f3 f4 f5⟩
 self:=λ_ _ _ _ _ st h=>wpAny_pyIter_rangeiter st h
section
variable{X:Cx}{tg:Expr}
def EY(K:ζ)(tl:TE):TI:=λσ H R=>tl σ H λx H1=>∃a,x=.ref a/\(∃xs,SqL K H1 a xs)/\R (Itl K a) H1
def Ft(K:ζ)(tl:TE):TI:=λσ H R=>tl σ H λx H1=>∃a,x=.ref a/\(∃xs,SqT K H1 a xs)/\R (Itt K a) H1
theorem pi_list{l:Expr}{tl:TE}(hl:PE X l tl):PI X tg l (EY X.K tl):=by
 intro pins s σ H R I h
 refine thn (hl pins s σ H _ I h) λv s1 ⟨x,H1,I1,r1,q1⟩=>?_
 obtain⟨a,e,⟨xs,hq⟩,q⟩:=q1
 subst e
 cases r1
 obtain⟨its,rv,p,hz⟩:=I1.list hq
 refine Hb p.isList ?_
 refine⟨s1.heap.objs.size,[s1.heap.objs.size],_,_,H1,rfl,I1.kept (t':=s1.toks) λb o e=>μ _ e,wz a _,⟨_,Β _ rfl,rfl,rfl⟩,λb hb=>?_,q⟩
 have e:b=s1.heap.objs.size:=by simpa using hb
 subst e
 exact I1.fpOk (θ _) (I1.hok.fresh (θ _))
theorem pi_tup{l:Expr}{tl:TE}(hl:PE X l tl):PI X tg l (Ft X.K tl):=by
 intro pins s σ H R I h
 refine thn (hl pins s σ H _ I h) λv s1 ⟨x,H1,I1,r1,q1⟩=>?_
 obtain⟨a,e,⟨xs,hq⟩,q⟩:=q1
 subst e
 cases r1
 obtain⟨its,rv,p,hz⟩:=I1.tuple hq
 refine E3 (show s1.heap.IsTuple a its.toArray from p) ?_
 refine⟨s1.heap.objs.size,[s1.heap.objs.size],_,_,H1,rfl,I1.kept (t':=s1.toks) λb o e=>μ _ e,sW a _,⟨_,Β _ rfl,rfl,rfl⟩,λb hb=>?_,q⟩
 have e:b=s1.heap.objs.size:=by simpa using hb
 subst e
 exact I1.fpOk (θ _) (I1.hok.fresh (θ _))
theorem rC{pins:List (Addr×Obj)}{σ:St}{H:Hp}{s:η}{R:It->Hp->Prop}{E:ε->η->Prop}{lo hi:Int}{t u v:Tok}{tk:Nat}(I:Inv X pins σ H s)(h1:-(2^62)<=lo)(h2:lo<2^62)(h3:-(2^62)<=hi)(h4:hi<2^62)
  (q:R (Itr lo (hi-lo).toNat) H):wpAny (model X.prog X.w) X.A (pyIter (.ref s.heap.objs.size)) (PIE X pins σ tg R) E {s with heap:=s.heap.push {cls:=.type "range",data:=.fields #[.int lo t,.int hi u,.int 1 v]},toks:=tk}:=by
 refine wpAny_pyIter_range (IsRange.new ..) (small_one h1 h2 h3 h4) ?_
 have I1:Inv X pins σ H {s with heap:=s.heap.push {cls:=.type "range",data:=.fields #[.int lo t,.int hi u,.int 1 v]},toks:=tk}:=I.kept λb o e=>μ _ e
 refine⟨(s.heap.push {cls:=.type "range",data:=.fields #[.int lo t,.int hi u,.int 1 v]}).objs.size,[(s.heap.push {cls:=.type "range",data:=.fields #[.int lo t,.int hi u,.int 1 v]}).objs.size],_,_,H,rfl,
  I1.kept (t':=tk) λb o e=>μ _ e,uf _ lo (hi-lo).toNat,?_,λb hb=>?_,q⟩
 ·have e1:lo+((0:Nat):Int)*1=lo:=by simp
  have e2:(((hi-lo).toNat:Nat):Int)-((0:Nat):Int)=e_.Range.rangeSize lo hi 1:=by rw[rangeSize_one];split<;>omega
  show Gm _ _ (lo+((0:Nat):Int)*1) ((((hi-lo).toNat:Nat):Int)-((0:Nat):Int)) 1
  rw[e1,e2]
  exact Β _ rfl
 ·have e:b=(s.heap.push {cls:=.type "range",data:=.fields #[.int lo t,.int hi u,.int 1 v]}).objs.size:=by simpa using hb
  subst e
  exact I1.fpOk (θ _) (I1.hok.fresh (θ _))
def EK(ta:TA):TI:=λσ H R=>ta σ H λvs H1=>∃j:Int,vs=[.int j]/\-(2^62)<=j/\j<2^62/\R (Itr 0 j.toNat) H1
def Eo(ta:TA):TI:=λσ H R=>ta σ H λvs H1=>∃i j:Int,vs=[.int i,.int j]/\(-(2^62)<=i/\i<2^62/\-(2^62)<=j/\j<2^62)/\R (Itr i (j-i).toNat) H1
theorem pi_range1{a:Expr}{ta:TA}{p pos:Pos}(hg:Gl X "range")(hm:X.mg "range"=none)(ha:PA X [a] ta)(hs:starEach [a] X.env=[(false,eval a X.env)]:=by rfl):PI X tg (.Call (.Name "range" p) [a] [] pos) (EK ta):=by
 intro pins s σ H R I h
 refine Call_ (eA I hg hm boot_range (e6 (thn (ha pos pins s σ H _ I h) λus s1 ⟨vs,H1,I1,r1,q1⟩=>?_) hs rfl))
 obtain⟨j,e,q1,q2,q⟩:=q1
 subst e
 cases r1 with
 |cons r rr=>
  cases rr
  obtain⟨t,rfl⟩:=r
  exact call_range_1 (rC I1 () () q1 q2 (by simpa using q))
theorem pi_range2{a b:Expr}{ta:TA}{p pos:Pos}(hg:Gl X "range")(hm:X.mg "range"=none)(ha:PA X [a,b] ta)(hs:starEach [a,b] X.env=[(false,eval a X.env),(false,eval b X.env)]:=by rfl)(hs2:starEach [b] X.env=[(false,eval b X.env)]:=by rfl):
  PI X tg (.Call (.Name "range" p) [a,b] [] pos) (Eo ta):=by
 intro pins s σ H R I h
 refine Call_ (eA I hg hm boot_range (e6 (thn (ha pos pins s σ H _ I h) λus s1 ⟨vs,H1,I1,r1,q1⟩=>?_) (by rw[hs,hs2]) (by rw[hs2];rfl)))
 obtain⟨i,j,e,⟨q1,q2,q3,q4⟩,q⟩:=q1
 subst e
 cases r1 with
 |cons r rr=>
  cases rr with
  |cons r' rr=>
   cases rr
   obtain⟨t,rfl⟩:=r
   obtain⟨t',rfl⟩:=r'
   exact call_range_2 (rC I1 q1 q2 q3 q4 q)
def Fv(wi:TI)(g:TG)(tb:TS):TS:=λD σ H=>wi σ H λJ H1=>∃W:Nat->Nat->St->Hp->Prop,(∃m,W 0 m σ H1)/\∀i m σ H,W i m σ H ->
 (J.stop i H/\D.nx σ H)\/(J.go i H/\∃N:St->Hp->Prop,(∀σ' H',N σ' H'->∃m',m'<m/\W (i+1) m' σ' H')/\∀x H',J.yld i H x H'->g x σ H' λσ2 H2=>tb {D with nx:=N,ct:=N,bk:=D.nx} σ2 H2)
def iU(fp:List Addr)(h:Heap):List (Addr×Obj):=fp.filterMap λb=>(h.get? b).map λo=>(b,o)
theorem cw{fp:List Addr}{h:Heap}{b:Addr}{o:Obj}(hb:b∈fp)(e:h.get? b=some o):(b,o)∈iU fp h:=List.mem_filterMap.mpr ⟨b,hb,by rw[e];rfl⟩
theorem we{fp:List Addr}{h:Heap}{p:Addr×Obj}(hp:p∈iU fp h):p.1∈fp/\h.get? p.1=some p.2:=by
 obtain⟨b,hb,e⟩:=List.mem_filterMap.mp hp
 cases q:h.get? b with
 |none=>rw[q]at e;cases e
 |some o=>
  rw[q]at e
  have e':(b,o)=p:=ϧ e
  subst e'
  exact⟨hb,q⟩
theorem Inv.pinned{pins:List (Addr×Obj)}{σ:St}{H:Hp}{s:η}{fp:List Addr}(I:Inv X pins σ H s)(hf:∀b∈fp,gb X pins H b)(ho:∀b∈fp,∃o,s.heap.get? b=some o/\∀v,o.data≠.cell v):Inv X (pins++iU fp s.heap) σ H s:=
 I.pins_of λp hp=>(Φ.mp hp).elim (λz=>I.pin p (Ο _ z)) λz=>by
  obtain⟨hb,e⟩:=we z
  obtain⟨f0,f1,f2,_⟩:=hf p.1 hb
  obtain⟨o,e',d⟩:=ho p.1 hb
  rw[e]at e';cases e'
  exact⟨e,f0,f1,f2,d⟩
theorem Inv.unpinned{pins pl:List (Addr×Obj)}{σ:St}{H:Hp}{s:η}(I:Inv X (pins++pl) σ H s):Inv X pins σ H s:=I.pins_of λp hp=>I.pin p (Ο _ (f_ _ hp))
theorem ps_for{iter:Expr}{body:List Stmt}{wi:TI}{g:TG}{tb:TS}{pos:Pos}(hp:PassesOwn (model X.prog X.w) X.A X.env X.xe)(hc:X.calm=true)(hi:PI X tg iter wi)(hg:PG X tg g)(hb:PSs X body tb)
  (hs:∀x,foldedSetIterable iter X.env x=pure x:=by intro _;rfl):PS X (.For tg iter body [] pos) (Fv wi g tb):=by
 intro pins s σ H D I h
 refine wpAny_For (thn (hi pins s σ H _ I h) λv s1 h1=>thn h1 λitv s2 h2=>?_) hs
 obtain⟨it,fp,tn,J,H2,e,I2,T,st2,f2,W,⟨m0,w0⟩,turn⟩:=h2
 subst e
 have stat:∀{H':Hp},(∀b∈fp,H' b=none)->∀b∈fp,gb X pins H' b:=λhn b hb=>⟨hn b hb,(f2 b hb).2⟩
 refine codeAny_forLoop_any (λn s'=>∃i σ' H',Inv X pins σ' H' s'/\tn i s'.heap/\(∀b∈fp,H' b=none)/\W i n σ' H') ?_ m0 ⟨0,σ,H2,I2,st2,λb hb=>(f2 b hb).1,w0⟩
 rintro n s3 ⟨i,σ3,H3,I3,st3,fr3,w3⟩
 rcases turn i n σ3 H3 w3 with ⟨stop,qn⟩|⟨go,N,hN,step⟩
 ·refine v_ hp (thn (T.done X rfl rfl rfl hc i pins s3 σ3 H3 X.xe I3 (stat fr3) st3 stop) λr s4 ⟨hr,I4⟩=>?_)
  subst hr
  exact q_ ⟨σ3,H3,I4,qn⟩
 ·refine v_ hp (thn (T.item X rfl rfl rfl hc i pins s3 σ3 H3 X.xe I3 (stat fr3) st3 go) λr s4 ⟨u,hr,h4⟩=>?_)
  subst hr
  refine v_ hp (thn h4 λ_ s5 ⟨x,H5,I5,r5,y5,st5,fr5⟩=>?_)
  have I5':=I5.pinned (stat fr5) (T.obj _ _ st5)
  refine v_ hp (thn (hg _ s5 σ3 H5 x u _ I5' r5 (step x H5 y5)) λ_ s6 ⟨σ6,H6,I6,q6⟩=>?_)
  refine v_ hp (thn (hb _ s6 σ6 H6 _ I6 q6) λf s7 q7=>?_)
  have again:∀{σ7:St}{H7:Hp},Inv X (pins++iU fp s5.heap) σ7 H7 s7->N σ7 H7->∃m,m<n/\∃i σ' H',Inv X pins σ' H' s7/\tn i s7.heap/\(∀b∈fp,H' b=none)/\W i m σ' H':=λ{σ7 H7} I7 n7=>by
   obtain⟨m',hm,w7⟩:=hN σ7 H7 n7
   refine⟨m',hm,i+1,σ7,H7,I7.unpinned,T.keep _ _ _ st5 λb hb o e=>(I7.pin (b,o) (Ο _ (Ο _ (cw hb e)))).1,λb hb=>?_,w7⟩
   obtain⟨o,e,d⟩:=T.obj _ _ st5 b hb
   exact(I7.pin (b,o) (Ο _ (Ο _ (cw hb e)))).2.1
  cases f with
  |next=>obtain⟨σ7,H7,I7,n7⟩:=q7;exact again I7 n7
  |cont=>obtain⟨σ7,H7,I7,n7⟩:=q7;exact again I7 n7
  |brk=>obtain⟨σ7,H7,I7,q7⟩:=q7;exact⟨σ7,H7,I7.unpinned,q7⟩
  |ret v=>obtain⟨x7,σ7,H7,I7,r7,q7⟩:=q7;exact⟨x7,σ7,H7,I7.unpinned,r7,q7⟩
end
theorem Ai{K:ζ}{a:Addr}{xs:List V}{g:TG}{tb:TS}{D:dI}{σ:St}{H:Hp}(Pv:Nat->St->Hp->Prop)(h0:Pv 0 σ H)(hl:∀i σ H,i<=xs.length->Pv i σ H->SqT K H a xs)
  (hs:∀i x σ H,xs[i]?=some x->Pv i σ H->g x σ H λσ2 H2=>tb {D with nx:=Pv (i+1),ct:=Pv (i+1),bk:=D.nx} σ2 H2) (hd:∀σ H,Pv xs.length σ H->D.nx σ H):
  ∃W:Nat->Nat->St->Hp->Prop,(∃m,W 0 m σ H)/\∀i m σ H,W i m σ H ->
   ((Itt K a).stop i H/\D.nx σ H)\/((Itt K a).go i H/\∃N:St->Hp->Prop,(∀σ' H',N σ' H'->∃m',m'<m/\W (i+1) m' σ' H')/\∀x H',(Itt K a).yld i H x H'->g x σ H' λσ2 H2=>tb {D with nx:=N,ct:=N,bk:=D.nx} σ2 H2):=by
 refine⟨λi m σ H=>m=xs.length-i/\i<=xs.length/\Pv i σ H,⟨xs.length,(),ϖ _,h0⟩,?_⟩
 rintro i m σ H ⟨rfl,hi,p⟩
 have q:=hl i σ H hi p
 by_cases hlt:i<xs.length
 ·refine .inr ⟨⟨xs,xs[i],q,by simp[hlt]⟩,Pv (i+1),λσ' H' p'=>⟨xs.length-(i+1),(),rfl,hlt,p'⟩,λx H' y=>?_⟩
  obtain⟨e,y⟩:=y
  subst e
  exact hs i x σ _ (y xs q) p
 ·have e:i=xs.length:=by omega
  subst e
  exact .inl ⟨⟨xs,q,θ _⟩,hd σ H p⟩
theorem mN{lo:Int}{n:Nat}{g:TG}{tb:TS}{D:dI}{σ:St}{H:Hp}(Pv:Nat->St->Hp->Prop)(h0:Pv 0 σ H)
  (hs:∀i σ H,i<n->Pv i σ H->g (.int (lo+i)) σ H λσ2 H2=>tb {D with nx:=Pv (i+1),ct:=Pv (i+1),bk:=D.nx} σ2 H2) (hd:∀σ H,Pv n σ H->D.nx σ H):
  ∃W:Nat->Nat->St->Hp->Prop,(∃m,W 0 m σ H)/\∀i m σ H,W i m σ H ->
   ((Itr lo n).stop i H/\D.nx σ H)\/((Itr lo n).go i H/\∃N:St->Hp->Prop,(∀σ' H',N σ' H'->∃m',m'<m/\W (i+1) m' σ' H')/\∀x H',(Itr lo n).yld i H x H'->g x σ H' λσ2 H2=>tb {D with nx:=N,ct:=N,bk:=D.nx} σ2 H2):=by
 refine⟨λi m σ H=>m=n-i/\i<=n/\Pv i σ H,⟨n,(),ϖ _,h0⟩,?_⟩
 rintro i m σ H ⟨rfl,hi,p⟩
 by_cases hlt:i<n
 ·refine .inr ⟨hlt,Pv (i+1),λσ' H' p'=>⟨n-(i+1),(),rfl,hlt,p'⟩,λx H' y=>?_⟩
  obtain⟨e,y⟩:=y
  subst e y
  exact hs i σ _ hlt p
 ·have e:i=n:=by omega
  subst e
  exact .inl ⟨θ _,hd σ H p⟩
abbrev R2:=V->V->Hp->VK->Prop
def OpR(X:Cx)(f:ε->ε->Sem ε)(r:R2):Prop:=
 ∀(pins:List (Addr×Obj))(s:η)(σ:St)(H:Hp)(x y:V)(v u:ε)(Q:VK),Inv X pins σ H s->aL x v->aL y u->r x y H Q ->
  wpAny (model X.prog X.w) X.A (f v u) (EP X pins σ Q) X.xe s
def UnR(X:Cx)(f:ε->Sem ε)(r:V->Hp->VK->Prop):Prop:=
 ∀(pins:List (Addr×Obj))(s:η)(σ:St)(H:Hp)(x:V)(v:ε)(Q:VK),Inv X pins σ H s->aL x v->r x H Q ->
  wpAny (model X.prog X.w) X.A (f v) (EP X pins σ Q) X.xe s
def dZ(X:Cx)(f:ε)(r:List V->Hp->VK->Prop):Prop:=
 ∀(pins:List (Addr×Obj))(s:η)(σ:St)(H:Hp)(xs:List V)(us:List ε)(Q:VK),Inv X pins σ H s->aw xs us->r xs H Q ->
  wpAny (model X.prog X.w) X.A (call f us) (EP X pins σ Q) X.xe s
def Fw(X:Cx)(r:V->Hp->(Bool->Hp->Prop)->Prop):Prop:=
 ∀(pins:List (Addr×Obj))(s:η)(σ:St)(H:Hp)(x:V)(v:ε)(Q:Bool->Hp->Prop),Inv X pins σ H s->aL x v->r x H Q ->
  wpAny (model X.prog X.w) X.A (truthy v) (TP X pins σ Q) X.xe s
def tOp(r:R2)(ta tb:TE):TE:=λσ H Q=>ta σ H λx H1=>tb σ H1 λy H2=>r x y H2 Q
def tUn(r:V->Hp->VK->Prop)(ta:TE):TE:=λσ H Q=>ta σ H λx H1=>r x H1 Q
def rI(C:Int->Int->Prop)(g:Int->Int->V):R2:=λx y H Q=>∃i j,x=.int i/\y=.int j/\C i j/\Q (g i j) H
def rI0(g:Int->Int->V):R2:=λx y H Q=>∃i j,x=.int i/\y=.int j/\Q (g i j) H
def rU(g:Int->V):V->Hp->VK->Prop:=λx H Q=>∃i,x=.int i/\Q (g i) H
section
variable{X:Cx}{a b c:Expr}{ta tb tc:TE}{pos:Pos}
theorem BW(ha:PE X a ta)(hb:PE X b tb){pins:List (Addr×Obj)}{s:η}{σ:St}{H:Hp}{R:V->V->Hp->Prop}(I:Inv X pins σ H s)
  (h:ta σ H λx H1=>tb σ H1 λy H2=>R x y H2) {Q:ε->η->Prop} {f:ε->ε->Sem ε}
  (hf:∀v u s2 x y H2,Inv X pins σ H2 s2->aL x v->aL y u->R x y H2->wpAny (model X.prog X.w) X.A (f v u) Q X.xe s2):
  wpAny (model X.prog X.w) X.A (eval a X.env) (λv s₁=>wpAny (model X.prog X.w) X.A (eval b X.env) (λu s₂=>wpAny (model X.prog X.w) X.A (f v u) Q X.xe s₂) X.xe s₁) X.xe s:=by
 refine thn (ha pins s σ H _ I h) λv s1 ⟨x,H1,I1,r1,q1⟩=>?_
 refine thn (hb pins s1 σ H1 _ I1 q1) λu s2 ⟨y,H2,I2,r2,q2⟩=>?_
 exact hf v u s2 x y H2 I2 r1 r2 q2
theorem pe_op{op:HX}{r:R2}(ho:OpR X (binaryOp op) r)(ha:PE X a ta)(hb:PE X b tb):PE X (.BinOp a op b pos) (tOp r ta tb):=by
 intro pins s σ H Q I h
 exact wpAny_BinOp (BW ha hb I h λv u s2 x y H2 I2 rx ry q=>ho pins s2 σ H2 x y v u Q I2 rx ry q)
theorem pe_un{op:UnaryOp}{r:V->Hp->VK->Prop}(ho:UnR X (unaryOp op) r)(ha:PE X a ta):PE X (.UnaryOp op a pos) (tUn r ta):=by
 intro pins s σ H Q I h
 exact UnaryOp_ (thn (ha pins s σ H _ I h) λv s1 ⟨x,H1,I1,r1,q1⟩=>ho pins s1 σ H1 x v Q I1 r1 q1)
theorem opI{f:ε->ε->Sem ε}{C:Int->Int->Prop}{g:Int->Int->Int}
  (rule:∀(i j:Int)(t u:Tok)(s:η)(Q:ε->η->Prop)(E:ε->η->Prop),C i j->Q (.int (g i j) s.toks) {s with toks:=s.toks+1}->wpAny (model X.prog X.w) X.A (f (.int i t) (.int j u)) Q E s):
  OpR X f (rI C λi j=>.int (g i j)):=by
 intro pins s σ H x y v u Q I rx ry h
 obtain⟨i,j,rfl,rfl,hc,q⟩:=h
 obtain⟨t,rfl⟩:=rx
 obtain⟨t',rfl⟩:=ry
 exact rule i j t t' s _ _ hc ⟨.int (g i j),H,I.tok _,⟨_,rfl⟩,q⟩
theorem EA{f:ε->ε->Sem ε}{g:Int->Int->Int}
  (rule:∀(i j:Int)(t u:Tok)(s:η)(Q:ε->η->Prop)(E:ε->η->Prop),Q (.int (g i j) s.toks) {s with toks:=s.toks+1}->wpAny (model X.prog X.w) X.A (f (.int i t) (.int j u)) Q E s):
  OpR X f (rI0 λi j=>.int (g i j)):=by
 intro pins s σ H x y v u Q I rx ry h
 obtain⟨i,j,rfl,rfl,q⟩:=h
 obtain⟨t,rfl⟩:=rx
 obtain⟨t',rfl⟩:=ry
 exact rule i j t t' s _ _ ⟨.int (g i j),H,I.tok _,⟨_,rfl⟩,q⟩
theorem zj{f:ε->ε->Sem ε}{g:Int->Int->Bool}
  (rule:∀(i j:Int)(t u:Tok)(s:η)(Q:ε->η->Prop)(E:ε->η->Prop),Q (.bool (g i j)) s->wpAny (model X.prog X.w) X.A (f (.int i t) (.int j u)) Q E s):
  OpR X f (rI0 λi j=>.bl (g i j)):=by
 intro pins s σ H x y v u Q I rx ry h
 obtain⟨i,j,rfl,rfl,q⟩:=h
 obtain⟨t,rfl⟩:=rx
 obtain⟨t',rfl⟩:=ry
 exact rule i j t t' s _ _ ⟨.bl (g i j),H,I,rfl,q⟩
def DO(i j:Int):Prop:=0<=j/\j<=1000000/\i.natAbs<2^64
def Ca(i j:Int):Prop:=(-(2^64)<i/\i<2^64)\/(-(2^64)<j/\j<2^64)
theorem Ca.ok{i j:Int}(h:Ca i j):IntMulOk i j:=by
 rcases h with ⟨h1,h2⟩|⟨h1,h2⟩
 ·exact .of_left (intBits_le_64 h1 h2)
 ·exact .of_right (intBits_le_64 h1 h2)
theorem fu:OpR X (binaryOp .Add) (rI0 λi j=>.int (i+j)):=EA λ_ _ _ _ _ _ _ q=>add_int q
theorem nJ:OpR X (binaryOp .Sub) (rI0 λi j=>.int (i-j)):=EA λ_ _ _ _ _ _ _ q=>sub_int q
theorem kK:OpR X (binaryOp .Mult) (rI Ca λi j=>.int (i*j)):=opI λ_ _ _ _ _ _ _ hc q=>mul_int q hc.ok
theorem iK:OpR X (binaryOp .Mod) (rI (λ_ j=>0<j) λi j=>.int (i%j)):=opI λi j _ _ _ _ _ hc q=>by
 have h1:(0:Int)<j:=hc
 exact mod_int' () (by rw[Int.fmod_eq_emod_of_nonneg i ()];exact q)
theorem Cp:OpR X (binaryOp .Pow) (rI DO λi j=>.int (i^j.toNat)):=opI λ_ _ _ _ _ _ _ hc q=>pow_int_small hc.1 hc.2.1 hc.2.2 q
theorem unI{f:ε->Sem ε}{g:Int->Int}
  (rule:∀(i:Int)(t:Tok)(s:η)(Q:ε->η->Prop)(E:ε->η->Prop),Q (.int (g i) s.toks) {s with toks:=s.toks+1}->wpAny (model X.prog X.w) X.A (f (.int i t)) Q E s):
  UnR X f (rU λi=>.int (g i)):=by
 intro pins s σ H x v Q I rx h
 obtain⟨i,rfl,q⟩:=h
 obtain⟨t,rfl⟩:=rx
 exact rule i t s _ _ ⟨.int (g i),H,I.tok _,⟨_,rfl⟩,q⟩
theorem ye:UnR X (unaryOp .USub) (rU λi=>.int (-i)):=unI λ_ _ _ _ _ q=>neg_int q
end
def Ef:V->V->Bool
 |.non,.non=>true|.non,.int _=>true|.int _,.non=>true|.non,.bl _=>true|.bl _,.non=>true|.non,.str _=>true|.str _,.non=>true
 |.int _,.int _=>true|.bl _,.bl _=>true|.str _,.str _=>true|.byt _,.byt _=>true
 |.int _,.str _=>true|.str _,.int _=>true|.bl _,.str _=>true|.str _,.bl _=>true
 |_,_=>false
def rEq:R2:=λx y H Q=>Ef x y=true/\Q (.bl (decide (x=y))) H
def rNe:R2:=λx y H Q=>Ef x y=true/\Q (.bl (!decide (x=y))) H
theorem ve{i j:Int}:decide (V.int i=V.int j)=(i==j):=by
 rw[w_]
 simp
theorem xO{i j:Bool}:decide (V.bl i=V.bl j)=(i==j):=by
 rw[w_]
 simp
theorem vI{i j:Str}:decide (V.str i=V.str j)=(i==j):=by
 rw[w_]
 simp
theorem vh{i j:Array UInt8}:decide (V.byt i=V.byt j)=(i.toList==j.toList):=by
 rw[w_]
 cases i
 cases j
 simp
section
variable{X:Cx}{a b c:Expr}{ta tb tc:TE}{pos:Pos}
theorem aK{pins:List (Addr×Obj)}{σ:St}{H:Hp}{s:η}{Q:VK}{k k':Bool}(I:Inv X pins σ H s)(q:Q (.bl k) H)(e:k=k'):EP X pins σ Q (.bool k') s:=by
 subst e
 exact⟨.bl k,H,I,rfl,q⟩
theorem aE:OpR X (compareOp .Eq) rEq:=by
 intro pins s σ H x y v u Q I rx ry h
 obtain⟨hs,q⟩:=h
 cases x with
 |non=>
  cases rx
  cases y with
  |non=>cases ry;exact PySem.EqNone.eq_none_none (aK I q ())
  |bl j=>cases ry;exact PySem.EqNone.eq_none_bool (aK I q ())
  |int j=>obtain⟨t',rfl⟩:=ry;exact PySem.EqNone.eq_none_int (aK I q ())
  |str j=>obtain⟨t',rfl⟩:=ry;exact PySem.EqNone.eq_none_str (aK I q ())
  |_=>exact absurd (show false=true from hs) Ζ
 |bl i=>
  cases rx
  cases y with
  |non=>cases ry;exact PySem.EqNone.eq_bool_none (aK I q ())
  |bl j=>cases ry;exact eq_bool (aK I q xO)
  |str j=>obtain⟨t',rfl⟩:=ry;exact PySem.EqMixed.eq_bool_str (aK I q ())
  |_=>exact absurd (show false=true from hs) Ζ
 |int i=>
  obtain⟨t,rfl⟩:=rx
  cases y with
  |non=>cases ry;exact PySem.EqNone.eq_int_none (aK I q ())
  |int j=>obtain⟨t',rfl⟩:=ry;exact eq_int (aK I q ve)
  |str j=>obtain⟨t',rfl⟩:=ry;exact PySem.EqMixed.eq_int_str (aK I q ())
  |_=>exact absurd (show false=true from hs) Ζ
 |str i=>
  obtain⟨t,rfl⟩:=rx
  cases y with
  |non=>cases ry;exact PySem.EqNone.eq_str_none (aK I q ())
  |bl j=>cases ry;exact PySem.EqMixed.eq_str_bool (aK I q ())
  |int j=>obtain⟨t',rfl⟩:=ry;exact PySem.EqMixed.eq_str_int (aK I q ())
  |str j=>obtain⟨t',rfl⟩:=ry;exact eq_str (aK I q vI)
  |_=>exact absurd (show false=true from hs) Ζ
 |byt i=>
  obtain⟨t,rfl⟩:=rx
  cases y with
  |byt j=>obtain⟨t',rfl⟩:=ry;exact PySem.W.eq_bytes (aK I q vh)
  |_=>exact absurd (show false=true from hs) Ζ
 |_=>cases y<;>exact absurd (show false=true from hs) Ζ
theorem mO:OpR X (compareOp .NotEq) rNe:=by
 intro pins s σ H x y v u Q I rx ry h
 obtain⟨hs,q⟩:=h
 cases x with
 |non=>
  cases rx
  cases y with
  |non=>cases ry;exact PySem.EqNone.ne_none_none (aK I q ())
  |bl j=>cases ry;exact PySem.EqNone.ne_none_bool (aK I q ())
  |int j=>obtain⟨t',rfl⟩:=ry;exact PySem.EqNone.ne_none_int (aK I q ())
  |str j=>obtain⟨t',rfl⟩:=ry;exact PySem.EqNone.ne_none_str (aK I q ())
  |_=>exact absurd (show false=true from hs) Ζ
 |bl i=>
  cases rx
  cases y with
  |non=>cases ry;exact PySem.EqNone.ne_bool_none (aK I q ())
  |bl j=>cases ry;exact ne_bool (aK I q (congrArg not xO))
  |str j=>obtain⟨t',rfl⟩:=ry;exact PySem.EqMixed.ne_bool_str (aK I q ())
  |_=>exact absurd (show false=true from hs) Ζ
 |int i=>
  obtain⟨t,rfl⟩:=rx
  cases y with
  |non=>cases ry;exact PySem.EqNone.ne_int_none (aK I q ())
  |int j=>obtain⟨t',rfl⟩:=ry;exact ne_int (aK I q (congrArg not ve))
  |str j=>obtain⟨t',rfl⟩:=ry;exact PySem.EqMixed.ne_int_str (aK I q ())
  |_=>exact absurd (show false=true from hs) Ζ
 |str i=>
  obtain⟨t,rfl⟩:=rx
  cases y with
  |non=>cases ry;exact PySem.EqNone.ne_str_none (aK I q ())
  |bl j=>cases ry;exact PySem.EqMixed.ne_str_bool (aK I q ())
  |int j=>obtain⟨t',rfl⟩:=ry;exact PySem.EqMixed.ne_str_int (aK I q ())
  |str j=>obtain⟨t',rfl⟩:=ry;exact ne_str (aK I q (congrArg not vI))
  |_=>exact absurd (show false=true from hs) Ζ
 |byt i=>
  obtain⟨t,rfl⟩:=rx
  cases y with
  |byt j=>obtain⟨t',rfl⟩:=ry;exact PySem.W.ne_bytes (aK I q (congrArg not vh))
  |_=>exact absurd (show false=true from hs) Ζ
 |_=>cases y<;>exact absurd (show false=true from hs) Ζ
theorem qw:OpR X (compareOp .Lt) (rI0 λi j=>.bl (decide (i<j))):=zj λ_ _ _ _ _ _ _ q=>lt_int q
theorem jl:OpR X (compareOp .LtE) (rI0 λi j=>.bl (decide (i<=j))):=zj λ_ _ _ _ _ _ _ q=>le_int q
theorem rP:OpR X (compareOp .Gt) (rI0 λi j=>.bl (decide (j<i))):=zj λ_ _ _ _ _ _ _ q=>gt_int q
theorem Bz:OpR X (compareOp .GtE) (rI0 λi j=>.bl (decide (j<=i))):=zj λ_ _ _ _ _ _ _ q=>ge_int q
theorem iR:OpR X (compareOp .Is) (λx y H Q=>y=.non/\Q (.bl (decide (x=.non))) H):=by
 intro pins s σ H x y v u Q I rx ry h
 obtain⟨rfl,q⟩:=h
 cases ry
 refine is_none_gen (aK I q ?_)
 cases x<;>first
  |(cases rx;rfl)
  |(obtain⟨t,rfl⟩:=rx;rfl)
theorem ak(b:Expr){op:CmpOp}(h:op≠.In:=by decide)(h2:op≠.NotIn:=by decide):behindInMarks op b=false:=by
 have e1:(op==CmpOp.In)=false:=by cases op<;>first|rfl|exact absurd rfl h
 have e2:(op==CmpOp.NotIn)=false:=by cases op<;>first|rfl|exact absurd rfl h2
 cases b<;>simp[behindInMarks,e1,e2]
theorem pe_cmpR{op:CmpOp}{r:R2}(ho:OpR X (compareOp op) r)(ha:PE X a ta)(hb:PE X b tb)(hm:behindInMarks op b=false):PE X (.Compare a [op] [b] pos) (tOp r ta tb):=by
 intro pins s σ H Q I h
 exact wpAny_Compare1 (BW ha hb I h λv u s2 x y H2 I2 rx ry q=>ho pins s2 σ H2 x y v u Q I2 rx ry q) hm
def vL(t:TE):TT:=λσ H Q=>t σ H λx H'=>∃k,x=.bl k/\Q k H'
theorem pt_cmpR{op:CmpOp}{r:R2}(ho:OpR X (compareOp op) r)(ha:PE X a ta)(hb:PE X b tb)(hm:behindInMarks op b=false):PT X (.Compare a [op] [b] pos) (vL (tOp r ta tb)):=by
 intro pins s σ H Q I h
 refine wpAny_isTrue_Compare1 (thn (ha pins s σ H _ I h) λv s1 ⟨x,H1,I1,r1,q1⟩=>thn (hb pins s1 σ H1 _ I1 q1) λu s2 ⟨y,H2,I2,r2,q2⟩=>
  thn (ho pins s2 σ H2 x y v u _ I2 r1 r2 q2) λc s3 ⟨z,H3,I3,r3,k,e,q3⟩=>?_) hm
 subst e
 cases r3
 exact d_ ⟨H3,I3,q3⟩
def xz(r r':R2)(ta tb tc:TE):TE:=λσ H Q=>ta σ H λx H1=>tb σ H1 λy H2=>r x y H2 λz H3=>∃k,z=.bl k /\
 (if k=true then tc σ H3 λw' H4=>r' y w' H4 Q else Q (.bl false) H3)
theorem pe_chain{op op':CmpOp}{r r':R2}(ho:OpR X (compareOp op) r)(ho':OpR X (compareOp op') r')(ha:PE X a ta)(hb:PE X b tb)(hc:PE X c tc)
  (hm:lastMarks [op,op'] [b,c]=false:=by with_unfolding_all rfl):PE X (.Compare a [op,op'] [b,c] pos) (xz r r' ta tb tc):=by
 intro pins s σ H Q I h
 refine Compare_chain (thn (ha pins s σ H _ I h) λv s1 ⟨x,H1,I1,r1,q1⟩=>chain_link (thn (hb pins s1 σ H1 _ I1 q1) λu s2 ⟨y,H2,I2,r2,q2⟩=>
  thn (ho pins s2 σ H2 x y v u _ I2 r1 r2 q2) λd s3 ⟨z,H3,I3,r3,k,e,q3⟩=>?_)) hm
 subst e
 cases r3
 refine d_ ?_
 cases k with
 |false=>exact ite_ff ⟨.bl false,H3,I3,rfl,q3⟩
 |true=>exact ite_tt (chain_last (thn (hc pins s3 σ H3 _ I3 q3) λw' s4 ⟨z',H4,I4,r4,q4⟩=>ho' pins s4 σ H4 y z' u w' Q I4 r2 r4 q4))
theorem pt_chain{op op':CmpOp}{r r':R2}(ho:OpR X (compareOp op) r)(ho':OpR X (compareOp op') r')(ha:PE X a ta)(hb:PE X b tb)(hc:PE X c tc)
  (hm:lastMarks [op,op'] [b,c]=false:=by with_unfolding_all rfl):PT X (.Compare a [op,op'] [b,c] pos) (vL (xz r r' ta tb tc)):=by
 intro pins s σ H Q I h
 refine isTrue_chain (thn (ha pins s σ H _ I h) λv s1 ⟨x,H1,I1,r1,q1⟩=>test_link (thn (hb pins s1 σ H1 _ I1 q1) λu s2 ⟨y,H2,I2,r2,q2⟩=>
  thn (ho pins s2 σ H2 x y v u _ I2 r1 r2 q2) λd s3 ⟨z,H3,I3,r3,k,e,q3⟩=>?_)) hm
 subst e
 cases r3
 refine d_ ?_
 cases k with
 |false=>
  obtain⟨k',e',q'⟩:=q3
  cases e'
  exact ite_ff ⟨H3,I3,q'⟩
 |true=>
  refine ite_tt (test_last (thn (hc pins s3 σ H3 _ I3 q3) λw' s4 ⟨z',H4,I4,r4,q4⟩=>thn (ho' pins s4 σ H4 y z' u w' _ I4 r2 r4 q4) λd' s5 ⟨z2,H5,I5,r5,k2,e2,q5⟩=>?_))
  subst e2
  cases r5
  exact d_ ⟨H5,I5,q5⟩
def AK(K:ζ)(x:V)(H:Hp)(k:Bool):Prop:=
 match x with
 |.non=>k=false
 |.bl b=>k=b
 |.int i=>k=(i != 0)
 |.str y=>y.length<=sizeLine/\k=((y.length:Int) != 0)
 |.byt y=>y.size<=sizeLine/\k=((y.size:Int) != 0)
 |.ref p=>(∃xs,SqL K H p xs/\k=!xs.isEmpty)\/(∃xs,SqT K H p xs/\k=!xs.isEmpty)\/∃kvs,H p=some (.dK kvs)/\k=!kvs.isEmpty
 |_=>False
theorem sU{κ:Type}{kvs:List (κ×V)}{vs:List (κ×ε)}(r:KV kvs vs):(!vs.isEmpty)=!kvs.isEmpty:=by
 cases r<;>rfl
theorem kr{xs:List V}{its:List ε}(r:aw xs its):(!its.toArray.isEmpty)=!xs.isEmpty:=by
 cases r<;>simp
theorem gC:(sizeLine:Nat)<2^63:=by rw[τ];decide
theorem BY:Fw X (λx H Q=>∃k,AK X.K x H k/\Q k H):=by
 intro pins s σ H x v Q I rx h
 obtain⟨k,e,q⟩:=h
 have hl:=gC
 have hs:sizeLine=16777216:=τ
 cases x with
 |non=>
  cases rx
  have e':k=false:=e
  subst e'
  exact truthy_none ⟨H,I,q⟩
 |bl b=>
  cases rx
  have e':k=b:=e
  subst e'
  exact d_ ⟨H,I,q⟩
 |int i=>
  obtain⟨t,rfl⟩:=rx
  have e':k=(i != 0):=e
  subst e'
  exact PySem.P.truthy_int ⟨H,I,q⟩
 |str y=>
  obtain⟨t,rfl⟩:=rx
  obtain⟨hy,e'⟩:y.length<=sizeLine/\k=((y.length:Int) != 0):=e
  subst e'
  exact PySem.P.truthy_str () ⟨H,I.tok _,q⟩
 |byt y=>
  obtain⟨t,rfl⟩:=rx
  obtain⟨hy,e'⟩:y.size<=sizeLine/\k=((y.size:Int) != 0):=e
  subst e'
  exact PySem.W.truthy_bytes () ⟨H,I.tok _,q⟩
 |ref p=>
  cases rx
  have e':(∃xs,SqL X.K H p xs/\k=!xs.isEmpty)\/(∃xs,SqT X.K H p xs/\k=!xs.isEmpty)\/∃kvs,H p=some (.dK kvs)/\k=!kvs.isEmpty:=e
  rcases e' with ⟨xs,hx,e'⟩|⟨xs,hx,e'⟩|⟨kvs,hx,e'⟩
  ·subst e'
   obtain⟨its,r,pl,hz⟩:=I.list hx
   have hlen:=r.length
   exact wpAny_truthy_list pl.isList (by simp only[Α];omega) ⟨H,I.tok _,by rw[kr r];exact q⟩
  ·subst e'
   obtain⟨its,r,pl,hz⟩:=I.tuple hx
   have hlen:=r.length
   exact truthy_tuple pl (by simp only[Α];omega) ⟨H,I.tok _,by rw[kr r];exact q⟩
  ·subst e'
   obtain⟨hz,hS,vs,r,m⟩:kvs.length<=sizeLine/\(p==sysModules)=false/\∃vs,KV kvs vs/\s.heap.DictOf (bV X.prog X.w) p vs:=I.hok p _ hx
   have hlen:kvs.length=vs.length:=Paired.length r
   exact wpAny_truthy_dict hS m () ⟨H,I.tok _,by rw[sU r];exact q⟩
 |_=>exact(show False from e).elim
theorem pt_truth(ha:PE X a ta)(he:∀whole,isTrue a X.env whole=(do let v <-whole;standAt a.pos;holding [v] (truthy v))):
  PT X a (λσ H Q=>ta σ H λx H'=>∃k,AK X.K x H' k/\Q k H'):=by
 intro pins s σ H Q I h
 exact isTrue_plain (thn (ha pins s σ H _ I h) λv s1 ⟨x,H1,I1,r1,q1⟩=>BY pins s1 σ H1 x v Q I1 r1 q1) (he _)
theorem ae:OpR X (binaryOp .Add) (λx y H Q=>∃i j,x=.str i/\y=.str j/\i.length+j.length<=sizeLine/\Q (.str (i++j)) H):=by
 intro pins s σ H x y v u Q I rx ry h
 obtain⟨i,j,rfl,rfl,hz,q⟩:=h
 obtain⟨t,rfl⟩:=rx
 obtain⟨t',rfl⟩:=ry
 exact add_str (λt' tk=>⟨.str (i++j),H,I.tok _,⟨_,rfl⟩,q⟩) hz
theorem ft{x:V}{us:List ε}(r:aw [x] us):∃u,us=[u]/\aL x u:=by
 cases r with
 |cons r1 r2=>cases r2;exact⟨_,rfl,r1⟩
theorem mV{x y:V}{us:List ε}(r:aw [x,y] us):∃u w',us=[u,w']/\aL x u/\aL y w':=by
 cases r with
 |cons r1 r2=>
  cases r2 with
  |cons r3 r4=>cases r4;exact⟨_,_,rfl,r1,r3⟩
theorem wU(hc:X.calm=true):dZ X (.builtin "max") (λxs H Q=>∃i j,xs=[.int i,.int j]/\Q (.int (if j>i then j else i)) H):=by
 intro pins s σ H xs us Q I r h
 obtain⟨i,j,rfl,q⟩:=h
 obtain⟨u,w',rfl,⟨t,rfl⟩,⟨t',rfl⟩⟩:=mV r
 refine max_two_ints (I.ok.hd hc) λh' tk k=>⟨_,H,I.kept k,?_,q⟩
 by_cases hj:j>i
 ·rw[Q5 hj,Q5 hj];exact⟨_,rfl⟩
 ·rw[Q6 hj,Q6 hj];exact⟨_,rfl⟩
theorem wy(hc:X.calm=true):dZ X (.builtin "min") (λxs H Q=>∃i j,xs=[.int i,.int j]/\Q (.int (if j<i then j else i)) H):=by
 intro pins s σ H xs us Q I r h
 obtain⟨i,j,rfl,q⟩:=h
 obtain⟨u,w',rfl,⟨t,rfl⟩,⟨t',rfl⟩⟩:=mV r
 refine min_two_ints (I.ok.hd hc) λh' tk k=>⟨_,H,I.kept k,?_,q⟩
 by_cases hj:j<i
 ·rw[Q5 hj,Q5 hj];exact⟨_,rfl⟩
 ·rw[Q6 hj,Q6 hj];exact⟨_,rfl⟩
theorem ic:dZ X (.type "str") (λxs H Q=>∃i,xs=[.int i]/\i.natAbs.log2<1920/\Q (.str (toString i)) H):=by
 intro pins s σ H xs us Q I r h
 obtain⟨i,rfl,hz,q⟩:=h
 obtain⟨u,rfl,t,rfl⟩:=ft r
 exact PySem.P.str_of_int hz ⟨.str _,H,I.tok _,⟨_,rfl⟩,q⟩
end
structure tR(h:Heap)(x dx C:Addr)(mA:Str->Option ε):Prop where
 obj:h.get? x=some (p_ C dx)
 ns:h.Ns1 dx mA
 ne:dx≠x
theorem wZ{h:Heap}{dx:Addr}{mA:Str->Option ε}(n:h.Ns1 dx mA):∃od,h.get? dx=some od/\∀name,GI name od=some (mA name):=by
 obtain⟨o,es,ep,ho,hd,hk,_,hm⟩:=n
 refine⟨o,ho,λname=>?_⟩
 have e:=hm name
 unfold nsFind findBy at e
 rw[<-Array.find?_toList]at e
 unfold GI
 rw[hd]
 dsimp only
 split
 ·rename_i y q
  rw[q]at e
  exact congrArg some e
 ·rename_i q
  rw[q]at e
  have a:es.toList.any (·.refKey)=false:=by
   rw[Hc]
   intro y hy
   obtain⟨z,t,hkey⟩:=hk y (Array.mem_toList_iff.mp hy)
   simp[Gc.refKey,hkey]
  have a':¬ es.toList.any (·.refKey)=true:=by rw[a];exact Ζ
  rw[Q6 a']
  exact congrArg some e
theorem tR.look{h:Heap}{x dx C:Addr}{mA:Str->Option ε}(I:tR h x dx C mA):∃od,PySem.W.InstAt h x (p_ C dx) C (some od)/\∀name,GI name od=some (mA name):=
 let ⟨od,ho,hl⟩:=wZ I.ns
 ⟨od,⟨I.obj,rfl,rfl,ho⟩,hl⟩
section
variable{prog:υ}{w:Κ}{A:Υ}{E:ε->η->Prop}{s:η}{K:ζ}{x dx C f:Addr}{mA:Str->Option ε}{name:Str}{v:ε}
theorem ze{expr:Bool}{Q:ε->η->Prop}(X:K.In s.heap)(I:tR s.heap x dx C mA)(hg:C1 K C name=true)(hh:E8 K C=true)
  (ha:ϋ K (.ref C) name=some none) (hv:mA name=some v) (hv':PySem.W.handedIn v=true) (h:Q v {s with toks:=s.toks+1}):
  wpAny (model prog w) A (getAttr (.ref x) name expr) Q E s:=by
 obtain⟨od,J,hl⟩:=I.look
 exact PySem.W.get_value X J (Gz hg).1 (PySem.W.findObj_own hh ha rfl (by rw[hl,hv])) hv' h
theorem xB{pl:Sem Bool}{Q:ε×List ε->η->Prop}(X:K.In s.heap)(I:tR s.heap x dx C mA)(hg:C1 K C name=true)
  (hf:ϋ K (.ref C) name=some (some (.ref f))) (ht:C2 K (.ref f)=true) (hv:mA name=none) (h:Q (.ref f,[.ref x]) s):
  wpAny (model prog w) A (getMethod (.ref x) name pl) Q E s:=by
 obtain⟨od,J,hl⟩:=I.look
 exact PySem.W.method_fn X J (Gz hg).1 (Gz hg).2 hf (beq_iff_eq.mp ht) (by show(GI name od).map (·.isSome)=some false;rw[hl,hv];rfl) h
theorem zX{ns:List Str}{Q:Unit->η->Prop}(X:K.In s.heap)(I:tR s.heap x dx C mA)
  (hs:ϋ K (.ref C) "__setattr__"=some (some (.builtin "object.__setattr__"))) (hp:Hd K C=true) (ht:HG K C name=some none) (hh:E8 K C=true)
  (hw:Hs mA ns) (hsz:ns.length<=sizeLine)
  (h:∀h',tR h' x dx C (λy=>if y=name then some v else mA y)->B_ dx s.heap h'->Q Unit.unit {s with heap:=h',toks:=s.toks+2}):
  wpAny (model prog w) A (setAttr (.ref x) name v) Q E s:=by
 obtain⟨od,J,hl⟩:=I.look
 refine PySem.W.set_plain X J hs (PySem.W.osa_open (s:={s with toks:=s.toks+1}) (r:=none) X J hp ht λb=>?_)
 obtain⟨cd,hc,hd'⟩:=PySem.W.any_some hh
 have hx:s.heap.get? x=some ⟨.ref C,some dx,.plain,#[]⟩:=I.obj
 refine δ (ρ (δ (δ (GJ hx (δ (PySem.W.Looks.here (s:={s with toks:=s.toks+1}) (PySem.W.looks_clsIn X hc) ?_))))))
 rw[hd']
 refine ρ (a:=some dx) (δ (ρ (δ ?_)))
 refine wpAny_nsSet1 (s:={s with toks:=s.toks+1}) I.ns λh' hn2 hs2=>?_
 obtain⟨oD,esD,epD,hoD,hdD,hcD⟩:=hn2.count (Hs.cons name v hw)
 refine δ (wpAny_lookBehind hoD (by rw[hdD];exact pastItsLine_dict (ϕ hcD (by rw[χ];omega))) ?_)
 exact ρ (h _ ⟨(hs2.2 _ (ϛ I.ne)).trans I.obj,hn2,I.ne⟩ hs2)
theorem xW{R:Ht->η->Prop}{vs:List ε}{kw:List (Str×ε)}(X:K.In s.heap)(hm:HH K C=true)
  (hi:ϋ K (.ref C) "__init__"=some (some (.ref f))) (hf:PySem.W.typeIn K (.ref f)=some (.type "function"))
  (h:codeAny (model prog w) (A.under (.builtin "type.__call__" ⟨.ref C::vs,kw⟩)) (.call (.ref f) ⟨.ref (s.heap.objs.size+1)::vs,kw⟩) (PySem.W.InitBack (s.heap.objs.size+1) R)
   {s with heap:=(s.heap.push i5).push (p_ C s.heap.objs.size)}):
  codeAny (model prog w) A (.call (.ref C) ⟨vs,kw⟩) R s:=by
 obtain⟨hh,g,d,t,os⟩:=s
 exact PySem.W.make_core (PySem.W.makes_of X hm) (PySem.W.looks_findIn X hi) (λself=>PySem.W.bind_fn X self hf) (.inl rfl) h
end
def eh(f:Str)(v:V):List (Str×V)->List (Str×V)
 |[]=>[(f,v)]
 |(g,x)::r=>if g=f then (g,v)::r else (g,x)::eh f v r
theorem ji(f g:Str)(v:V):∀fs:List (Str×V),(eh f v fs).lookup g=if g=f then some v else fs.lookup g
 |[]=>by
  show ϥ g [(f,v)]=_
  by_cases h:g=f
  ·have hb:(g==f)=true:=beq_iff_eq.mpr h
   simp only[ϥ,hb,Q5 h]
  ·have hb:(g==f)=false:=beq_eq_false_iff_ne.mpr h
   simp only[ϥ,hb,Q6 h]
 |(k,x)::r=>by
  have ih:=ji f g v r
  rw[show eh f v ((k,x)::r)=(if k=f then (k,v)::r else (k,x)::eh f v r)from rfl]
  by_cases hk:k=f
  ·rw[Q5 hk]
   by_cases h:g=k
   ·have hb:(g==k)=true:=beq_iff_eq.mpr h
    simp only[ϥ,hb,Q5 (h.trans hk)]
   ·have hb:(g==k)=false:=beq_eq_false_iff_ne.mpr h
    simp only[ϥ,hb,Q6 (λe:g=f=>h (e.trans hk.symm))]
  ·rw[Q6 hk]
   by_cases h:g=k
   ·have hb:(g==k)=true:=beq_iff_eq.mpr h
    simp only[ϥ,hb,Q6 (λe:g=f=>hk (h.symm.trans e))]
   ·have hb:(g==k)=false:=beq_eq_false_iff_ne.mpr h
    simp only[ϥ,hb]
    exact ih
theorem iQ(f:Str)(v:V):∀fs:List (Str×V),f∈(eh f v fs).map (·.1)/\∀g,g∈fs.map (·.1)->g∈(eh f v fs).map (·.1)
 |[]=>⟨by simp[eh],λg h=>by simp at h⟩
 |(k,x)::r=>by
  obtain⟨i1,i2⟩:=iQ f v r
  rw[show eh f v ((k,x)::r)=(if k=f then (k,v)::r else (k,x)::eh f v r)from rfl]
  by_cases hk:k=f
  ·rw[Q5 hk]
   subst hk
   exact⟨(),λg h=>by simpa using h⟩
  ·rw[Q6 hk]
   refine⟨?_,λg h=>?_⟩
   ·rw[Μ]
    exact π _ i1
   ·rw[Μ]at h⊢
    rcases ι.mp h with e|e
    ·exact ι.mpr (.inl e)
    ·exact π _ (i2 g e)
theorem jg(f:Str)(v:V):∀fs:List (Str×V),(eh f v fs).length<=fs.length+1
 |[]=>by simp[eh]
 |(k,x)::r=>by
  have ih:=jg f v r
  rw[show eh f v ((k,x)::r)=(if k=f then (k,v)::r else (k,x)::eh f v r)from rfl]
  by_cases hk:k=f
  ·rw[Q5 hk,χ,χ];omega
  ·rw[Q6 hk,χ,χ];omega
theorem mo.some_of{v:V}{o:Option ε}(r:mo (some v) o):∃u,o=some u/\aL v u:=by
 cases o with
 |none=>exact(show False from r).elim
 |some u=>exact⟨u,rfl,r⟩
theorem mo.none_of{o:Option ε}(r:mo none o):o=none:=by
 cases o with
 |none=>rfl
 |some u=>exact(show False from r).elim
theorem mH{v:V}{u:ε}(r:aL v u):PySem.W.handedIn u=true:=by
 cases v with
 |non=>cases(show u=j6 from r);rfl
 |bl b=>cases(show u=E2 b from r);rfl
 |int i=>obtain⟨t,e⟩:=(show ∃t,u=E5 i t from r);cases e;rfl
 |str x=>obtain⟨t,e⟩:=(show ∃t,u=GG x t from r);cases e;rfl
 |byt b=>obtain⟨t,e⟩:=(show ∃t,u=ε.bytes b t from r);cases e;rfl
 |flt b=>obtain⟨t,e⟩:=(show ∃t,u=ε.float b t from r);cases e;rfl
 |ref a=>cases(show u=Λ a from r);rfl
 |ty n=>cases(show u=Hr n from r);rfl
section
variable{P:υ}{w:Κ}{H H':Hp}{h h':Heap}{a C dx:Addr}{fs fs':List (Str×V)}
theorem jP(hok:HOk P w H h)(e:H a=some (.ins C dx fs)):∃mA,tR h a dx C mA/\(∀f,mo (fs.lookup f) (mA f))/\Hs mA (fs.map (·.1))/\fs.length<=1000/\H dx=some (.own a):=by
 obtain⟨d,z,ne,ob,mA,n,r,q⟩:=(show bG P w H h a (.ins C dx fs)from hok a _ e)
 exact⟨mA,⟨ob,n,ne⟩,r,q,z,d⟩
end
structure Cls(K:ζ)(C:Addr):Prop where
 pg:C1 K C Hj=true
 hd:E8 K C=true
 po:Hd K C=true
 sa:ϋ K (.ref C) "__setattr__"=some (some (.builtin "object.__setattr__"))
theorem Cls.get{K:ζ}{C:Addr}(c:Cls K C)(f:Str):C1 K C f=true:=c.pg
def cy(K:ζ)(C:Addr)(f:Str):Prop:=ϋ K (.ref C) f=some none
theorem cy.taker{K:ζ}{C:Addr}{f:Str}(n:cy K C f):HG K C f=some none:=by
 unfold HG
 rw[show ϋ K (.ref C) f=some none from n]
 rfl
structure lQ(K:ζ)(C:Addr)(m:Str)(f:Addr):Prop where
 at_:ϋ K (.ref C) m=some (some (.ref f))
 fn:C2 K (.ref f)=true
 kp:ϒ K (.ref f)=true
section
variable{X:Cx}{pins:List (Addr×Obj)}{σ:St}{H:Hp}{s:η}{a C dx:Addr}{fs:List (Str×V)}{f:Str}{v:V}{A:Υ}{E:ε->η->Prop}
theorem jU{b:Bool}{Q:ε->η->Prop}(I:Inv X pins σ H s)(e:H a=some (.ins C dx fs))(c:Cls X.K C)(n:cy X.K C f)(l:fs.lookup f=some v)
  (h:∀u s',Inv X pins σ H s'->aL v u->Q u s'):wpAny (model X.prog X.w) A (getAttr (.ref a) f b) Q E s:=by
 obtain⟨mA,O,r,_,_,_⟩:=jP I.hok e
 obtain⟨u,hu,ru⟩:=mo.some_of (v:=v) (o:=mA f) (by rw[<-l];exact r f)
 exact ze I.kIn O (c.get f) c.hd n hu (mH ru) (h u _ (I.tok _) ru)
theorem kS{m:Str}{g:Addr}{pl:Sem Bool}{Q:ε×List ε->η->Prop}(I:Inv X pins σ H s)(e:H a=some (.ins C dx fs))(c:Cls X.K C)(k:lQ X.K C m g)(l:fs.lookup m=none)
  (h:Q (.ref g,[.ref a]) s):wpAny (model X.prog X.w) A (getMethod (.ref a) m pl) Q E s:=by
 obtain⟨mA,O,r,_,_,_⟩:=jP I.hok e
 have hn:mA m=none:=mo.none_of (by rw[<-l];exact r m)
 exact xB I.kIn O (c.get m) k.at_ k.fn hn h
theorem kY{y:V}{u:ε}{Q:Unit->η->Prop}(I:Inv X pins σ H s)(e:H a=some (.ins C dx fs))(c:Cls X.K C)(n:cy X.K C f)(hl:fs.length<1000)(ry:aL y u)
  (h:∀s',Inv X pins σ (upd H a (.ins C dx (eh f y fs))) s'->Q Unit.unit s'):wpAny (model X.prog X.w) A (setAttr (.ref a) f u) Q E s:=by
 obtain⟨mA,O,r,wi,_,ho⟩:=jP I.hok e
 have hz:(fs.map (·.1)).length<=sizeLine:=by rw[ς,τ];omega
 refine zX I.kIn O c.sa c.po n.taker c.hd wi hz λh' O' sb=>h _ ?_
 have hd:∃o,h'.get? dx=some o:=let ⟨o,_,_,e',_⟩:=O'.ns;⟨o,e'⟩
 refine I.write (x:=a) (e:=dx) (by rw[e];exact B4) (.inr ho) (λb q hb z=>(sb.2 b hb).trans z) hd ?_
 refine⟨by rw[ai O.ne];exact ho,?_,O.ne,O'.obj,_,O'.ns,λg=>?_,λg hg=>?_⟩
 ·have:=jg f y fs;omega
 ·show mo ((eh f y fs).lookup g) (if g=f then some u else mA g)
  rw[ji]
  by_cases q:g=f
  ·rw[Q5 q,Q5 q];exact ry
  ·rw[Q6 q,Q6 q];exact r g
 ·by_cases q:g=f
  ·rw[q];exact(iQ f y fs).1
  ·refine(iQ f y fs).2 g (wi g λz=>hg ?_)
   show(if g=f then some u else mA g)=none
   rw[Q6 q];exact z
theorem Inv.made(I:Inv X pins σ H s):Inv X pins σ (upd (upd H s.heap.objs.size (.own (s.heap.objs.size+1))) (s.heap.objs.size+1) (.ins C s.heap.objs.size []))
  {s with heap:=(s.heap.push i5).push (p_ C s.heap.objs.size)}:=by
 have e1:(s.heap.push i5).get? s.heap.objs.size=some i5:=Β s.heap rfl
 have e2:((s.heap.push i5).push (p_ C s.heap.objs.size)).get? (s.heap.objs.size+1)=some (p_ C s.heap.objs.size):=by
  have:=Β (s.heap.push i5) (o:=p_ C s.heap.objs.size) rfl
  rwa[Ϧ]at this
 have e3:(s.heap.push i5).Ns s.heap.objs.size (λ_=>none):=⟨i5,#[],_,e1,rfl,(λe he=>absurd he ()),λ_=>rfl⟩
 have I1:=I.laid (a:=s.heap.objs.size) (o:=.own (s.heap.objs.size+1)) (h':=s.heap.push i5) (t':=s.toks) (λb u q=>μ _ q) (θ _) ⟨_,e1⟩
 refine I1.laid (a:=s.heap.objs.size+1) (o:=.ins C s.heap.objs.size []) (t':=s.toks) (λb u q=>μ _ q) (Nat.le_of_eq (Ϧ _ _)) ?_
 have ne:s.heap.objs.size≠s.heap.objs.size+1:=ϑ (Ge _)
 refine⟨by rw[ai ne,aa],ϖ _,ne,e2,λ_=>none,(Heap.Ns1.of_empty e3).at λo q=>μ _ q,λ_=>B4,λy hy=>absurd rfl hy⟩
theorem uW{prog:υ}{w:Κ}{env:Env}{e:Expr}{f:Str}{pos:Pos}{s:η}{Q:ε->η->Prop}(hb:attributeBase e f env (eval e env)=eval e env)
  (h:wpAny (model prog w) A (eval e env) (λo s₁=>wpAny (model prog w) A (getAttr o f true) Q E s₁) E s):wpAny (model prog w) A (eval (.Attribute e f pos) env) Q E s:=
 Attribute_any_ h (by rw[arm_eval_Attribute,hb])
end
def FA(K:ζ)(ta:TE)(f:Str):TE:=λσ H Q=>ta σ H λx H1=>∃a C dx fs v,x=.ref a/\H1 a=some (.ins C dx fs)/\Cls K C/\cy K C f/\fs.lookup f=some v/\Q v H1
def FQ(K:ζ)(ta tv:TE)(f:Str):TS:=λD σ H=>tv σ H λy H1=>ta σ H1 λx H2=>∃a C dx fs,x=.ref a/\H2 a=some (.ins C dx fs)/\Cls K C/\cy K C f/\fs.length<1000 /\
 D.nx σ (upd H2 a (.ins C dx (eh f y fs)))
def Et(X:Cx)(op:HX)(rd:V->V->Hp->VK->Prop):Prop:=
 ∀(pins:List (Addr×Obj))(s:η)(σ:St)(H:Hp)(x y:V)(u v:ε)(Q:VK),Inv X pins σ H s->aL x u->aL y v->rd x y H Q->wpAny (model X.prog X.w) X.A (inplaceOp op u v) (EP X pins σ Q) X.xe s
def AN(K:ζ)(ta tv:TE)(rd:V->V->Hp->VK->Prop)(f:Str):TS:=λD σ H=>ta σ H λx H1=>∃a C dx fs v,x=.ref a/\H1 a=some (.ins C dx fs)/\Cls K C/\cy K C f/\fs.lookup f=some v /\
 tv σ H1 λy H2=>rd v y H2 λz H3=>∃dx' fs',H3 a=some (.ins C dx' fs')/\fs'.length<1000/\D.nx σ (upd H3 a (.ins C dx' (eh f z fs')))
section
variable{X:Cx}{o e value:Expr}{f:Str}{pos pos' tpos:Pos}{ta tv:TE}
theorem pe_fld(he:PE X e ta)(hb:attributeBase e f X.env (eval e X.env)=eval e X.env):PE X (.Attribute e f pos) (FA X.K ta f):=by
 intro pins s σ H Q I h
 refine uW hb (thn (he pins s σ H _ I h) λu s1 ⟨x,H1,I1,rx,a,C,dx,fs,v,ex,ea,c,n,l,q⟩=>?_)
 subst ex
 obtain rfl:u=Λ a:=rx
 exact jU I1 ea c n l λu' s2 I2 ru=>⟨v,H1,I2,ru,q⟩
theorem ps_fld(ha:PE X o ta)(hv:PE X value tv)(hs:swapsWith value (some (.Attribute o f pos')) pos.line X.env=pure false):PS X (.Assign [.Attribute o f pos'] value pos) (FQ X.K ta tv f):=by
 intro pins s σ H D I h
 refine F5 (thn (hv pins s σ H _ I h) λu s1 ⟨y,H1,I1,ry,q⟩=>thn (ha pins s1 σ H1 _ I1 q) λov s2 ⟨x,H2,I2,rx,a,C,dx,fs,ex,ea,c,n,l,q2⟩=>?_) hs
 subst ex
 obtain rfl:ov=Λ a:=rx
 exact kY I2 ea c n l ry λs3 I3=>⟨σ,_,I3,q2⟩
theorem ps_fldaug{op:HX}{rd:V->V->Hp->VK->Prop}(ha:PE X o ta)(hv:PE X value tv)(hop:Et X op rd):PS X (.AugAssign (.Attribute o f tpos) op value pos) (AN X.K ta tv rd f):=by
 intro pins s σ H D I h
 refine wpAny_AugAssign_AttributeAny (thn (ha pins s σ H _ I h) λov s1 ⟨x,H1,I1,rx,a,C,dx,fs,v,ex,ea,c,n,l,q⟩=>?_)
 subst ex
 obtain rfl:ov=Λ a:=rx
 refine jU I1 ea c n l λu s2 I2 ru=>thn (hv pins s2 σ H1 _ I2 q) λw3 s3 ⟨y,H2,I3,ry,q3⟩=>thn (hop pins s3 σ H2 v y u w3 _ I3 ru ry q3) λw4 s4 ⟨z,H3,I4,rz,dx',fs',ea',l',q4⟩=>?_
 exact kY I4 ea' c n l' rz λs5 I5=>⟨σ,_,I5,q4⟩
def FL:V->V->Hp->VK->Prop:=λx y H Q=>∃i j,x=.int i/\y=.int j/\Q (.int (i+j)) H
theorem yv:Et X .Add FL:=by
 rintro pins s σ H x y u v Q I rx ry ⟨i,j,rfl,rfl,q⟩
 obtain⟨t,rfl⟩:=(show ∃t,u=E5 i t from rx)
 obtain⟨t',rfl⟩:=(show ∃t',v=E5 j t' from ry)
 exact PyProof.Rows.iadd_int ⟨.int (i+j),H,I.tok _,⟨_,rfl⟩,q⟩
end
section
variable{X:Cx}{pins:List (Addr×Obj)}{σ:St}{H:Hp}{s:η}{A:Υ}{E:ε->η->Prop}{Q:ε->η->Prop}{c:ε}{b:Bool}
inductive gc (K:ζ) (H:Hp):V->ε->Prop where
 |non:gc K H .non (.type "NoneType")
 |bl (x:Bool):gc K H (.bl x) (.type "bool")
 |int (i:Int):gc K H (.int i) (.type "int")
 |str (x:Str):gc K H (.str x) (.type "str")
 |flt (x:UInt64):gc K H (.flt x) (.type "float")
 |lst {a:Addr} {xs:List V} (e:H a=some (.lst xs)):gc K H (.ref a) (.type "list")
 |frz {a:Addr} {o:Obj} {xs:List V} (e:H a=some (.frz o (.lst xs))):gc K H (.ref a) (.type "list")
 |tup {a:Addr} {xs:List V} (e:H a=some (.tup xs)):gc K H (.ref a) (.type "tuple")
 |dK {a:Addr} {kvs:List (Key×V)} (e:H a=some (.dK kvs)):gc K H (.ref a) (.type "dict")
 |dT {a:Addr} {kvs:List (List Key×V)} (e:H a=some (.dT kvs)):gc K H (.ref a) (.type "dict")
 |ins {a C dx:Addr} {fs:List (Str×V)} (e:H a=some (.ins C dx fs)) (cl:Cls K C) (ha:ϋ K (.ref C) "__class__"=some (some (.builtin "object.__class__")))
   (hn:PySem.W.specialIn K (.builtin "object.__class__") "__get__"=some (some (.builtin "getset_descriptor.__get__"))) (htk:PySem.W.takesIn K (.builtin "object.__class__")=some true)
   (hm:PySem.W.mroIn K C (.type "object")=some true):gc K H (.ref a) (.ref C)
theorem wM{x:V}{u t:ε}(I:Inv X pins σ H s)(rx:aL x u)(ty:gc X.K H x t)(e:l_ X.K t c=some b)(h:∀tk,Q (.bool b) {s with toks:=tk}):
  wpAny (model X.prog X.w) A (call (.builtin "isinstance") [u,c]) Q E s:=by
 cases ty with
 |non=>cases(show u=j6 from rx);exact h_ PySem.W.kitx_none I.kIn B4 e (λz=>nomatch z) h
 |bl y=>cases(show u=E2 y from rx);exact h_ PySem.W.kitx_bool I.kIn B4 e (λz=>nomatch z) h
 |int i=>obtain⟨t,q⟩:=(show ∃t,u=E5 i t from rx);cases q;exact h_ PySem.W.kitx_int I.kIn B4 e (λz=>nomatch z) h
 |str y=>obtain⟨t,q⟩:=(show ∃t,u=GG y t from rx);cases q;exact h_ PySem.W.kitx_str I.kIn B4 e (λz=>nomatch z) h
 |flt y=>obtain⟨t,q⟩:=(show ∃t,u=ε.float y t from rx);cases q;exact h_ PySem.W.kitx_float I.kIn B4 e (λz=>nomatch z) h
 | @lst a xs ea=>
  cases(show u=Λ a from rx)
  obtain⟨_,_,n,_,h1⟩:=(show bG X.prog X.w H s.heap a (.lst xs)from I.hok a _ ea)
  exact h_ PySem.W.kitx_list I.kIn ⟨_,h1,rfl⟩ e (λz=>nomatch z) h
 | @frz a ob xs ea=>
  cases(show u=Λ a from rx)
  obtain⟨_,_,_,n,_,h1⟩:=(show bG X.prog X.w H s.heap a (.frz ob (.lst xs))from I.hok a _ ea)
  exact h_ PySem.W.kitx_list I.kIn ⟨_,h1,rfl⟩ e (λz=>nomatch z) h
 | @tup a xs ea=>
  cases(show u=Λ a from rx)
  obtain⟨_,_,_,p⟩:=(show bG X.prog X.w H s.heap a (.tup xs)from I.hok a _ ea)
  obtain⟨⟨o,h1,h2,_⟩,_⟩:=p
  exact h_ PySem.W.kitx_tuple I.kIn ⟨o,h1,h2⟩ e (λz=>nomatch z) h
 | @dK a kvs ea=>
  cases(show u=Λ a from rx)
  obtain⟨_,_,vs,_,p⟩:=(show bG X.prog X.w H s.heap a (.dK kvs)from I.hok a _ ea)
  obtain⟨o,es,ep,h1,h2,_⟩:=p
  exact h_ PySem.W.kitx_dict I.kIn ⟨o,h1,h2.1⟩ e (λz=>nomatch z) h
 | @dT a kvs ea=>
  cases(show u=Λ a from rx)
  obtain⟨_,_,xs,_,o,es,ep,h1,h2,_⟩:=(show bG X.prog X.w H s.heap a (.dT kvs)from I.hok a _ ea)
  exact h_ PySem.W.kitx_dict I.kIn ⟨o,h1,h2.1⟩ e (λz=>nomatch z) h
 | @ins a C dx fs ea cl ha hn htk hm=>
  cases(show u=Λ a from rx)
  obtain⟨mA,O,_⟩:=jP I.hok ea
  obtain⟨od,J,_⟩:=O.look
  exact h_ (PySem.W.kitx_own (cl.get _) cl.hd ha hn htk hm) I.kIn J e (λz=>nomatch z) h
end
structure bT(k:Nat)(A:Υ):Prop where
 hd:A.handled=none
 dp:A.depth+3*k+5<recursionLimit
 un:A.units+16*k+200<cLine
theorem bT.mono{j k:Nat}{A:Υ}(r:bT k A)(h:j<=k):bT j A:=⟨r.hd,by have:=r.dp;omega,by have:=r.un;omega⟩
theorem bT.deeper{k:Nat}{A:Υ}(r:bT (k+1) A)(env:Env):bT k (A.deeper env):=
 ⟨r.hd,by have:=r.dp;show A.depth+1+3*k+5<_;omega,by have:=r.un;show A.units+3+16*k+200<_;omega⟩
theorem uk{A:Υ}{C:Addr}{us:List ε}{kw:List (Str×ε)}:(A.under (.builtin "type.__call__" ⟨.ref C::us,kw⟩)).depth=A.depth+1:=by
 first|rfl|simp[Υ.under,Code.weight,Code.isCreation,Code.isGuard,Code.isCaller,Code.frames,Code.isFrame,guardIds]
theorem uC{A:Υ}{C:Addr}{us:List ε}{kw:List (Str×ε)}:(A.under (.builtin "type.__call__" ⟨.ref C::us,kw⟩)).units=A.units+1:=by
 first|rfl|simp[Υ.under,Code.cUnits,Code.frames,Code.isFrame]
theorem bT.make{k:Nat}{A:Υ}(r:bT (k+1) A)(C:Addr)(us:List ε)(kw:List (Str×ε)):bT k (A.under (.builtin "type.__call__" ⟨.ref C::us,kw⟩)):=
 ⟨r.hd,by have:=r.dp;rw[uk];omega,by have:=r.un;rw[uC];omega⟩
theorem bT.depth{k:Nat}{A:Υ}(r:bT k A):A.depth<recursionLimit:=by have:=r.dp;omega
def kj:TA:=λ_ H Q=>Q [] H
def gi(ta:TE)(tr:TA):TA:=λσ H Q=>ta σ H λx H1=>tr σ H1 λxs H2=>Q (x::xs) H2
section
variable{X:Cx}{e:Expr}{es:List Expr}{te:TE}{t:TA}{pos:Pos}
theorem pa_nil:PA X [] kj:=λ_ _ _ _ H Q I h=>Calls.spliced_nil ⟨[],H,I,.nil,h⟩
theorem pa_cons(ha:PE X e te)(hr:PA X es t)(hs:starEach (e::es) X.env=(false,eval e X.env)::starEach es X.env:=by rfl):PA X (e::es) (gi te t):=by
 intro pos pins s σ H Q I h
 rw[hs]
 show wpAny _ _ (spliced ((false,eval e X.env)::backTo pos (starEach es X.env))) _ _ s
 refine Calls.spliced_cons (thn (ha pins s σ H _ I h) λu s1 ⟨x,H1,I1,r1,q1⟩=>?_)
 exact thn (hr pos pins s1 σ H1 _ I1 q1) λus s2 ⟨xs,H2,I2,r2,q2⟩=>⟨x::xs,H2,I2,.cons r1 r2,q2⟩
def Fe(t:TA):TE:=λσ H Q=>t σ H λxs H1=>xs.length<=sizeLine/\∀p,H1 p=none->Q (.ref p) (upd H1 p (.tup xs))
def FH(t:TA):TE:=λσ H Q=>t σ H λxs H1=>xs.length<=sizeLine/\∀p,H1 p=none->Q (.ref p) (upd H1 p (.lst xs))
theorem pe_tup{x1}(h:PA X es t):PE X (.Tuple es x1 pos) (Fe t):=by
 intro pins s σ H Q I hq
 refine wpAny_Tuple_spliced (thn (h pos pins s σ H _ I hq) λus s1 ⟨xs,H1,I1,r,z,q⟩=>⟨by rw[<-r.length];exact z,?_⟩)
 have hf:H1 s1.heap.objs.size=none:=I1.hok.fresh (θ _)
 refine⟨.ref s1.heap.objs.size,upd H1 s1.heap.objs.size (.tup xs),I1.laid (t':=s1.toks) (λb u e=>μ _ e) (θ _) ?_,rfl,q _ hf⟩
 exact⟨z,us,r,⟨_,Β _ rfl,rfl,_,rfl⟩,NoD.new _ rfl⟩
theorem pe_lst(h:PA X es t):PE X (.List es pos) (FH t):=by
 intro pins s σ H Q I hq
 refine wpAny_List_spliced (thn (h pos pins s σ H _ I hq) λus s1 ⟨xs,H1,I1,r,z,q⟩=>⟨by rw[<-r.length];exact z,?_⟩)
 have hf:H1 s1.heap.objs.size=none:=I1.hok.fresh (θ _)
 refine⟨.ref s1.heap.objs.size,upd H1 s1.heap.objs.size (.lst xs),I1.laid (t':=s1.toks) (λb u e=>μ _ e) (θ _) ?_,rfl,q _ hf⟩
 exact⟨z,us,0,r,Β _ rfl⟩
end
abbrev Sp:=List V->Hp->VK->XK->Prop
abbrev CXT:=List Env->Hp->η->XK->ε->η->Prop
structure nE(P:υ)(w:Κ)(K:ζ)(mg:Str->Option ε)(base:Heap)(A:Υ)(outer:List Env)(s:η)(H:Hp):Prop where
 frames:A.frames=some outer
 mod:Mod K mg base
 bs:∀b o,base.get? b=some o->s.heap.get? b=some o/\H b=none
 bsz:base.objs.size<=s.heap.objs.size
 funs:s.heap.FunFrames base outer
 frf:∀b∈frs outer,H b=none
 hok:HOk P w H s.heap
 bare:GC s.gens
def CE(outer:List Env)(P:υ)(w:Κ)(H:Hp)(s:η)(Q:VK)(u:ε)(s':η):Prop:=
 ∃v H',s'.os=s.os/\GC s'.gens/\Un (frs outer) [] H H' s.heap s'.heap/\HOk P w H' s'.heap/\aL v u/\Q v H'
def CR(CX:CXT)(outer:List Env)(P:υ)(w:Κ)(H:Hp)(s:η)(Q:VK)(E:XK)(r:Ht)(s':η):Prop:=
 match r with
 |.ok (.ret u)=>CE outer P w H s Q u s'
 |.ok _=>False
 |.error e=>CX outer H s E e s'
structure ap(P:υ)(w:Κ)(K:ζ)(mg:Str->Option ε)(base:Heap)(CX:CXT)(k:Nat)(f:Addr)(fd:Γ)(ps:List Str)(sp:Sp):Prop where
 len:∀vs H Q E,sp vs H Q E->vs.length=ps.length
 run:∀(A:Υ)(outer:List Env)(s:η)(H:Hp)(args:Args)(us:List ε)(vs:List V)(Q:VK)(E:XK),bT k A->nE P w K mg base A outer s H->Hu s fd args (ps.zip us)->aw vs us->sp vs H Q E ->
  codeAny (model P w) A (.call (.ref f) args) (CR CX outer P w H s Q E) s
theorem ap.mono{P:υ}{w:Κ}{K:ζ}{mg:Str->Option ε}{base:Heap}{CX:CXT}{j k:Nat}{f:Addr}{fd:Γ}{ps:List Str}{sp:Sp}(F:ap P w K mg base CX j f fd ps sp)(h:j<=k):
  ap P w K mg base CX k f fd ps sp:=⟨F.len,λA outer s H args us vs Q E hr=>F.run A outer s H args us vs Q E (hr.mono h)⟩
theorem ap.imp{P:υ}{w:Κ}{K:ζ}{mg:Str->Option ε}{base:Heap}{CX:CXT}{k:Nat}{f:Addr}{fd:Γ}{ps:List Str}{sp sp':Sp}(F:ap P w K mg base CX k f fd ps sp)
  (h:∀vs H Q E,sp' vs H Q E->sp vs H Q E):ap P w K mg base CX k f fd ps sp':=
 ⟨λvs H Q E q=>F.len vs H Q E (h _ _ _ _ q),λA outer s H args us vs Q E hr he hb hv hs=>F.run A outer s H args us vs Q E hr he hb hv (h _ _ _ _ hs)⟩
theorem nE.make{P:υ}{w:Κ}{K:ζ}{mg:Str->Option ε}{base:Heap}{A:Υ}{outer:List Env}{s:η}{H:Hp}(e:nE P w K mg base A outer s H)(C:Addr)(us:List ε)(kw:List (Str×ε)):
  nE P w K mg base (A.under (.builtin "type.__call__" ⟨.ref C::us,kw⟩)) outer s H:=⟨by first|exact e.frames|(simpa[Υ.under,Code.envs,Code.isFrame,pushEnvs]using e.frames),e.mod,e.bs,e.bsz,e.funs,e.frf,e.hok,e.bare⟩
section
variable{X:Cx}{pins:List (Addr×Obj)}{σ:St}{H:Hp}{s s':η}
theorem Inv.env0(I:Inv X pins σ H s):nE X.prog X.w X.K X.mg X.base X.A X.stack s H:=
 ⟨I.ok.frames,I.ok.mod,I.bs,ϕ I.ok.bsz I.sz,I.stack,I.stkFree,I.hok,I.bare⟩
theorem Inv.after{Q:VK}{u:ε}(I:Inv X pins σ H s)(h:CE X.stack X.prog X.w H s Q u s'):EP X pins σ Q u s':=by
 obtain⟨v,H',os,bare,un,hok,r,q⟩:=h
 obtain⟨hh,g,d,t,os'⟩:=s'
 obtain rfl:os'=s.os:=os
 exact⟨v,H',I.call (h':=hh) (g':=g) (d':=d) (t':=t) (ch:=[]) un hok bare (λb z=>absurd z ()),r,q⟩
end
def mr(sp:Sp)(dvs:List V)(E:XK)(t:TA):TE:=λσ H Q=>t σ H λvs H1=>sp (vs++dvs) H1 Q E
def Bu(C:Addr)(m:Str)(sp:Sp)(dvs:List V)(E:XK)(ta:TE)(t:TA):TE:=λσ H Q=>ta σ H λx H1=>∃a dx fs,x=.ref a/\H1 a=some (.ins C dx fs)/\fs.lookup m=none /\
 t σ H1 λvs H2=>sp (x::(vs++dvs)) H2 Q E
def Fa(C:Addr)(sp:Sp)(dvs:List V)(E:XK)(t:TA):TE:=λσ H Q=>t σ H λvs H1=>∀x dx,H1 x=none->H1 dx=none->dx≠x ->
 sp (.ref x::(vs++dvs)) (upd (upd H1 dx (.own x)) x (.ins C dx [])) (λv H2=>v=.non/\Q (.ref x) H2) E
def aU(K:ζ)(fd:Γ)(ps:List Str)(ds:List ε):Prop:=
 ∀(s:η)(us:List ε),K.In s.heap->(us++ds).length=ps.length->Hu s fd ⟨us,[]⟩ (ps.zip (us++ds))
theorem aU.all{K:ζ}{fd:Γ}{ps:List Str}(h:∀us:List ε,us.length=ps.length->bindArgs fd ⟨us,[]⟩=pure (ps.zip us)):aU K fd ps []:=λs us _ hl=>by
 rw[Θ]at hl⊢
 exact .of_eq (h us hl)
def fb(CX:CXT)(X:Cx)(E:XK):Prop:=∀(pins:List (Addr×Obj))(σ:St)(H:Hp)(s:η)(e:ε)(s':η),Inv X pins σ H s->CX X.stack H s E e s'->X.xe e s'
section
variable{X:Cx}{CX:CXT}{k:Nat}{f C:Addr}{fd:Γ}{ps:List Str}{sp:Sp}{dvs:List V}{ds:List ε}{E:XK}{x m:Str}{p pos apos:Pos}{e o:Expr}{es:List Expr}{ta:TE}{t:TA}
theorem oH{pins:List (Addr×Obj)}{σ:St}{H:Hp}{s:η}{Q:VK}{us:List ε}{vs:List V}(F:ap X.prog X.w X.K X.mg X.base CX k f fd ps sp)(hr:bT k X.A)(hb:aU X.K fd ps ds)(hd:aw dvs ds)(hx:fb CX X E)
  (I:Inv X pins σ H s) (r:aw vs us) (h:sp (vs++dvs) H Q E):wpAny (model X.prog X.w) X.A (call (.ref f) us) (EP X pins σ Q) X.xe s:=by
 have r2:aw (vs++dvs) (us++ds):=r.append hd
 have hl:(us++ds).length=ps.length:=by rw[<-r2.length];exact F.len _ _ _ _ h
 refine Gf (A6 (F.run X.A X.stack s H ⟨us,[]⟩ (us++ds) (vs++dvs) Q E hr I.env0 (hb s us I.kIn hl) r2 h) λr s' hq=>?_)
 cases r with
 |error e=>exact hx pins σ H s e s' I hq
 |ok fl=>
  cases fl with
  |ret u=>exact I.after hq
  |next=>exact ϟ hq
  |brk=>exact ϟ hq
  |cont=>exact ϟ hq
theorem vb(F:ap X.prog X.w X.K X.mg X.base CX k f fd ps sp)(hr:bT k X.A)(hg:Gl X x)(hm:X.mg x=some (.ref f))(hk:ϒ X.K (.ref f)=true)(hb:aU X.K fd ps ds)(hd:aw dvs ds)(hx:fb CX X E)
  (ha:PA X (e::es) t) (hdb:(x==("__debug__" : Str))=false:=by decide) (he:starEach (e::es) X.env=(false,eval e X.env)::starEach es X.env:=by rfl) (hpl:(backTo pos (starEach es X.env)).any (·.1)=false:=by rfl):
  PE X (.Call (.Name x p) (e::es) [] pos) (mr sp dvs E t):=by
 intro pins s σ H Q I h
 refine j7 (eB I hg hm ?_ hdb)
 refine m_ (h₀:=X.base) I.ok.mod.kin hk (thn (ha pos pins s σ H _ I h) λus s1 ⟨vs,H1,I1,r,q⟩=>⟨I1.kIn,?_⟩) he hpl
 exact oH F hr hb hd hx I1 r q
theorem pe_meth{pl:Sem Bool}(he:PE X o ta)(c:Cls X.K C)(hm:lQ X.K C m f)(F:ap X.prog X.w X.K X.mg X.base CX k f fd ps sp)(hr:bT k X.A)(hb:aU X.K fd ps ds)(hd:aw dvs ds)(hx:fb CX X E)(ha:PA X (e::es) t)
  (hst:starEach (e::es) X.env=(false,eval e X.env)::starEach es X.env:=by rfl) (hpl:(backTo pos (starEach es X.env)).any (·.1)=false:=by rfl)
  (ht:eval (.Call (.Attribute o m apos) (e::es) [] pos) X.env=(do
   let ov <-eval o X.env
   standAt apos.atName
   let (f,first) <-holding [ov] (getMethod ov m pl)
   callWith pos f first (backTo pos (starEach (e::es) X.env)) (backToKw pos (keywordEach [] X.env))):=by rfl):
  PE X (.Call (.Attribute o m apos) (e::es) [] pos) (Bu C m sp dvs E ta t):=by
 intro pins s σ H Q I h
 refine F6 (pl:=pl) (thn (he pins s σ H _ I h) λu s1 ⟨x,H1,I1,rx,a,dx,fs,ex,ea,l,q⟩=>?_) ht
 subst ex
 obtain rfl:u=Λ a:=rx
 refine kS I1 ea c hm l ?_
 refine m_ (first:=[.ref a]) (h₀:=X.base) I.ok.mod.kin hm.kp (thn (ha pos pins s1 σ H1 _ I1 q) λus s2 ⟨vs,H2,I2,r,q2⟩=>⟨I2.kIn,?_⟩) hst hpl
 exact oH (us:=.ref a::us) (vs:=.ref a::vs) F hr hb hd hx I2 (.cons rfl r) q2
theorem pe_meth0{pl:Sem Bool}(he:PE X o ta)(c:Cls X.K C)(hm:lQ X.K C m f)(F:ap X.prog X.w X.K X.mg X.base CX k f fd ps sp)(hr:bT k X.A)(hb:aU X.K fd ps ds)(hd:aw dvs ds)(hx:fb CX X E)
  (ht:eval (.Call (.Attribute o m apos) [] [] pos) X.env=(do
   let ov <-eval o X.env
   standAt apos.atName
   let (f,first) <-holding [ov] (getMethod ov m pl)
   callWith pos f first (backTo pos (starEach [] X.env)) (backToKw pos (keywordEach [] X.env))):=by rfl):
  PE X (.Call (.Attribute o m apos) [] [] pos) (Bu C m sp dvs E ta kj):=by
 intro pins s σ H Q I h
 refine F6 (pl:=pl) (thn (he pins s σ H _ I h) λu s1 ⟨x,H1,I1,rx,a,dx,fs,ex,ea,l,q⟩=>?_) ht
 subst ex
 obtain rfl:u=Λ a:=rx
 refine kS I1 ea c hm l ?_
 exact PySem.W.callWith_K0 (first:=[.ref a]) I1.kIn hm.kp (oH (us:=[.ref a]) (vs:=[.ref a]) F hr hb hd hx I1 (.cons rfl .nil) q)
structure Mk(K:ζ)(C f:Addr):Prop where
 makes:HH K C=true
 init:ϋ K (.ref C) "__init__"=some (some (.ref f))
 fn:C2 K (.ref f)=true
 kp:ϒ K (.ref C)=true
theorem yh{pins:List (Addr×Obj)}{σ:St}{H:Hp}{s:η}{Q:VK}{us:List ε}{vs:List V}(M:Mk X.K C f)(F:ap X.prog X.w X.K X.mg X.base CX k f fd ps sp)(hr:bT (k+1) X.A)(hb:aU X.K fd ps ds)(hd:aw dvs ds)
  (hx:fb CX X E) (I:Inv X pins σ H s) (r:aw vs us)
  (h:∀x dx,H x=none->H dx=none->dx≠x->sp (.ref x::(vs++dvs)) (upd (upd H dx (.own x)) x (.ins C dx [])) (λv H2=>v=.non/\Q (.ref x) H2) E):
  wpAny (model X.prog X.w) X.A (call (.ref C) us) (EP X pins σ Q) X.xe s:=by
 have hq:=h (s.heap.objs.size+1) s.heap.objs.size (I.hok.fresh (B5 _)) (I.hok.fresh (θ _)) (ϑ (Ge _))
 have I2:=Inv.made (C:=C) I
 have r2:aw (V.ref (s.heap.objs.size+1)::(vs++dvs)) (Λ (s.heap.objs.size+1)::(us++ds)):=.cons rfl (r.append hd)
 have hl:(Λ (s.heap.objs.size+1)::us++ds).length=ps.length:=by
  have e:=r2.length
  rw[F.len _ _ _ _ hq]at e
  exact e.symm
 refine Gf (xW (f:=f) I.kIn M.makes M.init (beq_iff_eq.mp M.fn) (A6 (F.run _ X.stack _ _ ⟨Λ (s.heap.objs.size+1)::us,[]⟩ (Λ (s.heap.objs.size+1)::(us++ds)) _ _ E (hr.make C us [])
  (I2.env0.make C us []) (hb _ (Λ (s.heap.objs.size+1)::us) I2.kIn hl) r2 hq) λr s' hq'=>?_))
 cases r with
 |error e=>exact hx pins σ _ _ e s' I2 hq'
 |ok fl=>
  cases fl with
  |ret u=>
   obtain⟨v,H',I3,rv,ev,q3⟩:=I2.after hq'
   subst ev
   exact⟨rv,⟨V.ref (s.heap.objs.size+1),H',I3,rfl,q3⟩⟩
  |next=>exact ϟ hq'
  |brk=>exact ϟ hq'
  |cont=>exact ϟ hq'
theorem pe_make(M:Mk X.K C f)(F:ap X.prog X.w X.K X.mg X.base CX k f fd ps sp)(hr:bT (k+1) X.A)(hg:Gl X x)(hm:X.mg x=some (.ref C))(hb:aU X.K fd ps ds)(hd:aw dvs ds)(hx:fb CX X E)
  (ha:PA X (e::es) t) (hdb:(x==("__debug__" : Str))=false:=by decide) (he:starEach (e::es) X.env=(false,eval e X.env)::starEach es X.env:=by rfl) (hpl:(backTo pos (starEach es X.env)).any (·.1)=false:=by rfl):
  PE X (.Call (.Name x p) (e::es) [] pos) (Fa C sp dvs E t):=by
 intro pins s σ H Q I h
 refine j7 (eB I hg hm ?_ hdb)
 refine m_ (h₀:=X.base) I.ok.mod.kin M.kp (thn (ha pos pins s σ H _ I h) λus s1 ⟨vs,H1,I1,r,q⟩=>⟨I1.kIn,?_⟩) he hpl
 exact yh M F hr hb hd hx I1 r q
end
section
variable{X:Cx}{CX:CXT}{k:Nat}{f C:Addr}{fd:Γ}{ps ks:List Str}{sp:Sp}{E:XK}{x m:Str}{p pos apos kpos:Pos}{e o:Expr}{es:List Expr}{kws:List Keyword}{te ta:TE}{t tk:TA}{nm:Option Str}
variable{g:List ε->List ε->List ε}{gV:List V->List V->List V}
end
structure am(N P:List Str)(sc:C3):Prop where
 kind:sc.kind=.function
 co:sc.isCoroutine=false
 gen:sc.isGenerator=false
 nd:N.Nodup
 pre:N.take P.length=P
 par:∀x∈P,sc.names.lookup x=some .local\/sc.names.lookup x=some .cell
 nofree:∀y∈sc.names,y.2≠.free
theorem nk{kindOf:Str->Option B6}{x:Str}:∀{binds:List (Str×ε)}{m:Str->Option ε},(∀v,(x,v)∉binds)->bindL kindOf binds m x=m x
 |[],_,_=>rfl
 |(n,v)::r,m,h=>by
  unfold bindL
  rw[nk λw hw=>h w (π _ hw)]
  split
  ·have:x≠n:=by rintro rfl;exact h v ν
   simp[this]
  ·rfl
theorem mJ{kindOf:Str->Option B6}{x:Str}:∀{binds:List (Str×ε)}{m:Str->Option ε},(∀v,(x,v)∉binds)->bindC kindOf binds m x=m x
 |[],_,_=>rfl
 |(n,v)::r,m,h=>by
  unfold bindC
  rw[mJ λw hw=>h w (π _ hw)]
  split
  ·rfl
  ·have:x≠n:=by rintro rfl;exact h v ν
   simp[this]
theorem mW{kindOf:Str->Option B6}{x:Str}{v:ε}:∀{P:List Str}{vs:List ε}{i:Nat}{m:Str->Option ε},P.Nodup->P[i]?=some x->vs[i]?=some v->kindOf x=some .local ->
  bindL kindOf (P.zip vs) m x=some v
 |[],_,_,_,_,h,_,_=>by simp at h
 |_::_,[],_,_,_,_,h,_=>by simp at h
 |p::P,w::vs,0,m,nd,h1,h2,hk=>by
  simp at h1 h2;subst h1;subst h2
  show bindL kindOf ((p,w)::P.zip vs) m p=_
  unfold bindL
  rw[nk λv hv=>(r6.mp nd).1 (Gr hv).1,Q5 hk]
  simp
 |p::P,w::vs,i+1,m,nd,h1,h2,hk=>by
  show bindL kindOf ((p,w)::P.zip vs) m x=_
  unfold bindL
  exact mW (i:=i) (r6.mp nd).2 (by simpa using h1) (by simpa using h2) hk
theorem mU{kindOf:Str->Option B6}{x:Str}{v:ε}:∀{P:List Str}{vs:List ε}{i:Nat}{m:Str->Option ε},P.Nodup->P[i]?=some x->vs[i]?=some v->kindOf x≠some .local ->
  bindC kindOf (P.zip vs) m x=some v
 |[],_,_,_,_,h,_,_=>by simp at h
 |_::_,[],_,_,_,_,h,_=>by simp at h
 |p::P,w::vs,0,m,nd,h1,h2,hk=>by
  simp at h1 h2;subst h1;subst h2
  show bindC kindOf ((p,w)::P.zip vs) m p=_
  unfold bindC
  rw[mJ λv hv=>(r6.mp nd).1 (Gr hv).1,Q6 hk]
  simp
 |p::P,w::vs,i+1,m,nd,h1,h2,hk=>by
  show bindC kindOf ((p,w)::P.zip vs) m x=_
  unfold bindC
  exact mU (i:=i) (r6.mp nd).2 (by simpa using h1) (by simpa using h2) hk
def dw(N:List Str)(vs:List V):St:=vs.map some++ϓ (N.length-vs.length) none
def bf(CX:CXT)(P:υ)(w:Κ)(K:ζ)(mg:Str->Option ε)(base:Heap)(N:List Str)(qual:Str)(scope:C3)(f:Addr)(cd:ε)(A:Υ)(outer:List Env)(s:η)(H:Hp)(E:XK):Cx where
 prog:=P
 w:=w
 K:=K
 mg:=mg
 base:=base
 A:=A.deeper (envOfC qual scope s.heap.objs.size f cd)
 N:=N
 s₀:=s
 H₀:=H
 env:=envOfC qual scope s.heap.objs.size f cd
 outer:=outer
 stack:=envOfC qual scope s.heap.objs.size f cd::outer
 ex:=[]
 calm:=true
 fn:=λ_=>true
 pn:=[]
 xe:=λe s'=>wpAny (model P w) (A.deeper (envOfC qual scope s.heap.objs.size f cd)) (leaving (envOfC qual scope s.heap.objs.size f cd) e) (λ_ s''=>CX outer H s E e s'') (λe' s''=>CX outer H s E e' s'') s'
theorem qQ{sc:C3}{n:Nat}{x:Str}(h:sc.names.lookup x=some .cell):∃c,(cellsFrom n sc.names []).lookup x=some c:=by
 have q:=E9 sc.names n [] (.inl h)
 exact Option.isSome_iff_exists.mp q
theorem nb{CX:CXT}{P:υ}{w:Κ}{K:ζ}{mg:Str->Option ε}{base:Heap}{N ps:List Str}{qual:Str}{scope:C3}{f:Addr}{cd:ε}{A:Υ}{outer:List Env}{s s1:η}{H:Hp}{E:XK}{us:List ε}{vs:List V}
  (S:am N ps scope) (hd:A.handled=none) (e0:nE P w K mg base A outer s H) (hl:vs.length=ps.length) (r:aw vs us)
  (x:InCallC s s.heap.objs.size (bindL (envOfC qual scope s.heap.objs.size f cd).kindOf (ps.zip us) λ_=>none) (cellsFrom (s.heap.objs.size+1) scope.names []) (bindC (envOfC qual scope s.heap.objs.size f cd).kindOf (ps.zip us) λ_=>none) s1):
  Inv (bf CX P w K mg base N qual scope f cd A outer s H E) [] (dw N vs) H s1:=by
 have hpl:ps.length<=N.length:=by have:=congrArg A4 S.pre;rw[Ϗ]at this;omega
 obtain⟨h1,tk,rfl,hk⟩:=x.done
 have noA:∀b:Addr,b∉(bf CX P w K mg base N qual scope f cd A outer s H E).ex:=λb z=>absurd (show b∈([]:List Addr)from z) ()
 refine⟨⟨e0.mod,S.kind,rfl,rfl,θ _,λy z c h1 h2=>?_,λy hy=>?_,λy c _ h=>?_,λ_=>hd,Υ.frames_deeper e0.frames,.inr ⟨rfl,rfl⟩,λb z=>absurd z (noA b),e0.bs,e0.bsz,λb _ _=>noA b,λb z=>absurd z (noA b),e0.funs,e0.frf⟩,
  rfl,e0.bare,Un.kept hk,⟨_,x.toInCall.ns,λi y v h1 h2 h3=>?_⟩,λy c h=>⟨_,x.cell y c h⟩,e0.hok.fresh (θ _),λy c h=>?_,λp hp=>absurd (show p∈([]:List (Addr×Obj))from hp) (),e0.hok.kept hk,?_⟩
 ·exact name_of_addr x.apart (A0 h1) (A0 h2)
 ·have hy:scope.names.lookup y=some .cell\/scope.names.lookup y=some .free:=hy
  rcases hy with hy|hy
  ·exact qQ hy
  ·exact absurd rfl (S.nofree _ (A0 hy))
 ·exact A5 (x.above y c (A0 h))
 ·have hi:i<vs.length:=by
   unfold dw at h2
   by_cases hi:i<vs.length
   ·exact hi
   ·rw[g_ (by simpa using hi)]at h2
    rw[List.getElem?_replicate]at h2
    split at h2<;>cases h2
  have ha:vs[i]?=some v:=by
   unfold dw at h2
   rw[u9 (by simpa using hi),Ϯ]at h2
   cases e:vs[i]? with
   |none=>rw[e]at h2;cases h2
   |some a=>rw[e]at h2;cases h2;rfl
  obtain⟨u,hu,rv⟩:=r.get ha
  have hp:ps[i]?=some y:=by
   rw[<-S.pre,List.getElem?_take_of_lt ()];exact h1
  have ndP:ps.Nodup:=by rw[<-S.pre];exact S.nd.sublist (List.take_sublist _ _)
  refine⟨u,rv,?_⟩
  rcases S.par y (Ϝ hp)with k|k
  ·exact .inl ⟨k,mW ndP hp hu k⟩
  ·obtain⟨c,e⟩:=qQ (n:=s.heap.objs.size+1) k
   refine .inr ⟨.inl k,c,e,?_⟩
   have q:=x.cell y c e
   rw[mU ndP hp hu (by show scope.names.lookup y≠_;rw[k];decide)]at q
   exact q
 ·exact e0.hok.fresh (A5 (x.above y c (A0 h)))
 ·unfold dw
  show _=N.length
  rw[Ε,ς,A_]
  omega
theorem yb{CX:CXT}{P:υ}{w:Κ}{K:ζ}{mg:Str->Option ε}{base:Heap}{k:Nat}{f:Addr}{name qual:Str}{params:Arguments}{body:List Stmt}{scope:C3}{dV kV doc pm cdv ct oc:ε}{an od:Option Addr}
  {osl:Array (Option ε)} {N ps:List Str} {sp:Sp} (lk:K.lookup f=some ⟨oc,od,.func (ϻ name qual params body scope dV kV doc pm an cdv ct),osl⟩) (hcd:m4 K cdv qual=true) (S:am N ps scope)
  (len:∀vs H Q E,sp vs H Q E->vs.length=ps.length)
  (hbody:∀(A:Υ)(outer:List Env)(s:η)(H:Hp)(vs:List V)(Q:VK)(E:XK),bT k (A.deeper (envOfC qual scope s.heap.objs.size f cdv))->sp vs H Q E ->
   ∃t,PSs (bf CX P w K mg base N qual scope f cdv A outer s H E) body t/\t {nx:=λ_ H'=>Q .non H',rt:=Q} (dw N vs) H):
  ap P w K mg base CX (k+1) f (ϻ name qual params body scope dV kV doc pm an cdv ct) ps sp:=by
 refine⟨len,λA outer s H args us vs Q E hr e0 hb r hsp=>?_⟩
 have hl:=len _ _ _ _ hsp
 have KX:K.In s.heap:=e0.mod.kin.keeps λb o e=>(e0.bs b o e).1
 have lim:s.heap.NoLimit:=e0.mod.nolimit.keeps λb o e=>(e0.bs b o e).1
 have hkind:∀y∈ps.zip us,scope.names.lookup y.1=some .local\/(scope.names.lookup y.1=some .cell/\((cellsFrom (s.heap.objs.size+1) scope.names []).lookup y.1).isSome=true):=λ⟨n,v⟩ hy=>by
  rcases S.par n (Gr hy).1 with q|q
  ·exact .inl q
  ·exact .inr ⟨q,E9 _ _ _ (.inl q)⟩
 refine codeAny_call_function hr.depth (KX _ _ lk) rfl S.co S.gen rfl (PySem.W.codeRec_of KX hcd) (hb _ _ _ _ ?_)
 refine GN S.kind hkind λenv he s1 x=>?_
 subst he
 refine⟨lim.keeps x.toInCall.keep,codeAny_func ?_⟩
 obtain⟨t,ht,hq⟩:=hbody A outer s H vs Q E (hr.deeper _) hsp
 have I:Inv (bf CX P w K mg base N qual scope f cdv A outer s H E) [] (dw N vs) H s1:=nb S hr.hd e0 hl r x
 refine ϴ (ht [] s1 (dw N vs) H _ I hq) (λfl s' hs=>?_) λe s' hs=>hs
 have fin:∀{σ':St}{H':Hp}{v:V}{u:ε},Inv (bf CX P w K mg base N qual scope f cdv A outer s H E) [] σ' H' s'->aL v u->Q v H'->CE outer P w H s Q u s':=
  λ{σ' H' v u} J rv q=>⟨v,H',J.os,J.bare,J.base,J.hok,rv,q⟩
 cases fl with
 |ret u=>
  obtain⟨v,σ',H',J,rv,q⟩:=hs
  exact fin J rv q
 |next=>
  obtain⟨σ',H',J,q⟩:=hs
  exact fin (v:=V.non) (u:=j6) J rfl q
 |brk=>
  obtain⟨_,_,_,q⟩:=hs
  exact ϟ q
 |cont=>
  obtain⟨_,_,_,q⟩:=hs
  exact ϟ q
section
variable{X:Cx}{x:Str}{p pos:Pos}{e:Expr}{es:List Expr}{t:TA}{id T:String}{r:List V->Hp->VK->Prop}
def tCB(r:List V->Hp->VK->Prop)(t:TA):TE:=λσ H Q=>t σ H λvs H1=>r vs H1 Q
theorem pe_callB(hc:dZ X (.builtin id) r)(hg:Gl X x)(hm:X.mg x=none)(hv:bootBuiltins x=some (.builtin id))(ha:PA X (e::es) t)(hn:x≠"__name__":=by decide)(hdb:(x==("__debug__" : Str))=false:=by decide)
  (he:starEach (e::es) X.env=(false,eval e X.env)::starEach es X.env:=by rfl) (hpl:(backTo pos (starEach es X.env)).any (·.1)=false:=by rfl):PE X (.Call (.Name x p) (e::es) [] pos) (tCB r t):=by
 intro pins s σ H Q I h
 refine j7 (eA I hg hm hv ?_ hn hdb)
 exact PyProof.Rows.callWith_builtin1 (thn (ha pos pins s σ H _ I h) λus s1 ⟨vs,H1,I1,r1,q1⟩=>hc pins s1 σ H1 vs us Q I1 r1 q1) he hpl
theorem pe_callTy(hc:dZ X (.type T) r)(hg:Gl X x)(hm:X.mg x=none)(hv:bootBuiltins x=some (.type T))(ha:PA X (e::es) t)(hn:x≠"__name__":=by decide)(hdb:(x==("__debug__" : Str))=false:=by decide)
  (he:starEach (e::es) X.env=(false,eval e X.env)::starEach es X.env:=by rfl) (hpl:(backTo pos (starEach es X.env)).any (·.1)=false:=by rfl):PE X (.Call (.Name x p) (e::es) [] pos) (tCB r t):=by
 intro pins s σ H Q I h
 refine j7 (eA I hg hm hv ?_ hn hdb)
 exact e6 (thn (ha pos pins s σ H _ I h) λus s1 ⟨vs,H1,I1,r1,q1⟩=>hc pins s1 σ H1 vs us Q I1 r1 q1) he hpl
end
section
variable{κ:Type}[DecidableEq κ]
end
theorem yf{P:υ}{w:Κ}{k:Key}{u:ε}(r:aL (kV k) u):(bV P w).is k u=true:=by
 cases k with
 |inl i=>obtain⟨t,e⟩:=(show ∃t,u=E5 i t from r);subst e;exact ql P w i t
 |inr x=>obtain⟨t,e⟩:=(show ∃t,u=GG x t from r);subst e;exact eU P w x t
section
variable{P:υ}{w:Κ}{H:Hp}{h:Heap}{a:Addr}
end
section
variable{X:Cx}{pins:List (Addr×Obj)}{σ:St}{H:Hp}{s:η}{a:Addr}{y v:V}{u r:ε}{o:Option V}{A:Υ}{E:ε->η->Prop}
end
section
variable{X:Cx}{pins:List (Addr×Obj)}{σ:St}{H:Hp}{s:η}{a:Addr}{kvs:List (Key×V)}{k:Key}{u:ε}{A:Υ}{E:ε->η->Prop}
end
def EH(i:Expr):Prop:=∀ov iv,subscripted i false ov iv=operate [ov,iv] (getItem ov iv)
theorem Af{prog:υ}{w:Κ}{A:Υ}{E:ε->η->Prop}{s:η}{env:Env}{value slice:Expr}{pos:Pos}{T id:String}{Q:ε->η->Prop}
  (hl:typeLookup (.type T) "__getitem__"=pure (some (.builtin id))) (hs:EH slice)
  (h:wpAny (model prog w) A (eval value env) (λo s₁=>wpAny (model prog w) A (eval slice env) (λi s₂=>s₂.TypeIs o T/\wpAny (model prog w) A (getItem o i) Q E s₂) E s₁) E s):
  wpAny (model prog w) A (eval (.Subscript value slice pos) env) Q E s:=by
 refine Subscript_ (ϴ h (λo s₁ h₁=>ϴ h₁ (λi s₂ h₂=>?_) λ_ _ x=>x) λ_ _ x=>x)
 obtain⟨hT,h₂⟩:=h₂
 unfold subscriptTail
 refine δ ?_
 rw[getitemInPython_of_ne hT.not_modules]
 refine δ (wpAny_specialOf hT hl ?_)
 have fin:wpAny (model prog w) A (subscripted slice false o i) (λr s₃=>wpAny (model prog w) A (letTemporaryGo value o r>>=λ_=>pure r) Q E s₃) E s₂:=by
  rw[hs o i]
  exact wpAny_operating (ϴ h₂ (λr s₃ h₃=>δ (wpAny_letTemporaryGo (ρ h₃))) λ_ _ x=>x)
 first
  |exact ρ (δ fin)
  |exact δ (ρ (δ fin))
  |exact δ fin
section
variable{X:Cx}{o i e value:Expr}{pos pos' tpos:Pos}{td ty tv:TE}
end
section
variable{X:Cx}{pos:Pos}
end
section
variable{X:Cx}{pins:List (Addr×Obj)}{σ:St}{H:Hp}{s:η}{a:Addr}{y d:V}{u r:ε}{o:Option V}{A:Υ}{E:ε->η->Prop}
end
section
variable{X:Cx}{o e f:Expr}{apos cpos:Pos}{td ty tx:TE}
end
section
variable{X:Cx}{pins:List (Addr×Obj)}{σ:St}{H:Hp}{s:η}{a:Addr}{kvs:List (Key×V)}{A:Υ}{E:ε->η->Prop}
end
section
variable{X:Cx}{pins:List (Addr×Obj)}{σ:St}{H:Hp}{s:η}{a:Addr}{y:V}{u:ε}{A:Υ}{E:ε->η->Prop}
end
end L2
namespace HT
open PySem PyProof.Rows
section
open PySem.SeqAt
open PySem.AutoSeq1 (wpAny_loadPart')
open PySem.MeetsSeq PySem.MeetsSeq2 PySem.MeetsSeq3
end
section
variable{prog:υ}{w:Κ}{A:Υ}{E:ε->η->Prop}{s:η}
theorem cat_tup{t b:Addr}{vs ws:List ε}{Q:ε->η->Prop}(ht:H_ s.heap t vs.toArray)(hb:H_ s.heap b ws.toArray)(hv:vs≠[])
  (h1:ws=[]->Q (.ref t) s) (h2:ws≠[]->Q (.ref s.heap.objs.size) {s with heap:=s.heap.push {cls:=.type "tuple",data:=.seq (vs++ws).toArray} })
  (hsz:vs.length+ws.length<=sizeLine):wpAny (model prog w) A (binaryOp .Add (.ref t) (.ref b)) Q E s:=by
 obtain⟨⟨cls,dd,data,sl⟩,ho,hc,n,hd⟩:=id ht
 obtain⟨⟨cls2,dd2,data2,sl2⟩,ho2,hc2,n2,hd2⟩:=id hb
 simp only at hc hd hc2 hd2
 subst hc hd hc2 hd2
 have e:vs.toArray++ws.toArray=(vs++ws).toArray:=by simp
 by_cases hw:ws=[]
 ·exact concat_meets ⟨_,ho,rfl⟩ ⟨_,ho2,rfl⟩ Hk seq_tuple_add E_ E6 (C7 _ _)
   (tuple_addW1 t b vs.toArray ws.toArray n n2 dd dd2 sl sl2 (by simpa using hv) (by simp[hw])) ⟨ho,ho2,h1 hw⟩
 ·refine concat_meets ⟨_,ho,rfl⟩ ⟨_,ho2,rfl⟩ Hk seq_tuple_add E_ E6 (C7 _ _)
   (tuple_addW2 t b vs.toArray ws.toArray n n2 dd dd2 sl sl2 (by simpa using hv) (by simpa using hw) (by rw[Α,Α];exact hsz)) ⟨ho,ho2,?_⟩
  rw[e]
  exact h2 hw
def sIx(n d:Nat):Option Int->Nat
 |none=>d
 |some v=>if v<0 then (v+(n:Int)).toNat else min v.toNat n
theorem sIx_nat(n d k:Nat):sIx n d (some (k:Int))=min k n:=by
 show(if (k:Int)<0 then ((k:Int)+(n:Int)).toNat else min (k:Int).toNat n)=min k n
 rw[Q6 (),He]
theorem BT(n d:Nat)(hd:d<=n)(o:Option Int):sIx n d o<=n:=by
 cases o with
 |none=>exact hd
 |some v=>
  show(if v<0 then (v+(n:Int)).toNat else min v.toNat n)<=n
  by_cases hv:v<0
  ·rw[Q5 hv];omega
  ·rw[Q6 hv];exact Nat.min_le_right _ _
theorem uQ(v:Int)(n d:Nat):(if v<0 then max (v+(n:Int)) 0 else min v (n:Int))=((sIx n d (some v):Nat):Int):=by
 show(if v<0 then max (v+(n:Int)) 0 else min v (n:Int))=(((if v<0 then (v+(n:Int)).toNat else min v.toNat n):Nat):Int)
 by_cases hv:v<0
 ·simp only[Q5 hv];omega
 ·simp only[Q6 hv];omega
theorem ul(lo hi:Option Int)(n:Nat):C4 lo hi 1 (n:Int)=(((sIx n 0 lo:Nat):Int),((sIx n n hi:Nat):Int)):=by
 have h1:¬ ((1:Int)<0):=by omega
 unfold C4
 simp only[h1,if_false]
 refine Prod.ext ?_ ?_
 ·cases lo with
  |none=>rfl
  |some v=>exact uQ v n 0
 ·cases hi with
  |none=>rfl
  |some v=>exact uQ v n n
theorem tP(i j:Nat):u_ (i:Int) (j:Int) 1=j-i:=by
 unfold u_
 have h1:(1:Int)>0:=by omega
 simp only[h1,if_true,Int.ediv_one]
 split<;>omega
theorem kU{v:ε}{o:Option Int}{Q:Option Int->η->Prop}(p:HU v o)(h:Q o s):wpAny (model prog w) A (e_.Slice.slicePartIndex v) Q E s:=by
 cases p with
 |none=>exact slicePart_none h
 |int i t=>exact slicePart_int h
theorem sliceApplied_gen{sl:Addr}{vl vu:ε}{lo hi:Option Int}{n:Nat}{Q:Int×Int×Nat->η->Prop}(hs:s.heap.IsSliceOf sl vl vu .none)(pl:HU vl lo)(pu:HU vu hi)
  (h:Q (((sIx n 0 lo:Nat):Int),1,sIx n n hi-sIx n 0 lo) s):wpAny (model prog w) A (B7 (.ref sl) (pure (n:Int))) Q E s:=by
 obtain⟨os,hos,hcs,hds⟩:=id hs
 unfold B7 e_.Slice.sliceFields
 refine δ (δ (ύ hos hds (x:=vl) rfl (δ (ύ hos hds (x:=vu) rfl (δ (ύ hos hds (x:=.none) rfl (ρ ?_)))))))
 refine δ (slicePart_none ?_)
 show wpAny _ _ (if ((1:Int)==0)=true then _ else _) _ _ s
 rw[Q6 ()]
 refine δ (kU pl (δ (kU pu (δ (ρ ?_)))))
 show wpAny _ _ (match C4 lo hi 1 (n:Int)with|(lo,hi)=>pure (lo,(1:Int),u_ lo hi 1)) _ _ s
 rw[ul lo hi n]
 show wpAny _ _ (pure (((sIx n 0 lo:Nat):Int),(1:Int),u_ ((sIx n 0 lo:Nat):Int) ((sIx n n hi:Nat):Int) 1)) _ _ s
 rw[tP]
 exact ρ h
theorem pick_gen(xs:Array ε)(i k:Nat):((Ϻ k).filterMap λ(m:Nat)=>xs[((i:Int)+(m:Int)*1).toNat]?).toArray=((xs.toList.drop i).take k).toArray:=by
 have e:(λ(m:Nat)=>xs[((i:Int)+(m:Int)*1).toNat]?)=λm=>xs[i+m]?:=by
  funext m
  have:((i:Int)+(m:Int)*1).toNat=i+m:=by omega
  rw[this]
 rw[e]
 have:=pick_run xs i k
 rw[List.filterMap_map]at this
 have e2:((λx=>xs[x]?)∘λx=>i+x)=λm=>xs[i+m]?:=rfl
 rw[e2]at this
 rw[this]
theorem getItem_tuple_cut{t sl:Addr}{items:Array ε}{vl vu:ε}{lo hi:Option Int}{Q:ε->η->Prop}(ht:H_ s.heap t items)(hs:s.heap.IsSliceOf sl vl vu .none)(pl:HU vl lo)(pu:HU vu hi)
  (hw:¬ (sIx items.size 0 lo=0/\sIx items.size items.size hi=items.size))
  (h:Q (.ref s.heap.objs.size) {s with heap:=s.heap.push {cls:=.type "tuple",data:=.seq ((items.toList.drop (sIx items.size 0 lo)).take (sIx items.size items.size hi-sIx items.size 0 lo)).toArray} })
  (hsz:items.size<=sizeLine):wpAny (model prog w) A (getItem (.ref t) (.ref sl)) Q E s:=by
 have htake:sizeOk (.seq ((items.toList.drop (sIx items.size 0 lo)).take (sIx items.size items.size hi-sIx items.size 0 lo)).toArray):=by
  show((items.toList.drop (sIx items.size 0 lo)).take (sIx items.size items.size hi-sIx items.size 0 lo)).toArray.size<=sizeLine
  rw[Α,Ϗ,ϡ,ψ]
  omega
 have hj:sIx items.size items.size hi<=items.size:=BT _ _ (θ _) hi
 obtain⟨os,hos,hcs,hds⟩:=id hs
 have hTs:s.TypeIs (.ref sl) "slice":=⟨os,hos,hcs⟩
 unfold getItem
 try with_reducible refine A9 ?_
 first|refine δ (ρ ?_)|skip
 refine δ (wpAny_sequenceKey ht.typeIs () ?_)
 refine δ (ϩ (name:=γ "__getitem__") ht.typeIs ϳ
  (j8 ϳ ht.typeIs entry_tuple_getitem ?_ (args_tuple_getitem _ _)))
 show wpAny _ _ (GO (.ref t)>>=_) _ _ s
 refine δ (tupleItemsOf_ ht ?_)
 refine δ (Hv hTs ?_)
 rw[Q5 ()]
 refine δ (sliceApplied_gen hs pl pu ?_)
 have hno:¬ ((((sIx items.size 0 lo:Nat):Int)==0&&(1:Int)==1&&(sIx items.size items.size hi-sIx items.size 0 lo)==items.size)=true):=by
  intro q
  rw[ο,ο]at q
  have q1:((sIx items.size 0 lo:Nat):Int)=0:=eq_of_beq q.1.1
  have q2:sIx items.size items.size hi-sIx items.size 0 lo=items.size:=eq_of_beq q.2
  exact hw ⟨(),()⟩
 show wpAny _ _ (if (((sIx items.size 0 lo:Nat):Int)==0&&(1:Int)==1&&(sIx items.size items.size hi-sIx items.size 0 lo)==items.size)=true then _ else _) _ _ s
 rw[Q6 hno,pick_gen]
 first
  |exact δ (m:=ϰ _) (ϝ (ρ ⟨_,rfl,ρ h⟩) htake)
  |exact δ (m:=ϰ _) (ϝ (δ (ρ (ρ ⟨_,rfl,ρ h⟩))) htake)
  |exact δ (δ (m:=ϰ _) (ϝ (ρ (ρ ⟨_,rfl,ρ h⟩)) htake))
  |exact δ (δ (m:=ϰ _) (ϝ (ρ ⟨_,rfl,ρ h⟩) htake))
end
end HT
namespace L2
open PySem PySem.Spec PyProof.Rows
abbrev TO:=St->Hp->(Option Int->Hp->Prop)->Prop
def PO(X:Cx)(e:Option Expr)(t:TO):Prop:=
 ∀(pins:List (Addr×Obj))(s:η)(σ:St)(H:Hp)(Q:Option Int->Hp->Prop),Inv X pins σ H s->t σ H Q ->
  wpAny (model X.prog X.w) X.A (evalPart e X.env) (λu s'=>∃o H',Inv X pins σ H' s'/\HU u o/\Q o H') X.xe s
def fW:TO:=λ_ H Q=>Q none H
def EM(t:TE):TO:=λσ H Q=>t σ H λx H1=>∃i,x=.int i/\Q (some i) H1
section
variable{X:Cx}{e:Expr}{te:TE}{lo hi:Option Expr}{tl th:TO}{pos p2:Pos}
theorem po_none:PO X none fW:=by
 intro pins s σ H Q I h
 rw[evalPart_none]
 exact ρ ⟨none,H,I,.none,h⟩
theorem po_some(h:PE X e te):PO X (some e) (EM te):=by
 intro pins s σ H Q I hw
 rw[evalPart_some]
 refine thn (h pins s σ H _ I hw) λu s1 ⟨x,H1,I1,r1,q1⟩=>?_
 obtain⟨i,rfl,q⟩:=q1
 obtain⟨t,rfl⟩:=r1
 exact⟨some i,H1,I1,.int i t,q⟩
def SlR(X:Cx)(r:V->Option Int->Option Int->Hp->VK->Prop):Prop:=
 ∀(pins:List (Addr×Obj))(s:η)(σ:St)(H:Hp)(x:V)(v vl vu:ε)(lo hi:Option Int)(sl:Addr)(Q:VK),Inv X pins σ H s->aL x v->s.heap.IsSliceOf sl vl vu .none->HU vl lo->HU vu hi->r x lo hi H Q ->
  ∃T id,typeLookup (.type T) "__getitem__"=pure (some (.builtin id))/\s.TypeIs v T/\wpAny (model X.prog X.w) X.A (getItem v (.ref sl)) (EP X pins σ Q) X.xe s
def tSl(r:V->Option Int->Option Int->Hp->VK->Prop)(te:TE)(tl th:TO):TE:=λσ H Q=>te σ H λx H1=>tl σ H1 λl H2=>th σ H2 λu H3=>r x l u H3 Q
theorem pe_slice{r:V->Option Int->Option Int->Hp->VK->Prop}(hr:SlR X r)(he:PE X e te)(hl:PO X lo tl)(hu:PO X hi th):PE X (.Subscript e (.Slice lo hi none p2) pos) (tSl r te tl th):=by
 intro pins s σ H Q I h
 refine Subscript_ (thn (he pins s σ H _ I h) λv s1 ⟨x,H1,I1,r1,q1⟩=>?_)
 refine wpAny_Slice (thn (hl pins s1 σ H1 _ I1 q1) λvl s2 ⟨l,H2,I2,pl,q2⟩=>thn (hu pins s2 σ H2 _ I2 q2) λvu s3 ⟨u,H3,I3,pu,q3⟩=>?_)
 rw[evalPart_none]
 refine ρ ?_
 have I4:Inv X pins σ H3 {s3 with heap:=s3.heap.push {cls:=.type "slice",data:=.fields #[vl,vu,.none]} }:=I3.kept (t':=s3.toks) λb ob q=>μ _ q
 obtain⟨T,id,hT,ht,hg⟩:=hr pins {s3 with heap:=s3.heap.push {cls:=.type "slice",data:=.fields #[vl,vu,.none]} } σ H3 x v vl vu l u s3.heap.objs.size Q I4 r1 (Heap.IsSliceOf.new ..) pl pu q3
 show wpAny (model X.prog X.w) X.A (subscriptTail e (.Slice lo hi none p2) v (.ref s3.heap.objs.size)) (EP X pins σ Q) X.xe {s3 with heap:=s3.heap.push {cls:=.type "slice",data:=.fields #[vl,vu,.none]} }
 exact tail_any (ops:=[.ref s3.heap.objs.size,v]) ht hT hg (by with_unfolding_all rfl)
def dG(xs:List V)(lo hi:Option Int):List V:=(xs.drop (HT.sIx xs.length 0 lo)).take (HT.sIx xs.length xs.length hi-HT.sIx xs.length 0 lo)
theorem fv(xs:List V)(lo hi:Option Int):(dG xs lo hi).length<=xs.length:=by
 unfold dG
 rw[Ϗ,ϡ]
 omega
def Fz(K:ζ):V->Option Int->Option Int->Hp->VK->Prop:=λx lo hi H Q=>∃a xs,x=.ref a/\SqT K H a xs /\
 ¬ (HT.sIx xs.length 0 lo=0/\HT.sIx xs.length xs.length hi=xs.length)/\∀p,H p=none->Q (.ref p) (upd H p (.tup (dG xs lo hi)))
theorem CQ:SlR X (Fz X.K):=by
 intro pins s σ H x v vl vu lo hi sl Q I rx hs pl pu h
 obtain⟨a,xs,rfl,hx,hw,q⟩:=h
 cases rx
 obtain⟨its,r,ht,hz⟩:=I.tuple hx
 have hlen:its.toArray.size=xs.length:=by rw[Α];exact r.length.symm
 refine⟨"tuple",_,ϳ.lookup,ht.typeIs,?_⟩
 refine HT.getItem_tuple_cut ht hs pl pu (by rw[hlen];exact hw) ?_ (by rw[hlen];exact hz)
 rw[hlen]
 refine⟨.ref s.heap.objs.size,_,I.laid (t':=s.toks) (o:=.tup (dG xs lo hi)) (λb ob q=>μ _ q) (θ _) ?_,rfl,q _ (I.hok.fresh (θ _))⟩
 exact⟨ϕ (fv xs lo hi) hz,_,(r.drop (HT.sIx xs.length 0 lo)).take (HT.sIx xs.length xs.length hi-HT.sIx xs.length 0 lo),HS _ _,NoD.new _ rfl⟩
def Ei(K:ζ):R2:=λx y H Q=>∃a b xs ys,x=.ref a/\y=.ref b/\SqT K H a xs/\SqT K H b ys/\xs≠[]/\xs.length+ys.length<=sizeLine /\
 (ys=[]->Q (.ref a) H)/\(ys≠[]->∀p,H p=none->Q (.ref p) (upd H p (.tup (xs++ys))))
theorem aw.nil_iff{xs:List V}{us:List ε}(r:aw xs us):us=[]↔xs=[]:=by
 cases r with
 |nil=>simp
 |cons _ _=>simp
theorem Ac:OpR X (binaryOp .Add) (Ei X.K):=by
 intro pins s σ H x y v u Q I rx ry h
 obtain⟨a,b,xs,ys,rfl,rfl,ha,hb,hx,hz,q1,q2⟩:=h
 cases rx
 cases ry
 obtain⟨its,r1,p1,_⟩:=I.tuple ha
 obtain⟨its2,r2,p2,_⟩:=I.tuple hb
 refine HT.cat_tup p1 p2 (λz=>hx (r1.nil_iff.mp z)) (λz=>⟨.ref a,H,I,rfl,q1 (r2.nil_iff.mp z)⟩) (λz=>?_) (by rw[<-r1.length,<-r2.length];exact hz)
 refine⟨.ref s.heap.objs.size,_,I.laid (t':=s.toks) (o:=.tup (xs++ys)) (λb ob q=>μ _ q) (θ _) ?_,rfl,q2 (λw=>z (r2.nil_iff.mpr w)) _ (I.hok.fresh (θ _))⟩
 exact⟨by rw[Ε];exact hz,_,r1.append r2,HS _ _,NoD.new _ rfl⟩
end
def ixN(n:Nat)(i:Int):Option Nat:=if 0<=i then (if i<n then some i.toNat else none)else if -(n:Int)<=i then some (i+n).toNat else none
def atI{α:Type}(xs:List α)(i:Int):Option α:=(ixN xs.length i).bind λj=>xs[j]?
theorem vN{n:Nat}{i:Int}{j:Nat}(h:ixN n i=some j):seqIndex? i n=some j/\j<n/\-(n:Int)<=i/\i<n:=by
 unfold ixN at h
 by_cases h0:0<=i
 ·rw[Q5 h0]at h
  by_cases h1:i<n
  ·rw[Q5 h1]at h
   have e:i.toNat=j:=ϧ h
   exact⟨by rw[seqIndex_of h0 h1,e],(),(),h1⟩
  ·rw[Q6 h1]at h;cases h
 ·rw[Q6 h0]at h
  by_cases h1:-(n:Int)<=i
  ·rw[Q5 h1]at h
   have e:(i+n).toNat=j:=ϧ h
   exact⟨by rw[seqIndex_neg () h1,e],(),h1,()⟩
  ·rw[Q6 h1]at h;cases h
theorem pD{α:Type}{xs:List α}{i:Int}{v:α}(h:atI xs i=some v):∃j,seqIndex? i xs.length=some j/\xs[j]?=some v/\j<xs.length/\-(xs.length:Int)<=i/\i<xs.length:=by
 unfold atI at h
 cases e:ixN xs.length i with
 |none=>rw[e]at h;cases h
 |some j=>
  rw[e]at h
  obtain⟨h1,h2,h3,h4⟩:=vN e
  exact⟨j,h1,h,h2,h3,h4⟩
theorem ah{α:Type}{xs:List α}{j:Nat}{v:α}(h:xs[j]?=some v):atI xs (j:Int)=some v:=by
 have hj:j<xs.length:=(Ρ.mp h).1
 have e:ixN xs.length (j:Int)=some j:=by
  unfold ixN
  rw[Q5 (),Q5 ()];simp
 unfold atI;rw[e];exact h
def zw(b:Expr):Prop:=∀o i,subscripted b false o i=operate [o,i] (getItem o i)
def IxR(X:Cx)(r:R2):Prop:=
 ∀(value slice:Expr)(pins:List (Addr×Obj))(s:η)(σ:St)(H:Hp)(x y:V)(v u:ε)(Q:VK),Inv X pins σ H s->aL x v->aL y u->r x y H Q ->
  subscripted slice false v u=operate [v,u] (getItem v u)->wpAny (model X.prog X.w) X.A (subscriptTail value slice v u) (EP X pins σ Q) X.xe s
def MtR(X:Cx)(id:String)(r:V->List V->Hp->VK->Prop):Prop:=
 ∀(pins:List (Addr×Obj))(s:η)(σ:St)(H:Hp)(x:V)(xs:List V)(v:ε)(us:List ε)(Q:VK),Inv X pins σ H s->aL x v->aw xs us->r x xs H Q ->
  wpAny (model X.prog X.w) X.A (call (.builtin id) (v::us)) (EP X pins σ Q) X.xe s
section
variable{X:Cx}{a b:Expr}{ta tb:TE}{pos:Pos}
theorem pe_ix{r:R2}(hr:IxR X r)(ha:PE X a ta)(hb:PE X b tb)(hs:zw b):PE X (.Subscript a b pos) (tOp r ta tb):=by
 intro pins s σ H Q I h
 exact Subscript_ (BW ha hb I h λv u s2 x y H2 I2 rx ry q=>hr a b pins s2 σ H2 x y v u Q I2 rx ry q (hs _ _))
def FJ(K:ζ):R2:=λx y H Q=>∃p xs i v,x=.ref p/\y=.int i/\SqL K H p xs/\atI xs i=some v/\Q v H
def Ak(K:ζ):R2:=λx y H Q=>∃p xs i v,x=.ref p/\y=.int i/\SqT K H p xs/\atI xs i=some v/\Q v H
def FW:R2:=λx y H Q=>∃z i c,x=.str z/\y=.int i/\z.length<=sizeLine/\atI z.cps.toList i=some c/\Q (.str ⟨#[c]⟩) H
theorem aZ:IxR X (FJ X.K):=by
 intro value slice pins s σ H x y v u Q I rx ry h hs
 obtain⟨p,xs,i,z,rfl,rfl,hq,he,q⟩:=h
 cases rx
 obtain⟨t,rfl⟩:=ry
 obtain⟨its,r,pl,hz⟩:=I.list hq
 obtain⟨j,h1,h2,h3,h4,h5⟩:=pD he
 obtain⟨w,ew,rw'⟩:=r.get h2
 have hl:=r.length
 have hn:=gC
 have fin:EP X pins σ Q w s:=⟨z,H,I,rw',q⟩
 by_cases h0:0<=i
 ·have hj:i.toNat=j:=by
   rw[seqIndex_of h0 h5]at h1
   exact ϧ h1
  exact item_listR pl.isList h0 () (by rw[hj];simpa using ew) fin hs
 ·have hj:(i+(its.toArray.size:Int)).toNat=j:=by
   rw[seqIndex_neg () h4]at h1
   rw[Α,<-hl]
   exact ϧ h1
  exact subscriptTail_builtinR (x:=w) pl.isList.typeIs slot_list_getitem.lookup
   (wpAny_getItem_list_neg (Q:=λr s'=>r=w/\EP X pins σ Q r s') pl.isList () (by rw[Α]<;>omega) () (by rw[hj];simpa using ew) ⟨rfl,fin⟩) hs
theorem aq:IxR X (Ak X.K):=by
 intro value slice pins s σ H x y v u Q I rx ry h hs
 obtain⟨p,xs,i,z,rfl,rfl,hq,he,q⟩:=h
 cases rx
 obtain⟨t,rfl⟩:=ry
 obtain⟨its,r,pl,hz⟩:=I.tuple hq
 obtain⟨j,h1,h2,h3,h4,h5⟩:=pD he
 obtain⟨w,ew,rw'⟩:=r.get h2
 have hl:=r.length
 have hn:=gC
 have fin:EP X pins σ Q w s:=⟨z,H,I,rw',q⟩
 exact subscriptTail_builtinR (x:=w) pl.typeIs slot_tuple_getitem.lookup
  (getItem_tuple (j:=j) (Q:=λr s'=>r=w/\EP X pins σ Q r s') pl () () (by rw[Α,<-hl];exact h1) (by simpa using ew) ⟨rfl,fin⟩) hs
theorem oO:IxR X FW:=by
 intro value slice pins s σ H x y v u Q I rx ry h hs
 obtain⟨z,i,c,rfl,rfl,hz,he,q⟩:=h
 obtain⟨t,rfl⟩:=rx
 obtain⟨t',rfl⟩:=ry
 obtain⟨j,h1,h2,h3,h4,h5⟩:=pD he
 have hl:z.cps.toList.length=z.length:=by simp[Str.length]
 rw[hl]at h1 h4 h5
 have hn:=gC
 exact tail_any (E4 s z t) slot_str_getitem.lookup (getItem_str (c:=c) (by
  have e1:decide (i < -(2^63:Int))=false:=Q8 ()
  have e2:decide (i>=2^63)=false:=Q8 ()
  rw[e1,e2,Bool.or_false]) (by rw[h1];simpa using h2) ⟨.str ⟨#[c]⟩,H,I.tok _,⟨_,rfl⟩,q⟩) hs
theorem sh(its:List ε)(n j:Nat)(u:ε):GP (·.setIfInBounds j u) {cls:=.type "list",data:=.seq its.toArray n}={cls:=.type "list",data:=.seq (its.set j u).toArray n}:=by
 simp[GP]
theorem Inv.lst{pins:List (Addr×Obj)}{σ:St}{H:Hp}{s:η}{p:Addr}{xs:List V}(I:Inv X pins σ H s)(h:H p=some (.lst xs)):
  ∃(its:List ε) (n:Nat),aw xs its/\s.heap.get? p=some {cls:=.type "list",data:=.seq its.toArray n}/\xs.length<=sizeLine:=by
 obtain⟨z,its,n,r,e⟩:=I.hok p _ h
 exact⟨its,n,r,e,z⟩
theorem Inv.lstUpd{pins:List (Addr×Obj)}{σ:St}{H:Hp}{s:η}{p:Addr}{xs ys:List V}{its its':List ε}{n n':Nat}{f:Obj->Obj}(I:Inv X pins σ H s)(h:H p=some (.lst xs))
  (ho:s.heap.get? p=some {cls:=.type "list",data:=.seq its.toArray n}) (hf:f {cls:=.type "list",data:=.seq its.toArray n}={cls:=.type "list",data:=.seq its'.toArray n'}) (r:aw ys its') (hz:ys.length<=sizeLine) (t:Nat):
  Inv X pins σ (upd H p (.lst ys)) {s with heap:=s.heap.update p f,toks:=t}:=by
 have e:(s.heap.update p f).get? p=some {cls:=.type "list",data:=.seq its'.toArray n'}:=by
  rw[i6 f ho (by rw[hf]<;>rfl),hf]
 refine I.write (x:=p) (e:=p) (by rw[h];trivial) (.inl rfl) (λb u hb q=>(ϗ _ _ (ϛ hb)).trans q) ⟨_,e⟩ ?_
 exact⟨hz,its',n',r,e⟩
def Ez:V->V->V->Hp->(Hp->Prop)->Prop:=λo i v H Q=>∃p xs k j,o=.ref p/\i=.int k/\H p=some (.lst xs)/\ixN xs.length k=some j/\Q (upd H p (.lst (xs.set j v)))
theorem rg:EF X Ez:=by
 intro pins s σ H o i v ov iv u Q I ro ri rv h
 obtain⟨p,xs,k,j,rfl,rfl,hp,hj,q⟩:=h
 cases ro
 obtain⟨t,rfl⟩:=ri
 obtain⟨its,n,r,ho,hz⟩:=I.lst hp
 obtain⟨h1,h2,h3,h4⟩:=vN hj
 have hl:=r.length
 have hn:=gC
 have I':Inv X pins σ (upd H p (.lst (xs.set j v))) {s with heap:=s.heap.update p (GP (·.setIfInBounds j u))}:=
  I.lstUpd hp ho (sh its n j u) (r.set rv j) (by rw[List.length_set];exact hz) s.toks
 by_cases h0:0<=k
 ·have hk:k.toNat=j:=by
   rw[seqIndex_of h0 h4]at h1
   exact ϧ h1
  exact PySem.W.ki_setAt ho h0 () (by rw[Α,<-hl];exact h4) (by rw[hk];exact⟨_,I',q⟩)
 ·have hk:(k+(its.toArray.size:Int)).toNat=j:=by
   rw[seqIndex_neg () h3]at h1
   rw[Α,<-hl]
   exact ϧ h1
  exact PySem.W.ki_setBack ho () (by rw[Α,<-hl];exact h3) () (by rw[hk];exact⟨_,I',q⟩)
theorem nZ(lo hi:Option Int)(n:Nat):(sliceBounds lo hi none n).1=((HT.sIx n 0 lo:Nat):Int)/\(sliceBounds lo hi none n).2.1=((HT.sIx n n hi:Nat):Int)/\(sliceBounds lo hi none n).2.2=1:=by
 refine⟨?_,?_,rfl⟩
 ·cases lo with
  |none=>simp[sliceBounds,HT.sIx]
  |some i=>
   simp only[sliceBounds,HT.sIx,Option.getD_none,show(1:Int)>0 by decide,if_true]
   by_cases h:i<0
   ·simp only[h,if_true]<;>omega
   ·simp only[h,if_false]<;>omega
 ·cases hi with
  |none=>simp[sliceBounds,HT.sIx]
  |some i=>
   simp only[sliceBounds,HT.sIx,Option.getD_none,show(1:Int)>0 by decide,if_true]
   by_cases h:i<0
   ·simp only[h,if_true]<;>omega
   ·simp only[h,if_false]<;>omega
theorem mf(its:List ε)(lo hi:Option Int):slicePick its.toArray lo hi none=((its.drop (HT.sIx its.length 0 lo)).take (HT.sIx its.length its.length hi-HT.sIx its.length 0 lo)).toArray:=by
 obtain⟨h1,h2,h3⟩:=nZ lo hi its.toArray.size
 unfold slicePick
 rw[h1,h2,h3]
 simp only[sliceRange_one,pick_run,Α]<;>rfl
def FK(K:ζ):V->Option Int->Option Int->Hp->VK->Prop:=λx lo hi H Q=>∃a xs,x=.ref a/\SqL K H a xs/\∀p,H p=none->Q (.ref p) (upd H p (.lst (dG xs lo hi)))
theorem zN:SlR X (FK X.K):=by
 intro pins s σ H x v vl vu lo hi sl Q I rx hs pl pu h
 obtain⟨a,xs,rfl,hx,q⟩:=h
 cases rx
 obtain⟨its,r,ht,hz⟩:=I.list hx
 have hlen:=r.length
 refine⟨"list",_,slot_list_getitem.lookup,ht.isList.typeIs,?_⟩
 refine wpAny_getItem_list_slice ht.isList hs pl pu .none () ?_ (by rw[Α]<;>omega)
 rw[mf,<-hlen]
 refine⟨.ref s.heap.objs.size,_,I.laid (t':=s.toks) (o:=.lst (dG xs lo hi)) (λb ob q=>μ _ q) (θ _) ?_,rfl,q _ (I.hok.fresh (θ _))⟩
 exact⟨ϕ (fv xs lo hi) hz,_,0,(r.drop (HT.sIx xs.length 0 lo)).take (HT.sIx xs.length xs.length hi-HT.sIx xs.length 0 lo),Β _ rfl⟩
def jy:V->Bool
 |.non=>true
 |.bl _=>true
 |.int _=>true
 |.str _=>true
 |_=>false
def eqV:V->V->Bool
 |.non,.non=>true
 |.bl a,.bl b=>a==b
 |.bl a,.int b=>(if a then 1 else 0)==b
 |.int a,.bl b=>a==(if b then 1 else 0)
 |.int a,.int b=>a==b
 |.str a,.str b=>a==b
 |_,_=>false
theorem Db{A:Υ}{s:η}{y x:V}{u v:ε}(ry:aL y u)(rx:aL x v)(fy:jy y=true)(fx:jy x=true):ϣ A s u v (eqV y x):=by
 cases y with
 |non=>
  cases ry
  cases x with
  |non=>cases rx;exact HI _
  |bl b=>cases rx;exact ϣ.none_bool b
  |int b=>obtain⟨t,rfl⟩:=rx;exact ϣ.none_int b t
  |str b=>obtain⟨t,rfl⟩:=rx;exact ϣ.none_str b t
  |_=>exact absurd (show false=true from fx) Ζ
 |bl a=>
  cases ry
  cases x with
  |non=>cases rx;exact ϣ.bool_none a
  |bl b=>cases rx;exact ϣ.bool_bool a b
  |int b=>obtain⟨t,rfl⟩:=rx;exact ϣ.bool_int a b t
  |str b=>obtain⟨t,rfl⟩:=rx;exact ϣ.bool_str a b t
  |_=>exact absurd (show false=true from fx) Ζ
 |int a=>
  obtain⟨t',rfl⟩:=ry
  cases x with
  |non=>cases rx;exact ϣ.int_none a t'
  |bl b=>cases rx;exact ϣ.int_bool a t' b
  |int b=>obtain⟨t,rfl⟩:=rx;exact ϣ.int_int a t' b t
  |str b=>obtain⟨t,rfl⟩:=rx;exact ϣ.int_str a t' b t
  |_=>exact absurd (show false=true from fx) Ζ
 |str a=>
  obtain⟨t',rfl⟩:=ry
  cases x with
  |non=>cases rx;exact ϣ.str_none a t'
  |bl b=>cases rx;exact ϣ.str_bool a t' b
  |int b=>obtain⟨t,rfl⟩:=rx;exact ϣ.str_int a t' b t
  |str b=>obtain⟨t,rfl⟩:=rx;exact ϣ.str_str a t' b t
  |_=>exact absurd (show false=true from fx) Ζ
 |_=>exact absurd (show false=true from fy) Ζ
def eqU(x:V)(u:ε):Bool:=match u with
 |.none=>eqV .non x
 |.bool b=>eqV (.bl b) x
 |.int i _=>eqV (.int i) x
 |.str z _=>eqV (.str z) x
 |_=>false
theorem xR{x y:V}{u:ε}(r:aL y u)(f:jy y=true):eqU x u=eqV y x:=by
 cases y with
 |non=>cases r;rfl
 |bl b=>cases r;rfl
 |int i=>obtain⟨t,rfl⟩:=r;rfl
 |str z=>obtain⟨t,rfl⟩:=r;rfl
 |_=>exact absurd (show false=true from f) Ζ
theorem ia{x:V}:∀{xs:List V}{us:List ε},aw xs us->xs.all jy=true->us.any (eqU x)=xs.any λy=>eqV y x
 |_,_,.nil,_=>rfl
 |y::xs,u::us,.cons r t,f=>by
  rw[List.all_cons,ο]at f
  rw[List.any_cons,List.any_cons,xR r f.1,ia t f.2]
theorem fc{A:Υ}{s:η}{x:V}{v:ε}(rx:aL x v)(fx:jy x=true):∀{xs:List V}{us:List ε},aw xs us->xs.all jy=true->∀u∈us,ϣ A s u v (eqU x u)
 |_,_,.nil,_=>λu hu=>by cases hu
 |y::xs,u::us,.cons r t,f=>λu' hu=>by
  rw[List.all_cons,ο]at f
  rcases ι.mp hu with rfl|hu
  ·rw[xR r f.1];exact Db r rx f.1 fx
  ·exact fc rx fx t f.2 u' hu
def inV(x:V)(xs:List V):Bool:=xs.any λy=>eqV y x
def rIn(K:ζ)(neg:Bool):R2:=λx y H Q=>∃p xs,y=.ref p/\(SqL K H p xs\/SqT K H p xs)/\jy x=true/\xs.all jy=true/\Q (.bl (if neg then !inV x xs else inV x xs)) H
theorem nh:OpR X (compareOp .In) (rIn X.K false):=by
 intro pins s σ H x y v u Q I rx ry h
 obtain⟨p,xs,rfl,hq,fx,fs,q⟩:=h
 cases ry
 rcases hq with hq|hq
 ·obtain⟨its,r,pl,hz⟩:=I.list hq
  refine SeqAt.in_listAt (eqU x) pl.isList (λw hw=>fc rx fx r fs w (by simpa using hw)) ⟨.bl _,H,I,rfl,?_⟩
  rw[show its.toArray.any (eqU x)=its.any (eqU x) by simp,ia r fs]
  exact q
 ·obtain⟨its,r,pl,hz⟩:=I.tuple hq
  refine SeqAt.in_tupleAt (eqU x) pl (λw hw=>fc rx fx r fs w (by simpa using hw)) ⟨.bl _,H,I,rfl,?_⟩
  rw[show its.toArray.any (eqU x)=its.any (eqU x) by simp,ia r fs]
  exact q
theorem gT:OpR X (compareOp .NotIn) (rIn X.K true):=by
 intro pins s σ H x y v u Q I rx ry h
 obtain⟨p,xs,rfl,hq,fx,fs,q⟩:=h
 cases ry
 rcases hq with hq|hq
 ·obtain⟨its,r,pl,hz⟩:=I.list hq
  refine SeqAt.notIn_listAt (eqU x) pl.isList (λw hw=>fc rx fx r fs w (by simpa using hw)) ⟨.bl _,H,I,rfl,?_⟩
  rw[show its.toArray.any (eqU x)=its.any (eqU x) by simp,ia r fs]
  exact q
 ·obtain⟨its,r,pl,hz⟩:=I.tuple hq
  refine SeqAt.notIn_tupleAt (eqU x) pl (λw hw=>fc rx fx r fs w (by simpa using hw)) ⟨.bl _,H,I,rfl,?_⟩
  rw[show its.toArray.any (eqU x)=its.any (eqU x) by simp,ia r fs]
  exact q
theorem ax:dZ X (.builtin "len") (λxs H Q=>∃p ys,xs=[.ref p]/\(SqL X.K H p ys\/SqT X.K H p ys)/\Q (.int ys.length) H):=by
 intro pins s σ H xs us Q I r h
 obtain⟨p,ys,rfl,hq,q⟩:=h
 obtain⟨u,rfl,rx⟩:=ft r
 cases rx
 have hn:=gC
 rcases hq with hq|hq
 ·obtain⟨its,r',pl,hz⟩:=I.list hq
  have hlen:=r'.length
  exact Calls.call_len_list pl.isList (by simp only[Α]<;>omega) ⟨.int ys.length,H,I.tok _,⟨s.toks+1,by rw[Α,hlen]⟩,q⟩
 ·obtain⟨its,r',pl,hz⟩:=I.tuple hq
  have hlen:=r'.length
  exact len_tuple pl (by simp only[Α]<;>omega) ⟨.int ys.length,H,I.tok _,⟨s.toks+1,by rw[Α,hlen]⟩,q⟩
theorem bw:dZ X (.builtin "len") (λxs H Q=>∃z,xs=[.str z]/\z.length<=sizeLine/\Q (.int z.length) H):=by
 intro pins s σ H xs us Q I r h
 obtain⟨z,rfl,hz,q⟩:=h
 obtain⟨u,rfl,t,rfl⟩:=ft r
 have hn:=gC
 exact len_str () ⟨.int z.length,H,I.tok _,⟨_,rfl⟩,q⟩
theorem bo:dZ X (.type "tuple") (λxs H Q=>∃p ys,xs=[.ref p]/\((SqL X.K H p ys/\∀l,H l=none->Q (.ref l) (upd H l (.tup ys)))\/(SqT X.K H p ys/\Q (.ref p) H))):=by
 intro pins s σ H xs us Q I r h
 obtain⟨p,ys,rfl,h⟩:=h
 obtain⟨u,rfl,rx⟩:=ft r
 cases rx
 rcases h with ⟨hq,q⟩|⟨hq,q⟩
 ·obtain⟨its,r',pl,hz⟩:=I.list hq
  have hlen:=r'.length
  refine call_tuple_list pl.isList (λh' kp=>?_) (by simp only[Α]<;>omega)
  have I1:Inv X pins σ H {s with heap:=h'}:=I.kept (t':=s.toks) kp
  have I2:Inv X pins σ (upd H h'.objs.size (.tup ys)) {s with heap:=h'.push {cls:=.type "tuple",data:=.seq its.toArray} }:=
   I1.laid (t':=s.toks) (λb o e=>μ _ e) (θ _) (show bG X.prog X.w _ _ _ (.tup ys)from⟨hz,its,r',HS _ _,NoD.new _ rfl⟩)
  exact⟨.ref h'.objs.size,_,I2,rfl,q _ (I1.hok.fresh (θ _))⟩
 ·obtain⟨its,r',pl,hz⟩:=I.tuple hq
  exact call_tuple_same pl ⟨.ref p,H,I,rfl,q⟩
def tyV(K:ζ)(T:String)(x:V)(H:Hp):Prop:=match x with
 |.str _=>T="str"
 |.int _=>T="int"
 |.ref p=>(T="list"/\∃xs,SqL K H p xs)\/(T="tuple"/\∃o,K.lookup p=some o/\o.cls=.type "tuple"/\o.dict=none) \/
   (T="dict"/\((∃kvs,H p=some (.dK kvs))\/∃kvs,H p=some (.dT kvs)))\/(T="set"/\∃S n,H p=some (.set S n))
 |_=>False
theorem xT{pins:List (Addr×Obj)}{σ:St}{H:Hp}{s:η}{T:String}{x:V}{v:ε}(I:Inv X pins σ H s)(r:aL x v)(ty:tyV X.K T x H):
  s.TypeIs v T/\∀a,v=.ref a->∃ob,s.heap.get? a=some ob/\ob.dict=none:=by
 cases x with
 |str z=>
  obtain⟨t,rfl⟩:=r
  cases(show T="str" from ty)
  exact⟨E4 s z t,λ_ e=>nomatch e⟩
 |int i=>
  obtain⟨t,rfl⟩:=r
  cases(show T="int" from ty)
  exact⟨typeIs_int s i t,λ_ e=>nomatch e⟩
 |ref p=>
  cases r
  rcases ty with ⟨rfl,xs,hq⟩|⟨rfl,o,hk,hc,hd⟩|⟨rfl,hk⟩|⟨rfl,S,n,hk⟩
  ·obtain⟨its,_,pl,_⟩:=I.list hq
   refine⟨pl.isList.typeIs,λa e=>?_⟩
   cases e
   obtain⟨o,n,e,c,hd,_⟩:=pl
   exact⟨o,e,hd⟩
  ·refine⟨⟨o,I.kIn p o hk,hc⟩,λa e=>?_⟩
   cases e
   exact⟨o,I.kIn _ o hk,hd⟩
  ·have z:∃o,s.heap.get? p=some o/\o.ExactDict:=by
    rcases hk with ⟨kvs,hk⟩|⟨kvs,hk⟩
    ·obtain⟨_,_,_,_,o,_,_,e,ex,_⟩:=I.hok p _ hk
     exact⟨o,e,ex⟩
    ·obtain⟨_,_,_,_,o,_,_,e,ex,_⟩:=I.hok p _ hk
     exact⟨o,e,ex⟩
   obtain⟨o,e,ex⟩:=z
   refine⟨⟨o,e,ex.1⟩,λa e2=>?_⟩
   cases e2
   exact⟨o,e,ex.2.1⟩
  ·obtain⟨o,_,_,_,e,ex,_⟩:=I.hok p _ hk
   refine⟨⟨o,e,ex.1⟩,λa e2=>?_⟩
   cases e2
   exact⟨o,e,ex.2.1⟩
 |_=>exact ϟ ty
def Fn(K:ζ)(T:String)(r:V->List V->Hp->VK->Prop)(to:TE):TE:=λσ H Q=>to σ H λx H1=>tyV K T x H1/\r x [] H1 Q
def tBM(K:ζ)(T:String)(r:V->List V->Hp->VK->Prop)(to:TE)(t:TA):TE:=λσ H Q=>to σ H λx H1=>tyV K T x H1/\t σ H1 λxs H2=>r x xs H2 Q
variable{o e:Expr}{es:List Expr}{to:TE}{t:TA}{name:Str}{apos cpos:Pos}{T id:String}{r:V->List V->Hp->VK->Prop}
theorem pe_bm0(pa:PlainAttrs T)(slot:Slot T name id)(hty:typeOf (.builtin id)=pure (.type "method_descriptor"))(hm:MtR X id r)(ho:PE X o to)
  (hbase:attributeBase o name X.env (eval o X.env)=eval o X.env:=by rfl) (hline:(apos.endLine==cpos.line)=true:=by rfl):PE X (.Call (.Attribute o name apos) [] [] cpos) (Fn X.K T r to):=by
 intro pins s σ H Q I h
 refine wpAny_Call_method0_late hbase hline (thn (ho pins s σ H _ I h) λv s1 ⟨x,H1,I1,r1,ty,q1⟩=>?_)
 obtain⟨h1,h2⟩:=xT I1 r1 ty
 exact⟨T,id,pa,slot,hty,h1,h2,FY rfl (PySem.evalArgs_none (hm pins s1 σ H1 x [] v [] Q I1 r1 .nil q1))⟩
theorem pe_bm(pa:PlainAttrs T)(slot:Slot T name id)(hty:typeOf (.builtin id)=pure (.type "method_descriptor"))(hm:MtR X id r)(ho:PE X o to)(ha:PA X (e::es) t)
  (hbase:attributeBase o name X.env (eval o X.env)=eval o X.env:=by rfl)
  (hfew:((backTo cpos (starEach (e::es) X.env)).all (λx=>!x.1)&&(backToKw cpos (keywordEach [] X.env)).all (λx=>x.1.isSome)
   && decide ((e::es).length+([]:List Keyword).length+(if ([]:List Keyword).isEmpty then 0 else 1)<30))=true:=by rfl)
  (hline:(apos.endLine==cpos.line)=true:=by rfl) (hs:starEach (e::es) X.env=(false,eval e X.env)::starEach es X.env:=by rfl) (hplain:(backTo cpos (starEach es X.env)).any (·.1)=false:=by rfl):
  PE X (.Call (.Attribute o name apos) (e::es) [] cpos) (tBM X.K T r to t):=by
 intro pins s σ H Q I h
 refine wpAny_Call_method_late hbase hfew hline rfl (thn (ho pins s σ H _ I h) λv s1 ⟨x,H1,I1,r1,ty,q1⟩=>?_)
 obtain⟨h1,h2⟩:=xT I1 r1 ty
 refine⟨T,id,pa,slot,hty,h1,h2,?_⟩
 have hA:=ha cpos pins s1 σ H1 _ I1 q1
 rw[hs]at hA⊢
 refine FY (by show(false||(backTo cpos (starEach es X.env)).any (·.1))=false;rw[hplain]<;>rfl) (Calls.evalArgs_plain ?_)
 exact thn hA λus s2 ⟨vs,H2,I2,r2,q2⟩=>hm pins s2 σ H2 x vs v us Q I2 r1 r2 q2
end
def MtM(X:Cx)(id:String)(r:V->List V->Hp->VK->Prop):Prop:=
 ∀(pins:List (Addr×Obj))(s:η)(σ:St)(H:Hp)(x:V)(xs:List V)(v:ε)(us:List ε)(Q:VK),Inv X pins σ H s->aL x v->aw xs us->r x xs H Q ->
  wpAny (model X.prog X.w) X.A (call (.builtin id) (v::us)) (EP X pins σ Q) X.xe s
theorem aw.one:∀{x:V}{us:List ε},aw [x] us->∃u,us=[u]/\aL x u
 |_,_,.cons r .nil=>⟨_,rfl,r⟩
theorem aw.zero:∀{us:List ε},aw [] us->us=[]
 |_,.nil=>rfl
theorem aw.dropLast{xs:List V}{us:List ε}(h:aw xs us):aw xs.dropLast us.dropLast:=by
 induction h with
 |nil=>exact .nil
 |cons r t ih=>
  cases t with
  |nil=>exact .nil
  |cons q t'=>exact .cons r ih
theorem aw.rep{xs:List V}{us:List ε}(h:aw xs us):∀k:Nat,aw (ϓ k xs).flatten (ϓ k us).flatten
 |0=>.nil
 |k+1=>by
  rw[A1,A1,FZ,FZ]
  exact aw.append h (aw.rep h k)
theorem tT{α:Type}(l:List α):l.eraseIdx (l.length-1)=l.dropLast:=by
 induction l with
 |nil=>rfl
 |cons a r ih=>
  cases r with
  |nil=>rfl
  |cons b r=>
   have e:(a::b::r).length-1=((b::r).length-1)+1:=by
    have h1:(a::b::r).length=r.length+2:=rfl
    have h2:(b::r).length=r.length+1:=rfl
    omega
   rw[e,List.eraseIdx_cons_succ,ih]
   all_goals rfl
theorem nz(its:List ε):∀(k:Nat)(acc:List ε),
  HV (λx1 x2=>x1++x2) acc.toArray (ϓ k its.toArray)=(acc++(ϓ k its).flatten).toArray
 |0,acc=>by simp
 |k+1,acc=>by
  have e:acc.toArray++its.toArray=(acc++its).toArray:=by simp
  have e2:(acc++its)++(ϓ k its).flatten=acc++(ϓ (k+1) its).flatten:=by
   rw[A1,FZ,Ϣ]
  rw[<-e2,<-nz its k (acc++its),<-e,A1,List.foldl_cons]
section
variable{X:Cx}{pins:List (Addr×Obj)}{σ:St}{H:Hp}{s:η}{l b:Addr}{xs ys zs:List V}
theorem Inv.lset{its its':List ε}{n:Nat}{f:Array ε->Array ε}{t':Nat}(I:Inv X pins σ H s)(hH:H l=some (.lst xs))
  (e:s.heap.get? l=some {cls:=.type "list",data:=.seq its.toArray n}) (hf:f its.toArray=its'.toArray) (hv:aw ys its') (hz:ys.length<=sizeLine):
  Inv X pins σ (upd H l (.lst ys)) {s with heap:=s.heap.update l (GP f),toks:=t'}:=by
 have q:=PySem.IsL.update e f
 rw[hf]at q
 refine I.write (x:=l) (e:=l) (by rw[hH];exact trivial) (.inl rfl) (λb' u hb hu=>(ϗ s.heap (GP f) (ϛ hb)).trans hu) ⟨_,q⟩ ?_
 exact⟨hz,its',_,hv,q⟩
theorem Inv.lnew{its:List ε}{t':Nat}(I:Inv X pins σ H s)(hv:aw ys its)(hz:ys.length<=sizeLine):
  Inv X pins σ (upd H s.heap.objs.size (.lst ys)) {s with heap:=s.heap.push {cls:=.type "list",data:=.seq its.toArray},toks:=t'}:=
 I.laid (λ_ _ q=>μ _ q) (θ _) ⟨hz,its,0,hv,Β _ rfl⟩
theorem Inv.fresh(I:Inv X pins σ H s):H s.heap.objs.size=none:=I.hok.fresh (θ _)
theorem Inv.lstM(I:Inv X pins σ H s)(hH:H l=some (.lst xs)):xs.length<=sizeLine/\∃(its:List ε) (n:Nat),aw xs its/\xs.length=its.length/\s.heap.get? l=some {cls:=.type "list",data:=.seq its.toArray n}:=by
 obtain⟨z,its,n,r,e⟩:=I.hok l _ hH
 exact⟨z,its,n,r,r.length,e⟩
theorem lc{n:Nat}(h:n<=sizeLine):i8 n=false:=by
 unfold i8
 exact Q8 ()
end
section
variable{X:Cx}
def ow:V->List V->Hp->VK->Prop:=λx vs H Q=>∃l xs y,x=.ref l/\vs=[y]/\H l=some (.lst xs)/\xs.length<sizeLine/\Q .non (upd H l (.lst (xs++[y])))
theorem cD:MtM X "list.append" ow:=by
 intro pins s σ H x vs v us Q I rx rv h
 obtain⟨l,xs,y,rfl,rfl,hH,hz,q⟩:=h
 cases rx
 obtain⟨u,rfl,ru⟩:=rv.one
 obtain⟨z,its,n,r,hl,e⟩:=I.lstM hH
 refine y_ F.slot_list_append ⟨_,e,rfl⟩ F.entry_list_append (F.args_list_append_2 _ _) (PySem.list_append l its.toArray n u (by rw[Α];omega)) ⟨e,?_⟩
 refine⟨.non,_,I.lset (its':=its++[u]) hH e () (r.append (.cons ru .nil)) ?_,rfl,q⟩
 rw[Ε,i7]
 omega
def AQ:V->List V->Hp->VK->Prop:=λx vs H Q=>∃l b xs zs,x=.ref l/\vs=[.ref b]/\H l=some (.lst xs)/\H b=some (.lst zs)/\xs.length+zs.length<=sizeLine/\Q .non (upd H l (.lst (xs++zs)))
theorem mw:MtM X "list.extend" AQ:=by
 intro pins s σ H x vs v us Q I rx rv h
 obtain⟨l,b,xs,zs,rfl,rfl,hH,hB,hz,q⟩:=h
 cases rx
 obtain⟨u,rfl,ru⟩:=rv.one
 cases ru
 obtain⟨z,its,n,r,hl,e⟩:=I.lstM hH
 obtain⟨z2,its2,n2,r2,hl2,e2⟩:=I.lstM hB
 have hsz:its.toArray.size+its2.toArray.size<=sizeLine:=by rw[Α,Α];omega
 have hlong:¬ (!its.toArray.isEmpty&&i8 (its.toArray.size+its2.toArray.size))=true:=by
  rw[lc hsz,GQ]
  exact Ζ
 refine y_ F.slot_list_extend ⟨_,e,rfl⟩ F.entry_list_extend (F.args_list_extend_2 _ _)
  (AutoSeq1.list_extend_list_list_0 l its.toArray n b its2.toArray n2 hlong (by rw[Α];omega) ()) ⟨e,e2,?_⟩
 refine⟨.non,_,I.lset (its':=its++its2) hH e () (r.append r2) ?_,rfl,q⟩
 rw[Ε]
 omega
def FE:V->List V->Hp->VK->Prop:=λx vs H Q=>∃l xs y,x=.ref l/\vs=[]/\H l=some (.lst xs)/\xs[xs.length-1]?=some y/\Q y (upd H l (.lst xs.dropLast))
theorem xX:MtM X "list.pop" FE:=by
 intro pins s σ H x vs v us Q I rx rv h
 obtain⟨l,xs,y,rfl,rfl,hH,hy,q⟩:=h
 cases rx
 have hus:=rv.zero
 subst hus
 obtain⟨z,its,n,r,hl,e⟩:=I.lstM hH
 obtain⟨u,hu,ru⟩:=r.get hy
 have hy':its.toArray[its.toArray.size-1]?=some u:=by
  show its.toArray[its.length-1]?=some u
  rw[<-Array.getElem?_toList,<-hl]
  exact hu
 refine y_ F.slot_list_pop ⟨_,e,rfl⟩ F.entry_list_pop (F.args_list_pop_1 _) (MeetsSeq.list_pop_last l its.toArray n u hy' (by rw[Α];omega)) ⟨e,?_⟩
 refine⟨y,_,I.lset (its':=its.dropLast) hH e ?_ r.dropLast ?_,ru,q⟩
 ·show its.toArray.eraseIdxIfInBounds (its.toArray.size-1)=its.dropLast.toArray
  rw[Α,List.eraseIdxIfInBounds_toArray,tT]
 ·rw[List.length_dropLast]
  omega
def Fq:R2:=λx y H Q=>∃l b xs zs,x=.ref l/\y=.ref b/\H l=some (.lst xs)/\H b=some (.lst zs)/\xs.length+zs.length<=sizeLine/\∀p,H p=none->Q (.ref p) (upd H p (.lst (xs++zs)))
theorem aQ:OpR X (binaryOp .Add) Fq:=by
 intro pins s σ H x y v u Q I rx ry h
 obtain⟨l,b,xs,zs,rfl,rfl,hH,hB,hz,q⟩:=h
 cases rx
 cases ry
 obtain⟨z,its,n,r,hl,e⟩:=I.lstM hH
 obtain⟨z2,its2,n2,r2,hl2,e2⟩:=I.lstM hB
 refine PySem.P.add_list e e2 ?_ (by rw[Α,Α];omega)
 have ea:its.toArray++its2.toArray=(its++its2).toArray:=by simp
 rw[ea]
 exact⟨.ref _,_,I.lnew (t':=s.toks) (r.append r2) (by rw[Ε];omega),rfl,q _ I.fresh⟩
def Fs:R2:=λx y H Q=>∃l k xs,x=.ref l/\y=.int k/\H l=some (.lst xs)/\-(2^63)<=k/\k<2^63/\xs.length*k.toNat<=sizeLine /\
 ∀p,H p=none->Q (.ref p) (upd H p (.lst (ϓ k.toNat xs).flatten))
theorem zQ{α:Type}(xs:List α)(k:Nat):(ϓ k xs).flatten.length=k*xs.length:=by
 induction k with
 |zero=>simp
 |succ k ih=>rw[A1,FZ,Ε,ih,Nat.succ_mul,Nat.add_comm]
theorem CZ:OpR X (binaryOp .Mult) Fs:=by
 intro pins s σ H x y v u Q I rx ry h
 obtain⟨l,k,xs,rfl,rfl,hH,h1,h2,hz,q⟩:=h
 cases rx
 obtain⟨t,rfl⟩:=ry
 obtain⟨z,its,n,r,hl,e⟩:=I.lstM hH
 have hlen:its.toArray.size*k.toNat<=sizeLine:=by rw[Α,<-hl];exact hz
 have hcap:¬ its.toArray.size*k.toNat>(2^63-1)/8:=by
  have:(sizeLine:Nat)<=(2^63-1)/8:=by decide
  omega
 have hfit:¬ (!Builtin.List.listFitsIndex k)=true:=by
  rw[fitsIndex_both h1 h2]
  exact Ζ
 have hlong:¬ i8 (its.toArray.size*k.toNat)=true:=by
  rw[lc hlen]
  exact Ζ
 have hnew:HV (λx1 x2=>x1++x2) #[] (ϓ (if its.toArray.isEmpty=true then 0 else k.toNat) its.toArray)=(ϓ k.toNat its).flatten.toArray:=by
  have f0:∀m:Nat,HV (λx1 x2=>x1++x2) #[] (ϓ m its.toArray)=(ϓ m its).flatten.toArray:=λm=>by
   have:=nz its m []
   rw[Ϭ]at this
   exact this
  rw[f0]
  cases its with
  |nil=>simp
  |cons a r'=>rw[Q6 ()]
 refine wpAny_binaryOp_repeat_ref (T:="list") (U:="int") () ⟨_,e,rfl⟩ (λs'=>typeIs_int s' k t) noFill_list_mul F.fills_int_mul F.slot_int_rmul repeat_list F.slot_int_index.lookup
  (y_ F.slot_int_rmul (typeIs_int s k t) F.entry_int_rmul (F.args_int_rmul_2 _ _) (int___rmul___int_list k t l its.toArray n)
   ⟨e,rfl,⟨_,e,rfl⟩,y_ F.slot_list_mul ⟨_,e,rfl⟩ F.entry_list_mul (F.args_list_mul_2 _ _) (AutoListH.list___mul___list_int_3 l its.toArray n k t hfit hcap hlong) ⟨e,?_⟩⟩)
 rw[hnew]
 exact⟨.ref _,_,I.lnew (t':=s.toks) (r.rep k.toNat) (by rw[zQ,Nat.mul_comm];exact hz),rfl,q _ I.fresh⟩
end
section
variable{prog:υ}{w:Κ}{A:Υ}{E:ε->η->Prop}{s:η}
end
section
variable{X:Cx}
end
end L2
namespace Att
open PySem PySem.W PySem.Calls PyProof.Rows
theorem jG{P:Params}{h:Heap}:∀(ns:List Int)(vs:List ε),WellAll P h vs (ns.map WData.int)->IntsAre vs ns:=by
 intro ns
 induction ns with
 |nil=>
  intro vs w
  rw[i9]at w
  cases w
  exact .nil
 |cons n ns ih=>
  intro vs w
  rw[Μ]at w
  cases w with
  |cons a b=>
   cases a
   exact .cons _ _ (ih _ b)
theorem wc{l:OpenLaw}{n:Nat}(hn:l.most=some n){P:Params}{h:Heap}{args:List WData}{vals:List ε}
  (hpre:l.row.toRowW.claim.pre args=true) (hwl:WellAll P h vals args):
  ∃a vs ns,vals=[Λ a]/\args=[WData.list (ns.map WData.int)]/\h.get? a=some {cls:=.type "list",data:=.seq vs.toArray}/\IntsAre vs ns/\ns.length<=n:=by
 have hsh:WShape.hasAll [] args [.list .int]=true:=(pre_splitW hpre).1
 have hc:l.pre.holds [] {args:=args}=true:=(pre_splitW hpre).2
 obtain⟨d,r,rfl,h1,h2⟩:=hasAllW_cons hsh
 obtain rfl:=hasAllW_nil h2
 obtain⟨xs,rfl,h3⟩:=hasW_list h1
 obtain⟨ns,rfl⟩:=items_int h3
 have hlen:ns.length<=n:=by
  unfold OpenLaw.pre at hc
  have h4:(WTm.not (.lt (.lit (.int (n:Int))) (.len (.arg 0)))).holds [] {args:=[.list (ns.map .int)]}=true:=by
   have h4:=(holds_andW hc).1
   rw[hn]at h4
   exact h4
  have h5:=condW_of h4 (w_not (w_lt w_lit (w_len_list (w_arg rfl))))
  rw[ς]at h5
  refine Nat.le_of_not_lt λq=>?_
  have q':(n:Int)<((ns.length:Nat):Int):=by omega
  first
   |(rw[Q9 q']at h5;exact absurd h5 ())
   |(simp at h5;omega)
 cases hwl with
 |cons w1 w2=>
  cases w2
  cases w1 with
  |list ho hall=>exact⟨_,_,ns,rfl,rfl,ho,jG ns _ hall,hlen⟩
theorem wj(l:OpenLaw)(args:List WData):l.row.toRowW.claim.post args (.bool true) args=true:=
 postW_of (r:=l.row.toRowW) (X:=(true==true))
  (show WShape.has [] (.bool true) .bool=true by first|rfl|decide|simp[WShape.has,WShape.arms,WShape.armsAll])
  (show(WTm.eq .res (.lit (.bool true))).value [] {args:=args,res:=some (.bool true),after:=args}=some (.bool (true==true))from w_eq_bool (w_res rfl) w_lit) rfl
theorem attach_call{l:OpenLaw}{n:Nat}{q:υ}{loose:List Str}{XP:(Str->Option ε)->Heap->Prop}{YP:Κ->Heap->Prop}{d:DefRec}
  (hn:l.most=some n) (hdf:d.params.defaults=[])
  (call:∀(w:Κ)(s₀ s₁:η)(mg mb:Str->Option ε)(fa:Addr)(o:Obj)(pm cd doc:ε)(a:Addr)(vs:List ε)(ns:List Int),
   Ground q loose [] XP w s₀ mg mb s₁.heap->YP w s₁.heap ->
   s₁.heap.get? fa=some o->o.data=.func (docDef d.name d.params d.body d.scope pm cd doc)->s₁.heap.CodeRec cd d.name->mg d.name=some (.ref fa) ->
   s₁.heap.get? a=some {cls:=.type "list",data:=.seq vs.toArray}->IntsAre vs ns->ns.length<=n->s₁.gens=#[] ->
   codeAny (model l.prog w) callerA (.call (.ref fa) ⟨[.ref a],[]⟩) (λr s'=>r=.ok (.ret (.bool true))/\OldK s₁.heap s'.heap/\s'.os=s₁.os/\GC s'.gens) s₁):
  WalkO q loose XP YP l.row.toRowW d [] (λf vs=>PySem.call f vs):=by
 intro w s₀ s₁ mg mb G Y fa o pm cd doc dV kV ho hd hcd hD hmg hg args vals as hpre hlay hrd hwl hlo
 obtain rfl:dV=.none:=Dflts.none hD hdf
 obtain rfl:kV=.none:=Dflts.noKw hD
 obtain⟨a,vs,ns,rfl,rfl,hobj,hints,hlen⟩:=wc hn hpre hwl
 refine enter_call (A6 (call w s₀ s₁ mg mb fa o pm cd doc a vs ns G Y ho (fd_plain hd) hcd hmg hobj hints hlen hg) λr s' hq=>?_)
 obtain⟨rfl,h2,h3,h4⟩:=hq
 exact⟨.inl ⟨.bool true,.bool true,[],rfl,λ_=>rfl,.bool true,wj l _,λ_=>⟨List.Pairwise.nil,λ_ hm=>(nomatch hm)⟩⟩,h2,h3,h4⟩
section
variable{prog:υ}{w:Κ}{A:Υ}{E:ε->η->Prop}{s:η}{K:Frag}
end
end Att
namespace L2
open PySem PySem.Spec PyProof.Rows
theorem mT:∀{vs:List ε}{ns:List Int},IntsAre vs ns->aw (ns.map V.int) vs
 |_,_,.nil=>.nil
 |_,_,.cons n t h=>.cons ⟨t,rfl⟩ (mT h)
def Dg(H:Hp):Prop:=∀b,H b=none\/∃o xs,H b=some (.frz o (.lst xs))
theorem yd{P:υ}{w:Κ}{K:ζ}{mg mb:Str->Option ε}{CX:CXT}{k:Nat}{fa a:Addr}{fd:Γ}{x:Str}{sp:Sp}{s₁:η}{vs:List ε}{ns:List Int}
  (KX:K.In s₁.heap) (hns:s₁.heap.Ns mainGlobals mg) (hb:s₁.heap.Ns builtinsNs mb) (hbb:∀x:Str,x≠"__name__"->mb x=bootBuiltins x) (hlim:s₁.heap.NoLimit) (hg:s₁.gens=#[])
  (ha:s₁.heap.get? a=some {cls:=.type "list",data:=.seq vs.toArray}) (hi:IntsAre vs ns) (hl:ns.length<=sizeLine) (hr:bT k callerA)
  (F:∀base:Heap,K.In base->base.Ns mainGlobals mg->ap P w K mg base CX k fa fd [x] sp) (hbind:∀(s:η)(u:ε),Hu s fd ⟨[u],[]⟩ [(x,u)])
  (hsp:∀H:Hp,Dg H->SqL K H a (ns.map V.int)->sp [.ref a] H (λv _=>v=.bl true) λ_ _ _=>False)
  (hCX:∀H e s',CX [] H s₁ (λ_ _ _=>False) e s'->False):
  codeAny (model P w) callerA (.call (.ref fa) ⟨[.ref a],[]⟩) (λr s'=>r=.ok (.ret (.bool true))/\OldK s₁.heap s'.heap/\s'.os=s₁.os/\GC s'.gens) s₁:=by
 have rv:=mT hi
 have lenV:=hi.length
 have core:∀H:Hp,Dg H->SqL K H a (ns.map V.int)->HOk P w H s₁.heap->(∀b,H b≠none->b=a)->(H a≠none->K.lookup a=none) ->
   codeAny (model P w) callerA (.call (.ref fa) ⟨[.ref a],[]⟩) (λr s'=>r=.ok (.ret (.bool true))/\OldK s₁.heap s'.heap/\s'.os=s₁.os/\GC s'.gens) s₁:=by
  intro H hO hS hok hA hK
  have base_of:∀{b:Addr}{o:Obj},s₁.heap.get? b=some o->H b=none->(oz s₁.heap H).get? b=some o:=λe n=>yk e n
  have noA:∀{b:Addr}{o:Obj}{es:Array Gc}{ep:Nat},s₁.heap.get? b=some o->o.data=.dict es ep->H b=none:=λ{b o es ep} e d=>by
   cases q:H b with
   |none=>rfl
   |some u=>
    have e':b=a:=hA b (by rw[q];simp)
    subst e'
    rw[ha]at e;cases e
    have d':HY vs.toArray _=Data.dict es ep:=d
    cases d'
  have nsK:∀{b:Addr}{m:Str->Option ε},s₁.heap.Ns b m->(oz s₁.heap H).Ns b m:=λ{b m} ⟨o,es,ep,e,d,r⟩=>⟨o,es,ep,base_of e (noA e d),d,r⟩
  have hKb:K.In (oz s₁.heap H):=λb o e=>base_of (KX b o e) (by
   cases q:H b with
   |none=>rfl
   |some u=>
    have e':b=a:=hA b (by rw[q];simp)
    subst e'
    rw[hK (by rw[q];simp)]at e;cases e)
  have hM:Mod K mg (oz s₁.heap H):=⟨hKb,nsK hns,⟨mb,nsK hb,hbb⟩,let ⟨mc,h1,h2⟩:=hlim;⟨mc,nsK h1,h2⟩⟩
  have e0:nE P w K mg (oz s₁.heap H) callerA [] s₁ H:=⟨rfl,hM,λb o e=>AU e,Nat.le_of_eq (wY _ _),trivial,λb hb=>absurd (show b∈([]:List Addr)from hb) (),hok,.of_eq hg⟩
  refine A6 ((F _ hKb (nsK hns)).run callerA [] s₁ H ⟨[.ref a],[]⟩ [.ref a] [.ref a] _ _ hr e0 (hbind s₁ (.ref a)) (.cons rfl .nil) (hsp H hO hS)) λr s' h=>?_
  cases r with
  |error e=>exact(hCX H e s' h).elim
  |ok fl=>
   cases fl with
   |next=>exact ϟ h
   |brk=>exact ϟ h
   |cont=>exact ϟ h
   |ret u=>
    obtain⟨v,H',os,bare,un,hok',r',q⟩:=h
    have q':v=.bl true:=q
    subst q'
    obtain rfl:u=E2 true:=r'
    refine⟨rfl,OldK.of_keep λb o e=>?_,os,bare⟩
    cases q:H b with
    |none=>exact un.keep b o e q (by intro z;exact absurd (show b∈([]:List Addr)from z) ()) ()
    |some u=>
     rcases hO b with z|⟨ob,xs,z⟩
     ·rw[q]at z;cases z
     ·have z2:=un.frzs b ob _ z
      obtain⟨e1,_⟩:=hok b _ z
      obtain⟨e2,_⟩:=hok' b _ z2
      rw[e]at e1;cases e1
      exact e2
 cases hk:K.lookup a with
 |some o=>
  have e:=KX a o hk
  rw[ha]at e
  cases e
  refine core (λ_=>none) (λ_=>.inl rfl) (.inr ⟨_,vs.toArray,_,hk,rfl,rfl,rfl,by rw[Α,lenV];exact hl,by simpa using rv⟩) (λb u z=>by have z':(none:Option HO)=some u:=z;cases z') (λb z=>absurd rfl z) λz=>absurd rfl z
 |none=>
  refine core (λb=>if b=a then some (.frz {cls:=.type "list",data:=.seq vs.toArray} (.lst (ns.map V.int)))else none) (λb=>?_) (.inl (.inr ⟨{cls:=.type "list",data:=.seq vs.toArray},Q5 rfl⟩)) (λb u z=>?_) (λb z=>?_) λ_=>hk
  ·by_cases hb:b=a
   ·exact .inr ⟨_,_,Q5 hb⟩
   ·exact .inl (Q6 hb)
  ·by_cases hb:b=a
   ·have z':=(Q5 hb).symm.trans z
    cases z'
    subst hb
    exact⟨ha,by rw[ς];exact hl,vs,_,rv,ha⟩
   ·have z':=(Q6 hb).symm.trans z
    cases z'
  ·by_cases hb:b=a
   ·exact hb
   ·exact absurd (Q6 hb) z
theorem walk_of{l:HJ}{n k:Nat}{q:υ}{loose:List Str}{XP:(Str->Option ε)->Heap->Prop}{YP:Κ->Heap->Prop}{d:DefRec}{K:Params->ζ}{CX:Κ->CXT}{sp:Κ->Sp}{x:Str}
  (hn:l.most=some n) (hn2:n<=sizeLine) (hdf:d.params.defaults=[]) (hr:bT k callerA)
  (hY:∀(w:Κ)(h:Heap),YP w h->(K w.params).In h)
  (F:∀(w:Κ)(mg:Str->Option ε)(fa:Addr)(h:Heap),(K w.params).In h->h.Ns mainGlobals mg->mg d.name=some (.ref fa) ->
   ∃fd:Γ,(∀(s:η)(u:ε),Hu s fd ⟨[u],[]⟩ [(x,u)]) /\
    ∀base:Heap,(K w.params).In base->base.Ns mainGlobals mg->ap l.prog w (K w.params) mg base (CX w) k fa fd [x] (sp w))
  (hsp:∀(w:Κ)(H:Hp)(a:Addr)(ns:List Int),ns.length<=n->Dg H->SqL (K w.params) H a (ns.map V.int)->sp w [.ref a] H (λv _=>v=.bl true) λ_ _ _=>False)
  (hCX:∀(w:Κ)(H:Hp)(s:η)(e:ε)(s':η),CX w [] H s (λ_ _ _=>False) e s'->False):
  PySem.W.WalkO q loose XP YP l.row.toRowW d [] (λf vs=>PySem.call f vs):=by
 refine Att.attach_call hn hdf λw s₀ s₁ mg mb fa o pm cd doc a vs ns G Y ho hd hcd hmg hobj hints hlen hg=>?_
 have KX:=hY w _ Y
 obtain⟨fd,hb,hF⟩:=F w mg fa _ KX G.T.g hmg
 exact yd KX G.T.g G.T.b G.T.builtins G.T.nolimit hg hobj hints (ϕ hlen hn2) hr hF hb (λH hO hS=>hsp w H a ns hlen hO hS) λH e s'=>hCX w H s₁ e s'
def bE(s:Stmt):Arguments:=match s with
 |.FunctionDef _ a _ _ _ _ _ _ _ _=>a
 |_=>{posonlyargs:=[],args:=[],vararg:=none,kwonlyargs:=[],kw_defaults:=[],kwarg:=none,defaults:=[]}
def bc(s:Stmt):List Stmt:=match s with
 |.FunctionDef _ _ b _ _ _ _ _ _ _=>b
 |_=>[]
def af(s:Stmt):C3:=match s with
 |.FunctionDef _ _ _ _ _ _ sc _ _ _=>sc
 |_=>{kind:=.function,names:=[],isGenerator:=false,isCoroutine:=false}
abbrev CX0:CXT:=λ_ _ _ _ _ _=>False
abbrev E0:XK:=λ_ _ _=>False
theorem ce{X:Cx}:fb CX0 X E0:=λ_ _ _ _ _ _ _ h=>h.elim
structure Fun(K:ζ)(x qual:Str)(st:Stmt)(f:Addr)(fd:Γ):Prop where
 ex:∃(oc:ε) (od:Option Addr) (kV doc pm:ε) (an:Option Addr) (cdv ct:ε) (osl:Array (Option ε)),
  fd=ϻ x qual (bE st) (bc st) (af st) .none kV doc pm an cdv ct/\K.lookup f=some ⟨oc,od,.func fd,osl⟩/\m4 K cdv qual=true
 kp:ϒ K (.ref f)=true
section
variable{P:υ}{w:Κ}{K:ζ}{mg:Str->Option ε}{base:Heap}
theorem Fun.ok{x qual:Str}{st:Stmt}{f:Addr}{fd:Γ}{N ps:List Str}{k:Nat}{sp:Sp}(F:Fun K x qual st f fd)(S:am N ps (af st))(len:∀vs H Q E,sp vs H Q E->vs.length=ps.length)
  (hbody:∀(cdv:ε)(A:Υ)(outer:List Env)(s:η)(H:Hp)(vs:List V)(Q:VK)(E:XK),bT k (A.deeper (envOfC qual (af st) s.heap.objs.size f cdv))->sp vs H Q E ->
   ∃t,PSs (bf CX0 P w K mg base N qual (af st) f cdv A outer s H E).nox (bc st) t/\t {nx:=λ_ H'=>Q .non H',rt:=Q} (dw N vs) H):ap P w K mg base CX0 (k+1) f fd ps sp:=by
 obtain⟨oc,od,kV,doc,pm,an,cdv,ct,osl,rfl,lk,hcd⟩:=F.ex
 refine yb lk hcd S len λA outer s H vs Q E hr hsp=>?_
 obtain⟨t,h,q⟩:=hbody cdv A outer s H vs Q E hr hsp
 exact⟨t,h.nox,q⟩
theorem Fun.binds{x qual:Str}{st:Stmt}{f:Addr}{fd:Γ}{ps:List Str}(F:Fun K x qual st f fd)
  (h:∀(kV doc pm:ε)(an:Option Addr)(cdv ct:ε)(us:List ε),us.length=ps.length->bindArgs (ϻ x qual (bE st) (bc st) (af st) .none kV doc pm an cdv ct) ⟨us,[]⟩=pure (ps.zip us)):aU K fd ps []:=by
 obtain⟨oc,od,kV,doc,pm,an,cdv,ct,osl,rfl,lk,hcd⟩:=F.ex
 exact .all (h kV doc pm an cdv ct)
theorem ko{x qual:Str}{st:Stmt}{f:Addr}{oc:ε}{od an:Option Addr}{osl:Array (Option ε)}{kV doc pm cdv ct:ε}(l:K.lookup f=some ⟨oc,od,.func (ϻ x qual (bE st) (bc st) (af st) .none kV doc pm an cdv ct),osl⟩)
  (c:m4 K cdv qual=true) (k:ϒ K (.ref f)=true):Fun K x qual st f (ϻ x qual (bE st) (bc st) (af st) .none kV doc pm an cdv ct):=⟨⟨oc,od,kV,doc,pm,an,cdv,ct,osl,rfl,l,c⟩,k⟩
end
theorem wJ{n:Nat}(h:n<=1000):n<sizeLine:=Nat.lt_of_le_of_lt h ()
section
variable{X:Cx}
theorem pv(i:Nat){x:Str}{pos:Pos}(hN:X.N[i]?=some x:=by rfl)(hv:Vis X.env.scope x:=by first|exact Ν rfl|exact GT (Ν rfl)|exact GT (GT rfl))(hd:(x==("__debug__" : Str))=false:=by decide)
  (hcd:(x==("__classdict__" : Str))=false:=by decide):PE X (.Name x pos) (fY i):=yl hN hv hd hcd
end
theorem aI{A B:Prop}(h:B):if false=true then A else B:=by
 rw[Q6 Ζ]
 exact h
theorem aD{A B:Prop}(h:A):if true=true then A else B:=by
 rw[Q5 rfl]
 exact h
theorem av{c A B:Prop}[Decidable c](h1:c->A)(h2:¬ c->B):if c then A else B:=by
 by_cases h:c
 ·rw[Q5 h]
  exact h1 h
 ·rw[Q6 h]
  exact h2 h
theorem BC{c A B:Prop}[Decidable c](hc:c)(h:B):if (!decide c)=true then A else B:=by
 rw[Q9 hc]
 exact aI h
def aj(H H':Hp):Prop:=∀b o,H b=some o->H' b=some o
theorem aj.refl(H:Hp):aj H H:=λ_ _ h=>h
theorem aj.trans{H H1 H2:Hp}(a:aj H H1)(b:aj H1 H2):aj H H2:=λc o h=>b c o (a c o h)
theorem aj.seq{K:ζ}{H H':Hp}{a:Addr}{xs:List V}(e:aj H H')(h:SqL K H a xs):SqL K H' a xs:=by
 rcases h with (h|⟨o,h⟩)|h
 ·exact .inl (.inl (e _ _ h))
 ·exact .inl (.inr ⟨o,e _ _ h⟩)
 ·exact .inr h
section
variable{κ:Type}[DecidableEq κ]
end
theorem vH{prog:υ}{w:Κ}{A:Υ}{R:Ht->η->Prop}{s:η}{elt target iter:Expr}{ifs:List Expr}{scope:C3}{pos:Pos}{it acc:ε}{env:Env}(I:Nat->η->Prop)
  (turn:∀n s,I n s->wpAny (model prog w) A (pyNext it) (λr s₁=>match r with
   |none=>R (.ok .next) s₁
   |some v=>wpAny (model prog w) A (letOwnedTupleGo target it v) (λ_ s₁'=>wpAny (model prog w) A (assign target env v) (λ_ s₂=>
     wpAny (model prog w) A (forIn ifs true λc r=>if r=true then do let ok <-isTrue c env (eval c env);pure (A8 ok)else pure (A8 r)) (λok s₃=>
      if ok=true then wpAny (model prog w) A (eval elt env) (λx s₄=>
       wpAny (model prog w) A (call (.builtin "list.append") [acc,x]) (λ_ s₅=>∃m,m<n/\I m s₅) (λ_ _=>False) s₄) (λ_ _=>False) s₃
      else ∃m,m<n/\I m s₃) (λ_ _=>False) s₂) (λ_ _=>False) s₁') (λ_ _=>False) s₁) (λ_ _=>False) s)
  (n:Nat) (h:I n s):
  codeAny (model prog w) A (.compLoop (.ListComp elt [⟨target,iter,ifs,0⟩] scope pos) 0 it acc env) R s:=by
 refine codeAny_loop rfl I (λn s hI=>?_) n h
 show wpAny _ A ((compTurn (.ListComp elt [⟨target,iter,ifs,0⟩] scope pos) 0 it acc env).onRaise (λx=>do noteFrame x env;theTreesLotGoes x)) _ _ s
 refine wpAny_noted ?_
 rw[compTurn_list]
 have no:∀{E:ε->η->Prop}(x:ε)(s:η),False->E x s:=λ_ _ z=>z.elim
 refine δ (Gj (δ (ϴ (turn n s hI) (λr s₁ h₁=>?_) no)))
 cases r with
 |none=>exact ρ h₁
 |some v=>
  refine δ (ϴ h₁ (λ_ s₁' h₁'=>?_) no)
  refine δ (ϴ h₁' (λ_ s₂ h₂=>δ (ϴ h₂ (λok s₃ h₃=>?_) no)) no)
  cases ok with
  |false=>exact ρ ⟨rfl,h₃⟩
  |true=>
   exact δ (δ (ϴ h₃ (λx s₄ h₄=>δ (ϴ h₄ (λ_ s₅ h₅=>ρ (ρ ⟨rfl,h₅⟩)) no)) no))
def aJ(env:Env):List (Str×B6)->List (Str×Addr)->List (Str×Addr)
 |[],acc=>acc
 |(n,k)::r,acc=>if k=.free then aJ env r (match env.cells.lookup n with|some c=>(n,c)::acc|none=>acc)else aJ env r acc
theorem qX{env:Env}{scope:C3}(h:∀x∈scope.names,x.2=.free->∃c,env.cells.lookup x.1=some c):closureFor scope env=pure (aJ env scope.names []):=by
 have all:∀(l:List (Str×B6))(acc:List (Str×Addr)),(∀x∈l,x.2=Ω->∃c,env.cells.lookup x.1=some c) ->
   (forIn l acc λx cs=>(do
    if x.2==Ω then
     let a <-cellOf env x.1
     pure (A8 ((x.1,a)::cs))
    else pure (A8 cs):Sem _))=pure (aJ env l acc):=by
  intro l
  induction l with
  |nil=>intro acc _;rfl
  |cons x r ih=>
   intro acc hl
   obtain⟨n,k⟩:=x
   have hr:=λy hy=>hl y (π _ hy)
   rw[D0]
   by_cases hk:k=.free
   ·subst hk
    obtain⟨c,hc⟩:=hl (n,.free) ν rfl
    simp only[beq_self_eq_true,if_true,aJ]
    have e:cellOf env n=pure c:=by unfold cellOf;rw[show env.cells.lookup n=some c from hc]
    rw[e]
    simp only[pure_bind]
    rw[ih _ hr,show env.cells.lookup n=some c from hc]
   ·have hb:(k==Ω)=false:=by simpa using hk
    simp only[hb,Bool.false_eq_true,if_false,aJ,Q6 hk,pure_bind]
    exact ih _ hr
 unfold closureFor
 exact(congrArg (λt:Sem (List (Str×Addr))=>t>>=pure) (all scope.names [] h)).trans ()
theorem bj{env:Env}:∀(l:List (Str×B6))(acc:List (Str×Addr)),(∀n c,acc.lookup n=some c->env.cells.lookup n=some c)->∀n c,(aJ env l acc).lookup n=some c->env.cells.lookup n=some c
 |[],acc,h,n,c,e=>h n c e
 |(m,k)::r,acc,h,n,c,e=>by
  unfold aJ at e
  split at e
  ·refine bj r _ ?_ n c e
   intro n' c' e'
   split at e'
   ·rename_i c0 hc0
    rw[ϙ]at e'
    split at e'
    ·rename_i hb
     have:n'=m:=by simpa using hb
     subst this
     cases e'
     exact hc0
    ·exact h n' c' e'
   ·exact h n' c' e'
  ·exact bj r _ h n c e
theorem eG{env:Env}{n:Str}:∀(l:List (Str×B6))(acc:List (Str×Addr)),(∃c,acc.lookup n=some c)->∃c,(aJ env l acc).lookup n=some c
 |[],acc,h=>h
 |(m,k)::r,acc,h=>by
  unfold aJ
  split
  ·refine eG r _ ?_
   obtain⟨c,hc⟩:=h
   split
   ·rw[ϙ]
    split
    ·exact⟨_,rfl⟩
    ·exact⟨c,hc⟩
   ·exact⟨c,hc⟩
  ·exact eG r _ h
theorem cQ{env:Env}{n:Str}(hc:∃c,env.cells.lookup n=some c):∀(l:List (Str×B6))(acc:List (Str×Addr)),(n,Ω)∈l->∃c,(aJ env l acc).lookup n=some c
 |[],_,h=>by cases h
 |(m,k)::r,acc,h=>by
  obtain⟨c,hc⟩:=hc
  unfold aJ
  rcases ι.mp h with e|h
  ·cases e
   rw[Q5 rfl,hc]
   exact eG r _ ⟨c,()⟩
  ·split
   ·exact cQ ⟨c,hc⟩ r _ h
   ·exact cQ ⟨c,hc⟩ r _ h
def Cx.comp(X:Cx)(N:List Str)(scope:C3)(fp:List Addr)(s:η)(H:Hp):Cx where
 prog:=X.prog
 w:=X.w
 K:=X.K
 mg:=X.mg
 base:=X.base
 A:=X.A
 N:=N
 s₀:=s
 H₀:=H
 env:=compEnvC scope (aJ X.env scope.names []) (s.heap.objs.size+1) X.env
 outer:=X.stack
 stack:=X.stack
 ex:=fp
 calm:=X.calm
 fn:=λ_=>false
 pn:=[]
 xe:=λ_ _=>False
def cX(k:Nat)(ix:List Nat)(σ:St):St:=ϓ k none++ix.map λj=>(σ[j]?).join
structure cE(N:List Str)(sc:C3)(scope:C3)(own:List Str)(ix:List Nat):Prop where
 kind:scope.kind=.function
 nocell:∀y∈scope.names,y.2≠.cell
 names:∀y∈scope.names,y.2=.local->scope.names.lookup y.1=some .local
 free:∀y∈scope.names,y.2=.free->sc.names.lookup y.1=some .cell\/sc.names.lookup y.1=some .free
 cap:∀j∈ix,∀x,N[j]?=some x->(x,Ω)∈scope.names/\(scope.names.lookup x=some .free)
 inN:∀j∈ix,j<N.length
abbrev lcN(N own:List Str)(ix:List Nat):List Str:=own++ix.filterMap λj=>N[j]?
theorem Ax{N own:List Str}{ix:List Nat}(h:∀j∈ix,j<N.length):(lcN N own ix).length=own.length+ix.length:=by
 unfold lcN
 rw[Ε]
 congr 1
 induction ix with
 |nil=>rfl
 |cons j r ih=>
  have hj:j<N.length:=h j ν
  rw[z_,Ι hj]
  show _+1=_+1
  rw[ih λi hi=>h i (π _ hi)]
theorem gj{N:List Str}:∀{ix:List Nat},(∀j∈ix,j<N.length)->∀{i:Nat}{x:Str},(ix.filterMap λj=>N[j]?)[i]?=some x->∃j,ix[i]?=some j/\N[j]?=some x
 |[],_,i,x,e=>by simp at e
 |j::r,h,i,x,e=>by
  have hj:j<N.length:=h j ν
  rw[z_,Ι hj]at e
  cases i with
  |zero=>
   refine⟨j,rfl,?_⟩
   rw[Ι hj]
   exact e
  |succ i=>
   obtain⟨j',e1,e2⟩:=gj (λi hi=>h i (π _ hi)) (i:=i) (x:=x) (by simpa using e)
   exact⟨j',by simpa using e1,e2⟩
theorem iA{k:Nat}{ix:List Nat}{σ:St}{i:Nat}{v:V}(h:(cX k ix σ)[i]?=some (some v)):∃i' j,i=k+i'/\ix[i']?=some j/\σ[j]?=some (some v):=by
 unfold cX at h
 by_cases hi:i<k
 ·rw[u9 (by simpa using hi),List.getElem?_replicate,Q5 hi]at h
  cases h
 ·rw[g_ (by simpa using hi),A_,Ϯ]at h
  refine⟨i-k,?_⟩
  cases e:ix[i-k]? with
  |none=>rw[e]at h;cases h
  |some j=>
   rw[e]at h
   refine⟨j,(),rfl,?_⟩
   have h':(σ[j]?).join=some v:=by simpa using h
   cases q:σ[j]? with
   |none=>rw[q]at h';cases h'
   |some o=>
    rw[q]at h'
    exact congrArg some h'
theorem cP{env:Env}{x:Str}:∀{names:List (Str×B6)},names.lookup x=some .free ->
  (names.map λ(n,k)=>if (k==Ω&&env.scope.kind==.function&&env.kindOf n==some .cell)then (n,j_)else (n,k)).lookup x=some .cell \/
  (names.map λ(n,k)=>if (k==Ω&&env.scope.kind==.function&&env.kindOf n==some .cell)then (n,j_)else (n,k)).lookup x=some .free
 |[],h=>by simp at h
 |(n,k)::r,h=>by
  have ih:=@cP env x r
  rw[Μ]
  show ϥ x ((if (k==Ω&&env.scope.kind==.function&&env.kindOf n==some .cell)=true then (n,j_)else (n,k))::_)=_\/ϥ x ((if (k==Ω&&env.scope.kind==.function&&env.kindOf n==some .cell)=true then (n,j_)else (n,k))::_)=_
  cases hx:x==n with
  |true=>
   simp only[ϙ,hx]at h
   cases h
   by_cases hc:(Ω==Ω&&env.scope.kind==.function&&env.kindOf n==some .cell)=true
   ·rw[Q5 hc];left;simp only[ϙ,hx]
   ·rw[Q6 hc];right;simp only[ϙ,hx]
  |false=>
   simp only[ϙ,hx]at h
   by_cases hc:(k==Ω&&env.scope.kind==.function&&env.kindOf n==some .cell)=true
   ·rw[Q5 hc];simp only[ϙ,hx];exact ih h
   ·rw[Q6 hc];simp only[ϙ,hx];exact ih h
theorem cL{env:Env}{x:Str}{kd:B6}:∀{names:List (Str×B6)},
  (names.map λ(n,k)=>if (k==Ω&&env.scope.kind==.function&&env.kindOf n==some .cell)then (n,j_)else (n,k)).lookup x=some kd->(kd=.cell\/kd=.free)->(∀y∈names,y.2≠.cell) ->
  (x,Ω)∈names
 |[],h,_,_=>by simp at h
 |(n,k)::r,h,hk,hc=>by
  have ih:=@cL env x kd r
  rw[Μ]at h
  have hcr:∀y∈r,y.2≠.cell:=λy hy=>hc y (π _ hy)
  by_cases hf:k=.free
  ·subst hf
   cases hx:x==n with
   |true=>
    have:x=n:=by simpa using hx
    subst this
    exact ν
   |false=>
    refine π _ (ih ?_ hk hcr)
    by_cases hcc:(Ω==Ω&&env.scope.kind==.function&&env.kindOf n==some .cell)=true
    ·have h2:ϥ x ((if (Ω==Ω&&env.scope.kind==.function&&env.kindOf n==some .cell)=true then (n,j_)else (n,Ω))::r.map λ(n,k)=>if (k==Ω&&env.scope.kind==.function&&env.kindOf n==some .cell)then (n,j_)else (n,k))=some kd:=h
     rw[Q5 hcc,ϙ,hx]at h2
     exact h2
    ·have h2:ϥ x ((if (Ω==Ω&&env.scope.kind==.function&&env.kindOf n==some .cell)=true then (n,j_)else (n,Ω))::r.map λ(n,k)=>if (k==Ω&&env.scope.kind==.function&&env.kindOf n==some .cell)then (n,j_)else (n,k))=some kd:=h
     rw[Q6 hcc,ϙ,hx]at h2
     exact h2
  ·have hb:(k==Ω)=false:=by simpa using hf
   have h2:ϥ x ((if (k==Ω&&env.scope.kind==.function&&env.kindOf n==some .cell)=true then (n,j_)else (n,k))::r.map λ(n,k)=>if (k==Ω&&env.scope.kind==.function&&env.kindOf n==some .cell)then (n,j_)else (n,k))=some kd:=h
   rw[hb,ϵ,ϵ,Q6 Ζ,ϙ]at h2
   cases hx:x==n with
   |true=>
    rw[hx]at h2
    cases h2
    rcases hk with z|z
    ·exact absurd z (hc (n,_) ν)
    ·exact absurd z hf
   |false=>
    rw[hx]at h2
    exact π _ (ih h2 hk hcr)
theorem nlt{a b:Nat}(h:a<b):a≠b:=ϑ h
theorem ngt{a b:Nat}(h:a<b):b≠a:=o0 h
theorem nX{a b:Nat}(h:a<b):a≠b+1:=ϑ (F0 h)
theorem Ev{a b:Nat}(h:a<b):b+1≠a:=o0 (F0 h)
theorem nss(a:Nat):a≠a+1:=ϑ (Ge a)
theorem EZ(a:Nat):a+1≠a:=o0 (Ge a)
section
variable{X:Cx}{pins:List (Addr×Obj)}{σ:St}{H:Hp}{s:η}{scope:C3}{own:List Str}{ix:List Nat}{fp:List Addr}
theorem Inv.compOk{N:List Str}(I:Inv X pins σ H s)(L:cE X.N X.env.scope scope own ix)(hf:∀b∈fp,gb X pins H b)(hlt:∀b∈fp,b<s.heap.objs.size):(X.comp N scope fp s H).Ok where
 mod:=I.ok.mod
 kind:=L.kind
 glob:=I.ok.glob
 blt:=I.ok.blt
 above:=B5 _
 inj:=λx y c h1 h2=>I.ok.inj x y c (bj _ _ (λ_ _ z=>by simp at z) x c h1) (bj _ _ (λ_ _ z=>by simp at z) y c h2)
 has:=λx hx=>by
  have hm:(x,Ω)∈scope.names:=by
   rcases hx with hx|hx
   ·exact cL (env:=X.env) (x:=x) (names:=scope.names) hx (.inl rfl) L.nocell
   ·exact cL (env:=X.env) (x:=x) (names:=scope.names) hx (.inr rfl) L.nocell
  exact cQ (I.ok.has x (L.free _ hm rfl)) _ _ hm
 cab:=λx c h=>by cases h
 hd:=I.ok.hd
 frames:=I.ok.frames
 stk:=.inl rfl
 exf:=λb hb=>⟨nX (hlt b hb),λx c e=>(hf b hb).2.2.2.2.1 x c (bj _ _ (λ_ _ z=>by simp at z) x c e)⟩
 bs:=I.bs
 bsz:=ϕ I.ok.bsz I.sz
 noex:=λb o e hb=>by
  rcases(hf b hb).2.2.2.1 with z|z
  ·exact I.ok.noex b o e z
  ·exact absurd (Χ (ω e) (ϕ I.ok.bsz z)) (r_ _)
 exfs:=λb hb z=>by
  rcases ι.mp (I.stkSub b z)with e|e
  ·exact(hf b hb).2.1 e
  ·exact(hf b hb).2.2.1 e
 funs:=I.stack
 frf:=I.stkFree
theorem Inv.compStart{h1:Heap}{tk:Nat}(I:Inv X pins σ H s)(L:cE X.N X.env.scope scope own ix)(hf:∀b∈fp,gb X pins H b)(hlt:∀b∈fp,b<s.heap.objs.size)
  (k:∀b o,s.heap.get? b=some o->h1.get? b=some o) {m:Str->Option ε} (hn:h1.Ns (s.heap.objs.size+1) m):
  Inv (X.comp (lcN X.N own ix) scope fp s H) [] (cX own.length ix σ) H {s with heap:=h1,toks:=tk}:=by
 have sub:=λx c=>bj (env:=X.env) scope.names [] (λ_ _ z=>by simp at z) x c
 refine⟨I.compOk L hf hlt,rfl,I.bare,Un.kept k,⟨m,hn,λi x v e1 e2 e3=>?_⟩,λx c e=>?_,I.hok.fresh (B5 _),λx c e=>I.freeC x c (sub x c e),λp hp=>absurd (show p∈([]:List (Addr×Obj))from hp) (),I.hok.kept k,?_⟩
 ·obtain⟨i',j,rfl,hj,hv⟩:=iA e2
  have e1':(lcN X.N own ix)[own.length+i']?=some x:=e1
  unfold lcN at e1'
  rw[g_ (Ϸ _ _),Nat.add_sub_cancel_left]at e1'
  obtain⟨j',hj',hN⟩:=gj L.inN e1'
  rw[hj]at hj'
  cases hj'
  have hjm:j∈ix:=Ϝ hj
  obtain⟨hmem,hlk⟩:=L.cap j hjm x hN
  have hkind:=L.free _ hmem rfl
  obtain⟨m0,hn0,hl0⟩:=I.loc
  obtain⟨u,r,l⟩:=hl0 j x v hN hv (by rcases hkind with z|z;exact .inr (.inl z);exact .inr (.inr z))
  refine⟨u,r,.inr ⟨?_,?_⟩⟩
  ·exact cP (env:=X.env) hlk
  ·rcases l with ⟨kl,_⟩|⟨_,c,hc,hcell⟩
   ·have kl':X.env.scope.names.lookup x=some .local:=kl
    rcases hkind with z|z
    ·rw[kl']at z;cases z
    ·rw[kl']at z;cases z
   ·obtain⟨c',hc'⟩:=cQ (env:=X.env) ⟨c,hc⟩ scope.names [] hmem
    have:c'=c:=by
     have q:=sub x c' hc'
     rw[hc]at q
     exact(ϧ q).symm
    subst this
    obtain⟨o,ho,hd⟩:=hcell
    exact⟨c',hc',o,k _ _ ho,hd⟩
 ·obtain⟨v,o,ho,hd⟩:=I.cell x c (sub x c e)
  exact⟨v,o,k _ _ ho,hd⟩
 ·show(cX own.length ix σ).length=(lcN X.N own ix).length
  rw[Ax L.inN]
  unfold cX
  rw[Ε,A_,ς]
def GW(k:Nat)(g:TG):Prop:=∀x (σ:St) H (Q:St->Hp->Prop),g x σ H Q->g x σ H λσ2 H2=>Q σ2 H2/\σ2.length=σ.length/\∀j,k<=j->σ2[j]?=σ[j]?
theorem bF{k i:Nat}(h:i<k):GW k (db i):=λx σ H Q q=>⟨q,(),λj hj=>by rw[B3 ()]⟩
def GWs(k:Nat)(g:TGs):Prop:=∀x (σ:St) H (Q:St->Hp->Prop),g x σ H Q->g x σ H λσ2 H2=>Q σ2 H2/\σ2.length=σ.length/\∀j,k<=j->σ2[j]?=σ[j]?
def GM(g:TG):Prop:=∀x (σ:St) H (Q Q':St->Hp->Prop),(∀s h,Q s h->Q' s h)->g x σ H Q->g x σ H Q'
theorem oA{i:Nat}:GM (db i):=λ_ _ _ _ _ h q=>h _ _ q
theorem zI{k:Nat}:GWs k wQ:=λx σ H Q q=>⟨q.1,q.2,rfl,λ_ _=>rfl⟩
theorem pO{k:Nat}{t:TG}{u:TGs}(ht:GW k t)(hu:GWs k u)(mt:GM t)(mu:∀x (σ:St) H (Q Q':St->Hp->Prop),(∀s h,Q s h->Q' s h)->u x σ H Q->u x σ H Q'):GWs k (jr t u):=λx σ H Q q=>by
 obtain⟨v,r,e,q⟩:=q
 refine⟨v,r,e,mt _ _ _ _ _ ?_ (ht _ _ _ _ q)⟩
 rintro σ1 H1 ⟨q1,l1,j1⟩
 refine mu _ _ _ _ _ ?_ (hu _ _ _ _ q1)
 rintro σ2 H2 ⟨q2,l2,j2⟩
 exact⟨q2,l2.trans l1,λj hj=>(j2 j hj).trans (j1 j hj)⟩
theorem uK:∀x (σ:St) H (Q Q':St->Hp->Prop),(∀s h,Q s h->Q' s h)->wQ x σ H Q->wQ x σ H Q':=λ_ _ _ _ _ h q=>⟨q.1,h _ _ q.2⟩
theorem xQ{t:TG}{u:TGs}(mt:GM t)(mu:∀x (σ:St) H (Q Q':St->Hp->Prop),(∀s h,Q s h->Q' s h)->u x σ H Q->u x σ H Q'):∀x (σ:St) H (Q Q':St->Hp->Prop),(∀s h,Q s h->Q' s h)->jr t u x σ H Q->jr t u x σ H Q':=
 λ_ _ _ _ _ h ⟨v,r,e,q⟩=>⟨v,r,e,mt _ _ _ _ _ (λ_ _ q1=>mu _ _ _ _ _ h q1) q⟩
theorem CB{k:Nat}{K:ζ}{n:Nat}{t:TGs}(ht:GWs k t):GW k (Aw K n t):=λx σ H Q q=>by
 obtain⟨a,xs,e,hq,hl,q⟩:=q
 exact⟨a,xs,e,hq,hl,ht _ _ _ _ q⟩
theorem ox{K:ζ}{i j k:Nat}(hi:i<k)(hj:j<k):GW k (Aw K 2 (jr (db i) (jr (db j) wQ))):=
 CB (pO (bF hi) (pO (bF hj) zI oA uK) oA (xQ oA uK))
def PIf(X:Cx)(ifs:List Expr)(t:TT):Prop:=
 ∀(pins:List (Addr×Obj))(s:η)(σ:St)(H:Hp)(Q:Bool->Hp->Prop),Inv X pins σ H s->t σ H Q ->
  wpAny (model X.prog X.w) X.A (forIn ifs true λc r=>if r=true then do let ok <-isTrue c X.env (eval c X.env);pure (A8 ok)else pure (A8 r)) (TP X pins σ Q) X.xe s
def yS:TT:=λ_ H Q=>Q true H
theorem pif_nil:PIf X [] yS:=λ_ _ _ H _ I h=>wpAny_tests_nil ⟨H,I,h⟩
def rLC(J:It)(k:Nat)(ix:List Nat)(g:TG)(tt:TT)(te:TE)(σ:St)(H1:Hp)(Q:List V->Hp->Prop):Prop:=
 ∃W:Nat->Nat->List V->Hp->Prop,(∃m,W 0 m [] H1)/\∀i m ys H,W i m ys H ->
  (J.stop i H/\Q ys H) \/
  (J.go i H/\∃N:List V->Hp->Prop,(∀ys' H',N ys' H'->∃m',m'<m/\W (i+1) m' ys' H')/\∀x H',J.yld i H x H'->g x (cX k ix σ) H' λσ2 H2=>tt σ2 H2 λc H3=>
   if c=true then te σ2 H3 λy H4=>ys.length<sizeLine/\N (ys++[y]) H4
   else N ys H3)
theorem rb{elt tg iter:Expr}{ifs:List Expr}{pos:Pos}{it:Addr}{tn:Nat->Heap->Prop}{J:It}{g:TG}{tt:TT}{te:TE}{E:ε->η->Prop}{Qf:List V->Hp->Prop}{RR:ε->Addr->Ht->η->Prop}
  (L:cE X.N X.env.scope scope own ix) (hc:X.calm=true) (hg:∀fp s H,PG (X.comp (lcN X.N own ix) scope fp s H) tg g) (gw:GW own.length g)
  (ht:∀fp s H,PIf (X.comp (lcN X.N own ix) scope fp s H) ifs tt) (he:∀fp s H,PE (X.comp (lcN X.N own ix) scope fp s H) elt te)
  (I:Inv X pins σ H s) (T:mj X.prog X.w X.K tg J fp it tn) (st:tn 0 s.heap) (hf:∀b∈fp,gb X pins H b)
  (hw:rLC J own.length ix g tt te σ H Qf)
  (hRR:∀(D C:Addr)(s':η)(ys:List V)(H':Hp)(m:Str->Option ε),s'.heap.Ns C m->C≠X.env.locals->(∀x c,X.env.cells.lookup x=some c->c≠C)->X.s₀.heap.objs.size<=C->(∀p∈X.pn++pins,p.1≠C)->upd H' D (.lst ys) C=none->H' D=none ->
   Inv X pins σ (upd H' D (.lst ys)) s'->Qf ys H'->RR (.ref D) C (.ok .next) s'):
  wpAny (model X.prog X.w) X.A (newList []) (λacc s₃=>wpAny (model X.prog X.w) X.A (newFunctionEnv scope X.env.globals (aJ X.env scope.names []) [] X.env.qual none .none (some X.env)) (λcenv s₄=>
   codeAny (model X.prog X.w) X.A (.compStart (.ListComp elt [⟨tg,iter,ifs,0⟩] scope pos) 0 (.ref it) acc {cenv with scope:=relabel scope X.env}) (RR acc cenv.locals) s₄) E s₃) E s:=by
 obtain⟨W,⟨m0,w0⟩,turn⟩:=hw
 have hlt:∀b∈fp,b<s.heap.objs.size:=λb hb=>by
  obtain⟨o,e,_⟩:=T.obj 0 s.heap st b hb
  exact ω e
 refine ϝ (wpAny_newFunctionEnv L.nocell (by intro y hy;simp at hy) (λh₁ hns₁ hsb₁=>?_) L.kind)
 dsimp only at hns₁ hsb₁⊢
 generalize hH2:s.heap.push {cls:=.type "list",dict:=none,data:=.seq ([]:List ε).toArray}=h2 at hns₁ hsb₁⊢
 have hC:h2.objs.size=s.heap.objs.size+1:=by rw[<-hH2,Ϧ]
 have old:∀b o,s.heap.get? b=some o->h₁.get? b=some o:=λb o e=>by
  exact hsb₁.extBut b o (by rw[hC];exact nX (ω e)) (μ _ (hH2▸μ _ e))
 have hacc:h₁.PlainList s.heap.objs.size #[]:=⟨_,hsb₁.extBut _ _ (by rw[hC];exact nss _) (μ _ (hH2▸Β _ rfl))⟩
 have hD0:H s.heap.objs.size=none:=I.hok.fresh (θ _)
 rw[hC]at hns₁
 have I0:=I.compStart (tk:=s.toks+([]:List (Str×ε)).length) L hf hlt old hns₁
 have sub:=λx c=>bj (env:=X.env) scope.names [] (λ_ _ z=>by simp at z) x c
 have cellLt:∀x c,X.env.cells.lookup x=some c->c<s.heap.objs.size:=λx c e=>by
  obtain⟨v,q⟩:=I.cell x c e
  exact q.lt
 have stkLt:∀b∈frs X.stack,b<s.heap.objs.size:=λb hb=>by
  obtain⟨_,o,ho,_⟩:=I.stack.mem hb
  exact ω ho
 have env_eq:({newEnv scope h2.objs.size X.env.globals (aJ X.env scope.names []) X.env.qual none .none (some X.env) builtinsNs with scope:=relabel scope X.env}:Env)=(X.comp (lcN X.N own ix) scope fp s H).env:=by
  show compEnvC scope (aJ X.env scope.names []) h2.objs.size X.env=compEnvC scope (aJ X.env scope.names []) (s.heap.objs.size+1) X.env
  rw[hC]
 have loop:codeAny (model X.prog X.w) X.A (.compLoop (.ListComp elt [⟨tg,iter,ifs,0⟩] scope pos) 0 (.ref it) (.ref s.heap.objs.size) (X.comp (lcN X.N own ix) scope fp s H).env) (RR (.ref s.heap.objs.size) (s.heap.objs.size+1))
   {s with heap:=h₁,toks:=s.toks+([]:List (Str×ε)).length}:=by
  refine vH (λn s'=>∃i ys H',Inv (X.comp (lcN X.N own ix) scope fp s H) [] (cX own.length ix σ) H' s'/\tn i s'.heap/\(∀b∈fp,H' b=none)/\H' s.heap.objs.size=none /\
   (∃its:List ε,aw ys its/\s'.heap.PlainList s.heap.objs.size its.toArray)/\ys.length<=sizeLine/\W i n ys H') ?_ m0
   ⟨0,[],H,I0,T.keep _ _ _ st (λb _ o e=>old b o e),λb hb=>(hf b hb).1,hD0,⟨[],.nil,hacc⟩,ϖ _,w0⟩
  rintro n s3 ⟨i,ys,H3,I3,st3,fr3,d3,⟨its,rv,n3,hp3⟩,hz,w3⟩
  have Ip:=I3.pins_of (pins':=[(s.heap.objs.size,{cls:=.type "list",data:=.seq its.toArray n3})]) (λp hp=>by
   have e:p=(s.heap.objs.size,{cls:=.type "list",data:=.seq its.toArray n3}):=by simpa using hp
   subst e
   exact⟨hp3,d3,nss _,λz=>absurd (stkLt _ z) (r_ _),λv z=>by cases z⟩)
  have stat:∀{H':Hp},(∀b∈fp,H' b=none)->∀b∈fp,gb (X.comp (lcN X.N own ix) scope fp s H) [(s.heap.objs.size,{cls:=.type "list",data:=.seq its.toArray n3})] H' b:=λhn b hb=>
   ⟨hn b hb,nX (hlt b hb),I3.ok.exfs b hb,.inl hb,λx c e=>(I3.ok.exf b hb).2 x c e,λp hp=>by
    have e:p=(s.heap.objs.size,{cls:=.type "list",data:=.seq its.toArray n3}):=by simpa using(show p∈([]:List (Addr×Obj))++[(s.heap.objs.size,{cls:=.type "list",data:=.seq its.toArray n3})]from hp)
    subst e
    exact ngt (hlt b hb)⟩
  rcases turn i n ys H3 w3 with ⟨stop,qf⟩|⟨go,N,hN,step⟩
  ·refine thn (T.done (X.comp (lcN X.N own ix) scope fp s H) rfl rfl rfl hc i _ s3 _ H3 _ Ip (stat fr3) st3 stop) λr s4 ⟨hr,I4⟩=>?_
   subst hr
   obtain⟨e4,d4,_⟩:=I4.pin (s.heap.objs.size,{cls:=.type "list",data:=.seq its.toArray n3}) (Ο _ ν)
   obtain⟨mC,hnC,_⟩:=I4.loc
   have hok:HOk X.prog X.w (upd H3 s.heap.objs.size (.lst ys)) s4.heap:=λb u e=>by
    by_cases hb:b=s.heap.objs.size
    ·subst hb
     rw[aa]at e
     cases e
     exact⟨hz,its,n3,rv,e4⟩
    ·rw[ai hb]at e
     exact(I4.hok b u e).stay (λc v _ q=>q) (λc q=>by rw[ai (ao q d4)];exact q) λc xs q=>by rw[ai (ao q d4)];exact q
   have ub:=I4.base
   have un:Un (frs X.stack) fp H (upd H3 s.heap.objs.size (.lst ys)) s.heap s4.heap:=
    ⟨ub.keep,ub.slot,λb o e n hx=>by rw[ai (ϑ (ω e))];exact ub.free b o e n hx,ub.there,
     λb xs e=>by rw[ai (ao (ub.tups b xs e) d4)];exact ub.tups b xs e,λb o u e=>by rw[ai (ao (ub.frzs b o u e) d4)];exact ub.frzs b o u e,
     λb ps e=>by
      obtain⟨more,q⟩:=ub.tbls b ps e
      exact⟨more,by rw[ai (ao q d4)];exact q⟩⟩
   have I5:Inv X pins σ (upd H3 s.heap.objs.size (.lst ys)) s4:=I.call' I4.os un hok I4.bare λb hb=>by
    obtain⟨f0,f1,f2,f3,f4,f5⟩:=hf b hb
    exact⟨f3,f1,f4,f5⟩
   refine hRR _ _ s4 ys H3 mC hnC ?_ ?_ ?_ ?_ ?_ d4 I5 qf
   ·exact Ev I.lt
   ·intro x c e
    exact nX (cellLt x c e)
   ·exact ϕ I.sz (B5 _)
   ·intro p hp
    exact nX (ω (I.pin p hp).1)
   ·rw[ai (EZ _)]
    exact I4.free
  ·refine thn (T.item (X.comp (lcN X.N own ix) scope fp s H) rfl rfl rfl hc i _ s3 _ H3 _ Ip (stat fr3) st3 go) λr s4 ⟨u,hr,h4⟩=>?_
   subst hr
   refine thn h4 λ_ s5 ⟨x,H5,I5,r5,y5,st5,fr5⟩=>?_
   have I5':=I5.pinned (stat fr5) (T.obj _ _ st5)
   refine thn (hg fp s H _ s5 _ H5 x u _ I5' r5 (gw _ _ _ _ (step x H5 y5))) λ_ s6 ⟨σ6,H6,I6,q6,l6,k6⟩=>?_
   refine thn (ht fp s H _ s6 σ6 H6 _ I6 q6) λc s7 ⟨H7,I7,q7⟩=>?_
   have again:∀{s8:η}{H8:Hp},Inv (X.comp (lcN X.N own ix) scope fp s H) ([(s.heap.objs.size,{cls:=.type "list",data:=.seq its.toArray n3})]++iU fp s5.heap) σ6 H8 s8 ->
     Inv (X.comp (lcN X.N own ix) scope fp s H) [] (cX own.length ix σ) H8 s8/\tn (i+1) s8.heap/\(∀b∈fp,H8 b=none)/\H8 s.heap.objs.size=none/\s8.heap.get? s.heap.objs.size=some {cls:=.type "list",data:=.seq its.toArray n3}:=λ{s8 H8} I8=>by
    obtain⟨e8,d8,_⟩:=I8.pin (s.heap.objs.size,{cls:=.type "list",data:=.seq its.toArray n3}) (Ο _ (f_ _ ν))
    refine⟨(I8.pins_of (pins':=[]) λp hp=>by cases hp).weak l6.symm λj v e=>?_,T.keep _ _ _ st5 λb hb o e=>(I8.pin (b,o) (Ο _ (Ο _ (cw hb e)))).1,λb hb=>?_,d8,e8⟩
    ·obtain⟨i',j',rfl,_,_⟩:=iA e
     rw[k6 _ (Ϸ _ _)]
     exact e
    ·obtain⟨o,e,d⟩:=T.obj _ _ st5 b hb
     exact(I8.pin (b,o) (Ο _ (Ο _ (cw hb e)))).2.1
   cases c with
   |false=>
    rw[Q6 Ζ]at q7⊢
    obtain⟨m',hm,w7⟩:=hN _ _ q7
    obtain⟨a1,a2,a3,a4,a5⟩:=again I7
    exact⟨m',hm,i+1,ys,H7,a1,a2,a3,a4,⟨its,rv,n3,a5⟩,hz,w7⟩
   |true=>
    rw[Q5 rfl]at q7⊢
    refine thn (he fp s H _ s7 σ6 H7 _ I7 q7) λv s8 ⟨y,H8,I8,r8,hz8,q8⟩=>?_
    obtain⟨m',hm,w8⟩:=hN _ _ q8
    obtain⟨a1,a2,a3,a4,a5⟩:=again I8
    refine wpAny_list_append_plain (s:=s8) (l:=s.heap.objs.size) (items:=its.toArray) ⟨n3,a5⟩ (λh9 hl9 hs9=>?_) (by have:=rv.length;simp;omega)
    have I9:Inv (X.comp (lcN X.N own ix) scope fp s H) [] (cX own.length ix σ) H8 {s8 with heap:=h9}:=a1.turned (t':=s8.toks) (it:=s.heap.objs.size) (λb o hb e=>hs9.extBut b o hb e) a4 (nss _)
     (.inr (θ _)) (λx c e=>nlt (cellLt x c (sub x c e))) (λp hp=>absurd (show p∈([]:List (Addr×Obj))from hp) ())
    refine⟨m',hm,i+1,ys++[y],H8,I9,T.keep _ _ _ a2 (λb hb o e=>hs9.extBut b o (nlt (hlt b hb)) e),a3,a4,⟨its++[v],aw.append rv (.cons r8 .nil),?_⟩,?_,w8⟩
    ·have e:(its++[v]).toArray=its.toArray.push v:=by simp
     rw[e]
     exact hl9
    ·rw[Ε]
     show _+1<=_
     omega
 show codeAny _ _ (.compStart _ 0 (.ref it) (.ref s.heap.objs.size) _) (RR (.ref s.heap.objs.size) h2.objs.size) _
 rw[hC]
 have e2:=env_eq
 rw[hC]at e2
 refine Eq.mpr (congrArg (λe=>codeAny (model X.prog X.w) X.A (.compStart (.ListComp elt [⟨tg,iter,ifs,0⟩] scope pos) 0 (.ref it) (.ref s.heap.objs.size) e) (RR (.ref s.heap.objs.size) (s.heap.objs.size+1)) {s with heap:=h₁,toks:=s.toks+([]:List (Str×ε)).length}) e2) ?_
 exact codeAny_compStart_list loop (T.self X.A 0 _ _ _ (T.keep _ _ _ st λb _ o e=>old b o e) loop)
end
section
variable{X:Cx}{scope:C3}{own:List Str}{ix:List Nat}
def tLC(wi:TI)(k:Nat)(ix:List Nat)(g:TG)(tt:TT)(te:TE):TE:=λσ H Q=>wi σ H λJ H1=>rLC J k ix g tt te σ H1 λys H'=>∀a,H' a=none->Q (.ref a) (upd H' a (.lst ys))
theorem Inv.clos{pins:List (Addr×Obj)}{σ:St}{H:Hp}{s:η}(I:Inv X pins σ H s)(L:cE X.N X.env.scope scope own ix):closureFor scope X.env=pure (aJ X.env scope.names []):=
 qX λx hx hf=>I.ok.has x.1 (L.free x hx hf)
theorem pe_lc{elt tg iter:Expr}{ifs:List Expr}{pos:Pos}{wi:TI}{g:TG}{tt:TT}{te:TE}(hi:PI X tg iter wi)(L:cE X.N X.env.scope scope own ix)(hc:X.calm=true)
  (hg:∀fp s H,PG (X.comp (lcN X.N own ix) scope fp s H) tg g) (gw:GW own.length g) (ht:∀fp s H,PIf (X.comp (lcN X.N own ix) scope fp s H) ifs tt) (he:∀fp s H,PE (X.comp (lcN X.N own ix) scope fp s H) elt te)
  (hs:∀x,foldedSetIterable iter X.env x=pure x:=by intro _;rfl):PE X (.ListComp elt [⟨tg,iter,ifs,0⟩] scope pos) (tLC wi own.length ix g tt te):=by
 intro pins s σ H Q I h
 rw[eval_ListComp]
 refine C8 (use:=none) rfl hs (I.clos L) L.kind L.names (thn (hi pins s σ H _ I h) λv s1 h1=>thn h1 λitv s2 h2=>?_)
 obtain⟨it,fp,tn,J,H2,e,I2,T,st2,f2,hw⟩:=h2
 subst e
 refine rb (RR:=λacc C=>compPost (model X.prog X.w) X.A X.xe none (EP X pins σ Q) acc C) L hc hg gw ht he I2 T st2 f2 hw ?_
 intro D C s' ys H' m hn c1 c2 c3 c4 c5 d I' q
 exact⟨m,hn,λh' hs'=>⟨.ref D,_,I'.turned (t':=s'.toks) (it:=C) (λb o hb e=>hs'.extBut b o hb e) c5 c1 (.inr c3) c2 c4,rfl,q D d⟩⟩
theorem ps_lc{elt tg iter:Expr}{ifs:List Expr}{pos spos py:Pos}{wi:TI}{g:TG}{tt:TT}{te:TE}{i:Nat}{y:Str}(hN:X.N.Nodup)(hy:X.N[i]?=some y)(hx:X.env.scope.names.lookup y=some .local)(hi:PI X tg iter wi)(L:cE X.N X.env.scope scope own ix)(hc:X.calm=true)
  (hg:∀fp s H,PG (X.comp (lcN X.N own ix) scope fp s H) tg g) (gw:GW own.length g) (ht:∀fp s H,PIf (X.comp (lcN X.N own ix) scope fp s H) ifs tt) (he:∀fp s H,PE (X.comp (lcN X.N own ix) scope fp s H) elt te)
  (hsw:swapsWith (.ListComp elt [⟨tg,iter,ifs,0⟩] scope pos) (some (.Name y py)) spos.line X.env=pure true:=by rfl)
  (hs:∀x,foldedSetIterable iter X.env x=pure x:=by intro _;rfl):PS X (.Assign [.Name y py] (.ListComp elt [⟨tg,iter,ifs,0⟩] scope pos) spos) (Dz (tLC wi own.length ix g tt te) (db i)):=by
 intro pins s σ H Dn I h
 rw[exec_Assign_Name_used _ _ _ _ hsw]
 refine δ (Gj (δ ?_))
 show wpAny _ X.A (do let _ <-comprehension (.ListComp elt [⟨tg,iter,ifs,0⟩] scope pos) scope X.env _ (newList []) false (eval iter X.env) (some (assign (.Name y py) X.env))) _ _ s
 refine δ (thn (C8 (use:=some (assign (.Name y py) X.env)) (Q:=λ_ s'=>SP X pins Dn .next s') rfl hs (I.clos L) L.kind L.names
  (thn (hi pins s σ H _ I h) λv s1 h1=>thn h1 λitv s2 h2=>?_)) λ_ s' hq=>ρ (ρ hq))
 obtain⟨it,fp,tn,J,H2,e,I2,T,st2,f2,hw⟩:=h2
 subst e
 refine rb (RR:=λacc C=>compPost (model X.prog X.w) X.A X.xe (some (assign (.Name y py) X.env)) (λ_ s'=>SP X pins Dn .next s') acc C) L hc hg gw ht he I2 T st2 f2 hw ?_
 intro D C s' ys H' m hn c1 c2 c3 c4 c5 d I' q
 show wpAny _ X.A (assign (.Name y py) X.env (.ref D)) _ _ s'
 refine wpAny_assign_Name (mx I' hN hy (.inl hx) (v:=.ref D) rfl (λs2 I2 ⟨a,hs2,ha⟩=>?_) (.inr hx))
 have aC:a≠C:=by
  rcases ha with rfl|ha
  ·exact ϛ c1
  ·exact c2 y a ha
 refine⟨m,hn.sameBut hs2 (ϛ aC),λh' hs'=>?_⟩
 exact⟨_,_,I2.turned (t':=s2.toks) (it:=C) (λb o hb e=>hs'.extBut b o hb e) c5 c1 (.inr c3) c2 c4,q D d⟩
end
section
variable{k:Nat}{ix:List Nat}{g:TG}{tt:TT}{te:TE}{σ:St}{H1:Hp}{Q:List V->Hp->Prop}
def eJ(k:Nat)(ix:List Nat)(g:TG)(tt:TT)(te:TE)(σ:St)(x:V)(ys:List V)(H:Hp)(N:List V->Hp->Prop):Prop:=
 g x (cX k ix σ) H λσ2 H2=>tt σ2 H2 λc H3=>if c=true then te σ2 H3 λy H4=>ys.length<sizeLine/\N (ys++[y]) H4 else N ys H3
theorem ms{J:It}{n:Nat}(Pv:Nat->List V->Hp->Prop)(h0:Pv 0 [] H1)(hgo:∀i ys H,i<n->Pv i ys H->J.go i H)(hst:∀ys H,Pv n ys H->J.stop n H)
  (hs:∀i ys H x H',i<n->Pv i ys H->J.yld i H x H'->eJ k ix g tt te σ x ys H' (Pv (i+1))) (hd:∀ys H,Pv n ys H->Q ys H):rLC J k ix g tt te σ H1 Q:=by
 refine⟨λi m ys H=>m=n-i/\i<=n/\Pv i ys H,⟨n,(),ϖ _,h0⟩,?_⟩
 rintro i m ys H ⟨rfl,hi,p⟩
 by_cases hlt:i<n
 ·exact .inr ⟨hgo i ys H hlt p,Pv (i+1),λys' H' q=>⟨n-(i+1),(),rfl,hlt,q⟩,λx H' y=>hs i ys H x H' hlt p y⟩
 ·have e:i=n:=by omega
  subst e
  exact .inl ⟨hst ys H p,hd ys H p⟩
theorem qj{lo:Int}{n:Nat}(Pv:Nat->List V->Hp->Prop)(h0:Pv 0 [] H1)(hs:∀i ys H,i<n->Pv i ys H->eJ k ix g tt te σ (.int (lo+i)) ys H (Pv (i+1)))
  (hd:∀ys H,Pv n ys H->Q ys H):rLC (Itr lo n) k ix g tt te σ H1 Q:=
 ms (n:=n) Pv h0 (λi _ _ h _=>h) (λ_ _ _=>θ _) (λi ys H x H' h p y=>by
  obtain⟨e,y⟩:=y
  subst e y
  exact hs i ys _ h p) hd
theorem nP{K:ζ}{a:Addr}{xs:List V}(Pv:Nat->List V->Hp->Prop)(h0:Pv 0 [] H1)(hl:∀i ys H,i<=xs.length->Pv i ys H->SqL K H a xs)
  (hs:∀i ys H x,xs[i]?=some x->Pv i ys H->eJ k ix g tt te σ x ys H (Pv (i+1))) (hd:∀ys H,Pv xs.length ys H->Q ys H):rLC (Itl K a) k ix g tt te σ H1 Q:=
 ms (n:=xs.length) Pv h0 (λi ys H h p=>⟨xs,xs[i],hl i ys H (A5 h) p,by simp[h]⟩) (λys H p=>⟨xs,hl _ ys H (θ _) p,θ _⟩) (λi ys H x H' h p y=>by
  obtain⟨e,y⟩:=y
  subst e
  exact hs i ys _ x (y xs (hl i ys _ (A5 h) p)) p) hd
theorem se{K:ζ}{a:Addr}{xs:List V}(Pv:Nat->List V->Hp->Prop)(h0:Pv 0 [] H1)(hl:∀i ys H,i<=xs.length->Pv i ys H->SqT K H a xs)
  (hs:∀i ys H x,xs[i]?=some x->Pv i ys H->eJ k ix g tt te σ x ys H (Pv (i+1))) (hd:∀ys H,Pv xs.length ys H->Q ys H):rLC (Itt K a) k ix g tt te σ H1 Q:=
 ms (n:=xs.length) Pv h0 (λi ys H h p=>⟨xs,xs[i],hl i ys H (A5 h) p,by simp[h]⟩) (λys H p=>⟨xs,hl _ ys H (θ _) p,θ _⟩) (λi ys H x H' h p y=>by
  obtain⟨e,y⟩:=y
  subst e
  exact hs i ys _ x (y xs (hl i ys _ (A5 h) p)) p) hd
end
def Itf(f:Nat->V)(n:Nat):It:=⟨λi _=>i<n,λi H x H'=>H'=H/\x=f i,λi _=>i=n⟩
theorem lE{P:υ}{w:Κ}{K:ζ}{tg:Expr}{it:Addr}{n:Nat}{Pv:Nat->ε->Prop}{tn:Nat->Heap->Prop}{f:Nat->V}
  (W:∀A:Υ,A.handled=none->Walks P w A it [it] [it] n Pv tn) (ob:∀i h,tn i h->∃o nm vs,h.get? it=some o/\o.cls=.type nm/\o.data=.fields vs/\["enumerate","zip","dict_itemiterator","dict_reverseitemiterator","odict_iterator","itertools.zip_longest","itertools.pairwise"].contains nm=false)
  (rel:∀i v,Pv i v->aL (f i) v) (hself:∀(A:Υ)(i:Nat)(s:η)(Q:ε->η->Prop)(E:ε->η->Prop),tn i s.heap->Q (.ref it) s->wpAny (model P w) A (pyIter (.ref it)) Q E s):mj P w K tg (Itf f n) [it] it tn where
 mem:=by simp
 obj:=λi h st b hb=>by
  have e:b=it:=by simpa using hb
  subst e
  obtain⟨o,nm,vs,e,_,d,_⟩:=ob i h st
  exact⟨o,e,λv z=>by rw[d]at z;cases z⟩
 keep:=λi h h' st k=>by
  by_cases hA:∃A:Υ,A.handled=none
  ·obtain⟨A,hA⟩:=hA
   exact(W A hA).frame i h h' st k
  ·exact absurd ⟨callerA,rfl⟩ hA
 item:=by
  intro X hP hw hK hc i pins s σ H E I hf st hg
  subst hP hw hK
  obtain⟨f0,f1,f2,f3,f4,f5⟩:=hf it ()
  refine(W X.A (I.ok.hd hc)).item i s _ _ hg st λv h' tk hv st' kk=>?_
  have I1:Inv X pins σ H {s with heap:=h',toks:=tk}:=I.turned (λb o hb e=>kk b o (by simpa using hb) e) f0 f1 f3 f4 f5
  obtain⟨o,nm,vs,e,c,d,hn⟩:=ob _ _ st'
  exact⟨v,rfl,qY (s:={s with heap:=h',toks:=tk}) e c d hn ⟨f i,H,I1,rel i v hv,⟨rfl,rfl⟩,st',λb hb=>(hf b hb).1⟩⟩
 done:=by
  intro X hP hw hK hc i pins s σ H E I hf st hg
  subst hP hw hK
  obtain⟨f0,f1,f2,f3,f4,f5⟩:=hf it ()
  have e:i=n:=hg
  subst e
  exact(W X.A (I.ok.hd hc)).done s _ _ st λh' tk kk=>⟨rfl,I.turned (λb o hb e=>kk b o (by simpa using hb) e) f0 f1 f3 f4 f5⟩
 self:=hself
section
variable{X:Cx}{tg:Expr}
theorem Inv.fp1{pins:List (Addr×Obj)}{σ:St}{H:Hp}{s:η}(I:Inv X pins σ H s):∀b∈[s.heap.objs.size],gb X pins H b:=λb hb=>by
 have e:b=s.heap.objs.size:=by simpa using hb
 subst e
 exact I.fpOk (θ _) (I.hok.fresh (θ _))
def By(x:Str)(i:Nat):V:=.str ⟨#[x.cps.getD i 0]⟩
def Fm(ts:TE):TI:=λσ H R=>ts σ H λx H1=>∃z,x=.str z/\R (Itf (By z) z.cps.size) H1
theorem pi_str{e:Expr}{ts:TE}(hl:PE X e ts):PI X tg e (Fm ts):=by
 intro pins s σ H R I h
 refine thn (hl pins s σ H _ I h) λv s1 ⟨x,H1,I1,r1,q1⟩=>?_
 obtain⟨z,e,q⟩:=q1
 subst e
 obtain⟨t,rfl⟩:=r1
 have rel:∀i v,SignAt z i v->aL (By z i) v:=λi v ⟨c,u,hc,hv⟩=>by
  subst hv
  refine⟨u,?_⟩
  have e:z.cps.getD i 0=c:=by rw[Array.getD_eq_getD_getElem?,hc];rfl
  rw[e]
 cases ha:z.cps.all (· < 128)with
 |false=>
  refine wpAny_pyIter_wide ha ?_
  exact⟨s1.heap.objs.size,[s1.heap.objs.size],_,_,H1,rfl,I1.kept (t':=s1.toks) λb o e=>μ _ e,
   lE (λA hA=>Walks.strWide hA _ z t) (λi h ⟨o,e,c,d⟩=>⟨o,"str_iterator",_,e,c,d,()⟩) rel (λA i s Q E st hq=>wpAny_pyIter_striter_wide st hq),⟨_,Β _ rfl,rfl,rfl⟩,λb hb=>I1.fp1 b hb,q⟩
 |true=>
  refine wpAny_pyIter_ascii ha ?_
  exact⟨s1.heap.objs.size,[s1.heap.objs.size],_,_,H1,rfl,I1.kept (t':=s1.toks) λb o e=>μ _ e,
   lE (λA hA=>Walks.strAscii hA _ z t) (λi h ⟨o,e,c,d⟩=>⟨o,"str_ascii_iterator",_,e,c,d,()⟩) rel (λA i s Q E st hq=>wpAny_pyIter_striter_ascii st hq),⟨_,Β _ rfl,rfl,rfl⟩,λb hb=>I1.fp1 b hb,q⟩
end
section
variable{X:Cx}
theorem dX:OpR X (compareOp .LtE) (λx y H Q=>∃i j,x=.str i/\y=.str j/\Q (.bl (!decide (j.cps.toList<i.cps.toList))) H):=by
 intro pins s σ H x y v u Q I rx ry h
 obtain⟨i,j,rfl,rfl,q⟩:=h
 obtain⟨t,rfl⟩:=rx
 obtain⟨t',rfl⟩:=ry
 exact PySem.P.le_str (aK I q rfl)
theorem bH:OpR X (binaryOp .Mult) (λx y H Q=>∃i n,x=.str i/\y=.int n/\i.length<=1000/\0<=n/\n<=1000/\Q (.str (Txt.mul i n)) H):=by
 intro pins s σ H x y v u Q I rx ry h
 obtain⟨i,n,rfl,rfl,h1,h2,h3,q⟩:=h
 obtain⟨t,rfl⟩:=rx
 obtain⟨t',rfl⟩:=ry
 exact SB.mul (PyProof.Rows.mulOk_of 1000 1000 h1 () () () ()) λt' k=>⟨.str _,H,I.tok _,⟨_,rfl⟩,q⟩
theorem oo{s:η}{h':Heap}{o:Obj}(hk:∀b x,b∉[s.heap.objs.size]->(s.heap.push o).get? b=some x->h'.get? b=some x)(b:Addr)(x:Obj)(e:s.heap.get? b=some x):h'.get? b=some x:=
 hk b x (λz=>by rw[ξ.mp z]at e;exact r_ _ (ω e)) (μ _ e)
theorem pK:∀{bs:List Bool}{us:List ε},aw (bs.map V.bl) us->∀(i:Nat)(v:ε),us[i]?=some v->∃b,bs[i]?=some b/\v=.bool b
 |[],_,.nil,i,v,e=>by simp at e
 |b::bs,u::us,.cons r t,0,v,e=>by
  have e':u=v:=by simpa using e
  subst e'
  exact⟨b,rfl,r⟩
 |b::bs,u::us,.cons r t,i+1,v,e=>pK (bs:=bs) t i v (by simpa using e)
theorem gZ(hc:X.calm=true):dZ X (.builtin "all") (λxs H Q=>∃(a:Addr) (bs:List Bool),xs=[.ref a]/\SqL X.K H a (bs.map V.bl)/\Q (.bl (bs.all id)) H):=by
 intro pins s σ H xs us Q I r h
 obtain⟨a,bs,rfl,hq,q⟩:=h
 obtain⟨u,rfl,ru⟩:=ft r
 cases ru
 obtain⟨its,rv,p,hz⟩:=I.list hq
 have hl:=p.isList
 have hlt:a<s.heap.objs.size:=by obtain⟨_,e,_⟩:=hl;exact ω e
 refine call_all_walk (Hb hl ?_)
 refine⟨s.heap.objs.size,[s.heap.objs.size,a],[s.heap.objs.size],its.toArray.size,_,_,λi=>(bs[i]?).getD true,rfl,Walks.list (A:=X.A.in1) (I.ok.hd hc) _ a (ϑ hlt) its.toArray,
  ⟨⟨_,Β _ rfl,rfl,rfl⟩,hl.push _⟩,λi v s' Q' E' hP hQ=>?_,λh' tk hk=>?_⟩
 ·obtain⟨b,e,rfl⟩:=pK rv i v (by simpa using hP)
  simp only[e,Option.getD_some]at hQ
  exact d_ hQ
 ·have hlen:=rv.length
  have e:((Ϻ its.toArray.size).all λi=>(bs[i]?).getD true)=bs.all id:=by
   rw[Α,<-hlen,ς,w_,ϸ,ϸ]
   constructor
   ·intro z b hb
    obtain⟨i,hi,rfl⟩:=List.getElem_of_mem hb
    have:=z i (HM.mpr hi)
    simpa[hi]using this
   ·intro z i hi
    have hi':=HM.mp hi
    rw[Ι hi']
    exact z _ (List.getElem_mem hi')
  rw[e]
  exact⟨.bl _,H,I.kept (oo hk),rfl,q⟩
theorem bK:dZ X (.builtin "isinstance") (λxs H Q=>∃x t n b,xs=[x,.ty n]/\gc X.K H x t/\l_ X.K t (.type n)=some b/\Q (.bl b) H):=by
 intro pins s σ H xs us Q I r h
 obtain⟨x,t,n,b,rfl,ty,e,q⟩:=h
 obtain⟨u,w',rfl,rx,rn⟩:=mV r
 cases rn
 exact wM I rx ty e λtk=>⟨.bl b,H,I.tok tk,rfl,q⟩
theorem uS:∀{ys:List Str}{us:List ε},aw (ys.map V.str) us->StrsAre us ys
 |[],_,.nil=>.nil
 |y::ys,u::us,.cons r t=>by
  obtain⟨k,rfl⟩:=r
  exact .cons y k (uS t)
theorem pf:MtR X "str.join" (λx xs H Q=>∃(z:Str) (a:Addr) (ys:List Str),x=.str z/\xs=[.ref a]/\SqL X.K H a (ys.map V.str)/\(ys.map (·.length)).sum+ys.length*z.length<=16777216/\Q (.str (Txt.join z ys)) H):=by
 intro pins s σ H x xs v us Q I rx r h
 obtain⟨z,a,ys,rfl,rfl,hq,hz,q⟩:=h
 obtain⟨t,rfl⟩:=rx
 obtain⟨u,rfl,ru⟩:=ft r
 cases ru
 obtain⟨its,rv,p,_⟩:=I.list hq
 exact join_list p.isList (by simpa using uS rv) hz λt' k=>⟨.str _,H,I.tok _,⟨_,rfl⟩,q⟩
theorem kv:SlR X (λx lo hi H Q=>∃z,x=.str z/\z.length<=sizeLine/\Q (.str (Txt.slice z lo hi)) H):=by
 intro pins s σ H x v vl vu lo hi sl Q I rx hs pl pu h
 obtain⟨z,rfl,hz,q⟩:=h
 obtain⟨t,rfl⟩:=rx
 refine⟨"str",_,slot_str_getitem.lookup,E4 _ _ _,?_⟩
 have fin:(Txt.slice z lo hi).length<=sizeLine/\∀t' k,EP X pins σ Q (.str (Txt.slice z lo hi) t') {s with toks:=k}:=⟨ϕ (Txt.slice_le z _ _) hz,λt' k=>⟨.str _,H,I.tok _,⟨_,rfl⟩,q⟩⟩
 cases pl with
 |none=>
  cases pu with
  |none=>exact A3 (l:=none) (u:=none) (st:=none) hs rfl (Gs fin)
  |int j uj=>exact A3 (l:=none) (u:=some (j,uj)) (st:=none) hs rfl (Gs fin)
 |int i ui=>
  cases pu with
  |none=>exact A3 (l:=some (i,ui)) (u:=none) (st:=none) hs rfl (Gs fin)
  |int j uj=>exact A3 (l:=some (i,ui)) (u:=some (j,uj)) (st:=none) hs rfl (Gs fin)
end
open PySem PySem.Spec PyProof.Rows PySem.W
section
variable{cmp:Nat->Nat->(Bool->η->Prop)->η->Prop}{lt:Nat->Nat->Bool}{n:Nat}{s:η}
end
section
variable{X:Cx}{pins:List (Addr×Obj)}{σ:St}{H:Hp}{s:η}
end
open PySem PySem.Spec PyProof.Rows
def EI(N:List Str)(sc scope:C3)(ix:List Nat):Bool:=
 decide (scope.kind=.function)&&scope.names.all (λy=>decide (y.2≠.cell))&&scope.names.all (λy=>decide (y.2=.local->scope.names.lookup y.1=some .local)) &&
 scope.names.all (λy=>decide (y.2=.free->sc.names.lookup y.1=some .cell\/sc.names.lookup y.1=some .free)) &&
 ix.all (λj=>decide (j<N.length)&&match N[j]? with|some x=>scope.names.any (λy=>decide (y.1=x)&&decide (y.2=.free))&&decide (scope.names.lookup x=some .free)|none=>false)
theorem cE.of{N:List Str}{sc scope:C3}{own:List Str}{ix:List Nat}(h:EI N sc scope ix=true):cE N sc scope own ix:=by
 unfold EI at h
 simp only[ο,decide_eq_true_eq,ϸ]at h
 obtain⟨⟨⟨⟨h1,h2⟩,h3⟩,h4⟩,h5⟩:=h
 refine⟨h1,h2,h3,h4,λj hj x hx=>?_,λj hj=>(h5 j hj).1⟩
 have:=(h5 j hj).2
 rw[hx]at this
 simp only[ο,decide_eq_true_eq,n_]at this
 obtain⟨⟨⟨n,k⟩,hy,e1,e2⟩,e3⟩:=this
 have e1':n=x:=e1
 have e2':k=.free:=e2
 subst e1' e2'
 exact⟨hy,e3⟩
theorem bZ{l N:List Str}(h:l.Nodup)(e:N=l):N.Nodup:=by rw[e];exact h
structure Def(P:υ)(w:Κ)(K:ζ)(mg:Str->Option ε)(base:Heap)(k:Nat)(x:Str)(ps:List Str)(sp:Sp):Prop where
 ex:∃f fd,ap P w K mg base CX0 k f fd ps sp/\aU K fd ps []/\ϒ K (.ref f)=true/\mg x=some (.ref f)
theorem Def.up{P:υ}{w:Κ}{K:ζ}{mg:Str->Option ε}{base:Heap}{j k:Nat}{x:Str}{ps:List Str}{sp:Sp}(d:Def P w K mg base j x ps sp)(h:j<=k):Def P w K mg base k x ps sp:=
 let ⟨f,fd,F,b,kp,m⟩:=d.ex
 ⟨f,fd,F.mono h,b,kp,m⟩
theorem pe_def{X:Cx}{k:Nat}{x:Str}{ps:List Str}{sp:Sp}{p pos:Pos}{e:Expr}{es:List Expr}{t:TA}(d:Def X.prog X.w X.K X.mg X.base k x ps sp)(hr:bT k X.A)(hg:Gl X x)(ha:PA X (e::es) t)(hdb:(x==("__debug__" : Str))=false:=by decide)
  (he:starEach (e::es) X.env=(false,eval e X.env)::starEach es X.env:=by rfl) (hpl:(backTo pos (starEach es X.env)).any (·.1)=false:=by rfl):PE X (.Call (.Name x p) (e::es) [] pos) (mr sp [] E0 t):=by
 obtain⟨f,fd,F,b,kp,m⟩:=d.ex
 exact vb F hr hg m kp b .nil ce ha hdb he hpl
inductive Dv where
 |non|bl (b:Bool)|int (i:Int)|str (x:Str)|tup (xs:List Dv)|lst (xs:List Dv)|dct
mutual
def Rep(H:Hp):Dv->V->Prop
 |.non,v=>v=.non
 |.bl b,v=>v=.bl b
 |.int i,v=>v=.int i
 |.str x,v=>v=.str x
 |.tup ds,v=>∃a vs,v=.ref a/\H a=some (.tup vs)/\Reps H ds vs
 |.lst ds,v=>∃a vs,v=.ref a/\H a=some (.lst vs)/\Reps H ds vs
 |.dct,v=>∃a,v=.ref a/\H a=some (.dK [])
def Reps(H:Hp):List Dv->List V->Prop
 |[],vs=>vs=[]
 |d::ds,vs=>∃v r,vs=v::r/\Rep H d v/\Reps H ds r
end
mutual
theorem Rep.mono{H H':Hp}(s:aj H H'):∀{d:Dv}{v:V},Rep H d v->Rep H' d v
 |.non,_,h=>by simpa only[Rep]using h
 |.bl b,_,h=>by simpa only[Rep]using h
 |.int i,_,h=>by simpa only[Rep]using h
 |.str x,_,h=>by simpa only[Rep]using h
 |.tup ds,_,h=>by
  simp only[Rep]at h⊢
  obtain⟨a,vs,e,h1,h2⟩:=h
  exact⟨a,vs,e,s _ _ h1,Reps.mono s h2⟩
 |.lst ds,_,h=>by
  simp only[Rep]at h⊢
  obtain⟨a,vs,e,h1,h2⟩:=h
  exact⟨a,vs,e,s _ _ h1,Reps.mono s h2⟩
 |.dct,_,h=>by
  simp only[Rep]at h⊢
  obtain⟨a,e,h1⟩:=h
  exact⟨a,e,s _ _ h1⟩
theorem Reps.mono{H H':Hp}(s:aj H H'):∀{ds:List Dv}{vs:List V},Reps H ds vs->Reps H' ds vs
 |[],_,h=>by simpa only[Reps]using h
 |d::ds,_,h=>by
  simp only[Reps]at h⊢
  obtain⟨v,r,e,h1,h2⟩:=h
  exact⟨v,r,e,Rep.mono s h1,Reps.mono s h2⟩
end
theorem Reps.length{H:Hp}:∀{ds:List Dv}{vs:List V},Reps H ds vs->vs.length=ds.length
 |[],_,h=>by simp only[Reps]at h;subst h;rfl
 |d::ds,_,h=>by
  simp only[Reps]at h
  obtain⟨v,r,e,h1,h2⟩:=h
  subst e
  rw[χ,χ,Reps.length h2]
theorem Reps.get{H:Hp}:∀{ds:List Dv}{vs:List V},Reps H ds vs->∀{i:Nat}{v:V},vs[i]?=some v->∃d,ds[i]?=some d/\Rep H d v
 |[],_,h,i,v,e=>by simp only[Reps]at h;subst h;simp at e
 |d::ds,_,h,i,v,e=>by
  simp only[Reps]at h
  obtain⟨v',r,e',h1,h2⟩:=h
  subst e'
  cases i with
  | zero => exact ⟨d, rfl, by have : v' = v := by simpa using e
                              subst this;exact h1⟩
  |succ i=>obtain⟨d',e1,e2⟩:=Reps.get h2 (i:=i) (v:=v) (by simpa using e);exact⟨d',by simpa using e1,e2⟩
def Dv.tn:Dv->String
 |.non=>"NoneType" |.bl _=>"bool" |.int _=>"int" |.str _=>"str" |.tup _=>"tuple" |.lst _=>"list" |.dct=>"dict"
theorem Rep.ty{K:ζ}{H:Hp}{d:Dv}{v:V}(h:Rep H d v):gc K H v (.type d.tn):=by
 cases d with
 |non=>simp only[Rep]at h;subst h;exact .non
 |bl b=>simp only[Rep]at h;subst h;exact .bl b
 |int i=>simp only[Rep]at h;subst h;exact .int i
 |str x=>simp only[Rep]at h;subst h;exact .str x
 |tup ds=>simp only[Rep]at h;obtain⟨a,vs,rfl,h1,_⟩:=h;exact .tup h1
 |lst ds=>simp only[Rep]at h;obtain⟨a,vs,rfl,h1,_⟩:=h;exact .lst h1
 |dct=>simp only[Rep]at h;obtain⟨a,rfl,h1⟩:=h;exact .dK h1
def isT(d:Dv)(n:String):Bool:=d.tn==n||(d.tn=="bool" && n=="int")
theorem zy(K:ζ)(d:Dv):l_ K (.type d.tn) (.type "int")=some (isT d "int"):=by
 unfold l_ GU
 cases d<;>kernel_rfl
theorem pW(K:ζ)(d:Dv):l_ K (.type d.tn) (.type "bool")=some (isT d "bool"):=by
 unfold l_ GU
 cases d<;>kernel_rfl
theorem fE(K:ζ)(d:Dv):l_ K (.type d.tn) (.type "str")=some (isT d "str"):=by
 unfold l_ GU
 cases d<;>kernel_rfl
theorem en(K:ζ)(d:Dv):l_ K (.type d.tn) (.type "tuple")=some (isT d "tuple"):=by
 unfold l_ GU
 cases d<;>kernel_rfl
section
variable{k:Nat}{ix:List Nat}{g:TG}{tt:TT}{te:TE}{σ:St}{H1:Hp}{Q:List V->Hp->Prop}
theorem ki{f F:Nat->V}{n:Nat}(hs:∀i ys,i<n->ys.length=i->eJ k ix g tt te σ (f i) ys H1 λys' H'=>ys'=ys++[F i]/\H'=H1)(hd:Q ((Ϻ n).map F) H1):rLC (Itf f n) k ix g tt te σ H1 Q:=by
 refine⟨λi m ys H=>m=n-i/\i<=n/\H=H1/\ys=(Ϻ i).map F,⟨n,(),ϖ _,rfl,rfl⟩,?_⟩
 rintro i m ys H ⟨rfl,hi,rfl,rfl⟩
 by_cases hlt:i<n
 ·refine .inr ⟨hlt,λys' H'=>ys'=(Ϻ i).map F++[F i]/\H'=H,λys' H' ⟨e1,e2⟩=>⟨n-(i+1),(),rfl,hlt,e2,by rw[e1,List.range_succ,ϊ];rfl⟩,λx H' y=>?_⟩
  obtain⟨e,y⟩:=y
  subst e y
  exact hs i _ hlt ()
 ·have e:i=n:=by omega
  subst e
  exact .inl ⟨rfl,hd⟩
theorem bP{i:Nat}{x:V}{ys:List V}{H:Hp}{N:List V->Hp->Prop}(h:te ((cX k ix σ).set i (some x)) H λy H4=>ys.length<sizeLine/\N (ys++[y]) H4):eJ k ix (db i) yS te σ x ys H N:=by
 exact aD (B:=N ys H) h
theorem gH{i j:Nat}{K:ζ}{a:Addr}{x y:V}{ys:List V}{H:Hp}{N:List V->Hp->Prop}(ha:H a=some (.tup [x,y]))(h:te (((cX k ix σ).set i (some x)).set j (some y)) H λy H4=>ys.length<sizeLine/\N (ys++[y]) H4):
  eJ k ix (Aw K 2 (jr (db i) (jr (db j) wQ))) yS te σ (.ref a) ys H N:=by
 refine⟨a,_,rfl,SqT.of ha,rfl,_,_,rfl,_,_,rfl,rfl,?_⟩
 exact aD (B:=N ys H) h
end
mutual
def Dv.small:Dv->Bool
 |.str x=>decide (x.cps.size<=1000)
 |.tup xs=>smalls xs&&decide (xs.length<=1000)
 |.lst xs=>smalls xs&&decide (xs.length<=1000)
 |_=>true
def smalls:List Dv->Bool
 |[]=>true
 |d::ds=>d.small&&smalls ds
end
theorem dc:∀{ds:List Dv},smalls ds=true->∀{i:Nat}{d:Dv},ds[i]?=some d->d.small=true
 |[],_,i,d,e=>by simp at e
 |x::ds,h,i,d,e=>by
  simp only[smalls,ο]at h
  cases i with
  |zero=>
   have e':x=d:=by simpa using e
   subst e';exact h.1
  |succ i=>exact dc h.2 (i:=i) (by simpa using e)
theorem vj{x:Str}(h:x.cps.size<=1000):x.length<=sizeLine:=A5 (wJ h)
theorem ac{H:Hp}{p:Addr}(h:H p=none)(o:HO):aj H (upd H p o):=λb u q=>by rw[ai (ao q h)];exact q
section
variable{X:Cx}
def En(K:ζ):R2:=λx y H Q=>∃a b xs ys,x=.ref a/\y=.ref b/\SqT K H a xs/\SqT K H b ys/\xs.length+ys.length<=sizeLine /\
 (xs=[]->Q (.ref b) H)/\(ys=[]->Q (.ref a) H)/\(∀p,H p=none->Q (.ref p) (upd H p (.tup (xs++ys))))
theorem vA:OpR X (binaryOp .Add) (En X.K):=by
 intro pins s σ H x y v u Q I rx ry h
 obtain⟨a,b,xs,ys,rfl,rfl,ha,hb,hz,q0,q1,q2⟩:=h
 by_cases hx:xs=[]
 ·cases rx
  cases ry
  obtain⟨its,r1,p1,_⟩:=I.tuple ha
  obtain⟨its2,r2,p2,_⟩:=I.tuple hb
  subst hx
  cases r1
  obtain⟨⟨cls,dd,data,sl⟩,ho,hc,n,hd⟩:=id p1
  obtain⟨⟨cls2,dd2,data2,sl2⟩,ho2,hc2,n2,hd2⟩:=id p2
  simp only at hc hd hc2 hd2
  subst hc hd hc2 hd2
  exact concat_meets ⟨_,ho,rfl⟩ ⟨_,ho2,rfl⟩ Hk seq_tuple_add E_ E6 (C7 _ _) (tuple_addW0 a b _ _ n n2 dd dd2 sl sl2 rfl) ⟨ho,ho2,⟨.ref b,H,I,rfl,q0 rfl⟩⟩
 ·exact Ac pins s σ H (.ref a) (.ref b) v u Q I rx ry ⟨a,b,xs,ys,rfl,rfl,ha,hb,hx,hz,q1,λ_=>q2⟩
end
section
variable{σ:St}{H:Hp}{d e:Dv}{ds es:List Dv}{ta tb:TE}{t:TA}
theorem Reps.append{H:Hp}:∀{ds es:List Dv}{vs ws:List V},Reps H ds vs->Reps H es ws->Reps H (ds++es) (vs++ws)
 |[],_,_,_,h,g=>by simp only[Reps]at h;subst h;exact g
 |d::ds,es,vs,ws,h,g=>by
  simp only[Reps]at h
  obtain⟨v,r,rfl,h1,h2⟩:=h
  simp only[Ϛ,Reps]
  exact⟨v,r++ws,rfl,h1,Reps.append h2 g⟩
end
def be(H:Hp)(l:Addr):Hp:=λb=>if b=l then none else H b
theorem bL{H:Hp}{l:Addr}:aj (be H l) H:=λb o h=>by
 unfold be at h
 by_cases e:b=l
 ·rw[Q5 e]at h;cases h
 ·rw[Q6 e]at h;exact h
theorem bI{H H':Hp}{l:Addr}(s:aj H H'):aj (be H l) (be H' l):=λb o h=>by
 unfold be at h⊢
 by_cases e:b=l
 ·rw[Q5 e]at h;cases h
 ·rw[Q6 e]at h⊢;exact s b o h
theorem gN{H H':Hp}{l:Addr}(s:aj H H')(hl:H l=none):aj H (be H' l):=λb o h=>by
 unfold be
 rw[Q6 (ao h hl)]
 exact s b o h
theorem wq{H:Hp}{l p:Addr}{o:HO}(hl:H l≠none)(hp:H p=none):be (upd H p o) l p=some o/\aj (be H l) (be (upd H p o) l):=by
 have ne:p≠l:=λe=>hl (e▸hp)
 refine⟨?_,bI (ac hp o)⟩
 unfold be
 rw[Q6 ne,aa]
section
variable{σ:St}{H:Hp}{d e:Dv}{ds es:List Dv}{ta tb:TE}{t:TA}{l:Addr}
variable{i:Nat}{u:TS}{D:dI}
end
section
variable{X:Cx}
end
section
variable{prog:υ}{w:Κ}{K:Type}[DecidableEq K]{knd:PySem.KeyKind prog w K}{A:Υ}{R:Ht->η->Prop}{I d:Addr}{fp wr:List Addr}{n:Nat}{P:Nat->ε->Prop}{St:Nat->Heap->Prop}
end
section
variable{prog:υ}{w:Κ}{K:Type}[DecidableEq K]{knd:PySem.KeyKind prog w K}{A:Υ}{E:ε->η->Prop}{s:η}
end
section
variable{X:Cx}
end
open PySem PySem.Spec PyProof.Rows PySem.W
section
variable{X:Cx}{pins:List (Addr×Obj)}{σ:St}{H:Hp}{s:η}
end
open PySem PySem.Spec PyProof.Rows
theorem CD{A:Υ}{s:η}{l b:Addr}{items items2:Array ε}(hl:s.heap.IsTuple l items)(hb:s.heap.IsTuple b items2)(hsz:items.size=items2.size)(hu:A.units<cLine)
  (he:∀j (h1:j<items.size) (h2:j<items2.size),ϣ A.in1 s items[j] items2[j] true):ϣ A s (.ref l) (.ref b) true:=by
 by_cases h:l=b
 ·subst h;exact HI _
 ·have r:=Hw.tuples (e:=λ_=>true) hl hb hu he
  have e:((Ϻ (min items.size items2.size)).all (λ_=>true)&&items.size==items2.size)=true:=by simp[hsz]
  rw[e]at r
  exact ϣ.of_refs h r
def fZ(n:Nat)(d:Dv):Prop:=∀(X:Cx)(pins:List (Addr×Obj))(σ:St)(H:Hp)(s:η),Inv X pins σ H s->∀(A:Υ)(v w:V)(a b:ε),A.units+n<cLine->Rep H d v->Rep H d w->aL v a->aL w b->ϣ A s a b true
theorem fZ.mono{m n:Nat}{d:Dv}(h:fZ m d)(l:m<=n):fZ n d:=λX pins σ H s I A v w a b hu=>h X pins σ H s I A v w a b ()
theorem eg{i:Int}:fZ 0 (.int i):=λX pins σ H s I A v w a b hu r1 r2 q1 q2=>by
 simp only[Rep]at r1 r2
 subst r1 r2
 obtain⟨t,rfl⟩:=(show ∃t,a=E5 i t from q1)
 obtain⟨t',rfl⟩:=(show ∃t,b=E5 i t from q2)
 have e:=ϣ.int_int (A:=A) (s:=s) i t i t'
 rwa[beq_self_eq_true]at e
theorem dQ{x:Str}:fZ 0 (.str x):=λX pins σ H s I A v w a b hu r1 r2 q1 q2=>by
 simp only[Rep]at r1 r2
 subst r1 r2
 obtain⟨t,rfl⟩:=(show ∃t,a=GG x t from q1)
 obtain⟨t',rfl⟩:=(show ∃t,b=GG x t from q2)
 have e:=ϣ.str_str (A:=A) (s:=s) x t x t'
 rwa[beq_self_eq_true]at e
section
variable{X:Cx}{pins:List (Addr×Obj)}{σ:St}{H:Hp}{s:η}
theorem eF(I:Inv X pins σ H s){A:Υ}{n:Nat}{ds:List Dv}{vs ws:List V}{its its2:List ε}(h:∀d∈ds,fZ n d)(hu:A.units+n<cLine)(rs1:Reps H ds vs)(rs2:Reps H ds ws)(rv1:aw vs its)(rv2:aw ws its2):
  its.toArray.size=its2.toArray.size/\∀j (h1:j<its.toArray.size) (h2:j<its2.toArray.size),ϣ A s its.toArray[j] its2.toArray[j] true:=by
 have l1:=rs1.length
 have l2:=rs2.length
 have l3:=rv1.length
 have l4:=rv2.length
 refine⟨by simp;omega,λj h1 h2=>?_⟩
 have hj:j<its.length:=by simpa using h1
 have hj2:j<its2.length:=by simpa using h2
 obtain⟨u,hu1,ru⟩:=aw.get (i:=j) (x:=vs[j]'()) rv1 (Ι _)
 obtain⟨u2,hu2,ru2⟩:=aw.get (i:=j) (x:=ws[j]'()) rv2 (Ι _)
 obtain⟨d,hd,Rd⟩:=rs1.get (i:=j) (v:=vs[j]'()) (Ι _)
 obtain⟨d2,hd2,Rd2⟩:=rs2.get (i:=j) (v:=ws[j]'()) (Ι _)
 rw[hd]at hd2
 cases hd2
 have e1:its.toArray[j]=u:=by
  rw[Ι hj]at hu1
  simpa using ϧ hu1
 have e2:its2.toArray[j]=u2:=by
  rw[Ι hj2]at hu2
  simpa using ϧ hu2
 rw[e1,e2]
 exact h d (Ϝ hd) X pins σ H s I A _ _ _ _ hu Rd Rd2 ru ru2
end
theorem de{n:Nat}{ds:List Dv}(h:∀d∈ds,fZ n d):fZ (n+1) (.tup ds):=λX pins σ H s I A v w a b hu r1 r2 q1 q2=>by
 simp only[Rep]at r1 r2
 obtain⟨l,vs,rfl,h1,rs1⟩:=r1
 obtain⟨b',ws,rfl,h2,rs2⟩:=r2
 cases q1
 cases q2
 obtain⟨its,rv1,p1,_⟩:=I.tuple (SqT.of h1)
 obtain⟨its2,rv2,p2,_⟩:=I.tuple (SqT.of h2)
 have hu':A.in1.units+n<cLine:=by show A.units+1+n<cLine;omega
 obtain⟨z,q⟩:=eF I (A:=A.in1) h hu' rs1 rs2 rv1 rv2
 exact CD p1 p2 z () q
section
variable{X:Cx}
theorem xn(hu:X.A.units+8<cLine):OpR X (compareOp .NotEq) (λx y H Q=>∃ds:List Dv,Rep H (.tup ds) x/\Rep H (.tup ds) y/\(∀d∈ds,fZ 6 d)/\Q (.bl false) H):=by
 intro pins s σ H x y v u Q I rx ry h
 obtain⟨ds,r1,r2,hd,q⟩:=h
 simp only[Rep]at r1 r2
 obtain⟨l,vs,rfl,h1,rs1⟩:=r1
 obtain⟨b',ws,rfl,h2,rs2⟩:=r2
 cases rx
 cases ry
 obtain⟨its,rv1,p1,_⟩:=I.tuple (SqT.of h1)
 obtain⟨its2,rv2,p2,_⟩:=I.tuple (SqT.of h2)
 have hu':X.A.in1.units+6<cLine:=by show X.A.units+1+6<cLine;omega
 obtain⟨z,w⟩:=eF I (A:=X.A.in1) hd hu' rs1 rs2 rv1 rv2
 refine SeqAt.RcNeAt.tuples (e:=λ_=>true) p1 p2 () w X.prog X.w X.xe _ ?_
 have e:(!((Ϻ (min its.toArray.size its2.toArray.size)).all (λ_=>true)&&its.toArray.size==its2.toArray.size))=false:=by simp[z]
 rw[e]
 exact⟨.bl false,H,I,rfl,q⟩
theorem yB(hu:X.A.units+8<cLine):OpR X (compareOp .Eq) (λx y H Q=>∃ds:List Dv,Rep H (.tup ds) x/\Rep H (.tup ds) y/\(∀d∈ds,fZ 6 d)/\Q (.bl true) H):=by
 intro pins s σ H x y v u Q I rx ry h
 obtain⟨ds,r1,r2,hd,q⟩:=h
 simp only[Rep]at r1 r2
 obtain⟨l,vs,rfl,h1,rs1⟩:=r1
 obtain⟨b',ws,rfl,h2,rs2⟩:=r2
 cases rx
 cases ry
 obtain⟨its,rv1,p1,_⟩:=I.tuple (SqT.of h1)
 obtain⟨its2,rv2,p2,_⟩:=I.tuple (SqT.of h2)
 have hu':X.A.in1.units+6<cLine:=by show X.A.units+1+6<cLine;omega
 obtain⟨z,w⟩:=eF I (A:=X.A.in1) hd hu' rs1 rs2 rv1 rv2
 refine Hw.tuples (e:=λ_=>true) p1 p2 () w X.prog X.w X.xe _ ?_
 have e:((Ϻ (min its.toArray.size its2.toArray.size)).all (λ_=>true)&&its.toArray.size==its2.toArray.size)=true:=by simp[z]
 rw[e]
 exact⟨.bl true,H,I,rfl,q⟩
end
theorem Ce{A:Υ}{k:Nat}(hr:bT k A):A.units+8<cLine:=by have:=hr.un;omega
structure wo(K:ζ)(x qual:Str)(st:Stmt)(f:Addr)(fd:Γ)(dV:ε):Prop where
 ex:∃(oc:ε) (od:Option Addr) (kV doc pm:ε) (an:Option Addr) (cdv ct:ε) (osl:Array (Option ε)),
  fd=ϻ x qual (bE st) (bc st) (af st) dV kV doc pm an cdv ct/\K.lookup f=some ⟨oc,od,.func fd,osl⟩/\m4 K cdv qual=true
section
variable{P:υ}{w:Κ}{K:ζ}{mg:Str->Option ε}{base:Heap}
theorem wo.ok{x qual:Str}{st:Stmt}{f:Addr}{fd:Γ}{dV:ε}{N ps:List Str}{k:Nat}{sp:Sp}(F:wo K x qual st f fd dV)(S:am N ps (af st))(len:∀vs H Q E,sp vs H Q E->vs.length=ps.length)
  (hbody:∀(cdv:ε)(A:Υ)(outer:List Env)(s:η)(H:Hp)(vs:List V)(Q:VK)(E:XK),bT k (A.deeper (C6 qual (af st) s.heap.objs.size f cdv))->sp vs H Q E ->
   ∃t,PSs (bf CX0 P w K mg base N qual (af st) f cdv A outer s H E).nox (bc st) t/\t {nx:=λ_ H'=>Q .non H',rt:=Q} (dw N vs) H):ap P w K mg base CX0 (k+1) f fd ps sp:=by
 obtain⟨oc,od,kV,doc,pm,an,cdv,ct,osl,rfl,lk,hcd⟩:=F.ex
 refine yb lk hcd S len λA outer s H vs Q E hr hsp=>?_
 obtain⟨t,h,q⟩:=hbody cdv A outer s H vs Q E hr hsp
 exact⟨t,h.nox,q⟩
theorem wo.binds{x qual:Str}{st:Stmt}{f T:Addr}{fd:Γ}{ps:List Str}{ds:List ε}{oT:Obj}{its:Array ε}{n:Nat}(F:wo K x qual st f fd (.ref T))(lT:K.lookup T=some oT)(dT:oT.data=.seq its n)
  (h:∀(kV doc pm:ε)(an:Option Addr)(cdv ct:ε)(us:List ε),(us++ds).length=ps.length->∃kk:Option (Array ε)->Sem (List (Str×ε)),bindArgs (ϻ x qual (bE st) (bc st) (af st) (.ref T) kV doc pm an cdv ct) ⟨us,[]⟩=seqItems? (.ref T)>>=kk/\kk (some its)=pure (ps.zip (us++ds))):aU K fd ps ds:=by
 obtain⟨oc,od,kV,doc,pm,an,cdv,ct,osl,rfl,lk,hcd⟩:=F.ex
 intro s us hin hl
 obtain⟨kk,h1,h2⟩:=h kV doc pm an cdv ct us hl
 exact Hu.of_defaults (T:=T) rfl (hin T oT lT) dT h1 h2
end
open PySem PySem.Spec PyProof.Rows PySem.W
section
variable{X:Cx}{e st:Expr}{te:TE}{ts:TO}{p2 pos:Pos}
end
section
variable{X:Cx}
end
section
variable{P:υ}{w:Κ}{A:Υ}{E:ε->η->Prop}{s:η}
end
section
variable{P:υ}{w:Κ}{A:Υ}{R:Ht->η->Prop}{I:Addr}{fp wr:List Addr}{G:Array B0->Array B0->Prop}{n:Nat}{Pv:Nat->ε->Prop}{St:Nat->η->Prop}
end
section
variable{P:υ}{w:Κ}{A:Υ}{E:ε->η->Prop}{s:η}
end
section
variable{P:υ}{w:Κ}{A:Υ}{E:ε->η->Prop}
variable{s:η}{it S:Addr}{o:Obj}{es:Array (Int×ε)}{ep n i:Nat}{t:HZ}
end
section
variable{P:υ}{w:Κ}{A:Υ}{E:ε->η->Prop}{s:η}{it S:Addr}{o:Obj}{es:Array (Int×ε)}{ep n i:Nat}{t:HZ}
end
section
variable{P:υ}{w:Κ}{A:Υ}{E:ε->η->Prop}{s:η}{it S tp:Addr}{o ot:Obj}{es:Array (Int×ε)}{ep n i m:Nat}{t:HZ}{pl:Array ε}
end
section
variable{P:υ}{w:Κ}{A:Υ}{E:ε->η->Prop}{s:η}{S:Addr}{o:Obj}{es:Array (Int×ε)}{ep:Nat}{t:HZ}
end
section
variable{P:υ}{w:Κ}{it S tp:Addr}{o ot:Obj}{es:Array (Int×ε)}{ep m:Nat}{t:HZ}
end
section
variable{P:υ}{w:Κ}{A:Υ}{E:ε->η->Prop}{s:η}{S:Addr}{xs:List Str}
variable{R:Ht->η->Prop}{it L:Addr}{fp:List Addr}{vs:List ε}{St:Nat->Heap->Prop}
end
section
variable{P:υ}{w:Κ}{A:Υ}{E:ε->η->Prop}{s:η}{S:Addr}{xs:List Str}
end
section
variable{X:Cx}{pins:List (Addr×Obj)}{σ:St}{H:Hp}{s:η}
end
section
variable{X:Cx}
theorem zq{j:Int}(h0:0<j)(h1:j<10^60):j.natAbs.log2<9000:=by
 have hn:j.natAbs<2^200:=by omega
 have:=(Nat.log2_lt (n:=j.natAbs) (k:=200) ()).mpr hn
 omega
def Eg(i j:Int):Prop:=0<j/\j<10^60
theorem qo:OpR X (binaryOp .FloorDiv) (rI Eg λi j=>.int (i/j)):=opI λi j _ _ _ _ _ hc q=>by
 have h1:(0:Int)<j:=hc.1
 exact floordiv_int () (by rw[Int.fdiv_eq_ediv_of_nonneg i ()];exact q) (.inl (PyProof.noPylong_of_log2 (zq hc.1 hc.2)))
end
open PySem PySem.Spec PyProof.Rows
section
variable{prog:υ}{w:Κ}{A:Υ}{E:ε->η->Prop}{s:η}
theorem bC{it t:Addr}{i:Nat}{its:Array ε}{x:ε}{Q:ε->η->Prop}(hit:s.heap.IsTupleIter it t i)(ht:s.heap.IsTuple t its)(hx:its[i]?=some x)
  (hQ:∀h',h'.IsTupleIter it t (i+1)->B_ it s.heap h'->Q x {s with heap:=h'}):wpAny (model prog w) A (ό (.ref it)) Q E s:=by
 obtain⟨o,ho,hc,hd⟩:=id hit
 obtain⟨ol,hol,_,nl,hdl⟩:=ht
 unfold ό
 refine δ (ϩ (name:=γ "__next__") hit.typeIs t_ (j8 t_ hit.typeIs GD ?_ (Gu _)))
 show wpAny _ _ (field (.ref it) 0>>=_) _ _ s;refine δ (ύ ho hd (x:=.ref t) rfl ?_)
 show wpAny _ _ (if (Λ t==j6)=true then _ else _) _ _ s;rw[Q6 (show ¬ ((Λ t==j6)=true)from Ζ)]
 show wpAny _ _ (field (.ref it) 1>>=_) _ _ s;refine δ (ύ ho hd (x:=.int i 0) rfl ?_)
 show wpAny _ _ (seqItems? (.ref t)>>=_) _ _ s;refine δ (Ϲ hol hdl ?_);simp only[He,hx]
 refine δ (F1 ho hd () (ρ ⟨x,rfl,ρ (hQ _ ⟨_,i6 _ ho (F7 (A7 hd _)),(Obj.cls_mapFields ..).trans hc,by rw[A7 hd];simp[rawInt]⟩ (B_.update ..))⟩))
theorem df{it t:Addr}{i:Nat}{its:Array ε}{Q:ε->η->Prop}(hh:A.handled=none)(hit:s.heap.IsTupleIter it t i)(ht:s.heap.IsTuple t its)(hx:its[i]?=none)
  (hE:∀h' e,Heap.ExtBut it s.heap h'->(∃o,h'.get? e=some o/\o.cls=.type "StopIteration")->E (.ref e) {s with heap:=h'}):wpAny (model prog w) A (ό (.ref it)) Q E s:=by
 obtain⟨o,ho,hc,hd⟩:=id hit
 obtain⟨ol,hol,_,nl,hdl⟩:=ht
 unfold ό
 refine δ (ϩ (name:=γ "__next__") hit.typeIs t_ (j8 t_ hit.typeIs GD ?_ (Gu _)))
 show wpAny _ _ (field (.ref it) 0>>=_) _ _ s;refine δ (ύ ho hd (x:=.ref t) rfl ?_)
 show wpAny _ _ (if (Λ t==j6)=true then _ else _) _ _ s;rw[Q6 (show ¬ ((Λ t==j6)=true)from Ζ)]
 show wpAny _ _ (field (.ref it) 1>>=_) _ _ s;refine δ (ύ ho hd (x:=.int i 0) rfl ?_)
 show wpAny _ _ (seqItems? (.ref t)>>=_) _ _ s;refine δ (Ϲ hol hdl ?_);simp only[He,hx]
 refine δ (B8 (δ (F1 ho hd () ?_)));show wpAny _ _ (newExc (.type "StopIteration") []>>=_) _ _ _
 refine δ ?_;simp only[newExc,newTuple];refine δ (ϝ ?_ (by size_fits))
 refine δ (m:=firstArgMember _ _) (wpAny_of_eq (a:=j6) (by first|rfl|(simp only[firstArgMember];rfl)) (ϝ ?_ (by size_fits)))
 simp only[raiseNew];refine δ (wpAny_handled ?_);first|rw[show A.in1.handled=none from hh]|rw[hh]
 refine δ (ρ (wpAny_throw (hE _ _ (((B_.update ..).extBut.push _).push _) ⟨_,Β _ rfl,rfl⟩)))
end
section
variable{X:Cx}
end
open PySem PySem.Spec PyProof.Rows PySem.W
section
variable{X:Cx}
variable{tg:Expr}
end
mutual
theorem Rep.inj{H:Hp}:∀(d e:Dv)(v:V),Rep H d v->Rep H e v->d=e
 |.tup ds,e,v,h1,h2=>by
  simp only[Rep]at h1
  obtain⟨a,vs,rfl,ha,rs⟩:=h1
  cases e with
  |tup es=>simp only[Rep]at h2;obtain⟨b,ws,eb,hb,rs2⟩:=h2;cases eb;rw[ha]at hb;cases hb;rw[Reps.inj ds es vs rs rs2]
  |lst es=>simp only[Rep]at h2;obtain⟨b,ws,eb,hb,rs2⟩:=h2;cases eb;rw[ha]at hb;cases hb
  |dct=>simp only[Rep]at h2;obtain⟨b,eb,hb⟩:=h2;cases eb;rw[ha]at hb;cases hb
  |_=>simp only[Rep]at h2;cases h2
 |.lst ds,e,v,h1,h2=>by
  simp only[Rep]at h1
  obtain⟨a,vs,rfl,ha,rs⟩:=h1
  cases e with
  |lst es=>simp only[Rep]at h2;obtain⟨b,ws,eb,hb,rs2⟩:=h2;cases eb;rw[ha]at hb;cases hb;rw[Reps.inj ds es vs rs rs2]
  |tup es=>simp only[Rep]at h2;obtain⟨b,ws,eb,hb,rs2⟩:=h2;cases eb;rw[ha]at hb;cases hb
  |dct=>simp only[Rep]at h2;obtain⟨b,eb,hb⟩:=h2;cases eb;rw[ha]at hb;cases hb
  |_=>simp only[Rep]at h2;cases h2
 |.dct,e,v,h1,h2=>by
  simp only[Rep]at h1
  obtain⟨a,rfl,ha⟩:=h1
  cases e with
  |dct=>rfl
  |tup es=>simp only[Rep]at h2;obtain⟨b,ws,eb,hb,rs2⟩:=h2;cases eb;rw[ha]at hb;cases hb
  |lst es=>simp only[Rep]at h2;obtain⟨b,ws,eb,hb,rs2⟩:=h2;cases eb;rw[ha]at hb;cases hb
  |_=>simp only[Rep]at h2;cases h2
 |.non,e,v,h1,h2=>by
  simp only[Rep]at h1;subst h1
  cases e with
  |non=>rfl
  |tup es=>simp only[Rep]at h2;obtain⟨b,ws,eb,_⟩:=h2;cases eb
  |lst es=>simp only[Rep]at h2;obtain⟨b,ws,eb,_⟩:=h2;cases eb
  |dct=>simp only[Rep]at h2;obtain⟨b,eb,_⟩:=h2;cases eb
  |_=>simp only[Rep]at h2;cases h2
 |.bl _,e,v,h1,h2=>by
  simp only[Rep]at h1;subst h1
  cases e with
  |bl b=>simp only[Rep]at h2;cases h2;rfl
  |tup es=>simp only[Rep]at h2;obtain⟨b,ws,eb,_⟩:=h2;cases eb
  |lst es=>simp only[Rep]at h2;obtain⟨b,ws,eb,_⟩:=h2;cases eb
  |dct=>simp only[Rep]at h2;obtain⟨b,eb,_⟩:=h2;cases eb
  |_=>simp only[Rep]at h2;cases h2
 |.int _,e,v,h1,h2=>by
  simp only[Rep]at h1;subst h1
  cases e with
  |int b=>simp only[Rep]at h2;cases h2;rfl
  |tup es=>simp only[Rep]at h2;obtain⟨b,ws,eb,_⟩:=h2;cases eb
  |lst es=>simp only[Rep]at h2;obtain⟨b,ws,eb,_⟩:=h2;cases eb
  |dct=>simp only[Rep]at h2;obtain⟨b,eb,_⟩:=h2;cases eb
  |_=>simp only[Rep]at h2;cases h2
 |.str _,e,v,h1,h2=>by
  simp only[Rep]at h1;subst h1
  cases e with
  |str b=>simp only[Rep]at h2;cases h2;rfl
  |tup es=>simp only[Rep]at h2;obtain⟨b,ws,eb,_⟩:=h2;cases eb
  |lst es=>simp only[Rep]at h2;obtain⟨b,ws,eb,_⟩:=h2;cases eb
  |dct=>simp only[Rep]at h2;obtain⟨b,eb,_⟩:=h2;cases eb
  |_=>simp only[Rep]at h2;cases h2
theorem Reps.inj{H:Hp}:∀(ds es:List Dv)(vs:List V),Reps H ds vs->Reps H es vs->ds=es
 |[],es,vs,h1,h2=>by
  simp only[Reps]at h1;subst h1
  cases es with
  |nil=>rfl
  |cons e es=>simp only[Reps]at h2;obtain⟨v,r,e2,_⟩:=h2;cases e2
 |d::ds,es,vs,h1,h2=>by
  simp only[Reps]at h1
  obtain⟨v,r,rfl,r1,rs1⟩:=h1
  cases es with
  |nil=>simp only[Reps]at h2;cases h2
  |cons e es=>
   simp only[Reps]at h2
   obtain⟨v2,r2,e2,r3,rs3⟩:=h2
   cases e2
   rw[Rep.inj d e v r1 r3,Reps.inj ds es r rs1 rs3]
end
section
variable{X:Cx}{pins:List (Addr×Obj)}{σ:St}{H:Hp}{s:η}
end
section
variable{X:Cx}
end
theorem xC{A:Υ}{k:Nat}(hr:bT k A):A.units+150<cLine:=by have:=hr.un;omega
section
variable{X:Cx}{k:Nat}{f:Addr}{fd:Γ}{ps:List Str}{sp:Sp}{x:Str}{p pos:Pos}{e:Expr}{es:List Expr}{t:TA}
def DD(f:Addr)(i:Nat)(sp:Sp)(t:TA):TE:=λσ H Q=>σ[i]?=some (some (.ref f))/\t σ H λvs H1=>sp (vs++[]) H1 Q E0
theorem pe_callV(i:Nat)(F:ap X.prog X.w X.K X.mg X.base CX0 k f fd ps sp)(hr:bT k X.A)(hk:ϒ X.K (.ref f)=true)(hb:aU X.K fd ps [])(ha:PA X (e::es) t)(hN:X.N[i]?=some x:=by rfl)
  (hv:Vis X.env.scope x:=by first|exact Ν rfl|exact GT (Ν rfl)|exact GT (GT rfl)) (hd:(x==("__debug__" : Str))=false:=by decide) (hcd:(x==("__classdict__" : Str))=false:=by decide)
  (he:starEach (e::es) X.env=(false,eval e X.env)::starEach es X.env:=by rfl) (hpl:(backTo pos (starEach es X.env)).any (·.1)=false:=by rfl):PE X (.Call (.Name x p) (e::es) [] pos) (DD f i sp t):=by
 intro pins s σ H Q I h
 obtain⟨h1,h2⟩:=h
 refine j7 (thn (yl (X:=X) (pos:=p) hN hv hd hcd pins s σ H (λv H'=>v=.ref f/\H'=H) I ⟨_,h1,rfl,rfl⟩) λu s1 ⟨v,H1,I1,r1,e1,e2⟩=>?_)
 subst e1 e2
 cases r1
 exact m_ (h₀:=X.base) I1.ok.mod.kin hk (thn (ha pos pins s1 σ _ _ I1 h2) λus s2 ⟨vs,H2,I2,r,q⟩=>⟨I2.kIn,oH F hr hb .nil ce I2 r q⟩) he hpl
end
section
variable{prog:υ}{w:Κ}{A:Υ}{E:ε->η->Prop}{s:η}{r l S:Addr}{items:Array ε}
end
section
variable{X:Cx}{e:Expr}{te:TE}{p p1 pos pos1:Pos}
end
theorem aW{h:Heap}{a b:Addr}{o u:Obj}(h1:h.get? a=some o)(h2:h.get? b=some u)(n:o.cls≠u.cls):a≠b:=λz=>by subst z;rw[h1]at h2;cases h2;exact n rfl
section
variable{X:Cx}
end
section
variable{X:Cx}{pins:List (Addr×Obj)}{s:η}{σ:St}{H:Hp}
end
section
variable{X:Cx}
end
section
end
section
variable{prog:υ}{w:Κ}{A:Υ}{E:ε->η->Prop}{s:η}
end
section
variable{X:Cx}{tg e:Expr}{ta:TA}{p pos:Pos}
end
section
variable{X:Cx}
end
open PySem PySem.Spec PyProof.Rows
section
variable{σ:St}{H:Hp}{d e:Dv}{ds es:List Dv}{ta tb:TE}{t:TA}{l:Addr}
variable{i:Nat}{u:TS}{D:dI}
end
open PySem PySem.Spec PyProof.Rows PySem.W
abbrev TF:=St->Hp->Str->(Str->Hp->Prop)->Prop
section
variable{X:Cx}
def PF(X:Cx)(es:List Expr)(t:TF):Prop:=∀(pins:List (Addr×Obj))(s:η)(σ:St)(H:Hp)(acc:Str)(Q:Str->Hp->Prop),Inv X pins σ H s->t σ H acc Q->Joins (model X.prog X.w) X.A X.xe (evalEach es X.env) acc (λout s'=>∃H',Inv X pins σ H' s'/\Q out H') s
def DV:TF:=λ_ H acc Q=>Q acc H
def CC(te:TE)(t:TF):TF:=λσ H acc Q=>te σ H λx H1=>∃y,x=.str y/\(acc++y).length<=sizeLine/\t σ H1 (acc++y) Q
def tFv(te:TE):TE:=λσ H Q=>te σ H λx H1=>∃y,x=.str y/\y.length<=sizeLine/\Q (.str y) H1
def tFs(t:TF):TE:=λσ H Q=>t σ H Hj λout H'=>out.length<=sizeLine/\Q (.str out) H'
theorem pf_nil:PF X [] DV:=λpins s σ H acc Q I h=>⟨H,I,h⟩
theorem pf_cons{e:Expr}{es:List Expr}{te:TE}{t:TF}(he:PE X e te)(hr:PF X es t):PF X (e::es) (CC te t):=λpins s σ H acc Q I h=>
 thn (he pins s σ H _ I h) λv s1 ⟨x,H1,I1,r1,y,ex,hy,q⟩=>by
  subst ex
  obtain⟨k,rfl⟩:=r1
  exact⟨y,k,rfl,hy,hr pins s1 σ H1 (acc++y) Q I1 q⟩
theorem pe_fv{e:Expr}{te:TE}{pos:Pos}(he:PE X e te):PE X (.FormattedValue e (-1) none pos) (tFv te):=λpins s σ H Q I h=>
 GV (thn (he pins s σ H _ I h) λv s1 ⟨x,H1,I1,r1,y,ex,hy,q⟩=>by
  subst ex
  obtain⟨k,rfl⟩:=r1
  exact wpAny_formatField_str ⟨.str y,H1,I1,⟨k,rfl⟩,q⟩ ⟨.str y,H1,I1.tok _,⟨_,rfl⟩,q⟩ hy)
theorem mF{M:Hz}{A:Υ}{E:ε->η->Prop}:∀{es:List (Sem ε)}{acc:Str}{Q Q':Str->η->Prop}{s:η},(∀o s',Q o s'->Q' o s')->Joins M A E es acc Q s->Joins M A E es acc Q' s
 |[],_,_,_,_,h,j=>h _ _ j
 |x::es,acc,Q,Q',s,h,j=>ϴ j (λv s1 ⟨y,k,e,hy,j'⟩=>⟨y,k,e,hy,mF h j'⟩) λ_ _ e=>e
theorem pe_fstr{a b:Expr}{es:List Expr}{t:TF}{pos:Pos}(h:PF X (a::b::es) t):PE X (.JoinedStr (a::b::es) pos) (tFs t):=λpins s σ H Q I q=>
 wpAny_JoinedStr (mF (λo s' ⟨H',I',ho,q'⟩=>⟨ho,.str o,H',I'.tok _,⟨_,rfl⟩,q'⟩) (h pins s σ H _ _ I q))
end
section
variable{prog:υ}{w:Κ}{A:Υ}{E:ε->η->Prop}{s:η}
theorem uz{t sl:Addr}{items:Array ε}{lo st:Int}{n:Nat}{Q:ε->η->Prop}(ht:H_ s.heap t items)(hTs:s.TypeIs (.ref sl) "slice")
  (hap:∀{A':Υ}{E':ε->η->Prop}{Q':Int×Int×Nat->η->Prop},Q' (lo,st,n) s->wpAny (model prog w) A' (B7 (.ref sl) (pure (items.size:Int))) Q' E' s)
  (hw:(lo==0&&st==1&&n==items.size)=true->Q (.ref t) s)
  (hn:Q (.ref s.heap.objs.size) {s with heap:=s.heap.push {cls:=.type "tuple",data:=.seq ((Ϻ n).filterMap λ(k:Nat)=>items[(lo+(k:Int)*st).toNat]?).toArray} })
  (hsz:((Ϻ n).filterMap λ(k:Nat)=>items[(lo+(k:Int)*st).toNat]?).toArray.size<=sizeLine):wpAny (model prog w) A (getItem (.ref t) (.ref sl)) Q E s:=by
 unfold getItem;try with_reducible refine A9 ?_
 (first|refine δ (ρ ?_)|skip);refine δ (wpAny_sequenceKey ht.typeIs () ?_)
 refine δ (ϩ (name:=γ "__getitem__") ht.typeIs ϳ (j8 ϳ ht.typeIs entry_tuple_getitem ?_ (args_tuple_getitem _ _)))
 show wpAny _ _ (GO (.ref t)>>=_) _ _ s;refine δ (tupleItemsOf_ ht ?_)
 refine δ (Hv hTs ?_);rw[Q5 ()]
 refine δ (hap ?_)
 show wpAny _ _ (if (lo==0&&st==1&&n==items.size)=true then _ else _) _ _ s
 by_cases c:(lo==0&&st==1&&n==items.size)=true
 ·rw[Q5 c]
  refine δ (m:=GX (.ref t)) ?_
  unfold GX
  refine δ (Hv ht.typeIs (ρ ?_))
  show wpAny _ _ (if (Hr "tuple" == Hr "tuple")=true then _ else _) _ _ s
  rw[Q5 ()]
  exact δ (B8 (δ (ρ (ρ ⟨_,rfl,ρ (hw c)⟩))))
 ·rw[Q6 c]
  first
   |exact δ (m:=ϰ _) (ϝ (ρ ⟨_,rfl,ρ hn⟩) hsz)
   |exact δ (m:=ϰ _) (ϝ (δ (ρ (ρ ⟨_,rfl,ρ hn⟩))) hsz)
   |exact δ (δ (m:=ϰ _) (ϝ (ρ (ρ ⟨_,rfl,ρ hn⟩)) hsz))
   |exact δ (δ (m:=ϰ _) (ϝ (ρ ⟨_,rfl,ρ hn⟩) hsz))
end
section
variable{X:Cx}
def Eu(K:ζ):V->Option Int->Option Int->Hp->VK->Prop:=λx lo hi H Q=>∃a xs,x=.ref a/\SqT K H a xs/\(dG xs lo hi=xs->Q (.ref a) H)/\∀p,H p=none->Q (.ref p) (upd H p (.tup (dG xs lo hi)))
theorem jT:SlR X (Eu X.K):=by
 intro pins s σ H x v vl vu lo hi sl Q I rx hs pl pu h
 obtain⟨a,xs,rfl,hx,hw,q⟩:=h
 cases rx
 by_cases c:HT.sIx xs.length 0 lo=0/\HT.sIx xs.length xs.length hi=xs.length
 ·obtain⟨its,r,ht,hz⟩:=I.tuple hx
  have hlen:its.toArray.size=xs.length:=by rw[Α];exact r.length.symm
  have ec:dG xs lo hi=xs:=by unfold dG;rw[c.1,c.2];simp
  obtain⟨os,hos,hcs,hds⟩:=id hs
  refine⟨"tuple",_,ϳ.lookup,ht.typeIs,uz (lo:=((HT.sIx its.toArray.size 0 lo:Nat):Int)) (st:=1) (n:=HT.sIx its.toArray.size its.toArray.size hi-HT.sIx its.toArray.size 0 lo) ht ⟨os,hos,hcs⟩ (λq'=>HT.sliceApplied_gen hs pl pu q') (λ_=>⟨.ref a,H,I,rfl,hw ec⟩) ?_ ?_⟩
  ·rw[HT.pick_gen,hlen]
   refine⟨.ref s.heap.objs.size,_,I.laid (t':=s.toks) (o:=.tup (dG xs lo hi)) (λb ob q=>μ _ q) (θ _) ?_,rfl,q _ (I.hok.fresh (θ _))⟩
   exact⟨ϕ (fv xs lo hi) hz,_,(r.drop (HT.sIx xs.length 0 lo)).take (HT.sIx xs.length xs.length hi-HT.sIx xs.length 0 lo),HS _ _,NoD.new _ rfl⟩
  ·rw[HT.pick_gen,Α,Ϗ,ϡ]
   have:its.toArray.toList.length=xs.length:=by simpa using hlen
   omega
 ·exact CQ pins s σ H (.ref a) (.ref a) vl vu lo hi sl Q I rfl hs pl pu ⟨a,xs,rfl,hx,c,q⟩
end
section
variable{prog:υ}{w:Κ}{A:Υ}{E:ε->η->Prop}{s:η}
end
section
variable{X:Cx}
end
def look(kvs:List (Str×Addr))(k:Str):Option Addr:=(kvs.find? λp=>decide (p.1=k)).map (·.2)
structure FD(P:υ)(w:Κ)(K:ζ)(a:Addr)(kvs:List (Str×Addr)):Prop where
 nd:(kvs.map (·.1)).Nodup
 lo:(a==sysModules)=false
 ex:∃o es ep,K.lookup a=some o/\o.ExactDict/\o.data=.dict es ep/\KeysOf (bV P w) es/\Pairs (bV P w) es.toList (kvs.map λp=>((k_ p.1:Key),Λ p.2))
theorem lC(kvs:List (Str×Addr))(k:Str):valueAt (kvs.map λp=>((k_ p.1:Key),Λ p.2)) (k_ k)=(look kvs k).map Λ:=by
 unfold valueAt look
 induction kvs with
 |nil=>rfl
 |cons p kvs ih=>
  rw[Μ,D_,D_]
  by_cases h:p.1=k
  ·rw[Q9 h,show decide ((k_ p.1:Key)=k_ k)=true from Q9 (by rw[h])]
   rfl
  ·rw[Q8 h,show decide ((k_ p.1:Key)=k_ k)=false from Q8 (λz=>h (by injection z))]
   exact ih
section
variable{X:Cx}{pins:List (Addr×Obj)}{s:η}{σ:St}{H:Hp}{a:Addr}{kvs:List (Str×Addr)}
theorem FD.of(f:FD X.prog X.w X.K a kvs)(I:Inv X pins σ H s):s.heap.DictOf (bV X.prog X.w) a (kvs.map λp=>((k_ p.1:Key),Λ p.2)):=by
 obtain⟨o,es,ep,hk,h1,h2,h3,h4⟩:=f.ex
 refine⟨o,es,ep,I.kIn a o hk,h1,h2,h3,h4,?_⟩
 have e:(kvs.map λp=>((k_ p.1:Key),Λ p.2)).map (·.1)=(kvs.map (·.1)).map k_:=by rw[i_,i_];rfl
 rw[e]
 exact List.Pairwise.map k_ (λa b h z=>h (by injection z)) f.nd
def DW(a:Addr)(kvs:List (Str×Addr))(neg:Bool):R2:=λx y H Q=>∃k,x=.str k/\y=.ref a/\Q (.bl (xor neg (look kvs k).isSome)) H
theorem Do(f:FD X.prog X.w X.K a kvs):OpR X (compareOp .In) (DW a kvs false):=by
 intro pins s σ H x y v u Q I rx ry h
 obtain⟨k,rfl,rfl,q⟩:=h
 cases ry
 refine wpAny_in_of (yf (k:=k_ k) rx) f.lo (f.of I).mapOf ?_
 rw[lC,Hf]
 exact⟨.bl (look kvs k).isSome,H,I.tok _,rfl,by simpa using q⟩
theorem mE(f:FD X.prog X.w X.K a kvs):OpR X (compareOp .NotIn) (DW a kvs true):=by
 intro pins s σ H x y v u Q I rx ry h
 obtain⟨k,rfl,rfl,q⟩:=h
 cases ry
 refine wpAny_notIn_of (yf (k:=k_ k) rx) f.lo (f.of I).mapOf ?_
 rw[lC,Hf]
 exact⟨.bl (!(look kvs k).isSome),H,I.tok _,rfl,by simpa using q⟩
def DS(a:Addr)(kvs:List (Str×Addr))(td ty:TE):TE:=λσ H Q=>td σ H λx H1=>ty σ H1 λy H2=>∃k b,x=.ref a/\y=.str k/\look kvs k=some b/\Q (.ref b) H2
theorem pe_getF{o i:Expr}{td ty:TE}{pos:Pos}(f:FD X.prog X.w X.K a kvs)(ho:PE X o td)(hi:PE X i ty)(hs:EH i):PE X (.Subscript o i pos) (DS a kvs td ty):=by
 intro pins s σ H Q I h
 refine Af PySem.F.slot_dict_getitem.lookup hs (thn (ho pins s σ H _ I h) λu s1 ⟨x,H1,I1,rx,q1⟩=>thn (hi pins s1 σ H1 _ I1 q1) λiv s2 ⟨y,H2,I2,ry,k,b,ex,ey,hl,q2⟩=>?_)
 subst ex ey
 obtain rfl:u=Λ a:=rx
 refine⟨(f.of I2).typeIs,wpAny_getItem_of (v:=.ref b) (yf (k:=k_ k) ry) (f.of I2).mapOf (by rw[lC,hl];rfl) ⟨.ref b,H2,I2.tok _,rfl,q2⟩⟩
end
abbrev nK(h:Heap)(l1:Addr):Heap:=h.push {cls:=.type "tuple_iterator",data:=.fields #[.ref l1,.int 0 0]}
abbrev oY(h:Heap)(l1 l2:Addr):Heap:=(nK h l1).push {cls:=.type "tuple_iterator",data:=.fields #[.ref l2,.int 0 0]}
abbrev oU(h:Heap)(l1 l2:Addr):Heap:=(oY h l1 l2).push {cls:=.type "tuple",data:=.seq #[.ref h.objs.size,.ref (nK h l1).objs.size]}
abbrev pq(h:Heap)(l1 l2:Addr):Heap:=(oU h l1 l2).push {cls:=.type "tuple",data:=.seq #[.none,.none]}
abbrev iX(h:Heap)(l1 l2:Addr):Heap:=(pq h l1 l2).push {cls:=.type "zip",data:=.fields #[.none,.bool false,.bool false,.ref (oY h l1 l2).objs.size,.ref (oU h l1 l2).objs.size]}
section
variable{prog:υ}{w:Κ}{A:Υ}{E:ε->η->Prop}{s:η}
theorem sd{z TI TO i1 i2 l1 l2:Addr}{k1 k2:Nat}{xs ys:Array ε}{x y a b:ε}{Q:ε->η->Prop}(D:B9 z TI TO i1 i2 l1 l2)(hz:u5 s.heap z TI TO .none)(hTI:ϱ s.heap TI (.ref i1) (.ref i2))(hTO:ϱ s.heap TO a b)
  (h1:s.heap.IsTupleIter i1 l1 k1) (h2:s.heap.IsTupleIter i2 l2 k2) (hl1:s.heap.IsTuple l1 xs) (hl2:s.heap.IsTuple l2 ys) (hx:xs[k1]?=some x) (hy:ys[k2]?=some y)
  (hQ:∀h',u5 h' z TI TO (rawInt s.heap.objs.size)->ϱ h' TO x y->h'.IsTupleIter i1 l1 (k1+1)->h'.IsTupleIter i2 l2 (k2+1)->ϱ h' s.heap.objs.size x y->(∀c o,c≠z->c≠TO->c≠i1->c≠i2->s.heap.get? c=some o->h'.get? c=some o)->Q (.ref s.heap.objs.size) {s with heap:=h'}):
  wpAny (model prog w) A (e_.«zip.__next__» ⟨[.ref z],[]⟩) (λfin s'=>∃v,fin=.done (.ret v)/\Q v s') E s:=by
 show wpAny _ _ (field (.ref z) 2>>=_) _ _ _;refine δ (ύ hz rfl (x:=.bool false) rfl ?_)
 show wpAny _ _ (field (.ref z) 3>>=_) _ _ _;refine δ (ύ hz rfl (x:=.ref TI) rfl ?_);refine δ (Ϲ hTI rfl ?_)
 show wpAny _ _ (ϐ (.ref z)>>=_) _ _ _;refine δ ?_;unfold ϐ
 refine δ (ύ hz rfl (x:=.none) rfl (ρ ?_));simp only[if_true];refine δ (B8 ?_)
 refine δ (ύ hz rfl (x:=.ref TO) rfl ?_);refine δ (Ϩ hz () λg1 z1 c1=>?_)
 replace z1:u5 g1 z TI TO .ellipsis:=z1
 refine δ ?_;simp only[Gg,Gv,D0,GY];refine δ (δ (s_ ?_))
 show wpAny _ _ (ό (.ref i1)>>=_) _ _ _;refine δ (bC (h1.extBut c1.extBut D.i1z) (hl1.extBut c1.extBut D.l1z) hx λg2 it2 c2=>ρ ?_)
 have t2:ϱ g2 TO a b:=c2.extBut _ _ D.TOi1 (c1.extBut _ _ D.TOz hTO)
 refine δ (Ϲ t2 rfl ?_);refine δ (o9 t2 λg3 t3 c3=>?_)
 replace t3:ϱ g3 TO x b:=t3
 refine δ (Gn (ρ ?_));refine δ (δ (s_ ?_))
 show wpAny _ _ (ό (.ref i2)>>=_) _ _ _;refine δ (bC (((h2.extBut c1.extBut D.i2z).extBut c2.extBut D.i12.symm).extBut c3.extBut D.TOi2.symm) (((hl2.extBut c1.extBut D.l2z).extBut c2.extBut D.l2i1).extBut c3.extBut D.l2TO) hy λg4 it4 c4=>ρ ?_)
 have t4:ϱ g4 TO x b:=c4.extBut _ _ D.TOi2 t3
 refine δ (Ϲ t4 rfl ?_);refine δ (o9 t4 λg5 t5 c5=>?_)
 replace t5:ϱ g5 TO x y:=t5
 refine δ (Gn (ρ (ρ ?_)));refine δ (Ϲ t5 rfl ?_);refine δ (wpAny_newTuple ?_)
 have sz:g5.objs.size=s.heap.objs.size:=by rw[c5.1,c4.1,c3.1,c2.1,c1.1]
 have z5:u5 g5 z TI TO .ellipsis:=c5.extBut _ _ D.TOz.symm (c4.extBut _ _ D.i2z.symm (c3.extBut _ _ D.TOz.symm (c2.extBut _ _ D.i1z.symm z1)))
 have k5:∀c o,c≠z->c≠TO->c≠i1->c≠i2->s.heap.get? c=some o->g5.get? c=some o:=λc o d1 d2 d3 d4 e=>c5.extBut _ _ d2 (c4.extBut _ _ d4 (c3.extBut _ _ d2 (c2.extBut _ _ d3 (c1.extBut _ _ d1 e))))
 have j1:g5.IsTupleIter i1 l1 (k1+1):=((it2.extBut c3.extBut D.TOi1.symm).extBut c4.extBut D.i12).extBut c5.extBut D.TOi1.symm
 have j2:g5.IsTupleIter i2 l2 (k2+1):=it4.extBut c5.extBut D.TOi2.symm
 have zlt:z<g5.objs.size:=ω z5
 show wpAny _ _ (i0 (.ref z) (.ref g5.objs.size)>>=_) _ _ _;refine δ ?_;unfold i0
 have z6:u5 (g5.push {cls:=.type "tuple",data:=.seq #[x,y]}) z TI TO .ellipsis:=μ _ z5
 refine δ (Ϩ z6 () λg7 z7 c7=>?_)
 replace z7:u5 g7 z TI TO (rawInt g5.objs.size):=z7
 refine Ϩ z7 () λg8 z8 c8=>?_
 replace z8:u5 g8 z TI TO (rawInt g5.objs.size):=z8
 have up:∀c o,c≠z->g5.get? c=some o->g8.get? c=some o:=λc o d1 e=>c8.extBut _ _ d1 (c7.extBut _ _ d1 (μ _ e))
 have p8:ϱ g8 g5.objs.size x y:=c8.extBut _ _ (o0 zlt) (c7.extBut _ _ (o0 zlt) (Β _ rfl))
 rw[sz]at z8 p8
 refine ρ ⟨_,rfl,?_⟩
 show Q (.ref g5.objs.size) _;rw[sz]
 exact hQ g8 z8 (up _ _ D.TOz t5) (j1.at λo e=>up _ o D.i1z e) (j2.at λo e=>up _ o D.i2z e) p8 λc o d1 d2 d3 d4 e=>up c o d1 (k5 c o d1 d2 d3 d4 e)
theorem xa{z TI TO i1 i2 l1 l2:Addr}{k1 k2:Nat}{xs ys:Array ε}{a b:ε}{Q:Fin->η->Prop}(hh:A.handled=none)(D:B9 z TI TO i1 i2 l1 l2)(hz:u5 s.heap z TI TO .none)(hTI:ϱ s.heap TI (.ref i1) (.ref i2))(hTO:ϱ s.heap TO a b)
  (h1:s.heap.IsTupleIter i1 l1 k1) (h2:s.heap.IsTupleIter i2 l2 k2) (hl1:s.heap.IsTuple l1 xs) (hl2:s.heap.IsTuple l2 ys) (hend:xs[k1]?=none\/ys[k2]?=none)
  (hE:∀h' e,(∀c o,c≠z->c≠TO->c≠i1->c≠i2->s.heap.get? c=some o->h'.get? c=some o)->(∃o,h'.get? e=some o/\o.cls=.type "StopIteration")->E (.ref e) {s with heap:=h'}):wpAny (model prog w) A (e_.«zip.__next__» ⟨[.ref z],[]⟩) Q E s:=by
 show wpAny _ _ (field (.ref z) 2>>=_) _ _ _;refine δ (ύ hz rfl (x:=.bool false) rfl ?_)
 show wpAny _ _ (field (.ref z) 3>>=_) _ _ _;refine δ (ύ hz rfl (x:=.ref TI) rfl ?_);refine δ (Ϲ hTI rfl ?_)
 show wpAny _ _ (ϐ (.ref z)>>=_) _ _ _;refine δ ?_;unfold ϐ
 refine δ (ύ hz rfl (x:=.none) rfl (ρ ?_));simp only[if_true];refine δ (B8 ?_)
 refine δ (ύ hz rfl (x:=.ref TO) rfl ?_);refine δ (Ϩ hz () λg1 z1 c1=>?_)
 replace z1:u5 g1 z TI TO .ellipsis:=z1
 refine δ ?_;simp only[Gg,Gv,D0,GY];refine δ (δ (s_ ?_))
 show wpAny _ _ (ό (.ref i1)>>=_) _ _ _
 cases hx:xs[k1]? with
 |none=>
  refine δ (df hh (h1.extBut c1.extBut D.i1z) (hl1.extBut c1.extBut D.l1z) hx λg2 e c2 ⟨oe,hoe,hce⟩=>?_)
  have z2:u5 g2 z TI TO .ellipsis:=c2 _ _ D.i1z.symm z1
  have ez:e≠z:=λq=>by subst q;rw[z2]at hoe;cases hoe;simp at hce
  exact Ϩ z2 () λg3 _ c3=>hE g3 e (λc o d1 _ d3 _ q=>c3.extBut _ _ d1 (c2 _ _ d3 (c1.extBut _ _ d1 q))) ⟨oe,c3.extBut _ _ ez hoe,hce⟩
 |some x=>
  have hy:ys[k2]?=none:=hend.resolve_left (by rw[hx];exact nofun)
  refine δ (bC (h1.extBut c1.extBut D.i1z) (hl1.extBut c1.extBut D.l1z) hx λg2 it2 c2=>ρ ?_)
  have t2:ϱ g2 TO a b:=c2.extBut _ _ D.TOi1 (c1.extBut _ _ D.TOz hTO)
  refine δ (Ϲ t2 rfl ?_);refine δ (o9 t2 λg3 t3 c3=>?_)
  refine δ (Gn (ρ ?_));refine δ (δ (s_ ?_))
  show wpAny _ _ (ό (.ref i2)>>=_) _ _ _;refine δ (df hh (((h2.extBut c1.extBut D.i2z).extBut c2.extBut D.i12.symm).extBut c3.extBut D.TOi2.symm) (((hl2.extBut c1.extBut D.l2z).extBut c2.extBut D.l2i1).extBut c3.extBut D.l2TO) hy λg4 e c4 ⟨oe,hoe,hce⟩=>?_)
  have z4:u5 g4 z TI TO .ellipsis:=c4 _ _ D.i2z.symm (c3.extBut _ _ D.TOz.symm (c2.extBut _ _ D.i1z.symm z1))
  have ez:e≠z:=λq=>by subst q;rw[z4]at hoe;cases hoe;simp at hce
  exact Ϩ z4 () λg5 _ c5=>hE g5 e (λc o d1 d2 d3 d4 q=>c5.extBut _ _ d1 (c4 _ _ d4 (c3.extBut _ _ d2 (c2.extBut _ _ d3 (c1.extBut _ _ d1 q))))) ⟨oe,c5.extBut _ _ ez hoe,hce⟩
theorem qx{z TI TO i1 i2 l1 l2:Addr}{k1 k2:Nat}{xs ys:Array ε}{x y a b:ε}{Q:Option ε->η->Prop}(D:B9 z TI TO i1 i2 l1 l2)(hz:u5 s.heap z TI TO .none)(hTI:ϱ s.heap TI (.ref i1) (.ref i2))(hTO:ϱ s.heap TO a b)
  (h1:s.heap.IsTupleIter i1 l1 k1) (h2:s.heap.IsTupleIter i2 l2 k2) (hl1:s.heap.IsTuple l1 xs) (hl2:s.heap.IsTuple l2 ys) (hx:xs[k1]?=some x) (hy:ys[k2]?=some y)
  (hQ:∀h',u5 h' z TI TO (rawInt s.heap.objs.size)->ϱ h' TO x y->h'.IsTupleIter i1 l1 (k1+1)->h'.IsTupleIter i2 l2 (k2+1)->ϱ h' s.heap.objs.size x y->(∀c o,c≠z->c≠TO->c≠i1->c≠i2->s.heap.get? c=some o->h'.get? c=some o)->Q (some (.ref s.heap.objs.size)) {s with heap:=h'}):
  wpAny (model prog w) A (pyNext (.ref z)) Q E s:=by
 have hT:s.TypeIs (.ref z) "zip":=⟨_,hz,rfl⟩;unfold pyNext
 exact δ (Gk (ϩ (name:=γ "__next__") hT r9 (j8 r9 hT Gh (sd D hz hTI hTO h1 h2 hl1 hl2 hx hy λh' a1 a2 a3 a4 a5 a6=>ρ (hQ h' a1 a2 a3 a4 a5 a6)) (F3 _))))
theorem ux{z TI TO i1 i2 l1 l2:Addr}{k1 k2:Nat}{xs ys:Array ε}{a b:ε}{Q:Option ε->η->Prop}(hh:A.handled=none)(D:B9 z TI TO i1 i2 l1 l2)(hz:u5 s.heap z TI TO .none)(hTI:ϱ s.heap TI (.ref i1) (.ref i2))(hTO:ϱ s.heap TO a b)
  (h1:s.heap.IsTupleIter i1 l1 k1) (h2:s.heap.IsTupleIter i2 l2 k2) (hl1:s.heap.IsTuple l1 xs) (hl2:s.heap.IsTuple l2 ys) (hend:xs[k1]?=none\/ys[k2]?=none)
  (hQ:∀h',(∀c o,c≠z->c≠TO->c≠i1->c≠i2->s.heap.get? c=some o->h'.get? c=some o)->Q none {s with heap:=h'}):wpAny (model prog w) A (pyNext (.ref z)) Q E s:=by
 have hT:s.TypeIs (.ref z) "zip":=⟨_,hz,rfl⟩;unfold pyNext
 refine δ (Gk (ϩ (name:=γ "__next__") hT r9 (j8 r9 hT Gh (xa hh D hz hTI hTO h1 h2 hl1 hl2 hend λh' e hk ⟨o,ho,hc⟩=>?_) (F3 _))))
 exact δ (Hl (T:="StopIteration") (b:=true) ⟨o,ho,hc⟩ HP (ρ (hQ _ hk)))
theorem qv(l1 l2:Addr)(xs ys:Array ε)(n n':Nat)(dct dct':Option Addr)(slt slt':Array (Option ε)):
  Meets (e_.«zip.__new__» ⟨[.type "zip",.ref l1,.ref l2],[]⟩) (λ_ R s=>s.heap.get? l1=some {cls:=.type "tuple",dict:=dct',data:=.seq xs n',slots:=slt'}/\s.heap.get? l2=some {cls:=.type "tuple",dict:=dct,data:=.seq ys n,slots:=slt} /\
   R (.ok (.ret (.ref (pq s.heap l1 l2).objs.size))) {s with heap:=iX s.heap l1 l2}):=
 .of_wp λprog w A R s h=>by
  obtain⟨hp,g,d,tk,os⟩:=s;obtain⟨hl1,hl2,h⟩:=h
  have hsub:=sub_zip
  have hL1:Heap.IsTuple (HQ ⟨hp,g,d,tk,os⟩) l1 xs:=⟨_,hl1,rfl,n',rfl⟩
  have hl2':(hp.push {cls:=.type "tuple_iterator",data:=.fields #[.ref l1,.int 0 0]}).get? l2=some {cls:=.type "tuple",dict:=dct,data:=.seq ys n,slots:=slt}:=μ _ hl2
  have hL2:Heap.IsTuple (HQ ⟨hp.push {cls:=.type "tuple_iterator",data:=.fields #[.ref l1,.int 0 0]},g,d,tk,os⟩) l2 ys:=⟨_,hl2',rfl,n,rfl⟩
  wp_walk using E3 hL1,E3 hL2,o7 hl1,o7 hl2'
  exact⟨_,rfl,h⟩
theorem tK{l1 l2:Addr}{xs ys:Array ε}{Q:ε->η->Prop}(hl1:s.heap.IsTuple l1 xs)(hl2:s.heap.IsTuple l2 ys)
  (h:∀h',u5 h' (s.heap.objs.size+4) (s.heap.objs.size+2) (s.heap.objs.size+3) .none->ϱ h' (s.heap.objs.size+2) (.ref s.heap.objs.size) (.ref (s.heap.objs.size+1))->ϱ h' (s.heap.objs.size+3) .none .none->h'.IsTupleIter s.heap.objs.size l1 0->h'.IsTupleIter (s.heap.objs.size+1) l2 0 ->
   (∀c o,s.heap.get? c=some o->h'.get? c=some o)->Q (.ref (s.heap.objs.size+4)) {s with heap:=h'}):wpAny (model prog w) A (call (.type "zip") [.ref l1,.ref l2]) Q E s:=by
 obtain⟨⟨c,dct,dt,sl⟩,hl,hc,n,hd⟩:=hl2
 replace hc:c=.type "tuple":=hc
 replace hd:dt=.seq ys n:=hd
 subst hc hd
 obtain⟨⟨c',dct',dt',sl'⟩,hl',hc',n',hd'⟩:=hl1
 replace hc':c'=.type "tuple":=hc'
 replace hd':dt'=.seq xs n':=hd'
 subst hc' hd'
 refine callType_new F.called_zip () (F.typeCall_zip_2 _ _) (F.newCall_zip_2 _ _) (λobj=>F.args_object_init_3 obj _ _) F.entry_zip_new (qv l1 l2 xs ys n n' dct dct' sl sl') ⟨hl',hl,?_⟩
 have y1:(nK s.heap l1).objs.size=s.heap.objs.size+1:=Ϧ ..
 have y2:(oY s.heap l1 l2).objs.size=s.heap.objs.size+2:=by rw[Ϧ,y1]
 have y3:(oU s.heap l1 l2).objs.size=s.heap.objs.size+3:=by rw[Ϧ,y2]
 have y4:(pq s.heap l1 l2).objs.size=s.heap.objs.size+4:=by rw[Ϧ,y3]
 have up:∀{h:Heap}{o:Obj}{c:Addr}{p:Obj},h.get? c=some p->(h.push o).get? c=some p:=λq=>μ _ q
 have v5:(iX s.heap l1 l2).get? (pq s.heap l1 l2).objs.size=some _:=Β _ rfl
 have v4:(iX s.heap l1 l2).get? (oU s.heap l1 l2).objs.size=some _:=up (Β _ rfl)
 have v3:(iX s.heap l1 l2).get? (oY s.heap l1 l2).objs.size=some _:=up (up (Β _ rfl))
 have v2:(iX s.heap l1 l2).get? (nK s.heap l1).objs.size=some _:=up (up (up (Β _ rfl)))
 have v1:(iX s.heap l1 l2).get? s.heap.objs.size=some _:=up (up (up (up (Β _ rfl))))
 show _/\_
 rw[y2,y3,y4]at v5
 rw[y1,y2]at v3
 rw[y3]at v4
 rw[y1]at v2
 rw[y4]
 exact⟨⟨_,v5,rfl⟩,h _ v5 v3 v4 ⟨_,v1,rfl,rfl⟩ ⟨_,v2,rfl,rfl⟩ λc o q=>up (up (up (up (up q))))⟩
end
def kq(K:ζ)(a b:Addr):It:=
 ⟨λi H=>∃xs ys x y,SqT K H a xs/\SqT K H b ys/\xs[i]?=some x/\ys[i]?=some y,λi H z H'=>∃p x y,H p=none/\H'=upd H p (.tup [x,y])/\z=.ref p/\(∀xs,SqT K H a xs->xs[i]?=some x)/\∀ys,SqT K H b ys->ys[i]?=some y,
 λi H=>∃xs ys,SqT K H a xs/\SqT K H b ys/\(xs.length<=i\/ys.length<=i)⟩
theorem sZ{P:υ}{w:Κ}{K:ζ}{elts:List Expr}{x1}{tp:Pos}(a b z TI TO i1 i2:Addr)(D1:TI≠z/\TO≠z/\i1≠z/\i2≠z/\TI≠TO/\TI≠i1/\TI≠i2/\TO≠i1/\TO≠i2/\i1≠i2)(D2:a≠TO/\b≠TO):
  mj P w K (.Tuple elts x1 tp) (kq K a b) [z,TI,TO,i1,i2] z (λi h=>u5 h z TI TO .none/\ϱ h TI (.ref i1) (.ref i2)/\(∃u v,ϱ h TO u v)/\h.IsTupleIter i1 a i/\h.IsTupleIter i2 b i) where
 mem:=by simp
 obj:=λi h st c hc=>by
  obtain⟨hz,hTI,⟨u,v,hTO⟩,⟨o1,e1,c1,d1⟩,⟨o2,e2,c2,d2⟩⟩:=st
  simp only[ι,a_,or_false]at hc
  rcases hc with rfl|rfl|rfl|rfl|rfl
  ·exact⟨_,hz,λv z=>by
    have z':HN _=Gb v:=z
    cases z'⟩
  ·exact⟨_,hTI,λv z=>by
    have z':HY _ _=Gb v:=z
    cases z'⟩
  ·exact⟨_,hTO,λv z=>by
    have z':HY _ _=Gb v:=z
    cases z'⟩
  ·exact⟨o1,e1,λv z=>by rw[d1]at z;cases z⟩
  ·exact⟨o2,e2,λv z=>by rw[d2]at z;cases z⟩
 keep:=λi h h' st k=>by
  obtain⟨hz,hTI,⟨u,v,hTO⟩,h1,h2⟩:=st
  exact⟨k z () _ hz,k TI () _ hTI,⟨u,v,k TO () _ hTO⟩,h1.at λo e=>k i1 () o e,h2.at λo e=>k i2 () o e⟩
 item:=by
  intro X hP hw hK hc i pins s σ H E I hf st hg
  subst hP hw hK
  obtain⟨xs,ys,x,y,hq1,hq2,hx,hy⟩:=hg
  obtain⟨its1,rv1,p1,_⟩:=I.tuple hq1
  obtain⟨its2,rv2,p2,_⟩:=I.tuple hq2
  obtain⟨u1,hu1,ru1⟩:=rv1.get hx
  obtain⟨u2,hu2,ru2⟩:=rv2.get hy
  obtain⟨hz,hTI,⟨u,v,hTO⟩,h1,h2⟩:=st
  obtain⟨d1,d2,d3,d4,d5,d6,d7,d8,d9,d10⟩:=D1
  have L1:s.heap.IsTuple a its1.toArray:=p1
  have L2:s.heap.IsTuple b its2.toArray:=p2
  have D:B9 z TI TO i1 i2 a b:=by
   obtain⟨o1,e1,c1,_⟩:=id L1
   obtain⟨o2,e2,c2,_⟩:=id L2
   obtain⟨o3,e3,c3,_⟩:=id h1
   obtain⟨o4,e4,c4,_⟩:=id h2
   exact⟨d1,d2,d3,d4,d5,d6,d7,d8,d9,d10,aW e1 hz (by rw[c1];exactλz=>absurd (Ψ z) ()),D2.1,aW e1 e3 (by rw[c1,c3];exactλz=>absurd (Ψ z) ()),aW e1 e4 (by rw[c1,c4];exactλz=>absurd (Ψ z) ()),
    aW e2 hz (by rw[c2];exactλz=>absurd (Ψ z) ()),D2.2,aW e2 e3 (by rw[c2,c3];exactλz=>absurd (Ψ z) ()),aW e2 e4 (by rw[c2,c4];exactλz=>absurd (Ψ z) ())⟩
  refine qx D hz hTI hTO h1 h2 L1 L2 (x:=u1) (y:=u2) (by simpa using hu1) (by simpa using hu2) λh3 a1 a2 a3 a4 a5 hk=>?_
  refine⟨_,rfl,G9 a1 λh4 hz4 hs4=>?_⟩
  have hzl:z<s.heap.objs.size:=ω hz
  have hn:H s.heap.objs.size=none:=I.hok.fresh (θ _)
  have keep:∀c o,c≠z->c≠TO->c≠i1->c≠i2->s.heap.get? c=some o->h4.get? c=some o:=λc o c1 c2 c3 c4 q=>(hs4.2 c c1).trans (hk c o c1 c2 c3 c4 q)
  have tup:h4.get? s.heap.objs.size=some {cls:=.type "tuple",data:=.seq #[u1,u2]}:=(hs4.2 _ (ngt hzl)).trans a5
  have fpn:∀c∈[z,TI,TO,i1,i2],H c=none:=λc hc=>(hf c hc).1
  have nit:∀c v,H c=some v->c≠z/\c≠TO/\c≠i1/\c≠i2:=λc v q=>⟨(λe=>by rw[e,fpn z ()]at q;cases q),(λe=>by rw[e,fpn TO ()]at q;cases q),(λe=>by rw[e,fpn i1 ()]at q;cases q),(λe=>by rw[e,fpn i2 ()]at q;cases q)⟩
  have kch:∀c o,c∉[z,TO,i1,i2]->s.heap.get? c=some o->h4.get? c=some o:=λc o hc q=>keep c o (λe=>hc (by simp[e])) (λe=>hc (by simp[e])) (λe=>hc (by simp[e])) (λe=>hc (by simp[e])) q
  have I2:Inv X pins σ (upd H s.heap.objs.size (.tup [x,y])) {s with heap:=h4,toks:=s.toks}:=by
   refine I.step (g':=s.gens) (d':=s.drawn) (ch:=[z,TO,i1,i2]) (λc hc=>?_) (λc o _ _ hc' q _=>kch c o hc' q) (λc o _ _ hc' q _=>⟨o.slots,kch c o hc' q⟩) (λc o _ q n=>by rw[ai (nlt (ω q))];exact n) (λc o hc' q=>⟨o,kch c o hc' q⟩)
    (λc xs q=>by rw[ai (ao q hn)];exact q) (λc o v q=>by rw[ai (ao q hn)];exact q) (λc ps q=>⟨#[],by rw[ai (ao q hn),q];simp⟩) (λm hm=>?_) (λc v q=>?_) I.bare
   ·have hc':c∈[z,TI,TO,i1,i2]:=by
     simp only[ι,a_,or_false]at hc⊢
     rcases hc with e|e|e|e<;>simp[e]
    obtain⟨f0,f1,f2,f3,f4,f5⟩:=hf c hc'
    exact⟨f3,f1,f4,f5⟩
   ·obtain⟨o,es,ep,ho,r⟩:=hm
    exact⟨o,es,ep,keep _ o (ϛ (hf z ()).2.1) (ϛ (hf TO ()).2.1) (ϛ (hf i1 ()).2.1) (ϛ (hf i2 ()).2.1) ho,r⟩
   ·by_cases hb:c=s.heap.objs.size
    ·subst hb
     rw[aa]at q
     cases q
     exact⟨(show 2<=sizeLine by rw[τ];decide),[u1,u2],.cons ru1 (.cons ru2 .nil),⟨_,tup,rfl,0,rfl⟩,_,tup,rfl⟩
    ·rw[ai hb]at q
     refine(I.hok c v q).stay (λc' w' hc' q'=>?_) (λc' q'=>by rw[ai (ao q' hn)];exact q') λc' xs q'=>by rw[ai (ao q' hn)];exact q'
     rcases hc' with e|e
     ·subst e;obtain⟨n1,n2,n3,n4⟩:=nit c' v q;exact keep c' w' n1 n2 n3 n4 q'
     ·obtain⟨n1,n2,n3,n4⟩:=nit c' _ e;exact keep c' w' n1 n2 n3 n4 q'
  refine⟨.ref s.heap.objs.size,_,I2,rfl,⟨_,x,y,hn,rfl,rfl,λxs' h'=>by rw[I.tuple_inj h' hq1];exact hx,λys' h'=>by rw[I.tuple_inj h' hq2];exact hy⟩,?_,λc hc=>?_⟩
  ·exact⟨hz4,hs4.extBut _ _ d1 (hk TI _ d1 d5 d6 d7 hTI),⟨_,_,hs4.extBut _ _ d2 a2⟩,a3.at λo e=>hs4.extBut _ _ d3 e,a4.at λo e=>hs4.extBut _ _ d4 e⟩
  ·have hb':c<s.heap.objs.size:=by
    simp only[ι,a_,or_false]at hc
    obtain⟨o3,e3,_⟩:=h1
    obtain⟨o4,e4,_⟩:=h2
    rcases hc with e|e|e|e|e
    ·rw[e];exact hzl
    ·rw[e];exact ω hTI
    ·rw[e];exact ω hTO
    ·rw[e];exact ω e3
    ·rw[e];exact ω e4
   rw[ai (nlt hb')]
   exact fpn c hc
 done:=by
  intro X hP hw hK hc i pins s σ H E I hf st hg
  subst hP hw hK
  obtain⟨xs,ys,hq1,hq2,hend⟩:=hg
  obtain⟨its1,rv1,p1,_⟩:=I.tuple hq1
  obtain⟨its2,rv2,p2,_⟩:=I.tuple hq2
  obtain⟨hz,hTI,⟨u,v,hTO⟩,h1,h2⟩:=st
  obtain⟨d1,d2,d3,d4,d5,d6,d7,d8,d9,d10⟩:=D1
  have L1:s.heap.IsTuple a its1.toArray:=p1
  have L2:s.heap.IsTuple b its2.toArray:=p2
  have D:B9 z TI TO i1 i2 a b:=by
   obtain⟨o1,e1,c1,_⟩:=id L1
   obtain⟨o2,e2,c2,_⟩:=id L2
   obtain⟨o3,e3,c3,_⟩:=id h1
   obtain⟨o4,e4,c4,_⟩:=id h2
   exact⟨d1,d2,d3,d4,d5,d6,d7,d8,d9,d10,aW e1 hz (by rw[c1];exactλz=>absurd (Ψ z) ()),D2.1,aW e1 e3 (by rw[c1,c3];exactλz=>absurd (Ψ z) ()),aW e1 e4 (by rw[c1,c4];exactλz=>absurd (Ψ z) ()),
    aW e2 hz (by rw[c2];exactλz=>absurd (Ψ z) ()),D2.2,aW e2 e3 (by rw[c2,c3];exactλz=>absurd (Ψ z) ()),aW e2 e4 (by rw[c2,c4];exactλz=>absurd (Ψ z) ())⟩
  have l1:=rv1.length
  have l2:=rv2.length
  have fpn:∀c∈[z,TI,TO,i1,i2],H c=none:=λc hc=>(hf c hc).1
  refine ux (I.ok.hd hc) D hz hTI hTO h1 h2 L1 L2 (hend.imp (λh=>by simp;omega) λh=>by simp;omega) λh4 hk=>⟨rfl,?_⟩
  have nit:∀c v,H c=some v->c≠z/\c≠TO/\c≠i1/\c≠i2:=λc v q=>⟨(λe=>by rw[e,fpn z ()]at q;cases q),(λe=>by rw[e,fpn TO ()]at q;cases q),(λe=>by rw[e,fpn i1 ()]at q;cases q),(λe=>by rw[e,fpn i2 ()]at q;cases q)⟩
  have kch:∀c o,c∉[z,TO,i1,i2]->s.heap.get? c=some o->h4.get? c=some o:=λc o hc q=>hk c o (λe=>hc (by simp[e])) (λe=>hc (by simp[e])) (λe=>hc (by simp[e])) (λe=>hc (by simp[e])) q
  refine I.step (t':=s.toks) (g':=s.gens) (d':=s.drawn) (ch:=[z,TO,i1,i2]) (λc hc=>?_) (λc o _ _ hc' q _=>kch c o hc' q) (λc o _ _ hc' q _=>⟨o.slots,kch c o hc' q⟩) (λc o _ q n=>n) (λc o hc' q=>⟨o,kch c o hc' q⟩)
   (λc xs q=>q) (λc o v q=>q) (λc ps q=>⟨#[],by rw[q];simp⟩) (λm hm=>?_) (λc v q=>?_) I.bare
  ·have hc':c∈[z,TI,TO,i1,i2]:=by
    simp only[ι,a_,or_false]at hc⊢
    rcases hc with e|e|e|e<;>simp[e]
   obtain⟨f0,f1,f2,f3,f4,f5⟩:=hf c hc'
   exact⟨f3,f1,f4,f5⟩
  ·obtain⟨o,es,ep,ho,r⟩:=hm
   exact⟨o,es,ep,hk _ o (ϛ (hf z ()).2.1) (ϛ (hf TO ()).2.1) (ϛ (hf i1 ()).2.1) (ϛ (hf i2 ()).2.1) ho,r⟩
  ·refine(I.hok c v q).stay (λc' w' hc' q'=>?_) (λc' q'=>q') λc' xs q'=>q'
   rcases hc' with e|e
   ·subst e;obtain⟨n1,n2,n3,n4⟩:=nit c' v q;exact hk c' w' n1 n2 n3 n4 q'
   ·obtain⟨n1,n2,n3,n4⟩:=nit c' _ e;exact hk c' w' n1 n2 n3 n4 q'
 self:=λA i s Q E st h=>wpAny_pyIter_zip st.1 h
theorem tO{h:Heap}{a:Addr}{its:Array ε}(p:H_ h a its):a<h.objs.size:=by
 obtain⟨o,e,_⟩:=p
 exact ω e
section
variable{X:Cx}
def BG(K:ζ)(ta:TA):TI:=λσ H R=>ta σ H λvs H1=>∃a b,vs=[.ref a,.ref b]/\(∃xs,SqT K H1 a xs)/\(∃ys,SqT K H1 b ys)/\R (kq K a b) H1
theorem pi_zipTT{a b:Expr}{ta:TA}{p pos:Pos}{elts:List Expr}{x1}{tp:Pos}(hg:Gl X "zip")(hm:X.mg "zip"=none)(ha:PA X [a,b] ta)(hs:starEach [a,b] X.env=(false,eval a X.env)::starEach [b] X.env:=by rfl)(hpl:(backTo pos (starEach [b] X.env)).any (·.1)=false:=by rfl):
  PI X (.Tuple elts x1 tp) (.Call (.Name "zip" p) [a,b] [] pos) (BG X.K ta):=by
 intro pins s σ H R I h
 refine Call_ (eA I hg hm (u:=.type "zip") () (e6 (thn (ha pos pins s σ H _ I h) λus s1 ⟨vs,H1,I1,r1,q1⟩=>?_) hs hpl))
 obtain⟨l,m,e,⟨xs,hq1⟩,⟨ys,hq2⟩,q⟩:=q1
 subst e
 obtain⟨u,w',rfl,ru,rw'⟩:=mV r1
 cases ru
 cases rw'
 obtain⟨its1,rv1,p1,_⟩:=I1.tuple hq1
 obtain⟨its2,rv2,p2,_⟩:=I1.tuple hq2
 refine tK p1 p2 λh' hz hTI hTO hi1 hi2 kp=>?_
 have I2:Inv X pins σ H1 {s1 with heap:=h'}:=I1.kept (t':=s1.toks) kp
 have add:∀(n i j:Nat),i≠j->n+i≠n+j:=λn i j h z=>h (Nat.add_left_cancel z)
 have T:mj X.prog X.w X.K (.Tuple elts x1 tp) (kq X.K l m) [s1.heap.objs.size+4,s1.heap.objs.size+2,s1.heap.objs.size+3,s1.heap.objs.size,s1.heap.objs.size+1] (s1.heap.objs.size+4) _:=
  sZ l m (s1.heap.objs.size+4) (s1.heap.objs.size+2) (s1.heap.objs.size+3) s1.heap.objs.size (s1.heap.objs.size+1)
   ⟨add _ 2 4 (),add _ 3 4 (),add _ 0 4 (),add _ 1 4 (),add _ 2 3 (),add _ 2 0 (),add _ 2 1 (),add _ 3 0 (),add _ 3 1 (),add _ 0 1 ()⟩ ⟨ϑ (Hm 3 (tO p1)),ϑ (Hm 3 (tO p2))⟩
 refine T.self X.A 0 {s1 with heap:=h'} _ _ ⟨hz,hTI,⟨_,_,hTO⟩,hi1,hi2⟩ ?_
 refine⟨s1.heap.objs.size+4,_,_,_,H1,rfl,I2,T,⟨hz,hTI,⟨_,_,hTO⟩,hi1,hi2⟩,λb hb=>?_,q⟩
 have hb':s1.heap.objs.size<=b:=by
  simp only[ι,a_,or_false]at hb
  rcases hb with e|e|e|e|e
  ·rw[e];exact Ϸ _ _
  ·rw[e];exact Ϸ _ _
  ·rw[e];exact Ϸ _ _
  ·rw[e];exact θ _
  ·rw[e];exact Ϸ _ _
 obtain⟨f0,f1⟩:=I1.fpOk hb' (I1.hok.fresh hb')
 exact⟨f0,f1⟩
theorem yX{k:Nat}{ix:List Nat}{g:TG}{tt:TT}{te:TE}{σ:St}{H1:Hp}{Q:List V->Hp->Prop}{K:ζ}{a b:Addr}{xs ys:List V}(Pv:Nat->List V->Hp->Prop)(h0:Pv 0 [] H1)(hl:∀i zs H,Pv i zs H->SqT K H a xs/\SqT K H b ys)
  (hs:∀i zs H x y p,xs[i]?=some x->ys[i]?=some y->Pv i zs H->H p=none->eJ k ix g tt te σ (.ref p) zs (upd H p (.tup [x,y])) (Pv (i+1))) (hd:∀zs H,Pv (min xs.length ys.length) zs H->Q zs H):rLC (kq K a b) k ix g tt te σ H1 Q:=by
 refine ms (n:=min xs.length ys.length) Pv h0 (λi zs H h p=>?_) (λzs H p=>?_) (λi zs H x H' h p y=>?_) hd
 ·obtain⟨q1,q2⟩:=hl i zs H p
  exact⟨xs,ys,xs[i]'(),ys[i]'(),q1,q2,(),()⟩
 ·obtain⟨q1,q2⟩:=hl _ zs H p
  exact⟨xs,ys,q1,q2,()⟩
 ·obtain⟨q1,q2⟩:=hl i zs H p
  obtain⟨c,x',y',hb,e1,e2,hx,hy⟩:=y
  subst e1 e2
  exact hs i zs H x' y' c (hx xs q1) (hy ys q2) p hb
theorem wP{K:ζ}{a b:Addr}{xs ys:List V}{g:TG}{tb:TS}{D:dI}{σ:St}{H:Hp}(Pv:Nat->St->Hp->Prop)(h0:Pv 0 σ H)(hl:∀i σ H,Pv i σ H->SqT K H a xs/\SqT K H b ys)
  (hs:∀i x y σ H p,xs[i]?=some x->ys[i]?=some y->Pv i σ H->H p=none->g (.ref p) σ (upd H p (.tup [x,y])) λσ2 H2=>tb {D with nx:=Pv (i+1),ct:=Pv (i+1),bk:=D.nx} σ2 H2) (hd:∀σ H,Pv (min xs.length ys.length) σ H->D.nx σ H):
  ∃W:Nat->Nat->St->Hp->Prop,(∃m,W 0 m σ H)/\∀i m σ H,W i m σ H ->
   ((kq K a b).stop i H/\D.nx σ H)\/((kq K a b).go i H/\∃N:St->Hp->Prop,(∀σ' H',N σ' H'->∃m',m'<m/\W (i+1) m' σ' H')/\∀x H',(kq K a b).yld i H x H'->g x σ H' λσ2 H2=>tb {D with nx:=N,ct:=N,bk:=D.nx} σ2 H2):=by
 refine⟨λi m σ H=>m=min xs.length ys.length-i/\i<=min xs.length ys.length/\Pv i σ H,⟨min xs.length ys.length,(),ϖ _,h0⟩,?_⟩
 rintro i m σ H ⟨rfl,hi,p⟩
 obtain⟨q1,q2⟩:=hl i σ H p
 by_cases hlt:i<min xs.length ys.length
 ·have h1:i<xs.length:=by omega
  have h2:i<ys.length:=by omega
  refine .inr ⟨⟨xs,ys,xs[i],ys[i],q1,q2,by simp[h1],by simp[h2]⟩,Pv (i+1),λσ' H' p'=>⟨min xs.length ys.length-(i+1),(),rfl,hlt,p'⟩,λz H' y=>?_⟩
  obtain⟨c,x,y,hb,e1,e2,hx,hy⟩:=y
  subst e1 e2
  exact hs i x y σ H c (hx xs q1) (hy ys q2) p hb
 ·have e:i=min xs.length ys.length:=by omega
  subst e
  exact .inl ⟨⟨xs,ys,q1,q2,()⟩,hd σ H p⟩
end
theorem rW(l:Addr)(items:Array ε)(n:Nat)(b:Addr)(items2:Array ε)(n2:Nat)(dct:Option Addr)(slt:Array (Option ε))(hs0:¬(!items.isEmpty&&i8 (items.size+items2.size))=true)(hs1:items.size<=sizeLine)(hs2:items.size+items2.size<=sizeLine+1):
  Meets (e_.«list.extend» ⟨[.ref l,.ref b],[]⟩) (λ_ R s=>s.heap.get? l=some {cls:=.type "list",data:=.seq items n}/\s.heap.get? b=some {cls:=.type "tuple",dict:=dct,data:=.seq items2 n2,slots:=slt}/\R (.ok (.ret j6)) {s with heap:=s.heap.update l (GP λx=>x++items2),toks:=s.toks}):=
 .of_wp λprog w A R s h=>by
  obtain⟨hp,g,d,tk,os⟩:=s
  obtain⟨hl,hb,h⟩:=h
  have f1:=AutoSeq1.idx_int
  have f2:=AutoSeq1.sub_tuple_tuple
  have f3:=AutoSeq1.sub_list_list
  have f4:=AutoSeq1.sub_tuple_list
  have f5:=AutoSeq1.sub_list_tuple
  have hz':(items++items2).size<=sizeLine+1:=by rw[Array.size_append];exact hs2
  wp_walk using(wpAny_updateSeq hl rfl (hz:=hs1) (_hz':=hz')),o7 hl,o7 hb
  exact⟨_,rfl,h⟩
section
variable{X:Cx}
def DM(K:ζ):V->List V->Hp->VK->Prop:=λx vs H Q=>∃l b xs zs,x=.ref l/\vs=[.ref b]/\H l=some (.lst xs)/\SqT K H b zs/\xs.length+zs.length<=sizeLine/\Q .non (upd H l (.lst (xs++zs)))
theorem zp:MtM X "list.extend" (DM X.K):=by
 intro pins s σ H x vs v us Q I rx rv h
 obtain⟨l,b,xs,zs,rfl,rfl,hH,hB,hz,q⟩:=h
 cases rx
 obtain⟨u,rfl,ru⟩:=rv.one
 cases ru
 obtain⟨z,its,n,r,hl,e⟩:=I.lstM hH
 obtain⟨its2,r2,⟨⟨cls,dd,data,sl⟩,e2,hc,n2,hd⟩,_⟩:=I.tuple hB
 simp only at hc hd
 subst hc hd
 have hl2:=r2.length
 have hsz:its.toArray.size+its2.toArray.size<=sizeLine:=by rw[Α,Α];omega
 have hlong:¬ (!its.toArray.isEmpty&&i8 (its.toArray.size+its2.toArray.size))=true:=by
  rw[lc hsz,GQ]
  exact Ζ
 refine y_ F.slot_list_extend ⟨_,e,rfl⟩ F.entry_list_extend (F.args_list_extend_2 _ _)
  (rW l its.toArray n b its2.toArray n2 dd sl hlong (by rw[Α];omega) ()) ⟨e,e2,?_⟩
 refine⟨.non,_,I.lset (its':=its++its2) hH e () (r.append r2) ?_,rfl,q⟩
 rw[Ε]
 omega
theorem Ch(hu:X.A.units<cLine):OpR X (compareOp .Eq) (λx y H Q=>∃(l b:Addr) (xs:List V),x=.ref l/\y=.ref b/\SqL X.K H l xs/\SqL X.K H b []/\Q (.bl xs.isEmpty) H):=by
 intro pins s σ H x y v u Q I rx ry h
 obtain⟨l,b,xs,rfl,rfl,hl,hb,q⟩:=h
 cases rx
 cases ry
 obtain⟨its,r1,p1,_⟩:=I.list hl
 obtain⟨its2,r2,p2,_⟩:=I.list hb
 have l1:=r1.length
 have l2:=r2.length
 cases xs with
 |nil=>
  refine Hw.lists (e:=λ_=>true) p1.isList p2.isList (by simp;omega) hu (λj h1 h2=>?_) X.prog X.w X.xe _ ?_
  ·have:j<its.length:=by simpa using h1
   simp at l1;omega
  ·have e:((Ϻ its.toArray.size).all λ_=>true)=true:=by simp
   rw[e]
   exact⟨.bl true,H,I,rfl,q⟩
 |cons x xs=>
  refine Hw.lists_lengths p1.isList p2.isList ?_ hu X.prog X.w X.xe _ ⟨.bl false,H,I,rfl,q⟩
  rw[χ]at l1
  rw[x_]at l2
  rw[Α,Α,bne_iff_ne]
  omega
end
section
variable{prog:υ}{w:Κ}{A:Υ}{E:ε->η->Prop}{s:η}
end
section
variable{X:Cx}
end
section
variable{prog:υ}{w:Κ}{A:Υ}{E:ε->η->Prop}
end
section
variable{X:Cx}{pos:Pos}
end
end L2
namespace KB
open PySem L2
abbrev Pr:=Str×Int
def BK(p q:Pr):Prop:=p.1.cps.toList<q.1.cps.toList
structure yR(ps:List Pr):Prop where
 pw:ps.Pairwise BK
 ge:∀p∈ps,1<=p.2
theorem dS{a b:Str}(h:a.cps.toList=b.cps.toList):a=b:=by
 cases a
 cases b
 congr 1
 exact Array.ext' h
def nmB(x:Str):Bool:=decide (1<=x.cps.size)&&decide (x.cps.size<=8)&&x.cps.toList.all λc=>decide (97<=c)&&decide (c<=122)
def azB(c:Nat):Bool:=decide (97<=c)&&decide (c<=122)
theorem Rep.tup_inv{H:Hp}{ds:List Dv}{v:V}(h:Rep H (.tup ds) v):∃a vs,v=.ref a/\H a=some (.tup vs)/\Reps H ds vs:=by simpa only[Rep]using h
theorem Reps.two{H:Hp}{d e:Dv}{vs:List V}(h:Reps H [d,e] vs):∃x y,vs=[x,y]/\Rep H d x/\Rep H e y:=by
 simp only[Reps]at h
 obtain⟨x,r,rfl,h1,y,r2,rfl,h2,rfl⟩:=h
 exact⟨x,y,rfl,h1,h2⟩
def bA(c:Int)(ps:List (Str×Int)):Dv:=.tup [.int c,.tup (ps.map λp=>.tup [.str p.1,.int p.2])]
abbrev aT(ps:List Pr):List Dv:=ps.map λp=>.tup [.str p.1,.int p.2]
theorem zE{H:Hp}{ps:List Pr}{us:List V}(ru:Reps H (aT ps) us){i:Nat}{x:V}(hx:us[i]?=some x):∃p b,ps[i]?=some p/\x=.ref b/\H b=some (.tup [.str p.1,.int p.2]):=by
 obtain⟨d,hd,Rd⟩:=ru.get hx
 rw[Ϯ]at hd
 cases e:ps[i]? with
 |none=>rw[e]at hd;cases hd
 |some p=>
  rw[e]at hd
  obtain rfl:Dv.tup [.str p.1,.int p.2]=d:=ϧ hd
  obtain⟨b,zs,rfl,hb,rz⟩:=Rep.tup_inv Rd
  obtain⟨y,z,rfl,Ry,Rz⟩:=Reps.two rz
  simp only[Rep]at Ry Rz
  subst Ry Rz
  exact⟨p,b,rfl,rfl,hb⟩
theorem zH{H:Hp}{c:Int}{ps:List Pr}{v:V}(R:Rep H (bA c ps) v):∃a b us,v=.ref a/\H a=some (.tup [.int c,.ref b])/\H b=some (.tup us)/\Reps H (aT ps) us/\us.length=ps.length:=by
 obtain⟨a,tv,rfl,ha,rt⟩:=Rep.tup_inv R
 obtain⟨x,y,rfl,R0,R1⟩:=Reps.two rt
 simp only[Rep]at R0
 subst R0
 obtain⟨b,us,rfl,hb,ru⟩:=Rep.tup_inv R1
 have:=ru.length
 rw[ς]at this
 exact⟨a,b,us,rfl,ha,hb,ru,this⟩
theorem z2:2<=sizeLine:=by rw[τ];decide
theorem z1:1<=sizeLine:=by rw[τ];decide
theorem z3:3<=sizeLine:=by rw[τ];decide
section
variable{K:ζ}
end
theorem tnx{D:dI}{σ:St}{H:Hp}(h:D.nx σ H):Bt D σ H:=h
theorem zY{ns:List Int}{k:Int}(h0:0<=k)(h:k<(ns.length:Int)):∃v:Int,atI (ns.map V.int) k=some (.int v):=by
 have hk:k.toNat<ns.length:=by omega
 have q:atI (ns.map V.int) ((k.toNat:Nat):Int)=some (.int ns[k.toNat]):=ah (by rw[Ϯ,Ι hk]<;>rfl)
 have ek:k=((k.toNat:Nat):Int):=by omega
 rw[<-ek]at q
 exact⟨_,q⟩
theorem kb{a:Int}(n:Int)(h:0<n):0<=a%n/\a%n<n:=⟨Int.emod_nonneg _ (),Int.emod_lt_of_pos _ h⟩
def ay(a:Addr)(H H':Hp):Prop:=∀g o,g≠a->H g=some o->H' g=some o
theorem ay.refl(a:Addr)(H:Hp):ay a H H:=λ_ _ _ e=>e
theorem ay.trans{a:Addr}{H H1 H2:Hp}(s:ay a H H1)(t:ay a H1 H2):ay a H H2:=λg o hg e=>t g o hg (s g o hg e)
theorem aj.b{H H':Hp}(a:Addr)(s:aj H H'):ay a H H':=λg o _ e=>s g o e
theorem ay.upd(H:Hp)(a:Addr)(o:HO):ay a H (upd H a o):=λg u hg e=>by rw[ai hg];exact e
theorem ay.same{a:Addr}{H H1 H2:Hp}(h:H a=none)(s:aj H H1)(t:ay a H1 H2):aj H H2:=λg o e=>t g o (ao e h) (s g o e)
theorem AR{c:TT}{tb:TS}{D:dI}{σ:St}{H:Hp}(Pv:Nat->St->Hp->Prop)(m:Nat)(h0:Pv m σ H)
  (hs:∀m σ H,Pv m σ H->c σ H λb H1=>if b=true then tb {D with nx:=λσ' H'=>∃m',m'<m/\Pv m' σ' H',ct:=λσ' H'=>∃m',m'<m/\Pv m' σ' H',bk:=D.nx} σ H1 else D.nx σ H1)
  (mono:∀σ H Q Q',(∀b H1,Q b H1->Q' b H1)->c σ H Q->c σ H Q'):uD c tb D σ H:=by
 refine⟨Pv,⟨m,h0⟩,λm σ H p=>mono σ H _ _ (λb H1 q=>?_) (hs m σ H p)⟩
 cases b with
 |true=>exact⟨_,λσ' H' q'=>q',q⟩
 |false=>exact q
theorem kf{K:ζ}{i:Nat}:∀σ H (Q Q':Bool->Hp->Prop),(∀b H1,Q b H1->Q' b H1)->(λ(σ:St) (H:Hp) (Q:Bool->Hp->Prop)=>fY i σ H λx H'=>∃k,AK K x H' k/\Q k H') σ H Q->(λ(σ:St) (H:Hp) (Q:Bool->Hp->Prop)=>fY i σ H λx H'=>∃k,AK K x H' k/\Q k H') σ H Q':=by
 rintro σ H Q Q' h ⟨v,e,k,t,q⟩
 exact⟨v,e,k,t,h _ _ q⟩
inductive Kd where
 |whole
 |place (c:Int) (ps:List Pr)
 |row (c:Int) (ps:List Pr) (k:Kd)
 |pair (k j:Kd)
def Kd.dv:Kd->Dv
 |.whole=>.tup [.str "whole"]
 |.place c ps=>.tup [.str "place",bA c ps]
 |.row c ps k=>.tup [.str "row",bA c ps,k.dv]
 |.pair k j=>.tup [.str "pair",k.dv,j.dv]
def Kd.size:Kd->Nat
 |.whole=>1
 |.place _ _=>1
 |.row _ _ k=>k.size+1
 |.pair k j=>k.size+j.size+1
theorem Kd.size_pos:∀k:Kd,1<=k.size
 |.whole=>θ _
 |.place _ _=>θ _
 |.row _ _ k=>by show 1<=k.size+1;omega
 |.pair k j=>by show 1<=k.size+j.size+1;omega
def Kd.word:Kd->Str
 |.whole=>"whole"
 |.place _ _=>"place"
 |.row _ _ _=>"row"
 |.pair _ _=>"pair"
def Kd.All(P:Int->List Pr->Prop):Kd->Prop
 |.whole=>True
 |.place c ps=>P c ps
 |.row c ps k=>P c ps/\k.All P
 |.pair k j=>k.All P/\j.All P
theorem Kd.inv{H:Hp}{k:Kd}{v:V}(r:Rep H k.dv v):∃a vs,v=.ref a/\H a=some (.tup (.str k.word::vs)) /\
  (match k with
   |.whole=>vs=[]
   |.place c ps=>∃l,vs=[l]/\Rep H (bA c ps) l
   |.row c ps j=>∃l u,vs=[l,u]/\Rep H (bA c ps) l/\Rep H j.dv u
   |.pair i j=>∃u w,vs=[u,w]/\Rep H i.dv u/\Rep H j.dv w):=by
 cases k with
 |whole=>
  simp only[Kd.dv,Rep,Reps]at r
  obtain⟨a,vs,rfl,ha,x,r1,rfl,rfl,rfl⟩:=r
  exact⟨a,[],rfl,ha,rfl⟩
 |place c ps=>
  rw[Kd.dv,Rep]at r
  obtain⟨a,vs,rfl,ha,rs⟩:=r
  simp only[Reps]at rs
  obtain⟨x,r1,rfl,hx,y,r2,rfl,hy,rfl⟩:=rs
  simp only[Rep]at hx
  subst hx
  exact⟨a,_,rfl,ha,y,rfl,hy⟩
 |row c ps j=>
  rw[Kd.dv,Rep]at r
  obtain⟨a,vs,rfl,ha,rs⟩:=r
  simp only[Reps]at rs
  obtain⟨x,r1,rfl,hx,y,r2,rfl,hy,z,r3,rfl,hz,rfl⟩:=rs
  simp only[Rep]at hx
  subst hx
  exact⟨a,_,rfl,ha,y,z,rfl,hy,hz⟩
 |pair i j=>
  rw[Kd.dv,Rep]at r
  obtain⟨a,vs,rfl,ha,rs⟩:=r
  simp only[Reps]at rs
  obtain⟨x,r1,rfl,hx,y,r2,rfl,hy,z,r3,rfl,hz,rfl⟩:=rs
  simp only[Rep]at hx
  subst hx
  exact⟨a,_,rfl,ha,y,z,rfl,hy,hz⟩
theorem iC{H:Hp}:∀{ds:List Dv}{d:Dv}{vs:List V},Reps H (ds++[d]) vs->∃vs0 v,vs=vs0++[v]/\Reps H ds vs0/\Rep H d v
 |[],d,vs,h=>by
  simp only[Ϭ,Reps]at h
  obtain⟨v,r,rfl,hv,rfl⟩:=h
  exact⟨[],v,rfl,by simp only[Reps],hv⟩
 |e::ds,d,vs,h=>by
  simp only[Ϛ,Reps]at h
  obtain⟨v,r,rfl,hv,hr⟩:=h
  obtain⟨vs0,u,rfl,h1,h2⟩:=iC hr
  exact⟨v::vs0,u,rfl,by simp only[Reps];exact⟨v,vs0,rfl,hv,h1⟩,h2⟩
theorem bz{H:Hp}{d:Dv}{v:V}(h:Rep H d v):Reps H [d] [v]:=by simp only[Reps];exact⟨v,[],rfl,h,rfl⟩
theorem qN(vs:List V)(v:V):(vs++[v])[(vs++[v]).length-1]?=some v:=by simp
theorem vk{α:Type}:∀{l:List α},l≠[]->∃l0 x,l=l0++[x]:=λ{l} h=>by
 rcases List.eq_nil_or_concat l with e|⟨l0,x,e⟩
 ·exact absurd e h
 ·exact⟨l0,x,by rw[e];simp⟩
theorem gnm{i:Nat}{x:V}{σ:St}{H:Hp}{N:St->Hp->Prop}(h:N (σ.set i (some x)) H):db i x σ H N:=h
theorem Ff:¬ (γ "whole"=γ "place"):=by decide +kernel
theorem Fj:¬ (γ "whole"=γ "row"):=by decide +kernel
theorem Fh:¬ (γ "whole"=γ "pair"):=by decide +kernel
theorem Fg:¬ (γ "place"=γ "row"):=by decide +kernel
theorem Fi:¬ (γ "place"=γ "pair"):=by decide +kernel
theorem Fu:¬ (γ "row"=γ "pair"):=by decide +kernel
theorem wne{x y:Str}(h:¬ x=y):¬ V.str x=V.str y:=λe=>h (V.str.inj e)
end KB
namespace L2
open PySem PySem.Spec PyProof.Rows PySem.W
section
variable{X:Cx}
end
end L2
namespace KB
open PySem L2
theorem vv{H:Hp}{α:Type}{f:α->Dv}{xs:List α}{us:List V}{i:Nat}{u:V}(R:Reps H (xs.map f) us)(h:us[i]?=some u):∃x,xs[i]?=some x/\Rep H (f x) u:=by
 obtain⟨d,hd,Rd⟩:=R.get h
 rw[Ϯ]at hd
 obtain⟨x,hx,rfl⟩:=ϯ.mp hd
 exact⟨x,hx,Rd⟩
end KB
namespace L2
open PySem PySem.Spec PyProof.Rows PySem.W
section
variable{P:υ}{w:Κ}{A:Υ}{E:ε->η->Prop}{s:η}
end
section
variable{X:Cx}
end
section
variable{prog:υ}{w:Κ}{A:Υ}{E:ε->η->Prop}{s:η}{r l:Addr}{items:Array ε}
end
section
variable{X:Cx}{e:Expr}{te:TE}{p p1 pos pos1:Pos}
end
section
variable{X:Cx}
def FC(te:TE):TE:=λσ H Q=>te σ H λx H1=>∃i:Int,x=.int i/\i.natAbs.log2<1920/\Q (.str (toString i)) H1
theorem Cq{e:Expr}{te:TE}{pos:Pos}(he:PE X e te):PE X (.FormattedValue e (-1) none pos) (FC te):=λpins s σ H Q I h=>
 GV (thn (he pins s σ H _ I h) λv s1 ⟨x,H1,I1,r1,i,ex,hd,q⟩=>by
  subst ex
  obtain⟨k,rfl⟩:=r1
  exact wpAny_formatField_int hd ⟨.str (toString i),H1,I1.tok _,⟨_,rfl⟩,q⟩)
theorem sK:MtR X "str.startswith" (λx xs H Q=>∃(a b:Str) (i:Int),x=.str a/\xs=[.str b,.int i]/\Q (.bl (Txt.startswith3 a b i)) H):=by
 intro pins s σ H x xs v us Q I rx r h
 obtain⟨a,b,i,rfl,rfl,q⟩:=h
 obtain⟨t,rfl⟩:=rx
 cases r with
 |cons r1 rr=>
  cases rr with
  |cons r2 rr=>
   cases rr
   obtain⟨t1,rfl⟩:=r1
   obtain⟨t2,rfl⟩:=r2
   exact SC.startswith3 ⟨.bl _,H,I,rfl,q⟩
theorem ma:dZ X (.type "int") (λxs H Q=>∃(a:Str) (n:Int),xs=[.str a]/\PySem.intText? a=some n/\a.length<=640/\Q (.int n) H):=by
 intro pins s σ H xs us Q I r h
 obtain⟨a,n,rfl,hn,hl,q⟩:=h
 obtain⟨u,rfl,t,rfl⟩:=ft r
 exact KIN.call_text hn hl ⟨.int n,H,I.tok _,⟨_,rfl⟩,q⟩
theorem kO:∀l:List (Str×Tok),aw ((l.map (·.1)).map V.str) (strValues l)
 |[]=>.nil
 |(x,t)::l=>.cons ⟨t,rfl⟩ (kO l)
theorem qZ:MtR X "str.split" (λx xs H Q=>∃a b:Str,x=.str a/\xs=[.str b]/\(b.length==0)=false/\a.length<=sizeLine/\(Txt.split a b).length<=sizeLine/\∀p,H p=none->Q (.ref p) (upd H p (.lst ((Txt.split a b).map V.str)))):=by
 intro pins s σ H x xs v us Q I rx r h
 obtain⟨a,b,rfl,rfl,hb,ha,hz,q⟩:=h
 obtain⟨t,rfl⟩:=rx
 obtain⟨u,rfl,t1,rfl⟩:=ft r
 have fin:∀(l:List (Str×Tok))(tk:Nat),l.map (·.1)=Txt.split a b->EP X pins σ Q (.ref s.heap.objs.size) {s with heap:=s.heap.push {cls:=.type "list",data:=.seq (strValues l).toArray},toks:=tk}:=λl tk e=>by
  refine⟨.ref _,_,I.laid (t':=tk) (o:=.lst ((Txt.split a b).map V.str)) (λb ob q=>μ _ q) (θ _) ?_,rfl,q _ (I.hok.fresh (θ _))⟩
  refine⟨by rw[ς];exact hz,strValues l,0,?_,Β _ rfl⟩
  rw[<-e];exact kO l
 cases h1:(decide (a.length<b.length)||decide (e_.Str.strKind a<e_.Str.strKind b))
 ·cases hf:(o_ a b 0 a.length (a.length+1)).isEmpty
  ·have es:Txt.split a b=e_.Str.partsBetween a (o_ a b 0 a.length (a.length+1)) b.length:=(Q6 (ne_true_of_eq_false h1)).trans (Q6 (ne_true_of_eq_false hf))
   refine y_ Hn (E4 _ _ _) Hg (GZ _ _) (meets_str_split_sep a b t t1 h1 hb hf ha (by rw[<-es];exact hz)) ?_
   show wants (EP X pins σ Q) X.xe _ {s with toks:=_,heap:=s.heap.push {cls:=.type "list",data:=.seq (strsFrom s.toks (e_.Str.partsBetween a (o_ a b 0 a.length (a.length+1)) b.length)).toArray} }
   rw[strsFrom_eq]
   exact fin (numbered s.toks _) _ ((numbered_texts _ _).trans es.symm)
  ·exact y_ Hn (E4 _ _ _) Hg (GZ _ _) (meets_str_split_not_found a b t t1 h1 hb hf) (fin [(a,t)] s.toks ((Q6 (ne_true_of_eq_false h1)).trans (Q5 hf)).symm)
 ·exact y_ Hn (E4 _ _ _) Hg (GZ _ _) (meets_str_split_cannot_occur a b t t1 h1) (fin [(a,t)] s.toks (Q5 h1).symm)
end
abbrev ph(h:Heap)(l1:Addr):Heap:=h.push {cls:=.type "tuple_iterator",data:=.fields #[.ref l1,.int 0 0]}
abbrev pJ(h:Heap)(l1 l2:Addr):Heap:=(ph h l1).push {cls:=.type "list_iterator",data:=.fields #[.ref l2,.int 0 0]}
abbrev om(h:Heap)(l1 l2:Addr):Heap:=(pJ h l1 l2).push {cls:=.type "tuple",data:=.seq #[.ref h.objs.size,.ref (ph h l1).objs.size]}
abbrev oM(h:Heap)(l1 l2:Addr):Heap:=(om h l1 l2).push {cls:=.type "tuple",data:=.seq #[.none,.none]}
abbrev iD(h:Heap)(l1 l2:Addr):Heap:=(oM h l1 l2).push {cls:=.type "zip",data:=.fields #[.none,.bool false,.bool false,.ref (pJ h l1 l2).objs.size,.ref (om h l1 l2).objs.size]}
section
variable{prog:υ}{w:Κ}{A:Υ}{E:ε->η->Prop}{s:η}
theorem uq{z TI TO i1 i2 l1 l2:Addr}{k1 k2:Nat}{xs ys:Array ε}{x y a b:ε}{Q:ε->η->Prop}(D:B9 z TI TO i1 i2 l1 l2)(hz:u5 s.heap z TI TO .none)(hTI:ϱ s.heap TI (.ref i1) (.ref i2))(hTO:ϱ s.heap TO a b)
  (h1:s.heap.IsTupleIter i1 l1 k1) (h2:s.heap.IsListIter i2 l2 k2) (hl1:s.heap.IsTuple l1 xs) (hl2:s.heap.IsList l2 ys) (hx:xs[k1]?=some x) (hy:ys[k2]?=some y)
  (hQ:∀h',u5 h' z TI TO (rawInt s.heap.objs.size)->ϱ h' TO x y->h'.IsTupleIter i1 l1 (k1+1)->h'.IsListIter i2 l2 (k2+1)->ϱ h' s.heap.objs.size x y->(∀c o,c≠z->c≠TO->c≠i1->c≠i2->s.heap.get? c=some o->h'.get? c=some o)->Q (.ref s.heap.objs.size) {s with heap:=h'}):
  wpAny (model prog w) A (e_.«zip.__next__» ⟨[.ref z],[]⟩) (λfin s'=>∃v,fin=.done (.ret v)/\Q v s') E s:=by
 show wpAny _ _ (field (.ref z) 2>>=_) _ _ _;refine δ (ύ hz rfl (x:=.bool false) rfl ?_)
 show wpAny _ _ (field (.ref z) 3>>=_) _ _ _;refine δ (ύ hz rfl (x:=.ref TI) rfl ?_);refine δ (Ϲ hTI rfl ?_)
 show wpAny _ _ (ϐ (.ref z)>>=_) _ _ _;refine δ ?_;unfold ϐ
 refine δ (ύ hz rfl (x:=.none) rfl (ρ ?_));simp only[if_true];refine δ (B8 ?_)
 refine δ (ύ hz rfl (x:=.ref TO) rfl ?_);refine δ (Ϩ hz () λg1 z1 c1=>?_)
 replace z1:u5 g1 z TI TO .ellipsis:=z1
 refine δ ?_;simp only[Gg,Gv,D0,GY];refine δ (δ (s_ ?_))
 show wpAny _ _ (ό (.ref i1)>>=_) _ _ _;refine δ (bC (h1.extBut c1.extBut D.i1z) (hl1.extBut c1.extBut D.l1z) hx λg2 it2 c2=>ρ ?_)
 have t2:ϱ g2 TO a b:=c2.extBut _ _ D.TOi1 (c1.extBut _ _ D.TOz hTO)
 refine δ (Ϲ t2 rfl ?_);refine δ (o9 t2 λg3 t3 c3=>?_)
 replace t3:ϱ g3 TO x b:=t3
 refine δ (Gn (ρ ?_));refine δ (δ (s_ ?_))
 show wpAny _ _ (ό (.ref i2)>>=_) _ _ _;refine δ (wpAny_nextOf_list_item (((h2.extBut c1.extBut D.i2z).extBut c2.extBut D.i12.symm).extBut c3.extBut D.TOi2.symm) (((hl2.extBut c1.extBut D.l2z).extBut c2.extBut D.l2i1).extBut c3.extBut D.l2TO) hy λg4 it4 c4=>ρ ?_)
 have t4:ϱ g4 TO x b:=c4.extBut _ _ D.TOi2 t3
 refine δ (Ϲ t4 rfl ?_);refine δ (o9 t4 λg5 t5 c5=>?_)
 replace t5:ϱ g5 TO x y:=t5
 refine δ (Gn (ρ (ρ ?_)));refine δ (Ϲ t5 rfl ?_);refine δ (wpAny_newTuple ?_)
 have sz:g5.objs.size=s.heap.objs.size:=by rw[c5.1,c4.1,c3.1,c2.1,c1.1]
 have z5:u5 g5 z TI TO .ellipsis:=c5.extBut _ _ D.TOz.symm (c4.extBut _ _ D.i2z.symm (c3.extBut _ _ D.TOz.symm (c2.extBut _ _ D.i1z.symm z1)))
 have k5:∀c o,c≠z->c≠TO->c≠i1->c≠i2->s.heap.get? c=some o->g5.get? c=some o:=λc o d1 d2 d3 d4 e=>c5.extBut _ _ d2 (c4.extBut _ _ d4 (c3.extBut _ _ d2 (c2.extBut _ _ d3 (c1.extBut _ _ d1 e))))
 have j1:g5.IsTupleIter i1 l1 (k1+1):=((it2.extBut c3.extBut D.TOi1.symm).extBut c4.extBut D.i12).extBut c5.extBut D.TOi1.symm
 have j2:g5.IsListIter i2 l2 (k2+1):=it4.extBut c5.extBut D.TOi2.symm
 have zlt:z<g5.objs.size:=ω z5
 show wpAny _ _ (i0 (.ref z) (.ref g5.objs.size)>>=_) _ _ _;refine δ ?_;unfold i0
 have z6:u5 (g5.push {cls:=.type "tuple",data:=.seq #[x,y]}) z TI TO .ellipsis:=μ _ z5
 refine δ (Ϩ z6 () λg7 z7 c7=>?_)
 replace z7:u5 g7 z TI TO (rawInt g5.objs.size):=z7
 refine Ϩ z7 () λg8 z8 c8=>?_
 replace z8:u5 g8 z TI TO (rawInt g5.objs.size):=z8
 have up:∀c o,c≠z->g5.get? c=some o->g8.get? c=some o:=λc o d1 e=>c8.extBut _ _ d1 (c7.extBut _ _ d1 (μ _ e))
 have p8:ϱ g8 g5.objs.size x y:=c8.extBut _ _ (o0 zlt) (c7.extBut _ _ (o0 zlt) (Β _ rfl))
 rw[sz]at z8 p8
 refine ρ ⟨_,rfl,?_⟩
 show Q (.ref g5.objs.size) _;rw[sz]
 exact hQ g8 z8 (up _ _ D.TOz t5) (j1.at λo e=>up _ o D.i1z e) (j2.at λo e=>up _ o D.i2z e) p8 λc o d1 d2 d3 d4 e=>up c o d1 (k5 c o d1 d2 d3 d4 e)
theorem wC{z TI TO i1 i2 l1 l2:Addr}{k1 k2:Nat}{xs ys:Array ε}{a b:ε}{Q:Fin->η->Prop}(hh:A.handled=none)(D:B9 z TI TO i1 i2 l1 l2)(hz:u5 s.heap z TI TO .none)(hTI:ϱ s.heap TI (.ref i1) (.ref i2))(hTO:ϱ s.heap TO a b)
  (h1:s.heap.IsTupleIter i1 l1 k1) (h2:s.heap.IsListIter i2 l2 k2) (hl1:s.heap.IsTuple l1 xs) (hl2:s.heap.IsList l2 ys) (hend:xs[k1]?=none\/ys[k2]?=none)
  (hE:∀h' e,(∀c o,c≠z->c≠TO->c≠i1->c≠i2->s.heap.get? c=some o->h'.get? c=some o)->(∃o,h'.get? e=some o/\o.cls=.type "StopIteration")->E (.ref e) {s with heap:=h'}):wpAny (model prog w) A (e_.«zip.__next__» ⟨[.ref z],[]⟩) Q E s:=by
 show wpAny _ _ (field (.ref z) 2>>=_) _ _ _;refine δ (ύ hz rfl (x:=.bool false) rfl ?_)
 show wpAny _ _ (field (.ref z) 3>>=_) _ _ _;refine δ (ύ hz rfl (x:=.ref TI) rfl ?_);refine δ (Ϲ hTI rfl ?_)
 show wpAny _ _ (ϐ (.ref z)>>=_) _ _ _;refine δ ?_;unfold ϐ
 refine δ (ύ hz rfl (x:=.none) rfl (ρ ?_));simp only[if_true];refine δ (B8 ?_)
 refine δ (ύ hz rfl (x:=.ref TO) rfl ?_);refine δ (Ϩ hz () λg1 z1 c1=>?_)
 replace z1:u5 g1 z TI TO .ellipsis:=z1
 refine δ ?_;simp only[Gg,Gv,D0,GY];refine δ (δ (s_ ?_))
 show wpAny _ _ (ό (.ref i1)>>=_) _ _ _
 cases hx:xs[k1]? with
 |none=>
  refine δ (df hh (h1.extBut c1.extBut D.i1z) (hl1.extBut c1.extBut D.l1z) hx λg2 e c2 ⟨oe,hoe,hce⟩=>?_)
  have z2:u5 g2 z TI TO .ellipsis:=c2 _ _ D.i1z.symm z1
  have ez:e≠z:=λq=>by subst q;rw[z2]at hoe;cases hoe;simp at hce
  exact Ϩ z2 () λg3 _ c3=>hE g3 e (λc o d1 _ d3 _ q=>c3.extBut _ _ d1 (c2 _ _ d3 (c1.extBut _ _ d1 q))) ⟨oe,c3.extBut _ _ ez hoe,hce⟩
 |some x=>
  have hy:ys[k2]?=none:=hend.resolve_left (by rw[hx];exact nofun)
  refine δ (bC (h1.extBut c1.extBut D.i1z) (hl1.extBut c1.extBut D.l1z) hx λg2 it2 c2=>ρ ?_)
  have t2:ϱ g2 TO a b:=c2.extBut _ _ D.TOi1 (c1.extBut _ _ D.TOz hTO)
  refine δ (Ϲ t2 rfl ?_);refine δ (o9 t2 λg3 t3 c3=>?_)
  refine δ (Gn (ρ ?_));refine δ (δ (s_ ?_))
  show wpAny _ _ (ό (.ref i2)>>=_) _ _ _;refine δ (wpAny_nextOf_list_end hh (((h2.extBut c1.extBut D.i2z).extBut c2.extBut D.i12.symm).extBut c3.extBut D.TOi2.symm) (((hl2.extBut c1.extBut D.l2z).extBut c2.extBut D.l2i1).extBut c3.extBut D.l2TO) hy λg4 e c4 ⟨oe,hoe,hce⟩=>?_)
  have z4:u5 g4 z TI TO .ellipsis:=c4 _ _ D.i2z.symm (c3.extBut _ _ D.TOz.symm (c2.extBut _ _ D.i1z.symm z1))
  have ez:e≠z:=λq=>by subst q;rw[z4]at hoe;cases hoe;simp at hce
  exact Ϩ z4 () λg5 _ c5=>hE g5 e (λc o d1 d2 d3 d4 q=>c5.extBut _ _ d1 (c4 _ _ d4 (c3.extBut _ _ d2 (c2.extBut _ _ d3 (c1.extBut _ _ d1 q))))) ⟨oe,c5.extBut _ _ ez hoe,hce⟩
theorem qI{z TI TO i1 i2 l1 l2:Addr}{k1 k2:Nat}{xs ys:Array ε}{x y a b:ε}{Q:Option ε->η->Prop}(D:B9 z TI TO i1 i2 l1 l2)(hz:u5 s.heap z TI TO .none)(hTI:ϱ s.heap TI (.ref i1) (.ref i2))(hTO:ϱ s.heap TO a b)
  (h1:s.heap.IsTupleIter i1 l1 k1) (h2:s.heap.IsListIter i2 l2 k2) (hl1:s.heap.IsTuple l1 xs) (hl2:s.heap.IsList l2 ys) (hx:xs[k1]?=some x) (hy:ys[k2]?=some y)
  (hQ:∀h',u5 h' z TI TO (rawInt s.heap.objs.size)->ϱ h' TO x y->h'.IsTupleIter i1 l1 (k1+1)->h'.IsListIter i2 l2 (k2+1)->ϱ h' s.heap.objs.size x y->(∀c o,c≠z->c≠TO->c≠i1->c≠i2->s.heap.get? c=some o->h'.get? c=some o)->Q (some (.ref s.heap.objs.size)) {s with heap:=h'}):
  wpAny (model prog w) A (pyNext (.ref z)) Q E s:=by
 have hT:s.TypeIs (.ref z) "zip":=⟨_,hz,rfl⟩;unfold pyNext
 exact δ (Gk (ϩ (name:=γ "__next__") hT r9 (j8 r9 hT Gh (uq D hz hTI hTO h1 h2 hl1 hl2 hx hy λh' a1 a2 a3 a4 a5 a6=>ρ (hQ h' a1 a2 a3 a4 a5 a6)) (F3 _))))
theorem su{z TI TO i1 i2 l1 l2:Addr}{k1 k2:Nat}{xs ys:Array ε}{a b:ε}{Q:Option ε->η->Prop}(hh:A.handled=none)(D:B9 z TI TO i1 i2 l1 l2)(hz:u5 s.heap z TI TO .none)(hTI:ϱ s.heap TI (.ref i1) (.ref i2))(hTO:ϱ s.heap TO a b)
  (h1:s.heap.IsTupleIter i1 l1 k1) (h2:s.heap.IsListIter i2 l2 k2) (hl1:s.heap.IsTuple l1 xs) (hl2:s.heap.IsList l2 ys) (hend:xs[k1]?=none\/ys[k2]?=none)
  (hQ:∀h',(∀c o,c≠z->c≠TO->c≠i1->c≠i2->s.heap.get? c=some o->h'.get? c=some o)->Q none {s with heap:=h'}):wpAny (model prog w) A (pyNext (.ref z)) Q E s:=by
 have hT:s.TypeIs (.ref z) "zip":=⟨_,hz,rfl⟩;unfold pyNext
 refine δ (Gk (ϩ (name:=γ "__next__") hT r9 (j8 r9 hT Gh (wC hh D hz hTI hTO h1 h2 hl1 hl2 hend λh' e hk ⟨o,ho,hc⟩=>?_) (F3 _))))
 exact δ (Hl (T:="StopIteration") (b:=true) ⟨o,ho,hc⟩ HP (ρ (hQ _ hk)))
theorem qP(l1 l2:Addr)(xs ys:Array ε)(n':Nat)(dct':Option Addr)(slt':Array (Option ε)):
  Meets (e_.«zip.__new__» ⟨[.type "zip",.ref l1,.ref l2],[]⟩) (λ_ R s=>s.heap.get? l1=some {cls:=.type "tuple",dict:=dct',data:=.seq xs n',slots:=slt'}/\s.heap.IsList l2 ys /\
   R (.ok (.ret (.ref (oM s.heap l1 l2).objs.size))) {s with heap:=iD s.heap l1 l2}):=
 .of_wp λprog w A R s h=>by
  obtain⟨hp,g,d,tk,os⟩:=s;obtain⟨hl1,hl2,h⟩:=h
  have hsub:=sub_zip
  have hL1:Heap.IsTuple (HQ ⟨hp,g,d,tk,os⟩) l1 xs:=⟨_,hl1,rfl,n',rfl⟩
  have hL2:Heap.IsList (HQ ⟨hp.push {cls:=.type "tuple_iterator",data:=.fields #[.ref l1,.int 0 0]},g,d,tk,os⟩) l2 ys:=let ⟨o,ho,r⟩:=hl2;⟨o,μ _ ho,r⟩
  wp_walk using E3 hL1,Hb hL2,o7 hl1
  exact⟨_,rfl,h⟩
theorem sL{l1 l2:Addr}{xs ys:Array ε}{Q:ε->η->Prop}(hl1:s.heap.IsTuple l1 xs)(hl2:s.heap.IsList l2 ys)
  (h:∀h',u5 h' (s.heap.objs.size+4) (s.heap.objs.size+2) (s.heap.objs.size+3) .none->ϱ h' (s.heap.objs.size+2) (.ref s.heap.objs.size) (.ref (s.heap.objs.size+1))->ϱ h' (s.heap.objs.size+3) .none .none->h'.IsTupleIter s.heap.objs.size l1 0->h'.IsListIter (s.heap.objs.size+1) l2 0 ->
   (∀c o,s.heap.get? c=some o->h'.get? c=some o)->Q (.ref (s.heap.objs.size+4)) {s with heap:=h'}):wpAny (model prog w) A (call (.type "zip") [.ref l1,.ref l2]) Q E s:=by
 obtain⟨⟨c',dct',dt',sl'⟩,hl',hc',n',hd'⟩:=hl1
 replace hc':c'=.type "tuple":=hc'
 replace hd':dt'=.seq xs n':=hd'
 subst hc' hd'
 refine callType_new F.called_zip () (F.typeCall_zip_2 _ _) (F.newCall_zip_2 _ _) (λobj=>F.args_object_init_3 obj _ _) F.entry_zip_new (qP l1 l2 xs ys n' dct' sl') ⟨hl',hl2,?_⟩
 have y1:(ph s.heap l1).objs.size=s.heap.objs.size+1:=Ϧ ..
 have y2:(pJ s.heap l1 l2).objs.size=s.heap.objs.size+2:=by rw[Ϧ,y1]
 have y3:(om s.heap l1 l2).objs.size=s.heap.objs.size+3:=by rw[Ϧ,y2]
 have y4:(oM s.heap l1 l2).objs.size=s.heap.objs.size+4:=by rw[Ϧ,y3]
 have up:∀{h:Heap}{o:Obj}{c:Addr}{p:Obj},h.get? c=some p->(h.push o).get? c=some p:=λq=>μ _ q
 have v5:(iD s.heap l1 l2).get? (oM s.heap l1 l2).objs.size=some _:=Β _ rfl
 have v4:(iD s.heap l1 l2).get? (om s.heap l1 l2).objs.size=some _:=up (Β _ rfl)
 have v3:(iD s.heap l1 l2).get? (pJ s.heap l1 l2).objs.size=some _:=up (up (Β _ rfl))
 have v2:(iD s.heap l1 l2).get? (ph s.heap l1).objs.size=some _:=up (up (up (Β _ rfl)))
 have v1:(iD s.heap l1 l2).get? s.heap.objs.size=some _:=up (up (up (up (Β _ rfl))))
 show _/\_
 rw[y2,y3,y4]at v5
 rw[y1,y2]at v3
 rw[y3]at v4
 rw[y1]at v2
 rw[y4]
 exact⟨⟨_,v5,rfl⟩,h _ v5 v3 v4 ⟨_,v1,rfl,rfl⟩ ⟨_,v2,rfl,rfl⟩ λc o q=>up (up (up (up (up q))))⟩
end
def vy(K:ζ)(a b:Addr):It:=
 ⟨λi H=>∃xs ys x y,SqT K H a xs/\SqL K H b ys/\xs[i]?=some x/\ys[i]?=some y,λi H z H'=>∃p x y,H p=none/\H'=upd H p (.tup [x,y])/\z=.ref p/\(∀xs,SqT K H a xs->xs[i]?=some x)/\∀ys,SqL K H b ys->ys[i]?=some y,
 λi H=>∃xs ys,SqT K H a xs/\SqL K H b ys/\(xs.length<=i\/ys.length<=i)⟩
theorem tL{P:υ}{w:Κ}{K:ζ}{elts:List Expr}{x1}{tp:Pos}(a b z TI TO i1 i2:Addr)(D1:TI≠z/\TO≠z/\i1≠z/\i2≠z/\TI≠TO/\TI≠i1/\TI≠i2/\TO≠i1/\TO≠i2/\i1≠i2)(D2:a≠TO):
  mj P w K (.Tuple elts x1 tp) (vy K a b) [z,TI,TO,i1,i2] z (λi h=>u5 h z TI TO .none/\ϱ h TI (.ref i1) (.ref i2)/\(∃u v,ϱ h TO u v)/\h.IsTupleIter i1 a i/\h.IsListIter i2 b i) where
 mem:=by simp
 obj:=λi h st c hc=>by
  obtain⟨hz,hTI,⟨u,v,hTO⟩,⟨o1,e1,c1,d1⟩,⟨o2,e2,c2,d2⟩⟩:=st
  simp only[ι,a_,or_false]at hc
  rcases hc with rfl|rfl|rfl|rfl|rfl
  ·exact⟨_,hz,λv z=>by
    have z':HN _=Gb v:=z
    cases z'⟩
  ·exact⟨_,hTI,λv z=>by
    have z':HY _ _=Gb v:=z
    cases z'⟩
  ·exact⟨_,hTO,λv z=>by
    have z':HY _ _=Gb v:=z
    cases z'⟩
  ·exact⟨o1,e1,λv z=>by rw[d1]at z;cases z⟩
  ·exact⟨o2,e2,λv z=>by rw[d2]at z;cases z⟩
 keep:=λi h h' st k=>by
  obtain⟨hz,hTI,⟨u,v,hTO⟩,h1,h2⟩:=st
  exact⟨k z () _ hz,k TI () _ hTI,⟨u,v,k TO () _ hTO⟩,h1.at λo e=>k i1 () o e,h2.at λo e=>k i2 () o e⟩
 item:=by
  intro X hP hw hK hc i pins s σ H E I hf st hg
  subst hP hw hK
  obtain⟨xs,ys,x,y,hq1,hq2,hx,hy⟩:=hg
  obtain⟨its1,rv1,p1,_⟩:=I.tuple hq1
  obtain⟨its2,rv2,p2,_⟩:=I.list hq2
  obtain⟨u1,hu1,ru1⟩:=rv1.get hx
  obtain⟨u2,hu2,ru2⟩:=rv2.get hy
  obtain⟨hz,hTI,⟨u,v,hTO⟩,h1,h2⟩:=st
  obtain⟨d1,d2,d3,d4,d5,d6,d7,d8,d9,d10⟩:=D1
  have L1:s.heap.IsTuple a its1.toArray:=p1
  have L2:=p2.isList
  have D:B9 z TI TO i1 i2 a b:=by
   obtain⟨o1,e1,c1,_⟩:=id L1
   obtain⟨o2,e2,c2,_⟩:=id L2
   obtain⟨o3,e3,c3,_⟩:=id h1
   obtain⟨o4,e4,c4,_⟩:=id h2
   exact⟨d1,d2,d3,d4,d5,d6,d7,d8,d9,d10,aW e1 hz (by rw[c1];exactλz=>absurd (Ψ z) ()),D2,aW e1 e3 (by rw[c1,c3];exactλz=>absurd (Ψ z) ()),aW e1 e4 (by rw[c1,c4];exactλz=>absurd (Ψ z) ()),
    aW e2 hz (by rw[c2];exactλz=>absurd (Ψ z) ()),aW e2 hTO (by rw[c2];exactλz=>absurd (Ψ z) ()),aW e2 e3 (by rw[c2,c3];exactλz=>absurd (Ψ z) ()),aW e2 e4 (by rw[c2,c4];exactλz=>absurd (Ψ z) ())⟩
  refine qI D hz hTI hTO h1 h2 L1 L2 (x:=u1) (y:=u2) (by simpa using hu1) (by simpa using hu2) λh3 a1 a2 a3 a4 a5 hk=>?_
  refine⟨_,rfl,G9 a1 λh4 hz4 hs4=>?_⟩
  have hzl:z<s.heap.objs.size:=ω hz
  have hn:H s.heap.objs.size=none:=I.hok.fresh (θ _)
  have keep:∀c o,c≠z->c≠TO->c≠i1->c≠i2->s.heap.get? c=some o->h4.get? c=some o:=λc o c1 c2 c3 c4 q=>(hs4.2 c c1).trans (hk c o c1 c2 c3 c4 q)
  have tup:h4.get? s.heap.objs.size=some {cls:=.type "tuple",data:=.seq #[u1,u2]}:=(hs4.2 _ (ngt hzl)).trans a5
  have fpn:∀c∈[z,TI,TO,i1,i2],H c=none:=λc hc=>(hf c hc).1
  have nit:∀c v,H c=some v->c≠z/\c≠TO/\c≠i1/\c≠i2:=λc v q=>⟨(λe=>by rw[e,fpn z ()]at q;cases q),(λe=>by rw[e,fpn TO ()]at q;cases q),(λe=>by rw[e,fpn i1 ()]at q;cases q),(λe=>by rw[e,fpn i2 ()]at q;cases q)⟩
  have kch:∀c o,c∉[z,TO,i1,i2]->s.heap.get? c=some o->h4.get? c=some o:=λc o hc q=>keep c o (λe=>hc (by simp[e])) (λe=>hc (by simp[e])) (λe=>hc (by simp[e])) (λe=>hc (by simp[e])) q
  have I2:Inv X pins σ (upd H s.heap.objs.size (.tup [x,y])) {s with heap:=h4,toks:=s.toks}:=by
   refine I.step (g':=s.gens) (d':=s.drawn) (ch:=[z,TO,i1,i2]) (λc hc=>?_) (λc o _ _ hc' q _=>kch c o hc' q) (λc o _ _ hc' q _=>⟨o.slots,kch c o hc' q⟩) (λc o _ q n=>by rw[ai (nlt (ω q))];exact n) (λc o hc' q=>⟨o,kch c o hc' q⟩)
    (λc xs q=>by rw[ai (ao q hn)];exact q) (λc o v q=>by rw[ai (ao q hn)];exact q) (λc ps q=>⟨#[],by rw[ai (ao q hn),q];simp⟩) (λm hm=>?_) (λc v q=>?_) I.bare
   ·have hc':c∈[z,TI,TO,i1,i2]:=by
     simp only[ι,a_,or_false]at hc⊢
     rcases hc with e|e|e|e<;>simp[e]
    obtain⟨f0,f1,f2,f3,f4,f5⟩:=hf c hc'
    exact⟨f3,f1,f4,f5⟩
   ·obtain⟨o,es,ep,ho,r⟩:=hm
    exact⟨o,es,ep,keep _ o (ϛ (hf z ()).2.1) (ϛ (hf TO ()).2.1) (ϛ (hf i1 ()).2.1) (ϛ (hf i2 ()).2.1) ho,r⟩
   ·by_cases hb:c=s.heap.objs.size
    ·subst hb
     rw[aa]at q
     cases q
     exact⟨(show 2<=sizeLine by rw[τ];decide),[u1,u2],.cons ru1 (.cons ru2 .nil),⟨_,tup,rfl,0,rfl⟩,_,tup,rfl⟩
    ·rw[ai hb]at q
     refine(I.hok c v q).stay (λc' w' hc' q'=>?_) (λc' q'=>by rw[ai (ao q' hn)];exact q') λc' xs q'=>by rw[ai (ao q' hn)];exact q'
     rcases hc' with e|e
     ·subst e;obtain⟨n1,n2,n3,n4⟩:=nit c' v q;exact keep c' w' n1 n2 n3 n4 q'
     ·obtain⟨n1,n2,n3,n4⟩:=nit c' _ e;exact keep c' w' n1 n2 n3 n4 q'
  refine⟨.ref s.heap.objs.size,_,I2,rfl,⟨_,x,y,hn,rfl,rfl,λxs' h'=>by rw[I.tuple_inj h' hq1];exact hx,λys' h'=>by rw[I.list_inj h' hq2];exact hy⟩,?_,λc hc=>?_⟩
  ·exact⟨hz4,hs4.extBut _ _ d1 (hk TI _ d1 d5 d6 d7 hTI),⟨_,_,hs4.extBut _ _ d2 a2⟩,a3.at λo e=>hs4.extBut _ _ d3 e,a4.at λo e=>hs4.extBut _ _ d4 e⟩
  ·have hb':c<s.heap.objs.size:=by
    simp only[ι,a_,or_false]at hc
    obtain⟨o3,e3,_⟩:=h1
    obtain⟨o4,e4,_⟩:=h2
    rcases hc with e|e|e|e|e
    ·rw[e];exact hzl
    ·rw[e];exact ω hTI
    ·rw[e];exact ω hTO
    ·rw[e];exact ω e3
    ·rw[e];exact ω e4
   rw[ai (nlt hb')]
   exact fpn c hc
 done:=by
  intro X hP hw hK hc i pins s σ H E I hf st hg
  subst hP hw hK
  obtain⟨xs,ys,hq1,hq2,hend⟩:=hg
  obtain⟨its1,rv1,p1,_⟩:=I.tuple hq1
  obtain⟨its2,rv2,p2,_⟩:=I.list hq2
  obtain⟨hz,hTI,⟨u,v,hTO⟩,h1,h2⟩:=st
  obtain⟨d1,d2,d3,d4,d5,d6,d7,d8,d9,d10⟩:=D1
  have L1:s.heap.IsTuple a its1.toArray:=p1
  have L2:=p2.isList
  have D:B9 z TI TO i1 i2 a b:=by
   obtain⟨o1,e1,c1,_⟩:=id L1
   obtain⟨o2,e2,c2,_⟩:=id L2
   obtain⟨o3,e3,c3,_⟩:=id h1
   obtain⟨o4,e4,c4,_⟩:=id h2
   exact⟨d1,d2,d3,d4,d5,d6,d7,d8,d9,d10,aW e1 hz (by rw[c1];exactλz=>absurd (Ψ z) ()),D2,aW e1 e3 (by rw[c1,c3];exactλz=>absurd (Ψ z) ()),aW e1 e4 (by rw[c1,c4];exactλz=>absurd (Ψ z) ()),
    aW e2 hz (by rw[c2];exactλz=>absurd (Ψ z) ()),aW e2 hTO (by rw[c2];exactλz=>absurd (Ψ z) ()),aW e2 e3 (by rw[c2,c3];exactλz=>absurd (Ψ z) ()),aW e2 e4 (by rw[c2,c4];exactλz=>absurd (Ψ z) ())⟩
  have l1:=rv1.length
  have l2:=rv2.length
  have fpn:∀c∈[z,TI,TO,i1,i2],H c=none:=λc hc=>(hf c hc).1
  refine su (I.ok.hd hc) D hz hTI hTO h1 h2 L1 L2 (hend.imp (λh=>by simp;omega) λh=>by simp;omega) λh4 hk=>⟨rfl,?_⟩
  have nit:∀c v,H c=some v->c≠z/\c≠TO/\c≠i1/\c≠i2:=λc v q=>⟨(λe=>by rw[e,fpn z ()]at q;cases q),(λe=>by rw[e,fpn TO ()]at q;cases q),(λe=>by rw[e,fpn i1 ()]at q;cases q),(λe=>by rw[e,fpn i2 ()]at q;cases q)⟩
  have kch:∀c o,c∉[z,TO,i1,i2]->s.heap.get? c=some o->h4.get? c=some o:=λc o hc q=>hk c o (λe=>hc (by simp[e])) (λe=>hc (by simp[e])) (λe=>hc (by simp[e])) (λe=>hc (by simp[e])) q
  refine I.step (t':=s.toks) (g':=s.gens) (d':=s.drawn) (ch:=[z,TO,i1,i2]) (λc hc=>?_) (λc o _ _ hc' q _=>kch c o hc' q) (λc o _ _ hc' q _=>⟨o.slots,kch c o hc' q⟩) (λc o _ q n=>n) (λc o hc' q=>⟨o,kch c o hc' q⟩)
   (λc xs q=>q) (λc o v q=>q) (λc ps q=>⟨#[],by rw[q];simp⟩) (λm hm=>?_) (λc v q=>?_) I.bare
  ·have hc':c∈[z,TI,TO,i1,i2]:=by
    simp only[ι,a_,or_false]at hc⊢
    rcases hc with e|e|e|e<;>simp[e]
   obtain⟨f0,f1,f2,f3,f4,f5⟩:=hf c hc'
   exact⟨f3,f1,f4,f5⟩
  ·obtain⟨o,es,ep,ho,r⟩:=hm
   exact⟨o,es,ep,hk _ o (ϛ (hf z ()).2.1) (ϛ (hf TO ()).2.1) (ϛ (hf i1 ()).2.1) (ϛ (hf i2 ()).2.1) ho,r⟩
  ·refine(I.hok c v q).stay (λc' w' hc' q'=>?_) (λc' q'=>q') λc' xs q'=>q'
   rcases hc' with e|e
   ·subst e;obtain⟨n1,n2,n3,n4⟩:=nit c' v q;exact hk c' w' n1 n2 n3 n4 q'
   ·obtain⟨n1,n2,n3,n4⟩:=nit c' _ e;exact hk c' w' n1 n2 n3 n4 q'
 self:=λA i s Q E st h=>wpAny_pyIter_zip st.1 h
section
variable{X:Cx}
def Ci(K:ζ)(ta:TA):TI:=λσ H R=>ta σ H λvs H1=>∃a b,vs=[.ref a,.ref b]/\(∃xs,SqT K H1 a xs)/\(∃ys,SqL K H1 b ys)/\R (vy K a b) H1
theorem yM{a b:Expr}{ta:TA}{p pos:Pos}{elts:List Expr}{x1}{tp:Pos}(hg:Gl X "zip")(hm:X.mg "zip"=none)(ha:PA X [a,b] ta)(hs:starEach [a,b] X.env=(false,eval a X.env)::starEach [b] X.env:=by rfl)(hpl:(backTo pos (starEach [b] X.env)).any (·.1)=false:=by rfl):
  PI X (.Tuple elts x1 tp) (.Call (.Name "zip" p) [a,b] [] pos) (Ci X.K ta):=by
 intro pins s σ H R I h
 refine Call_ (eA I hg hm (u:=.type "zip") () (e6 (thn (ha pos pins s σ H _ I h) λus s1 ⟨vs,H1,I1,r1,q1⟩=>?_) hs hpl))
 obtain⟨l,m,e,⟨xs,hq1⟩,⟨ys,hq2⟩,q⟩:=q1
 subst e
 obtain⟨u,w',rfl,ru,rw'⟩:=mV r1
 cases ru
 cases rw'
 obtain⟨its1,rv1,p1,_⟩:=I1.tuple hq1
 obtain⟨its2,rv2,p2,_⟩:=I1.list hq2
 refine sL p1 p2.isList λh' hz hTI hTO hi1 hi2 kp=>?_
 have I2:Inv X pins σ H1 {s1 with heap:=h'}:=I1.kept (t':=s1.toks) kp
 have add:∀(n i j:Nat),i≠j->n+i≠n+j:=λn i j h z=>h (Nat.add_left_cancel z)
 have T:mj X.prog X.w X.K (.Tuple elts x1 tp) (vy X.K l m) [s1.heap.objs.size+4,s1.heap.objs.size+2,s1.heap.objs.size+3,s1.heap.objs.size,s1.heap.objs.size+1] (s1.heap.objs.size+4) _:=
  tL l m (s1.heap.objs.size+4) (s1.heap.objs.size+2) (s1.heap.objs.size+3) s1.heap.objs.size (s1.heap.objs.size+1)
   ⟨add _ 2 4 (),add _ 3 4 (),add _ 0 4 (),add _ 1 4 (),add _ 2 3 (),add _ 2 0 (),add _ 2 1 (),add _ 3 0 (),add _ 3 1 (),add _ 0 1 ()⟩ (ϑ (Hm 3 (tO p1)))
 refine T.self X.A 0 {s1 with heap:=h'} _ _ ⟨hz,hTI,⟨_,_,hTO⟩,hi1,hi2⟩ ?_
 refine⟨s1.heap.objs.size+4,_,_,_,H1,rfl,I2,T,⟨hz,hTI,⟨_,_,hTO⟩,hi1,hi2⟩,λb hb=>?_,q⟩
 have hb':s1.heap.objs.size<=b:=by
  simp only[ι,a_,or_false]at hb
  rcases hb with e|e|e|e|e
  ·rw[e];exact Ϸ _ _
  ·rw[e];exact Ϸ _ _
  ·rw[e];exact Ϸ _ _
  ·rw[e];exact θ _
  ·rw[e];exact Ϸ _ _
 obtain⟨f0,f1⟩:=I1.fpOk hb' (I1.hok.fresh hb')
 exact⟨f0,f1⟩
theorem xw{k:Nat}{ix:List Nat}{g:TG}{tt:TT}{te:TE}{σ:St}{H1:Hp}{Q:List V->Hp->Prop}{K:ζ}{a b:Addr}{xs ys:List V}(Pv:Nat->List V->Hp->Prop)(h0:Pv 0 [] H1)(hl:∀i zs H,Pv i zs H->SqT K H a xs/\SqL K H b ys)
  (hs:∀i zs H x y p,xs[i]?=some x->ys[i]?=some y->Pv i zs H->H p=none->eJ k ix g tt te σ (.ref p) zs (upd H p (.tup [x,y])) (Pv (i+1))) (hd:∀zs H,Pv (min xs.length ys.length) zs H->Q zs H):rLC (vy K a b) k ix g tt te σ H1 Q:=by
 refine ms (n:=min xs.length ys.length) Pv h0 (λi zs H h p=>?_) (λzs H p=>?_) (λi zs H x H' h p y=>?_) hd
 ·obtain⟨q1,q2⟩:=hl i zs H p
  exact⟨xs,ys,xs[i]'(),ys[i]'(),q1,q2,(),()⟩
 ·obtain⟨q1,q2⟩:=hl _ zs H p
  exact⟨xs,ys,q1,q2,()⟩
 ·obtain⟨q1,q2⟩:=hl i zs H p
  obtain⟨c,x',y',hb,e1,e2,hx,hy⟩:=y
  subst e1 e2
  exact hs i zs H x' y' c (hx xs q1) (hy ys q2) p hb
theorem DI(K:ζ)(h:X.K=K):dZ X (.type "tuple") (λxs H Q=>∃p ys,xs=[.ref p]/\((SqL K H p ys/\∀l,H l=none->Q (.ref l) (upd H l (.tup ys)))\/(SqT K H p ys/\Q (.ref p) H))):=by subst h;exact bo
theorem FP{o e:Expr}{es:List Expr}{to:TE}{t:TA}{name:Str}{apos cpos:Pos}{T id:String}{r:V->List V->Hp->VK->Prop}(K:ζ)(h:X.K=K)(pa:PlainAttrs T)(slot:Slot T name id)(hty:typeOf (.builtin id)=pure (.type "method_descriptor"))(hm:MtR X id r)(ho:PE X o to)(ha:PA X (e::es) t)
  (hbase:attributeBase o name X.env (eval o X.env)=eval o X.env:=by rfl)
  (hfew:((backTo cpos (starEach (e::es) X.env)).all (λx=>!x.1)&&(backToKw cpos (keywordEach [] X.env)).all (λx=>x.1.isSome)
   && decide ((e::es).length+([]:List Keyword).length+(if ([]:List Keyword).isEmpty then 0 else 1)<30))=true:=by rfl)
  (hline:(apos.endLine==cpos.line)=true:=by rfl) (hs:starEach (e::es) X.env=(false,eval e X.env)::starEach es X.env:=by rfl) (hplain:(backTo cpos (starEach es X.env)).any (·.1)=false:=by rfl):
  PE X (.Call (.Attribute o name apos) (e::es) [] cpos) (tBM K T r to t):=by
 subst h
 exact pe_bm pa slot hty hm ho ha hbase hfew hline hs hplain
theorem jD(x y:Str)(t u:Tok):Meets (e_.«str.count» ⟨[.str x t,.str y u],[]⟩) (λ_ R s=>(Made.int (Txt.count x y)).post (λv s'=>R (.ok (.ret v)) s') s):=
 λprog w A R s h=>gives_str_count x y t u prog w A R s h
theorem DJ:MtR X "str.count" (λx xs H Q=>∃a b:Str,x=.str a/\xs=[.str b]/\Q (.int (Txt.count a b)) H):=by
 intro pins s σ H x xs v us Q I rx r h
 obtain⟨a,b,rfl,rfl,q⟩:=h
 obtain⟨t,rfl⟩:=rx
 obtain⟨u,rfl,t1,rfl⟩:=ft r
 refine y_ F.slot_str_count (E4 _ _ _) F.entry_str_count (F.args_str_count_2 _ _) (jD a b t t1) ?_
 rw[Made.post]
 exact⟨.int _,H,I.tok _,⟨_,rfl⟩,q⟩
theorem zM:MtR X "str.partition" (λx xs H Q=>∃a b:Str,x=.str a/\xs=[.str b]/\(b.length==0)=false/\a.length<=sizeLine/\∀p,H p=none->Q (.ref p) (upd H p (.tup [.str (Txt.partition a b).1,.str (Txt.partition a b).2.1,.str (Txt.partition a b).2.2]))):=by
 intro pins s σ H x xs v us Q I rx r h
 obtain⟨a,b,rfl,rfl,hb,ha,q⟩:=h
 obtain⟨t,rfl⟩:=rx
 obtain⟨u,rfl,t1,rfl⟩:=ft r
 have fin:∀(t1 t2 t3:Tok)(tk:Nat),EP X pins σ Q (.ref s.heap.objs.size) {s with heap:=s.heap.push {cls:=.type "tuple",data:=.seq #[.str (Txt.partition a b).1 t1,.str (Txt.partition a b).2.1 t2,.str (Txt.partition a b).2.2 t3]},toks:=tk}:=λt1 t2 t3 tk=>by
  refine⟨.ref _,_,I.laid (t':=tk) (o:=.tup [.str (Txt.partition a b).1,.str (Txt.partition a b).2.1,.str (Txt.partition a b).2.2]) (λb ob q=>μ _ q) (θ _) ?_,rfl,q _ (I.hok.fresh (θ _))⟩
  exact⟨by rw[τ];show 3<=16777216;decide,_,.cons ⟨t1,rfl⟩ (.cons ⟨t2,rfl⟩ (.cons ⟨t3,rfl⟩ .nil)),HS _ _,NoD.new _ rfl⟩
 refine y_ F.slot_str_partition (E4 _ _ _) F.entry_str_partition (F.args_str_partition_2 _ _) (meets_str_partition a b t t1 hb ha) ?_
 unfold Txt.partition at fin
 cases h:o_ a b 0 a.length 1 with
 |nil=>rw[h]at fin;exact fin t s.toks s.toks _
 |cons i l=>rw[h]at fin;exact fin _ t1 _ _
theorem DH:MtR X "str.startswith" (λx xs H Q=>∃a b:Str,x=.str a/\xs=[.str b]/\Q (.bl (Txt.startswith a b)) H):=by
 intro pins s σ H x xs v us Q I rx r h
 obtain⟨a,b,rfl,rfl,q⟩:=h
 obtain⟨t,rfl⟩:=rx
 obtain⟨u,rfl,t1,rfl⟩:=ft r
 exact SC.startswith ⟨.bl _,H,I,rfl,q⟩
end
end L2
namespace XB
open PySem L2 KB
inductive So|n|x|l|k|w|f|y|e|a|r
deriving DecidableEq
def srt:So->Str
 |.n=>"number"
 |.x=>"name"
 |.l=>"length"
 |.k=>"kind"
 |.w=>"reckon"
 |.f=>"def"
 |.y=>"name"
 |.e=>"part"
 |.a=>"args"
 |.r=>"things"
abbrev Wd:=Str×Str×List So
def WT:List Wd:=[("number","n",[.n]),("name","x",[.x]),("length","l",[.l]),("none","k",[.k]),("place","ll",[.l,.l]),("reckon","wee",[.w,.e,.e]),
 ("if","eee",[.e,.e,.e]),("let","xee",[.x,.e,.e]),("call","fa",[.f,.a]),("pair","ee",[.e,.e]),("first","e",[.e]),("second","e",[.e]),
 ("row","r",[.r]),("join","ee",[.e,.e]),("take","le",[.l,.e]),("drop","le",[.l,.e]),("zip","ee",[.e,.e]),("turn","e",[.e]),
 ("get","ee",[.e,.e]),("value","e",[.e]),("up","le",[.l,.e]),("wide","le",[.l,.e]),("mirror","e",[.e]),("fork","lexee",[.l,.e,.x,.e,.e]),
 ("when","elxee",[.e,.l,.x,.e,.e]),("loop","xle",[.x,.l,.e]),("fold","xlyee",[.x,.l,.y,.e,.e])]
def ST:List Wd:=[("number","n",[.n]),("name","x",[.x]),("length","l",[.l]),("reckon","wee",[.w,.e,.e]),("if","eee",[.e,.e,.e]),("let","xee",[.x,.e,.e]),
 ("call","fa",[.f,.a]),("pair","ee",[.e,.e]),("first","e",[.e]),("second","e",[.e]),("row","r",[.r]),("none","k",[.k]),
 ("join","ee",[.e,.e]),("take","le",[.l,.e]),("drop","le",[.l,.e]),("zip","ee",[.e,.e]),("turn","e",[.e]),("get","ee",[.e,.e]),
 ("place","ll",[.l,.l]),("value","e",[.e]),("up","le",[.l,.e]),("wide","le",[.l,.e]),("mirror","e",[.e]),("fork","lexee",[.l,.e,.x,.e,.e]),
 ("when","elxee",[.e,.l,.x,.e,.e]),("loop","xle",[.x,.l,.e]),("fold","xlyee",[.x,.l,.y,.e,.e])]
instance:DecidableEq Wd:=inferInstance
theorem Bo:∀p∈WT,p∈ST:=by decide +kernel
theorem BB:(ST.map (·.1)).Nodup:=by decide +kernel
theorem Bq:(WT.map (·.1)).Nodup:=by decide +kernel
theorem BJ:∀p∈ST,p.2.2.length<=5:=by decide +kernel
theorem fO:∀p∈WT,p.2.2.length<=5:=by decide +kernel
def jk(ss:List So):Nat:=(ss.map λ| .e=>1|.a=>4|.r=>4|_=>0).sum
theorem zB:∀p∈WT,jk p.2.2<=4:=by decide +kernel
theorem vZ:∀s:So,V.str (srt s)=V.str "part"↔s=.e:=by
 intro s
 cases s<;>simp only[V.str.injEq,srt]<;>decide +kernel
theorem qm:∀s:So,V.str (srt s)=V.str "args"↔s=.a:=by
 intro s
 cases s<;>simp only[V.str.injEq,srt]<;>decide +kernel
theorem rN:∀s:So,V.str (srt s)=V.str "things"↔s=.r:=by
 intro s
 cases s<;>simp only[V.str.injEq,srt]<;>decide +kernel
theorem BE:∀s:So,V.str (srt s)=V.str "number"↔s=.n:=by
 intro s
 cases s<;>simp only[V.str.injEq,srt]<;>decide +kernel
theorem nu:∀s:So,V.str (srt s)=V.str "length"↔s=.l:=by
 intro s
 cases s<;>simp only[V.str.injEq,srt]<;>decide +kernel
theorem mQ:∀s:So,V.str (srt s)=V.str "kind"↔s=.k:=by
 intro s
 cases s<;>simp only[V.str.injEq,srt]<;>decide +kernel
theorem Bp:∀s:So,V.str (srt s)=V.str "reckon"↔s=.w:=by
 intro s
 cases s<;>simp only[V.str.injEq,srt]<;>decide +kernel
theorem Bg:∀s:So,V.str (srt s)=V.str "def"↔s=.f:=by
 intro s
 cases s<;>simp only[V.str.injEq,srt]<;>decide +kernel
theorem pV:∀s:So,V.str (srt s)=V.str "name"↔(s=.x\/s=.y):=by
 intro s
 cases s<;>simp only[V.str.injEq,srt]<;>decide +kernel
theorem vB{α:Type}{l:List α}{f:α->Str}(hn:(l.map f).Nodup){p:α}(hp:p∈l):l.find? (λq=>decide (f q=f p))=some p:=by
 induction l with
 |nil=>cases hp
 |cons q l ih=>
  rw[Μ,r6]at hn
  rw[D_]
  rcases ι.mp hp with rfl|hp
  ·simp
  ·rw[show decide (f q=f p)=false from Q8 λe=>hn.1 (by rw[e];exact i4 hp)]
   exact ih hn.2 hp
structure Shp(P:υ)(w:Κ)(K:ζ)(g:Addr):Prop where
 ex:∃kvs,FD P w K g kvs/\(∀p∈WT,∃b,look kvs p.1=some b/\∀H,SqT K H b (p.2.2.map λs=>V.str (srt s)))/\∀x,(look kvs x).isSome=WT.any λp=>decide (p.1=x)
def Dw:Gc->Str×Addr
 |⟨_,.str x _,.ref b⟩=>(x,b)
 |_=>("",0)
inductive Ents (w:Κ):List Gc->Prop
 |nil:Ents w []
 |cons {x:Str} {t:Tok} {b:Addr} {es:List Gc}:Ents w es->Ents w (⟨PyData.keyHash w.params x,.str x t,.ref b⟩::es)
inductive AreS:List ε->List Str->Prop
 |nil:AreS [] []
 |cons {x:Str} {t:Tok} {us:List ε} {xs:List Str}:AreS us xs->AreS (.str x t::us) (x::xs)
theorem AreS.vals{us:List ε}{xs:List Str}(h:AreS us xs):aw (xs.map V.str) us:=by
 induction h with
 |nil=>exact .nil
 | @cons x t us xs _ ih=>exact .cons ⟨t,rfl⟩ ih
inductive TupsK (K:ζ):List (Str×Addr)->List Wd->Prop
 |nil:TupsK K [] []
 |cons {x z:Str} {b:Addr} {kvs:List (Str×Addr)} {ss:List So} {ps:List Wd} {od:Option Addr} {its:List ε} {n:Nat} {sl:Array (Option ε)} :
  K.lookup b=some ⟨.type "tuple",od,.seq its.toArray n,sl⟩->AreS its (ss.map srt)->TupsK K kvs ps->TupsK K ((x,b)::kvs) ((x,z,ss)::ps)
theorem TupsK.keys{K:ζ}{kvs:List (Str×Addr)}{ps:List Wd}(h:TupsK K kvs ps):kvs.map (·.1)=ps.map (·.1):=by
 induction h with
 |nil=>rfl
 |cons _ _ _ ih=>rw[Μ,Μ,ih]
theorem TupsK.look{K:ζ}{kvs:List (Str×Addr)}{ps:List Wd}(h:TupsK K kvs ps)(hf:∀p∈ps,p.2.2.length<=5):(ps.map (·.1)).Nodup->∀p∈ps,∃b,L2.look kvs p.1=some b/\∀H,SqT K H b (p.2.2.map λs=>V.str (srt s)):=by
 induction h with
 |nil=>intro _ p hp;cases hp
 | @cons x z b kvs ss ps od its n sl hl ha _ ih=>
  intro hn p hp
  rw[Μ,r6]at hn
  unfold L2.look
  rw[D_]
  rcases ι.mp hp with rfl|hp'
  ·rw[Q9 rfl]
   refine⟨b,rfl,λH=>.inr ⟨_,_,_,hl,rfl,rfl,?_,?_⟩⟩
   ·have h5:ss.length<=5:=hf _ ν
    have:=ha.vals.length
    rw[ς,ς]at this
    rw[Α,τ]
    omega
   ·have:=ha.vals
    rw[i_]at this
    exact this
  ·rw[Q8 (λe:x=p.1=>hn.1 (by rw[show(x,z,ss).1=p.1 from e];exact i4 (f:=(·.1)) hp'))]
   exact ih (λq hq=>hf q (π _ hq)) hn.2 p hp'
theorem Ents.pairs{P:υ}{w:Κ}{es:List Gc}(h:Ents w es):Pairs (bV P w) es ((es.map Dw).map λp=>((k_ p.1:Key),Λ p.2)):=by
 induction h with
 |nil=>exact .nil
 | @cons x t b es _ ih=>exact .cons (eU P w x t) rfl ih
theorem Ents.keys{P:υ}{w:Κ}{es:List Gc}(h:Ents w es):∀e∈es,∃k,(bV P w).is k e.key=true/\e.hash=(bV P w).hash k:=by
 induction h with
 |nil=>intro e he;cases he
 | @cons x t b es _ ih=>
  intro e he
  rcases ι.mp he with rfl|he
  ·exact⟨k_ x,eU P w x t,rfl⟩
  ·exact ih e he
theorem wK(kvs:List (Str×Addr))(x:Str):(L2.look kvs x).isSome=(kvs.map (·.1)).any λy=>decide (y=x):=by
 unfold L2.look
 rw[Hf]
 induction kvs with
 |nil=>rfl
 |cons p kvs ih=>
  rw[D_,Μ,List.any_cons]
  by_cases h:p.1=x
  ·rw[Q9 h];rfl
  ·rw[Q8 h,Bool.false_or];exact ih
theorem ED:∀p∈ST,p∈WT:=by decide +kernel
theorem Ds(x:Str):(ST.map (·.1)).any (λy=>decide (y=x))=WT.any λp=>decide (p.1=x):=by
 rw[w_,n_,n_]
 constructor
 ·rintro⟨y,hy,h⟩
  obtain⟨p,hp,rfl⟩:=Ϡ.mp hy
  exact⟨p,ED p hp,h⟩
 ·rintro⟨p,hp,h⟩
  exact⟨p.1,i4 (Bo p hp),h⟩
theorem shp_mk{P:υ}{w:Κ}{K:ζ}{g:Addr}{es:List Gc}{ep:Nat}(hl:K.lookup g=some ⟨.type "dict",none,.dict es.toArray ep,#[]⟩)(lo:(g==sysModules)=false)(he:Ents w es)(ht:TupsK K (es.map Dw) ST):Shp P w K g:=by
 refine⟨es.map Dw,⟨by rw[ht.keys];exact BB,lo,_,_,_,hl,⟨rfl,rfl,rfl⟩,rfl,λe hm=>he.keys e (by simpa using hm),by simpa using he.pairs⟩,λp hp=>ht.look BJ BB p (Bo p hp),λx=>by rw[wK,ht.keys,Ds]⟩
inductive F2 (R:So->Dv->Prop):List So->List Dv->Prop
 |nil:F2 R [] []
 |cons {s:So} {d:Dv} {ss:List So} {ds:List Dv}:R s d->F2 R ss ds->F2 R (s::ss) (d::ds)
theorem F2.length{R:So->Dv->Prop}{ss:List So}{ds:List Dv}(h:F2 R ss ds):ds.length=ss.length:=by
 induction h with
 |nil=>rfl
 |cons _ _ ih=>rw[χ,χ,ih]
theorem F2.get{R:So->Dv->Prop}{ss:List So}{ds:List Dv}(h:F2 R ss ds){i:Nat}{s:So}(hs:ss[i]?=some s):∃d,ds[i]?=some d/\R s d:=by
 induction h generalizing i with
 |nil=>cases hs
 |cons h _ ih=>
  cases i with
  |zero=>cases hs;exact⟨_,rfl,h⟩
  |succ i=>exact ih hs
def Fld(E:Dv->Prop)(L:So->Dv->Prop):So->Dv->Prop
 |.e,d=>E d
 |.a,d=>∃es,d=.tup es/\es.length<=4/\∀e∈es,E e
 |.r,d=>∃es,d=.tup es/\1<=es.length/\es.length<=4/\∀e∈es,E e
 |s,d=>L s d
def yF:Dv->List Dv
 |.tup ds=>ds
 |_=>[]
def ptD:So->Dv->List Dv
 |.e,d=>[d]
 |.a,d=>yF d
 |.r,d=>yF d
 |_,_=>[]
def bD:List So->List Dv->List Dv
 |s::ss,d::ds=>ptD s d++bD ss ds
 |_,_=>[]
def zL(w:Str):List So:=match WT.find? (λq=>decide (q.1=w))with
 |some p=>p.2.2
 |none=>[]
theorem AS{p:Wd}(hp:p∈WT):zL p.1=p.2.2:=by unfold zL;rw[vB Bq hp]
def bb:Dv->List Dv
 |.tup (.str w::ds)=>bD (zL w) ds
 |_=>[]
theorem parts_of{p:Wd}(hp:p∈WT)(ds:List Dv):bb (.tup (.str p.1::ds))=bD p.2.2 ds:=by
 show bD (zL p.1) ds=_
 rw[AS hp]
theorem zi{E:Dv->Prop}{L:So->Dv->Prop}{ss:List So}{ds:List Dv}(h:F2 (Fld E L) ss ds):(∀e∈bD ss ds,E e)/\(bD ss ds).length<=jk ss:=by
 induction h with
 |nil=>exact⟨λe he=>by simp[bD]at he,by simp[bD]⟩
 | @cons s d ss ds h _ ih=>
  obtain⟨i1,i2⟩:=ih
  have em:jk (s::ss)=jk [s]+jk ss:=by simp[jk]
  rw[em]
  have key:(∀e∈ptD s d,E e)/\(ptD s d).length<=jk [s]:=by
   cases s with
   |e=>exact⟨λe he=>by rw[ξ.mp he];exact h,θ _⟩
   |a=>obtain⟨es,rfl,h1,h2⟩:=h;exact⟨h2,h1⟩
   |r=>obtain⟨es,rfl,h0,h1,h2⟩:=h;exact⟨h2,h1⟩
   |_=>exact⟨λe he=>by simp[ptD]at he,by simp[ptD,jk]⟩
  show(∀e∈ptD s d++bD ss ds,E e)/\(ptD s d++bD ss ds).length<=_
  refine⟨λe he=>?_,by rw[Ε];omega⟩
  rcases Φ.mp he with he|he
  ·exact key.1 e he
  ·exact i1 e he
theorem mM(ss:List So)(ds:List Dv)(i:Nat){s:So}{d:Dv}(hs:ss[i]?=some s)(hd:ds[i]?=some d):bD (ss.take (i+1)) (ds.take (i+1))=bD (ss.take i) (ds.take i)++ptD s d:=by
 induction i generalizing ss ds with
 |zero=>
  cases ss with
  |nil=>cases hs
  |cons s' ss=>
   cases ds with
   |nil=>cases hd
   |cons d' ds=>cases hs;cases hd;simp[bD]
 |succ i ih=>
  cases ss with
  |nil=>cases hs
  |cons s' ss=>
   cases ds with
   |nil=>cases hd
   |cons d' ds=>
    simp only[List.take_succ_cons,bD]
    rw[ih ss ds hs hd,Ϣ]
theorem fR(xs:List V)(n:Nat):dG xs (some (n:Int)) none=xs.drop n:=by
 unfold dG
 have e1:HT.sIx xs.length 0 (some (n:Int))=min n xs.length:=HT.sIx_nat _ _ _
 have e2:HT.sIx xs.length xs.length none=xs.length:=rfl
 rw[e1,e2]
 rcases Nat.le_total n xs.length with h|h
 ·rw[HK h,F4 (by rw[ϡ];exact θ _)]
 ·rw[Nat.min_eq_right h,Hx,List.take_zero,List.drop_of_length_le h]
theorem Dr{t1 t2:TT}{σ:St}{H:Hp}{Q:Bool->Hp->Prop}(q:Q true H)(f:Q true H->tOr t1 t2 σ H Q):tOr t1 t2 σ H Q:=f q
theorem jS{K:ζ}{g:Addr}{us:List V}{lo hi:Option Int}{H:Hp}{Q:VK}(hg:H g=some (.tup us))(k:∀H' p,aj H H'->H' p=some (.tup (dG us lo hi))->Q (.ref p) H'):Eu K (.ref g) lo hi H Q:=
 ⟨g,us,rfl,SqT.of hg,λe=>k H g (aj.refl _) (by rw[e];exact hg),λp hp=>k _ p (ac hp _) aa⟩
def Dj(d:Dv):Prop:=∃(p:Wd) (ds:List Dv),p∈WT/\d=.tup (.str p.1::ds)/\F2 (Fld (λ_=>True) (λ_ _=>True)) p.2.2 ds
theorem wA{H:Hp}{ds:List Dv}{vs:List V}(h:Reps H ds vs){i:Nat}{d:Dv}(hd:ds[i]?=some d):∃v,vs[i]?=some v/\Rep H d v:=by
 have l:=h.length
 have hi:i<vs.length:=by rw[l];exact(Ρ.mp hd).1
 obtain⟨e,he,r⟩:=h.get (Ι hi)
 rw[hd]at he
 cases he
 exact⟨_,Ι hi,r⟩
theorem cA{H:Hp}{d:Dv}{ds:List Dv}{vs:List V}(h:Reps H (d::ds) vs):∃v ws,vs=v::ws/\Rep H d v/\Reps H ds ws:=by simpa only[Reps]using h
theorem cb{t1 t2:TS}{D:dI}{σ:St}{H:Hp}(f:∀N:St->Hp->Prop,(∀σ' H',t2 D σ' H'->N σ' H')->t1 {D with nx:=N} σ H):CP t1 t2 D σ H:=f (t2 D) λ_ _ h=>h
def qO{lo:Int}{n:Nat}{g:TG}{tb:TS}{D:dI}{σ:St}{H:Hp}(Pv:Nat->St->Hp->Prop)(h0:Pv 0 σ H)
  (hs:∀i σ H (D':dI),(∀σ' H',Pv (i+1) σ' H'->D'.nx σ' H')->i<n->Pv i σ H->g (.int (lo+i)) σ H λσ2 H2=>tb D' σ2 H2) (hd:∀σ H,Pv n σ H->D.nx σ H):=mN (lo:=lo) (n:=n) (g:=g) (tb:=tb) (D:=D) (σ:=σ) (H:=H) Pv h0 (λi σ H hi p=>hs i σ H _ (λ_ _ h=>h) hi p) hd
def jf{K:ζ}{a b:Addr}{xs ys:List V}{g:TG}{tb:TS}{D:dI}{σ:St}{H:Hp}(Pv:Nat->St->Hp->Prop)(h0:Pv 0 σ H)(hl:∀i σ H,Pv i σ H->SqT K H a xs/\SqT K H b ys)
  (hs:∀i x y σ H p (D':dI),(∀v H,D.rt v H->D'.rt v H)->(∀σ' H',Pv (i+1) σ' H'->D'.nx σ' H')->xs[i]?=some x->ys[i]?=some y->Pv i σ H->H p=none->g (.ref p) σ (upd H p (.tup [x,y])) λσ2 H2=>tb D' σ2 H2) (hd:∀σ H,Pv (min xs.length ys.length) σ H->D.nx σ H):=
 wP (K:=K) (a:=a) (b:=b) (xs:=xs) (ys:=ys) (g:=g) (tb:=tb) (D:=D) (σ:=σ) (H:=H) Pv h0 hl (λi x y σ H p hx hy q hp=>hs i x y σ H p _ (λ_ _ h=>h) (λ_ _ h=>h) hx hy q hp) hd
theorem qG{c:TT}{tb:TS}{D:dI}{σ:St}{H:Hp}(Pv:Nat->St->Hp->Prop)(m:Nat)(h0:Pv m σ H)
  (hs:∀m σ H (D':dI),(∀v H,D.rt v H->D'.rt v H)->(∀m' σ' H',m'<m->Pv m' σ' H'->D'.nx σ' H')->Pv m σ H->c σ H λb H1=>if b=true then tb D' σ H1 else D.nx σ H1)
  (mono:∀σ H Q Q',(∀b H1,Q b H1->Q' b H1)->c σ H Q->c σ H Q'):uD c tb D σ H:=
 AR Pv m h0 (λm σ H p=>hs m σ H _ (λ_ _ h=>h) (λm' _ _ l q=>⟨m',l,q⟩) p) mono
end XB
namespace L2.EX
open PySem PySem.Spec PyProof.Rows PySem.W
section
variable{P:υ}{w:Κ}{A:Υ}{R:Ht->η->Prop}{E:ε->η->Prop}{h:Heap}{g:Array B0}{d:HW}{t:Nat}{os:Hy}
variable{nm q:Str}{C N:Addr}{bs bm:List ε}{hdct:Bool}{sn:List Str}{sub:List ε}{ab:Bool}{col:Option Bool}{dd:Option Addr}{k0 k1 k2 k3 k5:Option ε}{B newId inN:String}{bmN:List ε}
structure bt(B:String)(bm:List ε):Prop where
 is:bm.contains (.type B)=true
 attr:bm.contains (.type "AttributeError")=false
 name:bm.contains (.type "NameError")=false
theorem bt.up{X:String}{b:Bool}{a:Addr}(e:bm.contains (.type X)=b):(Λ a::bm).contains (.type X)=b:=by
 rw[G0,e];cases b<;>rfl
def gq(C:Addr)(t:Addr):Obj:={cls:=.ref C,data:=.fields #[.ref t,.none,.none,.none,.bool false,.none]}
def nt(vs:List ε):Obj:={cls:=.type "tuple",data:=.seq vs.toArray}
theorem Di(F:GF B newId inN bmN)(O:bt B bm){vs:List ε}(hC:h.get? C=some (excClassObj nm q C N bs bm hdct sn sub ab col dd k0 k1 k2 k3 k5 newId))(hv:vs.length<=sizeLine)
  (hq:R (.ok (.ret (.ref (h.objs.size+1)))) ⟨(h.push (nt vs)).push (gq C h.objs.size),g,d,t,os⟩):
  codeAny (model P w) A (.builtin newId ⟨.ref C::vs,[]⟩) R ⟨h,g,d,t,os⟩:=by
 have e1:=F.ends
 have b1:=bt.up (a:=C) O.is
 have b2:=bt.up (a:=C) O.attr
 have b3:=bt.up (a:=C) O.name
 refine codeAny_builtinAt F.entry ?_
 unfold e_.«BaseException.__new__»
 refine PySem.wpAt_bind ?_
 show PySem.wpAt _ _ _ (stack>>=_) _ _ _
 refine PySem.wpAt_bind (PySem.wpAt_stack λp below=>PySem.wpAt_of_wpAny ?_)
 wp_walk
 refine PySem.wpAt_of_wpAny ?_
 rw[F.owner]
 repeat (first
  |with_reducible refine wpAny_madeHere_exc F.canon hC ?_
  |with_reducible refine Ξ hC ?_
  |(with_reducible refine ϫ hC ?_;first|rw[b1]|rw[b2]|rw[b3])
  |wp_step)
 show R _ _
 rw[Ϧ]
 exact hq
theorem og(F:GF B newId inN bmN)(O:bt B bm){vs:List ε}{Q:Unit->η->Prop}(hC:h.get? C=some (excClassObj nm q C N bs bm hdct sn sub ab col dd k0 k1 k2 k3 k5 newId))(hq:Q Unit.unit ⟨h,g,d,t,os⟩):
  wpAny (model P w) A (checkBuiltinCall newId ⟨.ref C::vs,[]⟩) Q E ⟨h,g,d,t,os⟩:=by
 have b1:=bt.up (a:=C) O.is
 have e1:=F.noStar
 simp only[checkBuiltinCall,F.newKind,F.newSplit,F.newRow]
 repeat (first
  |refine Ξ hC ?_
  |(refine ϫ hC ?_;rw[b1])
  |refine wpAny_staticBase_exc hC ?_
  |refine wpAny_madeBy_exc hC ?_
  |simp only[bne_self_eq_false,Bool.false_eq_true,if_false]
  |wp_step)
 exact hq
end
section
variable{P:υ}{w:Κ}{A:Υ}{E:ε->η->Prop}{h:Heap}{g:Array B0}{d:HW}{t:Nat}{os:Hy}
variable{nm q:Str}{C N fI:Addr}{bs bm:List ε}{hdct:Bool}{sn:List Str}{sub:List ε}{ab:Bool}{col:Option Bool}{dd:Option Addr}{k0 k1 k2 k3 k5:Option ε}{B newId inN:String}{bmN:List ε}
theorem zG(F:GF B newId inN bmN)(O:bt B bm){vs:List ε}{oI:Obj}{Q:ε->η->Prop}(hC:h.get? C=some (excClassObj nm q C N bs bm hdct sn sub ab col dd k0 k1 k2 k3 k5 newId))(hv:vs.length<=sizeLine)(hfI:h.get? fI=some oI)(hfc:oI.cls=.type "function")
  (look:∀{A:Υ}{E:ε->η->Prop}{Q:Option ε->η->Prop}{s:η},(∀b o,h.get? b=some o->s.heap.get? b=some o)->Q (some (.ref fI)) s->wpAny (model P w) A (typeLookup (.ref C) "__init__") Q E s)
  (hq:wpAny (model P w) (A.under (.builtin "type.__call__" ⟨.ref C::vs,[]⟩)) (call (.ref fI) (.ref (h.objs.size+1)::vs)) (λr s'=>r=.none/\Q (.ref (h.objs.size+1)) s') E ⟨(h.push (nt vs)).push (gq C h.objs.size),g,d,t,os⟩):
  wpAny (model P w) A (call (.ref C) vs) Q E ⟨h,g,d,t,os⟩:=by
 have f1:=tc_lookup
 have f2:=tc_bind (.ref C)
 have hT:(⟨h,g,d,t,os⟩:η).TypeIs (.ref C) "type":=⟨_,hC,rfl⟩
 have kp:∀b o,h.get? b=some o->((h.push (nt vs)).push (gq C h.objs.size)).get? b=some o:=λb o e=>μ _ (μ _ e)
 have hC1:=kp _ _ hC
 have hI1:=kp _ _ hfI
 have hg:((h.push (nt vs)).push (gq C h.objs.size)).get? (h.objs.size+1)=some (gq C h.objs.size):=Heap.get?_push_at (by simp only[Ϧ]) rfl
 have hcC:(Λ C::bm).contains (.ref C)=true:=by simp
 refine Gf (codeAny_of_tree ?_)
 show wpAny _ _ (callAny (.ref C) _) _ _ _
 repeat (any_goals (first|assumption|with_reducible refine Ξ hC ?_|wp_step))
 refine⟨rfl,codeAny_call_builtin_at (G1 _ ()) entry_typeCall (wpAny_check_type_call_sub hC ?_)⟩
 repeat (first|with_reducible refine Ξ hC ?_|with_reducible refine wpAny_madeBy_exc hC ?_|wp_step)
 refine codeAny_call_builtin_code (G1 _ F.quiet) (og F O hC (Di F O hC hv ?_))
 show wpAny _ _ _ _ _ _
 unfold isInstance
 unfold gq at hg
 repeat (first|with_reducible refine Ξ hg ?_|wp_step)
 refine ϫ hC1 ?_
 rw[hcC]
 repeat (first|with_reducible refine Ξ hg ?_|wp_step)
 show wpAny _ _ (typeLookup (.ref C) _) _ _ _
 refine look kp ?_
 refine A9 (δ ?_)
 unfold bindSpecial
 refine δ (Hv (T:="function") ⟨_,hI1,hfc⟩ ?_)
 rw[Q5 ()]
 refine ρ (δ (ϴ hq (λr s' hr=>?_) λ_ _ x=>x))
 obtain⟨rfl,hQ⟩:=hr
 wp_walk
 exact hQ
end
open PySem PySem.Spec PyProof.Rows PySem.W
section
variable{P:υ}{w:Κ}{A:Υ}{E:ε->η->Prop}{h:Heap}{g:Array B0}{d:HW}{t:Nat}{os:Hy}
variable{nm q:Str}{C N fI:Addr}{bs bm:List ε}{hdct:Bool}{sn:List Str}{sub:List ε}{ab:Bool}{col:Option Bool}{dd:Option Addr}{k0 k1 k2 k3 k5:Option ε}{B newId nid initId:String}{bmB:List ε}
theorem mh(F:GF B nid initId bmB)(O:bt B bm){e:Addr}{oe:Obj}{vs:List ε}{Q:Unit->η->Prop}(hC:h.get? C=some (excClassObj nm q C N bs bm hdct sn sub ab col dd k0 k1 k2 k3 k5 newId))(he:h.get? e=some oe)(hc:oe.cls=.ref C)(hq:Q Unit.unit ⟨h,g,d,t,os⟩):
  wpAny (model P w) A (checkBuiltinCall initId ⟨.ref e::vs,[]⟩) Q E ⟨h,g,d,t,os⟩:=by
 have b1:=bt.up (a:=C) O.is
 have e1:=F.noStar
 simp only[checkBuiltinCall,F.initKind,F.initSplit,F.initRow]
 repeat (first
  |(with_reducible refine Ξ he ?_;rw[hc])
  |with_reducible refine Ξ hC ?_
  |(with_reducible refine ϫ hC ?_;rw[b1])
  |wp_step)
 refine s_ ?_
 have z:∀(a b:String)(n:Nat),Bind.check ⟨.positional,"*",B,.self,[⟨"args",.varPos,false⟩]⟩ a b n (List.map (λx=>x.fst) ({pos:=Λ e::vs}:Args).kw)=pure Unit.unit:=λa b n=>check_star_args _ _ _ _ _ _
 rw[z]
 exact ρ hq
def flE(a:Addr):Data:=.fields #[.ref a,.none,.none,.none,.bool false,.none]
theorem Au(F:GF B nid initId bmB)(O:bt B bm){e a0:Addr}{oe:Obj}{vs:List ε}{Q:ε->η->Prop}(hC:h.get? C=some (excClassObj nm q C N bs bm hdct sn sub ab col dd k0 k1 k2 k3 k5 newId))(he:h.get? e=some oe)(hc:oe.cls=.ref C)(hd:oe.data=flE a0)(hv:vs.length<=sizeLine)
  (hq:∀h',(∀b o,b≠e->h.get? b=some o->h'.get? b=some o)->h'.get? e=some {oe with data:=flE h.objs.size}->h'.get? h.objs.size=some (nt vs)->Q .none ⟨h',g,d,t,os⟩):
  wpAny (model P w) A (call (.builtin initId) (.ref e::vs)) Q E ⟨h,g,d,t,os⟩:=by
 obtain⟨oc,od,odt,os'⟩:=oe
 simp only at hc hd
 subst hc;subst hd
 unfold flE at he
 refine Gf (y7 F.init.plain F.initEntry (mh F O hC he rfl ?_))
 wp_walk
 refine hq _ (λb o hb z=>?_) ?_ ?_
 ·rw[ϗ _ _ (ϛ hb)]
  exact μ _ z
 ·rw[i6 _ (μ _ he) rfl]
  rfl
 ·rw[ϗ _ _ (ϑ (ω he))]
  exact Β _ rfl
end
open PySem PySem.Spec PyProof.Rows PySem.W
theorem FR{α:Type}{M:Hz}{A:Υ}{E:ε->η->Prop}{s:η}{c:Prop}[Decidable c]{x y:Sem α}{Q:α->η->Prop}(h1:c->wpAny M A x Q E s)(h2:¬ c->wpAny M A y Q E s):wpAny M A (if c then x else y) Q E s:=by
 split
 ·next h=>exact h1 h
 ·next h=>exact h2 h
section
variable{P:υ}{w:Κ}{A:Υ}{E:ε->η->Prop}{h:Heap}{g:Array B0}{d:HW}{t:Nat}{os:Hy}
variable{nm q:Str}{C D N x:Addr}{bs bmB:List ε}{sn:List Str}{sub:List ε}{ab:Bool}{col:Option Bool}{dd:Option Addr}{k0 k1 k2 k3 k5:Option ε}{B newId sa owner:String}{name:Str}{v:ε}{tk:Tok}
def cr(P:υ)(w:Κ)(h:Heap)(C:Addr)(name:Str)(y:Option ε):Prop:=
 ∀{A:Υ}{E:ε->η->Prop}{Q:Option ε->η->Prop}{s:η},(∀b o,h.get? b=some o->s.heap.get? b=some o)->Q y s->wpAny (model P w) A (typeLookup (.ref C) name) Q E s
theorem rG(SF:StoreFacts B bmB sa owner){Q:Fin->η->Prop}{o:Obj}(hC:h.get? C=some (excClassObj nm q C N bs (.ref D::bmB) true sn sub ab col dd k0 k1 k2 k3 k5 newId))(hl:cr P w h C name none)(hx:h.get? x=some o)(hc:o.cls=.ref C){a0:Addr}(hdt:o.data=flE a0)(hdn:o.dict=none)
  (hq:∀h' tk',(∀b o,b≠x->h.get? b=some o->h'.get? b=some o)->h'.get? x=some {o with dict:=some h.objs.size}->h'.Ns1 h.objs.size (λy=>if y=name then some v else none)->Q (.done (.ret .none)) ⟨h',g,d,tk',os⟩):
  wpAny (model P w) A (e_.«object.__setattr__» ⟨[.ref x,.str name tk,v],[]⟩) Q E ⟨h,g,d,t,os⟩:=by
 have hpass:=SF.passes (.ref x)
 obtain⟨oc,od,odt,osl⟩:=o
 simp only at hc hdt hdn
 subst hc
 unfold e_.«object.__setattr__»
 repeat (first
  |rw[refuse_eq]
  |(rw[refuseLoop_ref,refuseLoop_ref,hpass])
  |with_reducible refine Ξ hx ?_
  |with_reducible refine wpAny_mroOf_exc hC ?_
  |wp_step)
 refine hl (λ_ _ z=>z) ?_
 repeat (first|with_reducible refine Ξ hx ?_|wp_step)
 subst hdt;subst hdn
 dsimp only[flE]
 have nx:x≠h.objs.size:=ϑ (ω hx)
 have hx1:=μ {cls:=.type "dict",data:=.dict #[]} hx
 refine FR (λz=>absurd z (by simp[typeHasDict])) λ_=>?_
 refine δ (wpAny_alloc' (δ (wpAny_update' hx1 (ρ ?_))))
 have gd:((h.push {cls:=.type "dict",data:=.dict #[]}).update x λo=>{cls:=o.cls,dict:=some h.objs.size,data:=o.data,slots:=o.slots}).get? h.objs.size=some {cls:=.type "dict",data:=.dict #[]}:=by
  rw[ϗ _ _ nx]
  exact Β _ rfl
 have gx:((h.push {cls:=.type "dict",data:=.dict #[]}).update x λo=>{cls:=o.cls,dict:=some h.objs.size,data:=o.data,slots:=o.slots}).get? x=some {cls:=.ref C,dict:=some h.objs.size,data:=flE a0,slots:=osl}:=i6 _ hx1 rfl
 have go:∀b o,b≠x->h.get? b=some o->((h.push {cls:=.type "dict",data:=.dict #[]}).update x λo=>{cls:=o.cls,dict:=some h.objs.size,data:=o.data,slots:=o.slots}).get? b=some o:=λb o hb z=>by
  rw[ϗ _ _ (ϛ hb)]
  exact μ _ z
 generalize ((h.push {cls:=.type "dict",data:=.dict #[]}).update x λo=>{cls:=o.cls,dict:=some h.objs.size,data:=o.data,slots:=o.slots})=h1 at gd gx go⊢
 have hnd:h1.Ns h.objs.size (λ_=>none):=⟨_,#[],_,gd,rfl,λe he=>absurd he (),λ_=>rfl⟩
 show wpAny _ _ (Gi h.objs.size (.str name tk) name v) _ _ _
 unfold Gi e_.ObjectAttr.newKeyGuard
 refine δ (ρ (δ (wpAny_nsSet1 (Heap.Ns1.of_empty hnd) λh' hn' hs=>?_)))
 obtain⟨oD,esD,epD,hoD,hdD,hcD⟩:=hn'.count (Within.cons name v Within.nil)
 refine δ (wpAny_lookBehind hoD (by rw[hdD];exact pastItsLine_dict (ϕ hcD (by rw[τ];show 1<=_;omega))) ?_)
 wp_walk
 refine hq h' _ (λb o hb z=>?_) ((hs.2 x nx).trans gx) ?_
 ·exact(hs.2 b (ϑ (ω z))).trans (go b o hb z)
 ·obtain⟨o',es,ep,e1,e2,e3,eu,e4⟩:=hn'
  exact⟨o',es,ep,e1,e2,e3,eu,λy=>by rw[e4 y]⟩
end
open PySem PySem.Spec PyProof.Rows PySem.W
section
variable{P:υ}{w:Κ}{A:Υ}{E:ε->η->Prop}{h:Heap}{g:Array B0}{d:HW}{t:Nat}{os:Hy}
variable{nm q:Str}{C D N x:Addr}{bs bmB:List ε}{sn:List Str}{sub:List ε}{ab:Bool}{col:Option Bool}{dd:Option Addr}{k0 k1 k2 k3 k5:Option ε}{B newId sa owner:String}{name:Str}{v:ε}
theorem nS(SF:StoreFacts B bmB sa owner){o:Obj}{u:ε}{Q:Unit->η->Prop}(hC:h.get? C=some (excClassObj nm q C N bs (.ref D::bmB) true sn sub ab col dd k0 k1 k2 k3 k5 newId))(hx:h.get? x=some o)(hc:o.cls=.ref C)(hq:Q Unit.unit ⟨h,g,d,t,os⟩):
  wpAny (model P w) A (checkBuiltinCall sa ⟨[.ref x,u,v],[]⟩) Q E ⟨h,g,d,t,os⟩:=by
 have b1:=bt.up (a:=C) (bt.up (a:=D) SF.hasOwner)
 have ha:=SF.args (.ref x) u v
 simp only[checkBuiltinCall,SF.kind,SF.split]
 refine δ ?_
 unfold isInstance
 repeat (first
  |(with_reducible refine Ξ hx ?_;rw[hc])
  |(with_reducible refine ϫ hC ?_;rw[b1])
  |wp_step)
 cases hsig:Manifest.signature? sa with
 |none=>exact ρ hq
 |some sig=>
  simp only[argsOk,hsig]at ha
  have e2:Bind.checkArgs sa sig ⟨[.ref x,u,v],[]⟩=pure Unit.unit:=ha
  show wpAny (model P w) A (Bind.checkArgs sa sig ⟨[.ref x,u,v],[]⟩) Q E _
  rw[e2];exact ρ hq
theorem wk(SF:StoreFacts B bmB sa owner){Q:Unit->η->Prop}{o:Obj}(hC:h.get? C=some (excClassObj nm q C N bs (.ref D::bmB) true sn sub ab col dd k0 k1 k2 k3 k5 newId))(hs:cr P w h C "__setattr__" (some (.builtin sa)))(hl:cr P w h C name none)(hx:h.get? x=some o)(hc:o.cls=.ref C){a0:Addr}(hdt:o.data=flE a0)(hdn:o.dict=none)
  (hq:∀h' tk',(∀b o,b≠x->h.get? b=some o->h'.get? b=some o)->h'.get? x=some {o with dict:=some h.objs.size}->h'.Ns1 h.objs.size (λy=>if y=name then some v else none)->Q Unit.unit ⟨h',g,d,tk',os⟩):
  wpAny (model P w) A (setAttr (.ref x) name v) Q E ⟨h,g,d,t,os⟩:=by
 have f3:=SF.slot.bind (.ref x)
 unfold setAttr callSpecial? specialOf
 repeat (any_goals (first|assumption|(with_reducible refine Ξ hx ?_;rw[hc])|wp_step))
 refine hs (λ_ _ z=>z) ?_
 repeat (any_goals (first|assumption|wp_step))
 refine y7 SF.slot.plain SF.entry (nS SF hC hx hc (rG SF hC hl hx hc hdt hdn λh' tk' k1 k2 k3=>?_))
 repeat (any_goals (first|assumption|wp_step))
 exact hq h' tk' k1 k2 k3
end
open PySem PySem.Spec PyProof.Rows PySem.W
section
variable{P:υ}{w:Κ}{A:Υ}{E:ε->η->Prop}{h:Heap}{g:Array B0}{d:HW}{t:Nat}{os:Hy}
variable{nm q:Str}{C D N x dx a0:Addr}{bs bmB:List ε}{sn:List Str}{sub:List ε}{ab:Bool}{col:Option Bool}{dd:Option Addr}{k0 k1 k2 k3 k5:Option ε}{B newId:String}{name:Str}{v:ε}{tk:Tok}{mA:Str->Option ε}{sl:Array (Option ε)}{ws:Array ε}
theorem hU(FB:Hh B bmB){o:Obj}{u:ε}{Q:Unit->η->Prop}(hC:h.get? C=some (excClassObj nm q C N bs (.ref D::bmB) true sn sub ab col dd k0 k1 k2 k3 k5 newId))(hx:h.get? x=some o)(hc:o.cls=.ref C)(hq:Q Unit.unit ⟨h,g,d,t,os⟩):
  wpAny (model P w) A (checkBuiltinCall "BaseException.__getattribute__" ⟨[.ref x,u],[]⟩) Q E ⟨h,g,d,t,os⟩:=by
 have e1:builtinKind "BaseException.__getattribute__"=some .slot:=by decide +kernel
 have e2:splitId "BaseException.__getattribute__"=some ("BaseException","__getattribute__"):=by decide +kernel
 have b1:=bt.up (a:=C) (bt.up (a:=D) FB.hasBase)
 have ha:=F.args_bexc_ga (.ref x) u
 simp only[checkBuiltinCall,e1,e2]
 refine δ ?_
 unfold isInstance
 repeat (first
  |(with_reducible refine Ξ hx ?_;rw[hc])
  |(with_reducible refine ϫ hC ?_;rw[b1])
  |wp_step)
 exact hq
theorem wF{Q:Fin->η->Prop}(hC:h.get? C=some (excClassObj nm q C N bs (.ref D::bmB) true sn sub ab col dd k0 k1 k2 k3 k5 newId))(hl:cr P w h C name none)(hx:h.get? x=some {cls:=.ref C,dict:=some dx,data:=.fields ws,slots:=sl})(hn:h.Ns1 dx mA)(hv:mA name=some v)(hq:Q (.done (.ret v)) ⟨h,g,d,t,os⟩):
  wpAny (model P w) A (e_.«object.__getattribute__» ⟨[.ref x,.str name tk],[]⟩) Q E ⟨h,g,d,t,os⟩:=by
 unfold e_.«object.__getattribute__»
 repeat (first|with_reducible refine Ξ hx ?_|wp_step)
 show wpAny _ _ (typeLookup (.ref C) name) _ _ _
 refine hl (λ_ _ z=>z) ?_
 repeat (first|(with_reducible refine wpAny_nsGet hn.ns ?_;rw[hv])|with_reducible refine Ξ hx ?_|with_reducible refine Ξ hC ?_|wp_step)
 exact hq
theorem Cl(FB:Hh B bmB){expr:Bool}{Q:ε->η->Prop}(hC:h.get? C=some (excClassObj nm q C N bs (.ref D::bmB) true sn sub ab col dd k0 k1 k2 k3 k5 newId))(hg:cr P w h C "__getattribute__" (some (.builtin "BaseException.__getattribute__")))(hh:cr P w h C "__getattr__" none)(hl:cr P w h C name none)
  (hx:h.get? x=some {cls:=.ref C,dict:=some dx,data:=.fields ws,slots:=sl}) (hn:h.Ns1 dx mA) (hv:mA name=some v) (ho:handedOut v=pure v) (hq:Q v ⟨h,g,d,t+1,os⟩):
  wpAny (model P w) A (getAttr (.ref x) name expr) Q E ⟨h,g,d,t,os⟩:=by
 have f3:=FB.ga.bind (.ref x)
 have z0:(expr&&onTheHeap (t8 "BaseException.__getattribute__"))=false:=by cases expr<;>rfl
 have z2:(t8 "BaseException.__getattribute__" == t8 "object.__getattribute__")=false:=by decide +kernel
 have z1:(onTheHeap (Λ C)&&t8 "BaseException.__getattribute__" == t8 "object.__getattribute__")=false:=by rw[z2];rfl
 unfold getAttr getAttrBy
 repeat (any_goals (first|assumption|with_reducible refine Ξ hx ?_|wp_step))
 show wpAny _ _ (typeLookup (.ref C) _) _ _ _
 refine hg (λ_ _ z=>z) ?_
 dsimp only
 rw[z1]
 repeat (any_goals (first|assumption|with_reducible refine Ξ hx ?_|wp_step))
 refine hh (λ_ _ z=>z) ?_
 repeat (any_goals (first|assumption|wp_step))
 refine y7 FB.ga.plain F.entry_bexc_ga (hU FB hC hx rfl (wF hC hl hx hn hv ?_))
 repeat (any_goals (first|assumption|(rw[ho])|wp_step))
end
open PySem PySem.Spec PyProof.Rows PySem.W
structure Mv(fs ex:List Addr)(h h':Heap):Prop where
 keep:∀b o,b∉fs->b∉ex->h.get? b=some o->h'.get? b=some o
 slot:∀b o,b∉ex->h.get? b=some o->∃sl,h'.get? b=some {o with slots:=sl}
theorem Mv.trans{fs ex:List Addr}{h h1 h2:Heap}(a:Mv fs ex h h1)(b:Mv fs ex h1 h2):Mv fs ex h h2:=
 ⟨λc o n1 n2 e=>b.keep c o n1 n2 (a.keep c o n1 n2 e),λc o n e=>by
  obtain⟨sl,e1⟩:=a.slot c o n e
  obtain⟨sl',e2⟩:=b.slot c _ n e1
  exact⟨sl',e2⟩⟩
theorem Mv.mono{fs fs' ex ex':List Addr}{h h':Heap}(a:Mv fs ex h h')(s1:∀b∈fs,b∈fs')(s2:∀b∈ex,b∈ex'):Mv fs' ex' h h':=
 ⟨λc o n1 n2 e=>a.keep c o (λz=>n1 (s1 c z)) (λz=>n2 (s2 c z)) e,λc o n e=>a.slot c o (λz=>n (s2 c z)) e⟩
theorem Mv.hok{P:υ}{w:Κ}{fs ex:List Addr}{H:Hp}{h h':Heap}(m:Mv fs ex h h')(x:HOk P w H h)(hf:∀b∈fs,H b=none)(hx:∀b∈ex,H b=none):HOk P w H h':=λa o e=>
 (x a o e).stay (λb u hb q=>m.keep b u (λz=>by
   have:=hf b z
   rcases hb with rfl|hb
   ·rw[e]at this;cases this
   ·rw[hb]at this;cases this) (λz=>by
   have:=hx b z
   rcases hb with rfl|hb
   ·rw[e]at this;cases this
   ·rw[hb]at this;cases this) q) (λ_ q=>q) λ_ _ q=>q
theorem Mv.un{fs fs' ex ex':List Addr}{H H':Hp}{h h1 h2:Heap}(m:Mv fs' ex' h1 h2)(u:Un fs ex H H' h h1)(hf:∀b∈fs',b∈fs\/h.get? b=none)(hx:∀b∈ex',h.get? b=none):Un fs ex H H' h h2 where
 keep:=λb o q n h1' h2'=>m.keep b o (λz=>(hf b z).elim h1' λy=>by rw[q]at y;cases y) (λz=>by have y:=hx b z;rw[q]at y;cases y) (u.keep b o q n h1' h2')
 slot:=λb o q n h1' h2'=>by
  obtain⟨sl,e⟩:=u.slot b o q n h1' h2'
  obtain⟨sl',e2⟩:=m.slot b _ (λz=>by have y:=hx b z;rw[q]at y;cases y) e
  exact⟨sl',e2⟩
 free:=u.free
 there:=λb o q n=>by
  obtain⟨o',e⟩:=u.there b o q n
  obtain⟨sl,e2⟩:=m.slot b o' (λz=>by have y:=hx b z;rw[q]at y;cases y) e
  exact⟨_,e2⟩
 tups:=u.tups
 frzs:=u.frzs
 tbls:=u.tbls
structure Exo(h:Heap)(e T:Addr)(cls:ε)(dx:Option Addr)(fl:ε):Prop where
 obj:∃oe vs,h.get? e=some oe/\oe.cls=cls/\oe.dict=dx/\oe.data=.fields vs/\vs[1]?=some (.ref T)/\vs[2]?=some .none
 tb:∃oT ts,h.get? T=some oT/\oT.data=.fields ts/\ts[3]?=some fl
 ne:T≠e
def Exn(h:Heap)(e:Addr)(cls:ε)(dx:Option Addr):Prop:=∃oe vs,h.get? e=some oe/\oe.cls=cls/\oe.dict=dx/\oe.data=.fields vs/\vs[1]?=some .none/\vs[2]?=some .none
section
variable{M:Hz}{A:Υ}{E:ε->η->Prop}{s:η}{base:Heap}{env:Env}{outer:List Env}{L e T:Addr}{cls:ε}{dx:Option Addr}
theorem rS{oe:Obj}{vs:Array ε}{head:ε}{hadNext:Bool}{Q:Unit->η->Prop}(hfr:A.frames=some (env::outer))(hl:s.heap.FunFrames base (env::outer))(hf:env.frame=some L)
  (he:s.heap.get? e=some oe) (hc:oe.cls=cls) (hdx:oe.dict=dx) (hd:oe.data=.fields vs) (hsz:1<vs.size) (h2:vs[2]?=some .none)
  (h:∀h' T,s.heap.objs.size<=T->Mv (frs (env::outer)) [e] s.heap h'->Exo h' e T cls dx (rawInt L)->Q Unit.unit {s with heap:=h'}):
  wpAny M A (do let a <-frameOf env;let pl <-entryPlaceOf L hadNext;let b <-EntryCells.newEntry head a .none (rawInt L) .none pl;setField (.ref e) 1 b) Q E s:=by
 have hene:e∉frs (env::outer):=λhm=>by
  obtain⟨_,o,ho,hnf⟩:=hl.mem hm
  rw[he]at ho;cases ho;exact hnf vs hd
 refine δ (wpAny_frameOf_fun hfr hl hf λh₁ hs=>δ (wpAny_entryPlaceOf λpl hpl=>?_))
 unfold EntryCells.newEntry newFields
 refine δ (ϝ ?_ (hpl.sizeOk5 _ _ _ _ _))
 have e1:h₁.get? e=some oe:=(hs.2.1 e hene).trans he
 generalize ho:({cls:=.type "traceback",dict:=none,data:=.fields ([head,.ref L,.none,rawInt L,.none]++(if pl.isEmpty then ϓ 6 j6 else pl)).toArray}:Obj)=oT
 have e2:=μ (h:=h₁) oT e1
 have nT:h₁.objs.size≠e:=o0 (ω e1)
 have d3:=A7 hd (·.setIfInBounds 1 (Λ h₁.objs.size))
 refine F1 e2 hd hsz (h _ h₁.objs.size (by rw[hs.1];exact θ _) ⟨λb o n1 n2 z=>?_,λb o n z=>?_⟩ ⟨⟨_,_,i6 _ e2 (F7 d3),by rw[Obj.cls_mapFields];exact hc,?_,d3,by simp[hsz],by rw[Array.getElem?_setIfInBounds_ne ()];exact h2⟩,⟨oT,_,?_,by rw[<-ho],?_⟩,nT⟩)
 ·rw[ϗ _ _ (λq=>n2 (by rw[<-q];simp))]
  exact μ _ ((hs.2.1 b n1).trans z)
 ·obtain⟨sl,q⟩:=hs.2.2 b o z
  refine⟨sl,?_⟩
  rw[ϗ _ _ (λq=>n (by rw[<-q];simp))]
  exact μ _ q
 ·rw[<-hdx];obtain⟨c1,c2,c3,c4⟩:=oe;cases c3<;>rfl
 ·rw[ϗ _ _ (ϛ nT)]
  exact Β _ (by rw[<-ho];rfl)
 ·first|(simp;done)|(rcases hpl with rfl|⟨_,_,_,_,_,_,_,rfl⟩<;>simp)
theorem tX{Q:Unit->η->Prop}(hfr:A.frames=some (env::outer))(hl:s.heap.FunFrames base (env::outer))(hf:env.frame=some L)(x:Exn s.heap e cls dx)
  (h:∀h' T,s.heap.objs.size<=T->Mv (frs (env::outer)) [e] s.heap h'->Exo h' e T cls dx (rawInt L)->Q Unit.unit {s with heap:=h'}):wpAny M A (noteFrame (.ref e) env) Q E s:=by
 obtain⟨oe,vs,he,hc,hdx,hd,h1,h2⟩:=x
 unfold noteFrame
 simp only[hf]
 refine δ (ύ he hd h1 ?_)
 rw[Q6 ()]
 exact rS hfr hl hf he hc hdx hd (u6.mp h1).1 h2 h
theorem nv{Q:Unit->η->Prop}(hfr:A.frames=some (env::outer))(hl:s.heap.FunFrames base (env::outer))(hf:env.frame=some L)(x:Exo s.heap e T cls dx .none)
  (h:∀h' T',s.heap.objs.size<=T'->Mv (frs (env::outer)) [e,T] s.heap h'->Exo h' e T' cls dx (rawInt L)->Q Unit.unit {s with heap:=h'}):wpAny M A (noteFrame (.ref e) env) Q E s:=by
 obtain⟨⟨oe,vs,he,hc,hdx,hd,h1,h2⟩,⟨oT,ts,hT,hdT,h3⟩,ne⟩:=x
 unfold noteFrame
 simp only[hf]
 refine δ (ύ he hd h1 ?_)
 rw[Q5 ()]
 refine δ (ύ hT hdT h3 ?_)
 rw[Q6 (by simp[rawInt])]
 refine δ (F1 hT hdT (u6.mp h3).1 ?_)
 have ot:∀b,b≠T->(s.heap.update T (Hi (·.setIfInBounds 3 j6))).get? b=s.heap.get? b:=λb hb=>ϗ _ _ (ϛ hb)
 have m1:Mv (frs (env::outer)) [e,T] s.heap (s.heap.update T (Hi (·.setIfInBounds 3 j6))):=⟨λb o _ n z=>(ot b λq=>n (by rw[q];simp)).trans z,λb o n z=>⟨o.slots,(ot b λq=>n (by rw[q];simp)).trans z⟩⟩
 refine rS hfr (hl.of_keeps λb o hb hnf=>⟨o,(ot b λq=>?_).trans hb,rfl⟩) hf ((ot e (ϛ ne)).trans he) hc hdx hd (u6.mp h1).1 h2 λh' T' l m x=>h h' T' (by have e:=l;simpa using e) (m1.trans (m.mono (λ_ z=>z) λb z=>ι.mpr (.inl (ξ.mp z)))) x
 rw[q,hT]at hb;cases hb;exact hnf ts hdT
theorem fX{fl:ε}{Q:Unit->η->Prop}(x:Exo s.heap e T cls dx fl)(h:∀h',Mv [] [T] s.heap h'->Exo h' e T cls dx .none->Q Unit.unit {s with heap:=h'}):wpAny M A (setFlight (.ref e) none) Q E s:=by
 obtain⟨⟨oe,vs,he,hc,hdx,hd,h1,h2⟩,⟨oT,ts,hT,hdT,h3⟩,ne⟩:=x
 have z3:=(u6.mp h3).1
 have ot:∀b,b≠T->(s.heap.update T (Hi (·.setIfInBounds 3 j6))).get? b=s.heap.get? b:=λb hb=>ϗ _ _ (ϛ hb)
 refine wpAny_setFlight_none he hd h1 hT hdT z3 (h _ ⟨λb o _ n z=>(ot b λq=>n (by rw[q];simp)).trans z,λb o n z=>⟨o.slots,(ot b λq=>n (by rw[q];simp)).trans z⟩⟩ ?_)
 exact⟨⟨oe,vs,(ot e (ϛ ne)).trans he,hc,hdx,hd,h1,h2⟩,⟨_,_,i6 _ hT (F7 (A7 hdT _)),A7 hdT _,by simp[z3]⟩,ne⟩
theorem qS{Q:Unit->η->Prop}(hfr:A.frames=some (env::outer))(hl:s.heap.FunFrames base (env::outer))(hf:env.frame=some L)(x:Exn s.heap e cls dx)
  (h:∀h' T,s.heap.objs.size<=T->Mv (frs (env::outer)) [e,T] s.heap h'->Exo h' e T cls dx .none->Q Unit.unit {s with heap:=h'}):wpAny M A (leaving env (.ref e)) Q E s:=by
 unfold leaving
 refine δ (tX hfr hl hf x λh1 T l m1 x1=>fX x1 λh2 m2 x2=>h h2 T l ((m1.mono (λ_ z=>z) λb z=>ι.mpr (.inl (ξ.mp z))).trans (m2.mono (λ_ z=>absurd z ()) λb z=>π _ z)) x2)
theorem tw{Q:Unit->η->Prop}(hfr:A.frames=some (env::outer))(hl:s.heap.FunFrames base (env::outer))(hf:env.frame=some L)(x:Exo s.heap e T cls dx .none)
  (h:∀h' T',s.heap.objs.size<=T'->Mv (frs (env::outer)) [e,T,T'] s.heap h'->Exo h' e T' cls dx .none->Q Unit.unit {s with heap:=h'}):wpAny M A (leaving env (.ref e)) Q E s:=by
 unfold leaving
 refine δ (nv hfr hl hf x λh1 T' l m1 x1=>fX x1 λh2 m2 x2=>h h2 T' l ((m1.mono (λ_ z=>z) λb z=>?_).trans (m2.mono (λ_ z=>absurd z ()) λb z=>?_)) x2)
 ·rcases ι.mp z with z|z
  ·exact ι.mpr (.inl z)
  ·exact π _ (ι.mpr (.inl (ξ.mp z)))
 ·exact π _ (π _ z)
end
open PySem PySem.Spec PyProof.Rows PySem.W
section
variable{P:υ}{w:Κ}{A:Υ}{E:ε->η->Prop}{h:Heap}{g:Array B0}{d:HW}{t:Nat}{os:Hy}
variable{nm q:Str}{C D N e:Addr}{bs bmB:List ε}{sn:List Str}{sub:List ε}{ab:Bool}{col:Option Bool}{dd:Option Addr}{k0 k1 k2 k3 k5:Option ε}{B newId:String}{oe:Obj}
theorem zF:(".".intercalate ("object.__class__".cutAt '.').dropLast)="object":=by decide +kernel
theorem Cr{R:Ht->η->Prop}(hC:h.get? C=some (excClassObj nm q C N bs (.ref D::bmB) true sn sub ab col dd k0 k1 k2 k3 k5 newId))(he:h.get? e=some oe)(hc:oe.cls=.ref C)(hO:bmB.contains (.type "object")=true)(hq:R (.ok (.ret (.ref C))) ⟨h,g,d,t,os⟩):
  codeAny (model P w) A (.call (.builtin "getset_descriptor.__get__") ⟨[.builtin "object.__class__",.ref e,.ref C],[]⟩) R ⟨h,g,d,t,os⟩:=by
 have b1:=bt.up (a:=C) (bt.up (a:=D) hO)
 have y5:(⟨h,g,d,t,os⟩:η).TypeIs (.builtin "object.__class__") "getset_descriptor":=F8
 have o1:=zF
 refine y7 F.slot_gs_get.plain F.entry_gs_get (F.slot_gs_get.check _ _ _ _ _ _ _ _ y5 (F.args_gs_get _ _ _) ?_)
 repeat (any_goals (first|assumption|(with_reducible refine Ξ he ?_;rw[hc])|(rw[o1];with_reducible refine ϫ hC ?_;rw[b1])|wp_step))
 refine⟨G1 _ (),codeAny_builtin F.entry_object_class ?_⟩
 repeat (any_goals (first|assumption|(with_reducible refine Ξ he ?_;rw[hc])|wp_step))
variable{tk:Tok}
theorem yc{Q:Fin->η->Prop}(hC:h.get? C=some (excClassObj nm q C N bs (.ref D::bmB) true sn sub ab col dd k0 k1 k2 k3 k5 newId))(he:h.get? e=some oe)(hc:oe.cls=.ref C)(hO:bmB.contains (.type "object")=true)(hl:cr P w h C "__class__" (some (.builtin "object.__class__")))(hq:Q (.done (.ret (.ref C))) ⟨h,g,d,t,os⟩):
  wpAny (model P w) A (e_.«object.__getattribute__» ⟨[.ref e,.str "__class__" tk],[]⟩) Q E ⟨h,g,d,t,os⟩:=by
 have y5:(⟨h,g,d,t,os⟩:η).TypeIs (.builtin "object.__class__") "getset_descriptor":=F8
 have f5:=F8
 have f6:=F.slot_gs_get.lookup
 have f7:=F.slot_gs_set.lookup
 unfold e_.«object.__getattribute__»
 repeat (first|(with_reducible refine Ξ he ?_;rw[hc])|wp_step)
 refine hl (λ_ _ z=>z) ?_
 repeat (any_goals (first|assumption|(with_reducible refine Ξ he ?_;rw[hc])|wp_step))
 refine Cr hC he hc hO ?_
 repeat (any_goals (first|assumption|wp_step))
theorem Ew{Q:ε->η->Prop}(FB:Hh B bmB)(hC:h.get? C=some (excClassObj nm q C N bs (.ref D::bmB) true sn sub ab col dd k0 k1 k2 k3 k5 newId))(he:h.get? e=some oe)(hc:oe.cls=.ref C)(hO:bmB.contains (.type "object")=true)(hl:cr P w h C "__class__" (some (.builtin "object.__class__")))
  (hg:cr P w h C "__getattribute__" (some (.builtin "BaseException.__getattribute__"))) (hh:cr P w h C "__getattr__" none) (hq:Q (.ref C) ⟨h,g,d,t,os⟩):
  wpAny (model P w) A (getAttrBy (.ref e) (.str "__class__" tk) false) Q E ⟨h,g,d,t,os⟩:=by
 have f3:=FB.ga.bind (.ref e)
 have z2:(t8 "BaseException.__getattribute__" == t8 "object.__getattribute__")=false:=by decide +kernel
 have z1:(onTheHeap (Λ C)&&t8 "BaseException.__getattribute__" == t8 "object.__getattribute__")=false:=by rw[z2];rfl
 unfold getAttrBy
 repeat (any_goals (first|assumption|(with_reducible refine Ξ he ?_;rw[hc])|wp_step))
 refine hg (λ_ _ z=>z) ?_
 dsimp only
 rw[z1]
 repeat (any_goals (first|assumption|(with_reducible refine Ξ he ?_;rw[hc])|wp_step))
 refine hh (λ_ _ z=>z) ?_
 repeat (any_goals (first|assumption|wp_step))
 refine y7 FB.ga.plain F.entry_bexc_ga (hU FB hC he hc (yc hC he hc hO hl ?_))
 repeat (any_goals (first|assumption|wp_step))
theorem zl{Q:Option ε->η->Prop}(FB:Hh B bmB)(hC:h.get? C=some (excClassObj nm q C N bs (.ref D::bmB) true sn sub ab col dd k0 k1 k2 k3 k5 newId))(he:h.get? e=some oe)(hc:oe.cls=.ref C)(hO:bmB.contains (.type "object")=true)(hl:cr P w h C "__class__" (some (.builtin "object.__class__")))
  (hg:cr P w h C "__getattribute__" (some (.builtin "BaseException.__getattribute__"))) (hh:cr P w h C "__getattr__" none) (hq:Q (some (.ref C)) ⟨h,g,d,t+1,os⟩):
  wpAny (model P w) A (getAttr? (.ref e) "__class__") Q E ⟨h,g,d,t,os⟩:=by
 unfold getAttr? getAttrBy?
 repeat (any_goals (first|assumption|with_reducible apply Ew FB hC he hc hO hl hg hh|wp_step))
theorem sw{M:Hz}(he:h.get? e=some oe)(hc:oe.cls=.ref C):HR M h (typeOf (.ref e)) (.ref C):=λA Q E s k q=>by
 unfold typeOf
 exact δ (GJ (k _ _ he) (ρ (by show Q oe.cls s;rw[hc];exact q)))
theorem Bj{M:Hz}{c:ε}{b:Bool}(hC:h.get? C=some (excClassObj nm q C N bs (.ref D::bmB) true sn sub ab col dd k0 k1 k2 k3 k5 newId))(hn:(Λ C::.ref D::bmB).contains c=b):HR M h (isSubtype (.ref C) c) b:=λA Q E s k q=>by
 obtain⟨h',g',d',t',os'⟩:=s
 exact ϫ (k _ _ hC) (by rw[hn];exact q)
theorem Bc{M:Hz}(hC:h.get? C=some (excClassObj nm q C N bs (.ref D::bmB) true sn sub ab col dd k0 k1 k2 k3 k5 newId)):HR M h (isType (.ref C)) true:=λA Q E s k q=>by
 unfold isType loadHead
 exact δ (GJ (k _ _ hC) (ρ q))
theorem AG{c:ε}{Q:ε->η->Prop}(FB:Hh B bmB)(hC:h.get? C=some (excClassObj nm q C N bs (.ref D::bmB) true sn sub ab col dd k0 k1 k2 k3 k5 newId))(he:h.get? e=some oe)(hc:oe.cls=.ref C)(hO:bmB.contains (.type "object")=true)(hl:cr P w h C "__class__" (some (.builtin "object.__class__")))
  (hg:cr P w h C "__getattribute__" (some (.builtin "BaseException.__getattribute__"))) (hh:cr P w h C "__getattr__" none) (hne:(Λ C==c)=false) (hn:(Λ C::.ref D::bmB).contains c=false) (hty:HR (model P w) h (typeOf c) (.type "type")) (his:HR (model P w) h (isType c) true)
  (hq:Q (.bool false) ⟨h,g,d,t+1,os⟩):wpAny (model P w) A (call (.builtin "isinstance") [.ref e,c]) Q E ⟨h,g,d,t,os⟩:=by
 have L0:=sw (M:=model P w) he hc
 have L1:=Bj (M:=model P w) hC hn
 have L2:HR (model P w) h (isInstance (.ref e) c) false:=L0.andThen L1
 refine G2 ?_ (by intro z;cases z)
 unfold e_.«isinstance.nested»
 refine δ (L0.at ?_)
 rw[Q6 (λz=>by rw[hne]at z;cases z)]
 refine δ (hty.at ?_)
 rw[Q5 (beq_self_eq_true _)]
 k_delta "plainIsInstance"
 refine δ (δ (his.at ?_))
 rw[Q6 ()]
 refine δ (L2.at ?_)
 rw[Q6 ()]
 refine δ (zl FB hC he hc hO hl hg hh (δ ((Bc hC).at ?_)))
 rw[Q6 ()]
 refine δ (B8 (L1.at ?_))
 first|exact ρ hq|exact ρ (ρ hq)|exact δ (ρ (ρ hq))
theorem xZ{Q:ε->η->Prop}(he:h.get? e=some oe)(hc:oe.cls=.ref C)(hq:Q (.bool true) ⟨h,g,d,t,os⟩):wpAny (model P w) A (call (.builtin "isinstance") [.ref e,.ref C]) Q E ⟨h,g,d,t,os⟩:=by
 refine G2 ?_ (by intro z;cases z)
 unfold e_.«isinstance.nested»
 refine δ ((sw (M:=model P w) he hc).at ?_)
 rw[Q5 (beq_self_eq_true _)]
 repeat (first|refine ρ ?_|refine B8 ?_|refine δ ?_)
 exact hq
theorem wO{c:ε}{Q:ε->η->Prop}(hC:h.get? C=some (excClassObj nm q C N bs (.ref D::bmB) true sn sub ab col dd k0 k1 k2 k3 k5 newId))(he:h.get? e=some oe)(hc:oe.cls=.ref C)(hne:(Λ C==c)=false)(hn:(Λ C::.ref D::bmB).contains c=true)(hty:HR (model P w) h (typeOf c) (.type "type"))(his:HR (model P w) h (isType c) true)
  (hq:Q (.bool true) ⟨h,g,d,t,os⟩):wpAny (model P w) A (call (.builtin "isinstance") [.ref e,c]) Q E ⟨h,g,d,t,os⟩:=by
 have L0:=sw (M:=model P w) he hc
 have L2:HR (model P w) h (isInstance (.ref e) c) true:=L0.andThen (Bj (M:=model P w) hC hn)
 refine G2 ?_ (by intro z;cases z)
 unfold e_.«isinstance.nested»
 refine δ (L0.at ?_)
 rw[Q6 (λz=>by rw[hne]at z;cases z)]
 refine δ (hty.at ?_)
 rw[Q5 (beq_self_eq_true _)]
 k_delta "plainIsInstance"
 refine δ (δ (his.at ?_))
 rw[Q6 ()]
 refine δ (L2.at ?_)
 rw[Q5 rfl]
 first|exact ρ hq|exact ρ (ρ hq)|exact δ (ρ (ρ hq))
end
open PySem PySem.Spec PyProof.Rows PySem.W
abbrev veM:List ε:=[.type "ValueError",.type "Exception",.type "BaseException",.type "object"]
structure iL(K:Frag)(D fI C:Addr):Prop where
 obj:∃nm q N bs sn sub ab col dd k0 k1 k2 k3 k5,K.lookup C=some (excClassObj nm q C N bs (.ref D::veM) true sn sub ab col dd k0 k1 k2 k3 k5 "ValueError.__new__")
 init:findIn K (.ref C) "__init__"=some (some (.ref fI))
 fn:typeIn K (.ref fI)=some (.type "function")
 sa:findIn K (.ref C) "__setattr__"=some (some (.builtin "object.__setattr__"))
 pl:findIn K (.ref C) "place"=some none
 ga:findIn K (.ref C) "__getattribute__"=some (some (.builtin "BaseException.__getattribute__"))
 gh:findIn K (.ref C) "__getattr__"=some none
 cl:findIn K (.ref C) "__class__"=some (some (.builtin "object.__class__"))
 kp:keepIn K (.ref C)=true
 ne:C≠D
structure DT(K:Frag)(D:Addr):Prop where
 obj:∃nm q N bs sn sub ab col dd k0 k1 k2 k3 k5,K.lookup D=some (excClassObj nm q D N bs veM true sn sub ab col dd k0 k1 k2 k3 k5 "ValueError.__new__")
theorem yJ(D:Addr):bt "ValueError" (.ref D::veM):=⟨bt.up (),bt.up (),bt.up ()⟩
def Xr(C t a:Addr):HO:=.ext λh=>h.get? a=some (gq C t)
def Xo(C t dx a:Addr):HO:=.ext λh=>h.get? a=some {gq C t with dict:=some dx}
section
variable{X:Cx}{pins:List (Addr×Obj)}{σ:St}{H:Hp}{s:η}{C D fI t dx a:Addr}
theorem im{K:Frag}{P:υ}{w:Κ}{h:Heap}{x:Str}{y:Option ε}(k:K.In h)(e:findIn K (.ref C) x=some y):cr P w h C x y:=λ{A E Q s} kk q=>looks_findIn k e A Q E s kk q
theorem Xr.at_(I:Inv X pins σ H s)(e:H a=some (Xr C t a)):s.heap.get? a=some (gq C t):=(I.hok a _ e).1
theorem Xo.at_(I:Inv X pins σ H s)(e:H a=some (Xo C t dx a)):s.heap.get? a=some {gq C t with dict:=some dx}:=(I.hok a _ e).1
theorem Bm{P:υ}{w:Κ}{H:Hp}{h:Heap}(e:h.get? a=some (gq C t)):bG P w H h a (Xr C t a):=⟨e,⟨_,e⟩,λ_ _ p k=>k _ p⟩
theorem EJ{P:υ}{w:Κ}{H:Hp}{h:Heap}(e:h.get? a=some {gq C t with dict:=some dx}):bG P w H h a (Xo C t dx a):=⟨e,⟨_,e⟩,λ_ _ p k=>k _ p⟩
theorem zz{us:List ε}(I:Inv X pins σ H s):Inv X pins σ (upd H (s.heap.objs.size+1) (Xr C s.heap.objs.size (s.heap.objs.size+1))) {s with heap:=(s.heap.push (nt us)).push (gq C s.heap.objs.size)}:=
 I.laid (t':=s.toks) (λb u q=>μ _ (μ _ q)) (B5 _) (Bm (Heap.get?_push_at (by simp only[Ϧ]) rfl))
variable{k:Nat}{fd:Γ}{ps:List Str}{sp:Sp}{Q:VK}{us:List ε}{vs:List V}
theorem AB{R:Addr->Hp->Prop}{QQ:ε->η->Prop}(c:iL X.K D fI C)(FI:ap X.prog X.w X.K X.mg X.base CX0 k fI fd ps sp)(hr:bT (k+1) X.A)(hb:aU X.K fd ps [])(I:Inv X pins σ H s)(r:aw vs us)(hz:vs.length<=sizeLine)
  (h:∀e t,H e=none->sp (.ref e::vs) (upd H e (Xr C t e)) (λv H2=>v=.non/\R e H2) E0) (hq:∀e s' H2,X.s₀.heap.objs.size<=e->H e=none->Inv X pins σ H2 s'->R e H2->QQ (.ref e) s'):
  wpAny (model X.prog X.w) X.A (call (.ref C) us) QQ X.xe s:=by
 obtain⟨nm,q,N,bs,sn,sub,ab,col,dd,k0,k1,k2,k3,k5,lk⟩:=c.obj
 obtain⟨oI,lI,cI⟩:=ϯ.mp (show(X.K.lookup fI).map (·.cls)=_ from c.fn)
 have KX:=I.kIn
 have I2:=zz (C:=C) (us:=us) I
 have fr:H (s.heap.objs.size+1)=none:=I.hok.fresh (B5 _)
 have hs:=h (s.heap.objs.size+1) s.heap.objs.size fr
 have r2:aw (V.ref (s.heap.objs.size+1)::vs) (Λ (s.heap.objs.size+1)::us):=.cons rfl r
 have hl:(Λ (s.heap.objs.size+1)::us++[]).length=ps.length:=by
  rw[Θ,<-r2.length];exact FI.len _ _ _ _ hs
 obtain⟨hh,g,d,tk,os⟩:=s
 refine zG F.excBase_ValueError (yJ D) (KX _ _ lk) (by rw[<-r.length];exact hz) (KX _ _ lI) cI (im KX c.init) ?_
 refine Gf (A6 (FI.run _ X.stack _ _ ⟨Λ (hh.objs.size+1)::us,[]⟩ (Λ (hh.objs.size+1)::us++[]) _ _ E0 (hr.make C us []) (I2.env0.make C us []) (hb _ (Λ (hh.objs.size+1)::us) I2.kIn hl) (by rw[Θ];exact r2) hs) λz s' hq'=>?_)
 cases z with
 |error e=>exact ϟ hq'
 |ok fl=>
  cases fl with
  |ret u=>
   obtain⟨v,H',I3,rv,ev,q3⟩:=I2.after hq'
   subst ev
   exact⟨rv,hq _ s' H' (ϕ I.sz (B5 _)) fr I3 q3⟩
  |next=>exact ϟ hq'
  |brk=>exact ϟ hq'
  |cont=>exact ϟ hq'
end
open PySem PySem.Spec PyProof.Rows PySem.W
def CXe(P:υ)(w:Κ):CXT:=λouter H s E ev s'=>∃e T C dx H',ev=.ref e/\s'.os=s.os/\GC s'.gens/\Un (frs outer) [] H H' s.heap s'.heap/\HOk P w H' s'.heap /\
 Exo s'.heap e T (.ref C) (some dx) .none/\s.heap.get? e=none/\s.heap.get? T=none/\H' e=none/\H' T=none/\E (.ref C) (some dx) H'
def yQ(X:Cx)(E:XK):Prop:=∀(pins:List (Addr×Obj))(σ:St)(H:Hp)(s:η)(e C t dx:Addr),Inv X pins σ H s->H e=some (Xo C t dx e)->X.s₀.heap.objs.size<=e->E (.ref C) (some dx) (λb=>if b=e then none else H b)->X.xe (.ref e) s
theorem zU{fs ex:List Addr}{H0 H:Hp}{h0 h:Heap}{e:Addr}{φ:Heap->Prop}(u:Un fs ex H0 H h0 h)(he:H e=some (.ext φ))(hn:h0.get? e=none):Un fs ex H0 (λb=>if b=e then none else H b) h0 h where
 keep:=u.keep
 slot:=u.slot
 free:=λb o q n x=>by
  show(if b=e then none else H b)=none
  split
  ·rfl
  ·exact u.free b o q n x
 there:=u.there
 tups:=λb xs q=>by
  have z:=u.tups b xs q
  show(if b=e then none else H b)=_
  rw[Q6 (λy=>by rw[y,he]at z;cases z)];exact z
 frzs:=λb o v q=>by
  have z:=u.frzs b o v q
  show(if b=e then none else H b)=_
  rw[Q6 (λy=>by rw[y,he]at z;cases z)];exact z
 tbls:=λb ps q=>by
  obtain⟨m,z⟩:=u.tbls b ps q
  refine⟨m,?_⟩
  show(if b=e then none else H b)=_
  rw[Q6 (λy=>by rw[y,he]at z;cases z)];exact z
theorem xI{P:υ}{w:Κ}{H:Hp}{h:Heap}{e:Addr}{φ:Heap->Prop}(x:HOk P w H h)(he:H e=some (.ext φ)):HOk P w (λb=>if b=e then none else H b) h:=λa o q=>by
 have q':H a=some o:=by
  by_cases z:a=e
  ·simp only[z,if_true]at q;cases q
  ·simpa only[z,if_false]using q
 refine(x a o q').stay (λ_ _ _ z=>z) (λb z=>?_) λb xs z=>?_
 ·show(if b=e then none else H b)=_
  rw[Q6 (λy=>by rw[y,he]at z;cases z)];exact z
 ·show(if b=e then none else H b)=_
  rw[Q6 (λy=>by rw[y,he]at z;cases z)];exact z
section
variable{P:υ}{w:Κ}{K:Frag}{mg:Str->Option ε}{base:Heap}{N:List Str}{qual:Str}{scope:C3}{f:Addr}{cd:ε}{A:Υ}{outer:List Env}{s0:η}{H0:Hp}{E:XK}
theorem wm:yQ (bf (CXe P w) P w K mg base N qual scope f cd A outer s0 H0 E) E:=by
 intro pins σ H s e C t dx I he hz hE
 have ho:=Xo.at_ I he
 have nw:s0.heap.get? e=none:=ϭ hz
 refine qS (cls:=.ref C) (dx:=some dx) (base:=base) (L:=s0.heap.objs.size) I.ok.frames I.stack rfl ⟨_,_,ho,rfl,rfl,rfl,rfl,rfl⟩ λh' T lT m x=>?_
 have hf:∀b∈frs (bf (CXe P w) P w K mg base N qual scope f cd A outer s0 H0 E).stack,(λb=>if b=e then none else H b) b=none:=λb hb=>by
  show(if b=e then none else H b)=none
  rw[I.stkFree b hb];split<;>rfl
 have hx:∀b∈[e,T],(λb=>if b=e then none else H b) b=none:=λb hb=>by
  show(if b=e then none else H b)=none
  split
  ·rfl
  ·rcases ι.mp hb with z|z
   ·contradiction
   ·rw[ξ.mp z];exact I.hok.fresh lT
 refine⟨e,T,C,dx,_,rfl,I.os,I.bare,m.un (zU I.base he nw) (λb hb=>?_) (λb hb=>?_),m.hok (xI I.hok he) hf hx,x,nw,?_,hx e (),hx T (),hE⟩
 ·rcases ι.mp (I.stkSub b hb)with z|z
  ·exact .inr (by rw[z];exact ϭ (θ _))
  ·exact .inl z
 ·rcases ι.mp hb with z|z
  ·rw[z];exact nw
  ·rw[ξ.mp z];exact ϭ (ϕ I.sz lT)
 ·exact ϭ (ϕ I.sz lT)
theorem zJ:fb (CXe P w) (bf (CXe P w) P w K mg base N qual scope f cd A outer s0 H0 E) E:=by
 intro pins σ H s ev s' I hx
 obtain⟨e,T,C,dx,H',rfl,os,bare,un,hok,xo,ne,nT,ue,uT,q⟩:=hx
 have I':Inv (bf (CXe P w) P w K mg base N qual scope f cd A outer s0 H0 E) pins σ H' s':=I.call' (ch:=[]) os un hok bare λb z=>absurd z ()
 have old:∀b:Addr,s.heap.get? b=none->s0.heap.get? b=none:=λb hb=>by
  cases z:s0.heap.get? b with
  |none=>rfl
  |some o=>
   obtain⟨o',z'⟩:=I.base.there b o z (λy=>absurd (show b∈([]:List Addr)from y) ())
   rw[hb]at z';cases z'
 refine tw (base:=base) (L:=s0.heap.objs.size) I'.ok.frames I'.stack rfl xo λh' T' lT m x=>?_
 have hx:∀b∈[e,T,T'],H' b=none:=λb hb=>by
  rcases ι.mp hb with z|hb
  ·rw[z];exact ue
  ·rcases ι.mp hb with z|z
   ·rw[z];exact uT
   ·rw[ξ.mp z];exact hok.fresh lT
 have nw:∀b∈[e,T,T'],s0.heap.get? b=none:=λb hb=>by
  rcases ι.mp hb with z|hb
  ·rw[z];exact old e ne
  ·rcases ι.mp hb with z|z
   ·rw[z];exact old T nT
   ·rw[ξ.mp z];exact ϭ (ϕ I'.sz lT)
 refine⟨e,T',C,dx,H',rfl,I'.os,bare,m.un I'.base (λb hb=>?_) nw,m.hok hok I'.stkFree hx,x,nw e (),nw T' (),ue,hx T' (),q⟩
 rcases ι.mp (I'.stkSub b hb)with z|z
 ·exact .inr (by rw[z];exact ϭ (θ _))
 ·exact .inl z
end
def CV(C:Addr)(E:XK)(ta:TA):TS:=λ_ σ H=>ta σ H λvs H1=>∃v,vs=[v]/\∀dx,H1 dx=none->E (.ref C) (some dx) (upd H1 dx (.xd [("place",v)]))
def oK(K:Frag)(D fI:Addr):Sp:=λvs H Q _=>∃e C t v,vs=[.ref e,v]/\H e=some (Xr C t e)/\iL K D fI C/\∀dx t',H dx=none->dx≠e->Q .non (upd (upd H dx (.xd [("place",v)])) e (Xo C t' dx e))
theorem Du{M:Hz}{A:Υ}{E:ε->η->Prop}{s:η}{env:Env}{x:Sem ε}{Q:Flow->η->Prop}(hh:A.handled=none)
  (h:wpAny M A x (λv s₁=>∃e C D nm q N bs sn sub ab col dd k0 k1 k2 k3 k5 nid t dx,v=.ref e/\s₁.heap.get? C=some (excClassObj nm q C N bs (.ref D::veM) true sn sub ab col dd k0 k1 k2 k3 k5 nid)/\s₁.heap.get? e=some {gq C t with dict:=some dx}/\E (.ref e) s₁) E s):
  wpAny M A (raiseStmt env (some x) none) Q E s:=by
 unfold raiseStmt
 refine δ (ϴ h (λv s₁ h₁=>?_) λ_ _ x=>x)
 obtain⟨e,C,D,nm,q,N,bs,sn,sub,ab,col,dd,k0,k1,k2,k3,k5,nid,t,dx,rfl,hC,he,hE⟩:=h₁
 obtain⟨hp,g,d,tk,os⟩:=s₁
 have b1:(Λ C::.ref D::veM).contains (.type "BaseException")=true:=bt.up (bt.up ())
 unfold gq at he
 repeat (first|with_reducible refine Ξ he ?_|with_reducible refine Ξ hC ?_|(with_reducible refine ϫ hC ?_;rw[b1])|wp_step)
 exact wpAny_raiseNew_none hh hE
section
variable{X:Cx}{D fI C:Addr}{x:Str}{np cpos pos:Pos}{e:Expr}{es:List Expr}{t:TA}{E:XK}{k:Nat}{fd:Γ}{ps:List Str}
theorem ps_raise(c:iL X.K D fI C)(FI:ap X.prog X.w X.K X.mg X.base CX0 k fI fd ps (oK X.K D fI))(hr:bT (k+1) X.A)(hb:aU X.K fd ps [])(hg:Gl X x)(hm:X.mg x=some (.ref C))(hR:yQ X E)(ha:PA X (e::es) t)
  (hdb:(x==("__debug__" : Str))=false:=by decide) (he:starEach (e::es) X.env=(false,eval e X.env)::starEach es X.env:=by rfl) (hpl:(backTo cpos (starEach es X.env)).any (·.1)=false:=by rfl):
  PS X (.Raise (some (.Call (.Name x np) (e::es) [] cpos)) none pos) (CV C E t):=by
 intro pins s σ H Dn I h
 obtain⟨nm,q,N,bs,sn,sub,ab,col,dd,k0,k1,k2,k3,k5,lk⟩:=c.obj
 rw[arm_exec_Raise]
 refine δ (Gj (Du hr.hd ?_))
 refine δ (ϴ (Q:=λv s₁=>∃e H2 dx t',v=.ref e/\Inv X pins σ H2 s₁/\H2 e=some (Xo C t' dx e)/\X.s₀.heap.objs.size<=e/\E (.ref C) (some dx) (λb=>if b=e then none else H2 b)) (j7 (eB I hg hm ?_ hdb)) (λv s₃ h₃=>δ (Gj (ρ ?_))) λ_ _ x=>x)
 ·refine m_ (h₀:=X.base) I.ok.mod.kin c.kp (thn (ha cpos pins s σ H _ I h) λus s1 ⟨vs,H1,I1,r,v,ev,q⟩=>⟨I1.kIn,?_⟩) he hpl
  subst ev
  refine AB (R:=λe H2=>∃dx t t',H1 dx=none/\dx≠e/\H2=upd (upd (upd H1 e (Xr C t e)) dx (.xd [("place",v)])) e (Xo C t' dx e)) c FI hr hb I1 r (by rw[τ];show 1<=_;omega) (λe t hn=>⟨e,C,t,v,rfl,aa,c,λdx t' hd hne=>⟨rfl,dx,t,t',?_,hne,rfl⟩⟩) λe s' H2 lz hn I2 ⟨dx,t,t',hd,hne,eH⟩=>?_
  ·rw[ai hne]at hd;exact hd
  ·subst eH
   refine⟨e,_,dx,t',rfl,I2,aa,lz,?_⟩
   have z:=q dx hd
   have y:(λb=>if b=e then none else upd (upd (upd H1 e (Xr C t e)) dx (.xd [("place",v)])) e (Xo C t' dx e) b)=upd H1 dx (.xd [("place",v)]):=by
    funext b
    by_cases hb:b=e
    ·rw[Q5 hb,hb,ai (ϛ hne),hn]
    ·rw[Q6 hb,ai hb]
     unfold upd
     split
     ·rfl
     ·first|rfl|rw[Q6 hb]
   rw[y];exact z
 ·obtain⟨e,H2,dx,t',rfl,I2,he2,lz,hE⟩:=h₃
  exact⟨e,C,D,nm,q,N,bs,sn,sub,ab,col,dd,k0,k1,k2,k3,k5,_,t',dx,rfl,I2.kIn _ _ lk,Xo.at_ I2 he2,hR pins σ H2 s₃ e C t' dx I2 he2 lz hE⟩
end
open PySem PySem.Spec PyProof.Rows PySem.W
def tVI(K:Frag)(D fI:Addr)(t:TA):TE:=λσ H Q=>t σ H λvs H1=>∃e C t0 v,vs=[.ref e,v]/\H1 e=some (Xr C t0 e)/\iL K D fI C/\∀t',Q .non (upd H1 e (Xr C t' e))
theorem Ar{K:Frag}:findCls K (.type "ValueError") (.type "type") "__init__"=some (.val (.builtin "ValueError.__init__")):=by kernel_rfl
theorem vc:typeOf (.type "ValueError")=pure (.type "type"):=by kernel_rfl
theorem AI:handedIn (.builtin "ValueError.__init__")=true:=by kernel_rfl
theorem zn:Manifest.isStub "ValueError"=false:=by decide +kernel
section
variable{X:Cx}{D fI C:Addr}{x:Str}{np apos cpos pos pos':Pos}{e o value:Expr}{es:List Expr}{t:TA}{ta tv:TE}{pl:Sem Bool}
theorem pe_vinit(hg:Gl X "ValueError")(hm:X.mg "ValueError"=none)(hv:bootBuiltins "ValueError"=some (.type "ValueError"))(ha:PA X (e::es) t)
  (ht:eval (.Call (.Attribute (.Name "ValueError" np) "__init__" apos) (e::es) [] pos) X.env=(do
   let ov <-eval (.Name "ValueError" np) X.env
   standAt apos.atName
   let (f,first) <-holding [ov] (getMethod ov "__init__" pl)
   callWith pos f first (backTo pos (starEach (e::es) X.env)) (backToKw pos (keywordEach [] X.env))):=by rfl)
  (hs:starEach (e::es) X.env=(false,eval e X.env)::starEach es X.env:=by rfl) (hpl:(backTo pos (starEach es X.env)).any (·.1)=false:=by rfl):
  PE X (.Call (.Attribute (.Name "ValueError" np) "__init__" apos) (e::es) [] pos) (tVI X.K D fI t):=by
 intro pins s σ H Q I h
 refine F6 (pl:=pl) (eA I hg hm hv ?_ () ()) ht
 obtain⟨m,Fr0⟩:=I.fr
 refine method_type (name:="__init__") (T:="ValueError") (v:=.builtin "ValueError.__init__") (K:=X.K) Fr0 I.ok.mod.kin vc zn (Ar (K:=X.K)) AI ?_
 have hA:=ha pos pins _ σ H _ (I.tok (s.toks+1)) h
 rw[hs]at hA⊢
 refine FY (by show(false||(backTo pos (starEach es X.env)).any (·.1))=false;rw[hpl]<;>rfl) (Calls.evalArgs_plain ?_)
 refine thn hA λus s2 ⟨vs,H2,I2,r2,e,C,t0,v,ev,he,c,q⟩=>?_
 subst ev
 obtain⟨u0,u1,rfl,ru0,ru1⟩:∃u0 u1,us=[u0,u1]/\aL (.ref e) u0/\aL v u1:=by
  cases r2 with
  |cons a r=>
   cases r with
   |cons b r=>cases r with|nil=>exact⟨_,_,rfl,a,b⟩
 obtain rfl:u0=Λ e:=ru0
 obtain⟨nm,q',N,bs,sn,sub,ab,col,dd,k0,k1,k2,k3,k5,lk⟩:=c.obj
 have ho:=Xr.at_ I2 he
 have mu:Mut (H2 e):=by rw[he];exact B4
 obtain⟨hh,g,d,tk,os⟩:=s2
 refine Au F.excBase_ValueError (yJ D) (I2.kIn _ _ lk) ho rfl (a0:=t0) rfl (by rw[τ];show 1<=_;omega) λh' k1 k2 _=>?_
 exact⟨.non,_,I2.write (t':=tk) (x:=e) (e:=e) (o:=Xr C hh.objs.size e) mu (.inl rfl) k1 ⟨_,k2⟩ (Bm k2),rfl,q _⟩
def sXs(K:Frag)(D fI:Addr)(ta tv:TE):TS:=λDn σ H=>tv σ H λy H1=>ta σ H1 λx H2=>∃e C t,x=.ref e/\H2 e=some (Xr C t e)/\iL K D fI C/\∀dx,H2 dx=none->dx≠e->Dn.nx σ (upd (upd H2 dx (.xd [("place",y)])) e (Xo C t dx e))
theorem ps_xset(ha:PE X o ta)(hv:PE X value tv)(hs:swapsWith value (some (.Attribute o "place" pos')) pos.line X.env=pure false:=by rfl):PS X (.Assign [.Attribute o "place" pos'] value pos) (sXs X.K D fI ta tv):=by
 intro pins s σ H Dn I h
 refine F5 (thn (hv pins s σ H _ I h) λu s1 ⟨y,H1,I1,ry,q⟩=>thn (ha pins s1 σ H1 _ I1 q) λov s2 ⟨x,H2,I2,rx,e,C,t,ex,he,c,q2⟩=>?_) hs
 subst ex
 obtain rfl:ov=Λ e:=rx
 obtain⟨nm,q',N,bs,sn,sub,ab,col,dd,k0,k1,k2,k3,k5,lk⟩:=c.obj
 have ho:=Xr.at_ I2 he
 have KX:=I2.kIn
 obtain⟨hh,g,d,tk,os⟩:=s2
 refine wk F.store_ValueError (KX _ _ lk) (im KX c.sa) (im KX c.pl) ho rfl (a0:=t) rfl rfl λh' tk' k1 k2 k3=>?_
 have fr:H2 hh.objs.size=none:=I2.hok.fresh (θ _)
 have nx:hh.objs.size≠e:=λz=>by rw[z,he]at fr;cases fr
 have hin:∀b o,hh.get? b=some o->b≠hh.objs.size:=λb o z=>ϑ (ω z)
 refine⟨σ,_,I2.un (t':=tk') (H':=upd (upd H2 hh.objs.size (.xd [("place",y)])) e (Xo C t hh.objs.size e)) ⟨λb o z n _ _=>k1 b o (λw=>by rw[w,he]at n;cases n) z,λb o z n _ _=>⟨o.slots,k1 b o (λw=>by rw[w,he]at n;cases n) z⟩,λb o z n _=>?_,λb o z _=>?_,λb xs z=>?_,λb o v z=>?_,λb ps z=>⟨#[],?_⟩⟩ (λb v z=>?_),q2 _ fr nx⟩
 ·rw[ai (λw=>by rw[w,he]at n;cases n),ai (hin b o z)];exact n
 ·by_cases w:b=e
  ·rw[w];exact⟨_,k2⟩
  ·exact⟨o,k1 b o w z⟩
 ·rw[ai (λw=>by rw[w,he]at z;cases z),ai (λw=>by rw[w,fr]at z;cases z)];exact z
 ·rw[ai (λw=>by rw[w,he]at z;cases z),ai (λw=>by rw[w,fr]at z;cases z)];exact z
 ·rw[ai (λw=>by rw[w,he]at z;cases z),ai (λw=>by rw[w,fr]at z;cases z),z];simp
 ·by_cases w:b=e
  ·rw[w,aa]at z;cases z;rw[w];exact EJ k2
  ·rw[ai w]at z
   by_cases w2:b=hh.objs.size
   ·rw[w2,aa]at z;cases z;rw[w2]
    refine⟨_,k3,λf=>?_⟩
    by_cases wf:f="place"
    ·rw[wf];exact ry
    ·rw[Q6 wf,ϙ,beq_false_of_ne wf];exact B4
   ·rw[ai w2]at z
    refine(I2.hok b v z).stay (λc o hc y=>k1 c o (λw=>?_) y) (λc hc=>?_) λc xs hc=>?_
    ·rcases hc with hc|hc
     ·exact absurd (hc.symm.trans w) (by assumption)
     ·rw[w,he]at hc;cases hc
    ·rw[ai (λw=>by rw[w,he]at hc;cases hc),ai (λw=>by rw[w,fr]at hc;cases hc)];exact hc
    ·rw[ai (λw=>by rw[w,he]at hc;cases hc),ai (λw=>by rw[w,fr]at hc;cases hc)];exact hc
end
open PySem PySem.Spec PyProof.Rows PySem.W
abbrev rj(X:Cx)(e:Addr):Cx:={X with A:=X.A.mark (some (.ref e)),calm:=false,xe:=λ_ _=>False}
section
variable{X:Cx}{pins:List (Addr×Obj)}{σ:St}{H:Hp}{s:η}{h':Heap}{e:Addr}
theorem Aa(ok:X.Ok)(e:Addr):(rj X e).Ok:=
 ⟨ok.mod,ok.kind,ok.glob,ok.blt,ok.above,ok.inj,ok.has,ok.cab,λz=>(Ζ z).elim,ok.frames,ok.stk,ok.exf,ok.bs,ok.bsz,ok.noex,ok.exfs,ok.funs,ok.frf⟩
theorem pY(I:Inv X pins σ H s)(e:Addr):Inv (rj X e) pins σ H s:=⟨Aa I.ok e,I.os,I.bare,I.base,I.loc,I.cell,I.free,I.freeC,I.pin,I.hok,I.len⟩
theorem sM(ok:X.Ok)(I:Inv (rj X e) pins σ H s):Inv X pins σ H s:=⟨ok,I.os,I.bare,I.base,I.loc,I.cell,I.free,I.freeC,I.pin,I.hok,I.len⟩
theorem xj{ex:List Addr}(I:Inv X pins σ H s)(m:Mv (frs X.stack) ex s.heap h')(h0:∀b∈ex,X.s₀.heap.get? b=none)(h1:∀b∈ex,H b=none)(h2:∀b∈ex,b≠X.env.locals)(h3:∀b∈ex,∀x c,X.env.cells.lookup x=some c->c≠b)(h4:∀b∈ex,∀p∈X.pn++pins,p.1≠b):
  Inv X pins σ H {s with heap:=h'}:=by
 have cl:∀x c,X.env.cells.lookup x=some c->∀v,s.heap.IsCell c v->h'.IsCell c v:=λx c q v ⟨o,ho,hd⟩=>by
  obtain⟨sl,z⟩:=m.slot c o (λy=>h3 c y x c q rfl) ho
  exact⟨_,z,hd⟩
 obtain⟨mm,⟨o,es,ep,ho,r⟩,hl⟩:=id I.loc
 obtain⟨sl,hL⟩:=m.slot _ o (λy=>h2 _ y rfl) ho
 refine⟨I.ok,I.os,I.bare,m.un I.base (λb hb=>?_) h0,⟨mm,⟨_,es,ep,hL,r⟩,λi x v a b c=>?_⟩,λx c q=>?_,I.free,I.freeC,λp hp=>?_,m.hok I.hok I.stkFree h1,I.len⟩
 ·rcases ι.mp (I.stkSub b hb)with z|z
  ·exact .inr (by rw[z];exact ϭ I.ok.above)
  ·exact .inl z
 ·obtain⟨u,ru,l⟩:=hl i x v a b c
  refine⟨u,ru,?_⟩
  rcases l with l|⟨k,c',q,z⟩
  ·exact .inl l
  ·exact .inr ⟨k,c',q,cl x c' q _ z⟩
 ·obtain⟨v,z⟩:=I.cell x c q
  exact⟨v,cl x c q v z⟩
 ·obtain⟨q,n,ne,nf,d⟩:=I.pin p hp
  exact⟨m.keep _ _ (λy=>(ι.mp (I.stkSub _ y)).elim ne nf) (λy=>h4 _ y p hp rfl) q,n,ne,nf,d⟩
theorem yG{i t':Nat}{n:Str}{v:Option ε}{m:Str->Option ε}(I:Inv X pins σ H s)(hN:X.N.Nodup)(hi:X.N[i]?=some n)(hs:B_ X.env.locals s.heap h')(hn:h'.Ns X.env.locals (λx=>if x=n then v else m x))
  (hl:∀(j:Nat)(x:Str)(w:V),X.N[j]?=some x->σ[j]?=some (some w)->Vis X.env.scope x->∃u,aL w u/\Ex X.env s.heap m x u):Inv X pins (σ.set i none) H {s with heap:=h',toks:=t'}:=by
 have mv:Mv [] [X.env.locals] s.heap h':=⟨λb o _ q z=>(hs.2 b λy=>q (by rw[y];simp)).trans z,λb o q z=>⟨o.slots,(hs.2 b λy=>q (by rw[y];simp)).trans z⟩⟩
 refine⟨I.ok,I.os,I.bare,mv.un I.base (λb hb=>absurd hb ()) (λb hb=>by rw[ξ.mp hb];exact ϭ I.ok.above),⟨_,hn,λj x w a b c=>?_⟩,λx c q=>?_,I.free,I.freeC,λp hp=>?_,mv.hok I.hok (λb hb=>absurd hb ()) (λb hb=>by rw[ξ.mp hb];exact I.free),by simpa using I.len⟩
 ·by_cases hj:j=i
  ·subst hj
   have:j<σ.length:=by rw[I.len];exact(Ρ.mp a).1
   rw[E7 this]at b;cases b
  ·rw[B3 (ϛ hj)]at b
   obtain⟨u,ru,l⟩:=hl j x w a b c
   refine⟨u,ru,?_⟩
   rcases l with ⟨k,q⟩|⟨k,c',q,z⟩
   ·have nx:x≠n:=λq=>hj (kP hN a (q▸hi))
    exact .inl ⟨k,(Q6 nx).trans q⟩
   ·exact .inr ⟨k,c',q,z.sameBut hs (I.cne x c' q)⟩
 ·obtain⟨w,z⟩:=I.cell x c q
  exact⟨w,z.sameBut hs (I.cne x c q)⟩
 ·obtain⟨q,n,ne,nf,d⟩:=I.pin p hp
  exact⟨(hs.2 p.1 ne).trans q,n,ne,nf,d⟩
end
theorem wT{X:Cx}{pins:List (Addr×Obj)}{σ:St}{H:Hp}{s:η}{a:Addr}{o:HO}(I:Inv X pins σ H s)(hn:H a=none)(h0:X.s₀.heap.get? a=none)(h2:a≠X.env.locals)(h3:∀x c,X.env.cells.lookup x=some c->c≠a)(h4:∀p∈X.pn++pins,p.1≠a)(new:bG X.prog X.w (upd H a o) s.heap a o):
  Inv X pins σ (upd H a o) s:=by
 have st:∀b u,H b=some u->upd H a o b=some u:=λb u q=>by rw[ai (λz=>by rw[z,hn]at q;cases q)];exact q
 refine⟨I.ok,I.os,I.bare,⟨I.base.keep,I.base.slot,λb ob q n x=>?_,I.base.there,λb xs q=>st _ _ (I.base.tups b xs q),λb ob v q=>st _ _ (I.base.frzs b ob v q),λb ps q=>?_⟩,I.loc,I.cell,(ai (ϛ h2)).trans I.free,λx c q=>(ai (h3 x c q)).trans (I.freeC x c q),λp hp=>?_,λb u q=>?_,I.len⟩
 ·rw[ai (λz=>by rw[z,h0]at q;cases q)]
  exact I.base.free b ob q n x
 ·obtain⟨more,z⟩:=I.base.tbls b ps q
  exact⟨more,st _ _ z⟩
 ·obtain⟨q,n,ne,nf,d⟩:=I.pin p hp
  exact⟨q,(ai (h4 p hp)).trans n,ne,nf,d⟩
 ·by_cases z:b=a
  ·rw[z,aa]at q;cases q;rw[z];exact new
  ·rw[ai z]at q
   exact(I.hok b u q).stay (λ_ _ _ y=>y) (λc y=>st _ _ y) λc xs y=>st _ _ y
def Xh(C dx a:Addr):HO:=.ext λh=>∃ws sl,h.get? a=some {cls:=.ref C,dict:=some dx,data:=.fields ws,slots:=sl}/\ws[2]?=some .none
theorem EC{P:υ}{w:Κ}{H:Hp}{h:Heap}{C T dx a:Addr}{fl:ε}(x:Exo h a T (.ref C) (some dx) fl):bG P w H h a (Xh C dx a):=by
 obtain⟨⟨oe,vs,he,hc,hd,hdt,_,h2⟩,_⟩:=x
 obtain⟨c1,c2,c3,c4⟩:=oe
 simp only at hc hd hdt
 subst hc;subst hd;subst hdt
 exact⟨⟨_,_,he,h2⟩,⟨_,he⟩,λ_ _ ⟨ws,sl,p,z⟩ k=>⟨ws,sl,k _ p,z⟩⟩
theorem xi{M:Hz}{A:Υ}{E:ε->η->Prop}{h:Heap}{g:Array B0}{d:HW}{t:Nat}{os:Hy}{C D e N N':Addr}{oe:Obj}{nm q nm' q':Str}{bs sub bs' sub':List ε}{sn sn':List Str}{ab ab':Bool}{col col':Option Bool}{dd dd':Option Addr}{k0 k1 k2 k3 k5 j0 j1 j2 j3 j5:Option ε}{nid nid':String}{Q:Bool->η->Prop}
  (hC:h.get? C=some (excClassObj nm q C N bs (.ref D::veM) true sn sub ab col dd k0 k1 k2 k3 k5 nid)) (hD:h.get? D=some (excClassObj nm' q' D N' bs' veM true sn' sub' ab' col' dd' j0 j1 j2 j3 j5 nid')) (he:h.get? e=some oe) (hc:oe.cls=.ref C) (hq:Q true ⟨h,g,d,t,os⟩):
  wpAny M A (excMatches (.ref e) (.ref D)) Q E ⟨h,g,d,t,os⟩:=by
 have b1:(Λ D::veM).contains (.type "BaseException")=true:=bt.up ()
 have b2:(Λ C::.ref D::veM).contains (.ref D)=true:=by simp
 have f:=tc_notTuple
 unfold excMatches
 repeat (first|(with_reducible refine Ξ he ?_;rw[hc])|with_reducible refine Ξ hD ?_|(with_reducible refine ϫ hD ?_;rw[b1])|(with_reducible refine ϫ hC ?_;rw[b2])|wp_step)
 exact hq
section
variable{X:Cx}{D fI f:Addr}{x xD n:Str}{np cpos epos tp hpos pos:Pos}{e:Expr}{es:List Expr}{t:TA}{k i:Nat}{fd:Γ}{ps:List Str}{sp:Sp}{b₀:Stmt}{suite:List Stmt}{ts:Addr->TS}
end
open PySem PySem.Spec PyProof.Rows PySem.W
structure Dd(K:Frag)(D C:Addr):Prop where
 obj:∃nm q N bs sn sub ab col dd k0 k1 k2 k3 k5,K.lookup C=some (excClassObj nm q C N bs (.ref D::veM) true sn sub ab col dd k0 k1 k2 k3 k5 "ValueError.__new__")
 ne:C≠D
theorem iL.sub{K:Frag}{D fI C:Addr}(c:iL K D fI C):Dd K D C:=⟨c.obj,c.ne⟩
section
variable{X:Cx}{D fI:Addr}
theorem Ep{M:Hz}{h:Heap}:HR M h (isType (.type "ValueError")) true:=λA Q E s k q=>ρ q
theorem bg:dZ X (.builtin "isinstance") (λxs H Q=>∃a C dx c,xs=[.ref a,c]/\H a=some (Xh C dx a)/\iL X.K D fI C/\((∃C' b,c=.ref C'/\Dd X.K D C'/\decide (C'=C)=b/\Q (.bl b) H)\/(c=.ty "ValueError"/\Q (.bl true) H))):=by
 intro pins s σ H xs us Q I r h
 obtain⟨a,C,dx,c0,rfl,ha,c,h⟩:=h
 obtain⟨u,w',rfl,rx,rn⟩:=mV r
 obtain rfl:u=Λ a:=rx
 obtain⟨⟨ws,sl,ho,_⟩,_⟩:=I.hok a _ ha
 obtain⟨nm,q',N,bs,sn,sub,ab,col,dd,k0,k1,k2,k3,k5,lk⟩:=c.obj
 have KX:=I.kIn
 have tk1:=I.tok (s.toks+1)
 obtain⟨hh,g,d,tk,os⟩:=s
 rcases h with ⟨C',b,rfl,c',rfl,q⟩|⟨rfl,q⟩
 ·obtain rfl:w'=Λ C':=rn
  obtain⟨nm',q'',N',bs',sn',sub',ab',col',dd',j0,j1,j2,j3,j5,lk'⟩:=c'.obj
  have hC':hh.get? C'=_:=KX _ _ lk'
  by_cases z:C'=C
  ·subst z
   rw[Q9 rfl]at q
   exact xZ ho rfl ⟨.bl true,H,I,rfl,q⟩
  ·rw[Q8 z]at q
   have hty:HR (model X.prog X.w) hh (typeOf (.ref C')) (.type "type"):=λA Q E s k q=>by
    unfold typeOf
    exact δ (GJ (k _ _ hC') (ρ q))
   have e1:(Λ C==Λ C')=false:=by simp[ϛ z]
   have e2:(Λ D==Λ C')=false:=by simp[ϛ c'.ne]
   refine AG F.attrBase_ValueError (KX _ _ lk) ho rfl () (im KX c.cl) (im KX c.ga) (im KX c.gh) e1 ?_ hty (Bc hC') ⟨.bl false,H,tk1,rfl,q⟩
   rw[G0,G0]
   have f1:(Λ C'==Λ C)=false:=by simp[z]
   have f2:(Λ C'==Λ D)=false:=by simp[c'.ne]
   rw[f1,f2];rfl
 ·obtain rfl:w'=Hr "ValueError":=rn
  exact wO (KX _ _ lk) ho rfl rfl (bt.up (bt.up ())) (HR.of_pure vc) Ep ⟨.bl true,H,I,rfl,q⟩
variable{o:Expr}{to:TE}{pos:Pos}
def tXf(K:Frag)(D fI:Addr)(to:TE):TE:=λσ H Q=>to σ H λx H1=>∃a C dx v,x=.ref a/\H1 a=some (Xh C dx a)/\iL K D fI C/\H1 dx=some (.xd [("place",v)])/\Q v H1
theorem pe_xfld(he:PE X o to)(hb:attributeBase o "place" X.env (eval o X.env)=eval o X.env:=by rfl):PE X (.Attribute o "place" pos) (tXf X.K D fI to):=by
 intro pins s σ H Q I h
 refine uW hb (thn (he pins s σ H _ I h) λu s1 ⟨x,H1,I1,rx,a,C,dx,v,ex,ha,c,hd,q⟩=>?_)
 subst ex
 obtain rfl:u=Λ a:=rx
 obtain⟨⟨ws,sl,ho,_⟩,_⟩:=I1.hok a _ ha
 obtain⟨mA,hn,rel⟩:=I1.hok dx _ hd
 obtain⟨nm,q',N,bs,sn,sub,ab,col,dd,k0,k1,k2,k3,k5,lk⟩:=c.obj
 have rp:=rel "place"
 have KX:=I1.kIn
 have tk1:=I1.tok (s1.toks+1)
 obtain⟨hh,g,d,tk,os⟩:=s1
 cases em:mA "place" with
 |none=>rw[em]at rp;exact rp.elim
 |some u=>
  rw[em]at rp
  have rp:aL v u:=rp
  exact Cl F.attrBase_ValueError (KX _ _ lk) (im KX c.ga) (im KX c.gh) (im KX c.pl) ho hn em (by rw[handedOut_of (mH rp)]) ⟨v,H1,tk1,rp,q⟩
end
theorem ug:entryFor table "proto.unchain"=some e_.«proto.unchain»:=entryFor_of_fast (by kernel_rfl)
section
variable{prog:υ}{w:Κ}{A:Υ}{E:ε->η->Prop}{s:η}{e:Addr}
theorem sx{α:Type}{a:Addr}{oa oe:Obj}{vs ws:Array ε}{Q:α->η->Prop}(hh:A.handled=some (.ref e))(he:s.heap.get? e=some oe)(hde:oe.data=.fields ws)(h2:ws[2]?=some .none)(ha:s.heap.get? a=some oa)(hda:oa.data=.fields vs)(hz:2<vs.size)(ne:e≠a)
  (h:E (.ref a) {s with heap:=s.heap.update a (Hi (·.setIfInBounds 2 (.ref e)))}):wpAny (model prog w) A (raiseNew (.ref a):Sem α) Q E s:=by
 unfold raiseNew
 refine δ (wpAny_handled ?_)
 rw[hh]
 show wpAny _ _ (if (Λ e != Λ a)=true then _ else _) _ _ _
 rw[Q5 (by simp[ne])]
 refine δ (A9 (wpAny_runValue (codeAny_builtin ug ?_)))
 refine δ (ύ he hde h2 ?_)
 rw[Q5 ()]
 refine δ (ρ (ρ ?_))
 exact δ (F1 ha hda hz (wpAny_throw h))
end
open PySem PySem.Spec PyProof.Rows PySem.W
section
variable{P:υ}{w:Κ}{K:Frag}{mg:Str->Option ε}{base:Heap}
theorem okX{x qual:Str}{st:Stmt}{f:Addr}{fd:Γ}{N ps:List Str}{k:Nat}{sp:Sp}(F:Fun K x qual st f fd)(S:am N ps (af st))(len:∀vs H Q E,sp vs H Q E->vs.length=ps.length)
  (hbody:∀(cdv:ε)(A:Υ)(outer:List Env)(s:η)(H:Hp)(vs:List V)(Q:VK)(E:XK),bT k (A.deeper (envOfC qual (af st) s.heap.objs.size f cdv))->sp vs H Q E ->
   ∃t,PSs (bf (CXe P w) P w K mg base N qual (af st) f cdv A outer s H E) (bc st) t/\t {nx:=λ_ H'=>Q .non H',rt:=Q} (dw N vs) H):ap P w K mg base (CXe P w) (k+1) f fd ps sp:=by
 obtain⟨oc,od,kV,doc,pm,an,cdv,ct,osl,rfl,lk,hcd⟩:=F.ex
 exact yb lk hcd S len λA outer s H vs Q E hr hsp=>hbody cdv A outer s H vs Q E hr hsp
structure ya(P:υ)(w:Κ)(K:Frag)(mg:Str->Option ε)(base:Heap)(k:Nat)(x:Str)(ps:List Str)(sp:Sp):Prop where
 ex:∃f fd,ap P w K mg base (CXe P w) k f fd ps sp/\aU K fd ps []/\keepIn K (.ref f)=true/\mg x=some (.ref f)
variable{N:List Str}{qual:Str}{scope:C3}{f0:Addr}{cd:ε}{A:Υ}{outer:List Env}{s0:η}{H0:Hp}{E:XK}{k:Nat}{x:Str}{ps:List Str}{sp:Sp}{p pos:Pos}{e:Expr}{es:List Expr}{t:TA}
theorem pe_defX(d:ya P w K mg base k x ps sp)(hr:bT k (A.deeper (envOfC qual scope s0.heap.objs.size f0 cd)))(hg:Gl (bf (CXe P w) P w K mg base N qual scope f0 cd A outer s0 H0 E) x)(ha:PA (bf (CXe P w) P w K mg base N qual scope f0 cd A outer s0 H0 E) (e::es) t)(hdb:(x==("__debug__" : Str))=false:=by decide)
  (he:starEach (e::es) (bf (CXe P w) P w K mg base N qual scope f0 cd A outer s0 H0 E).env=(false,eval e (bf (CXe P w) P w K mg base N qual scope f0 cd A outer s0 H0 E).env)::starEach es (bf (CXe P w) P w K mg base N qual scope f0 cd A outer s0 H0 E).env:=by rfl)
  (hpl:(backTo pos (starEach es (bf (CXe P w) P w K mg base N qual scope f0 cd A outer s0 H0 E).env)).any (·.1)=false:=by rfl):PE (bf (CXe P w) P w K mg base N qual scope f0 cd A outer s0 H0 E) (.Call (.Name x p) (e::es) [] pos) (mr sp [] E t):=by
 obtain⟨f,fd,F,b,kp,m⟩:=d.ex
 exact vb F hr hg m kp b .nil zJ ha hdb he hpl
end
open PySem PySem.Spec PyProof.Rows PySem.W
def XE(X:Cx)(pins:List (Addr×Obj))(σ:St)(E:XK)(ev:ε)(s':η):Prop:=
 ∃a T C dx H',ev=.ref a/\Inv X pins σ H' s'/\Exo s'.heap a T (.ref C) (some dx) .none/\(H' a=none/\H' T=none)/\(X.s₀.heap.get? a=none/\X.s₀.heap.get? T=none)/\((∀p∈X.pn++pins,p.1≠a)/\∀p∈X.pn++pins,p.1≠T)/\E (.ref C) (some dx) H'
abbrev TB:=(Hp->Prop)->XK->St->Hp->Prop
def PB(X:Cx)(body:List Stmt)(t:TB):Prop:=∀(pins:List (Addr×Obj))(s:η)(σ:St)(H:Hp)(N:Hp->Prop)(E:XK),Inv X pins σ H s->t N E σ H ->
 wpAny (model X.prog X.w) X.A (execs body X.env) (λf s1=>f=.next/\∃H',Inv X pins σ H' s1/\N H') (XE X pins σ E) s
def uM(sp:Sp)(t:TA):TB:=λN E σ H=>t σ H λvs H1=>sp vs H1 (λ_ H2=>N H2) E
def bIf(tc:TT)(t u:TB):TB:=λN E σ H=>tc σ H λb H1=>if b=true then t N E σ H1 else u N E σ H1
def El(K:Frag)(D fI:Addr)(i:Nat)(tb:TB)(ts:Addr->TS):TS:=λDn σ H=>tb (λH2=>Dn.nx σ H2) (λcv dxo H2=>∃C dx v,cv=.ref C/\dxo=some dx/\iL K D fI C/\H2 dx=some (.xd [("place",v)]) /\
 ∀e,H2 e=none->ts e {nx:=λσ' H'=>Dn.nx (σ'.set i none) H',rt:=Dn.rt,bk:=λσ' H'=>Dn.bk (σ'.set i none) H',ct:=λσ' H'=>Dn.ct (σ'.set i none) H'} (σ.set i (some (.ref e))) (upd H2 e (Xh C dx e))) σ H
section
variable{X:Cx}{D fI f:Addr}{x xD n:Str}{np cpos epos tp hpos pos:Pos}{e:Expr}{es:List Expr}{t:TA}{k i:Nat}{fd:Γ}{ps:List Str}{sp:Sp}{b₀:Stmt}{suite:List Stmt}{ts:Addr->TS}{tb tu:TB}{body other:List Stmt}
theorem oE(hx0:∀v s,X.xe v s->False)(hex:X.ex=[])(F:ap X.prog X.w X.K X.mg X.base (CXe X.prog X.w) k f fd ps sp)(hr:bT k X.A)(hg:Gl X x)(hm:X.mg x=some (.ref f))(hk:keepIn X.K (.ref f)=true)(hb:aU X.K fd ps [])(ha:PA X (e::es) t)
  (hdb:(x==("__debug__" : Str))=false:=by decide) (he:starEach (e::es) X.env=(false,eval e X.env)::starEach es X.env:=by rfl) (hpl:(backTo cpos (starEach es X.env)).any (·.1)=false:=by rfl) (hsw:swapsWith (.Call (.Name x np) (e::es) [] cpos) none epos.line X.env=pure false:=by rfl):
  PB X [.Expr (.Call (.Name x np) (e::es) [] cpos) epos] (uM sp t):=by
 intro pins s σ H N E I h
 refine Ga (wpAny_Expr_any (j7 (eB I hg hm ?_ hdb)) I.quiet hsw)
 refine m_ (h₀:=X.base) I.ok.mod.kin hk (ϴ (ha cpos pins s σ H _ I h) (λus s1 ⟨vs,H1,I1,r,q⟩=>⟨I1.kIn,?_⟩) λv s' z=>(hx0 v s' z).elim) he hpl
 have hl:(us++[]).length=ps.length:=by rw[Θ,<-r.length];exact F.len _ _ _ _ q
 refine Gf (A6 (F.run X.A X.stack s1 H1 ⟨us,[]⟩ (us++[]) vs _ _ hr I1.env0 (hb s1 us I1.kIn hl) (by rw[Θ];exact r) q) λz s' hq=>?_)
 cases z with
 |ok fl=>
  cases fl with
  |ret u=>
   obtain⟨v,H2,I2,rv,q2⟩:=I1.after hq
   exact q_ ⟨rfl,H2,I2,q2⟩
  |next=>exact ϟ hq
  |brk=>exact ϟ hq
  |cont=>exact ϟ hq
 |error ev=>
  obtain⟨a,T,C0,dx0,H',rfl,os,bare,un,hok,xo,ne,nT,ue,uT,q2⟩:=hq
  have I2:Inv X pins σ H' s':=I1.call' (ch:=[]) os un hok bare λb z=>absurd z ()
  have old:∀b:Addr,s1.heap.get? b=none->X.s₀.heap.get? b=none:=λb hb=>by
   cases z:X.s₀.heap.get? b with
   |none=>rfl
   |some o=>
    obtain⟨o',z'⟩:=I1.base.there b o z (by rw[hex];simp)
    rw[hb]at z';cases z'
  have pin1:∀b,s1.heap.get? b=none->∀p∈X.pn++pins,p.1≠b:=λb hb p hp z=>by
   have y:=(I1.pin p hp).1
   rw[z,hb]at y;cases y
  exact⟨a,T,C0,dx0,H',rfl,I2,xo,⟨ue,uT⟩,⟨old a ne,old T nT⟩,⟨pin1 a ne,pin1 T nT⟩,q2⟩
theorem Bw{c:Expr}{tc:TT}(hx0:∀v s,X.xe v s->False)(hc:PT X c tc)(ha:PB X body tb)(hb:PB X other tu):PB X [.If c body other pos] (bIf tc tb tu):=by
 intro pins s σ H N E I h
 refine Ga (wpAny_If (ϴ (hc pins s σ H _ I h) (λd s1 ⟨H1,I1,q1⟩=>?_) λv s' z=>(hx0 v s' z).elim))
 cases d with
 |true=>
  refine thn (ha pins s1 σ H1 N E I1 q1) λf s2 ⟨e2,q2⟩=>?_
  subst e2
  exact q_ ⟨rfl,q2⟩
 |false=>
  refine thn (hb pins s1 σ H1 N E I1 q1) λf s2 ⟨e2,q2⟩=>?_
  subst e2
  exact q_ ⟨rfl,q2⟩
theorem Aq(hB:PB X body tb)(hx0:∀v s,X.xe v s->False)
  (hT:DT X.K D) (hgD:Gl X xD) (hmD:X.mg xD=some (.ref D)) (hst:X.stack=X.env::X.outer) (hfr:X.env.frame=some X.env.locals) (hN:X.N.Nodup) (hi:X.N[i]?=some n) (hloc:X.env.scope.names.lookup n=some .local)
  (hsu:∀e,PSs (rj X e) (b₀::suite) (ts e)) (hdD:(xD==("__debug__" : Str))=false:=by decide):
  PS X (.Try body [.ExceptHandler (some (.Name xD tp)) (some n) (b₀::suite) hpos] [] [] pos) (El X.K D fI i tb ts):=by
 intro pins s σ H Dn I h
 refine wpAny_Try_except (ϴ (hB pins s σ H _ _ I h) (λfl s1 ⟨e1,H2,I2,q2⟩=>?_) λev s' hq=>?_)
 ·subst e1
  exact q_ ⟨σ,H2,I2,q2⟩
 ·obtain⟨a,T,C0,dx0,H',rfl,I2,xo,⟨ue,uT⟩,⟨oa,oT⟩,⟨pa,pT⟩,C,dx,v,ec,ed,c,hdx,q2⟩:=hq
  cases ec;cases ed
  have hfr':X.A.frames=some (X.env::X.outer):=by rw[<-hst];exact I2.ok.frames
  have hfun:s'.heap.FunFrames X.base (X.env::X.outer):=hst▸I2.stack
  have flds:∀b o vs,s'.heap.get? b=some o->o.data=.fields vs->b≠X.env.locals/\∀x c,X.env.cells.lookup x=some c->c≠b:=λb o vs q hd=>by
   refine⟨λz=>?_,λx c qc z=>?_⟩
   ·obtain⟨m,⟨o',es,ep,ho',hd',_⟩,_⟩:=I2.loc
    rw[<-z,q]at ho';cases ho';rw[hd]at hd';cases hd'
   ·obtain⟨v,o',ho',hd'⟩:=I2.cell x c qc
    rw[z,q]at ho';cases ho';rw[hd]at hd';cases hd'
  have fe:=let ⟨⟨oe,vs,he,_,_,hd,_⟩,_,_⟩:=xo;flds a oe vs he hd
  have fT:=let ⟨_,⟨oT,ts,hT,hd,_⟩,_⟩:=xo;flds T oT ts hT hd
  refine nv (base:=X.base) (L:=X.env.locals) hfr' hfun hfr xo λh1 T1 l1 m1 x1=>?_
  refine fX (s:={s' with heap:=h1}) x1 λh2 m2 x2=>?_
  have mm:Mv (frs X.stack) [a,T,T1] s'.heap h2:=by
   rw[hst]
   refine(m1.mono (λ_ z=>z) λb z=>?_).trans (m2.mono (λ_ z=>absurd z ()) λb z=>?_)
   ·rcases ι.mp z with z|z
    ·exact ι.mpr (.inl z)
    ·exact π _ (ι.mpr (.inl (ξ.mp z)))
   ·exact π _ (π _ z)
  have all3:∀{p:Addr->Prop},p a->p T->p T1->∀b∈[a,T,T1],p b:=λp1 p2 p3 b hb=>by
   rcases ι.mp hb with z|hb
   ·rw[z];exact p1
   ·rcases ι.mp hb with z|z
    ·rw[z];exact p2
    ·rw[ξ.mp z];exact p3
  have lt1:∀b o,s'.heap.get? b=some o->b≠T1:=λb o q=>ϑ (Χ (ω q) l1)
  have g0:=all3 (p:=λb=>X.s₀.heap.get? b=none) oa oT (ϭ (ϕ I2.sz l1))
  have g1:=all3 (p:=λb=>H' b=none) ue uT (I2.hok.fresh l1)
  have g2:=all3 (p:=λb=>b≠X.env.locals) fe.1 fT.1 (o0 (Χ I2.lt l1))
  have g3:=all3 (p:=λb=>∀x c,X.env.cells.lookup x=some c->c≠b) fe.2 fT.2 λx c q=>let ⟨_,o,z,_⟩:=I2.cell x c q;lt1 c o z
  have g4:=all3 (p:=λb=>∀p∈X.pn++pins,p.1≠b) pa pT λp hp=>lt1 _ _ (I2.pin p hp).1
  have I3:Inv X pins σ H' {s' with heap:=h2}:=xj I2 mm g0 g1 g2 g3 g4
  obtain⟨nm,q',N,bs,sn,sub,ab,col,dd,k0,k1,k2,k3,k5,lk⟩:=c.obj
  obtain⟨nm',q'',N',bs',sn',sub',ab',col',dd',j0,j1,j2,j3,j5,lkD⟩:=hT.obj
  refine wpAny_handleBy_cons (codeAny_handlers_test (eB (X:=rj X a) (pY I3 a) hgD hmD ?_ hdD)) (by intro z;cases z)
  obtain⟨oe,vs,he2,hc2,hd2,_⟩:=x2.obj
  obtain⟨hp0,g,dr,tk,os0⟩:=s'
  refine xi (I3.kIn _ _ lk) (I3.kIn _ _ lkD) he2 hc2 ?_
  refine codeAny_handlers_suite_as (fX (s:=⟨h2,g,dr,tk,os0⟩) x2 λh3 m3 x3=>?_)
  have I4:Inv X pins σ H' ⟨h3,g,dr,tk,os0⟩:=xj I3 ((m3.mono (λ_ z=>absurd z ()) λb z=>π _ (π _ z)):Mv (frs X.stack) [a,T,T1] h2 h3) g0 g1 g2 g3 g4
  have I5:=wT (o:=Xh C0 dx0 a) I4 ue oa fe.1 fe.2 pa (EC x3)
  refine ik (X:=rj X a) (pY I5 a) hN hi (.inl hloc) (v:=.ref a) rfl (λs6 I6=>?_) (.inr hloc)
  refine ϴ (hsu a pins s6 _ _ _ I6 (q2 a ue)) (λfl s7 h7=>?_) λ_ _ z=>z.elim
  have goes:∀(σ':St)(H7:Hp)(Q:η->Prop),Inv (rj X a) pins σ' H7 s7->(∀s8,Inv X pins (σ'.set i none) H7 s8->Q s8)->wpAny (model X.prog X.w) X.A (do bindName X.env n .none;unbindBehindTheSuite X.env n hpos) (λ_ s8=>Q s8) X.xe s7:=λσ' H7 Q I7 hQ=>by
   have I7':=sM I.ok I7
   obtain⟨m7,hn7,hl7⟩:=id I7'.loc
   exact wpAny_nameGoes_keeps hloc hn7 (by rw[I.ok.kind];rfl) λh8 v8 n8 s8=>hQ _ (yG I7' hN hi s8 n8 hl7)
  cases fl with
  |next=>
   obtain⟨σ',H7,I7,z⟩:=h7
   exact goes σ' H7 _ I7 λs8 I8=>⟨_,H7,I8,z⟩
  |brk=>
   obtain⟨σ',H7,I7,z⟩:=h7
   exact goes σ' H7 _ I7 λs8 I8=>⟨_,H7,I8,z⟩
  |cont=>
   obtain⟨σ',H7,I7,z⟩:=h7
   exact goes σ' H7 _ I7 λs8 I8=>⟨_,H7,I8,z⟩
  |ret u=>
   obtain⟨v,σ',H7,I7,rv,z⟩:=h7
   exact goes σ' H7 _ I7 λs8 I8=>⟨v,_,H7,I8,rv,z⟩
end
open PySem PySem.Spec PyProof.Rows PySem.W
structure mP(e:Addr)(k:Nat)(A:Υ):Prop where
 hd:A.handled=some (.ref e)
 dp:A.depth+3*k+5<recursionLimit
 un:A.units+16*k+200<cLine
theorem mP.of{e:Addr}{k:Nat}{X:Cx}(r:bT k X.A):mP e k (rj X e).A:=⟨rfl,r.dp,r.un⟩
structure FnH(P:υ)(w:Κ)(K:Frag)(mg:Str->Option ε)(base:Heap)(e:Addr)(k:Nat)(f:Addr)(fd:Γ)(ps:List Str)(sp:Sp):Prop where
 len:∀vs H Q E,sp vs H Q E->vs.length=ps.length
 run:∀(A:Υ)(outer:List Env)(s:η)(H:Hp)(args:Args)(us:List ε)(vs:List V)(Q:VK)(E:XK),mP e k A->nE P w K mg base A outer s H->Hu s fd args (ps.zip us)->aw vs us->sp vs H Q E ->
  codeAny (model P w) A (.call (.ref f) args) (CR CX0 outer P w H s Q E) s
abbrev cxH(P:υ)(w:Κ)(K:Frag)(mg:Str->Option ε)(base:Heap)(N:List Str)(qual:Str)(scope:C3)(f:Addr)(cd:ε)(A:Υ)(outer:List Env)(s:η)(H:Hp):Cx:=
 {bf CX0 P w K mg base N qual scope f cd A outer s H E0 with calm:=false,xe:=λ_ _=>False}
theorem tQ{P:υ}{w:Κ}{K:Frag}{mg:Str->Option ε}{base:Heap}{N ps:List Str}{qual:Str}{scope:C3}{f:Addr}{cd:ε}{A:Υ}{outer:List Env}{s s1:η}{H:Hp}{us:List ε}{vs:List V}
  (S:am N ps scope) (e0:nE P w K mg base A outer s H) (hl:vs.length=ps.length) (r:aw vs us)
  (x:InCallC s s.heap.objs.size (bindL (envOfC qual scope s.heap.objs.size f cd).kindOf (ps.zip us) λ_=>none) (cellsFrom (s.heap.objs.size+1) scope.names []) (bindC (envOfC qual scope s.heap.objs.size f cd).kindOf (ps.zip us) λ_=>none) s1):
  Inv (cxH P w K mg base N qual scope f cd A outer s H) [] (dw N vs) H s1:=by
 have I:=nb (CX:=CX0) (E:=E0) (A:={A with handled:=none}) (N:=N) (f:=f) (cd:=cd) (qual:=qual) S rfl ⟨e0.frames,e0.mod,e0.bs,e0.bsz,e0.funs,e0.frf,e0.hok,e0.bare⟩ hl r x
 obtain⟨ok,a2,a3,a4,a5,a6,a7,a8,a9,a10,a11⟩:=I
 exact⟨⟨ok.mod,ok.kind,ok.glob,ok.blt,ok.above,ok.inj,ok.has,ok.cab,λz=>(Ζ z).elim,ok.frames,ok.stk,ok.exf,ok.bs,ok.bsz,ok.noex,ok.exfs,ok.funs,ok.frf⟩,a2,a3,a4,a5,a6,a7,a8,a9,a10,a11⟩
section
variable{P:υ}{w:Κ}{K:Frag}{mg:Str->Option ε}{base:Heap}{e:Addr}
theorem okH{x qual:Str}{st:Stmt}{f:Addr}{fd:Γ}{N ps:List Str}{k:Nat}{sp:Sp}(F:Fun K x qual st f fd)(S:am N ps (af st))(len:∀vs H Q E,sp vs H Q E->vs.length=ps.length)
  (hbody:∀(cdv:ε)(A:Υ)(outer:List Env)(s:η)(H:Hp)(vs:List V)(Q:VK)(E:XK),mP e k (A.deeper (envOfC qual (af st) s.heap.objs.size f cdv))->sp vs H Q E ->
   ∃t,PSs (cxH P w K mg base N qual (af st) f cdv A outer s H) (bc st) t/\t {nx:=λ_ H'=>Q .non H',rt:=Q} (dw N vs) H):FnH P w K mg base e (k+1) f fd ps sp:=by
 obtain⟨oc,od,kV,doc,pm,an,cdv,ct,osl,rfl,lk,hcd⟩:=F.ex
 refine⟨len,λA outer s H args us vs Q E hr e0 hb r hsp=>?_⟩
 have hl:=len _ _ _ _ hsp
 have KX:K.In s.heap:=e0.mod.kin.keeps λb o e=>(e0.bs b o e).1
 have lim:s.heap.NoLimit:=e0.mod.nolimit.keeps λb o e=>(e0.bs b o e).1
 have hkind:∀y∈ps.zip us,(af st).names.lookup y.1=some .local\/((af st).names.lookup y.1=some .cell/\((cellsFrom (s.heap.objs.size+1) (af st).names []).lookup y.1).isSome=true):=λ⟨n,v⟩ hy=>by
  rcases S.par n (Gr hy).1 with q|q
  ·exact .inl q
  ·exact .inr ⟨q,E9 _ _ _ (.inl q)⟩
 refine codeAny_call_function (by have:=hr.dp;omega) (KX _ _ lk) rfl S.co S.gen rfl (PySem.W.codeRec_of KX hcd) (hb _ _ _ _ ?_)
 refine GN S.kind hkind λenv he s1 x=>?_
 subst he
 refine⟨lim.keeps x.toInCall.keep,codeAny_func ?_⟩
 obtain⟨t,ht,hq⟩:=hbody cdv A outer s H vs Q E ⟨hr.hd,by have:=hr.dp;show A.depth+1+3*k+5<_;omega,by have:=hr.un;show A.units+3+16*k+200<_;omega⟩ hsp
 have I:Inv (cxH P w K mg base N qual (af st) f cdv A outer s H) [] (dw N vs) H s1:=tQ S e0 hl r x
 refine ϴ (ht [] s1 (dw N vs) H _ I hq) (λfl s' hs=>?_) λe s' hs=>hs.elim
 have fin:∀{σ':St}{H':Hp}{v:V}{u:ε},Inv (cxH P w K mg base N qual (af st) f cdv A outer s H) [] σ' H' s'->aL v u->Q v H'->CE outer P w H s Q u s':=
  λ{σ' H' v u} J rv q=>⟨v,H',J.os,J.bare,J.base,J.hok,rv,q⟩
 cases fl with
 |ret u=>
  obtain⟨v,σ',H',J,rv,q⟩:=hs
  exact fin J rv q
 |next=>
  obtain⟨σ',H',J,q⟩:=hs
  exact fin (v:=V.non) (u:=j6) J rfl q
 |brk=>
  obtain⟨_,_,_,q⟩:=hs
  exact ϟ q
 |cont=>
  obtain⟨_,_,_,q⟩:=hs
  exact ϟ q
end
section
variable{X:Cx}{k:Nat}{f a:Addr}{fd:Γ}{ps:List Str}{sp:Sp}{x:Str}{p pos:Pos}{e:Expr}{es:List Expr}{t:TA}
theorem xS(F:FnH X.prog X.w X.K X.mg X.base a k f fd ps sp)(hr:mP a k X.A)(hg:Gl X x)(hm:X.mg x=some (.ref f))(hk:keepIn X.K (.ref f)=true)(hb:aU X.K fd ps [])
  (ha:PA X (e::es) t) (hdb:(x==("__debug__" : Str))=false:=by decide) (he:starEach (e::es) X.env=(false,eval e X.env)::starEach es X.env:=by rfl) (hpl:(backTo pos (starEach es X.env)).any (·.1)=false:=by rfl):
  PE X (.Call (.Name x p) (e::es) [] pos) (mr sp [] E0 t):=by
 intro pins s σ H Q I h
 refine j7 (eB I hg hm ?_ hdb)
 refine m_ (h₀:=X.base) I.ok.mod.kin hk (thn (ha pos pins s σ H _ I h) λus s1 ⟨vs,H1,I1,r,q⟩=>⟨I1.kIn,?_⟩) he hpl
 have q:sp vs H1 Q E0:=by have q:sp (vs++[]) H1 Q E0:=q;rw[Θ]at q;exact q
 have hl:(us++[]).length=ps.length:=by rw[Θ,<-r.length];exact F.len _ _ _ _ q
 refine Gf (A6 (F.run X.A X.stack s1 H1 ⟨us,[]⟩ (us++[]) vs Q E0 hr I1.env0 (hb s1 us I1.kIn hl) (by rw[Θ];exact r) q) λz s' hq=>?_)
 cases z with
 |error e=>exact hq.elim
 |ok fl=>
  cases fl with
  |ret u=>exact I1.after hq
  |next=>exact ϟ hq
  |brk=>exact ϟ hq
  |cont=>exact ϟ hq
end
open PySem PySem.Spec PyProof.Rows PySem.W
section
variable{prog:υ}{w:Κ}{A:Υ}{E:ε->η->Prop}{s:η}{e:Addr}
theorem sy{it:Addr}{x left step:Int}{oe:Obj}{ws:Array ε}{Q:Option ε->η->Prop}(hh:A.handled=some (.ref e))(he:s.heap.get? e=some oe)(hde:oe.data=.fields ws)(h2:ws[2]?=some .none)(hit:Gm s.heap it x left step)(hleft:left<=0)
  (hQ:∀h',Heap.ExtBut it s.heap h'->Q none {s with heap:=h'}):wpAny (model prog w) A (pyNext (.ref it)) Q E s:=by
 have hT:s.TypeIs (.ref it) "range_iterator":=⟨_,hit,rfl⟩
 unfold pyNext
 refine δ (Gk (ϩ (name:=γ "__next__") hT G3
  (j8 G3 hT F.entry_range_iterator_next ?_ (F.args_range_iterator_next_1 _))))
 show wpAny _ _ (field (.ref it) 0>>=_) _ _ s
 refine δ (ύ hit rfl (x:=rawInt x) rfl ?_)
 show wpAny _ _ (field (.ref it) 1>>=_) _ _ s
 refine δ (ύ hit rfl (x:=rawInt left) rfl ?_)
 show wpAny _ _ (field (.ref it) 2>>=_) _ _ s
 refine δ (ύ hit rfl (x:=rawInt step) rfl ?_)
 show wpAny _ _ (if left<=0 then _ else _) _ _ s
 rw[Q5 hleft]
 refine δ (B8 ?_)
 refine δ ?_
 show wpAny _ _ (newExc (.type "StopIteration") []>>=_) _ _ _
 refine δ ?_
 simp only[newExc,newTuple]
 refine δ (ϝ ?_ (by size_fits))
 refine δ (m:=firstArgMember _ _) (wpAny_of_eq (a:=j6) (by first|rfl|(simp only[firstArgMember];rfl)) ?_)
 refine ϝ ?_ (by size_fits)
 refine sx (A:=A.in1) hh (μ _ (μ _ he)) hde h2 (Β _ rfl) rfl (by rw[Array.size_append];exact Χ (by decide:2<6) (Ϸ 6 _)) ?_ ?_
 ·refine ϑ ?_
  simp only[Ϧ]
  exact F0 (ω he)
 ·refine δ (Hl (T:="StopIteration") (b:=true) ⟨_,i6 _ (Β _ rfl) rfl,rfl⟩ HP (ρ (hQ _ λb o hb y=>?_)))
  rw[ϗ _ _ (o0 (by simp only[Ϧ];exact F0 (ω y)))]
  exact μ _ (μ _ y)
end
structure yg(P:υ)(w:Κ)(K:Frag)(e:Addr)(tg:Expr)(J:It)(fp:List Addr)(it:Addr)(tn:Nat->Heap->Prop):Prop where
 mem:it∈fp
 obj:∀i h,tn i h->∀b∈fp,∃o,h.get? b=some o/\∀v,o.data≠.cell v
 keep:∀i h h',tn i h->(∀b∈fp,∀o,h.get? b=some o->h'.get? b=some o)->tn i h'
 item:∀(X:Cx),X.prog=P->X.w=w->X.K=K->X.A.handled=some (.ref e)->∀(i:Nat)(pins:List (Addr×Obj))(s:η)(σ:St)(H:Hp)(E:ε->η->Prop),Inv X pins σ H s->(∀b∈fp,gb X pins H b)->tn i s.heap->J.go i H ->
  wpAny (model P w) X.A (pyNext (.ref it)) (λr s1=>∃u,r=some u /\
   wpAny (model P w) X.A (letOwnedTupleGo tg (.ref it) u) (λ_ s2=>∃x H',Inv X pins σ H' s2/\aL x u/\J.yld i H x H'/\tn (i+1) s2.heap/\∀b∈fp,H' b=none) E s1) E s
 done:∀(X:Cx),X.prog=P->X.w=w->X.K=K->X.A.handled=some (.ref e)->∀(i:Nat)(pins:List (Addr×Obj))(s:η)(σ:St)(H:Hp)(E:ε->η->Prop),Inv X pins σ H s->(∀b∈fp,gb X pins H b)->tn i s.heap->J.stop i H ->
  wpAny (model P w) X.A (pyNext (.ref it)) (λr s1=>r=none/\Inv X pins σ H s1) E s
 self:∀(A:Υ)(i:Nat)(s:η)(Q:ε->η->Prop)(E:ε->η->Prop),tn i s.heap->Q (.ref it) s->wpAny (model P w) A (pyIter (.ref it)) Q E s
def FG(X:Cx)(e:Addr)(pins:List (Addr×Obj))(σ:St)(tg:Expr)(R:It->Hp->Prop)(itv:ε)(s2:η):Prop:=
 ∃(it:Addr) (fp:List Addr) (tn:Nat->Heap->Prop) (J:It) (H':Hp),itv=.ref it/\Inv X pins σ H' s2/\yg X.prog X.w X.K e tg J fp it tn/\tn 0 s2.heap/\(∀b∈fp,gb X pins H' b)/\R J H'
def PIH(X:Cx)(e:Addr)(tg iter:Expr)(wi:TI):Prop:=
 ∀(pins:List (Addr×Obj))(s:η)(σ:St)(H:Hp)(R:It->Hp->Prop),Inv X pins σ H s->wi σ H R ->
  wpAny (model X.prog X.w) X.A (eval iter X.env) (λv s1=>wpAny (model X.prog X.w) X.A (pyIter v) (FG X e pins σ tg R) X.xe s1) X.xe s
def EV(e C dx:Addr)(n:Nat):It:=⟨λi H=>i<n/\H e=some (Xh C dx e),λi H x H'=>H'=H/\x=.int i,λi H=>n<=i/\H e=some (Xh C dx e)⟩
theorem rX{P:υ}{w:Κ}{K:Frag}{tg:Expr}(e C dx it:Addr)(n:Nat):yg P w K e tg (EV e C dx n) [it] it (λi h=>Gm h it (0+(i:Nat)*1) ((n:Int)-(i:Nat)) 1) where
 mem:=by simp
 obj:=λi h st b hb=>by
  have e:b=it:=by simpa using hb
  subst e
  exact⟨_,st,λv z=>by
   have z':HN _=Gb v:=z
   cases z'⟩
 keep:=λi h h' st k=>k it () _ st
 item:=by
  intro X hP hw hK hc i pins s σ H E I hf st hg
  subst hP hw hK
  obtain⟨f0,f1,f2,f3,f4,f5⟩:=hf it ()
  have hg:=hg.1
  refine wpAny_pyNext_range_item st () λh' hit' hs'=>?_
  have I1:Inv X pins σ H {s with heap:=h',toks:=s.toks+1}:=I.turned (λb o hb e=>hs'.extBut b o hb e) f0 f1 f3 f4 f5
  have st':Gm h' it (0+((i+1:Nat):Int)*1) ((n:Int)-((i+1:Nat):Int)) 1:=by
   have e1:(0:Int)+((i+1:Nat):Int)*1=0+(i:Int)*1+1:=by push_cast;omega
   have e2:(n:Int)-((i+1:Nat):Int)=(n:Int)-(i:Int)-1:=by push_cast;omega
   rw[e1,e2];exact hit'
  refine⟨_,rfl,qY (s:={s with heap:=h',toks:=s.toks+1}) (n:="range_iterator") st' rfl rfl () ⟨.int i,H,I1,⟨s.toks,?_⟩,⟨rfl,rfl⟩,st',λb hb=>(hf b hb).1⟩⟩
  rw[Int.mul_one,Int.zero_add]
 done:=by
  intro X hP hw hK hc i pins s σ H E I hf st hg
  subst hP hw hK
  obtain⟨f0,f1,f2,f3,f4,f5⟩:=hf it ()
  obtain⟨⟨ws,sl,ho,h2⟩,_⟩:=I.hok e _ hg.2
  exact sy hc ho rfl h2 st (by have:n<=i:=hg.1;omega) λh' eb=>⟨rfl,I.turned (t':=s.toks) (λb o hb e=>eb b o hb e) f0 f1 f3 f4 f5⟩
 self:=λ_ _ _ _ _ st h=>wpAny_pyIter_rangeiter st h
def DN(e:Addr)(ta:TA):TI:=λσ H R=>ta σ H λvs H1=>∃(j:Int) (C dx:Addr),vs=[.int j]/\0<=j/\j<2^62/\R (EV e C dx j.toNat) H1
section
variable{X:Cx}{tg:Expr}{e:Addr}
theorem wD{a:Expr}{ta:TA}{p pos:Pos}(hg:Gl X "range")(hm:X.mg "range"=none)(ha:PA X [a] ta)(hs:starEach [a] X.env=[(false,eval a X.env)]:=by rfl):PIH X e tg (.Call (.Name "range" p) [a] [] pos) (DN e ta):=by
 intro pins s σ H R I h
 refine Call_ (eA I hg hm boot_range (e6 (thn (ha pos pins s σ H _ I h) λus s1 ⟨vs,H1,I1,r1,q1⟩=>?_) hs rfl))
 obtain⟨j,C,dx,ee,q1,q2,q⟩:=q1
 subst ee
 cases r1 with
 |cons r rr=>
  cases rr
  obtain⟨t,rfl⟩:=r
  refine call_range_1 ?_
  refine wpAny_pyIter_range (IsRange.new ..) (small_one () () () ()) ?_
  generalize hh:s1.heap.push _=h1
  have I2:Inv X pins σ H1 {s1 with heap:=h1,toks:=s1.toks+2}:=I1.kept λb o e=>by rw[<-hh];exact μ _ e
  refine⟨h1.objs.size,[h1.objs.size],_,_,H1,rfl,I2.kept (t':=s1.toks+2) λb o e=>μ _ e,rX e C dx _ j.toNat,?_,λb hb=>?_,q⟩
  ·have e1:(0:Int)+((0:Nat):Int)*1=0:=by simp
   have e2:((j.toNat:Nat):Int)-((0:Nat):Int)=e_.Range.rangeSize 0 j 1:=by rw[rangeSize_one];split<;>omega
   show Gm _ _ (0+((0:Nat):Int)*1) (((j.toNat:Nat):Int)-((0:Nat):Int)) 1
   rw[e1,e2]
   exact Β _ rfl
  ·have e:b=h1.objs.size:=by simpa using hb
   subst e
   exact I2.fpOk (θ _) (I2.hok.fresh (θ _))
end
section
variable{X:Cx}{pins:List (Addr×Obj)}{σ:St}{H:Hp}{s:η}{scope:C3}{own:List Str}{ix:List Nat}{fp:List Addr}
theorem wH{e:Addr}{elt tg iter:Expr}{ifs:List Expr}{pos:Pos}{it:Addr}{tn:Nat->Heap->Prop}{J:It}{g:TG}{tt:TT}{te:TE}{E:ε->η->Prop}{Qf:List V->Hp->Prop}{RR:ε->Addr->Ht->η->Prop}
  (L:cE X.N X.env.scope scope own ix) (hc:X.A.handled=some (.ref e)) (hg:∀fp s H,PG (X.comp (lcN X.N own ix) scope fp s H) tg g) (gw:GW own.length g)
  (ht:∀fp s H,PIf (X.comp (lcN X.N own ix) scope fp s H) ifs tt) (he:∀fp s H,PE (X.comp (lcN X.N own ix) scope fp s H) elt te)
  (I:Inv X pins σ H s) (T:yg X.prog X.w X.K e tg J fp it tn) (st:tn 0 s.heap) (hf:∀b∈fp,gb X pins H b)
  (hw:rLC J own.length ix g tt te σ H Qf)
  (hRR:∀(D C:Addr)(s':η)(ys:List V)(H':Hp)(m:Str->Option ε),s'.heap.Ns C m->C≠X.env.locals->(∀x c,X.env.cells.lookup x=some c->c≠C)->X.s₀.heap.objs.size<=C->(∀p∈X.pn++pins,p.1≠C)->upd H' D (.lst ys) C=none->H' D=none ->
   Inv X pins σ (upd H' D (.lst ys)) s'->Qf ys H'->RR (.ref D) C (.ok .next) s'):
  wpAny (model X.prog X.w) X.A (newList []) (λacc s₃=>wpAny (model X.prog X.w) X.A (newFunctionEnv scope X.env.globals (aJ X.env scope.names []) [] X.env.qual none .none (some X.env)) (λcenv s₄=>
   codeAny (model X.prog X.w) X.A (.compStart (.ListComp elt [⟨tg,iter,ifs,0⟩] scope pos) 0 (.ref it) acc {cenv with scope:=relabel scope X.env}) (RR acc cenv.locals) s₄) E s₃) E s:=by
 obtain⟨W,⟨m0,w0⟩,turn⟩:=hw
 have hlt:∀b∈fp,b<s.heap.objs.size:=λb hb=>by
  obtain⟨o,e,_⟩:=T.obj 0 s.heap st b hb
  exact ω e
 refine ϝ (wpAny_newFunctionEnv L.nocell (by intro y hy;simp at hy) (λh₁ hns₁ hsb₁=>?_) L.kind)
 dsimp only at hns₁ hsb₁⊢
 generalize hH2:s.heap.push {cls:=.type "list",dict:=none,data:=.seq ([]:List ε).toArray}=h2 at hns₁ hsb₁⊢
 have hC:h2.objs.size=s.heap.objs.size+1:=by rw[<-hH2,Ϧ]
 have old:∀b o,s.heap.get? b=some o->h₁.get? b=some o:=λb o e=>by
  exact hsb₁.extBut b o (by rw[hC];exact nX (ω e)) (μ _ (hH2▸μ _ e))
 have hacc:h₁.PlainList s.heap.objs.size #[]:=⟨_,hsb₁.extBut _ _ (by rw[hC];exact nss _) (μ _ (hH2▸Β _ rfl))⟩
 have hD0:H s.heap.objs.size=none:=I.hok.fresh (θ _)
 rw[hC]at hns₁
 have I0:=I.compStart (tk:=s.toks+([]:List (Str×ε)).length) L hf hlt old hns₁
 have sub:=λx c=>bj (env:=X.env) scope.names [] (λ_ _ z=>by simp at z) x c
 have cellLt:∀x c,X.env.cells.lookup x=some c->c<s.heap.objs.size:=λx c e=>by
  obtain⟨v,q⟩:=I.cell x c e
  exact q.lt
 have stkLt:∀b∈frs X.stack,b<s.heap.objs.size:=λb hb=>by
  obtain⟨_,o,ho,_⟩:=I.stack.mem hb
  exact ω ho
 have env_eq:({newEnv scope h2.objs.size X.env.globals (aJ X.env scope.names []) X.env.qual none .none (some X.env) builtinsNs with scope:=relabel scope X.env}:Env)=(X.comp (lcN X.N own ix) scope fp s H).env:=by
  show compEnvC scope (aJ X.env scope.names []) h2.objs.size X.env=compEnvC scope (aJ X.env scope.names []) (s.heap.objs.size+1) X.env
  rw[hC]
 have loop:codeAny (model X.prog X.w) X.A (.compLoop (.ListComp elt [⟨tg,iter,ifs,0⟩] scope pos) 0 (.ref it) (.ref s.heap.objs.size) (X.comp (lcN X.N own ix) scope fp s H).env) (RR (.ref s.heap.objs.size) (s.heap.objs.size+1))
   {s with heap:=h₁,toks:=s.toks+([]:List (Str×ε)).length}:=by
  refine vH (λn s'=>∃i ys H',Inv (X.comp (lcN X.N own ix) scope fp s H) [] (cX own.length ix σ) H' s'/\tn i s'.heap/\(∀b∈fp,H' b=none)/\H' s.heap.objs.size=none /\
   (∃its:List ε,aw ys its/\s'.heap.PlainList s.heap.objs.size its.toArray)/\ys.length<=sizeLine/\W i n ys H') ?_ m0
   ⟨0,[],H,I0,T.keep _ _ _ st (λb _ o e=>old b o e),λb hb=>(hf b hb).1,hD0,⟨[],.nil,hacc⟩,ϖ _,w0⟩
  rintro n s3 ⟨i,ys,H3,I3,st3,fr3,d3,⟨its,rv,n3,hp3⟩,hz,w3⟩
  have Ip:=I3.pins_of (pins':=[(s.heap.objs.size,{cls:=.type "list",data:=.seq its.toArray n3})]) (λp hp=>by
   have e:p=(s.heap.objs.size,{cls:=.type "list",data:=.seq its.toArray n3}):=by simpa using hp
   subst e
   exact⟨hp3,d3,nss _,λz=>absurd (stkLt _ z) (r_ _),λv z=>by cases z⟩)
  have stat:∀{H':Hp},(∀b∈fp,H' b=none)->∀b∈fp,gb (X.comp (lcN X.N own ix) scope fp s H) [(s.heap.objs.size,{cls:=.type "list",data:=.seq its.toArray n3})] H' b:=λhn b hb=>
   ⟨hn b hb,nX (hlt b hb),I3.ok.exfs b hb,.inl hb,λx c e=>(I3.ok.exf b hb).2 x c e,λp hp=>by
    have e:p=(s.heap.objs.size,{cls:=.type "list",data:=.seq its.toArray n3}):=by simpa using(show p∈([]:List (Addr×Obj))++[(s.heap.objs.size,{cls:=.type "list",data:=.seq its.toArray n3})]from hp)
    subst e
    exact ngt (hlt b hb)⟩
  rcases turn i n ys H3 w3 with ⟨stop,qf⟩|⟨go,N,hN,step⟩
  ·refine thn (T.done (X.comp (lcN X.N own ix) scope fp s H) rfl rfl rfl hc i _ s3 _ H3 _ Ip (stat fr3) st3 stop) λr s4 ⟨hr,I4⟩=>?_
   subst hr
   obtain⟨e4,d4,_⟩:=I4.pin (s.heap.objs.size,{cls:=.type "list",data:=.seq its.toArray n3}) (Ο _ ν)
   obtain⟨mC,hnC,_⟩:=I4.loc
   have hok:HOk X.prog X.w (upd H3 s.heap.objs.size (.lst ys)) s4.heap:=λb u e=>by
    by_cases hb:b=s.heap.objs.size
    ·subst hb
     rw[aa]at e
     cases e
     exact⟨hz,its,n3,rv,e4⟩
    ·rw[ai hb]at e
     exact(I4.hok b u e).stay (λc v _ q=>q) (λc q=>by rw[ai (ao q d4)];exact q) λc xs q=>by rw[ai (ao q d4)];exact q
   have ub:=I4.base
   have un:Un (frs X.stack) fp H (upd H3 s.heap.objs.size (.lst ys)) s.heap s4.heap:=
    ⟨ub.keep,ub.slot,λb o e n hx=>by rw[ai (ϑ (ω e))];exact ub.free b o e n hx,ub.there,
     λb xs e=>by rw[ai (ao (ub.tups b xs e) d4)];exact ub.tups b xs e,λb o u e=>by rw[ai (ao (ub.frzs b o u e) d4)];exact ub.frzs b o u e,
     λb ps e=>by
      obtain⟨more,q⟩:=ub.tbls b ps e
      exact⟨more,by rw[ai (ao q d4)];exact q⟩⟩
   have I5:Inv X pins σ (upd H3 s.heap.objs.size (.lst ys)) s4:=I.call' I4.os un hok I4.bare λb hb=>by
    obtain⟨f0,f1,f2,f3,f4,f5⟩:=hf b hb
    exact⟨f3,f1,f4,f5⟩
   refine hRR _ _ s4 ys H3 mC hnC ?_ ?_ ?_ ?_ ?_ d4 I5 qf
   ·exact Ev I.lt
   ·intro x c e
    exact nX (cellLt x c e)
   ·exact ϕ I.sz (B5 _)
   ·intro p hp
    exact nX (ω (I.pin p hp).1)
   ·rw[ai (EZ _)]
    exact I4.free
  ·refine thn (T.item (X.comp (lcN X.N own ix) scope fp s H) rfl rfl rfl hc i _ s3 _ H3 _ Ip (stat fr3) st3 go) λr s4 ⟨u,hr,h4⟩=>?_
   subst hr
   refine thn h4 λ_ s5 ⟨x,H5,I5,r5,y5,st5,fr5⟩=>?_
   have I5':=I5.pinned (stat fr5) (T.obj _ _ st5)
   refine thn (hg fp s H _ s5 _ H5 x u _ I5' r5 (gw _ _ _ _ (step x H5 y5))) λ_ s6 ⟨σ6,H6,I6,q6,l6,k6⟩=>?_
   refine thn (ht fp s H _ s6 σ6 H6 _ I6 q6) λc s7 ⟨H7,I7,q7⟩=>?_
   have again:∀{s8:η}{H8:Hp},Inv (X.comp (lcN X.N own ix) scope fp s H) ([(s.heap.objs.size,{cls:=.type "list",data:=.seq its.toArray n3})]++iU fp s5.heap) σ6 H8 s8 ->
     Inv (X.comp (lcN X.N own ix) scope fp s H) [] (cX own.length ix σ) H8 s8/\tn (i+1) s8.heap/\(∀b∈fp,H8 b=none)/\H8 s.heap.objs.size=none/\s8.heap.get? s.heap.objs.size=some {cls:=.type "list",data:=.seq its.toArray n3}:=λ{s8 H8} I8=>by
    obtain⟨e8,d8,_⟩:=I8.pin (s.heap.objs.size,{cls:=.type "list",data:=.seq its.toArray n3}) (Ο _ (f_ _ ν))
    refine⟨(I8.pins_of (pins':=[]) λp hp=>by cases hp).weak l6.symm λj v e=>?_,T.keep _ _ _ st5 λb hb o e=>(I8.pin (b,o) (Ο _ (Ο _ (cw hb e)))).1,λb hb=>?_,d8,e8⟩
    ·obtain⟨i',j',rfl,_,_⟩:=iA e
     rw[k6 _ (Ϸ _ _)]
     exact e
    ·obtain⟨o,e,d⟩:=T.obj _ _ st5 b hb
     exact(I8.pin (b,o) (Ο _ (Ο _ (cw hb e)))).2.1
   cases c with
   |false=>
    rw[Q6 Ζ]at q7⊢
    obtain⟨m',hm,w7⟩:=hN _ _ q7
    obtain⟨a1,a2,a3,a4,a5⟩:=again I7
    exact⟨m',hm,i+1,ys,H7,a1,a2,a3,a4,⟨its,rv,n3,a5⟩,hz,w7⟩
   |true=>
    rw[Q5 rfl]at q7⊢
    refine thn (he fp s H _ s7 σ6 H7 _ I7 q7) λv s8 ⟨y,H8,I8,r8,hz8,q8⟩=>?_
    obtain⟨m',hm,w8⟩:=hN _ _ q8
    obtain⟨a1,a2,a3,a4,a5⟩:=again I8
    refine wpAny_list_append_plain (s:=s8) (l:=s.heap.objs.size) (items:=its.toArray) ⟨n3,a5⟩ (λh9 hl9 hs9=>?_) (by have:=rv.length;simp;omega)
    have I9:Inv (X.comp (lcN X.N own ix) scope fp s H) [] (cX own.length ix σ) H8 {s8 with heap:=h9}:=a1.turned (t':=s8.toks) (it:=s.heap.objs.size) (λb o hb e=>hs9.extBut b o hb e) a4 (nss _)
     (.inr (θ _)) (λx c e=>nlt (cellLt x c (sub x c e))) (λp hp=>absurd (show p∈([]:List (Addr×Obj))from hp) ())
    refine⟨m',hm,i+1,ys++[y],H8,I9,T.keep _ _ _ a2 (λb hb o e=>hs9.extBut b o (nlt (hlt b hb)) e),a3,a4,⟨its++[v],aw.append rv (.cons r8 .nil),?_⟩,?_,w8⟩
    ·have e:(its++[v]).toArray=its.toArray.push v:=by simp
     rw[e]
     exact hl9
    ·rw[Ε]
     show _+1<=_
     omega
 show codeAny _ _ (.compStart _ 0 (.ref it) (.ref s.heap.objs.size) _) (RR (.ref s.heap.objs.size) h2.objs.size) _
 rw[hC]
 have e2:=env_eq
 rw[hC]at e2
 refine Eq.mpr (congrArg (λe=>codeAny (model X.prog X.w) X.A (.compStart (.ListComp elt [⟨tg,iter,ifs,0⟩] scope pos) 0 (.ref it) (.ref s.heap.objs.size) e) (RR (.ref s.heap.objs.size) (s.heap.objs.size+1)) {s with heap:=h₁,toks:=s.toks+([]:List (Str×ε)).length}) e2) ?_
 exact codeAny_compStart_list loop (T.self X.A 0 _ _ _ (T.keep _ _ _ st λb _ o e=>old b o e) loop)
theorem Ck{a:Addr}{elt tg iter:Expr}{ifs:List Expr}{pos:Pos}{wi:TI}{g:TG}{tt:TT}{te:TE}(hi:PIH X a tg iter wi)(L:cE X.N X.env.scope scope own ix)(hc:X.A.handled=some (.ref a))
  (hg:∀fp s H,PG (X.comp (lcN X.N own ix) scope fp s H) tg g) (gw:GW own.length g) (ht:∀fp s H,PIf (X.comp (lcN X.N own ix) scope fp s H) ifs tt) (he:∀fp s H,PE (X.comp (lcN X.N own ix) scope fp s H) elt te)
  (hs:∀x,foldedSetIterable iter X.env x=pure x:=by intro _;rfl):PE X (.ListComp elt [⟨tg,iter,ifs,0⟩] scope pos) (tLC wi own.length ix g tt te):=by
 intro pins s σ H Q I h
 rw[eval_ListComp]
 refine C8 (use:=none) rfl hs (I.clos L) L.kind L.names (thn (hi pins s σ H _ I h) λv s1 h1=>thn h1 λitv s2 h2=>?_)
 obtain⟨it,fp,tn,J,H2,e,I2,T,st2,f2,hw⟩:=h2
 subst e
 refine wH (RR:=λacc C=>compPost (model X.prog X.w) X.A X.xe none (EP X pins σ Q) acc C) L hc hg gw ht he I2 T st2 f2 hw ?_
 intro D C s' ys H' m hn c1 c2 c3 c4 c5 d I' q
 exact⟨m,hn,λh' hs'=>⟨.ref D,_,I'.turned (t':=s'.toks) (it:=C) (λb o hb e=>hs'.extBut b o hb e) c5 c1 (.inr c3) c2 c4,rfl,q D d⟩⟩
end
open PySem PySem.Spec PyProof.Rows PySem.W
theorem vP{x:Bool}:fZ 0 (.bl x):=λX pins σ H s I A v w a b hu r1 r2 q1 q2=>by
 simp only[Rep]at r1 r2
 subst r1 r2
 obtain rfl:a=E2 x:=q1
 obtain rfl:b=E2 x:=q2
 exact HI _
section
variable{X:Cx}
theorem zK(hu:X.A.units+8<cLine):OpR X (compareOp .Eq) (λx y H Q=>∃ds:List Dv,Rep H (.lst ds) x/\Rep H (.lst ds) y/\(∀d∈ds,fZ 6 d)/\Q (.bl true) H):=by
 intro pins s σ H x y v u Q I rx ry h
 obtain⟨ds,r1,r2,hd,q⟩:=h
 simp only[Rep]at r1 r2
 obtain⟨l,vs,rfl,h1,rs1⟩:=r1
 obtain⟨b',ws,rfl,h2,rs2⟩:=r2
 cases rx
 cases ry
 obtain⟨its,rv1,p1,_⟩:=I.list (SqL.of h1)
 obtain⟨its2,rv2,p2,_⟩:=I.list (SqL.of h2)
 have hu':X.A.in1.units+6<cLine:=by show X.A.units+1+6<cLine;omega
 obtain⟨z,w⟩:=eF I (A:=X.A.in1) hd hu' rs1 rs2 rv1 rv2
 refine Hw.lists (e:=λ_=>true) p1.isList p2.isList z () w X.prog X.w X.xe _ ?_
 refine⟨.bl true,H,I,?_,q⟩
 show E2 _=E2 true
 simp[z]
end
theorem zm{P:υ}{w:Κ}{K:Frag}{mg:Str->Option ε}{base:Heap}{k:Nat}{f:Addr}{fd:Γ}{ps:List Str}{sp sp':Sp}(F:ap P w K mg base (CXe P w) k f fd ps sp)(h:∀vs H Q E,sp' vs H Q E->sp vs H Q E0):ap P w K mg base CX0 k f fd ps sp':=
 ⟨λvs H Q E q=>F.len vs H Q E0 (h _ _ _ _ q),λA outer s H args us vs Q E hr he hb hv hs=>A6 (F.run A outer s H args us vs Q E0 hr he hb hv (h _ _ _ _ hs)) λr s' hq=>by
  cases r with
  |ok fl=>cases fl with
   |ret u=>exact hq
   |next=>exact ϟ hq
   |brk=>exact ϟ hq
   |cont=>exact ϟ hq
  |error e=>obtain⟨_,_,_,_,_,_,_,_,_,_,_,_,_,_,_,z⟩:=hq;exact z.elim⟩
end L2.EX
namespace L2
open PySem PySem.Spec PyProof.Rows PySem.W
section
variable{X:Cx}
end
end L2
namespace WR
open PySem L2 L2.EX
structure Bx(p:Prop):Prop where
 h:p
theorem au{p:Prop}(h:p):autoParam p Lean.Syntax.missing:=h
def okV(N:List Str)(sc:C3)(i:Nat)(x:Str):Bool:=decide (N[i]?=some x)&&((sc.names.lookup x==some .local||sc.names.lookup x==some .cell||sc.names.lookup x==some .free)&&(x==("__debug__" : Str)||x==("__classdict__" : Str))==false)
theorem wv{X:Cx}(i:Nat){x:Str}{pos:Pos}(h:okV X.N X.env.scope i x=true):Bx (PE X (.Name x pos) (fY i)):=by
 simp only[okV,ο,Bool.or_eq_true,decide_eq_true_eq,beq_iff_eq]at h
 obtain⟨a,b,c⟩:=h
 have c1:=Bool.or_eq_false_iff.mp c
 exact⟨pv i a (by rcases b with (b|b)|b;exact .inl b;exact .inr (.inl b);exact .inr (.inr b)) c1.1 c1.2⟩
def wab:=λ{v0 v1 v2} (v3:Bx _)=>Bx.mk (@L2.PW.pt v0 v1 v2 v3.h)
def wac:=λ{v0 v1 v2 v3 v4 v5 v6 v7} (v8:Bx _) (v9:Bx _) (v10:Bx _)=>Bx.mk (@L2.pe_ifExp v0 v1 v2 v3 v4 v5 v6 v7 v8.h v9.h v10.h)
def wae:=λ{v0 v1 v2 v3 v4} (v5:Bx _) (v6:Bx _) v7=>Bx.mk (@L2.pa_cons v0 v1 v2 v3 v4 v5.h v6.h (au v7))
def waf:=λ{v0}=>Bx.mk (@L2.pa_nil v0)
def wag:=λ{v0 v1 v2 v3 v4 v5 v6} (v7:Bx _) (v8:Bx _)=>Bx.mk (@L2.pe_and v0 v1 v2 v3 v4 v5 v6 v7.h v8.h)
def wah:=λ{v0 v1 v2 v3}=>Bx.mk (@L2.pe_bl v0 v1 v2 v3)
def wai:=λ{v0 v1 v3 v4} v2 v5 v6 v7 v8 v9 v10=>Bx.mk (@L2.pe_bltn v0 v1 v2 v3 v4 v5 v6 v7 v8 (au v9) (au v10))
def waj:=λ{v0 v1 v2 v3 v4 v5 v6 v7 v8 v9 v10 v11} v12 v13 v14 v15 (v16:Bx _) (v17:Bx _) v18 v19 v20 v21 v22=>Bx.mk (@L2.pe_bm v0 v1 v2 v3 v4 v5 v6 v7 v8 v9 v10 v11 v12 v13 v14 v15 v16.h v17.h (au v18) (au v19) (au v20) (au v21) (au v22))
def wak:=λ{v0 v1 v2 v3 v4 v5 v6 v7 v8} v9 v10 v11 v12 (v13:Bx _) v14 v15=>Bx.mk (@L2.pe_bm0 v0 v1 v2 v3 v4 v5 v6 v7 v8 v9 v10 v11 v12 v13.h (au v14) (au v15))
def wal:=λ{v0 v1 v2 v3 v4 v5 v6 v7 v8} v9 v10 v11 v12 (v13:Bx _) v14 v15 v16 v17=>Bx.mk (@L2.pe_callB v0 v1 v2 v3 v4 v5 v6 v7 v8 v9 v10 v11 v12 v13.h (au v14) (au v15) (au v16) (au v17))
def wam:=λ{v0 v1 v2 v3 v4 v5 v6 v7 v8} v9 v10 v11 v12 (v13:Bx _) v14 v15 v16 v17=>Bx.mk (@L2.pe_callTy v0 v1 v2 v3 v4 v5 v6 v7 v8 v9 v10 v11 v12 v13.h (au v14) (au v15) (au v16) (au v17))
def wan:=λ{v0 v1 v2 v3 v4 v5 v6 v7 v8 v9 v10 v11} v12 v13 v14 v15 v16 (v17:Bx _) v18 v19 v20 v21 v22 v23=>Bx.mk (@L2.pe_callV v0 v1 v2 v3 v4 v5 v6 v7 v8 v9 v10 v11 v12 v13 v14 v15 v16 v17.h (au v18) (au v19) (au v20) (au v21) (au v22) (au v23))
def wao:=λ{v0 v1 v2 v3 v4 v5 v6 v7 v8 v9 v10 v11} v12 v13 (v14:Bx _) (v15:Bx _) (v16:Bx _) v17=>Bx.mk (@L2.pe_chain v0 v1 v2 v3 v4 v5 v6 v7 v8 v9 v10 v11 v12 v13 v14.h v15.h v16.h (au v17))
def wap:=λ{v0 v1 v2 v3 v4 v5 v6 v7} v8 (v9:Bx _) (v10:Bx _) v11=>Bx.mk (@L2.pe_cmpR v0 v1 v2 v3 v4 v5 v6 v7 v8 v9.h v10.h v11)
def waq:=λ{v0 v1 v2 v3 v4 v5 v6 v7 v8 v9} v10 v11 v12 (v13:Bx _) v14 v15 v16=>Bx.mk (@L2.pe_def v0 v1 v2 v3 v4 v5 v6 v7 v8 v9 v10 v11 v12 v13.h (au v14) (au v15) (au v16))
def was:=λ{v0 v1 v2 v3 v4 v5} (v6:Bx _)=>Bx.mk (@L2.pe_fstr v0 v1 v2 v3 v4 v5 v6.h)
def wat:=λ{v0 v1 v2 v3} (v4:Bx _)=>Bx.mk (@L2.pe_fv v0 v1 v2 v3 v4.h)
def wau:=λ{v0 v1 v2 v3 v4} (v5:Bx _) (v6:Bx _)=>Bx.mk (@L2.pf_cons v0 v1 v2 v3 v4 v5.h v6.h)
def wav:=λ{v0}=>Bx.mk (@L2.pf_nil v0)
def waB:=λ{v0 v1 v3 v4} v2 v5 v6 v7 v8=>Bx.mk (@L2.pe_glob v0 v1 v2 v3 v4 v5 v6 v7 (au v8))
def waC:=λ{v0 v1 v2 v3}=>Bx.mk (@L2.pe_int v0 v1 v2 v3)
def waD:=λ{v0 v1 v2 v3 v4 v5 v6} v7 (v8:Bx _) (v9:Bx _) v10=>Bx.mk (@L2.pe_ix v0 v1 v2 v3 v4 v5 v6 v7 v8.h v9.h v10)
def waE:=λ{v0 v1 v4 v5 v6 v7 v8 v9 v10 v11 v12} v2 v3 (v13:Bx _) v14 v15 (v16:∀x0 x1 x2,Bx _) v17 (v18:∀x0 x1 x2,Bx _) (v19:∀x0 x1 x2,Bx _) v20=>Bx.mk (@L2.pe_lc v0 v1 v2 v3 v4 v5 v6 v7 v8 v9 v10 v11 v12 v13.h v14 v15 (λx0 x1 x2=>(v16 x0 x1 x2).h) v17 (λx0 x1 x2=>(v18 x0 x1 x2).h) (λx0 x1 x2=>(v19 x0 x1 x2).h) (au v20))
def waG:=λ{v0 v1 v2 v3 v4} (v5:Bx _) v6=>Bx.mk (@L2.pe_fld v0 v1 v2 v3 v4 v5.h v6)
def waH:=λ{v0 v1 v2 v3 v4 v5 v6 v7} (v8:Bx _) (v9:Bx _) v10=>Bx.mk (@L2.ps_fld v0 v1 v2 v3 v4 v5 v6 v7 v8.h v9.h v10)
def waI:=λ{v0 v1 v2 v3 v4 v5 v6 v7 v8 v9} (v10:Bx _) (v11:Bx _) v12=>Bx.mk (@L2.ps_fldaug v0 v1 v2 v3 v4 v5 v6 v7 v8 v9 v10.h v11.h v12)
def waJ:=λ{v0 v1 v2 v3 v4 v5 v6 v7 v8 v9 v10 v11 v12 v13 v14 v15 v16 v17 v18 v19} (v20:Bx _) v21 v22 v23 v24 v25 v26 v27 (v28:Bx _) v29 v30 v31=>Bx.mk (@L2.pe_meth v0 v1 v2 v3 v4 v5 v6 v7 v8 v9 v10 v11 v12 v13 v14 v15 v16 v17 v18 v19 v20.h v21 v22 v23 v24 v25 v26 v27 v28.h (au v29) (au v30) (au v31))
def waK:=λ{v0 v1 v2 v3 v4 v5 v6 v7 v8 v9 v10 v11 v12 v13 v14 v15 v16} v17 v18 v19 v20 v21 v22 v23 v24 (v25:Bx _) v26 v27 v28=>Bx.mk (@L2.pe_make v0 v1 v2 v3 v4 v5 v6 v7 v8 v9 v10 v11 v12 v13 v14 v15 v16 v17 v18 v19 v20 v21 v22 v23 v24 v25.h (au v26) (au v27) (au v28))
def waL:=λ{v0 v1 v2 v3 v4 v5 v6 v7 v8 v9 v10 v11 v12 v13 v14 v15 v16} (v17:Bx _) v18 v19 v20 v21 v22 v23 v24 v25=>Bx.mk (@L2.pe_meth0 v0 v1 v2 v3 v4 v5 v6 v7 v8 v9 v10 v11 v12 v13 v14 v15 v16 v17.h v18 v19 v20 v21 v22 v23 v24 (au v25))
def waM:=λ{v0 v1 v2 v3} (v4:Bx _)=>Bx.mk (@L2.pe_lst v0 v1 v2 v3 v4.h)
def waN:=λ{v0 v1 v2}=>Bx.mk (@L2.pe_non v0 v1 v2)
def waO:=λ{v0 v1 v2 v3} (v4:Bx _)=>Bx.mk (@L2.pe_not v0 v1 v2 v3 v4.h)
def waP:=λ{v0 v1 v2 v3 v4} (v5:Bx _)=>Bx.mk (@L2.pe_one v0 v1 v2 v3 v4 v5.h)
def waQ:=λ{v0 v1 v2 v3 v4 v5 v6 v7} v8 (v9:Bx _) (v10:Bx _)=>Bx.mk (@L2.pe_op v0 v1 v2 v3 v4 v5 v6 v7 v8 v9.h v10.h)
def waR:=λ{v0 v1 v2 v3 v4 v5 v6} (v7:Bx _) (v8:Bx _)=>Bx.mk (@L2.pe_or v0 v1 v2 v3 v4 v5 v6 v7.h v8.h)
def waT:=λ{v0 v1 v2 v3 v4 v5 v6 v7 v8 v9} v10 (v11:Bx _) (v12:Bx _) (v13:Bx _)=>Bx.mk (@L2.pe_slice v0 v1 v2 v3 v4 v5 v6 v7 v8 v9 v10 v11.h v12.h v13.h)
def waV:=λ{v0 v1 v2 v3}=>Bx.mk (@L2.pe_str v0 v1 v2 v3)
def waX:=λ{v0 v1 v2 v3 v4} (v5:Bx _)=>Bx.mk (@L2.pe_tup v0 v1 v2 v3 v4 v5.h)
def waY:=λ{v0 v1 v2 v3 v4 v5} v6 (v7:Bx _)=>Bx.mk (@L2.pe_un v0 v1 v2 v3 v4 v5 v6 v7.h)
def waZ:=λ{v0 v1 v3} v2 v4 v5 v6 v7=>Bx.mk (@L2.pg_name v0 v1 v2 v3 v4 v5 v6 (au v7))
def wba:=λ{v0 v1 v2 v3 v4 v5 v6} (v7:Bx _) (v8:Bx _) v9 v10=>Bx.mk (@L2.pg_sub v0 v1 v2 v3 v4 v5 v6 v7.h v8.h v9 (au v10))
def wbb:=λ{v0 v1 v2 v3 v4 v5} v6 (v7:Bx _) v8 v9=>Bx.mk (@L2.pg_tup v0 v1 v2 v3 v4 v5 v6 v7.h (au v8) (au v9))
def wbd:=λ{v0 v1 v2 v3 v4} (v5:Bx _) (v6:Bx _) v7=>Bx.mk (@L2.pgs_cons v0 v1 v2 v3 v4 v5.h v6.h (au v7))
def wbe:=λ{v0}=>Bx.mk (@L2.pgs_nil v0)
def wbi:=λ{v0 v1 v2 v3} (v4:Bx _)=>Bx.mk (@L2.pi_list v0 v1 v2 v3 v4.h)
def wbk:=λ{v0 v1 v2 v3 v4 v5} v6 v7 (v8:Bx _) v9=>Bx.mk (@L2.pi_range1 v0 v1 v2 v3 v4 v5 v6 v7 v8.h (au v9))
def wbl:=λ{v0 v1 v2 v3 v4 v5 v6} v7 v8 (v9:Bx _) v10 v11=>Bx.mk (@L2.pi_range2 v0 v1 v2 v3 v4 v5 v6 v7 v8 v9.h (au v10) (au v11))
def wbn:=λ{v0 v1 v2 v3} (v4:Bx _)=>Bx.mk (@L2.pi_str v0 v1 v2 v3 v4.h)
def wbo:=λ{v0 v1 v2 v3} (v4:Bx _)=>Bx.mk (@L2.pi_tup v0 v1 v2 v3 v4.h)
def wbs:=λ{v0 v1 v2 v3 v4 v5 v6 v7 v8} v9 v10 (v11:Bx _) v12 v13=>Bx.mk (@L2.pi_zipTT v0 v1 v2 v3 v4 v5 v6 v7 v8 v9 v10 v11.h (au v12) (au v13))
def wbu:=λ{v0 v1 v2 v3 v4 v5 v6 v7} v8 (v9:Bx _) (v10:Bx _) v11=>Bx.mk (@L2.pe_getF v0 v1 v2 v3 v4 v5 v6 v7 v8 v9.h v10.h v11)
def wbx:=λ{v0}=>Bx.mk (@L2.pif_nil v0)
def wbz:=λ{v0}=>Bx.mk (@L2.po_none v0)
def wbA:=λ{v0 v1 v2} (v3:Bx _)=>Bx.mk (@L2.po_some v0 v1 v2 v3.h)
def wbD:=λ{v0 v1 v2 v3 v4 v5} (v6:Bx _) (v7:Bx _) v8 v9 v10=>Bx.mk (@L2.ps_asg v0 v1 v2 v3 v4 v5 v6.h v7.h (au v8) (au v9) (au v10))
def wbE:=λ{v0 v1 v3 v4 v5 v6 v7 v8} v2 v9 v10 v11 (v12:Bx _) v13 v14=>Bx.mk (@L2.ps_aug v0 v1 v2 v3 v4 v5 v6 v7 v8 v9 v10 v11 v12.h v13 (au v14))
def wbG:=λ{v0 v1 v2 v3} (v4:Bx _) v5=>Bx.mk (@L2.ps_expr v0 v1 v2 v3 v4.h (au v5))
def wbH:=λ{v0 v1 v2 v3 v4 v5 v6 v7} v8 v9 (v10:Bx _) (v11:Bx _) (v12:Bx _) v13=>Bx.mk (@L2.ps_for v0 v1 v2 v3 v4 v5 v6 v7 v8 v9 v10.h v11.h v12.h (au v13))
def wbI:=λ{v0 v1 v2 v3 v4 v5 v6 v7} (v8:Bx _) (v9:Bx _) (v10:Bx _)=>Bx.mk (@L2.ps_if v0 v1 v2 v3 v4 v5 v6 v7 v8.h v9.h v10.h)
def wbJ:=λ{v0 v1 v4 v5 v6 v7 v8 v9 v10 v11 v12 v13 v14 v16} v2 v3 v15 v17 v18 v19 (v20:Bx _) v21 v22 (v23:∀x0 x1 x2,Bx _) v24 (v25:∀x0 x1 x2,Bx _) (v26:∀x0 x1 x2,Bx _) v27 v28=>Bx.mk (@L2.ps_lc v0 v1 v2 v3 v4 v5 v6 v7 v8 v9 v10 v11 v12 v13 v14 v15 v16 v17 v18 v19 v20.h v21 v22 (λx0 x1 x2=>(v23 x0 x1 x2).h) v24 (λx0 x1 x2=>(v25 x0 x1 x2).h) (λx0 x1 x2=>(v26 x0 x1 x2).h) (au v27) (au v28))
def wbK:=λ{v0 v1 v2 v3} (v4:Bx _)=>Bx.mk (@L2.ps_ret v0 v1 v2 v3 v4.h)
def wbM:=λ{v0 v1 v3 v4 v5 v6} v2 v7 v8 v9 (v10:Bx _) v11 v12=>Bx.mk (@L2.ps_set v0 v1 v2 v3 v4 v5 v6 v7 v8 v9 v10.h (au v11) (au v12))
def wbN:=λ{v0 v1 v2 v3 v4 v5} v6 (v7:Bx _) (v8:Bx _)=>Bx.mk (@L2.ps_while v0 v1 v2 v3 v4 v5 v6 v7.h v8.h)
def wbO:=λ{v0 v1 v2 v3 v4} (v5:Bx _) (v6:Bx _)=>Bx.mk (@L2.pss_cons v0 v1 v2 v3 v4 v5.h v6.h)
def wbP:=λ{v0}=>Bx.mk (@L2.pss_nil v0)
def wbQ:=λ{v0 v1 v2} (v3:Bx _)=>Bx.mk (@L2.pss_one v0 v1 v2 v3.h)
def wbR:=λ{v0 v1 v2 v3 v4 v5 v6 v7 v8 v9 v10 v11} v12 v13 (v14:Bx _) (v15:Bx _) (v16:Bx _) v17=>Bx.mk (@L2.pt_chain v0 v1 v2 v3 v4 v5 v6 v7 v8 v9 v10 v11 v12 v13 v14.h v15.h v16.h (au v17))
def wbS:=λ{v0 v1 v2 v3 v4 v5 v6 v7} v8 (v9:Bx _) (v10:Bx _) v11=>Bx.mk (@L2.pt_cmpR v0 v1 v2 v3 v4 v5 v6 v7 v8 v9.h v10.h v11)
def wbT:=λ{v0 v1 v2 v3} (v4:Bx _)=>Bx.mk (@L2.pt_not v0 v1 v2 v3 v4.h)
def wbU:=λ{v0 v1 v2} (v3:Bx _) v4=>Bx.mk (@L2.pt_truth v0 v1 v2 v3.h v4)
def wbV:=λ{v0 v1 v2} (v3:Bx _) v4=>Bx.mk (@L2.pt_val v0 v1 v2 v3.h (au v4))
def wbW:=λ{v0 v1 v2 v3 v4 v5 v6} (v7:Bx _) (v8:Bx _)=>Bx.mk (@L2.pw_and v0 v1 v2 v3 v4 v5 v6 v7.h v8.h)
def wbX:=λ{v0 v1 v2 v3} (v4:Bx _)=>Bx.mk (@L2.pw_and1 v0 v1 v2 v3 v4.h)
def wbY:=λ{v0 v1 v2 v3 v4 v5 v6} (v7:Bx _) (v8:Bx _)=>Bx.mk (@L2.pw_or v0 v1 v2 v3 v4 v5 v6 v7.h v8.h)
def wbZ:=λ{v0 v1 v2 v3} (v4:Bx _)=>Bx.mk (@L2.pw_or1 v0 v1 v2 v3 v4.h)
def wca:=λ{v0 v1 v2 v3 v4 v5 v6 v7 v8 v9 v10 v11 v12 v13 v14} v15 v16 v17 v18 v19 v20 v21 (v22:Bx _) v23 v24 v25=>Bx.mk (@L2.EX.ps_raise v0 v1 v2 v3 v4 v5 v6 v7 v8 v9 v10 v11 v12 v13 v14 v15 v16 v17 v18 v19 v20 v21 v22.h (au v23) (au v24) (au v25))
def wcb:=λ{v0 v1 v2 v3 v4 v5 v6 v7 v8 v9 v10 v11 v12 v13 v14 v15 v16 v17 v18 v19 v20 v21 v22 v23} v24 v25 v26 (v27:Bx _) v28 v29 v30=>Bx.mk (@L2.EX.pe_defX v0 v1 v2 v3 v4 v5 v6 v7 v8 v9 v10 v11 v12 v13 v14 v15 v16 v17 v18 v19 v20 v21 v22 v23 v24 v25 v26 v27.h (au v28) (au v29) (au v30))
def wcd:=λ{v0 v3 v4 v5 v6 v7 v8 v9} v1 v2 v10 v11 v12 (v13:Bx _) v14 v15 v16=>Bx.mk (@L2.EX.pe_vinit v0 v1 v2 v3 v4 v5 v6 v7 v8 v9 v10 v11 v12 v13.h (au v14) (au v15) (au v16))
def wce:=λ{v0 v3 v4 v5 v6 v7 v8} v1 v2 (v9:Bx _) (v10:Bx _) v11=>Bx.mk (@L2.EX.ps_xset v0 v1 v2 v3 v4 v5 v6 v7 v8 v9.h v10.h (au v11))
def wcf:=λ{v0 v3 v4 v5} v1 v2 (v6:Bx _) v7=>Bx.mk (@L2.EX.pe_xfld v0 v1 v2 v3 v4 v5 v6.h (au v7))
theorem un{X:Cx}{b:List Stmt}{t:TS}(h:Bx (PSs X b t)):PSs X b t:=h.h
end WR
namespace K64
open PySem L2 KB XB WR
def top (i : Nat) : Stmt := PySem.Challenge.pw_indexwise_k64_texts_refused.main.body.getD i (.Pass ⟨0, 0, 0, 0⟩)
def rm:List Str:=["plus","minus","times","less","same"]
structure Txt(K:ζ)(mg:Str->Option ε):Prop where
 len:mg "len"=none
 isinstance:mg "isinstance"=none
 int:mg "int"=none
 bool:mg "bool"=none
 str:mg "str"=none
 tuple:mg "tuple"=none
 all:mg "all"=none
 zip:mg "zip"=none
 range:mg "range"=none
 max:mg "max"=none
 min:mg "min"=none
 dict:mg "dict"=none
 ValueError:mg "ValueError"=none
 lLONGEST_NAME:∃t,mg "LONGEST_NAME"=some (.int 8 t)
 lGREATEST_SIZE:∃t,mg "GREATEST_SIZE"=some (.int 12 t)
 lGREATEST_NUMBER:∃t,mg "GREATEST_NUMBER"=some (.int 99 t)
 lWHOLE_BOUND:∃t,mg "WHOLE_BOUND"=some (.int 1000000000000 t)
 lMOST_NODES:∃t,mg "MOST_NODES"=some (.int 40 t)
 lMOST_ABOVE:∃t,mg "MOST_ABOVE"=some (.int 7 t)
 lMOST_THINGS:∃t,mg "MOST_THINGS"=some (.int 4 t)
 lMOST_FIGURES:∃t,mg "MOST_FIGURES"=some (.int 60 t)
 lMOST_BRACKETS:∃t,mg "MOST_BRACKETS"=some (.int 20 t)
theorem Txt.g_LONGEST_NAME{X:Cx}{pos:Pos}(T:Txt X.K X.mg)(hg:Gl X "LONGEST_NAME"):PE X (.Name "LONGEST_NAME" pos) (tC (.int 8)):=by
 obtain⟨t,e⟩:=T.lLONGEST_NAME
 exact pe_glob hg e ⟨t,rfl⟩
theorem Txt.g_GREATEST_SIZE{X:Cx}{pos:Pos}(T:Txt X.K X.mg)(hg:Gl X "GREATEST_SIZE"):PE X (.Name "GREATEST_SIZE" pos) (tC (.int 12)):=by
 obtain⟨t,e⟩:=T.lGREATEST_SIZE
 exact pe_glob hg e ⟨t,rfl⟩
theorem Txt.g_GREATEST_NUMBER{X:Cx}{pos:Pos}(T:Txt X.K X.mg)(hg:Gl X "GREATEST_NUMBER"):PE X (.Name "GREATEST_NUMBER" pos) (tC (.int 99)):=by
 obtain⟨t,e⟩:=T.lGREATEST_NUMBER
 exact pe_glob hg e ⟨t,rfl⟩
theorem Txt.g_WHOLE_BOUND{X:Cx}{pos:Pos}(T:Txt X.K X.mg)(hg:Gl X "WHOLE_BOUND"):PE X (.Name "WHOLE_BOUND" pos) (tC (.int 1000000000000)):=by
 obtain⟨t,e⟩:=T.lWHOLE_BOUND
 exact pe_glob hg e ⟨t,rfl⟩
theorem Txt.g_MOST_NODES{X:Cx}{pos:Pos}(T:Txt X.K X.mg)(hg:Gl X "MOST_NODES"):PE X (.Name "MOST_NODES" pos) (tC (.int 40)):=by
 obtain⟨t,e⟩:=T.lMOST_NODES
 exact pe_glob hg e ⟨t,rfl⟩
theorem Txt.g_MOST_ABOVE{X:Cx}{pos:Pos}(T:Txt X.K X.mg)(hg:Gl X "MOST_ABOVE"):PE X (.Name "MOST_ABOVE" pos) (tC (.int 7)):=by
 obtain⟨t,e⟩:=T.lMOST_ABOVE
 exact pe_glob hg e ⟨t,rfl⟩
theorem Txt.g_MOST_THINGS{X:Cx}{pos:Pos}(T:Txt X.K X.mg)(hg:Gl X "MOST_THINGS"):PE X (.Name "MOST_THINGS" pos) (tC (.int 4)):=by
 obtain⟨t,e⟩:=T.lMOST_THINGS
 exact pe_glob hg e ⟨t,rfl⟩
theorem Txt.g_MOST_FIGURES{X:Cx}{pos:Pos}(T:Txt X.K X.mg)(hg:Gl X "MOST_FIGURES"):PE X (.Name "MOST_FIGURES" pos) (tC (.int 60)):=by
 obtain⟨t,e⟩:=T.lMOST_FIGURES
 exact pe_glob hg e ⟨t,rfl⟩
theorem Txt.g_MOST_BRACKETS{X:Cx}{pos:Pos}(T:Txt X.K X.mg)(hg:Gl X "MOST_BRACKETS"):PE X (.Name "MOST_BRACKETS" pos) (tC (.int 20)):=by
 obtain⟨t,e⟩:=T.lMOST_BRACKETS
 exact pe_glob hg e ⟨t,rfl⟩
abbrev gv:Stmt:=top 15
abbrev iJ:Stmt:=top 16
abbrev iW:Stmt:=top 17
abbrev eR:Stmt:=top 18
abbrev fh:Stmt:=top 19
def bY:Dv->Bool
 |.int _=>true
 |_=>false
def cp:Dv->Bool
 |.str x=>nmB x
 |_=>false
def geD(k:Int):Dv->Bool
 |.int i=>decide (k<=i)
 |_=>false
def fz:Dv->Bool
 |.tup [a,b]=>cp a&&(bY b&&geD 1 b)
 |_=>false
def headD:Dv->Str
 |.tup (.str x::_)=>x
 |_=>""
def goD(last:Str):List Dv->Bool
 |[]=>true
 |p::r=>fz p&&(decide (last.cps.toList<(headD p).cps.toList)&&goD (headD p) r)
def jV:Dv->Bool
 |.tup xs=>goD "" xs
 |_=>false
def ib:Dv->Bool
 |.tup [a,b]=>bY a&&(geD 0 a&&jV b)
 |_=>false
def spD(f:Dv->Bool):Sp:=λvs H Q _=>∃v d,vs=[v]/\Rep H d v/\∀H',aj H H'->Q (.bl (f d)) H'
variable{P:υ}{w:Κ}{K:ζ}{mg:Str->Option ε}{base:Heap}
theorem rK:am ["thing"] ["thing"] (af gv):=by trivial
theorem rB{f:Addr}{fd:Γ}(F:Fun K "is_whole" "is_whole" gv f fd)(T:Txt K mg):ap P w K mg base CX0 1 f fd ["thing"] (spD bY):=by
 refine F.ok rK (λvs H Q E h=>?_) (λcdv A outer s H vs Q E hr h=>?_)
 ·obtain⟨v,d,rfl,_⟩:=h
  rfl
 obtain⟨v,d,rfl,R,q⟩:=h
 refine⟨_,(@un _ _ _ (wbQ (wbK (wag (wal bK rfl T.isinstance () (wae (wv 0 rfl) (wae (wai (.ty "int") rfl T.int () rfl () ()) waf rfl) rfl) () () rfl rfl) (waP (waO (wal bK rfl T.isinstance () (wae (wv 0 rfl) (wae (wai (.ty "bool") rfl T.bool () rfl () ()) waf rfl) rfl) () () rfl rfl))))))),?_⟩
 refine⟨_,rfl,v,_,_,_,rfl,R.ty,zy K d,_,rfl,?_⟩
 cases d with
 |int i=>exact aD ⟨_,rfl,v,_,_,_,rfl,R.ty,pW K _,_,rfl,q H (aj.refl H)⟩
 |bl b=>exact aD ⟨_,rfl,v,_,_,_,rfl,R.ty,pW K _,_,rfl,q H (aj.refl H)⟩
 |_=>exact aI (q H (aj.refl H))
def spS(f:Dv->Bool):Sp:=λvs H Q _=>∃v d,vs=[v]/\Rep H d v/\d.small=true/\∀H',aj H H'->Q (.bl (f d)) H'
theorem pE(a b:Nat):decide (([a]:List Nat)<[b])=decide (a<b):=by
 by_cases h:a<b
 ·rw[Q9 h]
  exact Q9 (List.cons_lt_cons_iff.mpr (.inl h))
 ·rw[Q8 h]
  exact Q8 λz=>by
   rcases List.cons_lt_cons_iff.mp z with z|⟨_,z⟩
   ·exact h z
   ·exact List.not_lt_nil _ z
theorem Co(x:Str):((Ϻ x.cps.size).map λi=>azB (x.cps.getD i 0)).all id=x.cps.toList.all azB:=by
 have e:(Ϻ x.cps.size).map (λi=>azB (x.cps.getD i 0))=x.cps.toList.map azB:=by
  apply List.ext_getElem?
  intro i
  rw[Ϯ,Ϯ]
  by_cases hi:i<x.cps.size
  ·rw[List.getElem?_range hi]
   simp[hi]
  ·rw[List.getElem?_eq_none (by simpa using hi),List.getElem?_eq_none (by simpa using hi)]
   rfl
 rw[e,List.all_map]
 rfl
theorem sV:am ["thing"] ["thing"] (af iJ):=by trivial
theorem sj{f:Addr}{fd:Γ}(F:Fun K "is_name" "is_name" iJ f fd)(T:Txt K mg):ap P w K mg base CX0 1 f fd ["thing"] (spS cp):=by
 refine F.ok sV (λvs H Q E h=>?_) (λcdv A outer s H vs Q E hr h=>?_)
 ·obtain⟨v,d,rfl,_⟩:=h
  rfl
 obtain⟨v,d,rfl,R,hsm,q⟩:=h
 refine⟨_,(@un _ _ _ (wbO (wbI (wab (wbY (wbT (wbV (wal bK rfl T.isinstance () (wae (wv 0 rfl) (wae (wai (.ty "str") rfl T.str () rfl () ()) waf rfl) rfl) () () rfl rfl) ())) (wbZ (wbT (wbR jl jl waC (wal bw rfl T.len () (wae (wv 0 rfl) waf rfl) () () rfl rfl) ⟨T.g_LONGEST_NAME rfl⟩ (by with_unfolding_all rfl)))))) (wbQ (wbK wah)) wbP) (wbQ (wbK (wal (gZ rfl) rfl T.all () (wae (waE ["sign"] [] (wbn (wv 0 rfl)) (.of rfl) rfl (λ_ _ _=>⟨pg_name (i:=0) (bZ (l:=["sign"]) (()) rfl) rfl (Ν rfl)⟩) (bF ()) (λ_ _ _=>wbx) (λ_ _ _=>(wao dX dX waV (wv 0 rfl) waV (by with_unfolding_all rfl))) ()) waf rfl) () () rfl rfl))))),?_⟩
 refine⟨_,rfl,v,_,_,_,rfl,R.ty,fE K d,_,rfl,?_⟩
 cases d with
 |str x=>
  have hx:x.cps.size<=1000:=by simpa[Dv.small]using hsm
  obtain rfl:v=.str x:=R
  refine aI ⟨_,rfl,x,rfl,vj hx,_,_,rfl,rfl,_,rfl,?_⟩
  have no:nmB x=false->Q (.bl false) H:=λe=>by
   have:=q H (aj.refl H)
   rwa[show cp (.str x)=false from e]at this
  refine av (λh1=>?_) (λh1=>?_)
  ·refine⟨_,_,rfl,rfl,_,rfl,?_⟩
   have h1':1<=x.cps.size:=by
    have:=Q7 h1
    have e:x.length=x.cps.size:=rfl
    omega
   by_cases h8:x.cps.size<=8
   ·rw[show decide (((x.length:Nat):Int)<=8)=true from Q9 (by have e:x.length=x.cps.size:=rfl;omega)]
    refine aI ?_
    refine⟨_,rfl,x,rfl,ki (F:=λi=>V.bl (azB (x.cps.getD i 0))) (λi ys hi hl=>?_) λa ha=>⟨a,(Ϻ x.cps.size).map λi=>azB (x.cps.getD i 0),rfl,SqL.of ?_,?_⟩⟩
    ·refine bP ⟨_,rfl,_,_,rfl,rfl,_,rfl,?_⟩
     have e1:decide ((⟨#[x.cps.getD i 0]⟩:Str).cps.toList<(γ "a").cps.toList)=decide (x.cps.getD i 0<97):=pE _ _
     have e2:decide ((γ "z").cps.toList<(⟨#[x.cps.getD i 0]⟩:Str).cps.toList)=decide (122<x.cps.getD i 0):=pE _ _
     rw[e1]
     by_cases c1:x.cps.getD i 0<97
     ·rw[Q9 c1]
      refine aI ⟨by rw[hl,τ];omega,?_,rfl⟩
      unfold azB
      rw[Q8 ()]
      rfl
     ·rw[Q8 c1]
      refine aD ⟨_,_,rfl,rfl,?_⟩
      refine⟨by rw[hl,τ];omega,?_,rfl⟩
      rw[e2]
      unfold azB
      rw[Q9 (show 97<=x.cps.getD i 0 by omega)]
      by_cases c2:122<x.cps.getD i 0
      ·rw[Q9 c2,Q8 ()];rfl
      ·rw[Q8 c2,Q9 ()];rfl
    ·rw[aa,i_]
     rfl
    ·rw[Co]
     have:=q _ (ac ha (.lst ((Ϻ x.cps.size).map λi=>V.bl (azB (x.cps.getD i 0)))))
     rwa[show cp (.str x)=x.cps.toList.all azB by
      show nmB x=_
      unfold nmB
      rw[Q9 h1',Q9 h8]
      rfl]at this
   ·rw[show decide (((x.length:Nat):Int)<=8)=false from Q8 (by have e:x.length=x.cps.size:=rfl;omega)]
    refine aD (no ?_)
    unfold nmB
    rw[Q8 h8,GQ,ϵ]
  ·refine⟨_,rfl,aD (no ?_)⟩
   have h1':¬ 1<=x.cps.size:=by
    have:=of_decide_eq_false (y9.mpr h1)
    have e:x.length=x.cps.size:=rfl
    omega
   unfold nmB
   rw[Q8 h1',ϵ,ϵ]
 |_=>exact aD (aD (q H (aj.refl H)))
theorem yn(ds:List Dv):(∃a b,ds=[a,b])\/(∀a b,ds≠[a,b]):=by
 match ds with
 |[]=>exact .inr λa b e=>nomatch e
 |[_]=>exact .inr λa b e=>nomatch e
 |[a,b]=>exact .inl ⟨a,b,rfl⟩
 |_::_::_::_=>exact .inr λa b e=>nomatch e
theorem vf{ds:List Dv}(h:∀a b,ds≠[a,b]):ds.length≠2:=λe=>by
 match ds,e with
 |[a,b],_=>exact h a b rfl
theorem yN{ds:List Dv}(h:∀a b,ds≠[a,b]):fz (.tup ds)=false:=by
 match ds with
 |[]=>rfl
 |[_]=>rfl
 |[a,b]=>exact absurd rfl (h a b)
 |_::_::_::_=>rfl
theorem zW{ds:List Dv}(h:∀a b,ds≠[a,b]):ib (.tup ds)=false:=by
 match ds with
 |[]=>rfl
 |[_]=>rfl
 |[a,b]=>exact absurd rfl (h a b)
 |_::_::_::_=>rfl
theorem vd{k:Int}{d:Dv}(h:bY d=true):∃i,d=.int i/\geD k d=decide (k<=i):=by
 cases d with
 |int i=>exact⟨i,rfl,rfl⟩
 |_=>cases h
theorem uh{a b:Dv}(h:(Dv.tup [a,b]).small=true):a.small=true/\b.small=true:=by
 simp only[Dv.small,smalls,ο]at h
 exact⟨h.1.1,h.1.2.1⟩
theorem sX:am ["thing"] ["thing"] (af iW):=by trivial
theorem uc{f:Addr}{fd:Γ}{k:Nat}(F:Fun K "is_part" "is_part" iW f fd)(T:Txt K mg)(Dis_whole:Def P w K mg base k "is_whole" ["thing"] (spD bY))(Dis_name:Def P w K mg base k "is_name" ["thing"] (spS cp)):
  ap P w K mg base CX0 (k+1) f fd ["thing"] (spS fz):=by
 refine F.ok sX (λvs H Q E h=>?_) (λcdv A outer s H vs Q E hr h=>?_)
 ·obtain⟨v,d,rfl,_⟩:=h
  rfl
 obtain⟨v,d,rfl,R,hsm,q⟩:=h
 refine⟨_,(@un _ _ _ (wbO (wbI (wab (wbY (wbT (wbV (wal bK rfl T.isinstance () (wae (wv 0 rfl) (wae (wai (.ty "tuple") rfl T.tuple () rfl () ()) waf rfl) rfl) () () rfl rfl) ())) (wbZ (wbS mO (wal ax rfl T.len () (wae (wv 0 rfl) waf rfl) () () rfl rfl) waC (ak _))))) (wbQ (wbK wah)) wbP) (wbQ (wbK (wag (waq Dis_name hr rfl (wae (waD aq (wv 0 rfl) waC (λ_ _=>rfl)) waf rfl) () rfl rfl) (wag (waq Dis_whole hr rfl (wae (waD aq (wv 0 rfl) waC (λ_ _=>rfl)) waf rfl) () rfl rfl) (waP (wap Bz (waD aq (wv 0 rfl) waC (λ_ _=>rfl)) waC (ak _))))))))),?_⟩
 refine⟨_,rfl,v,_,_,_,rfl,R.ty,en K d,_,rfl,?_⟩
 cases d with
 |tup ds=>
  obtain⟨a,vs,rfl,ha,rs⟩:=Rep.tup_inv R
  have hl:=rs.length
  refine aI ⟨_,rfl,a,vs,rfl,.inr (SqT.of ha),rfl,_,rfl,?_⟩
  rcases yn ds with ⟨d0,d1,rfl⟩|no
  ·obtain⟨x,y,rfl,R0,R1⟩:=Reps.two rs
   obtain⟨z0,z1⟩:=uh hsm
   refine BC rfl ?_
   have qe:∀c H',aj H H'->fz (.tup [d0,d1])=c->Q (.bl c) H':=λc H' s1 e=>e▸q H' s1
   refine⟨_,rfl,a,_,0,x,rfl,rfl,SqT.of ha,ah (j:=0) rfl,x,d0,rfl,R0,z0,λH1 s1=>⟨_,rfl,?_⟩⟩
   cases c0:cp d0 with
   |false=>exact aI (qe _ H1 s1 (by show(cp d0&&_)=false;rw[c0];rfl))
   |true=>
    refine aD ⟨_,rfl,a,_,1,y,rfl,rfl,SqT.of (s1 _ _ ha),ah (j:=1) rfl,y,d1,rfl,R1.mono s1,λH2 s2=>⟨_,rfl,?_⟩⟩
    cases c1:bY d1 with
    |false=>exact aI (qe _ H2 (s1.trans s2) (by show(cp d0&&(bY d1&&_))=false;rw[c0,c1];rfl))
    |true=>
     obtain⟨i,rfl,e⟩:=vd (k:=1) c1
     obtain rfl:y=.int i:=R1
     refine aD ⟨_,rfl,a,_,1,.int i,rfl,rfl,SqT.of (s2 _ _ (s1 _ _ ha)),ah (j:=1) rfl,_,_,rfl,rfl,?_⟩
     refine qe _ H2 (s1.trans s2) ?_
     show(cp d0&&(bY (.int i)&&geD 1 (.int i)))=_
     rw[c0,c1,e]
     rfl
  ·have hn:¬ (V.int ((vs.length:Nat):Int)=V.int 2):=λe=>vf no (by injection e with e;omega)
   rw[Q8 hn]
   refine aD ?_
   have:=q H (aj.refl H)
   rwa[yN no]at this
 |_=>exact aD (aD (q H (aj.refl H)))
theorem oN:am ["thing"] ["thing"] (af fh):=by trivial
theorem hV{f:Addr}{fd:Γ}{k:Nat}(F:Fun K "is_length" "is_length" fh f fd)(T:Txt K mg)(Dis_whole:Def P w K mg base k "is_whole" ["thing"] (spD bY))(Dare_parts:Def P w K mg base k "are_parts" ["thing"] (spS jV)):
  ap P w K mg base CX0 (k+1) f fd ["thing"] (spS ib):=by
 refine F.ok oN (λvs H Q E h=>?_) (λcdv A outer s H vs Q E hr h=>?_)
 ·obtain⟨v,d,rfl,_⟩:=h
  rfl
 obtain⟨v,d,rfl,R,hsm,q⟩:=h
 refine⟨_,(@un _ _ _ (wbO (wbI (wab (wbY (wbT (wbV (wal bK rfl T.isinstance () (wae (wv 0 rfl) (wae (wai (.ty "tuple") rfl T.tuple () rfl () ()) waf rfl) rfl) () () rfl rfl) ())) (wbZ (wbS mO (wal ax rfl T.len () (wae (wv 0 rfl) waf rfl) () () rfl rfl) waC (ak _))))) (wbQ (wbK wah)) wbP) (wbQ (wbK (wag (waq Dis_whole hr rfl (wae (waD aq (wv 0 rfl) waC (λ_ _=>rfl)) waf rfl) () rfl rfl) (wag (wap Bz (waD aq (wv 0 rfl) waC (λ_ _=>rfl)) waC (ak _)) (waP (waq Dare_parts hr rfl (wae (waD aq (wv 0 rfl) waC (λ_ _=>rfl)) waf rfl) () rfl rfl)))))))),?_⟩
 refine⟨_,rfl,v,_,_,_,rfl,R.ty,en K d,_,rfl,?_⟩
 cases d with
 |tup ds=>
  obtain⟨a,vs,rfl,ha,rs⟩:=Rep.tup_inv R
  have hl:=rs.length
  refine aI ⟨_,rfl,a,vs,rfl,.inr (SqT.of ha),rfl,_,rfl,?_⟩
  rcases yn ds with ⟨d0,d1,rfl⟩|no
  ·obtain⟨x,y,rfl,R0,R1⟩:=Reps.two rs
   obtain⟨z0,z1⟩:=uh hsm
   refine BC rfl ?_
   have qe:∀c H',aj H H'->ib (.tup [d0,d1])=c->Q (.bl c) H':=λc H' s1 e=>e▸q H' s1
   refine⟨_,rfl,a,_,0,x,rfl,rfl,SqT.of ha,ah (j:=0) rfl,x,d0,rfl,R0,λH1 s1=>⟨_,rfl,?_⟩⟩
   cases c0:bY d0 with
   |false=>exact aI (qe _ H1 s1 (by show(bY d0&&_)=false;rw[c0];rfl))
   |true=>
    obtain⟨i,rfl,e⟩:=vd (k:=0) c0
    obtain rfl:x=.int i:=R0
    refine aD ⟨_,rfl,a,_,0,.int i,rfl,rfl,SqT.of (s1 _ _ ha),ah (j:=0) rfl,_,_,rfl,rfl,_,rfl,?_⟩
    by_cases c1:0<=i
    ·rw[Q9 c1]
     refine aD ⟨_,rfl,a,_,1,y,rfl,rfl,SqT.of (s1 _ _ ha),ah (j:=1) rfl,y,d1,rfl,R1.mono s1,z1,λH2 s2=>?_⟩
     refine qe _ H2 (s1.trans s2) ?_
     show(bY (.int i)&&(geD 0 (.int i)&&jV d1))=_
     rw[c0,e,Q9 c1]
     rfl
    ·rw[Q8 c1]
     refine aI (qe _ H1 s1 ?_)
     show(bY (.int i)&&(geD 0 (.int i)&&jV d1))=_
     rw[c0,e,Q8 c1]
     rfl
  ·have hn:¬ (V.int ((vs.length:Nat):Int)=V.int 2):=λe=>vf no (by injection e with e;omega)
   rw[Q8 hn]
   refine aD ?_
   have:=q H (aj.refl H)
   rwa[zW no]at this
 |_=>exact aD (aD (q H (aj.refl H)))
theorem kX{d:Dv}(h:fz d=true):∃nm b,d=.tup [.str nm,.int b]/\headD d=nm/\nmB nm=true/\1<=b:=by
 match d,h with
 |.tup [a,b],h=>
  simp only[fz,ο]at h
  obtain⟨h1,h2,h3⟩:=h
  cases a with
  |str x=>
   cases b with
   |int i=>exact⟨x,i,rfl,rfl,h1,Q7 h3⟩
   |_=>cases h2
  |_=>cases h1
theorem ii:am ["thing","last","part"] ["thing"] (af eR):=by trivial
theorem oB{f:Addr}{fd:Γ}{k:Nat}(F:Fun K "are_parts" "are_parts" eR f fd)(T:Txt K mg)(Dis_part:Def P w K mg base k "is_part" ["thing"] (spS fz)):
  ap P w K mg base CX0 (k+1) f fd ["thing"] (spS jV):=by
 have nd:=ii.nd
 refine F.ok ii (λvs H Q E h=>?_) (λcdv A outer s H vs Q E hr h=>?_)
 ·obtain⟨v,d,rfl,_⟩:=h
  rfl
 obtain⟨v,d,rfl,R,hsm,q⟩:=h
 refine⟨_,(@un _ _ _ (wbO (wbI (wbT (wbV (wal bK rfl T.isinstance () (wae (wv 0 rfl) (wae (wai (.ty "tuple") rfl T.tuple () rfl () ()) waf rfl) rfl) () () rfl rfl) ())) (wbQ (wbK wah)) wbP) (wbO (wbM 1 nd rfl (Ν rfl) waV rfl ()) (wbO (wbH j4 rfl (wbo (wv 0 rfl)) (waZ 2 nd rfl (Ν rfl) ()) (wbO (wbI (wab (wbY (wbT (wbV (waq Dis_part hr rfl (wae (wv 2 rfl) waf rfl) () rfl rfl) ())) (wbZ (wbS dX (waD aq (wv 2 rfl) waC (λ_ _=>rfl)) (wv 1 rfl) (ak _))))) (wbQ (wbK wah)) wbP) (wbQ (wbM 1 nd rfl (Ν rfl) (waD aq (wv 2 rfl) waC (λ_ _=>rfl)) rfl ()))) ()) (wbQ (wbK wah)))))),?_⟩
 refine⟨_,rfl,v,_,_,_,rfl,R.ty,en K d,_,rfl,?_⟩
 cases d with
 |tup ds=>
  obtain⟨a,vs,rfl,ha,rs⟩:=Rep.tup_inv R
  have hl:=rs.length
  have hds:smalls ds=true:=by
   simp only[Dv.small,ο]at hsm
   exact hsm.1
  refine aI ?_
  refine⟨_,rfl,a,rfl,⟨vs,SqT.of ha⟩,Ai (xs:=vs) (λi σ H'=>∃(last:Str) (pv:Option V),σ=[some (.ref a),some (.str last),pv]/\aj H H'/\goD last (ds.drop i)=goD "" ds)
   ⟨"",none,rfl,aj.refl H,rfl⟩ (λi σ H' _ ⟨_,_,_,s1,_⟩=>SqT.of (s1 _ _ ha)) ?_ ?_⟩
  ·rintro i x σ H1 hi ⟨last,pv,rfl,s1,hg⟩
   obtain⟨d,hd,Rd⟩:=rs.get hi
   have hdi:ds.drop i=d::ds.drop (i+1):=by
    obtain⟨h1,h2⟩:=Ρ.mp hd
    rw[C5 h1,h2]
   have hsd:=dc hds hd
   rw[hdi]at hg
   refine⟨_,rfl,x,d,rfl,Rd.mono s1,hsd,λH2 s2=>⟨_,rfl,?_⟩⟩
   have no:goD last (d::ds.drop (i+1))=false->∀H',aj H H'->Q (.bl false) H':=λe H' s'=>by
    have:=q H' s'
    rwa[show jV (.tup ds)=false by show goD "" ds=false;rw[<-hg,e]]at this
   cases c:fz d with
   |false=>
    refine aD (aD (no ?_ H2 (s1.trans s2)))
    simp only[goD,c,ϵ]
   |true=>
    obtain⟨nm,b,rfl,hh,_⟩:=kX c
    obtain⟨p,us,rfl,hp,ru⟩:=Rep.tup_inv Rd
    obtain⟨y,z,rfl,R0,R1⟩:=Reps.two ru
    obtain rfl:y=.str nm:=R0
    have hp2:H2 p=some (.tup [.str nm,z]):=s2 _ _ (s1 _ _ hp)
    refine aI ⟨_,rfl,p,_,0,.str nm,rfl,rfl,SqT.of hp2,ah (j:=0) rfl,_,rfl,_,_,rfl,rfl,_,rfl,?_⟩
    by_cases lt:last.cps.toList<nm.cps.toList
    ·rw[Q9 lt]
     refine aI ⟨_,rfl,p,_,0,.str nm,rfl,rfl,SqT.of hp2,ah (j:=0) rfl,nm,_,rfl,s1.trans s2,?_⟩
     rw[<-hg]
     simp only[goD,c,hh,ϲ]
     rw[Q9 lt,ϲ]
    ·rw[Q8 lt]
     refine aD (no ?_ H2 (s1.trans s2))
     simp only[goD,c,hh,ϲ]
     rw[Q8 lt,ϵ]
  ·rintro σ H1 ⟨last,pv,rfl,s1,hg⟩
   have:=q H1 s1
   rw[show jV (.tup ds)=true by
    show goD "" ds=true
    rw[<-hg,hl,Ho]
    rfl]at this
   exact this
 |_=>exact aD (q H (aj.refl H))
abbrev gt:Stmt:=top 24
abbrev gB:Stmt:=top 25
abbrev gF:Stmt:=top 26
abbrev fj:Stmt:=top 27
def dD:Dv->Int
 |.tup [_,.int n]=>n
 |_=>0
def FU:Dv->Int
 |.tup (.int c::_)=>c
 |_=>0
def As:Dv->List Dv
 |.tup [_,.tup ps]=>ps
 |_=>[]
def slD(d:Dv):Bool:=ib d&&(decide (FU d<=99)&&(As d).all λp=>decide (dD p<=99))
def jh:Dv->Bool
 |.tup (.str _::_)=>true
 |_=>false
def cU:Dv->Bool
 |.tup [.str x]=>decide (x="whole")
 |.tup [.str x,l]=>decide (x="place")&&slD l
 |.tup [.str x,a,_]=>(decide (x="row")&&slD a)||decide (x="pair")
 |_=>false
def cZ{α:Type}(x:Str)(r:List α):List α:=if x="row" then r.drop 1 else if x="pair" then r else []
theorem mY{d:Dv}(h:ib d=true):∃c ps,d=.tup [.int c,.tup ps]/\0<=c/\goD "" ps=true:=by
 match d,h with
 |.tup [a,b],h=>
  simp only[ib,ο]at h
  obtain⟨h1,h2,h3⟩:=h
  cases a with
  |int i=>
   cases b with
   |tup ps=>exact⟨i,ps,rfl,Q7 h2,h3⟩
   |_=>cases h3
  |_=>cases h1
theorem re:∀{l:Str}{ps:List Dv},goD l ps=true->∀p∈ps,fz p=true
 |_,[],_,p,hp=>by cases hp
 |l,x::ps,h,p,hp=>by
  simp only[goD,ο]at h
  rcases ι.mp hp with rfl|hp
  ·exact h.1
  ·exact re h.2.2 p hp
def BF:Sp:=λvs H Q _=>∃(a:Addr) (x:Str) (us:List V),vs=[.ref a]/\H a=some (.tup (.str x::us))/\(x="row"->us.length=2)/\(x="pair"->us.length=2)/\∀(l:Addr),H l=none->Q (.ref l) (upd H l (.lst (cZ x us)))
theorem dC(x y:Str):decide (V.str x=V.str y)=decide (x=y):=by
 by_cases h:x=y
 ·rw[Q9 h,Q9 (by rw[h])]
 ·rw[Q8 h,Q8 (λz=>h (by injection z))]
theorem qC:am ["thing"] ["thing"] (af gt):=by trivial
theorem rR{f:Addr}{fd:Γ}{k:Nat}(F:Fun K "is_small_length" "is_small_length" gt f fd)(T:Txt K mg)(Dis_length:Def P w K mg base k "is_length" ["thing"] (spS ib)):
  ap P w K mg base CX0 (k+1) f fd ["thing"] (spS slD):=by
 refine F.ok qC (λvs H Q E h=>?_) (λcdv A outer s H vs Q E hr h=>?_)
 ·obtain⟨v,d,rfl,_⟩:=h
  rfl
 obtain⟨v,d,rfl,R,hsm,q⟩:=h
 refine⟨_,(@un _ _ _ (wbO (wbI (wab (wbY (wbT (wbV (waq Dis_length hr rfl (wae (wv 0 rfl) waf rfl) () rfl rfl) ())) (wbZ (wbS rP (waD aq (wv 0 rfl) waC (λ_ _=>rfl)) ⟨T.g_GREATEST_NUMBER rfl⟩ (ak _))))) (wbQ (wbK wah)) wbP) (wbQ (wbK (wal (gZ rfl) rfl T.all () (wae (waE (["name","times"]) [] (wbo (waD aq (wv 0 rfl) waC (λ_ _=>rfl))) (.of rfl) rfl (λ_ _ _=>⟨pg_tup rfl (pgs_cons (pg_name (i:=0) (bZ (l:=["name","times"]) (()) rfl) rfl (Ν rfl)) (pgs_cons (pg_name (i:=1) (bZ (l:=["name","times"]) (()) rfl) rfl (Ν rfl)) pgs_nil))⟩) (ox () ()) (λ_ _ _=>wbx) (λ_ _ _=>(wap jl (wv 1 rfl) ⟨T.g_GREATEST_NUMBER rfl⟩ (ak _))) ()) waf rfl) () () rfl rfl))))),?_⟩
 dsimp only[bf,Cx.nox]
 refine⟨_,rfl,v,d,rfl,R,hsm,λH1 s1=>⟨_,rfl,?_⟩⟩
 cases c0:ib d with
 |false=>
  refine aD ?_
  have:=q H1 s1
  rwa[show slD d=false by unfold slD;rw[c0];rfl]at this
 |true=>
  refine aI ?_
  obtain⟨c,ps,rfl,hc,hg⟩:=mY c0
  obtain⟨a,vs,rfl,ha,rs⟩:=Rep.tup_inv R
  obtain⟨x,y,rfl,R0,R1⟩:=Reps.two rs
  obtain rfl:x=.int c:=R0
  obtain⟨b,us,rfl,hb,ru⟩:=Rep.tup_inv R1
  have hps:ps.length<=1000:=by
   have:=(uh hsm).2
   simp only[Dv.small,ο,decide_eq_true_eq]at this
   exact this.2
  have hl:=ru.length
  have e0:slD (.tup [.int c,.tup ps])=(decide (c<=99)&&ps.all λp=>decide (dD p<=99)):=by
   unfold slD;rw[c0];rfl
  refine⟨_,rfl,a,_,0,.int c,rfl,rfl,SqT.of (s1 _ _ ha),ah (j:=0) rfl,_,_,rfl,rfl,_,rfl,?_⟩
  refine av (λh=>?_) (λh=>?_)
  ·have h':99<c:=Q7 h
   have:=q H1 s1
   rw[e0,Q8 (),ϵ]at this
   exact this
  have h':c<=99:=by have:=of_decide_eq_false (y9.mpr h);omega
  have hb1:=s1 _ _ hb
  refine⟨_,rfl,a,_,1,.ref b,rfl,rfl,SqT.of (s1 _ _ ha),ah (j:=1) rfl,b,rfl,⟨us,SqT.of hb1⟩,se (xs:=us) (λi ys H'=>H'=H1/\ys=(ps.take i).map λp=>V.bl (decide (dD p<=99))) ⟨rfl,rfl⟩ (λi ys H' _ p=>by rw[p.1];exact SqT.of hb1) ?_ ?_⟩
  ·rintro i ys H' x hx ⟨rfl,rfl⟩
   obtain⟨d,hd,Rd⟩:=ru.get hx
   obtain⟨hi,ed⟩:=Ρ.mp hd
   obtain⟨nm,t,rfl,hh,_⟩:=kX (re hg d (Ϝ hd))
   obtain⟨p,zs,rfl,hp,rz⟩:=Rep.tup_inv Rd
   obtain⟨y,z,rfl,Ry,Rz⟩:=Reps.two rz
   obtain rfl:y=.str nm:=Ry
   obtain rfl:z=.int t:=Rz
   refine gH (s1 _ _ hp) ⟨_,rfl,_,_,rfl,rfl,?_,rfl,?_⟩
   ·rw[ς,Ϗ,τ];omega
   ·rw[m5,hd,ϊ]
    rfl
  ·rintro ys H' ⟨rfl,rfl⟩ r hr'
   rw[hl,j9]
   refine⟨r,ps.map λp=>decide (dD p<=99),rfl,SqL.of (by rw[aa,i_];rfl),?_⟩
   have:=q _ (s1.trans (ac hr' (.lst (ps.map λp=>V.bl (decide (dD p<=99))))))
   rw[e0,Q9 h',ϲ]at this
   rw[List.all_map]
   exact this
theorem rO:am ["thing"] ["thing"] (af gB):=by trivial
theorem rq{f:Addr}{fd:Γ}(F:Fun K "has_word" "has_word" gB f fd)(T:Txt K mg):ap P w K mg base CX0 1 f fd ["thing"] (spD jh):=by
 refine F.ok rO (λvs H Q E h=>?_) (λcdv A outer s H vs Q E hr h=>?_)
 ·obtain⟨v,d,rfl,_⟩:=h
  rfl
 obtain⟨v,d,rfl,R,q⟩:=h
 refine⟨_,(@un _ _ _ (wbQ (wbK (wag (wal bK rfl T.isinstance () (wae (wv 0 rfl) (wae (wai (.ty "tuple") rfl T.tuple () rfl () ()) waf rfl) rfl) () () rfl rfl) (wag (wap rP (wal ax rfl T.len () (wae (wv 0 rfl) waf rfl) () () rfl rfl) waC (ak _)) (waP (wal bK rfl T.isinstance () (wae (waD aq (wv 0 rfl) waC (λ_ _=>rfl)) (wae (wai (.ty "str") rfl T.str () rfl () ()) waf rfl) rfl) () () rfl rfl))))))),?_⟩
 dsimp only[bf,Cx.nox]
 refine⟨_,rfl,v,_,_,_,rfl,R.ty,en K d,_,rfl,?_⟩
 cases d with
 |tup ds=>
  obtain⟨a,vs,rfl,ha,rs⟩:=Rep.tup_inv R
  refine aD ⟨_,rfl,a,vs,rfl,.inr (SqT.of ha),_,_,rfl,rfl,_,rfl,?_⟩
  cases ds with
  |nil=>
   simp only[Reps]at rs
   subst rs
   exact aI (q H (aj.refl H))
  |cons d0 ds=>
   simp only[Reps]at rs
   obtain⟨x,r,rfl,R0,rr⟩:=rs
   rw[show decide (((0:Int))<(((x::r).length:Nat):Int))=true from Q9 (by rw[χ];omega)]
   refine aD ⟨_,rfl,a,_,0,x,rfl,rfl,SqT.of ha,ah (j:=0) rfl,x,_,_,_,rfl,R0.ty,fE K d0,?_⟩
   have:=q H (aj.refl H)
   cases d0<;>exact this
 |_=>exact aI (q H (aj.refl H))
theorem kE{d:Dv}(h:jh d=true):∃x r,d=.tup (.str x::r):=by
 match d,h with
 |.tup (.str x::r),_=>exact⟨x,r,rfl⟩
theorem ua{d:Dv}(h:jh d=false):cU d=false:=by
 match d,h with
 |.tup [.str x],h=>cases h
 |.tup [.str x,l],h=>cases h
 |.tup [.str x,a,b],h=>cases h
 |.tup (.str x::a::b::c::r),h=>cases h
 |.tup [],_=>rfl
 |.tup (.non::r),_=>rfl
 |.tup (.bl _::r),_=>rfl
 |.tup (.int _::r),_=>rfl
 |.tup (.tup _::r),_=>rfl
 |.tup (.lst _::r),_=>rfl
 |.tup (.dct::r),_=>rfl
 |.non,_=>rfl
 |.bl _,_=>rfl
 |.int _,_=>rfl
 |.str _,_=>rfl
 |.lst _,_=>rfl
 |.dct,_=>rfl
theorem w1:(γ "whole")≠(γ "place"):=by decide +kernel
theorem w2:(γ "whole")≠(γ "row"):=by decide +kernel
theorem w3:(γ "whole")≠(γ "pair"):=by decide +kernel
theorem w4:(γ "place")≠(γ "row"):=by decide +kernel
theorem w5:(γ "place")≠(γ "pair"):=by decide +kernel
theorem w6:(γ "row")≠(γ "pair"):=by decide +kernel
theorem zC{r:List Dv}:cU (.tup (.str "whole" :: r))=decide (r.length=0):=by
 match r with
 |[]=>show decide (γ "whole"=γ "whole")=_;rw[Q9 rfl];rfl
 |[l]=>show(decide (γ "whole"=γ "place")&&slD l)=_;rw[Q8 w1];rfl
 |[a,b]=>show((decide (γ "whole"=γ "row")&&slD a)||decide (γ "whole"=γ "pair"))=_;rw[Q8 w2,Q8 w3];rfl
 |a::b::c::r=>rfl
theorem vC{r:List Dv}:cU (.tup (.str "place" :: r))=(decide (r.length=1)&&slD (r.headD .non)):=by
 match r with
 |[]=>show decide (γ "place"=γ "whole")=_;rw[Q8 (ϛ w1)];rfl
 |[l]=>show(decide (γ "place"=γ "place")&&slD l)=_;rw[Q9 rfl];rfl
 |[a,b]=>show((decide (γ "place"=γ "row")&&slD a)||decide (γ "place"=γ "pair"))=_;rw[Q8 w4,Q8 w5];rfl
 |a::b::c::r=>
  rw[Q8 ()];rfl
theorem Bb{r:List Dv}:cU (.tup (.str "row" :: r))=(decide (r.length=2)&&slD (r.headD .non)):=by
 match r with
 |[]=>show decide (γ "row"=γ "whole")=_;rw[Q8 (ϛ w2)];rfl
 |[l]=>show(decide (γ "row"=γ "place")&&slD l)=_;rw[Q8 (ϛ w4)];rfl
 |[a,b]=>show((decide (γ "row"=γ "row")&&slD a)||decide (γ "row"=γ "pair"))=_;rw[Q9 rfl,Q8 w6,Bool.or_false];rfl
 |a::b::c::r=>
  rw[Q8 ()];rfl
theorem Cm{x:Str}{r:List Dv}(h1:x≠"whole")(h2:x≠"place")(h3:x≠"row"):cU (.tup (.str x::r))=(decide (r.length=2)&&decide (x="pair")):=by
 match r with
 |[]=>show decide (x="whole")=_;rw[Q8 h1];rfl
 |[l]=>show(decide (x="place")&&slD l)=_;rw[Q8 h2];rfl
 |[a,b]=>show((decide (x="row")&&slD a)||decide (x="pair"))=_;rw[Q8 h3,ϵ,Bool.false_or];rfl
 |a::b::c::r=>
  rw[Q8 ()];rfl
theorem jN{vs:List V}{r:List Dv}{x:V}(h:vs.length=r.length)(n m:Nat)(e:m=n+1):decide (V.int (((x::vs).length:Nat):Int)=V.int (m:Int))=decide (r.length=n):=by
 by_cases z:r.length=n
 ·rw[Q9 z,Q9 (by rw[χ,h,z,e])]
 ·rw[Q8 z,Q8 (λy=>z (by injection y with y;rw[χ,h]at y;omega))]
theorem qb:am ["thing"] ["thing"] (af gF):=by trivial
theorem rD{f:Addr}{fd:Γ}{k:Nat}(F:Fun K "is_point" "is_point" gF f fd)(T:Txt K mg)(Dhas_word:Def P w K mg base k "has_word" ["thing"] (spD jh))(Dis_small_length:Def P w K mg base k "is_small_length" ["thing"] (spS slD)):
  ap P w K mg base CX0 (k+1) f fd ["thing"] (spS cU):=by
 refine F.ok qb (λvs H Q E h=>?_) (λcdv A outer s H vs Q E hr h=>?_)
 ·obtain⟨v,d,rfl,_⟩:=h
  rfl
 obtain⟨v,d,rfl,R,hsm,q⟩:=h
 refine⟨_,(@un _ _ _ (wbO (wbI (wbT (wbV (waq Dhas_word hr rfl (wae (wv 0 rfl) waf rfl) () rfl rfl) ())) (wbQ (wbK wah)) wbP) (wbO (wbI (wbS aE (waD aq (wv 0 rfl) waC (λ_ _=>rfl)) waV (ak _)) (wbQ (wbK (wap aE (wal ax rfl T.len () (wae (wv 0 rfl) waf rfl) () () rfl rfl) waC (ak _)))) wbP) (wbO (wbI (wbS aE (waD aq (wv 0 rfl) waC (λ_ _=>rfl)) waV (ak _)) (wbQ (wbK (wag (wap aE (wal ax rfl T.len () (wae (wv 0 rfl) waf rfl) () () rfl rfl) waC (ak _)) (waP (waq Dis_small_length hr rfl (wae (waD aq (wv 0 rfl) waC (λ_ _=>rfl)) waf rfl) () rfl rfl))))) wbP) (wbO (wbI (wbS aE (waD aq (wv 0 rfl) waC (λ_ _=>rfl)) waV (ak _)) (wbQ (wbK (wag (wap aE (wal ax rfl T.len () (wae (wv 0 rfl) waf rfl) () () rfl rfl) waC (ak _)) (waP (waq Dis_small_length hr rfl (wae (waD aq (wv 0 rfl) waC (λ_ _=>rfl)) waf rfl) () rfl rfl))))) wbP) (wbQ (wbK (wag (wap aE (wal ax rfl T.len () (wae (wv 0 rfl) waf rfl) () () rfl rfl) waC (ak _)) (waP (wap aE (waD aq (wv 0 rfl) waC (λ_ _=>rfl)) waV (ak _))))))))))),?_⟩
 dsimp only[bf,Cx.nox]
 refine⟨_,rfl,v,d,rfl,R,λH1 s1=>⟨_,rfl,?_⟩⟩
 cases c0:jh d with
 |false=>
  refine aD ?_
  have:=q H1 s1
  rwa[ua c0]at this
 |true=>
  refine aI ?_
  obtain⟨x,r,rfl⟩:=kE c0
  obtain⟨a,vs,rfl,ha,rs⟩:=Rep.tup_inv (R.mono s1)
  simp only[Reps]at rs
  obtain⟨y,us,rfl,R0,ru⟩:=rs
  obtain rfl:y=.str x:=R0
  have hl:=ru.length
  refine⟨_,rfl,a,_,0,.str x,rfl,rfl,SqT.of ha,ah (j:=0) rfl,rfl,_,rfl,?_⟩
  show if decide (V.str x=V.str "whole")=true then _ else _
  rw[dC]
  by_cases h1:x="whole"
  ·subst h1
   rw[Q9 rfl]
   refine aD ⟨_,rfl,a,_,rfl,.inr (SqT.of ha),rfl,?_⟩
   have:=q H1 s1
   rw[zC,<-jN (x:=.str "whole") hl 0 1 rfl]at this
   exact this
  rw[Q8 h1]
  refine aI ⟨_,rfl,a,_,0,.str x,rfl,rfl,SqT.of ha,ah (j:=0) rfl,rfl,_,rfl,?_⟩
  show if decide (V.str x=V.str "place")=true then _ else _
  rw[dC]
  by_cases h2:x="place"
  ·subst h2
   rw[Q9 rfl]
   refine aD ⟨_,rfl,a,_,rfl,.inr (SqT.of ha),rfl,_,rfl,?_⟩
   show if decide (V.int _=V.int ((2:Nat):Int))=true then _ else _
   rw[jN (x:=.str "place") hl 1 2 rfl]
   by_cases z:r.length=1
   ·rw[Q9 z]
    match r,us,z,ru with
    |[l],us,_,ru=>
     simp only[Reps]at ru
     obtain⟨u,rest,rfl,Ru,rfl⟩:=ru
     refine aD ⟨_,rfl,a,_,1,u,rfl,rfl,SqT.of ha,ah (j:=1) rfl,u,l,rfl,Ru,dc (i:=1) (ds:=[.str "place",l]) (by simp only[Dv.small,ο]at hsm;exact hsm.1) rfl,λH2 s2=>?_⟩
     have:=q H2 (s1.trans s2)
     rw[vC]at this
     exact this
   ·rw[Q8 z]
    refine aI ?_
    have:=q H1 s1
    rw[vC,Q8 z]at this
    exact this
  rw[Q8 h2]
  refine aI ⟨_,rfl,a,_,0,.str x,rfl,rfl,SqT.of ha,ah (j:=0) rfl,rfl,_,rfl,?_⟩
  show if decide (V.str x=V.str "row")=true then _ else _
  rw[dC]
  by_cases h3:x="row"
  ·subst h3
   rw[Q9 rfl]
   refine aD ⟨_,rfl,a,_,rfl,.inr (SqT.of ha),rfl,_,rfl,?_⟩
   show if decide (V.int _=V.int ((3:Nat):Int))=true then _ else _
   rw[jN (x:=.str "row") hl 2 3 rfl]
   by_cases z:r.length=2
   ·rw[Q9 z]
    match r,us,z,ru with
    |[l,m],us,_,ru=>
     obtain⟨u,u',rfl,Ru,Ru'⟩:=Reps.two ru
     refine aD ⟨_,rfl,a,_,1,u,rfl,rfl,SqT.of ha,ah (j:=1) rfl,u,l,rfl,Ru,dc (i:=1) (ds:=[.str "row",l,m]) (by simp only[Dv.small,ο]at hsm;exact hsm.1) rfl,λH2 s2=>?_⟩
     have:=q H2 (s1.trans s2)
     rw[Bb]at this
     exact this
   ·rw[Q8 z]
    refine aI ?_
    have:=q H1 s1
    rw[Bb,Q8 z]at this
    exact this
  rw[Q8 h3]
  refine aI ⟨_,rfl,a,_,rfl,.inr (SqT.of ha),rfl,_,rfl,?_⟩
  show if decide (V.int _=V.int ((3:Nat):Int))=true then _ else _
  rw[jN (x:=.str x) hl 2 3 rfl]
  have qq:=q H1 s1
  rw[Cm h1 h2 h3]at qq
  by_cases z:r.length=2
  ·rw[Q9 z]at qq⊢
   refine aD ⟨_,rfl,a,_,0,.str x,rfl,rfl,SqT.of ha,ah (j:=0) rfl,rfl,?_⟩
   rw[ϲ,<-dC]at qq
   exact qq
  ·rw[Q8 z]at qq⊢
   exact aI qq
theorem sQ:am ["point"] ["point"] (af fj):=by trivial
theorem uy{f:Addr}{fd:Γ}(F:Fun K "things_of" "things_of" fj f fd)(T:Txt K mg):ap P w K mg base CX0 1 f fd ["point"] BF:=by
 refine F.ok sQ (λvs H Q E h=>?_) (λcdv A outer s H vs Q E hr h=>?_)
 ·obtain⟨a,x,us,rfl,_⟩:=h
  rfl
 obtain⟨a,x,us,rfl,ha,hr2,hp2,q⟩:=h
 refine⟨_,(@un _ _ _ (wbO (wbI (wbS aE (waD aq (wv 0 rfl) waC (λ_ _=>rfl)) waV (ak _)) (wbQ (wbK (waM (wae (waD aq (wv 0 rfl) waC (λ_ _=>rfl)) waf rfl)))) wbP) (wbO (wbI (wbS aE (waD aq (wv 0 rfl) waC (λ_ _=>rfl)) waV (ak _)) (wbQ (wbK (waM (wae (waD aq (wv 0 rfl) waC (λ_ _=>rfl)) (wae (waD aq (wv 0 rfl) waC (λ_ _=>rfl)) waf rfl) rfl)))) wbP) (wbQ (wbK (waM waf)))))),?_⟩
 dsimp only[bf,Cx.nox]
 refine⟨_,rfl,a,_,0,.str x,rfl,rfl,SqT.of ha,ah (j:=0) rfl,rfl,_,rfl,?_⟩
 show if decide (V.str x=V.str "row")=true then _ else _
 rw[dC]
 by_cases h1:x="row"
 ·subst h1
  have hl:=hr2 rfl
  match us,hl with
  |[u,u'],_=>
   rw[Q9 rfl]
   refine aD ⟨_,rfl,a,_,2,u',rfl,rfl,SqT.of ha,ah (j:=2) rfl,z1,λl hl=>q l hl⟩
 rw[Q8 h1]
 refine aI ⟨_,rfl,a,_,0,.str x,rfl,rfl,SqT.of ha,ah (j:=0) rfl,rfl,_,rfl,?_⟩
 show if decide (V.str x=V.str "pair")=true then _ else _
 rw[dC]
 by_cases h2:x="pair"
 ·subst h2
  have hl:=hp2 rfl
  match us,hl with
  |[u,u'],_=>
   rw[Q9 rfl]
   refine aD ⟨_,rfl,a,_,1,u,rfl,rfl,SqT.of ha,ah (j:=1) rfl,_,rfl,a,_,2,u',rfl,rfl,SqT.of ha,ah (j:=2) rfl,z2,λl hl=>?_⟩
   have:=q l hl
   rw[show cZ (γ "pair") [u,u']=[u,u'] by unfold cZ;rw[Q6 (ϛ w6),Q5 rfl]]at this
   exact this
 rw[Q8 h2]
 refine aI ⟨ϖ _,λl hl=>?_⟩
 have:=q l hl
 rw[show cZ x us=[] by unfold cZ;rw[Q6 h1,Q6 h2]]at this
 exact this
abbrev iY:Stmt:=top 28
def aA:Dv->Nat
 |.tup [.str x]=>if x="whole" then 1 else 99
 |.tup [.str x,l]=>if x="place"/\slD l=true then 1 else 99
 |.tup [.str x,a,b]=>if x="pair" then 1+aA a+aA b else if x="row"/\slD a=true then 1+aA b else 99
 |_=>99
termination_by d=>sizeOf d
decreasing_by all_goals simp_wf;omega
theorem jK{d:Dv}(h:cU d=false):aA d=99:=by
 match d,h with
 |.tup [.str x],h=>
  rw[aA,Q6 (of_decide_eq_false h)]
 |.tup [.str x,l],h=>
  rw[aA,Q6 (λz=>by
   have h':(decide (x="place")&&slD l)=false:=h
   rw[Q9 z.1,z.2]at h';cases h')]
 |.tup [.str x,a,b],h=>
  have h':((decide (x="row")&&slD a)||decide (x="pair"))=false:=h
  rw[Bool.or_eq_false_iff]at h'
  rw[aA,Q6 (of_decide_eq_false h'.2),Q6 (λz=>by
   have h2:=h'.1
   rw[Q9 z.1,z.2]at h2;cases h2)]
 |.tup (.str x::a::b::c::r),_=>rw[aA]<;>simp
 |.tup [],_=>rw[aA]<;>simp
 |.tup (.non::r),_=>rw[aA]<;>simp
 |.tup (.bl _::r),_=>rw[aA]<;>simp
 |.tup (.int _::r),_=>rw[aA]<;>simp
 |.tup (.tup _::r),_=>rw[aA]<;>simp
 |.tup (.lst _::r),_=>rw[aA]<;>simp
 |.tup (.dct::r),_=>rw[aA]<;>simp
 |.non,_=>rw[aA]<;>simp
 |.bl _,_=>rw[aA]<;>simp
 |.int _,_=>rw[aA]<;>simp
 |.str _,_=>rw[aA]<;>simp
 |.lst _,_=>rw[aA]<;>simp
 |.dct,_=>rw[aA]<;>simp
theorem jz{d:Dv}(h:cU d=true):∃x r,d=.tup (.str x::r)/\(x="row"->r.length=2)/\(x="pair"->r.length=2)/\aA d=1+((cZ x r).map aA).sum:=by
 match d,h with
 |.tup [.str x],h=>
  have h':x="whole":=Q7 h
  subst h'
  exact⟨_,_,rfl,λz=>absurd z w2,λz=>absurd z w3,by rw[aA,Q5 rfl];unfold cZ;rw[Q6 w2,Q6 w3];rfl⟩
 |.tup [.str x,l],h=>
  have h':(decide (x="place")&&slD l)=true:=h
  rw[ο]at h'
  have e:x="place":=Q7 h'.1
  subst e
  exact⟨_,_,rfl,λz=>absurd z w4,λz=>absurd z w5,by rw[aA,Q5 ⟨rfl,h'.2⟩];unfold cZ;rw[Q6 w4,Q6 w5];rfl⟩
 |.tup [.str x,a,b],h=>
  have h':((decide (x="row")&&slD a)||decide (x="pair"))=true:=h
  rw[Bool.or_eq_true,ο]at h'
  refine⟨x,_,rfl,λ_=>rfl,λ_=>rfl,?_⟩
  rw[aA]
  rcases h' with ⟨h1,h2⟩|h1
  ·have e:x="row":=Q7 h1
   subst e
   rw[Q6 w6,Q5 ⟨rfl,h2⟩]
   unfold cZ
   rw[Q5 rfl]
   simp
  ·have e:x="pair":=Q7 h1
   subst e
   rw[Q5 rfl]
   unfold cZ
   rw[Q6 (ϛ w6),Q5 rfl]
   simp[Nat.add_assoc]
theorem size_pos(d:Dv):1<=aA d:=by
 cases h:cU d with
 |false=>rw[jK h];decide
 |true=>obtain⟨x,r,_,_,_,e⟩:=jz h;rw[e];omega
theorem xg{H:Hp}{x:Str}{r:List Dv}{us:List V}(h:Reps H r us):Reps H (cZ x r) (cZ x us):=by
 unfold cZ
 split
 ·match r,us,h with
  |[],us,h=>simp only[Reps]at h;subst h;simp only[List.drop_nil,Reps]
  |d::r,us,h=>simp only[Reps]at h;obtain⟨v,q,rfl,_,h2⟩:=h;exact h2
 ·split
  ·exact h
  ·simp only[Reps]
theorem uw{x:Str}{r:List Dv}(h:smalls r=true):smalls (cZ x r)=true:=by
 unfold cZ
 split
 ·match r,h with
  |[],_=>rfl
  |d::r,h=>simp only[smalls,ο]at h;exact h.2
 ·split
  ·exact h
  ·rfl
theorem rF{α:Type}{x:Str}{r:List α}(h1:x="row"->r.length=2)(h2:x="pair"->r.length=2):(cZ x r).length<=2:=by
 unfold cZ
 split
 ·rename_i e;rw[ϡ,h1 e];decide
 ·split
  ·rename_i e;rw[h2 e];exact θ _
  ·exact ϖ _
theorem jW:∀{xs ys:List Dv},smalls xs=true->smalls ys=true->smalls (xs++ys)=true
 |[],_,_,h=>h
 |x::xs,ys,g,h=>by
  simp only[smalls,ο,Ϛ]at g⊢
  exact⟨g.1,jW g.2 h⟩
theorem jq:∀{xs:List Dv}{y:Dv},smalls (xs++[y])=true->smalls xs=true/\y.small=true
 |[],y,h=>by simpa[smalls]using h
 |x::xs,y,h=>by
  simp only[smalls,ο,Ϛ]at h⊢
  have:=jq h.2
  exact⟨⟨h.1,this.1⟩,this.2⟩
theorem nF{H:Hp}{l:Addr}{o:HO}:aj (be H l) (be (upd H l o) l):=λb u h=>by
 unfold be at h⊢
 split at h
 ·cases h
 ·rename_i e;rw[Q6 e,ai e];exact h
def qJ:Sp:=spS λd=>decide (aA d<=12)
theorem jY:am ["thing","size","waiting","point"] ["thing"] (af iY):=by trivial
theorem lU{f:Addr}{fd:Γ}{k:Nat}(F:Fun K "is_kind" "is_kind" iY f fd)(T:Txt K mg)(Dis_point:Def P w K mg base k "is_point" ["thing"] (spS cU))(Dthings_of:Def P w K mg base k "things_of" ["point"] BF):
  ap P w K mg base CX0 (k+1) f fd ["thing"] qJ:=by
 have nd:=jY.nd
 refine F.ok jY (λvs H Q E h=>?_) (λcdv A outer s H vs Q E hr h=>?_)
 ·obtain⟨v,d,rfl,_⟩:=h
  rfl
 obtain⟨v,d,rfl,R,hsm,q⟩:=h
 replace q:∀(H':Hp),aj H H'->Q (V.bl (decide (aA d<=12))) H':=q
 refine⟨_,(@un _ _ _ (wbO (wbM 1 nd rfl (Ν rfl) waC rfl ()) (wbO (wbM 2 nd rfl (Ν rfl) (waM (wae (wv 0 rfl) waf rfl)) rfl ()) (wbO (wbN j4 (wbU (wv 2 rfl) (λ_=>rfl)) (wbO (wbM 3 nd rfl (Ν rfl) (wak ϔ PySem.F.slot_list_pop PySem.F.type_list_pop xX (wv 2 rfl) rfl rfl) rfl ()) (wbO (wbE 1 nd rfl (Ν rfl) waC yO ()) (wbO (wbI (wab (wbY (wbS rP (wv 1 rfl) ⟨T.g_GREATEST_SIZE rfl⟩ (ak _)) (wbZ (wbT (wbV (waq Dis_point hr rfl (wae (wv 3 rfl) waf rfl) () rfl rfl) ()))))) (wbQ (wbK wah)) wbP) (wbQ (wbG (waj ϔ C9 C_ mw (wv 2 rfl) (wae (waq Dthings_of hr rfl (wae (wv 3 rfl) waf rfl) () rfl rfl) waf rfl) rfl rfl rfl rfl rfl) rfl)))))) (wbQ (wbK wah)))))),?_⟩
 dsimp only[bf,Cx.nox]
 refine⟨_,rfl,z1,λW1 hW=>?_⟩
 have q1:=ac hW (.lst [v])
 refine qG (λm σ H'=>∃(o3:Option V) (sz:Nat) (ws:List Dv) (vs:List V),σ=[some v,some (.int sz),some (.ref W1),o3]/\aj H (be H' W1)/\H' W1=some (.lst vs)/\Reps (be H' W1) ws vs/\smalls ws=true/\(sz+(ws.map aA).sum<=12↔aA d<=12)/\m=12-sz/\sz<=12/\ws.length<=1+sz) 12
  ⟨_,0,[d],[v],rfl,gN q1 hW,aa,bz (R.mono (gN q1 hW)),by simp only[smalls,hsm,Bool.and_self],(),rfl,(),θ _⟩ ?_ kf
 rintro m σ H1 D1 gR gD ⟨o3,sz,ws,vs,rfl,s1,w1,R1,sm,eq,rfl,s12,lw⟩
 have s01:aj H H1:=s1.trans bL
 refine⟨_,rfl,_,.inl ⟨vs,SqL.of w1,rfl⟩,?_⟩
 by_cases ne:ws=[]
 ·subst ne
  have e:vs=[]:=by simpa only[Reps]using R1
  subst e
  refine aI ?_
  have:=q H1 s01
  rw[Q9 (eq.mp (by simpa using s12))]at this
  exact this
 ·obtain⟨w0,x,rfl⟩:=vk ne
  obtain⟨v0,u,rfl,Ra,Ru⟩:=iC R1
  have e:(!(v0++[u]).isEmpty)=true:=by simp
  rw[e]
  refine aD ?_
  rw[ϊ,E1,Μ,i9,o8,List.sum_nil]at eq
  rw[Ε,i7]at lw
  obtain⟨sm0,smx⟩:=jq sm
  refine⟨_,rfl,.inl ⟨rfl,_,SqL.of w1⟩,W1,_,_,rfl,rfl,w1,qN _ _,?_⟩
  rw[Go]
  have t2:aj (be H1 W1) (be (upd H1 W1 (.lst v0)) W1):=nF
  have w2:upd H1 W1 (.lst v0) W1=some (.lst v0):=aa
  have s02:aj H _:=s1.trans (t2.trans bL)
  generalize upd H1 W1 (.lst v0)=H2 at t2 w2 s02⊢
  have xp:=size_pos x
  refine⟨_,rfl,_,_,rfl,rfl,?_⟩
  refine⟨_,rfl,_,_,rfl,rfl,_,rfl,?_⟩
  refine av (λh=>?_) (λh=>?_)
  ·have h':(12:Int)<(sz:Int)+1:=Q7 h
   have:=q H2 s02
   rw[Q8 (λz=>by have:=eq.mpr z;omega)]at this
   exact aD (gR _ _ this)
  have h':sz+1<=12:=by have z:¬ ((12:Int)<(sz:Int)+1):=of_decide_eq_false (y9.mpr h);omega
  refine⟨_,rfl,u,x,rfl,Ru.mono (t2.trans bL),smx,λH3 s3=>⟨_,rfl,?_⟩⟩
  have s03:=s02.trans s3
  cases c:cU x with
  |false=>
   have:=q H3 s03
   rw[Q8 (λz=>by have:=eq.mpr z;rw[jK c]at this;omega)]at this
   exact aD (gR _ _ this)
  |true=>
   refine aI ?_
   obtain⟨wd,r,rfl,k1,k2,es⟩:=jz c
   have Rx:Rep (be H3 W1) (.tup (.str wd::r)) u:=Ru.mono (t2.trans (bI s3))
   obtain⟨a,us,rfl,ha,rs⟩:=Rep.tup_inv Rx
   simp only[Reps]at rs
   obtain⟨y,ur,rfl,R0,ru⟩:=rs
   obtain rfl:y=.str wd:=R0
   have hl:=ru.length
   have w3:=s3 _ _ w2
   have lk:(cZ wd ur).length<=2:=rF (λz=>by rw[hl];exact k1 z) (λz=>by rw[hl];exact k2 z)
   have lv:v0.length<=12:=by rw[Ra.length];omega
   refine⟨_,rfl,.inl ⟨rfl,_,SqL.of w3⟩,_,rfl,a,wd,ur,rfl,bL _ _ ha,λz=>by rw[hl];exact k1 z,λz=>by rw[hl];exact k2 z,λl hl4=>?_⟩
   have q4:=ac hl4 (.lst (cZ wd ur))
   refine⟨W1,l,_,_,rfl,rfl,q4 _ _ w3,aa,by rw[τ];omega,?_⟩
   have t5:aj (be H3 W1) (be (upd (upd H3 l (.lst (cZ wd ur))) W1 (.lst (v0++cZ wd ur))) W1):=(bI q4).trans nF
   have t15:=t2.trans ((bI s3).trans t5)
   refine gD (12-(sz+1)) _ _ () ⟨_,sz+1,w0++cZ wd r,v0++cZ wd ur,rfl,s1.trans t15,aa,Reps.append (Ra.mono t15) ((xg ru).mono t5),jW sm0 (uw (by simp only[Dv.small,smalls,ο]at smx;exact smx.1.2)),?_,rfl,h',?_⟩
   ·rw[<-eq,es,ϊ,E1]
    constructor<;>intro z<;>omega
   ·have:=rF (α:=Dv) k1 k2
    rw[Ε];omega
abbrev gp:Stmt:=top 29
abbrev dH:Stmt:=top 36
abbrev kL:Stmt:=top 37
abbrev sR:Stmt:=top 38
def iT(b:Int):Dv->Bool
 |.int i=>decide (0<=i)&&decide (i<b)
 |_=>false
def lL(b:Int):Dv->Bool
 |.tup ds=>decide (b<=(ds.length:Int))&&decide ((ds.length:Int)<=4)
 |_=>false
def dW(x:Str):Bool:=inV (.str x) (rm.map V.str)
def dO(x:Str):Bool:=WT.any λp=>decide (p.1=x)
def tN:Dv->Bool
 |.str x=>nmB x&&(!dO x && !dW x)
 |_=>false
def xE:Dv->Bool
 |.str x=>dW x
 |_=>false
def jE:So->Dv->Bool
 |.n,d=>iT 1000000000000 d
 |.x,d=>cp d
 |.y,d=>cp d
 |.l,d=>slD d
 |.k,d=>decide (aA d<=12)
 |.w,d=>xE d
 |.f,d=>tN d
 |.a,d=>lL 0 d
 |.r,d=>lL 1 d
 |.e,_=>true
def uY:Sp:=λvs H Q _=>∃(v:V) (d:Dv) (b:Int),vs=[v,.int b]/\Rep H d v/\∀H',aj H H'->Q (.bl (iT b d)) H'
def Bd:Sp:=λvs H Q _=>∃(v:V) (d:Dv) (b:Int),vs=[v,.int b]/\Rep H d v/\∀H',aj H H'->Q (.bl (lL b d)) H'
def yp:Sp:=λvs H Q _=>∃(s:So) (v:V) (d:Dv),vs=[.str (srt s),v]/\Rep H d v/\d.small=true/\∀H',aj H H'->Q (.bl (jE s d)) H'
theorem rl:am ["thing","bound"] ["thing","bound"] (af gp):=by trivial
theorem rA{f:Addr}{fd:Γ}{k:Nat}(F:Fun K "is_below" "is_below" gp f fd)(T:Txt K mg)(Dis_whole:Def P w K mg base k "is_whole" ["thing"] (spD bY)):ap P w K mg base CX0 (k+1) f fd ["thing","bound"] uY:=by
 refine F.ok rl (λvs H Q E h=>?_) (λcdv A outer s H vs Q E hr h=>?_)
 ·obtain⟨v,d,b,rfl,_⟩:=h
  rfl
 obtain⟨v,d,b,rfl,R,q⟩:=h
 refine⟨_,(@un _ _ _ (wbQ (wbK (wag (waq Dis_whole hr rfl (wae (wv 0 rfl) waf rfl) () rfl rfl) (waP (wao jl qw waC (wv 0 rfl) (wv 1 rfl) (by with_unfolding_all rfl))))))),?_⟩
 refine⟨_,rfl,v,d,rfl,R,λH1 s1=>⟨_,rfl,?_⟩⟩
 have qq:=q H1 s1
 cases d with
 |int i=>
  obtain rfl:v=.int i:=R
  refine aD ⟨_,rfl,_,_,rfl,rfl,_,rfl,?_⟩
  have qq':Q (.bl (decide (0<=i)&&decide (i<b))) H1:=qq
  by_cases h:0<=i
  ·rw[Q9 h]at qq'⊢
   exact aD ⟨_,rfl,_,_,rfl,rfl,qq'⟩
  ·rw[Q8 h]at qq'⊢
   exact aI qq'
 |_=>exact aI qq
theorem xf:am ["thing","least"] ["thing","least"] (af kL):=by trivial
theorem wG{f:Addr}{fd:Γ}(F:Fun K "is_few" "is_few" kL f fd)(T:Txt K mg):ap P w K mg base CX0 1 f fd ["thing","least"] Bd:=by
 refine F.ok xf (λvs H Q E h=>?_) (λcdv A outer s H vs Q E hr h=>?_)
 ·obtain⟨v,d,b,rfl,_⟩:=h
  rfl
 obtain⟨v,d,b,rfl,R,q⟩:=h
 refine⟨_,(@un _ _ _ (wbQ (wbK (wag (wal bK rfl T.isinstance () (wae (wv 0 rfl) (wae (wai (.ty "tuple") rfl T.tuple () rfl () ()) waf rfl) rfl) () () rfl rfl) (waP (wao jl jl (wv 1 rfl) (wal ax rfl T.len () (wae (wv 0 rfl) waf rfl) () () rfl rfl) ⟨T.g_MOST_THINGS rfl⟩ (by with_unfolding_all rfl))))))),?_⟩
 have qq:=q H (aj.refl H)
 refine⟨_,rfl,v,_,_,_,rfl,R.ty,en K d,_,rfl,?_⟩
 cases d with
 |tup ds=>
  obtain⟨a,vs,rfl,ha,rs⟩:=Rep.tup_inv R
  have hl:=rs.length
  refine aD ⟨_,rfl,_,rfl,a,vs,rfl,.inr (SqT.of ha),_,_,rfl,rfl,_,rfl,?_⟩
  have qq':Q (.bl (decide (b<=(ds.length:Int))&&decide ((ds.length:Int)<=4))) H:=qq
  rw[<-hl]at qq'
  by_cases h:b<=(vs.length:Int)
  ·rw[Q9 h]at qq'⊢
   exact aD ⟨_,_,rfl,rfl,qq'⟩
  ·rw[Q8 h]at qq'⊢
   exact aI qq'
 |_=>exact aI qq
theorem lG:am ["thing"] ["thing"] (af dH):=by trivial
theorem lq{f gS gR:Addr}{fd:Γ}{k:Nat}(F:Fun K "is_def_name" "is_def_name" dH f fd)(T:Txt K mg)(S:Shp P w K gS)(GS:mg "SHAPES"=some (.ref gS))(GR:mg "RECKONS"=some (.ref gR))(hR:∀H,SqT K H gR (rm.map V.str))(Dis_name:Def P w K mg base k "is_name" ["thing"] (spS cp)):ap P w K mg base CX0 (k+1) f fd ["thing"] (spS tN):=by
 refine F.ok lG (λvs H Q E h=>?_) (λcdv A outer s H vs Q E hr h=>?_)
 ·obtain⟨v,d,rfl,_⟩:=h
  rfl
 obtain⟨v,d,rfl,R,sm,q⟩:=h
 obtain⟨kvs,FS,_,hS⟩:=S.ex
 refine⟨_,(@un _ _ _ (wbQ (wbK (wag (waq Dis_name hr rfl (wae (wv 0 rfl) waf rfl) () rfl rfl) (wag (wap (mE FS) (wv 0 rfl) (waB (.ref gS) rfl GS rfl ()) (by with_unfolding_all rfl)) (waP (wap gT (wv 0 rfl) (waB (.ref gR) rfl GR rfl ()) (by with_unfolding_all rfl)))))))),?_⟩
 refine⟨_,rfl,v,d,rfl,R,sm,λH1 s1=>⟨_,rfl,?_⟩⟩
 have qq:=q H1 s1
 cases d with
 |str x=>
  obtain rfl:v=.str x:=R
  have qq':Q (.bl (nmB x&&(!dO x && !dW x))) H1:=qq
  show if nmB x=true then _ else _
  cases hn:nmB x with
  |false=>rw[hn]at qq';exact aI qq'
  |true=>
   rw[hn]at qq'
   refine aD ⟨_,rfl,x,rfl,rfl,_,rfl,?_⟩
   rw[hS x]
   show if xor true (dO x)=true then _ else _
   cases hw:dO x with
   |true=>rw[hw]at qq';exact aI qq'
   |false=>
    rw[hw]at qq'
    exact aD ⟨_,rfl,gR,_,rfl,.inr (hR _),rfl,(),qq'⟩
 |_=>exact aI qq
theorem zg:am ["sort","thing"] ["sort","thing"] (af sR):=by trivial
theorem Ae{f gR:Addr}{fd:Γ}{k:Nat}(F:Fun K "fits" "fits" sR f fd)(T:Txt K mg)(GR:mg "RECKONS"=some (.ref gR))(hR:∀H,SqT K H gR (rm.map V.str))(Dis_below:Def P w K mg base k "is_below" ["thing","bound"] uY)(Dis_name:Def P w K mg base k "is_name" ["thing"] (spS cp))(Dis_small_length:Def P w K mg base k "is_small_length" ["thing"] (spS slD))(Dis_kind:Def P w K mg base k "is_kind" ["thing"] qJ)(Dis_def_name:Def P w K mg base k "is_def_name" ["thing"] (spS tN))(Dis_few:Def P w K mg base k "is_few" ["thing","least"] Bd):ap P w K mg base CX0 (k+1) f fd ["sort","thing"] yp:=by
 refine F.ok zg (λvs H Q E h=>?_) (λcdv A outer s H vs Q E hr h=>?_)
 ·obtain⟨s,v,d,rfl,_⟩:=h
  rfl
 obtain⟨so,v,d,rfl,R,sm,q⟩:=h
 refine⟨_,(@un _ _ _ (wbO (wbI (wbS aE (wv 0 rfl) waV (ak _)) (wbQ (wbK (waq Dis_below hr rfl (wae (wv 1 rfl) (wae ⟨T.g_WHOLE_BOUND rfl⟩ waf rfl) rfl) () rfl rfl))) wbP) (wbO (wbI (wbS aE (wv 0 rfl) waV (ak _)) (wbQ (wbK (waq Dis_name hr rfl (wae (wv 1 rfl) waf rfl) () rfl rfl))) wbP) (wbO (wbI (wbS aE (wv 0 rfl) waV (ak _)) (wbQ (wbK (waq Dis_small_length hr rfl (wae (wv 1 rfl) waf rfl) () rfl rfl))) wbP) (wbO (wbI (wbS aE (wv 0 rfl) waV (ak _)) (wbQ (wbK (waq Dis_kind hr rfl (wae (wv 1 rfl) waf rfl) () rfl rfl))) wbP) (wbO (wbI (wbS aE (wv 0 rfl) waV (ak _)) (wbQ (wbK (wag (wal bK rfl T.isinstance () (wae (wv 1 rfl) (wae (wai (.ty "str") rfl T.str () rfl () ()) waf rfl) rfl) () () rfl rfl) (waP (wap nh (wv 1 rfl) (waB (.ref gR) rfl GR rfl ()) (by with_unfolding_all rfl)))))) wbP) (wbO (wbI (wbS aE (wv 0 rfl) waV (ak _)) (wbQ (wbK (waq Dis_def_name hr rfl (wae (wv 1 rfl) waf rfl) () rfl rfl))) wbP) (wbO (wbI (wbS aE (wv 0 rfl) waV (ak _)) (wbQ (wbK (waq Dis_few hr rfl (wae (wv 1 rfl) (wae waC waf rfl) rfl) () rfl rfl))) wbP) (wbO (wbI (wbS aE (wv 0 rfl) waV (ak _)) (wbQ (wbK (waq Dis_few hr rfl (wae (wv 1 rfl) (wae waC waf rfl) rfl) () rfl rfl))) wbP) (wbQ (wbK wah))))))))))),?_⟩
 refine⟨_,rfl,rfl,_,rfl,av (λh=>?_) (λh1=>?_)⟩
 ·have e:=(BE so).mp (Q7 h)
  subst e
  exact⟨_,rfl,v,d,_,rfl,R,q⟩
 refine⟨_,rfl,rfl,_,rfl,av (λh=>?_) (λh2=>?_)⟩
 ·rcases(pV so).mp (Q7 h)with e|e
  ·subst e;exact⟨_,rfl,v,d,rfl,R,sm,q⟩
  ·subst e;exact⟨_,rfl,v,d,rfl,R,sm,q⟩
 refine⟨_,rfl,rfl,_,rfl,av (λh=>?_) (λh3=>?_)⟩
 ·have e:=(nu so).mp (Q7 h)
  subst e
  exact⟨_,rfl,v,d,rfl,R,sm,q⟩
 refine⟨_,rfl,rfl,_,rfl,av (λh=>?_) (λh4=>?_)⟩
 ·have e:=(mQ so).mp (Q7 h)
  subst e
  exact⟨_,rfl,v,d,rfl,R,sm,q⟩
 refine⟨_,rfl,rfl,_,rfl,av (λh=>?_) (λh5=>?_)⟩
 ·have e:=(Bp so).mp (Q7 h)
  subst e
  refine⟨_,rfl,v,_,_,_,rfl,R.ty,fE K d,_,rfl,?_⟩
  have qq:=q H (aj.refl H)
  cases d with
  |str x=>
   obtain rfl:v=.str x:=R
   exact aD ⟨_,rfl,gR,_,rfl,.inr (hR _),rfl,(),qq⟩
  |_=>exact aI qq
 refine⟨_,rfl,rfl,_,rfl,av (λh=>?_) (λh6=>?_)⟩
 ·have e:=(Bg so).mp (Q7 h)
  subst e
  exact⟨_,rfl,v,d,rfl,R,sm,q⟩
 refine⟨_,rfl,rfl,_,rfl,av (λh=>?_) (λh7=>?_)⟩
 ·have e:=(qm so).mp (Q7 h)
  subst e
  exact⟨_,rfl,v,d,_,rfl,R,q⟩
 refine⟨_,rfl,rfl,_,rfl,av (λh=>?_) (λh8=>?_)⟩
 ·have e:=(rN so).mp (Q7 h)
  subst e
  exact⟨_,rfl,v,d,_,rfl,R,q⟩
 have e:so=.e:=by
  cases so with
  |e=>rfl
  |n=>exact absurd (Q9 ((BE .n).mpr rfl)) h1
  |x=>exact absurd (Q9 ((pV .x).mpr (.inl rfl))) h2
  |y=>exact absurd (Q9 ((pV .y).mpr (.inr rfl))) h2
  |l=>exact absurd (Q9 ((nu .l).mpr rfl)) h3
  |k=>exact absurd (Q9 ((mQ .k).mpr rfl)) h4
  |w=>exact absurd (Q9 ((Bp .w).mpr rfl)) h5
  |f=>exact absurd (Q9 ((Bg .f).mpr rfl)) h6
  |a=>exact absurd (Q9 ((qm .a).mpr rfl)) h7
  |r=>exact absurd (Q9 ((rN .r).mpr rfl)) h8
 subst e
 exact q H (aj.refl H)
abbrev jb:Stmt:=top 39
abbrev gA:Stmt:=top 40
def vp:Sp:=λvs H Q _=>∃(v:V) (d:Dv) (G:Hp),vs=[v]/\aj G H/\Rep G d v/\Dj d/\∀(H':Hp)(l:Addr)(us:List V),aj H H'->H l=none->H' l=some (.lst us)->Reps G (bb d) us->Q (.ref l) H'
def okF:List So->List Dv->Bool
 |[],[]=>true
 |s::ss,d::ds=>jE s d&&okF ss ds
 |_,_=>false
def jm:List Dv->Bool
 |.str x::_::.str y::_=>decide (x≠y)
 |_=>false
def dq:Dv->Bool
 |.tup (.str w::ds)=>match WT.find? (λq=>decide (q.1=w))with
  |some p=>okF p.2.2 ds&&(decide (w≠"fold")||jm ds)
  |none=>false
 |_=>false
theorem wX{d:Dv}(h:jh d=false):dq d=false:=by
 match d,h with
 |.tup (.str x::r),h=>cases h
 |.tup [],_=>rfl
 |.tup (.non::r),_=>rfl
 |.tup (.bl _::r),_=>rfl
 |.tup (.int _::r),_=>rfl
 |.tup (.tup _::r),_=>rfl
 |.tup (.lst _::r),_=>rfl
 |.tup (.dct::r),_=>rfl
 |.non,_=>rfl
 |.bl _,_=>rfl
 |.int _,_=>rfl
 |.str _,_=>rfl
 |.lst _,_=>rfl
 |.dct,_=>rfl
theorem vQ{x:Str}{ds:List Dv}(h:dO x=false):dq (.tup (.str x::ds))=false:=by
 have e:WT.find? (λq=>decide (q.1=x))=none:=by
  rw[G4]
  intro p hp
  have:=Hc.mp h p hp
  exact this
 show(match WT.find? (λq=>decide (q.1=x))with|some p'=>okF p'.2.2 ds&&(decide (x≠"fold")||jm ds)|none=>false)=_
 rw[e]
theorem vS{x:Str}(h:dO x=true):∃p∈WT,p.1=x:=by
 obtain⟨p,hp,e⟩:=n_.mp h
 exact⟨p,hp,Q7 e⟩
theorem bq{p:Wd}(hp:p∈WT)(ds:List Dv):dq (.tup (.str p.1::ds))=(okF p.2.2 ds&&(decide (p.1≠"fold")||jm ds)):=by
 show(match WT.find? (λq=>decide (q.1=p.1))with|some p'=>okF p'.2.2 ds&&(decide (p.1≠"fold")||jm ds)|none=>false)=_
 rw[vB Bq hp]
theorem nC:∀{ss:List So}{ds:List Dv},okF ss ds=true->ds.length=ss.length
 |[],[],_=>rfl
 |s::ss,d::ds,h=>by
  simp only[okF,ο]at h
  rw[χ,χ,nC h.2]
 |[],_::_,h=>by cases h
 |_::_,[],h=>by cases h
theorem yx{ss:List So}{ds:List Dv}{i:Nat}{s:So}{d:Dv}(hs:ss[i]?=some s)(hd:ds[i]?=some d):okF (ss.drop i) (ds.drop i)=(jE s d&&okF (ss.drop (i+1)) (ds.drop (i+1))):=by
 obtain⟨h1,rfl⟩:=Ρ.mp hs
 obtain⟨h2,rfl⟩:=Ρ.mp hd
 rw[C5 h1,C5 h2]
 rfl
theorem vt{b:Int}{d:Dv}(h:lL b d=true):∃es,d=.tup es/\b<=(es.length:Int)/\es.length<=4:=by
 cases d with
 |tup es=>
  simp only[lL,ο,decide_eq_true_eq]at h
  exact⟨es,rfl,h.1,()⟩
 |_=>cases h
theorem yr:∀{ss:List So}{ds:List Dv},okF ss ds=true->F2 (Fld (λ_=>True) (λ_ _=>True)) ss ds
 |[],[],_=>.nil
 |s::ss,d::ds,h=>by
  simp only[okF,ο]at h
  refine .cons ?_ (yr h.2)
  cases s with
  |a=>obtain⟨es,rfl,_,h4⟩:=vt (b:=0) h.1;exact⟨es,rfl,h4,λ_ _=>trivial⟩
  |r=>obtain⟨es,rfl,h1,h4⟩:=vt (b:=1) h.1;exact⟨es,rfl,(),h4,λ_ _=>trivial⟩
  |e=>trivial
  |_=>trivial
 |[],_::_,h=>by cases h
 |_::_,[],h=>by cases h
theorem wN{d:Dv}(h:dq d=true):Dj d:=by
 match d,h with
 |.tup (.str x::ds),h=>
  cases hw:dO x with
  |false=>rw[vQ hw]at h;cases h
  |true=>
   obtain⟨p,hp,rfl⟩:=vS hw
   rw[bq hp,ο]at h
   exact⟨p,ds,hp,rfl,yr h.1⟩
 |.tup [],h=>cases h
 |.tup (.non::r),h=>cases h
 |.tup (.bl _::r),h=>cases h
 |.tup (.int _::r),h=>cases h
 |.tup (.tup _::r),h=>cases h
 |.tup (.lst _::r),h=>cases h
 |.tup (.dct::r),h=>cases h
 |.non,h=>cases h
 |.bl _,h=>cases h
 |.int _,h=>cases h
 |.str _,h=>cases h
 |.lst _,h=>cases h
 |.dct,h=>cases h
theorem FV{ds:List Dv}(h:ds.length=5):∃a b c d e,ds=[a,b,c,d,e]:=by
 match ds,h with
 |[a,b,c,d,e],_=>exact⟨a,b,c,d,e,rfl⟩
theorem zd:∀p∈WT,p.1="fold"->p.2.2=[.x,.l,.y,.e,.e]:=by decide +kernel
theorem qE{d:Dv}(h:cp d=true):∃x,d=.str x:=by
 cases d with
 |str x=>exact⟨x,rfl⟩
 |_=>cases h
theorem jo:am ["node","parts","sort","given"] ["node"] (af gA):=by trivial
theorem qg{f gS:Addr}{fd:Γ}(F:Fun K "parts_of" "parts_of" gA f fd)(T:Txt K mg)(S:Shp P w K gS)(GS:mg "SHAPES"=some (.ref gS)):ap P w K mg base CX0 1 f fd ["node"] vp:=by
 have nd:=jo.nd
 refine F.ok jo (λvs H Q E h=>?_) (λcdv A outer s H vs Q E hr h=>?_)
 ·obtain⟨v,d,G,rfl,_⟩:=h
  rfl
 obtain⟨v,d,G,rfl,sG,R,⟨p,ds,hp,rfl,hf⟩,q⟩:=h
 obtain⟨kvs,FS,hS,_⟩:=S.ex
 obtain⟨a,vs,rfl,haG,rs⟩:=Rep.tup_inv R
 obtain⟨v0,ws,rfl,R0,rw'⟩:=cA rs
 have ha:=sG _ _ haG
 obtain rfl:v0=.str p.1:=R0
 obtain⟨b,hb,hbT⟩:=hS p hp
 have lds:=hf.length
 have lws:=rw'.length
 have h5:=fO p hp
 refine⟨_,(@un _ _ _ (wbO (wbM 1 nd rfl (Ν rfl) (waM waf) rfl ()) (wbO (wbH j4 rfl (wbs rfl T.zip (wae (wbu FS (waB (.ref gS) rfl GS rfl ()) (waD aq (wv 0 rfl) waC (λ_ _=>rfl)) (λ_ _=>rfl)) (wae (waT jT (wv 0 rfl) (wbA waC) wbz) waf rfl) rfl) rfl rfl) (wbb rfl (wbd (waZ 2 nd rfl (Ν rfl) ()) (wbd (waZ 3 nd rfl (Ν rfl) ()) wbe rfl) rfl) rfl rfl) (wbO (wbI (wbS aE (wv 2 rfl) waV (ak _)) (wbQ (wbG (waj ϔ b_ c_ cD (wv 1 rfl) (wae (wv 3 rfl) waf rfl) rfl rfl rfl rfl rfl) rfl)) wbP) (wbQ (wbI (wab (wbY (wbS aE (wv 2 rfl) waV (ak _)) (wbZ (wbS aE (wv 2 rfl) waV (ak _))))) (wbQ (wbG (waj ϔ C9 C_ zp (wv 1 rfl) (wae (wv 3 rfl) waf rfl) rfl rfl rfl rfl rfl) rfl)) wbP))) ()) (wbQ (wbK (wv 1 rfl)))))),?_⟩
 dsimp only[bf,Cx.nox]
 refine⟨ϖ _,λl hl=>?_⟩
 have q1:=ac hl (.lst [])
 have l1:upd H l (.lst []) l=some (.lst []):=aa
 generalize upd H l (.lst [])=H1 at q1 l1⊢
 refine gnm ?_
 dsimp only
 refine⟨_,rfl,a,_,0,.str p.1,rfl,rfl,SqT.of (q1 _ _ ha),ah (j:=0) rfl,p.1,b,rfl,rfl,hb,?_⟩
 refine⟨_,rfl,1,rfl,?_⟩
 dsimp only[fW]
 refine jS (q1 _ _ ha) λH2 t s2 ht=>?_
 have ec:dG (V.str p.1::ws) (some 1) none=ws:=fR (V.str p.1::ws) 1
 rw[ec]at ht
 have s02:=q1.trans s2
 have l2:=s2 _ _ l1
 refine⟨b,t,rfl,⟨_,hbT _⟩,⟨_,SqT.of ht⟩,jf (D:={nx:=CO (fY 1) {nx:=λx H'=>Q V.non H',rt:=Q},rt:=Q}) (xs:=p.2.2.map λs=>V.str (srt s)) (ys:=ws) (λi σ H'=>∃(o2 o3:Option V) (us:List V),σ=[some (.ref a),some (.ref l),o2,o3]/\aj H H'/\H' t=some (.tup ws)/\H' l=some (.lst us)/\Reps G (bD (p.2.2.take i) (ds.take i)) us/\us.length<=4*i) ⟨_,_,[],rfl,s02,ht,l2,by simp[bD,Reps],θ _⟩ (λi σ H' ⟨_,_,_,_,_,h,_⟩=>⟨hbT _,SqT.of h⟩) ?T1 ?_⟩
 case T1=>
  rintro i x y σ H3 t3 D1 gR gD hx hy ⟨o2,o3,us,rfl,s3,ht3,l3,R3,lu⟩ hp3
  rw[Ϯ]at hx
  obtain⟨so,hso,rfl⟩:=ϯ.mp hx
  have hi:i<p.2.2.length:=(Ρ.mp hso).1
  obtain⟨d,hd,hfd⟩:=hf.get hso
  obtain⟨y',hy',Ry⟩:=wA rw' hd
  rw[hy]at hy'
  cases hy'
  have q4:=ac hp3 (.tup [.str (srt so),y])
  have ht4:upd H3 t3 (.tup [.str (srt so),y]) t3=some (.tup [.str (srt so),y]):=aa
  have s4:=s3.trans q4
  have l4:=q4 _ _ l3
  have t4:=q4 _ _ ht3
  generalize upd H3 t3 (.tup [.str (srt so),y])=H4 at ht4 s4 l4 t4⊢
  refine⟨t3,_,rfl,SqT.of ht4,rfl,_,_,rfl,_,_,rfl,rfl,?_⟩
  have put:∀(us':List V),Reps G (ptD so d) us'->us'.length<=4->(∃(o2 o3:Option V) (us2:List V),[some (V.ref a),some (.ref l),some (.str (srt so)),some y]=[some (.ref a),some (.ref l),o2,o3]/\aj H (upd H4 l (.lst (us++us')))/\upd H4 l (.lst (us++us')) t=some (.tup ws)/\upd H4 l (.lst (us++us')) l=some (.lst us2)/\Reps G (bD (p.2.2.take (i+1)) (ds.take (i+1))) us2/\us2.length<=4*(i+1)):=λus' Ru lu'=>by
   refine⟨_,_,us++us',rfl,λg o e=>?_,?_,aa,?_,by rw[Ε];omega⟩
   ·rw[ai (ao e hl)];exact s4 g o e
   ·rw[ai (λe=>by rw[e,l4]at t4;cases t4)];exact t4
   ·rw[mM _ _ _ hso hd]
    exact Reps.append R3 Ru
  have same:ptD so d=[]->(∃(o2 o3:Option V) (us2:List V),[some (V.ref a),some (.ref l),some (.str (srt so)),some y]=[some (.ref a),some (.ref l),o2,o3]/\aj H H4/\H4 t=some (.tup ws)/\H4 l=some (.lst us2)/\Reps G (bD (p.2.2.take (i+1)) (ds.take (i+1))) us2/\us2.length<=4*(i+1)):=λe=>by
   refine⟨_,_,us,rfl,s4,t4,l4,?_,()⟩
   rw[mM _ _ _ hso hd,e,Θ]
   exact R3
  replace put:=λus' h1 h2=>gD _ _ (put us' h1 h2)
  replace same:=λe=>gD _ _ (same e)
  refine⟨_,rfl,rfl,_,rfl,av (λh=>?_) (λh=>?_)⟩
  ·have e:=(vZ so).mp (Q7 h)
   subst e
   refine⟨_,rfl,.inl ⟨rfl,_,SqL.of l4⟩,_,rfl,l,_,_,rfl,rfl,l4,by rw[τ];omega,?_⟩
   have fin:=put [y] (bz Ry) (by show 1<=4;decide)
   refine⟨_,rfl,rfl,_,rfl,av (λh2=>absurd ((qm .e).mp (Q7 h2)) ()) (λ_=>⟨_,rfl,rfl,_,rfl,?_⟩)⟩
   rw[show decide (V.str (srt .e)=V.str "things")=false from Q8 λh2=>absurd ((rN .e).mp h2) ()]
   exact aI fin
  ·have ne:so≠.e:=λe=>h (Q9 ((vZ so).mpr e))
   by_cases har:so=.a\/so=.r
   ·obtain⟨es,rfl,l4e⟩:∃es,d=.tup es/\es.length<=4:=by
     rcases har with e|e
     ·subst e;obtain⟨es,h1,h2,_⟩:=hfd;exact⟨es,h1,h2⟩
     ·subst e;obtain⟨es,h1,_,h2,_⟩:=hfd;exact⟨es,h1,h2⟩
    have ek:ptD so (.tup es)=es:=by rcases har with e|e<;>subst e<;>rfl
    obtain⟨b2,zs,rfl,hb2,rz⟩:=Rep.tup_inv Ry
    have lz:=rz.length
    refine tnx ?_
    dsimp only
    refine Dr (aD ?_) λqT=>?_
    ·refine⟨_,rfl,.inl ⟨rfl,_,SqL.of l4⟩,_,rfl,l,b2,_,zs,rfl,rfl,l4,SqT.of (s4 _ _ (sG _ _ hb2)),by rw[τ];omega,put zs (by rw[ek];exact rz) ()⟩
    ·rcases har with e|e
     ·exact⟨_,rfl,rfl,_,rfl,av (λ_=>qT) (λh2=>absurd (Q9 ((qm so).mpr e)) h2)⟩
     ·refine⟨_,rfl,rfl,_,rfl,av (λ_=>qT) (λ_=>⟨_,rfl,rfl,_,rfl,?_⟩)⟩
      rw[Q9 ((rN so).mpr e)]
      exact qT
   ·have na:so≠.a:=λe=>har (.inl e)
    have nr:so≠.r:=λe=>har (.inr e)
    refine tnx ⟨_,rfl,rfl,_,rfl,av (λh2=>absurd ((qm so).mp (Q7 h2)) na) (λ_=>⟨_,rfl,rfl,_,rfl,?_⟩)⟩
    rw[show decide (V.str (srt so)=V.str "things")=false from Q8 λh2=>nr ((rN so).mp h2)]
    refine aI (same ?_)
    cases so with
    |e=>exact absurd rfl ne
    |a=>exact absurd rfl na
    |r=>exact absurd rfl nr
    |_=>rfl
 rintro σ H3 ⟨o2,o3,us,rfl,s3,ht3,l3,R3,lu⟩
 refine⟨_,rfl,q H3 l us s3 hl l3 ?_⟩
 rw[ς,HK (),j9,<-lds,j9]at R3
 rw[parts_of hp]
 exact R3
theorem kW:am ["thing","shape","sort","given"] ["thing"] (af jb):=by trivial
theorem sk{f gS:Addr}{fd:Γ}{k:Nat}(F:Fun K "is_node" "is_node" jb f fd)(T:Txt K mg)(S:Shp P w K gS)(GS:mg "SHAPES"=some (.ref gS))(Dhas_word:Def P w K mg base k "has_word" ["thing"] (spD jh))(Dfits:Def P w K mg base k "fits" ["sort","thing"] yp):ap P w K mg base CX0 (k+1) f fd ["thing"] (spS dq):=by
 have nd:=kW.nd
 refine F.ok kW (λvs H Q E h=>?_) (λcdv A outer s H vs Q E hr h=>?_)
 ·obtain⟨v,d,rfl,_⟩:=h
  rfl
 obtain⟨v,d,rfl,R,hsm,q⟩:=h
 obtain⟨kvs,FS,hS,hS2⟩:=S.ex
 refine⟨_,(@un _ _ _ (wbO (wbI (wab (wbY (wbT (wbV (waq Dhas_word hr rfl (wae (wv 0 rfl) waf rfl) () rfl rfl) ())) (wbZ (wbS (mE FS) (waD aq (wv 0 rfl) waC (λ_ _=>rfl)) (waB (.ref gS) rfl GS rfl ()) (by with_unfolding_all rfl))))) (wbQ (wbK wah)) wbP) (wbO (wbM 1 nd rfl (Ν rfl) (wbu FS (waB (.ref gS) rfl GS rfl ()) (waD aq (wv 0 rfl) waC (λ_ _=>rfl)) (λ_ _=>rfl)) rfl ()) (wbO (wbI (wbS mO (wal ax rfl T.len () (wae (wv 0 rfl) waf rfl) () () rfl rfl) (waQ fu (wal ax rfl T.len () (wae (wv 1 rfl) waf rfl) () () rfl rfl) waC) (ak _)) (wbQ (wbK wah)) wbP) (wbO (wbH j4 rfl (wbs rfl T.zip (wae (wv 1 rfl) (wae (waT jT (wv 0 rfl) (wbA waC) wbz) waf rfl) rfl) rfl rfl) (wbb rfl (wbd (waZ 2 nd rfl (Ν rfl) ()) (wbd (waZ 3 nd rfl (Ν rfl) ()) wbe rfl) rfl) rfl rfl) (wbQ (wbI (wbT (wbV (waq Dfits hr rfl (wae (wv 2 rfl) (wae (wv 3 rfl) waf rfl) rfl) () rfl rfl) ())) (wbQ (wbK wah)) wbP)) ()) (wbQ (wbK (waR (wap mO (waD aq (wv 0 rfl) waC (λ_ _=>rfl)) waV (ak _)) (waP (wap mO (waD aq (wv 0 rfl) waC (λ_ _=>rfl)) (waD aq (wv 0 rfl) waC (λ_ _=>rfl)) (ak _))))))))))),?_⟩
 dsimp only[bf,Cx.nox]
 refine⟨_,rfl,v,d,rfl,R,λH1 s1=>⟨_,rfl,?_⟩⟩
 cases c0:jh d with
 |false=>
  refine aD (aD ?_)
  have:=q H1 s1
  rwa[wX c0]at this
 |true=>
  refine aI ?_
  obtain⟨x,ds,rfl⟩:=kE c0
  obtain⟨a,vs,rfl,ha,rs⟩:=Rep.tup_inv (R.mono s1)
  obtain⟨y,ws,rfl,R0,ru⟩:=cA rs
  obtain rfl:y=.str x:=R0
  have lws:=ru.length
  have hds:smalls ds=true:=by
   simp only[Dv.small,smalls,ο]at hsm
   exact hsm.1.2
  refine⟨_,rfl,a,_,0,.str x,rfl,rfl,SqT.of ha,ah (j:=0) rfl,x,rfl,rfl,_,rfl,?_⟩
  rw[hS2 x]
  show if xor true (dO x)=true then _ else _
  cases hw:dO x with
  |false=>
   refine aD ?_
   have:=q H1 s1
   rwa[vQ hw]at this
  |true=>
   refine aI ?_
   obtain⟨p,hp,rfl⟩:=vS hw
   obtain⟨b,hb,hbT⟩:=hS p hp
   have h5:=fO p hp
   refine⟨_,rfl,a,_,0,.str p.1,rfl,rfl,SqT.of ha,ah (j:=0) rfl,p.1,b,rfl,rfl,hb,?_⟩
   refine⟨_,rfl,a,_,rfl,.inr (SqT.of ha),_,rfl,b,_,rfl,.inr (hbT _),_,_,rfl,rfl,rfl,_,rfl,?_⟩
   by_cases hl:ds.length=p.2.2.length
   ·rw[show(!decide (V.int (((V.str p.1::ws).length:Nat):Int)=V.int ((((p.2.2.map λs=>V.str (srt s)).length:Nat):Int)+1)))=false by
     rw[χ,lws,hl,ς,show((p.2.2.length+1:Nat):Int)=(p.2.2.length:Int)+1 by omega,Q9 rfl];rfl]
    refine aI ?_
    refine⟨_,rfl,_,rfl,1,rfl,?_⟩
    dsimp only[fW]
    refine jS ha λH2 t s2 ht=>?_
    have ec:dG (V.str p.1::ws) (some 1) none=ws:=fR (V.str p.1::ws) 1
    rw[ec]at ht
    have s02:=s1.trans s2
    refine⟨b,t,rfl,⟨_,hbT _⟩,⟨_,SqT.of ht⟩,jf (D:={nx:=CO (DU (tOp rNe (tOp (Ak K) (fY 0) (tC (V.int 0))) (tC (V.str (γ "fold")))) (tOp rNe (tOp (Ak K) (fY 0) (tC (V.int 1))) (tOp (Ak K) (fY 0) (tC (V.int 3))))) {nx:=λx H'=>Q V.non H',rt:=Q},rt:=Q}) (xs:=p.2.2.map λs=>V.str (srt s)) (ys:=ws) (λi σ H'=>∃(o2 o3:Option V),σ=[some (.ref a),some (.ref b),o2,o3]/\aj H2 H'/\okF p.2.2 ds=okF (p.2.2.drop i) (ds.drop i)) ⟨_,_,rfl,aj.refl _,rfl⟩ (λi σ H' ⟨_,_,_,h,_⟩=>⟨hbT _,SqT.of (h _ _ ht)⟩) ?T1 ?_⟩
    case T1=>
     rintro i x y σ H3 t3 D1 gR gD hx hy ⟨o2,o3,rfl,s3,ok3⟩ hp3
     rw[Ϯ]at hx
     obtain⟨so,hso,rfl⟩:=ϯ.mp hx
     obtain⟨d,hd,Ry⟩:=ru.get hy
     have q4:=ac hp3 (.tup [.str (srt so),y])
     have ht4:upd H3 t3 (.tup [.str (srt so),y]) t3=some (.tup [.str (srt so),y]):=aa
     have s4:=s2.trans (s3.trans q4)
     have s24:=s3.trans q4
     generalize upd H3 t3 (.tup [.str (srt so),y])=H4 at ht4 s4 s24⊢
     refine⟨t3,_,rfl,SqT.of ht4,rfl,_,_,rfl,_,_,rfl,rfl,?_⟩
     refine⟨_,rfl,_,rfl,so,y,d,rfl,Ry.mono s4,dc hds hd,λH5 s5=>⟨_,rfl,?_⟩⟩
     rw[yx hso hd]at ok3
     cases hfit:jE so d with
     |false=>
      refine aD ?_
      have:=q H5 (s1.trans (s4.trans s5))
      rw[bq hp,ok3,hfit]at this
      exact gR _ _ this
     |true=>
      refine aI (gD _ _ ⟨_,_,rfl,s24.trans s5,?_⟩)
      rw[ok3,hfit,ϲ]
    rintro σ H3 ⟨o2,o3,rfl,s3,ok3⟩
    have okk:okF p.2.2 ds=true:=by
     rw[ok3,ς,HK (),Ho,<-hl,Ho]
     rfl
    have s23:=s2.trans s3
    have qq:=q H3 (s1.trans s23)
    rw[bq hp,okk,ϲ]at qq
    refine⟨_,rfl,a,_,0,.str p.1,rfl,rfl,SqT.of (s23 _ _ ha),ah (j:=0) rfl,rfl,_,rfl,?_⟩
    show if (!decide (V.str p.1=V.str "fold"))=true then _ else _
    rw[dC]
    by_cases hf:p.1="fold"
    ·rw[Q9 hf]
     refine aI ?_
     have hss:=zd p hp hf
     rw[hss]at okk
     have l5:ds.length=5:=by rw[hl,hss];rfl
     obtain⟨d1,d2,d3,d4,d5,rfl⟩:=FV l5
     ·simp only[okF,jE,ο]at okk
      obtain⟨x1,rfl⟩:=qE okk.1
      obtain⟨x3,rfl⟩:=qE okk.2.2.1
      obtain⟨u1,r1,rfl,R1,ru⟩:=cA ru
      obtain⟨u2,r2,rfl,R2,ru⟩:=cA ru
      obtain⟨u3,r3,rfl,R3,ru⟩:=cA ru
      obtain rfl:u1=.str x1:=R1
      obtain rfl:u3=.str x3:=R3
      refine⟨_,rfl,a,_,1,.str x1,rfl,rfl,SqT.of (s23 _ _ ha),ah (j:=1) rfl,_,rfl,a,_,3,.str x3,rfl,rfl,SqT.of (s23 _ _ ha),ah (j:=3) rfl,rfl,?_⟩
      show Q (.bl (!decide (V.str x1=V.str x3))) H3
      rw[dC]
      rw[show decide (p.1≠"fold")=false from Q8 (λz=>z hf),Bool.false_or]at qq
      have e:jm [.str x1,d2,.str x3,d4,d5]=!decide (x1=x3):=by
       show decide (x1≠x3)=_
       by_cases h:x1=x3
       ·rw[Q9 h,Q8 (λz=>z h)];rfl
       ·rw[Q8 h,Q9 h];rfl
      rw[e]at qq
      exact qq
    ·rw[Q8 hf]
     refine aD ?_
     rw[Q9 hf,Bool.true_or]at qq
     exact qq
   ·rw[show(!decide (V.int (((V.str p.1::ws).length:Nat):Int)=V.int ((((p.2.2.map λs=>V.str (srt s)).length:Nat):Int)+1)))=true by
     rw[Q8 λz=>hl (by injection z with z;rw[χ,lws,ς]at z;omega)];rfl]
    refine aD ?_
    have:=q H1 s1
    rw[bq hp]at this
    cases ho:okF p.2.2 ds with
    |true=>exact absurd (nC ho) hl
    |false=>rw[ho]at this;exact this
abbrev iE:Stmt:=top 41
def exN:Nat->Dv->Nat
 |0,_=>99
 |n+1,d=>if dq d=true then 1+((bb d).map (exN n)).sum else 99
def xr:Sp:=spS λd=>decide (exN 8 d<=40)
theorem jR(n:Nat)(d:Dv):1<=exN n d:=by
 cases n with
 |zero=>show 1<=99;decide
 |succ n=>unfold exN;split<;>omega
def prD(p:Dv×Nat):Dv:=.tup [p.1,.int p.2]
def kx(ws:List (Dv×Nat)):Nat:=(ws.map λp=>exN (8-p.2) p.1).sum
theorem rE(xs ys:List (Dv×Nat)):kx (xs++ys)=kx xs+kx ys:=by unfold kx;rw[ϊ,E1]
theorem uo{ds:List Dv}(h:smalls ds=true):∀d∈ds,d.small=true:=by
 induction ds with
 |nil=>intro d hd;cases hd
 |cons x ds ih=>
  simp only[smalls,ο]at h
  intro d hd
  rcases ι.mp hd with rfl|hd
  ·exact h.1
  ·exact ih h.2 d hd
theorem ku{ds:List Dv}(h:(Dv.tup ds).small=true):∀d∈ds,d.small=true:=by
 simp only[Dv.small,ο]at h
 exact uo h.1
theorem jj{d:Dv}(h:d.small=true):∀e∈yF d,e.small=true:=by
 cases d with
 |tup ds=>exact ku h
 |_=>intro e he;cases he
theorem nj:∀(ss:List So)(ds:List Dv),(∀d∈ds,d.small=true)->∀e∈bD ss ds,e.small=true
 |[],_,_,e,he=>by simp[bD]at he
 |_::_,[],_,e,he=>by simp[bD]at he
 |s::ss,d::ds,h,e,he=>by
  rcases Φ.mp (show e∈ptD s d++bD ss ds from he)with h1|h1
  ·cases s with
   |e=>rw[ξ.mp h1];exact h d ν
   |a=>exact jj (h d ν) e h1
   |r=>exact jj (h d ν) e h1
   |_=>cases h1
  ·exact nj ss ds (λx hx=>h x (π _ hx)) e h1
theorem pX{d:Dv}(h:d.small=true):∀e∈bb d,e.small=true:=by
 match d,h with
 |.tup (.str w::ds),h=>exact nj _ ds λx hx=>ku h x (π _ hx)
 |.tup [],_=>intro e he;cases he
 |.tup (.non::r),_=>intro e he;cases he
 |.tup (.bl _::r),_=>intro e he;cases he
 |.tup (.int _::r),_=>intro e he;cases he
 |.tup (.tup _::r),_=>intro e he;cases he
 |.tup (.lst _::r),_=>intro e he;cases he
 |.tup (.dct::r),_=>intro e he;cases he
 |.non,_=>intro e he;cases he
 |.bl _,_=>intro e he;cases he
 |.int _,_=>intro e he;cases he
 |.str _,_=>intro e he;cases he
 |.lst _,_=>intro e he;cases he
 |.dct,_=>intro e he;cases he
theorem qr{d:Dv}(h:Dj d):(bb d).length<=4:=by
 obtain⟨p,ds,hp,rfl,hf⟩:=h
 rw[XB.parts_of hp]
 exact ϕ (zi hf).2 (zB p hp)
theorem lg:am ["thing","count","waiting","found","node","above"] ["thing"] (af iE):=by trivial
theorem lh{f:Addr}{fd:Γ}{k:Nat}(F:Fun K "is_expression" "is_expression" iE f fd)(T:Txt K mg)(Dis_node:Def P w K mg base k "is_node" ["thing"] (spS dq))(Dparts_of:Def P w K mg base k "parts_of" ["node"] vp):ap P w K mg base CX0 (k+1) f fd ["thing"] xr:=by
 have nd:=lg.nd
 refine F.ok lg (λvs H Q E h=>?_) (λcdv A outer s H vs Q E hr h=>?_)
 ·obtain⟨v,d,rfl,_⟩:=h
  rfl
 obtain⟨v,d,rfl,R,hsm,q⟩:=h
 replace q:∀(H':Hp),aj H H'->Q (V.bl (decide (exN 8 d<=40))) H':=q
 refine⟨_,(@un _ _ _ (wbO (wbM 1 nd rfl (Ν rfl) waC rfl ()) (wbO (wbM 2 nd rfl (Ν rfl) (waM (wae (waX (wae (wv 0 rfl) (wae waC waf rfl) rfl)) waf rfl)) rfl ()) (wbO (wbN j4 (wbU (wv 2 rfl) (λ_=>rfl)) (wbO (wbM 3 nd rfl (Ν rfl) (wak ϔ PySem.F.slot_list_pop PySem.F.type_list_pop xX (wv 2 rfl) rfl rfl) rfl ()) (wbO (wbM 4 nd rfl (Ν rfl) (waD aq (wv 3 rfl) waC (λ_ _=>rfl)) rfl ()) (wbO (wbM 5 nd rfl (GT rfl) (waD aq (wv 3 rfl) waC (λ_ _=>rfl)) rfl ()) (wbO (wbE 1 nd rfl (Ν rfl) waC yO ()) (wbO (wbI (wab (wbY (wbS rP (wv 1 rfl) ⟨T.g_MOST_NODES rfl⟩ (ak _)) (wbY (wbS rP (wv 5 rfl) ⟨T.g_MOST_ABOVE rfl⟩ (ak _)) (wbZ (wbT (wbV (waq Dis_node hr rfl (wae (wv 4 rfl) waf rfl) () rfl rfl) ())))))) (wbQ (wbK wah)) wbP) (wbQ (wbG (waj ϔ C9 C_ mw (wv 2 rfl) (wae (waE ["part"] [5] (wbi (waq Dparts_of hr rfl (wae (wv 4 rfl) waf rfl) () rfl rfl)) (.of rfl) rfl (λ_ _ _=>⟨pg_name (i:=0) (bZ (l:=["part","above"]) (()) rfl) rfl (Ν rfl)⟩) (bF ()) (λ_ _ _=>wbx) (λ_ _ _=>(waX (wae (wv 0 rfl) (wae (waQ fu (wv 1 rfl) waC) waf rfl) rfl))) ()) waf rfl) rfl rfl rfl rfl rfl) rfl)))))))) (wbQ (wbK wah)))))),?_⟩
 dsimp only[bf,Cx.nox]
 refine⟨_,rfl,z2,λt0 ht0=>⟨z1,λW1 hW=>?_⟩⟩
 have q0:=ac ht0 (.tup [v,.int 0])
 have q1:=ac hW (.lst [.ref t0])
 have r0:Rep (upd H t0 (.tup [v,.int 0])) (prD (d,0)) (.ref t0):=by
  unfold prD
  rw[Rep]
  exact⟨t0,_,rfl,aa,by simp only[Reps];exact⟨_,_,rfl,R.mono q0,_,_,rfl,by simp only[Rep];rfl,rfl⟩⟩
 refine qG (λm σ H'=>∃(o3 o4 o5:Option V) (cnt:Nat) (ws:List (Dv×Nat)) (vs:List V),σ=[some v,some (.int cnt),some (.ref W1),o3,o4,o5]/\aj H (be H' W1)/\H' W1=some (.lst vs)/\Reps (be H' W1) (ws.map prD) vs/\(∀p∈ws,p.1.small=true/\p.2<=8)/\(cnt+kx ws<=40↔exN 8 d<=40)/\m=40-cnt/\cnt<=40/\ws.length<=1+4*cnt) 40
  ⟨_,_,_,0,[(d,0)],[.ref t0],rfl,q0.trans (gN q1 hW),aa,bz (r0.mono (gN q1 hW)),λp hp=>by rw[ξ.mp hp];exact⟨hsm,ϖ _⟩,by simp[kx],rfl,(),θ _⟩ ?_ kf
 rintro m σ H1 D1 gR gD ⟨o3,o4,o5,cnt,ws,vs,rfl,s1,w1,R1,sm,eq,rfl,c40,lw⟩
 have s01:aj H H1:=s1.trans bL
 refine⟨_,rfl,_,.inl ⟨vs,SqL.of w1,rfl⟩,?_⟩
 by_cases ne:ws=[]
 ·subst ne
  have e:vs=[]:=by simpa only[i9,Reps]using R1
  subst e
  refine aI ?_
  have:=q H1 s01
  rw[Q9 (eq.mp (by simpa[kx]using c40))]at this
  exact this
 ·obtain⟨w0,x,rfl⟩:=vk ne
  rw[ϊ]at R1
  obtain⟨v0,u,rfl,Ra,Ru⟩:=iC R1
  have e:(!(v0++[u]).isEmpty)=true:=by simp
  rw[e]
  refine aD ?_
  rw[rE]at eq
  have wx:kx [x]=exN (8-x.2) x.1:=by simp[kx]
  rw[wx]at eq
  rw[Ε,i7]at lw
  obtain⟨smx,x8⟩:=sm x ()
  refine⟨_,rfl,.inl ⟨rfl,_,SqL.of w1⟩,W1,_,_,rfl,rfl,w1,qN _ _,?_⟩
  rw[Go]
  have t2:aj (be H1 W1) (be (upd H1 W1 (.lst v0)) W1):=nF
  have w2:upd H1 W1 (.lst v0) W1=some (.lst v0):=aa
  have s02:aj H _:=s1.trans (t2.trans bL)
  generalize upd H1 W1 (.lst v0)=H2 at t2 w2 s02⊢
  obtain⟨t,us,rfl,ht,ru⟩:=Rep.tup_inv (show Rep (be H1 W1) (.tup [x.1,.int x.2]) u from Ru)
  obtain⟨y,z,rfl,Ry,Rz⟩:=Reps.two ru
  obtain rfl:z=.int x.2:=Rz
  have ht2:=bL _ _ (t2 _ _ ht)
  have xp:=jR (8-x.2) x.1
  refine⟨_,rfl,t,_,0,y,rfl,rfl,SqT.of ht2,ah (j:=0) rfl,?_⟩
  refine⟨_,rfl,t,_,1,.int x.2,rfl,rfl,SqT.of ht2,ah (j:=1) rfl,?_⟩
  refine⟨_,rfl,_,_,rfl,rfl,?_⟩
  refine⟨_,rfl,_,_,rfl,rfl,_,rfl,?_⟩
  refine av (λh=>?_) (λh=>?_)
  ·have h':(40:Int)<(cnt:Int)+1:=Q7 h
   have:=q H2 s02
   rw[Q8 (λz=>by have:=eq.mpr z;omega)]at this
   exact aD (gR _ _ this)
  have h':cnt+1<=40:=by have z:¬ ((40:Int)<(cnt:Int)+1):=of_decide_eq_false (y9.mpr h);omega
  refine⟨_,rfl,_,_,rfl,rfl,_,rfl,?_⟩
  refine av (λh2=>?_) (λh2=>?_)
  ·have h2':(7:Int)<(x.2:Int):=Q7 h2
   have:=q H2 s02
   rw[Q8 (λz=>by
    have:=eq.mpr z
    rw[show 8-x.2=0 by omega]at this
    have e99:exN 0 x.1=99:=rfl
    omega)]at this
   exact aD (gR _ _ this)
  have h2':x.2<=7:=by have z:¬ ((7:Int)<(x.2:Int)):=of_decide_eq_false (y9.mpr h2);omega
  obtain⟨j,hj⟩:∃j,8-x.2=j+1:=⟨7-x.2,()⟩
  refine⟨_,rfl,y,x.1,rfl,Ry.mono (t2.trans bL),smx,λH3 s3=>⟨_,rfl,?_⟩⟩
  have s03:=s02.trans s3
  cases c:dq x.1 with
  |false=>
   have:=q H3 s03
   rw[Q8 (λz=>by
    have:=eq.mpr z
    have e99:exN (8-x.2) x.1=99:=by rw[hj];unfold exN;rw[c];rfl
    omega)]at this
   exact aD (gR _ _ this)
  |true=>
   refine aI ?_
   have w3:=s3 _ _ w2
   have t3:=t2.trans (bI (l:=W1) s3)
   have hW3:H3 W1≠none:=by rw[w3];exact nofun
   have nn:=wN c
   have p4:=qr nn
   have exj:exN (8-x.2) x.1=1+((bb x.1).map (exN j)).sum:=by rw[hj];show(if dq x.1=true then _ else _)=_;rw[c];rfl
   refine tnx ⟨_,rfl,.inl ⟨rfl,_,SqL.of w3⟩,_,rfl,y,x.1,be H3 W1,rfl,bL,Ry.mono t3,nn,λH4 l ks s4 hl h4 R4=>⟨l,rfl,⟨_,SqL.of h4⟩,nP (xs:=ks) (λi ys H'=>aj H4 H'/\Reps (be H' W1) (((bb x.1).take i).map λe=>prD (e,x.2+1)) ys) ⟨aj.refl _,by simp[Reps]⟩ (λi ys H' _ p=>SqL.of (p.1 _ _ h4)) ?_ ?_⟩⟩
   ·rintro i ys H5 pv hpv ⟨s5,R5⟩
    obtain⟨e,he,Re⟩:=R4.get hpv
    have hi:i<(bb x.1).length:=(Ρ.mp he).1
    refine bP ⟨_,rfl,_,rfl,_,_,rfl,rfl,z2,λp hp=>⟨?_,s5.trans (ac hp _),?_⟩⟩
    ·rw[R5.length,ς,Ϗ,τ];omega
    ·have hW5:H5 W1≠none:=by rw[s5 _ _ (s4 _ _ w3)];exact nofun
     obtain⟨e1,e2⟩:=wq (o:=.tup [pv,.int ((x.2:Int)+1)]) hW5 hp
     rw[m5,he,ϊ]
     refine Reps.append (R5.mono e2) ?_
     refine bz (show Rep _ (.tup [e,.int ((x.2+1:Nat):Int)]) (.ref p)from ?_)
     rw[Rep]
     refine⟨p,_,rfl,e1,?_⟩
     simp only[Reps]
     exact⟨_,_,rfl,(Re.mono (bI (s4.trans s5))).mono e2,_,_,rfl,by simp only[Rep];rfl,rfl⟩
   ·rintro ys H5 ⟨s5,R5⟩ r hr'
    have q6:=ac hr' (.lst ys)
    have lk:=R4.length
    rw[lk,j9]at R5
    have lys:=R5.length
    rw[ς]at lys
    have w5:=q6 _ _ (s5 _ _ (s4 _ _ w3))
    have lv:=Ra.length
    rw[ς]at lv
    refine⟨W1,r,_,_,rfl,rfl,w5,aa,by rw[τ];omega,?_⟩
    have hW5:H5 W1≠none:=by rw[s5 _ _ (s4 _ _ w3)];exact nofun
    have t6:aj (be H5 W1) (be (upd (upd H5 r (.lst ys)) W1 (.lst (v0++ys))) W1):=(bI q6).trans nF
    have t16:=t3.trans ((bI (s4.trans s5)).trans t6)
    refine gD (40-(cnt+1)) _ _ () ⟨_,_,_,cnt+1,w0++(bb x.1).map λe=>(e,x.2+1),v0++ys,rfl,s1.trans t16,aa,?_,?_,?_,rfl,h',?_⟩
    ·rw[ϊ]
     refine Reps.append (Ra.mono t16) ?_
     rw[i_]
     exact R5.mono t6
    ·intro p hp
     rcases Φ.mp hp with h1|h1
     ·exact sm p (f_ _ h1)
     ·obtain⟨e,he,rfl⟩:=Ϡ.mp h1
      exact⟨pX smx e he,by show x.2+1<=8;omega⟩
    ·rw[<-eq,rE,exj]
     have e7:kx ((bb x.1).map λe=>(e,x.2+1))=((bb x.1).map (exN j)).sum:=by
      unfold kx
      rw[i_]
      congr 1
      refine List.map_congr_left λe _=>?_
      show exN (8-(x.2+1)) e=exN j e
      rw[show 8-(x.2+1)=j by omega]
     rw[e7]
     constructor<;>intro z<;>omega
    ·rw[Ε,ς];omega
theorem DQ{x:Str}:aA (.tup [.str x])=if x="whole" then 1 else 99:=by rw[aA]
theorem DY{x:Str}{l:Dv}:aA (.tup [.str x,l])=if x="place"/\slD l=true then 1 else 99:=by rw[aA]
theorem Ah{x:Str}{a b:Dv}:aA (.tup [.str x,a,b])=if x="pair" then 1+aA a+aA b else if x="row"/\slD a=true then 1+aA b else 99:=by rw[aA]
def SL(c:Int)(ps:List Pr):Prop:=slD (bA c ps)=true/\(bA c ps).small=true
theorem lV:∀{ps:List Pr}{l:Str},ps.Pairwise (λp q=>p.1.cps.toList<q.1.cps.toList)->(∀p∈ps,1<=p.2)->(∀p∈ps,nmB p.1=true)->(∀p∈ps,l.cps.toList<p.1.cps.toList)->goD l (aT ps)=true
 |[],_,_,_,_,_=>rfl
 |p::ps,l,h1,h2,h3,h4=>by
  have e:aT (p::ps)=.tup [.str p.1,.int p.2]::aT ps:=rfl
  rw[e,goD]
  have h1':=G5.mp h1
  show(fz _&&(decide (l.cps.toList<p.1.cps.toList)&&goD p.1 (aT ps)))=true
  rw[lV h1'.2 (λq hq=>h2 q (π _ hq)) (λq hq=>h3 q (π _ hq)) (λq hq=>h1'.1 q hq)]
  show((nmB p.1&&(true&&decide (1<=p.2)))&&(decide (l.cps.toList<p.1.cps.toList)&&true))=true
  rw[h3 p ν,Q9 (h2 p ν),Q9 (h4 p ν)]
  rfl
theorem gW:∀{ps:List Pr},(∀p∈ps,p.1.cps.size<=8)->smalls (aT ps)=true
 |[],_=>rfl
 |p::ps,h=>by
  simp only[aT,Μ,smalls,Dv.small,ο,decide_eq_true_eq]
  refine⟨⟨⟨by have:=h p ν;omega,trivial,trivial⟩,()⟩,gW λq hq=>h q (π _ hq)⟩
theorem aS{x:Str}(h:nmB x=true):1<=x.cps.size/\x.cps.size<=8:=by
 unfold nmB at h
 simp only[ο,decide_eq_true_eq]at h
 exact h.1
theorem yt{x:Str}(h:nmB x=true):(γ "").cps.toList<x.cps.toList:=by
 have:=(aS h).1
 have e:(γ "").cps.toList=[]:=by decide +kernel
 rw[e]
 cases hx:x.cps.toList with
 |nil=>
  have:x.cps.toList.length=x.cps.size:=by simp
  rw[hx]at this;simp at this;omega
 |cons c cs=>exact List.nil_lt_cons c cs
theorem Dh{c:Int}{ps:List Pr}(c0:0<=c)(c1:c<=99)(can:yR ps)(hl:ps.length<=900)(hn':∀p∈ps,nmB p.1=true/\p.2<=99):SL c ps:=by
 constructor
 ·show((true&&(decide (0<=c)&&goD "" (aT ps)))&&(decide (c<=99)&&(aT ps).all λp=>decide (dD p<=99)))=true
  rw[lV can.1 can.2 (λp hp=>(hn' p hp).1) (λp hp=>yt (hn' p hp).1),Q9 c0,Q9 c1]
  rw[show((aT ps).all λp=>decide (dD p<=99))=true by
   rw[ϸ]
   intro d hd
   obtain⟨p,hp,rfl⟩:=Ϡ.mp hd
   exact Q9 (hn' p hp).2]
  rfl
 ·have h8:∀p∈ps,p.1.cps.size<=8:=λp hp=>(aS (hn' p hp).1).2
  have h1:=gW h8
  have h2:(Dv.tup (aT ps)).small=true:=by
   simp only[Dv.small,h1,ϲ]
   exact Q9 (by rw[show(aT ps).length=ps.length from ς _];omega)
  show(Dv.tup [.int c,.tup (aT ps)]).small=true
  simp only[Dv.small,smalls]at h2⊢
  simp only[h2,ϲ,t9]
  rfl
theorem aX{ds:List Dv}(h:∀d∈ds,d.small=true)(hl:ds.length<=1000):(Dv.tup ds).small=true:=by
 have:∀ds:List Dv,(∀d∈ds,d.small=true)->smalls ds=true:=by
  intro ds
  induction ds with
  |nil=>intro _;rfl
  |cons d ds ih=>intro h;simp only[smalls,ο];exact⟨h d ν,ih λe he=>h e (π _ he)⟩
 simp only[Dv.small,this ds h,ϲ]
 exact Q9 hl
theorem fw:∀{k:Kd},k.All SL->k.dv.small=true
 |.whole,_=>by decide +kernel
 |.place c ps,h=>aX (λd hd=>by
   rcases ι.mp hd with rfl|hd
   ·decide +kernel
   ·rw[ξ.mp hd];exact h.2) (by show 2<=1000;decide)
 |.row c ps k,h=>aX (λd hd=>by
   rcases ι.mp hd with rfl|hd
   ·decide +kernel
   ·rcases ι.mp hd with rfl|hd
    ·exact h.1.2
    ·rw[ξ.mp hd];exact fw h.2) (by show 3<=1000;decide)
 |.pair i j,h=>aX (λd hd=>by
   rcases ι.mp hd with rfl|hd
   ·decide +kernel
   ·rcases ι.mp hd with rfl|hd
    ·exact fw h.1
    ·rw[ξ.mp hd];exact fw h.2) (by show 3<=1000;decide)
theorem fP:∀{k:Kd},k.All SL->aA k.dv=k.size
 |.whole,_=>by show aA (.tup [.str "whole"])=1;rw[DQ,Q5 rfl]
 |.place c ps,h=>by show aA (.tup [.str "place",bA c ps])=1;rw[DY,Q5 ⟨rfl,h.1⟩]
 |.row c ps k,h=>by show aA (.tup [.str "row",bA c ps,k.dv])=k.size+1;rw[Ah,Q6 w6,Q5 ⟨rfl,h.1.1⟩,fP h.2];omega
 |.pair i j,h=>by show aA (.tup [.str "pair",i.dv,j.dv])=i.size+j.size+1;rw[Ah,Q5 rfl,fP h.1,fP h.2];omega
theorem oV{l:List Nat}{x:Nat}(h:x∈l):x<=l.sum:=by
 induction l with
 |nil=>cases h
 |cons y l ih=>
  rw[o8]
  rcases ι.mp h with rfl|h
  ·omega
  ·have:=ih h;omega
abbrev rY:Stmt:=top 71
abbrev nV:Stmt:=top 72
abbrev oX:Stmt:=top 73
def St2(H:Hp)(a:Addr):Prop:=∃(n:Int) (b:Bool),H a=some (.lst [.int n,.bl b])
theorem St2.m{H H':Hp}{a:Addr}(h:St2 H a)(s:aj H H'):St2 H' a:=let ⟨i,c,e⟩:=h;⟨i,c,s _ _ e⟩
def nW:Sp:=λvs H Q _=>∃(a:Addr) (m:Int),vs=[.ref a,.int m]/\St2 H a/\0<m/\m<10^40/\∀(H':Hp)(x:Int),ay a H H'->St2 H' a->0<=x->x<m->Q (.int x) H'
def vG(K:ζ):Sp:=λvs H Q _=>∃(s:Addr) (ns:List Int) (k:Int),vs=[.ref s,.int k]/\SqL K H s (ns.map V.int)/\0<=k/\∀(H':Hp)(a:Addr),aj H H'->H a=none->St2 H' a->Q (.ref a) H'
def czB(c:Nat):Bool:=azB c && !([97,101,105,111,117].contains c)
def Az(x:Str)(n:Nat):Prop:=x.cps.toList.length=n/\∀c∈x.cps.toList,czB c=true
theorem Az.len{x:Str}{n:Nat}(h:Az x n):x.length=n:=by
 have e:x.cps.toList.length=x.length:=ψ
 rw[<-e];exact h.1
theorem sI{x y:Str}{n m:Nat}(h:Az x n)(g:Az y m):Az (x++y) (n+m):=by
 have e:=GA x y
 refine⟨by rw[e,Ε,h.1,g.1],λc hc=>?_⟩
 rw[e]at hc
 rcases Φ.mp hc with hc|hc
 ·exact h.2 c hc
 ·exact g.2 c hc
theorem pC{c:Nat}(h:czB c=true):Az ⟨#[c]⟩ 1:=⟨rfl,λd hd=>by
 have e:d=c:=by simpa using hd
 rw[e];exact h⟩
theorem yi:Az Hj 0:=⟨rfl,λd hd=>by cases hd⟩
theorem za{x:Str}{n:Nat}{i:Int}(h:Az x n)(h0:0<=i)(h1:i<=n):Az (Txt.slice x (some i) none) (n-i.toNat):=by
 have e:=G6 (x:=x) (i:=i) (b:=(x.length:Int)) h0 (by rw[h.len];exact h1) rfl
 rw[e]
 refine⟨?_,λc hc=>?_⟩
 ·show((x.cps.toList.drop i.toNat).take ((x.length:Int)-i).toNat).toArray.toList.length=_
  simp only[Ϗ,ϡ,h.1,h.len]
  omega
 ·have hc':c∈(x.cps.toList.drop i.toNat).take ((x.length:Int)-i).toNat:=by simpa using hc
  exact h.2 c (List.mem_of_mem_drop (List.mem_of_mem_take hc'))
theorem ES{x:Str}{n:Nat}{i:Int}(h:Az x n)(h0:0<=i)(h1:i<=n):Az (Txt.slice x none (some i)) i.toNat:=by
 have e:=eq_of_beq (Gp (x:=x) (j:=i) h0 (by rw[h.len];exact h1))
 rw[e]
 refine⟨?_,λc hc=>?_⟩
 ·show((x.cps.toList.drop (0:Int).toNat).take (i-0).toNat).toArray.toList.length=_
  simp only[Ϗ,ϡ,h.1]
  have:(0:Int).toNat=0:=rfl
  omega
 ·have hc':c∈(x.cps.toList.drop (0:Int).toNat).take (i-0).toNat:=by simpa using hc
  exact h.2 c (List.mem_of_mem_drop (List.mem_of_mem_take hc'))
theorem DK{x:Str}{n:Nat}(h:Az x n)(h1:1<=n)(h8:n<=8):nmB x=true:=by
 unfold nmB
 have e:x.cps.size=n:=by have:=h.1;simpa using this
 rw[e,Q9 h1,Q9 h8,Bool.and_self,ϲ]
 exact ϸ.mpr λc hc=>(ο _ _▸h.2 c hc:azB c=true/\_).1
def Cn(x:Str):Prop:=nmB x=true/\∀c∈x.cps.toList,czB c=true
def Nth(z:Int)(n:Nat)(ws:List Str):Prop:=∀(j:Nat)(u:Str),ws[j]?=some u->∃c,atI (γ "bcdfghjklmnpqrstvwxyz").cps.toList ((z+5*(j:Int))%21)=some c/\u.cps.toList[n]?=some c
theorem Nth.nil{z:Int}{n:Nat}:Nth z n []:=λj u h=>by simp at h
theorem Nth.snoc{z:Int}{n c:Nat}{ws:List Str}{x y:Str}(h:Nth z n ws)(hc:atI (γ "bcdfghjklmnpqrstvwxyz").cps.toList ((z+5*(ws.length:Int))%21)=some c)(hx:x.cps.toList.length=n):Nth z n (ws++[x++⟨#[c]⟩++y]):=λj u e=>by
 by_cases hj:j<ws.length
 ·rw[u9 hj]at e;exact h j u e
 ·rw[g_ ()]at e
  have hj2:j=ws.length:=by
   have:=(Ρ.mp e).1
   rw[i7]at this;omega
  subst hj2
  rw[Hx]at e
  cases e
  refine⟨c,hc,?_⟩
  rw[GA,GA,Ϣ,g_ (),hx,Hx]
  rfl
theorem zc:∀a:Nat,a<21->∀b:Nat,b<21->(γ "bcdfghjklmnpqrstvwxyz").cps.toList[a]?=(γ "bcdfghjklmnpqrstvwxyz").cps.toList[b]?->a=b:=by decide +kernel
theorem Nth.nodup{z:Int}{n:Nat}{ws:List Str}(h:Nth z n ws)(hl:ws.length<=21):ws.Nodup:=by
 rw[List.Nodup,List.pairwise_iff_getElem]
 intro i j hi hj hij e
 obtain⟨c,h1,h2⟩:=h i _ (Ι hi)
 obtain⟨d,h3,h4⟩:=h j _ (Ι hj)
 rw[e,h4]at h2
 cases h2
 have k:∀a:Int,0<=a->∀v,atI (γ "bcdfghjklmnpqrstvwxyz").cps.toList a=some v->(γ "bcdfghjklmnpqrstvwxyz").cps.toList[a.toNat]?=some v:=λa ha v hv=>by
  unfold atI ixN at hv
  rw[Q5 ha]at hv
  split at hv
  ·exact hv
  ·cases hv
 have e1:=k _ () _ h1
 have e2:=k _ () _ h3
 have:=zc ((z+5*(i:Int))%21).toNat () ((z+5*(j:Int))%21).toNat () (by rw[e1,e2])
 omega
def vJ:Sp:=λvs H Q _=>∃(a:Addr) (m:Nat),vs=[.ref a,.int m]/\St2 H a/\m<=10/\∀(H':Hp)(r:Addr)(xs:List Str),ay a H H'->St2 H' a->H r=none->H' r=some (.lst (xs.map V.str))->xs.length=m->(∀x∈xs,Cn x)->xs.Nodup->Q (.ref r) H'
theorem yA:∀j,j<21->∃c,(γ "bcdfghjklmnpqrstvwxyz").cps.toList[j]?=some c/\czB c=true:=by
 have h:∀j,j<21->(((γ "bcdfghjklmnpqrstvwxyz").cps.toList[j]?).map czB)=some true:=by decide +kernel
 intro j hj
 obtain⟨c,e1,e2⟩:=ϯ.mp (h j hj)
 exact⟨c,e1,e2⟩
theorem vD{i:Int}(h0:0<=i)(h1:i<21):∃c,atI (γ "bcdfghjklmnpqrstvwxyz").cps.toList i=some c/\czB c=true:=by
 obtain⟨c,e,h⟩:=yA i.toNat ()
 have q:=ah e
 rw[show((i.toNat:Nat):Int)=i by omega]at q
 exact⟨c,q,h⟩
theorem uU:am ["_law_state_here","_law_many","_law_found"] ["_law_state_here","_law_many"] (af rY):=by trivial
theorem zV{f:Addr}{fd:Γ}(F:Fun K "_law_draw" "_law_draw" rY f fd)(T:Txt K mg):ap P w K mg base CX0 1 f fd ["_law_state_here","_law_many"] nW:=by
 have nd:=uU.nd
 refine F.ok uU (λvs H Q E h=>?_) (λcdv A outer s H vs Q E hr h=>?_)
 ·obtain⟨a,m,rfl,_⟩:=h
  rfl
 obtain⟨a,m,rfl,⟨n,b,ha⟩,m0,mB,q⟩:=h
 refine⟨_,(@un _ _ _ (wbO (wbI (wbV (waD aZ (wv 0 rfl) waC (λ_ _=>rfl)) ()) (wbO (wbM 2 nd rfl (Ν rfl) (waQ iK (waD aZ (wv 0 rfl) waC (λ_ _=>rfl)) (wv 1 rfl)) rfl ()) (wbO (wbD (waQ qo (waD aZ (wv 0 rfl) waC (λ_ _=>rfl)) (wv 1 rfl)) (wba (wv 0 rfl) waC rg ()) rfl rfl rfl) (wbQ (wbK (wv 2 rfl))))) wbP) (wbO (wbD (waQ iK (waQ fu (waQ kK (waD aZ (wv 0 rfl) waC (λ_ _=>rfl)) waC) waC) waC) (wba (wv 0 rfl) waC rg ()) rfl rfl rfl) (wbQ (wbK (waQ iK (waQ iK (waQ kK (waQ qo (waQ iK (waQ kK (waD aZ (wv 0 rfl) waC (λ_ _=>rfl)) waC) waC) waC) waC) waC) (wv 1 rfl))))))),?_⟩
 dsimp only[bf,Cx.nox]
 refine⟨_,rfl,a,_,1,.bl b,rfl,rfl,SqL.of ha,ah (j:=1) rfl,_,rfl,?_⟩
 cases b with
 |true=>
  refine aD ?_
  refine⟨_,rfl,a,_,0,.int n,rfl,rfl,SqL.of ha,ah (j:=0) rfl,_,rfl,_,_,rfl,rfl,m0,?_⟩
  refine⟨_,rfl,a,_,0,.int n,rfl,rfl,SqL.of ha,ah (j:=0) rfl,_,rfl,_,_,rfl,rfl,⟨m0,()⟩,_,rfl,a,_,0,0,rfl,rfl,ha,rfl,?_⟩
  exact⟨_,rfl,q _ _ (ay.upd _ _ _) ⟨_,_,aa⟩ (kb m m0).1 (kb m m0).2⟩
 |false=>
  refine aI ?_
  refine⟨_,rfl,a,_,0,.int n,rfl,rfl,SqL.of ha,ah (j:=0) rfl,_,_,rfl,rfl,.inr ⟨(),()⟩,_,_,rfl,rfl,_,_,rfl,rfl,(by show(0:Int)<2147483647;decide),_,rfl,a,_,0,0,rfl,rfl,ha,rfl,?_⟩
  refine⟨_,rfl,a,_,0,_,rfl,rfl,SqL.of aa,ah (j:=0) rfl,_,_,rfl,rfl,.inr ⟨(),()⟩,_,_,rfl,rfl,(by show(0:Int)<2147483629;decide),_,_,rfl,rfl,⟨(),()⟩,_,_,rfl,rfl,.inr ⟨(),()⟩,_,_,rfl,rfl,(by show(0:Int)<2147483587;decide),_,rfl,_,_,rfl,rfl,m0,?_⟩
  exact q _ _ (ay.upd _ _ _) ⟨_,_,aa⟩ (kb m m0).1 (kb m m0).2
theorem pM:am ["_law_script","_law_k","_law_cell"] ["_law_script","_law_k"] (af nV):=by trivial
theorem yy{f:Addr}{fd:Γ}(F:Fun K "_law_state" "_law_state" nV f fd)(T:Txt K mg):ap P w K mg base CX0 1 f fd ["_law_script","_law_k"] (vG K):=by
 have nd:=pM.nd
 refine F.ok pM (λvs H Q E h=>?_) (λcdv A outer s H vs Q E hr h=>?_)
 ·obtain⟨a,ns,k,rfl,_⟩:=h
  rfl
 obtain⟨a,ns,k,rfl,hS,k0,q⟩:=h
 have p15:DO 10 15:=⟨(),(),()⟩
 refine⟨_,(@un _ _ _ (wbO (wbM 2 nd rfl (Ν rfl) waC rfl ()) (wbO (wbI (wbS qw (wv 1 rfl) (wal ax rfl T.len () (wae (wv 0 rfl) waf rfl) () () rfl rfl) (ak _)) (wbQ (wbM 2 nd rfl (Ν rfl) (waD aZ (wv 0 rfl) (wv 1 rfl) (λ_ _=>rfl)) rfl ())) wbP) (wbO (wbI (wbS qw (wv 2 rfl) (waQ Cp waC waC) (ak _)) (wbQ (wbK (waM (wae (waQ fu (waQ fu (wv 2 rfl) (waQ kK waC (wv 1 rfl))) waC) (wae wah waf rfl) rfl)))) wbP) (wbQ (wbK (waM (wae (wv 2 rfl) (wae wah waf rfl) rfl)))))))),?_⟩
 dsimp only[bf,Cx.nox]
 refine⟨_,rfl,_,rfl,a,_,rfl,.inl hS,_,_,rfl,rfl,_,rfl,av (λc=>?_) (λc=>?_)⟩
 ·have c':=Q7 c
  rw[ς]at c'
  obtain⟨v,hv⟩:=zY k0 c'
  refine⟨_,rfl,_,rfl,a,_,_,_,rfl,rfl,hS,hv,?_⟩
  refine⟨_,rfl,_,_,rfl,rfl,p15,_,_,rfl,rfl,_,rfl,av (λd=>?_) (λd=>?_)⟩
  ·exact⟨_,rfl,_,rfl,_,_,rfl,rfl,.inl ⟨(),()⟩,_,_,rfl,rfl,_,_,rfl,rfl,z2,λl hl=>q _ l (ac hl _) hl ⟨_,_,aa⟩⟩
  ·exact⟨_,rfl,z2,λl hl=>q _ l (ac hl _) hl ⟨_,_,aa⟩⟩
 ·refine⟨_,rfl,_,_,rfl,rfl,p15,_,_,rfl,rfl,_,rfl,av (λd=>?_) (λd=>?_)⟩
  ·exact⟨_,rfl,_,rfl,_,_,rfl,rfl,.inl ⟨(),()⟩,_,_,rfl,rfl,_,_,rfl,rfl,z2,λl hl=>q _ l (ac hl _) hl ⟨_,_,aa⟩⟩
  ·exact⟨_,rfl,z2,λl hl=>q _ l (ac hl _) hl ⟨_,_,aa⟩⟩
theorem rM:am ["_law_state_here","_law_many","_law_letters","_law_stem","_law_k","_law_at","_law_turn"] ["_law_state_here","_law_many"] (af oX):=by trivial
theorem xy{f:Addr}{fd:Γ}{k:Nat}(F:Fun K "_law_names" "_law_names" oX f fd)(T:Txt K mg)(D_law_draw:Def P w K mg base k "_law_draw" ["_law_state_here","_law_many"] nW):ap P w K mg base CX0 (k+1) f fd ["_law_state_here","_law_many"] vJ:=by
 have nd:=rM.nd
 refine F.ok rM (λvs H Q E h=>?_) (λcdv A outer s H vs Q E hr h=>?_)
 ·obtain⟨a,m,rfl,_⟩:=h
  rfl
 obtain⟨a,m,rfl,h2,m10,q⟩:=h
 refine⟨_,(@un _ _ _ (wbO (wbM 2 nd rfl (GT rfl) waV rfl ()) (wbO (wbM 3 nd rfl (GT rfl) waV rfl ()) (wbO (wbH j4 rfl (wbk rfl T.range (wae (waq D_law_draw hr rfl (wae (wv 0 rfl) (wae waC waf rfl) rfl) () rfl rfl) waf rfl) rfl) (waZ 4 nd rfl (Ν rfl) ()) (wbQ (wbM 3 nd rfl (GT rfl) (waQ ae (wv 3 rfl) (waD oO (wv 2 rfl) (waq D_law_draw hr rfl (wae (wv 0 rfl) (wae waC waf rfl) rfl) () rfl rfl) (λ_ _=>rfl))) rfl ())) ()) (wbO (wbM 5 nd rfl (GT rfl) (waq D_law_draw hr rfl (wae (wv 0 rfl) (wae (waQ fu (wal bw rfl T.len () (wae (wv 3 rfl) waf rfl) () () rfl rfl) waC) waf rfl) rfl) () rfl rfl) rfl ()) (wbO (wbM 6 nd rfl (GT rfl) (waq D_law_draw hr rfl (wae (wv 0 rfl) (wae waC waf rfl) rfl) () rfl rfl) rfl ()) (wbQ (wbK (waE ["_law_k"] ([2,3,5,6]) (wbk rfl T.range (wae (wv 1 rfl) waf rfl) rfl) (.of rfl) rfl (λ_ _ _=>⟨pg_name (i:=0) (bZ (l:=["_law_k","_law_letters","_law_stem","_law_at","_law_turn"]) (()) rfl) rfl (Ν rfl)⟩) (bF ()) (λ_ _ _=>wbx) (λ_ _ _=>(waQ ae (waQ ae (waT kv (wv 2 rfl) wbz (wbA (wv 3 rfl))) (waD oO (wv 1 rfl) (waQ iK (waQ fu (wv 4 rfl) (waQ kK waC (wv 0 rfl))) waC) (λ_ _=>rfl))) (waT kv (wv 2 rfl) (wbA (wv 3 rfl)) wbz))) ()))))))))),?_⟩
 have abc:(γ "bcdfghjklmnpqrstvwxyz").length<=sizeLine:=by rw[τ];decide +kernel
 refine⟨_,rfl,a,8,rfl,h2,(),(),λH1 x s1 st1 x0 x8=>?_⟩
 refine⟨x,rfl,(),(),mN (n:=x.toNat) (λi σ H'=>∃(stem:Str) (o1:Option V),σ=[some (.ref a),some (.int m),some (.str "bcdfghjklmnpqrstvwxyz"),some (.str stem),o1,none,none]/\ay a H H'/\St2 H' a/\Az stem i) ⟨_,_,rfl,s1,st1,yi⟩ ?T1 ?_⟩
 case T1=>
  rintro i σ H2 hi ⟨stem,o1,rfl,s2,st2,az⟩
  refine⟨_,rfl,_,rfl,_,rfl,a,21,rfl,st2,(),(),λH3 y s3 st3 y0 y1=>?_⟩
  obtain⟨ch,hc,hz⟩:=vD y0 y1
  refine⟨_,_,ch,rfl,rfl,abc,hc,_,_,rfl,rfl,?_,?_⟩
  ·rw[az.len,(pC hz).len,τ];omega
  ·exact⟨_,_,rfl,s2.trans s3,st3,sI az (pC hz)⟩
 rintro σ H2 ⟨stem,o1,rfl,s2,st2,az⟩
 have ln:=az.len
 have stl:stem.length<=sizeLine:=by rw[ln,τ];omega
 refine⟨_,rfl,_,rfl,_,rfl,stl,_,_,rfl,rfl,a,_,rfl,st2,(),by rw[ln];omega,λH3 y s3 st3 y0 y1=>?_⟩
 refine⟨_,rfl,a,21,rfl,st3,(),(),λH4 z s4 st4 z0 z1=>?_⟩
 have at1:y<=x.toNat:=by rw[ln]at y1;omega
 have zf:=za az y0 at1
 have zt:=ES az y0 at1
 refine⟨_,rfl,_,rfl,(),(),qj (n:=((m:Int)).toNat) (λi ys H'=>H'=H4/\∃ws:List Str,ys=ws.map V.str/\ws.length=i/\(∀z∈ws,Cn z)/\Nth z y.toNat ws) ⟨rfl,[],rfl,rfl,(),Nth.nil⟩ ?_ ?_⟩
 ·rintro i ys H5 hi ⟨rfl,ws,rfl,hw,hw1,nth⟩
  obtain⟨b0,b1⟩:=kb (a:=z+5*((0:Int)+(i:Int))) 21 ()
  obtain⟨ch,hc,hz2⟩:=vD b0 b1
  have e1:=sI zt (pC hz2)
  have e2:=sI e1 zf
  refine bP ⟨_,rfl,_,rfl,_,rfl,_,rfl,stl,_,rfl,_,rfl,_,rfl,_,_,rfl,rfl,.inl ⟨(),()⟩,_,_,rfl,rfl,_,_,rfl,rfl,(by show(0:Int)<21;decide),_,_,ch,rfl,rfl,abc,hc,_,_,rfl,rfl,?_,_,rfl,_,rfl,_,rfl,_,rfl,stl,_,_,rfl,rfl,?_,?_,rfl,ws++[Txt.slice stem none (some y)++⟨#[ch]⟩++Txt.slice stem (some y) none],(),by simp[hw],λw hw'=>?_,nth.snoc (by rw[hw,<-Int.zero_add (i:Int)];exact hc) zt.1⟩
  ·rw[zt.len,(pC hz2).len,τ];omega
  ·rw[e1.len,zf.len,τ];omega
  ·rw[ς,τ];omega
  ·rcases Φ.mp hw' with h|h
   ·exact hw1 w h
   ·rw[ξ.mp h];exact⟨DK e2 () (),e2.2⟩
 rintro ys H5 ⟨rfl,ws,rfl,hw,hw1,nth⟩ r hr'
 have s05:ay a H H5:=s2.trans (s3.trans s4)
 have hra:r≠a:=λe=>by obtain⟨n,b,e2⟩:=st4;rw[e,e2]at hr';cases hr'
 have hrn:H r=none:=by
  cases e:H r with
  |none=>rfl
  |some o=>have:=s05 r o hra e;rw[hr']at this;cases this
 exact q _ r ws (s05.trans (aj.b a (ac hr' _))) (st4.m (ac hr' _)) hrn aa (by rw[hw];omega) hw1 (nth.nodup (by rw[hw];omega))
abbrev eP:Stmt:=top 43
abbrev cF:Stmt:=top 44
abbrev tH:Stmt:=top 45
abbrev fk:Stmt:=top 46
def aY(i:Int):Str:=γ (toString i)
def aG(p:Pr):Str:=if p.2=1 then p.1 else aY p.2++γ "*" ++ p.1
def ba(c:Int)(ps:List Pr):List Str:=ps.map aG++(if c≠0\/ps=[]then [aY c]else [])
def bU(c:Int)(ps:List Pr):Str:=ώ (γ "+") (ba c ps)
def kdT:Kd->Str
 |.whole=>γ "whole"
 |.place c ps=>γ "place" ++ γ "(" ++ ώ (γ ", ") [bU c ps]++γ ")"
 |.row c ps k=>γ "row" ++ γ "(" ++ ώ (γ ", ") [bU c ps,kdT k]++γ ")"
 |.pair a b=>γ "pair" ++ γ "(" ++ ώ (γ ", ") [kdT a,kdT b]++γ ")"
structure Wr(c:Int)(ps:List Pr):Prop where
 can:yR ps
 c0:0<=c
 c1:c<10^60
 len:ps.length<=21
 le:∀p∈ps,p.2<10^60/\p.1.length<=8
theorem vn{i:Int}(h0:0<=i)(h1:i<10^60):i.natAbs.log2<1920:=by
 refine Nat.lt_trans ?_ (show 200<1920 by decide)
 by_cases e:i.natAbs=0
 ·rw[e];decide
 ·exact(Nat.log2_lt e).mpr (Χ (show i.natAbs<10^60 by omega) ())
theorem gJ{i:Int}(h0:0<=i)(h1:i<10^60):(aY i).length<=60:=PyProof.Rows.toString_length_le h0 (k:=60) () h1
theorem Bn:(γ "*").length=1:=by decide +kernel
theorem Ba:(γ "+").length=1:=by decide +kernel
theorem xA{p:Pr}(h0:1<=p.2)(h1:p.2<10^60)(h8:p.1.length<=8):(aG p).length<=69:=by
 unfold aG
 split
 ·omega
 ·rw[Η,Η,Bn]
  have:=gJ (i:=p.2) () h1
  omega
def AY:Sp:=λvs H Q _=>∃(x:Str) (n:Int),vs=[.str x,.int n]/\x.length<=8/\1<=n/\n<10^60/\Q (.str (aG (x,n))) H
def vV:Sp:=λvs H Q _=>∃(v:V) (c:Int) (ps:List Pr),vs=[v]/\Rep H (bA c ps) v/\Wr c ps/\∀H',aj H H'->Q (.str (bU c ps)) H'
theorem tj(z:Str)(ys:List Str):Txt.join z ys=ώ z ys:=by
 show e_.Str.glued z ys=_
 rw[StrLaws.glued_eq_join]
theorem nO:am ["name","times"] ["name","times"] (af eP):=by trivial
theorem oW{f:Addr}{fd:Γ}(F:Fun K "show_part" "show_part" eP f fd)(T:Txt K mg):ap P w K mg base CX0 1 f fd ["name","times"] AY:=by
 refine F.ok nO (λvs H Q E h=>?_) (λcdv A outer s H vs Q E hr h=>?_)
 ·obtain⟨x,n,rfl,_⟩:=h
  rfl
 obtain⟨x,n,rfl,x8,n1,n60,q⟩:=h
 refine⟨_,(@un _ _ _ (wbQ (wbK (wac (wbS aE (wv 1 rfl) waC (ak _)) (wv 0 rfl) (was (wau ⟨Cq (pv 1)⟩ (wau waV (wau (wat (wv 0 rfl)) wav)))))))),?_⟩
 refine⟨_,rfl,rfl,_,rfl,av (λh=>?_) (λh=>?_)⟩
 ·have e:n=1:=by simpa using h
  have ep:aG (x,n)=x:=Q5 e
  rw[ep]at q
  exact⟨_,rfl,q⟩
 ·have e:¬ n=1:=by simpa using h
  have ep:aG (x,n)=aY n++γ "*" ++ x:=Q6 e
  rw[ep]at q
  have l0:=gJ (i:=n) () n60
  have e1:Hj++aY n=aY n:=PySem.Str.empty_append _
  have l1:(aY n++γ "*").length<=61:=by rw[Η,Bn];omega
  have l2:(aY n++γ "*" ++ x).length<=69:=by rw[Η];omega
  refine⟨_,rfl,n,rfl,vn () n60,aY n,rfl,by rw[e1,τ];omega,?_⟩
  rw[e1]
  exact⟨_,rfl,by rw[τ];omega,_,rfl,x,rfl,by rw[τ];omega,x,rfl,by rw[τ];omega,by rw[τ];omega,q⟩
theorem aF(s a:Str):ώ s [a]=a:=rfl
theorem aR(s a b:Str)(r:List Str):ώ s (a::b::r)=a++s++ώ s (b::r):=rfl
theorem io(s:Str):∀ys:List Str,(ώ s ys).length<=(ys.map (·.length)).sum+ys.length*s.length
 |[]=>ϖ _
 |[a]=>by rw[aF];simp
 |a::b::r=>by
  have ih:=io s (b::r)
  rw[aR,Η,Η]
  simp only[Μ,o8,χ,Nat.add_mul]at ih⊢
  omega
theorem nH:(γ ", ").length=2:=by decide +kernel
theorem lb3:(γ "(").length=1:=by decide +kernel
theorem lb4:(γ ")").length=1:=by decide +kernel
theorem pA{B:Nat}:∀{ys:List Str},(∀y∈ys,y.length<=B)->(ys.map (·.length)).sum<=ys.length*B
 |[],_=>by simp
 |y::ys,h=>by
  have h1:=h y ν
  have h2:=pA (ys:=ys) λe he=>h e (π _ he)
  rw[Μ,o8,χ,Nat.add_mul]
  omega
theorem qR{c:Int}{ps:List Pr}(h:Wr c ps):(∀y∈ba c ps,y.length<=69)/\(ba c ps).length<=22:=by
 have l:=h.len
 unfold ba
 refine⟨λy hy=>?_,?_⟩
 ·rcases Φ.mp hy with h1|h1
  ·obtain⟨p,hp,rfl⟩:=Ϡ.mp h1
   exact xA (h.can.ge p hp) (h.le p hp).1 (h.le p hp).2
  ·split at h1
   ·rw[ξ.mp h1];have:=gJ h.c0 h.c1;omega
   ·cases h1
 ·rw[Ε,ς]
  split
  ·rw[i7];omega
  ·rw[x_];omega
theorem eO{c:Int}{ps:List Pr}(h:Wr c ps):(bU c ps).length<=1540:=by
 obtain⟨h1,h2⟩:=qR h
 have a:=io (γ "+") (ba c ps)
 have b:=pA h1
 rw[Ba]at a
 unfold bU
 have:(ba c ps).length*69<=22*69:=Gq _ h2
 omega
theorem cS:∀{k:Kd},k.All Wr->(kdT k).length<=1700*k.size
 |.whole,_=>by show(γ "whole").length<=1700*1;exact u8 ()
 |.place c ps,h=>by
  have l:=eO (c:=c) (ps:=ps) h
  have w:(γ "place").length=5:=by decide +kernel
  rw[kdT,aF,Η,Η,Η,w,lb3,lb4]
  show _<=1700*1
  omega
 |.row c ps k,h=>by
  have l:=eO (c:=c) (ps:=ps) h.1
  have i:=cS (k:=k) h.2
  have w:(γ "row").length=3:=by decide +kernel
  rw[kdT,aR,aF,Η,Η,Η,Η,Η,w,lb3,lb4,nH]
  show _<=1700*(k.size+1)
  omega
 |.pair a b,h=>by
  have i:=cS (k:=a) h.1
  have j:=cS (k:=b) h.2
  have w:(γ "pair").length=4:=by decide +kernel
  rw[kdT,aR,aF,Η,Η,Η,Η,Η,w,lb3,lb4,nH]
  show _<=1700*(a.size+b.size+1)
  omega
def oR:Sp:=λvs H Q _=>∃(z:Str) (l:Addr) (ys:List Str),vs=[.str z,.ref l]/\H l=some (.lst (ys.map V.str))/\z.length<=10/\(ys.map (·.length)).sum+ys.length*2<=2000000/\Q (.str (z++γ "(" ++ ώ (γ ", ") ys++γ ")")) H
def qi(n:Nat):Sp:=λvs H Q _=>∃(v:V) (k:Kd),vs=[v]/\Rep H k.dv v/\k.size<=n/\n<=12/\k.All Wr/\∀H',aj H H'->Q (.str (kdT k)) H'
theorem eX:am ["a","parts"] ["a"] (af cF):=by trivial
theorem kT{f:Addr}{fd:Γ}{k:Nat}(F:Fun K "show_length" "show_length" cF f fd)(T:Txt K mg)(Dshow_part:Def P w K mg base k "show_part" ["name","times"] AY):ap P w K mg base CX0 (k+1) f fd ["a"] vV:=by
 have nd:=eX.nd
 refine F.ok eX (λvs H Q E h=>?_) (λcdv A outer s H vs Q E hr h=>?_)
 ·obtain⟨v,c,ps,rfl,_⟩:=h
  rfl
 obtain⟨v,c,ps,rfl,R,wr,q⟩:=h
 have hu9:=xC hr
 have huL:(A.deeper (C6 (γ "show_length") (af cF) s.heap.objs.size f cdv)).units<cLine:=by omega
 obtain⟨a,a1,us,rfl,ha,ha1,ru,lu⟩:=zH R
 obtain⟨tl,tn⟩:=qR wr
 have wl:=wr.len
 refine⟨_,(@un _ _ _ (wbO (wbJ (["name","times"]) [] 1 nd rfl rfl (wbo (waD aq (wv 0 rfl) waC (λ_ _=>rfl))) (.of rfl) rfl (λ_ _ _=>⟨pg_tup rfl (pgs_cons (pg_name (i:=0) (bZ (l:=["name","times"]) (()) rfl) rfl (Ν rfl)) (pgs_cons (pg_name (i:=1) (bZ (l:=["name","times"]) (()) rfl) rfl (Ν rfl)) pgs_nil))⟩) (ox () ()) (λ_ _ _=>wbx) (λ_ _ _=>(waq Dshow_part hr rfl (wae (wv 0 rfl) (wae (wv 1 rfl) waf rfl) rfl) () rfl rfl)) rfl ()) (wbO (wbI (wab (wbY (wbS mO (waD aq (wv 0 rfl) waC (λ_ _=>rfl)) waC (ak _)) (wbZ (wbS (Ch huL) (wv 1 rfl) (waM waf) (ak _))))) (wbQ (wbG (waj ϔ b_ c_ cD (wv 1 rfl) (wae (wam ic rfl T.str () (wae (waD aq (wv 0 rfl) waC (λ_ _=>rfl)) waf rfl) () () rfl rfl) waf rfl) rfl rfl rfl rfl rfl) rfl)) wbP) (wbQ (wbK (waj m6 F9 F_ pf waV (wae (wv 1 rfl) waf rfl) rfl rfl rfl rfl rfl)))))),?_⟩
 dsimp only[bf,Cx.nox]
 refine⟨_,rfl,a,_,1,.ref a1,rfl,rfl,SqT.of ha,ah (j:=1) rfl,a1,rfl,⟨us,SqT.of ha1⟩,se (xs:=us) (λi ys H'=>H'=H/\ys=((ps.take i).map aG).map V.str) ⟨rfl,rfl⟩ (λi ys H' _ p=>by rw[p.1];exact SqT.of ha1) ?L1 ?_⟩
 case L1=>
  rintro i ys H' x hx ⟨rfl,rfl⟩
  obtain⟨p,b,hp,rfl,hb⟩:=zE ru hx
  have hi:i<us.length:=(Ρ.mp hx).1
  have hpm:=Ϝ hp
  refine gH hb ⟨_,rfl,_,rfl,p.1,p.2,rfl,(wr.le p hpm).2,wr.can.ge p hpm,(wr.le p hpm).1,?_,rfl,?_⟩
  ·rw[ς,ς,Ϗ,τ];omega
  ·rw[m5,hp,ϊ,ϊ];rfl
 rintro ys H' ⟨rfl,rfl⟩ l hl
 rw[lu,j9]
 have s1:=ac hl (.lst ((ps.map aG).map V.str))
 have h1:upd H' l (.lst ((ps.map aG).map V.str)) l=some (.lst ((ps.map aG).map V.str)):=aa
 generalize upd H' l (.lst ((ps.map aG).map V.str))=H1 at s1 h1⊢
 refine gnm ?_
 have fin:∀(H2:Hp)(ts:List Str),ts=ba c ps->aj H' H2->H2 l=some (.lst (ts.map V.str))->∃(z:Str) (a:Addr) (ys:List Str),V.str (γ "+")=.str z/\[V.ref l]=[.ref a]/\SqL K H2 a (ys.map V.str)/\(ys.map (·.length)).sum+ys.length*z.length<=16777216/\Q (.str (Txt.join z ys)) H2:=λH2 ts e s2 h2=>by
  subst e
  have b:=pA tl
  have:(ba c ps).length*69<=22*69:=Gq _ tn
  refine⟨_,l,ba c ps,rfl,rfl,SqL.of h2,by rw[Ba];omega,?_⟩
  rw[tj]
  exact q H2 s2
 have lp:((ps.map aG).map V.str).length<=21:=by rw[ς,ς];exact wl
 have app:(c≠0\/ps=[])->ps.map aG++[aY c]=ba c ps:=λe=>by unfold ba;rw[Q5 e]
 refine⟨_,rfl,a,_,0,.int c,rfl,rfl,SqT.of (s1 _ _ ha),ah (j:=0) rfl,rfl,_,rfl,av (λh=>?_) (λh=>?_)⟩
 ·have hc:c≠0:=by simpa using h
  refine aD ⟨_,rfl,.inl ⟨rfl,_,SqL.of h1⟩,_,rfl,a,_,0,.int c,rfl,rfl,SqT.of (s1 _ _ ha),ah (j:=0) rfl,c,rfl,vn wr.c0 wr.c1,l,_,.str (aY c),rfl,rfl,h1,by rw[τ];omega,rfl,_,rfl,?_⟩
  exact fin _ _ (app (.inl hc)) (λg o e=>by rw[ai (ao e hl)];exact s1 _ _ e) (by rw[aa,ϊ];rfl)
 ·have hc:c=0:=by simpa using h
  refine⟨_,rfl,ϖ _,λe he=>⟨l,e,_,rfl,rfl,SqL.of (ac he _ _ _ h1),SqL.of aa,_,rfl,?_⟩⟩
  have s2:=ac he (.lst [])
  have h2:=s2 _ _ h1
  have s02:=s1.trans s2
  generalize upd H1 e (.lst [])=H2 at s2 h2 s02⊢
  cases ps with
  |nil=>
   refine aD ⟨_,rfl,.inl ⟨rfl,_,SqL.of h2⟩,_,rfl,a,_,0,.int c,rfl,rfl,SqT.of (s02 _ _ ha),ah (j:=0) rfl,c,rfl,vn wr.c0 wr.c1,l,_,.str (aY c),rfl,rfl,h2,by rw[τ];omega,rfl,_,rfl,?_⟩
   exact fin _ _ (app (.inr rfl)) (λg o e=>by rw[ai (ao e hl)];exact s02 _ _ e) (by rw[aa];rfl)
  |cons p ps=>
   refine aI ⟨rfl,_,rfl,?_⟩
   exact fin _ _ (by unfold ba;rw[Q6 (λz=>z.elim (λy=>y hc) (λy=>by cases y)),Θ]) s02 h2
theorem uR:am ["word","texts","inner"] ["word","texts"] (af tH):=by trivial
theorem zD{f:Addr}{fd:Γ}(F:Fun K "in_brackets" "in_brackets" tH f fd)(T:Txt K mg):ap P w K mg base CX0 1 f fd ["word","texts"] oR:=by
 have nd:=uR.nd
 refine F.ok uR (λvs H Q E h=>?_) (λcdv A outer s H vs Q E hr h=>?_)
 ·obtain⟨z,l,ys,rfl,_⟩:=h
  rfl
 obtain⟨z,l,ys,rfl,hl,lz,ls,q⟩:=h
 refine⟨_,(@un _ _ _ (wbO (wbM 2 nd rfl (Ν rfl) (waj m6 F9 F_ pf waV (wae (wv 1 rfl) waf rfl) rfl rfl rfl rfl rfl) rfl ()) (wbQ (wbK (was (wau (wat (wv 0 rfl)) (wau waV (wau (wat (wv 2 rfl)) (wau waV wav))))))))),?_⟩
 dsimp only[bf,Cx.nox]
 refine⟨rfl,_,rfl,_,l,ys,rfl,rfl,SqL.of hl,by rw[nH];omega,?_⟩
 rw[tj]
 have hj:=io (γ ", ") ys
 rw[nH]at hj
 have lj:(ώ (γ ", ") ys).length<=2000000:=by omega
 generalize ώ (γ ", ") ys=jn at lj q⊢
 have e1:Hj++z=z:=PySem.Str.empty_append z
 have l1:(z++γ "(").length<=11:=by rw[Η,lb3];omega
 have l2:(z++γ "(" ++ jn).length<=2000011:=by rw[Η];omega
 have l3:(z++γ "(" ++ jn++γ ")").length<=2000012:=by rw[Η,lb4];omega
 refine⟨_,rfl,z,rfl,by rw[τ];omega,z,rfl,by rw[e1,τ];omega,?_⟩
 rw[e1]
 refine⟨_,rfl,by rw[τ];omega,_,rfl,jn,rfl,by rw[τ];omega,jn,rfl,by rw[τ];omega,_,rfl,by rw[τ];omega,by rw[τ];omega,q⟩
theorem oQ:am ["kind"] ["kind"] (af fk):=by trivial
theorem nL{f:Addr}{fd:Γ}{k0 n:Nat}(F:Fun K "show_kind" "show_kind" fk f fd)(T:Txt K mg)(Din_brackets:Def P w K mg base k0 "in_brackets" ["word","texts"] oR)(Dshow_length:Def P w K mg base k0 "show_length" ["a"] vV)(Dshow_kind:Def P w K mg base k0 "show_kind" ["kind"] (qi n)):ap P w K mg base CX0 (k0+1) f fd ["kind"] (qi (n+1)):=by
 refine F.ok oQ (λvs H Q E h=>?_) (λcdv A outer s H vs Q E hr h=>?_)
 ·obtain⟨v,k,rfl,_⟩:=h
  rfl
 obtain⟨v,k,rfl,R,kn,n12,kA,q⟩:=h
 obtain⟨b,vs,rfl,hb,hv⟩:=Kd.inv R
 have kl:=cS kA
 refine⟨_,(@un _ _ _ (wbO (wbI (wbS aE (waD aq (wv 0 rfl) waC (λ_ _=>rfl)) waV (ak _)) (wbQ (wbK (waq Din_brackets hr rfl (wae waV (wae (waM (wae (waq Dshow_length hr rfl (wae (waD aq (wv 0 rfl) waC (λ_ _=>rfl)) waf rfl) () rfl rfl) waf rfl)) waf rfl) rfl) () rfl rfl))) wbP) (wbO (wbI (wbS aE (waD aq (wv 0 rfl) waC (λ_ _=>rfl)) waV (ak _)) (wbQ (wbK (waq Din_brackets hr rfl (wae waV (wae (waM (wae (waq Dshow_length hr rfl (wae (waD aq (wv 0 rfl) waC (λ_ _=>rfl)) waf rfl) () rfl rfl) (wae (waq Dshow_kind hr rfl (wae (waD aq (wv 0 rfl) waC (λ_ _=>rfl)) waf rfl) () rfl rfl) waf rfl) rfl)) waf rfl) rfl) () rfl rfl))) wbP) (wbO (wbI (wbS aE (waD aq (wv 0 rfl) waC (λ_ _=>rfl)) waV (ak _)) (wbQ (wbK (waq Din_brackets hr rfl (wae waV (wae (waM (wae (waq Dshow_kind hr rfl (wae (waD aq (wv 0 rfl) waC (λ_ _=>rfl)) waf rfl) () rfl rfl) (wae (waq Dshow_kind hr rfl (wae (waD aq (wv 0 rfl) waC (λ_ _=>rfl)) waf rfl) () rfl rfl) waf rfl) rfl)) waf rfl) rfl) () rfl rfl))) wbP) (wbQ (wbK waV)))))),?_⟩
 dsimp only[bf,Cx.nox]
 refine⟨_,rfl,b,_,0,.str k.word,rfl,rfl,SqT.of hb,ah (j:=0) rfl,rfl,_,rfl,?_⟩
 cases k with
 |whole=>
  refine av (λh=>absurd (Q7 h) (wne Ff)) (λ_=>?_)
  refine⟨_,rfl,b,_,0,.str "whole",rfl,rfl,SqT.of hb,ah (j:=0) rfl,rfl,_,rfl,av (λh=>absurd (Q7 h) (wne Fj)) (λ_=>?_)⟩
  refine⟨_,rfl,b,_,0,.str "whole",rfl,rfl,SqT.of hb,ah (j:=0) rfl,rfl,_,rfl,av (λh=>absurd (Q7 h) (wne Fh)) (λ_=>?_)⟩
  exact q H (aj.refl _)
 |place c ps=>
  obtain⟨l,rfl,Rl⟩:=hv
  refine av (λ_=>?_) (λh=>absurd (Q9 rfl) h)
  refine⟨_,rfl,b,_,1,l,rfl,rfl,SqT.of hb,ah (j:=1) rfl,l,c,ps,rfl,Rl,kA,λH1 s1=>⟨z1,λt ht=>?_⟩⟩
  have ll:=eO (c:=c) (ps:=ps) kA
  refine⟨_,t,[bU c ps],rfl,aa,(),by simp;omega,q _ (s1.trans (ac ht _))⟩
 |row c ps j=>
  obtain⟨l,u,rfl,Rl,Ru⟩:=hv
  have jn:j.size+1<=n+1:=kn
  refine av (λh=>absurd (Q7 h) (wne (ϛ Fg))) (λ_=>?_)
  refine⟨_,rfl,b,_,0,.str "row",rfl,rfl,SqT.of hb,ah (j:=0) rfl,rfl,_,rfl,av (λ_=>?_) (λh=>absurd (Q9 rfl) h)⟩
  have ll:=eO (c:=c) (ps:=ps) kA.1
  have lk:=cS kA.2
  refine⟨_,rfl,b,_,1,l,rfl,rfl,SqT.of hb,ah (j:=1) rfl,l,c,ps,rfl,Rl,kA.1,λH1 s1=>⟨_,rfl,b,_,2,u,rfl,rfl,SqT.of (s1 _ _ hb),ah (j:=2) rfl,u,j,rfl,Ru.mono s1,(),(),kA.2,λH2 s2=>⟨z2,λt ht=>?_⟩⟩⟩
  refine⟨_,t,[bU c ps,kdT j],rfl,aa,(),by simp;omega,q _ (s1.trans (s2.trans (ac ht _)))⟩
 |pair i j=>
  obtain⟨u1,u2,rfl,Ru1,Ru2⟩:=hv
  have jn:i.size+j.size+1<=n+1:=kn
  refine av (λh=>absurd (Q7 h) (wne (ϛ Fi))) (λ_=>?_)
  refine⟨_,rfl,b,_,0,.str "pair",rfl,rfl,SqT.of hb,ah (j:=0) rfl,rfl,_,rfl,av (λh=>absurd (Q7 h) (wne (ϛ Fu))) (λ_=>?_)⟩
  refine⟨_,rfl,b,_,0,.str "pair",rfl,rfl,SqT.of hb,ah (j:=0) rfl,rfl,_,rfl,av (λ_=>?_) (λh=>absurd (Q9 rfl) h)⟩
  have l1:=cS kA.1
  have l2:=cS kA.2
  refine⟨_,rfl,b,_,1,u1,rfl,rfl,SqT.of hb,ah (j:=1) rfl,u1,i,rfl,Ru1,(),(),kA.1,λH1 s1=>⟨_,rfl,b,_,2,u2,rfl,rfl,SqT.of (s1 _ _ hb),ah (j:=2) rfl,u2,j,rfl,Ru2.mono s1,(),(),kA.2,λH2 s2=>⟨z2,λt ht=>?_⟩⟩⟩
  refine⟨_,t,[kdT i,kdT j],rfl,aa,(),by simp;omega,q _ (s1.trans (s2.trans (ac ht _)))⟩
open PySem L2 KB XB PySem.NumText WR
abbrev fA:Stmt:=top 55
def dgB(c:Nat):Bool:=decide (48<=c)&&decide (c<=57)
def dgs(x:Str):Bool:=decide (1<=x.cps.size)&&decide (x.cps.size<=60)&&x.cps.toList.all dgB
def lY(x:Str):V:=if dgs x=true then .int ((digitsVal x.cps.toList:Nat):Int)else .non
theorem De(x:Str):((Ϻ x.cps.size).map λi=>dgB (x.cps.getD i 0)).all id=x.cps.toList.all dgB:=by
 have e:(Ϻ x.cps.size).map (λi=>dgB (x.cps.getD i 0))=x.cps.toList.map dgB:=by
  apply List.ext_getElem
  ·simp
  ·intro i h1 h2
   have h3:i<x.cps.size:=by simpa using h1
   simp[Array.getD,h3]
 rw[e,List.all_map]
 rfl
theorem eI{x:Str}(h:dgs x=true):AllDigits x.cps.toList/\1<=x.cps.size/\x.cps.size<=60:=by
 unfold dgs at h
 simp only[ο,decide_eq_true_eq,ϸ]at h
 refine⟨λc hc=>?_,h.1.1,h.1.2⟩
 have:=h.2 c hc
 unfold dgB at this
 simpa using this
theorem Ad{x:Str}(h:dgs x=true):PySem.intText? x=some ((digitsVal x.cps.toList:Nat):Int)/\x.length<=640:=by
 obtain⟨h1,h2,h3⟩:=eI h
 have e:x.length=x.cps.size:=rfl
 exact⟨intText_digits h1 (λz=>by have h9:x.cps.toList.length=x.cps.size:=ψ;rw[z,x_]at h9;omega) (),()⟩
theorem fJ{n:Int}(h0:0<=n)(h1:n<10^60):dgs (aY n)=true/\digitsVal (aY n).cps.toList=n.toNat:=by
 have hl:=gJ h0 h1
 obtain⟨m,rfl⟩:=Int.eq_ofNat_of_zero_le h0
 have es:(aY (m:Int)).cps.toList=(Nat.toDigits 10 m).map Char.toNat:=PySem.W.KIN.signs_num m
 have hd:AllDigits (aY ((m:Nat):Int)).cps.toList:=by
  intro c hc
  rw[es]at hc
  obtain⟨ch,hch,e⟩:=Ϡ.mp hc
  have r:=PyProof.Rows.digit_range (Nat.isDigit_of_mem_toDigits () () hch)
  rw[<-e]
  exact r
 have hne:1<=(aY ((m:Nat):Int)).cps.size:=by
  have h:=toDigits_len_ge 10 m
  have e2:=congrArg A4 es
  rw[ψ,ς]at e2
  omega
 refine⟨?_,by rw[es,PySem.W.KIN.val_back];rfl⟩
 unfold dgs
 rw[Q9 hne,Q9 (show(aY ((m:Nat):Int)).cps.size<=60 from hl),ϲ,ϲ,ϸ]
 intro c hc
 have:=hd c hc
 unfold dgB
 rw[Q9 this.1,Q9 this.2];rfl
def vY:Sp:=λvs H Q _=>∃x:Str,vs=[.str x]/\x.cps.size<=1000/\∀H',aj H H'->Q (lY x) H'
theorem oq:am ["word"] ["word"] (af fA):=by trivial
theorem nG{f:Addr}{fd:Γ}(F:Fun K "number_of" "number_of" fA f fd)(T:Txt K mg):ap P w K mg base CX0 1 f fd ["word"] vY:=by
 refine F.ok oq (λvs H Q E h=>?_) (λcdv A outer s H vs Q E hr h=>?_)
 ·obtain⟨x,rfl,_⟩:=h
  rfl
 obtain⟨x,rfl,hx,q⟩:=h
 refine⟨_,(@un _ _ _ (wbO (wbI (wbT (wbR jl jl waC (wal bw rfl T.len () (wae (wv 0 rfl) waf rfl) () () rfl rfl) ⟨T.g_MOST_FIGURES rfl⟩ (by with_unfolding_all rfl))) (wbQ (wbK waN)) wbP) (wbO (wbI (wbT (wbV (wal (gZ rfl) rfl T.all () (wae (waE ["sign"] [] (wbn (wv 0 rfl)) (.of rfl) rfl (λ_ _ _=>⟨pg_name (i:=0) (bZ (l:=["sign"]) (()) rfl) rfl (Ν rfl)⟩) (bF ()) (λ_ _ _=>wbx) (λ_ _ _=>(wao dX dX waV (wv 0 rfl) waV (by with_unfolding_all rfl))) ()) waf rfl) () () rfl rfl) ())) (wbQ (wbK waN)) wbP) (wbQ (wbK (wam ma rfl T.int () (wae (wv 0 rfl) waf rfl) () () rfl rfl)))))),?_⟩
 have ex:x.length=x.cps.size:=rfl
 have no:dgs x=false->∀H',aj H H'->Q .non H':=λe H' s'=>by
  have:=q H' s'
  unfold lY at this
  rwa[Q6 (by rw[e];decide)]at this
 refine⟨_,rfl,x,rfl,vj hx,_,_,rfl,rfl,_,rfl,?_⟩
 refine av (λh1=>?_) (λh1=>?_)
 ·refine⟨_,_,rfl,rfl,_,rfl,?_⟩
  have h1':1<=x.cps.size:=by have:=Q7 h1;omega
  by_cases h8:x.cps.size<=60
  ·rw[show decide (((x.length:Nat):Int)<=60)=true from Q9 ()]
   refine aI ?_
   refine⟨_,rfl,x,rfl,ki (F:=λi=>V.bl (dgB (x.cps.getD i 0))) (λi ys hi hl=>?_) λa ha=>⟨a,(Ϻ x.cps.size).map λi=>dgB (x.cps.getD i 0),rfl,SqL.of ?_,_,rfl,?_⟩⟩
   ·refine bP ⟨_,rfl,_,_,rfl,rfl,_,rfl,?_⟩
    have e1:decide ((⟨#[x.cps.getD i 0]⟩:Str).cps.toList<(γ "0").cps.toList)=decide (x.cps.getD i 0<48):=pE _ _
    have e2:decide ((γ "9").cps.toList<(⟨#[x.cps.getD i 0]⟩:Str).cps.toList)=decide (57<x.cps.getD i 0):=pE _ _
    rw[e1]
    by_cases c1:x.cps.getD i 0<48
    ·rw[Q9 c1]
     refine aI ⟨by rw[hl,τ];omega,?_,rfl⟩
     unfold dgB
     rw[Q8 ()]
     rfl
    ·rw[Q8 c1]
     refine aD ⟨_,_,rfl,rfl,?_⟩
     refine⟨by rw[hl,τ];omega,?_,rfl⟩
     rw[e2]
     unfold dgB
     rw[Q9 (show 48<=x.cps.getD i 0 by omega)]
     by_cases c2:57<x.cps.getD i 0
     ·rw[Q9 c2,Q8 ()];rfl
     ·rw[Q8 c2,Q9 ()];rfl
   ·rw[aa,i_]
    rfl
   ·rw[De]
    have s1:=ac ha (.lst ((Ϻ x.cps.size).map λi=>V.bl (dgB (x.cps.getD i 0))))
    have ed:dgs x=x.cps.toList.all dgB:=by unfold dgs;rw[Q9 h1',Q9 h8];rfl
    cases e:x.cps.toList.all dgB with
    |false=>exact aD (no (by rw[ed,e]) _ s1)
    |true=>
     rw[e]at ed
     obtain⟨ei,el⟩:=Ad ed
     refine aI ⟨_,rfl,x,_,rfl,ei,el,?_⟩
     have:=q _ s1
     unfold lY at this
     rwa[Q5 ed]at this
  ·rw[show decide (((x.length:Nat):Int)<=60)=false from Q8 ()]
   refine aD (no ?_ H (aj.refl _))
   unfold dgs
   rw[Q8 h8,GQ,ϵ]
 ·refine⟨_,rfl,aD (no ?_ H (aj.refl _))⟩
  have h1':¬ 1<=x.cps.size:=by
   have:=of_decide_eq_false (y9.mpr h1)
   omega
  unfold dgs
  rw[Q8 h1',ϵ,ϵ]
open PySem L2 KB XB WR
abbrev iI:Stmt:=top 56
abbrev eN:Stmt:=top 57
abbrev eW:Stmt:=top 59
theorem lP{a b:Str}(h:a.cps.toList=b.cps.toList):a=b:=by
 cases a;cases b;congr;exact Array.ext' h
theorem ar(a b:Str):(a++b).cps.toList=a.cps.toList++b.cps.toList:=by
 show(a.cps++b.cps).toList=_
 rw[Array.toList_append]
theorem xM{c:Nat}:∀{a a' r r':List Nat},c∉a->c∉a'->a++c::r=a'++c::r'->a=a'/\r=r'
 |[],[],r,r',_,_,h=>by simpa using h
 |[],y::a',r,r',_,h2,h=>by
  simp only[Ϭ,Ϛ,y6]at h
  exact absurd (ι.mpr (.inl h.1)) h2
 |y::a,[],r,r',h1,_,h=>by
  simp only[Ϭ,Ϛ,y6]at h
  exact absurd (ι.mpr (.inl h.1.symm)) h1
 |y::a,z::a',r,r',h1,h2,h=>by
  simp only[Ϛ,y6]at h
  obtain⟨e1,e2⟩:=xM (λm=>h1 (π _ m)) (λm=>h2 (π _ m)) h.2
  exact⟨by rw[h.1,e1],e2⟩
theorem rk(c:Nat):∀{A B:List Str},A≠[]->B≠[]->(∀p∈A,c∉p.cps.toList)->(∀p∈B,c∉p.cps.toList)->ώ ⟨#[c]⟩ A=ώ ⟨#[c]⟩ B->A=B
 |[],_,h,_,_,_,_=>absurd rfl h
 |_,[],_,h,_,_,_=>absurd rfl h
 |[a],[b],_,_,_,_,h=>by rw[aF,aF]at h;rw[h]
 |[a],b::d::r,_,_,h1,_,h=>by
  rw[aF,aR]at h
  have:=congrArg (λz:Str=>z.cps.toList) h
  simp only[ar]at this
  exact absurd (by rw[this];simp) (h1 a ν)
 |a::d::r,[b],_,_,_,h2,h=>by
  rw[aF,aR]at h
  have:=congrArg (λz:Str=>z.cps.toList) h
  simp only[ar]at this
  exact absurd (by rw[<-this];simp) (h2 b ν)
 |a::d::r,b::e::t,_,_,h1,h2,h=>by
  rw[aR,aR]at h
  have:=congrArg (λz:Str=>z.cps.toList) h
  simp only[ar,Ϣ,List.singleton_append]at this
  obtain⟨e1,e2⟩:=xM (h1 a ν) (h2 b ν) this
  rw[lP e1,rk c (A:=d::r) (B:=e::t) () () (λp hp=>h1 p (π _ hp)) (λp hp=>h2 p (π _ hp)) (lP e2)]
theorem gO(x y:Str):Txt.split x y≠[]:=by
 unfold Txt.split
 split
 ·simp
 ·split
  ·simp
  ·rw[StrLaws.partsBetween_eq]
   obtain⟨p,r,e⟩:=StrLaws.partsFrom_ne x y.length 0 (o_ x y 0 x.length (x.length+1))
   rw[e];simp
theorem dh(c:Nat){A:List Str}(h:A≠[])(hf:∀p∈A,c∉p.cps.toList):Txt.split (ώ ⟨#[c]⟩ A) ⟨#[c]⟩=A:=
 rk c (gO _ _) h (StrLaws.split_free _ c) hf (G7 _ _)
def Wn(ps:List Pr):Prop:=∀p∈ps,nmB p.1=true
theorem cH{x:Str}(h:nmB x=true):1<=x.cps.size/\x.cps.size<=8/\∀c∈x.cps.toList,97<=c/\c<=122:=by
 unfold nmB at h
 simp only[ο,decide_eq_true_eq,ϸ]at h
 exact⟨h.1.1,h.1.2,h.2⟩
theorem pF:γ "*"=⟨#[42]⟩:=by decide +kernel
theorem oy:γ "+"=⟨#[43]⟩:=by decide +kernel
theorem bO{n:Int}(h0:0<=n)(h1:n<10^60):∀c∈(aY n).cps.toList,48<=c/\c<=57:=(eI (fJ h0 h1).1).1
theorem wb{p:Pr}(h0:1<=p.2)(h1:p.2<10^60)(hn:nmB p.1=true):43∉(aG p).cps.toList:=by
 obtain⟨_,_,az⟩:=cH hn
 unfold aG
 split
 ·intro h;have:=az _ h;omega
 ·intro h
  rw[ar,ar,pF]at h
  rcases Φ.mp h with h|h
  ·rcases Φ.mp h with h|h
   ·have:=bO (n:=p.2) () h1 _ h;omega
   ·simp at h
  ·have:=az _ h;omega
theorem kZ:am ["text","halves"] ["text"] (af iI):=by trivial
theorem AT{α:Type}(ys:List α)(z:α):atI (ys++[z]) (-1)=some z:=by
 unfold atI ixN
 rw[Q6 (),Q5 (by rw[Ε,i7];omega)]
 show(ys++[z])[((-1:Int)+((ys++[z]).length:Int)).toNat]?=some z
 rw[show((-1:Int)+((ys++[z]).length:Int)).toNat=ys.length by rw[Ε,i7];omega]
 simp
theorem yD(ys:List V)(z:V):dG (ys++[z]) none (some (-1))=ys:=by
 have h:HT.sIx (ys++[z]).length (ys++[z]).length (some (-1))=ys.length:=by
  unfold HT.sIx
  simp
  omega
 have h0:HT.sIx (ys++[z]).length 0 none=0:=rfl
 unfold dG
 rw[h,h0,List.drop_zero,Nat.sub_zero,List.take_left']
 rfl
theorem xP{c:Int}{ps:List Pr}:ba c ps≠[]:=by
 unfold ba
 split
 ·simp
 ·next h=>intro e;rw[Θ,List.map_eq_nil_iff]at e;exact h (.inr e)
theorem uA{c:Int}{ps:List Pr}(h:Wr c ps)(hn:Wn ps):∀y∈ba c ps,43∉y.cps.toList:=λy hy=>by
 unfold ba at hy
 rcases Φ.mp hy with h1|h1
 ·obtain⟨p,hp,rfl⟩:=Ϡ.mp h1
  exact wb (h.can.ge p hp) (h.le p hp).1 (hn p hp)
 ·split at h1
  ·rw[ξ.mp h1];intro z;have:=bO h.c0 h.c1 _ z;omega
  ·cases h1
theorem lf{c:Int}{ps:List Pr}(h:Wr c ps)(hn:Wn ps):Txt.split (bU c ps) (γ "+")=ba c ps:=by
 unfold bU
 rw[oy]
 exact dh 43 xP (uA h hn)
theorem ig:am ["text","texts","count"] ["text"] (af eN):=by trivial
abbrev iz:Stmt:=top 60
def mZ(x:Str):Dv:=.tup [.str x,.non]
def Wa(c:Int)(ps:List Pr):Prop:=Wr c ps/\Wn ps
theorem xU{H:Hp}{x:Str}{v:V}(R:Rep H (mZ x) v):∃a,v=.ref a/\H a=some (.tup [.str x,.non]):=by
 unfold mZ at R
 obtain⟨a,vs,rfl,ha,rv⟩:=Rep.tup_inv R
 obtain⟨x1,x2,rfl,r1,r2⟩:=Reps.two rv
 simp only[Rep]at r1 r2
 subst r1 r2
 exact⟨a,rfl,ha⟩
theorem cR{H:Hp}{d:Dv}{vs:List V}(h:Reps H [d] vs):∃x,vs=[x]/\Rep H d x:=by
 simp only[Reps]at h
 obtain⟨v,r,rfl,h1,rfl⟩:=h
 exact⟨v,rfl,h1⟩
theorem Cf{H:Hp}{w:Str}{ds:List Dv}{v:V}(R:Rep H (.tup [.str w,.lst ds]) v):∃a l us,v=.ref a/\H a=some (.tup [.str w,.ref l])/\H l=some (.lst us)/\Reps H ds us:=by
 obtain⟨a,vs,rfl,ha,rv⟩:=Rep.tup_inv R
 obtain⟨x1,x2,rfl,r1,r2⟩:=Reps.two rv
 simp only[Rep]at r1 r2
 obtain⟨l,us,rfl,hl,ru⟩:=r2
 subst r1
 exact⟨a,l,us,rfl,ha,hl,ru⟩
theorem pG:am ["branch"] ["branch"] (af eW):=by trivial
theorem lm:am ["branch","word","inner"] ["branch"] (af iz):=by trivial
def pS(s:Stmt)(i:Nat):Stmt:=match s with|.ClassDef _ _ _ body _ _ _ _ _ _ _=>body.getD i (.Pass ⟨0,0,0,0⟩)|_=>.Pass ⟨0,0,0,0⟩
abbrev fL:Stmt:=pS (top 53) 0
abbrev mD:Stmt:=pS (top 53) 1
abbrev ca:Stmt:=pS (top 53) 2
abbrev cV:Stmt:=pS (top 53) 3
def Sg(C:Addr)(H:Hp)(a:Addr)(x:Str)(i:Nat):Prop:=∃dx,H a=some (.ins C dx [(γ "text",.str x),(γ "at",.int i)])
theorem Eb:(γ "at" == γ "text")=false:=by decide +kernel
theorem il(x:Str)(i:Int):ϥ (γ "text") [(γ "text",V.str x),(γ "at",V.int i)]=some (.str x):=by rw[ϙ,beq_self_eq_true]
theorem jv(x:Str)(i:Int):ϥ (γ "at") [(γ "text",V.str x),(γ "at",V.int i)]=some (.int i):=by rw[ϙ,Eb,ϙ,beq_self_eq_true]
theorem xl(x:Str)(i j:Int):eh (γ "at") (.int j) [(γ "text",V.str x),(γ "at",V.int i)]=[(γ "text",V.str x),(γ "at",V.int j)]:=by
 have h:¬ γ "text"=γ "at":=by decide +kernel
 simp[eh,h]
def yZ(C:Addr):Sp:=λvs H Q _=>∃(a:Addr) (x y:Str) (i:Nat),vs=[.ref a,.str y]/\Sg C H a x i/\y.length<=10 /\
 (Txt.startswith3 x y i=false->Q (.bl false) H)/\(Txt.startswith3 x y i=true->∀H',ay a H H'->Sg C H' a x (i+y.length)->Q (.bl true) H')
theorem CY:am ["self","signs"] ["self","signs"] (af mD):=by trivial
theorem BH{f C:Addr}{fd:Γ}(F:Fun K "met" "Signs.met" mD f fd)(T:Txt K mg)(cl:Cls K C)(nT:cy K C "text")(nA:cy K C "at"):ap P w K mg base CX0 1 f fd ["self","signs"] (yZ C):=by
 refine F.ok CY (λvs H Q E h=>?_) (λcdv A outer s H vs Q E hr h=>?_)
 ·obtain⟨a,x,y,i,rfl,_⟩:=h
  rfl
 obtain⟨a,x,y,i,rfl,⟨dx,ha⟩,ly,qf,qt⟩:=h
 refine⟨_,(@un _ _ _ (wbO (wbI (wbT (wbV (waj m6 PySem.F.slot_str_startswith PySem.F.type_str_startswith sK (waG (wv 0 rfl) rfl) (wae (wv 1 rfl) (wae (waG (wv 0 rfl) rfl) waf rfl) rfl) rfl rfl rfl rfl rfl) ())) (wbQ (wbK wah)) wbP) (wbO (waI (wv 0 rfl) (wal bw rfl T.len () (wae (wv 1 rfl) waf rfl) () () rfl rfl) yv) (wbQ (wbK wah))))),?_⟩
 dsimp only[bf,Cx.nox]
 refine⟨_,rfl,a,C,dx,_,.str x,rfl,ha,cl,nT,il _ _,rfl,_,rfl,_,rfl,a,C,dx,_,.int i,rfl,ha,cl,nA,jv _ _,x,y,i,rfl,rfl,_,rfl,?_⟩
 cases e:Txt.startswith3 x y i with
 |false=>exact aD (qf e)
 |true=>
  refine aI ?_
  refine⟨_,rfl,a,C,dx,_,.int i,rfl,ha,cl,nA,jv _ _,_,rfl,y,rfl,?_,i,y.length,rfl,rfl,dx,_,ha,u8 rfl,?_⟩
  ·rw[τ];omega
  ·refine qt e _ (ay.upd _ _ _) ⟨dx,?_⟩
   rw[aa,xl]
   rfl
theorem yT:am ["self","text"] ["self","text"] (af fL):=by trivial
def oi(C:Addr):Sp:=λvs H Q _=>∃(a dx:Addr) (x:Str),vs=[.ref a,.str x]/\H a=some (.ins C dx [])/\∀H',ay a H H'->Sg C H' a x 0->Q .non H'
theorem yP{f C:Addr}{fd:Γ}(F:Fun K "__init__" "Signs.__init__" fL f fd)(T:Txt K mg)(cl:Cls K C)(nT:cy K C "text")(nA:cy K C "at"):ap P w K mg base CX0 1 f fd ["self","text"] (oi C):=by
 refine F.ok yT (λvs H Q E h=>?_) (λcdv A outer s H vs Q E hr h=>?_)
 ·obtain⟨a,dx,x,rfl,_⟩:=h
  rfl
 obtain⟨a,dx,x,rfl,ha,q⟩:=h
 refine⟨_,(@un _ _ _ (wbO (waH (wv 0 rfl) (wv 1 rfl) rfl) (wbQ (waH (wv 0 rfl) waC rfl)))),?_⟩
 dsimp only[bf,Cx.nox]
 refine⟨_,rfl,_,rfl,a,C,dx,_,rfl,ha,cl,nT,u8 rfl,?_⟩
 refine⟨_,rfl,a,C,dx,_,rfl,aa,cl,nA,u8 rfl,?_⟩
 refine q _ ((ay.upd _ _ _).trans (ay.upd _ _ _)) ⟨dx,?_⟩
 rw[aa]
 have h:¬ γ "text"=γ "at":=by decide +kernel
 simp[eh,h]
theorem hJ:am ["self","start"] ["self"] (af ca):=by trivial
def aV(c:Nat):Bool:=c==40||c==44||c==41
theorem Am(c:Nat):inV (.str ⟨#[c]⟩) [.str (γ "("),.str (γ ","),.str (γ ")")]=aV c:=by
 have e1:γ "("=⟨#[40]⟩:=by decide +kernel
 have e2:γ ","=⟨#[44]⟩:=by decide +kernel
 have e3:γ ")"=⟨#[41]⟩:=by decide +kernel
 have h:∀d:Nat,((⟨#[d]⟩:Str)==⟨#[c]⟩)=(c==d):=λd=>by
  rw[w_,beq_iff_eq,beq_iff_eq]
  constructor
  ·intro z;injection z with z;injection z with z;injection z with z _;exact z.symm
  ·intro z;rw[z]
 rw[e1,e2,e3]
 show(((⟨#[40]⟩:Str)==⟨#[c]⟩)||(((⟨#[44]⟩:Str)==⟨#[c]⟩)||(((⟨#[41]⟩:Str)==⟨#[c]⟩)||false)))=aV c
 rw[h,h,h,Bool.or_false]
 unfold aV
 rw[Bool.or_assoc]
def tG(C:Addr):Sp:=λvs H Q _=>∃(a:Addr) (x:Str) (i j:Nat),vs=[.ref a]/\Sg C H a x i/\x.length<=1000000/\i<=j/\j<=x.length/\(∀m,i<=m->m<j->∃c,x.cps.toList[m]?=some c/\aV c=false)/\(j<x.length->∃c,x.cps.toList[j]?=some c/\aV c=true) /\
 ∀H',ay a H H'->Sg C H' a x j->Q (.str (Txt.slice x (some i) (some j))) H'
theorem nI{f C:Addr}{fd:Γ}(F:Fun K "next_word" "Signs.next_word" ca f fd)(T:Txt K mg)(cl:Cls K C)(nT:cy K C "text")(nA:cy K C "at"):ap P w K mg base CX0 1 f fd ["self"] (tG C):=by
 have nd:=hJ.nd
 refine F.ok hJ (λvs H Q E h=>?_) (λcdv A outer s H vs Q E hr h=>?_)
 ·obtain⟨a,x,i,j,rfl,_⟩:=h
  rfl
 obtain⟨a,x,i,j,rfl,⟨dx,ha⟩,lx,hij,hj,nost,stp,q⟩:=h
 refine⟨_,(@un _ _ _ (wbO (wbM 1 nd rfl (Ν rfl) (waG (wv 0 rfl) rfl) rfl ()) (wbO (wbN j4 (wab (wbW (wbS qw (waG (wv 0 rfl) rfl) (wal bw rfl T.len () (wae (waG (wv 0 rfl) rfl) waf rfl) () () rfl rfl) (ak _)) (wbX (wbS gT (waD oO (waG (wv 0 rfl) rfl) (waG (wv 0 rfl) rfl) (λ_ _=>rfl)) (waX (wae waV (wae waV (wae waV waf rfl) rfl) rfl)) (by with_unfolding_all rfl))))) (wbQ (waI (wv 0 rfl) waC yv))) (wbQ (wbK (waT kv (waG (wv 0 rfl) rfl) (wbA (wv 1 rfl)) (wbA (waG (wv 0 rfl) rfl)))))))),?_⟩
 dsimp only[bf,Cx.nox]
 refine⟨_,rfl,a,C,dx,_,.int i,rfl,ha,cl,nA,jv _ _,?_⟩
 refine gnm ?_
 have lz:x.length<=sizeLine:=by rw[τ];omega
 refine⟨λm σ H'=>∃p:Nat,m=j-p/\i<=p/\p<=j/\σ=[some (.ref a),some (.int i)]/\ay a H H'/\Sg C H' a x p,⟨_,i,rfl,θ _,hij,rfl,ay.refl _ _,dx,ha⟩,?_⟩
 rintro m σ H1 ⟨p,rfl,ip,pj,rfl,s1,dx1,ha1⟩
 have stop:∀H2,ay a H1 H2->p=j->H2 a=some (.ins C dx1 [(γ "text",.str x),(γ "at",.int (p:Int))])->Q (.str (Txt.slice x (some (i:Int)) (some (p:Int)))) H2:=λH2 s2 e h2=>by
  subst e
  exact q H2 (s1.trans s2) ⟨dx1,h2⟩
 refine⟨_,rfl,a,C,dx1,_,.int p,rfl,ha1,cl,nA,jv _ _,_,rfl,a,C,dx1,_,.str x,rfl,ha1,cl,nT,il _ _,x,rfl,lz,_,_,rfl,rfl,_,rfl,av (λhp=>?_) (λhp=>?_)⟩
 ·have hp':p<x.length:=by have:=Q7 hp;omega
  have hl:p<x.cps.toList.length:=by rw[ψ];exact hp'
  have hat:=ah (Ι hl)
  refine⟨_,rfl,a,C,dx1,_,.str x,rfl,ha1,cl,nT,il _ _,_,rfl,a,C,dx1,_,.int p,rfl,ha1,cl,nA,jv _ _,x,p,_,rfl,rfl,lz,hat,z3,λt ht=>⟨t,_,rfl,.inr (SqT.of aa),rfl,rfl,_,rfl,?_⟩⟩
  have s2:=ac ht (.tup [.str "(",.str ",",.str ")"])
  have ha2:=s2 _ _ ha1
  generalize upd H1 t (.tup [.str "(",.str ",",.str ")"])=H2 at s2 ha2⊢
  show if (!inV (.str ⟨#[x.cps.toList[p]]⟩) [.str "(",.str ",",.str ")"])=true then _ else _
  rw[Am]
  by_cases e:p=j
  ·obtain⟨c,hc,sc⟩:=stp ()
   rw[<-e,Ι hl]at hc
   cases hc
   rw[sc]
   refine aI ⟨_,rfl,a,C,dx1,_,.str x,rfl,ha2,cl,nT,il _ _,_,rfl,_,rfl,_,rfl,a,C,dx1,_,.int p,rfl,ha2,cl,nA,jv _ _,_,rfl,x,rfl,lz,?_⟩
   exact stop H2 (aj.b a s2) e ha2
  ·obtain⟨c,hc,sc⟩:=nost p ip ()
   rw[Ι hl]at hc
   cases hc
   rw[sc]
   refine aD ⟨λσ' H'=>∃p':Nat,j-p'<j-p/\i<=p'/\p'<=j/\σ'=[some (.ref a),some (.int i)]/\ay a H H'/\Sg C H' a x p',λσ' H' ⟨p',h1,h2,h3,h4,h5,h6⟩=>⟨j-p',h1,p',rfl,h2,h3,h4,h5,h6⟩,?_⟩
   refine⟨_,rfl,a,C,dx1,_,.int p,rfl,ha2,cl,nA,jv _ _,p,1,rfl,rfl,dx1,_,ha2,u8 rfl,p+1,(),(),(),rfl,s1.trans ((aj.b a s2).trans (ay.upd _ _ _)),dx1,?_⟩
   rw[aa,xl]
   rfl
 ·have e:p=j:=by
   have:¬ (p:Int)<x.length:=λz=>hp (Q9 z)
   omega
  refine⟨_,rfl,a,C,dx1,_,.str x,rfl,ha1,cl,nT,il _ _,_,rfl,_,rfl,_,rfl,a,C,dx1,_,.int p,rfl,ha1,cl,nA,jv _ _,_,rfl,x,rfl,lz,?_⟩
  exact stop H1 (ay.refl _ _) e ha1
theorem lW{x w:Str}{i:Nat}{post:List Nat}(h:x.cps.toList.drop i=w.cps.toList++post)(hi:i<=x.length):i+w.length+post.length=x.length:=by
 have e:=congrArg A4 h
 rw[ϡ,Ε,ψ,ψ]at e
 have e1:x.length=x.cps.size:=rfl
 have e2:w.length=w.cps.size:=rfl
 omega
theorem rL{x w:Str}{i:Nat}{post:List Nat}(h:x.cps.toList.drop i=w.cps.toList++post)(hi:i<=x.length):Txt.slice x (some (i:Int)) (some ((i+w.length:Nat):Int))=w:=by
 have hl:=lW h hi
 have e:=G8 (x:=x) (i:=i) (j:=((i+w.length:Nat):Int)) () () ()
 rw[beq_iff_eq.mp e,show((i:Int)).toNat=i by omega,show(((i+w.length:Nat):Int)-(i:Int)).toNat=w.length by omega,h]
 refine lP ?_
 show((w.cps.toList++post).take w.length).toArray.toList=_
 rw[show w.length=w.cps.toList.length from(ψ).symm,List.take_left' rfl]
theorem je{x y:Str}{i:Nat}(hi:i<=x.length):Txt.startswith3 x y (i:Int)=((x.cps.toList.drop i).take y.length==y.cps.toList):=by
 have ef:fromIndex x.length (i:Int)=i:=by
  unfold fromIndex
  rw[Q6 ()]
  omega
 unfold Txt.startswith3
 rw[ef,StrLaws.subAt_eq]
 by_cases h:i+y.length<=x.length
 ·rw[Q9 h,ϲ]
 ·rw[Q8 h,ϵ,eq_comm,beq_eq_false_iff_ne]
  intro e
  have:=congrArg A4 e
  rw[Ϗ,ϡ,ψ,ψ]at this
  have e1:x.length=x.cps.size:=rfl
  have e2:y.length=y.cps.size:=rfl
  omega
def Bh(post:List Nat):Prop:=post=[]\/∃c r,post=c::r/\(c=44\/c=41)
theorem mX{x w:Str}{i:Nat}{post:List Nat}(h:x.cps.toList.drop i=w.cps.toList++post)(hi:i<=x.length)(hw:∀c∈w.cps.toList,aV c=false)(hp:post=[]\/∃c r,post=c::r/\aV c=true):
  i<=i+w.length/\i+w.length<=x.length/\(∀m,i<=m->m<i+w.length->∃c,x.cps.toList[m]?=some c/\aV c=false)/\(i+w.length<x.length->∃c,x.cps.toList[i+w.length]?=some c/\aV c=true):=by
 have hl:=lW h hi
 have lw:w.length=w.cps.toList.length:=(ψ).symm
 have at_:∀m,x.cps.toList[i+m]?=(w.cps.toList++post)[m]?:=λm=>by rw[<-h,List.getElem?_drop]
 refine⟨(),(),λm h1 h2=>?_,λh1=>?_⟩
 ·have e:=at_ (m-i)
  have hm:m-i<w.cps.toList.length:=by omega
  rw[show i+(m-i)=m by omega,u9 hm,Ι hm]at e
  exact⟨_,e,hw _ (List.getElem_mem _)⟩
 ·rcases hp with rfl|⟨c,r,rfl,hc⟩
  ·simp at hl;omega
  ·refine⟨c,?_,hc⟩
   rw[at_,lw,g_ (θ _),Hx];rfl
inductive Br|leaf (w:Str)|nd (w:Str) (ts:List Br)
mutual
def brT:Br->Str
 |.leaf w=>w
 |.nd w ts=>w++γ "(" ++ ώ (γ ", ") (brTs ts)++γ ")"
def brTs:List Br->List Str
 |[]=>[]
 |t::ts=>brT t::brTs ts
end
mutual
def bQ:Br->Dv
 |.leaf w=>mZ w
 |.nd w ts=>.tup [.str w,.lst (brDvs ts)]
def brDvs:List Br->List Dv
 |[]=>[]
 |t::ts=>bQ t::brDvs ts
end
mutual
def cJ:Br->Nat
 |.leaf _=>0
 |.nd _ ts=>brDps ts+1
def brDps:List Br->Nat
 |[]=>0
 |t::ts=>max (cJ t) (brDps ts)
end
mutual
def dF:Br->Prop
 |.leaf w=>(∀c∈w.cps.toList,aV c=false)/\1<=w.cps.size
 |.nd w ts=>(∀c∈w.cps.toList,aV c=false)/\ts.length<=8/\brOks ts
def brOks:List Br->Prop
 |[]=>True
 |t::ts=>dF t/\brOks ts
end
theorem gP:∀ts,brTs ts=ts.map brT
 |[]=>rfl
 |t::ts=>by rw[brTs,gP ts];rfl
theorem fG:∀ts,brDvs ts=ts.map bQ
 |[]=>rfl
 |t::ts=>by rw[brDvs,fG ts];rfl
theorem iq:∀{ts:List Br}{u},u∈ts->cJ u<=brDps ts
 |t::ts,u,h=>by
  rw[brDps]
  rcases ι.mp h with rfl|h
  ·omega
  ·have:=iq h;omega
theorem mR:∀{ts:List Br},brOks ts->∀u∈ts,dF u
 |t::ts,h,u,hu=>by
  rw[brOks]at h
  rcases ι.mp hu with rfl|hu
  ·exact h.1
  ·exact mR h.2 u hu
theorem jB{m:Str}(h1:(m==γ "text")=false)(h2:(m==γ "at")=false)(x:Str)(i:Int):ϥ m [(γ "text",V.str x),(γ "at",V.int i)]=none:=by rw[ϙ,h1,ϙ,h2];rfl
theorem zx{post:List Nat}(h:Bh post):post=[]\/∃c r,post=c::r/\aV c=true:=by
 rcases h with h|⟨c,r,h,rfl|rfl⟩
 ·exact .inl h
 ·exact .inr ⟨_,r,h,rfl⟩
 ·exact .inr ⟨_,r,h,rfl⟩
theorem AJ{x w:Str}{i:Nat}{post:List Nat}(h:x.cps.toList.drop i=w.cps.toList++post)(hi:i<=x.length)(hp:Bh post):Txt.startswith3 x (γ "(") ((i+w.length:Nat):Int)=false:=by
 have hl:=lW h hi
 rw[je (),show(x.cps.toList.drop (i+w.length))=post by
  rw[<-List.drop_drop,h,show w.length=w.cps.toList.length from(ψ).symm,List.drop_left' rfl]]
 have e:(γ "(").cps.toList=[40]:=by decide +kernel
 rw[e,lb3]
 rcases hp with rfl|⟨c,r,rfl,rfl|rfl⟩
 ·rfl
 ·rfl
 ·rfl
def nw(H H':Hp):Hp:=λb=>match H b with|none=>H' b|some _=>none
def eM(C:Addr)(n:Nat):Sp:=λvs H Q _=>∃(a:Addr) (x:Str) (i:Nat) (most:Int) (t:Br) (post:List Nat),vs=[.ref a,.int most]/\Sg C H a x i/\x.length<=1000000/\i<=x.length/\x.cps.toList.drop i=(brT t).cps.toList++post/\Bh post/\dF t/\(cJ t:Int)<=most/\most<n /\
 ∀H' v,ay a H H'->Sg C H' a x (i+(brT t).length)->Rep (nw H H') (bQ t) v->Q v H'
theorem lS{s:Str}{c:Nat}:∀{ys:List Str},c∈(ώ s ys).cps.toList->c∈s.cps.toList\/∃y∈ys,c∈y.cps.toList
 |[],h=>by cases h
 |[a],h=>.inr ⟨a,ξ.mpr rfl,h⟩
 |a::b::r,h=>by
  rw[aR,ar,ar]at h
  rcases Φ.mp h with h|h
  ·rcases Φ.mp h with h|h
   ·exact .inr ⟨a,ν,h⟩
   ·exact .inl h
  ·rcases lS h with h|⟨y,hy,h⟩
   ·exact .inl h
   ·exact .inr ⟨y,π _ hy,h⟩
theorem kG{c:Nat}(h:48<=c/\c<=57):aV c=false:=by unfold aV;simp;omega
theorem pI{c:Nat}(h:97<=c/\c<=122):aV c=false:=by unfold aV;simp;omega
theorem wB{p:Pr}(h0:1<=p.2)(h1:p.2<10^60)(hn:nmB p.1=true):∀c∈(aG p).cps.toList,aV c=false:=λc hc=>by
 obtain⟨_,_,az⟩:=cH hn
 unfold aG at hc
 split at hc
 ·exact pI (az c hc)
 ·rw[ar,ar,pF]at hc
  rcases Φ.mp hc with h|h
  ·rcases Φ.mp h with h|h
   ·exact kG (bO (n:=p.2) () h1 c h)
   ·rw[ξ.mp h];rfl
  ·exact pI (az c h)
theorem jc{c:Int}{ps:List Pr}(wa:Wa c ps):∀d∈(bU c ps).cps.toList,aV d=false:=λd hd=>by
 unfold bU at hd
 rcases lS hd with h|⟨y,hy,h⟩
 ·rw[oy]at h;rw[ξ.mp h];rfl
 ·unfold ba at hy
  rcases Φ.mp hy with h1|h1
  ·obtain⟨p,hp,rfl⟩:=Ϡ.mp h1
   exact wB (wa.1.can.ge p hp) (wa.1.le p hp).1 (wa.2 p hp) d h
  ·split at h1
   ·rw[ξ.mp h1]at h;exact kG (bO wa.1.c0 wa.1.c1 d h)
   ·cases h1
theorem bu{x:Str}(h:1<=x.cps.size):∃c r,x.cps.toList=c::r:=by
 cases e:x.cps.toList with
 |nil=>have:=ψ (xs:=x.cps);rw[e,x_]at this;omega
 |cons c r=>exact⟨c,r,rfl⟩
theorem wu{s a:Str}{c:Nat}{r:List Nat}(h:a.cps.toList=c::r):∀ys:List Str,∃r',(ώ s (a::ys)).cps.toList=c::r'
 |[]=>⟨r,h⟩
 |b::ys=>by rw[aR,ar,ar,h];exact⟨_,rfl⟩
theorem ww{p:Pr}(h0:1<=p.2)(h1:p.2<10^60)(hn:nmB p.1=true):∃c r,(aG p).cps.toList=c::r:=by
 unfold aG
 split
 ·exact bu (cH hn).1
 ·obtain⟨c,r,e⟩:=bu (eI (fJ (n:=p.2) () h1).1).2.1
  rw[ar,ar,e];exact⟨_,_,rfl⟩
theorem wR{c:Int}{ps:List Pr}(wa:Wa c ps):∃d r,(bU c ps).cps.toList=d::r/\d≠41:=by
 have h:∃d r,(bU c ps).cps.toList=d::r:=by
  unfold bU ba
  cases ps with
  |nil=>
   obtain⟨d,r,e⟩:=bu (eI (fJ wa.1.c0 wa.1.c1).1).2.1
   rw[Q5 (.inr rfl),i9,Ϭ]
   exact⟨d,r,e⟩
  |cons p ps=>
   obtain⟨d,r,e⟩:=ww (wa.1.can.ge p ν) (wa.1.le p ν).1 (wa.2 p ν)
   rw[Μ,Ϛ]
   obtain⟨r',e'⟩:=wu (s:=γ "+") e (ps.map aG++if c≠0\/p::ps=[]then [aY c]else [])
   exact⟨d,r',e'⟩
 obtain⟨d,r,e⟩:=h
 refine⟨d,r,e,λz=>?_⟩
 have:=jc wa d (by rw[e];exact ν)
 rw[z]at this
 exact absurd this ()
theorem AF{t:Br}(ok:dF t):∃d r,(brT t).cps.toList=d::r/\d≠41:=by
 have e1:(γ "(").cps.toList=[40]:=by decide +kernel
 cases t with
 |leaf w=>
  rw[dF]at ok
  obtain⟨c,r,e⟩:=bu ok.2
  refine⟨c,r,by rw[brT];exact e,λz=>?_⟩
  have:=ok.1 c (by rw[e];exact ν)
  rw[z]at this
  exact absurd this ()
 |nd w ts=>
  rw[dF]at ok
  rw[brT,ar,ar,ar,e1]
  cases e:w.cps.toList with
  |nil=>exact⟨40,_,rfl,()⟩
  |cons c r=>
   refine⟨c,_,rfl,λz=>?_⟩
   have:=ok.1 c (by rw[e];exact ν)
   rw[z]at this
   exact absurd this ()
def rem(post:List Nat):List Br->List Nat
 |[]=>41::post
 |t::ts=>44::32::((brT t).cps.toList++rem post ts)
def inn(post:List Nat):List Br->List Nat
 |[]=>41::post
 |t::ts=>(brT t).cps.toList++rem post ts
theorem pN(post:List Nat):∀(t:Br)(ts:List Br),(ώ (γ ", ") (brTs (t::ts))).cps.toList++41::post=inn post (t::ts)
 |t,[]=>by rw[brTs,brTs,aF];rfl
 |t,u::ts=>by
  have e3:(γ ", ").cps.toList=[44,32]:=by decide +kernel
  have:=pN post u ts
  rw[brTs]at this
  rw[brTs,brTs,aR,ar,ar,e3,Ϣ,Ϣ,this]
  rfl
structure Nd(t:Br)(w:Str)(ts:List Br):Prop where
 fr:∀c∈w.cps.toList,aV c=false
 tx:∀post,(brT t).cps.toList++post=w.cps.toList++40::inn post ts
 dv:bQ t=.tup [.str w,.lst (ts.map bQ)]
 ok:∀u∈ts,dF u/\cJ u<cJ t
 le:ts.length<=8
 dp:1<=cJ t
theorem yI{t:Br}(ok:dF t):(bQ t=mZ (brT t)/\∀c∈(brT t).cps.toList,aV c=false)\/∃w ts,Nd t w ts:=by
 have e1:(γ "(").cps.toList=[40]:=by decide +kernel
 have e2:(γ ")").cps.toList=[41]:=by decide +kernel
 cases t with
 |leaf w=>rw[dF]at ok;exact .inl ⟨by rw[bQ,brT],by rw[brT];exact ok.1⟩
 |nd w ts=>
  rw[dF]at ok
  refine .inr ⟨w,ts,ok.1,λpost=>?_,by rw[bQ,fG],λu hu=>⟨mR ok.2.2 u hu,by rw[cJ];have:=iq hu;omega⟩,ok.2.1,by rw[cJ];omega⟩
  rw[brT,ar,ar,ar,e1,e2]
  simp only[Ϣ,Ϛ,Ϭ]
  cases ts with
  |nil=>rw[brTs];rfl
  |cons t ts=>rw[pN]
theorem jt{H H1 H2:Hp}(h:∀b o,H b=none->H1 b=some o->H2 b=some o):aj (nw H H1) (nw H H2):=λb o e=>by
 unfold nw at e⊢
 cases hb:H b with
 |none=>rw[hb]at e;exact h b o hb e
 |some _=>rw[hb]at e;cases e
theorem jQ{H H1 H2:Hp}(h:∀b,H1 b=none->H b=none):aj (nw H1 H2) (nw H H2):=λb o e=>by
 unfold nw at e⊢
 cases hb:H1 b with
 |none=>rw[hb]at e;rw[h b hb];exact e
 |some _=>rw[hb]at e;cases e
theorem fS{C a:Addr}{H1 H2:Hp}{x:Str}{p:Nat}(s:ay a H1 H2)(g:Sg C H2 a x p){b:Addr}(h:H2 b=none):H1 b=none:=by
 have n:b≠a:=λz=>by obtain⟨_,e⟩:=g;rw[z,e]at h;cases h
 cases e:H1 b with
 |none=>rfl
 |some o=>rw[s b o n e]at h;cases h
theorem CM(post:List Nat)(ts:List (Br)):Bh (rem post ts):=by
 cases ts with
 |nil=>exact .inr ⟨41,post,rfl,.inr rfl⟩
 |cons t ts=>exact .inr ⟨44,_,rfl,.inl rfl⟩
theorem jM{x:Str}{i:Nat}{u v:List Nat}(h:x.cps.toList.drop i=u++v):x.cps.toList.drop (i+u.length)=v:=by
 rw[<-List.drop_drop,h,List.drop_left' rfl]
theorem cT{x y:Str}{i:Nat}{u:List Nat}(hi:i<=x.length)(h:x.cps.toList.drop i=u):Txt.startswith3 x y (i:Int)=(u.take y.length==y.cps.toList):=by rw[je hi,h]
theorem fH:am ["self","most","word","inner"] ["self","most"] (af cV):=by trivial
theorem wV{f C g1 g2 g3:Addr}{fd d1 d2 d3:Γ}{k0 n:Nat}(F:Fun K "branch" "Signs.branch" cV f fd)(T:Txt K mg)(cl:Cls K C)(m_next_word:lQ K C "next_word" g1)(F_next_word:ap P w K mg base CX0 k0 g1 d1 ["self"] (tG C))(b_next_word:aU K d1 ["self"] [])
  (m_met:lQ K C "met" g2) (F_met:ap P w K mg base CX0 k0 g2 d2 ["self","signs"] (yZ C)) (b_met:aU K d2 ["self","signs"] []) (m_branch:lQ K C "branch" g3) (F_branch:ap P w K mg base CX0 k0 g3 d3 ["self","most"] (eM C n)) (b_branch:aU K d3 ["self","most"] []):ap P w K mg base CX0 (k0+1) f fd ["self","most"] (eM C (n+1)):=by
 have nd:=fH.nd
 refine F.ok fH (λvs H Q E h=>?_) (λcdv A outer s H vs Q E hr h=>?_)
 ·obtain⟨a,x,i,most,t,post,rfl,_⟩:=h
  rfl
 obtain⟨a,x,i,most,t,post,rfl,sg,lx,hi,hd,bh,ok,dm,mn,q⟩:=h
 refine⟨_,(@un _ _ _ (wbO (wbM 2 nd rfl (Ν rfl) (waL (wv 0 rfl) cl m_next_word F_next_word hr b_next_word .nil ce rfl) rfl ()) (wbO (wbI (wab (wbY (wbS aE (wv 1 rfl) waC (ak _)) (wbZ (wbT (wbV (waJ (wv 0 rfl) cl m_met F_met hr b_met .nil ce (wae waV waf rfl) rfl rfl rfl) ()))))) (wbQ (wbK (waX (wae (wv 2 rfl) (wae waN waf rfl) rfl)))) wbP) (wbO (wbM 3 nd rfl (Ν rfl) (waM waf) rfl ()) (wbO (wbI (wbT (wbV (waJ (wv 0 rfl) cl m_met F_met hr b_met .nil ce (wae waV waf rfl) rfl rfl rfl) ())) (wbO (wbG (waj ϔ b_ c_ cD (wv 3 rfl) (wae (waJ (wv 0 rfl) cl m_branch F_branch hr b_branch .nil ce (wae (waQ nJ (wv 1 rfl) waC) waf rfl) rfl rfl rfl) waf rfl) rfl rfl rfl rfl rfl) rfl) (wbO (wbN j4 (wbV (waJ (wv 0 rfl) cl m_met F_met hr b_met .nil ce (wae waV waf rfl) rfl rfl rfl) ()) (wbQ (wbG (waj ϔ b_ c_ cD (wv 3 rfl) (wae (waJ (wv 0 rfl) cl m_branch F_branch hr b_branch .nil ce (wae (waQ nJ (wv 1 rfl) waC) waf rfl) rfl rfl rfl) waf rfl) rfl rfl rfl rfl rfl) rfl))) (wbQ (wbG (waJ (wv 0 rfl) cl m_met F_met hr b_met .nil ce (wae waV waf rfl) rfl rfl rfl) rfl)))) wbP) (wbQ (wbK (waX (wae (wv 2 rfl) (wae (wv 3 rfl) waf rfl) rfl))))))))),?_⟩
 dsimp only[bf,Cx.nox]
 obtain⟨dx,ha⟩:=sg
 have nN:∀(y:Str)(p:Int),ϥ (γ "next_word") [(γ "text",V.str y),(γ "at",V.int p)]=none:=jB () ()
 have nM:∀(y:Str)(p:Int),ϥ (γ "met") [(γ "text",V.str y),(γ "at",V.int p)]=none:=jB () ()
 have nB:∀(y:Str)(p:Int),ϥ (γ "branch") [(γ "text",V.str y),(γ "at",V.int p)]=none:=jB () ()
 have e40:(γ "(").cps.toList=[40]:=by decide +kernel
 have e41:(γ ")").cps.toList=[41]:=by decide +kernel
 have e44:(γ ", ").cps.toList=[44,32]:=by decide +kernel
 rcases yI ok with ⟨ed,fr⟩|⟨w0,ts,N⟩
 ·obtain⟨w1,w2,w3,w4⟩:=mX hd hi fr (zx bh)
  refine⟨_,rfl,a,dx,_,rfl,ha,nN _ _,a,x,i,i+(brT t).length,rfl,⟨dx,ha⟩,lx,w1,w2,w3,w4,λH1 s1 sg1=>?_⟩
  rw[rL hd hi]
  obtain⟨dx1,ha1⟩:=id sg1
  refine gnm ?_
  have done:∀t0,H1 t0=none->Q (.ref t0) (upd H1 t0 (.tup [.str (brT t),.non])):=λt0 h0=>by
   have n1:t0≠a:=λz=>by rw[z,ha1]at h0;cases h0
   have h00:H t0=none:=by
    cases e:H t0 with
    |none=>rfl
    |some o=>rw[s1 t0 o n1 e]at h0;cases h0
   refine q _ _ (s1.trans (aj.b a (ac h0 _))) ⟨dx1,ac h0 _ _ _ ha1⟩ ?_
   rw[ed]
   unfold mZ
   rw[Rep]
   refine⟨t0,[.str (brT t),.non],rfl,?_,by simp only[Reps];exact⟨_,_,rfl,by simp only[Rep],_,_,rfl,by simp only[Rep],rfl⟩⟩
   unfold nw
   rw[h00];exact aa
  refine⟨_,rfl,rfl,_,rfl,av (λ_=>aD ⟨_,rfl,z2,done⟩) (λ_=>?_)⟩
  refine⟨_,rfl,a,dx1,_,rfl,ha1,nM _ _,a,x,γ "(",i+(brT t).length,rfl,sg1,(),λ_=>⟨_,rfl,aD ⟨_,rfl,z2,done⟩⟩,λe=>absurd e (by rw[AJ hd hi bh];decide)⟩
 ·have hx:x.cps.toList.drop i=w0.cps.toList++40::inn post ts:=by rw[hd,N.tx]
  obtain⟨w1,w2,w3,w4⟩:=mX hx hi N.fr (.inr ⟨40,_,rfl,rfl⟩)
  have hx1:x.cps.toList.drop (i+w0.length)=40::inn post ts:=by
   rw[show w0.length=w0.cps.toList.length from(ψ).symm];exact jM hx
  have hx2:x.cps.toList.drop (i+w0.length+1)=inn post ts:=jM (u:=[40]) hx1
  have d1:=N.dp
  have lt1:i+w0.length<x.length:=by
   have:=congrArg A4 hx1
   rw[ϡ,χ,ψ]at this
   have e1:x.length=x.cps.size:=rfl
   omega
  refine⟨_,rfl,a,dx,_,rfl,ha,nN _ _,a,x,i,i+w0.length,rfl,⟨dx,ha⟩,lx,w1,w2,w3,w4,λH1 s1 sg1=>?_⟩
  rw[rL hx hi]
  obtain⟨dx1,ha1⟩:=id sg1
  refine gnm ?_
  refine⟨_,rfl,rfl,_,rfl,av (λh=>absurd (Q7 h) (λz=>by injection z with z;omega)) (λ_=>?_)⟩
  have so:Txt.startswith3 x (γ "(") ((i+w0.length:Nat):Int)=true:=by rw[cT () hx1,e40,lb3];rfl
  refine⟨_,rfl,a,dx1,_,rfl,ha1,nM _ _,a,x,γ "(",i+w0.length,rfl,sg1,(),λe=>absurd e (by rw[so];decide),λ_ H2 s2 sg2=>⟨_,rfl,aI ?_⟩⟩
  rw[lb3]at sg2
  refine tnx ?_
  dsimp only
  refine⟨ϖ _,λl hl=>?_⟩
  refine gnm ?_
  dsimp only
  obtain⟨dx2,ha2⟩:=id sg2
  have s02:=s1.trans s2
  have la:l≠a:=λz=>by rw[z,ha2]at hl;cases hl
  have old:∀b,H2 b=none->b≠a->H b=none:=λb hb hba=>by
   cases e:H b with
   |none=>rfl
   |some o=>rw[s02 b o hba e]at hb;cases hb
  have hl0:H l=none:=old l hl la
  have s3:=ac hl (.lst [])
  have l3:upd H2 l (.lst []) l=some (.lst []):=aa
  have o3:∀b,upd H2 l (.lst []) b=none->H b=none:=λb hb=>by
   have h1:b≠l:=λz=>by rw[z,aa]at hb;cases hb
   rw[ai h1]at hb
   exact old b hb (λz=>by rw[z,ha2]at hb;cases hb)
  have ha3:=s3 _ _ ha2
  generalize upd H2 l (.lst [])=H3 at s3 l3 o3 ha3⊢
  have s03:=s02.trans (aj.b a s3)
  have ex:x.length=x.cps.size:=rfl
  have dl:∀{p:Nat}{u:List Nat},p<=x.length->x.cps.toList.drop p=u->p+u.length=x.length:=λ{p u} hp e=>by
   have:=congrArg A4 e
   rw[ϡ,ψ]at this
   omega
  have rd:∀(u:Br)(rest:List (Br))(H4:Hp)(us:List V)(p:Nat)(dxx:Addr)(Z:V->Hp->Prop),u∈ts->H4 a=some (.ins C dxx [(γ "text",.str x),(γ "at",.int (p:Int))])->p<=x.length->x.cps.toList.drop p=(brT u).cps.toList++rem post rest->H4 l=some (.lst us)->us.length<=8 ->
    (∀H5 v5 q5,ay a H4 H5->Sg C H5 a x q5->q5<=x.length->x.cps.toList.drop q5=rem post rest->Rep (nw H4 H5) (bQ u) v5->Z .non (upd H5 l (.lst (us++[v5])))) ->
    eM C n [.ref a,.int (most-1)] H4 (λv H5=>ow (.ref l) [v] H5 Z) E0:=λu rest H4 us p dxx Z hu h4 hp hdp hl4 lus k=>by
   obtain⟨ou,du⟩:=N.ok u hu
   refine⟨a,x,p,most-1,u,rem post rest,rfl,⟨dxx,h4⟩,lx,hp,hdp,CM _ _,ou,(),(),λH5 v5 s5 sg5 R5=>?_⟩
   have hq:=dl hp hdp
   rw[Ε,ψ]at hq
   have eb:(brT u).length=(brT u).cps.size:=rfl
   refine⟨l,us,v5,rfl,rfl,s5 _ _ la hl4,by rw[τ];omega,k H5 v5 _ s5 sg5 () ?_ R5⟩
   rw[show(brT u).length=(brT u).cps.toList.length from(ψ).symm]
   exact jM hdp
  have wl:∀{H':Hp}{o:HO},ay a H H'->ay a H (upd H' l o):=λ{H' o} s' b ob hb e=>by rw[ai (ao e hl0)];exact s' b ob hb e
  have sgl:∀{H':Hp}{o:HO}{p:Nat},Sg C H' a x p->Sg C (upd H' l o) a x p:=λ{H' o p} ⟨d,e⟩=>⟨d,by rw[ai (ϛ la)];exact e⟩
  have nwl:∀{H':Hp}{o:HO},aj (nw H3 H') (nw H3 (upd H' l o)):=λ{H' o}=>jt λb ob hb e=>by rw[ai (λz=>by rw[z,l3]at hb;cases hb)];exact e
  have unl:∀{H':Hp}{o:HO}{b:Addr},upd H' l o b=none->H' b=none:=λ{H' o b} hb=>by
   have h1:b≠l:=λz=>by rw[z,aa]at hb;cases hb
   rwa[ai h1]at hb
  have fin:∀(H6:Hp)(us:List V)(p:Nat),ay a H H6->Sg C H6 a x (p+1)->p<=x.length->x.cps.toList.drop p=41::post->H6 l=some (.lst us)->Reps (nw H3 H6) (ts.map bQ) us->∀t0,H6 t0=none->Q (.ref t0) (upd H6 t0 (.tup [.str w0,.ref l])):=λH6 us p s6 sg6 hp5 hd5' l6 R6 t0 h0=>by
   obtain⟨dx6,ha6⟩:=id sg6
   have t0a:t0≠a:=λz=>by rw[z,ha6]at h0;cases h0
   have h00:H t0=none:=by
    cases e:H t0 with
    |none=>rfl
    |some o=>rw[s6 t0 o t0a e]at h0;cases h0
   have s7:=ac h0 (.tup [.str w0,.ref l])
   have h1:=dl hp5 hd5'
   have h2:=dl hi hd
   rw[Ε,ψ]at h2
   rw[χ]at h1
   have eb:(brT t).length=(brT t).cps.size:=rfl
   have ep:p+1=i+(brT t).length:=by omega
   refine q _ _ (s6.trans (aj.b a s7)) ⟨dx6,by rw[<-ep];exact s7 _ _ ha6⟩ ?_
   have R7:Reps (nw H (upd H6 t0 (.tup [.str w0,.ref l]))) (ts.map bQ) us:=(R6.mono (jQ o3)).mono (jt λb ob hb e=>s7 _ _ e)
   rw[N.dv,Rep]
   refine⟨t0,[.str w0,.ref l],rfl,?_,?_⟩
   ·unfold nw;rw[h00];exact aa
   ·simp only[Reps]
    refine⟨_,_,rfl,by simp only[Rep],_,_,rfl,?_,rfl⟩
    rw[Rep]
    exact⟨l,us,rfl,by unfold nw;rw[hl0];exact s7 _ _ l6,R7⟩
  cases ts with
  |nil=>
   have hd3:x.cps.toList.drop (i+w0.length+1)=41::post:=hx2
   have y2:Txt.startswith3 x (γ ")") ((i+w0.length+1:Nat):Int)=true:=by rw[cT () hd3,e41,lb4];rfl
   refine⟨_,rfl,a,dx2,_,rfl,ha3,nM _ _,a,x,γ ")",i+w0.length+1,rfl,⟨dx2,ha3⟩,(),λe=>absurd e (by rw[y2];decide),λ_ H6 s6 sg6=>⟨_,rfl,aI ?_⟩⟩
   rw[lb4]at sg6
   refine tnx ?_
   dsimp only
   exact⟨_,rfl,_,rfl,z2,fin H6 [] _ (s03.trans s6) sg6 () hd3 (s6 _ _ la l3) (by simp only[i9,Reps])⟩
  |cons t1 ts=>
   have nc:Txt.startswith3 x (γ ")") ((i+w0.length+1:Nat):Int)=false:=by
    obtain⟨d,r,e,ne⟩:=AF (N.ok t1 ν).1
    rw[cT () hx2,e41,lb4,inn,e]
    show([d]==[41])=false
    rw[beq_eq_false_iff_ne]
    intro z;injection z with z _;exact ne z
   refine⟨_,rfl,a,dx2,_,rfl,ha3,nM _ _,a,x,γ ")",i+w0.length+1,rfl,⟨dx2,ha3⟩,(),λ_=>⟨_,rfl,aD ?_⟩,λe=>absurd e (by rw[nc];decide)⟩
   refine⟨_,rfl,.inl ⟨rfl,_,SqL.of l3⟩,_,rfl,a,dx2,_,rfl,ha3,nB _ _,_,rfl,_,_,rfl,rfl,?_⟩
   dsimp only[kj,Ϭ,Ϛ,Θ,gi]
   refine rd t1 ts H3 [] (i+w0.length+1) dx2 _ ν ha3 () hx2 l3 (ϖ _) λH4 v4 p4 s4 sg4 hp4 hd4 R4=>?_
   refine⟨λm σ H'=>∃(dn rest:List (Br)) (us:List V) (p:Nat),t1::ts=dn++rest/\m=rest.length/\σ=[some (.ref a),some (.int most),some (.str w0),some (.ref l)]/\ay a H H'/\Sg C H' a x p/\p<=x.length/\x.cps.toList.drop p=rem post rest/\H' l=some (.lst us)/\Reps (nw H3 H') (dn.map bQ) us/\∀b,H' b=none->H3 b=none,⟨_,[t1],ts,[v4],p4,rfl,rfl,rfl,wl (s03.trans s4),sgl sg4,hp4,hd4,aa,(bz R4).mono nwl,λb hb=>fS s4 sg4 (unl hb)⟩,?_⟩
   rintro m σ H5 ⟨dn,rest,us,p,et,rfl,rfl,s5,sg5,hp5,hd5,l5,R5,k5⟩
   have le:=N.le
   rw[χ]at le
   have lus:us.length+rest.length<=8:=by
    have:=R5.length
    rw[ς]at this
    have e2:=congrArg A4 et
    rw[χ,Ε]at e2
    omega
   obtain⟨dx5,ha5⟩:=id sg5
   cases rest with
   |nil=>
    have hd5':x.cps.toList.drop p=41::post:=hd5
    have n2:Txt.startswith3 x (γ ", ") (p:Int)=false:=by
     rw[cT hp5 hd5',e44,nH,beq_eq_false_iff_ne]
     intro z;rw[List.take_succ_cons]at z;injection z with z _;exact absurd z ()
    have y2:Txt.startswith3 x (γ ")") (p:Int)=true:=by rw[cT hp5 hd5',e41,lb4];rfl
    refine⟨_,rfl,a,dx5,_,rfl,ha5,nM _ _,a,x,γ ", ",p,rfl,sg5,(),λ_=>⟨_,rfl,aI ?_⟩,λe=>absurd e (by rw[n2];decide)⟩
    refine⟨_,rfl,a,dx5,_,rfl,ha5,nM _ _,a,x,γ ")",p,rfl,sg5,(),λe=>absurd e (by rw[y2];decide),λ_ H6 s6 sg6=>?_⟩
    rw[lb4]at sg6
    refine⟨_,rfl,_,rfl,z2,fin H6 us p (s5.trans s6) sg6 hp5 hd5' (s6 _ _ la l5) ?_⟩
    rw[Θ]at et
    rw[et]
    exact R5.mono (jt λb ob hb e=>s6 b ob (λz=>by rw[z,ha3]at hb;cases hb) e)
   |cons u rest=>
    have hd5':x.cps.toList.drop p=[44,32]++((brT u).cps.toList++rem post rest):=hd5
    have y2:Txt.startswith3 x (γ ", ") (p:Int)=true:=by rw[cT hp5 hd5',e44,nH];rfl
    refine⟨_,rfl,a,dx5,_,rfl,ha5,nM _ _,a,x,γ ", ",p,rfl,sg5,(),λe=>absurd e (by rw[y2];decide),λ_ H6 s6 sg6=>⟨_,rfl,aD ?_⟩⟩
    rw[nH]at sg6
    obtain⟨dx6,ha6⟩:=id sg6
    have l6:=s6 _ _ la l5
    have um:u∈t1::ts:=by rw[et];exact Ο _ ν
    have hd6:x.cps.toList.drop (p+2)=(brT u).cps.toList++rem post rest:=jM hd5'
    have hp6:p+2<=x.length:=by
     have:=dl hp5 hd5'
     rw[Ε]at this
     simp only[χ,x_]at this
     omega
    refine⟨λσ' H'=>∃(dn' rest':List (Br)) (us':List V) (p':Nat),t1::ts=dn'++rest'/\rest'.length<(u::rest).length/\σ'=[some (.ref a),some (.int most),some (.str w0),some (.ref l)]/\ay a H H'/\Sg C H' a x p'/\p'<=x.length/\x.cps.toList.drop p'=rem post rest'/\H' l=some (.lst us')/\Reps (nw H3 H') (dn'.map bQ) us'/\∀b,H' b=none->H3 b=none,λσ' H' ⟨dn',rest',us',p',h1,h2,h3,h4,h5,h6,h7,h8,h9⟩=>⟨rest'.length,h2,dn',rest',us',p',h1,rfl,h3,h4,h5,h6,h7,h8,h9⟩,?_⟩
    rw[χ]at lus
    refine⟨_,rfl,.inl ⟨rfl,_,SqL.of l6⟩,_,rfl,a,dx6,_,rfl,ha6,nB _ _,_,rfl,_,_,rfl,rfl,?_⟩
    dsimp only[kj,Ϭ,Ϛ,Θ,gi]
    refine rd u rest H6 us (p+2) dx6 _ um ha6 hp6 hd6 l6 () λH7 v7 p7 s7 sg7 hp7 hd7 R7=>?_
    have keep:∀b,H6 b=none->H3 b=none:=λb hb=>k5 b (fS s6 sg6 hb)
    refine⟨dn++[u],rest,us++[v7],p7,by rw[et,Ϣ];rfl,by rw[χ];omega,rfl,wl ((s5.trans s6).trans s7),sgl sg7,hp7,hd7,aa,?_,λb hb=>keep b (fS s7 sg7 (unl hb))⟩
    rw[ϊ]
    refine Reps.append ((R5.mono (jt λb ob hb e=>s7 b ob (λz=>by rw[z,ha3]at hb;cases hb) (s6 b ob (λz=>by rw[z,ha3]at hb;cases hb) e))).mono nwl) (bz ((R7.mono (jQ keep)).mono nwl))
def bX:Kd->Br
 |.whole=>.leaf (γ "whole")
 |.place c ps=>.nd (γ "place") [.leaf (bU c ps)]
 |.row c ps k=>.nd (γ "row") [.leaf (bU c ps),bX k]
 |.pair a b=>.nd (γ "pair") [bX a,bX b]
theorem fg:∀k,brT (bX k)=kdT k
 |.whole=>by rw[bX,brT,kdT]
 |.place c ps=>by rw[bX,brT,kdT,brTs,brTs,brT]
 |.row c ps k=>by rw[bX,brT,kdT,brTs,brTs,brTs,brT,fg k]
 |.pair a b=>by rw[bX,brT,kdT,brTs,brTs,brTs,fg a,fg b]
def Sm(c:Int)(ps:List Pr):Prop:=Wa c ps/\SL c ps
theorem cg{p q:Int->List Pr->Prop}(h:∀c ps,p c ps->q c ps):∀{k:Kd},k.All p->k.All q
 |.whole,_=>trivial
 |.place _ _,a=>h _ _ a
 |.row _ _ _,a=>⟨h _ _ a.1,cg h a.2⟩
 |.pair _ _,a=>⟨cg h a.1,cg h a.2⟩
theorem bW{x:Str}(h:nmB x=true):∀c∈x.cps.toList,aV c=false:=λc hc=>pI ((cH h).2.2 c hc)
theorem qK{c:Int}{ps:List Pr}(wa:Wa c ps):dF (.leaf (bU c ps)):=by
 rw[dF]
 refine⟨jc wa,?_⟩
 obtain⟨d,r,e,_⟩:=wR wa
 have:=congrArg A4 e
 rw[ψ,χ]at this
 omega
theorem oJ{x:Str}(h:nmB x=true):dF (.leaf x):=by rw[dF];exact⟨bW h,(aS h).1⟩
theorem jJ:∀{k:Kd},k.All Wa->dF (bX k)
 |.whole,_=>oJ ()
 |.place c ps,h=>by rw[bX,dF];exact⟨bW (),(),by rw[brOks,brOks];exact⟨qK h,trivial⟩⟩
 |.row c ps k,h=>by rw[bX,dF];exact⟨bW (),(),by rw[brOks,brOks,brOks];exact⟨qK h.1,jJ h.2,trivial⟩⟩
 |.pair a b,h=>by rw[bX,dF];exact⟨bW (),(),by rw[brOks,brOks,brOks];exact⟨jJ h.1,jJ h.2,trivial⟩⟩
def Ag(R:Dv->Br->Prop):So->Dv->Br->Prop
 |.e,d,b=>R d b
 |.l,d,b=>∃c ps,d=bA c ps/\b=.leaf (bU c ps)/\Sm c ps
 |.k,d,b=>∃k:Kd,d=k.dv/\b=bX k/\k.All Sm/\k.size<=12
 |.x,d,b=>∃y,d=.str y/\b=.leaf y/\nmB y=true
 |.y,d,b=>∃y,d=.str y/\b=.leaf y/\nmB y=true
 |_,_,_=>False
inductive Ags (R:Dv->Br->Prop):List So->List Dv->List Br->Prop
 |nil:Ags R [] [] []
 |cons {s:So} {d:Dv} {b:Br} {ss:List So} {ds:List Dv} {bs:List Br}:Ag R s d b->Ags R ss ds bs->Ags R (s::ss) (d::ds) (b::bs)
inductive Als (R:Dv->Br->Prop):List Dv->List Br->Prop
 |nil:Als R [] []
 |cons {d:Dv} {b:Br} {ds:List Dv} {bs:List Br}:R d b->Als R ds bs->Als R (d::ds) (b::bs)
def frm(x:Str):Bool:=decide (x≠"number")&&(decide (x≠"name")&&(decide (x≠"call")&&(decide (x≠"reckon")&&decide (x≠"row"))))
def gk:Wd:=("call","fa",[.f,.a])
def iu:Wd:=("reckon","wee",[.w,.e,.e])
def oF:Wd:=("row","r",[.r])
def yH:Wd:=("number","n",[.n])
def qu:Wd:=("name","x",[.x])
theorem in5:gk∈WT/\iu∈WT/\oF∈WT/\yH∈WT/\qu∈WT:=by decide +kernel
def Wx:Nat->Dv->Br->Prop
 |0,_,_=>False
 |n+1,d,b=>
  (∃i:Int,0<=i/\i<10^12/\d=.tup [.str (γ "number"),.int i]/\b=.leaf (aY i)) \/
  (∃y,nmB y=true/\d=.tup [.str (γ "name"),.str y]/\b=.leaf y) \/
  (∃f ds bs,nmB f=true/\dO f=false/\dW f=false/\ds.length<=4/\Als (Wx n) ds bs/\d=.tup [.str (γ "call"),.str f,.tup ds]/\b=.nd f bs) \/
  (∃r d1 d2 b1 b2,dW r=true/\Wx n d1 b1/\Wx n d2 b2/\d=.tup [.str (γ "reckon"),.str r,d1,d2]/\b=.nd r [b1,b2]) \/
  (∃ds bs,1<=ds.length/\ds.length<=4/\Als (Wx n) ds bs/\d=.tup [.str (γ "row"),.tup ds]/\b=.nd (γ "row") bs) \/
  (∃p ds bs,p∈WT/\frm p.1=true/\Ags (Wx n) p.2.2 ds bs/\(p.1≠"fold"\/jm ds=true)/\d=.tup (.str p.1::ds)/\b=.nd p.1 bs)
theorem Als.len{R:Dv->Br->Prop}{ds:List Dv}{bs:List Br}(h:Als R ds bs):bs.length=ds.length:=by
 induction h with
 |nil=>rfl
 |cons _ _ ih=>rw[χ,χ,ih]
theorem Als.mem{R:Dv->Br->Prop}{ds:List Dv}{bs:List Br}(h:Als R ds bs):(∀d∈ds,∃b∈bs,R d b)/\∀b∈bs,∃d∈ds,R d b:=by
 induction h with
 |nil=>exact⟨nofun,nofun⟩
 |cons a _ ih=>
  refine⟨λd hd=>?_,λb hb=>?_⟩
  ·rcases ι.mp hd with rfl|hd
   ·exact⟨_,ν,a⟩
   ·obtain⟨b,hb,r⟩:=ih.1 d hd
    exact⟨b,π _ hb,r⟩
  ·rcases ι.mp hb with rfl|hb
   ·exact⟨_,ν,a⟩
   ·obtain⟨d,hd,r⟩:=ih.2 b hb
    exact⟨d,π _ hd,r⟩
theorem Ags.len{R:Dv->Br->Prop}{ss:List So}{ds:List Dv}{bs:List Br}(h:Ags R ss ds bs):bs.length=ss.length/\ds.length=ss.length:=by
 induction h with
 |nil=>exact⟨rfl,rfl⟩
 |cons _ _ ih=>exact⟨by rw[χ,χ,ih.1],by rw[χ,χ,ih.2]⟩
theorem pR:∀p∈WT,nmB p.1=true:=by decide +kernel
theorem ij:∀r∈rm,nmB r=true/\dO r=false:=by decide +kernel
theorem eL{r:Str}(h:dW r=true):r∈rm:=by
 unfold dW at h
 have:=n_.mp h
 obtain⟨v,hv,e⟩:=this
 obtain⟨y,hy,rfl⟩:=Ϡ.mp hv
 have e2:y=r:=Q7 e
 rw[<-e2]
 exact hy
theorem yL{n:Nat}:∀{bs:List Br},(∀b∈bs,cJ b<=n)->brDps bs<=n
 |[],_=>ϖ _
 |b::bs,h=>by
  rw[brDps]
  have:=h b ν
  have:=yL λc hc=>h c (π _ hc)
  omega
theorem xN{R:Dv->Br->Prop}(hR:∀d b,R d b->d.small=true):∀{s:So}{d:Dv}{b:Br},Ag R s d b->jE s d=true/\d.small=true
 |.e,d,b,h=>⟨rfl,hR _ _ h⟩
 |.l,_,_,h=>by obtain⟨c,ps,rfl,_,sm⟩:=h;exact⟨sm.2.1,sm.2.2⟩
 |.k,_,_,h=>by
  obtain⟨k,rfl,_,kA,k6⟩:=h
  have a:=cg (q:=SL) (λ_ _ h=>h.2) kA
  exact⟨Q9 (by rw[fP a];omega),fw a⟩
 |.x,_,_,h=>by obtain⟨y,rfl,_,hy⟩:=h;exact⟨hy,Q9 (by have:=(aS hy).2;omega)⟩
 |.y,_,_,h=>by obtain⟨y,rfl,_,hy⟩:=h;exact⟨hy,Q9 (by have:=(aS hy).2;omega)⟩
theorem zo{R:Dv->Br->Prop}(hR:∀d b,R d b->d.small=true){ss:List So}{ds:List Dv}{bs:List Br}(h:Ags R ss ds bs):okF ss ds=true/\∀d∈ds,d.small=true:=by
 induction h with
 |nil=>exact⟨rfl,nofun⟩
 |cons a _ ih=>
  refine⟨by rw[okF,(xN hR a).1,ih.1];rfl,λd hd=>?_⟩
  rcases ι.mp hd with rfl|hd
  ·exact(xN hR a).2
  ·exact ih.2 d hd
theorem gY{x:Str}(h:nmB x=true):(Dv.str x).small=true:=Q9 (by have:=(aS h).2;omega)
theorem yK{ds:List Dv}{m:Int}(h:m<=ds.length)(h4:ds.length<=4):lL m (.tup ds)=true:=by
 show(decide (m<=(ds.length:Int))&&decide ((ds.length:Int)<=4))=true
 rw[Q9 h,Q9 ()];rfl
theorem cu{x:Str}{ds:List Dv}(hx:nmB x=true)(h:∀d∈ds,d.small=true)(hl:ds.length<=10):(Dv.tup (.str x::ds)).small=true:=
 aX (λd hd=>by
  rcases ι.mp hd with rfl|hd
  ·exact gY hx
  ·exact h d hd) (by rw[χ];omega)
theorem fK:∀{n:Nat}{d:Dv}{b:Br},Wx n d b->dq d=true/\d.small=true
 |n+1,d,b,h=>by
  have hR:∀d b,Wx n d b->d.small=true:=λd b h=>(fK h).2
  rw[Wx]at h
  rcases h with ⟨i,h0,h1,rfl,rfl⟩|⟨y,hy,rfl,rfl⟩|⟨f,ds,bs,hf,hw,hr,l4,ha,rfl,rfl⟩|⟨r,d1,d2,b1,b2,hr,w1,w2,rfl,rfl⟩|⟨ds,bs,l1,l4,ha,rfl,rfl⟩|⟨p,ds,bs,hp,_,ha,fo,rfl,rfl⟩
  ·have e:=bq (p:=yH) in5.2.2.2.1 [.int i]
   refine⟨e.trans ?_,cu () (λd hd=>by rw[ξ.mp hd];rfl) ()⟩
   show((iT 1000000000000 (.int i)&&true)&&_)=true
   rw[show iT 1000000000000 (.int i)=true from by unfold iT;simp;omega]
   rw[show decide (yH.1≠γ "fold")=true from by decide +kernel]
   rfl
  ·have e:=bq (p:=qu) in5.2.2.2.2 [.str y]
   refine⟨e.trans ?_,cu () (λd hd=>by rw[ξ.mp hd];exact gY hy) ()⟩
   show((nmB y&&true)&&_)=true
   rw[hy]
   rw[show decide (qu.1≠γ "fold")=true from by decide +kernel]
   rfl
  ·have e:=bq (p:=gk) in5.1 [.str f,.tup ds]
   have sm:∀d∈ds,d.small=true:=λd hd=>by obtain⟨b,_,r⟩:=ha.mem.1 d hd;exact hR d b r
   refine⟨e.trans ?_,cu () (λd hd=>?_) ()⟩
   ·show((tN (.str f)&&(lL 0 (.tup ds)&&true))&&_)=true
    rw[yK () l4,show tN (.str f)=true from by unfold tN;simp[hf,hw,hr]]
    rw[show decide (gk.1≠γ "fold")=true from by decide +kernel]
    rfl
   ·rcases ι.mp hd with rfl|hd
    ·exact gY hf
    ·rw[ξ.mp hd];exact aX sm ()
  ·have e:=bq (p:=iu) in5.2.1 [.str r,d1,d2]
   refine⟨e.trans ?_,cu () (λd hd=>?_) ()⟩
   ·show((xE (.str r)&&(true&&(true&&true)))&&_)=true
    rw[show xE (.str r)=true from hr]
    rw[show decide (iu.1≠γ "fold")=true from by decide +kernel]
    rfl
   ·rcases ι.mp hd with rfl|hd
    ·exact gY (ij r (eL hr)).1
    ·rcases ι.mp hd with rfl|hd
     ·exact hR _ _ w1
     ·rw[ξ.mp hd];exact hR _ _ w2
  ·have e:=bq (p:=oF) in5.2.2.1 [.tup ds]
   have sm:∀d∈ds,d.small=true:=λd hd=>by obtain⟨b,_,r⟩:=ha.mem.1 d hd;exact hR d b r
   refine⟨e.trans ?_,cu () (λd hd=>by rw[ξ.mp hd];exact aX sm ()) ()⟩
   show((lL 1 (.tup ds)&&true)&&_)=true
   rw[yK () l4]
   rw[show decide (oF.1≠γ "fold")=true from by decide +kernel]
   rfl
  ·obtain⟨h1,h2⟩:=zo hR ha
   refine⟨(bq hp ds).trans ?_,cu (pR p hp) h2 (by rw[ha.len.2];have:=fO p hp;omega)⟩
   rw[h1]
   rcases fo with fo|fo
   ·rw[Q9 fo];rfl
   ·rw[fo,Bool.or_true];rfl
def bl(b:Br):Nat:=(brT b).length
def wgt:So->Nat
 |.l=>1540
 |.k=>20400
 |.x=>8
 |.y=>8
 |_=>0
theorem BQ:∀p∈WT,(p.2.2.map wgt).sum<=20400/\p.1.length<=8:=by decide +kernel
theorem pH(w:Str)(bs:List Br):bl (.nd w bs)<=w.length+2+(bs.map bl).sum+bs.length*2:=by
 show(brT (.nd w bs)).length<=w.length+2+(bs.map bl).sum+bs.length*2
 rw[brT,Η,Η,Η,lb3,lb4,gP]
 have:=io (γ ", ") (bs.map brT)
 rw[nH,ς,i_]at this
 have e:((λx:Str=>x.length)∘brT)=bl:=rfl
 rw[e]at this
 omega
theorem oS(s:Str):∀ys:List Str,(ys.map (·.length)).sum<=(ώ s ys).length
 |[]=>ϖ _
 |[a]=>by rw[aF];simp
 |a::b::r=>by
  have ih:=oS s (b::r)
  rw[aR,Η,Η]
  simp only[Μ,o8]at ih⊢
  omega
theorem qW(w:Str)(bs:List Br):(bs.map bl).sum<=bl (.nd w bs):=by
 show(bs.map bl).sum<=(brT (.nd w bs)).length
 rw[brT,Η,Η,Η,gP]
 have:=oS (γ ", ") (bs.map brT)
 rw[i_]at this
 have e:((λx:Str=>x.length)∘brT)=bl:=rfl
 rw[e]at this
 omega
theorem qd{bs:List Br}{b:Br}(h:b∈bs):bl b<=(bs.map bl).sum:=oV (i4 h)
theorem CF{n:Nat}{R:Dv->Br->Prop}(hR:∀d b,R d b->bl b<=24000*exN n d):∀{s:So}{d:Dv}{b:Br},Ag R s d b->bl b<=wgt s+24000*((ptD s d).map (exN n)).sum
 |.e,d,b,h=>by have:=hR _ _ h;show bl b<=0+24000*(exN n d+0);omega
 |.l,_,_,h=>by obtain⟨c,ps,_,rfl,sm⟩:=h;have:=eO sm.1.1;unfold bl;rw[brT];show _<=1540+_;omega
 |.k,_,_,h=>by
  obtain⟨k,_,rfl,kA,k6⟩:=h
  have:=cS (cg (q:=Wr) (λ_ _ h=>h.1.1) kA)
  unfold bl
  rw[fg]
  show _<=20400+_
  omega
 |.x,_,_,h=>by obtain⟨y,_,rfl,hy⟩:=h;have:=(aS hy).2;unfold bl;rw[brT];show y.cps.size<=8+_;omega
 |.y,_,_,h=>by obtain⟨y,_,rfl,hy⟩:=h;have:=(aS hy).2;unfold bl;rw[brT];show y.cps.size<=8+_;omega
theorem At{n:Nat}{R:Dv->Br->Prop}(hR:∀d b,R d b->bl b<=24000*exN n d){ss:List So}{ds:List Dv}{bs:List Br}(h:Ags R ss ds bs):(bs.map bl).sum<=(ss.map wgt).sum+24000*((bD ss ds).map (exN n)).sum:=by
 induction h with
 |nil=>exact ϖ _
 | @cons s d b ss ds bs a _ ih=>
  have:=CF hR a
  rw[show bD (s::ss) (d::ds)=ptD s d++bD ss ds from rfl,ϊ,E1]
  simp only[Μ,o8]
  omega
theorem vU{n:Nat}{R:Dv->Br->Prop}(hR:∀d b,R d b->bl b<=24000*exN n d){ds:List Dv}{bs:List Br}(h:Als R ds bs):(bs.map bl).sum<=24000*(ds.map (exN n)).sum:=by
 induction h with
 |nil=>exact ϖ _
 | @cons d b ds bs a _ ih=>
  have:=hR _ _ a
  simp only[Μ,o8]
  omega
theorem vW{n:Nat}{p:Wd}(hp:p∈WT){ds:List Dv}(h:dq (.tup (.str p.1::ds))=true):exN (n+1) (.tup (.str p.1::ds))=1+((bD p.2.2 ds).map (exN n)).sum:=by
 rw[exN,Q5 h,parts_of hp]
theorem sJ:∀{n:Nat}{d:Dv}{b:Br},Wx n d b->bl b<=24000*exN n d
 |n+1,d,b,h=>by
  have hR:∀d b,Wx n d b->bl b<=24000*exN n d:=λd b h=>sJ h
  have hn:=(fK h).1
  have c1:=jR (n+1) d
  rw[Wx]at h
  rcases h with ⟨i,h0,h1,rfl,rfl⟩|⟨y,hy,rfl,rfl⟩|⟨f,ds,bs,hf,hw,hr,l4,ha,rfl,rfl⟩|⟨r,d1,d2,b1,b2,hr,w1,w2,rfl,rfl⟩|⟨ds,bs,l1,l4,ha,rfl,rfl⟩|⟨p,ds,bs,hp,_,ha,fo,rfl,rfl⟩
  ·have:=gJ (i:=i) h0 ()
   unfold bl;rw[brT];omega
  ·have e:y.length=y.cps.size:=rfl
   have:=(aS hy).2
   unfold bl;rw[brT];omega
  ·have e:=vW (n:=n) (p:=gk) in5.1 hn
   have e2:bD gk.2.2 [.str f,.tup ds]=ds:=by show []++(ds++[])=ds;rw[Θ,Ϭ]
   rw[e2]at e
   have h1:=pH f bs
   have h2:=vU hR ha
   have h3:=ha.len
   have h4:f.length=f.cps.size:=rfl
   have h5:=(aS hf).2
   show _<=24000*exN (n+1) (.tup (.str gk.1::[.str f,.tup ds]))
   rw[e]
   omega
  ·have e:=vW (n:=n) (p:=iu) in5.2.1 hn
   have h1:=pH r [b1,b2]
   have h2:=hR _ _ w1
   have h3:=hR _ _ w2
   have h4:r.length=r.cps.size:=rfl
   have h5:=(aS (ij r (eL hr)).1).2
   have e2:((bD iu.2.2 [.str r,d1,d2]).map (exN n)).sum=exN n d1+(exN n d2+0):=rfl
   rw[e2]at e
   simp only[Μ,i9,o8,List.sum_nil,χ,x_]at h1
   show _<=24000*exN (n+1) (.tup (.str iu.1::[.str r,d1,d2]))
   rw[e]
   omega
  ·have e:=vW (n:=n) (p:=oF) in5.2.2.1 hn
   have e2:bD oF.2.2 [.tup ds]=ds:=by show ds++[]=ds;rw[Θ]
   rw[e2]at e
   have h1:=pH (γ "row") bs
   have h2:=vU hR ha
   have h3:=ha.len
   have h4:(γ "row").length=3:=by decide +kernel
   show _<=24000*exN (n+1) (.tup (.str oF.1::[.tup ds]))
   rw[e]
   omega
  ·have e:=vW (n:=n) hp hn
   have h1:=pH p.1 bs
   have h2:=At hR ha
   have h3:=ha.len.1
   have h4:=fO p hp
   have h5:=BQ p hp
   rw[e]
   omega
abbrev dM:Stmt:=top 47
abbrev gu:Stmt:=top 48
abbrev ck:Stmt:=top 49
theorem Als.get{R:Dv->Br->Prop}{ds:List Dv}{bs:List Br}(h:Als R ds bs):∀{i:Nat}{d:Dv},ds[i]?=some d->∃b,bs[i]?=some b/\R d b:=by
 induction h with
 |nil=>intro i d e;cases e
 |cons a _ ih=>
  intro i d e
  cases i with
  |zero=>cases e;exact⟨_,rfl,a⟩
  |succ i=>exact ih e
def bv(b:Br):V:=.str (brT b)
def rQ(n:Nat):Sp:=λvs H Q _=>∃(v:V) (d:Dv) (b:Br),vs=[v]/\Rep H d v/\Wx n d b/\bl b<=1000000/\∀H',aj H H'->Q (bv b) H'
def Bs(n:Nat):Sp:=λvs H Q _=>∃(a:Addr) (us:List V) (ds:List Dv) (bs:List Br),vs=[.ref a]/\H a=some (.tup us)/\Reps H ds us/\Als (Wx n) ds bs/\ds.length<=4/\(bs.map bl).sum<=1000000/\∀(H':Hp)(l:Addr),aj H H'->H l=none->H' l=some (.lst (bs.map bv))->Q (.ref l) H'
def BD(n:Nat):Sp:=λvs H Q _=>∃(s:So) (v:V) (d:Dv) (b:Br),vs=[.str (srt s),v]/\Rep H d v/\Ag (Wx n) s d b/\bl b<=1000000/\∀H',aj H H'->Q (bv b) H'
theorem ju:am ["expressions"] ["expressions"] (af gu):=by trivial
theorem qU{f:Addr}{fd:Γ}{k n:Nat}(F:Fun K "show_all" "show_all" gu f fd)(T:Txt K mg)(Dshow_expression:Def P w K mg base k "show_expression" ["expression"] (rQ n)):ap P w K mg base CX0 (k+1) f fd ["expressions"] (Bs n):=by
 have nd:=ju.nd
 refine F.ok ju (λvs H Q E h=>?_) (λcdv A outer s H vs Q E hr h=>?_)
 ·obtain⟨a,us,ds,bs,rfl,_⟩:=h
  rfl
 obtain⟨a,us,ds,bs,rfl,ha,ru,al,l4,lb,q⟩:=h
 have hl:=ru.length
 have bl4:=al.len
 refine⟨_,(@un _ _ _ (wbQ (wbK (waE ["each"] [] (wbo (wv 0 rfl)) (.of rfl) rfl (λ_ _ _=>⟨pg_name (i:=0) (bZ (l:=["each"]) (()) rfl) rfl (Ν rfl)⟩) (bF ()) (λ_ _ _=>wbx) (λ_ _ _=>(waq Dshow_expression hr rfl (wae (wv 0 rfl) waf rfl) () rfl rfl)) ())))),?_⟩
 refine⟨_,rfl,a,rfl,⟨us,SqT.of ha⟩,se (xs:=us) (λi ys H'=>aj H H'/\ys=(bs.take i).map bv) ⟨aj.refl _,rfl⟩ (λi ys H' _ p=>SqT.of (p.1 _ _ ha)) ?_ ?_⟩
 ·rintro i ys H3 x hx ⟨s3,rfl⟩
  obtain⟨d,hd,Rd⟩:=ru.get hx
  obtain⟨b,hb,wx⟩:=al.get hd
  have:=qd (Ϝ hb)
  refine bP ⟨_,rfl,x,d,b,rfl,Rd.mono s3,wx,(),λH4 s4=>⟨?_,s3.trans s4,?_⟩⟩
  ·rw[ς,Ϗ,τ];omega
  ·rw[m5,hb,ϊ]
   rfl
 ·rintro ys H3 ⟨s3,rfl⟩ l hl'
  rw[show us.length=bs.length by omega,j9]
  exact q _ l (s3.trans (ac hl' _)) (by
   cases e:H l with
   |none=>rfl
   |some o=>rw[s3 l o e]at hl';cases hl') aa
theorem eT:am ["sort","given"] ["sort","given"] (af dM):=by trivial
theorem lH{f:Addr}{fd:Γ}{k n:Nat}(F:Fun K "show_behind" "show_behind" dM f fd)(T:Txt K mg)(Dshow_length:Def P w K mg base k "show_length" ["a"] vV)(Dshow_kind:Def P w K mg base k "show_kind" ["kind"] (qi 12))(Dshow_expression:Def P w K mg base k "show_expression" ["expression"] (rQ n)):ap P w K mg base CX0 (k+1) f fd ["sort","given"] (BD n):=by
 have nd:=eT.nd
 refine F.ok eT (λvs H Q E h=>?_) (λcdv A outer s H vs Q E hr h=>?_)
 ·obtain⟨s,v,d,b,rfl,_⟩:=h
  rfl
 obtain⟨s,v,d,b,rfl,R,ag,lb,q⟩:=h
 refine⟨_,(@un _ _ _ (wbO (wbI (wbS aE (wv 0 rfl) waV (ak _)) (wbQ (wbK (waq Dshow_length hr rfl (wae (wv 1 rfl) waf rfl) () rfl rfl))) wbP) (wbO (wbI (wbS aE (wv 0 rfl) waV (ak _)) (wbQ (wbK (waq Dshow_kind hr rfl (wae (wv 1 rfl) waf rfl) () rfl rfl))) wbP) (wbO (wbI (wbS aE (wv 0 rfl) waV (ak _)) (wbQ (wbK (waq Dshow_expression hr rfl (wae (wv 1 rfl) waf rfl) () rfl rfl))) wbP) (wbQ (wbK (wv 1 rfl))))))),?_⟩
 refine⟨_,rfl,rfl,_,rfl,av (λh=>?_) (λh=>?_)⟩
 ·cases(nu s).mp (Q7 h)
  obtain⟨c,ps,rfl,rfl,sm⟩:=ag
  refine⟨_,rfl,v,c,ps,rfl,R,sm.1.1,λH1 s1=>?_⟩
  have:=q H1 s1
  unfold bv at this
  rwa[brT]at this
 have hl:s≠.l:=λz=>h (Q9 ((nu s).mpr z))
 refine⟨_,rfl,rfl,_,rfl,av (λh=>?_) (λh=>?_)⟩
 ·cases(mQ s).mp (Q7 h)
  obtain⟨k,rfl,rfl,kA,k6⟩:=ag
  refine⟨_,rfl,v,k,rfl,R,(),(),cg (λ_ _ h=>h.1.1) kA,λH1 s1=>?_⟩
  have:=q H1 s1
  unfold bv at this
  rwa[fg]at this
 have hk:s≠.k:=λz=>h (Q9 ((mQ s).mpr z))
 refine⟨_,rfl,rfl,_,rfl,av (λh=>?_) (λh=>?_)⟩
 ·cases(vZ s).mp (Q7 h)
  exact⟨_,rfl,v,d,b,rfl,R,ag,lb,q⟩
 have he:s≠.e:=λz=>h (Q9 ((vZ s).mpr z))
 have key:∃y,d=.str y/\b=.leaf y/\nmB y=true:=by
  cases s with
  |x=>exact ag
  |y=>exact ag
  |l=>exact absurd rfl hl
  |k=>exact absurd rfl hk
  |e=>exact absurd rfl he
  |n=>exact ag.elim
  |w=>exact ag.elim
  |f=>exact ag.elim
  |a=>exact ag.elim
  |r=>exact ag.elim
 obtain⟨y,rfl,rfl,hy⟩:=key
 obtain rfl:v=.str y:=R
 have:=q H (aj.refl _)
 unfold bv at this
 rw[brT]at this
 exact⟨_,rfl,this⟩
theorem Ags.get{R:Dv->Br->Prop}{ss:List So}{ds:List Dv}{bs:List Br}(h:Ags R ss ds bs):∀{i:Nat}{s:So}{d:Dv},ss[i]?=some s->ds[i]?=some d->∃b,bs[i]?=some b/\Ag R s d b:=by
 induction h with
 |nil=>intro i s d e;cases e
 |cons a _ ih=>
  intro i s d e e'
  cases i with
  |zero=>cases e;cases e';exact⟨_,rfl,a⟩
  |succ i=>exact ih e e'
theorem rZ{x:Str}(h:frm x=true):x≠"number"/\x≠"name"/\x≠"call"/\x≠"reckon"/\x≠"row":=by
 unfold frm at h
 simp only[ο,decide_eq_true_eq]at h
 exact h
theorem fwd{x y:Str}(h:x≠y){α:Prop}(e:decide (V.str x=V.str y)=true):α:=(h (V.str.inj (Q7 e))).elim
theorem vX{z:Str}{l:Addr}{bs:List Br}{H:Hp}{Q:V->Hp->Prop}{E:XK}(hl:H l=some (.lst (bs.map bv)))(hz:nmB z=true)(h8:bs.length<=8)(lb:bl (.nd z bs)<=1000000)(q:Q (bv (.nd z bs)) H):oR [.str z,.ref l] H Q E:=by
 have h1:=qW z bs
 have h2:=(aS hz).2
 refine⟨z,l,bs.map brT,rfl,by rw[hl,i_];rfl,by show z.cps.size<=10;omega,?_,?_⟩
 ·rw[i_,ς]
  show(bs.map bl).sum+_<=_
  omega
 ·have e:bv (.nd z bs)=.str (z++γ "(" ++ ώ (γ ", ") (bs.map brT)++γ ")"):=by
   unfold bv
   rw[brT,gP]
  rw[<-e]
  exact q
theorem da:am ["expression","word"] ["expression"] (af ck):=by trivial
theorem gz{f gS:Addr}{fd:Γ}{k n:Nat}(F:Fun K "show_expression" "show_expression" ck f fd)(T:Txt K mg)(S:Shp P w K gS)(GS:mg "SHAPES"=some (.ref gS))(Din_brackets:Def P w K mg base k "in_brackets" ["word","texts"] oR)(Dshow_all:Def P w K mg base k "show_all" ["expressions"] (Bs n))(Dshow_behind:Def P w K mg base k "show_behind" ["sort","given"] (BD n)):ap P w K mg base CX0 (k+1) f fd ["expression"] (rQ (n+1)):=by
 have nd:=da.nd
 refine F.ok da (λvs H Q E h=>?_) (λcdv A outer s H vs Q E hr h=>?_)
 ·obtain⟨v,d,b,rfl,_⟩:=h
  rfl
 obtain⟨v,d,b,rfl,R,wx,lb,q⟩:=h
 obtain⟨kvs,FS,hS,hS2⟩:=S.ex
 refine⟨_,(@un _ _ _ (wbO (wbM 1 nd rfl (Ν rfl) (waD aq (wv 0 rfl) waC (λ_ _=>rfl)) rfl ()) (wbO (wbI (wbS aE (wv 1 rfl) waV (ak _)) (wbQ (wbK (wam ic rfl T.str () (wae (waD aq (wv 0 rfl) waC (λ_ _=>rfl)) waf rfl) () () rfl rfl))) wbP) (wbO (wbI (wbS aE (wv 1 rfl) waV (ak _)) (wbQ (wbK (waD aq (wv 0 rfl) waC (λ_ _=>rfl)))) wbP) (wbO (wbI (wbS aE (wv 1 rfl) waV (ak _)) (wbQ (wbK (waq Din_brackets hr rfl (wae (waD aq (wv 0 rfl) waC (λ_ _=>rfl)) (wae (waq Dshow_all hr rfl (wae (waD aq (wv 0 rfl) waC (λ_ _=>rfl)) waf rfl) () rfl rfl) waf rfl) rfl) () rfl rfl))) wbP) (wbO (wbI (wbS aE (wv 1 rfl) waV (ak _)) (wbQ (wbK (waq Din_brackets hr rfl (wae (waD aq (wv 0 rfl) waC (λ_ _=>rfl)) (wae (waq Dshow_all hr rfl (wae (waT jT (wv 0 rfl) (wbA waC) wbz) waf rfl) () rfl rfl) waf rfl) rfl) () rfl rfl))) wbP) (wbO (wbI (wbS aE (wv 1 rfl) waV (ak _)) (wbQ (wbK (waq Din_brackets hr rfl (wae waV (wae (waq Dshow_all hr rfl (wae (waD aq (wv 0 rfl) waC (λ_ _=>rfl)) waf rfl) () rfl rfl) waf rfl) rfl) () rfl rfl))) wbP) (wbQ (wbK (waq Din_brackets hr rfl (wae (wv 1 rfl) (wae (waE (["sort","given"]) [] (wbs rfl T.zip (wae (wbu FS (waB (.ref gS) rfl GS rfl ()) (wv 1 rfl) (λ_ _=>rfl)) (wae (waT jT (wv 0 rfl) (wbA waC) wbz) waf rfl) rfl) rfl rfl) (.of rfl) rfl (λ_ _ _=>⟨pg_tup rfl (pgs_cons (pg_name (i:=0) (bZ (l:=["sort","given"]) (()) rfl) rfl (Ν rfl)) (pgs_cons (pg_name (i:=1) (bZ (l:=["sort","given"]) (()) rfl) rfl (Ν rfl)) pgs_nil))⟩) (ox () ()) (λ_ _ _=>wbx) (λ_ _ _=>(waq Dshow_behind hr rfl (wae (wv 0 rfl) (wae (wv 1 rfl) waf rfl) rfl) () rfl rfl)) ()) waf rfl) rfl) () rfl rfl)))))))))),?_⟩
 dsimp only[bf,Cx.nox]
 rw[Wx]at wx
 rcases wx with ⟨i,h0,h1,rfl,rfl⟩|⟨y,hy,rfl,rfl⟩|⟨f,ds,bs,hf,hw,hr',l4,ha,rfl,rfl⟩|⟨r,d1,d2,b1,b2,hr',w1,w2,rfl,rfl⟩|⟨ds,bs,l1,l4,ha,rfl,rfl⟩|⟨p,ds,bs,hp,hf,ha,fo,rfl,rfl⟩
 all_goals obtain⟨a,vs,rfl,hta,rs⟩:=Rep.tup_inv R
 all_goals obtain⟨y0,ws,rfl,R0,ru⟩:=cA rs
 ·obtain rfl:y0=_:=R0
  obtain⟨x,rfl,rx⟩:=cR ru
  obtain rfl:x=.int i:=rx
  refine⟨_,rfl,a,_,0,_,rfl,rfl,SqT.of hta,ah (j:=0) rfl,?_⟩
  refine gnm ?_
  refine⟨_,rfl,rfl,_,rfl,av (λh=>?_) (λh=>absurd (Q9 rfl) h)⟩
  have:=vn (i:=i) h0 ()
  exact⟨_,rfl,a,_,1,.int i,rfl,rfl,SqT.of hta,ah (j:=1) rfl,i,rfl,this,by have:=q H (aj.refl _);unfold bv at this;rwa[brT]at this⟩
 ·obtain rfl:y0=_:=R0
  obtain⟨x,rfl,rx⟩:=cR ru
  obtain rfl:x=.str y:=rx
  refine⟨_,rfl,a,_,0,_,rfl,rfl,SqT.of hta,ah (j:=0) rfl,?_⟩
  refine gnm ?_
  refine⟨_,rfl,rfl,_,rfl,av (fwd ()) (λ_=>?_)⟩
  refine⟨_,rfl,rfl,_,rfl,av (λ_=>?_) (λh=>absurd (Q9 rfl) h)⟩
  refine⟨_,rfl,a,_,1,.str y,rfl,rfl,SqT.of hta,ah (j:=1) rfl,by have:=q H (aj.refl _);unfold bv at this;rwa[brT]at this⟩
 ·obtain rfl:y0=_:=R0
  obtain⟨x1,x2,rfl,r1,r2⟩:=Reps.two ru
  obtain rfl:x1=.str f:=r1
  obtain⟨t,us,rfl,ht,rt⟩:=Rep.tup_inv r2
  refine⟨_,rfl,a,_,0,_,rfl,rfl,SqT.of hta,ah (j:=0) rfl,?_⟩
  refine gnm ?_
  refine⟨_,rfl,rfl,_,rfl,av (fwd ()) (λ_=>?_)⟩
  refine⟨_,rfl,rfl,_,rfl,av (fwd ()) (λ_=>?_)⟩
  refine⟨_,rfl,rfl,_,rfl,av (λ_=>?_) (λh=>absurd (Q9 rfl) h)⟩
  have h1:=qW f bs
  refine⟨_,rfl,a,_,1,.str f,rfl,rfl,SqT.of hta,ah (j:=1) rfl,_,rfl,a,_,2,.ref t,rfl,rfl,SqT.of hta,ah (j:=2) rfl,t,us,ds,bs,rfl,ht,rt,ha,l4,(),λH1 l s1 hn hl=>?_⟩
  exact vX (E:=E0) hl hf (by rw[ha.len];omega) lb (q _ s1)
 ·obtain rfl:y0=_:=R0
  obtain⟨x1,ws,rfl,r1,ru2⟩:=cA ru
  obtain rfl:x1=.str r:=r1
  refine⟨_,rfl,a,_,0,_,rfl,rfl,SqT.of hta,ah (j:=0) rfl,?_⟩
  refine gnm ?_
  refine⟨_,rfl,rfl,_,rfl,av (fwd ()) (λ_=>?_)⟩
  refine⟨_,rfl,rfl,_,rfl,av (fwd ()) (λ_=>?_)⟩
  refine⟨_,rfl,rfl,_,rfl,av (fwd ()) (λ_=>?_)⟩
  refine⟨_,rfl,rfl,_,rfl,av (λ_=>?_) (λh=>absurd (Q9 rfl) h)⟩
  have h1:=qW r [b1,b2]
  refine⟨_,rfl,a,_,1,.str r,rfl,rfl,SqT.of hta,ah (j:=1) rfl,?_⟩
  refine⟨_,rfl,2,rfl,?_⟩
  dsimp only[fW]
  refine jS hta λH1 t s1 ht=>?_
  have ec:dG (V.str (γ "reckon")::V.str r::ws) (some 2) none=ws:=fR (V.str (γ "reckon")::V.str r::ws) 2
  rw[ec]at ht
  refine⟨t,ws,[d1,d2],[b1,b2],rfl,ht,ru2.mono s1,.cons w1 (.cons w2 .nil),(),(),λH2 l s2 hn hl=>?_⟩
  exact vX (E:=E0) hl (ij r (eL hr')).1 () lb (q _ (s1.trans s2))
 ·obtain rfl:y0=_:=R0
  obtain⟨x1,rfl,r1⟩:=cR ru
  obtain⟨t,us,rfl,ht,rt⟩:=Rep.tup_inv r1
  refine⟨_,rfl,a,_,0,_,rfl,rfl,SqT.of hta,ah (j:=0) rfl,?_⟩
  refine gnm ?_
  refine⟨_,rfl,rfl,_,rfl,av (fwd ()) (λ_=>?_)⟩
  refine⟨_,rfl,rfl,_,rfl,av (fwd ()) (λ_=>?_)⟩
  refine⟨_,rfl,rfl,_,rfl,av (fwd ()) (λ_=>?_)⟩
  refine⟨_,rfl,rfl,_,rfl,av (fwd ()) (λ_=>?_)⟩
  refine⟨_,rfl,rfl,_,rfl,av (λ_=>?_) (λh=>absurd (Q9 rfl) h)⟩
  have h1:=qW (γ "row") bs
  refine⟨_,rfl,a,_,1,.ref t,rfl,rfl,SqT.of hta,ah (j:=1) rfl,t,us,ds,bs,rfl,ht,rt,ha,l4,(),λH1 l s1 hn hl=>?_⟩
  exact vX (E:=E0) hl () (by rw[ha.len];omega) lb (q _ s1)
 ·obtain rfl:y0=_:=R0
  obtain⟨n1,n2,n3,n4,n5⟩:=rZ hf
  obtain⟨g,hg,hgT⟩:=hS p hp
  have h5:=fO p hp
  have h1:=qW p.1 bs
  obtain⟨lB,lD⟩:=ha.len
  have lws:=ru.length
  refine⟨_,rfl,a,_,0,_,rfl,rfl,SqT.of hta,ah (j:=0) rfl,?_⟩
  refine gnm ?_
  refine⟨_,rfl,rfl,_,rfl,av (fwd n1) (λ_=>?_)⟩
  refine⟨_,rfl,rfl,_,rfl,av (fwd n2) (λ_=>?_)⟩
  refine⟨_,rfl,rfl,_,rfl,av (fwd n3) (λ_=>?_)⟩
  refine⟨_,rfl,rfl,_,rfl,av (fwd n4) (λ_=>?_)⟩
  refine⟨_,rfl,rfl,_,rfl,av (fwd n5) (λ_=>?_)⟩
  refine⟨_,rfl,_,rfl,p.1,g,rfl,rfl,hg,_,rfl,1,rfl,?_⟩
  dsimp only[fW]
  refine jS hta λH1 t s1 ht=>?_
  have ec:dG (V.str p.1::ws) (some 1) none=ws:=fR (V.str p.1::ws) 1
  rw[ec]at ht
  refine⟨g,t,rfl,⟨_,hgT _⟩,⟨_,SqT.of ht⟩,yX (xs:=p.2.2.map λs=>V.str (srt s)) (ys:=ws) (λi ys H'=>aj H1 H'/\ys=(bs.take i).map bv) ⟨aj.refl _,rfl⟩ (λi zs H' p=>⟨hgT _,SqT.of (p.1 _ _ ht)⟩) ?_ ?_⟩
  ·rintro i zs H2 x y p2 hx hy ⟨s2,rfl⟩ hp2
   rw[Ϯ]at hx
   obtain⟨so,hso,rfl⟩:=ϯ.mp hx
   obtain⟨d,hd,Ry⟩:=ru.get hy
   obtain⟨b,hb,ag⟩:=ha.get hso hd
   have:=qd (Ϝ hb)
   have s3:=s2.trans (ac hp2 (.tup [.str (srt so),y]))
   refine gH aa ⟨_,rfl,_,rfl,so,y,d,b,rfl,Ry.mono (s1.trans s3),ag,(),λH4 s4=>⟨?_,s3.trans s4,?_⟩⟩
   ·rw[ς,Ϗ,τ];omega
   ·rw[m5,hb,ϊ]
    rfl
  ·rintro zs H2 ⟨s2,rfl⟩ l hl
   rw[show min (p.2.2.map λs=>V.str (srt s)).length ws.length=bs.length by rw[ς];omega,j9]
   exact vX (E:=E0) aa (pR p hp) () lb (q _ (s1.trans (s2.trans (ac hl _))))
abbrev eE:Stmt:=top 58
abbrev gm:Stmt:=top 61
abbrev iZ:Stmt:=top 62
abbrev cK:Stmt:=top 63
theorem mi:am ["branch"] ["branch"] (af eE):=by trivial
theorem lr:am ["word","number"] ["word"] (af iZ):=by trivial
theorem jw:am ["sort","branch"] ["sort","branch"] (af gm):=by trivial
theorem vO:∀p∈WT,dW p.1=false:=by decide +kernel
theorem z3:3<=sizeLine:=by rw[τ];decide
theorem dP:am ["branch","word","inner"] ["branch"] (af cK):=by trivial
abbrev dB:Stmt:=top 54
abbrev cO:Stmt:=top 65
abbrev iG:Stmt:=top 66
abbrev cf:Stmt:=top 69
theorem yz{H H':Hp}:aj (nw H H') H':=λb o e=>by
 unfold nw at e
 split at e
 ·exact e
 ·cases e
def tm:Sp:=λvs H Q _=>∃b:Br,vs=[.str (brT b)]/\dF b/\cJ b<=20/\bl b<=1000000/\∀H' v,aj H H'->Rep H' (bQ b) v->Q v H'
def WE(d:Dv)(x:Str):Prop:=∃b,x=brT b/\Wx 8 d b/\exN 8 d<=40
def rT(W:Dv->Str->Prop):Sp:=λvs H Q _=>∃(x:Str) (d:Dv),vs=[.str x]/\W d x/\∀H' v,aj H H'->Rep H' d v->Q v H'
def zZ(W:Dv->Str->Prop):Sp:=λvs H Q _=>∃(v:V) (x:Str) (d:Dv),vs=[v]/\Rep H d v/\W d x/\∀H',aj H H'->Q (.str x) H'
theorem DL(vs:List V)(H:Hp)(Q:VK)(E:XK)(h:zZ WE vs H Q E):rQ 8 vs H Q E:=by
 obtain⟨v,x,d,rfl,R,⟨b,rfl,wx,c40⟩,q⟩:=h
 have:=sJ wx
 exact⟨v,d,b,rfl,R,wx,(),q⟩
theorem Fb(x:Str):isT (.str x) "str"=true:=by show("str" == "str" || "str" == "bool" && "str" == "int")=true;decide +kernel
theorem gU:am ["text"] ["text"] (af dB):=by trivial
theorem pc{f C g1 g2:Addr}{fd d1 d2:Γ}{k0:Nat}(F:Fun K "branch_of" "branch_of" dB f fd)(T:Txt K mg)(cl:Cls K C)(M_Signs:Mk K C g1)(F_Signs:ap P w K mg base CX0 k0 g1 d1 ["self","text"] (oi C))(B_Signs:aU K d1 ["self","text"] [])(G_Signs:mg "Signs"=some (.ref C))
  (m_branch:lQ K C "branch" g2) (F_branch:ap P w K mg base CX0 (k0+1) g2 d2 ["self","most"] (eM C 21)) (b_branch:aU K d2 ["self","most"] []):ap P w K mg base CX0 (k0+2) f fd ["text"] tm:=by
 refine F.ok gU (λvs H Q E h=>?_) (λcdv A outer s H vs Q E hr h=>?_)
 ·obtain⟨b,rfl,_⟩:=h
  rfl
 obtain⟨b,rfl,ok,dp,lb,q⟩:=h
 have nB:∀(y:Str)(p:Int),ϥ (γ "branch") [(γ "text",V.str y),(γ "at",V.int p)]=none:=jB () ()
 refine⟨_,(@un _ _ _ (wbQ (wbK (waJ (waK M_Signs F_Signs hr rfl G_Signs B_Signs .nil ce (wae (wv 0 rfl) waf rfl) () rfl rfl) cl m_branch F_branch hr b_branch .nil ce (wae ⟨T.g_MOST_BRACKETS rfl⟩ waf rfl) rfl rfl rfl)))),?_⟩
 refine⟨_,rfl,λx dx nx ndx nex=>⟨x,dx,brT b,rfl,aa,λH1 s1 sg1=>⟨rfl,?_⟩⟩⟩
 obtain⟨dx1,ha1⟩:=id sg1
 refine⟨x,dx1,_,rfl,ha1,nB _ _,x,brT b,0,20,b,[],rfl,sg1,lb,ϖ _,by rw[List.drop_zero,Θ],.inl rfl,ok,(),(),λH2 v s2 sg2 R2=>?_⟩
 refine q H2 v (λb o e=>?_) (R2.mono yz)
 have bx:b≠x:=ao e nx
 have bd:b≠dx:=ao e ndx
 exact s2 b o bx (s1 b o bx (by rw[ai bx,ai bd];exact e))
theorem iH:am ["text"] ["text"] (af cO):=by trivial
theorem kQ:am ["text","reader","is_one","shower","place","thing"] ["text","reader","is_one","shower","place"] (af iG):=by trivial
theorem gr:am ["text"] ["text"] (af cf):=by trivial
open PySem L2 KB XB PySem.NumText WR
theorem gs{Y:St->Hp->Prop}{t u:TS}{D:dI}{i:Nat}{x:V}{σ:St}{H:Hp}(e:∀σ' H',CP t u D σ' H'->Y σ' H')(h:∀X:St->Hp->Prop,(∀σ' H',u D σ' H'->X σ' H')->t {D with nx:=X} (σ.set i (some x)) H):db i x σ H Y:=e _ _ (h _ λ_ _ z=>z)
theorem dU{c:TT}{t u:TS}{D:dI}{σ:St}{H:Hp}(h:∀Y Z:Hp->Prop,(∀H',t D σ H'->Y H')->(∀H',u D σ H'->Z H')->c σ H λb H1=>if b=true then Y H1 else Z H1):EO c t u D σ H:=h _ _ (λ_ z=>z) λ_ z=>z
def eQ(x:Str):Dv:=if dgs x=true then .int ((digitsVal x.cps.toList:Nat):Int)else .non
theorem vK{H:Hp}(x:Str):Rep H (eQ x) (lY x):=by unfold eQ lY;split<;>simp only[Rep]
def ci(x:Str):Dv:=match Txt.split x (γ "*")with
 |[a,b]=>.tup [.str b,eQ a]
 |_=>.tup [.str x,.int 1]
def lZ(x:Str):Dv:=match eQ ((Txt.split x (γ "+")).getLastD x)with
 |.int c=>.tup [.int c,.tup ((Txt.split x (γ "+")).dropLast.map ci)]
 |_=>.tup [.int 0,.tup ((Txt.split x (γ "+")).map ci)]
theorem vx(s:Str):∀{ys:List Str},ys≠[]->(ώ s ys).length+s.length=(ys.map λy=>y.length).sum+ys.length*s.length
 |[a],_=>by rw[aF];simp
 |a::b::r,_=>by
  rw[aR,Η,Η,Μ,o8,χ]
  have:=vx s (ys:=b::r) ()
  rw[Nat.succ_mul]
  omega
theorem oh(x:Str)(c:Nat):(Txt.split x ⟨#[c]⟩).length<=x.length+1/\∀p∈Txt.split x ⟨#[c]⟩,p.length<=x.length:=by
 have h1:=vx ⟨#[c]⟩ (gO x ⟨#[c]⟩)
 have h2:=G7 x ⟨#[c]⟩
 rw[h2]at h1
 have e:(⟨#[c]⟩:Str).length=1:=rfl
 rw[e]at h1
 refine⟨(),λp hp=>?_⟩
 have h3:=oS ⟨#[c]⟩ (Txt.split x ⟨#[c]⟩)
 rw[h2]at h3
 have h4:=oV (i4 (f:=λy:Str=>y.length) hp)
 omega
theorem ja:γ "*"=⟨#[42]⟩:=by decide +kernel
theorem tU:γ "+"=⟨#[43]⟩:=by decide +kernel
def pB:Sp:=λvs H Q _=>∃x:Str,vs=[.str x]/\x.length<=900/\∀H' w,aj H H'->Rep H' (ci x) w->Q w H'
def sN:Sp:=λvs H Q _=>∃x:Str,vs=[.str x]/\x.length<=900/\∀H' w,aj H H'->Rep H' (lZ x) w->Q w H'
theorem bp{H:Hp}{t:Addr}{d1 d2:Dv}{v1 v2:V}(h:H t=some (.tup [v1,v2]))(r1:Rep H d1 v1)(r2:Rep H d2 v2):Rep H (.tup [d1,d2]) (.ref t):=by
 rw[Rep];exact⟨t,_,rfl,h,by simp only[Reps];exact⟨_,_,rfl,r1,_,_,rfl,r2,rfl⟩⟩
theorem yC{f:Addr}{fd:Γ}{k:Nat}(F:Fun K "part_of" "part_of" iI f fd)(T:Txt K mg)(Dnumber_of:Def P w K mg base k "number_of" ["word"] vY):ap P w K mg base CX0 (k+1) f fd ["text"] pB:=by
 have nd:=kZ.nd
 refine F.ok kZ (λvs H Q E h=>?_) (λcdv A outer s H vs Q E hr h=>?_)
 ·obtain⟨x,rfl,_⟩:=h
  rfl
 obtain⟨x,rfl,l9,q⟩:=h
 refine⟨_,(@un _ _ _ (wbO (wbM 1 nd rfl (Ν rfl) (waj m6 PySem.F.slot_str_split PySem.F.type_str_split qZ (wv 0 rfl) (wae waV waf rfl) rfl rfl rfl rfl rfl) rfl ()) (wbO (wbI (wbS aE (wal ax rfl T.len () (wae (wv 1 rfl) waf rfl) () () rfl rfl) waC (ak _)) (wbQ (wbK (waX (wae (waD aZ (wv 1 rfl) waC (λ_ _=>rfl)) (wae (waq Dnumber_of hr rfl (wae (waD aZ (wv 1 rfl) waC (λ_ _=>rfl)) waf rfl) () rfl rfl) waf rfl) rfl)))) wbP) (wbQ (wbK (waX (wae (wv 0 rfl) (wae waC waf rfl) rfl))))))),?_⟩
 dsimp only[bf,Cx.nox]
 obtain⟨sl,sp⟩:=oh x 42
 rw[<-ja]at sl sp
 have qp:∀{H':Hp}{w:V}{d:Dv},ci x=d->aj H H'->Rep H' d w->Q w H':=λe s R=>q _ _ s (e▸R)
 unfold ci at qp
 refine cb λX hX=>⟨_,rfl,rfl,x,γ "*",rfl,rfl,(),by rw[τ];omega,by rw[τ];omega,λl hl=>?_⟩
 have s1:=ac hl (.lst ((Txt.split x (γ "*")).map V.str))
 have h1:upd H l (.lst ((Txt.split x (γ "*")).map V.str)) l=some (.lst ((Txt.split x (γ "*")).map V.str)):=aa
 generalize upd H l (.lst ((Txt.split x (γ "*")).map V.str))=H1 at s1 h1⊢
 refine gs hX λX hX=>dU λY Z hY hZ=>⟨_,rfl,l,_,rfl,.inl (SqL.of h1),rfl,_,rfl,?_⟩
 have no:(Txt.split x (γ "*")).length≠2->Z H1:=λhn=>by
  refine hZ _ (tnx (hX _ _ ⟨_,rfl,z2,λt ht=>?_⟩))
  have s2:=ac ht (.tup [.str x,.int 1])
  refine qp ?_ (s1.trans s2) (bp aa (d1:=.str x) (d2:=.int 1) (by simp only[Rep]) (by simp only[Rep]))
  split
  ·rename_i e;rw[e]at hn;exact absurd rfl hn
  ·rfl
 refine av (λh=>?_) (λh=>no λz=>h (Q9 (by rw[ς,z];rfl)))
 have e2:(Txt.split x (γ "*")).length=2:=by
  have:=V.int.inj (Q7 h)
  rw[ς]at this
  omega
 obtain⟨a,b,e⟩:∃a b,Txt.split x (γ "*")=[a,b]:=by
  match Txt.split x (γ "*"),e2 with
  |[a,b],_=>exact⟨a,b,rfl⟩
 rw[e]at h1 qp sp
 have la:=sp a ν
 refine hY _ ⟨_,rfl,l,_,1,.str b,rfl,rfl,SqL.of h1,ah (j:=1) rfl,_,rfl,l,_,0,.str a,rfl,rfl,SqL.of h1,ah (j:=0) rfl,a,rfl,by show a.length<=1000;omega,λH2 s2=>⟨z2,λt ht=>?_⟩⟩
 have s3:=ac ht (.tup [.str b,lY a])
 exact qp rfl (s1.trans (s2.trans s3)) (bp aa (by simp only[Rep]) (vK a))
theorem Ap{f:Addr}{fd:Γ}{k:Nat}(F:Fun K "length_of" "length_of" eN f fd)(T:Txt K mg)(Dnumber_of:Def P w K mg base k "number_of" ["word"] vY)(Dpart_of:Def P w K mg base k "part_of" ["text"] pB):ap P w K mg base CX0 (k+1) f fd ["text"] sN:=by
 have nd:=ig.nd
 refine F.ok ig (λvs H Q E h=>?_) (λcdv A outer s H vs Q E hr h=>?_)
 ·obtain⟨x,rfl,_⟩:=h
  rfl
 obtain⟨x,rfl,l9,q⟩:=h
 refine⟨_,(@un _ _ _ (wbO (wbM 1 nd rfl (Ν rfl) (waj m6 PySem.F.slot_str_split PySem.F.type_str_split qZ (wv 0 rfl) (wae waV waf rfl) rfl rfl rfl rfl rfl) rfl ()) (wbO (wbM 2 nd rfl (Ν rfl) (waq Dnumber_of hr rfl (wae (waD aZ (wv 1 rfl) (waY ye waC) (λ_ _=>rfl)) waf rfl) () rfl rfl) rfl ()) (wbO (wbI (wbS iR (wv 2 rfl) waN (ak _)) (wbQ (wbK (waX (wae waC (wae (wam bo rfl T.tuple () (wae (waE ["each"] [] (wbi (wv 1 rfl)) (.of rfl) rfl (λ_ _ _=>⟨pg_name (i:=0) (bZ (l:=["each"]) (()) rfl) rfl (Ν rfl)⟩) (bF ()) (λ_ _ _=>wbx) (λ_ _ _=>(waq Dpart_of hr rfl (wae (wv 0 rfl) waf rfl) () rfl rfl)) ()) waf rfl) () () rfl rfl) waf rfl) rfl)))) wbP) (wbQ (wbK (waX (wae (wv 2 rfl) (wae (wam bo rfl T.tuple () (wae (waE ["each"] [] (wbi (waT zN (wv 1 rfl) wbz (wbA (waY ye waC)))) (.of rfl) rfl (λ_ _ _=>⟨pg_name (i:=0) (bZ (l:=["each"]) (()) rfl) rfl (Ν rfl)⟩) (bF ()) (λ_ _ _=>wbx) (λ_ _ _=>(waq Dpart_of hr rfl (wae (wv 0 rfl) waf rfl) () rfl rfl)) ()) waf rfl) () () rfl rfl) waf rfl) rfl)))))))),?_⟩
 dsimp only[bf,Cx.nox]
 obtain⟨sl,sp⟩:=oh x 43
 have sne:=gO x ⟨#[43]⟩
 rw[<-tU]at sl sp sne
 have qp:∀{H':Hp}{w:V}{d:Dv},lZ x=d->aj H H'->Rep H' d w->Q w H':=λe s R=>q _ _ s (e▸R)
 unfold lZ at qp
 refine cb λX hX=>⟨_,rfl,rfl,x,γ "+",rfl,rfl,(),by rw[τ];omega,by rw[τ];omega,λl hl=>?_⟩
 generalize Txt.split x (γ "+")=ts at sl sp sne qp hX⊢
 have s1:=ac hl (.lst (ts.map V.str))
 have h1:upd H l (.lst (ts.map V.str)) l=some (.lst (ts.map V.str)):=aa
 generalize upd H l (.lst (ts.map V.str))=H1 at s1 h1⊢
 have rd:∀(us:List Str)(l2:Addr)(H2:Hp){σ:St}{Q2:List V->Hp->Prop},(∀p∈us,p∈ts)->us.length<=ts.length->H2 l2=some (.lst (us.map V.str))->(∀ys H',aj H2 H'->Reps H' (us.map ci) ys->Q2 ys H')->rLC (Itl K l2) 1 [] (db 0) yS (mr pB [] E0 (gi (fY 0) kj)) σ H2 Q2:=λus l2 H2 σ Q2 hs hn hl2 q2=>by
  refine nP (xs:=us.map V.str) (λi ys H'=>aj H2 H'/\Reps H' ((us.take i).map ci) ys) ⟨aj.refl _,by simp[Reps]⟩ (λi ys H' _ p=>SqL.of (p.1 _ _ hl2)) ?_ ?_
  ·rintro i ys H3 y hx ⟨s3,R3⟩
   rw[Ϯ]at hx
   obtain⟨p,hp,rfl⟩:=ϯ.mp hx
   have hi:i<us.length:=(Ρ.mp hp).1
   have:=sp p (hs p (Ϝ hp))
   refine bP ⟨_,rfl,p,rfl,(),λH4 w4 s4 R4=>⟨?_,s3.trans s4,?_⟩⟩
   ·rw[R3.length,ς,Ϗ,τ];omega
   ·rw[m5,hp,ϊ]
    exact Reps.append (R3.mono s4) (bz R4)
  ·rintro ys H3 ⟨s3,R3⟩
   rw[ς,j9]at R3
   exact q2 ys H3 s3 R3
 obtain⟨t0,b,ets⟩:∃t0 b,ts=t0++[b]:=⟨ts.dropLast,ts.getLast sne,(Gw sne).symm⟩
 have eb:ts.getLastD x=b:=by rw[ets];simp
 have ed:ts.dropLast=t0:=by rw[ets];simp
 rw[eb,ed]at qp
 have lb:=sp b (by rw[ets];simp)
 have h1':=h1
 rw[ets,ϊ]at h1'
 refine gs hX λX hX=>⟨_,rfl,1,rfl,l,_,_,.str b,rfl,rfl,SqL.of h1',AT _ _,b,rfl,by show b.length<=1000;omega,λH2 s2=>gs hX λX hX=>?_⟩
 have h2:=s2 _ _ h1
 have h2':=s2 _ _ h1'
 have s12:=s1.trans s2
 have out:∀(us:List Str)(c:Int){H5:Hp}{t:Addr}{ys:List V},aj H H5->H5 t=some (.tup ys)->Reps H5 (us.map ci) ys->∀m,H5 m=none->Rep (upd H5 m (.tup [.int c,.ref t])) (.tup [.int c,.tup (us.map ci)]) (.ref m):=λus c {H5 t ys} s5 ht R5 m hm=>by
  have s6:=ac hm (.tup [.int c,.ref t])
  exact bp aa (by simp only[Rep]) (by rw[Rep];exact⟨t,ys,rfl,s6 _ _ ht,R5.mono s6⟩)
 cases hd:dgs b with
 |true=>
  have eV:lY b=.int ((digitsVal b.cps.toList:Nat):Int):=Q5 hd
  have eD:eQ b=.int ((digitsVal b.cps.toList:Nat):Int):=Q5 hd
  rw[eV]
  rw[eD]at qp
  refine dU λY Z hY hZ=>⟨_,rfl,rfl,_,rfl,av (λh=>absurd h ()) (λ_=>hZ _ (tnx (hX _ _ ?_)))⟩
  refine⟨_,rfl,_,rfl,?_⟩
  dsimp only[fW]
  refine⟨_,rfl,_,rfl,l,_,rfl,SqL.of h2',λl3 hl3=>?_⟩
  rw[show dG (t0.map V.str++[b].map V.str) none (some (-1))=t0.map V.str from yD _ _]
  have s3:=ac hl3 (.lst (t0.map V.str))
  refine⟨l3,rfl,⟨_,SqL.of aa⟩,rd t0 l3 _ (λp hp=>by rw[ets];exact f_ _ hp) (by rw[ets,Ε];omega) aa λys H4 s4 R4 l5 hl5=>?_⟩
  have s5:=ac hl5 (.lst ys)
  refine⟨l5,_,rfl,.inl ⟨SqL.of aa,λt ht=>⟨z2,λm hm=>?_⟩⟩⟩
  have s6:=ac ht (.tup ys)
  have s46:=s3.trans (s4.trans (s5.trans s6))
  exact qp rfl ((s12.trans s46).trans (ac hm _)) (out t0 _ (s12.trans s46) aa (R4.mono (s5.trans s6)) m hm)
 |false=>
  have eV:lY b=.non:=Q6 (by rw[hd];decide)
  have eD:eQ b=.non:=Q6 (by rw[hd];decide)
  rw[eV]
  rw[eD]at qp
  refine dU λY Z hY hZ=>⟨_,rfl,rfl,_,rfl,av (λ_=>hY _ ?_) (λh=>absurd () h)⟩
  refine⟨_,rfl,l,rfl,⟨_,SqL.of h2⟩,rd ts l _ (λp hp=>hp) (θ _) h2 λys H4 s4 R4 l5 hl5=>?_⟩
  have s5:=ac hl5 (.lst ys)
  refine⟨l5,_,rfl,.inl ⟨SqL.of aa,λt ht=>⟨z2,λm hm=>?_⟩⟩⟩
  have s6:=ac ht (.tup ys)
  have s46:=s4.trans (s5.trans s6)
  exact qp rfl ((s12.trans s46).trans (ac hm _)) (out ts _ (s12.trans s46) aa (R4.mono (s5.trans s6)) m hm)
open PySem L2 KB XB WR
theorem EG{A B:Prop}(h:A->B)(a:A):B:=h a
def wdS(w:Str):Prop:=w.length<=900/\w.cps.toList.count 43<=20
mutual
def brS:Br->Prop
 |.leaf w=>wdS w
 |.nd w ts=>wdS w/\ts.length<=900/\brSs ts
def brSs:List Br->Prop
 |[]=>True
 |t::ts=>brS t/\brSs ts
end
theorem cY:∀{ts:List Br},brSs ts->∀u∈ts,brS u
 |t::ts,h,u,hu=>by
  rw[brSs]at h
  rcases ι.mp hu with rfl|hu
  ·exact h.1
  ·exact cY h.2 u hu
def cz:Br->Dv
 |.leaf w=>lZ w
 |.nd _ _=>.non
def dE:Br->Dv
 |.leaf w=>.str w
 |.nd _ _=>.non
def eK(w:Str):Dv:=if dgs w=true then .tup [.str (γ "number"),eQ w]else .tup [.str (γ "name"),.str w]
def aH:Nat->Br->Dv
 |0,_=>.non
 |_+1,.leaf w=>.tup [.str w]
 |n+1,.nd w ts=>match ts with
  |[a]=>if w=γ "place" then .tup [.str (γ "place"),cz a]else .non
  |[a,b]=>if w=γ "row" then .tup [.str (γ "row"),cz a,aH n b]else if w=γ "pair" then .tup [.str (γ "pair"),aH n a,aH n b]else .non
  |_=>.non
def kC:Sp:=λvs H Q _=>∃(v:V) (b:Br),vs=[v]/\Rep H (bQ b) v/\brS b/\∀H' w,aj H H'->Rep H' (cz b) w->Q w H'
def rc:Sp:=λvs H Q _=>∃(v:V) (b:Br),vs=[v]/\Rep H (bQ b) v/\∀w,Rep H (dE b) w->Q w H
def vm:Sp:=λvs H Q _=>∃x:Str,vs=[.str x]/\x.length<=900/\∀H' w,aj H H'->Rep H' (eK x) w->Q w H'
def gG(n:Nat):Sp:=λvs H Q _=>∃(v:V) (b:Br),vs=[v]/\Rep H (bQ b) v/\brS b/\cJ b<n/\∀H' w,aj H H'->Rep H' (aH n b) w->Q w H'
theorem nD{H:Hp}{b:Br}{v:V}(R:Rep H (bQ b) v):∃a,v=.ref a/\((∃w,b=.leaf w/\H a=some (.tup [.str w,.non]))\/∃w ts l us,b=.nd w ts/\H a=some (.tup [.str w,.ref l])/\H l=some (.lst us)/\Reps H (ts.map bQ) us):=by
 cases b with
 |leaf w=>rw[bQ]at R;obtain⟨a,rfl,h⟩:=xU R;exact⟨a,rfl,.inl ⟨w,rfl,h⟩⟩
 |nd w ts=>rw[bQ,fG]at R;obtain⟨a,l,us,rfl,h,hl,ru⟩:=Cf R;exact⟨a,rfl,.inr ⟨w,ts,l,us,rfl,h,hl,ru⟩⟩
theorem lX{f:Addr}{fd:Γ}{k:Nat}(F:Fun K "length_in" "length_in" eW f fd)(T:Txt K mg)(Dlength_of:Def P w K mg base k "length_of" ["text"] sN):ap P w K mg base CX0 (k+1) f fd ["branch"] kC:=by
 refine F.ok pG (λvs H Q E h=>?_) (λcdv A outer s H vs Q E hr h=>?_)
 ·obtain⟨v,b,rfl,_⟩:=h
  rfl
 obtain⟨v,b,rfl,R,bs,q⟩:=h
 refine⟨_,(@un _ _ _ (wbQ (wbK (wac (wbS iR (waD aq (wv 0 rfl) waC (λ_ _=>rfl)) waN (ak _)) (waq Dlength_of hr rfl (wae (waD aq (wv 0 rfl) waC (λ_ _=>rfl)) waf rfl) () rfl rfl) waN)))),?_⟩
 dsimp only[bf,Cx.nox]
 obtain⟨a,rfl,⟨w,rfl,ha⟩|⟨w,ts,l,us,rfl,ha,_⟩⟩:=nD R
 ·rw[brS]at bs
  refine⟨_,rfl,a,_,1,.non,rfl,rfl,SqT.of ha,ah (j:=1) rfl,rfl,_,rfl,av (λ_=>?_) (λh=>absurd () h)⟩
  exact⟨_,rfl,a,_,0,.str w,rfl,rfl,SqT.of ha,ah (j:=0) rfl,w,rfl,bs.1,q⟩
 ·exact⟨_,rfl,a,_,1,.ref l,rfl,rfl,SqT.of ha,ah (j:=1) rfl,rfl,_,rfl,av (λh=>absurd h ()) (λ_=>q H _ (aj.refl _) (by rw[cz];simp only[Rep]))⟩
theorem kR{f:Addr}{fd:Γ}(F:Fun K "word_alone" "word_alone" eE f fd)(T:Txt K mg):ap P w K mg base CX0 1 f fd ["branch"] rc:=by
 refine F.ok mi (λvs H Q E h=>?_) (λcdv A outer s H vs Q E hr h=>?_)
 ·obtain⟨v,b,rfl,_⟩:=h
  rfl
 obtain⟨v,b,rfl,R,q⟩:=h
 refine⟨_,(@un _ _ _ (wbQ (wbK (wac (wbS iR (waD aq (wv 0 rfl) waC (λ_ _=>rfl)) waN (ak _)) (waD aq (wv 0 rfl) waC (λ_ _=>rfl)) waN)))),?_⟩
 obtain⟨a,rfl,⟨w,rfl,ha⟩|⟨w,ts,l,us,rfl,ha,_⟩⟩:=nD R
 ·refine⟨_,rfl,a,_,1,.non,rfl,rfl,SqT.of ha,ah (j:=1) rfl,rfl,_,rfl,av (λ_=>?_) (λh=>absurd () h)⟩
  exact⟨_,rfl,a,_,0,.str w,rfl,rfl,SqT.of ha,ah (j:=0) rfl,q _ (by rw[dE];simp only[Rep])⟩
 ·exact⟨_,rfl,a,_,1,.ref l,rfl,rfl,SqT.of ha,ah (j:=1) rfl,rfl,_,rfl,av (λh=>absurd h ()) (λ_=>q _ (by rw[dE];simp only[Rep]))⟩
theorem qV{f:Addr}{fd:Γ}{k:Nat}(F:Fun K "atom_of" "atom_of" iZ f fd)(T:Txt K mg)(Dnumber_of:Def P w K mg base k "number_of" ["word"] vY):ap P w K mg base CX0 (k+1) f fd ["word"] vm:=by
 have nd:=lr.nd
 refine F.ok lr (λvs H Q E h=>?_) (λcdv A outer s H vs Q E hr h=>?_)
 ·obtain⟨x,rfl,_⟩:=h
  rfl
 obtain⟨x,rfl,l9,q⟩:=h
 refine⟨_,(@un _ _ _ (wbO (wbM 1 nd rfl (Ν rfl) (waq Dnumber_of hr rfl (wae (wv 0 rfl) waf rfl) () rfl rfl) rfl ()) (wbQ (wbK (wac (wbS iR (wv 1 rfl) waN (ak _)) (waX (wae waV (wae (wv 0 rfl) waf rfl) rfl)) (waX (wae waV (wae (wv 1 rfl) waf rfl) rfl))))))),?_⟩
 refine cb λX hX=>⟨_,rfl,x,rfl,by show x.length<=1000;omega,λH1 s1=>gnm (hX _ _ ?_)⟩
 cases hd:dgs x with
 |true=>
  have eV:lY x=.int ((Ϙ x.cps.toList:Nat):Int):=Q5 hd
  rw[eV]
  refine⟨_,rfl,rfl,_,rfl,av (λh=>absurd h ()) (λ_=>⟨_,rfl,z2,λt ht=>?_⟩)⟩
  have s2:=ac ht (.tup [.str (γ "number"),.int ((Ϙ x.cps.toList:Nat):Int)])
  refine q _ _ (s1.trans s2) ?_
  rw[eK,Q5 hd]
  exact bp aa (by simp only[Rep]) (by have:=vK (H:=upd H1 t (.tup [.str (γ "number"),.int ((Ϙ x.cps.toList:Nat):Int)])) x;rwa[eV]at this)
 |false=>
  have hn:¬ dgs x=true:=by rw[hd];decide
  have eV:lY x=.non:=Q6 hn
  rw[eV]
  refine⟨_,rfl,rfl,_,rfl,av (λ_=>⟨_,rfl,z2,λt ht=>?_⟩) (λh=>absurd () h)⟩
  have s2:=ac ht (.tup [.str (γ "name"),.str x])
  refine q _ _ (s1.trans s2) ?_
  rw[eK,Q6 hn]
  exact bp aa (by simp only[Rep]) (by simp only[Rep])
theorem qz{f:Addr}{fd:Γ}{k0 n:Nat}(F:Fun K "kind_in" "kind_in" iz f fd)(T:Txt K mg)(Dlength_in:Def P w K mg base k0 "length_in" ["branch"] kC)(Dkind_in:Def P w K mg base k0 "kind_in" ["branch"] (gG n)):ap P w K mg base CX0 (k0+1) f fd ["branch"] (gG (n+1)):=by
 have nd:=lm.nd
 refine F.ok lm (λvs H Q E h=>?_) (λcdv A outer s H vs Q E hr h=>?_)
 ·obtain⟨v,b,rfl,_⟩:=h
  rfl
 obtain⟨v,b,rfl,R,bs,bd,q⟩:=h
 refine⟨_,(@un _ _ _ (wbO (wbM 1 nd rfl (Ν rfl) (waD aq (wv 0 rfl) waC (λ_ _=>rfl)) rfl ()) (wbO (wbM 2 nd rfl (Ν rfl) (waD aq (wv 0 rfl) waC (λ_ _=>rfl)) rfl ()) (wbO (wbI (wbS iR (wv 2 rfl) waN (ak _)) (wbQ (wbK (waX (wae (wv 1 rfl) waf rfl)))) wbP) (wbO (wbI (wab (wbW (wbS aE (wv 1 rfl) waV (ak _)) (wbX (wbS aE (wal ax rfl T.len () (wae (wv 2 rfl) waf rfl) () () rfl rfl) waC (ak _))))) (wbQ (wbK (waX (wae waV (wae (waq Dlength_in hr rfl (wae (waD aZ (wv 2 rfl) waC (λ_ _=>rfl)) waf rfl) () rfl rfl) waf rfl) rfl)))) wbP) (wbO (wbI (wab (wbW (wbS aE (wv 1 rfl) waV (ak _)) (wbX (wbS aE (wal ax rfl T.len () (wae (wv 2 rfl) waf rfl) () () rfl rfl) waC (ak _))))) (wbQ (wbK (waX (wae waV (wae (waq Dlength_in hr rfl (wae (waD aZ (wv 2 rfl) waC (λ_ _=>rfl)) waf rfl) () rfl rfl) (wae (waq Dkind_in hr rfl (wae (waD aZ (wv 2 rfl) waC (λ_ _=>rfl)) waf rfl) () rfl rfl) waf rfl) rfl) rfl)))) wbP) (wbO (wbI (wab (wbW (wbS aE (wv 1 rfl) waV (ak _)) (wbX (wbS aE (wal ax rfl T.len () (wae (wv 2 rfl) waf rfl) () () rfl rfl) waC (ak _))))) (wbQ (wbK (waX (wae waV (wae (waq Dkind_in hr rfl (wae (waD aZ (wv 2 rfl) waC (λ_ _=>rfl)) waf rfl) () rfl rfl) (wae (waq Dkind_in hr rfl (wae (waD aZ (wv 2 rfl) waC (λ_ _=>rfl)) waf rfl) () rfl rfl) waf rfl) rfl) rfl)))) wbP) (wbQ (wbK waN))))))))),?_⟩
 dsimp only[bf,Cx.nox]
 refine cb λX hX=>?_
 obtain⟨a,rfl,⟨w,rfl,ha⟩|⟨w,ts,l,us,rfl,ha,hl,ru⟩⟩:=nD R
 ·refine⟨_,rfl,a,_,0,.str w,rfl,rfl,SqT.of ha,ah (j:=0) rfl,gs hX λX hX=>⟨_,rfl,a,_,1,.non,rfl,rfl,SqT.of ha,ah (j:=1) rfl,gs hX λX hX=>dU λY Z hY hZ=>⟨_,rfl,rfl,_,rfl,av (λ_=>hY _ ⟨_,rfl,z1,λt ht=>?_⟩) (λh=>absurd () h)⟩⟩⟩
  refine q _ _ (ac ht _) ?_
  rw[aH,Rep]
  exact⟨t,_,rfl,aa,by simp only[Reps];exact⟨_,_,rfl,by simp only[Rep],rfl⟩⟩
 have lu:us.length=ts.length:=by have:=ru.length;rwa[ς]at this
 rw[brS]at bs
 rw[cJ]at bd
 have cs:=cY bs.2.2
 have cd:∀u∈ts,cJ u<n:=λu hu=>by have:=iq hu;omega
 refine⟨_,rfl,a,_,0,.str w,rfl,rfl,SqT.of ha,ah (j:=0) rfl,gs hX λX hX=>⟨_,rfl,a,_,1,.ref l,rfl,rfl,SqT.of ha,ah (j:=1) rfl,gs hX λX hX=>dU λY Z hY hZ=>⟨_,rfl,rfl,_,rfl,av (λh=>absurd h ()) (λ_=>hZ _ (tnx (hX _ _ (cb λX hX=>dU λY Z hY hZ=>?_))))⟩⟩⟩
 have wd:∀{y:Str},w≠y->¬ decide (V.str w=V.str y)=true:=λh z=>h (V.str.inj (Q7 z))
 have ld:∀{k:Nat},ts.length≠k->¬ decide (V.int (us.length:Nat)=V.int (k:Int))=true:=λh z=>by
  have:=V.int.inj (Q7 z);omega
 by_cases c1:w=γ "place"/\ts.length=1
 ·obtain⟨c,rfl⟩:∃c,ts=[c]:=by match ts,c1.2 with| [c],_=>exact⟨c,rfl⟩
  obtain⟨u1,rfl,r1⟩:=cR ru
  refine⟨_,rfl,rfl,_,rfl,av (λ_=>⟨_,rfl,l,_,rfl,.inl (SqL.of hl),rfl,_,rfl,av (λ_=>hY _ ⟨_,rfl,l,_,0,u1,rfl,rfl,SqL.of hl,ah (j:=0) rfl,u1,c,rfl,r1,cs c ν,λH1 w1 s1 R1=>⟨z2,λt ht=>?_⟩⟩) (λh=>absurd (Q9 rfl) h)⟩) (λh=>absurd (Q9 (congrArg V.str c1.1)) h)⟩
  have s2:=ac ht (.tup [.str (γ "place"),w1])
  refine q _ _ (s1.trans s2) ?_
  rw[aH,Q5 c1.1]
  exact bp aa (by simp only[Rep]) (R1.mono s2)
 refine EG (A:=Z H) (λn1=>⟨_,rfl,rfl,_,rfl,av (λh1=>⟨_,rfl,l,_,rfl,.inl (SqL.of hl),rfl,_,rfl,av (λh2=>absurd h2 (ld λe=>c1 ⟨V.str.inj (Q7 h1),e⟩)) (λ_=>n1)⟩) (λ_=>aI n1)⟩) (hZ _ (tnx (hX _ _ (cb λX hX=>dU λY Z hY hZ=>?_))))
 by_cases c2:w=γ "row"/\ts.length=2
 ·obtain⟨c,e,rfl⟩:∃c e,ts=[c,e]:=by match ts,c2.2 with| [c,e],_=>exact⟨c,e,rfl⟩
  obtain⟨u1,u2,rfl,r1,r2⟩:=Reps.two ru
  refine⟨_,rfl,rfl,_,rfl,av (λ_=>⟨_,rfl,l,_,rfl,.inl (SqL.of hl),rfl,_,rfl,av (λ_=>hY _ ⟨_,rfl,l,_,0,u1,rfl,rfl,SqL.of hl,ah (j:=0) rfl,u1,c,rfl,r1,cs c ν,λH1 w1 s1 R1=>⟨_,rfl,l,_,1,u2,rfl,rfl,SqL.of (s1 _ _ hl),ah (j:=1) rfl,u2,e,rfl,r2.mono s1,cs e (),cd e (),λH2 w2 s2 R2=>⟨z3,λt ht=>?_⟩⟩⟩) (λh=>absurd (Q9 rfl) h)⟩) (λh=>absurd (Q9 (congrArg V.str c2.1)) h)⟩
  have s3:=ac ht (.tup [.str (γ "row"),w1,w2])
  refine q _ _ (s1.trans (s2.trans s3)) ?_
  rw[aH,Q5 c2.1,Rep]
  exact⟨t,_,rfl,aa,by simp only[Reps];exact⟨_,_,rfl,by simp only[Rep],_,_,rfl,R1.mono (s2.trans s3),_,_,rfl,R2.mono s3,rfl⟩⟩
 refine EG (A:=Z H) (λn2=>⟨_,rfl,rfl,_,rfl,av (λh1=>⟨_,rfl,l,_,rfl,.inl (SqL.of hl),rfl,_,rfl,av (λh2=>absurd h2 (ld λe=>c2 ⟨V.str.inj (Q7 h1),e⟩)) (λ_=>n2)⟩) (λ_=>aI n2)⟩) (hZ _ (tnx (hX _ _ (cb λX hX=>dU λY Z hY hZ=>?_))))
 by_cases c3:w=γ "pair"/\ts.length=2
 ·obtain⟨c,e,rfl⟩:∃c e,ts=[c,e]:=by match ts,c3.2 with| [c,e],_=>exact⟨c,e,rfl⟩
  obtain⟨u1,u2,rfl,r1,r2⟩:=Reps.two ru
  refine⟨_,rfl,rfl,_,rfl,av (λ_=>⟨_,rfl,l,_,rfl,.inl (SqL.of hl),rfl,_,rfl,av (λ_=>hY _ ⟨_,rfl,l,_,0,u1,rfl,rfl,SqL.of hl,ah (j:=0) rfl,u1,c,rfl,r1,cs c ν,cd c (),λH1 w1 s1 R1=>⟨_,rfl,l,_,1,u2,rfl,rfl,SqL.of (s1 _ _ hl),ah (j:=1) rfl,u2,e,rfl,r2.mono s1,cs e (),cd e (),λH2 w2 s2 R2=>⟨z3,λt ht=>?_⟩⟩⟩) (λh=>absurd (Q9 rfl) h)⟩) (λh=>absurd (Q9 (congrArg V.str c3.1)) h)⟩
  have s3:=ac ht (.tup [.str (γ "pair"),w1,w2])
  refine q _ _ (s1.trans (s2.trans s3)) ?_
  rw[aH,Q6 (λz=>absurd (z.symm.trans c3.1) ()),Q5 c3.1,Rep]
  exact⟨t,_,rfl,aa,by simp only[Reps];exact⟨_,_,rfl,by simp only[Rep],_,_,rfl,R1.mono (s2.trans s3),_,_,rfl,R2.mono s3,rfl⟩⟩
 have n3:Z H:=by
  refine hZ _ (tnx (hX _ _ (q H _ (aj.refl _) ?_)))
  have e:aH (n+1) (.nd w ts)=.non:=by
   match ts,c1,c2,c3 with
   |[],_,_,_=>rw[aH]<;>simp
   |[c],c1,_,_=>rw[aH,Q6 λz=>c1 ⟨z,rfl⟩]
   |[c,e],_,c2,c3=>rw[aH,Q6 λz=>c2 ⟨z,rfl⟩,Q6 λz=>c3 ⟨z,rfl⟩]
   |_::_::_::_,_,_,_=>rw[aH]<;>simp
  rw[e]
  simp only[Rep]
 exact⟨_,rfl,rfl,_,rfl,av (λh1=>⟨_,rfl,l,_,rfl,.inl (SqL.of hl),rfl,_,rfl,av (λh2=>absurd h2 (ld λe=>c3 ⟨V.str.inj (Q7 h1),e⟩)) (λ_=>n3)⟩) (λ_=>aI n3)⟩
def thF(R:Br->Dv):So->Br->Dv
 |.l,b=>cz b
 |.k,b=>aH 21 b
 |.x,b=>dE b
 |.y,b=>dE b
 |_,b=>R b
def xpF:Nat->Br->Dv
 |0,_=>.non
 |_+1,.leaf w=>eK w
 |n+1,.nd w ts=>if dW w=true then .tup (.str (γ "reckon")::.str w::ts.map (xpF n))else if w=γ "row" then .tup [.str (γ "row"),.tup (ts.map (xpF n))]else match WT.find? (λp=>decide (p.1=w))with
  |some p=>.tup (.str w::e9 (thF (xpF n)) p.2.2 ts)
  |none=>.tup [.str (γ "call"),.str w,.tup (ts.map (xpF n))]
def mG(n:Nat):Sp:=λvs H Q _=>∃(v:V) (b:Br),vs=[v]/\Rep H (bQ b) v/\brS b/\cJ b<n/\n<=21/\∀H' w,aj H H'->Rep H' (xpF n b) w->Q w H'
def AZ(n:Nat):Sp:=λvs H Q _=>∃(s:So) (v:V) (b:Br),vs=[.str (srt s),v]/\Rep H (bQ b) v/\brS b/\cJ b<n/\n<=21/\∀H' w,aj H H'->Rep H' (thF (xpF n) s b) w->Q w H'
theorem nY{f:Addr}{fd:Γ}{k n:Nat}(F:Fun K "thing_in" "thing_in" gm f fd)(T:Txt K mg)(Dlength_in:Def P w K mg base k "length_in" ["branch"] kC)(Dkind_in:Def P w K mg base k "kind_in" ["branch"] (gG 21))(Dword_alone:Def P w K mg base k "word_alone" ["branch"] rc)(Dexpression_in:Def P w K mg base k "expression_in" ["branch"] (mG n)):ap P w K mg base CX0 (k+1) f fd ["sort","branch"] (AZ n):=by
 have nd:=jw.nd
 refine F.ok jw (λvs H Q E h=>?_) (λcdv A outer s H vs Q E hr h=>?_)
 ·obtain⟨s,v,b,rfl,_⟩:=h
  rfl
 obtain⟨s,v,b,rfl,R,bs,bd,n21,q⟩:=h
 refine⟨_,(@un _ _ _ (wbO (wbI (wbS aE (wv 0 rfl) waV (ak _)) (wbQ (wbK (waq Dlength_in hr rfl (wae (wv 1 rfl) waf rfl) () rfl rfl))) wbP) (wbO (wbI (wbS aE (wv 0 rfl) waV (ak _)) (wbQ (wbK (waq Dkind_in hr rfl (wae (wv 1 rfl) waf rfl) () rfl rfl))) wbP) (wbO (wbI (wbS aE (wv 0 rfl) waV (ak _)) (wbQ (wbK (waq Dword_alone hr rfl (wae (wv 1 rfl) waf rfl) () rfl rfl))) wbP) (wbQ (wbK (waq Dexpression_in hr rfl (wae (wv 1 rfl) waf rfl) () rfl rfl))))))),?_⟩
 refine cb λX hX=>dU λY Z hY hZ=>⟨_,rfl,rfl,_,rfl,av (λh=>hY _ ?_) (λh=>hZ _ (tnx (hX _ _ (cb λX hX=>dU λY Z hY hZ=>?_))))⟩
 ·cases(nu s).mp (Q7 h)
  exact⟨_,rfl,v,b,rfl,R,bs,q⟩
 have hl:s≠.l:=λz=>h (Q9 ((nu s).mpr z))
 refine⟨_,rfl,rfl,_,rfl,av (λh=>hY _ ?_) (λh=>hZ _ (tnx (hX _ _ (cb λX hX=>dU λY Z hY hZ=>?_))))⟩
 ·cases(mQ s).mp (Q7 h)
  exact⟨_,rfl,v,b,rfl,R,bs,(),q⟩
 have hk:s≠.k:=λz=>h (Q9 ((mQ s).mpr z))
 refine⟨_,rfl,rfl,_,rfl,av (λh=>hY _ ?_) (λh=>hZ _ (tnx (hX _ _ ?_)))⟩
 ·rcases(pV s).mp (Q7 h)with rfl|rfl
  ·exact⟨_,rfl,v,b,rfl,R,λw r=>q H w (aj.refl _) r⟩
  ·exact⟨_,rfl,v,b,rfl,R,λw r=>q H w (aj.refl _) r⟩
 have hx:¬ (s=.x\/s=.y):=λz=>h (Q9 ((pV s).mpr z))
 have key:thF (xpF n) s b=xpF n b:=by
  cases s with
  |x=>exact absurd (.inl rfl) hx
  |y=>exact absurd (.inr rfl) hx
  |l=>exact absurd rfl hl
  |k=>exact absurd rfl hk
  |e=>rfl
  |n=>rfl
  |w=>rfl
  |f=>rfl
  |a=>rfl
  |r=>rfl
 rw[key]at q
 exact⟨_,rfl,v,b,rfl,R,bs,bd,n21,q⟩
theorem gQ{f gS gR:Addr}{fd:Γ}{k n:Nat}(F:Fun K "expression_in" "expression_in" cK f fd)(T:Txt K mg)(S:Shp P w K gS)(GS:mg "SHAPES"=some (.ref gS))(GR:mg "RECKONS"=some (.ref gR))(hR:∀H,SqT K H gR (rm.map V.str))(Datom_of:Def P w K mg base k "atom_of" ["word"] vm)(Dthing_in:Def P w K mg base k "thing_in" ["sort","branch"] (AZ n))(Dexpression_in:Def P w K mg base k "expression_in" ["branch"] (mG n)):ap P w K mg base CX0 (k+1) f fd ["branch"] (mG (n+1)):=by
 have nd:=dP.nd
 refine F.ok dP (λvs H Q E h=>?_) (λcdv A outer s H vs Q E hr h=>?_)
 ·obtain⟨v,b,rfl,_⟩:=h
  rfl
 obtain⟨v,b,rfl,R,bs,bd,n21,q⟩:=h
 obtain⟨kvs,FS,hS,hS2⟩:=S.ex
 refine⟨_,(@un _ _ _ (wbO (wbM 1 nd rfl (Ν rfl) (waD aq (wv 0 rfl) waC (λ_ _=>rfl)) rfl ()) (wbO (wbM 2 nd rfl (Ν rfl) (waD aq (wv 0 rfl) waC (λ_ _=>rfl)) rfl ()) (wbO (wbI (wbS iR (wv 2 rfl) waN (ak _)) (wbQ (wbK (waq Datom_of hr rfl (wae (wv 1 rfl) waf rfl) () rfl rfl))) wbP) (wbO (wbI (wbS nh (wv 1 rfl) (waB (.ref gR) rfl GR rfl ()) (by with_unfolding_all rfl)) (wbQ (wbK (waQ vA (waX (wae waV (wae (wv 1 rfl) waf rfl) rfl)) (wam bo rfl T.tuple () (wae (waE ["each"] [] (wbi (wv 2 rfl)) (.of rfl) rfl (λ_ _ _=>⟨pg_name (i:=0) (bZ (l:=["each"]) (()) rfl) rfl (Ν rfl)⟩) (bF ()) (λ_ _ _=>wbx) (λ_ _ _=>(waq Dexpression_in hr rfl (wae (wv 0 rfl) waf rfl) () rfl rfl)) ()) waf rfl) () () rfl rfl)))) wbP) (wbO (wbI (wbS aE (wv 1 rfl) waV (ak _)) (wbQ (wbK (waX (wae waV (wae (wam bo rfl T.tuple () (wae (waE ["each"] [] (wbi (wv 2 rfl)) (.of rfl) rfl (λ_ _ _=>⟨pg_name (i:=0) (bZ (l:=["each"]) (()) rfl) rfl (Ν rfl)⟩) (bF ()) (λ_ _ _=>wbx) (λ_ _ _=>(waq Dexpression_in hr rfl (wae (wv 0 rfl) waf rfl) () rfl rfl)) ()) waf rfl) () () rfl rfl) waf rfl) rfl)))) wbP) (wbO (wbI (wbS (Do FS) (wv 1 rfl) (waB (.ref gS) rfl GS rfl ()) (by with_unfolding_all rfl)) (wbQ (wbK (waQ vA (waX (wae (wv 1 rfl) waf rfl)) (wam bo rfl T.tuple () (wae (waE (["sort","each"]) [] ⟨yM rfl T.zip (pa_cons (pe_getF FS (pe_glob (v:=.ref gS) rfl GS rfl) (pv 1) (λ_ _=>rfl)) (pa_cons (pv 2) pa_nil))⟩ (.of rfl) rfl (λ_ _ _=>⟨pg_tup rfl (pgs_cons (pg_name (i:=0) (bZ (l:=["sort","each"]) (()) rfl) rfl (Ν rfl)) (pgs_cons (pg_name (i:=1) (bZ (l:=["sort","each"]) (()) rfl) rfl (Ν rfl)) pgs_nil))⟩) (ox () ()) (λ_ _ _=>wbx) (λ_ _ _=>(waq Dthing_in hr rfl (wae (wv 0 rfl) (wae (wv 1 rfl) waf rfl) rfl) () rfl rfl)) ()) waf rfl) () () rfl rfl)))) wbP) (wbQ (wbK (waX (wae waV (wae (wv 1 rfl) (wae (wam bo rfl T.tuple () (wae (waE ["each"] [] (wbi (wv 2 rfl)) (.of rfl) rfl (λ_ _ _=>⟨pg_name (i:=0) (bZ (l:=["each"]) (()) rfl) rfl (Ν rfl)⟩) (bF ()) (λ_ _ _=>wbx) (λ_ _ _=>(waq Dexpression_in hr rfl (wae (wv 0 rfl) waf rfl) () rfl rfl)) ()) waf rfl) () () rfl rfl) waf rfl) rfl) rfl))))))))))),?_⟩
 dsimp only[bf,Cx.nox]
 refine cb λX hX=>?_
 obtain⟨a,rfl,⟨w,rfl,ha⟩|⟨w,ts,l,us,rfl,ha,hl,ru⟩⟩:=nD R
 ·rw[brS]at bs
  exact⟨_,rfl,a,_,0,.str w,rfl,rfl,SqT.of ha,ah (j:=0) rfl,gs hX λX hX=>⟨_,rfl,a,_,1,.non,rfl,rfl,SqT.of ha,ah (j:=1) rfl,gs hX λX hX=>dU λY Z hY hZ=>⟨_,rfl,rfl,_,rfl,av (λ_=>hY _ ⟨_,rfl,w,rfl,bs.1,q⟩) (λh=>absurd () h)⟩⟩⟩
 have lu:us.length=ts.length:=by have:=ru.length;rwa[ς]at this
 rw[brS]at bs
 rw[cJ]at bd
 have cs:=cY bs.2.2
 have cd:∀u∈ts,cJ u<n:=λu hu=>by have:=iq hu;omega
 have l9:=bs.2.1
 have rd:∀{H2:Hp}{σ:St}{Q2:List V->Hp->Prop},aj H H2->(∀ys H',aj H2 H'->Reps H' (ts.map (xpF n)) ys->Q2 ys H')->rLC (Itl K l) 1 [] (db 0) yS (mr (mG n) [] E0 (gi (fY 0) kj)) σ H2 Q2:=λ{H2 σ Q2} s0 q2=>by
  refine nP (xs:=us) (λi ys H'=>aj H2 H'/\Reps H' ((ts.take i).map (xpF n)) ys) ⟨aj.refl _,by simp[Reps]⟩ (λi ys H' _ p=>SqL.of (p.1 _ _ (s0 _ _ hl))) ?_ ?_
  ·rintro i ys H3 x hx ⟨s3,R3⟩
   obtain⟨c,hc,Re⟩:=vv (f:=bQ) ru hx
   have hi:=(Ρ.mp hc).1
   have cm:=Ϝ hc
   refine bP ⟨_,rfl,x,c,rfl,Re.mono (s0.trans s3),cs c cm,cd c cm,(),λH4 w4 s4 R4=>⟨?_,s3.trans s4,?_⟩⟩
   ·rw[R3.length,ς,Ϗ,τ];omega
   ·rw[m5,hc,ϊ]
    exact Reps.append (R3.mono s4) (bz R4)
  ·rintro ys H3 ⟨s3,R3⟩
   rw[lu,j9]at R3
   exact q2 ys H3 s3 R3
 refine⟨_,rfl,a,_,0,.str w,rfl,rfl,SqT.of ha,ah (j:=0) rfl,gs hX λX hX=>⟨_,rfl,a,_,1,.ref l,rfl,rfl,SqT.of ha,ah (j:=1) rfl,gs hX λX hX=>dU λY Z hY hZ=>⟨_,rfl,rfl,_,rfl,av (λh=>absurd h ()) (λ_=>hZ _ (tnx (hX _ _ (cb λX hX=>dU λY Z hY hZ=>?_))))⟩⟩⟩
 have cat:∀{d:Dv}{H3:Hp}{t0 t:Addr}{x:V}{xs ys:List V}{d0:Dv}{ds0 ds1:List Dv},H3 t0=some (.tup (x::xs))->Reps H3 (d0::ds0) (x::xs)->Reps H3 ds1 ys->aj H H3->d=.tup ((d0::ds0)++ds1)->xpF (n+1) (.nd w ts)=d->(x::xs=[]->Q (.ref t) H3)/\(ys=[]->Q (.ref t0) H3)/\∀p,H3 p=none->Q (.ref p) (upd H3 p (.tup ((x::xs)++ys))):=λ{d H3 t0 t x xs ys d0 ds0 ds1} h0 r0 r1 s3 e e'=>by
  refine⟨nofun,λe1=>?_,λp hp=>?_⟩
  ·have:=r1.length
   rw[e1,x_]at this
   rw[List.eq_nil_of_length_eq_zero this.symm,Θ]at e
   refine q _ _ s3 ?_
   rw[e',e,Rep]
   exact⟨t0,_,rfl,h0,r0⟩
  ·have s4:=ac hp (.tup ((x::xs)++ys))
   refine q _ _ (s3.trans s4) ?_
   rw[e',e,Rep]
   exact⟨p,_,rfl,aa,Reps.append (r0.mono s4) (r1.mono s4)⟩
 refine⟨_,rfl,gR,_,rfl,.inr (hR _),rfl,(),_,rfl,av (λh=>hY _ ?_) (λh=>hZ _ (tnx (hX _ _ (cb λX hX=>dU λY Z hY hZ=>?_))))⟩
 ·have hr':dW w=true:=h
  refine⟨_,rfl,z2,λt0 ht0=>?_⟩
  have s1:=ac ht0 (.tup [.str (γ "reckon"),.str w])
  refine⟨_,rfl,l,rfl,⟨_,SqL.of (s1 _ _ hl)⟩,rd s1 λys H4 s4 R4 l5 hl5=>?_⟩
  have s5:=ac hl5 (.lst ys)
  refine⟨l5,_,rfl,.inl ⟨SqL.of aa,λt ht=>?_⟩⟩
  have s6:=ac ht (.tup ys)
  have s46:=s4.trans (s5.trans s6)
  have h0:=s46 _ _ (aa (H:=H) (a:=t0) (o:=.tup [.str (γ "reckon"),.str w]))
  refine⟨t0,t,_,_,rfl,rfl,SqT.of h0,SqT.of aa,?_,cat (d0:=.str (γ "reckon")) (ds0:=[.str w]) h0 ?_ (R4.mono (s5.trans s6)) (s1.trans s46) rfl (by rw[xpF,Q5 hr'];rfl)⟩
  ·rw[R4.length,ς,τ];show 2+_<=_;omega
  ·simp only[Reps]
   exact⟨_,_,rfl,by simp only[Rep],_,_,rfl,by simp only[Rep],rfl⟩
 have hr':¬ dW w=true:=h
 refine⟨_,rfl,rfl,_,rfl,av (λh=>hY _ ?_) (λh=>hZ _ (tnx (hX _ _ (cb λX hX=>dU λY Z hY hZ=>?_))))⟩
 ·have ew:w=γ "row":=V.str.inj (Q7 h)
  refine⟨_,rfl,l,rfl,⟨_,SqL.of hl⟩,rd (aj.refl _) λys H4 s4 R4 l5 hl5=>?_⟩
  have s5:=ac hl5 (.lst ys)
  refine⟨l5,_,rfl,.inl ⟨SqL.of aa,λt ht=>⟨z2,λm hm=>?_⟩⟩⟩
  have s6:=ac ht (.tup ys)
  have s7:=ac hm (.tup [.str (γ "row"),.ref t])
  refine q _ _ (s4.trans (s5.trans (s6.trans s7))) ?_
  rw[xpF,Q6 hr',Q5 ew]
  exact bp aa (by simp only[Rep]) (by rw[Rep];exact⟨t,ys,rfl,s7 _ _ aa,R4.mono (s5.trans (s6.trans s7))⟩)
 have nw:¬ w=γ "row":=λz=>h (Q9 (congrArg V.str z))
 refine⟨_,rfl,w,rfl,rfl,_,rfl,?_⟩
 rw[hS2 w]
 cases hf:WT.find? (λp=>decide (p.1=w))with
 |none=>
  have e:(WT.any λp=>decide (p.1=w))=false:=by
   rw[Hc]
   exact G4.mp hf
  rw[e]
  refine av (λh=>absurd h ()) (λ_=>hZ _ (tnx (hX _ _ ?_)))
  refine⟨_,rfl,_,rfl,l,rfl,⟨_,SqL.of hl⟩,rd (aj.refl _) λys H4 s4 R4 l5 hl5=>?_⟩
  have s5:=ac hl5 (.lst ys)
  refine⟨l5,_,rfl,.inl ⟨SqL.of aa,λt ht=>⟨z3,λm hm=>?_⟩⟩⟩
  have s6:=ac ht (.tup ys)
  have s7:=ac hm (.tup [.str (γ "call"),.str w,.ref t])
  refine q _ _ (s4.trans (s5.trans (s6.trans s7))) ?_
  rw[xpF,Q6 hr',Q6 nw,hf,Rep]
  refine⟨m,_,rfl,aa,?_⟩
  simp only[Reps]
  refine⟨_,_,rfl,by simp only[Rep],_,_,rfl,by simp only[Rep],_,_,rfl,?_,rfl⟩
  rw[Rep]
  exact⟨t,ys,rfl,s7 _ _ aa,R4.mono (s5.trans (s6.trans s7))⟩
 |some p=>
  have hp:=G_ hf
  have ew:p.1=w:=by simpa using List.find?_some hf
  have e:(WT.any λp=>decide (p.1=w))=true:=n_.mpr ⟨p,hp,Q9 ew⟩
  rw[e]
  obtain⟨g,hg,hgT⟩:=hS p hp
  have h5:=fO p hp
  rw[ew]at hg
  refine av (λ_=>hY _ ?_) (λh=>absurd () h)
  refine⟨_,rfl,z1,λt0 ht0=>?_⟩
  have s1:=ac ht0 (.tup [.str w])
  refine⟨_,rfl,w,g,rfl,rfl,hg,_,rfl,g,l,rfl,⟨_,hgT _⟩,⟨_,SqL.of (s1 _ _ hl)⟩,xw (xs:=p.2.2.map λs=>V.str (srt s)) (ys:=us) (λi ys H'=>aj (upd H t0 (.tup [.str w])) H'/\Reps H' ((e9 (thF (xpF n)) p.2.2 ts).take i) ys) ⟨aj.refl _,by simp[Reps]⟩ (λi zs H' p=>⟨hgT _,SqL.of (p.1 _ _ (s1 _ _ hl))⟩) ?_ ?_⟩
  ·rintro i zs H2 x y p2 hx hy ⟨s2,R2⟩ hp2
   rw[Ϯ]at hx
   obtain⟨so,hso,rfl⟩:=ϯ.mp hx
   obtain⟨c,hc,Re⟩:=vv (f:=bQ) ru hy
   have cm:=Ϝ hc
   have hz:(e9 (thF (xpF n)) p.2.2 ts)[i]?=some (thF (xpF n) so c):=by rw[List.getElem?_zipWith,hso,hc]
   have hi:=(Ρ.mp hso).1
   have q3:=ac hp2 (.tup [.str (srt so),y])
   have s3:=s2.trans q3
   refine gH aa ⟨_,rfl,_,rfl,so,y,c,rfl,Re.mono (s1.trans s3),cs c cm,cd c cm,(),λH4 w4 s4 R4=>⟨?_,s3.trans s4,?_⟩⟩
   ·rw[R2.length,Ϗ,τ];omega
   ·rw[m5,hz]
    exact Reps.append (R2.mono (q3.trans s4)) (bz R4)
  ·rintro ys H2 ⟨s2,R2⟩ l5 hl5
   rw[F4 (by rw[GB,ς];omega)]at R2
   have s5:=ac hl5 (.lst ys)
   refine⟨l5,_,rfl,.inl ⟨SqL.of aa,λt ht=>?_⟩⟩
   have s6:=ac ht (.tup ys)
   have s46:=s2.trans (s5.trans s6)
   have h0:=s46 _ _ (aa (H:=H) (a:=t0) (o:=.tup [.str w]))
   refine⟨t0,t,_,_,rfl,rfl,SqT.of h0,SqT.of aa,?_,cat (d0:=.str w) (ds0:=[]) h0 (bz (by simp only[Rep])) (R2.mono (s5.trans s6)) (s1.trans s46) rfl (by rw[xpF,Q6 hr',Q6 nw,hf];rfl)⟩
   rw[R2.length,GB,τ]
   show 1+_<=_
   omega
theorem vT:∀{ts:List Br},(∀u∈ts,brS u)->brSs ts
 |[],_=>trivial
 |t::ts,h=>⟨h t ν,vT λu hu=>h u (π _ hu)⟩
theorem mI(x:Str):∀(m i:Nat),x.length-i=m->i<=x.length->∃j,i<=j/\j<=x.length/\(∀m,i<=m->m<j->∃c,x.cps.toList[m]?=some c/\aV c=false)/\(j<x.length->∃c,x.cps.toList[j]?=some c/\aV c=true)
 |0,i,e,hi=>⟨i,θ _,hi,λm h1 h2=>by omega,λh=>by omega⟩
 |m+1,i,e,hi=>by
  have hl:i<x.cps.toList.length:=by rw[ψ];show i<x.length;omega
  have hc:=Ι hl
  cases hs:aV x.cps.toList[i]with
  |true=>exact⟨i,θ _,hi,λm h1 h2=>by omega,λ_=>⟨_,hc,hs⟩⟩
  |false=>
   obtain⟨j,h1,h2,h3,h4⟩:=mI x m (i+1) () (by show i+1<=x.cps.size;rw[ψ]at hl;omega)
   refine⟨j,(),h2,λm' g1 g2=>?_,h4⟩
   rcases Nat.eq_or_lt_of_le g1 with z|z
   ·rw[<-z];exact⟨_,hc,hs⟩
   ·exact h3 m' z g2
theorem wW{x:Str}{i j:Nat}(h1:i<=j)(h2:j<=x.length):(Txt.slice x (some (i:Int)) (some (j:Int))).length<=x.length/\(Txt.slice x (some (i:Int)) (some (j:Int))).cps.toList.count 43<=x.cps.toList.count 43:=by
 have e:=G8 (x:=x) (i:=i) (j:=(j:Int)) () () ()
 rw[beq_iff_eq.mp e]
 refine⟨?_,?_⟩
 ·show(List.take _ (List.drop _ x.cps.toList)).toArray.size<=_
  rw[Α,Ϗ,ϡ,ψ]
  show min _ (x.length-_)<=_
  omega
 ·show(List.take _ (List.drop _ x.cps.toList)).count 43<=_
  exact((List.take_sublist _ _).trans (List.drop_sublist _ _)).count_le _
theorem pp{x y:Str}{i:Nat}(hi:i<=x.length)(h:Txt.startswith3 x y (i:Int)=true):i+y.length<=x.length:=by
 rw[je hi,beq_iff_eq]at h
 have:=congrArg A4 h
 rw[Ϗ,ϡ,ψ,ψ]at this
 have e1:x.length=x.cps.size:=rfl
 have e2:y.length=y.cps.size:=rfl
 omega
def qk(C:Addr)(n:Nat):Sp:=λvs H Q _=>∃(a:Addr) (x:Str) (i:Nat) (most:Int),vs=[.ref a,.int most]/\Sg C H a x i/\x.length<=800/\x.cps.toList.count 43<=20/\i<=x.length/\0<=most/\most<n /\
 ∀H' v b j,ay a H H'->Sg C H' a x j->i<=j->j<=x.length->Rep (nw H H') (bQ b) v->brS b->(cJ b:Int)<=most->Q v H'
theorem tZ{f C g1 g2 g3:Addr}{fd d1 d2 d3:Γ}{k0 n:Nat}(F:Fun K "branch" "Signs.branch" cV f fd)(T:Txt K mg)(cl:Cls K C)(m_next_word:lQ K C "next_word" g1)(F_next_word:ap P w K mg base CX0 k0 g1 d1 ["self"] (tG C))(b_next_word:aU K d1 ["self"] [])
  (m_met:lQ K C "met" g2) (F_met:ap P w K mg base CX0 k0 g2 d2 ["self","signs"] (yZ C)) (b_met:aU K d2 ["self","signs"] []) (m_branch:lQ K C "branch" g3) (F_branch:ap P w K mg base CX0 k0 g3 d3 ["self","most"] (qk C n)) (b_branch:aU K d3 ["self","most"] []):ap P w K mg base CX0 (k0+1) f fd ["self","most"] (qk C (n+1)):=by
 have nd:=fH.nd
 refine F.ok fH (λvs H Q E h=>?_) (λcdv A outer s H vs Q E hr h=>?_)
 ·obtain⟨a,x,i,most,rfl,_⟩:=h
  rfl
 obtain⟨a,x,i,most,rfl,sg,lx,xc,hi,m0,mn,q⟩:=h
 refine⟨_,(@un _ _ _ (wbO (wbM 2 nd rfl (Ν rfl) (waL (wv 0 rfl) cl m_next_word F_next_word hr b_next_word .nil ce rfl) rfl ()) (wbO (wbI (wab (wbY (wbS aE (wv 1 rfl) waC (ak _)) (wbZ (wbT (wbV (waJ (wv 0 rfl) cl m_met F_met hr b_met .nil ce (wae waV waf rfl) rfl rfl rfl) ()))))) (wbQ (wbK (waX (wae (wv 2 rfl) (wae waN waf rfl) rfl)))) wbP) (wbO (wbM 3 nd rfl (Ν rfl) (waM waf) rfl ()) (wbO (wbI (wbT (wbV (waJ (wv 0 rfl) cl m_met F_met hr b_met .nil ce (wae waV waf rfl) rfl rfl rfl) ())) (wbO (wbG (waj ϔ b_ c_ cD (wv 3 rfl) (wae (waJ (wv 0 rfl) cl m_branch F_branch hr b_branch .nil ce (wae (waQ nJ (wv 1 rfl) waC) waf rfl) rfl rfl rfl) waf rfl) rfl rfl rfl rfl rfl) rfl) (wbO (wbN j4 (wbV (waJ (wv 0 rfl) cl m_met F_met hr b_met .nil ce (wae waV waf rfl) rfl rfl rfl) ()) (wbQ (wbG (waj ϔ b_ c_ cD (wv 3 rfl) (wae (waJ (wv 0 rfl) cl m_branch F_branch hr b_branch .nil ce (wae (waQ nJ (wv 1 rfl) waC) waf rfl) rfl rfl rfl) waf rfl) rfl rfl rfl rfl rfl) rfl))) (wbQ (wbG (waJ (wv 0 rfl) cl m_met F_met hr b_met .nil ce (wae waV waf rfl) rfl rfl rfl) rfl)))) wbP) (wbQ (wbK (waX (wae (wv 2 rfl) (wae (wv 3 rfl) waf rfl) rfl))))))))),?_⟩
 dsimp only[bf,Cx.nox]
 obtain⟨j,w1,w2,w3,w4⟩:=mI x _ i rfl hi
 have wl:=wW w1 w2
 obtain⟨dx,ha⟩:=sg
 have nN:∀(y:Str)(p:Int),ϥ (γ "next_word") [(γ "text",V.str y),(γ "at",V.int p)]=none:=jB () ()
 have nM:∀(y:Str)(p:Int),ϥ (γ "met") [(γ "text",V.str y),(γ "at",V.int p)]=none:=jB () ()
 have nB:∀(y:Str)(p:Int),ϥ (γ "branch") [(γ "text",V.str y),(γ "at",V.int p)]=none:=jB () ()
 refine cb λX hX=>⟨_,rfl,a,dx,_,rfl,ha,nN _ _,a,x,i,j,rfl,⟨dx,ha⟩,(),w1,w2,w3,w4,λH1 s1 sg1=>gs hX λX hX=>?_⟩
 generalize Txt.slice x (some (i:Int)) (some (j:Int))=w0 at wl⊢
 obtain⟨dx1,ha1⟩:=id sg1
 have leaf:∀t0,H1 t0=none->Q (.ref t0) (upd H1 t0 (.tup [.str w0,.non])):=λt0 h0=>by
  have n1:t0≠a:=λz=>by rw[z,ha1]at h0;cases h0
  have h00:H t0=none:=by
   cases e:H t0 with
   |none=>rfl
   |some o=>rw[s1 t0 o n1 e]at h0;cases h0
  refine q _ _ (.leaf w0) j (s1.trans (aj.b a (ac h0 _))) ⟨dx1,ac h0 _ _ _ ha1⟩ w1 w2 ?_ (by rw[brS];exact⟨(),()⟩) (by rw[cJ];exact m0)
  rw[bQ]
  unfold mZ
  rw[Rep]
  refine⟨t0,[.str w0,.non],rfl,?_,by simp only[Reps];exact⟨_,_,rfl,by simp only[Rep],_,_,rfl,by simp only[Rep],rfl⟩⟩
  unfold nw
  rw[h00];exact aa
 refine dU λY Z hY hZ=>⟨_,rfl,rfl,_,rfl,av (λ_=>aD (hY _ ⟨_,rfl,z2,leaf⟩)) (λh0=>?_)⟩
 have m1:1<=most:=by
  have:most≠0:=λz=>h0 (Q9 (by rw[z]))
  omega
 refine⟨_,rfl,a,dx1,_,rfl,ha1,nM _ _,a,x,γ "(",j,rfl,sg1,(),λ_=>⟨_,rfl,aD (hY _ ⟨_,rfl,z2,leaf⟩)⟩,λso H2 s2 sg2=>⟨_,rfl,aI (hZ _ (tnx (hX _ _ (cb λX hX=>⟨ϖ _,λl hl=>gs hX λX hX=>?_⟩))))⟩⟩
 have lj:=pp w2 so
 rw[lb3]at sg2 lj
 obtain⟨dx2,ha2⟩:=id sg2
 have s02:=s1.trans s2
 have la:l≠a:=λz=>by rw[z,ha2]at hl;cases hl
 have old:∀b,H2 b=none->b≠a->H b=none:=λb hb hba=>by
  cases e:H b with
  |none=>rfl
  |some o=>rw[s02 b o hba e]at hb;cases hb
 have hl0:H l=none:=old l hl la
 have s3:=ac hl (.lst [])
 have l3:upd H2 l (.lst []) l=some (.lst []):=aa
 have o3:∀b,upd H2 l (.lst []) b=none->H b=none:=λb hb=>by
  have h1:b≠l:=λz=>by rw[z,aa]at hb;cases hb
  rw[ai h1]at hb
  exact old b hb (λz=>by rw[z,ha2]at hb;cases hb)
 have ha3:=s3 _ _ ha2
 generalize upd H2 l (.lst [])=H3 at s3 l3 o3 ha3⊢
 have s03:=s02.trans (aj.b a s3)
 clear leaf hY hZ
 have wl':∀{H':Hp}{o:HO},ay a H H'->ay a H (upd H' l o):=λ{H' o} s' b ob hb e=>by rw[ai (ao e hl0)];exact s' b ob hb e
 have sgl:∀{H':Hp}{o:HO}{p:Nat},Sg C H' a x p->Sg C (upd H' l o) a x p:=λ{H' o p} ⟨d,e⟩=>⟨d,by rw[ai (ϛ la)];exact e⟩
 have nwl:∀{H':Hp}{o:HO},aj (nw H3 H') (nw H3 (upd H' l o)):=λ{H' o}=>jt λb ob hb e=>by rw[ai (λz=>by rw[z,l3]at hb;cases hb)];exact e
 have unl:∀{H':Hp}{o:HO}{b:Addr},upd H' l o b=none->H' b=none:=λ{H' o b} hb=>by
  have h1:b≠l:=λz=>by rw[z,aa]at hb;cases hb
  rwa[ai h1]at hb
 have fin:∀(H6:Hp)(us:List V)(ts:List Br)(p:Nat),ay a H H6->Sg C H6 a x p->i<=p->p<=x.length->H6 l=some (.lst us)->Reps (nw H3 H6) (ts.map bQ) us->ts.length<=900->(∀u∈ts,brS u/\(cJ u:Int)<=most-1)->∀t0,H6 t0=none->Q (.ref t0) (upd H6 t0 (.tup [.str w0,.ref l])):=λH6 us ts p s6 sg6 hp hp' l6 R6 l9 ok t0 h0=>by
  obtain⟨dx6,ha6⟩:=id sg6
  have t0a:t0≠a:=λz=>by rw[z,ha6]at h0;cases h0
  have h00:H t0=none:=by
   cases e:H t0 with
   |none=>rfl
   |some o=>rw[s6 t0 o t0a e]at h0;cases h0
  have s7:=ac h0 (.tup [.str w0,.ref l])
  refine q _ _ (.nd w0 ts) p (s6.trans (aj.b a s7)) ⟨dx6,s7 _ _ ha6⟩ hp hp' ?_ ?_ ?_
  ·have R7:Reps (nw H (upd H6 t0 (.tup [.str w0,.ref l]))) (ts.map bQ) us:=(R6.mono (jQ o3)).mono (jt λb ob hb e=>s7 _ _ e)
   rw[bQ,fG,Rep]
   refine⟨t0,[.str w0,.ref l],rfl,?_,?_⟩
   ·unfold nw;rw[h00];exact aa
   ·simp only[Reps]
    refine⟨_,_,rfl,by simp only[Rep],_,_,rfl,?_,rfl⟩
    rw[Rep]
    exact⟨l,us,rfl,by unfold nw;rw[hl0];exact s7 _ _ l6,R7⟩
  ·rw[brS]
   exact⟨⟨(),()⟩,l9,vT λu hu=>(ok u hu).1⟩
  ·rw[cJ]
   have:=yL (n:=(most-1).toNat) (bs:=ts) λu hu=>by have:=(ok u hu).2;omega
   omega
 refine dU λY Z hY hZ=>⟨_,rfl,a,dx2,_,rfl,ha3,nM _ _,a,x,γ ")",j+1,rfl,⟨dx2,ha3⟩,(),λ_=>⟨_,rfl,aD (hY _ ?_)⟩,λsc H6 s6 sg6=>⟨_,rfl,aI (hZ _ (tnx (hX _ _ ⟨_,rfl,_,rfl,z2,?_⟩)))⟩⟩
 rotate_left
 ·have:=pp () sc
  rw[lb4]at sg6 this
  exact fin H6 [] [] _ (s03.trans s6) sg6 () () (s6 _ _ la l3) (by simp only[i9,Reps]) (ϖ _) nofun
 have rd:∀(H4:Hp)(us:List V)(p:Nat)(dxx:Addr)(Z:V->Hp->Prop),H4 a=some (.ins C dxx [(γ "text",.str x),(γ "at",.int (p:Int))])->p<=x.length->H4 l=some (.lst us)->us.length<=900 ->
   (∀H5 v5 u p5,ay a H4 H5->Sg C H5 a x p5->p<=p5->p5<=x.length->Rep (nw H4 H5) (bQ u) v5->brS u->(cJ u:Int)<=most-1->Z .non (upd H5 l (.lst (us++[v5])))) ->
   qk C n [.ref a,.int (most-1)] H4 (λv H5=>ow (.ref l) [v] H5 Z) E0:=λH4 us p dxx Z h4 hp hl4 lus k=>
  ⟨a,x,p,most-1,rfl,⟨dxx,h4⟩,lx,xc,hp,(),(),λH5 v5 u p5 s5 sg5 g1 g2 R5 b5 d5=>⟨l,us,v5,rfl,rfl,s5 _ _ la hl4,by rw[τ];omega,k H5 v5 u p5 s5 sg5 g1 g2 R5 b5 d5⟩⟩
 refine cb λX2 hX2=>⟨_,rfl,.inl ⟨rfl,_,SqL.of l3⟩,_,rfl,a,dx2,_,rfl,ha3,nB _ _,_,rfl,_,_,rfl,rfl,?_⟩
 dsimp only[kj,Ϭ,Ϛ,Θ,gi]
 refine rd H3 [] (j+1) dx2 _ ha3 lj l3 (ϖ _) λH4 v4 u4 p4 s4 sg4 g1 g2 R4 b4 d4=>hX2 _ _ (cb λX3 hX3=>?_)
 refine⟨λm σ H'=>∃(ts:List Br) (us:List V) (p:Nat),m=x.length-p/\σ=[some (.ref a),some (.int most),some (.str w0),some (.ref l)]/\ay a H H'/\Sg C H' a x p/\i<=p/\p<=x.length/\H' l=some (.lst us)/\Reps (nw H3 H') (ts.map bQ) us/\us.length<=p/\(∀u∈ts,brS u/\(cJ u:Int)<=most-1)/\∀b,H' b=none->H3 b=none,⟨_,[u4],[v4],p4,rfl,rfl,wl' (s03.trans s4),sgl sg4,(),g2,aa,(bz R4).mono nwl,by show 1<=p4;omega,λu hu=>by rw[ξ.mp hu];exact⟨b4,d4⟩,λb hb=>fS s4 sg4 (unl hb)⟩,?_⟩
 rintro m σ H5 ⟨ts,us,p,rfl,rfl,s5,sg5,hp5,hp5',l5,R5,lus,ok5,k5⟩
 obtain⟨dx5,ha5⟩:=id sg5
 have lts:us.length=ts.length:=by have:=R5.length;rwa[ς]at this
 refine⟨_,rfl,a,dx5,_,rfl,ha5,nM _ _,a,x,γ ", ",p,rfl,sg5,(),λ_=>⟨_,rfl,aI (hX3 _ _ ?_)⟩,λsc H6 s6 sg6=>⟨_,rfl,aD ?_⟩⟩
 ·have done:∀H6 p6,ay a H5 H6->Sg C H6 a x p6->p<=p6->p6<=x.length->X [some (.ref a),some (.int most),some (.str w0),some (.ref l)] H6:=λH6 p6 s6 sg6 g1 g2=>
   hX _ _ ⟨_,rfl,_,rfl,z2,fin H6 us ts p6 (s5.trans s6) sg6 () g2 (s6 _ _ la l5) (R5.mono (jt λb ob hb e=>s6 b ob (λz=>by rw[z,ha3]at hb;cases hb) e)) () ok5⟩
  refine⟨_,rfl,a,dx5,_,rfl,ha5,nM _ _,a,x,γ ")",p,rfl,sg5,(),λ_=>done H5 p (ay.refl _ _) sg5 (θ _) hp5',λsc H6 s6 sg6=>?_⟩
  have:=pp hp5' sc
  rw[lb4]at sg6 this
  exact done H6 _ s6 sg6 () this
 ·have lp:=pp hp5' sc
  rw[nH]at sg6 lp
  obtain⟨dx6,ha6⟩:=id sg6
  have l6:=s6 _ _ la l5
  refine⟨λσ' H'=>∃(ts:List Br) (us:List V) (p':Nat),p+2<=p'/\σ'=[some (.ref a),some (.int most),some (.str w0),some (.ref l)]/\ay a H H'/\Sg C H' a x p'/\i<=p'/\p'<=x.length/\H' l=some (.lst us)/\Reps (nw H3 H') (ts.map bQ) us/\us.length<=p'/\(∀u∈ts,brS u/\(cJ u:Int)<=most-1)/\∀b,H' b=none->H3 b=none,λσ' H' ⟨ts',us',p',h1,h2,h3,h4,h5,h6,h7⟩=>⟨x.length-p',(),ts',us',p',rfl,h2,h3,h4,h5,h6,h7⟩,?_⟩
  refine⟨_,rfl,.inl ⟨rfl,_,SqL.of l6⟩,_,rfl,a,dx6,_,rfl,ha6,nB _ _,_,rfl,_,_,rfl,rfl,?_⟩
  dsimp only[kj,Ϭ,Ϛ,Θ,gi]
  refine rd H6 us (p+2) dx6 _ ha6 lp l6 () λH7 v7 u7 p7 s7 sg7 g1 g2 R7 b7 d7=>?_
  have keep:∀b,H6 b=none->H3 b=none:=λb hb=>k5 b (fS s6 sg6 hb)
  refine⟨ts++[u7],us++[v7],p7,g1,rfl,wl' ((s5.trans s6).trans s7),sgl sg7,(),g2,aa,?_,by rw[Ε];show _+1<=_;omega,λu hu=>?_,λb hb=>keep b (fS s7 sg7 (unl hb))⟩
  ·rw[ϊ]
   exact Reps.append ((R5.mono (jt λb ob hb e=>s7 b ob (λz=>by rw[z,ha3]at hb;cases hb) (s6 b ob (λz=>by rw[z,ha3]at hb;cases hb) e))).mono nwl) (bz ((R7.mono (jQ keep)).mono nwl))
  ·rcases Φ.mp hu with h|h
   ·exact ok5 u h
   ·rw[ξ.mp h];exact⟨b7,d7⟩
theorem eZ{n:Int}(h0:0<=n)(h1:n<10^60):eQ (aY n)=.int n:=by
 obtain⟨a,b⟩:=fJ h0 h1
 unfold eQ
 rw[Q5 a,b]
 exact congrArg Dv.int (Int.toNat_of_nonneg h0)
theorem wI{p:Pr}(p1:1<=p.2)(p60:p.2<10^60)(pn:nmB p.1=true):ci (aG p)=.tup [.str p.1,.int p.2]:=by
 obtain⟨n1,n8,az⟩:=cH pn
 unfold ci
 by_cases e1:p.2=1
 ·have ep:aG p=p.1:=Q5 e1
  have es:Txt.split (aG p) (γ "*")=[p.1]:=by
   rw[ep,ja]
   exact dh 42 (A:=[p.1]) () λz hz=>by rw[ξ.mp hz];intro h;have:=az _ h;omega
  rw[es,ep,e1]
 ·have ep:aG p=ώ (γ "*") [aY p.2,p.1]:=by unfold aG;rw[Q6 e1,aR,aF]
  have es:Txt.split (aG p) (γ "*")=[aY p.2,p.1]:=by
   rw[ep,ja]
   refine dh 42 (A:=[aY p.2,p.1]) () λz hz=>?_
   rcases ι.mp hz with rfl|hz
   ·intro h;have:=bO (n:=p.2) () p60 _ h;omega
   ·rw[ξ.mp hz];intro h;have:=az _ h;omega
  rw[es]
  show Dv.tup [.str p.1,eQ (aY p.2)]=_
  rw[eZ () p60]
theorem tW{p:Pr}(pn:nmB p.1=true):eQ (aG p)=.non:=by
 unfold eQ
 rw[Q6]
 intro h
 obtain⟨n1,n8,az⟩:=cH pn
 have hd:=(eI h).1
 obtain⟨c,r,e⟩:=bu n1
 have hc:c∈p.1.cps.toList:=by rw[e];exact ν
 have h1:=az c hc
 have h2:c∈(aG p).cps.toList:=by
  unfold aG
  split
  ·exact hc
  ·rw[ar];exact Ο _ hc
 have:=hd c h2
 omega
theorem ie{c:Int}{ps:List Pr}(wa:Wa c ps):lZ (bU c ps)=bA c ps:=by
 obtain⟨wr,wn⟩:=wa
 have es:=lf wr wn
 have hp:(ps.map aG).map ci=aT ps:=by
  rw[i_]
  exact List.map_congr_left λp hp=>wI (wr.can.ge p hp) (wr.le p hp).1 (wn p hp)
 unfold lZ
 rw[es]
 by_cases hc:c≠0\/ps=[]
 ·have el:ba c ps=ps.map aG++[aY c]:=by unfold ba;rw[Q5 hc]
  rw[el,show(ps.map aG++[aY c]).getLastD (bU c ps)=aY c by simp,eZ wr.c0 wr.c1]
  show Dv.tup [.int c,.tup ((ps.map aG++[aY c]).dropLast.map ci)]=_
  rw[Go,hp]
  rfl
 ·have el:ba c ps=ps.map aG:=by unfold ba;rw[Q6 hc,Θ]
  have c0:c=0:=Classical.byContradiction λz=>hc (.inl z)
  have ne:ps≠[]:=λz=>hc (.inr z)
  obtain⟨p0,pl,e⟩:∃p0 pl,ps=p0++[pl]:=⟨ps.dropLast,ps.getLast ne,(Gw ne).symm⟩
  rw[el,show(ps.map aG).getLastD (bU c ps)=aG pl by rw[e,ϊ];simp,tW (wn pl (by rw[e];simp))]
  show Dv.tup [.int 0,.tup ((ps.map aG).map ci)]=_
  rw[hp,c0]
  rfl
theorem dY:∀{m:Nat}{k:Kd},k.All Wa->k.size<=m->aH m (bX k)=k.dv
 |0,k,_,h=>by have:=k.size_pos;omega
 |m+1,.whole,_,_=>by rw[bX,aH];rfl
 |m+1,.place c ps,h,_=>by rw[bX,aH,Q5 rfl,cz,ie h];rfl
 |m+1,.row c ps k,h,z=>by
  have z:k.size+1<=m+1:=z
  rw[bX,aH,Q5 rfl,cz,ie h.1,dY h.2 ()];rfl
 |m+1,.pair i j,h,z=>by
  have z:i.size+j.size+1<=m+1:=z
  rw[bX,aH,Q6 (),Q5 rfl,dY h.1 (),dY h.2 ()];rfl
theorem yw{i:Int}(h0:0<=i)(h1:i<10^12):eK (aY i)=.tup [.str (γ "number"),.int i]:=by
 have h2:i<10^60:=by omega
 unfold eK
 rw[Q5 (fJ h0 h2).1,eZ h0 h2]
theorem xF{y:Str}(h:nmB y=true):eK y=.tup [.str (γ "name"),.str y]:=by
 unfold eK
 rw[Q6]
 intro hd
 have h1:=(eI hd).1
 obtain⟨n1,n8,az⟩:=cH h
 obtain⟨c,r,e⟩:=bu n1
 have hc:c∈y.cps.toList:=by rw[e];exact ν
 have:=az c hc
 have:=h1 c hc
 omega
theorem AD{n:Nat}{R:Dv->Br->Prop}(hR:∀d b,R d b->xpF n b=d):∀{s:So}{d:Dv}{b:Br},Ag R s d b->thF (xpF n) s b=d
 |.e,_,_,h=>hR _ _ h
 |.l,_,_,h=>by obtain⟨c,ps,rfl,rfl,sm⟩:=h;exact ie sm.1
 |.k,_,_,h=>by obtain⟨k,rfl,rfl,a,z⟩:=h;exact dY (cg (λ_ _ h=>h.1) a) ()
 |.x,_,_,h=>by obtain⟨y,rfl,rfl,_⟩:=h;rfl
 |.y,_,_,h=>by obtain⟨y,rfl,rfl,_⟩:=h;rfl
theorem xH{n:Nat}{R:Dv->Br->Prop}(hR:∀d b,R d b->xpF n b=d){ss:List So}{ds:List Dv}{bs:List Br}(h:Ags R ss ds bs):e9 (thF (xpF n)) ss bs=ds:=by
 induction h with
 |nil=>rfl
 |cons a _ ih=>rw[List.zipWith_cons_cons,AD hR a,ih]
theorem qL{n:Nat}{R:Dv->Br->Prop}(hR:∀d b,R d b->xpF n b=d){ds:List Dv}{bs:List Br}(h:Als R ds bs):bs.map (xpF n)=ds:=by
 induction h with
 |nil=>rfl
 |cons a _ ih=>rw[Μ,hR _ _ a,ih]
theorem vE:∀p∈WT,WT.find? (λq=>decide (q.1=p.1))=some p:=by decide +kernel
theorem my{f:Str}(h:dO f=false):WT.find? (λq=>decide (q.1=f))=none:=by
 rw[G4]
 intro q hq e
 have:(WT.any λq=>decide (q.1=f))=true:=n_.mpr ⟨q,hq,e⟩
 have h':(WT.any λq=>decide (q.1=f))=false:=h
 rw[h']at this;cases this
theorem vo:∀{n m:Nat}{d:Dv}{b:Br},Wx n d b->n<=m->xpF m b=d
 |n+1,0,_,_,_,h=>by omega
 |n+1,m+1,d,b,h,hm=>by
  have hR:∀d b,Wx n d b->xpF m b=d:=λd b h=>vo h ()
  rw[Wx]at h
  rcases h with ⟨i,h0,h1,rfl,rfl⟩|⟨y,hy,rfl,rfl⟩|⟨f,ds,bs,hf,hw,hr,l4,ha,rfl,rfl⟩|⟨r,d1,d2,b1,b2,hr,w1,w2,rfl,rfl⟩|⟨ds,bs,l1,l4,ha,rfl,rfl⟩|⟨p,ds,bs,hp,hf,ha,_,rfl,rfl⟩
  ·rw[xpF];exact yw h0 h1
  ·rw[xpF];exact xF hy
  ·have nr:¬ f=γ "row":=λz=>by rw[z]at hw;exact absurd hw ()
   rw[xpF,Q6 (by rw[hr];decide),Q6 nr,my hw,qL hR ha]
  ·rw[xpF,Q5 hr,Μ,Μ,i9,hR _ _ w1,hR _ _ w2]
  ·rw[xpF,Q6 (),Q5 rfl,qL hR ha]
  ·obtain⟨n1,n2,n3,n4,n5⟩:=rZ hf
   rw[xpF,Q6 (by rw[vO p hp];decide),Q6 n5,vE p hp]
   show Dv.tup (.str p.1::e9 (thF (xpF m)) p.2.2 bs)=_
   rw[xH hR ha]
theorem ny(x:Str):(eQ x).small=true:=by unfold eQ;split<;>rfl
theorem br{x:Str}(h:x.length<=900):(Dv.str x).small=true:=Q9 (by show x.length<=1000;omega)
theorem bR{a b:Dv}(h1:a.small=true)(h2:b.small=true):(Dv.tup [a,b]).small=true:=aX (λd hd=>by
 rcases ι.mp hd with rfl|hd
 ·exact h1
 ·rw[ξ.mp hd];exact h2) (by show 2<=1000;decide)
theorem tf{x:Str}(h:x.length<=900):(ci x).small=true:=by
 have sp:=(oh x 42).2
 rw[<-ja]at sp
 unfold ci
 split
 ·rename_i a b e
  rw[e]at sp
  have:=sp b ()
  exact bR (br ()) (ny a)
 ·exact bR (br h) rfl
theorem kJ(c:Nat):∀{ys:List Str},ys≠[]->(∀y∈ys,c∉y.cps.toList)->(ώ ⟨#[c]⟩ ys).cps.toList.count c+1=ys.length
 |[a],_,h=>by rw[aF,Ϫ (h a ν)];rfl
 |a::b::r,_,h=>by
  have ih:=kJ c (ys:=b::r) () λy hy=>h y (π _ hy)
  rw[aR,ar,ar,Ϟ,Ϟ,Ϫ (h a ν),χ,<-ih]
  show 0+[c].count c+_+1=_
  rw[List.count_singleton_self]
  omega
theorem xm(x:Str)(c:Nat):(Txt.split x ⟨#[c]⟩).length=x.cps.toList.count c+1:=by
 have:=kJ c (gO x ⟨#[c]⟩) λy hy=>StrLaws.split_free x c y hy
 rw[G7]at this
 omega
theorem uO:∀(cs:List Nat)(acc:Nat),(∀c∈cs,c<=57)->HV (λacc c=>acc*10+(c-48)) acc cs<(acc+1)*10^cs.length
 |[],acc,_=>by simp
 |c::cs,acc,h=>by
  have hc:=h c ν
  have ih:=uO cs (acc*10+(c-48)) λc' hc'=>h c' (π _ hc')
  rw[List.foldl_cons,χ,Nat.pow_succ]
  refine Χ ih ?_
  have h1:acc*10+(c-48)+1<=(acc+1)*10:=by omega
  have h2:=Gq (10^cs.length) h1
  rw[Nat.mul_assoc,Nat.mul_comm 10]at h2
  exact h2
theorem ym{x:Str}(h:dgs x=true):((Ϙ x.cps.toList:Nat):Int)<10^60:=by
 obtain⟨h1,_,h3⟩:=eI h
 have h4:=uO x.cps.toList 0 λc hc=>(h1 c hc).2
 rw[ψ]at h4
 have h5:(10:Nat)^x.cps.size<=10^60:=Nat.pow_le_pow_right () h3
 have h6:Ϙ x.cps.toList<10^60:=by
  unfold Ϙ
  omega
 exact_mod_cast h6
def vw(d:Dv):Prop:=∃c qs,d=.tup [.int c,.tup qs]/\c<10^60/\qs.length<=21/\∀p∈qs,dD p<10^60
theorem kz(x:Str):dD (ci x)<10^60:=by
 unfold ci
 split
 ·rename_i a b _
  unfold eQ
  split
  ·rename_i h;exact ym h
  ·show(0:Int)<_;decide
 ·show(1:Int)<_;decide
theorem tV{w:Str}(h:wdS w):vw (lZ w)/\(lZ w).small=true:=by
 obtain⟨h9,hc⟩:=h
 have hl:=xm w 43
 have sp:=(oh w 43).2
 rw[<-tU]at hl sp
 have sm:∀(us:List Str)(c:Int),us.length<=21->(∀p∈us,p.length<=w.length)->(Dv.tup [.int c,.tup (us.map ci)]).small=true:=λus c l h=>bR rfl (aX (λd hd=>by obtain⟨p,hp,rfl⟩:=Ϡ.mp hd;have:=h p hp;exact tf ()) (by rw[ς];omega))
 unfold lZ
 split
 ·rename_i c e
  have hd:(Txt.split w (γ "+")).dropLast.length<=21:=by rw[List.length_dropLast];omega
  refine⟨⟨c,_,rfl,?_,by rw[ς];exact hd,λp hp=>by obtain⟨y,_,rfl⟩:=Ϡ.mp hp;exact kz y⟩,sm _ _ hd λp hp=>sp p ((List.dropLast_sublist _).subset hp)⟩
  unfold eQ at e
  split at e
  ·rename_i h;injection e with e;rw[<-e];exact ym h
  ·cases e
 ·exact⟨⟨0,_,rfl,(),by rw[ς];omega,λp hp=>by obtain⟨y,_,rfl⟩:=Ϡ.mp hp;exact kz y⟩,sm _ _ () sp⟩
theorem xK{d:Dv}(h:fz d=true):∃(x:Str) (n:Int),d=.tup [.str x,.int n]/\nmB x=true/\1<=n:=by
 match d,h with
 |.tup [a,b],h=>
  have h':(cp a&&(bY b&&geD 1 b))=true:=h
  simp only[ο]at h'
  obtain⟨h1,h2,h3⟩:=h'
  cases a with
  |str x=>
   cases b with
   |int n=>exact⟨x,n,rfl,h1,Q7 h3⟩
   |_=>cases h3
  |_=>cases h1
theorem yj:∀{qs:List Dv}{l:Str},goD l qs=true->∃ps:List Pr,qs=aT ps/\ps.Pairwise BK/\(∀p∈ps,1<=p.2/\nmB p.1=true/\l.cps.toList<p.1.cps.toList)
 |[],l,_=>⟨[],rfl,.nil,nofun⟩
 |q::qs,l,h=>by
  simp only[goD,ο,decide_eq_true_eq]at h
  obtain⟨h1,h2,h3⟩:=h
  obtain⟨x,n,rfl,nx,n1⟩:=xK h1
  obtain⟨ps,rfl,pw,al⟩:=yj h3
  have h2:l.cps.toList<x.cps.toList:=h2
  refine⟨(x,n)::ps,rfl,G5.mpr ⟨λp hp=>(al p hp).2.2,pw⟩,λp hp=>?_⟩
  rcases ι.mp hp with rfl|hp
  ·exact⟨n1,nx,h2⟩
  ·exact⟨(al p hp).1,(al p hp).2.1,List.lt_trans h2 (al p hp).2.2⟩
theorem qy{d:Dv}(h:ib d=true)(hk:vw d):∃c ps,d=bA c ps/\Wa c ps:=by
 obtain⟨c,qs,rfl,c60,l21,t60⟩:=hk
 obtain⟨c',qs',e,c0,hg⟩:=mY h
 cases e
 obtain⟨ps,rfl,pw,al⟩:=yj hg
 have lp:(aT ps).length=ps.length:=ς _
 refine⟨c,ps,rfl,⟨⟨pw,λp hp=>(al p hp).1⟩,c0,c60,(),λp hp=>⟨t60 (.tup [.str p.1,.int p.2]) (Ϡ.mpr ⟨p,hp,rfl⟩),(aS (al p hp).2.1).2⟩⟩,λp hp=>(al p hp).2.1⟩
theorem tq{d:Dv}(h:slD d=true)(hk:vw d)(hs:d.small=true):∃c ps,d=bA c ps/\Sm c ps:=by
 have h1:ib d=true:=by unfold slD at h;rw[ο]at h;exact h.1
 obtain⟨c,ps,rfl,wa⟩:=qy h1 hk
 exact⟨c,ps,rfl,wa,h,hs⟩
theorem fF{b:Br}(h:brS b):(cz b).small=true/\∀{p:Dv->Bool},p .non=false->p (cz b)=true->vw (cz b):=by
 cases b with
 |leaf w=>rw[brS]at h;exact⟨(tV h).2,λ_ _=>(tV h).1⟩
 |nd w ts=>exact⟨rfl,λ{p} h1 h2=>absurd (h1.symm.trans h2) ()⟩
theorem cc{x:Str}(h:x.length<=900:=by decide +kernel):(Dv.str x).small=true:=br h
theorem fq{a b c:Dv}(h1:a.small=true)(h2:b.small=true)(h3:c.small=true):(Dv.tup [a,b,c]).small=true:=aX (λd hd=>by
 rcases ι.mp hd with rfl|hd
 ·exact h1
 rcases ι.mp hd with rfl|hd
 ·exact h2
 ·rw[ξ.mp hd];exact h3) (by show 3<=1000;decide)
theorem uX(n:Nat)(w:Str)(ts:List Br):(∃a,ts=[a]/\w=γ "place"/\aH (n+1) (.nd w ts)=.tup [.str (γ "place"),cz a])\/(∃a b,ts=[a,b]/\w=γ "row"/\aH (n+1) (.nd w ts)=.tup [.str (γ "row"),cz a,aH n b])\/(∃a b,ts=[a,b]/\w=γ "pair"/\aH (n+1) (.nd w ts)=.tup [.str (γ "pair"),aH n a,aH n b])\/aH (n+1) (.nd w ts)=.non:=by
 match ts with
 |[]=>exact .inr (.inr (.inr (by rw[aH]<;>simp)))
 |[a]=>
  by_cases h:w=γ "place"
  ·exact .inl ⟨a,rfl,h,by rw[aH,Q5 h]⟩
  ·exact .inr (.inr (.inr (by rw[aH,Q6 h])))
 |[a,b]=>
  by_cases h:w=γ "row"
  ·exact .inr (.inl ⟨a,b,rfl,h,by rw[aH,Q5 h]⟩)
  ·by_cases h':w=γ "pair"
   ·exact .inr (.inr (.inl ⟨a,b,rfl,h',by rw[aH,Q6 h,Q5 h']⟩))
   ·exact .inr (.inr (.inr (by rw[aH,Q6 h,Q6 h'])))
 |a::b::c::r=>exact .inr (.inr (.inr (by rw[aH]<;>simp)))
theorem dg:∀{n:Nat}{b:Br},brS b->(aH n b).small=true
 |0,_,_=>by rw[aH];rfl
 |n+1,.leaf w,h=>by
  rw[brS]at h
  rw[aH]
  exact aX (λd hd=>by rw[ξ.mp hd];exact br h.1) (by show 1<=1000;decide)
 |n+1,.nd w ts,h=>by
  rw[brS]at h
  have cs:=cY h.2.2
  rcases uX n w ts with ⟨a,rfl,_,e⟩|⟨a,b,rfl,_,e⟩|⟨a,b,rfl,_,e⟩|e
  ·rw[e];exact bR cc (fF (cs a ())).1
  ·rw[e];exact fq cc (fF (cs a ())).1 (dg (cs b ()))
  ·rw[e];exact fq cc (dg (cs a ())) (dg (cs b ()))
  ·rw[e];rfl
theorem gX:∀{n:Nat}{b:Br},brS b->aA (aH n b)<=12->∃k:Kd,aH n b=k.dv/\k.All Sm
 |0,_,_,z=>by rw[aH,jK rfl]at z;omega
 |n+1,.leaf w,h,z=>by
  rw[aH,DQ]at z
  split at z
  ·rename_i e;exact⟨.whole,by rw[aH,e];rfl,trivial⟩
  ·omega
 |n+1,.nd w ts,h,z=>by
  rw[brS]at h
  have cs:=cY h.2.2
  rcases uX n w ts with ⟨a,rfl,_,e⟩|⟨a,b,rfl,_,e⟩|⟨a,b,rfl,_,e⟩|e
  ·rw[e,DY]at z
   split at z
   ·rename_i hs
    obtain⟨l1,l2⟩:=fF (cs a ())
    obtain⟨c,ps,el,sm⟩:=tq hs.2 (l2 (p:=slD) rfl hs.2) l1
    exact⟨.place c ps,by rw[e,el];rfl,sm⟩
   ·omega
  ·rw[e,Ah,Q6 ()]at z
   split at z
   ·rename_i hs
    obtain⟨l1,l2⟩:=fF (cs a ())
    obtain⟨c,ps,el,sm⟩:=tq hs.2 (l2 (p:=slD) rfl hs.2) l1
    obtain⟨k,ek,kA⟩:=gX (n:=n) (cs b ()) ()
    exact⟨.row c ps k,by rw[e,el,ek];rfl,sm,kA⟩
   ·omega
  ·rw[e,Ah,Q5 rfl]at z
   obtain⟨k,ek,kA⟩:=gX (n:=n) (cs a ()) ()
   obtain⟨j,ej,jA⟩:=gX (n:=n) (cs b ()) ()
   exact⟨.pair k j,by rw[e,ek,ej];rfl,kA,jA⟩
  ·rw[e,jK rfl]at z;omega
theorem mS{n:Nat}{b:Br}(h:brS b)(z:aA (aH n b)<=12):∃k:Kd,aH n b=k.dv/\k.All Sm/\k.size<=12:=by
 obtain⟨k,e,kA⟩:=gX h z
 rw[e,fP (cg (λ_ _ h=>h.2) kA)]at z
 exact⟨k,e,kA,z⟩
theorem tz{w:Str}(h:w.length<=900):(eK w).small=true:=by
 unfold eK
 split
 ·exact bR cc (ny w)
 ·exact bR cc (br h)
theorem pQ{n:Nat}{b:Br}(hb:brS b)(hx:(xpF n b).small=true):∀s:So,(thF (xpF n) s b).small=true
 |.l=>(fF hb).1
 |.k=>dg hb
 |.x=>by cases b with|leaf w=>rw[brS]at hb;exact br hb.1|nd w ts=>rfl
 |.y=>by cases b with|leaf w=>rw[brS]at hb;exact br hb.1|nd w ts=>rfl
 |.n=>hx
 |.w=>hx
 |.f=>hx
 |.e=>hx
 |.a=>hx
 |.r=>hx
theorem lJ:∀{n:Nat}{b:Br},brS b->(xpF n b).small=true
 |0,_,_=>by rw[xpF];rfl
 |n+1,.leaf w,h=>by rw[brS]at h;rw[xpF];exact tz h.1
 |n+1,.nd w ts,h=>by
  rw[brS]at h
  have cs:=cY h.2.2
  have l9:=h.2.1
  have hm:∀d∈ts.map (xpF n),d.small=true:=λd hd=>by obtain⟨t,ht,rfl⟩:=Ϡ.mp hd;exact lJ (cs t ht)
  have sT:(Dv.tup (ts.map (xpF n))).small=true:=aX hm (by rw[ς];omega)
  rw[xpF]
  split
  ·refine aX (λd hd=>?_) (by rw[χ,χ,ς];omega)
   rcases ι.mp hd with rfl|hd
   ·exact cc
   rcases ι.mp hd with rfl|hd
   ·exact br h.1.1
   ·exact hm d hd
  ·split
   ·exact bR cc sT
   ·split
    ·refine aX (λd hd=>?_) (by rw[χ,GB];omega)
     rcases ι.mp hd with rfl|hd
     ·exact br h.1.1
     ·obtain⟨i,hi⟩:=List.getElem?_of_mem hd
      rw[List.getElem?_zipWith]at hi
      split at hi
      ·rename_i s t _ ht
       rw[<-ϧ hi]
       have:=Ϝ ht
       exact pQ (cs t this) (lJ (cs t this)) s
      ·cases hi
    ·exact fq cc (br h.1.1) sT
theorem uV{R:Dv->Br->Prop}{f:Br->Dv}:∀{ts:List Br},(∀t∈ts,∃b',R (f t) b')->∃bs,Als R (ts.map f) bs
 |[],_=>⟨[],.nil⟩
 |t::ts,h=>by
  obtain⟨b,hb⟩:=h t ν
  obtain⟨bs,hbs⟩:=uV (R:=R) (f:=f) (ts:=ts) λu hu=>h u (π _ hu)
  exact⟨b::bs,.cons hb hbs⟩
theorem sP{n:Nat}{d:Dv}(h:exN (n+1) d<=40):dq d=true/\∀e∈bb d,exN n e<=40:=by
 rw[exN]at h
 split at h
 ·rename_i c
  refine⟨c,λe he=>?_⟩
  have:=oV (i4 (f:=exN n) he)
  omega
 ·omega
theorem AX(m:Nat)(b:Br):xpF m b=.non\/∃ds,xpF m b=.tup ds:=by
 match m,b with
 |0,_=>exact .inl (by rw[xpF])
 |m+1,.leaf w=>rw[xpF];unfold eK;split<;>exact .inr ⟨_,rfl⟩
 |m+1,.nd w ts=>rw[xpF];(repeat' split)<;>exact .inr ⟨_,rfl⟩
theorem ud(m:Nat)(b:Br):jE .n (xpF m b)=false/\jE .w (xpF m b)=false/\jE .f (xpF m b)=false:=by
 rcases AX m b with e|⟨ds,e⟩<;>rw[e]<;>exact⟨rfl,rfl,rfl⟩
def gd:So->Bool
 |.e=>true
 |.l=>true
 |.k=>true
 |.x=>true
 |.y=>true
 |_=>false
theorem Em:∀p∈WT,frm p.1=true->∀s∈p.2.2,gd s=true:=by decide +kernel
theorem Aj:∀p∈WT,frm p.1=true\/p=gk\/p=iu\/p=oF\/p=yH\/p=qu:=by decide +kernel
theorem iS{t:Br}(h:cp (dE t)=true):∃y,dE t=.str y/\nmB y=true:=by
 cases t with
 |leaf w=>exact⟨w,rfl,h⟩
 |nd w ts=>cases h
theorem va{n m:Nat}:∀{ss:List So}{ts:List Br},(∀s∈ss,gd s=true)->okF ss (e9 (thF (xpF m)) ss ts)=true->(∀t∈ts,brS t)->(∀t∈ts,exN n (xpF m t)<=40->∃b',Wx n (xpF m t) b')->(∀e∈bD ss (e9 (thF (xpF m)) ss ts),exN n e<=40)->∃bs,Ags (Wx n) ss (e9 (thF (xpF m)) ss ts) bs
 |[],ts,_,_,_,_,_=>by rw[List.zipWith_nil_left];exact⟨[],.nil⟩
 |s::ss,[],_,h,_,_,_=>by rw[List.zipWith_nil_right]at h;cases h
 |s::ss,t::ts,g,h,bS,ih,hp=>by
  rw[List.zipWith_cons_cons]at h hp⊢
  rw[okF,ο]at h
  have hp':∀e∈ptD s (thF (xpF m) s t)++bD ss (e9 (thF (xpF m)) ss ts),exN n e<=40:=hp
  obtain⟨bs,hb⟩:=va (n:=n) (m:=m) (ss:=ss) (ts:=ts) (λs hs=>g s (π _ hs)) h.2 (λt ht=>bS t (π _ ht)) (λt ht=>ih t (π _ ht)) λe he=>hp' e (Ο _ he)
  have g0:=g s ν
  have b0:=bS t ν
  have h1:=h.1
  have hp0:∀e∈ptD s (thF (xpF m) s t),exN n e<=40:=λe he=>hp' e (f_ _ he)
  clear hp hp' h
  suffices z:∃b,Ag (Wx n) s (thF (xpF m) s t) b by
   obtain⟨b,z⟩:=z
   exact⟨b::bs,.cons z hb⟩
  cases s with
  |e=>exact ih t ν (hp0 _ ν)
  |l=>
   have h1:slD (cz t)=true:=h1
   obtain⟨l1,l2⟩:=fF b0
   obtain⟨c,ps,el,sm⟩:=tq h1 (l2 (p:=slD) rfl h1) l1
   exact⟨_,c,ps,el,rfl,sm⟩
  |k=>
   have h1:decide (aA (aH 21 t)<=12)=true:=h1
   obtain⟨k,e,ka,z⟩:=mS b0 (Q7 h1)
   exact⟨_,k,e,rfl,ka,z⟩
  |x=>
   obtain⟨y,e,hy⟩:=iS (t:=t) h1
   exact⟨_,y,e,rfl,hy⟩
  |y=>
   obtain⟨y,e,hy⟩:=iS (t:=t) h1
   exact⟨_,y,e,rfl,hy⟩
  |n=>cases g0
  |w=>cases g0
  |f=>cases g0
  |a=>cases g0
  |r=>cases g0
theorem vq{b:Int}{ds:List Dv}(h:lL b (.tup ds)=true):b<=(ds.length:Int)/\ds.length<=4:=by
 have h:(decide (b<=(ds.length:Int))&&decide ((ds.length:Int)<=4))=true:=h
 rw[ο,decide_eq_true_eq,decide_eq_true_eq]at h
 exact⟨h.1,()⟩
theorem yV:∀{n m:Nat}{b:Br},brS b->exN n (xpF m b)<=40->∃b',Wx n (xpF m b) b'
 |0,_,_,_,h=>by rw[exN]at h;omega
 |n+1,0,_,_,h=>by have:=(sP h).1;rw[xpF]at this;cases this
 |n+1,m+1,.leaf w,hb,h=>by
  obtain⟨h1,-⟩:=sP h
  rw[xpF]at h1⊢
  unfold eK at h1⊢
  split at h1
  ·rename_i hd
   rw[Q5 hd]
   have e:eQ w=.int _:=Q5 hd
   rw[e]at h1⊢
   rw[show(Dv.tup [.str (γ "number"),.int ((Ϙ w.cps.toList:Nat):Int)])=.tup (.str yH.1::[.int ((Ϙ w.cps.toList:Nat):Int)])from rfl,bq in5.2.2.2.1,ο]at h1
   have h2:(iT 1000000000000 (.int ((Ϙ w.cps.toList:Nat):Int))&&true)=true:=h1.1
   rw[t9]at h2
   have h2:(decide (0<=((Ϙ w.cps.toList:Nat):Int))&&decide (((Ϙ w.cps.toList:Nat):Int)<1000000000000))=true:=h2
   rw[ο,decide_eq_true_eq,decide_eq_true_eq]at h2
   exact⟨_,by rw[Wx];exact .inl ⟨_,h2.1,(),rfl,rfl⟩⟩
  ·rename_i hd
   rw[Q6 hd]
   rw[show(Dv.tup [.str (γ "name"),.str w])=.tup (.str qu.1::[.str w])from rfl,bq in5.2.2.2.2,ο]at h1
   have h2:(nmB w&&true)=true:=h1.1
   rw[t9]at h2
   exact⟨_,by rw[Wx];exact .inr (.inl ⟨w,h2,rfl,rfl⟩)⟩
 |n+1,m+1,.nd w ts,hb,h=>by
  obtain⟨h1,h2⟩:=sP h
  rw[brS]at hb
  have cs:=cY hb.2.2
  have ih:∀t∈ts,exN n (xpF m t)<=40->∃b',Wx n (xpF m t) b':=λt ht z=>yV (cs t ht) z
  rw[xpF]at h1 h2⊢
  split at h1
  ·rename_i hr
   rw[Q5 hr]at h2⊢
   rw[show Dv.tup (.str (γ "reckon")::.str w::ts.map (xpF m))=.tup (.str iu.1::(.str w::ts.map (xpF m)))from rfl]at h1 h2
   rw[bq in5.2.1,ο]at h1
   rw[parts_of in5.2.1]at h2
   have hl:=nC h1.1
   rw[χ,ς]at hl
   obtain⟨t1,t2,rfl⟩:∃t1 t2,ts=[t1,t2]:=by
    match ts,hl with
    |[t1,t2],_=>exact⟨t1,t2,rfl⟩
   have h2:∀e∈[xpF m t1,xpF m t2],exN n e<=40:=h2
   obtain⟨b1,w1⟩:=ih t1 () (h2 _ ())
   obtain⟨b2,w2⟩:=ih t2 () (h2 _ ())
   exact⟨_,by rw[Wx];exact .inr (.inr (.inr (.inl ⟨w,_,_,b1,b2,hr,w1,w2,rfl,rfl⟩)))⟩
  ·rename_i hr
   rw[Q6 hr]at h2⊢
   have kid:(∀e∈ts.map (xpF m),exN n e<=40)->∃bs,Als (Wx n) (ts.map (xpF m)) bs:=λz=>uV λt ht=>ih t ht (z _ (i4 ht))
   split at h1
   ·rename_i hw
    rw[Q5 hw]at h2⊢
    rw[show Dv.tup [.str (γ "row"),.tup (ts.map (xpF m))]=.tup (.str oF.1::[.tup (ts.map (xpF m))])from rfl]at h1 h2
    rw[bq in5.2.2.1,ο]at h1
    rw[parts_of in5.2.2.1]at h2
    have h2:∀e∈ts.map (xpF m)++[],exN n e<=40:=h2
    rw[Θ]at h2
    have h3:(lL 1 (.tup (ts.map (xpF m)))&&true)=true:=h1.1
    rw[t9]at h3
    obtain⟨f1,f2⟩:=vq h3
    obtain⟨bs,hbs⟩:=kid h2
    exact⟨_,by rw[Wx];exact .inr (.inr (.inr (.inr (.inl ⟨_,bs,(),f2,hbs,rfl,rfl⟩))))⟩
   ·rename_i hw
    rw[Q6 hw]at h2⊢
    cases hf:WT.find? (λp=>decide (p.1=w))with
    |none=>
     rw[hf]at h1 h2
     have h1:dq (.tup (.str gk.1::[.str w,.tup (ts.map (xpF m))]))=true:=h1
     have h2:∀e∈bb (.tup (.str gk.1::[.str w,.tup (ts.map (xpF m))])),exN n e<=40:=h2
     rw[bq in5.1,ο]at h1
     rw[parts_of in5.1]at h2
     have h2:∀e∈[]++(ts.map (xpF m)++[]),exN n e<=40:=h2
     rw[Θ,Ϭ]at h2
     have h3:(tN (.str w)&&(lL 0 (.tup (ts.map (xpF m)))&&true))=true:=h1.1
     rw[t9,ο]at h3
     obtain⟨-,f2⟩:=vq h3.2
     have h4:(nmB w&&(!dO w && !dW w))=true:=h3.1
     simp only[ο,Bool.not_eq_true']at h4
     obtain⟨bs,hbs⟩:=kid h2
     exact⟨_,by rw[Wx];exact .inr (.inr (.inl ⟨w,_,bs,h4.1,h4.2.1,h4.2.2,f2,hbs,rfl,rfl⟩))⟩
    |some p=>
     rw[hf]at h1 h2
     have hp:=G_ hf
     have ew:p.1=w:=by simpa using List.find?_some hf
     have h1:dq (.tup (.str w::e9 (thF (xpF m)) p.2.2 ts))=true:=h1
     have h2:∀e∈bb (.tup (.str w::e9 (thF (xpF m)) p.2.2 ts)),exN n e<=40:=h2
     show ∃b',Wx (n+1) (.tup (.str w::e9 (thF (xpF m)) p.2.2 ts)) b'
     subst ew
     rw[bq hp,ο]at h1
     rw[parts_of hp]at h2
     obtain⟨h1,h3⟩:=h1
     rcases Aj p hp with g|rfl|rfl|rfl|rfl|rfl
     ·obtain⟨bs,hbs⟩:=va (Em p hp g) h1 cs ih h2
      have h4:p.1≠"fold"\/jm (e9 (thF (xpF m)) p.2.2 ts)=true:=by
       rcases Bool.or_eq_true_iff.mp h3 with z|z
       ·exact .inl (Q7 z)
       ·exact .inr z
      exact⟨_,by rw[Wx];exact .inr (.inr (.inr (.inr (.inr ⟨p,_,bs,hp,g,hbs,h4,rfl,rfl⟩))))⟩
     ·match ts,h1 with
      |[],h1=>cases h1
      |t::ts,h1=>
       have h1:(jE .f (xpF m t)&&_)=true:=h1
       rw[(ud m t).2.2]at h1;cases h1
     ·match ts,h1 with
      |[],h1=>cases h1
      |t::ts,h1=>
       have h1:(jE .w (xpF m t)&&_)=true:=h1
       rw[(ud m t).2.1]at h1;cases h1
     ·exact absurd rfl hw
     ·match ts,h1 with
      |[],h1=>cases h1
      |t::ts,h1=>
       have h1:(jE .n (xpF m t)&&_)=true:=h1
       rw[(ud m t).1]at h1;cases h1
     ·match ts,h1 with
      |[],h1=>cases h1
      |t::ts,h1=>
       have h1:(cp (dE t)&&true)=true:=by rw[t9];have h1:(cp (dE t)&&okF [] (e9 (thF (xpF m)) [] ts))=true:=h1;rw[ο]at h1;exact h1.1
       rw[t9]at h1
       obtain⟨y,e,hy⟩:=iS h1
       have h5:Dv.tup (.str qu.1::e9 (thF (xpF m)) qu.2.2 (t::ts))=.tup [.str (γ "name"),.str y]:=by
        show Dv.tup [.str (γ "name"),dE t]=_
        rw[e]
       exact⟨.leaf y,by rw[Wx];exact .inr (.inl ⟨y,hy,h5,rfl⟩)⟩
open PySem L2 KB XB L2.EX WR
abbrev dj:Stmt:=top 64
abbrev dJ:Stmt:=top 67
abbrev eS:Stmt:=top 68
def tF(a b:Sp):Sp:=λvs H Q E=>a vs H Q E\/b vs H Q E
theorem Ej{P:υ}{w:Κ}{K:ζ}{mg:Str->Option ε}{base:Heap}{CX:CXT}{k:Nat}{f:Addr}{fd:Γ}{ps:List Str}{a b:Sp}(F:ap P w K mg base CX k f fd ps a)(G:ap P w K mg base CX k f fd ps b):ap P w K mg base CX k f fd ps (tF a b):=
 ⟨λvs H Q E h=>h.elim (F.len vs H Q E) (G.len vs H Q E),λA outer s H args us vs Q E hr he hb hv h=>h.elim (F.run A outer s H args us vs Q E hr he hb hv) (G.run A outer s H args us vs Q E hr he hb hv)⟩
def TxS(x:Str):Prop:=x.length<=800/\x.cps.toList.count 43<=20
def xk:Sp:=λvs H Q _=>∃x:Str,vs=[.str x]/\TxS x/\∀H' v b,aj H H'->Rep H' (bQ b) v->brS b->cJ b<=20->Q v H'
def vi(G:Str->Dv->Prop):Sp:=λvs H Q _=>∃x:Str,vs=[.str x]/\TxS x/\∀H' v d,aj H H'->Rep H' d v->G x d->Q v H'
structure AO(b:Br):Prop where
 ok:dF b
 s:brS b
 dp:cJ b<=20
 l:bl b<=1000000
def WL(d:Dv)(x:Str):Prop:=∃c ps,d=bA c ps/\x=bU c ps/\Wa c ps
def WK(d:Dv)(x:Str):Prop:=∃k:Kd,d=k.dv/\x=brT (bX k)/\k.All Sm/\k.size<=12
def WLp(d:Dv)(x:Str):Prop:=WL d x/\x.length<=900
def WKp(d:Dv)(x:Str):Prop:=WK d x/\∃b,x=brT b/\AO b/\d=aH 21 b
def WEp(d:Dv)(x:Str):Prop:=WE d x/\∃b,x=brT b/\AO b/\d=xpF 21 b
def GL(x:Str)(d:Dv):Prop:=d=lZ x/\wdS x
def GK(_:Str)(d:Dv):Prop:=∃b,brS b/\d=aH 21 b
def GE(_:Str)(d:Dv):Prop:=∃b,brS b/\d=xpF 21 b
theorem EN{x:Str}{d:Dv}(h:GL x d):d.small=true/\(ib d=true->∃x',WL d x'):=by
 obtain⟨rfl,w⟩:=h
 obtain⟨a,b⟩:=tV w
 refine⟨b,λh=>?_⟩
 obtain⟨c,ps,e,wa⟩:=qy h a
 exact⟨_,c,ps,e,rfl,wa⟩
theorem Fc{x:Str}{d:Dv}(h:GK x d):d.small=true/\(decide (aA d<=12)=true->∃x',WK d x'):=by
 obtain⟨b,hb,rfl⟩:=h
 refine⟨dg hb,λh=>?_⟩
 obtain⟨k,e,ka,z⟩:=mS hb (Q7 h)
 exact⟨_,k,e,rfl,ka,z⟩
theorem ER{x:Str}{d:Dv}(h:GE x d):d.small=true/\(decide (exN 8 d<=40)=true->∃x',WE d x'):=by
 obtain⟨b,hb,rfl⟩:=h
 refine⟨lJ hb,λh=>?_⟩
 have h:=Q7 h
 obtain⟨b',w⟩:=yV hb h
 exact⟨_,b',rfl,w,h⟩
theorem Cb{d:Dv}{x:Str}(h:WK d x):d.small=true/\decide (aA d<=12)=true:=by
 obtain⟨k,rfl,rfl,a,z⟩:=h
 exact⟨fw (cg (λ_ _ h=>h.2) a),Q9 (by rw[fP (cg (λ_ _ h=>h.2) a)];exact z)⟩
theorem DG{d:Dv}{x:Str}(h:WE d x):d.small=true/\decide (exN 8 d<=40)=true:=by
 obtain⟨b,rfl,w,z⟩:=h
 exact⟨(fK w).2,Q9 z⟩
theorem xY{c:Int}{ps:List Pr}(h:Wa c ps):(bA c ps).small=true/\ib (bA c ps)=true:=by
 have g:goD "" (aT ps)=true:=lV h.1.can.1 (λp hp=>h.1.can.ge p hp) h.2 λp hp=>by
  obtain⟨n1,_,_⟩:=cH (h.2 p hp)
  obtain⟨c,r,e⟩:=bu n1
  rw[e]
  exact List.nil_lt_cons _ _
 have l:(ps.map λp=>Dv.tup [.str p.1,.int p.2]).length<=21:=by have:=h.1.len;rw[ς];omega
 refine⟨bR rfl (aX (λd hd=>?_) (ϕ l ())),?_⟩
 ·obtain⟨p,hp,rfl⟩:=Ϡ.mp hd
  have:=(aS (h.2 p hp)).2
  exact bR (br (by show p.1.cps.size<=900;omega)) rfl
 ·show(true&&(decide (0<=c)&&goD "" (aT ps)))=true
  rw[g,Q9 h.1.c0]
  rfl
theorem DB{d:Dv}{x:Str}(h:WL d x):d.small=true/\ib d=true:=by
 obtain⟨c,ps,rfl,rfl,a⟩:=h
 exact xY a
def NoT(W:Dv->Str->Prop)(H:Hp)(v:V):Prop:=(∃d,Rep H d v/\isT d "str"=false)\/∃x,v=.str x/\TxS x/\∀d,¬ W d x
theorem NoT.mono{W:Dv->Str->Prop}{H H':Hp}{v:V}(h:NoT W H v)(s:aj H H'):NoT W H' v:=by
 rcases h with ⟨d,R,e⟩|h
 ·exact .inl ⟨d,R.mono s,e⟩
 ·exact .inr h
def Thr(E:XK)(H:Hp)(C:Addr)(p:V):Prop:=∀(H':Hp)(dx:Addr),aj H H'->H' dx=some (.xd [("place",p)])->E (.ref C) (some dx) H'
def spJ(fr fi fs:Addr)(W Wp:Dv->Str->Prop)(C:Addr):Sp:=λvs H Q E=>∃v0 p:V,vs=[v0,.ref fr,.ref fi,.ref fs,p]/\((∃x d,v0=.str x/\Wp d x/\∀H' v,aj H H'->Rep H' d v->Q v H')\/(NoT W H v0/\Thr E H C p))
def dL(W Wp:Dv->Str->Prop)(C:Addr):Sp:=λvs H Q E=>∃v0:V,vs=[v0]/\((∃x d,v0=.str x/\Wp d x/\∀H' v,aj H H'->Rep H' d v->Q v H')\/(NoT W H v0/\∀(H':Hp)(dx p:Addr),aj H H'->H' dx=some (.xd [("place",.ref p)])->H' p=some (.tup [.int 0,.int 0])->E (.ref C) (some dx) H'))
theorem me{f C g1 g2:Addr}{fd d1 d2:Γ}{k0:Nat}(F:Fun K "branch_of" "branch_of" dB f fd)(T:Txt K mg)(cl:Cls K C)(M_Signs:Mk K C g1)(F_Signs:ap P w K mg base CX0 k0 g1 d1 ["self","text"] (oi C))(B_Signs:aU K d1 ["self","text"] [])(G_Signs:mg "Signs"=some (.ref C))
  (m_branch:lQ K C "branch" g2) (F_branch:ap P w K mg base CX0 (k0+1) g2 d2 ["self","most"] (qk C 21)) (b_branch:aU K d2 ["self","most"] []):ap P w K mg base CX0 (k0+2) f fd ["text"] xk:=by
 refine F.ok gU (λvs H Q E h=>?_) (λcdv A outer s H vs Q E hr h=>?_)
 ·obtain⟨b,rfl,_⟩:=h
  rfl
 obtain⟨y,rfl,ts,q⟩:=h
 have nB:∀(y:Str)(p:Int),ϥ (γ "branch") [(γ "text",V.str y),(γ "at",V.int p)]=none:=jB () ()
 refine⟨_,(@un _ _ _ (wbQ (wbK (waJ (waK M_Signs F_Signs hr rfl G_Signs B_Signs .nil ce (wae (wv 0 rfl) waf rfl) () rfl rfl) cl m_branch F_branch hr b_branch .nil ce (wae ⟨T.g_MOST_BRACKETS rfl⟩ waf rfl) rfl rfl rfl)))),?_⟩
 refine⟨_,rfl,λx dx nx ndx nex=>⟨x,dx,y,rfl,aa,λH1 s1 sg1=>⟨rfl,?_⟩⟩⟩
 obtain⟨dx1,ha1⟩:=id sg1
 refine⟨x,dx1,_,rfl,ha1,nB _ _,x,y,0,20,rfl,sg1,ts.1,ts.2,ϖ _,(),(),λH2 v b j s2 sg2 _ _ R2 bs bd=>?_⟩
 refine q H2 v b (λb o e=>?_) (R2.mono yz) bs ()
 have bx:b≠x:=ao e nx
 have bd:b≠dx:=ao e ndx
 exact s2 b o bx (s1 b o bx (by rw[ai bx,ai bd];exact e))
theorem jH:am ["text"] ["text"] (af dj):=by trivial
theorem iV{f:Addr}{fd:Γ}{k0:Nat}(F:Fun K "kind_of_text" "kind_of_text" dj f fd)(T:Txt K mg)(Dbranch_of:Def P w K mg base k0 "branch_of" ["text"] (tF tm xk))(Dkind_in:Def P w K mg base k0 "kind_in" ["branch"] (gG 21)):ap P w K mg base CX0 (k0+1) f fd ["text"] (tF (rT WKp) (vi GK)):=by
 refine F.ok jH (λvs H Q E h=>?_) (λcdv A outer s H vs Q E hr h=>?_)
 ·rcases h with ⟨x,d,rfl,_⟩|⟨x,rfl,_⟩<;>rfl
 rcases h with ⟨x,d,rfl,⟨_,b,rfl,pb,rfl⟩,q⟩|⟨x,rfl,ts,q⟩
 ·refine⟨_,(@un _ _ _ (wbQ (wbK (waq Dkind_in hr rfl (wae (waq Dbranch_of hr rfl (wae (wv 0 rfl) waf rfl) () rfl rfl) waf rfl) () rfl rfl)))),?_⟩
  exact⟨_,rfl,.inl ⟨b,rfl,pb.ok,pb.dp,pb.l,λH1 v1 s1 R1=>⟨v1,b,rfl,R1,pb.s,by have:=pb.dp;omega,λH2 v2 s2 R2=>q H2 v2 (s1.trans s2) R2⟩⟩⟩
 ·refine⟨_,(@un _ _ _ (wbQ (wbK (waq Dkind_in hr rfl (wae (waq Dbranch_of hr rfl (wae (wv 0 rfl) waf rfl) () rfl rfl) waf rfl) () rfl rfl)))),?_⟩
  exact⟨_,rfl,.inr ⟨x,rfl,ts,λH1 v1 b s1 R1 bs bd=>⟨v1,b,rfl,R1,bs,(),λH2 v2 s2 R2=>q H2 v2 _ (s1.trans s2) R2 ⟨b,bs,rfl⟩⟩⟩⟩
theorem gM{f:Addr}{fd:Γ}{k0:Nat}(F:Fun K "expression_of" "expression_of" cO f fd)(T:Txt K mg)(Dbranch_of:Def P w K mg base k0 "branch_of" ["text"] (tF tm xk))(Dexpression_in:Def P w K mg base k0 "expression_in" ["branch"] (mG 21)):ap P w K mg base CX0 (k0+1) f fd ["text"] (tF (rT WEp) (vi GE)):=by
 refine F.ok iH (λvs H Q E h=>?_) (λcdv A outer s H vs Q E hr h=>?_)
 ·rcases h with ⟨x,d,rfl,_⟩|⟨x,rfl,_⟩<;>rfl
 rcases h with ⟨x,d,rfl,⟨_,b,rfl,pb,rfl⟩,q⟩|⟨x,rfl,ts,q⟩
 ·refine⟨_,(@un _ _ _ (wbQ (wbK (waq Dexpression_in hr rfl (wae (waq Dbranch_of hr rfl (wae (wv 0 rfl) waf rfl) () rfl rfl) waf rfl) () rfl rfl)))),?_⟩
  exact⟨_,rfl,.inl ⟨b,rfl,pb.ok,pb.dp,pb.l,λH1 v1 s1 R1=>⟨v1,b,rfl,R1,pb.s,by have:=pb.dp;omega,(),λH2 v2 s2 R2=>q H2 v2 (s1.trans s2) R2⟩⟩⟩
 ·refine⟨_,(@un _ _ _ (wbQ (wbK (waq Dexpression_in hr rfl (wae (waq Dbranch_of hr rfl (wae (wv 0 rfl) waf rfl) () rfl rfl) waf rfl) () rfl rfl)))),?_⟩
  exact⟨_,rfl,.inr ⟨x,rfl,ts,λH1 v1 b s1 R1 bs bd=>⟨v1,b,rfl,R1,bs,(),(),λH2 v2 s2 R2=>q H2 v2 _ (s1.trans s2) R2 ⟨b,bs,rfl⟩⟩⟩⟩
theorem CS{f:Addr}{fd:Γ}{k:Nat}{ps:List Str}(F:ap P w K mg base CX0 k f fd ps sN):ap P w K mg base CX0 k f fd ps (tF (rT WLp) (vi GL)):=F.imp λvs H Q E h=>by
 rcases h with ⟨x,d,rfl,⟨⟨c,ps,rfl,rfl,wa⟩,l9⟩,q⟩|⟨x,rfl,ts,q⟩
 ·exact⟨_,rfl,l9,λH' v s R=>q H' v s (by rw[ie wa]at R;exact R)⟩
 ·have:=ts.1
  exact⟨x,rfl,(),λH' v s R=>q H' v _ s R ⟨rfl,(),ts.2⟩⟩
theorem eY{f fr fi fs D fI aNoWords:Addr}{fd dr di ds fdI:Γ}{pr pi pz psI:List Str}{k0:Nat}{W Wp:Dv->Str->Prop}{G:Str->Dv->Prop}{oneD:Dv->Bool}(F:Fun K "just_so" "just_so" iG f fd)(T:Txt K mg)(c_NoWords:iL K D fI aNoWords)(G_NoWords:mg "NoWords"=some (.ref aNoWords))(FI:ap P w K mg base CX0 k0 fI fdI psI (oK K D fI))(BI:aU K fdI psI [])
  (hG:∀{x d},G x d->d.small=true/\(oneD d=true->∃x',W d x')) (hW:∀{d x},W d x->d.small=true/\oneD d=true) (hp:∀{d x},Wp d x->W d x)
  (FV_reader:ap P w K mg base CX0 (k0+1) fr dr pr (tF (rT Wp) (vi G))) (KV_reader:ϒ K (.ref fr)=true) (BV_reader:aU K dr pr [])
  (FV_is_one:ap P w K mg base CX0 (k0+1) fi di pi (spS oneD)) (KV_is_one:ϒ K (.ref fi)=true) (BV_is_one:aU K di pi []) (FV_shower:ap P w K mg base CX0 (k0+1) fs ds pz (zZ W)) (KV_shower:ϒ K (.ref fs)=true) (BV_shower:aU K ds pz []):
  ap P w K mg base (CXe P w) (k0+2) f fd ["text","reader","is_one","shower","place"] (spJ fr fi fs W Wp aNoWords):=by
 have nd:=kQ.nd
 refine okX F kQ (λvs H Q E h=>?_) (λcdv A outer s H vs Q E hr h=>?_)
 ·obtain⟨v0,p,rfl,_⟩:=h
  rfl
 obtain⟨v0,p,rfl,h⟩:=h
 refine⟨_,(@un _ _ _ (wbO (wbI (wbV (wal bK rfl T.isinstance () (wae (wv 0 rfl) (wae (wai (.ty "str") rfl T.str () rfl () ()) waf rfl) rfl) () () rfl rfl) ()) (wbO (wbM 5 nd rfl (Ν rfl) (wan 1 FV_reader hr KV_reader BV_reader (wae (wv 0 rfl) waf rfl) rfl () () () rfl rfl) rfl ()) (wbQ (wbI (wab (wbW (wbV (wan 2 FV_is_one hr KV_is_one BV_is_one (wae (wv 5 rfl) waf rfl) rfl () () () rfl rfl) ()) (wbX (wbS aE (wan 3 FV_shower hr KV_shower BV_shower (wae (wv 5 rfl) waf rfl) rfl () () () rfl rfl) (wv 0 rfl) (ak _))))) (wbQ (wbK (wv 5 rfl))) wbP))) wbP) (wbQ (wca c_NoWords FI hr BI rfl G_NoWords wm (wae (wv 4 rfl) waf rfl) () rfl rfl)))),?_⟩
 have rs:∀{H1:Hp},aj H H1->Thr E H aNoWords p->∀dx,H1 dx=none->E (.ref aNoWords) (some dx) (upd H1 dx (.xd [("place",p)])):=λs1 t dx hd=>t _ dx (s1.trans (ac hd _)) aa
 rcases h with ⟨x,d,rfl,wp,q⟩|⟨⟨d,R,e⟩|⟨x,rfl,ts,no⟩,t⟩
 ·obtain⟨sm,o1⟩:=hW (hp wp)
  refine⟨_,rfl,_,_,_,_,rfl,gc.str x,fE K (.str x),?_⟩
  rw[Fb]
  refine⟨_,rfl,aD ?_⟩
  refine⟨rfl,_,rfl,.inl ⟨x,d,rfl,wp,λH1 v1 s1 R1=>?_⟩⟩
  refine gnm ?_
  refine⟨rfl,_,rfl,v1,d,rfl,R1,sm,λH2 s2=>?_⟩
  rw[o1]
  refine⟨_,rfl,aD ?_⟩
  refine⟨rfl,_,rfl,v1,x,d,rfl,R1.mono s2,hp wp,λH3 s3=>⟨_,rfl,rfl,_,rfl,av (λ_=>?_) (λh=>absurd (Q9 rfl) h)⟩⟩
  exact⟨_,rfl,q H3 v1 (s1.trans (s2.trans s3)) (R1.mono (s2.trans s3))⟩
 ·refine⟨_,rfl,_,_,_,_,rfl,R.ty,fE K d,?_⟩
  rw[e]
  exact⟨_,rfl,aI ⟨_,rfl,_,rfl,rs (aj.refl _) t⟩⟩
 ·refine⟨_,rfl,_,_,_,_,rfl,gc.str x,fE K (.str x),?_⟩
  rw[Fb]
  refine⟨_,rfl,aD ?_⟩
  refine⟨rfl,_,rfl,.inr ⟨x,rfl,ts,λH1 v1 d s1 R1 g=>?_⟩⟩
  obtain⟨sm,o1⟩:=hG g
  refine gnm ?_
  refine⟨rfl,_,rfl,v1,d,rfl,R1,sm,λH2 s2=>?_⟩
  cases ho:oneD d with
  |false=>exact⟨_,rfl,aI ⟨_,rfl,_,rfl,rs (s1.trans s2) t⟩⟩
  |true=>
   obtain⟨x',wx⟩:=o1 ho
   refine⟨_,rfl,aD ?_⟩
   refine⟨rfl,_,rfl,v1,x',d,rfl,R1.mono s2,wx,λH3 s3=>⟨_,rfl,rfl,_,rfl,av (λh=>?_) (λ_=>⟨_,rfl,_,rfl,rs (s1.trans (s2.trans s3)) t⟩)⟩⟩
   have:=V.str.inj (Q7 h)
   exact absurd (this▸wx) (no d)
theorem jX:am ["text"] ["text"] (af dJ):=by trivial
theorem jF{f flength_of fis_length fshow_length aNoWords:Addr}{fd:Γ}{k0:Nat}(F:Fun K "read_length" "read_length" dJ f fd)(T:Txt K mg)(Djust_so:ya P w K mg base k0 "just_so" ["text","reader","is_one","shower","place"] (spJ flength_of fis_length fshow_length WL WLp aNoWords))(Glength_of:mg "length_of"=some (.ref flength_of))(Gis_length:mg "is_length"=some (.ref fis_length))(Gshow_length:mg "show_length"=some (.ref fshow_length)):ap P w K mg base (CXe P w) (k0+1) f fd ["text"] (dL WL WLp aNoWords):=by
 refine okX F jX (λvs H Q E h=>?_) (λcdv A outer s H vs Q E hr h=>?_)
 ·obtain⟨v0,rfl,_⟩:=h
  rfl
 obtain⟨v0,rfl,h⟩:=h
 refine⟨_,(@un _ _ _ (wbQ (wbK (wcb Djust_so hr rfl (wae (wv 0 rfl) (wae (waB (.ref flength_of) rfl Glength_of rfl ()) (wae (waB (.ref fis_length) rfl Gis_length rfl ()) (wae (waB (.ref fshow_length) rfl Gshow_length rfl ()) (wae (waX (wae waC (wae waC waf rfl) rfl)) waf rfl) rfl) rfl) rfl) rfl) () rfl rfl)))),?_⟩
 refine⟨_,rfl,z2,λt ht=>⟨v0,.ref t,rfl,?_⟩⟩
 have st:=ac ht (.tup [.int 0,.int 0])
 rcases h with ⟨x,d,rfl,wp,q⟩|⟨no,q⟩
 ·exact .inl ⟨x,d,rfl,wp,λH1 v s1 R1=>q H1 v (st.trans s1) R1⟩
 ·exact .inr ⟨no.mono st,λH1 dx s1 h1=>q H1 dx t (st.trans s1) h1 (s1 _ _ aa)⟩
theorem oG:am ["text"] ["text"] (af eS):=by trivial
theorem ml{f fkind_of_text fis_kind fshow_kind aNoWords:Addr}{fd:Γ}{k0:Nat}(F:Fun K "read_kind" "read_kind" eS f fd)(T:Txt K mg)(Djust_so:ya P w K mg base k0 "just_so" ["text","reader","is_one","shower","place"] (spJ fkind_of_text fis_kind fshow_kind WK WKp aNoWords))(Gkind_of_text:mg "kind_of_text"=some (.ref fkind_of_text))(Gis_kind:mg "is_kind"=some (.ref fis_kind))(Gshow_kind:mg "show_kind"=some (.ref fshow_kind)):ap P w K mg base (CXe P w) (k0+1) f fd ["text"] (dL WK WKp aNoWords):=by
 refine okX F oG (λvs H Q E h=>?_) (λcdv A outer s H vs Q E hr h=>?_)
 ·obtain⟨v0,rfl,_⟩:=h
  rfl
 obtain⟨v0,rfl,h⟩:=h
 refine⟨_,(@un _ _ _ (wbQ (wbK (wcb Djust_so hr rfl (wae (wv 0 rfl) (wae (waB (.ref fkind_of_text) rfl Gkind_of_text rfl ()) (wae (waB (.ref fis_kind) rfl Gis_kind rfl ()) (wae (waB (.ref fshow_kind) rfl Gshow_kind rfl ()) (wae (waX (wae waC (wae waC waf rfl) rfl)) waf rfl) rfl) rfl) rfl) rfl) () rfl rfl)))),?_⟩
 refine⟨_,rfl,z2,λt ht=>⟨v0,.ref t,rfl,?_⟩⟩
 have st:=ac ht (.tup [.int 0,.int 0])
 rcases h with ⟨x,d,rfl,wp,q⟩|⟨no,q⟩
 ·exact .inl ⟨x,d,rfl,wp,λH1 v s1 R1=>q H1 v (st.trans s1) R1⟩
 ·exact .inr ⟨no.mono st,λH1 dx s1 h1=>q H1 dx t (st.trans s1) h1 (s1 _ _ aa)⟩
theorem gf{f fexpression_of fis_expression fshow_expression aNoWords:Addr}{fd:Γ}{k0:Nat}(F:Fun K "read_expression" "read_expression" cf f fd)(T:Txt K mg)(Djust_so:ya P w K mg base k0 "just_so" ["text","reader","is_one","shower","place"] (spJ fexpression_of fis_expression fshow_expression WE WEp aNoWords))(Gexpression_of:mg "expression_of"=some (.ref fexpression_of))(Gis_expression:mg "is_expression"=some (.ref fis_expression))(Gshow_expression:mg "show_expression"=some (.ref fshow_expression)):ap P w K mg base (CXe P w) (k0+1) f fd ["text"] (dL WE WEp aNoWords):=by
 refine okX F gr (λvs H Q E h=>?_) (λcdv A outer s H vs Q E hr h=>?_)
 ·obtain⟨v0,rfl,_⟩:=h
  rfl
 obtain⟨v0,rfl,h⟩:=h
 refine⟨_,(@un _ _ _ (wbQ (wbK (wcb Djust_so hr rfl (wae (wv 0 rfl) (wae (waB (.ref fexpression_of) rfl Gexpression_of rfl ()) (wae (waB (.ref fis_expression) rfl Gis_expression rfl ()) (wae (waB (.ref fshow_expression) rfl Gshow_expression rfl ()) (wae (waX (wae waC (wae waC waf rfl) rfl)) waf rfl) rfl) rfl) rfl) rfl) () rfl rfl)))),?_⟩
 refine⟨_,rfl,z2,λt ht=>⟨v0,.ref t,rfl,?_⟩⟩
 have st:=ac ht (.tup [.int 0,.int 0])
 rcases h with ⟨x,d,rfl,wp,q⟩|⟨no,q⟩
 ·exact .inl ⟨x,d,rfl,wp,λH1 v s1 R1=>q H1 v (st.trans s1) R1⟩
 ·exact .inr ⟨no.mono st,λH1 dx s1 h1=>q H1 dx t (st.trans s1) h1 (s1 _ _ aa)⟩
theorem DC{f:Addr}{fd:Γ}{k:Nat}{ps:List Str}(F:ap P w K mg base CX0 k f fd ps vV):ap P w K mg base CX0 k f fd ps (zZ WL):=F.imp λvs H Q E h=>by
 obtain⟨v,x,d,rfl,R,⟨c,qs,rfl,rfl,wa⟩,q⟩:=h
 exact⟨v,c,qs,rfl,R,wa.1,q⟩
theorem Ab{f:Addr}{fd:Γ}{k:Nat}{ps:List Str}(F:ap P w K mg base CX0 k f fd ps (qi 12)):ap P w K mg base CX0 k f fd ps (zZ WK):=F.imp λvs H Q E h=>by
 obtain⟨v,x,d,rfl,R,⟨k,rfl,rfl,a,z⟩,q⟩:=h
 exact⟨v,k,rfl,R,z,θ _,cg (λ_ _ h=>h.1.1) a,λH' s=>by rw[<-fg];exact q H' s⟩
theorem px{f aNoWords:Addr}{fd:Γ}{k:Nat}{ps:List Str}{W Wp:Dv->Str->Prop}(F:ap P w K mg base (CXe P w) k f fd ps (dL W Wp aNoWords)):ap P w K mg base CX0 k f fd ps (rT Wp):=zm F λvs H Q E h=>by
 obtain⟨x,d,rfl,wp,q⟩:=h
 exact⟨_,rfl,.inl ⟨x,d,rfl,wp,q⟩⟩
abbrev fU:Stmt:=pS (top 1) 0
abbrev jO:Stmt:=top 77
abbrev fQ:Stmt:=top 78
structure Cv(K:ζ)(mg:Str->Option ε)(D fI aNoProgram aTwice aNoBind aNoName aUnlike aParts aTooGreat aTooLong aNoValue aNoWords aNoLine:Addr):Prop where
 top:DT K D
 gD:mg "IndexwiseError"=some (.ref D)
 cW:iL K D fI aNoWords
 oth:∀b∈[aNoProgram,aTwice,aNoBind,aNoName,aUnlike,aParts,aTooGreat,aTooLong,aNoValue,aNoLine],Dd K D b/\decide (b=aNoWords)=false
 gNoProgram:mg "NoProgram"=some (.ref aNoProgram)
 gTwice:mg "Twice"=some (.ref aTwice)
 gNoBind:mg "NoBind"=some (.ref aNoBind)
 gNoName:mg "NoName"=some (.ref aNoName)
 gUnlike:mg "Unlike"=some (.ref aUnlike)
 gParts:mg "Parts"=some (.ref aParts)
 gTooGreat:mg "TooGreat"=some (.ref aTooGreat)
 gTooLong:mg "TooLong"=some (.ref aTooLong)
 gNoValue:mg "NoValue"=some (.ref aNoValue)
 gNoWords:mg "NoWords"=some (.ref aNoWords)
 gNoLine:mg "NoLine"=some (.ref aNoLine)
theorem zle{n m:Nat}(h:n<=m)(hm:m<=1000):n<=sizeLine:=by rw[τ];omega
def Ed:Dv:=.tup [.bl true,.tup [.int 0,.int 0]]
def DX(aNoWords e:Addr):Sp:=λvs H Q _=>∃(dx p:Addr),vs=[.ref e]/\H e=some (Xh aNoWords dx e)/\H dx=some (.xd [("place",.ref p)])/\H p=some (.tup [.int 0,.int 0])/\∀H' v,aj H H'->Rep H' Ed v->Q v H'
def NoW(H:Hp)(i:Int)(v:V):Prop:=(i=0/\NoT WL H v)\/(i=1/\NoT WK H v)\/(i=2/\NoT WE H v)
def Bf:Sp:=λvs H Q _=>∃(i:Int) (v:V),vs=[.int i,v]/\NoW H i v/\∀H',aj H H'->Q (.bl true) H'
theorem pk{H:Hp}:∀(xs:List Bool),Reps H (xs.map Dv.bl) (xs.map V.bl)
 |[]=>by simp[Reps]
 |x::xs=>by simp only[Μ,Reps];exact⟨_,_,rfl,by simp only[Rep],pk xs⟩
theorem Fo:∀i:Nat,i<12->([true,true,false,false,false,false,false,false,false,false,false,false]:List Bool).take (i+1)=([true,true,false,false,false,false,false,false,false,false,false,false]:List Bool).take i++[decide ((i:Int)<2)]:=by decide
theorem rd3{a:Addr}{N:Hp->Prop}{E:XK}{σ:St}{H:Hp}{i:Int}{v:V}(h0:σ[0]?=some (some (.int i)))(h1:σ[1]?=some (some v))(no:NoW H i v)(k:∀(H':Hp)(dx p:Addr),aj H H'->H' dx=some (.xd [("place",.ref p)])->H' p=some (.tup [.int 0,.int 0])->E (.ref a) (some dx) H'):
  bIf (vL (tOp rEq (fY 0) (tC (.int 0)))) (uM (dL WL WLp a) (gi (fY 1) kj)) (bIf (vL (tOp rEq (fY 0) (tC (.int 1)))) (uM (dL WK WKp a) (gi (fY 1) kj)) (uM (dL WE WEp a) (gi (fY 1) kj))) N E σ H:=by
 rcases no with ⟨rfl,no⟩|⟨rfl,no⟩|⟨rfl,no⟩
 ·exact⟨_,h0,rfl,_,rfl,av (λ_=>⟨_,h1,v,rfl,.inr ⟨no,k⟩⟩) (λh=>absurd (Q9 rfl) h)⟩
 ·exact⟨_,h0,rfl,_,rfl,av (λh=>absurd (Q7 h) ()) (λ_=>⟨_,h0,rfl,_,rfl,av (λ_=>⟨_,h1,v,rfl,.inr ⟨no,k⟩⟩) (λh=>absurd (Q9 rfl) h)⟩)⟩
 ·exact⟨_,h0,rfl,_,rfl,av (λh=>absurd (Q7 h) ()) (λ_=>⟨_,h0,rfl,_,rfl,av (λh=>absurd (Q7 h) ()) (λ_=>⟨_,h1,v,rfl,.inr ⟨no,k⟩⟩)⟩)⟩
theorem xu:am ["self","place"] ["self","place"] (af fU):=by trivial
theorem xq{D fI:Addr}{fd:Γ}{dV:ε}(F:wo K "__init__" "IndexwiseError.__init__" fU fI fd dV)(T:Txt K mg):ap P w K mg base CX0 1 fI fd ["self","place"] (oK K D fI):=by
 refine F.ok xu (λvs H Q E h=>?_) (λcdv A outer s H vs Q E hr h=>?_)
 ·obtain⟨e,C,t,v,rfl,_⟩:=h
  rfl
 obtain⟨e,C,t,v,rfl,he,c,q⟩:=h
 refine⟨_,(@un _ _ _ (wbO (wbG (wcd D fI rfl T.ValueError () (wae (wv 0 rfl) (wae (wv 1 rfl) waf rfl) rfl) rfl rfl rfl) rfl) (wbQ (wce D fI (wv 0 rfl) (wv 1 rfl) rfl)))),?_⟩
 refine⟨_,rfl,_,rfl,e,C,t,v,rfl,he,c,λt'=>⟨_,rfl,_,rfl,e,C,t',rfl,aa,c,λdx hd hne=>?_⟩⟩
 have hd':H dx=none:=by rw[ai hne]at hd;exact hd
 have z:=q dx t' hd' hne
 have y:upd (upd (upd H e (Xr C t' e)) dx (.xd [("place",v)])) e (Xo C t' dx e)=upd (upd H dx (.xd [("place",v)])) e (Xo C t' dx e):=by
  funext b
  by_cases hb:b=e
  ·rw[hb,aa,aa]
  ·rw[ai hb,ai hb]
   by_cases hx:b=dx
   ·rw[hx,aa,aa]
   ·rw[ai hx,ai hx,ai hb]
 show Q .non (upd (upd (upd H e (Xr C t' e)) dx (.xd [("place",v)])) e (Xo C t' dx e))
 rw[y];exact z
theorem qM:am ["_law_e","_law_some"] ["_law_e"] (af jO):=by trivial
theorem yq{f D fI aNoProgram aTwice aNoBind aNoName aUnlike aParts aTooGreat aTooLong aNoValue aNoWords aNoLine eH:Addr}{fd:Γ}{k:Nat}(F:Fun K "_law_marks" "_law_marks" jO f fd)(T:Txt K mg)(Er:Cv K mg D fI aNoProgram aTwice aNoBind aNoName aUnlike aParts aTooGreat aTooLong aNoValue aNoWords aNoLine):
  FnH P w K mg base eH (k+1) f fd ["_law_e"] (DX aNoWords eH):=by
 have nd:=qM.nd
 have G_NoProgram:=Er.gNoProgram
 have G_Twice:=Er.gTwice
 have G_NoBind:=Er.gNoBind
 have G_NoName:=Er.gNoName
 have G_Unlike:=Er.gUnlike
 have G_Parts:=Er.gParts
 have G_TooGreat:=Er.gTooGreat
 have G_TooLong:=Er.gTooLong
 have G_NoValue:=Er.gNoValue
 have G_NoWords:=Er.gNoWords
 have G_NoLine:=Er.gNoLine
 refine okH F qM (λvs H Q E h=>?_) (λcdv A outer s H vs Q E hr h=>?_)
 ·obtain⟨dx,p,rfl,_⟩:=h
  rfl
 obtain⟨dx,p,rfl,hX,hdx,hp,q⟩:=h
 have hH:=hr.hd
 have hu8:(A.deeper (C6 "_law_marks" (af jO) s.heap.objs.size f cdv)).units+8<cLine:=by have:=hr.un;omega
 refine⟨_,(@un _ _ _ (wbO (wbM 1 nd rfl (Ν rfl) (waM (wae (wal (bg (D:=D) (fI:=fI)) rfl T.isinstance () (wae (wv 0 rfl) (wae (waB (.ref aNoWords) rfl G_NoWords rfl ()) waf rfl) rfl) () () rfl rfl) (wae (wal (bg (D:=D) (fI:=fI)) rfl T.isinstance () (wae (wv 0 rfl) (wae (wai (.ty "ValueError") rfl T.ValueError () rfl () ()) waf rfl) rfl) () () rfl rfl) (wae (wal (bg (D:=D) (fI:=fI)) rfl T.isinstance () (wae (wv 0 rfl) (wae (waB (.ref aNoProgram) rfl G_NoProgram rfl ()) waf rfl) rfl) () () rfl rfl) (wae (wal (bg (D:=D) (fI:=fI)) rfl T.isinstance () (wae (wv 0 rfl) (wae (waB (.ref aTwice) rfl G_Twice rfl ()) waf rfl) rfl) () () rfl rfl) waf rfl) rfl) rfl) rfl)) rfl ()) (wbO (wbM 1 nd rfl (Ν rfl) (waQ aQ (wv 1 rfl) (waM (wae (wal (bg (D:=D) (fI:=fI)) rfl T.isinstance () (wae (wv 0 rfl) (wae (waB (.ref aNoBind) rfl G_NoBind rfl ()) waf rfl) rfl) () () rfl rfl) (wae (wal (bg (D:=D) (fI:=fI)) rfl T.isinstance () (wae (wv 0 rfl) (wae (waB (.ref aNoName) rfl G_NoName rfl ()) waf rfl) rfl) () () rfl rfl) (wae (wal (bg (D:=D) (fI:=fI)) rfl T.isinstance () (wae (wv 0 rfl) (wae (waB (.ref aUnlike) rfl G_Unlike rfl ()) waf rfl) rfl) () () rfl rfl) (wae (wal (bg (D:=D) (fI:=fI)) rfl T.isinstance () (wae (wv 0 rfl) (wae (waB (.ref aParts) rfl G_Parts rfl ()) waf rfl) rfl) () () rfl rfl) waf rfl) rfl) rfl) rfl))) rfl ()) (wbO (wbM 1 nd rfl (Ν rfl) (waQ aQ (wv 1 rfl) (waM (wae (wal (bg (D:=D) (fI:=fI)) rfl T.isinstance () (wae (wv 0 rfl) (wae (waB (.ref aTooGreat) rfl G_TooGreat rfl ()) waf rfl) rfl) () () rfl rfl) (wae (wal (bg (D:=D) (fI:=fI)) rfl T.isinstance () (wae (wv 0 rfl) (wae (waB (.ref aTooLong) rfl G_TooLong rfl ()) waf rfl) rfl) () () rfl rfl) (wae (wal (bg (D:=D) (fI:=fI)) rfl T.isinstance () (wae (wv 0 rfl) (wae (waB (.ref aNoValue) rfl G_NoValue rfl ()) waf rfl) rfl) () () rfl rfl) (wae (wal (bg (D:=D) (fI:=fI)) rfl T.isinstance () (wae (wv 0 rfl) (wae (waB (.ref aNoLine) rfl G_NoLine rfl ()) waf rfl) rfl) () () rfl rfl) waf rfl) rfl) rfl) rfl))) rfl ()) (wbQ (wbK (waX (wae (wap (zK hu8) (wv 1 rfl) ⟨Ck (a:=eH) (own:=["_law_k"]) (ix:=[]) (wD rfl T.range (pa_cons pe_int pa_nil)) (.of rfl) hH (λ_ _ _=>pg_name (i:=0) (bZ (l:=["_law_k"]) (()) rfl) rfl (Ν rfl)) (bF ()) (λ_ _ _=>pif_nil) (λ_ _ _=>(pe_cmpR qw (pv 0) pe_int (ak _)))⟩ (ak _)) (wae (wcf D fI (wv 0 rfl) rfl) waf rfl) rfl)))))))),?_⟩
 refine⟨_,rfl,eH,_,dx,_,rfl,hX,Er.cW,.inl ⟨_,_,rfl,Er.cW.sub,Q9 rfl,⟨_,rfl,eH,_,dx,_,rfl,hX,Er.cW,.inr ⟨rfl,⟨_,rfl,eH,_,dx,_,rfl,hX,Er.cW,.inl ⟨_,_,rfl,(Er.oth aNoProgram ()).1,(Er.oth aNoProgram ()).2,⟨_,rfl,eH,_,dx,_,rfl,hX,Er.cW,.inl ⟨_,_,rfl,(Er.oth aTwice ()).1,(Er.oth aTwice ()).2,⟨zle (θ 4) (),λq1 n1=>?_⟩⟩⟩⟩⟩⟩⟩⟩⟩
 have t1:=ac n1 (.lst [.bl true,.bl true,.bl false,.bl false])
 have hX:=t1 _ _ hX
 have w1:upd H q1 (.lst [.bl true,.bl true,.bl false,.bl false]) q1=some (.lst [.bl true,.bl true,.bl false,.bl false]):=aa
 have hdx:=t1 _ _ hdx
 have hp:=t1 _ _ hp
 generalize upd H q1 (.lst [.bl true,.bl true,.bl false,.bl false])=H1 at t1 hX hdx hp w1⊢
 refine⟨_,rfl,⟨_,rfl,eH,_,dx,_,rfl,hX,Er.cW,.inl ⟨_,_,rfl,(Er.oth aNoBind ()).1,(Er.oth aNoBind ()).2,⟨_,rfl,eH,_,dx,_,rfl,hX,Er.cW,.inl ⟨_,_,rfl,(Er.oth aNoName ()).1,(Er.oth aNoName ()).2,⟨_,rfl,eH,_,dx,_,rfl,hX,Er.cW,.inl ⟨_,_,rfl,(Er.oth aUnlike ()).1,(Er.oth aUnlike ()).2,⟨_,rfl,eH,_,dx,_,rfl,hX,Er.cW,.inl ⟨_,_,rfl,(Er.oth aParts ()).1,(Er.oth aParts ()).2,⟨zle (θ 4) (),λq2 n2=>?_⟩⟩⟩⟩⟩⟩⟩⟩⟩⟩
 have t2:=ac n2 (.lst [.bl false,.bl false,.bl false,.bl false])
 refine⟨q1,q2,_,_,rfl,rfl,t2 _ _ w1,aa,zle (θ 8) (),λq3 n3=>?_⟩
 have t3:=t2.trans (ac n3 (.lst [.bl true,.bl true,.bl false,.bl false,.bl false,.bl false,.bl false,.bl false]))
 have hX:=t3 _ _ hX
 have hdx:=t3 _ _ hdx
 have hp:=t3 _ _ hp
 have w3:upd (upd H1 q2 (.lst [.bl false,.bl false,.bl false,.bl false])) q3 (.lst ([.bl true,.bl true,.bl false,.bl false]++[.bl false,.bl false,.bl false,.bl false])) q3=some (.lst [.bl true,.bl true,.bl false,.bl false,.bl false,.bl false,.bl false,.bl false]):=aa
 replace t3:aj H1 (upd (upd H1 q2 (.lst [.bl false,.bl false,.bl false,.bl false])) q3 (.lst ([.bl true,.bl true,.bl false,.bl false]++[.bl false,.bl false,.bl false,.bl false]))):=t3
 replace hX:upd (upd H1 q2 (.lst [.bl false,.bl false,.bl false,.bl false])) q3 (.lst ([.bl true,.bl true,.bl false,.bl false]++[.bl false,.bl false,.bl false,.bl false])) eH=some (Xh aNoWords dx eH):=hX
 replace hdx:upd (upd H1 q2 (.lst [.bl false,.bl false,.bl false,.bl false])) q3 (.lst ([.bl true,.bl true,.bl false,.bl false]++[.bl false,.bl false,.bl false,.bl false])) dx=_:=hdx
 replace hp:upd (upd H1 q2 (.lst [.bl false,.bl false,.bl false,.bl false])) q3 (.lst ([.bl true,.bl true,.bl false,.bl false]++[.bl false,.bl false,.bl false,.bl false])) p=_:=hp
 generalize upd (upd H1 q2 (.lst [.bl false,.bl false,.bl false,.bl false])) q3 (.lst ([.bl true,.bl true,.bl false,.bl false]++[.bl false,.bl false,.bl false,.bl false]))=H3 at t3 hX hdx hp w3⊢
 refine⟨_,rfl,⟨_,rfl,eH,_,dx,_,rfl,hX,Er.cW,.inl ⟨_,_,rfl,(Er.oth aTooGreat ()).1,(Er.oth aTooGreat ()).2,⟨_,rfl,eH,_,dx,_,rfl,hX,Er.cW,.inl ⟨_,_,rfl,(Er.oth aTooLong ()).1,(Er.oth aTooLong ()).2,⟨_,rfl,eH,_,dx,_,rfl,hX,Er.cW,.inl ⟨_,_,rfl,(Er.oth aNoValue ()).1,(Er.oth aNoValue ()).2,⟨_,rfl,eH,_,dx,_,rfl,hX,Er.cW,.inl ⟨_,_,rfl,(Er.oth aNoLine ()).1,(Er.oth aNoLine ()).2,⟨zle (θ 4) (),λq4 n4=>?_⟩⟩⟩⟩⟩⟩⟩⟩⟩⟩
 have t4:=ac n4 (.lst [.bl false,.bl false,.bl false,.bl false])
 refine⟨q3,q4,_,_,rfl,rfl,t4 _ _ w3,aa,zle (θ 12) (),λq5 n5=>?_⟩
 have t5:=t4.trans (ac n5 (.lst [.bl true,.bl true,.bl false,.bl false,.bl false,.bl false,.bl false,.bl false,.bl false,.bl false,.bl false,.bl false]))
 have hX:=t5 _ _ hX
 have hdx:=t5 _ _ hdx
 have hp:=t5 _ _ hp
 have w5:upd (upd H3 q4 (.lst [.bl false,.bl false,.bl false,.bl false])) q5 (.lst ([.bl true,.bl true,.bl false,.bl false,.bl false,.bl false,.bl false,.bl false]++[.bl false,.bl false,.bl false,.bl false])) q5=some (.lst ([true,true,false,false,false,false,false,false,false,false,false,false].map V.bl)):=aa
 replace t5:aj H3 (upd (upd H3 q4 (.lst [.bl false,.bl false,.bl false,.bl false])) q5 (.lst ([.bl true,.bl true,.bl false,.bl false,.bl false,.bl false,.bl false,.bl false]++[.bl false,.bl false,.bl false,.bl false]))):=t5
 replace hX:upd (upd H3 q4 (.lst [.bl false,.bl false,.bl false,.bl false])) q5 (.lst ([.bl true,.bl true,.bl false,.bl false,.bl false,.bl false,.bl false,.bl false]++[.bl false,.bl false,.bl false,.bl false])) eH=some (Xh aNoWords dx eH):=hX
 replace hdx:upd (upd H3 q4 (.lst [.bl false,.bl false,.bl false,.bl false])) q5 (.lst ([.bl true,.bl true,.bl false,.bl false,.bl false,.bl false,.bl false,.bl false]++[.bl false,.bl false,.bl false,.bl false])) dx=_:=hdx
 replace hp:upd (upd H3 q4 (.lst [.bl false,.bl false,.bl false,.bl false])) q5 (.lst ([.bl true,.bl true,.bl false,.bl false,.bl false,.bl false,.bl false,.bl false]++[.bl false,.bl false,.bl false,.bl false])) p=_:=hp
 generalize upd (upd H3 q4 (.lst [.bl false,.bl false,.bl false,.bl false])) q5 (.lst ([.bl true,.bl true,.bl false,.bl false,.bl false,.bl false,.bl false,.bl false]++[.bl false,.bl false,.bl false,.bl false]))=H5 at t5 hX hdx hp w5⊢
 refine⟨_,rfl,?_⟩
 refine⟨12,aNoWords,dx,rfl,(),(),ms (n:=12) (λi ys H'=>H'=H5/\ys=(([true,true,false,false,false,false,false,false,false,false,false,false]:List Bool).take i).map V.bl) ⟨rfl,rfl⟩ (λi ys H' hi z=>⟨hi,by rw[z.1];exact hX⟩) (λys H' z=>⟨θ _,by rw[z.1];exact hX⟩) ?_ ?_⟩
 ·rintro i ys H' x H6 hi ⟨rfl,rfl⟩ ⟨rfl,rfl⟩
  refine bP ⟨_,rfl,_,_,rfl,rfl,?_,rfl,?_⟩
  ·rw[ς,Ϗ,τ]
   show min i 12<_
   omega
  ·rw[Fo i hi,ϊ]
   rfl
 ·rintro ys H' ⟨rfl,rfl⟩ q6 n6
  have t6:=ac n6 (.lst ((([true,true,false,false,false,false,false,false,false,false,false,false]:List Bool).take 12).map V.bl))
  refine⟨([true,true,false,false,false,false,false,false,false,false,false,false]:List Bool).map Dv.bl,?_,?_,λd hd=>?_,⟨_,rfl,eH,_,dx,.ref p,rfl,t6 _ _ hX,Er.cW,t6 _ _ hdx,z2,λq7 n7=>?_⟩⟩
  ·rw[Rep];exact⟨q5,_,rfl,t6 _ _ w5,pk _⟩
  ·rw[Rep];exact⟨q6,_,rfl,aa,pk _⟩
  ·obtain⟨b,_,rfl⟩:=Ϡ.mp hd
   exact vP.mono ()
  ·have t7:=ac n7 (.tup [.bl true,.ref p])
   refine q _ _ (t1.trans (t3.trans (t5.trans (t6.trans t7)))) ?_
   refine bp aa (by simp only[Rep]) ?_
   rw[Rep]
   exact⟨p,_,rfl,t7 _ _ (t6 _ _ hp),by simp only[Reps];exact⟨_,_,rfl,by simp only[Rep],_,_,rfl,by simp only[Rep],rfl⟩⟩
theorem kh:am ["_law_way","_law_text","_law_told","_law_e"] ["_law_way","_law_text"] (af fQ):=by trivial
theorem tE{f f1 f2 f3 fm D fI aNoProgram aTwice aNoBind aNoName aUnlike aParts aTooGreat aTooLong aNoValue aNoWords aNoLine:Addr}{fd fd1 fd2 fd3 fdm:Γ}{k:Nat}(F:Fun K "_law_refused" "_law_refused" fQ f fd)(T:Txt K mg)(Er:Cv K mg D fI aNoProgram aTwice aNoBind aNoName aUnlike aParts aTooGreat aTooLong aNoValue aNoWords aNoLine)
  (F_read_length:ap P w K mg base (CXe P w) k f1 fd1 ["text"] (dL WL WLp aNoWords)) (G_read_length:mg "read_length"=some (.ref f1)) (K_read_length:ϒ K (.ref f1)=true) (B_read_length:aU K fd1 ["text"] [])
  (F_read_kind:ap P w K mg base (CXe P w) k f2 fd2 ["text"] (dL WK WKp aNoWords)) (G_read_kind:mg "read_kind"=some (.ref f2)) (K_read_kind:ϒ K (.ref f2)=true) (B_read_kind:aU K fd2 ["text"] [])
  (F_read_expression:ap P w K mg base (CXe P w) k f3 fd3 ["text"] (dL WE WEp aNoWords)) (G_read_expression:mg "read_expression"=some (.ref f3)) (K_read_expression:ϒ K (.ref f3)=true) (B_read_expression:aU K fd3 ["text"] [])
  (F__law_marks:∀e,FnH P w K mg base e k fm fdm ["_law_e"] (DX aNoWords e)) (G__law_marks:mg "_law_marks"=some (.ref fm)) (K__law_marks:ϒ K (.ref fm)=true) (B__law_marks:aU K fdm ["_law_e"] []):ap P w K mg base CX0 (k+1) f fd ["_law_way","_law_text"] Bf:=by
 have nd:=kh.nd
 have G_IndexwiseError:=Er.gD
 have XT:=Er.top
 refine F.ok kh (λvs H Q E h=>?_) (λcdv A outer s H vs Q E hr h=>?_)
 ·obtain⟨i,v,rfl,_⟩:=h
  rfl
 obtain⟨i,v,rfl,no,q⟩:=h
 have hu8:(A.deeper (C6 "_law_refused" (af fQ) s.heap.objs.size f cdv)).units+8<cLine:=by have:=hr.un;omega
 refine⟨_,(@un _ _ _ (wbO (wbM 2 nd rfl (Ν rfl) waN rfl ()) (wbO ⟨Aq (i:=3) (D:=D) (fI:=fI) (Bw (λ_ _ z=>z) (pt_cmpR aE (pv 0) pe_int (ak _)) (oE (λ_ _ z=>z) rfl F_read_length hr rfl G_read_length K_read_length B_read_length (pa_cons (pv 1) pa_nil)) (Bw (λ_ _ z=>z) (pt_cmpR aE (pv 0) pe_int (ak _)) (oE (λ_ _ z=>z) rfl F_read_kind hr rfl G_read_kind K_read_kind B_read_kind (pa_cons (pv 1) pa_nil)) (oE (λ_ _ z=>z) rfl F_read_expression hr rfl G_read_expression K_read_expression B_read_expression (pa_cons (pv 1) pa_nil)))) (λ_ _ z=>z) XT rfl G_IndexwiseError rfl rfl nd rfl rfl (λeH=>
   (pss_one (ps_set (i:=2) nd rfl (Ν rfl) (xS (F__law_marks eH) (mP.of hr) rfl G__law_marks K__law_marks B__law_marks (pa_cons (pv 3) pa_nil)))))⟩ (wbQ (wbK (wap (yB hu8) (wv 2 rfl) (waX (wae wah (wae (waX (wae waC (wae waC waf rfl) rfl)) waf rfl) rfl)) (ak _))))))),?_⟩
 refine rd3 rfl rfl no λH1 dx p s1 h1 h2=>⟨_,_,_,rfl,rfl,Er.cW,h1,λe he=>?_⟩
 have s2:=ac he (Xh aNoWords dx e)
 refine⟨_,rfl,dx,p,rfl,aa,s2 _ _ h1,s2 _ _ h2,λH2 v2 s3 R2=>?_⟩
 refine⟨_,rfl,z2,λt1 n1=>⟨z2,λt2 n2=>?_⟩⟩
 have s4:=ac n1 (.tup [.int 0,.int 0])
 have s5:=ac n2 (.tup [.bl true,.ref t1])
 refine⟨[.bl true,.tup [.int 0,.int 0]],R2.mono (s4.trans s5),?_,λd hd=>?_,q _ (s1.trans (s2.trans (s3.trans (s4.trans s5))))⟩
 ·refine bp aa (by simp only[Rep]) ?_
  exact bp (s5 _ _ aa) (by simp only[Rep]) (by simp only[Rep])
 ·rcases ι.mp hd with rfl|hd
  ·exact vP.mono ()
  ·rw[ξ.mp hd]
   exact(de (n:=0) λd hd=>by
    rcases ι.mp hd with rfl|hd
    ·exact eg
    ·rw[ξ.mp hd];exact eg).mono ()
abbrev pe:Stmt:=top 79
def uP:Sp:=λvs H Q _=>∃n:Str,vs=[.str n]/\nmB n=true/\∀H',aj H H'->Q (.bl true) H'
theorem lK{n:Str}{c m:Int}(h:nmB n=true)(c0:0<=c)(c9:c<=99)(m1:1<=m)(m9:m<=99):Sm c [(n,m)]:=by
 have can:yR [(n,m)]:=⟨List.pairwise_singleton _ _,λp hp=>by rw[ξ.mp hp];exact m1⟩
 exact⟨⟨⟨can,c0,(),by show 1<=21;decide,λp hp=>by rw[ξ.mp hp];exact⟨by show m<_;omega,(aS h).2⟩⟩,λp hp=>by rw[ξ.mp hp];exact h⟩,Dh c0 c9 can (by show 1<=900;decide) λp hp=>by rw[ξ.mp hp];exact⟨h,m9⟩⟩
theorem Da{a b c d:Str}(h:b=c++d):a++b=a++c++d:=by rw[h];exact dS (by simp only[ar,Ϣ])
theorem rt1(n:Str):γ "2*" ++ n++γ "+3"=bU 3 [(n,2)]:=by
 have e:bU 3 [(n,2)]=aG (n,2)++γ "+" ++ aY 3:=by
  unfold bU ba
  rw[Q5 (.inl ()),Μ,i9,Ϛ,Ϭ,aR,aF]
 rw[e,show aG (n,2)=aY 2++γ "*" ++ n from Q6 (by show ¬ (2:Int)=1;decide),show γ "2*"=aY 2++γ "*" by decide +kernel]
 exact Da ()
theorem rt0(n:Str):bU 0 [(n,1)]=n:=by
 unfold bU ba
 rw[Q6 (),Μ,i9,Θ,aF]
 exact Q5 rfl
theorem rt2(n:Str):γ "place(" ++ n++γ ")"=brT (bX (.place 0 [(n,1)])):=by
 rw[fg,kdT,aF,rt0,show γ "place("=γ "place" ++ γ "(" by decide +kernel]
def upB(n:Str):Br:=.nd (γ "up") [.leaf n,.leaf n]
def upD(n:Str):Dv:=.tup [.str (γ "up"),bA 0 [(n,1)],.tup [.str (γ "name"),.str n]]
theorem rt3(n:Str):γ "up(" ++ n++γ ", " ++ n++γ ")"=brT (upB n):=by
 rw[upB,brT,brTs,brTs,brTs,brT,aR,aF,show γ "up("=γ "up" ++ γ "(" by decide +kernel]
 exact dS (by simp only[ar,Ϣ])
theorem BA:(("up","le",[.l,.e]):Wd)∈WT:=by decide +kernel
theorem uG{n:Str}(h:nmB n=true):Wx 8 (upD n) (upB n):=by
 rw[Wx]
 refine .inr (.inr (.inr (.inr (.inr ⟨("up","le",[.l,.e]),_,_,BA,(),.cons ⟨0,[(n,1)],rfl,by rw[rt0],lK h () () () ()⟩ (.cons ?_ .nil),.inl (),rfl,rfl⟩))))
 show Wx 7 _ _
 rw[Wx]
 exact .inr (.inl ⟨n,h,rfl,rfl⟩)
theorem Bv{n:Str}(h:nmB n=true):exN 8 (upD n)<=40:=by
 have h2:Wx 7 (.tup [.str (γ "name"),.str n]) (.leaf n):=by rw[Wx];exact .inr (.inl ⟨n,h,rfl,rfl⟩)
 have e2:exN 7 (.tup [.str (γ "name"),.str n])=1:=by
  rw[exN,Q5 (fK h2).1]
  show 1+((bb (.tup (.str qu.1::[.str n]))).map (exN 6)).sum=1
  rw[parts_of in5.2.2.2.2]
  rfl
 rw[exN,Q5 (fK (uG h)).1]
 show 1+((bb (.tup (.str (("up","le",[.l,.e]):Wd).1::[bA 0 [(n,1)],.tup [.str (γ "name"),.str n]]))).map (exN 7)).sum<=40
 rw[parts_of BA]
 show 1+([exN 7 (.tup [.str (γ "name"),.str n])]).sum<=40
 rw[e2]
 decide
theorem qF{n:Str}(h:nmB n=true):wdS n:=by
 obtain⟨_,n8,az⟩:=cH h
 refine⟨by show n.cps.size<=900;omega,?_⟩
 rw[Ϫ λz=>by have:=az _ z;omega]
 decide
theorem Cw{n:Str}(h:nmB n=true):AO (upB n) where
 ok:=by unfold upB;rw[dF,brOks,brOks,brOks];exact⟨bW (),by show 2<=8;decide,oJ h,oJ h,trivial⟩
 s:=by unfold upB;rw[brS,brSs,brSs,brSs,brS];exact⟨qF (),by show 2<=900;decide,qF h,qF h,trivial⟩
 dp:=by show 1<=20;decide
 l:=by have h1:=sJ (uG h);have h2:=Bv h;omega
theorem Dx{n:Str}(h:nmB n=true):AO (bX (.place 0 [(n,1)])) where
 ok:=jJ (k:=.place 0 [(n,1)]) (lK h () () () ()).1
 s:=by rw[bX,brS,brSs,brSs,brS,rt0];exact⟨qF (),by show 1<=900;decide,qF h,trivial⟩
 dp:=by show 1<=20;decide
 l:=by
  show(brT (bX (.place 0 [(n,1)]))).length<=_
  have:=cS (k:=.place 0 [(n,1)]) (lK h () () () ()).1.1
  rw[fg]
  have e:(Kd.place 0 [(n,1)]).size=1:=rfl
  omega
theorem rw1{n:Str}(h:nmB n=true):WLp (bA 3 [(n,2)]) (γ "2*" ++ n++γ "+3"):=by
 refine⟨⟨3,[(n,2)],rfl,rt1 n,(lK h () () () ()).1⟩,?_⟩
 have:=(aS h).2
 rw[Η,Η]
 show 2+n.cps.size+2<=_
 omega
theorem rw2{n:Str}(h:nmB n=true):WKp (Kd.place 0 [(n,1)]).dv (γ "place(" ++ n++γ ")"):=by
 have sm:=lK (c:=0) (m:=1) h () () () ()
 exact⟨⟨.place 0 [(n,1)],rfl,rt2 n,sm,by show 1<=12;decide⟩,_,rt2 n,Dx h,(dY (k:=.place 0 [(n,1)]) sm.1 (by show 1<=21;decide)).symm⟩
theorem rw3{n:Str}(h:nmB n=true):WEp (upD n) (γ "up(" ++ n++γ ", " ++ n++γ ")"):=
 ⟨⟨_,rt3 n,uG h,Bv h⟩,_,rt3 n,Cw h,(vo (uG h) ()).symm⟩
theorem jd{n:Nat}{a b:Dv}(h1:fZ n a)(h2:fZ n b):∀d∈[a,b],fZ n d:=λd hd=>by
 rcases ι.mp hd with rfl|hd
 ·exact h1
 ·rw[ξ.mp hd];exact h2
theorem yW{n:Str}{c m:Int}:fZ 3 (bA c [(n,m)]):=de (n:=2) (jd (eg.mono ()) (de (n:=1) λd hd=>by
 have hd:d∈[Dv.tup [.str n,.int m]]:=hd
 rw[ξ.mp hd];exact de (n:=0) (jd dQ eg)))
theorem uI{H:Hp}{t:Addr}{d1:Dv}{v1:V}(h:H t=some (.tup [v1]))(r1:Rep H d1 v1):Rep H (.tup [d1]) (.ref t):=by
 rw[Rep];exact⟨t,_,rfl,h,by simp only[Reps];exact⟨_,_,rfl,r1,rfl⟩⟩
theorem oC{H:Hp}{t1 t2 t3:Addr}{n:Str}{c m:Int}(h1:H t1=some (.tup [.str n,.int m]))(h2:H t2=some (.tup [.ref t1]))(h3:H t3=some (.tup [.int c,.ref t2])):Rep H (bA c [(n,m)]) (.ref t3):=
 bp h3 (by simp only[Rep]) (uI (d1:=.tup [.str n,.int m]) h2 (bp h1 (by simp only[Rep]) (by simp only[Rep])))
theorem qH:am ["_law_name"] ["_law_name"] (af pe):=by trivial
theorem yu{f:Addr}{fd:Γ}{k:Nat}(F:Fun K "_law_right" "_law_right" pe f fd)(T:Txt K mg)(Dread_length:Def P w K mg base k "read_length" ["text"] (rT WLp))(Dread_kind:Def P w K mg base k "read_kind" ["text"] (rT WKp))(Dread_expression:Def P w K mg base k "read_expression" ["text"] (rT WEp)):ap P w K mg base CX0 (k+1) f fd ["_law_name"] uP:=by
 have nd:=qH.nd
 refine F.ok qH (λvs H Q E h=>?_) (λcdv A outer s H vs Q E hr h=>?_)
 ·obtain⟨n,rfl,_⟩:=h
  rfl
 obtain⟨n,rfl,hn,q⟩:=h
 have n8:=(aS hn).2
 have ln:n.length=n.cps.size:=rfl
 have hu8:=Ce hr
 refine⟨_,(@un _ _ _ (wbO (wbI (wbS (xn hu8) (waq Dread_length hr rfl (wae (waQ ae (waQ ae waV (wv 0 rfl)) waV) waf rfl) () rfl rfl) (waX (wae waC (wae (waX (wae (waX (wae (wv 0 rfl) (wae waC waf rfl) rfl)) waf rfl)) waf rfl) rfl)) (ak _)) (wbQ (wbK wah)) wbP) (wbO (wbI (wbS (xn hu8) (waq Dread_kind hr rfl (wae (waQ ae (waQ ae waV (wv 0 rfl)) waV) waf rfl) () rfl rfl) (waX (wae waV (wae (waX (wae waC (wae (waX (wae (waX (wae (wv 0 rfl) (wae waC waf rfl) rfl)) waf rfl)) waf rfl) rfl)) waf rfl) rfl)) (ak _)) (wbQ (wbK wah)) wbP) (wbQ (wbK (wap (yB hu8) (waq Dread_expression hr rfl (wae (waQ ae (waQ ae (waQ ae (waQ ae waV (wv 0 rfl)) waV) (wv 0 rfl)) waV) waf rfl) () rfl rfl) (waX (wae waV (wae (waX (wae waC (wae (waX (wae (waX (wae (wv 0 rfl) (wae waC waf rfl) rfl)) waf rfl)) waf rfl) rfl)) (wae (waX (wae waV (wae (wv 0 rfl) waf rfl) rfl)) waf rfl) rfl) rfl)) (ak _))))))),?_⟩
 have c1:(γ "2*").length+n.length<=sizeLine:=by rw[τ];show 2+n.cps.size<=_;omega
 have c2:(γ "2*" ++ n).length+(γ "+3").length<=sizeLine:=by rw[τ,Η];show 2+n.cps.size+2<=_;omega
 have c3:(γ "place(").length+n.length<=sizeLine:=by rw[τ];show 6+n.cps.size<=_;omega
 have c4:(γ "place(" ++ n).length+(γ ")").length<=sizeLine:=by rw[τ,Η];show 6+n.cps.size+1<=_;omega
 have c5:(γ "up(").length+n.length<=sizeLine:=by rw[τ];show 3+n.cps.size<=_;omega
 have c6:(γ "up(" ++ n).length+(γ ", ").length<=sizeLine:=by rw[τ,Η];show 3+n.cps.size+2<=_;omega
 have c7:(γ "up(" ++ n++γ ", ").length+n.length<=sizeLine:=by rw[τ,Η,Η];show 3+n.cps.size+2+n.cps.size<=_;omega
 have c8:(γ "up(" ++ n++γ ", " ++ n).length+(γ ")").length<=sizeLine:=by rw[τ,Η,Η,Η];show 3+n.cps.size+2+n.cps.size+1<=_;omega
 refine⟨_,rfl,_,_,rfl,rfl,c1,_,_,rfl,rfl,c2,_,_,rfl,rw1 hn,λH1 v1 s1 R1=>?_⟩
 refine⟨_,rfl,z2,λa1 k1=>⟨z1,λa2 k2=>⟨z2,λa3 k3=>?_⟩⟩⟩
 have e1:=ac k1 (.tup [.str n,.int 2])
 have e2:=ac k2 (.tup [.ref a1])
 have e3:=ac k3 (.tup [.int 3,.ref a2])
 refine⟨[.int 3,.tup (aT [(n,2)])],R1.mono (e1.trans (e2.trans e3)),oC ((e2.trans e3) _ _ aa) (e3 _ _ aa) aa,λd hd=>?_,_,rfl,aI ?_⟩
 ·rcases ι.mp hd with rfl|hd
  ·exact eg.mono ()
  ·rw[ξ.mp hd]
   exact(de (n:=1) λd hd=>by
    have hd:d∈[Dv.tup [.str n,.int 2]]:=hd
    rw[ξ.mp hd];exact de (n:=0) (jd dQ eg)).mono ()
 have s13:=s1.trans (e1.trans (e2.trans e3))
 generalize upd (upd (upd H1 a1 (.tup [.str n,.int 2])) a2 (.tup [.ref a1])) a3 (.tup [.int 3,.ref a2])=H2 at s13⊢
 refine⟨_,rfl,_,_,rfl,rfl,c3,_,_,rfl,rfl,c4,_,_,rfl,rw2 hn,λH3 v3 s3 R3=>?_⟩
 refine⟨_,rfl,z2,λa1 k1=>⟨z1,λa2 k2=>⟨z2,λa3 k3=>⟨z2,λa4 k4=>?_⟩⟩⟩⟩
 have e1:=ac k1 (.tup [.str n,.int 1])
 have e2:=ac k2 (.tup [.ref a1])
 have e3:=ac k3 (.tup [.int 0,.ref a2])
 have e4:=ac k4 (.tup [.str (γ "place"),.ref a3])
 refine⟨[.str (γ "place"),bA 0 [(n,1)]],R3.mono (e1.trans (e2.trans (e3.trans e4))),bp aa (by simp only[Rep]) (oC ((e2.trans (e3.trans e4)) _ _ aa) ((e3.trans e4) _ _ aa) (e4 _ _ aa)),jd (dQ.mono ()) (yW.mono ()),_,rfl,aI ?_⟩
 have s35:=s13.trans (s3.trans (e1.trans (e2.trans (e3.trans e4))))
 generalize upd (upd (upd (upd H3 a1 (.tup [.str n,.int 1])) a2 (.tup [.ref a1])) a3 (.tup [.int 0,.ref a2])) a4 (.tup [.str (γ "place"),.ref a3])=H4 at s35⊢
 refine⟨_,rfl,_,_,rfl,rfl,c5,_,_,rfl,rfl,c6,_,rfl,_,_,rfl,rfl,c7,_,_,rfl,rfl,c8,_,_,rfl,rw3 hn,λH5 v5 s5 R5=>?_⟩
 refine⟨_,rfl,z2,λa1 k1=>⟨z1,λa2 k2=>⟨z2,λa3 k3=>⟨_,rfl,z2,λa4 k4=>⟨z3,λa5 k5=>?_⟩⟩⟩⟩⟩
 have e1:=ac k1 (.tup [.str n,.int 1])
 have e2:=ac k2 (.tup [.ref a1])
 have e3:=ac k3 (.tup [.int 0,.ref a2])
 have e4:=ac k4 (.tup [.str (γ "name"),.str n])
 have e5:=ac k5 (.tup [.str (γ "up"),.ref a3,.ref a4])
 have e45:=e4.trans e5
 refine⟨[.str (γ "up"),bA 0 [(n,1)],.tup [.str (γ "name"),.str n]],R5.mono (e1.trans (e2.trans (e3.trans e45))),?_,λd hd=>?_,q _ (s35.trans (s5.trans (e1.trans (e2.trans (e3.trans e45)))))⟩
 ·rw[Rep]
  refine⟨a5,_,rfl,aa,?_⟩
  simp only[Reps]
  exact⟨_,_,rfl,by simp only[Rep],_,_,rfl,oC ((e2.trans (e3.trans e45)) _ _ aa) ((e3.trans e45) _ _ aa) (e45 _ _ aa),_,_,rfl,bp (e5 _ _ aa) (by simp only[Rep]) (by simp only[Rep]),rfl⟩
 ·rcases ι.mp hd with rfl|hd
  ·exact dQ.mono ()
  ·exact jd (yW.mono ()) ((de (n:=0) (jd dQ dQ)).mono ()) d hd
open PySem L2 KB XB WR
abbrev Tok:=Option Nat
abbrev cs(x:Str):List Nat:=x.cps.toList
def ex(n:Str):List Tok->List Nat
 |[]=>[]
 |some c::r=>c::ex n r
 |none::r=>cs n++ex n r
theorem uu(n:Str):∀u v:List Tok,ex n (u++v)=ex n u++ex n v
 |[],v=>rfl
 |some c::u,v=>by rw[Ϛ,ex,ex,uu n u v];rfl
 |none::u,v=>by rw[Ϛ,ex,ex,uu n u v,Ϣ]
theorem sf{n:Str}(hn:nmB n=true):∀{u:List Tok},ex n u=[]->u=[]
 |[],_=>rfl
 |some c::u,h=>by rw[ex]at h;cases h
 |none::u,h=>by
  rw[ex]at h
  have:=(aS hn).1
  have e:=List.append_eq_nil_iff.mp h
  have:(cs n).length=n.cps.size:=ψ
  rw[e.1]at this
  simp at this;omega
theorem si{n:Str}(hn:nmB n=true):∀u:List Tok,u.length<=(ex n u).length
 |[]=>θ _
 |some c::u=>by rw[ex,χ,χ];have:=si hn u;omega
 |none::u=>by
  rw[ex,χ,Ε]
  have:=si hn u
  have:=(aS hn).1
  have:(cs n).length=n.cps.size:=ψ
  omega
theorem tS{n:Str}:∀{u:List Tok}{c:Nat},some c∈u->c∈ex n u
 |some d::u,c,h=>by
  rw[ex]
  rcases ι.mp h with h|h
  ·injection h with h;rw[h];exact ν
  ·exact π _ (tS h)
 |none::u,c,h=>by
  rw[ex]
  rcases ι.mp h with h|h
  ·cases h
  ·exact Ο _ (tS h)
theorem vg{n:Str}:∀{u:List Tok},none∈u->∀c∈cs n,c∈ex n u
 |some d::u,h,c,hc=>by
  rw[ex]
  rcases ι.mp h with h|h
  ·cases h
  ·exact π _ (vg h c hc)
 |none::u,h,c,hc=>by rw[ex];exact f_ _ hc
theorem Ao(n:Str)(x:List Nat):ex n (x.map some)=x:=by
 induction x with
 |nil=>rfl
 |cons c r ih=>rw[Μ,ex,ih]
def kI:List Tok->Option (List Nat)
 |[]=>some []
 |some c::r=>(kI r).map (c :: ·)
 |none::_=>none
theorem jI{n:Str}:∀{u:List Tok},none∉u->kI u=some (ex n u)/\u=(ex n u).map some
 |[],_=>⟨rfl,rfl⟩
 |some c::u,h=>by
  obtain⟨a,b⟩:=jI (n:=n) (u:=u) λz=>h (π _ z)
  rw[kI,ex,a,Μ,<-b]
  exact⟨rfl,rfl⟩
 |none::u,h=>absurd ν h
theorem Dl{n:Str}(hn:nmB n=true):∃c∈cs n,97<=c/\c<=122:=by
 obtain⟨n1,_,az⟩:=cH hn
 obtain⟨c,r,e⟩:=bu n1
 have hc:c∈cs n:=by show c∈n.cps.toList;rw[e];exact ν
 exact⟨c,hc,az c hc⟩
def js(lim:Nat)(u:List Tok):Bool:=match kI u with
 |some x=>decide (Ϙ x<=lim)&&decide (cs (aY (Ϙ x:Nat))=x)
 |none=>false
theorem kt{n:Str}(hn:nmB n=true){i:Int}{lim:Nat}{u:List Tok}(h0:0<=i)(h1:i<10^60)(hl:i<=lim)(e:ex n u=cs (aY i)):none∉u/\js lim u=true:=by
 have hu:none∉u:=λz=>by
  obtain⟨c,hc,h⟩:=Dl hn
  have:=vg z c hc
  rw[e]at this
  have:=bO h0 h1 c this
  omega
 refine⟨hu,?_⟩
 unfold js
 rw[(jI (n:=n) hu).1,e]
 obtain⟨_,b⟩:=fJ h0 h1
 show(decide (Ϙ (cs (aY i))<=lim)&&decide (cs (aY (Ϙ (cs (aY i)):Nat))=cs (aY i)))=true
 rw[show Ϙ (cs (aY i))=i.toNat from b,Int.toNat_of_nonneg h0,Q9 (),Q9 rfl]
 rfl
def isL:Tok->Bool
 |some c=>azB c
 |none=>true
def gl(u:List Tok):Bool:=u != []&&(decide (u.length<=8)&&u.all isL)
theorem xG{n:Str}{u:List Tok}{y:Str}(h:nmB y=true)(e:ex n u=cs y):∀t∈u,isL t=true:=λt ht=>by
 cases t with
 |none=>rfl
 |some c=>
  have:=(cH h).2.2 c (by show c∈cs y;rw[<-e];exact tS ht)
  show(decide (97<=c)&&decide (c<=122))=true
  rw[Q9 this.1,Q9 this.2];rfl
theorem fC{n y:Str}(hn:nmB n=true)(h:nmB y=true){u:List Tok}(e:ex n u=cs y):gl u=true:=by
 have ly:(cs y).length=y.cps.size:=ψ
 obtain⟨y1,y8⟩:=aS h
 unfold gl
 have h1:(u != [])=true:=by
  rw[bne_iff_ne]
  intro z
  rw[z]at e
  rw[<-e]at ly
  simp[ex]at ly;omega
 have h2:u.length<=8:=by have:=si hn u;rw[e,ly]at this;omega
 rw[h1,Q9 h2,ϸ.mpr (xG h e)]
 rfl
def spT(c:Nat):List Tok->List (List Tok)
 |[]=>[[]]
 |t::r=>if t=some c then []::spT c r else match spT c r with
  |h::q=>(t::h)::q
  |[]=>[[t]]
theorem tY(c:Nat):∀u,spT c u≠[]
 |[]=>by simp[spT]
 |t::r=>by
  rw[spT]
  split
  ·simp
  ·split<;>simp
def tx(n:Str):Tok->List Nat
 |some d=>[d]
 |none=>cs n
theorem oP(n:Str)(t:Tok)(r:List Tok):ex n (t::r)=tx n t++ex n r:=by cases t<;>rfl
theorem uL{α β:Type}{f:α->β}{l:List α}{x:β}(h:l.map f=[x]):∃a,l=[a]/\f a=x:=by
 match l,h with
 |[a],h=>exact⟨a,rfl,by simpa using h⟩
 |[],h=>cases h
 |_::_::_,h=>simp at h
theorem AH{α β:Type}{f:α->β}{l:List α}{x y:β}(h:l.map f=[x,y]):∃a b,l=[a,b]/\f a=x/\f b=y:=by
 match l,h with
 |[a,b],h=>exact⟨a,b,rfl,by simpa using h⟩
 |[],h=>cases h
 |[_],h=>simp at h
 |_::_::_::_,h=>simp at h
def st(x:List Nat):Str:=⟨x.toArray⟩
theorem dA(x:List Nat):cs (st x)=x:=by show x.toArray.toList=x;simp
theorem EQ(x:Str):st (cs x)=x:=dS (dA _)
theorem iP{c:Nat}{a:Str}{B:List Str}(h:B≠[]):cs (ώ ⟨#[c]⟩ (a::B))=cs a++c::cs (ώ ⟨#[c]⟩ B):=by
 match B,h with
 |b::B,_=>
  rw[aR]
  show cs (a++⟨#[c]⟩++_)=_
  unfold cs
  rw[ar,ar,Ϣ]
  rfl
theorem pL{n:Str}(c:Nat):∀u:List Tok,cs (ώ ⟨#[c]⟩ ((spT c u).map λp=>st (ex n p)))=ex n u
 |[]=>by rw[spT,Μ,i9,aF];rfl
 |t::r=>by
  have ih:=pL (n:=n) c r
  have ne:=tY c r
  rw[spT]
  split
  ·rename_i h
   rw[Μ,iP (by simpa using ne),ih,h]
   rfl
  ·match hs:spT c r,ne with
   |h::q,_=>
    rw[hs]at ih
    show cs (ώ ⟨#[c]⟩ (((t::h)::q).map λp=>st (ex n p)))=_
    rw[oP,<-ih]
    cases q with
    |nil=>rw[Μ,i9,Μ,i9,aF,aF,dA,dA,oP]
    |cons a q=>
     show cs (ώ _ (st (ex n (t::h))::(a::q).map λp=>st (ex n p)))=_++cs (ώ _ (st (ex n h)::(a::q).map λp=>st (ex n p)))
     rw[iP (),iP (),dA,dA,oP,Ϣ]
theorem rf{n:Str}{c:Nat}(hc:c∉cs n):∀{u:List Tok},∀p∈spT c u,c∉ex n p
 |[],p,hp=>by rw[spT,ξ]at hp;rw[hp];simp[ex]
 |t::r,p,hp=>by
  have ih:=rf hc (u:=r)
  rw[spT]at hp
  split at hp
  ·rcases ι.mp hp with rfl|hp
   ·simp[ex]
   ·exact ih p hp
  ·rename_i ht
   match hs:spT c r,hp with
   |h::q,hp=>
    have hp:p∈(t::h)::q:=hp
    rcases ι.mp hp with rfl|hp
    ·have:=ih h (by rw[hs];exact ν)
     cases t with
     |some d=>
      rw[ex]
      intro z
      rcases ι.mp z with z|z
      ·exact ht (by rw[z])
      ·exact this z
     |none=>
      rw[ex]
      intro z
      rcases Φ.mp z with z|z
      ·exact hc z
      ·exact this z
    ·exact ih p (by rw[hs];exact π _ hp)
   |[],hp=>exact absurd hs (tY c r)
theorem tM{n:Str}(hn:nmB n=true){c:Nat}(h:c<97):c∉cs n:=λz=>by have:=(cH hn).2.2 c z;omega
theorem sH{n:Str}(hn:nmB n=true){c:Nat}(h:c<97){u:List Tok}{A:List Str}(hA:A≠[])(hf:∀p∈A,c∉p.cps.toList)(e:ex n u=cs (ώ ⟨#[c]⟩ A)):(spT c u).map (λp=>st (ex n p))=A:=by
 have h1:=dh c (A:=(spT c u).map λp=>st (ex n p)) (by simpa using tY c u) λp hp=>by
  obtain⟨q,hq,rfl⟩:=Ϡ.mp hp
  show c∉cs (st (ex n q))
  rw[dA]
  exact rf (tM hn h) q hq
 have h2:ώ ⟨#[c]⟩ ((spT c u).map λp=>st (ex n p))=ώ ⟨#[c]⟩ A:=dS (by show cs _=cs _;rw[pL,e])
 rw[h2,dh c hA hf]at h1
 exact h1.symm
def sq(u:List Tok):List Tok:=(spT 42 u).getLastD []
def sY(lim:Nat)(u:List Tok):Bool:=match spT 42 u with
 |[a]=>gl a
 |[m,a]=>gl a&&(js lim m&&(m != [some 48]&&m != [some 49]))
 |_=>false
def ltT(a b:List Tok):Bool:=a != b&&(match kI a,kI b with
 |some x,some y=>decide (x<y)
 |_,_=>true)
def pwT:List (List Tok)->Bool
 |[]=>true
 |a::r=>r.all (ltT a)&&pwT r
def iy(lim:Nat)(us:List (List Tok)):Bool:=us.all (sY lim)&&pwT (us.map sq)
def xv(lim:Nat)(u:List Tok):Bool:=iy lim (spT 43 u)||(match (spT 43 u).reverse with
 |l::r=>js lim l&&((l != [some 48]||r==[])&&iy lim r.reverse)
 |[]=>false)
theorem uE{i:Int}(h0:0<=i)(h1:i<10^60){d:Nat}(hd:i≠d){x:Str}(hx:aY (d:Int)=x)(hd':(d:Int)<10^60):aY i≠x:=λz=>by
 have a:=eZ h0 h1
 rw[z,<-hx,eZ () hd']at a
 injection a with a
 exact hd a.symm
theorem xh{n:Str}(hn:nmB n=true){lim:Nat}{p:Pr}(p1:1<=p.2)(p60:p.2<10^60)(pl:p.2<=lim)(pn:nmB p.1=true){u:List Tok}(e:ex n u=cs (aG p)):sY lim u=true/\ex n (sq u)=cs p.1:=by
 obtain⟨n1,n8,az⟩:=cH pn
 have hp:∀c,c<97->c∉p.1.cps.toList:=λc h z=>by have:=az c z;omega
 unfold sY sq
 by_cases e1:p.2=1
 ·have ep:aG p=ώ ⟨#[42]⟩ [p.1]:=by rw[aF];exact Q5 e1
  rw[ep]at e
  have:=sH hn () (A:=[p.1]) () (λq hq=>by rw[ξ.mp hq];exact hp 42 ()) e
  obtain⟨a,hs,ea⟩:=uL this
  have ea:ex n a=cs p.1:=by rw[<-ea,dA]
  rw[hs]
  exact⟨fC hn pn ea,ea⟩
 ·have ep:aG p=ώ ⟨#[42]⟩ [aY p.2,p.1]:=by unfold aG;rw[Q6 e1,aR,aF,ja]
  rw[ep]at e
  have:=sH hn () (A:=[aY p.2,p.1]) () (λq hq=>by
   rcases ι.mp hq with rfl|hq
   ·intro h;have:=bO (n:=p.2) () p60 _ h;omega
   ·rw[ξ.mp hq];exact hp 42 ()) e
  obtain⟨m,a,hs,em1,em2⟩:=AH this
  have ea:ex n a=cs p.1:=by rw[<-em2,dA]
  have em':ex n m=cs (aY p.2):=by rw[<-em1,dA]
  obtain⟨-,o⟩:=kt hn () p60 pl em'
  rw[hs]
  refine⟨?_,ea⟩
  show(gl a&&(js lim m&&(m != [some 48]&&m != [some 49])))=true
  have n0:(m != [some 48])=true:=bne_iff_ne.mpr λz=>by
   rw[z]at em1
   exact uE () p60 (d:=0) (by show p.2≠0;omega) (by show aY 0=st [48];decide +kernel) () em1.symm
  have n1:(m != [some 49])=true:=bne_iff_ne.mpr λz=>by
   rw[z]at em1
   exact uE () p60 (d:=1) (by show p.2≠1;omega) (by show aY 1=st [49];decide +kernel) () em1.symm
  rw[fC hn pn ea,o,n0,n1]
  rfl
theorem BM{n:Str}{a b:List Tok}{x y:List Nat}(ea:ex n a=x)(eb:ex n b=y)(h:x<y):ltT a b=true:=by
 unfold ltT
 have ne:(a != b)=true:=bne_iff_ne.mpr λz=>by rw[z,eb]at ea;rw[ea]at h;exact absurd h (List.lt_irrefl _)
 rw[ne,ϲ]
 split
 ·rename_i x' y' hx hy
  have f:∀{u:List Tok}{z:List Nat},kI u=some z->z=ex n u:=λ{u z} h=>by
   have hu:none∉u:=λm=>by
    clear ea eb hx hy ne
    induction u generalizing z with
    |nil=>cases m
    |cons t r ih=>
     cases t with
     |none=>cases h
     |some c=>
      rcases ι.mp m with m|m
      ·cases m
      ·rw[kI]at h
       obtain⟨z',hz,_⟩:=ϯ.mp h
       exact ih hz m
   have:=(jI (n:=n) hu).1
   rw[h]at this
   exact ϧ this
  rw[f hx,f hy,ea,eb]
  exact Q9 h
 ·rfl
theorem gy{n:Str}(hn:nmB n=true){lim:Nat}:∀{ps:List Pr}{us:List (List Tok)},ps.Pairwise BK->(∀p∈ps,1<=p.2/\p.2<10^60/\p.2<=lim/\nmB p.1=true)->us.map (λp=>st (ex n p))=ps.map aG->iy lim us=true/\us.map (λu=>ex n (sq u))=ps.map λp=>cs p.1
 |[],us,_,_,e=>by
  have:us=[]:=by simpa using e
  rw[this];exact⟨rfl,rfl⟩
 |p::ps,[],_,_,e=>by simp at e
 |p::ps,u::us,pw,h,e=>by
  rw[Μ,Μ,y6]at e
  obtain⟨pw1,pw2⟩:=G5.mp pw
  obtain⟨i1,i2⟩:=gy hn (lim:=lim) pw2 (λq hq=>h q (π _ hq)) e.2
  obtain⟨p1,p60,pl,pn⟩:=h p ν
  obtain⟨o1,o2⟩:=xh hn p1 p60 pl pn (u:=u) (by rw[<-e.1,dA])
  refine⟨?_,by rw[Μ,Μ,o2,i2]⟩
  unfold iy at i1⊢
  rw[ο]at i1
  rw[List.all_cons,o1,i1.1,Μ,pwT,i1.2,t9,t9,ϲ,ϸ]
  intro b hb
  obtain⟨v,hv,rfl⟩:=Ϡ.mp hb
  have hm:ex n (sq v)∈us.map λu=>ex n (sq u):=i4 (f:=λu=>ex n (sq u)) hv
  rw[i2]at hm
  obtain⟨q,hq,eq⟩:=Ϡ.mp hm
  exact BM o2 rfl (by rw[<-eq];exact pw1 q hq)
theorem yo{n:Str}(hn:nmB n=true){lim:Nat}{c:Int}{ps:List Pr}(wa:Wa c ps)(cl:c<=lim)(pl:∀p∈ps,p.2<=lim){u:List Tok}(e:ex n u=cs (bU c ps)):xv lim u=true:=by
 obtain⟨wr,wn⟩:=wa
 have hA:ba c ps≠[]:=λz=>by
  unfold ba at z
  have z:=List.append_eq_nil_iff.mp z
  have hp:ps=[]:=by simpa using z.1
  rw[Q5 (.inr hp)]at z
  cases z.2
 have hf:∀p∈ba c ps,(43:Nat)∉p.cps.toList:=λp hp=>by
  unfold ba at hp
  rcases Φ.mp hp with hp|hp
  ·obtain⟨q,hq,rfl⟩:=Ϡ.mp hp
   intro z
   obtain⟨_,_,az⟩:=cH (wn q hq)
   have q1:=wr.can.ge q hq
   unfold aG at z
   split at z
   ·have:=az _ z;omega
   ·rw[ar,ar]at z
    rcases Φ.mp z with z|z
    ·rcases Φ.mp z with z|z
     ·have:=bO (n:=q.2) () (wr.le q hq).1 _ z;omega
     ·have:(43:Nat)∈[42]:=by rw[ja]at z;exact z
      simp at this
    ·have:=az _ z;omega
  ·split at hp
   ·rw[ξ.mp hp]
    intro z
    have:=bO wr.c0 wr.c1 _ z;omega
   ·cases hp
 have e':ex n u=cs (ώ ⟨#[43]⟩ (ba c ps)):=by rw[e,<-tU];rfl
 have hs:=sH hn () hA hf e'
 have pr:∀p∈ps,1<=p.2/\p.2<10^60/\p.2<=lim/\nmB p.1=true:=λp hp=>⟨wr.can.ge p hp,(wr.le p hp).1,pl p hp,wn p hp⟩
 unfold xv
 unfold ba at hs
 split at hs
 ·rename_i hc
  obtain⟨a,b,eab,ea,eb⟩:=List.map_eq_append_iff.mp hs
  obtain⟨l,rfl,el⟩:=uL eb
  have o:=(gy hn wr.can.pw pr ea).1
  have el':ex n l=cs (aY c):=by rw[<-el,dA]
  obtain⟨-,on⟩:=kt hn wr.c0 wr.c1 cl el'
  rw[eab,List.reverse_append,List.reverse_singleton,List.singleton_append]
  show(_||(js lim l&&((l != [some 48]||a.reverse==[])&&iy lim a.reverse.reverse)))=true
  rw[List.reverse_reverse,o,on]
  have:(l != [some 48]||a.reverse==[])=true:=by
   rcases hc with hc|hc
   ·rw[bne_iff_ne.mpr λz=>?_]
    ·rfl
    ·rw[z]at el
     exact uE wr.c0 wr.c1 (d:=0) hc (by show aY 0=st [48];decide +kernel) () el.symm
   ·have:a=[]:=by rw[hc]at ea;simpa using ea
    rw[this];simp
  rw[this]
  simp
 ·rw[Θ]at hs
  rw[(gy hn wr.can.pw pr hs).1]
  rfl
def Be:Tok->Bool
 |some c=>aV c
 |none=>false
def word(ts:List Tok):List Tok:=ts.takeWhile λt=>!Be t
def rest(ts:List Tok):List Tok:=ts.dropWhile λt=>!Be t
def Sp0(post:List Nat):Prop:=post=[]\/∃c r,post=c::r/\aV c=true
theorem ra{n:Str}(hn:nmB n=true):∀c∈cs n,(!aV c)=true:=λc hc=>by rw[bW hn c hc];rfl
theorem nQ{n:Str}(hn:nmB n=true):∀ts:List Tok,ex n (word ts)=(ex n ts).takeWhile (λc=>!aV c)/\ex n (rest ts)=(ex n ts).dropWhile λc=>!aV c
 |[]=>⟨rfl,rfl⟩
 |some c::r=>by
  obtain⟨a,b⟩:=nQ hn r
  unfold word at a⊢
  unfold rest at b⊢
  rw[ex,m8,A2,m8,A2]
  show(ex n (if (!aV c)=true then _ else _)=_)/\(ex n (if (!aV c)=true then _ else _)=_)
  split
  ·exact⟨by rw[ex,a],b⟩
  ·exact⟨rfl,rfl⟩
 |none::r=>by
  obtain⟨a,b⟩:=nQ hn r
  unfold word at a⊢
  unfold rest at b⊢
  rw[ex,m8,A2,Gx (ra hn),Gy (ra hn)]
  show(ex n (if true=true then _ else _)=_)/\(ex n (if true=true then _ else _)=_)
  rw[Q5 rfl,Q5 rfl]
  exact⟨by rw[ex,a],b⟩
theorem pZ{post:List Nat}(h:Sp0 post):post.takeWhile (λc=>!aV c)=[]/\post.dropWhile (λc=>!aV c)=post:=by
 rcases h with rfl|⟨c,r,rfl,h⟩
 ·exact⟨rfl,rfl⟩
 ·rw[m8,A2,h]
  exact⟨rfl,rfl⟩
theorem dy{n:Str}(hn:nmB n=true){ts:List Tok}{w post:List Nat}(e:ex n ts=w++post)(hw:∀c∈w,aV c=false)(hp:Sp0 post):ex n (word ts)=w/\ex n (rest ts)=post:=by
 obtain⟨a,b⟩:=nQ hn ts
 have hw':∀c∈w,(!aV c)=true:=λc hc=>by rw[hw c hc];rfl
 rw[e,Gx hw',(pZ hp).1,Θ]at a
 rw[e,Gy hw',(pZ hp).2]at b
 exact⟨a,b⟩
theorem cj{n:Str}(hn:nmB n=true){rs:List Tok}{c:Nat}{q:List Nat}(h:c<97)(e:ex n rs=c::q):∃r,rs=some c::r/\ex n r=q:=by
 match rs,e with
 |some d::r,e=>
  rw[ex,y6]at e
  exact⟨r,by rw[e.1],e.2⟩
 |none::r,e=>
  rw[ex]at e
  obtain⟨n1,_,az⟩:=cH hn
  obtain⟨d,r',ed⟩:=bu n1
  have ed':cs n=d::r':=ed
  rw[ed',Ϛ,y6]at e
  have:=az d (by show d∈cs n;rw[ed'];exact ν)
  omega
 |[],e=>cases e
def iso:List Tok->Bool
 |a::b::r=>!((a==none&&isL b)||(isL a&&b==none))&&iso (b::r)
 |_=>true
theorem bJ{t:Tok}{r:List Tok}(h:iso (t::r)=true):iso r=true:=by
 cases r with
 |nil=>rfl
 |cons b r=>rw[iso,ο]at h;exact h.2
theorem rV{p:Tok->Bool}:∀{ts:List Tok},iso ts=true->iso (ts.dropWhile p)=true
 |[],h=>h
 |t::r,h=>by
  rw[A2]
  split
  ·exact rV (bJ h)
  ·exact h
theorem qA{p:Tok->Bool}:∀{ts:List Tok},iso ts=true->iso (ts.takeWhile p)=true
 |[],h=>h
 |[a],h=>by
  rw[m8]
  split<;>rfl
 |a::b::r,h=>by
  have ih:=qA (p:=p) (bJ h)
  rw[m8]
  split
  ·rw[m8]at ih⊢
   split
   ·rename_i hb
    rw[Q5 hb]at ih
    rw[iso,ο]at h⊢
    exact⟨h.1,ih⟩
   ·rfl
  ·rfl
theorem qB:∀{u:List Tok},iso u=true->(∀t∈u,isL t=true)->none∈u->u=[none]
 |[a],_,_,h=>by rw[ξ]at h;rw[<-h]
 |a::b::r,hi,hl,h=>by
  exfalso
  have i2:=bJ hi
  rw[iso,ο]at hi
  have h1:=hi.1
  rw[hl a ν,hl b ()]at h1
  have:(a==none)=false/\(b==none)=false:=by simpa using h1
  have hb:none∈b::r:=by
   rcases ι.mp h with z|z
   ·rw[<-z]at this;simp at this
   ·exact z
  have:=qB i2 (λt ht=>hl t (π _ ht)) hb
  injection this with e _
  rw[e]at h1;simp at h1
def vow(c:Nat):Bool:=[97,101,105,111,117].contains c
def wS(u:List Tok):Option Str:=(kI u).map st
theorem Bl{n x:Str}{u:List Tok}(e:ex n u=cs x)(h:none∉u):wS u=some x:=by
 unfold wS
 rw[(jI (n:=n) h).1,e,Option.map_some,EQ]
theorem zT{u:List Tok}(h:none∈u):wS u=none:=by
 unfold wS
 have:kI u=none:=by
  induction u with
  |nil=>cases h
  |cons t r ih=>
   cases t with
   |none=>rfl
   |some c=>
    rcases ι.mp h with z|z
    ·cases z
    ·rw[kI,ih z];rfl
 rw[this];rfl
theorem dk{n x:Str}(cn:Cn n)(hx:nmB x=true)(hv:(cs x).any vow=true){u:List Tok}(hi:iso u=true)(e:ex n u=cs x):wS u=some x:=by
 refine Bl e λh=>?_
 have:=qB hi (xG hx e) h
 rw[this,ex,ex,Θ]at e
 obtain⟨c,hc,v⟩:=n_.mp hv
 have:=cn.2 c (by show c∈cs n;rw[e];exact hc)
 unfold czB at this
 unfold vow at v
 rw[v]at this
 simp at this
abbrev Rg:=List Tok->Option (Nat×List Tok)
def cl:Option (Nat×List Tok)->Option (Nat×List Tok)
 |some (k,some 41::r)=>some (k,r)
 |_=>none
def nx(o:Option (Nat×List Tok))(f:Rg):Option (Nat×List Tok):=match o with
 |some (k,some 44::some 32::r)=>(f r).map λp=>(k+p.1,p.2)
 |_=>none
def Got(n:Str)(o:Option (Nat×List Tok))(post:List Nat)(m:Nat):Prop:=∃k rs,o=some (k,rs)/\ex n rs=post/\iso rs=true/\k<=m
theorem Got.cl{n:Str}(hn:nmB n=true){o:Option (Nat×List Tok)}{post:List Nat}{m:Nat}(h:Got n o (41::post) m):Got n (cl o) post m:=by
 obtain⟨k,rs,rfl,e,i,km⟩:=h
 obtain⟨r,rfl,er⟩:=cj hn () e
 exact⟨k,r,rfl,er,bJ i,km⟩
theorem Got.nx{n:Str}(hn:nmB n=true){o:Option (Nat×List Tok)}{f:Rg}{post post':List Nat}{m m':Nat}(h:Got n o (44::32::post) m)(hf:∀r,ex n r=post->iso r=true->Got n (f r) post' m'):Got n (nx o f) post' (m+m'):=by
 obtain⟨k,rs,rfl,e,i,km⟩:=h
 obtain⟨r1,rfl,er⟩:=cj hn () e
 obtain⟨r,rfl,er2⟩:=cj hn () er
 obtain⟨k',rs',e',g2,g3,g4⟩:=hf r er2 (bJ (bJ i))
 refine⟨k+k',rs',?_,g2,g3,()⟩
 show(f r).map _=_
 rw[e'];rfl
def okL(lim:Nat):Rg:=λts=>if xv lim (word ts)=true then some (0,rest ts)else none
def okN:Rg:=λts=>if gl (word ts)=true then some (0,rest ts)else none
def okK:Nat->Rg
 |0,_=>none
 |m+1,ts=>match rest ts with
  |some 40::r=>if wS (word ts)=some (γ "place")then cl (okL 99 r)else if wS (word ts)=some (γ "row")then nx (okL 99 r) λr=>cl (okK m r)else if wS (word ts)=some (γ "pair")then nx (okK m r) λr=>cl (okK m r)else none
  |r=>if wS (word ts)=some (γ "whole")then some (0,r)else none
def Cc(R:Rg):So->Rg
 |.e=>R
 |.l=>okL 99
 |.k=>okK 12
 |.x=>okN
 |.y=>okN
 |_=>λ_=>none
def rH(R:Rg):List So->Rg
 |[],_=>none
 |[s],ts=>cl (Cc R s ts)
 |s::ss,ts=>nx (Cc R s ts) (rH R ss)
def rh(R:Rg):Nat->Rg
 |0,_=>none
 |f+1,ts=>match R ts with
  |some (k,some 41::r)=>some (k,r)
  |o=>nx o (rh R f)
def sr(R:Rg):Rg:=λts=>match okN ts with
 |some (_,some 44::some 32::r1)=>match okL 99 r1 with
  |some (_,some 44::some 32::r2)=>if word ts=word r2 then none else rH R [.x,.l,.y,.e,.e] ts
  |_=>none
 |_=>none
def vz(R:Rg):Rg:=λts=>match rh R 4 ts with
 |some x=>some x
 |none=>match ts with
  |some 41::r=>some (0,r)
  |_=>none
def up1(o:Option (Nat×List Tok)):Option (Nat×List Tok):=o.map λp=>(1+p.1,p.2)
def okX:Nat->Rg
 |0,_=>none
 |m+1,ts=>match rest ts with
  |some 40::r=>up1 (match wS (word ts)with
   |some w=>if w=γ "row" then rh (okX m) 4 r else if dW w=true then rH (okX m) [.e,.e] r else match WT.find? (λp=>decide (p.1=w))with
    |some p=>if frm p.1=true then (if p.1=γ "fold" then sr (okX m) r else rH (okX m) p.2.2 r)else none
    |none=>if nmB w=true then vz (okX m) r else none
   |none=>if gl (word ts)=true then vz (okX m) r else none)
  |r=>if js 999999999999 (word ts)=true||gl (word ts)=true then some (1,r)else none
theorem kH{ts:List Tok}(h:iso ts=true):iso (word ts)=true:=qA h
theorem dR{ts:List Tok}(h:iso ts=true):iso (rest ts)=true:=rV h
theorem Bi{c:Int}{ps:List Pr}(h:Sm c ps):c<=99/\∀p∈ps,p.2<=99:=by
 have z:slD (bA c ps)=true:=h.2.1
 have z:((true&&(decide (0<=c)&&goD "" (aT ps)))&&(decide (c<=99)&&(aT ps).all λp=>decide (dD p<=99)))=true:=z
 simp only[ο,decide_eq_true_eq,ϸ]at z
 exact⟨z.2.1,λp hp=>z.2.2 (.tup [.str p.1,.int p.2]) (Ϡ.mpr ⟨p,hp,rfl⟩)⟩
theorem yE{n:Str}(hn:nmB n=true){lim:Nat}{c:Int}{ps:List Pr}(wa:Wa c ps)(h1:c<=lim)(h2:∀p∈ps,p.2<=lim){ts:List Tok}{post:List Nat}(e:ex n ts=cs (bU c ps)++post)(hp:Sp0 post)(hi:iso ts=true):Got n (okL lim ts) post 0:=by
 obtain⟨a,b⟩:=dy hn e (jc wa) hp
 refine⟨0,rest ts,?_,b,dR hi,θ _⟩
 unfold okL
 rw[Q5 (yo hn wa h1 h2 a)]
theorem uF{n:Str}(hn:nmB n=true){c:Int}{ps:List Pr}(sm:Sm c ps){ts:List Tok}{post:List Nat}(e:ex n ts=cs (bU c ps)++post)(hp:Sp0 post)(hi:iso ts=true):Got n (okL 99 ts) post 0:=yE hn sm.1 (Bi sm).1 (Bi sm).2 e hp hi
theorem uB{n y:Str}(hn:nmB n=true)(hy:nmB y=true){ts:List Tok}{post:List Nat}(e:ex n ts=cs y++post)(hp:Sp0 post)(hi:iso ts=true):Got n (okN ts) post 0:=by
 obtain⟨a,b⟩:=dy hn e (bW hy) hp
 refine⟨0,rest ts,?_,b,dR hi,θ _⟩
 unfold okN
 rw[Q5 (fC hn hy a)]
theorem sO{c:Nat}{r:List Nat}(h:aV c=true:=by decide):Sp0 (c::r):=.inr ⟨c,r,rfl,h⟩
theorem jC(w:Str)(bs:List Br)(post:List Nat):cs (brT (.nd w bs))++post=cs w++40::(cs (ώ (γ ", ") (brTs bs))++41::post):=by
 rw[brT]
 unfold cs
 rw[ar,ar,ar,show(γ "(").cps.toList=[40] by decide +kernel,show(γ ")").cps.toList=[41] by decide +kernel]
 simp
theorem iF(a:Br)(post:List Nat):cs (ώ (γ ", ") (brTs [a]))++post=cs (brT a)++post:=by rw[brTs,brTs,aF]
theorem ff(a b:Br)(r:List Br)(post:List Nat):cs (ώ (γ ", ") (brTs (a::b::r)))++post=cs (brT a)++44::32::(cs (ώ (γ ", ") (brTs (b::r)))++post):=by
 rw[brTs,brTs,aR]
 unfold cs
 rw[ar,ar,show(γ ", ").cps.toList=[44,32] by decide +kernel]
 simp
theorem kD{n w:Str}(hn:nmB n=true)(hw:nmB w=true){ts:List Tok}{q:List Nat}(e:ex n ts=cs w++40::q)(hi:iso ts=true):ex n (word ts)=cs w/\∃r,rest ts=some 40::r/\ex n r=q/\iso r=true:=by
 obtain⟨a,b⟩:=dy hn e (bW hw) sO
 obtain⟨r,er,e2⟩:=cj hn () b
 exact⟨a,r,er,e2,bJ (er▸dR hi)⟩
theorem DE{n:Str}(hn:nmB n=true){ts:List Tok}{post:List Nat}(e:ex n ts=post)(hp:Bh post):∀r,ts≠some 40::r:=λr z=>by
 rw[z,ex]at e
 rcases hp with h|⟨c,q,h,hc⟩
 ·rw[h]at e;cases e
 ·rw[h,y6]at e;omega
theorem mL{post:List Nat}(h:Bh post):Sp0 post:=by
 rcases h with h|⟨c,r,h,hc⟩
 ·exact .inl h
 ·exact .inr ⟨c,r,h,by rcases hc with rfl|rfl<;>decide⟩
theorem vM{r:List Nat}:Bh (41::r):=.inr ⟨41,r,rfl,.inr rfl⟩
theorem xt{r:List Nat}:Bh (44::r):=.inr ⟨44,r,rfl,.inl rfl⟩
theorem AC{m:Nat}{ts r:List Tok}(hr:rest ts=r)(h40:∀q,r≠some 40::q):okK (m+1) ts=if wS (word ts)=some (γ "whole")then some (0,r)else none:=by
 rw[okK,hr]
 split
 ·rename_i q;exact absurd rfl (h40 q)
 ·rfl
theorem kg{n:Str}(cn:Cn n):∀{m:Nat}{k:Kd}{ts:List Tok}{post:List Nat},k.All Sm->k.size<=m->ex n ts=cs (brT (bX k))++post->Bh post->iso ts=true->Got n (okK m ts) post 0
 |0,k,_,_,_,h,_,_,_=>by have:=k.size_pos;omega
 |m+1,.whole,ts,post,_,_,e,hp,hi=>by
  have hn:=cn.1
  have hw:nmB (γ "whole")=true:=by decide +kernel
  have e:ex n ts=cs (γ "whole")++post:=e
  obtain⟨a,b⟩:=dy hn e (bW hw) (mL hp)
  refine⟨0,rest ts,?_,b,dR hi,θ _⟩
  rw[AC rfl (DE hn b hp),Q5 (dk cn hw () (kH hi) a)]
 |m+1,.place c ps,ts,post,h,_,e,hp,hi=>by
  have hn:=cn.1
  rw[bX,jC,iF,brT]at e
  have hw:nmB (γ "place")=true:=by decide +kernel
  obtain⟨a,r,er,e2,i2⟩:=kD hn hw e hi
  rw[okK,er]
  show Got n (if _ then _ else _) post 0
  rw[Q5 (dk cn hw () (kH hi) a)]
  exact(uF hn h e2 sO i2).cl hn
 |m+1,.row c ps k,ts,post,h,z,e,hp,hi=>by
  have hn:=cn.1
  have z:k.size+1<=m+1:=z
  rw[bX,jC,ff,iF,brT]at e
  have hw:nmB (γ "row")=true:=by decide +kernel
  obtain⟨a,r,er,e2,i2⟩:=kD hn hw e hi
  rw[okK,er]
  show Got n (if _ then _ else _) post 0
  rw[dk cn hw () (kH hi) a,Q6 (),Q5 rfl]
  exact(uF hn h.1 e2 sO i2).nx hn (m:=0) λr e3 i3=>(kg cn h.2 () e3 vM i3).cl hn
 |m+1,.pair i j,ts,post,h,z,e,hp,hi=>by
  have hn:=cn.1
  have z:i.size+j.size+1<=m+1:=z
  rw[bX,jC,ff,iF]at e
  have hw:nmB (γ "pair")=true:=by decide +kernel
  obtain⟨a,r,er,e2,i2⟩:=kD hn hw e hi
  rw[okK,er]
  show Got n (if _ then _ else _) post 0
  rw[dk cn hw () (kH hi) a,Q6 (),Q6 (),Q5 rfl]
  exact(kg cn h.1 () e2 xt i2).nx hn (m:=0) λr e3 i3=>(kg cn h.2 () e3 vM i3).cl hn
def ni(n:Str)(Rel:Dv->Br->Prop)(cnt:Dv->Nat)(R:Rg):Prop:=∀d b ts post,Rel d b->ex n ts=cs (brT b)++post->Bh post->iso ts=true->Got n (R ts) post (cnt d)
theorem vF{n:Str}(cn:Cn n){Rel:Dv->Br->Prop}{cnt:Dv->Nat}{R:Rg}(hR:ni n Rel cnt R):∀{s:So}{d:Dv}{b:Br}{ts:List Tok}{post:List Nat},Ag Rel s d b->ex n ts=cs (brT b)++post->Bh post->iso ts=true->Got n (Cc R s ts) post ((ptD s d).map cnt).sum
 |.e,d,b,ts,post,h,e,hp,hi=>by
  have:=hR d b ts post h e hp hi
  show Got n _ post (cnt d+0)
  exact this
 |.l,d,b,ts,post,h,e,hp,hi=>by
  obtain⟨c,ps,rfl,rfl,sm⟩:=h
  exact uF cn.1 sm e (mL hp) hi
 |.k,d,b,ts,post,h,e,hp,hi=>by
  obtain⟨k,rfl,rfl,a,z⟩:=h
  exact kg cn a z e hp hi
 |.x,d,b,ts,post,h,e,hp,hi=>by
  obtain⟨y,rfl,rfl,hy⟩:=h
  exact uB cn.1 hy e (mL hp) hi
 |.y,d,b,ts,post,h,e,hp,hi=>by
  obtain⟨y,rfl,rfl,hy⟩:=h
  exact uB cn.1 hy e (mL hp) hi
theorem lA{n:Str}(cn:Cn n){Rel:Dv->Br->Prop}{cnt:Dv->Nat}{R:Rg}(hR:ni n Rel cnt R){ss:List So}{ds:List Dv}{bs:List Br}(h:Ags Rel ss ds bs):ss≠[]->∀{ts:List Tok}{post:List Nat},ex n ts=cs (ώ (γ ", ") (brTs bs))++41::post->iso ts=true->Got n (rH R ss ts) post ((bD ss ds).map cnt).sum:=by
 induction h with
 |nil=>intro z;exact absurd rfl z
 | @cons s d b ss ds bs a t ih=>
  intro _ ts post e hi
  have es:((bD (s::ss) (d::ds)).map cnt).sum=((ptD s d).map cnt).sum+((bD ss ds).map cnt).sum:=by
   show((ptD s d++bD ss ds).map cnt).sum=_
   rw[ϊ,E1]
  rw[es]
  cases t with
  |nil=>
   rw[iF]at e
   exact(vF cn hR a e vM hi).cl cn.1
  | @cons s' d' b' ss ds bs a' t'=>
   rw[ff]at e
   exact(vF cn hR a e xt hi).nx cn.1 λr e2 i2=>ih () e2 i2
theorem vR{n:Str}(cn:Cn n){Rel:Dv->Br->Prop}{cnt:Dv->Nat}{R:Rg}(hR:ni n Rel cnt R){ds:List Dv}{bs:List Br}(h:Als Rel ds bs):∀{f:Nat}{ts:List Tok}{post:List Nat},ds≠[]->ds.length<=f->ex n ts=cs (ώ (γ ", ") (brTs bs))++41::post->iso ts=true->Got n (rh R f ts) post (ds.map cnt).sum:=by
 induction h with
 |nil=>intro _ _ _ z;exact absurd rfl z
 | @cons d b ds bs a t ih=>
  intro f ts post _ hl e hi
  rw[χ]at hl
  obtain⟨f,rfl⟩:∃g,f=g+1:=⟨f-1,()⟩
  rw[Μ,o8,rh]
  cases t with
  |nil=>
   rw[iF]at e
   obtain⟨k,rs,eo,er,ir,km⟩:=hR _ _ ts _ a e vM hi
   obtain⟨r,rfl,er2⟩:=cj cn.1 () er
   rw[eo]
   exact⟨k,r,rfl,er2,bJ ir,by simpa using km⟩
  | @cons d' b' ds bs a' t'=>
   rw[ff]at e
   have g:=hR _ _ ts _ a e xt hi
   obtain⟨k,rs,eo,er,ir,km⟩:=id g
   obtain⟨r,rfl,er2⟩:=cj cn.1 () er
   rw[eo]at g⊢
   exact g.nx cn.1 λr e2 i2=>ih () () e2 i2
theorem oZ{m:Nat}{ts r:List Tok}(hr:rest ts=r)(h40:∀q,r≠some 40::q):okX (m+1) ts=if (js 999999999999 (word ts)=true||gl (word ts)=true)then some (1,r)else none:=by
 rw[okX,hr]
 split
 ·rename_i q;exact absurd rfl (h40 q)
 ·rfl
theorem Ea(m:Nat)(r:List Tok):okX m (some 41::r)=none:=by
 cases m with
 |zero=>rw[okX]
 |succ m=>
  rw[oZ (r:=some 41::r) rfl ()]
  have e:word (some 41::r)=[]:=rfl
  rw[e]
  exact Q6 ()
theorem Ct(m f:Nat)(r:List Tok):rh (okX m) f (some 41::r)=none:=by
 cases f with
 |zero=>rw[rh]
 |succ f=>rw[rh,Ea];rfl
theorem CN:∀p∈WT,(cs p.1).any vow=true:=by decide +kernel
theorem qh:∀r∈rm,(cs r).any vow=true/\r≠γ "row":=by decide +kernel
theorem AW:∀p∈WT,p.1=γ "fold"->p.2.2=[.x,.l,.y,.e,.e]:=by decide +kernel
theorem AV:∀p∈WT,p.2.2≠[]:=by decide +kernel
theorem Got.up1{n:Str}{o:Option (Nat×List Tok)}{post:List Nat}{k:Nat}(h:Got n o post k):Got n (up1 o) post (1+k):=by
 obtain⟨k',rs,rfl,a,b,c⟩:=h
 exact⟨1+k',rs,rfl,a,b,()⟩
theorem zA{n:Str}(cn:Cn n){m:Nat}(hR:ni n (Wx m) (exN m) (okX m)){ds:List Dv}{bs:List Br}(ha:Als (Wx m) ds bs)(l4:ds.length<=4){ts:List Tok}{post:List Nat}(e:ex n ts=cs (ώ (γ ", ") (brTs bs))++41::post)(hi:iso ts=true):Got n (vz (okX m) ts) post (ds.map (exN m)).sum:=by
 unfold vz
 cases ha with
 |nil=>
  have e:ex n ts=41::post:=e
  obtain⟨r,rfl,er⟩:=cj cn.1 () e
  rw[Ct]
  exact⟨0,r,rfl,er,bJ hi,ϖ _⟩
 |cons a t=>
  obtain⟨k,rs,eo,g⟩:=vR cn hR (.cons a t) (f:=4) () l4 e hi
  rw[eo]
  exact⟨k,rs,rfl,g⟩
theorem Al{n:Str}(cn:Cn n){m:Nat}(hR:ni n (Wx m) (exN m) (okX m)){ds:List Dv}{bs:List Br}(ha:Ags (Wx m) [.x,.l,.y,.e,.e] ds bs)(hf:jm ds=true){ts:List Tok}{post:List Nat}(e:ex n ts=cs (ώ (γ ", ") (brTs bs))++41::post)(hi:iso ts=true):Got n (sr (okX m) ts) post ((bD [.x,.l,.y,.e,.e] ds).map (exN m)).sum:=by
 have g:=lA cn hR ha () e hi
 match ha with
 |.cons (b:=b1) a1 (.cons (b:=b2) a2 (.cons (b:=b3) a3 (.cons (b:=b4) a4 t4)))=>
  obtain⟨y1,rfl,rfl,h1⟩:=a1
  obtain⟨c,ps,rfl,rfl,sm⟩:=a2
  obtain⟨y3,rfl,rfl,h3⟩:=a3
  have ne:y1≠y3:=Q7 hf
  rw[ff]at e
  obtain⟨w1,-⟩:=dy cn.1 e (bW h1) sO
  obtain⟨k1,rs1,o1,er1,ir1,-⟩:=uB cn.1 h1 e sO hi
  obtain⟨q1,rfl,eq1⟩:=cj cn.1 () er1
  obtain⟨r1,rfl,ef1⟩:=cj cn.1 () eq1
  have ir1':=bJ (bJ ir1)
  rw[ff]at ef1
  obtain⟨k2,rs2,o2,er2,ir2,-⟩:=uF cn.1 sm ef1 sO ir1'
  obtain⟨q2,rfl,eq2⟩:=cj cn.1 () er2
  obtain⟨r2,rfl,ef2⟩:=cj cn.1 () eq2
  rw[ff]at ef2
  obtain⟨w2,-⟩:=dy cn.1 ef2 (bW h3) sO
  unfold sr
  rw[o1]
  show Got n (match okL 99 r1 with|some (_,some 44::some 32::r2)=>_|_=>_) post _
  rw[o2]
  show Got n (if word ts=word r2 then _ else _) post _
  rw[Q6 λz=>ne (dS (show cs (brT (.leaf y1))=cs (brT (.leaf y3)) by rw[<-w1,<-w2,z]))]
  exact g
theorem xx{n:Str}(cn:Cn n):∀m:Nat,ni n (Wx m) (exN m) (okX m)
 |0,_,_,_,_,h,_,_,_=>by rw[Wx]at h;exact h.elim
 |m+1,d,b,ts,post,h,e,hp,hi=>by
  have hn:=cn.1
  have hR:=xx cn m
  have hz:exN (m+1) d=1+((bb d).map (exN m)).sum:=by rw[exN,Q5 (fK h).1]
  rw[Wx]at h
  rcases h with ⟨i,h0,h1,rfl,rfl⟩|⟨y,hy,rfl,rfl⟩|⟨f,ds,bs,hf,hw,hr,l4,ha,rfl,rfl⟩|⟨r,d1,d2,b1,b2,hr,w1,w2,rfl,rfl⟩|⟨ds,bs,l1,l4,ha,rfl,rfl⟩|⟨p,ds,bs,hp',hf,ha,hfo,rfl,rfl⟩
  ·have h2:i<10^60:=by omega
   obtain⟨a,b⟩:=dy hn e (λc hc=>kG (bO h0 h2 c hc)) (mL hp)
   refine⟨1,rest ts,?_,b,dR hi,jR _ _⟩
   rw[oZ rfl (DE hn b hp),(kt hn (lim:=999999999999) h0 h2 () a).2]
   rfl
  ·obtain⟨a,b⟩:=dy hn e (bW hy) (mL hp)
   refine⟨1,rest ts,?_,b,dR hi,jR _ _⟩
   rw[oZ rfl (DE hn b hp),fC hn hy a]
   simp
  ·rw[jC]at e
   obtain⟨a,r,er,e2,i2⟩:=kD hn hf e hi
   have ep:bb (.tup [.str (γ "call"),.str f,.tup ds])=ds:=by
    show bb (.tup (.str gk.1::[.str f,.tup ds]))=ds
    rw[parts_of in5.1]
    show []++(ds++[])=ds
    rw[Θ,Ϭ]
   rw[hz,ep,okX,er]
   refine Got.up1 ?_
   have g:=zA cn hR ha l4 e2 i2
   by_cases hN:none∈word ts
   ·rw[zT hN]
    show Got n (if gl (word ts)=true then _ else _) post _
    rw[Q5 (fC hn hf a)]
    exact g
   ·rw[Bl a hN]
    show Got n (if f=γ "row" then _ else _) post _
    rw[Q6 (λz=>by rw[z]at hw;exact absurd hw ()),Q6 (by rw[hr];decide),my hw]
    show Got n (if nmB f=true then _ else _) post _
    rw[Q5 hf]
    exact g
  ·rw[jC]at e
   have hm:=eL hr
   have hf:=(ij r hm).1
   obtain⟨a,r',er,e2,i2⟩:=kD hn hf e hi
   have ep:bb (.tup [.str (γ "reckon"),.str r,d1,d2])=bD [.e,.e] [d1,d2]:=by
    show bb (.tup (.str iu.1::[.str r,d1,d2]))=_
    rw[parts_of in5.2.1]
    rfl
   rw[hz,ep,okX,er]
   refine Got.up1 ?_
   rw[dk cn hf (qh r hm).1 (kH hi) a]
   show Got n (if r=γ "row" then _ else _) post _
   rw[Q6 (qh r hm).2,Q5 hr]
   exact lA cn hR (.cons (s:=.e) w1 (.cons (s:=.e) w2 .nil)) () e2 i2
  ·rw[jC]at e
   have hf:nmB (γ "row")=true:=by decide +kernel
   obtain⟨a,r,er,e2,i2⟩:=kD hn hf e hi
   have ep:bb (.tup [.str (γ "row"),.tup ds])=ds:=by
    show bb (.tup (.str oF.1::[.tup ds]))=ds
    rw[parts_of in5.2.2.1]
    show ds++[]=ds
    rw[Θ]
   rw[hz,ep,okX,er]
   refine Got.up1 ?_
   rw[dk cn hf () (kH hi) a]
   show Got n (if γ "row"=γ "row" then _ else _) post _
   rw[Q5 rfl]
   exact vR cn hR ha (λz=>by rw[z]at l1;exact absurd l1 ()) l4 e2 i2
  ·rw[jC]at e
   obtain⟨a,r,er,e2,i2⟩:=kD hn (pR p hp') e hi
   rw[hz,parts_of hp',okX,er]
   refine Got.up1 ?_
   obtain⟨n1,n2,n3,n4,n5⟩:=rZ hf
   rw[dk cn (pR p hp') (CN p hp') (kH hi) a]
   show Got n (if p.1=γ "row" then _ else _) post _
   rw[Q6 n5,Q6 (by rw[vO p hp'];decide),vE p hp']
   show Got n (if frm p.1=true then _ else _) post _
   rw[Q5 hf]
   by_cases hfl:p.1=γ "fold"
   ·rw[Q5 hfl]
    have es:=AW p hp' hfl
    rw[es]at ha⊢
    exact Al cn hR ha (hfo.resolve_left λz=>z hfl) e2 i2
   ·rw[Q6 hfl]
    exact lA cn hR ha (AV p hp') e2 i2
def Cj(ts:List Tok):Bool:=match okL (10^60) ts with
 |some (_,[])=>false
 |_=>true
def CG(ts:List Tok):Bool:=iso ts&&(match okK 12 ts with
 |some (_,[])=>false
 |_=>true)
def Cz(ts:List Tok):Bool:=iso ts&&(match okX 8 ts with
 |some (k,[])=>decide (40<k)
 |_=>true)
theorem zu{n:Str}(cn:Cn n){ts:List Tok}(h:Cj ts=true){x:Str}(e:cs x=ex n ts)(hi:iso ts=true)(d:Dv):¬ WL d x:=λ⟨c,ps,_,ex',wa⟩=>by
 obtain⟨k,rs,o,er,-,-⟩:=yE cn.1 (lim:=10^60) wa (by have:=wa.1.c1;omega) (λp hp=>by have:=(wa.1.le p hp).1;omega) (ts:=ts) (post:=[]) (by rw[<-e,ex',Θ]) (.inl rfl) hi
 have:=sf cn.1 er
 unfold Cj at h
 rw[o,this]at h
 cases h
theorem zh{n:Str}(cn:Cn n){ts:List Tok}(h:CG ts=true){x:Str}(e:cs x=ex n ts)(d:Dv):¬ WK d x:=λ⟨k,_,ex',ka,z⟩=>by
 unfold CG at h
 rw[ο]at h
 obtain⟨k,rs,o,er,-,-⟩:=kg cn ka z (ts:=ts) (post:=[]) (by rw[<-e,ex',Θ]) (.inl rfl) h.1
 have:=sf cn.1 er
 rw[o,this]at h
 cases h.2
theorem zO{n:Str}(cn:Cn n){ts:List Tok}(h:Cz ts=true){x:Str}(e:cs x=ex n ts)(d:Dv):¬ WE d x:=λ⟨b,ex',wx,z⟩=>by
 unfold Cz at h
 rw[ο]at h
 obtain⟨k,rs,o,er,-,km⟩:=xx cn 8 d b ts [] wx (by rw[<-e,ex',Θ]) (.inl rfl) h.1
 have:=sf cn.1 er
 rw[o,this]at h
 have:=Q7 h.2
 omega
open PySem L2 KB XB L2.EX WR
inductive Te
 |l (x:Str)|n|a (p q:Te)
def tk:Te->List Tok
 |.l x=>(cs x).map some
 |.n=>[none]
 |.a p q=>tk p++tk q
def ev(n:Str):Te->Str
 |.l x=>x
 |.n=>n
 |.a p q=>ev n p++ev n q
theorem ky(n:Str):∀e:Te,cs (ev n e)=ex n (tk e)
 |.l x=>by rw[ev,tk,Ao]
 |.n=>by rw[ev,tk,ex,ex,Θ]
 |.a p q=>by
  rw[ev,tk,uu,<-ky n p,<-ky n q]
  exact ar _ _
def wt:List Tok->Nat
 |[]=>0
 |some _::r=>wt r+1
 |none::r=>wt r+8
theorem uN{n:Str}(hn:nmB n=true):∀u:List Tok,(ex n u).length<=wt u/\(ex n u).count 43<=u.count (some 43)
 |[]=>⟨θ _,θ _⟩
 |some c::r=>by
  obtain⟨a,b⟩:=uN hn r
  rw[ex,wt,χ,HL,HL]
  refine⟨(),?_⟩
  have:((some c==some 43):Bool)=(c==43):=rfl
  rw[this]
  omega
 |none::r=>by
  obtain⟨a,b⟩:=uN hn r
  have:=(aS hn).2
  have l:(cs n).length=n.cps.size:=ψ
  rw[ex,wt,Ε,Ϟ,Ϫ (tM hn ()),HL]
  exact⟨(),()⟩
theorem tJ{n:Str}(hn:nmB n=true)(e:Te):(ev n e).length<=wt (tk e):=by
 have:=(uN hn (tk e)).1
 rw[<-ky,ψ]at this
 exact this
theorem ad{n:Str}(hn:nmB n=true)(p q:Te)(h:wt (tk p)+wt (tk q)<=1000:=by decide +kernel):(ev n p).length+(ev n q).length<=sizeLine:=by
 have:=tJ hn p
 have:=tJ hn q
 rw[τ]
 omega
def txB(u:List Tok):Bool:=decide (wt u<=800)&&(decide (u.count (some 43)<=20)&&iso u)
def gL(e:Te):Bool:=txB (tk e)&&Cj (tk e)
def gK(e:Te):Bool:=txB (tk e)&&CG (tk e)
def gE(e:Te):Bool:=txB (tk e)&&Cz (tk e)
theorem xL{n:Str}(hn:nmB n=true){e:Te}(h:txB (tk e)=true):TxS (ev n e)/\iso (tk e)=true:=by
 unfold txB at h
 simp only[ο,decide_eq_true_eq]at h
 have:=tJ hn e
 have h2:=(uN hn (tk e)).2
 rw[<-ky]at h2
 exact⟨⟨(),ϕ h2 h.2.1⟩,h.2.2⟩
def dN(W:Dv->Str->Prop)(H:Hp)(xs:List V):Prop:=∀v∈xs,NoT W H v
theorem jp{n:Str}(cn:Cn n){e:Te}(h:gL e=true)(H:Hp):NoT WL H (.str (ev n e)):=by
 unfold gL at h
 rw[ο]at h
 obtain⟨a,b⟩:=xL cn.1 h.1
 exact .inr ⟨_,rfl,a,zu cn h.2 (ky n e) b⟩
theorem ke{n:Str}(cn:Cn n){e:Te}(h:gK e=true)(H:Hp):NoT WK H (.str (ev n e)):=by
 unfold gK at h
 rw[ο]at h
 exact .inr ⟨_,rfl,(xL cn.1 h.1).1,zh cn h.2 (ky n e)⟩
theorem cq{n:Str}(cn:Cn n){e:Te}(h:gE e=true)(H:Hp):NoT WE H (.str (ev n e)):=by
 unfold gE at h
 rw[ο]at h
 exact .inr ⟨_,rfl,(xL cn.1 h.1).1,zO cn h.2 (ky n e)⟩
def sv(n:Str)(e:Te):V:=.str (ev n e)
def xb(W:Dv->Str->Prop)(m:Nat):Sp:=λvs H Q _=>∃n:Str,vs=[.str n]/\Cn n/\∀H' r xs,aj H H'->H' r=some (.lst xs)->xs.length=m->dN W H' xs->Q (.ref r) H'
def fV:Te:=.a (.a (.l (Txt.mul (γ "row(1, ") 12)) (.l (γ "whole"))) (.l (Txt.mul (γ ")") 12))
def bi:Te:=.a (.a (.l (Txt.mul (γ "first(") 8)) (.l (γ "1"))) (.l (Txt.mul (γ ")") 8))
def aP:Te:=.a (.a (.l (γ "row(")) (.l (Txt.join (γ ", ") (ϓ 4 (γ "row(1, 1, 1, 1)"))))) (.l (γ ")"))
theorem aO{A:Hp->Prop}{H0:Hp}{q:Addr}{o:HO}(h:∀H1,H1=upd H0 q o->A H1):A (upd H0 q o):=h _ rfl
theorem cx{i:Nat}{x:V}{σ σ':St}{H:Hp}{Y:St->Hp->Prop}(e:σ.set i (some x)=σ')(h:Y σ' H):db i x σ H Y:=by subst e;exact h
theorem pd{W:Dv->Str->Prop}{H:Hp}{xs ys:List V}(h1:dN W H xs)(h2:dN W H ys):dN W H (xs++ys):=λv hv=>(Φ.mp hv).elim (h1 v) (h2 v)
theorem jL{W:Dv->Str->Prop}{n:Str}{H:Hp}{L:List Te}{g:Te->Bool}(hg:∀{e:Te},g e=true->∀H,NoT W H (.str (ev n e)))(h:∀e∈L,g e=true):dN W H (L.map (sv n)):=λv hv=>by
 obtain⟨e,he,rfl⟩:=Ϡ.mp hv
 exact hg (h e he) H
theorem step{W:Dv->Str->Prop}{n:Str}{H H0 H1:Hp}{p q:Addr}{xs:List V}{a:Nat}{L:List Te}{g:Te->Bool}(hg:∀{e:Te},g e=true->∀H,NoT W H (.str (ev n e)))(h:∀e∈L,g e=true)(hH:H1=upd (upd H0 p (.lst (L.map (sv n)))) q (.lst (xs++L.map (sv n))))(np:H0 p=none)(nq:upd H0 p (.lst (L.map (sv n))) q=none)(s0:aj H H0)(a0:dN W H0 xs)(l0:xs.length=a):
  ∃ys,aj H H1/\H1 q=some (.lst ys)/\ys.length=a+L.length/\dN W H1 ys:=by
 have s1:=(ac np (.lst (L.map (sv n)))).trans (ac nq (.lst (xs++L.map (sv n))))
 rw[<-hH]at s1
 exact⟨_,s0.trans s1,by rw[hH];exact aa,by rw[Ε,ς,l0],pd (λv hv=>(a0 v hv).mono s1) (jL hg h)⟩
def tL0:List Te:=[(.l (γ "")),(.l (γ " ")),(.l (γ "+")),(.l (γ "+3")),(.l (γ "3+")),(.a (.l (γ "3+")) .n),(.a .n (.l (γ "+"))),(.a (.l (γ "+")) .n)]
theorem BP:∀e∈tL0,gL e=true:=by decide +kernel
def tL1:List Te:=[(.a .n (.l (γ "+0"))),(.l (γ "0+0")),(.l (γ "00"))]
theorem Dp:∀e∈tL1,gL e=true:=by decide +kernel
def tL2:List Te:=[(.l (γ "03")),(.a (.l (γ "1*")) .n),(.a (.l (γ "0*")) .n),(.a (.l (γ "*")) .n),(.l (γ "2*")),(.a (.l (γ "2")) .n),(.a (.l (γ "2 *")) .n),(.a (.a (.l (γ "2*")) .n) (.l (γ "*2"))),(.l (γ "-1"))]
theorem DA:∀e∈tL2,gL e=true:=by decide +kernel
def tL3:List Te:=[(.a (.a .n (.l (γ "+"))) .n),(.a (.a (.l (γ "z+")) .n) (.l (γ "+b"))),(.a .n (.l (γ "*2"))),(.a .n (.l (γ "+2+3"))),(.a (.a .n (.l (γ "+2*"))) .n),(.a (.l (γ "2**")) .n)]
theorem BU:∀e∈tL3,gL e=true:=by decide +kernel
def tL4:List Te:=[(.a .n (.l (γ " + 2"))),(.a .n (.l (γ "+ 2"))),(.l (Txt.mul (γ "7") 61)),(.a (.a (.l (Txt.mul (γ "7") 61)) (.l (γ "*"))) .n),(.l (γ "abcdefghi")),(.l (γ "A"))]
theorem CA:∀e∈tL4,gL e=true:=by decide +kernel
def tL5:List Te:=[(.a .n (.l (γ "_"))),(.a (.a (.l (γ "(")) .n) (.l (γ ")")))]
theorem CI:∀e∈tL5,gL e=true:=by decide +kernel
def tL6:List Te:=[(.l (γ "2*3")),(.l (γ "1.0")),(.a (.l (γ "02*")) .n),(.a .n (.l (γ "+02")))]
theorem BV:∀e∈tL6,gL e=true:=by decide +kernel
abbrev eC:Stmt:=top 74
theorem gg:am ["_law_name","_law_some"] ["_law_name"] (af eC):=by trivial
theorem md{f:Addr}{fd:Γ}(F:Fun K "_law_no_lengths" "_law_no_lengths" eC f fd)(T:Txt K mg):ap P w K mg base CX0 1 f fd ["_law_name"] (xb WL 42):=by
 have nd:=gg.nd
 refine F.ok gg (λvs H Q E h=>?_) (λcdv A outer s H vs Q E hr h=>?_)
 ·obtain⟨n,rfl,_⟩:=h
  rfl
 obtain⟨n,rfl,cn,q⟩:=h
 have hn:=cn.1
 refine⟨_,(@un _ _ _ (wbO (wbM 1 nd rfl (Ν rfl) (waM (wae waN (wae waC (wae (waX (wae waC (wae (waX waf) waf rfl) rfl)) (wae (waM (wae waV waf rfl)) (wae waV (wae waV (wae waV (wae waV (wae waV (wae (waQ ae waV (wv 0 rfl)) (wae (waQ ae (wv 0 rfl) waV) (wae (waQ ae waV (wv 0 rfl)) waf rfl) rfl) rfl) rfl) rfl) rfl) rfl) rfl) rfl) rfl) rfl) rfl)) rfl ()) (wbO (wbM 1 nd rfl (Ν rfl) (waQ aQ (wv 1 rfl) (waM (wae (waQ ae (wv 0 rfl) waV) (wae waV (wae waV waf rfl) rfl) rfl))) rfl ()) (wbO (wbM 1 nd rfl (Ν rfl) (waQ aQ (wv 1 rfl) (waM (wae waV (wae (waQ ae waV (wv 0 rfl)) (wae (waQ ae waV (wv 0 rfl)) (wae (waQ ae waV (wv 0 rfl)) (wae waV (wae (waQ ae waV (wv 0 rfl)) (wae (waQ ae waV (wv 0 rfl)) (wae (waQ ae (waQ ae waV (wv 0 rfl)) waV) (wae waV waf rfl) rfl) rfl) rfl) rfl) rfl) rfl) rfl) rfl))) rfl ()) (wbO (wbM 1 nd rfl (Ν rfl) (waQ aQ (wv 1 rfl) (waM (wae (waQ ae (waQ ae (wv 0 rfl) waV) (wv 0 rfl)) (wae (waQ ae (waQ ae waV (wv 0 rfl)) waV) (wae (waQ ae (wv 0 rfl) waV) (wae (waQ ae (wv 0 rfl) waV) (wae (waQ ae (waQ ae (wv 0 rfl) waV) (wv 0 rfl)) (wae (waQ ae waV (wv 0 rfl)) waf rfl) rfl) rfl) rfl) rfl) rfl))) rfl ()) (wbO (wbM 1 nd rfl (Ν rfl) (waQ aQ (wv 1 rfl) (waM (wae (waQ ae (wv 0 rfl) waV) (wae (waQ ae (wv 0 rfl) waV) (wae (waQ bH waV waC) (wae (waQ ae (waQ ae (waQ bH waV waC) waV) (wv 0 rfl)) (wae waV (wae waV waf rfl) rfl) rfl) rfl) rfl) rfl))) rfl ()) (wbO (wbM 1 nd rfl (Ν rfl) (waQ aQ (wv 1 rfl) (waM (wae (waQ ae (wv 0 rfl) waV) (wae (waQ ae (waQ ae waV (wv 0 rfl)) waV) waf rfl) rfl))) rfl ()) (wbQ (wbK (waQ aQ (wv 1 rfl) (waM (wae waV (wae waV (wae (waQ ae waV (wv 0 rfl)) (wae (waQ ae (wv 0 rfl) waV) waf rfl) rfl) rfl) rfl)))))))))))),?_⟩
 have z0:([]:List V).length<=sizeLine:=ϖ _
 refine⟨z0,λe1 k1=>⟨z2,λe2 k2=>⟨z1,λe3 k3=>⟨_,rfl,_,_,rfl,rfl,ad hn (.l (γ "3+")) .n,_,rfl,_,_,rfl,rfl,ad hn .n (.l (γ "+")),_,rfl,_,_,rfl,rfl,ad hn (.l (γ "+")) .n,zle (n:=12) (m:=1000) () (θ _),λq0 k0=>aO λH0 hH=>?_⟩⟩⟩⟩
 obtain⟨x0,s0,w0,l0,a0⟩:∃ys,aj H H0/\H0 q0=some (.lst ys)/\ys.length=12/\dN WL H0 ys:=by
  refine⟨[.non,.int 3,.ref e2,.ref e3]++tL0.map (sv n),by rw[hH];exact(ac k1 _).trans ((ac k2 _).trans ((ac k3 _).trans (ac k0 _))),by rw[hH];exact aa,rfl,pd ?_ (jL (jp cn) BP)⟩
  have d1:Rep H0 (.tup [.int 3,.tup []]) (.ref e2):=by
   rw[hH]
   exact bp ((ac k3 _).trans (ac k0 _) _ _ aa) (by simp only[Rep]) (by rw[Rep];exact⟨e1,_,rfl,((ac k2 _).trans ((ac k3 _).trans (ac k0 _))) _ _ aa,by simp only[Reps]⟩)
  intro v hv
  rcases ι.mp hv with rfl|hv
  ·exact .inl ⟨.non,by simp only[Rep],rfl⟩
  rcases ι.mp hv with rfl|hv
  ·exact .inl ⟨.int 3,by simp only[Rep],rfl⟩
  rcases ι.mp hv with rfl|hv
  ·exact .inl ⟨_,d1,rfl⟩
  rw[ξ.mp hv]
  exact .inl ⟨.lst [.str (γ "3")],by rw[hH,Rep];exact⟨e3,_,rfl,ac k0 _ _ _ aa,by simp only[Reps];exact⟨_,_,rfl,by simp only[Rep],rfl⟩⟩,rfl⟩
 clear hH
 refine cx (σ':=[some (.str n),some (.ref q0)]) rfl ?_
 refine⟨_,rfl,_,rfl,_,_,rfl,rfl,ad hn .n (.l (γ "+0")),zle (n:=3) (m:=1000) () (θ _),λp1 n1=>⟨_,p1,_,_,rfl,rfl,ac n1 _ _ _ w0,aa,by rw[l0];exact zle (n:=12+3) (m:=1000) () (θ _),λq1 k1=>aO λH1 hH=>?_⟩⟩
 obtain⟨x1,s1,w1,l1,a1⟩:=step (L:=tL1) (jp cn) Dp hH n1 k1 s0 a0 l0
 clear hH
 refine cx (σ':=[some (.str n),some (.ref q1)]) rfl ?_
 refine⟨_,rfl,_,rfl,_,_,rfl,rfl,ad hn (.l (γ "1*")) .n,_,rfl,_,_,rfl,rfl,ad hn (.l (γ "0*")) .n,_,rfl,_,_,rfl,rfl,ad hn (.l (γ "*")) .n,_,rfl,_,_,rfl,rfl,ad hn (.l (γ "2")) .n,_,rfl,_,_,rfl,rfl,ad hn (.l (γ "2 *")) .n,_,rfl,_,_,rfl,rfl,ad hn (.l (γ "2*")) .n,_,_,rfl,rfl,ad hn (.a (.l (γ "2*")) .n) (.l (γ "*2")),zle (n:=9) (m:=1000) () (θ _),λp2 n2=>⟨_,p2,_,_,rfl,rfl,ac n2 _ _ _ w1,aa,by rw[l1];exact zle (n:=15+9) (m:=1000) () (θ _),λq2 k2=>aO λH2 hH=>?_⟩⟩
 obtain⟨x2,s2,w2,l2,a2⟩:=step (L:=tL2) (jp cn) DA hH n2 k2 s1 a1 l1
 clear hH
 refine cx (σ':=[some (.str n),some (.ref q2)]) rfl ?_
 refine⟨_,rfl,_,rfl,_,_,rfl,rfl,ad hn .n (.l (γ "+")),_,rfl,_,_,rfl,rfl,ad hn (.a .n (.l (γ "+"))) .n,_,rfl,_,_,rfl,rfl,ad hn (.l (γ "z+")) .n,_,_,rfl,rfl,ad hn (.a (.l (γ "z+")) .n) (.l (γ "+b")),_,rfl,_,_,rfl,rfl,ad hn .n (.l (γ "*2")),_,rfl,_,_,rfl,rfl,ad hn .n (.l (γ "+2+3")),_,rfl,_,_,rfl,rfl,ad hn .n (.l (γ "+2*")),_,rfl,_,_,rfl,rfl,ad hn (.a .n (.l (γ "+2*"))) .n,_,rfl,_,_,rfl,rfl,ad hn (.l (γ "2**")) .n,zle (n:=6) (m:=1000) () (θ _),λp3 n3=>⟨_,p3,_,_,rfl,rfl,ac n3 _ _ _ w2,aa,by rw[l2];exact zle (n:=24+6) (m:=1000) () (θ _),λq3 k3=>aO λH3 hH=>?_⟩⟩
 obtain⟨x3,s3,w3,l3,a3⟩:=step (L:=tL3) (jp cn) BU hH n3 k3 s2 a2 l2
 clear hH
 refine cx (σ':=[some (.str n),some (.ref q3)]) rfl ?_
 refine⟨_,rfl,_,rfl,_,_,rfl,rfl,ad hn .n (.l (γ " + 2")),_,rfl,_,_,rfl,rfl,ad hn .n (.l (γ "+ 2")),_,_,rfl,rfl,(),(),(),_,_,rfl,rfl,(),(),(),_,_,rfl,rfl,ad hn (.l (Txt.mul (γ "7") 61)) (.l (γ "*")),_,rfl,_,_,rfl,rfl,ad hn (.a (.l (Txt.mul (γ "7") 61)) (.l (γ "*"))) .n,zle (n:=6) (m:=1000) () (θ _),λp4 n4=>⟨_,p4,_,_,rfl,rfl,ac n4 _ _ _ w3,aa,by rw[l3];exact zle (n:=30+6) (m:=1000) () (θ _),λq4 k4=>aO λH4 hH=>?_⟩⟩
 obtain⟨x4,s4,w4,l4,a4⟩:=step (L:=tL4) (jp cn) CA hH n4 k4 s3 a3 l3
 clear hH
 refine cx (σ':=[some (.str n),some (.ref q4)]) rfl ?_
 refine⟨_,rfl,_,rfl,_,_,rfl,rfl,ad hn .n (.l (γ "_")),_,rfl,_,_,rfl,rfl,ad hn (.l (γ "(")) .n,_,_,rfl,rfl,ad hn (.a (.l (γ "(")) .n) (.l (γ ")")),zle (n:=2) (m:=1000) () (θ _),λp5 n5=>⟨_,p5,_,_,rfl,rfl,ac n5 _ _ _ w4,aa,by rw[l4];exact zle (n:=36+2) (m:=1000) () (θ _),λq5 k5=>aO λH5 hH=>?_⟩⟩
 obtain⟨x5,s5,w5,l5,a5⟩:=step (L:=tL5) (jp cn) CI hH n5 k5 s4 a4 l4
 clear hH
 refine cx (σ':=[some (.str n),some (.ref q5)]) rfl ?_
 refine⟨_,rfl,_,rfl,_,_,rfl,rfl,ad hn (.l (γ "02*")) .n,_,rfl,_,_,rfl,rfl,ad hn .n (.l (γ "+02")),zle (n:=4) (m:=1000) () (θ _),λp6 n6=>⟨_,p6,_,_,rfl,rfl,ac n6 _ _ _ w5,aa,by rw[l5];exact zle (n:=38+4) (m:=1000) () (θ _),λq6 k6=>aO λH6 hH=>?_⟩⟩
 obtain⟨x6,s6,w6,l6,a6⟩:=step (L:=tL6) (jp cn) BV hH n6 k6 s5 a5 l5
 clear hH
 exact q _ _ _ s6 w6 l6 a6
def tK0:List Te:=[(.l (γ "")),(.l (γ "Whole")),(.l (γ "whol")),(.l (γ "wholes")),(.l (γ " whole")),(.l (γ "whole ")),(.l (γ "whole()"))]
theorem BR:∀e∈tK0,gK e=true:=by decide +kernel
def tK1:List Te:=[(.l (γ "whole(3)")),(.l (γ "place")),(.l (γ "place()"))]
theorem Dm:∀e∈tK1,gK e=true:=by decide +kernel
def tK2:List Te:=[(.a (.l (γ "place(")) .n),(.l (γ "place(100)")),(.a (.a (.l (γ "place(100*")) .n) (.l (γ ")"))),(.l (γ "place(1, 2)")),(.l (γ "place(3*)")),(.l (γ "place (3)"))]
theorem Dt:∀e∈tK2,gK e=true:=by decide +kernel
def tK3:List Te:=[(.l (γ "row(3)")),(.l (γ "row(3,whole)")),(.l (γ "row(3,  whole)")),(.l (γ "row(whole, 3)")),(.l (γ "row(3, whole"))]
theorem BN:∀e∈tK3,gK e=true:=by decide +kernel
def tK4:List Te:=[(.l (γ "row(3, whole))")),fV,.n]
theorem Cd:∀e∈tK4,gK e=true:=by decide +kernel
def tK5:List Te:=[(.l (γ "pair(whole)")),(.l (γ "pair(whole, whole, whole)")),(.l (γ "pair(3, whole)")),(.l (γ "pair[whole, whole]")),(.l (γ "kind(whole)"))]
theorem Dq:∀e∈tK5,gK e=true:=by decide +kernel
abbrev gn:Stmt:=top 75
theorem jx:am ["_law_name","_law_deep","_law_some"] ["_law_name"] (af gn):=by trivial
theorem rJ{f:Addr}{fd:Γ}(F:Fun K "_law_no_kinds" "_law_no_kinds" gn f fd)(T:Txt K mg):ap P w K mg base CX0 1 f fd ["_law_name"] (xb WK 32):=by
 have nd:=jx.nd
 refine F.ok jx (λvs H Q E h=>?_) (λcdv A outer s H vs Q E hr h=>?_)
 ·obtain⟨n,rfl,_⟩:=h
  rfl
 obtain⟨n,rfl,cn,q⟩:=h
 have hn:=cn.1
 refine⟨_,(@un _ _ _ (wbO (wbM 1 nd rfl (Ν rfl) (waQ ae (waQ ae (waQ bH waV waC) waV) (waQ bH waV waC)) rfl ()) (wbO (wbM 2 nd rfl (Ν rfl) (waM (wae waN (wae waC (wae (waX (wae waV waf rfl)) (wae waV (wae waV (wae waV (wae waV (wae waV (wae waV (wae waV waf rfl) rfl) rfl) rfl) rfl) rfl) rfl) rfl) rfl) rfl)) rfl ()) (wbO (wbM 2 nd rfl (Ν rfl) (waQ aQ (wv 2 rfl) (waM (wae waV (wae waV (wae waV waf rfl) rfl) rfl))) rfl ()) (wbO (wbM 2 nd rfl (Ν rfl) (waQ aQ (wv 2 rfl) (waM (wae (waQ ae waV (wv 0 rfl)) (wae waV (wae (waQ ae (waQ ae waV (wv 0 rfl)) waV) (wae waV (wae waV (wae waV waf rfl) rfl) rfl) rfl) rfl) rfl))) rfl ()) (wbO (wbM 2 nd rfl (Ν rfl) (waQ aQ (wv 2 rfl) (waM (wae waV (wae waV (wae waV (wae waV (wae waV waf rfl) rfl) rfl) rfl) rfl))) rfl ()) (wbO (wbM 2 nd rfl (Ν rfl) (waQ aQ (wv 2 rfl) (waM (wae waV (wae (wv 1 rfl) (wae (wv 0 rfl) waf rfl) rfl) rfl))) rfl ()) (wbQ (wbK (waQ aQ (wv 2 rfl) (waM (wae waV (wae waV (wae waV (wae waV (wae waV waf rfl) rfl) rfl) rfl) rfl)))))))))))),?_⟩
 refine⟨_,_,rfl,rfl,(),(),(),_,_,rfl,rfl,ad hn (.l (Txt.mul (γ "row(1, ") 12)) (.l (γ "whole")),_,_,rfl,rfl,(),(),(),_,_,rfl,rfl,ad hn (.a (.l (Txt.mul (γ "row(1, ") 12)) (.l (γ "whole"))) (.l (Txt.mul (γ ")") 12)),?_⟩
 refine⟨z1,λe2 k2=>⟨zle (n:=10) (m:=1000) () (θ _),λq0 k0=>aO λH0 hH=>?_⟩⟩
 obtain⟨x0,s0,w0,l0,a0⟩:∃ys,aj H H0/\H0 q0=some (.lst ys)/\ys.length=10/\dN WK H0 ys:=by
  refine⟨[.non,.int 3,.ref e2]++tK0.map (sv n),by rw[hH];exact(ac k2 _).trans (ac k0 _),by rw[hH];exact aa,rfl,pd ?_ (jL (ke cn) BR)⟩
  have d1:Rep H0 (.tup [.str (γ "whole")]) (.ref e2):=by
   rw[hH]
   exact uI (ac k0 _ _ _ aa) (by simp only[Rep])
  intro v hv
  rcases ι.mp hv with rfl|hv
  ·exact .inl ⟨.non,by simp only[Rep],rfl⟩
  rcases ι.mp hv with rfl|hv
  ·exact .inl ⟨.int 3,by simp only[Rep],rfl⟩
  rcases ι.mp hv with rfl|hv
  ·exact .inl ⟨_,d1,rfl⟩
  cases hv
 clear hH
 refine cx (σ':=[some (.str n),some (.str (ev n fV)),some (.ref q0)]) rfl ?_
 refine⟨_,rfl,zle (n:=3) (m:=1000) () (θ _),λp1 n1=>⟨_,p1,_,_,rfl,rfl,ac n1 _ _ _ w0,aa,by rw[l0];exact zle (n:=10+3) (m:=1000) () (θ _),λq1 k1=>aO λH1 hH=>?_⟩⟩
 obtain⟨x1,s1,w1,l1,a1⟩:=step (L:=tK1) (ke cn) Dm hH n1 k1 s0 a0 l0
 clear hH
 refine cx (σ':=[some (.str n),some (.str (ev n fV)),some (.ref q1)]) rfl ?_
 refine⟨_,rfl,_,rfl,_,_,rfl,rfl,ad hn (.l (γ "place(")) .n,_,rfl,_,_,rfl,rfl,ad hn (.l (γ "place(100*")) .n,_,_,rfl,rfl,ad hn (.a (.l (γ "place(100*")) .n) (.l (γ ")")),zle (n:=6) (m:=1000) () (θ _),λp2 n2=>⟨_,p2,_,_,rfl,rfl,ac n2 _ _ _ w1,aa,by rw[l1];exact zle (n:=13+6) (m:=1000) () (θ _),λq2 k2=>aO λH2 hH=>?_⟩⟩
 obtain⟨x2,s2,w2,l2,a2⟩:=step (L:=tK2) (ke cn) Dt hH n2 k2 s1 a1 l1
 clear hH
 refine cx (σ':=[some (.str n),some (.str (ev n fV)),some (.ref q2)]) rfl ?_
 refine⟨_,rfl,zle (n:=5) (m:=1000) () (θ _),λp3 n3=>⟨_,p3,_,_,rfl,rfl,ac n3 _ _ _ w2,aa,by rw[l2];exact zle (n:=19+5) (m:=1000) () (θ _),λq3 k3=>aO λH3 hH=>?_⟩⟩
 obtain⟨x3,s3,w3,l3,a3⟩:=step (L:=tK3) (ke cn) BN hH n3 k3 s2 a2 l2
 clear hH
 refine cx (σ':=[some (.str n),some (.str (ev n fV)),some (.ref q3)]) rfl ?_
 refine⟨_,rfl,_,rfl,_,rfl,zle (n:=3) (m:=1000) () (θ _),λp4 n4=>⟨_,p4,_,_,rfl,rfl,ac n4 _ _ _ w3,aa,by rw[l3];exact zle (n:=24+3) (m:=1000) () (θ _),λq4 k4=>aO λH4 hH=>?_⟩⟩
 obtain⟨x4,s4,w4,l4,a4⟩:=step (L:=tK4) (ke cn) Cd hH n4 k4 s3 a3 l3
 clear hH
 refine cx (σ':=[some (.str n),some (.str (ev n fV)),some (.ref q4)]) rfl ?_
 refine⟨_,rfl,zle (n:=5) (m:=1000) () (θ _),λp5 n5=>⟨_,p5,_,_,rfl,rfl,ac n5 _ _ _ w4,aa,by rw[l4];exact zle (n:=27+5) (m:=1000) () (θ _),λq5 k5=>aO λH5 hH=>?_⟩⟩
 obtain⟨x5,s5,w5,l5,a5⟩:=step (L:=tK5) (ke cn) Dq hH n5 k5 s4 a4 l4
 clear hH
 exact q _ _ _ s5 w5 l5 a5
def tE0:List Te:=[(.l (γ "")),(.l (γ " ")),(.l (γ "00")),(.l (γ "01")),(.l (γ "-1")),(.l (γ "+1")),(.a (.l (γ "1")) (.l (Txt.mul (γ "0") 12))),(.l (Txt.mul (γ "7") 61)),(.l (γ "1 "))]
theorem BX:∀e∈tE0,gE e=true:=by decide +kernel
def tE1:List Te:=[(.l (γ " 1")),(.l (γ "(1)")),(.l (γ "A")),(.l (γ "abcdefghi"))]
theorem Cs:∀e∈tE1,gE e=true:=by decide +kernel
def tE2:List Te:=[(.a (.a .n (.l (γ "()"))) .n),(.a .n (.l (γ "("))),(.a .n (.l (γ ")"))),(.a .n (.l (γ "(1,2)"))),(.a .n (.l (γ "(1,  2)")))]
theorem CJ:∀e∈tE2,gE e=true:=by decide +kernel
def tE3:List Te:=[(.a .n (.l (γ "(1, )"))),(.a .n (.l (γ "(, 1)")))]
theorem CU:∀e∈tE3,gE e=true:=by decide +kernel
def tE4:List Te:=[(.a .n (.l (γ " (1)"))),(.a .n (.l (γ "(1, 2, 3, 4, 5)"))),(.l (γ "row()")),(.l (γ "row(1, 2, 3, 4, 5)")),(.l (γ "row("))]
theorem Cu:∀e∈tE4,gE e=true:=by decide +kernel
def tE5:List Te:=[(.l (γ "number(3)")),(.a (.a (.l (γ "name(")) .n) (.l (γ ")"))),(.a (.a (.l (γ "call(")) .n) (.l (γ ")"))),(.l (γ "reckon(plus, 1, 2)"))]
theorem CK:∀e∈tE5,gE e=true:=by decide +kernel
def tE6:List Te:=[(.l (γ "plus(1)")),(.l (γ "plus(1, 2, 3)"))]
theorem BS:∀e∈tE6,gE e=true:=by decide +kernel
def tE7:List Te:=[(.l (γ "if(1, 2)")),(.l (γ "if(1, 2, 3, 4)")),(.l (γ "let(1, 2, 3)")),(.a (.a (.l (γ "let(")) .n) (.l (γ ", 2)"))),(.l (γ "pair(1)"))]
theorem CT:∀e∈tE7,gE e=true:=by decide +kernel
def tE8:List Te:=[(.l (γ "pair(1, 2, 3)")),(.l (γ "first()"))]
theorem BL:∀e∈tE8,gE e=true:=by decide +kernel
def tE9:List Te:=[(.l (γ "first(1, 2)")),(.l (γ "none()")),(.l (γ "none(3)")),(.l (γ "none(row(1, 2))")),(.l (γ "none(place(100))")),(.l (γ "length()")),(.l (γ "length(100)"))]
theorem BZ:∀e∈tE9,gE e=true:=by decide +kernel
def Ee:List Te:=[(.a (.a (.l (γ "length(1*")) .n) (.l (γ ")"))),(.a (.a (.l (γ "length(")) .n) (.l (γ "+0)"))),(.l (γ "length(plus(1, 2))")),(.l (γ "take(1)"))]
theorem Av:∀e∈Ee,gE e=true:=by decide +kernel
def DP:List Te:=[(.l (γ "take(first(1), 2)"))]
theorem zb:∀e∈DP,gE e=true:=by decide +kernel
def DR:List Te:=[(.l (γ "take(1, 2, 3)")),(.l (γ "place(1)")),(.l (γ "place(1, 2, 3)")),(.l (γ "place(100, 1)")),(.l (γ "up(1)")),(.l (γ "wide(1)"))]
theorem zr:∀e∈DR,gE e=true:=by decide +kernel
def Ey:List Te:=[(.l (γ "mirror()")),(.l (γ "zip(1)"))]
theorem An:∀e∈Ey,gE e=true:=by decide +kernel
def Fd:List Te:=[(.l (γ "turn(1, 2)")),(.l (γ "get(1)")),(.l (γ "fork(1, 2, 3, 4, 5)")),(.a (.a (.l (γ "fork(1, 2, ")) .n) (.l (γ ", 4)"))),(.l (γ "when(1, 2, 3, 4, 5)"))]
theorem AM:∀e∈Fd,gE e=true:=by decide +kernel
def EW:List Te:=[(.l (γ "loop(1, 2, 3)")),(.a (.a (.l (γ "loop(")) .n) (.l (γ ", first(1), 3)"))),(.a (.a (.a (.a (.l (γ "fold(")) .n) (.l (γ ", 2, "))) .n) (.l (γ ", 4, 5)")))]
theorem zk:∀e∈EW,gE e=true:=by decide +kernel
def DZ:List Te:=[(.a (.a (.l (γ "fold(")) .n) (.l (γ ", 2, 3, 4, 5)"))),bi,(.a (.a (.a (.a (.l (γ "pair(")) aP) (.l (γ ", "))) aP) (.l (γ ")"))),(.a (.a (.l (γ "row(")) .n) (.l (γ " 1)")))]
theorem AE:∀e∈DZ,gE e=true:=by decide +kernel
abbrev cC:Stmt:=top 76
theorem dz:am ["_law_name","_law_deep","_law_wide","_law_some"] ["_law_name"] (af cC):=by trivial
theorem iw{f:Addr}{fd:Γ}(F:Fun K "_law_no_expressions" "_law_no_expressions" cC f fd)(T:Txt K mg):ap P w K mg base CX0 1 f fd ["_law_name"] (xb WE 73):=by
 have nd:=dz.nd
 refine F.ok dz (λvs H Q E h=>?_) (λcdv A outer s H vs Q E hr h=>?_)
 ·obtain⟨n,rfl,_⟩:=h
  rfl
 obtain⟨n,rfl,cn,q⟩:=h
 have hn:=cn.1
 refine⟨_,(@un _ _ _ (wbO (wbM 1 nd rfl (Ν rfl) (waQ ae (waQ ae (waQ bH waV waC) waV) (waQ bH waV waC)) rfl ()) (wbO (wbM 2 nd rfl (Ν rfl) (waQ ae (waQ ae waV (waj m6 F9 F_ pf waV (wae (waQ CZ (waM (wae waV waf rfl)) waC) waf rfl) rfl rfl rfl rfl rfl)) waV) rfl ()) (wbO (wbM 3 nd rfl (Ν rfl) (waM (wae waN (wae waC (wae (waX (wae waV (wae waC waf rfl) rfl)) (wae waV (wae waV (wae waV (wae waV (wae waV (wae waV (wae (waQ ae waV (waQ bH waV waC)) (wae (waQ bH waV waC) (wae waV waf rfl) rfl) rfl) rfl) rfl) rfl) rfl) rfl) rfl) rfl) rfl) rfl)) rfl ()) (wbO (wbM 3 nd rfl (Ν rfl) (waQ aQ (wv 3 rfl) (waM (wae waV (wae waV (wae waV (wae waV waf rfl) rfl) rfl) rfl))) rfl ()) (wbO (wbM 3 nd rfl (Ν rfl) (waQ aQ (wv 3 rfl) (waM (wae (waQ ae (waQ ae (wv 0 rfl) waV) (wv 0 rfl)) (wae (waQ ae (wv 0 rfl) waV) (wae (waQ ae (wv 0 rfl) waV) (wae (waQ ae (wv 0 rfl) waV) (wae (waQ ae (wv 0 rfl) waV) waf rfl) rfl) rfl) rfl) rfl))) rfl ()) (wbO (wbM 3 nd rfl (Ν rfl) (waQ aQ (wv 3 rfl) (waM (wae (waQ ae (wv 0 rfl) waV) (wae (waQ ae (wv 0 rfl) waV) waf rfl) rfl))) rfl ()) (wbO (wbM 3 nd rfl (Ν rfl) (waQ aQ (wv 3 rfl) (waM (wae (waQ ae (wv 0 rfl) waV) (wae (waQ ae (wv 0 rfl) waV) (wae waV (wae waV (wae waV waf rfl) rfl) rfl) rfl) rfl))) rfl ()) (wbO (wbM 3 nd rfl (Ν rfl) (waQ aQ (wv 3 rfl) (waM (wae waV (wae (waQ ae (waQ ae waV (wv 0 rfl)) waV) (wae (waQ ae (waQ ae waV (wv 0 rfl)) waV) (wae waV waf rfl) rfl) rfl) rfl))) rfl ()) (wbO (wbM 3 nd rfl (Ν rfl) (waQ aQ (wv 3 rfl) (waM (wae waV (wae waV waf rfl) rfl))) rfl ()) (wbO (wbM 3 nd rfl (Ν rfl) (waQ aQ (wv 3 rfl) (waM (wae waV (wae waV (wae waV (wae (waQ ae (waQ ae waV (wv 0 rfl)) waV) (wae waV waf rfl) rfl) rfl) rfl) rfl))) rfl ()) (wbO (wbM 3 nd rfl (Ν rfl) (waQ aQ (wv 3 rfl) (waM (wae waV (wae waV waf rfl) rfl))) rfl ()) (wbO (wbM 3 nd rfl (Ν rfl) (waQ aQ (wv 3 rfl) (waM (wae waV (wae waV (wae waV (wae waV (wae waV (wae waV (wae waV waf rfl) rfl) rfl) rfl) rfl) rfl) rfl))) rfl ()) (wbO (wbM 3 nd rfl (Ν rfl) (waQ aQ (wv 3 rfl) (waM (wae (waQ ae (waQ ae waV (wv 0 rfl)) waV) (wae (waQ ae (waQ ae waV (wv 0 rfl)) waV) (wae waV (wae waV waf rfl) rfl) rfl) rfl))) rfl ()) (wbO (wbM 3 nd rfl (Ν rfl) (waQ aQ (wv 3 rfl) (waM (wae waV waf rfl))) rfl ()) (wbO (wbM 3 nd rfl (Ν rfl) (waQ aQ (wv 3 rfl) (waM (wae waV (wae waV (wae waV (wae waV (wae waV (wae waV waf rfl) rfl) rfl) rfl) rfl) rfl))) rfl ()) (wbO (wbM 3 nd rfl (Ν rfl) (waQ aQ (wv 3 rfl) (waM (wae waV (wae waV waf rfl) rfl))) rfl ()) (wbO (wbM 3 nd rfl (Ν rfl) (waQ aQ (wv 3 rfl) (waM (wae waV (wae waV (wae waV (wae (waQ ae (waQ ae waV (wv 0 rfl)) waV) (wae waV waf rfl) rfl) rfl) rfl) rfl))) rfl ()) (wbO (wbM 3 nd rfl (Ν rfl) (waQ aQ (wv 3 rfl) (waM (wae waV (wae (waQ ae (waQ ae waV (wv 0 rfl)) waV) (wae (waQ ae (waQ ae (waQ ae (waQ ae waV (wv 0 rfl)) waV) (wv 0 rfl)) waV) waf rfl) rfl) rfl))) rfl ()) (wbQ (wbK (waQ aQ (wv 3 rfl) (waM (wae (waQ ae (waQ ae waV (wv 0 rfl)) waV) (wae (wv 1 rfl) (wae (waQ ae (waQ ae (waQ ae (waQ ae waV (wv 2 rfl)) waV) (wv 2 rfl)) waV) (wae (waQ ae (waQ ae waV (wv 0 rfl)) waV) waf rfl) rfl) rfl) rfl)))))))))))))))))))))))),?_⟩
 refine⟨_,_,rfl,rfl,(),(),(),_,_,rfl,rfl,ad hn (.l (Txt.mul (γ "first(") 8)) (.l (γ "1")),_,_,rfl,rfl,(),(),(),_,_,rfl,rfl,ad hn (.a (.l (Txt.mul (γ "first(") 8)) (.l (γ "1"))) (.l (Txt.mul (γ ")") 8)),?_⟩
 refine⟨rfl,z1,λr1 m1=>⟨r1,4,_,rfl,rfl,aa,(),(),zle (n:=1*4) (m:=1000) () (θ _),λr2 m2=>⟨_,r2,ϓ 4 (γ "row(1, 1, 1, 1)"),rfl,rfl,SqL.of aa,(),_,_,rfl,rfl,ad hn (.l (γ "row(")) (.l (Txt.join (γ ", ") (ϓ 4 (γ "row(1, 1, 1, 1)")))),_,_,rfl,rfl,ad hn (.a (.l (γ "row(")) (.l (Txt.join (γ ", ") (ϓ 4 (γ "row(1, 1, 1, 1)"))))) (.l (γ ")")),?_⟩⟩⟩
 refine⟨z2,λe2 k2=>⟨_,_,rfl,rfl,(),(),(),_,_,rfl,rfl,ad hn (.l (γ "1")) (.l (Txt.mul (γ "0") 12)),_,_,rfl,rfl,(),(),(),zle (n:=12) (m:=1000) () (θ _),λq0 k0=>aO λH0 hH=>?_⟩⟩
 obtain⟨x0,s0,w0,l0,a0⟩:∃ys,aj H H0/\H0 q0=some (.lst ys)/\ys.length=12/\dN WE H0 ys:=by
  refine⟨[.non,.int 3,.ref e2]++tE0.map (sv n),by rw[hH];exact(ac m1 _).trans ((ac m2 _).trans ((ac k2 _).trans (ac k0 _))),by rw[hH];exact aa,rfl,pd ?_ (jL (cq cn) BX)⟩
  have d1:Rep H0 (.tup [.str (γ "number"),.int 3]) (.ref e2):=by
   rw[hH]
   exact bp (ac k0 _ _ _ aa) (by simp only[Rep]) (by simp only[Rep])
  intro v hv
  rcases ι.mp hv with rfl|hv
  ·exact .inl ⟨.non,by simp only[Rep],rfl⟩
  rcases ι.mp hv with rfl|hv
  ·exact .inl ⟨.int 3,by simp only[Rep],rfl⟩
  rcases ι.mp hv with rfl|hv
  ·exact .inl ⟨_,d1,rfl⟩
  cases hv
 clear hH
 refine cx (σ':=[some (.str n),some (.str (ev n bi)),some (.str (ev n aP)),some (.ref q0)]) rfl ?_
 refine⟨_,rfl,zle (n:=4) (m:=1000) () (θ _),λp1 n1=>⟨_,p1,_,_,rfl,rfl,ac n1 _ _ _ w0,aa,by rw[l0];exact zle (n:=12+4) (m:=1000) () (θ _),λq1 k1=>aO λH1 hH=>?_⟩⟩
 obtain⟨x1,s1,w1,l1,a1⟩:=step (L:=tE1) (cq cn) Cs hH n1 k1 s0 a0 l0
 clear hH
 refine cx (σ':=[some (.str n),some (.str (ev n bi)),some (.str (ev n aP)),some (.ref q1)]) rfl ?_
 refine⟨_,rfl,_,rfl,_,_,rfl,rfl,ad hn .n (.l (γ "()")),_,rfl,_,_,rfl,rfl,ad hn (.a .n (.l (γ "()"))) .n,_,rfl,_,_,rfl,rfl,ad hn .n (.l (γ "(")),_,rfl,_,_,rfl,rfl,ad hn .n (.l (γ ")")),_,rfl,_,_,rfl,rfl,ad hn .n (.l (γ "(1,2)")),_,rfl,_,_,rfl,rfl,ad hn .n (.l (γ "(1,  2)")),zle (n:=5) (m:=1000) () (θ _),λp2 n2=>⟨_,p2,_,_,rfl,rfl,ac n2 _ _ _ w1,aa,by rw[l1];exact zle (n:=16+5) (m:=1000) () (θ _),λq2 k2=>aO λH2 hH=>?_⟩⟩
 obtain⟨x2,s2,w2,l2,a2⟩:=step (L:=tE2) (cq cn) CJ hH n2 k2 s1 a1 l1
 clear hH
 refine cx (σ':=[some (.str n),some (.str (ev n bi)),some (.str (ev n aP)),some (.ref q2)]) rfl ?_
 refine⟨_,rfl,_,rfl,_,_,rfl,rfl,ad hn .n (.l (γ "(1, )")),_,rfl,_,_,rfl,rfl,ad hn .n (.l (γ "(, 1)")),zle (n:=2) (m:=1000) () (θ _),λp3 n3=>⟨_,p3,_,_,rfl,rfl,ac n3 _ _ _ w2,aa,by rw[l2];exact zle (n:=21+2) (m:=1000) () (θ _),λq3 k3=>aO λH3 hH=>?_⟩⟩
 obtain⟨x3,s3,w3,l3,a3⟩:=step (L:=tE3) (cq cn) CU hH n3 k3 s2 a2 l2
 clear hH
 refine cx (σ':=[some (.str n),some (.str (ev n bi)),some (.str (ev n aP)),some (.ref q3)]) rfl ?_
 refine⟨_,rfl,_,rfl,_,_,rfl,rfl,ad hn .n (.l (γ " (1)")),_,rfl,_,_,rfl,rfl,ad hn .n (.l (γ "(1, 2, 3, 4, 5)")),zle (n:=5) (m:=1000) () (θ _),λp4 n4=>⟨_,p4,_,_,rfl,rfl,ac n4 _ _ _ w3,aa,by rw[l3];exact zle (n:=23+5) (m:=1000) () (θ _),λq4 k4=>aO λH4 hH=>?_⟩⟩
 obtain⟨x4,s4,w4,l4,a4⟩:=step (L:=tE4) (cq cn) Cu hH n4 k4 s3 a3 l3
 clear hH
 refine cx (σ':=[some (.str n),some (.str (ev n bi)),some (.str (ev n aP)),some (.ref q4)]) rfl ?_
 refine⟨_,rfl,_,rfl,_,_,rfl,rfl,ad hn (.l (γ "name(")) .n,_,_,rfl,rfl,ad hn (.a (.l (γ "name(")) .n) (.l (γ ")")),_,rfl,_,_,rfl,rfl,ad hn (.l (γ "call(")) .n,_,_,rfl,rfl,ad hn (.a (.l (γ "call(")) .n) (.l (γ ")")),zle (n:=4) (m:=1000) () (θ _),λp5 n5=>⟨_,p5,_,_,rfl,rfl,ac n5 _ _ _ w4,aa,by rw[l4];exact zle (n:=28+4) (m:=1000) () (θ _),λq5 k5=>aO λH5 hH=>?_⟩⟩
 obtain⟨x5,s5,w5,l5,a5⟩:=step (L:=tE5) (cq cn) CK hH n5 k5 s4 a4 l4
 clear hH
 refine cx (σ':=[some (.str n),some (.str (ev n bi)),some (.str (ev n aP)),some (.ref q5)]) rfl ?_
 refine⟨_,rfl,zle (n:=2) (m:=1000) () (θ _),λp6 n6=>⟨_,p6,_,_,rfl,rfl,ac n6 _ _ _ w5,aa,by rw[l5];exact zle (n:=32+2) (m:=1000) () (θ _),λq6 k6=>aO λH6 hH=>?_⟩⟩
 obtain⟨x6,s6,w6,l6,a6⟩:=step (L:=tE6) (cq cn) BS hH n6 k6 s5 a5 l5
 clear hH
 refine cx (σ':=[some (.str n),some (.str (ev n bi)),some (.str (ev n aP)),some (.ref q6)]) rfl ?_
 refine⟨_,rfl,_,rfl,_,_,rfl,rfl,ad hn (.l (γ "let(")) .n,_,_,rfl,rfl,ad hn (.a (.l (γ "let(")) .n) (.l (γ ", 2)")),zle (n:=5) (m:=1000) () (θ _),λp7 n7=>⟨_,p7,_,_,rfl,rfl,ac n7 _ _ _ w6,aa,by rw[l6];exact zle (n:=34+5) (m:=1000) () (θ _),λq7 k7=>aO λH7 hH=>?_⟩⟩
 obtain⟨x7,s7,w7,l7,a7⟩:=step (L:=tE7) (cq cn) CT hH n7 k7 s6 a6 l6
 clear hH
 refine cx (σ':=[some (.str n),some (.str (ev n bi)),some (.str (ev n aP)),some (.ref q7)]) rfl ?_
 refine⟨_,rfl,zle (n:=2) (m:=1000) () (θ _),λp8 n8=>⟨_,p8,_,_,rfl,rfl,ac n8 _ _ _ w7,aa,by rw[l7];exact zle (n:=39+2) (m:=1000) () (θ _),λq8 k8=>aO λH8 hH=>?_⟩⟩
 obtain⟨x8,s8,w8,l8,a8⟩:=step (L:=tE8) (cq cn) BL hH n8 k8 s7 a7 l7
 clear hH
 refine cx (σ':=[some (.str n),some (.str (ev n bi)),some (.str (ev n aP)),some (.ref q8)]) rfl ?_
 refine⟨_,rfl,zle (n:=7) (m:=1000) () (θ _),λp9 n9=>⟨_,p9,_,_,rfl,rfl,ac n9 _ _ _ w8,aa,by rw[l8];exact zle (n:=41+7) (m:=1000) () (θ _),λq9 k9=>aO λH9 hH=>?_⟩⟩
 obtain⟨x9,s9,w9,l9,a9⟩:=step (L:=tE9) (cq cn) BZ hH n9 k9 s8 a8 l8
 clear hH
 refine cx (σ':=[some (.str n),some (.str (ev n bi)),some (.str (ev n aP)),some (.ref q9)]) rfl ?_
 refine⟨_,rfl,_,rfl,_,_,rfl,rfl,ad hn (.l (γ "length(1*")) .n,_,_,rfl,rfl,ad hn (.a (.l (γ "length(1*")) .n) (.l (γ ")")),_,rfl,_,_,rfl,rfl,ad hn (.l (γ "length(")) .n,_,_,rfl,rfl,ad hn (.a (.l (γ "length(")) .n) (.l (γ "+0)")),zle (n:=4) (m:=1000) () (θ _),λp10 n10=>⟨_,p10,_,_,rfl,rfl,ac n10 _ _ _ w9,aa,by rw[l9];exact zle (n:=48+4) (m:=1000) () (θ _),λq10 k10=>aO λH10 hH=>?_⟩⟩
 obtain⟨x10,s10,w10,l10,a10⟩:=step (L:=Ee) (cq cn) Av hH n10 k10 s9 a9 l9
 clear hH
 refine cx (σ':=[some (.str n),some (.str (ev n bi)),some (.str (ev n aP)),some (.ref q10)]) rfl ?_
 refine⟨_,rfl,zle (n:=1) (m:=1000) () (θ _),λp11 n11=>⟨_,p11,_,_,rfl,rfl,ac n11 _ _ _ w10,aa,by rw[l10];exact zle (n:=52+1) (m:=1000) () (θ _),λq11 k11=>aO λH11 hH=>?_⟩⟩
 obtain⟨x11,s11,w11,l11,a11⟩:=step (L:=DP) (cq cn) zb hH n11 k11 s10 a10 l10
 clear hH
 refine cx (σ':=[some (.str n),some (.str (ev n bi)),some (.str (ev n aP)),some (.ref q11)]) rfl ?_
 refine⟨_,rfl,zle (n:=6) (m:=1000) () (θ _),λp12 n12=>⟨_,p12,_,_,rfl,rfl,ac n12 _ _ _ w11,aa,by rw[l11];exact zle (n:=53+6) (m:=1000) () (θ _),λq12 k12=>aO λH12 hH=>?_⟩⟩
 obtain⟨x12,s12,w12,l12,a12⟩:=step (L:=DR) (cq cn) zr hH n12 k12 s11 a11 l11
 clear hH
 refine cx (σ':=[some (.str n),some (.str (ev n bi)),some (.str (ev n aP)),some (.ref q12)]) rfl ?_
 refine⟨_,rfl,zle (n:=2) (m:=1000) () (θ _),λp13 n13=>⟨_,p13,_,_,rfl,rfl,ac n13 _ _ _ w12,aa,by rw[l12];exact zle (n:=59+2) (m:=1000) () (θ _),λq13 k13=>aO λH13 hH=>?_⟩⟩
 obtain⟨x13,s13,w13,l13,a13⟩:=step (L:=Ey) (cq cn) An hH n13 k13 s12 a12 l12
 clear hH
 refine cx (σ':=[some (.str n),some (.str (ev n bi)),some (.str (ev n aP)),some (.ref q13)]) rfl ?_
 refine⟨_,rfl,_,rfl,_,_,rfl,rfl,ad hn (.l (γ "fork(1, 2, ")) .n,_,_,rfl,rfl,ad hn (.a (.l (γ "fork(1, 2, ")) .n) (.l (γ ", 4)")),zle (n:=5) (m:=1000) () (θ _),λp14 n14=>⟨_,p14,_,_,rfl,rfl,ac n14 _ _ _ w13,aa,by rw[l13];exact zle (n:=61+5) (m:=1000) () (θ _),λq14 k14=>aO λH14 hH=>?_⟩⟩
 obtain⟨x14,s14,w14,l14,a14⟩:=step (L:=Fd) (cq cn) AM hH n14 k14 s13 a13 l13
 clear hH
 refine cx (σ':=[some (.str n),some (.str (ev n bi)),some (.str (ev n aP)),some (.ref q14)]) rfl ?_
 refine⟨_,rfl,_,rfl,_,_,rfl,rfl,ad hn (.l (γ "loop(")) .n,_,_,rfl,rfl,ad hn (.a (.l (γ "loop(")) .n) (.l (γ ", first(1), 3)")),_,rfl,_,_,rfl,rfl,ad hn (.l (γ "fold(")) .n,_,_,rfl,rfl,ad hn (.a (.l (γ "fold(")) .n) (.l (γ ", 2, ")),_,rfl,_,_,rfl,rfl,ad hn (.a (.a (.l (γ "fold(")) .n) (.l (γ ", 2, "))) .n,_,_,rfl,rfl,ad hn (.a (.a (.a (.l (γ "fold(")) .n) (.l (γ ", 2, "))) .n) (.l (γ ", 4, 5)")),zle (n:=3) (m:=1000) () (θ _),λp15 n15=>⟨_,p15,_,_,rfl,rfl,ac n15 _ _ _ w14,aa,by rw[l14];exact zle (n:=66+3) (m:=1000) () (θ _),λq15 k15=>aO λH15 hH=>?_⟩⟩
 obtain⟨x15,s15,w15,l15,a15⟩:=step (L:=EW) (cq cn) zk hH n15 k15 s14 a14 l14
 clear hH
 refine cx (σ':=[some (.str n),some (.str (ev n bi)),some (.str (ev n aP)),some (.ref q15)]) rfl ?_
 refine⟨_,rfl,_,rfl,_,_,rfl,rfl,ad hn (.l (γ "fold(")) .n,_,_,rfl,rfl,ad hn (.a (.l (γ "fold(")) .n) (.l (γ ", 2, 3, 4, 5)")),_,rfl,_,rfl,_,_,rfl,rfl,ad hn (.l (γ "pair(")) aP,_,_,rfl,rfl,ad hn (.a (.l (γ "pair(")) aP) (.l (γ ", ")),_,rfl,_,_,rfl,rfl,ad hn (.a (.a (.l (γ "pair(")) aP) (.l (γ ", "))) aP,_,_,rfl,rfl,ad hn (.a (.a (.a (.l (γ "pair(")) aP) (.l (γ ", "))) aP) (.l (γ ")")),_,rfl,_,_,rfl,rfl,ad hn (.l (γ "row(")) .n,_,_,rfl,rfl,ad hn (.a (.l (γ "row(")) .n) (.l (γ " 1)")),zle (n:=4) (m:=1000) () (θ _),λp16 n16=>⟨_,p16,_,_,rfl,rfl,ac n16 _ _ _ w15,aa,by rw[l15];exact zle (n:=69+4) (m:=1000) () (θ _),λq16 k16=>aO λH16 hH=>?_⟩⟩
 obtain⟨x16,s16,w16,l16,a16⟩:=step (L:=DZ) (cq cn) AE hH n16 k16 s15 a15 l15
 clear hH
 exact q _ _ _ s16 w16 l16 a16
def wcB(c:Nat):Bool:=azB c||(decide (48<=c)&&decide (c<=57))||(c==42||c==43)
def chB(c:Nat):Bool:=wcB c||[40,41,44,32].contains c
structure Pz(l:List Nat):Prop where
 ch:∀c∈l,chB c=true
 ct:l.count 32=l.count 44
theorem jZ{a b:List Nat}(h:Pz a)(g:Pz b):Pz (a++b):=⟨λc hc=>(Φ.mp hc).elim (h.ch c) (g.ch c),by rw[Ϟ,Ϟ,h.ct,g.ct]⟩
theorem cG{l:List Nat}(h:∀c∈l,wcB c=true):Pz l:=by
 refine⟨λc hc=>by unfold chB;rw[h c hc];rfl,?_⟩
 rw[Ϫ λz=>absurd (h _ z) (),Ϫ λz=>absurd (h _ z) ()]
theorem xV{c:Nat}(h:97<=c/\c<=122):wcB c=true:=by unfold wcB azB;rw[Q9 h.1,Q9 h.2];rfl
theorem ut{c:Nat}(h:48<=c/\c<=57):wcB c=true:=by unfold wcB;rw[Q9 h.1,Q9 h.2];simp
theorem qa{x:Str}(h:nmB x=true):∀c∈cs x,wcB c=true:=λc hc=>xV ((cH h).2.2 c hc)
theorem AA{p:Pr}(h0:1<=p.2)(h1:p.2<10^60)(hn:nmB p.1=true):∀c∈(aG p).cps.toList,wcB c=true:=λc hc=>by
 obtain⟨_,_,az⟩:=cH hn
 unfold aG at hc
 split at hc
 ·exact xV (az c hc)
 ·rw[ar,ar,pF]at hc
  rcases Φ.mp hc with h|h
  ·rcases Φ.mp h with h|h
   ·exact ut (bO (n:=p.2) () h1 c h)
   ·rw[ξ.mp h];rfl
  ·exact xV (az c h)
theorem nU{c:Int}{ps:List Pr}(wa:Wa c ps):∀d∈cs (bU c ps),wcB d=true:=λd hd=>by
 unfold bU at hd
 rcases lS hd with h|⟨y,hy,h⟩
 ·rw[oy]at h;rw[ξ.mp h];rfl
 ·unfold ba at hy
  rcases Φ.mp hy with h1|h1
  ·obtain⟨p,hp,rfl⟩:=Ϡ.mp h1
   exact AA (wa.1.can.ge p hp) (wa.1.le p hp).1 (wa.2 p hp) d h
  ·split at h1
   ·rw[ξ.mp h1]at h;exact ut (bO wa.1.c0 wa.1.c1 d h)
   ·cases h1
theorem oj{l:List Nat}(h:((l.all chB)&&decide (l.count 32=l.count 44))=true:=by decide):Pz l:=by
 rw[ο,decide_eq_true_eq,ϸ]at h
 exact⟨h.1,h.2⟩
theorem uZ:∀{bs:List Br},(∀b∈bs,Pz (cs (brT b)))->Pz (cs (ώ (γ ", ") (brTs bs)))
 |[],_=>by rw[brTs];exact oj (l:=[]) ()
 |[a],h=>by have:=iF a [];rw[Θ,Θ]at this;rw[this];exact h a ν
 |a::b::r,h=>by
  have:=ff a b r []
  rw[Θ,Θ]at this
  rw[this]
  exact jZ (h a ν) (jZ (a:=[44,32]) oj (uZ λc hc=>h c (π _ hc)))
theorem li{w:Str}{bs:List Br}(hw:nmB w=true)(h:∀b∈bs,Pz (cs (brT b))):Pz (cs (brT (.nd w bs))):=by
 have:=jC w bs []
 rw[Θ]at this
 rw[this]
 exact jZ (cG (qa hw)) (jZ (a:=[40]) oj (jZ (uZ h) (oj (l:=[41]))))
theorem uv{a b:Br}(h1:Pz (cs (brT a)))(h2:Pz (cs (brT b))):∀c∈[a,b],Pz (cs (brT c)):=λc hc=>by
 rcases ι.mp hc with rfl|hc
 ·exact h1
 ·rw[ξ.mp hc];exact h2
theorem pP:∀{k:Kd},k.All Sm->Pz (cs (brT (bX k)))
 |.whole,_=>cG (qa (x:=γ "whole") ())
 |.place c ps,h=>by rw[bX];exact li () λb hb=>by rw[ξ.mp hb];exact cG (nU h.1)
 |.row c ps k,h=>by rw[bX];exact li () (uv (cG (nU h.1.1)) (pP h.2))
 |.pair a b,h=>by rw[bX];exact li () (uv (pP h.1) (pP h.2))
theorem Eh{R:Dv->Br->Prop}(hR:∀d b,R d b->Pz (cs (brT b))):∀{s:So}{d:Dv}{b:Br},Ag R s d b->Pz (cs (brT b))
 |.e,_,_,h=>hR _ _ h
 |.l,_,_,h=>by obtain⟨c,ps,_,rfl,sm⟩:=h;exact cG (nU sm.1)
 |.k,_,_,h=>by obtain⟨k,_,rfl,kA,k6⟩:=h;exact pP kA
 |.x,_,_,h=>by obtain⟨y,_,rfl,hy⟩:=h;exact cG (qa hy)
 |.y,_,_,h=>by obtain⟨y,_,rfl,hy⟩:=h;exact cG (qa hy)
theorem CL{R:Dv->Br->Prop}(hR:∀d b,R d b->Pz (cs (brT b))){ss:List So}{ds:List Dv}{bs:List Br}(h:Ags R ss ds bs):∀b∈bs,Pz (cs (brT b)):=by
 induction h with
 |nil=>exact nofun
 |cons a _ ih=>
  intro b hb
  rcases ι.mp hb with rfl|hb
  ·exact Eh hR a
  ·exact ih b hb
theorem Bk:∀{n:Nat}{d:Dv}{b:Br},Wx n d b->Pz (cs (brT b))
 |n+1,d,b,h=>by
  have hR:∀d b,Wx n d b->Pz (cs (brT b)):=λd b=>Bk
  rw[Wx]at h
  rcases h with ⟨i,h0,h1,rfl,rfl⟩|⟨y,hy,rfl,rfl⟩|⟨f,ds,bs,hf,_,_,l4,ha,rfl,rfl⟩|⟨r,d1,d2,b1,b2,hr,w1,w2,rfl,rfl⟩|⟨ds,bs,l1,l4,ha,rfl,rfl⟩|⟨p,ds,bs,hp,_,ha,_,rfl,rfl⟩
  ·exact cG λc hc=>ut (bO h0 () c hc)
  ·exact cG (qa hy)
  ·exact li hf λb hb=>by obtain⟨d,_,r⟩:=ha.mem.2 b hb;exact hR d b r
  ·exact li (ij r (eL hr)).1 (uv (hR _ _ w1) (hR _ _ w2))
  ·exact li () λb hb=>by obtain⟨d,_,r⟩:=ha.mem.2 b hb;exact hR d b r
  ·exact li (pR p hp) (CL hR ha)
def iO:Str:=γ "ABCDEFGHIJKLMNOPQRSTUVWXYZ!\"#$&'-./:;<=>?@\x5b]^_`{|}~\t\n "
theorem yY:∀c∈cs iO,chB c=false\/c=32:=by decide +kernel
theorem uH:(cs iO).length=54:=by decide +kernel
theorem Cg{u v:List Nat}{c:Nat}(hc:c∈cs iO)(h:(u++v).count 32=(u++v).count 44):¬ Pz (u++c::v):=λp=>by
 rcases yY c hc with z|rfl
 ·have:=p.ch c ()
  rw[z]at this;cases this
 ·have:=p.ct
  rw[Ϟ,Ϟ]at h this
  rw[List.count_cons_self,List.count_cons_of_ne ()]at this
  omega
def TxO(x:Str):Prop:=x.length<=100/\(cs x).count 43<=20/\(cs x).count 32=(cs x).count 44
theorem Dk{x:Str}{u v:List Nat}{c:Nat}(h:TxO x)(e:cs x=u++v)(hc:c∈cs iO):TxS (st (u++c::v)):=by
 have l:(cs x).length=x.length:=ψ
 have c43:c≠43:=λz=>by
  rcases yY c hc with y|y
  ·rw[z]at y;exact absurd y ()
  ·omega
 refine⟨?_,?_⟩
 ·show(u++c::v).toArray.size<=800
  rw[Α]
  rw[e,Ε]at l
  rw[Ε,χ]
  have:=h.1;omega
 ·show(cs (st (u++c::v))).count 43<=20
  have:=h.2.1
  rw[e,Ϟ]at this
  rw[dA,Ϟ,List.count_cons_of_ne (λz=>c43 z)]
  exact this
theorem kF{W:Dv->Str->Prop}(hW:∀{d x},W d x->Pz (cs x)){H:Hp}{x:Str}{u v:List Nat}{c:Nat}(h:TxO x)(e:cs x=u++v)(hc:c∈cs iO):NoT W H (.str (st (u++c::v))):=
 .inr ⟨_,rfl,Dk h e hc,λd w=>Cg hc (e▸h.2.2) (by have:=hW w;rwa[dA]at this)⟩
theorem EL{d:Dv}{x:Str}(h:WL d x):Pz (cs x):=by obtain⟨c,ps,_,rfl,wa⟩:=h;exact cG (nU wa)
theorem Ek{d:Dv}{x:Str}(h:WK d x):Pz (cs x):=by obtain⟨k,_,rfl,a,_⟩:=h;exact pP a
theorem Ec{d:Dv}{x:Str}(h:WE d x):Pz (cs x):=by obtain⟨b,rfl,w,_⟩:=h;exact Bk w
theorem Ay{H:Hp}{i:Int}(h0:0<=i)(h1:i<3){x:Str}{u v:List Nat}{c:Nat}(h:TxO x)(e:cs x=u++v)(hc:c∈cs iO):NoW H i (.str (st (u++c::v))):=by
 have:i=0\/i=1\/i=2:=by omega
 rcases this with rfl|rfl|rfl
 ·exact .inl ⟨rfl,kF EL h e hc⟩
 ·exact .inr (.inl ⟨rfl,kF Ek h e hc⟩)
 ·exact .inr (.inr ⟨rfl,kF Ec h e hc⟩)
theorem zP{x:Str}{i:Int}(h0:0<=i)(h1:i<=x.length):cs (Txt.slice x (some i) none)=(cs x).drop i.toNat:=by
 have e:=G6 (x:=x) (i:=i) (b:=(x.length:Int)) h0 h1 rfl
 rw[e]
 show((x.cps.toList.drop i.toNat).take ((x.length:Int)-i).toNat).toArray.toList=_
 rw[show((x.cps.toList.drop i.toNat).take ((x.length:Int)-i).toNat).toArray.toList=(x.cps.toList.drop i.toNat).take ((x.length:Int)-i).toNat by simp]
 refine F4 ?_
 rw[ϡ,ψ]
 show x.length-_<=_
 omega
theorem ET{x:Str}{i:Int}(h0:0<=i)(h1:i<=x.length):cs (Txt.slice x none (some i))=(cs x).take i.toNat:=by
 have e:=eq_of_beq (Gp (x:=x) (j:=i) h0 h1)
 rw[e]
 show((x.cps.toList.drop (0:Int).toNat).take (i-0).toNat).toArray.toList=_
 simp
abbrev lO:Stmt:=top 80
def pU:Sp:=λvs H Q _=>∃(x:Str) (a:Addr),vs=[.str x,.ref a]/\St2 H a/\x.length<=100/\∀H' (c:Nat) u v,ay a H H'->St2 H' a->cs x=u++v->c∈cs iO->Q (.str (st (u++c::v))) H'
theorem mz:am ["_law_text","_law_state_here","_law_at","_law_odd"] ["_law_text","_law_state_here"] (af lO):=by trivial
theorem wL{f:Addr}{fd:Γ}{k:Nat}(F:Fun K "_law_spoilt" "_law_spoilt" lO f fd)(T:Txt K mg)(D_law_draw:Def P w K mg base k "_law_draw" ["_law_state_here","_law_many"] nW):ap P w K mg base CX0 (k+1) f fd ["_law_text","_law_state_here"] pU:=by
 have nd:=mz.nd
 refine F.ok mz (λvs H Q E h=>?_) (λcdv A outer s H vs Q E hr h=>?_)
 ·obtain⟨x,a,rfl,_⟩:=h
  rfl
 obtain⟨x,a,rfl,h2,lx,q⟩:=h
 refine⟨_,(@un _ _ _ (wbO (wbM 2 nd rfl (Ν rfl) (waq D_law_draw hr rfl (wae (wv 1 rfl) (wae (waQ fu (wal bw rfl T.len () (wae (wv 0 rfl) waf rfl) () () rfl rfl) waC) waf rfl) rfl) () rfl rfl) rfl ()) (wbO (wbM 3 nd rfl (Ν rfl) waV rfl ()) (wbQ (wbK (waQ ae (waQ ae (waT kv (wv 0 rfl) wbz (wbA (wv 2 rfl))) (waD oO (wv 3 rfl) (waq D_law_draw hr rfl (wae (wv 1 rfl) (wae (wal bw rfl T.len () (wae (wv 3 rfl) waf rfl) () () rfl rfl) waf rfl) rfl) () rfl rfl) (λ_ _=>rfl))) (waT kv (wv 0 rfl) (wbA (wv 2 rfl)) wbz))))))),?_⟩
 have stl:x.length<=sizeLine:=by rw[τ];omega
 have odl:iO.length<=sizeLine:=by rw[τ];decide +kernel
 refine⟨_,rfl,_,rfl,_,rfl,stl,_,_,rfl,rfl,a,_,rfl,h2,(),(),λH1 y s1 st1 y0 y1=>?_⟩
 have y1':y<=x.length:=by omega
 have e1:=ET y0 y1'
 have e2:=zP y0 y1'
 have l1:(Txt.slice x none (some y)).length<=100:=by
  have h:(cs (Txt.slice x none (some y))).length=(Txt.slice x none (some y)).length:=ψ
  have h2:(cs x).length=x.length:=ψ
  rw[e1,Ϗ]at h
  omega
 have l2:(Txt.slice x (some y) none).length<=100:=by
  have h:(cs (Txt.slice x (some y) none)).length=(Txt.slice x (some y) none).length:=ψ
  have h2:(cs x).length=x.length:=ψ
  rw[e2,ϡ]at h
  omega
 refine⟨_,rfl,_,rfl,_,rfl,_,rfl,stl,_,rfl,_,rfl,_,rfl,_,rfl,odl,a,_,rfl,st1,?_,?_,λH2 z s2 st2 z0 z1=>?_⟩
 ·show(0:Int)<(iO.length:Int)
  decide +kernel
 ·show(iO.length:Int)<10^40
  decide +kernel
 have z1:z<((cs iO).length:Int):=z1
 rw[uH]at z1
 obtain⟨ch,hch⟩:∃ch,(cs iO)[z.toNat]?=some ch:=⟨_,Ι (by rw[uH];omega)⟩
 have hc:atI (cs iO) z=some ch:=by
  have:=ah hch
  rwa[show((z.toNat:Nat):Int)=z by omega]at this
 refine⟨_,_,ch,rfl,rfl,odl,hc,_,_,rfl,rfl,?_,_,rfl,_,rfl,_,rfl,_,rfl,stl,_,_,rfl,rfl,?_,?_⟩
 ·rw[τ]
  show _+1<=_
  omega
 ·rw[τ,Η]
  show _+1+_<=_
  omega
 have e:Txt.slice x none (some y)++⟨#[ch]⟩++Txt.slice x (some y) none=st ((cs x).take y.toNat++ch::(cs x).drop y.toNat):=dS (by
  show cs _=cs _
  rw[dA,<-e1,<-e2]
  unfold cs
  rw[ar,ar,Ϣ]
  rfl)
 show Q (.str (Txt.slice x none (some y)++⟨#[ch]⟩++Txt.slice x (some y) none)) H2
 rw[e]
 exact q H2 ch _ _ (s1.trans s2) st2 (List.take_append_drop _ _).symm (Ϝ hch)
abbrev mq:Stmt:=top 81
def uJ(K:ζ):Sp:=λvs H Q _=>∃(a:Addr) (ns:List Int),vs=[.ref a]/\SqL K H a (ns.map V.int)/\ns.length<=63/\∀H',Q (.bl true) H'
theorem txo{n a b:Str}(hn:nmB n=true)(h:(decide (a.length+b.length<=80)&&(decide ((cs a).count 43+(cs b).count 43<=20)&&decide ((cs a).count 32+(cs b).count 32=(cs a).count 44+(cs b).count 44)))=true):TxO (a++n++b):=by
 rw[ο,ο,decide_eq_true_eq,decide_eq_true_eq,decide_eq_true_eq]at h
 have n8:=(aS hn).2
 have z:∀c,c<97->(cs n).count c=0:=λc hc=>Ϫ (tM hn hc)
 have e:cs (a++n++b)=cs a++cs n++cs b:=by unfold cs;rw[ar,ar]
 refine⟨?_,?_,?_⟩
 ·rw[Η,Η]
  have:n.length=n.cps.size:=rfl
  omega
 ·rw[e,Ϟ,Ϟ,z 43 ()]
  omega
 ·rw[e,Ϟ,Ϟ,Ϟ,Ϟ,z 32 (),z 44 ()]
  omega
def gdT(n:Str):List Str:=[γ "2*" ++ n++γ "+3",γ "row(2*" ++ n++γ ", pair(whole, place(3)))",γ "fold(i, 2, s, 0, " ++ n++γ "(s, get(a, i)))"]
theorem yU{n:Str}(hn:nmB n=true):∀x∈gdT n,TxO x:=λx hx=>by
 rcases ι.mp hx with rfl|hx
 ·exact txo hn ()
 rcases ι.mp hx with rfl|hx
 ·exact txo hn ()
 rw[ξ.mp hx]
 exact txo hn ()
structure Lot(H:Hp)(L r0 r1 r2:Addr)(x0 x1 x2:List V):Prop where
 l:H L=some (.lst [.ref r0,.ref r1,.ref r2])
 h0:H r0=some (.lst x0)
 h1:H r1=some (.lst x1)
 h2:H r2=some (.lst x2)
 a0:dN WL H x0
 a1:dN WK H x1
 a2:dN WE H x2
theorem Lot.m{H H':Hp}{L r0 r1 r2:Addr}{x0 x1 x2:List V}(h:Lot H L r0 r1 r2 x0 x1 x2)(s:aj H H'):Lot H' L r0 r1 r2 x0 x1 x2:=
 ⟨s _ _ h.l,s _ _ h.h0,s _ _ h.h1,s _ _ h.h2,λv hv=>(h.a0 v hv).mono s,λv hv=>(h.a1 v hv).mono s,λv hv=>(h.a2 v hv).mono s⟩
theorem Lot.at{H:Hp}{L r0 r1 r2:Addr}{x0 x1 x2:List V}(h:Lot H L r0 r1 r2 x0 x1 x2)(l0:x0.length=42)(l1:x1.length=32)(l2:x2.length=73){y:Int}(y0:0<=y)(y3:y<3):∃(r:Addr) (xs:List V),atI [V.ref r0,V.ref r1,V.ref r2] y=some (.ref r)/\0<xs.length/\xs.length<100/\∀{H'},aj H H'->H' r=some (.lst xs)/\∀v∈xs,NoW H' y v:=by
 have:y=0\/y=1\/y=2:=by omega
 rcases this with rfl|rfl|rfl
 ·exact⟨r0,x0,rfl,(),(),λs=>⟨s _ _ h.h0,λv hv=>.inl ⟨rfl,(h.a0 v hv).mono s⟩⟩⟩
 ·exact⟨r1,x1,rfl,(),(),λs=>⟨s _ _ h.h1,λv hv=>.inr (.inl ⟨rfl,(h.a1 v hv).mono s⟩)⟩⟩
 ·exact⟨r2,x2,rfl,(),(),λs=>⟨s _ _ h.h2,λv hv=>.inr (.inr ⟨rfl,(h.a2 v hv).mono s⟩)⟩⟩
theorem Es{n:Str}(hn:nmB n=true){y:Int}(y0:0<=y)(y3:y<3):∃x,atI ((gdT n).map V.str) y=some (.str x)/\TxO x:=by
 have:y=0\/y=1\/y=2:=by omega
 rcases this with rfl|rfl|rfl
 ·exact⟨_,rfl,yU hn _ (by simp[gdT])⟩
 ·exact⟨_,rfl,yU hn _ (by simp[gdT])⟩
 ·exact⟨_,rfl,yU hn _ (by simp[gdT])⟩
theorem AL{n:Str}(cn:Cn n){H:Hp}{y:Int}(y0:0<=y)(y3:y<3):NoW H y (.str (γ "")):=by
 have:y=0\/y=1\/y=2:=by omega
 rcases this with rfl|rfl|rfl
 ·exact .inl ⟨rfl,jp cn (e:=.l (γ "")) () H⟩
 ·exact .inr (.inl ⟨rfl,ke cn (e:=.l (γ "")) () H⟩)
 ·exact .inr (.inr ⟨rfl,cq cn (e:=.l (γ "")) () H⟩)
theorem xJ:am ["_law_script","_law_name","_law_lots","_law_good","_law_k","_law_state_here","_law_way"] ["_law_script"] (af mq):=by trivial
theorem DF{f:Addr}{fd:Γ}{k0:Nat}(F:Fun K "law" "law" mq f fd)(T:Txt K mg)(D_law_state:Def P w K mg base k0 "_law_state" ["_law_script","_law_k"] (vG K))(D_law_names:Def P w K mg base k0 "_law_names" ["_law_state_here","_law_many"] vJ)(D_law_draw:Def P w K mg base k0 "_law_draw" ["_law_state_here","_law_many"] nW)
  (D_law_no_lengths:Def P w K mg base k0 "_law_no_lengths" ["_law_name"] (xb WL 42)) (D_law_no_kinds:Def P w K mg base k0 "_law_no_kinds" ["_law_name"] (xb WK 32)) (D_law_no_expressions:Def P w K mg base k0 "_law_no_expressions" ["_law_name"] (xb WE 73))
  (D_law_refused:Def P w K mg base k0 "_law_refused" ["_law_way","_law_text"] Bf) (D_law_right:Def P w K mg base k0 "_law_right" ["_law_name"] uP) (D_law_spoilt:Def P w K mg base k0 "_law_spoilt" ["_law_text","_law_state_here"] pU):ap P w K mg base CX0 (k0+1) f fd ["_law_script"] (uJ K):=by
 have nd:=xJ.nd
 refine F.ok xJ (λvs H Q E h=>?_) (λcdv A outer s H vs Q E hr h=>?_)
 ·obtain⟨a,ns,rfl,_⟩:=h
  rfl
 obtain⟨sc,ns,rfl,hS,h63,q⟩:=h
 refine⟨_,(@un _ _ _ (wbO (wbM 1 nd rfl (Ν rfl) (waD aZ (waq D_law_names hr rfl (wae (waq D_law_state hr rfl (wae (wv 0 rfl) (wae waC waf rfl) rfl) () rfl rfl) (wae waC waf rfl) rfl) () rfl rfl) waC (λ_ _=>rfl)) rfl ()) (wbO (wbM 2 nd rfl (Ν rfl) (waM (wae (waq D_law_no_lengths hr rfl (wae (wv 1 rfl) waf rfl) () rfl rfl) (wae (waq D_law_no_kinds hr rfl (wae (wv 1 rfl) waf rfl) () rfl rfl) (wae (waq D_law_no_expressions hr rfl (wae (wv 1 rfl) waf rfl) () rfl rfl) waf rfl) rfl) rfl)) rfl ()) (wbO (wbM 3 nd rfl (Ν rfl) (waM (wae (waQ ae (waQ ae waV (wv 1 rfl)) waV) (wae (waQ ae (waQ ae waV (wv 1 rfl)) waV) waf rfl) rfl)) rfl ()) (wbO (wbG (waj ϔ b_ c_ cD (wv 3 rfl) (wae (waQ ae (waQ ae waV (wv 1 rfl)) waV) waf rfl) rfl rfl rfl rfl rfl) rfl) (wbO (wbH j4 rfl (wbl rfl T.range (wae waC (wae (wal (wU rfl) rfl T.max () (wae waC (wae (wal (wy rfl) rfl T.min () (wae waC (wae (wal ax rfl T.len () (wae (wv 0 rfl) waf rfl) () () rfl rfl) waf rfl) rfl) () () rfl rfl) waf rfl) rfl) () () rfl rfl) waf rfl) rfl) rfl rfl) (waZ 4 nd rfl (Ν rfl) ()) (wbO (wbM 5 nd rfl (Ν rfl) (waq D_law_state hr rfl (wae (wv 0 rfl) (wae (wv 4 rfl) waf rfl) rfl) () rfl rfl) rfl ()) (wbO (wbM 6 nd rfl (Ν rfl) (waq D_law_draw hr rfl (wae (wv 5 rfl) (wae waC waf rfl) rfl) () rfl rfl) rfl ()) (wbO (wbI (wab (wbY (wbT (wbV (waq D_law_refused hr rfl (wae (wv 6 rfl) (wae (waD aZ (waD aZ (wv 2 rfl) (wv 6 rfl) (λ_ _=>rfl)) (waq D_law_draw hr rfl (wae (wv 5 rfl) (wae (wal ax rfl T.len () (wae (waD aZ (wv 2 rfl) (wv 6 rfl) (λ_ _=>rfl)) waf rfl) () () rfl rfl) waf rfl) rfl) () rfl rfl) (λ_ _=>rfl)) waf rfl) rfl) () rfl rfl) ())) (wbZ (wbT (wbV (waq D_law_right hr rfl (wae (wv 1 rfl) waf rfl) () rfl rfl) ()))))) (wbQ (wbK wah)) wbP) (wbQ (wbI (wbT (wbV (waq D_law_refused hr rfl (wae (wv 6 rfl) (wae (waq D_law_spoilt hr rfl (wae (waD aZ (wv 3 rfl) (wv 6 rfl) (λ_ _=>rfl)) (wae (wv 5 rfl) waf rfl) rfl) () rfl rfl) waf rfl) rfl) () rfl rfl) ())) (wbQ (wbK wah)) wbP))))) ()) (wbQ (wbK (wag (wal (gZ rfl) rfl T.all () (wae (waE ["_law_way"] [] (wbk rfl T.range (wae waC waf rfl) rfl) (.of rfl) rfl (λ_ _ _=>⟨pg_name (i:=0) (bZ (l:=["_law_way"]) (()) rfl) rfl (Ν rfl)⟩) (bF ()) (λ_ _ _=>wbx) (λ_ _ _=>(waq D_law_refused hr rfl (wae (wv 0 rfl) (wae waV waf rfl) rfl) () rfl rfl)) ()) waf rfl) () () rfl rfl) (waP (waq D_law_right hr rfl (wae (wv 1 rfl) waf rfl) () rfl rfl))))))))))),?_⟩
 dsimp only[bf,Cx.nox]
 refine cb λX hX=>?_
 refine⟨_,rfl,sc,ns,0,rfl,hS,(),λH1 a s1 ha st1=>?_⟩
 refine⟨a,1,rfl,st1,(),λH2 r xs s2 st2 hrn hr2 lx hnm hnd=>?_⟩
 obtain⟨n,rfl⟩:∃n,xs=[n]:=by
  match xs,lx with
  |[n],_=>exact⟨n,rfl⟩
 have cn:=hnm n ν
 have hn:=cn.1
 have s02:aj H H2:=ay.same ha s1 s2
 refine⟨r,_,0,_,rfl,rfl,SqL.of hr2,rfl,gs hX λX hX=>?_⟩
 refine⟨_,rfl,n,rfl,cn,λH3 r0 x0 s3 w0 l0 a0=>⟨_,rfl,n,rfl,cn,λH4 r1 x1 s4 w1 l1 a1=>⟨_,rfl,n,rfl,cn,λH5 r2 x2 s5 w2 l2 a2=>⟨z3,λL hL=>gs hX λX hX=>?_⟩⟩⟩⟩
 have s6:=ac hL (.lst [.ref r0,.ref r1,.ref r2])
 have s45:=s4.trans s5
 have lt:Lot (upd H5 L (.lst [.ref r0,.ref r1,.ref r2])) L r0 r1 r2 x0 x1 x2:=⟨aa,s6 _ _ (s45 _ _ w0),s6 _ _ (s5 _ _ w1),s6 _ _ w2,λv hv=>(a0 v hv).mono (s45.trans s6),λv hv=>(a1 v hv).mono (s5.trans s6),λv hv=>(a2 v hv).mono s6⟩
 have s06:=s02.trans (s3.trans (s45.trans s6))
 generalize upd H5 L (.lst [.ref r0,.ref r1,.ref r2])=H6 at lt s06⊢
 clear s6 s45 s5 s4 s3 w0 w1 w2 a0 a1 a2 hL s2 st2 hrn hr2
 refine⟨_,rfl,_,_,rfl,rfl,ad hn (.l (γ "2*")) .n,_,_,rfl,rfl,ad hn (.a (.l (γ "2*")) .n) (.l (γ "+3")),_,rfl,_,_,rfl,rfl,ad hn (.l (γ "row(2*")) .n,_,_,rfl,rfl,ad hn (.a (.l (γ "row(2*")) .n) (.l (γ ", pair(whole, place(3)))")),z2,λGd hG=>gs hX λX hX=>?_⟩
 refine⟨_,rfl,.inl ⟨rfl,_,SqL.of aa⟩,_,rfl,_,_,rfl,rfl,ad hn (.l (γ "fold(i, 2, s, 0, ")) .n,_,_,rfl,rfl,ad hn (.a (.l (γ "fold(i, 2, s, 0, ")) .n) (.l (γ "(s, get(a, i)))")),Gd,_,_,rfl,rfl,aa,by rw[τ];show 2<_;omega,hX _ _ (aO λH7 hH=>cb λX hX=>?_)⟩
 obtain⟨s7,hg⟩:aj H6 H7/\H7 Gd=some (.lst ((gdT n).map V.str)):=by
  subst hH
  exact⟨ay.same hG (ac hG _) (ay.upd _ Gd _),aa⟩
 clear hH hG
 replace lt:=lt.m s7
 replace s06:=s06.trans s7
 refine⟨_,rfl,sc,_,rfl,.inl (s06.seq hS),_,_,rfl,_,_,rfl,1,_,rfl,⟨(),(),?B1,?B2⟩,qO (lo:=1) (λi σ H'=>∃o4 o5 o6:Option V,σ=[some (.ref sc),some (.str n),some (.ref L),some (.ref Gd),o4,o5,o6]/\aj H7 H') ⟨_,_,_,rfl,aj.refl _⟩ ?T1 ?_⟩
 case B1=>split<;>(try split)<;>omega
 case B2=>
  rw[ς]
  split<;>(try split)<;>omega
 case T1=>
  intro i σ H8 D' go hi h
  refine gs (λ_ _ z=>z) λX hX=>?_
  obtain⟨o4,o5,o6,rfl,s8⟩:=h
  refine⟨_,rfl,_,rfl,sc,ns,_,rfl,(s06.trans s8).seq hS,(),λH9 b s9 hb st9=>gs hX λX hX=>?_⟩
  refine⟨_,rfl,b,3,rfl,st9,(),(),λHA y sA stA y0 y3=>gs hX λX hX=>?_⟩
  have l8:=lt.m s8
  have g8:=s8 _ _ hg
  have tA:aj H8 HA:=ay.same hb s9 sA
  obtain⟨r',xs,hy,x1',x9,al⟩:=l8.at l0 l1 l2 y0 y3
  refine dU λY Z hY hZ=>?_
  refine⟨_,rfl,_,rfl,_,rfl,L,_,y,_,rfl,rfl,SqL.of (tA _ _ l8.l),hy,?_⟩
  refine⟨_,rfl,_,rfl,_,rfl,L,_,y,_,rfl,rfl,SqL.of (tA _ _ l8.l),hy,r',_,rfl,.inl (SqL.of (al tA).1),b,_,rfl,stA,(),(),λHB z sB stB z0 z1=>?_⟩
  have tB:aj H8 HB:=ay.same hb s9 (sA.trans sB)
  obtain⟨v,hv⟩:∃v,xs[z.toNat]?=some v:=⟨_,Ι ()⟩
  have hc:atI xs z=some v:=by
   have:=ah hv
   rwa[show((z.toNat:Nat):Int)=z by omega]at this
  refine⟨r',_,z,v,rfl,rfl,SqL.of (al tB).1,hc,y,v,rfl,(al tB).2 v (Ϝ hv),λHC sC=>⟨_,rfl,aI ⟨_,rfl,n,rfl,hn,λHD sD=>⟨_,rfl,aI (hZ _ (tnx (hX _ _ ?_)))⟩⟩⟩⟩
  have sBD:=sC.trans sD
  have stD:=stB.m sBD
  have tD:=tB.trans sBD
  obtain⟨x,hx,tx⟩:=Es hn y0 y3
  refine dU λY Z hY hZ=>⟨_,rfl,_,rfl,_,rfl,Gd,_,y,_,rfl,rfl,SqL.of (tD _ _ g8),hx,_,rfl,x,b,rfl,stD,tx.1,λHE c u v sE stE e hc=>⟨y,_,rfl,Ay y0 y3 tx e hc,λHF sF=>⟨_,rfl,aI (hZ _ (tnx (go _ _ ⟨_,_,_,rfl,s8.trans ((ay.same hb s9 (sA.trans (sB.trans ((aj.b b sBD).trans sE)))).trans sF)⟩)))⟩⟩⟩
 rintro σ H8 ⟨o4,o5,o6,rfl,s8⟩
 refine hX _ _ ?_
 refine⟨3,rfl,(),(),qj (n:=3) (λi ys H'=>aj H8 H'/\ys=(ϓ i true).map V.bl) ⟨aj.refl _,rfl⟩ ?_ ?_⟩
 ·rintro i ys H' hi ⟨s',rfl⟩
  refine bP ⟨_,rfl,_,_,rfl,AL cn () (),λH9 s9=>⟨?_,s'.trans s9,?_⟩⟩
  ·rw[ς,A_,τ];omega
  ·rw[List.replicate_succ',ϊ];rfl
 ·rintro ys H' ⟨s',rfl⟩ lF hlF
  refine⟨lF,ϓ 3 true,rfl,SqL.of aa,?_⟩
  refine⟨true,rfl,aD ⟨_,rfl,n,rfl,hn,λH9 s9=>q _⟩⟩
open PySem L2 KB XB L2.EX
theorem us1{p:List ε->Prop}(h:∀x0,p [x0]):∀us:List ε,us.length=1->p us
 |[x0],_=>h x0
theorem us2{p:List ε->Prop}(h:∀x0 x1,p [x0,x1]):∀us:List ε,us.length=2->p us
 |[x0,x1],_=>h x0 x1
theorem us5{p:List ε->Prop}(h:∀x0 x1 x2 x3 x4,p [x0,x1,x2,x3,x4]):∀us:List ε,us.length=5->p us
 |[x0,x1,x2,x3,x4],_=>h x0 x1 x2 x3 x4
structure Df(K:ζ)(x:Str)(st:Stmt)(f:Addr)(fd:Γ):Prop where
 a:Τ K mainGlobals x=some (some (.ref f))
 F:Fun K x x st f fd
theorem df_mk{K:ζ}{x:Str}{st:Stmt}{f:Addr}{oc:ε}{od an:Option Addr}{osl:Array (Option ε)}{kV doc pm cdv ct:ε}(a:Τ K mainGlobals x=some (some (.ref f)))(l:K.lookup f=some ⟨oc,od,.func (ϻ x x (bE st) (bc st) (af st) .none kV doc pm an cdv ct),osl⟩)
  (c:m4 K cdv x=true) (k:ϒ K (.ref f)=true):Df K x st f (ϻ x x (bE st) (bc st) (af st) .none kV doc pm an cdv ct):=⟨a,ko l c k⟩
theorem Df.d{P:υ}{w:Κ}{K:ζ}{mg:Str->Option ε}{base h:Heap}{x:Str}{st:Stmt}{f:Addr}{fd:Γ}{k:Nat}{ps:List Str}{sp:Sp}(d:Df K x st f fd)(X:K.In h)(G:h.Ns mainGlobals mg)(b:aU K fd ps [])(F:ap P w K mg base CX0 k f fd ps sp):Def P w K mg base k x ps sp:=⟨f,fd,F,b,d.F.kp,Δ X G d.a⟩
theorem fD{P:υ}{w:Κ}{K:ζ}{mg:Str->Option ε}{base:Heap}{CX:CXT}{k:Nat}{f:Addr}{fd:Γ}{ps:List Str}{sp:Sp}(n:∀vs H Q E,¬ sp vs H Q E):ap P w K mg base CX k f fd ps sp:=⟨λvs H Q E h=>absurd h (n _ _ _ _),λ_ _ _ _ _ _ _ _ _ _ _ _ _ h=>absurd h (n _ _ _ _)⟩
theorem Df.x{P:υ}{w:Κ}{K:ζ}{mg:Str->Option ε}{base h:Heap}{x:Str}{st:Stmt}{f:Addr}{fd:Γ}{k:Nat}{ps:List Str}{sp:Sp}(d:Df K x st f fd)(X:K.In h)(G:h.Ns mainGlobals mg)(b:aU K fd ps [])(F:ap P w K mg base (CXe P w) k f fd ps sp):ya P w K mg base k x ps sp:=⟨f,fd,F,b,d.F.kp,Δ X G d.a⟩
theorem all_mk{l:HJ}{w:Κ}{K:ζ}{h:Heap}{mg:Str->Option ε}{fa f1 f2 f3 f4 f5 f6 f7 f8 f9 f10 f11 f12 f13 f14 f15 f16 f17 f18 f19 f20 f21 f22 f23 f24 f25 f26 f27 f28 f29 f30 f31 f32 f33 f34 f35 f36 f37 f38 f39 f40 f41 f42 f43 f44 f45 f46 f47 f48 f49 f50 f51:Addr}{g1 g2 g3 g4 g5 g6 g7 g8 g9 g10 g11 g12 g13 g14 g15 g16 g17 g18 g19 g20 g21 g22 g23 g24 g25 g26 g27 g28 g29 g30 g31 g32 g33 g34 g35 g36 g37 g38 g39 g40 g41 g42 g43 g44 g45 g46 g47 g48 g49 g50 g51:Γ}(X:K.In h)(G:h.Ns mainGlobals mg)(hfa:mg "law"=some (.ref fa))
  (d1:Df K "is_whole" gv f1 g1)
  (d2:Df K "is_name" iJ f2 g2)
  (d3:Df K "is_part" iW f3 g3)
  (d4:Df K "are_parts" eR f4 g4)
  (d5:Df K "is_length" fh f5 g5)
  (d6:Df K "is_small_length" gt f6 g6)
  (d7:Df K "has_word" gB f7 g7)
  (d8:Df K "is_point" gF f8 g8)
  (d9:Df K "things_of" fj f9 g9)
  (d10:Df K "is_kind" iY f10 g10)
  (d11:Df K "is_below" gp f11 g11)
  (d12:Df K "is_def_name" dH f12 g12)
  (d13:Df K "is_few" kL f13 g13)
  (d14:Df K "fits" sR f14 g14)
  (d15:Df K "is_node" jb f15 g15)
  (d16:Df K "parts_of" gA f16 g16)
  (d17:Df K "is_expression" iE f17 g17)
  (d18:Df K "show_part" eP f18 g18)
  (d19:Df K "show_length" cF f19 g19)
  (d20:Df K "in_brackets" tH f20 g20)
  (d21:Df K "show_kind" fk f21 g21)
  (d22:Df K "show_behind" dM f22 g22)
  (d23:Df K "show_all" gu f23 g23)
  (d24:Df K "show_expression" ck f24 g24)
  (d25:Df K "branch_of" dB f25 g25)
  (d26:Df K "number_of" fA f26 g26)
  (d27:Df K "part_of" iI f27 g27)
  (d28:Df K "length_of" eN f28 g28)
  (d29:Df K "word_alone" eE f29 g29)
  (d30:Df K "length_in" eW f30 g30)
  (d31:Df K "kind_in" iz f31 g31)
  (d32:Df K "thing_in" gm f32 g32)
  (d33:Df K "atom_of" iZ f33 g33)
  (d34:Df K "expression_in" cK f34 g34)
  (d35:Df K "kind_of_text" dj f35 g35)
  (d36:Df K "expression_of" cO f36 g36)
  (d37:Df K "just_so" iG f37 g37)
  (d38:Df K "read_length" dJ f38 g38)
  (d39:Df K "read_kind" eS f39 g39)
  (d40:Df K "read_expression" cf f40 g40)
  (d41:Df K "_law_draw" rY f41 g41)
  (d42:Df K "_law_state" nV f42 g42)
  (d43:Df K "_law_names" oX f43 g43)
  (d44:Df K "_law_no_lengths" eC f44 g44)
  (d45:Df K "_law_no_kinds" gn f45 g45)
  (d46:Df K "_law_no_expressions" cC f46 g46)
  (d47:Df K "_law_marks" jO f47 g47)
  (d48:Df K "_law_refused" fQ f48 g48)
  (d49:Df K "_law_right" pe f49 g49)
  (d50:Df K "_law_spoilt" lO f50 g50)
  (d51:Df K "law" mq f51 g51)
  (z1:Τ K mainGlobals "len"=some none)
  (z2:Τ K mainGlobals "isinstance"=some none)
  (z3:Τ K mainGlobals "int"=some none)
  (z4:Τ K mainGlobals "bool"=some none)
  (z5:Τ K mainGlobals "str"=some none)
  (z6:Τ K mainGlobals "tuple"=some none)
  (z7:Τ K mainGlobals "all"=some none)
  (z8:Τ K mainGlobals "zip"=some none)
  (z9:Τ K mainGlobals "range"=some none)
  (z10:Τ K mainGlobals "max"=some none)
  (z11:Τ K mainGlobals "min"=some none)
  (z12:Τ K mainGlobals "dict"=some none)
  (z13:Τ K mainGlobals "ValueError"=some none)
  {tg0 tg1 tg2 tg3 tg4 tg5 tg6 tg7 tg8:PySem.Tok}
  (zg0:Τ K mainGlobals "LONGEST_NAME"=some (some (.int 8 tg0)))
  (zg1:Τ K mainGlobals "GREATEST_SIZE"=some (some (.int 12 tg1)))
  (zg2:Τ K mainGlobals "GREATEST_NUMBER"=some (some (.int 99 tg2)))
  (zg3:Τ K mainGlobals "WHOLE_BOUND"=some (some (.int 1000000000000 tg3)))
  (zg4:Τ K mainGlobals "MOST_NODES"=some (some (.int 40 tg4)))
  (zg5:Τ K mainGlobals "MOST_ABOVE"=some (some (.int 7 tg5)))
  (zg6:Τ K mainGlobals "MOST_THINGS"=some (some (.int 4 tg6)))
  (zg7:Τ K mainGlobals "MOST_FIGURES"=some (some (.int 60 tg7)))
  (zg8:Τ K mainGlobals "MOST_BRACKETS"=some (some (.int 20 tg8)))
  {gR:Addr} {odR:Option Addr} {nR:Nat} {slR:Array (Option ε)} {tr0 tr1 tr2 tr3 tr4:PySem.Tok}
  (zR:Τ K mainGlobals "RECKONS"=some (some (.ref gR)))
  (lR:K.lookup gR=some ⟨.type "tuple",odR,.seq #[.str "plus" tr0,.str "minus" tr1,.str "times" tr2,.str "less" tr3,.str "same" tr4] nR,slR⟩)
  {gS:Addr}
  (zS:Τ K mainGlobals "SHAPES"=some (some (.ref gS)))
  {C fSI fM fN fB:Addr} {odSI anSI odM anM odN anN odB anB:Option Addr} {slSI slM slN slB:Array (Option ε)} {ocSI kVSI dcSI pmSI cdSI ctSI ocM kVM dcM pmM cdM ctM ocN kVN dcN pmN cdN ctN ocB kVB dcB pmB cdB ctB:ε}
  (aC:Τ K mainGlobals "Signs"=some (some (.ref C)))
  (aSI:ϋ K (.ref C) "__init__"=some (some (.ref fSI))) (iSI:C2 K (.ref fSI)=true)
  (lSI:K.lookup fSI=some ⟨ocSI,odSI,.func (ϻ "__init__" "Signs.__init__" (bE fL) (bc fL) (af fL) .none kVSI dcSI pmSI anSI cdSI ctSI),slSI⟩)
  (cSI:m4 K cdSI "Signs.__init__"=true) (kSI:ϒ K (.ref fSI)=true)
  (aM:ϋ K (.ref C) "met"=some (some (.ref fM))) (iM:C2 K (.ref fM)=true)
  (lM:K.lookup fM=some ⟨ocM,odM,.func (ϻ "met" "Signs.met" (bE mD) (bc mD) (af mD) .none kVM dcM pmM anM cdM ctM),slM⟩)
  (cM:m4 K cdM "Signs.met"=true) (kM:ϒ K (.ref fM)=true)
  (aN:ϋ K (.ref C) "next_word"=some (some (.ref fN))) (iN:C2 K (.ref fN)=true)
  (lN:K.lookup fN=some ⟨ocN,odN,.func (ϻ "next_word" "Signs.next_word" (bE ca) (bc ca) (af ca) .none kVN dcN pmN anN cdN ctN),slN⟩)
  (cN:m4 K cdN "Signs.next_word"=true) (kN:ϒ K (.ref fN)=true)
  (aB:ϋ K (.ref C) "branch"=some (some (.ref fB))) (iB:C2 K (.ref fB)=true)
  (lB:K.lookup fB=some ⟨ocB,odB,.func (ϻ "branch" "Signs.branch" (bE cV) (bc cV) (af cV) .none kVB dcB pmB anB cdB ctB),slB⟩)
  (cB:m4 K cdB "Signs.branch"=true) (kB:ϒ K (.ref fB)=true)
  (pg:C1 K C Hj=true) (hd:E8 K C=true) (po:Hd K C=true) (sa:ϋ K (.ref C) "__setattr__"=some (some (.builtin "object.__setattr__"))) (mk:HH K C=true) (kc:ϒ K (.ref C)=true)
  (nT:ϋ K (.ref C) "text"=some none) (nA:ϋ K (.ref C) "at"=some none)
  (sS:XB.Shp l.prog w K gS)
  {D fI gI aNoWords aNoProgram aTwice aNoBind aNoName aUnlike aParts aTooGreat aTooLong aNoValue aNoLine:Addr}
  {ocI kVI dcI pmI cdI ctI ocg:ε} {odI anI odg:Option Addr} {slI slg:Array (Option ε)} {ng:Nat}
  (lI:K.lookup fI=some ⟨ocI,odI,.func (ϻ "__init__" "IndexwiseError.__init__" (bE fU) (bc fU) (af fU) (.ref gI) kVI dcI pmI anI cdI ctI),slI⟩)
  (cI:m4 K cdI "IndexwiseError.__init__"=true) (lgI:K.lookup gI=some ⟨ocg,odg,.seq #[.none] ng,slg⟩) (tI:PySem.W.typeIn K (.ref fI)=some (.type "function"))
  {nmD qD:Str} {ND:Addr} {bsD subD:List ε} {snD:List Str} {abD:Bool} {colD:Option Bool} {ddD:Option Addr} {j0D j1D j2D j3D j5D:Option ε}
  (oD:Τ K mainGlobals "IndexwiseError"=some (some (.ref D)))
  (xD:K.lookup D=some (excClassObj nmD qD D ND bsD veM true snD subD abD colD ddD j0D j1D j2D j3D j5D "ValueError.__new__"))
  {nmNoWords qNoWords:Str} {NNoWords:Addr} {bsNoWords subNoWords:List ε} {snNoWords:List Str} {abNoWords:Bool} {colNoWords:Option Bool} {ddNoWords:Option Addr} {j0NoWords j1NoWords j2NoWords j3NoWords j5NoWords:Option ε}
  (oNoWords:Τ K mainGlobals "NoWords"=some (some (.ref aNoWords)))
  (xNoWords:K.lookup aNoWords=some (excClassObj nmNoWords qNoWords aNoWords NNoWords bsNoWords (.ref D::veM) true snNoWords subNoWords abNoWords colNoWords ddNoWords j0NoWords j1NoWords j2NoWords j3NoWords j5NoWords "ValueError.__new__"))
  {nmNoProgram qNoProgram:Str} {NNoProgram:Addr} {bsNoProgram subNoProgram:List ε} {snNoProgram:List Str} {abNoProgram:Bool} {colNoProgram:Option Bool} {ddNoProgram:Option Addr} {j0NoProgram j1NoProgram j2NoProgram j3NoProgram j5NoProgram:Option ε}
  (oNoProgram:Τ K mainGlobals "NoProgram"=some (some (.ref aNoProgram)))
  (xNoProgram:K.lookup aNoProgram=some (excClassObj nmNoProgram qNoProgram aNoProgram NNoProgram bsNoProgram (.ref D::veM) true snNoProgram subNoProgram abNoProgram colNoProgram ddNoProgram j0NoProgram j1NoProgram j2NoProgram j3NoProgram j5NoProgram "ValueError.__new__"))
  {nmTwice qTwice:Str} {NTwice:Addr} {bsTwice subTwice:List ε} {snTwice:List Str} {abTwice:Bool} {colTwice:Option Bool} {ddTwice:Option Addr} {j0Twice j1Twice j2Twice j3Twice j5Twice:Option ε}
  (oTwice:Τ K mainGlobals "Twice"=some (some (.ref aTwice)))
  (xTwice:K.lookup aTwice=some (excClassObj nmTwice qTwice aTwice NTwice bsTwice (.ref D::veM) true snTwice subTwice abTwice colTwice ddTwice j0Twice j1Twice j2Twice j3Twice j5Twice "ValueError.__new__"))
  {nmNoBind qNoBind:Str} {NNoBind:Addr} {bsNoBind subNoBind:List ε} {snNoBind:List Str} {abNoBind:Bool} {colNoBind:Option Bool} {ddNoBind:Option Addr} {j0NoBind j1NoBind j2NoBind j3NoBind j5NoBind:Option ε}
  (oNoBind:Τ K mainGlobals "NoBind"=some (some (.ref aNoBind)))
  (xNoBind:K.lookup aNoBind=some (excClassObj nmNoBind qNoBind aNoBind NNoBind bsNoBind (.ref D::veM) true snNoBind subNoBind abNoBind colNoBind ddNoBind j0NoBind j1NoBind j2NoBind j3NoBind j5NoBind "ValueError.__new__"))
  {nmNoName qNoName:Str} {NNoName:Addr} {bsNoName subNoName:List ε} {snNoName:List Str} {abNoName:Bool} {colNoName:Option Bool} {ddNoName:Option Addr} {j0NoName j1NoName j2NoName j3NoName j5NoName:Option ε}
  (oNoName:Τ K mainGlobals "NoName"=some (some (.ref aNoName)))
  (xNoName:K.lookup aNoName=some (excClassObj nmNoName qNoName aNoName NNoName bsNoName (.ref D::veM) true snNoName subNoName abNoName colNoName ddNoName j0NoName j1NoName j2NoName j3NoName j5NoName "ValueError.__new__"))
  {nmUnlike qUnlike:Str} {NUnlike:Addr} {bsUnlike subUnlike:List ε} {snUnlike:List Str} {abUnlike:Bool} {colUnlike:Option Bool} {ddUnlike:Option Addr} {j0Unlike j1Unlike j2Unlike j3Unlike j5Unlike:Option ε}
  (oUnlike:Τ K mainGlobals "Unlike"=some (some (.ref aUnlike)))
  (xUnlike:K.lookup aUnlike=some (excClassObj nmUnlike qUnlike aUnlike NUnlike bsUnlike (.ref D::veM) true snUnlike subUnlike abUnlike colUnlike ddUnlike j0Unlike j1Unlike j2Unlike j3Unlike j5Unlike "ValueError.__new__"))
  {nmParts qParts:Str} {NParts:Addr} {bsParts subParts:List ε} {snParts:List Str} {abParts:Bool} {colParts:Option Bool} {ddParts:Option Addr} {j0Parts j1Parts j2Parts j3Parts j5Parts:Option ε}
  (oParts:Τ K mainGlobals "Parts"=some (some (.ref aParts)))
  (xParts:K.lookup aParts=some (excClassObj nmParts qParts aParts NParts bsParts (.ref D::veM) true snParts subParts abParts colParts ddParts j0Parts j1Parts j2Parts j3Parts j5Parts "ValueError.__new__"))
  {nmTooGreat qTooGreat:Str} {NTooGreat:Addr} {bsTooGreat subTooGreat:List ε} {snTooGreat:List Str} {abTooGreat:Bool} {colTooGreat:Option Bool} {ddTooGreat:Option Addr} {j0TooGreat j1TooGreat j2TooGreat j3TooGreat j5TooGreat:Option ε}
  (oTooGreat:Τ K mainGlobals "TooGreat"=some (some (.ref aTooGreat)))
  (xTooGreat:K.lookup aTooGreat=some (excClassObj nmTooGreat qTooGreat aTooGreat NTooGreat bsTooGreat (.ref D::veM) true snTooGreat subTooGreat abTooGreat colTooGreat ddTooGreat j0TooGreat j1TooGreat j2TooGreat j3TooGreat j5TooGreat "ValueError.__new__"))
  {nmTooLong qTooLong:Str} {NTooLong:Addr} {bsTooLong subTooLong:List ε} {snTooLong:List Str} {abTooLong:Bool} {colTooLong:Option Bool} {ddTooLong:Option Addr} {j0TooLong j1TooLong j2TooLong j3TooLong j5TooLong:Option ε}
  (oTooLong:Τ K mainGlobals "TooLong"=some (some (.ref aTooLong)))
  (xTooLong:K.lookup aTooLong=some (excClassObj nmTooLong qTooLong aTooLong NTooLong bsTooLong (.ref D::veM) true snTooLong subTooLong abTooLong colTooLong ddTooLong j0TooLong j1TooLong j2TooLong j3TooLong j5TooLong "ValueError.__new__"))
  {nmNoValue qNoValue:Str} {NNoValue:Addr} {bsNoValue subNoValue:List ε} {snNoValue:List Str} {abNoValue:Bool} {colNoValue:Option Bool} {ddNoValue:Option Addr} {j0NoValue j1NoValue j2NoValue j3NoValue j5NoValue:Option ε}
  (oNoValue:Τ K mainGlobals "NoValue"=some (some (.ref aNoValue)))
  (xNoValue:K.lookup aNoValue=some (excClassObj nmNoValue qNoValue aNoValue NNoValue bsNoValue (.ref D::veM) true snNoValue subNoValue abNoValue colNoValue ddNoValue j0NoValue j1NoValue j2NoValue j3NoValue j5NoValue "ValueError.__new__"))
  {nmNoLine qNoLine:Str} {NNoLine:Addr} {bsNoLine subNoLine:List ε} {snNoLine:List Str} {abNoLine:Bool} {colNoLine:Option Bool} {ddNoLine:Option Addr} {j0NoLine j1NoLine j2NoLine j3NoLine j5NoLine:Option ε}
  (oNoLine:Τ K mainGlobals "NoLine"=some (some (.ref aNoLine)))
  (xNoLine:K.lookup aNoLine=some (excClassObj nmNoLine qNoLine aNoLine NNoLine bsNoLine (.ref D::veM) true snNoLine subNoLine abNoLine colNoLine ddNoLine j0NoLine j1NoLine j2NoLine j3NoLine j5NoLine "ValueError.__new__"))
  (inNoWords:ϋ K (.ref aNoWords) "__init__"=some (some (.ref fI)))
  (saNoWords:ϋ K (.ref aNoWords) "__setattr__"=some (some (.builtin "object.__setattr__")))
  (plNoWords:ϋ K (.ref aNoWords) "place"=some none)
  (gaNoWords:ϋ K (.ref aNoWords) "__getattribute__"=some (some (.builtin "BaseException.__getattribute__")))
  (ghNoWords:ϋ K (.ref aNoWords) "__getattr__"=some none)
  (clNoWords:ϋ K (.ref aNoWords) "__class__"=some (some (.builtin "object.__class__")))
  (kpNoWords:ϒ K (.ref aNoWords)=true)
  (ndC:(D::[aNoWords,aNoProgram,aTwice,aNoBind,aNoName,aUnlike,aParts,aTooGreat,aTooLong,aNoValue,aNoLine]).Nodup)
  :
  ∃fd:Γ,(∀(s:η)(v:ε),Hu s fd ⟨[v],[]⟩ [("_law_script",v)])/\∀base:Heap,K.In base->base.Ns mainGlobals mg->ap l.prog w K mg base CX0 72 fa fd ["_law_script"] (uJ K):=by
 have e:=hfa.symm.trans (Δ X G d51.a)
 cases e
 have T:Txt K mg:=⟨Ϥ X G z1,Ϥ X G z2,Ϥ X G z3,Ϥ X G z4,Ϥ X G z5,Ϥ X G z6,Ϥ X G z7,Ϥ X G z8,Ϥ X G z9,Ϥ X G z10,Ϥ X G z11,Ϥ X G z12,Ϥ X G z13,⟨tg0,Δ X G zg0⟩,⟨tg1,Δ X G zg1⟩,⟨tg2,Δ X G zg2⟩,⟨tg3,Δ X G zg3⟩,⟨tg4,Δ X G zg4⟩,⟨tg5,Δ X G zg5⟩,⟨tg6,Δ X G zg6⟩,⟨tg7,Δ X G zg7⟩,⟨tg8,Δ X G zg8⟩⟩
 have b1:=d1.F.binds (ps:=["thing"]) λ_ _ _ _ _ _=>us1 λ_=>rfl
 have b2:=d2.F.binds (ps:=["thing"]) λ_ _ _ _ _ _=>us1 λ_=>rfl
 have b3:=d3.F.binds (ps:=["thing"]) λ_ _ _ _ _ _=>us1 λ_=>rfl
 have b4:=d4.F.binds (ps:=["thing"]) λ_ _ _ _ _ _=>us1 λ_=>rfl
 have b5:=d5.F.binds (ps:=["thing"]) λ_ _ _ _ _ _=>us1 λ_=>rfl
 have b6:=d6.F.binds (ps:=["thing"]) λ_ _ _ _ _ _=>us1 λ_=>rfl
 have b7:=d7.F.binds (ps:=["thing"]) λ_ _ _ _ _ _=>us1 λ_=>rfl
 have b8:=d8.F.binds (ps:=["thing"]) λ_ _ _ _ _ _=>us1 λ_=>rfl
 have b9:=d9.F.binds (ps:=["point"]) λ_ _ _ _ _ _=>us1 λ_=>rfl
 have b10:=d10.F.binds (ps:=["thing"]) λ_ _ _ _ _ _=>us1 λ_=>rfl
 have b11:=d11.F.binds (ps:=["thing","bound"]) λ_ _ _ _ _ _=>us2 λ_ _=>rfl
 have b12:=d12.F.binds (ps:=["thing"]) λ_ _ _ _ _ _=>us1 λ_=>rfl
 have b13:=d13.F.binds (ps:=["thing","least"]) λ_ _ _ _ _ _=>us2 λ_ _=>rfl
 have b14:=d14.F.binds (ps:=["sort","thing"]) λ_ _ _ _ _ _=>us2 λ_ _=>rfl
 have b15:=d15.F.binds (ps:=["thing"]) λ_ _ _ _ _ _=>us1 λ_=>rfl
 have b16:=d16.F.binds (ps:=["node"]) λ_ _ _ _ _ _=>us1 λ_=>rfl
 have b17:=d17.F.binds (ps:=["thing"]) λ_ _ _ _ _ _=>us1 λ_=>rfl
 have b18:=d18.F.binds (ps:=["name","times"]) λ_ _ _ _ _ _=>us2 λ_ _=>rfl
 have b19:=d19.F.binds (ps:=["a"]) λ_ _ _ _ _ _=>us1 λ_=>rfl
 have b20:=d20.F.binds (ps:=["word","texts"]) λ_ _ _ _ _ _=>us2 λ_ _=>rfl
 have b21:=d21.F.binds (ps:=["kind"]) λ_ _ _ _ _ _=>us1 λ_=>rfl
 have b22:=d22.F.binds (ps:=["sort","given"]) λ_ _ _ _ _ _=>us2 λ_ _=>rfl
 have b23:=d23.F.binds (ps:=["expressions"]) λ_ _ _ _ _ _=>us1 λ_=>rfl
 have b24:=d24.F.binds (ps:=["expression"]) λ_ _ _ _ _ _=>us1 λ_=>rfl
 have b25:=d25.F.binds (ps:=["text"]) λ_ _ _ _ _ _=>us1 λ_=>rfl
 have b26:=d26.F.binds (ps:=["word"]) λ_ _ _ _ _ _=>us1 λ_=>rfl
 have b27:=d27.F.binds (ps:=["text"]) λ_ _ _ _ _ _=>us1 λ_=>rfl
 have b28:=d28.F.binds (ps:=["text"]) λ_ _ _ _ _ _=>us1 λ_=>rfl
 have b29:=d29.F.binds (ps:=["branch"]) λ_ _ _ _ _ _=>us1 λ_=>rfl
 have b30:=d30.F.binds (ps:=["branch"]) λ_ _ _ _ _ _=>us1 λ_=>rfl
 have b31:=d31.F.binds (ps:=["branch"]) λ_ _ _ _ _ _=>us1 λ_=>rfl
 have b32:=d32.F.binds (ps:=["sort","branch"]) λ_ _ _ _ _ _=>us2 λ_ _=>rfl
 have b33:=d33.F.binds (ps:=["word"]) λ_ _ _ _ _ _=>us1 λ_=>rfl
 have b34:=d34.F.binds (ps:=["branch"]) λ_ _ _ _ _ _=>us1 λ_=>rfl
 have b35:=d35.F.binds (ps:=["text"]) λ_ _ _ _ _ _=>us1 λ_=>rfl
 have b36:=d36.F.binds (ps:=["text"]) λ_ _ _ _ _ _=>us1 λ_=>rfl
 have b37:=d37.F.binds (ps:=["text","reader","is_one","shower","place"]) λ_ _ _ _ _ _=>us5 λ_ _ _ _ _=>rfl
 have b38:=d38.F.binds (ps:=["text"]) λ_ _ _ _ _ _=>us1 λ_=>rfl
 have b39:=d39.F.binds (ps:=["text"]) λ_ _ _ _ _ _=>us1 λ_=>rfl
 have b40:=d40.F.binds (ps:=["text"]) λ_ _ _ _ _ _=>us1 λ_=>rfl
 have b41:=d41.F.binds (ps:=["_law_state_here","_law_many"]) λ_ _ _ _ _ _=>us2 λ_ _=>rfl
 have b42:=d42.F.binds (ps:=["_law_script","_law_k"]) λ_ _ _ _ _ _=>us2 λ_ _=>rfl
 have b43:=d43.F.binds (ps:=["_law_state_here","_law_many"]) λ_ _ _ _ _ _=>us2 λ_ _=>rfl
 have b44:=d44.F.binds (ps:=["_law_name"]) λ_ _ _ _ _ _=>us1 λ_=>rfl
 have b45:=d45.F.binds (ps:=["_law_name"]) λ_ _ _ _ _ _=>us1 λ_=>rfl
 have b46:=d46.F.binds (ps:=["_law_name"]) λ_ _ _ _ _ _=>us1 λ_=>rfl
 have b47:=d47.F.binds (ps:=["_law_e"]) λ_ _ _ _ _ _=>us1 λ_=>rfl
 have b48:=d48.F.binds (ps:=["_law_way","_law_text"]) λ_ _ _ _ _ _=>us2 λ_ _=>rfl
 have b49:=d49.F.binds (ps:=["_law_name"]) λ_ _ _ _ _ _=>us1 λ_=>rfl
 have b50:=d50.F.binds (ps:=["_law_text","_law_state_here"]) λ_ _ _ _ _ _=>us2 λ_ _=>rfl
 obtain⟨_,_,kV,doc,pm,an,cdv,ct,_,rfl,_⟩:=id d51.F.ex
 refine⟨ϻ "law" "law" (bE mq) (bc mq) (af mq) .none kV doc pm an cdv ct,λs v=>.of_eq rfl,λbase _ _=>?_⟩
 have hRK:∀H,SqT K H gR (rm.map V.str):=λH=>.inr ⟨_,_,_,lR,rfl,rfl,(by show 5<=sizeLine;rw[τ];decide),.cons ⟨_,rfl⟩ (.cons ⟨_,rfl⟩ (.cons ⟨_,rfl⟩ (.cons ⟨_,rfl⟩ (.cons ⟨_,rfl⟩ .nil))))⟩
 have D1:=d1.d X G b1 (rB d1.F T (P:=l.prog) (w:=w) (base:=base))
 have D2:=d2.d X G b2 (sj d2.F T (P:=l.prog) (w:=w) (base:=base))
 have D3:=d3.d X G b3 (uc (k:=1) d3.F T (D1.up ()) (D2.up ()))
 have D4:=d4.d X G b4 (oB (k:=2) d4.F T (D3.up ()))
 have D5:=d5.d X G b5 (hV (k:=3) d5.F T (D1.up ()) (D4.up ()))
 have D6:=d6.d X G b6 (rR (k:=4) d6.F T (D5.up ()))
 have D7:=d7.d X G b7 (rq d7.F T (P:=l.prog) (w:=w) (base:=base))
 have D8:=d8.d X G b8 (rD (k:=5) d8.F T (D7.up ()) (D6.up ()))
 have D9:=d9.d X G b9 (uy (P:=l.prog) (w:=w) (base:=base) d9.F T)
 have D10:=d10.d X G b10 (lU (k:=6) d10.F T (D8.up ()) (D9.up ()))
 have D11:=d11.d X G b11 (rA (k:=1) d11.F T (D1.up ()))
 have D13:=d13.d X G b13 (wG d13.F T (P:=l.prog) (w:=w) (base:=base))
 have D12:=d12.d X G b12 (lq (k:=1) d12.F T sS (Δ X G zS) (Δ X G zR) hRK (D2.up ()))
 have D14:=d14.d X G b14 (Ae (k:=7) d14.F T (Δ X G zR) hRK (D11.up ()) (D2.up ()) (D6.up ()) (D10.up ()) (D12.up ()) (D13.up ()))
 have D15:=d15.d X G b15 (sk (k:=8) d15.F T sS (Δ X G zS) (D7.up ()) (D14.up ()))
 have D16:=d16.d X G b16 (qg d16.F T sS (Δ X G zS) (P:=l.prog) (w:=w) (base:=base))
 have D17:=d17.d X G b17 (lh (k:=9) d17.F T (D15.up ()) (D16.up ()))
 have Fil:=hV (k:=3) d5.F T (D1.up ()) (D4.up ())
 have D5:=d5.d X G b5 Fil
 have Fik:=lU (k:=6) d10.F T (D8.up ()) (D9.up ())
 have D10:=d10.d X G b10 Fik
 have Fie:=lh (k:=9) d17.F T (D15.up ()) (D16.up ())
 have D17:=d17.d X G b17 Fie
 have cl:Cls K C:=⟨pg,hd,po,sa⟩
 have FSI:=ko (st:=fL) lSI cSI kSI
 have bSI:=FSI.binds (ps:=["self","text"]) λ_ _ _ _ _ _=>us2 λ_ _=>rfl
 have FM:=ko (st:=mD) lM cM kM
 have bM:=FM.binds (ps:=["self","signs"]) λ_ _ _ _ _ _=>us2 λ_ _=>rfl
 have FN:=ko (st:=ca) lN cN kN
 have bN:=FN.binds (ps:=["self"]) λ_ _ _ _ _ _=>us1 λ_=>rfl
 have FB:=ko (st:=cV) lB cB kB
 have bB:=FB.binds (ps:=["self","most"]) λ_ _ _ _ _ _=>us2 λ_ _=>rfl
 have OSI:ap l.prog w K mg base CX0 1 fSI _ _ _:=yP FSI T cl nT nA
 have OM:ap l.prog w K mg base CX0 1 fM _ _ _:=BH FM T cl nT nA
 have ON:ap l.prog w K mg base CX0 1 fN _ _ _:=nI FN T cl nT nA
 have chB:∀n,ap l.prog w K mg base CX0 (1+n) fB _ ["self","most"] (eM C n):=λn=>by
  induction n with
  |zero=>exact fD λvs H Q E h=>by obtain⟨a,x,i,most,t,post,_,_,_,_,_,_,_,h1,h2,_⟩:=h;omega
  |succ n ih=>exact wV (k0:=1+n) FB T cl ⟨aN,iN,kN⟩ (ON.mono ()) bN ⟨aM,iM,kM⟩ (OM.mono ()) bM ⟨aB,iB,kB⟩ ih bB
 have chT:∀n,ap l.prog w K mg base CX0 (1+n) fB _ ["self","most"] (qk C n):=λn=>by
  induction n with
  |zero=>exact fD λvs H Q E h=>by obtain⟨a,x,i,most,_,_,_,_,_,h1,h2,_⟩:=h;omega
  |succ n ih=>exact tZ (k0:=1+n) FB T cl ⟨aN,iN,kN⟩ (ON.mono ()) bN ⟨aM,iM,kM⟩ (OM.mono ()) bM ⟨aB,iB,kB⟩ ih bB
 have D18:=d18.d X G b18 (oW d18.F T (P:=l.prog) (w:=w) (base:=base))
 have Fsl:=kT (k:=1) d19.F T (D18.up ())
 have D19:=d19.d X G b19 Fsl
 have D20:=d20.d X G b20 (zD d20.F T (P:=l.prog) (w:=w) (base:=base))
 have ch21:∀n,ap l.prog w K mg base CX0 (2+n) f21 _ ["kind"] (qi n):=λn=>by
  induction n with
  |zero=>exact fD λvs H Q E h=>by obtain⟨v,k,_,_,z,_⟩:=h;have:=k.size_pos;omega
  |succ n ih=>exact nL (k0:=2+n) d21.F T (D20.up ()) (D19.up ()) (d21.d X G b21 ih)
 have D21:=d21.d X G b21 (ch21 12)
 have ch24:∀n,ap l.prog w K mg base CX0 (14+2*n) f24 _ ["expression"] (rQ n):=λn=>by
  induction n with
  |zero=>exact fD λvs H Q E h=>by obtain⟨v,d,b,_,_,z,_⟩:=h;exact z
  |succ n ih=>exact gz (k:=14+2*n+1) d24.F T sS (Δ X G zS) (D20.up ()) (d23.d X G b23 (qU (k:=14+2*n) d23.F T (d24.d X G b24 ih))) (d22.d X G b22 (lH (k:=14+2*n) d22.F T (D19.up ()) (D21.up ()) (d24.d X G b24 ih)))
 have D25:=d25.d X G b25 (Ej (pc (k0:=21) d25.F T cl ⟨mk,aSI,iSI,kc⟩ (OSI.mono ()) bSI (Δ X G aC) ⟨aB,iB,kB⟩ (chB 21) bB) (me (k0:=21) d25.F T cl ⟨mk,aSI,iSI,kc⟩ (OSI.mono ()) bSI (Δ X G aC) ⟨aB,iB,kB⟩ (chT 21) bB))
 have D26:=d26.d X G b26 (nG d26.F T (P:=l.prog) (w:=w) (base:=base))
 have D27:=d27.d X G b27 (yC (k:=1) d27.F T (D26.up ()))
 have Fl:=Ap (k:=2) d28.F T (D26.up ()) (D27.up ())
 have D28:=d28.d X G b28 Fl
 have D30:=d30.d X G b30 (lX (k:=3) d30.F T (D28.up ()))
 have D29:=d29.d X G b29 (kR (P:=l.prog) (w:=w) (base:=base) d29.F T )
 have D33:=d33.d X G b33 (qV (k:=1) d33.F T (D26.up ()))
 have ch31:∀n,ap l.prog w K mg base CX0 (4+n) f31 _ ["branch"] (gG n):=λn=>by
  induction n with
  |zero=>exact fD λvs H Q E h=>by obtain⟨v,b,_,_,_,z,_⟩:=h;omega
  |succ n ih=>exact qz (k0:=4+n) d31.F T (D30.up ()) (d31.d X G b31 ih)
 have D31:=d31.d X G b31 (ch31 21)
 have ch34:∀n,ap l.prog w K mg base CX0 (25+2*n) f34 _ ["branch"] (mG n):=λn=>by
  induction n with
  |zero=>exact fD λvs H Q E h=>by obtain⟨v,b,_,_,_,z,_⟩:=h;omega
  |succ n ih=>exact gQ (k:=25+2*n+1) d34.F T sS (Δ X G zS) (Δ X G zR) hRK (D33.up ()) (d32.d X G b32 (nY (k:=25+2*n) d32.F T (D30.up ()) (D31.up ()) (D29.up ()) (d34.d X G b34 ih))) ((d34.d X G b34 ih).up ())
 have D34:=d34.d X G b34 (ch34 21)
 have Fk:=iV (k0:=25) d35.F T (D25.up ()) (D31.up ())
 have Fx:=gM (k0:=67) d36.F T (D25.up ()) (D34.up ())
 have FxI:wo K "__init__" "IndexwiseError.__init__" fU fI _ (.ref gI):=⟨⟨_,_,_,_,_,_,_,_,_,rfl,lI,cI⟩⟩
 have BI:=FxI.binds (ps:=["self","place"]) (ds:=[]) lgI rfl λ_ _ _ _ _ _ us hl=>match us,(show us.length=2 by simpa using hl)with| [_,_],_=>⟨_,rfl,rfl⟩
 have FI:ap l.prog w K mg base CX0 1 fI _ ["self","place"] (oK K D fI):=xq FxI T
 have ndA:=r6.mp ndC
 have neD:∀b∈[aNoWords,aNoProgram,aTwice,aNoBind,aNoName,aUnlike,aParts,aTooGreat,aTooLong,aNoValue,aNoLine],b≠D:=λb hb z=>ndA.1 (z▸hb)
 have ndB:=(r6.mp ndA.2).1
 have CW:iL K D fI aNoWords:=⟨⟨_,_,_,_,_,_,_,_,_,_,_,_,_,_,xNoWords⟩,inNoWords,tI,saNoWords,plNoWords,gaNoWords,ghNoWords,clNoWords,kpNoWords,neD _ ()⟩
 have Er:Cv K mg D fI aNoProgram aTwice aNoBind aNoName aUnlike aParts aTooGreat aTooLong aNoValue aNoWords aNoLine:=⟨⟨_,_,_,_,_,_,_,_,_,_,_,_,_,_,xD⟩,Δ X G oD,CW,λb hb=>⟨by
  simp only[ι,a_,or_false]at hb
  rcases hb with rfl|rfl|rfl|rfl|rfl|rfl|rfl|rfl|rfl|rfl
  ·exact⟨⟨_,_,_,_,_,_,_,_,_,_,_,_,_,_,xNoProgram⟩,neD _ ()⟩
  ·exact⟨⟨_,_,_,_,_,_,_,_,_,_,_,_,_,_,xTwice⟩,neD _ ()⟩
  ·exact⟨⟨_,_,_,_,_,_,_,_,_,_,_,_,_,_,xNoBind⟩,neD _ ()⟩
  ·exact⟨⟨_,_,_,_,_,_,_,_,_,_,_,_,_,_,xNoName⟩,neD _ ()⟩
  ·exact⟨⟨_,_,_,_,_,_,_,_,_,_,_,_,_,_,xUnlike⟩,neD _ ()⟩
  ·exact⟨⟨_,_,_,_,_,_,_,_,_,_,_,_,_,_,xParts⟩,neD _ ()⟩
  ·exact⟨⟨_,_,_,_,_,_,_,_,_,_,_,_,_,_,xTooGreat⟩,neD _ ()⟩
  ·exact⟨⟨_,_,_,_,_,_,_,_,_,_,_,_,_,_,xTooLong⟩,neD _ ()⟩
  ·exact⟨⟨_,_,_,_,_,_,_,_,_,_,_,_,_,_,xNoValue⟩,neD _ ()⟩
  ·exact⟨⟨_,_,_,_,_,_,_,_,_,_,_,_,_,_,xNoLine⟩,neD _ ()⟩,Q8 λz=>ndB (z▸hb)⟩,Δ X G oNoProgram,Δ X G oTwice,Δ X G oNoBind,Δ X G oNoName,Δ X G oUnlike,Δ X G oParts,Δ X G oTooGreat,Δ X G oTooLong,Δ X G oNoValue,Δ X G oNoWords,Δ X G oNoLine⟩
 have JL:=d37.x X G b37 (eY (k0:=67) (W:=WL) (Wp:=WLp) (G:=GL) (oneD:=ib) d37.F T CW (Δ X G oNoWords) (FI.mono ()) BI EN DB (λh=>h.1) ((CS Fl).mono ()) d28.F.kp b28 (Fil.mono ()) d5.F.kp b5 (DC (Fsl.mono ())) d19.F.kp b19)
 have JK:=d37.x X G b37 (eY (k0:=67) (W:=WK) (Wp:=WKp) (G:=GK) (oneD:=λd=>decide (aA d<=12)) d37.F T CW (Δ X G oNoWords) (FI.mono ()) BI Fc Cb (λh=>h.1) (Fk.mono ()) d35.F.kp b35 (Fik.mono ()) d10.F.kp b10 (Ab ((ch21 12).mono ())) d21.F.kp b21)
 have JE:=d37.x X G b37 (eY (k0:=67) (W:=WE) (Wp:=WEp) (G:=GE) (oneD:=λd=>decide (exN 8 d<=40)) d37.F T CW (Δ X G oNoWords) (FI.mono ()) BI ER DG (λh=>h.1) (Fx.mono ()) d36.F.kp b36 (Fie.mono ()) d17.F.kp b17 (((ch24 8).mono ()).imp DL) d24.F.kp b24)
 have RL:=jF (k0:=69) d38.F T JL (Δ X G d28.a) (Δ X G d5.a) (Δ X G d19.a)
 have D38:=d38.d X G b38 (px RL)
 have RK:=ml (k0:=69) d39.F T JK (Δ X G d35.a) (Δ X G d10.a) (Δ X G d21.a)
 have D39:=d39.d X G b39 (px RK)
 have RE:=gf (k0:=69) d40.F T JE (Δ X G d36.a) (Δ X G d17.a) (Δ X G d24.a)
 have D40:=d40.d X G b40 (px RE)
 have D48:=d48.d X G b48 (tE (k:=70) d48.F T Er RL (Δ X G d38.a) d38.F.kp b38 RK (Δ X G d39.a) d39.F.kp b39 RE (Δ X G d40.a) d40.F.kp b40 (λe=>yq (eH:=e) (k:=69) d47.F T Er) (Δ X G d47.a) d47.F.kp b47)
 have D41:=d41.d X G b41 (zV d41.F T (P:=l.prog) (w:=w) (base:=base))
 have D42:=d42.d X G b42 (yy d42.F T (P:=l.prog) (w:=w) (base:=base))
 have D43:=d43.d X G b43 (xy (k:=1) d43.F T (D41.up ()))
 have D44:=d44.d X G b44 (md d44.F T (P:=l.prog) (w:=w) (base:=base))
 have D45:=d45.d X G b45 (rJ d45.F T (P:=l.prog) (w:=w) (base:=base))
 have D46:=d46.d X G b46 (iw d46.F T (P:=l.prog) (w:=w) (base:=base))
 have D49:=d49.d X G b49 (yu (k:=70) d49.F T (D38.up ()) (D39.up ()) (D40.up ()))
 have D50:=d50.d X G b50 (wL (k:=1) d50.F T (D41.up ()))
 exact DF (k0:=71) d51.F T (D42.up ()) (D43.up ()) (D41.up ()) (D44.up ()) (D45.up ()) (D46.up ()) (D48.up ()) (D49.up ()) (D50.up ())
theorem walk{l:HJ}{q:υ}{loose:List Str}{XP:(Str->Option ε)->Heap->Prop}{YP:Κ->Heap->Prop}{d:DefRec}{K:Params->ζ}(hn:l.most=some 63)(hdf:d.params.defaults=[])
  (hY:∀(w:Κ)(h:Heap),YP w h->(K w.params).In h)
  (F:∀(w:Κ)(mg:Str->Option ε)(fa:Addr)(h:Heap),(K w.params).In h->h.Ns mainGlobals mg->mg d.name=some (.ref fa) ->
   ∃fd:Γ,(∀(s:η)(u:ε),Hu s fd ⟨[u],[]⟩ [("_law_script",u)])/\∀base:Heap,(K w.params).In base->base.Ns mainGlobals mg->ap l.prog w (K w.params) mg base CX0 72 fa fd ["_law_script"] (uJ (K w.params))):
  PySem.W.WalkO q loose XP YP l.row.toRowW d [] (λf vs=>PySem.call f vs):=
 L2.walk_of (n:=63) (k:=72) (x:="_law_script") (CX:=λ_=>CX0) (sp:=λw=>uJ (K w.params)) hn () hdf ⟨rfl,(),()⟩ hY F (λ_ _ a ns hl _ hS=>⟨a,ns,rfl,hS,hl,λ_=>rfl⟩) λ_ _ _ _ _ z=>z
end K64
namespace PySem.W.Fast
def tw7395955042770445884:=0
def tw12337114705531321662:=0
def tw14736757526989754240:=0
def tw7534670828926586494:=0
def tw762960736811212936:=0
def tw16214323463368417169:=0
def tw16327323692837237423:=0
def tw7341103878618632708:=0
def tw1056271773398114860:=0
def tw829630235635246491:=0
def tw15080367143353618598:=0
def tw11620885443690015917:=0
def tw7153621194560511384:=0
def tw16823927183723356243:=0
def tw11359679704808064118:=0
def tw11776879534033119371:=0
def tw8026277348722838747:=0
def tw14030654789535435013:=0
def tw11670070543768853968:=0
def tw4021776638986164682:=0
def tw15926030800086985371:=0
def tw11169473048679268109:=0
def tw1040892154283881029:=0
def tw9211508721661722756:=0
def tw14779074129551193927:=0
def tw14920698137471595414:=0
def tw558186245891885018:=0
def tw13890573492092014689:=0
def tw2313887751494767520:=0
def tw3031113058064292427:=0
def tw398223598922472856:=0
def tw7756390339419866976:=0
def tw11548737488964128584:=0
def tw8062436333488671402:=0
def tw17463410589733812710:=0
def tw10024459637819333881:=0
def tw14027733966018145657:=0
def tw8645237830820447795:=0
def tw10599877272349160593:=0
def tw18401277382018136526:=0
def tw5201639113039044040:=0
def tw12595679842532705132:=0
def tw11210018371929967028:=0
def tw13756175612070869669:=0
def tw2514699143381625915:=0
def tw9138037638363357257:=0
def tw6079702301097089058:=0
def tw6019785026755463697:=0
def tw13123479349604474434:=0
def tw16565135862352810632:=0
def tw8941561746209034024:=0
def tw12429007806718482585:=0
def tw7131379957916734432:=0
def tw8269693893341317464:=0
def tw1201440472796855778:=0
def tw14536292442468429935:=0
def tw849888644442444441:=0
def tw10563018653883216105:=0
def tw9282576396339490413:=0
def tw3904304625932978888:=0
def tw5700188746864675197:=0
def tw14707527493659531667:=0
def tw106227826559568610:=0
def tw14924736657618160579:=0
def tw8176145015418763573:=0
def tw8327363278053134587:=0
def tw4155786362351391522:=0
def tw14860430601323565749:=0
def tw16823068187803038793:=0
def tw7832626569826265257:=0
def tw15548772996375107402:=0
def tw7247037276124506385:=0
def tw5816787853937543325:=0
def tw9809490722111771146:=0
def tw6517963340690965352:=0
def tw7596511204718741984:=0
def tw6418378828546741557:=0
def tw11584831305756157999:=0
def tw2336785338249161732:=0
def tw9949170233183535088:=0
def tw10601628365002333621:=0
def tw11864704381544015828:=0
def tw16989324576328749752:=0
def tw653572733649345647:=0
def tw3397075737713279576:=0
def tw15828662710583856806:=0
def tw3764521013884197540:=0
def tw8934081213132792097:=0
def tw3751679780353367394:=0
def tw10667171845173097862:=0
def tw14899186581378408629:=0
def tw6241992395508491822:=0
def tw15631280710254217392:=0
def tw10761374747338385570:=0
def tw2013522553359128139:=0
def tw952235491711871718:=0
def tw15607762225675921319:=0
def tw4750568651181299773:=0
def tw12945689243633888785:=0
def tw9869948481752649804:=0
def tw2991247341431924462:=0
def tw12375900901520062156:=0
def tw4703844153255362202:=0
def tw6444600362702014569:=0
def tw6279060943987503119:=0
def tw13269185733961895141:=0
def tw7319547414681708368:=0
def tw1913600168545289725:=0
def tw4861938557400649394:=0
def tw10627497534241086283:=0
def tw7226986162720694687:=0
def tw14693502356647266028:=0
def tw3302282982062198151:=0
def tw14803230004343676519:=0
def tw11615582069384282838:=0
def tw14678773519384005170:=0
def tw5134946126984695127:=0
def tw13175013518512968957:=0
def tw8849415600759702908:=0
def tw14690673237124132551:=0
def tw17951648990654273914:=0
def tw8930165852548465614:=0
def tw3068804244455749365:=0
def tw1547787537112054161:=0
def tw16078209382834653307:=0
def tw5719980262645599887:=0
def tw9403384092281938653:=0
def tw11897344508065754742:=0
def tw5499524440988599263:=0
def tw6232963150680953675:=0
def tw17932845862086556956:=0
def tw16356105976655675941:=0
def tw2294950638741305619:=0
def tw3906725553189307127:=0
def tw6952421260469207977:=0
def tw6222334076543775366:=0
def tw2434213821848248377:=0
def tw10410807837723008267:=0
def tw10572578641132703077:=0
def tw385116945915025917:=0
def tw2915592358177301602:=0
def tw17968013791630006067:=0
def tw6707599964704523860:=0
def tw15818776210111220931:=0
def tw14611018352382708421:=0
def tw16260232977393369946:=0
def tw13085725552558107331:=0
def tw13579513705694927249:=0
def tw2697130697267357736:=0
def tw15592753452949277811:=0
def tw342003724046782224:=0
def tw11214947665284415685:=0
def tw16368802359724237514:=0
def tw14715375532587545965:=0
def tw7961049745598323692:=0
def tw10405348296804196328:=0
def tw1159420895837665522:=0
def tw3703142846576352291:=0
def tw4147372145445495428:=0
def tw8245619834760942060:=0
def tw15647399772652649163:=0
def tw14660347826261693051:=0
def tw13926345059977087004:=0
def tw6743637077999453951:=0
def tw5364816101792207627:=0
def tw5854008981454092134:=0
def tw9725525480626876365:=0
def tw7597953527390144398:=0
def tw8286600543928761881:=0
def tw12474774362218903956:=0
def tw18188446701299388525:=0
def tw9381889514342618493:=0
def tw8770426446653527250:=0
def tw1699865995794619597:=0
def tw8981181886033619711:=0
def tw11391240913600567106:=0
def tw9748768237956254836:=0
def tw15640873166779668369:=0
def tw1232040175279172867:=0
def tw17640507634767182620:=0
def tw15903694716287366191:=0
def tw14840950181002121976:=0
def tw12527296426080754600:=0
def tw10994816000619831956:=0
def tw2633830042449163948:=0
def tw5149035420367710168:=0
def tw1942049351910193255:=0
def tw17574969570598394418:=0
def tw3725025726018163957:=0
def tw7980942936037726250:=0
def tw17762772249270231775:=0
def tw6739078078463830110:=0
def tw2928470460554909517:=0
def tw2364117835960430189:=0
def tw4303345763873613789:=0
def tw5781297227299184009:=0
def tw10871764160038295095:=0
def tw3623603310013093293:=0
def tw16520629195013530887:=0
def tw14254910235027844148:=0
def tw11852856899617729236:=0
def tw6618390938170388509:=0
def tw13544140118916593185:=0
def tw6145199378382149304:=0
def tw5944969229154600355:=0
def tw11536587486415654495:=0
def tw1227150349268908993:=0
def tw13874988277771192079:=0
def tw9938154631925730172:=0
def tw8763938166348831753:=0
def tw11920646310643682174:=0
def tw17979161639209892989:=0
def tw13263548776510135264:=0
def tw9884960889354823583:=0
def tw2920291389860501887:=0
def tw14800811928922363299:=0
def tw15398294975725306489:=0
def tw16405150556213351983:=0
def tw11632982772572203488:=0
def tw9018440191026534923:=0
def tw15281132248790821777:=0
def tw11015359458759945236:=0
def tw1412938564726754251:=0
def tw1185897640617668317:=0
def tw12959010890871158718:=0
def tw8448942003242655665:=0
def tw812594322311490316:=0
def tw5241934952432344276:=0
def tw3041392759047166680:=0
def tw2199187271102321235:=0
def tw7919731272003198052:=0
def tw2815779279305807025:=0
def tw2729904135512974864:=0
def tw5995884080870636793:=0
def tw10806663700728772445:=0
def tw7599408364958292499:=0
def tw6946050827601829007:=0
def tw6763677022042154072:=0
def tw639249153045848698:=0
def tw1934754718133512481:=0
def tw13344418242522231896:=0
def tw1551652282178817079:=0
def tw17885930837541876438:=0
def tw6175116775005891944:=0
def tw3926112220384943510:=0
def tw17372059873074518433:=0
def tw4991474167830647324:=0
def tw17075586160027510427:=0
def tw15215291892809171546:=0
def tw16249840514188887969:=0
def tw10723744647928257476:=0
def tw11020866368257868106:=0
def tw1168428510942343613:=0
def tw11794285269581509269:=0
def tw8919973274174778161:=0
def tw1709884086642236480:=0
def tw8889681137896082118:=0
def tw5701353983527400964:=0
def tw4406954206111742836:=0
def tw15536075729379626112:=0
def tw8846076999495195164:=0
def tw1682230324724285476:=0
def tw7861458668408896255:=0
def tw8090993111394156595:=0
def tw14467279733507573122:=0
def tw5332257517479090761:=0
def tw3309303310477993442:=0
def tw17989257400325829861:=0
def tw698048443834346629:=0
def tw12157381311606174306:=0
def tw14213739190191758966:=0
def tw18258865485897631068:=0
def tw10162400868835764018:=0
def tw6605477177275716550:=0
def tw16270357676139552668:=0
def tw15493568873540210343:=0
def tw1424259850086606129:=0
def tw10900450043123287405:=0
def tw8871763133019021939:=0
def tw11663041501702452523:=0
def tw15239139900560824989:=0
def tw11890910325100658267:=0
def tw603191140960368258:=0
def tw16581413558824907656:=0
def tw2183522996559434361:=0
def tw2405337575997504881:=0
def tw9383505859834839540:=0
def tw15135567116964318228:=0
def tw5644101945944832312:=0
def tw14208871267727040595:=0
def tw15932027202957625493:=0
def tw17693556944250943197:=0
def tw4573023872452070252:=0
def tw10555848926535928782:=0
def tw8195800919659822546:=0
def tw16959413793231929450:=0
def tw9669056323198781993:=0
def tw5231973728744333171:=0
def tw2235309238296320059:=0
def tw13158660083316336914:=0
def tw17943612104508926658:=0
def tw9694813901382649926:=0
def tw7814516284769582627:=0
def tw3490258196660341569:=0
def tw15154032877370613374:=0
def tw10861202652522809832:=0
def tw16610347811146997814:=0
def tw3917911964084622379:=0
def tw252481317425243661:=0
def tw11621939596293376221:=0
def tw4295376640833249824:=0
def tw14025302234093399993:=0
def tw14385274596848123528:=0
def tw11388316554697176264:=0
def tw11415845479694134746:=0
def tw17573899539563114248:=0
def tw13121497694647652086:=0
def tw16240326058096856394:=0
def tw8836733350379002984:=0
def tw4408752089251563285:=0
def tw13461146640046394984:=0
def tw5318642954106311885:=0
def tw6588453532541505036:=0
def tw4103191843466201398:=0
def tw16367774253767886333:=0
def tw1485793513981812395:=0
def tw5949311230996544970:=0
def tw9450668134572656515:=0
def tw8581016418896035617:=0
def tw6061927463670558556:=0
def tw16184003093269565605:=0
def tw5961358380523675971:=0
def tw9351713286389877706:=0
def tw12982249330300885335:=0
def tw12136955385847598822:=0
def tw921098428390680986:=0
def tw7594168104738790240:=0
def tw3080530743643930045:=0
def tw10517417894051835732:=0
def tw2945607170858323555:=0
def tw3760005595286927125:=0
def tw3521138544794789916:=0
def tw13468947091737599627:=0
def tw14075798856423564282:=0
def tw3239360375514317521:=0
def tw6310379026245835857:=0
def tw7499841870034419464:=0
def tw11576366894691786173:=0
def tw11987695561180631776:=0
def tw3831585621018801879:=0
def tw441346670071649653:=0
def tw3914325477685917455:=0
def tw7198056082545990283:=0
def tw5947954183888799843:=0
def tw14726387845351392188:=0
def tw3898537724151274951:=0
def tw1562575234475713224:=0
def tw10827412564320221880:=0
def tw7003272410893415756:=0
def tw15172702888439449306:=0
def tw2027555902976096933:=0
def tw12518647219285592160:=0
def tw1474666230380904233:=0
def tw8741121116006161555:=0
def tw13650640768240092823:=0
def tw1970618839819433307:=0
def tw16759737961566246326:=0
def tw2708042872197754136:=0
def tw3821990998056716107:=0
def tw1198915382950722259:=0
def tw9732167632624525963:=0
def tw5480641865548676583:=0
def tw13423530990178527720:=0
def tw10833539369540577020:=0
def tw8182095103025599085:=0
def tw8369045611130113674:=0
def tw1136134895901680465:=0
def tw759731862562952784:=0
def tw8090591192424389488:=0
def tw13558667859530360301:=0
def tw6380414619415246735:=0
def tw7678888503775841625:=0
def tw18033076478843408591:=0
def tw13886179920834487978:=0
def tw7243214738863691640:=0
def tw13352024171624577394:=0
def tw11725752888866220386:=0
def tw10586140500185077232:=0
def tw3706398534235102618:=0
def tw15146761356817798160:=0
def tw5629113580968534643:=0
def tw200344170309891400:=0
def tw16446862297229221759:=0
def tw3078874483145150098:=0
def tw10339889995671651105:=0
def tw11667039765502117244:=0
def tw18098091645361046494:=0
def tw6041189811741716387:=0
def tw10235242037968714513:=0
def tw14184935109193659105:=0
def tw13124896544026625726:=0
def tw15490939787503431451:=0
def tw7520091741308564670:=0
def tw16102987682603319388:=0
def tw4210058494229440332:=0
def tw280052359976164637:=0
def tw17985660051014953314:=0
def tw4032486063030455589:=0
def tw16863888277048806325:=0
def tw15290063595724103633:=0
def tw6992123205618624031:=0
def tw10759976157846169628:=0
def tw2050865343233752943:=0
def tw1251018748366000861:=0
def tw8359735082209816438:=0
def tw4110037113506665422:=0
def tw13441055435899715260:=0
def tw3390185871416218616:=0
def tw2908353213242315133:=0
def tw6783555867392685316:=0
def tw15802986263965324586:=0
def tw14866105867300033151:=0
def tw16243049668932449858:=0
def tw4393131177497043644:=0
def tw11328318367221862201:=0
def tw16955466498892841136:=0
def tw10620206052828164346:=0
def tw2619417525205838032:=0
def tw14095326324885080155:=0
def tw2735730650595546352:=0
def tw3746703911556134617:=0
def tw10704789935816279001:=0
def tw16564691446442118120:=0
def tw12654637081654179232:=0
def tw5593395478685658471:=0
def tw6981516763121716568:=0
def tw16060361349847084748:=0
def tw2821593105405621841:=0
def tw16875604835042936022:=0
def tw1199132548778519035:=0
def tw10684263956489168228:=0
def tw10861125636632426683:=0
def tw6704897299743945807:=0
def tw4666858691416195994:=0
def tw8349101873223310287:=0
def tw11068869648702361629:=0
def tw9491983394156218292:=0
def tw6830812596887928920:=0
def tw3950547399871786416:=0
def tw11317427933066424065:=0
def tw3113303351328503223:=0
def tw9561177248279405039:=0
def tw1859637539491763271:=0
def tw9627624523394903591:=0
def tw169073147149281644:=0
def tw11927699467852541661:=0
def tw8429167926026085470:=0
def tw1678144971203696294:=0
def tw13983013905791955365:=0
def tw4290747494299814456:=0
def tw9389255757706266077:=0
def tw17682015647256884555:=0
def tw4950677433015220784:=0
def tw15004436949323097725:=0
def tw13112785361193622430:=0
def tw7113963782794198143:=0
def tw17556886231010380292:=0
def tw1022501885157754694:=0
def tw2378649125942954478:=0
def tw17310915525698648310:=0
def tw7529020018554306740:=0
def tw10957799606633218488:=0
def tw3094954436819179300:=0
def tw18208118277793343531:=0
def tw10039424595301162562:=0
def tw2187003478352746606:=0
def tw11888475556685271135:=0
def tw9843103716868494405:=0
def tw4229964688759589233:=0
def tw4819782350591762247:=0
def tw8681185918991518164:=0
def tw10125440035187881485:=0
def tw3139147927892828533:=0
def tw2650061746099142623:=0
def tw7363930319900042568:=0
def tw15626556821395021999:=0
def tw5705403521728495924:=0
def tw16643680449145862182:=0
def tw12158285775269974927:=0
def tw7650767711107918861:=0
def tw3883408569689916567:=0
def tw17308530603777248524:=0
def tw7999582322426037462:=0
def tw3612349392439929074:=0
def tw17277296255458176705:=0
def tw7900379391558389752:=0
def tw7888558418494156618:=0
def tw10256794279774034564:=0
def tw13812407315104324334:=0
def tw8966383484962042338:=0
def tw8954796879530862176:=0
def tw6555431971144845393:=0
def tw4358872317472252606:=0
def tw5533649376805236688:=0
def tw2801834546460296059:=0
def tw17078341697736823868:=0
def tw5805376894639844492:=0
def tw8848192230548205486:=0
def tw7336414315708227550:=0
def tw11300422369351305145:=0
def tw10062568935648303343:=0
def tw16376771394362112721:=0
def tw11496858996225809782:=0
def tw15176641717692745832:=0
def tw5956656079355961000:=0
def tw10651778367987750591:=0
def tw11817465758027948879:=0
def tw1193012075288601862:=0
def tw4890699259274613550:=0
def tw3851826459339288495:=0
def tw13118769350058016662:=0
def tw16845508834109673179:=0
def tw17187172401590137880:=0
def tw17528060082024973196:=0
def tw13896747856104150685:=0
def tw15062167978317654434:=0
def tw1406845369467567381:=0
def tw3117464585629336590:=0
def tw6414605144056957:=0
def tw13949906016555914525:=0
def tw12838195739458147369:=0
def tw12559878759198512572:=0
def tw10634779727175666972:=0
def tw13402455907100749520:=0
def tw3277241205718101683:=0
def tw3329190865174737165:=0
def tw12724792671588531304:=0
def tw17962854500509970070:=0
def tw1066659180934563355:=0
def tw16719347186616329783:=0
def tw7432839523308519935:=0
def tw9730226970599790366:=0
def tw2244655222628863746:=0
def tw12204581863951601275:=0
def tw7033744784910906372:=0
def tw9334008295231601190:=0
def tw11176607189489010949:=0
def tw4727849570755746374:=0
def tw10820776081008651364:=0
def tw13761762225246067685:=0
def tw18075132905551848902:=0
def tw6113651669380069724:=0
def tw4394614956435552338:=0
def tw2309138932956920869:=0
def tw17220030934656112466:=0
def tw13662902256969745275:=0
def tw12752955132618678480:=0
def tw18180352982946862677:=0
def tw4918070549218761333:=0
def tw12237443108252094298:=0
def tw13741624600557597899:=0
def tw10816670260703394437:=0
def tw13731902260680984266:=0
def tw601994016338756502:=0
def tw18312691151729283031:=0
def tw8969389447810111834:=0
def tw7155198617966108828:=0
def tw15018398641743753751:=0
def tw1277177218169267762:=0
def tw16674746093872474010:=0
def tw16384823129874456629:=0
end PySem.W.Fast
open PySem PySem.W PyProof.Rows
set_option maxRecDepth 100000 in
set_option maxHeartbeats 0 in
theorem PySem.Challenge.cw_indexwise_k64_texts_refused_holds : PySem.Challenge.rw_indexwise_k64_texts_refused.Holds := by
 w_on;o_law;k_head;(case hw=>w_witness2)
 k_fill
 refine K64.walk (l := PySem.Challenge.rw_indexwise_k64_texts_refused) rfl rfl (λw h Y => PySem.W.kIn_of Y) ?F
 case F=>
  intro w mg fa h KX G hmg
  refine' K64.all_mk KX G hmg ?d1 ?d2 ?d3 ?d4 ?d5 ?d6 ?d7 ?d8 ?d9 ?d10 ?d11 ?d12 ?d13 ?d14 ?d15 ?d16 ?d17 ?d18 ?d19 ?d20 ?d21 ?d22 ?d23 ?d24 ?d25 ?d26 ?d27 ?d28 ?d29 ?d30 ?d31 ?d32 ?d33 ?d34 ?d35 ?d36 ?d37 ?d38 ?d39 ?d40 ?d41 ?d42 ?d43 ?d44 ?d45 ?d46 ?d47 ?d48 ?d49 ?d50 ?d51 ?z1 ?z2 ?z3 ?z4 ?z5 ?z6 ?z7 ?z8 ?z9 ?z10 ?z11 ?z12 ?z13 ?zg0 ?zg1 ?zg2 ?zg3 ?zg4 ?zg5 ?zg6 ?zg7 ?zg8 ?zR ?lR ?zS ?aC ?aSI ?iSI ?lSI ?cSI ?kSI ?aM ?iM ?lM ?cM ?kM ?aN ?iN ?lN ?cN ?kN ?aB ?iB ?lB ?cB ?kB ?pg ?hd ?po ?sa ?mk ?kc ?nT ?nA ?sS ?lI ?cI ?lgI ?tI ?oD ?xD ?oNoWords ?xNoWords ?oNoProgram ?xNoProgram ?oTwice ?xTwice ?oNoBind ?xNoBind ?oNoName ?xNoName ?oUnlike ?xUnlike ?oParts ?xParts ?oTooGreat ?xTooGreat ?oTooLong ?xTooLong ?oNoValue ?xNoValue ?oNoLine ?xNoLine ?inNoWords ?saNoWords ?plNoWords ?gaNoWords ?ghNoWords ?clNoWords ?kpNoWords ?ndC
  all_goals try (refine' K64.df_mk ?a ?l ?c ?k;(case a=>k_is);(case l=>k_is);(case c=>k_is);(case k=>k_is))
  (case z1=>k_is);(case z2=>k_is);(case z3=>k_is);(case z4=>k_is);(case z5=>k_is);(case z6=>k_is);(case z7=>k_is);(case z8=>k_is);(case z9=>k_is);(case z10=>k_is);(case z11=>k_is);(case z12=>k_is);(case z13=>k_is)
  (case zg0=>k_is)
  (case zg1=>k_is)
  (case zg2=>k_is)
  (case zg3=>k_is)
  (case zg4=>k_is)
  (case zg5=>k_is)
  (case zg6=>k_is)
  (case zg7=>k_is)
  (case zg8=>k_is)
  (case zR=>k_is)
  (case lR=>k_is)
  (case zS=>k_is)
  (case aC=>k_is)
  (case aSI=>k_is)
  (case iSI=>k_is)
  (case lSI=>k_is)
  (case cSI=>k_is)
  (case kSI=>k_is)
  (case aM=>k_is)
  (case iM=>k_is)
  (case lM=>k_is)
  (case cM=>k_is)
  (case kM=>k_is)
  (case aN=>k_is)
  (case iN=>k_is)
  (case lN=>k_is)
  (case cN=>k_is)
  (case kN=>k_is)
  (case aB=>k_is)
  (case iB=>k_is)
  (case lB=>k_is)
  (case cB=>k_is)
  (case kB=>k_is)
  (case pg=>k_is)
  (case hd=>k_is)
  (case po=>k_is)
  (case sa=>k_is)
  (case mk=>k_is)
  (case kc=>k_is)
  (case nT=>k_is)
  (case nA=>k_is)
  (case oD=>k_is)
  (case xD=>k_is)
  (case oNoWords=>k_is)
  (case xNoWords=>k_is)
  (case oNoProgram=>k_is)
  (case xNoProgram=>k_is)
  (case oTwice=>k_is)
  (case xTwice=>k_is)
  (case oNoBind=>k_is)
  (case xNoBind=>k_is)
  (case oNoName=>k_is)
  (case xNoName=>k_is)
  (case oUnlike=>k_is)
  (case xUnlike=>k_is)
  (case oParts=>k_is)
  (case xParts=>k_is)
  (case oTooGreat=>k_is)
  (case xTooGreat=>k_is)
  (case oTooLong=>k_is)
  (case xTooLong=>k_is)
  (case oNoValue=>k_is)
  (case xNoValue=>k_is)
  (case oNoLine=>k_is)
  (case xNoLine=>k_is)
  (case inNoWords=>k_is)
  (case lI=>k_is)
  (case cI=>k_is)
  (case lgI=>k_is)
  (case tI=>k_is)
  (case saNoWords=>k_is)
  (case plNoWords=>k_is)
  (case gaNoWords=>k_is)
  (case ghNoWords=>k_is)
  (case clNoWords=>k_is)
  (case kpNoWords=>k_is)
  (case ndC=>decide)
  case sS=>
   refine' XB.shp_mk ?xShl ?xSlo ?xShe ?xSht
   (case xShl=>k_is)
   (case xSlo=>decide)
   (case xShe=>repeat (first|exact XB.Ents.nil|refine XB.Ents.cons ?_))
   case xSht=>
    refine' (XB.TupsK.cons ?xSa1 ?xSb1 (XB.TupsK.cons ?xSa2 ?xSb2 (XB.TupsK.cons ?xSa3 ?xSb3 (XB.TupsK.cons ?xSa4 ?xSb4 (XB.TupsK.cons ?xSa5 ?xSb5 (XB.TupsK.cons ?xSa6 ?xSb6 (XB.TupsK.cons ?xSa7 ?xSb7 (XB.TupsK.cons ?xSa8 ?xSb8 (XB.TupsK.cons ?xSa9 ?xSb9 (XB.TupsK.cons ?xSa10 ?xSb10 (XB.TupsK.cons ?xSa11 ?xSb11 (XB.TupsK.cons ?xSa12 ?xSb12 (XB.TupsK.cons ?xSa13 ?xSb13 (XB.TupsK.cons ?xSa14 ?xSb14 (XB.TupsK.cons ?xSa15 ?xSb15 (XB.TupsK.cons ?xSa16 ?xSb16 (XB.TupsK.cons ?xSa17 ?xSb17 (XB.TupsK.cons ?xSa18 ?xSb18 (XB.TupsK.cons ?xSa19 ?xSb19 (XB.TupsK.cons ?xSa20 ?xSb20 (XB.TupsK.cons ?xSa21 ?xSb21 (XB.TupsK.cons ?xSa22 ?xSb22 (XB.TupsK.cons ?xSa23 ?xSb23 (XB.TupsK.cons ?xSa24 ?xSb24 (XB.TupsK.cons ?xSa25 ?xSb25 (XB.TupsK.cons ?xSa26 ?xSb26 (XB.TupsK.cons ?xSa27 ?xSb27 XB.TupsK.nil)))))))))))))))))))))))))))
    (case xSa1=>k_is);(case xSb1=>repeat (first|exact XB.AreS.nil|refine XB.AreS.cons ?_))
    (case xSa2=>k_is);(case xSb2=>repeat (first|exact XB.AreS.nil|refine XB.AreS.cons ?_))
    (case xSa3=>k_is);(case xSb3=>repeat (first|exact XB.AreS.nil|refine XB.AreS.cons ?_))
    (case xSa4=>k_is);(case xSb4=>repeat (first|exact XB.AreS.nil|refine XB.AreS.cons ?_))
    (case xSa5=>k_is);(case xSb5=>repeat (first|exact XB.AreS.nil|refine XB.AreS.cons ?_))
    (case xSa6=>k_is);(case xSb6=>repeat (first|exact XB.AreS.nil|refine XB.AreS.cons ?_))
    (case xSa7=>k_is);(case xSb7=>repeat (first|exact XB.AreS.nil|refine XB.AreS.cons ?_))
    (case xSa8=>k_is);(case xSb8=>repeat (first|exact XB.AreS.nil|refine XB.AreS.cons ?_))
    (case xSa9=>k_is);(case xSb9=>repeat (first|exact XB.AreS.nil|refine XB.AreS.cons ?_))
    (case xSa10=>k_is);(case xSb10=>repeat (first|exact XB.AreS.nil|refine XB.AreS.cons ?_))
    (case xSa11=>k_is);(case xSb11=>repeat (first|exact XB.AreS.nil|refine XB.AreS.cons ?_))
    (case xSa12=>k_is);(case xSb12=>repeat (first|exact XB.AreS.nil|refine XB.AreS.cons ?_))
    (case xSa13=>k_is);(case xSb13=>repeat (first|exact XB.AreS.nil|refine XB.AreS.cons ?_))
    (case xSa14=>k_is);(case xSb14=>repeat (first|exact XB.AreS.nil|refine XB.AreS.cons ?_))
    (case xSa15=>k_is);(case xSb15=>repeat (first|exact XB.AreS.nil|refine XB.AreS.cons ?_))
    (case xSa16=>k_is);(case xSb16=>repeat (first|exact XB.AreS.nil|refine XB.AreS.cons ?_))
    (case xSa17=>k_is);(case xSb17=>repeat (first|exact XB.AreS.nil|refine XB.AreS.cons ?_))
    (case xSa18=>k_is);(case xSb18=>repeat (first|exact XB.AreS.nil|refine XB.AreS.cons ?_))
    (case xSa19=>k_is);(case xSb19=>repeat (first|exact XB.AreS.nil|refine XB.AreS.cons ?_))
    (case xSa20=>k_is);(case xSb20=>repeat (first|exact XB.AreS.nil|refine XB.AreS.cons ?_))
    (case xSa21=>k_is);(case xSb21=>repeat (first|exact XB.AreS.nil|refine XB.AreS.cons ?_))
    (case xSa22=>k_is);(case xSb22=>repeat (first|exact XB.AreS.nil|refine XB.AreS.cons ?_))
    (case xSa23=>k_is);(case xSb23=>repeat (first|exact XB.AreS.nil|refine XB.AreS.cons ?_))
    (case xSa24=>k_is);(case xSb24=>repeat (first|exact XB.AreS.nil|refine XB.AreS.cons ?_))
    (case xSa25=>k_is);(case xSb25=>repeat (first|exact XB.AreS.nil|refine XB.AreS.cons ?_))
    (case xSa26=>k_is);(case xSb26=>repeat (first|exact XB.AreS.nil|refine XB.AreS.cons ?_))
    (case xSa27=>k_is);(case xSb27=>repeat (first|exact XB.AreS.nil|refine XB.AreS.cons ?_))
