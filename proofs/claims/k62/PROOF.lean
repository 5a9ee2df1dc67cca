import PyProof.Rows.All
import Wide.All
import OpenK.AllK
import Wide.FinOn
import Lean
import PyProof.EqAt
import PyProof.EqKinds
import PyProof.TupleCall
import PySem.Challenge.RW_indexwise_k62_expressions_written
set_option Elab.async false
set_option linter.all false
set_option maxRecDepth 100000
set_option maxHeartbeats 3200000
local macro_rules | `(tactic| trivial) => `(tactic| first | exact .inl rfl | exact .inr (.inl rfl) | exact .inr (.inr rfl) | exact .inr rfl | assumption | exact True.intro | exact ⟨rfl,rfl,rfl,by decide +kernel,rfl,by decide +kernel,by decide +kernel⟩)
local macro_rules | `(()) => `(by first | omega | decide +kernel | trivial | (intro _; rfl) | simp)
open Array renaming length_toList→Λ,getD_eq_getD_getElem?→j_,perm_iff_toList_perm→y8,getElem?_eq_getElem→Cm
open Bool renaming and_eq_true→ψ,false_ne_true→Κ,false_and→Ϭ,true_and→ϳ,eq_iff_iff→j6,eq_false_iff→p9,and_false→Ca,false_or→Cw,or_eq_true→CO
open False renaming elim→j5
open ForInStep renaming yield→v_
open Int renaming toNat_natCast→Ct
open List renaming length_map→η,mem_singleton→μ,mem_cons→ν,mem_cons_self→ξ,getElem?_eq_getElem→ς,mem_cons_of_mem→χ,length_cons→ω,size_toArray→Α,length_append→Ζ,getElem?_eq_some_iff→Θ,map_append→Ι,getElem?_map→Ν,map_map→Ξ,map_cons→Ο,length_take→Χ,mem_of_getElem?→ϊ,mem_append→ϋ,mem_append_right→ό,range→ϗ,lookup_cons→Ϙ,append_nil→ϙ,take_length→ϛ,take_add_one→Ϣ,mem_map→ϥ,lookup→ϩ,length_singleton→Ϫ,length_drop→ϭ,cons_append→ϯ,getElem?_append_right→ϵ,nil_append→ϸ,all_eq_true→ϻ,any_eq_true→a7,not_mem_nil→a8,append_assoc→g0,find?_cons→g_,length_nil→h_,getElem?_eq_none→i6,getElem_mem→i8,mem_map_of_mem→j8,sum_cons→l7,getElem?_append_left→m8,drop_eq_getElem_cons→m_,nodup_cons→n9,length→o9,map_nil→o_,mem_of_mem_take→p_,filterMap_cons→r6,map_congr_left→r_,mem_range→t_,mem_filter→u_,length_replicate→w_,mem_append_left→x_,any_cons→A5,forIn_cons→A9,sum_append→Bp,mem_filterMap→Bq,getElem_inj→BI,zipIdx_cons→BN,getElem?_set_ne→BP,mem_of_mem_drop→BR,zipIdx_nil→BX,getElem_of_mem→B0,replicate→B9,find?_eq_none→Cc,forIn_nil→Cg,filter_append→Ci,pairwise_iff_getElem→Cj,any_eq_false→Cr,ext_getElem?→Cu,drop_length→CD,of_mem_zip→CL,drop_zero→CU,getD→CV
open List.cons renaming injEq→CP
open Nat renaming le_refl→π,zero_le→Υ,lt_of_lt_of_le→ϑ,ne_of_lt→Ϛ,le_trans→ϲ,le_add_right→Ϻ,le_of_ble_eq_true→c_,le_of_lt→n_,lt_irrefl→q9,ne_of_gt→u8,lt_succ_self→BK,mul_le_mul_right→BS,min_eq_left→BY,lt_add_right→CB,sub_self→CI,le_succ→CQ
open Ne renaming symm→ϒ
open Option renaming map_eq_some_iff→ϖ,isSome_map→BB
open Option.some renaming inj→ϕ
open Or renaming inl→Ε,inr→Bw
open PyProof.Rows renaming slot_tuple_getitem→Ϩ,callWith_type1→j9,AllBare→Cp,IsTup→CY
open PySem renaming Value→δ,wpAny_bind→ε,Shared→θ,sizeLine_eq→ι,wpAny_pure→ρ,Program→υ,strLen_append→Γ,FuncData→Η,World→Μ,Around→Ρ,wpAny_field→Ϝ,wpAny_setField_rec→ϣ,IsPair→ϧ,wpAny_callSpecial?_slot→Ϯ,wpAny_seqItems→ϰ,wpAny_newObj_type→ϱ,wpAny_truthy_bool→ϴ,wpAny_call_entry→Ϲ,wpAny_updateSeq_pair→j0,wpAny_mono→j4,wpAny_Call_Name_kw→l9,IsZip→m7,wpAny_passesOwn→n6,Builtin→o8,wpAny_onRaise→q_,mem_of_lookup→r9,wpAny_getItem_str_slice→u5,wpAny_holding→w9,NameKind→y6,ZipApart→y9,GenState→A2,wpAny_pyIter_tuple→Bs,call_meets→Bv,Scope→Bz,DictEntry→BJ,typeIs_str→BL,wpAny_letGo→BQ,wpAny_execs_nil→BU,post_val_or_str→BV,wpAny_rule→Cd,wpAny_FormattedValue_plain→Ce,wpAny_letOwnedTupleGo_zip→Ck,wpAny_pyIter_list→Cq,wpAny_attempt→Cy,noFill_tuple_add→CA,Within→CG,codeAny_mono→CH,wpAny_newTuple→CS,OsState→CW,Result→C0,IsPart→C1,Operator→C2,BindsTo→C3,SetTable→C5,Drawn→C6,Str→C7
open PySem.AutoSeq1 renaming wpAny_loadPart'→i_
open PySem.Builtin.List renaming listTooLong→i9
open PySem.Builtin.Slice renaming slicePlaces→m9,sliceApplied→y7,sliceAdjust→A1
open PySem.Builtin.SmallTypes renaming nextOf→ύ,ownedTupleIsFree→ώ,ownedTupleHandOut→a_
open PySem.Builtin.Str renaming occurrences→u6
open PySem.Builtin.Tuple renaming tupleExact→Ϧ,tupleItemsOf→B_,tupleIsExact→Cf
open PySem.Calls renaming Name_function_global→B7
open PySem.Data renaming cell→B3,seq→C4
open PySem.F renaming plainAttrs_list→Ω,plainAttrs_str→Ϗ,slot_list_append→Ϡ,type_list_append→ϡ,slot_zip_next→j7,slot_str_split→k7,type_str_split→k_,slot_tuple_iterator_next→m6,slot_str_join→x6,type_str_join→x9,args_tuple_add_2→A6,slot_list_extend→A7,type_list_extend→A8,entry_tuple_add→By,slot_tuple_add→BC,args_zip_next_1→BE,slot_str_count→BG,type_str_count→BH,entry_zip_next→BO,args_tuple_iterator_next_1→BW,entry_tuple_iterator_next→B2,args_str_split_2→Ch,entry_str_split→Cv,slot_str_split→CC
open PySem.Heap renaming get?_push_of_some→ο,lt_size→Β,get?_push_size→Δ,size_push→d_,SameBut→y_,get?_push_ne→BD,size_update→BM
open PySem.NameKind renaming free→Ψ,cell→e_
open PySem.Obj renaming mapSeq→Bu
open PySem.PassesOwn renaming never→ϫ
open PySem.SeqAt renaming EqAt→ϔ
open PySem.SeqAt.EqAt renaming int_str→B4,str_int→B5,same→CM
open PySem.Shared renaming heap→CT
open PySem.Str renaming ofString→γ,join→a9,empty_append→BF,empty→Cz
open PySem.Value renaming ref→Τ,str→i7,int→s_,none→u7,type→B6,bool→CZ
open PySem.Value.type renaming inj→Φ
open PySem.W renaming Frag→ζ,nsIn→ϐ,mg_of→ϓ,findIn→ϝ,keepIn→Ϟ,mg_none_of→Ϥ,kia_one→Ϸ,emptyDict→b_,fnOf→e9,kitOne→f_,instObj→j3,codeIn→l_,plainGet→z_,isFn→A0,callWith_K→Bt,hasDictIn→BA,plainGet_of→BZ,lookIn→B8,kitCls→Cb,methodObj→Co,plainOver→Cs,takerIn→CJ,makesIn→CK,OpenLaw→CN
open PySem.W.KT renaming app_list→B1
open PySem.W.KasT renaming kasWp_bind→A_
open Sum renaming inr→ϟ,inl→CF
open True renaming intro→u9
theorem Q9{p:Prop}[i:Decidable p](h:p):decide p=true:=decide_eq_true h
theorem Q8{p:Prop}[i:Decidable p](h:¬p):decide p=false:=decide_eq_false h
theorem Q7{p:Prop}[i:Decidable p](h:decide p=true):p:=of_decide_eq_true h
theorem Q6{c:Prop}{h:Decidable c}(k:¬c){α:Sort u}{t e:α}:ite c t e=e:=if_neg k
theorem Q5{c:Prop}{h:Decidable c}(k:c){α:Sort u}{t e:α}:ite c t e=t:=if_pos k
namespace L2
open PySem PySem.Spec PyProof.Rows
abbrev Key:=Sum Int Str
def kS:Key->δ->Bool
 |.inl k,v=>δ.isInt k v
 |.inr x,v=>δ.isStrOf x v
def AS(w:Μ):Key->Int
 |.inl k=>hashInt k
 |.inr x=>hashStr w x
theorem aW:∀{k:Key}{v:δ},kS k v=true->(∃i t,k=CF i/\v=s_ i t)\/(∃x t,k=ϟ x/\v=i7 x t)
 |.inl i,v,h=>by
  obtain⟨t,e⟩:=δ.isInt_shape (k:=i) (v:=v) h
  exact .inl ⟨i,t,rfl,e⟩
 |.inr x,v,h=>by
  obtain⟨t,e⟩:=δ.isStrOf_shape (x:=x) (v:=v) h
  exact .inr ⟨x,t,rfl,e⟩
theorem tW(i:Int)(t:Tok):kS (.inl i) (.int i t)=true:=by simp[kS,δ.isInt]
theorem uk(x:Str)(t:Tok):kS (.inr x) (.str x t)=true:=by simp[kS,δ.isStrOf]
theorem zi(a b:Int):decide ((CF a:Key)=CF b)=(a==b):=by
 by_cases e:a=b
 ·subst e;simp
 ·have h:¬ (CF a:Key)=CF b:=λq=>e (CF.inj q)
  rw[Q8 h]
  exact(beq_eq_false_iff_ne.mpr e).symm
theorem yS(a b:Str):decide ((ϟ a:Key)=ϟ b)=decide (a=b):=by
 by_cases e:a=b
 ·subst e;simp
 ·have h:¬ (ϟ a:Key)=ϟ b:=λq=>e (ϟ.inj q)
  rw[Q8 h,Q8 e]
theorem yz(a:Int)(b:Str):decide ((CF a:Key)=ϟ b)=false:=Q8 (λq=>nomatch q)
theorem yk(a:Str)(b:Int):decide ((ϟ a:Key)=CF b)=false:=Q8 (λq=>nomatch q)
def aP(prog:υ)(w:Μ):PySem.KeyKind prog w Key where
 is:=kS
 hash:=AS w
 inj:=λv a b ha hb=>by
  rcases aW ha with ⟨i,t,rfl,rfl⟩|⟨x,t,rfl,rfl⟩
  ·rcases aW hb with ⟨j,u,rfl,e⟩|⟨y,u,rfl,e⟩
   ·injection e with e1 _;rw[e1]
   ·exact nomatch e
  ·rcases aW hb with ⟨j,u,rfl,e⟩|⟨y,u,rfl,e⟩
   ·exact nomatch e
   ·injection e with e1 _;rw[e1]
 byValue:=λk v h=>by
   rcases aW h with ⟨i,t,rfl,rfl⟩|⟨x,t,rfl,rfl⟩<;>rfl
 pyHash:=λhv h=>by
  rcases aW hv with ⟨i,t,rfl,rfl⟩|⟨x,t,rfl,rfl⟩
  ·exact wpAny_pyHash_int h
  ·exact wpAny_pyHash_str h
 eqBool:=λhu hv h=>by
  rcases aW hu with ⟨i,t,rfl,rfl⟩|⟨x,t,rfl,rfl⟩
  ·rcases aW hv with ⟨j,u,rfl,rfl⟩|⟨y,u,rfl,rfl⟩
   ·rw[zi]at h;exact wpAny_eqBool_int h
   ·rw[yz]at h;exact B4 i t y u _ _ _ _ h
  ·rcases aW hv with ⟨j,u,rfl,rfl⟩|⟨y,u,rfl,rfl⟩
   ·rw[yk]at h;exact B5 x t j u _ _ _ _ h
   ·rw[yS]at h;exact wpAny_eqBool_str h
 «strs»:=λk x t v h=>by
  rcases aW h with ⟨i,u,rfl,e⟩|⟨y,u,rfl,e⟩
  ·exact nomatch e
  ·injection e with e1 _
   subst e1
   cases v<;>rfl
theorem oI(prog:υ)(w:Μ)(i:Int)(t:Tok):(aP prog w).is (.inl i) (.int i t)=true:=tW i t
theorem dO(prog:υ)(w:Μ)(x:Str)(t:Tok):(aP prog w).is (.inr x) (.str x t)=true:=uk x t
inductive V where
 |non|bl (b:Bool)|int (i:Int)|str (x:Str)|byt (b:Array UInt8)|flt (b:UInt64)|ref (a:Addr)|ty (n:String)
 deriving DecidableEq
def aH:V->δ->Prop
 |.non,u=>u=u7
 |.bl b,u=>u=CZ b
 |.int i,u=>∃t,u=s_ i t
 |.str x,u=>∃t,u=i7 x t
 |.byt b,u=>∃t,u=δ.bytes b t
 |.flt b,u=>∃t,u=δ.float b t
 |.ref a,u=>u=Τ a
 |.ty n,u=>u=B6 n
abbrev aD:List V->List δ->Prop:=Paired aH
theorem aD.length{xs:List V}{us:List δ}(r:aD xs us):xs.length=us.length:=Paired.length r
theorem aD.get:∀{xs:List V}{us:List δ}{i:Nat}{x:V},aD xs us->xs[i]?=some x->∃u,us[i]?=some u/\aH x u
 |_,_,_,_,.nil,e=>by simp at e
 |_,_,0,_,.cons r _,e=>by simp at e;subst e;exact⟨_,rfl,r⟩
 |_,_,i+1,x,.cons _ t,e=>by
  obtain⟨u,h1,h2⟩:=aD.get (i:=i) (x:=x) t (by simpa using e)
  exact⟨u,by simpa using h1,h2⟩
theorem aD.set{x:V}{u:δ}(r:aH x u):∀{xs:List V}{us:List δ}(i:Nat),aD xs us->aD (xs.set i x) (us.set i u)
 |_,_,_,.nil=>.nil
 |_,_,0,.cons _ t=>.cons r t
 |_,_,i+1,.cons q t=>.cons q (aD.set r i t)
theorem aD.append:∀{xs ys:List V}{us ws:List δ},aD xs us->aD ys ws->aD (xs++ys) (us++ws)
 |_,_,_,_,.nil,s=>s
 |_,_,_,_,.cons r t,s=>.cons r (aD.append t s)
theorem aD.take:∀{xs:List V}{us:List δ}(n:Nat),aD xs us->aD (xs.take n) (us.take n)
 |_,_,0,_=>.nil
 |_,_,_+1,.nil=>.nil
 |_,_,n+1,.cons r t=>.cons r (aD.take n t)
theorem aD.drop:∀{xs:List V}{us:List δ}(n:Nat),aD xs us->aD (xs.drop n) (us.drop n)
 |_,_,0,r=>r
 |_,_,_+1,.nil=>.nil
 |_,_,n+1,.cons _ t=>aD.drop n t
def gy:Option V->Option δ->Prop
 |some v,some u=>aH v u
 |none,none=>True
 |_,_=>False
def KV{κ:Type}:List (κ×V)->List (κ×δ)->Prop:=Paired λ(p:κ×V) (q:κ×δ)=>p.1=q.1/\aH p.2 q.2
def kV:Key->V
 |.inl i=>.int i
 |.inr x=>.str x
inductive HO where
 |lst (xs:List V)
 |tup (xs:List V)
 |dK (kvs:List (Key×V))|dT (kvs:List (List Key×V))
 |set (S:Int->Bool) (n:Nat)
 |ins (C dx:Addr) (fs:List (Str×V))
 |own (x:Addr)
 |xd (fs:List (Str×V))
 |met (f x:Addr)
 |rng (lo hi:Int)
 |frz (o:Obj) (u:HO)
 |tbl (ps:Array δ)
 |ext (φ:Heap->Prop)
abbrev Hp:=Addr->Option HO
def upd(H:Hp)(a:Addr)(o:HO):Hp:=λb=>if b=a then some o else H b
theorem aa{H:Hp}{a:Addr}{o:HO}:upd H a o a=some o:=by unfold upd;rw[Q5 rfl]
theorem aq{H:Hp}{a b:Addr}{o:HO}(h:b≠a):upd H a o b=H b:=by unfold upd;rw[Q6 h]
theorem Ar{H:Hp}{a b:Addr}{o u:HO}(h:H a=some o)(h':H b=some u)(d:o≠u):a≠b:=by
 intro e;subst e;rw[h]at h';exact d (ϕ h')
theorem aj{H:Hp}{a b:Addr}{o:HO}(h:H a=some o)(h':H b=none):a≠b:=by
 intro e;subst e;rw[h]at h';cases h'
def NoD(h:Heap)(a:Addr):Prop:=∃o,h.get? a=some o/\o.dict=none
theorem NoD.new(h:Heap){o:Obj}(e:o.dict=none)(f:o.isFreed=false:=by rfl):NoD (h.push o) h.objs.size:=⟨_,Δ _ f,e⟩
section
variable(P:υ)(w:Μ)
def aX(H:Hp)(h:Heap)(a:Addr):HO->Prop
 |.lst xs=>xs.length<=sizeLine/\∃(its:List δ) (n:Nat),aD xs its/\h.get? a=some {cls:=.type "list",data:=.seq its.toArray n}
 |.tup xs=>xs.length<=sizeLine/\∃its:List δ,aD xs its/\CY h a its.toArray/\NoD h a
 |.dK kvs=>kvs.length<=sizeLine/\(a==sysModules)=false/\∃vs,KV kvs vs/\h.DictOf (aP P w) a vs
 |.dT kvs=>kvs.length<=sizeLine/\(a==sysModules)=false/\∃xs:List (List Key×Addr×δ),
   Paired (λ(p:List Key×V) (q:List Key×Addr×δ)=>p.1=q.1/\H q.2.1=some (.tup (p.1.map kV))/\aH p.2 q.2.2) kvs xs /\
   ∃o es ep,h.get? a=some o/\o.ExactDict/\o.data=.dict es ep/\es.toList=xs.map (entryOfKey (tupleKind (aP P w)))/\(xs.map (·.1)).Nodup
 |.set S n=>h.SetOf (intKind P w) a S n
 |.ins C dx fs=>H dx=some (.own a)/\fs.length<=1000/\dx≠a/\h.get? a=some (j3 C dx) /\
   ∃mA,h.Ns1 dx mA/\(∀f,gy (fs.lookup f) (mA f))/\CG mA (fs.map (·.1))
 |.own _=>∃o,h.get? a=some o
 |.xd fs=>∃mA,h.Ns1 a mA/\∀f,gy (fs.lookup f) (mA f)
 |.rng lo hi=>∃t u v,h.get? a=some {cls:=.type "range",data:=.fields #[.int lo t,.int hi u,.int 1 v]}
 |.frz o u=>h.get? a=some o/\aX H h a u
 |.tbl ps=>h.get? a=some {cls:=.none,data:=.fields ps}
 |.met f x=>h.get? a=some (Co (.ref f) (.ref x))
 |.ext φ=>φ h/\(∃o,h.get? a=some o)/\∀h1 h2:Heap,φ h1->(∀o,h1.get? a=some o->h2.get? a=some o)->φ h2
def HOk(H:Hp)(h:Heap):Prop:=∀a o,H a=some o->aX P w H h a o
end
section
variable{P:υ}{w:Μ}{H H':Hp}{h h':Heap}{a:Addr}{o:HO}
theorem aX.lt(x:aX P w H h a o):a<h.objs.size:=by
 cases o with
 |lst xs=>obtain⟨_,_,_,_,e⟩:=x;exact Β e
 |tup xs=>obtain⟨_,_,_,p⟩:=x;exact p.1.lt
 |dK kvs=>obtain⟨_,_,_,_,o,_,_,e,_⟩:=x;exact Β e
 |dT kvs=>obtain⟨_,_,_,_,o,_,_,e,_⟩:=x;exact Β e
 |set S n=>obtain⟨o,_,_,_,e,_⟩:=x;exact Β e
 |ins C dx fs=>obtain⟨_,_,_,e,_⟩:=x;exact Β e
 |own y=>obtain⟨_,e⟩:=x;exact Β e
 |xd fs=>obtain⟨_,⟨_,_,_,e,_⟩,_⟩:=x;exact Β e
 |rng lo hi=>obtain⟨_,_,_,e⟩:=x;exact Β e
 |frz ob u=>obtain⟨e,_⟩:=x;exact Β e
 |tbl ps=>exact Β (show h.get? a=some _ from x)
 |met f y=>exact Β (show h.get? a=some _ from x)
 |ext φ=>obtain⟨_,⟨_,e⟩,_⟩:=x;exact Β e
theorem Paired.mapP{α β:Type}{F G:α->β->Prop}:∀{l₁:List α}{l₂:List β},Paired F l₁ l₂->(∀a b,F a b->G a b)->Paired G l₁ l₂
 |_,_,.nil,_=>.nil
 |_,_,.cons r t,f=>.cons (f _ _ r) (Paired.mapP t f)
theorem aX.stay(x:aX P w H h a o)(k:∀b u,(b=a\/H b=some (.own a))->h.get? b=some u->h'.get? b=some u)
  (ho:∀b,H b=some (.own a)->H' b=some (.own a)) (ht:∀b xs,H b=some (.tup xs)->H' b=some (.tup xs)):aX P w H' h' a o:=by
 induction o with
 |lst xs=>obtain⟨z,its,n,r,e⟩:=x;exact⟨z,its,n,r,k _ _ (.inl rfl) e⟩
 |tup xs=>obtain⟨z,its,r,⟨ob,e,c⟩,od,e2,c2⟩:=x;exact⟨z,its,r,⟨ob,k _ _ (.inl rfl) e,c⟩,od,k _ _ (.inl rfl) e2,c2⟩
 |dK kvs=>obtain⟨z,y,vs,r,ob,es,ep,e,c⟩:=x;exact⟨z,y,vs,r,ob,es,ep,k _ _ (.inl rfl) e,c⟩
 |dT kvs=>
  obtain⟨z,y,xs,r,ob,es,ep,e,c⟩:=x
  exact⟨z,y,xs,Paired.mapP r λp q z=>⟨z.1,ht _ _ z.2.1,z.2.2⟩,ob,es,ep,k _ _ (.inl rfl) e,c⟩
 |set S n=>obtain⟨ob,es,ep,t,e,c⟩:=x;exact⟨ob,es,ep,t,k _ _ (.inl rfl) e,c⟩
 |ins C dx fs=>
  obtain⟨d,z,ne,e,mA,⟨od,es,ep,e2,c⟩,r⟩:=x
  exact⟨ho _ d,z,ne,k _ _ (.inl rfl) e,mA,⟨od,es,ep,k _ _ (.inr d) e2,c⟩,r⟩
 |own y=>obtain⟨ob,e⟩:=x;exact⟨ob,k _ _ (.inl rfl) e⟩
 |xd fs=>obtain⟨mA,⟨od,es,ep,e,c⟩,r⟩:=x;exact⟨mA,⟨od,es,ep,k _ _ (.inl rfl) e,c⟩,r⟩
 |rng lo hi=>obtain⟨t,u,v,e⟩:=x;exact⟨t,u,v,k _ _ (.inl rfl) e⟩
 |frz ob u ih=>obtain⟨e,q⟩:=x;exact⟨k _ _ (.inl rfl) e,ih q⟩
 |tbl ps=>
  have e:h.get? a=some {cls:=.none,data:=.fields ps}:=x
  show h'.get? a=some {cls:=.none,data:=.fields ps}
  exact k a _ (.inl rfl) e
 |met f y=>
  have e:h.get? a=some (Co (.ref f) (.ref y)):=x
  show h'.get? a=some (Co (.ref f) (.ref y))
  exact k a _ (.inl rfl) e
 |ext φ=>obtain⟨p,⟨o,e⟩,st⟩:=x;exact⟨st _ _ p λo q=>k _ _ (.inl rfl) q,⟨o,k _ _ (.inl rfl) e⟩,st⟩
theorem HOk.lt(x:HOk P w H h)(e:H a=some o):a<h.objs.size:=(x a o e).lt
theorem HOk.fresh(x:HOk P w H h)(e:h.objs.size<=a):H a=none:=by
 cases q:H a with
 |none=>rfl
 |some u=>exact absurd (ϑ (x.lt q) e) (q9 _)
theorem HOk.kept(x:HOk P w H h)(k:∀b u,h.get? b=some u->h'.get? b=some u):HOk P w H h':=λa o e=>
 (x a o e).stay (λb u _ q=>k b u q) (λ_ q=>q) λ_ _ q=>q
theorem HOk.laid(x:HOk P w H h)(k:∀b u,h.get? b=some u->h'.get? b=some u)(hp:h.objs.size<=a)(new:aX P w (upd H a o) h' a o):HOk P w (upd H a o) h':=λb u e=>by
 have hn:=x.fresh hp
 by_cases hb:b=a
 ·subst hb;rw[aa]at e;cases e;exact new
 ·rw[aq hb]at e
  exact(x b u e).stay (λc v _ q=>k c v q) (λc q=>by rw[aq (aj q hn)];exact q) λc xs q=>by rw[aq (aj q hn)];exact q
end
def Rd(H:Hp)(a:Addr)(u:HO):Prop:=H a=some u\/∃o,H a=some (.frz o u)
theorem Rd.ok{P:υ}{w:Μ}{H:Hp}{h:Heap}{a:Addr}{u:HO}(r:Rd H a u)(x:HOk P w H h):aX P w H h a u:=by
 rcases r with r|⟨o,r⟩
 ·exact x a u r
 ·obtain⟨_,q⟩:=x a _ r
  exact q
def Mut:Option HO->Prop
 |some (.lst _)=>True
 |some (.dK _)=>True
 |some (.dT _)=>True
 |some (.set _ _)=>True
 |some (.ins _ _ _)=>True
 |some (.ext _)=>True
 |_=>False
section
variable{P:υ}{w:Μ}{H:Hp}{h h':Heap}{x e:Addr}{o':HO}
theorem HOk.write(ok:HOk P w H h)(mu:Mut (H x))(he:e=x\/H e=some (.own x))(k:∀b u,b≠e->h.get? b=some u->h'.get? b=some u)(heo:∃u,h'.get? e=some u)
  (new:aX P w (upd H x o') h' x o'):HOk P w (upd H x o') h':=λb u q=>by
 have nown:∀c y,H c=some (.own y)->c≠x:=λc y r z=>by subst z;rw[r]at mu;exact mu
 have ntup:∀c xs,H c=some (.tup xs)->c≠x:=λc xs r z=>by subst z;rw[r]at mu;exact mu
 by_cases hb:b=x
 ·subst hb;rw[aa]at q;cases q;exact new
 ·rw[aq hb]at q
  by_cases hbe:b=e
  ·have q':H b=some (.own x):=by
    rcases he with z|z
    ·exact absurd (hbe.trans z) hb
    ·rw[hbe];exact z
   rw[q]at q';cases q'
   obtain⟨v,hv⟩:=heo
   exact⟨v,by rw[hbe];exact hv⟩
  ·refine(ok b u q).stay (λc v hc r=>k c v ?_ r) (λc r=>by rw[aq (nown c b r)];exact r) λc xs r=>by rw[aq (ntup c xs r)];exact r
   rcases hc with rfl|hc
   ·exact hbe
   ·rintro rfl
    rcases he with z|z
    ·exact nown c b hc z
    ·rw[hc]at z;cases z;exact hb rfl
end
structure Un(fs ex:List Addr)(H H':Hp)(h h':Heap):Prop where
 keep:∀b o,h.get? b=some o->H b=none->b∉fs->b∉ex->h'.get? b=some o
 slot:∀b o,h.get? b=some o->H b=none->b∈fs->b∉ex->∃sl,h'.get? b=some {o with slots:=sl}
 free:∀b o,h.get? b=some o->H b=none->b∉ex->H' b=none
 there:∀b o,h.get? b=some o->b∉ex->∃o',h'.get? b=some o'
 tups:∀b xs,H b=some (.tup xs)->H' b=some (.tup xs)
 frzs:∀b o u,H b=some (.frz o u)->H' b=some (.frz o u)
 tbls:∀b ps,H b=some (.tbl ps)->∃more,H' b=some (.tbl (ps++more))
section
variable{fs fs' ex ex':List Addr}{H H1 H2:Hp}{h h1 h2 h':Heap}{a x e:Addr}{o:HO}
theorem Un.any(u:Un fs ex H H1 h h1){b:Addr}{ob:Obj}(q:h.get? b=some ob)(n:H b=none)(hx:b∉ex):∃sl,h1.get? b=some {ob with slots:=sl}:=by
 by_cases hb:b∈fs
 ·exact u.slot b ob q n hb hx
 ·exact⟨ob.slots,u.keep b ob q n hb hx⟩
theorem Un.kept(k:∀b u,h.get? b=some u->h'.get? b=some u):Un fs ex H H h h':=
 ⟨λb ob q _ _ _=>k b ob q,λb ob q _ _ _=>⟨ob.slots,k b ob q⟩,λ_ _ _ n _=>n,λb ob q _=>⟨ob,k b ob q⟩,λ_ _ q=>q,λ_ _ _ q=>q,λ_ ps q=>⟨#[],by rw[q];simp⟩⟩
theorem Un.refl:Un fs ex H H h h:=Un.kept λ_ _ q=>q
theorem Un.laid(k:∀b u,h.get? b=some u->h'.get? b=some u)(hp:h.objs.size<=a)(hn:H a=none):Un fs ex H (upd H a o) h h' where
 keep:=λb u q _ _ _=>k b u q
 slot:=λb u q _ _ _=>⟨u.slots,k b u q⟩
 free:=λb u q n _=>by rw[aq (Ϛ (ϑ (Β q) hp))];exact n
 there:=λb u q _=>⟨u,k b u q⟩
 tups:=λb xs q=>by rw[aq (aj q hn)];exact q
 frzs:=λb u xs q=>by rw[aq (aj q hn)];exact q
 tbls:=λb ps q=>⟨#[],by rw[aq (aj q hn),q];simp⟩
theorem Un.write(mu:Mut (H x))(he:e=x\/H e=some (.own x))(k:∀b u,b≠e->h.get? b=some u->h'.get? b=some u)(heo:∃u,h'.get? e=some u):Un fs ex H (upd H x o) h h':=by
 have hx:∀b,H b=none->b≠x:=λb n z=>by subst z;rw[n]at mu;exact mu
 have hb:∀b,H b=none->b≠e:=λb n z=>by
  subst z
  rcases he with r|r
  ·exact hx b n r
  ·rw[n]at r;cases r
 have hm:∀b u,H b=some u->¬ Mut (some u)->b≠x:=λb u q nm z=>by subst z;rw[q]at mu;exact nm mu
 refine⟨λb u q n _ _=>k b u (hb b n) q,λb u q n _ _=>⟨u.slots,k b u (hb b n) q⟩,λb u q n _=>by rw[aq (hx b n)];exact n,λb u q _=>?_,
  λb xs q=>by rw[aq (hm b _ q λz=>z)];exact q,λb u xs q=>by rw[aq (hm b _ q λz=>z)];exact q,λb ps q=>⟨#[],by rw[aq (hm b _ q λz=>z),q];simp⟩⟩
 by_cases hbe:b=e
 ·subst hbe;exact heo
 ·exact⟨u,k b u hbe q⟩
end
def trk(h:Heap)(H:Hp):List Addr:=(ϗ h.objs.size).filter λa=>(H a).isSome
def kZ(h:Heap)(H:Hp):Heap:=PySem.W.hideAll h (trk h H)
theorem tu(h:Heap)(H:Hp):(kZ h H).objs.size=h.objs.size:=PySem.W.hideAll_size _ _
theorem uT{h:Heap}{H:Hp}{b:Addr}{o:Obj}(e:h.get? b=some o)(n:H b=none):(kZ h H).get? b=some o:=
 PySem.W.hideAll_get _ e λhm=>by
  have q:(H b).isSome=true:=(u_.mp hm).2
  rw[n]at q;simp at q
theorem wb{h:Heap}{H:Hp}{b:Addr}{o:Obj}(e:(kZ h H).get? b=some o):h.get? b=some o/\H b=none:=by
 have e':h.get? b=some o:=PySem.W.of_hideAll (trk h H) e
 refine⟨e',?_⟩
 cases q:H b with
 |none=>rfl
 |some x=>
  have hm:b∈trk h H:=u_.mpr ⟨t_.mpr (Β e'),by simp[q]⟩
  have z:(kZ h H).get? b=none:=PySem.W.hideAll_none (trk h H) hm
  rw[z]at e;cases e
def ir(g h:Heap)(L:Addr):List (Addr×Obj):=(ϗ h.objs.size).filterMap λa=>if a=L\/(g.get? a).isSome=true then none else (h.get? a).map λo=>(a,o)
theorem nQ{g h:Heap}{L a:Addr}{o:Obj}(h1:a≠L)(h2:g.get? a=none)(h3:h.get? a=some o):(a,o)∈ir g h L:=
 Bq.mpr ⟨a,t_.mpr (Β h3),by simp[h1,h2,h3]⟩
theorem iF{g h:Heap}{L:Addr}{p:Addr×Obj}(hp:p∈ir g h L):p.1≠L/\g.get? p.1=none/\h.get? p.1=some p.2:=by
 obtain⟨b,_,e⟩:=Bq.mp hp
 split at e
 ·cases e
 ·rename_i hn
  cases q:h.get? b with
  |none=>rw[q]at e;simp at e
  |some u=>
   rw[q]at e
   simp only[Option.map_some,Option.some.injEq]at e
   subst e
   refine⟨λz=>hn (.inl z),?_,q⟩
   show g.get? b=none
   cases r:g.get? b with
   |none=>rfl
   |some v=>exact(hn (.inr (by simp[r]))).elim
theorem uH{g h:Heap}{L:Addr}:News g L h (ir g h L):=λp hp=>let ⟨a,b,c⟩:=iF hp;⟨c,a,b⟩
structure Mod(K:ζ)(mg:Str->Option δ)(base:Heap):Prop where
 kin:K.In base
 glob:base.Ns mainGlobals mg
 blt:∃mb,base.Ns builtinsNs mb/\∀x:Str,x≠"__name__"->mb x=bootBuiltins x
 nolimit:base.NoLimit
structure Cx where
 prog:υ
 w:Μ
 K:ζ
 mg:Str->Option δ
 base:Heap
 A:Ρ
 N:List Str
 s₀:θ
 H₀:Hp
 env:Env
 outer:List Env
 stack:List Env
 ex:List Addr
 fn:Str->Bool
 calm:Bool
 pn:List (Addr×Obj)
 xe:δ->θ->Prop
def frs(l:List Env):List Addr:=l.filterMap (·.frame)
abbrev Cx.fs(X:Cx):List Addr:=frs X.outer
def Vis(sc:Bz)(x:Str):Prop:=sc.names.lookup x=some .local\/sc.names.lookup x=some .cell\/sc.names.lookup x=some .free
def Loc(sc:Bz)(x:Str):Prop:=sc.names.lookup x=some .local\/sc.names.lookup x=some .cell
def AY(env:Env)(h:Heap)(m:Str->Option δ)(x:Str)(u:δ):Prop:=
 (env.kindOf x=some .local/\m x=some u)\/((env.kindOf x=some .cell\/env.kindOf x=some .free)/\∃c,env.cells.lookup x=some c/\h.IsCell c (some u))
structure Cx.Ok(X:Cx):Prop where
 mod:Mod X.K X.mg X.base
 kind:X.env.scope.kind=.function
 glob:X.env.globals=mainGlobals
 blt:X.env.builtins=builtinsNs
 above:X.s₀.heap.objs.size<=X.env.locals
 inj:∀x y c,X.env.cells.lookup x=some c->X.env.cells.lookup y=some c->x=y
 has:∀x,(X.env.kindOf x=some .cell\/X.env.kindOf x=some .free)->∃c,X.env.cells.lookup x=some c
 cab:∀x c,X.fn x=true->X.env.cells.lookup x=some c->X.s₀.heap.objs.size<=c
 hd:X.calm=true->X.A.handled=none
 frames:X.A.frames=some X.stack
 stk:X.stack=X.outer\/(X.stack=X.env::X.outer/\X.env.frame=some X.env.locals)
 exf:∀b∈X.ex,b≠X.env.locals/\∀x c,X.env.cells.lookup x=some c->c≠b
 bs:∀b o,X.base.get? b=some o->X.s₀.heap.get? b=some o/\X.H₀ b=none
 bsz:X.base.objs.size<=X.s₀.heap.objs.size
 noex:∀b o,X.base.get? b=some o->b∉X.ex
 exfs:∀b∈X.ex,b∉X.fs
 funs:X.s₀.heap.FunFrames X.base X.outer
 frf:∀b∈X.fs,X.H₀ b=none
structure Inv(X:Cx)(pins:List (Addr×Obj))(σ:List (Option V))(H:Hp)(s:θ):Prop where
 ok:X.Ok
 os:s.os=X.s₀.os
 bare:Cp s.gens
 base:Un X.fs X.ex X.H₀ H X.s₀.heap s.heap
 loc:∃m,s.heap.Ns X.env.locals m/\∀(i:Nat)(x:Str)(v:V),X.N[i]?=some x->σ[i]?=some (some v)->Vis X.env.scope x->∃u,aH v u/\AY X.env s.heap m x u
 cell:∀x c,X.env.cells.lookup x=some c->∃v,s.heap.IsCell c v
 free:H X.env.locals=none
 freeC:∀x c,X.env.cells.lookup x=some c->H c=none
 pin:∀p∈X.pn++pins,s.heap.get? p.1=some p.2/\H p.1=none/\p.1≠X.env.locals/\p.1∉X.fs/\∀v,p.2.data≠.cell v
 hok:HOk X.prog X.w H s.heap
 len:σ.length=X.N.length
section
variable{X:Cx}{pins:List (Addr×Obj)}{σ:List (Option V)}{H H':Hp}{s:θ}{h':Heap}
theorem Cx.Ok.nofr(ok:X.Ok){b:Addr}{o:Obj}(e:X.base.get? b=some o):b∉X.fs:=λhb=>by
 have:=(ok.funs.mem hb).1
 rw[e]at this;cases this
theorem Inv.bs(I:Inv X pins σ H s):∀b o,X.base.get? b=some o->s.heap.get? b=some o/\H b=none:=λb o e=>
 ⟨I.base.keep b o (I.ok.bs b o e).1 (I.ok.bs b o e).2 (I.ok.nofr e) (I.ok.noex b o e),I.base.free b o (I.ok.bs b o e).1 (I.ok.bs b o e).2 (I.ok.noex b o e)⟩
theorem Inv.bk(I:Inv X pins σ H s):∀b o,X.base.get? b=some o->s.heap.get? b=some o:=λb o e=>(I.bs b o e).1
theorem Inv.mod(I:Inv X pins σ H s):Mod X.K X.mg X.base:=I.ok.mod
theorem Inv.kIn(I:Inv X pins σ H s):X.K.In s.heap:=I.ok.mod.kin.keeps I.bk
theorem Inv.lt(I:Inv X pins σ H s):X.env.locals<s.heap.objs.size:=let ⟨_,hn,_⟩:=I.loc;hn.lt
theorem Inv.sz(I:Inv X pins σ H s):X.s₀.heap.objs.size<=s.heap.objs.size:=ϲ I.ok.above (n_ I.lt)
theorem Inv.nofs(I:Inv X pins σ H s){a:Addr}(h:s.heap.objs.size<=a):a∉X.fs:=λhb=>by
 obtain⟨_,o,ho,_⟩:=I.ok.funs.mem hb
 exact absurd (ϑ (Β ho) (ϲ I.sz h)) (q9 _)
theorem Inv.cne(I:Inv X pins σ H s):∀x c,X.env.cells.lookup x=some c->c≠X.env.locals:=λx c e z=>by
 obtain⟨v,o,ho,hd⟩:=I.cell x c e
 obtain⟨m,⟨o',es,ep,ho',hd',_⟩,_⟩:=I.loc
 rw[z,ho']at ho;cases ho;rw[hd']at hd;cases hd
theorem Inv.funs(I:Inv X pins σ H s):s.heap.FunFrames X.base X.outer:=by
 have all:∀(l:List Env),(∀b∈frs l,b∈X.fs)->X.s₀.heap.FunFrames X.base l->s.heap.FunFrames X.base l:=by
  intro l
  induction l with
  |nil=>intro _ _;trivial
  |cons env r ih=>
   intro hs hl
   obtain⟨hk,⟨L,o,hf,hn,ho,hd⟩,hr⟩:=hl
   have hL:L∈X.fs:=hs L (by unfold frs;rw[r6,hf];exact ξ)
   obtain⟨sl,e⟩:=I.base.slot L o ho (I.ok.frf L hL) hL λz=>I.ok.exfs L z hL
   exact⟨hk,⟨L,_,hf,hn,e,hd⟩,ih (λb hb=>hs b (by unfold frs;rw[r6,hf];exact χ _ hb)) hr⟩
 exact all X.outer (λ_ hb=>hb) I.ok.funs
theorem Inv.stack(I:Inv X pins σ H s):s.heap.FunFrames X.base X.stack:=by
 rcases I.ok.stk with e|⟨e,hf⟩
 ·rw[e];exact I.funs
 ·rw[e]
  obtain⟨m,hn,_⟩:=I.loc
  refine .cons (by rw[I.ok.kind];decide) hf hn ?_ I.funs
  exact Heap.get?_none_of_le (ϲ I.ok.bsz I.ok.above)
theorem Inv.stkSub(I:Inv X pins σ H s):∀b∈frs X.stack,b∈X.env.locals::X.fs:=λb hb=>by
 rcases I.ok.stk with e|⟨e,hf⟩
 ·rw[e]at hb;exact χ _ hb
 ·rw[e]at hb
  unfold frs at hb
  rw[r6,hf]at hb
  exact hb
theorem Inv.stkFree(I:Inv X pins σ H s):∀b∈frs X.stack,H b=none:=λb hb=>by
 rcases ν.mp (I.stkSub b hb)with e|hb
 ·rw[e];exact I.free
 ·obtain⟨_,o,ho,_⟩:=I.ok.funs.mem hb
  exact I.base.free b o ho (I.ok.frf b hb) λz=>I.ok.exfs b z hb
theorem Inv.step{g':Array A2}{t':Nat}{d':C6}{ch:List Addr}(I:Inv X pins σ H s)
  (hch:∀b∈ch,(b∈X.ex\/X.s₀.heap.objs.size<=b)/\b≠X.env.locals/\(∀x c,X.env.cells.lookup x=some c->c≠b)/\∀p∈X.pn++pins,p.1≠b)
  (keep:∀b o,b≠X.env.locals->b∉X.fs->b∉ch->s.heap.get? b=some o->H b=none->h'.get? b=some o)
  (slot:∀b o,b≠X.env.locals->b∈X.fs->b∉ch->s.heap.get? b=some o->H b=none->∃sl,h'.get? b=some {o with slots:=sl}) (free:∀b o,b∉ch->s.heap.get? b=some o->H b=none->H' b=none)
  (there:∀b o,b∉ch->s.heap.get? b=some o->∃o',h'.get? b=some o')
  (tups:∀b xs,H b=some (.tup xs)->H' b=some (.tup xs)) (frzs:∀b o u,H b=some (.frz o u)->H' b=some (.frz o u)) (tbls:∀b ps,H b=some (.tbl ps)->∃more,H' b=some (.tbl (ps++more)))
  (ns:∀m,s.heap.Ns X.env.locals m->h'.Ns X.env.locals m) (hok:HOk X.prog X.w H' h') (hg:Cp g'):
  Inv X pins σ H' {s with heap:=h',gens:=g',drawn:=d',toks:=t'}:=by
 have neL:∀b o,X.s₀.heap.get? b=some o->b≠X.env.locals:=λb o e=>Ϛ (ϑ (Β e) I.ok.above)
 have neC:∀b o,X.s₀.heap.get? b=some o->b∉X.ex->b∉ch:=λb o e hx hb=>by
  rcases(hch b hb).1 with z|z
  ·exact hx z
  ·exact absurd (ϑ (Β e) z) (q9 _)
 have cellK:∀x c,X.env.cells.lookup x=some c->∀v,s.heap.IsCell c v->h'.IsCell c v:=λx c e v ⟨o,ho,hd⟩=>by
  have nch:c∉ch:=λz=>(hch c z).2.2.1 x c e rfl
  by_cases hc:c∈X.fs
  ·obtain⟨sl,q⟩:=slot c o (I.cne x c e) hc nch ho (I.freeC x c e)
   exact⟨_,q,hd⟩
  ·exact⟨o,keep c o (I.cne x c e) hc nch ho (I.freeC x c e),hd⟩
 refine⟨I.ok,I.os,hg,⟨λb o e n hb hx=>?_,λb o e n hb hx=>?_,λb o e n hx=>?_,λb o e hx=>?_,λb xs e=>tups b xs (I.base.tups b xs e),λb o xs e=>frzs b o xs (I.base.frzs b o xs e),λb ps e=>?_⟩,?_,λx c e=>?_,?_,λx c e=>?_,λp hp=>?_,hok,I.len⟩
 ·exact keep b o (neL b o e) hb (neC b o e hx) (I.base.keep b o e n hb hx) (I.base.free b o e n hx)
 ·obtain⟨sl,e1⟩:=I.base.slot b o e n hb hx
  obtain⟨sl',e2⟩:=slot b _ (neL b o e) hb (neC b o e hx) e1 (I.base.free b o e n hx)
  exact⟨sl',e2⟩
 ·obtain⟨o',e1⟩:=I.base.there b o e hx
  exact free b o' (neC b o e hx) e1 (I.base.free b o e n hx)
 ·obtain⟨o',e1⟩:=I.base.there b o e hx
  exact there b o' (neC b o e hx) e1
 ·obtain⟨m1,e1⟩:=I.base.tbls b ps e
  obtain⟨m2,e2⟩:=tbls b _ e1
  exact⟨m1++m2,by rw[e2,Array.append_assoc]⟩
 ·obtain⟨m,hn,hl⟩:=I.loc
  refine⟨m,ns m hn,λi x v e1 e2 e3=>?_⟩
  obtain⟨u,r,l⟩:=hl i x v e1 e2 e3
  refine⟨u,r,?_⟩
  rcases l with l|⟨k,c,e,z⟩
  ·exact .inl l
  ·exact .inr ⟨k,c,e,cellK x c e _ z⟩
 ·obtain⟨v,z⟩:=I.cell x c e
  exact⟨v,cellK x c e v z⟩
 ·obtain⟨m,⟨o,_,_,ho,_⟩,_⟩:=I.loc
  exact free _ o (λz=>(hch _ z).2.1 rfl) ho I.free
 ·obtain⟨v,o,ho,hd⟩:=I.cell x c e
  exact free c o (λz=>(hch c z).2.2.1 x c e rfl) ho (I.freeC x c e)
 ·obtain⟨e,n,ne,nf,d⟩:=I.pin p hp
  have nch:p.1∉ch:=λz=>(hch p.1 z).2.2.2 p hp rfl
  exact⟨keep p.1 p.2 ne nf nch e n,free p.1 p.2 nch e n,ne,nf,d⟩
theorem Inv.un{t':Nat}(I:Inv X pins σ H s)(u:Un X.fs [] H H' s.heap h')(hok:HOk X.prog X.w H' h'):Inv X pins σ H' {s with heap:=h',toks:=t'}:=by
 obtain⟨m,⟨o,es,ep,ho,r⟩,_⟩:=id I.loc
 obtain⟨sl,hL⟩:=u.any ho I.free ()
 exact I.step (g':=s.gens) (d':=s.drawn) (ch:=[]) (λ_ z=>nomatch z) (λb o _ hb _ e n=>u.keep b o e n hb ()) (λb o _ hb _ e n=>u.slot b o e n hb ()) (λb o _ e n=>u.free b o e n ()) (λb o _ e=>u.there b o e ()) u.tups u.frzs u.tbls (λm' hm=>by
  obtain⟨o',es',ep',ho',r'⟩:=hm
  rw[ho]at ho';cases ho'
  exact⟨_,es',ep',hL,r'⟩) hok I.bare
theorem Inv.call{g':Array A2}{t':Nat}{d':C6}{ch:List Addr}(I:Inv X pins σ H s)(u:Un (frs X.stack) ch H H' s.heap h')(hok:HOk X.prog X.w H' h')(hg:Cp g')
  (hch:∀b∈ch,(b∈X.ex\/X.s₀.heap.objs.size<=b)/\b≠X.env.locals/\(∀x c,X.env.cells.lookup x=some c->c≠b)/\∀p∈X.pn++pins,p.1≠b):
  Inv X pins σ H' {s with heap:=h',gens:=g',drawn:=d',toks:=t'}:=by
 obtain⟨m,⟨o,es,ep,ho,r⟩,_⟩:=id I.loc
 obtain⟨sl,hL⟩:=u.any ho I.free λz=>(hch _ z).2.1 rfl
 exact I.step (ch:=ch) hch (λb o hL hb hc e n=>u.keep b o e n (λz=>(ν.mp (I.stkSub b z)).elim hL hb) hc) (λb o _ _ hc e n=>u.any e n hc) (λb o hc e n=>u.free b o e n hc) (λb o hc e=>u.there b o e hc) u.tups u.frzs u.tbls (λm' hm=>by
  obtain⟨o',es',ep',ho',r'⟩:=hm
  rw[ho]at ho';cases ho'
  exact⟨_,es',ep',hL,r'⟩) hok hg
theorem Inv.turned{t':Nat}{it:Addr}(I:Inv X pins σ H s)(k:∀b o,b≠it->s.heap.get? b=some o->h'.get? b=some o)(hn:H it=none)(hL:it≠X.env.locals)
  (h1:it∈X.ex\/X.s₀.heap.objs.size<=it) (h2:∀x c,X.env.cells.lookup x=some c->c≠it) (h3:∀p∈X.pn++pins,p.1≠it):Inv X pins σ H {s with heap:=h',toks:=t'}:=by
 have nit:∀b u,H b=some u->b≠it:=λb u e z=>by rw[z,hn]at e;cases e
 refine I.step (g':=s.gens) (d':=s.drawn) (ch:=[it]) (λb hb=>?_) (λb o _ _ hc e _=>k b o (λz=>hc (by simp[z])) e) (λb o _ _ hc e _=>⟨o.slots,k b o (λz=>hc (by simp[z])) e⟩) (λ_ _ _ _ n=>n)
  (λb o hc e=>⟨o,k b o (λz=>hc (by simp[z])) e⟩) (λ_ _ e=>e) (λ_ _ _ e=>e) (λb ps e=>⟨#[],by rw[e];simp⟩) (λm hm=>?_) (λb u e=>?_) I.bare
 ·have e:b=it:=by simpa using hb
  subst e
  exact⟨h1,hL,h2,h3⟩
 ·obtain⟨o,es,ep,ho,r⟩:=hm
  exact⟨o,es,ep,k _ o (ϒ hL) ho,r⟩
 ·refine(I.hok b u e).stay (λc v hc q=>k c v ?_ q) (λ_ q=>q) λ_ _ q=>q
  rcases hc with z|z
  ·rw[z];exact nit b u e
  ·exact nit c _ z
theorem Inv.tok(I:Inv X pins σ H s)(t:Nat):Inv X pins σ H {s with toks:=t}:=I.un (h':=s.heap) (t':=t) Un.refl I.hok
theorem Inv.kept{t':Nat}(I:Inv X pins σ H s)(k:∀b u,s.heap.get? b=some u->h'.get? b=some u):Inv X pins σ H {s with heap:=h',toks:=t'}:=I.un (Un.kept k) (I.hok.kept k)
theorem Inv.laid{a:Addr}{o:HO}{t':Nat}(I:Inv X pins σ H s)(k:∀b u,s.heap.get? b=some u->h'.get? b=some u)(hp:s.heap.objs.size<=a)(new:aX X.prog X.w (upd H a o) h' a o):
  Inv X pins σ (upd H a o) {s with heap:=h',toks:=t'}:=I.un (Un.laid k hp (I.hok.fresh hp)) (I.hok.laid k hp new)
theorem Inv.write{x e:Addr}{o:HO}{t':Nat}(I:Inv X pins σ H s)(mu:Mut (H x))(he:e=x\/H e=some (.own x))(k:∀b u,b≠e->s.heap.get? b=some u->h'.get? b=some u)(heo:∃u,h'.get? e=some u)
  (new:aX X.prog X.w (upd H x o) h' x o):Inv X pins σ (upd H x o) {s with heap:=h',toks:=t'}:=I.un (Un.write mu he k heo) (I.hok.write mu he k heo new)
theorem Inv.weak{σ':List (Option V)}(I:Inv X pins σ H s)(hl:σ'.length=σ.length)(w:∀(i:Nat) v,σ'[i]?=some (some v)->σ[i]?=some (some v)):Inv X pins σ' H s:=
 ⟨I.ok,I.os,I.bare,I.base,let ⟨m,hn,hl'⟩:=I.loc;⟨m,hn,λi x v e1 e2 e3=>hl' i x v e1 (w i v e2) e3⟩,I.cell,I.free,I.freeC,I.pin,I.hok,hl.trans I.len⟩
theorem Inv.pins_of{pins':List (Addr×Obj)}(I:Inv X pins σ H s)(h:∀p∈pins',s.heap.get? p.1=some p.2/\H p.1=none/\p.1≠X.env.locals/\p.1∉X.fs/\∀v,p.2.data≠.cell v):Inv X pins' σ H s:=
 ⟨I.ok,I.os,I.bare,I.base,I.loc,I.cell,I.free,I.freeC,λp hp=>(ϋ.mp hp).elim (λz=>I.pin p (x_ _ z)) (h p),I.hok,I.len⟩
theorem oa{N:List Str}(hN:N.Nodup){i j:Nat}{x:Str}(a:N[i]?=some x)(b:N[j]?=some x):i=j:=by
 obtain⟨h1,e1⟩:=Θ.mp a
 obtain⟨h2,e2⟩:=Θ.mp b
 exact(BI hN).mp (e1.trans e2.symm)
theorem ke{M:Model}{A:Ρ}{E:δ->θ->Prop}{i:Nat}{x:Str}{v:V}{u:δ}{Q:Unit->θ->Prop}(I:Inv X pins σ H s)(hN:X.N.Nodup)(hi:X.N[i]?=some x)(hx:Loc X.env.scope x)(r:aH v u)
  (h:∀s',Inv X pins (σ.set i (some v)) H s'->(∃a,y_ a s.heap s'.heap/\(a=X.env.locals\/X.env.cells.lookup x=some a))->Q Unit.unit s') (hf:X.fn x=true\/X.env.scope.names.lookup x=some .local:=by first|exact .inl rfl|exact .inr rfl|assumption):wpAny M A (storeName X.env x u) Q E s:=by
 obtain⟨m,hn,hl⟩:=id I.loc
 have hcls:(X.env.scope.kind==.class||(X.env.scope.kind==.module&&X.env.locals != X.env.globals))=false:=by rw[I.ok.kind];rfl
 have hiσ:i<σ.length:=by rw[I.len];exact(Θ.mp hi).1
 have cne:=I.cne
 have tracked:∀{a:Addr}{h':Heap},(∃o,s.heap.get? a=some o/\H a=none)->y_ a s.heap h'->HOk X.prog X.w H h':=λ{a h'} ha hs b ob e=>by
  obtain⟨_,_,hfree⟩:=ha
  refine(I.hok b ob e).stay (λc w' hc q=>(hs.2 c ?_).trans q) (λ_ q=>q) λ_ _ q=>q
  rintro rfl
  rcases hc with rfl|hc
  ·rw[hfree]at e;cases e
  ·rw[hfree]at hc;cases hc
 rcases hx with hk|hk
 ·refine wpAny_storeName_local hk hn (λh' hn' hs=>?_) hcls
  obtain⟨oL,_,_,hoL,_⟩:=id hn
  refine h _ ⟨I.ok,I.os,I.bare,⟨λb o e n hb hx=>?_,λb o e n hb hx=>?_,I.base.free,λb o e hx=>?_,I.base.tups,I.base.frzs,I.base.tbls⟩,⟨_,hn',λj y v' e1 e2 e3=>?_⟩,λy c e=>?_,I.free,I.freeC,λp hp=>?_,tracked ⟨oL,hoL,I.free⟩ hs,by simpa using I.len⟩ ⟨_,hs,.inl rfl⟩
  ·exact(hs.2 b (Ϛ (ϑ (Β e) I.ok.above))).trans (I.base.keep b o e n hb hx)
  ·obtain⟨sl,e1⟩:=I.base.slot b o e n hb hx
   exact⟨sl,(hs.2 b (Ϛ (ϑ (Β e) I.ok.above))).trans e1⟩
  ·obtain⟨o',e1⟩:=I.base.there b o e hx
   exact⟨o',(hs.2 b (Ϛ (ϑ (Β e) I.ok.above))).trans e1⟩
  ·by_cases hj:j=i
   ·subst hj
    rw[hi]at e1;cases e1
    rw[List.getElem?_set_self hiσ]at e2
    cases e2
    exact⟨u,r,.inl ⟨hk,()⟩⟩
   ·rw[BP (ϒ hj)]at e2
    obtain⟨u',r',q⟩:=hl j y v' e1 e2 e3
    refine⟨u',r',?_⟩
    rcases q with ⟨k,e⟩|⟨k,c,e,z⟩
    ·refine .inl ⟨k,?_⟩
     have:y≠x:=λe=>hj (oa hN e1 (e▸hi))
     simp[this,e]
    ·exact .inr ⟨k,c,e,z.sameBut hs (cne y c e)⟩
  ·obtain⟨w',z⟩:=I.cell y c e
   exact⟨w',z.sameBut hs (cne y c e)⟩
  ·obtain⟨e,n,ne,nf,d⟩:=I.pin p hp
   exact⟨(hs.2 p.1 ne).trans e,n,ne,nf,d⟩
 ·have hfn:X.fn x=true:=by
   rcases hf with z|z
   ·exact z
   ·rw[z]at hk;cases hk
  obtain⟨c,hc⟩:=I.ok.has x (.inl hk)
  obtain⟨w',z⟩:=I.cell x c hc
  refine wpAny_storeName_cell I.ok.kind hk hc z (λh' hc' hs=>?_)
  obtain⟨oc,hoc,hocd⟩:=id z
  refine h {s with heap:=h'} ⟨I.ok,I.os,I.bare,⟨λb o e n hb hx=>?_,λb o e n hb hx=>?_,I.base.free,λb o e hx=>?_,I.base.tups,I.base.frzs,I.base.tbls⟩,⟨m,hn.sameBut hs (ϒ (cne x c hc)),λj y v' e1 e2 e3=>?_⟩,λy c' e=>?_,I.free,I.freeC,λp hp=>?_,tracked ⟨oc,hoc,I.freeC x c hc⟩ hs,by simpa using I.len⟩ ⟨c,hs,.inr hc⟩
  ·exact(hs.2 b (Ϛ (ϑ (Β e) (I.ok.cab x c hfn hc)))).trans (I.base.keep b o e n hb hx)
  ·obtain⟨sl,e1⟩:=I.base.slot b o e n hb hx
   exact⟨sl,(hs.2 b (Ϛ (ϑ (Β e) (I.ok.cab x c hfn hc)))).trans e1⟩
  ·obtain⟨o',e1⟩:=I.base.there b o e hx
   exact⟨o',(hs.2 b (Ϛ (ϑ (Β e) (I.ok.cab x c hfn hc)))).trans e1⟩
  ·by_cases hj:j=i
   ·subst hj
    rw[hi]at e1;cases e1
    rw[List.getElem?_set_self hiσ]at e2
    cases e2
    exact⟨u,r,.inr ⟨.inl hk,c,hc,hc'⟩⟩
   ·rw[BP (ϒ hj)]at e2
    obtain⟨u',r',q⟩:=hl j y v' e1 e2 e3
    refine⟨u',r',?_⟩
    rcases q with q|⟨k,c',e,z'⟩
    ·exact .inl q
    ·refine .inr ⟨k,c',e,z'.sameBut hs ?_⟩
     rintro rfl
     exact hj (oa hN e1 (I.ok.inj _ _ _ e hc▸hi))
  ·by_cases hcc:c'=c
   ·subst hcc;exact⟨_,hc'⟩
   ·obtain⟨w2,z2⟩:=I.cell y c' e
    exact⟨w2,z2.sameBut hs hcc⟩
  ·obtain⟨e,n,ne,nf,d⟩:=I.pin p hp
   refine⟨(hs.2 p.1 ?_).trans e,n,ne,nf,d⟩
   intro q
   rw[q,hoc]at e
   have q':oc=p.2:=ϕ e
   exact d w' (by rw[<-q'];exact hocd)
theorem jb{M:Model}{A:Ρ}{E:δ->θ->Prop}{i:Nat}{x:Str}{v:V}{u:δ}{Q:Unit->θ->Prop}(I:Inv X pins σ H s)(hN:X.N.Nodup)(hi:X.N[i]?=some x)(hx:Loc X.env.scope x)(r:aH v u)
  (h:∀s',Inv X pins (σ.set i (some v)) H s'->Q Unit.unit s') (hf:X.fn x=true\/X.env.scope.names.lookup x=some .local:=by first|exact .inl rfl|exact .inr rfl|assumption):wpAny M A (storeName X.env x u) Q E s:=
 ke I hN hi hx r (λs' I' _=>h s' I') hf
theorem Inv.call'{s':θ}{ch:List Addr}(I:Inv X pins σ H s)(ho:s'.os=s.os)(u:Un (frs X.stack) ch H H' s.heap s'.heap)(hok:HOk X.prog X.w H' s'.heap)(hg:Cp s'.gens)
  (hch:∀b∈ch,(b∈X.ex\/X.s₀.heap.objs.size<=b)/\b≠X.env.locals/\(∀x c,X.env.cells.lookup x=some c->c≠b)/\∀p∈X.pn++pins,p.1≠b):Inv X pins σ H' s':=by
 obtain⟨h',g',d',t',o'⟩:=s'
 have e:o'=s.os:=ho
 subst e
 exact I.call (g':=g') (t':=t') (d':=d') u hok hg hch
end
abbrev XK:=δ->Option Addr->Hp->Prop
abbrev St:=List (Option V)
abbrev VK:=V->Hp->Prop
abbrev TE:=St->Hp->VK->Prop
abbrev TT:=St->Hp->(Bool->Hp->Prop)->Prop
abbrev TA:=St->Hp->(List V->Hp->Prop)->Prop
structure bZ where
 nx:St->Hp->Prop
 rt:VK
 bk:St->Hp->Prop:=λ_ _=>False
 ct:St->Hp->Prop:=λ_ _=>False
abbrev TS:=bZ->St->Hp->Prop
def EP(X:Cx)(pins:List (Addr×Obj))(σ:St)(Q:VK)(u:δ)(s':θ):Prop:=∃v H',Inv X pins σ H' s'/\aH v u/\Q v H'
def TP(X:Cx)(pins:List (Addr×Obj))(σ:St)(Q:Bool->Hp->Prop)(b:Bool)(s':θ):Prop:=∃H',Inv X pins σ H' s'/\Q b H'
def AP(X:Cx)(pins:List (Addr×Obj))(σ:St)(Q:List V->Hp->Prop)(us:List δ)(s':θ):Prop:=∃vs H',Inv X pins σ H' s'/\aD vs us/\Q vs H'
def SP(X:Cx)(pins:List (Addr×Obj))(D:bZ)(f:Flow)(s':θ):Prop:=
 match f with
 |.next=>∃σ' H',Inv X pins σ' H' s'/\D.nx σ' H'
 |.brk=>∃σ' H',Inv X pins σ' H' s'/\D.bk σ' H'
 |.cont=>∃σ' H',Inv X pins σ' H' s'/\D.ct σ' H'
 |.ret u=>∃v σ' H',Inv X pins σ' H' s'/\aH v u/\D.rt v H'
def PE(X:Cx)(e:Expr)(t:TE):Prop:=
 ∀(pins:List (Addr×Obj))(s:θ)(σ:St)(H:Hp)(Q:VK),Inv X pins σ H s->t σ H Q->wpAny (model X.prog X.w) X.A (eval e X.env) (EP X pins σ Q) X.xe s
def PT(X:Cx)(e:Expr)(t:TT):Prop:=
 ∀(pins:List (Addr×Obj))(s:θ)(σ:St)(H:Hp)(Q:Bool->Hp->Prop),Inv X pins σ H s->t σ H Q->wpAny (model X.prog X.w) X.A (isTrue e X.env (eval e X.env)) (TP X pins σ Q) X.xe s
def PW(X:Cx)(e:Expr)(t:TT):Prop:=
 ∀(whole:Sem δ)(pins:List (Addr×Obj))(s:θ)(σ:St)(H:Hp)(Q:Bool->Hp->Prop),Inv X pins σ H s->t σ H Q->wpAny (model X.prog X.w) X.A (isTrue e X.env whole) (TP X pins σ Q) X.xe s
theorem PW.pt{X:Cx}{e:Expr}{t:TT}(h:PW X e t):PT X e t:=h _
def PA(X:Cx)(es:List Expr)(t:TA):Prop:=
 ∀(pos:Pos)(pins:List (Addr×Obj))(s:θ)(σ:St)(H:Hp)(Q:List V->Hp->Prop),Inv X pins σ H s->t σ H Q->wpAny (model X.prog X.w) X.A (spliced (backTo pos (starEach es X.env))) (AP X pins σ Q) X.xe s
def PS(X:Cx)(st:Stmt)(t:TS):Prop:=
 ∀(pins:List (Addr×Obj))(s:θ)(σ:St)(H:Hp)(D:bZ),Inv X pins σ H s->t D σ H->wpAny (model X.prog X.w) X.A (exec st X.env) (SP X pins D) X.xe s
def PSs(X:Cx)(st:List Stmt)(t:TS):Prop:=
 ∀(pins:List (Addr×Obj))(s:θ)(σ:St)(H:Hp)(D:bZ),Inv X pins σ H s->t D σ H->wpAny (model X.prog X.w) X.A (execs st X.env) (SP X pins D) X.xe s
theorem thn{α:Type}{t:Sem α}{Q Q':α->θ->Prop}{M:Model}{A:Ρ}{E:δ->θ->Prop}{s:θ}(h:wpAny M A t Q E s)(hQ:∀a s,Q a s->Q' a s):wpAny M A t Q' E s:=j4 h hQ λ_ _ x=>x
section
variable{X:Cx}
def fz(i:Nat):TE:=λσ H Q=>∃v,σ[i]?=some (some v)/\Q v H
def tC(v:V):TE:=λ_ H Q=>Q v H
theorem vH{i:Nat}{x:Str}{pos:Pos}(hN:X.N[i]?=some x)(hv:Vis X.env.scope x)(hd:(x==("__debug__" : Str))=false:=by decide)(hcd:(x==("__classdict__" : Str))=false:=by decide):PE X (.Name x pos) (fz i):=by
 intro pins s σ H Q I h
 obtain⟨v,e,h⟩:=h
 obtain⟨m,hn,hl⟩:=I.loc
 obtain⟨u,r,l⟩:=hl i x v hN e hv
 have fin:EP X pins σ Q u s:=⟨v,H,I,r,h⟩
 rcases l with ⟨hk,hm⟩|⟨hk,c,hc,hcell⟩
 ·exact wpAny_Name (wpAny_loadName_local I.ok.kind hk hn hm fin) hd
 ·rcases hk with hk|hk
  ·exact wpAny_Name (wpAny_loadName_cell I.ok.kind hk hc hcell fin) hd
  ·exact wpAny_Name (wpAny_loadName_free I.ok.kind hk hc hcell fin hcd) hd
theorem pe_int{i j pos}:PE X (.Constant (.int i) j pos) (tC (.int i)):=λ_ _ _ H _ I h=>wpAny_Constant_int ⟨.int i,H,I.tok _,⟨_,rfl⟩,h⟩
theorem pe_bl{b j pos}:PE X (.Constant (.bool b) j pos) (tC (.bl b)):=λ_ _ _ H _ I h=>Constant_bool ⟨.bl b,H,I,rfl,h⟩
theorem pe_non{j pos}:PE X (.Constant .none j pos) (tC .non):=λ_ _ _ H _ I h=>Constant_none ⟨.non,H,I,rfl,h⟩
theorem pe_str{x j pos}:PE X (.Constant (.str x) j pos) (tC (.str x)):=λ_ _ _ H _ I h=>Calls.Constant_str ⟨.str x,H,I.tok _,⟨_,rfl⟩,h⟩
def Gl(X:Cx)(x:Str):Prop:=X.env.kindOf x=some .globalImplicit
theorem ik{E:δ->θ->Prop}{pins:List (Addr×Obj)}{s:θ}{σ:St}{H:Hp}{x:Str}{u:δ}{pos:Pos}{Q:δ->θ->Prop}(I:Inv X pins σ H s)(hg:Gl X x)(hm:X.mg x=some u)(h:Q u s)
  (hd:(x==("__debug__" : Str))=false:=by decide):wpAny (model X.prog X.w) X.A (eval (.Name x pos) X.env) Q E s:=
 B7 I.ok.kind hg (Calls.loadGlobal_global (by rw[I.ok.glob];exact I.mod.glob.keeps I.bk) hm h) hd
theorem gj{E:δ->θ->Prop}{pins:List (Addr×Obj)}{s:θ}{σ:St}{H:Hp}{x:Str}{u:δ}{pos:Pos}{Q:δ->θ->Prop}(I:Inv X pins σ H s)(hg:Gl X x)(hm:X.mg x=none)(hv:bootBuiltins x=some u)(h:Q u s)
  (hn:x≠"__name__":=by decide) (hd:(x==("__debug__" : Str))=false:=by decide):wpAny (model X.prog X.w) X.A (eval (.Name x pos) X.env) Q E s:=by
 obtain⟨mb,h1,h2⟩:=I.mod.blt
 exact B7 I.ok.kind hg (Calls.loadGlobal_builtin (by rw[I.ok.glob];exact I.mod.glob.keeps I.bk) hm (by rw[I.ok.blt];exact h1.keeps I.bk) ((h2 x hn).trans hv) h) hd
theorem pe_glob{x:Str}{v:V}{u:δ}{pos:Pos}(hg:Gl X x)(hm:X.mg x=some u)(r:aH v u)(hd:(x==("__debug__" : Str))=false:=by decide):PE X (.Name x pos) (tC v):=
 λ_ _ _ H _ I h=>ik I hg hm ⟨v,H,I,r,h⟩ hd
theorem pe_bltn{x:Str}{v:V}{u:δ}{pos:Pos}(hg:Gl X x)(hm:X.mg x=none)(hv:bootBuiltins x=some u)(r:aH v u)(hn:x≠"__name__":=by decide)(hd:(x==("__debug__" : Str))=false:=by decide):PE X (.Name x pos) (tC v):=
 λ_ _ _ H _ I h=>gj I hg hm hv ⟨v,H,I,r,h⟩ hn hd
variable{a b:Expr}{ta tb:TE}{pos:Pos}
def tB(t:TE):TT:=λσ H Q=>t σ H λx H1=>∃c,x=.bl c/\Q c H1
theorem pt_val{e:Expr}{t:TE}(h:PE X e t)(he:∀whole,isTrue e X.env whole=(do let v <-whole;standAt e.pos;holding [v] (truthy v)):=by intro _;rfl):PT X e (tB t):=by
 intro pins s σ H Q I hw
 refine isTrue_plain (thn (h pins s σ H _ I hw) λv s1 ⟨x,H1,I1,r1,q1⟩=>?_) (he _)
 obtain⟨d,rfl,q⟩:=q1
 cases r1
 exact ϴ ⟨H1,I1,q⟩
variable{tA tB':TT}{rest:List Expr}
def yQ(t u:TT):TT:=λσ H Q=>t σ H λc H1=>if c=true then u σ H1 Q else Q false H1
def tOr(t u:TT):TT:=λσ H Q=>t σ H λc H1=>if c=true then Q true H1 else u σ H1 Q
def AN(t:TT):TT:=λσ H Q=>t σ H λc H1=>Q (!c) H1
theorem pw_and1(ha:PT X a tA):PW X (.BoolOp .And [a] pos) tA:=by
 intro wh pins s σ H Q I h
 refine isTrue_and (thn (ha pins s σ H Q I h) λc s1 e=>?_)
 cases c with
 |true=>exact isTrue_and_nil e
 |false=>exact e
theorem pw_or1(ha:PT X a tA):PW X (.BoolOp .Or [a] pos) tA:=by
 intro wh pins s σ H Q I h
 refine isTrue_or (thn (ha pins s σ H Q I h) λc s1 e=>?_)
 cases c with
 |false=>exact isTrue_or_nil e
 |true=>exact e
theorem pw_and(ha:PT X a tA)(hb:PW X (.BoolOp .And (b::rest) pos) tB'):PW X (.BoolOp .And (a::b::rest) pos) (yQ tA tB'):=by
 intro wh pins s σ H Q I h
 refine isTrue_and (thn (ha pins s σ H _ I h) λc s1 ⟨H1,I1,q1⟩=>?_)
 cases c with
 |true=>exact hb wh pins s1 σ H1 Q I1 q1
 |false=>exact⟨H1,I1,q1⟩
theorem pw_or(ha:PT X a tA)(hb:PW X (.BoolOp .Or (b::rest) pos) tB'):PW X (.BoolOp .Or (a::b::rest) pos) (tOr tA tB'):=by
 intro wh pins s σ H Q I h
 refine isTrue_or (thn (ha pins s σ H _ I h) λc s1 ⟨H1,I1,q1⟩=>?_)
 cases c with
 |true=>exact⟨H1,I1,q1⟩
 |false=>exact hb wh pins s1 σ H1 Q I1 q1
theorem pt_not(ha:PT X a tA):PT X (.UnaryOp .Not a pos) (AN tA):=by
 intro pins s σ H Q I h
 exact isTrue_not (ha pins s σ H (λc H1=>Q (!c) H1) I h)
def zK(ta tb:TE):TE:=λσ H Q=>ta σ H λx H1=>∃c,x=.bl c/\if c=true then tb σ H1 Q else Q (.bl false) H1
def zY(ta tb:TE):TE:=λσ H Q=>ta σ H λx H1=>∃c,x=.bl c/\if c=true then Q (.bl true) H1 else tb σ H1 Q
def zN(ta:TE):TE:=λσ H Q=>ta σ H λx H1=>∃c,x=.bl c/\Q (.bl (!c)) H1
theorem pe_one{op}{t:TE}(h:PE X a t):PE X (.BoolOp op [a] pos) t:=λpins s σ H Q I hw=>BoolOp_one (h pins s σ H Q I hw)
theorem pe_and(ha:PE X a ta)(hb:PE X (.BoolOp .And (b::rest) pos) tb):PE X (.BoolOp .And (a::b::rest) pos) (zK ta tb):=by
 intro pins s σ H Q I h
 refine BoolOp_and (thn (ha pins s σ H _ I h) λv s1 ⟨x,H1,I1,r1,q1⟩=>?_)
 obtain⟨c,rfl,q1⟩:=q1
 cases r1
 refine ϴ ?_
 cases c with
 |true=>exact hb pins s1 σ H1 Q I1 q1
 |false=>exact⟨.bl false,H1,I1,rfl,q1⟩
theorem pe_or(ha:PE X a ta)(hb:PE X (.BoolOp .Or (b::rest) pos) tb):PE X (.BoolOp .Or (a::b::rest) pos) (zY ta tb):=by
 intro pins s σ H Q I h
 refine BoolOp_or (thn (ha pins s σ H _ I h) λv s1 ⟨x,H1,I1,r1,q1⟩=>?_)
 obtain⟨c,rfl,q1⟩:=q1
 cases r1
 refine ϴ ?_
 cases c with
 |false=>exact hb pins s1 σ H1 Q I1 q1
 |true=>exact⟨.bl true,H1,I1,rfl,q1⟩
theorem pe_not(ha:PE X a ta):PE X (.UnaryOp .Not a pos) (zN ta):=by
 intro pins s σ H Q I h
 refine UnaryOp_ (thn (ha pins s σ H _ I h) λv s1 ⟨x,H1,I1,r1,q1⟩=>?_)
 obtain⟨c,rfl,q1⟩:=q1
 cases r1
 exact not_of (ϴ ⟨.bl (!c),H1,I1,rfl,q1⟩)
def tIf(t:TT)(ta tb:TE):TE:=λσ H Q=>t σ H λc H1=>if c=true then ta σ H1 Q else tb σ H1 Q
theorem pe_ifExp{c:Expr}(hc:PT X c tA)(ha:PE X a ta)(hb:PE X b tb):PE X (.IfExp c a b pos) (tIf tA ta tb):=by
 intro pins s σ H Q I h
 refine wpAny_IfExp (thn (hc pins s σ H _ I h) λd s1 ⟨H1,I1,q1⟩=>?_)
 cases d with
 |true=>exact ha pins s1 σ H1 Q I1 q1
 |false=>exact hb pins s1 σ H1 Q I1 q1
end
def SqL(K:ζ)(H:Hp)(a:Addr)(xs:List V):Prop:=
 Rd H a (.lst xs) \/
  ∃(o:Obj) (its:Array δ) (n:Nat),K.lookup a=some o/\o.cls=.type "list"/\o.dict=none/\o.data=.seq its n/\its.size<=sizeLine/\aD xs its.toList
def SqT(K:ζ)(H:Hp)(a:Addr)(xs:List V):Prop:=
 Rd H a (.tup xs) \/
  ∃(o:Obj) (its:Array δ) (n:Nat),K.lookup a=some o/\o.cls=.type "tuple"/\o.data=.seq its n/\its.size<=sizeLine/\aD xs its.toList
def Bj:δ->Option V
 |.none=>some .non
 |.bool b=>some (.bl b)
 |.int i _=>some (.int i)
 |.str x _=>some (.str x)
 |.bytes b _=>some (.byt b)
 |.float b _=>some (.flt b)
 |.ref a=>some (.ref a)
 |.type n=>some (.ty n)
 |_=>none
theorem aH.abs{x:V}{u:δ}(r:aH x u):Bj u=some x:=by
 cases x with
 |non=>cases r;rfl
 |bl _=>cases r;rfl
 |int _=>obtain⟨t,rfl⟩:=r;rfl
 |str _=>obtain⟨t,rfl⟩:=r;rfl
 |byt _=>obtain⟨t,rfl⟩:=r;rfl
 |flt _=>obtain⟨t,rfl⟩:=r;rfl
 |ref _=>cases r;rfl
 |ty _=>cases r;rfl
theorem aH.inj{x y:V}{u:δ}(r:aH x u)(q:aH y u):x=y:=ϕ (r.abs.symm.trans q.abs)
theorem aD.inj:∀{xs ys:List V}{us:List δ},aD xs us->aD ys us->xs=ys
 |_,_,_,.nil,.nil=>rfl
 |_,_,_,.cons r t,.cons r' t'=>by rw[r.inj r',aD.inj t t']
section
variable{X:Cx}{pins:List (Addr×Obj)}{σ:St}{H:Hp}{s:θ}{a:Addr}{xs ys:List V}
theorem SqL.of{K:ζ}(h:H a=some (.lst xs)):SqL K H a xs:=.inl (.inl h)
theorem SqT.of{K:ζ}(h:H a=some (.tup xs)):SqT K H a xs:=.inl (.inl h)
theorem Inv.list(I:Inv X pins σ H s)(h:SqL X.K H a xs):∃its:List δ,aD xs its/\PlainL s.heap a its.toArray/\xs.length<=sizeLine:=by
 rcases h with h|⟨o,its,n,hk,hc,hd,hs,hz,r⟩
 ·obtain⟨z,its,n,r,e⟩:=h.ok I.hok
  exact⟨its,r,⟨_,n,e,rfl,rfl,rfl⟩,z⟩
 ·refine⟨its.toList,r,⟨o,n,I.kIn a o hk,hc,hd,by simpa using hs⟩,?_⟩
  have e:=r.length
  simp only[Λ]at e
  omega
theorem Inv.tuple(I:Inv X pins σ H s)(h:SqT X.K H a xs):∃its:List δ,aD xs its/\CY s.heap a its.toArray/\xs.length<=sizeLine:=by
 rcases h with h|⟨o,its,n,hk,hc,hs,hz,r⟩
 ·obtain⟨z,its,r,p⟩:=h.ok I.hok
  exact⟨its,r,p.1,z⟩
 ·refine⟨its.toList,r,⟨o,I.kIn a o hk,hc,n,by simpa using hs⟩,?_⟩
  have e:=r.length
  simp only[Λ]at e
  omega
theorem Inv.list_inj(I:Inv X pins σ H s)(h:SqL X.K H a xs)(h':SqL X.K H a ys):xs=ys:=by
 obtain⟨its,r,⟨o,n,e,_,_,d⟩,_⟩:=I.list h
 obtain⟨its',r',⟨o',n',e',_,_,d'⟩,_⟩:=I.list h'
 rw[e]at e';cases e'
 rw[d]at d'
 injection d' with d1 _
 have:its=its':=by simpa using congrArg Array.toList d1
 subst this
 exact r.inj r'
theorem Inv.tuple_inj(I:Inv X pins σ H s)(h:SqT X.K H a xs)(h':SqT X.K H a ys):xs=ys:=by
 obtain⟨its,r,⟨o,e,_,n,d⟩,_⟩:=I.tuple h
 obtain⟨its',r',⟨o',e',_,n',d'⟩,_⟩:=I.tuple h'
 rw[e]at e';cases e'
 rw[d]at d'
 injection d' with d1 _
 have:its=its':=by simpa using congrArg Array.toList d1
 subst this
 exact r.inj r'
end
abbrev Cx.wish(X:Cx)(E:δ->θ->Prop):Cx:={X with xe:=E}
abbrev Cx.nox(X:Cx):Cx:=X.wish λ_ _=>False
theorem Cx.Ok.wish{X:Cx}(ok:X.Ok)(E:δ->θ->Prop):(X.wish E).Ok:=
 ⟨ok.mod,ok.kind,ok.glob,ok.blt,ok.above,ok.inj,ok.has,ok.cab,ok.hd,ok.frames,ok.stk,ok.exf,ok.bs,ok.bsz,ok.noex,ok.exfs,ok.funs,ok.frf⟩
theorem Cx.Ok.unwish{X:Cx}{E:δ->θ->Prop}(ok:(X.wish E).Ok):X.Ok:=
 ⟨ok.mod,ok.kind,ok.glob,ok.blt,ok.above,ok.inj,ok.has,ok.cab,ok.hd,ok.frames,ok.stk,ok.exf,ok.bs,ok.bsz,ok.noex,ok.exfs,ok.funs,ok.frf⟩
section
variable{X:Cx}{pins:List (Addr×Obj)}{σ:St}{H:Hp}{s:θ}{E:δ->θ->Prop}
theorem Inv.wish(I:Inv X pins σ H s)(E:δ->θ->Prop):Inv (X.wish E) pins σ H s:=⟨I.ok.wish E,I.os,I.bare,I.base,I.loc,I.cell,I.free,I.freeC,I.pin,I.hok,I.len⟩
theorem Inv.unwish(I:Inv (X.wish E) pins σ H s):Inv X pins σ H s:=⟨I.ok.unwish,I.os,I.bare,I.base,I.loc,I.cell,I.free,I.freeC,I.pin,I.hok,I.len⟩
theorem SP.unwish{D:bZ}{f:Flow}{s':θ}(h:SP (X.wish E) pins D f s'):SP X pins D f s':=by
 cases f with
 |next=>obtain⟨σ',H',I,q⟩:=h;exact⟨σ',H',I.unwish,q⟩
 |brk=>obtain⟨σ',H',I,q⟩:=h;exact⟨σ',H',I.unwish,q⟩
 |cont=>obtain⟨σ',H',I,q⟩:=h;exact⟨σ',H',I.unwish,q⟩
 |ret u=>obtain⟨v,σ',H',I,r,q⟩:=h;exact⟨v,σ',H',I.unwish,r,q⟩
theorem PSs.nox{st:List Stmt}{t:TS}(h:PSs X.nox st t):PSs X st t:=λpins s σ H D I hw=>
 j4 (h pins s σ H D (I.wish _) hw) (λ_ _ q=>q.unwish) λ_ _ z=>j5 z
end
section
variable{X:Cx}{st:Stmt}{rest:List Stmt}{t u:TS}{e:Expr}{te:TE}{pos:Pos}
def xX:TS:=λD σ H=>D.nx σ H
def iA(t u:TS):TS:=λD σ H=>t {D with nx:=u D} σ H
theorem pss_nil:PSs X [] xX:=λ_ _ σ H _ I h=>BU ⟨σ,H,I,h⟩
theorem pss_cons(h1:PS X st t)(h2:PSs X rest u):PSs X (st::rest) (iA t u):=by
 intro pins s σ H D I h
 refine wpAny_execs_cons (thn (h1 pins s σ H {D with nx:=u D} I h) λf s1 q=>?_)
 cases f with
 |next=>
  obtain⟨σ',H',I',q⟩:=q
  exact h2 pins s1 σ' H' D I' q
 |ret v=>exact q
 |brk=>exact q
 |cont=>exact q
theorem pss_one(h1:PS X st t):PSs X [st] t:=by
 intro pins s σ H D I h
 refine wpAny_execs_cons (thn (h1 pins s σ H D I h) λf s1 q=>?_)
 cases f with
 |next=>exact BU q
 |ret v=>exact q
 |brk=>exact q
 |cont=>exact q
theorem Inv.quiet{pins:List (Addr×Obj)}{σ:St}{H:Hp}{s:θ}(I:Inv X pins σ H s):interactive X.env=false:=by simp[interactive,I.ok.kind]
def Aj(te:TE):TS:=λD σ H=>te σ H λ_ H1=>D.nx σ H1
theorem ps_expr(he:PE X e te)(hs:swapsWith e none pos.line X.env=pure false:=by rfl):PS X (.Expr e pos) (Aj te):=by
 intro pins s σ H D I h
 exact wpAny_Expr_any (thn (he pins s σ H _ I h) λv s1 ⟨x,H1,I1,r1,q1⟩=>⟨σ,H1,I1,q1⟩) I.quiet hs
def zq(te:TE):TS:=λD σ H=>te σ H D.rt
theorem ps_ret(he:PE X e te):PS X (.Return (some e) pos) (zq te):=by
 intro pins s σ H D I h
 exact wpAny_Return_some (thn (he pins s σ H _ I h) λv s1 ⟨x,H1,I1,r1,q1⟩=>⟨x,σ,H1,I1,r1,q1⟩)
def Aw(c:TT)(t u:TS):TS:=λD σ H=>c σ H λb H1=>if b=true then t D σ H1 else u D σ H1
theorem ps_if{c:Expr}{a b:List Stmt}{tc:TT}(hc:PT X c tc)(ha:PSs X a t)(hb:PSs X b u):PS X (.If c a b pos) (Aw tc t u):=by
 intro pins s σ H D I h
 refine wpAny_If (thn (hc pins s σ H _ I h) λd s1 ⟨H1,I1,q1⟩=>?_)
 cases d with
 |true=>exact ha pins s1 σ H1 D I1 q1
 |false=>exact hb pins s1 σ H1 D I1 q1
end
abbrev TG:=V->St->Hp->(St->Hp->Prop)->Prop
abbrev TGs:=List V->St->Hp->(St->Hp->Prop)->Prop
def PG(X:Cx)(target:Expr)(t:TG):Prop:=
 ∀(pins:List (Addr×Obj))(s:θ)(σ:St)(H:Hp)(v:V)(u:δ)(Q:St->Hp->Prop),Inv X pins σ H s->aH v u->t v σ H Q ->
  wpAny (model X.prog X.w) X.A (assign target X.env u) (λ_ s'=>∃σ' H',Inv X pins σ' H' s'/\Q σ' H') X.xe s
def PGs(X:Cx)(ts:List Expr)(t:TGs):Prop:=
 ∀(pins:List (Addr×Obj))(s:θ)(σ:St)(H:Hp)(vs:List V)(us:List δ)(Q:St->Hp->Prop),Inv X pins σ H s->aD vs us->t vs σ H Q ->
  wpAny (model X.prog X.w) X.A (assignInOrder ((assignEach ts X.env).map (·.2)) us) (λ_ s'=>∃σ' H',Inv X pins σ' H' s'/\Q σ' H') X.xe s
abbrev yl:=V->V->V->Hp->(Hp->Prop)->Prop
def zJ(X:Cx)(t:yl):Prop:=
 ∀(pins:List (Addr×Obj))(s:θ)(σ:St)(H:Hp)(o i v:V)(ov iv u:δ)(Q:Hp->Prop),Inv X pins σ H s->aH o ov->aH i iv->aH v u->t o i v H Q ->
  wpAny (model X.prog X.w) X.A (setItem ov iv u) (λ_ s'=>∃H',Inv X pins σ H' s'/\Q H') X.xe s
abbrev TIp:=V->V->Hp->VK->Prop
def PIp(X:Cx)(op:C2)(t:TIp):Prop:=
 ∀(pins:List (Addr×Obj))(s:θ)(σ:St)(H:Hp)(x y:V)(v u:δ)(Q:VK),Inv X pins σ H s->aH x v->aH y u->t x y H Q ->
  wpAny (model X.prog X.w) X.A (inplaceOp op v u) (EP X pins σ Q) X.xe s
section
variable{X:Cx}{pos:Pos}
def cP(i:Nat):TG:=λv σ H Q=>Q (σ.set i (some v)) H
theorem pg_name{i:Nat}{x:Str}(hN:X.N.Nodup)(hi:X.N[i]?=some x)(hx:Loc X.env.scope x)(hf:X.fn x=true\/X.env.scope.names.lookup x=some .local:=by first|exact .inl rfl|exact .inr rfl|assumption):PG X (.Name x pos) (cP i):=by
 intro pins s σ H v u Q I r h
 exact wpAny_assign_Name (jb I hN hi hx r (λs' I'=>⟨_,H,I',h⟩) hf)
def sV:TGs:=λvs σ H Q=>vs=[]/\Q σ H
def gL(t:TG)(u:TGs):TGs:=λvs σ H Q=>∃v r,vs=v::r/\t v σ H λσ' H'=>u r σ' H' Q
theorem pgs_nil:PGs X [] sV:=by
 intro pins s σ H vs us Q I r h
 obtain⟨e,h⟩:=h
 subst e
 cases r
 exact assignInOrder_nil ⟨σ,H,I,h⟩
theorem pgs_cons{e:Expr}{es:List Expr}{t:TG}{u:TGs}(h1:PG X e t)(h2:PGs X es u)
  (hs:(assignEach (e::es) X.env).map (·.2)=assign e X.env::(assignEach es X.env).map (·.2):=by rfl):PGs X (e::es) (gL t u):=by
 intro pins s σ H vs us Q I r h
 obtain⟨v,vr,e1,h⟩:=h
 subst e1
 cases r with
 |cons r rr=>
  rw[hs]
  refine assignInOrder_cons (thn (h1 pins s σ H _ _ _ I r h) λ_ s1 ⟨σ1,H1,I1,q1⟩=>?_)
  exact h2 pins s1 σ1 H1 _ _ Q I1 rr q1
def wO(K:ζ)(n:Nat)(t:TGs):TG:=λv σ H Q=>∃a xs,v=.ref a/\SqT K H a xs/\xs.length=n/\t xs σ H Q
theorem pg_tup{es:List Expr}{k:Nat}{t:TGs}{n:Nat}(hc:X.calm=true)(h:PGs X es t)
  (hn:(assignEach es X.env).length=n:=by rfl) (hst:(assignEach es X.env).findIdx? (·.1)=none:=by rfl):PG X (.Tuple es k pos) (wO X.K n t):=by
 intro pins s σ H v u Q I r hw
 obtain⟨a,xs,e1,hq,hl,hw⟩:=hw
 subst e1
 cases r
 obtain⟨its,rv,ht,hz⟩:=I.tuple hq
 refine assign_Tuple_tuple (I.ok.hd hc) ht (by simp[hn,<-hl,rv.length]) hst λh' hx=>?_
 have I1:Inv X pins σ H {s with heap:=h'}:=I.kept (t':=s.toks) λb o e=>hx b o (Ϛ (Β e)) e
 exact h pins _ σ H xs _ Q I1 (by simpa using rv) hw
def Bo(to ti:TE)(t:yl):TG:=λv σ H Q=>to σ H λo H1=>ti σ H1 λi H2=>t o i v H2 λH3=>Q σ H3
theorem pg_sub{o i:Expr}{to ti:TE}{t:yl}(ho:PE X o to)(hi:PE X i ti)(hs:zJ X t)
  (ha:∀v,assign (.Subscript o i pos) X.env v=(do
   let ov <-holding [v] (eval o X.env)
   let iv <-holding [v,ov] (eval i X.env)
   standAt pos
   holding [v,ov,iv] (setItem ov iv v)
   release [v,ov,iv] []):=by intro _;rfl):PG X (.Subscript o i pos) (Bo to ti t):=by
 intro pins s σ H v u Q I r h
 rw[ha]
 refine ε (w9 (thn (ho pins s σ H _ I h) λov s1 ⟨x,H1,I1,r1,q1⟩=>?_))
 refine ε (w9 (thn (hi pins s1 σ H1 _ I1 q1) λiv s2 ⟨y,H2,I2,r2,q2⟩=>?_))
 refine ε (wpAny_standAt (ε (w9 (thn (hs pins s2 σ H2 x y v ov iv u _ I2 r1 r2 r q2) λ_ s3 ⟨H3,I3,q3⟩=>?_))))
 exact wpAny_release ⟨σ,H3,I3,q3⟩
def yE(te:TE)(g:TG):TS:=λD σ H=>te σ H λx H1=>g x σ H1 D.nx
theorem ps_asg{tg e:Expr}{te:TE}{g:TG}(he:PE X e te)(hg:PG X tg g)(hs:swapsWithSole [tg] e pos.line X.env=pure false:=by rfl)(hw:swappedStores [tg] e X.env=pure none:=by rfl)
  (h1:(assignEach [tg] X.env).map (·.2)=[assign tg X.env]:=by rfl):PS X (.Assign [tg] e pos) (yE te g):=by
 intro pins s σ H D I h
 refine wpAny_Assign_stores (thn (he pins s σ H _ I h) λv s1 ⟨x,H1,I1,r1,q1⟩=>?_) hs hw
 rw[h1]
 exact thn (hg pins s1 σ H1 x v _ I1 r1 q1) λ_ s2 q=>q
theorem ps_set{i:Nat}{x:Str}{e:Expr}{te:TE}{pos':Pos}(hN:X.N.Nodup)(hi:X.N[i]?=some x)(hx:Loc X.env.scope x)(he:PE X e te)(hs:swapsWith e (some (.Name x pos')) pos.line X.env=pure false:=by rfl)(hf:X.fn x=true\/X.env.scope.names.lookup x=some .local:=by first|exact .inl rfl|exact .inr rfl|assumption):
  PS X (.Assign [.Name x pos'] e pos) (yE te (cP i)):=by
 intro pins s σ H D I h
 refine wpAny_Assign_Name (thn (he pins s σ H _ I h) λv s1 ⟨y,H1,I1,r1,q1⟩=>?_) hs
 exact jb I1 hN hi hx r1 (λs2 I2=>⟨_,H1,I2,q1⟩) hf
def Be(i:Nat)(te:TE)(ti:TIp):TS:=λD σ H=>∃x,σ[i]?=some (some x)/\te σ H λy H1=>ti x y H1 λz H2=>D.nx (σ.set i (some z)) H2
theorem ps_aug{i:Nat}{x:Str}{e:Expr}{te:TE}{op:C2}{ti:TIp}{pos':Pos}(hN:X.N.Nodup)(hi:X.N[i]?=some x)(hx:Loc X.env.scope x)(he:PE X e te)(ho:PIp X op ti)(hf:X.fn x=true\/X.env.scope.names.lookup x=some .local:=by first|exact .inl rfl|exact .inr rfl|assumption):
  PS X (.AugAssign (.Name x pos') op e pos) (Be i te ti):=by
 intro pins s σ H D I h
 obtain⟨v,e1,h⟩:=h
 obtain⟨m,hn,hl⟩:=I.loc
 have vis:Vis X.env.scope x:=by rcases hx with k|k;exact .inl k;exact .inr (.inl k)
 obtain⟨u,r,l⟩:=hl i x v hi e1 vis
 refine wpAny_AugAssign_Name ?_
 have go:wpAny (model X.prog X.w) X.A (eval e X.env) (λw s₂=>wpAny (model X.prog X.w) X.A (inplaceOp op u w) (λr s₃=>wpAny (model X.prog X.w) X.A (storeName X.env x r) (λ_=>SP X pins D .next) X.xe s₃) X.xe s₂) X.xe s:=by
  refine thn (he pins s σ H _ I h) λw s1 ⟨y,H1,I1,r1,q1⟩=>?_
  refine thn (ho pins s1 σ H1 v y u w _ I1 r r1 q1) λz s2 ⟨zv,H2,I2,r2,q2⟩=>?_
  exact jb I2 hN hi hx r2 (λs3 I3=>⟨_,H2,I3,q2⟩) hf
 rcases l with ⟨hk,hm⟩|⟨hk,c,hc,hcell⟩
 ·exact wpAny_loadName_local I.ok.kind hk hn hm go
 ·rcases hk with hk|hk
  ·exact wpAny_loadName_cell I.ok.kind hk hc hcell go
  ·rcases hx with k|k
   ·have:X.env.scope.names.lookup x=some .free:=hk
    rw[k]at this;cases this
   ·have:X.env.scope.names.lookup x=some .free:=hk
    rw[k]at this;cases this
def ipI(f:Int->Int->Int):TIp:=λx y H Q=>∃i j,x=.int i/\y=.int j/\Q (.int (f i j)) H
theorem uG:PIp X .Add (ipI λi j=>i+j):=by
 intro pins s σ H x y v u Q I r1 r2 h
 obtain⟨i,j,e1,e2,q⟩:=h
 subst e1;subst e2
 obtain⟨t,rfl⟩:=r1
 obtain⟨t',rfl⟩:=r2
 exact iadd_int ⟨.int _,H,I.tok _,⟨_,rfl⟩,q⟩
def qb(c:TT)(tb:TS):TS:=λD σ H=>∃W:Nat->St->Hp->Prop,(∃m,W m σ H)/\∀m σ H,W m σ H ->
 c σ H λb H1=>if b=true then ∃N:St->Hp->Prop,(∀σ' H',N σ' H'->∃m',m'<m/\W m' σ' H')/\tb {D with nx:=N,ct:=N,bk:=D.nx} σ H1 else D.nx σ H1
theorem ps_while{c:Expr}{body:List Stmt}{tc:TT}{tb:TS}(hp:PassesOwn (model X.prog X.w) X.A X.env X.xe)(hc:PT X c tc)(hb:PSs X body tb):PS X (.While c body [] pos) (qb tc tb):=by
 intro pins s σ H D I h
 obtain⟨W,⟨m0,w0⟩,turn⟩:=h
 refine wpAny_While (codeAny_whileLoop (λn s'=>∃σ' H',Inv X pins σ' H' s'/\W n σ' H') ?_ m0 ⟨σ,H,I,w0⟩)
 rintro n s1 ⟨σ1,H1,I1,w1⟩
 refine n6 hp (thn (hc pins s1 σ1 H1 _ I1 (turn n σ1 H1 w1)) λb s2 ⟨H2,I2,q2⟩=>?_)
 cases b with
 |true=>
  obtain⟨N,hN,q2⟩:=q2
  rw[Q5 rfl]
  refine n6 hp (thn (hb pins s2 σ1 H2 _ I2 q2) λf s3 q3=>?_)
  cases f with
  |next=>
   obtain⟨σ3,H3,I3,n3⟩:=q3
   obtain⟨m',hm,w3⟩:=hN σ3 H3 n3
   exact⟨m',hm,σ3,H3,I3,w3⟩
  |cont=>
   obtain⟨σ3,H3,I3,n3⟩:=q3
   obtain⟨m',hm,w3⟩:=hN σ3 H3 n3
   exact⟨m',hm,σ3,H3,I3,w3⟩
  |brk=>exact q3
  |ret v=>exact q3
 |false=>
  rw[Q6 Κ]
  exact BU ⟨σ1,H2,I2,q2⟩
end
structure It where
 go:Nat->Hp->Prop
 yld:Nat->Hp->V->Hp->Prop
 stop:Nat->Hp->Prop
def iC(X:Cx)(pins:List (Addr×Obj))(H:Hp)(b:Addr):Prop:=
 H b=none/\b≠X.env.locals/\b∉X.fs/\(b∈X.ex\/X.s₀.heap.objs.size<=b)/\(∀x c,X.env.cells.lookup x=some c->c≠b)/\∀p∈X.pn++pins,p.1≠b
theorem Inv.fpOk{X:Cx}{pins:List (Addr×Obj)}{σ:St}{H H':Hp}{s:θ}{b:Addr}(I:Inv X pins σ H s)(hb:s.heap.objs.size<=b)(hn:H' b=none):iC X pins H' b:=by
 refine⟨hn,u8 (ϑ I.lt hb),I.nofs hb,.inr (ϲ I.sz hb),λx c e z=>?_,λp hp z=>?_⟩
 ·obtain⟨v,q⟩:=I.cell x c e
  exact absurd (ϑ q.lt (by rw[z];exact hb)) (q9 _)
 ·exact absurd (ϑ (Β (I.pin p hp).1) (by rw[z];exact hb)) (q9 _)
structure jR(P:υ)(w:Μ)(K:ζ)(tg:Expr)(J:It)(fp:List Addr)(it:Addr)(tn:Nat->Heap->Prop):Prop where
 mem:it∈fp
 obj:∀i h,tn i h->∀b∈fp,∃o,h.get? b=some o/\∀v,o.data≠.cell v
 keep:∀i h h',tn i h->(∀b∈fp,∀o,h.get? b=some o->h'.get? b=some o)->tn i h'
 item:∀(X:Cx),X.prog=P->X.w=w->X.K=K->X.calm=true->∀(i:Nat)(pins:List (Addr×Obj))(s:θ)(σ:St)(H:Hp)(E:δ->θ->Prop),Inv X pins σ H s->(∀b∈fp,iC X pins H b)->tn i s.heap->J.go i H ->
  wpAny (model P w) X.A (pyNext (.ref it)) (λr s1=>∃u,r=some u /\
   wpAny (model P w) X.A (letOwnedTupleGo tg (.ref it) u) (λ_ s2=>∃x H',Inv X pins σ H' s2/\aH x u/\J.yld i H x H'/\tn (i+1) s2.heap/\∀b∈fp,H' b=none) E s1) E s
 done:∀(X:Cx),X.prog=P->X.w=w->X.K=K->X.calm=true->∀(i:Nat)(pins:List (Addr×Obj))(s:θ)(σ:St)(H:Hp)(E:δ->θ->Prop),Inv X pins σ H s->(∀b∈fp,iC X pins H b)->tn i s.heap->J.stop i H ->
  wpAny (model P w) X.A (pyNext (.ref it)) (λr s1=>r=none/\Inv X pins σ H s1) E s
 self:∀(A:Ρ)(i:Nat)(s:θ)(Q:δ->θ->Prop)(E:δ->θ->Prop),tn i s.heap->Q (.ref it) s->wpAny (model P w) A (pyIter (.ref it)) Q E s
abbrev TI:=St->Hp->(It->Hp->Prop)->Prop
def PIE(X:Cx)(pins:List (Addr×Obj))(σ:St)(tg:Expr)(R:It->Hp->Prop)(itv:δ)(s2:θ):Prop:=
 ∃(it:Addr) (fp:List Addr) (tn:Nat->Heap->Prop) (J:It) (H':Hp),itv=.ref it/\Inv X pins σ H' s2/\jR X.prog X.w X.K tg J fp it tn/\tn 0 s2.heap/\(∀b∈fp,iC X pins H' b)/\R J H'
def PI(X:Cx)(tg iter:Expr)(wi:TI):Prop:=
 ∀(pins:List (Addr×Obj))(s:θ)(σ:St)(H:Hp)(R:It->Hp->Prop),Inv X pins σ H s->wi σ H R ->
  wpAny (model X.prog X.w) X.A (eval iter X.env) (λv s1=>wpAny (model X.prog X.w) X.A (pyIter v) (PIE X pins σ tg R) X.xe s1) X.xe s
theorem rP{M:Model}{A:Ρ}{E:δ->θ->Prop}{s:θ}{tg:Expr}{it:Addr}{u:δ}{o:Obj}{n:String}{vs:Array δ}{Q:Unit->θ->Prop}(ho:s.heap.get? it=some o)(hc:o.cls=.type n)(hd:o.data=.fields vs)
  (hn:["enumerate","zip","dict_itemiterator","dict_reverseitemiterator","odict_iterator","itertools.zip_longest","itertools.pairwise"].contains n=false) (hQ:Q Unit.unit s):wpAny M A (letOwnedTupleGo tg (.ref it) u) Q E s:=by
 unfold letOwnedTupleGo
 cases tg<;>first
  |exact ρ hQ
  |(cases u<;>first
    |exact ρ hQ
    | (refine ε (wpAny_load ho ?_)
       rw[hc,hd]
       show wpAny M A (if (["enumerate","zip","dict_itemiterator","dict_reverseitemiterator","odict_iterator","itertools.zip_longest","itertools.pairwise"].contains n&&vs[0]?==some (rawInt _))=true then _ else _) Q E s
       rw[Q6 (by intro h;rw[hn,Ϭ]at h;cases h)]
       exact ρ hQ))
def Itl(K:ζ)(a:Addr):It:=
 ⟨λi H=>∃xs x,SqL K H a xs/\xs[i]?=some x,λi H x H'=>H'=H/\∀xs,SqL K H a xs->xs[i]?=some x,λi H=>∃xs,SqL K H a xs/\xs.length<=i⟩
def Itt(K:ζ)(a:Addr):It:=
 ⟨λi H=>∃xs x,SqT K H a xs/\xs[i]?=some x,λi H x H'=>H'=H/\∀xs,SqT K H a xs->xs[i]?=some x,λi H=>∃xs,SqT K H a xs/\xs.length<=i⟩
def Itr(lo:Int)(n:Nat):It:=⟨λi _=>i<n,λi H x H'=>H'=H/\x=.int (lo+i),λi _=>n<=i⟩
theorem tU{P:υ}{w:Μ}{K:ζ}{tg:Expr}(a it:Addr):jR P w K tg (Itl K a) [it] it (λi h=>h.IsListIter it a i) where
 mem:=by simp
 obj:=λi h st b hb=>by
  have e:b=it:=by simpa using hb
  subst e
  obtain⟨o,e,c,d⟩:=st
  exact⟨o,e,λv z=>by rw[d]at z;cases z⟩
 keep:=λi h h' st k=>st.at λo e=>k it () o e
 item:=by
  intro X hP hw hK hc i pins s σ H E I hf st hg
  subst hP hw hK
  obtain⟨xs,x,hq,hx⟩:=hg
  obtain⟨its,rv,p,hz⟩:=I.list hq
  obtain⟨u,hu,ru⟩:=rv.get hx
  obtain⟨f0,f1,f2,f3,f4,f5⟩:=hf it ()
  refine wpAny_pyNext_list_item st p.isList (x:=u) (by simpa using hu) λh' st' sb=>?_
  have I1:Inv X pins σ H {s with heap:=h'}:=I.turned (t':=s.toks) (λb o hb e=>(sb.2 b hb).trans e) f0 f1 f3 f4 f5
  obtain⟨o,e,c,d⟩:=id st'
  exact⟨u,rfl,rP (s:={s with heap:=h'}) e c d () ⟨x,H,I1,ru,⟨rfl,λys hy=>by rw[I.list_inj hy hq];exact hx⟩,st',λb hb=>(hf b hb).1⟩⟩
 done:=by
  intro X hP hw hK hc i pins s σ H E I hf st hg
  subst hP hw hK
  obtain⟨xs,hq,hx⟩:=hg
  obtain⟨its,rv,p,hz⟩:=I.list hq
  obtain⟨f0,f1,f2,f3,f4,f5⟩:=hf it ()
  have hl:=rv.length
  exact wpAny_pyNext_list_end (I.ok.hd hc) st p.isList (by simp;omega) λh' eb=>⟨rfl,I.turned (t':=s.toks) (λb o hb e=>eb b o hb e) f0 f1 f3 f4 f5⟩
 self:=λ_ _ _ _ _ st h=>wpAny_pyIter_listiter st h
theorem qE{P:υ}{w:Μ}{K:ζ}{tg:Expr}(a it:Addr):jR P w K tg (Itt K a) [it] it (λi h=>h.IsTupleIter it a i) where
 mem:=by simp
 obj:=λi h st b hb=>by
  have e:b=it:=by simpa using hb
  subst e
  obtain⟨o,e,c,d⟩:=st
  exact⟨o,e,λv z=>by rw[d]at z;cases z⟩
 keep:=λi h h' st k=>st.at λo e=>k it () o e
 item:=by
  intro X hP hw hK hc i pins s σ H E I hf st hg
  subst hP hw hK
  obtain⟨xs,x,hq,hx⟩:=hg
  obtain⟨its,rv,p,hz⟩:=I.tuple hq
  obtain⟨u,hu,ru⟩:=rv.get hx
  obtain⟨f0,f1,f2,f3,f4,f5⟩:=hf it ()
  refine wpAny_pyNext_tuple_item st (show s.heap.IsTuple a its.toArray from p) (x:=u) (by simpa using hu) λh' st' sb=>?_
  have I1:Inv X pins σ H {s with heap:=h'}:=I.turned (t':=s.toks) (λb o hb e=>(sb.2 b hb).trans e) f0 f1 f3 f4 f5
  obtain⟨o,e,c,d⟩:=id st'
  exact⟨u,rfl,rP (s:={s with heap:=h'}) e c d () ⟨x,H,I1,ru,⟨rfl,λys hy=>by rw[I.tuple_inj hy hq];exact hx⟩,st',λb hb=>(hf b hb).1⟩⟩
 done:=by
  intro X hP hw hK hc i pins s σ H E I hf st hg
  subst hP hw hK
  obtain⟨xs,hq,hx⟩:=hg
  obtain⟨its,rv,p,hz⟩:=I.tuple hq
  obtain⟨f0,f1,f2,f3,f4,f5⟩:=hf it ()
  have hl:=rv.length
  exact wpAny_pyNext_tuple_end (I.ok.hd hc) st (show s.heap.IsTuple a its.toArray from p) (by simp;omega) λh' eb=>⟨rfl,I.turned (t':=s.toks) (λb o hb e=>eb b o hb e) f0 f1 f3 f4 f5⟩
 self:=λ_ _ _ _ _ st h=>wpAny_pyIter_tupleiter st h
theorem qm{P:υ}{w:Μ}{K:ζ}{tg:Expr}(it:Addr)(lo:Int)(n:Nat):jR P w K tg (Itr lo n) [it] it (λi h=>IsRangeIter h it (lo+(i:Nat)*1) ((n:Int)-(i:Nat)) 1) where
 mem:=by simp
 obj:=λi h st b hb=>by
  have e:b=it:=by simpa using hb
  subst e
  exact⟨_,st,λv z=>by
   have z':Data.fields _=B3 v:=z
   cases z'⟩
 keep:=λi h h' st k=>k it () _ st
 item:=by
  intro X hP hw hK hc i pins s σ H E I hf st hg
  subst hP hw hK
  obtain⟨f0,f1,f2,f3,f4,f5⟩:=hf it ()
  have W:=Walks.range (prog:=X.prog) (w:=X.w) (I.ok.hd hc) it lo 1 n
  refine W.item i s _ _ hg st λv h' tk hv st' kk=>?_
  obtain⟨t,rfl⟩:=hv
  have I1:Inv X pins σ H {s with heap:=h',toks:=tk}:=I.turned (λb o hb e=>kk b o (by simpa using hb) e) f0 f1 f3 f4 f5
  refine⟨_,rfl,rP (s:={s with heap:=h',toks:=tk}) (n:="range_iterator") st' rfl rfl () ⟨.int (lo+i),H,I1,⟨t,?_⟩,⟨rfl,rfl⟩,st',λb hb=>(hf b hb).1⟩⟩
  rw[Int.mul_one]
 done:=by
  intro X hP hw hK hc i pins s σ H E I hf st hg
  subst hP hw hK
  obtain⟨f0,f1,f2,f3,f4,f5⟩:=hf it ()
  exact wpAny_pyNext_range_end (I.ok.hd hc) st (by have:n<=i:=hg;omega) λh' eb=>⟨rfl,I.turned (t':=s.toks) (λb o hb e=>eb b o hb e) f0 f1 f3 f4 f5⟩
 self:=λ_ _ _ _ _ st h=>wpAny_pyIter_rangeiter st h
section
variable{X:Cx}{tg:Expr}
def zx(K:ζ)(tl:TE):TI:=λσ H R=>tl σ H λx H1=>∃a,x=.ref a/\(∃xs,SqL K H1 a xs)/\R (Itl K a) H1
def Ba(K:ζ)(tl:TE):TI:=λσ H R=>tl σ H λx H1=>∃a,x=.ref a/\(∃xs,SqT K H1 a xs)/\R (Itt K a) H1
theorem pi_list{l:Expr}{tl:TE}(hl:PE X l tl):PI X tg l (zx X.K tl):=by
 intro pins s σ H R I h
 refine thn (hl pins s σ H _ I h) λv s1 ⟨x,H1,I1,r1,q1⟩=>?_
 obtain⟨a,e,⟨xs,hq⟩,q⟩:=q1
 subst e
 cases r1
 obtain⟨its,rv,p,hz⟩:=I1.list hq
 refine Cq p.isList ?_
 refine⟨s1.heap.objs.size,[s1.heap.objs.size],_,_,H1,rfl,I1.kept (t':=s1.toks) λb o e=>ο _ e,tU a _,⟨_,Δ _ rfl,rfl,rfl⟩,λb hb=>?_,q⟩
 have e:b=s1.heap.objs.size:=by simpa using hb
 subst e
 exact I1.fpOk (π _) (I1.hok.fresh (π _))
theorem pi_tup{l:Expr}{tl:TE}(hl:PE X l tl):PI X tg l (Ba X.K tl):=by
 intro pins s σ H R I h
 refine thn (hl pins s σ H _ I h) λv s1 ⟨x,H1,I1,r1,q1⟩=>?_
 obtain⟨a,e,⟨xs,hq⟩,q⟩:=q1
 subst e
 cases r1
 obtain⟨its,rv,p,hz⟩:=I1.tuple hq
 refine Bs (show s1.heap.IsTuple a its.toArray from p) ?_
 refine⟨s1.heap.objs.size,[s1.heap.objs.size],_,_,H1,rfl,I1.kept (t':=s1.toks) λb o e=>ο _ e,qE a _,⟨_,Δ _ rfl,rfl,rfl⟩,λb hb=>?_,q⟩
 have e:b=s1.heap.objs.size:=by simpa using hb
 subst e
 exact I1.fpOk (π _) (I1.hok.fresh (π _))
theorem vj{pins:List (Addr×Obj)}{σ:St}{H:Hp}{s:θ}{R:It->Hp->Prop}{E:δ->θ->Prop}{lo hi:Int}{t u v:Tok}{tk:Nat}(I:Inv X pins σ H s)(h1:-(2^62)<=lo)(h2:lo<2^62)(h3:-(2^62)<=hi)(h4:hi<2^62)
  (q:R (Itr lo (hi-lo).toNat) H):wpAny (model X.prog X.w) X.A (pyIter (.ref s.heap.objs.size)) (PIE X pins σ tg R) E {s with heap:=s.heap.push {cls:=.type "range",data:=.fields #[.int lo t,.int hi u,.int 1 v]},toks:=tk}:=by
 refine wpAny_pyIter_range (IsRange.new ..) (small_one h1 h2 h3 h4) ?_
 have I1:Inv X pins σ H {s with heap:=s.heap.push {cls:=.type "range",data:=.fields #[.int lo t,.int hi u,.int 1 v]},toks:=tk}:=I.kept λb o e=>ο _ e
 refine⟨(s.heap.push {cls:=.type "range",data:=.fields #[.int lo t,.int hi u,.int 1 v]}).objs.size,[(s.heap.push {cls:=.type "range",data:=.fields #[.int lo t,.int hi u,.int 1 v]}).objs.size],_,_,H,rfl,
  I1.kept (t':=tk) λb o e=>ο _ e,qm _ lo (hi-lo).toNat,?_,λb hb=>?_,q⟩
 ·have e1:lo+((0:Nat):Int)*1=lo:=by simp
  have e2:(((hi-lo).toNat:Nat):Int)-((0:Nat):Int)=o8.Range.rangeSize lo hi 1:=by rw[rangeSize_one];split<;>omega
  show IsRangeIter _ _ (lo+((0:Nat):Int)*1) ((((hi-lo).toNat:Nat):Int)-((0:Nat):Int)) 1
  rw[e1,e2]
  exact Δ _ rfl
 ·have e:b=(s.heap.push {cls:=.type "range",data:=.fields #[.int lo t,.int hi u,.int 1 v]}).objs.size:=by simpa using hb
  subst e
  exact I1.fpOk (π _) (I1.hok.fresh (π _))
def Ac(ta:TA):TI:=λσ H R=>ta σ H λvs H1=>∃j:Int,vs=[.int j]/\-(2^62)<=j/\j<2^62/\R (Itr 0 j.toNat) H1
theorem pi_range1{a:Expr}{ta:TA}{p pos:Pos}(hg:Gl X "range")(hm:X.mg "range"=none)(ha:PA X [a] ta)(hs:starEach [a] X.env=[(false,eval a X.env)]:=by rfl):PI X tg (.Call (.Name "range" p) [a] [] pos) (Ac ta):=by
 intro pins s σ H R I h
 refine Call_ (gj I hg hm boot_range (j9 (thn (ha pos pins s σ H _ I h) λus s1 ⟨vs,H1,I1,r1,q1⟩=>?_) hs rfl))
 obtain⟨j,e,q1,q2,q⟩:=q1
 subst e
 cases r1 with
 |cons r rr=>
  cases rr
  obtain⟨t,rfl⟩:=r
  exact call_range_1 (vj I1 () () q1 q2 (by simpa using q))
def AK(wi:TI)(g:TG)(tb:TS):TS:=λD σ H=>wi σ H λJ H1=>∃W:Nat->Nat->St->Hp->Prop,(∃m,W 0 m σ H1)/\∀i m σ H,W i m σ H ->
 (J.stop i H/\D.nx σ H)\/(J.go i H/\∃N:St->Hp->Prop,(∀σ' H',N σ' H'->∃m',m'<m/\W (i+1) m' σ' H')/\∀x H',J.yld i H x H'->g x σ H' λσ2 H2=>tb {D with nx:=N,ct:=N,bk:=D.nx} σ2 H2)
def jh(fp:List Addr)(h:Heap):List (Addr×Obj):=fp.filterMap λb=>(h.get? b).map λo=>(b,o)
theorem dF{fp:List Addr}{h:Heap}{b:Addr}{o:Obj}(hb:b∈fp)(e:h.get? b=some o):(b,o)∈jh fp h:=Bq.mpr ⟨b,hb,by rw[e];rfl⟩
theorem tw{fp:List Addr}{h:Heap}{p:Addr×Obj}(hp:p∈jh fp h):p.1∈fp/\h.get? p.1=some p.2:=by
 obtain⟨b,hb,e⟩:=Bq.mp hp
 cases q:h.get? b with
 |none=>rw[q]at e;cases e
 |some o=>
  rw[q]at e
  have e':(b,o)=p:=ϕ e
  subst e'
  exact⟨hb,q⟩
theorem Inv.pinned{pins:List (Addr×Obj)}{σ:St}{H:Hp}{s:θ}{fp:List Addr}(I:Inv X pins σ H s)(hf:∀b∈fp,iC X pins H b)(ho:∀b∈fp,∃o,s.heap.get? b=some o/\∀v,o.data≠.cell v):Inv X (pins++jh fp s.heap) σ H s:=
 I.pins_of λp hp=>(ϋ.mp hp).elim (λz=>I.pin p (ό _ z)) λz=>by
  obtain⟨hb,e⟩:=tw z
  obtain⟨f0,f1,f2,_⟩:=hf p.1 hb
  obtain⟨o,e',d⟩:=ho p.1 hb
  rw[e]at e';cases e'
  exact⟨e,f0,f1,f2,d⟩
theorem Inv.unpinned{pins pl:List (Addr×Obj)}{σ:St}{H:Hp}{s:θ}(I:Inv X (pins++pl) σ H s):Inv X pins σ H s:=I.pins_of λp hp=>I.pin p (ό _ (x_ _ hp))
theorem ps_for{iter:Expr}{body:List Stmt}{wi:TI}{g:TG}{tb:TS}{pos:Pos}(hp:PassesOwn (model X.prog X.w) X.A X.env X.xe)(hc:X.calm=true)(hi:PI X tg iter wi)(hg:PG X tg g)(hb:PSs X body tb)
  (hs:∀x,foldedSetIterable iter X.env x=pure x:=by intro _;rfl):PS X (.For tg iter body [] pos) (AK wi g tb):=by
 intro pins s σ H D I h
 refine wpAny_For (thn (hi pins s σ H _ I h) λv s1 h1=>thn h1 λitv s2 h2=>?_) hs
 obtain⟨it,fp,tn,J,H2,e,I2,T,st2,f2,W,⟨m0,w0⟩,turn⟩:=h2
 subst e
 have stat:∀{H':Hp},(∀b∈fp,H' b=none)->∀b∈fp,iC X pins H' b:=λhn b hb=>⟨hn b hb,(f2 b hb).2⟩
 refine codeAny_forLoop_any (λn s'=>∃i σ' H',Inv X pins σ' H' s'/\tn i s'.heap/\(∀b∈fp,H' b=none)/\W i n σ' H') ?_ m0 ⟨0,σ,H2,I2,st2,λb hb=>(f2 b hb).1,w0⟩
 rintro n s3 ⟨i,σ3,H3,I3,st3,fr3,w3⟩
 rcases turn i n σ3 H3 w3 with ⟨stop,qn⟩|⟨go,N,hN,step⟩
 ·refine n6 hp (thn (T.done X rfl rfl rfl hc i pins s3 σ3 H3 X.xe I3 (stat fr3) st3 stop) λr s4 ⟨hr,I4⟩=>?_)
  subst hr
  exact BU ⟨σ3,H3,I4,qn⟩
 ·refine n6 hp (thn (T.item X rfl rfl rfl hc i pins s3 σ3 H3 X.xe I3 (stat fr3) st3 go) λr s4 ⟨u,hr,h4⟩=>?_)
  subst hr
  refine n6 hp (thn h4 λ_ s5 ⟨x,H5,I5,r5,y5,st5,fr5⟩=>?_)
  have I5':=I5.pinned (stat fr5) (T.obj _ _ st5)
  refine n6 hp (thn (hg _ s5 σ3 H5 x u _ I5' r5 (step x H5 y5)) λ_ s6 ⟨σ6,H6,I6,q6⟩=>?_)
  refine n6 hp (thn (hb _ s6 σ6 H6 _ I6 q6) λf s7 q7=>?_)
  have again:∀{σ7:St}{H7:Hp},Inv X (pins++jh fp s5.heap) σ7 H7 s7->N σ7 H7->∃m,m<n/\∃i σ' H',Inv X pins σ' H' s7/\tn i s7.heap/\(∀b∈fp,H' b=none)/\W i m σ' H':=λ{σ7 H7} I7 n7=>by
   obtain⟨m',hm,w7⟩:=hN σ7 H7 n7
   refine⟨m',hm,i+1,σ7,H7,I7.unpinned,T.keep _ _ _ st5 λb hb o e=>(I7.pin (b,o) (ό _ (ό _ (dF hb e)))).1,λb hb=>?_,w7⟩
   obtain⟨o,e,d⟩:=T.obj _ _ st5 b hb
   exact(I7.pin (b,o) (ό _ (ό _ (dF hb e)))).2.1
  cases f with
  |next=>obtain⟨σ7,H7,I7,n7⟩:=q7;exact again I7 n7
  |cont=>obtain⟨σ7,H7,I7,n7⟩:=q7;exact again I7 n7
  |brk=>obtain⟨σ7,H7,I7,q7⟩:=q7;exact⟨σ7,H7,I7.unpinned,q7⟩
  |ret v=>obtain⟨x7,σ7,H7,I7,r7,q7⟩:=q7;exact⟨x7,σ7,H7,I7.unpinned,r7,q7⟩
end
theorem nU{K:ζ}{a:Addr}{xs:List V}{g:TG}{tb:TS}{D:bZ}{σ:St}{H:Hp}(Pv:Nat->St->Hp->Prop)(h0:Pv 0 σ H)(hl:∀i σ H,i<=xs.length->Pv i σ H->SqL K H a xs)
  (hs:∀i x σ H,xs[i]?=some x->Pv i σ H->g x σ H λσ2 H2=>tb {D with nx:=Pv (i+1),ct:=Pv (i+1),bk:=D.nx} σ2 H2) (hd:∀σ H,Pv xs.length σ H->D.nx σ H):
  ∃W:Nat->Nat->St->Hp->Prop,(∃m,W 0 m σ H)/\∀i m σ H,W i m σ H ->
   ((Itl K a).stop i H/\D.nx σ H)\/((Itl K a).go i H/\∃N:St->Hp->Prop,(∀σ' H',N σ' H'->∃m',m'<m/\W (i+1) m' σ' H')/\∀x H',(Itl K a).yld i H x H'->g x σ H' λσ2 H2=>tb {D with nx:=N,ct:=N,bk:=D.nx} σ2 H2):=by
 refine⟨λi m σ H=>m=xs.length-i/\i<=xs.length/\Pv i σ H,⟨xs.length,(),Υ _,h0⟩,?_⟩
 rintro i m σ H ⟨rfl,hi,p⟩
 have q:=hl i σ H hi p
 by_cases hlt:i<xs.length
 ·refine .inr ⟨⟨xs,xs[i],q,by simp[hlt]⟩,Pv (i+1),λσ' H' p'=>⟨xs.length-(i+1),(),rfl,hlt,p'⟩,λx H' y=>?_⟩
  obtain⟨e,y⟩:=y
  subst e
  exact hs i x σ _ (y xs q) p
 ·have e:i=xs.length:=by omega
  subst e
  exact .inl ⟨⟨xs,q,π _⟩,hd σ H p⟩
theorem qQ{K:ζ}{a:Addr}{xs:List V}{g:TG}{tb:TS}{D:bZ}{σ:St}{H:Hp}(Pv:Nat->St->Hp->Prop)(h0:Pv 0 σ H)(hl:∀i σ H,i<=xs.length->Pv i σ H->SqT K H a xs)
  (hs:∀i x σ H,xs[i]?=some x->Pv i σ H->g x σ H λσ2 H2=>tb {D with nx:=Pv (i+1),ct:=Pv (i+1),bk:=D.nx} σ2 H2) (hd:∀σ H,Pv xs.length σ H->D.nx σ H):
  ∃W:Nat->Nat->St->Hp->Prop,(∃m,W 0 m σ H)/\∀i m σ H,W i m σ H ->
   ((Itt K a).stop i H/\D.nx σ H)\/((Itt K a).go i H/\∃N:St->Hp->Prop,(∀σ' H',N σ' H'->∃m',m'<m/\W (i+1) m' σ' H')/\∀x H',(Itt K a).yld i H x H'->g x σ H' λσ2 H2=>tb {D with nx:=N,ct:=N,bk:=D.nx} σ2 H2):=by
 refine⟨λi m σ H=>m=xs.length-i/\i<=xs.length/\Pv i σ H,⟨xs.length,(),Υ _,h0⟩,?_⟩
 rintro i m σ H ⟨rfl,hi,p⟩
 have q:=hl i σ H hi p
 by_cases hlt:i<xs.length
 ·refine .inr ⟨⟨xs,xs[i],q,by simp[hlt]⟩,Pv (i+1),λσ' H' p'=>⟨xs.length-(i+1),(),rfl,hlt,p'⟩,λx H' y=>?_⟩
  obtain⟨e,y⟩:=y
  subst e
  exact hs i x σ _ (y xs q) p
 ·have e:i=xs.length:=by omega
  subst e
  exact .inl ⟨⟨xs,q,π _⟩,hd σ H p⟩
theorem tR{lo:Int}{n:Nat}{g:TG}{tb:TS}{D:bZ}{σ:St}{H:Hp}(Pv:Nat->St->Hp->Prop)(h0:Pv 0 σ H)
  (hs:∀i σ H,i<n->Pv i σ H->g (.int (lo+i)) σ H λσ2 H2=>tb {D with nx:=Pv (i+1),ct:=Pv (i+1),bk:=D.nx} σ2 H2) (hd:∀σ H,Pv n σ H->D.nx σ H):
  ∃W:Nat->Nat->St->Hp->Prop,(∃m,W 0 m σ H)/\∀i m σ H,W i m σ H ->
   ((Itr lo n).stop i H/\D.nx σ H)\/((Itr lo n).go i H/\∃N:St->Hp->Prop,(∀σ' H',N σ' H'->∃m',m'<m/\W (i+1) m' σ' H')/\∀x H',(Itr lo n).yld i H x H'->g x σ H' λσ2 H2=>tb {D with nx:=N,ct:=N,bk:=D.nx} σ2 H2):=by
 refine⟨λi m σ H=>m=n-i/\i<=n/\Pv i σ H,⟨n,(),Υ _,h0⟩,?_⟩
 rintro i m σ H ⟨rfl,hi,p⟩
 by_cases hlt:i<n
 ·refine .inr ⟨hlt,Pv (i+1),λσ' H' p'=>⟨n-(i+1),(),rfl,hlt,p'⟩,λx H' y=>?_⟩
  obtain⟨e,y⟩:=y
  subst e y
  exact hs i σ _ hlt p
 ·have e:i=n:=by omega
  subst e
  exact .inl ⟨π _,hd σ H p⟩
abbrev R2:=V->V->Hp->VK->Prop
def OpR(X:Cx)(f:δ->δ->Sem δ)(r:R2):Prop:=
 ∀(pins:List (Addr×Obj))(s:θ)(σ:St)(H:Hp)(x y:V)(v u:δ)(Q:VK),Inv X pins σ H s->aH x v->aH y u->r x y H Q ->
  wpAny (model X.prog X.w) X.A (f v u) (EP X pins σ Q) X.xe s
def UnR(X:Cx)(f:δ->Sem δ)(r:V->Hp->VK->Prop):Prop:=
 ∀(pins:List (Addr×Obj))(s:θ)(σ:St)(H:Hp)(x:V)(v:δ)(Q:VK),Inv X pins σ H s->aH x v->r x H Q ->
  wpAny (model X.prog X.w) X.A (f v) (EP X pins σ Q) X.xe s
def cS(X:Cx)(f:δ)(r:List V->Hp->VK->Prop):Prop:=
 ∀(pins:List (Addr×Obj))(s:θ)(σ:St)(H:Hp)(xs:List V)(us:List δ)(Q:VK),Inv X pins σ H s->aD xs us->r xs H Q ->
  wpAny (model X.prog X.w) X.A (call f us) (EP X pins σ Q) X.xe s
def AH(X:Cx)(r:V->Hp->(Bool->Hp->Prop)->Prop):Prop:=
 ∀(pins:List (Addr×Obj))(s:θ)(σ:St)(H:Hp)(x:V)(v:δ)(Q:Bool->Hp->Prop),Inv X pins σ H s->aH x v->r x H Q ->
  wpAny (model X.prog X.w) X.A (truthy v) (TP X pins σ Q) X.xe s
def tOp(r:R2)(ta tb:TE):TE:=λσ H Q=>ta σ H λx H1=>tb σ H1 λy H2=>r x y H2 Q
def tUn(r:V->Hp->VK->Prop)(ta:TE):TE:=λσ H Q=>ta σ H λx H1=>r x H1 Q
def rI(C:Int->Int->Prop)(g:Int->Int->V):R2:=λx y H Q=>∃i j,x=.int i/\y=.int j/\C i j/\Q (g i j) H
def rI0(g:Int->Int->V):R2:=λx y H Q=>∃i j,x=.int i/\y=.int j/\Q (g i j) H
def rU(g:Int->V):V->Hp->VK->Prop:=λx H Q=>∃i,x=.int i/\Q (g i) H
section
variable{X:Cx}{a b c:Expr}{ta tb tc:TE}{pos:Pos}
theorem yI(ha:PE X a ta)(hb:PE X b tb){pins:List (Addr×Obj)}{s:θ}{σ:St}{H:Hp}{R:V->V->Hp->Prop}(I:Inv X pins σ H s)
  (h:ta σ H λx H1=>tb σ H1 λy H2=>R x y H2) {Q:δ->θ->Prop} {f:δ->δ->Sem δ}
  (hf:∀v u s2 x y H2,Inv X pins σ H2 s2->aH x v->aH y u->R x y H2->wpAny (model X.prog X.w) X.A (f v u) Q X.xe s2):
  wpAny (model X.prog X.w) X.A (eval a X.env) (λv s₁=>wpAny (model X.prog X.w) X.A (eval b X.env) (λu s₂=>wpAny (model X.prog X.w) X.A (f v u) Q X.xe s₂) X.xe s₁) X.xe s:=by
 refine thn (ha pins s σ H _ I h) λv s1 ⟨x,H1,I1,r1,q1⟩=>?_
 refine thn (hb pins s1 σ H1 _ I1 q1) λu s2 ⟨y,H2,I2,r2,q2⟩=>?_
 exact hf v u s2 x y H2 I2 r1 r2 q2
theorem pe_op{op:C2}{r:R2}(ho:OpR X (binaryOp op) r)(ha:PE X a ta)(hb:PE X b tb):PE X (.BinOp a op b pos) (tOp r ta tb):=by
 intro pins s σ H Q I h
 exact wpAny_BinOp (yI ha hb I h λv u s2 x y H2 I2 rx ry q=>ho pins s2 σ H2 x y v u Q I2 rx ry q)
theorem pe_un{op:UnaryOp}{r:V->Hp->VK->Prop}(ho:UnR X (unaryOp op) r)(ha:PE X a ta):PE X (.UnaryOp op a pos) (tUn r ta):=by
 intro pins s σ H Q I h
 exact UnaryOp_ (thn (ha pins s σ H _ I h) λv s1 ⟨x,H1,I1,r1,q1⟩=>ho pins s1 σ H1 x v Q I1 r1 q1)
theorem opI{f:δ->δ->Sem δ}{C:Int->Int->Prop}{g:Int->Int->Int}
  (rule:∀(i j:Int)(t u:Tok)(s:θ)(Q:δ->θ->Prop)(E:δ->θ->Prop),C i j->Q (.int (g i j) s.toks) {s with toks:=s.toks+1}->wpAny (model X.prog X.w) X.A (f (.int i t) (.int j u)) Q E s):
  OpR X f (rI C λi j=>.int (g i j)):=by
 intro pins s σ H x y v u Q I rx ry h
 obtain⟨i,j,rfl,rfl,hc,q⟩:=h
 obtain⟨t,rfl⟩:=rx
 obtain⟨t',rfl⟩:=ry
 exact rule i j t t' s _ _ hc ⟨.int (g i j),H,I.tok _,⟨_,rfl⟩,q⟩
theorem zC{f:δ->δ->Sem δ}{g:Int->Int->Int}
  (rule:∀(i j:Int)(t u:Tok)(s:θ)(Q:δ->θ->Prop)(E:δ->θ->Prop),Q (.int (g i j) s.toks) {s with toks:=s.toks+1}->wpAny (model X.prog X.w) X.A (f (.int i t) (.int j u)) Q E s):
  OpR X f (rI0 λi j=>.int (g i j)):=by
 intro pins s σ H x y v u Q I rx ry h
 obtain⟨i,j,rfl,rfl,q⟩:=h
 obtain⟨t,rfl⟩:=rx
 obtain⟨t',rfl⟩:=ry
 exact rule i j t t' s _ _ ⟨.int (g i j),H,I.tok _,⟨_,rfl⟩,q⟩
theorem ww{f:δ->δ->Sem δ}{g:Int->Int->Bool}
  (rule:∀(i j:Int)(t u:Tok)(s:θ)(Q:δ->θ->Prop)(E:δ->θ->Prop),Q (.bool (g i j)) s->wpAny (model X.prog X.w) X.A (f (.int i t) (.int j u)) Q E s):
  OpR X f (rI0 λi j=>.bl (g i j)):=by
 intro pins s σ H x y v u Q I rx ry h
 obtain⟨i,j,rfl,rfl,q⟩:=h
 obtain⟨t,rfl⟩:=rx
 obtain⟨t',rfl⟩:=ry
 exact rule i j t t' s _ _ ⟨.bl (g i j),H,I,rfl,q⟩
def yF(i j:Int):Prop:=0<=j/\j<=1000000/\i.natAbs<2^64
def yj(i j:Int):Prop:=(-(2^64)<i/\i<2^64)\/(-(2^64)<j/\j<2^64)
theorem yj.ok{i j:Int}(h:yj i j):IntMulOk i j:=by
 rcases h with ⟨h1,h2⟩|⟨h1,h2⟩
 ·exact .of_left (intBits_le_64 h1 h2)
 ·exact .of_right (intBits_le_64 h1 h2)
theorem bF:OpR X (binaryOp .Add) (rI0 λi j=>.int (i+j)):=zC λ_ _ _ _ _ _ _ q=>add_int q
theorem bV:OpR X (binaryOp .Sub) (rI0 λi j=>.int (i-j)):=zC λ_ _ _ _ _ _ _ q=>sub_int q
theorem fq:OpR X (binaryOp .Mult) (rI yj λi j=>.int (i*j)):=opI λ_ _ _ _ _ _ _ hc q=>mul_int q hc.ok
theorem eY:OpR X (binaryOp .Mod) (rI (λ_ j=>0<j) λi j=>.int (i%j)):=opI λi j _ _ _ _ _ hc q=>by
 have h1:(0:Int)<j:=hc
 exact mod_int' () (by rw[Int.fmod_eq_emod_of_nonneg i ()];exact q)
theorem qy:OpR X (binaryOp .Pow) (rI yF λi j=>.int (i^j.toNat)):=opI λ_ _ _ _ _ _ _ hc q=>pow_int_small hc.1 hc.2.1 hc.2.2 q
theorem unI{f:δ->Sem δ}{g:Int->Int}
  (rule:∀(i:Int)(t:Tok)(s:θ)(Q:δ->θ->Prop)(E:δ->θ->Prop),Q (.int (g i) s.toks) {s with toks:=s.toks+1}->wpAny (model X.prog X.w) X.A (f (.int i t)) Q E s):
  UnR X f (rU λi=>.int (g i)):=by
 intro pins s σ H x v Q I rx h
 obtain⟨i,rfl,q⟩:=h
 obtain⟨t,rfl⟩:=rx
 exact rule i t s _ _ ⟨.int (g i),H,I.tok _,⟨_,rfl⟩,q⟩
theorem uC:UnR X (unaryOp .USub) (rU λi=>.int (-i)):=unI λ_ _ _ _ _ q=>neg_int q
end
def zn:V->V->Bool
 |.non,.non=>true|.non,.int _=>true|.int _,.non=>true|.non,.bl _=>true|.bl _,.non=>true|.non,.str _=>true|.str _,.non=>true
 |.int _,.int _=>true|.bl _,.bl _=>true|.str _,.str _=>true|.byt _,.byt _=>true
 |.int _,.str _=>true|.str _,.int _=>true|.bl _,.str _=>true|.str _,.bl _=>true
 |_,_=>false
def rEq:R2:=λx y H Q=>zn x y=true/\Q (.bl (decide (x=y))) H
def rNe:R2:=λx y H Q=>zn x y=true/\Q (.bl (!decide (x=y))) H
theorem rj{i j:Int}:decide (V.int i=V.int j)=(i==j):=by
 rw[j6]
 simp
theorem vY{i j:Bool}:decide (V.bl i=V.bl j)=(i==j):=by
 rw[j6]
 simp
theorem sq{i j:Str}:decide (V.str i=V.str j)=(i==j):=by
 rw[j6]
 simp
theorem sy{i j:Array UInt8}:decide (V.byt i=V.byt j)=(i.toList==j.toList):=by
 rw[j6]
 cases i
 cases j
 simp
section
variable{X:Cx}{a b c:Expr}{ta tb tc:TE}{pos:Pos}
theorem aL{pins:List (Addr×Obj)}{σ:St}{H:Hp}{s:θ}{Q:VK}{k k':Bool}(I:Inv X pins σ H s)(q:Q (.bl k) H)(e:k=k'):EP X pins σ Q (.bool k') s:=by
 subst e
 exact⟨.bl k,H,I,rfl,q⟩
theorem av:OpR X (compareOp .Eq) rEq:=by
 intro pins s σ H x y v u Q I rx ry h
 obtain⟨hs,q⟩:=h
 cases x with
 |non=>
  cases rx
  cases y with
  |non=>cases ry;exact PySem.EqNone.eq_none_none (aL I q ())
  |bl j=>cases ry;exact PySem.EqNone.eq_none_bool (aL I q ())
  |int j=>obtain⟨t',rfl⟩:=ry;exact PySem.EqNone.eq_none_int (aL I q ())
  |str j=>obtain⟨t',rfl⟩:=ry;exact PySem.EqNone.eq_none_str (aL I q ())
  |_=>exact absurd (show false=true from hs) Κ
 |bl i=>
  cases rx
  cases y with
  |non=>cases ry;exact PySem.EqNone.eq_bool_none (aL I q ())
  |bl j=>cases ry;exact eq_bool (aL I q vY)
  |str j=>obtain⟨t',rfl⟩:=ry;exact PySem.EqMixed.eq_bool_str (aL I q ())
  |_=>exact absurd (show false=true from hs) Κ
 |int i=>
  obtain⟨t,rfl⟩:=rx
  cases y with
  |non=>cases ry;exact PySem.EqNone.eq_int_none (aL I q ())
  |int j=>obtain⟨t',rfl⟩:=ry;exact eq_int (aL I q rj)
  |str j=>obtain⟨t',rfl⟩:=ry;exact PySem.EqMixed.eq_int_str (aL I q ())
  |_=>exact absurd (show false=true from hs) Κ
 |str i=>
  obtain⟨t,rfl⟩:=rx
  cases y with
  |non=>cases ry;exact PySem.EqNone.eq_str_none (aL I q ())
  |bl j=>cases ry;exact PySem.EqMixed.eq_str_bool (aL I q ())
  |int j=>obtain⟨t',rfl⟩:=ry;exact PySem.EqMixed.eq_str_int (aL I q ())
  |str j=>obtain⟨t',rfl⟩:=ry;exact eq_str (aL I q sq)
  |_=>exact absurd (show false=true from hs) Κ
 |byt i=>
  obtain⟨t,rfl⟩:=rx
  cases y with
  |byt j=>obtain⟨t',rfl⟩:=ry;exact PySem.W.eq_bytes (aL I q sy)
  |_=>exact absurd (show false=true from hs) Κ
 |_=>cases y<;>exact absurd (show false=true from hs) Κ
theorem eT:OpR X (compareOp .NotEq) rNe:=by
 intro pins s σ H x y v u Q I rx ry h
 obtain⟨hs,q⟩:=h
 cases x with
 |non=>
  cases rx
  cases y with
  |non=>cases ry;exact PySem.EqNone.ne_none_none (aL I q ())
  |bl j=>cases ry;exact PySem.EqNone.ne_none_bool (aL I q ())
  |int j=>obtain⟨t',rfl⟩:=ry;exact PySem.EqNone.ne_none_int (aL I q ())
  |str j=>obtain⟨t',rfl⟩:=ry;exact PySem.EqNone.ne_none_str (aL I q ())
  |_=>exact absurd (show false=true from hs) Κ
 |bl i=>
  cases rx
  cases y with
  |non=>cases ry;exact PySem.EqNone.ne_bool_none (aL I q ())
  |bl j=>cases ry;exact ne_bool (aL I q (congrArg not vY))
  |str j=>obtain⟨t',rfl⟩:=ry;exact PySem.EqMixed.ne_bool_str (aL I q ())
  |_=>exact absurd (show false=true from hs) Κ
 |int i=>
  obtain⟨t,rfl⟩:=rx
  cases y with
  |non=>cases ry;exact PySem.EqNone.ne_int_none (aL I q ())
  |int j=>obtain⟨t',rfl⟩:=ry;exact ne_int (aL I q (congrArg not rj))
  |str j=>obtain⟨t',rfl⟩:=ry;exact PySem.EqMixed.ne_int_str (aL I q ())
  |_=>exact absurd (show false=true from hs) Κ
 |str i=>
  obtain⟨t,rfl⟩:=rx
  cases y with
  |non=>cases ry;exact PySem.EqNone.ne_str_none (aL I q ())
  |bl j=>cases ry;exact PySem.EqMixed.ne_str_bool (aL I q ())
  |int j=>obtain⟨t',rfl⟩:=ry;exact PySem.EqMixed.ne_str_int (aL I q ())
  |str j=>obtain⟨t',rfl⟩:=ry;exact ne_str (aL I q (congrArg not sq))
  |_=>exact absurd (show false=true from hs) Κ
 |byt i=>
  obtain⟨t,rfl⟩:=rx
  cases y with
  |byt j=>obtain⟨t',rfl⟩:=ry;exact PySem.W.ne_bytes (aL I q (congrArg not sy))
  |_=>exact absurd (show false=true from hs) Κ
 |_=>cases y<;>exact absurd (show false=true from hs) Κ
theorem gY:OpR X (compareOp .Lt) (rI0 λi j=>.bl (decide (i<j))):=ww λ_ _ _ _ _ _ _ q=>lt_int q
theorem fU:OpR X (compareOp .LtE) (rI0 λi j=>.bl (decide (i<=j))):=ww λ_ _ _ _ _ _ _ q=>le_int q
theorem dX:OpR X (compareOp .Gt) (rI0 λi j=>.bl (decide (j<i))):=ww λ_ _ _ _ _ _ _ q=>gt_int q
theorem xP:OpR X (compareOp .GtE) (rI0 λi j=>.bl (decide (j<=i))):=ww λ_ _ _ _ _ _ _ q=>ge_int q
theorem gg:OpR X (compareOp .Is) (λx y H Q=>y=.non/\Q (.bl (decide (x=.non))) H):=by
 intro pins s σ H x y v u Q I rx ry h
 obtain⟨rfl,q⟩:=h
 cases ry
 refine is_none_gen (aL I q ?_)
 cases x<;>first
  |(cases rx;rfl)
  |(obtain⟨t,rfl⟩:=rx;rfl)
theorem af(b:Expr){op:CmpOp}(h:op≠.In:=by decide)(h2:op≠.NotIn:=by decide):behindInMarks op b=false:=by
 have e1:(op==CmpOp.In)=false:=by cases op<;>first|rfl|exact absurd rfl h
 have e2:(op==CmpOp.NotIn)=false:=by cases op<;>first|rfl|exact absurd rfl h2
 cases b<;>simp[behindInMarks,e1,e2]
theorem pe_cmpR{op:CmpOp}{r:R2}(ho:OpR X (compareOp op) r)(ha:PE X a ta)(hb:PE X b tb)(hm:behindInMarks op b=false):PE X (.Compare a [op] [b] pos) (tOp r ta tb):=by
 intro pins s σ H Q I h
 exact wpAny_Compare1 (yI ha hb I h λv u s2 x y H2 I2 rx ry q=>ho pins s2 σ H2 x y v u Q I2 rx ry q) hm
def rY(t:TE):TT:=λσ H Q=>t σ H λx H'=>∃k,x=.bl k/\Q k H'
theorem pt_cmpR{op:CmpOp}{r:R2}(ho:OpR X (compareOp op) r)(ha:PE X a ta)(hb:PE X b tb)(hm:behindInMarks op b=false):PT X (.Compare a [op] [b] pos) (rY (tOp r ta tb)):=by
 intro pins s σ H Q I h
 refine wpAny_isTrue_Compare1 (thn (ha pins s σ H _ I h) λv s1 ⟨x,H1,I1,r1,q1⟩=>thn (hb pins s1 σ H1 _ I1 q1) λu s2 ⟨y,H2,I2,r2,q2⟩=>
  thn (ho pins s2 σ H2 x y v u _ I2 r1 r2 q2) λc s3 ⟨z,H3,I3,r3,k,e,q3⟩=>?_) hm
 subst e
 cases r3
 exact ϴ ⟨H3,I3,q3⟩
def vA(r r':R2)(ta tb tc:TE):TE:=λσ H Q=>ta σ H λx H1=>tb σ H1 λy H2=>r x y H2 λz H3=>∃k,z=.bl k /\
 (if k=true then tc σ H3 λw' H4=>r' y w' H4 Q else Q (.bl false) H3)
theorem pe_chain{op op':CmpOp}{r r':R2}(ho:OpR X (compareOp op) r)(ho':OpR X (compareOp op') r')(ha:PE X a ta)(hb:PE X b tb)(hc:PE X c tc)
  (hm:lastMarks [op,op'] [b,c]=false:=by with_unfolding_all rfl):PE X (.Compare a [op,op'] [b,c] pos) (vA r r' ta tb tc):=by
 intro pins s σ H Q I h
 refine Compare_chain (thn (ha pins s σ H _ I h) λv s1 ⟨x,H1,I1,r1,q1⟩=>chain_link (thn (hb pins s1 σ H1 _ I1 q1) λu s2 ⟨y,H2,I2,r2,q2⟩=>
  thn (ho pins s2 σ H2 x y v u _ I2 r1 r2 q2) λd s3 ⟨z,H3,I3,r3,k,e,q3⟩=>?_)) hm
 subst e
 cases r3
 refine ϴ ?_
 cases k with
 |false=>exact ite_ff ⟨.bl false,H3,I3,rfl,q3⟩
 |true=>exact ite_tt (chain_last (thn (hc pins s3 σ H3 _ I3 q3) λw' s4 ⟨z',H4,I4,r4,q4⟩=>ho' pins s4 σ H4 y z' u w' Q I4 r2 r4 q4))
theorem pt_chain{op op':CmpOp}{r r':R2}(ho:OpR X (compareOp op) r)(ho':OpR X (compareOp op') r')(ha:PE X a ta)(hb:PE X b tb)(hc:PE X c tc)
  (hm:lastMarks [op,op'] [b,c]=false:=by with_unfolding_all rfl):PT X (.Compare a [op,op'] [b,c] pos) (rY (vA r r' ta tb tc)):=by
 intro pins s σ H Q I h
 refine isTrue_chain (thn (ha pins s σ H _ I h) λv s1 ⟨x,H1,I1,r1,q1⟩=>test_link (thn (hb pins s1 σ H1 _ I1 q1) λu s2 ⟨y,H2,I2,r2,q2⟩=>
  thn (ho pins s2 σ H2 x y v u _ I2 r1 r2 q2) λd s3 ⟨z,H3,I3,r3,k,e,q3⟩=>?_)) hm
 subst e
 cases r3
 refine ϴ ?_
 cases k with
 |false=>
  obtain⟨k',e',q'⟩:=q3
  cases e'
  exact ite_ff ⟨H3,I3,q'⟩
 |true=>
  refine ite_tt (test_last (thn (hc pins s3 σ H3 _ I3 q3) λw' s4 ⟨z',H4,I4,r4,q4⟩=>thn (ho' pins s4 σ H4 y z' u w' _ I4 r2 r4 q4) λd' s5 ⟨z2,H5,I5,r5,k2,e2,q5⟩=>?_))
  subst e2
  cases r5
  exact ϴ ⟨H5,I5,q5⟩
def wm(K:ζ)(x:V)(H:Hp)(k:Bool):Prop:=
 match x with
 |.non=>k=false
 |.bl b=>k=b
 |.int i=>k=(i != 0)
 |.str y=>y.length<=sizeLine/\k=((y.length:Int) != 0)
 |.byt y=>y.size<=sizeLine/\k=((y.size:Int) != 0)
 |.ref p=>(∃xs,SqL K H p xs/\k=!xs.isEmpty)\/(∃xs,SqT K H p xs/\k=!xs.isEmpty)\/∃kvs,H p=some (.dK kvs)/\k=!kvs.isEmpty
 |_=>False
theorem pC{κ:Type}{kvs:List (κ×V)}{vs:List (κ×δ)}(r:KV kvs vs):(!vs.isEmpty)=!kvs.isEmpty:=by
 cases r<;>rfl
theorem jN{xs:List V}{its:List δ}(r:aD xs its):(!its.toArray.isEmpty)=!xs.isEmpty:=by
 cases r<;>simp
theorem fh:(sizeLine:Nat)<2^63:=by rw[ι];decide
theorem zk:AH X (λx H Q=>∃k,wm X.K x H k/\Q k H):=by
 intro pins s σ H x v Q I rx h
 obtain⟨k,e,q⟩:=h
 have hl:=fh
 have hs:sizeLine=16777216:=ι
 cases x with
 |non=>
  cases rx
  have e':k=false:=e
  subst e'
  exact truthy_none ⟨H,I,q⟩
 |bl b=>
  cases rx
  have e':k=b:=e
  subst e'
  exact ϴ ⟨H,I,q⟩
 |int i=>
  obtain⟨t,rfl⟩:=rx
  have e':k=(i != 0):=e
  subst e'
  exact PySem.P.truthy_int ⟨H,I,q⟩
 |str y=>
  obtain⟨t,rfl⟩:=rx
  obtain⟨hy,e'⟩:y.length<=sizeLine/\k=((y.length:Int) != 0):=e
  subst e'
  exact PySem.P.truthy_str () ⟨H,I.tok _,q⟩
 |byt y=>
  obtain⟨t,rfl⟩:=rx
  obtain⟨hy,e'⟩:y.size<=sizeLine/\k=((y.size:Int) != 0):=e
  subst e'
  exact PySem.W.truthy_bytes () ⟨H,I.tok _,q⟩
 |ref p=>
  cases rx
  have e':(∃xs,SqL X.K H p xs/\k=!xs.isEmpty)\/(∃xs,SqT X.K H p xs/\k=!xs.isEmpty)\/∃kvs,H p=some (.dK kvs)/\k=!kvs.isEmpty:=e
  rcases e' with ⟨xs,hx,e'⟩|⟨xs,hx,e'⟩|⟨kvs,hx,e'⟩
  ·subst e'
   obtain⟨its,r,pl,hz⟩:=I.list hx
   have hlen:=r.length
   exact wpAny_truthy_list pl.isList (by simp only[Α];omega) ⟨H,I.tok _,by rw[jN r];exact q⟩
  ·subst e'
   obtain⟨its,r,pl,hz⟩:=I.tuple hx
   have hlen:=r.length
   exact truthy_tuple pl (by simp only[Α];omega) ⟨H,I.tok _,by rw[jN r];exact q⟩
  ·subst e'
   obtain⟨hz,hS,vs,r,m⟩:kvs.length<=sizeLine/\(p==sysModules)=false/\∃vs,KV kvs vs/\s.heap.DictOf (aP X.prog X.w) p vs:=I.hok p _ hx
   have hlen:kvs.length=vs.length:=Paired.length r
   exact wpAny_truthy_dict hS m () ⟨H,I.tok _,by rw[pC r];exact q⟩
 |_=>exact(show False from e).elim
theorem pt_truth(ha:PE X a ta)(he:∀whole,isTrue a X.env whole=(do let v <-whole;standAt a.pos;holding [v] (truthy v))):
  PT X a (λσ H Q=>ta σ H λx H'=>∃k,wm X.K x H' k/\Q k H'):=by
 intro pins s σ H Q I h
 exact isTrue_plain (thn (ha pins s σ H _ I h) λv s1 ⟨x,H1,I1,r1,q1⟩=>zk pins s1 σ H1 x v Q I1 r1 q1) (he _)
theorem ax:OpR X (binaryOp .Add) (λx y H Q=>∃i j,x=.str i/\y=.str j/\i.length+j.length<=sizeLine/\Q (.str (i++j)) H):=by
 intro pins s σ H x y v u Q I rx ry h
 obtain⟨i,j,rfl,rfl,hz,q⟩:=h
 obtain⟨t,rfl⟩:=rx
 obtain⟨t',rfl⟩:=ry
 exact add_str (λt' tk=>⟨.str (i++j),H,I.tok _,⟨_,rfl⟩,q⟩) hz
theorem dG{x:V}{us:List δ}(r:aD [x] us):∃u,us=[u]/\aH x u:=by
 cases r with
 |cons r1 r2=>cases r2;exact⟨_,rfl,r1⟩
theorem nh{x y:V}{us:List δ}(r:aD [x,y] us):∃u w',us=[u,w']/\aH x u/\aH y w':=by
 cases r with
 |cons r1 r2=>
  cases r2 with
  |cons r3 r4=>cases r4;exact⟨_,_,rfl,r1,r3⟩
theorem tJ(hc:X.calm=true):cS X (.builtin "max") (λxs H Q=>∃i j,xs=[.int i,.int j]/\Q (.int (if j>i then j else i)) H):=by
 intro pins s σ H xs us Q I r h
 obtain⟨i,j,rfl,q⟩:=h
 obtain⟨u,w',rfl,⟨t,rfl⟩,⟨t',rfl⟩⟩:=nh r
 refine max_two_ints (I.ok.hd hc) λh' tk k=>⟨_,H,I.kept k,?_,q⟩
 by_cases hj:j>i
 ·rw[Q5 hj,Q5 hj];exact⟨_,rfl⟩
 ·rw[Q6 hj,Q6 hj];exact⟨_,rfl⟩
theorem tz(hc:X.calm=true):cS X (.builtin "min") (λxs H Q=>∃i j,xs=[.int i,.int j]/\Q (.int (if j<i then j else i)) H):=by
 intro pins s σ H xs us Q I r h
 obtain⟨i,j,rfl,q⟩:=h
 obtain⟨u,w',rfl,⟨t,rfl⟩,⟨t',rfl⟩⟩:=nh r
 refine min_two_ints (I.ok.hd hc) λh' tk k=>⟨_,H,I.kept k,?_,q⟩
 by_cases hj:j<i
 ·rw[Q5 hj,Q5 hj];exact⟨_,rfl⟩
 ·rw[Q6 hj,Q6 hj];exact⟨_,rfl⟩
theorem sO:cS X (.type "int") (λxs H Q=>(∃i,xs=[.int i]/\Q (.int i) H)\/∃k,xs=[.bl k]/\Q (.int (if k then 1 else 0)) H):=by
 intro pins s σ H xs us Q I r h
 rcases h with ⟨i,rfl,q⟩|⟨k,rfl,q⟩
 ·obtain⟨u,rfl,t,rfl⟩:=dG r
  exact call_int_int ⟨.int i,H,I,⟨_,rfl⟩,q⟩
 ·obtain⟨u,rfl,r1⟩:=dG r
  cases r1
  exact call_int_bool ⟨.int (if k then 1 else 0),H,I.tok _,⟨_,rfl⟩,q⟩
theorem bL:cS X (.type "str") (λxs H Q=>∃i,xs=[.int i]/\i.natAbs.log2<1920/\Q (.str (toString i)) H):=by
 intro pins s σ H xs us Q I r h
 obtain⟨i,rfl,hz,q⟩:=h
 obtain⟨u,rfl,t,rfl⟩:=dG r
 exact PySem.P.str_of_int hz ⟨.str _,H,I.tok _,⟨_,rfl⟩,q⟩
end
structure pJ(h:Heap)(x dx C:Addr)(mA:Str->Option δ):Prop where
 obj:h.get? x=some (j3 C dx)
 ns:h.Ns1 dx mA
 ne:dx≠x
theorem sN{h:Heap}{dx:Addr}{mA:Str->Option δ}(n:h.Ns1 dx mA):∃od,h.get? dx=some od/\∀name,B8 name od=some (mA name):=by
 obtain⟨o,es,ep,ho,hd,hk,_,hm⟩:=n
 refine⟨o,ho,λname=>?_⟩
 have e:=hm name
 unfold nsFind findBy at e
 rw[<-Array.find?_toList]at e
 unfold B8
 rw[hd]
 dsimp only
 split
 ·rename_i y q
  rw[q]at e
  exact congrArg some e
 ·rename_i q
  rw[q]at e
  have a:es.toList.any (·.refKey)=false:=by
   rw[Cr]
   intro y hy
   obtain⟨z,t,hkey⟩:=hk y (Array.mem_toList_iff.mp hy)
   simp[BJ.refKey,hkey]
  have a':¬ es.toList.any (·.refKey)=true:=by rw[a];exact Κ
  rw[Q6 a']
  exact congrArg some e
theorem pJ.look{h:Heap}{x dx C:Addr}{mA:Str->Option δ}(I:pJ h x dx C mA):∃od,PySem.W.InstAt h x (j3 C dx) C (some od)/\∀name,B8 name od=some (mA name):=
 let ⟨od,ho,hl⟩:=sN I.ns
 ⟨od,⟨I.obj,rfl,rfl,ho⟩,hl⟩
section
variable{prog:υ}{w:Μ}{A:Ρ}{E:δ->θ->Prop}{s:θ}{K:ζ}{x dx C f:Addr}{mA:Str->Option δ}{name:Str}{v:δ}
theorem wj{expr:Bool}{Q:δ->θ->Prop}(X:K.In s.heap)(I:pJ s.heap x dx C mA)(hg:z_ K C name=true)(hh:BA K C=true)
  (ha:ϝ K (.ref C) name=some none) (hv:mA name=some v) (hv':PySem.W.handedIn v=true) (h:Q v {s with toks:=s.toks+1}):
  wpAny (model prog w) A (getAttr (.ref x) name expr) Q E s:=by
 obtain⟨od,J,hl⟩:=I.look
 exact PySem.W.get_value X J (BZ hg).1 (PySem.W.findObj_own hh ha rfl (by rw[hl,hv])) hv' h
theorem uw{pl:Sem Bool}{Q:δ×List δ->θ->Prop}(X:K.In s.heap)(I:pJ s.heap x dx C mA)(hg:z_ K C name=true)
  (hf:ϝ K (.ref C) name=some (some (.ref f))) (ht:A0 K (.ref f)=true) (hv:mA name=none) (h:Q (.ref f,[.ref x]) s):
  wpAny (model prog w) A (getMethod (.ref x) name pl) Q E s:=by
 obtain⟨od,J,hl⟩:=I.look
 exact PySem.W.method_fn X J (BZ hg).1 (BZ hg).2 hf (beq_iff_eq.mp ht) (by show(B8 name od).map (·.isSome)=some false;rw[hl,hv];rfl) h
theorem xA{ns:List Str}{Q:Unit->θ->Prop}(X:K.In s.heap)(I:pJ s.heap x dx C mA)
  (hs:ϝ K (.ref C) "__setattr__"=some (some (.builtin "object.__setattr__"))) (hp:Cs K C=true) (ht:CJ K C name=some none) (hh:BA K C=true)
  (hw:CG mA ns) (hsz:ns.length<=sizeLine)
  (h:∀h',pJ h' x dx C (λy=>if y=name then some v else mA y)->y_ dx s.heap h'->Q Unit.unit {s with heap:=h',toks:=s.toks+2}):
  wpAny (model prog w) A (setAttr (.ref x) name v) Q E s:=by
 obtain⟨od,J,hl⟩:=I.look
 refine PySem.W.set_plain X J hs (PySem.W.osa_open (s:={s with toks:=s.toks+1}) (r:=none) X J hp ht λb=>?_)
 obtain⟨cd,hc,hd'⟩:=PySem.W.any_some hh
 have hx:s.heap.get? x=some ⟨.ref C,some dx,.plain,#[]⟩:=I.obj
 refine ε (ρ (ε (ε (wpAny_loadPart hx (ε (PySem.W.Looks.here (s:={s with toks:=s.toks+1}) (PySem.W.looks_clsIn X hc) ?_))))))
 rw[hd']
 refine ρ (a:=some dx) (ε (ρ (ε ?_)))
 refine wpAny_nsSet1 (s:={s with toks:=s.toks+1}) I.ns λh' hn2 hs2=>?_
 obtain⟨oD,esD,epD,hoD,hdD,hcD⟩:=hn2.count (CG.cons name v hw)
 refine ε (wpAny_lookBehind hoD (by rw[hdD];exact pastItsLine_dict (ϲ hcD (by rw[ω];omega))) ?_)
 exact ρ (h _ ⟨(hs2.2 _ (ϒ I.ne)).trans I.obj,hn2,I.ne⟩ hs2)
theorem vN{R:C0->θ->Prop}{vs:List δ}{kw:List (Str×δ)}(X:K.In s.heap)(hm:CK K C=true)
  (hi:ϝ K (.ref C) "__init__"=some (some (.ref f))) (hf:PySem.W.typeIn K (.ref f)=some (.type "function"))
  (h:codeAny (model prog w) (A.under (.builtin "type.__call__" ⟨.ref C::vs,kw⟩)) (.call (.ref f) ⟨.ref (s.heap.objs.size+1)::vs,kw⟩) (PySem.W.InitBack (s.heap.objs.size+1) R)
   {s with heap:=(s.heap.push b_).push (j3 C s.heap.objs.size)}):
  codeAny (model prog w) A (.call (.ref C) ⟨vs,kw⟩) R s:=by
 obtain⟨hh,g,d,t,os⟩:=s
 exact PySem.W.make_core (PySem.W.makes_of X hm) (PySem.W.looks_findIn X hi) (λself=>PySem.W.bind_fn X self hf) (.inl rfl) h
end
def dg(f:Str)(v:V):List (Str×V)->List (Str×V)
 |[]=>[(f,v)]
 |(g,x)::r=>if g=f then (g,v)::r else (g,x)::dg f v r
theorem gP(f g:Str)(v:V):∀fs:List (Str×V),(dg f v fs).lookup g=if g=f then some v else fs.lookup g
 |[]=>by
  show ϩ g [(f,v)]=_
  by_cases h:g=f
  ·have hb:(g==f)=true:=beq_iff_eq.mpr h
   simp only[ϩ,hb,Q5 h]
  ·have hb:(g==f)=false:=beq_eq_false_iff_ne.mpr h
   simp only[ϩ,hb,Q6 h]
 |(k,x)::r=>by
  have ih:=gP f g v r
  rw[show dg f v ((k,x)::r)=(if k=f then (k,v)::r else (k,x)::dg f v r)from rfl]
  by_cases hk:k=f
  ·rw[Q5 hk]
   by_cases h:g=k
   ·have hb:(g==k)=true:=beq_iff_eq.mpr h
    simp only[ϩ,hb,Q5 (h.trans hk)]
   ·have hb:(g==k)=false:=beq_eq_false_iff_ne.mpr h
    simp only[ϩ,hb,Q6 (λe:g=f=>h (e.trans hk.symm))]
  ·rw[Q6 hk]
   by_cases h:g=k
   ·have hb:(g==k)=true:=beq_iff_eq.mpr h
    simp only[ϩ,hb,Q6 (λe:g=f=>hk (h.symm.trans e))]
   ·have hb:(g==k)=false:=beq_eq_false_iff_ne.mpr h
    simp only[ϩ,hb]
    exact ih
theorem gi(f:Str)(v:V):∀fs:List (Str×V),f∈(dg f v fs).map (·.1)/\∀g,g∈fs.map (·.1)->g∈(dg f v fs).map (·.1)
 |[]=>⟨by simp[dg],λg h=>by simp at h⟩
 |(k,x)::r=>by
  obtain⟨i1,i2⟩:=gi f v r
  rw[show dg f v ((k,x)::r)=(if k=f then (k,v)::r else (k,x)::dg f v r)from rfl]
  by_cases hk:k=f
  ·rw[Q5 hk]
   subst hk
   exact⟨(),λg h=>by simpa using h⟩
  ·rw[Q6 hk]
   refine⟨?_,λg h=>?_⟩
   ·rw[Ο]
    exact χ _ i1
   ·rw[Ο]at h⊢
    rcases ν.mp h with e|e
    ·exact ν.mpr (.inl e)
    ·exact χ _ (i2 g e)
theorem gF(f:Str)(v:V):∀fs:List (Str×V),(dg f v fs).length<=fs.length+1
 |[]=>by simp[dg]
 |(k,x)::r=>by
  have ih:=gF f v r
  rw[show dg f v ((k,x)::r)=(if k=f then (k,v)::r else (k,x)::dg f v r)from rfl]
  by_cases hk:k=f
  ·rw[Q5 hk,ω,ω];omega
  ·rw[Q6 hk,ω,ω];omega
theorem gy.some_of{v:V}{o:Option δ}(r:gy (some v) o):∃u,o=some u/\aH v u:=by
 cases o with
 |none=>exact(show False from r).elim
 |some u=>exact⟨u,rfl,r⟩
theorem gy.none_of{o:Option δ}(r:gy none o):o=none:=by
 cases o with
 |none=>rfl
 |some u=>exact(show False from r).elim
theorem sX{v:V}{u:δ}(r:aH v u):PySem.W.handedIn u=true:=by
 cases v with
 |non=>cases(show u=u7 from r);rfl
 |bl b=>cases(show u=CZ b from r);rfl
 |int i=>obtain⟨t,e⟩:=(show ∃t,u=s_ i t from r);cases e;rfl
 |str x=>obtain⟨t,e⟩:=(show ∃t,u=i7 x t from r);cases e;rfl
 |byt b=>obtain⟨t,e⟩:=(show ∃t,u=δ.bytes b t from r);cases e;rfl
 |flt b=>obtain⟨t,e⟩:=(show ∃t,u=δ.float b t from r);cases e;rfl
 |ref a=>cases(show u=Τ a from r);rfl
 |ty n=>cases(show u=B6 n from r);rfl
section
variable{P:υ}{w:Μ}{H H':Hp}{h h':Heap}{a C dx:Addr}{fs fs':List (Str×V)}
theorem ic(hok:HOk P w H h)(e:H a=some (.ins C dx fs)):∃mA,pJ h a dx C mA/\(∀f,gy (fs.lookup f) (mA f))/\CG mA (fs.map (·.1))/\fs.length<=1000/\H dx=some (.own a):=by
 obtain⟨d,z,ne,ob,mA,n,r,q⟩:=(show aX P w H h a (.ins C dx fs)from hok a _ e)
 exact⟨mA,⟨ob,n,ne⟩,r,q,z,d⟩
end
structure Cls(K:ζ)(C:Addr):Prop where
 pg:z_ K C Cz=true
 hd:BA K C=true
 po:Cs K C=true
 sa:ϝ K (.ref C) "__setattr__"=some (some (.builtin "object.__setattr__"))
theorem Cls.get{K:ζ}{C:Addr}(c:Cls K C)(f:Str):z_ K C f=true:=c.pg
def cf(K:ζ)(C:Addr)(f:Str):Prop:=ϝ K (.ref C) f=some none
theorem cf.taker{K:ζ}{C:Addr}{f:Str}(n:cf K C f):CJ K C f=some none:=by
 unfold CJ
 rw[show ϝ K (.ref C) f=some none from n]
 rfl
structure pQ(K:ζ)(C:Addr)(m:Str)(f:Addr):Prop where
 at_:ϝ K (.ref C) m=some (some (.ref f))
 fn:A0 K (.ref f)=true
 kp:Ϟ K (.ref f)=true
section
variable{X:Cx}{pins:List (Addr×Obj)}{σ:St}{H:Hp}{s:θ}{a C dx:Addr}{fs:List (Str×V)}{f:Str}{v:V}{A:Ρ}{E:δ->θ->Prop}
theorem iH{b:Bool}{Q:δ->θ->Prop}(I:Inv X pins σ H s)(e:H a=some (.ins C dx fs))(c:Cls X.K C)(n:cf X.K C f)(l:fs.lookup f=some v)
  (h:∀u s',Inv X pins σ H s'->aH v u->Q u s'):wpAny (model X.prog X.w) A (getAttr (.ref a) f b) Q E s:=by
 obtain⟨mA,O,r,_,_,_⟩:=ic I.hok e
 obtain⟨u,hu,ru⟩:=gy.some_of (v:=v) (o:=mA f) (by rw[<-l];exact r f)
 exact wj I.kIn O (c.get f) c.hd n hu (sX ru) (h u _ (I.tok _) ru)
theorem iG{m:Str}{g:Addr}{pl:Sem Bool}{Q:δ×List δ->θ->Prop}(I:Inv X pins σ H s)(e:H a=some (.ins C dx fs))(c:Cls X.K C)(k:pQ X.K C m g)(l:fs.lookup m=none)
  (h:Q (.ref g,[.ref a]) s):wpAny (model X.prog X.w) A (getMethod (.ref a) m pl) Q E s:=by
 obtain⟨mA,O,r,_,_,_⟩:=ic I.hok e
 have hn:mA m=none:=gy.none_of (by rw[<-l];exact r m)
 exact uw I.kIn O (c.get m) k.at_ k.fn hn h
theorem iz{y:V}{u:δ}{Q:Unit->θ->Prop}(I:Inv X pins σ H s)(e:H a=some (.ins C dx fs))(c:Cls X.K C)(n:cf X.K C f)(hl:fs.length<1000)(ry:aH y u)
  (h:∀s',Inv X pins σ (upd H a (.ins C dx (dg f y fs))) s'->Q Unit.unit s'):wpAny (model X.prog X.w) A (setAttr (.ref a) f u) Q E s:=by
 obtain⟨mA,O,r,wi,_,ho⟩:=ic I.hok e
 have hz:(fs.map (·.1)).length<=sizeLine:=by rw[η,ι];omega
 refine xA I.kIn O c.sa c.po n.taker c.hd wi hz λh' O' sb=>h _ ?_
 have hd:∃o,h'.get? dx=some o:=let ⟨o,_,_,e',_⟩:=O'.ns;⟨o,e'⟩
 refine I.write (x:=a) (e:=dx) (by rw[e];exact u9) (.inr ho) (λb q hb z=>(sb.2 b hb).trans z) hd ?_
 refine⟨by rw[aq O.ne];exact ho,?_,O.ne,O'.obj,_,O'.ns,λg=>?_,λg hg=>?_⟩
 ·have:=gF f y fs;omega
 ·show gy ((dg f y fs).lookup g) (if g=f then some u else mA g)
  rw[gP]
  by_cases q:g=f
  ·rw[Q5 q,Q5 q];exact ry
  ·rw[Q6 q,Q6 q];exact r g
 ·by_cases q:g=f
  ·rw[q];exact(gi f y fs).1
  ·refine(gi f y fs).2 g (wi g λz=>hg ?_)
   show(if g=f then some u else mA g)=none
   rw[Q6 q];exact z
theorem Inv.made(I:Inv X pins σ H s):Inv X pins σ (upd (upd H s.heap.objs.size (.own (s.heap.objs.size+1))) (s.heap.objs.size+1) (.ins C s.heap.objs.size []))
  {s with heap:=(s.heap.push b_).push (j3 C s.heap.objs.size)}:=by
 have e1:(s.heap.push b_).get? s.heap.objs.size=some b_:=Δ s.heap rfl
 have e2:((s.heap.push b_).push (j3 C s.heap.objs.size)).get? (s.heap.objs.size+1)=some (j3 C s.heap.objs.size):=by
  have:=Δ (s.heap.push b_) (o:=j3 C s.heap.objs.size) rfl
  rwa[d_]at this
 have e3:(s.heap.push b_).Ns s.heap.objs.size (λ_=>none):=⟨b_,#[],_,e1,rfl,(λe he=>absurd he ()),λ_=>rfl⟩
 have I1:=I.laid (a:=s.heap.objs.size) (o:=.own (s.heap.objs.size+1)) (h':=s.heap.push b_) (t':=s.toks) (λb u q=>ο _ q) (π _) ⟨_,e1⟩
 refine I1.laid (a:=s.heap.objs.size+1) (o:=.ins C s.heap.objs.size []) (t':=s.toks) (λb u q=>ο _ q) (Nat.le_of_eq (d_ _ _)) ?_
 have ne:s.heap.objs.size≠s.heap.objs.size+1:=Ϛ (BK _)
 refine⟨by rw[aq ne,aa],Υ _,ne,e2,λ_=>none,(Heap.Ns1.of_empty e3).at λo q=>ο _ q,λ_=>u9,λy hy=>absurd rfl hy⟩
theorem xo{prog:υ}{w:Μ}{env:Env}{e:Expr}{f:Str}{pos:Pos}{s:θ}{Q:δ->θ->Prop}(hb:attributeBase e f env (eval e env)=eval e env)
  (h:wpAny (model prog w) A (eval e env) (λo s₁=>wpAny (model prog w) A (getAttr o f true) Q E s₁) E s):wpAny (model prog w) A (eval (.Attribute e f pos) env) Q E s:=
 Attribute_any_ h (by rw[arm_eval_Attribute,hb])
end
def AQ(K:ζ)(ta:TE)(f:Str):TE:=λσ H Q=>ta σ H λx H1=>∃a C dx fs v,x=.ref a/\H1 a=some (.ins C dx fs)/\Cls K C/\cf K C f/\fs.lookup f=some v/\Q v H1
def AR(K:ζ)(ta tv:TE)(f:Str):TS:=λD σ H=>tv σ H λy H1=>ta σ H1 λx H2=>∃a C dx fs,x=.ref a/\H2 a=some (.ins C dx fs)/\Cls K C/\cf K C f/\fs.length<1000 /\
 D.nx σ (upd H2 a (.ins C dx (dg f y fs)))
def Ae(X:Cx)(op:C2)(rd:V->V->Hp->VK->Prop):Prop:=
 ∀(pins:List (Addr×Obj))(s:θ)(σ:St)(H:Hp)(x y:V)(u v:δ)(Q:VK),Inv X pins σ H s->aH x u->aH y v->rd x y H Q->wpAny (model X.prog X.w) X.A (inplaceOp op u v) (EP X pins σ Q) X.xe s
def xg(K:ζ)(ta tv:TE)(rd:V->V->Hp->VK->Prop)(f:Str):TS:=λD σ H=>ta σ H λx H1=>∃a C dx fs v,x=.ref a/\H1 a=some (.ins C dx fs)/\Cls K C/\cf K C f/\fs.lookup f=some v /\
 tv σ H1 λy H2=>rd v y H2 λz H3=>∃dx' fs',H3 a=some (.ins C dx' fs')/\fs'.length<1000/\D.nx σ (upd H3 a (.ins C dx' (dg f z fs')))
section
variable{X:Cx}{o e value:Expr}{f:Str}{pos pos' tpos:Pos}{ta tv:TE}
theorem pe_fld(he:PE X e ta)(hb:attributeBase e f X.env (eval e X.env)=eval e X.env):PE X (.Attribute e f pos) (AQ X.K ta f):=by
 intro pins s σ H Q I h
 refine xo hb (thn (he pins s σ H _ I h) λu s1 ⟨x,H1,I1,rx,a,C,dx,fs,v,ex,ea,c,n,l,q⟩=>?_)
 subst ex
 obtain rfl:u=Τ a:=rx
 exact iH I1 ea c n l λu' s2 I2 ru=>⟨v,H1,I2,ru,q⟩
theorem ps_fld(ha:PE X o ta)(hv:PE X value tv)(hs:swapsWith value (some (.Attribute o f pos')) pos.line X.env=pure false):PS X (.Assign [.Attribute o f pos'] value pos) (AR X.K ta tv f):=by
 intro pins s σ H D I h
 refine plainObj_wpAny_Assign_Attribute (thn (hv pins s σ H _ I h) λu s1 ⟨y,H1,I1,ry,q⟩=>thn (ha pins s1 σ H1 _ I1 q) λov s2 ⟨x,H2,I2,rx,a,C,dx,fs,ex,ea,c,n,l,q2⟩=>?_) hs
 subst ex
 obtain rfl:ov=Τ a:=rx
 exact iz I2 ea c n l ry λs3 I3=>⟨σ,_,I3,q2⟩
theorem ps_fldaug{op:C2}{rd:V->V->Hp->VK->Prop}(ha:PE X o ta)(hv:PE X value tv)(hop:Ae X op rd):PS X (.AugAssign (.Attribute o f tpos) op value pos) (xg X.K ta tv rd f):=by
 intro pins s σ H D I h
 refine wpAny_AugAssign_AttributeAny (thn (ha pins s σ H _ I h) λov s1 ⟨x,H1,I1,rx,a,C,dx,fs,v,ex,ea,c,n,l,q⟩=>?_)
 subst ex
 obtain rfl:ov=Τ a:=rx
 refine iH I1 ea c n l λu s2 I2 ru=>thn (hv pins s2 σ H1 _ I2 q) λw3 s3 ⟨y,H2,I3,ry,q3⟩=>thn (hop pins s3 σ H2 v y u w3 _ I3 ru ry q3) λw4 s4 ⟨z,H3,I4,rz,dx',fs',ea',l',q4⟩=>?_
 exact iz I4 ea' c n l' rz λs5 I5=>⟨σ,_,I5,q4⟩
def AX:V->V->Hp->VK->Prop:=λx y H Q=>∃i j,x=.int i/\y=.int j/\Q (.int (i+j)) H
theorem uE:Ae X .Add AX:=by
 rintro pins s σ H x y u v Q I rx ry ⟨i,j,rfl,rfl,q⟩
 obtain⟨t,rfl⟩:=(show ∃t,u=s_ i t from rx)
 obtain⟨t',rfl⟩:=(show ∃t',v=s_ j t' from ry)
 exact PyProof.Rows.iadd_int ⟨.int (i+j),H,I.tok _,⟨_,rfl⟩,q⟩
end
section
variable{X:Cx}{pins:List (Addr×Obj)}{σ:St}{H:Hp}{s:θ}{A:Ρ}{E:δ->θ->Prop}{Q:δ->θ->Prop}{c:δ}{b:Bool}
inductive cU (K:ζ) (H:Hp):V->δ->Prop where
 |non:cU K H .non (.type "NoneType")
 |bl (x:Bool):cU K H (.bl x) (.type "bool")
 |int (i:Int):cU K H (.int i) (.type "int")
 |str (x:Str):cU K H (.str x) (.type "str")
 |flt (x:UInt64):cU K H (.flt x) (.type "float")
 |lst {a:Addr} {xs:List V} (e:H a=some (.lst xs)):cU K H (.ref a) (.type "list")
 |frz {a:Addr} {o:Obj} {xs:List V} (e:H a=some (.frz o (.lst xs))):cU K H (.ref a) (.type "list")
 |tup {a:Addr} {xs:List V} (e:H a=some (.tup xs)):cU K H (.ref a) (.type "tuple")
 |dK {a:Addr} {kvs:List (Key×V)} (e:H a=some (.dK kvs)):cU K H (.ref a) (.type "dict")
 |dT {a:Addr} {kvs:List (List Key×V)} (e:H a=some (.dT kvs)):cU K H (.ref a) (.type "dict")
 |ins {a C dx:Addr} {fs:List (Str×V)} (e:H a=some (.ins C dx fs)) (cl:Cls K C) (ha:ϝ K (.ref C) "__class__"=some (some (.builtin "object.__class__")))
   (hn:PySem.W.specialIn K (.builtin "object.__class__") "__get__"=some (some (.builtin "getset_descriptor.__get__"))) (htk:PySem.W.takesIn K (.builtin "object.__class__")=some true)
   (hm:PySem.W.mroIn K C (.type "object")=some true):cU K H (.ref a) (.ref C)
theorem tQ{x:V}{u t:δ}(I:Inv X pins σ H s)(rx:aH x u)(ty:cU X.K H x t)(e:f_ X.K t c=some b)(h:∀tk,Q (.bool b) {s with toks:=tk}):
  wpAny (model X.prog X.w) A (call (.builtin "isinstance") [u,c]) Q E s:=by
 cases ty with
 |non=>cases(show u=u7 from rx);exact Ϸ PySem.W.kitx_none I.kIn u9 e (λz=>nomatch z) h
 |bl y=>cases(show u=CZ y from rx);exact Ϸ PySem.W.kitx_bool I.kIn u9 e (λz=>nomatch z) h
 |int i=>obtain⟨t,q⟩:=(show ∃t,u=s_ i t from rx);cases q;exact Ϸ PySem.W.kitx_int I.kIn u9 e (λz=>nomatch z) h
 |str y=>obtain⟨t,q⟩:=(show ∃t,u=i7 y t from rx);cases q;exact Ϸ PySem.W.kitx_str I.kIn u9 e (λz=>nomatch z) h
 |flt y=>obtain⟨t,q⟩:=(show ∃t,u=δ.float y t from rx);cases q;exact Ϸ PySem.W.kitx_float I.kIn u9 e (λz=>nomatch z) h
 | @lst a xs ea=>
  cases(show u=Τ a from rx)
  obtain⟨_,_,n,_,h1⟩:=(show aX X.prog X.w H s.heap a (.lst xs)from I.hok a _ ea)
  exact Ϸ PySem.W.kitx_list I.kIn ⟨_,h1,rfl⟩ e (λz=>nomatch z) h
 | @frz a ob xs ea=>
  cases(show u=Τ a from rx)
  obtain⟨_,_,_,n,_,h1⟩:=(show aX X.prog X.w H s.heap a (.frz ob (.lst xs))from I.hok a _ ea)
  exact Ϸ PySem.W.kitx_list I.kIn ⟨_,h1,rfl⟩ e (λz=>nomatch z) h
 | @tup a xs ea=>
  cases(show u=Τ a from rx)
  obtain⟨_,_,_,p⟩:=(show aX X.prog X.w H s.heap a (.tup xs)from I.hok a _ ea)
  obtain⟨⟨o,h1,h2,_⟩,_⟩:=p
  exact Ϸ PySem.W.kitx_tuple I.kIn ⟨o,h1,h2⟩ e (λz=>nomatch z) h
 | @dK a kvs ea=>
  cases(show u=Τ a from rx)
  obtain⟨_,_,vs,_,p⟩:=(show aX X.prog X.w H s.heap a (.dK kvs)from I.hok a _ ea)
  obtain⟨o,es,ep,h1,h2,_⟩:=p
  exact Ϸ PySem.W.kitx_dict I.kIn ⟨o,h1,h2.1⟩ e (λz=>nomatch z) h
 | @dT a kvs ea=>
  cases(show u=Τ a from rx)
  obtain⟨_,_,xs,_,o,es,ep,h1,h2,_⟩:=(show aX X.prog X.w H s.heap a (.dT kvs)from I.hok a _ ea)
  exact Ϸ PySem.W.kitx_dict I.kIn ⟨o,h1,h2.1⟩ e (λz=>nomatch z) h
 | @ins a C dx fs ea cl ha hn htk hm=>
  cases(show u=Τ a from rx)
  obtain⟨mA,O,_⟩:=ic I.hok ea
  obtain⟨od,J,_⟩:=O.look
  exact Ϸ (PySem.W.kitx_own (cl.get _) cl.hd ha hn htk hm) I.kIn J e (λz=>nomatch z) h
end
structure bK(k:Nat)(A:Ρ):Prop where
 hd:A.handled=none
 dp:A.depth+3*k+5<recursionLimit
 un:A.units+16*k+200<cLine
theorem bK.mono{j k:Nat}{A:Ρ}(r:bK k A)(h:j<=k):bK j A:=⟨r.hd,by have:=r.dp;omega,by have:=r.un;omega⟩
theorem bK.deeper{k:Nat}{A:Ρ}(r:bK (k+1) A)(env:Env):bK k (A.deeper env):=
 ⟨r.hd,by have:=r.dp;show A.depth+1+3*k+5<_;omega,by have:=r.un;show A.units+3+16*k+200<_;omega⟩
theorem qv{A:Ρ}{C:Addr}{us:List δ}{kw:List (Str×δ)}:(A.under (.builtin "type.__call__" ⟨.ref C::us,kw⟩)).depth=A.depth+1:=by
 first|rfl|simp[Ρ.under,Code.weight,Code.isCreation,Code.isGuard,Code.isCaller,Code.frames,Code.isFrame,guardIds]
theorem qD{A:Ρ}{C:Addr}{us:List δ}{kw:List (Str×δ)}:(A.under (.builtin "type.__call__" ⟨.ref C::us,kw⟩)).units=A.units+1:=by
 first|rfl|simp[Ρ.under,Code.cUnits,Code.frames,Code.isFrame]
theorem bK.make{k:Nat}{A:Ρ}(r:bK (k+1) A)(C:Addr)(us:List δ)(kw:List (Str×δ)):bK k (A.under (.builtin "type.__call__" ⟨.ref C::us,kw⟩)):=
 ⟨r.hd,by have:=r.dp;rw[qv];omega,by have:=r.un;rw[qD];omega⟩
theorem bK.depth{k:Nat}{A:Ρ}(r:bK k A):A.depth<recursionLimit:=by have:=r.dp;omega
theorem bK.units{k:Nat}{A:Ρ}(r:bK k A):A.units+64<cLine:=by have:=r.un;omega
def nt:TA:=λ_ H Q=>Q [] H
def mT(ta:TE)(tr:TA):TA:=λσ H Q=>ta σ H λx H1=>tr σ H1 λxs H2=>Q (x::xs) H2
section
variable{X:Cx}{e:Expr}{es:List Expr}{te:TE}{t:TA}{pos:Pos}
theorem pa_nil:PA X [] nt:=λ_ _ _ _ H Q I h=>Calls.spliced_nil ⟨[],H,I,.nil,h⟩
theorem pa_cons(ha:PE X e te)(hr:PA X es t)(hs:starEach (e::es) X.env=(false,eval e X.env)::starEach es X.env:=by rfl):PA X (e::es) (mT te t):=by
 intro pos pins s σ H Q I h
 rw[hs]
 show wpAny _ _ (spliced ((false,eval e X.env)::backTo pos (starEach es X.env))) _ _ s
 refine Calls.spliced_cons (thn (ha pins s σ H _ I h) λu s1 ⟨x,H1,I1,r1,q1⟩=>?_)
 exact thn (hr pos pins s1 σ H1 _ I1 q1) λus s2 ⟨xs,H2,I2,r2,q2⟩=>⟨x::xs,H2,I2,.cons r1 r2,q2⟩
def AT(t:TA):TE:=λσ H Q=>t σ H λxs H1=>xs.length<=sizeLine/\∀p,H1 p=none->Q (.ref p) (upd H1 p (.tup xs))
def AE(t:TA):TE:=λσ H Q=>t σ H λxs H1=>xs.length<=sizeLine/\∀p,H1 p=none->Q (.ref p) (upd H1 p (.lst xs))
theorem pe_tup{x1}(h:PA X es t):PE X (.Tuple es x1 pos) (AT t):=by
 intro pins s σ H Q I hq
 refine wpAny_Tuple_spliced (thn (h pos pins s σ H _ I hq) λus s1 ⟨xs,H1,I1,r,z,q⟩=>⟨by rw[<-r.length];exact z,?_⟩)
 have hf:H1 s1.heap.objs.size=none:=I1.hok.fresh (π _)
 refine⟨.ref s1.heap.objs.size,upd H1 s1.heap.objs.size (.tup xs),I1.laid (t':=s1.toks) (λb u e=>ο _ e) (π _) ?_,rfl,q _ hf⟩
 exact⟨z,us,r,⟨_,Δ _ rfl,rfl,_,rfl⟩,NoD.new _ rfl⟩
theorem pe_lst(h:PA X es t):PE X (.List es pos) (AE t):=by
 intro pins s σ H Q I hq
 refine wpAny_List_spliced (thn (h pos pins s σ H _ I hq) λus s1 ⟨xs,H1,I1,r,z,q⟩=>⟨by rw[<-r.length];exact z,?_⟩)
 have hf:H1 s1.heap.objs.size=none:=I1.hok.fresh (π _)
 refine⟨.ref s1.heap.objs.size,upd H1 s1.heap.objs.size (.lst xs),I1.laid (t':=s1.toks) (λb u e=>ο _ e) (π _) ?_,rfl,q _ hf⟩
 exact⟨z,us,0,r,Δ _ rfl⟩
end
abbrev Sp:=List V->Hp->VK->XK->Prop
abbrev CXT:=List Env->Hp->θ->XK->δ->θ->Prop
structure qd(P:υ)(w:Μ)(K:ζ)(mg:Str->Option δ)(base:Heap)(A:Ρ)(outer:List Env)(s:θ)(H:Hp):Prop where
 frames:A.frames=some outer
 mod:Mod K mg base
 bs:∀b o,base.get? b=some o->s.heap.get? b=some o/\H b=none
 bsz:base.objs.size<=s.heap.objs.size
 funs:s.heap.FunFrames base outer
 frf:∀b∈frs outer,H b=none
 hok:HOk P w H s.heap
 bare:Cp s.gens
def CE(outer:List Env)(P:υ)(w:Μ)(H:Hp)(s:θ)(Q:VK)(u:δ)(s':θ):Prop:=
 ∃v H',s'.os=s.os/\Cp s'.gens/\Un (frs outer) [] H H' s.heap s'.heap/\HOk P w H' s'.heap/\aH v u/\Q v H'
def CR(CX:CXT)(outer:List Env)(P:υ)(w:Μ)(H:Hp)(s:θ)(Q:VK)(E:XK)(r:C0)(s':θ):Prop:=
 match r with
 |.ok (.ret u)=>CE outer P w H s Q u s'
 |.ok _=>False
 |.error e=>CX outer H s E e s'
structure aw(P:υ)(w:Μ)(K:ζ)(mg:Str->Option δ)(base:Heap)(CX:CXT)(k:Nat)(f:Addr)(fd:Η)(ps:List Str)(sp:Sp):Prop where
 len:∀vs H Q E,sp vs H Q E->vs.length=ps.length
 run:∀(A:Ρ)(outer:List Env)(s:θ)(H:Hp)(args:Args)(us:List δ)(vs:List V)(Q:VK)(E:XK),bK k A->qd P w K mg base A outer s H->C3 s fd args (ps.zip us)->aD vs us->sp vs H Q E ->
  codeAny (model P w) A (.call (.ref f) args) (CR CX outer P w H s Q E) s
theorem aw.mono{P:υ}{w:Μ}{K:ζ}{mg:Str->Option δ}{base:Heap}{CX:CXT}{j k:Nat}{f:Addr}{fd:Η}{ps:List Str}{sp:Sp}(F:aw P w K mg base CX j f fd ps sp)(h:j<=k):
  aw P w K mg base CX k f fd ps sp:=⟨F.len,λA outer s H args us vs Q E hr=>F.run A outer s H args us vs Q E (hr.mono h)⟩
theorem aw.imp{P:υ}{w:Μ}{K:ζ}{mg:Str->Option δ}{base:Heap}{CX:CXT}{k:Nat}{f:Addr}{fd:Η}{ps:List Str}{sp sp':Sp}(F:aw P w K mg base CX k f fd ps sp)
  (h:∀vs H Q E,sp' vs H Q E->sp vs H Q E):aw P w K mg base CX k f fd ps sp':=
 ⟨λvs H Q E q=>F.len vs H Q E (h _ _ _ _ q),λA outer s H args us vs Q E hr he hb hv hs=>F.run A outer s H args us vs Q E hr he hb hv (h _ _ _ _ hs)⟩
theorem qd.make{P:υ}{w:Μ}{K:ζ}{mg:Str->Option δ}{base:Heap}{A:Ρ}{outer:List Env}{s:θ}{H:Hp}(e:qd P w K mg base A outer s H)(C:Addr)(us:List δ)(kw:List (Str×δ)):
  qd P w K mg base (A.under (.builtin "type.__call__" ⟨.ref C::us,kw⟩)) outer s H:=⟨by first|exact e.frames|(simpa[Ρ.under,Code.envs,Code.isFrame,pushEnvs]using e.frames),e.mod,e.bs,e.bsz,e.funs,e.frf,e.hok,e.bare⟩
section
variable{X:Cx}{pins:List (Addr×Obj)}{σ:St}{H:Hp}{s s':θ}
theorem Inv.env0(I:Inv X pins σ H s):qd X.prog X.w X.K X.mg X.base X.A X.stack s H:=
 ⟨I.ok.frames,I.ok.mod,I.bs,ϲ I.ok.bsz I.sz,I.stack,I.stkFree,I.hok,I.bare⟩
theorem Inv.after{Q:VK}{u:δ}(I:Inv X pins σ H s)(h:CE X.stack X.prog X.w H s Q u s'):EP X pins σ Q u s':=by
 obtain⟨v,H',os,bare,un,hok,r,q⟩:=h
 obtain⟨hh,g,d,t,os'⟩:=s'
 obtain rfl:os'=s.os:=os
 exact⟨v,H',I.call (h':=hh) (g':=g) (d':=d) (t':=t) (ch:=[]) un hok bare (λb z=>absurd z ()),r,q⟩
end
def kq(sp:Sp)(dvs:List V)(E:XK)(t:TA):TE:=λσ H Q=>t σ H λvs H1=>sp (vs++dvs) H1 Q E
def xO(C:Addr)(m:Str)(sp:Sp)(dvs:List V)(E:XK)(ta:TE)(t:TA):TE:=λσ H Q=>ta σ H λx H1=>∃a dx fs,x=.ref a/\H1 a=some (.ins C dx fs)/\fs.lookup m=none /\
 t σ H1 λvs H2=>sp (x::(vs++dvs)) H2 Q E
def Af(C:Addr)(sp:Sp)(dvs:List V)(E:XK)(t:TA):TE:=λσ H Q=>t σ H λvs H1=>∀x dx,H1 x=none->H1 dx=none->dx≠x ->
 sp (.ref x::(vs++dvs)) (upd (upd H1 dx (.own x)) x (.ins C dx [])) (λv H2=>v=.non/\Q (.ref x) H2) E
def bA(K:ζ)(fd:Η)(ps:List Str)(ds:List δ):Prop:=
 ∀(s:θ)(us:List δ),K.In s.heap->(us++ds).length=ps.length->C3 s fd ⟨us,[]⟩ (ps.zip (us++ds))
theorem bA.all{K:ζ}{fd:Η}{ps:List Str}(h:∀us:List δ,us.length=ps.length->bindArgs fd ⟨us,[]⟩=pure (ps.zip us)):bA K fd ps []:=λs us _ hl=>by
 rw[ϙ]at hl⊢
 exact .of_eq (h us hl)
def dW(CX:CXT)(X:Cx)(E:XK):Prop:=∀(pins:List (Addr×Obj))(σ:St)(H:Hp)(s:θ)(e:δ)(s':θ),Inv X pins σ H s->CX X.stack H s E e s'->X.xe e s'
section
variable{X:Cx}{CX:CXT}{k:Nat}{f C:Addr}{fd:Η}{ps:List Str}{sp:Sp}{dvs:List V}{ds:List δ}{E:XK}{x m:Str}{p pos apos:Pos}{e o:Expr}{es:List Expr}{ta:TE}{t:TA}
theorem jA{pins:List (Addr×Obj)}{σ:St}{H:Hp}{s:θ}{Q:VK}{us:List δ}{vs:List V}(F:aw X.prog X.w X.K X.mg X.base CX k f fd ps sp)(hr:bK k X.A)(hb:bA X.K fd ps ds)(hd:aD dvs ds)(hx:dW CX X E)
  (I:Inv X pins σ H s) (r:aD vs us) (h:sp (vs++dvs) H Q E):wpAny (model X.prog X.w) X.A (call (.ref f) us) (EP X pins σ Q) X.xe s:=by
 have r2:aD (vs++dvs) (us++ds):=r.append hd
 have hl:(us++ds).length=ps.length:=by rw[<-r2.length];exact F.len _ _ _ _ h
 refine wpAny_call (CH (F.run X.A X.stack s H ⟨us,[]⟩ (us++ds) (vs++dvs) Q E hr I.env0 (hb s us I.kIn hl) r2 h) λr s' hq=>?_)
 cases r with
 |error e=>exact hx pins σ H s e s' I hq
 |ok fl=>
  cases fl with
  |ret u=>exact I.after hq
  |next=>exact j5 hq
  |brk=>exact j5 hq
  |cont=>exact j5 hq
theorem wY(F:aw X.prog X.w X.K X.mg X.base CX k f fd ps sp)(hr:bK k X.A)(hg:Gl X x)(hm:X.mg x=some (.ref f))(hk:Ϟ X.K (.ref f)=true)(hb:bA X.K fd ps ds)(hd:aD dvs ds)(hx:dW CX X E)
  (ha:PA X (e::es) t) (hdb:(x==("__debug__" : Str))=false:=by decide) (he:starEach (e::es) X.env=(false,eval e X.env)::starEach es X.env:=by rfl) (hpl:(backTo pos (starEach es X.env)).any (·.1)=false:=by rfl):
  PE X (.Call (.Name x p) (e::es) [] pos) (kq sp dvs E t):=by
 intro pins s σ H Q I h
 refine l9 (ik I hg hm ?_ hdb)
 refine Bt (h₀:=X.base) I.ok.mod.kin hk (thn (ha pos pins s σ H _ I h) λus s1 ⟨vs,H1,I1,r,q⟩=>⟨I1.kIn,?_⟩) he hpl
 exact jA F hr hb hd hx I1 r q
theorem vL(F:aw X.prog X.w X.K X.mg X.base CX k f fd ps sp)(hr:bK k X.A)(hg:Gl X x)(hm:X.mg x=some (.ref f))(hk:Ϟ X.K (.ref f)=true)(hb:bA X.K fd ps ds)(hd:aD dvs ds)(hx:dW CX X E)
  (hdb:(x==("__debug__" : Str))=false:=by decide):PE X (.Call (.Name x p) [] [] pos) (kq sp dvs E nt):=by
 intro pins s σ H Q I h
 refine l9 (ik I hg hm ?_ hdb)
 exact PySem.W.callWith_K0 I.kIn hk (jA (us:=[]) F hr hb hd hx I .nil h)
theorem pe_meth{pl:Sem Bool}(he:PE X o ta)(c:Cls X.K C)(hm:pQ X.K C m f)(F:aw X.prog X.w X.K X.mg X.base CX k f fd ps sp)(hr:bK k X.A)(hb:bA X.K fd ps ds)(hd:aD dvs ds)(hx:dW CX X E)(ha:PA X (e::es) t)
  (hst:starEach (e::es) X.env=(false,eval e X.env)::starEach es X.env:=by rfl) (hpl:(backTo pos (starEach es X.env)).any (·.1)=false:=by rfl)
  (ht:eval (.Call (.Attribute o m apos) (e::es) [] pos) X.env=(do
   let ov <-eval o X.env
   standAt apos.atName
   let (f,first) <-holding [ov] (getMethod ov m pl)
   callWith pos f first (backTo pos (starEach (e::es) X.env)) (backToKw pos (keywordEach [] X.env))):=by rfl):
  PE X (.Call (.Attribute o m apos) (e::es) [] pos) (xO C m sp dvs E ta t):=by
 intro pins s σ H Q I h
 refine PySem.W.methodCall_KW (pl:=pl) (thn (he pins s σ H _ I h) λu s1 ⟨x,H1,I1,rx,a,dx,fs,ex,ea,l,q⟩=>?_) ht
 subst ex
 obtain rfl:u=Τ a:=rx
 refine iG I1 ea c hm l ?_
 refine Bt (first:=[.ref a]) (h₀:=X.base) I.ok.mod.kin hm.kp (thn (ha pos pins s1 σ H1 _ I1 q) λus s2 ⟨vs,H2,I2,r,q2⟩=>⟨I2.kIn,?_⟩) hst hpl
 exact jA (us:=.ref a::us) (vs:=.ref a::vs) F hr hb hd hx I2 (.cons rfl r) q2
theorem pe_meth0{pl:Sem Bool}(he:PE X o ta)(c:Cls X.K C)(hm:pQ X.K C m f)(F:aw X.prog X.w X.K X.mg X.base CX k f fd ps sp)(hr:bK k X.A)(hb:bA X.K fd ps ds)(hd:aD dvs ds)(hx:dW CX X E)
  (ht:eval (.Call (.Attribute o m apos) [] [] pos) X.env=(do
   let ov <-eval o X.env
   standAt apos.atName
   let (f,first) <-holding [ov] (getMethod ov m pl)
   callWith pos f first (backTo pos (starEach [] X.env)) (backToKw pos (keywordEach [] X.env))):=by rfl):
  PE X (.Call (.Attribute o m apos) [] [] pos) (xO C m sp dvs E ta nt):=by
 intro pins s σ H Q I h
 refine PySem.W.methodCall_KW (pl:=pl) (thn (he pins s σ H _ I h) λu s1 ⟨x,H1,I1,rx,a,dx,fs,ex,ea,l,q⟩=>?_) ht
 subst ex
 obtain rfl:u=Τ a:=rx
 refine iG I1 ea c hm l ?_
 exact PySem.W.callWith_K0 (first:=[.ref a]) I1.kIn hm.kp (jA (us:=[.ref a]) (vs:=[.ref a]) F hr hb hd hx I1 (.cons rfl .nil) q)
structure Mk(K:ζ)(C f:Addr):Prop where
 makes:CK K C=true
 init:ϝ K (.ref C) "__init__"=some (some (.ref f))
 fn:A0 K (.ref f)=true
 kp:Ϟ K (.ref C)=true
theorem uS{pins:List (Addr×Obj)}{σ:St}{H:Hp}{s:θ}{Q:VK}{us:List δ}{vs:List V}(M:Mk X.K C f)(F:aw X.prog X.w X.K X.mg X.base CX k f fd ps sp)(hr:bK (k+1) X.A)(hb:bA X.K fd ps ds)(hd:aD dvs ds)
  (hx:dW CX X E) (I:Inv X pins σ H s) (r:aD vs us)
  (h:∀x dx,H x=none->H dx=none->dx≠x->sp (.ref x::(vs++dvs)) (upd (upd H dx (.own x)) x (.ins C dx [])) (λv H2=>v=.non/\Q (.ref x) H2) E):
  wpAny (model X.prog X.w) X.A (call (.ref C) us) (EP X pins σ Q) X.xe s:=by
 have hq:=h (s.heap.objs.size+1) s.heap.objs.size (I.hok.fresh (CQ _)) (I.hok.fresh (π _)) (Ϛ (BK _))
 have I2:=Inv.made (C:=C) I
 have r2:aD (V.ref (s.heap.objs.size+1)::(vs++dvs)) (Τ (s.heap.objs.size+1)::(us++ds)):=.cons rfl (r.append hd)
 have hl:(Τ (s.heap.objs.size+1)::us++ds).length=ps.length:=by
  have e:=r2.length
  rw[F.len _ _ _ _ hq]at e
  exact e.symm
 refine wpAny_call (vN (f:=f) I.kIn M.makes M.init (beq_iff_eq.mp M.fn) (CH (F.run _ X.stack _ _ ⟨Τ (s.heap.objs.size+1)::us,[]⟩ (Τ (s.heap.objs.size+1)::(us++ds)) _ _ E (hr.make C us [])
  (I2.env0.make C us []) (hb _ (Τ (s.heap.objs.size+1)::us) I2.kIn hl) r2 hq) λr s' hq'=>?_))
 cases r with
 |error e=>exact hx pins σ _ _ e s' I2 hq'
 |ok fl=>
  cases fl with
  |ret u=>
   obtain⟨v,H',I3,rv,ev,q3⟩:=I2.after hq'
   subst ev
   exact⟨rv,⟨V.ref (s.heap.objs.size+1),H',I3,rfl,q3⟩⟩
  |next=>exact j5 hq'
  |brk=>exact j5 hq'
  |cont=>exact j5 hq'
theorem pe_make(M:Mk X.K C f)(F:aw X.prog X.w X.K X.mg X.base CX k f fd ps sp)(hr:bK (k+1) X.A)(hg:Gl X x)(hm:X.mg x=some (.ref C))(hb:bA X.K fd ps ds)(hd:aD dvs ds)(hx:dW CX X E)
  (ha:PA X (e::es) t) (hdb:(x==("__debug__" : Str))=false:=by decide) (he:starEach (e::es) X.env=(false,eval e X.env)::starEach es X.env:=by rfl) (hpl:(backTo pos (starEach es X.env)).any (·.1)=false:=by rfl):
  PE X (.Call (.Name x p) (e::es) [] pos) (Af C sp dvs E t):=by
 intro pins s σ H Q I h
 refine l9 (ik I hg hm ?_ hdb)
 refine Bt (h₀:=X.base) I.ok.mod.kin M.kp (thn (ha pos pins s σ H _ I h) λus s1 ⟨vs,H1,I1,r,q⟩=>⟨I1.kIn,?_⟩) he hpl
 exact uS M F hr hb hd hx I1 r q
end
section
variable{X:Cx}{CX:CXT}{k:Nat}{f C:Addr}{fd:Η}{ps ks:List Str}{sp:Sp}{E:XK}{x m:Str}{p pos apos kpos:Pos}{e o:Expr}{es:List Expr}{kws:List Keyword}{te ta:TE}{t tk:TA}{nm:Option Str}
variable{g:List δ->List δ->List δ}{gV:List V->List V->List V}
end
structure ao(N P:List Str)(sc:Bz):Prop where
 kind:sc.kind=.function
 co:sc.isCoroutine=false
 gen:sc.isGenerator=false
 nd:N.Nodup
 pre:N.take P.length=P
 par:∀x∈P,sc.names.lookup x=some .local\/sc.names.lookup x=some .cell
 nofree:∀y∈sc.names,y.2≠.free
theorem kx{kindOf:Str->Option y6}{x:Str}:∀{binds:List (Str×δ)}{m:Str->Option δ},(∀v,(x,v)∉binds)->bindL kindOf binds m x=m x
 |[],_,_=>rfl
 |(n,v)::r,m,h=>by
  unfold bindL
  rw[kx λw hw=>h w (χ _ hw)]
  split
  ·have:x≠n:=by rintro rfl;exact h v ξ
   simp[this]
  ·rfl
theorem kP{kindOf:Str->Option y6}{x:Str}:∀{binds:List (Str×δ)}{m:Str->Option δ},(∀v,(x,v)∉binds)->bindC kindOf binds m x=m x
 |[],_,_=>rfl
 |(n,v)::r,m,h=>by
  unfold bindC
  rw[kP λw hw=>h w (χ _ hw)]
  split
  ·rfl
  ·have:x≠n:=by rintro rfl;exact h v ξ
   simp[this]
theorem kJ{kindOf:Str->Option y6}{x:Str}{v:δ}:∀{P:List Str}{vs:List δ}{i:Nat}{m:Str->Option δ},P.Nodup->P[i]?=some x->vs[i]?=some v->kindOf x=some .local ->
  bindL kindOf (P.zip vs) m x=some v
 |[],_,_,_,_,h,_,_=>by simp at h
 |_::_,[],_,_,_,_,h,_=>by simp at h
 |p::P,w::vs,0,m,nd,h1,h2,hk=>by
  simp at h1 h2;subst h1;subst h2
  show bindL kindOf ((p,w)::P.zip vs) m p=_
  unfold bindL
  rw[kx λv hv=>(n9.mp nd).1 (CL hv).1,Q5 hk]
  simp
 |p::P,w::vs,i+1,m,nd,h1,h2,hk=>by
  show bindL kindOf ((p,w)::P.zip vs) m x=_
  unfold bindL
  exact kJ (i:=i) (n9.mp nd).2 (by simpa using h1) (by simpa using h2) hk
theorem km{kindOf:Str->Option y6}{x:Str}{v:δ}:∀{P:List Str}{vs:List δ}{i:Nat}{m:Str->Option δ},P.Nodup->P[i]?=some x->vs[i]?=some v->kindOf x≠some .local ->
  bindC kindOf (P.zip vs) m x=some v
 |[],_,_,_,_,h,_,_=>by simp at h
 |_::_,[],_,_,_,_,h,_=>by simp at h
 |p::P,w::vs,0,m,nd,h1,h2,hk=>by
  simp at h1 h2;subst h1;subst h2
  show bindC kindOf ((p,w)::P.zip vs) m p=_
  unfold bindC
  rw[kP λv hv=>(n9.mp nd).1 (CL hv).1,Q6 hk]
  simp
 |p::P,w::vs,i+1,m,nd,h1,h2,hk=>by
  show bindC kindOf ((p,w)::P.zip vs) m x=_
  unfold bindC
  exact km (i:=i) (n9.mp nd).2 (by simpa using h1) (by simpa using h2) hk
def gU(N:List Str)(vs:List V):St:=vs.map some++B9 (N.length-vs.length) none
def bo(CX:CXT)(P:υ)(w:Μ)(K:ζ)(mg:Str->Option δ)(base:Heap)(N:List Str)(qual:Str)(scope:Bz)(f:Addr)(cd:δ)(A:Ρ)(outer:List Env)(s:θ)(H:Hp)(E:XK):Cx where
 prog:=P
 w:=w
 K:=K
 mg:=mg
 base:=base
 A:=A.deeper (envOfC qual scope s.heap.objs.size f cd)
 N:=N
 s₀:=s
 H₀:=H
 env:=envOfC qual scope s.heap.objs.size f cd
 outer:=outer
 stack:=envOfC qual scope s.heap.objs.size f cd::outer
 ex:=[]
 calm:=true
 fn:=λ_=>true
 pn:=[]
 xe:=λe s'=>wpAny (model P w) (A.deeper (envOfC qual scope s.heap.objs.size f cd)) (leaving (envOfC qual scope s.heap.objs.size f cd) e) (λ_ s''=>CX outer H s E e s'') (λe' s''=>CX outer H s E e' s'') s'
theorem nC{sc:Bz}{n:Nat}{x:Str}(h:sc.names.lookup x=some .cell):∃c,(cellsFrom n sc.names []).lookup x=some c:=by
 have q:=PySem.W.cellsFrom_some sc.names n [] (.inl h)
 exact Option.isSome_iff_exists.mp q
theorem ue{CX:CXT}{P:υ}{w:Μ}{K:ζ}{mg:Str->Option δ}{base:Heap}{N ps:List Str}{qual:Str}{scope:Bz}{f:Addr}{cd:δ}{A:Ρ}{outer:List Env}{s s1:θ}{H:Hp}{E:XK}{us:List δ}{vs:List V}
  (S:ao N ps scope) (hd:A.handled=none) (e0:qd P w K mg base A outer s H) (hl:vs.length=ps.length) (r:aD vs us)
  (x:InCallC s s.heap.objs.size (bindL (envOfC qual scope s.heap.objs.size f cd).kindOf (ps.zip us) λ_=>none) (cellsFrom (s.heap.objs.size+1) scope.names []) (bindC (envOfC qual scope s.heap.objs.size f cd).kindOf (ps.zip us) λ_=>none) s1):
  Inv (bo CX P w K mg base N qual scope f cd A outer s H E) [] (gU N vs) H s1:=by
 have hpl:ps.length<=N.length:=by have:=congrArg o9 S.pre;rw[Χ]at this;omega
 obtain⟨h1,tk,rfl,hk⟩:=x.done
 have noA:∀b:Addr,b∉(bo CX P w K mg base N qual scope f cd A outer s H E).ex:=λb z=>absurd (show b∈([]:List Addr)from z) ()
 refine⟨⟨e0.mod,S.kind,rfl,rfl,π _,λy z c h1 h2=>?_,λy hy=>?_,λy c _ h=>?_,λ_=>hd,Ρ.frames_deeper e0.frames,.inr ⟨rfl,rfl⟩,λb z=>absurd z (noA b),e0.bs,e0.bsz,λb _ _=>noA b,λb z=>absurd z (noA b),e0.funs,e0.frf⟩,
  rfl,e0.bare,Un.kept hk,⟨_,x.toInCall.ns,λi y v h1 h2 h3=>?_⟩,λy c h=>⟨_,x.cell y c h⟩,e0.hok.fresh (π _),λy c h=>?_,λp hp=>absurd (show p∈([]:List (Addr×Obj))from hp) (),e0.hok.kept hk,?_⟩
 ·exact name_of_addr x.apart (r9 h1) (r9 h2)
 ·have hy:scope.names.lookup y=some .cell\/scope.names.lookup y=some .free:=hy
  rcases hy with hy|hy
  ·exact nC hy
  ·exact absurd rfl (S.nofree _ (r9 hy))
 ·exact n_ (x.above y c (r9 h))
 ·have hi:i<vs.length:=by
   unfold gU at h2
   by_cases hi:i<vs.length
   ·exact hi
   ·rw[ϵ (by simpa using hi)]at h2
    rw[List.getElem?_replicate]at h2
    split at h2<;>cases h2
  have ha:vs[i]?=some v:=by
   unfold gU at h2
   rw[m8 (by simpa using hi),Ν]at h2
   cases e:vs[i]? with
   |none=>rw[e]at h2;cases h2
   |some a=>rw[e]at h2;cases h2;rfl
  obtain⟨u,hu,rv⟩:=r.get ha
  have hp:ps[i]?=some y:=by
   rw[<-S.pre,List.getElem?_take_of_lt ()];exact h1
  have ndP:ps.Nodup:=by rw[<-S.pre];exact S.nd.sublist (List.take_sublist _ _)
  refine⟨u,rv,?_⟩
  rcases S.par y (ϊ hp)with k|k
  ·exact .inl ⟨k,kJ ndP hp hu k⟩
  ·obtain⟨c,e⟩:=nC (n:=s.heap.objs.size+1) k
   refine .inr ⟨.inl k,c,e,?_⟩
   have q:=x.cell y c e
   rw[km ndP hp hu (by show scope.names.lookup y≠_;rw[k];decide)]at q
   exact q
 ·exact e0.hok.fresh (n_ (x.above y c (r9 h)))
 ·unfold gU
  show _=N.length
  rw[Ζ,η,w_]
  omega
theorem As{CX:CXT}{P:υ}{w:Μ}{K:ζ}{mg:Str->Option δ}{base:Heap}{k:Nat}{f:Addr}{name qual:Str}{params:Arguments}{body:List Stmt}{scope:Bz}{dV kV doc pm cdv ct oc:δ}{an od:Option Addr}
  {osl:Array (Option δ)} {N ps:List Str} {sp:Sp} (lk:K.lookup f=some ⟨oc,od,.func (e9 name qual params body scope dV kV doc pm an cdv ct),osl⟩) (hcd:l_ K cdv qual=true) (S:ao N ps scope)
  (len:∀vs H Q E,sp vs H Q E->vs.length=ps.length)
  (hbody:∀(A:Ρ)(outer:List Env)(s:θ)(H:Hp)(vs:List V)(Q:VK)(E:XK),bK k (A.deeper (envOfC qual scope s.heap.objs.size f cdv))->sp vs H Q E ->
   ∃t,PSs (bo CX P w K mg base N qual scope f cdv A outer s H E) body t/\t {nx:=λ_ H'=>Q .non H',rt:=Q} (gU N vs) H):
  aw P w K mg base CX (k+1) f (e9 name qual params body scope dV kV doc pm an cdv ct) ps sp:=by
 refine⟨len,λA outer s H args us vs Q E hr e0 hb r hsp=>?_⟩
 have hl:=len _ _ _ _ hsp
 have KX:K.In s.heap:=e0.mod.kin.keeps λb o e=>(e0.bs b o e).1
 have lim:s.heap.NoLimit:=e0.mod.nolimit.keeps λb o e=>(e0.bs b o e).1
 have hkind:∀y∈ps.zip us,scope.names.lookup y.1=some .local\/(scope.names.lookup y.1=some .cell/\((cellsFrom (s.heap.objs.size+1) scope.names []).lookup y.1).isSome=true):=λ⟨n,v⟩ hy=>by
  rcases S.par n (CL hy).1 with q|q
  ·exact .inl q
  ·exact .inr ⟨q,PySem.W.cellsFrom_some _ _ _ (.inl q)⟩
 refine codeAny_call_function hr.depth (KX _ _ lk) rfl S.co S.gen rfl (PySem.W.codeRec_of KX hcd) (hb _ _ _ _ ?_)
 refine wpAny_newFunctionEnv_cells S.kind hkind λenv he s1 x=>?_
 subst he
 refine⟨lim.keeps x.toInCall.keep,codeAny_func ?_⟩
 obtain⟨t,ht,hq⟩:=hbody A outer s H vs Q E (hr.deeper _) hsp
 have I:Inv (bo CX P w K mg base N qual scope f cdv A outer s H E) [] (gU N vs) H s1:=ue S hr.hd e0 hl r x
 refine j4 (ht [] s1 (gU N vs) H _ I hq) (λfl s' hs=>?_) λe s' hs=>hs
 have fin:∀{σ':St}{H':Hp}{v:V}{u:δ},Inv (bo CX P w K mg base N qual scope f cdv A outer s H E) [] σ' H' s'->aH v u->Q v H'->CE outer P w H s Q u s':=
  λ{σ' H' v u} J rv q=>⟨v,H',J.os,J.bare,J.base,J.hok,rv,q⟩
 cases fl with
 |ret u=>
  obtain⟨v,σ',H',J,rv,q⟩:=hs
  exact fin J rv q
 |next=>
  obtain⟨σ',H',J,q⟩:=hs
  exact fin (v:=V.non) (u:=u7) J rfl q
 |brk=>
  obtain⟨_,_,_,q⟩:=hs
  exact j5 q
 |cont=>
  obtain⟨_,_,_,q⟩:=hs
  exact j5 q
section
variable{X:Cx}{x:Str}{p pos:Pos}{e:Expr}{es:List Expr}{t:TA}{id T:String}{r:List V->Hp->VK->Prop}
def tCB(r:List V->Hp->VK->Prop)(t:TA):TE:=λσ H Q=>t σ H λvs H1=>r vs H1 Q
theorem pe_callB(hc:cS X (.builtin id) r)(hg:Gl X x)(hm:X.mg x=none)(hv:bootBuiltins x=some (.builtin id))(ha:PA X (e::es) t)(hn:x≠"__name__":=by decide)(hdb:(x==("__debug__" : Str))=false:=by decide)
  (he:starEach (e::es) X.env=(false,eval e X.env)::starEach es X.env:=by rfl) (hpl:(backTo pos (starEach es X.env)).any (·.1)=false:=by rfl):PE X (.Call (.Name x p) (e::es) [] pos) (tCB r t):=by
 intro pins s σ H Q I h
 refine l9 (gj I hg hm hv ?_ hn hdb)
 exact PyProof.Rows.callWith_builtin1 (thn (ha pos pins s σ H _ I h) λus s1 ⟨vs,H1,I1,r1,q1⟩=>hc pins s1 σ H1 vs us Q I1 r1 q1) he hpl
theorem pe_callTy(hc:cS X (.type T) r)(hg:Gl X x)(hm:X.mg x=none)(hv:bootBuiltins x=some (.type T))(ha:PA X (e::es) t)(hn:x≠"__name__":=by decide)(hdb:(x==("__debug__" : Str))=false:=by decide)
  (he:starEach (e::es) X.env=(false,eval e X.env)::starEach es X.env:=by rfl) (hpl:(backTo pos (starEach es X.env)).any (·.1)=false:=by rfl):PE X (.Call (.Name x p) (e::es) [] pos) (tCB r t):=by
 intro pins s σ H Q I h
 refine l9 (gj I hg hm hv ?_ hn hdb)
 exact j9 (thn (ha pos pins s σ H _ I h) λus s1 ⟨vs,H1,I1,r1,q1⟩=>hc pins s1 σ H1 vs us Q I1 r1 q1) he hpl
end
section
variable{κ:Type}[DecidableEq κ]
def pD(kvs:List (κ×V))(k:κ):Option V:=(kvs.find? λkv=>decide (kv.1=k)).map (·.2)
def dU(kvs:List (κ×V))(k:κ)(v:V):List (κ×V):=
 if (kvs.any λkv=>decide (kv.1=k))=true then kvs.map (λkv=>if kv.1=k then (kv.1,v)else kv)else kvs++[(k,v)]
theorem mW{p:κ×V}{r:List (κ×V)}{k:κ}(e:p.1=k):pD (p::r) k=some p.2:=by simp[pD,g_,e]
theorem mP{p:κ×V}{r:List (κ×V)}{k:κ}(e:¬ p.1=k):pD (p::r) k=pD r k:=by simp[pD,g_,e]
theorem oS(k:κ):∀kvs:List (κ×V),(kvs.any λkv=>decide (kv.1=k))=(pD kvs k).isSome
 |[]=>rfl
 |p::r=>by
  rw[A5]
  by_cases e:p.1=k
  ·simp only[mW e,Q9 e,Bool.true_or,Option.isSome_some]
  ·rw[mP e,Q8 e,Cw];exact oS k r
theorem gE(kvs:List (κ×V))(k:κ)(v:V):(dU kvs k v).length<=kvs.length+1:=by
 unfold dU
 split
 ·rw[η];omega
 ·rw[Ζ,ω,h_];omega
theorem gy.isSome_eq{o:Option V}{u:Option δ}(r:gy o u):o.isSome=u.isSome:=by
 cases o with
 |none=>cases u with
  |none=>rfl
  |some _=>exact(show False from r).elim
 |some _=>cases u with
  |none=>exact(show False from r).elim
  |some _=>rfl
theorem KV.any{kvs:List (κ×V)}{vs:List (κ×δ)}(r:KV kvs vs)(k:κ):(kvs.any λkv=>decide (kv.1=k))=vs.any λkv=>decide (kv.1=k):=by
 unfold KV at r
 induction r with
 |nil=>rfl
 |cons h t ih=>rw[A5,A5,ih,h.1]
theorem KV.repl{kvs:List (κ×V)}{vs:List (κ×δ)}(r:KV kvs vs)(k:κ){y:V}{u:δ}(ry:aH y u):
  KV (kvs.map λkv=>if kv.1=k then (kv.1,y)else kv) (vs.map λkv=>if kv.1=k then (kv.1,u)else kv):=by
 unfold KV at r⊢
 induction r with
 |nil=>exact .nil
 | @cons p q ps qs h t ih=>
  rw[Ο,Ο]
  refine .cons ?_ ih
  obtain⟨h1,h2⟩:=h
  by_cases e:p.1=k
  ·rw[Q5 e,Q5 (h1.symm.trans e)];exact⟨h1,ry⟩
  ·rw[Q6 e,Q6 (λz=>e (h1.trans z))];exact⟨h1,h2⟩
theorem KV.put{kvs:List (κ×V)}{vs:List (κ×δ)}(r:KV kvs vs)(k:κ){y:V}{u:δ}(ry:aH y u):KV (dU kvs k y) (stored vs k u):=by
 unfold dU stored
 rw[r.any k]
 by_cases e:(vs.any λkv=>decide (kv.1=k))=true
 ·rw[Q5 e,Q5 e];exact r.repl k ry
 ·rw[Q6 e,Q6 e];exact Paired.snoc r ⟨rfl,ry⟩
theorem KV.keys{kvs:List (κ×V)}{vs:List (κ×δ)}(r:KV kvs vs):kvs.map (·.1)=vs.map (·.1):=by
 unfold KV at r
 induction r with
 |nil=>rfl
 |cons h t ih=>rw[Ο,Ο,ih,h.1]
theorem KV.length{kvs:List (κ×V)}{vs:List (κ×δ)}(r:KV kvs vs):kvs.length=vs.length:=Paired.length r
end
theorem oo{P:υ}{w:Μ}{k:Key}{u:δ}(r:aH (kV k) u):(aP P w).is k u=true:=by
 cases k with
 |inl i=>obtain⟨t,e⟩:=(show ∃t,u=s_ i t from r);subst e;exact oI P w i t
 |inr x=>obtain⟨t,e⟩:=(show ∃t,u=i7 x t from r);subst e;exact dO P w x t
theorem kH{P:υ}{w:Μ}:∀{ks:List Key}{us:List δ},aD (ks.map kV) us->ItemsAre (aP P w) ks us
 |[],_,r=>by rw[o_]at r;cases r;exact .nil
 |k::ks,_,r=>by
  rw[Ο]at r
  cases r with
  |cons h t=>exact .cons (oo h) (kH t)
abbrev KT(H:Hp):List (List Key×V)->List (List Key×Addr×δ)->Prop:=Paired λp q=>p.1=q.1/\H q.2.1=some (.tup (p.1.map kV))/\aH p.2 q.2.2
theorem KT.val{H:Hp}{kvs:List (List Key×V)}{xs:List (List Key×Addr×δ)}(r:KT H kvs xs)(k:List Key):gy (pD kvs k) ((atKey xs k).map (·.2)):=by
 induction r with
 |nil=>exact u9
 | @cons p q ps qs h t ih=>
  obtain⟨h1,_,h2⟩:=h
  by_cases e:p.1=k
  ·have e':q.1=k:=h1.symm.trans e
   have b:atKey (q::qs) k=some q.2:=by simp[atKey,g_,e']
   rw[mW e,b];exact h2
  ·have e':¬ q.1=k:=λz=>e (h1.trans z)
   have b:atKey (q::qs) k=atKey qs k:=by simp[atKey,g_,e']
   rw[mP e,b];exact ih
theorem KT.repl{H:Hp}{kvs:List (List Key×V)}{xs:List (List Key×Addr×δ)}(r:KT H kvs xs)(k:List Key){y:V}{u:δ}(ry:aH y u):
  KT H (kvs.map λkv=>if kv.1=k then (kv.1,y)else kv) (xs.map (putAt k u)):=by
 induction r with
 |nil=>exact .nil
 | @cons p q ps qs h t ih=>
  rw[Ο,Ο]
  refine .cons ?_ ih
  obtain⟨h1,h2,h3⟩:=h
  unfold putAt
  by_cases e:p.1=k
  ·rw[Q5 e,Q5 (h1.symm.trans e)];exact⟨h1,h2,ry⟩
  ·rw[Q6 e,Q6 (λz=>e (h1.trans z))];exact⟨h1,h2,h3⟩
theorem KT.put{H:Hp}{kvs:List (List Key×V)}{xs:List (List Key×Addr×δ)}(r:KT H kvs xs)(k:List Key){b:Addr}{y:V}{u:δ}(hb:H b=some (.tup (k.map kV)))(ry:aH y u):
  KT H (dU kvs k y) (storedH xs k b u):=by
 have e:(kvs.any λkv=>decide (kv.1=k))=(atKey xs k).isSome:=by
  rw[oS,(r.val k).isSome_eq,BB]
 unfold dU storedH
 rw[e]
 by_cases q:(atKey xs k).isSome=true
 ·rw[Q5 q,Q5 q];exact r.repl k ry
 ·rw[Q6 q,Q6 q];exact Paired.snoc r ⟨rfl,hb,ry⟩
theorem KT.keeps{H H':Hp}{kvs:List (List Key×V)}{xs:List (List Key×Addr×δ)}(r:KT H kvs xs)(ht:∀b ys,H b=some (.tup ys)->H' b=some (.tup ys)):KT H' kvs xs:=
 Paired.mapP r λ_ _ z=>⟨z.1,ht _ _ z.2.1,z.2.2⟩
section
variable{P:υ}{w:Μ}{H:Hp}{h:Heap}{a:Addr}
theorem xK{u:HO}(ok:HOk P w H h)(e:Rd H a u):aX P w H h a u:=e.ok ok
theorem zI{kvs:List (Key×V)}(ok:HOk P w H h)(e:Rd H a (.dK kvs)):kvs.length<=sizeLine/\(a==sysModules)=false/\∃vs,KV kvs vs/\h.DictOf (aP P w) a vs:=
 show aX P w H h a (.dK kvs)from xK ok e
theorem vW{kvs:List (Key×V)}(ok:HOk P w H h)(e:H a=some (.dK kvs)):kvs.length<=sizeLine/\(a==sysModules)=false/\∃vs,KV kvs vs/\h.DictOf (aP P w) a vs:=zI ok (.inl e)
theorem uF{ks:List Key}(ok:HOk P w H h)(e:H a=some (.tup (ks.map kV))):(tupleKind (aP P w)).is h ks a:=by
 obtain⟨_,its,r,⟨o,h1,h2,n,h3⟩,_⟩:=(show aX P w H h a (.tup (ks.map kV))from ok a _ e)
 exact⟨o,its.toArray,n,h1,h2,h3,by simpa using kH r⟩
theorem zF{kvs:List (List Key×V)}(ok:HOk P w H h)(e:Rd H a (.dT kvs)):kvs.length<=sizeLine/\(a==sysModules)=false /\
  ∃xs,KT H kvs xs/\h.DictOfH (tupleKind (aP P w)) a xs:=by
 obtain⟨z,y,xs,r,o,es,ep,h1,h2,h3,h4,h5⟩:=(show aX P w H h a (.dT kvs)from xK ok e)
 refine⟨z,y,xs,r,o,es,ep,h1,h2,h3,h4,λx hx=>?_,h5⟩
 have all:∀{l:List (List Key×V)}{m:List (List Key×Addr×δ)},KT H l m->∀x∈m,(tupleKind (aP P w)).is h x.1 x.2.1:=by
  intro l m q
  induction q with
  |nil=>intro x hx;exact nomatch hx
  | @cons p q ps qs hq t ih=>
   intro x hx
   rcases ν.mp hx with e|hx
   ·subst e
    exact uF ok (by rw[<-hq.1];exact hq.2.1)
   ·exact ih x hx
 exact all r x hx
theorem zE{kvs:List (List Key×V)}(ok:HOk P w H h)(e:H a=some (.dT kvs)):kvs.length<=sizeLine/\(a==sysModules)=false /\
  ∃xs,KT H kvs xs/\h.DictOfH (tupleKind (aP P w)) a xs:=zF ok (.inl e)
end
def tL(H:Hp)(a:Addr)(y v:V)(H':Hp):Prop:=
 (∃kvs k,H a=some (.dK kvs)/\y=kV k/\kvs.length<sizeLine/\H'=upd H a (.dK (dU kvs k v))) \/
 ∃kvs k b,H a=some (.dT kvs)/\y=.ref b/\H b=some (.tup (k.map kV))/\kvs.length<sizeLine/\H'=upd H a (.dT (dU kvs k v))
theorem tL.k{H:Hp}{a:Addr}{kvs:List (Key×V)}{k:Key}{v:V}(e:H a=some (.dK kvs))(hl:kvs.length<sizeLine):tL H a (kV k) v (upd H a (.dK (dU kvs k v))):=.inl ⟨kvs,k,e,rfl,hl,rfl⟩
section
variable{X:Cx}{pins:List (Addr×Obj)}{σ:St}{H:Hp}{s:θ}{a:Addr}{y v:V}{u r:δ}{o:Option V}{A:Ρ}{E:δ->θ->Prop}
theorem Inv.big(I:Inv X pins σ H s):sysModules<s.heap.objs.size:=by
 have h:mainGlobals<s.heap.objs.size:=(I.mod.glob.keeps I.bk).lt
 exact Nat.lt_trans () h
theorem rC{h':Heap}{t':Nat}{ob:HO}(I:Inv X pins σ H s)(mu:Mut (H a))(hs:y_ a s.heap h')(he:∃q,h'.get? a=some q)(new:aX X.prog X.w (upd H a ob) h' a ob):
  Inv X pins σ (upd H a ob) {s with heap:=h',toks:=t'}:=
 I.write (x:=a) (e:=a) mu (.inl rfl) (λb q hb z=>(hs.2 b hb).trans z) he new
theorem yD{P:υ}{w:Μ}{H':Hp}{h':Heap}{kvs:List (Key×V)}{vs:List (Key×δ)}(z:kvs.length<=sizeLine)(hd:(a==sysModules)=false)(rel:KV kvs vs)(dd:h'.DictOf (aP P w) a vs):
  aX P w H' h' a (.dK kvs):=⟨z,hd,vs,rel,dd⟩
theorem tI{H':Hp}{Q:Unit->θ->Prop}(hu:A.units+1<cLine)(I:Inv X pins σ H s)(g:tL H a y v H')(ry:aH y u)(rv:aH v r)(h:∀s',Inv X pins σ H' s'->Q Unit.unit s'):
  wpAny (model X.prog X.w) A (setItem (.ref a) u r) Q E s:=by
 rcases g with ⟨kvs,k,e,ey,l,eH⟩|⟨kvs,k,b,e,ey,eb,l,eH⟩
 ·subst ey eH
  obtain⟨z,hd,vs,rel,dd⟩:=vW I.hok e
  have hz:vs.length<=sizeLine:=by rw[<-rel.length];exact z
  have hl:(dU kvs k v).length<=sizeLine:=by have:=gE kvs k v;omega
  refine wpAny_setItem_pairs (hsz:=hz) (oo ry) dd λh' dd' hs=>h _ ?_
  have he:∃q,h'.get? a=some q:=let ⟨q,_,_,hq,_⟩:=dd';⟨q,hq⟩
  exact rC I (by rw[e];exact u9) hs he (yD hl hd (rel.put k rv) dd')
 ·subst ey eH
  cases(show u=Τ b from ry)
  obtain⟨z,hd,xs,rel,dd⟩:=zE I.hok e
  have hz:xs.length<=sizeLine:=by rw[<-Paired.length rel];exact z
  have hl:(dU kvs k v).length<=sizeLine:=by have:=gE kvs k v;omega
  refine wpAny_setItem_heap (hsz:=hz) (tupleKind_room_in1 hu) (uF I.hok eb) dd λh' dd' hs=>h _ ?_
  obtain⟨q,es,ep,hq,h2,h3,h4,_,h5⟩:=dd'
  refine rC I (by rw[e];exact u9) hs ⟨q,hq⟩ ⟨hl,hd,_,(rel.put k eb rv).keeps λc ys ec=>?_,q,es,ep,hq,h2,h3,h4,h5⟩
  rw[aq (Ar ec e (λz=>nomatch z))]
  exact ec
end
section
variable{X:Cx}{pins:List (Addr×Obj)}{σ:St}{H:Hp}{s:θ}{a:Addr}{kvs:List (Key×V)}{k:Key}{u:δ}{A:Ρ}{E:δ->θ->Prop}
end
def zA(i:Expr):Prop:=∀ov iv,subscripted i false ov iv=operate [ov,iv] (getItem ov iv)
theorem we{prog:υ}{w:Μ}{A:Ρ}{E:δ->θ->Prop}{s:θ}{env:Env}{value slice:Expr}{pos:Pos}{T id:String}{Q:δ->θ->Prop}
  (hl:typeLookup (.type T) "__getitem__"=pure (some (.builtin id))) (hs:zA slice)
  (h:wpAny (model prog w) A (eval value env) (λo s₁=>wpAny (model prog w) A (eval slice env) (λi s₂=>s₂.TypeIs o T/\wpAny (model prog w) A (getItem o i) Q E s₂) E s₁) E s):
  wpAny (model prog w) A (eval (.Subscript value slice pos) env) Q E s:=by
 refine Subscript_ (j4 h (λo s₁ h₁=>j4 h₁ (λi s₂ h₂=>?_) λ_ _ x=>x) λ_ _ x=>x)
 obtain⟨hT,h₂⟩:=h₂
 unfold subscriptTail
 refine ε ?_
 rw[getitemInPython_of_ne hT.not_modules]
 refine ε (wpAny_specialOf hT hl ?_)
 have fin:wpAny (model prog w) A (subscripted slice false o i) (λr s₃=>wpAny (model prog w) A (letTemporaryGo value o r>>=λ_=>pure r) Q E s₃) E s₂:=by
  rw[hs o i]
  exact wpAny_operating (j4 h₂ (λr s₃ h₃=>ε (wpAny_letTemporaryGo (ρ h₃))) λ_ _ x=>x)
 first
  |exact ρ (ε fin)
  |exact ε (ρ (ε fin))
  |exact ε fin
def At(td ty tv:TE):TS:=λD σ H=>tv σ H λv H1=>td σ H1 λx H2=>ty σ H2 λy H3=>∃a H4,x=.ref a/\tL H3 a y v H4/\D.nx σ H4
section
variable{X:Cx}{o i e value:Expr}{pos pos' tpos:Pos}{td ty tv:TE}
theorem ps_dput(hu:X.A.units+1<cLine)(ho:PE X o td)(hi:PE X i ty)(hv:PE X value tv)(hs:swapsWith value (some (.Subscript o i pos')) pos.line X.env=pure false):
  PS X (.Assign [.Subscript o i pos'] value pos) (At td ty tv):=by
 intro pins s σ H D I h
 refine wpAny_Assign_Subscript (thn (hv pins s σ H _ I h) λr s1 ⟨v,H1,I1,rv,q1⟩=>thn (ho pins s1 σ H1 _ I1 q1) λu s2 ⟨x,H2,I2,rx,q2⟩=>thn (hi pins s2 σ H2 _ I2 q2) λiv s3 ⟨y,H3,I3,ry,a,H4,ex,g,q3⟩=>?_) hs
 subst ex
 obtain rfl:u=Τ a:=rx
 exact tI hu I3 g ry rv λs4 I4=>⟨σ,H4,I4,q3⟩
end
theorem uZ{P:υ}{w:Μ}{H:Hp}(h:Heap)(hb:sysModules<h.objs.size):aX P w H (h.push {cls:=.type "dict",data:=.dict #[]}) h.objs.size (.dK []):=
 ⟨Υ _,beq_eq_false_iff_ne.mpr (ϒ (Ϛ hb)),[],.nil,Heap.DictOf.new h⟩
def zr:TE:=λ_ H Q=>∀p,H p=none->Q (.ref p) (upd H p (.dK []))
section
variable{X:Cx}{pos:Pos}
theorem pe_dnewK:PE X (.Dict [] [] pos) zr:=λpins s σ H Q I h=>
 wpAny_Dict_empty ⟨.ref s.heap.objs.size,_,I.laid (a:=s.heap.objs.size) (o:=.dK []) (t':=s.toks) (λ_ _ q=>ο _ q) (π _) (uZ s.heap I.big),rfl,h _ (I.hok.fresh (π _))⟩
end
section
variable{X:Cx}{pins:List (Addr×Obj)}{σ:St}{H:Hp}{s:θ}{a:Addr}{y d:V}{u r:δ}{o:Option V}{A:Ρ}{E:δ->θ->Prop}
end
section
variable{X:Cx}{o e f:Expr}{apos cpos:Pos}{td ty tx:TE}
end
section
variable{X:Cx}{pins:List (Addr×Obj)}{σ:St}{H:Hp}{s:θ}{a:Addr}{kvs:List (Key×V)}{A:Ρ}{E:δ->θ->Prop}
end
section
variable{X:Cx}{pins:List (Addr×Obj)}{σ:St}{H:Hp}{s:θ}{a:Addr}{y:V}{u:δ}{A:Ρ}{E:δ->θ->Prop}
end
end L2
namespace HT
open PySem PyProof.Rows
section
open PySem.SeqAt
open PySem.AutoSeq1 (wpAny_loadPart')
open PySem.MeetsSeq PySem.MeetsSeq2 PySem.MeetsSeq3
end
section
variable{prog:υ}{w:Μ}{A:Ρ}{E:δ->θ->Prop}{s:θ}
theorem cat_tup{t b:Addr}{vs ws:List δ}{Q:δ->θ->Prop}(ht:CY s.heap t vs.toArray)(hb:CY s.heap b ws.toArray)(hv:vs≠[])
  (h1:ws=[]->Q (.ref t) s) (h2:ws≠[]->Q (.ref s.heap.objs.size) {s with heap:=s.heap.push {cls:=.type "tuple",data:=.seq (vs++ws).toArray} })
  (hsz:vs.length+ws.length<=sizeLine):wpAny (model prog w) A (binaryOp .Add (.ref t) (.ref b)) Q E s:=by
 obtain⟨⟨cls,dd,data,sl⟩,ho,hc,n,hd⟩:=id ht
 obtain⟨⟨cls2,dd2,data2,sl2⟩,ho2,hc2,n2,hd2⟩:=id hb
 simp only at hc hd hc2 hd2
 subst hc hd hc2 hd2
 have e:vs.toArray++ws.toArray=(vs++ws).toArray:=by simp
 by_cases hw:ws=[]
 ·exact concat_meets ⟨_,ho,rfl⟩ ⟨_,ho2,rfl⟩ CA seq_tuple_add BC By (A6 _ _)
   (tuple_addW1 t b vs.toArray ws.toArray n n2 dd dd2 sl sl2 (by simpa using hv) (by simp[hw])) ⟨ho,ho2,h1 hw⟩
 ·refine concat_meets ⟨_,ho,rfl⟩ ⟨_,ho2,rfl⟩ CA seq_tuple_add BC By (A6 _ _)
   (tuple_addW2 t b vs.toArray ws.toArray n n2 dd dd2 sl sl2 (by simpa using hv) (by simpa using hw) (by rw[Α,Α];exact hsz)) ⟨ho,ho2,?_⟩
  rw[e]
  exact h2 hw
def sIx(n d:Nat):Option Int->Nat
 |none=>d
 |some v=>if v<0 then (v+(n:Int)).toNat else min v.toNat n
theorem sIx_nat(n d k:Nat):sIx n d (some (k:Int))=min k n:=by
 show(if (k:Int)<0 then ((k:Int)+(n:Int)).toNat else min (k:Int).toNat n)=min k n
 rw[Q6 (),Ct]
theorem yW(n d:Nat)(hd:d<=n)(o:Option Int):sIx n d o<=n:=by
 cases o with
 |none=>exact hd
 |some v=>
  show(if v<0 then (v+(n:Int)).toNat else min v.toNat n)<=n
  by_cases hv:v<0
  ·rw[Q5 hv];omega
  ·rw[Q6 hv];exact Nat.min_le_right _ _
theorem qV(v:Int)(n d:Nat):(if v<0 then max (v+(n:Int)) 0 else min v (n:Int))=((sIx n d (some v):Nat):Int):=by
 show(if v<0 then max (v+(n:Int)) 0 else min v (n:Int))=(((if v<0 then (v+(n:Int)).toNat else min v.toNat n):Nat):Int)
 by_cases hv:v<0
 ·simp only[Q5 hv];omega
 ·simp only[Q6 hv];omega
theorem qr(lo hi:Option Int)(n:Nat):A1 lo hi 1 (n:Int)=(((sIx n 0 lo:Nat):Int),((sIx n n hi:Nat):Int)):=by
 have h1:¬ ((1:Int)<0):=by omega
 unfold A1
 simp only[h1,if_false]
 refine Prod.ext ?_ ?_
 ·cases lo with
  |none=>rfl
  |some v=>exact qV v n 0
 ·cases hi with
  |none=>rfl
  |some v=>exact qV v n n
theorem pk(i j:Nat):m9 (i:Int) (j:Int) 1=j-i:=by
 unfold m9
 have h1:(1:Int)>0:=by omega
 simp only[h1,if_true,Int.ediv_one]
 split<;>omega
theorem jH{v:δ}{o:Option Int}{Q:Option Int->θ->Prop}(p:C1 v o)(h:Q o s):wpAny (model prog w) A (o8.Slice.slicePartIndex v) Q E s:=by
 cases p with
 |none=>exact slicePart_none h
 |int i t=>exact slicePart_int h
theorem sliceApplied_gen{sl:Addr}{vl vu:δ}{lo hi:Option Int}{n:Nat}{Q:Int×Int×Nat->θ->Prop}(hs:s.heap.IsSliceOf sl vl vu .none)(pl:C1 vl lo)(pu:C1 vu hi)
  (h:Q (((sIx n 0 lo:Nat):Int),1,sIx n n hi-sIx n 0 lo) s):wpAny (model prog w) A (y7 (.ref sl) (pure (n:Int))) Q E s:=by
 obtain⟨os,hos,hcs,hds⟩:=id hs
 unfold y7 o8.Slice.sliceFields
 refine ε (ε (Ϝ hos hds (x:=vl) rfl (ε (Ϝ hos hds (x:=vu) rfl (ε (Ϝ hos hds (x:=.none) rfl (ρ ?_)))))))
 refine ε (slicePart_none ?_)
 show wpAny _ _ (if ((1:Int)==0)=true then _ else _) _ _ s
 rw[Q6 ()]
 refine ε (jH pl (ε (jH pu (ε (ρ ?_)))))
 show wpAny _ _ (match A1 lo hi 1 (n:Int)with|(lo,hi)=>pure (lo,(1:Int),m9 lo hi 1)) _ _ s
 rw[qr lo hi n]
 show wpAny _ _ (pure (((sIx n 0 lo:Nat):Int),(1:Int),m9 ((sIx n 0 lo:Nat):Int) ((sIx n n hi:Nat):Int) 1)) _ _ s
 rw[pk]
 exact ρ h
theorem pick_gen(xs:Array δ)(i k:Nat):((ϗ k).filterMap λ(m:Nat)=>xs[((i:Int)+(m:Int)*1).toNat]?).toArray=((xs.toList.drop i).take k).toArray:=by
 have e:(λ(m:Nat)=>xs[((i:Int)+(m:Int)*1).toNat]?)=λm=>xs[i+m]?:=by
  funext m
  have:((i:Int)+(m:Int)*1).toNat=i+m:=by omega
  rw[this]
 rw[e]
 have:=pick_run xs i k
 rw[List.filterMap_map]at this
 have e2:((λx=>xs[x]?)∘λx=>i+x)=λm=>xs[i+m]?:=rfl
 rw[e2]at this
 rw[this]
theorem getItem_tuple_cut{t sl:Addr}{items:Array δ}{vl vu:δ}{lo hi:Option Int}{Q:δ->θ->Prop}(ht:CY s.heap t items)(hs:s.heap.IsSliceOf sl vl vu .none)(pl:C1 vl lo)(pu:C1 vu hi)
  (hw:¬ (sIx items.size 0 lo=0/\sIx items.size items.size hi=items.size))
  (h:Q (.ref s.heap.objs.size) {s with heap:=s.heap.push {cls:=.type "tuple",data:=.seq ((items.toList.drop (sIx items.size 0 lo)).take (sIx items.size items.size hi-sIx items.size 0 lo)).toArray} })
  (hsz:items.size<=sizeLine):wpAny (model prog w) A (getItem (.ref t) (.ref sl)) Q E s:=by
 have htake:sizeOk (.seq ((items.toList.drop (sIx items.size 0 lo)).take (sIx items.size items.size hi-sIx items.size 0 lo)).toArray):=by
  show((items.toList.drop (sIx items.size 0 lo)).take (sIx items.size items.size hi-sIx items.size 0 lo)).toArray.size<=sizeLine
  rw[Α,Χ,ϭ,Λ]
  omega
 have hj:sIx items.size items.size hi<=items.size:=yW _ _ (π _) hi
 obtain⟨os,hos,hcs,hds⟩:=id hs
 have hTs:s.TypeIs (.ref sl) "slice":=⟨os,hos,hcs⟩
 unfold getItem
 try with_reducible refine w9 ?_
 first|refine ε (ρ ?_)|skip
 refine ε (wpAny_sequenceKey ht.typeIs () ?_)
 refine ε (Ϯ (name:=γ "__getitem__") ht.typeIs Ϩ
  (Ϲ Ϩ ht.typeIs entry_tuple_getitem ?_ (args_tuple_getitem _ _)))
 show wpAny _ _ (B_ (.ref t)>>=_) _ _ s
 refine ε (tupleItemsOf_ ht ?_)
 refine ε (wpAny_typeOf hTs ?_)
 rw[Q5 ()]
 refine ε (sliceApplied_gen hs pl pu ?_)
 have hno:¬ ((((sIx items.size 0 lo:Nat):Int)==0&&(1:Int)==1&&(sIx items.size items.size hi-sIx items.size 0 lo)==items.size)=true):=by
  intro q
  rw[ψ,ψ]at q
  have q1:((sIx items.size 0 lo:Nat):Int)=0:=eq_of_beq q.1.1
  have q2:sIx items.size items.size hi-sIx items.size 0 lo=items.size:=eq_of_beq q.2
  exact hw ⟨(),()⟩
 show wpAny _ _ (if (((sIx items.size 0 lo:Nat):Int)==0&&(1:Int)==1&&(sIx items.size items.size hi-sIx items.size 0 lo)==items.size)=true then _ else _) _ _ s
 rw[Q6 hno,pick_gen]
 first
  |exact ε (m:=Ϧ _) (ϱ (ρ ⟨_,rfl,ρ h⟩) htake)
  |exact ε (m:=Ϧ _) (ϱ (ε (ρ (ρ ⟨_,rfl,ρ h⟩))) htake)
  |exact ε (ε (m:=Ϧ _) (ϱ (ρ (ρ ⟨_,rfl,ρ h⟩)) htake))
  |exact ε (ε (m:=Ϧ _) (ϱ (ρ ⟨_,rfl,ρ h⟩) htake))
end
end HT
namespace L2
open PySem PySem.Spec PyProof.Rows
abbrev TO:=St->Hp->(Option Int->Hp->Prop)->Prop
def PO(X:Cx)(e:Option Expr)(t:TO):Prop:=
 ∀(pins:List (Addr×Obj))(s:θ)(σ:St)(H:Hp)(Q:Option Int->Hp->Prop),Inv X pins σ H s->t σ H Q ->
  wpAny (model X.prog X.w) X.A (evalPart e X.env) (λu s'=>∃o H',Inv X pins σ H' s'/\C1 u o/\Q o H') X.xe s
def bn:TO:=λ_ H Q=>Q none H
def zP(t:TE):TO:=λσ H Q=>t σ H λx H1=>∃i,x=.int i/\Q (some i) H1
section
variable{X:Cx}{e:Expr}{te:TE}{lo hi:Option Expr}{tl th:TO}{pos p2:Pos}
theorem po_none:PO X none bn:=by
 intro pins s σ H Q I h
 rw[evalPart_none]
 exact ρ ⟨none,H,I,.none,h⟩
theorem po_some(h:PE X e te):PO X (some e) (zP te):=by
 intro pins s σ H Q I hw
 rw[evalPart_some]
 refine thn (h pins s σ H _ I hw) λu s1 ⟨x,H1,I1,r1,q1⟩=>?_
 obtain⟨i,rfl,q⟩:=q1
 obtain⟨t,rfl⟩:=r1
 exact⟨some i,H1,I1,.int i t,q⟩
def SlR(X:Cx)(r:V->Option Int->Option Int->Hp->VK->Prop):Prop:=
 ∀(pins:List (Addr×Obj))(s:θ)(σ:St)(H:Hp)(x:V)(v vl vu:δ)(lo hi:Option Int)(sl:Addr)(Q:VK),Inv X pins σ H s->aH x v->s.heap.IsSliceOf sl vl vu .none->C1 vl lo->C1 vu hi->r x lo hi H Q ->
  ∃T id,typeLookup (.type T) "__getitem__"=pure (some (.builtin id))/\s.TypeIs v T/\wpAny (model X.prog X.w) X.A (getItem v (.ref sl)) (EP X pins σ Q) X.xe s
def tSl(r:V->Option Int->Option Int->Hp->VK->Prop)(te:TE)(tl th:TO):TE:=λσ H Q=>te σ H λx H1=>tl σ H1 λl H2=>th σ H2 λu H3=>r x l u H3 Q
theorem pe_slice{r:V->Option Int->Option Int->Hp->VK->Prop}(hr:SlR X r)(he:PE X e te)(hl:PO X lo tl)(hu:PO X hi th):PE X (.Subscript e (.Slice lo hi none p2) pos) (tSl r te tl th):=by
 intro pins s σ H Q I h
 refine Subscript_ (thn (he pins s σ H _ I h) λv s1 ⟨x,H1,I1,r1,q1⟩=>?_)
 refine wpAny_Slice (thn (hl pins s1 σ H1 _ I1 q1) λvl s2 ⟨l,H2,I2,pl,q2⟩=>thn (hu pins s2 σ H2 _ I2 q2) λvu s3 ⟨u,H3,I3,pu,q3⟩=>?_)
 rw[evalPart_none]
 refine ρ ?_
 have I4:Inv X pins σ H3 {s3 with heap:=s3.heap.push {cls:=.type "slice",data:=.fields #[vl,vu,.none]} }:=I3.kept (t':=s3.toks) λb ob q=>ο _ q
 obtain⟨T,id,hT,ht,hg⟩:=hr pins {s3 with heap:=s3.heap.push {cls:=.type "slice",data:=.fields #[vl,vu,.none]} } σ H3 x v vl vu l u s3.heap.objs.size Q I4 r1 (Heap.IsSliceOf.new ..) pl pu q3
 show wpAny (model X.prog X.w) X.A (subscriptTail e (.Slice lo hi none p2) v (.ref s3.heap.objs.size)) (EP X pins σ Q) X.xe {s3 with heap:=s3.heap.push {cls:=.type "slice",data:=.fields #[vl,vu,.none]} }
 exact tail_any (ops:=[.ref s3.heap.objs.size,v]) ht hT hg (by with_unfolding_all rfl)
def bJ(xs:List V)(lo hi:Option Int):List V:=(xs.drop (HT.sIx xs.length 0 lo)).take (HT.sIx xs.length xs.length hi-HT.sIx xs.length 0 lo)
theorem eB(xs:List V)(lo hi:Option Int):(bJ xs lo hi).length<=xs.length:=by
 unfold bJ
 rw[Χ,ϭ]
 omega
def AC(K:ζ):V->Option Int->Option Int->Hp->VK->Prop:=λx lo hi H Q=>∃a xs,x=.ref a/\SqT K H a xs /\
 ¬ (HT.sIx xs.length 0 lo=0/\HT.sIx xs.length xs.length hi=xs.length)/\∀p,H p=none->Q (.ref p) (upd H p (.tup (bJ xs lo hi)))
theorem yo:SlR X (AC X.K):=by
 intro pins s σ H x v vl vu lo hi sl Q I rx hs pl pu h
 obtain⟨a,xs,rfl,hx,hw,q⟩:=h
 cases rx
 obtain⟨its,r,ht,hz⟩:=I.tuple hx
 have hlen:its.toArray.size=xs.length:=by rw[Α];exact r.length.symm
 refine⟨"tuple",_,Ϩ.lookup,ht.typeIs,?_⟩
 refine HT.getItem_tuple_cut ht hs pl pu (by rw[hlen];exact hw) ?_ (by rw[hlen];exact hz)
 rw[hlen]
 refine⟨.ref s.heap.objs.size,_,I.laid (t':=s.toks) (o:=.tup (bJ xs lo hi)) (λb ob q=>ο _ q) (π _) ?_,rfl,q _ (I.hok.fresh (π _))⟩
 exact⟨ϲ (eB xs lo hi) hz,_,(r.drop (HT.sIx xs.length 0 lo)).take (HT.sIx xs.length xs.length hi-HT.sIx xs.length 0 lo),CY.new _ _,NoD.new _ rfl⟩
def zW(K:ζ):R2:=λx y H Q=>∃a b xs ys,x=.ref a/\y=.ref b/\SqT K H a xs/\SqT K H b ys/\xs≠[]/\xs.length+ys.length<=sizeLine /\
 (ys=[]->Q (.ref a) H)/\(ys≠[]->∀p,H p=none->Q (.ref p) (upd H p (.tup (xs++ys))))
theorem aD.nil_iff{xs:List V}{us:List δ}(r:aD xs us):us=[]↔xs=[]:=by
 cases r with
 |nil=>simp
 |cons _ _=>simp
theorem wC:OpR X (binaryOp .Add) (zW X.K):=by
 intro pins s σ H x y v u Q I rx ry h
 obtain⟨a,b,xs,ys,rfl,rfl,ha,hb,hx,hz,q1,q2⟩:=h
 cases rx
 cases ry
 obtain⟨its,r1,p1,_⟩:=I.tuple ha
 obtain⟨its2,r2,p2,_⟩:=I.tuple hb
 refine HT.cat_tup p1 p2 (λz=>hx (r1.nil_iff.mp z)) (λz=>⟨.ref a,H,I,rfl,q1 (r2.nil_iff.mp z)⟩) (λz=>?_) (by rw[<-r1.length,<-r2.length];exact hz)
 refine⟨.ref s.heap.objs.size,_,I.laid (t':=s.toks) (o:=.tup (xs++ys)) (λb ob q=>ο _ q) (π _) ?_,rfl,q2 (λw=>z (r2.nil_iff.mpr w)) _ (I.hok.fresh (π _))⟩
 exact⟨by rw[Ζ];exact hz,_,r1.append r2,CY.new _ _,NoD.new _ rfl⟩
end
def ixN(n:Nat)(i:Int):Option Nat:=if 0<=i then (if i<n then some i.toNat else none)else if -(n:Int)<=i then some (i+n).toNat else none
def atI{α:Type}(xs:List α)(i:Int):Option α:=(ixN xs.length i).bind λj=>xs[j]?
theorem sd{n:Nat}{i:Int}{j:Nat}(h:ixN n i=some j):seqIndex? i n=some j/\j<n/\-(n:Int)<=i/\i<n:=by
 unfold ixN at h
 by_cases h0:0<=i
 ·rw[Q5 h0]at h
  by_cases h1:i<n
  ·rw[Q5 h1]at h
   have e:i.toNat=j:=ϕ h
   exact⟨by rw[seqIndex_of h0 h1,e],(),(),h1⟩
  ·rw[Q6 h1]at h;cases h
 ·rw[Q6 h0]at h
  by_cases h1:-(n:Int)<=i
  ·rw[Q5 h1]at h
   have e:(i+n).toNat=j:=ϕ h
   exact⟨by rw[seqIndex_neg () h1,e],(),h1,()⟩
  ·rw[Q6 h1]at h;cases h
theorem lU{α:Type}{xs:List α}{i:Int}{v:α}(h:atI xs i=some v):∃j,seqIndex? i xs.length=some j/\xs[j]?=some v/\j<xs.length/\-(xs.length:Int)<=i/\i<xs.length:=by
 unfold atI at h
 cases e:ixN xs.length i with
 |none=>rw[e]at h;cases h
 |some j=>
  rw[e]at h
  obtain⟨h1,h2,h3,h4⟩:=sd e
  exact⟨j,h1,h,h2,h3,h4⟩
theorem ae{α:Type}{xs:List α}{j:Nat}{v:α}(h:xs[j]?=some v):atI xs (j:Int)=some v:=by
 have hj:j<xs.length:=(Θ.mp h).1
 have e:ixN xs.length (j:Int)=some j:=by
  unfold ixN
  rw[Q5 (),Q5 ()];simp
 unfold atI;rw[e];exact h
def xC(b:Expr):Prop:=∀o i,subscripted b false o i=operate [o,i] (getItem o i)
def IxR(X:Cx)(r:R2):Prop:=
 ∀(value slice:Expr)(pins:List (Addr×Obj))(s:θ)(σ:St)(H:Hp)(x y:V)(v u:δ)(Q:VK),Inv X pins σ H s->aH x v->aH y u->r x y H Q ->
  subscripted slice false v u=operate [v,u] (getItem v u)->wpAny (model X.prog X.w) X.A (subscriptTail value slice v u) (EP X pins σ Q) X.xe s
def MtR(X:Cx)(id:String)(r:V->List V->Hp->VK->Prop):Prop:=
 ∀(pins:List (Addr×Obj))(s:θ)(σ:St)(H:Hp)(x:V)(xs:List V)(v:δ)(us:List δ)(Q:VK),Inv X pins σ H s->aH x v->aD xs us->r x xs H Q ->
  wpAny (model X.prog X.w) X.A (call (.builtin id) (v::us)) (EP X pins σ Q) X.xe s
section
variable{X:Cx}{a b:Expr}{ta tb:TE}{pos:Pos}
theorem pe_ix{r:R2}(hr:IxR X r)(ha:PE X a ta)(hb:PE X b tb)(hs:xC b):PE X (.Subscript a b pos) (tOp r ta tb):=by
 intro pins s σ H Q I h
 exact Subscript_ (yI ha hb I h λv u s2 x y H2 I2 rx ry q=>hr a b pins s2 σ H2 x y v u Q I2 rx ry q (hs _ _))
def sT(K:ζ):R2:=λx y H Q=>∃p xs i v,x=.ref p/\y=.int i/\SqL K H p xs/\atI xs i=some v/\Q v H
def xi(K:ζ):R2:=λx y H Q=>∃p xs i v,x=.ref p/\y=.int i/\SqT K H p xs/\atI xs i=some v/\Q v H
def AM:R2:=λx y H Q=>∃z i c,x=.str z/\y=.int i/\z.length<=sizeLine/\atI z.cps.toList i=some c/\Q (.str ⟨#[c]⟩) H
theorem aA:IxR X (sT X.K):=by
 intro value slice pins s σ H x y v u Q I rx ry h hs
 obtain⟨p,xs,i,z,rfl,rfl,hq,he,q⟩:=h
 cases rx
 obtain⟨t,rfl⟩:=ry
 obtain⟨its,r,pl,hz⟩:=I.list hq
 obtain⟨j,h1,h2,h3,h4,h5⟩:=lU he
 obtain⟨w,ew,rw'⟩:=r.get h2
 have hl:=r.length
 have hn:=fh
 have fin:EP X pins σ Q w s:=⟨z,H,I,rw',q⟩
 by_cases h0:0<=i
 ·have hj:i.toNat=j:=by
   rw[seqIndex_of h0 h5]at h1
   exact ϕ h1
  exact item_listR pl.isList h0 () (by rw[hj];simpa using ew) fin hs
 ·have hj:(i+(its.toArray.size:Int)).toNat=j:=by
   rw[seqIndex_neg () h4]at h1
   rw[Α,<-hl]
   exact ϕ h1
  exact subscriptTail_builtinR (x:=w) pl.isList.typeIs slot_list_getitem.lookup
   (wpAny_getItem_list_neg (Q:=λr s'=>r=w/\EP X pins σ Q r s') pl.isList () (by rw[Α]<;>omega) () (by rw[hj];simpa using ew) ⟨rfl,fin⟩) hs
theorem am:IxR X (xi X.K):=by
 intro value slice pins s σ H x y v u Q I rx ry h hs
 obtain⟨p,xs,i,z,rfl,rfl,hq,he,q⟩:=h
 cases rx
 obtain⟨t,rfl⟩:=ry
 obtain⟨its,r,pl,hz⟩:=I.tuple hq
 obtain⟨j,h1,h2,h3,h4,h5⟩:=lU he
 obtain⟨w,ew,rw'⟩:=r.get h2
 have hl:=r.length
 have hn:=fh
 have fin:EP X pins σ Q w s:=⟨z,H,I,rw',q⟩
 exact subscriptTail_builtinR (x:=w) pl.typeIs slot_tuple_getitem.lookup
  (getItem_tuple (j:=j) (Q:=λr s'=>r=w/\EP X pins σ Q r s') pl () () (by rw[Α,<-hl];exact h1) (by simpa using ew) ⟨rfl,fin⟩) hs
theorem qC:IxR X AM:=by
 intro value slice pins s σ H x y v u Q I rx ry h hs
 obtain⟨z,i,c,rfl,rfl,hz,he,q⟩:=h
 obtain⟨t,rfl⟩:=rx
 obtain⟨t',rfl⟩:=ry
 obtain⟨j,h1,h2,h3,h4,h5⟩:=lU he
 have hl:z.cps.toList.length=z.length:=by simp[Str.length]
 rw[hl]at h1 h4 h5
 have hn:=fh
 exact tail_any (BL s z t) slot_str_getitem.lookup (getItem_str (c:=c) (by
  have e1:decide (i < -(2^63:Int))=false:=Q8 ()
  have e2:decide (i>=2^63)=false:=Q8 ()
  rw[e1,e2,Bool.or_false]) (by rw[h1];simpa using h2) ⟨.str ⟨#[c]⟩,H,I.tok _,⟨_,rfl⟩,q⟩) hs
theorem qa(its:List δ)(n j:Nat)(u:δ):Bu (·.setIfInBounds j u) {cls:=.type "list",data:=.seq its.toArray n}={cls:=.type "list",data:=.seq (its.set j u).toArray n}:=by
 simp[Bu]
theorem Inv.lst{pins:List (Addr×Obj)}{σ:St}{H:Hp}{s:θ}{p:Addr}{xs:List V}(I:Inv X pins σ H s)(h:H p=some (.lst xs)):
  ∃(its:List δ) (n:Nat),aD xs its/\s.heap.get? p=some {cls:=.type "list",data:=.seq its.toArray n}/\xs.length<=sizeLine:=by
 obtain⟨z,its,n,r,e⟩:=I.hok p _ h
 exact⟨its,n,r,e,z⟩
theorem Inv.lstUpd{pins:List (Addr×Obj)}{σ:St}{H:Hp}{s:θ}{p:Addr}{xs ys:List V}{its its':List δ}{n n':Nat}{f:Obj->Obj}(I:Inv X pins σ H s)(h:H p=some (.lst xs))
  (ho:s.heap.get? p=some {cls:=.type "list",data:=.seq its.toArray n}) (hf:f {cls:=.type "list",data:=.seq its.toArray n}={cls:=.type "list",data:=.seq its'.toArray n'}) (r:aD ys its') (hz:ys.length<=sizeLine) (t:Nat):
  Inv X pins σ (upd H p (.lst ys)) {s with heap:=s.heap.update p f,toks:=t}:=by
 have e:(s.heap.update p f).get? p=some {cls:=.type "list",data:=.seq its'.toArray n'}:=by
  rw[Heap.get?_update_self f ho (by rw[hf]<;>rfl),hf]
 refine I.write (x:=p) (e:=p) (by rw[h];trivial) (.inl rfl) (λb u hb q=>(Heap.get?_update_other _ _ (ϒ hb)).trans q) ⟨_,e⟩ ?_
 exact⟨hz,its',n',r,e⟩
def zM:V->V->V->Hp->(Hp->Prop)->Prop:=λo i v H Q=>∃p xs k j,o=.ref p/\i=.int k/\H p=some (.lst xs)/\ixN xs.length k=some j/\Q (upd H p (.lst (xs.set j v)))
theorem jM:zJ X zM:=by
 intro pins s σ H o i v ov iv u Q I ro ri rv h
 obtain⟨p,xs,k,j,rfl,rfl,hp,hj,q⟩:=h
 cases ro
 obtain⟨t,rfl⟩:=ri
 obtain⟨its,n,r,ho,hz⟩:=I.lst hp
 obtain⟨h1,h2,h3,h4⟩:=sd hj
 have hl:=r.length
 have hn:=fh
 have I':Inv X pins σ (upd H p (.lst (xs.set j v))) {s with heap:=s.heap.update p (Bu (·.setIfInBounds j u))}:=
  I.lstUpd hp ho (qa its n j u) (r.set rv j) (by rw[List.length_set];exact hz) s.toks
 by_cases h0:0<=k
 ·have hk:k.toNat=j:=by
   rw[seqIndex_of h0 h4]at h1
   exact ϕ h1
  exact PySem.W.ki_setAt ho h0 () (by rw[Α,<-hl];exact h4) (by rw[hk];exact⟨_,I',q⟩)
 ·have hk:(k+(its.toArray.size:Int)).toNat=j:=by
   rw[seqIndex_neg () h3]at h1
   rw[Α,<-hl]
   exact ϕ h1
  exact PySem.W.ki_setBack ho () (by rw[Α,<-hl];exact h3) () (by rw[hk];exact⟨_,I',q⟩)
theorem md(lo hi:Option Int)(n:Nat):(sliceBounds lo hi none n).1=((HT.sIx n 0 lo:Nat):Int)/\(sliceBounds lo hi none n).2.1=((HT.sIx n n hi:Nat):Int)/\(sliceBounds lo hi none n).2.2=1:=by
 refine⟨?_,?_,rfl⟩
 ·cases lo with
  |none=>simp[sliceBounds,HT.sIx]
  |some i=>
   simp only[sliceBounds,HT.sIx,Option.getD_none,show(1:Int)>0 by decide,if_true]
   by_cases h:i<0
   ·simp only[h,if_true]<;>omega
   ·simp only[h,if_false]<;>omega
 ·cases hi with
  |none=>simp[sliceBounds,HT.sIx]
  |some i=>
   simp only[sliceBounds,HT.sIx,Option.getD_none,show(1:Int)>0 by decide,if_true]
   by_cases h:i<0
   ·simp only[h,if_true]<;>omega
   ·simp only[h,if_false]<;>omega
theorem jT(its:List δ)(lo hi:Option Int):slicePick its.toArray lo hi none=((its.drop (HT.sIx its.length 0 lo)).take (HT.sIx its.length its.length hi-HT.sIx its.length 0 lo)).toArray:=by
 obtain⟨h1,h2,h3⟩:=md lo hi its.toArray.size
 unfold slicePick
 rw[h1,h2,h3]
 simp only[sliceRange_one,pick_run,Α]<;>rfl
def Bb(K:ζ):V->Option Int->Option Int->Hp->VK->Prop:=λx lo hi H Q=>∃a xs,x=.ref a/\SqL K H a xs/\∀p,H p=none->Q (.ref p) (upd H p (.lst (bJ xs lo hi)))
theorem dA:SlR X (Bb X.K):=by
 intro pins s σ H x v vl vu lo hi sl Q I rx hs pl pu h
 obtain⟨a,xs,rfl,hx,q⟩:=h
 cases rx
 obtain⟨its,r,ht,hz⟩:=I.list hx
 have hlen:=r.length
 refine⟨"list",_,slot_list_getitem.lookup,ht.isList.typeIs,?_⟩
 refine wpAny_getItem_list_slice ht.isList hs pl pu .none () ?_ (by rw[Α]<;>omega)
 rw[jT,<-hlen]
 refine⟨.ref s.heap.objs.size,_,I.laid (t':=s.toks) (o:=.lst (bJ xs lo hi)) (λb ob q=>ο _ q) (π _) ?_,rfl,q _ (I.hok.fresh (π _))⟩
 exact⟨ϲ (eB xs lo hi) hz,_,0,(r.drop (HT.sIx xs.length 0 lo)).take (HT.sIx xs.length xs.length hi-HT.sIx xs.length 0 lo),Δ _ rfl⟩
def gW:V->Bool
 |.non=>true
 |.bl _=>true
 |.int _=>true
 |.str _=>true
 |_=>false
def eqV:V->V->Bool
 |.non,.non=>true
 |.bl a,.bl b=>a==b
 |.bl a,.int b=>(if a then 1 else 0)==b
 |.int a,.bl b=>a==(if b then 1 else 0)
 |.int a,.int b=>a==b
 |.str a,.str b=>a==b
 |_,_=>false
theorem yP{A:Ρ}{s:θ}{y x:V}{u v:δ}(ry:aH y u)(rx:aH x v)(fy:gW y=true)(fx:gW x=true):ϔ A s u v (eqV y x):=by
 cases y with
 |non=>
  cases ry
  cases x with
  |non=>cases rx;exact CM _
  |bl b=>cases rx;exact ϔ.none_bool b
  |int b=>obtain⟨t,rfl⟩:=rx;exact ϔ.none_int b t
  |str b=>obtain⟨t,rfl⟩:=rx;exact ϔ.none_str b t
  |_=>exact absurd (show false=true from fx) Κ
 |bl a=>
  cases ry
  cases x with
  |non=>cases rx;exact ϔ.bool_none a
  |bl b=>cases rx;exact ϔ.bool_bool a b
  |int b=>obtain⟨t,rfl⟩:=rx;exact ϔ.bool_int a b t
  |str b=>obtain⟨t,rfl⟩:=rx;exact ϔ.bool_str a b t
  |_=>exact absurd (show false=true from fx) Κ
 |int a=>
  obtain⟨t',rfl⟩:=ry
  cases x with
  |non=>cases rx;exact ϔ.int_none a t'
  |bl b=>cases rx;exact ϔ.int_bool a t' b
  |int b=>obtain⟨t,rfl⟩:=rx;exact ϔ.int_int a t' b t
  |str b=>obtain⟨t,rfl⟩:=rx;exact B4 a t' b t
  |_=>exact absurd (show false=true from fx) Κ
 |str a=>
  obtain⟨t',rfl⟩:=ry
  cases x with
  |non=>cases rx;exact ϔ.str_none a t'
  |bl b=>cases rx;exact ϔ.str_bool a t' b
  |int b=>obtain⟨t,rfl⟩:=rx;exact B5 a t' b t
  |str b=>obtain⟨t,rfl⟩:=rx;exact ϔ.str_str a t' b t
  |_=>exact absurd (show false=true from fx) Κ
 |_=>exact absurd (show false=true from fy) Κ
def eqU(x:V)(u:δ):Bool:=match u with
 |.none=>eqV .non x
 |.bool b=>eqV (.bl b) x
 |.int i _=>eqV (.int i) x
 |.str z _=>eqV (.str z) x
 |_=>false
theorem va{x y:V}{u:δ}(r:aH y u)(f:gW y=true):eqU x u=eqV y x:=by
 cases y with
 |non=>cases r;rfl
 |bl b=>cases r;rfl
 |int i=>obtain⟨t,rfl⟩:=r;rfl
 |str z=>obtain⟨t,rfl⟩:=r;rfl
 |_=>exact absurd (show false=true from f) Κ
theorem ga{x:V}:∀{xs:List V}{us:List δ},aD xs us->xs.all gW=true->us.any (eqU x)=xs.any λy=>eqV y x
 |_,_,.nil,_=>rfl
 |y::xs,u::us,.cons r t,f=>by
  rw[List.all_cons,ψ]at f
  rw[A5,A5,va r f.1,ga t f.2]
theorem eC{A:Ρ}{s:θ}{x:V}{v:δ}(rx:aH x v)(fx:gW x=true):∀{xs:List V}{us:List δ},aD xs us->xs.all gW=true->∀u∈us,ϔ A s u v (eqU x u)
 |_,_,.nil,_=>λu hu=>by cases hu
 |y::xs,u::us,.cons r t,f=>λu' hu=>by
  rw[List.all_cons,ψ]at f
  rcases ν.mp hu with rfl|hu
  ·rw[va r f.1];exact yP r rx f.1 fx
  ·exact eC rx fx t f.2 u' hu
def inV(x:V)(xs:List V):Bool:=xs.any λy=>eqV y x
def rIn(K:ζ)(neg:Bool):R2:=λx y H Q=>∃p xs,y=.ref p/\(SqL K H p xs\/SqT K H p xs)/\gW x=true/\xs.all gW=true/\Q (.bl (if neg then !inV x xs else inV x xs)) H
theorem kb:OpR X (compareOp .In) (rIn X.K false):=by
 intro pins s σ H x y v u Q I rx ry h
 obtain⟨p,xs,rfl,hq,fx,fs,q⟩:=h
 cases ry
 rcases hq with hq|hq
 ·obtain⟨its,r,pl,hz⟩:=I.list hq
  refine SeqAt.in_listAt (eqU x) pl.isList (λw hw=>eC rx fx r fs w (by simpa using hw)) ⟨.bl _,H,I,rfl,?_⟩
  rw[show its.toArray.any (eqU x)=its.any (eqU x) by simp,ga r fs]
  exact q
 ·obtain⟨its,r,pl,hz⟩:=I.tuple hq
  refine SeqAt.in_tupleAt (eqU x) pl (λw hw=>eC rx fx r fs w (by simpa using hw)) ⟨.bl _,H,I,rfl,?_⟩
  rw[show its.toArray.any (eqU x)=its.any (eqU x) by simp,ga r fs]
  exact q
theorem fD:OpR X (compareOp .NotIn) (rIn X.K true):=by
 intro pins s σ H x y v u Q I rx ry h
 obtain⟨p,xs,rfl,hq,fx,fs,q⟩:=h
 cases ry
 rcases hq with hq|hq
 ·obtain⟨its,r,pl,hz⟩:=I.list hq
  refine SeqAt.notIn_listAt (eqU x) pl.isList (λw hw=>eC rx fx r fs w (by simpa using hw)) ⟨.bl _,H,I,rfl,?_⟩
  rw[show its.toArray.any (eqU x)=its.any (eqU x) by simp,ga r fs]
  exact q
 ·obtain⟨its,r,pl,hz⟩:=I.tuple hq
  refine SeqAt.notIn_tupleAt (eqU x) pl (λw hw=>eC rx fx r fs w (by simpa using hw)) ⟨.bl _,H,I,rfl,?_⟩
  rw[show its.toArray.any (eqU x)=its.any (eqU x) by simp,ga r fs]
  exact q
theorem au:cS X (.builtin "len") (λxs H Q=>∃p ys,xs=[.ref p]/\(SqL X.K H p ys\/SqT X.K H p ys)/\Q (.int ys.length) H):=by
 intro pins s σ H xs us Q I r h
 obtain⟨p,ys,rfl,hq,q⟩:=h
 obtain⟨u,rfl,rx⟩:=dG r
 cases rx
 have hn:=fh
 rcases hq with hq|hq
 ·obtain⟨its,r',pl,hz⟩:=I.list hq
  have hlen:=r'.length
  exact Calls.call_len_list pl.isList (by simp only[Α]<;>omega) ⟨.int ys.length,H,I.tok _,⟨s.toks+1,by rw[Α,hlen]⟩,q⟩
 ·obtain⟨its,r',pl,hz⟩:=I.tuple hq
  have hlen:=r'.length
  exact len_tuple pl (by simp only[Α]<;>omega) ⟨.int ys.length,H,I.tok _,⟨s.toks+1,by rw[Α,hlen]⟩,q⟩
theorem bO:cS X (.builtin "len") (λxs H Q=>∃z,xs=[.str z]/\z.length<=sizeLine/\Q (.int z.length) H):=by
 intro pins s σ H xs us Q I r h
 obtain⟨z,rfl,hz,q⟩:=h
 obtain⟨u,rfl,t,rfl⟩:=dG r
 have hn:=fh
 exact len_str () ⟨.int z.length,H,I.tok _,⟨_,rfl⟩,q⟩
theorem aJ:cS X (.type "tuple") (λxs H Q=>∃p ys,xs=[.ref p]/\((SqL X.K H p ys/\∀l,H l=none->Q (.ref l) (upd H l (.tup ys)))\/(SqT X.K H p ys/\Q (.ref p) H))):=by
 intro pins s σ H xs us Q I r h
 obtain⟨p,ys,rfl,h⟩:=h
 obtain⟨u,rfl,rx⟩:=dG r
 cases rx
 rcases h with ⟨hq,q⟩|⟨hq,q⟩
 ·obtain⟨its,r',pl,hz⟩:=I.list hq
  have hlen:=r'.length
  refine call_tuple_list pl.isList (λh' kp=>?_) (by simp only[Α]<;>omega)
  have I1:Inv X pins σ H {s with heap:=h'}:=I.kept (t':=s.toks) kp
  have I2:Inv X pins σ (upd H h'.objs.size (.tup ys)) {s with heap:=h'.push {cls:=.type "tuple",data:=.seq its.toArray} }:=
   I1.laid (t':=s.toks) (λb o e=>ο _ e) (π _) (show aX X.prog X.w _ _ _ (.tup ys)from⟨hz,its,r',CY.new _ _,NoD.new _ rfl⟩)
  exact⟨.ref h'.objs.size,_,I2,rfl,q _ (I1.hok.fresh (π _))⟩
 ·obtain⟨its,r',pl,hz⟩:=I.tuple hq
  exact call_tuple_same pl ⟨.ref p,H,I,rfl,q⟩
def tyV(K:ζ)(T:String)(x:V)(H:Hp):Prop:=match x with
 |.str _=>T="str"
 |.int _=>T="int"
 |.ref p=>(T="list"/\∃xs,SqL K H p xs)\/(T="tuple"/\∃o,K.lookup p=some o/\o.cls=.type "tuple"/\o.dict=none) \/
   (T="dict"/\((∃kvs,H p=some (.dK kvs))\/∃kvs,H p=some (.dT kvs)))\/(T="set"/\∃S n,H p=some (.set S n))
 |_=>False
theorem uq{pins:List (Addr×Obj)}{σ:St}{H:Hp}{s:θ}{T:String}{x:V}{v:δ}(I:Inv X pins σ H s)(r:aH x v)(ty:tyV X.K T x H):
  s.TypeIs v T/\∀a,v=.ref a->∃ob,s.heap.get? a=some ob/\ob.dict=none:=by
 cases x with
 |str z=>
  obtain⟨t,rfl⟩:=r
  cases(show T="str" from ty)
  exact⟨BL s z t,λ_ e=>nomatch e⟩
 |int i=>
  obtain⟨t,rfl⟩:=r
  cases(show T="int" from ty)
  exact⟨typeIs_int s i t,λ_ e=>nomatch e⟩
 |ref p=>
  cases r
  rcases ty with ⟨rfl,xs,hq⟩|⟨rfl,o,hk,hc,hd⟩|⟨rfl,hk⟩|⟨rfl,S,n,hk⟩
  ·obtain⟨its,_,pl,_⟩:=I.list hq
   refine⟨pl.isList.typeIs,λa e=>?_⟩
   cases e
   obtain⟨o,n,e,c,hd,_⟩:=pl
   exact⟨o,e,hd⟩
  ·refine⟨⟨o,I.kIn p o hk,hc⟩,λa e=>?_⟩
   cases e
   exact⟨o,I.kIn _ o hk,hd⟩
  ·have z:∃o,s.heap.get? p=some o/\o.ExactDict:=by
    rcases hk with ⟨kvs,hk⟩|⟨kvs,hk⟩
    ·obtain⟨_,_,_,_,o,_,_,e,ex,_⟩:=I.hok p _ hk
     exact⟨o,e,ex⟩
    ·obtain⟨_,_,_,_,o,_,_,e,ex,_⟩:=I.hok p _ hk
     exact⟨o,e,ex⟩
   obtain⟨o,e,ex⟩:=z
   refine⟨⟨o,e,ex.1⟩,λa e2=>?_⟩
   cases e2
   exact⟨o,e,ex.2.1⟩
  ·obtain⟨o,_,_,_,e,ex,_⟩:=I.hok p _ hk
   refine⟨⟨o,e,ex.1⟩,λa e2=>?_⟩
   cases e2
   exact⟨o,e,ex.2.1⟩
 |_=>exact j5 ty
def Bk(K:ζ)(T:String)(r:V->List V->Hp->VK->Prop)(to:TE):TE:=λσ H Q=>to σ H λx H1=>tyV K T x H1/\r x [] H1 Q
def tBM(K:ζ)(T:String)(r:V->List V->Hp->VK->Prop)(to:TE)(t:TA):TE:=λσ H Q=>to σ H λx H1=>tyV K T x H1/\t σ H1 λxs H2=>r x xs H2 Q
variable{o e:Expr}{es:List Expr}{to:TE}{t:TA}{name:Str}{apos cpos:Pos}{T id:String}{r:V->List V->Hp->VK->Prop}
theorem pe_bm0(pa:PlainAttrs T)(slot:Slot T name id)(hty:typeOf (.builtin id)=pure (.type "method_descriptor"))(hm:MtR X id r)(ho:PE X o to)
  (hbase:attributeBase o name X.env (eval o X.env)=eval o X.env:=by rfl) (hline:(apos.endLine==cpos.line)=true:=by rfl):PE X (.Call (.Attribute o name apos) [] [] cpos) (Bk X.K T r to):=by
 intro pins s σ H Q I h
 refine wpAny_Call_method0_late hbase hline (thn (ho pins s σ H _ I h) λv s1 ⟨x,H1,I1,r1,ty,q1⟩=>?_)
 obtain⟨h1,h2⟩:=uq I1 r1 ty
 exact⟨T,id,pa,slot,hty,h1,h2,Calls.callWith_builtin rfl (PySem.evalArgs_none (hm pins s1 σ H1 x [] v [] Q I1 r1 .nil q1))⟩
theorem pe_bm(pa:PlainAttrs T)(slot:Slot T name id)(hty:typeOf (.builtin id)=pure (.type "method_descriptor"))(hm:MtR X id r)(ho:PE X o to)(ha:PA X (e::es) t)
  (hbase:attributeBase o name X.env (eval o X.env)=eval o X.env:=by rfl)
  (hfew:((backTo cpos (starEach (e::es) X.env)).all (λx=>!x.1)&&(backToKw cpos (keywordEach [] X.env)).all (λx=>x.1.isSome)
   && decide ((e::es).length+([]:List Keyword).length+(if ([]:List Keyword).isEmpty then 0 else 1)<30))=true:=by rfl)
  (hline:(apos.endLine==cpos.line)=true:=by rfl) (hs:starEach (e::es) X.env=(false,eval e X.env)::starEach es X.env:=by rfl) (hplain:(backTo cpos (starEach es X.env)).any (·.1)=false:=by rfl):
  PE X (.Call (.Attribute o name apos) (e::es) [] cpos) (tBM X.K T r to t):=by
 intro pins s σ H Q I h
 refine wpAny_Call_method_late hbase hfew hline rfl (thn (ho pins s σ H _ I h) λv s1 ⟨x,H1,I1,r1,ty,q1⟩=>?_)
 obtain⟨h1,h2⟩:=uq I1 r1 ty
 refine⟨T,id,pa,slot,hty,h1,h2,?_⟩
 have hA:=ha cpos pins s1 σ H1 _ I1 q1
 rw[hs]at hA⊢
 refine Calls.callWith_builtin (by show(false||(backTo cpos (starEach es X.env)).any (·.1))=false;rw[hplain]<;>rfl) (Calls.evalArgs_plain ?_)
 exact thn hA λus s2 ⟨vs,H2,I2,r2,q2⟩=>hm pins s2 σ H2 x vs v us Q I2 r1 r2 q2
end
def MtM(X:Cx)(id:String)(r:V->List V->Hp->VK->Prop):Prop:=
 ∀(pins:List (Addr×Obj))(s:θ)(σ:St)(H:Hp)(x:V)(xs:List V)(v:δ)(us:List δ)(Q:VK),Inv X pins σ H s->aH x v->aD xs us->r x xs H Q ->
  wpAny (model X.prog X.w) X.A (call (.builtin id) (v::us)) (EP X pins σ Q) X.xe s
theorem aD.one:∀{x:V}{us:List δ},aD [x] us->∃u,us=[u]/\aH x u
 |_,_,.cons r .nil=>⟨_,rfl,r⟩
theorem aD.zero:∀{us:List δ},aD [] us->us=[]
 |_,.nil=>rfl
theorem aD.dropLast{xs:List V}{us:List δ}(h:aD xs us):aD xs.dropLast us.dropLast:=by
 induction h with
 |nil=>exact .nil
 |cons r t ih=>
  cases t with
  |nil=>exact .nil
  |cons q t'=>exact .cons r ih
theorem qi{α:Type}(l:List α):l.eraseIdx (l.length-1)=l.dropLast:=by
 induction l with
 |nil=>rfl
 |cons a r ih=>
  cases r with
  |nil=>rfl
  |cons b r=>
   have e:(a::b::r).length-1=((b::r).length-1)+1:=by
    have h1:(a::b::r).length=r.length+2:=rfl
    have h2:(b::r).length=r.length+1:=rfl
    omega
   rw[e,List.eraseIdx_cons_succ,ih]
   all_goals rfl
section
variable{X:Cx}{pins:List (Addr×Obj)}{σ:St}{H:Hp}{s:θ}{l b:Addr}{xs ys zs:List V}
theorem Inv.lset{its its':List δ}{n:Nat}{f:Array δ->Array δ}{t':Nat}(I:Inv X pins σ H s)(hH:H l=some (.lst xs))
  (e:s.heap.get? l=some {cls:=.type "list",data:=.seq its.toArray n}) (hf:f its.toArray=its'.toArray) (hv:aD ys its') (hz:ys.length<=sizeLine):
  Inv X pins σ (upd H l (.lst ys)) {s with heap:=s.heap.update l (Bu f),toks:=t'}:=by
 have q:=PySem.IsL.update e f
 rw[hf]at q
 refine I.write (x:=l) (e:=l) (by rw[hH];exact trivial) (.inl rfl) (λb' u hb hu=>(Heap.get?_update_other s.heap (Bu f) (ϒ hb)).trans hu) ⟨_,q⟩ ?_
 exact⟨hz,its',_,hv,q⟩
theorem Inv.lnew{its:List δ}{t':Nat}(I:Inv X pins σ H s)(hv:aD ys its)(hz:ys.length<=sizeLine):
  Inv X pins σ (upd H s.heap.objs.size (.lst ys)) {s with heap:=s.heap.push {cls:=.type "list",data:=.seq its.toArray},toks:=t'}:=
 I.laid (λ_ _ q=>ο _ q) (π _) ⟨hz,its,0,hv,Δ _ rfl⟩
theorem Inv.fresh(I:Inv X pins σ H s):H s.heap.objs.size=none:=I.hok.fresh (π _)
theorem Inv.lstM(I:Inv X pins σ H s)(hH:H l=some (.lst xs)):xs.length<=sizeLine/\∃(its:List δ) (n:Nat),aD xs its/\xs.length=its.length/\s.heap.get? l=some {cls:=.type "list",data:=.seq its.toArray n}:=by
 obtain⟨z,its,n,r,e⟩:=I.hok l _ hH
 exact⟨z,its,n,r,r.length,e⟩
theorem oh{n:Nat}(h:n<=sizeLine):i9 n=false:=by
 unfold i9
 exact Q8 ()
end
section
variable{X:Cx}
def rE:V->List V->Hp->VK->Prop:=λx vs H Q=>∃l xs y,x=.ref l/\vs=[y]/\H l=some (.lst xs)/\xs.length<sizeLine/\Q .non (upd H l (.lst (xs++[y])))
theorem bt:MtM X "list.append" rE:=by
 intro pins s σ H x vs v us Q I rx rv h
 obtain⟨l,xs,y,rfl,rfl,hH,hz,q⟩:=h
 cases rx
 obtain⟨u,rfl,ru⟩:=rv.one
 obtain⟨z,its,n,r,hl,e⟩:=I.lstM hH
 refine Bv F.slot_list_append ⟨_,e,rfl⟩ F.entry_list_append (F.args_list_append_2 _ _) (PySem.list_append l its.toArray n u (by rw[Α];omega)) ⟨e,?_⟩
 refine⟨.non,_,I.lset (its':=its++[u]) hH e () (r.append (.cons ru .nil)) ?_,rfl,q⟩
 rw[Ζ,Ϫ]
 omega
def xj:V->List V->Hp->VK->Prop:=λx vs H Q=>∃l b xs zs,x=.ref l/\vs=[.ref b]/\H l=some (.lst xs)/\H b=some (.lst zs)/\xs.length+zs.length<=sizeLine/\Q .non (upd H l (.lst (xs++zs)))
theorem kh:MtM X "list.extend" xj:=by
 intro pins s σ H x vs v us Q I rx rv h
 obtain⟨l,b,xs,zs,rfl,rfl,hH,hB,hz,q⟩:=h
 cases rx
 obtain⟨u,rfl,ru⟩:=rv.one
 cases ru
 obtain⟨z,its,n,r,hl,e⟩:=I.lstM hH
 obtain⟨z2,its2,n2,r2,hl2,e2⟩:=I.lstM hB
 have hsz:its.toArray.size+its2.toArray.size<=sizeLine:=by rw[Α,Α];omega
 have hlong:¬ (!its.toArray.isEmpty&&i9 (its.toArray.size+its2.toArray.size))=true:=by
  rw[oh hsz,Ca]
  exact Κ
 refine Bv F.slot_list_extend ⟨_,e,rfl⟩ F.entry_list_extend (F.args_list_extend_2 _ _)
  (AutoSeq1.list_extend_list_list_0 l its.toArray n b its2.toArray n2 hlong (by rw[Α];omega) ()) ⟨e,e2,?_⟩
 refine⟨.non,_,I.lset (its':=its++its2) hH e () (r.append r2) ?_,rfl,q⟩
 rw[Ζ]
 omega
def Bn:V->List V->Hp->VK->Prop:=λx vs H Q=>∃l xs y,x=.ref l/\vs=[]/\H l=some (.lst xs)/\xs[xs.length-1]?=some y/\Q y (upd H l (.lst xs.dropLast))
theorem uu:MtM X "list.pop" Bn:=by
 intro pins s σ H x vs v us Q I rx rv h
 obtain⟨l,xs,y,rfl,rfl,hH,hy,q⟩:=h
 cases rx
 have hus:=rv.zero
 subst hus
 obtain⟨z,its,n,r,hl,e⟩:=I.lstM hH
 obtain⟨u,hu,ru⟩:=r.get hy
 have hy':its.toArray[its.toArray.size-1]?=some u:=by
  show its.toArray[its.length-1]?=some u
  rw[<-Array.getElem?_toList,<-hl]
  exact hu
 refine Bv F.slot_list_pop ⟨_,e,rfl⟩ F.entry_list_pop (F.args_list_pop_1 _) (MeetsSeq.list_pop_last l its.toArray n u hy' (by rw[Α];omega)) ⟨e,?_⟩
 refine⟨y,_,I.lset (its':=its.dropLast) hH e ?_ r.dropLast ?_,ru,q⟩
 ·show its.toArray.eraseIdxIfInBounds (its.toArray.size-1)=its.dropLast.toArray
  rw[Α,List.eraseIdxIfInBounds_toArray,qi]
 ·rw[List.length_dropLast]
  omega
def Bl:R2:=λx y H Q=>∃l b xs zs,x=.ref l/\y=.ref b/\H l=some (.lst xs)/\H b=some (.lst zs)/\xs.length+zs.length<=sizeLine/\∀p,H p=none->Q (.ref p) (upd H p (.lst (xs++zs)))
theorem mq:OpR X (binaryOp .Add) Bl:=by
 intro pins s σ H x y v u Q I rx ry h
 obtain⟨l,b,xs,zs,rfl,rfl,hH,hB,hz,q⟩:=h
 cases rx
 cases ry
 obtain⟨z,its,n,r,hl,e⟩:=I.lstM hH
 obtain⟨z2,its2,n2,r2,hl2,e2⟩:=I.lstM hB
 refine PySem.P.add_list e e2 ?_ (by rw[Α,Α];omega)
 have ea:its.toArray++its2.toArray=(its++its2).toArray:=by simp
 rw[ea]
 exact⟨.ref _,_,I.lnew (t':=s.toks) (r.append r2) (by rw[Ζ];omega),rfl,q _ I.fresh⟩
end
section
variable{prog:υ}{w:Μ}{A:Ρ}{E:δ->θ->Prop}{s:θ}
end
section
variable{X:Cx}
end
end L2
namespace Att
open PySem PySem.W PySem.Calls PyProof.Rows
theorem hJ{P:Params}{h:Heap}:∀(ns:List Int)(vs:List δ),WellAll P h vs (ns.map WData.int)->IntsAre vs ns:=by
 intro ns
 induction ns with
 |nil=>
  intro vs w
  rw[o_]at w
  cases w
  exact .nil
 |cons n ns ih=>
  intro vs w
  rw[Ο]at w
  cases w with
  |cons a b=>
   cases a
   exact .cons _ _ (ih _ b)
theorem tK{l:OpenLaw}{n:Nat}(hn:l.most=some n){P:Params}{h:Heap}{args:List WData}{vals:List δ}
  (hpre:l.row.toRowW.claim.pre args=true) (hwl:WellAll P h vals args):
  ∃a vs ns,vals=[Τ a]/\args=[WData.list (ns.map WData.int)]/\h.get? a=some {cls:=.type "list",data:=.seq vs.toArray}/\IntsAre vs ns/\ns.length<=n:=by
 have hsh:WShape.hasAll [] args [.list .int]=true:=(pre_splitW hpre).1
 have hc:l.pre.holds [] {args:=args}=true:=(pre_splitW hpre).2
 obtain⟨d,r,rfl,h1,h2⟩:=hasAllW_cons hsh
 obtain rfl:=hasAllW_nil h2
 obtain⟨xs,rfl,h3⟩:=hasW_list h1
 obtain⟨ns,rfl⟩:=items_int h3
 have hlen:ns.length<=n:=by
  unfold OpenLaw.pre at hc
  have h4:(WTm.not (.lt (.lit (.int (n:Int))) (.len (.arg 0)))).holds [] {args:=[.list (ns.map .int)]}=true:=by
   have h4:=(holds_andW hc).1
   rw[hn]at h4
   exact h4
  have h5:=condW_of h4 (w_not (w_lt w_lit (w_len_list (w_arg rfl))))
  rw[η]at h5
  refine Nat.le_of_not_lt λq=>?_
  have q':(n:Int)<((ns.length:Nat):Int):=by omega
  first
   |(rw[Q9 q']at h5;exact absurd h5 ())
   |(simp at h5;omega)
 cases hwl with
 |cons w1 w2=>
  cases w2
  cases w1 with
  |list ho hall=>exact⟨_,_,ns,rfl,rfl,ho,hJ ns _ hall,hlen⟩
theorem tD(l:OpenLaw)(args:List WData):l.row.toRowW.claim.post args (.bool true) args=true:=
 postW_of (r:=l.row.toRowW) (X:=(true==true))
  (show WShape.has [] (.bool true) .bool=true by first|rfl|decide|simp[WShape.has,WShape.arms,WShape.armsAll])
  (show(WTm.eq .res (.lit (.bool true))).value [] {args:=args,res:=some (.bool true),after:=args}=some (.bool (true==true))from w_eq_bool (w_res rfl) w_lit) rfl
theorem attach_call{l:OpenLaw}{n:Nat}{q:υ}{loose:List Str}{XP:(Str->Option δ)->Heap->Prop}{YP:Μ->Heap->Prop}{d:DefRec}
  (hn:l.most=some n) (hdf:d.params.defaults=[])
  (call:∀(w:Μ)(s₀ s₁:θ)(mg mb:Str->Option δ)(fa:Addr)(o:Obj)(pm cd doc:δ)(a:Addr)(vs:List δ)(ns:List Int),
   Ground q loose [] XP w s₀ mg mb s₁.heap->YP w s₁.heap ->
   s₁.heap.get? fa=some o->o.data=.func (docDef d.name d.params d.body d.scope pm cd doc)->s₁.heap.CodeRec cd d.name->mg d.name=some (.ref fa) ->
   s₁.heap.get? a=some {cls:=.type "list",data:=.seq vs.toArray}->IntsAre vs ns->ns.length<=n->s₁.gens=#[] ->
   codeAny (model l.prog w) callerA (.call (.ref fa) ⟨[.ref a],[]⟩) (λr s'=>r=.ok (.ret (.bool true))/\OldK s₁.heap s'.heap/\s'.os=s₁.os/\Cp s'.gens) s₁):
  WalkO q loose XP YP l.row.toRowW d [] (λf vs=>PySem.call f vs):=by
 intro w s₀ s₁ mg mb G Y fa o pm cd doc dV kV ho hd hcd hD hmg hg args vals as hpre hlay hrd hwl hlo
 obtain rfl:dV=.none:=Dflts.none hD hdf
 obtain rfl:kV=.none:=Dflts.noKw hD
 obtain⟨a,vs,ns,rfl,rfl,hobj,hints,hlen⟩:=tK hn hpre hwl
 refine enter_call (CH (call w s₀ s₁ mg mb fa o pm cd doc a vs ns G Y ho (fd_plain hd) hcd hmg hobj hints hlen hg) λr s' hq=>?_)
 obtain⟨rfl,h2,h3,h4⟩:=hq
 exact⟨.inl ⟨.bool true,.bool true,[],rfl,λ_=>rfl,.bool true,tD l _,λ_=>⟨List.Pairwise.nil,λ_ hm=>(nomatch hm)⟩⟩,h2,h3,h4⟩
section
variable{prog:υ}{w:Μ}{A:Ρ}{E:δ->θ->Prop}{s:θ}{K:Frag}
def noObjs(h:Heap):Heap:={h with objs:=#[]}
theorem noObjs_get(h:Heap)(b:Addr):(noObjs h).get? b=none:=by
 cases e:(noObjs h).get? b with
 |none=>rfl
 |some o=>exact absurd (Β e) (Nat.not_lt_zero _)
theorem fr_all{h:Heap}{L:Addr}{m:Str->Option δ}(n:h.Ns L m):Fr (noObjs h) L h m:=
 ⟨n,λb o e=>(by rw[noObjs_get]at e;cases e),Υ _⟩
end
end Att
namespace L2
open PySem PySem.Spec PyProof.Rows
theorem ka:∀{vs:List δ}{ns:List Int},IntsAre vs ns->aD (ns.map V.int) vs
 |_,_,.nil=>.nil
 |_,_,.cons n t h=>.cons ⟨t,rfl⟩ (ka h)
def yx(H:Hp):Prop:=∀b,H b=none\/∃o xs,H b=some (.frz o (.lst xs))
theorem uN{P:υ}{w:Μ}{K:ζ}{mg mb:Str->Option δ}{CX:CXT}{k:Nat}{fa a:Addr}{fd:Η}{x:Str}{sp:Sp}{s₁:θ}{vs:List δ}{ns:List Int}
  (KX:K.In s₁.heap) (hns:s₁.heap.Ns mainGlobals mg) (hb:s₁.heap.Ns builtinsNs mb) (hbb:∀x:Str,x≠"__name__"->mb x=bootBuiltins x) (hlim:s₁.heap.NoLimit) (hg:s₁.gens=#[])
  (ha:s₁.heap.get? a=some {cls:=.type "list",data:=.seq vs.toArray}) (hi:IntsAre vs ns) (hl:ns.length<=sizeLine) (hr:bK k callerA)
  (F:∀base:Heap,K.In base->base.Ns mainGlobals mg->aw P w K mg base CX k fa fd [x] sp) (hbind:∀(s:θ)(u:δ),C3 s fd ⟨[u],[]⟩ [(x,u)])
  (hsp:∀H:Hp,yx H->SqL K H a (ns.map V.int)->sp [.ref a] H (λv _=>v=.bl true) λ_ _ _=>False)
  (hCX:∀H e s',CX [] H s₁ (λ_ _ _=>False) e s'->False):
  codeAny (model P w) callerA (.call (.ref fa) ⟨[.ref a],[]⟩) (λr s'=>r=.ok (.ret (.bool true))/\OldK s₁.heap s'.heap/\s'.os=s₁.os/\Cp s'.gens) s₁:=by
 have rv:=ka hi
 have lenV:=hi.length
 have core:∀H:Hp,yx H->SqL K H a (ns.map V.int)->HOk P w H s₁.heap->(∀b,H b≠none->b=a)->(H a≠none->K.lookup a=none) ->
   codeAny (model P w) callerA (.call (.ref fa) ⟨[.ref a],[]⟩) (λr s'=>r=.ok (.ret (.bool true))/\OldK s₁.heap s'.heap/\s'.os=s₁.os/\Cp s'.gens) s₁:=by
  intro H hO hS hok hA hK
  have base_of:∀{b:Addr}{o:Obj},s₁.heap.get? b=some o->H b=none->(kZ s₁.heap H).get? b=some o:=λe n=>uT e n
  have noA:∀{b:Addr}{o:Obj}{es:Array BJ}{ep:Nat},s₁.heap.get? b=some o->o.data=.dict es ep->H b=none:=λ{b o es ep} e d=>by
   cases q:H b with
   |none=>rfl
   |some u=>
    have e':b=a:=hA b (by rw[q];simp)
    subst e'
    rw[ha]at e;cases e
    have d':C4 vs.toArray _=Data.dict es ep:=d
    cases d'
  have nsK:∀{b:Addr}{m:Str->Option δ},s₁.heap.Ns b m->(kZ s₁.heap H).Ns b m:=λ{b m} ⟨o,es,ep,e,d,r⟩=>⟨o,es,ep,base_of e (noA e d),d,r⟩
  have hKb:K.In (kZ s₁.heap H):=λb o e=>base_of (KX b o e) (by
   cases q:H b with
   |none=>rfl
   |some u=>
    have e':b=a:=hA b (by rw[q];simp)
    subst e'
    rw[hK (by rw[q];simp)]at e;cases e)
  have hM:Mod K mg (kZ s₁.heap H):=⟨hKb,nsK hns,⟨mb,nsK hb,hbb⟩,let ⟨mc,h1,h2⟩:=hlim;⟨mc,nsK h1,h2⟩⟩
  have e0:qd P w K mg (kZ s₁.heap H) callerA [] s₁ H:=⟨rfl,hM,λb o e=>wb e,Nat.le_of_eq (tu _ _),trivial,λb hb=>absurd (show b∈([]:List Addr)from hb) (),hok,.of_eq hg⟩
  refine CH ((F _ hKb (nsK hns)).run callerA [] s₁ H ⟨[.ref a],[]⟩ [.ref a] [.ref a] _ _ hr e0 (hbind s₁ (.ref a)) (.cons rfl .nil) (hsp H hO hS)) λr s' h=>?_
  cases r with
  |error e=>exact(hCX H e s' h).elim
  |ok fl=>
   cases fl with
   |next=>exact j5 h
   |brk=>exact j5 h
   |cont=>exact j5 h
   |ret u=>
    obtain⟨v,H',os,bare,un,hok',r',q⟩:=h
    have q':v=.bl true:=q
    subst q'
    obtain rfl:u=CZ true:=r'
    refine⟨rfl,OldK.of_keep λb o e=>?_,os,bare⟩
    cases q:H b with
    |none=>exact un.keep b o e q (by intro z;exact absurd (show b∈([]:List Addr)from z) ()) ()
    |some u=>
     rcases hO b with z|⟨ob,xs,z⟩
     ·rw[q]at z;cases z
     ·have z2:=un.frzs b ob _ z
      obtain⟨e1,_⟩:=hok b _ z
      obtain⟨e2,_⟩:=hok' b _ z2
      rw[e]at e1;cases e1
      exact e2
 cases hk:K.lookup a with
 |some o=>
  have e:=KX a o hk
  rw[ha]at e
  cases e
  refine core (λ_=>none) (λ_=>.inl rfl) (.inr ⟨_,vs.toArray,_,hk,rfl,rfl,rfl,by rw[Α,lenV];exact hl,by simpa using rv⟩) (λb u z=>by have z':(none:Option HO)=some u:=z;cases z') (λb z=>absurd rfl z) λz=>absurd rfl z
 |none=>
  refine core (λb=>if b=a then some (.frz {cls:=.type "list",data:=.seq vs.toArray} (.lst (ns.map V.int)))else none) (λb=>?_) (.inl (.inr ⟨{cls:=.type "list",data:=.seq vs.toArray},Q5 rfl⟩)) (λb u z=>?_) (λb z=>?_) λ_=>hk
  ·by_cases hb:b=a
   ·exact .inr ⟨_,_,Q5 hb⟩
   ·exact .inl (Q6 hb)
  ·by_cases hb:b=a
   ·have z':=(Q5 hb).symm.trans z
    cases z'
    subst hb
    exact⟨ha,by rw[η];exact hl,vs,_,rv,ha⟩
   ·have z':=(Q6 hb).symm.trans z
    cases z'
  ·by_cases hb:b=a
   ·exact hb
   ·exact absurd (Q6 hb) z
theorem walk_of{l:CN}{n k:Nat}{q:υ}{loose:List Str}{XP:(Str->Option δ)->Heap->Prop}{YP:Μ->Heap->Prop}{d:DefRec}{K:Params->ζ}{CX:Μ->CXT}{sp:Μ->Sp}{x:Str}
  (hn:l.most=some n) (hn2:n<=sizeLine) (hdf:d.params.defaults=[]) (hr:bK k callerA)
  (hY:∀(w:Μ)(h:Heap),YP w h->(K w.params).In h)
  (F:∀(w:Μ)(mg:Str->Option δ)(fa:Addr)(h:Heap),(K w.params).In h->h.Ns mainGlobals mg->mg d.name=some (.ref fa) ->
   ∃fd:Η,(∀(s:θ)(u:δ),C3 s fd ⟨[u],[]⟩ [(x,u)]) /\
    ∀base:Heap,(K w.params).In base->base.Ns mainGlobals mg->aw l.prog w (K w.params) mg base (CX w) k fa fd [x] (sp w))
  (hsp:∀(w:Μ)(H:Hp)(a:Addr)(ns:List Int),ns.length<=n->yx H->SqL (K w.params) H a (ns.map V.int)->sp w [.ref a] H (λv _=>v=.bl true) λ_ _ _=>False)
  (hCX:∀(w:Μ)(H:Hp)(s:θ)(e:δ)(s':θ),CX w [] H s (λ_ _ _=>False) e s'->False):
  PySem.W.WalkO q loose XP YP l.row.toRowW d [] (λf vs=>PySem.call f vs):=by
 refine Att.attach_call hn hdf λw s₀ s₁ mg mb fa o pm cd doc a vs ns G Y ho hd hcd hmg hobj hints hlen hg=>?_
 have KX:=hY w _ Y
 obtain⟨fd,hb,hF⟩:=F w mg fa _ KX G.T.g hmg
 exact uN KX G.T.g G.T.b G.T.builtins G.T.nolimit hg hobj hints (ϲ hlen hn2) hr hF hb (λH hO hS=>hsp w H a ns hlen hO hS) λH e s'=>hCX w H s₁ e s'
def bP(s:Stmt):Arguments:=match s with
 |.FunctionDef _ a _ _ _ _ _ _ _ _=>a
 |_=>{posonlyargs:=[],args:=[],vararg:=none,kwonlyargs:=[],kw_defaults:=[],kwarg:=none,defaults:=[]}
def bD(s:Stmt):List Stmt:=match s with
 |.FunctionDef _ _ b _ _ _ _ _ _ _=>b
 |_=>[]
def ah(s:Stmt):Bz:=match s with
 |.FunctionDef _ _ _ _ _ _ sc _ _ _=>sc
 |_=>{kind:=.function,names:=[],isGenerator:=false,isCoroutine:=false}
abbrev CX0:CXT:=λ_ _ _ _ _ _=>False
abbrev E0:XK:=λ_ _ _=>False
theorem dH{X:Cx}:dW CX0 X E0:=λ_ _ _ _ _ _ _ h=>h.elim
structure Fun(K:ζ)(x qual:Str)(st:Stmt)(f:Addr)(fd:Η):Prop where
 ex:∃(oc:δ) (od:Option Addr) (kV doc pm:δ) (an:Option Addr) (cdv ct:δ) (osl:Array (Option δ)),
  fd=e9 x qual (bP st) (bD st) (ah st) .none kV doc pm an cdv ct/\K.lookup f=some ⟨oc,od,.func fd,osl⟩/\l_ K cdv qual=true
 kp:Ϟ K (.ref f)=true
section
variable{P:υ}{w:Μ}{K:ζ}{mg:Str->Option δ}{base:Heap}
theorem Fun.ok{x qual:Str}{st:Stmt}{f:Addr}{fd:Η}{N ps:List Str}{k:Nat}{sp:Sp}(F:Fun K x qual st f fd)(S:ao N ps (ah st))(len:∀vs H Q E,sp vs H Q E->vs.length=ps.length)
  (hbody:∀(cdv:δ)(A:Ρ)(outer:List Env)(s:θ)(H:Hp)(vs:List V)(Q:VK)(E:XK),bK k (A.deeper (envOfC qual (ah st) s.heap.objs.size f cdv))->sp vs H Q E ->
   ∃t,PSs (bo CX0 P w K mg base N qual (ah st) f cdv A outer s H E).nox (bD st) t/\t {nx:=λ_ H'=>Q .non H',rt:=Q} (gU N vs) H):aw P w K mg base CX0 (k+1) f fd ps sp:=by
 obtain⟨oc,od,kV,doc,pm,an,cdv,ct,osl,rfl,lk,hcd⟩:=F.ex
 refine As lk hcd S len λA outer s H vs Q E hr hsp=>?_
 obtain⟨t,h,q⟩:=hbody cdv A outer s H vs Q E hr hsp
 exact⟨t,h.nox,q⟩
theorem Fun.binds{x qual:Str}{st:Stmt}{f:Addr}{fd:Η}{ps:List Str}(F:Fun K x qual st f fd)
  (h:∀(kV doc pm:δ)(an:Option Addr)(cdv ct:δ)(us:List δ),us.length=ps.length->bindArgs (e9 x qual (bP st) (bD st) (ah st) .none kV doc pm an cdv ct) ⟨us,[]⟩=pure (ps.zip us)):bA K fd ps []:=by
 obtain⟨oc,od,kV,doc,pm,an,cdv,ct,osl,rfl,lk,hcd⟩:=F.ex
 exact .all (h kV doc pm an cdv ct)
theorem iR{x qual:Str}{st:Stmt}{f:Addr}{oc:δ}{od an:Option Addr}{osl:Array (Option δ)}{kV doc pm cdv ct:δ}(l:K.lookup f=some ⟨oc,od,.func (e9 x qual (bP st) (bD st) (ah st) .none kV doc pm an cdv ct),osl⟩)
  (c:l_ K cdv qual=true) (k:Ϟ K (.ref f)=true):Fun K x qual st f (e9 x qual (bP st) (bD st) (ah st) .none kV doc pm an cdv ct):=⟨⟨oc,od,kV,doc,pm,an,cdv,ct,osl,rfl,l,c⟩,k⟩
end
theorem xF{A:Ρ}{k:Nat}(hr:bK k A):A.units+1<cLine:=Nat.lt_of_le_of_lt (Nat.add_le_add_left (by decide:1<=64) _) hr.units
theorem sR{n:Nat}(h:n<=1000):n<sizeLine:=Nat.lt_of_le_of_lt h ()
section
variable{X:Cx}
theorem pv(i:Nat){x:Str}{pos:Pos}(hN:X.N[i]?=some x:=by rfl)(hv:Vis X.env.scope x:=by first|exact Ε rfl|exact Bw (Ε rfl)|exact Bw (Bw rfl))(hd:(x==("__debug__" : Str))=false:=by decide)
  (hcd:(x==("__classdict__" : Str))=false:=by decide):PE X (.Name x pos) (fz i):=vH hN hv hd hcd
end
theorem aG{A B:Prop}(h:B):if false=true then A else B:=by
 rw[Q6 Κ]
 exact h
theorem aF{A B:Prop}(h:A):if true=true then A else B:=by
 rw[Q5 rfl]
 exact h
theorem ap{c A B:Prop}[Decidable c](h1:c->A)(h2:¬ c->B):if c then A else B:=by
 by_cases h:c
 ·rw[Q5 h]
  exact h1 h
 ·rw[Q6 h]
  exact h2 h
theorem xJ{c A B:Prop}[Decidable c](hc:c)(h:B):if (!decide c)=true then A else B:=by
 rw[Q9 hc]
 exact aG h
def ai(H H':Hp):Prop:=∀b o,H b=some o->H' b=some o
theorem ai.refl(H:Hp):ai H H:=λ_ _ h=>h
theorem ai.trans{H H1 H2:Hp}(a:ai H H1)(b:ai H1 H2):ai H H2:=λc o h=>b c o (a c o h)
theorem ai.free{H H':Hp}(e:ai H H'){l:Addr}(h:H' l=Option.none):H l=Option.none:=by
 cases q:H l with
 |none=>rfl
 |some o=>
  rw[e l o q]at h
  cases h
theorem ai.seq{K:ζ}{H H':Hp}{a:Addr}{xs:List V}(e:ai H H')(h:SqL K H a xs):SqL K H' a xs:=by
 rcases h with (h|⟨o,h⟩)|h
 ·exact .inl (.inl (e _ _ h))
 ·exact .inl (.inr ⟨o,e _ _ h⟩)
 ·exact .inr h
section
variable{κ:Type}[DecidableEq κ]
end
theorem wD{prog:υ}{w:Μ}{A:Ρ}{R:C0->θ->Prop}{s:θ}{elt target iter:Expr}{ifs:List Expr}{scope:Bz}{pos:Pos}{it acc:δ}{env:Env}(I:Nat->θ->Prop)
  (turn:∀n s,I n s->wpAny (model prog w) A (pyNext it) (λr s₁=>match r with
   |none=>R (.ok .next) s₁
   |some v=>wpAny (model prog w) A (letOwnedTupleGo target it v) (λ_ s₁'=>wpAny (model prog w) A (assign target env v) (λ_ s₂=>
     wpAny (model prog w) A (forIn ifs true λc r=>if r=true then do let ok <-isTrue c env (eval c env);pure (v_ ok)else pure (v_ r)) (λok s₃=>
      if ok=true then wpAny (model prog w) A (eval elt env) (λx s₄=>
       wpAny (model prog w) A (call (.builtin "list.append") [acc,x]) (λ_ s₅=>∃m,m<n/\I m s₅) (λ_ _=>False) s₄) (λ_ _=>False) s₃
      else ∃m,m<n/\I m s₃) (λ_ _=>False) s₂) (λ_ _=>False) s₁') (λ_ _=>False) s₁) (λ_ _=>False) s)
  (n:Nat) (h:I n s):
  codeAny (model prog w) A (.compLoop (.ListComp elt [⟨target,iter,ifs,0⟩] scope pos) 0 it acc env) R s:=by
 refine codeAny_loop rfl I (λn s hI=>?_) n h
 show wpAny _ A ((compTurn (.ListComp elt [⟨target,iter,ifs,0⟩] scope pos) 0 it acc env).onRaise (λx=>do noteFrame x env;theTreesLotGoes x)) _ _ s
 refine wpAny_noted ?_
 rw[compTurn_list]
 have no:∀{E:δ->θ->Prop}(x:δ)(s:θ),False->E x s:=λ_ _ z=>z.elim
 refine ε (wpAny_standAt (ε (j4 (turn n s hI) (λr s₁ h₁=>?_) no)))
 cases r with
 |none=>exact ρ h₁
 |some v=>
  refine ε (j4 h₁ (λ_ s₁' h₁'=>?_) no)
  refine ε (j4 h₁' (λ_ s₂ h₂=>ε (j4 h₂ (λok s₃ h₃=>?_) no)) no)
  cases ok with
  |false=>exact ρ ⟨rfl,h₃⟩
  |true=>
   exact ε (ε (j4 h₃ (λx s₄ h₄=>ε (j4 h₄ (λ_ s₅ h₅=>ρ (ρ ⟨rfl,h₅⟩)) no)) no))
def aR(env:Env):List (Str×y6)->List (Str×Addr)->List (Str×Addr)
 |[],acc=>acc
 |(n,k)::r,acc=>if k=.free then aR env r (match env.cells.lookup n with|some c=>(n,c)::acc|none=>acc)else aR env r acc
theorem nK{env:Env}{scope:Bz}(h:∀x∈scope.names,x.2=.free->∃c,env.cells.lookup x.1=some c):closureFor scope env=pure (aR env scope.names []):=by
 have all:∀(l:List (Str×y6))(acc:List (Str×Addr)),(∀x∈l,x.2=Ψ->∃c,env.cells.lookup x.1=some c) ->
   (forIn l acc λx cs=>(do
    if x.2==Ψ then
     let a <-cellOf env x.1
     pure (v_ ((x.1,a)::cs))
    else pure (v_ cs):Sem _))=pure (aR env l acc):=by
  intro l
  induction l with
  |nil=>intro acc _;rfl
  |cons x r ih=>
   intro acc hl
   obtain⟨n,k⟩:=x
   have hr:=λy hy=>hl y (χ _ hy)
   rw[A9]
   by_cases hk:k=.free
   ·subst hk
    obtain⟨c,hc⟩:=hl (n,.free) ξ rfl
    simp only[beq_self_eq_true,if_true,aR]
    have e:cellOf env n=pure c:=by unfold cellOf;rw[show env.cells.lookup n=some c from hc]
    rw[e]
    simp only[pure_bind]
    rw[ih _ hr,show env.cells.lookup n=some c from hc]
   ·have hb:(k==Ψ)=false:=by simpa using hk
    simp only[hb,Bool.false_eq_true,if_false,aR,Q6 hk,pure_bind]
    exact ih _ hr
 unfold closureFor
 exact(congrArg (λt:Sem (List (Str×Addr))=>t>>=pure) (all scope.names [] h)).trans ()
theorem bg{env:Env}:∀(l:List (Str×y6))(acc:List (Str×Addr)),(∀n c,acc.lookup n=some c->env.cells.lookup n=some c)->∀n c,(aR env l acc).lookup n=some c->env.cells.lookup n=some c
 |[],acc,h,n,c,e=>h n c e
 |(m,k)::r,acc,h,n,c,e=>by
  unfold aR at e
  split at e
  ·refine bg r _ ?_ n c e
   intro n' c' e'
   split at e'
   ·rename_i c0 hc0
    rw[Ϙ]at e'
    split at e'
    ·rename_i hb
     have:n'=m:=by simpa using hb
     subst this
     cases e'
     exact hc0
    ·exact h n' c' e'
   ·exact h n' c' e'
  ·exact bg r _ h n c e
theorem dz{env:Env}{n:Str}:∀(l:List (Str×y6))(acc:List (Str×Addr)),(∃c,acc.lookup n=some c)->∃c,(aR env l acc).lookup n=some c
 |[],acc,h=>h
 |(m,k)::r,acc,h=>by
  unfold aR
  split
  ·refine dz r _ ?_
   obtain⟨c,hc⟩:=h
   split
   ·rw[Ϙ]
    split
    ·exact⟨_,rfl⟩
    ·exact⟨c,hc⟩
   ·exact⟨c,hc⟩
  ·exact dz r _ h
theorem cC{env:Env}{n:Str}(hc:∃c,env.cells.lookup n=some c):∀(l:List (Str×y6))(acc:List (Str×Addr)),(n,Ψ)∈l->∃c,(aR env l acc).lookup n=some c
 |[],_,h=>by cases h
 |(m,k)::r,acc,h=>by
  obtain⟨c,hc⟩:=hc
  unfold aR
  rcases ν.mp h with e|h
  ·cases e
   rw[Q5 rfl,hc]
   exact dz r _ ⟨c,()⟩
  ·split
   ·exact cC ⟨c,hc⟩ r _ h
   ·exact cC ⟨c,hc⟩ r _ h
def Cx.comp(X:Cx)(N:List Str)(scope:Bz)(fp:List Addr)(s:θ)(H:Hp):Cx where
 prog:=X.prog
 w:=X.w
 K:=X.K
 mg:=X.mg
 base:=X.base
 A:=X.A
 N:=N
 s₀:=s
 H₀:=H
 env:=compEnvC scope (aR X.env scope.names []) (s.heap.objs.size+1) X.env
 outer:=X.stack
 stack:=X.stack
 ex:=fp
 calm:=X.calm
 fn:=λ_=>false
 pn:=[]
 xe:=λ_ _=>False
def cZ(k:Nat)(ix:List Nat)(σ:St):St:=B9 k none++ix.map λj=>(σ[j]?).join
structure cV(N:List Str)(sc:Bz)(scope:Bz)(own:List Str)(ix:List Nat):Prop where
 kind:scope.kind=.function
 nocell:∀y∈scope.names,y.2≠.cell
 names:∀y∈scope.names,y.2=.local->scope.names.lookup y.1=some .local
 free:∀y∈scope.names,y.2=.free->sc.names.lookup y.1=some .cell\/sc.names.lookup y.1=some .free
 cap:∀j∈ix,∀x,N[j]?=some x->(x,Ψ)∈scope.names/\(scope.names.lookup x=some .free)
 inN:∀j∈ix,j<N.length
abbrev lcN(N own:List Str)(ix:List Nat):List Str:=own++ix.filterMap λj=>N[j]?
theorem wq{N own:List Str}{ix:List Nat}(h:∀j∈ix,j<N.length):(lcN N own ix).length=own.length+ix.length:=by
 unfold lcN
 rw[Ζ]
 congr 1
 induction ix with
 |nil=>rfl
 |cons j r ih=>
  have hj:j<N.length:=h j ξ
  rw[r6,ς hj]
  show _+1=_+1
  rw[ih λi hi=>h i (χ _ hi)]
theorem eU{N:List Str}:∀{ix:List Nat},(∀j∈ix,j<N.length)->∀{i:Nat}{x:Str},(ix.filterMap λj=>N[j]?)[i]?=some x->∃j,ix[i]?=some j/\N[j]?=some x
 |[],_,i,x,e=>by simp at e
 |j::r,h,i,x,e=>by
  have hj:j<N.length:=h j ξ
  rw[r6,ς hj]at e
  cases i with
  |zero=>
   refine⟨j,rfl,?_⟩
   rw[ς hj]
   exact e
  |succ i=>
   obtain⟨j',e1,e2⟩:=eU (λi hi=>h i (χ _ hi)) (i:=i) (x:=x) (by simpa using e)
   exact⟨j',by simpa using e1,e2⟩
theorem kE{k:Nat}{ix:List Nat}{σ:St}{i:Nat}{v:V}(h:(cZ k ix σ)[i]?=some (some v)):∃i' j,i=k+i'/\ix[i']?=some j/\σ[j]?=some (some v):=by
 unfold cZ at h
 by_cases hi:i<k
 ·rw[m8 (by simpa using hi),List.getElem?_replicate,Q5 hi]at h
  cases h
 ·rw[ϵ (by simpa using hi),w_,Ν]at h
  refine⟨i-k,?_⟩
  cases e:ix[i-k]? with
  |none=>rw[e]at h;cases h
  |some j=>
   rw[e]at h
   refine⟨j,(),rfl,?_⟩
   have h':(σ[j]?).join=some v:=by simpa using h
   cases q:σ[j]? with
   |none=>rw[q]at h';cases h'
   |some o=>
    rw[q]at h'
    exact congrArg some h'
theorem cw{env:Env}{x:Str}:∀{names:List (Str×y6)},names.lookup x=some .free ->
  (names.map λ(n,k)=>if (k==Ψ&&env.scope.kind==.function&&env.kindOf n==some .cell)then (n,e_)else (n,k)).lookup x=some .cell \/
  (names.map λ(n,k)=>if (k==Ψ&&env.scope.kind==.function&&env.kindOf n==some .cell)then (n,e_)else (n,k)).lookup x=some .free
 |[],h=>by simp at h
 |(n,k)::r,h=>by
  have ih:=@cw env x r
  rw[Ο]
  show ϩ x ((if (k==Ψ&&env.scope.kind==.function&&env.kindOf n==some .cell)=true then (n,e_)else (n,k))::_)=_\/ϩ x ((if (k==Ψ&&env.scope.kind==.function&&env.kindOf n==some .cell)=true then (n,e_)else (n,k))::_)=_
  cases hx:x==n with
  |true=>
   simp only[Ϙ,hx]at h
   cases h
   by_cases hc:(Ψ==Ψ&&env.scope.kind==.function&&env.kindOf n==some .cell)=true
   ·rw[Q5 hc];left;simp only[Ϙ,hx]
   ·rw[Q6 hc];right;simp only[Ϙ,hx]
  |false=>
   simp only[Ϙ,hx]at h
   by_cases hc:(k==Ψ&&env.scope.kind==.function&&env.kindOf n==some .cell)=true
   ·rw[Q5 hc];simp only[Ϙ,hx];exact ih h
   ·rw[Q6 hc];simp only[Ϙ,hx];exact ih h
theorem cn{env:Env}{x:Str}{kd:y6}:∀{names:List (Str×y6)},
  (names.map λ(n,k)=>if (k==Ψ&&env.scope.kind==.function&&env.kindOf n==some .cell)then (n,e_)else (n,k)).lookup x=some kd->(kd=.cell\/kd=.free)->(∀y∈names,y.2≠.cell) ->
  (x,Ψ)∈names
 |[],h,_,_=>by simp at h
 |(n,k)::r,h,hk,hc=>by
  have ih:=@cn env x kd r
  rw[Ο]at h
  have hcr:∀y∈r,y.2≠.cell:=λy hy=>hc y (χ _ hy)
  by_cases hf:k=.free
  ·subst hf
   cases hx:x==n with
   |true=>
    have:x=n:=by simpa using hx
    subst this
    exact ξ
   |false=>
    refine χ _ (ih ?_ hk hcr)
    by_cases hcc:(Ψ==Ψ&&env.scope.kind==.function&&env.kindOf n==some .cell)=true
    ·have h2:ϩ x ((if (Ψ==Ψ&&env.scope.kind==.function&&env.kindOf n==some .cell)=true then (n,e_)else (n,Ψ))::r.map λ(n,k)=>if (k==Ψ&&env.scope.kind==.function&&env.kindOf n==some .cell)then (n,e_)else (n,k))=some kd:=h
     rw[Q5 hcc,Ϙ,hx]at h2
     exact h2
    ·have h2:ϩ x ((if (Ψ==Ψ&&env.scope.kind==.function&&env.kindOf n==some .cell)=true then (n,e_)else (n,Ψ))::r.map λ(n,k)=>if (k==Ψ&&env.scope.kind==.function&&env.kindOf n==some .cell)then (n,e_)else (n,k))=some kd:=h
     rw[Q6 hcc,Ϙ,hx]at h2
     exact h2
  ·have hb:(k==Ψ)=false:=by simpa using hf
   have h2:ϩ x ((if (k==Ψ&&env.scope.kind==.function&&env.kindOf n==some .cell)=true then (n,e_)else (n,k))::r.map λ(n,k)=>if (k==Ψ&&env.scope.kind==.function&&env.kindOf n==some .cell)then (n,e_)else (n,k))=some kd:=h
   rw[hb,Ϭ,Ϭ,Q6 Κ,Ϙ]at h2
   cases hx:x==n with
   |true=>
    rw[hx]at h2
    cases h2
    rcases hk with z|z
    ·exact absurd z (hc (n,_) ξ)
    ·exact absurd z hf
   |false=>
    rw[hx]at h2
    exact χ _ (ih h2 hk hcr)
theorem nlt{a b:Nat}(h:a<b):a≠b:=Ϛ h
theorem ngt{a b:Nat}(h:a<b):b≠a:=u8 h
theorem pW{a b:Nat}(h:a<b):a≠b+1:=Ϛ (Nat.lt_succ_of_lt h)
theorem AO{a b:Nat}(h:a<b):b+1≠a:=u8 (Nat.lt_succ_of_lt h)
theorem nss(a:Nat):a≠a+1:=Ϛ (BK a)
theorem AF(a:Nat):a+1≠a:=u8 (BK a)
section
variable{X:Cx}{pins:List (Addr×Obj)}{σ:St}{H:Hp}{s:θ}{scope:Bz}{own:List Str}{ix:List Nat}{fp:List Addr}
theorem Inv.compOk{N:List Str}(I:Inv X pins σ H s)(L:cV X.N X.env.scope scope own ix)(hf:∀b∈fp,iC X pins H b)(hlt:∀b∈fp,b<s.heap.objs.size):(X.comp N scope fp s H).Ok where
 mod:=I.ok.mod
 kind:=L.kind
 glob:=I.ok.glob
 blt:=I.ok.blt
 above:=CQ _
 inj:=λx y c h1 h2=>I.ok.inj x y c (bg _ _ (λ_ _ z=>by simp at z) x c h1) (bg _ _ (λ_ _ z=>by simp at z) y c h2)
 has:=λx hx=>by
  have hm:(x,Ψ)∈scope.names:=by
   rcases hx with hx|hx
   ·exact cn (env:=X.env) (x:=x) (names:=scope.names) hx (.inl rfl) L.nocell
   ·exact cn (env:=X.env) (x:=x) (names:=scope.names) hx (.inr rfl) L.nocell
  exact cC (I.ok.has x (L.free _ hm rfl)) _ _ hm
 cab:=λx c h=>by cases h
 hd:=I.ok.hd
 frames:=I.ok.frames
 stk:=.inl rfl
 exf:=λb hb=>⟨pW (hlt b hb),λx c e=>(hf b hb).2.2.2.2.1 x c (bg _ _ (λ_ _ z=>by simp at z) x c e)⟩
 bs:=I.bs
 bsz:=ϲ I.ok.bsz I.sz
 noex:=λb o e hb=>by
  rcases(hf b hb).2.2.2.1 with z|z
  ·exact I.ok.noex b o e z
  ·exact absurd (ϑ (Β e) (ϲ I.ok.bsz z)) (q9 _)
 exfs:=λb hb z=>by
  rcases ν.mp (I.stkSub b z)with e|e
  ·exact(hf b hb).2.1 e
  ·exact(hf b hb).2.2.1 e
 funs:=I.stack
 frf:=I.stkFree
theorem Inv.compStart{h1:Heap}{tk:Nat}(I:Inv X pins σ H s)(L:cV X.N X.env.scope scope own ix)(hf:∀b∈fp,iC X pins H b)(hlt:∀b∈fp,b<s.heap.objs.size)
  (k:∀b o,s.heap.get? b=some o->h1.get? b=some o) {m:Str->Option δ} (hn:h1.Ns (s.heap.objs.size+1) m):
  Inv (X.comp (lcN X.N own ix) scope fp s H) [] (cZ own.length ix σ) H {s with heap:=h1,toks:=tk}:=by
 have sub:=λx c=>bg (env:=X.env) scope.names [] (λ_ _ z=>by simp at z) x c
 refine⟨I.compOk L hf hlt,rfl,I.bare,Un.kept k,⟨m,hn,λi x v e1 e2 e3=>?_⟩,λx c e=>?_,I.hok.fresh (CQ _),λx c e=>I.freeC x c (sub x c e),λp hp=>absurd (show p∈([]:List (Addr×Obj))from hp) (),I.hok.kept k,?_⟩
 ·obtain⟨i',j,rfl,hj,hv⟩:=kE e2
  have e1':(lcN X.N own ix)[own.length+i']?=some x:=e1
  unfold lcN at e1'
  rw[ϵ (Ϻ _ _),Nat.add_sub_cancel_left]at e1'
  obtain⟨j',hj',hN⟩:=eU L.inN e1'
  rw[hj]at hj'
  cases hj'
  have hjm:j∈ix:=ϊ hj
  obtain⟨hmem,hlk⟩:=L.cap j hjm x hN
  have hkind:=L.free _ hmem rfl
  obtain⟨m0,hn0,hl0⟩:=I.loc
  obtain⟨u,r,l⟩:=hl0 j x v hN hv (by rcases hkind with z|z;exact .inr (.inl z);exact .inr (.inr z))
  refine⟨u,r,.inr ⟨?_,?_⟩⟩
  ·exact cw (env:=X.env) hlk
  ·rcases l with ⟨kl,_⟩|⟨_,c,hc,hcell⟩
   ·have kl':X.env.scope.names.lookup x=some .local:=kl
    rcases hkind with z|z
    ·rw[kl']at z;cases z
    ·rw[kl']at z;cases z
   ·obtain⟨c',hc'⟩:=cC (env:=X.env) ⟨c,hc⟩ scope.names [] hmem
    have:c'=c:=by
     have q:=sub x c' hc'
     rw[hc]at q
     exact(ϕ q).symm
    subst this
    obtain⟨o,ho,hd⟩:=hcell
    exact⟨c',hc',o,k _ _ ho,hd⟩
 ·obtain⟨v,o,ho,hd⟩:=I.cell x c (sub x c e)
  exact⟨v,o,k _ _ ho,hd⟩
 ·show(cZ own.length ix σ).length=(lcN X.N own ix).length
  rw[wq L.inN]
  unfold cZ
  rw[Ζ,w_,η]
def GW(k:Nat)(g:TG):Prop:=∀x (σ:St) H (Q:St->Hp->Prop),g x σ H Q->g x σ H λσ2 H2=>Q σ2 H2/\σ2.length=σ.length/\∀j,k<=j->σ2[j]?=σ[j]?
theorem bf{k i:Nat}(h:i<k):GW k (cP i):=λx σ H Q q=>⟨q,(),λj hj=>by rw[BP ()]⟩
def GWs(k:Nat)(g:TGs):Prop:=∀x (σ:St) H (Q:St->Hp->Prop),g x σ H Q->g x σ H λσ2 H2=>Q σ2 H2/\σ2.length=σ.length/\∀j,k<=j->σ2[j]?=σ[j]?
def GM(g:TG):Prop:=∀x (σ:St) H (Q Q':St->Hp->Prop),(∀s h,Q s h->Q' s h)->g x σ H Q->g x σ H Q'
theorem lm{i:Nat}:GM (cP i):=λ_ _ _ _ _ h q=>h _ _ q
theorem wI{k:Nat}:GWs k sV:=λx σ H Q q=>⟨q.1,q.2,rfl,λ_ _=>rfl⟩
theorem nH{k:Nat}{t:TG}{u:TGs}(ht:GW k t)(hu:GWs k u)(mt:GM t)(mu:∀x (σ:St) H (Q Q':St->Hp->Prop),(∀s h,Q s h->Q' s h)->u x σ H Q->u x σ H Q'):GWs k (gL t u):=λx σ H Q q=>by
 obtain⟨v,r,e,q⟩:=q
 refine⟨v,r,e,mt _ _ _ _ _ ?_ (ht _ _ _ _ q)⟩
 rintro σ1 H1 ⟨q1,l1,j1⟩
 refine mu _ _ _ _ _ ?_ (hu _ _ _ _ q1)
 rintro σ2 H2 ⟨q2,l2,j2⟩
 exact⟨q2,l2.trans l1,λj hj=>(j2 j hj).trans (j1 j hj)⟩
theorem qY:∀x (σ:St) H (Q Q':St->Hp->Prop),(∀s h,Q s h->Q' s h)->sV x σ H Q->sV x σ H Q':=λ_ _ _ _ _ h q=>⟨q.1,h _ _ q.2⟩
theorem vi{t:TG}{u:TGs}(mt:GM t)(mu:∀x (σ:St) H (Q Q':St->Hp->Prop),(∀s h,Q s h->Q' s h)->u x σ H Q->u x σ H Q'):∀x (σ:St) H (Q Q':St->Hp->Prop),(∀s h,Q s h->Q' s h)->gL t u x σ H Q->gL t u x σ H Q':=
 λ_ _ _ _ _ h ⟨v,r,e,q⟩=>⟨v,r,e,mt _ _ _ _ _ (λ_ _ q1=>mu _ _ _ _ _ h q1) q⟩
theorem yT{k:Nat}{K:ζ}{n:Nat}{t:TGs}(ht:GWs k t):GW k (wO K n t):=λx σ H Q q=>by
 obtain⟨a,xs,e,hq,hl,q⟩:=q
 exact⟨a,xs,e,hq,hl,ht _ _ _ _ q⟩
theorem iQ{K:ζ}{i j k:Nat}(hi:i<k)(hj:j<k):GW k (wO K 2 (gL (cP i) (gL (cP j) sV))):=
 yT (nH (bf hi) (nH (bf hj) wI lm qY) lm (vi lm qY))
def PIf(X:Cx)(ifs:List Expr)(t:TT):Prop:=
 ∀(pins:List (Addr×Obj))(s:θ)(σ:St)(H:Hp)(Q:Bool->Hp->Prop),Inv X pins σ H s->t σ H Q ->
  wpAny (model X.prog X.w) X.A (forIn ifs true λc r=>if r=true then do let ok <-isTrue c X.env (eval c X.env);pure (v_ ok)else pure (v_ r)) (TP X pins σ Q) X.xe s
def vG:TT:=λ_ H Q=>Q true H
theorem pif_nil:PIf X [] vG:=λ_ _ _ H _ I h=>wpAny_tests_nil ⟨H,I,h⟩
theorem xt{c:Expr}{t:TT}(h:PT X c t):PIf X [c] t:=λpins s σ H Q I q=>wpAny_tests_one (h pins s σ H Q I q)
def rLC(J:It)(k:Nat)(ix:List Nat)(g:TG)(tt:TT)(te:TE)(σ:St)(H1:Hp)(Q:List V->Hp->Prop):Prop:=
 ∃W:Nat->Nat->List V->Hp->Prop,(∃m,W 0 m [] H1)/\∀i m ys H,W i m ys H ->
  (J.stop i H/\Q ys H) \/
  (J.go i H/\∃N:List V->Hp->Prop,(∀ys' H',N ys' H'->∃m',m'<m/\W (i+1) m' ys' H')/\∀x H',J.yld i H x H'->g x (cZ k ix σ) H' λσ2 H2=>tt σ2 H2 λc H3=>
   if c=true then te σ2 H3 λy H4=>ys.length<sizeLine/\N (ys++[y]) H4
   else N ys H3)
theorem mK{elt tg iter:Expr}{ifs:List Expr}{pos:Pos}{it:Addr}{tn:Nat->Heap->Prop}{J:It}{g:TG}{tt:TT}{te:TE}{E:δ->θ->Prop}{Qf:List V->Hp->Prop}{RR:δ->Addr->C0->θ->Prop}
  (L:cV X.N X.env.scope scope own ix) (hc:X.calm=true) (hg:∀fp s H,PG (X.comp (lcN X.N own ix) scope fp s H) tg g) (gw:GW own.length g)
  (ht:∀fp s H,PIf (X.comp (lcN X.N own ix) scope fp s H) ifs tt) (he:∀fp s H,PE (X.comp (lcN X.N own ix) scope fp s H) elt te)
  (I:Inv X pins σ H s) (T:jR X.prog X.w X.K tg J fp it tn) (st:tn 0 s.heap) (hf:∀b∈fp,iC X pins H b)
  (hw:rLC J own.length ix g tt te σ H Qf)
  (hRR:∀(D C:Addr)(s':θ)(ys:List V)(H':Hp)(m:Str->Option δ),s'.heap.Ns C m->C≠X.env.locals->(∀x c,X.env.cells.lookup x=some c->c≠C)->X.s₀.heap.objs.size<=C->(∀p∈X.pn++pins,p.1≠C)->upd H' D (.lst ys) C=none->H' D=none ->
   Inv X pins σ (upd H' D (.lst ys)) s'->Qf ys H'->RR (.ref D) C (.ok .next) s'):
  wpAny (model X.prog X.w) X.A (newList []) (λacc s₃=>wpAny (model X.prog X.w) X.A (newFunctionEnv scope X.env.globals (aR X.env scope.names []) [] X.env.qual none .none (some X.env)) (λcenv s₄=>
   codeAny (model X.prog X.w) X.A (.compStart (.ListComp elt [⟨tg,iter,ifs,0⟩] scope pos) 0 (.ref it) acc {cenv with scope:=relabel scope X.env}) (RR acc cenv.locals) s₄) E s₃) E s:=by
 obtain⟨W,⟨m0,w0⟩,turn⟩:=hw
 have hlt:∀b∈fp,b<s.heap.objs.size:=λb hb=>by
  obtain⟨o,e,_⟩:=T.obj 0 s.heap st b hb
  exact Β e
 refine ϱ (wpAny_newFunctionEnv L.nocell (by intro y hy;simp at hy) (λh₁ hns₁ hsb₁=>?_) L.kind)
 dsimp only at hns₁ hsb₁⊢
 generalize hH2:s.heap.push {cls:=.type "list",dict:=none,data:=.seq ([]:List δ).toArray}=h2 at hns₁ hsb₁⊢
 have hC:h2.objs.size=s.heap.objs.size+1:=by rw[<-hH2,d_]
 have old:∀b o,s.heap.get? b=some o->h₁.get? b=some o:=λb o e=>by
  exact hsb₁.extBut b o (by rw[hC];exact pW (Β e)) (ο _ (hH2▸ο _ e))
 have hacc:h₁.PlainList s.heap.objs.size #[]:=⟨_,hsb₁.extBut _ _ (by rw[hC];exact nss _) (ο _ (hH2▸Δ _ rfl))⟩
 have hD0:H s.heap.objs.size=none:=I.hok.fresh (π _)
 rw[hC]at hns₁
 have I0:=I.compStart (tk:=s.toks+([]:List (Str×δ)).length) L hf hlt old hns₁
 have sub:=λx c=>bg (env:=X.env) scope.names [] (λ_ _ z=>by simp at z) x c
 have cellLt:∀x c,X.env.cells.lookup x=some c->c<s.heap.objs.size:=λx c e=>by
  obtain⟨v,q⟩:=I.cell x c e
  exact q.lt
 have stkLt:∀b∈frs X.stack,b<s.heap.objs.size:=λb hb=>by
  obtain⟨_,o,ho,_⟩:=I.stack.mem hb
  exact Β ho
 have env_eq:({newEnv scope h2.objs.size X.env.globals (aR X.env scope.names []) X.env.qual none .none (some X.env) builtinsNs with scope:=relabel scope X.env}:Env)=(X.comp (lcN X.N own ix) scope fp s H).env:=by
  show compEnvC scope (aR X.env scope.names []) h2.objs.size X.env=compEnvC scope (aR X.env scope.names []) (s.heap.objs.size+1) X.env
  rw[hC]
 have loop:codeAny (model X.prog X.w) X.A (.compLoop (.ListComp elt [⟨tg,iter,ifs,0⟩] scope pos) 0 (.ref it) (.ref s.heap.objs.size) (X.comp (lcN X.N own ix) scope fp s H).env) (RR (.ref s.heap.objs.size) (s.heap.objs.size+1))
   {s with heap:=h₁,toks:=s.toks+([]:List (Str×δ)).length}:=by
  refine wD (λn s'=>∃i ys H',Inv (X.comp (lcN X.N own ix) scope fp s H) [] (cZ own.length ix σ) H' s'/\tn i s'.heap/\(∀b∈fp,H' b=none)/\H' s.heap.objs.size=none /\
   (∃its:List δ,aD ys its/\s'.heap.PlainList s.heap.objs.size its.toArray)/\ys.length<=sizeLine/\W i n ys H') ?_ m0
   ⟨0,[],H,I0,T.keep _ _ _ st (λb _ o e=>old b o e),λb hb=>(hf b hb).1,hD0,⟨[],.nil,hacc⟩,Υ _,w0⟩
  rintro n s3 ⟨i,ys,H3,I3,st3,fr3,d3,⟨its,rv,n3,hp3⟩,hz,w3⟩
  have Ip:=I3.pins_of (pins':=[(s.heap.objs.size,{cls:=.type "list",data:=.seq its.toArray n3})]) (λp hp=>by
   have e:p=(s.heap.objs.size,{cls:=.type "list",data:=.seq its.toArray n3}):=by simpa using hp
   subst e
   exact⟨hp3,d3,nss _,λz=>absurd (stkLt _ z) (q9 _),λv z=>by cases z⟩)
  have stat:∀{H':Hp},(∀b∈fp,H' b=none)->∀b∈fp,iC (X.comp (lcN X.N own ix) scope fp s H) [(s.heap.objs.size,{cls:=.type "list",data:=.seq its.toArray n3})] H' b:=λhn b hb=>
   ⟨hn b hb,pW (hlt b hb),I3.ok.exfs b hb,.inl hb,λx c e=>(I3.ok.exf b hb).2 x c e,λp hp=>by
    have e:p=(s.heap.objs.size,{cls:=.type "list",data:=.seq its.toArray n3}):=by simpa using(show p∈([]:List (Addr×Obj))++[(s.heap.objs.size,{cls:=.type "list",data:=.seq its.toArray n3})]from hp)
    subst e
    exact ngt (hlt b hb)⟩
  rcases turn i n ys H3 w3 with ⟨stop,qf⟩|⟨go,N,hN,step⟩
  ·refine thn (T.done (X.comp (lcN X.N own ix) scope fp s H) rfl rfl rfl hc i _ s3 _ H3 _ Ip (stat fr3) st3 stop) λr s4 ⟨hr,I4⟩=>?_
   subst hr
   obtain⟨e4,d4,_⟩:=I4.pin (s.heap.objs.size,{cls:=.type "list",data:=.seq its.toArray n3}) (ό _ ξ)
   obtain⟨mC,hnC,_⟩:=I4.loc
   have hok:HOk X.prog X.w (upd H3 s.heap.objs.size (.lst ys)) s4.heap:=λb u e=>by
    by_cases hb:b=s.heap.objs.size
    ·subst hb
     rw[aa]at e
     cases e
     exact⟨hz,its,n3,rv,e4⟩
    ·rw[aq hb]at e
     exact(I4.hok b u e).stay (λc v _ q=>q) (λc q=>by rw[aq (aj q d4)];exact q) λc xs q=>by rw[aq (aj q d4)];exact q
   have ub:=I4.base
   have un:Un (frs X.stack) fp H (upd H3 s.heap.objs.size (.lst ys)) s.heap s4.heap:=
    ⟨ub.keep,ub.slot,λb o e n hx=>by rw[aq (Ϛ (Β e))];exact ub.free b o e n hx,ub.there,
     λb xs e=>by rw[aq (aj (ub.tups b xs e) d4)];exact ub.tups b xs e,λb o u e=>by rw[aq (aj (ub.frzs b o u e) d4)];exact ub.frzs b o u e,
     λb ps e=>by
      obtain⟨more,q⟩:=ub.tbls b ps e
      exact⟨more,by rw[aq (aj q d4)];exact q⟩⟩
   have I5:Inv X pins σ (upd H3 s.heap.objs.size (.lst ys)) s4:=I.call' I4.os un hok I4.bare λb hb=>by
    obtain⟨f0,f1,f2,f3,f4,f5⟩:=hf b hb
    exact⟨f3,f1,f4,f5⟩
   refine hRR _ _ s4 ys H3 mC hnC ?_ ?_ ?_ ?_ ?_ d4 I5 qf
   ·exact AO I.lt
   ·intro x c e
    exact pW (cellLt x c e)
   ·exact ϲ I.sz (CQ _)
   ·intro p hp
    exact pW (Β (I.pin p hp).1)
   ·rw[aq (AF _)]
    exact I4.free
  ·refine thn (T.item (X.comp (lcN X.N own ix) scope fp s H) rfl rfl rfl hc i _ s3 _ H3 _ Ip (stat fr3) st3 go) λr s4 ⟨u,hr,h4⟩=>?_
   subst hr
   refine thn h4 λ_ s5 ⟨x,H5,I5,r5,y5,st5,fr5⟩=>?_
   have I5':=I5.pinned (stat fr5) (T.obj _ _ st5)
   refine thn (hg fp s H _ s5 _ H5 x u _ I5' r5 (gw _ _ _ _ (step x H5 y5))) λ_ s6 ⟨σ6,H6,I6,q6,l6,k6⟩=>?_
   refine thn (ht fp s H _ s6 σ6 H6 _ I6 q6) λc s7 ⟨H7,I7,q7⟩=>?_
   have again:∀{s8:θ}{H8:Hp},Inv (X.comp (lcN X.N own ix) scope fp s H) ([(s.heap.objs.size,{cls:=.type "list",data:=.seq its.toArray n3})]++jh fp s5.heap) σ6 H8 s8 ->
     Inv (X.comp (lcN X.N own ix) scope fp s H) [] (cZ own.length ix σ) H8 s8/\tn (i+1) s8.heap/\(∀b∈fp,H8 b=none)/\H8 s.heap.objs.size=none/\s8.heap.get? s.heap.objs.size=some {cls:=.type "list",data:=.seq its.toArray n3}:=λ{s8 H8} I8=>by
    obtain⟨e8,d8,_⟩:=I8.pin (s.heap.objs.size,{cls:=.type "list",data:=.seq its.toArray n3}) (ό _ (x_ _ ξ))
    refine⟨(I8.pins_of (pins':=[]) λp hp=>by cases hp).weak l6.symm λj v e=>?_,T.keep _ _ _ st5 λb hb o e=>(I8.pin (b,o) (ό _ (ό _ (dF hb e)))).1,λb hb=>?_,d8,e8⟩
    ·obtain⟨i',j',rfl,_,_⟩:=kE e
     rw[k6 _ (Ϻ _ _)]
     exact e
    ·obtain⟨o,e,d⟩:=T.obj _ _ st5 b hb
     exact(I8.pin (b,o) (ό _ (ό _ (dF hb e)))).2.1
   cases c with
   |false=>
    rw[Q6 Κ]at q7⊢
    obtain⟨m',hm,w7⟩:=hN _ _ q7
    obtain⟨a1,a2,a3,a4,a5⟩:=again I7
    exact⟨m',hm,i+1,ys,H7,a1,a2,a3,a4,⟨its,rv,n3,a5⟩,hz,w7⟩
   |true=>
    rw[Q5 rfl]at q7⊢
    refine thn (he fp s H _ s7 σ6 H7 _ I7 q7) λv s8 ⟨y,H8,I8,r8,hz8,q8⟩=>?_
    obtain⟨m',hm,w8⟩:=hN _ _ q8
    obtain⟨a1,a2,a3,a4,a5⟩:=again I8
    refine wpAny_list_append_plain (s:=s8) (l:=s.heap.objs.size) (items:=its.toArray) ⟨n3,a5⟩ (λh9 hl9 hs9=>?_) (by have:=rv.length;simp;omega)
    have I9:Inv (X.comp (lcN X.N own ix) scope fp s H) [] (cZ own.length ix σ) H8 {s8 with heap:=h9}:=a1.turned (t':=s8.toks) (it:=s.heap.objs.size) (λb o hb e=>hs9.extBut b o hb e) a4 (nss _)
     (.inr (π _)) (λx c e=>nlt (cellLt x c (sub x c e))) (λp hp=>absurd (show p∈([]:List (Addr×Obj))from hp) ())
    refine⟨m',hm,i+1,ys++[y],H8,I9,T.keep _ _ _ a2 (λb hb o e=>hs9.extBut b o (nlt (hlt b hb)) e),a3,a4,⟨its++[v],aD.append rv (.cons r8 .nil),?_⟩,?_,w8⟩
    ·have e:(its++[v]).toArray=its.toArray.push v:=by simp
     rw[e]
     exact hl9
    ·rw[Ζ]
     show _+1<=_
     omega
 show codeAny _ _ (.compStart _ 0 (.ref it) (.ref s.heap.objs.size) _) (RR (.ref s.heap.objs.size) h2.objs.size) _
 rw[hC]
 have e2:=env_eq
 rw[hC]at e2
 refine Eq.mpr (congrArg (λe=>codeAny (model X.prog X.w) X.A (.compStart (.ListComp elt [⟨tg,iter,ifs,0⟩] scope pos) 0 (.ref it) (.ref s.heap.objs.size) e) (RR (.ref s.heap.objs.size) (s.heap.objs.size+1)) {s with heap:=h₁,toks:=s.toks+([]:List (Str×δ)).length}) e2) ?_
 exact codeAny_compStart_list loop (T.self X.A 0 _ _ _ (T.keep _ _ _ st λb _ o e=>old b o e) loop)
end
section
variable{X:Cx}{scope:Bz}{own:List Str}{ix:List Nat}
def tLC(wi:TI)(k:Nat)(ix:List Nat)(g:TG)(tt:TT)(te:TE):TE:=λσ H Q=>wi σ H λJ H1=>rLC J k ix g tt te σ H1 λys H'=>∀a,H' a=none->Q (.ref a) (upd H' a (.lst ys))
theorem Inv.clos{pins:List (Addr×Obj)}{σ:St}{H:Hp}{s:θ}(I:Inv X pins σ H s)(L:cV X.N X.env.scope scope own ix):closureFor scope X.env=pure (aR X.env scope.names []):=
 nK λx hx hf=>I.ok.has x.1 (L.free x hx hf)
theorem pe_lc{elt tg iter:Expr}{ifs:List Expr}{pos:Pos}{wi:TI}{g:TG}{tt:TT}{te:TE}(hi:PI X tg iter wi)(L:cV X.N X.env.scope scope own ix)(hc:X.calm=true)
  (hg:∀fp s H,PG (X.comp (lcN X.N own ix) scope fp s H) tg g) (gw:GW own.length g) (ht:∀fp s H,PIf (X.comp (lcN X.N own ix) scope fp s H) ifs tt) (he:∀fp s H,PE (X.comp (lcN X.N own ix) scope fp s H) elt te)
  (hs:∀x,foldedSetIterable iter X.env x=pure x:=by intro _;rfl):PE X (.ListComp elt [⟨tg,iter,ifs,0⟩] scope pos) (tLC wi own.length ix g tt te):=by
 intro pins s σ H Q I h
 rw[eval_ListComp]
 refine wpAny_comprehension_free (use:=none) rfl hs (I.clos L) L.kind L.names (thn (hi pins s σ H _ I h) λv s1 h1=>thn h1 λitv s2 h2=>?_)
 obtain⟨it,fp,tn,J,H2,e,I2,T,st2,f2,hw⟩:=h2
 subst e
 refine mK (RR:=λacc C=>compPost (model X.prog X.w) X.A X.xe none (EP X pins σ Q) acc C) L hc hg gw ht he I2 T st2 f2 hw ?_
 intro D C s' ys H' m hn c1 c2 c3 c4 c5 d I' q
 exact⟨m,hn,λh' hs'=>⟨.ref D,_,I'.turned (t':=s'.toks) (it:=C) (λb o hb e=>hs'.extBut b o hb e) c5 c1 (.inr c3) c2 c4,rfl,q D d⟩⟩
theorem ps_lc{elt tg iter:Expr}{ifs:List Expr}{pos spos py:Pos}{wi:TI}{g:TG}{tt:TT}{te:TE}{i:Nat}{y:Str}(hN:X.N.Nodup)(hy:X.N[i]?=some y)(hx:X.env.scope.names.lookup y=some .local)(hi:PI X tg iter wi)(L:cV X.N X.env.scope scope own ix)(hc:X.calm=true)
  (hg:∀fp s H,PG (X.comp (lcN X.N own ix) scope fp s H) tg g) (gw:GW own.length g) (ht:∀fp s H,PIf (X.comp (lcN X.N own ix) scope fp s H) ifs tt) (he:∀fp s H,PE (X.comp (lcN X.N own ix) scope fp s H) elt te)
  (hsw:swapsWith (.ListComp elt [⟨tg,iter,ifs,0⟩] scope pos) (some (.Name y py)) spos.line X.env=pure true:=by rfl)
  (hs:∀x,foldedSetIterable iter X.env x=pure x:=by intro _;rfl):PS X (.Assign [.Name y py] (.ListComp elt [⟨tg,iter,ifs,0⟩] scope pos) spos) (yE (tLC wi own.length ix g tt te) (cP i)):=by
 intro pins s σ H Dn I h
 rw[exec_Assign_Name_used _ _ _ _ hsw]
 refine ε (wpAny_standAt (ε ?_))
 show wpAny _ X.A (do let _ <-comprehension (.ListComp elt [⟨tg,iter,ifs,0⟩] scope pos) scope X.env _ (newList []) false (eval iter X.env) (some (assign (.Name y py) X.env))) _ _ s
 refine ε (thn (wpAny_comprehension_free (use:=some (assign (.Name y py) X.env)) (Q:=λ_ s'=>SP X pins Dn .next s') rfl hs (I.clos L) L.kind L.names
  (thn (hi pins s σ H _ I h) λv s1 h1=>thn h1 λitv s2 h2=>?_)) λ_ s' hq=>ρ (ρ hq))
 obtain⟨it,fp,tn,J,H2,e,I2,T,st2,f2,hw⟩:=h2
 subst e
 refine mK (RR:=λacc C=>compPost (model X.prog X.w) X.A X.xe (some (assign (.Name y py) X.env)) (λ_ s'=>SP X pins Dn .next s') acc C) L hc hg gw ht he I2 T st2 f2 hw ?_
 intro D C s' ys H' m hn c1 c2 c3 c4 c5 d I' q
 show wpAny _ X.A (assign (.Name y py) X.env (.ref D)) _ _ s'
 refine wpAny_assign_Name (ke I' hN hy (.inl hx) (v:=.ref D) rfl (λs2 I2 ⟨a,hs2,ha⟩=>?_) (.inr hx))
 have aC:a≠C:=by
  rcases ha with rfl|ha
  ·exact ϒ c1
  ·exact c2 y a ha
 refine⟨m,hn.sameBut hs2 (ϒ aC),λh' hs'=>?_⟩
 exact⟨_,_,I2.turned (t':=s2.toks) (it:=C) (λb o hb e=>hs'.extBut b o hb e) c5 c1 (.inr c3) c2 c4,q D d⟩
end
section
variable{k:Nat}{ix:List Nat}{g:TG}{tt:TT}{te:TE}{σ:St}{H1:Hp}{Q:List V->Hp->Prop}
def de(k:Nat)(ix:List Nat)(g:TG)(tt:TT)(te:TE)(σ:St)(x:V)(ys:List V)(H:Hp)(N:List V->Hp->Prop):Prop:=
 g x (cZ k ix σ) H λσ2 H2=>tt σ2 H2 λc H3=>if c=true then te σ2 H3 λy H4=>ys.length<sizeLine/\N (ys++[y]) H4 else N ys H3
theorem oG{J:It}{n:Nat}(Pv:Nat->List V->Hp->Prop)(h0:Pv 0 [] H1)(hgo:∀i ys H,i<n->Pv i ys H->J.go i H)(hst:∀ys H,Pv n ys H->J.stop n H)
  (hs:∀i ys H x H',i<n->Pv i ys H->J.yld i H x H'->de k ix g tt te σ x ys H' (Pv (i+1))) (hd:∀ys H,Pv n ys H->Q ys H):rLC J k ix g tt te σ H1 Q:=by
 refine⟨λi m ys H=>m=n-i/\i<=n/\Pv i ys H,⟨n,(),Υ _,h0⟩,?_⟩
 rintro i m ys H ⟨rfl,hi,p⟩
 by_cases hlt:i<n
 ·exact .inr ⟨hgo i ys H hlt p,Pv (i+1),λys' H' q=>⟨n-(i+1),(),rfl,hlt,q⟩,λx H' y=>hs i ys H x H' hlt p y⟩
 ·have e:i=n:=by omega
  subst e
  exact .inl ⟨hst ys H p,hd ys H p⟩
theorem oK{lo:Int}{n:Nat}(Pv:Nat->List V->Hp->Prop)(h0:Pv 0 [] H1)(hs:∀i ys H,i<n->Pv i ys H->de k ix g tt te σ (.int (lo+i)) ys H (Pv (i+1)))
  (hd:∀ys H,Pv n ys H->Q ys H):rLC (Itr lo n) k ix g tt te σ H1 Q:=
 oG (n:=n) Pv h0 (λi _ _ h _=>h) (λ_ _ _=>π _) (λi ys H x H' h p y=>by
  obtain⟨e,y⟩:=y
  subst e y
  exact hs i ys _ h p) hd
theorem fY{K:ζ}{a:Addr}{xs:List V}(Pv:Nat->List V->Hp->Prop)(h0:Pv 0 [] H1)(hl:∀i ys H,i<=xs.length->Pv i ys H->SqL K H a xs)
  (hs:∀i ys H x,xs[i]?=some x->Pv i ys H->de k ix g tt te σ x ys H (Pv (i+1))) (hd:∀ys H,Pv xs.length ys H->Q ys H):rLC (Itl K a) k ix g tt te σ H1 Q:=
 oG (n:=xs.length) Pv h0 (λi ys H h p=>⟨xs,xs[i],hl i ys H (n_ h) p,by simp[h]⟩) (λys H p=>⟨xs,hl _ ys H (π _) p,π _⟩) (λi ys H x H' h p y=>by
  obtain⟨e,y⟩:=y
  subst e
  exact hs i ys _ x (y xs (hl i ys _ (n_ h) p)) p) hd
theorem pL{K:ζ}{a:Addr}{xs:List V}(Pv:Nat->List V->Hp->Prop)(h0:Pv 0 [] H1)(hl:∀i ys H,i<=xs.length->Pv i ys H->SqT K H a xs)
  (hs:∀i ys H x,xs[i]?=some x->Pv i ys H->de k ix g tt te σ x ys H (Pv (i+1))) (hd:∀ys H,Pv xs.length ys H->Q ys H):rLC (Itt K a) k ix g tt te σ H1 Q:=
 oG (n:=xs.length) Pv h0 (λi ys H h p=>⟨xs,xs[i],hl i ys H (n_ h) p,by simp[h]⟩) (λys H p=>⟨xs,hl _ ys H (π _) p,π _⟩) (λi ys H x H' h p y=>by
  obtain⟨e,y⟩:=y
  subst e
  exact hs i ys _ x (y xs (hl i ys _ (n_ h) p)) p) hd
end
def Itf(f:Nat->V)(n:Nat):It:=⟨λi _=>i<n,λi H x H'=>H'=H/\x=f i,λi _=>i=n⟩
theorem iV{P:υ}{w:Μ}{K:ζ}{tg:Expr}{it:Addr}{n:Nat}{Pv:Nat->δ->Prop}{tn:Nat->Heap->Prop}{f:Nat->V}
  (W:∀A:Ρ,A.handled=none->Walks P w A it [it] [it] n Pv tn) (ob:∀i h,tn i h->∃o nm vs,h.get? it=some o/\o.cls=.type nm/\o.data=.fields vs/\["enumerate","zip","dict_itemiterator","dict_reverseitemiterator","odict_iterator","itertools.zip_longest","itertools.pairwise"].contains nm=false)
  (rel:∀i v,Pv i v->aH (f i) v) (hself:∀(A:Ρ)(i:Nat)(s:θ)(Q:δ->θ->Prop)(E:δ->θ->Prop),tn i s.heap->Q (.ref it) s->wpAny (model P w) A (pyIter (.ref it)) Q E s):jR P w K tg (Itf f n) [it] it tn where
 mem:=by simp
 obj:=λi h st b hb=>by
  have e:b=it:=by simpa using hb
  subst e
  obtain⟨o,nm,vs,e,_,d,_⟩:=ob i h st
  exact⟨o,e,λv z=>by rw[d]at z;cases z⟩
 keep:=λi h h' st k=>by
  by_cases hA:∃A:Ρ,A.handled=none
  ·obtain⟨A,hA⟩:=hA
   exact(W A hA).frame i h h' st k
  ·exact absurd ⟨callerA,rfl⟩ hA
 item:=by
  intro X hP hw hK hc i pins s σ H E I hf st hg
  subst hP hw hK
  obtain⟨f0,f1,f2,f3,f4,f5⟩:=hf it ()
  refine(W X.A (I.ok.hd hc)).item i s _ _ hg st λv h' tk hv st' kk=>?_
  have I1:Inv X pins σ H {s with heap:=h',toks:=tk}:=I.turned (λb o hb e=>kk b o (by simpa using hb) e) f0 f1 f3 f4 f5
  obtain⟨o,nm,vs,e,c,d,hn⟩:=ob _ _ st'
  exact⟨v,rfl,rP (s:={s with heap:=h',toks:=tk}) e c d hn ⟨f i,H,I1,rel i v hv,⟨rfl,rfl⟩,st',λb hb=>(hf b hb).1⟩⟩
 done:=by
  intro X hP hw hK hc i pins s σ H E I hf st hg
  subst hP hw hK
  obtain⟨f0,f1,f2,f3,f4,f5⟩:=hf it ()
  have e:i=n:=hg
  subst e
  exact(W X.A (I.ok.hd hc)).done s _ _ st λh' tk kk=>⟨rfl,I.turned (λb o hb e=>kk b o (by simpa using hb) e) f0 f1 f3 f4 f5⟩
 self:=hself
section
variable{X:Cx}{tg:Expr}
theorem Inv.fp1{pins:List (Addr×Obj)}{σ:St}{H:Hp}{s:θ}(I:Inv X pins σ H s):∀b∈[s.heap.objs.size],iC X pins H b:=λb hb=>by
 have e:b=s.heap.objs.size:=by simpa using hb
 subst e
 exact I.fpOk (π _) (I.hok.fresh (π _))
def oi(x:Str)(i:Nat):V:=.str ⟨#[x.cps.getD i 0]⟩
def Bg(ts:TE):TI:=λσ H R=>ts σ H λx H1=>∃z,x=.str z/\R (Itf (oi z) z.cps.size) H1
theorem pi_str{e:Expr}{ts:TE}(hl:PE X e ts):PI X tg e (Bg ts):=by
 intro pins s σ H R I h
 refine thn (hl pins s σ H _ I h) λv s1 ⟨x,H1,I1,r1,q1⟩=>?_
 obtain⟨z,e,q⟩:=q1
 subst e
 obtain⟨t,rfl⟩:=r1
 have rel:∀i v,SignAt z i v->aH (oi z i) v:=λi v ⟨c,u,hc,hv⟩=>by
  subst hv
  refine⟨u,?_⟩
  have e:z.cps.getD i 0=c:=by rw[j_,hc];rfl
  rw[e]
 cases ha:z.cps.all (· < 128)with
 |false=>
  refine wpAny_pyIter_wide ha ?_
  exact⟨s1.heap.objs.size,[s1.heap.objs.size],_,_,H1,rfl,I1.kept (t':=s1.toks) λb o e=>ο _ e,
   iV (λA hA=>Walks.strWide hA _ z t) (λi h ⟨o,e,c,d⟩=>⟨o,"str_iterator",_,e,c,d,()⟩) rel (λA i s Q E st hq=>wpAny_pyIter_striter_wide st hq),⟨_,Δ _ rfl,rfl,rfl⟩,λb hb=>I1.fp1 b hb,q⟩
 |true=>
  refine wpAny_pyIter_ascii ha ?_
  exact⟨s1.heap.objs.size,[s1.heap.objs.size],_,_,H1,rfl,I1.kept (t':=s1.toks) λb o e=>ο _ e,
   iV (λA hA=>Walks.strAscii hA _ z t) (λi h ⟨o,e,c,d⟩=>⟨o,"str_ascii_iterator",_,e,c,d,()⟩) rel (λA i s Q E st hq=>wpAny_pyIter_striter_ascii st hq),⟨_,Δ _ rfl,rfl,rfl⟩,λb hb=>I1.fp1 b hb,q⟩
theorem KV.at{kvs:List (Key×V)}{vs:List (Key×δ)}(r:KV kvs vs){i:Nat}{k:Key}{v:δ}(e:vs[i]?=some (k,v)):∃x,kvs[i]?=some (k,x)/\aH x v:=by
 induction r generalizing i with
 |nil=>simp at e
 | @cons p q ps qs h t ih=>
  cases i with
  |zero=>
   have e':q=(k,v):=by simpa using e
   obtain⟨p1,p2⟩:=p
   subst e'
   obtain⟨h1,h2⟩:=h
   have h1':p1=k:=h1
   subst h1'
   exact⟨p2,rfl,h2⟩
  |succ i=>exact ih (by simpa using e)
theorem Ax{P:υ}{w:Μ}{k:Key}{u:δ}(h:(aP P w).is k u=true):aH (kV k) u:=by
 rcases aW (k:=k) (v:=u) h with ⟨i,t,rfl,rfl⟩|⟨x,t,rfl,rfl⟩
 ·exact⟨t,rfl⟩
 ·exact⟨t,rfl⟩
end
section
variable{X:Cx}
theorem dh:OpR X (compareOp .LtE) (λx y H Q=>∃i j,x=.str i/\y=.str j/\Q (.bl (!decide (j.cps.toList<i.cps.toList))) H):=by
 intro pins s σ H x y v u Q I rx ry h
 obtain⟨i,j,rfl,rfl,q⟩:=h
 obtain⟨t,rfl⟩:=rx
 obtain⟨t',rfl⟩:=ry
 exact PySem.P.le_str (aL I q rfl)
theorem lc{s:θ}{h':Heap}{o:Obj}(hk:∀b x,b∉[s.heap.objs.size]->(s.heap.push o).get? b=some x->h'.get? b=some x)(b:Addr)(x:Obj)(e:s.heap.get? b=some x):h'.get? b=some x:=
 hk b x (λz=>by rw[μ.mp z]at e;exact q9 _ (Β e)) (ο _ e)
theorem mY:∀{bs:List Bool}{us:List δ},aD (bs.map V.bl) us->∀(i:Nat)(v:δ),us[i]?=some v->∃b,bs[i]?=some b/\v=.bool b
 |[],_,.nil,i,v,e=>by simp at e
 |b::bs,u::us,.cons r t,0,v,e=>by
  have e':u=v:=by simpa using e
  subst e'
  exact⟨b,rfl,r⟩
 |b::bs,u::us,.cons r t,i+1,v,e=>mY (bs:=bs) t i v (by simpa using e)
theorem fZ(hc:X.calm=true):cS X (.builtin "all") (λxs H Q=>∃(a:Addr) (bs:List Bool),xs=[.ref a]/\SqL X.K H a (bs.map V.bl)/\Q (.bl (bs.all id)) H):=by
 intro pins s σ H xs us Q I r h
 obtain⟨a,bs,rfl,hq,q⟩:=h
 obtain⟨u,rfl,ru⟩:=dG r
 cases ru
 obtain⟨its,rv,p,hz⟩:=I.list hq
 have hl:=p.isList
 have hlt:a<s.heap.objs.size:=by obtain⟨_,e,_⟩:=hl;exact Β e
 refine call_all_walk (Cq hl ?_)
 refine⟨s.heap.objs.size,[s.heap.objs.size,a],[s.heap.objs.size],its.toArray.size,_,_,λi=>(bs[i]?).getD true,rfl,Walks.list (A:=X.A.in1) (I.ok.hd hc) _ a (Ϛ hlt) its.toArray,
  ⟨⟨_,Δ _ rfl,rfl,rfl⟩,hl.push _⟩,λi v s' Q' E' hP hQ=>?_,λh' tk hk=>?_⟩
 ·obtain⟨b,e,rfl⟩:=mY rv i v (by simpa using hP)
  simp only[e,Option.getD_some]at hQ
  exact ϴ hQ
 ·have hlen:=rv.length
  have e:((ϗ its.toArray.size).all λi=>(bs[i]?).getD true)=bs.all id:=by
   rw[Α,<-hlen,η,j6,ϻ,ϻ]
   constructor
   ·intro z b hb
    obtain⟨i,hi,rfl⟩:=B0 hb
    have:=z i (t_.mpr hi)
    simpa[hi]using this
   ·intro z i hi
    have hi':=t_.mp hi
    rw[ς hi']
    exact z _ (i8 hi')
  rw[e]
  exact⟨.bl _,H,I.kept (lc hk),rfl,q⟩
theorem aS:cS X (.builtin "isinstance") (λxs H Q=>∃x t n b,xs=[x,.ty n]/\cU X.K H x t/\f_ X.K t (.type n)=some b/\Q (.bl b) H):=by
 intro pins s σ H xs us Q I r h
 obtain⟨x,t,n,b,rfl,ty,e,q⟩:=h
 obtain⟨u,w',rfl,rx,rn⟩:=nh r
 cases rn
 exact tQ I rx ty e λtk=>⟨.bl b,H,I.tok tk,rfl,q⟩
theorem rq:∀{ys:List Str}{us:List δ},aD (ys.map V.str) us->StrsAre us ys
 |[],_,.nil=>.nil
 |y::ys,u::us,.cons r t=>by
  obtain⟨k,rfl⟩:=r
  exact .cons y k (rq t)
theorem io:MtR X "str.join" (λx xs H Q=>∃(z:Str) (a:Addr) (ys:List Str),x=.str z/\xs=[.ref a]/\SqL X.K H a (ys.map V.str)/\(ys.map (·.length)).sum+ys.length*z.length<=16777216/\Q (.str (Txt.join z ys)) H):=by
 intro pins s σ H x xs v us Q I rx r h
 obtain⟨z,a,ys,rfl,rfl,hq,hz,q⟩:=h
 obtain⟨t,rfl⟩:=rx
 obtain⟨u,rfl,ru⟩:=dG r
 cases ru
 obtain⟨its,rv,p,_⟩:=I.list hq
 exact join_list p.isList (by simpa using rq rv) hz λt' k=>⟨.str _,H,I.tok _,⟨_,rfl⟩,q⟩
theorem pU:SlR X (λx lo hi H Q=>∃z,x=.str z/\z.length<=sizeLine/\Q (.str (Txt.slice z lo hi)) H):=by
 intro pins s σ H x v vl vu lo hi sl Q I rx hs pl pu h
 obtain⟨z,rfl,hz,q⟩:=h
 obtain⟨t,rfl⟩:=rx
 refine⟨"str",_,slot_str_getitem.lookup,BL _ _ _,?_⟩
 have fin:(Txt.slice z lo hi).length<=sizeLine/\∀t' k,EP X pins σ Q (.str (Txt.slice z lo hi) t') {s with toks:=k}:=⟨ϲ (Txt.slice_le z _ _) hz,λt' k=>⟨.str _,H,I.tok _,⟨_,rfl⟩,q⟩⟩
 cases pl with
 |none=>
  cases pu with
  |none=>exact u5 (l:=none) (u:=none) (st:=none) hs rfl (BV fin)
  |int j uj=>exact u5 (l:=none) (u:=some (j,uj)) (st:=none) hs rfl (BV fin)
 |int i ui=>
  cases pu with
  |none=>exact u5 (l:=some (i,ui)) (u:=none) (st:=none) hs rfl (BV fin)
  |int j uj=>exact u5 (l:=some (i,ui)) (u:=some (j,uj)) (st:=none) hs rfl (BV fin)
end
open PySem PySem.Spec PyProof.Rows PySem.W
section
variable{cmp:Nat->Nat->(Bool->θ->Prop)->θ->Prop}{lt:Nat->Nat->Bool}{n:Nat}{s:θ}
structure Ord(cmp:Nat->Nat->(Bool->θ->Prop)->θ->Prop)(lt:Nat->Nat->Bool)(n:Nat)(s:θ):Prop where
 ask:∀i j C,i<n->j<n->i≠j->C (lt i j) s->cmp i j C s
 tr:∀i j k,lt i j=true->lt j k=true->lt i k=true
 tot:∀i j,i<n->j<n->i≠j->lt i j=false->lt j i=true
 asym:∀i j,lt i j=true->lt j i=false
structure Re(n:Nat)(p:Array Nat):Prop where
 size:p.size=n
 lt:∀i,i<n->p.getD i 0<n
 inj:∀i j,i<n->j<n->i≠j->p.getD i 0≠p.getD j 0
 perm:p.Perm (List.toArray (ϗ n))
theorem Re.of_perm{p:Array Nat}(h:p.Perm (List.toArray (ϗ n))):Re n p:=by
 have hs:p.size=n:=by have:=h.size_eq;simpa using this
 have hl:p.toList.Perm (ϗ n):=by simpa using y8.mp h
 have nd:p.toList.Nodup:=(List.Perm.nodup_iff hl).mpr List.nodup_range
 have get:∀i,(hi:i<n)->p.getD i 0=p.toList[i]'(by simpa[hs]using hi):=λi hi=>by
  simp[Array.getD,hs,hi]
 refine⟨hs,λi hi=>?_,λi j hi hj hij e=>?_,h⟩
 ·have hm:p.getD i 0∈p.toList:=by rw[get i hi];exact i8 _
  exact t_.mp ((List.Perm.mem_iff hl).mp hm)
 ·rw[get i hi,get j hj]at e
  exact hij ((BI nd).mp e)
def Up(lt:Nat->Nat->Bool)(p:Array Nat)(m:Nat):Prop:=∀i j,i<j->j<m->lt (p.getD i 0) (p.getD j 0)=true
def Dn(lt:Nat->Nat->Bool)(p:Array Nat)(m:Nat):Prop:=∀i j,i<j->j<m->lt (p.getD j 0) (p.getD i 0)=true
theorem Up.next{p:Array Nat}{m:Nat}(O:Ord cmp lt n s)(h:Up lt p m)(h1:1<=m)(hq:lt (p.getD (m-1) 0) (p.getD m 0)=true):Up lt p (m+1):=λi j hij hj=>by
 by_cases e:j=m
 ·subst e
  by_cases e2:i=j-1
  ·subst e2;exact hq
  ·exact O.tr _ _ _ (h i (j-1) () ()) hq
 ·exact h i j hij ()
theorem Dn.next{p:Array Nat}{m:Nat}(O:Ord cmp lt n s)(h:Dn lt p m)(h1:1<=m)(hq:lt (p.getD m 0) (p.getD (m-1) 0)=true):Dn lt p (m+1):=λi j hij hj=>by
 by_cases e:j=m
 ·subst e
  by_cases e2:i=j-1
  ·subst e2;exact hq
  ·exact O.tr _ _ _ hq (h i (j-1) () ())
 ·exact h i j hij ()
theorem pH{p:Array Nat}{Q:Nat->θ->Prop}(O:Ord cmp lt n s)(r:Re n p):∀(f m:Nat),1<=m->m+f<=n->Up lt p m->(∀m',m<=m'->m'<=m+f->Up lt p m'->(m'=m+f\/lt (p.getD m' 0) (p.getD (m'-1) 0)=true)->Q m' s)->(kas_asc p f m).kasWp cmp Q s
 |0,m,h1,hm,u,q=>q m (π _) (π _) u (.inl rfl)
 |f+1,m,h1,hm,u,q=>by
  show cmp _ _ _ s
  refine O.ask _ _ _ (r.lt m ()) (r.lt (m-1) ()) (r.inj _ _ () () ()) ?_
  cases c:lt (p.getD m 0) (p.getD (m-1) 0)with
  |true=>
   show(KasT.ret m).kasWp cmp Q s
   exact q m (π _) () u (.inr c)
  |false=>
   show(kas_asc p f (m+1)).kasWp cmp Q s
   have hq:=O.tot _ _ (r.lt m ()) (r.lt (m-1) ()) (r.inj _ _ () () ()) c
   refine pH O r f (m+1) () () (u.next O h1 hq) λm' a b c d=>q m' () () c ?_
   rcases d with d|d
   ·exact .inl ()
   ·exact .inr d
theorem su{p:Array Nat}{Q:Array Nat×Nat×Nat->θ->Prop}(O:Ord cmp lt n s)(r:Re n p):∀(f m:Nat),1<=m->m+f<=n->Dn lt p m->(∀m',m<=m'->m'<=m+f->Dn lt p m'->Q (p,m',0) s)->(kas_desc f p m 0).kasWp cmp Q s
 |0,m,h1,hm,u,q=>q m (π _) (π _) u
 |f+1,m,h1,hm,u,q=>by
  show cmp _ _ _ s
  refine O.ask _ _ _ (r.lt m ()) (r.lt (m-1) ()) (r.inj _ _ () () ()) ?_
  cases c:lt (p.getD m 0) (p.getD (m-1) 0)with
  |true=>
   show(kas_desc f p (m+1) 0).kasWp cmp Q s
   exact su O r f (m+1) () () (u.next O h1 c) λm' a b c=>q m' () () c
  |false=>
   show cmp _ _ _ s
   refine O.ask _ _ _ (r.lt (m-1) ()) (r.lt m ()) (r.inj _ _ () () ()) ?_
   rw[O.tot _ _ (r.lt m ()) (r.lt (m-1) ()) (r.inj _ _ () () ()) c]
   show(KasT.ret (p,m,0)).kasWp cmp Q s
   exact q m (π _) () u
theorem sJ{p:Array Nat}{m k:Nat}(hm:m<=p.size):(kas_rev p 0 m).getD k 0=if k<m then p.getD (m-1-k) 0 else p.getD k 0:=by
 have h:=getElem?_mirror_all (xs:=p) (i:=0) (j:=m) hm k
 have e1:∀(a:Array Nat)(i:Nat),a.getD i 0=(a[i]?).getD 0:=λa i=>by rw[j_]
 rw[e1]
 unfold kas_rev
 rw[h]
 by_cases hk:k<m
 ·rw[Q5 hk]
  simp only[e1]
  rw[Q5 ()]
  congr 2
  omega
 ·rw[Q6 hk]
  simp only[e1]
  rw[Q6 ()]
theorem vy{p:Array Nat}{m:Nat}(r:Re n p):Re n (kas_rev p 0 m):=Re.of_perm ((mirror_perm p 0 m _).trans r.perm)
theorem uK{Q:Nat×Array Nat->θ->Prop}{p:Array Nat}(O:Ord cmp lt n s)(r:Re n p)(h2:2<=n)(q:∀m p',Re n p'->1<=m->m<=n->Up lt p' m->Q (m,p') s):(kas_count n p).kasWp cmp Q s:=by
 unfold kas_count
 rw[A_]
 refine pH O r (n-1) 1 (π _) () (λi j h1 h2=>by omega) λm a b u e=>?_
 by_cases hm:(m==n)=true
 ·rw[Q5 hm]
  exact q m p r a () u
 ·rw[Q6 hm]
  have hmn:m≠n:=by simpa using hm
  by_cases h1:m>1
  ·rw[Q5 h1]
   show cmp _ _ _ s
   refine O.ask _ _ _ (r.lt 0 ()) (r.lt (m-1) ()) (r.inj _ _ () () ()) ?_
   rw[u 0 (m-1) () ()]
   show(KasT.ret (m,p)).kasWp cmp Q s
   exact q m p r a () u
  ·rw[Q6 h1]
   have e1:m=1:=by omega
   subst e1
   have hd:lt (p.getD 1 0) (p.getD 0 0)=true:=by
    rcases e with e|e
    ·omega
    ·exact e
   unfold kas_descPart
   rw[A_]
   refine su O r (n-(1+1)) (1+1) () () (λi j h1 h2=>?_) λm' a' b' dn=>?_
   ·have:i=0:=by omega
    have:j=1:=by omega
    subst_vars
    exact hd
   ·show(if (0:Nat)>0 then _ else kas_tail3 m' n p).kasWp cmp Q s
    rw[Q6 ()]
    unfold kas_tail3
    rw[A_]
    have up:Up lt (kas_rev p 0 m') m':=λi j hij hj=>by
     rw[sJ (by rw[r.size];omega),sJ (by rw[r.size];omega),Q5 (),Q5 ()]
     exact dn _ _ () ()
    refine pH O (vy r) (n-m') m' () () up λm2 a2 b2 u2 _=>?_
    exact q m2 _ (vy r) () () u2
theorem iW{p:Array Nat}{k:Nat}{Q:Nat->θ->Prop}(O:Ord cmp lt n s)(r:Re n p)(hk:k<n)(u:Up lt p k)(q:∀l,l<=k->(∀i,i<l->lt (p.getD i 0) (p.getD k 0)=true)->(∀i,l<=i->i<k->lt (p.getD k 0) (p.getD i 0)=true)->Q l s):
  ∀(f l e:Nat),l<=e->e<=k->e-l<=f->(∀i,i<l->lt (p.getD i 0) (p.getD k 0)=true)->(∀i,e<=i->i<k->lt (p.getD k 0) (p.getD i 0)=true)->(kas_place p k f l e).kasWp cmp Q s
 |0,l,e,h1,h2,h3,a,b=>q l () a λi hi hk'=>b i () hk'
 |f+1,l,e,h1,h2,h3,a,b=>by
  show(if l>=e then KasT.ret l else _).kasWp cmp Q s
  by_cases h:l>=e
  ·rw[Q5 h]
   exact q l () a λi hi hk'=>b i () hk'
  ·rw[Q6 h]
   show cmp _ _ _ s
   have hm:(l+e)/2<k:=by omega
   refine O.ask _ _ _ (r.lt k hk) (r.lt _ ()) (r.inj _ _ hk () ()) ?_
   cases c:lt (p.getD k 0) (p.getD ((l+e)/2) 0)with
   |true=>
    show(kas_place p k f l ((l+e)/2)).kasWp cmp Q s
    refine iW O r hk u q f l _ () () () a λi hi hk'=>?_
    by_cases ei:i=(l+e)/2
    ·subst ei;exact c
    ·exact O.tr _ _ _ c (u _ i () hk')
   |false=>
    show(kas_place p k f ((l+e)/2+1) e).kasWp cmp Q s
    have c':=O.tot _ _ (r.lt k hk) (r.lt _ ()) (r.inj _ _ hk () ()) c
    refine iW O r hk u q f _ e () h2 () (λi hi=>?_) b
    by_cases ei:i=(l+e)/2
    ·subst ei;exact c'
    ·exact O.tr _ _ _ (u i _ () hm) c'
theorem sK{p:Array Nat}{k d j:Nat}(hk:k<p.size)(hd:d<=k):(bubble p k d).getD j 0=if j<k-d\/k<j then p.getD j 0 else if j=k-d then p.getD k 0 else p.getD (j-1) 0:=by
 have e1:∀(a:Array Nat)(i:Nat),a.getD i 0=(a[i]?).getD 0:=λa i=>by rw[j_]
 have h:=getElem?_bubble (xs:=p) (src:=k) hk d hd j
 rw[e1,h]
 by_cases a:j=k-d
 ·rw[Q5 a,Q6 (),Q5 a,e1]
 ·rw[Q6 a]
  by_cases b:k-d<j/\j<=k
  ·rw[Q5 b,Q6 (),Q6 a,e1]
  ·rw[Q6 b,Q5 (),e1]
theorem ul{Q:Array Nat->θ->Prop}(O:Ord cmp lt n s)(q:∀p,Re n p->Up lt p n->Q p s):∀(f k:Nat)(p:Array Nat),Re n p->1<=k->k+f=n->Up lt p k->(kas_bin f p k).kasWp cmp Q s
 |0,k,p,r,h1,hn,u=>q p r (by rw[<-hn];exact u)
 |f+1,k,p,r,h1,hn,u=>by
  show((kas_place p k k 0 k).bind λl=>kas_bin f (bubble p k (k-l)) (k+1)).kasWp cmp Q s
  rw[A_]
  refine iW O r () u (λl hl a b=>?_) k 0 k (Υ _) (π _) () (λi hi=>by omega) (λi h1 h2=>by omega)
  have hks:k<p.size:=by rw[r.size];omega
  refine ul O q f (k+1) _ (Re.of_perm ((bubble_perm p k _).trans r.perm)) () () λi j hij hj=>?_
  rw[sK hks (),sK hks ()]
  have ek:k-(k-l)=l:=by omega
  rw[ek]
  by_cases hi:i<l
  ·rw[Q5 (.inl hi)]
   by_cases hj2:j<l
   ·rw[Q5 (.inl hj2)];exact u i j hij ()
   ·rw[Q6 ()]
    by_cases hj3:j=l
    ·rw[Q5 hj3];exact a i hi
    ·rw[Q6 hj3];exact u i (j-1) () ()
  ·rw[Q6 ()]
   by_cases hi2:i=l
   ·rw[Q5 hi2,Q6 (),Q6 ()]
    exact b (j-1) () ()
   ·rw[Q6 hi2,Q6 (),Q6 ()]
    exact u (i-1) (j-1) () ()
theorem wU{Q:Array Nat->θ->Prop}(O:Ord cmp lt n s)(h2:2<=n)(q:∀p,Re n p->Up lt p n->Q p s):(kas_sort n).kasWp cmp Q s:=by
 unfold kas_sort
 rw[A_]
 refine uK O (Re.of_perm (Array.Perm.refl _)) h2 λm p r h1 hm u=>?_
 show(if m<n then kas_bin (n-max m 1) p (max m 1)else .ret p).kasWp cmp Q s
 have em:max m 1=m:=by omega
 rw[em]
 by_cases h:m<n
 ·rw[Q5 h]
  exact ul O q (n-m) m p r h1 () u
 ·rw[Q6 h]
  have:m=n:=by omega
  subst this
  exact q p r u
end
theorem jV{prog:υ}{w:Μ}{A:Ρ}{E:δ->θ->Prop}{st:θ}{l:Addr}{us:List δ}{ep:Nat}{R:PySem.Fin->θ->Prop}(at0:st.heap.get? l=some (seqObj "list" us.toArray ep))(few:us.length<2)
  (fin:∀hp ep',(∀b o,b≠l->st.heap.get? b=some o->hp.get? b=some o)->hp.get? l=some (seqObj "list" us.toArray ep')->R (.done (.ret .none)) {st with heap:=hp}):
  wpAny (model prog w) A (o8.«list.sort» ⟨[.ref l],[]⟩) R E st:=by
 have sz:us.toArray.size=us.length:=by simp
 have lt0:l<st.heap.objs.size:=Β at0
 have line:us.length<=sizeLine:=by rw[ι];omega
 rw[list_sort_plain]
 refine ε (listItems_at at0 rfl (ε (listUpdate_at at0 rfl ?_ (by rw[sz];exact line) (Υ _))))
 have at1:=get?_update_seq at0 (λ_=>(#[]:Array δ))
 refine ε (seqEpoch_at at1 rfl (ε (CS ?_ (by show us.length<=_;exact line))))
 refine ε (wpAny_newList ?_ (Υ _))
 refine w9 ?_
 rw[Q5 (by rw[sz];exact few),Q5 (by rw[sz];exact few)]
 show wpAny (model prog w) A _ R E {st with heap:=((st.heap.update l (Bu λ_=>(#[]:Array δ))).push (seqObj "tuple" us.toArray 0)).push (seqObj "list" #[] 0)}
 have at2:(((st.heap.update l (Bu λ_=>(#[]:Array δ))).push (seqObj "tuple" us.toArray 0)).push (seqObj "list" #[] 0)).get? l=some (seqObj "list" #[] (if ((#[]:Array δ).size==us.toArray.size)=true then ep else ep+1)):=by
  rw[BD _ _ _ (by rw[size_push',BM];exact pW lt0),BD _ _ _ (by rw[BM];exact nlt lt0)]
  exact at1
 have all:(arrOf (SortSt.mk' general' (us.toArray.zip us.toArray) #[] 7 none)).map (·.2)=us.toArray:=by
  show(us.toArray.zip us.toArray).map (·.2)=us.toArray
  apply Array.ext'
  simp[List.map_snd_zip]
 have at3:=get?_update_seq at2 (λ_=>us.toArray)
 refine ε (ρ ?_)
 dsimp only
 rw[StateT.run_pure]
 refine ε (ρ ?_)
 dsimp only
 refine ε (seqEpoch_at at2 rfl ?_)
 refine ε (listUpdate_at at2 rfl ?_ (Υ _) (by rw[all,sz];omega))
 simp only[bne_self_eq_false,Bool.false_eq_true,if_false]
 rw[all]
 refine ρ (fin _ _ (λb o hb e=>?_) at3)
 rw[Heap.get?_update_ne _ _ _ _ hb,BD _ _ _ (by rw[size_push',BM];exact pW (Β e)),BD _ _ _ (by rw[BM];exact nlt (Β e)),Heap.get?_update_ne _ _ _ _ hb]
 exact e
theorem za{h:Heap}{a:Addr}{m m':Str->Option δ}(x:h.Ns a m)(y:h.Ns a m'):m=m':=by
 obtain⟨o,es,ep,e,d,_,f⟩:=x
 obtain⟨o',es',ep',e',d',_,f'⟩:=y
 rw[e]at e'
 cases e'
 rw[d]at d'
 cases d'
 funext z
 rw[<-f z,f' z]
theorem xB{a b:List Nat}(h:¬ a<b)(h2:a≠b):b<a:=by
 by_cases h3:b<a
 ·exact h3
 ·exact absurd (List.le_antisymm (List.not_lt.mp h3) (List.not_lt.mp h)) h2
theorem wL{a b:Str}(h:a.cps.toList=b.cps.toList):a=b:=by
 cases a
 cases b
 congr 1
 exact Array.ext' h
section
variable{X:Cx}{pins:List (Addr×Obj)}{σ:St}{H:Hp}{s:θ}
abbrev TK:=Addr×Str×List V
def uv(p q:TK):Prop:=p.2.1.cps.toList<q.2.1.cps.toList
theorem wB(ps:List TK):∀(us:List δ),aD (ps.map λp=>V.ref p.1) us->us=ps.map λp=>Τ p.1:=by
 induction ps with
 |nil=>
  intro us r
  cases r
  rfl
 |cons p ps ih=>
  intro us r
  rw[Ο]at r⊢
  cases r with
  |cons r t=>
   rw[ih _ t,show _=Τ p.1 from r]
theorem gq(ps:List TK):aD (ps.map λp=>V.ref p.1) (ps.map λp=>Τ p.1):=by
 induction ps with
 |nil=>exact .nil
 |cons p ps ih=>exact .cons rfl ih
theorem vx(I:Inv X pins σ H s){a:Addr}{x:Str}{r:List V}(h:H a=some (.tup (.str x::r))):∃(o:Obj) (us:List δ) (n:Nat) (t:Tok),s.heap.get? a=some o/\o.cls=.type "tuple"/\o.data=.seq (i7 x t::us).toArray n:=by
 obtain⟨_,its,rv,⟨o,e,c,n,d⟩,_⟩:=(show aX X.prog X.w H s.heap a (.tup (.str x::r))from I.hok a _ h)
 cases rv with
 |cons r1 r2=>
  obtain⟨t,rfl⟩:=r1
  exact⟨o,_,n,t,e,c,d⟩
theorem tq{n:Nat}{p:Array Nat}{α:Type}{d:α}{ps:List α}(hn:ps.length=n)(r:Re n p):(p.toList.map λi=>ps.getD i d).Perm ps:=by
 have hl:p.toList.Perm (ϗ n):=by simpa using y8.mp r.perm
 refine(hl.map _).trans ?_
 have e:(ϗ n).map (λi=>ps.getD i d)=ps:=by
  apply Cu
  intro i
  rw[Ν]
  by_cases hi:i<n
  ·rw[List.getElem?_range hi]
   simp[CV,show i<ps.length by omega]
  ·rw[i6 (by simpa using hi),i6 ()]
   rfl
 rw[e]
theorem jU{n:Nat}{p:Array Nat}{α:Type}{d:α}{ps:List α}{R:α->α->Prop}{lt:Nat->Nat->Bool}(hlt:∀i j,i<n->j<n->lt i j=true->R (ps.getD i d) (ps.getD j d))(r:Re n p)(u:Up lt p n):(p.toList.map λi=>ps.getD i d).Pairwise R:=by
 rw[Cj]
 intro i j hi hj hij
 rw[η,Λ,r.size]at hi hj
 have get:∀k (hk:k<n) h,(p.toList.map λi=>ps.getD i d)[k]'h=ps.getD (p.getD k 0) d:=λk hk h=>by
  rw[List.getElem_map]
  congr 1
  simp[Array.getD,r.size,hk]
 rw[get i hi,get j hj]
 exact hlt _ _ (r.lt i hi) (r.lt j hj) (u i j hij hj)
end
open PySem PySem.Spec PyProof.Rows
def AB(N:List Str)(sc scope:Bz)(ix:List Nat):Bool:=
 decide (scope.kind=.function)&&scope.names.all (λy=>decide (y.2≠.cell))&&scope.names.all (λy=>decide (y.2=.local->scope.names.lookup y.1=some .local)) &&
 scope.names.all (λy=>decide (y.2=.free->sc.names.lookup y.1=some .cell\/sc.names.lookup y.1=some .free)) &&
 ix.all (λj=>decide (j<N.length)&&match N[j]? with|some x=>scope.names.any (λy=>decide (y.1=x)&&decide (y.2=.free))&&decide (scope.names.lookup x=some .free)|none=>false)
theorem cV.of{N:List Str}{sc scope:Bz}{own:List Str}{ix:List Nat}(h:AB N sc scope ix=true):cV N sc scope own ix:=by
 unfold AB at h
 simp only[ψ,decide_eq_true_eq,ϻ]at h
 obtain⟨⟨⟨⟨h1,h2⟩,h3⟩,h4⟩,h5⟩:=h
 refine⟨h1,h2,h3,h4,λj hj x hx=>?_,λj hj=>(h5 j hj).1⟩
 have:=(h5 j hj).2
 rw[hx]at this
 simp only[ψ,decide_eq_true_eq,a7]at this
 obtain⟨⟨⟨n,k⟩,hy,e1,e2⟩,e3⟩:=this
 have e1':n=x:=e1
 have e2':k=.free:=e2
 subst e1' e2'
 exact⟨hy,e3⟩
theorem bp{l N:List Str}(h:l.Nodup)(e:N=l):N.Nodup:=by rw[e];exact h
structure Def(P:υ)(w:Μ)(K:ζ)(mg:Str->Option δ)(base:Heap)(k:Nat)(x:Str)(ps:List Str)(sp:Sp):Prop where
 ex:∃f fd,aw P w K mg base CX0 k f fd ps sp/\bA K fd ps []/\Ϟ K (.ref f)=true/\mg x=some (.ref f)
theorem Def.up{P:υ}{w:Μ}{K:ζ}{mg:Str->Option δ}{base:Heap}{j k:Nat}{x:Str}{ps:List Str}{sp:Sp}(d:Def P w K mg base j x ps sp)(h:j<=k):Def P w K mg base k x ps sp:=
 let ⟨f,fd,F,b,kp,m⟩:=d.ex
 ⟨f,fd,F.mono h,b,kp,m⟩
theorem pe_def{X:Cx}{k:Nat}{x:Str}{ps:List Str}{sp:Sp}{p pos:Pos}{e:Expr}{es:List Expr}{t:TA}(d:Def X.prog X.w X.K X.mg X.base k x ps sp)(hr:bK k X.A)(hg:Gl X x)(ha:PA X (e::es) t)(hdb:(x==("__debug__" : Str))=false:=by decide)
  (he:starEach (e::es) X.env=(false,eval e X.env)::starEach es X.env:=by rfl) (hpl:(backTo pos (starEach es X.env)).any (·.1)=false:=by rfl):PE X (.Call (.Name x p) (e::es) [] pos) (kq sp [] E0 t):=by
 obtain⟨f,fd,F,b,kp,m⟩:=d.ex
 exact wY F hr hg m kp b .nil dH ha hdb he hpl
inductive Dv where
 |non|bl (b:Bool)|int (i:Int)|str (x:Str)|tup (xs:List Dv)|lst (xs:List Dv)|dct
mutual
def Rep(H:Hp):Dv->V->Prop
 |.non,v=>v=.non
 |.bl b,v=>v=.bl b
 |.int i,v=>v=.int i
 |.str x,v=>v=.str x
 |.tup ds,v=>∃a vs,v=.ref a/\H a=some (.tup vs)/\Reps H ds vs
 |.lst ds,v=>∃a vs,v=.ref a/\H a=some (.lst vs)/\Reps H ds vs
 |.dct,v=>∃a,v=.ref a/\H a=some (.dK [])
def Reps(H:Hp):List Dv->List V->Prop
 |[],vs=>vs=[]
 |d::ds,vs=>∃v r,vs=v::r/\Rep H d v/\Reps H ds r
end
mutual
theorem Rep.mono{H H':Hp}(s:ai H H'):∀{d:Dv}{v:V},Rep H d v->Rep H' d v
 |.non,_,h=>by simpa only[Rep]using h
 |.bl b,_,h=>by simpa only[Rep]using h
 |.int i,_,h=>by simpa only[Rep]using h
 |.str x,_,h=>by simpa only[Rep]using h
 |.tup ds,_,h=>by
  simp only[Rep]at h⊢
  obtain⟨a,vs,e,h1,h2⟩:=h
  exact⟨a,vs,e,s _ _ h1,Reps.mono s h2⟩
 |.lst ds,_,h=>by
  simp only[Rep]at h⊢
  obtain⟨a,vs,e,h1,h2⟩:=h
  exact⟨a,vs,e,s _ _ h1,Reps.mono s h2⟩
 |.dct,_,h=>by
  simp only[Rep]at h⊢
  obtain⟨a,e,h1⟩:=h
  exact⟨a,e,s _ _ h1⟩
theorem Reps.mono{H H':Hp}(s:ai H H'):∀{ds:List Dv}{vs:List V},Reps H ds vs->Reps H' ds vs
 |[],_,h=>by simpa only[Reps]using h
 |d::ds,_,h=>by
  simp only[Reps]at h⊢
  obtain⟨v,r,e,h1,h2⟩:=h
  exact⟨v,r,e,Rep.mono s h1,Reps.mono s h2⟩
end
theorem Reps.length{H:Hp}:∀{ds:List Dv}{vs:List V},Reps H ds vs->vs.length=ds.length
 |[],_,h=>by simp only[Reps]at h;subst h;rfl
 |d::ds,_,h=>by
  simp only[Reps]at h
  obtain⟨v,r,e,h1,h2⟩:=h
  subst e
  rw[ω,ω,Reps.length h2]
theorem Reps.get{H:Hp}:∀{ds:List Dv}{vs:List V},Reps H ds vs->∀{i:Nat}{v:V},vs[i]?=some v->∃d,ds[i]?=some d/\Rep H d v
 |[],_,h,i,v,e=>by simp only[Reps]at h;subst h;simp at e
 |d::ds,_,h,i,v,e=>by
  simp only[Reps]at h
  obtain⟨v',r,e',h1,h2⟩:=h
  subst e'
  cases i with
  | zero => exact ⟨d, rfl, by have : v' = v := by simpa using e
                              subst this;exact h1⟩
  |succ i=>obtain⟨d',e1,e2⟩:=Reps.get h2 (i:=i) (v:=v) (by simpa using e);exact⟨d',by simpa using e1,e2⟩
def Dv.tn:Dv->String
 |.non=>"NoneType" |.bl _=>"bool" |.int _=>"int" |.str _=>"str" |.tup _=>"tuple" |.lst _=>"list" |.dct=>"dict"
theorem Rep.ty{K:ζ}{H:Hp}{d:Dv}{v:V}(h:Rep H d v):cU K H v (.type d.tn):=by
 cases d with
 |non=>simp only[Rep]at h;subst h;exact .non
 |bl b=>simp only[Rep]at h;subst h;exact .bl b
 |int i=>simp only[Rep]at h;subst h;exact .int i
 |str x=>simp only[Rep]at h;subst h;exact .str x
 |tup ds=>simp only[Rep]at h;obtain⟨a,vs,rfl,h1,_⟩:=h;exact .tup h1
 |lst ds=>simp only[Rep]at h;obtain⟨a,vs,rfl,h1,_⟩:=h;exact .lst h1
 |dct=>simp only[Rep]at h;obtain⟨a,rfl,h1⟩:=h;exact .dK h1
def isT(d:Dv)(n:String):Bool:=d.tn==n||(d.tn=="bool" && n=="int")
theorem iy(K:ζ)(d:Dv):f_ K (.type d.tn) (.type "int")=some (isT d "int"):=by
 unfold f_ Cb
 cases d<;>kernel_rfl
theorem jt(K:ζ)(d:Dv):f_ K (.type d.tn) (.type "bool")=some (isT d "bool"):=by
 unfold f_ Cb
 cases d<;>kernel_rfl
theorem eM(K:ζ)(d:Dv):f_ K (.type d.tn) (.type "str")=some (isT d "str"):=by
 unfold f_ Cb
 cases d<;>kernel_rfl
theorem cb(K:ζ)(d:Dv):f_ K (.type d.tn) (.type "tuple")=some (isT d "tuple"):=by
 unfold f_ Cb
 cases d<;>kernel_rfl
section
variable{k:Nat}{ix:List Nat}{g:TG}{tt:TT}{te:TE}{σ:St}{H1:Hp}{Q:List V->Hp->Prop}
theorem iU{f F:Nat->V}{n:Nat}(hs:∀i ys,i<n->ys.length=i->de k ix g tt te σ (f i) ys H1 λys' H'=>ys'=ys++[F i]/\H'=H1)(hd:Q ((ϗ n).map F) H1):rLC (Itf f n) k ix g tt te σ H1 Q:=by
 refine⟨λi m ys H=>m=n-i/\i<=n/\H=H1/\ys=(ϗ i).map F,⟨n,(),Υ _,rfl,rfl⟩,?_⟩
 rintro i m ys H ⟨rfl,hi,rfl,rfl⟩
 by_cases hlt:i<n
 ·refine .inr ⟨hlt,λys' H'=>ys'=(ϗ i).map F++[F i]/\H'=H,λys' H' ⟨e1,e2⟩=>⟨n-(i+1),(),rfl,hlt,e2,by rw[e1,List.range_succ,Ι];rfl⟩,λx H' y=>?_⟩
  obtain⟨e,y⟩:=y
  subst e y
  exact hs i _ hlt ()
 ·have e:i=n:=by omega
  subst e
  exact .inl ⟨rfl,hd⟩
theorem bu{i:Nat}{x:V}{ys:List V}{H:Hp}{N:List V->Hp->Prop}(h:te ((cZ k ix σ).set i (some x)) H λy H4=>ys.length<sizeLine/\N (ys++[y]) H4):de k ix (cP i) vG te σ x ys H N:=by
 exact aF (B:=N ys H) h
theorem eE{i j:Nat}{K:ζ}{a:Addr}{x y:V}{ys:List V}{H:Hp}{N:List V->Hp->Prop}(ha:H a=some (.tup [x,y]))(h:te (((cZ k ix σ).set i (some x)).set j (some y)) H λy H4=>ys.length<sizeLine/\N (ys++[y]) H4):
  de k ix (wO K 2 (gL (cP i) (gL (cP j) sV))) vG te σ (.ref a) ys H N:=by
 refine⟨a,_,rfl,SqT.of ha,rfl,_,_,rfl,_,_,rfl,rfl,?_⟩
 exact aF (B:=N ys H) h
theorem wM{f:Nat->V}{n:Nat}{g:TG}{tb:TS}{D:bZ}{σ:St}{H:Hp}(Pv:Nat->St->Hp->Prop)(h0:Pv 0 σ H)
  (hs:∀i σ H,i<n->Pv i σ H->g (f i) σ H λσ2 H2=>tb {D with nx:=Pv (i+1),ct:=Pv (i+1),bk:=D.nx} σ2 H2) (hd:∀σ H,Pv n σ H->D.nx σ H):
  ∃W:Nat->Nat->St->Hp->Prop,(∃m,W 0 m σ H)/\∀i m σ H,W i m σ H ->
   ((Itf f n).stop i H/\D.nx σ H)\/((Itf f n).go i H/\∃N:St->Hp->Prop,(∀σ' H',N σ' H'->∃m',m'<m/\W (i+1) m' σ' H')/\∀x H',(Itf f n).yld i H x H'->g x σ H' λσ2 H2=>tb {D with nx:=N,ct:=N,bk:=D.nx} σ2 H2):=by
 refine⟨λi m σ H=>m=n-i/\i<=n/\Pv i σ H,⟨n,(),Υ _,h0⟩,?_⟩
 rintro i m σ H ⟨rfl,hi,p⟩
 by_cases hlt:i<n
 ·refine .inr ⟨hlt,Pv (i+1),λσ' H' p'=>⟨n-(i+1),(),rfl,hlt,p'⟩,λx H' y=>?_⟩
  obtain⟨e,y⟩:=y
  subst e y
  exact hs i σ _ hlt p
 ·have e:i=n:=by omega
  subst e
  exact .inl ⟨rfl,hd σ H p⟩
end
mutual
def Dv.small:Dv->Bool
 |.str x=>decide (x.cps.size<=1000)
 |.tup xs=>smalls xs&&decide (xs.length<=1000)
 |.lst xs=>smalls xs&&decide (xs.length<=1000)
 |_=>true
def smalls:List Dv->Bool
 |[]=>true
 |d::ds=>d.small&&smalls ds
end
theorem cO:∀{ds:List Dv},smalls ds=true->∀{i:Nat}{d:Dv},ds[i]?=some d->d.small=true
 |[],_,i,d,e=>by simp at e
 |x::ds,h,i,d,e=>by
  simp only[smalls,ψ]at h
  cases i with
  |zero=>
   have e':x=d:=by simpa using e
   subst e';exact h.1
  |succ i=>exact cO h.2 (i:=i) (by simpa using e)
theorem qK{x:Str}(h:x.cps.size<=1000):x.length<=sizeLine:=n_ (sR h)
theorem ac{H:Hp}{p:Addr}(h:H p=none)(o:HO):ai H (upd H p o):=λb u q=>by rw[aq (aj q h)];exact q
section
variable{X:Cx}
theorem pe(K:ζ)(h:X.K=K):IxR X (sT K):=by subst h;exact aA
theorem uO(K:ζ)(h:X.K=K):cS X (.builtin "len") (λxs H Q=>∃p ys,xs=[.ref p]/\(SqL K H p ys\/SqT K H p ys)/\Q (.int ys.length) H):=by subst h;exact au
def zz(K:ζ):R2:=λx y H Q=>∃a b xs ys,x=.ref a/\y=.ref b/\SqT K H a xs/\SqT K H b ys/\xs.length+ys.length<=sizeLine /\
 (xs=[]->Q (.ref b) H)/\(ys=[]->Q (.ref a) H)/\(∀p,H p=none->Q (.ref p) (upd H p (.tup (xs++ys))))
theorem eK:OpR X (binaryOp .Add) (zz X.K):=by
 intro pins s σ H x y v u Q I rx ry h
 obtain⟨a,b,xs,ys,rfl,rfl,ha,hb,hz,q0,q1,q2⟩:=h
 by_cases hx:xs=[]
 ·cases rx
  cases ry
  obtain⟨its,r1,p1,_⟩:=I.tuple ha
  obtain⟨its2,r2,p2,_⟩:=I.tuple hb
  subst hx
  cases r1
  obtain⟨⟨cls,dd,data,sl⟩,ho,hc,n,hd⟩:=id p1
  obtain⟨⟨cls2,dd2,data2,sl2⟩,ho2,hc2,n2,hd2⟩:=id p2
  simp only at hc hd hc2 hd2
  subst hc hd hc2 hd2
  exact concat_meets ⟨_,ho,rfl⟩ ⟨_,ho2,rfl⟩ CA seq_tuple_add BC By (A6 _ _) (tuple_addW0 a b _ _ n n2 dd dd2 sl sl2 rfl) ⟨ho,ho2,⟨.ref b,H,I,rfl,q0 rfl⟩⟩
 ·exact wC pins s σ H (.ref a) (.ref b) v u Q I rx ry ⟨a,b,xs,ys,rfl,rfl,ha,hb,hx,hz,q1,λ_=>q2⟩
end
section
variable{σ:St}{H:Hp}{d e:Dv}{ds es:List Dv}{ta tb:TE}{t:TA}
theorem Reps.append{H:Hp}:∀{ds es:List Dv}{vs ws:List V},Reps H ds vs->Reps H es ws->Reps H (ds++es) (vs++ws)
 |[],_,_,_,h,g=>by simp only[Reps]at h;subst h;exact g
 |d::ds,es,vs,ws,h,g=>by
  simp only[Reps]at h
  obtain⟨v,r,rfl,h1,h2⟩:=h
  simp only[ϯ,Reps]
  exact⟨v,r++ws,rfl,h1,Reps.append h2 g⟩
end
def aZ(H:Hp)(l:Addr):Hp:=λb=>if b=l then none else H b
theorem bw{H:Hp}{l:Addr}:ai (aZ H l) H:=λb o h=>by
 unfold aZ at h
 by_cases e:b=l
 ·rw[Q5 e]at h;cases h
 ·rw[Q6 e]at h;exact h
theorem bq{H H':Hp}{l:Addr}(s:ai H H'):ai (aZ H l) (aZ H' l):=λb o h=>by
 unfold aZ at h⊢
 by_cases e:b=l
 ·rw[Q5 e]at h;cases h
 ·rw[Q6 e]at h⊢;exact s b o h
theorem fX{H H':Hp}{l:Addr}(s:ai H H')(hl:H l=none):ai H (aZ H' l):=λb o h=>by
 unfold aZ
 rw[Q6 (aj h hl)]
 exact s b o h
theorem uc{H:Hp}{l p:Addr}{o:HO}(hl:H l≠none)(hp:H p=none):aZ (upd H p o) l p=some o/\ai (aZ H l) (aZ (upd H p o) l):=by
 have ne:p≠l:=λe=>hl (e▸hp)
 refine⟨?_,bq (ac hp o)⟩
 unfold aZ
 rw[Q6 ne,aa]
section
variable{σ:St}{H:Hp}{d e:Dv}{ds es:List Dv}{ta tb:TE}{t:TA}{l:Addr}
variable{i:Nat}{u:TS}{D:bZ}
end
section
variable{X:Cx}
end
section
variable{prog:υ}{w:Μ}{K:Type}[DecidableEq K]{knd:PySem.KeyKind prog w K}{A:Ρ}{R:C0->θ->Prop}{I d:Addr}{fp wr:List Addr}{n:Nat}{P:Nat->δ->Prop}{St:Nat->Heap->Prop}
end
section
variable{prog:υ}{w:Μ}{K:Type}[DecidableEq K]{knd:PySem.KeyKind prog w K}{A:Ρ}{E:δ->θ->Prop}{s:θ}
end
section
variable{X:Cx}
end
open PySem PySem.Spec PyProof.Rows PySem.W
section
variable{X:Cx}{pins:List (Addr×Obj)}{σ:St}{H:Hp}{s:θ}
theorem Inv.setList{D:Addr}{ys0 ys:List V}{its:List δ}{c:Nat}{h':Heap}{m:Str->Option δ}(I:Inv X pins σ H s)(hm:s.heap.Ns X.env.locals m)(hD:H D=some (.lst ys0))(rv:aD ys its)(hz:ys.length<=sizeLine)
  (F:h'.Ns X.env.locals m) (k:∀b o,b≠X.env.locals->b≠D->s.heap.get? b=some o->h'.get? b=some o) (e:h'.get? D=some {cls:=.type "list",data:=.seq its.toArray c}):Inv X pins σ (upd H D (.lst ys)) {s with heap:=h'}:=by
 have nl:∀b v,H b=some v->b≠X.env.locals:=λb v q z=>by rw[z,I.free]at q;cases q
 have nD:∀b,H b=none->b≠D:=λb q z=>by rw[z,hD]at q;cases q
 have nT:∀b v,H b=some v->v≠.lst ys0->b≠D:=λb v q n z=>by rw[z,hD]at q;cases q;exact n rfl
 refine I.step (g':=s.gens) (d':=s.drawn) (t':=s.toks) (ch:=[]) (λb hb=>by cases hb) (λb o hL _ _ q n=>k b o hL (nD b n) q) (λb o hL _ _ q n=>⟨o.slots,k b o hL (nD b n) q⟩) (λb o _ q n=>by rw[aq (nD b n)];exact n) (λb o _ q=>?_)
  (λb xs q=>by rw[aq (nT b _ q nofun)];exact q) (λb o v q=>by rw[aq (nT b _ q nofun)];exact q) (λb ps q=>⟨#[],by rw[aq (nT b _ q nofun),q];simp⟩) (λm' hm'=>by rw[za hm' hm];exact F) (λb v q=>?_) I.bare
 ·by_cases hb:b=X.env.locals
  ·subst hb
   obtain⟨o',_,_,q',_⟩:=F
   exact⟨o',q'⟩
  ·by_cases hd:b=D
   ·subst hd;exact⟨_,e⟩
   ·exact⟨o,k b o hb hd q⟩
 ·by_cases hb:b=D
  ·subst hb
   rw[aa]at q
   cases q
   exact⟨hz,its,c,rv,e⟩
  ·rw[aq hb]at q
   refine(I.hok b v q).stay (λc w' hc q'=>?_) (λc q'=>by rw[aq (nT c _ q' nofun)];exact q') λc xs q'=>by rw[aq (nT c _ q' nofun)];exact q'
   rcases hc with z|z
   ·subst z;exact k c w' (nl c v q) hb q'
   ·exact k c w' (nl c _ z) (nT c _ z nofun) q'
theorem vv{A:Ρ}{E:δ->θ->Prop}{l:Addr}{ps:List TK}{Q:δ->θ->Prop}(I:Inv X pins σ H s)(hq:H l=some (.lst (ps.map λp=>V.ref p.1)))(ht:∀p∈ps,H p.1=some (.tup (.str p.2.1::p.2.2)))
  (nd:(ps.map (·.2.1)).Nodup) (h64:ps.length<64) (q:∀(qs:List TK)(h':Heap),qs.Perm ps->qs.Pairwise uv->Inv X pins σ (upd H l (.lst (qs.map λp=>V.ref p.1))) {s with heap:=h'}->Q .none {s with heap:=h'}):
  wpAny (model X.prog X.w) A (call (.builtin "list.sort") [.ref l]) Q E s:=by
 obtain⟨hz,its,n,rv,at0⟩:=(show aX X.prog X.w H s.heap l (.lst (ps.map λp=>V.ref p.1))from I.hok l _ hq)
 have ei:=wB ps its rv
 subst ei
 obtain⟨m,hm,_⟩:=I.loc
 have nL:l≠X.env.locals:=λz=>by rw[z,I.free]at hq;cases hq
 have lne:∀p∈ps,p.1≠l/\p.1≠X.env.locals:=λp hp=>by
  refine⟨λz=>?_,λz=>?_⟩
  ·have t:=ht p hp
   rw[z,hq]at t
   cases t
  ·have t:=ht p hp
   rw[z,I.free]at t
   cases t
 by_cases few:ps.length<2
 ·refine Ϲ slot_list_sort ⟨_,at0,rfl⟩ entry_list_sort (jV at0 (by simpa using few) λhp ep k2 e2=>⟨_,rfl,?_⟩) (args_list_sort _)
  refine q ps hp (List.Perm.refl _) ?_ (I.setList hm hq (gq ps) hz (hm.at' λo e=>k2 _ o (ϒ nL) e) (λb o _ hb z=>k2 b o hb z) e2)
  match ps,few with
  |[],_=>exact .nil
  |[p],_=>exact List.pairwise_singleton _ _
 ·have hlen:(ps.map λp=>Τ p.1).length=ps.length:=η _
  have F0:Fr (Att.noObjs s.heap) X.env.locals s.heap m:=Att.fr_all hm
  generalize hN:(ir (Att.noObjs s.heap) s.heap X.env.locals).filter (λp=>decide (p.1≠l))=nw
  have N0:News (Att.noObjs s.heap) X.env.locals s.heap nw:=λp hp=>by rw[<-hN]at hp;exact uH p (u_.mp hp).1
  have nl0:∀p∈nw,p.1≠l:=λp hp=>by rw[<-hN]at hp;exact Q7 (u_.mp hp).2
  refine Ϲ slot_list_sort ⟨_,at0,rfl⟩ entry_list_sort (kat_list_sort F0 N0 at0 nL (Att.noObjs_get _ _) nl0 (by rw[hlen];omega) (by rw[hlen];exact h64) λe1 h' F' N'=>?_) (args_list_sort _)
  have keep:∀(g:Heap)(x:Obj),News (Att.noObjs s.heap) X.env.locals g ((l,x)::nw)->∀b o,b≠X.env.locals->b≠l->s.heap.get? b=some o->g.get? b=some o:=λg x N b o hb hl e=>
   (N (b,o) (χ _ (by rw[<-hN];exact u_.mpr ⟨nQ hb (Att.noObjs_get _ _) e,Q9 hl⟩))).1
  have kp:=keep h' _ N'
  have atv:∀i,i<ps.length->(ps.map λp=>Τ p.1).getD i .none=Τ (ps.getD i (0,default,[])).1:=λi hi=>by
   simp[CV,hi]
  have item:∀i,i<ps.length->∃(o:Obj) (us:List δ) (n:Nat) (t:Tok),h'.get? (ps.getD i (0,default,[])).1=some o/\o.cls=.type "tuple"/\o.data=.seq (i7 (ps.getD i (0,default,[])).2.1 t::us).toArray n:=λi hi=>by
   have hm':ps.getD i (0,default,[])∈ps:=by
    have e:ps.getD i (0,default,[])=ps[i]:=by simp[CV,hi]
    rw[e];exact i8 hi
   obtain⟨o,us,n,t,e,c,d⟩:=vx I (ht _ hm')
   exact⟨o,us,n,t,kp _ o (lne _ hm').2 (lne _ hm').1 e,c,d⟩
  have firsts:∀(qs:List TK),(∀p∈qs,p∈ps)->∃fs:List δ,KatTups h' (qs.map λp=>Τ p.1) fs/\fs.length=qs.length/\∀v∈fs,∃x t,v=i7 x t:=by
   intro qs
   induction qs with
   |nil=>intro _;exact⟨[],KatTups.nil,rfl,()⟩
   |cons p qs ih=>
    intro hs
    obtain⟨fs,t1,t2,t3⟩:=ih λx hx=>hs x (χ _ hx)
    have hp:=hs p ξ
    obtain⟨o,us,n,t,e,c,d⟩:=vx I (ht _ hp)
    refine⟨i7 p.2.1 t::fs,KatTups.cons (kp _ o (lne _ hp).2 (lne _ hp).1 e) c d () t1,by simp[t2],λv hv=>?_⟩
    rcases ν.mp hv with rfl|hv
    ·exact⟨_,_,rfl⟩
    ·exact t3 v hv
  obtain⟨fs,t1,t2,t3⟩:=firsts ps λp hp=>hp
  refine kat_kind (T:=.type "str") (s:={s with heap:=h'}) t1 (by rw[t2];omega) (λv hv=>?_) () ?_
  ·obtain⟨x,t,rfl⟩:=t3 v hv
   exact Looks.of_pure rfl
  rw[hlen]
  have O:Ord (kas_ask X.prog X.w A.in1 (tuples' (B6 "str" != B6 "tuple")) (ps.map λp=>Τ p.1)) (λi j=>decide ((ps.getD i (0,default,[])).2.1.cps.toList<(ps.getD j (0,default,[])).2.1.cps.toList)) ps.length {s with heap:=h'}:=by
   have unlike:∀i j,i<ps.length->j<ps.length->i≠j->(ps.getD i (0,default,[])).2.1≠(ps.getD j (0,default,[])).2.1:=λi j hi hj hij e=>by
    have ei:ps.getD i (0,default,[])=ps[i]:=by simp[CV,hi]
    have ej:ps.getD j (0,default,[])=ps[j]:=by simp[CV,hj]
    rw[ei,ej]at e
    exact hij ((BI (h₀:=by simpa using hi) (h₁:=by simpa using hj) nd).mp (by simpa using e))
   refine⟨λi j C hi hj hij hC=>?_,λi j k h1 h2=>?_,λi j hi hj hij h1=>?_,λi j h1=>?_⟩
   ·show wpAny _ _ (keyLt' _ _ _) C _ _
    rw[atv i hi,atv j hj]
    obtain⟨o,us,n,t,e,c,d⟩:=item i hi
    obtain⟨o2,us2,n2,t2',e2,c2,d2⟩:=item j hj
    refine kat_lt (s:={s with heap:=h'}) e d e2 d2 ?_
    show KatLex _ _ _ _ _ _ ((i7 _ t,i7 _ t2')::_) 0 _
    refine kat_cons (wpAny_eqBool_str ?_)
    rw[Q8 (unlike i j hi hj hij)]
    exact kat_no (oneLt_str hC)
   ·exact Q9 (List.lt_trans (Q7 h1) (Q7 h2))
   ·exact Q9 (xB (of_decide_eq_false h1) λe=>unlike i j hi hj hij (wL e))
   ·exact Q8 (List.lt_asymm (Q7 h1))
  refine wU O () λp re up=>?_
  have outs:(p.toList.map λi=>(ps.map λp=>Τ p.1).getD i .none)=(p.toList.map λi=>ps.getD i (0,default,[])).map λp=>Τ p.1:=by
   rw[Ξ]
   refine r_ λi hi=>?_
   have hl2:p.toList.Perm (ϗ ps.length):=by simpa using y8.mp re.perm
   exact atv i (t_.mp ((List.Perm.mem_iff hl2).mp hi))
  rw[outs]
  refine KasFin.intro (news:=(l,seqObj "list" #[] e1)::nw) (g:=λo'=>(l,o')::nw) F' N' (.head nl0) λh2 c F2 N2=>?_
  have pq:=tq (d:=(0,default,[])) rfl re
  have I2:=I.setList (D:=l) (ys:=(p.toList.map λi=>ps.getD i (0,default,[])).map λp=>V.ref p.1) hm hq (gq _) (by rw[η,pq.length_eq];simpa using hz) F2.ns (keep h2 _ N2) (N2 (l,_) ξ).1
  exact⟨_,rfl,q _ h2 pq (jU (R:=uv) (λi j _ _ h=>(Q7 h:(ps.getD i (0,default,[])).2.1.cps.toList<(ps.getD j (0,default,[])).2.1.cps.toList)) re up) I2⟩
def jF(v d:Addr):HO:=.ext λh=>h.IsItemsView v d
theorem ve:MtR X "dict.items" (λx xs H Q=>∃d kvs,x=.ref d/\xs=[]/\H d=some (.dK kvs)/\∀v,H v=none->Q (.ref v) (upd H v (jF v d))):=by
 intro pins s σ H x xs u us Q I rx rv h
 obtain⟨d,kvs,rfl,rfl,hd,q⟩:=h
 cases rx
 cases rv
 obtain⟨z,hdm,vs,rel,dd⟩:=vW I.hok hd
 refine call_meetsIn PySem.F.slot_dict_items dd.typeIs PySem.F.entry_dict_items (PySem.F.args_dict_items_1 _) (meets_dict_items (aP X.prog X.w) d hdm) ⟨⟨vs,dd⟩,?_⟩
 refine⟨.ref s.heap.objs.size,_,I.laid (t':=s.toks) (a:=s.heap.objs.size) (o:=jF s.heap.objs.size d) (λb u q=>ο _ q) (π _) ?_,rfl,q _ I.fresh⟩
 exact⟨⟨_,Δ _ rfl,rfl,rfl⟩,⟨_,Δ _ rfl⟩,λh1 h2 ⟨o,e,r⟩ k=>⟨o,k o e,r⟩⟩
def lays(H:Hp)(rs:List TK):Hp:=λb=>match rs.find? (λr=>decide (r.1=b))with|some r=>some (.tup (.str r.2.1::r.2.2))|none=>H b
theorem ju{rs:List TK}{b:Addr}(h:∀r∈rs,r.1≠b):lays H rs b=H b:=by
 unfold lays
 rw[Cc.mpr (λr hr e=>h r hr (Q7 e))]
theorem rL{rs:List TK}(nd:(rs.map (·.1)).Nodup){r:TK}(hr:r∈rs):lays H rs r.1=some (.tup (.str r.2.1::r.2.2)):=by
 unfold lays
 cases e:rs.find? (λx=>decide (x.1=r.1))with
 |none=>exact absurd (Q9 rfl) (Cc.mp e r hr)
 |some x=>
  have hx:=List.mem_of_find?_eq_some e
  have e1:x.1=r.1:=Q7 (List.find?_some (p:=λx:TK=>decide (x.1=r.1)) e)
  obtain⟨i,hi,rfl⟩:=B0 hx
  obtain⟨j,hj,rfl⟩:=B0 hr
  have:i=j:=(BI (h₀:=by simpa using hi) (h₁:=by simpa using hj) nd).mp (by simpa using e1)
  subst this
  rfl
theorem Inv.lays{h':Heap}{tk:Nat}{rs:List TK}(I:Inv X pins σ H s)(k:∀b u,s.heap.get? b=some u->h'.get? b=some u)(nd:(rs.map (·.1)).Nodup)(hp:∀r∈rs,s.heap.objs.size<=r.1)
  (new:∀r∈rs,aX X.prog X.w (L2.lays H rs) h' r.1 (.tup (.str r.2.1::r.2.2))):Inv X pins σ (L2.lays H rs) {s with heap:=h',toks:=tk}:=by
 have out:∀b,b<s.heap.objs.size->L2.lays H rs b=H b:=λb hb=>ju λr hr e=>absurd hb (Nat.not_lt.mpr (e▸hp r hr))
 refine I.un (t':=tk) ⟨λb u q _ _ _=>k b u q,λb u q _ _ _=>⟨u.slots,k b u q⟩,λb u q n _=>by rw[out b (Β q)];exact n,λb u q _=>⟨u,k b u q⟩,λb xs q=>by rw[out b (I.hok.lt q)];exact q,λb u xs q=>by rw[out b (I.hok.lt q)];exact q,
  λb ps q=>⟨#[],by rw[out b (I.hok.lt q),q];simp⟩⟩ λb u e=>?_
 by_cases hb:∃r∈rs,r.1=b
 ·obtain⟨r,hr,rfl⟩:=hb
  rw[rL nd hr]at e
  cases e
  exact new r hr
 ·rw[ju λr hr z=>hb ⟨r,hr,z⟩]at e
  exact(I.hok b u e).stay (λc v _ q=>k c v q) (λc q=>by rw[out c (I.hok.lt q)];exact q) λc xs q=>by rw[out c (I.hok.lt q)];exact q
theorem mF(hc:X.calm=true):cS X (.builtin "sorted") (λxs H Q=>∃(v d:Addr) (m:List (Str×V)),xs=[.ref v]/\H v=some (jF v d)/\H d=some (.dK (m.map λp=>((ϟ p.1:Key),p.2)))/\m.length<64 /\
  ∀(H':Hp)(l:Addr)(qs:List TK),ai H H'->H l=none->(∀r∈qs,H' r.1=some (.tup (.str r.2.1::r.2.2))/\H r.1=none)->H' l=some (.lst (qs.map λr=>V.ref r.1))->(qs.map (·.2)).Perm (m.map λp=>(p.1,[p.2]))->qs.Pairwise uv->Q (.ref l) H'):=by
 intro pins s σ H xs us Q I r h
 obtain⟨v,d,m,rfl,hv,hd,h64,q⟩:=h
 obtain⟨u,rfl,ru⟩:=dG r
 cases ru
 obtain⟨vw,_,_⟩:=(show aX X.prog X.w H s.heap v (jF v d)from I.hok v _ hv)
 obtain⟨z,hdm,vs,rel,dd⟩:=vW I.hok hd
 have hvl:vs.length=m.length:=by have:=rel.length;rw[η]at this;exact this.symm
 obtain⟨ep,da⟩:=dd.dictAt
 have ndk:(vs.map (·.1)).Nodup:=by obtain⟨_,_,_,_,_,_,_,nd⟩:=da;exact nd
 refine Calls.call_function_entry kind_sorted plain_sorted entry_sorted (args_sorted1 _) ?_
 unfold o8.«sorted»
 refine ε (m:=checkCount "sorted" 1 1 _) (ρ (ε (kdx_collect (A:=X.A.in1) (knd:=aP X.prog X.w) (kvs:=vs) (ep:=ep) (I.ok.hd hc) vw da (by rw[<-rel.length];exact z) λh' tk as hk hl hG=>?_)))
 have hlm:as.length=m.length:=by omega
 have e1:((as.zip m).map λp=>((p.1,p.2.1,[p.2.2]):TK)).map (·.1)=as:=by
  rw[Ξ]
  have:((λx:TK=>x.1)∘λp:Addr×Str×V=>((p.1,p.2.1,[p.2.2]):TK))=Prod.fst:=rfl
  rw[this,List.map_fst_zip ()]
 have e2:((as.zip m).map λp=>((p.1,p.2.1,[p.2.2]):TK)).map (·.2)=m.map λp=>(p.1,[p.2]):=by
  rw[Ξ]
  have:((λx:TK=>x.2)∘λp:Addr×Str×V=>((p.1,p.2.1,[p.2.2]):TK))=(λp:Str×V=>(p.1,[p.2]))∘Prod.snd:=rfl
  rw[this,<-Ξ,List.map_snd_zip ()]
 have e3:((as.zip m).map λp=>((p.1,p.2.1,[p.2.2]):TK)).map (λr=>V.ref r.1)=as.map V.ref:=by
  have:(λr:TK=>V.ref r.1)=V.ref∘(λr:TK=>r.1):=rfl
  rw[this,<-Ξ,e1]
 have pairs:∀r∈(as.zip m).map λp=>((p.1,p.2.1,[p.2.2]):TK),∃(x:Str) (y:V) (u w':δ),r.2=(x,[y])/\aH (.str x) u/\aH y w'/\h'.get? r.1=some {cls:=.type "tuple",data:=.seq #[u,w']}:=λr hr=>by
  obtain⟨⟨a,x,y⟩,hp,rfl⟩:=ϥ.mp hr
  obtain⟨j,hj⟩:=List.getElem?_of_mem hp
  obtain⟨ha,hm⟩:=List.getElem?_zip_eq_some.mp hj
  obtain⟨key,k,w',g1,g2,g3⟩:=hG.pairs j a ha
  obtain⟨y',hy,ry⟩:=rel.at g1
  rw[Ν,hm]at hy
  have hy':((ϟ x:Key),y)=(k,y'):=ϕ hy
  injection hy' with k1 k2
  subst k1 k2
  exact⟨x,y,key,w',rfl,Ax g2,ry,g3⟩
 generalize hrs:(as.zip m).map (λp=>((p.1,p.2.1,[p.2.2]):TK))=rs at e1 e2 e3 pairs
 have lrs:rs.length=m.length:=by rw[<-hrs,η,List.length_zip];omega
 have nda:(rs.map (·.1)).Nodup:=by rw[e1];exact hG.rise.imp λh=>Ϛ h
 have above:∀r∈rs,s.heap.objs.size<=r.1:=λr hr=>n_ (hG.above r.1 (by rw[<-e1];exact j8 hr))
 have tup:∀(Hx:Hp)(r:TK),r∈rs->aX X.prog X.w Hx h' r.1 (.tup (.str r.2.1::r.2.2)):=λHx r hr=>by
  obtain⟨x,y,u,w',er,r1,r2,g⟩:=pairs r hr
  rw[er]
  exact⟨by show 2<=sizeLine;rw[ι];decide,[u,w'],.cons r1 (.cons r2 .nil),⟨_,g,rfl,0,rfl⟩,⟨_,g,rfl⟩⟩
 have I1:Inv X pins σ (lays H rs) {s with heap:=h',toks:=tk}:=I.lays hk nda above λr hr=>tup _ r hr
 have s1:ai H (lays H rs):=λb o e=>by
  have ho:∀r∈rs,r.1≠b:=λr hr z'=>by
   have h1:=above r hr
   rw[z']at h1
   exact absurd (I.hok.lt e) (Nat.not_lt.mpr h1)
  rw[ju ho];exact e
 refine ε (wpAny_newList ?_ (by rw[η,hlm,ι];omega))
 have rvals:aD (rs.map λr=>V.ref r.1) (as.map Τ):=by
  have:=gq rs
  have e4:rs.map (λp=>Τ p.1)=as.map Τ:=by
   rw[<-e1,Ξ];rfl
  rwa[e4]at this
 have I2:=I1.lnew (t':=tk) (its:=as.map Τ) rvals (by rw[η,lrs,ι];omega)
 have fr:lays H rs h'.objs.size=none:=I1.fresh
 have s2:ai (lays H rs) (upd (lays H rs) h'.objs.size (.lst (rs.map λr=>V.ref r.1))):=ac fr _
 have inr:∀r∈rs,lays H rs r.1=some (.tup (.str r.2.1::r.2.2)):=λr hr=>rL nda hr
 have hnone:H h'.objs.size=none:=by
  cases e:H h'.objs.size with
  |none=>rfl
  |some o=>have:=s1 _ _ e;rw[fr]at this;cases this
 have nd2:(rs.map (·.2.1)).Nodup:=by
  have e5:rs.map (·.2.1)=m.map (·.1):=by
   have:=congrArg (List.map Prod.fst) e2
   simpa[Ξ,Function.comp_def]using this
  have e6:(m.map (·.1)).map (ϟ:Str->Key)=vs.map (·.1):=by
   rw[<-rel.keys,Ξ,Ξ];rfl
  rw[e5]
  rw[<-e6]at ndk
  rw[List.Nodup,List.pairwise_map]at ndk
  exact ndk.imp λh e=>h (by rw[e])
 refine ε (w9 (vv (A:=X.A.in1) (l:=h'.objs.size) (ps:=rs) I2 aa (λr hr=>s2 _ _ (inr r hr)) nd2 () λqs h2 pq pw I3=>?_))
 refine ρ ⟨_,rfl,.ref h'.objs.size,_,I3,rfl,q _ _ qs (λb o e=>?_) hnone (λr hr=>⟨?_,I.hok.fresh (above r (pq.mem_iff.mp hr))⟩) aa (by rw[<-e2];exact pq.map _) pw⟩
 ·have:=s2 _ _ (s1 _ _ e)
  rw[aq (λz'=>by rw[z',hnone]at e;cases e)]
  exact this
 ·have hm:=pq.mem_iff.mp hr
  rw[aq (aj (inr r hm) fr)]
  exact s2 _ _ (inr r hm)
end
open PySem PySem.Spec PyProof.Rows
section
variable{X:Cx}{pins:List (Addr×Obj)}{σ:St}{H:Hp}{s:θ}
end
section
variable{X:Cx}
end
section
variable{P:υ}{w:Μ}{K:ζ}{mg:Str->Option δ}{base:Heap}
end
open PySem PySem.Spec PyProof.Rows PySem.W
section
variable{X:Cx}{e st:Expr}{te:TE}{ts:TO}{p2 pos:Pos}
end
section
variable{X:Cx}
end
section
variable{P:υ}{w:Μ}{A:Ρ}{E:δ->θ->Prop}{s:θ}
end
section
variable{P:υ}{w:Μ}{A:Ρ}{R:C0->θ->Prop}{I:Addr}{fp wr:List Addr}{G:Array A2->Array A2->Prop}{n:Nat}{Pv:Nat->δ->Prop}{St:Nat->θ->Prop}
end
section
variable{P:υ}{w:Μ}{A:Ρ}{E:δ->θ->Prop}{s:θ}
end
section
variable{P:υ}{w:Μ}{A:Ρ}{E:δ->θ->Prop}
variable{s:θ}{it S:Addr}{o:Obj}{es:Array (Int×δ)}{ep n i:Nat}{t:C5}
end
section
variable{P:υ}{w:Μ}{A:Ρ}{E:δ->θ->Prop}{s:θ}{it S:Addr}{o:Obj}{es:Array (Int×δ)}{ep n i:Nat}{t:C5}
end
section
variable{P:υ}{w:Μ}{A:Ρ}{E:δ->θ->Prop}{s:θ}{it S tp:Addr}{o ot:Obj}{es:Array (Int×δ)}{ep n i m:Nat}{t:C5}{pl:Array δ}
end
section
variable{P:υ}{w:Μ}{A:Ρ}{E:δ->θ->Prop}{s:θ}{S:Addr}{o:Obj}{es:Array (Int×δ)}{ep:Nat}{t:C5}
end
section
variable{P:υ}{w:Μ}{it S tp:Addr}{o ot:Obj}{es:Array (Int×δ)}{ep m:Nat}{t:C5}
end
section
variable{P:υ}{w:Μ}{A:Ρ}{E:δ->θ->Prop}{s:θ}{S:Addr}{xs:List Str}
variable{R:C0->θ->Prop}{it L:Addr}{fp:List Addr}{vs:List δ}{St:Nat->Heap->Prop}
end
section
variable{P:υ}{w:Μ}{A:Ρ}{E:δ->θ->Prop}{s:θ}{S:Addr}{xs:List Str}
end
section
variable{X:Cx}{pins:List (Addr×Obj)}{σ:St}{H:Hp}{s:θ}
end
section
variable{X:Cx}
theorem wz{j:Int}(h0:0<j)(h1:j<10^60):j.natAbs.log2<9000:=by
 have hn:j.natAbs<2^200:=by omega
 have:=(Nat.log2_lt (n:=j.natAbs) (k:=200) ()).mpr hn
 omega
def zX(i j:Int):Prop:=0<j/\j<10^60
theorem mQ:OpR X (binaryOp .FloorDiv) (rI zX λi j=>.int (i/j)):=opI λi j _ _ _ _ _ hc q=>by
 have h1:(0:Int)<j:=hc.1
 exact floordiv_int () (by rw[Int.fdiv_eq_ediv_of_nonneg i ()];exact q) (.inl (PyProof.noPylong_of_log2 (wz hc.1 hc.2)))
end
open PySem PySem.Spec PyProof.Rows
section
variable{prog:υ}{w:Μ}{A:Ρ}{E:δ->θ->Prop}{s:θ}
theorem bi{it t:Addr}{i:Nat}{its:Array δ}{x:δ}{Q:δ->θ->Prop}(hit:s.heap.IsTupleIter it t i)(ht:s.heap.IsTuple t its)(hx:its[i]?=some x)
  (hQ:∀h',h'.IsTupleIter it t (i+1)->y_ it s.heap h'->Q x {s with heap:=h'}):wpAny (model prog w) A (ύ (.ref it)) Q E s:=by
 obtain⟨o,ho,hc,hd⟩:=id hit
 obtain⟨ol,hol,_,nl,hdl⟩:=ht
 unfold ύ
 refine ε (Ϯ (name:=γ "__next__") hit.typeIs m6 (Ϲ m6 hit.typeIs B2 ?_ (BW _)))
 show wpAny _ _ (field (.ref it) 0>>=_) _ _ s;refine ε (Ϝ ho hd (x:=.ref t) rfl ?_)
 show wpAny _ _ (if (Τ t==u7)=true then _ else _) _ _ s;rw[Q6 (show ¬ ((Τ t==u7)=true)from Κ)]
 show wpAny _ _ (field (.ref it) 1>>=_) _ _ s;refine ε (Ϝ ho hd (x:=.int i 0) rfl ?_)
 show wpAny _ _ (seqItems? (.ref t)>>=_) _ _ s;refine ε (ϰ hol hdl ?_);simp only[Ct,hx]
 refine ε (wpAny_setField ho hd () (ρ ⟨x,rfl,ρ (hQ _ ⟨_,Heap.get?_update_self _ ho (Obj.isFreed_of_fields (Obj.data_mapFields hd _)),(Obj.cls_mapFields ..).trans hc,by rw[Obj.data_mapFields hd];simp[rawInt]⟩ (y_.update ..))⟩))
theorem cK{it t:Addr}{i:Nat}{its:Array δ}{Q:δ->θ->Prop}(hh:A.handled=none)(hit:s.heap.IsTupleIter it t i)(ht:s.heap.IsTuple t its)(hx:its[i]?=none)
  (hE:∀h' e,Heap.ExtBut it s.heap h'->(∃o,h'.get? e=some o/\o.cls=.type "StopIteration")->E (.ref e) {s with heap:=h'}):wpAny (model prog w) A (ύ (.ref it)) Q E s:=by
 obtain⟨o,ho,hc,hd⟩:=id hit
 obtain⟨ol,hol,_,nl,hdl⟩:=ht
 unfold ύ
 refine ε (Ϯ (name:=γ "__next__") hit.typeIs m6 (Ϲ m6 hit.typeIs B2 ?_ (BW _)))
 show wpAny _ _ (field (.ref it) 0>>=_) _ _ s;refine ε (Ϝ ho hd (x:=.ref t) rfl ?_)
 show wpAny _ _ (if (Τ t==u7)=true then _ else _) _ _ s;rw[Q6 (show ¬ ((Τ t==u7)=true)from Κ)]
 show wpAny _ _ (field (.ref it) 1>>=_) _ _ s;refine ε (Ϝ ho hd (x:=.int i 0) rfl ?_)
 show wpAny _ _ (seqItems? (.ref t)>>=_) _ _ s;refine ε (ϰ hol hdl ?_);simp only[Ct,hx]
 refine ε (Cd (ε (wpAny_setField ho hd () ?_)));show wpAny _ _ (newExc (.type "StopIteration") []>>=_) _ _ _
 refine ε ?_;simp only[newExc,newTuple];refine ε (ϱ ?_ (by size_fits))
 refine ε (m:=firstArgMember _ _) (wpAny_of_eq (a:=u7) (by first|rfl|(simp only[firstArgMember];rfl)) (ϱ ?_ (by size_fits)))
 simp only[raiseNew];refine ε (wpAny_handled ?_);first|rw[show A.in1.handled=none from hh]|rw[hh]
 refine ε (ρ (wpAny_throw (hE _ _ (((y_.update ..).extBut.push _).push _) ⟨_,Δ _ rfl,rfl⟩)))
end
section
variable{X:Cx}
end
open PySem PySem.Spec PyProof.Rows PySem.W
section
variable{X:Cx}
variable{tg:Expr}
end
noncomputable def gb(p:Prop):Bool:=@decide p (Classical.propDecidable p)
theorem dP{p:Prop}:gb p=true↔p:=by unfold gb;exact @decide_eq_true_iff p (Classical.propDecidable p)
theorem dC{p:Prop}{b:Bool}(h:b=true↔p):b=gb p:=by rw[j6,dP];exact h
theorem cr{p:Prop}(h:¬ p):false=gb p:=dC ⟨λz=>(nomatch z),λz=>absurd z h⟩
mutual
theorem Rep.inj{H:Hp}:∀(d e:Dv)(v:V),Rep H d v->Rep H e v->d=e
 |.tup ds,e,v,h1,h2=>by
  simp only[Rep]at h1
  obtain⟨a,vs,rfl,ha,rs⟩:=h1
  cases e with
  |tup es=>simp only[Rep]at h2;obtain⟨b,ws,eb,hb,rs2⟩:=h2;cases eb;rw[ha]at hb;cases hb;rw[Reps.inj ds es vs rs rs2]
  |lst es=>simp only[Rep]at h2;obtain⟨b,ws,eb,hb,rs2⟩:=h2;cases eb;rw[ha]at hb;cases hb
  |dct=>simp only[Rep]at h2;obtain⟨b,eb,hb⟩:=h2;cases eb;rw[ha]at hb;cases hb
  |_=>simp only[Rep]at h2;cases h2
 |.lst ds,e,v,h1,h2=>by
  simp only[Rep]at h1
  obtain⟨a,vs,rfl,ha,rs⟩:=h1
  cases e with
  |lst es=>simp only[Rep]at h2;obtain⟨b,ws,eb,hb,rs2⟩:=h2;cases eb;rw[ha]at hb;cases hb;rw[Reps.inj ds es vs rs rs2]
  |tup es=>simp only[Rep]at h2;obtain⟨b,ws,eb,hb,rs2⟩:=h2;cases eb;rw[ha]at hb;cases hb
  |dct=>simp only[Rep]at h2;obtain⟨b,eb,hb⟩:=h2;cases eb;rw[ha]at hb;cases hb
  |_=>simp only[Rep]at h2;cases h2
 |.dct,e,v,h1,h2=>by
  simp only[Rep]at h1
  obtain⟨a,rfl,ha⟩:=h1
  cases e with
  |dct=>rfl
  |tup es=>simp only[Rep]at h2;obtain⟨b,ws,eb,hb,rs2⟩:=h2;cases eb;rw[ha]at hb;cases hb
  |lst es=>simp only[Rep]at h2;obtain⟨b,ws,eb,hb,rs2⟩:=h2;cases eb;rw[ha]at hb;cases hb
  |_=>simp only[Rep]at h2;cases h2
 |.non,e,v,h1,h2=>by
  simp only[Rep]at h1;subst h1
  cases e with
  |non=>rfl
  |tup es=>simp only[Rep]at h2;obtain⟨b,ws,eb,_⟩:=h2;cases eb
  |lst es=>simp only[Rep]at h2;obtain⟨b,ws,eb,_⟩:=h2;cases eb
  |dct=>simp only[Rep]at h2;obtain⟨b,eb,_⟩:=h2;cases eb
  |_=>simp only[Rep]at h2;cases h2
 |.bl _,e,v,h1,h2=>by
  simp only[Rep]at h1;subst h1
  cases e with
  |bl b=>simp only[Rep]at h2;cases h2;rfl
  |tup es=>simp only[Rep]at h2;obtain⟨b,ws,eb,_⟩:=h2;cases eb
  |lst es=>simp only[Rep]at h2;obtain⟨b,ws,eb,_⟩:=h2;cases eb
  |dct=>simp only[Rep]at h2;obtain⟨b,eb,_⟩:=h2;cases eb
  |_=>simp only[Rep]at h2;cases h2
 |.int _,e,v,h1,h2=>by
  simp only[Rep]at h1;subst h1
  cases e with
  |int b=>simp only[Rep]at h2;cases h2;rfl
  |tup es=>simp only[Rep]at h2;obtain⟨b,ws,eb,_⟩:=h2;cases eb
  |lst es=>simp only[Rep]at h2;obtain⟨b,ws,eb,_⟩:=h2;cases eb
  |dct=>simp only[Rep]at h2;obtain⟨b,eb,_⟩:=h2;cases eb
  |_=>simp only[Rep]at h2;cases h2
 |.str _,e,v,h1,h2=>by
  simp only[Rep]at h1;subst h1
  cases e with
  |str b=>simp only[Rep]at h2;cases h2;rfl
  |tup es=>simp only[Rep]at h2;obtain⟨b,ws,eb,_⟩:=h2;cases eb
  |lst es=>simp only[Rep]at h2;obtain⟨b,ws,eb,_⟩:=h2;cases eb
  |dct=>simp only[Rep]at h2;obtain⟨b,eb,_⟩:=h2;cases eb
  |_=>simp only[Rep]at h2;cases h2
theorem Reps.inj{H:Hp}:∀(ds es:List Dv)(vs:List V),Reps H ds vs->Reps H es vs->ds=es
 |[],es,vs,h1,h2=>by
  simp only[Reps]at h1;subst h1
  cases es with
  |nil=>rfl
  |cons e es=>simp only[Reps]at h2;obtain⟨v,r,e2,_⟩:=h2;cases e2
 |d::ds,es,vs,h1,h2=>by
  simp only[Reps]at h1
  obtain⟨v,r,rfl,r1,rs1⟩:=h1
  cases es with
  |nil=>simp only[Reps]at h2;cases h2
  |cons e es=>
   simp only[Reps]at h2
   obtain⟨v2,r2,e2,r3,rs3⟩:=h2
   cases e2
   rw[Rep.inj d e v r1 r3,Reps.inj ds es r rs1 rs3]
end
inductive Pl:Nat->Dv->Prop
 |int {n:Nat} {i:Int}:Pl n (.int i)
 |str {n:Nat} {x:Str}:Pl n (.str x)
 |non {n:Nat}:Pl n .non
 |tup {n:Nat} {ds:List Dv}:(∀d∈ds,Pl n d)->Pl (n+1) (.tup ds)
theorem Pl.up{m n:Nat}{d:Dv}(h:Pl m d):m<=n->Pl n d:=by
 induction h generalizing n with
 |int=>intro _;exact .int
 |str=>intro _;exact .str
 |non=>intro _;exact .non
 |tup _ ih=>
  intro l
  obtain⟨k,rfl⟩:∃k,n=k+1:=⟨n-1,()⟩
  exact .tup λd hd=>ih d hd ()
theorem jr{ds es:List Dv}:((ϗ (min ds.length es.length)).all (λj=>gb (ds[j]?=es[j]?))&&ds.length==es.length)=gb (Dv.tup ds=.tup es):=by
 refine dC ?_
 rw[ψ,ϻ,beq_iff_eq]
 constructor
 ·rintro⟨h,hl⟩
  congr 1
  refine Cu λj=>?_
  by_cases hj:j<ds.length
  ·exact dP.mp (h j (t_.mpr ()))
  ·rw[i6 (),i6 ()]
 ·intro h
  cases h
  exact⟨λj _=>dP.mpr rfl,rfl⟩
section
variable{X:Cx}{pins:List (Addr×Obj)}{σ:St}{H:Hp}{s:θ}
theorem iK(I:Inv X pins σ H s){A:Ρ}{n:Nat}{ds es:List Dv}{vs ws:List V}{its its2:List δ}
  (h:∀d∈ds,∀e∈es,∀(v w:V)(a b:δ),Rep H d v->Rep H e w->aH v a->aH w b->ϔ A s a b (gb (d=e))) (rs1:Reps H ds vs) (rs2:Reps H es ws) (rv1:aD vs its) (rv2:aD ws its2):
  its.toArray.size=ds.length/\its2.toArray.size=es.length/\∀j (h1:j<its.toArray.size) (h2:j<its2.toArray.size),ϔ A s its.toArray[j] its2.toArray[j] (gb (ds[j]?=es[j]?)):=by
 have l1:=rs1.length
 have l2:=rs2.length
 have l3:=rv1.length
 have l4:=rv2.length
 refine⟨by simp;omega,by simp;omega,λj h1 h2=>?_⟩
 have hj:j<its.length:=by simpa using h1
 have hj2:j<its2.length:=by simpa using h2
 obtain⟨u,hu1,ru⟩:=aD.get (i:=j) (x:=vs[j]'()) rv1 (ς _)
 obtain⟨u2,hu2,ru2⟩:=aD.get (i:=j) (x:=ws[j]'()) rv2 (ς _)
 obtain⟨d,hd,Rd⟩:=rs1.get (i:=j) (v:=vs[j]'()) (ς _)
 obtain⟨d2,hd2,Rd2⟩:=rs2.get (i:=j) (v:=ws[j]'()) (ς _)
 have e1:its.toArray[j]=u:=by
  rw[ς hj]at hu1
  simpa using ϕ hu1
 have e2:its2.toArray[j]=u2:=by
  rw[ς hj2]at hu2
  simpa using ϕ hu2
 rw[e1,e2,hd,hd2]
 have e3:gb (some d=some d2)=gb (d=d2):=dC (by rw[dP];exact⟨ϕ,λz=>by rw[z]⟩)
 rw[e3]
 exact h d (ϊ hd) d2 (ϊ hd2) _ _ _ _ Rd Rd2 ru ru2
theorem wX(I:Inv X pins σ H s){n:Nat}{d:Dv}(h:Pl n d):∀{e:Dv},Pl n e->∀{A:Ρ}{v w:V}{a b:δ},A.units+n<cLine->Rep H d v->Rep H e w->aH v a->aH w b->ϔ A s a b (gb (d=e)):=by
 induction h with
 | @int n i=>
  intro e he A v w a b hu r1 r2 q1 q2
  simp only[Rep]at r1
  subst r1
  obtain⟨t,rfl⟩:=(show ∃t,a=s_ i t from q1)
  cases he with
  | @int _ j=>simp only[Rep]at r2;subst r2;obtain⟨u,rfl⟩:=(show ∃t,b=s_ j t from q2);rw[<-dC (b:=(i==j)) (by rw[beq_iff_eq];exact⟨λz=>by rw[z],λz=>Dv.int.inj z⟩)];exact ϔ.int_int i t j u
  | @str _ x=>simp only[Rep]at r2;subst r2;obtain⟨u,rfl⟩:=(show ∃t,b=i7 x t from q2);rw[<-cr nofun];exact B4 i t x u
  |non=>simp only[Rep]at r2;subst r2;cases q2;rw[<-cr nofun];exact ϔ.int_none i t
  | @tup n es _=>simp only[Rep]at r2;obtain⟨l,ws,rfl,hl,_⟩:=r2;cases q2;obtain⟨its,_,p,_⟩:=I.tuple (SqT.of hl);rw[<-cr nofun];exact ϔ.int_tuple i t p ()
 | @str n x=>
  intro e he A v w a b hu r1 r2 q1 q2
  simp only[Rep]at r1
  subst r1
  obtain⟨t,rfl⟩:=(show ∃t,a=i7 x t from q1)
  cases he with
  | @int _ j=>simp only[Rep]at r2;subst r2;obtain⟨u,rfl⟩:=(show ∃t,b=s_ j t from q2);rw[<-cr nofun];exact B5 x t j u
  | @str _ y=>simp only[Rep]at r2;subst r2;obtain⟨u,rfl⟩:=(show ∃t,b=i7 y t from q2);rw[<-dC (b:=(x==y)) (by rw[beq_iff_eq];exact⟨λz=>by rw[z],λz=>Dv.str.inj z⟩)];exact ϔ.str_str x t y u
  |non=>simp only[Rep]at r2;subst r2;cases q2;rw[<-cr nofun];exact ϔ.str_none x t
  | @tup n es _=>simp only[Rep]at r2;obtain⟨l,ws,rfl,hl,_⟩:=r2;cases q2;obtain⟨its,_,p,_⟩:=I.tuple (SqT.of hl);rw[<-cr nofun];exact ϔ.str_tuple x t p ()
 | @non n=>
  intro e he A v w a b hu r1 r2 q1 q2
  simp only[Rep]at r1
  subst r1
  cases q1
  cases he with
  | @int _ j=>simp only[Rep]at r2;subst r2;obtain⟨u,rfl⟩:=(show ∃t,b=s_ j t from q2);rw[<-cr nofun];exact ϔ.none_int j u
  | @str _ y=>simp only[Rep]at r2;subst r2;obtain⟨u,rfl⟩:=(show ∃t,b=i7 y t from q2);rw[<-cr nofun];exact ϔ.none_str y u
  |non=>simp only[Rep]at r2;subst r2;cases q2;rw[<-dC (b:=true) ⟨λ_=>rfl,λ_=>rfl⟩];exact CM _
  | @tup n es _=>simp only[Rep]at r2;obtain⟨l,ws,rfl,hl,_⟩:=r2;cases q2;obtain⟨its,_,p,_⟩:=I.tuple (SqT.of hl);rw[<-cr nofun];exact ϔ.none_tuple p ()
 | @tup n ds hds ih=>
  intro e he A v w a b hu r1 r2 q1 q2
  have r1':=r1
  simp only[Rep]at r1
  obtain⟨l,vs,rfl,h1,rs1⟩:=r1
  cases q1
  obtain⟨its,rv1,p1,_⟩:=I.tuple (SqT.of h1)
  cases he with
  | @int _ j=>simp only[Rep]at r2;subst r2;obtain⟨u,rfl⟩:=(show ∃t,b=s_ j t from q2);rw[<-cr nofun];exact ϔ.tuple_int j u p1 ()
  | @str _ y=>simp only[Rep]at r2;subst r2;obtain⟨u,rfl⟩:=(show ∃t,b=i7 y t from q2);rw[<-cr nofun];exact ϔ.tuple_str y u p1 ()
  |non=>simp only[Rep]at r2;subst r2;cases q2;rw[<-cr nofun];exact ϔ.tuple_none p1 ()
  | @tup _ es hes=>
   have r2':=r2
   simp only[Rep]at r2
   obtain⟨b',ws,rfl,h2,rs2⟩:=r2
   cases q2
   obtain⟨its2,rv2,p2,_⟩:=I.tuple (SqT.of h2)
   have hu':A.in1.units+n<cLine:=by show A.units+1+n<cLine;omega
   obtain⟨z1,z2,q⟩:=iK I (A:=A.in1) (n:=n) (λd hd e he v w a b r1 r2 q1 q2=>ih d hd (hes e he) hu' r1 r2 q1 q2) rs1 rs2 rv1 rv2
   by_cases hlb:l=b'
   ·subst hlb
    rw[<-dC (b:=true) ⟨λ_=>Rep.inj _ _ _ r1' r2',λ_=>rfl⟩]
    exact CM _
   ·have r:=SeqAt.RcAt.tuples (e:=λj=>gb (ds[j]?=es[j]?)) p1 p2 () q
    rw[z1,z2,jr]at r
    exact ϔ.of_refs hlb r
end
section
variable{X:Cx}
theorem yU(hu:X.A.units+150<cLine):OpR X (compareOp .NotEq) (λx y H Q=>∃(n:Nat) (ds es:List Dv),Pl n (.tup ds)/\Pl n (.tup es)/\n<=140/\Rep H (.tup ds) x/\Rep H (.tup es) y/\∀b:Bool,(b=true↔ds≠es)->Q (.bl b) H):=by
 intro pins s σ H x y v u Q I rx ry h
 obtain⟨n,ds,es,hd,he,hn,r1,r2,q⟩:=h
 simp only[Rep]at r1 r2
 obtain⟨l,vs,rfl,h1,rs1⟩:=r1
 obtain⟨b',ws,rfl,h2,rs2⟩:=r2
 cases rx
 cases ry
 obtain⟨its,rv1,p1,_⟩:=I.tuple (SqT.of h1)
 obtain⟨its2,rv2,p2,_⟩:=I.tuple (SqT.of h2)
 cases hd with
 | @tup n ds hds=>
 cases he with
 | @tup _ es hes=>
 have hu':X.A.in1.units+n<cLine:=by show X.A.units+1+n<cLine;omega
 obtain⟨z1,z2,w⟩:=iK I (A:=X.A.in1) (n:=n) (λd hd e he v w a b r1 r2 q1 q2=>wX I (hds d hd) (hes e he) hu' r1 r2 q1 q2) rs1 rs2 rv1 rv2
 refine SeqAt.RcNeAt.tuples (e:=λj=>gb (ds[j]?=es[j]?)) p1 p2 () w X.prog X.w X.xe _ ?_
 rw[z1,z2,jr]
 refine⟨.bl _,H,I,rfl,q _ ?_⟩
 rw[Bool.not_eq_true',<-Bool.not_eq_true,dP]
 exact⟨λz y=>z (by rw[y]),λz y=>z (Dv.tup.inj y)⟩
end
theorem jG{A:Ρ}{k:Nat}(hr:bK k A):A.units+150<cLine:=by have:=hr.un;omega
section
variable{X:Cx}{k:Nat}{f:Addr}{fd:Η}{ps:List Str}{sp:Sp}{x:Str}{p pos:Pos}{e:Expr}{es:List Expr}{t:TA}
def yv(f:Addr)(i:Nat)(sp:Sp)(t:TA):TE:=λσ H Q=>σ[i]?=some (some (.ref f))/\t σ H λvs H1=>sp (vs++[]) H1 Q E0
theorem pe_callV(i:Nat)(F:aw X.prog X.w X.K X.mg X.base CX0 k f fd ps sp)(hr:bK k X.A)(hk:Ϟ X.K (.ref f)=true)(hb:bA X.K fd ps [])(ha:PA X (e::es) t)(hN:X.N[i]?=some x:=by rfl)
  (hv:Vis X.env.scope x:=by first|exact Ε rfl|exact Bw (Ε rfl)|exact Bw (Bw rfl)) (hd:(x==("__debug__" : Str))=false:=by decide) (hcd:(x==("__classdict__" : Str))=false:=by decide)
  (he:starEach (e::es) X.env=(false,eval e X.env)::starEach es X.env:=by rfl) (hpl:(backTo pos (starEach es X.env)).any (·.1)=false:=by rfl):PE X (.Call (.Name x p) (e::es) [] pos) (yv f i sp t):=by
 intro pins s σ H Q I h
 obtain⟨h1,h2⟩:=h
 refine l9 (thn (vH (X:=X) (pos:=p) hN hv hd hcd pins s σ H (λv H'=>v=.ref f/\H'=H) I ⟨_,h1,rfl,rfl⟩) λu s1 ⟨v,H1,I1,r1,e1,e2⟩=>?_)
 subst e1 e2
 cases r1
 exact Bt (h₀:=X.base) I1.ok.mod.kin hk (thn (ha pos pins s1 σ _ _ I1 h2) λus s2 ⟨vs,H2,I2,r,q⟩=>⟨I2.kIn,jA F hr hb .nil dH I2 r q⟩) he hpl
end
section
variable{prog:υ}{w:Μ}{A:Ρ}{E:δ->θ->Prop}{s:θ}{r l S:Addr}{items:Array δ}
end
section
variable{X:Cx}{e:Expr}{te:TE}{p p1 pos pos1:Pos}
end
theorem aT{h:Heap}{a b:Addr}{o u:Obj}(h1:h.get? a=some o)(h2:h.get? b=some u)(n:o.cls≠u.cls):a≠b:=λz=>by subst z;rw[h1]at h2;cases h2;exact n rfl
section
variable{X:Cx}
end
section
variable{X:Cx}{pins:List (Addr×Obj)}{s:θ}{σ:St}{H:Hp}
end
section
variable{X:Cx}
end
section
end
section
variable{prog:υ}{w:Μ}{A:Ρ}{E:δ->θ->Prop}{s:θ}
end
section
variable{X:Cx}{tg e:Expr}{ta:TA}{p pos:Pos}
end
section
variable{X:Cx}
end
open PySem PySem.Spec PyProof.Rows
theorem pe_def0{X:Cx}{k:Nat}{x:Str}{ps:List Str}{sp:Sp}{p pos:Pos}(d:Def X.prog X.w X.K X.mg X.base k x ps sp)(hr:bK k X.A)(hg:Gl X x)(hdb:(x==("__debug__" : Str))=false:=by decide):PE X (.Call (.Name x p) [] [] pos) (kq sp [] E0 nt):=by
 obtain⟨f,fd,F,b,kp,m⟩:=d.ex
 exact vL F hr hg m kp b .nil dH hdb
section
variable{σ:St}{H:Hp}{d e:Dv}{ds es:List Dv}{ta tb:TE}{t:TA}{l:Addr}
variable{i:Nat}{u:TS}{D:bZ}
end
open PySem PySem.Spec PyProof.Rows PySem.W
abbrev TF:=St->Hp->Str->(Str->Hp->Prop)->Prop
section
variable{X:Cx}
def PF(X:Cx)(es:List Expr)(t:TF):Prop:=∀(pins:List (Addr×Obj))(s:θ)(σ:St)(H:Hp)(acc:Str)(Q:Str->Hp->Prop),Inv X pins σ H s->t σ H acc Q->Joins (model X.prog X.w) X.A X.xe (evalEach es X.env) acc (λout s'=>∃H',Inv X pins σ H' s'/\Q out H') s
def zQ:TF:=λ_ H acc Q=>Q acc H
def yB(te:TE)(t:TF):TF:=λσ H acc Q=>te σ H λx H1=>∃y,x=.str y/\(acc++y).length<=sizeLine/\t σ H1 (acc++y) Q
def tFv(te:TE):TE:=λσ H Q=>te σ H λx H1=>∃y,x=.str y/\y.length<=sizeLine/\Q (.str y) H1
def tFs(t:TF):TE:=λσ H Q=>t σ H Cz λout H'=>out.length<=sizeLine/\Q (.str out) H'
theorem pf_nil:PF X [] zQ:=λpins s σ H acc Q I h=>⟨H,I,h⟩
theorem pf_cons{e:Expr}{es:List Expr}{te:TE}{t:TF}(he:PE X e te)(hr:PF X es t):PF X (e::es) (yB te t):=λpins s σ H acc Q I h=>
 thn (he pins s σ H _ I h) λv s1 ⟨x,H1,I1,r1,y,ex,hy,q⟩=>by
  subst ex
  obtain⟨k,rfl⟩:=r1
  exact⟨y,k,rfl,hy,hr pins s1 σ H1 (acc++y) Q I1 q⟩
theorem pe_fv{e:Expr}{te:TE}{pos:Pos}(he:PE X e te):PE X (.FormattedValue e (-1) none pos) (tFv te):=λpins s σ H Q I h=>
 Ce (thn (he pins s σ H _ I h) λv s1 ⟨x,H1,I1,r1,y,ex,hy,q⟩=>by
  subst ex
  obtain⟨k,rfl⟩:=r1
  exact wpAny_formatField_str ⟨.str y,H1,I1,⟨k,rfl⟩,q⟩ ⟨.str y,H1,I1.tok _,⟨_,rfl⟩,q⟩ hy)
theorem kD{M:Model}{A:Ρ}{E:δ->θ->Prop}:∀{es:List (Sem δ)}{acc:Str}{Q Q':Str->θ->Prop}{s:θ},(∀o s',Q o s'->Q' o s')->Joins M A E es acc Q s->Joins M A E es acc Q' s
 |[],_,_,_,_,h,j=>h _ _ j
 |x::es,acc,Q,Q',s,h,j=>j4 j (λv s1 ⟨y,k,e,hy,j'⟩=>⟨y,k,e,hy,kD h j'⟩) λ_ _ e=>e
theorem pe_fstr{a b:Expr}{es:List Expr}{t:TF}{pos:Pos}(h:PF X (a::b::es) t):PE X (.JoinedStr (a::b::es) pos) (tFs t):=λpins s σ H Q I q=>
 wpAny_JoinedStr (kD (λo s' ⟨H',I',ho,q'⟩=>⟨ho,.str o,H',I'.tok _,⟨_,rfl⟩,q'⟩) (h pins s σ H _ _ I q))
end
section
variable{prog:υ}{w:Μ}{A:Ρ}{E:δ->θ->Prop}{s:θ}
theorem qJ{t sl:Addr}{items:Array δ}{lo st:Int}{n:Nat}{Q:δ->θ->Prop}(ht:CY s.heap t items)(hTs:s.TypeIs (.ref sl) "slice")
  (hap:∀{A':Ρ}{E':δ->θ->Prop}{Q':Int×Int×Nat->θ->Prop},Q' (lo,st,n) s->wpAny (model prog w) A' (y7 (.ref sl) (pure (items.size:Int))) Q' E' s)
  (hw:(lo==0&&st==1&&n==items.size)=true->Q (.ref t) s)
  (hn:Q (.ref s.heap.objs.size) {s with heap:=s.heap.push {cls:=.type "tuple",data:=.seq ((ϗ n).filterMap λ(k:Nat)=>items[(lo+(k:Int)*st).toNat]?).toArray} })
  (hsz:((ϗ n).filterMap λ(k:Nat)=>items[(lo+(k:Int)*st).toNat]?).toArray.size<=sizeLine):wpAny (model prog w) A (getItem (.ref t) (.ref sl)) Q E s:=by
 unfold getItem;try with_reducible refine w9 ?_
 (first|refine ε (ρ ?_)|skip);refine ε (wpAny_sequenceKey ht.typeIs () ?_)
 refine ε (Ϯ (name:=γ "__getitem__") ht.typeIs Ϩ (Ϲ Ϩ ht.typeIs entry_tuple_getitem ?_ (args_tuple_getitem _ _)))
 show wpAny _ _ (B_ (.ref t)>>=_) _ _ s;refine ε (tupleItemsOf_ ht ?_)
 refine ε (wpAny_typeOf hTs ?_);rw[Q5 ()]
 refine ε (hap ?_)
 show wpAny _ _ (if (lo==0&&st==1&&n==items.size)=true then _ else _) _ _ s
 by_cases c:(lo==0&&st==1&&n==items.size)=true
 ·rw[Q5 c]
  refine ε (m:=Cf (.ref t)) ?_
  unfold Cf
  refine ε (wpAny_typeOf ht.typeIs (ρ ?_))
  show wpAny _ _ (if (B6 "tuple" == B6 "tuple")=true then _ else _) _ _ s
  rw[Q5 ()]
  exact ε (Cd (ε (ρ (ρ ⟨_,rfl,ρ (hw c)⟩))))
 ·rw[Q6 c]
  first
   |exact ε (m:=Ϧ _) (ϱ (ρ ⟨_,rfl,ρ hn⟩) hsz)
   |exact ε (m:=Ϧ _) (ϱ (ε (ρ (ρ ⟨_,rfl,ρ hn⟩))) hsz)
   |exact ε (ε (m:=Ϧ _) (ϱ (ρ (ρ ⟨_,rfl,ρ hn⟩)) hsz))
   |exact ε (ε (m:=Ϧ _) (ϱ (ρ ⟨_,rfl,ρ hn⟩) hsz))
end
section
variable{X:Cx}
def zL(K:ζ):V->Option Int->Option Int->Hp->VK->Prop:=λx lo hi H Q=>∃a xs,x=.ref a/\SqT K H a xs/\(bJ xs lo hi=xs->Q (.ref a) H)/\∀p,H p=none->Q (.ref p) (upd H p (.tup (bJ xs lo hi)))
theorem eO:SlR X (zL X.K):=by
 intro pins s σ H x v vl vu lo hi sl Q I rx hs pl pu h
 obtain⟨a,xs,rfl,hx,hw,q⟩:=h
 cases rx
 by_cases c:HT.sIx xs.length 0 lo=0/\HT.sIx xs.length xs.length hi=xs.length
 ·obtain⟨its,r,ht,hz⟩:=I.tuple hx
  have hlen:its.toArray.size=xs.length:=by rw[Α];exact r.length.symm
  have ec:bJ xs lo hi=xs:=by unfold bJ;rw[c.1,c.2];simp
  obtain⟨os,hos,hcs,hds⟩:=id hs
  refine⟨"tuple",_,Ϩ.lookup,ht.typeIs,qJ (lo:=((HT.sIx its.toArray.size 0 lo:Nat):Int)) (st:=1) (n:=HT.sIx its.toArray.size its.toArray.size hi-HT.sIx its.toArray.size 0 lo) ht ⟨os,hos,hcs⟩ (λq'=>HT.sliceApplied_gen hs pl pu q') (λ_=>⟨.ref a,H,I,rfl,hw ec⟩) ?_ ?_⟩
  ·rw[HT.pick_gen,hlen]
   refine⟨.ref s.heap.objs.size,_,I.laid (t':=s.toks) (o:=.tup (bJ xs lo hi)) (λb ob q=>ο _ q) (π _) ?_,rfl,q _ (I.hok.fresh (π _))⟩
   exact⟨ϲ (eB xs lo hi) hz,_,(r.drop (HT.sIx xs.length 0 lo)).take (HT.sIx xs.length xs.length hi-HT.sIx xs.length 0 lo),CY.new _ _,NoD.new _ rfl⟩
  ·rw[HT.pick_gen,Α,Χ,ϭ]
   have:its.toArray.toList.length=xs.length:=by simpa using hlen
   omega
 ·exact yo pins s σ H (.ref a) (.ref a) vl vu lo hi sl Q I rfl hs pl pu ⟨a,xs,rfl,hx,c,q⟩
end
section
variable{prog:υ}{w:Μ}{A:Ρ}{E:δ->θ->Prop}{s:θ}
end
section
variable{X:Cx}
end
def look(kvs:List (Str×Addr))(k:Str):Option Addr:=(kvs.find? λp=>decide (p.1=k)).map (·.2)
structure FD(P:υ)(w:Μ)(K:ζ)(a:Addr)(kvs:List (Str×Addr)):Prop where
 nd:(kvs.map (·.1)).Nodup
 lo:(a==sysModules)=false
 ex:∃o es ep,K.lookup a=some o/\o.ExactDict/\o.data=.dict es ep/\KeysOf (aP P w) es/\Pairs (aP P w) es.toList (kvs.map λp=>((ϟ p.1:Key),Τ p.2))
theorem jC(kvs:List (Str×Addr))(k:Str):valueAt (kvs.map λp=>((ϟ p.1:Key),Τ p.2)) (ϟ k)=(look kvs k).map Τ:=by
 unfold valueAt look
 induction kvs with
 |nil=>rfl
 |cons p kvs ih=>
  rw[Ο,g_,g_]
  by_cases h:p.1=k
  ·rw[Q9 h,show decide ((ϟ p.1:Key)=ϟ k)=true from Q9 (by rw[h])]
   rfl
  ·rw[Q8 h,show decide ((ϟ p.1:Key)=ϟ k)=false from Q8 (λz=>h (by injection z))]
   exact ih
section
variable{X:Cx}{pins:List (Addr×Obj)}{s:θ}{σ:St}{H:Hp}{a:Addr}{kvs:List (Str×Addr)}
theorem FD.of(f:FD X.prog X.w X.K a kvs)(I:Inv X pins σ H s):s.heap.DictOf (aP X.prog X.w) a (kvs.map λp=>((ϟ p.1:Key),Τ p.2)):=by
 obtain⟨o,es,ep,hk,h1,h2,h3,h4⟩:=f.ex
 refine⟨o,es,ep,I.kIn a o hk,h1,h2,h3,h4,?_⟩
 have e:(kvs.map λp=>((ϟ p.1:Key),Τ p.2)).map (·.1)=(kvs.map (·.1)).map ϟ:=by rw[Ξ,Ξ];rfl
 rw[e]
 exact List.Pairwise.map ϟ (λa b h z=>h (by injection z)) f.nd
def Ao(a:Addr)(kvs:List (Str×Addr))(neg:Bool):R2:=λx y H Q=>∃k,x=.str k/\y=.ref a/\Q (.bl (xor neg (look kvs k).isSome)) H
theorem yM(f:FD X.prog X.w X.K a kvs):OpR X (compareOp .In) (Ao a kvs false):=by
 intro pins s σ H x y v u Q I rx ry h
 obtain⟨k,rfl,rfl,q⟩:=h
 cases ry
 refine wpAny_in_of (oo (k:=ϟ k) rx) f.lo (f.of I).mapOf ?_
 rw[jC,BB]
 exact⟨.bl (look kvs k).isSome,H,I.tok _,rfl,by simpa using q⟩
theorem kr(f:FD X.prog X.w X.K a kvs):OpR X (compareOp .NotIn) (Ao a kvs true):=by
 intro pins s σ H x y v u Q I rx ry h
 obtain⟨k,rfl,rfl,q⟩:=h
 cases ry
 refine wpAny_notIn_of (oo (k:=ϟ k) rx) f.lo (f.of I).mapOf ?_
 rw[jC,BB]
 exact⟨.bl (!(look kvs k).isSome),H,I.tok _,rfl,by simpa using q⟩
def zy(a:Addr)(kvs:List (Str×Addr))(td ty:TE):TE:=λσ H Q=>td σ H λx H1=>ty σ H1 λy H2=>∃k b,x=.ref a/\y=.str k/\look kvs k=some b/\Q (.ref b) H2
theorem pe_getF{o i:Expr}{td ty:TE}{pos:Pos}(f:FD X.prog X.w X.K a kvs)(ho:PE X o td)(hi:PE X i ty)(hs:zA i):PE X (.Subscript o i pos) (zy a kvs td ty):=by
 intro pins s σ H Q I h
 refine we PySem.F.slot_dict_getitem.lookup hs (thn (ho pins s σ H _ I h) λu s1 ⟨x,H1,I1,rx,q1⟩=>thn (hi pins s1 σ H1 _ I1 q1) λiv s2 ⟨y,H2,I2,ry,k,b,ex,ey,hl,q2⟩=>?_)
 subst ex ey
 obtain rfl:u=Τ a:=rx
 refine⟨(f.of I2).typeIs,wpAny_getItem_of (v:=.ref b) (oo (k:=ϟ k) ry) (f.of I2).mapOf (by rw[jC,hl];rfl) ⟨.ref b,H2,I2.tok _,rfl,q2⟩⟩
end
abbrev mr(h:Heap)(l1:Addr):Heap:=h.push {cls:=.type "tuple_iterator",data:=.fields #[.ref l1,.int 0 0]}
abbrev lL(h:Heap)(l1 l2:Addr):Heap:=(mr h l1).push {cls:=.type "tuple_iterator",data:=.fields #[.ref l2,.int 0 0]}
abbrev lO(h:Heap)(l1 l2:Addr):Heap:=(lL h l1 l2).push {cls:=.type "tuple",data:=.seq #[.ref h.objs.size,.ref (mr h l1).objs.size]}
abbrev mE(h:Heap)(l1 l2:Addr):Heap:=(lO h l1 l2).push {cls:=.type "tuple",data:=.seq #[.none,.none]}
abbrev gu(h:Heap)(l1 l2:Addr):Heap:=(mE h l1 l2).push {cls:=.type "zip",data:=.fields #[.none,.bool false,.bool false,.ref (lL h l1 l2).objs.size,.ref (lO h l1 l2).objs.size]}
section
variable{prog:υ}{w:Μ}{A:Ρ}{E:δ->θ->Prop}{s:θ}
theorem qk{z TI TO i1 i2 l1 l2:Addr}{k1 k2:Nat}{xs ys:Array δ}{x y a b:δ}{Q:δ->θ->Prop}(D:y9 z TI TO i1 i2 l1 l2)(hz:m7 s.heap z TI TO .none)(hTI:ϧ s.heap TI (.ref i1) (.ref i2))(hTO:ϧ s.heap TO a b)
  (h1:s.heap.IsTupleIter i1 l1 k1) (h2:s.heap.IsTupleIter i2 l2 k2) (hl1:s.heap.IsTuple l1 xs) (hl2:s.heap.IsTuple l2 ys) (hx:xs[k1]?=some x) (hy:ys[k2]?=some y)
  (hQ:∀h',m7 h' z TI TO (rawInt s.heap.objs.size)->ϧ h' TO x y->h'.IsTupleIter i1 l1 (k1+1)->h'.IsTupleIter i2 l2 (k2+1)->ϧ h' s.heap.objs.size x y->(∀c o,c≠z->c≠TO->c≠i1->c≠i2->s.heap.get? c=some o->h'.get? c=some o)->Q (.ref s.heap.objs.size) {s with heap:=h'}):
  wpAny (model prog w) A (o8.«zip.__next__» ⟨[.ref z],[]⟩) (λfin s'=>∃v,fin=.done (.ret v)/\Q v s') E s:=by
 show wpAny _ _ (field (.ref z) 2>>=_) _ _ _;refine ε (Ϝ hz rfl (x:=.bool false) rfl ?_)
 show wpAny _ _ (field (.ref z) 3>>=_) _ _ _;refine ε (Ϝ hz rfl (x:=.ref TI) rfl ?_);refine ε (ϰ hTI rfl ?_)
 show wpAny _ _ (ώ (.ref z)>>=_) _ _ _;refine ε ?_;unfold ώ
 refine ε (Ϝ hz rfl (x:=.none) rfl (ρ ?_));simp only[if_true];refine ε (Cd ?_)
 refine ε (Ϝ hz rfl (x:=.ref TO) rfl ?_);refine ε (ϣ hz () λg1 z1 c1=>?_)
 replace z1:m7 g1 z TI TO .ellipsis:=z1
 refine ε ?_;simp only[BN,BX,A9,Cg];refine ε (ε (q_ ?_))
 show wpAny _ _ (ύ (.ref i1)>>=_) _ _ _;refine ε (bi (h1.extBut c1.extBut D.i1z) (hl1.extBut c1.extBut D.l1z) hx λg2 it2 c2=>ρ ?_)
 have t2:ϧ g2 TO a b:=c2.extBut _ _ D.TOi1 (c1.extBut _ _ D.TOz hTO)
 refine ε (ϰ t2 rfl ?_);refine ε (j0 t2 λg3 t3 c3=>?_)
 replace t3:ϧ g3 TO x b:=t3
 refine ε (BQ (ρ ?_));refine ε (ε (q_ ?_))
 show wpAny _ _ (ύ (.ref i2)>>=_) _ _ _;refine ε (bi (((h2.extBut c1.extBut D.i2z).extBut c2.extBut D.i12.symm).extBut c3.extBut D.TOi2.symm) (((hl2.extBut c1.extBut D.l2z).extBut c2.extBut D.l2i1).extBut c3.extBut D.l2TO) hy λg4 it4 c4=>ρ ?_)
 have t4:ϧ g4 TO x b:=c4.extBut _ _ D.TOi2 t3
 refine ε (ϰ t4 rfl ?_);refine ε (j0 t4 λg5 t5 c5=>?_)
 replace t5:ϧ g5 TO x y:=t5
 refine ε (BQ (ρ (ρ ?_)));refine ε (ϰ t5 rfl ?_);refine ε (CS ?_)
 have sz:g5.objs.size=s.heap.objs.size:=by rw[c5.1,c4.1,c3.1,c2.1,c1.1]
 have z5:m7 g5 z TI TO .ellipsis:=c5.extBut _ _ D.TOz.symm (c4.extBut _ _ D.i2z.symm (c3.extBut _ _ D.TOz.symm (c2.extBut _ _ D.i1z.symm z1)))
 have k5:∀c o,c≠z->c≠TO->c≠i1->c≠i2->s.heap.get? c=some o->g5.get? c=some o:=λc o d1 d2 d3 d4 e=>c5.extBut _ _ d2 (c4.extBut _ _ d4 (c3.extBut _ _ d2 (c2.extBut _ _ d3 (c1.extBut _ _ d1 e))))
 have j1:g5.IsTupleIter i1 l1 (k1+1):=((it2.extBut c3.extBut D.TOi1.symm).extBut c4.extBut D.i12).extBut c5.extBut D.TOi1.symm
 have j2:g5.IsTupleIter i2 l2 (k2+1):=it4.extBut c5.extBut D.TOi2.symm
 have zlt:z<g5.objs.size:=Β z5
 show wpAny _ _ (a_ (.ref z) (.ref g5.objs.size)>>=_) _ _ _;refine ε ?_;unfold a_
 have z6:m7 (g5.push {cls:=.type "tuple",data:=.seq #[x,y]}) z TI TO .ellipsis:=ο _ z5
 refine ε (ϣ z6 () λg7 z7 c7=>?_)
 replace z7:m7 g7 z TI TO (rawInt g5.objs.size):=z7
 refine ϣ z7 () λg8 z8 c8=>?_
 replace z8:m7 g8 z TI TO (rawInt g5.objs.size):=z8
 have up:∀c o,c≠z->g5.get? c=some o->g8.get? c=some o:=λc o d1 e=>c8.extBut _ _ d1 (c7.extBut _ _ d1 (ο _ e))
 have p8:ϧ g8 g5.objs.size x y:=c8.extBut _ _ (u8 zlt) (c7.extBut _ _ (u8 zlt) (Δ _ rfl))
 rw[sz]at z8 p8
 refine ρ ⟨_,rfl,?_⟩
 show Q (.ref g5.objs.size) _;rw[sz]
 exact hQ g8 z8 (up _ _ D.TOz t5) (j1.at λo e=>up _ o D.i1z e) (j2.at λo e=>up _ o D.i2z e) p8 λc o d1 d2 d3 d4 e=>up c o d1 (k5 c o d1 d2 d3 d4 e)
theorem tH{z TI TO i1 i2 l1 l2:Addr}{k1 k2:Nat}{xs ys:Array δ}{a b:δ}{Q:Fin->θ->Prop}(hh:A.handled=none)(D:y9 z TI TO i1 i2 l1 l2)(hz:m7 s.heap z TI TO .none)(hTI:ϧ s.heap TI (.ref i1) (.ref i2))(hTO:ϧ s.heap TO a b)
  (h1:s.heap.IsTupleIter i1 l1 k1) (h2:s.heap.IsTupleIter i2 l2 k2) (hl1:s.heap.IsTuple l1 xs) (hl2:s.heap.IsTuple l2 ys) (hend:xs[k1]?=none\/ys[k2]?=none)
  (hE:∀h' e,(∀c o,c≠z->c≠TO->c≠i1->c≠i2->s.heap.get? c=some o->h'.get? c=some o)->(∃o,h'.get? e=some o/\o.cls=.type "StopIteration")->E (.ref e) {s with heap:=h'}):wpAny (model prog w) A (o8.«zip.__next__» ⟨[.ref z],[]⟩) Q E s:=by
 show wpAny _ _ (field (.ref z) 2>>=_) _ _ _;refine ε (Ϝ hz rfl (x:=.bool false) rfl ?_)
 show wpAny _ _ (field (.ref z) 3>>=_) _ _ _;refine ε (Ϝ hz rfl (x:=.ref TI) rfl ?_);refine ε (ϰ hTI rfl ?_)
 show wpAny _ _ (ώ (.ref z)>>=_) _ _ _;refine ε ?_;unfold ώ
 refine ε (Ϝ hz rfl (x:=.none) rfl (ρ ?_));simp only[if_true];refine ε (Cd ?_)
 refine ε (Ϝ hz rfl (x:=.ref TO) rfl ?_);refine ε (ϣ hz () λg1 z1 c1=>?_)
 replace z1:m7 g1 z TI TO .ellipsis:=z1
 refine ε ?_;simp only[BN,BX,A9,Cg];refine ε (ε (q_ ?_))
 show wpAny _ _ (ύ (.ref i1)>>=_) _ _ _
 cases hx:xs[k1]? with
 |none=>
  refine ε (cK hh (h1.extBut c1.extBut D.i1z) (hl1.extBut c1.extBut D.l1z) hx λg2 e c2 ⟨oe,hoe,hce⟩=>?_)
  have z2:m7 g2 z TI TO .ellipsis:=c2 _ _ D.i1z.symm z1
  have ez:e≠z:=λq=>by subst q;rw[z2]at hoe;cases hoe;simp at hce
  exact ϣ z2 () λg3 _ c3=>hE g3 e (λc o d1 _ d3 _ q=>c3.extBut _ _ d1 (c2 _ _ d3 (c1.extBut _ _ d1 q))) ⟨oe,c3.extBut _ _ ez hoe,hce⟩
 |some x=>
  have hy:ys[k2]?=none:=hend.resolve_left (by rw[hx];exact nofun)
  refine ε (bi (h1.extBut c1.extBut D.i1z) (hl1.extBut c1.extBut D.l1z) hx λg2 it2 c2=>ρ ?_)
  have t2:ϧ g2 TO a b:=c2.extBut _ _ D.TOi1 (c1.extBut _ _ D.TOz hTO)
  refine ε (ϰ t2 rfl ?_);refine ε (j0 t2 λg3 t3 c3=>?_)
  refine ε (BQ (ρ ?_));refine ε (ε (q_ ?_))
  show wpAny _ _ (ύ (.ref i2)>>=_) _ _ _;refine ε (cK hh (((h2.extBut c1.extBut D.i2z).extBut c2.extBut D.i12.symm).extBut c3.extBut D.TOi2.symm) (((hl2.extBut c1.extBut D.l2z).extBut c2.extBut D.l2i1).extBut c3.extBut D.l2TO) hy λg4 e c4 ⟨oe,hoe,hce⟩=>?_)
  have z4:m7 g4 z TI TO .ellipsis:=c4 _ _ D.i2z.symm (c3.extBut _ _ D.TOz.symm (c2.extBut _ _ D.i1z.symm z1))
  have ez:e≠z:=λq=>by subst q;rw[z4]at hoe;cases hoe;simp at hce
  exact ϣ z4 () λg5 _ c5=>hE g5 e (λc o d1 d2 d3 d4 q=>c5.extBut _ _ d1 (c4 _ _ d4 (c3.extBut _ _ d2 (c2.extBut _ _ d3 (c1.extBut _ _ d1 q))))) ⟨oe,c5.extBut _ _ ez hoe,hce⟩
theorem nv{z TI TO i1 i2 l1 l2:Addr}{k1 k2:Nat}{xs ys:Array δ}{x y a b:δ}{Q:Option δ->θ->Prop}(D:y9 z TI TO i1 i2 l1 l2)(hz:m7 s.heap z TI TO .none)(hTI:ϧ s.heap TI (.ref i1) (.ref i2))(hTO:ϧ s.heap TO a b)
  (h1:s.heap.IsTupleIter i1 l1 k1) (h2:s.heap.IsTupleIter i2 l2 k2) (hl1:s.heap.IsTuple l1 xs) (hl2:s.heap.IsTuple l2 ys) (hx:xs[k1]?=some x) (hy:ys[k2]?=some y)
  (hQ:∀h',m7 h' z TI TO (rawInt s.heap.objs.size)->ϧ h' TO x y->h'.IsTupleIter i1 l1 (k1+1)->h'.IsTupleIter i2 l2 (k2+1)->ϧ h' s.heap.objs.size x y->(∀c o,c≠z->c≠TO->c≠i1->c≠i2->s.heap.get? c=some o->h'.get? c=some o)->Q (some (.ref s.heap.objs.size)) {s with heap:=h'}):
  wpAny (model prog w) A (pyNext (.ref z)) Q E s:=by
 have hT:s.TypeIs (.ref z) "zip":=⟨_,hz,rfl⟩;unfold pyNext
 exact ε (Cy (Ϯ (name:=γ "__next__") hT j7 (Ϲ j7 hT BO (qk D hz hTI hTO h1 h2 hl1 hl2 hx hy λh' a1 a2 a3 a4 a5 a6=>ρ (hQ h' a1 a2 a3 a4 a5 a6)) (BE _))))
theorem qx{z TI TO i1 i2 l1 l2:Addr}{k1 k2:Nat}{xs ys:Array δ}{a b:δ}{Q:Option δ->θ->Prop}(hh:A.handled=none)(D:y9 z TI TO i1 i2 l1 l2)(hz:m7 s.heap z TI TO .none)(hTI:ϧ s.heap TI (.ref i1) (.ref i2))(hTO:ϧ s.heap TO a b)
  (h1:s.heap.IsTupleIter i1 l1 k1) (h2:s.heap.IsTupleIter i2 l2 k2) (hl1:s.heap.IsTuple l1 xs) (hl2:s.heap.IsTuple l2 ys) (hend:xs[k1]?=none\/ys[k2]?=none)
  (hQ:∀h',(∀c o,c≠z->c≠TO->c≠i1->c≠i2->s.heap.get? c=some o->h'.get? c=some o)->Q none {s with heap:=h'}):wpAny (model prog w) A (pyNext (.ref z)) Q E s:=by
 have hT:s.TypeIs (.ref z) "zip":=⟨_,hz,rfl⟩;unfold pyNext
 refine ε (Cy (Ϯ (name:=γ "__next__") hT j7 (Ϲ j7 hT BO (tH hh D hz hTI hTO h1 h2 hl1 hl2 hend λh' e hk ⟨o,ho,hc⟩=>?_) (BE _))))
 exact ε (wpAny_isInstance (T:="StopIteration") (b:=true) ⟨o,ho,hc⟩ isSubtype_stop (ρ (hQ _ hk)))
theorem nb(l1 l2:Addr)(xs ys:Array δ)(n n':Nat)(dct dct':Option Addr)(slt slt':Array (Option δ)):
  Meets (o8.«zip.__new__» ⟨[.type "zip",.ref l1,.ref l2],[]⟩) (λ_ R s=>s.heap.get? l1=some {cls:=.type "tuple",dict:=dct',data:=.seq xs n',slots:=slt'}/\s.heap.get? l2=some {cls:=.type "tuple",dict:=dct,data:=.seq ys n,slots:=slt} /\
   R (.ok (.ret (.ref (mE s.heap l1 l2).objs.size))) {s with heap:=gu s.heap l1 l2}):=
 .of_wp λprog w A R s h=>by
  obtain⟨hp,g,d,tk,os⟩:=s;obtain⟨hl1,hl2,h⟩:=h
  have hsub:=sub_zip
  have hL1:Heap.IsTuple (CT ⟨hp,g,d,tk,os⟩) l1 xs:=⟨_,hl1,rfl,n',rfl⟩
  have hl2':(hp.push {cls:=.type "tuple_iterator",data:=.fields #[.ref l1,.int 0 0]}).get? l2=some {cls:=.type "tuple",dict:=dct,data:=.seq ys n,slots:=slt}:=ο _ hl2
  have hL2:Heap.IsTuple (CT ⟨hp.push {cls:=.type "tuple_iterator",data:=.fields #[.ref l1,.int 0 0]},g,d,tk,os⟩) l2 ys:=⟨_,hl2',rfl,n,rfl⟩
  wp_walk using Bs hL1,Bs hL2,i_ hl1,i_ hl2'
  exact⟨_,rfl,h⟩
theorem pB{l1 l2:Addr}{xs ys:Array δ}{Q:δ->θ->Prop}(hl1:s.heap.IsTuple l1 xs)(hl2:s.heap.IsTuple l2 ys)
  (h:∀h',m7 h' (s.heap.objs.size+4) (s.heap.objs.size+2) (s.heap.objs.size+3) .none->ϧ h' (s.heap.objs.size+2) (.ref s.heap.objs.size) (.ref (s.heap.objs.size+1))->ϧ h' (s.heap.objs.size+3) .none .none->h'.IsTupleIter s.heap.objs.size l1 0->h'.IsTupleIter (s.heap.objs.size+1) l2 0 ->
   (∀c o,s.heap.get? c=some o->h'.get? c=some o)->Q (.ref (s.heap.objs.size+4)) {s with heap:=h'}):wpAny (model prog w) A (call (.type "zip") [.ref l1,.ref l2]) Q E s:=by
 obtain⟨⟨c,dct,dt,sl⟩,hl,hc,n,hd⟩:=hl2
 replace hc:c=.type "tuple":=hc
 replace hd:dt=.seq ys n:=hd
 subst hc hd
 obtain⟨⟨c',dct',dt',sl'⟩,hl',hc',n',hd'⟩:=hl1
 replace hc':c'=.type "tuple":=hc'
 replace hd':dt'=.seq xs n':=hd'
 subst hc' hd'
 refine callType_new F.called_zip () (F.typeCall_zip_2 _ _) (F.newCall_zip_2 _ _) (λobj=>F.args_object_init_3 obj _ _) F.entry_zip_new (nb l1 l2 xs ys n n' dct dct' sl sl') ⟨hl',hl,?_⟩
 have y1:(mr s.heap l1).objs.size=s.heap.objs.size+1:=d_ ..
 have y2:(lL s.heap l1 l2).objs.size=s.heap.objs.size+2:=by rw[d_,y1]
 have y3:(lO s.heap l1 l2).objs.size=s.heap.objs.size+3:=by rw[d_,y2]
 have y4:(mE s.heap l1 l2).objs.size=s.heap.objs.size+4:=by rw[d_,y3]
 have up:∀{h:Heap}{o:Obj}{c:Addr}{p:Obj},h.get? c=some p->(h.push o).get? c=some p:=λq=>ο _ q
 have v5:(gu s.heap l1 l2).get? (mE s.heap l1 l2).objs.size=some _:=Δ _ rfl
 have v4:(gu s.heap l1 l2).get? (lO s.heap l1 l2).objs.size=some _:=up (Δ _ rfl)
 have v3:(gu s.heap l1 l2).get? (lL s.heap l1 l2).objs.size=some _:=up (up (Δ _ rfl))
 have v2:(gu s.heap l1 l2).get? (mr s.heap l1).objs.size=some _:=up (up (up (Δ _ rfl)))
 have v1:(gu s.heap l1 l2).get? s.heap.objs.size=some _:=up (up (up (up (Δ _ rfl))))
 show _/\_
 rw[y2,y3,y4]at v5
 rw[y1,y2]at v3
 rw[y3]at v4
 rw[y1]at v2
 rw[y4]
 exact⟨⟨_,v5,rfl⟩,h _ v5 v3 v4 ⟨_,v1,rfl,rfl⟩ ⟨_,v2,rfl,rfl⟩ λc o q=>up (up (up (up (up q))))⟩
end
def jl(K:ζ)(a b:Addr):It:=
 ⟨λi H=>∃xs ys x y,SqT K H a xs/\SqT K H b ys/\xs[i]?=some x/\ys[i]?=some y,λi H z H'=>∃p x y,H p=none/\H'=upd H p (.tup [x,y])/\z=.ref p/\(∀xs,SqT K H a xs->xs[i]?=some x)/\∀ys,SqT K H b ys->ys[i]?=some y,
 λi H=>∃xs ys,SqT K H a xs/\SqT K H b ys/\(xs.length<=i\/ys.length<=i)⟩
theorem pR{P:υ}{w:Μ}{K:ζ}{elts:List Expr}{x1}{tp:Pos}(a b z TI TO i1 i2:Addr)(D1:TI≠z/\TO≠z/\i1≠z/\i2≠z/\TI≠TO/\TI≠i1/\TI≠i2/\TO≠i1/\TO≠i2/\i1≠i2)(D2:a≠TO/\b≠TO):
  jR P w K (.Tuple elts x1 tp) (jl K a b) [z,TI,TO,i1,i2] z (λi h=>m7 h z TI TO .none/\ϧ h TI (.ref i1) (.ref i2)/\(∃u v,ϧ h TO u v)/\h.IsTupleIter i1 a i/\h.IsTupleIter i2 b i) where
 mem:=by simp
 obj:=λi h st c hc=>by
  obtain⟨hz,hTI,⟨u,v,hTO⟩,⟨o1,e1,c1,d1⟩,⟨o2,e2,c2,d2⟩⟩:=st
  simp only[ν,a8,or_false]at hc
  rcases hc with rfl|rfl|rfl|rfl|rfl
  ·exact⟨_,hz,λv z=>by
    have z':Data.fields _=B3 v:=z
    cases z'⟩
  ·exact⟨_,hTI,λv z=>by
    have z':C4 _ _=B3 v:=z
    cases z'⟩
  ·exact⟨_,hTO,λv z=>by
    have z':C4 _ _=B3 v:=z
    cases z'⟩
  ·exact⟨o1,e1,λv z=>by rw[d1]at z;cases z⟩
  ·exact⟨o2,e2,λv z=>by rw[d2]at z;cases z⟩
 keep:=λi h h' st k=>by
  obtain⟨hz,hTI,⟨u,v,hTO⟩,h1,h2⟩:=st
  exact⟨k z () _ hz,k TI () _ hTI,⟨u,v,k TO () _ hTO⟩,h1.at λo e=>k i1 () o e,h2.at λo e=>k i2 () o e⟩
 item:=by
  intro X hP hw hK hc i pins s σ H E I hf st hg
  subst hP hw hK
  obtain⟨xs,ys,x,y,hq1,hq2,hx,hy⟩:=hg
  obtain⟨its1,rv1,p1,_⟩:=I.tuple hq1
  obtain⟨its2,rv2,p2,_⟩:=I.tuple hq2
  obtain⟨u1,hu1,ru1⟩:=rv1.get hx
  obtain⟨u2,hu2,ru2⟩:=rv2.get hy
  obtain⟨hz,hTI,⟨u,v,hTO⟩,h1,h2⟩:=st
  obtain⟨d1,d2,d3,d4,d5,d6,d7,d8,d9,d10⟩:=D1
  have L1:s.heap.IsTuple a its1.toArray:=p1
  have L2:s.heap.IsTuple b its2.toArray:=p2
  have D:y9 z TI TO i1 i2 a b:=by
   obtain⟨o1,e1,c1,_⟩:=id L1
   obtain⟨o2,e2,c2,_⟩:=id L2
   obtain⟨o3,e3,c3,_⟩:=id h1
   obtain⟨o4,e4,c4,_⟩:=id h2
   exact⟨d1,d2,d3,d4,d5,d6,d7,d8,d9,d10,aT e1 hz (by rw[c1];exactλz=>absurd (Φ z) ()),D2.1,aT e1 e3 (by rw[c1,c3];exactλz=>absurd (Φ z) ()),aT e1 e4 (by rw[c1,c4];exactλz=>absurd (Φ z) ()),
    aT e2 hz (by rw[c2];exactλz=>absurd (Φ z) ()),D2.2,aT e2 e3 (by rw[c2,c3];exactλz=>absurd (Φ z) ()),aT e2 e4 (by rw[c2,c4];exactλz=>absurd (Φ z) ())⟩
  refine nv D hz hTI hTO h1 h2 L1 L2 (x:=u1) (y:=u2) (by simpa using hu1) (by simpa using hu2) λh3 a1 a2 a3 a4 a5 hk=>?_
  refine⟨_,rfl,Ck a1 λh4 hz4 hs4=>?_⟩
  have hzl:z<s.heap.objs.size:=Β hz
  have hn:H s.heap.objs.size=none:=I.hok.fresh (π _)
  have keep:∀c o,c≠z->c≠TO->c≠i1->c≠i2->s.heap.get? c=some o->h4.get? c=some o:=λc o c1 c2 c3 c4 q=>(hs4.2 c c1).trans (hk c o c1 c2 c3 c4 q)
  have tup:h4.get? s.heap.objs.size=some {cls:=.type "tuple",data:=.seq #[u1,u2]}:=(hs4.2 _ (ngt hzl)).trans a5
  have fpn:∀c∈[z,TI,TO,i1,i2],H c=none:=λc hc=>(hf c hc).1
  have nit:∀c v,H c=some v->c≠z/\c≠TO/\c≠i1/\c≠i2:=λc v q=>⟨(λe=>by rw[e,fpn z ()]at q;cases q),(λe=>by rw[e,fpn TO ()]at q;cases q),(λe=>by rw[e,fpn i1 ()]at q;cases q),(λe=>by rw[e,fpn i2 ()]at q;cases q)⟩
  have kch:∀c o,c∉[z,TO,i1,i2]->s.heap.get? c=some o->h4.get? c=some o:=λc o hc q=>keep c o (λe=>hc (by simp[e])) (λe=>hc (by simp[e])) (λe=>hc (by simp[e])) (λe=>hc (by simp[e])) q
  have I2:Inv X pins σ (upd H s.heap.objs.size (.tup [x,y])) {s with heap:=h4,toks:=s.toks}:=by
   refine I.step (g':=s.gens) (d':=s.drawn) (ch:=[z,TO,i1,i2]) (λc hc=>?_) (λc o _ _ hc' q _=>kch c o hc' q) (λc o _ _ hc' q _=>⟨o.slots,kch c o hc' q⟩) (λc o _ q n=>by rw[aq (nlt (Β q))];exact n) (λc o hc' q=>⟨o,kch c o hc' q⟩)
    (λc xs q=>by rw[aq (aj q hn)];exact q) (λc o v q=>by rw[aq (aj q hn)];exact q) (λc ps q=>⟨#[],by rw[aq (aj q hn),q];simp⟩) (λm hm=>?_) (λc v q=>?_) I.bare
   ·have hc':c∈[z,TI,TO,i1,i2]:=by
     simp only[ν,a8,or_false]at hc⊢
     rcases hc with e|e|e|e<;>simp[e]
    obtain⟨f0,f1,f2,f3,f4,f5⟩:=hf c hc'
    exact⟨f3,f1,f4,f5⟩
   ·obtain⟨o,es,ep,ho,r⟩:=hm
    exact⟨o,es,ep,keep _ o (ϒ (hf z ()).2.1) (ϒ (hf TO ()).2.1) (ϒ (hf i1 ()).2.1) (ϒ (hf i2 ()).2.1) ho,r⟩
   ·by_cases hb:c=s.heap.objs.size
    ·subst hb
     rw[aa]at q
     cases q
     exact⟨(show 2<=sizeLine by rw[ι];decide),[u1,u2],.cons ru1 (.cons ru2 .nil),⟨_,tup,rfl,0,rfl⟩,_,tup,rfl⟩
    ·rw[aq hb]at q
     refine(I.hok c v q).stay (λc' w' hc' q'=>?_) (λc' q'=>by rw[aq (aj q' hn)];exact q') λc' xs q'=>by rw[aq (aj q' hn)];exact q'
     rcases hc' with e|e
     ·subst e;obtain⟨n1,n2,n3,n4⟩:=nit c' v q;exact keep c' w' n1 n2 n3 n4 q'
     ·obtain⟨n1,n2,n3,n4⟩:=nit c' _ e;exact keep c' w' n1 n2 n3 n4 q'
  refine⟨.ref s.heap.objs.size,_,I2,rfl,⟨_,x,y,hn,rfl,rfl,λxs' h'=>by rw[I.tuple_inj h' hq1];exact hx,λys' h'=>by rw[I.tuple_inj h' hq2];exact hy⟩,?_,λc hc=>?_⟩
  ·exact⟨hz4,hs4.extBut _ _ d1 (hk TI _ d1 d5 d6 d7 hTI),⟨_,_,hs4.extBut _ _ d2 a2⟩,a3.at λo e=>hs4.extBut _ _ d3 e,a4.at λo e=>hs4.extBut _ _ d4 e⟩
  ·have hb':c<s.heap.objs.size:=by
    simp only[ν,a8,or_false]at hc
    obtain⟨o3,e3,_⟩:=h1
    obtain⟨o4,e4,_⟩:=h2
    rcases hc with e|e|e|e|e
    ·rw[e];exact hzl
    ·rw[e];exact Β hTI
    ·rw[e];exact Β hTO
    ·rw[e];exact Β e3
    ·rw[e];exact Β e4
   rw[aq (nlt hb')]
   exact fpn c hc
 done:=by
  intro X hP hw hK hc i pins s σ H E I hf st hg
  subst hP hw hK
  obtain⟨xs,ys,hq1,hq2,hend⟩:=hg
  obtain⟨its1,rv1,p1,_⟩:=I.tuple hq1
  obtain⟨its2,rv2,p2,_⟩:=I.tuple hq2
  obtain⟨hz,hTI,⟨u,v,hTO⟩,h1,h2⟩:=st
  obtain⟨d1,d2,d3,d4,d5,d6,d7,d8,d9,d10⟩:=D1
  have L1:s.heap.IsTuple a its1.toArray:=p1
  have L2:s.heap.IsTuple b its2.toArray:=p2
  have D:y9 z TI TO i1 i2 a b:=by
   obtain⟨o1,e1,c1,_⟩:=id L1
   obtain⟨o2,e2,c2,_⟩:=id L2
   obtain⟨o3,e3,c3,_⟩:=id h1
   obtain⟨o4,e4,c4,_⟩:=id h2
   exact⟨d1,d2,d3,d4,d5,d6,d7,d8,d9,d10,aT e1 hz (by rw[c1];exactλz=>absurd (Φ z) ()),D2.1,aT e1 e3 (by rw[c1,c3];exactλz=>absurd (Φ z) ()),aT e1 e4 (by rw[c1,c4];exactλz=>absurd (Φ z) ()),
    aT e2 hz (by rw[c2];exactλz=>absurd (Φ z) ()),D2.2,aT e2 e3 (by rw[c2,c3];exactλz=>absurd (Φ z) ()),aT e2 e4 (by rw[c2,c4];exactλz=>absurd (Φ z) ())⟩
  have l1:=rv1.length
  have l2:=rv2.length
  have fpn:∀c∈[z,TI,TO,i1,i2],H c=none:=λc hc=>(hf c hc).1
  refine qx (I.ok.hd hc) D hz hTI hTO h1 h2 L1 L2 (hend.imp (λh=>by simp;omega) λh=>by simp;omega) λh4 hk=>⟨rfl,?_⟩
  have nit:∀c v,H c=some v->c≠z/\c≠TO/\c≠i1/\c≠i2:=λc v q=>⟨(λe=>by rw[e,fpn z ()]at q;cases q),(λe=>by rw[e,fpn TO ()]at q;cases q),(λe=>by rw[e,fpn i1 ()]at q;cases q),(λe=>by rw[e,fpn i2 ()]at q;cases q)⟩
  have kch:∀c o,c∉[z,TO,i1,i2]->s.heap.get? c=some o->h4.get? c=some o:=λc o hc q=>hk c o (λe=>hc (by simp[e])) (λe=>hc (by simp[e])) (λe=>hc (by simp[e])) (λe=>hc (by simp[e])) q
  refine I.step (t':=s.toks) (g':=s.gens) (d':=s.drawn) (ch:=[z,TO,i1,i2]) (λc hc=>?_) (λc o _ _ hc' q _=>kch c o hc' q) (λc o _ _ hc' q _=>⟨o.slots,kch c o hc' q⟩) (λc o _ q n=>n) (λc o hc' q=>⟨o,kch c o hc' q⟩)
   (λc xs q=>q) (λc o v q=>q) (λc ps q=>⟨#[],by rw[q];simp⟩) (λm hm=>?_) (λc v q=>?_) I.bare
  ·have hc':c∈[z,TI,TO,i1,i2]:=by
    simp only[ν,a8,or_false]at hc⊢
    rcases hc with e|e|e|e<;>simp[e]
   obtain⟨f0,f1,f2,f3,f4,f5⟩:=hf c hc'
   exact⟨f3,f1,f4,f5⟩
  ·obtain⟨o,es,ep,ho,r⟩:=hm
   exact⟨o,es,ep,hk _ o (ϒ (hf z ()).2.1) (ϒ (hf TO ()).2.1) (ϒ (hf i1 ()).2.1) (ϒ (hf i2 ()).2.1) ho,r⟩
  ·refine(I.hok c v q).stay (λc' w' hc' q'=>?_) (λc' q'=>q') λc' xs q'=>q'
   rcases hc' with e|e
   ·subst e;obtain⟨n1,n2,n3,n4⟩:=nit c' v q;exact hk c' w' n1 n2 n3 n4 q'
   ·obtain⟨n1,n2,n3,n4⟩:=nit c' _ e;exact hk c' w' n1 n2 n3 n4 q'
 self:=λA i s Q E st h=>wpAny_pyIter_zip st.1 h
theorem pV{h:Heap}{a:Addr}{its:Array δ}(p:CY h a its):a<h.objs.size:=by
 obtain⟨o,e,_⟩:=p
 exact Β e
section
variable{X:Cx}
def yN(K:ζ)(ta:TA):TI:=λσ H R=>ta σ H λvs H1=>∃a b,vs=[.ref a,.ref b]/\(∃xs,SqT K H1 a xs)/\(∃ys,SqT K H1 b ys)/\R (jl K a b) H1
theorem pi_zipTT{a b:Expr}{ta:TA}{p pos:Pos}{elts:List Expr}{x1}{tp:Pos}(hg:Gl X "zip")(hm:X.mg "zip"=none)(ha:PA X [a,b] ta)(hs:starEach [a,b] X.env=(false,eval a X.env)::starEach [b] X.env:=by rfl)(hpl:(backTo pos (starEach [b] X.env)).any (·.1)=false:=by rfl):
  PI X (.Tuple elts x1 tp) (.Call (.Name "zip" p) [a,b] [] pos) (yN X.K ta):=by
 intro pins s σ H R I h
 refine Call_ (gj I hg hm (u:=.type "zip") () (j9 (thn (ha pos pins s σ H _ I h) λus s1 ⟨vs,H1,I1,r1,q1⟩=>?_) hs hpl))
 obtain⟨l,m,e,⟨xs,hq1⟩,⟨ys,hq2⟩,q⟩:=q1
 subst e
 obtain⟨u,w',rfl,ru,rw'⟩:=nh r1
 cases ru
 cases rw'
 obtain⟨its1,rv1,p1,_⟩:=I1.tuple hq1
 obtain⟨its2,rv2,p2,_⟩:=I1.tuple hq2
 refine pB p1 p2 λh' hz hTI hTO hi1 hi2 kp=>?_
 have I2:Inv X pins σ H1 {s1 with heap:=h'}:=I1.kept (t':=s1.toks) kp
 have add:∀(n i j:Nat),i≠j->n+i≠n+j:=λn i j h z=>h (Nat.add_left_cancel z)
 have T:jR X.prog X.w X.K (.Tuple elts x1 tp) (jl X.K l m) [s1.heap.objs.size+4,s1.heap.objs.size+2,s1.heap.objs.size+3,s1.heap.objs.size,s1.heap.objs.size+1] (s1.heap.objs.size+4) _:=
  pR l m (s1.heap.objs.size+4) (s1.heap.objs.size+2) (s1.heap.objs.size+3) s1.heap.objs.size (s1.heap.objs.size+1)
   ⟨add _ 2 4 (),add _ 3 4 (),add _ 0 4 (),add _ 1 4 (),add _ 2 3 (),add _ 2 0 (),add _ 2 1 (),add _ 3 0 (),add _ 3 1 (),add _ 0 1 ()⟩ ⟨Ϛ (CB 3 (pV p1)),Ϛ (CB 3 (pV p2))⟩
 refine T.self X.A 0 {s1 with heap:=h'} _ _ ⟨hz,hTI,⟨_,_,hTO⟩,hi1,hi2⟩ ?_
 refine⟨s1.heap.objs.size+4,_,_,_,H1,rfl,I2,T,⟨hz,hTI,⟨_,_,hTO⟩,hi1,hi2⟩,λb hb=>?_,q⟩
 have hb':s1.heap.objs.size<=b:=by
  simp only[ν,a8,or_false]at hb
  rcases hb with e|e|e|e|e
  ·rw[e];exact Ϻ _ _
  ·rw[e];exact Ϻ _ _
  ·rw[e];exact Ϻ _ _
  ·rw[e];exact π _
  ·rw[e];exact Ϻ _ _
 obtain⟨f0,f1⟩:=I1.fpOk hb' (I1.hok.fresh hb')
 exact⟨f0,f1⟩
theorem mV{k:Nat}{ix:List Nat}{g:TG}{tt:TT}{te:TE}{σ:St}{H1:Hp}{Q:List V->Hp->Prop}{K:ζ}{a b:Addr}{xs ys:List V}(Pv:Nat->List V->Hp->Prop)(h0:Pv 0 [] H1)(hl:∀i zs H,Pv i zs H->SqT K H a xs/\SqT K H b ys)
  (hs:∀i zs H x y p,xs[i]?=some x->ys[i]?=some y->Pv i zs H->H p=none->de k ix g tt te σ (.ref p) zs (upd H p (.tup [x,y])) (Pv (i+1))) (hd:∀zs H,Pv (min xs.length ys.length) zs H->Q zs H):rLC (jl K a b) k ix g tt te σ H1 Q:=by
 refine oG (n:=min xs.length ys.length) Pv h0 (λi zs H h p=>?_) (λzs H p=>?_) (λi zs H x H' h p y=>?_) hd
 ·obtain⟨q1,q2⟩:=hl i zs H p
  exact⟨xs,ys,xs[i]'(),ys[i]'(),q1,q2,(),()⟩
 ·obtain⟨q1,q2⟩:=hl _ zs H p
  exact⟨xs,ys,q1,q2,()⟩
 ·obtain⟨q1,q2⟩:=hl i zs H p
  obtain⟨c,x',y',hb,e1,e2,hx,hy⟩:=y
  subst e1 e2
  exact hs i zs H x' y' c (hx xs q1) (hy ys q2) p hb
theorem sU{K:ζ}{a b:Addr}{xs ys:List V}{g:TG}{tb:TS}{D:bZ}{σ:St}{H:Hp}(Pv:Nat->St->Hp->Prop)(h0:Pv 0 σ H)(hl:∀i σ H,Pv i σ H->SqT K H a xs/\SqT K H b ys)
  (hs:∀i x y σ H p,xs[i]?=some x->ys[i]?=some y->Pv i σ H->H p=none->g (.ref p) σ (upd H p (.tup [x,y])) λσ2 H2=>tb {D with nx:=Pv (i+1),ct:=Pv (i+1),bk:=D.nx} σ2 H2) (hd:∀σ H,Pv (min xs.length ys.length) σ H->D.nx σ H):
  ∃W:Nat->Nat->St->Hp->Prop,(∃m,W 0 m σ H)/\∀i m σ H,W i m σ H ->
   ((jl K a b).stop i H/\D.nx σ H)\/((jl K a b).go i H/\∃N:St->Hp->Prop,(∀σ' H',N σ' H'->∃m',m'<m/\W (i+1) m' σ' H')/\∀x H',(jl K a b).yld i H x H'->g x σ H' λσ2 H2=>tb {D with nx:=N,ct:=N,bk:=D.nx} σ2 H2):=by
 refine⟨λi m σ H=>m=min xs.length ys.length-i/\i<=min xs.length ys.length/\Pv i σ H,⟨min xs.length ys.length,(),Υ _,h0⟩,?_⟩
 rintro i m σ H ⟨rfl,hi,p⟩
 obtain⟨q1,q2⟩:=hl i σ H p
 by_cases hlt:i<min xs.length ys.length
 ·have h1:i<xs.length:=by omega
  have h2:i<ys.length:=by omega
  refine .inr ⟨⟨xs,ys,xs[i],ys[i],q1,q2,by simp[h1],by simp[h2]⟩,Pv (i+1),λσ' H' p'=>⟨min xs.length ys.length-(i+1),(),rfl,hlt,p'⟩,λz H' y=>?_⟩
  obtain⟨c,x,y,hb,e1,e2,hx,hy⟩:=y
  subst e1 e2
  exact hs i x y σ H c (hx xs q1) (hy ys q2) p hb
 ·have e:i=min xs.length ys.length:=by omega
  subst e
  exact .inl ⟨⟨xs,ys,q1,q2,()⟩,hd σ H p⟩
end
theorem mN(l:Addr)(items:Array δ)(n:Nat)(b:Addr)(items2:Array δ)(n2:Nat)(dct:Option Addr)(slt:Array (Option δ))(hs0:¬(!items.isEmpty&&i9 (items.size+items2.size))=true)(hs1:items.size<=sizeLine)(hs2:items.size+items2.size<=sizeLine+1):
  Meets (o8.«list.extend» ⟨[.ref l,.ref b],[]⟩) (λ_ R s=>s.heap.get? l=some {cls:=.type "list",data:=.seq items n}/\s.heap.get? b=some {cls:=.type "tuple",dict:=dct,data:=.seq items2 n2,slots:=slt}/\R (.ok (.ret u7)) {s with heap:=s.heap.update l (Bu λx=>x++items2),toks:=s.toks}):=
 .of_wp λprog w A R s h=>by
  obtain⟨hp,g,d,tk,os⟩:=s
  obtain⟨hl,hb,h⟩:=h
  have f1:=AutoSeq1.idx_int
  have f2:=AutoSeq1.sub_tuple_tuple
  have f3:=AutoSeq1.sub_list_list
  have f4:=AutoSeq1.sub_tuple_list
  have f5:=AutoSeq1.sub_list_tuple
  have hz':(items++items2).size<=sizeLine+1:=by rw[Array.size_append];exact hs2
  wp_walk using(wpAny_updateSeq hl rfl (hz:=hs1) (_hz':=hz')),i_ hl,i_ hb
  exact⟨_,rfl,h⟩
section
variable{X:Cx}
def zG(K:ζ):V->List V->Hp->VK->Prop:=λx vs H Q=>∃l b xs zs,x=.ref l/\vs=[.ref b]/\H l=some (.lst xs)/\SqT K H b zs/\xs.length+zs.length<=sizeLine/\Q .non (upd H l (.lst (xs++zs)))
theorem xr:MtM X "list.extend" (zG X.K):=by
 intro pins s σ H x vs v us Q I rx rv h
 obtain⟨l,b,xs,zs,rfl,rfl,hH,hB,hz,q⟩:=h
 cases rx
 obtain⟨u,rfl,ru⟩:=rv.one
 cases ru
 obtain⟨z,its,n,r,hl,e⟩:=I.lstM hH
 obtain⟨its2,r2,⟨⟨cls,dd,data,sl⟩,e2,hc,n2,hd⟩,_⟩:=I.tuple hB
 simp only at hc hd
 subst hc hd
 have hl2:=r2.length
 have hsz:its.toArray.size+its2.toArray.size<=sizeLine:=by rw[Α,Α];omega
 have hlong:¬ (!its.toArray.isEmpty&&i9 (its.toArray.size+its2.toArray.size))=true:=by
  rw[oh hsz,Ca]
  exact Κ
 refine Bv F.slot_list_extend ⟨_,e,rfl⟩ F.entry_list_extend (F.args_list_extend_2 _ _)
  (mN l its.toArray n b its2.toArray n2 dd sl hlong (by rw[Α];omega) ()) ⟨e,e2,?_⟩
 refine⟨.non,_,I.lset (its':=its++its2) hH e () (r.append r2) ?_,rfl,q⟩
 rw[Ζ]
 omega
theorem vS(hu:X.A.units<cLine):OpR X (compareOp .Eq) (λx y H Q=>∃(l b:Addr) (xs:List V),x=.ref l/\y=.ref b/\SqL X.K H l xs/\SqL X.K H b []/\Q (.bl xs.isEmpty) H):=by
 intro pins s σ H x y v u Q I rx ry h
 obtain⟨l,b,xs,rfl,rfl,hl,hb,q⟩:=h
 cases rx
 cases ry
 obtain⟨its,r1,p1,_⟩:=I.list hl
 obtain⟨its2,r2,p2,_⟩:=I.list hb
 have l1:=r1.length
 have l2:=r2.length
 cases xs with
 |nil=>
  refine SeqAt.RcAt.lists (e:=λ_=>true) p1.isList p2.isList (by simp;omega) hu (λj h1 h2=>?_) X.prog X.w X.xe _ ?_
  ·have:j<its.length:=by simpa using h1
   simp at l1;omega
  ·have e:((ϗ its.toArray.size).all λ_=>true)=true:=by simp
   rw[e]
   exact⟨.bl true,H,I,rfl,q⟩
 |cons x xs=>
  refine SeqAt.RcAt.lists_lengths p1.isList p2.isList ?_ hu X.prog X.w X.xe _ ⟨.bl false,H,I,rfl,q⟩
  rw[ω]at l1
  rw[h_]at l2
  rw[Α,Α,bne_iff_ne]
  omega
end
section
variable{prog:υ}{w:Μ}{A:Ρ}{E:δ->θ->Prop}{s:θ}
end
section
variable{X:Cx}
end
section
variable{prog:υ}{w:Μ}{A:Ρ}{E:δ->θ->Prop}
end
section
variable{X:Cx}{pos:Pos}
end
end L2
namespace KB
open PySem L2
abbrev Pr:=Str×Int
def AW(p q:Pr):Prop:=p.1.cps.toList<q.1.cps.toList
structure nY(ps:List Pr):Prop where
 pw:ps.Pairwise AW
 ge:∀p∈ps,1<=p.2
def dJ(kvs:List Pr)(x:Str)(n:Int):List Pr:=if (kvs.any λp=>decide (p.1=x))=true then kvs.map (λp=>if p.1=x then (p.1,n)else p)else kvs++[(x,n)]
def nmB(x:Str):Bool:=decide (1<=x.cps.size)&&decide (x.cps.size<=8)&&x.cps.toList.all λc=>decide (97<=c)&&decide (c<=122)
def azB(c:Nat):Bool:=decide (97<=c)&&decide (c<=122)
theorem Rep.tup_inv{H:Hp}{ds:List Dv}{v:V}(h:Rep H (.tup ds) v):∃a vs,v=.ref a/\H a=some (.tup vs)/\Reps H ds vs:=by simpa only[Rep]using h
theorem Reps.two{H:Hp}{d e:Dv}{vs:List V}(h:Reps H [d,e] vs):∃x y,vs=[x,y]/\Rep H d x/\Rep H e y:=by
 simp only[Reps]at h
 obtain⟨x,r,rfl,h1,y,r2,rfl,h2,rfl⟩:=h
 exact⟨x,y,rfl,h1,h2⟩
def dk(kvs:List (Str×Int)):List (Key×V):=kvs.map λp=>(ϟ p.1,V.int p.2)
def bz(c:Int)(ps:List (Str×Int)):Dv:=.tup [.int c,.tup (ps.map λp=>.tup [.str p.1,.int p.2])]
def tkV(r:TK):Str×Int:=(r.2.1,match r.2.2 with| [.int n]=>n|_=>0)
theorem kR{H:Hp}:∀{rs:List TK},(∀r∈rs,H r.1=some (.tup [.str (tkV r).1,.int (tkV r).2]))->Reps H ((rs.map tkV).map λp=>Dv.tup [.str p.1,.int p.2]) (rs.map λr=>V.ref r.1)
 |[],_=>by simp[Reps]
 |r::rs,h=>by
  simp only[Ο,Reps]
  refine⟨_,_,rfl,?_,kR λx hx=>h x (χ _ hx)⟩
  simp only[Rep,Reps]
  exact⟨r.1,_,rfl,h r ξ,_,_,rfl,rfl,_,_,rfl,rfl,rfl⟩
theorem sM{a b:Str}:((ϟ a:Key)=ϟ b)↔a=b:=⟨λh=>by injection h,λh=>by rw[h]⟩
theorem yg(kvs:List (Str×Int))(x:Str)(n:Int):dk (dJ kvs x n)=dU (dk kvs) (ϟ x) (.int n):=by
 unfold dJ dU dk
 have e:((kvs.map λp=>((ϟ p.1:Key),V.int p.2)).any λkv=>decide (kv.1=ϟ x))=kvs.any λp=>decide (p.1=x):=by
  rw[List.any_map]
  congr 1
  funext p
  simp[Function.comp]
 rw[e]
 split
 ·rw[Ξ,Ξ]
  refine r_ λp _=>?_
  simp only[Function.comp]
  by_cases h:p.1=x
  ·rw[Q5 h,Q5 (sM.mpr h)]
  ·rw[Q6 h,Q6 (λz=>h (sM.mp z))]
 ·rw[Ι]
  rfl
theorem tf{kvs:List (Str×Int)}{x:Str}{n:Int}(nd:(kvs.map (·.1)).Nodup):((dJ kvs x n).map (·.1)).Nodup:=by
 unfold dJ
 split
 ·have e:(kvs.map (λp=>if p.1=x then (p.1,n)else p)).map (·.1)=kvs.map (·.1):=by
   rw[Ξ]
   refine r_ λp _=>?_
   simp only[Function.comp]
   split<;>rfl
  rw[e];exact nd
 ·rename_i h
  rw[Ι,List.nodup_append]
  refine⟨nd,(),λa ha b hb=>?_⟩
  have hb':b=x:=by simpa using hb
  subst hb'
  intro e
  subst e
  obtain⟨p,hp,e⟩:=ϥ.mp ha
  exact h (a7.mpr ⟨p,hp,Q9 e⟩)
theorem vC(kvs:List (Str×Int))(x:Str)(n:Int):(dJ kvs x n).length<=kvs.length+1:=by
 unfold dJ
 split
 ·rw[η];omega
 ·rw[Ζ];simp
theorem vd{R:Str×Int->Prop}{kvs:List (Str×Int)}{x:Str}{n:Int}(h:∀p∈kvs,R p)(hx:R (x,n)):∀p∈dJ kvs x n,R p:=by
 intro p hp
 unfold dJ at hp
 split at hp
 ·obtain⟨q,hq,e⟩:=ϥ.mp hp
  by_cases z:q.1=x
  ·rw[Q5 z]at e
   rw[<-e,z];exact hx
  ·rw[Q6 z]at e
   rw[<-e];exact h q hq
 ·rcases ϋ.mp hp with hp|hp
  ·exact h p hp
  ·rw[μ.mp hp];exact hx
abbrev aO(ps:List Pr):List Dv:=ps.map λp=>.tup [.str p.1,.int p.2]
theorem sw{H:Hp}{ps:List Pr}{us:List V}(ru:Reps H (aO ps) us){i:Nat}{x:V}(hx:us[i]?=some x):∃p b,ps[i]?=some p/\x=.ref b/\H b=some (.tup [.str p.1,.int p.2]):=by
 obtain⟨d,hd,Rd⟩:=ru.get hx
 rw[Ν]at hd
 cases e:ps[i]? with
 |none=>rw[e]at hd;cases hd
 |some p=>
  rw[e]at hd
  obtain rfl:Dv.tup [.str p.1,.int p.2]=d:=ϕ hd
  obtain⟨b,zs,rfl,hb,rz⟩:=Rep.tup_inv Rd
  obtain⟨y,z,rfl,Ry,Rz⟩:=Reps.two rz
  simp only[Rep]at Ry Rz
  subst Ry Rz
  exact⟨p,b,rfl,rfl,hb⟩
theorem qW{H:Hp}{c:Int}{ps:List Pr}{v:V}(R:Rep H (bz c ps) v):∃a b us,v=.ref a/\H a=some (.tup [.int c,.ref b])/\H b=some (.tup us)/\Reps H (aO ps) us/\us.length=ps.length:=by
 obtain⟨a,tv,rfl,ha,rt⟩:=Rep.tup_inv R
 obtain⟨x,y,rfl,R0,R1⟩:=Reps.two rt
 simp only[Rep]at R0
 subst R0
 obtain⟨b,us,rfl,hb,ru⟩:=Rep.tup_inv R1
 have:=ru.length
 rw[η]at this
 exact⟨a,b,us,rfl,ha,hb,ru,this⟩
theorem li{H:Hp}{c:Int}{ps:List Pr}{a b:Addr}{us:List V}(ha:H a=some (.tup [.int c,.ref b]))(hb:H b=some (.tup us))(ru:Reps H (aO ps) us):Rep H (bz c ps) (.ref a):=by
 simp only[bz,Rep,Reps]
 exact⟨a,_,rfl,ha,_,_,rfl,rfl,_,_,rfl,⟨b,us,rfl,hb,ru⟩,rfl⟩
theorem eqI{i j:Int}(h:decide (V.int i=V.int j)=true):i=j:=by
 have:=Q7 h
 injection this
theorem z2:2<=sizeLine:=by rw[ι];decide
theorem z1:1<=sizeLine:=by rw[ι];decide
theorem z3:3<=sizeLine:=by rw[ι];decide
theorem uD{kvs:List Pr}{x:Str}{n:Int}(h:x∉kvs.map (·.1)):dJ kvs x n=kvs++[(x,n)]:=by
 unfold dJ
 rw[Q6]
 intro e
 rw[a7]at e
 obtain⟨p,hp,e⟩:=e
 exact h (ϥ.mpr ⟨p,hp,Q7 e⟩)
theorem ko{kvs:List Pr}{x:Str}{n:Int}(h:x∈kvs.map (·.1)):(dJ kvs x n).map (·.1)=kvs.map (·.1):=by
 unfold dJ
 obtain⟨p,hp,rfl⟩:=ϥ.mp h
 rw[Q5 (a7.mpr ⟨p,hp,Q9 rfl⟩),Ξ]
 refine r_ λr _=>?_
 show(if r.1=p.1 then (r.1,n)else r).1=r.1
 split<;>rfl
section
variable{K:ζ}
end
theorem tnx{D:bZ}{σ:St}{H:Hp}(h:D.nx σ H):xX D σ H:=h
theorem wT{ns:List Int}{k:Int}(h0:0<=k)(h:k<(ns.length:Int)):∃v:Int,atI (ns.map V.int) k=some (.int v):=by
 have hk:k.toNat<ns.length:=by omega
 have q:atI (ns.map V.int) ((k.toNat:Nat):Int)=some (.int ns[k.toNat]):=ae (by rw[Ν,ς hk]<;>rfl)
 have ek:k=((k.toNat:Nat):Int):=by omega
 rw[<-ek]at q
 exact⟨_,q⟩
theorem iJ{a:Int}(n:Int)(h:0<n):0<=a%n/\a%n<n:=⟨Int.emod_nonneg _ (),Int.emod_lt_of_pos _ h⟩
def ar(a:Addr)(H H':Hp):Prop:=∀g o,g≠a->H g=some o->H' g=some o
theorem ar.refl(a:Addr)(H:Hp):ar a H H:=λ_ _ _ e=>e
theorem ar.trans{a:Addr}{H H1 H2:Hp}(s:ar a H H1)(t:ar a H1 H2):ar a H H2:=λg o hg e=>t g o hg (s g o hg e)
theorem ai.b{H H':Hp}(a:Addr)(s:ai H H'):ar a H H':=λg o _ e=>s g o e
theorem ar.upd(H:Hp)(a:Addr)(o:HO):ar a H (upd H a o):=λg u hg e=>by rw[aq hg];exact e
theorem ar.same{a:Addr}{H H1 H2:Hp}(h:H a=none)(s:ai H H1)(t:ar a H1 H2):ai H H2:=λg o e=>t g o (aj e h) (s g o e)
def tY(H H':Hp):Prop:=∀b zs,H b=some (.tup zs)->H' b=some (.tup zs)
theorem ar.tups{a:Addr}{H H':Hp}{xs:List V}(s:ar a H H')(h:H a=some (.lst xs)):tY H H':=λb zs e=>s b _ (λz=>by rw[z,h]at e;cases e) e
theorem cg{H H':Hp}:∀{ds:List Dv}{vs:List V},(∀d∈ds,∀v,Rep H d v->Rep H' d v)->Reps H ds vs->Reps H' ds vs
 |[],vs,_,h=>by simpa only[Reps]using h
 |d::ds,vs,f,h=>by
  simp only[Reps]at h⊢
  obtain⟨v,r,rfl,h1,h2⟩:=h
  exact⟨v,r,rfl,f d ξ v h1,cg (λe he=>f e (χ _ he)) h2⟩
theorem cm{H H':Hp}(t:tY H H'){n:Nat}{d:Dv}(h:L2.Pl n d):∀{v:V},Rep H d v->Rep H' d v:=by
 induction h with
 |int=>intro v r;simpa only[Rep]using r
 |str=>intro v r;simpa only[Rep]using r
 |non=>intro v r;simpa only[Rep]using r
 |tup _ ih=>
  intro v r
  simp only[Rep]at r⊢
  obtain⟨a,vs,rfl,ha,rs⟩:=r
  exact⟨a,vs,rfl,t _ _ ha,cg (λd hd v r=>ih d hd r) rs⟩
theorem mi(c:Int)(ps:List Pr):L2.Pl 3 (bz c ps):=.tup λd hd=>by
 rcases ν.mp hd with rfl|hd
 ·exact .int
 ·rw[μ.mp hd]
  refine .tup λe he=>?_
  obtain⟨p,_,rfl⟩:=ϥ.mp he
  refine .tup λg hg=>?_
  rcases ν.mp hg with rfl|hg
  ·exact .str
  ·rw[μ.mp hg];exact .int
theorem wF{c:TT}{tb:TS}{D:bZ}{σ:St}{H:Hp}(Pv:Nat->St->Hp->Prop)(m:Nat)(h0:Pv m σ H)
  (hs:∀m σ H,Pv m σ H->c σ H λb H1=>if b=true then tb {D with nx:=λσ' H'=>∃m',m'<m/\Pv m' σ' H',ct:=λσ' H'=>∃m',m'<m/\Pv m' σ' H',bk:=D.nx} σ H1 else D.nx σ H1)
  (mono:∀σ H Q Q',(∀b H1,Q b H1->Q' b H1)->c σ H Q->c σ H Q'):qb c tb D σ H:=by
 refine⟨Pv,⟨m,h0⟩,λm σ H p=>mono σ H _ _ (λb H1 q=>?_) (hs m σ H p)⟩
 cases b with
 |true=>exact⟨_,λσ' H' q'=>q',q⟩
 |false=>exact q
theorem jI{K:ζ}{i:Nat}:∀σ H (Q Q':Bool->Hp->Prop),(∀b H1,Q b H1->Q' b H1)->(λ(σ:St) (H:Hp) (Q:Bool->Hp->Prop)=>fz i σ H λx H'=>∃k,wm K x H' k/\Q k H') σ H Q->(λ(σ:St) (H:Hp) (Q:Bool->Hp->Prop)=>fz i σ H λx H'=>∃k,wm K x H' k/\Q k H') σ H Q':=by
 rintro σ H Q Q' h ⟨v,e,k,t,q⟩
 exact⟨v,e,k,t,h _ _ q⟩
inductive Kd where
 |whole
 |place (c:Int) (ps:List Pr)
 |row (c:Int) (ps:List Pr) (k:Kd)
 |pair (k j:Kd)
def Kd.dv:Kd->Dv
 |.whole=>.tup [.str "whole"]
 |.place c ps=>.tup [.str "place",bz c ps]
 |.row c ps k=>.tup [.str "row",bz c ps,k.dv]
 |.pair k j=>.tup [.str "pair",k.dv,j.dv]
def Kd.size:Kd->Nat
 |.whole=>1
 |.place _ _=>1
 |.row _ _ k=>k.size+1
 |.pair k j=>k.size+j.size+1
theorem Kd.size_pos:∀k:Kd,1<=k.size
 |.whole=>π _
 |.place _ _=>π _
 |.row _ _ k=>by show 1<=k.size+1;omega
 |.pair k j=>by show 1<=k.size+j.size+1;omega
theorem Kd.pl:∀k:Kd,L2.Pl (k.size+3) k.dv
 |.whole=>.tup λd hd=>by rw[μ.mp hd];exact .str
 |.place c ps=>.tup λd hd=>by
  rcases ν.mp hd with rfl|hd
  ·exact .str
  ·rw[μ.mp hd];exact mi c ps
 |.row c ps k=>.tup λd hd=>by
  rcases ν.mp hd with rfl|hd
  ·exact .str
  rcases ν.mp hd with rfl|hd
  ·exact(mi c ps).up (by show 3<=k.size+3;omega)
  ·rw[μ.mp hd];exact k.pl
 |.pair k j=>.tup λd hd=>by
  rcases ν.mp hd with rfl|hd
  ·exact .str
  rcases ν.mp hd with rfl|hd
  ·exact k.pl.up (by show k.size+3<=k.size+j.size+3;omega)
  ·rw[μ.mp hd];exact j.pl.up (by show j.size+3<=k.size+j.size+3;omega)
def Kd.word:Kd->Str
 |.whole=>"whole"
 |.place _ _=>"place"
 |.row _ _ _=>"row"
 |.pair _ _=>"pair"
def Kd.All(P:Int->List Pr->Prop):Kd->Prop
 |.whole=>True
 |.place c ps=>P c ps
 |.row c ps k=>P c ps/\k.All P
 |.pair k j=>k.All P/\j.All P
theorem Kd.tupS{H H':Hp}(t:tY H H'){k:Kd}{v:V}(r:Rep H k.dv v):Rep H' k.dv v:=cm t k.pl r
theorem Kd.inv{H:Hp}{k:Kd}{v:V}(r:Rep H k.dv v):∃a vs,v=.ref a/\H a=some (.tup (.str k.word::vs)) /\
  (match k with
   |.whole=>vs=[]
   |.place c ps=>∃l,vs=[l]/\Rep H (bz c ps) l
   |.row c ps j=>∃l u,vs=[l,u]/\Rep H (bz c ps) l/\Rep H j.dv u
   |.pair i j=>∃u w,vs=[u,w]/\Rep H i.dv u/\Rep H j.dv w):=by
 cases k with
 |whole=>
  simp only[Kd.dv,Rep,Reps]at r
  obtain⟨a,vs,rfl,ha,x,r1,rfl,rfl,rfl⟩:=r
  exact⟨a,[],rfl,ha,rfl⟩
 |place c ps=>
  rw[Kd.dv,Rep]at r
  obtain⟨a,vs,rfl,ha,rs⟩:=r
  simp only[Reps]at rs
  obtain⟨x,r1,rfl,hx,y,r2,rfl,hy,rfl⟩:=rs
  simp only[Rep]at hx
  subst hx
  exact⟨a,_,rfl,ha,y,rfl,hy⟩
 |row c ps j=>
  rw[Kd.dv,Rep]at r
  obtain⟨a,vs,rfl,ha,rs⟩:=r
  simp only[Reps]at rs
  obtain⟨x,r1,rfl,hx,y,r2,rfl,hy,z,r3,rfl,hz,rfl⟩:=rs
  simp only[Rep]at hx
  subst hx
  exact⟨a,_,rfl,ha,y,z,rfl,hy,hz⟩
 |pair i j=>
  rw[Kd.dv,Rep]at r
  obtain⟨a,vs,rfl,ha,rs⟩:=r
  simp only[Reps]at rs
  obtain⟨x,r1,rfl,hx,y,r2,rfl,hy,z,r3,rfl,hz,rfl⟩:=rs
  simp only[Rep]at hx
  subst hx
  exact⟨a,_,rfl,ha,y,z,rfl,hy,hz⟩
theorem kK{H:Hp}{a:Addr}(h:H a=some (.tup [.str "whole"])):Rep H Kd.whole.dv (.ref a):=by
 simp only[Kd.dv,Rep,Reps]
 exact⟨a,_,rfl,h,_,_,rfl,rfl,rfl⟩
theorem ku{H:Hp}{a:Addr}{l:V}{c:Int}{ps:List Pr}(h:H a=some (.tup [.str "place",l]))(r:Rep H (bz c ps) l):Rep H (Kd.place c ps).dv (.ref a):=by
 rw[Kd.dv,Rep]
 refine⟨a,_,rfl,h,?_⟩
 simp only[Reps]
 exact⟨_,_,rfl,by simp only[Rep],_,_,rfl,r,rfl⟩
theorem sf{H:Hp}{a:Addr}{l u:V}{c:Int}{ps:List Pr}{k:Kd}(h:H a=some (.tup [.str "row",l,u]))(r:Rep H (bz c ps) l)(r2:Rep H k.dv u):Rep H (Kd.row c ps k).dv (.ref a):=by
 rw[Kd.dv,Rep]
 refine⟨a,_,rfl,h,?_⟩
 simp only[Reps]
 exact⟨_,_,rfl,by simp only[Rep],_,_,rfl,r,_,_,rfl,r2,rfl⟩
theorem oN{H:Hp}{a:Addr}{l u:V}{j k:Kd}(h:H a=some (.tup [.str "pair",l,u]))(r:Rep H j.dv l)(r2:Rep H k.dv u):Rep H (Kd.pair j k).dv (.ref a):=by
 rw[Kd.dv,Rep]
 refine⟨a,_,rfl,h,?_⟩
 simp only[Reps]
 exact⟨_,_,rfl,by simp only[Rep],_,_,rfl,r,_,_,rfl,r2,rfl⟩
theorem oX{G H2:Hp}{kvs:List Pr}{qs:List TK}(hq:∀r∈qs,H2 r.1=some (.tup (.str r.2.1::r.2.2))/\G r.1=none)(pq:(qs.map (·.2)).Perm ((kvs.map λp=>(p.1,V.int p.2)).map λp=>(p.1,[p.2])))(pw:qs.Pairwise uv)(hall:∀p∈kvs,1<=p.2):
  (qs.map tkV).Perm kvs/\nY (qs.map tkV)/\∀t,H2 t=none->Rep (upd H2 t (.tup (qs.map λr=>V.ref r.1))) (.tup (aO (qs.map tkV))) (.ref t):=by
 have shape:∀r∈qs,∃p∈kvs,r.2=(p.1,[V.int p.2]):=λr hr'=>by
  have:=pq.mem_iff.mp (j8 (f:=(·.2)) hr')
  rw[Ξ]at this
  obtain⟨p,hp,e⟩:=ϥ.mp this
  exact⟨p,hp,e.symm⟩
 have tk:∀r∈qs,r.2.1=(tkV r).1/\r.2.2=[V.int (tkV r).2]:=λr hr'=>by
  obtain⟨p,_,e⟩:=shape r hr'
  unfold tkV
  rw[e]
  exact⟨rfl,rfl⟩
 have perm:(qs.map tkV).Perm kvs:=by
  have e1:qs.map tkV=(qs.map (·.2)).map λz=>(z.1,match z.2 with| [.int n]=>n|_=>0):=by
   rw[Ξ];rfl
  have e2:kvs=((kvs.map λp=>(p.1,V.int p.2)).map λp=>(p.1,[p.2])).map λz=>(z.1,match z.2 with| [.int n]=>n|_=>0):=by
   rw[Ξ,Ξ]
   exact(List.map_id kvs).symm
  rw[e1]
  rw[e2]
  exact pq.map _
 refine⟨perm,⟨List.pairwise_map.mpr (pw.imp λ{x y} h=>h),λp hp=>hall p (perm.mem_iff.mp hp)⟩,λt ht=>?_⟩
 simp only[Rep]
 refine⟨t,_,rfl,aa,kR λr hr'=>?_⟩
 have:=(hq r hr').1
 rw[(tk r hr').1,(tk r hr').2]at this
 exact ac ht _ _ _ this
theorem vk{H:Hp}{c:Int}{ps:List Pr}{p:Addr}{w:V}(hp:H p=some (.tup [.int c,w]))(R:Rep H (.tup (aO ps)) w):Rep H (bz c ps) (.ref p):=by
 obtain⟨b,us,rfl,hb,ru⟩:=Rep.tup_inv R
 exact li hp hb ru
theorem gx{H:Hp}:∀{ds:List Dv}{d:Dv}{vs:List V},Reps H (ds++[d]) vs->∃vs0 v,vs=vs0++[v]/\Reps H ds vs0/\Rep H d v
 |[],d,vs,h=>by
  simp only[ϸ,Reps]at h
  obtain⟨v,r,rfl,hv,rfl⟩:=h
  exact⟨[],v,rfl,by simp only[Reps],hv⟩
 |e::ds,d,vs,h=>by
  simp only[ϯ,Reps]at h
  obtain⟨v,r,rfl,hv,hr⟩:=h
  obtain⟨vs0,u,rfl,h1,h2⟩:=gx hr
  exact⟨v::vs0,u,rfl,by simp only[Reps];exact⟨v,vs0,rfl,hv,h1⟩,h2⟩
theorem be{H:Hp}{d:Dv}{v:V}(h:Rep H d v):Reps H [d] [v]:=by simp only[Reps];exact⟨v,[],rfl,h,rfl⟩
theorem mM(vs:List V)(v:V):(vs++[v])[(vs++[v]).length-1]?=some v:=by simp
theorem sI{t1 t2:TT}{σ:St}{H:Hp}{Q:Bool->Hp->Prop}(C:Prop)(qT:C->Q true H)(qF:Q false H)(f:(C->Q true H)->Q false H->yQ t1 t2 σ H Q):yQ t1 t2 σ H Q:=f qT qF
theorem mz{α:Type}:∀{l:List α},l≠[]->∃l0 x,l=l0++[x]:=λ{l} h=>by
 rcases List.eq_nil_or_concat l with e|⟨l0,x,e⟩
 ·exact absurd e h
 ·exact⟨l0,x,by rw[e];simp⟩
theorem gnm{i:Nat}{x:V}{σ:St}{H:Hp}{N:St->Hp->Prop}(h:N (σ.set i (some x)) H):cP i x σ H N:=h
theorem ifT{A B:Prop}(h:if true=true then A else B):A:=by rwa[Q5 rfl]at h
theorem ifF{A B:Prop}(h:if false=true then A else B):B:=by rwa[Q6 Κ]at h
theorem zO:¬ (γ "whole"=γ "place"):=by decide +kernel
theorem Al:¬ (γ "whole"=γ "row"):=by decide +kernel
theorem zw:¬ (γ "whole"=γ "pair"):=by decide +kernel
theorem yH:¬ (γ "place"=γ "row"):=by decide +kernel
theorem yA:¬ (γ "place"=γ "pair"):=by decide +kernel
theorem yr:¬ (γ "row"=γ "pair"):=by decide +kernel
theorem wne{x y:Str}(h:¬ x=y):¬ V.str x=V.str y:=λe=>h (V.str.inj e)
end KB
namespace L2
open PySem PySem.Spec PyProof.Rows PySem.W
section
variable{X:Cx}
def AZ:R2:=λx y H Q=>(zn x y=true/\Q (.bl (!decide (x=y))) H)\/∃(n:Nat) (ds es:List Dv),Pl n (.tup ds)/\Pl n (.tup es)/\n<=140/\Rep H (.tup ds) x/\Rep H (.tup es) y/\∀b:Bool,(b=true↔ds≠es)->Q (.bl b) H
theorem uJ(hu:X.A.units+150<cLine):OpR X (compareOp .NotEq) AZ:=by
 intro pins s σ H x y v u Q I rx ry h
 rcases h with h|h
 ·exact eT pins s σ H x y v u Q I rx ry h
 ·exact yU hu pins s σ H x y v u Q I rx ry h
end
end L2
namespace KB
open PySem L2
theorem qR{H:Hp}{α:Type}{f:α->Dv}{xs:List α}{us:List V}{i:Nat}{u:V}(R:Reps H (xs.map f) us)(h:us[i]?=some u):∃x,xs[i]?=some x/\Rep H (f x) u:=by
 obtain⟨d,hd,Rd⟩:=R.get h
 rw[Ν]at hd
 obtain⟨x,hx,rfl⟩:=ϖ.mp hd
 exact⟨x,hx,Rd⟩
theorem rD(ds:List Dv):isT (.tup ds) "tuple"=true:=by
 unfold isT
 rw[show(Dv.tup ds).tn="tuple" from rfl,beq_self_eq_true,Bool.true_or]
end KB
namespace L2
open PySem PySem.Spec PyProof.Rows PySem.W
section
variable{P:υ}{w:Μ}{A:Ρ}{E:δ->θ->Prop}{s:θ}
end
section
variable{X:Cx}
theorem ps_dead{st:Stmt}:PS X st (λ_ _ _=>False):=λ_ _ _ _ _ _ h=>h.elim
end
section
variable{prog:υ}{w:Μ}{A:Ρ}{E:δ->θ->Prop}{s:θ}{r l:Addr}{items:Array δ}
end
section
variable{X:Cx}{e:Expr}{te:TE}{p p1 pos pos1:Pos}
end
section
variable{X:Cx}
def AV(te:TE):TE:=λσ H Q=>te σ H λx H1=>∃i:Int,x=.int i/\i.natAbs.log2<1920/\Q (.str (toString i)) H1
theorem yK{e:Expr}{te:TE}{pos:Pos}(he:PE X e te):PE X (.FormattedValue e (-1) none pos) (AV te):=λpins s σ H Q I h=>
 Ce (thn (he pins s σ H _ I h) λv s1 ⟨x,H1,I1,r1,i,ex,hd,q⟩=>by
  subst ex
  obtain⟨k,rfl⟩:=r1
  exact wpAny_formatField_int hd ⟨.str (toString i),H1,I1.tok _,⟨_,rfl⟩,q⟩)
theorem qh:MtR X "str.startswith" (λx xs H Q=>∃(a b:Str) (i:Int),x=.str a/\xs=[.str b,.int i]/\Q (.bl (Txt.startswith3 a b i)) H):=by
 intro pins s σ H x xs v us Q I rx r h
 obtain⟨a,b,i,rfl,rfl,q⟩:=h
 obtain⟨t,rfl⟩:=rx
 cases r with
 |cons r1 rr=>
  cases rr with
  |cons r2 rr=>
   cases rr
   obtain⟨t1,rfl⟩:=r1
   obtain⟨t2,rfl⟩:=r2
   exact SC.startswith3 ⟨.bl _,H,I,rfl,q⟩
theorem jW:cS X (.type "int") (λxs H Q=>∃(a:Str) (n:Int),xs=[.str a]/\PySem.intText? a=some n/\a.length<=640/\Q (.int n) H):=by
 intro pins s σ H xs us Q I r h
 obtain⟨a,n,rfl,hn,hl,q⟩:=h
 obtain⟨u,rfl,t,rfl⟩:=dG r
 exact KIN.call_text hn hl ⟨.int n,H,I.tok _,⟨_,rfl⟩,q⟩
theorem jv:∀l:List (Str×Tok),aD ((l.map (·.1)).map V.str) (strValues l)
 |[]=>.nil
 |(x,t)::l=>.cons ⟨t,rfl⟩ (jv l)
theorem dQ:MtR X "str.split" (λx xs H Q=>∃a b:Str,x=.str a/\xs=[.str b]/\(b.length==0)=false/\a.length<=sizeLine/\(Txt.split a b).length<=sizeLine/\∀p,H p=none->Q (.ref p) (upd H p (.lst ((Txt.split a b).map V.str)))):=by
 intro pins s σ H x xs v us Q I rx r h
 obtain⟨a,b,rfl,rfl,hb,ha,hz,q⟩:=h
 obtain⟨t,rfl⟩:=rx
 obtain⟨u,rfl,t1,rfl⟩:=dG r
 have fin:∀(l:List (Str×Tok))(tk:Nat),l.map (·.1)=Txt.split a b->EP X pins σ Q (.ref s.heap.objs.size) {s with heap:=s.heap.push {cls:=.type "list",data:=.seq (strValues l).toArray},toks:=tk}:=λl tk e=>by
  refine⟨.ref _,_,I.laid (t':=tk) (o:=.lst ((Txt.split a b).map V.str)) (λb ob q=>ο _ q) (π _) ?_,rfl,q _ (I.hok.fresh (π _))⟩
  refine⟨by rw[η];exact hz,strValues l,0,?_,Δ _ rfl⟩
  rw[<-e];exact jv l
 cases h1:(decide (a.length<b.length)||decide (o8.Str.strKind a<o8.Str.strKind b))
 ·cases hf:(u6 a b 0 a.length (a.length+1)).isEmpty
  ·have es:Txt.split a b=o8.Str.partsBetween a (u6 a b 0 a.length (a.length+1)) b.length:=(Q6 (ne_true_of_eq_false h1)).trans (Q6 (ne_true_of_eq_false hf))
   refine Bv CC (BL _ _ _) Cv (Ch _ _) (meets_str_split_sep a b t t1 h1 hb hf ha (by rw[<-es];exact hz)) ?_
   show wants (EP X pins σ Q) X.xe _ {s with toks:=_,heap:=s.heap.push {cls:=.type "list",data:=.seq (strsFrom s.toks (o8.Str.partsBetween a (u6 a b 0 a.length (a.length+1)) b.length)).toArray} }
   rw[strsFrom_eq]
   exact fin (numbered s.toks _) _ ((numbered_texts _ _).trans es.symm)
  ·exact Bv CC (BL _ _ _) Cv (Ch _ _) (meets_str_split_not_found a b t t1 h1 hb hf) (fin [(a,t)] s.toks ((Q6 (ne_true_of_eq_false h1)).trans (Q5 hf)).symm)
 ·exact Bv CC (BL _ _ _) Cv (Ch _ _) (meets_str_split_cannot_occur a b t t1 h1) (fin [(a,t)] s.toks (Q5 h1).symm)
end
abbrev lh(h:Heap)(l1:Addr):Heap:=h.push {cls:=.type "tuple_iterator",data:=.fields #[.ref l1,.int 0 0]}
abbrev lA(h:Heap)(l1 l2:Addr):Heap:=(lh h l1).push {cls:=.type "list_iterator",data:=.fields #[.ref l2,.int 0 0]}
abbrev lX(h:Heap)(l1 l2:Addr):Heap:=(lA h l1 l2).push {cls:=.type "tuple",data:=.seq #[.ref h.objs.size,.ref (lh h l1).objs.size]}
abbrev mm(h:Heap)(l1 l2:Addr):Heap:=(lX h l1 l2).push {cls:=.type "tuple",data:=.seq #[.none,.none]}
abbrev gc(h:Heap)(l1 l2:Addr):Heap:=(mm h l1 l2).push {cls:=.type "zip",data:=.fields #[.none,.bool false,.bool false,.ref (lA h l1 l2).objs.size,.ref (lX h l1 l2).objs.size]}
section
variable{prog:υ}{w:Μ}{A:Ρ}{E:δ->θ->Prop}{s:θ}
theorem qH{z TI TO i1 i2 l1 l2:Addr}{k1 k2:Nat}{xs ys:Array δ}{x y a b:δ}{Q:δ->θ->Prop}(D:y9 z TI TO i1 i2 l1 l2)(hz:m7 s.heap z TI TO .none)(hTI:ϧ s.heap TI (.ref i1) (.ref i2))(hTO:ϧ s.heap TO a b)
  (h1:s.heap.IsTupleIter i1 l1 k1) (h2:s.heap.IsListIter i2 l2 k2) (hl1:s.heap.IsTuple l1 xs) (hl2:s.heap.IsList l2 ys) (hx:xs[k1]?=some x) (hy:ys[k2]?=some y)
  (hQ:∀h',m7 h' z TI TO (rawInt s.heap.objs.size)->ϧ h' TO x y->h'.IsTupleIter i1 l1 (k1+1)->h'.IsListIter i2 l2 (k2+1)->ϧ h' s.heap.objs.size x y->(∀c o,c≠z->c≠TO->c≠i1->c≠i2->s.heap.get? c=some o->h'.get? c=some o)->Q (.ref s.heap.objs.size) {s with heap:=h'}):
  wpAny (model prog w) A (o8.«zip.__next__» ⟨[.ref z],[]⟩) (λfin s'=>∃v,fin=.done (.ret v)/\Q v s') E s:=by
 show wpAny _ _ (field (.ref z) 2>>=_) _ _ _;refine ε (Ϝ hz rfl (x:=.bool false) rfl ?_)
 show wpAny _ _ (field (.ref z) 3>>=_) _ _ _;refine ε (Ϝ hz rfl (x:=.ref TI) rfl ?_);refine ε (ϰ hTI rfl ?_)
 show wpAny _ _ (ώ (.ref z)>>=_) _ _ _;refine ε ?_;unfold ώ
 refine ε (Ϝ hz rfl (x:=.none) rfl (ρ ?_));simp only[if_true];refine ε (Cd ?_)
 refine ε (Ϝ hz rfl (x:=.ref TO) rfl ?_);refine ε (ϣ hz () λg1 z1 c1=>?_)
 replace z1:m7 g1 z TI TO .ellipsis:=z1
 refine ε ?_;simp only[BN,BX,A9,Cg];refine ε (ε (q_ ?_))
 show wpAny _ _ (ύ (.ref i1)>>=_) _ _ _;refine ε (bi (h1.extBut c1.extBut D.i1z) (hl1.extBut c1.extBut D.l1z) hx λg2 it2 c2=>ρ ?_)
 have t2:ϧ g2 TO a b:=c2.extBut _ _ D.TOi1 (c1.extBut _ _ D.TOz hTO)
 refine ε (ϰ t2 rfl ?_);refine ε (j0 t2 λg3 t3 c3=>?_)
 replace t3:ϧ g3 TO x b:=t3
 refine ε (BQ (ρ ?_));refine ε (ε (q_ ?_))
 show wpAny _ _ (ύ (.ref i2)>>=_) _ _ _;refine ε (wpAny_nextOf_list_item (((h2.extBut c1.extBut D.i2z).extBut c2.extBut D.i12.symm).extBut c3.extBut D.TOi2.symm) (((hl2.extBut c1.extBut D.l2z).extBut c2.extBut D.l2i1).extBut c3.extBut D.l2TO) hy λg4 it4 c4=>ρ ?_)
 have t4:ϧ g4 TO x b:=c4.extBut _ _ D.TOi2 t3
 refine ε (ϰ t4 rfl ?_);refine ε (j0 t4 λg5 t5 c5=>?_)
 replace t5:ϧ g5 TO x y:=t5
 refine ε (BQ (ρ (ρ ?_)));refine ε (ϰ t5 rfl ?_);refine ε (CS ?_)
 have sz:g5.objs.size=s.heap.objs.size:=by rw[c5.1,c4.1,c3.1,c2.1,c1.1]
 have z5:m7 g5 z TI TO .ellipsis:=c5.extBut _ _ D.TOz.symm (c4.extBut _ _ D.i2z.symm (c3.extBut _ _ D.TOz.symm (c2.extBut _ _ D.i1z.symm z1)))
 have k5:∀c o,c≠z->c≠TO->c≠i1->c≠i2->s.heap.get? c=some o->g5.get? c=some o:=λc o d1 d2 d3 d4 e=>c5.extBut _ _ d2 (c4.extBut _ _ d4 (c3.extBut _ _ d2 (c2.extBut _ _ d3 (c1.extBut _ _ d1 e))))
 have j1:g5.IsTupleIter i1 l1 (k1+1):=((it2.extBut c3.extBut D.TOi1.symm).extBut c4.extBut D.i12).extBut c5.extBut D.TOi1.symm
 have j2:g5.IsListIter i2 l2 (k2+1):=it4.extBut c5.extBut D.TOi2.symm
 have zlt:z<g5.objs.size:=Β z5
 show wpAny _ _ (a_ (.ref z) (.ref g5.objs.size)>>=_) _ _ _;refine ε ?_;unfold a_
 have z6:m7 (g5.push {cls:=.type "tuple",data:=.seq #[x,y]}) z TI TO .ellipsis:=ο _ z5
 refine ε (ϣ z6 () λg7 z7 c7=>?_)
 replace z7:m7 g7 z TI TO (rawInt g5.objs.size):=z7
 refine ϣ z7 () λg8 z8 c8=>?_
 replace z8:m7 g8 z TI TO (rawInt g5.objs.size):=z8
 have up:∀c o,c≠z->g5.get? c=some o->g8.get? c=some o:=λc o d1 e=>c8.extBut _ _ d1 (c7.extBut _ _ d1 (ο _ e))
 have p8:ϧ g8 g5.objs.size x y:=c8.extBut _ _ (u8 zlt) (c7.extBut _ _ (u8 zlt) (Δ _ rfl))
 rw[sz]at z8 p8
 refine ρ ⟨_,rfl,?_⟩
 show Q (.ref g5.objs.size) _;rw[sz]
 exact hQ g8 z8 (up _ _ D.TOz t5) (j1.at λo e=>up _ o D.i1z e) (j2.at λo e=>up _ o D.i2z e) p8 λc o d1 d2 d3 d4 e=>up c o d1 (k5 c o d1 d2 d3 d4 e)
theorem ua{z TI TO i1 i2 l1 l2:Addr}{k1 k2:Nat}{xs ys:Array δ}{a b:δ}{Q:Fin->θ->Prop}(hh:A.handled=none)(D:y9 z TI TO i1 i2 l1 l2)(hz:m7 s.heap z TI TO .none)(hTI:ϧ s.heap TI (.ref i1) (.ref i2))(hTO:ϧ s.heap TO a b)
  (h1:s.heap.IsTupleIter i1 l1 k1) (h2:s.heap.IsListIter i2 l2 k2) (hl1:s.heap.IsTuple l1 xs) (hl2:s.heap.IsList l2 ys) (hend:xs[k1]?=none\/ys[k2]?=none)
  (hE:∀h' e,(∀c o,c≠z->c≠TO->c≠i1->c≠i2->s.heap.get? c=some o->h'.get? c=some o)->(∃o,h'.get? e=some o/\o.cls=.type "StopIteration")->E (.ref e) {s with heap:=h'}):wpAny (model prog w) A (o8.«zip.__next__» ⟨[.ref z],[]⟩) Q E s:=by
 show wpAny _ _ (field (.ref z) 2>>=_) _ _ _;refine ε (Ϝ hz rfl (x:=.bool false) rfl ?_)
 show wpAny _ _ (field (.ref z) 3>>=_) _ _ _;refine ε (Ϝ hz rfl (x:=.ref TI) rfl ?_);refine ε (ϰ hTI rfl ?_)
 show wpAny _ _ (ώ (.ref z)>>=_) _ _ _;refine ε ?_;unfold ώ
 refine ε (Ϝ hz rfl (x:=.none) rfl (ρ ?_));simp only[if_true];refine ε (Cd ?_)
 refine ε (Ϝ hz rfl (x:=.ref TO) rfl ?_);refine ε (ϣ hz () λg1 z1 c1=>?_)
 replace z1:m7 g1 z TI TO .ellipsis:=z1
 refine ε ?_;simp only[BN,BX,A9,Cg];refine ε (ε (q_ ?_))
 show wpAny _ _ (ύ (.ref i1)>>=_) _ _ _
 cases hx:xs[k1]? with
 |none=>
  refine ε (cK hh (h1.extBut c1.extBut D.i1z) (hl1.extBut c1.extBut D.l1z) hx λg2 e c2 ⟨oe,hoe,hce⟩=>?_)
  have z2:m7 g2 z TI TO .ellipsis:=c2 _ _ D.i1z.symm z1
  have ez:e≠z:=λq=>by subst q;rw[z2]at hoe;cases hoe;simp at hce
  exact ϣ z2 () λg3 _ c3=>hE g3 e (λc o d1 _ d3 _ q=>c3.extBut _ _ d1 (c2 _ _ d3 (c1.extBut _ _ d1 q))) ⟨oe,c3.extBut _ _ ez hoe,hce⟩
 |some x=>
  have hy:ys[k2]?=none:=hend.resolve_left (by rw[hx];exact nofun)
  refine ε (bi (h1.extBut c1.extBut D.i1z) (hl1.extBut c1.extBut D.l1z) hx λg2 it2 c2=>ρ ?_)
  have t2:ϧ g2 TO a b:=c2.extBut _ _ D.TOi1 (c1.extBut _ _ D.TOz hTO)
  refine ε (ϰ t2 rfl ?_);refine ε (j0 t2 λg3 t3 c3=>?_)
  refine ε (BQ (ρ ?_));refine ε (ε (q_ ?_))
  show wpAny _ _ (ύ (.ref i2)>>=_) _ _ _;refine ε (wpAny_nextOf_list_end hh (((h2.extBut c1.extBut D.i2z).extBut c2.extBut D.i12.symm).extBut c3.extBut D.TOi2.symm) (((hl2.extBut c1.extBut D.l2z).extBut c2.extBut D.l2i1).extBut c3.extBut D.l2TO) hy λg4 e c4 ⟨oe,hoe,hce⟩=>?_)
  have z4:m7 g4 z TI TO .ellipsis:=c4 _ _ D.i2z.symm (c3.extBut _ _ D.TOz.symm (c2.extBut _ _ D.i1z.symm z1))
  have ez:e≠z:=λq=>by subst q;rw[z4]at hoe;cases hoe;simp at hce
  exact ϣ z4 () λg5 _ c5=>hE g5 e (λc o d1 d2 d3 d4 q=>c5.extBut _ _ d1 (c4 _ _ d4 (c3.extBut _ _ d2 (c2.extBut _ _ d3 (c1.extBut _ _ d1 q))))) ⟨oe,c5.extBut _ _ ez hoe,hce⟩
theorem mL{z TI TO i1 i2 l1 l2:Addr}{k1 k2:Nat}{xs ys:Array δ}{x y a b:δ}{Q:Option δ->θ->Prop}(D:y9 z TI TO i1 i2 l1 l2)(hz:m7 s.heap z TI TO .none)(hTI:ϧ s.heap TI (.ref i1) (.ref i2))(hTO:ϧ s.heap TO a b)
  (h1:s.heap.IsTupleIter i1 l1 k1) (h2:s.heap.IsListIter i2 l2 k2) (hl1:s.heap.IsTuple l1 xs) (hl2:s.heap.IsList l2 ys) (hx:xs[k1]?=some x) (hy:ys[k2]?=some y)
  (hQ:∀h',m7 h' z TI TO (rawInt s.heap.objs.size)->ϧ h' TO x y->h'.IsTupleIter i1 l1 (k1+1)->h'.IsListIter i2 l2 (k2+1)->ϧ h' s.heap.objs.size x y->(∀c o,c≠z->c≠TO->c≠i1->c≠i2->s.heap.get? c=some o->h'.get? c=some o)->Q (some (.ref s.heap.objs.size)) {s with heap:=h'}):
  wpAny (model prog w) A (pyNext (.ref z)) Q E s:=by
 have hT:s.TypeIs (.ref z) "zip":=⟨_,hz,rfl⟩;unfold pyNext
 exact ε (Cy (Ϯ (name:=γ "__next__") hT j7 (Ϲ j7 hT BO (qH D hz hTI hTO h1 h2 hl1 hl2 hx hy λh' a1 a2 a3 a4 a5 a6=>ρ (hQ h' a1 a2 a3 a4 a5 a6)) (BE _))))
theorem pX{z TI TO i1 i2 l1 l2:Addr}{k1 k2:Nat}{xs ys:Array δ}{a b:δ}{Q:Option δ->θ->Prop}(hh:A.handled=none)(D:y9 z TI TO i1 i2 l1 l2)(hz:m7 s.heap z TI TO .none)(hTI:ϧ s.heap TI (.ref i1) (.ref i2))(hTO:ϧ s.heap TO a b)
  (h1:s.heap.IsTupleIter i1 l1 k1) (h2:s.heap.IsListIter i2 l2 k2) (hl1:s.heap.IsTuple l1 xs) (hl2:s.heap.IsList l2 ys) (hend:xs[k1]?=none\/ys[k2]?=none)
  (hQ:∀h',(∀c o,c≠z->c≠TO->c≠i1->c≠i2->s.heap.get? c=some o->h'.get? c=some o)->Q none {s with heap:=h'}):wpAny (model prog w) A (pyNext (.ref z)) Q E s:=by
 have hT:s.TypeIs (.ref z) "zip":=⟨_,hz,rfl⟩;unfold pyNext
 refine ε (Cy (Ϯ (name:=γ "__next__") hT j7 (Ϲ j7 hT BO (ua hh D hz hTI hTO h1 h2 hl1 hl2 hend λh' e hk ⟨o,ho,hc⟩=>?_) (BE _))))
 exact ε (wpAny_isInstance (T:="StopIteration") (b:=true) ⟨o,ho,hc⟩ isSubtype_stop (ρ (hQ _ hk)))
theorem nq(l1 l2:Addr)(xs ys:Array δ)(n':Nat)(dct':Option Addr)(slt':Array (Option δ)):
  Meets (o8.«zip.__new__» ⟨[.type "zip",.ref l1,.ref l2],[]⟩) (λ_ R s=>s.heap.get? l1=some {cls:=.type "tuple",dict:=dct',data:=.seq xs n',slots:=slt'}/\s.heap.IsList l2 ys /\
   R (.ok (.ret (.ref (mm s.heap l1 l2).objs.size))) {s with heap:=gc s.heap l1 l2}):=
 .of_wp λprog w A R s h=>by
  obtain⟨hp,g,d,tk,os⟩:=s;obtain⟨hl1,hl2,h⟩:=h
  have hsub:=sub_zip
  have hL1:Heap.IsTuple (CT ⟨hp,g,d,tk,os⟩) l1 xs:=⟨_,hl1,rfl,n',rfl⟩
  have hL2:Heap.IsList (CT ⟨hp.push {cls:=.type "tuple_iterator",data:=.fields #[.ref l1,.int 0 0]},g,d,tk,os⟩) l2 ys:=let ⟨o,ho,r⟩:=hl2;⟨o,ο _ ho,r⟩
  wp_walk using Bs hL1,Cq hL2,i_ hl1
  exact⟨_,rfl,h⟩
theorem qc{l1 l2:Addr}{xs ys:Array δ}{Q:δ->θ->Prop}(hl1:s.heap.IsTuple l1 xs)(hl2:s.heap.IsList l2 ys)
  (h:∀h',m7 h' (s.heap.objs.size+4) (s.heap.objs.size+2) (s.heap.objs.size+3) .none->ϧ h' (s.heap.objs.size+2) (.ref s.heap.objs.size) (.ref (s.heap.objs.size+1))->ϧ h' (s.heap.objs.size+3) .none .none->h'.IsTupleIter s.heap.objs.size l1 0->h'.IsListIter (s.heap.objs.size+1) l2 0 ->
   (∀c o,s.heap.get? c=some o->h'.get? c=some o)->Q (.ref (s.heap.objs.size+4)) {s with heap:=h'}):wpAny (model prog w) A (call (.type "zip") [.ref l1,.ref l2]) Q E s:=by
 obtain⟨⟨c',dct',dt',sl'⟩,hl',hc',n',hd'⟩:=hl1
 replace hc':c'=.type "tuple":=hc'
 replace hd':dt'=.seq xs n':=hd'
 subst hc' hd'
 refine callType_new F.called_zip () (F.typeCall_zip_2 _ _) (F.newCall_zip_2 _ _) (λobj=>F.args_object_init_3 obj _ _) F.entry_zip_new (nq l1 l2 xs ys n' dct' sl') ⟨hl',hl2,?_⟩
 have y1:(lh s.heap l1).objs.size=s.heap.objs.size+1:=d_ ..
 have y2:(lA s.heap l1 l2).objs.size=s.heap.objs.size+2:=by rw[d_,y1]
 have y3:(lX s.heap l1 l2).objs.size=s.heap.objs.size+3:=by rw[d_,y2]
 have y4:(mm s.heap l1 l2).objs.size=s.heap.objs.size+4:=by rw[d_,y3]
 have up:∀{h:Heap}{o:Obj}{c:Addr}{p:Obj},h.get? c=some p->(h.push o).get? c=some p:=λq=>ο _ q
 have v5:(gc s.heap l1 l2).get? (mm s.heap l1 l2).objs.size=some _:=Δ _ rfl
 have v4:(gc s.heap l1 l2).get? (lX s.heap l1 l2).objs.size=some _:=up (Δ _ rfl)
 have v3:(gc s.heap l1 l2).get? (lA s.heap l1 l2).objs.size=some _:=up (up (Δ _ rfl))
 have v2:(gc s.heap l1 l2).get? (lh s.heap l1).objs.size=some _:=up (up (up (Δ _ rfl)))
 have v1:(gc s.heap l1 l2).get? s.heap.objs.size=some _:=up (up (up (up (Δ _ rfl))))
 show _/\_
 rw[y2,y3,y4]at v5
 rw[y1,y2]at v3
 rw[y3]at v4
 rw[y1]at v2
 rw[y4]
 exact⟨⟨_,v5,rfl⟩,h _ v5 v3 v4 ⟨_,v1,rfl,rfl⟩ ⟨_,v2,rfl,rfl⟩ λc o q=>up (up (up (up (up q))))⟩
end
def rW(K:ζ)(a b:Addr):It:=
 ⟨λi H=>∃xs ys x y,SqT K H a xs/\SqL K H b ys/\xs[i]?=some x/\ys[i]?=some y,λi H z H'=>∃p x y,H p=none/\H'=upd H p (.tup [x,y])/\z=.ref p/\(∀xs,SqT K H a xs->xs[i]?=some x)/\∀ys,SqL K H b ys->ys[i]?=some y,
 λi H=>∃xs ys,SqT K H a xs/\SqL K H b ys/\(xs.length<=i\/ys.length<=i)⟩
theorem qp{P:υ}{w:Μ}{K:ζ}{elts:List Expr}{x1}{tp:Pos}(a b z TI TO i1 i2:Addr)(D1:TI≠z/\TO≠z/\i1≠z/\i2≠z/\TI≠TO/\TI≠i1/\TI≠i2/\TO≠i1/\TO≠i2/\i1≠i2)(D2:a≠TO):
  jR P w K (.Tuple elts x1 tp) (rW K a b) [z,TI,TO,i1,i2] z (λi h=>m7 h z TI TO .none/\ϧ h TI (.ref i1) (.ref i2)/\(∃u v,ϧ h TO u v)/\h.IsTupleIter i1 a i/\h.IsListIter i2 b i) where
 mem:=by simp
 obj:=λi h st c hc=>by
  obtain⟨hz,hTI,⟨u,v,hTO⟩,⟨o1,e1,c1,d1⟩,⟨o2,e2,c2,d2⟩⟩:=st
  simp only[ν,a8,or_false]at hc
  rcases hc with rfl|rfl|rfl|rfl|rfl
  ·exact⟨_,hz,λv z=>by
    have z':Data.fields _=B3 v:=z
    cases z'⟩
  ·exact⟨_,hTI,λv z=>by
    have z':C4 _ _=B3 v:=z
    cases z'⟩
  ·exact⟨_,hTO,λv z=>by
    have z':C4 _ _=B3 v:=z
    cases z'⟩
  ·exact⟨o1,e1,λv z=>by rw[d1]at z;cases z⟩
  ·exact⟨o2,e2,λv z=>by rw[d2]at z;cases z⟩
 keep:=λi h h' st k=>by
  obtain⟨hz,hTI,⟨u,v,hTO⟩,h1,h2⟩:=st
  exact⟨k z () _ hz,k TI () _ hTI,⟨u,v,k TO () _ hTO⟩,h1.at λo e=>k i1 () o e,h2.at λo e=>k i2 () o e⟩
 item:=by
  intro X hP hw hK hc i pins s σ H E I hf st hg
  subst hP hw hK
  obtain⟨xs,ys,x,y,hq1,hq2,hx,hy⟩:=hg
  obtain⟨its1,rv1,p1,_⟩:=I.tuple hq1
  obtain⟨its2,rv2,p2,_⟩:=I.list hq2
  obtain⟨u1,hu1,ru1⟩:=rv1.get hx
  obtain⟨u2,hu2,ru2⟩:=rv2.get hy
  obtain⟨hz,hTI,⟨u,v,hTO⟩,h1,h2⟩:=st
  obtain⟨d1,d2,d3,d4,d5,d6,d7,d8,d9,d10⟩:=D1
  have L1:s.heap.IsTuple a its1.toArray:=p1
  have L2:=p2.isList
  have D:y9 z TI TO i1 i2 a b:=by
   obtain⟨o1,e1,c1,_⟩:=id L1
   obtain⟨o2,e2,c2,_⟩:=id L2
   obtain⟨o3,e3,c3,_⟩:=id h1
   obtain⟨o4,e4,c4,_⟩:=id h2
   exact⟨d1,d2,d3,d4,d5,d6,d7,d8,d9,d10,aT e1 hz (by rw[c1];exactλz=>absurd (Φ z) ()),D2,aT e1 e3 (by rw[c1,c3];exactλz=>absurd (Φ z) ()),aT e1 e4 (by rw[c1,c4];exactλz=>absurd (Φ z) ()),
    aT e2 hz (by rw[c2];exactλz=>absurd (Φ z) ()),aT e2 hTO (by rw[c2];exactλz=>absurd (Φ z) ()),aT e2 e3 (by rw[c2,c3];exactλz=>absurd (Φ z) ()),aT e2 e4 (by rw[c2,c4];exactλz=>absurd (Φ z) ())⟩
  refine mL D hz hTI hTO h1 h2 L1 L2 (x:=u1) (y:=u2) (by simpa using hu1) (by simpa using hu2) λh3 a1 a2 a3 a4 a5 hk=>?_
  refine⟨_,rfl,Ck a1 λh4 hz4 hs4=>?_⟩
  have hzl:z<s.heap.objs.size:=Β hz
  have hn:H s.heap.objs.size=none:=I.hok.fresh (π _)
  have keep:∀c o,c≠z->c≠TO->c≠i1->c≠i2->s.heap.get? c=some o->h4.get? c=some o:=λc o c1 c2 c3 c4 q=>(hs4.2 c c1).trans (hk c o c1 c2 c3 c4 q)
  have tup:h4.get? s.heap.objs.size=some {cls:=.type "tuple",data:=.seq #[u1,u2]}:=(hs4.2 _ (ngt hzl)).trans a5
  have fpn:∀c∈[z,TI,TO,i1,i2],H c=none:=λc hc=>(hf c hc).1
  have nit:∀c v,H c=some v->c≠z/\c≠TO/\c≠i1/\c≠i2:=λc v q=>⟨(λe=>by rw[e,fpn z ()]at q;cases q),(λe=>by rw[e,fpn TO ()]at q;cases q),(λe=>by rw[e,fpn i1 ()]at q;cases q),(λe=>by rw[e,fpn i2 ()]at q;cases q)⟩
  have kch:∀c o,c∉[z,TO,i1,i2]->s.heap.get? c=some o->h4.get? c=some o:=λc o hc q=>keep c o (λe=>hc (by simp[e])) (λe=>hc (by simp[e])) (λe=>hc (by simp[e])) (λe=>hc (by simp[e])) q
  have I2:Inv X pins σ (upd H s.heap.objs.size (.tup [x,y])) {s with heap:=h4,toks:=s.toks}:=by
   refine I.step (g':=s.gens) (d':=s.drawn) (ch:=[z,TO,i1,i2]) (λc hc=>?_) (λc o _ _ hc' q _=>kch c o hc' q) (λc o _ _ hc' q _=>⟨o.slots,kch c o hc' q⟩) (λc o _ q n=>by rw[aq (nlt (Β q))];exact n) (λc o hc' q=>⟨o,kch c o hc' q⟩)
    (λc xs q=>by rw[aq (aj q hn)];exact q) (λc o v q=>by rw[aq (aj q hn)];exact q) (λc ps q=>⟨#[],by rw[aq (aj q hn),q];simp⟩) (λm hm=>?_) (λc v q=>?_) I.bare
   ·have hc':c∈[z,TI,TO,i1,i2]:=by
     simp only[ν,a8,or_false]at hc⊢
     rcases hc with e|e|e|e<;>simp[e]
    obtain⟨f0,f1,f2,f3,f4,f5⟩:=hf c hc'
    exact⟨f3,f1,f4,f5⟩
   ·obtain⟨o,es,ep,ho,r⟩:=hm
    exact⟨o,es,ep,keep _ o (ϒ (hf z ()).2.1) (ϒ (hf TO ()).2.1) (ϒ (hf i1 ()).2.1) (ϒ (hf i2 ()).2.1) ho,r⟩
   ·by_cases hb:c=s.heap.objs.size
    ·subst hb
     rw[aa]at q
     cases q
     exact⟨(show 2<=sizeLine by rw[ι];decide),[u1,u2],.cons ru1 (.cons ru2 .nil),⟨_,tup,rfl,0,rfl⟩,_,tup,rfl⟩
    ·rw[aq hb]at q
     refine(I.hok c v q).stay (λc' w' hc' q'=>?_) (λc' q'=>by rw[aq (aj q' hn)];exact q') λc' xs q'=>by rw[aq (aj q' hn)];exact q'
     rcases hc' with e|e
     ·subst e;obtain⟨n1,n2,n3,n4⟩:=nit c' v q;exact keep c' w' n1 n2 n3 n4 q'
     ·obtain⟨n1,n2,n3,n4⟩:=nit c' _ e;exact keep c' w' n1 n2 n3 n4 q'
  refine⟨.ref s.heap.objs.size,_,I2,rfl,⟨_,x,y,hn,rfl,rfl,λxs' h'=>by rw[I.tuple_inj h' hq1];exact hx,λys' h'=>by rw[I.list_inj h' hq2];exact hy⟩,?_,λc hc=>?_⟩
  ·exact⟨hz4,hs4.extBut _ _ d1 (hk TI _ d1 d5 d6 d7 hTI),⟨_,_,hs4.extBut _ _ d2 a2⟩,a3.at λo e=>hs4.extBut _ _ d3 e,a4.at λo e=>hs4.extBut _ _ d4 e⟩
  ·have hb':c<s.heap.objs.size:=by
    simp only[ν,a8,or_false]at hc
    obtain⟨o3,e3,_⟩:=h1
    obtain⟨o4,e4,_⟩:=h2
    rcases hc with e|e|e|e|e
    ·rw[e];exact hzl
    ·rw[e];exact Β hTI
    ·rw[e];exact Β hTO
    ·rw[e];exact Β e3
    ·rw[e];exact Β e4
   rw[aq (nlt hb')]
   exact fpn c hc
 done:=by
  intro X hP hw hK hc i pins s σ H E I hf st hg
  subst hP hw hK
  obtain⟨xs,ys,hq1,hq2,hend⟩:=hg
  obtain⟨its1,rv1,p1,_⟩:=I.tuple hq1
  obtain⟨its2,rv2,p2,_⟩:=I.list hq2
  obtain⟨hz,hTI,⟨u,v,hTO⟩,h1,h2⟩:=st
  obtain⟨d1,d2,d3,d4,d5,d6,d7,d8,d9,d10⟩:=D1
  have L1:s.heap.IsTuple a its1.toArray:=p1
  have L2:=p2.isList
  have D:y9 z TI TO i1 i2 a b:=by
   obtain⟨o1,e1,c1,_⟩:=id L1
   obtain⟨o2,e2,c2,_⟩:=id L2
   obtain⟨o3,e3,c3,_⟩:=id h1
   obtain⟨o4,e4,c4,_⟩:=id h2
   exact⟨d1,d2,d3,d4,d5,d6,d7,d8,d9,d10,aT e1 hz (by rw[c1];exactλz=>absurd (Φ z) ()),D2,aT e1 e3 (by rw[c1,c3];exactλz=>absurd (Φ z) ()),aT e1 e4 (by rw[c1,c4];exactλz=>absurd (Φ z) ()),
    aT e2 hz (by rw[c2];exactλz=>absurd (Φ z) ()),aT e2 hTO (by rw[c2];exactλz=>absurd (Φ z) ()),aT e2 e3 (by rw[c2,c3];exactλz=>absurd (Φ z) ()),aT e2 e4 (by rw[c2,c4];exactλz=>absurd (Φ z) ())⟩
  have l1:=rv1.length
  have l2:=rv2.length
  have fpn:∀c∈[z,TI,TO,i1,i2],H c=none:=λc hc=>(hf c hc).1
  refine pX (I.ok.hd hc) D hz hTI hTO h1 h2 L1 L2 (hend.imp (λh=>by simp;omega) λh=>by simp;omega) λh4 hk=>⟨rfl,?_⟩
  have nit:∀c v,H c=some v->c≠z/\c≠TO/\c≠i1/\c≠i2:=λc v q=>⟨(λe=>by rw[e,fpn z ()]at q;cases q),(λe=>by rw[e,fpn TO ()]at q;cases q),(λe=>by rw[e,fpn i1 ()]at q;cases q),(λe=>by rw[e,fpn i2 ()]at q;cases q)⟩
  have kch:∀c o,c∉[z,TO,i1,i2]->s.heap.get? c=some o->h4.get? c=some o:=λc o hc q=>hk c o (λe=>hc (by simp[e])) (λe=>hc (by simp[e])) (λe=>hc (by simp[e])) (λe=>hc (by simp[e])) q
  refine I.step (t':=s.toks) (g':=s.gens) (d':=s.drawn) (ch:=[z,TO,i1,i2]) (λc hc=>?_) (λc o _ _ hc' q _=>kch c o hc' q) (λc o _ _ hc' q _=>⟨o.slots,kch c o hc' q⟩) (λc o _ q n=>n) (λc o hc' q=>⟨o,kch c o hc' q⟩)
   (λc xs q=>q) (λc o v q=>q) (λc ps q=>⟨#[],by rw[q];simp⟩) (λm hm=>?_) (λc v q=>?_) I.bare
  ·have hc':c∈[z,TI,TO,i1,i2]:=by
    simp only[ν,a8,or_false]at hc⊢
    rcases hc with e|e|e|e<;>simp[e]
   obtain⟨f0,f1,f2,f3,f4,f5⟩:=hf c hc'
   exact⟨f3,f1,f4,f5⟩
  ·obtain⟨o,es,ep,ho,r⟩:=hm
   exact⟨o,es,ep,hk _ o (ϒ (hf z ()).2.1) (ϒ (hf TO ()).2.1) (ϒ (hf i1 ()).2.1) (ϒ (hf i2 ()).2.1) ho,r⟩
  ·refine(I.hok c v q).stay (λc' w' hc' q'=>?_) (λc' q'=>q') λc' xs q'=>q'
   rcases hc' with e|e
   ·subst e;obtain⟨n1,n2,n3,n4⟩:=nit c' v q;exact hk c' w' n1 n2 n3 n4 q'
   ·obtain⟨n1,n2,n3,n4⟩:=nit c' _ e;exact hk c' w' n1 n2 n3 n4 q'
 self:=λA i s Q E st h=>wpAny_pyIter_zip st.1 h
section
variable{X:Cx}
def zl(K:ζ)(ta:TA):TI:=λσ H R=>ta σ H λvs H1=>∃a b,vs=[.ref a,.ref b]/\(∃xs,SqT K H1 a xs)/\(∃ys,SqL K H1 b ys)/\R (rW K a b) H1
theorem uR{a b:Expr}{ta:TA}{p pos:Pos}{elts:List Expr}{x1}{tp:Pos}(hg:Gl X "zip")(hm:X.mg "zip"=none)(ha:PA X [a,b] ta)(hs:starEach [a,b] X.env=(false,eval a X.env)::starEach [b] X.env:=by rfl)(hpl:(backTo pos (starEach [b] X.env)).any (·.1)=false:=by rfl):
  PI X (.Tuple elts x1 tp) (.Call (.Name "zip" p) [a,b] [] pos) (zl X.K ta):=by
 intro pins s σ H R I h
 refine Call_ (gj I hg hm (u:=.type "zip") () (j9 (thn (ha pos pins s σ H _ I h) λus s1 ⟨vs,H1,I1,r1,q1⟩=>?_) hs hpl))
 obtain⟨l,m,e,⟨xs,hq1⟩,⟨ys,hq2⟩,q⟩:=q1
 subst e
 obtain⟨u,w',rfl,ru,rw'⟩:=nh r1
 cases ru
 cases rw'
 obtain⟨its1,rv1,p1,_⟩:=I1.tuple hq1
 obtain⟨its2,rv2,p2,_⟩:=I1.list hq2
 refine qc p1 p2.isList λh' hz hTI hTO hi1 hi2 kp=>?_
 have I2:Inv X pins σ H1 {s1 with heap:=h'}:=I1.kept (t':=s1.toks) kp
 have add:∀(n i j:Nat),i≠j->n+i≠n+j:=λn i j h z=>h (Nat.add_left_cancel z)
 have T:jR X.prog X.w X.K (.Tuple elts x1 tp) (rW X.K l m) [s1.heap.objs.size+4,s1.heap.objs.size+2,s1.heap.objs.size+3,s1.heap.objs.size,s1.heap.objs.size+1] (s1.heap.objs.size+4) _:=
  qp l m (s1.heap.objs.size+4) (s1.heap.objs.size+2) (s1.heap.objs.size+3) s1.heap.objs.size (s1.heap.objs.size+1)
   ⟨add _ 2 4 (),add _ 3 4 (),add _ 0 4 (),add _ 1 4 (),add _ 2 3 (),add _ 2 0 (),add _ 2 1 (),add _ 3 0 (),add _ 3 1 (),add _ 0 1 ()⟩ (Ϛ (CB 3 (pV p1)))
 refine T.self X.A 0 {s1 with heap:=h'} _ _ ⟨hz,hTI,⟨_,_,hTO⟩,hi1,hi2⟩ ?_
 refine⟨s1.heap.objs.size+4,_,_,_,H1,rfl,I2,T,⟨hz,hTI,⟨_,_,hTO⟩,hi1,hi2⟩,λb hb=>?_,q⟩
 have hb':s1.heap.objs.size<=b:=by
  simp only[ν,a8,or_false]at hb
  rcases hb with e|e|e|e|e
  ·rw[e];exact Ϻ _ _
  ·rw[e];exact Ϻ _ _
  ·rw[e];exact Ϻ _ _
  ·rw[e];exact π _
  ·rw[e];exact Ϻ _ _
 obtain⟨f0,f1⟩:=I1.fpOk hb' (I1.hok.fresh hb')
 exact⟨f0,f1⟩
theorem vT{k:Nat}{ix:List Nat}{g:TG}{tt:TT}{te:TE}{σ:St}{H1:Hp}{Q:List V->Hp->Prop}{K:ζ}{a b:Addr}{xs ys:List V}(Pv:Nat->List V->Hp->Prop)(h0:Pv 0 [] H1)(hl:∀i zs H,Pv i zs H->SqT K H a xs/\SqL K H b ys)
  (hs:∀i zs H x y p,xs[i]?=some x->ys[i]?=some y->Pv i zs H->H p=none->de k ix g tt te σ (.ref p) zs (upd H p (.tup [x,y])) (Pv (i+1))) (hd:∀zs H,Pv (min xs.length ys.length) zs H->Q zs H):rLC (rW K a b) k ix g tt te σ H1 Q:=by
 refine oG (n:=min xs.length ys.length) Pv h0 (λi zs H h p=>?_) (λzs H p=>?_) (λi zs H x H' h p y=>?_) hd
 ·obtain⟨q1,q2⟩:=hl i zs H p
  exact⟨xs,ys,xs[i]'(),ys[i]'(),q1,q2,(),()⟩
 ·obtain⟨q1,q2⟩:=hl _ zs H p
  exact⟨xs,ys,q1,q2,()⟩
 ·obtain⟨q1,q2⟩:=hl i zs H p
  obtain⟨c,x',y',hb,e1,e2,hx,hy⟩:=y
  subst e1 e2
  exact hs i zs H x' y' c (hx xs q1) (hy ys q2) p hb
theorem uh(K:ζ)(h:X.K=K):cS X (.type "tuple") (λxs H Q=>∃p ys,xs=[.ref p]/\((SqL K H p ys/\∀l,H l=none->Q (.ref l) (upd H l (.tup ys)))\/(SqT K H p ys/\Q (.ref p) H))):=by subst h;exact aJ
theorem yw{o e:Expr}{es:List Expr}{to:TE}{t:TA}{name:Str}{apos cpos:Pos}{T id:String}{r:V->List V->Hp->VK->Prop}(K:ζ)(h:X.K=K)(pa:PlainAttrs T)(slot:Slot T name id)(hty:typeOf (.builtin id)=pure (.type "method_descriptor"))(hm:MtR X id r)(ho:PE X o to)(ha:PA X (e::es) t)
  (hbase:attributeBase o name X.env (eval o X.env)=eval o X.env:=by rfl)
  (hfew:((backTo cpos (starEach (e::es) X.env)).all (λx=>!x.1)&&(backToKw cpos (keywordEach [] X.env)).all (λx=>x.1.isSome)
   && decide ((e::es).length+([]:List Keyword).length+(if ([]:List Keyword).isEmpty then 0 else 1)<30))=true:=by rfl)
  (hline:(apos.endLine==cpos.line)=true:=by rfl) (hs:starEach (e::es) X.env=(false,eval e X.env)::starEach es X.env:=by rfl) (hplain:(backTo cpos (starEach es X.env)).any (·.1)=false:=by rfl):
  PE X (.Call (.Attribute o name apos) (e::es) [] cpos) (tBM K T r to t):=by
 subst h
 exact pe_bm pa slot hty hm ho ha hbase hfew hline hs hplain
theorem hU(x y:Str)(t u:Tok):Meets (o8.«str.count» ⟨[.str x t,.str y u],[]⟩) (λ_ R s=>(Made.int (Txt.count x y)).post (λv s'=>R (.ok (.ret v)) s') s):=
 λprog w A R s h=>gives_str_count x y t u prog w A R s h
theorem gl:MtR X "str.count" (λx xs H Q=>∃a b:Str,x=.str a/\xs=[.str b]/\Q (.int (Txt.count a b)) H):=by
 intro pins s σ H x xs v us Q I rx r h
 obtain⟨a,b,rfl,rfl,q⟩:=h
 obtain⟨t,rfl⟩:=rx
 obtain⟨u,rfl,t1,rfl⟩:=dG r
 refine Bv F.slot_str_count (BL _ _ _) F.entry_str_count (F.args_str_count_2 _ _) (hU a b t t1) ?_
 rw[Made.post]
 exact⟨.int _,H,I.tok _,⟨_,rfl⟩,q⟩
end
end L2
namespace XB
open PySem L2 KB
inductive So|n|x|l|k|w|f|y|e|a|r
deriving DecidableEq
def srt:So->Str
 |.n=>"number"
 |.x=>"name"
 |.l=>"length"
 |.k=>"kind"
 |.w=>"reckon"
 |.f=>"def"
 |.y=>"name"
 |.e=>"part"
 |.a=>"args"
 |.r=>"things"
abbrev Wd:=Str×Str×List So
def WT:List Wd:=[("number","n",[.n]),("name","x",[.x]),("length","l",[.l]),("none","k",[.k]),("place","ll",[.l,.l]),("reckon","wee",[.w,.e,.e]),
 ("if","eee",[.e,.e,.e]),("let","xee",[.x,.e,.e]),("call","fa",[.f,.a]),("pair","ee",[.e,.e]),("first","e",[.e]),("second","e",[.e]),
 ("row","r",[.r]),("join","ee",[.e,.e]),("take","le",[.l,.e]),("drop","le",[.l,.e]),("zip","ee",[.e,.e]),("turn","e",[.e]),
 ("get","ee",[.e,.e]),("value","e",[.e]),("up","le",[.l,.e]),("wide","le",[.l,.e]),("mirror","e",[.e]),("fork","lexee",[.l,.e,.x,.e,.e]),
 ("when","elxee",[.e,.l,.x,.e,.e]),("loop","xle",[.x,.l,.e]),("fold","xlyee",[.x,.l,.y,.e,.e])]
def ST:List Wd:=[("number","n",[.n]),("name","x",[.x]),("length","l",[.l]),("reckon","wee",[.w,.e,.e]),("if","eee",[.e,.e,.e]),("let","xee",[.x,.e,.e]),
 ("call","fa",[.f,.a]),("pair","ee",[.e,.e]),("first","e",[.e]),("second","e",[.e]),("row","r",[.r]),("none","k",[.k]),
 ("join","ee",[.e,.e]),("take","le",[.l,.e]),("drop","le",[.l,.e]),("zip","ee",[.e,.e]),("turn","e",[.e]),("get","ee",[.e,.e]),
 ("place","ll",[.l,.l]),("value","e",[.e]),("up","le",[.l,.e]),("wide","le",[.l,.e]),("mirror","e",[.e]),("fork","lexee",[.l,.e,.x,.e,.e]),
 ("when","elxee",[.e,.l,.x,.e,.e]),("loop","xle",[.x,.l,.e]),("fold","xlyee",[.x,.l,.y,.e,.e])]
theorem xR:∀p∈WT,p∈ST:=by decide +kernel
theorem xU:(ST.map (·.1)).Nodup:=by decide +kernel
theorem xH:(WT.map (·.1)).Nodup:=by decide +kernel
theorem zo:∀p∈ST,p.2.2.length<=5:=by decide +kernel
theorem cj:∀p∈WT,p.2.2.length<=5:=by decide +kernel
def gT(ss:List So):Nat:=(ss.map λ| .e=>1|.a=>4|.r=>4|_=>0).sum
theorem wt:∀p∈WT,gT p.2.2<=4:=by decide +kernel
theorem qN:∀s:So,V.str (srt s)=V.str "part"↔s=.e:=by
 intro s
 cases s<;>simp only[V.str.injEq,srt]<;>decide +kernel
theorem og:∀s:So,V.str (srt s)=V.str "args"↔s=.a:=by
 intro s
 cases s<;>simp only[V.str.injEq,srt]<;>decide +kernel
theorem oC:∀s:So,V.str (srt s)=V.str "things"↔s=.r:=by
 intro s
 cases s<;>simp only[V.str.injEq,srt]<;>decide +kernel
theorem ya:∀s:So,V.str (srt s)=V.str "number"↔s=.n:=by
 intro s
 cases s<;>simp only[V.str.injEq,srt]<;>decide +kernel
theorem kQ:∀s:So,V.str (srt s)=V.str "length"↔s=.l:=by
 intro s
 cases s<;>simp only[V.str.injEq,srt]<;>decide +kernel
theorem kz:∀s:So,V.str (srt s)=V.str "kind"↔s=.k:=by
 intro s
 cases s<;>simp only[V.str.injEq,srt]<;>decide +kernel
theorem xM:∀s:So,V.str (srt s)=V.str "reckon"↔s=.w:=by
 intro s
 cases s<;>simp only[V.str.injEq,srt]<;>decide +kernel
theorem yc:∀s:So,V.str (srt s)=V.str "def"↔s=.f:=by
 intro s
 cases s<;>simp only[V.str.injEq,srt]<;>decide +kernel
theorem pd:∀s:So,V.str (srt s)=V.str "name"↔(s=.x\/s=.y):=by
 intro s
 cases s<;>simp only[V.str.injEq,srt]<;>decide +kernel
theorem rN{α:Type}{l:List α}{f:α->Str}(hn:(l.map f).Nodup){p:α}(hp:p∈l):l.find? (λq=>decide (f q=f p))=some p:=by
 induction l with
 |nil=>cases hp
 |cons q l ih=>
  rw[Ο,n9]at hn
  rw[g_]
  rcases ν.mp hp with rfl|hp
  ·simp
  ·rw[show decide (f q=f p)=false from Q8 λe=>hn.1 (by rw[e];exact j8 hp)]
   exact ih hn.2 hp
structure Shp(P:υ)(w:Μ)(K:ζ)(g:Addr):Prop where
 ex:∃kvs,FD P w K g kvs/\(∀p∈WT,∃b,look kvs p.1=some b/\∀H,SqT K H b (p.2.2.map λs=>V.str (srt s)))/\∀x,(look kvs x).isSome=WT.any λp=>decide (p.1=x)
def ym:BJ->Str×Addr
 |⟨_,.str x _,.ref b⟩=>(x,b)
 |_=>("",0)
inductive Ents (w:Μ):List BJ->Prop
 |nil:Ents w []
 |cons {x:Str} {t:Tok} {b:Addr} {es:List BJ}:Ents w es->Ents w (⟨PyData.keyHash w.params x,.str x t,.ref b⟩::es)
inductive AreS:List δ->List Str->Prop
 |nil:AreS [] []
 |cons {x:Str} {t:Tok} {us:List δ} {xs:List Str}:AreS us xs->AreS (.str x t::us) (x::xs)
theorem AreS.vals{us:List δ}{xs:List Str}(h:AreS us xs):aD (xs.map V.str) us:=by
 induction h with
 |nil=>exact .nil
 | @cons x t us xs _ ih=>exact .cons ⟨t,rfl⟩ ih
inductive TupsK (K:ζ):List (Str×Addr)->List Wd->Prop
 |nil:TupsK K [] []
 |cons {x z:Str} {b:Addr} {kvs:List (Str×Addr)} {ss:List So} {ps:List Wd} {od:Option Addr} {its:List δ} {n:Nat} {sl:Array (Option δ)} :
  K.lookup b=some ⟨.type "tuple",od,.seq its.toArray n,sl⟩->AreS its (ss.map srt)->TupsK K kvs ps->TupsK K ((x,b)::kvs) ((x,z,ss)::ps)
theorem TupsK.keys{K:ζ}{kvs:List (Str×Addr)}{ps:List Wd}(h:TupsK K kvs ps):kvs.map (·.1)=ps.map (·.1):=by
 induction h with
 |nil=>rfl
 |cons _ _ _ ih=>rw[Ο,Ο,ih]
theorem TupsK.look{K:ζ}{kvs:List (Str×Addr)}{ps:List Wd}(h:TupsK K kvs ps)(hf:∀p∈ps,p.2.2.length<=5):(ps.map (·.1)).Nodup->∀p∈ps,∃b,L2.look kvs p.1=some b/\∀H,SqT K H b (p.2.2.map λs=>V.str (srt s)):=by
 induction h with
 |nil=>intro _ p hp;cases hp
 | @cons x z b kvs ss ps od its n sl hl ha _ ih=>
  intro hn p hp
  rw[Ο,n9]at hn
  unfold L2.look
  rw[g_]
  rcases ν.mp hp with rfl|hp'
  ·rw[Q9 rfl]
   refine⟨b,rfl,λH=>.inr ⟨_,_,_,hl,rfl,rfl,?_,?_⟩⟩
   ·have h5:ss.length<=5:=hf _ ξ
    have:=ha.vals.length
    rw[η,η]at this
    rw[Α,ι]
    omega
   ·have:=ha.vals
    rw[Ξ]at this
    exact this
  ·rw[Q8 (λe:x=p.1=>hn.1 (by rw[show(x,z,ss).1=p.1 from e];exact j8 (f:=(·.1)) hp'))]
   exact ih (λq hq=>hf q (χ _ hq)) hn.2 p hp'
theorem Ents.pairs{P:υ}{w:Μ}{es:List BJ}(h:Ents w es):Pairs (aP P w) es ((es.map ym).map λp=>((ϟ p.1:Key),Τ p.2)):=by
 induction h with
 |nil=>exact .nil
 | @cons x t b es _ ih=>exact .cons (dO P w x t) rfl ih
theorem Ents.keys{P:υ}{w:Μ}{es:List BJ}(h:Ents w es):∀e∈es,∃k,(aP P w).is k e.key=true/\e.hash=(aP P w).hash k:=by
 induction h with
 |nil=>intro e he;cases he
 | @cons x t b es _ ih=>
  intro e he
  rcases ν.mp he with rfl|he
  ·exact⟨ϟ x,dO P w x t,rfl⟩
  ·exact ih e he
theorem sQ(kvs:List (Str×Addr))(x:Str):(L2.look kvs x).isSome=(kvs.map (·.1)).any λy=>decide (y=x):=by
 unfold L2.look
 rw[BB]
 induction kvs with
 |nil=>rfl
 |cons p kvs ih=>
  rw[g_,Ο,A5]
  by_cases h:p.1=x
  ·rw[Q9 h];rfl
  ·rw[Q8 h,Cw];exact ih
theorem Av:∀p∈ST,p∈WT:=by decide +kernel
theorem yO(x:Str):(ST.map (·.1)).any (λy=>decide (y=x))=WT.any λp=>decide (p.1=x):=by
 rw[j6,a7,a7]
 constructor
 ·rintro⟨y,hy,h⟩
  obtain⟨p,hp,rfl⟩:=ϥ.mp hy
  exact⟨p,Av p hp,h⟩
 ·rintro⟨p,hp,h⟩
  exact⟨p.1,j8 (xR p hp),h⟩
theorem shp_mk{P:υ}{w:Μ}{K:ζ}{g:Addr}{es:List BJ}{ep:Nat}(hl:K.lookup g=some ⟨.type "dict",none,.dict es.toArray ep,#[]⟩)(lo:(g==sysModules)=false)(he:Ents w es)(ht:TupsK K (es.map ym) ST):Shp P w K g:=by
 refine⟨es.map ym,⟨by rw[ht.keys];exact xU,lo,_,_,_,hl,⟨rfl,rfl,rfl⟩,rfl,λe hm=>he.keys e (by simpa using hm),by simpa using he.pairs⟩,λp hp=>ht.look zo xU p (xR p hp),λx=>by rw[sQ,ht.keys,yO]⟩
inductive F2 (R:So->Dv->Prop):List So->List Dv->Prop
 |nil:F2 R [] []
 |cons {s:So} {d:Dv} {ss:List So} {ds:List Dv}:R s d->F2 R ss ds->F2 R (s::ss) (d::ds)
theorem F2.length{R:So->Dv->Prop}{ss:List So}{ds:List Dv}(h:F2 R ss ds):ds.length=ss.length:=by
 induction h with
 |nil=>rfl
 |cons _ _ ih=>rw[ω,ω,ih]
theorem F2.get{R:So->Dv->Prop}{ss:List So}{ds:List Dv}(h:F2 R ss ds){i:Nat}{s:So}(hs:ss[i]?=some s):∃d,ds[i]?=some d/\R s d:=by
 induction h generalizing i with
 |nil=>cases hs
 |cons h _ ih=>
  cases i with
  |zero=>cases hs;exact⟨_,rfl,h⟩
  |succ i=>exact ih hs
def Fld(E:Dv->Prop)(L:So->Dv->Prop):So->Dv->Prop
 |.e,d=>E d
 |.a,d=>∃es,d=.tup es/\es.length<=4/\∀e∈es,E e
 |.r,d=>∃es,d=.tup es/\1<=es.length/\es.length<=4/\∀e∈es,E e
 |s,d=>L s d
def vq:Dv->List Dv
 |.tup ds=>ds
 |_=>[]
def ptD:So->Dv->List Dv
 |.e,d=>[d]
 |.a,d=>vq d
 |.r,d=>vq d
 |_,_=>[]
def ba:List So->List Dv->List Dv
 |s::ss,d::ds=>ptD s d++ba ss ds
 |_,_=>[]
def xu(w:Str):List So:=match WT.find? (λq=>decide (q.1=w))with
 |some p=>p.2.2
 |none=>[]
theorem wG{p:Wd}(hp:p∈WT):xu p.1=p.2.2:=by unfold xu;rw[rN xH hp]
def cL:Dv->List Dv
 |.tup (.str w::ds)=>ba (xu w) ds
 |_=>[]
theorem parts_of{p:Wd}(hp:p∈WT)(ds:List Dv):cL (.tup (.str p.1::ds))=ba p.2.2 ds:=by
 show ba (xu p.1) ds=_
 rw[wG hp]
theorem wE{E:Dv->Prop}{L:So->Dv->Prop}{ss:List So}{ds:List Dv}(h:F2 (Fld E L) ss ds):(∀e∈ba ss ds,E e)/\(ba ss ds).length<=gT ss:=by
 induction h with
 |nil=>exact⟨λe he=>by simp[ba]at he,by simp[ba]⟩
 | @cons s d ss ds h _ ih=>
  obtain⟨i1,i2⟩:=ih
  have em:gT (s::ss)=gT [s]+gT ss:=by simp[gT]
  rw[em]
  have key:(∀e∈ptD s d,E e)/\(ptD s d).length<=gT [s]:=by
   cases s with
   |e=>exact⟨λe he=>by rw[μ.mp he];exact h,π _⟩
   |a=>obtain⟨es,rfl,h1,h2⟩:=h;exact⟨h2,h1⟩
   |r=>obtain⟨es,rfl,h0,h1,h2⟩:=h;exact⟨h2,h1⟩
   |_=>exact⟨λe he=>by simp[ptD]at he,by simp[ptD,gT]⟩
  show(∀e∈ptD s d++ba ss ds,E e)/\(ptD s d++ba ss ds).length<=_
  refine⟨λe he=>?_,by rw[Ζ];omega⟩
  rcases ϋ.mp he with he|he
  ·exact key.1 e he
  ·exact i1 e he
theorem kO(ss:List So)(ds:List Dv)(i:Nat){s:So}{d:Dv}(hs:ss[i]?=some s)(hd:ds[i]?=some d):ba (ss.take (i+1)) (ds.take (i+1))=ba (ss.take i) (ds.take i)++ptD s d:=by
 induction i generalizing ss ds with
 |zero=>
  cases ss with
  |nil=>cases hs
  |cons s' ss=>
   cases ds with
   |nil=>cases hd
   |cons d' ds=>cases hs;cases hd;simp[ba]
 |succ i ih=>
  cases ss with
  |nil=>cases hs
  |cons s' ss=>
   cases ds with
   |nil=>cases hd
   |cons d' ds=>
    simp only[List.take_succ_cons,ba]
    rw[ih ss ds hs hd,g0]
theorem ce(xs:List V)(n:Nat):bJ xs (some (n:Int)) none=xs.drop n:=by
 unfold bJ
 have e1:HT.sIx xs.length 0 (some (n:Int))=min n xs.length:=HT.sIx_nat _ _ _
 have e2:HT.sIx xs.length xs.length none=xs.length:=rfl
 rw[e1,e2]
 rcases Nat.le_total n xs.length with h|h
 ·rw[BY h,List.take_of_length_le (by rw[ϭ];exact π _)]
 ·rw[Nat.min_eq_right h,CI,List.take_zero,List.drop_of_length_le h]
theorem yJ{t1 t2:TT}{σ:St}{H:Hp}{Q:Bool->Hp->Prop}(q:Q true H)(f:Q true H->tOr t1 t2 σ H Q):tOr t1 t2 σ H Q:=f q
theorem eJ{K:ζ}{g:Addr}{us:List V}{lo hi:Option Int}{H:Hp}{Q:VK}(hg:H g=some (.tup us))(k:∀H' p,ai H H'->H' p=some (.tup (bJ us lo hi))->Q (.ref p) H'):zL K (.ref g) lo hi H Q:=
 ⟨g,us,rfl,SqT.of hg,λe=>k H g (ai.refl _) (by rw[e];exact hg),λp hp=>k _ p (ac hp _) aa⟩
def yX(d:Dv):Prop:=∃(p:Wd) (ds:List Dv),p∈WT/\d=.tup (.str p.1::ds)/\F2 (Fld (λ_=>True) (λ_ _=>True)) p.2.2 ds
theorem tF{H:Hp}{ds:List Dv}{vs:List V}(h:Reps H ds vs){i:Nat}{d:Dv}(hd:ds[i]?=some d):∃v,vs[i]?=some v/\Rep H d v:=by
 have l:=h.length
 have hi:i<vs.length:=by rw[l];exact(Θ.mp hd).1
 obtain⟨e,he,r⟩:=h.get (ς hi)
 rw[hd]at he
 cases he
 exact⟨_,ς hi,r⟩
theorem bj{H:Hp}{d:Dv}{ds:List Dv}{vs:List V}(h:Reps H (d::ds) vs):∃v ws,vs=v::ws/\Rep H d v/\Reps H ds ws:=by simpa only[Reps]using h
theorem sr{t1 t2:TS}{D:bZ}{σ:St}{H:Hp}(M:St->Hp->Prop)(h2:∀σ' H',M σ' H'->t2 D σ' H')(f:∀N:St->Hp->Prop,(∀σ' H',M σ' H'->N σ' H')->t1 {D with nx:=N} σ H):iA t1 t2 D σ H:=f (t2 D) h2
theorem cY{t1 t2:TS}{D:bZ}{σ:St}{H:Hp}(f:∀N:St->Hp->Prop,(∀σ' H',t2 D σ' H'->N σ' H')->t1 {D with nx:=N} σ H):iA t1 t2 D σ H:=f (t2 D) λ_ _ h=>h
def tM{f:Nat->V}{n:Nat}{g:TG}{tb:TS}{D:bZ}{σ:St}{H:Hp}(Pv:Nat->St->Hp->Prop)(h0:Pv 0 σ H)
  (hs:∀i σ H (D':bZ),(∀σ' H',Pv (i+1) σ' H'->D'.nx σ' H')->i<n->Pv i σ H->g (f i) σ H λσ2 H2=>tb D' σ2 H2) (hd:∀σ H,Pv n σ H->D.nx σ H):=wM (f:=f) (n:=n) (g:=g) (tb:=tb) (D:=D) (σ:=σ) (H:=H) Pv h0 (λi σ H hi p=>hs i σ H _ (λ_ _ h=>h) hi p) hd
def gN{K:ζ}{a b:Addr}{xs ys:List V}{g:TG}{tb:TS}{D:bZ}{σ:St}{H:Hp}(Pv:Nat->St->Hp->Prop)(h0:Pv 0 σ H)(hl:∀i σ H,Pv i σ H->SqT K H a xs/\SqT K H b ys)
  (hs:∀i x y σ H p (D':bZ),(∀v H,D.rt v H->D'.rt v H)->(∀σ' H',Pv (i+1) σ' H'->D'.nx σ' H')->xs[i]?=some x->ys[i]?=some y->Pv i σ H->H p=none->g (.ref p) σ (upd H p (.tup [x,y])) λσ2 H2=>tb D' σ2 H2) (hd:∀σ H,Pv (min xs.length ys.length) σ H->D.nx σ H):=
 sU (K:=K) (a:=a) (b:=b) (xs:=xs) (ys:=ys) (g:=g) (tb:=tb) (D:=D) (σ:=σ) (H:=H) Pv h0 hl (λi x y σ H p hx hy q hp=>hs i x y σ H p _ (λ_ _ h=>h) (λ_ _ h=>h) hx hy q hp) hd
def qz{K:ζ}{a:Addr}{xs:List V}{g:TG}{tb:TS}{D:bZ}{σ:St}{H:Hp}(Pv:Nat->St->Hp->Prop)(h0:Pv 0 σ H)(hl:∀i σ H,i<=xs.length->Pv i σ H->SqL K H a xs)
  (hs:∀i x σ H (D':bZ),(∀σ' H',Pv (i+1) σ' H'->D'.nx σ' H')->xs[i]?=some x->Pv i σ H->g x σ H λσ2 H2=>tb D' σ2 H2) (hd:∀σ H,Pv xs.length σ H->D.nx σ H):=
 nU (K:=K) (a:=a) (xs:=xs) (g:=g) (tb:=tb) (D:=D) (σ:=σ) (H:=H) Pv h0 hl (λi x σ H hx q=>hs i x σ H _ (λ_ _ h=>h) hx q) hd
theorem jz{c:TT}{tb:TS}{D:bZ}{σ:St}{H:Hp}(Pv:Nat->St->Hp->Prop)(m:Nat)(h0:Pv m σ H)
  (hs:∀m σ H (D':bZ),(∀v H,D.rt v H->D'.rt v H)->(∀m' σ' H',m'<m->Pv m' σ' H'->D'.nx σ' H')->Pv m σ H->c σ H λb H1=>if b=true then tb D' σ H1 else D.nx σ H1)
  (mono:∀σ H Q Q',(∀b H1,Q b H1->Q' b H1)->c σ H Q->c σ H Q'):qb c tb D σ H:=
 wF Pv m h0 (λm σ H p=>hs m σ H _ (λ_ _ h=>h) (λm' _ _ l q=>⟨m',l,q⟩) p) mono
end XB
namespace L2.EX
open PySem PySem.Spec PyProof.Rows PySem.W
section
variable{P:υ}{w:Μ}{A:Ρ}{R:C0->θ->Prop}{E:δ->θ->Prop}{h:Heap}{g:Array A2}{d:C6}{t:Nat}{os:CW}
variable{nm q:Str}{C N:Addr}{bs bm:List δ}{hdct:Bool}{sn:List Str}{sub:List δ}{ab:Bool}{col:Option Bool}{dd:Option Addr}{k0 k1 k2 k3 k5:Option δ}{B newId inN:String}{bmN:List δ}
end
section
variable{P:υ}{w:Μ}{A:Ρ}{E:δ->θ->Prop}{h:Heap}{g:Array A2}{d:C6}{t:Nat}{os:CW}
variable{nm q:Str}{C N fI:Addr}{bs bm:List δ}{hdct:Bool}{sn:List Str}{sub:List δ}{ab:Bool}{col:Option Bool}{dd:Option Addr}{k0 k1 k2 k3 k5:Option δ}{B newId inN:String}{bmN:List δ}
end
open PySem PySem.Spec PyProof.Rows PySem.W
section
variable{P:υ}{w:Μ}{A:Ρ}{E:δ->θ->Prop}{h:Heap}{g:Array A2}{d:C6}{t:Nat}{os:CW}
variable{nm q:Str}{C N fI:Addr}{bs bm:List δ}{hdct:Bool}{sn:List Str}{sub:List δ}{ab:Bool}{col:Option Bool}{dd:Option Addr}{k0 k1 k2 k3 k5:Option δ}{B newId nid initId:String}{bmB:List δ}
end
open PySem PySem.Spec PyProof.Rows PySem.W
section
variable{P:υ}{w:Μ}{A:Ρ}{E:δ->θ->Prop}{h:Heap}{g:Array A2}{d:C6}{t:Nat}{os:CW}
variable{nm q:Str}{C D N x:Addr}{bs bmB:List δ}{sn:List Str}{sub:List δ}{ab:Bool}{col:Option Bool}{dd:Option Addr}{k0 k1 k2 k3 k5:Option δ}{B newId sa owner:String}{name:Str}{v:δ}{tk:Tok}
end
open PySem PySem.Spec PyProof.Rows PySem.W
section
variable{P:υ}{w:Μ}{A:Ρ}{E:δ->θ->Prop}{h:Heap}{g:Array A2}{d:C6}{t:Nat}{os:CW}
variable{nm q:Str}{C D N x:Addr}{bs bmB:List δ}{sn:List Str}{sub:List δ}{ab:Bool}{col:Option Bool}{dd:Option Addr}{k0 k1 k2 k3 k5:Option δ}{B newId sa owner:String}{name:Str}{v:δ}
end
open PySem PySem.Spec PyProof.Rows PySem.W
section
variable{P:υ}{w:Μ}{A:Ρ}{E:δ->θ->Prop}{h:Heap}{g:Array A2}{d:C6}{t:Nat}{os:CW}
variable{nm q:Str}{C D N x dx a0:Addr}{bs bmB:List δ}{sn:List Str}{sub:List δ}{ab:Bool}{col:Option Bool}{dd:Option Addr}{k0 k1 k2 k3 k5:Option δ}{B newId:String}{name:Str}{v:δ}{tk:Tok}{mA:Str->Option δ}{sl:Array (Option δ)}{ws:Array δ}
end
open PySem PySem.Spec PyProof.Rows PySem.W
section
variable{M:Model}{A:Ρ}{E:δ->θ->Prop}{s:θ}{base:Heap}{env:Env}{outer:List Env}{L e T:Addr}{cls:δ}{dx:Option Addr}
end
open PySem PySem.Spec PyProof.Rows PySem.W
section
variable{P:υ}{w:Μ}{A:Ρ}{E:δ->θ->Prop}{h:Heap}{g:Array A2}{d:C6}{t:Nat}{os:CW}
variable{nm q:Str}{C D N e:Addr}{bs bmB:List δ}{sn:List Str}{sub:List δ}{ab:Bool}{col:Option Bool}{dd:Option Addr}{k0 k1 k2 k3 k5:Option δ}{B newId:String}{oe:Obj}
variable{tk:Tok}
end
open PySem PySem.Spec PyProof.Rows PySem.W
section
variable{X:Cx}{pins:List (Addr×Obj)}{σ:St}{H:Hp}{s:θ}{C D fI t dx a:Addr}
variable{k:Nat}{fd:Η}{ps:List Str}{sp:Sp}{Q:VK}{us:List δ}{vs:List V}
end
open PySem PySem.Spec PyProof.Rows PySem.W
section
variable{P:υ}{w:Μ}{K:Frag}{mg:Str->Option δ}{base:Heap}{N:List Str}{qual:Str}{scope:Bz}{f:Addr}{cd:δ}{A:Ρ}{outer:List Env}{s0:θ}{H0:Hp}{E:XK}
end
section
variable{X:Cx}{D fI C:Addr}{x:Str}{np cpos pos:Pos}{e:Expr}{es:List Expr}{t:TA}{E:XK}{k:Nat}{fd:Η}{ps:List Str}
end
open PySem PySem.Spec PyProof.Rows PySem.W
section
variable{X:Cx}{D fI C:Addr}{x:Str}{np apos cpos pos pos':Pos}{e o value:Expr}{es:List Expr}{t:TA}{ta tv:TE}{pl:Sem Bool}
end
open PySem PySem.Spec PyProof.Rows PySem.W
section
variable{X:Cx}{pins:List (Addr×Obj)}{σ:St}{H:Hp}{s:θ}{h':Heap}{e:Addr}
end
section
variable{X:Cx}{D fI f:Addr}{x xD n:Str}{np cpos epos tp hpos pos:Pos}{e:Expr}{es:List Expr}{t:TA}{k i:Nat}{fd:Η}{ps:List Str}{sp:Sp}{b₀:Stmt}{suite:List Stmt}{ts:Addr->TS}
end
open PySem PySem.Spec PyProof.Rows PySem.W
section
variable{X:Cx}{D fI:Addr}
variable{o:Expr}{to:TE}{pos:Pos}
end
section
variable{prog:υ}{w:Μ}{A:Ρ}{E:δ->θ->Prop}{s:θ}{e:Addr}
end
open PySem PySem.Spec PyProof.Rows PySem.W
section
variable{P:υ}{w:Μ}{K:Frag}{mg:Str->Option δ}{base:Heap}
variable{N:List Str}{qual:Str}{scope:Bz}{f0:Addr}{cd:δ}{A:Ρ}{outer:List Env}{s0:θ}{H0:Hp}{E:XK}{k:Nat}{x:Str}{ps:List Str}{sp:Sp}{p pos:Pos}{e:Expr}{es:List Expr}{t:TA}
end
end L2.EX
namespace L2
open PySem PySem.Spec PyProof.Rows PySem.W
section
variable{X:Cx}
end
end L2
namespace WR
open PySem L2 L2.EX
structure Bx(p:Prop):Prop where
 h:p
theorem ay{p:Prop}(h:p):autoParam p Lean.Syntax.missing:=h
def okV(N:List Str)(sc:Bz)(i:Nat)(x:Str):Bool:=decide (N[i]?=some x)&&((sc.names.lookup x==some .local||sc.names.lookup x==some .cell||sc.names.lookup x==some .free)&&(x==("__debug__" : Str)||x==("__classdict__" : Str))==false)
theorem wv{X:Cx}(i:Nat){x:Str}{pos:Pos}(h:okV X.N X.env.scope i x=true):Bx (PE X (.Name x pos) (fz i)):=by
 simp only[okV,ψ,CO,decide_eq_true_eq,beq_iff_eq]at h
 obtain⟨a,b,c⟩:=h
 have c1:=Bool.or_eq_false_iff.mp c
 exact⟨pv i a (by rcases b with (b|b)|b;exact .inl b;exact .inr (.inl b);exact .inr (.inr b)) c1.1 c1.2⟩
def wab:=λ{v0 v1 v2} (v3:Bx _)=>Bx.mk (@L2.PW.pt v0 v1 v2 v3.h)
def wac:=λ{v0 v1 v2 v3 v4 v5 v6 v7} (v8:Bx _) (v9:Bx _) (v10:Bx _)=>Bx.mk (@L2.pe_ifExp v0 v1 v2 v3 v4 v5 v6 v7 v8.h v9.h v10.h)
def wad:=λ{v0 v1}=>Bx.mk (@L2.ps_dead v0 v1)
def wae:=λ{v0 v1 v2 v3 v4} (v5:Bx _) (v6:Bx _) v7=>Bx.mk (@L2.pa_cons v0 v1 v2 v3 v4 v5.h v6.h (ay v7))
def waf:=λ{v0}=>Bx.mk (@L2.pa_nil v0)
def wag:=λ{v0 v1 v2 v3 v4 v5 v6} (v7:Bx _) (v8:Bx _)=>Bx.mk (@L2.pe_and v0 v1 v2 v3 v4 v5 v6 v7.h v8.h)
def wah:=λ{v0 v1 v2 v3}=>Bx.mk (@L2.pe_bl v0 v1 v2 v3)
def wai:=λ{v0 v1 v3 v4} v2 v5 v6 v7 v8 v9 v10=>Bx.mk (@L2.pe_bltn v0 v1 v2 v3 v4 v5 v6 v7 v8 (ay v9) (ay v10))
def waj:=λ{v0 v1 v2 v3 v4 v5 v6 v7 v8 v9 v10 v11} v12 v13 v14 v15 (v16:Bx _) (v17:Bx _) v18 v19 v20 v21 v22=>Bx.mk (@L2.pe_bm v0 v1 v2 v3 v4 v5 v6 v7 v8 v9 v10 v11 v12 v13 v14 v15 v16.h v17.h (ay v18) (ay v19) (ay v20) (ay v21) (ay v22))
def wak:=λ{v0 v1 v2 v3 v4 v5 v6 v7 v8} v9 v10 v11 v12 (v13:Bx _) v14 v15=>Bx.mk (@L2.pe_bm0 v0 v1 v2 v3 v4 v5 v6 v7 v8 v9 v10 v11 v12 v13.h (ay v14) (ay v15))
def wal:=λ{v0 v1 v2 v3 v4 v5 v6 v7 v8} v9 v10 v11 v12 (v13:Bx _) v14 v15 v16 v17=>Bx.mk (@L2.pe_callB v0 v1 v2 v3 v4 v5 v6 v7 v8 v9 v10 v11 v12 v13.h (ay v14) (ay v15) (ay v16) (ay v17))
def wam:=λ{v0 v1 v2 v3 v4 v5 v6 v7 v8} v9 v10 v11 v12 (v13:Bx _) v14 v15 v16 v17=>Bx.mk (@L2.pe_callTy v0 v1 v2 v3 v4 v5 v6 v7 v8 v9 v10 v11 v12 v13.h (ay v14) (ay v15) (ay v16) (ay v17))
def wan:=λ{v0 v1 v2 v3 v4 v5 v6 v7 v8 v9 v10 v11} v12 v13 v14 v15 v16 (v17:Bx _) v18 v19 v20 v21 v22 v23=>Bx.mk (@L2.pe_callV v0 v1 v2 v3 v4 v5 v6 v7 v8 v9 v10 v11 v12 v13 v14 v15 v16 v17.h (ay v18) (ay v19) (ay v20) (ay v21) (ay v22) (ay v23))
def wao:=λ{v0 v1 v2 v3 v4 v5 v6 v7 v8 v9 v10 v11} v12 v13 (v14:Bx _) (v15:Bx _) (v16:Bx _) v17=>Bx.mk (@L2.pe_chain v0 v1 v2 v3 v4 v5 v6 v7 v8 v9 v10 v11 v12 v13 v14.h v15.h v16.h (ay v17))
def wap:=λ{v0 v1 v2 v3 v4 v5 v6 v7} v8 (v9:Bx _) (v10:Bx _) v11=>Bx.mk (@L2.pe_cmpR v0 v1 v2 v3 v4 v5 v6 v7 v8 v9.h v10.h v11)
def waq:=λ{v0 v1 v2 v3 v4 v5 v6 v7 v8 v9} v10 v11 v12 (v13:Bx _) v14 v15 v16=>Bx.mk (@L2.pe_def v0 v1 v2 v3 v4 v5 v6 v7 v8 v9 v10 v11 v12 v13.h (ay v14) (ay v15) (ay v16))
def war:=λ{v0 v1 v2 v3 v4 v5 v6} v7 v8 v9 v10=>Bx.mk (@L2.pe_def0 v0 v1 v2 v3 v4 v5 v6 v7 v8 v9 (ay v10))
def was:=λ{v0 v1 v2 v3 v4 v5} (v6:Bx _)=>Bx.mk (@L2.pe_fstr v0 v1 v2 v3 v4 v5 v6.h)
def wat:=λ{v0 v1 v2 v3} (v4:Bx _)=>Bx.mk (@L2.pe_fv v0 v1 v2 v3 v4.h)
def wau:=λ{v0 v1 v2 v3 v4} (v5:Bx _) (v6:Bx _)=>Bx.mk (@L2.pf_cons v0 v1 v2 v3 v4 v5.h v6.h)
def wav:=λ{v0}=>Bx.mk (@L2.pf_nil v0)
def waA:=λ{v0 v1}=>Bx.mk (@L2.pe_dnewK v0 v1)
def waB:=λ{v0 v1 v3 v4} v2 v5 v6 v7 v8=>Bx.mk (@L2.pe_glob v0 v1 v2 v3 v4 v5 v6 v7 (ay v8))
def waC:=λ{v0 v1 v2 v3}=>Bx.mk (@L2.pe_int v0 v1 v2 v3)
def waD:=λ{v0 v1 v2 v3 v4 v5 v6} v7 (v8:Bx _) (v9:Bx _) v10=>Bx.mk (@L2.pe_ix v0 v1 v2 v3 v4 v5 v6 v7 v8.h v9.h v10)
def waE:=λ{v0 v1 v4 v5 v6 v7 v8 v9 v10 v11 v12} v2 v3 (v13:Bx _) v14 v15 (v16:∀x0 x1 x2,Bx _) v17 (v18:∀x0 x1 x2,Bx _) (v19:∀x0 x1 x2,Bx _) v20=>Bx.mk (@L2.pe_lc v0 v1 v2 v3 v4 v5 v6 v7 v8 v9 v10 v11 v12 v13.h v14 v15 (λx0 x1 x2=>(v16 x0 x1 x2).h) v17 (λx0 x1 x2=>(v18 x0 x1 x2).h) (λx0 x1 x2=>(v19 x0 x1 x2).h) (ay v20))
def waG:=λ{v0 v1 v2 v3 v4} (v5:Bx _) v6=>Bx.mk (@L2.pe_fld v0 v1 v2 v3 v4 v5.h v6)
def waH:=λ{v0 v1 v2 v3 v4 v5 v6 v7} (v8:Bx _) (v9:Bx _) v10=>Bx.mk (@L2.ps_fld v0 v1 v2 v3 v4 v5 v6 v7 v8.h v9.h v10)
def waI:=λ{v0 v1 v2 v3 v4 v5 v6 v7 v8 v9} (v10:Bx _) (v11:Bx _) v12=>Bx.mk (@L2.ps_fldaug v0 v1 v2 v3 v4 v5 v6 v7 v8 v9 v10.h v11.h v12)
def waJ:=λ{v0 v1 v2 v3 v4 v5 v6 v7 v8 v9 v10 v11 v12 v13 v14 v15 v16 v17 v18 v19} (v20:Bx _) v21 v22 v23 v24 v25 v26 v27 (v28:Bx _) v29 v30 v31=>Bx.mk (@L2.pe_meth v0 v1 v2 v3 v4 v5 v6 v7 v8 v9 v10 v11 v12 v13 v14 v15 v16 v17 v18 v19 v20.h v21 v22 v23 v24 v25 v26 v27 v28.h (ay v29) (ay v30) (ay v31))
def waK:=λ{v0 v1 v2 v3 v4 v5 v6 v7 v8 v9 v10 v11 v12 v13 v14 v15 v16} v17 v18 v19 v20 v21 v22 v23 v24 (v25:Bx _) v26 v27 v28=>Bx.mk (@L2.pe_make v0 v1 v2 v3 v4 v5 v6 v7 v8 v9 v10 v11 v12 v13 v14 v15 v16 v17 v18 v19 v20 v21 v22 v23 v24 v25.h (ay v26) (ay v27) (ay v28))
def waL:=λ{v0 v1 v2 v3 v4 v5 v6 v7 v8 v9 v10 v11 v12 v13 v14 v15 v16} (v17:Bx _) v18 v19 v20 v21 v22 v23 v24 v25=>Bx.mk (@L2.pe_meth0 v0 v1 v2 v3 v4 v5 v6 v7 v8 v9 v10 v11 v12 v13 v14 v15 v16 v17.h v18 v19 v20 v21 v22 v23 v24 (ay v25))
def waM:=λ{v0 v1 v2 v3} (v4:Bx _)=>Bx.mk (@L2.pe_lst v0 v1 v2 v3 v4.h)
def waN:=λ{v0 v1 v2}=>Bx.mk (@L2.pe_non v0 v1 v2)
def waO:=λ{v0 v1 v2 v3} (v4:Bx _)=>Bx.mk (@L2.pe_not v0 v1 v2 v3 v4.h)
def waP:=λ{v0 v1 v2 v3 v4} (v5:Bx _)=>Bx.mk (@L2.pe_one v0 v1 v2 v3 v4 v5.h)
def waQ:=λ{v0 v1 v2 v3 v4 v5 v6 v7} v8 (v9:Bx _) (v10:Bx _)=>Bx.mk (@L2.pe_op v0 v1 v2 v3 v4 v5 v6 v7 v8 v9.h v10.h)
def waR:=λ{v0 v1 v2 v3 v4 v5 v6} (v7:Bx _) (v8:Bx _)=>Bx.mk (@L2.pe_or v0 v1 v2 v3 v4 v5 v6 v7.h v8.h)
def waT:=λ{v0 v1 v2 v3 v4 v5 v6 v7 v8 v9} v10 (v11:Bx _) (v12:Bx _) (v13:Bx _)=>Bx.mk (@L2.pe_slice v0 v1 v2 v3 v4 v5 v6 v7 v8 v9 v10 v11.h v12.h v13.h)
def waV:=λ{v0 v1 v2 v3}=>Bx.mk (@L2.pe_str v0 v1 v2 v3)
def waX:=λ{v0 v1 v2 v3 v4} (v5:Bx _)=>Bx.mk (@L2.pe_tup v0 v1 v2 v3 v4 v5.h)
def waY:=λ{v0 v1 v2 v3 v4 v5} v6 (v7:Bx _)=>Bx.mk (@L2.pe_un v0 v1 v2 v3 v4 v5 v6 v7.h)
def waZ:=λ{v0 v1 v3} v2 v4 v5 v6 v7=>Bx.mk (@L2.pg_name v0 v1 v2 v3 v4 v5 v6 (ay v7))
def wba:=λ{v0 v1 v2 v3 v4 v5 v6} (v7:Bx _) (v8:Bx _) v9 v10=>Bx.mk (@L2.pg_sub v0 v1 v2 v3 v4 v5 v6 v7.h v8.h v9 (ay v10))
def wbb:=λ{v0 v1 v2 v3 v4 v5} v6 (v7:Bx _) v8 v9=>Bx.mk (@L2.pg_tup v0 v1 v2 v3 v4 v5 v6 v7.h (ay v8) (ay v9))
def wbd:=λ{v0 v1 v2 v3 v4} (v5:Bx _) (v6:Bx _) v7=>Bx.mk (@L2.pgs_cons v0 v1 v2 v3 v4 v5.h v6.h (ay v7))
def wbe:=λ{v0}=>Bx.mk (@L2.pgs_nil v0)
def wbi:=λ{v0 v1 v2 v3} (v4:Bx _)=>Bx.mk (@L2.pi_list v0 v1 v2 v3 v4.h)
def wbk:=λ{v0 v1 v2 v3 v4 v5} v6 v7 (v8:Bx _) v9=>Bx.mk (@L2.pi_range1 v0 v1 v2 v3 v4 v5 v6 v7 v8.h (ay v9))
def wbn:=λ{v0 v1 v2 v3} (v4:Bx _)=>Bx.mk (@L2.pi_str v0 v1 v2 v3 v4.h)
def wbo:=λ{v0 v1 v2 v3} (v4:Bx _)=>Bx.mk (@L2.pi_tup v0 v1 v2 v3 v4.h)
def wbs:=λ{v0 v1 v2 v3 v4 v5 v6 v7 v8} v9 v10 (v11:Bx _) v12 v13=>Bx.mk (@L2.pi_zipTT v0 v1 v2 v3 v4 v5 v6 v7 v8 v9 v10 v11.h (ay v12) (ay v13))
def wbu:=λ{v0 v1 v2 v3 v4 v5 v6 v7} v8 (v9:Bx _) (v10:Bx _) v11=>Bx.mk (@L2.pe_getF v0 v1 v2 v3 v4 v5 v6 v7 v8 v9.h v10.h v11)
def wbx:=λ{v0}=>Bx.mk (@L2.pif_nil v0)
def wbz:=λ{v0}=>Bx.mk (@L2.po_none v0)
def wbA:=λ{v0 v1 v2} (v3:Bx _)=>Bx.mk (@L2.po_some v0 v1 v2 v3.h)
def wbD:=λ{v0 v1 v2 v3 v4 v5} (v6:Bx _) (v7:Bx _) v8 v9 v10=>Bx.mk (@L2.ps_asg v0 v1 v2 v3 v4 v5 v6.h v7.h (ay v8) (ay v9) (ay v10))
def wbE:=λ{v0 v1 v3 v4 v5 v6 v7 v8} v2 v9 v10 v11 (v12:Bx _) v13 v14=>Bx.mk (@L2.ps_aug v0 v1 v2 v3 v4 v5 v6 v7 v8 v9 v10 v11 v12.h v13 (ay v14))
def wbF:=λ{v0 v1 v2 v3 v4 v5 v6 v7 v8} v9 (v10:Bx _) (v11:Bx _) (v12:Bx _) v13=>Bx.mk (@L2.ps_dput v0 v1 v2 v3 v4 v5 v6 v7 v8 v9 v10.h v11.h v12.h v13)
def wbG:=λ{v0 v1 v2 v3} (v4:Bx _) v5=>Bx.mk (@L2.ps_expr v0 v1 v2 v3 v4.h (ay v5))
def wbH:=λ{v0 v1 v2 v3 v4 v5 v6 v7} v8 v9 (v10:Bx _) (v11:Bx _) (v12:Bx _) v13=>Bx.mk (@L2.ps_for v0 v1 v2 v3 v4 v5 v6 v7 v8 v9 v10.h v11.h v12.h (ay v13))
def wbI:=λ{v0 v1 v2 v3 v4 v5 v6 v7} (v8:Bx _) (v9:Bx _) (v10:Bx _)=>Bx.mk (@L2.ps_if v0 v1 v2 v3 v4 v5 v6 v7 v8.h v9.h v10.h)
def wbJ:=λ{v0 v1 v4 v5 v6 v7 v8 v9 v10 v11 v12 v13 v14 v16} v2 v3 v15 v17 v18 v19 (v20:Bx _) v21 v22 (v23:∀x0 x1 x2,Bx _) v24 (v25:∀x0 x1 x2,Bx _) (v26:∀x0 x1 x2,Bx _) v27 v28=>Bx.mk (@L2.ps_lc v0 v1 v2 v3 v4 v5 v6 v7 v8 v9 v10 v11 v12 v13 v14 v15 v16 v17 v18 v19 v20.h v21 v22 (λx0 x1 x2=>(v23 x0 x1 x2).h) v24 (λx0 x1 x2=>(v25 x0 x1 x2).h) (λx0 x1 x2=>(v26 x0 x1 x2).h) (ay v27) (ay v28))
def wbK:=λ{v0 v1 v2 v3} (v4:Bx _)=>Bx.mk (@L2.ps_ret v0 v1 v2 v3 v4.h)
def wbM:=λ{v0 v1 v3 v4 v5 v6} v2 v7 v8 v9 (v10:Bx _) v11 v12=>Bx.mk (@L2.ps_set v0 v1 v2 v3 v4 v5 v6 v7 v8 v9 v10.h (ay v11) (ay v12))
def wbN:=λ{v0 v1 v2 v3 v4 v5} v6 (v7:Bx _) (v8:Bx _)=>Bx.mk (@L2.ps_while v0 v1 v2 v3 v4 v5 v6 v7.h v8.h)
def wbO:=λ{v0 v1 v2 v3 v4} (v5:Bx _) (v6:Bx _)=>Bx.mk (@L2.pss_cons v0 v1 v2 v3 v4 v5.h v6.h)
def wbP:=λ{v0}=>Bx.mk (@L2.pss_nil v0)
def wbQ:=λ{v0 v1 v2} (v3:Bx _)=>Bx.mk (@L2.pss_one v0 v1 v2 v3.h)
def wbR:=λ{v0 v1 v2 v3 v4 v5 v6 v7 v8 v9 v10 v11} v12 v13 (v14:Bx _) (v15:Bx _) (v16:Bx _) v17=>Bx.mk (@L2.pt_chain v0 v1 v2 v3 v4 v5 v6 v7 v8 v9 v10 v11 v12 v13 v14.h v15.h v16.h (ay v17))
def wbS:=λ{v0 v1 v2 v3 v4 v5 v6 v7} v8 (v9:Bx _) (v10:Bx _) v11=>Bx.mk (@L2.pt_cmpR v0 v1 v2 v3 v4 v5 v6 v7 v8 v9.h v10.h v11)
def wbT:=λ{v0 v1 v2 v3} (v4:Bx _)=>Bx.mk (@L2.pt_not v0 v1 v2 v3 v4.h)
def wbU:=λ{v0 v1 v2} (v3:Bx _) v4=>Bx.mk (@L2.pt_truth v0 v1 v2 v3.h v4)
def wbV:=λ{v0 v1 v2} (v3:Bx _) v4=>Bx.mk (@L2.pt_val v0 v1 v2 v3.h (ay v4))
def wbW:=λ{v0 v1 v2 v3 v4 v5 v6} (v7:Bx _) (v8:Bx _)=>Bx.mk (@L2.pw_and v0 v1 v2 v3 v4 v5 v6 v7.h v8.h)
def wbX:=λ{v0 v1 v2 v3} (v4:Bx _)=>Bx.mk (@L2.pw_and1 v0 v1 v2 v3 v4.h)
def wbY:=λ{v0 v1 v2 v3 v4 v5 v6} (v7:Bx _) (v8:Bx _)=>Bx.mk (@L2.pw_or v0 v1 v2 v3 v4 v5 v6 v7.h v8.h)
def wbZ:=λ{v0 v1 v2 v3} (v4:Bx _)=>Bx.mk (@L2.pw_or1 v0 v1 v2 v3 v4.h)
theorem un{X:Cx}{b:List Stmt}{t:TS}(h:Bx (PSs X b t)):PSs X b t:=h.h
end WR
namespace K62
open PySem L2 KB XB WR
def top (i : Nat) : Stmt := PySem.Challenge.pw_indexwise_k62_expressions_written.main.body.getD i (.Pass ⟨0, 0, 0, 0⟩)
def mO:List Str:=["plus","minus","times","less","same"]
structure Txt(K:ζ)(mg:Str->Option δ):Prop where
 len:mg "len"=none
 isinstance:mg "isinstance"=none
 int:mg "int"=none
 bool:mg "bool"=none
 str:mg "str"=none
 tuple:mg "tuple"=none
 all:mg "all"=none
 zip:mg "zip"=none
 range:mg "range"=none
 sorted:mg "sorted"=none
 max:mg "max"=none
 min:mg "min"=none
 lLONGEST_NAME:∃t,mg "LONGEST_NAME"=some (.int 8 t)
 lGREATEST_SIZE:∃t,mg "GREATEST_SIZE"=some (.int 12 t)
 lGREATEST_NUMBER:∃t,mg "GREATEST_NUMBER"=some (.int 99 t)
 lWHOLE_BOUND:∃t,mg "WHOLE_BOUND"=some (.int 1000000000000 t)
 lMOST_NODES:∃t,mg "MOST_NODES"=some (.int 40 t)
 lMOST_ABOVE:∃t,mg "MOST_ABOVE"=some (.int 7 t)
 lMOST_THINGS:∃t,mg "MOST_THINGS"=some (.int 4 t)
 lMOST_FIGURES:∃t,mg "MOST_FIGURES"=some (.int 60 t)
 lMOST_BRACKETS:∃t,mg "MOST_BRACKETS"=some (.int 20 t)
theorem Txt.g_LONGEST_NAME{X:Cx}{pos:Pos}(T:Txt X.K X.mg)(hg:Gl X "LONGEST_NAME"):PE X (.Name "LONGEST_NAME" pos) (tC (.int 8)):=by
 obtain⟨t,e⟩:=T.lLONGEST_NAME
 exact pe_glob hg e ⟨t,rfl⟩
theorem Txt.g_GREATEST_SIZE{X:Cx}{pos:Pos}(T:Txt X.K X.mg)(hg:Gl X "GREATEST_SIZE"):PE X (.Name "GREATEST_SIZE" pos) (tC (.int 12)):=by
 obtain⟨t,e⟩:=T.lGREATEST_SIZE
 exact pe_glob hg e ⟨t,rfl⟩
theorem Txt.g_GREATEST_NUMBER{X:Cx}{pos:Pos}(T:Txt X.K X.mg)(hg:Gl X "GREATEST_NUMBER"):PE X (.Name "GREATEST_NUMBER" pos) (tC (.int 99)):=by
 obtain⟨t,e⟩:=T.lGREATEST_NUMBER
 exact pe_glob hg e ⟨t,rfl⟩
theorem Txt.g_WHOLE_BOUND{X:Cx}{pos:Pos}(T:Txt X.K X.mg)(hg:Gl X "WHOLE_BOUND"):PE X (.Name "WHOLE_BOUND" pos) (tC (.int 1000000000000)):=by
 obtain⟨t,e⟩:=T.lWHOLE_BOUND
 exact pe_glob hg e ⟨t,rfl⟩
theorem Txt.g_MOST_NODES{X:Cx}{pos:Pos}(T:Txt X.K X.mg)(hg:Gl X "MOST_NODES"):PE X (.Name "MOST_NODES" pos) (tC (.int 40)):=by
 obtain⟨t,e⟩:=T.lMOST_NODES
 exact pe_glob hg e ⟨t,rfl⟩
theorem Txt.g_MOST_ABOVE{X:Cx}{pos:Pos}(T:Txt X.K X.mg)(hg:Gl X "MOST_ABOVE"):PE X (.Name "MOST_ABOVE" pos) (tC (.int 7)):=by
 obtain⟨t,e⟩:=T.lMOST_ABOVE
 exact pe_glob hg e ⟨t,rfl⟩
theorem Txt.g_MOST_THINGS{X:Cx}{pos:Pos}(T:Txt X.K X.mg)(hg:Gl X "MOST_THINGS"):PE X (.Name "MOST_THINGS" pos) (tC (.int 4)):=by
 obtain⟨t,e⟩:=T.lMOST_THINGS
 exact pe_glob hg e ⟨t,rfl⟩
theorem Txt.g_MOST_FIGURES{X:Cx}{pos:Pos}(T:Txt X.K X.mg)(hg:Gl X "MOST_FIGURES"):PE X (.Name "MOST_FIGURES" pos) (tC (.int 60)):=by
 obtain⟨t,e⟩:=T.lMOST_FIGURES
 exact pe_glob hg e ⟨t,rfl⟩
theorem Txt.g_MOST_BRACKETS{X:Cx}{pos:Pos}(T:Txt X.K X.mg)(hg:Gl X "MOST_BRACKETS"):PE X (.Name "MOST_BRACKETS" pos) (tC (.int 20)):=by
 obtain⟨t,e⟩:=T.lMOST_BRACKETS
 exact pe_glob hg e ⟨t,rfl⟩
abbrev fj:Stmt:=top 5
abbrev gf:Stmt:=top 6
abbrev gn:Stmt:=top 7
abbrev eF:Stmt:=top 8
abbrev eG:Stmt:=top 9
def bX:Dv->Bool
 |.int _=>true
 |_=>false
def cW:Dv->Bool
 |.str x=>nmB x
 |_=>false
def geD(k:Int):Dv->Bool
 |.int i=>decide (k<=i)
 |_=>false
def eQ:Dv->Bool
 |.tup [a,b]=>cW a&&(bX b&&geD 1 b)
 |_=>false
def headD:Dv->Str
 |.tup (.str x::_)=>x
 |_=>""
def goD(last:Str):List Dv->Bool
 |[]=>true
 |p::r=>eQ p&&(decide (last.cps.toList<(headD p).cps.toList)&&goD (headD p) r)
def iX:Dv->Bool
 |.tup xs=>goD "" xs
 |_=>false
def oj:Dv->Bool
 |.tup [a,b]=>bX a&&(geD 0 a&&iX b)
 |_=>false
def spD(f:Dv->Bool):Sp:=λvs H Q _=>∃v d,vs=[v]/\Rep H d v/\∀H',ai H H'->Q (.bl (f d)) H'
variable{P:υ}{w:Μ}{K:ζ}{mg:Str->Option δ}{base:Heap}
theorem oq:ao ["thing"] ["thing"] (ah fj):=by trivial
theorem nG{f:Addr}{fd:Η}(F:Fun K "is_whole" "is_whole" fj f fd)(T:Txt K mg):aw P w K mg base CX0 1 f fd ["thing"] (spD bX):=by
 refine F.ok oq (λvs H Q E h=>?_) (λcdv A outer s H vs Q E hr h=>?_)
 ·obtain⟨v,d,rfl,_⟩:=h
  rfl
 obtain⟨v,d,rfl,R,q⟩:=h
 refine⟨_,(@un _ _ _ (wbQ (wbK (wag (wal aS rfl T.isinstance () (wae (wv 0 rfl) (wae (wai (.ty "int") rfl T.int () rfl () ()) waf rfl) rfl) () () rfl rfl) (waP (waO (wal aS rfl T.isinstance () (wae (wv 0 rfl) (wae (wai (.ty "bool") rfl T.bool () rfl () ()) waf rfl) rfl) () () rfl rfl))))))),?_⟩
 refine⟨_,rfl,v,_,_,_,rfl,R.ty,iy K d,_,rfl,?_⟩
 cases d with
 |int i=>exact aF ⟨_,rfl,v,_,_,_,rfl,R.ty,jt K _,_,rfl,q H (ai.refl H)⟩
 |bl b=>exact aF ⟨_,rfl,v,_,_,_,rfl,R.ty,jt K _,_,rfl,q H (ai.refl H)⟩
 |_=>exact aG (q H (ai.refl H))
def spS(f:Dv->Bool):Sp:=λvs H Q _=>∃v d,vs=[v]/\Rep H d v/\d.small=true/\∀H',ai H H'->Q (.bl (f d)) H'
theorem mj(a b:Nat):decide (([a]:List Nat)<[b])=decide (a<b):=by
 by_cases h:a<b
 ·rw[Q9 h]
  exact Q9 (List.cons_lt_cons_iff.mpr (.inl h))
 ·rw[Q8 h]
  exact Q8 λz=>by
   rcases List.cons_lt_cons_iff.mp z with z|⟨_,z⟩
   ·exact h z
   ·exact List.not_lt_nil _ z
theorem yn(x:Str):((ϗ x.cps.size).map λi=>azB (x.cps.getD i 0)).all id=x.cps.toList.all azB:=by
 have e:(ϗ x.cps.size).map (λi=>azB (x.cps.getD i 0))=x.cps.toList.map azB:=by
  apply Cu
  intro i
  rw[Ν,Ν]
  by_cases hi:i<x.cps.size
  ·rw[List.getElem?_range hi]
   simp[hi]
  ·rw[i6 (by simpa using hi),i6 (by simpa using hi)]
   rfl
 rw[e,List.all_map]
 rfl
theorem qj:ao ["thing"] ["thing"] (ah gf):=by trivial
theorem pS{f:Addr}{fd:Η}(F:Fun K "is_name" "is_name" gf f fd)(T:Txt K mg):aw P w K mg base CX0 1 f fd ["thing"] (spS cW):=by
 refine F.ok qj (λvs H Q E h=>?_) (λcdv A outer s H vs Q E hr h=>?_)
 ·obtain⟨v,d,rfl,_⟩:=h
  rfl
 obtain⟨v,d,rfl,R,hsm,q⟩:=h
 refine⟨_,(@un _ _ _ (wbO (wbI (wab (wbY (wbT (wbV (wal aS rfl T.isinstance () (wae (wv 0 rfl) (wae (wai (.ty "str") rfl T.str () rfl () ()) waf rfl) rfl) () () rfl rfl) ())) (wbZ (wbT (wbR fU fU waC (wal bO rfl T.len () (wae (wv 0 rfl) waf rfl) () () rfl rfl) ⟨T.g_LONGEST_NAME rfl⟩ (by with_unfolding_all rfl)))))) (wbQ (wbK wah)) wbP) (wbQ (wbK (wal (fZ rfl) rfl T.all () (wae (waE ["sign"] [] (wbn (wv 0 rfl)) (.of rfl) rfl (λ_ _ _=>⟨pg_name (i:=0) (bp (l:=["sign"]) (()) rfl) rfl (Ε rfl)⟩) (bf ()) (λ_ _ _=>wbx) (λ_ _ _=>(wao dh dh waV (wv 0 rfl) waV (by with_unfolding_all rfl))) ()) waf rfl) () () rfl rfl))))),?_⟩
 refine⟨_,rfl,v,_,_,_,rfl,R.ty,eM K d,_,rfl,?_⟩
 cases d with
 |str x=>
  have hx:x.cps.size<=1000:=by simpa[Dv.small]using hsm
  obtain rfl:v=.str x:=R
  refine aG ⟨_,rfl,x,rfl,qK hx,_,_,rfl,rfl,_,rfl,?_⟩
  have no:nmB x=false->Q (.bl false) H:=λe=>by
   have:=q H (ai.refl H)
   rwa[show cW (.str x)=false from e]at this
  refine ap (λh1=>?_) (λh1=>?_)
  ·refine⟨_,_,rfl,rfl,_,rfl,?_⟩
   have h1':1<=x.cps.size:=by
    have:=Q7 h1
    have e:x.length=x.cps.size:=rfl
    omega
   by_cases h8:x.cps.size<=8
   ·rw[show decide (((x.length:Nat):Int)<=8)=true from Q9 (by have e:x.length=x.cps.size:=rfl;omega)]
    refine aG ?_
    refine⟨_,rfl,x,rfl,iU (F:=λi=>V.bl (azB (x.cps.getD i 0))) (λi ys hi hl=>?_) λa ha=>⟨a,(ϗ x.cps.size).map λi=>azB (x.cps.getD i 0),rfl,SqL.of ?_,?_⟩⟩
    ·refine bu ⟨_,rfl,_,_,rfl,rfl,_,rfl,?_⟩
     have e1:decide ((⟨#[x.cps.getD i 0]⟩:Str).cps.toList<(γ "a").cps.toList)=decide (x.cps.getD i 0<97):=mj _ _
     have e2:decide ((γ "z").cps.toList<(⟨#[x.cps.getD i 0]⟩:Str).cps.toList)=decide (122<x.cps.getD i 0):=mj _ _
     rw[e1]
     by_cases c1:x.cps.getD i 0<97
     ·rw[Q9 c1]
      refine aG ⟨by rw[hl,ι];omega,?_,rfl⟩
      unfold azB
      rw[Q8 ()]
      rfl
     ·rw[Q8 c1]
      refine aF ⟨_,_,rfl,rfl,?_⟩
      refine⟨by rw[hl,ι];omega,?_,rfl⟩
      rw[e2]
      unfold azB
      rw[Q9 (show 97<=x.cps.getD i 0 by omega)]
      by_cases c2:122<x.cps.getD i 0
      ·rw[Q9 c2,Q8 ()];rfl
      ·rw[Q8 c2,Q9 ()];rfl
    ·rw[aa,Ξ]
     rfl
    ·rw[yn]
     have:=q _ (ac ha (.lst ((ϗ x.cps.size).map λi=>V.bl (azB (x.cps.getD i 0)))))
     rwa[show cW (.str x)=x.cps.toList.all azB by
      show nmB x=_
      unfold nmB
      rw[Q9 h1',Q9 h8]
      rfl]at this
   ·rw[show decide (((x.length:Nat):Int)<=8)=false from Q8 (by have e:x.length=x.cps.size:=rfl;omega)]
    refine aF (no ?_)
    unfold nmB
    rw[Q8 h8,Ca,Ϭ]
  ·refine⟨_,rfl,aF (no ?_)⟩
   have h1':¬ 1<=x.cps.size:=by
    have:=of_decide_eq_false (p9.mpr h1)
    have e:x.length=x.cps.size:=rfl
    omega
   unfold nmB
   rw[Q8 h1',Ϭ,Ϭ]
 |_=>exact aF (aF (q H (ai.refl H)))
theorem uy(ds:List Dv):(∃a b,ds=[a,b])\/(∀a b,ds≠[a,b]):=by
 match ds with
 |[]=>exact .inr λa b e=>nomatch e
 |[_]=>exact .inr λa b e=>nomatch e
 |[a,b]=>exact .inl ⟨a,b,rfl⟩
 |_::_::_::_=>exact .inr λa b e=>nomatch e
theorem qX{ds:List Dv}(h:∀a b,ds≠[a,b]):ds.length≠2:=λe=>by
 match ds,e with
 |[a,b],_=>exact h a b rfl
theorem vR{ds:List Dv}(h:∀a b,ds≠[a,b]):eQ (.tup ds)=false:=by
 match ds with
 |[]=>rfl
 |[_]=>rfl
 |[a,b]=>exact absurd rfl (h a b)
 |_::_::_::_=>rfl
theorem wK{ds:List Dv}(h:∀a b,ds≠[a,b]):oj (.tup ds)=false:=by
 match ds with
 |[]=>rfl
 |[_]=>rfl
 |[a,b]=>exact absurd rfl (h a b)
 |_::_::_::_=>rfl
theorem sF{k:Int}{d:Dv}(h:bX d=true):∃i,d=.int i/\geD k d=decide (k<=i):=by
 cases d with
 |int i=>exact⟨i,rfl,rfl⟩
 |_=>cases h
theorem pF{a b:Dv}(h:(Dv.tup [a,b]).small=true):a.small=true/\b.small=true:=by
 simp only[Dv.small,smalls,ψ]at h
 exact⟨h.1.1,h.1.2.1⟩
theorem pI:ao ["thing"] ["thing"] (ah gn):=by trivial
theorem pf{f:Addr}{fd:Η}{k:Nat}(F:Fun K "is_part" "is_part" gn f fd)(T:Txt K mg)(Dis_whole:Def P w K mg base k "is_whole" ["thing"] (spD bX))(Dis_name:Def P w K mg base k "is_name" ["thing"] (spS cW)):
  aw P w K mg base CX0 (k+1) f fd ["thing"] (spS eQ):=by
 refine F.ok pI (λvs H Q E h=>?_) (λcdv A outer s H vs Q E hr h=>?_)
 ·obtain⟨v,d,rfl,_⟩:=h
  rfl
 obtain⟨v,d,rfl,R,hsm,q⟩:=h
 refine⟨_,(@un _ _ _ (wbO (wbI (wab (wbY (wbT (wbV (wal aS rfl T.isinstance () (wae (wv 0 rfl) (wae (wai (.ty "tuple") rfl T.tuple () rfl () ()) waf rfl) rfl) () () rfl rfl) ())) (wbZ (wbS eT (wal au rfl T.len () (wae (wv 0 rfl) waf rfl) () () rfl rfl) waC (af _))))) (wbQ (wbK wah)) wbP) (wbQ (wbK (wag (waq Dis_name hr rfl (wae (waD am (wv 0 rfl) waC (λ_ _=>rfl)) waf rfl) () rfl rfl) (wag (waq Dis_whole hr rfl (wae (waD am (wv 0 rfl) waC (λ_ _=>rfl)) waf rfl) () rfl rfl) (waP (wap xP (waD am (wv 0 rfl) waC (λ_ _=>rfl)) waC (af _))))))))),?_⟩
 refine⟨_,rfl,v,_,_,_,rfl,R.ty,cb K d,_,rfl,?_⟩
 cases d with
 |tup ds=>
  obtain⟨a,vs,rfl,ha,rs⟩:=Rep.tup_inv R
  have hl:=rs.length
  refine aG ⟨_,rfl,a,vs,rfl,.inr (SqT.of ha),rfl,_,rfl,?_⟩
  rcases uy ds with ⟨d0,d1,rfl⟩|no
  ·obtain⟨x,y,rfl,R0,R1⟩:=Reps.two rs
   obtain⟨z0,z1⟩:=pF hsm
   refine xJ rfl ?_
   have qe:∀c H',ai H H'->eQ (.tup [d0,d1])=c->Q (.bl c) H':=λc H' s1 e=>e▸q H' s1
   refine⟨_,rfl,a,_,0,x,rfl,rfl,SqT.of ha,ae (j:=0) rfl,x,d0,rfl,R0,z0,λH1 s1=>⟨_,rfl,?_⟩⟩
   cases c0:cW d0 with
   |false=>exact aG (qe _ H1 s1 (by show(cW d0&&_)=false;rw[c0];rfl))
   |true=>
    refine aF ⟨_,rfl,a,_,1,y,rfl,rfl,SqT.of (s1 _ _ ha),ae (j:=1) rfl,y,d1,rfl,R1.mono s1,λH2 s2=>⟨_,rfl,?_⟩⟩
    cases c1:bX d1 with
    |false=>exact aG (qe _ H2 (s1.trans s2) (by show(cW d0&&(bX d1&&_))=false;rw[c0,c1];rfl))
    |true=>
     obtain⟨i,rfl,e⟩:=sF (k:=1) c1
     obtain rfl:y=.int i:=R1
     refine aF ⟨_,rfl,a,_,1,.int i,rfl,rfl,SqT.of (s2 _ _ (s1 _ _ ha)),ae (j:=1) rfl,_,_,rfl,rfl,?_⟩
     refine qe _ H2 (s1.trans s2) ?_
     show(cW d0&&(bX (.int i)&&geD 1 (.int i)))=_
     rw[c0,c1,e]
     rfl
  ·have hn:¬ (V.int ((vs.length:Nat):Int)=V.int 2):=λe=>qX no (by injection e with e;omega)
   rw[Q8 hn]
   refine aF ?_
   have:=q H (ai.refl H)
   rwa[vR no]at this
 |_=>exact aF (aF (q H (ai.refl H)))
theorem lK:ao ["thing"] ["thing"] (ah eG):=by trivial
theorem lJ{f:Addr}{fd:Η}{k:Nat}(F:Fun K "is_length" "is_length" eG f fd)(T:Txt K mg)(Dis_whole:Def P w K mg base k "is_whole" ["thing"] (spD bX))(Dare_parts:Def P w K mg base k "are_parts" ["thing"] (spS iX)):
  aw P w K mg base CX0 (k+1) f fd ["thing"] (spS oj):=by
 refine F.ok lK (λvs H Q E h=>?_) (λcdv A outer s H vs Q E hr h=>?_)
 ·obtain⟨v,d,rfl,_⟩:=h
  rfl
 obtain⟨v,d,rfl,R,hsm,q⟩:=h
 refine⟨_,(@un _ _ _ (wbO (wbI (wab (wbY (wbT (wbV (wal aS rfl T.isinstance () (wae (wv 0 rfl) (wae (wai (.ty "tuple") rfl T.tuple () rfl () ()) waf rfl) rfl) () () rfl rfl) ())) (wbZ (wbS eT (wal au rfl T.len () (wae (wv 0 rfl) waf rfl) () () rfl rfl) waC (af _))))) (wbQ (wbK wah)) wbP) (wbQ (wbK (wag (waq Dis_whole hr rfl (wae (waD am (wv 0 rfl) waC (λ_ _=>rfl)) waf rfl) () rfl rfl) (wag (wap xP (waD am (wv 0 rfl) waC (λ_ _=>rfl)) waC (af _)) (waP (waq Dare_parts hr rfl (wae (waD am (wv 0 rfl) waC (λ_ _=>rfl)) waf rfl) () rfl rfl)))))))),?_⟩
 refine⟨_,rfl,v,_,_,_,rfl,R.ty,cb K d,_,rfl,?_⟩
 cases d with
 |tup ds=>
  obtain⟨a,vs,rfl,ha,rs⟩:=Rep.tup_inv R
  have hl:=rs.length
  refine aG ⟨_,rfl,a,vs,rfl,.inr (SqT.of ha),rfl,_,rfl,?_⟩
  rcases uy ds with ⟨d0,d1,rfl⟩|no
  ·obtain⟨x,y,rfl,R0,R1⟩:=Reps.two rs
   obtain⟨z0,z1⟩:=pF hsm
   refine xJ rfl ?_
   have qe:∀c H',ai H H'->oj (.tup [d0,d1])=c->Q (.bl c) H':=λc H' s1 e=>e▸q H' s1
   refine⟨_,rfl,a,_,0,x,rfl,rfl,SqT.of ha,ae (j:=0) rfl,x,d0,rfl,R0,λH1 s1=>⟨_,rfl,?_⟩⟩
   cases c0:bX d0 with
   |false=>exact aG (qe _ H1 s1 (by show(bX d0&&_)=false;rw[c0];rfl))
   |true=>
    obtain⟨i,rfl,e⟩:=sF (k:=0) c0
    obtain rfl:x=.int i:=R0
    refine aF ⟨_,rfl,a,_,0,.int i,rfl,rfl,SqT.of (s1 _ _ ha),ae (j:=0) rfl,_,_,rfl,rfl,_,rfl,?_⟩
    by_cases c1:0<=i
    ·rw[Q9 c1]
     refine aF ⟨_,rfl,a,_,1,y,rfl,rfl,SqT.of (s1 _ _ ha),ae (j:=1) rfl,y,d1,rfl,R1.mono s1,z1,λH2 s2=>?_⟩
     refine qe _ H2 (s1.trans s2) ?_
     show(bX (.int i)&&(geD 0 (.int i)&&iX d1))=_
     rw[c0,e,Q9 c1]
     rfl
    ·rw[Q8 c1]
     refine aG (qe _ H1 s1 ?_)
     show(bX (.int i)&&(geD 0 (.int i)&&iX d1))=_
     rw[c0,e,Q8 c1]
     rfl
  ·have hn:¬ (V.int ((vs.length:Nat):Int)=V.int 2):=λe=>qX no (by injection e with e;omega)
   rw[Q8 hn]
   refine aF ?_
   have:=q H (ai.refl H)
   rwa[wK no]at this
 |_=>exact aF (aF (q H (ai.refl H)))
theorem jO{d:Dv}(h:eQ d=true):∃nm b,d=.tup [.str nm,.int b]/\headD d=nm/\nmB nm=true/\1<=b:=by
 match d,h with
 |.tup [a,b],h=>
  simp only[eQ,ψ]at h
  obtain⟨h1,h2,h3⟩:=h
  cases a with
  |str x=>
   cases b with
   |int i=>exact⟨x,i,rfl,rfl,h1,Q7 h3⟩
   |_=>cases h2
  |_=>cases h1
theorem fF:ao ["thing","last","part"] ["thing"] (ah eF):=by trivial
theorem ms{f:Addr}{fd:Η}{k:Nat}(F:Fun K "are_parts" "are_parts" eF f fd)(T:Txt K mg)(Dis_part:Def P w K mg base k "is_part" ["thing"] (spS eQ)):
  aw P w K mg base CX0 (k+1) f fd ["thing"] (spS iX):=by
 have nd:=fF.nd
 refine F.ok fF (λvs H Q E h=>?_) (λcdv A outer s H vs Q E hr h=>?_)
 ·obtain⟨v,d,rfl,_⟩:=h
  rfl
 obtain⟨v,d,rfl,R,hsm,q⟩:=h
 refine⟨_,(@un _ _ _ (wbO (wbI (wbT (wbV (wal aS rfl T.isinstance () (wae (wv 0 rfl) (wae (wai (.ty "tuple") rfl T.tuple () rfl () ()) waf rfl) rfl) () () rfl rfl) ())) (wbQ (wbK wah)) wbP) (wbO (wbM 1 nd rfl (Ε rfl) waV rfl ()) (wbO (wbH ϫ rfl (wbo (wv 0 rfl)) (waZ 2 nd rfl (Ε rfl) ()) (wbO (wbI (wab (wbY (wbT (wbV (waq Dis_part hr rfl (wae (wv 2 rfl) waf rfl) () rfl rfl) ())) (wbZ (wbS dh (waD am (wv 2 rfl) waC (λ_ _=>rfl)) (wv 1 rfl) (af _))))) (wbQ (wbK wah)) wbP) (wbQ (wbM 1 nd rfl (Ε rfl) (waD am (wv 2 rfl) waC (λ_ _=>rfl)) rfl ()))) ()) (wbQ (wbK wah)))))),?_⟩
 refine⟨_,rfl,v,_,_,_,rfl,R.ty,cb K d,_,rfl,?_⟩
 cases d with
 |tup ds=>
  obtain⟨a,vs,rfl,ha,rs⟩:=Rep.tup_inv R
  have hl:=rs.length
  have hds:smalls ds=true:=by
   simp only[Dv.small,ψ]at hsm
   exact hsm.1
  refine aG ?_
  refine⟨_,rfl,a,rfl,⟨vs,SqT.of ha⟩,qQ (xs:=vs) (λi σ H'=>∃(last:Str) (pv:Option V),σ=[some (.ref a),some (.str last),pv]/\ai H H'/\goD last (ds.drop i)=goD "" ds)
   ⟨"",none,rfl,ai.refl H,rfl⟩ (λi σ H' _ ⟨_,_,_,s1,_⟩=>SqT.of (s1 _ _ ha)) ?_ ?_⟩
  ·rintro i x σ H1 hi ⟨last,pv,rfl,s1,hg⟩
   obtain⟨d,hd,Rd⟩:=rs.get hi
   have hdi:ds.drop i=d::ds.drop (i+1):=by
    obtain⟨h1,h2⟩:=Θ.mp hd
    rw[m_ h1,h2]
   have hsd:=cO hds hd
   rw[hdi]at hg
   refine⟨_,rfl,x,d,rfl,Rd.mono s1,hsd,λH2 s2=>⟨_,rfl,?_⟩⟩
   have no:goD last (d::ds.drop (i+1))=false->∀H',ai H H'->Q (.bl false) H':=λe H' s'=>by
    have:=q H' s'
    rwa[show iX (.tup ds)=false by show goD "" ds=false;rw[<-hg,e]]at this
   cases c:eQ d with
   |false=>
    refine aF (aF (no ?_ H2 (s1.trans s2)))
    simp only[goD,c,Ϭ]
   |true=>
    obtain⟨nm,b,rfl,hh,_⟩:=jO c
    obtain⟨p,us,rfl,hp,ru⟩:=Rep.tup_inv Rd
    obtain⟨y,z,rfl,R0,R1⟩:=Reps.two ru
    obtain rfl:y=.str nm:=R0
    have hp2:H2 p=some (.tup [.str nm,z]):=s2 _ _ (s1 _ _ hp)
    refine aG ⟨_,rfl,p,_,0,.str nm,rfl,rfl,SqT.of hp2,ae (j:=0) rfl,_,rfl,_,_,rfl,rfl,_,rfl,?_⟩
    by_cases lt:last.cps.toList<nm.cps.toList
    ·rw[Q9 lt]
     refine aG ⟨_,rfl,p,_,0,.str nm,rfl,rfl,SqT.of hp2,ae (j:=0) rfl,nm,_,rfl,s1.trans s2,?_⟩
     rw[<-hg]
     simp only[goD,c,hh,ϳ]
     rw[Q9 lt,ϳ]
    ·rw[Q8 lt]
     refine aF (no ?_ H2 (s1.trans s2))
     simp only[goD,c,hh,ϳ]
     rw[Q8 lt,Ϭ]
  ·rintro σ H1 ⟨last,pv,rfl,s1,hg⟩
   have:=q H1 s1
   rw[show iX (.tup ds)=true by
    show goD "" ds=true
    rw[<-hg,hl,CD]
    rfl]at this
   exact this
 |_=>exact aF (q H (ai.refl H))
abbrev fk:Stmt:=top 14
abbrev fu:Stmt:=top 15
abbrev fc:Stmt:=top 16
abbrev eo:Stmt:=top 17
def fg:Dv->Int
 |.tup [_,.int n]=>n
 |_=>0
def Bi:Dv->Int
 |.tup (.int c::_)=>c
 |_=>0
def xc:Dv->List Dv
 |.tup [_,.tup ps]=>ps
 |_=>[]
def slD(d:Dv):Bool:=oj d&&(decide (Bi d<=99)&&(xc d).all λp=>decide (fg p<=99))
def gH:Dv->Bool
 |.tup (.str _::_)=>true
 |_=>false
def cJ:Dv->Bool
 |.tup [.str x]=>decide (x="whole")
 |.tup [.str x,l]=>decide (x="place")&&slD l
 |.tup [.str x,a,_]=>(decide (x="row")&&slD a)||decide (x="pair")
 |_=>false
def cT{α:Type}(x:Str)(r:List α):List α:=if x="row" then r.drop 1 else if x="pair" then r else []
theorem tZ{d:Dv}(h:oj d=true):∃c ps,d=.tup [.int c,.tup ps]/\0<=c/\goD "" ps=true:=by
 match d,h with
 |.tup [a,b],h=>
  simp only[oj,ψ]at h
  obtain⟨h1,h2,h3⟩:=h
  cases a with
  |int i=>
   cases b with
   |tup ps=>exact⟨i,ps,rfl,Q7 h2,h3⟩
   |_=>cases h3
  |_=>cases h1
theorem nJ:∀{l:Str}{ps:List Dv},goD l ps=true->∀p∈ps,eQ p=true
 |_,[],_,p,hp=>by cases hp
 |l,x::ps,h,p,hp=>by
  simp only[goD,ψ]at h
  rcases ν.mp hp with rfl|hp
  ·exact h.1
  ·exact nJ h.2.2 p hp
def yf:Sp:=λvs H Q _=>∃(a:Addr) (x:Str) (us:List V),vs=[.ref a]/\H a=some (.tup (.str x::us))/\(x="row"->us.length=2)/\(x="pair"->us.length=2)/\∀(l:Addr),H l=none->Q (.ref l) (upd H l (.lst (cT x us)))
theorem cX(x y:Str):decide (V.str x=V.str y)=decide (x=y):=by
 by_cases h:x=y
 ·rw[Q9 h,Q9 (by rw[h])]
 ·rw[Q8 h,Q8 (λz=>h (by injection z))]
theorem oY:ao ["thing"] ["thing"] (ah fk):=by trivial
theorem nZ{f:Addr}{fd:Η}{k:Nat}(F:Fun K "is_small_length" "is_small_length" fk f fd)(T:Txt K mg)(Dis_length:Def P w K mg base k "is_length" ["thing"] (spS oj)):
  aw P w K mg base CX0 (k+1) f fd ["thing"] (spS slD):=by
 refine F.ok oY (λvs H Q E h=>?_) (λcdv A outer s H vs Q E hr h=>?_)
 ·obtain⟨v,d,rfl,_⟩:=h
  rfl
 obtain⟨v,d,rfl,R,hsm,q⟩:=h
 refine⟨_,(@un _ _ _ (wbO (wbI (wab (wbY (wbT (wbV (waq Dis_length hr rfl (wae (wv 0 rfl) waf rfl) () rfl rfl) ())) (wbZ (wbS dX (waD am (wv 0 rfl) waC (λ_ _=>rfl)) ⟨T.g_GREATEST_NUMBER rfl⟩ (af _))))) (wbQ (wbK wah)) wbP) (wbQ (wbK (wal (fZ rfl) rfl T.all () (wae (waE (["name","times"]) [] (wbo (waD am (wv 0 rfl) waC (λ_ _=>rfl))) (.of rfl) rfl (λ_ _ _=>⟨pg_tup rfl (pgs_cons (pg_name (i:=0) (bp (l:=["name","times"]) (()) rfl) rfl (Ε rfl)) (pgs_cons (pg_name (i:=1) (bp (l:=["name","times"]) (()) rfl) rfl (Ε rfl)) pgs_nil))⟩) (iQ () ()) (λ_ _ _=>wbx) (λ_ _ _=>(wap fU (wv 1 rfl) ⟨T.g_GREATEST_NUMBER rfl⟩ (af _))) ()) waf rfl) () () rfl rfl))))),?_⟩
 dsimp only[bo,Cx.nox]
 refine⟨_,rfl,v,d,rfl,R,hsm,λH1 s1=>⟨_,rfl,?_⟩⟩
 cases c0:oj d with
 |false=>
  refine aF ?_
  have:=q H1 s1
  rwa[show slD d=false by unfold slD;rw[c0];rfl]at this
 |true=>
  refine aG ?_
  obtain⟨c,ps,rfl,hc,hg⟩:=tZ c0
  obtain⟨a,vs,rfl,ha,rs⟩:=Rep.tup_inv R
  obtain⟨x,y,rfl,R0,R1⟩:=Reps.two rs
  obtain rfl:x=.int c:=R0
  obtain⟨b,us,rfl,hb,ru⟩:=Rep.tup_inv R1
  have hps:ps.length<=1000:=by
   have:=(pF hsm).2
   simp only[Dv.small,ψ,decide_eq_true_eq]at this
   exact this.2
  have hl:=ru.length
  have e0:slD (.tup [.int c,.tup ps])=(decide (c<=99)&&ps.all λp=>decide (fg p<=99)):=by
   unfold slD;rw[c0];rfl
  refine⟨_,rfl,a,_,0,.int c,rfl,rfl,SqT.of (s1 _ _ ha),ae (j:=0) rfl,_,_,rfl,rfl,_,rfl,?_⟩
  refine ap (λh=>?_) (λh=>?_)
  ·have h':99<c:=Q7 h
   have:=q H1 s1
   rw[e0,Q8 (),Ϭ]at this
   exact this
  have h':c<=99:=by have:=of_decide_eq_false (p9.mpr h);omega
  have hb1:=s1 _ _ hb
  refine⟨_,rfl,a,_,1,.ref b,rfl,rfl,SqT.of (s1 _ _ ha),ae (j:=1) rfl,b,rfl,⟨us,SqT.of hb1⟩,pL (xs:=us) (λi ys H'=>H'=H1/\ys=(ps.take i).map λp=>V.bl (decide (fg p<=99))) ⟨rfl,rfl⟩ (λi ys H' _ p=>by rw[p.1];exact SqT.of hb1) ?_ ?_⟩
  ·rintro i ys H' x hx ⟨rfl,rfl⟩
   obtain⟨d,hd,Rd⟩:=ru.get hx
   obtain⟨hi,ed⟩:=Θ.mp hd
   obtain⟨nm,t,rfl,hh,_⟩:=jO (nJ hg d (ϊ hd))
   obtain⟨p,zs,rfl,hp,rz⟩:=Rep.tup_inv Rd
   obtain⟨y,z,rfl,Ry,Rz⟩:=Reps.two rz
   obtain rfl:y=.str nm:=Ry
   obtain rfl:z=.int t:=Rz
   refine eE (s1 _ _ hp) ⟨_,rfl,_,_,rfl,rfl,?_,rfl,?_⟩
   ·rw[η,Χ,ι];omega
   ·rw[Ϣ,hd,Ι]
    rfl
  ·rintro ys H' ⟨rfl,rfl⟩ r hr'
   rw[hl,ϛ]
   refine⟨r,ps.map λp=>decide (fg p<=99),rfl,SqL.of (by rw[aa,Ξ];rfl),?_⟩
   have:=q _ (s1.trans (ac hr' (.lst (ps.map λp=>V.bl (decide (fg p<=99))))))
   rw[e0,Q9 h',ϳ]at this
   rw[List.all_map]
   exact this
theorem oE:ao ["thing"] ["thing"] (ah fu):=by trivial
theorem nW{f:Addr}{fd:Η}(F:Fun K "has_word" "has_word" fu f fd)(T:Txt K mg):aw P w K mg base CX0 1 f fd ["thing"] (spD gH):=by
 refine F.ok oE (λvs H Q E h=>?_) (λcdv A outer s H vs Q E hr h=>?_)
 ·obtain⟨v,d,rfl,_⟩:=h
  rfl
 obtain⟨v,d,rfl,R,q⟩:=h
 refine⟨_,(@un _ _ _ (wbQ (wbK (wag (wal aS rfl T.isinstance () (wae (wv 0 rfl) (wae (wai (.ty "tuple") rfl T.tuple () rfl () ()) waf rfl) rfl) () () rfl rfl) (wag (wap dX (wal au rfl T.len () (wae (wv 0 rfl) waf rfl) () () rfl rfl) waC (af _)) (waP (wal aS rfl T.isinstance () (wae (waD am (wv 0 rfl) waC (λ_ _=>rfl)) (wae (wai (.ty "str") rfl T.str () rfl () ()) waf rfl) rfl) () () rfl rfl))))))),?_⟩
 dsimp only[bo,Cx.nox]
 refine⟨_,rfl,v,_,_,_,rfl,R.ty,cb K d,_,rfl,?_⟩
 cases d with
 |tup ds=>
  obtain⟨a,vs,rfl,ha,rs⟩:=Rep.tup_inv R
  refine aF ⟨_,rfl,a,vs,rfl,.inr (SqT.of ha),_,_,rfl,rfl,_,rfl,?_⟩
  cases ds with
  |nil=>
   simp only[Reps]at rs
   subst rs
   exact aG (q H (ai.refl H))
  |cons d0 ds=>
   simp only[Reps]at rs
   obtain⟨x,r,rfl,R0,rr⟩:=rs
   rw[show decide (((0:Int))<(((x::r).length:Nat):Int))=true from Q9 (by rw[ω];omega)]
   refine aF ⟨_,rfl,a,_,0,x,rfl,rfl,SqT.of ha,ae (j:=0) rfl,x,_,_,_,rfl,R0.ty,eM K d0,?_⟩
   have:=q H (ai.refl H)
   cases d0<;>exact this
 |_=>exact aG (q H (ai.refl H))
theorem jk{d:Dv}(h:gH d=true):∃x r,d=.tup (.str x::r):=by
 match d,h with
 |.tup (.str x::r),_=>exact⟨x,r,rfl⟩
theorem qG{d:Dv}(h:gH d=false):cJ d=false:=by
 match d,h with
 |.tup [.str x],h=>cases h
 |.tup [.str x,l],h=>cases h
 |.tup [.str x,a,b],h=>cases h
 |.tup (.str x::a::b::c::r),h=>cases h
 |.tup [],_=>rfl
 |.tup (.non::r),_=>rfl
 |.tup (.bl _::r),_=>rfl
 |.tup (.int _::r),_=>rfl
 |.tup (.tup _::r),_=>rfl
 |.tup (.lst _::r),_=>rfl
 |.tup (.dct::r),_=>rfl
 |.non,_=>rfl
 |.bl _,_=>rfl
 |.int _,_=>rfl
 |.str _,_=>rfl
 |.lst _,_=>rfl
 |.dct,_=>rfl
theorem w1:(γ "whole")≠(γ "place"):=by decide +kernel
theorem w2:(γ "whole")≠(γ "row"):=by decide +kernel
theorem w3:(γ "whole")≠(γ "pair"):=by decide +kernel
theorem w4:(γ "place")≠(γ "row"):=by decide +kernel
theorem w5:(γ "place")≠(γ "pair"):=by decide +kernel
theorem w6:(γ "row")≠(γ "pair"):=by decide +kernel
theorem xb{r:List Dv}:cJ (.tup (.str "whole" :: r))=decide (r.length=0):=by
 match r with
 |[]=>show decide (γ "whole"=γ "whole")=_;rw[Q9 rfl];rfl
 |[l]=>show(decide (γ "whole"=γ "place")&&slD l)=_;rw[Q8 w1];rfl
 |[a,b]=>show((decide (γ "whole"=γ "row")&&slD a)||decide (γ "whole"=γ "pair"))=_;rw[Q8 w2,Q8 w3];rfl
 |a::b::c::r=>rfl
theorem qZ{r:List Dv}:cJ (.tup (.str "place" :: r))=(decide (r.length=1)&&slD (r.headD .non)):=by
 match r with
 |[]=>show decide (γ "place"=γ "whole")=_;rw[Q8 (ϒ w1)];rfl
 |[l]=>show(decide (γ "place"=γ "place")&&slD l)=_;rw[Q9 rfl];rfl
 |[a,b]=>show((decide (γ "place"=γ "row")&&slD a)||decide (γ "place"=γ "pair"))=_;rw[Q8 w4,Q8 w5];rfl
 |a::b::c::r=>
  rw[Q8 ()];rfl
theorem xI{r:List Dv}:cJ (.tup (.str "row" :: r))=(decide (r.length=2)&&slD (r.headD .non)):=by
 match r with
 |[]=>show decide (γ "row"=γ "whole")=_;rw[Q8 (ϒ w2)];rfl
 |[l]=>show(decide (γ "row"=γ "place")&&slD l)=_;rw[Q8 (ϒ w4)];rfl
 |[a,b]=>show((decide (γ "row"=γ "row")&&slD a)||decide (γ "row"=γ "pair"))=_;rw[Q9 rfl,Q8 w6,Bool.or_false];rfl
 |a::b::c::r=>
  rw[Q8 ()];rfl
theorem zb{x:Str}{r:List Dv}(h1:x≠"whole")(h2:x≠"place")(h3:x≠"row"):cJ (.tup (.str x::r))=(decide (r.length=2)&&decide (x="pair")):=by
 match r with
 |[]=>show decide (x="whole")=_;rw[Q8 h1];rfl
 |[l]=>show(decide (x="place")&&slD l)=_;rw[Q8 h2];rfl
 |[a,b]=>show((decide (x="row")&&slD a)||decide (x="pair"))=_;rw[Q8 h3,Ϭ,Cw];rfl
 |a::b::c::r=>
  rw[Q8 ()];rfl
theorem ii{vs:List V}{r:List Dv}{x:V}(h:vs.length=r.length)(n m:Nat)(e:m=n+1):decide (V.int (((x::vs).length:Nat):Int)=V.int (m:Int))=decide (r.length=n):=by
 by_cases z:r.length=n
 ·rw[Q9 z,Q9 (by rw[ω,h,z,e])]
 ·rw[Q8 z,Q8 (λy=>z (by injection y with y;rw[ω,h]at y;omega))]
theorem mS:ao ["thing"] ["thing"] (ah fc):=by trivial
theorem nu{f:Addr}{fd:Η}{k:Nat}(F:Fun K "is_point" "is_point" fc f fd)(T:Txt K mg)(Dhas_word:Def P w K mg base k "has_word" ["thing"] (spD gH))(Dis_small_length:Def P w K mg base k "is_small_length" ["thing"] (spS slD)):
  aw P w K mg base CX0 (k+1) f fd ["thing"] (spS cJ):=by
 refine F.ok mS (λvs H Q E h=>?_) (λcdv A outer s H vs Q E hr h=>?_)
 ·obtain⟨v,d,rfl,_⟩:=h
  rfl
 obtain⟨v,d,rfl,R,hsm,q⟩:=h
 refine⟨_,(@un _ _ _ (wbO (wbI (wbT (wbV (waq Dhas_word hr rfl (wae (wv 0 rfl) waf rfl) () rfl rfl) ())) (wbQ (wbK wah)) wbP) (wbO (wbI (wbS av (waD am (wv 0 rfl) waC (λ_ _=>rfl)) waV (af _)) (wbQ (wbK (wap av (wal au rfl T.len () (wae (wv 0 rfl) waf rfl) () () rfl rfl) waC (af _)))) wbP) (wbO (wbI (wbS av (waD am (wv 0 rfl) waC (λ_ _=>rfl)) waV (af _)) (wbQ (wbK (wag (wap av (wal au rfl T.len () (wae (wv 0 rfl) waf rfl) () () rfl rfl) waC (af _)) (waP (waq Dis_small_length hr rfl (wae (waD am (wv 0 rfl) waC (λ_ _=>rfl)) waf rfl) () rfl rfl))))) wbP) (wbO (wbI (wbS av (waD am (wv 0 rfl) waC (λ_ _=>rfl)) waV (af _)) (wbQ (wbK (wag (wap av (wal au rfl T.len () (wae (wv 0 rfl) waf rfl) () () rfl rfl) waC (af _)) (waP (waq Dis_small_length hr rfl (wae (waD am (wv 0 rfl) waC (λ_ _=>rfl)) waf rfl) () rfl rfl))))) wbP) (wbQ (wbK (wag (wap av (wal au rfl T.len () (wae (wv 0 rfl) waf rfl) () () rfl rfl) waC (af _)) (waP (wap av (waD am (wv 0 rfl) waC (λ_ _=>rfl)) waV (af _))))))))))),?_⟩
 dsimp only[bo,Cx.nox]
 refine⟨_,rfl,v,d,rfl,R,λH1 s1=>⟨_,rfl,?_⟩⟩
 cases c0:gH d with
 |false=>
  refine aF ?_
  have:=q H1 s1
  rwa[qG c0]at this
 |true=>
  refine aG ?_
  obtain⟨x,r,rfl⟩:=jk c0
  obtain⟨a,vs,rfl,ha,rs⟩:=Rep.tup_inv (R.mono s1)
  simp only[Reps]at rs
  obtain⟨y,us,rfl,R0,ru⟩:=rs
  obtain rfl:y=.str x:=R0
  have hl:=ru.length
  refine⟨_,rfl,a,_,0,.str x,rfl,rfl,SqT.of ha,ae (j:=0) rfl,rfl,_,rfl,?_⟩
  show if decide (V.str x=V.str "whole")=true then _ else _
  rw[cX]
  by_cases h1:x="whole"
  ·subst h1
   rw[Q9 rfl]
   refine aF ⟨_,rfl,a,_,rfl,.inr (SqT.of ha),rfl,?_⟩
   have:=q H1 s1
   rw[xb,<-ii (x:=.str "whole") hl 0 1 rfl]at this
   exact this
  rw[Q8 h1]
  refine aG ⟨_,rfl,a,_,0,.str x,rfl,rfl,SqT.of ha,ae (j:=0) rfl,rfl,_,rfl,?_⟩
  show if decide (V.str x=V.str "place")=true then _ else _
  rw[cX]
  by_cases h2:x="place"
  ·subst h2
   rw[Q9 rfl]
   refine aF ⟨_,rfl,a,_,rfl,.inr (SqT.of ha),rfl,_,rfl,?_⟩
   show if decide (V.int _=V.int ((2:Nat):Int))=true then _ else _
   rw[ii (x:=.str "place") hl 1 2 rfl]
   by_cases z:r.length=1
   ·rw[Q9 z]
    match r,us,z,ru with
    |[l],us,_,ru=>
     simp only[Reps]at ru
     obtain⟨u,rest,rfl,Ru,rfl⟩:=ru
     refine aF ⟨_,rfl,a,_,1,u,rfl,rfl,SqT.of ha,ae (j:=1) rfl,u,l,rfl,Ru,cO (i:=1) (ds:=[.str "place",l]) (by simp only[Dv.small,ψ]at hsm;exact hsm.1) rfl,λH2 s2=>?_⟩
     have:=q H2 (s1.trans s2)
     rw[qZ]at this
     exact this
   ·rw[Q8 z]
    refine aG ?_
    have:=q H1 s1
    rw[qZ,Q8 z]at this
    exact this
  rw[Q8 h2]
  refine aG ⟨_,rfl,a,_,0,.str x,rfl,rfl,SqT.of ha,ae (j:=0) rfl,rfl,_,rfl,?_⟩
  show if decide (V.str x=V.str "row")=true then _ else _
  rw[cX]
  by_cases h3:x="row"
  ·subst h3
   rw[Q9 rfl]
   refine aF ⟨_,rfl,a,_,rfl,.inr (SqT.of ha),rfl,_,rfl,?_⟩
   show if decide (V.int _=V.int ((3:Nat):Int))=true then _ else _
   rw[ii (x:=.str "row") hl 2 3 rfl]
   by_cases z:r.length=2
   ·rw[Q9 z]
    match r,us,z,ru with
    |[l,m],us,_,ru=>
     obtain⟨u,u',rfl,Ru,Ru'⟩:=Reps.two ru
     refine aF ⟨_,rfl,a,_,1,u,rfl,rfl,SqT.of ha,ae (j:=1) rfl,u,l,rfl,Ru,cO (i:=1) (ds:=[.str "row",l,m]) (by simp only[Dv.small,ψ]at hsm;exact hsm.1) rfl,λH2 s2=>?_⟩
     have:=q H2 (s1.trans s2)
     rw[xI]at this
     exact this
   ·rw[Q8 z]
    refine aG ?_
    have:=q H1 s1
    rw[xI,Q8 z]at this
    exact this
  rw[Q8 h3]
  refine aG ⟨_,rfl,a,_,rfl,.inr (SqT.of ha),rfl,_,rfl,?_⟩
  show if decide (V.int _=V.int ((3:Nat):Int))=true then _ else _
  rw[ii (x:=.str x) hl 2 3 rfl]
  have qq:=q H1 s1
  rw[zb h1 h2 h3]at qq
  by_cases z:r.length=2
  ·rw[Q9 z]at qq⊢
   refine aF ⟨_,rfl,a,_,0,.str x,rfl,rfl,SqT.of ha,ae (j:=0) rfl,rfl,?_⟩
   rw[ϳ,<-cX]at qq
   exact qq
  ·rw[Q8 z]at qq⊢
   exact aG qq
theorem pN:ao ["point"] ["point"] (ah eo):=by trivial
theorem qu{f:Addr}{fd:Η}(F:Fun K "things_of" "things_of" eo f fd)(T:Txt K mg):aw P w K mg base CX0 1 f fd ["point"] yf:=by
 refine F.ok pN (λvs H Q E h=>?_) (λcdv A outer s H vs Q E hr h=>?_)
 ·obtain⟨a,x,us,rfl,_⟩:=h
  rfl
 obtain⟨a,x,us,rfl,ha,hr2,hp2,q⟩:=h
 refine⟨_,(@un _ _ _ (wbO (wbI (wbS av (waD am (wv 0 rfl) waC (λ_ _=>rfl)) waV (af _)) (wbQ (wbK (waM (wae (waD am (wv 0 rfl) waC (λ_ _=>rfl)) waf rfl)))) wbP) (wbO (wbI (wbS av (waD am (wv 0 rfl) waC (λ_ _=>rfl)) waV (af _)) (wbQ (wbK (waM (wae (waD am (wv 0 rfl) waC (λ_ _=>rfl)) (wae (waD am (wv 0 rfl) waC (λ_ _=>rfl)) waf rfl) rfl)))) wbP) (wbQ (wbK (waM waf)))))),?_⟩
 dsimp only[bo,Cx.nox]
 refine⟨_,rfl,a,_,0,.str x,rfl,rfl,SqT.of ha,ae (j:=0) rfl,rfl,_,rfl,?_⟩
 show if decide (V.str x=V.str "row")=true then _ else _
 rw[cX]
 by_cases h1:x="row"
 ·subst h1
  have hl:=hr2 rfl
  match us,hl with
  |[u,u'],_=>
   rw[Q9 rfl]
   refine aF ⟨_,rfl,a,_,2,u',rfl,rfl,SqT.of ha,ae (j:=2) rfl,z1,λl hl=>q l hl⟩
 rw[Q8 h1]
 refine aG ⟨_,rfl,a,_,0,.str x,rfl,rfl,SqT.of ha,ae (j:=0) rfl,rfl,_,rfl,?_⟩
 show if decide (V.str x=V.str "pair")=true then _ else _
 rw[cX]
 by_cases h2:x="pair"
 ·subst h2
  have hl:=hp2 rfl
  match us,hl with
  |[u,u'],_=>
   rw[Q9 rfl]
   refine aF ⟨_,rfl,a,_,1,u,rfl,rfl,SqT.of ha,ae (j:=1) rfl,_,rfl,a,_,2,u',rfl,rfl,SqT.of ha,ae (j:=2) rfl,z2,λl hl=>?_⟩
   have:=q l hl
   rw[show cT (γ "pair") [u,u']=[u,u'] by unfold cT;rw[Q6 (ϒ w6),Q5 rfl]]at this
   exact this
 rw[Q8 h2]
 refine aG ⟨Υ _,λl hl=>?_⟩
 have:=q l hl
 rw[show cT x us=[] by unfold cT;rw[Q6 h1,Q6 h2]]at this
 exact this
abbrev gB:Stmt:=top 18
def aK:Dv->Nat
 |.tup [.str x]=>if x="whole" then 1 else 99
 |.tup [.str x,l]=>if x="place"/\slD l=true then 1 else 99
 |.tup [.str x,a,b]=>if x="pair" then 1+aK a+aK b else if x="row"/\slD a=true then 1+aK b else 99
 |_=>99
termination_by d=>sizeOf d
decreasing_by all_goals simp_wf;omega
theorem rK{d:Dv}(h:cJ d=false):aK d=99:=by
 match d,h with
 |.tup [.str x],h=>
  rw[aK,Q6 (of_decide_eq_false h)]
 |.tup [.str x,l],h=>
  rw[aK,Q6 (λz=>by
   have h':(decide (x="place")&&slD l)=false:=h
   rw[Q9 z.1,z.2]at h';cases h')]
 |.tup [.str x,a,b],h=>
  have h':((decide (x="row")&&slD a)||decide (x="pair"))=false:=h
  rw[Bool.or_eq_false_iff]at h'
  rw[aK,Q6 (of_decide_eq_false h'.2),Q6 (λz=>by
   have h2:=h'.1
   rw[Q9 z.1,z.2]at h2;cases h2)]
 |.tup (.str x::a::b::c::r),_=>rw[aK]<;>simp
 |.tup [],_=>rw[aK]<;>simp
 |.tup (.non::r),_=>rw[aK]<;>simp
 |.tup (.bl _::r),_=>rw[aK]<;>simp
 |.tup (.int _::r),_=>rw[aK]<;>simp
 |.tup (.tup _::r),_=>rw[aK]<;>simp
 |.tup (.lst _::r),_=>rw[aK]<;>simp
 |.tup (.dct::r),_=>rw[aK]<;>simp
 |.non,_=>rw[aK]<;>simp
 |.bl _,_=>rw[aK]<;>simp
 |.int _,_=>rw[aK]<;>simp
 |.str _,_=>rw[aK]<;>simp
 |.lst _,_=>rw[aK]<;>simp
 |.dct,_=>rw[aK]<;>simp
theorem gX{d:Dv}(h:cJ d=true):∃x r,d=.tup (.str x::r)/\(x="row"->r.length=2)/\(x="pair"->r.length=2)/\aK d=1+((cT x r).map aK).sum:=by
 match d,h with
 |.tup [.str x],h=>
  have h':x="whole":=Q7 h
  subst h'
  exact⟨_,_,rfl,λz=>absurd z w2,λz=>absurd z w3,by rw[aK,Q5 rfl];unfold cT;rw[Q6 w2,Q6 w3];rfl⟩
 |.tup [.str x,l],h=>
  have h':(decide (x="place")&&slD l)=true:=h
  rw[ψ]at h'
  have e:x="place":=Q7 h'.1
  subst e
  exact⟨_,_,rfl,λz=>absurd z w4,λz=>absurd z w5,by rw[aK,Q5 ⟨rfl,h'.2⟩];unfold cT;rw[Q6 w4,Q6 w5];rfl⟩
 |.tup [.str x,a,b],h=>
  have h':((decide (x="row")&&slD a)||decide (x="pair"))=true:=h
  rw[CO,ψ]at h'
  refine⟨x,_,rfl,λ_=>rfl,λ_=>rfl,?_⟩
  rw[aK]
  rcases h' with ⟨h1,h2⟩|h1
  ·have e:x="row":=Q7 h1
   subst e
   rw[Q6 w6,Q5 ⟨rfl,h2⟩]
   unfold cT
   rw[Q5 rfl]
   simp
  ·have e:x="pair":=Q7 h1
   subst e
   rw[Q5 rfl]
   unfold cT
   rw[Q6 (ϒ w6),Q5 rfl]
   simp[Nat.add_assoc]
theorem size_pos(d:Dv):1<=aK d:=by
 cases h:cJ d with
 |false=>rw[rK h];decide
 |true=>obtain⟨x,r,_,_,_,e⟩:=gX h;rw[e];omega
theorem ug{H:Hp}{x:Str}{r:List Dv}{us:List V}(h:Reps H r us):Reps H (cT x r) (cT x us):=by
 unfold cT
 split
 ·match r,us,h with
  |[],us,h=>simp only[Reps]at h;subst h;simp only[List.drop_nil,Reps]
  |d::r,us,h=>simp only[Reps]at h;obtain⟨v,q,rfl,_,h2⟩:=h;exact h2
 ·split
  ·exact h
  ·simp only[Reps]
theorem qw{x:Str}{r:List Dv}(h:smalls r=true):smalls (cT x r)=true:=by
 unfold cT
 split
 ·match r,h with
  |[],_=>rfl
  |d::r,h=>simp only[smalls,ψ]at h;exact h.2
 ·split
  ·exact h
  ·rfl
theorem nj{α:Type}{x:Str}{r:List α}(h1:x="row"->r.length=2)(h2:x="pair"->r.length=2):(cT x r).length<=2:=by
 unfold cT
 split
 ·rename_i e;rw[ϭ,h1 e];decide
 ·split
  ·rename_i e;rw[h2 e];exact π _
  ·exact Υ _
theorem ja:∀{xs ys:List Dv},smalls xs=true->smalls ys=true->smalls (xs++ys)=true
 |[],_,_,h=>h
 |x::xs,ys,g,h=>by
  simp only[smalls,ψ,ϯ]at g⊢
  exact⟨g.1,ja g.2 h⟩
theorem gQ:∀{xs:List Dv}{y:Dv},smalls (xs++[y])=true->smalls xs=true/\y.small=true
 |[],y,h=>by simpa[smalls]using h
 |x::xs,y,h=>by
  simp only[smalls,ψ,ϯ]at h⊢
  have:=gQ h.2
  exact⟨⟨h.1,this.1⟩,this.2⟩
theorem kW{H:Hp}{l:Addr}{o:HO}:ai (aZ H l) (aZ (upd H l o) l):=λb u h=>by
 unfold aZ at h⊢
 split at h
 ·cases h
 ·rename_i e;rw[Q6 e,aq e];exact h
def oO:Sp:=spS λd=>decide (aK d<=12)
theorem jP:ao ["thing","size","waiting","point"] ["thing"] (ah gB):=by trivial
theorem qA{f:Addr}{fd:Η}{k:Nat}(F:Fun K "is_kind" "is_kind" gB f fd)(T:Txt K mg)(Dis_point:Def P w K mg base k "is_point" ["thing"] (spS cJ))(Dthings_of:Def P w K mg base k "things_of" ["point"] yf):
  aw P w K mg base CX0 (k+1) f fd ["thing"] oO:=by
 have nd:=jP.nd
 refine F.ok jP (λvs H Q E h=>?_) (λcdv A outer s H vs Q E hr h=>?_)
 ·obtain⟨v,d,rfl,_⟩:=h
  rfl
 obtain⟨v,d,rfl,R,hsm,q⟩:=h
 replace q:∀(H':Hp),ai H H'->Q (V.bl (decide (aK d<=12))) H':=q
 refine⟨_,(@un _ _ _ (wbO (wbM 1 nd rfl (Ε rfl) waC rfl ()) (wbO (wbM 2 nd rfl (Ε rfl) (waM (wae (wv 0 rfl) waf rfl)) rfl ()) (wbO (wbN ϫ (wbU (wv 2 rfl) (λ_=>rfl)) (wbO (wbM 3 nd rfl (Ε rfl) (wak Ω PySem.F.slot_list_pop PySem.F.type_list_pop uu (wv 2 rfl) rfl rfl) rfl ()) (wbO (wbE 1 nd rfl (Ε rfl) waC uG ()) (wbO (wbI (wab (wbY (wbS dX (wv 1 rfl) ⟨T.g_GREATEST_SIZE rfl⟩ (af _)) (wbZ (wbT (wbV (waq Dis_point hr rfl (wae (wv 3 rfl) waf rfl) () rfl rfl) ()))))) (wbQ (wbK wah)) wbP) (wbQ (wbG (waj Ω A7 A8 kh (wv 2 rfl) (wae (waq Dthings_of hr rfl (wae (wv 3 rfl) waf rfl) () rfl rfl) waf rfl) rfl rfl rfl rfl rfl) rfl)))))) (wbQ (wbK wah)))))),?_⟩
 dsimp only[bo,Cx.nox]
 refine⟨_,rfl,z1,λW1 hW=>?_⟩
 have q1:=ac hW (.lst [v])
 refine jz (λm σ H'=>∃(o3:Option V) (sz:Nat) (ws:List Dv) (vs:List V),σ=[some v,some (.int sz),some (.ref W1),o3]/\ai H (aZ H' W1)/\H' W1=some (.lst vs)/\Reps (aZ H' W1) ws vs/\smalls ws=true/\(sz+(ws.map aK).sum<=12↔aK d<=12)/\m=12-sz/\sz<=12/\ws.length<=1+sz) 12
  ⟨_,0,[d],[v],rfl,fX q1 hW,aa,be (R.mono (fX q1 hW)),by simp only[smalls,hsm,Bool.and_self],(),rfl,(),π _⟩ ?_ jI
 rintro m σ H1 D1 gR gD ⟨o3,sz,ws,vs,rfl,s1,w1,R1,sm,eq,rfl,s12,lw⟩
 have s01:ai H H1:=s1.trans bw
 refine⟨_,rfl,_,.inl ⟨vs,SqL.of w1,rfl⟩,?_⟩
 by_cases ne:ws=[]
 ·subst ne
  have e:vs=[]:=by simpa only[Reps]using R1
  subst e
  refine aG ?_
  have:=q H1 s01
  rw[Q9 (eq.mp (by simpa using s12))]at this
  exact this
 ·obtain⟨w0,x,rfl⟩:=mz ne
  obtain⟨v0,u,rfl,Ra,Ru⟩:=gx R1
  have e:(!(v0++[u]).isEmpty)=true:=by simp
  rw[e]
  refine aF ?_
  rw[Ι,Bp,Ο,o_,l7,List.sum_nil]at eq
  rw[Ζ,Ϫ]at lw
  obtain⟨sm0,smx⟩:=gQ sm
  refine⟨_,rfl,.inl ⟨rfl,_,SqL.of w1⟩,W1,_,_,rfl,rfl,w1,mM _ _,?_⟩
  rw[List.dropLast_concat]
  have t2:ai (aZ H1 W1) (aZ (upd H1 W1 (.lst v0)) W1):=kW
  have w2:upd H1 W1 (.lst v0) W1=some (.lst v0):=aa
  have s02:ai H _:=s1.trans (t2.trans bw)
  generalize upd H1 W1 (.lst v0)=H2 at t2 w2 s02⊢
  have xp:=size_pos x
  refine⟨_,rfl,_,_,rfl,rfl,?_⟩
  refine⟨_,rfl,_,_,rfl,rfl,_,rfl,?_⟩
  refine ap (λh=>?_) (λh=>?_)
  ·have h':(12:Int)<(sz:Int)+1:=Q7 h
   have:=q H2 s02
   rw[Q8 (λz=>by have:=eq.mpr z;omega)]at this
   exact aF (gR _ _ this)
  have h':sz+1<=12:=by have z:¬ ((12:Int)<(sz:Int)+1):=of_decide_eq_false (p9.mpr h);omega
  refine⟨_,rfl,u,x,rfl,Ru.mono (t2.trans bw),smx,λH3 s3=>⟨_,rfl,?_⟩⟩
  have s03:=s02.trans s3
  cases c:cJ x with
  |false=>
   have:=q H3 s03
   rw[Q8 (λz=>by have:=eq.mpr z;rw[rK c]at this;omega)]at this
   exact aF (gR _ _ this)
  |true=>
   refine aG ?_
   obtain⟨wd,r,rfl,k1,k2,es⟩:=gX c
   have Rx:Rep (aZ H3 W1) (.tup (.str wd::r)) u:=Ru.mono (t2.trans (bq s3))
   obtain⟨a,us,rfl,ha,rs⟩:=Rep.tup_inv Rx
   simp only[Reps]at rs
   obtain⟨y,ur,rfl,R0,ru⟩:=rs
   obtain rfl:y=.str wd:=R0
   have hl:=ru.length
   have w3:=s3 _ _ w2
   have lk:(cT wd ur).length<=2:=nj (λz=>by rw[hl];exact k1 z) (λz=>by rw[hl];exact k2 z)
   have lv:v0.length<=12:=by rw[Ra.length];omega
   refine⟨_,rfl,.inl ⟨rfl,_,SqL.of w3⟩,_,rfl,a,wd,ur,rfl,bw _ _ ha,λz=>by rw[hl];exact k1 z,λz=>by rw[hl];exact k2 z,λl hl4=>?_⟩
   have q4:=ac hl4 (.lst (cT wd ur))
   refine⟨W1,l,_,_,rfl,rfl,q4 _ _ w3,aa,by rw[ι];omega,?_⟩
   have t5:ai (aZ H3 W1) (aZ (upd (upd H3 l (.lst (cT wd ur))) W1 (.lst (v0++cT wd ur))) W1):=(bq q4).trans kW
   have t15:=t2.trans ((bq s3).trans t5)
   refine gD (12-(sz+1)) _ _ () ⟨_,sz+1,w0++cT wd r,v0++cT wd ur,rfl,s1.trans t15,aa,Reps.append (Ra.mono t15) ((ug ru).mono t5),ja sm0 (qw (by simp only[Dv.small,smalls,ψ]at smx;exact smx.1.2)),?_,rfl,h',?_⟩
   ·rw[<-eq,es,Ι,Bp]
    constructor<;>intro z<;>omega
   ·have:=nj (α:=Dv) k1 k2
    rw[Ζ];omega
abbrev eW:Stmt:=top 19
abbrev df:Stmt:=top 26
abbrev iL:Stmt:=top 27
abbrev qI:Stmt:=top 28
def jj(b:Int):Dv->Bool
 |.int i=>decide (0<=i)&&decide (i<b)
 |_=>false
def mU(b:Int):Dv->Bool
 |.tup ds=>decide (b<=(ds.length:Int))&&decide ((ds.length:Int)<=4)
 |_=>false
def ca(x:Str):Bool:=inV (.str x) (mO.map V.str)
def cv(x:Str):Bool:=WT.any λp=>decide (p.1=x)
def tS:Dv->Bool
 |.str x=>nmB x&&(!cv x && !ca x)
 |_=>false
def uY:Dv->Bool
 |.str x=>ca x
 |_=>false
def sY:So->Dv->Bool
 |.n,d=>jj 1000000000000 d
 |.x,d=>cW d
 |.y,d=>cW d
 |.l,d=>slD d
 |.k,d=>decide (aK d<=12)
 |.w,d=>uY d
 |.f,d=>tS d
 |.a,d=>mU 0 d
 |.r,d=>mU 1 d
 |.e,_=>true
def rF:Sp:=λvs H Q _=>∃(v:V) (d:Dv) (b:Int),vs=[v,.int b]/\Rep H d v/\∀H',ai H H'->Q (.bl (jj b d)) H'
def ye:Sp:=λvs H Q _=>∃(v:V) (d:Dv) (b:Int),vs=[v,.int b]/\Rep H d v/\∀H',ai H H'->Q (.bl (mU b d)) H'
def uQ:Sp:=λvs H Q _=>∃(s:So) (v:V) (d:Dv),vs=[.str (srt s),v]/\Rep H d v/\d.small=true/\∀H',ai H H'->Q (.bl (sY s d)) H'
theorem pc:ao ["thing","bound"] ["thing","bound"] (ah eW):=by trivial
theorem oQ{f:Addr}{fd:Η}{k:Nat}(F:Fun K "is_below" "is_below" eW f fd)(T:Txt K mg)(Dis_whole:Def P w K mg base k "is_whole" ["thing"] (spD bX)):aw P w K mg base CX0 (k+1) f fd ["thing","bound"] rF:=by
 refine F.ok pc (λvs H Q E h=>?_) (λcdv A outer s H vs Q E hr h=>?_)
 ·obtain⟨v,d,b,rfl,_⟩:=h
  rfl
 obtain⟨v,d,b,rfl,R,q⟩:=h
 refine⟨_,(@un _ _ _ (wbQ (wbK (wag (waq Dis_whole hr rfl (wae (wv 0 rfl) waf rfl) () rfl rfl) (waP (wao fU gY waC (wv 0 rfl) (wv 1 rfl) (by with_unfolding_all rfl))))))),?_⟩
 refine⟨_,rfl,v,d,rfl,R,λH1 s1=>⟨_,rfl,?_⟩⟩
 have qq:=q H1 s1
 cases d with
 |int i=>
  obtain rfl:v=.int i:=R
  refine aF ⟨_,rfl,_,_,rfl,rfl,_,rfl,?_⟩
  have qq':Q (.bl (decide (0<=i)&&decide (i<b))) H1:=qq
  by_cases h:0<=i
  ·rw[Q9 h]at qq'⊢
   exact aF ⟨_,rfl,_,_,rfl,rfl,qq'⟩
  ·rw[Q8 h]at qq'⊢
   exact aG qq'
 |_=>exact aG qq
theorem tV:ao ["thing","least"] ["thing","least"] (ah iL):=by trivial
theorem tG{f:Addr}{fd:Η}(F:Fun K "is_few" "is_few" iL f fd)(T:Txt K mg):aw P w K mg base CX0 1 f fd ["thing","least"] ye:=by
 refine F.ok tV (λvs H Q E h=>?_) (λcdv A outer s H vs Q E hr h=>?_)
 ·obtain⟨v,d,b,rfl,_⟩:=h
  rfl
 obtain⟨v,d,b,rfl,R,q⟩:=h
 refine⟨_,(@un _ _ _ (wbQ (wbK (wag (wal aS rfl T.isinstance () (wae (wv 0 rfl) (wae (wai (.ty "tuple") rfl T.tuple () rfl () ()) waf rfl) rfl) () () rfl rfl) (waP (wao fU fU (wv 1 rfl) (wal au rfl T.len () (wae (wv 0 rfl) waf rfl) () () rfl rfl) ⟨T.g_MOST_THINGS rfl⟩ (by with_unfolding_all rfl))))))),?_⟩
 have qq:=q H (ai.refl H)
 refine⟨_,rfl,v,_,_,_,rfl,R.ty,cb K d,_,rfl,?_⟩
 cases d with
 |tup ds=>
  obtain⟨a,vs,rfl,ha,rs⟩:=Rep.tup_inv R
  have hl:=rs.length
  refine aF ⟨_,rfl,_,rfl,a,vs,rfl,.inr (SqT.of ha),_,_,rfl,rfl,_,rfl,?_⟩
  have qq':Q (.bl (decide (b<=(ds.length:Int))&&decide ((ds.length:Int)<=4))) H:=qq
  rw[<-hl]at qq'
  by_cases h:b<=(vs.length:Int)
  ·rw[Q9 h]at qq'⊢
   exact aF ⟨_,_,rfl,rfl,qq'⟩
  ·rw[Q8 h]at qq'⊢
   exact aG qq'
 |_=>exact aG qq
theorem jq:ao ["thing"] ["thing"] (ah df):=by trivial
theorem iY{f gS gR:Addr}{fd:Η}{k:Nat}(F:Fun K "is_def_name" "is_def_name" df f fd)(T:Txt K mg)(S:Shp P w K gS)(GS:mg "SHAPES"=some (.ref gS))(GR:mg "RECKONS"=some (.ref gR))(hR:∀H,SqT K H gR (mO.map V.str))(Dis_name:Def P w K mg base k "is_name" ["thing"] (spS cW)):aw P w K mg base CX0 (k+1) f fd ["thing"] (spS tS):=by
 refine F.ok jq (λvs H Q E h=>?_) (λcdv A outer s H vs Q E hr h=>?_)
 ·obtain⟨v,d,rfl,_⟩:=h
  rfl
 obtain⟨v,d,rfl,R,sm,q⟩:=h
 obtain⟨kvs,FS,_,hS⟩:=S.ex
 refine⟨_,(@un _ _ _ (wbQ (wbK (wag (waq Dis_name hr rfl (wae (wv 0 rfl) waf rfl) () rfl rfl) (wag (wap (kr FS) (wv 0 rfl) (waB (.ref gS) rfl GS rfl ()) (by with_unfolding_all rfl)) (waP (wap fD (wv 0 rfl) (waB (.ref gR) rfl GR rfl ()) (by with_unfolding_all rfl)))))))),?_⟩
 refine⟨_,rfl,v,d,rfl,R,sm,λH1 s1=>⟨_,rfl,?_⟩⟩
 have qq:=q H1 s1
 cases d with
 |str x=>
  obtain rfl:v=.str x:=R
  have qq':Q (.bl (nmB x&&(!cv x && !ca x))) H1:=qq
  show if nmB x=true then _ else _
  cases hn:nmB x with
  |false=>rw[hn]at qq';exact aG qq'
  |true=>
   rw[hn]at qq'
   refine aF ⟨_,rfl,x,rfl,rfl,_,rfl,?_⟩
   rw[hS x]
   show if xor true (cv x)=true then _ else _
   cases hw:cv x with
   |true=>rw[hw]at qq';exact aG qq'
   |false=>
    rw[hw]at qq'
    exact aF ⟨_,rfl,gR,_,rfl,.inr (hR _),rfl,(),qq'⟩
 |_=>exact aG qq
theorem wR:ao ["sort","thing"] ["sort","thing"] (ah qI):=by trivial
theorem xm{f gR:Addr}{fd:Η}{k:Nat}(F:Fun K "fits" "fits" qI f fd)(T:Txt K mg)(GR:mg "RECKONS"=some (.ref gR))(hR:∀H,SqT K H gR (mO.map V.str))(Dis_below:Def P w K mg base k "is_below" ["thing","bound"] rF)(Dis_name:Def P w K mg base k "is_name" ["thing"] (spS cW))(Dis_small_length:Def P w K mg base k "is_small_length" ["thing"] (spS slD))(Dis_kind:Def P w K mg base k "is_kind" ["thing"] oO)(Dis_def_name:Def P w K mg base k "is_def_name" ["thing"] (spS tS))(Dis_few:Def P w K mg base k "is_few" ["thing","least"] ye):aw P w K mg base CX0 (k+1) f fd ["sort","thing"] uQ:=by
 refine F.ok wR (λvs H Q E h=>?_) (λcdv A outer s H vs Q E hr h=>?_)
 ·obtain⟨s,v,d,rfl,_⟩:=h
  rfl
 obtain⟨so,v,d,rfl,R,sm,q⟩:=h
 refine⟨_,(@un _ _ _ (wbO (wbI (wbS av (wv 0 rfl) waV (af _)) (wbQ (wbK (waq Dis_below hr rfl (wae (wv 1 rfl) (wae ⟨T.g_WHOLE_BOUND rfl⟩ waf rfl) rfl) () rfl rfl))) wbP) (wbO (wbI (wbS av (wv 0 rfl) waV (af _)) (wbQ (wbK (waq Dis_name hr rfl (wae (wv 1 rfl) waf rfl) () rfl rfl))) wbP) (wbO (wbI (wbS av (wv 0 rfl) waV (af _)) (wbQ (wbK (waq Dis_small_length hr rfl (wae (wv 1 rfl) waf rfl) () rfl rfl))) wbP) (wbO (wbI (wbS av (wv 0 rfl) waV (af _)) (wbQ (wbK (waq Dis_kind hr rfl (wae (wv 1 rfl) waf rfl) () rfl rfl))) wbP) (wbO (wbI (wbS av (wv 0 rfl) waV (af _)) (wbQ (wbK (wag (wal aS rfl T.isinstance () (wae (wv 1 rfl) (wae (wai (.ty "str") rfl T.str () rfl () ()) waf rfl) rfl) () () rfl rfl) (waP (wap kb (wv 1 rfl) (waB (.ref gR) rfl GR rfl ()) (by with_unfolding_all rfl)))))) wbP) (wbO (wbI (wbS av (wv 0 rfl) waV (af _)) (wbQ (wbK (waq Dis_def_name hr rfl (wae (wv 1 rfl) waf rfl) () rfl rfl))) wbP) (wbO (wbI (wbS av (wv 0 rfl) waV (af _)) (wbQ (wbK (waq Dis_few hr rfl (wae (wv 1 rfl) (wae waC waf rfl) rfl) () rfl rfl))) wbP) (wbO (wbI (wbS av (wv 0 rfl) waV (af _)) (wbQ (wbK (waq Dis_few hr rfl (wae (wv 1 rfl) (wae waC waf rfl) rfl) () rfl rfl))) wbP) (wbQ (wbK wah))))))))))),?_⟩
 refine⟨_,rfl,rfl,_,rfl,ap (λh=>?_) (λh1=>?_)⟩
 ·have e:=(ya so).mp (Q7 h)
  subst e
  exact⟨_,rfl,v,d,_,rfl,R,q⟩
 refine⟨_,rfl,rfl,_,rfl,ap (λh=>?_) (λh2=>?_)⟩
 ·rcases(pd so).mp (Q7 h)with e|e
  ·subst e;exact⟨_,rfl,v,d,rfl,R,sm,q⟩
  ·subst e;exact⟨_,rfl,v,d,rfl,R,sm,q⟩
 refine⟨_,rfl,rfl,_,rfl,ap (λh=>?_) (λh3=>?_)⟩
 ·have e:=(kQ so).mp (Q7 h)
  subst e
  exact⟨_,rfl,v,d,rfl,R,sm,q⟩
 refine⟨_,rfl,rfl,_,rfl,ap (λh=>?_) (λh4=>?_)⟩
 ·have e:=(kz so).mp (Q7 h)
  subst e
  exact⟨_,rfl,v,d,rfl,R,sm,q⟩
 refine⟨_,rfl,rfl,_,rfl,ap (λh=>?_) (λh5=>?_)⟩
 ·have e:=(xM so).mp (Q7 h)
  subst e
  refine⟨_,rfl,v,_,_,_,rfl,R.ty,eM K d,_,rfl,?_⟩
  have qq:=q H (ai.refl H)
  cases d with
  |str x=>
   obtain rfl:v=.str x:=R
   exact aF ⟨_,rfl,gR,_,rfl,.inr (hR _),rfl,(),qq⟩
  |_=>exact aG qq
 refine⟨_,rfl,rfl,_,rfl,ap (λh=>?_) (λh6=>?_)⟩
 ·have e:=(yc so).mp (Q7 h)
  subst e
  exact⟨_,rfl,v,d,rfl,R,sm,q⟩
 refine⟨_,rfl,rfl,_,rfl,ap (λh=>?_) (λh7=>?_)⟩
 ·have e:=(og so).mp (Q7 h)
  subst e
  exact⟨_,rfl,v,d,_,rfl,R,q⟩
 refine⟨_,rfl,rfl,_,rfl,ap (λh=>?_) (λh8=>?_)⟩
 ·have e:=(oC so).mp (Q7 h)
  subst e
  exact⟨_,rfl,v,d,_,rfl,R,q⟩
 have e:so=.e:=by
  cases so with
  |e=>rfl
  |n=>exact absurd (Q9 ((ya .n).mpr rfl)) h1
  |x=>exact absurd (Q9 ((pd .x).mpr (.inl rfl))) h2
  |y=>exact absurd (Q9 ((pd .y).mpr (.inr rfl))) h2
  |l=>exact absurd (Q9 ((kQ .l).mpr rfl)) h3
  |k=>exact absurd (Q9 ((kz .k).mpr rfl)) h4
  |w=>exact absurd (Q9 ((xM .w).mpr rfl)) h5
  |f=>exact absurd (Q9 ((yc .f).mpr rfl)) h6
  |a=>exact absurd (Q9 ((og .a).mpr rfl)) h7
  |r=>exact absurd (Q9 ((oC .r).mpr rfl)) h8
 subst e
 exact q H (ai.refl H)
abbrev gv:Stmt:=top 29
abbrev fe:Stmt:=top 30
def rO:Sp:=λvs H Q _=>∃(v:V) (d:Dv) (G:Hp),vs=[v]/\ai G H/\Rep G d v/\yX d/\∀(H':Hp)(l:Addr)(us:List V),ai H H'->H l=none->H' l=some (.lst us)->Reps G (cL d) us->Q (.ref l) H'
def okF:List So->List Dv->Bool
 |[],[]=>true
 |s::ss,d::ds=>sY s d&&okF ss ds
 |_,_=>false
def jg:List Dv->Bool
 |.str x::_::.str y::_=>decide (x≠y)
 |_=>false
def dR:Dv->Bool
 |.tup (.str w::ds)=>match WT.find? (λq=>decide (q.1=w))with
  |some p=>okF p.2.2 ds&&(decide (w≠"fold")||jg ds)
  |none=>false
 |_=>false
theorem uf{d:Dv}(h:gH d=false):dR d=false:=by
 match d,h with
 |.tup (.str x::r),h=>cases h
 |.tup [],_=>rfl
 |.tup (.non::r),_=>rfl
 |.tup (.bl _::r),_=>rfl
 |.tup (.int _::r),_=>rfl
 |.tup (.tup _::r),_=>rfl
 |.tup (.lst _::r),_=>rfl
 |.tup (.dct::r),_=>rfl
 |.non,_=>rfl
 |.bl _,_=>rfl
 |.int _,_=>rfl
 |.str _,_=>rfl
 |.lst _,_=>rfl
 |.dct,_=>rfl
theorem rJ{x:Str}{ds:List Dv}(h:cv x=false):dR (.tup (.str x::ds))=false:=by
 have e:WT.find? (λq=>decide (q.1=x))=none:=by
  rw[Cc]
  intro p hp
  have:=Cr.mp h p hp
  exact this
 show(match WT.find? (λq=>decide (q.1=x))with|some p'=>okF p'.2.2 ds&&(decide (x≠"fold")||jg ds)|none=>false)=_
 rw[e]
theorem me{x:Str}(h:cv x=true):∃p∈WT,p.1=x:=by
 obtain⟨p,hp,e⟩:=a7.mp h
 exact⟨p,hp,Q7 e⟩
theorem ck{p:Wd}(hp:p∈WT)(ds:List Dv):dR (.tup (.str p.1::ds))=(okF p.2.2 ds&&(decide (p.1≠"fold")||jg ds)):=by
 show(match WT.find? (λq=>decide (q.1=p.1))with|some p'=>okF p'.2.2 ds&&(decide (p.1≠"fold")||jg ds)|none=>false)=_
 rw[rN xH hp]
theorem qU:∀{ss:List So}{ds:List Dv},okF ss ds=true->ds.length=ss.length
 |[],[],_=>rfl
 |s::ss,d::ds,h=>by
  simp only[okF,ψ]at h
  rw[ω,ω,qU h.2]
 |[],_::_,h=>by cases h
 |_::_,[],h=>by cases h
theorem uV{ss:List So}{ds:List Dv}{i:Nat}{s:So}{d:Dv}(hs:ss[i]?=some s)(hd:ds[i]?=some d):okF (ss.drop i) (ds.drop i)=(sY s d&&okF (ss.drop (i+1)) (ds.drop (i+1))):=by
 obtain⟨h1,rfl⟩:=Θ.mp hs
 obtain⟨h2,rfl⟩:=Θ.mp hd
 rw[m_ h1,m_ h2]
 rfl
theorem rk{b:Int}{d:Dv}(h:mU b d=true):∃es,d=.tup es/\b<=(es.length:Int)/\es.length<=4:=by
 cases d with
 |tup es=>
  simp only[mU,ψ,decide_eq_true_eq]at h
  exact⟨es,rfl,h.1,()⟩
 |_=>cases h
theorem uX:∀{ss:List So}{ds:List Dv},okF ss ds=true->F2 (Fld (λ_=>True) (λ_ _=>True)) ss ds
 |[],[],_=>.nil
 |s::ss,d::ds,h=>by
  simp only[okF,ψ]at h
  refine .cons ?_ (uX h.2)
  cases s with
  |a=>obtain⟨es,rfl,_,h4⟩:=rk (b:=0) h.1;exact⟨es,rfl,h4,λ_ _=>trivial⟩
  |r=>obtain⟨es,rfl,h1,h4⟩:=rk (b:=1) h.1;exact⟨es,rfl,(),h4,λ_ _=>trivial⟩
  |e=>trivial
  |_=>trivial
 |[],_::_,h=>by cases h
 |_::_,[],h=>by cases h
theorem tX{d:Dv}(h:dR d=true):yX d:=by
 match d,h with
 |.tup (.str x::ds),h=>
  cases hw:cv x with
  |false=>rw[rJ hw]at h;cases h
  |true=>
   obtain⟨p,hp,rfl⟩:=me hw
   rw[ck hp,ψ]at h
   exact⟨p,ds,hp,rfl,uX h.1⟩
 |.tup [],h=>cases h
 |.tup (.non::r),h=>cases h
 |.tup (.bl _::r),h=>cases h
 |.tup (.int _::r),h=>cases h
 |.tup (.tup _::r),h=>cases h
 |.tup (.lst _::r),h=>cases h
 |.tup (.dct::r),h=>cases h
 |.non,h=>cases h
 |.bl _,h=>cases h
 |.int _,h=>cases h
 |.str _,h=>cases h
 |.lst _,h=>cases h
 |.dct,h=>cases h
theorem Bm{ds:List Dv}(h:ds.length=5):∃a b c d e,ds=[a,b,c,d,e]:=by
 match ds,h with
 |[a,b,c,d,e],_=>exact⟨a,b,c,d,e,rfl⟩
theorem rH:∀p∈WT,p.1="fold"->p.2.2=[.x,.l,.y,.e,.e]:=by decide +kernel
theorem oJ{d:Dv}(h:cW d=true):∃x,d=.str x:=by
 cases d with
 |str x=>exact⟨x,rfl⟩
 |_=>cases h
theorem gM:ao ["node","parts","sort","given"] ["node"] (ah fe):=by trivial
theorem mJ{f gS:Addr}{fd:Η}(F:Fun K "parts_of" "parts_of" fe f fd)(T:Txt K mg)(S:Shp P w K gS)(GS:mg "SHAPES"=some (.ref gS)):aw P w K mg base CX0 1 f fd ["node"] rO:=by
 have nd:=gM.nd
 refine F.ok gM (λvs H Q E h=>?_) (λcdv A outer s H vs Q E hr h=>?_)
 ·obtain⟨v,d,G,rfl,_⟩:=h
  rfl
 obtain⟨v,d,G,rfl,sG,R,⟨p,ds,hp,rfl,hf⟩,q⟩:=h
 obtain⟨kvs,FS,hS,_⟩:=S.ex
 obtain⟨a,vs,rfl,haG,rs⟩:=Rep.tup_inv R
 obtain⟨v0,ws,rfl,R0,rw'⟩:=bj rs
 have ha:=sG _ _ haG
 obtain rfl:v0=.str p.1:=R0
 obtain⟨b,hb,hbT⟩:=hS p hp
 have lds:=hf.length
 have lws:=rw'.length
 have h5:=cj p hp
 refine⟨_,(@un _ _ _ (wbO (wbM 1 nd rfl (Ε rfl) (waM waf) rfl ()) (wbO (wbH ϫ rfl (wbs rfl T.zip (wae (wbu FS (waB (.ref gS) rfl GS rfl ()) (waD am (wv 0 rfl) waC (λ_ _=>rfl)) (λ_ _=>rfl)) (wae (waT eO (wv 0 rfl) (wbA waC) wbz) waf rfl) rfl) rfl rfl) (wbb rfl (wbd (waZ 2 nd rfl (Ε rfl) ()) (wbd (waZ 3 nd rfl (Ε rfl) ()) wbe rfl) rfl) rfl rfl) (wbO (wbI (wbS av (wv 2 rfl) waV (af _)) (wbQ (wbG (waj Ω Ϡ ϡ bt (wv 1 rfl) (wae (wv 3 rfl) waf rfl) rfl rfl rfl rfl rfl) rfl)) wbP) (wbQ (wbI (wab (wbY (wbS av (wv 2 rfl) waV (af _)) (wbZ (wbS av (wv 2 rfl) waV (af _))))) (wbQ (wbG (waj Ω A7 A8 xr (wv 1 rfl) (wae (wv 3 rfl) waf rfl) rfl rfl rfl rfl rfl) rfl)) wbP))) ()) (wbQ (wbK (wv 1 rfl)))))),?_⟩
 dsimp only[bo,Cx.nox]
 refine⟨Υ _,λl hl=>?_⟩
 have q1:=ac hl (.lst [])
 have l1:upd H l (.lst []) l=some (.lst []):=aa
 generalize upd H l (.lst [])=H1 at q1 l1⊢
 refine gnm ?_
 dsimp only
 refine⟨_,rfl,a,_,0,.str p.1,rfl,rfl,SqT.of (q1 _ _ ha),ae (j:=0) rfl,p.1,b,rfl,rfl,hb,?_⟩
 refine⟨_,rfl,1,rfl,?_⟩
 dsimp only[bn]
 refine eJ (q1 _ _ ha) λH2 t s2 ht=>?_
 have ec:bJ (V.str p.1::ws) (some 1) none=ws:=ce (V.str p.1::ws) 1
 rw[ec]at ht
 have s02:=q1.trans s2
 have l2:=s2 _ _ l1
 refine⟨b,t,rfl,⟨_,hbT _⟩,⟨_,SqT.of ht⟩,gN (D:={nx:=zq (fz 1) {nx:=λx H'=>Q V.non H',rt:=Q},rt:=Q}) (xs:=p.2.2.map λs=>V.str (srt s)) (ys:=ws) (λi σ H'=>∃(o2 o3:Option V) (us:List V),σ=[some (.ref a),some (.ref l),o2,o3]/\ai H H'/\H' t=some (.tup ws)/\H' l=some (.lst us)/\Reps G (ba (p.2.2.take i) (ds.take i)) us/\us.length<=4*i) ⟨_,_,[],rfl,s02,ht,l2,by simp[ba,Reps],π _⟩ (λi σ H' ⟨_,_,_,_,_,h,_⟩=>⟨hbT _,SqT.of h⟩) ?T1 ?_⟩
 case T1=>
  rintro i x y σ H3 t3 D1 gR gD hx hy ⟨o2,o3,us,rfl,s3,ht3,l3,R3,lu⟩ hp3
  rw[Ν]at hx
  obtain⟨so,hso,rfl⟩:=ϖ.mp hx
  have hi:i<p.2.2.length:=(Θ.mp hso).1
  obtain⟨d,hd,hfd⟩:=hf.get hso
  obtain⟨y',hy',Ry⟩:=tF rw' hd
  rw[hy]at hy'
  cases hy'
  have q4:=ac hp3 (.tup [.str (srt so),y])
  have ht4:upd H3 t3 (.tup [.str (srt so),y]) t3=some (.tup [.str (srt so),y]):=aa
  have s4:=s3.trans q4
  have l4:=q4 _ _ l3
  have t4:=q4 _ _ ht3
  generalize upd H3 t3 (.tup [.str (srt so),y])=H4 at ht4 s4 l4 t4⊢
  refine⟨t3,_,rfl,SqT.of ht4,rfl,_,_,rfl,_,_,rfl,rfl,?_⟩
  have put:∀(us':List V),Reps G (ptD so d) us'->us'.length<=4->(∃(o2 o3:Option V) (us2:List V),[some (V.ref a),some (.ref l),some (.str (srt so)),some y]=[some (.ref a),some (.ref l),o2,o3]/\ai H (upd H4 l (.lst (us++us')))/\upd H4 l (.lst (us++us')) t=some (.tup ws)/\upd H4 l (.lst (us++us')) l=some (.lst us2)/\Reps G (ba (p.2.2.take (i+1)) (ds.take (i+1))) us2/\us2.length<=4*(i+1)):=λus' Ru lu'=>by
   refine⟨_,_,us++us',rfl,λg o e=>?_,?_,aa,?_,by rw[Ζ];omega⟩
   ·rw[aq (aj e hl)];exact s4 g o e
   ·rw[aq (λe=>by rw[e,l4]at t4;cases t4)];exact t4
   ·rw[kO _ _ _ hso hd]
    exact Reps.append R3 Ru
  have same:ptD so d=[]->(∃(o2 o3:Option V) (us2:List V),[some (V.ref a),some (.ref l),some (.str (srt so)),some y]=[some (.ref a),some (.ref l),o2,o3]/\ai H H4/\H4 t=some (.tup ws)/\H4 l=some (.lst us2)/\Reps G (ba (p.2.2.take (i+1)) (ds.take (i+1))) us2/\us2.length<=4*(i+1)):=λe=>by
   refine⟨_,_,us,rfl,s4,t4,l4,?_,()⟩
   rw[kO _ _ _ hso hd,e,ϙ]
   exact R3
  replace put:=λus' h1 h2=>gD _ _ (put us' h1 h2)
  replace same:=λe=>gD _ _ (same e)
  refine⟨_,rfl,rfl,_,rfl,ap (λh=>?_) (λh=>?_)⟩
  ·have e:=(qN so).mp (Q7 h)
   subst e
   refine⟨_,rfl,.inl ⟨rfl,_,SqL.of l4⟩,_,rfl,l,_,_,rfl,rfl,l4,by rw[ι];omega,?_⟩
   have fin:=put [y] (be Ry) (by show 1<=4;decide)
   refine⟨_,rfl,rfl,_,rfl,ap (λh2=>absurd ((og .e).mp (Q7 h2)) ()) (λ_=>⟨_,rfl,rfl,_,rfl,?_⟩)⟩
   rw[show decide (V.str (srt .e)=V.str "things")=false from Q8 λh2=>absurd ((oC .e).mp h2) ()]
   exact aG fin
  ·have ne:so≠.e:=λe=>h (Q9 ((qN so).mpr e))
   by_cases har:so=.a\/so=.r
   ·obtain⟨es,rfl,l4e⟩:∃es,d=.tup es/\es.length<=4:=by
     rcases har with e|e
     ·subst e;obtain⟨es,h1,h2,_⟩:=hfd;exact⟨es,h1,h2⟩
     ·subst e;obtain⟨es,h1,_,h2,_⟩:=hfd;exact⟨es,h1,h2⟩
    have ek:ptD so (.tup es)=es:=by rcases har with e|e<;>subst e<;>rfl
    obtain⟨b2,zs,rfl,hb2,rz⟩:=Rep.tup_inv Ry
    have lz:=rz.length
    refine tnx ?_
    dsimp only
    refine yJ (aF ?_) λqT=>?_
    ·refine⟨_,rfl,.inl ⟨rfl,_,SqL.of l4⟩,_,rfl,l,b2,_,zs,rfl,rfl,l4,SqT.of (s4 _ _ (sG _ _ hb2)),by rw[ι];omega,put zs (by rw[ek];exact rz) ()⟩
    ·rcases har with e|e
     ·exact⟨_,rfl,rfl,_,rfl,ap (λ_=>qT) (λh2=>absurd (Q9 ((og so).mpr e)) h2)⟩
     ·refine⟨_,rfl,rfl,_,rfl,ap (λ_=>qT) (λ_=>⟨_,rfl,rfl,_,rfl,?_⟩)⟩
      rw[Q9 ((oC so).mpr e)]
      exact qT
   ·have na:so≠.a:=λe=>har (.inl e)
    have nr:so≠.r:=λe=>har (.inr e)
    refine tnx ⟨_,rfl,rfl,_,rfl,ap (λh2=>absurd ((og so).mp (Q7 h2)) na) (λ_=>⟨_,rfl,rfl,_,rfl,?_⟩)⟩
    rw[show decide (V.str (srt so)=V.str "things")=false from Q8 λh2=>nr ((oC so).mp h2)]
    refine aG (same ?_)
    cases so with
    |e=>exact absurd rfl ne
    |a=>exact absurd rfl na
    |r=>exact absurd rfl nr
    |_=>rfl
 rintro σ H3 ⟨o2,o3,us,rfl,s3,ht3,l3,R3,lu⟩
 refine⟨_,rfl,q H3 l us s3 hl l3 ?_⟩
 rw[η,BY (),ϛ,<-lds,ϛ]at R3
 rw[parts_of hp]
 exact R3
theorem js:ao ["thing","shape","sort","given"] ["thing"] (ah gv):=by trivial
theorem px{f gS:Addr}{fd:Η}{k:Nat}(F:Fun K "is_node" "is_node" gv f fd)(T:Txt K mg)(S:Shp P w K gS)(GS:mg "SHAPES"=some (.ref gS))(Dhas_word:Def P w K mg base k "has_word" ["thing"] (spD gH))(Dfits:Def P w K mg base k "fits" ["sort","thing"] uQ):aw P w K mg base CX0 (k+1) f fd ["thing"] (spS dR):=by
 have nd:=js.nd
 refine F.ok js (λvs H Q E h=>?_) (λcdv A outer s H vs Q E hr h=>?_)
 ·obtain⟨v,d,rfl,_⟩:=h
  rfl
 obtain⟨v,d,rfl,R,hsm,q⟩:=h
 obtain⟨kvs,FS,hS,hS2⟩:=S.ex
 refine⟨_,(@un _ _ _ (wbO (wbI (wab (wbY (wbT (wbV (waq Dhas_word hr rfl (wae (wv 0 rfl) waf rfl) () rfl rfl) ())) (wbZ (wbS (kr FS) (waD am (wv 0 rfl) waC (λ_ _=>rfl)) (waB (.ref gS) rfl GS rfl ()) (by with_unfolding_all rfl))))) (wbQ (wbK wah)) wbP) (wbO (wbM 1 nd rfl (Ε rfl) (wbu FS (waB (.ref gS) rfl GS rfl ()) (waD am (wv 0 rfl) waC (λ_ _=>rfl)) (λ_ _=>rfl)) rfl ()) (wbO (wbI (wbS eT (wal au rfl T.len () (wae (wv 0 rfl) waf rfl) () () rfl rfl) (waQ bF (wal au rfl T.len () (wae (wv 1 rfl) waf rfl) () () rfl rfl) waC) (af _)) (wbQ (wbK wah)) wbP) (wbO (wbH ϫ rfl (wbs rfl T.zip (wae (wv 1 rfl) (wae (waT eO (wv 0 rfl) (wbA waC) wbz) waf rfl) rfl) rfl rfl) (wbb rfl (wbd (waZ 2 nd rfl (Ε rfl) ()) (wbd (waZ 3 nd rfl (Ε rfl) ()) wbe rfl) rfl) rfl rfl) (wbQ (wbI (wbT (wbV (waq Dfits hr rfl (wae (wv 2 rfl) (wae (wv 3 rfl) waf rfl) rfl) () rfl rfl) ())) (wbQ (wbK wah)) wbP)) ()) (wbQ (wbK (waR (wap eT (waD am (wv 0 rfl) waC (λ_ _=>rfl)) waV (af _)) (waP (wap eT (waD am (wv 0 rfl) waC (λ_ _=>rfl)) (waD am (wv 0 rfl) waC (λ_ _=>rfl)) (af _))))))))))),?_⟩
 dsimp only[bo,Cx.nox]
 refine⟨_,rfl,v,d,rfl,R,λH1 s1=>⟨_,rfl,?_⟩⟩
 cases c0:gH d with
 |false=>
  refine aF (aF ?_)
  have:=q H1 s1
  rwa[uf c0]at this
 |true=>
  refine aG ?_
  obtain⟨x,ds,rfl⟩:=jk c0
  obtain⟨a,vs,rfl,ha,rs⟩:=Rep.tup_inv (R.mono s1)
  obtain⟨y,ws,rfl,R0,ru⟩:=bj rs
  obtain rfl:y=.str x:=R0
  have lws:=ru.length
  have hds:smalls ds=true:=by
   simp only[Dv.small,smalls,ψ]at hsm
   exact hsm.1.2
  refine⟨_,rfl,a,_,0,.str x,rfl,rfl,SqT.of ha,ae (j:=0) rfl,x,rfl,rfl,_,rfl,?_⟩
  rw[hS2 x]
  show if xor true (cv x)=true then _ else _
  cases hw:cv x with
  |false=>
   refine aF ?_
   have:=q H1 s1
   rwa[rJ hw]at this
  |true=>
   refine aG ?_
   obtain⟨p,hp,rfl⟩:=me hw
   obtain⟨b,hb,hbT⟩:=hS p hp
   have h5:=cj p hp
   refine⟨_,rfl,a,_,0,.str p.1,rfl,rfl,SqT.of ha,ae (j:=0) rfl,p.1,b,rfl,rfl,hb,?_⟩
   refine⟨_,rfl,a,_,rfl,.inr (SqT.of ha),_,rfl,b,_,rfl,.inr (hbT _),_,_,rfl,rfl,rfl,_,rfl,?_⟩
   by_cases hl:ds.length=p.2.2.length
   ·rw[show(!decide (V.int (((V.str p.1::ws).length:Nat):Int)=V.int ((((p.2.2.map λs=>V.str (srt s)).length:Nat):Int)+1)))=false by
     rw[ω,lws,hl,η,show((p.2.2.length+1:Nat):Int)=(p.2.2.length:Int)+1 by omega,Q9 rfl];rfl]
    refine aG ?_
    refine⟨_,rfl,_,rfl,1,rfl,?_⟩
    dsimp only[bn]
    refine eJ ha λH2 t s2 ht=>?_
    have ec:bJ (V.str p.1::ws) (some 1) none=ws:=ce (V.str p.1::ws) 1
    rw[ec]at ht
    have s02:=s1.trans s2
    refine⟨b,t,rfl,⟨_,hbT _⟩,⟨_,SqT.of ht⟩,gN (D:={nx:=zq (zY (tOp rNe (tOp (xi K) (fz 0) (tC (V.int 0))) (tC (V.str (γ "fold")))) (tOp rNe (tOp (xi K) (fz 0) (tC (V.int 1))) (tOp (xi K) (fz 0) (tC (V.int 3))))) {nx:=λx H'=>Q V.non H',rt:=Q},rt:=Q}) (xs:=p.2.2.map λs=>V.str (srt s)) (ys:=ws) (λi σ H'=>∃(o2 o3:Option V),σ=[some (.ref a),some (.ref b),o2,o3]/\ai H2 H'/\okF p.2.2 ds=okF (p.2.2.drop i) (ds.drop i)) ⟨_,_,rfl,ai.refl _,rfl⟩ (λi σ H' ⟨_,_,_,h,_⟩=>⟨hbT _,SqT.of (h _ _ ht)⟩) ?T1 ?_⟩
    case T1=>
     rintro i x y σ H3 t3 D1 gR gD hx hy ⟨o2,o3,rfl,s3,ok3⟩ hp3
     rw[Ν]at hx
     obtain⟨so,hso,rfl⟩:=ϖ.mp hx
     obtain⟨d,hd,Ry⟩:=ru.get hy
     have q4:=ac hp3 (.tup [.str (srt so),y])
     have ht4:upd H3 t3 (.tup [.str (srt so),y]) t3=some (.tup [.str (srt so),y]):=aa
     have s4:=s2.trans (s3.trans q4)
     have s24:=s3.trans q4
     generalize upd H3 t3 (.tup [.str (srt so),y])=H4 at ht4 s4 s24⊢
     refine⟨t3,_,rfl,SqT.of ht4,rfl,_,_,rfl,_,_,rfl,rfl,?_⟩
     refine⟨_,rfl,_,rfl,so,y,d,rfl,Ry.mono s4,cO hds hd,λH5 s5=>⟨_,rfl,?_⟩⟩
     rw[uV hso hd]at ok3
     cases hfit:sY so d with
     |false=>
      refine aF ?_
      have:=q H5 (s1.trans (s4.trans s5))
      rw[ck hp,ok3,hfit]at this
      exact gR _ _ this
     |true=>
      refine aG (gD _ _ ⟨_,_,rfl,s24.trans s5,?_⟩)
      rw[ok3,hfit,ϳ]
    rintro σ H3 ⟨o2,o3,rfl,s3,ok3⟩
    have okk:okF p.2.2 ds=true:=by
     rw[ok3,η,BY (),CD,<-hl,CD]
     rfl
    have s23:=s2.trans s3
    have qq:=q H3 (s1.trans s23)
    rw[ck hp,okk,ϳ]at qq
    refine⟨_,rfl,a,_,0,.str p.1,rfl,rfl,SqT.of (s23 _ _ ha),ae (j:=0) rfl,rfl,_,rfl,?_⟩
    show if (!decide (V.str p.1=V.str "fold"))=true then _ else _
    rw[cX]
    by_cases hf:p.1="fold"
    ·rw[Q9 hf]
     refine aG ?_
     have hss:=rH p hp hf
     rw[hss]at okk
     have l5:ds.length=5:=by rw[hl,hss];rfl
     obtain⟨d1,d2,d3,d4,d5,rfl⟩:=Bm l5
     ·simp only[okF,sY,ψ]at okk
      obtain⟨x1,rfl⟩:=oJ okk.1
      obtain⟨x3,rfl⟩:=oJ okk.2.2.1
      obtain⟨u1,r1,rfl,R1,ru⟩:=bj ru
      obtain⟨u2,r2,rfl,R2,ru⟩:=bj ru
      obtain⟨u3,r3,rfl,R3,ru⟩:=bj ru
      obtain rfl:u1=.str x1:=R1
      obtain rfl:u3=.str x3:=R3
      refine⟨_,rfl,a,_,1,.str x1,rfl,rfl,SqT.of (s23 _ _ ha),ae (j:=1) rfl,_,rfl,a,_,3,.str x3,rfl,rfl,SqT.of (s23 _ _ ha),ae (j:=3) rfl,rfl,?_⟩
      show Q (.bl (!decide (V.str x1=V.str x3))) H3
      rw[cX]
      rw[show decide (p.1≠"fold")=false from Q8 (λz=>z hf),Cw]at qq
      have e:jg [.str x1,d2,.str x3,d4,d5]=!decide (x1=x3):=by
       show decide (x1≠x3)=_
       by_cases h:x1=x3
       ·rw[Q9 h,Q8 (λz=>z h)];rfl
       ·rw[Q8 h,Q9 h];rfl
      rw[e]at qq
      exact qq
    ·rw[Q8 hf]
     refine aF ?_
     rw[Q9 hf,Bool.true_or]at qq
     exact qq
   ·rw[show(!decide (V.int (((V.str p.1::ws).length:Nat):Int)=V.int ((((p.2.2.map λs=>V.str (srt s)).length:Nat):Int)+1)))=true by
     rw[Q8 λz=>hl (by injection z with z;rw[ω,lws,η]at z;omega)];rfl]
    refine aF ?_
    have:=q H1 s1
    rw[ck hp]at this
    cases ho:okF p.2.2 ds with
    |true=>exact absurd (qU ho) hl
    |false=>rw[ho]at this;exact this
abbrev gp:Stmt:=top 31
def exN:Nat->Dv->Nat
 |0,_=>99
 |n+1,d=>if dR d=true then 1+((cL d).map (exN n)).sum else 99
def oW:Sp:=spS λd=>decide (exN 8 d<=40)
theorem rc(n:Nat)(d:Dv):1<=exN n d:=by
 cases n with
 |zero=>show 1<=99;decide
 |succ n=>unfold exN;split<;>omega
def prD(p:Dv×Nat):Dv:=.tup [p.1,.int p.2]
def jE(ws:List (Dv×Nat)):Nat:=(ws.map λp=>exN (8-p.2) p.1).sum
theorem mZ(xs ys:List (Dv×Nat)):jE (xs++ys)=jE xs+jE ys:=by unfold jE;rw[Ι,Bp]
theorem qB{ds:List Dv}(h:smalls ds=true):∀d∈ds,d.small=true:=by
 induction ds with
 |nil=>intro d hd;cases hd
 |cons x ds ih=>
  simp only[smalls,ψ]at h
  intro d hd
  rcases ν.mp hd with rfl|hd
  ·exact h.1
  ·exact ih h.2 d hd
theorem iS{ds:List Dv}(h:(Dv.tup ds).small=true):∀d∈ds,d.small=true:=by
 simp only[Dv.small,ψ]at h
 exact qB h.1
theorem gG{d:Dv}(h:d.small=true):∀e∈vq d,e.small=true:=by
 cases d with
 |tup ds=>exact iS h
 |_=>intro e he;cases he
theorem kg:∀(ss:List So)(ds:List Dv),(∀d∈ds,d.small=true)->∀e∈ba ss ds,e.small=true
 |[],_,_,e,he=>by simp[ba]at he
 |_::_,[],_,e,he=>by simp[ba]at he
 |s::ss,d::ds,h,e,he=>by
  rcases ϋ.mp (show e∈ptD s d++ba ss ds from he)with h1|h1
  ·cases s with
   |e=>rw[μ.mp h1];exact h d ξ
   |a=>exact gG (h d ξ) e h1
   |r=>exact gG (h d ξ) e h1
   |_=>cases h1
  ·exact kg ss ds (λx hx=>h x (χ _ hx)) e h1
theorem pb{d:Dv}(h:d.small=true):∀e∈cL d,e.small=true:=by
 match d,h with
 |.tup (.str w::ds),h=>exact kg _ ds λx hx=>iS h x (χ _ hx)
 |.tup [],_=>intro e he;cases he
 |.tup (.non::r),_=>intro e he;cases he
 |.tup (.bl _::r),_=>intro e he;cases he
 |.tup (.int _::r),_=>intro e he;cases he
 |.tup (.tup _::r),_=>intro e he;cases he
 |.tup (.lst _::r),_=>intro e he;cases he
 |.tup (.dct::r),_=>intro e he;cases he
 |.non,_=>intro e he;cases he
 |.bl _,_=>intro e he;cases he
 |.int _,_=>intro e he;cases he
 |.str _,_=>intro e he;cases he
 |.lst _,_=>intro e he;cases he
 |.dct,_=>intro e he;cases he
theorem om{d:Dv}(h:yX d):(cL d).length<=4:=by
 obtain⟨p,ds,hp,rfl,hf⟩:=h
 rw[XB.parts_of hp]
 exact ϲ (wE hf).2 (wt p hp)
theorem jK:ao ["thing","count","waiting","found","node","above"] ["thing"] (ah gp):=by trivial
theorem iO{f:Addr}{fd:Η}{k:Nat}(F:Fun K "is_expression" "is_expression" gp f fd)(T:Txt K mg)(Dis_node:Def P w K mg base k "is_node" ["thing"] (spS dR))(Dparts_of:Def P w K mg base k "parts_of" ["node"] rO):aw P w K mg base CX0 (k+1) f fd ["thing"] oW:=by
 have nd:=jK.nd
 refine F.ok jK (λvs H Q E h=>?_) (λcdv A outer s H vs Q E hr h=>?_)
 ·obtain⟨v,d,rfl,_⟩:=h
  rfl
 obtain⟨v,d,rfl,R,hsm,q⟩:=h
 replace q:∀(H':Hp),ai H H'->Q (V.bl (decide (exN 8 d<=40))) H':=q
 refine⟨_,(@un _ _ _ (wbO (wbM 1 nd rfl (Ε rfl) waC rfl ()) (wbO (wbM 2 nd rfl (Ε rfl) (waM (wae (waX (wae (wv 0 rfl) (wae waC waf rfl) rfl)) waf rfl)) rfl ()) (wbO (wbN ϫ (wbU (wv 2 rfl) (λ_=>rfl)) (wbO (wbM 3 nd rfl (Ε rfl) (wak Ω PySem.F.slot_list_pop PySem.F.type_list_pop uu (wv 2 rfl) rfl rfl) rfl ()) (wbO (wbM 4 nd rfl (Ε rfl) (waD am (wv 3 rfl) waC (λ_ _=>rfl)) rfl ()) (wbO (wbM 5 nd rfl (Bw rfl) (waD am (wv 3 rfl) waC (λ_ _=>rfl)) rfl ()) (wbO (wbE 1 nd rfl (Ε rfl) waC uG ()) (wbO (wbI (wab (wbY (wbS dX (wv 1 rfl) ⟨T.g_MOST_NODES rfl⟩ (af _)) (wbY (wbS dX (wv 5 rfl) ⟨T.g_MOST_ABOVE rfl⟩ (af _)) (wbZ (wbT (wbV (waq Dis_node hr rfl (wae (wv 4 rfl) waf rfl) () rfl rfl) ())))))) (wbQ (wbK wah)) wbP) (wbQ (wbG (waj Ω A7 A8 kh (wv 2 rfl) (wae (waE ["part"] [5] (wbi (waq Dparts_of hr rfl (wae (wv 4 rfl) waf rfl) () rfl rfl)) (.of rfl) rfl (λ_ _ _=>⟨pg_name (i:=0) (bp (l:=["part","above"]) (()) rfl) rfl (Ε rfl)⟩) (bf ()) (λ_ _ _=>wbx) (λ_ _ _=>(waX (wae (wv 0 rfl) (wae (waQ bF (wv 1 rfl) waC) waf rfl) rfl))) ()) waf rfl) rfl rfl rfl rfl rfl) rfl)))))))) (wbQ (wbK wah)))))),?_⟩
 dsimp only[bo,Cx.nox]
 refine⟨_,rfl,z2,λt0 ht0=>⟨z1,λW1 hW=>?_⟩⟩
 have q0:=ac ht0 (.tup [v,.int 0])
 have q1:=ac hW (.lst [.ref t0])
 have r0:Rep (upd H t0 (.tup [v,.int 0])) (prD (d,0)) (.ref t0):=by
  unfold prD
  rw[Rep]
  exact⟨t0,_,rfl,aa,by simp only[Reps];exact⟨_,_,rfl,R.mono q0,_,_,rfl,by simp only[Rep];rfl,rfl⟩⟩
 refine jz (λm σ H'=>∃(o3 o4 o5:Option V) (cnt:Nat) (ws:List (Dv×Nat)) (vs:List V),σ=[some v,some (.int cnt),some (.ref W1),o3,o4,o5]/\ai H (aZ H' W1)/\H' W1=some (.lst vs)/\Reps (aZ H' W1) (ws.map prD) vs/\(∀p∈ws,p.1.small=true/\p.2<=8)/\(cnt+jE ws<=40↔exN 8 d<=40)/\m=40-cnt/\cnt<=40/\ws.length<=1+4*cnt) 40
  ⟨_,_,_,0,[(d,0)],[.ref t0],rfl,q0.trans (fX q1 hW),aa,be (r0.mono (fX q1 hW)),λp hp=>by rw[μ.mp hp];exact⟨hsm,Υ _⟩,by simp[jE],rfl,(),π _⟩ ?_ jI
 rintro m σ H1 D1 gR gD ⟨o3,o4,o5,cnt,ws,vs,rfl,s1,w1,R1,sm,eq,rfl,c40,lw⟩
 have s01:ai H H1:=s1.trans bw
 refine⟨_,rfl,_,.inl ⟨vs,SqL.of w1,rfl⟩,?_⟩
 by_cases ne:ws=[]
 ·subst ne
  have e:vs=[]:=by simpa only[o_,Reps]using R1
  subst e
  refine aG ?_
  have:=q H1 s01
  rw[Q9 (eq.mp (by simpa[jE]using c40))]at this
  exact this
 ·obtain⟨w0,x,rfl⟩:=mz ne
  rw[Ι]at R1
  obtain⟨v0,u,rfl,Ra,Ru⟩:=gx R1
  have e:(!(v0++[u]).isEmpty)=true:=by simp
  rw[e]
  refine aF ?_
  rw[mZ]at eq
  have wx:jE [x]=exN (8-x.2) x.1:=by simp[jE]
  rw[wx]at eq
  rw[Ζ,Ϫ]at lw
  obtain⟨smx,x8⟩:=sm x ()
  refine⟨_,rfl,.inl ⟨rfl,_,SqL.of w1⟩,W1,_,_,rfl,rfl,w1,mM _ _,?_⟩
  rw[List.dropLast_concat]
  have t2:ai (aZ H1 W1) (aZ (upd H1 W1 (.lst v0)) W1):=kW
  have w2:upd H1 W1 (.lst v0) W1=some (.lst v0):=aa
  have s02:ai H _:=s1.trans (t2.trans bw)
  generalize upd H1 W1 (.lst v0)=H2 at t2 w2 s02⊢
  obtain⟨t,us,rfl,ht,ru⟩:=Rep.tup_inv (show Rep (aZ H1 W1) (.tup [x.1,.int x.2]) u from Ru)
  obtain⟨y,z,rfl,Ry,Rz⟩:=Reps.two ru
  obtain rfl:z=.int x.2:=Rz
  have ht2:=bw _ _ (t2 _ _ ht)
  have xp:=rc (8-x.2) x.1
  refine⟨_,rfl,t,_,0,y,rfl,rfl,SqT.of ht2,ae (j:=0) rfl,?_⟩
  refine⟨_,rfl,t,_,1,.int x.2,rfl,rfl,SqT.of ht2,ae (j:=1) rfl,?_⟩
  refine⟨_,rfl,_,_,rfl,rfl,?_⟩
  refine⟨_,rfl,_,_,rfl,rfl,_,rfl,?_⟩
  refine ap (λh=>?_) (λh=>?_)
  ·have h':(40:Int)<(cnt:Int)+1:=Q7 h
   have:=q H2 s02
   rw[Q8 (λz=>by have:=eq.mpr z;omega)]at this
   exact aF (gR _ _ this)
  have h':cnt+1<=40:=by have z:¬ ((40:Int)<(cnt:Int)+1):=of_decide_eq_false (p9.mpr h);omega
  refine⟨_,rfl,_,_,rfl,rfl,_,rfl,?_⟩
  refine ap (λh2=>?_) (λh2=>?_)
  ·have h2':(7:Int)<(x.2:Int):=Q7 h2
   have:=q H2 s02
   rw[Q8 (λz=>by
    have:=eq.mpr z
    rw[show 8-x.2=0 by omega]at this
    have e99:exN 0 x.1=99:=rfl
    omega)]at this
   exact aF (gR _ _ this)
  have h2':x.2<=7:=by have z:¬ ((7:Int)<(x.2:Int)):=of_decide_eq_false (p9.mpr h2);omega
  obtain⟨j,hj⟩:∃j,8-x.2=j+1:=⟨7-x.2,()⟩
  refine⟨_,rfl,y,x.1,rfl,Ry.mono (t2.trans bw),smx,λH3 s3=>⟨_,rfl,?_⟩⟩
  have s03:=s02.trans s3
  cases c:dR x.1 with
  |false=>
   have:=q H3 s03
   rw[Q8 (λz=>by
    have:=eq.mpr z
    have e99:exN (8-x.2) x.1=99:=by rw[hj];unfold exN;rw[c];rfl
    omega)]at this
   exact aF (gR _ _ this)
  |true=>
   refine aG ?_
   have w3:=s3 _ _ w2
   have t3:=t2.trans (bq (l:=W1) s3)
   have hW3:H3 W1≠none:=by rw[w3];exact nofun
   have nn:=tX c
   have p4:=om nn
   have exj:exN (8-x.2) x.1=1+((cL x.1).map (exN j)).sum:=by rw[hj];show(if dR x.1=true then _ else _)=_;rw[c];rfl
   refine tnx ⟨_,rfl,.inl ⟨rfl,_,SqL.of w3⟩,_,rfl,y,x.1,aZ H3 W1,rfl,bw,Ry.mono t3,nn,λH4 l ks s4 hl h4 R4=>⟨l,rfl,⟨_,SqL.of h4⟩,fY (xs:=ks) (λi ys H'=>ai H4 H'/\Reps (aZ H' W1) (((cL x.1).take i).map λe=>prD (e,x.2+1)) ys) ⟨ai.refl _,by simp[Reps]⟩ (λi ys H' _ p=>SqL.of (p.1 _ _ h4)) ?_ ?_⟩⟩
   ·rintro i ys H5 pv hpv ⟨s5,R5⟩
    obtain⟨e,he,Re⟩:=R4.get hpv
    have hi:i<(cL x.1).length:=(Θ.mp he).1
    refine bu ⟨_,rfl,_,rfl,_,_,rfl,rfl,z2,λp hp=>⟨?_,s5.trans (ac hp _),?_⟩⟩
    ·rw[R5.length,η,Χ,ι];omega
    ·have hW5:H5 W1≠none:=by rw[s5 _ _ (s4 _ _ w3)];exact nofun
     obtain⟨e1,e2⟩:=uc (o:=.tup [pv,.int ((x.2:Int)+1)]) hW5 hp
     rw[Ϣ,he,Ι]
     refine Reps.append (R5.mono e2) ?_
     refine be (show Rep _ (.tup [e,.int ((x.2+1:Nat):Int)]) (.ref p)from ?_)
     rw[Rep]
     refine⟨p,_,rfl,e1,?_⟩
     simp only[Reps]
     exact⟨_,_,rfl,(Re.mono (bq (s4.trans s5))).mono e2,_,_,rfl,by simp only[Rep];rfl,rfl⟩
   ·rintro ys H5 ⟨s5,R5⟩ r hr'
    have q6:=ac hr' (.lst ys)
    have lk:=R4.length
    rw[lk,ϛ]at R5
    have lys:=R5.length
    rw[η]at lys
    have w5:=q6 _ _ (s5 _ _ (s4 _ _ w3))
    have lv:=Ra.length
    rw[η]at lv
    refine⟨W1,r,_,_,rfl,rfl,w5,aa,by rw[ι];omega,?_⟩
    have hW5:H5 W1≠none:=by rw[s5 _ _ (s4 _ _ w3)];exact nofun
    have t6:ai (aZ H5 W1) (aZ (upd (upd H5 r (.lst ys)) W1 (.lst (v0++ys))) W1):=(bq q6).trans kW
    have t16:=t3.trans ((bq (s4.trans s5)).trans t6)
    refine gD (40-(cnt+1)) _ _ () ⟨_,_,_,cnt+1,w0++(cL x.1).map λe=>(e,x.2+1),v0++ys,rfl,s1.trans t16,aa,?_,?_,?_,rfl,h',?_⟩
    ·rw[Ι]
     refine Reps.append (Ra.mono t16) ?_
     rw[Ξ]
     exact R5.mono t6
    ·intro p hp
     rcases ϋ.mp hp with h1|h1
     ·exact sm p (x_ _ h1)
     ·obtain⟨e,he,rfl⟩:=ϥ.mp h1
      exact⟨pb smx e he,by show x.2+1<=8;omega⟩
    ·rw[<-eq,mZ,exj]
     have e7:jE ((cL x.1).map λe=>(e,x.2+1))=((cL x.1).map (exN j)).sum:=by
      unfold jE
      rw[Ξ]
      congr 1
      refine r_ λe _=>?_
      show exN (8-(x.2+1)) e=exN j e
      rw[show 8-(x.2+1)=j by omega]
     rw[e7]
     constructor<;>intro z<;>omega
    ·rw[Ζ,η];omega
theorem AJ{x:Str}:aK (.tup [.str x])=if x="whole" then 1 else 99:=by rw[aK]
theorem AL{x:Str}{l:Dv}:aK (.tup [.str x,l])=if x="place"/\slD l=true then 1 else 99:=by rw[aK]
theorem Ay{x:Str}{a b:Dv}:aK (.tup [.str x,a,b])=if x="pair" then 1+aK a+aK b else if x="row"/\slD a=true then 1+aK b else 99:=by rw[aK]
def SL(c:Int)(ps:List Pr):Prop:=slD (bz c ps)=true/\(bz c ps).small=true
theorem on:∀{ps:List Pr}{l:Str},ps.Pairwise (λp q=>p.1.cps.toList<q.1.cps.toList)->(∀p∈ps,1<=p.2)->(∀p∈ps,nmB p.1=true)->(∀p∈ps,l.cps.toList<p.1.cps.toList)->goD l (aO ps)=true
 |[],_,_,_,_,_=>rfl
 |p::ps,l,h1,h2,h3,h4=>by
  have e:aO (p::ps)=.tup [.str p.1,.int p.2]::aO ps:=rfl
  rw[e,goD]
  have h1':=List.pairwise_cons.mp h1
  show(eQ _&&(decide (l.cps.toList<p.1.cps.toList)&&goD p.1 (aO ps)))=true
  rw[on h1'.2 (λq hq=>h2 q (χ _ hq)) (λq hq=>h3 q (χ _ hq)) (λq hq=>h1'.1 q hq)]
  show((nmB p.1&&(true&&decide (1<=p.2)))&&(decide (l.cps.toList<p.1.cps.toList)&&true))=true
  rw[h3 p ξ,Q9 (h2 p ξ),Q9 (h4 p ξ)]
  rfl
theorem fW:∀{ps:List Pr},(∀p∈ps,p.1.cps.size<=8)->smalls (aO ps)=true
 |[],_=>rfl
 |p::ps,h=>by
  simp only[aO,Ο,smalls,Dv.small,ψ,decide_eq_true_eq]
  refine⟨⟨⟨by have:=h p ξ;omega,trivial,trivial⟩,()⟩,fW λq hq=>h q (χ _ hq)⟩
theorem aY{x:Str}(h:nmB x=true):1<=x.cps.size/\x.cps.size<=8:=by
 unfold nmB at h
 simp only[ψ,decide_eq_true_eq]at h
 exact h.1
theorem uU{x:Str}(h:nmB x=true):(γ "").cps.toList<x.cps.toList:=by
 have:=(aY h).1
 have e:(γ "").cps.toList=[]:=by decide +kernel
 rw[e]
 cases hx:x.cps.toList with
 |nil=>
  have:x.cps.toList.length=x.cps.size:=by simp
  rw[hx]at this;simp at this;omega
 |cons c cs=>exact List.nil_lt_cons c cs
theorem zj{c:Int}{ps:List Pr}(c0:0<=c)(c1:c<=99)(can:nY ps)(hl:ps.length<=900)(hn':∀p∈ps,nmB p.1=true/\p.2<=99):SL c ps:=by
 constructor
 ·show((true&&(decide (0<=c)&&goD "" (aO ps)))&&(decide (c<=99)&&(aO ps).all λp=>decide (fg p<=99)))=true
  rw[on can.1 can.2 (λp hp=>(hn' p hp).1) (λp hp=>uU (hn' p hp).1),Q9 c0,Q9 c1]
  rw[show((aO ps).all λp=>decide (fg p<=99))=true by
   rw[ϻ]
   intro d hd
   obtain⟨p,hp,rfl⟩:=ϥ.mp hd
   exact Q9 (hn' p hp).2]
  rfl
 ·have h8:∀p∈ps,p.1.cps.size<=8:=λp hp=>(aY (hn' p hp).1).2
  have h1:=fW h8
  have h2:(Dv.tup (aO ps)).small=true:=by
   simp only[Dv.small,h1,ϳ]
   exact Q9 (by rw[show(aO ps).length=ps.length from η _];omega)
  show(Dv.tup [.int c,.tup (aO ps)]).small=true
  simp only[Dv.small,smalls]at h2⊢
  simp only[h2,ϳ,Bool.and_true]
  rfl
theorem cH{ds:List Dv}(h:∀d∈ds,d.small=true)(hl:ds.length<=1000):(Dv.tup ds).small=true:=by
 have:∀ds:List Dv,(∀d∈ds,d.small=true)->smalls ds=true:=by
  intro ds
  induction ds with
  |nil=>intro _;rfl
  |cons d ds ih=>intro h;simp only[smalls,ψ];exact⟨h d ξ,ih λe he=>h e (χ _ he)⟩
 simp only[Dv.small,this ds h,ϳ]
 exact Q9 hl
theorem fG:∀{k:Kd},k.All SL->k.dv.small=true
 |.whole,_=>by decide +kernel
 |.place c ps,h=>cH (λd hd=>by
   rcases ν.mp hd with rfl|hd
   ·decide +kernel
   ·rw[μ.mp hd];exact h.2) (by show 2<=1000;decide)
 |.row c ps k,h=>cH (λd hd=>by
   rcases ν.mp hd with rfl|hd
   ·decide +kernel
   ·rcases ν.mp hd with rfl|hd
    ·exact h.1.2
    ·rw[μ.mp hd];exact fG h.2) (by show 3<=1000;decide)
 |.pair i j,h=>cH (λd hd=>by
   rcases ν.mp hd with rfl|hd
   ·decide +kernel
   ·rcases ν.mp hd with rfl|hd
    ·exact fG h.1
    ·rw[μ.mp hd];exact fG h.2) (by show 3<=1000;decide)
theorem hV:∀{k:Kd},k.All SL->aK k.dv=k.size
 |.whole,_=>by show aK (.tup [.str "whole"])=1;rw[AJ,Q5 rfl]
 |.place c ps,h=>by show aK (.tup [.str "place",bz c ps])=1;rw[AL,Q5 ⟨rfl,h.1⟩]
 |.row c ps k,h=>by show aK (.tup [.str "row",bz c ps,k.dv])=k.size+1;rw[Ay,Q6 w6,Q5 ⟨rfl,h.1.1⟩,hV h.2];omega
 |.pair i j,h=>by show aK (.tup [.str "pair",i.dv,j.dv])=i.size+j.size+1;rw[Ay,Q5 rfl,hV h.1,hV h.2];omega
theorem wS{l:List Nat}{x:Nat}(h:x∈l):x<=l.sum:=by
 induction l with
 |nil=>cases h
 |cons y l ih=>
  rw[l7]
  rcases ν.mp h with rfl|h
  ·omega
  ·have:=ih h;omega
abbrev pp:Stmt:=top 58
abbrev ma:Stmt:=top 59
abbrev mD:Stmt:=top 60
def St2(H:Hp)(a:Addr):Prop:=∃(n:Int) (b:Bool),H a=some (.lst [.int n,.bl b])
theorem St2.b{H H':Hp}{a b:Addr}(h:St2 H a)(s:ar b H H')(n:a≠b):St2 H' a:=let ⟨i,c,e⟩:=h;⟨i,c,s _ _ n e⟩
theorem St2.m{H H':Hp}{a:Addr}(h:St2 H a)(s:ai H H'):St2 H' a:=let ⟨i,c,e⟩:=h;⟨i,c,s _ _ e⟩
theorem St2.tups{H H':Hp}{a:Addr}(h:St2 H a)(s:ar a H H'):tY H H':=let ⟨_,_,e⟩:=h;s.tups e
def dD:Sp:=λvs H Q _=>∃(a:Addr) (m:Int),vs=[.ref a,.int m]/\St2 H a/\0<m/\m<10^40/\∀(H':Hp)(x:Int),ar a H H'->St2 H' a->0<=x->x<m->Q (.int x) H'
def lP(K:ζ):Sp:=λvs H Q _=>∃(s:Addr) (ns:List Int) (k:Int),vs=[.ref s,.int k]/\SqL K H s (ns.map V.int)/\0<=k/\∀(H':Hp)(a:Addr),ai H H'->H a=none->St2 H' a->Q (.ref a) H'
def czB(c:Nat):Bool:=azB c && !([97,101,105,111,117].contains c)
def Az(x:Str)(n:Nat):Prop:=x.cps.toList.length=n/\∀c∈x.cps.toList,czB c=true
theorem Az.len{x:Str}{n:Nat}(h:Az x n):x.length=n:=by
 have e:x.cps.toList.length=x.length:=Λ
 rw[<-e];exact h.1
theorem pP{x y:Str}{n m:Nat}(h:Az x n)(g:Az y m):Az (x++y) (n+m):=by
 have e:=B1 x y
 refine⟨by rw[e,Ζ,h.1,g.1],λc hc=>?_⟩
 rw[e]at hc
 rcases ϋ.mp hc with hc|hc
 ·exact h.2 c hc
 ·exact g.2 c hc
theorem lg{c:Nat}(h:czB c=true):Az ⟨#[c]⟩ 1:=⟨rfl,λd hd=>by
 have e:d=c:=by simpa using hd
 rw[e];exact h⟩
theorem vX:Az Cz 0:=⟨rfl,λd hd=>by cases hd⟩
theorem xa{x:Str}{n:Nat}{i:Int}(h:Az x n)(h0:0<=i)(h1:i<=n):Az (Txt.slice x (some i) none) (n-i.toNat):=by
 have e:=PyProof.Rows.slice_from_eq (x:=x) (i:=i) (b:=(x.length:Int)) h0 (by rw[h.len];exact h1) rfl
 rw[e]
 refine⟨?_,λc hc=>?_⟩
 ·show((x.cps.toList.drop i.toNat).take ((x.length:Int)-i).toNat).toArray.toList.length=_
  simp only[Χ,ϭ,h.1,h.len]
  omega
 ·have hc':c∈(x.cps.toList.drop i.toNat).take ((x.length:Int)-i).toNat:=by simpa using hc
  exact h.2 c (BR (p_ hc'))
theorem zH{x:Str}{n:Nat}{i:Int}(h:Az x n)(h0:0<=i)(h1:i<=n):Az (Txt.slice x none (some i)) i.toNat:=by
 have e:=eq_of_beq (PyProof.Rows.slice_closes_toL (x:=x) (j:=i) h0 (by rw[h.len];exact h1))
 rw[e]
 refine⟨?_,λc hc=>?_⟩
 ·show((x.cps.toList.drop (0:Int).toNat).take (i-0).toNat).toArray.toList.length=_
  simp only[Χ,ϭ,h.1]
  have:(0:Int).toNat=0:=rfl
  omega
 ·have hc':c∈(x.cps.toList.drop (0:Int).toNat).take (i-0).toNat:=by simpa using hc
  exact h.2 c (BR (p_ hc'))
theorem zU{x:Str}{n:Nat}(h:Az x n)(h1:1<=n)(h8:n<=8):nmB x=true:=by
 unfold nmB
 have e:x.cps.size=n:=by have:=h.1;simpa using this
 rw[e,Q9 h1,Q9 h8,Bool.and_self,ϳ]
 exact ϻ.mpr λc hc=>(ψ _ _▸h.2 c hc:azB c=true/\_).1
def Cn(x:Str):Prop:=nmB x=true/\∀c∈x.cps.toList,czB c=true
def Nth(z:Int)(n:Nat)(ws:List Str):Prop:=∀(j:Nat)(u:Str),ws[j]?=some u->∃c,atI (γ "bcdfghjklmnpqrstvwxyz").cps.toList ((z+5*(j:Int))%21)=some c/\u.cps.toList[n]?=some c
theorem Nth.nil{z:Int}{n:Nat}:Nth z n []:=λj u h=>by simp at h
theorem Nth.snoc{z:Int}{n c:Nat}{ws:List Str}{x y:Str}(h:Nth z n ws)(hc:atI (γ "bcdfghjklmnpqrstvwxyz").cps.toList ((z+5*(ws.length:Int))%21)=some c)(hx:x.cps.toList.length=n):Nth z n (ws++[x++⟨#[c]⟩++y]):=λj u e=>by
 by_cases hj:j<ws.length
 ·rw[m8 hj]at e;exact h j u e
 ·rw[ϵ ()]at e
  have hj2:j=ws.length:=by
   have:=(Θ.mp e).1
   rw[Ϫ]at this;omega
  subst hj2
  rw[CI]at e
  cases e
  refine⟨c,hc,?_⟩
  rw[B1,B1,g0,ϵ (),hx,CI]
  rfl
theorem wH:∀a:Nat,a<21->∀b:Nat,b<21->(γ "bcdfghjklmnpqrstvwxyz").cps.toList[a]?=(γ "bcdfghjklmnpqrstvwxyz").cps.toList[b]?->a=b:=by decide +kernel
theorem Nth.nodup{z:Int}{n:Nat}{ws:List Str}(h:Nth z n ws)(hl:ws.length<=21):ws.Nodup:=by
 rw[List.Nodup,Cj]
 intro i j hi hj hij e
 obtain⟨c,h1,h2⟩:=h i _ (ς hi)
 obtain⟨d,h3,h4⟩:=h j _ (ς hj)
 rw[e,h4]at h2
 cases h2
 have k:∀a:Int,0<=a->∀v,atI (γ "bcdfghjklmnpqrstvwxyz").cps.toList a=some v->(γ "bcdfghjklmnpqrstvwxyz").cps.toList[a.toNat]?=some v:=λa ha v hv=>by
  unfold atI ixN at hv
  rw[Q5 ha]at hv
  split at hv
  ·exact hv
  ·cases hv
 have e1:=k _ () _ h1
 have e2:=k _ () _ h3
 have:=wH ((z+5*(i:Int))%21).toNat () ((z+5*(j:Int))%21).toNat () (by rw[e1,e2])
 omega
def rV:Sp:=λvs H Q _=>∃(a:Addr) (m:Nat),vs=[.ref a,.int m]/\St2 H a/\m<=10/\∀(H':Hp)(r:Addr)(xs:List Str),ar a H H'->St2 H' a->H r=none->H' r=some (.lst (xs.map V.str))->xs.length=m->(∀x∈xs,Cn x)->xs.Nodup->Q (.ref r) H'
theorem ut:∀j,j<21->∃c,(γ "bcdfghjklmnpqrstvwxyz").cps.toList[j]?=some c/\czB c=true:=by
 have h:∀j,j<21->(((γ "bcdfghjklmnpqrstvwxyz").cps.toList[j]?).map czB)=some true:=by decide +kernel
 intro j hj
 obtain⟨c,e1,e2⟩:=ϖ.mp (h j hj)
 exact⟨c,e1,e2⟩
theorem rQ{i:Int}(h0:0<=i)(h1:i<21):∃c,atI (γ "bcdfghjklmnpqrstvwxyz").cps.toList i=some c/\czB c=true:=by
 obtain⟨c,e,h⟩:=ut i.toNat ()
 have q:=ae e
 rw[show((i.toNat:Nat):Int)=i by omega]at q
 exact⟨c,q,h⟩
theorem sH:ao ["_law_state_here","_law_many","_law_found"] ["_law_state_here","_law_many"] (ah pp):=by trivial
theorem xz{f:Addr}{fd:Η}(F:Fun K "_law_draw" "_law_draw" pp f fd)(T:Txt K mg):aw P w K mg base CX0 1 f fd ["_law_state_here","_law_many"] dD:=by
 have nd:=sH.nd
 refine F.ok sH (λvs H Q E h=>?_) (λcdv A outer s H vs Q E hr h=>?_)
 ·obtain⟨a,m,rfl,_⟩:=h
  rfl
 obtain⟨a,m,rfl,⟨n,b,ha⟩,m0,mB,q⟩:=h
 refine⟨_,(@un _ _ _ (wbO (wbI (wbV (waD aA (wv 0 rfl) waC (λ_ _=>rfl)) ()) (wbO (wbM 2 nd rfl (Ε rfl) (waQ eY (waD aA (wv 0 rfl) waC (λ_ _=>rfl)) (wv 1 rfl)) rfl ()) (wbO (wbD (waQ mQ (waD aA (wv 0 rfl) waC (λ_ _=>rfl)) (wv 1 rfl)) (wba (wv 0 rfl) waC jM ()) rfl rfl rfl) (wbQ (wbK (wv 2 rfl))))) wbP) (wbO (wbD (waQ eY (waQ bF (waQ fq (waD aA (wv 0 rfl) waC (λ_ _=>rfl)) waC) waC) waC) (wba (wv 0 rfl) waC jM ()) rfl rfl rfl) (wbQ (wbK (waQ eY (waQ eY (waQ fq (waQ mQ (waQ eY (waQ fq (waD aA (wv 0 rfl) waC (λ_ _=>rfl)) waC) waC) waC) waC) waC) (wv 1 rfl))))))),?_⟩
 dsimp only[bo,Cx.nox]
 refine⟨_,rfl,a,_,1,.bl b,rfl,rfl,SqL.of ha,ae (j:=1) rfl,_,rfl,?_⟩
 cases b with
 |true=>
  refine aF ?_
  refine⟨_,rfl,a,_,0,.int n,rfl,rfl,SqL.of ha,ae (j:=0) rfl,_,rfl,_,_,rfl,rfl,m0,?_⟩
  refine⟨_,rfl,a,_,0,.int n,rfl,rfl,SqL.of ha,ae (j:=0) rfl,_,rfl,_,_,rfl,rfl,⟨m0,()⟩,_,rfl,a,_,0,0,rfl,rfl,ha,rfl,?_⟩
  exact⟨_,rfl,q _ _ (ar.upd _ _ _) ⟨_,_,aa⟩ (iJ m m0).1 (iJ m m0).2⟩
 |false=>
  refine aG ?_
  refine⟨_,rfl,a,_,0,.int n,rfl,rfl,SqL.of ha,ae (j:=0) rfl,_,_,rfl,rfl,.inr ⟨(),()⟩,_,_,rfl,rfl,_,_,rfl,rfl,(by show(0:Int)<2147483647;decide),_,rfl,a,_,0,0,rfl,rfl,ha,rfl,?_⟩
  refine⟨_,rfl,a,_,0,_,rfl,rfl,SqL.of aa,ae (j:=0) rfl,_,_,rfl,rfl,.inr ⟨(),()⟩,_,_,rfl,rfl,(by show(0:Int)<2147483629;decide),_,_,rfl,rfl,⟨(),()⟩,_,_,rfl,rfl,.inr ⟨(),()⟩,_,_,rfl,rfl,(by show(0:Int)<2147483587;decide),_,rfl,_,_,rfl,rfl,m0,?_⟩
  exact q _ _ (ar.upd _ _ _) ⟨_,_,aa⟩ (iJ m m0).1 (iJ m m0).2
theorem nF:ao ["_law_script","_law_k","_law_cell"] ["_law_script","_law_k"] (ah ma):=by trivial
theorem vI{f:Addr}{fd:Η}(F:Fun K "_law_state" "_law_state" ma f fd)(T:Txt K mg):aw P w K mg base CX0 1 f fd ["_law_script","_law_k"] (lP K):=by
 have nd:=nF.nd
 refine F.ok nF (λvs H Q E h=>?_) (λcdv A outer s H vs Q E hr h=>?_)
 ·obtain⟨a,ns,k,rfl,_⟩:=h
  rfl
 obtain⟨a,ns,k,rfl,hS,k0,q⟩:=h
 have p15:yF 10 15:=⟨(),(),()⟩
 refine⟨_,(@un _ _ _ (wbO (wbM 2 nd rfl (Ε rfl) waC rfl ()) (wbO (wbI (wbS gY (wv 1 rfl) (wal au rfl T.len () (wae (wv 0 rfl) waf rfl) () () rfl rfl) (af _)) (wbQ (wbM 2 nd rfl (Ε rfl) (waD aA (wv 0 rfl) (wv 1 rfl) (λ_ _=>rfl)) rfl ())) wbP) (wbO (wbI (wbS gY (wv 2 rfl) (waQ qy waC waC) (af _)) (wbQ (wbK (waM (wae (waQ bF (waQ bF (wv 2 rfl) (waQ fq waC (wv 1 rfl))) waC) (wae wah waf rfl) rfl)))) wbP) (wbQ (wbK (waM (wae (wv 2 rfl) (wae wah waf rfl) rfl)))))))),?_⟩
 dsimp only[bo,Cx.nox]
 refine⟨_,rfl,_,rfl,a,_,rfl,.inl hS,_,_,rfl,rfl,_,rfl,ap (λc=>?_) (λc=>?_)⟩
 ·have c':=Q7 c
  rw[η]at c'
  obtain⟨v,hv⟩:=wT k0 c'
  refine⟨_,rfl,_,rfl,a,_,_,_,rfl,rfl,hS,hv,?_⟩
  refine⟨_,rfl,_,_,rfl,rfl,p15,_,_,rfl,rfl,_,rfl,ap (λd=>?_) (λd=>?_)⟩
  ·exact⟨_,rfl,_,rfl,_,_,rfl,rfl,.inl ⟨(),()⟩,_,_,rfl,rfl,_,_,rfl,rfl,z2,λl hl=>q _ l (ac hl _) hl ⟨_,_,aa⟩⟩
  ·exact⟨_,rfl,z2,λl hl=>q _ l (ac hl _) hl ⟨_,_,aa⟩⟩
 ·refine⟨_,rfl,_,_,rfl,rfl,p15,_,_,rfl,rfl,_,rfl,ap (λd=>?_) (λd=>?_)⟩
  ·exact⟨_,rfl,_,rfl,_,_,rfl,rfl,.inl ⟨(),()⟩,_,_,rfl,rfl,_,_,rfl,rfl,z2,λl hl=>q _ l (ac hl _) hl ⟨_,_,aa⟩⟩
  ·exact⟨_,rfl,z2,λl hl=>q _ l (ac hl _) hl ⟨_,_,aa⟩⟩
theorem nO:ao ["_law_state_here","_law_many","_law_letters","_law_stem","_law_k","_law_at","_law_turn"] ["_law_state_here","_law_many"] (ah mD):=by trivial
theorem vf{f:Addr}{fd:Η}{k:Nat}(F:Fun K "_law_names" "_law_names" mD f fd)(T:Txt K mg)(D_law_draw:Def P w K mg base k "_law_draw" ["_law_state_here","_law_many"] dD):aw P w K mg base CX0 (k+1) f fd ["_law_state_here","_law_many"] rV:=by
 have nd:=nO.nd
 refine F.ok nO (λvs H Q E h=>?_) (λcdv A outer s H vs Q E hr h=>?_)
 ·obtain⟨a,m,rfl,_⟩:=h
  rfl
 obtain⟨a,m,rfl,h2,m10,q⟩:=h
 refine⟨_,(@un _ _ _ (wbO (wbM 2 nd rfl (Bw rfl) waV rfl ()) (wbO (wbM 3 nd rfl (Bw rfl) waV rfl ()) (wbO (wbH ϫ rfl (wbk rfl T.range (wae (waq D_law_draw hr rfl (wae (wv 0 rfl) (wae waC waf rfl) rfl) () rfl rfl) waf rfl) rfl) (waZ 4 nd rfl (Ε rfl) ()) (wbQ (wbM 3 nd rfl (Bw rfl) (waQ ax (wv 3 rfl) (waD qC (wv 2 rfl) (waq D_law_draw hr rfl (wae (wv 0 rfl) (wae waC waf rfl) rfl) () rfl rfl) (λ_ _=>rfl))) rfl ())) ()) (wbO (wbM 5 nd rfl (Bw rfl) (waq D_law_draw hr rfl (wae (wv 0 rfl) (wae (waQ bF (wal bO rfl T.len () (wae (wv 3 rfl) waf rfl) () () rfl rfl) waC) waf rfl) rfl) () rfl rfl) rfl ()) (wbO (wbM 6 nd rfl (Bw rfl) (waq D_law_draw hr rfl (wae (wv 0 rfl) (wae waC waf rfl) rfl) () rfl rfl) rfl ()) (wbQ (wbK (waE ["_law_k"] ([2,3,5,6]) (wbk rfl T.range (wae (wv 1 rfl) waf rfl) rfl) (.of rfl) rfl (λ_ _ _=>⟨pg_name (i:=0) (bp (l:=["_law_k","_law_letters","_law_stem","_law_at","_law_turn"]) (()) rfl) rfl (Ε rfl)⟩) (bf ()) (λ_ _ _=>wbx) (λ_ _ _=>(waQ ax (waQ ax (waT pU (wv 2 rfl) wbz (wbA (wv 3 rfl))) (waD qC (wv 1 rfl) (waQ eY (waQ bF (wv 4 rfl) (waQ fq waC (wv 0 rfl))) waC) (λ_ _=>rfl))) (waT pU (wv 2 rfl) (wbA (wv 3 rfl)) wbz))) ()))))))))),?_⟩
 have abc:(γ "bcdfghjklmnpqrstvwxyz").length<=sizeLine:=by rw[ι];decide +kernel
 refine⟨_,rfl,a,8,rfl,h2,(),(),λH1 x s1 st1 x0 x8=>?_⟩
 refine⟨x,rfl,(),(),tR (n:=x.toNat) (λi σ H'=>∃(stem:Str) (o1:Option V),σ=[some (.ref a),some (.int m),some (.str "bcdfghjklmnpqrstvwxyz"),some (.str stem),o1,none,none]/\ar a H H'/\St2 H' a/\Az stem i) ⟨_,_,rfl,s1,st1,vX⟩ ?T1 ?_⟩
 case T1=>
  rintro i σ H2 hi ⟨stem,o1,rfl,s2,st2,az⟩
  refine⟨_,rfl,_,rfl,_,rfl,a,21,rfl,st2,(),(),λH3 y s3 st3 y0 y1=>?_⟩
  obtain⟨ch,hc,hz⟩:=rQ y0 y1
  refine⟨_,_,ch,rfl,rfl,abc,hc,_,_,rfl,rfl,?_,?_⟩
  ·rw[az.len,(lg hz).len,ι];omega
  ·exact⟨_,_,rfl,s2.trans s3,st3,pP az (lg hz)⟩
 rintro σ H2 ⟨stem,o1,rfl,s2,st2,az⟩
 have ln:=az.len
 have stl:stem.length<=sizeLine:=by rw[ln,ι];omega
 refine⟨_,rfl,_,rfl,_,rfl,stl,_,_,rfl,rfl,a,_,rfl,st2,(),by rw[ln];omega,λH3 y s3 st3 y0 y1=>?_⟩
 refine⟨_,rfl,a,21,rfl,st3,(),(),λH4 z s4 st4 z0 z1=>?_⟩
 have at1:y<=x.toNat:=by rw[ln]at y1;omega
 have zf:=xa az y0 at1
 have zt:=zH az y0 at1
 refine⟨_,rfl,_,rfl,(),(),oK (n:=((m:Int)).toNat) (λi ys H'=>H'=H4/\∃ws:List Str,ys=ws.map V.str/\ws.length=i/\(∀z∈ws,Cn z)/\Nth z y.toNat ws) ⟨rfl,[],rfl,rfl,(),Nth.nil⟩ ?_ ?_⟩
 ·rintro i ys H5 hi ⟨rfl,ws,rfl,hw,hw1,nth⟩
  obtain⟨b0,b1⟩:=iJ (a:=z+5*((0:Int)+(i:Int))) 21 ()
  obtain⟨ch,hc,hz2⟩:=rQ b0 b1
  have e1:=pP zt (lg hz2)
  have e2:=pP e1 zf
  refine bu ⟨_,rfl,_,rfl,_,rfl,_,rfl,stl,_,rfl,_,rfl,_,rfl,_,_,rfl,rfl,.inl ⟨(),()⟩,_,_,rfl,rfl,_,_,rfl,rfl,(by show(0:Int)<21;decide),_,_,ch,rfl,rfl,abc,hc,_,_,rfl,rfl,?_,_,rfl,_,rfl,_,rfl,_,rfl,stl,_,_,rfl,rfl,?_,?_,rfl,ws++[Txt.slice stem none (some y)++⟨#[ch]⟩++Txt.slice stem (some y) none],(),by simp[hw],λw hw'=>?_,nth.snoc (by rw[hw,<-Int.zero_add (i:Int)];exact hc) zt.1⟩
  ·rw[zt.len,(lg hz2).len,ι];omega
  ·rw[e1.len,zf.len,ι];omega
  ·rw[η,ι];omega
  ·rcases ϋ.mp hw' with h|h
   ·exact hw1 w h
   ·rw[μ.mp h];exact⟨zU e2 () (),e2.2⟩
 rintro ys H5 ⟨rfl,ws,rfl,hw,hw1,nth⟩ r hr'
 have s05:ar a H H5:=s2.trans (s3.trans s4)
 have hra:r≠a:=λe=>by obtain⟨n,b,e2⟩:=st4;rw[e,e2]at hr';cases hr'
 have hrn:H r=none:=by
  cases e:H r with
  |none=>rfl
  |some o=>have:=s05 r o hra e;rw[hr']at this;cases this
 exact q _ r ws (s05.trans (ai.b a (ac hr' _))) (st4.m (ac hr' _)) hrn aa (by rw[hw];omega) hw1 (nth.nodup (by rw[hw];omega))
abbrev je:Stmt:=top 61
structure Ln(xs:List Str)(most:Int)(c:Int)(ps:List Pr):Prop where
 c0:0<=c
 cB:c<=most
 can:nY ps
 nm:∀p∈ps,p.1∈xs/\p.2<=most
 len:ps.length<=10
def jf:Sp:=λvs H Q _=>∃(a b:Addr) (m:Int) (xs:List Str),vs=[.ref a,.ref b,.int m]/\St2 H a/\H b=some (.lst (xs.map V.str))/\b≠a/\xs.length<=10/\2<=m/\m<10^39 /\
 ∀(H':Hp)(v:V)(c:Int)(ps:List Pr),ar a H H'->St2 H' a->Rep H' (bz c ps) v->Ln xs m c ps->Q v H'
theorem Am{i:Int}(h0:0<=i)(h1:i<4):∃n:Int,atI ([V.int 0,V.int 0,V.int 1,V.int 2]:List V) i=some (.int n)/\0<=n/\n<=2:=by
 have e:i=0\/i=1\/i=2\/i=3:=by omega
 rcases e with rfl|rfl|rfl|rfl
 ·exact⟨0,ae (j:=0) rfl,()⟩
 ·exact⟨0,ae (j:=1) rfl,()⟩
 ·exact⟨1,ae (j:=2) rfl,()⟩
 ·exact⟨2,ae (j:=3) rfl,()⟩
theorem z4:4<=sizeLine:=by rw[ι];decide
theorem kC:ao ["_law_state_here","_law_names_here","_law_most","_law_counts","_law_name","_law_way","_law_count"] ["_law_state_here","_law_names_here","_law_most"] (ah je):=by trivial
theorem tE{f:Addr}{fd:Η}{k:Nat}(F:Fun K "_law_length" "_law_length" je f fd)(T:Txt K mg)(D_law_draw:Def P w K mg base k "_law_draw" ["_law_state_here","_law_many"] dD):aw P w K mg base CX0 (k+1) f fd ["_law_state_here","_law_names_here","_law_most"] jf:=by
 have nd:=kC.nd
 refine F.ok kC (λvs H Q E h=>?_) (λcdv A outer s H vs Q E hr h=>?_)
 ·obtain⟨a,b,m,xs,rfl,_⟩:=h
  rfl
 obtain⟨a,b,m,xs,rfl,st,hb,hba,lx,m2,mB,q⟩:=h
 have hu:=xF hr
 refine⟨_,(@un _ _ _ (wbO (wbM 3 nd rfl (Ε rfl) waA rfl ()) (wbO (wbH ϫ rfl (wbi (wv 1 rfl)) (waZ 4 nd rfl (Ε rfl) ()) (wbO (wbM 5 nd rfl (Ε rfl) (waq D_law_draw hr rfl (wae (wv 0 rfl) (wae waC waf rfl) rfl) () rfl rfl) rfl ()) (wbO (wbI (wbS dX (wv 5 rfl) waC (af _)) (wbQ (wbF hu (wv 3 rfl) (wv 4 rfl) waC rfl)) wbP) (wbQ (wbI (wbS av (wv 5 rfl) waC (af _)) (wbQ (wbF hu (wv 3 rfl) (wv 4 rfl) (waQ bF waC (waq D_law_draw hr rfl (wae (wv 0 rfl) (wae (wv 2 rfl) waf rfl) rfl) () rfl rfl)) rfl)) wbP)))) ()) (wbO (wbM 6 nd rfl (Ε rfl) (waD aA (waM (wae waC (wae waC (wae waC (wae waC waf rfl) rfl) rfl) rfl)) (waq D_law_draw hr rfl (wae (wv 0 rfl) (wae waC waf rfl) rfl) () rfl rfl) (λ_ _=>rfl)) rfl ()) (wbO (wbI (wbS av (wv 6 rfl) waC (af _)) (wbQ (wbM 6 nd rfl (Ε rfl) (waq D_law_draw hr rfl (wae (wv 0 rfl) (wae (waQ bF (wv 2 rfl) waC) waf rfl) rfl) () rfl rfl) rfl ())) wbP) (wbQ (wbK (waX (wae (wv 6 rfl) (wae (wam aJ rfl T.tuple () (wae (wal (mF rfl) rfl T.sorted () (wae (wak PySem.F.plainAttrs_dict PySem.F.slot_dict_items PySem.F.type_dict_items ve (wv 3 rfl) rfl rfl) waf rfl) () () rfl rfl) waf rfl) () () rfl rfl) waf rfl) rfl))))))))),?_⟩
 dsimp only[bo,Cx.nox]
 intro d hd
 have s0:ar a H (upd H d (.dK [])):=ai.b a (ac hd _)
 have da:d≠a:=λe=>by obtain⟨n,c,e2⟩:=st;rw[e,e2]at hd;cases hd
 have db:b≠d:=aj hb hd
 refine⟨_,rfl,b,rfl,⟨_,SqL.of (s0 _ _ hba hb)⟩,nU (xs:=xs.map V.str) (λi σ H'=>∃(kvs:List Pr) (o1 o2:Option V),σ=[some (.ref a),some (.ref b),some (.int m),some (.ref d),o1,o2,none]/\ar a H H'/\St2 H' a/\H' d=some (.dK (dk kvs))/\(kvs.map (·.1)).Nodup/\kvs.length<=i/\∀p∈kvs,p.1∈xs/\1<=p.2/\p.2<=m)
  ⟨[],_,_,rfl,s0,st.m (ac hd _),aa,(),(),()⟩ (λi σ H' _ ⟨_,_,_,_,s1,_⟩=>SqL.of (s1 _ _ hba hb)) ?T1 ?_⟩
 case T1=>
  rintro i x σ H1 hx ⟨kvs,o1,o2,rfl,s1,st1,d1,ndk,lk,hall⟩
  rw[Ν]at hx
  obtain⟨y,hy,rfl⟩:=ϖ.mp hx
  have hi:i<xs.length:=(Θ.mp hy).1
  have hyx:=ϊ hy
  refine⟨_,rfl,a,4,rfl,st1,(),(),λH2 z s2 st2 z0 z4=>?_⟩
  have d2:=s2 _ _ da d1
  have put:∀(H3:Hp)(kv:List Pr)(n:Int),(kv.map (·.1)).Nodup->kv.length<=i+1->(kv.length<=i\/y∈kv.map (·.1))->(∀p∈kv,p.1∈xs/\1<=p.2/\p.2<=m)->ar a H H3->St2 H3 a->H3 d=some (.dK (dk kv))->1<=n->n<=m ->
    (ar a H (upd H3 d (.dK (dU (dk kv) (ϟ y) (.int n))))/\St2 (upd H3 d (.dK (dU (dk kv) (ϟ y) (.int n)))) a/\upd H3 d (.dK (dU (dk kv) (ϟ y) (.int n))) d=some (.dK (dk (dJ kv y n)))/\((dJ kv y n).map (·.1)).Nodup/\(dJ kv y n).length<=i+1/\y∈(dJ kv y n).map (·.1)/\∀p∈dJ kv y n,p.1∈xs/\1<=p.2/\p.2<=m):=λH3 kv n ndv lv or hv s3 st3 d3 n1 nm=>by
   refine⟨λg o hg e=>?_,st3.b (ar.upd _ _ _) (ϒ da),by rw[aa,yg],tf ndv,?_,?_,vd (R:=λp=>p.1∈xs/\1<=p.2/\p.2<=m) hv ⟨hyx,n1,nm⟩⟩
   ·rw[aq (aj e hd)];exact s3 g o hg e
   ·rcases or with h|h
    ·exact ϲ (vC _ _ _) ()
    ·have:=congrArg o9 (ko (n:=n) h);rw[η,η]at this;omega
   ·by_cases h:y∈kv.map (·.1)
    ·rw[ko h];exact h
    ·rw[uD h,Ι];exact ϋ.mpr (.inr ())
  have szd:∀kv:List Pr,kv.length<=i+1->(dk kv).length<sizeLine:=λkv h=>by rw[show(dk kv).length=kv.length from η _,ι];omega
  refine⟨_,rfl,_,_,rfl,rfl,_,rfl,ap (λh1=>?_) (λh1=>?_)⟩
  ·refine⟨_,rfl,_,rfl,d,_,rfl,tL.k (k:=ϟ y) d2 (szd _ ()),?_⟩
   obtain⟨s3,st3,d3,nd3,l3,i3,a3⟩:=put H2 kvs 1 ndk () (.inl lk) hall (s1.trans s2) st2 d2 () ()
   generalize upd H2 d (.dK (dU (dk kvs) (ϟ y) (.int 1)))=H3 at s3 st3 d3⊢
   generalize dJ kvs y 1=kv at d3 nd3 l3 i3 a3
   refine⟨_,rfl,rfl,_,rfl,ap (λh3=>?_) (λh3=>⟨kv,_,_,rfl,s3,st3,d3,nd3,l3,a3⟩)⟩
   refine⟨_,rfl,_,rfl,a,m,rfl,st3,(),(),λH4 n s4 st4 n0 n1=>?_⟩
   refine⟨_,_,rfl,rfl,_,rfl,_,rfl,d,_,rfl,tL.k (k:=ϟ y) (s4 _ _ da d3) (szd _ l3),?_⟩
   obtain⟨s5,st5,d5,nd5,l5,i5,a5⟩:=put H4 kv (1+n) nd3 l3 (.inr i3) a3 (s3.trans s4) st4 (s4 _ _ da d3) () ()
   exact⟨_,_,_,rfl,s5,st5,d5,nd5,l5,a5⟩
  ·refine⟨_,rfl,rfl,_,rfl,ap (λh3=>?_) (λh3=>⟨kvs,_,_,rfl,s1.trans s2,st2,d2,ndk,(),hall⟩)⟩
   exact absurd (eqI h3) (λe=>h1 (Q9 ()))
 rintro σ H1 ⟨kvs,o1,o2,rfl,s1,st1,d1,ndk,lk,hall⟩
 rw[η]at lk
 refine⟨z4,λl hl=>?_⟩
 have q1:=ac hl (.lst [V.int 0,.int 0,.int 1,.int 2])
 refine⟨_,rfl,a,4,rfl,st1.m q1,(),(),λH2 z s2 st2 z0 z4'=>?_⟩
 have la:l≠a:=λe=>by obtain⟨n,c,e2⟩:=st1;rw[e,e2]at hl;cases hl
 obtain⟨n,hn,n0,n2⟩:=Am z0 z4'
 refine⟨l,_,_,.int n,rfl,rfl,SqL.of (s2 _ _ la aa),hn,?_⟩
 have d2:=s2 _ _ da (q1 _ _ d1)
 have s02:ar a H H2:=s1.trans ((ai.b a q1).trans s2)
 have fin:∀(H3:Hp)(c:Int),ar a H H3->St2 H3 a->H3 d=some (.dK (dk kvs))->0<=c->c<=m->∀(H4:Hp)(w:V)(ps:List Pr),ai H3 H4->Rep H4 (.tup (aO ps)) w->ps.Perm kvs->nY ps->2<=sizeLine/\∀p,H4 p=none->Q (.ref p) (upd H4 p (.tup [.int c,w])):=λH3 c s3 st3 _ c0 cB H4 w ps s4 R pq can=>⟨z2,λp hp=>by
  have s5:=ac hp (.tup [.int c,w])
  exact q _ _ c ps (s3.trans (ai.b a (s4.trans s5))) (st3.m (s4.trans s5)) (vk aa (R.mono s5)) ⟨c0,cB,can,λx hx=>⟨(hall x (pq.mem_iff.mp hx)).1,(hall x (pq.mem_iff.mp hx)).2.2⟩,by rw[pq.length_eq];omega⟩⟩
 have items:∀(H3:Hp)(c:Int),ar a H H3->St2 H3 a->H3 d=some (.dK (dk kvs))->0<=c->c<=m->∀v,H3 v=none->∀(H4:Hp)(l:Addr)(qs:List TK),ai (upd H3 v (jF v d)) H4->(∀r∈qs,H4 r.1=some (.tup (.str r.2.1::r.2.2))/\upd H3 v (jF v d) r.1=none)->H4 l=some (.lst (qs.map λr=>V.ref r.1))->(qs.map (·.2)).Perm ((kvs.map λp=>(p.1,V.int p.2)).map λp=>(p.1,[p.2]))->qs.Pairwise uv ->
   ∀t,H4 t=none->2<=sizeLine/\∀p,upd H4 t (.tup (qs.map λr=>V.ref r.1)) p=none->Q (.ref p) (upd (upd H4 t (.tup (qs.map λr=>V.ref r.1))) p (.tup [.int c,.ref t])):=λH3 c s3 st3 d3 c0 cB v hv H4 l qs s4 hq hl pq pw t ht=>by
  obtain⟨perm,can,rep⟩:=oX hq pq pw λp hp=>(hall p hp).2.1
  exact fin H3 c s3 st3 d3 c0 cB _ _ _ ((ac hv _).trans (s4.trans (ac ht _))) (rep t ht) perm can
 have two:∀(H3:Hp)(v:Addr),H3 d=some (.dK (dk kvs))->H3 v=none->upd H3 v (jF v d) d=some (.dK ((kvs.map λp=>(p.1,V.int p.2)).map λp=>((ϟ p.1:Key),p.2))):=λH3 v d3 hv=>by rw[aq (aj d3 hv),d3,Ξ];rfl
 have l64:(kvs.map λp=>(p.1,V.int p.2)).length<64:=by rw[η];omega
 refine⟨_,rfl,rfl,_,rfl,ap (λh2=>?_) (λh2=>?_)⟩
 ·refine⟨_,rfl,_,rfl,_,_,rfl,rfl,a,_,rfl,st2,(),(),λH3 x s3 st3 x0 x1=>?_⟩
  have d3:=s3 _ _ da d2
  refine⟨_,rfl,_,rfl,.inr (.inr (.inl ⟨rfl,.inl ⟨_,d3⟩⟩)),d,_,rfl,rfl,d3,λv hv=>?_⟩
  refine⟨v,d,kvs.map λp=>(p.1,V.int p.2),rfl,aa,two H3 v d3 hv,l64,λH4 l4 qs s4 _ hq hl4 pq pw=>⟨l4,_,rfl,.inl ⟨SqL.of hl4,λt ht=>?_⟩⟩⟩
  exact items H3 x (s02.trans s3) st3 d3 x0 () v hv H4 l4 qs s4 hq hl4 pq pw t ht
 ·refine⟨_,rfl,_,rfl,.inr (.inr (.inl ⟨rfl,.inl ⟨_,d2⟩⟩)),d,_,rfl,rfl,d2,λv hv=>?_⟩
  refine⟨v,d,kvs.map λp=>(p.1,V.int p.2),rfl,aa,two H2 v d2 hv,l64,λH4 l4 qs s4 _ hq hl4 pq pw=>⟨l4,_,rfl,.inl ⟨SqL.of hl4,λt ht=>?_⟩⟩⟩
  exact items H2 n s02 st2 d2 n0 () v hv H4 l4 qs s4 hq hl4 pq pw t ht
abbrev en:Stmt:=top 33
abbrev ci:Stmt:=top 34
abbrev ql:Stmt:=top 35
abbrev dS:Stmt:=top 36
def aV(i:Int):Str:=γ (toString i)
def aE(p:Pr):Str:=if p.2=1 then p.1 else aV p.2++γ "*" ++ p.1
def aU(c:Int)(ps:List Pr):List Str:=ps.map aE++(if c≠0\/ps=[]then [aV c]else [])
def bY(c:Int)(ps:List Pr):Str:=a9 (γ "+") (aU c ps)
def kdT:Kd->Str
 |.whole=>γ "whole"
 |.place c ps=>γ "place" ++ γ "(" ++ a9 (γ ", ") [bY c ps]++γ ")"
 |.row c ps k=>γ "row" ++ γ "(" ++ a9 (γ ", ") [bY c ps,kdT k]++γ ")"
 |.pair a b=>γ "pair" ++ γ "(" ++ a9 (γ ", ") [kdT a,kdT b]++γ ")"
structure Wr(c:Int)(ps:List Pr):Prop where
 can:nY ps
 c0:0<=c
 c1:c<10^60
 len:ps.length<=21
 le:∀p∈ps,p.2<10^60/\p.1.length<=8
theorem iP{i:Int}(h0:0<=i)(h1:i<10^60):i.natAbs.log2<1920:=by
 refine Nat.lt_trans ?_ (show 200<1920 by decide)
 by_cases e:i.natAbs=0
 ·rw[e];decide
 ·exact(Nat.log2_lt e).mpr (ϑ (show i.natAbs<10^60 by omega) ())
theorem cF{i:Int}(h0:0<=i)(h1:i<10^60):(aV i).length<=60:=PyProof.Rows.toString_length_le h0 (k:=60) () h1
theorem vn:(γ "*").length=1:=by decide +kernel
theorem vb:(γ "+").length=1:=by decide +kernel
theorem fE{p:Pr}(h0:1<=p.2)(h1:p.2<10^60)(h8:p.1.length<=8):(aE p).length<=69:=by
 unfold aE
 split
 ·omega
 ·rw[Γ,Γ,vn]
  have:=cF (i:=p.2) () h1
  omega
def yb:Sp:=λvs H Q _=>∃(x:Str) (n:Int),vs=[.str x,.int n]/\x.length<=8/\1<=n/\n<10^60/\Q (.str (aE (x,n))) H
def ki:Sp:=λvs H Q _=>∃(v:V) (c:Int) (ps:List Pr),vs=[v]/\Rep H (bz c ps) v/\Wr c ps/\∀H',ai H H'->Q (.str (bY c ps)) H'
theorem tj(z:Str)(ys:List Str):Txt.join z ys=a9 z ys:=by
 show o8.Str.glued z ys=_
 rw[StrLaws.glued_eq_join]
theorem lH:ao ["name","times"] ["name","times"] (ah en):=by trivial
theorem my{f:Addr}{fd:Η}(F:Fun K "show_part" "show_part" en f fd)(T:Txt K mg):aw P w K mg base CX0 1 f fd ["name","times"] yb:=by
 refine F.ok lH (λvs H Q E h=>?_) (λcdv A outer s H vs Q E hr h=>?_)
 ·obtain⟨x,n,rfl,_⟩:=h
  rfl
 obtain⟨x,n,rfl,x8,n1,n60,q⟩:=h
 refine⟨_,(@un _ _ _ (wbQ (wbK (wac (wbS av (wv 1 rfl) waC (af _)) (wv 0 rfl) (was (wau ⟨yK (pv 1)⟩ (wau waV (wau (wat (wv 0 rfl)) wav)))))))),?_⟩
 refine⟨_,rfl,rfl,_,rfl,ap (λh=>?_) (λh=>?_)⟩
 ·have e:n=1:=by simpa using h
  have ep:aE (x,n)=x:=Q5 e
  rw[ep]at q
  exact⟨_,rfl,q⟩
 ·have e:¬ n=1:=by simpa using h
  have ep:aE (x,n)=aV n++γ "*" ++ x:=Q6 e
  rw[ep]at q
  have l0:=cF (i:=n) () n60
  have e1:Cz++aV n=aV n:=BF _
  have l1:(aV n++γ "*").length<=61:=by rw[Γ,vn];omega
  have l2:(aV n++γ "*" ++ x).length<=69:=by rw[Γ];omega
  refine⟨_,rfl,n,rfl,iP () n60,aV n,rfl,by rw[e1,ι];omega,?_⟩
  rw[e1]
  exact⟨_,rfl,by rw[ι];omega,_,rfl,x,rfl,by rw[ι];omega,x,rfl,by rw[ι];omega,by rw[ι];omega,q⟩
theorem bc(s a:Str):a9 s [a]=a:=rfl
theorem bb(s a b:Str)(r:List Str):a9 s (a::b::r)=a++s++a9 s (b::r):=rfl
theorem eu(s:Str):∀ys:List Str,(a9 s ys).length<=(ys.map (·.length)).sum+ys.length*s.length
 |[]=>Υ _
 |[a]=>by rw[bc];simp
 |a::b::r=>by
  have ih:=eu s (b::r)
  rw[bb,Γ,Γ]
  simp only[Ο,l7,ω,Nat.add_mul]at ih⊢
  omega
theorem eP:(γ ", ").length=2:=by decide +kernel
theorem lb3:(γ "(").length=1:=by decide +kernel
theorem lb4:(γ ")").length=1:=by decide +kernel
theorem ie{B:Nat}:∀{ys:List Str},(∀y∈ys,y.length<=B)->(ys.map (·.length)).sum<=ys.length*B
 |[],_=>by simp
 |y::ys,h=>by
  have h1:=h y ξ
  have h2:=ie (ys:=ys) λe he=>h e (χ _ he)
  rw[Ο,l7,ω,Nat.add_mul]
  omega
theorem fA{c:Int}{ps:List Pr}(h:Wr c ps):(∀y∈aU c ps,y.length<=69)/\(aU c ps).length<=22:=by
 have l:=h.len
 unfold aU
 refine⟨λy hy=>?_,?_⟩
 ·rcases ϋ.mp hy with h1|h1
  ·obtain⟨p,hp,rfl⟩:=ϥ.mp h1
   exact fE (h.can.ge p hp) (h.le p hp).1 (h.le p hp).2
  ·split at h1
   ·rw[μ.mp h1];have:=cF h.c0 h.c1;omega
   ·cases h1
 ·rw[Ζ,η]
  split
  ·rw[Ϫ];omega
  ·rw[h_];omega
theorem bR{c:Int}{ps:List Pr}(h:Wr c ps):(bY c ps).length<=1540:=by
 obtain⟨h1,h2⟩:=fA h
 have a:=eu (γ "+") (aU c ps)
 have b:=ie h1
 rw[vb]at a
 unfold bY
 have:(aU c ps).length*69<=22*69:=BS _ h2
 omega
theorem br:∀{k:Kd},k.All Wr->(kdT k).length<=1700*k.size
 |.whole,_=>by show(γ "whole").length<=1700*1;exact c_ ()
 |.place c ps,h=>by
  have l:=bR (c:=c) (ps:=ps) h
  have w:(γ "place").length=5:=by decide +kernel
  rw[kdT,bc,Γ,Γ,Γ,w,lb3,lb4]
  show _<=1700*1
  omega
 |.row c ps k,h=>by
  have l:=bR (c:=c) (ps:=ps) h.1
  have i:=br (k:=k) h.2
  have w:(γ "row").length=3:=by decide +kernel
  rw[kdT,bb,bc,Γ,Γ,Γ,Γ,Γ,w,lb3,lb4,eP]
  show _<=1700*(k.size+1)
  omega
 |.pair a b,h=>by
  have i:=br (k:=a) h.1
  have j:=br (k:=b) h.2
  have w:(γ "pair").length=4:=by decide +kernel
  rw[kdT,bb,bc,Γ,Γ,Γ,Γ,Γ,w,lb3,lb4,eP]
  show _<=1700*(a.size+b.size+1)
  omega
def lE:Sp:=λvs H Q _=>∃(z:Str) (l:Addr) (ys:List Str),vs=[.str z,.ref l]/\H l=some (.lst (ys.map V.str))/\z.length<=10/\(ys.map (·.length)).sum+ys.length*2<=2000000/\Q (.str (z++γ "(" ++ a9 (γ ", ") ys++γ ")")) H
def gJ(n:Nat):Sp:=λvs H Q _=>∃(v:V) (k:Kd),vs=[v]/\Rep H k.dv v/\k.size<=n/\n<=12/\k.All Wr/\∀H',ai H H'->Q (.str (kdT k)) H'
theorem dL:ao ["a","parts"] ["a"] (ah ci):=by trivial
theorem jL{f:Addr}{fd:Η}{k:Nat}(F:Fun K "show_length" "show_length" ci f fd)(T:Txt K mg)(Dshow_part:Def P w K mg base k "show_part" ["name","times"] yb):aw P w K mg base CX0 (k+1) f fd ["a"] ki:=by
 have nd:=dL.nd
 refine F.ok dL (λvs H Q E h=>?_) (λcdv A outer s H vs Q E hr h=>?_)
 ·obtain⟨v,c,ps,rfl,_⟩:=h
  rfl
 obtain⟨v,c,ps,rfl,R,wr,q⟩:=h
 have hu9:=jG hr
 have huL:(A.deeper (PyProof.Rows.envOfC (γ "show_length") (ah ci) s.heap.objs.size f cdv)).units<cLine:=by omega
 obtain⟨a,a1,us,rfl,ha,ha1,ru,lu⟩:=qW R
 obtain⟨tl,tn⟩:=fA wr
 have wl:=wr.len
 refine⟨_,(@un _ _ _ (wbO (wbJ (["name","times"]) [] 1 nd rfl rfl (wbo (waD am (wv 0 rfl) waC (λ_ _=>rfl))) (.of rfl) rfl (λ_ _ _=>⟨pg_tup rfl (pgs_cons (pg_name (i:=0) (bp (l:=["name","times"]) (()) rfl) rfl (Ε rfl)) (pgs_cons (pg_name (i:=1) (bp (l:=["name","times"]) (()) rfl) rfl (Ε rfl)) pgs_nil))⟩) (iQ () ()) (λ_ _ _=>wbx) (λ_ _ _=>(waq Dshow_part hr rfl (wae (wv 0 rfl) (wae (wv 1 rfl) waf rfl) rfl) () rfl rfl)) rfl ()) (wbO (wbI (wab (wbY (wbS eT (waD am (wv 0 rfl) waC (λ_ _=>rfl)) waC (af _)) (wbZ (wbS (vS huL) (wv 1 rfl) (waM waf) (af _))))) (wbQ (wbG (waj Ω Ϡ ϡ bt (wv 1 rfl) (wae (wam bL rfl T.str () (wae (waD am (wv 0 rfl) waC (λ_ _=>rfl)) waf rfl) () () rfl rfl) waf rfl) rfl rfl rfl rfl rfl) rfl)) wbP) (wbQ (wbK (waj Ϗ x6 x9 io waV (wae (wv 1 rfl) waf rfl) rfl rfl rfl rfl rfl)))))),?_⟩
 dsimp only[bo,Cx.nox]
 refine⟨_,rfl,a,_,1,.ref a1,rfl,rfl,SqT.of ha,ae (j:=1) rfl,a1,rfl,⟨us,SqT.of ha1⟩,pL (xs:=us) (λi ys H'=>H'=H/\ys=((ps.take i).map aE).map V.str) ⟨rfl,rfl⟩ (λi ys H' _ p=>by rw[p.1];exact SqT.of ha1) ?L1 ?_⟩
 case L1=>
  rintro i ys H' x hx ⟨rfl,rfl⟩
  obtain⟨p,b,hp,rfl,hb⟩:=sw ru hx
  have hi:i<us.length:=(Θ.mp hx).1
  have hpm:=ϊ hp
  refine eE hb ⟨_,rfl,_,rfl,p.1,p.2,rfl,(wr.le p hpm).2,wr.can.ge p hpm,(wr.le p hpm).1,?_,rfl,?_⟩
  ·rw[η,η,Χ,ι];omega
  ·rw[Ϣ,hp,Ι,Ι];rfl
 rintro ys H' ⟨rfl,rfl⟩ l hl
 rw[lu,ϛ]
 have s1:=ac hl (.lst ((ps.map aE).map V.str))
 have h1:upd H' l (.lst ((ps.map aE).map V.str)) l=some (.lst ((ps.map aE).map V.str)):=aa
 generalize upd H' l (.lst ((ps.map aE).map V.str))=H1 at s1 h1⊢
 refine gnm ?_
 have fin:∀(H2:Hp)(ts:List Str),ts=aU c ps->ai H' H2->H2 l=some (.lst (ts.map V.str))->∃(z:Str) (a:Addr) (ys:List Str),V.str (γ "+")=.str z/\[V.ref l]=[.ref a]/\SqL K H2 a (ys.map V.str)/\(ys.map (·.length)).sum+ys.length*z.length<=16777216/\Q (.str (Txt.join z ys)) H2:=λH2 ts e s2 h2=>by
  subst e
  have b:=ie tl
  have:(aU c ps).length*69<=22*69:=BS _ tn
  refine⟨_,l,aU c ps,rfl,rfl,SqL.of h2,by rw[vb];omega,?_⟩
  rw[tj]
  exact q H2 s2
 have lp:((ps.map aE).map V.str).length<=21:=by rw[η,η];exact wl
 have app:(c≠0\/ps=[])->ps.map aE++[aV c]=aU c ps:=λe=>by unfold aU;rw[Q5 e]
 refine⟨_,rfl,a,_,0,.int c,rfl,rfl,SqT.of (s1 _ _ ha),ae (j:=0) rfl,rfl,_,rfl,ap (λh=>?_) (λh=>?_)⟩
 ·have hc:c≠0:=by simpa using h
  refine aF ⟨_,rfl,.inl ⟨rfl,_,SqL.of h1⟩,_,rfl,a,_,0,.int c,rfl,rfl,SqT.of (s1 _ _ ha),ae (j:=0) rfl,c,rfl,iP wr.c0 wr.c1,l,_,.str (aV c),rfl,rfl,h1,by rw[ι];omega,rfl,_,rfl,?_⟩
  exact fin _ _ (app (.inl hc)) (λg o e=>by rw[aq (aj e hl)];exact s1 _ _ e) (by rw[aa,Ι];rfl)
 ·have hc:c=0:=by simpa using h
  refine⟨_,rfl,Υ _,λe he=>⟨l,e,_,rfl,rfl,SqL.of (ac he _ _ _ h1),SqL.of aa,_,rfl,?_⟩⟩
  have s2:=ac he (.lst [])
  have h2:=s2 _ _ h1
  have s02:=s1.trans s2
  generalize upd H1 e (.lst [])=H2 at s2 h2 s02⊢
  cases ps with
  |nil=>
   refine aF ⟨_,rfl,.inl ⟨rfl,_,SqL.of h2⟩,_,rfl,a,_,0,.int c,rfl,rfl,SqT.of (s02 _ _ ha),ae (j:=0) rfl,c,rfl,iP wr.c0 wr.c1,l,_,.str (aV c),rfl,rfl,h2,by rw[ι];omega,rfl,_,rfl,?_⟩
   exact fin _ _ (app (.inr rfl)) (λg o e=>by rw[aq (aj e hl)];exact s02 _ _ e) (by rw[aa];rfl)
  |cons p ps=>
   refine aG ⟨rfl,_,rfl,?_⟩
   exact fin _ _ (by unfold aU;rw[Q6 (λz=>z.elim (λy=>y hc) (λy=>by cases y)),ϙ]) s02 h2
theorem rh:ao ["word","texts","inner"] ["word","texts"] (ah ql):=by trivial
theorem wy{f:Addr}{fd:Η}(F:Fun K "in_brackets" "in_brackets" ql f fd)(T:Txt K mg):aw P w K mg base CX0 1 f fd ["word","texts"] lE:=by
 have nd:=rh.nd
 refine F.ok rh (λvs H Q E h=>?_) (λcdv A outer s H vs Q E hr h=>?_)
 ·obtain⟨z,l,ys,rfl,_⟩:=h
  rfl
 obtain⟨z,l,ys,rfl,hl,lz,ls,q⟩:=h
 refine⟨_,(@un _ _ _ (wbO (wbM 2 nd rfl (Ε rfl) (waj Ϗ x6 x9 io waV (wae (wv 1 rfl) waf rfl) rfl rfl rfl rfl rfl) rfl ()) (wbQ (wbK (was (wau (wat (wv 0 rfl)) (wau waV (wau (wat (wv 2 rfl)) (wau waV wav))))))))),?_⟩
 dsimp only[bo,Cx.nox]
 refine⟨rfl,_,rfl,_,l,ys,rfl,rfl,SqL.of hl,by rw[eP];omega,?_⟩
 rw[tj]
 have hj:=eu (γ ", ") ys
 rw[eP]at hj
 have lj:(a9 (γ ", ") ys).length<=2000000:=by omega
 generalize a9 (γ ", ") ys=jn at lj q⊢
 have e1:Cz++z=z:=BF z
 have l1:(z++γ "(").length<=11:=by rw[Γ,lb3];omega
 have l2:(z++γ "(" ++ jn).length<=2000011:=by rw[Γ];omega
 have l3:(z++γ "(" ++ jn++γ ")").length<=2000012:=by rw[Γ,lb4];omega
 refine⟨_,rfl,z,rfl,by rw[ι];omega,z,rfl,by rw[e1,ι];omega,?_⟩
 rw[e1]
 refine⟨_,rfl,by rw[ι];omega,_,rfl,jn,rfl,by rw[ι];omega,jn,rfl,by rw[ι];omega,_,rfl,by rw[ι];omega,by rw[ι];omega,q⟩
theorem mw:ao ["kind"] ["kind"] (ah dS):=by trivial
theorem lS{f:Addr}{fd:Η}{k0 n:Nat}(F:Fun K "show_kind" "show_kind" dS f fd)(T:Txt K mg)(Din_brackets:Def P w K mg base k0 "in_brackets" ["word","texts"] lE)(Dshow_length:Def P w K mg base k0 "show_length" ["a"] ki)(Dshow_kind:Def P w K mg base k0 "show_kind" ["kind"] (gJ n)):aw P w K mg base CX0 (k0+1) f fd ["kind"] (gJ (n+1)):=by
 refine F.ok mw (λvs H Q E h=>?_) (λcdv A outer s H vs Q E hr h=>?_)
 ·obtain⟨v,k,rfl,_⟩:=h
  rfl
 obtain⟨v,k,rfl,R,kn,n12,kA,q⟩:=h
 obtain⟨b,vs,rfl,hb,hv⟩:=Kd.inv R
 have kl:=br kA
 refine⟨_,(@un _ _ _ (wbO (wbI (wbS av (waD am (wv 0 rfl) waC (λ_ _=>rfl)) waV (af _)) (wbQ (wbK (waq Din_brackets hr rfl (wae waV (wae (waM (wae (waq Dshow_length hr rfl (wae (waD am (wv 0 rfl) waC (λ_ _=>rfl)) waf rfl) () rfl rfl) waf rfl)) waf rfl) rfl) () rfl rfl))) wbP) (wbO (wbI (wbS av (waD am (wv 0 rfl) waC (λ_ _=>rfl)) waV (af _)) (wbQ (wbK (waq Din_brackets hr rfl (wae waV (wae (waM (wae (waq Dshow_length hr rfl (wae (waD am (wv 0 rfl) waC (λ_ _=>rfl)) waf rfl) () rfl rfl) (wae (waq Dshow_kind hr rfl (wae (waD am (wv 0 rfl) waC (λ_ _=>rfl)) waf rfl) () rfl rfl) waf rfl) rfl)) waf rfl) rfl) () rfl rfl))) wbP) (wbO (wbI (wbS av (waD am (wv 0 rfl) waC (λ_ _=>rfl)) waV (af _)) (wbQ (wbK (waq Din_brackets hr rfl (wae waV (wae (waM (wae (waq Dshow_kind hr rfl (wae (waD am (wv 0 rfl) waC (λ_ _=>rfl)) waf rfl) () rfl rfl) (wae (waq Dshow_kind hr rfl (wae (waD am (wv 0 rfl) waC (λ_ _=>rfl)) waf rfl) () rfl rfl) waf rfl) rfl)) waf rfl) rfl) () rfl rfl))) wbP) (wbQ (wbK waV)))))),?_⟩
 dsimp only[bo,Cx.nox]
 refine⟨_,rfl,b,_,0,.str k.word,rfl,rfl,SqT.of hb,ae (j:=0) rfl,rfl,_,rfl,?_⟩
 cases k with
 |whole=>
  refine ap (λh=>absurd (Q7 h) (wne zO)) (λ_=>?_)
  refine⟨_,rfl,b,_,0,.str "whole",rfl,rfl,SqT.of hb,ae (j:=0) rfl,rfl,_,rfl,ap (λh=>absurd (Q7 h) (wne Al)) (λ_=>?_)⟩
  refine⟨_,rfl,b,_,0,.str "whole",rfl,rfl,SqT.of hb,ae (j:=0) rfl,rfl,_,rfl,ap (λh=>absurd (Q7 h) (wne zw)) (λ_=>?_)⟩
  exact q H (ai.refl _)
 |place c ps=>
  obtain⟨l,rfl,Rl⟩:=hv
  refine ap (λ_=>?_) (λh=>absurd (Q9 rfl) h)
  refine⟨_,rfl,b,_,1,l,rfl,rfl,SqT.of hb,ae (j:=1) rfl,l,c,ps,rfl,Rl,kA,λH1 s1=>⟨z1,λt ht=>?_⟩⟩
  have ll:=bR (c:=c) (ps:=ps) kA
  refine⟨_,t,[bY c ps],rfl,aa,(),by simp;omega,q _ (s1.trans (ac ht _))⟩
 |row c ps j=>
  obtain⟨l,u,rfl,Rl,Ru⟩:=hv
  have jn:j.size+1<=n+1:=kn
  refine ap (λh=>absurd (Q7 h) (wne (ϒ yH))) (λ_=>?_)
  refine⟨_,rfl,b,_,0,.str "row",rfl,rfl,SqT.of hb,ae (j:=0) rfl,rfl,_,rfl,ap (λ_=>?_) (λh=>absurd (Q9 rfl) h)⟩
  have ll:=bR (c:=c) (ps:=ps) kA.1
  have lk:=br kA.2
  refine⟨_,rfl,b,_,1,l,rfl,rfl,SqT.of hb,ae (j:=1) rfl,l,c,ps,rfl,Rl,kA.1,λH1 s1=>⟨_,rfl,b,_,2,u,rfl,rfl,SqT.of (s1 _ _ hb),ae (j:=2) rfl,u,j,rfl,Ru.mono s1,(),(),kA.2,λH2 s2=>⟨z2,λt ht=>?_⟩⟩⟩
  refine⟨_,t,[bY c ps,kdT j],rfl,aa,(),by simp;omega,q _ (s1.trans (s2.trans (ac ht _)))⟩
 |pair i j=>
  obtain⟨u1,u2,rfl,Ru1,Ru2⟩:=hv
  have jn:i.size+j.size+1<=n+1:=kn
  refine ap (λh=>absurd (Q7 h) (wne (ϒ yA))) (λ_=>?_)
  refine⟨_,rfl,b,_,0,.str "pair",rfl,rfl,SqT.of hb,ae (j:=0) rfl,rfl,_,rfl,ap (λh=>absurd (Q7 h) (wne (ϒ yr))) (λ_=>?_)⟩
  refine⟨_,rfl,b,_,0,.str "pair",rfl,rfl,SqT.of hb,ae (j:=0) rfl,rfl,_,rfl,ap (λ_=>?_) (λh=>absurd (Q9 rfl) h)⟩
  have l1:=br kA.1
  have l2:=br kA.2
  refine⟨_,rfl,b,_,1,u1,rfl,rfl,SqT.of hb,ae (j:=1) rfl,u1,i,rfl,Ru1,(),(),kA.1,λH1 s1=>⟨_,rfl,b,_,2,u2,rfl,rfl,SqT.of (s1 _ _ hb),ae (j:=2) rfl,u2,j,rfl,Ru2.mono s1,(),(),kA.2,λH2 s2=>⟨z2,λt ht=>?_⟩⟩⟩
  refine⟨_,t,[kdT i,kdT j],rfl,aa,(),by simp;omega,q _ (s1.trans (s2.trans (ac ht _)))⟩
abbrev ig:Stmt:=top 62
abbrev lQ:Stmt:=top 63
theorem ni:ao ["_law_length_here","_law_words","_law_name","_law_times"] ["_law_length_here"] (ah ig):=by trivial
theorem vD{f:Addr}{fd:Η}(F:Fun K "_law_length_text" "_law_length_text" ig f fd)(T:Txt K mg):aw P w K mg base CX0 1 f fd ["_law_length_here"] ki:=by
 have nd:=ni.nd
 refine F.ok ni (λvs H Q E h=>?_) (λcdv A outer s H vs Q E hr h=>?_)
 ·obtain⟨v,c,ps,rfl,_⟩:=h
  rfl
 obtain⟨v,c,ps,rfl,R,wr,q⟩:=h
 have hu9:=jG hr
 have huL:(A.deeper (PyProof.Rows.envOfC (γ "_law_length_text") (ah ig) s.heap.objs.size f cdv)).units<cLine:=by omega
 obtain⟨a,a1,us,rfl,ha,ha1,ru,lu⟩:=qW R
 obtain⟨tl,tn⟩:=fA wr
 have wl:=wr.len
 refine⟨_,(@un _ _ _ (wbO (wbM 1 nd rfl (Ε rfl) (waM waf) rfl ()) (wbO (wbH ϫ rfl (wbo (waD am (wv 0 rfl) waC (λ_ _=>rfl))) (wbb rfl (wbd (waZ 2 nd rfl (Ε rfl) ()) (wbd (waZ 3 nd rfl (Ε rfl) ()) wbe rfl) rfl) rfl rfl) (wbQ (wbG (waj Ω Ϡ ϡ bt (wv 1 rfl) (wae (waQ ax (waD aA (waM (wae (waQ ax (wam bL rfl T.str () (wae (wv 3 rfl) waf rfl) () () rfl rfl) waV) (wae waV waf rfl) rfl)) (wam sO rfl T.int () (wae (wap av (wv 3 rfl) waC (af _)) waf rfl) () () rfl rfl) (λ_ _=>rfl)) (wv 2 rfl)) waf rfl) rfl rfl rfl rfl rfl) rfl)) ()) (wbO (wbI (wab (wbY (wbS eT (waD am (wv 0 rfl) waC (λ_ _=>rfl)) waC (af _)) (wbZ (wbS (vS huL) (wv 1 rfl) (waM waf) (af _))))) (wbQ (wbG (waj Ω Ϡ ϡ bt (wv 1 rfl) (wae (wam bL rfl T.str () (wae (waD am (wv 0 rfl) waC (λ_ _=>rfl)) waf rfl) () () rfl rfl) waf rfl) rfl rfl rfl rfl rfl) rfl)) wbP) (wbQ (wbK (waj Ϗ x6 x9 io waV (wae (wv 1 rfl) waf rfl) rfl rfl rfl rfl rfl))))))),?_⟩
 dsimp only[bo,Cx.nox]
 refine⟨Υ _,λl hl=>?_⟩
 have s0:=ac hl (.lst [])
 have h0:upd H l (.lst []) l=some (.lst []):=aa
 generalize upd H l (.lst [])=H0 at s0 h0⊢
 refine gnm ?_
 refine⟨_,rfl,a,_,1,.ref a1,rfl,rfl,SqT.of (s0 _ _ ha),ae (j:=1) rfl,a1,rfl,⟨us,SqT.of (s0 _ _ ha1)⟩,qQ (xs:=us) (λi σ H'=>∃(o2 o3:Option V),σ=[some (.ref a),some (.ref l),o2,o3]/\ai H H'/\H' l=some (.lst (((ps.take i).map aE).map V.str))) ⟨_,_,rfl,s0,h0⟩ (λi σ H' _ ⟨_,_,_,sx,_⟩=>SqT.of (sx _ _ ha1)) ?T1 ?_⟩
 case T1=>
  rintro i x σ H1 hx ⟨o2,o3,rfl,s1,h1⟩
  obtain⟨p,b,hp,rfl,hb⟩:=sw ru hx
  have hi:i<us.length:=(Θ.mp hx).1
  have hpm:=ϊ hp
  have p1:=wr.can.ge p hpm
  obtain⟨p60,p8⟩:=wr.le p hpm
  have nl:=cF (i:=p.2) () p60
  have pl:=fE p1 p60 p8
  refine⟨b,_,rfl,SqT.of (s1 _ _ hb),rfl,_,_,rfl,_,_,rfl,rfl,?_⟩
  refine⟨_,rfl,.inl ⟨rfl,_,SqL.of h1⟩,_,rfl,p.2,rfl,iP () p60,_,_,rfl,rfl,by rw[vn,ι];show(aV p.2).length+1<=_;omega,z2,λe he=>?_⟩
  have s2:=ac he (.lst [.str (aV p.2++γ "*"),.str (γ "")])
  have h2:=s2 _ _ h1
  have lp:((((ps.take i).map aE).map V.str)).length<=21:=by rw[η,η,Χ];omega
  have inv:∀(z:Str),z=aE p->∀H2,ai H1 H2->ai H (upd H2 l (.lst (((ps.take i).map aE).map V.str++[.str z])))/\upd H2 l (.lst (((ps.take i).map aE).map V.str++[.str z])) l=some (.lst (((ps.take (i+1)).map aE).map V.str)):=λz ez H2 s'=>by
   refine⟨λg o eg=>by rw[aq (aj eg hl)];exact s' _ _ (s1 _ _ eg),?_⟩
   rw[aa,Ϣ,hp,Ι,Ι,ez];rfl
  by_cases e1:p.2=1
  ·have ei:(if decide (V.int p.2=V.int 1)=true then (1:Int)else 0)=1:=by rw[e1];simp
   have ez:γ "" ++ p.1=aE p:=by unfold aE;rw[Q5 e1];exact BF p.1
   obtain⟨i1,i2⟩:=inv _ ez _ s2
   exact⟨_,rfl,rfl,.inr ⟨_,rfl,e,_,_,.str (γ ""),rfl,rfl,SqL.of aa,by rw[ei];rfl,_,rfl,_,_,rfl,rfl,by rw[<-Γ,ez,ι];omega,l,_,_,rfl,rfl,h2,by rw[ι];omega,_,_,rfl,i1,i2⟩⟩
  ·have ei:(if decide (V.int p.2=V.int 1)=true then (1:Int)else 0)=0:=by rw[Q8 (λz=>e1 (by injection z))];rfl
   have ez:aV p.2++γ "*" ++ p.1=aE p:=by unfold aE;rw[Q6 e1]
   obtain⟨i1,i2⟩:=inv _ ez _ s2
   exact⟨_,rfl,rfl,.inr ⟨_,rfl,e,_,_,.str (aV p.2++γ "*"),rfl,rfl,SqL.of aa,by rw[ei];rfl,_,rfl,_,_,rfl,rfl,by rw[<-Γ,ez,ι];omega,l,_,_,rfl,rfl,h2,by rw[ι];omega,_,_,rfl,i1,i2⟩⟩
 rintro σ H1 ⟨o2,o3,rfl,s1,h1⟩
 rw[lu,ϛ]at h1
 have fin:∀(H2:Hp)(ts:List Str),ts=aU c ps->ai H H2->H2 l=some (.lst (ts.map V.str))->∃(z:Str) (a:Addr) (ys:List Str),V.str (γ "+")=.str z/\[V.ref l]=[.ref a]/\SqL K H2 a (ys.map V.str)/\(ys.map (·.length)).sum+ys.length*z.length<=16777216/\Q (.str (Txt.join z ys)) H2:=λH2 ts e s2 h2=>by
  subst e
  have b:=ie tl
  have:(aU c ps).length*69<=22*69:=BS _ tn
  refine⟨_,l,aU c ps,rfl,rfl,SqL.of h2,by rw[vb];omega,?_⟩
  rw[tj]
  exact q H2 s2
 have lp:((ps.map aE).map V.str).length<=21:=by rw[η,η];exact wl
 have app:(c≠0\/ps=[])->ps.map aE++[aV c]=aU c ps:=λe=>by unfold aU;rw[Q5 e]
 refine⟨_,rfl,a,_,0,.int c,rfl,rfl,SqT.of (s1 _ _ ha),ae (j:=0) rfl,rfl,_,rfl,ap (λh=>?_) (λh=>?_)⟩
 ·have hc:c≠0:=by simpa using h
  refine aF ⟨_,rfl,.inl ⟨rfl,_,SqL.of h1⟩,_,rfl,a,_,0,.int c,rfl,rfl,SqT.of (s1 _ _ ha),ae (j:=0) rfl,c,rfl,iP wr.c0 wr.c1,l,_,.str (aV c),rfl,rfl,h1,by rw[ι];omega,rfl,_,rfl,?_⟩
  exact fin _ _ (app (.inl hc)) (λg o e=>by rw[aq (aj e hl)];exact s1 _ _ e) (by rw[aa,Ι];rfl)
 ·have hc:c=0:=by simpa using h
  refine⟨_,rfl,Υ _,λe he=>⟨l,e,_,rfl,rfl,SqL.of (ac he _ _ _ h1),SqL.of aa,_,rfl,?_⟩⟩
  have s2:=ac he (.lst [])
  have h2:=s2 _ _ h1
  have s02:=s1.trans s2
  generalize upd H1 e (.lst [])=H2 at s2 h2 s02⊢
  cases ps with
  |nil=>
   refine aF ⟨_,rfl,.inl ⟨rfl,_,SqL.of h2⟩,_,rfl,a,_,0,.int c,rfl,rfl,SqT.of (s02 _ _ ha),ae (j:=0) rfl,c,rfl,iP wr.c0 wr.c1,l,_,.str (aV c),rfl,rfl,h2,by rw[ι];omega,rfl,_,rfl,?_⟩
   exact fin _ _ (app (.inr rfl)) (λg o e=>by rw[aq (aj e hl)];exact s02 _ _ e) (by rw[aa];rfl)
  |cons p ps=>
   refine aG ⟨rfl,_,rfl,?_⟩
   exact fin _ _ (by unfold aU;rw[Q6 (λz=>z.elim (λy=>y hc) (λy=>by cases y)),ϙ]) s02 h2
theorem uM:ao ["_law_kind_here"] ["_law_kind_here"] (ah lQ):=by trivial
theorem vP{f:Addr}{fd:Η}{k0 n:Nat}(F:Fun K "_law_kind_text" "_law_kind_text" lQ f fd)(T:Txt K mg)(D_law_length_text:Def P w K mg base k0 "_law_length_text" ["_law_length_here"] ki)(D_law_kind_text:Def P w K mg base k0 "_law_kind_text" ["_law_kind_here"] (gJ n)):aw P w K mg base CX0 (k0+1) f fd ["_law_kind_here"] (gJ (n+1)):=by
 refine F.ok uM (λvs H Q E h=>?_) (λcdv A outer s H vs Q E hr h=>?_)
 ·obtain⟨v,k,rfl,_⟩:=h
  rfl
 obtain⟨v,k,rfl,R,kn,n12,kA,q⟩:=h
 obtain⟨b,vs,rfl,hb,hv⟩:=Kd.inv R
 have kl:=br kA
 have lpl:(γ "place(").length=6:=by decide +kernel
 have lro:(γ "row(").length=4:=by decide +kernel
 have lpa:(γ "pair(").length=5:=by decide +kernel
 refine⟨_,(@un _ _ _ (wbO (wbI (wbS av (waD am (wv 0 rfl) waC (λ_ _=>rfl)) waV (af _)) (wbQ (wbK waV)) wbP) (wbO (wbI (wbS av (waD am (wv 0 rfl) waC (λ_ _=>rfl)) waV (af _)) (wbQ (wbK (waQ ax (waQ ax waV (waq D_law_length_text hr rfl (wae (waD am (wv 0 rfl) waC (λ_ _=>rfl)) waf rfl) () rfl rfl)) waV))) wbP) (wbO (wbI (wbS av (waD am (wv 0 rfl) waC (λ_ _=>rfl)) waV (af _)) (wbQ (wbK (waQ ax (waQ ax (waQ ax (waQ ax waV (waq D_law_length_text hr rfl (wae (waD am (wv 0 rfl) waC (λ_ _=>rfl)) waf rfl) () rfl rfl)) waV) (waq D_law_kind_text hr rfl (wae (waD am (wv 0 rfl) waC (λ_ _=>rfl)) waf rfl) () rfl rfl)) waV))) wbP) (wbQ (wbK (waQ ax (waQ ax (waQ ax (waQ ax waV (waq D_law_kind_text hr rfl (wae (waD am (wv 0 rfl) waC (λ_ _=>rfl)) waf rfl) () rfl rfl)) waV) (waq D_law_kind_text hr rfl (wae (waD am (wv 0 rfl) waC (λ_ _=>rfl)) waf rfl) () rfl rfl)) waV))))))),?_⟩
 dsimp only[bo,Cx.nox]
 refine⟨_,rfl,b,_,0,.str k.word,rfl,rfl,SqT.of hb,ae (j:=0) rfl,rfl,_,rfl,?_⟩
 cases k with
 |whole=>
  refine ap (λ_=>?_) (λh=>absurd (Q9 rfl) h)
  exact q H (ai.refl _)
 |place c ps=>
  obtain⟨l,rfl,Rl⟩:=hv
  have ll:=bR (c:=c) (ps:=ps) kA
  refine ap (λh=>absurd (Q7 h) (wne (ϒ zO))) (λ_=>?_)
  refine⟨_,rfl,b,_,0,.str "place",rfl,rfl,SqT.of hb,ae (j:=0) rfl,rfl,_,rfl,ap (λ_=>?_) (λh=>absurd (Q9 rfl) h)⟩
  refine⟨_,rfl,b,_,1,l,rfl,rfl,SqT.of hb,ae (j:=1) rfl,l,c,ps,rfl,Rl,kA,λH1 s1=>⟨_,_,rfl,rfl,by rw[lpl,ι];omega,_,_,rfl,rfl,by rw[Γ,lpl,lb4,ι];omega,?_⟩⟩
  have e:γ "place(" ++ bY c ps++γ ")"=kdT (.place c ps):=by
   rw[kdT,bc,show γ "place("=γ "place" ++ γ "(" by decide +kernel]
  rw[e];exact q H1 s1
 |row c ps j=>
  obtain⟨l,u,rfl,Rl,Ru⟩:=hv
  have jn:j.size+1<=n+1:=kn
  have ll:=bR (c:=c) (ps:=ps) kA.1
  have lk:=br kA.2
  refine ap (λh=>absurd (Q7 h) (wne (ϒ Al))) (λ_=>?_)
  refine⟨_,rfl,b,_,0,.str "row",rfl,rfl,SqT.of hb,ae (j:=0) rfl,rfl,_,rfl,ap (λh=>absurd (Q7 h) (wne (ϒ yH))) (λ_=>?_)⟩
  refine⟨_,rfl,b,_,0,.str "row",rfl,rfl,SqT.of hb,ae (j:=0) rfl,rfl,_,rfl,ap (λ_=>?_) (λh=>absurd (Q9 rfl) h)⟩
  refine⟨_,rfl,b,_,1,l,rfl,rfl,SqT.of hb,ae (j:=1) rfl,l,c,ps,rfl,Rl,kA.1,λH1 s1=>⟨_,_,rfl,rfl,by rw[lro,ι];omega,_,_,rfl,rfl,by rw[Γ,lro,eP,ι];omega,_,rfl,b,_,2,u,rfl,rfl,SqT.of (s1 _ _ hb),ae (j:=2) rfl,u,j,rfl,Ru.mono s1,(),(),kA.2,λH2 s2=>⟨_,_,rfl,rfl,by rw[Γ,Γ,lro,eP,ι];omega,_,_,rfl,rfl,by rw[Γ,Γ,Γ,lro,eP,lb4,ι];omega,?_⟩⟩⟩
  have e:γ "row(" ++ bY c ps++γ ", " ++ kdT j++γ ")"=kdT (.row c ps j):=by
   rw[kdT,bb,bc,show γ "row("=γ "row" ++ γ "(" by decide +kernel]
   simp only[C7.append_assoc]
  rw[e];exact q H2 (s1.trans s2)
 |pair i j=>
  obtain⟨u1,u2,rfl,Ru1,Ru2⟩:=hv
  have jn:i.size+j.size+1<=n+1:=kn
  have l1:=br kA.1
  have l2:=br kA.2
  refine ap (λh=>absurd (Q7 h) (wne (ϒ zw))) (λ_=>?_)
  refine⟨_,rfl,b,_,0,.str "pair",rfl,rfl,SqT.of hb,ae (j:=0) rfl,rfl,_,rfl,ap (λh=>absurd (Q7 h) (wne (ϒ yA))) (λ_=>?_)⟩
  refine⟨_,rfl,b,_,0,.str "pair",rfl,rfl,SqT.of hb,ae (j:=0) rfl,rfl,_,rfl,ap (λh=>absurd (Q7 h) (wne (ϒ yr))) (λ_=>?_)⟩
  refine⟨_,rfl,b,_,1,u1,rfl,rfl,SqT.of hb,ae (j:=1) rfl,u1,i,rfl,Ru1,(),(),kA.1,λH1 s1=>⟨_,_,rfl,rfl,by rw[lpa,ι];omega,_,_,rfl,rfl,by rw[Γ,lpa,eP,ι];omega,_,rfl,b,_,2,u2,rfl,rfl,SqT.of (s1 _ _ hb),ae (j:=2) rfl,u2,j,rfl,Ru2.mono s1,(),(),kA.2,λH2 s2=>⟨_,_,rfl,rfl,by rw[Γ,Γ,lpa,eP,ι];omega,_,_,rfl,rfl,by rw[Γ,Γ,Γ,lpa,eP,lb4,ι];omega,?_⟩⟩⟩
  have e:γ "pair(" ++ kdT i++γ ", " ++ kdT j++γ ")"=kdT (.pair i j):=by
   rw[kdT,bb,bc,show γ "pair("=γ "pair" ++ γ "(" by decide +kernel]
   simp only[C7.append_assoc]
  rw[e];exact q H2 (s1.trans s2)
open PySem L2 KB XB PySem.NumText WR
abbrev dY:Stmt:=top 45
def dgB(c:Nat):Bool:=decide (48<=c)&&decide (c<=57)
def dgs(x:Str):Bool:=decide (1<=x.cps.size)&&decide (x.cps.size<=60)&&x.cps.toList.all dgB
def mf(x:Str):V:=if dgs x=true then .int ((digitsVal x.cps.toList:Nat):Int)else .non
theorem zp(x:Str):((ϗ x.cps.size).map λi=>dgB (x.cps.getD i 0)).all id=x.cps.toList.all dgB:=by
 have e:(ϗ x.cps.size).map (λi=>dgB (x.cps.getD i 0))=x.cps.toList.map dgB:=by
  apply List.ext_getElem
  ·simp
  ·intro i h1 h2
   have h3:i<x.cps.size:=by simpa using h1
   simp[Array.getD,h3]
 rw[e,List.all_map]
 rfl
theorem dE{x:Str}(h:dgs x=true):AllDigits x.cps.toList/\1<=x.cps.size/\x.cps.size<=60:=by
 unfold dgs at h
 simp only[ψ,decide_eq_true_eq,ϻ]at h
 refine⟨λc hc=>?_,h.1.1,h.1.2⟩
 have:=h.2 c hc
 unfold dgB at this
 simpa using this
theorem wW{x:Str}(h:dgs x=true):PySem.intText? x=some ((digitsVal x.cps.toList:Nat):Int)/\x.length<=640:=by
 obtain⟨h1,h2,h3⟩:=dE h
 have e:x.length=x.cps.size:=rfl
 exact⟨intText_digits h1 (λz=>by have h9:x.cps.toList.length=x.cps.size:=Λ;rw[z,h_]at h9;omega) (),()⟩
theorem fV{n:Int}(h0:0<=n)(h1:n<10^60):dgs (aV n)=true/\digitsVal (aV n).cps.toList=n.toNat:=by
 have hl:=cF h0 h1
 obtain⟨m,rfl⟩:=Int.eq_ofNat_of_zero_le h0
 have es:(aV (m:Int)).cps.toList=(Nat.toDigits 10 m).map Char.toNat:=PySem.W.KIN.signs_num m
 have hd:AllDigits (aV ((m:Nat):Int)).cps.toList:=by
  intro c hc
  rw[es]at hc
  obtain⟨ch,hch,e⟩:=ϥ.mp hc
  have r:=PyProof.Rows.digit_range (Nat.isDigit_of_mem_toDigits () () hch)
  rw[<-e]
  exact r
 have hne:1<=(aV ((m:Nat):Int)).cps.size:=by
  have h:=toDigits_len_ge 10 m
  have e2:=congrArg o9 es
  rw[Λ,η]at e2
  omega
 refine⟨?_,by rw[es,PySem.W.KIN.val_back];rfl⟩
 unfold dgs
 rw[Q9 hne,Q9 (show(aV ((m:Nat):Int)).cps.size<=60 from hl),ϳ,ϳ,ϻ]
 intro c hc
 have:=hd c hc
 unfold dgB
 rw[Q9 this.1,Q9 this.2];rfl
theorem jd{n:Int}(h0:0<=n)(h1:n<10^60):mf (aV n)=.int n:=by
 obtain⟨a,b⟩:=fV h0 h1
 unfold mf
 rw[Q5 a,b]
 exact congrArg V.int (Int.toNat_of_nonneg h0)
def rA:Sp:=λvs H Q _=>∃x:Str,vs=[.str x]/\x.cps.size<=1000/\∀H',ai H H'->Q (mf x) H'
theorem lZ:ao ["word"] ["word"] (ah dY):=by trivial
theorem lT{f:Addr}{fd:Η}(F:Fun K "number_of" "number_of" dY f fd)(T:Txt K mg):aw P w K mg base CX0 1 f fd ["word"] rA:=by
 refine F.ok lZ (λvs H Q E h=>?_) (λcdv A outer s H vs Q E hr h=>?_)
 ·obtain⟨x,rfl,_⟩:=h
  rfl
 obtain⟨x,rfl,hx,q⟩:=h
 refine⟨_,(@un _ _ _ (wbO (wbI (wbT (wbR fU fU waC (wal bO rfl T.len () (wae (wv 0 rfl) waf rfl) () () rfl rfl) ⟨T.g_MOST_FIGURES rfl⟩ (by with_unfolding_all rfl))) (wbQ (wbK waN)) wbP) (wbO (wbI (wbT (wbV (wal (fZ rfl) rfl T.all () (wae (waE ["sign"] [] (wbn (wv 0 rfl)) (.of rfl) rfl (λ_ _ _=>⟨pg_name (i:=0) (bp (l:=["sign"]) (()) rfl) rfl (Ε rfl)⟩) (bf ()) (λ_ _ _=>wbx) (λ_ _ _=>(wao dh dh waV (wv 0 rfl) waV (by with_unfolding_all rfl))) ()) waf rfl) () () rfl rfl) ())) (wbQ (wbK waN)) wbP) (wbQ (wbK (wam jW rfl T.int () (wae (wv 0 rfl) waf rfl) () () rfl rfl)))))),?_⟩
 have ex:x.length=x.cps.size:=rfl
 have no:dgs x=false->∀H',ai H H'->Q .non H':=λe H' s'=>by
  have:=q H' s'
  unfold mf at this
  rwa[Q6 (by rw[e];decide)]at this
 refine⟨_,rfl,x,rfl,qK hx,_,_,rfl,rfl,_,rfl,?_⟩
 refine ap (λh1=>?_) (λh1=>?_)
 ·refine⟨_,_,rfl,rfl,_,rfl,?_⟩
  have h1':1<=x.cps.size:=by have:=Q7 h1;omega
  by_cases h8:x.cps.size<=60
  ·rw[show decide (((x.length:Nat):Int)<=60)=true from Q9 ()]
   refine aG ?_
   refine⟨_,rfl,x,rfl,iU (F:=λi=>V.bl (dgB (x.cps.getD i 0))) (λi ys hi hl=>?_) λa ha=>⟨a,(ϗ x.cps.size).map λi=>dgB (x.cps.getD i 0),rfl,SqL.of ?_,_,rfl,?_⟩⟩
   ·refine bu ⟨_,rfl,_,_,rfl,rfl,_,rfl,?_⟩
    have e1:decide ((⟨#[x.cps.getD i 0]⟩:Str).cps.toList<(γ "0").cps.toList)=decide (x.cps.getD i 0<48):=mj _ _
    have e2:decide ((γ "9").cps.toList<(⟨#[x.cps.getD i 0]⟩:Str).cps.toList)=decide (57<x.cps.getD i 0):=mj _ _
    rw[e1]
    by_cases c1:x.cps.getD i 0<48
    ·rw[Q9 c1]
     refine aG ⟨by rw[hl,ι];omega,?_,rfl⟩
     unfold dgB
     rw[Q8 ()]
     rfl
    ·rw[Q8 c1]
     refine aF ⟨_,_,rfl,rfl,?_⟩
     refine⟨by rw[hl,ι];omega,?_,rfl⟩
     rw[e2]
     unfold dgB
     rw[Q9 (show 48<=x.cps.getD i 0 by omega)]
     by_cases c2:57<x.cps.getD i 0
     ·rw[Q9 c2,Q8 ()];rfl
     ·rw[Q8 c2,Q9 ()];rfl
   ·rw[aa,Ξ]
    rfl
   ·rw[zp]
    have s1:=ac ha (.lst ((ϗ x.cps.size).map λi=>V.bl (dgB (x.cps.getD i 0))))
    have ed:dgs x=x.cps.toList.all dgB:=by unfold dgs;rw[Q9 h1',Q9 h8];rfl
    cases e:x.cps.toList.all dgB with
    |false=>exact aF (no (by rw[ed,e]) _ s1)
    |true=>
     rw[e]at ed
     obtain⟨ei,el⟩:=wW ed
     refine aG ⟨_,rfl,x,_,rfl,ei,el,?_⟩
     have:=q _ s1
     unfold mf at this
     rwa[Q5 ed]at this
  ·rw[show decide (((x.length:Nat):Int)<=60)=false from Q8 ()]
   refine aF (no ?_ H (ai.refl _))
   unfold dgs
   rw[Q8 h8,Ca,Ϭ]
 ·refine⟨_,rfl,aF (no ?_ H (ai.refl _))⟩
  have h1':¬ 1<=x.cps.size:=by
   have:=of_decide_eq_false (p9.mpr h1)
   omega
  unfold dgs
  rw[Q8 h1',Ϭ,Ϭ]
open PySem L2 KB XB WR
abbrev gm:Stmt:=top 46
abbrev dN:Stmt:=top 47
abbrev dZ:Stmt:=top 49
theorem jw{a b:Str}(h:a.cps.toList=b.cps.toList):a=b:=by
 cases a;cases b;congr;exact Array.ext' h
theorem aQ(a b:Str):(a++b).cps.toList=a.cps.toList++b.cps.toList:=by
 show(a.cps++b.cps).toList=_
 rw[Array.toList_append]
theorem vM{c:Nat}:∀{a a' r r':List Nat},c∉a->c∉a'->a++c::r=a'++c::r'->a=a'/\r=r'
 |[],[],r,r',_,_,h=>by simpa using h
 |[],y::a',r,r',_,h2,h=>by
  simp only[ϸ,ϯ,CP]at h
  exact absurd (ν.mpr (.inl h.1)) h2
 |y::a,[],r,r',h1,_,h=>by
  simp only[ϸ,ϯ,CP]at h
  exact absurd (ν.mpr (.inl h.1.symm)) h1
 |y::a,z::a',r,r',h1,h2,h=>by
  simp only[ϯ,CP]at h
  obtain⟨e1,e2⟩:=vM (λm=>h1 (χ _ m)) (λm=>h2 (χ _ m)) h.2
  exact⟨by rw[h.1,e1],e2⟩
theorem ow(c:Nat):∀{A B:List Str},A≠[]->B≠[]->(∀p∈A,c∉p.cps.toList)->(∀p∈B,c∉p.cps.toList)->a9 ⟨#[c]⟩ A=a9 ⟨#[c]⟩ B->A=B
 |[],_,h,_,_,_,_=>absurd rfl h
 |_,[],_,h,_,_,_=>absurd rfl h
 |[a],[b],_,_,_,_,h=>by rw[bc,bc]at h;rw[h]
 |[a],b::d::r,_,_,h1,_,h=>by
  rw[bc,bb]at h
  have:=congrArg (λz:Str=>z.cps.toList) h
  simp only[aQ]at this
  exact absurd (by rw[this];simp) (h1 a ξ)
 |a::d::r,[b],_,_,_,h2,h=>by
  rw[bc,bb]at h
  have:=congrArg (λz:Str=>z.cps.toList) h
  simp only[aQ]at this
  exact absurd (by rw[<-this];simp) (h2 b ξ)
 |a::d::r,b::e::t,_,_,h1,h2,h=>by
  rw[bb,bb]at h
  have:=congrArg (λz:Str=>z.cps.toList) h
  simp only[aQ,g0,List.singleton_append]at this
  obtain⟨e1,e2⟩:=vM (h1 a ξ) (h2 b ξ) this
  rw[jw e1,ow c (A:=d::r) (B:=e::t) () () (λp hp=>h1 p (χ _ hp)) (λp hp=>h2 p (χ _ hp)) (jw e2)]
theorem vZ(x y:Str):Txt.split x y≠[]:=by
 unfold Txt.split
 split
 ·simp
 ·split
  ·simp
  ·rw[StrLaws.partsBetween_eq]
   obtain⟨p,r,e⟩:=StrLaws.partsFrom_ne x y.length 0 (u6 x y 0 x.length (x.length+1))
   rw[e];simp
theorem fw(c:Nat){A:List Str}(h:A≠[])(hf:∀p∈A,c∉p.cps.toList):Txt.split (a9 ⟨#[c]⟩ A) ⟨#[c]⟩=A:=
 ow c (vZ _ _) h (StrLaws.split_free _ c) hf (StrLaws.join_split _ _)
def Wn(ps:List Pr):Prop:=∀p∈ps,nmB p.1=true
theorem jB{x:Str}(h:nmB x=true):1<=x.cps.size/\x.cps.size<=8/\∀c∈x.cps.toList,97<=c/\c<=122:=by
 unfold nmB at h
 simp only[ψ,decide_eq_true_eq,ϻ]at h
 exact⟨h.1.1,h.1.2,h.2⟩
theorem il:γ "*"=⟨#[42]⟩:=by decide +kernel
theorem se:γ "+"=⟨#[43]⟩:=by decide +kernel
theorem fL{n:Int}(h0:0<=n)(h1:n<10^60):∀c∈(aV n).cps.toList,48<=c/\c<=57:=(dE (fV h0 h1).1).1
theorem tN{p:Pr}(h0:1<=p.2)(h1:p.2<10^60)(hn:nmB p.1=true):43∉(aE p).cps.toList:=by
 obtain⟨_,_,az⟩:=jB hn
 unfold aE
 split
 ·intro h;have:=az _ h;omega
 ·intro h
  rw[aQ,aQ,il]at h
  rcases ϋ.mp h with h|h
  ·rcases ϋ.mp h with h|h
   ·have:=fL (n:=p.2) () h1 _ h;omega
   ·simp at h
  ·have:=az _ h;omega
theorem nk{p:Pr}(hn:nmB p.1=true):mf (aE p)=.non:=by
 obtain⟨n1,_,az⟩:=jB hn
 unfold mf
 rw[Q6]
 intro h
 obtain⟨ad,_,_⟩:=dE h
 obtain⟨c,hc⟩:∃c,c∈p.1.cps.toList:=by
  cases e:p.1.cps.toList with
  |nil=>have:=Λ (xs:=p.1.cps);rw[e,h_]at this;omega
  |cons c r=>exact⟨c,ξ⟩
 have a:=az c hc
 have:c∈(aE p).cps.toList:=by
  unfold aE
  split
  ·exact hc
  ·rw[aQ];exact ό _ hc
 have:=ad c this
 omega
def iZ:Sp:=λvs H Q _=>∃p:Pr,vs=[.str (aE p)]/\1<=p.2/\p.2<10^60/\nmB p.1=true/\∀H' w,ai H H'->Rep H' (.tup [.str p.1,.int p.2]) w->Q w H'
theorem jm:ao ["text","halves"] ["text"] (ah gm):=by trivial
theorem pY{f:Addr}{fd:Η}{k:Nat}(F:Fun K "part_of" "part_of" gm f fd)(T:Txt K mg)(Dnumber_of:Def P w K mg base k "number_of" ["word"] rA):aw P w K mg base CX0 (k+1) f fd ["text"] iZ:=by
 have nd:=jm.nd
 refine F.ok jm (λvs H Q E h=>?_) (λcdv A outer s H vs Q E hr h=>?_)
 ·obtain⟨p,rfl,_⟩:=h
  rfl
 obtain⟨p,rfl,p1,p60,pn,q⟩:=h
 obtain⟨n1,n8,az⟩:=jB pn
 have pl:=fE p1 p60 n8
 refine⟨_,(@un _ _ _ (wbO (wbM 1 nd rfl (Ε rfl) (waj Ϗ k7 k_ dQ (wv 0 rfl) (wae waV waf rfl) rfl rfl rfl rfl rfl) rfl ()) (wbO (wbI (wbS av (wal au rfl T.len () (wae (wv 1 rfl) waf rfl) () () rfl rfl) waC (af _)) (wbQ (wbK (waX (wae (waD aA (wv 1 rfl) waC (λ_ _=>rfl)) (wae (waq Dnumber_of hr rfl (wae (waD aA (wv 1 rfl) waC (λ_ _=>rfl)) waf rfl) () rfl rfl) waf rfl) rfl)))) wbP) (wbQ (wbK (waX (wae (wv 0 rfl) (wae waC waf rfl) rfl))))))),?_⟩
 have rp:∀{H':Hp}{t:Addr},H' t=some (.tup [.str p.1,.int p.2])->Rep H' (.tup [.str p.1,.int p.2]) (.ref t):=λ{H' t} h=>by
  rw[Rep];exact⟨t,_,rfl,h,by simp only[Reps];exact⟨_,_,rfl,by simp only[Rep],_,_,rfl,by simp only[Rep],rfl⟩⟩
 by_cases e1:p.2=1
 ·have ep:aE p=p.1:=Q5 e1
  have es:Txt.split (aE p) (γ "*")=[p.1]:=by
   rw[ep,il]
   exact fw 42 (A:=[p.1]) () λz hz=>by rw[μ.mp hz];intro h;have:=az _ h;omega
  refine⟨_,rfl,rfl,aE p,γ "*",rfl,rfl,(),by rw[ι];omega,by rw[es,ι];exact c_ rfl,λl hl=>?_⟩
  rw[es]
  refine gnm ?_
  refine⟨_,rfl,l,_,rfl,.inl (SqL.of aa),rfl,_,rfl,ap (λh=>absurd (Q7 h) (λz=>by injection z with z;exact absurd z (show ¬ ((1:Nat):Int)=2 by decide))) (λ_=>?_)⟩
  refine⟨_,rfl,z2,λt ht=>?_⟩
  rw[ep]
  refine q _ _ ((ac hl _).trans (ac ht _)) ?_
  have:=@rp (upd (upd H l (.lst ([p.1].map V.str))) t (.tup [.str p.1,.int 1])) t (by rw[aa,e1])
  exact this
 ·have ep:aE p=a9 (γ "*") [aV p.2,p.1]:=by unfold aE;rw[Q6 e1,bb,bc]
  have es:Txt.split (aE p) (γ "*")=[aV p.2,p.1]:=by
   rw[ep,il]
   refine fw 42 (A:=[aV p.2,p.1]) () λz hz=>?_
   rcases ν.mp hz with rfl|hz
   ·intro h;have:=fL (n:=p.2) () p60 _ h;omega
   ·rw[μ.mp hz];intro h;have:=az _ h;omega
  have nl:=cF (i:=p.2) () p60
  refine⟨_,rfl,rfl,aE p,γ "*",rfl,rfl,(),by rw[ι];omega,by rw[es,ι];exact c_ rfl,λl hl=>?_⟩
  rw[es]
  have s1:=ac hl (.lst ([aV p.2,p.1].map V.str))
  have h1:upd H l (.lst ([aV p.2,p.1].map V.str)) l=some (.lst [.str (aV p.2),.str p.1]):=aa
  generalize upd H l (.lst ([aV p.2,p.1].map V.str))=H1 at s1 h1⊢
  refine gnm ?_
  refine⟨_,rfl,l,_,rfl,.inl (SqL.of h1),rfl,_,rfl,ap (λ_=>?_) (λh=>absurd (Q9 rfl) h)⟩
  refine⟨_,rfl,l,_,1,.str p.1,rfl,rfl,SqL.of h1,ae (j:=1) rfl,_,rfl,l,_,0,.str (aV p.2),rfl,rfl,SqL.of h1,ae (j:=0) rfl,aV p.2,rfl,(by show(aV p.2).length<=1000;omega),λH2 s2=>⟨z2,λt ht=>?_⟩⟩
  rw[jd () p60]
  exact q _ _ (s1.trans (s2.trans (ac ht _))) (rp aa)
theorem si{α:Type}(ys:List α)(z:α):atI (ys++[z]) (-1)=some z:=by
 unfold atI ixN
 rw[Q6 (),Q5 (by rw[Ζ,Ϫ];omega)]
 show(ys++[z])[((-1:Int)+((ys++[z]).length:Int)).toNat]?=some z
 rw[show((-1:Int)+((ys++[z]).length:Int)).toNat=ys.length by rw[Ζ,Ϫ];omega]
 simp
theorem vg(ys:List V)(z:V):bJ (ys++[z]) none (some (-1))=ys:=by
 have h:HT.sIx (ys++[z]).length (ys++[z]).length (some (-1))=ys.length:=by
  unfold HT.sIx
  simp
  omega
 have h0:HT.sIx (ys++[z]).length 0 none=0:=rfl
 unfold bJ
 rw[h,h0,CU,Nat.sub_zero,List.take_left']
 rfl
theorem vm{c:Int}{ps:List Pr}:aU c ps≠[]:=by
 unfold aU
 split
 ·simp
 ·next h=>intro e;rw[ϙ,List.map_eq_nil_iff]at e;exact h (.inr e)
theorem qg{c:Int}{ps:List Pr}(h:Wr c ps)(hn:Wn ps):∀y∈aU c ps,43∉y.cps.toList:=λy hy=>by
 unfold aU at hy
 rcases ϋ.mp hy with h1|h1
 ·obtain⟨p,hp,rfl⟩:=ϥ.mp h1
  exact tN (h.can.ge p hp) (h.le p hp).1 (hn p hp)
 ·split at h1
  ·rw[μ.mp h1];intro z;have:=fL h.c0 h.c1 _ z;omega
  ·cases h1
theorem jo{c:Int}{ps:List Pr}(h:Wr c ps)(hn:Wn ps):Txt.split (bY c ps) (γ "+")=aU c ps:=by
 unfold bY
 rw[se]
 exact fw 43 vm (qg h hn)
def sL:Sp:=λvs H Q _=>∃(c:Int) (ps:List Pr),vs=[.str (bY c ps)]/\Wr c ps/\Wn ps/\∀H' w,ai H H'->Rep H' (bz c ps) w->Q w H'
theorem fJ:ao ["text","texts","count"] ["text"] (ah dN):=by trivial
theorem kX{f:Addr}{fd:Η}{k:Nat}(F:Fun K "length_of" "length_of" dN f fd)(T:Txt K mg)(Dnumber_of:Def P w K mg base k "number_of" ["word"] rA)(Dpart_of:Def P w K mg base k "part_of" ["text"] iZ):aw P w K mg base CX0 (k+1) f fd ["text"] sL:=by
 have nd:=fJ.nd
 refine F.ok fJ (λvs H Q E h=>?_) (λcdv A outer s H vs Q E hr h=>?_)
 ·obtain⟨c,ps,rfl,_⟩:=h
  rfl
 obtain⟨c,ps,rfl,wr,wn,q⟩:=h
 obtain⟨tl,tn⟩:=fA wr
 have ll:=bR wr
 have es:=jo wr wn
 have wl:=wr.len
 refine⟨_,(@un _ _ _ (wbO (wbM 1 nd rfl (Ε rfl) (waj Ϗ k7 k_ dQ (wv 0 rfl) (wae waV waf rfl) rfl rfl rfl rfl rfl) rfl ()) (wbO (wbM 2 nd rfl (Ε rfl) (waq Dnumber_of hr rfl (wae (waD aA (wv 1 rfl) (waY uC waC) (λ_ _=>rfl)) waf rfl) () rfl rfl) rfl ()) (wbO (wbI (wbS gg (wv 2 rfl) waN (af _)) (wbQ (wbK (waX (wae waC (wae (wam aJ rfl T.tuple () (wae (waE ["each"] [] (wbi (wv 1 rfl)) (.of rfl) rfl (λ_ _ _=>⟨pg_name (i:=0) (bp (l:=["each"]) (()) rfl) rfl (Ε rfl)⟩) (bf ()) (λ_ _ _=>wbx) (λ_ _ _=>(waq Dpart_of hr rfl (wae (wv 0 rfl) waf rfl) () rfl rfl)) ()) waf rfl) () () rfl rfl) waf rfl) rfl)))) wbP) (wbQ (wbK (waX (wae (wv 2 rfl) (wae (wam aJ rfl T.tuple () (wae (waE ["each"] [] (wbi (waT dA (wv 1 rfl) wbz (wbA (waY uC waC)))) (.of rfl) rfl (λ_ _ _=>⟨pg_name (i:=0) (bp (l:=["each"]) (()) rfl) rfl (Ε rfl)⟩) (bf ()) (λ_ _ _=>wbx) (λ_ _ _=>(waq Dpart_of hr rfl (wae (wv 0 rfl) waf rfl) () rfl rfl)) ()) waf rfl) () () rfl rfl) waf rfl) rfl)))))))),?_⟩
 refine⟨_,rfl,rfl,bY c ps,γ "+",rfl,rfl,(),by rw[ι];omega,by rw[es,ι];omega,λl hl=>?_⟩
 rw[es]
 have s1:=ac hl (.lst ((aU c ps).map V.str))
 have h1:upd H l (.lst ((aU c ps).map V.str)) l=some (.lst ((aU c ps).map V.str)):=aa
 generalize upd H l (.lst ((aU c ps).map V.str))=H1 at s1 h1⊢
 refine gnm ?_
 have rd:∀(l2:Addr)(H2:Hp){σ:St}{Q2:List V->Hp->Prop},H2 l2=some (.lst ((ps.map aE).map V.str))->(∀ys H',ai H2 H'->Reps H' (aO ps) ys->Q2 ys H')->rLC (Itl K l2) 1 [] (cP 0) vG (kq iZ [] E0 (mT (fz 0) nt)) σ H2 Q2:=λl2 H2 σ Q2 hl2 q2=>by
  refine fY (xs:=(ps.map aE).map V.str) (λi ys H'=>ai H2 H'/\Reps H' (aO (ps.take i)) ys) ⟨ai.refl _,by simp[Reps]⟩ (λi ys H' _ p=>SqL.of (p.1 _ _ hl2)) ?_ ?_
  ·rintro i ys H3 x hx ⟨s3,R3⟩
   rw[Ξ,Ν]at hx
   obtain⟨p,hp,rfl⟩:=ϖ.mp hx
   have hpm:=ϊ hp
   have hi:i<ps.length:=(Θ.mp hp).1
   refine bu ⟨_,rfl,p,rfl,wr.can.ge p hpm,(wr.le p hpm).1,wn p hpm,λH4 w4 s4 R4=>⟨?_,s3.trans s4,?_⟩⟩
   ·rw[R3.length,η,Χ,ι];omega
   ·rw[Ϣ,hp,show aO (ps.take i++(some p).toList)=aO (ps.take i)++aO [p]from Ι]
    exact Reps.append (R3.mono s4) (be R4)
  ·rintro ys H3 ⟨s3,R3⟩
   rw[η,η,ϛ]at R3
   exact q2 ys H3 s3 R3
 by_cases hc:c≠0\/ps=[]
 ·have el:aU c ps=ps.map aE++[aV c]:=by unfold aU;rw[Q5 hc]
  rw[el,Ι]at h1
  have nl:=cF wr.c0 wr.c1
  refine⟨_,rfl,_,rfl,l,_,-1,.str (aV c),rfl,rfl,SqL.of h1,si _ _,aV c,rfl,(by show(aV c).length<=1000;omega),λH2 s2=>?_⟩
  rw[jd wr.c0 wr.c1]
  refine gnm ?_
  refine⟨_,rfl,rfl,_,rfl,ap (λh=>absurd h ()) (λ_=>?_)⟩
  have h2:=s2 _ _ h1
  refine⟨_,rfl,_,rfl,?_⟩
  dsimp only[bn]
  refine⟨_,rfl,_,rfl,l,_,rfl,SqL.of h2,λl3 hl3=>?_⟩
  have ec:bJ ((ps.map aE).map V.str++[aV c].map V.str) none (some (-1))=(ps.map aE).map V.str:=vg _ _
  rw[ec]
  have s3:=ac hl3 (.lst ((ps.map aE).map V.str))
  refine⟨l3,rfl,⟨_,SqL.of aa⟩,rd l3 _ aa λys H4 s4 R4 l5 hl5=>?_⟩
  have s5:=ac hl5 (.lst ys)
  refine⟨l5,_,rfl,.inl ⟨SqL.of aa,λt ht=>⟨z2,λm hm=>?_⟩⟩⟩
  have s6:=ac ht (.tup ys)
  have s7:=ac hm (.tup [.int c,.ref t])
  have s57:=s5.trans (s6.trans s7)
  exact q _ _ (s1.trans (s2.trans (s3.trans (s4.trans s57)))) (li aa (s7 _ _ aa) (R4.mono s57))
 ·have el:aU c ps=ps.map aE:=by unfold aU;rw[Q6 hc,ϙ]
  have c0:c=0:=Classical.byContradiction λz=>hc (.inl z)
  have pne:ps≠[]:=λz=>hc (.inr z)
  obtain⟨p0,pz,ep⟩:=mz pne
  rw[el]at h1
  have pm:pz∈ps:=by rw[ep];exact ό _ (μ.mpr rfl)
  have hat:atI ((ps.map aE).map V.str) (-1)=some (.str (aE pz)):=by rw[ep,Ι,Ι];exact si _ _
  have pl:=fE (wr.can.ge pz pm) (wr.le pz pm).1 (wr.le pz pm).2
  refine⟨_,rfl,_,rfl,l,_,-1,.str (aE pz),rfl,rfl,SqL.of h1,hat,aE pz,rfl,(by show(aE pz).length<=1000;omega),λH2 s2=>?_⟩
  rw[nk (wn pz pm)]
  refine gnm ?_
  refine⟨_,rfl,rfl,_,rfl,ap (λ_=>?_) (λh=>absurd () h)⟩
  have h2:=s2 _ _ h1
  refine⟨_,rfl,l,rfl,⟨_,SqL.of h2⟩,rd l _ h2 λys H4 s4 R4 l5 hl5=>?_⟩
  have s5:=ac hl5 (.lst ys)
  refine⟨l5,_,rfl,.inl ⟨SqL.of aa,λt ht=>⟨z2,λm hm=>?_⟩⟩⟩
  have s6:=ac ht (.tup ys)
  have s7:=ac hm (.tup [.int 0,.ref t])
  have s57:=s5.trans (s6.trans s7)
  refine q _ _ (s1.trans (s2.trans (s4.trans s57))) ?_
  rw[c0]
  exact li aa (s7 _ _ aa) (R4.mono s57)
abbrev gd:Stmt:=top 50
def eS(x:Str):Dv:=.tup [.str x,.non]
def brD:Kd->Dv
 |.whole=>eS (γ "whole")
 |.place c ps=>.tup [.str (γ "place"),.lst [eS (bY c ps)]]
 |.row c ps k=>.tup [.str (γ "row"),.lst [eS (bY c ps),brD k]]
 |.pair a b=>.tup [.str (γ "pair"),.lst [brD a,brD b]]
def Wa(c:Int)(ps:List Pr):Prop:=Wr c ps/\Wn ps
theorem eD{H:Hp}{x:Str}{v:V}(R:Rep H (eS x) v):∃a,v=.ref a/\H a=some (.tup [.str x,.non]):=by
 unfold eS at R
 obtain⟨a,vs,rfl,ha,rv⟩:=Rep.tup_inv R
 obtain⟨x1,x2,rfl,r1,r2⟩:=Reps.two rv
 simp only[Rep]at r1 r2
 subst r1 r2
 exact⟨a,rfl,ha⟩
theorem cD{H:Hp}{d:Dv}{vs:List V}(h:Reps H [d] vs):∃x,vs=[x]/\Rep H d x:=by
 simp only[Reps]at h
 obtain⟨v,r,rfl,h1,rfl⟩:=h
 exact⟨v,rfl,h1⟩
def lq:Sp:=λvs H Q _=>∃(v:V) (c:Int) (ps:List Pr),vs=[v]/\Rep H (eS (bY c ps)) v/\Wa c ps/\∀H' w,ai H H'->Rep H' (bz c ps) w->Q w H'
def fQ(n:Nat):Sp:=λvs H Q _=>∃(v:V) (k:Kd),vs=[v]/\Rep H (brD k) v/\k.size<=n/\k.All Wa/\∀H' w,ai H H'->Rep H' k.dv w->Q w H'
theorem lV{H:Hp}{w:Str}{ds:List Dv}{v:V}(R:Rep H (.tup [.str w,.lst ds]) v):∃a l us,v=.ref a/\H a=some (.tup [.str w,.ref l])/\H l=some (.lst us)/\Reps H ds us:=by
 obtain⟨a,vs,rfl,ha,rv⟩:=Rep.tup_inv R
 obtain⟨x1,x2,rfl,r1,r2⟩:=Reps.two rv
 simp only[Rep]at r1 r2
 obtain⟨l,us,rfl,hl,ru⟩:=r2
 subst r1
 exact⟨a,l,us,rfl,ha,hl,ru⟩
theorem lW:ao ["branch"] ["branch"] (ah dZ):=by trivial
theorem lr{f:Addr}{fd:Η}{k:Nat}(F:Fun K "length_in" "length_in" dZ f fd)(T:Txt K mg)(Dlength_of:Def P w K mg base k "length_of" ["text"] sL):aw P w K mg base CX0 (k+1) f fd ["branch"] lq:=by
 refine F.ok lW (λvs H Q E h=>?_) (λcdv A outer s H vs Q E hr h=>?_)
 ·obtain⟨v,c,ps,rfl,_⟩:=h
  rfl
 obtain⟨v,c,ps,rfl,R,wa,q⟩:=h
 obtain⟨a,rfl,ha⟩:=eD R
 refine⟨_,(@un _ _ _ (wbQ (wbK (wac (wbS gg (waD am (wv 0 rfl) waC (λ_ _=>rfl)) waN (af _)) (waq Dlength_of hr rfl (wae (waD am (wv 0 rfl) waC (λ_ _=>rfl)) waf rfl) () rfl rfl) waN)))),?_⟩
 dsimp only[bo,Cx.nox]
 refine⟨_,rfl,a,_,1,.non,rfl,rfl,SqT.of ha,ae (j:=1) rfl,rfl,_,rfl,ap (λ_=>?_) (λh=>absurd () h)⟩
 exact⟨_,rfl,a,_,0,.str (bY c ps),rfl,rfl,SqT.of ha,ae (j:=0) rfl,c,ps,rfl,wa.1,wa.2,q⟩
theorem iT:ao ["branch","word","inner"] ["branch"] (ah gd):=by trivial
theorem pT{f:Addr}{fd:Η}{k0 n:Nat}(F:Fun K "kind_in" "kind_in" gd f fd)(T:Txt K mg)(Dlength_in:Def P w K mg base k0 "length_in" ["branch"] lq)(Dkind_in:Def P w K mg base k0 "kind_in" ["branch"] (fQ n)):aw P w K mg base CX0 (k0+1) f fd ["branch"] (fQ (n+1)):=by
 have nd:=iT.nd
 refine F.ok iT (λvs H Q E h=>?_) (λcdv A outer s H vs Q E hr h=>?_)
 ·obtain⟨v,k,rfl,_⟩:=h
  rfl
 obtain⟨v,k,rfl,R,kn,kA,q⟩:=h
 refine⟨_,(@un _ _ _ (wbO (wbM 1 nd rfl (Ε rfl) (waD am (wv 0 rfl) waC (λ_ _=>rfl)) rfl ()) (wbO (wbM 2 nd rfl (Ε rfl) (waD am (wv 0 rfl) waC (λ_ _=>rfl)) rfl ()) (wbO (wbI (wbS gg (wv 2 rfl) waN (af _)) (wbQ (wbK (waX (wae (wv 1 rfl) waf rfl)))) wbP) (wbO (wbI (wab (wbW (wbS av (wv 1 rfl) waV (af _)) (wbX (wbS av (wal au rfl T.len () (wae (wv 2 rfl) waf rfl) () () rfl rfl) waC (af _))))) (wbQ (wbK (waX (wae waV (wae (waq Dlength_in hr rfl (wae (waD aA (wv 2 rfl) waC (λ_ _=>rfl)) waf rfl) () rfl rfl) waf rfl) rfl)))) wbP) (wbO (wbI (wab (wbW (wbS av (wv 1 rfl) waV (af _)) (wbX (wbS av (wal au rfl T.len () (wae (wv 2 rfl) waf rfl) () () rfl rfl) waC (af _))))) (wbQ (wbK (waX (wae waV (wae (waq Dlength_in hr rfl (wae (waD aA (wv 2 rfl) waC (λ_ _=>rfl)) waf rfl) () rfl rfl) (wae (waq Dkind_in hr rfl (wae (waD aA (wv 2 rfl) waC (λ_ _=>rfl)) waf rfl) () rfl rfl) waf rfl) rfl) rfl)))) wbP) (wbO (wbI (wab (wbW (wbS av (wv 1 rfl) waV (af _)) (wbX (wbS av (wal au rfl T.len () (wae (wv 2 rfl) waf rfl) () () rfl rfl) waC (af _))))) (wbQ (wbK (waX (wae waV (wae (waq Dkind_in hr rfl (wae (waD aA (wv 2 rfl) waC (λ_ _=>rfl)) waf rfl) () rfl rfl) (wae (waq Dkind_in hr rfl (wae (waD aA (wv 2 rfl) waC (λ_ _=>rfl)) waf rfl) () rfl rfl) waf rfl) rfl) rfl)))) wbP) (wbQ (wbK waN))))))))),?_⟩
 dsimp only[bo,Cx.nox]
 cases k with
 |whole=>
  obtain⟨a,rfl,ha⟩:=eD R
  refine⟨_,rfl,a,_,0,.str "whole",rfl,rfl,SqT.of ha,ae (j:=0) rfl,?_⟩
  refine gnm ?_
  refine⟨_,rfl,a,_,1,.non,rfl,rfl,SqT.of ha,ae (j:=1) rfl,?_⟩
  refine gnm ?_
  refine⟨_,rfl,rfl,_,rfl,ap (λ_=>?_) (λh=>absurd () h)⟩
  refine⟨_,rfl,z1,λt ht=>?_⟩
  exact q _ _ (ac ht _) (kK aa)
 |place c ps=>
  obtain⟨a,l,us,rfl,ha,hl,ru⟩:=lV R
  obtain⟨u1,rfl,r1⟩:=cD ru
  refine⟨_,rfl,a,_,0,.str "place",rfl,rfl,SqT.of ha,ae (j:=0) rfl,?_⟩
  refine gnm ?_
  refine⟨_,rfl,a,_,1,.ref l,rfl,rfl,SqT.of ha,ae (j:=1) rfl,?_⟩
  refine gnm ?_
  refine⟨_,rfl,rfl,_,rfl,ap (λh=>absurd h ()) (λ_=>?_)⟩
  refine⟨_,rfl,rfl,_,rfl,ap (λ_=>?_) (λh=>absurd (Q9 rfl) h)⟩
  refine⟨_,rfl,l,_,rfl,.inl (SqL.of hl),rfl,_,rfl,ap (λ_=>?_) (λh=>absurd (Q9 rfl) h)⟩
  refine⟨_,rfl,l,_,0,u1,rfl,rfl,SqL.of hl,ae (j:=0) rfl,u1,c,ps,rfl,r1,kA,λH1 w1 s1 R1=>⟨z2,λt ht=>?_⟩⟩
  exact q _ _ (s1.trans (ac ht _)) (ku aa (R1.mono (ac ht _)))
 |row c ps j=>
  obtain⟨a,l,us,rfl,ha,hl,ru⟩:=lV R
  obtain⟨u1,u2,rfl,r1,r2⟩:=Reps.two ru
  have jn:j.size+1<=n+1:=kn
  refine⟨_,rfl,a,_,0,.str "row",rfl,rfl,SqT.of ha,ae (j:=0) rfl,?_⟩
  refine gnm ?_
  refine⟨_,rfl,a,_,1,.ref l,rfl,rfl,SqT.of ha,ae (j:=1) rfl,?_⟩
  refine gnm ?_
  refine⟨_,rfl,rfl,_,rfl,ap (λh=>absurd h ()) (λ_=>?_)⟩
  refine⟨_,rfl,rfl,_,rfl,ap (λh=>absurd (Q7 h) (wne (ϒ yH))) (λ_=>aG ?_)⟩
  refine⟨_,rfl,rfl,_,rfl,ap (λ_=>?_) (λh=>absurd (Q9 rfl) h)⟩
  refine⟨_,rfl,l,_,rfl,.inl (SqL.of hl),rfl,_,rfl,ap (λ_=>?_) (λh=>absurd (Q9 rfl) h)⟩
  refine⟨_,rfl,l,_,0,u1,rfl,rfl,SqL.of hl,ae (j:=0) rfl,u1,c,ps,rfl,r1,kA.1,λH1 w1 s1 R1=>⟨_,rfl,l,_,1,u2,rfl,rfl,SqL.of (s1 _ _ hl),ae (j:=1) rfl,u2,j,rfl,r2.mono s1,(),kA.2,λH2 w2 s2 R2=>⟨z3,λt ht=>?_⟩⟩⟩
  have s3:=ac ht (.tup [.str "row",w1,w2])
  exact q _ _ (s1.trans (s2.trans s3)) (sf aa (R1.mono (s2.trans s3)) (R2.mono s3))
 |pair i j=>
  obtain⟨a,l,us,rfl,ha,hl,ru⟩:=lV R
  obtain⟨u1,u2,rfl,r1,r2⟩:=Reps.two ru
  have jn:i.size+j.size+1<=n+1:=kn
  refine⟨_,rfl,a,_,0,.str "pair",rfl,rfl,SqT.of ha,ae (j:=0) rfl,?_⟩
  refine gnm ?_
  refine⟨_,rfl,a,_,1,.ref l,rfl,rfl,SqT.of ha,ae (j:=1) rfl,?_⟩
  refine gnm ?_
  refine⟨_,rfl,rfl,_,rfl,ap (λh=>absurd h ()) (λ_=>?_)⟩
  refine⟨_,rfl,rfl,_,rfl,ap (λh=>absurd (Q7 h) (wne (ϒ yA))) (λ_=>aG ?_)⟩
  refine⟨_,rfl,rfl,_,rfl,ap (λh=>absurd (Q7 h) (wne (ϒ yr))) (λ_=>aG ?_)⟩
  refine⟨_,rfl,rfl,_,rfl,ap (λ_=>?_) (λh=>absurd (Q9 rfl) h)⟩
  refine⟨_,rfl,l,_,rfl,.inl (SqL.of hl),rfl,_,rfl,ap (λ_=>?_) (λh=>absurd (Q9 rfl) h)⟩
  have ip:=i.size_pos
  have jp:=j.size_pos
  refine⟨_,rfl,l,_,0,u1,rfl,rfl,SqL.of hl,ae (j:=0) rfl,u1,i,rfl,r1,(),kA.1,λH1 w1 s1 R1=>⟨_,rfl,l,_,1,u2,rfl,rfl,SqL.of (s1 _ _ hl),ae (j:=1) rfl,u2,j,rfl,r2.mono s1,(),kA.2,λH2 w2 s2 R2=>⟨z3,λt ht=>?_⟩⟩⟩
  have s3:=ac ht (.tup [.str "pair",w1,w2])
  exact q _ _ (s1.trans (s2.trans s3)) (oN aa (R1.mono (s2.trans s3)) (R2.mono s3))
abbrev kY:Stmt:=top 71
inductive Ak:Nat->Dv->Prop
 |int {n:Nat} {i:Int}:Ak (n+1) (.int i)
 |str {n:Nat} {x:Str}:Ak (n+1) (.str x)
 |tup {n:Nat} {ds:List Dv}:ds.length<=30->(∀d∈ds,Ak n d)->Ak (n+1) (.tup ds)
theorem Bd(i:Int):isT (.int i) "tuple"=false:=by show("int" == "tuple" || "int" == "bool" && "tuple" == "int")=false;decide +kernel
theorem Aq(i:Int):isT (.int i) "int"=true:=by show("int" == "int" || "int" == "bool" && "int" == "int")=true;decide +kernel
theorem AG(i:Int):isT (.int i) "bool"=false:=by show("int" == "bool" || "int" == "bool" && "bool" == "int")=false;decide +kernel
theorem Bc(x:Str):isT (.str x) "tuple"=false:=by show("str" == "tuple" || "str" == "bool" && "tuple" == "int")=false;decide +kernel
theorem AD(x:Str):isT (.str x) "int"=false:=by show("str" == "int" || "str" == "bool" && "int" == "int")=false;decide +kernel
theorem yp(x:Str):isT (.str x) "str"=true:=by show("str" == "str" || "str" == "bool" && "str" == "int")=true;decide +kernel
def ia(n:Nat):Sp:=λvs H Q _=>∃(u v:V) (d:Dv),vs=[u,v]/\Rep H d u/\Rep H d v/\Ak n d/\∀H',ai H H'->Q (.bl true) H'
theorem uP:ao ["_law_found","_law_due"] ["_law_found","_law_due"] (ah kY):=by trivial
theorem vO{f:Addr}{fd:Η}{k0 n:Nat}(F:Fun K "_law_alike" "_law_alike" kY f fd)(T:Txt K mg)(D_law_alike:Def P w K mg base k0 "_law_alike" ["_law_found","_law_due"] (ia n)):aw P w K mg base CX0 (k0+1) f fd ["_law_found","_law_due"] (ia (n+1)):=by
 refine F.ok uP (λvs H Q E h=>?_) (λcdv A outer s H vs Q E hr h=>?_)
 ·obtain⟨u,v,d,rfl,_⟩:=h
  rfl
 obtain⟨u,v,d,rfl,Ru,Rv,ak,q⟩:=h
 have hu:=xF hr
 refine⟨_,(@un _ _ _ (wbO (wbI (wbV (wal aS rfl T.isinstance () (wae (wv 1 rfl) (wae (wai (.ty "tuple") rfl T.tuple () rfl () ()) waf rfl) rfl) () () rfl rfl) ()) (wbO (wbI (wab (wbY (wbT (wbV (wal aS rfl T.isinstance () (wae (wv 0 rfl) (wae (wai (.ty "tuple") rfl T.tuple () rfl () ()) waf rfl) rfl) () () rfl rfl) ())) (wbZ (wbS eT (wal au rfl T.len () (wae (wv 0 rfl) waf rfl) () () rfl rfl) (wal au rfl T.len () (wae (wv 1 rfl) waf rfl) () () rfl rfl) (af _))))) (wbQ (wbK wah)) wbP) (wbQ (wbK (wal (fZ rfl) rfl T.all () (wae (waE (["_law_one","_law_other"]) [] (wbs rfl T.zip (wae (wv 0 rfl) (wae (wv 1 rfl) waf rfl) rfl) rfl rfl) (.of rfl) rfl (λ_ _ _=>⟨pg_tup rfl (pgs_cons (pg_name (i:=0) (bp (l:=["_law_one","_law_other"]) (()) rfl) rfl (Ε rfl)) (pgs_cons (pg_name (i:=1) (bp (l:=["_law_one","_law_other"]) (()) rfl) rfl (Ε rfl)) pgs_nil))⟩) (iQ () ()) (λ_ _ _=>wbx) (λ_ _ _=>(waq D_law_alike hr rfl (wae (wv 0 rfl) (wae (wv 1 rfl) waf rfl) rfl) () rfl rfl)) ()) waf rfl) () () rfl rfl)))) wbP) (wbO (wbI (wbV (wal aS rfl T.isinstance () (wae (wv 1 rfl) (wae (wai (.ty "int") rfl T.int () rfl () ()) waf rfl) rfl) () () rfl rfl) ()) (wbQ (wbK (wag (wal aS rfl T.isinstance () (wae (wv 0 rfl) (wae (wai (.ty "int") rfl T.int () rfl () ()) waf rfl) rfl) () () rfl rfl) (wag (waO (wal aS rfl T.isinstance () (wae (wv 0 rfl) (wae (wai (.ty "bool") rfl T.bool () rfl () ()) waf rfl) rfl) () () rfl rfl)) (waP (wap av (wv 0 rfl) (wv 1 rfl) (af _))))))) wbP) (wbQ (wbK (wag (wal aS rfl T.isinstance () (wae (wv 0 rfl) (wae (wai (.ty "str") rfl T.str () rfl () ()) waf rfl) rfl) () () rfl rfl) (waP (wap av (wv 0 rfl) (wv 1 rfl) (af _))))))))),?_⟩
 refine⟨_,rfl,v,_,_,_,rfl,Rv.ty,cb K d,_,rfl,?_⟩
 cases ak with
 | @int _ i=>
  obtain rfl:u=.int i:=by simpa only[Rep]using Ru
  obtain rfl:v=.int i:=by simpa only[Rep]using Rv
  rw[Bd]
  refine aG ?_
  refine⟨_,rfl,_,_,_,_,rfl,cU.int i,iy K (.int i),_,rfl,?_⟩
  rw[Aq]
  refine aF ?_
  refine⟨_,rfl,_,_,_,_,rfl,cU.int i,iy K (.int i),_,rfl,?_⟩
  rw[Aq]
  refine aF ?_
  refine⟨_,rfl,_,_,_,_,rfl,cU.int i,jt K (.int i),_,rfl,_,rfl,?_⟩
  rw[AG]
  refine aF ?_
  refine⟨_,rfl,_,rfl,rfl,?_⟩
  rw[Q9 rfl]
  exact q H (ai.refl _)
 | @str _ x=>
  obtain rfl:u=.str x:=by simpa only[Rep]using Ru
  obtain rfl:v=.str x:=by simpa only[Rep]using Rv
  rw[Bc]
  refine aG ?_
  refine⟨_,rfl,_,_,_,_,rfl,cU.str x,iy K (.str x),_,rfl,?_⟩
  rw[AD]
  refine aG ?_
  refine⟨_,rfl,_,_,_,_,rfl,cU.str x,eM K (.str x),_,rfl,?_⟩
  rw[yp]
  refine aF ?_
  refine⟨_,rfl,_,rfl,rfl,?_⟩
  rw[Q9 rfl]
  exact q H (ai.refl _)
 | @tup _ ds l30 hd=>
  obtain⟨a,us,rfl,ha,ru⟩:=Rep.tup_inv Ru
  obtain⟨b,vs,rfl,hb,rv⟩:=Rep.tup_inv Rv
  have l1:=ru.length
  have l2:=rv.length
  rw[rD]
  refine aF ?_
  refine⟨_,rfl,_,_,_,_,rfl,cU.tup ha,cb K (.tup ds),_,rfl,?_⟩
  rw[rD]
  refine aG ?_
  refine⟨_,rfl,a,_,rfl,.inr (SqT.of ha),_,rfl,b,_,rfl,.inr (SqT.of hb),rfl,_,rfl,?_⟩
  rw[show(!decide (V.int (us.length:Int)=V.int (vs.length:Int)))=false by rw[l1,l2];simp]
  refine aG ?_
  refine⟨_,rfl,_,rfl,a,b,rfl,⟨_,SqT.of ha⟩,⟨_,SqT.of hb⟩,mV (xs:=us) (ys:=vs) (λi ys H'=>ai H H'/\ys=(B9 i true).map V.bl/\i<=30) ⟨ai.refl _,rfl,Υ _⟩ (λi zs H' p=>⟨SqT.of (p.1 _ _ ha),SqT.of (p.1 _ _ hb)⟩) ?_ ?_⟩
  ·rintro i zs H1 x y p hx hy ⟨s1,rfl,i30⟩ hp
   obtain⟨d1,hd1,Rd1⟩:=ru.get hx
   obtain⟨d2,hd2,Rd2⟩:=rv.get hy
   rw[hd1]at hd2
   cases hd2
   have hi:i<us.length:=(Θ.mp hx).1
   have s2:=s1.trans (ac hp (.tup [x,y]))
   refine eE aa ⟨_,rfl,_,rfl,x,y,d1,rfl,Rd1.mono s2,Rd2.mono s2,hd d1 (ϊ hd1),λH3 s3=>⟨?_,s2.trans s3,?_,()⟩⟩
   ·rw[η,w_,ι];omega
   ·rw[List.replicate_succ',Ι];rfl
  ·rintro zs H1 ⟨s1,rfl,_⟩ l hl
   refine⟨l,_,rfl,SqL.of aa,?_⟩
   have e:∀n,(B9 n true).all id=true:=λn=>by rw[ϻ];intro b hb;rw[(List.mem_replicate.mp hb).2];rfl
   rw[e]
   exact q _ (s1.trans (ac hl _))
abbrev pA:Stmt:=top 65
def ml(n:Nat):Sp:=λvs H Q _=>∃(a b:Addr) (rm:Int) (xs:List Str),vs=[.ref a,.ref b,.int rm]/\1<=rm/\rm<=n/\n<=12/\St2 H a/\H b=some (.lst (xs.map V.str))/\b≠a/\xs.length<=10 /\
 ∀(H':Hp)(v:V)(k:Kd),ar a H H'->St2 H' a->Rep H' k.dv v->k.All (Ln xs 99)->(k.size:Int)<=rm->Q v H'
theorem sk:ao ["_law_state_here","_law_names_here","_law_room","_law_way","_law_share","_law_one","_law_length_here"] ["_law_state_here","_law_names_here","_law_room"] (ah pA):=by trivial
theorem xl{f:Addr}{fd:Η}{k0 n:Nat}(F:Fun K "_law_kind" "_law_kind" pA f fd)(T:Txt K mg)(D_law_draw:Def P w K mg base k0 "_law_draw" ["_law_state_here","_law_many"] dD)(D_law_length:Def P w K mg base k0 "_law_length" ["_law_state_here","_law_names_here","_law_most"] jf)(D_law_kind:Def P w K mg base k0 "_law_kind" ["_law_state_here","_law_names_here","_law_room"] (ml n)):aw P w K mg base CX0 (k0+1) f fd ["_law_state_here","_law_names_here","_law_room"] (ml (n+1)):=by
 have nd:=sk.nd
 refine F.ok sk (λvs H Q E h=>?_) (λcdv A outer s H vs Q E hr h=>?_)
 ·obtain⟨a,b,rm,xs,rfl,_⟩:=h
  rfl
 obtain⟨a,b,rm,xs,rfl,r1,rn,n12,st,hb,hba,lx,q⟩:=h
 refine⟨_,(@un _ _ _ (wbO (wbM 3 nd rfl (Ε rfl) (waq D_law_draw hr rfl (wae (wv 0 rfl) (wae waC waf rfl) rfl) () rfl rfl) rfl ()) (wbO (wbI (wab (wbW (wbS dX (wv 2 rfl) waC (af _)) (wbX (wbS av (wv 3 rfl) waC (af _))))) (wbO (wbM 4 nd rfl (Ε rfl) (waQ bF waC (waq D_law_draw hr rfl (wae (wv 0 rfl) (wae (waQ bV (wv 2 rfl) waC) waf rfl) rfl) () rfl rfl)) rfl ()) (wbO (wbM 5 nd rfl (Ε rfl) (waq D_law_kind hr rfl (wae (wv 0 rfl) (wae (wv 1 rfl) (wae (wv 4 rfl) waf rfl) rfl) rfl) () rfl rfl) rfl ()) (wbQ (wbK (waX (wae waV (wae (wv 5 rfl) (wae (waq D_law_kind hr rfl (wae (wv 0 rfl) (wae (wv 1 rfl) (wae (waQ bV (waQ bV (wv 2 rfl) waC) (wv 4 rfl)) waf rfl) rfl) rfl) () rfl rfl) waf rfl) rfl) rfl)))))) wbP) (wbO (wbI (wbS av (wv 3 rfl) waC (af _)) (wbQ (wbK (waX (wae waV waf rfl)))) wbP) (wbO (wbM 6 nd rfl (Ε rfl) (waq D_law_length hr rfl (wae (wv 0 rfl) (wae (wv 1 rfl) (wae waC waf rfl) rfl) rfl) () rfl rfl) rfl ()) (wbO (wbI (wab (wbW (wbS dX (wv 2 rfl) waC (af _)) (wbX (wbS gY (wv 3 rfl) waC (af _))))) (wbQ (wbK (waX (wae waV (wae (wv 6 rfl) (wae (waq D_law_kind hr rfl (wae (wv 0 rfl) (wae (wv 1 rfl) (wae (waQ bV (wv 2 rfl) waC) waf rfl) rfl) rfl) () rfl rfl) waf rfl) rfl) rfl)))) wbP) (wbQ (wbK (waX (wae waV (wae (wv 6 rfl) waf rfl) rfl)))))))))),?_⟩
 refine⟨_,rfl,a,5,rfl,st,(),(),λH1 x s1 st1 x0 x5=>?_⟩
 have b1:=s1 _ _ hba hb
 refine gnm ?_
 dsimp only
 refine sI (2<rm/\x=0) ?A ?B (λqT qF=>⟨_,rfl,_,_,rfl,rfl,_,rfl,ap (λh1=>⟨_,rfl,rfl,_,rfl,ap (λh2=>ifT (qT ⟨Q7 h1,by simpa using h2⟩)) (λ_=>ifF qF)⟩) (λ_=>qF)⟩)
 case A=>
  rintro⟨pr,hx⟩
  refine aF ?_
  refine⟨_,rfl,_,rfl,_,_,rfl,rfl,a,rm-2,rfl,st1,(),(),λH2 y s2 st2 y0 y1=>⟨_,_,rfl,rfl,?_⟩⟩
  refine gnm ?_
  have b2:=s2 _ _ hba b1
  have s02:=s1.trans s2
  refine⟨_,rfl,_,rfl,_,rfl,a,b,1+y,xs,rfl,(),(),(),st2,b2,hba,lx,λH3 v3 k3 s3 st3 R3 A3 z3'=>?_⟩
  refine gnm ?_
  have b3:=s3 _ _ hba b2
  refine⟨_,rfl,_,rfl,_,rfl,_,rfl,_,_,rfl,rfl,_,rfl,_,_,rfl,rfl,a,b,rm-1-(1+y),xs,rfl,(),(),(),st3,b3,hba,lx,λH4 v4 k4 s4 st4 R4 A4 z4=>⟨z3,λt ht=>?_⟩⟩
  have t4:=st3.tups s4
  have s5:=ac ht (.tup [.str "pair",v3,v4])
  refine q _ _ (.pair k3 k4) (s02.trans (s3.trans (s4.trans (ai.b a s5)))) (st4.m s5) (oN aa ((Kd.tupS t4 R3).mono s5) (R4.mono s5)) ⟨A3,A4⟩ ?_
  show((k3.size+k4.size+1:Nat):Int)<=rm
  omega
 case B=>
  refine aG (tnx ?_)
  dsimp only
  refine⟨_,rfl,rfl,_,rfl,ap (λ_=>⟨z1,λt ht=>?_⟩) (λ_=>?_)⟩
  ·have s2:=ac ht (.tup [.str "whole"])
   exact q _ _ .whole (s1.trans (ai.b a s2)) (st1.m s2) (kK aa) trivial (by show(1:Int)<=rm;omega)
  refine⟨_,rfl,_,rfl,a,b,99,xs,rfl,st1,b1,hba,lx,(),(),λH2 v2 c ps s2 st2 R2 ln=>?_⟩
  refine gnm ?_
  dsimp only
  have b2:=s2 _ _ hba b1
  have s02:=s1.trans s2
  refine sI (1<rm) ?C ?D (λqT qF=>⟨_,rfl,_,_,rfl,rfl,_,rfl,ap (λh1=>⟨_,rfl,_,_,rfl,rfl,_,rfl,ap (λ_=>ifT (qT (Q7 h1))) (λ_=>ifF qF)⟩) (λ_=>qF)⟩)
  case C=>
   intro r2
   refine aF ⟨_,rfl,_,rfl,_,rfl,_,rfl,_,_,rfl,rfl,a,b,rm-1,xs,rfl,(),(),(),st2,b2,hba,lx,λH3 v3 k3 s3 st3 R3 A3 z3'=>⟨z3,λt ht=>?_⟩⟩
   have t3:=st2.tups s3
   have s4:=ac ht (.tup [.str "row",v2,v3])
   refine q _ _ (.row c ps k3) (s02.trans (s3.trans (ai.b a s4))) (st3.m s4) (sf aa ((cm t3 (mi c ps) R2).mono s4) (R3.mono s4)) ⟨ln,A3⟩ ?_
   show((k3.size+1:Nat):Int)<=rm
   omega
  case D=>
   refine aG ⟨_,rfl,z2,λt ht=>?_⟩
   have s4:=ac ht (.tup [.str "place",v2])
   exact q _ _ (.place c ps) (s02.trans (ai.b a s4)) (st2.m s4) (ku aa (R2.mono s4)) ln (by show(1:Int)<=rm;omega)
def qL(s:Stmt)(i:Nat):Stmt:=match s with|.ClassDef _ _ _ body _ _ _ _ _ _ _=>body.getD i (.Pass ⟨0,0,0,0⟩)|_=>.Pass ⟨0,0,0,0⟩
abbrev eL:Stmt:=qL (top 43) 0
abbrev kF:Stmt:=qL (top 43) 1
abbrev bH:Stmt:=qL (top 43) 2
abbrev dj:Stmt:=qL (top 43) 3
def Sg(C:Addr)(H:Hp)(a:Addr)(x:Str)(i:Nat):Prop:=∃dx,H a=some (.ins C dx [(γ "text",.str x),(γ "at",.int i)])
theorem Ab:(γ "at" == γ "text")=false:=by decide +kernel
theorem fC(x:Str)(i:Int):ϩ (γ "text") [(γ "text",V.str x),(γ "at",V.int i)]=some (.str x):=by rw[Ϙ,beq_self_eq_true]
theorem gK(x:Str)(i:Int):ϩ (γ "at") [(γ "text",V.str x),(γ "at",V.int i)]=some (.int i):=by rw[Ϙ,Ab,Ϙ,beq_self_eq_true]
theorem vc(x:Str)(i j:Int):dg (γ "at") (.int j) [(γ "text",V.str x),(γ "at",V.int i)]=[(γ "text",V.str x),(γ "at",V.int j)]:=by
 have h:¬ γ "text"=γ "at":=by decide +kernel
 simp[dg,h]
def xT(C:Addr):Sp:=λvs H Q _=>∃(a:Addr) (x y:Str) (i:Nat),vs=[.ref a,.str y]/\Sg C H a x i/\y.length<=10 /\
 (Txt.startswith3 x y i=false->Q (.bl false) H)/\(Txt.startswith3 x y i=true->∀H',ar a H H'->Sg C H' a x (i+y.length)->Q (.bl true) H')
theorem zd:ao ["self","signs"] ["self","signs"] (ah kF):=by trivial
theorem zm{f C:Addr}{fd:Η}(F:Fun K "met" "Signs.met" kF f fd)(T:Txt K mg)(cl:Cls K C)(nT:cf K C "text")(nA:cf K C "at"):aw P w K mg base CX0 1 f fd ["self","signs"] (xT C):=by
 refine F.ok zd (λvs H Q E h=>?_) (λcdv A outer s H vs Q E hr h=>?_)
 ·obtain⟨a,x,y,i,rfl,_⟩:=h
  rfl
 obtain⟨a,x,y,i,rfl,⟨dx,ha⟩,ly,qf,qt⟩:=h
 refine⟨_,(@un _ _ _ (wbO (wbI (wbT (wbV (waj Ϗ PySem.F.slot_str_startswith PySem.F.type_str_startswith qh (waG (wv 0 rfl) rfl) (wae (wv 1 rfl) (wae (waG (wv 0 rfl) rfl) waf rfl) rfl) rfl rfl rfl rfl rfl) ())) (wbQ (wbK wah)) wbP) (wbO (waI (wv 0 rfl) (wal bO rfl T.len () (wae (wv 1 rfl) waf rfl) () () rfl rfl) uE) (wbQ (wbK wah))))),?_⟩
 dsimp only[bo,Cx.nox]
 refine⟨_,rfl,a,C,dx,_,.str x,rfl,ha,cl,nT,fC _ _,rfl,_,rfl,_,rfl,a,C,dx,_,.int i,rfl,ha,cl,nA,gK _ _,x,y,i,rfl,rfl,_,rfl,?_⟩
 cases e:Txt.startswith3 x y i with
 |false=>exact aF (qf e)
 |true=>
  refine aG ?_
  refine⟨_,rfl,a,C,dx,_,.int i,rfl,ha,cl,nA,gK _ _,_,rfl,y,rfl,?_,i,y.length,rfl,rfl,dx,_,ha,c_ rfl,?_⟩
  ·rw[ι];omega
  ·refine qt e _ (ar.upd _ _ _) ⟨dx,?_⟩
   rw[aa,vc]
   rfl
theorem vU:ao ["self","text"] ["self","text"] (ah eL):=by trivial
def rB(C:Addr):Sp:=λvs H Q _=>∃(a dx:Addr) (x:Str),vs=[.ref a,.str x]/\H a=some (.ins C dx [])/\∀H',ar a H H'->Sg C H' a x 0->Q .non H'
theorem uz{f C:Addr}{fd:Η}(F:Fun K "__init__" "Signs.__init__" eL f fd)(T:Txt K mg)(cl:Cls K C)(nT:cf K C "text")(nA:cf K C "at"):aw P w K mg base CX0 1 f fd ["self","text"] (rB C):=by
 refine F.ok vU (λvs H Q E h=>?_) (λcdv A outer s H vs Q E hr h=>?_)
 ·obtain⟨a,dx,x,rfl,_⟩:=h
  rfl
 obtain⟨a,dx,x,rfl,ha,q⟩:=h
 refine⟨_,(@un _ _ _ (wbO (waH (wv 0 rfl) (wv 1 rfl) rfl) (wbQ (waH (wv 0 rfl) waC rfl)))),?_⟩
 dsimp only[bo,Cx.nox]
 refine⟨_,rfl,_,rfl,a,C,dx,_,rfl,ha,cl,nT,c_ rfl,?_⟩
 refine⟨_,rfl,a,C,dx,_,rfl,aa,cl,nA,c_ rfl,?_⟩
 refine q _ ((ar.upd _ _ _).trans (ar.upd _ _ _)) ⟨dx,?_⟩
 rw[aa]
 have h:¬ γ "text"=γ "at":=by decide +kernel
 simp[dg,h]
theorem fH:ao ["self","start"] ["self"] (ah bH):=by trivial
def bC(c:Nat):Bool:=c==40||c==44||c==41
theorem wV(c:Nat):inV (.str ⟨#[c]⟩) [.str (γ "("),.str (γ ","),.str (γ ")")]=bC c:=by
 have e1:γ "("=⟨#[40]⟩:=by decide +kernel
 have e2:γ ","=⟨#[44]⟩:=by decide +kernel
 have e3:γ ")"=⟨#[41]⟩:=by decide +kernel
 have h:∀d:Nat,((⟨#[d]⟩:Str)==⟨#[c]⟩)=(c==d):=λd=>by
  rw[j6,beq_iff_eq,beq_iff_eq]
  constructor
  ·intro z;injection z with z;injection z with z;injection z with z _;exact z.symm
  ·intro z;rw[z]
 rw[e1,e2,e3]
 show(((⟨#[40]⟩:Str)==⟨#[c]⟩)||(((⟨#[44]⟩:Str)==⟨#[c]⟩)||(((⟨#[41]⟩:Str)==⟨#[c]⟩)||false)))=bC c
 rw[h,h,h,Bool.or_false]
 unfold bC
 rw[Bool.or_assoc]
def vK(C:Addr):Sp:=λvs H Q _=>∃(a:Addr) (x:Str) (i j:Nat),vs=[.ref a]/\Sg C H a x i/\x.length<=1000000/\i<=j/\j<=x.length/\(∀m,i<=m->m<j->∃c,x.cps.toList[m]?=some c/\bC c=false)/\(j<x.length->∃c,x.cps.toList[j]?=some c/\bC c=true) /\
 ∀H',ar a H H'->Sg C H' a x j->Q (.str (Txt.slice x (some i) (some j))) H'
theorem lY{f C:Addr}{fd:Η}(F:Fun K "next_word" "Signs.next_word" bH f fd)(T:Txt K mg)(cl:Cls K C)(nT:cf K C "text")(nA:cf K C "at"):aw P w K mg base CX0 1 f fd ["self"] (vK C):=by
 have nd:=fH.nd
 refine F.ok fH (λvs H Q E h=>?_) (λcdv A outer s H vs Q E hr h=>?_)
 ·obtain⟨a,x,i,j,rfl,_⟩:=h
  rfl
 obtain⟨a,x,i,j,rfl,⟨dx,ha⟩,lx,hij,hj,nost,stp,q⟩:=h
 refine⟨_,(@un _ _ _ (wbO (wbM 1 nd rfl (Ε rfl) (waG (wv 0 rfl) rfl) rfl ()) (wbO (wbN ϫ (wab (wbW (wbS gY (waG (wv 0 rfl) rfl) (wal bO rfl T.len () (wae (waG (wv 0 rfl) rfl) waf rfl) () () rfl rfl) (af _)) (wbX (wbS fD (waD qC (waG (wv 0 rfl) rfl) (waG (wv 0 rfl) rfl) (λ_ _=>rfl)) (waX (wae waV (wae waV (wae waV waf rfl) rfl) rfl)) (by with_unfolding_all rfl))))) (wbQ (waI (wv 0 rfl) waC uE))) (wbQ (wbK (waT pU (waG (wv 0 rfl) rfl) (wbA (wv 1 rfl)) (wbA (waG (wv 0 rfl) rfl)))))))),?_⟩
 dsimp only[bo,Cx.nox]
 refine⟨_,rfl,a,C,dx,_,.int i,rfl,ha,cl,nA,gK _ _,?_⟩
 refine gnm ?_
 have lz:x.length<=sizeLine:=by rw[ι];omega
 refine⟨λm σ H'=>∃p:Nat,m=j-p/\i<=p/\p<=j/\σ=[some (.ref a),some (.int i)]/\ar a H H'/\Sg C H' a x p,⟨_,i,rfl,π _,hij,rfl,ar.refl _ _,dx,ha⟩,?_⟩
 rintro m σ H1 ⟨p,rfl,ip,pj,rfl,s1,dx1,ha1⟩
 have stop:∀H2,ar a H1 H2->p=j->H2 a=some (.ins C dx1 [(γ "text",.str x),(γ "at",.int (p:Int))])->Q (.str (Txt.slice x (some (i:Int)) (some (p:Int)))) H2:=λH2 s2 e h2=>by
  subst e
  exact q H2 (s1.trans s2) ⟨dx1,h2⟩
 refine⟨_,rfl,a,C,dx1,_,.int p,rfl,ha1,cl,nA,gK _ _,_,rfl,a,C,dx1,_,.str x,rfl,ha1,cl,nT,fC _ _,x,rfl,lz,_,_,rfl,rfl,_,rfl,ap (λhp=>?_) (λhp=>?_)⟩
 ·have hp':p<x.length:=by have:=Q7 hp;omega
  have hl:p<x.cps.toList.length:=by rw[Λ];exact hp'
  have hat:=ae (ς hl)
  refine⟨_,rfl,a,C,dx1,_,.str x,rfl,ha1,cl,nT,fC _ _,_,rfl,a,C,dx1,_,.int p,rfl,ha1,cl,nA,gK _ _,x,p,_,rfl,rfl,lz,hat,z3,λt ht=>⟨t,_,rfl,.inr (SqT.of aa),rfl,rfl,_,rfl,?_⟩⟩
  have s2:=ac ht (.tup [.str "(",.str ",",.str ")"])
  have ha2:=s2 _ _ ha1
  generalize upd H1 t (.tup [.str "(",.str ",",.str ")"])=H2 at s2 ha2⊢
  show if (!inV (.str ⟨#[x.cps.toList[p]]⟩) [.str "(",.str ",",.str ")"])=true then _ else _
  rw[wV]
  by_cases e:p=j
  ·obtain⟨c,hc,sc⟩:=stp ()
   rw[<-e,ς hl]at hc
   cases hc
   rw[sc]
   refine aG ⟨_,rfl,a,C,dx1,_,.str x,rfl,ha2,cl,nT,fC _ _,_,rfl,_,rfl,_,rfl,a,C,dx1,_,.int p,rfl,ha2,cl,nA,gK _ _,_,rfl,x,rfl,lz,?_⟩
   exact stop H2 (ai.b a s2) e ha2
  ·obtain⟨c,hc,sc⟩:=nost p ip ()
   rw[ς hl]at hc
   cases hc
   rw[sc]
   refine aF ⟨λσ' H'=>∃p':Nat,j-p'<j-p/\i<=p'/\p'<=j/\σ'=[some (.ref a),some (.int i)]/\ar a H H'/\Sg C H' a x p',λσ' H' ⟨p',h1,h2,h3,h4,h5,h6⟩=>⟨j-p',h1,p',rfl,h2,h3,h4,h5,h6⟩,?_⟩
   refine⟨_,rfl,a,C,dx1,_,.int p,rfl,ha2,cl,nA,gK _ _,p,1,rfl,rfl,dx1,_,ha2,c_ rfl,p+1,(),(),(),rfl,s1.trans ((ai.b a s2).trans (ar.upd _ _ _)),dx1,?_⟩
   rw[aa,vc]
   rfl
 ·have e:p=j:=by
   have:¬ (p:Int)<x.length:=λz=>hp (Q9 z)
   omega
  refine⟨_,rfl,a,C,dx1,_,.str x,rfl,ha1,cl,nT,fC _ _,_,rfl,_,rfl,_,rfl,a,C,dx1,_,.int p,rfl,ha1,cl,nA,gK _ _,_,rfl,x,rfl,lz,?_⟩
  exact stop H1 (ar.refl _ _) e ha1
theorem jc{x w:Str}{i:Nat}{post:List Nat}(h:x.cps.toList.drop i=w.cps.toList++post)(hi:i<=x.length):i+w.length+post.length=x.length:=by
 have e:=congrArg o9 h
 rw[ϭ,Ζ,Λ,Λ]at e
 have e1:x.length=x.cps.size:=rfl
 have e2:w.length=w.cps.size:=rfl
 omega
theorem oF{x w:Str}{i:Nat}{post:List Nat}(h:x.cps.toList.drop i=w.cps.toList++post)(hi:i<=x.length):Txt.slice x (some (i:Int)) (some ((i+w.length:Nat):Int))=w:=by
 have hl:=jc h hi
 have e:=PyProof.Rows.slice_closesL (x:=x) (i:=i) (j:=((i+w.length:Nat):Int)) () () ()
 rw[beq_iff_eq.mp e,show((i:Int)).toNat=i by omega,show(((i+w.length:Nat):Int)-(i:Int)).toNat=w.length by omega,h]
 refine jw ?_
 show((w.cps.toList++post).take w.length).toArray.toList=_
 rw[show w.length=w.cps.toList.length from(Λ).symm,List.take_left' rfl]
theorem kj{x y:Str}{i:Nat}(hi:i<=x.length):Txt.startswith3 x y (i:Int)=((x.cps.toList.drop i).take y.length==y.cps.toList):=by
 have ef:fromIndex x.length (i:Int)=i:=by
  unfold fromIndex
  rw[Q6 ()]
  omega
 unfold Txt.startswith3
 rw[ef,StrLaws.subAt_eq]
 by_cases h:i+y.length<=x.length
 ·rw[Q9 h,ϳ]
 ·rw[Q8 h,Ϭ,eq_comm,beq_eq_false_iff_ne]
  intro e
  have:=congrArg o9 e
  rw[Χ,ϭ,Λ,Λ]at this
  have e1:x.length=x.cps.size:=rfl
  have e2:y.length=y.cps.size:=rfl
  omega
def Bh(post:List Nat):Prop:=post=[]\/∃c r,post=c::r/\(c=44\/c=41)
theorem kf{x w:Str}{i:Nat}{post:List Nat}(h:x.cps.toList.drop i=w.cps.toList++post)(hi:i<=x.length)(hw:∀c∈w.cps.toList,bC c=false)(hp:post=[]\/∃c r,post=c::r/\bC c=true):
  i<=i+w.length/\i+w.length<=x.length/\(∀m,i<=m->m<i+w.length->∃c,x.cps.toList[m]?=some c/\bC c=false)/\(i+w.length<x.length->∃c,x.cps.toList[i+w.length]?=some c/\bC c=true):=by
 have hl:=jc h hi
 have lw:w.length=w.cps.toList.length:=(Λ).symm
 have at_:∀m,x.cps.toList[i+m]?=(w.cps.toList++post)[m]?:=λm=>by rw[<-h,List.getElem?_drop]
 refine⟨(),(),λm h1 h2=>?_,λh1=>?_⟩
 ·have e:=at_ (m-i)
  have hm:m-i<w.cps.toList.length:=by omega
  rw[show i+(m-i)=m by omega,m8 hm,ς hm]at e
  exact⟨_,e,hw _ (i8 _)⟩
 ·rcases hp with rfl|⟨c,r,rfl,hc⟩
  ·simp at hl;omega
  ·refine⟨c,?_,hc⟩
   rw[at_,lw,ϵ (π _),CI];rfl
inductive Br|leaf (w:Str)|nd (w:Str) (ts:List Br)
mutual
def brT:Br->Str
 |.leaf w=>w
 |.nd w ts=>w++γ "(" ++ a9 (γ ", ") (brTs ts)++γ ")"
def brTs:List Br->List Str
 |[]=>[]
 |t::ts=>brT t::brTs ts
end
mutual
def bT:Br->Dv
 |.leaf w=>eS w
 |.nd w ts=>.tup [.str w,.lst (brDvs ts)]
def brDvs:List Br->List Dv
 |[]=>[]
 |t::ts=>bT t::brDvs ts
end
mutual
def bE:Br->Nat
 |.leaf _=>0
 |.nd _ ts=>brDps ts+1
def brDps:List Br->Nat
 |[]=>0
 |t::ts=>max (bE t) (brDps ts)
end
mutual
def bG:Br->Prop
 |.leaf w=>(∀c∈w.cps.toList,bC c=false)/\1<=w.cps.size
 |.nd w ts=>(∀c∈w.cps.toList,bC c=false)/\ts.length<=8/\brOks ts
def brOks:List Br->Prop
 |[]=>True
 |t::ts=>bG t/\brOks ts
end
theorem dM:∀ts,brTs ts=ts.map brT
 |[]=>rfl
 |t::ts=>by rw[brTs,dM ts];rfl
theorem gA:∀ts,brDvs ts=ts.map bT
 |[]=>rfl
 |t::ts=>by rw[brDvs,gA ts];rfl
theorem oA:∀{ts:List Br}{u},u∈ts->bE u<=brDps ts
 |t::ts,u,h=>by
  rw[brDps]
  rcases ν.mp h with rfl|h
  ·omega
  ·have:=oA h;omega
theorem kL:∀{ts:List Br},brOks ts->∀u∈ts,bG u
 |t::ts,h,u,hu=>by
  rw[brOks]at h
  rcases ν.mp hu with rfl|hu
  ·exact h.1
  ·exact kL h.2 u hu
theorem nI:∀{ts:List Br},(∀u∈ts,bG u)->brOks ts
 |[],_=>trivial
 |t::ts,h=>⟨h t ξ,nI λu hu=>h u (χ _ hu)⟩
theorem qS{m:Str}(h1:(m==γ "text")=false)(h2:(m==γ "at")=false)(x:Str)(i:Int):ϩ m [(γ "text",V.str x),(γ "at",V.int i)]=none:=by rw[Ϙ,h1,Ϙ,h2];rfl
theorem xv{post:List Nat}(h:Bh post):post=[]\/∃c r,post=c::r/\bC c=true:=by
 rcases h with h|⟨c,r,h,rfl|rfl⟩
 ·exact .inl h
 ·exact .inr ⟨_,r,h,rfl⟩
 ·exact .inr ⟨_,r,h,rfl⟩
theorem xy{x w:Str}{i:Nat}{post:List Nat}(h:x.cps.toList.drop i=w.cps.toList++post)(hi:i<=x.length)(hp:Bh post):Txt.startswith3 x (γ "(") ((i+w.length:Nat):Int)=false:=by
 have hl:=jc h hi
 rw[kj (),show(x.cps.toList.drop (i+w.length))=post by
  rw[<-List.drop_drop,h,show w.length=w.cps.toList.length from(Λ).symm,List.drop_left' rfl]]
 have e:(γ "(").cps.toList=[40]:=by decide +kernel
 rw[e,lb3]
 rcases hp with rfl|⟨c,r,rfl,rfl|rfl⟩
 ·rfl
 ·rfl
 ·rfl
def nw(H H':Hp):Hp:=λb=>match H b with|none=>H' b|some _=>none
def eA(C:Addr)(n:Nat):Sp:=λvs H Q _=>∃(a:Addr) (x:Str) (i:Nat) (most:Int) (t:Br) (post:List Nat),vs=[.ref a,.int most]/\Sg C H a x i/\x.length<=1000000/\i<=x.length/\x.cps.toList.drop i=(brT t).cps.toList++post/\Bh post/\bG t/\(bE t:Int)<=most/\most<n /\
 ∀H' v,ar a H H'->Sg C H' a x (i+(brT t).length)->Rep (nw H H') (bT t) v->Q v H'
theorem oM{s:Str}{c:Nat}:∀{ys:List Str},c∈(a9 s ys).cps.toList->c∈s.cps.toList\/∃y∈ys,c∈y.cps.toList
 |[],h=>by cases h
 |[a],h=>.inr ⟨a,μ.mpr rfl,h⟩
 |a::b::r,h=>by
  rw[bb,aQ,aQ]at h
  rcases ϋ.mp h with h|h
  ·rcases ϋ.mp h with h|h
   ·exact .inr ⟨a,ξ,h⟩
   ·exact .inl h
  ·rcases oM h with h|⟨y,hy,h⟩
   ·exact .inl h
   ·exact .inr ⟨y,χ _ hy,h⟩
theorem jD{c:Nat}(h:48<=c/\c<=57):bC c=false:=by unfold bC;simp;omega
theorem mv{c:Nat}(h:97<=c/\c<=122):bC c=false:=by unfold bC;simp;omega
theorem sP{p:Pr}(h0:1<=p.2)(h1:p.2<10^60)(hn:nmB p.1=true):∀c∈(aE p).cps.toList,bC c=false:=λc hc=>by
 obtain⟨_,_,az⟩:=jB hn
 unfold aE at hc
 split at hc
 ·exact mv (az c hc)
 ·rw[aQ,aQ,il]at hc
  rcases ϋ.mp hc with h|h
  ·rcases ϋ.mp h with h|h
   ·exact jD (fL (n:=p.2) () h1 c h)
   ·rw[μ.mp h];rfl
  ·exact mv (az c h)
theorem kG{c:Int}{ps:List Pr}(wa:Wa c ps):∀d∈(bY c ps).cps.toList,bC d=false:=λd hd=>by
 unfold bY at hd
 rcases oM hd with h|⟨y,hy,h⟩
 ·rw[se]at h;rw[μ.mp h];rfl
 ·unfold aU at hy
  rcases ϋ.mp hy with h1|h1
  ·obtain⟨p,hp,rfl⟩:=ϥ.mp h1
   exact sP (wa.1.can.ge p hp) (wa.1.le p hp).1 (wa.2 p hp) d h
  ·split at h1
   ·rw[μ.mp h1]at h;exact jD (fL wa.1.c0 wa.1.c1 d h)
   ·cases h1
theorem cR{x:Str}(h:1<=x.cps.size):∃c r,x.cps.toList=c::r:=by
 cases e:x.cps.toList with
 |nil=>have:=Λ (xs:=x.cps);rw[e,h_]at this;omega
 |cons c r=>exact⟨c,r,rfl⟩
theorem tP{s a:Str}{c:Nat}{r:List Nat}(h:a.cps.toList=c::r):∀ys:List Str,∃r',(a9 s (a::ys)).cps.toList=c::r'
 |[]=>⟨r,h⟩
 |b::ys=>by rw[bb,aQ,aQ,h];exact⟨_,rfl⟩
theorem sW{p:Pr}(h0:1<=p.2)(h1:p.2<10^60)(hn:nmB p.1=true):∃c r,(aE p).cps.toList=c::r:=by
 unfold aE
 split
 ·exact cR (jB hn).1
 ·obtain⟨c,r,e⟩:=cR (dE (fV (n:=p.2) () h1).1).2.1
  rw[aQ,aQ,e];exact⟨_,_,rfl⟩
theorem sZ{c:Int}{ps:List Pr}(wa:Wa c ps):∃d r,(bY c ps).cps.toList=d::r/\d≠41:=by
 have h:∃d r,(bY c ps).cps.toList=d::r:=by
  unfold bY aU
  cases ps with
  |nil=>
   obtain⟨d,r,e⟩:=cR (dE (fV wa.1.c0 wa.1.c1).1).2.1
   rw[Q5 (.inr rfl),o_,ϸ]
   exact⟨d,r,e⟩
  |cons p ps=>
   obtain⟨d,r,e⟩:=sW (wa.1.can.ge p ξ) (wa.1.le p ξ).1 (wa.2 p ξ)
   rw[Ο,ϯ]
   obtain⟨r',e'⟩:=tP (s:=γ "+") e (ps.map aE++if c≠0\/p::ps=[]then [aV c]else [])
   exact⟨d,r',e'⟩
 obtain⟨d,r,e⟩:=h
 refine⟨d,r,e,λz=>?_⟩
 have:=kG wa d (by rw[e];exact ξ)
 rw[z]at this
 exact absurd this ()
theorem wQ{t:Br}(ok:bG t):∃d r,(brT t).cps.toList=d::r/\d≠41:=by
 have e1:(γ "(").cps.toList=[40]:=by decide +kernel
 cases t with
 |leaf w=>
  rw[bG]at ok
  obtain⟨c,r,e⟩:=cR ok.2
  refine⟨c,r,by rw[brT];exact e,λz=>?_⟩
  have:=ok.1 c (by rw[e];exact ξ)
  rw[z]at this
  exact absurd this ()
 |nd w ts=>
  rw[bG]at ok
  rw[brT,aQ,aQ,aQ,e1]
  cases e:w.cps.toList with
  |nil=>exact⟨40,_,rfl,()⟩
  |cons c r=>
   refine⟨c,_,rfl,λz=>?_⟩
   have:=ok.1 c (by rw[e];exact ξ)
   rw[z]at this
   exact absurd this ()
def rem(post:List Nat):List Br->List Nat
 |[]=>41::post
 |t::ts=>44::32::((brT t).cps.toList++rem post ts)
def inn(post:List Nat):List Br->List Nat
 |[]=>41::post
 |t::ts=>(brT t).cps.toList++rem post ts
theorem oz(post:List Nat):∀(t:Br)(ts:List Br),(a9 (γ ", ") (brTs (t::ts))).cps.toList++41::post=inn post (t::ts)
 |t,[]=>by rw[brTs,brTs,bc];rfl
 |t,u::ts=>by
  have e3:(γ ", ").cps.toList=[44,32]:=by decide +kernel
  have:=oz post u ts
  rw[brTs]at this
  rw[brTs,brTs,bb,aQ,aQ,e3,g0,g0,this]
  rfl
structure Nd(t:Br)(w:Str)(ts:List Br):Prop where
 fr:∀c∈w.cps.toList,bC c=false
 tx:∀post,(brT t).cps.toList++post=w.cps.toList++40::inn post ts
 dv:bT t=.tup [.str w,.lst (ts.map bT)]
 ok:∀u∈ts,bG u/\bE u<bE t
 le:ts.length<=8
 dp:1<=bE t
theorem vz{t:Br}(ok:bG t):(bT t=eS (brT t)/\∀c∈(brT t).cps.toList,bC c=false)\/∃w ts,Nd t w ts:=by
 have e1:(γ "(").cps.toList=[40]:=by decide +kernel
 have e2:(γ ")").cps.toList=[41]:=by decide +kernel
 cases t with
 |leaf w=>rw[bG]at ok;exact .inl ⟨by rw[bT,brT],by rw[brT];exact ok.1⟩
 |nd w ts=>
  rw[bG]at ok
  refine .inr ⟨w,ts,ok.1,λpost=>?_,by rw[bT,gA],λu hu=>⟨kL ok.2.2 u hu,by rw[bE];have:=oA hu;omega⟩,ok.2.1,by rw[bE];omega⟩
  rw[brT,aQ,aQ,aQ,e1,e2]
  simp only[g0,ϯ,ϸ]
  cases ts with
  |nil=>rw[brTs];rfl
  |cons t ts=>rw[oz]
theorem rG{H H1 H2:Hp}(h:∀b o,H b=none->H1 b=some o->H2 b=some o):ai (nw H H1) (nw H H2):=λb o e=>by
 unfold nw at e⊢
 cases hb:H b with
 |none=>rw[hb]at e;exact h b o hb e
 |some _=>rw[hb]at e;cases e
theorem rl{H H1 H2:Hp}(h:∀b,H1 b=none->H b=none):ai (nw H1 H2) (nw H H2):=λb o e=>by
 unfold nw at e⊢
 cases hb:H1 b with
 |none=>rw[hb]at e;rw[h b hb];exact e
 |some _=>rw[hb]at e;cases e
theorem mG{C a:Addr}{H1 H2:Hp}{x:Str}{p:Nat}(s:ar a H1 H2)(g:Sg C H2 a x p){b:Addr}(h:H2 b=none):H1 b=none:=by
 have n:b≠a:=λz=>by obtain⟨_,e⟩:=g;rw[z,e]at h;cases h
 cases e:H1 b with
 |none=>rfl
 |some o=>rw[s b o n e]at h;cases h
theorem yY(post:List Nat)(ts:List (Br)):Bh (rem post ts):=by
 cases ts with
 |nil=>exact .inr ⟨41,post,rfl,.inr rfl⟩
 |cons t ts=>exact .inr ⟨44,_,rfl,.inl rfl⟩
theorem iq{x:Str}{i:Nat}{u v:List Nat}(h:x.cps.toList.drop i=u++v):x.cps.toList.drop (i+u.length)=v:=by
 rw[<-List.drop_drop,h,List.drop_left' rfl]
theorem cG{x y:Str}{i:Nat}{u:List Nat}(hi:i<=x.length)(h:x.cps.toList.drop i=u):Txt.startswith3 x y (i:Int)=(u.take y.length==y.cps.toList):=by rw[kj hi,h]
theorem jZ:ao ["self","most","word","inner"] ["self","most"] (ah dj):=by trivial
theorem ud{f C g1 g2 g3:Addr}{fd d1 d2 d3:Η}{k0 n:Nat}(F:Fun K "branch" "Signs.branch" dj f fd)(T:Txt K mg)(cl:Cls K C)(m_next_word:pQ K C "next_word" g1)(F_next_word:aw P w K mg base CX0 k0 g1 d1 ["self"] (vK C))(b_next_word:bA K d1 ["self"] [])
  (m_met:pQ K C "met" g2) (F_met:aw P w K mg base CX0 k0 g2 d2 ["self","signs"] (xT C)) (b_met:bA K d2 ["self","signs"] []) (m_branch:pQ K C "branch" g3) (F_branch:aw P w K mg base CX0 k0 g3 d3 ["self","most"] (eA C n)) (b_branch:bA K d3 ["self","most"] []):aw P w K mg base CX0 (k0+1) f fd ["self","most"] (eA C (n+1)):=by
 have nd:=jZ.nd
 refine F.ok jZ (λvs H Q E h=>?_) (λcdv A outer s H vs Q E hr h=>?_)
 ·obtain⟨a,x,i,most,t,post,rfl,_⟩:=h
  rfl
 obtain⟨a,x,i,most,t,post,rfl,sg,lx,hi,hd,bh,ok,dm,mn,q⟩:=h
 refine⟨_,(@un _ _ _ (wbO (wbM 2 nd rfl (Ε rfl) (waL (wv 0 rfl) cl m_next_word F_next_word hr b_next_word .nil dH rfl) rfl ()) (wbO (wbI (wab (wbY (wbS av (wv 1 rfl) waC (af _)) (wbZ (wbT (wbV (waJ (wv 0 rfl) cl m_met F_met hr b_met .nil dH (wae waV waf rfl) rfl rfl rfl) ()))))) (wbQ (wbK (waX (wae (wv 2 rfl) (wae waN waf rfl) rfl)))) wbP) (wbO (wbM 3 nd rfl (Ε rfl) (waM waf) rfl ()) (wbO (wbI (wbT (wbV (waJ (wv 0 rfl) cl m_met F_met hr b_met .nil dH (wae waV waf rfl) rfl rfl rfl) ())) (wbO (wbG (waj Ω Ϡ ϡ bt (wv 3 rfl) (wae (waJ (wv 0 rfl) cl m_branch F_branch hr b_branch .nil dH (wae (waQ bV (wv 1 rfl) waC) waf rfl) rfl rfl rfl) waf rfl) rfl rfl rfl rfl rfl) rfl) (wbO (wbN ϫ (wbV (waJ (wv 0 rfl) cl m_met F_met hr b_met .nil dH (wae waV waf rfl) rfl rfl rfl) ()) (wbQ (wbG (waj Ω Ϡ ϡ bt (wv 3 rfl) (wae (waJ (wv 0 rfl) cl m_branch F_branch hr b_branch .nil dH (wae (waQ bV (wv 1 rfl) waC) waf rfl) rfl rfl rfl) waf rfl) rfl rfl rfl rfl rfl) rfl))) (wbQ (wbG (waJ (wv 0 rfl) cl m_met F_met hr b_met .nil dH (wae waV waf rfl) rfl rfl rfl) rfl)))) wbP) (wbQ (wbK (waX (wae (wv 2 rfl) (wae (wv 3 rfl) waf rfl) rfl))))))))),?_⟩
 dsimp only[bo,Cx.nox]
 obtain⟨dx,ha⟩:=sg
 have nN:∀(y:Str)(p:Int),ϩ (γ "next_word") [(γ "text",V.str y),(γ "at",V.int p)]=none:=qS () ()
 have nM:∀(y:Str)(p:Int),ϩ (γ "met") [(γ "text",V.str y),(γ "at",V.int p)]=none:=qS () ()
 have nB:∀(y:Str)(p:Int),ϩ (γ "branch") [(γ "text",V.str y),(γ "at",V.int p)]=none:=qS () ()
 have e40:(γ "(").cps.toList=[40]:=by decide +kernel
 have e41:(γ ")").cps.toList=[41]:=by decide +kernel
 have e44:(γ ", ").cps.toList=[44,32]:=by decide +kernel
 rcases vz ok with ⟨ed,fr⟩|⟨w0,ts,N⟩
 ·obtain⟨w1,w2,w3,w4⟩:=kf hd hi fr (xv bh)
  refine⟨_,rfl,a,dx,_,rfl,ha,nN _ _,a,x,i,i+(brT t).length,rfl,⟨dx,ha⟩,lx,w1,w2,w3,w4,λH1 s1 sg1=>?_⟩
  rw[oF hd hi]
  obtain⟨dx1,ha1⟩:=id sg1
  refine gnm ?_
  have done:∀t0,H1 t0=none->Q (.ref t0) (upd H1 t0 (.tup [.str (brT t),.non])):=λt0 h0=>by
   have n1:t0≠a:=λz=>by rw[z,ha1]at h0;cases h0
   have h00:H t0=none:=by
    cases e:H t0 with
    |none=>rfl
    |some o=>rw[s1 t0 o n1 e]at h0;cases h0
   refine q _ _ (s1.trans (ai.b a (ac h0 _))) ⟨dx1,ac h0 _ _ _ ha1⟩ ?_
   rw[ed]
   unfold eS
   rw[Rep]
   refine⟨t0,[.str (brT t),.non],rfl,?_,by simp only[Reps];exact⟨_,_,rfl,by simp only[Rep],_,_,rfl,by simp only[Rep],rfl⟩⟩
   unfold nw
   rw[h00];exact aa
  refine⟨_,rfl,rfl,_,rfl,ap (λ_=>aF ⟨_,rfl,z2,done⟩) (λ_=>?_)⟩
  refine⟨_,rfl,a,dx1,_,rfl,ha1,nM _ _,a,x,γ "(",i+(brT t).length,rfl,sg1,(),λ_=>⟨_,rfl,aF ⟨_,rfl,z2,done⟩⟩,λe=>absurd e (by rw[xy hd hi bh];decide)⟩
 ·have hx:x.cps.toList.drop i=w0.cps.toList++40::inn post ts:=by rw[hd,N.tx]
  obtain⟨w1,w2,w3,w4⟩:=kf hx hi N.fr (.inr ⟨40,_,rfl,rfl⟩)
  have hx1:x.cps.toList.drop (i+w0.length)=40::inn post ts:=by
   rw[show w0.length=w0.cps.toList.length from(Λ).symm];exact iq hx
  have hx2:x.cps.toList.drop (i+w0.length+1)=inn post ts:=iq (u:=[40]) hx1
  have d1:=N.dp
  have lt1:i+w0.length<x.length:=by
   have:=congrArg o9 hx1
   rw[ϭ,ω,Λ]at this
   have e1:x.length=x.cps.size:=rfl
   omega
  refine⟨_,rfl,a,dx,_,rfl,ha,nN _ _,a,x,i,i+w0.length,rfl,⟨dx,ha⟩,lx,w1,w2,w3,w4,λH1 s1 sg1=>?_⟩
  rw[oF hx hi]
  obtain⟨dx1,ha1⟩:=id sg1
  refine gnm ?_
  refine⟨_,rfl,rfl,_,rfl,ap (λh=>absurd (Q7 h) (λz=>by injection z with z;omega)) (λ_=>?_)⟩
  have so:Txt.startswith3 x (γ "(") ((i+w0.length:Nat):Int)=true:=by rw[cG () hx1,e40,lb3];rfl
  refine⟨_,rfl,a,dx1,_,rfl,ha1,nM _ _,a,x,γ "(",i+w0.length,rfl,sg1,(),λe=>absurd e (by rw[so];decide),λ_ H2 s2 sg2=>⟨_,rfl,aG ?_⟩⟩
  rw[lb3]at sg2
  refine tnx ?_
  dsimp only
  refine⟨Υ _,λl hl=>?_⟩
  refine gnm ?_
  dsimp only
  obtain⟨dx2,ha2⟩:=id sg2
  have s02:=s1.trans s2
  have la:l≠a:=λz=>by rw[z,ha2]at hl;cases hl
  have old:∀b,H2 b=none->b≠a->H b=none:=λb hb hba=>by
   cases e:H b with
   |none=>rfl
   |some o=>rw[s02 b o hba e]at hb;cases hb
  have hl0:H l=none:=old l hl la
  have s3:=ac hl (.lst [])
  have l3:upd H2 l (.lst []) l=some (.lst []):=aa
  have o3:∀b,upd H2 l (.lst []) b=none->H b=none:=λb hb=>by
   have h1:b≠l:=λz=>by rw[z,aa]at hb;cases hb
   rw[aq h1]at hb
   exact old b hb (λz=>by rw[z,ha2]at hb;cases hb)
  have ha3:=s3 _ _ ha2
  generalize upd H2 l (.lst [])=H3 at s3 l3 o3 ha3⊢
  have s03:=s02.trans (ai.b a s3)
  have ex:x.length=x.cps.size:=rfl
  have dl:∀{p:Nat}{u:List Nat},p<=x.length->x.cps.toList.drop p=u->p+u.length=x.length:=λ{p u} hp e=>by
   have:=congrArg o9 e
   rw[ϭ,Λ]at this
   omega
  have rd:∀(u:Br)(rest:List (Br))(H4:Hp)(us:List V)(p:Nat)(dxx:Addr)(Z:V->Hp->Prop),u∈ts->H4 a=some (.ins C dxx [(γ "text",.str x),(γ "at",.int (p:Int))])->p<=x.length->x.cps.toList.drop p=(brT u).cps.toList++rem post rest->H4 l=some (.lst us)->us.length<=8 ->
    (∀H5 v5 q5,ar a H4 H5->Sg C H5 a x q5->q5<=x.length->x.cps.toList.drop q5=rem post rest->Rep (nw H4 H5) (bT u) v5->Z .non (upd H5 l (.lst (us++[v5])))) ->
    eA C n [.ref a,.int (most-1)] H4 (λv H5=>rE (.ref l) [v] H5 Z) E0:=λu rest H4 us p dxx Z hu h4 hp hdp hl4 lus k=>by
   obtain⟨ou,du⟩:=N.ok u hu
   refine⟨a,x,p,most-1,u,rem post rest,rfl,⟨dxx,h4⟩,lx,hp,hdp,yY _ _,ou,(),(),λH5 v5 s5 sg5 R5=>?_⟩
   have hq:=dl hp hdp
   rw[Ζ,Λ]at hq
   have eb:(brT u).length=(brT u).cps.size:=rfl
   refine⟨l,us,v5,rfl,rfl,s5 _ _ la hl4,by rw[ι];omega,k H5 v5 _ s5 sg5 () ?_ R5⟩
   rw[show(brT u).length=(brT u).cps.toList.length from(Λ).symm]
   exact iq hdp
  have wl:∀{H':Hp}{o:HO},ar a H H'->ar a H (upd H' l o):=λ{H' o} s' b ob hb e=>by rw[aq (aj e hl0)];exact s' b ob hb e
  have sgl:∀{H':Hp}{o:HO}{p:Nat},Sg C H' a x p->Sg C (upd H' l o) a x p:=λ{H' o p} ⟨d,e⟩=>⟨d,by rw[aq (ϒ la)];exact e⟩
  have nwl:∀{H':Hp}{o:HO},ai (nw H3 H') (nw H3 (upd H' l o)):=λ{H' o}=>rG λb ob hb e=>by rw[aq (λz=>by rw[z,l3]at hb;cases hb)];exact e
  have unl:∀{H':Hp}{o:HO}{b:Addr},upd H' l o b=none->H' b=none:=λ{H' o b} hb=>by
   have h1:b≠l:=λz=>by rw[z,aa]at hb;cases hb
   rwa[aq h1]at hb
  have fin:∀(H6:Hp)(us:List V)(p:Nat),ar a H H6->Sg C H6 a x (p+1)->p<=x.length->x.cps.toList.drop p=41::post->H6 l=some (.lst us)->Reps (nw H3 H6) (ts.map bT) us->∀t0,H6 t0=none->Q (.ref t0) (upd H6 t0 (.tup [.str w0,.ref l])):=λH6 us p s6 sg6 hp5 hd5' l6 R6 t0 h0=>by
   obtain⟨dx6,ha6⟩:=id sg6
   have t0a:t0≠a:=λz=>by rw[z,ha6]at h0;cases h0
   have h00:H t0=none:=by
    cases e:H t0 with
    |none=>rfl
    |some o=>rw[s6 t0 o t0a e]at h0;cases h0
   have s7:=ac h0 (.tup [.str w0,.ref l])
   have h1:=dl hp5 hd5'
   have h2:=dl hi hd
   rw[Ζ,Λ]at h2
   rw[ω]at h1
   have eb:(brT t).length=(brT t).cps.size:=rfl
   have ep:p+1=i+(brT t).length:=by omega
   refine q _ _ (s6.trans (ai.b a s7)) ⟨dx6,by rw[<-ep];exact s7 _ _ ha6⟩ ?_
   have R7:Reps (nw H (upd H6 t0 (.tup [.str w0,.ref l]))) (ts.map bT) us:=(R6.mono (rl o3)).mono (rG λb ob hb e=>s7 _ _ e)
   rw[N.dv,Rep]
   refine⟨t0,[.str w0,.ref l],rfl,?_,?_⟩
   ·unfold nw;rw[h00];exact aa
   ·simp only[Reps]
    refine⟨_,_,rfl,by simp only[Rep],_,_,rfl,?_,rfl⟩
    rw[Rep]
    exact⟨l,us,rfl,by unfold nw;rw[hl0];exact s7 _ _ l6,R7⟩
  cases ts with
  |nil=>
   have hd3:x.cps.toList.drop (i+w0.length+1)=41::post:=hx2
   have y2:Txt.startswith3 x (γ ")") ((i+w0.length+1:Nat):Int)=true:=by rw[cG () hd3,e41,lb4];rfl
   refine⟨_,rfl,a,dx2,_,rfl,ha3,nM _ _,a,x,γ ")",i+w0.length+1,rfl,⟨dx2,ha3⟩,(),λe=>absurd e (by rw[y2];decide),λ_ H6 s6 sg6=>⟨_,rfl,aG ?_⟩⟩
   rw[lb4]at sg6
   refine tnx ?_
   dsimp only
   exact⟨_,rfl,_,rfl,z2,fin H6 [] _ (s03.trans s6) sg6 () hd3 (s6 _ _ la l3) (by simp only[o_,Reps])⟩
  |cons t1 ts=>
   have nc:Txt.startswith3 x (γ ")") ((i+w0.length+1:Nat):Int)=false:=by
    obtain⟨d,r,e,ne⟩:=wQ (N.ok t1 ξ).1
    rw[cG () hx2,e41,lb4,inn,e]
    show([d]==[41])=false
    rw[beq_eq_false_iff_ne]
    intro z;injection z with z _;exact ne z
   refine⟨_,rfl,a,dx2,_,rfl,ha3,nM _ _,a,x,γ ")",i+w0.length+1,rfl,⟨dx2,ha3⟩,(),λ_=>⟨_,rfl,aF ?_⟩,λe=>absurd e (by rw[nc];decide)⟩
   refine⟨_,rfl,.inl ⟨rfl,_,SqL.of l3⟩,_,rfl,a,dx2,_,rfl,ha3,nB _ _,_,rfl,_,_,rfl,rfl,?_⟩
   dsimp only[nt,ϸ,ϯ,ϙ,mT]
   refine rd t1 ts H3 [] (i+w0.length+1) dx2 _ ξ ha3 () hx2 l3 (Υ _) λH4 v4 p4 s4 sg4 hp4 hd4 R4=>?_
   refine⟨λm σ H'=>∃(dn rest:List (Br)) (us:List V) (p:Nat),t1::ts=dn++rest/\m=rest.length/\σ=[some (.ref a),some (.int most),some (.str w0),some (.ref l)]/\ar a H H'/\Sg C H' a x p/\p<=x.length/\x.cps.toList.drop p=rem post rest/\H' l=some (.lst us)/\Reps (nw H3 H') (dn.map bT) us/\∀b,H' b=none->H3 b=none,⟨_,[t1],ts,[v4],p4,rfl,rfl,rfl,wl (s03.trans s4),sgl sg4,hp4,hd4,aa,(be R4).mono nwl,λb hb=>mG s4 sg4 (unl hb)⟩,?_⟩
   rintro m σ H5 ⟨dn,rest,us,p,et,rfl,rfl,s5,sg5,hp5,hd5,l5,R5,k5⟩
   have le:=N.le
   rw[ω]at le
   have lus:us.length+rest.length<=8:=by
    have:=R5.length
    rw[η]at this
    have e2:=congrArg o9 et
    rw[ω,Ζ]at e2
    omega
   obtain⟨dx5,ha5⟩:=id sg5
   cases rest with
   |nil=>
    have hd5':x.cps.toList.drop p=41::post:=hd5
    have n2:Txt.startswith3 x (γ ", ") (p:Int)=false:=by
     rw[cG hp5 hd5',e44,eP,beq_eq_false_iff_ne]
     intro z;rw[List.take_succ_cons]at z;injection z with z _;exact absurd z ()
    have y2:Txt.startswith3 x (γ ")") (p:Int)=true:=by rw[cG hp5 hd5',e41,lb4];rfl
    refine⟨_,rfl,a,dx5,_,rfl,ha5,nM _ _,a,x,γ ", ",p,rfl,sg5,(),λ_=>⟨_,rfl,aG ?_⟩,λe=>absurd e (by rw[n2];decide)⟩
    refine⟨_,rfl,a,dx5,_,rfl,ha5,nM _ _,a,x,γ ")",p,rfl,sg5,(),λe=>absurd e (by rw[y2];decide),λ_ H6 s6 sg6=>?_⟩
    rw[lb4]at sg6
    refine⟨_,rfl,_,rfl,z2,fin H6 us p (s5.trans s6) sg6 hp5 hd5' (s6 _ _ la l5) ?_⟩
    rw[ϙ]at et
    rw[et]
    exact R5.mono (rG λb ob hb e=>s6 b ob (λz=>by rw[z,ha3]at hb;cases hb) e)
   |cons u rest=>
    have hd5':x.cps.toList.drop p=[44,32]++((brT u).cps.toList++rem post rest):=hd5
    have y2:Txt.startswith3 x (γ ", ") (p:Int)=true:=by rw[cG hp5 hd5',e44,eP];rfl
    refine⟨_,rfl,a,dx5,_,rfl,ha5,nM _ _,a,x,γ ", ",p,rfl,sg5,(),λe=>absurd e (by rw[y2];decide),λ_ H6 s6 sg6=>⟨_,rfl,aF ?_⟩⟩
    rw[eP]at sg6
    obtain⟨dx6,ha6⟩:=id sg6
    have l6:=s6 _ _ la l5
    have um:u∈t1::ts:=by rw[et];exact ό _ ξ
    have hd6:x.cps.toList.drop (p+2)=(brT u).cps.toList++rem post rest:=iq hd5'
    have hp6:p+2<=x.length:=by
     have:=dl hp5 hd5'
     rw[Ζ]at this
     simp only[ω,h_]at this
     omega
    refine⟨λσ' H'=>∃(dn' rest':List (Br)) (us':List V) (p':Nat),t1::ts=dn'++rest'/\rest'.length<(u::rest).length/\σ'=[some (.ref a),some (.int most),some (.str w0),some (.ref l)]/\ar a H H'/\Sg C H' a x p'/\p'<=x.length/\x.cps.toList.drop p'=rem post rest'/\H' l=some (.lst us')/\Reps (nw H3 H') (dn'.map bT) us'/\∀b,H' b=none->H3 b=none,λσ' H' ⟨dn',rest',us',p',h1,h2,h3,h4,h5,h6,h7,h8,h9⟩=>⟨rest'.length,h2,dn',rest',us',p',h1,rfl,h3,h4,h5,h6,h7,h8,h9⟩,?_⟩
    rw[ω]at lus
    refine⟨_,rfl,.inl ⟨rfl,_,SqL.of l6⟩,_,rfl,a,dx6,_,rfl,ha6,nB _ _,_,rfl,_,_,rfl,rfl,?_⟩
    dsimp only[nt,ϸ,ϯ,ϙ,mT]
    refine rd u rest H6 us (p+2) dx6 _ um ha6 hp6 hd6 l6 () λH7 v7 p7 s7 sg7 hp7 hd7 R7=>?_
    have keep:∀b,H6 b=none->H3 b=none:=λb hb=>k5 b (mG s6 sg6 hb)
    refine⟨dn++[u],rest,us++[v7],p7,by rw[et,g0];rfl,by rw[ω];omega,rfl,wl ((s5.trans s6).trans s7),sgl sg7,hp7,hd7,aa,?_,λb hb=>keep b (mG s7 sg7 (unl hb))⟩
    rw[Ι]
    refine Reps.append ((R5.mono (rG λb ob hb e=>s7 b ob (λz=>by rw[z,ha3]at hb;cases hb) (s6 b ob (λz=>by rw[z,ha3]at hb;cases hb) e))).mono nwl) (be ((R7.mono (rl keep)).mono nwl))
def cz:Kd->Br
 |.whole=>.leaf (γ "whole")
 |.place c ps=>.nd (γ "place") [.leaf (bY c ps)]
 |.row c ps k=>.nd (γ "row") [.leaf (bY c ps),cz k]
 |.pair a b=>.nd (γ "pair") [cz a,cz b]
theorem eZ:∀k,brT (cz k)=kdT k
 |.whole=>by rw[cz,brT,kdT]
 |.place c ps=>by rw[cz,brT,kdT,brTs,brTs,brT]
 |.row c ps k=>by rw[cz,brT,kdT,brTs,brTs,brTs,brT,eZ k]
 |.pair a b=>by rw[cz,brT,kdT,brTs,brTs,brTs,eZ a,eZ b]
theorem kT:∀k,bT (cz k)=brD k
 |.whole=>by rw[cz,bT,brD]
 |.place c ps=>by rw[cz,bT,brD,brDvs,brDvs,bT]
 |.row c ps k=>by rw[cz,bT,brD,brDvs,brDvs,brDvs,bT,kT k]
 |.pair a b=>by rw[cz,bT,brD,brDvs,brDvs,brDvs,kT a,kT b]
theorem ib:∀k,bE (cz k)<=k.size
 |.whole=>by rw[cz,bE];exact Υ _
 |.place c ps=>by rw[cz,bE,brDps,brDps,bE];exact π _
 |.row c ps k=>by
  rw[cz,bE,brDps,brDps,brDps,bE]
  have:=ib k
  show _<=k.size+1
  omega
 |.pair a b=>by
  rw[cz,bE,brDps,brDps,brDps]
  have:=ib a
  have:=ib b
  show _<=a.size+b.size+1
  omega
def Sm(c:Int)(ps:List Pr):Prop:=Wa c ps/\SL c ps
theorem bS{p q:Int->List Pr->Prop}(h:∀c ps,p c ps->q c ps):∀{k:Kd},k.All p->k.All q
 |.whole,_=>trivial
 |.place _ _,a=>h _ _ a
 |.row _ _ _,a=>⟨h _ _ a.1,bS h a.2⟩
 |.pair _ _,a=>⟨bS h a.1,bS h a.2⟩
theorem fK{x:Str}(h:nmB x=true):∀c∈x.cps.toList,bC c=false:=λc hc=>mv ((jB h).2.2 c hc)
theorem ji{c:Int}{ps:List Pr}(wa:Wa c ps):bG (.leaf (bY c ps)):=by
 rw[bG]
 refine⟨kG wa,?_⟩
 obtain⟨d,r,e,_⟩:=sZ wa
 have:=congrArg o9 e
 rw[Λ,ω]at this
 omega
theorem iu{x:Str}(h:nmB x=true):bG (.leaf x):=by rw[bG];exact⟨fK h,(aY h).1⟩
theorem ij:∀{k:Kd},k.All Wa->bG (cz k)
 |.whole,_=>iu ()
 |.place c ps,h=>by rw[cz,bG];exact⟨fK (),(),by rw[brOks,brOks];exact⟨ji h,trivial⟩⟩
 |.row c ps k,h=>by rw[cz,bG];exact⟨fK (),(),by rw[brOks,brOks,brOks];exact⟨ji h.1,ij h.2,trivial⟩⟩
 |.pair a b,h=>by rw[cz,bG];exact⟨fK (),(),by rw[brOks,brOks,brOks];exact⟨ij h.1,ij h.2,trivial⟩⟩
def Ag(R:Dv->Br->Prop):So->Dv->Br->Prop
 |.e,d,b=>R d b
 |.l,d,b=>∃c ps,d=bz c ps/\b=.leaf (bY c ps)/\Sm c ps
 |.k,d,b=>∃k:Kd,d=k.dv/\b=cz k/\k.All Sm/\k.size<=6
 |.x,d,b=>∃y,d=.str y/\b=.leaf y/\nmB y=true
 |.y,d,b=>∃y,d=.str y/\b=.leaf y/\nmB y=true
 |_,_,_=>False
inductive Ags (R:Dv->Br->Prop):List So->List Dv->List Br->Prop
 |nil:Ags R [] [] []
 |cons {s:So} {d:Dv} {b:Br} {ss:List So} {ds:List Dv} {bs:List Br}:Ag R s d b->Ags R ss ds bs->Ags R (s::ss) (d::ds) (b::bs)
inductive Als (R:Dv->Br->Prop):List Dv->List Br->Prop
 |nil:Als R [] []
 |cons {d:Dv} {b:Br} {ds:List Dv} {bs:List Br}:R d b->Als R ds bs->Als R (d::ds) (b::bs)
def frm(x:Str):Bool:=decide (x≠"number")&&(decide (x≠"name")&&(decide (x≠"call")&&(decide (x≠"reckon")&&decide (x≠"row"))))
def gZ:Wd:=("call","fa",[.f,.a])
def iE:Wd:=("reckon","wee",[.w,.e,.e])
def oZ:Wd:=("row","r",[.r])
def xw:Wd:=("number","n",[.n])
def wZ:Wd:=("name","x",[.x])
theorem in5:gZ∈WT/\iE∈WT/\oZ∈WT/\xw∈WT/\wZ∈WT:=by decide +kernel
def Wx:Nat->Dv->Br->Prop
 |0,_,_=>False
 |n+1,d,b=>
  (∃i:Int,0<=i/\i<10^12/\d=.tup [.str (γ "number"),.int i]/\b=.leaf (aV i)) \/
  (∃y,nmB y=true/\d=.tup [.str (γ "name"),.str y]/\b=.leaf y) \/
  (∃f ds bs,nmB f=true/\cv f=false/\ca f=false/\ds.length<=4/\Als (Wx n) ds bs/\d=.tup [.str (γ "call"),.str f,.tup ds]/\b=.nd f bs) \/
  (∃r d1 d2 b1 b2,ca r=true/\Wx n d1 b1/\Wx n d2 b2/\d=.tup [.str (γ "reckon"),.str r,d1,d2]/\b=.nd r [b1,b2]) \/
  (∃ds bs,1<=ds.length/\ds.length<=4/\Als (Wx n) ds bs/\d=.tup [.str (γ "row"),.tup ds]/\b=.nd (γ "row") bs) \/
  (∃p ds bs,p∈WT/\frm p.1=true/\Ags (Wx n) p.2.2 ds bs/\(p.1≠"fold"\/jg ds=true)/\d=.tup (.str p.1::ds)/\b=.nd p.1 bs)
theorem Als.len{R:Dv->Br->Prop}{ds:List Dv}{bs:List Br}(h:Als R ds bs):bs.length=ds.length:=by
 induction h with
 |nil=>rfl
 |cons _ _ ih=>rw[ω,ω,ih]
theorem Als.mem{R:Dv->Br->Prop}{ds:List Dv}{bs:List Br}(h:Als R ds bs):(∀d∈ds,∃b∈bs,R d b)/\∀b∈bs,∃d∈ds,R d b:=by
 induction h with
 |nil=>exact⟨nofun,nofun⟩
 |cons a _ ih=>
  refine⟨λd hd=>?_,λb hb=>?_⟩
  ·rcases ν.mp hd with rfl|hd
   ·exact⟨_,ξ,a⟩
   ·obtain⟨b,hb,r⟩:=ih.1 d hd
    exact⟨b,χ _ hb,r⟩
  ·rcases ν.mp hb with rfl|hb
   ·exact⟨_,ξ,a⟩
   ·obtain⟨d,hd,r⟩:=ih.2 b hb
    exact⟨d,χ _ hd,r⟩
theorem Ags.len{R:Dv->Br->Prop}{ss:List So}{ds:List Dv}{bs:List Br}(h:Ags R ss ds bs):bs.length=ss.length/\ds.length=ss.length:=by
 induction h with
 |nil=>exact⟨rfl,rfl⟩
 |cons _ _ ih=>exact⟨by rw[ω,ω,ih.1],by rw[ω,ω,ih.2]⟩
theorem rf:∀p∈WT,nmB p.1=true:=by decide +kernel
theorem fR:∀r∈mO,nmB r=true/\cv r=false:=by decide +kernel
theorem dq{r:Str}(h:ca r=true):r∈mO:=by
 unfold ca at h
 have:=a7.mp h
 obtain⟨v,hv,e⟩:=this
 obtain⟨y,hy,rfl⟩:=ϥ.mp hv
 have e2:y=r:=Q7 e
 rw[<-e2]
 exact hy
theorem Ap{n:Nat}{R:Dv->Br->Prop}(hR:∀d b,R d b->bG b/\bE b<=n+6):∀{s:So}{d:Dv}{b:Br},Ag R s d b->bG b/\bE b<=n+6
 |.e,_,_,h=>hR _ _ h
 |.l,_,_,h=>by obtain⟨c,ps,_,rfl,sm⟩:=h;exact⟨ji sm.1,by rw[bE];omega⟩
 |.k,_,_,h=>by obtain⟨k,_,rfl,kA,k6⟩:=h;have:=ib k;exact⟨ij (bS (λ_ _ h=>h.1) kA),()⟩
 |.x,_,_,h=>by obtain⟨y,_,rfl,hy⟩:=h;exact⟨iu hy,by rw[bE];omega⟩
 |.y,_,_,h=>by obtain⟨y,_,rfl,hy⟩:=h;exact⟨iu hy,by rw[bE];omega⟩
theorem yZ{n:Nat}{R:Dv->Br->Prop}(hR:∀d b,R d b->bG b/\bE b<=n+6){ss:List So}{ds:List Dv}{bs:List Br}(h:Ags R ss ds bs):∀b∈bs,bG b/\bE b<=n+6:=by
 induction h with
 |nil=>exact nofun
 |cons a _ ih=>
  intro b hb
  rcases ν.mp hb with rfl|hb
  ·exact Ap hR a
  ·exact ih b hb
theorem vQ{n:Nat}:∀{bs:List Br},(∀b∈bs,bE b<=n)->brDps bs<=n
 |[],_=>Υ _
 |b::bs,h=>by
  rw[brDps]
  have:=h b ξ
  have:=vQ λc hc=>h c (χ _ hc)
  omega
theorem rX{n:Nat}{w:Str}{bs:List Br}(hw:nmB w=true)(hl:bs.length<=8)(h:∀b∈bs,bG b/\bE b<=n+6):bG (.nd w bs)/\bE (.nd w bs)<=n+1+6:=by
 rw[bG,bE]
 have:=vQ λb hb=>(h b hb).2
 exact⟨⟨fK hw,hl,nI λb hb=>(h b hb).1⟩,()⟩
theorem ux{i:Int}(h0:0<=i)(h1:i<10^12):bG (.leaf (aV i)):=by
 have h2:i<10^60:=by omega
 obtain⟨a,b,c⟩:=dE (fV h0 h2).1
 rw[bG]
 exact⟨λc hc=>jD (a c hc),b⟩
theorem xS:∀{n:Nat}{d:Dv}{b:Br},Wx n d b->bG b/\bE b<=n+6
 |n+1,d,b,h=>by
  have hR:∀d b,Wx n d b->bG b/\bE b<=n+6:=λd b=>xS
  rw[Wx]at h
  rcases h with ⟨i,h0,h1,rfl,rfl⟩|⟨y,hy,rfl,rfl⟩|⟨f,ds,bs,hf,_,_,l4,ha,rfl,rfl⟩|⟨r,d1,d2,b1,b2,hr,w1,w2,rfl,rfl⟩|⟨ds,bs,l1,l4,ha,rfl,rfl⟩|⟨p,ds,bs,hp,_,ha,_,rfl,rfl⟩
  ·exact⟨ux h0 h1,by rw[bE];omega⟩
  ·exact⟨iu hy,by rw[bE];omega⟩
  ·exact rX hf (by rw[ha.len];omega) λb hb=>by obtain⟨d,_,r⟩:=ha.mem.2 b hb;exact hR d b r
  ·refine rX (fR r (dq hr)).1 () λb hb=>?_
   rcases ν.mp hb with rfl|hb
   ·exact hR _ _ w1
   ·rw[μ.mp hb];exact hR _ _ w2
  ·exact rX () (by rw[ha.len];omega) λb hb=>by obtain⟨d,_,r⟩:=ha.mem.2 b hb;exact hR d b r
  ·exact rX (rf p hp) (by rw[ha.len.1];have:=cj p hp;omega) (yZ hR ha)
theorem uI{R:Dv->Br->Prop}(hR:∀d b,R d b->d.small=true):∀{s:So}{d:Dv}{b:Br},Ag R s d b->sY s d=true/\d.small=true
 |.e,d,b,h=>⟨rfl,hR _ _ h⟩
 |.l,_,_,h=>by obtain⟨c,ps,rfl,_,sm⟩:=h;exact⟨sm.2.1,sm.2.2⟩
 |.k,_,_,h=>by
  obtain⟨k,rfl,_,kA,k6⟩:=h
  have a:=bS (q:=SL) (λ_ _ h=>h.2) kA
  exact⟨Q9 (by rw[hV a];omega),fG a⟩
 |.x,_,_,h=>by obtain⟨y,rfl,_,hy⟩:=h;exact⟨hy,Q9 (by have:=(aY hy).2;omega)⟩
 |.y,_,_,h=>by obtain⟨y,rfl,_,hy⟩:=h;exact⟨hy,Q9 (by have:=(aY hy).2;omega)⟩
theorem wc{R:Dv->Br->Prop}(hR:∀d b,R d b->d.small=true){ss:List So}{ds:List Dv}{bs:List Br}(h:Ags R ss ds bs):okF ss ds=true/\∀d∈ds,d.small=true:=by
 induction h with
 |nil=>exact⟨rfl,nofun⟩
 |cons a _ ih=>
  refine⟨by rw[okF,(uI hR a).1,ih.1];rfl,λd hd=>?_⟩
  rcases ν.mp hd with rfl|hd
  ·exact(uI hR a).2
  ·exact ih.2 d hd
theorem fO{x:Str}(h:nmB x=true):(Dv.str x).small=true:=Q9 (by have:=(aY h).2;omega)
theorem uA{ds:List Dv}{m:Int}(h:m<=ds.length)(h4:ds.length<=4):mU m (.tup ds)=true:=by
 show(decide (m<=(ds.length:Int))&&decide ((ds.length:Int)<=4))=true
 rw[Q9 h,Q9 ()];rfl
theorem cc{x:Str}{ds:List Dv}(hx:nmB x=true)(h:∀d∈ds,d.small=true)(hl:ds.length<=10):(Dv.tup (.str x::ds)).small=true:=
 cH (λd hd=>by
  rcases ν.mp hd with rfl|hd
  ·exact fO hx
  ·exact h d hd) (by rw[ω];omega)
theorem bQ:∀{n:Nat}{d:Dv}{b:Br},Wx n d b->dR d=true/\d.small=true
 |n+1,d,b,h=>by
  have hR:∀d b,Wx n d b->d.small=true:=λd b h=>(bQ h).2
  rw[Wx]at h
  rcases h with ⟨i,h0,h1,rfl,rfl⟩|⟨y,hy,rfl,rfl⟩|⟨f,ds,bs,hf,hw,hr,l4,ha,rfl,rfl⟩|⟨r,d1,d2,b1,b2,hr,w1,w2,rfl,rfl⟩|⟨ds,bs,l1,l4,ha,rfl,rfl⟩|⟨p,ds,bs,hp,_,ha,fo,rfl,rfl⟩
  ·have e:=ck (p:=xw) in5.2.2.2.1 [.int i]
   refine⟨e.trans ?_,cc () (λd hd=>by rw[μ.mp hd];rfl) ()⟩
   show((jj 1000000000000 (.int i)&&true)&&_)=true
   rw[show jj 1000000000000 (.int i)=true from by unfold jj;simp;omega]
   rw[show decide (xw.1≠γ "fold")=true from by decide +kernel]
   rfl
  ·have e:=ck (p:=wZ) in5.2.2.2.2 [.str y]
   refine⟨e.trans ?_,cc () (λd hd=>by rw[μ.mp hd];exact fO hy) ()⟩
   show((nmB y&&true)&&_)=true
   rw[hy]
   rw[show decide (wZ.1≠γ "fold")=true from by decide +kernel]
   rfl
  ·have e:=ck (p:=gZ) in5.1 [.str f,.tup ds]
   have sm:∀d∈ds,d.small=true:=λd hd=>by obtain⟨b,_,r⟩:=ha.mem.1 d hd;exact hR d b r
   refine⟨e.trans ?_,cc () (λd hd=>?_) ()⟩
   ·show((tS (.str f)&&(mU 0 (.tup ds)&&true))&&_)=true
    rw[uA () l4,show tS (.str f)=true from by unfold tS;simp[hf,hw,hr]]
    rw[show decide (gZ.1≠γ "fold")=true from by decide +kernel]
    rfl
   ·rcases ν.mp hd with rfl|hd
    ·exact fO hf
    ·rw[μ.mp hd];exact cH sm ()
  ·have e:=ck (p:=iE) in5.2.1 [.str r,d1,d2]
   refine⟨e.trans ?_,cc () (λd hd=>?_) ()⟩
   ·show((uY (.str r)&&(true&&(true&&true)))&&_)=true
    rw[show uY (.str r)=true from hr]
    rw[show decide (iE.1≠γ "fold")=true from by decide +kernel]
    rfl
   ·rcases ν.mp hd with rfl|hd
    ·exact fO (fR r (dq hr)).1
    ·rcases ν.mp hd with rfl|hd
     ·exact hR _ _ w1
     ·rw[μ.mp hd];exact hR _ _ w2
  ·have e:=ck (p:=oZ) in5.2.2.1 [.tup ds]
   have sm:∀d∈ds,d.small=true:=λd hd=>by obtain⟨b,_,r⟩:=ha.mem.1 d hd;exact hR d b r
   refine⟨e.trans ?_,cc () (λd hd=>by rw[μ.mp hd];exact cH sm ()) ()⟩
   show((mU 1 (.tup ds)&&true)&&_)=true
   rw[uA () l4]
   rw[show decide (oZ.1≠γ "fold")=true from by decide +kernel]
   rfl
  ·obtain⟨h1,h2⟩:=wc hR ha
   refine⟨(ck hp ds).trans ?_,cc (rf p hp) h2 (by rw[ha.len.2];have:=cj p hp;omega)⟩
   rw[h1]
   rcases fo with fo|fo
   ·rw[Q9 fo];rfl
   ·rw[fo,Bool.or_true];rfl
def bl(b:Br):Nat:=(brT b).length
def wgt:So->Nat
 |.l=>1540
 |.k=>10200
 |.x=>8
 |.y=>8
 |_=>0
theorem yi:∀p∈WT,(p.2.2.map wgt).sum<=10200/\p.1.length<=8:=by decide +kernel
theorem lG(w:Str)(bs:List Br):bl (.nd w bs)<=w.length+2+(bs.map bl).sum+bs.length*2:=by
 show(brT (.nd w bs)).length<=w.length+2+(bs.map bl).sum+bs.length*2
 rw[brT,Γ,Γ,Γ,lb3,lb4,dM]
 have:=eu (γ ", ") (bs.map brT)
 rw[eP,η,Ξ]at this
 have e:((λx:Str=>x.length)∘brT)=bl:=rfl
 rw[e]at this
 omega
theorem rS(s:Str):∀ys:List Str,(ys.map (·.length)).sum<=(a9 s ys).length
 |[]=>Υ _
 |[a]=>by rw[bc];simp
 |a::b::r=>by
  have ih:=rS s (b::r)
  rw[bb,Γ,Γ]
  simp only[Ο,l7]at ih⊢
  omega
theorem oV(w:Str)(bs:List Br):(bs.map bl).sum<=bl (.nd w bs):=by
 show(bs.map bl).sum<=(brT (.nd w bs)).length
 rw[brT,Γ,Γ,Γ,dM]
 have:=rS (γ ", ") (bs.map brT)
 rw[Ξ]at this
 have e:((λx:Str=>x.length)∘brT)=bl:=rfl
 rw[e]at this
 omega
theorem nX{bs:List Br}{b:Br}(h:b∈bs):bl b<=(bs.map bl).sum:=wS (j8 h)
theorem zg{n:Nat}{R:Dv->Br->Prop}(hR:∀d b,R d b->bl b<=12000*exN n d):∀{s:So}{d:Dv}{b:Br},Ag R s d b->bl b<=wgt s+12000*((ptD s d).map (exN n)).sum
 |.e,d,b,h=>by have:=hR _ _ h;show bl b<=0+12000*(exN n d+0);omega
 |.l,_,_,h=>by obtain⟨c,ps,_,rfl,sm⟩:=h;have:=bR sm.1.1;unfold bl;rw[brT];show _<=1540+_;omega
 |.k,_,_,h=>by
  obtain⟨k,_,rfl,kA,k6⟩:=h
  have:=br (bS (q:=Wr) (λ_ _ h=>h.1.1) kA)
  unfold bl
  rw[eZ]
  show _<=10200+_
  omega
 |.x,_,_,h=>by obtain⟨y,_,rfl,hy⟩:=h;have:=(aY hy).2;unfold bl;rw[brT];show y.cps.size<=8+_;omega
 |.y,_,_,h=>by obtain⟨y,_,rfl,hy⟩:=h;have:=(aY hy).2;unfold bl;rw[brT];show y.cps.size<=8+_;omega
theorem qM{n:Nat}{R:Dv->Br->Prop}(hR:∀d b,R d b->bl b<=12000*exN n d){ss:List So}{ds:List Dv}{bs:List Br}(h:Ags R ss ds bs):(bs.map bl).sum<=(ss.map wgt).sum+12000*((ba ss ds).map (exN n)).sum:=by
 induction h with
 |nil=>exact Υ _
 | @cons s d b ss ds bs a _ ih=>
  have:=zg hR a
  rw[show ba (s::ss) (d::ds)=ptD s d++ba ss ds from rfl,Ι,Bp]
  simp only[Ο,l7]
  omega
theorem rR{n:Nat}{R:Dv->Br->Prop}(hR:∀d b,R d b->bl b<=12000*exN n d){ds:List Dv}{bs:List Br}(h:Als R ds bs):(bs.map bl).sum<=12000*(ds.map (exN n)).sum:=by
 induction h with
 |nil=>exact Υ _
 | @cons d b ds bs a _ ih=>
  have:=hR _ _ a
  simp only[Ο,l7]
  omega
theorem dI{n:Nat}{p:Wd}(hp:p∈WT){ds:List Dv}(h:dR (.tup (.str p.1::ds))=true):exN (n+1) (.tup (.str p.1::ds))=1+((ba p.2.2 ds).map (exN n)).sum:=by
 rw[exN,Q5 h,parts_of hp]
theorem jx:∀{n:Nat}{d:Dv}{b:Br},Wx n d b->bl b<=12000*exN n d
 |n+1,d,b,h=>by
  have hR:∀d b,Wx n d b->bl b<=12000*exN n d:=λd b h=>jx h
  have hn:=(bQ h).1
  have c1:=rc (n+1) d
  rw[Wx]at h
  rcases h with ⟨i,h0,h1,rfl,rfl⟩|⟨y,hy,rfl,rfl⟩|⟨f,ds,bs,hf,hw,hr,l4,ha,rfl,rfl⟩|⟨r,d1,d2,b1,b2,hr,w1,w2,rfl,rfl⟩|⟨ds,bs,l1,l4,ha,rfl,rfl⟩|⟨p,ds,bs,hp,_,ha,fo,rfl,rfl⟩
  ·have:=cF (i:=i) h0 ()
   unfold bl;rw[brT];omega
  ·have e:y.length=y.cps.size:=rfl
   have:=(aY hy).2
   unfold bl;rw[brT];omega
  ·have e:=dI (n:=n) (p:=gZ) in5.1 hn
   have e2:ba gZ.2.2 [.str f,.tup ds]=ds:=by show []++(ds++[])=ds;rw[ϙ,ϸ]
   rw[e2]at e
   have h1:=lG f bs
   have h2:=rR hR ha
   have h3:=ha.len
   have h4:f.length=f.cps.size:=rfl
   have h5:=(aY hf).2
   show _<=12000*exN (n+1) (.tup (.str gZ.1::[.str f,.tup ds]))
   rw[e]
   omega
  ·have e:=dI (n:=n) (p:=iE) in5.2.1 hn
   have h1:=lG r [b1,b2]
   have h2:=hR _ _ w1
   have h3:=hR _ _ w2
   have h4:r.length=r.cps.size:=rfl
   have h5:=(aY (fR r (dq hr)).1).2
   have e2:((ba iE.2.2 [.str r,d1,d2]).map (exN n)).sum=exN n d1+(exN n d2+0):=rfl
   rw[e2]at e
   simp only[Ο,o_,l7,List.sum_nil,ω,h_]at h1
   show _<=12000*exN (n+1) (.tup (.str iE.1::[.str r,d1,d2]))
   rw[e]
   omega
  ·have e:=dI (n:=n) (p:=oZ) in5.2.2.1 hn
   have e2:ba oZ.2.2 [.tup ds]=ds:=by show ds++[]=ds;rw[ϙ]
   rw[e2]at e
   have h1:=lG (γ "row") bs
   have h2:=rR hR ha
   have h3:=ha.len
   have h4:(γ "row").length=3:=by decide +kernel
   show _<=12000*exN (n+1) (.tup (.str oZ.1::[.tup ds]))
   rw[e]
   omega
  ·have e:=dI (n:=n) hp hn
   have h1:=lG p.1 bs
   have h2:=qM hR ha
   have h3:=ha.len.1
   have h4:=cj p hp
   have h5:=yi p hp
   rw[e]
   omega
abbrev dc:Stmt:=top 37
abbrev eV:Stmt:=top 38
abbrev bW:Stmt:=top 39
theorem Als.get{R:Dv->Br->Prop}{ds:List Dv}{bs:List Br}(h:Als R ds bs):∀{i:Nat}{d:Dv},ds[i]?=some d->∃b,bs[i]?=some b/\R d b:=by
 induction h with
 |nil=>intro i d e;cases e
 |cons a _ ih=>
  intro i d e
  cases i with
  |zero=>cases e;exact⟨_,rfl,a⟩
  |succ i=>exact ih e
def bv(b:Br):V:=.str (brT b)
def ky(n:Nat):Sp:=λvs H Q _=>∃(v:V) (d:Dv) (b:Br),vs=[v]/\Rep H d v/\Wx n d b/\bl b<=1000000/\∀H',ai H H'->Q (bv b) H'
def xN(n:Nat):Sp:=λvs H Q _=>∃(a:Addr) (us:List V) (ds:List Dv) (bs:List Br),vs=[.ref a]/\H a=some (.tup us)/\Reps H ds us/\Als (Wx n) ds bs/\ds.length<=4/\(bs.map bl).sum<=1000000/\∀(H':Hp)(l:Addr),ai H H'->H l=none->H' l=some (.lst (bs.map bv))->Q (.ref l) H'
def xW(n:Nat):Sp:=λvs H Q _=>∃(s:So) (v:V) (d:Dv) (b:Br),vs=[.str (srt s),v]/\Rep H d v/\Ag (Wx n) s d b/\bl b<=1000000/\∀H',ai H H'->Q (bv b) H'
theorem gI:ao ["expressions"] ["expressions"] (ah eV):=by trivial
theorem oB{f:Addr}{fd:Η}{k n:Nat}(F:Fun K "show_all" "show_all" eV f fd)(T:Txt K mg)(Dshow_expression:Def P w K mg base k "show_expression" ["expression"] (ky n)):aw P w K mg base CX0 (k+1) f fd ["expressions"] (xN n):=by
 have nd:=gI.nd
 refine F.ok gI (λvs H Q E h=>?_) (λcdv A outer s H vs Q E hr h=>?_)
 ·obtain⟨a,us,ds,bs,rfl,_⟩:=h
  rfl
 obtain⟨a,us,ds,bs,rfl,ha,ru,al,l4,lb,q⟩:=h
 have hl:=ru.length
 have bl4:=al.len
 refine⟨_,(@un _ _ _ (wbQ (wbK (waE ["each"] [] (wbo (wv 0 rfl)) (.of rfl) rfl (λ_ _ _=>⟨pg_name (i:=0) (bp (l:=["each"]) (()) rfl) rfl (Ε rfl)⟩) (bf ()) (λ_ _ _=>wbx) (λ_ _ _=>(waq Dshow_expression hr rfl (wae (wv 0 rfl) waf rfl) () rfl rfl)) ())))),?_⟩
 refine⟨_,rfl,a,rfl,⟨us,SqT.of ha⟩,pL (xs:=us) (λi ys H'=>ai H H'/\ys=(bs.take i).map bv) ⟨ai.refl _,rfl⟩ (λi ys H' _ p=>SqT.of (p.1 _ _ ha)) ?_ ?_⟩
 ·rintro i ys H3 x hx ⟨s3,rfl⟩
  obtain⟨d,hd,Rd⟩:=ru.get hx
  obtain⟨b,hb,wx⟩:=al.get hd
  have:=nX (ϊ hb)
  refine bu ⟨_,rfl,x,d,b,rfl,Rd.mono s3,wx,(),λH4 s4=>⟨?_,s3.trans s4,?_⟩⟩
  ·rw[η,Χ,ι];omega
  ·rw[Ϣ,hb,Ι]
   rfl
 ·rintro ys H3 ⟨s3,rfl⟩ l hl'
  rw[show us.length=bs.length by omega,ϛ]
  exact q _ l (s3.trans (ac hl' _)) (by
   cases e:H l with
   |none=>rfl
   |some o=>rw[s3 l o e]at hl';cases hl') aa
theorem eh:ao ["sort","given"] ["sort","given"] (ah dc):=by trivial
theorem jy{f:Addr}{fd:Η}{k n:Nat}(F:Fun K "show_behind" "show_behind" dc f fd)(T:Txt K mg)(Dshow_length:Def P w K mg base k "show_length" ["a"] ki)(Dshow_kind:Def P w K mg base k "show_kind" ["kind"] (gJ 12))(Dshow_expression:Def P w K mg base k "show_expression" ["expression"] (ky n)):aw P w K mg base CX0 (k+1) f fd ["sort","given"] (xW n):=by
 have nd:=eh.nd
 refine F.ok eh (λvs H Q E h=>?_) (λcdv A outer s H vs Q E hr h=>?_)
 ·obtain⟨s,v,d,b,rfl,_⟩:=h
  rfl
 obtain⟨s,v,d,b,rfl,R,ag,lb,q⟩:=h
 refine⟨_,(@un _ _ _ (wbO (wbI (wbS av (wv 0 rfl) waV (af _)) (wbQ (wbK (waq Dshow_length hr rfl (wae (wv 1 rfl) waf rfl) () rfl rfl))) wbP) (wbO (wbI (wbS av (wv 0 rfl) waV (af _)) (wbQ (wbK (waq Dshow_kind hr rfl (wae (wv 1 rfl) waf rfl) () rfl rfl))) wbP) (wbO (wbI (wbS av (wv 0 rfl) waV (af _)) (wbQ (wbK (waq Dshow_expression hr rfl (wae (wv 1 rfl) waf rfl) () rfl rfl))) wbP) (wbQ (wbK (wv 1 rfl))))))),?_⟩
 refine⟨_,rfl,rfl,_,rfl,ap (λh=>?_) (λh=>?_)⟩
 ·cases(kQ s).mp (Q7 h)
  obtain⟨c,ps,rfl,rfl,sm⟩:=ag
  refine⟨_,rfl,v,c,ps,rfl,R,sm.1.1,λH1 s1=>?_⟩
  have:=q H1 s1
  unfold bv at this
  rwa[brT]at this
 have hl:s≠.l:=λz=>h (Q9 ((kQ s).mpr z))
 refine⟨_,rfl,rfl,_,rfl,ap (λh=>?_) (λh=>?_)⟩
 ·cases(kz s).mp (Q7 h)
  obtain⟨k,rfl,rfl,kA,k6⟩:=ag
  refine⟨_,rfl,v,k,rfl,R,(),(),bS (λ_ _ h=>h.1.1) kA,λH1 s1=>?_⟩
  have:=q H1 s1
  unfold bv at this
  rwa[eZ]at this
 have hk:s≠.k:=λz=>h (Q9 ((kz s).mpr z))
 refine⟨_,rfl,rfl,_,rfl,ap (λh=>?_) (λh=>?_)⟩
 ·cases(qN s).mp (Q7 h)
  exact⟨_,rfl,v,d,b,rfl,R,ag,lb,q⟩
 have he:s≠.e:=λz=>h (Q9 ((qN s).mpr z))
 have key:∃y,d=.str y/\b=.leaf y/\nmB y=true:=by
  cases s with
  |x=>exact ag
  |y=>exact ag
  |l=>exact absurd rfl hl
  |k=>exact absurd rfl hk
  |e=>exact absurd rfl he
  |n=>exact ag.elim
  |w=>exact ag.elim
  |f=>exact ag.elim
  |a=>exact ag.elim
  |r=>exact ag.elim
 obtain⟨y,rfl,rfl,hy⟩:=key
 obtain rfl:v=.str y:=R
 have:=q H (ai.refl _)
 unfold bv at this
 rw[brT]at this
 exact⟨_,rfl,this⟩
theorem Ags.get{R:Dv->Br->Prop}{ss:List So}{ds:List Dv}{bs:List Br}(h:Ags R ss ds bs):∀{i:Nat}{s:So}{d:Dv},ss[i]?=some s->ds[i]?=some d->∃b,bs[i]?=some b/\Ag R s d b:=by
 induction h with
 |nil=>intro i s d e;cases e
 |cons a _ ih=>
  intro i s d e e'
  cases i with
  |zero=>cases e;cases e';exact⟨_,rfl,a⟩
  |succ i=>exact ih e e'
theorem pK{x:Str}(h:frm x=true):x≠"number"/\x≠"name"/\x≠"call"/\x≠"reckon"/\x≠"row":=by
 unfold frm at h
 simp only[ψ,decide_eq_true_eq]at h
 exact h
theorem fwd{x y:Str}(h:x≠y){α:Prop}(e:decide (V.str x=V.str y)=true):α:=(h (V.str.inj (Q7 e))).elim
theorem rZ{z:Str}{l:Addr}{bs:List Br}{H:Hp}{Q:V->Hp->Prop}{E:XK}(hl:H l=some (.lst (bs.map bv)))(hz:nmB z=true)(h8:bs.length<=8)(lb:bl (.nd z bs)<=1000000)(q:Q (bv (.nd z bs)) H):lE [.str z,.ref l] H Q E:=by
 have h1:=oV z bs
 have h2:=(aY hz).2
 refine⟨z,l,bs.map brT,rfl,by rw[hl,Ξ];rfl,by show z.cps.size<=10;omega,?_,?_⟩
 ·rw[Ξ,η]
  show(bs.map bl).sum+_<=_
  omega
 ·have e:bv (.nd z bs)=.str (z++γ "(" ++ a9 (γ ", ") (bs.map brT)++γ ")"):=by
   unfold bv
   rw[brT,dM]
  rw[<-e]
  exact q
theorem cQ:ao ["expression","word"] ["expression"] (ah bW):=by trivial
theorem fb{f gS:Addr}{fd:Η}{k n:Nat}(F:Fun K "show_expression" "show_expression" bW f fd)(T:Txt K mg)(S:Shp P w K gS)(GS:mg "SHAPES"=some (.ref gS))(Din_brackets:Def P w K mg base k "in_brackets" ["word","texts"] lE)(Dshow_all:Def P w K mg base k "show_all" ["expressions"] (xN n))(Dshow_behind:Def P w K mg base k "show_behind" ["sort","given"] (xW n)):aw P w K mg base CX0 (k+1) f fd ["expression"] (ky (n+1)):=by
 have nd:=cQ.nd
 refine F.ok cQ (λvs H Q E h=>?_) (λcdv A outer s H vs Q E hr h=>?_)
 ·obtain⟨v,d,b,rfl,_⟩:=h
  rfl
 obtain⟨v,d,b,rfl,R,wx,lb,q⟩:=h
 obtain⟨kvs,FS,hS,hS2⟩:=S.ex
 refine⟨_,(@un _ _ _ (wbO (wbM 1 nd rfl (Ε rfl) (waD am (wv 0 rfl) waC (λ_ _=>rfl)) rfl ()) (wbO (wbI (wbS av (wv 1 rfl) waV (af _)) (wbQ (wbK (wam bL rfl T.str () (wae (waD am (wv 0 rfl) waC (λ_ _=>rfl)) waf rfl) () () rfl rfl))) wbP) (wbO (wbI (wbS av (wv 1 rfl) waV (af _)) (wbQ (wbK (waD am (wv 0 rfl) waC (λ_ _=>rfl)))) wbP) (wbO (wbI (wbS av (wv 1 rfl) waV (af _)) (wbQ (wbK (waq Din_brackets hr rfl (wae (waD am (wv 0 rfl) waC (λ_ _=>rfl)) (wae (waq Dshow_all hr rfl (wae (waD am (wv 0 rfl) waC (λ_ _=>rfl)) waf rfl) () rfl rfl) waf rfl) rfl) () rfl rfl))) wbP) (wbO (wbI (wbS av (wv 1 rfl) waV (af _)) (wbQ (wbK (waq Din_brackets hr rfl (wae (waD am (wv 0 rfl) waC (λ_ _=>rfl)) (wae (waq Dshow_all hr rfl (wae (waT eO (wv 0 rfl) (wbA waC) wbz) waf rfl) () rfl rfl) waf rfl) rfl) () rfl rfl))) wbP) (wbO (wbI (wbS av (wv 1 rfl) waV (af _)) (wbQ (wbK (waq Din_brackets hr rfl (wae waV (wae (waq Dshow_all hr rfl (wae (waD am (wv 0 rfl) waC (λ_ _=>rfl)) waf rfl) () rfl rfl) waf rfl) rfl) () rfl rfl))) wbP) (wbQ (wbK (waq Din_brackets hr rfl (wae (wv 1 rfl) (wae (waE (["sort","given"]) [] (wbs rfl T.zip (wae (wbu FS (waB (.ref gS) rfl GS rfl ()) (wv 1 rfl) (λ_ _=>rfl)) (wae (waT eO (wv 0 rfl) (wbA waC) wbz) waf rfl) rfl) rfl rfl) (.of rfl) rfl (λ_ _ _=>⟨pg_tup rfl (pgs_cons (pg_name (i:=0) (bp (l:=["sort","given"]) (()) rfl) rfl (Ε rfl)) (pgs_cons (pg_name (i:=1) (bp (l:=["sort","given"]) (()) rfl) rfl (Ε rfl)) pgs_nil))⟩) (iQ () ()) (λ_ _ _=>wbx) (λ_ _ _=>(waq Dshow_behind hr rfl (wae (wv 0 rfl) (wae (wv 1 rfl) waf rfl) rfl) () rfl rfl)) ()) waf rfl) rfl) () rfl rfl)))))))))),?_⟩
 dsimp only[bo,Cx.nox]
 rw[Wx]at wx
 rcases wx with ⟨i,h0,h1,rfl,rfl⟩|⟨y,hy,rfl,rfl⟩|⟨f,ds,bs,hf,hw,hr',l4,ha,rfl,rfl⟩|⟨r,d1,d2,b1,b2,hr',w1,w2,rfl,rfl⟩|⟨ds,bs,l1,l4,ha,rfl,rfl⟩|⟨p,ds,bs,hp,hf,ha,fo,rfl,rfl⟩
 all_goals obtain⟨a,vs,rfl,hta,rs⟩:=Rep.tup_inv R
 all_goals obtain⟨y0,ws,rfl,R0,ru⟩:=bj rs
 ·obtain rfl:y0=_:=R0
  obtain⟨x,rfl,rx⟩:=cD ru
  obtain rfl:x=.int i:=rx
  refine⟨_,rfl,a,_,0,_,rfl,rfl,SqT.of hta,ae (j:=0) rfl,?_⟩
  refine gnm ?_
  refine⟨_,rfl,rfl,_,rfl,ap (λh=>?_) (λh=>absurd (Q9 rfl) h)⟩
  have:=iP (i:=i) h0 ()
  exact⟨_,rfl,a,_,1,.int i,rfl,rfl,SqT.of hta,ae (j:=1) rfl,i,rfl,this,by have:=q H (ai.refl _);unfold bv at this;rwa[brT]at this⟩
 ·obtain rfl:y0=_:=R0
  obtain⟨x,rfl,rx⟩:=cD ru
  obtain rfl:x=.str y:=rx
  refine⟨_,rfl,a,_,0,_,rfl,rfl,SqT.of hta,ae (j:=0) rfl,?_⟩
  refine gnm ?_
  refine⟨_,rfl,rfl,_,rfl,ap (fwd ()) (λ_=>?_)⟩
  refine⟨_,rfl,rfl,_,rfl,ap (λ_=>?_) (λh=>absurd (Q9 rfl) h)⟩
  refine⟨_,rfl,a,_,1,.str y,rfl,rfl,SqT.of hta,ae (j:=1) rfl,by have:=q H (ai.refl _);unfold bv at this;rwa[brT]at this⟩
 ·obtain rfl:y0=_:=R0
  obtain⟨x1,x2,rfl,r1,r2⟩:=Reps.two ru
  obtain rfl:x1=.str f:=r1
  obtain⟨t,us,rfl,ht,rt⟩:=Rep.tup_inv r2
  refine⟨_,rfl,a,_,0,_,rfl,rfl,SqT.of hta,ae (j:=0) rfl,?_⟩
  refine gnm ?_
  refine⟨_,rfl,rfl,_,rfl,ap (fwd ()) (λ_=>?_)⟩
  refine⟨_,rfl,rfl,_,rfl,ap (fwd ()) (λ_=>?_)⟩
  refine⟨_,rfl,rfl,_,rfl,ap (λ_=>?_) (λh=>absurd (Q9 rfl) h)⟩
  have h1:=oV f bs
  refine⟨_,rfl,a,_,1,.str f,rfl,rfl,SqT.of hta,ae (j:=1) rfl,_,rfl,a,_,2,.ref t,rfl,rfl,SqT.of hta,ae (j:=2) rfl,t,us,ds,bs,rfl,ht,rt,ha,l4,(),λH1 l s1 hn hl=>?_⟩
  exact rZ (E:=E0) hl hf (by rw[ha.len];omega) lb (q _ s1)
 ·obtain rfl:y0=_:=R0
  obtain⟨x1,ws,rfl,r1,ru2⟩:=bj ru
  obtain rfl:x1=.str r:=r1
  refine⟨_,rfl,a,_,0,_,rfl,rfl,SqT.of hta,ae (j:=0) rfl,?_⟩
  refine gnm ?_
  refine⟨_,rfl,rfl,_,rfl,ap (fwd ()) (λ_=>?_)⟩
  refine⟨_,rfl,rfl,_,rfl,ap (fwd ()) (λ_=>?_)⟩
  refine⟨_,rfl,rfl,_,rfl,ap (fwd ()) (λ_=>?_)⟩
  refine⟨_,rfl,rfl,_,rfl,ap (λ_=>?_) (λh=>absurd (Q9 rfl) h)⟩
  have h1:=oV r [b1,b2]
  refine⟨_,rfl,a,_,1,.str r,rfl,rfl,SqT.of hta,ae (j:=1) rfl,?_⟩
  refine⟨_,rfl,2,rfl,?_⟩
  dsimp only[bn]
  refine eJ hta λH1 t s1 ht=>?_
  have ec:bJ (V.str (γ "reckon")::V.str r::ws) (some 2) none=ws:=ce (V.str (γ "reckon")::V.str r::ws) 2
  rw[ec]at ht
  refine⟨t,ws,[d1,d2],[b1,b2],rfl,ht,ru2.mono s1,.cons w1 (.cons w2 .nil),(),(),λH2 l s2 hn hl=>?_⟩
  exact rZ (E:=E0) hl (fR r (dq hr')).1 () lb (q _ (s1.trans s2))
 ·obtain rfl:y0=_:=R0
  obtain⟨x1,rfl,r1⟩:=cD ru
  obtain⟨t,us,rfl,ht,rt⟩:=Rep.tup_inv r1
  refine⟨_,rfl,a,_,0,_,rfl,rfl,SqT.of hta,ae (j:=0) rfl,?_⟩
  refine gnm ?_
  refine⟨_,rfl,rfl,_,rfl,ap (fwd ()) (λ_=>?_)⟩
  refine⟨_,rfl,rfl,_,rfl,ap (fwd ()) (λ_=>?_)⟩
  refine⟨_,rfl,rfl,_,rfl,ap (fwd ()) (λ_=>?_)⟩
  refine⟨_,rfl,rfl,_,rfl,ap (fwd ()) (λ_=>?_)⟩
  refine⟨_,rfl,rfl,_,rfl,ap (λ_=>?_) (λh=>absurd (Q9 rfl) h)⟩
  have h1:=oV (γ "row") bs
  refine⟨_,rfl,a,_,1,.ref t,rfl,rfl,SqT.of hta,ae (j:=1) rfl,t,us,ds,bs,rfl,ht,rt,ha,l4,(),λH1 l s1 hn hl=>?_⟩
  exact rZ (E:=E0) hl () (by rw[ha.len];omega) lb (q _ s1)
 ·obtain rfl:y0=_:=R0
  obtain⟨n1,n2,n3,n4,n5⟩:=pK hf
  obtain⟨g,hg,hgT⟩:=hS p hp
  have h5:=cj p hp
  have h1:=oV p.1 bs
  obtain⟨lB,lD⟩:=ha.len
  have lws:=ru.length
  refine⟨_,rfl,a,_,0,_,rfl,rfl,SqT.of hta,ae (j:=0) rfl,?_⟩
  refine gnm ?_
  refine⟨_,rfl,rfl,_,rfl,ap (fwd n1) (λ_=>?_)⟩
  refine⟨_,rfl,rfl,_,rfl,ap (fwd n2) (λ_=>?_)⟩
  refine⟨_,rfl,rfl,_,rfl,ap (fwd n3) (λ_=>?_)⟩
  refine⟨_,rfl,rfl,_,rfl,ap (fwd n4) (λ_=>?_)⟩
  refine⟨_,rfl,rfl,_,rfl,ap (fwd n5) (λ_=>?_)⟩
  refine⟨_,rfl,_,rfl,p.1,g,rfl,rfl,hg,_,rfl,1,rfl,?_⟩
  dsimp only[bn]
  refine eJ hta λH1 t s1 ht=>?_
  have ec:bJ (V.str p.1::ws) (some 1) none=ws:=ce (V.str p.1::ws) 1
  rw[ec]at ht
  refine⟨g,t,rfl,⟨_,hgT _⟩,⟨_,SqT.of ht⟩,mV (xs:=p.2.2.map λs=>V.str (srt s)) (ys:=ws) (λi ys H'=>ai H1 H'/\ys=(bs.take i).map bv) ⟨ai.refl _,rfl⟩ (λi zs H' p=>⟨hgT _,SqT.of (p.1 _ _ ht)⟩) ?_ ?_⟩
  ·rintro i zs H2 x y p2 hx hy ⟨s2,rfl⟩ hp2
   rw[Ν]at hx
   obtain⟨so,hso,rfl⟩:=ϖ.mp hx
   obtain⟨d,hd,Ry⟩:=ru.get hy
   obtain⟨b,hb,ag⟩:=ha.get hso hd
   have:=nX (ϊ hb)
   have s3:=s2.trans (ac hp2 (.tup [.str (srt so),y]))
   refine eE aa ⟨_,rfl,_,rfl,so,y,d,b,rfl,Ry.mono (s1.trans s3),ag,(),λH4 s4=>⟨?_,s3.trans s4,?_⟩⟩
   ·rw[η,Χ,ι];omega
   ·rw[Ϣ,hb,Ι]
    rfl
  ·rintro zs H2 ⟨s2,rfl⟩ l hl
   rw[show min (p.2.2.map λs=>V.str (srt s)).length ws.length=bs.length by rw[η];omega,ϛ]
   exact rZ (E:=E0) aa (rf p hp) () lb (q _ (s1.trans (s2.trans (ac hl _))))
abbrev dB:Stmt:=top 48
abbrev eX:Stmt:=top 51
abbrev gk:Stmt:=top 52
abbrev cq:Stmt:=top 53
theorem tT{x:Str}(h:nmB x=true):mf x=.non:=by
 obtain⟨h1,_,az⟩:=jB h
 obtain⟨c,r,e⟩:=cR h1
 unfold mf
 rw[Q6]
 intro hd
 obtain⟨a,_⟩:=dE hd
 have h2:=a c (by rw[e];exact ξ)
 have h3:=az c (by rw[e];exact ξ)
 omega
def rb:Sp:=λvs H Q _=>∃(v:V) (y:Str),vs=[v]/\Rep H (eS y) v/\Q (.str y) H
def vV:Sp:=λvs H Q _=>∃(x:Str) (d:Dv),vs=[.str x]/\((∃i:Int,0<=i/\i<10^12/\x=aV i/\d=.tup [.str (γ "number"),.int i])\/(nmB x=true/\d=.tup [.str (γ "name"),.str x]))/\∀H' u,ai H H'->Rep H' d u->Q u H'
def jY(n:Nat):Sp:=λvs H Q _=>∃(v:V) (d:Dv) (b:Br),vs=[v]/\Rep H (bT b) v/\Wx n d b/\∀H' u,ai H H'->Rep H' d u->Q u H'
def sv(n:Nat):Sp:=λvs H Q _=>∃(s:So) (v:V) (d:Dv) (b:Br),vs=[.str (srt s),v]/\Rep H (bT b) v/\Ag (Wx n) s d b/\∀H' u,ai H H'->Rep H' d u->Q u H'
theorem jX:ao ["branch"] ["branch"] (ah dB):=by trivial
theorem jQ{f:Addr}{fd:Η}(F:Fun K "word_alone" "word_alone" dB f fd)(T:Txt K mg):aw P w K mg base CX0 1 f fd ["branch"] rb:=by
 refine F.ok jX (λvs H Q E h=>?_) (λcdv A outer s H vs Q E hr h=>?_)
 ·obtain⟨v,y,rfl,_⟩:=h
  rfl
 obtain⟨v,y,rfl,R,q⟩:=h
 obtain⟨a,rfl,ha⟩:=eD R
 refine⟨_,(@un _ _ _ (wbQ (wbK (wac (wbS gg (waD am (wv 0 rfl) waC (λ_ _=>rfl)) waN (af _)) (waD am (wv 0 rfl) waC (λ_ _=>rfl)) waN)))),?_⟩
 refine⟨_,rfl,a,_,1,.non,rfl,rfl,SqT.of ha,ae (j:=1) rfl,rfl,_,rfl,ap (λ_=>?_) (λh=>absurd () h)⟩
 exact⟨_,rfl,a,_,0,.str y,rfl,rfl,SqT.of ha,ae (j:=0) rfl,q⟩
theorem iD:ao ["word","number"] ["word"] (ah gk):=by trivial
theorem pO{f:Addr}{fd:Η}{k:Nat}(F:Fun K "atom_of" "atom_of" gk f fd)(T:Txt K mg)(Dnumber_of:Def P w K mg base k "number_of" ["word"] rA):aw P w K mg base CX0 (k+1) f fd ["word"] vV:=by
 have nd:=iD.nd
 refine F.ok iD (λvs H Q E h=>?_) (λcdv A outer s H vs Q E hr h=>?_)
 ·obtain⟨x,d,rfl,_⟩:=h
  rfl
 obtain⟨x,d,rfl,hx,q⟩:=h
 refine⟨_,(@un _ _ _ (wbO (wbM 1 nd rfl (Ε rfl) (waq Dnumber_of hr rfl (wae (wv 0 rfl) waf rfl) () rfl rfl) rfl ()) (wbQ (wbK (wac (wbS gg (wv 1 rfl) waN (af _)) (waX (wae waV (wae (wv 0 rfl) waf rfl) rfl)) (waX (wae waV (wae (wv 1 rfl) waf rfl) rfl))))))),?_⟩
 have two:∀(H1:Hp)(w0:Str)(v1:V)(d1:Dv),Rep H1 d1 v1->ai H H1->d=.tup [.str w0,d1]->∀t,H1 t=none->Q (.ref t) (upd H1 t (.tup [.str w0,v1])):=λH1 w0 v1 d1 R1 s1 e t ht=>by
  have s2:=ac ht (.tup [.str w0,v1])
  refine q _ _ (s1.trans s2) ?_
  rw[e,Rep]
  exact⟨t,_,rfl,aa,by simp only[Reps];exact⟨_,_,rfl,by simp only[Rep],_,_,rfl,R1.mono s2,rfl⟩⟩
 rcases hx with ⟨i,h0,h1,rfl,e⟩|⟨hy,e⟩
 ·have h2:i<10^60:=by omega
  refine⟨_,rfl,aV i,rfl,?_,λH1 s1=>?_⟩
  ·have:=cF h0 h2
   show(aV i).length<=1000
   omega
  rw[jd h0 h2]
  refine gnm ?_
  refine⟨_,rfl,rfl,_,rfl,ap (λh=>absurd h ()) (λ_=>?_)⟩
  exact⟨_,rfl,z2,two H1 _ _ (.int i) (by simp only[Rep]) s1 e⟩
 ·refine⟨_,rfl,x,rfl,?_,λH1 s1=>?_⟩
  ·have:=(aY hy).2
   omega
  rw[tT hy]
  refine gnm ?_
  refine⟨_,rfl,rfl,_,rfl,ap (λ_=>?_) (λh=>absurd () h)⟩
  exact⟨_,rfl,z2,two H1 _ _ (.str x) (by simp only[Rep]) s1 e⟩
theorem gO:ao ["sort","branch"] ["sort","branch"] (ah eX):=by trivial
theorem oT{f:Addr}{fd:Η}{k n:Nat}(F:Fun K "thing_in" "thing_in" eX f fd)(T:Txt K mg)(Dlength_in:Def P w K mg base k "length_in" ["branch"] lq)(Dkind_in:Def P w K mg base k "kind_in" ["branch"] (fQ 12))(Dword_alone:Def P w K mg base k "word_alone" ["branch"] rb)(Dexpression_in:Def P w K mg base k "expression_in" ["branch"] (jY n)):aw P w K mg base CX0 (k+1) f fd ["sort","branch"] (sv n):=by
 have nd:=gO.nd
 refine F.ok gO (λvs H Q E h=>?_) (λcdv A outer s H vs Q E hr h=>?_)
 ·obtain⟨s,v,d,b,rfl,_⟩:=h
  rfl
 obtain⟨s,v,d,b,rfl,R,ag,q⟩:=h
 refine⟨_,(@un _ _ _ (wbO (wbI (wbS av (wv 0 rfl) waV (af _)) (wbQ (wbK (waq Dlength_in hr rfl (wae (wv 1 rfl) waf rfl) () rfl rfl))) wbP) (wbO (wbI (wbS av (wv 0 rfl) waV (af _)) (wbQ (wbK (waq Dkind_in hr rfl (wae (wv 1 rfl) waf rfl) () rfl rfl))) wbP) (wbO (wbI (wbS av (wv 0 rfl) waV (af _)) (wbQ (wbK (waq Dword_alone hr rfl (wae (wv 1 rfl) waf rfl) () rfl rfl))) wbP) (wbQ (wbK (waq Dexpression_in hr rfl (wae (wv 1 rfl) waf rfl) () rfl rfl))))))),?_⟩
 refine⟨_,rfl,rfl,_,rfl,ap (λh=>?_) (λh=>?_)⟩
 ·cases(kQ s).mp (Q7 h)
  obtain⟨c,ps,rfl,rfl,sm⟩:=ag
  rw[bT]at R
  exact⟨_,rfl,v,c,ps,rfl,R,sm.1,q⟩
 have hl:s≠.l:=λz=>h (Q9 ((kQ s).mpr z))
 refine⟨_,rfl,rfl,_,rfl,ap (λh=>?_) (λh=>?_)⟩
 ·cases(kz s).mp (Q7 h)
  obtain⟨k,rfl,rfl,kA,k6⟩:=ag
  rw[kT]at R
  exact⟨_,rfl,v,k,rfl,R,(),bS (λ_ _ h=>h.1) kA,q⟩
 have hk:s≠.k:=λz=>h (Q9 ((kz s).mpr z))
 refine⟨_,rfl,rfl,_,rfl,ap (λh=>?_) (λh=>?_)⟩
 ·have key:∃y,d=.str y/\b=.leaf y/\nmB y=true:=by
   rcases(pd s).mp (Q7 h)with rfl|rfl
   ·exact ag
   ·exact ag
  obtain⟨y,rfl,rfl,hy⟩:=key
  rw[bT]at R
  exact⟨_,rfl,v,y,rfl,R,q H _ (ai.refl _) (by simp only[Rep])⟩
 have hx:¬ (s=.x\/s=.y):=λz=>h (Q9 ((pd s).mpr z))
 have key:Wx n d b:=by
  cases s with
  |x=>exact absurd (.inl rfl) hx
  |y=>exact absurd (.inr rfl) hx
  |l=>exact absurd rfl hl
  |k=>exact absurd rfl hk
  |e=>exact ag
  |n=>exact ag.elim
  |w=>exact ag.elim
  |f=>exact ag.elim
  |a=>exact ag.elim
  |r=>exact ag.elim
 exact⟨_,rfl,v,d,b,rfl,R,key,q⟩
theorem xE:∀p∈WT,ca p.1=false:=by decide +kernel
theorem z3:3<=sizeLine:=by rw[ι];decide
theorem Als.getB{R:Dv->Br->Prop}{ds:List Dv}{bs:List Br}(h:Als R ds bs):∀{i:Nat}{b:Br},bs[i]?=some b->∃d,ds[i]?=some d/\R d b:=by
 induction h with
 |nil=>intro i d e;cases e
 |cons a _ ih=>
  intro i d e
  cases i with
  |zero=>cases e;exact⟨_,rfl,a⟩
  |succ i=>exact ih e
theorem Ags.getB{R:Dv->Br->Prop}{ss:List So}{ds:List Dv}{bs:List Br}(h:Ags R ss ds bs):∀{i:Nat}{s:So}{b:Br},ss[i]?=some s->bs[i]?=some b->∃d,ds[i]?=some d/\Ag R s d b:=by
 induction h with
 |nil=>intro i s d e;cases e
 |cons a _ ih=>
  intro i s d e e'
  cases i with
  |zero=>cases e;cases e';exact⟨_,rfl,a⟩
  |succ i=>exact ih e e'
theorem dw:ao ["branch","word","inner"] ["branch"] (ah cq):=by trivial
theorem gh{f gS gR:Addr}{fd:Η}{k n:Nat}(F:Fun K "expression_in" "expression_in" cq f fd)(T:Txt K mg)(S:Shp P w K gS)(GS:mg "SHAPES"=some (.ref gS))(GR:mg "RECKONS"=some (.ref gR))(hR:∀H,SqT K H gR (mO.map V.str))(Datom_of:Def P w K mg base k "atom_of" ["word"] vV)(Dthing_in:Def P w K mg base k "thing_in" ["sort","branch"] (sv n))(Dexpression_in:Def P w K mg base k "expression_in" ["branch"] (jY n)):aw P w K mg base CX0 (k+1) f fd ["branch"] (jY (n+1)):=by
 have nd:=dw.nd
 refine F.ok dw (λvs H Q E h=>?_) (λcdv A outer s H vs Q E hr h=>?_)
 ·obtain⟨v,d,b,rfl,_⟩:=h
  rfl
 obtain⟨v,d,b,rfl,R,wx,q⟩:=h
 obtain⟨kvs,FS,hS,hS2⟩:=S.ex
 refine⟨_,(@un _ _ _ (wbO (wbM 1 nd rfl (Ε rfl) (waD am (wv 0 rfl) waC (λ_ _=>rfl)) rfl ()) (wbO (wbM 2 nd rfl (Ε rfl) (waD am (wv 0 rfl) waC (λ_ _=>rfl)) rfl ()) (wbO (wbI (wbS gg (wv 2 rfl) waN (af _)) (wbQ (wbK (waq Datom_of hr rfl (wae (wv 1 rfl) waf rfl) () rfl rfl))) wbP) (wbO (wbI (wbS kb (wv 1 rfl) (waB (.ref gR) rfl GR rfl ()) (by with_unfolding_all rfl)) (wbQ (wbK (waQ eK (waX (wae waV (wae (wv 1 rfl) waf rfl) rfl)) (wam aJ rfl T.tuple () (wae (waE ["each"] [] (wbi (wv 2 rfl)) (.of rfl) rfl (λ_ _ _=>⟨pg_name (i:=0) (bp (l:=["each"]) (()) rfl) rfl (Ε rfl)⟩) (bf ()) (λ_ _ _=>wbx) (λ_ _ _=>(waq Dexpression_in hr rfl (wae (wv 0 rfl) waf rfl) () rfl rfl)) ()) waf rfl) () () rfl rfl)))) wbP) (wbO (wbI (wbS av (wv 1 rfl) waV (af _)) (wbQ (wbK (waX (wae waV (wae (wam aJ rfl T.tuple () (wae (waE ["each"] [] (wbi (wv 2 rfl)) (.of rfl) rfl (λ_ _ _=>⟨pg_name (i:=0) (bp (l:=["each"]) (()) rfl) rfl (Ε rfl)⟩) (bf ()) (λ_ _ _=>wbx) (λ_ _ _=>(waq Dexpression_in hr rfl (wae (wv 0 rfl) waf rfl) () rfl rfl)) ()) waf rfl) () () rfl rfl) waf rfl) rfl)))) wbP) (wbO (wbI (wbS (yM FS) (wv 1 rfl) (waB (.ref gS) rfl GS rfl ()) (by with_unfolding_all rfl)) (wbQ (wbK (waQ eK (waX (wae (wv 1 rfl) waf rfl)) (wam aJ rfl T.tuple () (wae (waE (["sort","each"]) [] ⟨uR rfl T.zip (pa_cons (pe_getF FS (pe_glob (v:=.ref gS) rfl GS rfl) (pv 1) (λ_ _=>rfl)) (pa_cons (pv 2) pa_nil))⟩ (.of rfl) rfl (λ_ _ _=>⟨pg_tup rfl (pgs_cons (pg_name (i:=0) (bp (l:=["sort","each"]) (()) rfl) rfl (Ε rfl)) (pgs_cons (pg_name (i:=1) (bp (l:=["sort","each"]) (()) rfl) rfl (Ε rfl)) pgs_nil))⟩) (iQ () ()) (λ_ _ _=>wbx) (λ_ _ _=>(waq Dthing_in hr rfl (wae (wv 0 rfl) (wae (wv 1 rfl) waf rfl) rfl) () rfl rfl)) ()) waf rfl) () () rfl rfl)))) wbP) (wbQ (wbK (waX (wae waV (wae (wv 1 rfl) (wae (wam aJ rfl T.tuple () (wae (waE ["each"] [] (wbi (wv 2 rfl)) (.of rfl) rfl (λ_ _ _=>⟨pg_name (i:=0) (bp (l:=["each"]) (()) rfl) rfl (Ε rfl)⟩) (bf ()) (λ_ _ _=>wbx) (λ_ _ _=>(waq Dexpression_in hr rfl (wae (wv 0 rfl) waf rfl) () rfl rfl)) ()) waf rfl) () () rfl rfl) waf rfl) rfl) rfl))))))))))),?_⟩
 dsimp only[bo,Cx.nox]
 rw[Wx]at wx
 have rd:∀{l:Addr}{ds:List Dv}{bs:List Br}{us:List V}{H2:Hp}{σ:St}{Q2:List V->Hp->Prop},Als (Wx n) ds bs->ds.length<=8->H2 l=some (.lst us)->Reps H2 (bs.map bT) us->(∀ys H',ai H2 H'->Reps H' ds ys->Q2 ys H')->rLC (Itl K l) 1 [] (cP 0) vG (kq (jY n) [] E0 (mT (fz 0) nt)) σ H2 Q2:=λ{l ds bs us H2 σ Q2} al l8 hl ru q2=>by
  have lu:=ru.length
  rw[η,al.len]at lu
  refine fY (xs:=us) (λi ys H'=>ai H2 H'/\Reps H' (ds.take i) ys) ⟨ai.refl _,by simp[Reps]⟩ (λi ys H' _ p=>SqL.of (p.1 _ _ hl)) ?_ ?_
  ·rintro i ys H3 x hx ⟨s3,R3⟩
   obtain⟨e,he,Re⟩:=ru.get hx
   rw[Ν]at he
   obtain⟨b,hb,rfl⟩:=ϖ.mp he
   obtain⟨d,hd,wx⟩:=al.getB hb
   refine bu ⟨_,rfl,x,d,b,rfl,Re.mono s3,wx,λH4 w4 s4 R4=>⟨?_,s3.trans s4,?_⟩⟩
   ·rw[R3.length,Χ,ι];omega
   ·rw[Ϣ,hd]
    exact Reps.append (R3.mono s4) (be R4)
  ·rintro ys H3 ⟨s3,R3⟩
   rw[lu,ϛ]at R3
   exact q2 ys H3 s3 R3
 have cat:∀{H3:Hp}{t0 t:Addr}{x:V}{xs ys:List V}{d0:Dv}{ds0 ds1:List Dv},H3 t0=some (.tup (x::xs))->Reps H3 (d0::ds0) (x::xs)->Reps H3 ds1 ys->ai H H3->d=.tup ((d0::ds0)++ds1)->(x::xs=[]->Q (.ref t) H3)/\(ys=[]->Q (.ref t0) H3)/\∀p,H3 p=none->Q (.ref p) (upd H3 p (.tup ((x::xs)++ys))):=λ{H3 t0 t x xs ys d0 ds0 ds1} h0 r0 r1 s3 e=>by
  refine⟨nofun,λe1=>?_,λp hp=>?_⟩
  ·have:=r1.length
   rw[e1,h_]at this
   rw[List.eq_nil_of_length_eq_zero this.symm,ϙ]at e
   refine q _ _ s3 ?_
   rw[e,Rep]
   exact⟨t0,_,rfl,h0,r0⟩
  ·have s4:=ac hp (.tup ((x::xs)++ys))
   refine q _ _ (s3.trans s4) ?_
   rw[e,Rep]
   exact⟨p,_,rfl,aa,Reps.append (r0.mono s4) (r1.mono s4)⟩
 rcases wx with ⟨i,h0,h1,rfl,rfl⟩|⟨y,hy,rfl,rfl⟩|⟨f,ds,bs,hf,hw,hr',l4,ha,rfl,rfl⟩|⟨r,d1,d2,b1,b2,hr',w1,w2,rfl,rfl⟩|⟨ds,bs,l1,l4,ha,rfl,rfl⟩|⟨p,ds,bs,hp,hf,ha,fo,rfl,rfl⟩
 ·rw[bT]at R
  obtain⟨a,rfl,hta⟩:=eD R
  refine⟨_,rfl,a,_,0,_,rfl,rfl,SqT.of hta,ae (j:=0) rfl,?_⟩
  refine gnm ?_
  refine⟨_,rfl,a,_,1,_,rfl,rfl,SqT.of hta,ae (j:=1) rfl,?_⟩
  refine gnm ?_
  refine⟨_,rfl,rfl,_,rfl,ap (λ_=>?_) (λh=>absurd () h)⟩
  exact⟨_,rfl,_,_,rfl,.inl ⟨i,h0,h1,rfl,rfl⟩,q⟩
 ·rw[bT]at R
  obtain⟨a,rfl,hta⟩:=eD R
  refine⟨_,rfl,a,_,0,_,rfl,rfl,SqT.of hta,ae (j:=0) rfl,?_⟩
  refine gnm ?_
  refine⟨_,rfl,a,_,1,_,rfl,rfl,SqT.of hta,ae (j:=1) rfl,?_⟩
  refine gnm ?_
  refine⟨_,rfl,rfl,_,rfl,ap (λ_=>?_) (λh=>absurd () h)⟩
  exact⟨_,rfl,_,_,rfl,.inr ⟨hy,rfl⟩,q⟩
 all_goals rw[bT,gA]at R
 all_goals obtain⟨a,l,us,rfl,hta,hl,ru⟩:=lV R
 all_goals refine⟨_,rfl,a,_,0,_,rfl,rfl,SqT.of hta,ae (j:=0) rfl,?_⟩
 all_goals refine gnm ?_
 all_goals refine⟨_,rfl,a,_,1,_,rfl,rfl,SqT.of hta,ae (j:=1) rfl,?_⟩
 all_goals refine gnm ?_
 all_goals refine⟨_,rfl,rfl,_,rfl,ap (λh=>absurd h ()) (λ_=>?_)⟩
 all_goals refine tnx ?_
 all_goals dsimp only
 all_goals refine⟨_,rfl,gR,_,rfl,.inr (hR _),rfl,(),_,rfl,?_⟩
 ·refine ap (λh=>absurd (show ca f=true from h) (by rw[hr'];decide)) (λ_=>?_)
  refine⟨_,rfl,rfl,_,rfl,ap (λh=>?_) (λ_=>?_)⟩
  ·have e:f=γ "row":=V.str.inj (Q7 h)
   rw[e]at hw
   exact absurd hw ()
  refine⟨_,rfl,f,rfl,rfl,_,rfl,?_⟩
  rw[hS2 f,show(WT.any λp=>decide (p.1=f))=false from hw]
  refine ap (λh=>absurd h ()) (λ_=>?_)
  refine⟨_,rfl,_,rfl,l,rfl,⟨_,SqL.of hl⟩,rd ha () hl ru λys H4 s4 R4 l5 hl5=>?_⟩
  have s5:=ac hl5 (.lst ys)
  refine⟨l5,_,rfl,.inl ⟨SqL.of aa,λt ht=>⟨z3,λm hm=>?_⟩⟩⟩
  have s6:=ac ht (.tup ys)
  have s7:=ac hm (.tup [.str (γ "call"),.str f,.ref t])
  refine q _ _ (s4.trans (s5.trans (s6.trans s7))) ?_
  rw[Rep]
  refine⟨m,_,rfl,aa,?_⟩
  simp only[Reps]
  refine⟨_,_,rfl,by simp only[Rep],_,_,rfl,by simp only[Rep],_,_,rfl,?_,rfl⟩
  rw[Rep]
  exact⟨t,ys,rfl,s7 _ _ aa,R4.mono (s5.trans (s6.trans s7))⟩
 ·refine ap (λ_=>?_) (λh=>absurd (show ca r=true from hr') h)
  refine⟨_,rfl,z2,λt0 ht0=>?_⟩
  have s1:=ac ht0 (.tup [.str (γ "reckon"),.str r])
  refine⟨_,rfl,l,rfl,⟨_,SqL.of (s1 _ _ hl)⟩,rd (ds:=[d1,d2]) (.cons w1 (.cons w2 .nil)) () (s1 _ _ hl) (ru.mono s1) λys H4 s4 R4 l5 hl5=>?_⟩
  have s5:=ac hl5 (.lst ys)
  refine⟨l5,_,rfl,.inl ⟨SqL.of aa,λt ht=>?_⟩⟩
  have s6:=ac ht (.tup ys)
  have s46:=s4.trans (s5.trans s6)
  have h0:=s46 _ _ (aa (H:=H) (a:=t0) (o:=.tup [.str (γ "reckon"),.str r]))
  refine⟨t0,t,_,_,rfl,rfl,SqT.of h0,SqT.of aa,?_,cat (d0:=.str (γ "reckon")) (ds0:=[.str r]) h0 ?_ (R4.mono (s5.trans s6)) (s1.trans s46) rfl⟩
  ·rw[R4.length,ι];simp
  ·simp only[Reps]
   exact⟨_,_,rfl,by simp only[Rep],_,_,rfl,by simp only[Rep],rfl⟩
 ·refine ap (λh=>absurd (show ca _=true from h) ()) (λ_=>?_)
  refine⟨_,rfl,rfl,_,rfl,ap (λ_=>?_) (λh=>absurd (Q9 rfl) h)⟩
  refine⟨_,rfl,l,rfl,⟨_,SqL.of hl⟩,rd ha () hl ru λys H4 s4 R4 l5 hl5=>?_⟩
  have s5:=ac hl5 (.lst ys)
  refine⟨l5,_,rfl,.inl ⟨SqL.of aa,λt ht=>⟨z2,λm hm=>?_⟩⟩⟩
  have s6:=ac ht (.tup ys)
  have s7:=ac hm (.tup [.str (γ "row"),.ref t])
  refine q _ _ (s4.trans (s5.trans (s6.trans s7))) ?_
  rw[Rep]
  refine⟨m,_,rfl,aa,?_⟩
  simp only[Reps]
  refine⟨_,_,rfl,by simp only[Rep],_,_,rfl,?_,rfl⟩
  rw[Rep]
  exact⟨t,ys,rfl,s7 _ _ aa,R4.mono (s5.trans (s6.trans s7))⟩
 ·obtain⟨n1,n2,n3,n4,n5⟩:=pK hf
  obtain⟨g,hg,hgT⟩:=hS p hp
  have h5:=cj p hp
  obtain⟨lB,lD⟩:=ha.len
  have lus:=ru.length
  rw[η]at lus
  refine ap (λh=>absurd (xE p hp) (by rw[show ca p.1=true from h];decide)) (λ_=>?_)
  refine⟨_,rfl,rfl,_,rfl,ap (fwd n5) (λ_=>?_)⟩
  refine⟨_,rfl,p.1,rfl,rfl,_,rfl,?_⟩
  rw[hS2 p.1,show(WT.any λq=>decide (q.1=p.1))=true from a7.mpr ⟨p,hp,Q9 rfl⟩]
  refine ap (λ_=>?_) (λh=>absurd () h)
  refine⟨_,rfl,z1,λt0 ht0=>?_⟩
  have s1:=ac ht0 (.tup [.str p.1])
  refine⟨_,rfl,p.1,g,rfl,rfl,hg,_,rfl,g,l,rfl,⟨_,hgT _⟩,⟨_,SqL.of (s1 _ _ hl)⟩,vT (xs:=p.2.2.map λs=>V.str (srt s)) (ys:=us) (λi ys H'=>ai (upd H t0 (.tup [.str p.1])) H'/\Reps H' (ds.take i) ys) ⟨ai.refl _,by simp[Reps]⟩ (λi zs H' p=>⟨hgT _,SqL.of (p.1 _ _ (s1 _ _ hl))⟩) ?_ ?_⟩
  ·rintro i zs H2 x y p2 hx hy ⟨s2,R2⟩ hp2
   rw[Ν]at hx
   obtain⟨so,hso,rfl⟩:=ϖ.mp hx
   obtain⟨e,he,Re⟩:=ru.get hy
   rw[Ν]at he
   obtain⟨b,hb,rfl⟩:=ϖ.mp he
   obtain⟨d,hd,ag⟩:=ha.getB hso hb
   have q3:=ac hp2 (.tup [.str (srt so),y])
   have s3:=s2.trans q3
   refine eE aa ⟨_,rfl,_,rfl,so,y,d,b,rfl,Re.mono (s1.trans s3),ag,λH4 w4 s4 R4=>⟨?_,s3.trans s4,?_⟩⟩
   ·rw[R2.length,Χ,ι];omega
   ·rw[Ϣ,hd]
    exact Reps.append (R2.mono (q3.trans s4)) (be R4)
  ·rintro ys H2 ⟨s2,R2⟩ l5 hl5
   rw[show min (p.2.2.map λs=>V.str (srt s)).length us.length=ds.length by rw[η];omega,ϛ]at R2
   have s5:=ac hl5 (.lst ys)
   refine⟨l5,_,rfl,.inl ⟨SqL.of aa,λt ht=>?_⟩⟩
   have s6:=ac ht (.tup ys)
   have s46:=s2.trans (s5.trans s6)
   have h0:=s46 _ _ (aa (H:=H) (a:=t0) (o:=.tup [.str p.1]))
   refine⟨t0,t,_,_,rfl,rfl,SqT.of h0,SqT.of aa,?_,cat h0 (be (by simp only[Rep])) (R2.mono (s5.trans s6)) (s1.trans s46) rfl⟩
   rw[R2.length,ι,Ϫ];omega
abbrev ee:Stmt:=top 44
abbrev cp:Stmt:=top 54
abbrev gz:Stmt:=top 55
abbrev bU:Stmt:=top 56
theorem yC{H H':Hp}:ai (nw H H') H':=λb o e=>by
 unfold nw at e
 split at e
 ·exact e
 ·cases e
def vJ:Sp:=λvs H Q _=>∃b:Br,vs=[.str (brT b)]/\bG b/\bE b<=20/\bl b<=1000000/\∀H' v,ai H H'->Rep H' (bT b) v->Q v H'
def WE(d:Dv)(x:Str):Prop:=∃b,x=brT b/\Wx 8 d b/\exN 8 d<=40
def wf(W:Dv->Str->Prop):Sp:=λvs H Q _=>∃(x:Str) (d:Dv),vs=[.str x]/\W d x/\∀H' v,ai H H'->Rep H' d v->Q v H'
def zV(W:Dv->Str->Prop):Sp:=λvs H Q _=>∃(v:V) (x:Str) (d:Dv),vs=[v]/\Rep H d v/\W d x/\∀H',ai H H'->Q (.bl true) H'
def Ah(W:Dv->Str->Prop):Sp:=λvs H Q _=>∃(v:V) (x:Str) (d:Dv),vs=[v]/\Rep H d v/\W d x/\∀H',ai H H'->Q (.str x) H'
def vF(fr fi fs:Addr)(W:Dv->Str->Prop):Sp:=λvs H Q _=>∃(x:Str) (d:Dv) (p:V),vs=[.str x,.ref fr,.ref fi,.ref fs,p]/\W d x/\∀H' v,ai H H'->Rep H' d v->Q v H'
theorem An(vs:List V)(H:Hp)(Q:VK)(E:XK)(h:zV WE vs H Q E):oW vs H Q E:=by
 obtain⟨v,x,d,rfl,R,⟨b,rfl,wx,c40⟩,q⟩:=h
 refine⟨v,_,rfl,R,(bQ wx).2,λH' s=>?_⟩
 show Q (.bl (decide (exN 8 d<=40))) H'
 rw[Q9 c40]
 exact q H' s
theorem zZ(vs:List V)(H:Hp)(Q:VK)(E:XK)(h:Ah WE vs H Q E):ky 8 vs H Q E:=by
 obtain⟨v,x,d,rfl,R,⟨b,rfl,wx,c40⟩,q⟩:=h
 have:=jx wx
 exact⟨v,d,b,rfl,R,wx,(),q⟩
theorem mx:ao ["text"] ["text"] (ah ee):=by trivial
theorem lC{f C g1 g2:Addr}{fd d1 d2:Η}{k0:Nat}(F:Fun K "branch_of" "branch_of" ee f fd)(T:Txt K mg)(cl:Cls K C)(M_Signs:Mk K C g1)(F_Signs:aw P w K mg base CX0 k0 g1 d1 ["self","text"] (rB C))(B_Signs:bA K d1 ["self","text"] [])(G_Signs:mg "Signs"=some (.ref C))
  (m_branch:pQ K C "branch" g2) (F_branch:aw P w K mg base CX0 (k0+1) g2 d2 ["self","most"] (eA C 21)) (b_branch:bA K d2 ["self","most"] []):aw P w K mg base CX0 (k0+2) f fd ["text"] vJ:=by
 refine F.ok mx (λvs H Q E h=>?_) (λcdv A outer s H vs Q E hr h=>?_)
 ·obtain⟨b,rfl,_⟩:=h
  rfl
 obtain⟨b,rfl,ok,dp,lb,q⟩:=h
 have nB:∀(y:Str)(p:Int),ϩ (γ "branch") [(γ "text",V.str y),(γ "at",V.int p)]=none:=qS () ()
 refine⟨_,(@un _ _ _ (wbQ (wbK (waJ (waK M_Signs F_Signs hr rfl G_Signs B_Signs .nil dH (wae (wv 0 rfl) waf rfl) () rfl rfl) cl m_branch F_branch hr b_branch .nil dH (wae ⟨T.g_MOST_BRACKETS rfl⟩ waf rfl) rfl rfl rfl)))),?_⟩
 refine⟨_,rfl,λx dx nx ndx nex=>⟨x,dx,brT b,rfl,aa,λH1 s1 sg1=>⟨rfl,?_⟩⟩⟩
 obtain⟨dx1,ha1⟩:=id sg1
 refine⟨x,dx1,_,rfl,ha1,nB _ _,x,brT b,0,20,b,[],rfl,sg1,lb,Υ _,by rw[CU,ϙ],.inl rfl,ok,(),(),λH2 v s2 sg2 R2=>?_⟩
 refine q H2 v (λb o e=>?_) (R2.mono yC)
 have bx:b≠x:=aj e nx
 have bd:b≠dx:=aj e ndx
 exact s2 b o bx (s1 b o bx (by rw[aq bx,aq bd];exact e))
theorem gr:ao ["text"] ["text"] (ah cp):=by trivial
theorem gC{f:Addr}{fd:Η}{k0:Nat}(F:Fun K "expression_of" "expression_of" cp f fd)(T:Txt K mg)(Dbranch_of:Def P w K mg base k0 "branch_of" ["text"] vJ)(Dexpression_in:Def P w K mg base k0 "expression_in" ["branch"] (jY 8)):aw P w K mg base CX0 (k0+1) f fd ["text"] (wf WE):=by
 refine F.ok gr (λvs H Q E h=>?_) (λcdv A outer s H vs Q E hr h=>?_)
 ·obtain⟨x,d,rfl,_⟩:=h
  rfl
 obtain⟨x,d,rfl,⟨b,rfl,wx,c40⟩,q⟩:=h
 have h1:=jx wx
 obtain⟨h2,h3⟩:=xS wx
 refine⟨_,(@un _ _ _ (wbQ (wbK (waq Dexpression_in hr rfl (wae (waq Dbranch_of hr rfl (wae (wv 0 rfl) waf rfl) () rfl rfl) waf rfl) () rfl rfl)))),?_⟩
 exact⟨_,rfl,b,rfl,h2,(),(),λH1 v1 s1 R1=>⟨v1,d,b,rfl,R1,wx,λH2 v2 s2 R2=>q H2 v2 (s1.trans s2) R2⟩⟩
theorem jJ:ao ["text","reader","is_one","shower","place","thing"] ["text","reader","is_one","shower","place"] (ah gz):=by trivial
theorem pG{f fr fi fs:Addr}{fd dr di ds:Η}{pr pi pz:List Str}{k0:Nat}{W:Dv->Str->Prop}(F:Fun K "just_so" "just_so" gz f fd)(T:Txt K mg)(FV_reader:aw P w K mg base CX0 k0 fr dr pr (wf W))(KV_reader:Ϟ K (.ref fr)=true)(BV_reader:bA K dr pr [])
  (FV_is_one:aw P w K mg base CX0 k0 fi di pi (zV W)) (KV_is_one:Ϟ K (.ref fi)=true) (BV_is_one:bA K di pi []) (FV_shower:aw P w K mg base CX0 k0 fs ds pz (Ah W)) (KV_shower:Ϟ K (.ref fs)=true) (BV_shower:bA K ds pz []):
  aw P w K mg base CX0 (k0+1) f fd ["text","reader","is_one","shower","place"] (vF fr fi fs W):=by
 have nd:=jJ.nd
 refine F.ok jJ (λvs H Q E h=>?_) (λcdv A outer s H vs Q E hr h=>?_)
 ·obtain⟨x,d,p,rfl,_⟩:=h
  rfl
 obtain⟨x,d,p,rfl,hw,q⟩:=h
 refine⟨_,(@un _ _ _ (wbO (wbI (wbV (wal aS rfl T.isinstance () (wae (wv 0 rfl) (wae (wai (.ty "str") rfl T.str () rfl () ()) waf rfl) rfl) () () rfl rfl) ()) (wbO (wbM 5 nd rfl (Ε rfl) (wan 1 FV_reader hr KV_reader BV_reader (wae (wv 0 rfl) waf rfl) rfl () () () rfl rfl) rfl ()) (wbQ (wbI (wab (wbW (wbV (wan 2 FV_is_one hr KV_is_one BV_is_one (wae (wv 5 rfl) waf rfl) rfl () () () rfl rfl) ()) (wbX (wbS av (wan 3 FV_shower hr KV_shower BV_shower (wae (wv 5 rfl) waf rfl) rfl () () () rfl rfl) (wv 0 rfl) (af _))))) (wbQ (wbK (wv 5 rfl))) wbP))) wbP) (wbQ wad))),?_⟩
 refine⟨_,rfl,_,_,_,_,rfl,cU.str x,eM K (.str x),?_⟩
 rw[yp]
 refine⟨_,rfl,aF ?_⟩
 refine⟨rfl,_,rfl,x,d,rfl,hw,λH1 v1 s1 R1=>?_⟩
 refine gnm ?_
 refine⟨rfl,_,rfl,v1,x,d,rfl,R1,hw,λH2 s2=>⟨_,rfl,aF ?_⟩⟩
 refine⟨rfl,_,rfl,v1,x,d,rfl,R1.mono s2,hw,λH3 s3=>⟨_,rfl,rfl,_,rfl,ap (λ_=>?_) (λh=>absurd (Q9 rfl) h)⟩⟩
 exact⟨_,rfl,q H3 v1 (s1.trans (s2.trans s3)) (R1.mono (s2.trans s3))⟩
theorem ft:ao ["text"] ["text"] (ah bU):=by trivial
theorem fv{f fexpression_of fis_expression fshow_expression:Addr}{fd:Η}{k0:Nat}(F:Fun K "read_expression" "read_expression" bU f fd)(T:Txt K mg)(Djust_so:Def P w K mg base k0 "just_so" ["text","reader","is_one","shower","place"] (vF fexpression_of fis_expression fshow_expression WE))(Gexpression_of:mg "expression_of"=some (.ref fexpression_of))(Gis_expression:mg "is_expression"=some (.ref fis_expression))(Gshow_expression:mg "show_expression"=some (.ref fshow_expression)):aw P w K mg base CX0 (k0+1) f fd ["text"] (wf WE):=by
 refine F.ok ft (λvs H Q E h=>?_) (λcdv A outer s H vs Q E hr h=>?_)
 ·obtain⟨x,d,rfl,_⟩:=h
  rfl
 obtain⟨x,d,rfl,hw,q⟩:=h
 refine⟨_,(@un _ _ _ (wbQ (wbK (waq Djust_so hr rfl (wae (wv 0 rfl) (wae (waB (.ref fexpression_of) rfl Gexpression_of rfl ()) (wae (waB (.ref fis_expression) rfl Gis_expression rfl ()) (wae (waB (.ref fshow_expression) rfl Gshow_expression rfl ()) (wae (waX (wae waC (wae waC waf rfl) rfl)) waf rfl) rfl) rfl) rfl) rfl) () rfl rfl)))),?_⟩
 exact⟨_,rfl,z2,λt ht=>⟨x,d,.ref t,rfl,hw,λH1 v s1 R1=>q H1 v ((ac ht _).trans s1) R1⟩⟩
abbrev qo:Stmt:=top 64
abbrev mI:Stmt:=top 66
def Wk(K:ζ)(H:Hp)(a sc:Addr)(ns:List Int)(i m:Int):Prop:=H a=some (.lst [.ref sc,.int i,.int m])/\(∀H',ar a H H'->SqL K H' sc (ns.map V.int))/\0<=i/\i<10^15
def yd(K:ζ):Sp:=λvs H Q _=>∃(a sc:Addr) (ns:List Int) (i m:Int),vs=[.ref a]/\Wk K H a sc ns i m/\ns.length<10^15/\∀(H':Hp)(r:Addr),ar a H H'->H' a=some (.lst [.ref sc,.int (i+1),.int m])->H r=none->St2 H' r->Q (.ref r) H'
def FM:List (Str×Str):=([("number",""),("name",""),("length","L"),("if","eee"),("let","xee"),("pair","ee"),("first","e"),("second","e"),("none","K"),("join","ee"),("take","Le"),("drop","Le"),("zip","ee"),("turn","e"),("get","ee"),("place","LL"),("value","e"),("up","Le"),("wide","Le"),("mirror","e"),("fork","Lexee"),("when","eLxee"),("loop","xLe"),("fold","xLxee"),("reckon","ee"),("reckon","ee"),("row","e"),("row","ee"),("row","eee"),("row","eeee"),("call",""),("call","e"),("call","ee"),("call","eee"),("call","eeee")]:List (String×String)).map λp=>(γ p.1,γ p.2)
def fmD(p:Str×Str):Dv:=.tup [.str p.1,.str p.2]
def qP:Sp:=λvs H Q _=>vs=[]/\∀(H':Hp)(l:Addr)(us:List V),ai H H'->H l=none->H' l=some (.lst us)->Reps H' (FM.map fmD) us->Q (.ref l) H'
def WS:Str:=γ "number: name: length:L if:eee let:xee pair:ee first:e second:e none:K join:ee take:Le drop:Le" ++ γ " zip:ee turn:e get:ee place:LL value:e up:Le wide:Le mirror:e fork:Lexee when:eLxee" ++ γ " loop:xLe fold:xLxee reckon:ee reckon:ee row:e row:ee row:eee row:eeee" ++ γ " call: call:e call:ee call:eee call:eeee"
def fmT(p:Str×Str):Str:=p.1++γ ":" ++ p.2
theorem mX:Txt.split WS (γ " ")=FM.map fmT:=by decide +kernel
theorem vp:∀p∈FM,Txt.split (fmT p) (γ ":")=[p.1,p.2]/\(fmT p).length<=100:=by decide +kernel
theorem yR:WS.length<=300:=by decide +kernel
theorem sD:ao ["_law_walk","_law_at"] ["_law_walk"] (ah qo):=by trivial
theorem xh{f:Addr}{fd:Η}{k:Nat}(F:Fun K "_law_next" "_law_next" qo f fd)(T:Txt K mg)(D_law_state:Def P w K mg base k "_law_state" ["_law_script","_law_k"] (lP K)):aw P w K mg base CX0 (k+1) f fd ["_law_walk"] (yd K):=by
 have nd:=sD.nd
 refine F.ok sD (λvs H Q E h=>?_) (λcdv A outer s H vs Q E hr h=>?_)
 ·obtain⟨a,sc,ns,i,m,rfl,_⟩:=h
  rfl
 obtain⟨a,sc,ns,i,m,rfl,⟨ha,hS,i0,i1⟩,ln,q⟩:=h
 refine⟨_,(@un _ _ _ (wbO (wbM 1 nd rfl (Ε rfl) (waD aA (wv 0 rfl) waC (λ_ _=>rfl)) rfl ()) (wbO (wbD (waQ bF (wv 1 rfl) waC) (wba (wv 0 rfl) waC jM ()) rfl rfl rfl) (wbO (wbI (wbS gY (wv 1 rfl) (waD aA (wv 0 rfl) waC (λ_ _=>rfl)) (af _)) (wbQ (wbK (waq D_law_state hr rfl (wae (waD aA (wv 0 rfl) waC (λ_ _=>rfl)) (wae (wv 1 rfl) waf rfl) rfl) () rfl rfl))) wbP) (wbQ (wbK (waM (wae (waQ bF (waQ bF (waQ fq waC (wv 1 rfl)) (wal au rfl T.len () (wae (waD aA (wv 0 rfl) waC (λ_ _=>rfl)) waf rfl) () () rfl rfl)) waC) (wae wah waf rfl) rfl)))))))),?_⟩
 refine⟨_,rfl,a,_,1,.int i,rfl,rfl,SqL.of ha,ae (j:=1) rfl,?_⟩
 refine gnm ?_
 refine⟨_,rfl,_,_,rfl,rfl,_,rfl,a,_,1,1,rfl,rfl,ha,rfl,?_⟩
 have sB:=ar.upd H a (.lst [.ref sc,.int (i+1),.int m])
 have h1:upd H a (.lst [.ref sc,.int (i+1),.int m]) a=some (.lst [.ref sc,.int (i+1),.int m]):=aa
 have hS1:SqL K (upd H a (.lst [.ref sc,.int (i+1),.int m])) sc (ns.map V.int):=hS _ sB
 have old:∀r,upd H a (.lst [.ref sc,.int (i+1),.int m]) r=none->H r=none:=λr hr=>by
  have:r≠a:=λz=>by rw[z,aa]at hr;cases hr
  rwa[aq this]at hr
 refine⟨_,rfl,_,rfl,a,_,2,.int m,rfl,rfl,SqL.of h1,ae (j:=2) rfl,_,_,rfl,rfl,_,rfl,ap (λ_=>?_) (λ_=>?_)⟩
 ·refine⟨_,rfl,a,_,0,.ref sc,rfl,rfl,SqL.of h1,ae (j:=0) rfl,_,rfl,sc,ns,i,rfl,hS1,i0,λH2 r s2 hr st=>?_⟩
  exact q H2 r (sB.trans (ai.b a s2)) (s2 _ _ h1) (old r hr) st
 ·refine⟨_,rfl,_,_,rfl,rfl,.inl ⟨(),()⟩,_,rfl,a,_,0,.ref sc,rfl,rfl,SqL.of h1,ae (j:=0) rfl,sc,_,rfl,.inl hS1,_,_,rfl,rfl,_,_,rfl,rfl,z2,λr hr=>?_⟩
  exact q _ r (sB.trans (ai.b a (ac hr _))) (ac hr _ _ _ h1) (old r hr) ⟨_,_,aa⟩
theorem oH:ao ["_law_words"] [] (ah mI):=by trivial
theorem vE{f:Addr}{fd:Η}(F:Fun K "_law_forms" "_law_forms" mI f fd)(T:Txt K mg):aw P w K mg base CX0 1 f fd [] qP:=by
 have nd:=oH.nd
 refine F.ok oH (λvs H Q E h=>?_) (λcdv A outer s H vs Q E hr h=>?_)
 ·obtain⟨rfl,_⟩:=h
  rfl
 obtain⟨rfl,q⟩:=h
 refine⟨_,(@un _ _ _ (wbO (wbM 0 nd rfl (Ε rfl) waV rfl ()) (wbO (wbM 0 nd rfl (Ε rfl) (waQ ax (wv 0 rfl) waV) rfl ()) (wbO (wbM 0 nd rfl (Ε rfl) (waQ ax (wv 0 rfl) waV) rfl ()) (wbO (wbM 0 nd rfl (Ε rfl) (waQ ax (wv 0 rfl) waV) rfl ()) (wbQ (wbK (waE ["_law_word"] [] (wbi (waj Ϗ k7 k_ dQ (wv 0 rfl) (wae waV waf rfl) rfl rfl rfl rfl rfl)) (.of rfl) rfl (λ_ _ _=>⟨pg_name (i:=0) (bp (l:=["_law_word"]) (()) rfl) rfl (Ε rfl)⟩) (bf ()) (λ_ _ _=>wbx) (λ_ _ _=>(wam (uh K rfl) rfl T.tuple () (wae ⟨yw K rfl Ϗ k7 k_ dQ (pv 0) (pa_cons pe_str pa_nil)⟩ waf rfl) () () rfl rfl)) ())))))))),?_⟩
 have len2:∀{m:Nat},m<=1000->m<=sizeLine:=λh=>by rw[ι];omega
 refine gnm ?_
 refine⟨_,rfl,_,_,rfl,rfl,len2 (),?_⟩
 refine gnm ?_
 refine⟨_,rfl,_,_,rfl,rfl,len2 (),?_⟩
 refine gnm ?_
 refine⟨_,rfl,_,_,rfl,rfl,len2 (),?_⟩
 refine gnm ?_
 have wl:=yR
 refine⟨_,rfl,rfl,WS,γ " ",rfl,rfl,(),len2 (),len2 (by rw[mX];decide +kernel),λl hl=>?_⟩
 rw[mX]
 have s1:=ac hl (.lst ((FM.map fmT).map V.str))
 have h1:upd H l (.lst ((FM.map fmT).map V.str)) l=some (.lst ((FM.map fmT).map V.str)):=aa
 generalize upd H l (.lst ((FM.map fmT).map V.str))=H1 at s1 h1⊢
 refine⟨l,rfl,⟨_,SqL.of h1⟩,fY (xs:=(FM.map fmT).map V.str) (λi ys H'=>ai H1 H'/\Reps H' ((FM.take i).map fmD) ys) ⟨ai.refl _,by simp[Reps]⟩ (λi ys H' _ p=>SqL.of (p.1 _ _ h1)) ?_ ?_⟩
 ·rintro i ys H3 x hx ⟨s3,R3⟩
  rw[Ξ,Ν]at hx
  obtain⟨p,hp,rfl⟩:=ϖ.mp hx
  obtain⟨e1,e2⟩:=vp p (ϊ hp)
  have hi:=(Θ.mp hp).1
  have h35:FM.length=35:=by decide +kernel
  refine bu ⟨_,rfl,rfl,fmT p,γ ":",rfl,rfl,(),len2 (),len2 (by rw[e1];simp),λr hr'=>?_⟩
  rw[e1]
  have s4:=ac hr' (.lst ([p.1,p.2].map V.str))
  refine⟨r,_,rfl,.inl ⟨SqL.of aa,λt ht=>⟨?_,s3.trans (s4.trans (ac ht _)),?_⟩⟩⟩
  ·rw[R3.length,η,Χ];exact len2 ()
  ·rw[Ϣ,hp,Ι]
   have s5:=ac ht (.tup ([p.1,p.2].map V.str))
   refine Reps.append (R3.mono (s4.trans s5)) (be ?_)
   show Rep _ (.tup [.str p.1,.str p.2]) _
   rw[Rep]
   exact⟨t,_,rfl,aa,by simp only[Reps,Ο,o_];exact⟨_,_,rfl,by simp only[Rep],_,_,rfl,by simp only[Rep],rfl⟩⟩
 ·rintro ys H3 ⟨s3,R3⟩ r hr'
  rw[η,η,ϛ]at R3
  have s4:=ac hr' (.lst ys)
  exact q _ r ys (s1.trans (s3.trans s4)) (by
   cases e:H r with
   |none=>rfl
   |some o=>rw[s3 r o (s1 r o e)]at hr';cases hr') aa (R3.mono s4)
abbrev lF:Stmt:=top 67
theorem xL{xs:List Str}{c:Int}{ps:List Pr}(h:Ln xs 99 c ps)(hn:∀x∈xs,nmB x=true):Sm c ps:=by
 have n1:∀p∈ps,nmB p.1=true:=λp hp=>hn _ (h.nm p hp).1
 refine⟨⟨⟨h.can,h.c0,by have:=h.cB;omega,by have:=h.len;omega,λp hp=>⟨by have:=(h.nm p hp).2;omega,(aY (n1 p hp)).2⟩⟩,n1⟩,zj h.c0 h.cB h.can (by have:=h.len;omega) λp hp=>⟨n1 p hp,(h.nm p hp).2⟩⟩
structure Wo(H:Hp)(g r1 r2:Addr)(xs ys:List Str):Prop where
 hg:H g=some (.tup [.ref r1,.ref r2])
 h1:H r1=some (.lst (xs.map V.str))
 h2:H r2=some (.lst (ys.map V.str))
 l1:xs.length=12
 nd:xs.Nodup
 n1:∀x∈xs,nmB x=true
 l2:1<=ys.length/\ys.length<=5
 n2:∀y∈ys,nmB y=true/\cv y=false/\ca y=false
theorem Wo.ne{H:Hp}{g r1 r2 a:Addr}{xs ys:List Str}(w:Wo H g r1 r2 xs ys)(h:St2 H a):g≠a/\r1≠a/\r2≠a:=by
 obtain⟨n,b,e⟩:=h
 refine⟨λz=>?_,λz=>?_,λz=>?_⟩
 ·have:=w.hg;rw[z,e]at this;cases this
 ·have h1:=w.h1
  have l1:=w.l1
  rw[z,e]at h1
  injection h1 with h1
  injection h1 with h1
  cases xs with
  |nil=>cases l1
  |cons x xs=>injection h1 with h1;cases h1
 ·have h2:=w.h2
  have l2:=w.l2.1
  rw[z,e]at h2
  injection h2 with h2
  injection h2 with h2
  cases ys with
  |nil=>simp at l2
  |cons x xs=>injection h2 with h2;cases h2
theorem Wo.b{H H':Hp}{g r1 r2 a:Addr}{xs ys:List Str}(w:Wo H g r1 r2 xs ys)(n:g≠a/\r1≠a/\r2≠a)(s:ar a H H'):Wo H' g r1 r2 xs ys:=
 ⟨s _ _ n.1 w.hg,s _ _ n.2.1 w.h1,s _ _ n.2.2 w.h2,w.l1,w.nd,w.n1,w.l2,w.n2⟩
def lt:So->Str
 |.e=>"e"
 |.l=>"L"
 |.k=>"K"
 |_=>"x"
def qO:Sp:=λvs H Q _=>∃(s:So) (a g r1 r2:Addr) (xs ys:List Str),vs=[.str (lt s),.ref a,.ref g]/\(s=.l\/s=.k\/s=.x\/s=.y)/\St2 H a/\Wo H g r1 r2 xs ys /\
 ∀(H':Hp)(v:V)(d:Dv)(b:Br),ar a H H'->St2 H' a->Rep H' (.tup [d,.str (brT b)]) v->(∀R,Ag R s d b)->bl b<=10200->((s=.x\/s=.y)->∃y∈xs,d=.str y/\b=.leaf y)->Q v H'
theorem iw(xs:List V)(n:Nat):bJ xs none (some (n:Int))=xs.take n:=by
 unfold bJ
 have e1:HT.sIx xs.length xs.length (some (n:Int))=min n xs.length:=HT.sIx_nat _ _ _
 have e2:HT.sIx xs.length 0 none=0:=rfl
 rw[e1,e2,CU,Nat.sub_zero]
 rcases Nat.le_total n xs.length with h|h
 ·rw[BY h]
 ·rw[Nat.min_eq_right h,ϛ,List.take_of_length_le h]
theorem xV(xs:List Str):bJ (xs.map V.str) none (some 4)=(xs.take 4).map V.str:=by
 rw[List.map_take];exact iw _ 4
theorem oP:ao ["_law_letter","_law_node","_law_world_here","_law_length_here","_law_kind_here","_law_name"] ["_law_letter","_law_node","_law_world_here"] (ah lF):=by trivial
theorem uB{f:Addr}{fd:Η}{k:Nat}(F:Fun K "_law_inner" "_law_inner" lF f fd)(T:Txt K mg)(D_law_draw:Def P w K mg base k "_law_draw" ["_law_state_here","_law_many"] dD)(D_law_length:Def P w K mg base k "_law_length" ["_law_state_here","_law_names_here","_law_most"] jf)(D_law_length_text:Def P w K mg base k "_law_length_text" ["_law_length_here"] ki)(D_law_kind:Def P w K mg base k "_law_kind" ["_law_state_here","_law_names_here","_law_room"] (ml 12))(D_law_kind_text:Def P w K mg base k "_law_kind_text" ["_law_kind_here"] (gJ 12)):aw P w K mg base CX0 (k+1) f fd ["_law_letter","_law_node","_law_world_here"] qO:=by
 have nd:=oP.nd
 refine F.ok oP (λvs H Q E h=>?_) (λcdv A outer s H vs Q E hr h=>?_)
 ·obtain⟨s,a,g,r1,r2,xs,ys,rfl,_⟩:=h
  rfl
 obtain⟨s,a,g,r1,r2,xs,ys,rfl,hs,st,wo,q⟩:=h
 obtain⟨ng,n1,n2⟩:=wo.ne st
 refine⟨_,(@un _ _ _ (wbO (wbI (wbS av (wv 0 rfl) waV (af _)) (wbO (wbM 3 nd rfl (Ε rfl) (waq D_law_length hr rfl (wae (wv 1 rfl) (wae (waT dA (waD am (wv 2 rfl) waC (λ_ _=>rfl)) wbz (wbA waC)) (wae waC waf rfl) rfl) rfl) () rfl rfl) rfl ()) (wbQ (wbK (waX (wae (wv 3 rfl) (wae (waq D_law_length_text hr rfl (wae (wv 3 rfl) waf rfl) () rfl rfl) waf rfl) rfl))))) wbP) (wbO (wbI (wbS av (wv 0 rfl) waV (af _)) (wbO (wbM 4 nd rfl (Ε rfl) (waq D_law_kind hr rfl (wae (wv 1 rfl) (wae (waT dA (waD am (wv 2 rfl) waC (λ_ _=>rfl)) wbz (wbA waC)) (wae waC waf rfl) rfl) rfl) () rfl rfl) rfl ()) (wbQ (wbK (waX (wae (wv 4 rfl) (wae (waq D_law_kind_text hr rfl (wae (wv 4 rfl) waf rfl) () rfl rfl) waf rfl) rfl))))) wbP) (wbO (wbM 5 nd rfl (Ε rfl) (waD aA (waD am (wv 2 rfl) waC (λ_ _=>rfl)) (waq D_law_draw hr rfl (wae (wv 1 rfl) (wae waC waf rfl) rfl) () rfl rfl) (λ_ _=>rfl)) rfl ()) (wbQ (wbK (waX (wae (wv 5 rfl) (wae (wv 5 rfl) waf rfl) rfl)))))))),?_⟩
 dsimp only[bo,Cx.nox]
 have n4:∀x∈xs.take 4,nmB x=true:=λx hx=>wo.n1 x (p_ hx)
 have cut:∀{l:Addr},H l=none->ar a H (upd H l (.lst ((xs.take 4).map V.str)))/\St2 (upd H l (.lst ((xs.take 4).map V.str))) a/\l≠a/\upd H l (.lst ((xs.take 4).map V.str)) l=some (.lst ((xs.take 4).map V.str)):=λ{l} hl=>by
  have s1:=ac hl (.lst ((xs.take 4).map V.str))
  exact⟨ai.b a s1,st.m s1,(λz=>by obtain⟨_,_,e⟩:=st;rw[z,e]at hl;cases hl),aa⟩
 refine⟨_,rfl,rfl,_,rfl,?_⟩
 rcases hs with rfl|rfl|hx
 ·refine ap (λ_=>?_) (λh=>absurd (Q9 rfl) h)
  refine⟨_,rfl,_,rfl,g,_,0,.ref r1,rfl,rfl,SqT.of wo.hg,ae (j:=0) rfl,?_⟩
  dsimp only[bn]
  refine⟨4,rfl,r1,_,rfl,SqL.of wo.h1,λl hl=>?_⟩
  rw[xV]
  obtain⟨s1,st1,la,h1⟩:=cut hl
  refine⟨a,l,99,xs.take 4,rfl,st1,h1,la,by rw[Χ];omega,(),(),λH2 v c ps s2 st2 R2 ln=>?_⟩
  have sm:=xL ln n4
  refine gnm ?_
  refine⟨_,rfl,_,rfl,v,c,ps,rfl,R2,sm.1.1,λH3 s3=>⟨z2,λt ht=>?_⟩⟩
  have s4:=ac ht (.tup [v,.str (bY c ps)])
  have ll:=bR sm.1.1
  refine q _ _ (bz c ps) (.leaf (bY c ps)) (s1.trans (s2.trans (ai.b a (s3.trans s4)))) (st2.m (s3.trans s4)) ?_ (λR=>⟨c,ps,rfl,rfl,sm⟩) (by unfold bl;rw[brT];omega) (λz=>by rcases z with z|z<;>cases z)
  rw[brT,Rep]
  exact⟨t,_,rfl,aa,by simp only[Reps];exact⟨_,_,rfl,R2.mono (s3.trans s4),_,_,rfl,by simp only[Rep],rfl⟩⟩
 ·refine ap (λh=>absurd h ()) (λ_=>?_)
  refine⟨_,rfl,rfl,_,rfl,ap (λ_=>?_) (λh=>absurd (Q9 rfl) h)⟩
  refine⟨_,rfl,_,rfl,g,_,0,.ref r1,rfl,rfl,SqT.of wo.hg,ae (j:=0) rfl,?_⟩
  dsimp only[bn]
  refine⟨4,rfl,r1,_,rfl,SqL.of wo.h1,λl hl=>?_⟩
  rw[xV]
  obtain⟨s1,st1,la,h1⟩:=cut hl
  refine⟨a,l,6,xs.take 4,rfl,(),(),(),st1,h1,la,by rw[Χ];omega,λH2 v k s2 st2 R2 kA k6=>?_⟩
  have sm:k.All Sm:=bS (λ_ _ h=>xL h n4) kA
  have wr:k.All Wr:=bS (λ_ _ h=>h.1.1) sm
  refine gnm ?_
  refine⟨_,rfl,_,rfl,v,k,rfl,R2,(),(),wr,λH3 s3=>⟨z2,λt ht=>?_⟩⟩
  have s4:=ac ht (.tup [v,.str (kdT k)])
  have ll:=br wr
  refine q _ _ k.dv (cz k) (s1.trans (s2.trans (ai.b a (s3.trans s4)))) (st2.m (s3.trans s4)) ?_ (λR=>⟨k,rfl,rfl,sm,()⟩) (by unfold bl;rw[eZ];omega) (λz=>by rcases z with z|z<;>cases z)
  rw[eZ,Rep]
  exact⟨t,_,rfl,aa,by simp only[Reps];exact⟨_,_,rfl,R2.mono (s3.trans s4),_,_,rfl,by simp only[Rep],rfl⟩⟩
 ·have el:lt s=γ "x":=by rcases hx with rfl|rfl<;>rfl
  rw[el]
  refine ap (λh=>absurd h ()) (λ_=>?_)
  refine⟨_,rfl,rfl,_,rfl,ap (λh=>absurd h ()) (λ_=>?_)⟩
  refine⟨_,rfl,g,_,0,.ref r1,rfl,rfl,SqT.of wo.hg,ae (j:=0) rfl,_,rfl,a,12,rfl,st,(),(),λH2 i s2 st2 i0 i1=>?_⟩
  obtain⟨y,hy,he⟩:∃y,y∈xs/\atI (xs.map V.str) i=some (.str y):=by
   have hi:i.toNat<xs.length:=by rw[wo.l1];omega
   refine⟨xs[i.toNat],i8 hi,?_⟩
   have e:=ae (xs:=xs.map V.str) (j:=i.toNat) (v:=.str xs[i.toNat]) (by rw[Ν,ς hi];rfl)
   rwa[show((i.toNat:Nat):Int)=i by omega]at e
  refine⟨r1,_,i,.str y,rfl,rfl,SqL.of (s2 _ _ n1 wo.h1),he,?_⟩
  refine gnm ?_
  refine⟨_,rfl,_,rfl,z2,λt ht=>?_⟩
  have ny:=wo.n1 y hy
  have s4:=ac ht (.tup [.str y,.str y])
  refine q _ _ (.str y) (.leaf y) (s2.trans (ai.b a s4)) (st2.m s4) ?_ (λR=>by rcases hx with rfl|rfl<;>exact⟨y,rfl,rfl,ny⟩) (by unfold bl;rw[brT];have:=(aY ny).2;show y.cps.size<=_;omega) (λ_=>⟨y,hy,rfl,rfl⟩)
  rw[brT,Rep]
  exact⟨t,_,rfl,aa,by simp only[Reps];exact⟨_,_,rfl,by simp only[Rep],_,_,rfl,by simp only[Rep],rfl⟩⟩
abbrev kU:Stmt:=top 68
theorem xY{m:Nat}{R:Dv->Br->Prop}(hm:9<=m)(hR:∀d b,R d b->L2.Pl m d):∀{s:So}{d:Dv}{b:Br},Ag R s d b->L2.Pl m d
 |.e,_,_,h=>hR _ _ h
 |.l,_,_,h=>by obtain⟨c,ps,rfl,_,_⟩:=h;exact(mi c ps).up ()
 |.k,_,_,h=>by obtain⟨k,rfl,_,_,k6⟩:=h;exact k.pl.up ()
 |.x,_,_,h=>by obtain⟨y,rfl,_,_⟩:=h;exact .str
 |.y,_,_,h=>by obtain⟨y,rfl,_,_⟩:=h;exact .str
theorem pZ{m:Nat}{R:Dv->Br->Prop}(hm:9<=m)(hR:∀d b,R d b->L2.Pl m d){ss:List So}{ds:List Dv}{bs:List Br}(h:Ags R ss ds bs):∀d∈ds,L2.Pl m d:=by
 induction h with
 |nil=>exact nofun
 |cons a _ ih=>
  intro d hd
  rcases ν.mp hd with rfl|hd
  ·exact xY hm hR a
  ·exact ih d hd
theorem eI{m:Nat}{x:Str}{ds:List Dv}(h:∀d∈ds,L2.Pl m d):L2.Pl (m+1) (.tup (.str x::ds)):=.tup λd hd=>by
 rcases ν.mp hd with rfl|hd
 ·exact .str
 ·exact h d hd
theorem nV:∀{n:Nat}{d:Dv}{b:Br},Wx n d b->L2.Pl (2*n+9) d
 |n+1,d,b,h=>by
  have hR:∀d b,Wx n d b->L2.Pl (2*n+9) d:=λd b h=>nV h
  rw[Wx]at h
  show L2.Pl (2*n+10+1) d
  rcases h with ⟨i,h0,h1,rfl,rfl⟩|⟨y,hy,rfl,rfl⟩|⟨f,ds,bs,hf,hw,hr,l4,ha,rfl,rfl⟩|⟨r,d1,d2,b1,b2,hr,w1,w2,rfl,rfl⟩|⟨ds,bs,l1,l4,ha,rfl,rfl⟩|⟨p,ds,bs,hp,_,ha,fo,rfl,rfl⟩
  ·exact eI λd hd=>by rw[μ.mp hd];exact .int
  ·exact eI λd hd=>by rw[μ.mp hd];exact .str
  ·exact eI λd hd=>by
    rcases ν.mp hd with rfl|hd
    ·exact .str
    ·rw[μ.mp hd];exact .tup λd hd=>by obtain⟨b,_,r⟩:=ha.mem.1 d hd;exact hR d b r
  ·exact eI λd hd=>by
    rcases ν.mp hd with rfl|hd
    ·exact .str
    ·rcases ν.mp hd with rfl|hd
     ·exact(hR _ _ w1).up ()
     ·rw[μ.mp hd];exact(hR _ _ w2).up ()
  ·exact eI λd hd=>by rw[μ.mp hd];exact .tup λd hd=>by obtain⟨b,_,r⟩:=ha.mem.1 d hd;exact hR d b r
  ·exact eI λd hd=>(pZ () hR ha d hd).up ()
theorem Aa{i:Int}(h0:0<=i)(h1:i<5):∃r:Str,ca r=true/\atI ([V.str (γ "plus"),V.str (γ "minus"),V.str (γ "times"),V.str (γ "less"),V.str (γ "same")]:List V) i=some (.str r):=by
 have e:i=0\/i=1\/i=2\/i=3\/i=4:=by omega
 rcases e with rfl|rfl|rfl|rfl|rfl
 ·exact⟨_,(),ae (j:=0) rfl⟩
 ·exact⟨_,(),ae (j:=1) rfl⟩
 ·exact⟨_,(),ae (j:=2) rfl⟩
 ·exact⟨_,(),ae (j:=3) rfl⟩
 ·exact⟨_,(),ae (j:=4) rfl⟩
def yt(R:Dv->Br->Prop)(xs:List Str)(w:Str)(ds:List Dv)(bs:List Br)(sub:List Dv):Prop:=
 (w="reckon"/\Als R ds bs/\ds.length=2/\sub=ds)\/(w="row"/\Als R ds bs/\1<=ds.length/\ds.length<=4/\sub=ds)\/(w="call"/\Als R ds bs/\ds.length<=4/\sub=ds) \/
 (∃p∈WT,w=p.1/\frm p.1=true/\Ags R p.2.2 ds bs/\sub=ba p.2.2 ds/\∀y,ds[0]?=some (.str y)->y∈xs)
theorem Au{n:Nat}{xs:List Str}{w:Str}{ds sub:List Dv}{bs:List Br}(h:yt (Wx n) xs w ds bs sub):∀d∈ds,L2.Pl (2*n+9) d:=by
 have hR:∀d b,Wx n d b->L2.Pl (2*n+9) d:=λd b h=>nV h
 have al:Als (Wx n) ds bs->∀d∈ds,L2.Pl (2*n+9) d:=λha d hd=>by obtain⟨b,_,r⟩:=ha.mem.1 d hd;exact hR d b r
 rcases h with ⟨_,h,_⟩|⟨_,h,_⟩|⟨_,h,_⟩|⟨p,_,_,_,h,_⟩
 ·exact al h
 ·exact al h
 ·exact al h
 ·exact pZ () hR h
def sj:Sp:=λvs H Q _=>∃(n:Nat) (w:Str) (lp lt a g r1 r2:Addr) (us:List V) (ds sub:List Dv) (bs:List Br) (xs ys:List Str),vs=[.str w,.ref lp,.ref lt,.ref a,.ref g]/\H lp=some (.lst us)/\Reps H ds us/\H lt=some (.lst (bs.map bv))/\lp≠a/\lt≠a/\St2 H a/\Wo H g r1 r2 xs ys /\
 yt (Wx n) xs w ds bs sub/\(bs.map bl).sum<=1000000/\∀(H':Hp)(v:V)(d:Dv)(b:Br),ar a H H'->St2 H' a->Rep H' (.tup [d,.str (brT b)]) v->Wx (n+1) d b->exN (n+1) d=1+(sub.map (exN n)).sum->Q v H'
theorem sE{t u:TS}{D:bZ}{σ:St}{H:Hp}(h:∀X:St->Hp->Prop,(∀σ' H',u D σ' H'->X σ' H')->t {D with nx:=X} σ H):iA t u D σ H:=h _ λ_ _ z=>z
theorem AI{s1 s2 i1 i2 i3 i4 r:TS}{D:bZ}{σ:St}{H:Hp}(h:∀Y1 Y2 Y3 Y4 Y5 Y6:St->Hp->Prop,(∀σ H,r D σ H->Y6 σ H)->(∀σ H,i4 {D with nx:=Y6} σ H->Y5 σ H)->(∀σ H,i3 {D with nx:=Y5} σ H->Y4 σ H)->(∀σ H,i2 {D with nx:=Y4} σ H->Y3 σ H)->(∀σ H,i1 {D with nx:=Y3} σ H->Y2 σ H)->(∀σ H,s2 {D with nx:=Y2} σ H->Y1 σ H)->s1 {D with nx:=Y1} σ H):
  iA s1 (iA s2 (iA i1 (iA i2 (iA i3 (iA i4 r))))) D σ H:=h _ _ _ _ _ _ (λ_ _ z=>z) (λ_ _ z=>z) (λ_ _ z=>z) (λ_ _ z=>z) (λ_ _ z=>z) λ_ _ z=>z
theorem xk{k:Nat}{ix:List Nat}{i:Nat}{tt:TT}{te:TE}{σ:St}{x:V}{ys:List V}{H:Hp}{N:List V->Hp->Prop}(h:tt ((cZ k ix σ).set i (some x)) H λc H3=>if c=true then te ((cZ k ix σ).set i (some x)) H3 λy H4=>ys.length<sizeLine/\N (ys++[y]) H4 else N ys H3):
  de k ix (cP i) tt te σ x ys H N:=h
theorem xn{xs:List Str}{y:Str}(nd:xs.Nodup)(h:y∈xs):(xs.filter λz=>decide (z≠y)).length+1=xs.length:=by
 induction xs with
 |nil=>cases h
 |cons x xs ih=>
  rw[n9]at nd
  by_cases e:x=y
  ·subst e
   rw[List.filter_cons_of_neg (),ω]
   have:xs.filter (λz=>decide (z≠x))=xs:=List.filter_eq_self.mpr λz hz=>Q9 λq=>nd.1 (q▸hz)
   rw[this]
  ·rw[List.filter_cons_of_pos (by simpa using e),ω,ω]
   have:=ih nd.2 ((ν.mp h).resolve_left (λq=>e q.symm))
   omega
theorem mR:ao ["_law_word","_law_parts","_law_texts","_law_node","_law_world_here","_law_told","_law_one","_law_other"] ["_law_word","_law_parts","_law_texts","_law_node","_law_world_here"] (ah kU):=by trivial
theorem vo{f:Addr}{fd:Η}{k:Nat}(F:Fun K "_law_whole" "_law_whole" kU f fd)(T:Txt K mg)(D_law_draw:Def P w K mg base k "_law_draw" ["_law_state_here","_law_many"] dD):aw P w K mg base CX0 (k+1) f fd ["_law_word","_law_parts","_law_texts","_law_node","_law_world_here"] sj:=by
 have nd:=mR.nd
 refine F.ok mR (λvs H Q E h=>?_) (λcdv A outer s H vs Q E hr h=>?_)
 ·obtain⟨n,w,lp,lt,a,g,r1,r2,us,ds,sub,bs,xs,ys,rfl,_⟩:=h
  rfl
 obtain⟨n,w,lp,lt,a,g,r1,r2,us,ds,sub,bs,xs,ys,rfl,hlp,ru,hlt,nlp,nlt,st,wo,fm,lb,q⟩:=h
 refine⟨_,(@un _ _ _ (wbO (wbM 5 nd rfl (Ε rfl) (wv 0 rfl) rfl ()) (wbO (wbM 6 nd rfl (Ε rfl) (waQ eK (waX (wae (wv 0 rfl) waf rfl)) (wam aJ rfl T.tuple () (wae (wv 1 rfl) waf rfl) () () rfl rfl)) rfl ()) (wbO (wbI (wbS av (wv 0 rfl) waV (af _)) (wbO (wbM 5 nd rfl (Ε rfl) (waD aA (waM (wae waV (wae waV (wae waV (wae waV (wae waV waf rfl) rfl) rfl) rfl) rfl)) (waq D_law_draw hr rfl (wae (wv 3 rfl) (wae waC waf rfl) rfl) () rfl rfl) (λ_ _=>rfl)) rfl ()) (wbQ (wbM 6 nd rfl (Ε rfl) (waQ eK (waX (wae (wv 0 rfl) (wae (wv 5 rfl) waf rfl) rfl)) (wam aJ rfl T.tuple () (wae (wv 1 rfl) waf rfl) () () rfl rfl)) rfl ()))) wbP) (wbO (wbI (wbS av (wv 0 rfl) waV (af _)) (wbQ (wbM 6 nd rfl (Ε rfl) (waX (wae (wv 0 rfl) (wae (wam aJ rfl T.tuple () (wae (wv 1 rfl) waf rfl) () () rfl rfl) waf rfl) rfl)) rfl ())) wbP) (wbO (wbI (wbS av (wv 0 rfl) waV (af _)) (wbO (wbM 5 nd rfl (Ε rfl) (waD aA (waD am (wv 4 rfl) waC (λ_ _=>rfl)) (waq D_law_draw hr rfl (wae (wv 3 rfl) (wae (wal au rfl T.len () (wae (waD am (wv 4 rfl) waC (λ_ _=>rfl)) waf rfl) () () rfl rfl) waf rfl) rfl) () rfl rfl) (λ_ _=>rfl)) rfl ()) (wbQ (wbM 6 nd rfl (Ε rfl) (waX (wae (wv 0 rfl) (wae (wv 5 rfl) (wae (wam aJ rfl T.tuple () (wae (wv 1 rfl) waf rfl) () () rfl rfl) waf rfl) rfl) rfl)) rfl ()))) wbP) (wbO (wbI (wab (wbW (wbS av (wv 0 rfl) waV (af _)) (wbX (wbS av (waD aA (wv 1 rfl) waC (λ_ _=>rfl)) (waD aA (wv 1 rfl) waC (λ_ _=>rfl)) (af _))))) (wbO (wbM 7 nd rfl (Ε rfl) (waD aA (waE ["_law_name"] [1] (wbi (waD am (wv 4 rfl) waC (λ_ _=>rfl))) (.of rfl) rfl (λ_ _ _=>⟨pg_name (i:=0) (bp (l:=["_law_name","_law_parts"]) (()) rfl) rfl (Ε rfl)⟩) (bf ()) (λ_ _ _=>⟨xt (pt_cmpR eT (pv 0) (pe_ix (pe K rfl) (pv 1) pe_int (λ_ _=>rfl)) (af _))⟩) (λ_ _ _=>(wv 0 rfl)) ()) (waq D_law_draw hr rfl (wae (wv 3 rfl) (wae waC waf rfl) rfl) () rfl rfl) (λ_ _=>rfl)) rfl ()) (wbO (wbM 6 nd rfl (Ε rfl) (waQ eK (waQ eK (waT eO (wv 6 rfl) wbz (wbA waC)) (waX (wae (wv 7 rfl) waf rfl))) (waT eO (wv 6 rfl) (wbA waC) wbz)) rfl ()) (wbQ (wbM 2 nd rfl (Ε rfl) (waQ mq (waQ mq (waT dA (wv 2 rfl) wbz (wbA waC)) (waM (wae (wv 7 rfl) waf rfl))) (waT dA (wv 2 rfl) (wbA waC) wbz)) rfl ())))) wbP) (wbQ (wbK (waX (wae (wv 6 rfl) (wae (waQ ax (waQ ax (waQ ax (wv 5 rfl) waV) (waj Ϗ x6 x9 io waV (wae (wv 2 rfl) waf rfl) rfl rfl rfl rfl rfl)) waV) waf rfl) rfl))))))))))),?_⟩
 have lu:=ru.length
 have l8:ds.length<=8:=by
  rcases fm with ⟨_,_,h,_⟩|⟨_,_,_,h,_⟩|⟨_,_,h,_⟩|⟨p,hp,_,_,h,_⟩
  ·omega
  ·omega
  ·omega
  ·have:=cj p hp;rw[h.len.2];omega
 dsimp only[bo,Cx.nox]
 refine AI λY1 Y2 Y3 Y4 Y5 Y6 h7 h6 h5 h4 h3 h2=>⟨_,rfl,gnm (h2 _ _ ?_)⟩
 have fin:∀(H3:Hp)(z:Str)(l:Addr)(o7:Option V)(bs':List Br)(d:Dv)(v:V),ar a H H3->St2 H3 a->Rep H3 d v->H3 l=some (.lst (bs'.map bv))->nmB z=true->(bs'.map bl).sum<=1000008->bs'.length<=8->Wx (n+1) d (.nd z bs')->exN (n+1) d=1+(sub.map (exN n)).sum->Y6 [some (.str w),some (.ref lp),some (.ref l),some (.ref a),some (.ref g),some (.str z),some v,o7] H3:=λH3 z l o7 bs' d v s3 st3 R3 hl nz lb' l8' wx ex=>by
  have lj:=eu (γ ", ") (bs'.map brT)
  rw[eP,η,Ξ]at lj
  have eb:((bs'.map ((λx:Str=>x.length)∘brT)).sum)=(bs'.map bl).sum:=rfl
  rw[eb]at lj
  have lw:z.length<=8:=(aY nz).2
  refine h7 _ _ ⟨_,rfl,_,rfl,_,_,rfl,rfl,by rw[ι,lb3];omega,rfl,_,rfl,_,l,bs'.map brT,rfl,rfl,SqL.of (by rw[hl,Ξ];rfl),by rw[Ξ,η,eP,eb];omega,?_⟩
  rw[tj]
  refine⟨_,_,rfl,rfl,by rw[ι,Γ,lb3];omega,_,_,rfl,rfl,by rw[ι,Γ,Γ,lb3,lb4];omega,z2,λm hm=>?_⟩
  have s4:=ac hm (.tup [v,.str (z++γ "(" ++ a9 (γ ", ") (bs'.map brT)++γ ")")])
  refine q _ _ d (.nd z bs') (s3.trans (ai.b a s4)) (st3.m s4) ?_ wx ex
  rw[brT,dM,Rep]
  exact⟨m,_,rfl,aa,by simp only[Reps];exact⟨_,_,rfl,R3.mono s4,_,_,rfl,by simp only[Rep],rfl⟩⟩
 have p4:∀{τ:St}{H3:Hp},w≠γ "fold"->Y6 (some (.str w)::τ) H3->Y5 (some (.str w)::τ) H3:=λne y=>h6 _ _ ⟨_,rfl,rfl,_,rfl,ap (fwd ne) (λ_=>aG (tnx y))⟩
 have p3:∀{τ:St}{H3:Hp},w≠γ "call"->Y5 (some (.str w)::τ) H3->Y4 (some (.str w)::τ) H3:=λne y=>h5 _ _ ⟨_,rfl,rfl,_,rfl,ap (fwd ne) (λ_=>tnx y)⟩
 have p2:∀{τ:St}{H3:Hp},w≠γ "row"->Y4 (some (.str w)::τ) H3->Y3 (some (.str w)::τ) H3:=λne y=>h4 _ _ ⟨_,rfl,rfl,_,rfl,ap (fwd ne) (λ_=>tnx y)⟩
 have p1:∀{τ:St}{H3:Hp},w≠γ "reckon"->Y3 (some (.str w)::τ) H3->Y2 (some (.str w)::τ) H3:=λne y=>h3 _ _ ⟨_,rfl,rfl,_,rfl,ap (fwd ne) (λ_=>tnx y)⟩
 have key:∀(H2:Hp)(t:Addr),ai H H2->H2 t=some (.tup (.str w::us))->Y2 [some (.str w),some (.ref lp),some (.ref lt),some (.ref a),some (.ref g),some (.str w),some (.ref t),none] H2:=λH2 t s2 ht=>by
  have ruB:∀{H3:Hp},ar a H H3->Reps H3 ds us:=λ{H3} s3=>cg (λd hd v r=>cm (st.tups s3) (Au fm d hd) r) ru
  rcases fm with ⟨rfl,al,l2,rfl⟩|⟨rfl,al,l1,l4,rfl⟩|⟨rfl,al,l4,rfl⟩|⟨pw,hpw,rfl,hf,ag,rfl,hx⟩
  ·refine h3 _ _ ⟨_,rfl,rfl,_,rfl,ap (λ_=>sE λX hX=>?_) (λh=>absurd (Q9 rfl) h)⟩
   refine⟨by rw[ι];decide,λl5 hl5=>?_⟩
   have s3:=ac hl5 (.lst [.str (γ "plus"),.str (γ "minus"),.str (γ "times"),.str (γ "less"),.str (γ "same")])
   have h5:upd H2 l5 (.lst [.str (γ "plus"),.str (γ "minus"),.str (γ "times"),.str (γ "less"),.str (γ "same")]) l5=some _:=aa
   have s23:=s2.trans s3
   have l5a:l5≠a:=λz=>by obtain⟨_,_,e⟩:=st;rw[z,s2 _ _ e]at hl5;cases hl5
   generalize upd H2 l5 (.lst [.str (γ "plus"),.str (γ "minus"),.str (γ "times"),.str (γ "less"),.str (γ "same")])=H3 at s23 h5⊢
   refine⟨_,rfl,a,5,rfl,st.m s23,(),(),λH4 i s4 st4 i0 i1=>?_⟩
   obtain⟨r,hr',hat⟩:=Aa i0 i1
   refine⟨l5,_,i,.str r,rfl,rfl,SqL.of (s4 _ _ l5a h5),hat,gnm (hX _ _ ?_)⟩
   have s04:ar a H H4:=(ai.b a s23).trans s4
   have nr:=(fR r (dq hr')).1
   refine⟨_,rfl,_,rfl,z2,λt5 ht5=>?_⟩
   have s5:=ac ht5 (.tup [.str (γ "reckon"),.str r])
   refine⟨_,rfl,lp,_,rfl,.inl ⟨SqL.of (s5 _ _ (s04 _ _ nlp hlp)),λt6 ht6=>?_⟩⟩
   have s6:=ac ht6 (.tup us)
   have h56:=s6 _ _ (aa (H:=H4) (a:=t5) (o:=.tup [.str (γ "reckon"),.str r]))
   refine⟨t5,t6,_,_,rfl,rfl,SqT.of h56,SqT.of aa,by rw[ι];simp;omega,nofun,(λe=>by have:=congrArg o9 e;rw[lu,l2]at this;cases this),λp hp=>?_⟩
   have s7:=ac hp (.tup ([V.str (γ "reckon"),V.str r]++us))
   have s47:=s5.trans (s6.trans s7)
   have s07:ar a H _:=s04.trans (ai.b a s47)
   obtain⟨d1,d2,rfl⟩:∃d1 d2,sub=[d1,d2]:=by
    match sub,l2 with
    |[d1,d2],_=>exact⟨d1,d2,rfl⟩
   obtain⟨b1,b2,w1,w2,rfl⟩:∃b1 b2,Wx n d1 b1/\Wx n d2 b2/\bs=[b1,b2]:=by
    cases al with
    |cons a1 al=>
     cases al with
     |cons a2 al=>
      cases al
      exact⟨_,_,a1,a2,rfl⟩
   have ru7:Reps (upd (upd (upd H4 t5 (.tup [.str (γ "reckon"),.str r])) t6 (.tup us)) p (.tup ([V.str (γ "reckon"),V.str r]++us))) [d1,d2] us:=ruB s07
   have R7:Rep (upd (upd (upd H4 t5 (.tup [.str (γ "reckon"),.str r])) t6 (.tup us)) p (.tup ([V.str (γ "reckon"),V.str r]++us))) (.tup [.str (γ "reckon"),.str r,d1,d2]) (.ref p):=by
    rw[Rep]
    refine⟨p,_,rfl,aa,Reps.append (ds:=[.str (γ "reckon"),.str r]) ?_ ru7⟩
    simp only[Reps]
    exact⟨_,_,rfl,by simp only[Rep],_,_,rfl,by simp only[Rep],rfl⟩
   have st7:=st4.m s47
   generalize upd (upd (upd H4 t5 (.tup [.str (γ "reckon"),.str r])) t6 (.tup us)) p (.tup ([V.str (γ "reckon"),V.str r]++us))=H7 at s07 R7 st7⊢
   have wx:Wx (n+1) (.tup [.str (γ "reckon"),.str r,d1,d2]) (.nd r [b1,b2]):=by
    rw[Wx];exact .inr (.inr (.inr (.inl ⟨r,d1,d2,b1,b2,hr',w1,w2,rfl,rfl⟩)))
   have ex:=dI (n:=n) (p:=iE) in5.2.1 (ds:=[.str r,d1,d2]) (bQ wx).1
   have hlt7:=s07 _ _ nlt hlt
   exact gnm (p2 () (p3 () (p4 () (fin _ _ _ _ _ _ _ s07 st7 R7 hlt7 nr () (by show 2<=8;decide) wx ex))))
  ·refine p1 () (h4 _ _ ⟨_,rfl,rfl,_,rfl,ap (λ_=>?_) (λh=>absurd (Q9 rfl) h)⟩)
   refine⟨_,rfl,_,rfl,lp,_,rfl,.inl ⟨SqL.of (s2 _ _ hlp),λt3 ht3=>⟨z2,λt4 ht4=>?_⟩⟩⟩
   have s3:=ac ht3 (.tup us)
   have s4:=ac ht4 (.tup [.str (γ "row"),.ref t3])
   have s24:=s2.trans (s3.trans s4)
   have R4:Rep (upd (upd H2 t3 (.tup us)) t4 (.tup [.str (γ "row"),.ref t3])) (.tup [.str (γ "row"),.tup sub]) (.ref t4):=by
    rw[Rep]
    refine⟨t4,_,rfl,aa,?_⟩
    simp only[Reps]
    refine⟨_,_,rfl,by simp only[Rep],_,_,rfl,?_,rfl⟩
    rw[Rep]
    exact⟨t3,us,rfl,s4 _ _ aa,ru.mono s24⟩
   generalize upd (upd H2 t3 (.tup us)) t4 (.tup [.str (γ "row"),.ref t3])=H4 at s24 R4⊢
   have wx:Wx (n+1) (.tup [.str (γ "row"),.tup sub]) (.nd (γ "row") bs):=by
    rw[Wx];exact .inr (.inr (.inr (.inr (.inl ⟨sub,bs,l1,l4,al,rfl,rfl⟩))))
   have ex:=dI (n:=n) (p:=oZ) in5.2.2.1 (ds:=[.tup sub]) (bQ wx).1
   rw[show ba oZ.2.2 [.tup sub]=sub by show sub++[]=sub;rw[ϙ]]at ex
   have hlt4:=s24 _ _ hlt
   have la:=al.len
   exact gnm (p3 () (p4 () (fin _ _ _ _ _ _ _ (ai.b a s24) (st.m s24) R4 hlt4 () () () wx ex)))
  ·refine p1 () (p2 () (h5 _ _ ⟨_,rfl,rfl,_,rfl,ap (λ_=>sE λX hX=>?_) (λh=>absurd (Q9 rfl) h)⟩))
   obtain⟨ng,n1,n2⟩:=wo.ne st
   have wg:=s2 _ _ wo.hg
   have w2:=s2 _ _ wo.h2
   have ly:=wo.l2
   refine⟨_,rfl,g,_,1,.ref r2,rfl,rfl,SqT.of wg,ae (j:=1) rfl,_,rfl,_,rfl,g,_,1,.ref r2,rfl,rfl,SqT.of wg,ae (j:=1) rfl,r2,_,rfl,.inl (SqL.of w2),a,_,rfl,st.m s2,by rw[η];omega,by rw[η];omega,λH4 i s4 st4 i0 i1=>?_⟩
   rw[η]at i1
   obtain⟨y,hy,hat⟩:∃y,y∈ys/\atI (ys.map V.str) i=some (.str y):=by
    have hi:i.toNat<ys.length:=by omega
    refine⟨ys[i.toNat],i8 hi,?_⟩
    have e:=ae (xs:=ys.map V.str) (j:=i.toNat) (v:=.str ys[i.toNat]) (by rw[Ν,ς hi];rfl)
    rwa[show((i.toNat:Nat):Int)=i by omega]at e
   obtain⟨y1,y2,y3⟩:=wo.n2 y hy
   refine⟨r2,_,i,.str y,rfl,rfl,SqL.of (s4 _ _ n2 w2),hat,gnm (hX _ _ ?_)⟩
   have s04:ar a H H4:=(ai.b a s2).trans s4
   refine⟨_,rfl,_,rfl,_,rfl,lp,_,rfl,.inl ⟨SqL.of (s04 _ _ nlp hlp),λt5 ht5=>⟨z3,λt6 ht6=>?_⟩⟩⟩
   have s5:=ac ht5 (.tup us)
   have s6:=ac ht6 (.tup [.str (γ "call"),.str y,.ref t5])
   have s46:=s5.trans s6
   have s06:ar a H _:=s04.trans (ai.b a s46)
   have R6:Rep (upd (upd H4 t5 (.tup us)) t6 (.tup [.str (γ "call"),.str y,.ref t5])) (.tup [.str (γ "call"),.str y,.tup sub]) (.ref t6):=by
    rw[Rep]
    refine⟨t6,_,rfl,aa,?_⟩
    simp only[Reps]
    refine⟨_,_,rfl,by simp only[Rep],_,_,rfl,by simp only[Rep],_,_,rfl,?_,rfl⟩
    rw[Rep]
    exact⟨t5,us,rfl,s6 _ _ aa,ruB s06⟩
   have st6:=st4.m s46
   generalize upd (upd H4 t5 (.tup us)) t6 (.tup [.str (γ "call"),.str y,.ref t5])=H6 at s06 R6 st6⊢
   have wx:Wx (n+1) (.tup [.str (γ "call"),.str y,.tup sub]) (.nd y bs):=by
    rw[Wx];exact .inr (.inr (.inl ⟨y,sub,bs,y1,y2,y3,l4,al,rfl,rfl⟩))
   have ex:=dI (n:=n) (p:=gZ) in5.1 (ds:=[.str y,.tup sub]) (bQ wx).1
   rw[show ba gZ.2.2 [.str y,.tup sub]=sub by show []++(sub++[])=sub;rw[ϙ,ϸ]]at ex
   have hlt6:=s06 _ _ nlt hlt
   have la:=al.len
   exact gnm (p4 () (fin _ _ _ _ _ _ _ s06 st6 R6 hlt6 y1 () () wx ex))
  ·obtain⟨m1,m2,m3,m4,m5⟩:=pK hf
   refine p1 m4 (p2 m5 (p3 m3 ?_))
   have Rt:Rep H2 (.tup (.str pw.1::ds)) (.ref t):=by
    rw[Rep]
    exact⟨t,_,rfl,ht,by simp only[Reps];exact⟨_,_,rfl,by simp only[Rep],ru.mono s2⟩⟩
   have la:=ag.len
   have h5:=cj pw hpw
   have nw:=rf pw hpw
   have lw:pw.1.length<=8:=(aY nw).2
   have plain:(pw.1≠"fold"\/jg ds=true)->Wx (n+1) (.tup (.str pw.1::ds)) (.nd pw.1 bs):=λfo=>by
    rw[Wx];exact .inr (.inr (.inr (.inr (.inr ⟨pw,ds,bs,hpw,hf,ag,fo,rfl,rfl⟩))))
   by_cases ef:pw.1="fold"
   ·have ess:=rH pw hpw ef
    have hsub:ba pw.2.2 ds=ba [.x,.l,.y,.e,.e] ds:=by rw[ess]
    obtain⟨y0,dl,y2,d3,d4,b1,b3,b4,u1,u3,u4,hds,hbs,hus,ny0,agl,ny2,w3,w4⟩:∃y0 dl y2 d3 d4 b1 b3 b4 u1 u3 u4,ds=[.str y0,dl,.str y2,d3,d4]/\bs=[.leaf y0,b1,.leaf y2,b3,b4]/\us=[.str y0,u1,.str y2,u3,u4]/\nmB y0=true/\Ag (Wx n) .l dl b1/\nmB y2=true/\Wx n d3 b3/\Wx n d4 b4:=by
     have ag':=ag
     rw[ess]at ag'
     cases ag' with
     |cons a0 ag'=>
      cases ag' with
      |cons a1 ag'=>
       cases ag' with
       |cons a2 ag'=>
        cases ag' with
        |cons a3 ag'=>
         cases ag' with
         |cons a4 ag'=>
          cases ag'
          obtain⟨y0,rfl,rfl,h0⟩:=a0
          obtain⟨y2,rfl,rfl,h2⟩:=a2
          obtain⟨v0,ws,rfl,r0,ru⟩:=bj ru
          obtain⟨v1,ws,rfl,r1,ru⟩:=bj ru
          obtain⟨v2,ws,rfl,r2,ru⟩:=bj ru
          obtain⟨v3,v4,rfl,r3,r4⟩:=Reps.two ru
          obtain rfl:v0=.str y0:=r0
          obtain rfl:v2=.str y2:=r2
          exact⟨_,_,_,_,_,_,_,_,_,_,_,rfl,rfl,rfl,h0,a1,h2,a3,a4⟩
    have hlp2:=s2 _ _ hlp
    have hlt2:=s2 _ _ hlt
    rw[hus]at hlp2
    refine h6 _ _ ⟨_,rfl,rfl,_,rfl,ap (λ_=>?_) (λh=>absurd (Q9 (by rw[ef])) h)⟩
    refine⟨_,rfl,lp,_,0,.str y0,rfl,rfl,SqL.of hlp2,ae (j:=0) rfl,_,rfl,lp,_,2,.str y2,rfl,rfl,SqL.of hlp2,ae (j:=2) rfl,rfl,_,rfl,ap (λh=>sE λX hX=>?_) (λh=>?_)⟩
    ·have e02:y0=y2:=V.str.inj (Q7 h)
     have wg:=s2 _ _ wo.hg
     have w1:=s2 _ _ wo.h1
     obtain⟨ng,n1,n2⟩:=wo.ne st
     have y0x:y0∈xs:=hx y0 (by rw[hds];rfl)
     have fl:=xn wo.nd y0x
     rw[wo.l1]at fl
     refine⟨_,rfl,g,_,0,.ref r1,rfl,rfl,SqT.of wg,ae (j:=0) rfl,r1,rfl,⟨_,SqL.of w1⟩,fY (xs:=xs.map V.str) (λi zs H'=>H'=H2/\zs=((xs.take i).filter λz=>decide (z≠y0)).map V.str) ⟨rfl,rfl⟩ (λi zs H' _ p=>by rw[p.1];exact SqL.of w1) ?_ ?_⟩
     ·rintro i zs H' x hx' ⟨rfl,rfl⟩
      rw[Ν]at hx'
      obtain⟨z,hz,rfl⟩:=ϖ.mp hx'
      have hi:=(Θ.mp hz).1
      rw[wo.l1]at hi
      refine xk ⟨_,rfl,_,rfl,lp,_,0,.str y0,rfl,rfl,SqL.of hlp2,ae (j:=0) rfl,rfl,_,rfl,?_⟩
      by_cases e:z=y0
      ·rw[show(!decide (V.str z=V.str y0))=false by rw[e,Q9 rfl];rfl]
       refine aG ⟨rfl,?_⟩
       rw[Ϣ,hz,Ci,Option.toList_some,List.filter_cons_of_neg (by simp[e]),List.filter_nil,ϙ]
      ·rw[show(!decide (V.str z=V.str y0))=true by rw[Q8 (λq=>e (V.str.inj q))];rfl]
       refine aF ⟨_,rfl,?_,rfl,?_⟩
       ·have:=List.length_filter_le (λz=>decide (z≠y0)) (xs.take i)
        rw[Χ]at this
        rw[η,ι];omega
       ·rw[Ϣ,hz,Ci,Option.toList_some,List.filter_cons_of_pos (by simpa using e),List.filter_nil,Ι]
        rfl
     rintro zs H' ⟨rfl,rfl⟩ r hr'
     rw[η,ϛ]
     have s3:=ac hr' (.lst ((xs.filter λz=>decide (z≠y0)).map V.str))
     have h3:upd H' r (.lst ((xs.filter λz=>decide (z≠y0)).map V.str)) r=some (.lst ((xs.filter λz=>decide (z≠y0)).map V.str)):=aa
     have s23:=s2.trans s3
     have ra:r≠a:=λz=>by obtain⟨_,_,e⟩:=st;rw[z,s2 _ _ e]at hr';cases hr'
     have ht3:=s3 _ _ ht
     generalize upd H' r (.lst ((xs.filter λz=>decide (z≠y0)).map V.str))=H3 at s23 h3 ht3⊢
     refine⟨_,rfl,a,11,rfl,st.m s23,(),(),λH4 i s4 st4 i0 i1=>?_⟩
     obtain⟨o,ho,hat⟩:∃o,o∈xs.filter (λz=>decide (z≠y0))/\atI ((xs.filter λz=>decide (z≠y0)).map V.str) i=some (.str o):=by
      have hi:i.toNat<(xs.filter λz=>decide (z≠y0)).length:=by omega
      refine⟨(xs.filter λz=>decide (z≠y0))[i.toNat],i8 hi,?_⟩
      have e:=ae (xs:=(xs.filter λz=>decide (z≠y0)).map V.str) (j:=i.toNat) (v:=.str (xs.filter λz=>decide (z≠y0))[i.toNat]) (by rw[Ν,ς hi];rfl)
      rwa[show((i.toNat:Nat):Int)=i by omega]at e
     obtain⟨ox,oy⟩:=u_.mp ho
     have no:=wo.n1 o ox
     have oy0:o≠y0:=Q7 oy
     refine⟨r,_,i,.str o,rfl,rfl,SqL.of (s4 _ _ ra h3),hat,gnm (hX _ _ (sE λX hX=>?_))⟩
     have s04:ar a H H4:=(ai.b a s23).trans s4
     have ta:t≠a:=λz=>by obtain⟨_,_,e⟩:=st;rw[z,s2 _ _ e]at ht;cases ht
     have ht4:=s4 _ _ ta ht3
     rw[hus]at ht4
     refine⟨_,rfl,?_⟩
     dsimp only[bn]
     refine⟨3,rfl,eJ ht4 λH5 t5 s5 ht5=>?_⟩
     rw[show bJ (V.str pw.1::[V.str y0,u1,V.str y2,u3,u4]) none (some 3)=[V.str pw.1,V.str y0,u1]from iw _ 3]at ht5
     refine⟨_,rfl,z1,λt6 ht6=>?_⟩
     have s6:=ac ht6 (.tup [.str o])
     refine⟨t5,t6,_,_,rfl,rfl,SqT.of (s6 _ _ ht5),SqT.of aa,by rw[ι];simp,nofun,nofun,λt7 ht7=>?_⟩
     have s7:=ac ht7 (.tup ([V.str pw.1,V.str y0,u1]++[V.str o]))
     have h7:upd (upd H5 t6 (.tup [.str o])) t7 (.tup ([V.str pw.1,V.str y0,u1]++[V.str o])) t7=some (.tup ([V.str pw.1,V.str y0,u1]++[V.str o])):=aa
     have s47:=s5.trans (s6.trans s7)
     generalize upd (upd H5 t6 (.tup [.str o])) t7 (.tup ([V.str pw.1,V.str y0,u1]++[V.str o]))=H7 at s47 h7⊢
     refine⟨_,rfl,4,rfl,?_⟩
     dsimp only[bn]
     refine eJ (s47 _ _ ht4) λH8 t8 s8 ht8=>?_
     rw[show bJ (V.str pw.1::[V.str y0,u1,V.str y2,u3,u4]) (some 4) none=[u3,u4]from ce _ 4]at ht8
     refine⟨t7,t8,_,_,rfl,rfl,SqT.of (s8 _ _ h7),SqT.of ht8,by rw[ι];simp,nofun,nofun,λt9 ht9=>?_⟩
     have s9:=ac ht9 (.tup ([V.str pw.1,V.str y0,u1]++[V.str o]++[u3,u4]))
     have h9:upd H8 t9 (.tup ([V.str pw.1,V.str y0,u1]++[V.str o]++[u3,u4])) t9=some (.tup ([V.str pw.1,V.str y0,u1]++[V.str o]++[u3,u4])):=aa
     have s49:=s47.trans (s8.trans s9)
     generalize upd H8 t9 (.tup ([V.str pw.1,V.str y0,u1]++[V.str o]++[u3,u4]))=H9 at s49 h9⊢
     refine gnm (hX _ _ ?_)
     have s09:ar a H H9:=s04.trans (ai.b a s49)
     have hlt9:=s09 _ _ nlt hlt
     rw[hbs]at hlt9
     refine⟨_,rfl,?_⟩
     dsimp only[bn]
     refine⟨2,rfl,lt,_,rfl,SqL.of hlt9,λl1 hl1=>?_⟩
     rw[show bJ ([Br.leaf y0,b1,.leaf y2,b3,b4].map bv) none (some 2)=[bv (.leaf y0),bv b1]from iw _ 2]
     have p1:=ac hl1 (.lst [bv (.leaf y0),bv b1])
     have g1:upd H9 l1 (.lst [bv (.leaf y0),bv b1]) l1=some (.lst [bv (.leaf y0),bv b1]):=aa
     generalize upd H9 l1 (.lst [bv (.leaf y0),bv b1])=G1 at p1 g1⊢
     refine⟨_,rfl,z1,λl2 hl2=>?_⟩
     have p2:=ac hl2 (.lst [.str o])
     refine⟨l1,l2,_,_,rfl,rfl,p2 _ _ g1,aa,by rw[ι];simp,λl3 hl3=>?_⟩
     have p3:=ac hl3 (.lst ([bv (.leaf y0),bv b1]++[.str o]))
     have g3:upd (upd G1 l2 (.lst [.str o])) l3 (.lst ([bv (.leaf y0),bv b1]++[.str o])) l3=some (.lst ([bv (.leaf y0),bv b1]++[.str o])):=aa
     have p13:=p1.trans (p2.trans p3)
     generalize upd (upd G1 l2 (.lst [.str o])) l3 (.lst ([bv (.leaf y0),bv b1]++[.str o]))=G3 at p13 g3⊢
     refine⟨_,rfl,3,rfl,?_⟩
     dsimp only[bn]
     refine⟨lt,_,rfl,SqL.of (p13 _ _ hlt9),λl4 hl4=>?_⟩
     rw[show bJ ([Br.leaf y0,b1,.leaf y2,b3,b4].map bv) (some 3) none=[bv b3,bv b4]from ce _ 3]
     have p4:=ac hl4 (.lst [bv b3,bv b4])
     refine⟨l3,l4,_,_,rfl,rfl,p4 _ _ g3,aa,by rw[ι];simp,λl5 hl5=>?_⟩
     have p5:=ac hl5 (.lst ([bv (.leaf y0),bv b1]++[.str o]++[bv b3,bv b4]))
     have g5:upd (upd G3 l4 (.lst [bv b3,bv b4])) l5 (.lst ([bv (.leaf y0),bv b1]++[.str o]++[bv b3,bv b4])) l5=some (.lst ([bv (.leaf y0),bv b1]++[.str o]++[bv b3,bv b4])):=aa
     have p15:=p13.trans (p4.trans p5)
     generalize upd (upd G3 l4 (.lst [bv b3,bv b4])) l5 (.lst ([bv (.leaf y0),bv b1]++[.str o]++[bv b3,bv b4]))=G5 at p15 g5⊢
     refine gnm ?_
     have s0G:ar a H G5:=s09.trans (ai.b a p15)
     have stG:St2 G5 a:=(st4.m s49).m p15
     have ruG:=ruB s0G
     rw[hds,hus]at ruG
     have RG:Rep G5 (.tup [.str pw.1,.str y0,dl,.str o,d3,d4]) (.ref t9):=by
      rw[Rep]
      refine⟨t9,_,rfl,p15 _ _ h9,?_⟩
      simp only[Reps]at ruG
      obtain⟨_,_,e,r0,_,_,e1,r1,_,_,e2,r2,_,_,e3,r3,_,_,e4,r4,e5⟩:=ruG
      cases e
      cases e1
      cases e2
      cases e3
      cases e4
      simp only[Reps,ϯ,ϸ]
      exact⟨_,_,rfl,by simp only[Rep],_,_,rfl,r0,_,_,rfl,r1,_,_,rfl,by simp only[Rep],_,_,rfl,r3,_,_,rfl,r4,rfl⟩
     have ag2:Ags (Wx n) pw.2.2 [.str y0,dl,.str o,d3,d4] [.leaf y0,b1,.leaf o,b3,b4]:=by
      rw[ess]
      exact .cons ⟨y0,rfl,rfl,ny0⟩ (.cons agl (.cons ⟨o,rfl,rfl,no⟩ (.cons w3 (.cons w4 .nil))))
     have wx:Wx (n+1) (.tup (.str pw.1::[.str y0,dl,.str o,d3,d4])) (.nd pw.1 [.leaf y0,b1,.leaf o,b3,b4]):=by
      rw[Wx];exact .inr (.inr (.inr (.inr (.inr ⟨pw,_,_,hpw,hf,ag2,.inr (Q9 (ϒ oy0)),rfl,rfl⟩))))
     have ex:=dI (n:=n) hpw (ds:=[.str y0,dl,.str o,d3,d4]) (bQ wx).1
     rw[show ba pw.2.2 [.str y0,dl,.str o,d3,d4]=ba pw.2.2 ds by rw[ess,hds];rfl]at ex
     have lo:bl (.leaf o)<=8:=by unfold bl;rw[brT];exact(aY no).2
     have lb2:([Br.leaf y0,b1,.leaf o,b3,b4].map bl).sum<=1000008:=by
      rw[hbs]at lb
      simp only[Ο,o_,l7,List.sum_nil]at lb⊢
      omega
     exact fin _ _ _ _ [.leaf y0,b1,.leaf o,b3,b4] _ _ s0G stG RG g5 nw lb2 (by show 5<=8;decide) wx ex
    ·have n02:y0≠y2:=λz=>h (Q9 (by rw[z]))
     have wx:=plain (.inr (by rw[hds];exact Q9 n02))
     exact tnx (fin _ _ _ _ _ _ _ (ai.b a s2) (st.m s2) Rt hlt2 nw () () wx (dI (n:=n) hpw (ds:=ds) (bQ wx).1))
   ·have wx:=plain (.inl ef)
    exact p4 ef (fin _ _ _ _ _ _ _ (ai.b a s2) (st.m s2) Rt (s2 _ _ hlt) nw () () wx (dI (n:=n) hpw (ds:=ds) (bQ wx).1))
 refine⟨_,rfl,z1,λt0 ht0=>?_⟩
 have s0:=ac ht0 (.tup [.str w])
 refine⟨_,rfl,lp,_,rfl,.inl ⟨SqL.of (s0 _ _ hlp),λt1 ht1=>?_⟩⟩
 have s1:=ac ht1 (.tup us)
 have s01:=s0.trans s1
 have h01:=s1 _ _ (aa (H:=H) (a:=t0) (o:=.tup [.str w]))
 have h11:upd (upd H t0 (.tup [.str w])) t1 (.tup us) t1=some (.tup us):=aa
 generalize upd (upd H t0 (.tup [.str w])) t1 (.tup us)=H1 at s1 s01 h01 h11⊢
 refine⟨t0,t1,_,_,rfl,rfl,SqT.of h01,SqT.of h11,by rw[ι,Ϫ];omega,nofun,λe=>?_,λp hp=>?_⟩
 ·exact gnm (key H1 t0 s01 (by rw[h01,e]))
 ·exact gnm (key _ p (s01.trans (ac hp _)) aa)
abbrev mh:Stmt:=top 70
def WV:Str:=γ "number name length if let pair first second none join take drop zip turn get place value up wide" ++ γ " mirror fork when loop fold reckon row call plus minus times less same whole def ask"
def WW:List Str:=(["number","name","length","if","let","pair","first","second","none","join","take","drop","zip","turn","get","place","value","up","wide","mirror","fork","when","loop","fold","reckon","row","call","plus","minus","times","less","same","whole","def","ask"]:List String).map γ
theorem oU:Txt.split WV (γ " ")=WW:=by decide +kernel
theorem yV:WV.length<=300:=by decide +kernel
theorem gt:WW.length=35:=by decide +kernel
def vwB(x:Str):Bool:=x.cps.toList.any λc=>!czB c
theorem xZ:∀x∈WW,nmB x=true/\vwB x=true:=by decide +kernel
theorem AA:∀p∈WT,vwB p.1=true:=by decide +kernel
theorem wN:∀r∈mO,vwB r=true:=by decide +kernel
theorem xQ{x:Str}(h:Cn x):vwB x=false:=by
 unfold vwB
 rw[Cr]
 intro c hc
 rw[h.2 c hc]
 decide
theorem wu{x:Str}(h:Cn x):nmB x=true/\cv x=false/\ca x=false:=by
 have hv:=xQ h
 refine⟨h.1,?_,?_⟩
 ·cases e:cv x with
  |false=>rfl
  |true=>
   obtain⟨p,hp,rfl⟩:=me e
   rw[AA p hp]at hv
   cases hv
 ·cases e:ca x with
  |false=>rfl
  |true=>rw[wN x (dq e)]at hv;cases hv
def six(i:Nat):List Str:=(ϗ 6).map λk=>WW.getD ((i+3*k)%35) (γ "")
theorem yL:∀i,i<35->(six i).Nodup/\(∀x∈six i,x∈WW):=by decide +kernel
theorem uL{xs:List Str}{i:Nat}(hi:i<35)(nd:xs.Nodup)(hc:∀x∈xs,Cn x):(xs.take 6++six i).Nodup/\∀x∈xs.take 6++six i,nmB x=true:=by
 obtain⟨h1,h2⟩:=yL i hi
 refine⟨List.nodup_append.mpr ⟨nd.sublist (List.take_sublist _ _),h1,λx hx y hy e=>?_⟩,λx hx=>?_⟩
 ·subst e
  have:=xQ (hc x (p_ hx))
  rw[(xZ x (h2 x hy)).2]at this
  cases this
 ·rcases ϋ.mp hx with hx|hx
  ·exact(hc x (p_ hx)).1
  ·exact(xZ x (h2 x hx)).1
theorem yq:∀x∈[γ "ask",γ "def"],nmB x=true/\cv x=false/\ca x=false:=by decide +kernel
theorem uo{xs:List Str}(hc:∀x∈xs,Cn x):∀x∈xs.drop 6++[γ "ask",γ "def"],nmB x=true/\cv x=false/\ca x=false:=λx hx=>by
 rcases ϋ.mp hx with hx|hx
 ·exact wu (hc x (BR hx))
 ·exact yq x hx
def rg:Sp:=λvs H Q _=>∃a:Addr,vs=[.ref a]/\St2 H a/\∀(H':Hp)(g r1 r2:Addr)(xs ys:List Str),ar a H H'->St2 H' a->Wo H' g r1 r2 xs ys->Q (.ref g) H'
theorem oR:ao ["_law_state_here","_law_names_here","_law_words","_law_at"] ["_law_state_here"] (ah mh):=by trivial
theorem uW{f:Addr}{fd:Η}{k:Nat}(F:Fun K "_law_world" "_law_world" mh f fd)(T:Txt K mg)(D_law_names:Def P w K mg base k "_law_names" ["_law_state_here","_law_many"] rV)(D_law_draw:Def P w K mg base k "_law_draw" ["_law_state_here","_law_many"] dD):aw P w K mg base CX0 (k+1) f fd ["_law_state_here"] rg:=by
 have nd:=oR.nd
 refine F.ok oR (λvs H Q E h=>?_) (λcdv A outer s H vs Q E hr h=>?_)
 ·obtain⟨a,rfl,_⟩:=h
  rfl
 obtain⟨a,rfl,st,q⟩:=h
 refine⟨_,(@un _ _ _ (wbO (wbM 1 nd rfl (Ε rfl) (waq D_law_names hr rfl (wae (wv 0 rfl) (wae waC waf rfl) rfl) () rfl rfl) rfl ()) (wbO (wbM 2 nd rfl (Bw rfl) waV rfl ()) (wbO (wbM 2 nd rfl (Bw rfl) (waQ ax (wv 2 rfl) waV) rfl ()) (wbO (wbM 2 nd rfl (Bw rfl) (waj Ϗ k7 k_ dQ (wv 2 rfl) (wae waV waf rfl) rfl rfl rfl rfl rfl) rfl ()) (wbO (wbM 3 nd rfl (Bw rfl) (waq D_law_draw hr rfl (wae (wv 0 rfl) (wae (wal au rfl T.len () (wae (wv 2 rfl) waf rfl) () () rfl rfl) waf rfl) rfl) () rfl rfl) rfl ()) (wbQ (wbK (waX (wae (waQ mq (waT dA (wv 1 rfl) wbz (wbA waC)) (waE ["_law_k"] ([2,3]) (wbk rfl T.range (wae waC waf rfl) rfl) (.of rfl) rfl (λ_ _ _=>⟨pg_name (i:=0) (bp (l:=["_law_k","_law_words","_law_at"]) (()) rfl) rfl (Ε rfl)⟩) (bf ()) (λ_ _ _=>wbx) (λ_ _ _=>(waD (pe K rfl) (wv 1 rfl) (waQ eY (waQ bF (wv 2 rfl) (waQ fq waC (wv 0 rfl))) (wal (uO K rfl) rfl T.len () (wae (wv 1 rfl) waf rfl) () () rfl rfl)) (λ_ _=>rfl))) ())) (wae (waQ mq (waT dA (wv 1 rfl) (wbA waC) wbz) (waM (wae waV (wae waV waf rfl) rfl))) waf rfl) rfl)))))))))),?_⟩
 dsimp only[bo,Cx.nox]
 have len2:∀{m:Nat},m<=1000->m<=sizeLine:=λh=>by rw[ι];omega
 refine⟨_,rfl,a,9,rfl,st,(),λH1 r xs s1 st1 hr1 h1 lx cx nx=>?_⟩
 refine gnm ?_
 refine gnm ?_
 refine⟨_,rfl,_,_,rfl,rfl,len2 (),?_⟩
 refine gnm ?_
 have wl:=yV
 refine⟨_,rfl,rfl,WV,γ " ",rfl,rfl,(),len2 (),len2 (by rw[oU];decide +kernel),λl hl=>?_⟩
 rw[oU]
 have s2:=ac hl (.lst (WW.map V.str))
 have h2:upd H1 l (.lst (WW.map V.str)) l=some (.lst (WW.map V.str)):=aa
 have la:l≠a:=λz=>by obtain⟨_,_,e⟩:=st1;rw[z,e]at hl;cases hl
 have ra:r≠a:=λz=>by obtain⟨_,_,e⟩:=st;rw[z,e]at hr1;cases hr1
 generalize upd H1 l (.lst (WW.map V.str))=H2 at s2 h2⊢
 refine gnm ?_
 refine⟨_,rfl,_,rfl,l,_,rfl,.inl (SqL.of h2),a,_,rfl,st1.m s2,by rw[η,gt];decide,by rw[η,gt];decide,λH3 i s3 st3 i0 i1=>?_⟩
 rw[η,gt]at i1
 refine gnm ?_
 have h3:=s3 _ _ la h2
 have r3:=s3 _ _ ra (s2 _ _ h1)
 have s03:ar a H H3:=s1.trans ((ai.b a s2).trans s3)
 have i35:i.toNat<35:=by omega
 have pick:∀k:Nat,atI (WW.map V.str) ((i+3*((0:Int)+(k:Int)))%(((WW.map V.str).length:Nat):Int))=some (.str (WW.getD ((i.toNat+3*k)%35) (γ ""))):=λk=>by
  rw[η,gt]
  have hj:(i.toNat+3*k)%35<WW.length:=by rw[gt];omega
  have e:=ae (xs:=WW.map V.str) (j:=(i.toNat+3*k)%35) (v:=.str (WW.getD ((i.toNat+3*k)%35) (γ ""))) (by rw[Ν,ς hj,List.getD_eq_getElem?_getD,ς hj];rfl)
  rwa[show(((i.toNat+3*k)%35:Nat):Int)=(i+3*((0:Int)+(k:Int)))%((35:Nat):Int) by omega]at e
 refine⟨_,rfl,?_⟩
 dsimp only[bn]
 refine⟨6,rfl,r,_,rfl,SqL.of r3,λl1 hl1=>?_⟩
 rw[show bJ (xs.map V.str) none (some 6)=(xs.take 6).map V.str by rw[List.map_take];exact iw _ 6]
 have s4:=ac hl1 (.lst ((xs.take 6).map V.str))
 have g1:upd H3 l1 (.lst ((xs.take 6).map V.str)) l1=some (.lst ((xs.take 6).map V.str)):=aa
 generalize upd H3 l1 (.lst ((xs.take 6).map V.str))=H4 at s4 g1⊢
 have h4:=s4 _ _ h3
 have r4:=s4 _ _ r3
 have s04:ar a H H4:=s03.trans (ai.b a s4)
 have st4:=st3.m s4
 refine⟨6,rfl,(),(),oK (n:=(6:Int).toNat) (λk ys H'=>H'=H4/\ys=(((ϗ k).map λk=>WW.getD ((i.toNat+3*k)%35) (γ "")).map V.str)) ⟨rfl,rfl⟩ ?_ ?_⟩
 ·rintro k ys H' hk ⟨rfl,rfl⟩
  refine bu ⟨_,rfl,_,rfl,_,rfl,_,_,rfl,rfl,.inl ⟨(),()⟩,_,_,rfl,rfl,_,rfl,l,_,rfl,.inl (SqL.of h4),_,_,rfl,rfl,by rw[η,gt];show(0:Int)<35;decide,l,_,_,_,rfl,rfl,SqL.of h4,pick k,?_,rfl,?_⟩
  ·rw[η,η,List.length_range,ι];have:(6:Int).toNat=6:=rfl;omega
  ·rw[List.range_succ,Ι,Ι];rfl
 rintro ys H' ⟨rfl,rfl⟩ l2 hl2
 have e6:((ϗ (6:Int).toNat).map λk=>WW.getD ((i.toNat+3*k)%35) (γ ""))=six i.toNat:=rfl
 rw[e6]
 obtain⟨wn1,wn2⟩:=uL (xs:=xs) i35 nx cx
 have l6:(six i.toNat).length=6:=by unfold six;rw[η,List.length_range]
 have lt6:(xs.take 6).length=6:=by rw[Χ,lx];rfl
 have p1:=ac hl2 (.lst ((six i.toNat).map V.str))
 refine⟨l1,l2,_,_,rfl,rfl,p1 _ _ g1,aa,by rw[η,η,l6,lt6,ι];decide,λm1 hm1=>?_⟩
 rw[<-Ι]
 have p2:=ac hm1 (.lst ((xs.take 6++six i.toNat).map V.str))
 have k1:upd (upd H' l2 (.lst ((six i.toNat).map V.str))) m1 (.lst ((xs.take 6++six i.toNat).map V.str)) m1=some (.lst ((xs.take 6++six i.toNat).map V.str)):=aa
 have p12:=p1.trans p2
 generalize upd (upd H' l2 (.lst ((six i.toNat).map V.str))) m1 (.lst ((xs.take 6++six i.toNat).map V.str))=G1 at p12 k1⊢
 refine⟨_,rfl,6,rfl,?_⟩
 dsimp only[bn]
 refine⟨r,_,rfl,SqL.of (p12 _ _ r4),λl3 hl3=>?_⟩
 rw[show bJ (xs.map V.str) (some 6) none=(xs.drop 6).map V.str by rw[List.map_drop];exact ce _ 6]
 have p3:=ac hl3 (.lst ((xs.drop 6).map V.str))
 have k3:upd G1 l3 (.lst ((xs.drop 6).map V.str)) l3=some (.lst ((xs.drop 6).map V.str)):=aa
 generalize upd G1 l3 (.lst ((xs.drop 6).map V.str))=G3 at p3 k3⊢
 refine⟨z2,λl4 hl4=>?_⟩
 have p4:=ac hl4 (.lst [.str (γ "ask"),.str (γ "def")])
 have ld:(xs.drop 6).length=3:=by rw[ϭ,lx]
 refine⟨l3,l4,_,_,rfl,rfl,p4 _ _ k3,aa,by rw[η,ld,ι];decide,λm2 hm2=>?_⟩
 have em:(xs.drop 6).map V.str++[.str (γ "ask"),.str (γ "def")]=(xs.drop 6++[γ "ask",γ "def"]).map V.str:=by rw[Ι];rfl
 rw[em]
 have p5:=ac hm2 (.lst ((xs.drop 6++[γ "ask",γ "def"]).map V.str))
 refine⟨z2,λg hg=>?_⟩
 have p6:=ac hg (.tup [.ref m1,.ref m2])
 have p36:=p3.trans (p4.trans (p5.trans p6))
 have p16:=p12.trans p36
 exact q _ g m1 m2 (xs.take 6++six i.toNat) (xs.drop 6++[γ "ask",γ "def"]) (s04.trans (ai.b a p16)) (st4.m p16) ⟨aa,p36 _ _ k1,p6 _ _ aa,by rw[Ζ,lt6,l6],wn1,wn2,by rw[Ζ,ld];exact⟨(),()⟩,uo cx⟩
def FMS:List (Str×Str×List So):=FM.map λp=>(p.1,p.2,if p.1=γ "fold" then [.x,.l,.y,.e,.e]else p.2.cps.toList.map λc=>if c=101 then So.e else if c=76 then So.l else if c=75 then So.k else So.x)
theorem yh:∀p∈FM,∃ls,(p.1,p.2,ls)∈FMS:=λp hp=>⟨_,ϥ.mpr ⟨p,hp,rfl⟩⟩
theorem yG:∀q∈FMS,q.2.1.cps.toList.map (λc=>(⟨#[c]⟩:Str))=q.2.2.map lt/\q.2.1.cps.size=q.2.2.length/\q.2.2.length<=5/\q.2.1.cps.all (· < 128)=true:=by decide +kernel
theorem zu:∀q∈FMS,∀s∈q.2.2,s=.e\/s=.l\/s=.k\/s=.x\/s=.y:=by decide +kernel
def xx(ss:List So):Bool:=ss.all λs=>decide (s=.e)
def fmB(q:Str×Str×List So):Bool:=
 (decide (q.1="number")&&decide (q.2.2=[]))||(decide (q.1="name")&&decide (q.2.2=[]))||(decide (q.1="reckon")&&decide (q.2.2=[.e,.e]))||(decide (q.1="row")&&(xx q.2.2&&(decide (1<=q.2.2.length)&&decide (q.2.2.length<=4))))||(decide (q.1="call")&&(xx q.2.2&&decide (q.2.2.length<=4)))||(WT.any λp=>decide (p.1=q.1)&&(decide (p.2.2=q.2.2)&&frm p.1))
theorem zB:∀q∈FMS,fmB q=true:=by decide +kernel
def nE(ss:List So):Nat:=(ss.filter λs=>decide (s=.e)).length
theorem wP:∀q∈FMS,Txt.count q.2.1 (γ "e")=(nE q.2.2:Int)/\nE q.2.2<=4:=by decide +kernel
theorem mH{R:Dv->Br->Prop}{ss:List So}{ds:List Dv}{bs:List Br}(h:Ags R ss ds bs)(he:xx ss=true):Als R ds bs/\ba ss ds=ds:=by
 induction h with
 |nil=>exact⟨.nil,rfl⟩
 | @cons s d b ss ds bs a _ ih=>
  unfold xx at he
  rw[List.all_cons,ψ]at he
  have e:s=.e:=Q7 he.1
  subst e
  obtain⟨h1,h2⟩:=ih he.2
  exact⟨.cons a h1,by show [d]++ba ss ds=d::ds;rw[h2];rfl⟩
theorem Ad{R:Dv->Br->Prop}{xs:List Str}{q:Str×Str×List So}(hq:q∈FMS)(h1:q.1≠"number")(h2:q.1≠"name"){ds:List Dv}{bs:List Br}(h:Ags R q.2.2 ds bs)(hx:∀y,ds[0]?=some (.str y)->y∈xs):yt R xs q.1 ds bs (ba q.2.2 ds):=by
 have hb:=zB q hq
 unfold fmB at hb
 simp only[CO,ψ,decide_eq_true_eq]at hb
 obtain⟨lb,ld⟩:=h.len
 rcases hb with ((((hb|hb)|hb)|hb)|hb)|hb
 ·exact absurd hb.1 h1
 ·exact absurd hb.1 h2
 ·have e:=mH h (by rw[hb.2];decide)
  exact .inl ⟨hb.1,e.1,by rw[ld,hb.2];rfl,e.2⟩
 ·have e:=mH h hb.2.1
  exact .inr (.inl ⟨hb.1,e.1,(),(),e.2⟩)
 ·have e:=mH h hb.2.1
  exact .inr (.inr (.inl ⟨hb.1,e.1,(),e.2⟩))
 ·obtain⟨p,hp,e⟩:=a7.mp hb
  simp only[ψ,decide_eq_true_eq]at e
  exact .inr (.inr (.inr ⟨p,hp,e.1.symm,e.2.2,by rw[e.2.1];exact h,by rw[e.2.1],hx⟩))
abbrev dy:Stmt:=top 69
theorem gs{Y:St->Hp->Prop}{t u:TS}{D:bZ}{i:Nat}{x:V}{σ:St}{H:Hp}(e:∀σ' H',iA t u D σ' H'->Y σ' H')(h:∀X:St->Hp->Prop,(∀σ' H',u D σ' H'->X σ' H')->t {D with nx:=X} (σ.set i (some x)) H):cP i x σ H Y:=e _ _ (h _ λ_ _ z=>z)
theorem ph{c:TT}{t u:TS}{D:bZ}{σ:St}{H:Hp}(h:∀Y Z:Hp->Prop,(∀H',t D σ H'->Y H')->(∀H',u D σ H'->Z H')->c σ H λb H1=>if b=true then Y H1 else Z H1):Aw c t u D σ H:=h _ _ (λ_ z=>z) λ_ z=>z
structure Cur(H H':Hp)(wk sc nd:Addr)(i m:Int):Prop where
 sb:ar wk H H'
 hk:H' wk=some (.lst [.ref sc,.int i,.int m])
 st:St2 H' nd
section
variable{H H1 H2:Hp}{wk sc nd L:Addr}{i j z:Int}
theorem Cur.m(c:Cur H H1 wk sc nd i z)(s:ai H1 H2):Cur H H2 wk sc nd i z:=⟨c.sb.trans (ai.b wk s),s _ _ c.hk,c.st.m s⟩
theorem Cur.d(c:Cur H H1 wk sc nd i z)(s:ar nd H1 H2)(t:St2 H2 nd)(n:nd≠wk)(f:H nd=none):Cur H H2 wk sc nd i z:=⟨λg o hg e=>s g o (aj e f) (c.sb g o hg e),s _ _ (ϒ n) c.hk,t⟩
theorem Cur.l(c:Cur H H1 wk sc nd i z)(s:ar L H1 H2)(f:H L=none)(n:L≠wk)(k:L≠nd):Cur H H2 wk sc nd i z:=⟨λg o hg e=>s g o (aj e f) (c.sb g o hg e),s _ _ (ϒ n) c.hk,c.st.b s (ϒ k)⟩
theorem Cur.e(c:Cur H H1 wk sc nd i z)(s:ar wk H1 H2)(h:H2 wk=some (.lst [.ref sc,.int j,.int z]))(n:nd≠wk):Cur H H2 wk sc nd j z:=⟨c.sb.trans s,h,c.st.b s n⟩
theorem Cur.tm(c:Cur H H1 wk sc nd i z)(s:ar wk H1 H2):tY H1 H2:=s.tups c.hk
end
theorem zh{H H':Hp}{a b:Addr}(s:ar a H H')(h:H' b=none)(n:b≠a):H b=none:=by
 cases e:H b with
 |none=>rfl
 |some o=>rw[s b o n e]at h;cases h
theorem Wo.nw{H:Hp}{g r1 r2 a sc:Addr}{i m:Int}{xs ys:List Str}(w:Wo H g r1 r2 xs ys)(e:H a=some (.lst [.ref sc,.int i,.int m])):g≠a/\r1≠a/\r2≠a:=by
 refine⟨λz=>?_,λz=>?_,λz=>?_⟩
 ·have:=w.hg;rw[z,e]at this;cases this
 ·have h1:=w.h1
  have l1:=w.l1
  rw[z,e]at h1
  injection h1 with h1
  injection h1 with h1
  cases xs with
  |nil=>cases l1
  |cons x xs=>injection h1 with h1;cases h1
 ·have h2:=w.h2
  have l2:=w.l2.1
  rw[z,e]at h2
  injection h2 with h2
  injection h2 with h2
  cases ys with
  |nil=>simp at l2
  |cons x xs=>injection h2 with h2;cases h2
theorem zc{n:Nat}{y:Str}{b:Br}(h:Wx n (.str y) b):False:=by
 cases n with
 |zero=>exact h
 |succ n=>rcases h with ⟨_,_,_,h,_⟩|⟨_,_,h,_⟩|⟨_,_,_,_,_,_,_,_,h,_⟩|⟨_,_,_,_,_,_,_,_,h,_⟩|⟨_,_,_,_,_,h,_⟩|⟨_,_,_,_,_,_,_,h,_⟩<;>cases h
theorem Ags.snoc{R:Dv->Br->Prop}{ss:List So}{ds:List Dv}{bs:List Br}(h:Ags R ss ds bs){s:So}{d:Dv}{b:Br}(a:Ag R s d b):Ags R (ss++[s]) (ds++[d]) (bs++[b])/\ba (ss++[s]) (ds++[d])=ba ss ds++ptD s d:=by
 induction h with
 |nil=>exact⟨.cons a .nil,by show ptD s d++[]=[]++ptD s d;rw[ϙ,ϸ]⟩
 | @cons s' d' b' ss ds bs a' _ ih=>exact⟨.cons a' ih.1,by show ptD s' d'++ba (ss++[s]) (ds++[d])=(ptD s' d'++ba ss ds)++ptD s d;rw[ih.2,g0]⟩
theorem wp:∀q∈FMS,(q.2.2.map wgt).sum<=100000:=by decide +kernel
theorem wJ{x:Str}{ls:List So}{j:Nat}{s:So}(e:x.cps.toList.map (λc=>(⟨#[c]⟩:Str))=ls.map lt)(hj:j<x.cps.size)(hs:ls[j]?=some s):oi x j=.str (lt s):=by
 have h:(x.cps.toList.map (λc=>(⟨#[c]⟩:Str)))[j]?=(ls.map lt)[j]?:=by rw[e]
 rw[Ν,Ν,hs,Array.getElem?_toList,Cm hj]at h
 unfold oi
 rw[j_,Cm hj]
 exact congrArg V.str (ϕ h)
structure Kp(LP LT:Addr)(us:List V)(ds:List Dv)(bs:List Br)(H:Hp):Prop where
 hp:H LP=some (.lst us)
 rp:Reps H ds us
 ht:H LT=some (.lst (bs.map bv))
theorem Kp.b{LP LT a:Addr}{us:List V}{ds:List Dv}{bs:List Br}{H H':Hp}{n:Nat}(k:Kp LP LT us ds bs H)(s:ar a H H')(t:tY H H')(n1:LP≠a)(n2:LT≠a)(pl:∀d∈ds,L2.Pl n d):Kp LP LT us ds bs H':=
 ⟨s _ _ n1 k.hp,cg (λd hd v r=>cm t (pl d hd) r) k.rp,s _ _ n2 k.ht⟩
theorem Bf{s:So}(h:s=.l\/s=.k\/s=.x\/s=.y):lt s≠γ "e":=by rcases h with rfl|rfl|rfl|rfl<;>decide +kernel
theorem pE{r:Nat}{s:So}{d:Dv}{b:Br}(h:Ag (Wx r) s d b)(hs:s=.e\/s=.l\/s=.k)(y:Str):d≠.str y:=λz=>by
 subst z
 rcases hs with rfl|rfl|rfl
 ·exact zc h
 ·obtain⟨c,ps,e,_⟩:=h;cases e
 ·obtain⟨k,e,_⟩:=h;cases k<;>cases e
def cE(p:Str×Str):Int:=Txt.count p.2 (γ "e")
def zD(room bud:Nat)(p:Str×Str):Prop:=p∈FM/\(cE p=0\/(1<room/\cE p<bud))
theorem fm0:FM[0]?=some (γ "number",γ ""):=by decide +kernel
theorem AU:cE (γ "number",γ "")=0:=by decide +kernel
def xq(K:ζ)(n:Nat):Sp:=λvs H Q _=>∃(wk g r1 r2 sc:Addr) (ns:List Int) (i m:Int) (xs ys:List Str) (room:Nat) (bud:Nat),vs=[.ref wk,.ref g,.int room,.int bud]/\Wk K H wk sc ns i m/\i+bud<10^14/\ns.length<10^15/\Wo H g r1 r2 xs ys/\1<=room/\room<=n/\n<=8/\1<=bud/\bud<=40 /\
 ∀(H':Hp)(v:V)(d:Dv)(b:Br)(c:Nat),ar wk H H'->Wk K H' wk sc ns (i+c) m->Rep H' (.tup [d,.str (brT b),.int c]) v->Wx room d b->exN room d=c->1<=c->c<=bud->Q v H'
theorem eR:ao ["_law_walk","_law_world_here","_law_room","_law_budget","_law_node","_law_some","_law_one","_law_word","_law_letters","_law_told","_law_name","_law_parts","_law_texts","_law_left","_law_more","_law_letter","_law_share","_law_text","_law_nodes"] ["_law_walk","_law_world_here","_law_room","_law_budget"] (ah dy):=by trivial
theorem jS{f:Addr}{fd:Η}{k n:Nat}(F:Fun K "_law_expression" "_law_expression" dy f fd)(T:Txt K mg)(D_law_next:Def P w K mg base k "_law_next" ["_law_walk"] (yd K))(D_law_forms:Def P w K mg base k "_law_forms" [] qP)(D_law_draw:Def P w K mg base k "_law_draw" ["_law_state_here","_law_many"] dD)(D_law_inner:Def P w K mg base k "_law_inner" ["_law_letter","_law_node","_law_world_here"] qO)(D_law_whole:Def P w K mg base k "_law_whole" ["_law_word","_law_parts","_law_texts","_law_node","_law_world_here"] sj)(D_law_expression:Def P w K mg base k "_law_expression" ["_law_walk","_law_world_here","_law_room","_law_budget"] (xq K n)):aw P w K mg base CX0 (k+1) f fd ["_law_walk","_law_world_here","_law_room","_law_budget"] (xq K (n+1)):=by
 have nd:=eR.nd
 refine F.ok eR (λvs H Q E h=>?_) (λcdv A outer s H vs Q E hr h=>?_)
 ·obtain⟨wk,g,r1,r2,sc,ns,i,m,xs,ys,room,bud,rfl,_⟩:=h
  rfl
 obtain⟨wk,g,r1,r2,sc,ns,i,m,xs,ys,room,bud,rfl,⟨hk0,hsc,i0,i15⟩,i14,ln,wo,rm1,rm2,n8,b1,b2,q⟩:=h
 obtain⟨r,rfl⟩:∃r,room=r+1:=⟨room-1,()⟩
 have nwo:=wo.nw hk0
 refine⟨_,(@un _ _ _ (wbO (wbM 4 nd rfl (Ε rfl) (waq D_law_next hr rfl (wae (wv 0 rfl) waf rfl) () rfl rfl) rfl ()) (wbO (wbM 5 nd rfl (Ε rfl) (waM waf) rfl ()) (wbO (wbH ϫ rfl (wbi (war D_law_forms hr rfl ())) (waZ 6 nd rfl (Ε rfl) ()) (wbQ (wbI (wab (wbY (wbS av (waj Ϗ BG BH gl (waD am (wv 6 rfl) waC (λ_ _=>rfl)) (wae waV waf rfl) rfl rfl rfl rfl rfl) waC (af _)) (wbZ (wab (wbW (wbS dX (wv 2 rfl) waC (af _)) (wbX (wbS gY (waj Ϗ BG BH gl (waD am (wv 6 rfl) waC (λ_ _=>rfl)) (wae waV waf rfl) rfl rfl rfl rfl rfl) (wv 3 rfl) (af _)))))))) (wbQ (wbG (waj Ω Ϡ ϡ bt (wv 5 rfl) (wae (wv 6 rfl) waf rfl) rfl rfl rfl rfl rfl) rfl)) wbP)) ()) (wbO (wbD (waD aA (wv 5 rfl) (waq D_law_draw hr rfl (wae (wv 4 rfl) (wae (wal au rfl T.len () (wae (wv 5 rfl) waf rfl) () () rfl rfl) waf rfl) rfl) () rfl rfl) (λ_ _=>rfl)) (wbb rfl (wbd (waZ 7 nd rfl (Ε rfl) ()) (wbd (waZ 8 nd rfl (Ε rfl) ()) wbe rfl) rfl) rfl rfl) rfl rfl rfl) (wbO (wbI (wbS av (wv 7 rfl) waV (af _)) (wbO (wbM 9 nd rfl (Ε rfl) (waD aA (waM (wae waC (wae (waQ bV (waQ qy waC waC) waC) (wae waC (wae waC waf rfl) rfl) rfl) rfl)) (waq D_law_draw hr rfl (wae (wv 4 rfl) (wae waC waf rfl) rfl) () rfl rfl) (λ_ _=>rfl)) rfl ()) (wbO (wbI (wab (wbW (wbS dX (wv 9 rfl) waC (af _)) (wbX (wbS gY (wv 9 rfl) waC (af _))))) (wbQ (wbM 9 nd rfl (Ε rfl) (waq D_law_draw hr rfl (wae (wv 4 rfl) (wae (waD aA (waM (wae waC (wae (waQ qy waC waC) waf rfl) rfl)) (waQ bV (wv 9 rfl) waC) (λ_ _=>rfl)) waf rfl) rfl) () rfl rfl) rfl ())) wbP) (wbQ (wbK (waX (wae (waX (wae (wv 7 rfl) (wae (wv 9 rfl) waf rfl) rfl)) (wae (wam bL rfl T.str () (wae (wv 9 rfl) waf rfl) () () rfl rfl) (wae waC waf rfl) rfl) rfl)))))) wbP) (wbO (wbI (wbS av (wv 7 rfl) waV (af _)) (wbO (wbM 10 nd rfl (Ε rfl) (waD aA (waD am (wv 1 rfl) waC (λ_ _=>rfl)) (waq D_law_draw hr rfl (wae (wv 4 rfl) (wae waC waf rfl) rfl) () rfl rfl) (λ_ _=>rfl)) rfl ()) (wbQ (wbK (waX (wae (waX (wae (wv 7 rfl) (wae (wv 10 rfl) waf rfl) rfl)) (wae (wv 10 rfl) (wae waC waf rfl) rfl) rfl))))) wbP) (wbO (wbM 11 nd rfl (Ε rfl) (waM waf) rfl ()) (wbO (wbM 12 nd rfl (Ε rfl) (waM waf) rfl ()) (wbO (wbM 13 nd rfl (Ε rfl) (waQ bV (wv 3 rfl) waC) rfl ()) (wbO (wbM 14 nd rfl (Ε rfl) (waj Ϗ BG BH gl (wv 8 rfl) (wae waV waf rfl) rfl rfl rfl rfl rfl) rfl ()) (wbO (wbH ϫ rfl (wbn (wv 8 rfl)) (waZ 15 nd rfl (Ε rfl) ()) (wbO (wbI (wbS av (wv 15 rfl) waV (af _)) (wbO (wbM 14 nd rfl (Ε rfl) (waQ bV (wv 14 rfl) waC) rfl ()) (wbO (wbM 16 nd rfl (Ε rfl) (waQ bV (wv 13 rfl) (wv 14 rfl)) rfl ()) (wbO (wbI (wbS dX (wv 14 rfl) waC (af _)) (wbQ (wbM 16 nd rfl (Ε rfl) (waQ bF waC (waq D_law_draw hr rfl (wae (wv 4 rfl) (wae (wv 16 rfl) waf rfl) rfl) () rfl rfl)) rfl ())) wbP) (wbO (wbD (waq D_law_expression hr rfl (wae (wv 0 rfl) (wae (wv 1 rfl) (wae (waQ bV (wv 2 rfl) waC) (wae (wv 16 rfl) waf rfl) rfl) rfl) rfl) () rfl rfl) (wbb rfl (wbd (waZ 6 nd rfl (Ε rfl) ()) (wbd (waZ 17 nd rfl (Ε rfl) ()) (wbd (waZ 18 nd rfl (Ε rfl) ()) wbe rfl) rfl) rfl) rfl rfl) rfl rfl rfl) (wbQ (wbM 13 nd rfl (Ε rfl) (waQ bV (wv 13 rfl) (wv 18 rfl)) rfl ())))))) (wbQ (wbD (waq D_law_inner hr rfl (wae (wv 15 rfl) (wae (wv 4 rfl) (wae (wv 1 rfl) waf rfl) rfl) rfl) () rfl rfl) (wbb rfl (wbd (waZ 6 nd rfl (Ε rfl) ()) (wbd (waZ 17 nd rfl (Ε rfl) ()) wbe rfl) rfl) rfl rfl) rfl rfl rfl))) (wbO (wbG (waj Ω Ϡ ϡ bt (wv 11 rfl) (wae (wv 6 rfl) waf rfl) rfl rfl rfl rfl rfl) rfl) (wbQ (wbG (waj Ω Ϡ ϡ bt (wv 12 rfl) (wae (wv 17 rfl) waf rfl) rfl rfl rfl rfl rfl) rfl)))) ()) (wbO (wbD (waq D_law_whole hr rfl (wae (wv 7 rfl) (wae (wv 11 rfl) (wae (wv 12 rfl) (wae (wv 4 rfl) (wae (wv 1 rfl) waf rfl) rfl) rfl) rfl) rfl) () rfl rfl) (wbb rfl (wbd (waZ 6 nd rfl (Ε rfl) ()) (wbd (waZ 17 nd rfl (Ε rfl) ()) wbe rfl) rfl) rfl rfl) rfl rfl rfl) (wbQ (wbK (waX (wae (wv 6 rfl) (wae (wv 17 rfl) (wae (waQ bV (wv 3 rfl) (wv 13 rfl)) waf rfl) rfl) rfl))))))))))))))))),?_⟩
 dsimp only[bo,Cx.nox]
 refine cY λX hX=>?_
 refine⟨_,rfl,wk,sc,ns,i,m,rfl,⟨hk0,hsc,i0,i15⟩,ln,λH1 nd s1 hk1 fnd st1=>gs hX λX hX=>?_⟩
 have nw:nd≠wk:=λz=>by rw[z,hk0]at fnd;cases fnd
 have c1:Cur H H1 wk sc nd (i+1) m:=⟨s1,hk1,st1⟩
 have woC:∀{H':Hp}{j:Int},Cur H H' wk sc nd j m->Wo H' g r1 r2 xs ys:=λc=>wo.b nwo c.sb
 have wkC:∀{H':Hp}{j:Int},Cur H H' wk sc nd j m->0<=j->j<10^15->Wk K H' wk sc ns j m:=λc h0 h1=>⟨c.hk,λ_ s=>hsc _ (c.sb.trans s),h0,h1⟩
 refine⟨Υ _,λS hS=>gs hX λX hX=>?_⟩
 have nS:S≠wk:=λz=>by rw[z,hk1]at hS;cases hS
 have nSd:S≠nd:=λz=>by obtain⟨_,_,e⟩:=st1;rw[z,e]at hS;cases hS
 have fS:H S=none:=zh s1 hS nS
 have c2:=c1.m (ac hS (.lst []))
 have h2:upd H1 S (.lst []) S=some (.lst []):=aa
 generalize upd H1 S (.lst [])=H2 at c2 h2⊢
 clear s1 hk1 st1 hS c1
 refine⟨rfl,λH3 l us s3 fl hl R3=>⟨l,rfl,⟨us,SqL.of hl⟩,qz (xs:=us) (λj σ H'=>∃(o6:Option V) (fs:List (Str×Str)) (zs:List V),σ=[some (.ref wk),some (.ref g),some (.int (r+1:Nat)),some (.int bud),some (.ref nd),some (.ref S),o6,none,none,none,none,none,none,none,none,none,none,none,none]/\Cur H H' wk sc nd (i+1) m/\ar S H3 H'/\H' S=some (.lst zs)/\Reps H' (fs.map fmD) zs/\(∀p∈fs,zD (r+1) bud p)/\fs.length<=j/\(1<=j->fs≠[]))
  ⟨_,[],[],rfl,c2.m s3,ar.refl _ _,s3 _ _ h2,by simp[Reps],nofun,π _,λh=>by omega⟩ (λj σ H' _ ⟨_,_,_,_,_,sx,_⟩=>SqL.of (sx _ _ (λz=>by rw[z,h2]at fl;cases fl) hl)) ?T1 ?_⟩⟩
 case T1=>
  rintro j x σ H4 D go hx ⟨o6,fs,zs,rfl,c4,s4,h4,R4,ff,lf,ne⟩
  obtain⟨p,hp,Rx⟩:=qR (f:=fmD) R3 hx
  obtain⟨t,vt,rfl,ht,Rt⟩:=Rep.tup_inv (show Rep H3 (.tup [.str p.1,.str p.2]) x from Rx)
  obtain⟨w1,w2,rfl,e1,e2⟩:=Reps.two Rt
  simp only[Rep]at e1 e2
  subst e1;subst e2
  have h3:=s3 _ _ h2
  have ht4:=s4 _ _ (λz=>by rw[z,h3]at ht;cases ht) ht
  have lj:j<35:=(Θ.mp hp).1
  have lz:zs.length=fs.length:=by have:=R4.length;rwa[η]at this
  refine gnm (ph λY Z hY hZ=>?_)
  have yes:zD (r+1) bud p->Y H4:=λfp=>by
   refine hY _ ⟨_,rfl,.inl ⟨rfl,_,SqL.of h4⟩,_,rfl,S,_,_,rfl,rfl,h4,by rw[ι];omega,?_⟩
   have sB:=ar.upd H4 S (.lst (zs++[.ref t]))
   have tB:=sB.tups h4
   refine go _ _ ⟨_,fs++[p],zs++[.ref t],rfl,c4.l sB fS nS nSd,s4.trans sB,aa,?_,λp' hp'=>?_,by rw[Ζ];exact Nat.succ_le_succ lf,()⟩
   ·rw[Ι]
    have fp2:∀p:Str×Str,L2.Pl 1 (fmD p):=λp=>.tup λd hd=>by
     rcases ν.mp hd with rfl|hd
     ·exact .str
     ·rw[μ.mp hd];exact .str
    refine Reps.append (cg (λd hd v r=>by obtain⟨y,_,rfl⟩:=ϥ.mp hd;exact cm tB (fp2 y) r) R4) (be ?_)
    show Rep _ (.tup [.str p.1,.str p.2]) _
    rw[Rep]
    exact⟨t,_,rfl,tB _ _ ht4,by simp only[Reps];exact⟨_,_,rfl,by simp only[Rep],_,_,rfl,by simp only[Rep],rfl⟩⟩
   ·rcases ϋ.mp hp' with z|z
    ·exact ff p' z
    ·rw[μ.mp z];exact fp
  have no:cE p≠0->Z H4:=λhc=>hZ _ (tnx (go _ _ ⟨_,fs,zs,rfl,c4,s4,h4,R4,ff,Nat.le_succ_of_le lf,λ_=>by
   rcases Nat.eq_zero_or_pos j with z|z
   ·subst z
    rw[fm0]at hp
    cases hp
    exact absurd AU hc
   ·exact ne z⟩))
  have pm:=ϊ hp
  refine⟨_,rfl,t,_,1,.str p.2,rfl,rfl,SqT.of ht4,ae (j:=1) rfl,rfl,p.2,γ "e",rfl,rfl,rfl,_,rfl,ap (λh=>?_) (λh=>?_)⟩
  ·exact aF (yes ⟨pm,.inl (V.int.inj (Q7 h))⟩)
  ·have h0:cE p≠0:=λz=>h (Q9 (congrArg V.int z))
   refine⟨_,rfl,_,_,rfl,rfl,_,rfl,ap (λh1=>?_) (λ_=>aG (no h0))⟩
   refine⟨_,rfl,t,_,1,.str p.2,rfl,rfl,SqT.of ht4,ae (j:=1) rfl,rfl,p.2,γ "e",rfl,rfl,_,rfl,_,_,rfl,rfl,_,rfl,?_⟩
   refine ap (λh2=>yes ⟨pm,.inr ⟨?_,Q7 h2⟩⟩) (λ_=>no h0)
   have:(1:Int)<((r+1:Nat):Int):=Q7 h1
   omega
 rintro σ H4 ⟨o6,fs,zs,rfl,c4,s4,h4,R4,ff,lf,ne⟩
 have lu:us.length=35:=by have:=R3.length;rwa[η]at this
 have f0:0<fs.length:=List.length_pos_iff.mpr (ne ())
 have lz:zs.length=fs.length:=by have:=R4.length;rwa[η]at this
 refine hX _ _ (cY λX hX=>?_)
 refine⟨_,rfl,_,rfl,_,rfl,S,_,rfl,.inl (SqL.of h4),nd,_,rfl,c4.st,(),(),λH5 x s5 st5 x0 x1=>?_⟩
 obtain⟨y,rfl⟩:∃y:Nat,x=y:=⟨x.toNat,()⟩
 have hv:=ς (l:=zs) (i:=y) ()
 obtain⟨p,hp,Rx⟩:=qR (f:=fmD) R4 hv
 obtain⟨t,vt,et,ht,Rt⟩:=Rep.tup_inv (show Rep H4 (.tup [.str p.1,.str p.2]) zs[y]from Rx)
 obtain⟨w1,w2,rfl,e1,e2⟩:=Reps.two Rt
 simp only[Rep]at e1 e2
 subst e1;subst e2
 have c5:=c4.d s5 st5 nw fnd
 have t5:=c4.st.tups s5
 refine⟨S,zs,y,.ref t,rfl,rfl,SqL.of (s5 _ _ nSd h4),ae (by rw[hv,et]),t,_,rfl,SqT.of (t5 _ _ ht),rfl,_,_,rfl,_,_,rfl,rfl,?_⟩
 obtain⟨pm,fit⟩:=ff p (ϊ hp)
 obtain⟨ls,hq⟩:=yh p pm
 clear R3 R4 ff Rx Rt hv hp et ht t5 s5 s4 s3 hl fl h2 h4 lf ne lu f0 lz x0 x1 c2 c4
 refine hX _ _ (cY λX hX=>ph λY Z hY hZ=>?_)
 refine⟨_,rfl,rfl,_,rfl,ap (λh=>hY _ ?_) (λhn=>hZ _ (tnx (hX _ _ (cY λX hX=>ph λY Z hY hZ=>?_))))⟩
 ·have ew:p.1=γ "number":=V.str.inj (Q7 h)
  have p12:yF 10 12:=⟨(),(),()⟩
  refine cY λX2 hX2=>⟨_,_,rfl,rfl,p12,_,_,rfl,rfl,z4,λe he=>⟨_,rfl,nd,4,rfl,c5.st.m (ac he _),(),(),λH6 x s6 st6 x0 x1=>?_⟩⟩
  have ne:e≠nd:=λz=>by obtain⟨_,_,e'⟩:=c5.st;rw[z,e']at he;cases he
  have c6:=(c5.m (ac he _)).d s6 st6 nw fnd
  have he6:=s6 _ _ ne aa
  obtain⟨o,ho,hb⟩:∃o:Int,atI [V.int 0,V.int ((10:Int)^(12:Int).toNat-1),V.int 7,V.int 8] x=some (.int o)/\0<=o/\o<10^12/\(6<o->o<9->o=7\/o=8):=by
   have:x=0\/x=1\/x=2\/x=3:=by omega
   rcases this with rfl|rfl|rfl|rfl
   ·exact⟨0,rfl,(),(),()⟩
   ·exact⟨_,rfl,(),(),()⟩
   ·exact⟨7,rfl,(),(),()⟩
   ·exact⟨8,rfl,(),(),()⟩
  refine⟨e,_,x,.int o,rfl,rfl,SqL.of he6,ho,gnm (hX2 _ _ ?_)⟩
  clear he6 ho s6 st6 he hX2
  refine sr (λσ' H'=>∃o:Int,σ'=[some (.ref wk),some (.ref g),some (.int (r+1:Nat)),some (.int bud),some (.ref nd),some (.ref S),o6,some (.str p.1),some (.str p.2),some (.int o),none,none,none,none,none,none,none,none,none]/\Cur H H' wk sc nd (i+1) m/\0<=o/\o<10^12) ?N1 (λ_ nx=>?_)
  case N1=>
   rintro _ H7 ⟨o,rfl,c7,o0,o1⟩
   refine⟨_,rfl,_,rfl,z2,λt1 ht1=>⟨_,rfl,o,rfl,?_,z3,λt2 ht2=>?_⟩⟩
   ·have:o.natAbs<2^40:=by omega
    rcases Nat.eq_zero_or_pos o.natAbs with z|z
    ·rw[z];decide
    ·exact Nat.lt_trans ((Nat.log2_lt ()).mpr this) ()
   have s8:=ac ht1 (.tup [.str p.1,.int o])
   have h8:upd H7 t1 (.tup [.str p.1,.int o]) t1=some (.tup [.str p.1,.int o]):=aa
   generalize upd H7 t1 (.tup [.str p.1,.int o])=H8 at s8 h8 ht2⊢
   have s9:=ac ht2 (.tup [.ref t1,.str (γ (toString o)),.int 1])
   have c9:=c7.m (s8.trans s9)
   have wx:Wx (r+1) (.tup [.str (γ "number"),.int o]) (.leaf (aV o)):=.inl ⟨o,o0,o1,rfl,rfl⟩
   refine q _ _ _ _ 1 c9.sb (wkC c9 () ()) ?_ wx (dI (n:=r) (p:=xw) in5.2.2.2.1 (bQ wx).1) (π _) b1
   rw[brT,Rep]
   refine⟨t2,_,rfl,aa,?_⟩
   simp only[Reps]
   refine⟨_,_,rfl,?_,_,_,rfl,by simp only[Rep];rfl,_,_,rfl,by simp only[Rep];rfl,rfl⟩
   rw[Rep]
   exact⟨t1,_,rfl,s9 _ _ h8,by simp only[Reps];exact⟨_,_,rfl,by simp only[Rep,ew],_,_,rfl,by simp only[Rep],rfl⟩⟩
  refine⟨_,rfl,_,_,rfl,rfl,_,rfl,ap (λh6=>?_) (λ_=>aG (tnx (nx _ _ ⟨o,rfl,c6,hb.1,hb.2.1⟩)))⟩
  refine⟨_,rfl,_,_,rfl,rfl,_,rfl,ap (λh9=>?_) (λ_=>tnx (nx _ _ ⟨o,rfl,c6,hb.1,hb.2.1⟩))⟩
  have o7:=hb.2.2 (Q7 h6) (Q7 h9)
  refine⟨_,rfl,_,_,rfl,rfl,p12,z2,λe2 he2=>⟨_,rfl,_,_,rfl,rfl,?_⟩⟩
  have c7:=c6.m (ac he2 (.lst [.int 100,.int ((10:Int)^(12:Int).toNat)]))
  obtain⟨u,hu,u0,u1⟩:∃u:Int,atI [V.int 100,V.int ((10:Int)^(12:Int).toNat)] (o-7)=some (.int u)/\0<u/\u<=10^12:=by
   rcases o7 with rfl|rfl
   ·exact⟨100,rfl,(),()⟩
   ·exact⟨_,rfl,(),()⟩
  refine⟨e2,_,o-7,.int u,rfl,rfl,SqL.of aa,hu,nd,u,rfl,c7.st,u0,(),λH8 y s8 st8 y0 y1=>gnm (nx _ _ ⟨y,rfl,c7.d s8 st8 nw fnd,y0,()⟩)⟩
 refine⟨_,rfl,rfl,_,rfl,ap (λh=>hY _ ?_) (λhm=>hZ _ (tnx (hX _ _ ?_)))⟩
 ·have ew:p.1=γ "name":=V.str.inj (Q7 h)
  have wo5:=woC c5
  have n5:=wo5.ne c5.st
  refine cY λX2 hX2=>⟨_,rfl,g,_,0,.ref r1,rfl,rfl,SqT.of wo5.hg,ae (j:=0) rfl,_,rfl,nd,12,rfl,c5.st,(),(),λH6 x s6 st6 x0 x1=>?_⟩
  obtain⟨y,hy,he⟩:∃y,y∈xs/\atI (xs.map V.str) x=some (.str y):=by
   have hi:x.toNat<xs.length:=by rw[wo.l1];omega
   refine⟨xs[x.toNat],i8 hi,?_⟩
   have e:=ae (xs:=xs.map V.str) (j:=x.toNat) (v:=.str xs[x.toNat]) (by rw[Ν,ς hi];rfl)
   rwa[show((x.toNat:Nat):Int)=x by omega]at e
  have c6:=c5.d s6 st6 nw fnd
  refine⟨r1,_,x,.str y,rfl,rfl,SqL.of (s6 _ _ n5.2.1 wo5.h1),he,gnm (hX2 _ _ ?_)⟩
  refine⟨_,rfl,_,rfl,z2,λt1 ht1=>⟨_,rfl,z3,λt2 ht2=>?_⟩⟩
  have s8:=ac ht1 (.tup [.str p.1,.str y])
  have h8:upd H6 t1 (.tup [.str p.1,.str y]) t1=some (.tup [.str p.1,.str y]):=aa
  generalize upd H6 t1 (.tup [.str p.1,.str y])=H8 at s8 h8 ht2⊢
  have s9:=ac ht2 (.tup [.ref t1,.str y,.int 1])
  have c9:=c6.m (s8.trans s9)
  have wx:Wx (r+1) (.tup [.str (γ "name"),.str y]) (.leaf y):=.inr (.inl ⟨y,wo.n1 y hy,rfl,rfl⟩)
  refine q _ _ _ _ 1 c9.sb (wkC c9 () ()) ?_ wx (dI (n:=r) (p:=wZ) in5.2.2.2.2 (bQ wx).1) (π _) b1
  rw[brT,Rep]
  refine⟨t2,_,rfl,aa,?_⟩
  simp only[Reps]
  refine⟨_,_,rfl,?_,_,_,rfl,by simp only[Rep],_,_,rfl,by simp only[Rep];rfl,rfl⟩
  rw[Rep]
  exact⟨t1,_,rfl,s9 _ _ h8,by simp only[Reps];exact⟨_,_,rfl,by simp only[Rep,ew],_,_,rfl,by simp only[Rep],rfl⟩⟩
 have hn:p.1≠γ "number":=λz=>hn (Q9 (congrArg V.str z))
 have hm:p.1≠γ "name":=λz=>hm (Q9 (congrArg V.str z))
 obtain⟨lsg,lsz,ls5,_⟩:=yG _ hq
 obtain⟨lsc,ls4⟩:=wP _ hq
 have lso:=zu _ hq
 have lsw:=wp _ hq
 dsimp only at lsg lsz ls5 lsc ls4 lso lsw
 have fit1:nE ls+1<=bud/\(nE ls≠0->1<=r):=by
  unfold cE at fit
  rw[lsc]at fit
  omega
 refine cY λX hX=>⟨Υ _,λLP hLP=>gs hX λX hX=>⟨Υ _,λLT hLT=>gs hX λX hX=>?_⟩⟩
 have nP:LP≠wk:=λz=>by rw[z,c5.hk]at hLP;cases hLP
 have nPd:LP≠nd:=λz=>by obtain⟨_,_,e⟩:=c5.st;rw[z,e]at hLP;cases hLP
 have fP:H LP=none:=zh c5.sb hLP nP
 have c6:=c5.m (ac hLP (.lst []))
 have h6:upd H5 LP (.lst []) LP=some (.lst []):=aa
 generalize upd H5 LP (.lst [])=H6 at c6 h6 hLT⊢
 have nT:LT≠wk:=λz=>by rw[z,c6.hk]at hLT;cases hLT
 have nTd:LT≠nd:=λz=>by obtain⟨_,_,e⟩:=c6.st;rw[z,e]at hLT;cases hLT
 have nTP:LT≠LP:=λz=>by rw[z,h6]at hLT;cases hLT
 have fT:H LT=none:=zh c6.sb hLT nT
 have c7:=c6.m (ac hLT (.lst []))
 have h7:=ac hLT (.lst []) _ _ h6
 have g7:upd H6 LT (.lst []) LT=some (.lst []):=aa
 generalize upd H6 LT (.lst [])=H7 at c7 h7 g7⊢
 clear hLP hLT h6 c6 c5 hY hZ
 refine⟨_,rfl,_,_,rfl,rfl,gs hX λX hX=>⟨_,rfl,rfl,p.2,γ "e",rfl,rfl,gs hX λX hX=>?_⟩⟩
 refine⟨_,rfl,p.2,rfl,tM (λj σ H'=>∃(o6 o15 o16 o17 o18:Option V) (lf mo:Int) (us:List V) (ds:List Dv) (bs:List Br) (N:Nat),σ=[some (.ref wk),some (.ref g),some (.int (r+1:Nat)),some (.int bud),some (.ref nd),some (.ref S),o6,some (.str p.1),some (.str p.2),none,none,some (.ref LP),some (.ref LT),some (.int lf),some (.int mo),o15,o16,o17,o18]/\Cur H H' wk sc nd (i+1+N) m/\Kp LP LT us ds bs H'/\Ags (Wx r) (ls.take j) ds bs/\((ba (ls.take j) ds).map (exN r)).sum=N/\lf=bud-1-N/\mo=nE (ls.drop j)/\N+nE (ls.drop j)+1<=bud/\∀y,ds[0]?=some (.str y)->y∈xs)
  ⟨_,_,_,_,_,_,_,[],[],[],0,rfl,by simpa using c7,⟨h7,by simp[Reps],g7⟩,.nil,rfl,(),lsc,by simpa using fit1.1,λy h=>by simp at h⟩ ?T2 ?_⟩
 case T2=>
  intro j σ H8 D go hj h
  refine gs (λ_ _ z=>z) λX hX=>?_
  obtain⟨o6,o15,o16,o17,o18,lf,mo,us,ds,bs,N,rfl,c8,k8,ag,eN,elf,emo,hN,hx0⟩:=h
  rw[lsz]at hj
  obtain⟨s0,hs0⟩:∃s0,ls[j]?=some s0:=⟨ls[j],ς hj⟩
  have htk:ls.take (j+1)=ls.take j++[s0]:=by rw[Ϣ,hs0];rfl
  have hdr:ls.drop j=s0::ls.drop (j+1):=by rw[m_ hj];congr 1;rw[ς hj]at hs0;exact ϕ hs0
  have esg:oi p.2 j=.str (lt s0):=wJ lsg (by rw[lsz];exact hj) hs0
  rw[esg]
  have pl8:∀d∈ds,L2.Pl (2*r+9) d:=pZ () (λd b h=>nV h) ag
  have nx:∀(σ':St)(H':Hp),(∃(o16 o18:Option V) (lf' mo':Int) (v:V) (d:Dv) (b:Br) (N':Nat),σ'=[some (.ref wk),some (.ref g),some (.int (r+1:Nat)),some (.int bud),some (.ref nd),some (.ref S),some v,some (.str p.1),some (.str p.2),none,none,some (.ref LP),some (.ref LT),some (.int lf'),some (.int mo'),some (.str (lt s0)),o16,some (bv b),o18]/\Cur H H' wk sc nd (i+1+N') m/\Kp LP LT us ds bs H'/\Rep H' d v/\Ag (Wx r) s0 d b/\N+((ptD s0 d).map (exN r)).sum=N'/\lf'=bud-1-N'/\mo'=nE (ls.drop (j+1))/\N'+nE (ls.drop (j+1))+1<=bud/\∀y,d=.str y->y∈xs)->X σ' H':=by
   rintro _ H9 ⟨o16,o18,lf',mo',v,d,b,N',rfl,c9,k9,R9,ag9,eN',elf',emo',hN',hd9⟩
   have pl9:L2.Pl (2*r+9) d:=xY () (λd b h=>nV h) ag9
   obtain⟨lb,ld⟩:=ag.len
   have lu:=k9.rp.length
   have lj:(ls.take j).length<=5:=by rw[Χ];omega
   refine hX _ _ (cY λX2 hX2=>⟨_,rfl,.inl ⟨rfl,_,SqL.of k9.hp⟩,_,rfl,LP,_,_,rfl,rfl,k9.hp,by rw[ι];omega,?_⟩)
   have sB:=ar.upd H9 LP (.lst (us++[v]))
   have tB:=sB.tups k9.hp
   have c10:=c9.l sB fP nP nPd
   have h10:upd H9 LP (.lst (us++[v])) LP=some (.lst (us++[v])):=aa
   have g10:=sB _ _ nTP k9.ht
   have R10:=Reps.append (cg (λd hd v r=>cm tB (pl8 d hd) r) k9.rp) (be (cm tB pl9 R9))
   generalize upd H9 LP (.lst (us++[v]))=HA at sB tB c10 h10 g10 R10⊢
   refine hX2 _ _ ⟨_,rfl,.inl ⟨rfl,_,SqL.of g10⟩,_,rfl,LT,_,_,rfl,rfl,g10,by rw[η,ι];omega,?_⟩
   have sC:=ar.upd HA LT (.lst (bs.map bv++[bv b]))
   have tC:=sC.tups g10
   have pl10:∀e∈ds++[d],L2.Pl (2*r+9) e:=λe he=>by
    rcases ϋ.mp he with z|z
    ·exact pl8 e z
    ·rw[μ.mp z];exact pl9
   obtain⟨ags,pts⟩:=ag.snoc ag9
   refine go _ _ ⟨_,_,_,_,_,lf',mo',us++[v],ds++[d],bs++[b],N',rfl,c10.l sC fT nT nTd,⟨sC _ _ (ϒ nTP) h10,cg (λd hd v r=>cm tC (pl10 d hd) r) R10,by rw[aa,Ι];rfl⟩,by rw[htk];exact ags,by rw[htk,pts,Ι,Bp,eN];exact eN',elf',emo',hN',λy hy=>?_⟩
   cases ds with
   |nil=>exact hd9 y (ϕ hy)
   |cons d0 ds=>exact hx0 y hy
  refine ph λY Z hY hZ=>⟨_,rfl,rfl,_,rfl,?_⟩
  have hso:=lso s0 (ϊ hs0)
  rcases hso with rfl|hso
  ·have nEd:nE (ls.drop j)=nE (ls.drop (j+1))+1:=by rw[hdr];rfl
   have r1':1<=r:=fit1.2 λz=>by
    have:nE ls=nE (ls.take j)+nE (ls.drop j):=by unfold nE;rw[<-Ζ,<-Ci,List.take_append_drop]
    omega
   refine ap (λ_=>hY _ (cY λX hX=>⟨_,rfl,_,_,rfl,rfl,gs hX λX hX=>⟨_,rfl,_,rfl,_,_,rfl,rfl,gnm (hX _ _ ?_)⟩⟩)) (λh=>absurd (Q9 rfl) h)
   obtain⟨sh,hsh⟩:∃sh:Nat,lf-(mo-1)=sh:=⟨(lf-(mo-1)).toNat,()⟩
   dsimp only
   rw[hsh]
   refine sr (λσ' H'=>∃sh:Nat,σ'=[some (.ref wk),some (.ref g),some (.int (r+1:Nat)),some (.int bud),some (.ref nd),some (.ref S),o6,some (.str p.1),some (.str p.2),none,none,some (.ref LP),some (.ref LT),some (.int lf),some (.int (mo-1)),some (.str (lt .e)),some (.int sh),o17,o18]/\Cur H H' wk sc nd (i+1+N) m/\Kp LP LT us ds bs H'/\1<=sh/\N+sh+nE (ls.drop (j+1))+1<=bud) ?N3 (λ_ nx3=>?_)
   case N3=>
    rintro _ H9 ⟨sh,rfl,c9,k9,sh1,sh2⟩
    refine cY λX3 hX3=>⟨_,rfl,_,rfl,_,rfl,_,_,rfl,rfl,_,rfl,wk,g,r1,r2,sc,ns,i+1+N,m,xs,ys,r,sh,?_,wkC c9 () (),(),ln,woC c9,r1',(),(),sh1,(),λHA v d b c sA wA RA wx ex cl cu=>?_⟩
    ·show [V.ref wk,V.ref g,V.int (((r+1:Nat):Int)-1),V.int sh]=_
     rw[show((r+1:Nat):Int)-1=(r:Int) by omega]
    obtain⟨t,vt,rfl,ht,Rt⟩:=Rep.tup_inv RA
    simp only[Reps]at Rt
    obtain⟨w1,_,rfl,e1,w2,_,rfl,e2,w3,_,rfl,e3,rfl⟩:=Rt
    simp only[Rep]at e2 e3
    subst e2;subst e3
    refine⟨t,_,rfl,SqT.of ht,rfl,_,_,rfl,_,_,rfl,_,_,rfl,rfl,hX3 _ _ ⟨_,rfl,_,rfl,_,_,rfl,rfl,gnm (nx _ _ ⟨_,_,lf-c,mo-1,w1,d,b,N+c,rfl,c9.e sA ?_ nw,k9.b sA (c9.tm sA) nP nT pl8,e1,wx,?_,(),(),(),λy hd=>?_⟩)⟩⟩
    ·have:=wA.1
     rwa[show i+1+(N:Int)+c=i+1+((N+c:Nat):Int) by omega]at this
    ·show N+(exN r d+0)=_
     rw[ex];rfl
    ·exact absurd hd (pE (r:=r) (s:=.e) wx (.inl rfl) y)
   refine ph λY Z hY hZ=>⟨_,rfl,_,_,rfl,rfl,_,rfl,ap (λh0=>hY _ ?_) (λh0=>hZ _ (tnx (nx3 _ _ ⟨sh,rfl,c8,k8,(),()⟩)))⟩
   refine⟨_,rfl,_,rfl,nd,sh,rfl,c8.st,(),(),λH9 x s9 st9 x0 x1=>?_⟩
   obtain⟨y,rfl⟩:∃y:Nat,x=y:=⟨x.toNat,()⟩
   exact⟨_,_,rfl,rfl,gnm (nx3 _ _ ⟨1+y,rfl,c8.d s9 st9 nw fnd,k8.b s9 (c8.st.tups s9) nPd nTd pl8,(),()⟩)⟩
  ·refine ap (λh=>absurd (V.str.inj (Q7 h)) (Bf hso)) (λ_=>hZ _ ?_)
   refine⟨_,rfl,_,rfl,_,rfl,s0,nd,g,r1,r2,xs,ys,rfl,hso,c8.st,woC c8,λH9 v d b s9 st9 R9 ag9 lb hy=>?_⟩
   obtain⟨t,vt,rfl,ht,Rt⟩:=Rep.tup_inv R9
   obtain⟨w1,w2,rfl,e1,e2⟩:=Reps.two Rt
   simp only[Rep]at e2
   subst e2
   have e0:((ptD s0 d).map (exN r)).sum=0:=by rcases hso with rfl|rfl|rfl|rfl<;>rfl
   have nEd:nE (ls.drop j)=nE (ls.drop (j+1)):=by rw[hdr];rcases hso with rfl|rfl|rfl|rfl<;>rfl
   refine⟨t,_,rfl,SqT.of ht,rfl,_,_,rfl,_,_,rfl,rfl,nx _ _ ⟨_,_,lf,mo,w1,d,b,N,rfl,c8.d s9 st9 nw fnd,k8.b s9 (c8.st.tups s9) nPd nTd pl8,e1,ag9 _,by rw[e0];rfl,elf,by rw[emo,nEd],(),λy hd=>?_⟩⟩
   rcases hso with z|z|z
   ·exact absurd hd (pE (r:=r) (ag9 _) (.inr (.inl z)) y)
   ·exact absurd hd (pE (r:=r) (ag9 _) (.inr (.inr z)) y)
   ·obtain⟨y',hy',e,_⟩:=hy z
    rw[e]at hd
    cases hd
    exact hy'
 rintro σ H8 ⟨o6,o15,o16,o17,o18,lf,mo,us,ds,bs,N,rfl,c8,k8,ag,eN,elf,emo,hN,hx0⟩
 rw[lsz,ϛ]at ag eN
 have sl:=qM (n:=r) (λd b h=>jx h) ag
 rw[eN]at sl
 refine hX _ _ (cY λX hX=>⟨_,rfl,_,rfl,_,rfl,_,rfl,_,rfl,r,p.1,LP,LT,nd,g,r1,r2,us,ds,ba ls ds,bs,xs,ys,rfl,k8.hp,k8.rp,k8.ht,nPd,nTd,c8.st,woC c8,Ad hq hn hm ag hx0,(),λH9 v d b s9 st9 R9 wx ex=>?_⟩)
 obtain⟨t,vt,rfl,ht,Rt⟩:=Rep.tup_inv R9
 obtain⟨w1,w2,rfl,e1,e2⟩:=Reps.two Rt
 simp only[Rep]at e2
 subst e2
 have c9:=c8.d s9 st9 nw fnd
 refine⟨t,_,rfl,SqT.of ht,rfl,_,_,rfl,_,_,rfl,rfl,hX _ _ ⟨_,rfl,_,rfl,_,rfl,_,rfl,_,_,rfl,rfl,z3,λt2 ht2=>?_⟩⟩
 have sA:=ac ht2 (.tup [w1,bv b,.int ((bud:Int)-lf)])
 have cA:=c9.m sA
 rw[eN]at ex
 have wkA:=wkC cA () ()
 rw[show i+1+(N:Int)=i+((1+N:Nat):Int) by omega]at wkA
 refine q _ _ d b (1+N) cA.sb wkA ?_ wx ex () ()
 rw[Rep]
 refine⟨t2,_,rfl,aa,?_⟩
 simp only[Reps]
 refine⟨_,_,rfl,e1.mono sA,_,_,rfl,by simp only[Rep],_,_,rfl,?_,rfl⟩
 simp only[Rep]
 exact congrArg V.int (by show(bud:Int)-lf=_;omega)
abbrev kt:Stmt:=top 72
def rT(K:ζ):Sp:=λvs H Q _=>∃(a:Addr) (ns:List Int),vs=[.ref a]/\SqL K H a (ns.map V.int)/\ns.length<=63/\∀H',Q (.bl true) H'
theorem Ak.up{n m:Nat}{d:Dv}(h:Ak n d):n<=m->Ak m d:=by
 induction h generalizing m with
 |int=>intro hm;obtain⟨k,rfl⟩:∃k,m=k+1:=⟨m-1,()⟩;exact .int
 |str=>intro hm;obtain⟨k,rfl⟩:∃k,m=k+1:=⟨m-1,()⟩;exact .str
 |tup l _ ih=>
  intro hm
  obtain⟨k,rfl⟩:∃k,m=k+1:=⟨m-1,()⟩
  exact .tup l λd hd=>ih d hd ()
theorem pM{c:Int}{ps:List Pr}(h:ps.length<=21):Ak 4 (bz c ps):=by
 refine .tup (by show 2<=30;decide) λd hd=>?_
 rcases ν.mp hd with rfl|hd
 ·exact .int
 rw[μ.mp hd]
 refine .tup (by rw[show(aO ps).length=ps.length from η _];omega) λe he=>?_
 obtain⟨p,hp,rfl⟩:=ϥ.mp he
 refine .tup (by show 2<=30;decide) λg hg=>?_
 rcases ν.mp hg with rfl|hg
 ·exact .str
 rw[μ.mp hg]
 exact .int
theorem rM:∀{k:Kd},k.All Wr->Ak (k.size+4) k.dv
 |.whole,_=>.tup (by show 1<=30;decide) λd hd=>by rw[μ.mp hd];exact .str
 |.place c ps,h=>.tup (by show 2<=30;decide) λd hd=>by
   rcases ν.mp hd with rfl|hd
   ·exact .str
   ·rw[μ.mp hd];exact pM h.len
 |.row c ps k,h=>.tup (by show 3<=30;decide) λd hd=>by
   have kp:=k.size_pos
   rcases ν.mp hd with rfl|hd
   ·exact .str
   ·rcases ν.mp hd with rfl|hd
    ·exact(pM h.1.len).up (by show 4<=k.size+4;omega)
    ·rw[μ.mp hd];exact(rM h.2).up (π _)
 |.pair i j,h=>.tup (by show 3<=30;decide) λd hd=>by
   rcases ν.mp hd with rfl|hd
   ·exact .str
   ·rcases ν.mp hd with rfl|hd
    ·exact(rM h.1).up (by show i.size+4<=i.size+j.size+4;omega)
    ·rw[μ.mp hd];exact(rM h.2).up (by show j.size+4<=i.size+j.size+4;omega)
theorem Ai{m:Nat}{R:Dv->Br->Prop}(hm:10<=m)(hR:∀d b,R d b->Ak m d):∀{s:So}{d:Dv}{b:Br},Ag R s d b->Ak m d
 |.e,_,_,h=>hR _ _ h
 |.l,_,_,h=>by obtain⟨c,ps,rfl,_,sm⟩:=h;exact(pM sm.1.1.len).up ()
 |.k,_,_,h=>by obtain⟨k,rfl,_,a,z⟩:=h;exact(rM (bS (λ_ _ h=>h.1.1) a)).up ()
 |.x,_,_,h=>by obtain⟨y,rfl,_⟩:=h;exact(Ak.str (n:=0)).up ()
 |.y,_,_,h=>by obtain⟨y,rfl,_⟩:=h;exact(Ak.str (n:=0)).up ()
theorem yu{m:Nat}{R:Dv->Br->Prop}(hm:10<=m)(hR:∀d b,R d b->Ak m d){ss:List So}{ds:List Dv}{bs:List Br}(h:Ags R ss ds bs):∀d∈ds,Ak m d:=by
 induction h with
 |nil=>exact nofun
 |cons a _ ih=>
  intro d hd
  rcases ν.mp hd with rfl|hd
  ·exact Ai hm hR a
  ·exact ih d hd
theorem tO{m:Nat}{x:Str}{ds:List Dv}(h:∀d∈ds,Ak (m+1) d)(l:ds.length<=20):Ak (m+2) (.tup (.str x::ds)):=.tup (by rw[ω];omega) λd hd=>by
 rcases ν.mp hd with rfl|hd
 ·exact .str
 ·exact h d hd
theorem xG:∀{n:Nat}{d:Dv}{b:Br},Wx n d b->Ak (2*n+10) d
 |n+1,d,b,h=>by
  have hR:∀d b,Wx n d b->Ak (2*n+10) d:=λd b h=>xG h
  have al:∀{ds:List Dv}{bs:List Br},Als (Wx n) ds bs->∀d∈ds,Ak (2*n+10) d:=λha d hd=>by obtain⟨b,_,r⟩:=ha.mem.1 d hd;exact hR d b r
  rcases h with ⟨i,_,_,rfl,_⟩|⟨y,_,rfl,_⟩|⟨f,ds,bs,_,_,_,l4,a,rfl,_⟩|⟨r,d1,d2,b1,b2,_,w1,w2,rfl,_⟩|⟨ds,bs,_,l4,a,rfl,_⟩|⟨p,ds,bs,hp,_,a,_,rfl,_⟩
  ·exact tO (m:=2*n+10) (λd hd=>by rw[μ.mp hd];exact .int) (by show 1<=20;decide)
  ·exact tO (m:=2*n+10) (λd hd=>by rw[μ.mp hd];exact .str) (by show 1<=20;decide)
  ·refine tO (m:=2*n+10) (λd hd=>?_) (by show 2<=20;decide)
   rcases ν.mp hd with rfl|hd
   ·exact .str
   ·rw[μ.mp hd];exact .tup () λd hd=>al a d hd
  ·refine tO (m:=2*n+10) (λd hd=>?_) (by show 3<=20;decide)
   rcases ν.mp hd with rfl|hd
   ·exact .str
   ·rcases ν.mp hd with rfl|hd
    ·exact(hR _ _ w1).up ()
    ·rw[μ.mp hd];exact(hR _ _ w2).up ()
  ·exact tO (m:=2*n+10) (λd hd=>by rw[μ.mp hd];exact .tup () λd hd=>al a d hd) (by show 1<=20;decide)
  ·have:=cj p hp
   exact tO (m:=2*n+10) (λd hd=>(yu () hR a d hd).up ()) (by rw[a.len.2];omega)
theorem xf{K:ζ}{i:Nat}{f:Int->Int->V}:∀σ H (Q Q':Bool->Hp->Prop),(∀b H1,Q b H1->Q' b H1)->rY (tOp (rI0 f) (tOp (sT K) (fz i) (tC (V.int 1))) (tOp (sT K) (fz i) (tC (V.int 2)))) σ H Q->rY (tOp (rI0 f) (tOp (sT K) (fz i) (tC (V.int 1))) (tOp (sT K) (fz i) (tC (V.int 2)))) σ H Q':=by
 rintro σ H Q Q' h ⟨v,e,a,xs,k,u,e1,e2,e3,e4,v',e',a',xs',k',u',e1',e2',e3',e4',x,y,g1,g2,b,g3,z⟩
 exact⟨v,e,a,xs,k,u,e1,e2,e3,e4,v',e',a',xs',k',u',e1',e2',e3',e4',x,y,g1,g2,b,g3,h _ _ z⟩
theorem zT{α:Type}{b:Bool}{ds:α}(h:b=true↔ds≠ds):b=false:=by
 cases b with
 |false=>rfl
 |true=>exact absurd rfl (h.mp rfl)
theorem yy{n:Nat}{d:Dv}{b:Br}(h:Wx n d b):∃ds,d=.tup ds:=by
 cases n with
 |zero=>exact h.elim
 |succ n=>rcases h with ⟨_,_,_,h,_⟩|⟨_,_,h,_⟩|⟨_,_,_,_,_,_,_,_,h,_⟩|⟨_,_,_,_,_,_,_,_,h,_⟩|⟨_,_,_,_,_,h,_⟩|⟨_,_,_,_,_,_,_,h,_⟩<;>exact⟨_,h⟩
theorem vh:ao ["_law_script","_law_world_here","_law_budget","_law_walk","_law_one","_law_text","_law_nodes","_law_found"] ["_law_script"] (ah kt):=by trivial
theorem ze{f:Addr}{fd:Η}{k0:Nat}(F:Fun K "law" "law" kt f fd)(T:Txt K mg)(D_law_state:Def P w K mg base k0 "_law_state" ["_law_script","_law_k"] (lP K))(D_law_draw:Def P w K mg base k0 "_law_draw" ["_law_state_here","_law_many"] dD)(D_law_world:Def P w K mg base k0 "_law_world" ["_law_state_here"] rg)(D_law_expression:Def P w K mg base k0 "_law_expression" ["_law_walk","_law_world_here","_law_room","_law_budget"] (xq K 8))(Dshow_expression:Def P w K mg base k0 "show_expression" ["expression"] (ky 8))(D_law_alike:Def P w K mg base k0 "_law_alike" ["_law_found","_law_due"] (ia 26))(Dread_expression:Def P w K mg base k0 "read_expression" ["text"] (wf WE)):
  aw P w K mg base CX0 (k0+1) f fd ["_law_script"] (rT K):=by
 have nd:=vh.nd
 refine F.ok vh (λvs H Q E h=>?_) (λcdv A outer s H vs Q E hr h=>?_)
 ·obtain⟨a,ns,rfl,_⟩:=h
  rfl
 obtain⟨sc,ns,rfl,hS,h63,q⟩:=h
 have hu:=jG hr
 refine⟨_,(@un _ _ _ (wbO (wbM 1 nd rfl (Ε rfl) (waq D_law_world hr rfl (wae (waq D_law_state hr rfl (wae (wv 0 rfl) (wae waC waf rfl) rfl) () rfl rfl) waf rfl) () rfl rfl) rfl ()) (wbO (wbM 2 nd rfl (Ε rfl) (waD aA (waM (wae waC (wae waC (wae waC (wae waC waf rfl) rfl) rfl) rfl)) (waq D_law_draw hr rfl (wae (waq D_law_state hr rfl (wae (wv 0 rfl) (wae waC waf rfl) rfl) () rfl rfl) (wae waC waf rfl) rfl) () rfl rfl) (λ_ _=>rfl)) rfl ()) (wbO (wbM 3 nd rfl (Ε rfl) (waM (wae (wv 0 rfl) (wae waC (wae (wal (tJ rfl) rfl T.max () (wae waC (wae (wal (tz rfl) rfl T.min () (wae waC (wae (wal au rfl T.len () (wae (wv 0 rfl) waf rfl) () () rfl rfl) waf rfl) rfl) () () rfl rfl) waf rfl) rfl) () () rfl rfl) waf rfl) rfl) rfl)) rfl ()) (wbO (wbN ϫ (wbS fU (waD aA (wv 3 rfl) waC (λ_ _=>rfl)) (waD aA (wv 3 rfl) waC (λ_ _=>rfl)) (af _)) (wbO (wbD (waq D_law_expression hr rfl (wae (wv 3 rfl) (wae (wv 1 rfl) (wae waC (wae (wv 2 rfl) waf rfl) rfl) rfl) rfl) () rfl rfl) (wbb rfl (wbd (waZ 4 nd rfl (Ε rfl) ()) (wbd (waZ 5 nd rfl (Ε rfl) ()) (wbd (waZ 6 nd rfl (Ε rfl) ()) wbe rfl) rfl) rfl) rfl rfl) rfl rfl rfl) (wbO (wbM 7 nd rfl (Ε rfl) (waq Dshow_expression hr rfl (wae (wv 4 rfl) waf rfl) () rfl rfl) rfl ()) (wbO (wbI (wab (wbY (wbT (wbV (wal aS rfl T.isinstance () (wae (wv 7 rfl) (wae (wai (.ty "str") rfl T.str () rfl () ()) waf rfl) rfl) () () rfl rfl) ())) (wbY (wbS (uJ hu) (wv 7 rfl) (wv 5 rfl) (af _)) (wbZ (wbT (wbV (waq D_law_alike hr rfl (wae (waq Dread_expression hr rfl (wae (wv 5 rfl) waf rfl) () rfl rfl) (wae (wv 4 rfl) waf rfl) rfl) () rfl rfl) ())))))) (wbQ (wbK wah)) wbP) (wbQ (wbI (wbS (uJ hu) (waq Dread_expression hr rfl (wae (wv 5 rfl) waf rfl) () rfl rfl) (wv 4 rfl) (af _)) (wbQ (wbK wah)) wbP)))))) (wbQ (wbK wah))))))),?_⟩
 dsimp only[bo,Cx.nox]
 refine cY λX hX=>⟨_,rfl,sc,ns,0,rfl,hS,(),λH1 a1 s1 f1 st1=>⟨a1,rfl,st1,λH2 g r1 r2 xs ys s2 st2 wo2=>gs hX λX hX=>?_⟩⟩
 have s02:ai H H2:=ar.same f1 s1 s2
 clear st1 st2 s1 s2
 refine⟨z4,λe he=>⟨_,rfl,sc,ns,1,rfl,(s02.trans (ac he _)).seq hS,(),λH3 a3 s3 f3 st3=>⟨a3,4,rfl,st3,(),(),λH4 x s4 st4 x0 x1=>?_⟩⟩⟩
 obtain⟨bud,hb,b1,b2⟩:∃bud:Nat,atI [V.int 40,V.int 40,V.int 13,V.int 3] x=some (.int bud)/\1<=bud/\bud<=40:=by
  have:x=0\/x=1\/x=2\/x=3:=by omega
  rcases this with rfl|rfl|rfl|rfl
  ·exact⟨40,rfl,(),()⟩
  ·exact⟨40,rfl,(),()⟩
  ·exact⟨13,rfl,(),()⟩
  ·exact⟨3,rfl,(),()⟩
 have s24:ai H2 H4:=ar.same (ac he _ |>.free f3) ((ac he _).trans s3) s4
 have he4:=ar.same f3 s3 s4 _ _ (aa (H:=H2) (a:=e) (o:=.lst [.int 40,.int 40,.int 13,.int 3]))
 refine⟨e,_,x,.int bud,rfl,rfl,SqL.of he4,hb,gs hX λX hX=>?_⟩
 have hS4:=(s02.trans s24).seq hS
 have wo4:Wo H4 g r1 r2 xs ys:=⟨s24 _ _ wo2.hg,s24 _ _ wo2.h1,s24 _ _ wo2.h2,wo2.l1,wo2.nd,wo2.n1,wo2.l2,wo2.n2⟩
 clear st3 st4 s3 s4 f3 he he4 wo2
 refine⟨_,rfl,_,rfl,sc,_,rfl,.inl hS4,_,_,rfl,_,_,rfl,z3,λwk hwk=>gs hX λX hX=>?_⟩
 have m63:(if (if ((ns.map V.int).length:Int)<63 then ((ns.map V.int).length:Int)else 63)>2 then (if ((ns.map V.int).length:Int)<63 then ((ns.map V.int).length:Int)else 63)else 2)<=63:=by
  split<;>split<;>omega
 generalize (if (if ((ns.map V.int).length:Int)<63 then ((ns.map V.int).length:Int)else 63)>2 then (if ((ns.map V.int).length:Int)<63 then ((ns.map V.int).length:Int)else 63)else 2)=m at m63⊢
 have w5:Wk K (upd H4 wk (.lst [.ref sc,.int 2,.int m])) wk sc ns 2 m:=by
  refine⟨aa,λH' s=>?_,(),()⟩
  rcases hS4 with (h|⟨o,h⟩)|h
  ·exact .inl (.inl (s _ _ (aj h hwk) (ac hwk _ _ _ h)))
  ·exact .inl (.inr ⟨o,s _ _ (aj h hwk) (ac hwk _ _ _ h)⟩)
  ·exact .inr h
 have s45:=ac hwk (.lst [.ref sc,.int 2,.int m])
 have wo5:Wo (upd H4 wk (.lst [.ref sc,.int 2,.int m])) g r1 r2 xs ys:=⟨s45 _ _ wo4.hg,s45 _ _ wo4.h1,s45 _ _ wo4.h2,wo4.l1,wo4.nd,wo4.n1,wo4.l2,wo4.n2⟩
 generalize upd H4 wk (.lst [.ref sc,.int 2,.int m])=H5 at w5 wo5⊢
 refine jz (λk σ H'=>∃(o4 o5 o6 o7:Option V) (i:Int),σ=[some (.ref sc),some (.ref g),some (.int bud),some (.ref wk),o4,o5,o6,o7]/\Wk K H' wk sc ns i m/\Wo H' g r1 r2 xs ys/\i<=103/\k=(104-i).toNat) 102
  ⟨_,_,_,_,2,rfl,w5,wo5,(),rfl⟩ ?_ xf
 intro k σ H6 D gR gD h
 obtain⟨o4,o5,o6,o7,i,rfl,w6,wo6,i3,ek⟩:=h
 have i0:=w6.2.2.1
 refine⟨_,rfl,wk,_,1,.int i,rfl,rfl,SqL.of w6.1,ae (j:=1) rfl,_,rfl,wk,_,2,.int m,rfl,rfl,SqL.of w6.1,ae (j:=2) rfl,_,_,rfl,rfl,_,rfl,ap (λh=>cY λX hX=>?_) (λ_=>hX _ _ (q _))⟩
 have im:i<=m:=Q7 h
 refine⟨_,rfl,_,rfl,_,rfl,wk,g,r1,r2,sc,ns,i,m,xs,ys,8,bud,rfl,w6,(),(),wo6,(),(),(),b1,b2,λH7 v d b c s7 w7 R7 wx ex cl cu=>?_⟩
 obtain⟨t,vt,rfl,ht,Rt⟩:=Rep.tup_inv R7
 simp only[Reps]at Rt
 obtain⟨w1,_,rfl,e1,w2,_,rfl,e2,w3,_,rfl,e3,rfl⟩:=Rt
 simp only[Rep]at e2 e3
 subst e2;subst e3
 have wl:=jx wx
 refine⟨t,_,rfl,SqT.of ht,rfl,_,_,rfl,_,_,rfl,_,_,rfl,rfl,hX _ _ (cY λX hX=>⟨_,rfl,w1,d,b,rfl,e1,wx,(),λH8 s8=>gs hX λX hX=>?_⟩)⟩
 have hw:WE d (brT b):=⟨b,rfl,wx,()⟩
 have ak:=xG wx
 have plx:=nV wx
 obtain⟨ds,rfl⟩:=yy wx
 refine ph λY Z hY hZ=>⟨_,rfl,_,_,_,_,rfl,cU.str (brT b),eM K (.str (brT b)),_,rfl,?_⟩
 rw[yp]
 refine aG ⟨_,rfl,_,rfl,.inl ⟨rfl,_,rfl,?_⟩⟩
 show if (!decide (bv b=V.str (brT b)))=true then _ else _
 rw[show decide (bv b=V.str (brT b))=true from Q9 rfl]
 refine aG ⟨_,rfl,_,_,rfl,hw,λH9 v9 s9 R9=>⟨_,rfl,v9,w1,_,rfl,R9,e1.mono (s8.trans s9),ak,λHA sA=>⟨_,rfl,aG (hZ _ (tnx (hX _ _ ?_)))⟩⟩⟩
 refine ph λY Z hY hZ=>⟨_,rfl,_,_,rfl,hw,λHB vB sB RB=>⟨_,rfl,.inr ⟨25,ds,ds,plx,plx,(),RB,e1.mono (s8.trans (s9.trans (sA.trans sB))),λb' hb'=>?_⟩⟩⟩
 rw[zT hb']
 have s7B:ai H7 HB:=s8.trans (s9.trans (sA.trans sB))
 have wo7:=wo6.b (wo6.nw w6.1) s7
 exact⟨_,rfl,aG (hZ _ (tnx (gD (104-(i+c)).toNat _ _ () ⟨_,_,_,_,i+c,rfl,⟨s7B _ _ w7.1,λ_ s=>w7.2.1 _ ((ai.b wk s7B).trans s),w7.2.2⟩,⟨s7B _ _ wo7.hg,s7B _ _ wo7.h1,s7B _ _ wo7.h2,wo7.l1,wo7.nd,wo7.n1,wo7.l2,wo7.n2⟩,(),rfl⟩)))⟩
open PySem L2 KB XB
theorem us0{p:List δ->Prop}(h:p []):∀us:List δ,us.length=0->p us
 |[],_=>h
theorem us1{p:List δ->Prop}(h:∀x0,p [x0]):∀us:List δ,us.length=1->p us
 |[x0],_=>h x0
theorem us2{p:List δ->Prop}(h:∀x0 x1,p [x0,x1]):∀us:List δ,us.length=2->p us
 |[x0,x1],_=>h x0 x1
theorem us3{p:List δ->Prop}(h:∀x0 x1 x2,p [x0,x1,x2]):∀us:List δ,us.length=3->p us
 |[x0,x1,x2],_=>h x0 x1 x2
theorem us4{p:List δ->Prop}(h:∀x0 x1 x2 x3,p [x0,x1,x2,x3]):∀us:List δ,us.length=4->p us
 |[x0,x1,x2,x3],_=>h x0 x1 x2 x3
theorem us5{p:List δ->Prop}(h:∀x0 x1 x2 x3 x4,p [x0,x1,x2,x3,x4]):∀us:List δ,us.length=5->p us
 |[x0,x1,x2,x3,x4],_=>h x0 x1 x2 x3 x4
structure Df(K:ζ)(x:Str)(st:Stmt)(f:Addr)(fd:Η):Prop where
 a:ϐ K mainGlobals x=some (some (.ref f))
 F:Fun K x x st f fd
theorem df_mk{K:ζ}{x:Str}{st:Stmt}{f:Addr}{oc:δ}{od an:Option Addr}{osl:Array (Option δ)}{kV doc pm cdv ct:δ}(a:ϐ K mainGlobals x=some (some (.ref f)))(l:K.lookup f=some ⟨oc,od,.func (e9 x x (bP st) (bD st) (ah st) .none kV doc pm an cdv ct),osl⟩)
  (c:l_ K cdv x=true) (k:Ϟ K (.ref f)=true):Df K x st f (e9 x x (bP st) (bD st) (ah st) .none kV doc pm an cdv ct):=⟨a,iR l c k⟩
theorem Df.d{P:υ}{w:Μ}{K:ζ}{mg:Str->Option δ}{base h:Heap}{x:Str}{st:Stmt}{f:Addr}{fd:Η}{k:Nat}{ps:List Str}{sp:Sp}(d:Df K x st f fd)(X:K.In h)(G:h.Ns mainGlobals mg)(b:bA K fd ps [])(F:aw P w K mg base CX0 k f fd ps sp):Def P w K mg base k x ps sp:=⟨f,fd,F,b,d.F.kp,ϓ X G d.a⟩
theorem cy{P:υ}{w:Μ}{K:ζ}{mg:Str->Option δ}{base:Heap}{CX:CXT}{k:Nat}{f:Addr}{fd:Η}{ps:List Str}{sp:Sp}(n:∀vs H Q E,¬ sp vs H Q E):aw P w K mg base CX k f fd ps sp:=⟨λvs H Q E h=>absurd h (n _ _ _ _),λ_ _ _ _ _ _ _ _ _ _ _ _ _ h=>absurd h (n _ _ _ _)⟩
theorem all_mk{l:CN}{w:Μ}{K:ζ}{h:Heap}{mg:Str->Option δ}{fa f1 f2 f3 f4 f5 f6 f7 f8 f9 f10 f11 f12 f13 f14 f15 f16 f17 f18 f19 f20 f21 f22 f23 f24 f25 f26 f27 f28 f29 f30 f31 f32 f33 f34 f35 f36 f37 f38 f39 f40 f41 f42 f43 f44 f45 f46 f47 f48 f49 f50 f51 f52:Addr}{g1 g2 g3 g4 g5 g6 g7 g8 g9 g10 g11 g12 g13 g14 g15 g16 g17 g18 g19 g20 g21 g22 g23 g24 g25 g26 g27 g28 g29 g30 g31 g32 g33 g34 g35 g36 g37 g38 g39 g40 g41 g42 g43 g44 g45 g46 g47 g48 g49 g50 g51 g52:Η}(X:K.In h)(G:h.Ns mainGlobals mg)(hfa:mg "law"=some (.ref fa))
  (d1:Df K "is_whole" fj f1 g1)
  (d2:Df K "is_name" gf f2 g2)
  (d3:Df K "is_part" gn f3 g3)
  (d4:Df K "are_parts" eF f4 g4)
  (d5:Df K "is_length" eG f5 g5)
  (d6:Df K "is_small_length" fk f6 g6)
  (d7:Df K "has_word" fu f7 g7)
  (d8:Df K "is_point" fc f8 g8)
  (d9:Df K "things_of" eo f9 g9)
  (d10:Df K "is_kind" gB f10 g10)
  (d11:Df K "is_below" eW f11 g11)
  (d12:Df K "is_def_name" df f12 g12)
  (d13:Df K "is_few" iL f13 g13)
  (d14:Df K "fits" qI f14 g14)
  (d15:Df K "is_node" gv f15 g15)
  (d16:Df K "parts_of" fe f16 g16)
  (d17:Df K "is_expression" gp f17 g17)
  (d18:Df K "show_part" en f18 g18)
  (d19:Df K "show_length" ci f19 g19)
  (d20:Df K "in_brackets" ql f20 g20)
  (d21:Df K "show_kind" dS f21 g21)
  (d22:Df K "show_behind" dc f22 g22)
  (d23:Df K "show_all" eV f23 g23)
  (d24:Df K "show_expression" bW f24 g24)
  (d25:Df K "branch_of" ee f25 g25)
  (d26:Df K "number_of" dY f26 g26)
  (d27:Df K "part_of" gm f27 g27)
  (d28:Df K "length_of" dN f28 g28)
  (d29:Df K "word_alone" dB f29 g29)
  (d30:Df K "length_in" dZ f30 g30)
  (d31:Df K "kind_in" gd f31 g31)
  (d32:Df K "thing_in" eX f32 g32)
  (d33:Df K "atom_of" gk f33 g33)
  (d34:Df K "expression_in" cq f34 g34)
  (d35:Df K "expression_of" cp f35 g35)
  (d36:Df K "just_so" gz f36 g36)
  (d37:Df K "read_expression" bU f37 g37)
  (d38:Df K "_law_draw" pp f38 g38)
  (d39:Df K "_law_state" ma f39 g39)
  (d40:Df K "_law_names" mD f40 g40)
  (d41:Df K "_law_length" je f41 g41)
  (d42:Df K "_law_length_text" ig f42 g42)
  (d43:Df K "_law_kind_text" lQ f43 g43)
  (d44:Df K "_law_next" qo f44 g44)
  (d45:Df K "_law_kind" pA f45 g45)
  (d46:Df K "_law_forms" mI f46 g46)
  (d47:Df K "_law_inner" lF f47 g47)
  (d48:Df K "_law_whole" kU f48 g48)
  (d49:Df K "_law_expression" dy f49 g49)
  (d50:Df K "_law_world" mh f50 g50)
  (d51:Df K "_law_alike" kY f51 g51)
  (d52:Df K "law" kt f52 g52)
  (z1:ϐ K mainGlobals "len"=some none)
  (z2:ϐ K mainGlobals "isinstance"=some none)
  (z3:ϐ K mainGlobals "int"=some none)
  (z4:ϐ K mainGlobals "bool"=some none)
  (z5:ϐ K mainGlobals "str"=some none)
  (z6:ϐ K mainGlobals "tuple"=some none)
  (z7:ϐ K mainGlobals "all"=some none)
  (z8:ϐ K mainGlobals "zip"=some none)
  (z9:ϐ K mainGlobals "range"=some none)
  (z10:ϐ K mainGlobals "sorted"=some none)
  (z11:ϐ K mainGlobals "max"=some none)
  (z12:ϐ K mainGlobals "min"=some none)
  {tg0 tg1 tg2 tg3 tg4 tg5 tg6 tg7 tg8:Tok}
  (zg0:ϐ K mainGlobals "LONGEST_NAME"=some (some (.int 8 tg0)))
  (zg1:ϐ K mainGlobals "GREATEST_SIZE"=some (some (.int 12 tg1)))
  (zg2:ϐ K mainGlobals "GREATEST_NUMBER"=some (some (.int 99 tg2)))
  (zg3:ϐ K mainGlobals "WHOLE_BOUND"=some (some (.int 1000000000000 tg3)))
  (zg4:ϐ K mainGlobals "MOST_NODES"=some (some (.int 40 tg4)))
  (zg5:ϐ K mainGlobals "MOST_ABOVE"=some (some (.int 7 tg5)))
  (zg6:ϐ K mainGlobals "MOST_THINGS"=some (some (.int 4 tg6)))
  (zg7:ϐ K mainGlobals "MOST_FIGURES"=some (some (.int 60 tg7)))
  (zg8:ϐ K mainGlobals "MOST_BRACKETS"=some (some (.int 20 tg8)))
  {gR:Addr} {odR:Option Addr} {nR:Nat} {slR:Array (Option δ)} {tr0 tr1 tr2 tr3 tr4:Tok}
  (zR:ϐ K mainGlobals "RECKONS"=some (some (.ref gR)))
  (lR:K.lookup gR=some ⟨.type "tuple",odR,.seq #[.str "plus" tr0,.str "minus" tr1,.str "times" tr2,.str "less" tr3,.str "same" tr4] nR,slR⟩)
  {gS:Addr}
  (zS:ϐ K mainGlobals "SHAPES"=some (some (.ref gS)))
  {C fI fM fN fB:Addr} {odI anI odM anM odN anN odB anB:Option Addr} {slI slM slN slB:Array (Option δ)} {ocI kVI dcI pmI cdI ctI ocM kVM dcM pmM cdM ctM ocN kVN dcN pmN cdN ctN ocB kVB dcB pmB cdB ctB:δ}
  (aC:ϐ K mainGlobals "Signs"=some (some (.ref C)))
  (aI:ϝ K (.ref C) "__init__"=some (some (.ref fI))) (iI:A0 K (.ref fI)=true)
  (lI:K.lookup fI=some ⟨ocI,odI,.func (e9 "__init__" "Signs.__init__" (bP eL) (bD eL) (ah eL) .none kVI dcI pmI anI cdI ctI),slI⟩)
  (cI:l_ K cdI "Signs.__init__"=true) (kI:Ϟ K (.ref fI)=true)
  (aM:ϝ K (.ref C) "met"=some (some (.ref fM))) (iM:A0 K (.ref fM)=true)
  (lM:K.lookup fM=some ⟨ocM,odM,.func (e9 "met" "Signs.met" (bP kF) (bD kF) (ah kF) .none kVM dcM pmM anM cdM ctM),slM⟩)
  (cM:l_ K cdM "Signs.met"=true) (kM:Ϟ K (.ref fM)=true)
  (aN:ϝ K (.ref C) "next_word"=some (some (.ref fN))) (iN:A0 K (.ref fN)=true)
  (lN:K.lookup fN=some ⟨ocN,odN,.func (e9 "next_word" "Signs.next_word" (bP bH) (bD bH) (ah bH) .none kVN dcN pmN anN cdN ctN),slN⟩)
  (cN:l_ K cdN "Signs.next_word"=true) (kN:Ϟ K (.ref fN)=true)
  (aB:ϝ K (.ref C) "branch"=some (some (.ref fB))) (iB:A0 K (.ref fB)=true)
  (lB:K.lookup fB=some ⟨ocB,odB,.func (e9 "branch" "Signs.branch" (bP dj) (bD dj) (ah dj) .none kVB dcB pmB anB cdB ctB),slB⟩)
  (cB:l_ K cdB "Signs.branch"=true) (kB:Ϟ K (.ref fB)=true)
  (pg:z_ K C Cz=true) (hd:BA K C=true) (po:Cs K C=true) (sa:ϝ K (.ref C) "__setattr__"=some (some (.builtin "object.__setattr__"))) (mk:CK K C=true) (kc:Ϟ K (.ref C)=true)
  (nT:ϝ K (.ref C) "text"=some none) (nA:ϝ K (.ref C) "at"=some none)
  (sS:XB.Shp l.prog w K gS)
  :
  ∃fd:Η,(∀(s:θ)(v:δ),C3 s fd ⟨[v],[]⟩ [("_law_script",v)])/\∀base:Heap,K.In base->base.Ns mainGlobals mg->aw l.prog w K mg base CX0 36 fa fd ["_law_script"] (rT K):=by
 have e:=hfa.symm.trans (ϓ X G d52.a)
 cases e
 have T:Txt K mg:=⟨Ϥ X G z1,Ϥ X G z2,Ϥ X G z3,Ϥ X G z4,Ϥ X G z5,Ϥ X G z6,Ϥ X G z7,Ϥ X G z8,Ϥ X G z9,Ϥ X G z10,Ϥ X G z11,Ϥ X G z12,⟨tg0,ϓ X G zg0⟩,⟨tg1,ϓ X G zg1⟩,⟨tg2,ϓ X G zg2⟩,⟨tg3,ϓ X G zg3⟩,⟨tg4,ϓ X G zg4⟩,⟨tg5,ϓ X G zg5⟩,⟨tg6,ϓ X G zg6⟩,⟨tg7,ϓ X G zg7⟩,⟨tg8,ϓ X G zg8⟩⟩
 have b1:=d1.F.binds (ps:=["thing"]) λ_ _ _ _ _ _=>us1 λ_=>rfl
 have b2:=d2.F.binds (ps:=["thing"]) λ_ _ _ _ _ _=>us1 λ_=>rfl
 have b3:=d3.F.binds (ps:=["thing"]) λ_ _ _ _ _ _=>us1 λ_=>rfl
 have b4:=d4.F.binds (ps:=["thing"]) λ_ _ _ _ _ _=>us1 λ_=>rfl
 have b5:=d5.F.binds (ps:=["thing"]) λ_ _ _ _ _ _=>us1 λ_=>rfl
 have b6:=d6.F.binds (ps:=["thing"]) λ_ _ _ _ _ _=>us1 λ_=>rfl
 have b7:=d7.F.binds (ps:=["thing"]) λ_ _ _ _ _ _=>us1 λ_=>rfl
 have b8:=d8.F.binds (ps:=["thing"]) λ_ _ _ _ _ _=>us1 λ_=>rfl
 have b9:=d9.F.binds (ps:=["point"]) λ_ _ _ _ _ _=>us1 λ_=>rfl
 have b10:=d10.F.binds (ps:=["thing"]) λ_ _ _ _ _ _=>us1 λ_=>rfl
 have b11:=d11.F.binds (ps:=["thing","bound"]) λ_ _ _ _ _ _=>us2 λ_ _=>rfl
 have b12:=d12.F.binds (ps:=["thing"]) λ_ _ _ _ _ _=>us1 λ_=>rfl
 have b13:=d13.F.binds (ps:=["thing","least"]) λ_ _ _ _ _ _=>us2 λ_ _=>rfl
 have b14:=d14.F.binds (ps:=["sort","thing"]) λ_ _ _ _ _ _=>us2 λ_ _=>rfl
 have b15:=d15.F.binds (ps:=["thing"]) λ_ _ _ _ _ _=>us1 λ_=>rfl
 have b16:=d16.F.binds (ps:=["node"]) λ_ _ _ _ _ _=>us1 λ_=>rfl
 have b17:=d17.F.binds (ps:=["thing"]) λ_ _ _ _ _ _=>us1 λ_=>rfl
 have b18:=d18.F.binds (ps:=["name","times"]) λ_ _ _ _ _ _=>us2 λ_ _=>rfl
 have b19:=d19.F.binds (ps:=["a"]) λ_ _ _ _ _ _=>us1 λ_=>rfl
 have b20:=d20.F.binds (ps:=["word","texts"]) λ_ _ _ _ _ _=>us2 λ_ _=>rfl
 have b21:=d21.F.binds (ps:=["kind"]) λ_ _ _ _ _ _=>us1 λ_=>rfl
 have b22:=d22.F.binds (ps:=["sort","given"]) λ_ _ _ _ _ _=>us2 λ_ _=>rfl
 have b23:=d23.F.binds (ps:=["expressions"]) λ_ _ _ _ _ _=>us1 λ_=>rfl
 have b24:=d24.F.binds (ps:=["expression"]) λ_ _ _ _ _ _=>us1 λ_=>rfl
 have b25:=d25.F.binds (ps:=["text"]) λ_ _ _ _ _ _=>us1 λ_=>rfl
 have b26:=d26.F.binds (ps:=["word"]) λ_ _ _ _ _ _=>us1 λ_=>rfl
 have b27:=d27.F.binds (ps:=["text"]) λ_ _ _ _ _ _=>us1 λ_=>rfl
 have b28:=d28.F.binds (ps:=["text"]) λ_ _ _ _ _ _=>us1 λ_=>rfl
 have b29:=d29.F.binds (ps:=["branch"]) λ_ _ _ _ _ _=>us1 λ_=>rfl
 have b30:=d30.F.binds (ps:=["branch"]) λ_ _ _ _ _ _=>us1 λ_=>rfl
 have b31:=d31.F.binds (ps:=["branch"]) λ_ _ _ _ _ _=>us1 λ_=>rfl
 have b32:=d32.F.binds (ps:=["sort","branch"]) λ_ _ _ _ _ _=>us2 λ_ _=>rfl
 have b33:=d33.F.binds (ps:=["word"]) λ_ _ _ _ _ _=>us1 λ_=>rfl
 have b34:=d34.F.binds (ps:=["branch"]) λ_ _ _ _ _ _=>us1 λ_=>rfl
 have b35:=d35.F.binds (ps:=["text"]) λ_ _ _ _ _ _=>us1 λ_=>rfl
 have b36:=d36.F.binds (ps:=["text","reader","is_one","shower","place"]) λ_ _ _ _ _ _=>us5 λ_ _ _ _ _=>rfl
 have b37:=d37.F.binds (ps:=["text"]) λ_ _ _ _ _ _=>us1 λ_=>rfl
 have b38:=d38.F.binds (ps:=["_law_state_here","_law_many"]) λ_ _ _ _ _ _=>us2 λ_ _=>rfl
 have b39:=d39.F.binds (ps:=["_law_script","_law_k"]) λ_ _ _ _ _ _=>us2 λ_ _=>rfl
 have b40:=d40.F.binds (ps:=["_law_state_here","_law_many"]) λ_ _ _ _ _ _=>us2 λ_ _=>rfl
 have b41:=d41.F.binds (ps:=["_law_state_here","_law_names_here","_law_most"]) λ_ _ _ _ _ _=>us3 λ_ _ _=>rfl
 have b42:=d42.F.binds (ps:=["_law_length_here"]) λ_ _ _ _ _ _=>us1 λ_=>rfl
 have b43:=d43.F.binds (ps:=["_law_kind_here"]) λ_ _ _ _ _ _=>us1 λ_=>rfl
 have b44:=d44.F.binds (ps:=["_law_walk"]) λ_ _ _ _ _ _=>us1 λ_=>rfl
 have b45:=d45.F.binds (ps:=["_law_state_here","_law_names_here","_law_room"]) λ_ _ _ _ _ _=>us3 λ_ _ _=>rfl
 have b46:=d46.F.binds (ps:=[]) λ_ _ _ _ _ _=>us0 rfl
 have b47:=d47.F.binds (ps:=["_law_letter","_law_node","_law_world_here"]) λ_ _ _ _ _ _=>us3 λ_ _ _=>rfl
 have b48:=d48.F.binds (ps:=["_law_word","_law_parts","_law_texts","_law_node","_law_world_here"]) λ_ _ _ _ _ _=>us5 λ_ _ _ _ _=>rfl
 have b49:=d49.F.binds (ps:=["_law_walk","_law_world_here","_law_room","_law_budget"]) λ_ _ _ _ _ _=>us4 λ_ _ _ _=>rfl
 have b50:=d50.F.binds (ps:=["_law_state_here"]) λ_ _ _ _ _ _=>us1 λ_=>rfl
 have b51:=d51.F.binds (ps:=["_law_found","_law_due"]) λ_ _ _ _ _ _=>us2 λ_ _=>rfl
 obtain⟨_,_,kV,doc,pm,an,cdv,ct,_,rfl,_⟩:=id d52.F.ex
 refine⟨e9 "law" "law" (bP kt) (bD kt) (ah kt) .none kV doc pm an cdv ct,λs v=>.of_eq rfl,λbase _ _=>?_⟩
 have hRK:∀H,SqT K H gR (mO.map V.str):=λH=>.inr ⟨_,_,_,lR,rfl,rfl,(by show 5<=sizeLine;rw[ι];decide),.cons ⟨_,rfl⟩ (.cons ⟨_,rfl⟩ (.cons ⟨_,rfl⟩ (.cons ⟨_,rfl⟩ (.cons ⟨_,rfl⟩ .nil))))⟩
 have D1:=d1.d X G b1 (nG d1.F T (P:=l.prog) (w:=w) (base:=base))
 have D2:=d2.d X G b2 (pS d2.F T (P:=l.prog) (w:=w) (base:=base))
 have D3:=d3.d X G b3 (pf (k:=1) d3.F T (D1.up ()) (D2.up ()))
 have D4:=d4.d X G b4 (ms (k:=2) d4.F T (D3.up ()))
 have D5:=d5.d X G b5 (lJ (k:=3) d5.F T (D1.up ()) (D4.up ()))
 have D6:=d6.d X G b6 (nZ (k:=4) d6.F T (D5.up ()))
 have D7:=d7.d X G b7 (nW d7.F T (P:=l.prog) (w:=w) (base:=base))
 have D8:=d8.d X G b8 (nu (k:=5) d8.F T (D7.up ()) (D6.up ()))
 have D9:=d9.d X G b9 (qu (P:=l.prog) (w:=w) (base:=base) d9.F T)
 have D10:=d10.d X G b10 (qA (k:=6) d10.F T (D8.up ()) (D9.up ()))
 have D11:=d11.d X G b11 (oQ (k:=1) d11.F T (D1.up ()))
 have D13:=d13.d X G b13 (tG d13.F T (P:=l.prog) (w:=w) (base:=base))
 have D12:=d12.d X G b12 (iY (k:=1) d12.F T sS (ϓ X G zS) (ϓ X G zR) hRK (D2.up ()))
 have D14:=d14.d X G b14 (xm (k:=7) d14.F T (ϓ X G zR) hRK (D11.up ()) (D2.up ()) (D6.up ()) (D10.up ()) (D12.up ()) (D13.up ()))
 have D15:=d15.d X G b15 (px (k:=8) d15.F T sS (ϓ X G zS) (D7.up ()) (D14.up ()))
 have D16:=d16.d X G b16 (mJ d16.F T sS (ϓ X G zS) (P:=l.prog) (w:=w) (base:=base))
 have D17:=d17.d X G b17 (iO (k:=9) d17.F T (D15.up ()) (D16.up ()))
 have cl:Cls K C:=⟨pg,hd,po,sa⟩
 have FI:=iR (st:=eL) lI cI kI
 have bI:=FI.binds (ps:=["self","text"]) λ_ _ _ _ _ _=>us2 λ_ _=>rfl
 have FM:=iR (st:=kF) lM cM kM
 have bM:=FM.binds (ps:=["self","signs"]) λ_ _ _ _ _ _=>us2 λ_ _=>rfl
 have FN:=iR (st:=bH) lN cN kN
 have bN:=FN.binds (ps:=["self"]) λ_ _ _ _ _ _=>us1 λ_=>rfl
 have FB:=iR (st:=dj) lB cB kB
 have bB:=FB.binds (ps:=["self","most"]) λ_ _ _ _ _ _=>us2 λ_ _=>rfl
 have OI:aw l.prog w K mg base CX0 1 fI _ _ _:=uz FI T cl nT nA
 have OM:aw l.prog w K mg base CX0 1 fM _ _ _:=zm FM T cl nT nA
 have ON:aw l.prog w K mg base CX0 1 fN _ _ _:=lY FN T cl nT nA
 have chB:∀n,aw l.prog w K mg base CX0 (1+n) fB _ ["self","most"] (eA C n):=λn=>by
  induction n with
  |zero=>exact cy λvs H Q E h=>by obtain⟨a,x,i,most,t,post,_,_,_,_,_,_,_,h1,h2,_⟩:=h;omega
  |succ n ih=>exact ud (k0:=1+n) FB T cl ⟨aN,iN,kN⟩ (ON.mono ()) bN ⟨aM,iM,kM⟩ (OM.mono ()) bM ⟨aB,iB,kB⟩ ih bB
 have D18:=d18.d X G b18 (my d18.F T (P:=l.prog) (w:=w) (base:=base))
 have D19:=d19.d X G b19 (jL (k:=1) d19.F T (D18.up ()))
 have D20:=d20.d X G b20 (wy d20.F T (P:=l.prog) (w:=w) (base:=base))
 have ch21:∀n,aw l.prog w K mg base CX0 (2+n) f21 _ ["kind"] (gJ n):=λn=>by
  induction n with
  |zero=>exact cy λvs H Q E h=>by obtain⟨v,k,_,_,z,_⟩:=h;have:=k.size_pos;omega
  |succ n ih=>exact lS (k0:=2+n) d21.F T (D20.up ()) (D19.up ()) (d21.d X G b21 ih)
 have D21:=d21.d X G b21 (ch21 12)
 have ch24:∀n,aw l.prog w K mg base CX0 (14+2*n) f24 _ ["expression"] (ky n):=λn=>by
  induction n with
  |zero=>exact cy λvs H Q E h=>by obtain⟨v,d,b,_,_,z,_⟩:=h;exact z
  |succ n ih=>exact fb (k:=14+2*n+1) d24.F T sS (ϓ X G zS) (D20.up ()) (d23.d X G b23 (oB (k:=14+2*n) d23.F T (d24.d X G b24 ih))) (d22.d X G b22 (jy (k:=14+2*n) d22.F T (D19.up ()) (D21.up ()) (d24.d X G b24 ih)))
 have D24:=d24.d X G b24 (ch24 8)
 have D25:=d25.d X G b25 (lC (k0:=21) d25.F T cl ⟨mk,aI,iI,kc⟩ (OI.mono ()) bI (ϓ X G aC) ⟨aB,iB,kB⟩ (chB 21) bB)
 have D26:=d26.d X G b26 (lT d26.F T (P:=l.prog) (w:=w) (base:=base))
 have D27:=d27.d X G b27 (pY (k:=1) d27.F T (D26.up ()))
 have D28:=d28.d X G b28 (kX (k:=2) d28.F T (D26.up ()) (D27.up ()))
 have D30:=d30.d X G b30 (lr (k:=3) d30.F T (D28.up ()))
 have D29:=d29.d X G b29 (jQ d29.F T (P:=l.prog) (w:=w) (base:=base))
 have D33:=d33.d X G b33 (pO (k:=1) d33.F T (D26.up ()))
 have ch31:∀n,aw l.prog w K mg base CX0 (4+n) f31 _ ["branch"] (fQ n):=λn=>by
  induction n with
  |zero=>exact cy λvs H Q E h=>by obtain⟨v,k,_,_,z,_⟩:=h;have:=k.size_pos;omega
  |succ n ih=>exact pT (k0:=4+n) d31.F T (D30.up ()) (d31.d X G b31 ih)
 have D31:=d31.d X G b31 (ch31 12)
 have ch34:∀n,aw l.prog w K mg base CX0 (16+2*n) f34 _ ["branch"] (jY n):=λn=>by
  induction n with
  |zero=>exact cy λvs H Q E h=>by obtain⟨v,d,b,_,_,z,_⟩:=h;exact z
  |succ n ih=>exact gh (k:=16+2*n+1) d34.F T sS (ϓ X G zS) (ϓ X G zR) hRK (D33.up ()) (d32.d X G b32 (oT (k:=16+2*n) d32.F T (D30.up ()) (D31.up ()) (D29.up ()) (d34.d X G b34 ih))) ((d34.d X G b34 ih).up ())
 have D34:=d34.d X G b34 (ch34 8)
 have Fx:=gC (k0:=32) d35.F T (D25.up ()) (D34.up ())
 have Fe:=iO (k:=9) d17.F T (D15.up ()) (D16.up ())
 have DJ:=d36.d X G b36 (pG (k0:=33) (W:=WE) d36.F T (Fx.mono ()) d35.F.kp b35 ((Fe.mono ()).imp An) d17.F.kp b17 (((ch24 8).mono ()).imp zZ) d24.F.kp b24)
 have D37:=d37.d X G b37 (fv (k0:=34) d37.F T DJ (ϓ X G d35.a) (ϓ X G d17.a) (ϓ X G d24.a))
 have D38:=d38.d X G b38 (xz d38.F T (P:=l.prog) (w:=w) (base:=base))
 have D39:=d39.d X G b39 (vI d39.F T (P:=l.prog) (w:=w) (base:=base))
 have D40:=d40.d X G b40 (vf (k:=1) d40.F T (D38.up ()))
 have D41:=d41.d X G b41 (tE (k:=1) d41.F T (D38.up ()))
 have D42:=d42.d X G b42 (vD d42.F T (P:=l.prog) (w:=w) (base:=base))
 have ch43:∀n,aw l.prog w K mg base CX0 (1+n) f43 _ ["_law_kind_here"] (gJ n):=λn=>by
  induction n with
  |zero=>exact cy λvs H Q E h=>by obtain⟨v,k,_,_,z,_⟩:=h;have:=k.size_pos;omega
  |succ n ih=>exact vP (k0:=1+n) d43.F T (D42.up ()) (d43.d X G b43 ih)
 have D43:=d43.d X G b43 (ch43 12)
 have ch45:∀n,aw l.prog w K mg base CX0 (2+n) f45 _ ["_law_state_here","_law_names_here","_law_room"] (ml n):=λn=>by
  induction n with
  |zero=>exact cy λvs H Q E h=>by obtain⟨a,b,rm,xs,_,h1,h2,_⟩:=h;omega
  |succ n ih=>exact xl (k0:=2+n) d45.F T (D38.up ()) (D41.up ()) (d45.d X G b45 ih)
 have D45:=d45.d X G b45 (ch45 12)
 have ch51:∀n,aw l.prog w K mg base CX0 (0+n) f51 _ ["_law_found","_law_due"] (ia n):=λn=>by
  induction n with
  |zero=>exact cy λvs H Q E h=>by obtain⟨u,v,d,_,_,_,h1,_⟩:=h;cases h1
  |succ n ih=>exact vO (k0:=0+n) d51.F T (d51.d X G b51 ih)
 have D51:=d51.d X G b51 (ch51 26)
 have D44:=d44.d X G b44 (xh (k:=1) d44.F T (D39.up ()))
 have D46:=d46.d X G b46 (vE d46.F T (P:=l.prog) (w:=w) (base:=base))
 have D47:=d47.d X G b47 (uB (k:=14) d47.F T (D38.up ()) (D41.up ()) (D42.up ()) (D45.up ()) (D43.up ()))
 have D48:=d48.d X G b48 (vo (k:=1) d48.F T (D38.up ()))
 have D50:=d50.d X G b50 (uW (k:=2) d50.F T (D40.up ()) (D38.up ()))
 have ch49:∀n,aw l.prog w K mg base CX0 (15+n) f49 _ ["_law_walk","_law_world_here","_law_room","_law_budget"] (xq K n):=λn=>by
  induction n with
  |zero=>exact cy λvs H Q E h=>by obtain⟨_,_,_,_,_,_,_,_,_,_,room,bud,_,_,_,_,_,h1,h2,_⟩:=h;omega
  |succ n ih=>exact jS (k:=15+n) d49.F T (D44.up ()) (D46.up ()) (D38.up ()) (D47.up ()) (D48.up ()) (d49.d X G b49 ih)
 have D49:=d49.d X G b49 (ch49 8)
 exact ze (k0:=35) d52.F T (D39.up ()) (D38.up ()) (D50.up ()) (D49.up ()) (D24.up ()) (D51.up ()) (D37.up ())
theorem walk{l:CN}{q:υ}{loose:List Str}{XP:(Str->Option δ)->Heap->Prop}{YP:Μ->Heap->Prop}{d:DefRec}{K:Params->ζ}(hn:l.most=some 63)(hdf:d.params.defaults=[])
  (hY:∀(w:Μ)(h:Heap),YP w h->(K w.params).In h)
  (F:∀(w:Μ)(mg:Str->Option δ)(fa:Addr)(h:Heap),(K w.params).In h->h.Ns mainGlobals mg->mg d.name=some (.ref fa) ->
   ∃fd:Η,(∀(s:θ)(u:δ),C3 s fd ⟨[u],[]⟩ [("_law_script",u)])/\∀base:Heap,(K w.params).In base->base.Ns mainGlobals mg->aw l.prog w (K w.params) mg base CX0 36 fa fd ["_law_script"] (rT (K w.params))):
  PySem.W.WalkO q loose XP YP l.row.toRowW d [] (λf vs=>PySem.call f vs):=
 L2.walk_of (n:=63) (k:=36) (x:="_law_script") (CX:=λ_=>CX0) (sp:=λw=>rT (K w.params)) hn () hdf ⟨rfl,(),()⟩ hY F (λ_ _ a ns hl _ hS=>⟨a,ns,rfl,hS,hl,λ_=>rfl⟩) λ_ _ _ _ _ z=>z
end K62
namespace PySem.W.Fast
def tw69857409057624979:=0
def tw13273367492110768856:=0
def tw4320689552911860852:=0
def tw2980478193975858882:=0
def tw3992455195889640966:=0
def tw14431844712885206650:=0
def tw669040548845471744:=0
def tw1009520217554882792:=0
def tw14835251601560685540:=0
def tw14763979080074987394:=0
def tw2571523694228139674:=0
def tw230103535269450065:=0
def tw5109460028128037365:=0
def tw5752082283767603950:=0
def tw4645618267571193741:=0
def tw18256703758313742928:=0
def tw6163497454672656442:=0
def tw17938088984058885623:=0
def tw15389095368048083458:=0
def tw4186507974936539121:=0
def tw9300130850697721678:=0
def tw3841795489078943647:=0
def tw6840197475122450423:=0
def tw2307762022483791037:=0
def tw578828505590487496:=0
def tw10306235717691971671:=0
def tw4336640635029911684:=0
def tw4125893904933092736:=0
def tw12926087026158920231:=0
def tw9067666949335197369:=0
def tw953013253626721630:=0
def tw8751764563699765660:=0
def tw7711330564830765386:=0
def tw7948391997036764021:=0
def tw17504904001495551095:=0
def tw10401187043844149352:=0
def tw4555970021049325154:=0
def tw8266210705450195071:=0
def tw6099106045017081160:=0
def tw7432802827203625241:=0
def tw4317638825207489178:=0
def tw12116189931647971065:=0
def tw17988685325873080794:=0
def tw11819853028396789518:=0
def tw4786406124863279987:=0
def tw4636264873953015332:=0
def tw1968129459969612109:=0
def tw9825241237312561490:=0
def tw7864620436487028105:=0
def tw2466397702688957325:=0
def tw12026738126787145026:=0
def tw5281233392175080479:=0
def tw3892243858866010991:=0
def tw11918620154216845173:=0
def tw10032618220852729047:=0
def tw8205395275581577853:=0
def tw17665781135344338591:=0
def tw12934118208152012683:=0
def tw4394507824918291807:=0
def tw12160337432279302258:=0
def tw3215101795982922245:=0
def tw10836879750600888083:=0
def tw11330210067123393608:=0
def tw8628019839910422560:=0
def tw650028900345366138:=0
def tw9668067313224112427:=0
def tw9827701518387688348:=0
def tw9047882194655945832:=0
def tw6189627352923299758:=0
def tw4091838338117134733:=0
def tw3927471968412180987:=0
def tw5099915573994307031:=0
def tw2287507781076507952:=0
def tw11124398109426878308:=0
def tw1928483723504240729:=0
def tw4309575266351409028:=0
def tw84261223202228441:=0
def tw14789316879617267579:=0
def tw1174246489436786183:=0
def tw11430063432495807034:=0
def tw16340401614937803555:=0
def tw806153724341679622:=0
def tw11936950643013837891:=0
def tw4086612263794977475:=0
def tw9236686231910667313:=0
def tw13525480868179626245:=0
def tw11846784810893944078:=0
def tw14271919706096031830:=0
def tw2510581104580498620:=0
def tw4814926827864621166:=0
def tw12079957457645670913:=0
def tw15892691554244222694:=0
def tw1949737222064649762:=0
def tw17910167384431984238:=0
def tw4832017445099453146:=0
def tw17204896107527113670:=0
def tw15095402307748096242:=0
def tw1143601798754531850:=0
def tw18282706633559756157:=0
def tw13576349130385474104:=0
def tw10981211228600424570:=0
def tw10831758699931498373:=0
def tw14949311622653392943:=0
def tw15324946501352201737:=0
def tw3331333052205844996:=0
def tw12794032131533460294:=0
def tw17855597248009028248:=0
def tw12890494397217531695:=0
def tw8880598395743840397:=0
def tw12932861409330405359:=0
def tw6527359688760311141:=0
def tw9936895096657701678:=0
def tw2717806058615011592:=0
def tw13186571708510302769:=0
def tw8585927922034706849:=0
def tw11293139002839845844:=0
def tw784122022492664021:=0
def tw5200512227549073900:=0
def tw17837075845226320062:=0
def tw12590250956836072129:=0
def tw16015564884224778941:=0
def tw4172383079080317567:=0
def tw484393651183794042:=0
def tw15958369192650348724:=0
def tw8353966206259760255:=0
def tw3089906433550592439:=0
def tw10235411047306753665:=0
def tw9957693375163649802:=0
def tw15312055925014164057:=0
def tw3720296186548135552:=0
def tw449604188413403211:=0
def tw3575349859179612586:=0
def tw7926351177059234524:=0
def tw15254742767097412128:=0
def tw9828731284042254110:=0
def tw10713880998384740954:=0
def tw12783687561382283649:=0
def tw10582326559791405819:=0
def tw11698347035201028406:=0
def tw785728871414405651:=0
def tw12144336138403824334:=0
def tw769426497069878817:=0
def tw10887915082734158132:=0
def tw5077510136687241610:=0
def tw18104261559564927070:=0
def tw3808934952329825155:=0
def tw9409063342363285850:=0
def tw17355411252328912595:=0
def tw8809034782673212919:=0
def tw17027882895081537012:=0
def tw18430273258221116187:=0
def tw2118436429669969652:=0
def tw5847654386687222622:=0
def tw3619693898368400751:=0
def tw7271313578224703682:=0
def tw12023955555282460531:=0
def tw12856836478504583673:=0
def tw18197333551985033103:=0
def tw12852143925956777647:=0
def tw7530813031706396707:=0
def tw2280022364477142100:=0
def tw15834939461173259723:=0
def tw11464831401261315674:=0
def tw8119740396079054532:=0
def tw343295897713376578:=0
def tw18221013710377526409:=0
def tw10517830977683037020:=0
def tw9258973656155810748:=0
def tw17249549731196208037:=0
def tw606036400901243764:=0
def tw12432979700403568956:=0
def tw7261035690274531040:=0
def tw1519207301652593:=0
def tw7927537644719143278:=0
def tw14853481908468966811:=0
def tw1153423836047674191:=0
def tw4646443053031670664:=0
def tw8456746107708516020:=0
def tw13123725679491932275:=0
def tw9815447458740404948:=0
def tw5104926410139041813:=0
def tw17846017356129637355:=0
def tw16915898329924142279:=0
def tw9665124021119467855:=0
def tw1244076196132199988:=0
def tw7439941984891217423:=0
def tw13654974414873075278:=0
def tw6356169924912915341:=0
def tw13774506234602787950:=0
def tw18045712330908029709:=0
def tw8647764391030528130:=0
def tw13963197337748354197:=0
def tw595899146543641123:=0
def tw6652919944276954265:=0
def tw9731495896855036847:=0
def tw10830637822142234577:=0
def tw5811296557291479668:=0
def tw18156633513196286960:=0
def tw2207917166007880595:=0
def tw17136000441461235240:=0
def tw4989817043349407282:=0
def tw2277157050010161124:=0
def tw7935088956928665155:=0
def tw16208094958771049503:=0
def tw13817163399542875826:=0
def tw10433798937322190574:=0
def tw16219601250184415317:=0
def tw709174305196753992:=0
def tw14654082898505948496:=0
def tw6978111128119607820:=0
def tw5681058628048745433:=0
def tw1327807449414882434:=0
def tw14118244387594146713:=0
def tw3940738761523983158:=0
def tw7817582045711226255:=0
def tw13558328379296868824:=0
def tw6933214514957637458:=0
def tw13600616866705964794:=0
def tw1658452592525987523:=0
def tw15884550214561536677:=0
def tw9225035291202697946:=0
def tw12600336129931394173:=0
def tw17532293620029379579:=0
def tw8122623189097700148:=0
def tw12904652174295344765:=0
def tw5051176438085680695:=0
def tw6112055504099863390:=0
def tw9730856268078809754:=0
def tw7708088775127347143:=0
def tw8466037138708429674:=0
def tw9618556786626269711:=0
def tw7233789446651612550:=0
def tw3305912131305046511:=0
def tw928939047545485049:=0
def tw14650917514603722263:=0
def tw12932680685054023530:=0
def tw13446866693461774879:=0
def tw5583526523602404446:=0
def tw3102710940413730577:=0
def tw3864143893301034396:=0
def tw10798074704730680395:=0
def tw13371676370533078689:=0
def tw17532290420697455271:=0
def tw1147310995264299364:=0
def tw8685713561518346255:=0
def tw3428260365146694397:=0
def tw8921999770294281774:=0
def tw11279788157601400:=0
def tw12395714579274613848:=0
def tw9757383041667508843:=0
def tw10696709197736122075:=0
def tw13564087979025545902:=0
def tw11412120936426698944:=0
def tw16570760976347472260:=0
def tw16869957445953322489:=0
def tw15222431595047147519:=0
def tw7876596456968836364:=0
def tw1283896682284161829:=0
def tw2740260636010242597:=0
def tw11465780688380263139:=0
def tw2931930720435439625:=0
def tw6583838582232360491:=0
def tw2204143978720422041:=0
def tw14268249695264097842:=0
def tw2143003051032885478:=0
def tw1726231499751737472:=0
def tw16782523521293351468:=0
def tw7805678596775628116:=0
def tw15283776907318983165:=0
def tw12213737912942908317:=0
def tw8369894279864929466:=0
def tw12295754086912496161:=0
def tw16000914238238015503:=0
def tw4578548413087196066:=0
def tw1395674317011158663:=0
def tw15128910336792463129:=0
def tw1494457151494274429:=0
def tw11816119624221653945:=0
def tw12509334387767381654:=0
def tw18287647225367731864:=0
def tw10362647396137309409:=0
def tw8828469570839405846:=0
def tw12163523017506310114:=0
def tw16839398606246620762:=0
def tw15858854135429672496:=0
def tw7434359336183703884:=0
def tw18170521378837323135:=0
def tw3707513687488127676:=0
def tw429462369706701277:=0
def tw2516217489822744937:=0
def tw3406131138938309683:=0
def tw17074340493253623011:=0
def tw97235872045912698:=0
def tw4261062541641484920:=0
def tw1615567916624156703:=0
def tw7903069483765556409:=0
def tw6401857798557791185:=0
def tw8807470255388562158:=0
def tw17759918043402453834:=0
def tw6928905106195739193:=0
def tw7653445695474063010:=0
def tw8613544579844895066:=0
def tw9525349859610388898:=0
def tw17923334760657029987:=0
def tw8554833924001928081:=0
def tw17295718409186324781:=0
def tw14596720217793421663:=0
def tw249520331170996363:=0
def tw13884928020059654632:=0
def tw13726996867591675502:=0
def tw1366794031637713149:=0
def tw15104803409234183002:=0
def tw17528482027965843926:=0
def tw15981646527393991129:=0
def tw13041817686512668876:=0
def tw12518048579504918772:=0
def tw799979256203098152:=0
def tw15210978512295282055:=0
def tw7578724081500800483:=0
def tw1933782003254770781:=0
def tw4526612488735634811:=0
def tw12055863368846235099:=0
def tw17145548235119308466:=0
def tw9923129062916269164:=0
def tw11729642968128436597:=0
def tw17265476888922019861:=0
def tw5916944449388362594:=0
def tw17499684542596857780:=0
def tw5439890653973892402:=0
def tw10737054796249969995:=0
def tw955033116538192040:=0
def tw8400647211539955786:=0
def tw15467016088447766324:=0
def tw18141031564184949083:=0
def tw17083534239018347583:=0
def tw5326355397700145505:=0
def tw4273855131210613026:=0
def tw1398246482586261724:=0
def tw149368998618410938:=0
def tw11847565554398603891:=0
def tw6611449541075059905:=0
def tw8954424026231002364:=0
def tw5907343555569059085:=0
def tw8706179239910768050:=0
def tw8468338120083319848:=0
def tw9272069620984613141:=0
def tw11237835757361844601:=0
def tw473192222342474188:=0
def tw10289535652740087897:=0
def tw10147277633265170677:=0
def tw16902744321425645768:=0
def tw6242414788765245799:=0
def tw9970988213898815056:=0
def tw915260027663667448:=0
def tw8286727855659786851:=0
def tw14653870078580533031:=0
def tw13567988608095910726:=0
def tw15023667791505400499:=0
def tw7152472250148579246:=0
def tw16510993806026405983:=0
def tw6062573333353403101:=0
def tw982968202305671512:=0
def tw3742626874603042437:=0
def tw9627145957413742706:=0
def tw20747265580704555:=0
def tw13880090892571966640:=0
def tw16991287763407889820:=0
def tw17788072641736170623:=0
def tw5710517627477851916:=0
def tw9773625760827207602:=0
def tw6524292460942450869:=0
def tw10217739293163778019:=0
def tw6669980102978186283:=0
def tw6968703005253598994:=0
def tw9771291511726947195:=0
def tw9660563619279484355:=0
def tw12432993071822184419:=0
def tw17103444474771700586:=0
def tw5051557996332881746:=0
def tw6314396481152881387:=0
def tw13419505647249966442:=0
def tw5481890625850140777:=0
def tw4049128725474777827:=0
def tw4977542799895851998:=0
def tw6292963048242831405:=0
def tw8562085933791331783:=0
def tw2711027933344698578:=0
def tw14238128848025238889:=0
def tw16104715156836388929:=0
def tw16171005659085130346:=0
def tw12952533923305312471:=0
end PySem.W.Fast
open PySem PySem.W PyProof.Rows
set_option maxRecDepth 100000 in
set_option maxHeartbeats 0 in
theorem PySem.Challenge.cw_indexwise_k62_expressions_written_holds : PySem.Challenge.rw_indexwise_k62_expressions_written.Holds := by
 w_on;o_law;k_head;(case hw=>w_witness2)
 k_fill
 refine K62.walk (l := PySem.Challenge.rw_indexwise_k62_expressions_written) rfl rfl (λw h Y => PySem.W.kIn_of Y) ?F
 case F=>
  intro w mg fa h KX G hmg
  refine' K62.all_mk KX G hmg ?d1 ?d2 ?d3 ?d4 ?d5 ?d6 ?d7 ?d8 ?d9 ?d10 ?d11 ?d12 ?d13 ?d14 ?d15 ?d16 ?d17 ?d18 ?d19 ?d20 ?d21 ?d22 ?d23 ?d24 ?d25 ?d26 ?d27 ?d28 ?d29 ?d30 ?d31 ?d32 ?d33 ?d34 ?d35 ?d36 ?d37 ?d38 ?d39 ?d40 ?d41 ?d42 ?d43 ?d44 ?d45 ?d46 ?d47 ?d48 ?d49 ?d50 ?d51 ?d52 ?z1 ?z2 ?z3 ?z4 ?z5 ?z6 ?z7 ?z8 ?z9 ?z10 ?z11 ?z12 ?zg0 ?zg1 ?zg2 ?zg3 ?zg4 ?zg5 ?zg6 ?zg7 ?zg8 ?zR ?lR ?zS ?aC ?aI ?iI ?lI ?cI ?kI ?aM ?iM ?lM ?cM ?kM ?aN ?iN ?lN ?cN ?kN ?aB ?iB ?lB ?cB ?kB ?pg ?hd ?po ?sa ?mk ?kc ?nT ?nA ?sS
  all_goals try (refine' K62.df_mk ?a ?l ?c ?k;(case a=>k_is);(case l=>k_is);(case c=>k_is);(case k=>k_is))
  (case z1=>k_is);(case z2=>k_is);(case z3=>k_is);(case z4=>k_is);(case z5=>k_is);(case z6=>k_is);(case z7=>k_is);(case z8=>k_is);(case z9=>k_is);(case z10=>k_is);(case z11=>k_is);(case z12=>k_is)
  (case zg0=>k_is)
  (case zg1=>k_is)
  (case zg2=>k_is)
  (case zg3=>k_is)
  (case zg4=>k_is)
  (case zg5=>k_is)
  (case zg6=>k_is)
  (case zg7=>k_is)
  (case zg8=>k_is)
  (case zR=>k_is)
  (case lR=>k_is)
  (case zS=>k_is)
  (case aC=>k_is)
  (case aI=>k_is)
  (case iI=>k_is)
  (case lI=>k_is)
  (case cI=>k_is)
  (case kI=>k_is)
  (case aM=>k_is)
  (case iM=>k_is)
  (case lM=>k_is)
  (case cM=>k_is)
  (case kM=>k_is)
  (case aN=>k_is)
  (case iN=>k_is)
  (case lN=>k_is)
  (case cN=>k_is)
  (case kN=>k_is)
  (case aB=>k_is)
  (case iB=>k_is)
  (case lB=>k_is)
  (case cB=>k_is)
  (case kB=>k_is)
  (case pg=>k_is)
  (case hd=>k_is)
  (case po=>k_is)
  (case sa=>k_is)
  (case mk=>k_is)
  (case kc=>k_is)
  (case nT=>k_is)
  (case nA=>k_is)
  case sS=>
   refine' XB.shp_mk ?xShl ?xSlo ?xShe ?xSht
   (case xShl=>k_is)
   (case xSlo=>decide)
   (case xShe=>repeat (first|exact XB.Ents.nil|refine XB.Ents.cons ?_))
   case xSht=>
    refine' (XB.TupsK.cons ?xSa1 ?xSb1 (XB.TupsK.cons ?xSa2 ?xSb2 (XB.TupsK.cons ?xSa3 ?xSb3 (XB.TupsK.cons ?xSa4 ?xSb4 (XB.TupsK.cons ?xSa5 ?xSb5 (XB.TupsK.cons ?xSa6 ?xSb6 (XB.TupsK.cons ?xSa7 ?xSb7 (XB.TupsK.cons ?xSa8 ?xSb8 (XB.TupsK.cons ?xSa9 ?xSb9 (XB.TupsK.cons ?xSa10 ?xSb10 (XB.TupsK.cons ?xSa11 ?xSb11 (XB.TupsK.cons ?xSa12 ?xSb12 (XB.TupsK.cons ?xSa13 ?xSb13 (XB.TupsK.cons ?xSa14 ?xSb14 (XB.TupsK.cons ?xSa15 ?xSb15 (XB.TupsK.cons ?xSa16 ?xSb16 (XB.TupsK.cons ?xSa17 ?xSb17 (XB.TupsK.cons ?xSa18 ?xSb18 (XB.TupsK.cons ?xSa19 ?xSb19 (XB.TupsK.cons ?xSa20 ?xSb20 (XB.TupsK.cons ?xSa21 ?xSb21 (XB.TupsK.cons ?xSa22 ?xSb22 (XB.TupsK.cons ?xSa23 ?xSb23 (XB.TupsK.cons ?xSa24 ?xSb24 (XB.TupsK.cons ?xSa25 ?xSb25 (XB.TupsK.cons ?xSa26 ?xSb26 (XB.TupsK.cons ?xSa27 ?xSb27 XB.TupsK.nil)))))))))))))))))))))))))))
    (case xSa1=>k_is);(case xSb1=>repeat (first|exact XB.AreS.nil|refine XB.AreS.cons ?_))
    (case xSa2=>k_is);(case xSb2=>repeat (first|exact XB.AreS.nil|refine XB.AreS.cons ?_))
    (case xSa3=>k_is);(case xSb3=>repeat (first|exact XB.AreS.nil|refine XB.AreS.cons ?_))
    (case xSa4=>k_is);(case xSb4=>repeat (first|exact XB.AreS.nil|refine XB.AreS.cons ?_))
    (case xSa5=>k_is);(case xSb5=>repeat (first|exact XB.AreS.nil|refine XB.AreS.cons ?_))
    (case xSa6=>k_is);(case xSb6=>repeat (first|exact XB.AreS.nil|refine XB.AreS.cons ?_))
    (case xSa7=>k_is);(case xSb7=>repeat (first|exact XB.AreS.nil|refine XB.AreS.cons ?_))
    (case xSa8=>k_is);(case xSb8=>repeat (first|exact XB.AreS.nil|refine XB.AreS.cons ?_))
    (case xSa9=>k_is);(case xSb9=>repeat (first|exact XB.AreS.nil|refine XB.AreS.cons ?_))
    (case xSa10=>k_is);(case xSb10=>repeat (first|exact XB.AreS.nil|refine XB.AreS.cons ?_))
    (case xSa11=>k_is);(case xSb11=>repeat (first|exact XB.AreS.nil|refine XB.AreS.cons ?_))
    (case xSa12=>k_is);(case xSb12=>repeat (first|exact XB.AreS.nil|refine XB.AreS.cons ?_))
    (case xSa13=>k_is);(case xSb13=>repeat (first|exact XB.AreS.nil|refine XB.AreS.cons ?_))
    (case xSa14=>k_is);(case xSb14=>repeat (first|exact XB.AreS.nil|refine XB.AreS.cons ?_))
    (case xSa15=>k_is);(case xSb15=>repeat (first|exact XB.AreS.nil|refine XB.AreS.cons ?_))
    (case xSa16=>k_is);(case xSb16=>repeat (first|exact XB.AreS.nil|refine XB.AreS.cons ?_))
    (case xSa17=>k_is);(case xSb17=>repeat (first|exact XB.AreS.nil|refine XB.AreS.cons ?_))
    (case xSa18=>k_is);(case xSb18=>repeat (first|exact XB.AreS.nil|refine XB.AreS.cons ?_))
    (case xSa19=>k_is);(case xSb19=>repeat (first|exact XB.AreS.nil|refine XB.AreS.cons ?_))
    (case xSa20=>k_is);(case xSb20=>repeat (first|exact XB.AreS.nil|refine XB.AreS.cons ?_))
    (case xSa21=>k_is);(case xSb21=>repeat (first|exact XB.AreS.nil|refine XB.AreS.cons ?_))
    (case xSa22=>k_is);(case xSb22=>repeat (first|exact XB.AreS.nil|refine XB.AreS.cons ?_))
    (case xSa23=>k_is);(case xSb23=>repeat (first|exact XB.AreS.nil|refine XB.AreS.cons ?_))
    (case xSa24=>k_is);(case xSb24=>repeat (first|exact XB.AreS.nil|refine XB.AreS.cons ?_))
    (case xSa25=>k_is);(case xSb25=>repeat (first|exact XB.AreS.nil|refine XB.AreS.cons ?_))
    (case xSa26=>k_is);(case xSb26=>repeat (first|exact XB.AreS.nil|refine XB.AreS.cons ?_))
    (case xSa27=>k_is);(case xSb27=>repeat (first|exact XB.AreS.nil|refine XB.AreS.cons ?_))
