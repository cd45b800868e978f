import PyProof.Rows.All
import Wide.All
import OpenK.AllK
import Wide.FinOn
import Lean
import PyProof.EqAt
import PyProof.EqKinds
import PyProof.TupleCall
import PySem.Challenge.RW_evenwebs_k93_whole_a_desk_and_all
import PyProof.P3In
import PyProof.EqLayable
import PyProof.SumAny
import PyProof.NoPylong
import PyProof.FitsBits
import PyProof.ExcArgsOwn
import PyProof.ExcBaseAll.ValueError
import PyProof.Rows.SeqMore
import PyProof.DictRoads
import PyProof.DictKinds
import PyProof.Rows.FactsT2
import KE.KRevIter
import PyProof.SetScanFacts
import PyProof.SetKind
import PyProof.Rows.SetFrom
import PyProof.Walks
import PyProof.DictValues
import PyProof.FactsAll.set_1
import PyProof.DictWalks
import KE.KDictSum
import PyProof.SetRoads
import PyProof.MeetsSeq2
import PyProof.WalksMore
import PyProof.AutoSeq1
import PyProof.ListRange
import PyProof.Rows.SortShell
import PyProof.TupleOfSeq
import KE.KLam
import KE.KIntText
import PyProof.DictStraight
set_option Elab.async false
set_option linter.all false
set_option maxHeartbeats 4000000
set_option maxRecDepth 100000
set_option bootstrap.genMatcherCode false
set_option genSizeOfSpec false
set_option genSizeOf false
set_option compiler.extract_closed false
local macro_rules|`(tactic|omega)=>`(tactic|first|lia|omega (config:={}))
open PySem renaming wpAny_bind→Rc,wpAny_pure→Xd,boot_len→P7,wpAny_mono→QW,wpAny_holding→Rj,mem_of_lookup→Rh,call_meets→Rg,codeAny_mono→Rq,wpAny_call_entry→Rp,wpAny_truthy_bool→Ry,wpAny_askSetting→Rv,sizeLine_eq→S9,wpAny_newObj_type→S7,wpAny_field→SK,typeIs_str→SJ,wpAny_call→Sm,wpAny_Call_Name_kw→Sl,wpAny_setState_of→Sa,wpAny_pyIter_list→T7,wpAny_pyIter_tuple→T6,wpAny_passesOwn→T5,wpAny_callSpecial?_slot→Sy,tupleKind_room_in1→Sw,wpAny_setField→Su,wpAny_of_eq→Ss,codeAny_builtin→TV,sub_set_self→TU,wpAny_setEntries_of→TR,wpAny_isInstance→TQ,wpAny_execs_nil→Tv,isSubtype_type→U5,wpAny_standAt→UW,pushCells_keeps→UJ,codeAny_of_tree→Us,entryFor_alias→Ur,wpAny_setEpoch_of→Uo,list_append→VW,wpAny_comprehension_free→VR,weight_type_call_type→Vt,builtinLookup_eq_fast→Vq
open Nat renaming le_refl→ZA,ne_of_lt→AP,lt_of_lt_of_le→I8,le_trans→Q3,zero_add→QV,zero_le→RL,lt_irrefl→RQ,ne_of_gt→Ri,le_of_eq→Rt,lt_succ_self→Rr,le_succ→Rx,le_of_lt→SD,sub_self→S3,lt_succ_of_lt→Se,testBit_two_pow_sub_one→TX,lt_trans→Tp,le_add_right→Tn,add_zero→Tf,lt_of_le_of_lt→U6,succ_mul→UO,le_of_not_lt→UN,not_lt_zero→V0,lt_or_ge→Ux,mul_le_mul→Ua,mul_le_mul_right→V6,eq_zero_or_pos→VF,lt_trichotomy→VE
open PySem.Heap renaming get?_push_of_some→gn,lt_size→lu,get?_push_size→E3,size_push→RK,get?_update_other→S6,get?_update_self→Sx
open List renaming mem_cons→l8,mem_map→x6,length_map→x8,getElem?_eq_getElem→Bt,map_cons→E1,mem_range→H8,size_toArray→E4,length_cons→Iv,map_map→P0,nil_append→Q0,getElem?_eq_some_iff→Q7,getD_eq_getElem?_getD→Q6,getElem?_map→Q9,length_append→QT,mem_of_getElem?→R5,map_congr_left→R4,lookup_cons→R9,all_eq_true→R8,not_mem_nil→R7,mem_of_mem_take→R6,getElem?_append_right→RC,getElem?_append_left→RJ,getElem_mem→RH,mem_singleton→RG,mem_cons_of_mem→RP,mem_append→RO,take_length→RN,mem_filter→RV,append_assoc→RU,mem_range'_1→RS,mem_append_right→Ra,append_nil→RY,mem_cons_self→Rk,getElem?_eq_none→Rf,pairwise_cons→Rw,getElem?_set_self→SA,nodup_cons→S8,length_nil→S5,mem_iff_getElem→S4,length_range→S1,sum_cons→S0,replicate_succ→SI,map_append→SO,length_filter_le→SM,getElem?_set_ne→Sn,flatten_cons→Sj,foldl_cons→Si,find?_cons→Sh,cons_append→Sf,any_eq_true→Sb,flatMap_cons→SW,filter_congr→SV,getElem_inj→T8,of_mem_zip→T4,length_take→Sz,take_of_length_le→TN,range_eq_range'→TM,set_append_right→TH,filter_append→TF,getElem?_range→T9,mem_filterMap→Tt,nodup_append→Ti,getElem?_take→Th,range_succ→UA,ext_getElem→U9,pairwise_lt_range→U8,take_append_drop→U7,map_id→U4,flatMap_append→U1,range_succ_eq_map→Te,flatMap_map→Tc,forall_mem_cons→TZ,filterMap_cons→UX,take_sublist→UR,any_cons→UM,getElem_range→UG,drop_eq_getElem_cons→UE,getElem_take→UD,take_add_one→UC,getElem_of_mem→Uz,take_succ_eq_append_getElem→Ut,ext_getElem?→Um,extract_eq_take_drop→Ul,zip_cons_cons→Uk,mem_map_of_mem→Uj,range'_append_1→Uc,getElem?_range'→Ub,length_flatMap→UZ,mem_flatMap→V7,mem_append_left→WU,any_eq_false→WR,getElem?_take_of_lt→WM,filterMap_map→Vb,length_drop→Va,forIn_cons→VS,getElem?_zip_eq_some→VQ,getElem?_mapIdx→VN,drop_eq_nil_of_le→VM,countP_cons→VH,mem_of_mem_drop→WA,mem_erase_of_ne→W9,length_erase_of_mem→W8,length_pos_of_mem→W7,perm_append_singleton→W6,pairwise_map→W0,map_filterMap→Vz,findIdx?_eq_some_iff_getElem→Vy,foldl_append→Vx,perm_middle→Vp,perm_ext_iff_of_nodup→Vn,reverse_cons→Vh,find?_cons_of_pos→Vf,find?_cons_of_neg→WL,getElem_set→WK,getElem_map→WJ,take_append_of_le_length→WI,range'_succ→WD,filter_cons→WC,filter_eq_nil_iff→WB,mem_mapIdx→VC
open Option.some renaming inj→Q4
open Ne renaming symm→Q8
open Bool renaming false_ne_true→QY,and_eq_true→RI,eq_iff_iff→RW,or_eq_true→SR,false_eq_true→Sv,and_self→Uu
open Array renaming length_toList→R1,getElem?_toList→S2,getElem?_eq_getElem→SN,toList_push→Uv,getElem?_eq_none→Uq,find?_toList→WS,getElem?_eq_some_iff→VI,getD_eq_getD_getElem?→VG,toArray_toList→Vk,toList_append→Vi,toList_inj→WG,toList_extract→WE
open PyProof.Rows renaming vals1→R0,boot_isinstance→Ro,boot_tuple→Rn,join_list→Ru,boot_all→SY,boot_min→SX,callWith_type1→Tu,get?_update_seq→U3,slot_tuple_getitem→UQ,subscriptTail_builtinR→UP
open PySem.F renaming called_set→RE,slot_tuple_iterator_next→To,plainAttrs_list→Tg,slot_dict_get→UK,plainAttrs_str→Ui,slot_str_split→Uh,entry_str_split→Ug,args_str_split_2→Ue,slot_tuple_add→Ve,entry_tuple_add→Vd,args_tuple_add_2→Vc,entry_dict_get→VU,args_dict_get_2→VT,entry_tuple_iterator_next→VP,args_tuple_iterator_next_1→VO,plain_set_new→Vw,entry_type_call→Vu,typeCall_set_1→Vs,entry_set_init→Vr,slot_set_iter→Vo,slot_set_and→Vl
open PySem.W renaming mg_none_of→RD,mg_of→RT,kia_one→RZ,cellsFrom_some→Tr,km_tabs_of→TY,plainGet_of→UU,kitx_dict→UT,callWith_K→US,kitx_list→WQ,methodCall_KW→WO,callWith_K0→WN,codeHd_of_K→Vj
open PySem.Heap.SameBut renaming update→SQ
open Int renaming toNat_natCast→Sk,emod_nonneg→TL,emod_lt_of_pos→TJ,zero_add→V5,emod_eq_of_lt→Uy,toNat_of_nonneg→Ud,le_ediv_iff_mul_le→WH,natAbs_natCast→VB
open Option renaming map_some→Sg,isSome_iff_exists→T3,bind_some→U0,isSome_map→UL,getD_none→VZ,isSome_some→VV
open PySem.Obj renaming data_mapFields→Sd,isFreed_of_fields→UI,cls_mapFields→UH
open PySem.Paired renaming length→Tz
open Prod renaming ext→Tq
open PySem.Walks renaming list→Tj
open Function renaming comp_def→Td
open PySem.Value renaming isInt_shape→UY
open PySem.SetTable renaming insertAt_perm→Uw
open PySem.Calls renaming Name_function_global→WT,callWith_builtin→VY,call_function_entry→Vm
open PySem.IsL renaming update→VX
open PySem.SeqAt renaming in_tuple_reads→VL,notIn_tuple_reads→VJ
open List.cons renaming injEq→Vg
open List.Pairwise renaming filter→VD
open Option renaming some→Y,none→O
open PySem.W renaming Frag→θ,nsIn→μ,OpenLaw→VA
open Bool renaming false→G,true→L
open PySem renaming Value→S,Addr→J,sizeLine→Ξ,Shared→Ψ,starEach→ε,mainGlobals→ι,Expr→ν,Program→ο,World→π,Stmt→υ,Heap→χ,Around→ψ,backTo→ω,attributeBase→RM,FuncData→Q2,keywordEach→RB,NameKind→QU,SetTable→QZ,Keyword→QX,backToKw→RA,Scope→Q5,cLine→QS,PyData→RX,Arguments→SS,DictEntry→So,BindsTo→SH,IsPart→SG,Within→V8,TriplesOk→UB
open List renaming range→Ω,replicate→τ,Nodup→R3
open PySem.Heap renaming SameBut→SE
open PyProof.Rows renaming IntsAre→Rb,AllBare→Rz
open PySem.Shared renaming TypeIs→V9
noncomputable section
namespace L2
open PySem PySem.Spec PyProof.Rows
abbrev Key:=Sum Int Str
def jE:Key->S->Bool
 |.inl k,v=>Value.isInt k v
 |.inr x,v=>Value.isStrOf x v
def aap(w:π):Key->Int
 |.inl k=>hashInt k
 |.inr x=>hashStr w x
theorem l5:∀{k:Key}{v:S},jE k v=L->(∃i t,k=Sum.inl i/\v=Value.int i t)\/(∃x t,k=Sum.inr x/\v=Value.str x t)
 |.inl i,v,h=>by
  obtain⟨t,e⟩:=UY (k:=i) (v:=v) h;exact .inl ⟨i,t,rfl,e⟩
 |.inr x,v,h=>by
  obtain⟨t,e⟩:=Value.isStrOf_shape (x:=x) (v:=v) h;exact .inr ⟨x,t,rfl,e⟩
theorem aao(i:Int) (t:Tok):jE (.inl i) (.int i t)=L:=by simp[jE,Value.isInt]
theorem aan(x:Str) (t:Tok):jE (.inr x) (.str x t)=L:=by simp[jE,Value.isStrOf]
theorem aam(a b:Int):decide ((Sum.inl a:Key)=Sum.inl b)=(a==b):=by
 by_cases e:a=b
 ·subst e;simp
 ·have h:¬(Sum.inl a:Key)=Sum.inl b:=λq=>e (Sum.inl.inj q)
  rw[decide_eq_false h];exact(beq_eq_false_iff_ne.mpr e).symm
theorem aai(a b:Str):decide ((Sum.inr a:Key)=Sum.inr b)=decide (a=b):=by
 by_cases e:a=b
 ·subst e;simp
 ·have h:¬(Sum.inr a:Key)=Sum.inr b:=λq=>e (Sum.inr.inj q)
  rw[decide_eq_false h,decide_eq_false e]
theorem aal(a:Int) (b:Str):decide ((Sum.inl a:Key)=Sum.inr b)=G:=decide_eq_false (λq=>nomatch q)
theorem aaj(a:Str) (b:Int):decide ((Sum.inr a:Key)=Sum.inl b)=G:=decide_eq_false (λq=>nomatch q)
def gX(prog:ο) (w:π):PySem.KeyKind prog w Key where
 is:=jE
 hash:=aap w
 inj:=λv a b ha hb=>by
  rcases l5 ha with⟨i,t,rfl,rfl⟩|⟨x,t,rfl,rfl⟩
  ·rcases l5 hb with⟨j,u,rfl,e⟩|⟨y,u,rfl,e⟩
   ·injection e with e1 _;rw[e1]
   ·exact nomatch e
  ·rcases l5 hb with⟨j,u,rfl,e⟩|⟨y,u,rfl,e⟩
   ·exact nomatch e
   ·injection e with e1 _;rw[e1]
 byValue:=λk v h=>by
  rcases l5 h with⟨i,t,rfl,rfl⟩|⟨x,t,rfl,rfl⟩<;>rfl
 pyHash:=λhv h=>by
  rcases l5 hv with⟨i,t,rfl,rfl⟩|⟨x,t,rfl,rfl⟩
  ·exact wpAny_pyHash_int h
  ·exact wpAny_pyHash_str h
 eqBool:=λhu hv h=>by
  rcases l5 hu with⟨i,t,rfl,rfl⟩|⟨x,t,rfl,rfl⟩
  ·rcases l5 hv with⟨j,u,rfl,rfl⟩|⟨y,u,rfl,rfl⟩
   ·rw[aam]at h;exact wpAny_eqBool_int h
   ·rw[aal]at h;exact SeqAt.EqAt.int_str i t y u _ _ _ _ h
  ·rcases l5 hv with⟨j,u,rfl,rfl⟩|⟨y,u,rfl,rfl⟩
   ·rw[aaj]at h;exact SeqAt.EqAt.str_int x t j u _ _ _ _ h
   ·rw[aai]at h;exact wpAny_eqBool_str h
 «strs»:=λk x t v h=>by
  rcases l5 h with⟨i,u,rfl,e⟩|⟨y,u,rfl,e⟩
  ·exact nomatch e
  ·injection e with e1 _
   subst e1;cases v<;>rfl
theorem ZD(prog:ο) (w:π) (i:Int) (t:Tok):(gX prog w).is (.inl i) (.int i t)=L:=aao i t
theorem ZC(prog:ο) (w:π) (x:Str) (t:Tok):(gX prog w).is (.inr x) (.str x t)=L:=aan x t
inductive V where
 |aE|bl (b:Bool)|int (i:Int)|str (x:Str)|iR (b:Array UInt8)|qE (b:UInt64)|ref (a:J)|ty (n:String)
 deriving DecidableEq
def RelV:V->S->Prop
 |.aE,u=>u=Value.none
 |.bl b,u=>u=Value.bool b
 |.int i,u=>∃t,u=Value.int i t
 |.str x,u=>∃t,u=Value.str x t
 |.iR b,u=>∃t,u=Value.bytes b t
 |.qE b,u=>∃t,u=Value.float b t
 |.ref a,u=>u=Value.ref a
 |.ty n,u=>u=Value.type n
abbrev Vals:List V->List S->Prop:=Paired RelV
theorem Vals.length{xs:List V}{us:List S}(r:Vals xs us):xs.length=us.length:=Tz r
theorem Vals.get:∀{xs:List V}{us:List S}{i:Nat}{x:V},Vals xs us->xs[i]? = Y x->∃u,us[i]? = Y u/\RelV x u
 |_,_,_,_,.nil,e=>by simp at e
 |_,_,0,_,.cons r _,e=>by simp at e;subst e;exact⟨_,rfl,r⟩
 |_,_,i+1,x,.cons _ t,e=>by
  obtain⟨u,h1,h2⟩:=Vals.get (i:=i) (x:=x) t (by simpa using e)
  exact⟨u,by simpa using h1,h2⟩
theorem Vals.set{x:V}{u:S}(r:RelV x u):∀{xs:List V}{us:List S}(i:Nat),Vals xs us->Vals (xs.set i x) (us.set i u)
 |_,_,_,.nil=>.nil
 |_,_,0,.cons _ t=>.cons r t
 |_,_,i+1,.cons q t=>.cons q (Vals.set r i t)
theorem Vals.append:∀{xs ys:List V}{us ws:List S},Vals xs us->Vals ys ws->Vals (xs++ys) (us++ws)
 |_,_,_,_,.nil,s=>s
 |_,_,_,_,.cons r t,s=>.cons r (Vals.append t s)
theorem Vals.take:∀{xs:List V}{us:List S}(n:Nat),Vals xs us->Vals (xs.take n) (us.take n)
 |_,_,0,_=>.nil
 |_,_,_+1,.nil=>.nil
 |_,_,n+1,.cons r t=>.cons r (Vals.take n t)
theorem Vals.drop:∀{xs:List V}{us:List S}(n:Nat),Vals xs us->Vals (xs.drop n) (us.drop n)
 |_,_,0,r=>r
 |_,_,_+1,.nil=>.nil
 |_,_,n+1,.cons _ t=>Vals.drop n t
def gQ:Option V->Option S->Prop
 |some v,Y u=>RelV v u
 |none,O=>True
 |_,_=>False
def KV{κ:Type}:List (κ×V)->List (κ×S)->Prop:=Paired fun(p:κ×V) (q:κ×S)=>p.1=q.1/\RelV p.2 q.2
def kV:Key->V
 |.inl i=>.int i
 |.inr x=>.str x
inductive HO where
 |lst (xs:List V)
 |tup (xs:List V)
 |dK (kvs:List (Key×V))|dT (kvs:List (List Key×V))
 |set (Γ:Int->Bool) (n:Nat)
 |ins (C dx:J) (fs:List (Str×V))
 |own (x:J)
 |xd (fs:List (Str×V))
 |met (f x:J)
 |vB (lo hi:Int)
 |cN (o:Obj) (u:HO)
 |cJ (ps:Array S)
 |ext (φ:χ->Prop)
abbrev Hp:=J->Option HO
def upd(H:Hp) (a:J) (o:HO):Hp:=λb=>if b=a then Y o else H b
theorem cV{H:Hp}{a:J}{o:HO}:upd H a o a=Y o:=by unfold upd;rw[if_pos rfl]
theorem aV{H:Hp}{a b:J}{o:HO}(h:b≠a):upd H a o b=H b:=by unfold upd;rw[if_neg h]
theorem EK{H:Hp}{a b:J}{o u:HO}(h:H a=Y o) (h':H b=Y u) (d:o≠u):a≠b:=by
 intro e;subst e;rw[h]at h';exact d (Q4 h')
theorem cK{H:Hp}{a b:J}{o:HO}(h:H a=Y o) (h':H b=O):a≠b:=by
 intro e;subst e;rw[h]at h';cases h'
def lF(h:χ) (a:J) (items:Array S):Prop:=∃o,h.get? a=Y o/\o.cls=.type "tuple"/\(∃n,o.data=.seq items n)/\o.dict=O
theorem lF.tup{h:χ}{a:J}{items:Array S}:lF h a items->IsTup h a items:=fun⟨o,e,c,d,_⟩=>⟨o,e,c,d⟩
theorem lF.new(h:χ) (items:Array S):lF (h.push {cls:=.type "tuple",data:=.seq items}) h.objs.size items:=⟨_,E3 _ rfl,rfl,⟨_,rfl⟩,rfl⟩
section
variable (P:ο) (w:π)
def d7(H:Hp) (h:χ) (a:J):HO->Prop
 |.lst xs=>xs.length<=Ξ/\∃(its:List S) (n:Nat),Vals xs its/\h.get? a=Y {cls:=.type "list",data:=.seq its.toArray n}
 |.tup xs=>xs.length<=Ξ/\∃its:List S,Vals xs its/\lF h a its.toArray
 |.dK kvs=>kvs.length<=Ξ/\(a==sysModules)=G/\∃vs,KV kvs vs/\h.DictOf (gX P w) a vs
 |.dT kvs=>kvs.length<=Ξ/\(a==sysModules)=G/\∃xs:List (List Key×J×S),
   Paired (fun(p:List Key×V) (q:List Key×J×S)=>p.1=q.1/\H q.2.1=Y (.tup (p.1.map kV))/\RelV p.2 q.2.2) kvs xs /\
   ∃o es ep,h.get? a=Y o/\o.ExactDict/\o.data=.dict es ep/\es.toList=xs.map (entryOfKey (tupleKind (gX P w)))/\(xs.map (·.1)).Nodup
 |.set Γ n=>h.SetOf (intKind P w) a Γ n
 |.ins C dx fs=>H dx=Y (.own a)/\fs.length<=1000/\dx≠a/\h.get? a=Y (PySem.W.instObj C dx) /\
   ∃mA,h.Ns1 dx mA/\(∀f,gQ (fs.lookup f) (mA f))/\V8 mA (fs.map (·.1))
 |.own _=>∃o,h.get? a=Y o
 |.xd fs=>∃mA,h.Ns1 a mA/\∀f,gQ (fs.lookup f) (mA f)
 |.vB lo hi=>∃t u v,h.get? a=Y {cls:=.type "range",data:=.fields #[.int lo t,.int hi u,.int 1 v]}
 |.cN o u=>h.get? a=Y o/\d7 H h a u
 |.cJ ps=>h.get? a=Y {cls:=.none,data:=.fields ps}
 |.met f x=>h.get? a=Y (PySem.W.methodObj (.ref f) (.ref x))
 |.ext φ=>φ h/\(∃o,h.get? a=Y o)/\∀h1 h2:χ,φ h1->(∀o,h1.get? a=Y o->h2.get? a=Y o)->φ h2
def cL(H:Hp) (h:χ):Prop:=∀a o,H a=Y o->d7 P w H h a o
end
section
variable {P:ο}{w:π}{H H':Hp}{h h':χ}{a:J}{o:HO}
theorem d7.lt(x:d7 P w H h a o):a<h.objs.size:=by
 cases o with
 |lst xs=>obtain⟨_,_,_,_,e⟩:=x;exact lu e
 |tup xs=>obtain⟨_,_,_,p⟩:=x;exact p.tup.lt
 |dK kvs=>obtain⟨_,_,_,_,o,_,_,e,_⟩:=x;exact lu e
 |dT kvs=>obtain⟨_,_,_,_,o,_,_,e,_⟩:=x;exact lu e
 |set Γ n=>obtain⟨o,_,_,_,e,_⟩:=x;exact lu e
 |ins C dx fs=>obtain⟨_,_,_,e,_⟩:=x;exact lu e
 |own y=>obtain⟨_,e⟩:=x;exact lu e
 |xd fs=>obtain⟨_,⟨_,_,_,e,_⟩,_⟩:=x;exact lu e
 |vB lo hi=>obtain⟨_,_,_,e⟩:=x;exact lu e
 |cN ob u=>obtain⟨e,_⟩:=x;exact lu e
 |cJ ps=>exact lu (show h.get? a=Y _ from x)
 |met f y=>exact lu (show h.get? a=Y _ from x)
 |ext φ=>obtain⟨_,⟨_,e⟩,_⟩:=x;exact lu e
theorem Paired.EW{α β:Type}{F ξ:α->β->Prop}:∀{l₁:List α}{l₂:List β},Paired F l₁ l₂->(∀a b,F a b->ξ a b)->Paired ξ l₁ l₂
 |_,_,.nil,_=>.nil
 |_,_,.cons r t,f=>.cons (f _ _ r) (Paired.EW t f)
theorem d7.stay(x:d7 P w H h a o) (k:∀b u,(b=a\/H b=Y (.own a))->h.get? b=Y u->h'.get? b=Y u)
  (ho:∀b,H b=Y (.own a)->H' b=Y (.own a)) (ht:∀b xs,H b=Y (.tup xs)->H' b=Y (.tup xs)):d7 P w H' h' a o:=by
 induction o with
 |lst xs=>obtain⟨z,its,n,r,e⟩:=x;exact⟨z,its,n,r,k _ _ (.inl rfl) e⟩
 |tup xs=>obtain⟨z,its,r,ob,e,c⟩:=x;exact⟨z,its,r,ob,k _ _ (.inl rfl) e,c⟩
 |dK kvs=>obtain⟨z,y,vs,r,ob,es,ep,e,c⟩:=x;exact⟨z,y,vs,r,ob,es,ep,k _ _ (.inl rfl) e,c⟩
 |dT kvs =>
  obtain⟨z,y,xs,r,ob,es,ep,e,c⟩:=x;exact⟨z,y,xs,Paired.EW r λp q z=>⟨z.1,ht _ _ z.2.1,z.2.2⟩,ob,es,ep,k _ _ (.inl rfl) e,c⟩
 |set Γ n=>obtain⟨ob,es,ep,t,e,c⟩:=x;exact⟨ob,es,ep,t,k _ _ (.inl rfl) e,c⟩
 |ins C dx fs =>
  obtain⟨d,z,ne,e,mA,⟨od,es,ep,e2,c⟩,r⟩:=x;exact⟨ho _ d,z,ne,k _ _ (.inl rfl) e,mA,⟨od,es,ep,k _ _ (.inr d) e2,c⟩,r⟩
 |own y=>obtain⟨ob,e⟩:=x;exact⟨ob,k _ _ (.inl rfl) e⟩
 |xd fs=>obtain⟨mA,⟨od,es,ep,e,c⟩,r⟩:=x;exact⟨mA,⟨od,es,ep,k _ _ (.inl rfl) e,c⟩,r⟩
 |vB lo hi=>obtain⟨t,u,v,e⟩:=x;exact⟨t,u,v,k _ _ (.inl rfl) e⟩
 |cN ob u ih=>obtain⟨e,q⟩:=x;exact⟨k _ _ (.inl rfl) e,ih q⟩
 |cJ ps =>
  have e:h.get? a=Y {cls:=.none,data:=.fields ps}:=x;show h'.get? a=Y {cls:=.none,data:=.fields ps};exact k a _ (.inl rfl) e
 |met f y =>
  have e:h.get? a=Y (PySem.W.methodObj (.ref f) (.ref y)):=x;show h'.get? a=Y (PySem.W.methodObj (.ref f) (.ref y));exact k a _ (.inl rfl) e
 |ext φ=>obtain⟨p,⟨o,e⟩,st⟩:=x;exact⟨st _ _ p λo q=>k _ _ (.inl rfl) q,⟨o,k _ _ (.inl rfl) e⟩,st⟩
theorem cL.lt(x:cL P w H h) (e:H a=Y o):a<h.objs.size:=(x a o e).lt
theorem cL.fresh(x:cL P w H h) (e:h.objs.size<=a):H a=O:=by
 cases q:H a with
 |none=>rfl
 |some u=>exact absurd (I8 (x.lt q) e) (RQ _)
theorem cL.kept(x:cL P w H h) (k:∀b u,h.get? b=Y u->h'.get? b=Y u):cL P w H h':=λa o e =>
 (x a o e).stay (λb u _ q=>k b u q) (λ_ q=>q) λ_ _ q=>q
theorem cL.laid(x:cL P w H h) (k:∀b u,h.get? b=Y u->h'.get? b=Y u) (hp:h.objs.size<=a) (new:d7 P w (upd H a o) h' a o):cL P w (upd H a o) h':=λb u e=>by
 have hn:=x.fresh hp
 by_cases hb:b=a
 ·subst hb;rw[cV]at e;cases e;exact new
 ·rw[aV hb]at e;exact(x b u e).stay (λc v _ q=>k c v q) (λc q=>by rw[aV (cK q hn)];exact q) λc xs q=>by rw[aV (cK q hn)];exact q
end
def Rd(H:Hp) (a:J) (u:HO):Prop:=H a=Y u\/∃o,H a=Y (.cN o u)
theorem Rd.ok{P:ο}{w:π}{H:Hp}{h:χ}{a:J}{u:HO}(r:Rd H a u) (x:cL P w H h):d7 P w H h a u:=by
 rcases r with r|⟨o,r⟩
 ·exact x a u r
 ·obtain⟨_,q⟩:=x a _ r;exact q
def yb:Option HO->Prop
 |some (.lst _)=>True
 |some (.dK _)=>True
 |some (.dT _)=>True
 |some (.set _ _)=>True
 |some (.ins _ _ _)=>True
 |some (.ext _)=>True
 |_=>False
section
variable {P:ο}{w:π}{H:Hp}{h h':χ}{x e:J}{o':HO}
theorem cL.write(ok:cL P w H h) (mu:yb (H x)) (he:e=x\/H e=Y (.own x)) (k:∀b u,b≠e->h.get? b=Y u->h'.get? b=Y u) (t8:∃u,h'.get? e=Y u)
  (new:d7 P w (upd H x o') h' x o'):cL P w (upd H x o') h':=λb u q=>by
 have MQ:∀c y,H c=Y (.own y)->c≠x:=λc y r z=>by subst z;rw[r]at mu;exact mu
 have YV:∀c xs,H c=Y (.tup xs)->c≠x:=λc xs r z=>by subst z;rw[r]at mu;exact mu
 by_cases hb:b=x
 ·subst hb;rw[cV]at q;cases q;exact new
 ·rw[aV hb]at q
  by_cases qB:b=e
  ·have q':H b=Y (.own x):=by
    rcases he with z|z
    ·exact absurd (qB.trans z) hb
    ·rw[qB];exact z
   rw[q]at q';cases q';obtain⟨v,hv⟩:=t8;exact⟨v,by rw[qB];exact hv⟩
  ·refine(ok b u q).stay (λc v hc r=>k c v ?_ r) (λc r=>by rw[aV (MQ c b r)];exact r) λc xs r=>by rw[aV (YV c xs r)];exact r
   rcases hc with rfl|hc
   ·exact qB
   ·rintro rfl
    rcases he with z|z
    ·exact MQ c b hc z
    ·rw[hc]at z;cases z;exact hb rfl
end
structure Un (fs ex:List J) (H H':Hp) (h h':χ):Prop where
 keep:∀b o,h.get? b=Y o->H b=O->b∉fs->b∉ex->h'.get? b=Y o
 slot:∀b o,h.get? b=Y o->H b=O->b∈fs->b∉ex->∃sl,h'.get? b=Y {o with slots:=sl}
 free:∀b o,h.get? b=Y o->H b=O->b∉ex->H' b=O
 there:∀b o,h.get? b=Y o->b∉ex->∃o',h'.get? b=Y o'
 tups:∀b xs,H b=Y (.tup xs)->H' b=Y (.tup xs)
 jh:∀b o u,H b=Y (.cN o u)->H' b=Y (.cN o u)
 jw:∀b ps,H b=Y (.cJ ps)->∃more,H' b=Y (.cJ (ps++more))
section
variable {fs fs' ex ex':List J}{H H1 H2:Hp}{h h1 h2 h':χ}{a x e:J}{o:HO}
theorem Un.any(u:Un fs ex H H1 h h1) {b:J}{ob:Obj}(q:h.get? b=Y ob) (n:H b=O) (hx:b∉ex):∃sl,h1.get? b=Y {ob with slots:=sl}:=by
 by_cases hb:b∈fs
 ·exact u.slot b ob q n hb hx
 ·exact⟨ob.slots,u.keep b ob q n hb hx⟩
theorem Un.kept(k:∀b u,h.get? b=Y u->h'.get? b=Y u):Un fs ex H H h h' :=
 ⟨λb ob q _ _ _=>k b ob q,λb ob q _ _ _=>⟨ob.slots,k b ob q⟩,λ_ _ _ n _=>n,λb ob q _=>⟨ob,k b ob q⟩,λ_ _ q=>q,λ_ _ _ q=>q,λ_ ps q=>⟨#[],by rw[q];simp⟩⟩
theorem Un.refl:Un fs ex H H h h:=Un.kept λ_ _ q=>q
theorem Un.laid(k:∀b u,h.get? b=Y u->h'.get? b=Y u) (hp:h.objs.size<=a) (hn:H a=O):Un fs ex H (upd H a o) h h' where
 keep:=λb u q _ _ _=>k b u q
 slot:=λb u q _ _ _=>⟨u.slots,k b u q⟩
 free:=λb u q n _=>by rw[aV (AP (I8 (lu q) hp))];exact n
 there:=λb u q _=>⟨u,k b u q⟩
 tups:=λb xs q=>by rw[aV (cK q hn)];exact q
 jh:=λb u xs q=>by rw[aV (cK q hn)];exact q
 jw:=λb ps q=>⟨#[],by rw[aV (cK q hn),q];simp⟩
theorem Un.write(mu:yb (H x)) (he:e=x\/H e=Y (.own x)) (k:∀b u,b≠e->h.get? b=Y u->h'.get? b=Y u) (t8:∃u,h'.get? e=Y u):Un fs ex H (upd H x o) h h':=by
 have hx:∀b,H b=O->b≠x:=λb n z=>by subst z;rw[n]at mu;exact mu
 have hb:∀b,H b=O->b≠e:=λb n z=>by
  subst z
  rcases he with r|r
  ·exact hx b n r
  ·rw[n]at r;cases r
 have hm:∀b u,H b=Y u->¬yb (Y u)->b≠x:=λb u q nm z=>by subst z;rw[q]at mu;exact nm mu
 refine⟨λb u q n _ _=>k b u (hb b n) q,λb u q n _ _=>⟨u.slots,k b u (hb b n) q⟩,λb u q n _=>by rw[aV (hx b n)];exact n,λb u q _=>?_,
  λb xs q=>by rw[aV (hm b _ q λz=>z)];exact q,λb u xs q=>by rw[aV (hm b _ q λz=>z)];exact q,λb ps q=>⟨#[],by rw[aV (hm b _ q λz=>z),q];simp⟩⟩
 by_cases qB:b=e
 ·subst qB;exact t8
 ·exact⟨u,k b u qB q⟩
end
def yI(h:χ) (H:Hp):List J:=(Ω h.objs.size).filter λa=>(H a).isSome
def mq(h:χ) (H:Hp):χ:=PySem.W.hideAll h (yI h H)
theorem abD(h:χ) (H:Hp):(mq h H).objs.size=h.objs.size:=PySem.W.hideAll_size _ _
theorem abG{h:χ}{H:Hp}{b:J}{o:Obj}(e:h.get? b=Y o) (n:H b=O):(mq h H).get? b=Y o :=
 PySem.W.hideAll_get _ e λhm=>by
  have q:(H b).isSome=L:=(RV.mp hm).2;rw[n]at q;simp at q
theorem YD{h:χ}{H:Hp}{b:J}{o:Obj}(e:(mq h H).get? b=Y o):h.get? b=Y o/\H b=O:=by
 have e':h.get? b=Y o:=PySem.W.of_hideAll (yI h H) e;refine⟨e',?_⟩;cases q:H b with
 |none=>rfl
 |some x =>
  have hm:b∈yI h H:=RV.mpr ⟨H8.mpr (lu e'),by simp[q]⟩
  have z:(mq h H).get? b=O:=PySem.W.hideAll_none (yI h H) hm;rw[z]at e;cases e
structure Mod (K:θ) (mg:Str->Option S) (base:χ):Prop where
 fT:K.In base
 glob:base.Ns ι mg
 blt:∃mb,base.Ns builtinsNs mb/\∀x:Str,x≠"__name__"->mb x=bootBuiltins x
 nolimit:base.NoLimit
 bmod:∃bm ob,mg "__builtins__"=Y (.ref bm)/\bm≠builtinsNs/\base.get? bm=Y ob/\ob.cls=.type "module"/\ob.dict=Y builtinsNs/\ob.data=.plain
structure Cx where
 prog:ο
 w:π
 K:θ
 mg:Str->Option S
 base:χ
 A:ψ
 N:List Str
 s₀:Ψ
 H₀:Hp
 env:Env
 outer:List Env
 stack:List Env
 ex:List J
 fn:Str->Bool
 calm:Bool
 pn:List (J×Obj)
 xe:S->Ψ->Prop
def frs(l:List Env):List J:=l.filterMap (·.frame)
abbrev Cx.fs(X:Cx):List J:=frs X.outer
def ya(sc:Q5) (x:Str):Prop:=sc.names.lookup x=Y .local\/sc.names.lookup x=Y .cell\/sc.names.lookup x=Y .free
def Loc(sc:Q5) (x:Str):Prop:=sc.names.lookup x=Y .local\/sc.names.lookup x=Y .cell
def Look(env:Env) (h:χ) (m:Str->Option S) (x:Str) (u:S):Prop :=
 (env.kindOf x=Y .local/\m x=Y u)\/((env.kindOf x=Y .cell\/env.kindOf x=Y .free)/\∃c,env.cells.lookup x=Y c/\h.IsCell c (Y u))
structure Cx.Ok (X:Cx):Prop where
 mod:Mod X.K X.mg X.base
 kind:X.env.scope.kind=.function
 glob:X.env.globals=ι
 blt:X.env.builtins=builtinsNs
 above:X.s₀.heap.objs.size<=X.env.locals
 inj:∀x y c,X.env.cells.lookup x=Y c->X.env.cells.lookup y=Y c->x=y
 has:∀x,(X.env.kindOf x=Y .cell\/X.env.kindOf x=Y .free)->∃c,X.env.cells.lookup x=Y c
 oO:∀x c,X.fn x=L->X.env.cells.lookup x=Y c->X.s₀.heap.objs.size<=c
 hd:X.calm=L->X.A.handled=O
 frames:X.A.frames=Y X.stack
 stk:X.stack=X.outer\/(X.stack=X.env::X.outer/\X.env.frame=Y X.env.locals)
 xh:∀b∈X.ex,b≠X.env.locals/\∀x c,X.env.cells.lookup x=Y c->c≠b
 bs:∀b o,X.base.get? b=Y o->X.s₀.heap.get? b=Y o/\X.H₀ b=O
 iS:X.base.objs.size<=X.s₀.heap.objs.size
 nJ:∀b o,X.base.get? b=Y o->b∉X.ex
 uh:∀b∈X.ex,b∉X.fs
 ir:X.s₀.heap.FunFrames X.base X.outer
 kq:∀b∈X.fs,X.H₀ b=O
structure Inv (X:Cx) (pins:List (J×Obj)) (Z:List (Option V)) (H:Hp) (s:Ψ):Prop where
 ok:X.Ok
 os:s.os=X.s₀.os
 bare:Rz s.gens
 base:Un X.fs X.ex X.H₀ H X.s₀.heap s.heap
 loc:∃m,s.heap.Ns X.env.locals m/\∀(i:Nat) (x:Str) (v:V),X.N[i]? = Y x->Z[i]? = Y (Y v)->ya X.env.scope x->∃u,RelV v u/\Look X.env s.heap m x u
 cell:∀x c,X.env.cells.lookup x=Y c->∃v,s.heap.IsCell c v
 free:H X.env.locals=O
 jj:∀x c,X.env.cells.lookup x=Y c->H c=O
 pin:∀p∈X.pn++pins,s.heap.get? p.1=Y p.2/\H p.1=O/\p.1≠X.env.locals/\p.1∉X.fs/\∀v,p.2.data≠.cell v
 hok:cL X.prog X.w H s.heap
 len:Z.length=X.N.length
section
variable {X:Cx}{pins:List (J×Obj)}{Z:List (Option V)}{H H':Hp}{s:Ψ}{h':χ}
theorem Cx.Ok.YZ(ok:X.Ok) {b:J}{o:Obj}(e:X.base.get? b=Y o):b∉X.fs:=λhb=>by
 have:=(ok.ir.mem hb).1;rw[e]at this;cases this
theorem Inv.bs(I:Inv X pins Z H s):∀b o,X.base.get? b=Y o->s.heap.get? b=Y o/\H b=O:=λb o e =>
 ⟨I.base.keep b o (I.ok.bs b o e).1 (I.ok.bs b o e).2 (I.ok.YZ e) (I.ok.nJ b o e),I.base.free b o (I.ok.bs b o e).1 (I.ok.bs b o e).2 (I.ok.nJ b o e)⟩
theorem Inv.bk(I:Inv X pins Z H s):∀b o,X.base.get? b=Y o->s.heap.get? b=Y o:=λb o e=>(I.bs b o e).1
theorem Inv.mod(I:Inv X pins Z H s):Mod X.K X.mg X.base:=I.ok.mod
theorem Inv.dW(I:Inv X pins Z H s):X.K.In s.heap:=I.ok.mod.fT.keeps I.bk
theorem Inv.lt(I:Inv X pins Z H s):X.env.locals<s.heap.objs.size:=let⟨_,hn,_⟩:=I.loc;hn.lt
theorem Inv.sz(I:Inv X pins Z H s):X.s₀.heap.objs.size<=s.heap.objs.size:=Q3 I.ok.above (SD I.lt)
theorem Inv.ED(I:Inv X pins Z H s) {a:J}(h:s.heap.objs.size<=a):a∉X.fs:=λhb=>by
 obtain⟨_,o,ho,_⟩:=I.ok.ir.mem hb;exact absurd (I8 (lu ho) (Q3 I.sz h)) (RQ _)
theorem Inv.oN(I:Inv X pins Z H s):∀x c,X.env.cells.lookup x=Y c->c≠X.env.locals:=λx c e z=>by
 obtain⟨v,o,ho,hd⟩:=I.cell x c e;obtain⟨m,⟨o',es,ep,ho',hd',_⟩,_⟩:=I.loc;rw[z,ho']at ho;cases ho;rw[hd']at hd;cases hd
theorem Inv.ir(I:Inv X pins Z H s):s.heap.FunFrames X.base X.outer:=by
 have all:∀(l:List Env),(∀b∈frs l,b∈X.fs)->X.s₀.heap.FunFrames X.base l->s.heap.FunFrames X.base l:=by
  intro l
  induction l with
  |nil=>intro _ _;trivial
  |cons env r ih =>
   intro hs hl;obtain⟨hk,⟨Δ,o,hf,hn,ho,hd⟩,hr⟩:=hl;have hL:Δ∈X.fs:=hs Δ (by unfold frs;rw[UX,hf];exact Rk)
   obtain⟨sl,e⟩:=I.base.slot Δ o ho (I.ok.kq Δ hL) hL λz=>I.ok.uh Δ z hL
   exact⟨hk,⟨Δ,_,hf,hn,e,hd⟩,ih (λb hb=>hs b (by unfold frs;rw[UX,hf];exact RP _ hb)) hr⟩
 exact all X.outer (λ_ hb=>hb) I.ok.ir
theorem Inv.stack(I:Inv X pins Z H s):s.heap.FunFrames X.base X.stack:=by
 rcases I.ok.stk with e|⟨e,hf⟩
 ·rw[e];exact I.ir
 ·rw[e];obtain⟨m,hn,_⟩:=I.loc;refine .cons (by rw[I.ok.kind];decide) hf hn ?_ I.ir
  exact Heap.get?_none_of_le (Q3 I.ok.iS I.ok.above)
theorem Inv.pP(I:Inv X pins Z H s):∀b∈frs X.stack,b∈X.env.locals::X.fs:=λb hb=>by
 rcases I.ok.stk with e|⟨e,hf⟩
 ·rw[e]at hb;exact RP _ hb
 ·rw[e]at hb;unfold frs at hb;rw[UX,hf]at hb;exact hb
theorem Inv.Di(I:Inv X pins Z H s):∀b∈frs X.stack,H b=O:=λb hb=>by
 rcases l8.mp (I.pP b hb)with e|hb
 ·rw[e];exact I.free
 ·obtain⟨_,o,ho,_⟩:=I.ok.ir.mem hb;exact I.base.free b o ho (I.ok.kq b hb) λz=>I.ok.uh b z hb
theorem Inv.step{g':Array GenState}{t':Nat}{d':Drawn}{ch:List J}(I:Inv X pins Z H s)
  (hch:∀b∈ch,(b∈X.ex\/X.s₀.heap.objs.size<=b)/\b≠X.env.locals/\(∀x c,X.env.cells.lookup x=Y c->c≠b)/\∀p∈X.pn++pins,p.1≠b)
  (keep:∀b o,b≠X.env.locals->b∉X.fs->b∉ch->s.heap.get? b=Y o->H b=O->h'.get? b=Y o)
  (slot:∀b o,b≠X.env.locals->b∈X.fs->b∉ch->s.heap.get? b=Y o->H b=O->∃sl,h'.get? b=Y {o with slots:=sl}) (free:∀b o,b∉ch->s.heap.get? b=Y o->H b=O->H' b=O)
  (there:∀b o,b∉ch->s.heap.get? b=Y o->∃o',h'.get? b=Y o')
  (tups:∀b xs,H b=Y (.tup xs)->H' b=Y (.tup xs)) (jh:∀b o u,H b=Y (.cN o u)->H' b=Y (.cN o u)) (jw:∀b ps,H b=Y (.cJ ps)->∃more,H' b=Y (.cJ (ps++more)))
  (ns:∀m,s.heap.Ns X.env.locals m->h'.Ns X.env.locals m) (hok:cL X.prog X.w H' h') (hg:Rz g') :
  Inv X pins Z H' {s with heap:=h',gens:=g',drawn:=d',toks:=t'}:=by
 have Nb:∀b o,X.s₀.heap.get? b=Y o->b≠X.env.locals:=λb o e=>AP (I8 (lu e) I.ok.above)
 have zE:∀b o,X.s₀.heap.get? b=Y o->b∉X.ex->b∉ch:=λb o e hx hb=>by
  rcases(hch b hb).1 with z|z
  ·exact hx z
  ·exact absurd (I8 (lu e) z) (RQ _)
 have cellK:∀x c,X.env.cells.lookup x=Y c->∀v,s.heap.IsCell c v->h'.IsCell c v:=λx c e v ⟨o,ho,hd⟩=>by
  have j8:c∉ch:=λz=>(hch c z).2.2.1 x c e rfl
  by_cases hc:c∈X.fs
  ·obtain⟨sl,q⟩:=slot c o (I.oN x c e) hc j8 ho (I.jj x c e);exact⟨_,q,hd⟩
  ·exact⟨o,keep c o (I.oN x c e) hc j8 ho (I.jj x c e),hd⟩
 refine⟨I.ok,I.os,hg,⟨λb o e n hb hx=>?_,λb o e n hb hx=>?_,λb o e n hx=>?_,λb o e hx=>?_,λb xs e=>tups b xs (I.base.tups b xs e),λb o xs e=>jh b o xs (I.base.jh b o xs e),λb ps e=>?_⟩,?_,λx c e=>?_,?_,λx c e=>?_,λp hp=>?_,hok,I.len⟩
 ·exact keep b o (Nb b o e) hb (zE b o e hx) (I.base.keep b o e n hb hx) (I.base.free b o e n hx)
 ·obtain⟨sl,e1⟩:=I.base.slot b o e n hb hx;obtain⟨aiI,e2⟩:=slot b _ (Nb b o e) hb (zE b o e hx) e1 (I.base.free b o e n hx);exact⟨aiI,e2⟩
 ·obtain⟨o',e1⟩:=I.base.there b o e hx;exact free b o' (zE b o e hx) e1 (I.base.free b o e n hx)
 ·obtain⟨o',e1⟩:=I.base.there b o e hx;exact there b o' (zE b o e hx) e1
 ·obtain⟨m1,e1⟩:=I.base.jw b ps e;obtain⟨m2,e2⟩:=jw b _ e1;exact⟨m1++m2,by rw[e2,Array.append_assoc]⟩
 ·obtain⟨m,hn,hl⟩:=I.loc;refine⟨m,ns m hn,λi x v e1 e2 e3=>?_⟩
  obtain⟨u,r,l⟩:=hl i x v e1 e2 e3;refine⟨u,r,?_⟩
  rcases l with l|⟨k,c,e,z⟩
  ·exact .inl l
  ·exact .inr ⟨k,c,e,cellK x c e _ z⟩
 ·obtain⟨v,z⟩:=I.cell x c e;exact⟨v,cellK x c e v z⟩
 ·obtain⟨m,⟨o,_,_,ho,_⟩,_⟩:=I.loc;exact free _ o (λz=>(hch _ z).2.1 rfl) ho I.free
 ·obtain⟨v,o,ho,hd⟩:=I.cell x c e;exact free c o (λz=>(hch c z).2.2.1 x c e rfl) ho (I.jj x c e)
 ·obtain⟨e,n,ne,nf,d⟩:=I.pin p hp;have j8:p.1∉ch:=λz=>(hch p.1 z).2.2.2 p hp rfl
  exact⟨keep p.1 p.2 ne nf j8 e n,free p.1 p.2 j8 e n,ne,nf,d⟩
theorem Inv.un{t':Nat}(I:Inv X pins Z H s) (u:Un X.fs [] H H' s.heap h') (hok:cL X.prog X.w H' h'):Inv X pins Z H' {s with heap:=h',toks:=t'}:=by
 obtain⟨m,⟨o,es,ep,ho,r⟩,_⟩:=id I.loc;obtain⟨sl,hL⟩:=u.any ho I.free (by simp)
 exact I.step (g':=s.gens) (d':=s.drawn) (ch:=[]) (λ_ z=>nomatch z) (λb o _ hb _ e n=>u.keep b o e n hb (by simp)) (λb o _ hb _ e n=>u.slot b o e n hb (by simp)) (λb o _ e n=>u.free b o e n (by simp)) (λb o _ e=>u.there b o e (by simp)) u.tups u.jh u.jw (λm' hm=>by
  obtain⟨o',es',Gk,ho',r'⟩:=hm;rw[ho]at ho';cases ho';exact⟨_,es',Gk,hL,r'⟩) hok I.bare
theorem Inv.call{g':Array GenState}{t':Nat}{d':Drawn}{ch:List J}(I:Inv X pins Z H s) (u:Un (frs X.stack) ch H H' s.heap h') (hok:cL X.prog X.w H' h') (hg:Rz g')
  (hch:∀b∈ch,(b∈X.ex\/X.s₀.heap.objs.size<=b)/\b≠X.env.locals/\(∀x c,X.env.cells.lookup x=Y c->c≠b)/\∀p∈X.pn++pins,p.1≠b) :
  Inv X pins Z H' {s with heap:=h',gens:=g',drawn:=d',toks:=t'}:=by
 obtain⟨m,⟨o,es,ep,ho,r⟩,_⟩:=id I.loc;obtain⟨sl,hL⟩:=u.any ho I.free λz=>(hch _ z).2.1 rfl
 exact I.step (ch:=ch) hch (λb o hL hb hc e n=>u.keep b o e n (λz=>(l8.mp (I.pP b z)).elim hL hb) hc) (λb o _ _ hc e n=>u.any e n hc) (λb o hc e n=>u.free b o e n hc) (λb o hc e=>u.there b o e hc) u.tups u.jh u.jw (λm' hm=>by
  obtain⟨o',es',Gk,ho',r'⟩:=hm;rw[ho]at ho';cases ho';exact⟨_,es',Gk,hL,r'⟩) hok hg
theorem Inv.turned{t':Nat}{it:J}(I:Inv X pins Z H s) (k:∀b o,b≠it->s.heap.get? b=Y o->h'.get? b=Y o) (hn:H it=O) (hL:it≠X.env.locals)
  (h1:it∈X.ex\/X.s₀.heap.objs.size<=it) (h2:∀x c,X.env.cells.lookup x=Y c->c≠it) (h3:∀p∈X.pn++pins,p.1≠it):Inv X pins Z H {s with heap:=h',toks:=t'}:=by
 have M6:∀b u,H b=Y u->b≠it:=λb u e z=>by rw[z,hn]at e;cases e
 refine I.step (g':=s.gens) (d':=s.drawn) (ch:=[it]) (λb hb=>?_) (λb o _ _ hc e _=>k b o (λz=>hc (by simp[z])) e) (λb o _ _ hc e _=>⟨o.slots,k b o (λz=>hc (by simp[z])) e⟩) (λ_ _ _ _ n=>n)
  (λb o hc e=>⟨o,k b o (λz=>hc (by simp[z])) e⟩) (λ_ _ e=>e) (λ_ _ _ e=>e) (λb ps e=>⟨#[],by rw[e];simp⟩) (λm hm=>?_) (λb u e=>?_) I.bare
 ·have e:b=it:=by simpa using hb
  subst e;exact⟨h1,hL,h2,h3⟩
 ·obtain⟨o,es,ep,ho,r⟩:=hm;exact⟨o,es,ep,k _ o (Q8 hL) ho,r⟩
 ·refine(I.hok b u e).stay (λc v hc q=>k c v ?_ q) (λ_ q=>q) λ_ _ q=>q
  rcases hc with z|z
  ·rw[z];exact M6 b u e
  ·exact M6 c _ z
theorem Inv.tok(I:Inv X pins Z H s) (t:Nat):Inv X pins Z H {s with toks:=t}:=I.un (h':=s.heap) (t':=t) Un.refl I.hok
theorem Inv.kept{t':Nat}(I:Inv X pins Z H s) (k:∀b u,s.heap.get? b=Y u->h'.get? b=Y u):Inv X pins Z H {s with heap:=h',toks:=t'}:=I.un (Un.kept k) (I.hok.kept k)
theorem Inv.laid{a:J}{o:HO}{t':Nat}(I:Inv X pins Z H s) (k:∀b u,s.heap.get? b=Y u->h'.get? b=Y u) (hp:s.heap.objs.size<=a) (new:d7 X.prog X.w (upd H a o) h' a o) :
  Inv X pins Z (upd H a o) {s with heap:=h',toks:=t'}:=I.un (Un.laid k hp (I.hok.fresh hp)) (I.hok.laid k hp new)
theorem Inv.write{x e:J}{o:HO}{t':Nat}(I:Inv X pins Z H s) (mu:yb (H x)) (he:e=x\/H e=Y (.own x)) (k:∀b u,b≠e->s.heap.get? b=Y u->h'.get? b=Y u) (t8:∃u,h'.get? e=Y u)
  (new:d7 X.prog X.w (upd H x o) h' x o):Inv X pins Z (upd H x o) {s with heap:=h',toks:=t'}:=I.un (Un.write mu he k t8) (I.hok.write mu he k t8 new)
theorem Inv.zg{DY:List (J×Obj)}(I:Inv X pins Z H s) (h:∀p∈DY,s.heap.get? p.1=Y p.2/\H p.1=O/\p.1≠X.env.locals/\p.1∉X.fs/\∀v,p.2.data≠.cell v):Inv X DY Z H s :=
 ⟨I.ok,I.os,I.bare,I.base,I.loc,I.cell,I.free,I.jj,λp hp=>(RO.mp hp).elim (λz=>I.pin p (WU _ z)) (h p),I.hok,I.len⟩
theorem MV{N:List Str}(hN:N.Nodup) {i j:Nat}{x:Str}(a:N[i]? = Y x) (b:N[j]? = Y x):i=j:=by
 obtain⟨h1,e1⟩:=Q7.mp a;obtain⟨h2,e2⟩:=Q7.mp b;exact(T8 hN).mp (e1.trans e2.symm)
theorem J9{M:Model}{A:ψ}{E:S->Ψ->Prop}{i:Nat}{x:Str}{v:V}{u:S}{Q:Unit->Ψ->Prop}(I:Inv X pins Z H s) (hN:X.N.Nodup) (hi:X.N[i]? = Y x) (hx:Loc X.env.scope x) (r:RelV v u)
  (h:∀s',Inv X pins (Z.set i (Y v)) H s'->(∃a,SE a s.heap s'.heap/\(a=X.env.locals\/X.env.cells.lookup x=Y a))->Q () s') (hf:X.fn x=L\/X.env.scope.names.lookup x=Y .local:=by first|exact .inl rfl|exact .inr rfl|assumption):wpAny M A (storeName X.env x u) Q E s:=by
 obtain⟨m,hn,hl⟩:=id I.loc;have hcls:(X.env.scope.kind == .class||(X.env.scope.kind == .module&&X.env.locals != X.env.globals))=G:=by rw[I.ok.kind];rfl
 have Ot:i<Z.length:=by rw[I.len];exact(Q7.mp hi).1
 have oN:=I.oN;have tracked:∀{a:J}{h':χ},(∃o,s.heap.get? a=Y o/\H a=O)->SE a s.heap h'->cL X.prog X.w H h':=fun{a h'} ha hs b ob e=>by
  obtain⟨_,_,hfree⟩:=ha;refine(I.hok b ob e).stay (λc w' hc q=>(hs.2 c ?_).trans q) (λ_ q=>q) λ_ _ q=>q
  rintro rfl
  rcases hc with rfl|hc
  ·rw[hfree]at e;cases e
  ·rw[hfree]at hc;cases hc
 rcases hx with hk|hk
 ·refine wpAny_storeName_local hk hn (λh' hn' hs=>?_) hcls
  obtain⟨oL,_,_,mj,_⟩:=id hn;refine h _ ⟨I.ok,I.os,I.bare,⟨λb o e n hb hx=>?_,λb o e n hb hx=>?_,I.base.free,λb o e hx=>?_,I.base.tups,I.base.jh,I.base.jw⟩,⟨_,hn',λj y v' e1 e2 e3=>?_⟩,λy c e=>?_,I.free,I.jj,λp hp=>?_,tracked ⟨oL,mj,I.free⟩ hs,by simpa using I.len⟩ ⟨_,hs,.inl rfl⟩
  ·exact(hs.2 b (AP (I8 (lu e) I.ok.above))).trans (I.base.keep b o e n hb hx)
  ·obtain⟨sl,e1⟩:=I.base.slot b o e n hb hx;exact⟨sl,(hs.2 b (AP (I8 (lu e) I.ok.above))).trans e1⟩
  ·obtain⟨o',e1⟩:=I.base.there b o e hx;exact⟨o',(hs.2 b (AP (I8 (lu e) I.ok.above))).trans e1⟩
  ·by_cases hj:j=i
   ·subst hj;rw[hi]at e1;cases e1;rw[SA Ot]at e2;cases e2;exact⟨u,r,.inl ⟨hk,by simp⟩⟩
   ·rw[Sn (Q8 hj)]at e2;obtain⟨u',r',q⟩:=hl j y v' e1 e2 e3;refine⟨u',r',?_⟩
    rcases q with⟨k,e⟩|⟨k,c,e,z⟩
    ·refine .inl ⟨k,?_⟩;have:y≠x:=λe=>hj (MV hN e1 (e▸hi))
     simp[this,e]
    ·exact .inr ⟨k,c,e,z.sameBut hs (oN y c e)⟩
  ·obtain⟨w',z⟩:=I.cell y c e;exact⟨w',z.sameBut hs (oN y c e)⟩
  ·obtain⟨e,n,ne,nf,d⟩:=I.pin p hp;exact⟨(hs.2 p.1 ne).trans e,n,ne,nf,d⟩
 ·have hfn:X.fn x=L:=by
   rcases hf with z|z
   ·exact z
   ·rw[z]at hk;cases hk
  obtain⟨c,hc⟩:=I.ok.has x (.inl hk);obtain⟨w',z⟩:=I.cell x c hc;refine wpAny_storeName_cell I.ok.kind hk hc z (λh' hc' hs=>?_)
  obtain⟨oc,hoc,abo⟩:=id z;refine h {s with heap:=h'} ⟨I.ok,I.os,I.bare,⟨λb o e n hb hx=>?_,λb o e n hb hx=>?_,I.base.free,λb o e hx=>?_,I.base.tups,I.base.jh,I.base.jw⟩,⟨m,hn.sameBut hs (Q8 (oN x c hc)),λj y v' e1 e2 e3=>?_⟩,λy c' e=>?_,I.free,I.jj,λp hp=>?_,tracked ⟨oc,hoc,I.jj x c hc⟩ hs,by simpa using I.len⟩ ⟨c,hs,.inr hc⟩
  ·exact(hs.2 b (AP (I8 (lu e) (I.ok.oO x c hfn hc)))).trans (I.base.keep b o e n hb hx)
  ·obtain⟨sl,e1⟩:=I.base.slot b o e n hb hx;exact⟨sl,(hs.2 b (AP (I8 (lu e) (I.ok.oO x c hfn hc)))).trans e1⟩
  ·obtain⟨o',e1⟩:=I.base.there b o e hx;exact⟨o',(hs.2 b (AP (I8 (lu e) (I.ok.oO x c hfn hc)))).trans e1⟩
  ·by_cases hj:j=i
   ·subst hj;rw[hi]at e1;cases e1;rw[SA Ot]at e2;cases e2;exact⟨u,r,.inr ⟨.inl hk,c,hc,hc'⟩⟩
   ·rw[Sn (Q8 hj)]at e2;obtain⟨u',r',q⟩:=hl j y v' e1 e2 e3;refine⟨u',r',?_⟩
    rcases q with q|⟨k,c',e,z'⟩
    ·exact .inl q
    ·refine .inr ⟨k,c',e,z'.sameBut hs ?_⟩
     rintro rfl
     exact hj (MV hN e1 (I.ok.inj _ _ _ e hc▸hi))
  ·by_cases hcc:c'=c
   ·subst hcc;exact⟨_,hc'⟩
   ·obtain⟨w2,z2⟩:=I.cell y c' e;exact⟨w2,z2.sameBut hs hcc⟩
  ·obtain⟨e,n,ne,nf,d⟩:=I.pin p hp;refine⟨(hs.2 p.1 ?_).trans e,n,ne,nf,d⟩;intro q;rw[q,hoc]at e;have q':oc=p.2:=Q4 e;exact d w' (by rw[<-q'];exact abo)
theorem Ka{M:Model}{A:ψ}{E:S->Ψ->Prop}{i:Nat}{x:Str}{v:V}{u:S}{Q:Unit->Ψ->Prop}(I:Inv X pins Z H s) (hN:X.N.Nodup) (hi:X.N[i]? = Y x) (hx:Loc X.env.scope x) (r:RelV v u)
  (h:∀s',Inv X pins (Z.set i (Y v)) H s'->Q () s') (hf:X.fn x=L\/X.env.scope.names.lookup x=Y .local:=by first|exact .inl rfl|exact .inr rfl|assumption):wpAny M A (storeName X.env x u) Q E s :=
 J9 I hN hi hx r (λs' I' _=>h s' I') hf
theorem Inv.GH{s':Ψ}{ch:List J}(I:Inv X pins Z H s) (ho:s'.os=s.os) (u:Un (frs X.stack) ch H H' s.heap s'.heap) (hok:cL X.prog X.w H' s'.heap) (hg:Rz s'.gens)
  (hch:∀b∈ch,(b∈X.ex\/X.s₀.heap.objs.size<=b)/\b≠X.env.locals/\(∀x c,X.env.cells.lookup x=Y c->c≠b)/\∀p∈X.pn++pins,p.1≠b):Inv X pins Z H' s':=by
 obtain⟨h',g',d',t',o'⟩:=s';have e:o'=s.os:=ho;subst e;exact I.call (g':=g') (t':=t') (d':=d') u hok hg hch
end
abbrev XK:=S->Option J->Hp->Prop
abbrev St:=List (Option V)
abbrev VK:=V->Hp->Prop
abbrev TE:=St->Hp->VK->Prop
abbrev TT:=St->Hp->(Bool->Hp->Prop)->Prop
abbrev TA:=St->Hp->(List V->Hp->Prop)->Prop
structure Ends where
 nx:St->Hp->Prop
 rt:VK
 bk:St->Hp->Prop:=λ_ _=>False
 ct:St->Hp->Prop:=λ_ _=>False
abbrev TS:=Ends->St->Hp->Prop
def EP(X:Cx) (pins:List (J×Obj)) (Z:St) (Q:VK) (u:S) (s':Ψ):Prop:=∃v H',Inv X pins Z H' s'/\RelV v u/\Q v H'
def TP(X:Cx) (pins:List (J×Obj)) (Z:St) (Q:Bool->Hp->Prop) (b:Bool) (s':Ψ):Prop:=∃H',Inv X pins Z H' s'/\Q b H'
def agG(X:Cx) (pins:List (J×Obj)) (Z:St) (Q:List V->Hp->Prop) (us:List S) (s':Ψ):Prop:=∃vs H',Inv X pins Z H' s'/\Vals vs us/\Q vs H'
def SP(X:Cx) (pins:List (J×Obj)) (D:Ends) (f:Flow) (s':Ψ):Prop :=
 match f with
 |.next=>∃σ' H',Inv X pins σ' H' s'/\D.nx σ' H'
 |.brk=>∃σ' H',Inv X pins σ' H' s'/\D.bk σ' H'
 |.cont=>∃σ' H',Inv X pins σ' H' s'/\D.ct σ' H'
 |.ret u=>∃v σ' H',Inv X pins σ' H' s'/\RelV v u/\D.rt v H'
def PE(X:Cx) (e:ν) (t:TE):Prop :=
 ∀(pins:List (J×Obj)) (s:Ψ) (Z:St) (H:Hp) (Q:VK),Inv X pins Z H s->t Z H Q->wpAny (model X.prog X.w) X.A (eval e X.env) (EP X pins Z Q) X.xe s
def PT(X:Cx) (e:ν) (t:TT):Prop :=
 ∀(pins:List (J×Obj)) (s:Ψ) (Z:St) (H:Hp) (Q:Bool->Hp->Prop),Inv X pins Z H s->t Z H Q->wpAny (model X.prog X.w) X.A (isTrue e X.env (eval e X.env)) (TP X pins Z Q) X.xe s
def PW(X:Cx) (e:ν) (t:TT):Prop :=
 ∀(whole:Sem S) (pins:List (J×Obj)) (s:Ψ) (Z:St) (H:Hp) (Q:Bool->Hp->Prop),Inv X pins Z H s->t Z H Q->wpAny (model X.prog X.w) X.A (isTrue e X.env whole) (TP X pins Z Q) X.xe s
theorem PW.pt{X:Cx}{e:ν}{t:TT}(h:PW X e t):PT X e t:=h _
def PA(X:Cx) (es:List ν) (t:TA):Prop :=
 ∀(pos:Pos) (pins:List (J×Obj)) (s:Ψ) (Z:St) (H:Hp) (Q:List V->Hp->Prop),Inv X pins Z H s->t Z H Q->wpAny (model X.prog X.w) X.A (spliced (ω pos (ε es X.env))) (agG X pins Z Q) X.xe s
def PS(X:Cx) (st:υ) (t:TS):Prop :=
 ∀(pins:List (J×Obj)) (s:Ψ) (Z:St) (H:Hp) (D:Ends),Inv X pins Z H s->t D Z H->wpAny (model X.prog X.w) X.A (exec st X.env) (SP X pins D) X.xe s
def gm(X:Cx) (st:List υ) (t:TS):Prop :=
 ∀(pins:List (J×Obj)) (s:Ψ) (Z:St) (H:Hp) (D:Ends),Inv X pins Z H s->t D Z H->wpAny (model X.prog X.w) X.A (execs st X.env) (SP X pins D) X.xe s
theorem aZ{α:Type}{t:Sem α}{Q Q':α->Ψ->Prop}{M:Model}{A:ψ}{E:S->Ψ->Prop}{s:Ψ}(h:wpAny M A t Q E s) (hQ:∀a s,Q a s->Q' a s):wpAny M A t Q' E s:=QW h hQ λ_ _ x=>x
section
variable {X:Cx}
def jY(i:Nat):TE:=λZ H Q=>∃v,Z[i]? = Y (Y v)/\Q v H
def tC(v:V):TE:=λ_ H Q=>Q v H
theorem D4{i:Nat}{x:Str}{pos:Pos}(hN:X.N[i]? = Y x) (hv:ya X.env.scope x) (hd:(x==("__debug__":Str))=G:=by decide) (hcd:(x==("__classdict__":Str))=G:=by decide):PE X (.Name x pos) (jY i):=by
 intro pins s Z H Q I h;obtain⟨v,e,h⟩:=h;obtain⟨m,hn,hl⟩:=I.loc;obtain⟨u,r,l⟩:=hl i x v hN e hv;have fin:EP X pins Z Q u s:=⟨v,H,I,r,h⟩
 rcases l with⟨hk,hm⟩|⟨hk,c,hc,hcell⟩
 ·exact wpAny_Name (wpAny_loadName_local I.ok.kind hk hn hm fin) hd
 ·rcases hk with hk|hk
  ·exact wpAny_Name (wpAny_loadName_cell I.ok.kind hk hc hcell fin) hd
  ·exact wpAny_Name (wpAny_loadName_free I.ok.kind hk hc hcell fin hcd) hd
theorem D6{i j pos}:PE X (.Constant (.int i) j pos) (tC (.int i)):=λ_ _ _ H _ I h=>wpAny_Constant_int ⟨.int i,H,I.tok _,⟨_,rfl⟩,h⟩
theorem D9{b j pos}:PE X (.Constant (.bool b) j pos) (tC (.bl b)):=λ_ _ _ H _ I h=>Constant_bool ⟨.bl b,H,I,rfl,h⟩
theorem Wu{j pos}:PE X (.Constant .none j pos) (tC .aE):=λ_ _ _ H _ I h=>Constant_none ⟨.aE,H,I,rfl,h⟩
theorem Wq{x j pos}:PE X (.Constant (.str x) j pos) (tC (.str x)):=λ_ _ _ H _ I h=>Calls.Constant_str ⟨.str x,H,I.tok _,⟨_,rfl⟩,h⟩
def Gl(X:Cx) (x:Str):Prop:=X.env.kindOf x=Y .globalImplicit
theorem zR{E:S->Ψ->Prop}{pins:List (J×Obj)}{s:Ψ}{Z:St}{H:Hp}{x:Str}{u:S}{pos:Pos}{Q:S->Ψ->Prop}(I:Inv X pins Z H s) (hg:Gl X x) (hm:X.mg x=Y u) (h:Q u s)
  (hd:(x==("__debug__":Str))=G:=by decide):wpAny (model X.prog X.w) X.A (eval (.Name x pos) X.env) Q E s :=
 WT I.ok.kind hg (Calls.loadGlobal_global (by rw[I.ok.glob];exact I.mod.glob.keeps I.bk) hm h) hd
theorem tR{E:S->Ψ->Prop}{pins:List (J×Obj)}{s:Ψ}{Z:St}{H:Hp}{x:Str}{u:S}{pos:Pos}{Q:S->Ψ->Prop}(I:Inv X pins Z H s) (hg:Gl X x) (hm:X.mg x=O) (hv:bootBuiltins x=Y u) (h:Q u s)
  (hn:x≠"__name__":=by decide) (hd:(x==("__debug__":Str))=G:=by decide):wpAny (model X.prog X.w) X.A (eval (.Name x pos) X.env) Q E s:=by
 obtain⟨mb,h1,h2⟩:=I.mod.blt;exact WT I.ok.kind hg (Calls.loadGlobal_builtin (by rw[I.ok.glob];exact I.mod.glob.keeps I.bk) hm (by rw[I.ok.blt];exact h1.keeps I.bk) ((h2 x hn).trans hv) h) hd
theorem zk{x:Str}{v:V}{u:S}{pos:Pos}(hg:Gl X x) (hm:X.mg x=Y u) (r:RelV v u) (hd:(x==("__debug__":Str))=G:=by decide):PE X (.Name x pos) (tC v) :=
 λ_ _ _ H _ I h=>zR I hg hm ⟨v,H,I,r,h⟩ hd
theorem ak2{x:Str}{v:V}{u:S}{pos:Pos}(hg:Gl X x) (hm:X.mg x=O) (hv:bootBuiltins x=Y u) (r:RelV v u) (hn:x≠"__name__":=by decide) (hd:(x==("__debug__":Str))=G:=by decide):PE X (.Name x pos) (tC v) :=
 λ_ _ _ H _ I h=>tR I hg hm hv ⟨v,H,I,r,h⟩ hn hd
variable {a b:ν}{ta tb:TE}{pos:Pos}
def tB(t:TE):TT:=λZ H Q=>t Z H λx H1=>∃c,x=.bl c/\Q c H1
theorem abB{e:ν}{t:TE}(h:PE X e t) (he:∀whole,isTrue e X.env whole=(do let v <-whole;standAt e.pos;holding [v] (truthy v)):=by intro _;rfl):PT X e (tB t):=by
 intro pins s Z H Q I hw;refine isTrue_plain (aZ (h pins s Z H _ I hw) λv s1 ⟨x,H1,I1,r1,q1⟩=>?_) (he _)
 obtain⟨d,rfl,q⟩:=q1;cases r1;exact Ry ⟨H1,I1,q⟩
variable {tA yN:TT}{rest:List ν}
def ahR(t u:TT):TT:=λZ H Q=>t Z H λc H1=>if c=L then u Z H1 Q else Q G H1
def ahZ(t u:TT):TT:=λZ H Q=>t Z H λc H1=>if c=L then Q L H1 else u Z H1 Q
def ahX(t:TT):TT:=λZ H Q=>t Z H λc H1=>Q (!c) H1
theorem akL(ha:PT X a tA):PW X (.BoolOp .And [a] pos) tA:=by
 intro wh pins s Z H Q I h;refine isTrue_and (aZ (ha pins s Z H Q I h) λc s1 e=>?_)
 cases c with
 |true=>exact isTrue_and_nil e
 |false=>exact e
theorem akN(ha:PT X a tA):PW X (.BoolOp .Or [a] pos) tA:=by
 intro wh pins s Z H Q I h;refine isTrue_or (aZ (ha pins s Z H Q I h) λc s1 e=>?_)
 cases c with
 |false=>exact isTrue_or_nil e
 |true=>exact e
theorem akK(ha:PT X a tA) (hb:PW X (.BoolOp .And (b::rest) pos) yN):PW X (.BoolOp .And (a::b::rest) pos) (ahR tA yN):=by
 intro wh pins s Z H Q I h;refine isTrue_and (aZ (ha pins s Z H _ I h) λc s1 ⟨H1,I1,q1⟩=>?_)
 cases c with
 |true=>exact hb wh pins s1 Z H1 Q I1 q1
 |false=>exact⟨H1,I1,q1⟩
theorem akM(ha:PT X a tA) (hb:PW X (.BoolOp .Or (b::rest) pos) yN):PW X (.BoolOp .Or (a::b::rest) pos) (ahZ tA yN):=by
 intro wh pins s Z H Q I h;refine isTrue_or (aZ (ha pins s Z H _ I h) λc s1 ⟨H1,I1,q1⟩=>?_)
 cases c with
 |true=>exact⟨H1,I1,q1⟩
 |false=>exact hb wh pins s1 Z H1 Q I1 q1
theorem alb(ha:PT X a tA):PT X (.UnaryOp .Not a pos) (ahX tA):=by
 intro pins s Z H Q I h;exact isTrue_not (ha pins s Z H (λc H1=>Q (!c) H1) I h)
def ahS(ta tb:TE):TE:=λZ H Q=>ta Z H λx H1=>∃c,x=.bl c/\if c=L then tb Z H1 Q else Q (.bl G) H1
def ahY(ta:TE):TE:=λZ H Q=>ta Z H λx H1=>∃c,x=.bl c/\Q (.bl (!c)) H1
theorem Ws{op}{t:TE}(h:PE X a t):PE X (.BoolOp op [a] pos) t:=λpins s Z H Q I hw=>BoolOp_one (h pins s Z H Q I hw)
theorem ak1(ha:PE X a ta) (hb:PE X (.BoolOp .And (b::rest) pos) tb):PE X (.BoolOp .And (a::b::rest) pos) (ahS ta tb):=by
 intro pins s Z H Q I h;refine BoolOp_and (aZ (ha pins s Z H _ I h) λv s1 ⟨x,H1,I1,r1,q1⟩=>?_)
 obtain⟨c,rfl,q1⟩:=q1;cases r1;refine Ry ?_;cases c with
 |true=>exact hb pins s1 Z H1 Q I1 q1
 |false=>exact⟨.bl G,H1,I1,rfl,q1⟩
theorem Wt(ha:PE X a ta):PE X (.UnaryOp .Not a pos) (ahY ta):=by
 intro pins s Z H Q I h;refine UnaryOp_ (aZ (ha pins s Z H _ I h) λv s1 ⟨x,H1,I1,r1,q1⟩=>?_)
 obtain⟨c,rfl,q1⟩:=q1;cases r1;exact not_of (Ry ⟨.bl (!c),H1,I1,rfl,q1⟩)
def aim(t:TT) (ta tb:TE):TE:=λZ H Q=>t Z H λc H1=>if c=L then ta Z H1 Q else tb Z H1 Q
theorem Wx{c:ν}(hc:PT X c tA) (ha:PE X a ta) (hb:PE X b tb):PE X (.IfExp c a b pos) (aim tA ta tb):=by
 intro pins s Z H Q I h;refine wpAny_IfExp (aZ (hc pins s Z H _ I h) λd s1 ⟨H1,I1,q1⟩=>?_)
 cases d with
 |true=>exact ha pins s1 Z H1 Q I1 q1
 |false=>exact hb pins s1 Z H1 Q I1 q1
end
def bN(K:θ) (H:Hp) (a:J) (xs:List V):Prop :=
 Rd H a (.lst xs) \/
  ∃(o:Obj) (its:Array S) (n:Nat),K.lookup a=Y o/\o.cls=.type "list"/\o.dict=O/\o.data=.seq its n/\its.size<=Ξ/\Vals xs its.toList
def ck(K:θ) (H:Hp) (a:J) (xs:List V):Prop :=
 Rd H a (.tup xs) \/
  ∃(o:Obj) (its:Array S) (n:Nat),K.lookup a=Y o/\o.cls=.type "tuple"/\o.data=.seq its n/\its.size<=Ξ/\Vals xs its.toList
def ael:S->Option V
 |.none=>Y .aE
 |.bool b=>Y (.bl b)
 |.int i _=>Y (.int i)
 |.str x _=>Y (.str x)
 |.bytes b _=>Y (.iR b)
 |.float b _=>Y (.qE b)
 |.ref a=>Y (.ref a)
 |.type n=>Y (.ty n)
 |_=>O
theorem RelV.abs{x:V}{u:S}(r:RelV x u):ael u=Y x:=by
 cases x with
 |aE=>cases r;rfl
 |bl _=>cases r;rfl
 |int _=>obtain⟨t,rfl⟩:=r;rfl
 |str _=>obtain⟨t,rfl⟩:=r;rfl
 |iR _=>obtain⟨t,rfl⟩:=r;rfl
 |qE _=>obtain⟨t,rfl⟩:=r;rfl
 |ref _=>cases r;rfl
 |ty _=>cases r;rfl
theorem RelV.inj{x y:V}{u:S}(r:RelV x u) (q:RelV y u):x=y:=Q4 (r.abs.symm.trans q.abs)
theorem Vals.inj:∀{xs ys:List V}{us:List S},Vals xs us->Vals ys us->xs=ys
 |_,_,_,.nil,.nil=>rfl
 |_,_,_,.cons r t,.cons r' t'=>by rw[r.inj r',Vals.inj t t']
section
variable {X:Cx}{pins:List (J×Obj)}{Z:St}{H:Hp}{s:Ψ}{a:J}{xs ys:List V}
theorem bN.of{K:θ}(h:H a=Y (.lst xs)):bN K H a xs:=.inl (.inl h)
theorem ck.of{K:θ}(h:H a=Y (.tup xs)):ck K H a xs:=.inl (.inl h)
theorem Inv.list(I:Inv X pins Z H s) (h:bN X.K H a xs):∃its:List S,Vals xs its/\PlainL s.heap a its.toArray/\xs.length<=Ξ:=by
 rcases h with h|⟨o,its,n,hk,hc,hd,hs,hz,r⟩
 ·obtain⟨z,its,n,r,e⟩:=h.ok I.hok;exact⟨its,r,⟨_,n,e,rfl,rfl,rfl⟩,z⟩
 ·refine⟨its.toList,r,⟨o,n,I.dW a o hk,hc,hd,by simpa using hs⟩,?_⟩
  have e:=r.length;simp only[R1]at e;omega
theorem Inv.tuple(I:Inv X pins Z H s) (h:ck X.K H a xs):∃its:List S,Vals xs its/\IsTup s.heap a its.toArray/\xs.length<=Ξ:=by
 rcases h with h|⟨o,its,n,hk,hc,hs,hz,r⟩
 ·obtain⟨z,its,r,p⟩:=h.ok I.hok;exact⟨its,r,p.tup,z⟩
 ·refine⟨its.toList,r,⟨o,I.dW a o hk,hc,n,by simpa using hs⟩,?_⟩
  have e:=r.length;simp only[R1]at e;omega
theorem Inv.ZT(I:Inv X pins Z H s) (h:bN X.K H a xs) (h':bN X.K H a ys):xs=ys:=by
 obtain⟨its,r,⟨o,n,e,_,_,d⟩,_⟩:=I.list h;obtain⟨its',r',⟨o',n',e',_,_,d'⟩,_⟩:=I.list h';rw[e]at e';cases e';rw[d]at d'
 injection d' with d1 _
 have:its=its':=by simpa using congrArg Array.toList d1
 subst this;exact r.inj r'
theorem Inv.JA(I:Inv X pins Z H s) (h:ck X.K H a xs) (h':ck X.K H a ys):xs=ys:=by
 obtain⟨its,r,⟨o,e,_,n,d⟩,_⟩:=I.tuple h;obtain⟨its',r',⟨o',e',_,n',d'⟩,_⟩:=I.tuple h';rw[e]at e';cases e';rw[d]at d'
 injection d' with d1 _
 have:its=its':=by simpa using congrArg Array.toList d1
 subst this;exact r.inj r'
end
abbrev Cx.jW(X:Cx) (E:S->Ψ->Prop):Cx:={X with xe:=E}
abbrev Cx.iO(X:Cx):Cx:=X.jW λ_ _=>False
theorem Cx.Ok.jW{X:Cx}(ok:X.Ok) (E:S->Ψ->Prop):(X.jW E).Ok :=
 ⟨ok.mod,ok.kind,ok.glob,ok.blt,ok.above,ok.inj,ok.has,ok.oO,ok.hd,ok.frames,ok.stk,ok.xh,ok.bs,ok.iS,ok.nJ,ok.uh,ok.ir,ok.kq⟩
theorem Cx.Ok.lN{X:Cx}{E:S->Ψ->Prop}(ok:(X.jW E).Ok):X.Ok :=
 ⟨ok.mod,ok.kind,ok.glob,ok.blt,ok.above,ok.inj,ok.has,ok.oO,ok.hd,ok.frames,ok.stk,ok.xh,ok.bs,ok.iS,ok.nJ,ok.uh,ok.ir,ok.kq⟩
section
variable {X:Cx}{pins:List (J×Obj)}{Z:St}{H:Hp}{s:Ψ}{E:S->Ψ->Prop}
theorem Inv.jW(I:Inv X pins Z H s) (E:S->Ψ->Prop):Inv (X.jW E) pins Z H s:=⟨I.ok.jW E,I.os,I.bare,I.base,I.loc,I.cell,I.free,I.jj,I.pin,I.hok,I.len⟩
theorem Inv.lN(I:Inv (X.jW E) pins Z H s):Inv X pins Z H s:=⟨I.ok.lN,I.os,I.bare,I.base,I.loc,I.cell,I.free,I.jj,I.pin,I.hok,I.len⟩
theorem SP.lN{D:Ends}{f:Flow}{s':Ψ}(h:SP (X.jW E) pins D f s'):SP X pins D f s':=by
 cases f with
 |next=>obtain⟨σ',H',I,q⟩:=h;exact⟨σ',H',I.lN,q⟩
 |brk=>obtain⟨σ',H',I,q⟩:=h;exact⟨σ',H',I.lN,q⟩
 |cont=>obtain⟨σ',H',I,q⟩:=h;exact⟨σ',H',I.lN,q⟩
 |ret u=>obtain⟨v,σ',H',I,r,q⟩:=h;exact⟨v,σ',H',I.lN,r,q⟩
theorem gm.iO{st:List υ}{t:TS}(h:gm X.iO st t):gm X st t:=λpins s Z H D I hw =>
 QW (h pins s Z H D (I.jW _) hw) (λ_ _ q=>q.lN) λ_ _ z=>False.elim z
end
section
variable {X:Cx}{st:υ}{rest:List υ}{t u:TS}{e:ν}{te:TE}{pos:Pos}
def ah3:TS:=λD Z H=>D.nx Z H
def Dc(t u:TS):TS:=λD Z H=>t {D with nx:=u D} Z H
theorem aky:gm X [] ah3:=λ_ _ Z H _ I h=>Tv ⟨Z,H,I,h⟩
theorem vD(h1:PS X st t) (h2:gm X rest u):gm X (st::rest) (Dc t u):=by
 intro pins s Z H D I h;refine wpAny_execs_cons (aZ (h1 pins s Z H {D with nx:=u D} I h) λf s1 q=>?_)
 cases f with
 |next =>
  obtain⟨σ',H',I',q⟩:=q;exact h2 pins s1 σ' H' D I' q
 |ret v=>exact q
 |brk=>exact q
 |cont=>exact q
theorem zd(h1:PS X st t):gm X [st] t:=by
 intro pins s Z H D I h;refine wpAny_execs_cons (aZ (h1 pins s Z H D I h) λf s1 q=>?_)
 cases f with
 |next=>exact Tv q
 |ret v=>exact q
 |brk=>exact q
 |cont=>exact q
theorem Inv.quiet{pins:List (J×Obj)}{Z:St}{H:Hp}{s:Ψ}(I:Inv X pins Z H s):interactive X.env=G:=by simp[interactive,I.ok.kind]
def aij(te:TE):TS:=λD Z H=>te Z H λ_ H1=>D.nx Z H1
theorem akt(he:PE X e te) (hs:swapsWith e O pos.line X.env=pure G:=by rfl):PS X (.Expr e pos) (aij te):=by
 intro pins s Z H D I h;exact wpAny_Expr_any (aZ (he pins s Z H _ I h) λv s1 ⟨x,H1,I1,r1,q1⟩=>⟨Z,H1,I1,q1⟩) I.quiet hs
def abF(te:TE):TS:=λD Z H=>te Z H D.rt
theorem akv(he:PE X e te):PS X (.Return (Y e) pos) (abF te):=by
 intro pins s Z H D I h;exact wpAny_Return_some (aZ (he pins s Z H _ I h) λv s1 ⟨x,H1,I1,r1,q1⟩=>⟨x,Z,H1,I1,r1,q1⟩)
def abv(c:TT) (t u:TS):TS:=λD Z H=>c Z H λb H1=>if b=L then t D Z H1 else u D Z H1
theorem aku{c:ν}{a b:List υ}{tc:TT}(hc:PT X c tc) (ha:gm X a t) (hb:gm X b u):PS X (.If c a b pos) (abv tc t u):=by
 intro pins s Z H D I h;refine wpAny_If (aZ (hc pins s Z H _ I h) λd s1 ⟨H1,I1,q1⟩=>?_)
 cases d with
 |true=>exact ha pins s1 Z H1 D I1 q1
 |false=>exact hb pins s1 Z H1 D I1 q1
end
abbrev TG:=V->St->Hp->(St->Hp->Prop)->Prop
abbrev mP:=List V->St->Hp->(St->Hp->Prop)->Prop
def PG(X:Cx) (target:ν) (t:TG):Prop :=
 ∀(pins:List (J×Obj)) (s:Ψ) (Z:St) (H:Hp) (v:V) (u:S) (Q:St->Hp->Prop),Inv X pins Z H s->RelV v u->t v Z H Q ->
  wpAny (model X.prog X.w) X.A (assign target X.env u) (λ_ s'=>∃σ' H',Inv X pins σ' H' s'/\Q σ' H') X.xe s
def o5(X:Cx) (ts:List ν) (t:mP):Prop :=
 ∀(pins:List (J×Obj)) (s:Ψ) (Z:St) (H:Hp) (vs:List V) (us:List S) (Q:St->Hp->Prop),Inv X pins Z H s->Vals vs us->t vs Z H Q ->
  wpAny (model X.prog X.w) X.A (assignInOrder ((assignEach ts X.env).map (·.2)) us) (λ_ s'=>∃σ' H',Inv X pins σ' H' s'/\Q σ' H') X.xe s
abbrev IC:=V->V->V->Hp->(Hp->Prop)->Prop
def QE(X:Cx) (t:IC):Prop :=
 ∀(pins:List (J×Obj)) (s:Ψ) (Z:St) (H:Hp) (o i v:V) (ov iv u:S) (Q:Hp->Prop),Inv X pins Z H s->RelV o ov->RelV i iv->RelV v u->t o i v H Q ->
  wpAny (model X.prog X.w) X.A (setItem ov iv u) (λ_ s'=>∃H',Inv X pins Z H' s'/\Q H') X.xe s
section
variable {X:Cx}{pos:Pos}
def Ae(i:Nat):TG:=λv Z H Q=>Q (Z.set i (Y v)) H
theorem L1{i:Nat}{x:Str}(hN:X.N.Nodup) (hi:X.N[i]? = Y x) (hx:Loc X.env.scope x) (hf:X.fn x=L\/X.env.scope.names.lookup x=Y .local:=by first|exact .inl rfl|exact .inr rfl|assumption):PG X (.Name x pos) (Ae i):=by
 intro pins s Z H v u Q I r h;exact wpAny_assign_Name (Ka I hN hi hx r (λs' I'=>⟨_,H,I',h⟩) hf)
def acq:mP:=λvs Z H Q=>vs=[]/\Q Z H
def acr(t:TG) (u:mP):mP:=λvs Z H Q=>∃v r,vs=v::r/\t v Z H λσ' H'=>u r σ' H' Q
theorem Wj:o5 X [] acq:=by
 intro pins s Z H vs us Q I r h;obtain⟨e,h⟩:=h;subst e;cases r;exact assignInOrder_nil ⟨Z,H,I,h⟩
theorem Wl{e:ν}{es:List ν}{t:TG}{u:mP}(h1:PG X e t) (h2:o5 X es u)
  (hs:(assignEach (e::es) X.env).map (·.2)=assign e X.env::(assignEach es X.env).map (·.2):=by rfl):o5 X (e::es) (acr t u):=by
 intro pins s Z H vs us Q I r h;obtain⟨v,vr,e1,h⟩:=h;subst e1;cases r with
 |cons r rr =>
  rw[hs];refine assignInOrder_cons (aZ (h1 pins s Z H _ _ _ I r h) λ_ s1 ⟨σ1,H1,I1,q1⟩=>?_)
  exact h2 pins s1 σ1 H1 _ _ Q I1 rr q1
def aco(K:θ) (n:Nat) (t:mP):TG:=λv Z H Q=>∃a xs,v=.ref a/\ck K H a xs/\xs.length=n/\t xs Z H Q
theorem Wm{es:List ν}{k:Nat}{t:mP}{n:Nat}(hc:X.calm=L) (h:o5 X es t)
  (hn:(assignEach es X.env).length=n:=by rfl) (hst:(assignEach es X.env).findIdx? (·.1)=O:=by rfl):PG X (.Tuple es k pos) (aco X.K n t):=by
 intro pins s Z H v u Q I r hw;obtain⟨a,xs,e1,hq,hl,hw⟩:=hw;subst e1;cases r;obtain⟨its,rv,ht,hz⟩:=I.tuple hq;refine assign_Tuple_tuple (I.ok.hd hc) ht (by simp[hn,<-hl,rv.length]) hst λh' hx=>?_
 have I1:Inv X pins Z H {s with heap:=h'}:=I.kept (t':=s.toks) λb o e=>hx b o (AP (lu e)) e
 exact h pins _ Z H xs _ Q I1 (by simpa using rv) hw
def acp(to ti:TE) (t:IC):TG:=λv Z H Q=>to Z H λo H1=>ti Z H1 λi H2=>t o i v H2 λH3=>Q Z H3
theorem Wn{o i:ν}{to ti:TE}{t:IC}(ho:PE X o to) (hi:PE X i ti) (hs:QE X t)
  (ha:∀v,assign (.Subscript o i pos) X.env v=(do
   let ov <-holding [v] (eval o X.env)
   let iv <-holding [v,ov] (eval i X.env)
   standAt pos
   holding [v,ov,iv] (setItem ov iv v)
   release [v,ov,iv] []):=by intro _;rfl):PG X (.Subscript o i pos) (acp to ti t):=by
 intro pins s Z H v u Q I r h;rw[ha];refine Rc (Rj (aZ (ho pins s Z H _ I h) λov s1 ⟨x,H1,I1,r1,q1⟩=>?_))
 refine Rc (Rj (aZ (hi pins s1 Z H1 _ I1 q1) λiv s2 ⟨y,H2,I2,r2,q2⟩=>?_))
 refine Rc (UW (Rc (Rj (aZ (hs pins s2 Z H2 x y v ov iv u _ I2 r1 r2 r q2) λ_ s3 ⟨H3,I3,q3⟩=>?_))))
 exact wpAny_release ⟨Z,H3,I3,q3⟩
def Dg(te:TE) (g:TG):TS:=λD Z H=>te Z H λx H1=>g x Z H1 D.nx
theorem aks{tg e:ν}{te:TE}{g:TG}(he:PE X e te) (hg:PG X tg g) (hs:swapsWithSole [tg] e pos.line X.env=pure G:=by rfl) (hw:swappedStores [tg] e X.env=pure O:=by rfl)
  (h1:(assignEach [tg] X.env).map (·.2)=[assign tg X.env]:=by rfl):PS X (.Assign [tg] e pos) (Dg te g):=by
 intro pins s Z H D I h;refine wpAny_Assign_stores (aZ (he pins s Z H _ I h) λv s1 ⟨x,H1,I1,r1,q1⟩=>?_) hs hw
 rw[h1];exact aZ (hg pins s1 Z H1 x v _ I1 r1 q1) λ_ s2 q=>q
theorem LO{i:Nat}{x:Str}{e:ν}{te:TE}{pos':Pos}(hN:X.N.Nodup) (hi:X.N[i]? = Y x) (hx:Loc X.env.scope x) (he:PE X e te) (hs:swapsWith e (Y (.Name x pos')) pos.line X.env=pure G:=by rfl) (hf:X.fn x=L\/X.env.scope.names.lookup x=Y .local:=by first|exact .inl rfl|exact .inr rfl|assumption) :
  PS X (.Assign [.Name x pos'] e pos) (Dg te (Ae i)):=by
 intro pins s Z H D I h;refine wpAny_Assign_Name (aZ (he pins s Z H _ I h) λv s1 ⟨y,H1,I1,r1,q1⟩=>?_) hs
 exact Ka I1 hN hi hx r1 (λs2 I2=>⟨_,H1,I2,q1⟩) hf
end
structure It where
 go:Nat->Hp->Prop
 rK:Nat->Hp->V->Hp->Prop
 stop:Nat->Hp->Prop
def iz(X:Cx) (pins:List (J×Obj)) (H:Hp) (b:J):Prop :=
 H b=O/\b≠X.env.locals/\b∉X.fs/\(b∈X.ex\/X.s₀.heap.objs.size<=b)/\(∀x c,X.env.cells.lookup x=Y c->c≠b)/\∀p∈X.pn++pins,p.1≠b
theorem Inv.wV{X:Cx}{pins:List (J×Obj)}{Z:St}{H H':Hp}{s:Ψ}{b:J}(I:Inv X pins Z H s) (hb:s.heap.objs.size<=b) (hn:H' b=O):iz X pins H' b:=by
 refine⟨hn,Ri (I8 I.lt hb),I.ED hb,.inr (Q3 I.sz hb),λx c e z=>?_,λp hp z=>?_⟩
 ·obtain⟨v,q⟩:=I.cell x c e;exact absurd (I8 q.lt (by rw[z];exact hb)) (RQ _)
 ·exact absurd (I8 (lu (I.pin p hp).1) (by rw[z];exact hb)) (RQ _)
structure Turn (P:ο) (w:π) (K:θ) (tg:ν) (Θ:It) (fp:List J) (it:J) (tn:Nat->χ->Prop):Prop where
 mem:it∈fp
 obj:∀i h,tn i h->∀b∈fp,∃o,h.get? b=Y o/\∀v,o.data≠.cell v
 keep:∀i h h',tn i h->(∀b∈fp,∀o,h.get? b=Y o->h'.get? b=Y o)->tn i h'
 item:∀(X:Cx),X.prog=P->X.w=w->X.K=K->X.calm=L->∀(i:Nat) (pins:List (J×Obj)) (s:Ψ) (Z:St) (H:Hp) (E:S->Ψ->Prop),Inv X pins Z H s->(∀b∈fp,iz X pins H b)->tn i s.heap->Θ.go i H ->
  wpAny (model P w) X.A (pyNext (.ref it)) (λr s1=>∃u,r=Y u /\
   wpAny (model P w) X.A (letOwnedTupleGo tg (.ref it) u) (λ_ s2=>∃x H',Inv X pins Z H' s2/\RelV x u/\Θ.rK i H x H'/\tn (i+1) s2.heap/\∀b∈fp,H' b=O) E s1) E s
 done:∀(X:Cx),X.prog=P->X.w=w->X.K=K->X.calm=L->∀(i:Nat) (pins:List (J×Obj)) (s:Ψ) (Z:St) (H:Hp) (E:S->Ψ->Prop),Inv X pins Z H s->(∀b∈fp,iz X pins H b)->tn i s.heap->Θ.stop i H ->
  wpAny (model P w) X.A (pyNext (.ref it)) (λr s1=>r=O/\Inv X pins Z H s1) E s
 self:∀(A:ψ) (i:Nat) (s:Ψ) (Q:S->Ψ->Prop) (E:S->Ψ->Prop),tn i s.heap->Q (.ref it) s->wpAny (model P w) A (pyIter (.ref it)) Q E s
abbrev TI:=St->Hp->(It->Hp->Prop)->Prop
def QF(X:Cx) (pins:List (J×Obj)) (Z:St) (tg:ν) (R:It->Hp->Prop) (itv:S) (s2:Ψ):Prop :=
 ∃(it:J) (fp:List J) (tn:Nat->χ->Prop) (Θ:It) (H':Hp),itv=.ref it/\Inv X pins Z H' s2/\Turn X.prog X.w X.K tg Θ fp it tn/\tn 0 s2.heap/\(∀b∈fp,iz X pins H' b)/\R Θ H'
def PI(X:Cx) (tg iter:ν) (wi:TI):Prop :=
 ∀(pins:List (J×Obj)) (s:Ψ) (Z:St) (H:Hp) (R:It->Hp->Prop),Inv X pins Z H s->wi Z H R ->
  wpAny (model X.prog X.w) X.A (eval iter X.env) (λv s1=>wpAny (model X.prog X.w) X.A (pyIter v) (QF X pins Z tg R) X.xe s1) X.xe s
theorem Ab{M:Model}{A:ψ}{E:S->Ψ->Prop}{s:Ψ}{tg:ν}{it:J}{u:S}{o:Obj}{n:String}{vs:Array S}{Q:Unit->Ψ->Prop}(ho:s.heap.get? it=Y o) (hc:o.cls=.type n) (hd:o.data=.fields vs)
    (hn:["enumerate","zip","dict_itemiterator","dict_reverseitemiterator","odict_iterator","itertools.zip_longest","itertools.pairwise"].contains n=G) (hQ:Q () s):wpAny M A (letOwnedTupleGo tg (.ref it) u) Q E s:=by
  unfold letOwnedTupleGo;cases tg<;>first
    | exact Xd hQ
    | (cases u<;>first
        | exact Xd hQ
        | (refine Rc (wpAny_load ho ?_)
           rw[hc,hd];show wpAny M A (if(["enumerate","zip","dict_itemiterator","dict_reverseitemiterator","odict_iterator","itertools.zip_longest","itertools.pairwise"].contains n&&vs[0]? == Y (rawInt _))=L then _ else _) Q E s
           rw[if_neg (by intro h;rw[hn,Bool.false_and]at h;cases h)]
           exact Xd hQ))
def uO(K:θ) (a:J):It :=
 ⟨λi H=>∃xs x,bN K H a xs/\xs[i]? = Y x,λi H x H'=>H'=H/\∀xs,bN K H a xs->xs[i]? = Y x,λi H=>∃xs,bN K H a xs/\xs.length<=i⟩
def IK(K:θ) (a:J):It :=
 ⟨λi H=>∃xs x,ck K H a xs/\xs[i]? = Y x,λi H x H'=>H'=H/\∀xs,ck K H a xs->xs[i]? = Y x,λi H=>∃xs,ck K H a xs/\xs.length<=i⟩
def ye(lo:Int) (n:Nat):It:=⟨λi _=>i<n,λi H x H'=>H'=H/\x=.int (lo+i),λi _=>n<=i⟩
theorem aii{P:ο}{w:π}{K:θ}{tg:ν}(a it:J):Turn P w K tg (uO K a) [it] it (λi h=>h.IsListIter it a i) where
 mem:=by simp
 obj:=λi h st b hb=>by
  have e:b=it:=by simpa using hb
  subst e;obtain⟨o,e,c,d⟩:=st;exact⟨o,e,λv z=>by rw[d]at z;cases z⟩
 keep:=λi h h' st k=>st.at λo e=>k it (by simp) o e
 item:=by
  intro X hP hw hK hc i pins s Z H E I hf st hg;subst hP hw hK;obtain⟨xs,x,hq,hx⟩:=hg;obtain⟨its,rv,p,hz⟩:=I.list hq;obtain⟨u,hu,ru⟩:=rv.get hx;obtain⟨f0,f1,f2,f3,f4,f5⟩:=hf it (by simp)
  refine wpAny_pyNext_list_item st p.isList (x:=u) (by simpa using hu) λh' st' sb=>?_
  have I1:Inv X pins Z H {s with heap:=h'}:=I.turned (t':=s.toks) (λb o hb e=>(sb.2 b hb).trans e) f0 f1 f3 f4 f5
  obtain⟨o,e,c,d⟩:=id st';exact⟨u,rfl,Ab (s:={s with heap:=h'}) e c d (by decide) ⟨x,H,I1,ru,⟨rfl,λys hy=>by rw[I.ZT hy hq];exact hx⟩,st',λb hb=>(hf b hb).1⟩⟩
 done:=by
  intro X hP hw hK hc i pins s Z H E I hf st hg;subst hP hw hK;obtain⟨xs,hq,hx⟩:=hg;obtain⟨its,rv,p,hz⟩:=I.list hq;obtain⟨f0,f1,f2,f3,f4,f5⟩:=hf it (by simp)
  have hl:=rv.length;exact wpAny_pyNext_list_end (I.ok.hd hc) st p.isList (by simp;omega) λh' eb=>⟨rfl,I.turned (t':=s.toks) (λb o hb e=>eb b o hb e) f0 f1 f3 f4 f5⟩
 self:=λ_ _ _ _ _ st h=>wpAny_pyIter_listiter st h
theorem ag8{P:ο}{w:π}{K:θ}{tg:ν}(a it:J):Turn P w K tg (IK K a) [it] it (λi h=>h.IsTupleIter it a i) where
 mem:=by simp
 obj:=λi h st b hb=>by
  have e:b=it:=by simpa using hb
  subst e;obtain⟨o,e,c,d⟩:=st;exact⟨o,e,λv z=>by rw[d]at z;cases z⟩
 keep:=λi h h' st k=>st.at λo e=>k it (by simp) o e
 item:=by
  intro X hP hw hK hc i pins s Z H E I hf st hg;subst hP hw hK;obtain⟨xs,x,hq,hx⟩:=hg;obtain⟨its,rv,p,hz⟩:=I.tuple hq;obtain⟨u,hu,ru⟩:=rv.get hx;obtain⟨f0,f1,f2,f3,f4,f5⟩:=hf it (by simp)
  refine wpAny_pyNext_tuple_item st (show s.heap.IsTuple a its.toArray from p) (x:=u) (by simpa using hu) λh' st' sb=>?_
  have I1:Inv X pins Z H {s with heap:=h'}:=I.turned (t':=s.toks) (λb o hb e=>(sb.2 b hb).trans e) f0 f1 f3 f4 f5
  obtain⟨o,e,c,d⟩:=id st';exact⟨u,rfl,Ab (s:={s with heap:=h'}) e c d (by decide) ⟨x,H,I1,ru,⟨rfl,λys hy=>by rw[I.JA hy hq];exact hx⟩,st',λb hb=>(hf b hb).1⟩⟩
 done:=by
  intro X hP hw hK hc i pins s Z H E I hf st hg;subst hP hw hK;obtain⟨xs,hq,hx⟩:=hg;obtain⟨its,rv,p,hz⟩:=I.tuple hq;obtain⟨f0,f1,f2,f3,f4,f5⟩:=hf it (by simp)
  have hl:=rv.length;exact wpAny_pyNext_tuple_end (I.ok.hd hc) st (show s.heap.IsTuple a its.toArray from p) (by simp;omega) λh' eb=>⟨rfl,I.turned (t':=s.toks) (λb o hb e=>eb b o hb e) f0 f1 f3 f4 f5⟩
 self:=λ_ _ _ _ _ st h=>wpAny_pyIter_tupleiter st h
theorem ag6{P:ο}{w:π}{K:θ}{tg:ν}(it:J) (lo:Int) (n:Nat):Turn P w K tg (ye lo n) [it] it (λi h=>IsRangeIter h it (lo+(i:Nat)*1) ((n:Int)-(i:Nat)) 1) where
 mem:=by simp
 obj:=λi h st b hb=>by
  have e:b=it:=by simpa using hb
  subst e;exact⟨_,st,λv z=>by
   have z':Data.fields _=Data.cell v:=z;cases z'⟩
 keep:=λi h h' st k=>k it (by simp) _ st
 item:=by
  intro X hP hw hK hc i pins s Z H E I hf st hg;subst hP hw hK;obtain⟨f0,f1,f2,f3,f4,f5⟩:=hf it (by simp)
  have W:=Walks.range (prog:=X.prog) (w:=X.w) (I.ok.hd hc) it lo 1 n;refine W.item i s _ _ hg st λv h' tk hv st' kk=>?_
  obtain⟨t,rfl⟩:=hv;have I1:Inv X pins Z H {s with heap:=h',toks:=tk}:=I.turned (λb o hb e=>kk b o (by simpa using hb) e) f0 f1 f3 f4 f5
  refine⟨_,rfl,Ab (s:={s with heap:=h',toks:=tk}) (n:="range_iterator") st' rfl rfl (by decide) ⟨.int (lo+i),H,I1,⟨t,?_⟩,⟨rfl,rfl⟩,st',λb hb=>(hf b hb).1⟩⟩
  rw[Int.mul_one]
 done:=by
  intro X hP hw hK hc i pins s Z H E I hf st hg;subst hP hw hK;obtain⟨f0,f1,f2,f3,f4,f5⟩:=hf it (by simp)
  exact wpAny_pyNext_range_end (I.ok.hd hc) st (by have:n<=i:=hg;omega) λh' eb=>⟨rfl,I.turned (t':=s.toks) (λb o hb e=>eb b o hb e) f0 f1 f3 f4 f5⟩
 self:=λ_ _ _ _ _ st h=>wpAny_pyIter_rangeiter st h
section
variable {X:Cx}{tg:ν}
def Od(K:θ) (tl:TE):TI:=λZ H R=>tl Z H λx H1=>∃a,x=.ref a/\(∃xs,bN K H1 a xs)/\R (uO K a) H1
def aa3(K:θ) (tl:TE):TI:=λZ H R=>tl Z H λx H1=>∃a,x=.ref a/\(∃xs,ck K H1 a xs)/\R (IK K a) H1
theorem LY{l:ν}{tl:TE}(hl:PE X l tl):PI X tg l (Od X.K tl):=by
 intro pins s Z H R I h;refine aZ (hl pins s Z H _ I h) λv s1 ⟨x,H1,I1,r1,q1⟩=>?_
 obtain⟨a,e,⟨xs,hq⟩,q⟩:=q1;subst e;cases r1;obtain⟨its,rv,p,hz⟩:=I1.list hq;refine T7 p.isList ?_;refine⟨s1.heap.objs.size,[s1.heap.objs.size],_,_,H1,rfl,I1.kept (t':=s1.toks) λb o e=>gn _ e,aii a _,⟨_,E3 _ rfl,rfl,rfl⟩,λb hb=>?_,q⟩
 have e:b=s1.heap.objs.size:=by simpa using hb
 subst e;exact I1.wV (ZA _) (I1.hok.fresh (ZA _))
theorem abE{l:ν}{tl:TE}(hl:PE X l tl):PI X tg l (aa3 X.K tl):=by
 intro pins s Z H R I h;refine aZ (hl pins s Z H _ I h) λv s1 ⟨x,H1,I1,r1,q1⟩=>?_
 obtain⟨a,e,⟨xs,hq⟩,q⟩:=q1;subst e;cases r1;obtain⟨its,rv,p,hz⟩:=I1.tuple hq;refine T6 (show s1.heap.IsTuple a its.toArray from p) ?_
 refine⟨s1.heap.objs.size,[s1.heap.objs.size],_,_,H1,rfl,I1.kept (t':=s1.toks) λb o e=>gn _ e,ag8 a _,⟨_,E3 _ rfl,rfl,rfl⟩,λb hb=>?_,q⟩
 have e:b=s1.heap.objs.size:=by simpa using hb
 subst e;exact I1.wV (ZA _) (I1.hok.fresh (ZA _))
theorem LI{pins:List (J×Obj)}{Z:St}{H:Hp}{s:Ψ}{R:It->Hp->Prop}{E:S->Ψ->Prop}{lo hi:Int}{t u v:Tok}{tk:Nat}(I:Inv X pins Z H s) (h1:-(2^62)<=lo) (h2:lo<2^62) (h3:-(2^62)<=hi) (h4:hi<2^62)
  (q:R (ye lo (hi-lo).toNat) H):wpAny (model X.prog X.w) X.A (pyIter (.ref s.heap.objs.size)) (QF X pins Z tg R) E {s with heap:=s.heap.push {cls:=.type "range",data:=.fields #[.int lo t,.int hi u,.int 1 v]},toks:=tk}:=by
 refine wpAny_pyIter_range (IsRange.new ..) (small_one h1 h2 h3 h4) ?_;have I1:Inv X pins Z H {s with heap:=s.heap.push {cls:=.type "range",data:=.fields #[.int lo t,.int hi u,.int 1 v]},toks:=tk}:=I.kept λb o e=>gn _ e
 refine⟨(s.heap.push {cls:=.type "range",data:=.fields #[.int lo t,.int hi u,.int 1 v]}).objs.size,[(s.heap.push {cls:=.type "range",data:=.fields #[.int lo t,.int hi u,.int 1 v]}).objs.size],_,_,H,rfl,
  I1.kept (t':=tk) λb o e=>gn _ e,ag6 _ lo (hi-lo).toNat,?_,λb hb=>?_,q⟩
 ·have e1:lo+((0:Nat):Int)*1=lo:=by simp
  have e2:(((hi-lo).toNat:Nat):Int)-((0:Nat):Int)=Builtin.Range.rangeSize lo hi 1:=by rw[rangeSize_one];split<;>omega
  show IsRangeIter _ _ (lo+((0:Nat):Int)*1) ((((hi-lo).toNat:Nat):Int)-((0:Nat):Int)) 1;rw[e1,e2];exact E3 _ rfl
 ·have e:b=(s.heap.push {cls:=.type "range",data:=.fields #[.int lo t,.int hi u,.int 1 v]}).objs.size:=by simpa using hb
  subst e;exact I1.wV (ZA _) (I1.hok.fresh (ZA _))
def aa6(ta:TA):TI:=λZ H R=>ta Z H λvs H1=>∃j:Int,vs=[.int j]/\-(2^62)<=j/\j<2^62/\R (ye 0 j.toNat) H1
def aa5(ta:TA):TI:=λZ H R=>ta Z H λvs H1=>∃i j:Int,vs=[.int i,.int j]/\(-(2^62)<=i/\i<2^62/\-(2^62)<=j/\j<2^62)/\R (ye i (j-i).toNat) H1
theorem Wf{a:ν}{ta:TA}{p pos:Pos}(hg:Gl X "range") (hm:X.mg "range"=O) (ha:PA X [a] ta) (hs:ε [a] X.env=[(G,eval a X.env)]:=by rfl):PI X tg (.Call (.Name "range" p) [a] [] pos) (aa6 ta):=by
 intro pins s Z H R I h;refine Call_ (tR I hg hm boot_range (Tu (aZ (ha pos pins s Z H _ I h) λus s1 ⟨vs,H1,I1,r1,q1⟩=>?_) hs rfl))
 obtain⟨j,e,q1,q2,q⟩:=q1;subst e;cases r1 with
 |cons r rr =>
  cases rr;obtain⟨t,rfl⟩:=r;exact call_range_1 (LI I1 (by omega) (by omega) q1 q2 (by simpa using q))
theorem We{a b:ν}{ta:TA}{p pos:Pos}(hg:Gl X "range") (hm:X.mg "range"=O) (ha:PA X [a,b] ta) (hs:ε [a,b] X.env=[(G,eval a X.env),(G,eval b X.env)]:=by rfl) (hs2:ε [b] X.env=[(G,eval b X.env)]:=by rfl) :
  PI X tg (.Call (.Name "range" p) [a,b] [] pos) (aa5 ta):=by
 intro pins s Z H R I h;refine Call_ (tR I hg hm boot_range (Tu (aZ (ha pos pins s Z H _ I h) λus s1 ⟨vs,H1,I1,r1,q1⟩=>?_) (by rw[hs,hs2]) (by rw[hs2];rfl)))
 obtain⟨i,j,e,⟨q1,q2,q3,q4⟩,q⟩:=q1;subst e;cases r1 with
 |cons r rr =>
  cases rr with
  |cons r' rr =>
   cases rr;obtain⟨t,rfl⟩:=r;obtain⟨t',rfl⟩:=r';exact call_range_2 (LI I1 q1 q2 q3 q4 q)
def JR(wi:TI) (g:TG) (tb:TS):TS:=λD Z H=>wi Z H λΘ H1=>∃W:Nat->Nat->St->Hp->Prop,(∃m,W 0 m Z H1)/\∀i m Z H,W i m Z H ->
 (Θ.stop i H/\D.nx Z H)\/(Θ.go i H/\∃N:St->Hp->Prop,(∀σ' H',N σ' H'->∃m',m'<m/\W (i+1) m' σ' H')/\∀x H',Θ.rK i H x H'->g x Z H' λσ2 H2=>tb {D with nx:=N,ct:=N,bk:=D.nx} σ2 H2)
def vG(fp:List J) (h:χ):List (J×Obj):=fp.filterMap λb=>(h.get? b).map λo=>(b,o)
theorem zI{fp:List J}{h:χ}{b:J}{o:Obj}(hb:b∈fp) (e:h.get? b=Y o):(b,o)∈vG fp h:=Tt.mpr ⟨b,hb,by rw[e];rfl⟩
theorem YC{fp:List J}{h:χ}{p:J×Obj}(hp:p∈vG fp h):p.1∈fp/\h.get? p.1=Y p.2:=by
 obtain⟨b,hb,e⟩:=Tt.mp hp;cases q:h.get? b with
 |none=>rw[q]at e;cases e
 |some o =>
  rw[q]at e;have e':(b,o)=p:=Q4 e;subst e';exact⟨hb,q⟩
theorem Inv.pinned{pins:List (J×Obj)}{Z:St}{H:Hp}{s:Ψ}{fp:List J}(I:Inv X pins Z H s) (hf:∀b∈fp,iz X pins H b) (ho:∀b∈fp,∃o,s.heap.get? b=Y o/\∀v,o.data≠.cell v):Inv X (pins++vG fp s.heap) Z H s :=
 I.zg λp hp=>(RO.mp hp).elim (λz=>I.pin p (Ra _ z)) λz=>by
  obtain⟨hb,e⟩:=YC z;obtain⟨f0,f1,f2,_⟩:=hf p.1 hb;obtain⟨o,e',d⟩:=ho p.1 hb;rw[e]at e';cases e';exact⟨e,f0,f1,f2,d⟩
theorem Inv.uV{pins pl:List (J×Obj)}{Z:St}{H:Hp}{s:Ψ}(I:Inv X (pins++pl) Z H s):Inv X pins Z H s:=I.zg λp hp=>I.pin p (Ra _ (WU _ hp))
theorem LP{iter:ν}{body:List υ}{wi:TI}{g:TG}{tb:TS}{pos:Pos}(hp:PassesOwn (model X.prog X.w) X.A X.env X.xe) (hc:X.calm=L) (hi:PI X tg iter wi) (hg:PG X tg g) (hb:gm X body tb)
  (hs:∀x,foldedSetIterable iter X.env x=pure x:=by intro _;rfl):PS X (.For tg iter body [] pos) (JR wi g tb):=by
 intro pins s Z H D I h;refine wpAny_For (aZ (hi pins s Z H _ I h) λv s1 h1=>aZ h1 λitv s2 h2=>?_) hs
 obtain⟨it,fp,tn,Θ,H2,e,I2,T,st2,f2,W,⟨m0,w0⟩,turn⟩:=h2;subst e;have pQ:∀{H':Hp},(∀b∈fp,H' b=O)->∀b∈fp,iz X pins H' b:=λhn b hb=>⟨hn b hb,(f2 b hb).2⟩
 refine codeAny_forLoop_any (λn s'=>∃i σ' H',Inv X pins σ' H' s'/\tn i s'.heap/\(∀b∈fp,H' b=O)/\W i n σ' H') ?_ m0 ⟨0,Z,H2,I2,st2,λb hb=>(f2 b hb).1,w0⟩
 rintro n s3 ⟨i,σ3,H3,I3,st3,OZ,w3⟩
 rcases turn i n σ3 H3 w3 with⟨stop,qn⟩|⟨go,N,hN,step⟩
 ·refine T5 hp (aZ (T.done X rfl rfl rfl hc i pins s3 σ3 H3 X.xe I3 (pQ OZ) st3 stop) λr s4 ⟨hr,I4⟩=>?_)
  subst hr;exact Tv ⟨σ3,H3,I4,qn⟩
 ·refine T5 hp (aZ (T.item X rfl rfl rfl hc i pins s3 σ3 H3 X.xe I3 (pQ OZ) st3 go) λr s4 ⟨u,hr,h4⟩=>?_)
  subst hr;refine T5 hp (aZ h4 λ_ s5 ⟨x,H5,I5,r5,y5,pT,Af⟩=>?_)
  have I5':=I5.pinned (pQ Af) (T.obj _ _ pT);refine T5 hp (aZ (hg _ s5 σ3 H5 x u _ I5' r5 (step x H5 y5)) λ_ s6 ⟨abk,H6,I6,q6⟩=>?_)
  refine T5 hp (aZ (hb _ s6 abk H6 _ I6 q6) λf s7 q7=>?_)
  have again:∀{jT:St}{H7:Hp},Inv X (pins++vG fp s5.heap) jT H7 s7->N jT H7->∃m,m<n/\∃i σ' H',Inv X pins σ' H' s7/\tn i s7.heap/\(∀b∈fp,H' b=O)/\W i m σ' H':=fun{jT H7} I7 n7=>by
   obtain⟨m',hm,w7⟩:=hN jT H7 n7;refine⟨m',hm,i+1,jT,H7,I7.uV,T.keep _ _ _ pT λb hb o e=>(I7.pin (b,o) (Ra _ (Ra _ (zI hb e)))).1,λb hb=>?_,w7⟩
   obtain⟨o,e,d⟩:=T.obj _ _ pT b hb;exact(I7.pin (b,o) (Ra _ (Ra _ (zI hb e)))).2.1
  cases f with
  |next=>obtain⟨jT,H7,I7,n7⟩:=q7;exact again I7 n7
  |cont=>obtain⟨jT,H7,I7,n7⟩:=q7;exact again I7 n7
  |brk=>obtain⟨jT,H7,I7,q7⟩:=q7;exact⟨jT,H7,I7.uV,q7⟩
  |ret v=>obtain⟨x7,jT,H7,I7,r7,q7⟩:=q7;exact⟨x7,jT,H7,I7.uV,r7,q7⟩
end
theorem acB{K:θ}{a:J}{xs:List V}{g:TG}{tb:TS}{D:Ends}{Z:St}{H:Hp}(Pv:Nat->St->Hp->Prop) (h0:Pv 0 Z H) (hl:∀i Z H,i<=xs.length->Pv i Z H->bN K H a xs)
  (hs:∀i x Z H,xs[i]? = Y x->Pv i Z H->g x Z H λσ2 H2=>tb {D with nx:=Pv (i+1),ct:=Pv (i+1),bk:=D.nx} σ2 H2) (hd:∀Z H,Pv xs.length Z H->D.nx Z H) :
  ∃W:Nat->Nat->St->Hp->Prop,(∃m,W 0 m Z H)/\∀i m Z H,W i m Z H ->
   ((uO K a).stop i H/\D.nx Z H)\/((uO K a).go i H/\∃N:St->Hp->Prop,(∀σ' H',N σ' H'->∃m',m'<m/\W (i+1) m' σ' H')/\∀x H',(uO K a).rK i H x H'->g x Z H' λσ2 H2=>tb {D with nx:=N,ct:=N,bk:=D.nx} σ2 H2):=by
 refine⟨λi m Z H=>m=xs.length-i/\i<=xs.length/\Pv i Z H,⟨xs.length,by simp,RL _,h0⟩,?_⟩
 rintro i m Z H ⟨rfl,hi,p⟩
 have q:=hl i Z H hi p
 by_cases hlt:i<xs.length
 ·refine .inr ⟨⟨xs,xs[i],q,by simp[hlt]⟩,Pv (i+1),λσ' H' p'=>⟨xs.length-(i+1),by omega,rfl,hlt,p'⟩,λx H' y=>?_⟩
  obtain⟨e,y⟩:=y;subst e;exact hs i x Z _ (y xs q) p
 ·have e:i=xs.length:=by omega
  subst e;exact .inl ⟨⟨xs,q,ZA _⟩,hd Z H p⟩
abbrev R2:=V->V->Hp->VK->Prop
def bC(X:Cx) (f:S->S->Sem S) (r:R2):Prop :=
 ∀(pins:List (J×Obj)) (s:Ψ) (Z:St) (H:Hp) (x y:V) (v u:S) (Q:VK),Inv X pins Z H s->RelV x v->RelV y u->r x y H Q ->
  wpAny (model X.prog X.w) X.A (f v u) (EP X pins Z Q) X.xe s
def cP(X:Cx) (f:S) (r:List V->Hp->VK->Prop):Prop :=
 ∀(pins:List (J×Obj)) (s:Ψ) (Z:St) (H:Hp) (xs:List V) (us:List S) (Q:VK),Inv X pins Z H s->Vals xs us->r xs H Q ->
  wpAny (model X.prog X.w) X.A (call f us) (EP X pins Z Q) X.xe s
def aet(X:Cx) (r:V->Hp->(Bool->Hp->Prop)->Prop):Prop :=
 ∀(pins:List (J×Obj)) (s:Ψ) (Z:St) (H:Hp) (x:V) (v:S) (Q:Bool->Hp->Prop),Inv X pins Z H s->RelV x v->r x H Q ->
  wpAny (model X.prog X.w) X.A (truthy v) (TP X pins Z Q) X.xe s
def rV(r:R2) (ta tb:TE):TE:=λZ H Q=>ta Z H λx H1=>tb Z H1 λy H2=>r x y H2 Q
def rI(C:Int->Int->Prop) (g:Int->Int->V):R2:=λx y H Q=>∃i j,x=.int i/\y=.int j/\C i j/\Q (g i j) H
def kQ(g:Int->Int->V):R2:=λx y H Q=>∃i j,x=.int i/\y=.int j/\Q (g i j) H
section
variable {X:Cx}{a b c:ν}{ta tb tc:TE}{pos:Pos}
theorem GW(ha:PE X a ta) (hb:PE X b tb) {pins:List (J×Obj)}{s:Ψ}{Z:St}{H:Hp}{R:V->V->Hp->Prop}(I:Inv X pins Z H s)
  (h:ta Z H λx H1=>tb Z H1 λy H2=>R x y H2) {Q:S->Ψ->Prop}{f:S->S->Sem S}
  (hf:∀v u s2 x y H2,Inv X pins Z H2 s2->RelV x v->RelV y u->R x y H2->wpAny (model X.prog X.w) X.A (f v u) Q X.xe s2) :
  wpAny (model X.prog X.w) X.A (eval a X.env) (λv s₁=>wpAny (model X.prog X.w) X.A (eval b X.env) (λu s₂=>wpAny (model X.prog X.w) X.A (f v u) Q X.xe s₂) X.xe s₁) X.xe s:=by
 refine aZ (ha pins s Z H _ I h) λv s1 ⟨x,H1,I1,r1,q1⟩=>?_
 refine aZ (hb pins s1 Z H1 _ I1 q1) λu s2 ⟨y,H2,I2,r2,q2⟩=>?_
 exact hf v u s2 x y H2 I2 r1 r2 q2
theorem L5{op:Operator}{r:R2}(ho:bC X (binaryOp op) r) (ha:PE X a ta) (hb:PE X b tb):PE X (.BinOp a op b pos) (rV r ta tb):=by
 intro pins s Z H Q I h;exact wpAny_BinOp (GW ha hb I h λv u s2 x y H2 I2 rx ry q=>ho pins s2 Z H2 x y v u Q I2 rx ry q)
theorem zu{f:S->S->Sem S}{C:Int->Int->Prop}{g:Int->Int->Int}
  (rule:∀(i j:Int) (t u:Tok) (s:Ψ) (Q:S->Ψ->Prop) (E:S->Ψ->Prop),C i j->Q (.int (g i j) s.toks) {s with toks:=s.toks+1}->wpAny (model X.prog X.w) X.A (f (.int i t) (.int j u)) Q E s) :
  bC X f (rI C λi j=>.int (g i j)):=by
 intro pins s Z H x y v u Q I rx ry h;obtain⟨i,j,rfl,rfl,hc,q⟩:=h;obtain⟨t,rfl⟩:=rx;obtain⟨t',rfl⟩:=ry;exact rule i j t t' s _ _ hc ⟨.int (g i j),H,I.tok _,⟨_,rfl⟩,q⟩
theorem Ei{f:S->S->Sem S}{g:Int->Int->Int}
  (rule:∀(i j:Int) (t u:Tok) (s:Ψ) (Q:S->Ψ->Prop) (E:S->Ψ->Prop),Q (.int (g i j) s.toks) {s with toks:=s.toks+1}->wpAny (model X.prog X.w) X.A (f (.int i t) (.int j u)) Q E s) :
  bC X f (kQ λi j=>.int (g i j)):=by
 intro pins s Z H x y v u Q I rx ry h;obtain⟨i,j,rfl,rfl,q⟩:=h;obtain⟨t,rfl⟩:=rx;obtain⟨t',rfl⟩:=ry;exact rule i j t t' s _ _ ⟨.int (g i j),H,I.tok _,⟨_,rfl⟩,q⟩
theorem zv{f:S->S->Sem S}{g:Int->Int->Bool}
  (rule:∀(i j:Int) (t u:Tok) (s:Ψ) (Q:S->Ψ->Prop) (E:S->Ψ->Prop),Q (.bool (g i j)) s->wpAny (model X.prog X.w) X.A (f (.int i t) (.int j u)) Q E s) :
  bC X f (kQ λi j=>.bl (g i j)):=by
 intro pins s Z H x y v u Q I rx ry h;obtain⟨i,j,rfl,rfl,q⟩:=h;obtain⟨t,rfl⟩:=rx;obtain⟨t',rfl⟩:=ry;exact rule i j t t' s _ _ ⟨.bl (g i j),H,I,rfl,q⟩
def aeF(i j:Int):Prop:=0<j/\j<1073741824
def aeE(i j:Int):Prop:=0<=j/\j<=1000000/\i.natAbs<2^64
def IT(i j:Int):Prop:=(-(2^64)<i/\i<2^64)\/(-(2^64)<j/\j<2^64)
theorem IT.ok{i j:Int}(h:IT i j):IntMulOk i j:=by
 rcases h with⟨h1,h2⟩|⟨h1,h2⟩
 ·exact .of_left (intBits_le_64 h1 h2)
 ·exact .of_right (intBits_le_64 h1 h2)
theorem XC:bC X (binaryOp .Add) (kQ λi j=>.int (i+j)):=Ei λ_ _ _ _ _ _ _ q=>add_int q
theorem Xi:bC X (binaryOp .Sub) (kQ λi j=>.int (i-j)):=Ei λ_ _ _ _ _ _ _ q=>sub_int q
theorem Xn:bC X (binaryOp .Mult) (rI IT λi j=>.int (i*j)):=zu λ_ _ _ _ _ _ _ hc q=>mul_int q hc.ok
theorem Xv:bC X (binaryOp .FloorDiv) (rI aeF λi j=>.int (i/j)):=zu λi j _ _ _ _ _ hc q=>by
 have h1:(0:Int)<j:=hc.1;have h2:j<1073741824:=hc.2;exact floordiv_int (by omega) (by rw[Int.fdiv_eq_ediv_of_nonneg i (by omega)];exact q) (.inl (PyProof.noPylong_small (by omega)))
theorem Xo:bC X (binaryOp .Mod) (rI (λ_ j=>0<j) λi j=>.int (i % j)):=zu λi j _ _ _ _ _ hc q=>by
 have h1:(0:Int)<j:=hc;exact mod_int' (by omega) (by rw[Int.fmod_eq_emod_of_nonneg i (by omega)];exact q)
theorem Xk:bC X (binaryOp .Pow) (rI aeE λi j=>.int (i^j.toNat)):=zu λ_ _ _ _ _ _ _ hc q=>pow_int_small hc.1 hc.2.1 hc.2.2 q
theorem XA:bC X (binaryOp .BitAnd) (kQ λi j=>.int (Builtin.bitAnd i j)):=Ei λ_ _ _ _ _ _ _ q=>and_int q
end
def Dr:V->V->Bool
 |.aE,.aE=>L|.aE,.int _=>L|.int _,.aE=>L|.aE,.bl _=>L|.bl _,.aE=>L|.aE,.str _=>L|.str _,.aE=>L
 |.int _,.int _=>L|.bl _,.bl _=>L|.str _,.str _=>L|.iR _,.iR _=>L
 |.int _,.str _=>L|.str _,.int _=>L|.bl _,.str _=>L|.str _,.bl _=>L
 |_,_=>G
def akW:R2:=λx y H Q=>Dr x y=L/\Q (.bl (decide (x=y))) H
def akd:R2:=λx y H Q=>Dr x y=L/\Q (.bl (!decide (x=y))) H
theorem Px{i j:Int}:decide (V.int i=V.int j)=(i==j):=by
 rw[RW];simp
theorem Pz{i j:Bool}:decide (V.bl i=V.bl j)=(i==j):=by
 rw[RW];simp
theorem Pw{i j:Str}:decide (V.str i=V.str j)=(i==j):=by
 rw[RW];simp
theorem Py{i j:Array UInt8}:decide (V.iR i=V.iR j)=(i.toList==j.toList):=by
 rw[RW];cases i;cases j;simp
section
variable {X:Cx}{a b c:ν}{ta tb tc:TE}{pos:Pos}
theorem dP{pins:List (J×Obj)}{Z:St}{H:Hp}{s:Ψ}{Q:VK}{k k':Bool}(I:Inv X pins Z H s) (q:Q (.bl k) H) (e:k=k'):EP X pins Z Q (.bool k') s:=by
 subst e;exact⟨.bl k,H,I,rfl,q⟩
theorem Xw:bC X (compareOp .Eq) akW:=by
 intro pins s Z H x y v u Q I rx ry h;obtain⟨hs,q⟩:=h;cases x with
 |aE =>
  cases rx;cases y with
  |aE=>cases ry;exact PySem.EqNone.eq_none_none (dP I q (by simp))
  |bl j=>cases ry;exact PySem.EqNone.eq_none_bool (dP I q (by simp))
  |int j=>obtain⟨t',rfl⟩:=ry;exact PySem.EqNone.eq_none_int (dP I q (by simp))
  |str j=>obtain⟨t',rfl⟩:=ry;exact PySem.EqNone.eq_none_str (dP I q (by simp))
  |_=>exact absurd (show G=L from hs) QY
 |bl i =>
  cases rx;cases y with
  |aE=>cases ry;exact PySem.EqNone.eq_bool_none (dP I q (by simp))
  |bl j=>cases ry;exact eq_bool (dP I q Pz)
  |str j=>obtain⟨t',rfl⟩:=ry;exact PySem.EqMixed.eq_bool_str (dP I q (by simp))
  |_=>exact absurd (show G=L from hs) QY
 |int i =>
  obtain⟨t,rfl⟩:=rx;cases y with
  |aE=>cases ry;exact PySem.EqNone.eq_int_none (dP I q (by simp))
  |int j=>obtain⟨t',rfl⟩:=ry;exact eq_int (dP I q Px)
  |str j=>obtain⟨t',rfl⟩:=ry;exact PySem.EqMixed.eq_int_str (dP I q (by simp))
  |_=>exact absurd (show G=L from hs) QY
 |str i =>
  obtain⟨t,rfl⟩:=rx;cases y with
  |aE=>cases ry;exact PySem.EqNone.eq_str_none (dP I q (by simp))
  |bl j=>cases ry;exact PySem.EqMixed.eq_str_bool (dP I q (by simp))
  |int j=>obtain⟨t',rfl⟩:=ry;exact PySem.EqMixed.eq_str_int (dP I q (by simp))
  |str j=>obtain⟨t',rfl⟩:=ry;exact eq_str (dP I q Pw)
  |_=>exact absurd (show G=L from hs) QY
 |iR i =>
  obtain⟨t,rfl⟩:=rx;cases y with
  |iR j=>obtain⟨t',rfl⟩:=ry;exact PySem.W.eq_bytes (dP I q Py)
  |_=>exact absurd (show G=L from hs) QY
 |_=>cases y<;>exact absurd (show G=L from hs) QY
theorem Xm:bC X (compareOp .NotEq) akd:=by
 intro pins s Z H x y v u Q I rx ry h;obtain⟨hs,q⟩:=h;cases x with
 |aE =>
  cases rx;cases y with
  |aE=>cases ry;exact PySem.EqNone.ne_none_none (dP I q (by simp))
  |bl j=>cases ry;exact PySem.EqNone.ne_none_bool (dP I q (by simp))
  |int j=>obtain⟨t',rfl⟩:=ry;exact PySem.EqNone.ne_none_int (dP I q (by simp))
  |str j=>obtain⟨t',rfl⟩:=ry;exact PySem.EqNone.ne_none_str (dP I q (by simp))
  |_=>exact absurd (show G=L from hs) QY
 |bl i =>
  cases rx;cases y with
  |aE=>cases ry;exact PySem.EqNone.ne_bool_none (dP I q (by simp))
  |bl j=>cases ry;exact ne_bool (dP I q (congrArg not Pz))
  |str j=>obtain⟨t',rfl⟩:=ry;exact PySem.EqMixed.ne_bool_str (dP I q (by simp))
  |_=>exact absurd (show G=L from hs) QY
 |int i =>
  obtain⟨t,rfl⟩:=rx;cases y with
  |aE=>cases ry;exact PySem.EqNone.ne_int_none (dP I q (by simp))
  |int j=>obtain⟨t',rfl⟩:=ry;exact ne_int (dP I q (congrArg not Px))
  |str j=>obtain⟨t',rfl⟩:=ry;exact PySem.EqMixed.ne_int_str (dP I q (by simp))
  |_=>exact absurd (show G=L from hs) QY
 |str i =>
  obtain⟨t,rfl⟩:=rx;cases y with
  |aE=>cases ry;exact PySem.EqNone.ne_str_none (dP I q (by simp))
  |bl j=>cases ry;exact PySem.EqMixed.ne_str_bool (dP I q (by simp))
  |int j=>obtain⟨t',rfl⟩:=ry;exact PySem.EqMixed.ne_str_int (dP I q (by simp))
  |str j=>obtain⟨t',rfl⟩:=ry;exact ne_str (dP I q (congrArg not Pw))
  |_=>exact absurd (show G=L from hs) QY
 |iR i =>
  obtain⟨t,rfl⟩:=rx;cases y with
  |iR j=>obtain⟨t',rfl⟩:=ry;exact PySem.W.ne_bytes (dP I q (congrArg not Py))
  |_=>exact absurd (show G=L from hs) QY
 |_=>cases y<;>exact absurd (show G=L from hs) QY
theorem Xp:bC X (compareOp .Lt) (kQ λi j=>.bl (decide (i<j))):=zv λ_ _ _ _ _ _ _ q=>lt_int q
theorem Xq:bC X (compareOp .LtE) (kQ λi j=>.bl (decide (i<=j))):=zv λ_ _ _ _ _ _ _ q=>le_int q
theorem Xs:bC X (compareOp .Gt) (kQ λi j=>.bl (decide (j<i))):=zv λ_ _ _ _ _ _ _ q=>gt_int q
theorem Xu:bC X (compareOp .GtE) (kQ λi j=>.bl (decide (j<=i))):=zv λ_ _ _ _ _ _ _ q=>ge_int q
theorem Xr:bC X (compareOp .Is) (λx y H Q=>y=.aE/\Q (.bl (decide (x=.aE))) H):=by
 intro pins s Z H x y v u Q I rx ry h;obtain⟨rfl,q⟩:=h;cases ry;refine is_none_gen (dP I q ?_);cases x<;>first
  |(cases rx;rfl)
  |(obtain⟨t,rfl⟩:=rx;rfl)
theorem Xl:bC X (compareOp .IsNot) (λx y H Q=>y=.aE/\Q (.bl (!decide (x=.aE))) H):=by
 intro pins s Z H x y v u Q I rx ry h;obtain⟨rfl,q⟩:=h;cases ry;refine isnot_none_gen (dP I q ?_);cases x<;>first
  |(cases rx;rfl)
  |(obtain⟨t,rfl⟩:=rx;rfl)
theorem MU(b:ν) {op:CmpOp}(h:op≠.In:=by decide) (h2:op≠.NotIn:=by decide):behindInMarks op b=G:=by
 have e1:(op==CmpOp.In)=G:=by cases op<;>first|rfl|exact absurd rfl h
 have e2:(op==CmpOp.NotIn)=G:=by cases op<;>first|rfl|exact absurd rfl h2
 cases b<;>simp[behindInMarks,e1,e2]
theorem ak6{op:CmpOp}{r:R2}(ho:bC X (compareOp op) r) (ha:PE X a ta) (hb:PE X b tb) (hm:behindInMarks op b=G):PE X (.Compare a [op] [b] pos) (rV r ta tb):=by
 intro pins s Z H Q I h;exact wpAny_Compare1 (GW ha hb I h λv u s2 x y H2 I2 rx ry q=>ho pins s2 Z H2 x y v u Q I2 rx ry q) hm
def JM(t:TE):TT:=λZ H Q=>t Z H λx H'=>∃k,x=.bl k/\Q k H'
theorem ala{op:CmpOp}{r:R2}(ho:bC X (compareOp op) r) (ha:PE X a ta) (hb:PE X b tb) (hm:behindInMarks op b=G):PT X (.Compare a [op] [b] pos) (JM (rV r ta tb)):=by
 intro pins s Z H Q I h;refine wpAny_isTrue_Compare1 (aZ (ha pins s Z H _ I h) λv s1 ⟨x,H1,I1,r1,q1⟩=>aZ (hb pins s1 Z H1 _ I1 q1) λu s2 ⟨y,H2,I2,r2,q2⟩ =>
  aZ (ho pins s2 Z H2 x y v u _ I2 r1 r2 q2) λc s3 ⟨z,H3,I3,r3,k,e,q3⟩=>?_) hm
 subst e;cases r3;exact Ry ⟨H3,I3,q3⟩
def JV(r r':R2) (ta tb tc:TE):TE:=λZ H Q=>ta Z H λx H1=>tb Z H1 λy H2=>r x y H2 λz H3=>∃k,z=.bl k /\
 (if k=L then tc Z H3 λw' H4=>r' y w' H4 Q else Q (.bl G) H3)
theorem ak5{op op':CmpOp}{r r':R2}(ho:bC X (compareOp op) r) (ho':bC X (compareOp op') r') (ha:PE X a ta) (hb:PE X b tb) (hc:PE X c tc)
  (hm:lastMarks [op,op'] [b,c]=G:=by with_unfolding_all rfl):PE X (.Compare a [op,op'] [b,c] pos) (JV r r' ta tb tc):=by
 intro pins s Z H Q I h;refine Compare_chain (aZ (ha pins s Z H _ I h) λv s1 ⟨x,H1,I1,r1,q1⟩=>chain_link (aZ (hb pins s1 Z H1 _ I1 q1) λu s2 ⟨y,H2,I2,r2,q2⟩ =>
  aZ (ho pins s2 Z H2 x y v u _ I2 r1 r2 q2) λd s3 ⟨z,H3,I3,r3,k,e,q3⟩=>?_)) hm
 subst e;cases r3;refine Ry ?_;cases k with
 |false=>exact ite_ff ⟨.bl G,H3,I3,rfl,q3⟩
 |true=>exact ite_tt (chain_last (aZ (hc pins s3 Z H3 _ I3 q3) λw' s4 ⟨z',H4,I4,r4,q4⟩=>ho' pins s4 Z H4 y z' u w' Q I4 r2 r4 q4))
theorem akz{op op':CmpOp}{r r':R2}(ho:bC X (compareOp op) r) (ho':bC X (compareOp op') r') (ha:PE X a ta) (hb:PE X b tb) (hc:PE X c tc)
  (hm:lastMarks [op,op'] [b,c]=G:=by with_unfolding_all rfl):PT X (.Compare a [op,op'] [b,c] pos) (JM (JV r r' ta tb tc)):=by
 intro pins s Z H Q I h;refine isTrue_chain (aZ (ha pins s Z H _ I h) λv s1 ⟨x,H1,I1,r1,q1⟩=>test_link (aZ (hb pins s1 Z H1 _ I1 q1) λu s2 ⟨y,H2,I2,r2,q2⟩ =>
  aZ (ho pins s2 Z H2 x y v u _ I2 r1 r2 q2) λd s3 ⟨z,H3,I3,r3,k,e,q3⟩=>?_)) hm
 subst e;cases r3;refine Ry ?_;cases k with
 |false =>
  obtain⟨k',e',q'⟩:=q3;cases e';exact ite_ff ⟨H3,I3,q'⟩
 |true =>
  refine ite_tt (test_last (aZ (hc pins s3 Z H3 _ I3 q3) λw' s4 ⟨z',H4,I4,r4,q4⟩=>aZ (ho' pins s4 Z H4 y z' u w' _ I4 r2 r4 q4) λd' s5 ⟨z2,H5,I5,r5,k2,e2,q5⟩=>?_))
  subst e2;cases r5;exact Ry ⟨H5,I5,q5⟩
def IB(K:θ) (x:V) (H:Hp) (k:Bool):Prop :=
 match x with
 |.aE=>k=G
 |.bl b=>k=b
 |.int i=>k=(i != 0)
 |.str y=>y.length<=Ξ/\k=((y.length:Int) != 0)
 |.iR y=>y.size<=Ξ/\k=((y.size:Int) != 0)
 |.ref p=>(∃xs,bN K H p xs/\k = !xs.isEmpty)\/(∃xs,ck K H p xs/\k = !xs.isEmpty)\/∃kvs,H p=Y (.dK kvs)/\k = !kvs.isEmpty
 |_=>False
theorem aaT{κ:Type}{kvs:List (κ×V)}{vs:List (κ×S)}(r:KV kvs vs):(!vs.isEmpty) = !kvs.isEmpty:=by
 cases r<;>rfl
theorem N7{xs:List V}{its:List S}(r:Vals xs its):(!its.toArray.isEmpty) = !xs.isEmpty:=by
 cases r<;>simp
theorem qo:(Ξ:Nat)<2^63:=by rw[S9];decide
theorem aic:aet X (λx H Q=>∃k,IB X.K x H k/\Q k H):=by
 intro pins s Z H x v Q I rx h;obtain⟨k,e,q⟩:=h;have hl:=qo;have hs:Ξ=16777216:=S9;cases x with
 |aE =>
  cases rx;have e':k=G:=e;subst e';exact truthy_none ⟨H,I,q⟩
 |bl b =>
  cases rx;have e':k=b:=e;subst e';exact Ry ⟨H,I,q⟩
 |int i =>
  obtain⟨t,rfl⟩:=rx;have e':k=(i != 0):=e;subst e';exact PySem.P.truthy_int ⟨H,I,q⟩
 |str y =>
  obtain⟨t,rfl⟩:=rx;obtain⟨hy,e'⟩:y.length<=Ξ/\k=((y.length:Int) != 0):=e;subst e';exact PySem.P.truthy_str (by omega) ⟨H,I.tok _,q⟩
 |iR y =>
  obtain⟨t,rfl⟩:=rx;obtain⟨hy,e'⟩:y.size<=Ξ/\k=((y.size:Int) != 0):=e;subst e';exact PySem.W.truthy_bytes (by omega) ⟨H,I.tok _,q⟩
 |ref p =>
  cases rx;have e':(∃xs,bN X.K H p xs/\k = !xs.isEmpty)\/(∃xs,ck X.K H p xs/\k = !xs.isEmpty)\/∃kvs,H p=Y (.dK kvs)/\k = !kvs.isEmpty:=e
  rcases e' with⟨xs,hx,e'⟩|⟨xs,hx,e'⟩|⟨kvs,hx,e'⟩
  ·subst e';obtain⟨its,r,pl,hz⟩:=I.list hx;have hlen:=r.length;exact wpAny_truthy_list pl.isList (by simp only[E4];omega) ⟨H,I.tok _,by rw[N7 r];exact q⟩
  ·subst e';obtain⟨its,r,pl,hz⟩:=I.tuple hx;have hlen:=r.length;exact truthy_tuple pl (by simp only[E4];omega) ⟨H,I.tok _,by rw[N7 r];exact q⟩
  ·subst e';obtain⟨hz,hS,vs,r,m⟩:kvs.length<=Ξ/\(p==sysModules)=G/\∃vs,KV kvs vs/\s.heap.DictOf (gX X.prog X.w) p vs:=I.hok p _ hx;have hlen:kvs.length=vs.length:=Tz r;exact wpAny_truthy_dict hS m (by omega) ⟨H,I.tok _,by rw[aaT r];exact q⟩
 |_=>exact(show False from e).elim
theorem alc(ha:PE X a ta) (he:∀whole,isTrue a X.env whole=(do let v <-whole;standAt a.pos;holding [v] (truthy v))) :
  PT X a (λZ H Q=>ta Z H λx H'=>∃k,IB X.K x H' k/\Q k H'):=by
 intro pins s Z H Q I h;exact isTrue_plain (aZ (ha pins s Z H _ I h) λv s1 ⟨x,H1,I1,r1,q1⟩=>aic pins s1 Z H1 x v Q I1 r1 q1) (he _)
theorem Mn:bC X (binaryOp .Add) (λx y H Q=>∃i j,x=.str i/\y=.str j/\i.length+j.length<=Ξ/\Q (.str (i++j)) H):=by
 intro pins s Z H x y v u Q I rx ry h;obtain⟨i,j,rfl,rfl,hz,q⟩:=h;obtain⟨t,rfl⟩:=rx;obtain⟨t',rfl⟩:=ry;exact add_str (λt' tk=>⟨.str (i++j),H,I.tok _,⟨_,rfl⟩,q⟩) hz
theorem R0{x:V}{us:List S}(r:Vals [x] us):∃u,us=[u]/\RelV x u:=by
 cases r with
 |cons r1 r2=>cases r2;exact⟨_,rfl,r1⟩
theorem vals2{x y:V}{us:List S}(r:Vals [x,y] us):∃u w',us=[u,w']/\RelV x u/\RelV y w':=by
 cases r with
 |cons r1 r2 =>
  cases r2 with
  |cons r3 r4=>cases r4;exact⟨_,_,rfl,r1,r3⟩
theorem adN(hc:X.calm=L):cP X (.builtin "max") (λxs H Q=>∃i j,xs=[.int i,.int j]/\Q (.int (if j>i then j else i)) H):=by
 intro pins s Z H xs us Q I r h;obtain⟨i,j,rfl,q⟩:=h;obtain⟨u,w',rfl,⟨t,rfl⟩,⟨t',rfl⟩⟩:=vals2 r;refine max_two_ints (I.ok.hd hc) λh' tk k=>⟨_,H,I.kept k,?_,q⟩
 by_cases hj:j>i
 ·rw[if_pos hj,if_pos hj];exact⟨_,rfl⟩
 ·rw[if_neg hj,if_neg hj];exact⟨_,rfl⟩
theorem adM(hc:X.calm=L):cP X (.builtin "min") (λxs H Q=>∃i j,xs=[.int i,.int j]/\Q (.int (if j<i then j else i)) H):=by
 intro pins s Z H xs us Q I r h;obtain⟨i,j,rfl,q⟩:=h;obtain⟨u,w',rfl,⟨t,rfl⟩,⟨t',rfl⟩⟩:=vals2 r;refine min_two_ints (I.ok.hd hc) λh' tk k=>⟨_,H,I.kept k,?_,q⟩
 by_cases hj:j<i
 ·rw[if_pos hj,if_pos hj];exact⟨_,rfl⟩
 ·rw[if_neg hj,if_neg hj];exact⟨_,rfl⟩
theorem Qh:cP X (.type "int") (λxs H Q=>(∃i,xs=[.int i]/\Q (.int i) H)\/∃k,xs=[.bl k]/\Q (.int (if k then 1 else 0)) H):=by
 intro pins s Z H xs us Q I r h
 rcases h with⟨i,rfl,q⟩|⟨k,rfl,q⟩
 ·obtain⟨u,rfl,t,rfl⟩:=R0 r;exact call_int_int ⟨.int i,H,I,⟨_,rfl⟩,q⟩
 ·obtain⟨u,rfl,r1⟩:=R0 r;cases r1;exact call_int_bool ⟨.int (if k then 1 else 0),H,I.tok _,⟨_,rfl⟩,q⟩
theorem adK:cP X (.type "str") (λxs H Q=>∃i,xs=[.int i]/\i.natAbs.log2<1920/\Q (.str (toString i)) H):=by
 intro pins s Z H xs us Q I r h;obtain⟨i,rfl,hz,q⟩:=h;obtain⟨u,rfl,t,rfl⟩:=R0 r;exact PySem.P.str_of_int hz ⟨.str _,H,I.tok _,⟨_,rfl⟩,q⟩
end
structure rD (h:χ) (x dx C:J) (mA:Str->Option S):Prop where
 obj:h.get? x=Y (PySem.W.instObj C dx)
 ns:h.Ns1 dx mA
 ne:dx≠x
theorem ZS{h:χ}{dx:J}{mA:Str->Option S}(n:h.Ns1 dx mA):∃od,h.get? dx=Y od/\∀name,PySem.W.lookIn name od=Y (mA name):=by
 obtain⟨o,es,ep,ho,hd,hk,_,hm⟩:=n;refine⟨o,ho,λname=>?_⟩
 have e:=hm name;unfold nsFind findBy at e;rw[<-WS]at e;unfold PySem.W.lookIn;rw[hd];dsimp only;split
 ·rename_i y q;rw[q]at e;exact congrArg Y e
 ·rename_i q;rw[q]at e;have a:es.toList.any (·.refKey)=G:=by
   rw[WR];intro y hy;obtain⟨z,t,hkey⟩:=hk y (Array.mem_toList_iff.mp hy);simp[DictEntry.refKey,hkey]
  have a':¬es.toList.any (·.refKey)=L:=by rw[a];exact QY
  rw[if_neg a'];exact congrArg Y e
theorem rD.look{h:χ}{x dx C:J}{mA:Str->Option S}(I:rD h x dx C mA):∃od,PySem.W.InstAt h x (PySem.W.instObj C dx) C (Y od)/\∀name,PySem.W.lookIn name od=Y (mA name) :=
 let⟨od,ho,hl⟩:=ZS I.ns
 ⟨od,⟨I.obj,rfl,rfl,ho⟩,hl⟩
section
variable {prog:ο}{w:π}{A:ψ}{E:S->Ψ->Prop}{s:Ψ}{K:θ}{x dx C f:J}{mA:Str->Option S}{name:Str}{v:S}
theorem get_map{expr:Bool}{Q:S->Ψ->Prop}(X:K.In s.heap) (I:rD s.heap x dx C mA) (hg:PySem.W.plainGet K C name=L) (hh:PySem.W.hasDictIn K C=L)
  (ha:PySem.W.findIn K (.ref C) name=Y O) (hv:mA name=Y v) (hv':PySem.W.handedIn v=L) (h:Q v {s with toks:=s.toks+1}) :
  wpAny (model prog w) A (getAttr (.ref x) name expr) Q E s:=by
 obtain⟨od,Θ,hl⟩:=I.look;exact PySem.W.get_value X Θ (UU hg).1 (PySem.W.findObj_own hh ha rfl (by rw[hl,hv])) hv' h
theorem ack{pl:Sem Bool}{Q:S×List S->Ψ->Prop}(X:K.In s.heap) (I:rD s.heap x dx C mA) (hg:PySem.W.plainGet K C name=L)
  (hf:PySem.W.findIn K (.ref C) name=Y (Y (.ref f))) (ht:PySem.W.isFn K (.ref f)=L) (hv:mA name=O) (h:Q (.ref f,[.ref x]) s) :
  wpAny (model prog w) A (getMethod (.ref x) name pl) Q E s:=by
 obtain⟨od,Θ,hl⟩:=I.look;exact PySem.W.method_fn X Θ (UU hg).1 (UU hg).2 hf (beq_iff_eq.mp ht) (by show(PySem.W.lookIn name od).map (·.isSome)=Y G;rw[hl,hv];rfl) h
theorem aiB{ns:List Str}{Q:Unit->Ψ->Prop}(X:K.In s.heap) (I:rD s.heap x dx C mA)
  (hs:PySem.W.findIn K (.ref C) "__setattr__"=Y (Y (.builtin "object.__setattr__"))) (hp:PySem.W.plainOver K C=L) (ht:PySem.W.takerIn K C name=Y O) (hh:PySem.W.hasDictIn K C=L)
  (hw:V8 mA ns) (hsz:ns.length<=Ξ)
  (h:∀h',rD h' x dx C (λy=>if y=name then Y v else mA y)->SE dx s.heap h'->Q () {s with heap:=h',toks:=s.toks+2}) :
  wpAny (model prog w) A (setAttr (.ref x) name v) Q E s:=by
 obtain⟨od,Θ,hl⟩:=I.look;refine PySem.W.set_plain X Θ hs (PySem.W.osa_open (s:={s with toks:=s.toks+1}) (r:=O) X Θ hp ht λb=>?_)
 obtain⟨cd,hc,hd'⟩:=PySem.W.any_some hh;have hx:s.heap.get? x=Y ⟨.ref C,Y dx,.plain,#[]⟩:=I.obj;refine Rc (Xd (Rc (Rc (wpAny_loadPart hx (Rc (PySem.W.Looks.here (s:={s with toks:=s.toks+1}) (PySem.W.looks_clsIn X hc) ?_))))))
 rw[hd'];refine Xd (a:=Y dx) (Rc (Xd (Rc ?_)));refine wpAny_nsSet1 (s:={s with toks:=s.toks+1}) I.ns λh' hn2 hs2=>?_
 obtain⟨oD,esD,epD,hoD,hdD,hcD⟩:=hn2.count (PySem.Within.cons name v hw);refine Rc (wpAny_lookBehind hoD (by rw[hdD];exact pastItsLine_dict (Q3 hcD (by rw[Iv];omega))) ?_)
 exact Xd (h _ ⟨(hs2.2 _ (Q8 I.ne)).trans I.obj,hn2,I.ne⟩ hs2)
theorem ZI{R:Result->Ψ->Prop}{vs:List S}{kw:List (Str×S)}(X:K.In s.heap) (hm:PySem.W.makesIn K C=L)
  (hi:PySem.W.findIn K (.ref C) "__init__"=Y (Y (.ref f))) (hf:PySem.W.typeIn K (.ref f)=Y (.type "function"))
  (h:codeAny (model prog w) (A.under (.builtin "type.__call__" ⟨.ref C::vs,kw⟩)) (.call (.ref f) ⟨.ref (s.heap.objs.size+1)::vs,kw⟩) (PySem.W.InitBack (s.heap.objs.size+1) R)
   {s with heap:=(s.heap.push PySem.W.emptyDict).push (PySem.W.instObj C s.heap.objs.size)}) :
  codeAny (model prog w) A (.call (.ref C) ⟨vs,kw⟩) R s:=by
 obtain⟨hh,g,d,t,os⟩:=s;exact PySem.W.make_core (PySem.W.makes_of X hm) (PySem.W.looks_findIn X hi) (λself=>PySem.W.bind_fn X self hf) (.inl rfl) h
end
def ia(f:Str) (v:V):List (Str×V)->List (Str×V)
 |[]=>[(f,v)]
 |(g,x)::r=>if g=f then(g,v)::r else(g,x)::ia f v r
theorem NB(f g:Str) (v:V):∀fs:List (Str×V),(ia f v fs).lookup g=if g=f then Y v else fs.lookup g
 |[]=>by
  show List.lookup g [(f,v)]=_
  by_cases h:g=f
  ·have hb:(g==f)=L:=beq_iff_eq.mpr h;simp only[List.lookup,hb,if_pos h]
  ·have hb:(g==f)=G:=beq_eq_false_iff_ne.mpr h;simp only[List.lookup,hb,if_neg h]
 |(k,x)::r=>by
  have ih:=NB f g v r;rw[show ia f v ((k,x)::r)=(if k=f then(k,v)::r else(k,x)::ia f v r)from rfl]
  by_cases hk:k=f
  ·rw[if_pos hk]
   by_cases h:g=k
   ·have hb:(g==k)=L:=beq_iff_eq.mpr h;simp only[List.lookup,hb,if_pos (h.trans hk)]
   ·have hb:(g==k)=G:=beq_eq_false_iff_ne.mpr h;simp only[List.lookup,hb,if_neg (λe:g=f=>h (e.trans hk.symm))]
  ·rw[if_neg hk]
   by_cases h:g=k
   ·have hb:(g==k)=L:=beq_iff_eq.mpr h;simp only[List.lookup,hb,if_neg (λe:g=f=>hk (h.symm.trans e))]
   ·have hb:(g==k)=G:=beq_eq_false_iff_ne.mpr h;simp only[List.lookup,hb];exact ih
theorem Fp(f:Str) (v:V):∀fs:List (Str×V),f∈(ia f v fs).map (·.1)/\∀g,g∈fs.map (·.1)->g∈(ia f v fs).map (·.1)
 |[]=>⟨by simp[ia],λg h=>by simp at h⟩
 |(k,x)::r=>by
  obtain⟨i1,i2⟩:=Fp f v r;rw[show ia f v ((k,x)::r)=(if k=f then(k,v)::r else(k,x)::ia f v r)from rfl]
  by_cases hk:k=f
  ·rw[if_pos hk];subst hk;exact⟨by simp,λg h=>by simpa using h⟩
  ·rw[if_neg hk];refine⟨?_,λg h=>?_⟩
   ·rw[E1];exact RP _ i1
   ·rw[E1]at h ⊢
    rcases l8.mp h with e|e
    ·exact l8.mpr (.inl e)
    ·exact RP _ (i2 g e)
theorem NH(f:Str) (v:V):∀fs:List (Str×V),(ia f v fs).length<=fs.length+1
 |[]=>by simp[ia]
 |(k,x)::r=>by
  have ih:=NH f v r;rw[show ia f v ((k,x)::r)=(if k=f then(k,v)::r else(k,x)::ia f v r)from rfl]
  by_cases hk:k=f
  ·rw[if_pos hk,Iv,Iv];omega
  ·rw[if_neg hk,Iv,Iv];omega
theorem gQ.some_of{v:V}{o:Option S}(r:gQ (Y v) o):∃u,o=Y u/\RelV v u:=by
 cases o with
 |none=>exact(show False from r).elim
 |some u=>exact⟨u,rfl,r⟩
theorem gQ.none_of{o:Option S}(r:gQ O o):o=O:=by
 cases o with
 |none=>rfl
 |some u=>exact(show False from r).elim
theorem abV{v:V}{u:S}(r:RelV v u):PySem.W.handedIn u=L:=by
 cases v with
 |aE=>cases(show u=Value.none from r);rfl
 |bl b=>cases(show u=Value.bool b from r);rfl
 |int i=>obtain⟨t,e⟩:=(show ∃t,u=Value.int i t from r);cases e;rfl
 |str x=>obtain⟨t,e⟩:=(show ∃t,u=Value.str x t from r);cases e;rfl
 |iR b=>obtain⟨t,e⟩:=(show ∃t,u=Value.bytes b t from r);cases e;rfl
 |qE b=>obtain⟨t,e⟩:=(show ∃t,u=Value.float b t from r);cases e;rfl
 |ref a=>cases(show u=Value.ref a from r);rfl
 |ty n=>cases(show u=Value.type n from r);rfl
section
variable {P:ο}{w:π}{H H':Hp}{h h':χ}{a C dx:J}{fs fs':List (Str×V)}
theorem zX(hok:cL P w H h) (e:H a=Y (.ins C dx fs)):∃mA,rD h a dx C mA/\(∀f,gQ (fs.lookup f) (mA f))/\V8 mA (fs.map (·.1))/\fs.length<=1000/\H dx=Y (.own a):=by
 obtain⟨d,z,ne,ob,mA,n,r,q⟩:=(show d7 P w H h a (.ins C dx fs)from hok a _ e)
 exact⟨mA,⟨ob,n,ne⟩,r,q,z,d⟩
end
structure jS (K:θ) (C:J):Prop where
 pg:PySem.W.plainGet K C Str.empty=L
 hd:PySem.W.hasDictIn K C=L
 po:PySem.W.plainOver K C=L
 sa:PySem.W.findIn K (.ref C) "__setattr__"=Y (Y (.builtin "object.__setattr__"))
theorem jS.get{K:θ}{C:J}(c:jS K C) (f:Str):PySem.W.plainGet K C f=L:=c.pg
def mQ(K:θ) (C:J) (f:Str):Prop:=PySem.W.findIn K (.ref C) f=Y O
theorem mQ.aix{K:θ}{C:J}{f:Str}(n:mQ K C f):PySem.W.takerIn K C f=Y O:=by
 unfold PySem.W.takerIn;rw[show PySem.W.findIn K (.ref C) f=Y O from n]
 rfl
structure Meth (K:θ) (C:J) (m:Str) (f:J):Prop where
 at_:PySem.W.findIn K (.ref C) m=Y (Y (.ref f))
 fn:PySem.W.isFn K (.ref f)=L
 kp:PySem.W.keepIn K (.ref f)=L
section
variable {X:Cx}{pins:List (J×Obj)}{Z:St}{H:Hp}{s:Ψ}{a C dx:J}{fs:List (Str×V)}{f:Str}{v:V}{A:ψ}{E:S->Ψ->Prop}
theorem acj{b:Bool}{Q:S->Ψ->Prop}(I:Inv X pins Z H s) (e:H a=Y (.ins C dx fs)) (c:jS X.K C) (n:mQ X.K C f) (l:fs.lookup f=Y v)
  (h:∀u s',Inv X pins Z H s'->RelV v u->Q u s'):wpAny (model X.prog X.w) A (getAttr (.ref a) f b) Q E s:=by
 obtain⟨mA,η,r,_,_,_⟩:=zX I.hok e;obtain⟨u,hu,ru⟩:=gQ.some_of (v:=v) (o:=mA f) (by rw[<-l];exact r f)
 exact get_map I.dW η (c.get f) c.hd n hu (abV ru) (h u _ (I.tok _) ru)
theorem OJ{m:Str}{g:J}{pl:Sem Bool}{Q:S×List S->Ψ->Prop}(I:Inv X pins Z H s) (e:H a=Y (.ins C dx fs)) (c:jS X.K C) (k:Meth X.K C m g) (l:fs.lookup m=O)
  (h:Q (.ref g,[.ref a]) s):wpAny (model X.prog X.w) A (getMethod (.ref a) m pl) Q E s:=by
 obtain⟨mA,η,r,_,_,_⟩:=zX I.hok e;have hn:mA m=O:=gQ.none_of (by rw[<-l];exact r m)
 exact ack I.dW η (c.get m) k.at_ k.fn hn h
theorem aiF{y:V}{u:S}{Q:Unit->Ψ->Prop}(I:Inv X pins Z H s) (e:H a=Y (.ins C dx fs)) (c:jS X.K C) (n:mQ X.K C f) (hl:fs.length<1000) (ry:RelV y u)
  (h:∀s',Inv X pins Z (upd H a (.ins C dx (ia f y fs))) s'->Q () s'):wpAny (model X.prog X.w) A (setAttr (.ref a) f u) Q E s:=by
 obtain⟨mA,η,r,wi,_,ho⟩:=zX I.hok e;have hz:(fs.map (·.1)).length<=Ξ:=by rw[x8,S9];omega
 refine aiB I.dW η c.sa c.po n.aix c.hd wi hz λh' O' sb=>h _ ?_
 have hd:∃o,h'.get? dx=Y o:=let⟨o,_,_,e',_⟩:=O'.ns;⟨o,e'⟩
 refine I.write (x:=a) (e:=dx) (by rw[e];exact True.intro) (.inr ho) (λb q hb z=>(sb.2 b hb).trans z) hd ?_
 refine⟨by rw[aV η.ne];exact ho,?_,η.ne,O'.obj,_,O'.ns,λg=>?_,λg hg=>?_⟩
 ·have:=NH f y fs;omega
 ·show gQ ((ia f y fs).lookup g) (if g=f then Y u else mA g)
  rw[NB]
  by_cases q:g=f
  ·rw[if_pos q,if_pos q];exact ry
  ·rw[if_neg q,if_neg q];exact r g
 ·by_cases q:g=f
  ·rw[q];exact(Fp f y fs).1
  ·refine(Fp f y fs).2 g (wi g λz=>hg ?_)
   show(if g=f then Y u else mA g)=O
   rw[if_neg q];exact z
theorem Inv.made(I:Inv X pins Z H s):Inv X pins Z (upd (upd H s.heap.objs.size (.own (s.heap.objs.size+1))) (s.heap.objs.size+1) (.ins C s.heap.objs.size []))
  {s with heap:=(s.heap.push PySem.W.emptyDict).push (PySem.W.instObj C s.heap.objs.size)}:=by
 have e1:(s.heap.push PySem.W.emptyDict).get? s.heap.objs.size=Y PySem.W.emptyDict:=E3 s.heap rfl;have e2:((s.heap.push PySem.W.emptyDict).push (PySem.W.instObj C s.heap.objs.size)).get? (s.heap.objs.size+1)=Y (PySem.W.instObj C s.heap.objs.size):=by
  have:=E3 (s.heap.push PySem.W.emptyDict) (o:=PySem.W.instObj C s.heap.objs.size) rfl
  rwa[RK]at this
 have e3:(s.heap.push PySem.W.emptyDict).Ns s.heap.objs.size (λ_=>O):=⟨PySem.W.emptyDict,#[],_,e1,rfl,(λe he=>absurd he (by simp)),λ_=>rfl⟩
 have I1:=I.laid (a:=s.heap.objs.size) (o:=.own (s.heap.objs.size+1)) (h':=s.heap.push PySem.W.emptyDict) (t':=s.toks) (λb u q=>gn _ q) (ZA _) ⟨_,e1⟩
 refine I1.laid (a:=s.heap.objs.size+1) (o:=.ins C s.heap.objs.size []) (t':=s.toks) (λb u q=>gn _ q) (Rt (RK _ _)) ?_
 have ne:s.heap.objs.size≠s.heap.objs.size+1:=AP (Rr _);refine⟨by rw[aV ne,cV],RL _,ne,e2,λ_=>O,(Heap.Ns1.of_empty e3).at λo q=>gn _ q,λ_=>True.intro,λy hy=>absurd rfl hy⟩
theorem ad5{prog:ο}{w:π}{env:Env}{e:ν}{f:Str}{pos:Pos}{s:Ψ}{Q:S->Ψ->Prop}(hb:RM e f env (eval e env)=eval e env)
  (h:wpAny (model prog w) A (eval e env) (λo s₁=>wpAny (model prog w) A (getAttr o f L) Q E s₁) E s):wpAny (model prog w) A (eval (.Attribute e f pos) env) Q E s :=
 Attribute_any_ h (by rw[arm_eval_Attribute,hb])
end
def aik(K:θ) (ta:TE) (f:Str):TE:=λZ H Q=>ta Z H λx H1=>∃a C dx fs v,x=.ref a/\H1 a=Y (.ins C dx fs)/\jS K C/\mQ K C f/\fs.lookup f=Y v/\Q v H1
def yZ(K:θ) (ta tv:TE) (f:Str):TS:=λD Z H=>tv Z H λy H1=>ta Z H1 λx H2=>∃a C dx fs,x=.ref a/\H2 a=Y (.ins C dx fs)/\jS K C/\mQ K C f/\fs.length<1000 /\
 D.nx Z (upd H2 a (.ins C dx (ia f y fs)))
section
variable {X:Cx}{o e value:ν}{f:Str}{pos pos' tpos:Pos}{ta tv:TE}
theorem D7(he:PE X e ta) (hb:RM e f X.env (eval e X.env)=eval e X.env):PE X (.Attribute e f pos) (aik X.K ta f):=by
 intro pins s Z H Q I h;refine ad5 hb (aZ (he pins s Z H _ I h) λu s1 ⟨x,H1,I1,rx,a,C,dx,fs,v,ex,ea,c,n,l,q⟩=>?_)
 subst ex;obtain rfl:u=Value.ref a:=rx;exact acj I1 ea c n l λu' s2 I2 ru=>⟨v,H1,I2,ru,q⟩
theorem DV(ha:PE X o ta) (hv:PE X value tv) (hs:swapsWith value (Y (.Attribute o f pos')) pos.line X.env=pure G):PS X (.Assign [.Attribute o f pos'] value pos) (yZ X.K ta tv f):=by
 intro pins s Z H D I h;refine plainObj_wpAny_Assign_Attribute (aZ (hv pins s Z H _ I h) λu s1 ⟨y,H1,I1,ry,q⟩=>aZ (ha pins s1 Z H1 _ I1 q) λov s2 ⟨x,H2,I2,rx,a,C,dx,fs,ex,ea,c,n,l,q2⟩=>?_) hs
 subst ex;obtain rfl:ov=Value.ref a:=rx;exact aiF I2 ea c n l ry λs3 I3=>⟨Z,_,I3,q2⟩
end
section
variable {X:Cx}{pins:List (J×Obj)}{Z:St}{H:Hp}{s:Ψ}{A:ψ}{E:S->Ψ->Prop}{Q:S->Ψ->Prop}{c:S}{b:Bool}
inductive jn (K:θ) (H:Hp):V->S->Prop where
 |aE:jn K H .aE (.type "NoneType")
 |bl (x:Bool):jn K H (.bl x) (.type "bool")
 |int (i:Int):jn K H (.int i) (.type "int")
 |str (x:Str):jn K H (.str x) (.type "str")
 |qE (x:UInt64):jn K H (.qE x) (.type "float")
 |lst {a:J}{xs:List V}(e:H a=Y (.lst xs)):jn K H (.ref a) (.type "list")
 |cN {a:J}{o:Obj}{xs:List V}(e:H a=Y (.cN o (.lst xs))):jn K H (.ref a) (.type "list")
 |tup {a:J}{xs:List V}(e:H a=Y (.tup xs)):jn K H (.ref a) (.type "tuple")
 |dK {a:J}{kvs:List (Key×V)}(e:H a=Y (.dK kvs)):jn K H (.ref a) (.type "dict")
 |dT {a:J}{kvs:List (List Key×V)}(e:H a=Y (.dT kvs)):jn K H (.ref a) (.type "dict")
 |ins {a C dx:J}{fs:List (Str×V)}(e:H a=Y (.ins C dx fs)) (cl:jS K C) (ha:PySem.W.findIn K (.ref C) "__class__"=Y (Y (.builtin "object.__class__")))
   (hn:PySem.W.specialIn K (.builtin "object.__class__") "__get__"=Y (Y (.builtin "getset_descriptor.__get__"))) (htk:PySem.W.takesIn K (.builtin "object.__class__")=Y L)
   (hm:PySem.W.mroIn K C (.type "object")=Y L):jn K H (.ref a) (.ref C)
theorem aaO{x:V}{u t:S}(I:Inv X pins Z H s) (rx:RelV x u) (ty:jn X.K H x t) (e:PySem.W.kitOne X.K t c=Y b) (h:∀tk,Q (.bool b) {s with toks:=tk}) :
  wpAny (model X.prog X.w) A (call (.builtin "isinstance") [u,c]) Q E s:=by
 cases ty with
 |aE=>cases(show u=Value.none from rx);exact RZ PySem.W.kitx_none I.dW True.intro e (λz=>nomatch z) h
 |bl y=>cases(show u=Value.bool y from rx);exact RZ PySem.W.kitx_bool I.dW True.intro e (λz=>nomatch z) h
 |int i=>obtain⟨t,q⟩:=(show ∃t,u=Value.int i t from rx);cases q;exact RZ PySem.W.kitx_int I.dW True.intro e (λz=>nomatch z) h
 |str y=>obtain⟨t,q⟩:=(show ∃t,u=Value.str y t from rx);cases q;exact RZ PySem.W.kitx_str I.dW True.intro e (λz=>nomatch z) h
 |qE y=>obtain⟨t,q⟩:=(show ∃t,u=Value.float y t from rx);cases q;exact RZ PySem.W.kitx_float I.dW True.intro e (λz=>nomatch z) h
 | @lst a xs ea =>
  cases(show u=Value.ref a from rx)
  obtain⟨_,_,n,_,h1⟩:=(show d7 X.prog X.w H s.heap a (.lst xs)from I.hok a _ ea)
  exact RZ WQ I.dW ⟨_,h1,rfl⟩ e (λz=>nomatch z) h
 | @cN a ob xs ea =>
  cases(show u=Value.ref a from rx)
  obtain⟨_,_,_,n,_,h1⟩:=(show d7 X.prog X.w H s.heap a (.cN ob (.lst xs))from I.hok a _ ea)
  exact RZ WQ I.dW ⟨_,h1,rfl⟩ e (λz=>nomatch z) h
 | @tup a xs ea =>
  cases(show u=Value.ref a from rx)
  obtain⟨_,_,_,p⟩:=(show d7 X.prog X.w H s.heap a (.tup xs)from I.hok a _ ea)
  obtain⟨o,h1,h2,_⟩:=p;exact RZ PySem.W.kitx_tuple I.dW ⟨o,h1,h2⟩ e (λz=>nomatch z) h
 | @dK a kvs ea =>
  cases(show u=Value.ref a from rx)
  obtain⟨_,_,vs,_,p⟩:=(show d7 X.prog X.w H s.heap a (.dK kvs)from I.hok a _ ea)
  obtain⟨o,es,ep,h1,h2,_⟩:=p;exact RZ UT I.dW ⟨o,h1,h2.1⟩ e (λz=>nomatch z) h
 | @dT a kvs ea =>
  cases(show u=Value.ref a from rx)
  obtain⟨_,_,xs,_,o,es,ep,h1,h2,_⟩:=(show d7 X.prog X.w H s.heap a (.dT kvs)from I.hok a _ ea)
  exact RZ UT I.dW ⟨o,h1,h2.1⟩ e (λz=>nomatch z) h
 | @ins a C dx fs ea cl ha hn htk hm =>
  cases(show u=Value.ref a from rx)
  obtain⟨mA,η,_⟩:=zX I.hok ea;obtain⟨od,Θ,_⟩:=η.look;exact RZ (PySem.W.kitx_own (cl.get _) cl.hd ha hn htk hm) I.dW Θ e (λz=>nomatch z) h
end
structure b7 (k:Nat) (A:ψ):Prop where
 hd:A.handled=O
 dp:A.depth+3*k+5<recursionLimit
 un:A.units+16*k+200<QS
theorem b7.mono{j k:Nat}{A:ψ}(r:b7 k A) (h:j<=k):b7 j A:=⟨r.hd,by have:=r.dp;omega,by have:=r.un;omega⟩
theorem b7.deeper{k:Nat}{A:ψ}(r:b7 (k+1) A) (env:Env):b7 k (A.deeper env) :=
 ⟨r.hd,by have:=r.dp;show A.depth+1+3*k+5<_;omega,by have:=r.un;show A.units+3+16*k+200<_;omega⟩
theorem ZJ{A:ψ}{C:J}{us:List S}{kw:List (Str×S)}:(A.under (.builtin "type.__call__" ⟨.ref C::us,kw⟩)).depth=A.depth+1:=by
 first|rfl|simp[Around.under,Code.weight,Code.isCreation,Code.isGuard,Code.isCaller,Code.frames,Code.isFrame,guardIds]
theorem ZH{A:ψ}{C:J}{us:List S}{kw:List (Str×S)}:(A.under (.builtin "type.__call__" ⟨.ref C::us,kw⟩)).units=A.units+1:=by
 first|rfl|simp[Around.under,Code.cUnits,Code.frames,Code.isFrame]
theorem b7.make{k:Nat}{A:ψ}(r:b7 (k+1) A) (C:J) (us:List S) (kw:List (Str×S)):b7 k (A.under (.builtin "type.__call__" ⟨.ref C::us,kw⟩)) :=
 ⟨r.hd,by have:=r.dp;rw[ZJ];omega,by have:=r.un;rw[ZH];omega⟩
theorem b7.depth{k:Nat}{A:ψ}(r:b7 k A):A.depth<recursionLimit:=by have:=r.dp;omega
def vh:TA:=λ_ H Q=>Q [] H
def De(ta:TE) (tr:TA):TA:=λZ H Q=>ta Z H λx H1=>tr Z H1 λxs H2=>Q (x::xs) H2
section
variable {X:Cx}{e:ν}{es:List ν}{te:TE}{t:TA}{pos:Pos}
theorem iN:PA X [] vh:=λ_ _ _ _ H Q I h=>Calls.spliced_nil ⟨[],H,I,.nil,h⟩
theorem ic(ha:PE X e te) (hr:PA X es t) (hs:ε (e::es) X.env=(G,eval e X.env)::ε es X.env:=by rfl):PA X (e::es) (De te t):=by
 intro pos pins s Z H Q I h;rw[hs];show wpAny _ _ (spliced ((G,eval e X.env)::ω pos (ε es X.env))) _ _ s;refine Calls.spliced_cons (aZ (ha pins s Z H _ I h) λu s1 ⟨x,H1,I1,r1,q1⟩=>?_)
 exact aZ (hr pos pins s1 Z H1 _ I1 q1) λus s2 ⟨xs,H2,I2,r2,q2⟩=>⟨x::xs,H2,I2,.cons r1 r2,q2⟩
def JL(t:TA):TE:=λZ H Q=>t Z H λxs H1=>xs.length<=Ξ/\∀p,H1 p=O->Q (.ref p) (upd H1 p (.tup xs))
def JP(t:TA):TE:=λZ H Q=>t Z H λxs H1=>xs.length<=Ξ/\∀p,H1 p=O->Q (.ref p) (upd H1 p (.lst xs))
theorem L3{x1}(h:PA X es t):PE X (.Tuple es x1 pos) (JL t):=by
 intro pins s Z H Q I hq;refine wpAny_Tuple_spliced (aZ (h pos pins s Z H _ I hq) λus s1 ⟨xs,H1,I1,r,z,q⟩=>⟨by rw[<-r.length];exact z,?_⟩)
 have hf:H1 s1.heap.objs.size=O:=I1.hok.fresh (ZA _);refine⟨.ref s1.heap.objs.size,upd H1 s1.heap.objs.size (.tup xs),I1.laid (t':=s1.toks) (λb u e=>gn _ e) (ZA _) ?_,rfl,q _ hf⟩
 exact⟨z,us,r,⟨_,E3 _ rfl,rfl,⟨_,rfl⟩,rfl⟩⟩
theorem D5(h:PA X es t):PE X (.List es pos) (JP t):=by
 intro pins s Z H Q I hq;refine wpAny_List_spliced (aZ (h pos pins s Z H _ I hq) λus s1 ⟨xs,H1,I1,r,z,q⟩=>⟨by rw[<-r.length];exact z,?_⟩)
 have hf:H1 s1.heap.objs.size=O:=I1.hok.fresh (ZA _);refine⟨.ref s1.heap.objs.size,upd H1 s1.heap.objs.size (.lst xs),I1.laid (t':=s1.toks) (λb u e=>gn _ e) (ZA _) ?_,rfl,q _ hf⟩
 exact⟨z,us,0,r,E3 _ rfl⟩
end
abbrev Sp:=List V->Hp->VK->XK->Prop
abbrev o9:=List Env->Hp->Ψ->XK->S->Ψ->Prop
structure lJ (P:ο) (w:π) (K:θ) (mg:Str->Option S) (base:χ) (A:ψ) (outer:List Env) (s:Ψ) (H:Hp):Prop where
 frames:A.frames=Y outer
 mod:Mod K mg base
 bs:∀b o,base.get? b=Y o->s.heap.get? b=Y o/\H b=O
 iS:base.objs.size<=s.heap.objs.size
 ir:s.heap.FunFrames base outer
 kq:∀b∈frs outer,H b=O
 hok:cL P w H s.heap
 bare:Rz s.gens
def CE(outer:List Env) (P:ο) (w:π) (H:Hp) (s:Ψ) (Q:VK) (u:S) (s':Ψ):Prop :=
 ∃v H',s'.os=s.os/\Rz s'.gens/\Un (frs outer) [] H H' s.heap s'.heap/\cL P w H' s'.heap/\RelV v u/\Q v H'
def CR(CX:o9) (outer:List Env) (P:ο) (w:π) (H:Hp) (s:Ψ) (Q:VK) (E:XK) (r:Result) (s':Ψ):Prop :=
 match r with
 |.ok (.ret u)=>CE outer P w H s Q u s'
 |.ok _=>False
 |.error e=>CX outer H s E e s'
structure cg (P:ο) (w:π) (K:θ) (mg:Str->Option S) (base:χ) (CX:o9) (k:Nat) (f:J) (fd:Q2) (ps:List Str) (sp:Sp):Prop where
 len:∀vs H Q E,sp vs H Q E->vs.length=ps.length
 run:∀(A:ψ) (outer:List Env) (s:Ψ) (H:Hp) (args:Args) (us:List S) (vs:List V) (Q:VK) (E:XK),b7 k A->lJ P w K mg base A outer s H->SH s fd args (ps.zip us)->Vals vs us->sp vs H Q E ->
  codeAny (model P w) A (.call (.ref f) args) (CR CX outer P w H s Q E) s
theorem lJ.make{P:ο}{w:π}{K:θ}{mg:Str->Option S}{base:χ}{A:ψ}{outer:List Env}{s:Ψ}{H:Hp}(e:lJ P w K mg base A outer s H) (C:J) (us:List S) (kw:List (Str×S)) :
  lJ P w K mg base (A.under (.builtin "type.__call__" ⟨.ref C::us,kw⟩)) outer s H:=⟨by first|exact e.frames|(simpa[Around.under,Code.envs,Code.isFrame,pushEnvs]using e.frames),e.mod,e.bs,e.iS,e.ir,e.kq,e.hok,e.bare⟩
section
variable {X:Cx}{pins:List (J×Obj)}{Z:St}{H:Hp}{s s':Ψ}
theorem Inv.A9(I:Inv X pins Z H s):lJ X.prog X.w X.K X.mg X.base X.A X.stack s H :=
 ⟨I.ok.frames,I.ok.mod,I.bs,Q3 I.ok.iS I.sz,I.stack,I.Di,I.hok,I.bare⟩
theorem Inv.after{Q:VK}{u:S}(I:Inv X pins Z H s) (h:CE X.stack X.prog X.w H s Q u s'):EP X pins Z Q u s':=by
 obtain⟨v,H',os,bare,un,hok,r,q⟩:=h;obtain⟨hh,g,d,t,os'⟩:=s';obtain rfl:os'=s.os:=os;exact⟨v,H',I.call (h':=hh) (g':=g) (d':=d) (t':=t) (ch:=[]) un hok bare (λb z=>absurd z (by simp)),r,q⟩
end
def JW(sp:Sp) (fV:List V) (E:XK) (t:TA):TE:=λZ H Q=>t Z H λvs H1=>sp (vs++fV) H1 Q E
def JO(C:J) (m:Str) (sp:Sp) (fV:List V) (E:XK) (ta:TE) (t:TA):TE:=λZ H Q=>ta Z H λx H1=>∃a dx fs,x=.ref a/\H1 a=Y (.ins C dx fs)/\fs.lookup m=O /\
 t Z H1 λvs H2=>sp (x::(vs++fV)) H2 Q E
def ah2(C:J) (sp:Sp) (fV:List V) (E:XK) (t:TA):TE:=λZ H Q=>t Z H λvs H1=>∀x dx,H1 x=O->H1 dx=O->dx≠x ->
 sp (.ref x::(vs++fV)) (upd (upd H1 dx (.own x)) x (.ins C dx [])) (λv H2=>v=.aE/\Q (.ref x) H2) E
def Binds(K:θ) (fd:Q2) (ps:List Str) (ds:List S):Prop :=
 ∀(s:Ψ) (us:List S),K.In s.heap->(us++ds).length=ps.length->SH s fd ⟨us,[]⟩ (ps.zip (us++ds))
theorem Binds.all{K:θ}{fd:Q2}{ps:List Str}(h:∀us:List S,us.length=ps.length->bindArgs fd ⟨us,[]⟩=pure (ps.zip us)):Binds K fd ps []:=λs us _ hl=>by
 rw[RY]at hl ⊢;exact .of_eq (h us hl)
def Passes(CX:o9) (X:Cx) (E:XK):Prop:=∀(pins:List (J×Obj)) (Z:St) (H:Hp) (s:Ψ) (e:S) (s':Ψ),Inv X pins Z H s->CX X.stack H s E e s'->X.xe e s'
section
variable {X:Cx}{CX:o9}{k:Nat}{f C:J}{fd:Q2}{ps:List Str}{sp:Sp}{fV:List V}{ds:List S}{E:XK}{x m:Str}{p pos apos:Pos}{e o:ν}{es:List ν}{ta:TE}{t:TA}
theorem DO{pins:List (J×Obj)}{Z:St}{H:Hp}{s:Ψ}{Q:VK}{us:List S}{vs:List V}(F:cg X.prog X.w X.K X.mg X.base CX k f fd ps sp) (hr:b7 k X.A) (hb:Binds X.K fd ps ds) (hd:Vals fV ds) (hx:Passes CX X E)
  (I:Inv X pins Z H s) (r:Vals vs us) (h:sp (vs++fV) H Q E):wpAny (model X.prog X.w) X.A (call (.ref f) us) (EP X pins Z Q) X.xe s:=by
 have r2:Vals (vs++fV) (us++ds):=r.append hd;have hl:(us++ds).length=ps.length:=by rw[<-r2.length];exact F.len _ _ _ _ h
 refine Sm (Rq (F.run X.A X.stack s H ⟨us,[]⟩ (us++ds) (vs++fV) Q E hr I.A9 (hb s us I.dW hl) r2 h) λr s' hq=>?_)
 cases r with
 |error e=>exact hx pins Z H s e s' I hq
 |ok fl =>
  cases fl with
  |ret u=>exact I.after hq
  |next=>exact False.elim hq
  |brk=>exact False.elim hq
  |cont=>exact False.elim hq
theorem ak3(F:cg X.prog X.w X.K X.mg X.base CX k f fd ps sp) (hr:b7 k X.A) (hg:Gl X x) (hm:X.mg x=Y (.ref f)) (hk:PySem.W.keepIn X.K (.ref f)=L) (hb:Binds X.K fd ps ds) (hd:Vals fV ds) (hx:Passes CX X E)
  (ha:PA X (e::es) t) (hdb:(x==("__debug__":Str))=G:=by decide) (he:ε (e::es) X.env=(G,eval e X.env)::ε es X.env:=by rfl) (hpl:(ω pos (ε es X.env)).any (·.1)=G:=by rfl) :
  PE X (.Call (.Name x p) (e::es) [] pos) (JW sp fV E t):=by
 intro pins s Z H Q I h;refine Sl (zR I hg hm ?_ hdb);refine US (h₀:=X.base) I.ok.mod.fT hk (aZ (ha pos pins s Z H _ I h) λus s1 ⟨vs,H1,I1,r,q⟩=>⟨I1.dW,?_⟩) he hpl
 exact DO F hr hb hd hx I1 r q
theorem L6{pl:Sem Bool}(he:PE X o ta) (c:jS X.K C) (hm:Meth X.K C m f) (F:cg X.prog X.w X.K X.mg X.base CX k f fd ps sp) (hr:b7 k X.A) (hb:Binds X.K fd ps ds) (hd:Vals fV ds) (hx:Passes CX X E) (ha:PA X (e::es) t)
  (hst:ε (e::es) X.env=(G,eval e X.env)::ε es X.env:=by rfl) (hpl:(ω pos (ε es X.env)).any (·.1)=G:=by rfl)
  (ht:eval (.Call (.Attribute o m apos) (e::es) [] pos) X.env=(do
   let ov <-eval o X.env
   standAt apos.atName
   let(f,first) <-holding [ov] (getMethod ov m pl)
   callWith pos f first (ω pos (ε (e::es) X.env)) (RA pos (RB [] X.env))):=by rfl) :
  PE X (.Call (.Attribute o m apos) (e::es) [] pos) (JO C m sp fV E ta t):=by
 intro pins s Z H Q I h;refine WO (pl:=pl) (aZ (he pins s Z H _ I h) λu s1 ⟨x,H1,I1,rx,a,dx,fs,ex,ea,l,q⟩=>?_) ht
 subst ex;obtain rfl:u=Value.ref a:=rx;refine OJ I1 ea c hm l ?_;refine US (first:=[.ref a]) (h₀:=X.base) I.ok.mod.fT hm.kp (aZ (ha pos pins s1 Z H1 _ I1 q) λus s2 ⟨vs,H2,I2,r,q2⟩=>⟨I2.dW,?_⟩) hst hpl
 exact DO (us:=.ref a::us) (vs:=.ref a::vs) F hr hb hd hx I2 (.cons rfl r) q2
theorem Wv{pl:Sem Bool}(he:PE X o ta) (c:jS X.K C) (hm:Meth X.K C m f) (F:cg X.prog X.w X.K X.mg X.base CX k f fd ps sp) (hr:b7 k X.A) (hb:Binds X.K fd ps ds) (hd:Vals fV ds) (hx:Passes CX X E)
  (ht:eval (.Call (.Attribute o m apos) [] [] pos) X.env=(do
   let ov <-eval o X.env
   standAt apos.atName
   let(f,first) <-holding [ov] (getMethod ov m pl)
   callWith pos f first (ω pos (ε [] X.env)) (RA pos (RB [] X.env))):=by rfl) :
  PE X (.Call (.Attribute o m apos) [] [] pos) (JO C m sp fV E ta vh):=by
 intro pins s Z H Q I h;refine WO (pl:=pl) (aZ (he pins s Z H _ I h) λu s1 ⟨x,H1,I1,rx,a,dx,fs,ex,ea,l,q⟩=>?_) ht
 subst ex;obtain rfl:u=Value.ref a:=rx;refine OJ I1 ea c hm l ?_;exact WN (first:=[.ref a]) I1.dW hm.kp (DO (us:=[.ref a]) (vs:=[.ref a]) F hr hb hd hx I1 (.cons rfl .nil) q)
structure Mk (K:θ) (C f:J):Prop where
 makes:PySem.W.makesIn K C=L
 init:PySem.W.findIn K (.ref C) "__init__"=Y (Y (.ref f))
 fn:PySem.W.isFn K (.ref f)=L
 kp:PySem.W.keepIn K (.ref C)=L
theorem ai0{pins:List (J×Obj)}{Z:St}{H:Hp}{s:Ψ}{Q:VK}{us:List S}{vs:List V}(M:Mk X.K C f) (F:cg X.prog X.w X.K X.mg X.base CX k f fd ps sp) (hr:b7 (k+1) X.A) (hb:Binds X.K fd ps ds) (hd:Vals fV ds)
  (hx:Passes CX X E) (I:Inv X pins Z H s) (r:Vals vs us)
  (h:∀x dx,H x=O->H dx=O->dx≠x->sp (.ref x::(vs++fV)) (upd (upd H dx (.own x)) x (.ins C dx [])) (λv H2=>v=.aE/\Q (.ref x) H2) E) :
  wpAny (model X.prog X.w) X.A (call (.ref C) us) (EP X pins Z Q) X.xe s:=by
 have hq:=h (s.heap.objs.size+1) s.heap.objs.size (I.hok.fresh (Rx _)) (I.hok.fresh (ZA _)) (AP (Rr _));have I2:=Inv.made (C:=C) I;have r2:Vals (V.ref (s.heap.objs.size+1)::(vs++fV)) (Value.ref (s.heap.objs.size+1)::(us++ds)):=.cons rfl (r.append hd);have hl:(Value.ref (s.heap.objs.size+1)::us++ds).length=ps.length:=by
  have e:=r2.length;rw[F.len _ _ _ _ hq]at e;exact e.symm
 refine Sm (ZI (f:=f) I.dW M.makes M.init (beq_iff_eq.mp M.fn) (Rq (F.run _ X.stack _ _ ⟨Value.ref (s.heap.objs.size+1)::us,[]⟩ (Value.ref (s.heap.objs.size+1)::(us++ds)) _ _ E (hr.make C us [])
  (I2.A9.make C us []) (hb _ (Value.ref (s.heap.objs.size+1)::us) I2.dW hl) r2 hq) λr s' hq'=>?_))
 cases r with
 |error e=>exact hx pins Z _ _ e s' I2 hq'
 |ok fl =>
  cases fl with
  |ret u =>
   obtain⟨v,H',I3,rv,ev,q3⟩:=I2.after hq';subst ev;exact⟨rv,⟨V.ref (s.heap.objs.size+1),H',I3,rfl,q3⟩⟩
  |next=>exact False.elim hq'
  |brk=>exact False.elim hq'
  |cont=>exact False.elim hq'
theorem L7(M:Mk X.K C f) (F:cg X.prog X.w X.K X.mg X.base CX k f fd ps sp) (hr:b7 (k+1) X.A) (hg:Gl X x) (hm:X.mg x=Y (.ref C)) (hb:Binds X.K fd ps ds) (hd:Vals fV ds) (hx:Passes CX X E)
  (hdb:(x==("__debug__":Str))=G:=by decide):PE X (.Call (.Name x p) [] [] pos) (ah2 C sp fV E vh):=by
 intro pins s Z H Q I h;refine Sl (zR I hg hm ?_ hdb);exact WN I.dW M.kp (ai0 (us:=[]) M F hr hb hd hx I .nil h)
end
structure eO (N P:List Str) (sc:Q5):Prop where
 kind:sc.kind=.function
 co:sc.isCoroutine=G
 gen:sc.isGenerator=G
 nd:N.Nodup
 pre:N.take P.length=P
 par:∀x∈P,sc.names.lookup x=Y .local\/sc.names.lookup x=Y .cell
 YY:∀y∈sc.names,y.2≠.free
theorem Qn{kindOf:Str->Option QU}{x:Str}:∀{binds:List (Str×S)}{m:Str->Option S},(∀v,(x,v)∉binds)->bindL kindOf binds m x=m x
 |[],_,_=>rfl
 |(n,v)::r,m,h=>by
  unfold bindL;rw[Qn λw hw=>h w (RP _ hw)]
  split
  ·have:x≠n:=by rintro rfl;exact h v Rk
   simp[this]
  ·rfl
theorem Qp{kindOf:Str->Option QU}{x:Str}:∀{binds:List (Str×S)}{m:Str->Option S},(∀v,(x,v)∉binds)->bindC kindOf binds m x=m x
 |[],_,_=>rfl
 |(n,v)::r,m,h=>by
  unfold bindC;rw[Qp λw hw=>h w (RP _ hw)]
  split
  ·rfl
  ·have:x≠n:=by rintro rfl;exact h v Rk
   simp[this]
theorem Qo{kindOf:Str->Option QU}{x:Str}{v:S}:∀{P:List Str}{vs:List S}{i:Nat}{m:Str->Option S},P.Nodup->P[i]? = Y x->vs[i]? = Y v->kindOf x=Y .local ->
  bindL kindOf (P.zip vs) m x=Y v
 |[],_,_,_,_,h,_,_=>by simp at h
 |_::_,[],_,_,_,_,h,_=>by simp at h
 |p::P,w::vs,0,m,nd,h1,h2,hk=>by
  simp at h1 h2;subst h1;subst h2;show bindL kindOf ((p,w)::P.zip vs) m p=_;unfold bindL;rw[Qn λv hv=>(S8.mp nd).1 (T4 hv).1,if_pos hk]
  simp
 |p::P,w::vs,i+1,m,nd,h1,h2,hk=>by
  show bindL kindOf ((p,w)::P.zip vs) m x=_;unfold bindL;exact Qo (i:=i) (S8.mp nd).2 (by simpa using h1) (by simpa using h2) hk
theorem Qq{kindOf:Str->Option QU}{x:Str}{v:S}:∀{P:List Str}{vs:List S}{i:Nat}{m:Str->Option S},P.Nodup->P[i]? = Y x->vs[i]? = Y v->kindOf x≠Y .local ->
  bindC kindOf (P.zip vs) m x=Y v
 |[],_,_,_,_,h,_,_=>by simp at h
 |_::_,[],_,_,_,_,h,_=>by simp at h
 |p::P,w::vs,0,m,nd,h1,h2,hk=>by
  simp at h1 h2;subst h1;subst h2;show bindC kindOf ((p,w)::P.zip vs) m p=_;unfold bindC;rw[Qp λv hv=>(S8.mp nd).1 (T4 hv).1,if_neg hk]
  simp
 |p::P,w::vs,i+1,m,nd,h1,h2,hk=>by
  show bindC kindOf ((p,w)::P.zip vs) m x=_;unfold bindC;exact Qq (i:=i) (S8.mp nd).2 (by simpa using h1) (by simpa using h2) hk
def start(N:List Str) (vs:List V):St:=vs.map Y++τ (N.length-vs.length) O
def jl(CX:o9) (P:ο) (w:π) (K:θ) (mg:Str->Option S) (base:χ) (N:List Str) (qual:Str) (scope:Q5) (f:J) (cd:S) (A:ψ) (outer:List Env) (s:Ψ) (H:Hp) (E:XK):Cx where
 prog:=P
 w:=w
 K:=K
 mg:=mg
 base:=base
 A:=A.deeper (envOfC qual scope s.heap.objs.size f cd)
 N:=N
 s₀:=s
 H₀:=H
 env:=envOfC qual scope s.heap.objs.size f cd
 outer:=outer
 stack:=envOfC qual scope s.heap.objs.size f cd::outer
 ex:=[]
 calm:=L
 fn:=λ_=>L
 pn:=[]
 xe:=λe s'=>wpAny (model P w) (A.deeper (envOfC qual scope s.heap.objs.size f cd)) (leaving (envOfC qual scope s.heap.objs.size f cd) e) (λ_ s''=>CX outer H s E e s'') (λe' s''=>CX outer H s E e' s'') s'
theorem Qe{sc:Q5}{n:Nat}{x:Str}(h:sc.names.lookup x=Y .cell):∃c,(cellsFrom n sc.names []).lookup x=Y c:=by
 have q:=Tr sc.names n [] (.inl h);exact T3.mp q
theorem aaV{CX:o9}{P:ο}{w:π}{K:θ}{mg:Str->Option S}{base:χ}{N ps:List Str}{qual:Str}{scope:Q5}{f:J}{cd:S}{A:ψ}{outer:List Env}{s s1:Ψ}{H:Hp}{E:XK}{us:List S}{vs:List V}
  (Γ:eO N ps scope) (hd:A.handled=O) (e0:lJ P w K mg base A outer s H) (hl:vs.length=ps.length) (r:Vals vs us)
  (x:InCallC s s.heap.objs.size (bindL (envOfC qual scope s.heap.objs.size f cd).kindOf (ps.zip us) λ_=>O) (cellsFrom (s.heap.objs.size+1) scope.names []) (bindC (envOfC qual scope s.heap.objs.size f cd).kindOf (ps.zip us) λ_=>O) s1) :
  Inv (jl CX P w K mg base N qual scope f cd A outer s H E) [] (start N vs) H s1:=by
 have hpl:ps.length<=N.length:=by have:=congrArg List.length Γ.pre;rw[Sz]at this;omega
 obtain⟨h1,tk,rfl,hk⟩:=x.done;have lV:∀b:J,b∉(jl CX P w K mg base N qual scope f cd A outer s H E).ex:=λb z=>absurd (show b∈([]:List J)from z) (by simp)
 refine⟨⟨e0.mod,Γ.kind,rfl,rfl,ZA _,λy z c h1 h2=>?_,λy hy=>?_,λy c _ h=>?_,λ_=>hd,Around.frames_deeper e0.frames,.inr ⟨rfl,rfl⟩,λb z=>absurd z (lV b),e0.bs,e0.iS,λb _ _=>lV b,λb z=>absurd z (lV b),e0.ir,e0.kq⟩,
  rfl,e0.bare,Un.kept hk,⟨_,x.toInCall.ns,λi y v h1 h2 h3=>?_⟩,λy c h=>⟨_,x.cell y c h⟩,e0.hok.fresh (ZA _),λy c h=>?_,λp hp=>absurd (show p∈([]:List (J×Obj))from hp) (by simp),e0.hok.kept hk,?_⟩
 ·exact name_of_addr x.apart (Rh h1) (Rh h2)
 ·have hy:scope.names.lookup y=Y .cell\/scope.names.lookup y=Y .free:=hy
  rcases hy with hy|hy
  ·exact Qe hy
  ·exact absurd rfl (Γ.YY _ (Rh hy))
 ·exact SD (x.above y c (Rh h))
 ·have hi:i<vs.length:=by
   unfold start at h2
   by_cases hi:i<vs.length
   ·exact hi
   ·rw[RC (by simpa using hi)]at h2
    rw[List.getElem?_replicate]at h2;split at h2<;>cases h2
  have ha:vs[i]? = Y v:=by
   unfold start at h2;rw[RJ (by simpa using hi),Q9]at h2
   cases e:vs[i]? with
   |none=>rw[e]at h2;cases h2
   |some a=>rw[e]at h2;cases h2;rfl
  obtain⟨u,hu,rv⟩:=r.get ha;have hp:ps[i]? = Y y:=by
   rw[<-Γ.pre,WM (by omega)];exact h1
  have Nf:ps.Nodup:=by rw[<-Γ.pre];exact Γ.nd.sublist (UR _ _)
  refine⟨u,rv,?_⟩
  rcases Γ.par y (R5 hp)with k|k
  ·exact .inl ⟨k,Qo Nf hp hu k⟩
  ·obtain⟨c,e⟩:=Qe (n:=s.heap.objs.size+1) k;refine .inr ⟨.inl k,c,e,?_⟩;have q:=x.cell y c e;rw[Qq Nf hp hu (by show scope.names.lookup y≠_;rw[k];decide)]at q
   exact q
 ·exact e0.hok.fresh (SD (x.above y c (Rh h)))
 ·unfold start;show _=N.length;rw[QT,x8,List.length_replicate];omega
theorem O7{CX:o9}{P:ο}{w:π}{K:θ}{mg:Str->Option S}{base:χ}{k:Nat}{f:J}{name qual:Str}{params:SS}{body:List υ}{scope:Q5}{dV kV doc pm cdv ct oc:S}{an od:Option J}
  {osl:Array (Option S)}{N ps:List Str}{sp:Sp}(lk:K.lookup f=Y ⟨oc,od,.func (PySem.W.fnOf name qual params body scope dV kV doc pm an cdv ct),osl⟩) (hcd:PySem.W.codeIn K cdv qual=L) (Γ:eO N ps scope)
  (len:∀vs H Q E,sp vs H Q E->vs.length=ps.length)
  (hbody:∀(A:ψ) (outer:List Env) (s:Ψ) (H:Hp) (vs:List V) (Q:VK) (E:XK),b7 k (A.deeper (envOfC qual scope s.heap.objs.size f cdv))->sp vs H Q E ->
   ∃t,gm (jl CX P w K mg base N qual scope f cdv A outer s H E) body t/\t {nx:=λ_ H'=>Q .aE H',rt:=Q} (start N vs) H) :
  cg P w K mg base CX (k+1) f (PySem.W.fnOf name qual params body scope dV kV doc pm an cdv ct) ps sp:=by
 refine⟨len,λA outer s H args us vs Q E hr e0 hb r jJ=>?_⟩
 have hl:=len _ _ _ _ jJ;have KX:K.In s.heap:=e0.mod.fT.keeps λb o e=>(e0.bs b o e).1
 have lim:s.heap.NoLimit:=e0.mod.nolimit.keeps λb o e=>(e0.bs b o e).1
 have hkind:∀y∈ps.zip us,scope.names.lookup y.1=Y .local\/(scope.names.lookup y.1=Y .cell/\((cellsFrom (s.heap.objs.size+1) scope.names []).lookup y.1).isSome=L):=fun⟨n,v⟩ hy=>by
  rcases Γ.par n (T4 hy).1 with q|q
  ·exact .inl q
  ·exact .inr ⟨q,Tr _ _ _ (.inl q)⟩
 refine codeAny_call_function hr.depth (KX _ _ lk) rfl Γ.co Γ.gen rfl (PySem.W.codeRec_of KX hcd) (hb _ _ _ _ ?_);refine wpAny_newFunctionEnv_cells Γ.kind hkind λenv he s1 x=>?_
 subst he;refine⟨lim.keeps x.toInCall.keep,codeAny_func ?_⟩;obtain⟨t,ht,hq⟩:=hbody A outer s H vs Q E (hr.deeper _) jJ;have I:Inv (jl CX P w K mg base N qual scope f cdv A outer s H E) [] (start N vs) H s1:=aaV Γ hr.hd e0 hl r x;refine QW (ht [] s1 (start N vs) H _ I hq) (λfl s' hs=>?_) λe s' hs=>hs
 have fin:∀{σ':St}{H':Hp}{v:V}{u:S},Inv (jl CX P w K mg base N qual scope f cdv A outer s H E) [] σ' H' s'->RelV v u->Q v H'->CE outer P w H s Q u s' :=
  fun{σ' H' v u} Θ rv q=>⟨v,H',Θ.os,Θ.bare,Θ.base,Θ.hok,rv,q⟩
 cases fl with
 |ret u =>
  obtain⟨v,σ',H',Θ,rv,q⟩:=hs;exact fin Θ rv q
 |next =>
  obtain⟨σ',H',Θ,q⟩:=hs;exact fin (v:=V.aE) (u:=Value.none) Θ rfl q
 |brk =>
  obtain⟨_,_,_,q⟩:=hs;exact False.elim q
 |cont =>
  obtain⟨_,_,_,q⟩:=hs;exact False.elim q
section
variable {X:Cx}{x:Str}{p pos:Pos}{e:ν}{es:List ν}{t:TA}{id T:String}{r:List V->Hp->VK->Prop}
def JX(r:List V->Hp->VK->Prop) (t:TA):TE:=λZ H Q=>t Z H λvs H1=>r vs H1 Q
theorem D8(hc:cP X (.builtin id) r) (hg:Gl X x) (hm:X.mg x=O) (hv:bootBuiltins x=Y (.builtin id)) (ha:PA X (e::es) t) (hn:x≠"__name__":=by decide) (hdb:(x==("__debug__":Str))=G:=by decide)
  (he:ε (e::es) X.env=(G,eval e X.env)::ε es X.env:=by rfl) (hpl:(ω pos (ε es X.env)).any (·.1)=G:=by rfl):PE X (.Call (.Name x p) (e::es) [] pos) (JX r t):=by
 intro pins s Z H Q I h;refine Sl (tR I hg hm hv ?_ hn hdb);exact PyProof.Rows.callWith_builtin1 (aZ (ha pos pins s Z H _ I h) λus s1 ⟨vs,H1,I1,r1,q1⟩=>hc pins s1 Z H1 vs us Q I1 r1 q1) he hpl
theorem sC(hc:cP X (.type T) r) (hg:Gl X x) (hm:X.mg x=O) (hv:bootBuiltins x=Y (.type T)) (ha:PA X (e::es) t) (hn:x≠"__name__":=by decide) (hdb:(x==("__debug__":Str))=G:=by decide)
  (he:ε (e::es) X.env=(G,eval e X.env)::ε es X.env:=by rfl) (hpl:(ω pos (ε es X.env)).any (·.1)=G:=by rfl):PE X (.Call (.Name x p) (e::es) [] pos) (JX r t):=by
 intro pins s Z H Q I h;refine Sl (tR I hg hm hv ?_ hn hdb);exact Tu (aZ (ha pos pins s Z H _ I h) λus s1 ⟨vs,H1,I1,r1,q1⟩=>hc pins s1 Z H1 vs us Q I1 r1 q1) he hpl
end
end L2
namespace HT
open PySem PyProof.Rows
section
variable {prog:ο}{w:π}{A:ψ}{E:S->Ψ->Prop}{s:Ψ}
theorem adH{t b:J}{vs ws:List S}{Q:S->Ψ->Prop}(ht:IsTup s.heap t vs.toArray) (hb:IsTup s.heap b ws.toArray) (hv:vs≠[])
  (h1:ws=[]->Q (.ref t) s) (h2:ws≠[]->Q (.ref s.heap.objs.size) {s with heap:=s.heap.push {cls:=.type "tuple",data:=.seq (vs++ws).toArray} })
  (hsz:vs.length+ws.length<=Ξ):wpAny (model prog w) A (binaryOp .Add (.ref t) (.ref b)) Q E s:=by
 obtain⟨⟨cls,dd,data,sl⟩,ho,hc,n,hd⟩:=id ht;obtain⟨⟨cls2,dd2,data2,sl2⟩,ho2,hc2,n2,hd2⟩:=id hb;simp only at hc hd hc2 hd2;subst hc hd hc2 hd2;have e:vs.toArray++ws.toArray=(vs++ws).toArray:=by simp
 by_cases hw:ws=[]
 ·exact concat_meets ⟨_,ho,rfl⟩ ⟨_,ho2,rfl⟩ noFill_tuple_add seq_tuple_add Ve Vd (Vc _ _)
   (tuple_addW1 t b vs.toArray ws.toArray n n2 dd dd2 sl sl2 (by simpa using hv) (by simp[hw])) ⟨ho,ho2,h1 hw⟩
 ·refine concat_meets ⟨_,ho,rfl⟩ ⟨_,ho2,rfl⟩ noFill_tuple_add seq_tuple_add Ve Vd (Vc _ _)
   (tuple_addW2 t b vs.toArray ws.toArray n n2 dd dd2 sl sl2 (by simpa using hv) (by simpa using hw) (by rw[E4,E4];exact hsz)) ⟨ho,ho2,?_⟩
  rw[e];exact h2 hw
def bJ(n d:Nat):Option Int->Nat
 |none=>d
 |some v=>if v<0 then(v+(n:Int)).toNat else min v.toNat n
theorem ajF(n d:Nat):bJ n d O=d:=rfl
theorem ajE(n d k:Nat):bJ n d (Y (k:Int))=min k n:=by
 show(if(k:Int)<0 then((k:Int)+(n:Int)).toNat else min (k:Int).toNat n)=min k n
 rw[if_neg (by omega),Sk]
theorem ajD(n d:Nat) (hd:d<=n) (o:Option Int):bJ n d o<=n:=by
 cases o with
 |none=>exact hd
 |some v =>
  show(if v<0 then(v+(n:Int)).toNat else min v.toNat n)<=n
  by_cases hv:v<0
  ·rw[if_pos hv];omega
  ·rw[if_neg hv];exact Nat.min_le_right _ _
theorem Qc(v:Int) (n d:Nat):(if v<0 then max (v+(n:Int)) 0 else min v (n:Int))=((bJ n d (Y v):Nat):Int):=by
 show(if v<0 then max (v+(n:Int)) 0 else min v (n:Int))=(((if v<0 then(v+(n:Int)).toNat else min v.toNat n):Nat):Int)
 by_cases hv:v<0
 ·simp only[if_pos hv];omega
 ·simp only[if_neg hv];omega
theorem aej(lo hi:Option Int) (n:Nat):Builtin.Slice.sliceAdjust lo hi 1 (n:Int)=(((bJ n 0 lo:Nat):Int),((bJ n n hi:Nat):Int)):=by
 have h1:¬((1:Int)<0):=by omega
 unfold Builtin.Slice.sliceAdjust;simp only[h1,if_false];refine Tq ?_ ?_
 ·cases lo with
  |none=>rfl
  |some v=>exact Qc v n 0
 ·cases hi with
  |none=>rfl
  |some v=>exact Qc v n n
theorem akh(i j:Nat):Builtin.Slice.slicePlaces (i:Int) (j:Int) 1=j-i:=by
 unfold Builtin.Slice.slicePlaces;have h1:(1:Int)>0:=by omega
 simp only[h1,if_true,Int.ediv_one];split<;>omega
theorem Km{v:S}{o:Option Int}{Q:Option Int->Ψ->Prop}(p:SG v o) (h:Q o s):wpAny (model prog w) A (Builtin.Slice.slicePartIndex v) Q E s:=by
 cases p with
 |none=>exact slicePart_none h
 |int i t=>exact slicePart_int h
theorem aiO{sl:J}{vl vu:S}{lo hi:Option Int}{n:Nat}{Q:Int×Int×Nat->Ψ->Prop}(hs:s.heap.IsSliceOf sl vl vu .none) (pl:SG vl lo) (pu:SG vu hi)
  (h:Q (((bJ n 0 lo:Nat):Int),1,bJ n n hi-bJ n 0 lo) s):wpAny (model prog w) A (Builtin.Slice.sliceApplied (.ref sl) (pure (n:Int))) Q E s:=by
 obtain⟨os,hos,hcs,hds⟩:=id hs;unfold Builtin.Slice.sliceApplied Builtin.Slice.sliceFields;refine Rc (Rc (SK hos hds (x:=vl) rfl (Rc (SK hos hds (x:=vu) rfl (Rc (SK hos hds (x:=.none) rfl (Xd ?_)))))));refine Rc (slicePart_none ?_);show wpAny _ _ (if((1:Int)==0)=L then _ else _) _ _ s
 rw[if_neg (by decide)]
 refine Rc (Km pl (Rc (Km pu (Rc (Xd ?_)))));show wpAny _ _ (match Builtin.Slice.sliceAdjust lo hi 1 (n:Int)with|(lo,hi)=>pure (lo,(1:Int),Builtin.Slice.slicePlaces lo hi 1)) _ _ s
 rw[aej lo hi n];show wpAny _ _ (pure (((bJ n 0 lo:Nat):Int),(1:Int),Builtin.Slice.slicePlaces ((bJ n 0 lo:Nat):Int) ((bJ n n hi:Nat):Int) 1)) _ _ s;rw[akh];exact Xd h
theorem abI(xs:Array S) (i k:Nat):((Ω k).filterMap fun(m:Nat)=>xs[((i:Int)+(m:Int)*1).toNat]?).toArray=((xs.toList.drop i).take k).toArray:=by
 have e:(fun(m:Nat)=>xs[((i:Int)+(m:Int)*1).toNat]?)=λm=>xs[i+m]?:=by
  funext m
  have:((i:Int)+(m:Int)*1).toNat=i+m:=by omega
  rw[this]
 rw[e];have:=pick_run xs i k;rw[Vb]at this;have e2:((λx=>xs[x]?) ∘ λx=>i+x)=λm=>xs[i+m]?:=rfl
 rw[e2]at this;rw[this]
theorem acm{t sl:J}{items:Array S}{vl vu:S}{lo hi:Option Int}{Q:S->Ψ->Prop}(ht:IsTup s.heap t items) (hs:s.heap.IsSliceOf sl vl vu .none) (pl:SG vl lo) (pu:SG vu hi)
  (hw:¬(bJ items.size 0 lo=0/\bJ items.size items.size hi=items.size))
  (h:Q (.ref s.heap.objs.size) {s with heap:=s.heap.push {cls:=.type "tuple",data:=.seq ((items.toList.drop (bJ items.size 0 lo)).take (bJ items.size items.size hi-bJ items.size 0 lo)).toArray} })
  (hsz:items.size<=Ξ):wpAny (model prog w) A (getItem (.ref t) (.ref sl)) Q E s:=by
 have z5:sizeOk (.seq ((items.toList.drop (bJ items.size 0 lo)).take (bJ items.size items.size hi-bJ items.size 0 lo)).toArray):=by
  show((items.toList.drop (bJ items.size 0 lo)).take (bJ items.size items.size hi-bJ items.size 0 lo)).toArray.size<=Ξ;rw[E4,Sz,Va,R1];omega
 have hj:bJ items.size items.size hi<=items.size:=ajD _ _ (ZA _) hi;obtain⟨os,hos,hcs,hds⟩:=id hs;have wN:s.TypeIs (.ref sl) "slice":=⟨os,hos,hcs⟩;unfold getItem
 try with_reducible refine Rj ?_
 first|refine Rc (Xd ?_)|skip
 refine Rc (wpAny_sequenceKey ht.typeIs (by decide) ?_)
 refine Rc (Sy (name:=Str.ofString "__getitem__") ht.typeIs UQ
  (Rp UQ ht.typeIs entry_tuple_getitem ?_ (args_tuple_getitem _ _)))
 show wpAny _ _ (Builtin.Tuple.tupleItemsOf (.ref t) >>= _) _ _ s;refine Rc (tupleItemsOf_ ht ?_);refine Rc (wpAny_typeOf wN ?_);rw[if_pos (by decide)]
 refine Rc (aiO hs pl pu ?_);have hno:¬((((bJ items.size 0 lo:Nat):Int)==0&&(1:Int)==1&&(bJ items.size items.size hi-bJ items.size 0 lo)==items.size)=L):=by
  intro q;rw[RI,RI]at q;have q1:((bJ items.size 0 lo:Nat):Int)=0:=eq_of_beq q.1.1;have q2:bJ items.size items.size hi-bJ items.size 0 lo=items.size:=eq_of_beq q.2;exact hw ⟨by omega,by omega⟩
 show wpAny _ _ (if(((bJ items.size 0 lo:Nat):Int)==0&&(1:Int)==1&&(bJ items.size items.size hi-bJ items.size 0 lo)==items.size)=L then _ else _) _ _ s
 rw[if_neg hno,abI]
 first
  |exact Rc (m:=Builtin.Tuple.tupleExact _) (S7 (Xd ⟨_,rfl,Xd h⟩) z5)
  |exact Rc (m:=Builtin.Tuple.tupleExact _) (S7 (Rc (Xd (Xd ⟨_,rfl,Xd h⟩))) z5)
  |exact Rc (Rc (m:=Builtin.Tuple.tupleExact _) (S7 (Xd (Xd ⟨_,rfl,Xd h⟩)) z5))
  |exact Rc (Rc (m:=Builtin.Tuple.tupleExact _) (S7 (Xd ⟨_,rfl,Xd h⟩) z5))
end
end HT
namespace L2
open PySem PySem.Spec PyProof.Rows
abbrev TO:=St->Hp->(Option Int->Hp->Prop)->Prop
def PO(X:Cx) (e:Option ν) (t:TO):Prop :=
 ∀(pins:List (J×Obj)) (s:Ψ) (Z:St) (H:Hp) (Q:Option Int->Hp->Prop),Inv X pins Z H s->t Z H Q ->
  wpAny (model X.prog X.w) X.A (evalPart e X.env) (λu s'=>∃o H',Inv X pins Z H' s'/\SG u o/\Q o H') X.xe s
def ah4:TO:=λ_ H Q=>Q O H
def abA(t:TE):TO:=λZ H Q=>t Z H λx H1=>∃i,x=.int i/\Q (Y i) H1
section
variable {X:Cx}{e:ν}{te:TE}{lo hi:Option ν}{tl th:TO}{pos p2:Pos}
theorem akj:PO X O ah4:=by
 intro pins s Z H Q I h;rw[evalPart_none];exact Xd ⟨O,H,I,.none,h⟩
theorem akk(h:PE X e te):PO X (Y e) (abA te):=by
 intro pins s Z H Q I hw;rw[evalPart_some];refine aZ (h pins s Z H _ I hw) λu s1 ⟨x,H1,I1,r1,q1⟩=>?_
 obtain⟨i,rfl,q⟩:=q1;obtain⟨t,rfl⟩:=r1;exact⟨Y i,H1,I1,.int i t,q⟩
def ID(X:Cx) (r:V->Option Int->Option Int->Hp->VK->Prop):Prop :=
 ∀(pins:List (J×Obj)) (s:Ψ) (Z:St) (H:Hp) (x:V) (v vl vu:S) (lo hi:Option Int) (sl:J) (Q:VK),Inv X pins Z H s->RelV x v->s.heap.IsSliceOf sl vl vu .none->SG vl lo->SG vu hi->r x lo hi H Q ->
  ∃T id,typeLookup (.type T) "__getitem__"=pure (Y (.builtin id))/\s.TypeIs v T/\wpAny (model X.prog X.w) X.A (getItem v (.ref sl)) (EP X pins Z Q) X.xe s
def ahL(r:V->Option Int->Option Int->Hp->VK->Prop) (te:TE) (tl th:TO):TE:=λZ H Q=>te Z H λx H1=>tl Z H1 λl H2=>th Z H2 λu H3=>r x l u H3 Q
theorem L4{r:V->Option Int->Option Int->Hp->VK->Prop}(hr:ID X r) (he:PE X e te) (hl:PO X lo tl) (hu:PO X hi th):PE X (.Subscript e (.Slice lo hi O p2) pos) (ahL r te tl th):=by
 intro pins s Z H Q I h;refine Subscript_ (aZ (he pins s Z H _ I h) λv s1 ⟨x,H1,I1,r1,q1⟩=>?_)
 refine wpAny_Slice (aZ (hl pins s1 Z H1 _ I1 q1) λvl s2 ⟨l,H2,I2,pl,q2⟩=>aZ (hu pins s2 Z H2 _ I2 q2) λvu s3 ⟨u,H3,I3,pu,q3⟩=>?_)
 rw[evalPart_none];refine Xd ?_;have I4:Inv X pins Z H3 {s3 with heap:=s3.heap.push {cls:=.type "slice",data:=.fields #[vl,vu,.none]} }:=I3.kept (t':=s3.toks) λb ob q=>gn _ q
 obtain⟨T,id,hT,ht,hg⟩:=hr pins {s3 with heap:=s3.heap.push {cls:=.type "slice",data:=.fields #[vl,vu,.none]} } Z H3 x v vl vu l u s3.heap.objs.size Q I4 r1 (Heap.IsSliceOf.new ..) pl pu q3
 show wpAny (model X.prog X.w) X.A (subscriptTail e (.Slice lo hi O p2) v (.ref s3.heap.objs.size)) (EP X pins Z Q) X.xe {s3 with heap:=s3.heap.push {cls:=.type "slice",data:=.fields #[vl,vu,.none]} }
 exact tail_any (ops:=[.ref s3.heap.objs.size,v]) ht hT hg (by with_unfolding_all rfl)
def oM(xs:List V) (lo hi:Option Int):List V:=(xs.drop (HT.bJ xs.length 0 lo)).take (HT.bJ xs.length xs.length hi-HT.bJ xs.length 0 lo)
theorem PK(xs:List V) (lo hi:Option Int):(oM xs lo hi).length<=xs.length:=by
 unfold oM;rw[Sz,Va];omega
def ai6(K:θ):V->Option Int->Option Int->Hp->VK->Prop:=λx lo hi H Q=>∃a xs,x=.ref a/\ck K H a xs /\
 ¬(HT.bJ xs.length 0 lo=0/\HT.bJ xs.length xs.length hi=xs.length)/\∀p,H p=O->Q (.ref p) (upd H p (.tup (oM xs lo hi)))
theorem aiN:ID X (ai6 X.K):=by
 intro pins s Z H x v vl vu lo hi sl Q I rx hs pl pu h;obtain⟨a,xs,rfl,hx,hw,q⟩:=h;cases rx;obtain⟨its,r,ht,hz⟩:=I.tuple hx;have hlen:its.toArray.size=xs.length:=by rw[E4];exact r.length.symm
 refine⟨"tuple",_,UQ.lookup,ht.typeIs,?_⟩;refine HT.acm ht hs pl pu (by rw[hlen];exact hw) ?_ (by rw[hlen];exact hz)
 rw[hlen];refine⟨.ref s.heap.objs.size,_,I.laid (t':=s.toks) (o:=.tup (oM xs lo hi)) (λb ob q=>gn _ q) (ZA _) ?_,rfl,q _ (I.hok.fresh (ZA _))⟩
 exact⟨Q3 (PK xs lo hi) hz,_,(r.drop (HT.bJ xs.length 0 lo)).take (HT.bJ xs.length xs.length hi-HT.bJ xs.length 0 lo),lF.new _ _⟩
def akS(K:θ):R2:=λx y H Q=>∃a b xs ys,x=.ref a/\y=.ref b/\ck K H a xs/\ck K H b ys/\xs≠[]/\xs.length+ys.length<=Ξ /\
 (ys=[]->Q (.ref a) H)/\(ys≠[]->∀p,H p=O->Q (.ref p) (upd H p (.tup (xs++ys))))
theorem Vals.EH{xs:List V}{us:List S}(r:Vals xs us):us=[]↔xs=[]:=by
 cases r with
 |nil=>simp
 |cons _ _=>simp
theorem Xx:bC X (binaryOp .Add) (akS X.K):=by
 intro pins s Z H x y v u Q I rx ry h;obtain⟨a,b,xs,ys,rfl,rfl,ha,hb,hx,hz,q1,q2⟩:=h;cases rx;cases ry;obtain⟨its,r1,p1,_⟩:=I.tuple ha;obtain⟨its2,r2,p2,_⟩:=I.tuple hb;refine HT.adH p1 p2 (λz=>hx (r1.EH.mp z)) (λz=>⟨.ref a,H,I,rfl,q1 (r2.EH.mp z)⟩) (λz=>?_) (by rw[<-r1.length,<-r2.length];exact hz)
 refine⟨.ref s.heap.objs.size,_,I.laid (t':=s.toks) (o:=.tup (xs++ys)) (λb ob q=>gn _ q) (ZA _) ?_,rfl,q2 (λw=>z (r2.EH.mpr w)) _ (I.hok.fresh (ZA _))⟩
 exact⟨by rw[QT];exact hz,_,r1.append r2,lF.new _ _⟩
end
def ig(n:Nat) (i:Int):Option Nat:=if 0<=i then(if i<n then Y i.toNat else O)else if -(n:Int)<=i then Y (i+n).toNat else O
def dY{α:Type}(xs:List α) (i:Int):Option α:=(ig xs.length i).bind λj=>xs[j]?
theorem N1{n:Nat}{i:Int}{j:Nat}(h:ig n i=Y j):seqIndex? i n=Y j/\j<n/\-(n:Int)<=i/\i<n:=by
 unfold ig at h
 by_cases h0:0<=i
 ·rw[if_pos h0]at h
  by_cases h1:i<n
  ·rw[if_pos h1]at h;have e:i.toNat=j:=Q4 h;exact⟨by rw[seqIndex_of h0 h1,e],by omega,by omega,h1⟩
  ·rw[if_neg h1]at h;cases h
 ·rw[if_neg h0]at h
  by_cases h1:-(n:Int)<=i
  ·rw[if_pos h1]at h;have e:(i+n).toNat=j:=Q4 h;exact⟨by rw[seqIndex_neg (by omega) h1,e],by omega,h1,by omega⟩
  ·rw[if_neg h1]at h;cases h
theorem G9{α:Type}{xs:List α}{i:Int}{v:α}(h:dY xs i=Y v):∃j,seqIndex? i xs.length=Y j/\xs[j]? = Y v/\j<xs.length/\-(xs.length:Int)<=i/\i<xs.length:=by
 unfold dY at h;cases e:ig xs.length i with
 |none=>rw[e]at h;cases h
 |some j =>
  rw[e]at h;obtain⟨h1,h2,h3,h4⟩:=N1 e;exact⟨j,h1,h,h2,h3,h4⟩
theorem jm{α:Type}{xs:List α}{j:Nat}{v:α}(h:xs[j]? = Y v):dY xs (j:Int)=Y v:=by
 have hj:j<xs.length:=(Q7.mp h).1;have e:ig xs.length (j:Int)=Y j:=by
  unfold ig;rw[if_pos (by omega),if_pos (by omega)];simp
 unfold dY;rw[e];exact h
def IF(b:ν):Prop:=∀o i,subscripted b G o i=operate [o,i] (getItem o i)
def o7(X:Cx) (r:R2):Prop :=
 ∀(value slice:ν) (pins:List (J×Obj)) (s:Ψ) (Z:St) (H:Hp) (x y:V) (v u:S) (Q:VK),Inv X pins Z H s->RelV x v->RelV y u->r x y H Q ->
  subscripted slice G v u=operate [v,u] (getItem v u)->wpAny (model X.prog X.w) X.A (subscriptTail value slice v u) (EP X pins Z Q) X.xe s
def MtR(X:Cx) (id:String) (r:V->List V->Hp->VK->Prop):Prop :=
 ∀(pins:List (J×Obj)) (s:Ψ) (Z:St) (H:Hp) (x:V) (xs:List V) (v:S) (us:List S) (Q:VK),Inv X pins Z H s->RelV x v->Vals xs us->r x xs H Q ->
  wpAny (model X.prog X.w) X.A (call (.builtin id) (v::us)) (EP X pins Z Q) X.xe s
section
variable {X:Cx}{a b:ν}{ta tb:TE}{pos:Pos}
theorem zj{r:R2}(hr:o7 X r) (ha:PE X a ta) (hb:PE X b tb) (hs:IF b):PE X (.Subscript a b pos) (rV r ta tb):=by
 intro pins s Z H Q I h;exact Subscript_ (GW ha hb I h λv u s2 x y H2 I2 rx ry q=>hr a b pins s2 Z H2 x y v u Q I2 rx ry q (hs _ _))
def akZ(K:θ):R2:=λx y H Q=>∃p xs i v,x=.ref p/\y=.int i/\bN K H p xs/\dY xs i=Y v/\Q v H
def DT(K:θ):R2:=λx y H Q=>∃p xs i v,x=.ref p/\y=.int i/\ck K H p xs/\dY xs i=Y v/\Q v H
def aka:R2:=λx y H Q=>∃z i c,x=.str z/\y=.int i/\z.length<=Ξ/\dY z.cps.toList i=Y c/\Q (.str ⟨#[c]⟩) H
theorem aaH:o7 X (akZ X.K):=by
 intro value slice pins s Z H x y v u Q I rx ry h hs;obtain⟨p,xs,i,z,rfl,rfl,hq,he,q⟩:=h;cases rx;obtain⟨t,rfl⟩:=ry;obtain⟨its,r,pl,hz⟩:=I.list hq;obtain⟨j,h1,h2,h3,h4,h5⟩:=G9 he;obtain⟨w,ew,rw'⟩:=r.get h2;have hl:=r.length;have hn:=qo;have fin:EP X pins Z Q w s:=⟨z,H,I,rw',q⟩
 by_cases h0:0<=i
 ·have hj:i.toNat=j:=by
   rw[seqIndex_of h0 h5]at h1;exact Q4 h1
  exact item_listR pl.isList h0 (by omega) (by rw[hj];simpa using ew) fin hs
 ·have hj:(i+(its.toArray.size:Int)).toNat=j:=by
   rw[seqIndex_neg (by omega) h4]at h1
   rw[E4,<-hl];exact Q4 h1
  exact UP (x:=w) pl.isList.typeIs slot_list_getitem.lookup
   (wpAny_getItem_list_neg (Q:=λr s'=>r=w/\EP X pins Z Q r s') pl.isList (by omega) (by rw[E4]<;>omega) (by omega) (by rw[hj];simpa using ew) ⟨rfl,fin⟩) hs
theorem Fv:o7 X (DT X.K):=by
 intro value slice pins s Z H x y v u Q I rx ry h hs;obtain⟨p,xs,i,z,rfl,rfl,hq,he,q⟩:=h;cases rx;obtain⟨t,rfl⟩:=ry;obtain⟨its,r,pl,hz⟩:=I.tuple hq;obtain⟨j,h1,h2,h3,h4,h5⟩:=G9 he;obtain⟨w,ew,rw'⟩:=r.get h2;have hl:=r.length;have hn:=qo;have fin:EP X pins Z Q w s:=⟨z,H,I,rw',q⟩;exact UP (x:=w) pl.typeIs slot_tuple_getitem.lookup
  (getItem_tuple (j:=j) (Q:=λr s'=>r=w/\EP X pins Z Q r s') pl (by omega) (by omega) (by rw[E4,<-hl];exact h1) (by simpa using ew) ⟨rfl,fin⟩) hs
theorem aaG:o7 X aka:=by
 intro value slice pins s Z H x y v u Q I rx ry h hs;obtain⟨z,i,c,rfl,rfl,hz,he,q⟩:=h;obtain⟨t,rfl⟩:=rx;obtain⟨t',rfl⟩:=ry;obtain⟨j,h1,h2,h3,h4,h5⟩:=G9 he;have hl:z.cps.toList.length=z.length:=by simp[Str.length]
 rw[hl]at h1 h4 h5;have hn:=qo;exact tail_any (SJ s z t) slot_str_getitem.lookup (getItem_str (c:=c) (by
  have e1:decide (i < -(2^63:Int))=G:=decide_eq_false (by omega)
  have e2:decide (i ≥ 2^63)=G:=decide_eq_false (by omega)
  rw[e1,e2,Bool.or_false]) (by rw[h1];simpa using h2) ⟨.str ⟨#[c]⟩,H,I.tok _,⟨_,rfl⟩,q⟩) hs
theorem ZG(its:List S) (n j:Nat) (u:S):Obj.mapSeq (·.setIfInBounds j u) {cls:=.type "list",data:=.seq its.toArray n}={cls:=.type "list",data:=.seq (its.set j u).toArray n}:=by
 simp[Obj.mapSeq]
theorem Inv.lst{pins:List (J×Obj)}{Z:St}{H:Hp}{s:Ψ}{p:J}{xs:List V}(I:Inv X pins Z H s) (h:H p=Y (.lst xs)) :
  ∃(its:List S) (n:Nat),Vals xs its/\s.heap.get? p=Y {cls:=.type "list",data:=.seq its.toArray n}/\xs.length<=Ξ:=by
 obtain⟨z,its,n,r,e⟩:=I.hok p _ h;exact⟨its,n,r,e,z⟩
theorem Inv.ZN{pins:List (J×Obj)}{Z:St}{H:Hp}{s:Ψ}{p:J}{xs ys:List V}{its its':List S}{n n':Nat}{f:Obj->Obj}(I:Inv X pins Z H s) (h:H p=Y (.lst xs))
  (ho:s.heap.get? p=Y {cls:=.type "list",data:=.seq its.toArray n}) (hf:f {cls:=.type "list",data:=.seq its.toArray n}={cls:=.type "list",data:=.seq its'.toArray n'}) (r:Vals ys its') (hz:ys.length<=Ξ) (t:Nat) :
  Inv X pins Z (upd H p (.lst ys)) {s with heap:=s.heap.update p f,toks:=t}:=by
 have e:(s.heap.update p f).get? p=Y {cls:=.type "list",data:=.seq its'.toArray n'}:=by
  rw[Sx f ho (by rw[hf]<;>rfl),hf]
 refine I.write (x:=p) (e:=p) (by rw[h];trivial) (.inl rfl) (λb u hb q=>(S6 _ _ (Q8 hb)).trans q) ⟨_,e⟩ ?_
 exact⟨hz,its',n',r,e⟩
def ai3:V->V->V->Hp->(Hp->Prop)->Prop:=λo i v H Q=>∃p xs k j,o=.ref p/\i=.int k/\H p=Y (.lst xs)/\ig xs.length k=Y j/\Q (upd H p (.lst (xs.set j v)))
theorem set_list:QE X ai3:=by
 intro pins s Z H o i v ov iv u Q I ro ri rv h;obtain⟨p,xs,k,j,rfl,rfl,hp,hj,q⟩:=h;cases ro;obtain⟨t,rfl⟩:=ri;obtain⟨its,n,r,ho,hz⟩:=I.lst hp;obtain⟨h1,h2,h3,h4⟩:=N1 hj;have hl:=r.length;have hn:=qo;have I':Inv X pins Z (upd H p (.lst (xs.set j v))) {s with heap:=s.heap.update p (Obj.mapSeq (·.setIfInBounds j u))} :=
  I.ZN hp ho (ZG its n j u) (r.set rv j) (by rw[List.length_set];exact hz) s.toks
 by_cases h0:0<=k
 ·have hk:k.toNat=j:=by
   rw[seqIndex_of h0 h4]at h1;exact Q4 h1
  exact PySem.W.ki_setAt ho h0 (by omega) (by rw[E4,<-hl];exact h4) (by rw[hk];exact⟨_,I',q⟩)
 ·have hk:(k+(its.toArray.size:Int)).toNat=j:=by
   rw[seqIndex_neg (by omega) h3]at h1
   rw[E4,<-hl];exact Q4 h1
  exact PySem.W.ki_setBack ho (by omega) (by rw[E4,<-hl];exact h3) (by omega) (by rw[hk];exact⟨_,I',q⟩)
theorem aiQ(lo hi:Option Int) (n:Nat):(sliceBounds lo hi O n).1=((HT.bJ n 0 lo:Nat):Int)/\(sliceBounds lo hi O n).2.1=((HT.bJ n n hi:Nat):Int)/\(sliceBounds lo hi O n).2.2=1:=by
 refine⟨?_,?_,rfl⟩
 ·cases lo with
  |none=>simp[sliceBounds,HT.bJ]
  |some i =>
   simp only[sliceBounds,HT.bJ,VZ,show(1:Int)>0 by decide,if_true]
   by_cases h:i<0
   ·simp only[h,if_true]<;>omega
   ·simp only[h,if_false]<;>omega
 ·cases hi with
  |none=>simp[sliceBounds,HT.bJ]
  |some i =>
   simp only[sliceBounds,HT.bJ,VZ,show(1:Int)>0 by decide,if_true]
   by_cases h:i<0
   ·simp only[h,if_true]<;>omega
   ·simp only[h,if_false]<;>omega
theorem aiP(its:List S) (lo hi:Option Int):slicePick its.toArray lo hi O=((its.drop (HT.bJ its.length 0 lo)).take (HT.bJ its.length its.length hi-HT.bJ its.length 0 lo)).toArray:=by
 obtain⟨h1,h2,h3⟩:=aiQ lo hi its.toArray.size;unfold slicePick;rw[h1,h2,h3];simp only[sliceRange_one,pick_run,E4]<;>rfl
def ai5(K:θ):V->Option Int->Option Int->Hp->VK->Prop:=λx lo hi H Q=>∃a xs,x=.ref a/\bN K H a xs/\∀p,H p=O->Q (.ref p) (upd H p (.lst (oM xs lo hi)))
theorem aiM:ID X (ai5 X.K):=by
 intro pins s Z H x v vl vu lo hi sl Q I rx hs pl pu h;obtain⟨a,xs,rfl,hx,q⟩:=h;cases rx;obtain⟨its,r,ht,hz⟩:=I.list hx;have hlen:=r.length;refine⟨"list",_,slot_list_getitem.lookup,ht.isList.typeIs,?_⟩;refine wpAny_getItem_list_slice ht.isList hs pl pu .none (by simp) ?_ (by rw[E4]<;>omega)
 rw[aiP,<-hlen];refine⟨.ref s.heap.objs.size,_,I.laid (t':=s.toks) (o:=.lst (oM xs lo hi)) (λb ob q=>gn _ q) (ZA _) ?_,rfl,q _ (I.hok.fresh (ZA _))⟩
 exact⟨Q3 (PK xs lo hi) hz,_,0,(r.drop (HT.bJ xs.length 0 lo)).take (HT.bJ xs.length xs.length hi-HT.bJ xs.length 0 lo),E3 _ rfl⟩
theorem adQ:cP X (.builtin "len") (λxs H Q=>∃p ys,xs=[.ref p]/\(bN X.K H p ys\/ck X.K H p ys)/\Q (.int ys.length) H):=by
 intro pins s Z H xs us Q I r h;obtain⟨p,ys,rfl,hq,q⟩:=h;obtain⟨u,rfl,rx⟩:=R0 r;cases rx;have hn:=qo
 rcases hq with hq|hq
 ·obtain⟨its,r',pl,hz⟩:=I.list hq;have hlen:=r'.length;exact Calls.call_len_list pl.isList (by simp only[E4]<;>omega) ⟨.int ys.length,H,I.tok _,⟨s.toks+1,by rw[E4,hlen]⟩,q⟩
 ·obtain⟨its,r',pl,hz⟩:=I.tuple hq;have hlen:=r'.length;exact len_tuple pl (by simp only[E4]<;>omega) ⟨.int ys.length,H,I.tok _,⟨s.toks+1,by rw[E4,hlen]⟩,q⟩
theorem adP:cP X (.builtin "len") (λxs H Q=>∃z,xs=[.str z]/\z.length<=Ξ/\Q (.int z.length) H):=by
 intro pins s Z H xs us Q I r h;obtain⟨z,rfl,hz,q⟩:=h;obtain⟨u,rfl,t,rfl⟩:=R0 r;have hn:=qo;exact len_str (by omega) ⟨.int z.length,H,I.tok _,⟨_,rfl⟩,q⟩
theorem adO:cP X (.type "list") (λxs H Q=>∃p ys,xs=[.ref p]/\(bN X.K H p ys\/ck X.K H p ys)/\∀l,H l=O->Q (.ref l) (upd H l (.lst ys))):=by
 intro pins s Z H xs us Q I r h;obtain⟨p,ys,rfl,hq,q⟩:=h;obtain⟨u,rfl,rx⟩:=R0 r;cases rx;have fin:∀(its:List S),Vals ys its->ys.length<=Ξ->∀(h':χ) (c':Nat),(∀b o',s.heap.get? b=Y o'->h'.get? b=Y o') ->
   h'.get? s.heap.objs.size=Y {cls:=.type "list",dict:=O,data:=.seq its.toArray c',slots:=#[]}->EP X pins Z Q (.ref s.heap.objs.size) {s with heap:=h'}:=λits r' hz h' c' kp e =>
  ⟨.ref s.heap.objs.size,_,I.laid (t':=s.toks) kp (ZA _) (show d7 X.prog X.w _ h' _ (.lst ys)from⟨hz,its,c',r',e⟩),rfl,q _ (I.hok.fresh (ZA _))⟩
 rcases hq with hq|hq
 ·obtain⟨its,r',pl,hz⟩:=I.list hq;have hlen:=r'.length;obtain⟨o,ho,hc,n,hd⟩:=pl.isList;exact call_list_seq p (.inl rfl) ho hc hd (λh' c' kp e=>fin its r' hz h' c' kp e) (by simp only[E4]<;>omega)
 ·obtain⟨its,r',pl,hz⟩:=I.tuple hq;have hlen:=r'.length;obtain⟨o,ho,hc,n,hd⟩:=pl;exact call_list_seq p (.inr rfl) ho hc hd (λh' c' kp e=>fin its r' hz h' c' kp e) (by simp only[E4]<;>omega)
theorem adI:cP X (.type "tuple") (λxs H Q=>∃p ys,xs=[.ref p]/\((bN X.K H p ys/\∀l,H l=O->Q (.ref l) (upd H l (.tup ys)))\/(ck X.K H p ys/\Q (.ref p) H))):=by
 intro pins s Z H xs us Q I r h;obtain⟨p,ys,rfl,h⟩:=h;obtain⟨u,rfl,rx⟩:=R0 r;cases rx
 rcases h with⟨hq,q⟩|⟨hq,q⟩
 ·obtain⟨its,r',pl,hz⟩:=I.list hq;have hlen:=r'.length;refine call_tuple_list pl.isList (λh' kp=>?_) (by simp only[E4]<;>omega)
  have I1:Inv X pins Z H {s with heap:=h'}:=I.kept (t':=s.toks) kp
  have I2:Inv X pins Z (upd H h'.objs.size (.tup ys)) {s with heap:=h'.push {cls:=.type "tuple",data:=.seq its.toArray} } :=
   I1.laid (t':=s.toks) (λb o e=>gn _ e) (ZA _) (show d7 X.prog X.w _ _ _ (.tup ys)from⟨hz,its,r',lF.new _ _⟩)
  exact⟨.ref h'.objs.size,_,I2,rfl,q _ (I1.hok.fresh (ZA _))⟩
 ·obtain⟨its,r',pl,hz⟩:=I.tuple hq;exact call_tuple_same pl ⟨.ref p,H,I,rfl,q⟩
def Jw(K:θ) (T:String) (x:V) (H:Hp):Prop:=match x with
 |.str _=>T="str"
 |.int _=>T="int"
 |.ref p=>(T="list"/\∃xs,bN K H p xs)\/(T="tuple"/\((∃xs,H p=Y (.tup xs))\/∃o,K.lookup p=Y o/\o.cls=.type "tuple"/\o.dict=O)) \/
   (T="dict"/\((∃kvs,H p=Y (.dK kvs))\/∃kvs,H p=Y (.dT kvs)))\/(T="set"/\∃Γ n,H p=Y (.set Γ n))
 |_=>False
theorem abr{pins:List (J×Obj)}{Z:St}{H:Hp}{s:Ψ}{T:String}{x:V}{v:S}(I:Inv X pins Z H s) (r:RelV x v) (ty:Jw X.K T x H) :
  s.TypeIs v T/\∀a,v=.ref a->∃ob,s.heap.get? a=Y ob/\ob.dict=O:=by
 cases x with
 |str z =>
  obtain⟨t,rfl⟩:=r;cases(show T="str" from ty)
  exact⟨SJ s z t,λ_ e=>nomatch e⟩
 |int i =>
  obtain⟨t,rfl⟩:=r;cases(show T="int" from ty)
  exact⟨typeIs_int s i t,λ_ e=>nomatch e⟩
 |ref p =>
  cases r
  rcases ty with⟨rfl,xs,hq⟩|⟨rfl,⟨xs,hk⟩|⟨o,hk,hc,hd⟩⟩|⟨rfl,hk⟩|⟨rfl,Γ,n,hk⟩
  ·obtain⟨its,_,pl,_⟩:=I.list hq;refine⟨pl.isList.typeIs,λa e=>?_⟩
   cases e;obtain⟨o,n,e,c,hd,_⟩:=pl;exact⟨o,e,hd⟩
  ·obtain⟨_,its,_,o,e,c,_,hd⟩:=(show d7 X.prog X.w H s.heap p (.tup xs)from I.hok p _ hk)
   refine⟨⟨o,e,c⟩,λa e2=>?_⟩
   cases e2;exact⟨o,e,hd⟩
  ·refine⟨⟨o,I.dW p o hk,hc⟩,λa e=>?_⟩
   cases e;exact⟨o,I.dW _ o hk,hd⟩
  ·have z:∃o,s.heap.get? p=Y o/\o.ExactDict:=by
    rcases hk with⟨kvs,hk⟩|⟨kvs,hk⟩
    ·obtain⟨_,_,_,_,o,_,_,e,ex,_⟩:=I.hok p _ hk;exact⟨o,e,ex⟩
    ·obtain⟨_,_,_,_,o,_,_,e,ex,_⟩:=I.hok p _ hk;exact⟨o,e,ex⟩
   obtain⟨o,e,ex⟩:=z;refine⟨⟨o,e,ex.1⟩,λa e2=>?_⟩
   cases e2;exact⟨o,e,ex.2.1⟩
  ·obtain⟨o,_,_,_,e,ex,_⟩:=I.hok p _ hk;refine⟨⟨o,e,ex.1⟩,λa e2=>?_⟩
   cases e2;exact⟨o,e,ex.2.1⟩
 |_=>exact False.elim ty
def ahT(K:θ) (T:String) (r:V->List V->Hp->VK->Prop) (to:TE) (t:TA):TE:=λZ H Q=>to Z H λx H1=>Jw K T x H1/\t Z H1 λxs H2=>r x xs H2 Q
variable {o e:ν}{es:List ν}{to:TE}{t:TA}{name:Str}{apos cpos:Pos}{T id:String}{r:V->List V->Hp->VK->Prop}
theorem p7(pa:PlainAttrs T) (slot:Slot T name id) (hty:typeOf (.builtin id)=pure (.type "method_descriptor")) (hm:MtR X id r) (ho:PE X o to) (ha:PA X (e::es) t)
  (hbase:RM o name X.env (eval o X.env)=eval o X.env:=by rfl)
  (hfew:((ω cpos (ε (e::es) X.env)).all (λx=>!x.1)&&(RA cpos (RB [] X.env)).all (λx=>x.1.isSome)
   && decide ((e::es).length+([]:List QX).length+(if([]:List QX).isEmpty then 0 else 1)<30))=L:=by rfl)
  (hline:(apos.endLine==cpos.line)=L:=by rfl) (hs:ε (e::es) X.env=(G,eval e X.env)::ε es X.env:=by rfl) (hplain:(ω cpos (ε es X.env)).any (·.1)=G:=by rfl) :
  PE X (.Call (.Attribute o name apos) (e::es) [] cpos) (ahT X.K T r to t):=by
 intro pins s Z H Q I h;refine wpAny_Call_method_late hbase hfew hline rfl (aZ (ho pins s Z H _ I h) λv s1 ⟨x,H1,I1,r1,ty,q1⟩=>?_)
 obtain⟨h1,h2⟩:=abr I1 r1 ty;refine⟨T,id,pa,slot,hty,h1,h2,?_⟩;have hA:=ha cpos pins s1 Z H1 _ I1 q1;rw[hs]at hA ⊢;refine VY (by show(G||(ω cpos (ε es X.env)).any (·.1))=G;rw[hplain]<;>rfl) (Calls.evalArgs_plain ?_)
 exact aZ hA λus s2 ⟨vs,H2,I2,r2,q2⟩=>hm pins s2 Z H2 x vs v us Q I2 r1 r2 q2
end
def rE(X:Cx) (id:String) (r:V->List V->Hp->VK->Prop):Prop :=
 ∀(pins:List (J×Obj)) (s:Ψ) (Z:St) (H:Hp) (x:V) (xs:List V) (v:S) (us:List S) (Q:VK),Inv X pins Z H s->RelV x v->Vals xs us->r x xs H Q ->
  wpAny (model X.prog X.w) X.A (call (.builtin id) (v::us)) (EP X pins Z Q) X.xe s
theorem Vals.one:∀{x:V}{us:List S},Vals [x] us->∃u,us=[u]/\RelV x u
 |_,_,.cons r .nil=>⟨_,rfl,r⟩
theorem Vals.two:∀{x y:V}{us:List S},Vals [x,y] us->∃u v,us=[u,v]/\RelV x u/\RelV y v
 |_,_,_,.cons r (.cons q .nil)=>⟨_,_,rfl,r,q⟩
theorem Vals.rep{xs:List V}{us:List S}(h:Vals xs us):∀k:Nat,Vals (τ k xs).flatten (τ k us).flatten
 |0=>.nil
 |k+1=>by
  rw[SI,SI,Sj,Sj];exact Vals.append h (Vals.rep h k)
theorem foldl_rep(its:List S):∀(k:Nat) (acc:List S),
  List.foldl (λx1 x2=>x1++x2) acc.toArray (τ k its.toArray)=(acc++(τ k its).flatten).toArray
 |0,acc=>by simp
 |k+1,acc=>by
  have e:acc.toArray++its.toArray=(acc++its).toArray:=by simp
  have e2:(acc++its)++(τ k its).flatten=acc++(τ (k+1) its).flatten:=by
   rw[SI,Sj,RU]
  rw[<-e2,<-foldl_rep its k (acc++its),<-e,SI,Si]
section
variable {X:Cx}{pins:List (J×Obj)}{Z:St}{H:Hp}{s:Ψ}{l b:J}{xs ys zs:List V}
theorem Inv.Fc{its its':List S}{n:Nat}{f:Array S->Array S}{t':Nat}(I:Inv X pins Z H s) (hH:H l=Y (.lst xs))
  (e:s.heap.get? l=Y {cls:=.type "list",data:=.seq its.toArray n}) (hf:f its.toArray=its'.toArray) (hv:Vals ys its') (hz:ys.length<=Ξ) :
  Inv X pins Z (upd H l (.lst ys)) {s with heap:=s.heap.update l (Obj.mapSeq f),toks:=t'}:=by
 have q:=VX e f;rw[hf]at q;refine I.write (x:=l) (e:=l) (by rw[hH];exact trivial) (.inl rfl) (λb' u hb hu=>(S6 s.heap (Obj.mapSeq f) (Q8 hb)).trans hu) ⟨_,q⟩ ?_
 exact⟨hz,its',_,hv,q⟩
theorem Inv.NG{its:List S}{t':Nat}(I:Inv X pins Z H s) (hv:Vals ys its) (hz:ys.length<=Ξ) :
  Inv X pins Z (upd H s.heap.objs.size (.lst ys)) {s with heap:=s.heap.push {cls:=.type "list",data:=.seq its.toArray},toks:=t'} :=
 I.laid (λ_ _ q=>gn _ q) (ZA _) ⟨hz,its,0,hv,E3 _ rfl⟩
theorem Inv.fresh(I:Inv X pins Z H s):H s.heap.objs.size=O:=I.hok.fresh (ZA _)
theorem Inv.nW(I:Inv X pins Z H s) (hH:H l=Y (.lst xs)):xs.length<=Ξ/\∃(its:List S) (n:Nat),Vals xs its/\xs.length=its.length/\s.heap.get? l=Y {cls:=.type "list",data:=.seq its.toArray n}:=by
 obtain⟨z,its,n,r,e⟩:=I.hok l _ hH;exact⟨z,its,n,r,r.length,e⟩
theorem MT{n:Nat}(h:n<=Ξ):Builtin.List.listTooLong n=G:=by
 unfold Builtin.List.listTooLong;exact decide_eq_false (by omega)
end
section
variable {X:Cx}
def akQ:V->List V->Hp->VK->Prop:=λx vs H Q=>∃l xs y,x=.ref l/\vs=[y]/\H l=Y (.lst xs)/\xs.length<Ξ/\Q .aE (upd H l (.lst (xs++[y])))
theorem Zw:rE X "list.append" akQ:=by
 intro pins s Z H x vs v us Q I rx rv h;obtain⟨l,xs,y,rfl,rfl,hH,hz,q⟩:=h;cases rx;obtain⟨u,rfl,ru⟩:=rv.one;obtain⟨z,its,n,r,hl,e⟩:=I.nW hH;refine Rg F.slot_list_append ⟨_,e,rfl⟩ F.entry_list_append (F.args_list_append_2 _ _) (VW l its.toArray n u (by rw[E4];omega)) ⟨e,?_⟩
 refine⟨.aE,_,I.Fc (its':=its++[u]) hH e (by simp) (r.append (.cons ru .nil)) ?_,rfl,q⟩
 rw[QT,List.length_singleton];omega
def akX:V->List V->Hp->VK->Prop:=λx vs H Q=>∃l b xs zs,x=.ref l/\vs=[.ref b]/\H l=Y (.lst xs)/\H b=Y (.lst zs)/\xs.length+zs.length<=Ξ/\Q .aE (upd H l (.lst (xs++zs)))
theorem Zt:rE X "list.extend" akX:=by
 intro pins s Z H x vs v us Q I rx rv h;obtain⟨l,b,xs,zs,rfl,rfl,hH,hB,hz,q⟩:=h;cases rx;obtain⟨u,rfl,ru⟩:=rv.one;cases ru;obtain⟨z,its,n,r,hl,e⟩:=I.nW hH;obtain⟨z2,its2,n2,r2,hl2,e2⟩:=I.nW hB;have hsz:its.toArray.size+its2.toArray.size<=Ξ:=by rw[E4,E4];omega
 have FU:¬(!its.toArray.isEmpty&&Builtin.List.listTooLong (its.toArray.size+its2.toArray.size))=L:=by
  rw[MT hsz,Bool.and_false];exact QY
 refine Rg F.slot_list_extend ⟨_,e,rfl⟩ F.entry_list_extend (F.args_list_extend_2 _ _)
  (AutoSeq1.list_extend_list_list_0 l its.toArray n b its2.toArray n2 FU (by rw[E4];omega) (by omega)) ⟨e,e2,?_⟩
 refine⟨.aE,_,I.Fc (its':=its++its2) hH e (by simp) (r.append r2) ?_,rfl,q⟩
 rw[QT];omega
def akR:R2:=λx y H Q=>∃l b xs zs,x=.ref l/\y=.ref b/\H l=Y (.lst xs)/\H b=Y (.lst zs)/\xs.length+zs.length<=Ξ/\∀p,H p=O->Q (.ref p) (upd H p (.lst (xs++zs)))
theorem Xy:bC X (binaryOp .Add) akR:=by
 intro pins s Z H x y v u Q I rx ry h;obtain⟨l,b,xs,zs,rfl,rfl,hH,hB,hz,q⟩:=h;cases rx;cases ry;obtain⟨z,its,n,r,hl,e⟩:=I.nW hH;obtain⟨z2,its2,n2,r2,hl2,e2⟩:=I.nW hB;refine PySem.P.add_list e e2 ?_ (by rw[E4,E4];omega)
 have ea:its.toArray++its2.toArray=(its++its2).toArray:=by simp
 rw[ea];exact⟨.ref _,_,I.NG (t':=s.toks) (r.append r2) (by rw[QT];omega),rfl,q _ I.fresh⟩
def ake:R2:=λx y H Q=>∃l k xs,x=.ref l/\y=.int k/\H l=Y (.lst xs)/\-(2^63)<=k/\k<2^63/\xs.length*k.toNat<=Ξ /\
 ∀p,H p=O->Q (.ref p) (upd H p (.lst (τ k.toNat xs).flatten))
theorem len_rep{α:Type}(xs:List α) (k:Nat):(τ k xs).flatten.length=k*xs.length:=by
 induction k with
 |zero=>simp
 |succ k ih=>rw[SI,Sj,QT,ih,UO,Nat.add_comm]
theorem Xj:bC X (binaryOp .Mult) ake:=by
 intro pins s Z H x y v u Q I rx ry h;obtain⟨l,k,xs,rfl,rfl,hH,h1,h2,hz,q⟩:=h;cases rx;obtain⟨t,rfl⟩:=ry;obtain⟨z,its,n,r,hl,e⟩:=I.nW hH;have hlen:its.toArray.size*k.toNat<=Ξ:=by rw[E4,<-hl];exact hz
 have hcap:¬its.toArray.size*k.toNat>(2^63-1)/8:=by
  have:(Ξ:Nat)<=(2^63-1)/8:=by decide
  omega
 have hfit:¬(!Builtin.List.listFitsIndex k)=L:=by
  rw[fitsIndex_both h1 h2];exact QY
 have FU:¬Builtin.List.listTooLong (its.toArray.size*k.toNat)=L:=by
  rw[MT hlen];exact QY
 have hnew:List.foldl (λx1 x2=>x1++x2) #[] (τ (if its.toArray.isEmpty=L then 0 else k.toNat) its.toArray)=(τ k.toNat its).flatten.toArray:=by
  have f0:∀m:Nat,List.foldl (λx1 x2=>x1++x2) #[] (τ m its.toArray)=(τ m its).flatten.toArray:=λm=>by
   have:=foldl_rep its m [];rw[Q0]at this;exact this
  rw[f0];cases its with
  |nil=>simp
  |cons a r'=>rw[if_neg (by simp)]
 refine wpAny_binaryOp_repeat_ref (T:="list") (U:="int") (by decide) ⟨_,e,rfl⟩ (λs'=>typeIs_int s' k t) noFill_list_mul F.fills_int_mul F.slot_int_rmul repeat_list F.slot_int_index.lookup
  (Rg F.slot_int_rmul (typeIs_int s k t) F.entry_int_rmul (F.args_int_rmul_2 _ _) (int___rmul___int_list k t l its.toArray n)
   ⟨e,rfl,⟨_,e,rfl⟩,Rg F.slot_list_mul ⟨_,e,rfl⟩ F.entry_list_mul (F.args_list_mul_2 _ _) (AutoListH.list___mul___list_int_3 l its.toArray n k t hfit hcap FU) ⟨e,?_⟩⟩)
 rw[hnew];exact⟨.ref _,_,I.NG (t':=s.toks) (r.rep k.toNat) (by rw[len_rep,Nat.mul_comm];exact hz),rfl,q _ I.fresh⟩
end
section
variable {prog:ο}{w:π}{A:ψ}{E:S->Ψ->Prop}{s:Ψ}
set_option maxRecDepth 100000 in
end
end L2
namespace QO
open PySem PySem.W PySem.Calls PyProof.Rows
theorem aaW{P:Params}{h:χ}:∀(ns:List Int) (vs:List S),WellAll P h vs (ns.map WData.int)->Rb vs ns:=by
 intro ns
 induction ns with
 |nil =>
  intro vs w;rw[List.map_nil]at w;cases w;exact .nil
 |cons n ns ih =>
  intro vs w;rw[E1]at w;cases w with
  |cons a b =>
   cases a;exact .cons _ _ (ih _ b)
theorem ajY{l:OpenLaw}{n:Nat}(hn:l.most=Y n) {P:Params}{h:χ}{args:List WData}{vals:List S}
  (hpre:l.row.toRowW.claim.pre args=L) (hwl:WellAll P h vals args) :
  ∃a vs ns,vals=[Value.ref a]/\args=[WData.list (ns.map WData.int)]/\h.get? a=Y {cls:=.type "list",data:=.seq vs.toArray}/\Rb vs ns/\ns.length<=n:=by
 have hsh:WShape.hasAll [] args [.list .int]=L:=(pre_splitW hpre).1;have hc:l.pre.holds [] {args:=args}=L:=(pre_splitW hpre).2;obtain⟨d,r,rfl,h1,h2⟩:=hasAllW_cons hsh;obtain rfl:=hasAllW_nil h2;obtain⟨xs,rfl,h3⟩:=hasW_list h1;obtain⟨ns,rfl⟩:=items_int h3;have hlen:ns.length<=n:=by
  unfold OpenLaw.pre at hc;have h4:(WTm.not (.lt (.lit (.int (n:Int))) (.len (.arg 0)))).holds [] {args:=[.list (ns.map .int)]}=L:=by
   have h4:=(holds_andW hc).1;rw[hn]at h4;exact h4
  have h5:=condW_of h4 (w_not (w_lt w_lit (w_len_list (w_arg rfl))));rw[x8]at h5;refine UN λq=>?_
  have q':(n:Int)<((ns.length:Nat):Int):=by omega
  first
   |(rw[decide_eq_true q']at h5;exact absurd h5 (by decide))
   |(simp at h5;omega)
 cases hwl with
 |cons w1 w2 =>
  cases w2;cases w1 with
  |list ho hall=>exact⟨_,_,ns,rfl,rfl,ho,aaW ns _ hall,hlen⟩
theorem akm(l:OpenLaw) (args:List WData):l.row.toRowW.claim.post args (.bool L) args=L :=
 postW_of (r:=l.row.toRowW) (X:=(L==L))
  (show WShape.has [] (.bool L) .bool=L by first|rfl|decide|simp[WShape.has,WShape.arms,WShape.armsAll])
  (show(WTm.eq .res (.lit (.bool L))).value [] {args:=args,res:=Y (.bool L),after:=args}=Y (.bool (L==L))from w_eq_bool (w_res rfl) w_lit) rfl
theorem ad6{l:OpenLaw}{n:Nat}{q:ο}{loose:List Str}{XP:(Str->Option S)->χ->Prop}{YP:π->χ->Prop}{d:DefRec}
  (hn:l.most=Y n) (hdf:d.params.defaults=[])
  (call:∀(w:π) (s₀ s₁:Ψ) (mg mb:Str->Option S) (fa:J) (o:Obj) (pm cd doc:S) (a:J) (vs:List S) (ns:List Int),
   Ground q loose [] XP w s₀ mg mb s₁.heap->YP w s₁.heap ->
   s₁.heap.get? fa=Y o->o.data=.func (docDef d.name d.params d.body d.scope pm cd doc)->s₁.heap.CodeRec cd d.name->mg d.name=Y (.ref fa) ->
   s₁.heap.get? a=Y {cls:=.type "list",data:=.seq vs.toArray}->Rb vs ns->ns.length<=n->s₁.gens=#[] ->
   codeAny (model l.prog w) callerA (.call (.ref fa) ⟨[.ref a],[]⟩) (λr s'=>r=.ok (.ret (.bool L))/\OldK s₁.heap s'.heap/\s'.os=s₁.os/\Rz s'.gens) s₁) :
  WalkO q loose XP YP l.row.toRowW d [] (λf vs=>PySem.call f vs):=by
 intro w s₀ s₁ mg mb ξ ζ fa o pm cd doc dV kV ho hd hcd hD hmg hg args vals as hpre hlay hrd hwl hlo;obtain rfl:dV=.none:=Dflts.none hD hdf;obtain rfl:kV=.none:=Dflts.noKw hD;obtain⟨a,vs,ns,rfl,rfl,hobj,hints,hlen⟩:=ajY hn hpre hwl;refine enter_call (Rq (call w s₀ s₁ mg mb fa o pm cd doc a vs ns ξ ζ ho (fd_plain hd) hcd hmg hobj hints hlen hg) λr s' hq=>?_)
 obtain⟨rfl,h2,h3,h4⟩:=hq;exact⟨.inl ⟨.bool L,.bool L,[],rfl,λ_=>rfl,.bool L,akm l _,λ_=>⟨List.Pairwise.nil,λ_ hm=>(nomatch hm)⟩⟩,h2,h3,h4⟩
end QO
namespace L2
open PySem PySem.Spec PyProof.Rows
theorem Jm:∀{vs:List S}{ns:List Int},Rb vs ns->Vals (ns.map V.int) vs
 |_,_,.nil=>.nil
 |_,_,.cons n t h=>.cons ⟨t,rfl⟩ (Jm h)
def kD(s:υ):SS:=match s with
 |.FunctionDef _ a _ _ _ _ _ _ _ _=>a
 |_=>{posonlyargs:=[],args:=[],vararg:=O,kwonlyargs:=[],kw_defaults:=[],kwarg:=O,defaults:=[]}
def gj(s:υ):List υ:=match s with
 |.FunctionDef _ _ b _ _ _ _ _ _ _=>b
 |_=>[]
def bP(s:υ):Q5:=match s with
 |.FunctionDef _ _ _ _ _ _ sc _ _ _=>sc
 |_=>{kind:=.function,names:=[],isGenerator:=G,isCoroutine:=G}
abbrev bV:o9:=λ_ _ _ _ _ _=>False
abbrev E0:XK:=λ_ _ _=>False
theorem sH{X:Cx}:Passes bV X E0:=λ_ _ _ _ _ _ _ h=>h.elim
structure iV (K:θ) (x qual:Str) (st:υ) (f:J) (fd:Q2):Prop where
 ex:∃(oc:S) (od:Option J) (kV doc pm:S) (an:Option J) (cdv ct:S) (osl:Array (Option S)),
  fd=PySem.W.fnOf x qual (kD st) (gj st) (bP st) .none kV doc pm an cdv ct/\K.lookup f=Y ⟨oc,od,.func fd,osl⟩/\PySem.W.codeIn K cdv qual=L
 kp:PySem.W.keepIn K (.ref f)=L
section
variable {P:ο}{w:π}{K:θ}{mg:Str->Option S}{base:χ}
theorem iV.ok{x qual:Str}{st:υ}{f:J}{fd:Q2}{N ps:List Str}{k:Nat}{sp:Sp}(F:iV K x qual st f fd) (Γ:eO N ps (bP st)) (len:∀vs H Q E,sp vs H Q E->vs.length=ps.length)
  (hbody:∀(cdv:S) (A:ψ) (outer:List Env) (s:Ψ) (H:Hp) (vs:List V) (Q:VK) (E:XK),b7 k (A.deeper (envOfC qual (bP st) s.heap.objs.size f cdv))->sp vs H Q E ->
   ∃t,gm (jl bV P w K mg base N qual (bP st) f cdv A outer s H E).iO (gj st) t/\t {nx:=λ_ H'=>Q .aE H',rt:=Q} (start N vs) H):cg P w K mg base bV (k+1) f fd ps sp:=by
 obtain⟨oc,od,kV,doc,pm,an,cdv,ct,osl,rfl,lk,hcd⟩:=F.ex;refine O7 lk hcd Γ len λA outer s H vs Q E hr jJ=>?_
 obtain⟨t,h,q⟩:=hbody cdv A outer s H vs Q E hr jJ;exact⟨t,h.iO,q⟩
theorem iV.binds{x qual:Str}{st:υ}{f:J}{fd:Q2}{ps:List Str}(F:iV K x qual st f fd)
  (h:∀(kV doc pm:S) (an:Option J) (cdv ct:S) (us:List S),us.length=ps.length->bindArgs (PySem.W.fnOf x qual (kD st) (gj st) (bP st) .none kV doc pm an cdv ct) ⟨us,[]⟩=pure (ps.zip us)):Binds K fd ps []:=by
 obtain⟨oc,od,kV,doc,pm,an,cdv,ct,osl,rfl,lk,hcd⟩:=F.ex;exact .all (h kV doc pm an cdv ct)
theorem OW{x qual:Str}{st:υ}{f:J}{oc:S}{od an:Option J}{osl:Array (Option S)}{kV doc pm cdv ct:S}(l:K.lookup f=Y ⟨oc,od,.func (PySem.W.fnOf x qual (kD st) (gj st) (bP st) .none kV doc pm an cdv ct),osl⟩)
  (c:PySem.W.codeIn K cdv qual=L) (k:PySem.W.keepIn K (.ref f)=L):iV K x qual st f (PySem.W.fnOf x qual (kD st) (gj st) (bP st) .none kV doc pm an cdv ct):=⟨⟨oc,od,kV,doc,pm,an,cdv,ct,osl,rfl,l,c⟩,k⟩
end
section
variable {X:Cx}
theorem pv(i:Nat) {x:Str}{pos:Pos}(hN:X.N[i]? = Y x:=by rfl) (hv:ya X.env.scope x:=by first|exact Or.inl rfl|exact Or.inr (Or.inl rfl)|exact Or.inr (Or.inr rfl)) (hd:(x==("__debug__":Str))=G:=by decide)
  (hcd:(x==("__classdict__":Str))=G:=by decide):PE X (.Name x pos) (jY i):=D4 hN hv hd hcd
end
theorem oh{A B:Prop}(h:B):if G=L then A else B:=by
 rw[if_neg QY];exact h
theorem n9{A B:Prop}(h:A):if L=L then A else B:=by
 rw[if_pos rfl];exact h
section
variable {κ:Type} [DecidableEq κ]
def dG(kvs:List (κ×V)) (k:κ):Option V:=(kvs.find? λkv=>decide (kv.1=k)).map (·.2)
def putK(kvs:List (κ×V)) (k:κ) (v:V):List (κ×V) :=
 if(kvs.any λkv=>decide (kv.1=k))=L then kvs.map (λkv=>if kv.1=k then(kv.1,v)else kv)else kvs++[(k,v)]
theorem ju{p:κ×V}{r:List (κ×V)}{k:κ}(e:p.1=k):dG (p::r) k=Y p.2:=by simp[dG,Sh,e]
theorem jv{p:κ×V}{r:List (κ×V)}{k:κ}(e:¬p.1=k):dG (p::r) k=dG r k:=by simp[dG,Sh,e]
theorem pJ(k:κ):∀kvs:List (κ×V),(kvs.any λkv=>decide (kv.1=k))=(dG kvs k).isSome
 |[]=>rfl
 |p::r=>by
  rw[UM]
  by_cases e:p.1=k
  ·simp only[ju e,decide_eq_true e,Bool.true_or,VV]
  ·rw[jv e,decide_eq_false e,Bool.false_or];exact pJ k r
theorem Jr(k j:κ) (y:V):∀kvs:List (κ×V),dG (kvs.map λkv=>if kv.1=k then(kv.1,y)else kv) j=(dG kvs j).map λx=>if j=k then y else x
 |[]=>rfl
 |p::r=>by
  have ih:=Jr k j y r;rw[E1]
  by_cases h:p.1=k
  ·rw[if_pos h]
   by_cases e:p.1=j
   ·rw[ju (p:=(p.1,y)) e,ju e,Sg,if_pos (e.symm.trans h)]
   ·rw[jv (p:=(p.1,y)) e,jv e,ih]
  ·rw[if_neg h]
   by_cases e:p.1=j
   ·rw[ju (p:=p) e,ju e,Sg,if_neg (λz=>h (e.trans z))]
   ·rw[jv (p:=p) e,jv e,ih]
theorem Jq(k j:κ) (y:V):∀kvs:List (κ×V),dG kvs k=O->dG (kvs++[(k,y)]) j=if j=k then Y y else dG kvs j
 |[],_=>by
  by_cases e:k=j
  ·rw[if_pos e.symm];exact ju (p:=(k,y)) e
  ·rw[if_neg (λz=>e z.symm)];exact jv (p:=(k,y)) e
 |p::r,hn=>by
  rw[Sf];have hk:¬p.1=k:=λz=>by rw[ju z]at hn;cases hn
  rw[jv hk]at hn;have ih:=Jq k j y r hn
  by_cases e:p.1=j
  ·rw[ju e,ju e,if_neg (λz=>hk (e.trans z))]
  ·rw[jv e,jv e,ih]
theorem ahk(kvs:List (κ×V)) (k j:κ) (y:V):dG (putK kvs k y) j=if j=k then Y y else dG kvs j:=by
 unfold putK
 by_cases a:(kvs.any λkv=>decide (kv.1=k))=L
 ·rw[if_pos a,Jr];rw[pJ]at a
  by_cases e:j=k
  ·obtain⟨x,hx⟩:=T3.mp a;rw[if_pos e,e,hx,Sg,if_pos rfl]
  ·rw[if_neg e];cases dG kvs j with
   |none=>rfl
   |some x=>rw[Sg,if_neg e]
 ·rw[if_neg a];refine Jq k j y kvs ?_;rw[pJ]at a;cases q:dG kvs k with
  |none=>rfl
  |some x=>rw[q]at a;exact(a rfl).elim
theorem zP(kvs:List (κ×V)) (k:κ) (v:V):(putK kvs k v).length<=kvs.length+1:=by
 unfold putK;split
 ·rw[x8];omega
 ·rw[QT,Iv,S5];omega
theorem gQ.wI{o:Option V}{u:Option S}(r:gQ o u):o.isSome=u.isSome:=by
 cases o with
 |none=>cases u with
  |none=>rfl
  |some _=>exact(show False from r).elim
 |some _=>cases u with
  |none=>exact(show False from r).elim
  |some _=>rfl
theorem gQ.getD{o:Option V}{u:Option S}{d:V}{d':S}(r:gQ o u) (rd:RelV d d'):RelV (o.getD d) (u.getD d'):=by
 cases o with
 |none=>cases u with
  |none=>exact rd
  |some _=>exact(show False from r).elim
 |some _=>cases u with
  |none=>exact(show False from r).elim
  |some _=>exact r
theorem KV.val{kvs:List (κ×V)}{vs:List (κ×S)}(r:KV kvs vs) (k:κ):gQ (dG kvs k) (valueAt vs k):=by
 unfold KV at r
 induction r with
 |nil=>exact True.intro
 | @cons p q ps qs h t ih =>
  obtain⟨h1,h2⟩:=h
  by_cases e:p.1=k
  ·have e':q.1=k:=h1.symm.trans e;have b:valueAt (q::qs) k=Y q.2:=by simp[valueAt,Sh,e']
   rw[ju e,b];exact h2
  ·have e':¬q.1=k:=λz=>e (h1.trans z)
   have b:valueAt (q::qs) k=valueAt qs k:=by simp[valueAt,Sh,e']
   rw[jv e,b];exact ih
theorem KV.any{kvs:List (κ×V)}{vs:List (κ×S)}(r:KV kvs vs) (k:κ):(kvs.any λkv=>decide (kv.1=k))=vs.any λkv=>decide (kv.1=k):=by
 unfold KV at r
 induction r with
 |nil=>rfl
 |cons h t ih=>rw[UM,UM,ih,h.1]
theorem KV.repl{kvs:List (κ×V)}{vs:List (κ×S)}(r:KV kvs vs) (k:κ) {y:V}{u:S}(ry:RelV y u) :
  KV (kvs.map λkv=>if kv.1=k then(kv.1,y)else kv) (vs.map λkv=>if kv.1=k then(kv.1,u)else kv):=by
 unfold KV at r ⊢
 induction r with
 |nil=>exact .nil
 | @cons p q ps qs h t ih =>
  rw[E1,E1];refine .cons ?_ ih;obtain⟨h1,h2⟩:=h
  by_cases e:p.1=k
  ·rw[if_pos e,if_pos (h1.symm.trans e)];exact⟨h1,ry⟩
  ·rw[if_neg e,if_neg (λz=>e (h1.trans z))];exact⟨h1,h2⟩
theorem KV.put{kvs:List (κ×V)}{vs:List (κ×S)}(r:KV kvs vs) (k:κ) {y:V}{u:S}(ry:RelV y u):KV (putK kvs k y) (stored vs k u):=by
 unfold putK stored;rw[r.any k]
 by_cases e:(vs.any λkv=>decide (kv.1=k))=L
 ·rw[if_pos e,if_pos e];exact r.repl k ry
 ·rw[if_neg e,if_neg e];exact Paired.snoc r ⟨rfl,ry⟩
theorem KV.length{kvs:List (κ×V)}{vs:List (κ×S)}(r:KV kvs vs):kvs.length=vs.length:=Tz r
end
theorem tT{P:ο}{w:π}{k:Key}{u:S}(r:RelV (kV k) u):(gX P w).is k u=L:=by
 cases k with
 |inl i=>obtain⟨t,e⟩:=(show ∃t,u=Value.int i t from r);subst e;exact ZD P w i t
 |inr x=>obtain⟨t,e⟩:=(show ∃t,u=Value.str x t from r);subst e;exact ZC P w x t
theorem N5{P:ο}{w:π}:∀{ks:List Key}{us:List S},Vals (ks.map kV) us->ItemsAre (gX P w) ks us
 |[],_,r=>by rw[List.map_nil]at r;cases r;exact .nil
 |k::ks,_,r=>by
  rw[E1]at r;cases r with
  |cons h t=>exact .cons (tT h) (N5 t)
abbrev KT(H:Hp):List (List Key×V)->List (List Key×J×S)->Prop:=Paired λp q=>p.1=q.1/\H q.2.1=Y (.tup (p.1.map kV))/\RelV p.2 q.2.2
theorem KT.val{H:Hp}{kvs:List (List Key×V)}{xs:List (List Key×J×S)}(r:KT H kvs xs) (k:List Key):gQ (dG kvs k) ((atKey xs k).map (·.2)):=by
 induction r with
 |nil=>exact True.intro
 | @cons p q ps qs h t ih =>
  obtain⟨h1,_,h2⟩:=h
  by_cases e:p.1=k
  ·have e':q.1=k:=h1.symm.trans e;have b:atKey (q::qs) k=Y q.2:=by simp[atKey,Sh,e']
   rw[ju e,b];exact h2
  ·have e':¬q.1=k:=λz=>e (h1.trans z)
   have b:atKey (q::qs) k=atKey qs k:=by simp[atKey,Sh,e']
   rw[jv e,b];exact ih
theorem KT.repl{H:Hp}{kvs:List (List Key×V)}{xs:List (List Key×J×S)}(r:KT H kvs xs) (k:List Key) {y:V}{u:S}(ry:RelV y u) :
  KT H (kvs.map λkv=>if kv.1=k then(kv.1,y)else kv) (xs.map (putAt k u)):=by
 induction r with
 |nil=>exact .nil
 | @cons p q ps qs h t ih =>
  rw[E1,E1];refine .cons ?_ ih;obtain⟨h1,h2,h3⟩:=h;unfold putAt
  by_cases e:p.1=k
  ·rw[if_pos e,if_pos (h1.symm.trans e)];exact⟨h1,h2,ry⟩
  ·rw[if_neg e,if_neg (λz=>e (h1.trans z))];exact⟨h1,h2,h3⟩
theorem KT.put{H:Hp}{kvs:List (List Key×V)}{xs:List (List Key×J×S)}(r:KT H kvs xs) (k:List Key) {b:J}{y:V}{u:S}(hb:H b=Y (.tup (k.map kV))) (ry:RelV y u) :
  KT H (putK kvs k y) (storedH xs k b u):=by
 have e:(kvs.any λkv=>decide (kv.1=k))=(atKey xs k).isSome:=by
  rw[pJ,(r.val k).wI,UL]
 unfold putK storedH;rw[e]
 by_cases q:(atKey xs k).isSome=L
 ·rw[if_pos q,if_pos q];exact r.repl k ry
 ·rw[if_neg q,if_neg q];exact Paired.snoc r ⟨rfl,hb,ry⟩
theorem KT.keeps{H H':Hp}{kvs:List (List Key×V)}{xs:List (List Key×J×S)}(r:KT H kvs xs) (ht:∀b ys,H b=Y (.tup ys)->H' b=Y (.tup ys)):KT H' kvs xs :=
 Paired.EW r λ_ _ z=>⟨z.1,ht _ _ z.2.1,z.2.2⟩
section
variable {P:ο}{w:π}{H:Hp}{h:χ}{a:J}
theorem LH{u:HO}(ok:cL P w H h) (e:Rd H a u):d7 P w H h a u:=e.ok ok
theorem oF{kvs:List (Key×V)}(ok:cL P w H h) (e:Rd H a (.dK kvs)):kvs.length<=Ξ/\(a==sysModules)=G/\∃vs,KV kvs vs/\h.DictOf (gX P w) a vs :=
 show d7 P w H h a (.dK kvs)from LH ok e
theorem Pr{kvs:List (Key×V)}(ok:cL P w H h) (e:H a=Y (.dK kvs)):kvs.length<=Ξ/\(a==sysModules)=G/\∃vs,KV kvs vs/\h.DictOf (gX P w) a vs:=oF ok (.inl e)
theorem tS{ks:List Key}(ok:cL P w H h) (e:H a=Y (.tup (ks.map kV))):(tupleKind (gX P w)).is h ks a:=by
 obtain⟨_,its,r,o,h1,h2,⟨n,h3⟩,_⟩:=(show d7 P w H h a (.tup (ks.map kV))from ok a _ e)
 exact⟨o,its.toArray,n,h1,h2,h3,by simpa using N5 r⟩
theorem qO{kvs:List (List Key×V)}(ok:cL P w H h) (e:Rd H a (.dT kvs)):kvs.length<=Ξ/\(a==sysModules)=G /\
  ∃xs,KT H kvs xs/\h.DictOfH (tupleKind (gX P w)) a xs:=by
 obtain⟨z,y,xs,r,o,es,ep,h1,h2,h3,h4,h5⟩:=(show d7 P w H h a (.dT kvs)from LH ok e)
 refine⟨z,y,xs,r,o,es,ep,h1,h2,h3,h4,λx hx=>?_,h5⟩
 have all:∀{l:List (List Key×V)}{m:List (List Key×J×S)},KT H l m->∀x∈m,(tupleKind (gX P w)).is h x.1 x.2.1:=by
  intro l m q
  induction q with
  |nil=>intro x hx;exact nomatch hx
  | @cons p q ps qs hq t ih =>
   intro x hx
   rcases l8.mp hx with e|hx
   ·subst e;exact tS ok (by rw[<-hq.1];exact hq.2.1)
   ·exact ih x hx
 exact all r x hx
theorem acY{kvs:List (List Key×V)}(ok:cL P w H h) (e:H a=Y (.dT kvs)):kvs.length<=Ξ/\(a==sysModules)=G /\
  ∃xs,KT H kvs xs/\h.DictOfH (tupleKind (gX P w)) a xs:=qO ok (.inl e)
end
def iA(H:Hp) (a:J) (y:V) (r:Option V):Prop :=
 (∃kvs k,Rd H a (.dK kvs)/\y=kV k/\r=dG kvs k)\/∃kvs k b,Rd H a (.dT kvs)/\y=.ref b/\H b=Y (.tup (k.map kV))/\r=dG kvs k
def mR(H:Hp) (a:J) (y v:V) (H':Hp):Prop :=
 (∃kvs k,H a=Y (.dK kvs)/\y=kV k/\kvs.length<Ξ/\H'=upd H a (.dK (putK kvs k v))) \/
 ∃kvs k b,H a=Y (.dT kvs)/\y=.ref b/\H b=Y (.tup (k.map kV))/\kvs.length<Ξ/\H'=upd H a (.dT (putK kvs k v))
theorem iA.k{H:Hp}{a:J}{kvs:List (Key×V)}{k:Key}(e:H a=Y (.dK kvs)):iA H a (kV k) (dG kvs k):=.inl ⟨kvs,k,.inl e,rfl,rfl⟩
theorem iA.t{H:Hp}{a b:J}{kvs:List (List Key×V)}{k:List Key}(e:H a=Y (.dT kvs)) (eb:H b=Y (.tup (k.map kV))):iA H a (.ref b) (dG kvs k):=.inr ⟨kvs,k,b,.inl e,rfl,eb,rfl⟩
theorem mR.k{H:Hp}{a:J}{kvs:List (Key×V)}{k:Key}{v:V}(e:H a=Y (.dK kvs)) (hl:kvs.length<Ξ):mR H a (kV k) v (upd H a (.dK (putK kvs k v))):=.inl ⟨kvs,k,e,rfl,hl,rfl⟩
theorem mR.t{H:Hp}{a b:J}{kvs:List (List Key×V)}{k:List Key}{v:V}(e:H a=Y (.dT kvs)) (eb:H b=Y (.tup (k.map kV))) (hl:kvs.length<Ξ) :
  mR H a (.ref b) v (upd H a (.dT (putK kvs k v))):=.inr ⟨kvs,k,b,e,rfl,eb,hl,rfl⟩
section
variable {X:Cx}{pins:List (J×Obj)}{Z:St}{H:Hp}{s:Ψ}{a:J}{y v:V}{u r:S}{o:Option V}{A:ψ}{E:S->Ψ->Prop}
theorem Inv.big(I:Inv X pins Z H s):sysModules<s.heap.objs.size:=by
 have h:ι<s.heap.objs.size:=(I.mod.glob.keeps I.bk).lt;exact Tp (by decide) h
theorem ac8{Q:S->Ψ->Prop}(hu:A.units+1<QS) (I:Inv X pins Z H s) (g:iA H a y (Y v)) (ry:RelV y u) (h:∀w' s',Inv X pins Z H s'->RelV v w'->Q w' s') :
  wpAny (model X.prog X.w) A (getItem (.ref a) u) Q E s:=by
 rcases g with⟨kvs,k,e,ey,l⟩|⟨kvs,k,b,e,ey,eb,l⟩
 ·subst ey;obtain⟨z,hd,vs,rel,dd⟩:=oF I.hok e;obtain⟨w',hw,rw'⟩:=gQ.some_of (v:=v) (o:=valueAt vs k) (by rw[l];exact rel.val k)
  exact wpAny_getItem_of (tT ry) dd.mapOf hw (h w' _ (I.tok _) rw')
 ·subst ey;cases(show u=Value.ref b from ry)
  obtain⟨z,hd,xs,rel,dd⟩:=qO I.hok e;obtain⟨w',hw,rw'⟩:=gQ.some_of (v:=v) (o:=(atKey xs k).map (·.2)) (by rw[l];exact rel.val k)
  obtain⟨p,hp,hp2⟩:=Option.map_eq_some_iff.mp hw;refine wpAny_getItem_heap (Sw hu) (tS I.hok eb) dd hp ?_;rw[hp2];exact h w' _ (I.tok _) rw'
theorem ac7{Q:S->Ψ->Prop}(hu:A.units+1<QS) (I:Inv X pins Z H s) (g:iA H a y o) (ry:RelV y u) (h:∀s',Inv X pins Z H s'->Q (.bool o.isSome) s') :
  wpAny (model X.prog X.w) A (compareOp .In u (.ref a)) Q E s:=by
 rcases g with⟨kvs,k,e,ey,l⟩|⟨kvs,k,b,e,ey,eb,l⟩
 ·subst ey;obtain⟨z,hd,vs,rel,dd⟩:=oF I.hok e;refine wpAny_in_of (tT ry) hd dd.mapOf ?_;rw[<-(rel.val k).wI,<-l];exact h _ (I.tok _)
 ·subst ey;cases(show u=Value.ref b from ry)
  obtain⟨z,hd,xs,rel,dd⟩:=qO I.hok e;refine wpAny_in_heap (Sw hu) (tS I.hok eb) hd dd ?_;have q:=(rel.val k).wI;rw[UL]at q;rw[<-q,<-l];exact h _ (I.tok _)
theorem ac5{Q:S->Ψ->Prop}(hu:A.units+1<QS) (I:Inv X pins Z H s) (g:iA H a y o) (ry:RelV y u) (h:∀s',Inv X pins Z H s'->Q (.bool (!o.isSome)) s') :
  wpAny (model X.prog X.w) A (compareOp .NotIn u (.ref a)) Q E s:=by
 rcases g with⟨kvs,k,e,ey,l⟩|⟨kvs,k,b,e,ey,eb,l⟩
 ·subst ey;obtain⟨z,hd,vs,rel,dd⟩:=oF I.hok e;refine wpAny_notIn_of (tT ry) hd dd.mapOf ?_;rw[<-(rel.val k).wI,<-l];exact h _ (I.tok _)
 ·subst ey;cases(show u=Value.ref b from ry)
  obtain⟨z,hd,xs,rel,dd⟩:=qO I.hok e;refine wpAny_notIn_heap (Sw hu) (tS I.hok eb) hd dd ?_;have q:=(rel.val k).wI;rw[UL]at q;rw[<-q,<-l];exact h _ (I.tok _)
theorem PD{h':χ}{t':Nat}{ob:HO}(I:Inv X pins Z H s) (mu:yb (H a)) (hs:SE a s.heap h') (he:∃q,h'.get? a=Y q) (new:d7 X.prog X.w (upd H a ob) h' a ob) :
  Inv X pins Z (upd H a ob) {s with heap:=h',toks:=t'} :=
 I.write (x:=a) (e:=a) mu (.inl rfl) (λb q hb z=>(hs.2 b hb).trans z) he new
theorem ac0{P:ο}{w:π}{H':Hp}{h':χ}{kvs:List (Key×V)}{vs:List (Key×S)}(z:kvs.length<=Ξ) (hd:(a==sysModules)=G) (rel:KV kvs vs) (dd:h'.DictOf (gX P w) a vs) :
  d7 P w H' h' a (.dK kvs):=⟨z,hd,vs,rel,dd⟩
theorem ac4{H':Hp}{Q:Unit->Ψ->Prop}(hu:A.units+1<QS) (I:Inv X pins Z H s) (g:mR H a y v H') (ry:RelV y u) (rv:RelV v r) (h:∀s',Inv X pins Z H' s'->Q () s') :
  wpAny (model X.prog X.w) A (setItem (.ref a) u r) Q E s:=by
 rcases g with⟨kvs,k,e,ey,l,eH⟩|⟨kvs,k,b,e,ey,eb,l,eH⟩
 ·subst ey eH;obtain⟨z,hd,vs,rel,dd⟩:=Pr I.hok e;have hz:vs.length<=Ξ:=by rw[<-rel.length];exact z
  have hl:(putK kvs k v).length<=Ξ:=by have:=zP kvs k v;omega
  refine wpAny_setItem_pairs (hsz:=hz) (tT ry) dd λh' Bd hs=>h _ ?_
  have he:∃q,h'.get? a=Y q:=let⟨q,_,_,hq,_⟩:=Bd;⟨q,hq⟩
  exact PD I (by rw[e];exact True.intro) hs he (ac0 hl hd (rel.put k rv) Bd)
 ·subst ey eH;cases(show u=Value.ref b from ry)
  obtain⟨z,hd,xs,rel,dd⟩:=acY I.hok e;have hz:xs.length<=Ξ:=by rw[<-Tz rel];exact z
  have hl:(putK kvs k v).length<=Ξ:=by have:=zP kvs k v;omega
  refine wpAny_setItem_heap (hsz:=hz) (Sw hu) (tS I.hok eb) dd λh' Bd hs=>h _ ?_
  obtain⟨q,es,ep,hq,h2,h3,h4,_,h5⟩:=Bd;refine PD I (by rw[e];exact True.intro) hs ⟨q,hq⟩ ⟨hl,hd,_,(rel.put k eb rv).keeps λc ys ec=>?_,q,es,ep,hq,h2,h3,h4,h5⟩
  rw[aV (EK ec e (λz=>nomatch z))]
  exact ec
end
section
variable {X:Cx}{pins:List (J×Obj)}{Z:St}{H:Hp}{s:Ψ}{a:J}{kvs:List (Key×V)}{k:Key}{u:S}{A:ψ}{E:S->Ψ->Prop}
theorem ac6{Q:S->Ψ->Prop}(I:Inv X pins Z H s) (e:Rd H a (.dK kvs)) (h:∀t s',Inv X pins Z H s'->Q (.int kvs.length t) s'):wpAny (model X.prog X.w) A (call (.builtin "len") [.ref a]) Q E s:=by
 obtain⟨z,hd,vs,rel,dd⟩:=oF I.hok e;refine call_len_dict hd dd (by rw[<-rel.length];rw[S9]at z;omega) ?_
 rw[<-rel.length];exact h _ _ (I.tok _)
end
def IG(i:ν):Prop:=∀ov iv,subscripted i G ov iv=operate [ov,iv] (getItem ov iv)
theorem ajb{prog:ο}{w:π}{A:ψ}{E:S->Ψ->Prop}{s:Ψ}{env:Env}{value slice:ν}{pos:Pos}{T id:String}{Q:S->Ψ->Prop}
  (hl:typeLookup (.type T) "__getitem__"=pure (Y (.builtin id))) (hs:IG slice)
  (h:wpAny (model prog w) A (eval value env) (λo s₁=>wpAny (model prog w) A (eval slice env) (λi s₂=>s₂.TypeIs o T/\wpAny (model prog w) A (getItem o i) Q E s₂) E s₁) E s) :
  wpAny (model prog w) A (eval (.Subscript value slice pos) env) Q E s:=by
 refine Subscript_ (QW h (λo s₁ h₁=>QW h₁ (λi s₂ h₂=>?_) λ_ _ x=>x) λ_ _ x=>x)
 obtain⟨hT,h₂⟩:=h₂;unfold subscriptTail;refine Rc ?_;rw[getitemInPython_of_ne hT.not_modules];refine Rc (wpAny_specialOf hT hl ?_);have fin:wpAny (model prog w) A (subscripted slice G o i) (λr s₃=>wpAny (model prog w) A (letTemporaryGo value o r >>= λ_=>pure r) Q E s₃) E s₂:=by
  rw[hs o i];exact wpAny_operating (QW h₂ (λr s₃ h₃=>Rc (wpAny_letTemporaryGo (Xd h₃))) λ_ _ x=>x)
 first
  |exact Xd (Rc fin)
  |exact Rc (Xd (Rc fin))
  |exact Rc fin
theorem ac2{X:Cx}{pins:List (J×Obj)}{Z:St}{H:Hp}{s:Ψ}{a:J}{y:V}{o:Option V}(I:Inv X pins Z H s) (g:iA H a y o):s.TypeIs (.ref a) "dict":=by
 rcases g with⟨kvs,k,e,_,_⟩|⟨kvs,k,b,e,_,_,_⟩
 ·obtain⟨_,_,vs,_,dd⟩:=oF I.hok e;exact dd.typeIs
 ·obtain⟨_,_,xs,_,dd⟩:=qO I.hok e;exact dd.typeIs
def ahV(td ty:TE):TE:=λZ H Q=>td Z H λx H1=>ty Z H1 λy H2=>∃a v,x=.ref a/\iA H2 a y (Y v)/\Q v H2
def DN(td ty tv:TE):TS:=λD Z H=>tv Z H λv H1=>td Z H1 λx H2=>ty Z H2 λy H3=>∃a H4,x=.ref a/\mR H3 a y v H4/\D.nx Z H4
section
variable {X:Cx}{o i e value:ν}{pos pos' tpos:Pos}{td ty tv:TE}
theorem ak8(hu:X.A.units+1<QS) (ho:PE X o td) (hi:PE X i ty) (hs:IG i):PE X (.Subscript o i pos) (ahV td ty):=by
 intro pins s Z H Q I h;refine ajb PySem.F.slot_dict_getitem.lookup hs (aZ (ho pins s Z H _ I h) λu s1 ⟨x,H1,I1,rx,q1⟩=>aZ (hi pins s1 Z H1 _ I1 q1) λiv s2 ⟨y,H2,I2,ry,a,v,ex,g,q2⟩=>?_)
 subst ex;obtain rfl:u=Value.ref a:=rx;exact⟨ac2 I2 g,ac8 hu I2 g ry λw' s3 I3 rw'=>⟨v,H2,I3,rw',q2⟩⟩
theorem DW(hu:X.A.units+1<QS) (ho:PE X o td) (hi:PE X i ty) (hv:PE X value tv) (hs:swapsWith value (Y (.Subscript o i pos')) pos.line X.env=pure G) :
  PS X (.Assign [.Subscript o i pos'] value pos) (DN td ty tv):=by
 intro pins s Z H D I h;refine wpAny_Assign_Subscript (aZ (hv pins s Z H _ I h) λr s1 ⟨v,H1,I1,rv,q1⟩=>aZ (ho pins s1 Z H1 _ I1 q1) λu s2 ⟨x,H2,I2,rx,q2⟩=>aZ (hi pins s2 Z H2 _ I2 q2) λiv s3 ⟨y,H3,I3,ry,a,H4,ex,g,q3⟩=>?_) hs
 subst ex;obtain rfl:u=Value.ref a:=rx;exact ac4 hu I3 g ry rv λs4 I4=>⟨Z,H4,I4,q3⟩
end
theorem ac1{P:ο}{w:π}{H:Hp}(h:χ) (hb:sysModules<h.objs.size):d7 P w H (h.push {cls:=.type "dict",data:=.dict #[]}) h.objs.size (.dK []) :=
 ⟨RL _,beq_eq_false_iff_ne.mpr (Q8 (AP hb)),[],.nil,Heap.DictOf.new h⟩
theorem acZ{P:ο}{w:π}{H:Hp}(h:χ) (hb:sysModules<h.objs.size):d7 P w H (h.push {cls:=.type "dict",data:=.dict #[]}) h.objs.size (.dT []) :=
 ⟨RL _,beq_eq_false_iff_ne.mpr (Q8 (AP hb)),[],.nil,_,#[],0,E3 _ rfl,⟨rfl,rfl,rfl⟩,rfl,rfl,List.nodup_nil⟩
def JU:TE:=λ_ H Q=>∀p,H p=O->Q (.ref p) (upd H p (.dK []))
def JT:TE:=λ_ H Q=>∀p,H p=O->Q (.ref p) (upd H p (.dT []))
section
variable {X:Cx}{pos:Pos}
theorem akA:PE X (.Dict [] [] pos) JU:=λpins s Z H Q I h =>
 wpAny_Dict_empty ⟨.ref s.heap.objs.size,_,I.laid (a:=s.heap.objs.size) (o:=.dK []) (t':=s.toks) (λ_ _ q=>gn _ q) (ZA _) (ac1 s.heap I.big),rfl,h _ (I.hok.fresh (ZA _))⟩
theorem Wz:PE X (.Dict [] [] pos) JT:=λpins s Z H Q I h =>
 wpAny_Dict_empty ⟨.ref s.heap.objs.size,_,I.laid (a:=s.heap.objs.size) (o:=.dT []) (t':=s.toks) (λ_ _ q=>gn _ q) (ZA _) (acZ s.heap I.big),rfl,h _ (I.hok.fresh (ZA _))⟩
end
structure M1 (X:Cx) (o:ν) (m:Str) (apos:Pos) (e:ν) (cpos:Pos):Prop where
 base:RM o m X.env (eval o X.env)=eval o X.env
 few:((ω cpos (ε [e] X.env)).all (λx=>!x.1)&&(RA cpos (RB [] X.env)).all (λx=>x.1.isSome)
  && decide (([e]:List ν).length+([]:List QX).length+(if([]:List QX).isEmpty then 0 else 1)<30))=L
 line:(apos.endLine==cpos.line)=L
 trees:ω cpos (ε [e] X.env)=[(G,eval e X.env)]
def QG(H:Hp) (a:J):Prop:=(∃kvs,Rd H a (.dK kvs))\/∃kvs,Rd H a (.dT kvs)
theorem aaU{X:Cx}{pins:List (J×Obj)}{Z:St}{H:Hp}{s:Ψ}{a:J}(I:Inv X pins Z H s) (d:QG H a) :
  s.TypeIs (.ref a) "dict"/\(∀b,Value.ref a=.ref b->∃ob,s.heap.get? b=Y ob/\ob.dict=O)/\(a==sysModules)=G:=by
 rcases d with⟨kvs,e⟩|⟨kvs,e⟩
 ·obtain⟨_,hd,vs,_,dd⟩:=oF I.hok e;refine⟨dd.typeIs,λb q=>?_,hd⟩
  cases q;obtain⟨ob,_,_,h1,h2,_⟩:=dd;exact⟨ob,h1,h2.2.1⟩
 ·obtain⟨_,hd,xs,_,dd⟩:=qO I.hok e;refine⟨dd.typeIs,λb q=>?_,hd⟩
  cases q;obtain⟨ob,_,_,h1,h2,_⟩:=dd;exact⟨ob,h1,h2.2.1⟩
section
variable {X:Cx}{pins:List (J×Obj)}{Z:St}{H:Hp}{s:Ψ}{a:J}{y d:V}{u r:S}{o:Option V}{A:ψ}{E:S->Ψ->Prop}
theorem ac9{Q:S->Ψ->Prop}(hu:A.units+1<QS) (I:Inv X pins Z H s) (g:iA H a y o) (ry:RelV y u) (h:∀w' s',Inv X pins Z H s'->RelV (o.getD .aE) w'->Q w' s') :
  wpAny (model X.prog X.w) A (call (.builtin "dict.get") [.ref a,u]) Q E s:=by
 rcases g with⟨kvs,k,e,ey,l⟩|⟨kvs,k,b,e,ey,eb,l⟩
 ·subst ey;obtain⟨z,hd,vs,rel,dd⟩:=oF I.hok e;refine call_meetsIn UK dd.typeIs VU (VT _ _) (meets_dict_get (gX X.prog X.w) a (tT ry) hd) ⟨_,dd.mapOf,h _ _ (I.tok _) ?_⟩;rw[l];exact(rel.val k).getD rfl
 ·subst ey;cases(show u=Value.ref b from ry)
  obtain⟨z,hd,xs,rel,dd⟩:=qO I.hok e;refine call_meetsIn UK dd.typeIs VU (VT _ _) (meetsH_dict_get (tupleKind (gX X.prog X.w)) a b hd) ⟨Sw hu,k,xs,tS I.hok eb,dd,h _ _ (I.tok _) ?_⟩;rw[l];exact(rel.val k).getD rfl
end
def ahW(td ty:TE):TE:=λZ H Q=>td Z H λx H1=>∃a,x=.ref a/\QG H1 a/\ty Z H1 λy H2=>∃o,iA H2 a y o/\Q (o.getD .aE) H2
section
variable {X:Cx}{o e f:ν}{apos cpos:Pos}{td ty tx:TE}
theorem ak9(hu:X.A.units+1<QS) (ho:PE X o td) (he:PE X e ty) (m:M1 X o "get" apos e cpos):PE X (.Call (.Attribute o "get" apos) [e] [] cpos) (ahW td ty):=by
 intro pins s Z H Q I h;refine wpAny_Call_method m.base m.few m.line PySem.F.plainAttrs_dict UK PySem.F.type_dict_get (aZ (ho pins s Z H _ I h) λu s1 ⟨x,H1,I1,rx,a,ex,d,q1⟩=>?_)
 subst ex;obtain rfl:u=Value.ref a:=rx;obtain⟨t1,t2,_⟩:=aaU I1 d;refine⟨t1,t2,?_⟩;rw[m.trees];refine VY rfl (Calls.evalArgs_plain (Calls.spliced_cons (aZ (he pins s1 Z H1 _ I1 q1) λiv s2 ⟨y,H2,I2,ry,ov,g,q2⟩=>Calls.spliced_nil ?_)))
 exact ac9 hu I2 g ry λw' s3 I3 rw'=>⟨_,H2,I3,rw',q2⟩
end
def fO(X:Cx) (N':List Str) (scope:Q5) (cl:List (Str×J)) (C:J) (s₀:Ψ) (H₀:Hp) (ex:List J) (pn:List (J×Obj)):Cx where
 prog:=X.prog
 w:=X.w
 K:=X.K
 mg:=X.mg
 base:=X.base
 A:=X.A
 N:=N'
 s₀:=s₀
 H₀:=H₀
 env:=compEnvC scope cl C X.env
 outer:=X.stack
 stack:=X.stack
 ex:=ex
 fn:=λx=>scope.names.lookup x==Y NameKind.cell
 calm:=X.calm
 pn:=pn
 xe:=λ_ _=>False
structure dz (X:Cx) (N':List Str) (pick:List (Option Nat)) (scope:Q5):Prop where
 kind:scope.kind=.function
 nd:N'.Nodup
 names:∀x∈scope.names,x.2=.local->scope.names.lookup x.1=Y .local
 uniq:(scope.names.map (·.1)).Nodup
 len:pick.length=N'.length
 got:∀(i j:Nat) (x:Str),pick[i]? = Y (Y j)->N'[i]? = Y x->scope.names.lookup x=Y .free/\X.N[j]? = Y x
 free:∀x∈scope.names,x.2=.free->X.env.kindOf x.1=Y .cell\/X.env.kindOf x.1=Y .free
def lP(pick:List (Option Nat)) (Z:St):St:=pick.map λo=>o.bind λj=>(Z[j]?).bind id
def rB(X:Cx) (ifs:List ν) (t:TT):Prop :=
 ∀(pins:List (J×Obj)) (s:Ψ) (Z:St) (H:Hp) (Q:Bool->Hp->Prop),Inv X pins Z H s->t Z H Q ->
  wpAny (model X.prog X.w) X.A (forIn ifs L λc r=>if r=L then do let ok <-isTrue c X.env (eval c X.env);pure (ForInStep.yield ok)else pure (ForInStep.yield r)) (TP X pins Z Q) X.xe s
def ahM:TT:=λ_ H Q=>Q L H
theorem aj0{X:Cx}:rB X [] ahM:=λpins s Z H Q I h=>wpAny_tests_nil ⟨H,I,h⟩
theorem aj1{X:Cx}{c:ν}{t:TT}(h:PT X c t):rB X [c] t:=λpins s Z H Q I q=>wpAny_tests_one (h pins s Z H Q I q)
def QL(Θ:It) (g:TG) (tt:TT) (te:TE) (Q:VK) (Z:St) (H:Hp):Prop:=∃W:Nat->Nat->St->List V->Hp->Prop,(∃m,W 0 m Z [] H) /\
  ∀i m σ' ys H,W i m σ' ys H->ys.length<Ξ /\
    ((Θ.stop i H/\∀p,H p=O->Q (.ref p) (upd H p (.lst ys))) \/
     (Θ.go i H/\∃N:St->List V->Hp->Prop,(∀σ2 zs H2,N σ2 zs H2->∃m',m'<m/\W (i+1) m' σ2 zs H2)/\∀x H',Θ.rK i H x H'->g x σ' H' λσ2 H2=>tt σ2 H2 λb H3 =>
        if b=L then te σ2 H3 λy H4=>N σ2 (ys++[y]) H4 else N σ2 ys H3))
def Df(wi:TI) (pick:List (Option Nat)) (g:TG) (tt:TT) (te:TE):TE:=λZ H Q=>wi Z H λΘ H1=>QL Θ g tt te Q (lP pick Z) H1
def gP(env:Env):List (Str×QU)->List (Str×J)->List (Str×J)
 |[],acc=>acc
 |(n,k)::r,acc=>gP env r (if(k==NameKind.free)=L then(n,(env.cells.lookup n).getD 0)::acc else acc)
theorem B0{env:Env}:∀(names:List (Str×QU)) (acc:List (Str×J)),(∀x∈names,x.2=.free->∃c,env.cells.lookup x.1=Y c) ->
  (forIn names acc fun(x:Str×QU) cs=>(if(x.2==NameKind.free)=L then do let a <-cellOf env x.1;pure (ForInStep.yield ((x.1,a)::cs))else pure (ForInStep.yield cs):Sem (ForInStep (List (Str×J)))))=pure (gP env names acc)
 |[],acc,_=>rfl
 |(n,k)::r,acc,h=>by
  rw[VS]
  by_cases hk:(k==NameKind.free)=L
  ·obtain⟨c,hc⟩:=h (n,k) Rk (by simpa using hk)
   have e1:cellOf env n=pure c:=by unfold cellOf;rw[show env.cells.lookup n=Y c from hc]
   simp only[hk,if_true,e1,pure_bind];rw[B0 r _ λx hx=>h x (RP _ hx)]
   show _=pure (gP env r _);rw[if_pos hk,show env.cells.lookup n=Y c from hc]
   rfl
  ·simp only[hk,Sv,if_false,pure_bind];rw[B0 r _ λx hx=>h x (RP _ hx)]
   show _=pure (gP env r _);rw[if_neg hk]
theorem Hh{env:Env}{x:Str}{c:J}:∀(names:List (Str×QU)) (acc:List (Str×J)),(gP env names acc).lookup x=Y c ->
  ((x,NameKind.free)∈names/\c=(env.cells.lookup x).getD 0)\/acc.lookup x=Y c
 |[],acc,h=>.inr h
 |(n,k)::r,acc,h=>by
  rcases Hh r _ h with⟨a,b⟩|q
  ·exact .inl ⟨RP _ a,b⟩
  ·by_cases hk:(k==NameKind.free)=L
   ·rw[if_pos hk,R9]at q;cases hx:x==n with
    |true =>
     rw[hx]at q;have e1:x=n:=by simpa using hx
     have e2:k=.free:=by simpa using hk
     subst e1;subst e2;exact .inl ⟨Rk,(Q4 q).symm⟩
    |false=>rw[hx]at q;exact .inr q
   ·rw[if_neg hk]at q;exact .inr q
theorem Hi{env:Env}{x:Str}:∀(names:List (Str×QU)) (acc:List (Str×J)),(acc.lookup x).isSome=L\/(x,NameKind.free)∈names->((gP env names acc).lookup x).isSome=L
 |[],acc,h=>h.elim id λz=>by cases z
 |(n,k)::r,acc,h=>by
  refine Hi r _ ?_
  by_cases hk:(k==NameKind.free)=L
  ·rw[if_pos hk,R9];cases hx:x==n with
   |true=>exact .inl rfl
   |false =>
    refine h.imp id λz=>?_
    rcases l8.mp z with e|z
    ·exact absurd (show(x==n)=L by cases e;simp) (by rw[hx];simp)
    ·exact z
  ·rw[if_neg hk];refine h.imp id λz=>?_
   rcases l8.mp z with e|z
   ·exact absurd (show _=L by cases e;rfl) hk
   ·exact z
theorem GC{x:Str}{c:J}:∀(names:List (Str×QU)) (n:Nat) (acc:List (Str×J)),(cellsFrom n names acc).lookup x=Y c->(n<=c/\(x,NameKind.cell)∈names)\/acc.lookup x=Y c
 |[],_,_,h=>.inr h
 |(y,k)::r,n,acc,h=>by
  unfold cellsFrom at h
  by_cases hk:(k==NameKind.cell)=L
  ·rw[if_pos hk]at h
   rcases GC r _ _ h with⟨a,b⟩|q
   ·exact .inl ⟨Q3 (Rx _) a,RP _ b⟩
   ·rw[R9]at q;cases hx:x==y with
    |true =>
     rw[hx]at q;have e1:x=y:=by simpa using hx
     have e2:k=.cell:=by simpa using hk
     subst e1;subst e2;exact .inl ⟨Rt (Q4 q),Rk⟩
    |false=>rw[hx]at q;exact .inr q
  ·rw[if_neg hk]at h
   rcases GC r _ _ h with⟨a,b⟩|q
   ·exact .inl ⟨a,RP _ b⟩
   ·exact .inr q
theorem GB:∀(names:List (Str×QU)) (n:Nat) (acc:List (Str×J)),(∀x y c,acc.lookup x=Y c->acc.lookup y=Y c->x=y)->(∀x c,acc.lookup x=Y c->c<n) ->
  ∀x y c,(cellsFrom n names acc).lookup x=Y c->(cellsFrom n names acc).lookup y=Y c->x=y
 |[],_,_,hi,_,x,y,c,h1,h2=>hi x y c h1 h2
 |(z,k)::r,n,acc,hi,hl,x,y,c,h1,h2=>by
  unfold cellsFrom at h1 h2
  by_cases hk:(k==NameKind.cell)=L
  ·rw[if_pos hk]at h1 h2;refine GB r (n+1) ((z,n)::acc) (λx y c e1 e2=>?_) (λx c e=>?_) x y c h1 h2
   ·rw[R9]at e1 e2;cases hx:x==z with
    |true =>
     rw[hx]at e1;cases hy:y==z with
     |true=>exact(by simpa using hx:x=z).trans (by simpa using hy:y=z).symm
     |false =>
      rw[hy]at e2;have e3:n=c:=Q4 e1;exact absurd (e3▸hl y c e2) (RQ _)
    |false =>
     rw[hx]at e1;cases hy:y==z with
     |true =>
      rw[hy]at e2;have e3:n=c:=Q4 e2;exact absurd (e3▸hl x c e1) (RQ _)
     |false=>rw[hy]at e2;exact hi x y c e1 e2
   ·rw[R9]at e;cases hx:x==z with
    |true=>rw[hx]at e;have e3:n=c:=Q4 e;exact e3▸Rr n
    |false=>rw[hx]at e;exact Se (hl x c e)
  ·rw[if_neg hk]at h1 h2;exact GB r n acc hi hl x y c h1 h2
theorem GD{x:Str}{c:J}:∀(names:List (Str×QU)) (h:χ) (acc:List (Str×J)),(cellsFrom h.objs.size names acc).lookup x=Y c->acc.lookup x=Y c\/(h.objs.size<=c/\(pushCells h names).IsCell c O)
 |[],_,_,e=>.inl e
 |(y,k)::r,h,acc,e=>by
  unfold cellsFrom at e;unfold pushCells
  by_cases hk:(k==NameKind.cell)=L
  ·rw[if_pos hk]at e ⊢;have e':=e;rw[show h.objs.size+1=(h.push {cls:=.type "cell",data:=.cell O}).objs.size from(RK ..).symm]at e'
   rcases GD r _ _ e' with q|⟨a,q⟩
   ·rw[R9]at q;cases hx:x==y with
    |true =>
     rw[hx]at q;have e3:h.objs.size=c:=Q4 q;subst e3;exact .inr ⟨ZA _,_,UJ _ _ _ _ (E3 _ rfl),rfl⟩
    |false=>rw[hx]at q;exact .inl q
   ·refine .inr ⟨?_,q⟩;rw[RK]at a;omega
  ·rw[if_neg hk]at e ⊢;exact GD r h acc e
theorem ahC{M:Model}{A:ψ}{E:S->Ψ->Prop}{s:Ψ}{scope:Q5}{globals:J}{cl:List (Str×J)}{qual:Str}{env:Env}{Q:Env->Ψ->Prop}
  (hQ:∀h',(∀b o,s.heap.get? b=Y o->h'.get? b=Y o)->h'.Ns s.heap.objs.size (λ_=>O) ->
   (∀x c,(cellsFrom (s.heap.objs.size+1) scope.names cl).lookup x=Y c->cl.lookup x=Y c\/(s.heap.objs.size<c/\h'.IsCell c O)) ->
   Q {scope,locals:=s.heap.objs.size,globals,cells:=cellsFrom (s.heap.objs.size+1) scope.names cl,qual,func:=O,code:=env.code,frame:=env.frame,builtins:=env.builtins} {s with heap:=h'}) :
  wpAny M A (newFunctionEnv scope globals cl [] qual O .none (Y env)) Q E s:=by
 simp only[newFunctionEnv,VV,if_true];refine Rc (wpAny_alloc ?_);refine Rc (wpAny_layCells _ (λname kind cells=>by cases hkc:kind==NameKind.cell<;>simp[hkc]) _ _ _ _ ?_)
 rw[show({s with heap:=s.heap.push {cls:=.type "dict",data:=.dict #[]} }:Ψ).heap.objs.size=s.heap.objs.size+1 from RK ..]
 refine Rc (Xd (Xd ?_));refine hQ _ (λb o e=>UJ _ _ b o (gn _ e)) ((Heap.Ns.new s.heap (.type "dict")).keeps (UJ _ _)) λx c e=>?_
 have e':=e;rw[show s.heap.objs.size+1=(s.heap.push {cls:=.type "dict",data:=.dict #[]}).objs.size from(RK ..).symm]at e'
 rcases GD scope.names (s.heap.push {cls:=.type "dict",data:=.dict #[]}) cl e' with q|⟨a,q⟩
 ·exact .inl q
 ·refine .inr ⟨?_,q⟩;rw[RK]at a;omega
theorem zb{env:Env}{x:Str}{k':QU}:∀{names:List (Str×QU)},(names.map fun(n,k)=>if(k==NameKind.free&&env.scope.kind == .function&&env.kindOf n==Y .cell)then(n,NameKind.cell)else(n,k)).lookup x=Y k' ->
  ∃k,names.lookup x=Y k/\(k'=k\/(k=.free/\k'=.cell))
 |[],h=>by cases h
 |(n,k)::r,h=>by
  rw[E1]at h
  by_cases hc:(k==NameKind.free&&env.scope.kind == .function&&env.kindOf n==Y .cell)=L
  ·have e:(match((n,k))with|(n,k)=>if(k==NameKind.free&&env.scope.kind == .function&&env.kindOf n==Y .cell)then _ else(n,k))=(n,NameKind.cell):=if_pos hc
   rw[e,R9]at h;rw[R9];cases hx:x==n with
   |true =>
    rw[hx]at h;have hk:k=.free:=by
     simp at hc
     simpa using hc.1.1
    exact⟨k,rfl,.inr ⟨hk,(Q4 h).symm⟩⟩
   |false=>rw[hx]at h;exact zb h
  ·have e:(match((n,k))with|(n,k)=>if(k==NameKind.free&&env.scope.kind == .function&&env.kindOf n==Y .cell)then(n,NameKind.cell)else _)=(n,k):=if_neg hc
   rw[e,R9]at h;rw[R9];cases hx:x==n with
   |true=>rw[hx]at h;exact⟨k,rfl,.inl (Q4 h).symm⟩
   |false=>rw[hx]at h;exact zb h
theorem DR{env:Env}{x:Str}{k:QU}:∀{names:List (Str×QU)},names.lookup x=Y k ->
  ∃k',(names.map fun(n,k)=>if(k==NameKind.free&&env.scope.kind == .function&&env.kindOf n==Y .cell)then(n,NameKind.cell)else(n,k)).lookup x=Y k'/\(k'=k\/(k=.free/\k'=.cell))
 |[],h=>by cases h
 |(n,j)::r,h=>by
  rw[E1];rw[R9]at h
  by_cases hc:(j==NameKind.free&&env.scope.kind == .function&&env.kindOf n==Y .cell)=L
  ·have e:(match((n,j))with|(n,k)=>if(k==NameKind.free&&env.scope.kind == .function&&env.kindOf n==Y .cell)then _ else(n,k))=(n,NameKind.cell):=if_pos hc
   rw[e,R9];cases hx:x==n with
   |true =>
    rw[hx]at h;have hk:j=.free:=by
     simp at hc
     simpa using hc.1.1
    exact⟨.cell,rfl,.inr ⟨(Q4 h).symm.trans hk,rfl⟩⟩
   |false=>rw[hx]at h;exact DR h
  ·have e:(match((n,j))with|(n,k)=>if(k==NameKind.free&&env.scope.kind == .function&&env.kindOf n==Y .cell)then(n,NameKind.cell)else _)=(n,j):=if_neg hc
   rw[e,R9];cases hx:x==n with
   |true=>rw[hx]at h;exact⟨j,rfl,.inl (Q4 h)⟩
   |false=>rw[hx]at h;exact DR h
theorem Fd{x:Str}{k:QU}:∀{names:List (Str×QU)},(names.map (·.1)).Nodup->(x,k)∈names->names.lookup x=Y k
 |[],_,h=>by cases h
 |(n,j)::r,nd,h=>by
  obtain⟨n1,n2⟩:=S8.mp nd;rw[R9]
  rcases l8.mp h with e|h2
  ·cases e;simp
  ·have hx:(x==n)=G:=by
    have:x≠n:=by
     intro e;exact n1 (x6.mpr ⟨_,h2,e⟩)
    simpa using this
   rw[hx];exact Fd n2 h2
theorem adt{prog:ο}{w:π}{A:ψ}{R:Result->Ψ->Prop}{s:Ψ}{elt target iter:ν}{ifs:List ν}{scope:Q5}{pos:Pos}{it acc:S}{env:Env}(I:Nat->Ψ->Prop)
  (turn:∀n s,I n s->wpAny (model prog w) A (pyNext it) (λr s₁=>match r with
   |none=>R (.ok .next) s₁
   |some v=>wpAny (model prog w) A (letOwnedTupleGo target it v) (λ_ s₁'=>wpAny (model prog w) A (assign target env v) (λ_ s₂ =>
     wpAny (model prog w) A (forIn ifs L λc r=>if r=L then do let ok <-isTrue c env (eval c env);pure (ForInStep.yield ok)else pure (ForInStep.yield r)) (λok s₃ =>
      if ok=L then wpAny (model prog w) A (eval elt env) (λx s₄ =>
       wpAny (model prog w) A (call (.builtin "list.append") [acc,x]) (λ_ s₅=>∃m,m<n/\I m s₅) (λ_ _=>False) s₄) (λ_ _=>False) s₃
      else ∃m,m<n/\I m s₃) (λ_ _=>False) s₂) (λ_ _=>False) s₁') (λ_ _=>False) s₁) (λ_ _=>False) s)
  (n:Nat) (h:I n s) :
  codeAny (model prog w) A (.compLoop (.ListComp elt [⟨target,iter,ifs,0⟩] scope pos) 0 it acc env) R s:=by
 refine codeAny_loop rfl I (λn s hI=>?_) n h
 refine wpAny_noted ?_;rw[compTurn_list];refine Rc (UW (Rc (QW (turn n s hI) (λr s₁ h₁=>?_) λ_ _ h'=>h'.elim)))
 cases r with
 |none=>exact Xd h₁
 |some v =>
  refine Rc (QW h₁ (λ_ s₁' h₁'=>?_) λ_ _ h'=>h'.elim)
  refine Rc (QW h₁' (λ_ s₂ h₂=>Rc (QW h₂ (λok s₃ h₃=>?_) λ_ _ h'=>h'.elim)) λ_ _ h'=>h'.elim)
  cases ok with
  |false=>exact Xd ⟨rfl,h₃⟩
  |true =>
   exact Rc (Rc (QW h₃ (λx s₄ h₄=>Rc (QW h₄ (λ_ s₅ h₅=>Xd (Xd ⟨rfl,h₅⟩)) λ_ _ h'=>h'.elim)) λ_ _ h'=>h'.elim))
section
variable {X:Cx}{N':List Str}{pick:List (Option Nat)}{scope:Q5}{pins:List (J×Obj)}{Z:St}{H₂:Hp}{s₂:Ψ}{tg:ν}{Θ:It}{fp:List J}{it:J}{tn:Nat->χ->Prop}
theorem Qa(Γ:dz X N' pick scope) (I:Inv X pins Z H₂ s₂):closureFor scope X.env=pure (gP X.env scope.names []):=by
 have e:=B0 (env:=X.env) scope.names [] λx hx hk=>I.ok.has x.1 (Γ.free x hx hk)
 show((forIn scope.names ([]:List (Str×J)) fun(x:Str×QU) cs=>(if(x.2==NameKind.free)=L then do let a <-cellOf X.env x.1;pure (ForInStep.yield ((x.1,a)::cs))else pure (ForInStep.yield cs):Sem (ForInStep (List (Str×J))))) >>= λcs=>pure cs)=_
 rw[e,pure_bind]
theorem xE(Γ:dz X N' pick scope) (I:Inv X pins Z H₂ s₂) {x:Str}{c:J}(h:(gP X.env scope.names []).lookup x=Y c):(x,NameKind.free)∈scope.names/\X.env.cells.lookup x=Y c:=by
 rcases Hh _ _ h with⟨a,b⟩|q
 ·refine⟨a,?_⟩;obtain⟨c',hc⟩:=I.ok.has x (Γ.free _ a rfl);rw[hc]at b ⊢;rw[b];rfl
 ·cases q
theorem xD(Γ:dz X N' pick scope) (I:Inv X pins Z H₂ s₂) {n:Nat}{x:Str}{c:J}(h:(cellsFrom n scope.names (gP X.env scope.names [])).lookup x=Y c) :
  (n<=c/\scope.names.lookup x=Y .cell)\/(scope.names.lookup x=Y .free/\X.env.cells.lookup x=Y c):=by
 rcases GC _ _ _ h with⟨a,b⟩|q
 ·exact .inl ⟨a,Fd Γ.uniq b⟩
 ·obtain⟨a,b⟩:=xE Γ I q;exact .inr ⟨Fd Γ.uniq a,b⟩
theorem Qd(Γ:dz X N' pick scope) (I:Inv X pins Z H₂ s₂) {n:Nat}{x:Str}{c:J}(hx:scope.names.lookup x=Y .free) (hc:X.env.cells.lookup x=Y c) :
  (cellsFrom n scope.names (gP X.env scope.names [])).lookup x=Y c:=by
 have h1:((gP X.env scope.names []).lookup x).isSome=L:=Hi _ _ (.inr (Rh hx));obtain⟨c',h2⟩:=T3.mp (Tr scope.names n _ (.inr h1))
 rcases xD Γ I h2 with⟨_,z⟩|⟨_,z⟩
 ·rw[hx]at z;cases z
 ·rw[hc]at z;cases z;exact h2
theorem acv(I:Inv X pins Z H₂ s₂) {b:J}(hb:b∈frs X.stack):b<s₂.heap.objs.size:=by
 rcases l8.mp (I.pP b hb)with e|hb
 ·rw[e];exact I.lt
 ·by_cases q:b<s₂.heap.objs.size
  ·exact q
  ·exact absurd hb (I.ED (Nat.not_lt.mp q))
theorem adp(Γ:dz X N' pick scope) (I:Inv X pins Z H₂ s₂) (hf:∀b∈fp,iz X pins H₂ b) (hfo:∀b∈fp,b<s₂.heap.objs.size) {n:Nat}{C:J}{s₄:Ψ}(hn:s₂.heap.objs.size<=n) (hC:s₂.heap.objs.size<=C) (hCn:C<n)
  (hos:s₄.os=s₂.os) (hge:s₄.gens=s₂.gens) (kp:∀b o,s₂.heap.get? b=Y o->s₄.heap.get? b=Y o) (ns:s₄.heap.Ns C λ_=>O)
  (ce:∀x c,(cellsFrom n scope.names (gP X.env scope.names [])).lookup x=Y c->(gP X.env scope.names []).lookup x=Y c\/(n<=c/\s₄.heap.IsCell c O)) :
  Inv (fO X N' scope (cellsFrom n scope.names (gP X.env scope.names [])) C s₂ H₂ fp (X.pn++pins)) [] (lP pick Z) H₂ s₄:=by
 have fr:∀{a:J},s₂.heap.objs.size<=a->H₂ a=O:=λh=>I.hok.fresh h
 have old:∀{x:Str}{c:J},X.env.cells.lookup x=Y c->c<s₂.heap.objs.size:=fun{x c} e=>let⟨v,z⟩:=I.cell x c e;z.lt
 have akl:∀p∈X.pn++pins,p.1<s₂.heap.objs.size:=λp hp=>lu (I.pin p hp).1
 refine⟨⟨I.ok.mod,Γ.kind,I.ok.glob,I.ok.blt,hC,?inj,?has,?oO,I.ok.hd,I.ok.frames,.inl rfl,?xh,I.bs,Q3 I.ok.iS I.sz,?nJ,?uh,I.stack,I.Di⟩,
  hos,by rw[hge];exact I.bare,Un.kept kp,⟨_,ns,?loc⟩,?cell,fr hC,?jj,?pin,I.hok.kept kp,?len⟩
 case inj =>
  refine GB _ _ _ (λx y c h1 h2=>?_) λx c h=>?_
  ·exact I.ok.inj x y c (xE Γ I h1).2 (xE Γ I h2).2
  ·exact I8 (old (xE Γ I h).2) hn
 case has =>
  intro x hx;have hx:(relabel scope X.env).names.lookup x=Y .cell\/(relabel scope X.env).names.lookup x=Y .free:=hx;have go:∀k,scope.names.lookup x=Y k->k=.cell\/k=.free->∃c,(cellsFrom n scope.names (gP X.env scope.names [])).lookup x=Y c:=λk hk hq=>by
   rcases hq with rfl|rfl
   ·exact T3.mp (Tr _ _ _ (.inl hk))
   ·obtain⟨c,hc⟩:=I.ok.has x (Γ.free _ (Rh hk) rfl);exact⟨c,Qd Γ I hk hc⟩
  rcases hx with hx|hx
  ·obtain⟨k,hk,e|⟨e,_⟩⟩:=zb hx
   ·exact go k hk (.inl e.symm)
   ·exact go k hk (.inr e)
  ·obtain⟨k,hk,e|⟨_,e⟩⟩:=zb hx
   ·exact go k hk (.inr e.symm)
   ·cases e
 case oO =>
  intro x c hx hc;have hx:scope.names.lookup x=Y .cell:=by simpa[fO]using hx
  rcases xD Γ I hc with⟨a,_⟩|⟨a,_⟩
  ·exact Q3 hn a
  ·rw[hx]at a;cases a
 case xh =>
  intro b hb;refine⟨AP (I8 (hfo b hb) hC),λx c hc=>?_⟩
  rcases xD Γ I hc with⟨a,_⟩|⟨_,a⟩
  ·exact Ri (I8 (hfo b hb) (Q3 hn a))
  ·exact(hf b hb).2.2.2.2.1 x c a
 case nJ =>
  intro b o e hb
  rcases(hf b hb).2.2.2.1 with z|z
  ·exact I.ok.nJ b o e z
  ·exact absurd (I8 (lu e) (Q3 I.ok.iS z)) (RQ _)
 case uh =>
  intro b hb hs
  rcases l8.mp (I.pP b hs)with e|e
  ·exact(hf b hb).2.1 e
  ·exact(hf b hb).2.2.1 e
 case loc =>
  intro i x v h1 h2 h3;have h1:N'[i]? = Y x:=h1;have hp:∃j,pick[i]? = Y (Y j)/\Z[j]? = Y (Y v):=by
   unfold lP at h2;rw[Q9]at h2;cases e:pick[i]? with
   |none=>rw[e]at h2;cases h2
   |some o =>
    rw[e]at h2;cases o with
    |none=>cases h2
    |some j =>
     refine⟨j,rfl,?_⟩;have h2':(Z[j]?).bind id=Y v:=Q4 h2;cases e2:Z[j]? with
     |none=>rw[e2]at h2';cases h2'
     |some q=>rw[e2]at h2';exact congrArg Y h2'
  obtain⟨j,hj,hv⟩:=hp;obtain⟨hfr,hN⟩:=Γ.got i j x hj h1;have hk:=Γ.free _ (Rh hfr) rfl;obtain⟨m,hm,hl⟩:=I.loc;obtain⟨u,ru,lk⟩:=hl j x v hN hv (.inr hk);refine⟨u,ru,?_⟩
  rcases lk with⟨z,_⟩|⟨_,c,hc,hcell⟩
  ·rcases hk with q|q<;>(rw[show X.env.kindOf x=_ from z]at q;cases q)
  ·refine .inr ⟨?_,c,Qd Γ I hfr hc,hcell.keeps kp⟩;show(relabel scope X.env).names.lookup x=Y .cell\/(relabel scope X.env).names.lookup x=Y .free;obtain⟨k',hk',e|⟨_,e⟩⟩:=DR hfr
   ·exact .inr (by rw[<-e];exact hk')
   ·exact .inl (by rw[<-e];exact hk')
 case cell =>
  intro x c hc
  rcases ce x c hc with z|⟨_,z⟩
  ·obtain⟨v,q⟩:=I.cell x c (xE Γ I z).2;exact⟨v,q.keeps kp⟩
  ·exact⟨O,z⟩
 case jj =>
  intro x c hc
  rcases xD Γ I hc with⟨a,_⟩|⟨_,a⟩
  ·exact fr (Q3 hn a)
  ·exact I.jj x c a
 case pin =>
  intro p hp;have hp:p∈X.pn++pins:=by simpa[fO]using hp
  obtain⟨e,n0,ne,nf,d⟩:=I.pin p hp;refine⟨kp _ _ e,n0,AP (I8 (akl p hp) hC),λz=>?_,d⟩
  rcases l8.mp (I.pP _ z)with e|e
  ·exact ne e
  ·exact nf e
 case len =>
  unfold lP;rw[x8];exact Γ.len
end
section
variable {X:Cx}{N':List Str}{pick:List (Option Nat)}{scope:Q5}{pins:List (J×Obj)}{Z:St}{H₂:Hp}{s₂:Ψ}{tg:ν}{Θ:It}{fp:List J}{it:J}{tn:Nat->χ->Prop}
 {elt iter:ν}{ifs:List ν}{pos:Pos}{g:TG}{tt:TT}{te:TE}
theorem PV{E:S->Ψ->Prop}{RR:S->J->Result->Ψ->Prop}{Qv:V->Hp->Prop}(Γ:dz X N' pick scope) (hc:X.calm=L) (jr:Inv X pins Z H₂ s₂) (T:Turn X.prog X.w X.K tg Θ fp it tn) (st:tn 0 s₂.heap) (hf:∀b∈fp,iz X pins H₂ b)
    (hg:∀cl C s₀ H₀ ex pn,PG (fO X N' scope cl C s₀ H₀ ex pn) tg g) (hi:∀cl C s₀ H₀ ex pn,rB (fO X N' scope cl C s₀ H₀ ex pn) ifs tt) (he:∀cl C s₀ H₀ ex pn,PE (fO X N' scope cl C s₀ H₀ ex pn) elt te)
    {W:Nat->Nat->St->List V->Hp->Prop}{m0:Nat}(h0:W 0 m0 (lP pick Z) [] H₂)
    (turn:∀i m σ' ys H,W i m σ' ys H->ys.length<Ξ /\
      ((Θ.stop i H/\∀p,H p=O->Qv (.ref p) (upd H p (.lst ys))) \/
       (Θ.go i H/\∃N:St->List V->Hp->Prop,(∀σ2 zs H2,N σ2 zs H2->∃m',m'<m/\W (i+1) m' σ2 zs H2)/\∀x H',Θ.rK i H x H'->g x σ' H' λσ2 H2=>tt σ2 H2 λb H3 =>
          if b=L then te σ2 H3 λy H4=>N σ2 (ys++[y]) H4 else N σ2 ys H3)))
    (fin:∀(D C:J) (H':Hp) (s':Ψ) (m:Str->Option S),Inv X pins Z H' s'->iz X pins H' C->s'.heap.Ns C m->Qv (.ref D) H'->RR (.ref D) C (.ok .next) s') :
    wpAny (model X.prog X.w) X.A (newList []) (λacc s₃=>wpAny (model X.prog X.w) X.A (newFunctionEnv scope X.env.globals (gP X.env scope.names []) [] X.env.qual O .none (Y X.env)) (λcenv s₄ =>
      codeAny (model X.prog X.w) X.A (.compStart (.ListComp elt [⟨tg,iter,ifs,0⟩] scope pos) 0 (.ref it) acc {cenv with scope:=relabel scope X.env}) (RR acc cenv.locals) s₄) E s₃) E s₂:=by
  have hfo:∀b∈fp,b<s₂.heap.objs.size:=λb hb=>let⟨o,e,_⟩:=T.obj 0 _ st b hb;lu e
  refine S7 (ahC λh₄ kp ns ce=>?_)
  generalize F4:s₂.heap.push {cls:=.type "list",dict:=O,data:=.seq ([]:List S).toArray}=H3 at kp ns ce ⊢
  have hC:H3.objs.size=s₂.heap.objs.size+1:=by rw[<-F4,RK]
  have Fo:∀b o,s₂.heap.get? b=Y o->h₄.get? b=Y o:=λb o e=>kp b o (F4▸gn _ e)
  have hD:h₄.get? s₂.heap.objs.size=Y {cls:=.type "list",data:=.seq ([]:List S).toArray}:=kp _ _ (F4▸E3 _ rfl);have ou:s₂.heap.objs.size<=H3.objs.size:=by rw[hC];exact Rx _
  have hDC:s₂.heap.objs.size≠H3.objs.size:=by rw[hC];exact AP (Rr _)
  generalize hcl:cellsFrom (H3.objs.size+1) scope.names (gP X.env scope.names [])=cl at ce
  have IJ:Inv (fO X N' scope cl H3.objs.size s₂ H₂ fp (X.pn++pins)) [] (lP pick Z) H₂ {s₂ with heap:=h₄}:=by
    subst hcl;exact adp Γ jr hf hfo (n:=H3.objs.size+1) (Q3 ou (Rx _)) ou (Rr _) rfl rfl Fo ns λx c e=>ce x c e
  have FY:∀x c,cl.lookup x=Y c->c≠s₂.heap.objs.size:=λx c e=>by
    subst hcl
    rcases xD Γ jr e with⟨a,_⟩|⟨_,a⟩
    · refine Ri (I8 ?_ a)
      rw[hC];exact Se (Rr _)
    · obtain⟨v,z⟩:=jr.cell x c a
      exact AP z.lt
  have abN:∀x c,X.env.cells.lookup x=Y c->c≠H3.objs.size:=λx c e=>by
    obtain⟨v,z⟩:=jr.cell x c e;exact AP (I8 z.lt ou)
  generalize gY:fO X N' scope cl H3.objs.size s₂ H₂ fp (X.pn++pins)=X' at IJ
  have yp:X'.prog=X.prog:=by subst gY;rfl
  have xw:X'.w=X.w:=by subst gY;rfl
  have xK:X'.K=X.K:=by subst gY;rfl
  have xA:X'.A=X.A:=by subst gY;rfl
  have IW:X'.calm=L:=by subst gY;exact hc
  have yq:X'.env.locals=H3.objs.size:=by subst gY;rfl
  have abb:X'.env.cells=cl:=by subst gY;rfl
  have ag0:X'.env=compEnvC scope cl H3.objs.size X.env:=by subst gY;rfl
  have CF:X'.fs=frs X.stack:=by subst gY;rfl
  have CG:X'.ex=fp:=by subst gY;rfl
  have CD:X'.s₀=s₂:=by subst gY;rfl
  have IV:X'.pn=X.pn++pins:=by subst gY;rfl
  have abc:X'.xe=λ_ _=>False:=by subst gY;rfl
  have ahu:X'.H₀=H₂:=by subst gY;rfl
  have hg':PG X' tg g:=by subst gY;exact hg _ _ _ _ _ _
  have hi':rB X' ifs tt:=by subst gY;exact hi _ _ _ _ _ _
  have he':PE X' elt te:=by subst gY;exact he _ _ _ _ _ _
  have pQ:∀{H':Hp}{pl:List (J×Obj)},(∀b∈fp,H' b=O)->(∀p∈pl,s₂.heap.objs.size<=p.1)->∀b∈fp,iz X' pl H' b:=fun{H' pl} hn hp b hb=>by
    have hlt:=hfo b hb;obtain⟨_,f1,f2,f3,f4,f5⟩:=hf b hb;refine⟨hn b hb,by rw[yq];exact AP (I8 hlt ou),?_,.inl (by rw[CG];exact hb),λx c e=>?_,λp qz=>?_⟩
    · rw[CF]
      intro z
      rcases l8.mp (jr.pP b z)with e|e
      · exact f1 e
      · exact f2 e
    · have:=IJ.ok.xh b (by rw[CG];exact hb)
      exact this.2 x c e
    · rcases RO.mp qz with z|z
      · rw[IV]at z;exact f5 p z
      · exact Ri (I8 hlt (hp p z))
  have LV:∀{H':Hp}{s':Ψ}{σ':St}{o:Obj},Inv X' [] σ' H' s'->s'.heap.get? s₂.heap.objs.size=Y o->H' s₂.heap.objs.size=O->(∀v,o.data≠.cell v)->Inv X' [(s₂.heap.objs.size,o)] σ' H' s':=fun{H' s' σ' o} I e hn hnc =>
    I.zg λp hp=>by
      obtain rfl:p=(s₂.heap.objs.size,o):=by simpa using hp
      refine⟨e,hn,by rw[yq];exact hDC,?_,hnc⟩
      rw[CF];intro z;exact absurd (acv jr z) (RQ _)
  have B9:H₂ s₂.heap.objs.size=O:=jr.hok.fresh (ZA _)
  let agN:Nat->Ψ->Prop:=λn s'=>∃(i:Nat) (σ':St) (ys:List V) (H':Hp) (its:List S) (k:Nat),Inv X' [(s₂.heap.objs.size,{cls:=.type "list",data:=.seq its.toArray k})] σ' H' s'/\Vals ys its/\tn i s'.heap/\(∀b∈fp,H' b=O)/\W i n σ' ys H'
  have loop:codeAny (model X.prog X.w) X.A (.compLoop (.ListComp elt [⟨tg,iter,ifs,0⟩] scope pos) 0 (.ref it) (.ref s₂.heap.objs.size) X'.env) (RR (.ref s₂.heap.objs.size) H3.objs.size) {s₂ with heap:=h₄}:=by
    refine adt agN ?_ m0 ⟨0,_,[],H₂,[],_,LV IJ hD B9 (λv q=>nomatch q),.nil,T.keep _ _ _ st λb _ o e=>Fo b o e,λb hb=>(hf b hb).1,h0⟩
    rintro n s5 ⟨i,yj,ys,H5,its,k,I5,rv,pT,Af,w5⟩
    obtain⟨hlen,tr⟩:=turn i n yj ys H5 w5;have p5:∀{o:Obj},∀p∈[(s₂.heap.objs.size,o)],s₂.heap.objs.size<=p.1:=fun{o} p hp=>by
      obtain rfl:p=(s₂.heap.objs.size,o):=by simpa using hp
      exact ZA _
    rw[<-xA]
    rcases tr with⟨stop,qf⟩|⟨go,N,hN,step⟩
    · have dn:=T.done X' yp xw xK IW i _ s5 yj H5 (λ_ _=>False) I5 (pQ Af p5) pT stop
      rw[xA]at dn ⊢;refine QW dn (λr s6 h6=>?_) λ_ _ z=>z
      obtain⟨rfl,I6⟩:=h6;show RR (.ref s₂.heap.objs.size) H3.objs.size (.ok .next) s6;obtain⟨eD,nD,_⟩:=I6.pin _ (Ra _ Rk);have pK:Un (frs X.stack) fp H₂ H5 s₂.heap s6.heap:=by
        have:=I6.base;rw[CF,CG,CD,ahu]at this;exact this
      have lt:∀{b:J}{o:Obj},s₂.heap.get? b=Y o->b≠s₂.heap.objs.size:=λe=>AP (lu e)
      have ahq:Un (frs X.stack) fp H₂ (upd H5 s₂.heap.objs.size (.lst ys)) s₂.heap s6.heap :=
        ⟨pK.keep,pK.slot,λb o e n hx=>by rw[aV (lt e)];exact pK.free b o e n hx,pK.there,λb xs e=>by rw[aV (cK e B9)];exact pK.tups b xs e,
          λb o u e=>by rw[aV (cK e B9)];exact pK.jh b o u e,λb ps e=>by rw[aV (cK e B9)];exact pK.jw b ps e⟩
      have abn:cL X.prog X.w (upd H5 s₂.heap.objs.size (.lst ys)) s6.heap:=λb u e=>by
        by_cases hb:b=s₂.heap.objs.size
        · subst hb
          rw[cV]at e;cases e;exact⟨SD hlen,its,k,rv,eD⟩
        · rw[aV hb]at e
          have:=I6.hok b u e;rw[yp,xw]at this;exact this.stay (λ_ _ _ q=>q) (λc q=>by rw[aV (cK q nD)];exact q) λc xs q=>by rw[aV (cK q nD)];exact q
      have I7:Inv X pins Z (upd H5 s₂.heap.objs.size (.lst ys)) s6:=by
        refine jr.GH (ch:=fp) ?_ ahq abn I6.bare λb hb=>?_
        · have:=I6.os;rw[CD]at this;exact this
        · obtain⟨_,f1,f2,f3,f4,f5⟩:=hf b hb
          exact⟨f3,f1,f4,f5⟩
      obtain⟨m6,n6,_⟩:=I6.loc;rw[yq]at n6;have hC6:H5 H3.objs.size=O:=by have:=I6.free;rw[yq]at this;exact this
      refine fin _ _ _ s6 m6 I7 ⟨by rw[aV (Q8 hDC)];exact hC6,?_,?_,.inr (Q3 jr.sz ou),abN,λp hp=>?_⟩ n6 (qf _ nD)
      · exact Ri (I8 jr.lt ou)
      · intro z
        exact absurd z (jr.ED ou)
      · exact AP (I8 (lu (jr.pin p hp).1) ou)
    · have itm:=T.item X' yp xw xK IW i _ s5 yj H5 (λ_ _=>False) I5 (pQ Af p5) pT go
      refine QW itm (λr s6 h6=>?_) λ_ _ z=>z
      obtain⟨u,rfl,h6⟩:=h6;refine QW h6 (λ_ s7 h7=>?_) λ_ _ z=>z
      obtain⟨x,H7,I7,rx,y7,Dj,fr7⟩:=h7;have I7':=I7.pinned (pQ fr7 p5) (T.obj _ _ Dj);have mp:∀{α:Type}{t:Sem α}{Q:α->Ψ->Prop}{s:Ψ},wpAny (model X'.prog X'.w) X'.A t Q X'.xe s->wpAny (model X.prog X.w) X'.A t Q (λ_ _=>False) s:=fun{α t Q s} h=>by
        rw[yp,xw,abc]at h;exact h
      refine QW (mp (hg' _ s7 yj H7 x u _ I7' rx (step x H7 y7))) (λ_ s8 h8=>?_) λ_ _ z=>z
      obtain⟨uP,agK,agM,q8⟩:=h8;refine QW (mp (hi' _ s8 uP agK _ agM q8)) (λok s9 h9=>?_) λ_ _ z=>z
      obtain⟨H9,I9,q9⟩:=h9;have NV:∀{σ':St}{H':Hp}{s':Ψ},Inv X' ([(s₂.heap.objs.size,{cls:=.type "list",data:=.seq its.toArray k})]++vG fp s7.heap) σ' H' s'->tn (i+1) s'.heap/\∀b∈fp,H' b=O:=fun{σ' H' s'} I=>by
        refine⟨T.keep _ _ _ Dj λb hb o e=>(I.pin (b,o) (Ra _ (Ra _ (zI hb e)))).1,λb hb=>?_⟩
        obtain⟨o,e,d⟩:=T.obj _ _ Dj b hb;exact(I.pin (b,o) (Ra _ (Ra _ (zI hb e)))).2.1
      cases ok with
      | false =>
        rw[if_neg QY]at q9 ⊢;obtain⟨m',hm,w9⟩:=hN _ _ _ q9;obtain⟨t9,f9⟩:=NV I9;exact⟨m',hm,i+1,uP,ys,H9,its,k,I9.uV,rv,t9,f9,w9⟩
      | true =>
        rw[if_pos rfl]at q9 ⊢;refine QW (mp (he' _ s9 uP H9 _ I9 q9)) (λv pW h10=>?_) λ_ _ z=>z
        obtain⟨y,QK,QJ,ry,Zf⟩:=h10;obtain⟨m',hm,aha⟩:=hN _ _ _ Zf;obtain⟨ahQ,f10⟩:=NV QJ;have QI:=QJ.uV;obtain⟨eD,nD,cE,nfD,dD⟩:=QI.pin _ (Ra _ Rk);have hl:=rv.length;refine Rg F.slot_list_append ⟨_,eD,rfl⟩ F.entry_list_append (F.args_list_append_2 _ _) (VW s₂.heap.objs.size its.toArray k v (by rw[E4];omega)) ⟨eD,?_⟩
        have q:=VX eD (·.push v);have I11:Inv X' [] uP QK {pW with heap:=pW.heap.update s₂.heap.objs.size (Obj.mapSeq (·.push v))}:=by
          refine(QI.zg (DY:=[]) λp hp=>by cases hp).turned (t':=pW.toks) (it:=s₂.heap.objs.size) (λb o hb e=>(S6 pW.heap (Obj.mapSeq (·.push v)) (Q8 hb)).trans e) nD cE (.inr (by rw[CD];exact ZA _)) (λx c hc=>FY x c (by rw[<-abb];exact hc)) λp hp=>?_
          have hp:p∈X.pn++pins:=by rw[RY,IV]at hp;exact hp
          exact AP (lu (jr.pin p hp).1)
        rw[show its.toArray.push v=(its++[v]).toArray by simp]at q
        refine⟨m',hm,i+1,uP,ys++[y],QK,its++[v],_,LV I11 q nD (λv q=>nomatch q),rv.append (.cons ry .nil),?_,f10,aha⟩
        refine T.keep _ _ _ ahQ λb hb o e=>(S6 pW.heap (Obj.mapSeq (·.push v)) ?_).trans e
        exact Ri (hfo b hb)
  have e4:({scope:=relabel scope X.env,locals:=H3.objs.size,globals:=X.env.globals,cells:=cl,qual:=X.env.qual,func:=O,code:=X.env.code,frame:=X.env.frame,builtins:=X.env.builtins}:Env)=X'.env:=by rw[ag0];rfl
  have Kd:tn 0 h₄:=T.keep _ _ _ st λb _ o e=>Fo b o e
  have goal:codeAny (model X.prog X.w) X.A (.compStart (.ListComp elt [⟨tg,iter,ifs,0⟩] scope pos) 0 (.ref it) (.ref s₂.heap.objs.size) X'.env) (RR (.ref s₂.heap.objs.size) H3.objs.size) {s₂ with heap:=h₄} :=
    codeAny_compStart_list loop (T.self _ 0 _ _ _ Kd loop)
  rw[<-e4]at goal;exact goal
theorem Inv.gone{H':Hp}{s':Ψ}{h':χ}{C:J}(I:Inv X pins Z H' s') (f:iz X pins H' C) (hs:SE C s'.heap h'):Inv X pins Z H' {s' with heap:=h'}:=by
 obtain⟨f0,f1,f2,f3,f4,f5⟩:=f;exact I.turned (λb o hb e=>(hs.2 b hb).trans e) f0 f1 f3 f4 f5
theorem ak7{wi:TI}(Γ:dz X N' pick scope) (hc:X.calm=L) (hit:PI X tg iter wi)
  (hg:∀cl C s₀ H₀ ex pn,PG (fO X N' scope cl C s₀ H₀ ex pn) tg g) (hi:∀cl C s₀ H₀ ex pn,rB (fO X N' scope cl C s₀ H₀ ex pn) ifs tt) (he:∀cl C s₀ H₀ ex pn,PE (fO X N' scope cl C s₀ H₀ ex pn) elt te)
  (hs:∀x,foldedSetIterable iter X.env x=pure x:=by intro _;rfl) :
  PE X (.ListComp elt [⟨tg,iter,ifs,0⟩] scope pos) (Df wi pick g tt te):=by
 intro pins s Z H Q I h;rw[eval_ListComp];refine VR rfl hs (Qa Γ I) Γ.kind Γ.names (aZ (hit pins s Z H _ I h) λv s1 h1=>aZ h1 λitv s2 h2=>?_)
 obtain⟨it,fp,tn,Θ,H2,rfl,I2,T,st2,f2,W,⟨m0,w0⟩,turn⟩:=h2;refine PV Γ hc I2 T st2 f2 hg hi he w0 turn ?_;intro D C H' s' m I' f' n' q';exact⟨m,n',λh' hs'=>⟨.ref D,H',I'.gone f' hs',rfl,q'⟩⟩
def abi(i:Nat) (t:TE):TS:=λD Z H=>t Z H λv H1=>D.nx (Z.set i (Y v)) H1
theorem akw{wi:TI}{i:Nat}{y:Str}{py spos:Pos}(hsw:swapsWith (.ListComp elt [⟨tg,iter,ifs,0⟩] scope pos) (Y (.Name y py)) spos.line X.env=pure L) (hN:X.N.Nodup) (hy:X.N[i]? = Y y) (hl:X.env.scope.names.lookup y=Y .local)
  (Γ:dz X N' pick scope) (hc:X.calm=L) (hit:PI X tg iter wi)
  (hg:∀cl C s₀ H₀ ex pn,PG (fO X N' scope cl C s₀ H₀ ex pn) tg g) (hi:∀cl C s₀ H₀ ex pn,rB (fO X N' scope cl C s₀ H₀ ex pn) ifs tt) (he:∀cl C s₀ H₀ ex pn,PE (fO X N' scope cl C s₀ H₀ ex pn) elt te)
  (hs:∀x,foldedSetIterable iter X.env x=pure x:=by intro _;rfl) :
  PS X (.Assign [.Name y py] (.ListComp elt [⟨tg,iter,ifs,0⟩] scope pos) spos) (abi i (Df wi pick g tt te)):=by
 intro pins s Z H D I h;rw[exec_Assign_Name_used _ _ _ _ hsw];refine Rc (UW (Rc ?_));refine Rc (QW (VR rfl hs (Qa Γ I) Γ.kind Γ.names
  (aZ (hit pins s Z H _ I h) λv s1 h1=>aZ h1 λitv s2 h2=>?_)) (λ_ s' hq=>Xd (Xd hq)) λ_ _ e=>e)
 obtain⟨it,fp,tn,Θ,H2,rfl,I2,T,st2,f2,W,⟨m0,w0⟩,turn⟩:=h2;refine PV (Qv:=λv H1=>D.nx (Z.set i (Y v)) H1) Γ hc I2 T st2 f2 hg hi he w0 turn ?_
 intro Da C H' s' m I' f' n' q';refine wpAny_assign_Name (J9 I' hN hy (.inl hl) (v:=.ref Da) rfl (λs'' IP ⟨a,sb,ha⟩=>?_) (.inr hl))
 have hCa:C≠a:=by
  rcases ha with e|e
  ·rw[e];exact f'.2.1
  ·exact Q8 (f'.2.2.2.2.1 _ _ e)
 exact⟨m,n'.sameBut sb hCa,λh' hs'=>⟨_,H',IP.gone f' hs',q'⟩⟩
end
def PY(XN:List Str) (xn:List (Str×QU)) (N':List Str) (pick:List (Option Nat)) (names:List (Str×QU)):Bool :=
 decide N'.Nodup&&names.all (λx=>decide (names.lookup x.1=Y x.2))&&decide ((names.map (·.1)).Nodup)&&(pick.length==N'.length) &&
 (pick.zip N').all (λq=>match q.1 with|none=>L|some j=>decide (names.lookup q.2=Y NameKind.free)&&decide (XN[j]? = Y q.2)) &&
 names.all (λx=>decide (x.2≠NameKind.free)||(decide (xn.lookup x.1=Y NameKind.cell)||decide (xn.lookup x.1=Y NameKind.free)))
theorem dz.of{X:Cx}{N':List Str}{pick:List (Option Nat)}{scope:Q5}(hk:scope.kind=.function) (h:PY X.N X.env.scope.names N' pick scope.names=L):dz X N' pick scope:=by
 unfold PY at h;simp only[RI,R8,decide_eq_true_eq,beq_iff_eq,SR]at h;obtain⟨⟨⟨⟨⟨h1,h2⟩,h3⟩,h4⟩,h5⟩,h6⟩:=h;refine⟨hk,h1,λx hx e=>by rw[<-e];exact h2 x hx,h3,h4,λi j x hp hN=>?_,λx hx e=>?_⟩
 ·have hm:(Y j,x)∈pick.zip N':=by
   have:(pick.zip N')[i]? = Y (Y j,x):=by rw[VQ];exact⟨hp,hN⟩
   exact R5 this
  exact h5 _ hm |> λz=>by simpa using z
 ·rcases h6 x hx with z|z|z
  ·exact absurd e z
  ·exact .inl z
  ·exact .inr z
end L2
namespace PySem
open Sem (wp)
section
variable {prog:ο}{w:π}{A:ψ}{E:S->Ψ->Prop}{s:Ψ}
theorem Y8{it l:J}{i:Nat}{items:Array S}{x:S}{Q:S->Ψ->Prop}(hit:s.heap.IsTupleIter it l i)
  (hl:s.heap.IsTuple l items) (hx:items[i]? = Y x)
  (hQ:∀h',h'.IsTupleIter it l (i+1)->SE it s.heap h'->Q x {s with heap:=h'}) :
  wpAny (model prog w) A (Builtin.SmallTypes.nextOf (.ref it)) Q E s:=by
 obtain⟨o,ho,hc,hd⟩:=id hit;obtain⟨ol,jg,_,nl,hdl⟩:=hl;refine Rc (Sy hit.typeIs To
  (Rp To hit.typeIs VP ?_ (VO _)))
 show wpAny _ _ (field _ 0 >>= _) _ _ s;refine Rc (SK ho hd rfl ?_);refine Rc (SK ho hd rfl ?_);refine Rc (wpAny_seqItems jg hdl ?_);simp only[Sk,hx];refine Rc (Su ho hd (by simp) (Xd ⟨x,rfl,Xd (hQ _ ?_ (SQ ..))⟩))
 exact⟨_,Sx _ ho (UI (Sd hd _)),(UH ..).trans hc,by
  rw[Sd hd];simp[rawInt]⟩
theorem Y9{it l:J}{i:Nat}{items:Array S}{Q:S->Ψ->Prop}(hh:A.handled=O)
  (hit:s.heap.IsTupleIter it l i) (hl:s.heap.IsTuple l items) (hx:items[i]? = O)
  (hE:∀h' e,Heap.ExtBut it s.heap h'->(∃o,h'.get? e=Y o/\o.cls=.type "StopIteration")->E (.ref e) {s with heap:=h'}) :
  wpAny (model prog w) A (Builtin.SmallTypes.nextOf (.ref it)) Q E s:=by
 obtain⟨o,ho,hc,hd⟩:=id hit;obtain⟨ol,jg,_,nl,hdl⟩:=hl;refine Rc (Sy hit.typeIs To
  (Rp To hit.typeIs VP ?_ (VO _)))
 show wpAny _ _ (field (.ref it) 0 >>= _) _ _ s;refine Rc (SK ho hd (x:=.ref l) rfl ?_);refine Rc (SK ho hd rfl ?_);refine Rc (wpAny_seqItems jg hdl ?_);simp only[Sk,hx];refine Rc (wpAny_rule (Rc (Su ho hd (by simp) ?_)))
 refine Rc ?_;refine Rc (m:=firstArgMember _ _) (Ss (a:=Value.none) (by first|rfl|(simp;rfl)) ?_)
 refine S7 ?_ (by size_fits)
 refine Rc (wpAny_handled ?_)
 first|rw[show A.in1.handled=O from hh]|rw[hh]
 refine Rc (Xd (wpAny_throw ?_));exact hE _ _ (((SQ ..).extBut.push _).push _) ⟨_,E3 _ rfl,rfl⟩
theorem Draws.tuple{prog:ο}{w:π}{A:ψ}(hh:A.handled=O) (it l:J) (hne:l≠it) (items:Array S) :
  Draws prog w A it [it,l] items.size (λi v=>items[i]? = Y v) (λi h=>h.IsTupleIter it l i/\h.IsTuple l items) where
 live:=λ_ _ st=>let⟨o,ho,_⟩:=st.1;⟨o,ho⟩
 frame:=λ_ _ _ st hk=>⟨st.1.at λo e=>hk it (by simp) o e,let⟨o,e,r⟩:=st.2;⟨o,hk l (by simp) o e,r⟩⟩
 item:=λi s Q E hi st hQ=>Y8 st.1 st.2 (x:=items[i]) (by simp) λh' wM hs'=>hQ _ h' s.toks (by simp) ⟨wM,let⟨o,e,r⟩:=st.2;⟨o,hs'.extBut _ _ hne e,r⟩⟩ hs'
 done:=λs Q E st hE=>Y9 hh st.1 st.2 (by simp) hE
structure agA (z TI TO i1 i2:J) (f1 f2:List J):Prop where
 TIz:TI≠z
 TOz:TO≠z
 TITO:TI≠TO
 TIi1:TI≠i1
 TIi2:TI≠i2
 m1:i1∈f1
 m2:i2∈f2
 z1:z∉f1
 z2:z∉f2
 o1:TO∉f1
 o2:TO∉f2
 x1:i1∉f2
 x2:i2∉f1
open AutoSeq1 (wpAny_loadPart')
theorem ZF(l:J) (items:Array S) (n:Nat) (dct:Option J) (sl:Array (Option S)) :
  Meets (Builtin.«enumerate.__new__» ⟨[.type "enumerate",.ref l],[]⟩) (λ_ R s=>s.heap.get? l=Y {cls:=.type "tuple",dict:=dct,data:=.seq items n,slots:=sl} /\
   R (.ok (.ret (.ref (s.heap.push {cls:=.type "tuple_iterator",data:=.fields #[.ref l,.int 0 0]}).objs.size)))
    {s with heap:=(s.heap.push {cls:=.type "tuple_iterator",data:=.fields #[.ref l,.int 0 0]}).push {cls:=.type "enumerate",data:=.fields #[.none,.bool G,.ref s.heap.objs.size,rawInt 0,.none,.none]} }) :=
 .of_wp λprog w A R s h=>by
  obtain⟨hp,g,d,tk,os⟩:=s;obtain⟨hl,h⟩:=h;have hsub:=sub_enumerate;have hL:Heap.IsTuple (Shared.heap ⟨hp,g,d,tk,os⟩) l items:=⟨_,hl,rfl,n,rfl⟩
  wp_walk using wpAny_loadPart' hl
  refine wpAny_stack_any λst=>Xd ?_
  split
  ·rename_i c _ _ _ _ _;cases(c==Value.type "enumerate")
   ·wp_walk using wpAny_loadPart' hl,T6 hL
    exact⟨_,rfl,h⟩
   ·wp_walk using wpAny_loadPart' hl,T6 hL
    exact⟨_,rfl,h⟩
  ·wp_walk using wpAny_loadPart' hl,T6 hL
   exact⟨_,rfl,h⟩
theorem adT{l:J}{items:Array S}{Q:S->Ψ->Prop}(hL:s.heap.IsTuple l items)
  (h:∀h',IsEnum h' (s.heap.objs.size+1) s.heap.objs.size 0 .none->h'.IsTupleIter s.heap.objs.size l 0->h'.objs.size=s.heap.objs.size+2 ->
   (∀b o,s.heap.get? b=Y o->h'.get? b=Y o)->Q (.ref (s.heap.objs.size+1)) {s with heap:=h'}) :
  wpAny (model prog w) A (call (.type "enumerate") [.ref l]) Q E s:=by
 obtain⟨⟨c,dct,dt,sl⟩,hl,hc,n,hd⟩:=hL
 replace hc:c=.type "tuple":=hc
 subst hc hd;refine callType_new F.called_enumerate (by decide) (F.typeCall_enumerate_1 _) (F.newCall_enumerate_1 _) (λobj=>F.args_object_init_2 obj _) F.entry_enumerate_new
  (ZF l items n dct sl) ⟨hl,?_⟩
 have hz:(s.heap.push {cls:=.type "tuple_iterator",data:=.fields #[.ref l,.int 0 0]}).objs.size=s.heap.objs.size+1:=RK ..;rw[hz];have he:IsEnum ((s.heap.push {cls:=.type "tuple_iterator",data:=.fields #[.ref l,.int 0 0]}).push
   {cls:=.type "enumerate",data:=.fields #[.none,.bool G,.ref s.heap.objs.size,rawInt 0,.none,.none]}) (s.heap.objs.size+1) s.heap.objs.size 0 .none:=by
  have:=E3 (s.heap.push {cls:=.type "tuple_iterator",data:=.fields #[.ref l,.int 0 0]})
   (o:={cls:=.type "enumerate",data:=.fields #[.none,.bool G,.ref s.heap.objs.size,rawInt 0,.none,.none]}) rfl
  rw[hz]at this;exact this
 refine⟨⟨_,he,rfl⟩,h _ he ⟨_,gn _ (E3 _ rfl),rfl,rfl⟩ (by rw[RK,hz]) λb o x=>gn _ (gn _ x)⟩
end
end PySem
namespace L2
open PySem PySem.Spec PyProof.Rows
section
variable {X:Cx}{pins:List (J×Obj)}{Z:St}{H:Hp}{s:Ψ}{K:θ}
theorem acz{a b:J}{xs:List V}(I:Inv X pins Z H s) (f:iz X pins H b) (q:ck X.K H a xs):a≠b:=by
 rintro rfl
 rcases q with(q|⟨o,q⟩)|⟨o,its,n,q,_⟩
 ·rw[f.1]at q;cases q
 ·rw[f.1]at q;cases q
 ·have e:=I.ok.mod.fT a o q
  rcases f.2.2.2.1 with z|z
  ·exact I.ok.nJ _ _ e z
  ·exact absurd (I8 (lu e) (Q3 I.ok.iS z)) (RQ _)
theorem Inv.aa9{h':χ}{t':Nat}{ch:List J}{T:J}{vs:List V}{us:List S}(I:Inv X pins Z H s) (hf:∀b∈ch,iz X pins H b) (k:∀b o,b∉ch->s.heap.get? b=Y o->h'.get? b=Y o)
  (hT:s.heap.objs.size<=T) (th:∀b∈ch,∃o,h'.get? b=Y o) (rv:Vals vs us) (hz:vs.length<=Ξ) (tup:lF h' T us.toArray):Inv X pins Z (upd H T (.tup vs)) {s with heap:=h',toks:=t'}:=by
 have hn:H T=O:=I.hok.fresh hT;have j8:∀b u,H b=Y u->b∉ch:=λb u e z=>by rw[(hf b z).1]at e;cases e
 refine I.step (g':=s.gens) (d':=s.drawn) (ch:=ch) (λb hb=>?_) (λb o _ _ hc e _=>k b o hc e) (λb o _ _ hc e _=>⟨o.slots,k b o hc e⟩) (λb o _ e n=>?_)
  (λb o hc e=>⟨o,k b o hc e⟩) (λb xs e=>by rw[aV (cK e hn)];exact e) (λb o u e=>by rw[aV (cK e hn)];exact e) (λb ps e=>⟨#[],by rw[aV (cK e hn),e];simp⟩) (λm hm=>?_) (λb u e=>?_) I.bare
 ·obtain⟨f0,f1,f2,f3,f4,f5⟩:=hf b hb;exact⟨f3,f1,f4,f5⟩
 ·rw[aV (AP (I8 (lu e) hT))];exact n
 ·obtain⟨o,es,ep,ho,r⟩:=hm;exact⟨o,es,ep,k _ o (λz=>(hf _ z).2.1 rfl) ho,r⟩
 ·by_cases hb:b=T
  ·subst hb;rw[cV]at e;cases e;exact⟨hz,us,rv,tup⟩
  ·rw[aV hb]at e;refine(I.hok b u e).stay (λc v hc q=>k c v ?_ q) (λc q=>by rw[aV (cK q hn)];exact q) λc xs q=>by rw[aV (cK q hn)];exact q
   rcases hc with z|z
   ·rw[z];exact j8 b u e
   ·exact j8 c _ z
theorem Inv.ag4{h':χ}{t':Nat}{ch:List J}(I:Inv X pins Z H s) (hf:∀b∈ch,iz X pins H b) (k:∀b o,b∉ch->s.heap.get? b=Y o->h'.get? b=Y o):Inv X pins Z H {s with heap:=h',toks:=t'}:=by
 have j8:∀b u,H b=Y u->b∉ch:=λb u e z=>by rw[(hf b z).1]at e;cases e
 refine I.step (ch:=ch) (λb hb=>?_) (λb o _ _ hc e _=>k b o hc e) (λb o _ _ hc e _=>⟨o.slots,k b o hc e⟩) (λb o _ e n=>n)
  (λb o hc e=>⟨o,k b o hc e⟩) (λb xs e=>e) (λb o u e=>e) (λb ps e=>⟨#[],by rw[e];simp⟩) (λm hm=>?_) (λb u e=>?_) I.bare
 ·obtain⟨f0,f1,f2,f3,f4,f5⟩:=hf b hb;exact⟨f3,f1,f4,f5⟩
 ·obtain⟨o,es,ep,ho,r⟩:=hm;exact⟨o,es,ep,k _ o (λz=>(hf _ z).2.1 rfl) ho,r⟩
 ·refine(I.hok b u e).stay (λc v hc q=>k c v ?_ q) (λc q=>q) λc xs q=>q
  rcases hc with z|z
  ·rw[z];exact j8 b u e
  ·exact j8 c _ z
end
structure QD (P:ο) (w:π) (K:θ) (Sq:Hp->J->List V->Prop) (rG:χ->J->J->Nat->Prop) (B8:χ->J->Array S->Prop):Prop where
 get:∀{X:Cx}{pins:List (J×Obj)}{Z:St}{H:Hp}{s:Ψ}{a:J}{xs:List V},X.K=K->Inv X pins Z H s->Sq H a xs->∃its:List S,Vals xs its/\B8 s.heap a its.toArray/\xs.length<=Ξ
 inj:∀{X:Cx}{pins:List (J×Obj)}{Z:St}{H:Hp}{s:Ψ}{a:J}{xs ys:List V},X.K=K->Inv X pins Z H s->Sq H a xs->Sq H a ys->xs=ys
 ne:∀{X:Cx}{pins:List (J×Obj)}{Z:St}{H:Hp}{s:Ψ}{a b:J}{xs:List V},X.K=K->Inv X pins Z H s->iz X pins H b->Sq H a xs->a≠b
 Bc:∀(A:ψ) (it l:J) (items:Array S),A.handled=O->l≠it->Draws P w A it [it,l] items.size (λi v=>items[i]? = Y v) (λi h=>rG h it l i/\B8 h l items)
 obj:∀{h:χ}{it l:J}{i:Nat},rG h it l i->∃o,h.get? it=Y o/\∀v,o.data≠.cell v
 at':∀{h h':χ}{it l:J}{i:Nat},rG h it l i->(∀o,h.get? it=Y o->h'.get? it=Y o)->rG h' it l i
theorem aip{P:ο}{w:π}{K:θ}:QD P w K (ck K) (λh it l i=>h.IsTupleIter it l i) (λh a xs=>h.IsTuple a xs) where
 get:=λe I q=>by subst e;obtain⟨its,r,p,z⟩:=I.tuple q;exact⟨its,r,p,z⟩
 inj:=λe I q q'=>by subst e;exact I.JA q q'
 ne:=λe I f q=>by subst e;exact acz I f q
 Bc:=λA it l items hh hne=>Draws.tuple hh it l hne items
 obj:=λst=>by obtain⟨o,e,c,d⟩:=st;exact⟨o,e,λv z=>by rw[d]at z;cases z⟩
 at':=λst k=>st.at k
def IM(Sq:Hp->J->List V->Prop) (a:J):It :=
  ⟨λi H=>∃xs x,Sq H a xs/\xs[i]? = Y x,
   λi H v H'=>∃t x,v=.ref t/\H t=O/\H'=upd H t (.tup [.int i,x])/\∀xs,Sq H a xs->xs[i]? = Y x,
   λi H=>∃xs,Sq H a xs/\i=xs.length⟩
theorem Jo{xs:List V}{us:List S}{i:Nat}{u:S}(r:Vals xs us) (h:us.toArray[i]? = Y u):∃x,xs[i]? = Y x/\RelV x u:=by
 have h':us[i]? = Y u:=by simpa using h
 have hi:i<xs.length:=by rw[r.length];exact(Q7.mp h').1
 obtain⟨u',e,q⟩:=r.get (Bt hi);rw[h']at e;cases e;exact⟨xs[i],Bt hi,q⟩
theorem aih{P:ο}{w:π}{K:θ}{Sq:Hp->J->List V->Prop}{rG:χ->J->J->Nat->Prop}{B8:χ->J->Array S->Prop}(Γ:QD P w K Sq rG B8) {es:List ν}{k:Nat}{pt:Pos}(a e it:J) (n1:e≠it) :
  Turn P w K (.Tuple es k pt) (IM Sq a) [e,it] e (λi h=>(∃old,IsEnum h e it i old)/\rG h it a i) where
 mem:=by simp
 obj:=λi h st b hb=>by
  obtain⟨⟨old,hz⟩,h1⟩:=st;simp only[l8,R7,or_false]at hb
  rcases hb with rfl|rfl
  ·exact⟨_,hz,λv q=>nomatch q⟩
  ·exact Γ.obj h1
 keep:=λi h h' st kp=>by
  obtain⟨⟨old,hz⟩,h1⟩:=st;exact⟨⟨old,kp _ (by simp) _ hz⟩,Γ.at' h1 λo e=>kp _ (by simp) o e⟩
 item:=by
  intro X hP hw hK hc i pins s Z H E I hf st hg;subst hP hw;obtain⟨xs,x,q1,hx⟩:=hg;obtain⟨⟨old,hz⟩,h1⟩:=st;obtain⟨us,r1,p1,l1⟩:=Γ.get hK I q1;have ne1:∀{b:J},b∈[e,it]->a≠b:=λhb=>Γ.ne hK I (hf _ hb) q1
  have hx':i<us.toArray.size:=by have:=(Q7.mp hx).1;have:=r1.length;simp;omega
  have W:=WalksT.enumerateD (A:=X.A) (Γ.Bc X.A.in1 it a us.toArray (I.ok.hd hc) (ne1 (by simp))) e n1 (by simp only[l8,R7,or_false,not_or];exact⟨n1,(ne1 (by simp)).symm⟩) (by simp)
  refine wpAny_pyNext_enum_itemD (Γ.Bc X.A.in1 it a us.toArray (I.ok.hd hc) (ne1 (by simp))) hz ⟨h1,p1⟩ hx' n1 (by simp only[l8,R7,or_false,not_or];exact⟨n1,(ne1 (by simp)).symm⟩) λu0 h' tk0 akG ho0 hs0 hT0 hsz0 hk0=>?_
  have hilt:it<s.heap.objs.size:=by obtain⟨o,e3,_⟩:=Γ.obj h1;exact lu e3
  have hT:s.heap.objs.size<=s.heap.objs.size:=ZA _;have mid:(∃x,IsEnumOut h' e it ((i:Int)+1) x s.heap.objs.size)/\_/\s.heap.objs.size≠e/\s.heap.objs.size≠it:=⟨⟨_,ho0⟩,hs0,Ri (lu hz),Ri hilt⟩;have kp:∀b o,b∉[e,it]->s.heap.get? b=Y o->h'.get? b=Y o:=λb o hb y=>hk0 b o (λe'=>hb (by simp[e'])) (λe'=>hb (by simp[e'])) y
  refine⟨_,rfl,?_⟩;refine W.go es k pt i s.heap.objs.size {s with heap:=h',toks:=tk0+1} _ _ mid λh'' st'' NS=>?_
  obtain⟨x',ex,rx⟩:=Jo r1 akG;have lt:∀{c:J}{o:Obj},s.heap.get? c=Y o->c≠s.heap.objs.size:=λq=>AP (lu q)
  have hT2:lF h'' s.heap.objs.size [.int i tk0,u0].toArray:=⟨_,NS _ _ (W.apart _ _ _ mid) hT0,rfl,⟨_,rfl⟩,rfl⟩;have I2:Inv X pins Z (upd H s.heap.objs.size (.tup [.int i,x'])) {s with heap:=h'',toks:=tk0+1}:=by
   refine I.aa9 (ch:=[e,it]) (us:=[.int i tk0,u0]) hf (λc o hcn e1=>NS _ _ hcn (kp c o hcn e1)) hT (λb hb=>?_) (.cons ⟨tk0,rfl⟩ (.cons rx .nil)) (by show 2<=Ξ;decide) hT2
   simp only[l8,R7,or_false]at hb
   rcases hb with rfl|rfl
   ·obtain⟨⟨o2,e2⟩,_⟩:=st'';exact⟨_,e2⟩
   ·obtain⟨_,e2,_⟩:=st'';obtain⟨o,e3,_⟩:=Γ.obj e2;exact⟨o,e3⟩
  refine⟨.ref s.heap.objs.size,_,I2,rfl,⟨_,x',rfl,I.hok.fresh hT,rfl,λxs' w1=>?_⟩,⟨?_,st''.2.1⟩,λb hb=>?_⟩
  ·rw[Γ.inj hK I w1 q1];exact ex
  ·obtain⟨⟨o2,e2⟩,_⟩:=st'';exact⟨o2,by simpa using e2⟩
  ·have hb':b≠s.heap.objs.size:=by
    simp only[l8,R7,or_false]at hb
    rcases hb with rfl|rfl
    ·exact lt hz
    ·obtain⟨o,e3,_⟩:=Γ.obj h1;exact lt e3
   rw[aV hb'];exact(hf b hb).1
 done:=by
  intro X hP hw hK hc i pins s Z H E I hf st hg;subst hP hw;obtain⟨xs,q1,hend⟩:=hg;obtain⟨⟨old,hz⟩,h1⟩:=st;obtain⟨us,r1,p1,l1⟩:=Γ.get hK I q1;have ne1:∀{b:J},b∈[e,it]->a≠b:=λhb=>Γ.ne hK I (hf _ hb) q1
  have W:=WalksT.enumerateD (A:=X.A) (Γ.Bc X.A.in1 it a us.toArray (I.ok.hd hc) (ne1 (by simp))) e n1 (by simp only[l8,R7,or_false,not_or];exact⟨n1,(ne1 (by simp)).symm⟩) (by simp)
  have ei:i=us.toArray.size:=by rw[E4,<-r1.length];exact hend
  subst ei;refine W.done s _ _ ⟨⟨old,hz⟩,h1,p1⟩ λh' tk kp=>⟨rfl,I.ag4 (ch:=[e,it]) hf kp⟩
 self:=λA i s Q E st h=>by
  obtain⟨⟨old,hz⟩,h1⟩:=st;exact wpAny_pyIter_enum hz h
section
variable {X:Cx}{es':List ν}{kt:Nat}{pt:Pos}
def aa7(Sq:Hp->J->List V->Prop) (ta:TA):TI:=λZ H R=>ta Z H λvs H1=>∃a,vs=[.ref a]/\(∃xs,Sq H1 a xs)/\R (IM Sq a) H1
theorem agY{pins:List (J×Obj)}{Z:St}{H:Hp}{s:Ψ}{n:Nat}(I:Inv X pins Z H s) (hn:s.heap.objs.size=n):∀b∈[n+4,n+2,n+3,n,n+1],iz X pins H b:=λb hb=>by
 have:s.heap.objs.size<=b:=by
  simp only[l8,R7,or_false]at hb
  rcases hb with rfl|rfl|rfl|rfl|rfl<;>rw[hn]
  ·exact Tn _ _
  ·exact Tn _ _
  ·exact Tn _ _
  ·exact ZA _
  ·exact Tn _ _
 exact I.wV this (I.hok.fresh this)
theorem Wh{a:ν}{ta:TA}{p pos:Pos}(hg:Gl X "enumerate") (hm:X.mg "enumerate"=O) (ha:PA X [a] ta) (hs:ε [a] X.env=[(G,eval a X.env)]:=by rfl) :
  PI X (.Tuple es' kt pt) (.Call (.Name "enumerate" p) [a] [] pos) (aa7 (ck X.K) ta):=by
 intro pins s Z H R I h;refine Call_ (tR I hg hm boot_enumerate (Tu (aZ (ha pos pins s Z H _ I h) λus s1 ⟨vs,H1,I1,r1,q1⟩=>?_) hs rfl))
 obtain⟨a1,e,⟨xs,q1⟩,q⟩:=q1;subst e;cases r1 with
 |cons r rr =>
  cases rr;cases r;obtain⟨us,ru,pu,agC⟩:=I1.tuple q1;refine adT pu λh' hz t1 _ kp=>wpAny_pyIter_enum hz ?_
  generalize hn:s1.heap.objs.size=n at hz t1
  refine⟨n+1,_,_,_,H1,rfl,I1.kept (t':=s1.toks) kp,aih aip a1 (n+1) n (Ri (Rr _)),⟨⟨_,hz⟩,t1⟩,λb hb=>?_,q⟩
  refine agY I1 hn b ?_;simp only[l8,R7,or_false]at hb
  rcases hb with rfl|rfl<;>simp
end
section
variable {X:Cx}
theorem JC{A:ψ}{bs:List Bool}{its:List S}(r:Vals (bs.map V.bl) its):TruthOf X.prog X.w A (λi v=>its.toArray[i]? = Y v) (λi=>bs.getD i G):=by
 intro i v s Q E hP hQ;obtain⟨x,ex,rx⟩:=Jo r hP;rw[Q9]at ex;cases e:bs[i]? with
 |none=>rw[e]at ex;cases ex
 |some b =>
  rw[e]at ex;cases ex;cases rx;refine Ry ?_;have:bs.getD i G=b:=by rw[Q6,e];rfl
  have hQ:Q (bs.getD i G) s:=hQ
  rwa[this]at hQ
theorem range_all(bs:List Bool):((Ω bs.length).all λi=>bs.getD i G)=bs.all id:=by
 rw[RW,R8,R8]
 constructor
 ·intro h b hb;obtain⟨i,hi,e⟩:=S4.mp hb;have:=h i (H8.mpr hi);rw[Q6,Bt hi]at this;rw[<-e];exact this
 ·intro h i hi;have hi:=H8.mp hi;rw[Q6,Bt hi];exact h _ (RH hi)
theorem range_any(bs:List Bool):((Ω bs.length).any λi=>bs.getD i G)=bs.any id:=by
 rw[RW,Sb,Sb]
 constructor
 ·rintro ⟨i,hi,h⟩
  have hi:=H8.mp hi;rw[Q6,Bt hi]at h;exact⟨_,RH hi,h⟩
 ·rintro ⟨b,hb,h⟩
  obtain⟨i,hi,e⟩:=S4.mp hb;refine⟨i,H8.mpr hi,?_⟩;rw[Q6,Bt hi,e];exact h
theorem Hg{pins:List (J×Obj)}{Z:St}{H:Hp}{s:Ψ}{h':χ}{tk:Nat}{o:Obj}(I:Inv X pins Z H s) (kp:∀b q,b∉[s.heap.objs.size]->(s.heap.push o).get? b=Y q->h'.get? b=Y q):Inv X pins Z H {s with heap:=h',toks:=tk} :=
 I.kept λb q e=>kp b q (by simp;exact AP (lu e)) (gn _ e)
theorem adV(hc:X.calm=L):cP X (.builtin "all") (λxs H Q=>∃(p:J) (bs:List Bool),xs=[.ref p]/\bN X.K H p (bs.map V.bl)/\Q (.bl (bs.all id)) H):=by
 intro pins s Z H xs us Q I r h;obtain⟨p,bs,rfl,hp,q⟩:=h;obtain⟨u,rfl,ru⟩:=R0 r;cases ru;obtain⟨its,rv,pl,hz⟩:=I.list hp;have hL:=pl.isList;refine call_all_walk (T7 hL ⟨s.heap.objs.size,_,_,its.toArray.size,_,_,λi=>bs.getD i G,rfl,Tj (A:=X.A.in1) (I.ok.hd hc) s.heap.objs.size p (by obtain⟨o,e,_⟩:=hL;exact AP (lu e)) its.toArray,⟨⟨_,E3 _ rfl,rfl,rfl⟩,hL.push _⟩,JC rv,λh' tk kp=>?_⟩)
 have hl:=rv.length;rw[x8]at hl;have I1:Inv X pins Z H {s with heap:=h',toks:=tk}:=Hg I kp
 refine⟨.bl (bs.all id),H,I1,?_,q⟩;show Value.bool _=Value.bool _;rw[E4,<-hl,range_all]
theorem adU(hc:X.calm=L):cP X (.builtin "any") (λxs H Q=>∃(p:J) (bs:List Bool),xs=[.ref p]/\bN X.K H p (bs.map V.bl)/\Q (.bl (bs.any id)) H):=by
 intro pins s Z H xs us Q I r h;obtain⟨p,bs,rfl,hp,q⟩:=h;obtain⟨u,rfl,ru⟩:=R0 r;cases ru;obtain⟨its,rv,pl,hz⟩:=I.list hp;have hL:=pl.isList;have hpn:p≠s.heap.objs.size:=by obtain⟨o,e,_⟩:=hL;exact AP (lu e)
 refine call_any_walk (T7 hL ⟨s.heap.objs.size,_,_,its.toArray.size,_,_,λi=>bs.getD i G,rfl,Tj (A:=X.A.in1) (I.ok.hd hc) s.heap.objs.size p hpn its.toArray,⟨⟨_,E3 _ rfl,rfl,rfl⟩,hL.push _⟩,JC rv,λh' tk kp=>?_⟩)
 have hl:=rv.length;rw[x8]at hl;have I1:Inv X pins Z H {s with heap:=h',toks:=tk}:=Hg I kp
 refine⟨.bl (bs.any id),H,I1,?_,q⟩;show Value.bool _=Value.bool _;rw[E4,<-hl,range_any]
def tyName(H:Hp):V->String->Prop
 |.aE,n=>n="NoneType"
 |.bl _,n=>n="bool"
 |.int _,n=>n="int"
 |.str _,n=>n="str"
 |.ref a,n=>(n="list"/\((∃xs,H a=Y (.lst xs))\/∃o xs,H a=Y (.cN o (.lst xs))))\/(n="tuple"/\∃xs,H a=Y (.tup xs))\/(n="dict"/\((∃k,H a=Y (.dK k))\/∃k,H a=Y (.dT k)))
 |_,_=>False
theorem aht{K:θ}{H:Hp}{x:V}{n:String}(h:tyName H x n):jn K H x (.type n):=by
 cases x with
 |aE=>cases(show n="NoneType" from h);exact .aE
 |bl b=>cases(show n="bool" from h);exact .bl b
 |int b=>cases(show n="int" from h);exact .int b
 |str b=>cases(show n="str" from h);exact .str b
 |ref a =>
  rcases h with⟨rfl,⟨xs,e⟩|⟨o,xs,e⟩⟩|⟨rfl,xs,e⟩|⟨rfl,⟨k,e⟩|⟨k,e⟩⟩
  ·exact .lst e
  ·exact .cN e
  ·exact .tup e
  ·exact .dK e
  ·exact .dT e
 |_=>exact False.elim h
def vj(n T:String):Bool:=n==T||(n=="bool"&&T=="int")
def aag(n T:String):Option Bool:=if(Value.type n==Value.type T)=L then Y L else if PySem.W.kitMeta T=L then(fastBuiltinMro n).map (·.contains (Value.type T))else O
theorem NU{K:θ}{n T:String}(hn:n∈["NoneType","bool","int","str","list","tuple","dict"]) (hT:T∈["bool","int","str","list","tuple","dict"]):PySem.W.kitOne K (.type n) (.type T)=Y (vj n T):=by
 show aag n T=Y (vj n T);simp only[l8,R7,or_false]at hn hT
 rcases hn with rfl|rfl|rfl|rfl|rfl|rfl|rfl<;>rcases hT with rfl|rfl|rfl|rfl|rfl|rfl<;>decide +kernel
theorem ahs{H:Hp}{x:V}{n:String}(h:tyName H x n):n∈["NoneType","bool","int","str","list","tuple","dict"]:=by
 cases x with
 |aE=>cases(show n="NoneType" from h);simp
 |bl b=>cases(show n="bool" from h);simp
 |int b=>cases(show n="int" from h);simp
 |str b=>cases(show n="str" from h);simp
 |ref a=>rcases h with⟨rfl,_⟩|⟨rfl,_⟩|⟨rfl,_⟩<;>simp
 |_=>exact False.elim h
theorem adR:cP X (.builtin "isinstance") (λxs H Q=>∃x n T,xs=[x,.ty T]/\tyName H x n/\T∈["bool","int","str","list","tuple","dict"]/\Q (.bl (vj n T)) H):=by
 intro pins s Z H xs us Q I r h;obtain⟨x,n,T,rfl,hx,hT,q⟩:=h;obtain⟨u,v,rfl,ru,rv⟩:=Vals.two r;cases(show v=Value.type T from rv)
 exact aaO I ru (aht hx) (NU (ahs hx) hT) λtk=>⟨.bl _,H,I.tok tk,rfl,q⟩
end
def acN(ea C:J):χ->Prop:=λh=>∃o,h.get? ea=Y o/\o.cls=.ref C
def ac3(a:J):χ->Prop:=PySem.W.KitAt a "dict"
structure Def (K:θ) (mg:Str->Option S) (x:Str) (st:υ) (ps:List Str) (f:J) (fd:Q2):Prop where
 fn:iV K x x st f fd
 at':mg x=Y (.ref f)
 bd:Binds K fd ps []
section
variable {X:Cx}
theorem Wy{x:Str}{st:υ}{ps:List Str}{f:J}{fd:Q2}{k:Nat}{sp:Sp}{e:ν}{es:List ν}{t:TA}{p pos:Pos}(D:Def X.K X.mg x st ps f fd) (ξ:cg X.prog X.w X.K X.mg X.base bV k f fd ps sp) (hr:b7 k X.A) (ha:PA X (e::es) t) (hg:Gl X x:=by rfl)
  (hdb:(x==("__debug__":Str))=G:=by decide) (he:ε (e::es) X.env=(G,eval e X.env)::ε es X.env:=by rfl) (hpl:(ω pos (ε es X.env)).any (·.1)=G:=by rfl) :
  PE X (.Call (.Name x p) (e::es) [] pos) (JW sp [] E0 t):=ak3 ξ hr hg D.at' D.fn.kp D.bd .nil sH ha hdb he hpl
theorem Wo{x:Str}{n:String}{pos:Pos}(hg:Gl X x) (hm:X.mg x=O) (hv:bootBuiltins x=Y (.type n)) (hn:x≠"__name__":=by decide) (hd:(x==("__debug__":Str))=G:=by decide):PE X (.Name x pos) (tC (.ty n)):=ak2 hg hm hv rfl hn hd
end
def isStar:ν->Bool
 |.Starred _ _=>L
 |_=>G
theorem c9{a:ν}{es:List ν}{env:Env}(h:isStar a=G):ε (a::es) env=(G,eval a env)::ε es env:=by
 cases a<;>first|(cases h;done)|(simp only[ε];done)
def noStar(es:List ν):Bool:=es.all λa=>!isStar a
theorem fK{es:List ν}{env:Env}{pos:Pos}(h:noStar es=L):(ω pos (ε es env)).any (·.1)=G:=by
 induction es with
 |nil=>simp only[ε];rfl
 |cons a es ih =>
  have h:(!isStar a&&noStar es)=L:=h;rw[RI]at h;rw[c9 (by simpa using h.1)]
  have:=ih h.2
  simpa[ω]using this
theorem rY{a:ν}{env:Env}(h:isStar a=G):ε [a] env=[(G,eval a env)]:=by
 rw[c9 h];simp only[ε]
theorem Kc{a b:ν}{env:Env}(h:isStar a=G) (g:isStar b=G):ε [a,b] env=[(G,eval a env),(G,eval b env)]:=by
 rw[c9 h,rY g]
theorem pR{a:ν}{env:Env}{pos:Pos}(h:isStar a=G):((ω pos (ε [a] env)).all (λx=>!x.1)&&(RA pos (RB [] env)).all (λx=>x.1.isSome)
   && decide ([a].length+([]:List QX).length+(if([]:List QX).isEmpty then 0 else 1)<30))=L:=by
 rw[rY h];simp[ω,RA,RB]
inductive D where
 |aE|bl (b:Bool)|int (i:Int)|str (x:Str)|ty (n:String)|tup (l:List D)|lst (l:List D)|ref (k:Nat)|cD (l:List Int)|fn (x:Str) (n:Nat)|exc (x:Str)|iH|dct (ks:List (Int×Int))|eG (k:Nat)|cS (a b:Nat)|dX (a b:Nat)|lam (k:Nat) (e:ν) (ns:List Str) (l:List D)
inductive Cell where
 |lst (l:List D)
 |kd (l:List (Str×D))
def Cell.its:Cell->List D
 |.lst l=>l
 |.kd l=>l.map (·.2)
def Cell.ho:Cell->List V->HO
 |.lst _,xs=>.lst xs
 |.kd l,xs=>.dK ((l.map λp=>(Sum.inr p.1:Key)).zip xs)
def zU:HO->Nat
 |.lst _=>1
 |.dK _=>2
 |_=>0
def fU(n:Nat) (H:Hp) (a:J):Prop:=∃o,H a=Y o/\zU o=n
theorem fU.lst{H:Hp}{a:J}(h:fU 1 H a):∃xs,H a=Y (.lst xs):=by
 obtain⟨o,e,k⟩:=h;cases o<;>first|exact⟨_,e⟩|cases k
theorem fU.dK{H:Hp}{a:J}(h:fU 2 H a):∃xs,H a=Y (.dK xs):=by
 obtain⟨o,e,k⟩:=h;cases o<;>first|exact⟨_,e⟩|cases k
theorem fU.upd{n:Nat}{H:Hp}{a p:J}{o:HO}(h:fU n H a) (z:a≠p):fU n (upd H p o) a:=by
 obtain⟨u,e,k⟩:=h;exact⟨u,by rw[aV z];exact e,k⟩
theorem fU.to{n:Nat}{H H':Hp}{a:J}(h:fU n H a) (k:∀o,H a=Y o->zU o=n->H' a=Y o):fU n H' a:=let⟨o,e,g⟩:=h;⟨o,k o e g,g⟩
def tY:HO->Bool
 |.lst _=>L
 |.dK _=>L
 |_=>G
theorem Cell.tY:∀(c:Cell) {xs:List V},tY (c.ho xs)=L
 |.lst _,_=>rfl
 |.kd _,_=>rfl
def yi(K:θ) (ρ:List J) (H:Hp) (a b:Nat) (v:V):Prop:=∃p C dx pa pb,v=.ref p/\μ K ι "Bench"=Y (Y (.ref C))/\H p=Y (.ins C dx [("kept",.ref pa),("past",.ref pb)])/\(ρ[a]? = Y pa/\fU 2 H pa)/\ρ[b]? = Y pb/\fU 1 H pb
theorem yi.to{K:θ}{ρ ρ':List J}{H H':Hp}{a b:Nat}{v:V}(h:yi K ρ H a b v) (f:∀p C dx fs,H p=Y (.ins C dx fs)->fs≠[]->H' p=Y (.ins C dx fs)) (g:∀(k:Nat) (p:J) (n:Nat),n≠0->ρ[k]? = Y p->fU n H p->ρ'[k]? = Y p/\fU n H' p):yi K ρ' H' a b v:=by
 obtain⟨p,C,dx,pa,pb,e,n,q,h1,h2⟩:=h;exact⟨p,C,dx,pa,pb,e,n,f _ _ _ _ q (by simp),g _ _ _ (by decide) h1.1 h1.2,g _ _ _ (by decide) h2.1 h2.2⟩
mutual
def noRef:D->Bool
 |.tup l=>bB l
 |.lst l=>bB l
 |.ref _=>G
 |.aE=>L
 |.bl _=>L
 |.int _=>L
 |.str _=>L
 |.ty _=>L
 |.cD _=>L
 |.fn _ _=>L
 |.exc _=>L
 |.iH=>L
 |.dct _=>L
 |.eG _=>G
 |.cS _ _=>G
 |.dX _ _=>G
 |.lam _ _ _ _=>G
def bB:List D->Bool
 |[]=>L
 |d::l=>noRef d&&bB l
end
mutual
def eV:D->Bool
 |.tup l=>fm l
 |.lst l=>fm l
 |.lam _ _ _ _=>G
 |.ref _=>L
 |.aE=>L
 |.bl _=>L
 |.int _=>L
 |.str _=>L
 |.ty _=>L
 |.cD _=>L
 |.fn _ _=>L
 |.exc _=>L
 |.iH=>L
 |.dct _=>L
 |.eG _=>L
 |.cS _ _=>L
 |.dX _ _=>L
def fm:List D->Bool
 |[]=>L
 |d::l=>eV d&&fm l
end
mutual
theorem M5:∀d:D,noRef d=L->eV d=L
 |.tup l,h=>by unfold noRef at h;unfold eV;exact zC l h
 |.lst l,h=>by unfold noRef at h;unfold eV;exact zC l h
 |.lam _ _ _ _,h=>by unfold noRef at h;cases h
 |.ref _,h=>by unfold noRef at h;cases h
 |.aE,_=>by unfold eV;rfl
 |.bl _,_=>by unfold eV;rfl
 |.int _,_=>by unfold eV;rfl
 |.str _,_=>by unfold eV;rfl
 |.ty _,_=>by unfold eV;rfl
 |.cD _,_=>by unfold eV;rfl
 |.fn _ _,_=>by unfold eV;rfl
 |.exc _,_=>by unfold eV;rfl
 |.iH,_=>by unfold eV;rfl
 |.dct _,_=>by unfold eV;rfl
 |.eG _,_=>by unfold eV;rfl
 |.cS _ _,_=>by unfold eV;rfl
 |.dX _ _,_=>by unfold eV;rfl
theorem zC:∀l:List D,bB l=L->fm l=L
 |[],_=>by unfold fm;rfl
 |d::l,h=>by
  unfold bB at h;rw[RI]at h;unfold fm;rw[M5 d h.1,zC l h.2];rfl
end
theorem sN:∀{l m:List D},bB (l++m)=(bB l&&bB m)
 |[],m=>by simp[bB]
 |d::l,m=>by simp[bB,sN,Bool.and_assoc]
theorem MY:∀{l:List D}{i:Nat}{d:D},bB l=L->noRef d=L->bB (l.set i d)=L
 |[],i,d,h,g=>h
 |b::l,0,d,h,g=>by simp_all[bB]
 |b::l,i+1,d,h,g=>by
  simp only[bB,RI]at h;simp only[List.set_cons_succ,bB,RI];exact⟨h.1,MY h.2 g⟩
theorem gV:∀{l:List D},bB l=L↔∀d∈l,noRef d=L
 |[]=>by simp[bB]
 |d::l=>by simp[bB,gV]
theorem Y4{l:List Int}:bB (l.map D.int)=L:=gV.mpr λd h=>by
 obtain⟨i,_,rfl⟩:=x6.mp h;rfl
inductive R (α:Type) where
 |ok (a:α) (c:List Cell)
 |bad
def R.bind{α β:Type}(r:R α) (f:α->List Cell->R β):R β:=match r with
 |.ok a c=>f a c
 |.bad=>.bad
@[simp] theorem R.aL{α β:Type}{a:α}{c:List Cell}{f:α->List Cell->R β}:(R.ok a c).bind f=f a c:=rfl
@[simp] theorem R.agr{α β:Type}{f:α->List Cell->R β}:(R.bad:R α).bind f=.bad:=rfl
def qq:List Str:=["tied_anew","web_of","other_web","turned_at","pairs_web","field_web","net_web"]
def zS(x:Str):Str:=x++".<locals>."++"<lambda>"
def qT(c:J) (q:Str):χ->Prop:=λh=>h.CodeRec (.ref c) q
def qp(a:J) (o:Obj):χ->Prop:=λh=>h.get? a=Y o
def yd(e:ν) (o:Obj) (q:Str) (c:J) (cl:List (Str×J)):Prop:=match e with
 |.Lambda params body scope _=>∃pm ctv,o=PySem.W.kla_obj "<lambda>" q params body scope cl pm c ctv
 |_=>False
def tW:HO->Bool
 |.cJ _=>L
 |_=>G
def iW(H:Hp) (cl:List (Str×J)):List Str->List V->Prop
 |[],xs=>xs=[]
 |x::ns,xs=>∃v r c oc u,xs=v::r/\cl.lookup x=Y c/\H c=Y (.cN oc (.own 0))/\oc.data=.cell (Y u)/\RelV v u/\iW H cl ns r
def yh(cl:List (Str×J)) (ns:List Str):Prop:=(∀x y c,cl.lookup x=Y c->cl.lookup y=Y c->x=y)/\∀x c,cl.lookup x=Y c->x∈ns
def TabAt(H:Hp) (P:J) (q:Str):Prop:=∃ps,H P=Y (.cJ ps)/\UB ps.toList/\∀pos cv,codeAmong pos ps.toList=Y cv->∃c,cv=.ref c/\H c=Y (.ext (qT c q))
def rm(K:θ) (H:Hp):Prop:=∀x∈qq,∀c P,PySem.W.tabIn K x=Y (c,P)->TabAt H P (zS x)
theorem iW.mono{H H':Hp}{cl:List (Str×J)}:∀{ns:List Str}{xs:List V},(∀c o,H c=Y (.cN o (.own 0))->H' c=Y (.cN o (.own 0)))->iW H cl ns xs->iW H' cl ns xs
 |[],_,_,h=>h
 |x::ns,xs,k,h=>by
  obtain⟨v,r,c,oc,u,e,h0,h1,h2,h3,h4⟩:=h;exact⟨v,r,c,oc,u,e,h0,k _ _ h1,h2,h3,iW.mono k h4⟩
theorem iW.get{H:Hp}{cl:List (Str×J)}:∀{ns:List Str}{xs:List V}{i:Nat}{x:Str},iW H cl ns xs->ns[i]? = Y x->∃v c oc u,xs[i]? = Y v/\cl.lookup x=Y c/\H c=Y (.cN oc (.own 0))/\oc.data=.cell (Y u)/\RelV v u
 |[],_,_,_,_,e=>by cases e
 |_::ns,xs,0,_,h,e=>by
  obtain⟨v,r,c,oc,u,rfl,h0,h1,h2,h3,h4⟩:=h;cases e;exact⟨v,c,oc,u,rfl,h0,h1,h2,h3⟩
 |_::ns,xs,i+1,x,h,e=>by
  obtain⟨v,r,c,oc,u,rfl,h0,h1,h2,h3,h4⟩:=h;exact iW.get (i:=i) h4 e
theorem iW.length{H:Hp}{cl:List (Str×J)}:∀{ns:List Str}{xs:List V},iW H cl ns xs->xs.length=ns.length
 |[],xs,h=>by cases(show xs=[]from h);rfl
 |_::ns,xs,h=>by
  obtain⟨v,r,c,oc,u,rfl,h0,h1,h2,h3,h4⟩:=h;simp[iW.length h4]
theorem TabAt.mono{H H':Hp}{P:J}{q:Str}(h:TabAt H P q) (k1:∀ps,H P=Y (.cJ ps)->H' P=Y (.cJ ps)) (k2:∀c φ,H c=Y (.ext φ)->H' c=Y (.ext φ)):TabAt H' P q:=by
 obtain⟨ps,h1,h2,h3⟩:=h;exact⟨ps,k1 ps h1,h2,λpos cv e=>let⟨c,e1,e2⟩:=h3 pos cv e;⟨c,e1,k2 _ _ e2⟩⟩
theorem rm.mono{K:θ}{H H':Hp}(h:rm K H) (k1:∀P ps,H P=Y (.cJ ps)->H' P=Y (.cJ ps)) (k2:∀c φ,H c=Y (.ext φ)->H' c=Y (.ext φ)):rm K H':=λx hx c P e=>(h x hx c P e).mono (k1 P) k2
def rq(K:θ) (ρ:List J) (H:Hp) (a:J) (xs:List V):Prop:=(Rd H a (.lst xs)/\a∉ρ)\/bN K (λ_=>O) a xs
mutual
def Rel(K:θ) (ρ:List J) (H:Hp):D->V->Prop
 |.aE,v=>v=.aE
 |.bl b,v=>v=.bl b
 |.int i,v=>v=.int i
 |.str x,v=>v=.str x
 |.ty n,v=>v=.ty n
 |.tup l,v=>∃a xs,v=.ref a/\H a=Y (.tup xs)/\aK K ρ H l xs
 |.lst l,v=>∃a xs,v=.ref a/\(H a=Y (.lst xs)/\a∉ρ)/\aK K ρ H l xs
 |.ref k,v=>∃a,v=.ref a/\ρ[k]? = Y a/\fU 1 H a
 |.cD l,v=>∃a,v=.ref a/\rq K ρ H a (l.map V.int)
 |.fn x n,v=>∃a,v=.ref a/\μ K ι x=Y (Y (.ref a))
 |.iH,v=>∃a,v=.ref a/\H a=Y (.ext (ac3 a))
 |.dct ks,v=>∃a kvs,v=.ref a/\H a=Y (.dT kvs)/\∀p:Int×Int,((kvs.any λkv=>decide (kv.1=[Sum.inl p.1,Sum.inl p.2]))=decide (p∈ks))
 |.eG k,v=>∃a,v=.ref a/\ρ[k]? = Y a/\fU 2 H a
 |.cS a b,v=>yi K ρ H a b v
 |.dX a b,v=>∃p C dx u,v=.ref p/\μ K ι "Desk"=Y (Y (.ref C))/\H p=Y (.ins C dx [("bench",u)])/\yi K ρ H a b u
 |.exc x,v=>∃a C,v=.ref a/\μ K ι x=Y (Y (.ref C))/\H a=Y (.ext (acN a C))
 |.lam _ e ns l,v=>∃a o q c cl xs,v=.ref a/\H a=Y (.ext (qp a o))/\yd e o q c cl/\H c=Y (.ext (qT c q))/\yh cl ns/\iW H cl ns xs/\aK K ρ H l xs
def aK(K:θ) (ρ:List J) (H:Hp):List D->List V->Prop
 |[],xs=>xs=[]
 |d::l,xs=>∃x r,xs=x::r/\Rel K ρ H d x/\aK K ρ H l r
end
theorem rq.sql{K:θ}{ρ:List J}{H:Hp}{a:J}{xs:List V}(h:rq K ρ H a xs):bN K H a xs:=by
 rcases h with⟨h,_⟩|(h|h)
 ·exact .inl h
 ·rcases h with h|⟨o,h⟩<;>cases h
 ·exact .inr h
def QM(K:θ) (ρ:List J) (H:Hp) (a:J):Cell->Prop
 |.lst l=>bB l=L/\∃xs,H a=Y (.lst xs)/\aK K ρ H l xs
 |.kd l=>bB (l.map (·.2))=L/\∃xs,H a=Y (.dK ((l.map λp=>(Sum.inr p.1:Key)).zip xs))/\aK K ρ H (l.map (·.2)) xs
theorem kG{K:θ}{ρ:List J}{H:Hp}{a:J}{c:Cell}:QM K ρ H a c=(bB c.its=L/\∃xs,H a=Y (c.ho xs)/\aK K ρ H c.its xs):=by cases c<;>rfl
structure Wd (K:θ) (ρ:List J) (H:Hp) (c:List Cell):Prop where
 nd:ρ.Nodup
 len:ρ.length=c.length
 eL:∀(k:Nat) (a:J) (cl:Cell),ρ[k]? = Y a->c[k]? = Y cl->QM K ρ H a cl
 tab:rm K H
structure Ext (ρ:List J) (H:Hp) (ρ':List J) (H':Hp):Prop where
 pre:∀(k:Nat) (a:J),ρ[k]? = Y a->ρ'[k]? = Y a
 keep:∀a o,H a=Y o->a∉ρ->tW o=G->H' a=Y o/\a∉ρ'
 fT:∀(k:Nat) (a:J) (n:Nat),ρ[k]? = Y a->fU n H a->fU n H' a
theorem Ext.refl{ρ:List J}{H:Hp}:Ext ρ H ρ H:=⟨λ_ _ h=>h,λ_ _ h n _=>⟨h,n⟩,λ_ _ _ _ h=>h⟩
theorem Ext.trans{ρ aJ bS:List J}{H H1 H2:Hp}(x:Ext ρ H aJ H1) (y:Ext aJ H1 bS H2):Ext ρ H bS H2 :=
 ⟨λk a h=>y.pre k a (x.pre k a h),λa o h n t=>let⟨h1,n1⟩:=x.keep a o h n t;y.keep a o h1 n1 t,λk a n e h=>y.fT k a n (x.pre k a e) (x.fT k a n e h)⟩
section
variable {K:θ}{ρ ρ':List J}{H H':Hp}{c c':List Cell}
theorem Wd.at'(W:Wd K ρ H c) {a:J}(h:a∈ρ):∃o,H a=Y o/\tY o=L:=by
 obtain⟨k,hk,e⟩:=S4.mp h;have hc:k<c.length:=by rw[<-W.len];exact hk
 have q:=W.eL k a c[k] (by rw[Bt hk,e]) (Bt hc)
 rw[kG]at q;obtain⟨_,xs,h,_⟩:=q;exact⟨_,h,Cell.tY _⟩
theorem Wd.no(W:Wd K ρ H c) {a:J}{o:HO}(h:H a=Y o) (n:tY o=G):a∉ρ:=λm=>by
 obtain⟨u,e,z⟩:=W.at' m;rw[e]at h;cases h;rw[n]at z;cases z
theorem Wd.Y0(W:Wd K ρ H c) {a:J}{xs:List V}(h:H a=Y (.tup xs)):a∉ρ:=λm=>by
 exact W.no h rfl m
theorem Wd.nil(W:Wd K ρ H c) {a:J}(h:H a=O):a∉ρ:=λm=>by
 obtain⟨ys,e,_⟩:=W.at' m;rw[e]at h;cases h
theorem C3(W:Wd K ρ H c) (x:Ext ρ H ρ' H') {a:J}{xs:List V}(h:H a=Y (.tup xs)):H' a=Y (.tup xs):=(x.keep a _ h (W.Y0 h) rfl).1
theorem Nv(x:Ext ρ H ρ' H') {a:J}{xs:List V}(h:H a=Y (.lst xs)/\a∉ρ):H' a=Y (.lst xs)/\a∉ρ':=x.keep a _ h.1 h.2 rfl
theorem Ke(x:Ext ρ H ρ' H') {a:J}{xs:List V}(h:rq K ρ H a xs):rq K ρ' H' a xs:=by
 rcases h with⟨h,n⟩|h
 ·rcases h with h|⟨o,h⟩
  ·exact .inl ⟨.inl (x.keep a _ h n rfl).1,(x.keep a _ h n rfl).2⟩
  ·exact .inl ⟨.inr ⟨o,(x.keep a _ h n rfl).1⟩,(x.keep a _ h n rfl).2⟩
 ·exact .inr h
mutual
theorem Rel.mono(W:Wd K ρ H c) (x:Ext ρ H ρ' H'):∀(d:D) (v:V),Rel K ρ H d v->Rel K ρ' H' d v
 |.aE,v,h=>h
 |.bl b,v,h=>h
 |.int i,v,h=>h
 |.str y,v,h=>h
 |.ty n,v,h=>h
 |.tup l,v,h=>by
  obtain⟨a,xs,e,s,r⟩:=h;exact⟨a,xs,e,C3 W x s,aK.mono W x l xs r⟩
 |.lst l,v,h=>by
  obtain⟨a,xs,e,s,r⟩:=h;exact⟨a,xs,e,Nv x s,aK.mono W x l xs r⟩
 |.ref k,v,h=>by
  obtain⟨a,e,s,l⟩:=h;exact⟨a,e,x.pre k a s,x.fT k a 1 s l⟩
 |.cD l,v,h=>by
  obtain⟨a,e,s⟩:=h;exact⟨a,e,Ke x s⟩
 |.fn a n,v,h=>h
 |.iH,v,h=>by
  obtain⟨a,e,q⟩:=h;exact⟨a,e,(x.keep a _ q (W.no q rfl) rfl).1⟩
 |.dct ks,v,h=>by
  obtain⟨a,kvs,e,q,z⟩:=h;exact⟨a,kvs,e,(x.keep a _ q (W.no q rfl) rfl).1,z⟩
 |.eG k,v,h=>by
  obtain⟨a,e,s,l⟩:=h;exact⟨a,e,x.pre k a s,x.fT k a 2 s l⟩
 |.cS a b,v,h=>h.to (λp _ _ _ q _=>(x.keep p _ q (W.no q rfl) rfl).1) λk p n _ e h=>⟨x.pre k p e,x.fT k p n e h⟩
 |.dX a b,v,h=>by
  obtain⟨p,C,dx,u,e,n,q,h⟩:=h;exact⟨p,C,dx,u,e,n,(x.keep p _ q (W.no q rfl) rfl).1,h.to (λp _ _ _ q _=>(x.keep p _ q (W.no q rfl) rfl).1) λk p n _ e h=>⟨x.pre k p e,x.fT k p n e h⟩⟩
 |.exc y,v,h=>by
  obtain⟨a,C,e,n,q⟩:=h;exact⟨a,C,e,n,(x.keep a _ q (W.no q rfl) rfl).1⟩
 |.lam _ y ns l,v,h=>by
  obtain⟨a,o,q,c,cl,xs,e,h1,h2,h3,h4,h5,h6⟩:=h;have nr:∀(b:J) (u:HO),H b=Y u->tY u=G->b∉ρ:=λb u q n=>W.no q n
  exact⟨a,o,q,c,cl,xs,e,(x.keep a _ h1 (nr a _ h1 rfl) rfl).1,h2,(x.keep c _ h3 (nr c _ h3 rfl) rfl).1,h4,h5.mono (λb o z=>(x.keep b _ z (nr b _ z rfl) rfl).1),aK.mono W x l xs h6⟩
theorem aK.mono(W:Wd K ρ H c) (x:Ext ρ H ρ' H'):∀(l:List D) (xs:List V),aK K ρ H l xs->aK K ρ' H' l xs
 |[],xs,h=>h
 |d::l,xs,h=>by
  obtain⟨y,r,e,h1,h2⟩:=h;exact⟨y,r,e,Rel.mono W x d y h1,aK.mono W x l r h2⟩
end
theorem aK.length:∀{l:List D}{xs:List V},aK K ρ H l xs->xs.length=l.length
 |[],xs,h=>by cases(show xs=[]from h);rfl
 |d::l,xs,h=>by
  obtain⟨y,r,rfl,h1,h2⟩:=h;simp only[Iv,aK.length h2]
theorem aK.get:∀{l:List D}{xs:List V}{i:Nat}{d:D},aK K ρ H l xs->l[i]? = Y d->∃x,xs[i]? = Y x/\Rel K ρ H d x
 |[],_,_,_,_,e=>by cases e
 |_::l,_,0,_,h,e=>by
  obtain⟨y,r,rfl,h1,h2⟩:=h;cases e;exact⟨y,rfl,h1⟩
 |_::l,_,i+1,_,h,e=>by
  obtain⟨y,r,rfl,h1,h2⟩:=h;exact aK.get (i:=i) h2 e
theorem aK.append:∀{l m:List D}{xs ys:List V},aK K ρ H l xs->aK K ρ H m ys->aK K ρ H (l++m) (xs++ys)
 |[],m,xs,ys,h,g=>by cases(show xs=[]from h);exact g
 |d::l,m,xs,ys,h,g=>by
  obtain⟨y,r,rfl,h1,h2⟩:=h;exact⟨y,r++ys,rfl,h1,aK.append h2 g⟩
theorem aK.set:∀{l:List D}{xs:List V}{d:D}{x:V}(i:Nat),aK K ρ H l xs->Rel K ρ H d x->aK K ρ H (l.set i d) (xs.set i x)
 |[],xs,d,x,i,h,g=>by cases(show xs=[]from h);exact rfl
 |b::l,xs,d,x,0,h,g=>by
  obtain⟨y,r,rfl,h1,h2⟩:=h;exact⟨x,r,rfl,g,h2⟩
 |b::l,xs,d,x,i+1,h,g=>by
  obtain⟨y,r,rfl,h1,h2⟩:=h;exact⟨y,r.set i x,rfl,h1,aK.set i h2 g⟩
theorem aK.take:∀{l:List D}{xs:List V}(n:Nat),aK K ρ H l xs->aK K ρ H (l.take n) (xs.take n)
 |l,xs,0,h=>by simp only[List.take_zero];exact rfl
 |[],xs,n+1,h=>by cases(show xs=[]from h);exact rfl
 |d::l,xs,n+1,h=>by
  obtain⟨y,r,rfl,h1,h2⟩:=h;exact⟨y,r.take n,rfl,h1,aK.take n h2⟩
theorem aK.drop:∀{l:List D}{xs:List V}(n:Nat),aK K ρ H l xs->aK K ρ H (l.drop n) (xs.drop n)
 |l,xs,0,h=>h
 |[],xs,n+1,h=>by cases(show xs=[]from h);exact rfl
 |d::l,xs,n+1,h=>by
  obtain⟨y,r,rfl,h1,h2⟩:=h;exact aK.drop n h2
theorem aK.ints{l:List Int}:aK K ρ H (l.map D.int) (l.map V.int):=by
 induction l with
 |nil=>exact rfl
 |cons a l ih=>exact⟨_,_,rfl,rfl,ih⟩
theorem aK.FD:∀{l:List Int}{xs:List V},aK K ρ H (l.map D.int) xs->xs=l.map V.int
 |[],xs,h=>h
 |a::l,xs,h=>by
  obtain⟨y,r,rfl,h1,h2⟩:=h;cases(show y=V.int a from h1)
  rw[aK.FD h2];rfl
theorem aK.GR:∀{l:List Bool}{xs:List V},aK K ρ H (l.map D.bl) xs->xs=l.map V.bl
 |[],xs,h=>h
 |a::l,xs,h=>by
  obtain⟨y,r,rfl,h1,h2⟩:=h;cases(show y=V.bl a from h1)
  rw[aK.GR h2];rfl
theorem Ext.fresh{p:J}{o:HO}(W:Wd K ρ H c) (h:H p=O):Ext ρ H ρ (upd H p o) :=
 ⟨λ_ _ e=>e,λa u e n _=>⟨by rw[aV (cK e h)];exact e,n⟩,λ_ _ _ _ q=>q.upd (cK q.choose_spec.1 h)⟩
theorem Wd.fresh{p:J}{o:HO}(W:Wd K ρ H c) (h:H p=O):Wd K ρ (upd H p o) c :=
 ⟨W.nd,W.len,λk a cl e1 e2=>by
  have q:=W.eL k a cl e1 e2;rw[kG]at q ⊢;obtain⟨nr,xs,e,r⟩:=q;exact⟨nr,xs,by rw[aV (cK e h)];exact e,aK.mono W (Ext.fresh W h) _ xs r⟩,
  W.tab.mono (λP ps e=>by rw[aV (cK e h)];exact e) (λb φ e=>by rw[aV (cK e h)];exact e)⟩
theorem Ext.of(W:Wd K ρ H c) (k:∀b u,H b=Y u->tW u=G->H' b=Y u):Ext ρ H ρ H' :=
 ⟨λ_ _ e=>e,λa o e n z=>⟨k a o e z,n⟩,λj a n e h=>by
  obtain⟨o,q,g⟩:=W.at' (R5 e);exact h.to λu z _=>k a u z (by rw[q]at z;cases z;cases o<;>first|rfl|cases g)⟩
theorem Ext.cell{p:J}{o:HO}(W:Wd K ρ H c) (h:H p=O):Ext ρ H (ρ++[p]) (upd H p o) :=
 ⟨λk a e=>by rw[RJ (Q7.mp e).1];exact e,λa u e n _=>⟨by rw[aV (cK e h)];exact e,by
  rw[RO]
  rintro (z|z)
  ·exact n z
  ·exact cK e h (by simpa using z)⟩,λ_ _ _ _ q=>q.upd (cK q.choose_spec.1 h)⟩
theorem Wd.Qf{p:J}{d:Cell}{xs:List V}(W:Wd K ρ H c) (h:H p=O) (nr:bB d.its=L) (r:aK K ρ H d.its xs):Wd K (ρ++[p]) (upd H p (d.ho xs)) (c++[d]):=by
 have X:=Ext.cell (o:=d.ho xs) W h;refine⟨?_,by simp[W.len],λk a cl e1 e2=>?_,W.tab.mono (λP ps e=>by rw[aV (cK e h)];exact e) (λb φ e=>by rw[aV (cK e h)];exact e)⟩
 ·rw[Ti];refine⟨W.nd,by simp,?_⟩
  intro a ha b hb;rw[RG]at hb;subst hb;exact λz=>W.nil h (z▸ha)
 ·by_cases hk:k<c.length
  ·rw[RJ hk]at e2;rw[RJ (by rw[W.len];exact hk)]at e1
   have q:=W.eL k a cl e1 e2;rw[kG]at q ⊢;obtain⟨kW,ys,e,r'⟩:=q;exact⟨kW,ys,by rw[aV (cK e h)];exact e,aK.mono W X _ ys r'⟩
  ·have hk':k=c.length:=by
    have:=(Q7.mp e2).1;simp at this;omega
   subst hk';rw[RC (ZA _),S3]at e2;rw[RC (by rw[W.len];exact ZA _),W.len,S3]at e1
   cases e1;cases e2;exact kG▸⟨nr,xs,cV,aK.mono W X _ xs r⟩
theorem Wd.cell{p:J}{l:List D}{xs:List V}(W:Wd K ρ H c) (h:H p=O) (nr:bB l=L) (r:aK K ρ H l xs):Wd K (ρ++[p]) (upd H p (.lst xs)) (c++[.lst l]):=W.Qf (d:=.lst l) h nr r
theorem Ext.write{k:Nat}{p:J}{o:HO}(h:ρ[k]? = Y p) (hk:fU (zU o) H p:=by apply Exists.intro;constructor;assumption;rfl):Ext ρ H ρ (upd H p o) :=
 ⟨λ_ _ e=>e,λa u e n _=>⟨by rw[aV (λz=>n (by rw[z];exact R5 h))];exact e,n⟩,λk a n _ q=>by
  by_cases z:a=p
  ·subst z;obtain⟨u,e,g⟩:=hk;obtain⟨u',e',g'⟩:=q;rw[e]at e';cases e';exact⟨o,cV,g.symm.trans g'⟩
  ·exact q.upd z⟩
theorem Wd.Jc{k:Nat}{p:J}{d:Cell}{xs:List V}(W:Wd K ρ H c) (h:ρ[k]? = Y p) (nr:bB d.its=L) (r:aK K ρ H d.its xs) (hk:fU (zU (d.ho xs)) H p:=by apply Exists.intro;constructor;assumption;rfl):Wd K ρ (upd H p (d.ho xs)) (c.set k d):=by
 have X:=Ext.write (H:=H) (o:=d.ho xs) h hk;obtain⟨y,hy,hz⟩:=W.at' (R5 h);refine⟨W.nd,by simp[W.len],λj a cl e1 e2=>?_,W.tab.mono (λP ps e=>by rw[aV (EK e hy λz=>by cases z;cases hz)];exact e) (λb φ e=>by rw[aV (EK e hy λz=>by cases z;cases hz)];exact e)⟩
 by_cases hj:j=k
 ·subst hj;rw[h]at e1;cases e1;have hl:j<c.length:=by rw[<-W.len];exact(Q7.mp h).1
  rw[SA hl]at e2;cases e2;exact kG▸⟨nr,xs,cV,aK.mono W X _ xs r⟩
 ·rw[Sn (Q8 hj)]at e2;have q:=W.eL j a cl e1 e2;have hap:a≠p:=by
   intro e;subst e;have h1:=(Q7.mp h);have h2:=(Q7.mp e1);exact hj ((T8 W.nd (h₀:=h2.1) (h₁:=h1.1)).mp (h2.2.trans h1.2.symm))
  rw[kG]at q ⊢;obtain⟨kW,ys,e,r'⟩:=q;exact⟨kW,ys,by rw[aV hap];exact e,aK.mono W X _ ys r'⟩
theorem Wd.write{k:Nat}{p:J}{l:List D}{xs:List V}(W:Wd K ρ H c) (h:ρ[k]? = Y p) (nr:bB l=L) (r:aK K ρ H l xs) (hk:fU 1 H p:=by apply Exists.intro;constructor;assumption;rfl):Wd K ρ (upd H p (.lst xs)) (c.set k (.lst l)):=W.Jc (d:=.lst l) h nr r hk
mutual
theorem Rel.low(h:∀a,a∈ρ'->a∈ρ):∀(d:D) (v:V),noRef d=L->Rel K ρ H d v->Rel K ρ' H d v
 |.aE,v,_,r=>r
 |.bl b,v,_,r=>r
 |.int i,v,_,r=>r
 |.str y,v,_,r=>r
 |.ty n,v,_,r=>r
 |.tup l,v,n,r=>by
  obtain⟨a,xs,e,s,r⟩:=r;exact⟨a,xs,e,s,aK.low h l xs n r⟩
 |.lst l,v,n,r=>by
  obtain⟨a,xs,e,s,r⟩:=r;exact⟨a,xs,e,⟨s.1,λq=>s.2 (h a q)⟩,aK.low h l xs n r⟩
 |.ref k,v,n,r=>by cases n
 |.cD l,v,n,r=>by
  obtain⟨a,e,s⟩:=r;refine⟨a,e,?_⟩
  rcases s with⟨s,z⟩|s
  ·exact .inl ⟨s,λq=>z (h a q)⟩
  ·exact .inr s
 |.fn a m,v,n,r=>r
 |.exc y,v,n,r=>r
 |.iH,v,n,r=>r
 |.dct _,v,n,r=>r
 |.eG _,v,n,r=>by cases n
 |.cS _ _,v,n,r=>by cases n
 |.dX _ _,v,n,r=>by cases n
 |.lam _ _ _ _,v,n,r=>by cases n
theorem aK.low(h:∀a,a∈ρ'->a∈ρ):∀(l:List D) (xs:List V),bB l=L->aK K ρ H l xs->aK K ρ' H l xs
 |[],xs,_,r=>r
 |d::l,xs,n,r=>by
  obtain⟨y,ys,e,h1,h2⟩:=r;have n:(noRef d&&bB l)=L:=n;rw[RI]at n;exact⟨y,ys,e,Rel.low h d y n.1 h1,aK.low h l ys n.2 h2⟩
end
theorem Wd.cut{n:Nat}(W:Wd K ρ H c) (hn:n<=c.length):Wd K (ρ.take n) H (c.take n):=by
 refine⟨W.nd.sublist (UR _ _),by simp[W.len],λk a cl e1 e2=>?_,W.tab⟩
 rw[Th]at e1 e2;split at e1
 ·rename_i hk;rw[if_pos hk]at e2;have q:=W.eL k a cl e1 e2;rw[kG]at q ⊢;obtain⟨nr,xs,e,r⟩:=q;exact⟨nr,xs,e,aK.low (λa h=>R6 h) _ xs nr r⟩
 ·cases e1
theorem Ext.cut{n:Nat}(x:Ext ρ H ρ' H') (hn:ρ.length<=n):Ext ρ H (ρ'.take n) H' :=
 ⟨λk a e=>by rw[Th,if_pos (I8 (Q7.mp e).1 hn)];exact x.pre k a e,λa o e z t=>let⟨h1,h2⟩:=x.keep a o e z t;⟨h1,λq=>h2 (R6 q)⟩,x.fT⟩
theorem Ext.len(W:Wd K ρ H c) (W':Wd K ρ' H' c') (x:Ext ρ H ρ' H'):c.length<=c'.length:=by
 rw[<-W.len,<-W'.len]
 by_cases h:ρ.length<=ρ'.length
 ·exact h
 ·exfalso;have e:=x.pre ρ'.length ρ[ρ'.length] (Bt _);rw[Rf (ZA _)]at e;cases e
end
abbrev Ev:=List (Option D)
def post{α β:Type}(K:θ) (Rl:List J->Hp->α->β->Prop) (r:R α) (ρ:List J) (H:Hp) (Q:β->Hp->Prop):Prop:=match r with
 |.ok a c=>∀ρ' H' b,Wd K ρ' H' c->Ext ρ H ρ' H'->Rl ρ' H' a b->Q b H'
 |.bad=>False
structure ek (K:θ) (ρ:List J) (H:Hp) (e:Ev) (Z:St):Prop where
 get:∀(i:Nat) (d:D),e[i]? = Y (Y d)->∃v,Z[i]? = Y (Y v)/\Rel K ρ H d v
 len:e.length=Z.length
def tD{α β:Type}(K:θ) (Rl:List J->Hp->α->β->Prop) (d:Ev->List Cell->R α):St->Hp->(β->Hp->Prop)->Prop :=
 λZ H Q=>∃ρ e c,Wd K ρ H c/\ek K ρ H e Z/\post K Rl (d e c) ρ H Q
section
variable {α β γ δ:Type}{K:θ}{ρ ρ':List J}{H H':Hp}{c:List Cell}{e:Ev}{Z:St}{Rl:List J->Hp->α->β->Prop}{Rm:List J->Hp->γ->δ->Prop}
theorem ek.mono(V:ek K ρ H e Z) (W:Wd K ρ H c) (x:Ext ρ H ρ' H'):ek K ρ' H' e Z :=
 ⟨λi d h=>let⟨v,h1,h2⟩:=V.get i d h;⟨v,h1,Rel.mono W x d v h2⟩,V.len⟩
theorem ek.set(V:ek K ρ H e Z) {d:D}{v:L2.V}(r:Rel K ρ H d v) (i:Nat):ek K ρ H (e.set i (Y d)) (Z.set i (Y v)):=by
 refine⟨λj b h=>?_,by simp[V.len]⟩
 by_cases hj:j=i
 ·subst hj;have hl:j<e.length:=by
   have:=(Q7.mp h).1
   simpa using this
  rw[SA hl]at h;cases h;exact⟨v,by rw[SA (by rw[<-V.len];exact hl)],r⟩
 ·rw[Sn (Q8 hj)]at h ⊢;exact V.get j b h
theorem post.ext{r:R α}{Q:β->Hp->Prop}(p:post K Rl r ρ H Q) (x:Ext ρ H ρ' H'):post K Rl r ρ' H' Q:=by
 cases r with
 |ok a c=>exact λbS H2 b W y r=>p bS H2 b W (x.trans y) r
 |bad=>exact p
theorem post.bind{r:R α}{f:α->List Cell->R γ}{Q:δ->Hp->Prop}{Γ:β->Hp->Prop}(p:post K Rm (r.bind f) ρ H Q)
  (h:∀a c1 ρ' H' b,r=.ok a c1->Wd K ρ' H' c1->Ext ρ H ρ' H'->Rl ρ' H' a b->post K Rm (f a c1) ρ' H' Q->Γ b H'):post K Rl r ρ H Γ:=by
 cases r with
 |ok a c1=>exact λρ' H' b W x r=>h a c1 ρ' H' b rfl W x r (post.ext p x)
 |bad=>exact p
theorem post.here{a:α}{b:β}{Q:β->Hp->Prop}(p:post K Rl (.ok a c) ρ H Q) (W:Wd K ρ H c) (r:Rl ρ H a b):Q b H:=p ρ H b W Ext.refl r
end
abbrev aP(X:Cx) (e:ν) (d:Ev->List Cell->R D):Prop:=PE X e (tD X.K (Rel X.K) d)
abbrev jo(X:Cx) (e:ν) (d:Ev->List Cell->R Bool):Prop:=PT X e (tD X.K (λ_ _ a b=>a=b) d)
abbrev uM(X:Cx) (e:ν) (d:Ev->List Cell->R Bool):Prop:=PW X e (tD X.K (λ_ _ a b=>a=b) d)
abbrev fY(X:Cx) (es:List ν) (d:Ev->List Cell->R (List D)):Prop:=PA X es (tD X.K (aK X.K) d)
section
variable {X:Cx}{e:ν}{es:List ν}{st:υ}{sts:List υ}
theorem PE.imp{t t':TE}(h:PE X e t) (i:∀Z H Q,t' Z H Q->t Z H Q):PE X e t':=λpins s Z H Q I q=>h pins s Z H Q I (i _ _ _ q)
theorem PT.imp{t t':TT}(h:PT X e t) (i:∀Z H Q,t' Z H Q->t Z H Q):PT X e t':=λpins s Z H Q I q=>h pins s Z H Q I (i _ _ _ q)
theorem PW.imp{t t':TT}(h:PW X e t) (i:∀Z H Q,t' Z H Q->t Z H Q):PW X e t':=λwh pins s Z H Q I q=>h wh pins s Z H Q I (i _ _ _ q)
theorem PA.imp{t t':TA}(h:PA X es t) (i:∀Z H Q,t' Z H Q->t Z H Q):PA X es t':=λpos pins s Z H Q I q=>h pos pins s Z H Q I (i _ _ _ q)
theorem PS.imp{t t':TS}(h:PS X st t) (i:∀D Z H,t' D Z H->t D Z H):PS X st t':=λpins s Z H D I q=>h pins s Z H D I (i _ _ _ q)
theorem gm.imp{t t':TS}(h:gm X sts t) (i:∀D Z H,t' D Z H->t D Z H):gm X sts t':=λpins s Z H D I q=>h pins s Z H D I (i _ _ _ q)
end
def ak(i:Nat):Ev->List Cell->R D:=λe c=>match e[i]? with
 |some (Y d)=>.ok d c
 |_=>.bad
def dC(d:D):Ev->List Cell->R D:=λ_ c=>.ok d c
section
variable {X:Cx}
theorem aq(i:Nat) {x:Str}{pos:Pos}(hN:X.N[i]? = Y x:=by rfl) (hv:ya X.env.scope x:=by first|exact Or.inl rfl|exact Or.inr (Or.inl rfl)|exact Or.inr (Or.inr rfl)) (hd:(x==("__debug__":Str))=G:=by decide)
  (hcd:(x==("__classdict__":Str))=G:=by decide):aP X (.Name x pos) (ak i):=(D4 hN hv hd hcd).imp λZ H Q h=>by
 obtain⟨ρ,e,c,W,V,p⟩:=h;unfold ak at p;cases q:e[i]? with
 |none=>rw[q]at p;exact p.elim
 |some o =>
  rw[q]at p;cases o with
  |none=>exact p.elim
  |some d =>
   obtain⟨v,hv,r⟩:=V.get i d q;exact⟨v,hv,p.here W r⟩
theorem nE{e:ν}{v:V}{d:D}(h:PE X e (tC v)) (r:∀ρ H,Rel X.K ρ H d v):aP X e (dC d):=h.imp λZ H Q h=>by
 obtain⟨ρ,e,c,W,V,p⟩:=h;exact post.here (r:=r ρ H) p W
theorem aM{i j pos}:aP X (.Constant (.int i) j pos) (dC (.int i)):=nE D6 λ_ _=>rfl
theorem gy{b j pos}:aP X (.Constant (.bool b) j pos) (dC (.bl b)):=nE D9 λ_ _=>rfl
theorem nB{j pos}:aP X (.Constant .none j pos) (dC .aE):=nE Wu λ_ _=>rfl
theorem bW{x j pos}:aP X (.Constant (.str x) j pos) (dC (.str x)):=nE Wq λ_ _=>rfl
theorem kR{x:Str}{n:String}{pos:Pos}(hg:Gl X x) (hm:X.mg x=O) (hv:bootBuiltins x=Y (.type n)) (hn:x≠"__name__":=by decide) (hd:(x==("__debug__":Str))=G:=by decide):aP X (.Name x pos) (dC (.ty n)):=nE (Wo hg hm hv hn hd) λ_ _=>rfl
theorem sG{x:Str}{i:Int}{t:Tok}{pos:Pos}(hg:Gl X x) (hm:X.mg x=Y (.int i t)) (hd:(x==("__debug__":Str))=G:=by decide):aP X (.Name x pos) (dC (.int i)):=nE (zk (v:=.int i) hg hm ⟨t,rfl⟩ hd) λ_ _=>rfl
end
end L2
namespace L2
open PySem PySem.Spec PyProof.Rows
def ay(f:D->D->List Cell->R D) (a b:Ev->List Cell->R D):Ev->List Cell->R D:=λe c=>(a e c).bind λx c=>(b e c).bind λy c=>f x y c
def Be(f:D->List Cell->R D) (a:Ev->List Cell->R D):Ev->List Cell->R D:=λe c=>(a e c).bind λx c=>f x c
def r2(K:θ) (f:D->D->List Cell->R D):R2:=λv u H Q=>∃ρ x y c,Wd K ρ H c/\Rel K ρ H x v/\Rel K ρ H y u/\post K (Rel K) (f x y c) ρ H Q
def r1(K:θ) (f:D->List Cell->R D):V->Hp->VK->Prop:=λv H Q=>∃ρ x c,Wd K ρ H c/\Rel K ρ H x v/\post K (Rel K) (f x c) ρ H Q
def rN(K:θ) (f:List D->List Cell->R D):List V->Hp->VK->Prop:=λvs H Q=>∃ρ xs c,Wd K ρ H c/\aK K ρ H xs vs/\post K (Rel K) (f xs c) ρ H Q
def aF(f:List D->List Cell->R D) (a:Ev->List Cell->R (List D)):Ev->List Cell->R D:=λe c=>(a e c).bind λxs c=>f xs c
section
variable {X:Cx}{a b:ν}{da db dd:Ev->List Cell->R D}{pos:Pos}{K:θ}{Z:St}{H:Hp}{Q:VK}{f:D->D->List Cell->R D}
theorem yL(h:tD K (Rel K) (ay f da db) Z H Q):tD K (Rel K) da Z H λv H1=>tD K (Rel K) db Z H1 λu H2=>r2 K f v u H2 Q:=by
 obtain⟨ρ,e,c,W,V,p⟩:=h;refine⟨ρ,e,c,W,V,post.bind p λx c1 aJ H1 v _ W1 X1 r1 p1=>⟨aJ,e,c1,W1,V.mono W X1,post.bind p1 λy c2 bS H2 u _ W2 X2 r2 p2=>⟨bS,x,y,c2,W2,Rel.mono W1 X2 _ _ r1,r2,p2⟩⟩⟩
theorem JK{g:List D->List Cell->R D}{ds:Ev->List Cell->R (List D)}(h:tD K (Rel K) (aF g ds) Z H Q):tD K (aK K) ds Z H λvs H1=>rN K g vs H1 Q:=by
 obtain⟨ρ,e,c,W,V,p⟩:=h;exact⟨ρ,e,c,W,V,post.bind p λx c1 aJ H1 v _ W1 X1 r1 p1=>⟨aJ,x,c1,W1,r1,p1⟩⟩
theorem bz{op:Operator}(ho:bC X (binaryOp op) (r2 X.K f)) (ha:aP X a da) (hb:aP X b db):aP X (.BinOp a op b pos) (ay f da db):=(L5 ho ha hb).imp λZ H Q h=>yL h
theorem gx{op:CmpOp}(ho:bC X (compareOp op) (r2 X.K f)) (ha:aP X a da) (hb:aP X b db) (hm:behindInMarks op b=G:=by first|exact MU _|rfl):aP X (.Compare a [op] [b] pos) (ay f da db):=(ak6 ho ha hb hm).imp λZ H Q h=>yL h
theorem bu(hr:o7 X (r2 X.K f)) (ha:aP X a da) (hb:aP X b db) (hs:IF b:=by exact λ_ _=>rfl):aP X (.Subscript a b pos) (ay f da db):=(zj hr ha hb hs).imp λZ H Q h=>yL h
def oH(f g:D->D->List Cell->R D) (a b d:Ev->List Cell->R D):Ev->List Cell->R D:=λe c=>(a e c).bind λx c=>(b e c).bind λy c=>(f x y c).bind λz c=>match z with
 |.bl L=>(d e c).bind λu c=>g y u c
 |.bl G=>.ok (.bl G) c
 |_=>.bad
end
def au:Ev->List Cell->R (List D):=λ_ c=>.ok [] c
def ao(a:Ev->List Cell->R D) (r:Ev->List Cell->R (List D)):Ev->List Cell->R (List D):=λe c=>(a e c).bind λx c=>(r e c).bind λxs c=>.ok (x::xs) c
def bY(a:Ev->List Cell->R (List D)):Ev->List Cell->R D:=λe c=>(a e c).bind λxs c=>if xs.length<=Ξ then .ok (.tup xs) c else .bad
def ff(a:Ev->List Cell->R (List D)):Ev->List Cell->R D:=λe c=>(a e c).bind λxs c=>if xs.length<=Ξ then .ok (.lst xs) c else .bad
def fW(a:Ev->List Cell->R (List D)):Ev->List Cell->R D:=λe c=>(a e c).bind λxs c=>if xs.length<=Ξ/\bB xs=L then .ok (.ref c.length) (c++[.lst xs])else .bad
section
variable {X:Cx}{a:ν}{es:List ν}{da:Ev->List Cell->R D}{ds:Ev->List Cell->R (List D)}{pos:Pos}{K:θ}{ρ:List J}{H:Hp}{c:List Cell}{Q:VK}{xs:List D}{vs:List V}
theorem aA:fY X [] au:=iN.imp λZ H Q h=>by
 obtain⟨ρ,e,c,W,V,p⟩:=h;exact post.here p W rfl
theorem av(ha:aP X a da) (hr:fY X es ds) (hs:ε (a::es) X.env=(G,eval a X.env)::ε es X.env:=by exact c9 rfl):fY X (a::es) (ao da ds):=(ic ha hr hs).imp λZ H Q h=>by
 obtain⟨ρ,e,c,W,V,p⟩:=h;exact⟨ρ,e,c,W,V,post.bind p λx c1 aJ H1 v _ W1 X1 r1 p1=>⟨aJ,e,c1,W1,V.mono W X1,post.bind p1 λy c2 bS H2 u _ W2 X2 r2 p2=>p2.here W2 ⟨v,u,rfl,Rel.mono W1 X2 _ _ r1,r2⟩⟩⟩
theorem zD(W:Wd K ρ H c) (r:aK K ρ H xs vs) (p:post K (Rel K) (.ok (.tup xs) c) ρ H Q):∀q,H q=O->Q (.ref q) (upd H q (.tup vs)):=λq hq =>
 p ρ _ _ (W.fresh hq) (Ext.fresh W hq) ⟨q,vs,rfl,cV,aK.mono W (Ext.fresh W hq) _ _ r⟩
theorem qg(W:Wd K ρ H c) (r:aK K ρ H xs vs) (p:post K (Rel K) (.ok (.lst xs) c) ρ H Q):∀q,H q=O->Q (.ref q) (upd H q (.lst vs)):=λq hq =>
 p ρ _ _ (W.fresh hq) (Ext.fresh W hq) ⟨q,vs,rfl,⟨cV,W.nil hq⟩,aK.mono W (Ext.fresh W hq) _ _ r⟩
theorem EI(W:Wd K ρ H c) (nr:bB xs=L) (r:aK K ρ H xs vs) (p:post K (Rel K) (.ok (.ref c.length) (c++[.lst xs])) ρ H Q):∀q,H q=O->Q (.ref q) (upd H q (.lst vs)):=λq hq =>
 p _ _ _ (W.cell hq nr r) (Ext.cell W hq) ⟨q,rfl,by rw[RC (by rw[W.len];exact ZA _),W.len,S3];rfl,_,cV,rfl⟩
theorem gb{x1}(h:fY X es ds):aP X (.Tuple es x1 pos) (bY ds):=(L3 h).imp λZ H Q h=>by
 obtain⟨ρ,e,c,W,V,p⟩:=h;refine⟨ρ,e,c,W,V,post.bind p λx c1 aJ H1 v _ W1 X1 r1 p1=>?_⟩
 split at p1
 ·rename_i hl;exact⟨by rw[r1.length];exact hl,zD W1 r1 p1⟩
 ·exact p1.elim
theorem jB(h:fY X es ds):aP X (.List es pos) (ff ds):=(D5 h).imp λZ H Q h=>by
 obtain⟨ρ,e,c,W,V,p⟩:=h;refine⟨ρ,e,c,W,V,post.bind p λx c1 aJ H1 v _ W1 X1 r1 p1=>?_⟩
 split at p1
 ·rename_i hl;exact⟨by rw[r1.length];exact hl,qg W1 r1 p1⟩
 ·exact p1.elim
theorem kT(h:fY X es ds):aP X (.List es pos) (fW ds):=(D5 h).imp λZ H Q h=>by
 obtain⟨ρ,e,c,W,V,p⟩:=h;refine⟨ρ,e,c,W,V,post.bind p λx c1 aJ H1 v _ W1 X1 r1 p1=>?_⟩
 split at p1
 ·rename_i hl;exact⟨by rw[r1.length];exact hl.1,EI W1 hl.2 r1 p1⟩
 ·exact p1.elim
end
def bZ:D->D->List Cell->R D:=λx y c=>match x,y with
 |.int i,.int j=>.ok (.int (i+j)) c
 |.str a,.str b=>if a.length+b.length<=Ξ then .ok (.str (a++b)) c else .bad
 |.tup l,.tup m=>if l.length≠0/\l.length+m.length<=Ξ then .ok (.tup (l++m)) c else .bad
 |_,_=>.bad
def fZ:D->D->List Cell->R D:=λx y c=>match x,y with
 |.int i,.int j=>.ok (.int (i-j)) c
 |_,_=>.bad
def gW:D->D->List Cell->R D:=λx y c=>match x,y with
 |.int i,.int j=>if(-(2^64)<i/\i<2^64)\/(-(2^64)<j/\j<2^64)then .ok (.int (i*j)) c else .bad
 |_,_=>.bad
def mE:D->D->List Cell->R D:=λx y c=>match x,y with
 |.int i,.int j=>if 0<j/\j<1073741824 then .ok (.int (i/j)) c else .bad
 |_,_=>.bad
def gC:D->D->List Cell->R D:=λx y c=>match x,y with
 |.int i,.int j=>if 0<j then .ok (.int (i % j)) c else .bad
 |_,_=>.bad
def sA:D->D->List Cell->R D:=λx y c=>match x,y with
 |.int i,.int j=>if 0<=j/\j<=1000000/\i.natAbs<2^64 then .ok (.int (i^j.toNat)) c else .bad
 |_,_=>.bad
def qV(p:Int->Int->Bool):D->D->List Cell->R D:=λx y c=>match x,y with
 |.int i,.int j=>.ok (.bl (p i j)) c
 |_,_=>.bad
section
variable {X:Cx}
theorem e8:bC X (binaryOp .Add) (r2 X.K bZ):=by
 intro pins s Z H v u vv uu Q I rv ru h;obtain⟨ρ,x,y,c,W,rx,ry,p⟩:=h;unfold bZ at p;split at p
 ·cases rx;cases ry;exact XC pins s Z H _ _ vv uu Q I rv ru ⟨_,_,rfl,rfl,p.here W rfl⟩
 ·split at p
  ·rename_i hl;cases rx;cases ry;exact Mn pins s Z H _ _ vv uu Q I rv ru ⟨_,_,rfl,rfl,hl,p.here W rfl⟩
  ·exact p.elim
 ·split at p
  ·rename_i hl;obtain⟨a,xs,rfl,sa,ra⟩:=rx;obtain⟨b,ys,rfl,sb,rb⟩:=ry;refine Xx pins s Z H _ _ vv uu Q I rv ru ⟨a,b,xs,ys,rfl,rfl,ck.of sa,ck.of sb,λz=>hl.1 ?_,by rw[ra.length,rb.length];exact hl.2,λz=>?_,λ_=>zD W (ra.append rb) p⟩
   ·rw[<-ra.length,z];rfl
   ·refine p.here W ⟨a,xs++ys,rfl,by rw[z,RY];exact sa,ra.append rb⟩
  ·exact p.elim
 ·exact p.elim
theorem nG:bC X (binaryOp .Sub) (r2 X.K fZ):=by
 intro pins s Z H v u vv uu Q I rv ru h;obtain⟨ρ,x,y,c,W,rx,ry,p⟩:=h;unfold fZ at p;split at p
 ·cases rx;cases ry;exact Xi pins s Z H _ _ vv uu Q I rv ru ⟨_,_,rfl,rfl,p.here W rfl⟩
 ·exact p.elim
theorem qa:bC X (binaryOp .Mult) (r2 X.K gW):=by
 intro pins s Z H v u vv uu Q I rv ru h;obtain⟨ρ,x,y,c,W,rx,ry,p⟩:=h;unfold gW at p;split at p
 ·split at p
  ·rename_i hl;cases rx;cases ry;exact Xn pins s Z H _ _ vv uu Q I rv ru ⟨_,_,rfl,rfl,hl,p.here W rfl⟩
  ·exact p.elim
 ·exact p.elim
theorem vL:bC X (binaryOp .FloorDiv) (r2 X.K mE):=by
 intro pins s Z H v u vv uu Q I rv ru h;obtain⟨ρ,x,y,c,W,rx,ry,p⟩:=h;unfold mE at p;split at p
 ·split at p
  ·rename_i hl;cases rx;cases ry;exact Xv pins s Z H _ _ vv uu Q I rv ru ⟨_,_,rfl,rfl,hl,p.here W rfl⟩
  ·exact p.elim
 ·exact p.elim
theorem kU:bC X (binaryOp .Mod) (r2 X.K gC):=by
 intro pins s Z H v u vv uu Q I rv ru h;obtain⟨ρ,x,y,c,W,rx,ry,p⟩:=h;unfold gC at p;split at p
 ·split at p
  ·rename_i hl;cases rx;cases ry;exact Xo pins s Z H _ _ vv uu Q I rv ru ⟨_,_,rfl,rfl,hl,p.here W rfl⟩
  ·exact p.elim
 ·exact p.elim
theorem MH:bC X (binaryOp .Pow) (r2 X.K sA):=by
 intro pins s Z H v u vv uu Q I rv ru h;obtain⟨ρ,x,y,c,W,rx,ry,p⟩:=h;unfold sA at p;split at p
 ·split at p
  ·rename_i hl;cases rx;cases ry;exact Xk pins s Z H _ _ vv uu Q I rv ru ⟨_,_,rfl,rfl,hl,p.here W rfl⟩
  ·exact p.elim
 ·exact p.elim
theorem zx{f:S->S->Sem S}{q:Int->Int->Bool}(h:bC X f (kQ λi j=>.bl (q i j))):bC X f (r2 X.K (qV q)):=by
 intro pins s Z H v u vv uu Q I rv ru hh;obtain⟨ρ,x,y,c,W,rx,ry,p⟩:=hh;unfold qV at p;split at p
 ·cases rx;cases ry;exact h pins s Z H _ _ vv uu Q I rv ru ⟨_,_,rfl,rfl,p.here W rfl⟩
 ·exact p.elim
abbrev iG:=qV λi j=>decide (i<j)
abbrev kj:=qV λi j=>decide (i<=j)
abbrev jK:=qV λi j=>decide (j<i)
abbrev OM:=qV λi j=>decide (j<=i)
theorem qb:bC X (compareOp .Lt) (r2 X.K iG):=zx Xp
theorem sM:bC X (compareOp .LtE) (r2 X.K kj):=zx Xq
theorem zw:bC X (compareOp .Gt) (r2 X.K jK):=zx Xs
theorem YJ:bC X (compareOp .GtE) (r2 X.K OM):=zx Xu
end
def Gj:D->D->Option Bool
 |.aE,.aE=>Y L|.aE,.int _=>Y G|.int _,.aE=>Y G|.aE,.bl _=>Y G|.bl _,.aE=>Y G|.aE,.str _=>Y G|.str _,.aE=>Y G
 |.int i,.int j=>Y (decide (i=j))|.bl a,.bl b=>Y (decide (a=b))|.str x,.str y=>Y (decide (x=y))
 |.int _,.str _=>Y G|.str _,.int _=>Y G|.bl _,.str _=>Y G|.str _,.bl _=>Y G
 |_,_=>O
def cu:D->D->List Cell->R D:=λx y c=>match Gj x y with
 |some b=>.ok (.bl b) c
 |none=>.bad
def cE:D->D->List Cell->R D:=λx y c=>match Gj x y with
 |some b=>.ok (.bl (!b)) c
 |none=>.bad
def gO:D->Bool
 |.aE=>L
 |_=>G
def l6:D->D->List Cell->R D:=λx y c=>match y with
 |.aE=>.ok (.bl (gO x)) c
 |_=>.bad
def qw:D->D->List Cell->R D:=λx y c=>match y with
 |.aE=>.ok (.bl (!gO x)) c
 |_=>.bad
section
variable {X:Cx}{K:θ}{ρ:List J}{H:Hp}{c:List Cell}
theorem Pj{x y:D}{v u:V}{b:Bool}(rx:Rel K ρ H x v) (ry:Rel K ρ H y u) (h:Gj x y=Y b):Dr v u=L/\decide (v=u)=b:=by
 cases x<;>cases y<;>first
  |(cases rx;cases ry;cases h;refine⟨rfl,?_⟩;simp;done)
  |(cases h;done)
theorem fk:bC X (compareOp .Eq) (r2 X.K cu):=by
 intro pins s Z H v u vv uu Q I rv ru h;obtain⟨ρ,x,y,c,W,rx,ry,p⟩:=h;unfold cu at p;split at p
 ·rename_i b hb;obtain⟨h1,h2⟩:=Pj rx ry hb;exact Xw pins s Z H _ _ vv uu Q I rv ru ⟨h1,by rw[h2];exact p.here W rfl⟩
 ·exact p.elim
theorem gU:bC X (compareOp .NotEq) (r2 X.K cE):=by
 intro pins s Z H v u vv uu Q I rv ru h;obtain⟨ρ,x,y,c,W,rx,ry,p⟩:=h;unfold cE at p;split at p
 ·rename_i b hb;obtain⟨h1,h2⟩:=Pj rx ry hb;exact Xm pins s Z H _ _ vv uu Q I rv ru ⟨h1,by rw[h2];exact p.here W rfl⟩
 ·exact p.elim
theorem N6{x:D}{v:V}(rx:Rel K ρ H x v):decide (v=.aE)=gO x:=by
 cases x<;>first
  |(cases rx;rfl;done)
  |(cases rx;simp[gO];done)
  |(obtain⟨a,xs,rfl,_⟩:=rx;simp[gO];done)
  |(obtain⟨a,rfl,_⟩:=rx;simp[gO];done)
  |(obtain⟨a,o,q,c,cl,xs,rfl,_⟩:=rx;simp[gO];done)
  |(obtain⟨p,C,dx,pa,pb,rfl,_⟩:=rx;simp[gO];done)
  |(obtain⟨p,C,dx,u,rfl,_⟩:=rx;simp[gO];done)
theorem Ey:bC X (compareOp .Is) (r2 X.K l6):=by
 intro pins s Z H v u vv uu Q I rv ru h;obtain⟨ρ,x,y,c,W,rx,ry,p⟩:=h;unfold l6 at p;split at p
 ·cases ry;exact Xr pins s Z H _ _ vv uu Q I rv ru ⟨rfl,by rw[N6 rx];exact p.here W rfl⟩
 ·exact p.elim
theorem MK:bC X (compareOp .IsNot) (r2 X.K qw):=by
 intro pins s Z H v u vv uu Q I rv ru h;obtain⟨ρ,x,y,c,W,rx,ry,p⟩:=h;unfold qw at p;split at p
 ·cases ry;exact Xl pins s Z H _ _ vv uu Q I rv ru ⟨rfl,by rw[N6 rx];exact p.here W rfl⟩
 ·exact p.elim
theorem WX{a b d:ν}{da db dd:Ev->List Cell->R D}{pos:Pos}{op op':CmpOp}{f g:D->D->List Cell->R D}(ho:bC X (compareOp op) (r2 X.K f)) (ho':bC X (compareOp op') (r2 X.K g)) (ha:aP X a da) (hb:aP X b db) (hd:aP X d dd)
  (h1:lastMarks [op,op'] [b,d]=G:=by with_unfolding_all rfl) :
  aP X (.Compare a [op,op'] [b,d] pos) (oH f g da db dd):=(ak5 ho ho' ha hb hd h1).imp λZ H Q h=>by
 obtain⟨ρ,e,c,W,V,p⟩:=h;refine⟨ρ,e,c,W,V,post.bind p λx c1 aJ H1 v _ W1 X1 r1 p1=>⟨aJ,e,c1,W1,V.mono W X1,post.bind p1 λy c2 bS H2 u _ W2 X2 r2 p2=>⟨bS,x,y,c2,W2,Rel.mono W1 X2 _ _ r1,r2,post.bind p2 λz c3 jU H3 w _ W3 X3 r3 p3=>?_⟩⟩⟩
 have V3:=(V.mono W X1).mono W1 (X2.trans X3);cases z with
 |bl k =>
  cases r3;refine⟨k,rfl,?_⟩;cases k with
  |true =>
   refine n9 ⟨jU,e,c3,W3,V3,post.bind p3 λt c4 pq H4 w4 _ W4 X4 r4 p4=>⟨pq,y,t,c4,W4,Rel.mono W2 (X3.trans X4) _ _ r2,r4,p4⟩⟩
  |false=>exact oh (p3.here W3 rfl)
 |_=>exact p3.elim
end
def fP(c:List Cell):D->Option (List D)
 |.tup l=>Y l
 |.lst l=>Y l
 |.cD l=>Y (l.map D.int)
 |.ref k=>match c[k]? with
  |some (.lst l)=>Y l
  |_=>O
 |_=>O
def aD:D->D->List Cell->R D:=λx y c=>match y with
 |.int i=>match fP c x with
  |some l=>match dY l i with
   |some d=>.ok d c
   |none=>.bad
  |none=>.bad
 |_=>.bad
section
variable {X:Cx}{K:θ}{ρ:List J}{H:Hp}{c:List Cell}
theorem yS{x:D}{v:V}{l:List D}(W:Wd K ρ H c) (rx:Rel K ρ H x v) (h:fP c x=Y l):∃a xs,v=.ref a/\(bN K H a xs\/ck K H a xs)/\aK K ρ H l xs:=by
 cases x with
 |tup m =>
  cases h;obtain⟨a,xs,e,s,r⟩:=rx;exact⟨a,xs,e,.inr (ck.of s),r⟩
 |lst m =>
  cases h;obtain⟨a,xs,e,s,r⟩:=rx;exact⟨a,xs,e,.inl (bN.of s.1),r⟩
 |cD m =>
  cases h;obtain⟨a,e,s⟩:=rx;exact⟨a,_,e,.inl s.sql,aK.ints⟩
 |ref k =>
  obtain⟨a,e,s,_⟩:=rx;unfold fP at h;dsimp only at h;cases hc:c[k]? with
  |none=>rw[hc]at h;cases h
  |some cl =>
   cases cl with
   |lst m =>
    rw[hc]at h;cases h;obtain⟨_,xs,hx,r⟩:=W.eL k a _ s hc;exact⟨a,xs,e,.inl (bN.of hx),r⟩
   |kd m=>rw[hc]at h;cases h
 |_=>cases h
theorem ad8{l:List D}{xs:List V}{i:Int}{d:D}(r:aK K ρ H l xs) (h:dY l i=Y d):∃v,dY xs i=Y v/\Rel K ρ H d v:=by
 unfold dY at h ⊢;rw[r.length];cases e:ig l.length i with
 |none=>rw[e]at h;cases h
 |some j =>
  rw[e]at h;exact r.get h
theorem bw:o7 X (r2 X.K aD):=by
 intro value slice pins s Z H v u vv uu Q I rv ru h hs;obtain⟨ρ,x,y,c,W,rx,ry,p⟩:=h;unfold aD at p;split at p
 ·split at p
  ·rename_i l hl;split at p
   ·rename_i d hd;cases ry;obtain⟨a,xs,rfl,sq,r⟩:=yS W rx hl;obtain⟨w,hw,rw'⟩:=ad8 r hd
    rcases sq with sq|sq
    ·exact aaH value slice pins s Z H _ _ vv uu Q I rv ru ⟨a,xs,_,w,rfl,rfl,sq,hw,p.here W rw'⟩ hs
    ·exact Fv value slice pins s Z H _ _ vv uu Q I rv ru ⟨a,xs,_,w,rfl,rfl,sq,hw,p.here W rw'⟩ hs
   ·exact p.elim
  ·exact p.elim
 ·exact p.elim
end
def rR(c:List Cell):D->Option Bool
 |.aE=>Y G
 |.bl b=>Y b
 |.int i=>Y (i != 0)
 |.tup l=>Y (!l.isEmpty)
 |.lst l=>Y (!l.isEmpty)
 |.ref k=>match c[k]? with
  |some (.lst l)=>Y (!l.isEmpty)
  |_=>O
 |_=>O
def ur(a:Ev->List Cell->R D):Ev->List Cell->R Bool:=λe c=>(a e c).bind λx c=>match rR c x with
 |some b=>.ok b c
 |none=>.bad
def aG(a:Ev->List Cell->R D):Ev->List Cell->R Bool:=λe c=>(a e c).bind λx c=>match x with
 |.bl b=>.ok b c
 |_=>.bad
def jO(a b:Ev->List Cell->R Bool):Ev->List Cell->R Bool:=λe c=>(a e c).bind λx c=>if x=L then b e c else .ok G c
def ee(a b:Ev->List Cell->R Bool):Ev->List Cell->R Bool:=λe c=>(a e c).bind λx c=>if x=L then .ok L c else b e c
def cH(a:Ev->List Cell->R Bool):Ev->List Cell->R Bool:=λe c=>(a e c).bind λx c=>.ok (!x) c
def g4(a b:Ev->List Cell->R D):Ev->List Cell->R D:=λe c=>(a e c).bind λx c=>match x with
 |.bl k=>if k=L then b e c else .ok (.bl G) c
 |_=>.bad
def oG(a:Ev->List Cell->R D):Ev->List Cell->R D:=λe c=>(a e c).bind λx c=>match x with
 |.bl k=>.ok (.bl (!k)) c
 |_=>.bad
def kE(t:Ev->List Cell->R Bool) (a b:Ev->List Cell->R D):Ev->List Cell->R D:=λe c=>(t e c).bind λx c=>if x=L then a e c else b e c
section
variable {X:Cx}{a b c':ν}{da db:Ev->List Cell->R D}{ta tb:Ev->List Cell->R Bool}{pos:Pos}{rest:List ν}
theorem aid{K:θ}{ρ:List J}{H:Hp}{c:List Cell}{x:D}{v:V}{k:Bool}(W:Wd K ρ H c) (rx:Rel K ρ H x v) (h:rR c x=Y k):IB K v H k:=by
 have emp:∀{l:List D}{xs:List V},aK K ρ H l xs->l.isEmpty=xs.isEmpty:=fun{l xs} r=>by
  have:=r.length;cases l<;>cases xs<;>simp_all
 cases x with
 |aE=>cases rx;cases h;exact rfl
 |bl b=>cases rx;cases h;exact rfl
 |int i=>cases rx;cases h;exact rfl
 |tup l =>
  obtain⟨a,xs,rfl,s,r⟩:=rx;cases h;exact .inr (.inl ⟨xs,ck.of s,by rw[emp r]⟩)
 |lst l =>
  obtain⟨a,xs,rfl,s,r⟩:=rx;cases h;exact .inl ⟨xs,bN.of s.1,by rw[emp r]⟩
 |ref j =>
  obtain⟨a,rfl,s,_⟩:=rx;unfold rR at h;dsimp only at h;cases hc:c[j]? with
  |none=>rw[hc]at h;cases h
  |some cl =>
   cases cl with
   |lst m =>
    rw[hc]at h;cases h;obtain⟨_,xs,hx,r⟩:=W.eL j a _ s hc;exact .inl ⟨xs,bN.of hx,by rw[emp r]⟩
   |kd m=>rw[hc]at h;cases h
 |_=>cases h
theorem L8(ha:aP X a da) (he:∀whole,isTrue a X.env whole=(do let v <-whole;standAt a.pos;holding [v] (truthy v)):=by intro _;rfl):jo X a (ur da):=(alc ha he).imp λZ H Q h=>by
 obtain⟨ρ,e,c,W,V,p⟩:=h;refine⟨ρ,e,c,W,V,post.bind p λx c1 aJ H1 v _ W1 X1 r1 p1=>?_⟩
 split at p1
 ·rename_i k hk;exact⟨k,aid W1 r1 hk,p1.here W1 rfl⟩
 ·exact p1.elim
theorem GU(h:tD X.K (λ_ _ a b=>a=b) (aG da) Z H Q):tD X.K (Rel X.K) da Z H λx H'=>∃k,x=.bl k/\Q k H':=by
 obtain⟨ρ,e,c,W,V,p⟩:=h;refine⟨ρ,e,c,W,V,post.bind p λx c1 aJ H1 v _ W1 X1 r1 p1=>?_⟩
 cases x with
 |bl k=>cases r1;exact⟨k,rfl,p1.here W1 rfl⟩
 |_=>exact p1.elim
theorem gf(ha:aP X a da) (he:∀whole,isTrue a X.env whole=(do let v <-whole;standAt a.pos;holding [v] (truthy v)):=by intro _;rfl):jo X a (aG da):=(abB ha he).imp λZ H Q h=>GU h
theorem bF{op:CmpOp}{f:D->D->List Cell->R D}(ho:bC X (compareOp op) (r2 X.K f)) (ha:aP X a da) (hb:aP X b db) (hm:behindInMarks op b=G:=by first|exact MU _|rfl):jo X (.Compare a [op] [b] pos) (aG (ay f da db)) :=
 (ala ho ha hb hm).imp λZ H Q h=>yL (GU h)
theorem Mg{d:ν}{dd:Ev->List Cell->R D}{op op':CmpOp}{f g:D->D->List Cell->R D}(ho:bC X (compareOp op) (r2 X.K f)) (ho':bC X (compareOp op') (r2 X.K g)) (ha:aP X a da) (hb:aP X b db) (hd:aP X d dd)
  (h1:lastMarks [op,op'] [b,d]=G:=by with_unfolding_all rfl):jo X (.Compare a [op,op'] [b,d] pos) (aG (oH f g da db dd)):=(akz ho ho' ha hb hd h1).imp λZ H Q h=>by
 obtain⟨ρ,e,c,W,V,p⟩:=GU h;refine⟨ρ,e,c,W,V,post.bind p λx c1 aJ H1 v _ W1 X1 r1 p1=>⟨aJ,e,c1,W1,V.mono W X1,post.bind p1 λy c2 bS H2 u _ W2 X2 r2 p2=>⟨bS,x,y,c2,W2,Rel.mono W1 X2 _ _ r1,r2,post.bind p2 λz c3 jU H3 w _ W3 X3 r3 p3=>?_⟩⟩⟩
 have V3:=(V.mono W X1).mono W1 (X2.trans X3);cases z with
 |bl k =>
  cases r3;refine⟨k,rfl,?_⟩;cases k with
  |true =>
   refine n9 ⟨jU,e,c3,W3,V3,post.bind p3 λt c4 pq H4 w4 _ W4 X4 r4 p4=>⟨pq,y,t,c4,W4,Rel.mono W2 (X3.trans X4) _ _ r2,r4,p4⟩⟩
  |false=>exact oh (p3.here W3 rfl)
 |_=>exact p3.elim
theorem vI(ha:jo X a ta):uM X (.BoolOp .And [a] pos) ta:=akL ha
theorem j3(ha:jo X a ta):uM X (.BoolOp .Or [a] pos) ta:=akN ha
theorem vH(ha:jo X a ta) (hb:uM X (.BoolOp .And (b::rest) pos) tb):uM X (.BoolOp .And (a::b::rest) pos) (jO ta tb):=(akK ha hb).imp λZ H Q h=>by
 obtain⟨ρ,e,c,W,V,p⟩:=h;refine⟨ρ,e,c,W,V,post.bind p λx c1 aJ H1 v _ W1 X1 r1 p1=>?_⟩
 cases r1;cases x with
 |true=>exact n9 ⟨aJ,e,c1,W1,V.mono W X1,p1⟩
 |false=>exact oh (post.here p1 W1 rfl)
theorem i7(ha:jo X a ta) (hb:uM X (.BoolOp .Or (b::rest) pos) tb):uM X (.BoolOp .Or (a::b::rest) pos) (ee ta tb):=(akM ha hb).imp λZ H Q h=>by
 obtain⟨ρ,e,c,W,V,p⟩:=h;refine⟨ρ,e,c,W,V,post.bind p λx c1 aJ H1 v _ W1 X1 r1 p1=>?_⟩
 cases r1;cases x with
 |true=>exact n9 (post.here p1 W1 rfl)
 |false=>exact oh ⟨aJ,e,c1,W1,V.mono W X1,p1⟩
theorem gK(ha:jo X a ta):jo X (.UnaryOp .Not a pos) (cH ta):=(alb ha).imp λZ H Q h=>by
 obtain⟨ρ,e,c,W,V,p⟩:=h;refine⟨ρ,e,c,W,V,post.bind p λx c1 aJ H1 v _ W1 X1 r1 p1=>?_⟩
 cases r1;exact p1.here W1 rfl
theorem nA{op}(h:aP X a da):aP X (.BoolOp op [a] pos) da:=Ws h
theorem lT(ha:aP X a da) (hb:aP X (.BoolOp .And (b::rest) pos) db):aP X (.BoolOp .And (a::b::rest) pos) (g4 da db):=(ak1 ha hb).imp λZ H Q h=>by
 obtain⟨ρ,e,c,W,V,p⟩:=h;refine⟨ρ,e,c,W,V,post.bind p λx c1 aJ H1 v _ W1 X1 r1 p1=>?_⟩
 cases x with
 |bl k =>
  cases r1;refine⟨k,rfl,?_⟩;cases k with
  |true=>exact n9 ⟨aJ,e,c1,W1,V.mono W X1,p1⟩
  |false=>exact oh (post.here p1 W1 rfl)
 |_=>exact p1.elim
theorem zl(ha:aP X a da):aP X (.UnaryOp .Not a pos) (oG da):=(Wt ha).imp λZ H Q h=>by
 obtain⟨ρ,e,c,W,V,p⟩:=h;refine⟨ρ,e,c,W,V,post.bind p λx c1 aJ H1 v _ W1 X1 r1 p1=>?_⟩
 cases x with
 |bl k=>cases r1;exact⟨k,rfl,p1.here W1 rfl⟩
 |_=>exact p1.elim
theorem sE(ht:jo X c' ta) (ha:aP X a da) (hb:aP X b db):aP X (.IfExp c' a b pos) (kE ta da db):=(Wx ht ha hb).imp λZ H Q h=>by
 obtain⟨ρ,e,c,W,V,p⟩:=h;refine⟨ρ,e,c,W,V,post.bind p λx c1 aJ H1 v _ W1 X1 r1 p1=>?_⟩
 cases r1;cases x with
 |true=>exact n9 ⟨aJ,e,c1,W1,V.mono W X1,p1⟩
 |false=>exact oh ⟨aJ,e,c1,W1,V.mono W X1,p1⟩
end
inductive Fl where
 |nx (e:Ev)|rt (d:D)|bk (e:Ev)|ct (e:Ev)
abbrev aa:=List Cell
abbrev af:=Ev->List Cell->R D
abbrev ah:=Ev->List Cell->R Fl
abbrev ai:=Ev->List Cell->R Bool
abbrev aj:=Ev->List Cell->R (List D)
inductive FV where
 |nx (Z:St)|rt (v:V)|bk (Z:St)|ct (Z:St)
def rA(K:θ) (ρ:List J) (H:Hp):Fl->FV->Prop
 |.nx e,f=>∃Z,f=.nx Z/\ek K ρ H e Z
 |.rt d,f=>∃v,f=.rt v/\Rel K ρ H d v
 |.bk e,f=>∃Z,f=.bk Z/\ek K ρ H e Z
 |.ct e,f=>∃Z,f=.ct Z/\ek K ρ H e Z
def En(σ:Ends):FV->Hp->Prop
 |.nx Z,H=>σ.nx Z H
 |.rt v,H=>σ.rt v H
 |.bk Z,H=>σ.bk Z H
 |.ct Z,H=>σ.ct Z H
def JN(K:θ) (d:ah):TS:=λσ Z H=>tD K (rA K) d Z H (En σ)
abbrev jq(X:Cx) (st:υ) (d:ah):Prop:=PS X st (JN X.K d)
abbrev br(X:Cx) (st:List υ) (d:ah):Prop:=gm X st (JN X.K d)
def bA:ah:=λe c=>.ok (.nx e) c
def aC(a b:ah):ah:=λe c=>(a e c).bind λf c=>match f with
 |.nx e=>b e c
 |f=>.ok f c
def aQ(a:af):ah:=λe c=>(a e c).bind λx c=>.ok (.rt x) c
def dg(a:af):ah:=λe c=>(a e c).bind λ_ c=>.ok (.nx e) c
def aY(t:ai) (a b:ah):ah:=λe c=>(t e c).bind λx c=>if x=L then a e c else b e c
def aN(i:Nat) (a:af):ah:=λe c=>(a e c).bind λx c=>.ok (.nx (e.set i (Y x))) c
def e7:ah:=λ_ _=>.bad
section
variable {X:Cx}{st:υ}{rest:List υ}{t u:ah}{e:ν}{da:af}{pos:Pos}
theorem cA:br X [] bA:=aky.imp λσ Z H h=>by
 obtain⟨ρ,e,c,W,V,p⟩:=h;exact p.here W ⟨Z,rfl,V⟩
theorem aO(h1:jq X st t) (h2:br X rest u):br X (st::rest) (aC t u):=(vD h1 h2).imp λσ Z H h=>by
 obtain⟨ρ,e,c,W,V,p⟩:=h;refine⟨ρ,e,c,W,V,post.bind p λf c1 aJ H1 b _ W1 X1 r1 p1=>?_⟩
 cases f with
 |nx e1=>obtain⟨σ1,rfl,V1⟩:=r1;exact⟨aJ,e1,c1,W1,V1,p1⟩
 |rt d=>obtain⟨v,rfl,V1⟩:=r1;exact post.here (Q:=En σ) (show post X.K _ (.ok _ c1) aJ H1 _ from p1) W1 ⟨_,rfl,V1⟩
 |bk e1=>obtain⟨σ1,rfl,V1⟩:=r1;exact post.here (Q:=En σ) (show post X.K (rA X.K) _ aJ H1 _ from p1) W1 ⟨_,rfl,V1⟩
 |ct e1=>obtain⟨σ1,rfl,V1⟩:=r1;exact post.here (Q:=En σ) (show post X.K (rA X.K) _ aJ H1 _ from p1) W1 ⟨_,rfl,V1⟩
theorem aI(h1:jq X st t):br X [st] t:=zd h1
theorem gT:jq X st e7:=λ_ _ _ _ _ _ h=>by
 obtain⟨ρ,e,c,W,V,p⟩:=h;exact p.elim
theorem bf(he:aP X e da):jq X (.Return (Y e) pos) (aQ da):=(akv he).imp λσ Z H h=>by
 obtain⟨ρ,e,c,W,V,p⟩:=h;refine⟨ρ,e,c,W,V,post.bind p λx c1 aJ H1 v _ W1 X1 r1 p1=>p1.here W1 ⟨v,rfl,r1⟩⟩
theorem fQ(he:aP X e da) (hs:swapsWith e O pos.line X.env=pure G:=by rfl):jq X (.Expr e pos) (dg da):=(akt he hs).imp λσ Z H h=>by
 obtain⟨ρ,e,c,W,V,p⟩:=h;refine⟨ρ,e,c,W,V,post.bind p λx c1 aJ H1 v _ W1 X1 r1 p1=>p1.here W1 ⟨Z,rfl,V.mono W X1⟩⟩
theorem bR{c':ν}{a b:List υ}{tc:ai}(hc:jo X c' tc) (ha:br X a t) (hb:br X b u):jq X (.If c' a b pos) (aY tc t u):=(aku hc ha hb).imp λσ Z H h=>by
 obtain⟨ρ,e,c,W,V,p⟩:=h;refine⟨ρ,e,c,W,V,post.bind p λx c1 aJ H1 v _ W1 X1 r1 p1=>?_⟩
 cases r1;cases x with
 |true=>exact n9 ⟨aJ,e,c1,W1,V.mono W X1,p1⟩
 |false=>exact oh ⟨aJ,e,c1,W1,V.mono W X1,p1⟩
theorem r8{i:Nat}{x:Str}{pos':Pos}(he:aP X e da) (hN:X.N.Nodup:=by decide +kernel) (hi:X.N[i]? = Y x:=by rfl) (hx:Loc X.env.scope x:=by first|exact Or.inl rfl|exact Or.inr rfl) (hs:swapsWith e (Y (.Name x pos')) pos.line X.env=pure G:=by rfl)
  (hf:X.fn x=L\/X.env.scope.names.lookup x=Y .local:=by first|exact .inl rfl|exact .inr rfl):jq X (.Assign [.Name x pos'] e pos) (aN i da):=(LO hN hi hx he hs).imp λσ Z H h=>by
 obtain⟨ρ,e,c,W,V,p⟩:=h;refine⟨ρ,e,c,W,V,post.bind p λx c1 aJ H1 v _ W1 X1 r1 p1=>p1.here W1 ⟨_,rfl,(V.mono W X1).set r1 i⟩⟩
end
abbrev Gd:=D->Ev->aa->R Ev
def yM(K:θ) (g:Gd):TG:=λv Z H Q=>∃ρ x e c,Wd K ρ H c/\ek K ρ H e Z/\Rel K ρ H x v/\post K (λρ H e Z=>ek K ρ H e Z) (g x e c) ρ H Q
def ail(K:θ) (g:List D->Ev->aa->R Ev):mP:=λvs Z H Q=>∃ρ xs e c,Wd K ρ H c/\ek K ρ H e Z/\aK K ρ H xs vs/\post K (λρ H e Z=>ek K ρ H e Z) (g xs e c) ρ H Q
abbrev lH(X:Cx) (e:ν) (g:Gd):Prop:=PG X e (yM X.K g)
abbrev B5(X:Cx) (es:List ν) (g:List D->Ev->aa->R Ev):Prop:=o5 X es (ail X.K g)
def aB(i:Nat):Gd:=λx e c=>.ok (e.set i (Y x)) c
def gZ:List D->Ev->aa->R Ev:=λxs e c=>match xs with
 |[]=>.ok e c
 |_=>.bad
def dj(g:Gd) (r:List D->Ev->aa->R Ev):List D->Ev->aa->R Ev:=λxs e c=>match xs with
 |x::xs=>(g x e c).bind λe c=>r xs e c
 |_=>.bad
def gG(n:Nat) (g:List D->Ev->aa->R Ev):Gd:=λx e c=>match x with
 |.tup l=>if l.length=n then g l e c else .bad
 |_=>.bad
theorem PG.imp{X:Cx}{e:ν}{t t':TG}(h:PG X e t) (i:∀v Z H Q,t' v Z H Q->t v Z H Q):PG X e t':=λpins s Z H x u Q I r q=>h pins s Z H x u Q I r (i _ _ _ _ q)
theorem o5.imp{X:Cx}{es:List ν}{t t':mP}(h:o5 X es t) (i:∀v Z H Q,t' v Z H Q->t v Z H Q):o5 X es t':=λpins s Z H x u Q I r q=>h pins s Z H x u Q I r (i _ _ _ _ q)
section
variable {X:Cx}{pos:Pos}
theorem e9{i:Nat}{x:Str}(hN:X.N.Nodup:=by decide +kernel) (hi:X.N[i]? = Y x:=by rfl) (hx:Loc X.env.scope x:=by first|exact Or.inl rfl|exact Or.inr rfl) (hf:X.fn x=L\/X.env.scope.names.lookup x=Y .local:=by first|exact .inl rfl|exact .inr rfl):lH X (.Name x pos) (aB i) :=
 (L1 hN hi hx hf).imp λv Z H Q h=>by
  obtain⟨ρ,x,e,c,W,V,r,p⟩:=h;exact p.here W (V.set r i)
theorem wR:B5 X [] gZ:=Wj.imp λv Z H Q h=>by
 obtain⟨ρ,xs,e,c,W,V,r,p⟩:=h;cases xs with
 |nil=>exact⟨r,p.here W V⟩
 |cons x xs=>exact p.elim
theorem lg{e:ν}{es:List ν}{g:Gd}{u:List D->Ev->aa->R Ev}(h1:lH X e g) (h2:B5 X es u) (hs:(assignEach (e::es) X.env).map (·.2)=assign e X.env::(assignEach es X.env).map (·.2):=by rfl):B5 X (e::es) (dj g u) :=
 (Wl h1 h2 hs).imp λv Z H Q h=>by
  obtain⟨ρ,xs,e,c,W,V,r,p⟩:=h;cases xs with
  |nil=>exact p.elim
  |cons x xs =>
   obtain⟨y,ys,rfl,rx,rs⟩:=r;exact⟨y,ys,rfl,ρ,x,e,c,W,V,rx,post.bind p λe1 c1 aJ H1 σ1 _ W1 X1 V1 p1=>⟨aJ,xs,e1,c1,W1,V1,aK.mono W X1 _ _ rs,p1⟩⟩
theorem wU{es:List ν}{k:Nat}{g:List D->Ev->aa->R Ev}{n:Nat}(h:B5 X es g) (hc:X.calm=L:=by rfl) (hn:(assignEach es X.env).length=n:=by rfl) (hst:(assignEach es X.env).findIdx? (·.1)=O:=by rfl):lH X (.Tuple es k pos) (gG n g) :=
 (Wm hc h hn hst).imp λv Z H Q h=>by
  obtain⟨ρ,x,e,c,W,V,r,p⟩:=h;cases x with
  |tup l =>
   obtain⟨a,xs,rfl,s,rs⟩:=r;unfold gG at p;dsimp only at p;split at p
   ·rename_i hl;exact⟨a,xs,rfl,ck.of s,rs.length.trans hl,ρ,l,e,c,W,V,rs,p⟩
   ·exact p.elim
  |_=>exact p.elim
def jx(a:af) (g:Gd):ah:=λe c=>(a e c).bind λx c=>(g x e c).bind λe c=>.ok (.nx e) c
theorem r9{tg e:ν}{da:af}{g:Gd}(he:aP X e da) (hg:lH X tg g) (hs:swapsWithSole [tg] e pos.line X.env=pure G:=by rfl) (hw:swappedStores [tg] e X.env=pure O:=by rfl)
  (h1:(assignEach [tg] X.env).map (·.2)=[assign tg X.env]:=by rfl):jq X (.Assign [tg] e pos) (jx da g):=(aks he hg hs hw h1).imp λσ Z H h=>by
 obtain⟨ρ,e,c,W,V,p⟩:=h;refine⟨ρ,e,c,W,V,post.bind p λx c1 aJ H1 v _ W1 X1 r1 p1=>⟨aJ,x,e,c1,W1,V.mono W X1,r1,post.bind p1 λe2 c2 bS H2 σ2 _ W2 X2 V2 p2=>p2.here W2 ⟨σ2,rfl,V2⟩⟩⟩
def pV:D->D->D->aa->R Unit:=λo i v c=>match o,i with
 |.ref k,.int i=>match c[k]? with
  |some (.lst l)=>match ig l.length i with
   |some j=>if noRef v=L then .ok () (c.set k (.lst (l.set j v)))else .bad
   |none=>.bad
  |_=>.bad
 |_,_=>.bad
def jL(o i:af):Gd:=λx e c=>(o e c).bind λo c=>(i e c).bind λi c=>(pV o i x c).bind λ_ c=>.ok e c
theorem ua{o i:ν}{dO di:af}(ho:aP X o dO) (hi:aP X i di)
  (ha:∀v,assign (.Subscript o i pos) X.env v=(do
   let ov <-holding [v] (eval o X.env)
   let iv <-holding [v,ov] (eval i X.env)
   standAt pos
   holding [v,ov,iv] (setItem ov iv v)
   release [v,ov,iv] []):=by intro _;rfl):lH X (.Subscript o i pos) (jL dO di):=(Wn ho hi set_list ha).imp λv Z H Q h=>by
 obtain⟨ρ,x,e,c,W,V,rx,p⟩:=h;refine⟨ρ,e,c,W,V,post.bind p λo c1 aJ H1 ov _ W1 X1 r1 p1=>⟨aJ,e,c1,W1,V.mono W X1,post.bind p1 λi c2 bS H2 iv _ W2 X2 r2 p2=>?_⟩⟩
 have V2:=(V.mono W X1).mono W1 X2;have ajC:=Rel.mono W (X1.trans X2) _ _ rx;have ro:=Rel.mono W1 X2 _ _ r1;unfold pV at p2;split at p2
 ·rename_i k i _ _;split at p2
  ·rename_i l hl;split at p2
   ·rename_i j hj;split at p2
    ·rename_i hv;obtain⟨a,rfl,ha,_⟩:=ro;cases r2;obtain⟨nr,ys,hy,rl⟩:=W2.eL k a _ ha hl;refine⟨a,ys,i,j,rfl,rfl,hy,by rw[rl.length];exact hj,?_⟩
     exact p2 bS _ Z (W2.write ha (MY nr hv) (rl.set j ajC)) (Ext.write ha) (V2.mono W2 (Ext.write ha))
    ·exact p2.elim
   ·exact p2.elim
  ·exact p2.elim
 ·exact p2.elim
end
structure Src where
 items:List D
 stays:aa->Prop
def JS(K:θ) (ρ:List J) (H:Hp) (s:Src) (Θ:It):Prop :=
 ∀ρ' H' c',Wd K ρ' H' c'->Ext ρ H ρ' H'->s.stays c'->∀i:Nat,
  (∀d,s.items[i]? = Y d->Θ.go i H'/\∀x H2,Θ.rK i H' x H2->Wd K ρ' H2 c'/\Ext ρ' H' ρ' H2/\Rel K ρ' H2 d x)/\(i=s.items.length->Θ.stop i H')
def JQ(K:θ) (d:Ev->aa->R Src):TI:=tD K (JS K) d
abbrev PId(X:Cx) (tg iter:ν) (d:Ev->aa->R Src):Prop:=PI X tg iter (JQ X.K d)
theorem PI.imp{X:Cx}{tg iter:ν}{t t':TI}(h:PI X tg iter t) (i:∀Z H Q,t' Z H Q->t Z H Q):PI X tg iter t':=λpins s Z H Q I q=>h pins s Z H Q I (i _ _ _ q)
def cO(a:af):Ev->aa->R Src:=λe c=>(a e c).bind λx c=>match x with
 |.lst l=>.ok ⟨l,λ_=>True⟩ c
 |.cD l=>.ok ⟨l.map D.int,λ_=>True⟩ c
 |.ref k=>match c[k]? with
  |some (.lst l)=>.ok ⟨l,λc=>c[k]? = Y (.lst l)⟩ c
  |_=>.bad
 |_=>.bad
def fy(a:af):Ev->aa->R Src:=λe c=>(a e c).bind λx c=>match x with
 |.tup l=>.ok ⟨l,λ_=>True⟩ c
 |_=>.bad
def aW(lo hi:Int):List D:=(Ω (hi-lo).toNat).map fun(i:Nat)=>D.int (lo+(i:Int))
def bQ(a:aj):Ev->aa->R Src:=λe c=>(a e c).bind λxs c=>match xs with
 |[.int j]=>if -(2^62)<=j/\j<2^62 then .ok ⟨aW 0 j,λ_=>True⟩ c else .bad
 |_=>.bad
def fM(a:aj):Ev->aa->R Src:=λe c=>(a e c).bind λxs c=>match xs with
 |[.int i,.int j]=>if -(2^62)<=i/\i<2^62/\-(2^62)<=j/\j<2^62 then .ok ⟨aW i j,λ_=>True⟩ c else .bad
 |_=>.bad
def qQ(a:aj):Ev->aa->R Src:=λe c=>(a e c).bind λxs c=>match xs with
 |[.tup l]=>.ok ⟨l.mapIdx λi x=>.tup [.int i,x],λ_=>True⟩ c
 |_=>.bad
section
variable {X:Cx}{tg:ν}{K:θ}{ρ:List J}{H:Hp}
theorem Fq{l:List D}{a:J}{st:aa->Prop}(h:∀ρ' H' c',Wd K ρ' H' c'->Ext ρ H ρ' H'->st c'->∃xs,bN K H' a xs/\aK K ρ' H' l xs):JS K ρ H ⟨l,st⟩ (uO K a):=by
 intro ρ' H' c' W E s i;obtain⟨xs,q,r⟩:=h ρ' H' c' W E s;refine⟨λd hd=>?_,λe=>⟨xs,q,by rw[r.length];exact Rt e.symm⟩⟩
 obtain⟨x,hx,rx⟩:=r.get hd;refine⟨⟨xs,x,q,hx⟩,λy H2 hy=>?_⟩
 obtain⟨rfl,hy⟩:=hy;have:=hy xs q;rw[hx]at this;cases this;exact⟨W,Ext.refl,rx⟩
theorem aar{l:List D}{a:J}{st:aa->Prop}(h:∀ρ' H' c',Wd K ρ' H' c'->Ext ρ H ρ' H'->st c'->∃xs,ck K H' a xs/\aK K ρ' H' l xs):JS K ρ H ⟨l,st⟩ (IK K a):=by
 intro ρ' H' c' W E s i;obtain⟨xs,q,r⟩:=h ρ' H' c' W E s;refine⟨λd hd=>?_,λe=>⟨xs,q,by rw[r.length];exact Rt e.symm⟩⟩
 obtain⟨x,hx,rx⟩:=r.get hd;refine⟨⟨xs,x,q,hx⟩,λy H2 hy=>?_⟩
 obtain⟨rfl,hy⟩:=hy;have:=hy xs q;rw[hx]at this;cases this;exact⟨W,Ext.refl,rx⟩
theorem pY{lo hi:Int}{i:Nat}{d:D}(h:(aW lo hi)[i]? = Y d):i<(hi-lo).toNat/\d=.int (lo+i):=by
 unfold aW at h;rw[Q9]at h;cases q:(Ω (hi-lo).toNat)[i]? with
 |none=>rw[q]at h;cases h
 |some j =>
  rw[q]at h;obtain⟨h2,h3⟩:=((Q7.mp q));rw[UG]at h3;subst h3;cases h;exact⟨by simpa using h2,rfl⟩
theorem NX{lo hi:Int}{st:aa->Prop}:JS K ρ H ⟨aW lo hi,st⟩ (ye lo (hi-lo).toNat):=by
 intro ρ' H' c' W E s i;refine⟨λd hd=>?_,λe=>?_⟩
 ·obtain⟨h1,rfl⟩:=pY hd;refine⟨h1,λx H2 hy=>?_⟩
  obtain⟨rfl,rfl⟩:=hy;exact⟨W,Ext.refl,rfl⟩
 ·have:(aW lo hi).length=(hi-lo).toNat:=by simp[aW]
  rw[e];exact Rt this.symm
theorem jf{l:ν}{dl:af}(hl:aP X l dl):PId X tg l (cO dl):=(LY hl).imp λZ H Q h=>by
 obtain⟨ρ,e,c,W,V,p⟩:=h;refine⟨ρ,e,c,W,V,post.bind p λx c1 aJ H1 v _ W1 X1 r1 p1=>?_⟩
 cases x with
 |lst l =>
  obtain⟨a,xs,rfl,s,rs⟩:=r1;exact⟨a,rfl,⟨xs,bN.of s.1⟩,p1.here W1 (Fq λρ' H' c' W' E _=>⟨xs,bN.of (Nv E s).1,aK.mono W1 E _ _ rs⟩)⟩
 |cD l =>
  obtain⟨a,rfl,s⟩:=r1;exact⟨a,rfl,⟨_,s.sql⟩,p1.here W1 (Fq λρ' H' c' W' E _=>⟨_,(Ke E s).sql,aK.ints⟩)⟩
 |ref k =>
  obtain⟨a,rfl,ha,_⟩:=r1;dsimp only at p1;split at p1
  ·rename_i l hl;obtain⟨_,xs,hx,rs⟩:=W1.eL k a _ ha hl;refine⟨a,rfl,⟨xs,bN.of hx⟩,p1.here W1 (Fq λρ' H' c' W' E st=>?_)⟩
   obtain⟨_,ys,hy,rs'⟩:=W'.eL k a _ (E.pre k a ha) st;exact⟨ys,bN.of hy,rs'⟩
  ·exact p1.elim
 |_=>exact p1.elim
theorem om{l:ν}{dl:af}(hl:aP X l dl):PId X tg l (fy dl):=(abE hl).imp λZ H Q h=>by
 obtain⟨ρ,e,c,W,V,p⟩:=h;refine⟨ρ,e,c,W,V,post.bind p λx c1 aJ H1 v _ W1 X1 r1 p1=>?_⟩
 cases x with
 |tup l =>
  obtain⟨a,xs,rfl,s,rs⟩:=r1;exact⟨a,rfl,⟨xs,ck.of s⟩,p1.here W1 (aar λρ' H' c' W' E _=>⟨xs,ck.of (C3 W1 E s),aK.mono W1 E _ _ rs⟩)⟩
 |_=>exact p1.elim
theorem ez{a:ν}{da:aj}{p pos:Pos}(ha:fY X [a] da) (hm:X.mg "range"=O) (hg:Gl X "range":=by rfl) (hs:ε [a] X.env=[(G,eval a X.env)]:=by exact rY rfl):PId X tg (.Call (.Name "range" p) [a] [] pos) (bQ da) :=
 (Wf hg hm ha hs).imp λZ H Q h=>by
  obtain⟨ρ,e,c,W,V,p⟩:=h;refine⟨ρ,e,c,W,V,post.bind p λx c1 aJ H1 v _ W1 X1 r1 p1=>?_⟩
  split at p1
  ·rename_i j _;split at p1
   ·rename_i hj;obtain⟨y,ys,rfl,ry,rs⟩:=r1;cases ry;cases rs;refine⟨j,rfl,hj.1,hj.2,p1.here W1 ?_⟩;have:=NX (K:=X.K) (ρ:=aJ) (H:=H1) (lo:=0) (hi:=j) (st:=λ_=>True)
    rw[Int.sub_zero]at this;exact this
   ·exact p1.elim
  ·exact p1.elim
theorem jH{a b:ν}{da:aj}{p pos:Pos}(ha:fY X [a,b] da) (hm:X.mg "range"=O) (hg:Gl X "range":=by rfl) (hs:ε [a,b] X.env=[(G,eval a X.env),(G,eval b X.env)]:=by exact Kc rfl rfl) (hs2:ε [b] X.env=[(G,eval b X.env)]:=by exact rY rfl):PId X tg (.Call (.Name "range" p) [a,b] [] pos) (fM da) :=
 (We hg hm ha hs hs2).imp λZ H Q h=>by
  obtain⟨ρ,e,c,W,V,p⟩:=h;refine⟨ρ,e,c,W,V,post.bind p λx c1 aJ H1 v _ W1 X1 r1 p1=>?_⟩
  split at p1
  ·rename_i i j _;split at p1
   ·rename_i hj;obtain⟨y,ys,rfl,ry,z,zs,rfl,rz,rs⟩:=r1;cases ry;cases rz;cases rs;exact⟨i,j,rfl,hj,p1.here W1 NX⟩
   ·exact p1.elim
  ·exact p1.elim
theorem aat{l:List D}{a:J}{st:aa->Prop}(h:∀ρ' H' c',Wd K ρ' H' c'->Ext ρ H ρ' H'->st c'->∃xs,ck K H' a xs/\aK K ρ' H' l xs):JS K ρ H ⟨l.mapIdx λi x=>.tup [.int i,x],st⟩ (IM (ck K) a):=by
 intro ρ' H' c' W E s i;obtain⟨xs,q,r⟩:=h ρ' H' c' W E s;refine⟨λd hd=>?_,λe=>⟨xs,q,?_⟩⟩
 ·have hd:(l.mapIdx λi x=>D.tup [.int i,x])[i]? = Y d:=hd
  rw[VN]at hd;cases e1:l[i]? with
  |none=>rw[e1]at hd;cases hd
  |some x =>
   rw[e1]at hd;cases hd;obtain⟨v,hv,rv⟩:=r.get e1;refine⟨⟨xs,v,q,hv⟩,λz H2 hz=>?_⟩
   obtain⟨t,v',rfl,ht,rfl,hz⟩:=hz;have z1:=hz xs q;rw[hv]at z1;cases z1;exact⟨W.fresh ht,Ext.fresh W ht,t,[.int i,v],rfl,cV,.int i,[v],rfl,rfl,v,[],rfl,Rel.mono W (Ext.fresh W ht) _ _ rv,rfl⟩
 ·have e:i=(l.mapIdx λi x=>D.tup [.int i,x]).length:=e
  rw[List.length_mapIdx]at e;rw[r.length];exact e
theorem Oc{es:List ν}{k:Nat}{pt:Pos}{a:ν}{da:aj}{p pos:Pos}(ha:fY X [a] da) (hm:X.mg "enumerate"=O) (hg:Gl X "enumerate":=by rfl) (hs:ε [a] X.env=[(G,eval a X.env)]:=by exact rY rfl) :
  PId X (.Tuple es k pt) (.Call (.Name "enumerate" p) [a] [] pos) (qQ da):=(Wh hg hm ha hs).imp λZ H Q h=>by
 obtain⟨ρ,e,c,W,V,p⟩:=h;refine⟨ρ,e,c,W,V,post.bind p λx c1 aJ H1 v _ W1 X1 r1 p1=>?_⟩
 split at p1
 ·obtain⟨y,ys,rfl,ry,rs⟩:=r1;cases rs;obtain⟨a1,xs,rfl,s1,t1⟩:=ry;exact⟨a1,rfl,⟨xs,ck.of s1⟩,p1.here W1 (aat λρ' H' c' W' E _=>⟨xs,ck.of (C3 W1 E s1),aK.mono W1 E _ _ t1⟩)⟩
 ·exact p1.elim
open Classical in
def cy(st:aa->Prop) (g:Gd) (b:ah):List D->ah
 |[],e,c=>if st c then .ok (.nx e) c else .bad
 |x::xs,e,c=>if st c then(g x e c).bind λe c=>(b e c).bind λf c=>match f with
   |.nx e=>cy st g b xs e c
   |.ct e=>cy st g b xs e c
   |.bk e=>.ok (.nx e) c
   |.rt d=>.ok (.rt d) c
  else .bad
def bU(s:Ev->aa->R Src) (g:Gd) (b:ah):ah:=λe c=>(s e c).bind λs c=>cy s.stays g b s.items e c
theorem fj{iter:ν}{body:List υ}{ds:Ev->aa->R Src}{g:Gd}{db:ah}{pos:Pos}(hi:PId X tg iter ds) (hg:lH X tg g) (hb:br X body db) (hp:PassesOwn (model X.prog X.w) X.A X.env X.xe:=by exact PassesOwn.never) (hc:X.calm=L:=by rfl)
  (hs:∀x,foldedSetIterable iter X.env x=pure x:=by intro _;rfl):jq X (.For tg iter body [] pos) (bU ds g db):=(LP hp hc hi hg hb hs).imp λσ Z H h=>by
 obtain⟨ρ,e,c,W,V,p⟩:=h;refine⟨ρ,e,c,W,V,post.bind p λs c1 aJ H1 Θ _ W1 X1 j1 p1=>?_⟩
 refine⟨λi m Z H=>∃ρ e c,Wd X.K ρ H c/\Ext aJ H1 ρ H/\ek X.K ρ H e Z/\i<=s.items.length/\m=s.items.length-i/\post X.K (rA X.K) (cy s.stays g db (s.items.drop i) e c) ρ H (En σ),
  ⟨_,aJ,e,c1,W1,Ext.refl,V.mono W X1,RL _,rfl,p1⟩,?_⟩
 rintro i m σ2 H2 ⟨bS,e2,c2,W2,X2,V2,hi2,rfl,p2⟩
 by_cases hl:i<s.items.length
 ·rw[UE hl]at p2;unfold cy at p2;split at p2
  ·rename_i hst;obtain⟨go,yl⟩:=(j1 bS H2 c2 W2 X2 hst i).1 _ (Bt hl);refine .inr ⟨go,λσ' H'=>∃ρ e c,Wd X.K ρ H' c/\Ext aJ H1 ρ H'/\ek X.K ρ H' e σ'/\i+1<=s.items.length/\post X.K (rA X.K) (cy s.stays g db (s.items.drop (i+1)) e c) ρ H' (En σ),?_,λx H3 hy=>?_⟩
   ·rintro σ' H' ⟨ρ,e,c,w,x,v,l,q⟩
    exact⟨s.items.length-(i+1),by omega,ρ,e,c,w,x,v,l,rfl,q⟩
   ·obtain⟨W3,X3,r3⟩:=yl x H3 hy;refine⟨bS,_,e2,c2,W3,V2.mono W2 X3,r3,post.bind (post.ext p2 X3) λe4 c4 pq H4 agX _ W4 X4 V4 p4=>?_⟩
    refine⟨pq,e4,c4,W4,V4,post.bind p4 λf c5 pe H5 b _ W5 X5 r5 p5=>?_⟩
    have x9:=((X2.trans X3).trans X4).trans X5;cases f with
    |nx e1=>obtain⟨σ1,rfl,V1⟩:=r5;exact⟨pe,e1,c5,W5,x9,V1,hl,p5⟩
    |ct e1=>obtain⟨σ1,rfl,V1⟩:=r5;exact⟨pe,e1,c5,W5,x9,V1,hl,p5⟩
    |bk e1=>obtain⟨σ1,rfl,V1⟩:=r5;exact post.here (Q:=En σ) (show post X.K (rA X.K) (.ok (Fl.nx e1) c5) pe H5 (En σ)from p5) W5 ⟨_,rfl,V1⟩
    |rt d=>obtain⟨v,rfl,V1⟩:=r5;exact post.here (Q:=En σ) (show post X.K (rA X.K) (.ok (Fl.rt d) c5) pe H5 (En σ)from p5) W5 ⟨_,rfl,V1⟩
  ·exact p2.elim
 ·obtain rfl:i=s.items.length:=by omega
  rw[VM (ZA _)]at p2;unfold cy at p2;split at p2
  ·rename_i hst;exact .inl ⟨(j1 bS H2 c2 W2 X2 hst _).2 rfl,post.here (Q:=En σ) p2 W2 ⟨σ2,rfl,V2⟩⟩
  ·exact p2.elim
end
def f7(pick:List (Option Nat)) (e:Ev):Ev:=pick.map λo=>o.bind λj=>(e[j]?).bind id
open Classical in
def bL(st:aa->Prop) (g:Gd) (t:ai) (el:af):List D->Ev->List D->aa->R (List D)
 |[],e,acc,c=>if st c then .ok acc c else .bad
 |x::xs,e,acc,c=>if st c then(g x e c).bind λe c=>(t e c).bind λk c=>if k=L then(el e c).bind λy c=>bL st g t el xs e (acc++[y]) c else bL st g t el xs e acc c else .bad
def bg(s:Ev->aa->R Src) (pick:List (Option Nat)) (g:Gd) (t:ai) (el:af):af:=λe c=>(s e c).bind λs c =>
 if s.items.length<Ξ then(bL s.stays g t el s.items (f7 pick e) [] c).bind λl c=>.ok (.lst l) c else .bad
def aT:ai:=λ_ c=>.ok L c
abbrev B4(X:Cx) (ifs:List ν) (t:ai):Prop:=rB X ifs (tD X.K (λ_ _ a b=>a=b) t)
section
variable {X:Cx}{N':List Str}{pick:List (Option Nat)}{scope:Q5}{tg elt iter:ν}{ifs:List ν}{pos:Pos}{ds:Ev->aa->R Src}{g:Gd}{dt:ai}{de:af}
theorem ny:B4 X [] aT:=λpins s Z H Q I h=>by
 obtain⟨ρ,e,c,W,V,p⟩:=h;exact aj0 pins s Z H Q I (post.here p W rfl)
theorem jA{c':ν}(h:jo X c' dt):B4 X [c'] dt:=aj1 h
theorem ek.picked{K:θ}{ρ:List J}{H:Hp}{e:Ev}{Z:St}(V:ek K ρ H e Z):ek K ρ H (f7 pick e) (lP pick Z):=by
 refine⟨λi d h=>?_,by simp[f7,lP]⟩
 unfold f7 at h;unfold lP;rw[Q9]at h ⊢;cases q:pick[i]? with
 |none=>rw[q]at h;cases h
 |some o =>
  rw[q]at h;cases o with
  |none=>cases h
  |some j =>
   have h':(e[j]?).bind id=Y d:=Q4 h;cases q2:e[j]? with
   |none=>rw[q2]at h';cases h'
   |some z =>
    rw[q2]at h';subst h';obtain⟨v,hv,r⟩:=V.get j d q2;exact⟨v,by simp[hv],r⟩
theorem ads{K:θ}{aJ:List J}{H1:Hp}{c1:aa}{e:Ev}{Z:St}{s:Src}{Θ:It}{Q:VK}(W1:Wd K aJ H1 c1) (V1:ek K aJ H1 e Z) (j1:JS K aJ H1 s Θ) (hn:s.items.length<Ξ)
  (p1:post K (Rel K) ((bL s.stays g dt de s.items e [] c1).bind λl c=>.ok (.lst l) c) aJ H1 Q):QL Θ (yM K g) (tD K (λ_ _ a b=>a=b) dt) (tD K (Rel K) de) Q Z H1:=by
 refine⟨λi m Z ys H=>∃ρ e acc c,Wd K ρ H c/\Ext aJ H1 ρ H/\ek K ρ H e Z/\aK K ρ H acc ys/\acc.length<=i/\i<=s.items.length/\m=s.items.length-i/\post K (Rel K) ((bL s.stays g dt de (s.items.drop i) e acc c).bind λl c=>.ok (.lst l) c) ρ H Q,
  ⟨_,aJ,e,[],c1,W1,Ext.refl,V1,rfl,ZA _,RL _,rfl,p1⟩,?_⟩
 rintro i m σ2 ys H2 ⟨bS,e2,acc,c2,W2,X2,V2,r2,ha,hi2,rfl,p2⟩
 refine⟨by rw[r2.length];omega,?_⟩
 by_cases hl:i<s.items.length
 ·rw[UE hl]at p2;unfold bL at p2;split at p2
  ·rename_i hst;obtain⟨go,yl⟩:=(j1 bS H2 c2 W2 X2 hst i).1 _ (Bt hl);refine .inr ⟨go,λσ' ys' H'=>∃ρ e acc c,Wd K ρ H' c/\Ext aJ H1 ρ H'/\ek K ρ H' e σ'/\aK K ρ H' acc ys'/\acc.length<=i+1/\i+1<=s.items.length/\post K (Rel K) ((bL s.stays g dt de (s.items.drop (i+1)) e acc c).bind λl c=>.ok (.lst l) c) ρ H' Q,?_,λx H3 hy=>?_⟩
   ·rintro σ' ys' H' ⟨ρ,e,acc,c,w,x,v,r,a,l,q⟩
    exact⟨s.items.length-(i+1),by omega,ρ,e,acc,c,w,x,v,r,a,l,rfl,q⟩
   ·obtain⟨W3,X3,r3⟩:=yl x H3 hy;have assoc:∀{α β γ:Type}(r:R α) f (g:β->aa->R γ),(r.bind f).bind g=r.bind λa c=>(f a c).bind g:=λr f g=>by cases r<;>rfl
    rw[assoc]at p2;refine⟨bS,_,e2,c2,W3,V2.mono W2 X3,r3,post.bind (post.ext p2 X3) λe4 c4 pq H4 agX _ W4 X4 V4 p4=>?_⟩
    rw[assoc]at p4;refine⟨pq,e4,c4,W4,V4,post.bind p4 λk c5 pe H5 b _ W5 X5 r5 p5=>?_⟩
    cases r5;have x9:=((X2.trans X3).trans X4).trans X5;have LK:=aK.mono W2 ((X3.trans X4).trans X5) _ _ r2;cases k with
    |true =>
     refine n9 ?_;rw[if_pos rfl,assoc]at p5;refine⟨pe,e4,c5,W5,V4.mono W4 X5,post.bind p5 λy c6 aba H6 v _ akE X6 r6 p6=>?_⟩
     refine⟨aba,e4,acc++[y],c6,akE,x9.trans X6,(V4.mono W4 X5).mono W5 X6,(aK.mono W5 X6 _ _ LK).append ⟨v,[],rfl,r6,rfl⟩,by simp;exact ha,hl,p6⟩
    |false =>
     refine oh ?_;exact⟨pe,e4,acc,c5,W5,x9,V4.mono W4 X5,LK,Nat.le_succ_of_le ha,hl,p5⟩
  ·exact p2.elim
 ·obtain rfl:i=s.items.length:=by omega
  rw[VM (ZA _)]at p2;unfold bL at p2;split at p2
  ·rename_i hst;exact .inl ⟨(j1 bS H2 c2 W2 X2 hst _).2 rfl,qg W2 r2 p2⟩
  ·exact p2.elim
theorem PX{Z:St}{H:Hp}{Q:VK}{K:θ}(h:tD K (Rel K) (bg ds pick g dt de) Z H Q):Df (JQ K ds) pick (yM K g) (tD K (λ_ _ a b=>a=b) dt) (tD K (Rel K) de) Z H Q:=by
 obtain⟨ρ,e,c,W,V,p⟩:=h;refine⟨ρ,e,c,W,V,post.bind p λs c1 aJ H1 Θ _ W1 X1 j1 p1=>?_⟩
 split at p1
 ·rename_i hn;exact ads W1 (V.mono W X1).picked j1 hn p1
 ·exact p1.elim
theorem j4(Γ:dz X N' pick scope) (hit:PId X tg iter ds)
  (hg:∀cl C s₀ H₀ ex pn,lH (fO X N' scope cl C s₀ H₀ ex pn) tg g) (hi:∀cl C s₀ H₀ ex pn,B4 (fO X N' scope cl C s₀ H₀ ex pn) ifs dt) (he:∀cl C s₀ H₀ ex pn,aP (fO X N' scope cl C s₀ H₀ ex pn) elt de)
  (hc:X.calm=L:=by rfl) (hs:∀x,foldedSetIterable iter X.env x=pure x:=by intro _;rfl) :
  aP X (.ListComp elt [⟨tg,iter,ifs,0⟩] scope pos) (bg ds pick g dt de):=(ak7 Γ hc hit hg hi he hs).imp λZ H Q h=>PX h
theorem lQ{i:Nat}{y:Str}{py spos:Pos}(Γ:dz X N' pick scope) (hit:PId X tg iter ds)
  (hg:∀cl C s₀ H₀ ex pn,lH (fO X N' scope cl C s₀ H₀ ex pn) tg g) (hi:∀cl C s₀ H₀ ex pn,B4 (fO X N' scope cl C s₀ H₀ ex pn) ifs dt) (he:∀cl C s₀ H₀ ex pn,aP (fO X N' scope cl C s₀ H₀ ex pn) elt de)
  (hsw:swapsWith (.ListComp elt [⟨tg,iter,ifs,0⟩] scope pos) (Y (.Name y py)) spos.line X.env=pure L:=by rfl) (hN:X.N.Nodup:=by decide +kernel) (hy:X.N[i]? = Y y:=by rfl) (hl:X.env.scope.names.lookup y=Y .local:=by rfl)
  (hc:X.calm=L:=by rfl) (hs:∀x,foldedSetIterable iter X.env x=pure x:=by intro _;rfl) :
  jq X (.Assign [.Name y py] (.ListComp elt [⟨tg,iter,ifs,0⟩] scope pos) spos) (aN i (bg ds pick g dt de)):=(akw (g:=yM X.K g) (tt:=tD X.K (λ_ _ a b=>a=b) dt) (te:=tD X.K (Rel X.K) de) hsw hN hy hl Γ hc hit hg hi he hs).imp λσ Z H h=>by
 refine PX (g:=g) (dt:=dt) (de:=de) ?_;obtain⟨ρ,e,c,W,V,p⟩:=h;refine⟨ρ,e,c,W,V,post.bind p λx c1 aJ H1 v _ W1 X1 r1 p1=>p1.here W1 ⟨_,rfl,(V.mono W X1).set r1 i⟩⟩
end
def dH(K:θ) (n:Nat) (m:List D->aa->R D):Sp:=λvs H Q _=>∃ρ xs c,Wd K ρ H c/\aK K ρ H xs vs/\xs.length=n/\post K (Rel K) (m xs c) ρ H Q
def aH(n:Nat) (m:List D->aa->R D) (a:aj):af:=λe c=>(a e c).bind λxs c=>if xs.length=n then m xs c else .bad
def cC(n:Nat) (xs:List D):Ev:=xs.map Y++τ (n-xs.length) O
def cG(own:Bool) (n:Nat) (v:D) (c:aa):R D:=match v with
 |.ref k=>match c[k]? with
  |some (.lst l)=>if n<=k then(if own=L then .ok (.ref n) (c.take n++[.lst l])else .ok (.lst l) (c.take n))else .bad
  |_=>.bad
 |v=>if noRef v=L then .ok v (c.take n)else .bad
def bx(n:Nat) (own:Bool) (d:ah):List D->aa->R D:=λxs c=>(d (cC n xs) c).bind λf c'=>match f with
 |.rt v=>cG own c.length v c'
 |.nx _=>cG own c.length .aE c'
 |_=>.bad
section
variable {P:ο}{w:π}{K:θ}{mg:Str->Option S}{base:χ}
theorem A6{own:Bool}{ρ aJ:List J}{H H1:Hp}{c c1:aa}{v:D}{x:V}{Q:VK}(W:Wd K ρ H c) (W1:Wd K aJ H1 c1) (X1:Ext ρ H aJ H1) (r:Rel K aJ H1 v x) (p:post K (Rel K) (cG own c.length v c1) ρ H Q):Q x H1:=by
 have hn:=Ext.len W W1 X1;have Wc:=W1.cut hn;have Xc:=X1.cut (n:=c.length) (Rt W.len);unfold cG at p;split at p
 ·rename_i k;split at p
  ·rename_i l hl;split at p
   ·rename_i hk;obtain⟨a,rfl,ha,hL⟩:=r;obtain⟨nr,xs,hx,rl⟩:=W1.eL k a _ ha hl;have na:a∉aJ.take c.length:=by
     intro h;obtain⟨j,hj,e⟩:=S4.mp h;have hj2:j<c.length:=by simp at hj;omega
     rw[UD]at e;have hk1:=Q7.mp ha;have:=(T8 W1.nd (h₀:=(by simp at hj;omega)) (h₁:=hk1.1)).mp (e.trans hk1.2.symm)
     omega
    have sub:∀b,b∈aJ.take c.length->b∈aJ:=λb h=>R6 h
    split at p
    ·have lr:(aJ.take c.length).length=c.length:=by simp[W1.len];omega
     refine p (aJ.take c.length++[a]) H1 (.ref a) ?_ ?_ ⟨a,rfl,?_,hL⟩
     ·refine⟨?_,by simp[W1.len],λj b cl e1 e2=>?_,W1.tab⟩
      ·rw[Ti];refine⟨Wc.nd,by simp,?_⟩
       intro y hy z hz;rw[RG]at hz;subst hz;exact λq=>na (q▸hy)
      ·by_cases hj:j<c.length
       ·rw[RJ (by rw[lr];exact hj)]at e1
        rw[RJ (by simp;omega)]at e2
        have e1':aJ[j]? = Y b:=by rw[Th,if_pos hj]at e1;exact e1
        have q:=W1.eL j b cl e1' (by rw[Th,if_pos hj]at e2;exact e2)
        rw[kG]at q ⊢;obtain⟨kW,ys,hy,r'⟩:=q;refine⟨kW,ys,hy,aK.low (ρ:=aJ) (λz hz=>?_) _ ys kW r'⟩
        rcases RO.mp hz with hz|hz
        ·exact sub z hz
        ·rw[RG]at hz;subst hz;exact R5 ha
       ·have hj':j=c.length:=by
         have:=(Q7.mp e1).1;rw[QT,lr]at this;simp at this;omega
        subst hj';rw[RC (by rw[lr];exact ZA _),lr,S3]at e1
        rw[RC (by simp;omega),show c.length-(List.take c.length c1).length=0 by simp;omega]at e2
        cases e1;cases e2;refine⟨nr,xs,hx,aK.low (ρ:=aJ) (λz hz=>?_) l xs nr rl⟩
        rcases RO.mp hz with hz|hz
        ·exact sub z hz
        ·rw[RG]at hz;subst hz;exact R5 ha
     ·refine⟨λj b e=>?_,λb o e z t=>?_,X1.fT⟩
      ·have q:=Xc.pre j b e;rw[RJ (Q7.mp q).1];exact q
      ·obtain⟨h1,h2⟩:=X1.keep b o e z t;refine⟨h1,λq=>h2 ?_⟩
       rcases RO.mp q with q|q
       ·exact sub b q
       ·rw[RG]at q;subst q;exact R5 ha
     ·rw[RC (by rw[lr];exact ZA _),lr,S3];rfl
    ·exact p (aJ.take c.length) H1 (.ref a) Wc Xc ⟨a,xs,rfl,⟨hx,na⟩,aK.low sub l xs nr rl⟩
   ·exact p.elim
  ·exact p.elim
 ·split at p
  ·rename_i hv;exact p _ H1 x Wc Xc (Rel.low (λb h=>R6 h) _ _ hv r)
  ·exact p.elim
theorem ek.start{ρ:List J}{H:Hp}{xs:List D}{vs:List V}{N:List Str}(r:aK K ρ H xs vs):ek K ρ H (cC N.length xs) (start N vs):=by
 have hl:=r.length;refine⟨λi d h=>?_,by simp[cC,L2.start,hl]⟩
 unfold cC at h;unfold L2.start
 by_cases hi:i<xs.length
 ·rw[RJ (by simpa using hi),Q9]at h
  cases q:xs[i]? with
  |none=>rw[q]at h;cases h
  |some x =>
   rw[q]at h;cases h;obtain⟨v,hv,rv⟩:=r.get q;exact⟨v,by rw[RJ (by simp[hl];exact hi),Q9,hv];rfl,rv⟩
 ·rw[RC (by simpa using UN hi)]at h
  have:=R5 h;rw[List.mem_replicate]at this;cases this.2
theorem jN{x qual:Str}{st:υ}{f:J}{fd:Q2}{N ps:List Str}{k n m:Nat}{own:Bool}{d:ah}(F:iV K x qual st f fd) (Γ:eO N ps (bP st)) (hN:N.length=n) (hm:ps.length=m)
  (hb:∀(cdv:S) (A:ψ) (outer:List Env) (s:Ψ) (H:Hp) (E:XK),b7 k (A.deeper (envOfC qual (bP st) s.heap.objs.size f cdv))->br (jl bV P w K mg base N qual (bP st) f cdv A outer s H E).iO (gj st) d) :
  cg P w K mg base bV (k+1) f fd ps (dH K m (bx n own d)):=by
 subst hN;subst hm;refine F.ok Γ (λvs H Q E h=>?_) (λcdv A outer s H vs Q E hr h=>⟨_,hb cdv A outer s H E hr,?_⟩)
 ·obtain⟨ρ,xs,c,W,r,hl,p⟩:=h;exact r.length.trans hl
 ·obtain⟨ρ,xs,c,W,r,hl,p⟩:=h;refine⟨ρ,cC N.length xs,c,W,ek.start r,post.bind p λfl c1 aJ H1 b _ W1 X1 r1 p1=>?_⟩
  cases fl with
  |nx e1 =>
   obtain⟨σ1,rfl,V1⟩:=r1;exact A6 (v:=.aE) (x:=.aE) (H1:=H1) W W1 X1 rfl (by
    unfold bx at p;exact id (α:=post K (Rel K) (cG own c.length .aE c1) ρ H Q) (by
     rename_i he;rw[he]at p;exact p))
  |rt d =>
   obtain⟨v,rfl,V1⟩:=r1;exact A6 (v:=d) (x:=v) (H1:=H1) W W1 X1 V1 (by
    unfold bx at p;rename_i he;rw[he]at p;exact p)
  |bk e1=>exact p1.elim
  |ct e1=>exact p1.elim
end
section
variable {X:Cx}
theorem aj2{x:Str}{st:υ}{ps:List Str}{f:J}{fd:Q2}{k n:Nat}{m:List D->aa->R D}{e:ν}{es:List ν}{da:aj}{p pos:Pos}(D:Def X.K X.mg x st ps f fd) (ξ:cg X.prog X.w X.K X.mg X.base bV k f fd ps (dH X.K n m)) (hr:b7 k X.A) (ha:fY X (e::es) da) (hg:Gl X x:=by rfl)
  (hdb:(x==("__debug__":Str))=G:=by decide) (he:ε (e::es) X.env=(G,eval e X.env)::ε es X.env:=by exact c9 rfl) (hpl:(ω pos (ε es X.env)).any (·.1)=G:=by exact fK rfl) :
  aP X (.Call (.Name x p) (e::es) [] pos) (aH n m da):=(Wy D ξ hr ha hg hdb he hpl).imp λZ H Q h=>by
 obtain⟨ρ,e,c,W,V,q⟩:=h;refine⟨ρ,e,c,W,V,post.bind q λxs c1 aJ H1 vs _ W1 X1 r1 p1=>?_⟩
 split at p1
 ·rename_i hl;exact⟨aJ,xs,c1,W1,by rw[RY];exact r1,hl,p1⟩
 ·exact p1.elim
theorem bH{id:String}{x:Str}{p pos:Pos}{e:ν}{es:List ν}{da:aj}{f:List D->aa->R D}(hc:cP X (.builtin id) (rN X.K f)) (hm:X.mg x=O) (hv:bootBuiltins x=Y (.builtin id)) (ha:fY X (e::es) da) (hg:Gl X x:=by rfl) (hn:x≠"__name__":=by decide) (hdb:(x==("__debug__":Str))=G:=by decide)
  (he:ε (e::es) X.env=(G,eval e X.env)::ε es X.env:=by exact c9 rfl) (hpl:(ω pos (ε es X.env)).any (·.1)=G:=by exact fK rfl):aP X (.Call (.Name x p) (e::es) [] pos) (aF f da):=(D8 hc hg hm hv ha hn hdb he hpl).imp λZ H Q h=>JK h
theorem fR{T:String}{x:Str}{p pos:Pos}{e:ν}{es:List ν}{da:aj}{f:List D->aa->R D}(hc:cP X (.type T) (rN X.K f)) (hm:X.mg x=O) (hv:bootBuiltins x=Y (.type T)) (ha:fY X (e::es) da) (hg:Gl X x:=by rfl) (hn:x≠"__name__":=by decide) (hdb:(x==("__debug__":Str))=G:=by decide)
  (he:ε (e::es) X.env=(G,eval e X.env)::ε es X.env:=by exact c9 rfl) (hpl:(ω pos (ε es X.env)).any (·.1)=G:=by exact fK rfl):aP X (.Call (.Name x p) (e::es) [] pos) (aF f da):=(sC hc hg hm hv ha hn hdb he hpl).imp λZ H Q h=>JK h
end
def aS:List D->aa->R D:=λxs c=>match xs with
 |[x]=>match fP c x with
  |some l=>.ok (.int l.length) c
  |none=>match x with
   |.str z=>if z.length<=Ξ then .ok (.int z.length) c else .bad
   |_=>.bad
 |_=>.bad
def Jx:D->Option String
 |.aE=>Y "NoneType"
 |.bl _=>Y "bool"
 |.int _=>Y "int"
 |.str _=>Y "str"
 |.tup _=>Y "tuple"
 |.lst _=>Y "list"
 |.ref _=>Y "list"
 |_=>O
def bT:List D->aa->R D:=λxs c=>match xs with
 |[.iH,.ty T]=>if T∈["bool","int","str","list","tuple","dict"]then .ok (.bl (vj "dict" T)) c else .bad
 |[x,.ty T]=>match Jx x with
  |some n=>if T∈["bool","int","str","list","tuple","dict"]then .ok (.bl (vj n T)) c else .bad
  |none=>.bad
 |_=>.bad
def oR:List D->Option (List Bool)
 |[]=>Y []
 |.bl b::l=>(oR l).map (b :: ·)
 |_=>O
def oi:List D->Option (List Int)
 |[]=>Y []
 |.int i::l=>(oi l).map (i :: ·)
 |_=>O
theorem GS(l:List Bool):oR (l.map D.bl)=Y l:=by
 induction l with
 |nil=>rfl
 |cons a l ih=>simp[oR,ih]
theorem FE(l:List Int):oi (l.map D.int)=Y l:=by
 induction l with
 |nil=>rfl
 |cons a l ih=>simp[oi,ih]
theorem Bo:∀{l:List D}{bs:List Bool},oR l=Y bs->l=bs.map D.bl
 |[],bs,h=>by cases h;rfl
 |d::l,bs,h=>by
  cases d with
  |bl b =>
   unfold oR at h;cases q:oR l with
   |none=>rw[q]at h;cases h
   |some r=>rw[q]at h;cases h;rw[Bo q];rfl
  |_=>cases h
theorem FF:∀{l:List D}{bs:List Int},oi l=Y bs->l=bs.map D.int
 |[],bs,h=>by cases h;rfl
 |d::l,bs,h=>by
  cases d with
  |int b =>
   unfold oi at h;cases q:oi l with
   |none=>rw[q]at h;cases h
   |some r=>rw[q]at h;cases h;rw[FF q];rfl
  |_=>cases h
def su(f:List Bool->Bool):List D->aa->R D:=λxs c=>match xs with
 |[.lst l]=>match oR l with
  |some bs=>.ok (.bl (f bs)) c
  |none=>.bad
 |_=>.bad
def gI:=su λbs=>bs.all id
def xY:=su λbs=>bs.any id
def sR:List D->aa->R D:=λxs c=>match xs with
 |[.int i,.int j]=>.ok (.int (if j>i then j else i)) c
 |_=>.bad
def kh:List D->aa->R D:=λxs c=>match xs with
 |[.int i,.int j]=>.ok (.int (if j<i then j else i)) c
 |_=>.bad
def gr:List D->aa->R D:=λxs c=>match xs with
 |[x]=>match fP c x with
  |some l=>.ok (.tup l) c
  |none=>.bad
 |_=>.bad
section
variable {X:Cx}{K:θ}{ρ:List J}{H:Hp}{c:aa}
theorem dw:cP X (.builtin "len") (rN X.K aS):=by
 intro pins s Z H vs us Q I rv h;obtain⟨ρ,xs,c,W,rx,p⟩:=h;unfold aS at p;split at p
 ·obtain⟨v,r,rfl,hx,hr⟩:=rx;cases hr;split at p
  ·rename_i l hl;obtain⟨a,ys,rfl,sq,r⟩:=yS W hx hl;exact adQ pins s Z H _ us Q I rv ⟨a,ys,rfl,sq,by rw[r.length];exact p.here W rfl⟩
  ·split at p
   ·split at p
    ·rename_i hz;cases hx;exact adP pins s Z H _ us Q I rv ⟨_,rfl,hz,p.here W rfl⟩
    ·exact p.elim
   ·exact p.elim
 ·exact p.elim
theorem ag2{x:D}{v:V}{n:String}(W:Wd K ρ H c) (rx:Rel K ρ H x v) (h:Jx x=Y n):tyName H v n:=by
 cases x with
 |aE=>cases rx;cases h;exact rfl
 |bl b=>cases rx;cases h;exact rfl
 |int b=>cases rx;cases h;exact rfl
 |str b=>cases rx;cases h;exact rfl
 |tup l=>obtain⟨a,xs,rfl,s,r⟩:=rx;cases h;exact .inr (.inl ⟨rfl,xs,s⟩)
 |lst l=>obtain⟨a,xs,rfl,s,r⟩:=rx;cases h;exact .inl ⟨rfl,.inl ⟨xs,s.1⟩⟩
 |ref k =>
  obtain⟨a,rfl,s,l⟩:=rx;cases h;obtain⟨xs,e⟩:=l.lst;exact .inl ⟨rfl,.inl ⟨xs,e⟩⟩
 |_=>cases h
theorem lA:cP X (.builtin "isinstance") (rN X.K bT):=by
 intro pins s Z H vs us Q I rv h;obtain⟨ρ,xs,c,W,rx,p⟩:=h;unfold bT at p;split at p
 ·split at p
  ·rename_i hT;obtain⟨v,r,rfl,⟨a,rfl,hH⟩,u,r',rfl,hu,hr⟩:=rx;cases hr;cases hu;obtain⟨u1,u2,rfl,r1,r2⟩:=Vals.two rv;cases r1;cases r2;obtain⟨hp,_,_⟩:=I.hok a _ hH;exact RZ UT I.dW hp (NU (n:="dict") (by simp) hT) (λz=>nomatch z) λtk=>⟨.bl _,H,I.tok _,rfl,p.here W rfl⟩
  ·exact p.elim
 ·split at p
  ·rename_i n hn;split at p
   ·rename_i hT;obtain⟨v,r,rfl,hx,u,r',rfl,hu,hr⟩:=rx;cases hr;cases hu;exact adR pins s Z H _ us Q I rv ⟨v,n,_,rfl,ag2 W hx hn,hT,p.here W rfl⟩
   ·exact p.elim
  ·exact p.elim
 ·exact p.elim
theorem uC(hc:X.calm=L:=by rfl):cP X (.builtin "all") (rN X.K gI):=by
 intro pins s Z H vs us Q I rv h;obtain⟨ρ,xs,c,W,rx,p⟩:=h;unfold gI su at p;split at p
 ·split at p
  ·rename_i bs hb;obtain⟨v,r,rfl,⟨a,ys,rfl,s1,r1⟩,hr⟩:=rx;cases hr;rw[Bo hb]at r1;cases r1.GR;exact adV hc pins s Z H _ us Q I rv ⟨a,bs,rfl,bN.of s1.1,p.here W rfl⟩
  ·exact p.elim
 ·exact p.elim
theorem adG(hc:X.calm=L:=by rfl):cP X (.builtin "any") (rN X.K xY):=by
 intro pins s Z H vs us Q I rv h;obtain⟨ρ,xs,c,W,rx,p⟩:=h;unfold xY su at p;split at p
 ·split at p
  ·rename_i bs hb;obtain⟨v,r,rfl,⟨a,ys,rfl,s1,r1⟩,hr⟩:=rx;cases hr;rw[Bo hb]at r1;cases r1.GR;exact adU hc pins s Z H _ us Q I rv ⟨a,bs,rfl,bN.of s1.1,p.here W rfl⟩
  ·exact p.elim
 ·exact p.elim
theorem adB(hc:X.calm=L:=by rfl):cP X (.builtin "max") (rN X.K sR):=by
 intro pins s Z H vs us Q I rv h;obtain⟨ρ,xs,c,W,rx,p⟩:=h;unfold sR at p;split at p
 ·obtain⟨v,r,rfl,hx,u,r',rfl,hu,hr⟩:=rx;cases hr;cases hx;cases hu;exact adN hc pins s Z H _ us Q I rv ⟨_,_,rfl,p.here W rfl⟩
 ·exact p.elim
theorem uB(hc:X.calm=L:=by rfl):cP X (.builtin "min") (rN X.K kh):=by
 intro pins s Z H vs us Q I rv h;obtain⟨ρ,xs,c,W,rx,p⟩:=h;unfold kh at p;split at p
 ·obtain⟨v,r,rfl,hx,u,r',rfl,hu,hr⟩:=rx;cases hr;cases hx;cases hu;exact adM hc pins s Z H _ us Q I rv ⟨_,_,rfl,p.here W rfl⟩
 ·exact p.elim
theorem qW:cP X (.type "tuple") (rN X.K gr):=by
 intro pins s Z H vs us Q I rv h;obtain⟨ρ,xs,c,W,rx,p⟩:=h;unfold gr at p;split at p
 ·rename_i x;obtain⟨v,r,rfl,hx,hr⟩:=rx;cases hr;split at p
  ·rename_i l hl;obtain⟨a,ys,rfl,sq,r⟩:=yS W hx hl;refine adI pins s Z H _ us Q I rv ⟨a,ys,rfl,?_⟩
   rcases sq with sq|sq
   ·exact .inl ⟨sq,zD W r p⟩
   ·refine .inr ⟨sq,?_⟩;cases x with
    |tup m=>cases hl;exact p.here W hx
    |lst m =>
     obtain⟨b,zs,e,s1,_⟩:=hx;cases e;exfalso
     rcases sq with sq|⟨o,its,n,hk,hcl,_⟩
     ·rcases sq with sq|⟨o,sq⟩<;>(rw[s1.1]at sq;cases sq)
     ·have:=I.bs a o (I.ok.mod.fT a o hk);rw[s1.1]at this;cases this.2
    |cD m =>
     exfalso;obtain⟨b,e,s1⟩:=hx;cases e;obtain⟨i1,_,pl,_⟩:=I.list s1.sql;obtain⟨i2,_,pt,_⟩:=I.tuple sq;obtain⟨o1,e1,c1,_⟩:=pl.isList;obtain⟨o2,e2,c2,_⟩:=pt;rw[e1]at e2;cases e2;rw[c1]at c2;exact absurd c2 (by decide)
    |ref k =>
     exfalso;obtain⟨b,e,s1,l1⟩:=hx;cases e;obtain⟨zs,hz⟩:=l1.lst
     rcases sq with sq|⟨o,its,n,hk,hcl,_⟩
     ·rcases sq with sq|⟨o,sq⟩<;>(rw[hz]at sq;cases sq)
     ·have:=I.bs a o (I.ok.mod.fT a o hk);rw[hz]at this;cases this.2
    |_=>cases hl
  ·exact p.elim
 ·exact p.elim
end
def uz(o a:af):af:=λe c=>(o e c).bind λx c=>match x with
 |.ref k=>(a e c).bind λy c=>match c[k]? with
  |some (.lst l)=>if l.length<Ξ/\noRef y=L then .ok .aE (c.set k (.lst (l++[y])))else .bad
  |_=>.bad
 |_=>.bad
theorem Mh{X:Cx}{o e:ν}{dO da:af}{apos cpos:Pos}(ho:aP X o dO) (ha:aP X e da)
  (hbase:RM o "append" X.env (eval o X.env)=eval o X.env:=by rfl)
  (hfew:((ω cpos (ε [e] X.env)).all (λx=>!x.1)&&(RA cpos (RB [] X.env)).all (λx=>x.1.isSome)
   && decide ([e].length+([]:List QX).length+(if([]:List QX).isEmpty then 0 else 1)<30))=L:=by exact pR rfl)
  (hline:(apos.endLine==cpos.line)=L:=by rfl) (hs:ε [e] X.env=(G,eval e X.env)::ε [] X.env:=by exact c9 rfl) (hplain:(ω cpos (ε [] X.env)).any (·.1)=G:=by exact fK rfl) :
  aP X (.Call (.Attribute o "append" apos) [e] [] cpos) (uz dO da) :=
 (p7 Tg PySem.F.slot_list_append PySem.F.type_list_append Zw ho (ic ha iN hs) hbase hfew hline hs hplain).imp λZ H Q h=>by
  obtain⟨ρ,e,c,W,V,p⟩:=h;refine⟨ρ,e,c,W,V,post.bind p λx c1 aJ H1 v _ W1 X1 r1 p1=>?_⟩
  cases x with
  |ref k =>
   obtain⟨a,rfl,ha,hL⟩:=r1;obtain⟨xs,hx⟩:=hL.lst;refine⟨.inl ⟨rfl,xs,bN.of hx⟩,aJ,e,c1,W1,V.mono W X1,post.bind p1 λy c2 bS H2 u _ W2 X2 r2 p2=>?_⟩
   split at p2
   ·rename_i l hl;split at p2
    ·rename_i hh;obtain⟨nr,ys,hy,rl⟩:=W2.eL k a _ (X2.pre k a ha) hl;refine⟨a,ys,u,rfl,rfl,hy,by rw[rl.length];exact hh.1,?_⟩
     refine p2 bS _ .aE (W2.write (X2.pre k a ha) (by rw[sN,nr];simp[bB,hh.2]) (rl.append ⟨u,[],rfl,r2,rfl⟩)) (Ext.write (X2.pre k a ha)) rfl
    ·exact p2.elim
   ·exact p2.elim
  |_=>exact p1.elim
section
variable (e:Ev) (c:aa) (a b d:af) (ta tb:ai) (s t:ah) (l:aj) (g:Gd) (gs:List D->Ev->aa->R Ev)
@[simp] theorem eS(i:Nat):ak i e c=match e[i]? with|some (Y d)=>.ok d c|_=>.bad:=rfl
@[simp] theorem jV(d:D):dC d e c=.ok d c:=rfl
@[simp] theorem gR(f:D->D->aa->R D):ay f a b e c=(a e c).bind λx c=>(b e c).bind λy c=>f x y c:=rfl
@[simp] theorem agQ(f:D->aa->R D):Be f a e c=(a e c).bind λx c=>f x c:=rfl
@[simp] theorem pD(f:List D->aa->R D):aF f l e c=(l e c).bind λxs c=>f xs c:=rfl
@[simp] theorem ae7(f g:D->D->aa->R D):oH f g a b d e c=(a e c).bind λx c=>(b e c).bind λy c=>(f x y c).bind λz c=>match z with
 |.bl L=>(d e c).bind λu c=>g y u c
 |.bl G=>.ok (.bl G) c
 |_=>.bad:=rfl
@[simp] theorem cI:au e c=.ok [] c:=rfl
@[simp] theorem cT:ao a l e c=(a e c).bind λx c=>(l e c).bind λxs c=>.ok (x::xs) c:=rfl
@[simp] theorem yt:bY l e c=(l e c).bind λxs c=>if xs.length<=Ξ then .ok (.tup xs) c else .bad:=rfl
@[simp] theorem yv:ff l e c=(l e c).bind λxs c=>if xs.length<=Ξ then .ok (.lst xs) c else .bad:=rfl
@[simp] theorem aeT:fW l e c=(l e c).bind λxs c=>if xs.length<=Ξ/\bB xs=L then .ok (.ref c.length) (c++[.lst xs])else .bad:=rfl
@[simp] theorem pF:aG a e c=(a e c).bind λx c=>match x with|.bl b=>.ok b c|_=>.bad:=rfl
@[simp] theorem aeG:ur a e c=(a e c).bind λx c=>match rR c x with|some b=>.ok b c|none=>.bad:=rfl
@[simp] theorem IZ:jO ta tb e c=(ta e c).bind λx c=>if x=L then tb e c else .ok G c:=rfl
@[simp] theorem agV:ee ta tb e c=(ta e c).bind λx c=>if x=L then .ok L c else tb e c:=rfl
@[simp] theorem CH:cH ta e c=(ta e c).bind λx c=>.ok (!x) c:=rfl
@[simp] theorem ahw:g4 a b e c=(a e c).bind λx c=>match x with|.bl k=>if k=L then b e c else .ok (.bl G) c|_=>.bad:=rfl
@[simp] theorem agU:oG a e c=(a e c).bind λx c=>match x with|.bl k=>.ok (.bl (!k)) c|_=>.bad:=rfl
@[simp] theorem lK:kE ta a b e c=(ta e c).bind λx c=>if x=L then a e c else b e c:=rfl
@[simp] theorem x_call(n:Nat) (m:List D->aa->R D):aH n m l e c=(l e c).bind λxs c=>if xs.length=n then m xs c else .bad:=rfl
@[simp] theorem aeN:bA e c=.ok (.nx e) c:=rfl
@[simp] theorem ae8:e7 e c=.bad:=rfl
@[simp] theorem pB:aC s t e c=(s e c).bind λf c=>match f with|.nx e=>t e c|f=>.ok f c:=rfl
@[simp] theorem pC:aQ a e c=(a e c).bind λx c=>.ok (.rt x) c:=rfl
@[simp] theorem yx:dg a e c=(a e c).bind λ_ c=>.ok (.nx e) c:=rfl
@[simp] theorem rM:aY ta s t e c=(ta e c).bind λx c=>if x=L then s e c else t e c:=rfl
@[simp] theorem pA(i:Nat):aN i a e c=(a e c).bind λx c=>.ok (.nx (e.set i (Y x))) c:=rfl
@[simp] theorem CK:jx a g e c=(a e c).bind λx c=>(g x e c).bind λe c=>.ok (.nx e) c:=rfl
@[simp] theorem ae2(i:Nat) (x:D):aB i x e c=.ok (e.set i (Y x)) c:=rfl
@[simp] theorem ae1:gZ [] e c=.ok e c:=rfl
@[simp] theorem ae3(x:D) (xs:List D):dj g gs (x::xs) e c=(g x e c).bind λe c=>gs xs e c:=rfl
@[simp] theorem ae0(n:Nat) (xs:List D):gG n gs (.tup xs) e c=if xs.length=n then gs xs e c else .bad:=rfl
@[simp] theorem CI(x:D):jL a b x e c=(a e c).bind λo c=>(b e c).bind λi c=>(pV o i x c).bind λ_ c=>.ok e c:=rfl
@[simp] theorem rO(sr:Ev->aa->R Src):bU sr g s e c=(sr e c).bind λq c=>cy q.stays g s q.items e c:=rfl
@[simp] theorem iB(n:Nat) (own:Bool) (xs:List D):bx n own s xs c=(s (cC n xs) c).bind λf c'=>match f with
 |.rt v=>cG own c.length v c'
 |.nx _=>cG own c.length .aE c'
 |_=>.bad:=rfl
@[simp] theorem aeI(n:Nat) (xs:List D):cC n xs=xs.map Y++τ (n-xs.length) O:=rfl
@[simp] theorem kO(sr:Ev->aa->R Src) (pick:List (Option Nat)):bg sr pick g ta a e c=(sr e c).bind λq c =>
 if q.items.length<Ξ then(bL q.stays g ta a q.items (f7 pick e) [] c).bind λl c=>.ok (.lst l) c else .bad:=rfl
@[simp] theorem yr:aT e c=.ok L c:=rfl
@[simp] theorem ahv(i j:Int):bZ (.int i) (.int j) c=.ok (.int (i+j)) c:=rfl
@[simp] theorem ae9(x y:List D):bZ (.tup x) (.tup y) c=if x.length≠0/\x.length+y.length<=Ξ then .ok (.tup (x++y)) c else .bad:=rfl
@[simp] theorem aeH(i j:Int):fZ (.int i) (.int j) c=.ok (.int (i-j)) c:=rfl
theorem IX(i j:Int):gW (.int i) (.int j) c=if(-(2^64)<i/\i<2^64)\/(-(2^64)<j/\j<2^64)then .ok (.int (i*j)) c else .bad:=rfl
theorem ahy(i j:Int):mE (.int i) (.int j) c=if 0<j/\j<1073741824 then .ok (.int (i/j)) c else .bad:=rfl
theorem agT(i j:Int):gC (.int i) (.int j) c=if 0<j then .ok (.int (i % j)) c else .bad:=rfl
theorem abh(i j:Int):sA (.int i) (.int j) c=if 0<=j/\j<=1000000/\i.natAbs<2^64 then .ok (.int (i^j.toNat)) c else .bad:=rfl
@[simp] theorem ae6(p:Int->Int->Bool) (i j:Int):qV p (.int i) (.int j) c=.ok (.bl (p i j)) c:=rfl
@[simp] theorem ahz(i j:Int):cu (.int i) (.int j) c=.ok (.bl (decide (i=j))) c:=rfl
@[simp] theorem aeP(i j:Int):cE (.int i) (.int j) c=.ok (.bl (!decide (i=j))) c:=rfl
@[simp] theorem ae5(i j:Bool):cu (.bl i) (.bl j) c=.ok (.bl (decide (i=j))) c:=rfl
@[simp] theorem aeQ(i j:Bool):cE (.bl i) (.bl j) c=.ok (.bl (!decide (i=j))) c:=rfl
@[simp] theorem ae4(i j:Str):cu (.str i) (.str j) c=.ok (.bl (decide (i=j))) c:=rfl
@[simp] theorem aeO(i j:Str):cE (.str i) (.str j) c=.ok (.bl (!decide (i=j))) c:=rfl
@[simp] theorem x_is(x:D):l6 x .aE c=.ok (.bl (gO x)) c:=rfl
@[simp] theorem aeW(x:D):qw x .aE c=.ok (.bl (!gO x)) c:=rfl
@[simp] theorem afA:gO .aE=L:=rfl
@[simp] theorem n_bl(b:Bool):gO (.bl b)=G:=rfl
@[simp] theorem afC(b:Int):gO (.int b)=G:=rfl
@[simp] theorem afz(b:Str):gO (.str b)=G:=rfl
@[simp] theorem afy(b:List D):gO (.tup b)=G:=rfl
@[simp] theorem afB(b:List D):gO (.lst b)=G:=rfl
@[simp] theorem yw(xs:List D) (i:Int):aD (.tup xs) (.int i) c=match dY xs i with|some d=>.ok d c|none=>.bad:=rfl
@[simp] theorem iX(xs:List D) (i:Int):aD (.lst xs) (.int i) c=match dY xs i with|some d=>.ok d c|none=>.bad:=rfl
@[simp] theorem IY(xs:List D):aS [.tup xs] c=.ok (.int xs.length) c:=rfl
@[simp] theorem ahr(xs:List D):aS [.lst xs] c=.ok (.int xs.length) c:=rfl
@[simp] theorem aeV(xs:List Int):aS [.cD xs] c=.ok (.int xs.length) c:=by
 show R.ok _ c=_;rw[x8]
@[simp] theorem aeS(i j:Int):sR [.int i,.int j] c=.ok (.int (if j>i then j else i)) c:=rfl
@[simp] theorem aeR(i j:Int):kh [.int i,.int j] c=.ok (.int (if j<i then j else i)) c:=rfl
@[simp] theorem afl:noRef .aE=L:=rfl
@[simp] theorem r_bl(b:Bool):noRef (.bl b)=L:=rfl
@[simp] theorem afn(b:Int):noRef (.int b)=L:=rfl
@[simp] theorem afk(b:Str):noRef (.str b)=L:=rfl
@[simp] theorem ajZ(b:List D):noRef (.tup b)=bB b:=by simp[noRef]
@[simp] theorem ai9(b:List D):noRef (.lst b)=bB b:=by simp[noRef]
@[simp] theorem afm:bB []=L:=by simp[bB]
@[simp] theorem afo(d:D) (b:List D):bB (d::b)=(noRef d&&bB b):=by simp[bB]
@[simp] theorem q_bl(own:Bool) (n:Nat) (b:Bool):cG own n (.bl b) c=.ok (.bl b) (c.take n):=rfl
@[simp] theorem aft(own:Bool) (n:Nat):cG own n .aE c=.ok .aE (c.take n):=rfl
@[simp] theorem afv(own:Bool) (n:Nat) (b:Int):cG own n (.int b) c=.ok (.int b) (c.take n):=rfl
@[simp] theorem afs(own:Bool) (n:Nat) (b:Str):cG own n (.str b) c=.ok (.str b) (c.take n):=rfl
@[simp] theorem afr(own:Bool) (n:Nat) (b:List D):cG own n (.tup b) c=if bB b=L then .ok (.tup b) (c.take n)else .bad:=by
 show(if noRef (.tup b)=L then R.ok (D.tup b) (c.take n)else R.bad)=_
 rw[ajZ]
@[simp] theorem afu(own:Bool) (n:Nat) (b:List D):cG own n (.lst b) c=if bB b=L then .ok (.lst b) (c.take n)else .bad:=by
 show(if noRef (.lst b)=L then R.ok (D.lst b) (c.take n)else R.bad)=_
 rw[ai9]
@[simp] theorem rL:bQ l e c=(l e c).bind λxs c=>match xs with
 |[.int j]=>if -(2^62)<=j/\j<2^62 then .ok ⟨aW 0 j,λ_=>True⟩ c else .bad
 |_=>.bad:=rfl
@[simp] theorem agS:fM l e c=(l e c).bind λxs c=>match xs with
 |[.int i,.int j]=>if -(2^62)<=i/\i<2^62/\-(2^62)<=j/\j<2^62 then .ok ⟨aW i j,λ_=>True⟩ c else .bad
 |_=>.bad:=rfl
@[simp] theorem aeK:cO a e c=(a e c).bind λx c=>match x with
 |.lst l=>.ok ⟨l,λ_=>True⟩ c
 |.cD l=>.ok ⟨l.map D.int,λ_=>True⟩ c
 |.ref k=>match c[k]? with
  |some (.lst l)=>.ok ⟨l,λc=>c[k]? = Y (.lst l)⟩ c
  |_=>.bad
 |_=>.bad:=rfl
@[simp] theorem yu:fy a e c=(a e c).bind λx c=>match x with
 |.tup l=>.ok ⟨l,λ_=>True⟩ c
 |_=>.bad:=rfl
end
section
variable (g:Gd) (s:ah) (t:ai) (a:af) (e:Ev) (c:aa)
@[simp] theorem acA:cy (λ_=>True) g s [] e c=.ok (.nx e) c:=by simp[cy]
@[simp] theorem kr(x:D) (xs:List D):cy (λ_=>True) g s (x::xs) e c=(g x e c).bind λe c=>(s e c).bind λf c=>match f with
   |.nx e=>cy (λ_=>True) g s xs e c
   |.ct e=>cy (λ_=>True) g s xs e c
   |.bk e=>.ok (.nx e) c
   |.rt d=>.ok (.rt d) c:=by
 exact if_pos trivial
@[simp] theorem agn(acc:List D):bL (λ_=>True) g t a [] e acc c=.ok acc c:=by simp[bL]
@[simp] theorem mH(x:D) (xs acc:List D):bL (λ_=>True) g t a (x::xs) e acc c=(g x e c).bind λe c=>(t e c).bind λk c=>if k=L then(a e c).bind λy c=>bL (λ_=>True) g t a xs e (acc++[y]) c else bL (λ_=>True) g t a xs e acc c:=by
 exact if_pos trivial
end
@[simp] theorem gz{α:Type}(a:α) (l:List α):(a::l)[0]? = Y a:=rfl
@[simp] theorem gs{α:Type}(a:α) (l:List α) (n:Nat):(a::l)[n+1]? = l[n]?:=rfl
@[simp] theorem iK{α:Type}(a:α) (l:List α):dY (a::l) 0=Y a:=by simp[dY,ig]
@[simp] theorem Qu{α:Type}(a b:α) (l:List α):dY (a::b::l) 1=Y b:=by
 unfold dY ig;rw[if_pos (by decide),if_pos (by simp;omega)]
 rfl
@[simp] theorem at2{α:Type}(a b d:α) (l:List α):dY (a::b::d::l) 2=Y d:=by
 unfold dY ig;rw[if_pos (by decide),if_pos (by simp;omega)]
 rfl
@[simp] theorem at3{α:Type}(a b d f:α) (l:List α):dY (a::b::d::f::l) 3=Y f:=by
 unfold dY ig;rw[if_pos (by decide),if_pos (by simp;omega)]
 rfl
@[simp] theorem at4{α:Type}(a b d f h:α) (l:List α):dY (a::b::d::f::h::l) 4=Y h:=by
 unfold dY ig;rw[if_pos (by decide),if_pos (by simp;omega)]
 rfl
theorem fH{n:Nat}(h:n<=1000):n<=Ξ:=Q3 h (by decide)
@[simp] theorem sl0:(0:Nat)<=Ξ:=RL _
@[simp] theorem sl1:(1:Nat)<=Ξ:=by decide
@[simp] theorem sl2:(2:Nat)<=Ξ:=by decide
@[simp] theorem sl3:(3:Nat)<=Ξ:=by decide
@[simp] theorem sl4:(4:Nat)<=Ξ:=by decide
@[simp] theorem sl5:(5:Nat)<=Ξ:=by decide
@[simp] theorem sl6:(6:Nat)<=Ξ:=by decide
@[simp] theorem st0:(0:Nat)<Ξ:=by decide
@[simp] theorem st1:(1:Nat)<Ξ:=by decide
@[simp] theorem st2:(2:Nat)<Ξ:=by decide
@[simp] theorem st3:(3:Nat)<Ξ:=by decide
@[simp] theorem Kd:(4:Nat)<Ξ:=by decide
@[simp] theorem pT:(5:Nat)<Ξ:=by decide
@[simp] theorem af3(i:Int) (c:aa):bT [.int i,.ty "int"] c=.ok (.bl L) c:=rfl
@[simp] theorem af4(i:Int) (c:aa):bT [.int i,.ty "bool"] c=.ok (.bl G) c:=rfl
@[simp] theorem af1(i:Int) (c:aa):bT [.int i,.ty "str"] c=.ok (.bl G) c:=rfl
@[simp] theorem af0(i:Int) (c:aa):bT [.int i,.ty "tuple"] c=.ok (.bl G) c:=rfl
@[simp] theorem af2(i:Int) (c:aa):bT [.int i,.ty "list"] c=.ok (.bl G) c:=rfl
@[simp] theorem af8(i:Bool) (c:aa):bT [.bl i,.ty "int"] c=.ok (.bl L) c:=rfl
@[simp] theorem af9(i:Bool) (c:aa):bT [.bl i,.ty "bool"] c=.ok (.bl L) c:=rfl
@[simp] theorem af6(i:Bool) (c:aa):bT [.bl i,.ty "str"] c=.ok (.bl G) c:=rfl
@[simp] theorem af5(i:Bool) (c:aa):bT [.bl i,.ty "tuple"] c=.ok (.bl G) c:=rfl
@[simp] theorem af7(i:Bool) (c:aa):bT [.bl i,.ty "list"] c=.ok (.bl G) c:=rfl
@[simp] theorem afO(i:Str) (c:aa):bT [.str i,.ty "int"] c=.ok (.bl G) c:=rfl
@[simp] theorem afP(i:Str) (c:aa):bT [.str i,.ty "bool"] c=.ok (.bl G) c:=rfl
@[simp] theorem afM(i:Str) (c:aa):bT [.str i,.ty "str"] c=.ok (.bl L) c:=rfl
@[simp] theorem afL(i:Str) (c:aa):bT [.str i,.ty "tuple"] c=.ok (.bl G) c:=rfl
@[simp] theorem afN(i:Str) (c:aa):bT [.str i,.ty "list"] c=.ok (.bl G) c:=rfl
@[simp] theorem afT(c:aa):bT [.aE,.ty "int"] c=.ok (.bl G) c:=rfl
@[simp] theorem afU(c:aa):bT [.aE,.ty "bool"] c=.ok (.bl G) c:=rfl
@[simp] theorem afR(c:aa):bT [.aE,.ty "str"] c=.ok (.bl G) c:=rfl
@[simp] theorem afQ(c:aa):bT [.aE,.ty "tuple"] c=.ok (.bl G) c:=rfl
@[simp] theorem afS(c:aa):bT [.aE,.ty "list"] c=.ok (.bl G) c:=rfl
@[simp] theorem afJ(i:List D) (c:aa):bT [.tup i,.ty "int"] c=.ok (.bl G) c:=rfl
@[simp] theorem afK(i:List D) (c:aa):bT [.tup i,.ty "bool"] c=.ok (.bl G) c:=rfl
@[simp] theorem afH(i:List D) (c:aa):bT [.tup i,.ty "str"] c=.ok (.bl G) c:=rfl
@[simp] theorem afG(i:List D) (c:aa):bT [.tup i,.ty "tuple"] c=.ok (.bl L) c:=rfl
@[simp] theorem afI(i:List D) (c:aa):bT [.tup i,.ty "list"] c=.ok (.bl G) c:=rfl
@[simp] theorem afY(i:List D) (c:aa):bT [.lst i,.ty "int"] c=.ok (.bl G) c:=rfl
@[simp] theorem afZ(i:List D) (c:aa):bT [.lst i,.ty "bool"] c=.ok (.bl G) c:=rfl
@[simp] theorem afW(i:List D) (c:aa):bT [.lst i,.ty "str"] c=.ok (.bl G) c:=rfl
@[simp] theorem afV(i:List D) (c:aa):bT [.lst i,.ty "tuple"] c=.ok (.bl G) c:=rfl
@[simp] theorem afX(i:List D) (c:aa):bT [.lst i,.ty "list"] c=.ok (.bl L) c:=rfl
section
variable (c:aa) {i j:Int}
theorem ES(h1:-18446744073709551616<i) (h2:i<18446744073709551616):gW (.int i) (.int j) c=.ok (.int (i*j)) c:=by
 rw[IX,if_pos];exact .inl ⟨by omega,by omega⟩
theorem mul_r(h1:-18446744073709551616<j) (h2:j<18446744073709551616):gW (.int i) (.int j) c=.ok (.int (i*j)) c:=by
 rw[IX,if_pos];exact .inr ⟨by omega,by omega⟩
theorem xo(h1:0<j) (h2:j<1073741824):mE (.int i) (.int j) c=.ok (.int (i/j)) c:=by
 rw[ahy,if_pos ⟨h1,h2⟩]
theorem nM(h1:0<j):gC (.int i) (.int j) c=.ok (.int (i % j)) c:=by
 rw[agT,if_pos h1]
theorem LS(h1:0<=j) (h2:j<=1000000) (h3:i.natAbs<18446744073709551616):sA (.int i) (.int j) c=.ok (.int (i^j.toNat)) c:=by
 rw[abh,if_pos ⟨h1,h2,h3⟩]
end
section
variable {g:Gd}{s:ah}{t:ai}{a:af}
theorem xC{c:aa}(inv:Ev->Prop) (F:D->Bool) (ξ:D->D):∀(items:List D) (e:Ev) (acc:List D),inv e ->
  (∀x∈items,∀e,inv e->∃e',g x e c=.ok e' c/\inv e'/\t e' c=.ok (F x) c/\(F x=L->a e' c=.ok (ξ x) c)) ->
  bL (λ_=>True) g t a items e acc c=.ok (acc++(items.filter F).map ξ) c
 |[],e,acc,_,_=>by simp
 |x::xs,e,acc,hi,h=>by
  obtain⟨e',h1,h2,h3,h4⟩:=h x Rk e hi;rw[mH,h1,R.aL,h3,R.aL];cases hF:F x with
  |true =>
   rw[if_pos rfl,h4 hF,R.aL,xC inv F ξ xs e' _ h2 λy hy=>h y (RP _ hy)]
   simp[hF]
  |false =>
   rw[if_neg QY,xC inv F ξ xs e' _ h2 λy hy=>h y (RP _ hy)]
   simp[hF]
theorem O4(inv:Ev->Prop):∀(items:List D) (e:Ev) (c:aa),inv e ->
  (∀x∈items,∀e c,inv e->∃e' e'' c' c'',g x e c=.ok e' c'/\s e' c'=.ok (.nx e'') c''/\inv e'') ->
  ∃e' c',inv e'/\cy (λ_=>True) g s items e c=.ok (.nx e') c'
 |[],e,c,hi,_=>⟨e,c,hi,by simp⟩
 |x::xs,e,c,hi,h=>by
  obtain⟨e',e'',c',c'',h1,h2,h3⟩:=h x Rk e c hi;obtain⟨e3,c3,i3,h4⟩:=O4 inv xs e'' c'' h3 λy hy=>h y (RP _ hy)
  exact⟨e3,c3,i3,by rw[kr,h1,R.aL,h2];exact h4⟩
theorem O3(inv:Ev->aa->Prop):∀(items:List D) (e:Ev) (c:aa),inv e c ->
  (∀x∈items,∀e c,inv e c->∃e' e'' c' c'',g x e c=.ok e' c'/\s e' c'=.ok (.nx e'') c''/\inv e'' c'') ->
  ∃e' c',inv e' c'/\cy (λ_=>True) g s items e c=.ok (.nx e') c'
 |[],e,c,hi,_=>⟨e,c,hi,by simp⟩
 |x::xs,e,c,hi,h=>by
  obtain⟨e',e'',c',c'',h1,h2,h3⟩:=h x Rk e c hi;obtain⟨e3,c3,i3,h4⟩:=O3 inv xs e'' c'' h3 λy hy=>h y (RP _ hy)
  exact⟨e3,c3,i3,by rw[kr,h1,R.aL,h2];exact h4⟩
end
theorem jc{lo hi:Int}{d:D}(h:d∈aW lo hi):∃i:Int,d=.int i/\lo<=i/\i<hi:=by
 obtain⟨k,hk,rfl⟩:=x6.mp h;have:=H8.mp hk;exact⟨lo+k,rfl,by omega,by omega⟩
theorem g9{lo hi:Int}:(aW lo hi).length=(hi-lo).toNat:=by simp[aW]
def fJ(c:aa):D->Option (List D)
 |.lst l=>Y l
 |.ref k=>match c[k]? with
  |some (.lst l)=>Y l
  |_=>O
 |_=>O
def kI:D->D->aa->R D:=λx y c=>match fJ c x,fJ c y with
 |some l,Y m=>if l.length+m.length<=Ξ then .ok (.lst (l++m)) c else .bad
 |_,_=>.bad
def cutD(xs:List D) (lo hi:Option Int):List D:=(xs.drop (HT.bJ xs.length 0 lo)).take (HT.bJ xs.length xs.length hi-HT.bJ xs.length 0 lo)
def uv(a:af) (lo hi:Ev->aa->R (Option Int)):af:=λe c=>(a e c).bind λx c=>(lo e c).bind λl c=>(hi e c).bind λu c=>match fJ c x with
 |some xs=>.ok (.lst (cutD xs l u)) c
 |none=>.bad
def mG:Ev->aa->R (Option Int):=λ_ c=>.ok O c
def mF(a:af):Ev->aa->R (Option Int):=λe c=>(a e c).bind λx c=>match x with
 |.int i=>.ok (Y i) c
 |_=>.bad
section
variable {X:Cx}{K:θ}{ρ ρ':List J}{H H':Hp}{c c':aa}
theorem tO{x:D}{v:V}{l:List D}(W:Wd K ρ H c) (rx:Rel K ρ H x v) (h:fJ c x=Y l):∃a xs,v=.ref a/\H a=Y (.lst xs)/\aK K ρ H l xs:=by
 cases x with
 |lst m =>
  cases h;obtain⟨a,xs,e,s,r⟩:=rx;exact⟨a,xs,e,s.1,r⟩
 |ref k =>
  obtain⟨a,e,s,_⟩:=rx;unfold fJ at h;dsimp only at h;cases hc:c[k]? with
  |none=>rw[hc]at h;cases h
  |some cl =>
   cases cl with
   |lst m =>
    rw[hc]at h;cases h;obtain⟨_,xs,hx,r⟩:=W.eL k a _ s hc;exact⟨a,xs,e,hx,r⟩
   |kd m=>rw[hc]at h;cases h
 |_=>cases h
theorem MM:bC X (binaryOp .Add) (r2 X.K kI):=by
 intro pins s Z H v u vv uu Q I rv ru h;obtain⟨ρ,x,y,c,W,rx,ry,p⟩:=h;unfold kI at p;split at p
 ·rename_i l m hl hm;split at p
  ·rename_i hz;obtain⟨a,xs,rfl,ha,ra⟩:=tO W rx hl;obtain⟨b,ys,rfl,hb,rb⟩:=tO W ry hm;exact Xy pins s Z H _ _ vv uu Q I rv ru ⟨a,b,xs,ys,rfl,rfl,ha,hb,by rw[ra.length,rb.length];exact hz,qg W (ra.append rb) p⟩
  ·exact p.elim
 ·exact p.elim
abbrev uN(X:Cx) (e:Option ν) (d:Ev->aa->R (Option Int)):Prop:=PO X e (tD X.K (λ_ _ a b=>a=b) d)
theorem PO.imp{e:Option ν}{t t':TO}(h:PO X e t) (i:∀Z H Q,t' Z H Q->t Z H Q):PO X e t':=λpins s Z H Q I q=>h pins s Z H Q I (i _ _ _ q)
theorem zf:uN X O mG:=akj.imp λZ H Q h=>by
 obtain⟨ρ,e,c,W,Vv,p⟩:=h;exact p.here W rfl
theorem ze{e:ν}{d:af}(h:aP X e d):uN X (Y e) (mF d):=(akk h).imp λZ H Q h=>by
 obtain⟨ρ,e,c,W,Vv,p⟩:=h;refine⟨ρ,e,c,W,Vv,post.bind p λx c1 aJ H1 v _ W1 X1 r1 p1=>?_⟩
 cases x with
 |int i=>cases r1;exact⟨i,rfl,p1.here W1 rfl⟩
 |_=>exact p1.elim
theorem PJ{l:List D}{xs:List V}{lo hi:Option Int}(r:aK K ρ H l xs):aK K ρ H (cutD l lo hi) (oM xs lo hi):=by
 unfold cutD oM;rw[r.length];exact(r.drop _).take _
theorem Mc{e:ν}{lo hi:Option ν}{p2 pos:Pos}{da:af}{dl dh:Ev->aa->R (Option Int)}(he:aP X e da) (hl:uN X lo dl) (hh:uN X hi dh):aP X (.Subscript e (.Slice lo hi O p2) pos) (uv da dl dh) :=
 (L4 aiM he hl hh).imp λZ H Q h=>by
  obtain⟨ρ,e,c,W,Vv,p⟩:=h;refine⟨ρ,e,c,W,Vv,post.bind p λx c1 aJ H1 v _ W1 X1 r1 p1=>⟨aJ,e,c1,W1,Vv.mono W X1,post.bind p1 λl c2 bS H2 l' _ W2 X2 r2 p2=>⟨bS,e,c2,W2,(Vv.mono W X1).mono W1 X2,post.bind p2 λu c3 jU H3 u' _ W3 X3 r3 p3=>?_⟩⟩⟩
  cases r2;cases r3;split at p3
  ·rename_i xs hs;obtain⟨a,ys,rfl,ha,r⟩:=tO W3 (Rel.mono W1 (X2.trans X3) _ _ r1) hs;exact⟨a,ys,rfl,bN.of ha,qg W3 (PJ r) p3⟩
  ·exact p3.elim
end
section
variable (e:Ev) (c:aa) (a:af) (lo hi:Ev->aa->R (Option Int)) (l:aj)
@[simp] theorem x_sl:uv a lo hi e c=(a e c).bind λx c=>(lo e c).bind λl c=>(hi e c).bind λu c=>match fJ c x with
 |some xs=>.ok (.lst (cutD xs l u)) c
 |none=>.bad:=rfl
@[simp] theorem aeM:mG e c=.ok O c:=rfl
@[simp] theorem aeL:mF a e c=(a e c).bind λx c=>match x with
 |.int i=>.ok (Y i) c
 |_=>.bad:=rfl
@[simp] theorem afE(x:List D):fJ c (.lst x)=Y x:=rfl
end
mutual
def cZ:D->Option RX
 |.aE=>Y .none
 |.bl b=>Y (.bool b)
 |.int i=>Y (.int i)
 |.str x=>if PyData.strOk x=L then Y (.str x)else O
 |.tup l=>match fc l with
  |some r=>Y (.tuple r)
  |none=>O
 |.lst l=>match fc l with
  |some r=>Y (.list r)
  |none=>O
 |.ty _=>O
 |.ref _=>O
 |.cD _=>O
 |.fn _ _=>O
 |.exc _=>O
 |.iH=>O
 |.dct _=>O
 |.eG _=>O
 |.cS _ _=>O
 |.dX _ _=>O
 |.lam _ _ _ _=>O
def fc:List D->Option (List RX)
 |[]=>Y []
 |d::l=>match cZ d,fc l with
  |some a,Y r=>Y (a::r)
  |_,_=>O
end
def fL(c:aa):D->Option RX
 |.ref k=>match c[k]? with
  |some (.lst l)=>match fc l with
   |some r=>Y (.list r)
   |none=>O
  |_=>O
 |d=>cZ d
def kB:D->D->aa->R D:=λx y c=>match fL c x,fL c y with
 |some p,Y q=>if p.depth<=64/\q.depth<=64 then .ok (.bl (p.eqv q)) c else .bad
 |_,_=>.bad
def kY:D->D->aa->R D:=λx y c=>match fL c x,fL c y with
 |some p,Y q=>if p.depth<=64/\q.depth<=64 then .ok (.bl (!p.eqv q)) c else .bad
 |_,_=>.bad
def inD:D->D->aa->R D:=λx y c=>match fL c x,fL c y with
 |some p,Y (.list ys)=>if p.depth<=62 then .ok (.bl (ys.any λz=>z.eqv p)) c else .bad
 |some p,Y (.tuple ys)=>if p.depth<=62 then .ok (.bl (ys.any λz=>z.eqv p)) c else .bad
 |_,_=>.bad
def kX:D->D->aa->R D:=λx y c=>match fL c x,fL c y with
 |some p,Y (.list ys)=>if p.depth<=62 then .ok (.bl (!ys.any λz=>z.eqv p)) c else .bad
 |some p,Y (.tuple ys)=>if p.depth<=62 then .ok (.bl (!ys.any λz=>z.eqv p)) c else .bad
 |_,_=>.bad
section
variable {X:Cx}{pins:List (J×Obj)}{Z:St}{ρ:List J}{H:Hp}{s:Ψ}{c:aa}
mutual
theorem gw(I:Inv X pins Z H s):∀(d:D) (v:V) (u:S) (p:RX),Rel X.K ρ H d v->RelV v u->cZ d=Y p->(∃as,Reads s.heap u p as)/\p.canLay0=L
 |.aE,v,u,p,r,ru,e=>by
  cases r;cases ru;cases e;exact⟨⟨_,.none⟩,by simp[PyData.canLay0]⟩
 |.bl b,v,u,p,r,ru,e=>by
  cases r;cases ru;cases e;exact⟨⟨_,.bool b⟩,by simp[PyData.canLay0]⟩
 |.int i,v,u,p,r,ru,e=>by
  cases r;obtain⟨t,rfl⟩:=ru;cases e;exact⟨⟨_,.int i t⟩,by simp[PyData.canLay0]⟩
 |.str x,v,u,p,r,ru,e=>by
  cases r;obtain⟨t,rfl⟩:=ru;unfold cZ at e;split at e
  ·rename_i hx;cases e;exact⟨⟨_,.str x t⟩,by simpa[PyData.canLay0]using hx⟩
  ·cases e
 |.tup l,v,u,p,r,ru,e=>by
  obtain⟨a,xs,rfl,ha,rs⟩:=r;cases ru;unfold cZ at e;split at e
  ·rename_i q hq;cases e;obtain⟨its,vs,⟨o,h1,h2,n,h3⟩,_⟩:=I.tuple (ck.of ha);obtain⟨⟨as,ra⟩,hc⟩:=vC I l xs its q rs vs hq;exact⟨⟨_,.tuple h1 h2 h3 (by simpa using ra)⟩,by simpa[PyData.canLay0]using hc⟩
  ·cases e
 |.lst l,v,u,p,r,ru,e=>by
  obtain⟨a,xs,rfl,ha,rs⟩:=r;cases ru;unfold cZ at e;split at e
  ·rename_i q hq;cases e;obtain⟨its,vs,pl,_⟩:=I.list (bN.of ha.1);obtain⟨o,h1,h2,n,h3⟩:=pl.isList;obtain⟨⟨as,ra⟩,hc⟩:=vC I l xs its q rs vs hq;exact⟨⟨_,.list h1 h2 h3 (by simpa using ra)⟩,by simpa[PyData.canLay0]using hc⟩
  ·cases e
 |.ty _,v,u,p,r,ru,e=>by simp[cZ]at e
 |.ref _,v,u,p,r,ru,e=>by simp[cZ]at e
 |.cD _,v,u,p,r,ru,e=>by simp[cZ]at e
 |.fn _ _,v,u,p,r,ru,e=>by simp[cZ]at e
 |.exc _,v,u,p,r,ru,e=>by simp[cZ]at e
 |.iH,v,u,p,r,ru,e=>by simp[cZ]at e
 |.dct _,v,u,p,r,ru,e=>by simp[cZ]at e
 |.eG _,v,u,p,r,ru,e=>by simp[cZ]at e
 |.cS _ _,v,u,p,r,ru,e=>by simp[cZ]at e
 |.dX _ _,v,u,p,r,ru,e=>by simp[cZ]at e
 |.lam _ _ _ _,v,u,p,r,ru,e=>by simp[cZ]at e
theorem vC(I:Inv X pins Z H s):∀(l:List D) (vs:List V) (us:List S) (ps:List RX),aK X.K ρ H l vs->Vals vs us->fc l=Y ps->(∃as,ReadsAll s.heap us ps as)/\PyData.canLayAll0 ps=L
 |[],vs,us,ps,r,ru,e=>by
  cases r;cases ru;cases e;exact⟨⟨_,.nil⟩,by simp[PyData.canLayAll0]⟩
 |d::l,vs,us,ps,r,ru,e=>by
  obtain⟨x,xs,rfl,r1,r2⟩:=r;cases ru with
  |cons q1 q2 =>
   unfold fc at e;split at e
   ·rename_i a r e1 e2;cases e;obtain⟨⟨as,ra⟩,ca⟩:=gw I d x _ a r1 q1 e1;obtain⟨⟨bs,rb⟩,cb⟩:=vC I l xs _ r r2 q2 e2;exact⟨⟨_,.cons ra rb⟩,by simp[PyData.canLayAll0,ca,cb]⟩
   ·cases e
end
theorem jz(I:Inv X pins Z H s) (W:Wd X.K ρ H c) {d:D}{v:V}{u:S}{p:RX}(r:Rel X.K ρ H d v) (ru:RelV v u) (e:fL c d=Y p):(∃as,Reads s.heap u p as)/\p.canLay0=L:=by
 cases d with
 |ref k =>
  unfold fL at e;dsimp only at e;cases hc:c[k]? with
  |none=>rw[hc]at e;cases e
  |some cl =>
   cases cl with
   |lst l =>
    rw[hc]at e;dsimp only at e;split at e
    ·rename_i q hq;cases e;obtain⟨a,rfl,s1,_⟩:=r;cases ru;obtain⟨_,xs,hx,rs⟩:=W.eL k a _ s1 hc;obtain⟨its,vs,pl,_⟩:=I.list (bN.of hx);obtain⟨o,h1,h2,n,h3⟩:=pl.isList;obtain⟨⟨as,ra⟩,hc⟩:=vC I l xs its q rs vs hq;exact⟨⟨_,.list h1 h2 h3 (by simpa using ra)⟩,by simpa[PyData.canLay0]using hc⟩
    ·cases e
   |kd l=>rw[hc]at e;cases e
 |aE=>exact gw I _ v u p r ru e
 |bl b=>exact gw I _ v u p r ru e
 |int b=>exact gw I _ v u p r ru e
 |str b=>exact gw I _ v u p r ru e
 |tup b=>exact gw I _ v u p r ru e
 |lst b=>exact gw I _ v u p r ru e
 |ty b=>exact gw I _ v u p r ru e
 |cD b=>exact gw I _ v u p r ru e
 |fn b n=>exact gw I _ v u p r ru e
 |exc b=>exact gw I _ v u p r ru e
 |dct b=>exact gw I _ v u p r ru e
 |eG a=>exact gw I _ v u p r ru e
 |cS a b=>exact gw I _ v u p r ru e
 |dX a b=>exact gw I _ v u p r ru e
 |iH=>exact gw I _ v u p r ru e
 |lam k y ns l=>exact gw I _ v u p r ru e
theorem YK(hu:X.A.units+64<QS):bC X (compareOp .Eq) (r2 X.K kB):=by
 intro pins s Z H v u vv uu Q I rv ru h;obtain⟨ρ,x,y,c,W,rx,ry,p⟩:=h;unfold kB at p;split at p
 ·rename_i a b ha hb;split at p
  ·rename_i hd;obtain⟨⟨as,ra⟩,ca⟩:=jz I W rx rv ha;obtain⟨⟨bs,rb⟩,cb⟩:=jz I W ry ru hb;exact PySem.SeqAt.compareEq_shaped ra rb (by simp[PySem.SeqAt.shaped,ca,hd.1]) (by simp[PySem.SeqAt.shaped,cb,hd.2]) hu ⟨.bl _,H,I,rfl,p.here W rfl⟩
  ·exact p.elim
 ·exact p.elim
theorem MJ(hu:X.A.units+64<QS):bC X (compareOp .NotEq) (r2 X.K kY):=by
 intro pins s Z H v u vv uu Q I rv ru h;obtain⟨ρ,x,y,c,W,rx,ry,p⟩:=h;unfold kY at p;split at p
 ·rename_i a b ha hb;split at p
  ·rename_i hd;obtain⟨⟨as,ra⟩,ca⟩:=jz I W rx rv ha;obtain⟨⟨bs,rb⟩,cb⟩:=jz I W ry ru hb;exact PySem.SeqAt.compareNe_shaped ra rb (by simp[PySem.SeqAt.shaped,ca,hd.1]) (by simp[PySem.SeqAt.shaped,cb,hd.2]) hu ⟨.bl _,H,I,rfl,p.here W rfl⟩
  ·exact p.elim
 ·exact p.elim
theorem t6{A:ψ}{p:RX}{ys:List RX}(hu:A.units+64<QS) (hd:p.depth<=62):A.units+1+min (PyData.depthAll ys) p.depth<QS:=by
 omega
theorem j6(hu:X.A.units+64<QS):bC X (compareOp .In) (r2 X.K inD):=by
 intro pins s Z H v u vv uu Q I rv ru h;obtain⟨ρ,x,y,c,W,rx,ry,p⟩:=h;unfold inD at p;split at p
 ·rename_i a ys ha hb;split at p
  ·rename_i hd;obtain⟨⟨as,ra⟩,ca⟩:=jz I W rx rv ha;obtain⟨⟨bs,rb⟩,cb⟩:=jz I W ry ru hb;exact PySem.SeqAt.in_list_reads rb ra (by simpa[PyData.canLay0]using cb) ca (t6 hu hd) ⟨.bl _,H,I,rfl,p.here W rfl⟩
  ·exact p.elim
 ·rename_i a ys ha hb;split at p
  ·rename_i hd;obtain⟨⟨as,ra⟩,ca⟩:=jz I W rx rv ha;obtain⟨⟨bs,rb⟩,cb⟩:=jz I W ry ru hb;exact VL rb ra (by simpa[PyData.canLay0]using cb) ca (t6 hu hd) ⟨.bl _,H,I,rfl,p.here W rfl⟩
  ·exact p.elim
 ·exact p.elim
theorem Ew(hu:X.A.units+64<QS):bC X (compareOp .NotIn) (r2 X.K kX):=by
 intro pins s Z H v u vv uu Q I rv ru h;obtain⟨ρ,x,y,c,W,rx,ry,p⟩:=h;unfold kX at p;split at p
 ·rename_i a ys ha hb;split at p
  ·rename_i hd;obtain⟨⟨as,ra⟩,ca⟩:=jz I W rx rv ha;obtain⟨⟨bs,rb⟩,cb⟩:=jz I W ry ru hb;exact PySem.SeqAt.notIn_list_reads rb ra (by simpa[PyData.canLay0]using cb) ca (t6 hu hd) ⟨.bl _,H,I,rfl,p.here W rfl⟩
  ·exact p.elim
 ·rename_i a ys ha hb;split at p
  ·rename_i hd;obtain⟨⟨as,ra⟩,ca⟩:=jz I W rx rv ha;obtain⟨⟨bs,rb⟩,cb⟩:=jz I W ry ru hb;exact VJ rb ra (by simpa[PyData.canLay0]using cb) ca (t6 hu hd) ⟨.bl _,H,I,rfl,p.here W rfl⟩
  ·exact p.elim
 ·exact p.elim
end
theorem eY{A:ψ}{k:Nat}(hr:b7 k A):A.units+64<QS:=by have:=hr.un;omega
section
variable (c:aa)
@[simp] theorem agk:cZ .aE=Y .none:=by simp only[cZ]
@[simp] theorem agm(b:Bool):cZ (.bl b)=Y (.bool b):=by simp only[cZ]
@[simp] theorem agl(i:Int):cZ (.int i)=Y (.int i):=by simp only[cZ]
@[simp] theorem agj:fc []=Y []:=by simp only[fc]
end
end L2
namespace L2
open PySem PySem.Spec PyProof.Rows
section
variable {X:Cx}
theorem akq:∀(is:List Int),preSum (λi=>is.getD i 0) is.length=is.sum
 |is=>by
  have key:∀j,j<=is.length->preSum (λi=>is.getD i 0) j=(is.take j).sum:=by
   intro j
   induction j with
   |zero=>intro _;simp[preSum]
   |succ j ih =>
    intro hj;rw[preSum,ih (by omega),UC]
    have:is[j]? = Y (is.getD j 0):=by
     rw[Q6,Bt (by omega)];rfl
    rw[this];simp
  rw[key is.length (ZA _),RN]
theorem ahl{is:List Int}{its:List S}(h:Vals (is.map V.int) its) (i:Nat) (v:S) (hv:its.toArray[i]? = Y v):∃t,v=.int (is.getD i 0) t:=by
 have hl:=h.length;rw[x8]at hl;have hi:i<is.length:=by
  have:=(VI.mp hv).1;simp at this;omega
 obtain⟨u,e,r⟩:=h.get (i:=i) (x:=V.int is[i]) (by simp)
 rw[List.getElem?_toArray]at hv;rw[hv]at e;cases e;obtain⟨t,rfl⟩:=r;exact⟨t,by rw[Q6,Bt hi];rfl⟩
theorem adJ(hc:X.calm=L):cP X (.builtin "sum") (λxs H Q=>∃(p:J) (is:List Int),xs=[.ref p]/\bN X.K H p (is.map V.int)/\Q (.int is.sum) H):=by
 intro pins s Z H xs us Q I r h;obtain⟨p,is,rfl,hp,q⟩:=h;obtain⟨u,rfl,ru⟩:=R0 r;cases ru;obtain⟨its,rv,pl,hz⟩:=I.list hp;have hL:=pl.isList;have hl:=rv.length;rw[x8]at hl;refine call_sum_walkAnyS (T7 hL ⟨s.heap.objs.size,_,_,_,its.toArray.size,_,_,λi=>is.getD i 0,rfl,(Tj (A:=X.A.in1) (I.ok.hd hc) s.heap.objs.size p (by obtain⟨o,e,_⟩:=hL;exact AP (lu e)) its.toArray).toS,⟨⟨_,E3 _ rfl,rfl,rfl⟩,hL.push _⟩,λb hb=>?_,λi v hv=>ahl rv i v hv,λs' t' hm=>?_⟩)
 ·obtain⟨o,e,_⟩:=hL
  rcases l8.mp hb with rfl|hb
  ·exact lu (E3 _ rfl)
  ·obtain rfl:=RG.mp hb;exact lu (gn _ e)
 ·obtain⟨h',g',d',tk',os'⟩:=s';have e1:=hm.gens;have e2:=hm.drawn;have e3:os'=s.os:=hm.os;subst e1 e2 e3;have I1:Inv X pins Z H {s with heap:=h',toks:=tk'}:=Hg I λb o hb e=>hm.heap b o hb e
  refine⟨.int is.sum,H,I1,?_,q⟩;refine⟨t',?_⟩;rw[E4,<-hl,akq]
end
def nc:List D->aa->R D:=λxs c=>match xs with
 |[.lst l]=>match oi l with
  |some is=>.ok (.int is.sum) c
  |none=>.bad
 |_=>.bad
theorem ady{X:Cx}(hc:X.calm=L:=by rfl):cP X (.builtin "sum") (rN X.K nc):=by
 intro pins s Z H vs us Q I rv h;obtain⟨ρ,xs,c,W,rx,p⟩:=h;unfold nc at p;split at p
 ·split at p
  ·rename_i is hb;obtain⟨v,r,rfl,⟨a,ys,rfl,s1,r1⟩,hr⟩:=rx;cases hr;rw[FF hb]at r1;cases r1.FD;exact adJ hc pins s Z H _ us Q I rv ⟨a,is,rfl,bN.of s1.1,p.here W rfl⟩
  ·exact p.elim
 ·exact p.elim
def xZ:D->D->aa->R D:=λx y c=>match x,y with
 |.int i,.int j=>.ok (.int (Builtin.bitAnd i j)) c
 |_,_=>.bad
section
variable {X:Cx}
theorem YL:bC X (binaryOp .BitAnd) (r2 X.K xZ):=by
 intro pins s Z H v u vv uu Q I rv ru h;obtain⟨ρ,x,y,c,W,rx,ry,p⟩:=h;unfold xZ at p;split at p
 ·cases rx;cases ry;exact XA pins s Z H _ _ vv uu Q I rv ru ⟨_,_,rfl,rfl,p.here W rfl⟩
 ·exact p.elim
end
section
variable (c:aa)
@[simp] theorem sum_ints(l:List Int):nc [.lst (l.map D.int)] c=.ok (.int l.sum) c:=by
 unfold nc;simp[FE]
end
section
variable {X:Cx}{P:Str->Hp->Prop}{st:υ}{sts rest:List υ}{e:ν}{a b d u:agz}{t:ah}{pos:Pos}
structure XCls (K:θ) (mg:Str->Option S) (x:Str) (bm:List S) (newId:String):Prop where
 ex:∃C,μ K ι x=Y (Y (.ref C))/\mg x=Y (.ref C)/\∀h,K.In h->OwnCls x C bm newId mg h
end
end L2
namespace PySem.W
open PySem PySem.Spec PySem.Calls PyProof.Rows Builtin Builtin.ObjectAttr Builtin.Getset_descriptor
structure aeD (K:Frag) (C:J):Prop where
 ga:findIn K (.ref C) "__getattribute__"=Y (Y (.builtin "BaseException.__getattribute__"))
 agB:findIn K (.ref C) "__getattr__"=Y O
 cl:findIn K (.ref C) "__class__"=Y (Y (.builtin "object.__class__"))
 ob:mroIn K C (.type "object")=Y L
 be:subIn K (.ref C) (.type "BaseException")=Y L
 cc:(clsIn K C).isSome=L
end PySem.W
namespace L2
open PySem PySem.Spec PyProof.Rows
structure aeu (k:Nat) (A:ψ):Prop where
 dp:A.depth+3*k+5<recursionLimit
 un:A.units+16*k+200<QS
structure agx (P:ο) (w:π) (K:θ) (mg:Str->Option S) (base:χ) (k:Nat) (f:J) (fd:Q2) (ps:List Str) (sp:Sp):Prop where
 len:∀vs H Q E,sp vs H Q E->vs.length=ps.length
 run:∀(A:ψ) (outer:List Env) (s:Ψ) (H:Hp) (args:Args) (us:List S) (vs:List V) (Q:VK) (E:XK),aeu k A->lJ P w K mg base A outer s H->SH s fd args (ps.zip us)->Vals vs us->sp vs H Q E ->
  codeAny (model P w) A (.call (.ref f) args) (CR bV outer P w H s Q E) s
structure XTab (K:θ) (T:List Str):Prop where
 cls:∀x∈T,∀C,μ K ι x=Y (Y (.ref C))->PySem.W.aeD K C/\PySem.W.kitOne K (.ref C) (.type "ValueError")=Y L
 two:∀x∈T,∀y∈T,∀C C',μ K ι x=Y (Y (.ref C))->μ K ι y=Y (Y (.ref C'))->PySem.W.kitOne K (.ref C) (.ref C')=Y (x==y)
open PySem.SeqAt
section
variable {X:Cx}
def akT:V->List V->Hp->VK->Prop:=λx vs H Q=>∃l,∃bs:List Bool,x=.ref l/\vs=[.bl L]/\H l=Y (.lst (bs.map V.bl))/\Q (.int (bs.countP id:Nat)) H
theorem Vals.Ql:∀{bs:List Bool}{us:List S},Vals (bs.map V.bl) us->us=bs.map Value.bool
 |[],_,.nil=>rfl
 |b::bs,_,.cons r t=>by cases r;rw[Vals.Ql t];rfl
def eqT:S->Bool
 |.bool b=>b
 |_=>G
theorem acT(bs:List Bool):(bs.map Value.bool).countP eqT=bs.countP id:=by
 induction bs with
 |nil=>rfl
 |cons b bs ih=>rw[E1,VH,VH,ih];rfl
theorem acU{A:ψ}{s:Ψ}(bs:List Bool):∀y,y∈(bs.map Value.bool).toArray->EqAt A s y (.bool L) (eqT y):=λy hy=>by
 rw[List.mem_toArray,x6]at hy;obtain⟨b,_,rfl⟩:=hy;have:=EqAt.bool_bool (A:=A) (s:=s) b L;cases b<;>exact this
theorem Zv:rE X "list.count" akT:=by
 intro pins s Z H x vs v us Q I rx rv h;obtain⟨l,bs,rfl,rfl,hH,q⟩:=h;cases rx;obtain⟨u,rfl,ru⟩:=rv.one;cases ru;obtain⟨z,its,n,r,hl,e⟩:=I.nW hH;cases r.Ql;refine Rg F.slot_list_count ⟨_,e,rfl⟩ F.entry_list_count (F.args_list_count_2 _ _) (list_countAt l (bs.map Value.bool).toArray n O #[] (.bool L) eqT) ⟨e,acU bs,?_⟩;refine⟨.int (bs.countP id:Nat),H,I.tok _,⟨s.toks,?_⟩,q⟩;rw[List.toList_toArray,acT]
end
def xB(o a:af):af:=λe c=>(o e c).bind λx c=>match x with
 |.lst l=>(a e c).bind λy c=>match y,oR l with
  |.bl L,Y bs=>.ok (.int (bs.countP id:Nat)) c
  |_,_=>.bad
 |_=>.bad
theorem aK.Qk{K:θ}{ρ:List J}{H:Hp}:∀{bs:List Bool}{xs:List V},aK K ρ H (bs.map D.bl) xs->xs=bs.map V.bl
 |[],_,h=>h
 |b::bs,_,h=>by
  obtain⟨x,r,rfl,h1,h2⟩:=h;cases h1;rw[aK.Qk h2];rfl
section
variable {X:Cx}
theorem WW{o e:ν}{dO da:af}{apos cpos:Pos}(ho:aP X o dO) (ha:aP X e da)
  (hbase:RM o "count" X.env (eval o X.env)=eval o X.env:=by rfl)
  (hfew:((ω cpos (ε [e] X.env)).all (λx=>!x.1)&&(RA cpos (RB [] X.env)).all (λx=>x.1.isSome)
   && decide ([e].length+([]:List QX).length+(if([]:List QX).isEmpty then 0 else 1)<30))=L:=by exact pR rfl)
  (hline:(apos.endLine==cpos.line)=L:=by rfl) (hs:ε [e] X.env=(G,eval e X.env)::ε [] X.env:=by exact c9 rfl) (hplain:(ω cpos (ε [] X.env)).any (·.1)=G:=by exact fK rfl) :
  aP X (.Call (.Attribute o "count" apos) [e] [] cpos) (xB dO da) :=
 (p7 Tg PySem.F.slot_list_count PySem.F.type_list_count Zv ho (ic ha iN hs) hbase hfew hline hs hplain).imp λZ H Q h=>by
  obtain⟨ρ,e,c,W,V,p⟩:=h;refine⟨ρ,e,c,W,V,post.bind p λx c1 aJ H1 v _ W1 X1 r1 p1=>?_⟩
  cases x with
  |lst l =>
   obtain⟨a,xs,rfl,hx,rl⟩:=r1;refine⟨.inl ⟨rfl,xs,bN.of hx.1⟩,aJ,e,c1,W1,V.mono W X1,post.bind p1 λy c2 bS H2 u _ W2 X2 r2 p2=>?_⟩
   split at p2
   ·rename_i bs hb _;cases r2;rw[Bo hb]at rl;cases rl.Qk;exact⟨a,bs,rfl,rfl,(X2.keep a _ hx.1 hx.2 rfl).1,p2.here W2 rfl⟩
   ·exact p2.elim
  |_=>exact p1.elim
theorem akx{body:List υ}{h₀:ExceptHandler}{pos:Pos}{t:TS}(hb:gm X.iO body t):PS X (.Try body [h₀] [] [] pos) t:=λpins s Z H D I h=>by
 refine wpAny_Try_except (QW (hb pins s Z H D (I.jW _) h) (λf s' q=>?_) λ_ _ z=>z.elim)
 have q:=q.lN;cases f with
 |next=>exact Tv q
 |brk=>exact q
 |cont=>exact q
 |ret u=>exact q
end
def xr(a:af) (lo hi:Ev->aa->R (Option Int)):af:=λe c=>(a e c).bind λx c=>(lo e c).bind λl c=>(hi e c).bind λu c=>match x with
 |.tup xs=>if HT.bJ xs.length 0 l=0/\HT.bJ xs.length xs.length u=xs.length then .bad else .ok (.tup (cutD xs l u)) c
 |_=>.bad
section
variable {X:Cx}
theorem Mb{e:ν}{lo hi:Option ν}{p2 pos:Pos}{da:af}{dl dh:Ev->aa->R (Option Int)}(he:aP X e da) (hl:uN X lo dl) (hh:uN X hi dh):aP X (.Subscript e (.Slice lo hi O p2) pos) (xr da dl dh) :=
 (L4 aiN he hl hh).imp λZ H Q h=>by
  obtain⟨ρ,e,c,W,Vv,p⟩:=h;refine⟨ρ,e,c,W,Vv,post.bind p λx c1 aJ H1 v _ W1 X1 r1 p1=>⟨aJ,e,c1,W1,Vv.mono W X1,post.bind p1 λl c2 bS H2 l' _ W2 X2 r2 p2=>⟨bS,e,c2,W2,(Vv.mono W X1).mono W1 X2,post.bind p2 λu c3 jU H3 u' _ W3 X3 r3 p3=>?_⟩⟩⟩
  cases r2;cases r3;have rx:=Rel.mono W1 (X2.trans X3) _ _ r1;split at p3
  ·rename_i xs _ _ _;split at p3
   ·exact p3.elim
   ·rename_i hw;obtain⟨a,ys,rfl,ha,r⟩:=rx;refine⟨a,ys,rfl,ck.of ha,by rw[r.length];exact hw,zD W3 (PJ r) p3⟩
  ·exact p3.elim
end
section
variable {X:Cx}{x:Str}{ad:J}{t:List (Int×List Int)}
theorem Ea{y:Str}{C:J}{pos:Pos}(hm:X.mg y=Y (.ref C)) (hn:μ X.K ι y=Y (Y (.ref C))) (hg:Gl X y:=by rfl) (hd:(y==("__debug__":Str))=G:=by decide):aP X (.Name y pos) (dC (.fn y 0)) :=
 nE (zk (v:=.ref C) hg hm rfl hd) λ_ _=>⟨C,rfl,hn⟩
end
theorem aK.rep{K:θ}{ρ:List J}{H:Hp}{l:List D}{xs:List V}(r:aK K ρ H l xs):∀n:Nat,aK K ρ H (τ n l).flatten (τ n xs).flatten
 |0=>rfl
 |n+1=>aK.append r (aK.rep r n)
def nv:D->D->aa->R D:=λx y c=>match x,y with
 |.lst l,.int k=>if -(2^63)<=k/\k<2^63/\l.length*k.toNat<=Ξ/\bB l=L then .ok (.ref c.length) (c++[.lst (τ k.toNat l).flatten])else .bad
 |_,_=>.bad
theorem MZ{l:List D}(h:bB l=L):∀n:Nat,bB (τ n l).flatten=L
 |0=>by simp
 |n+1=>by rw[SI,Sj,sN,h,MZ h n];rfl
theorem MG{X:Cx}:bC X (binaryOp .Mult) (r2 X.K nv):=by
 intro pins s Z H v u vv uu Q I rv ru h;obtain⟨ρ,x,y,c,W,rx,ry,p⟩:=h;unfold nv at p;split at p
 ·split at p
  ·rename_i hl;obtain⟨a,xs,rfl,sa,ra⟩:=rx;cases ry;exact Xj pins s Z H _ _ vv uu Q I rv ru ⟨a,_,xs,rfl,rfl,sa.1,hl.1,hl.2.1,by rw[ra.length];exact hl.2.2.1,EI W (MZ hl.2.2.2 _) (aK.rep ra _) p⟩
  ·exact p.elim
 ·exact p.elim
def gk(o a:af):af:=λe c=>(o e c).bind λx c=>match x with
 |.ref k=>(a e c).bind λy c=>match y with
  |.lst m=>match c[k]? with
   |some (.lst l)=>if l.length+m.length<=Ξ/\bB m=L then .ok .aE (c.set k (.lst (l++m)))else .bad
   |_=>.bad
  |_=>.bad
 |_=>.bad
theorem nC{X:Cx}{o e:ν}{dO da:af}{apos cpos:Pos}(ho:aP X o dO) (ha:aP X e da)
  (hbase:RM o "extend" X.env (eval o X.env)=eval o X.env:=by rfl)
  (hfew:((ω cpos (ε [e] X.env)).all (λx=>!x.1)&&(RA cpos (RB [] X.env)).all (λx=>x.1.isSome)
   && decide ([e].length+([]:List QX).length+(if([]:List QX).isEmpty then 0 else 1)<30))=L:=by exact pR rfl)
  (hline:(apos.endLine==cpos.line)=L:=by rfl) (hs:ε [e] X.env=(G,eval e X.env)::ε [] X.env:=by exact c9 rfl) (hplain:(ω cpos (ε [] X.env)).any (·.1)=G:=by exact fK rfl) :
  aP X (.Call (.Attribute o "extend" apos) [e] [] cpos) (gk dO da) :=
 (p7 Tg PySem.F.slot_list_extend PySem.F.type_list_extend Zt ho (ic ha iN hs) hbase hfew hline hs hplain).imp λZ H Q h=>by
  obtain⟨ρ,e,c,W,V,p⟩:=h;refine⟨ρ,e,c,W,V,post.bind p λx c1 aJ H1 v _ W1 X1 r1 p1=>?_⟩
  cases x with
  |ref k =>
   obtain⟨a,rfl,ha,hL⟩:=r1;obtain⟨xs,hx⟩:=hL.lst;refine⟨.inl ⟨rfl,xs,bN.of hx⟩,aJ,e,c1,W1,V.mono W X1,post.bind p1 λy c2 bS H2 u _ W2 X2 r2 p2=>?_⟩
   cases y with
   |lst m =>
    obtain⟨b,zs,rfl,sb,rb⟩:=r2;dsimp only at p2;split at p2
    ·rename_i l hl;split at p2
     ·rename_i hh;obtain⟨nr,ys,hy,rl⟩:=W2.eL k a _ (X2.pre k a ha) hl;refine⟨a,b,ys,zs,rfl,rfl,hy,sb.1,by rw[rl.length,rb.length];exact hh.1,?_⟩
      refine p2 bS _ .aE (W2.write (X2.pre k a ha) (by rw[sN,nr,hh.2];rfl) (rl.append rb)) (Ext.write (X2.pre k a ha)) rfl
     ·exact p2.elim
    ·exact p2.elim
   |_=>exact p2.elim
  |_=>exact p1.elim
section
variable (e:Ev) (c:aa) (o a:af)
@[simp] theorem agR(m:List D) (k:Int):nv (.lst m) (.int k) c=if -(2^63)<=k/\k<2^63/\m.length*k.toNat<=Ξ/\bB m=L then .ok (.ref c.length) (c++[.lst (τ k.toNat m).flatten])else .bad:=rfl
end
theorem wW{α:Type}{st:aa->Prop}{g:Gd}{s:ah}(C:Nat->aa) (E:Nat->α->Ev):∀(items:List D) (k:Nat) (v:α),(∀i,i<=items.length->st (C (k+i))) ->
  (∀i x,items[i]? = Y x->∀v,∃e',g x (E (k+i) v) (C (k+i))=.ok e' (C (k+i))/\∃v',s e' (C (k+i))=.ok (.nx (E (k+i+1) v')) (C (k+i+1))) ->
  ∃v',cy st g s items (E k v) (C k)=.ok (.nx (E (k+items.length) v')) (C (k+items.length))
 |[],k,v,hst,_=>⟨v,by
   have:=hst 0 (ZA _);rw[Tf]at this;unfold cy;rw[if_pos this];rfl⟩
 |x::xs,k,v,hst,h=>by
  obtain⟨e',h1,v',h2⟩:=h 0 x rfl v;obtain⟨v2,h3⟩:=wW C E xs (k+1) v' (λi hi=>by
   have:=hst (i+1) (by simp only[Iv];omega)
   rwa[show k+(i+1)=k+1+i by omega]at this) (λi y hy v=>by
   have:=h (i+1) y (by simpa using hy) v
   rwa[show k+(i+1)=k+1+i by omega]at this)
  refine⟨v2,?_⟩;unfold cy;rw[if_pos (by have:=hst 0 (RL _);exact this)]
  rw[Tf]at h1 h2;rw[h1,R.aL,h2];simp only[R.aL];rw[h3,Iv,show k+(xs.length+1)=k+1+xs.length by omega]
theorem O1{α:Type}{g:Gd}{s:ah}(C:Nat->aa) (E:Nat->α->Ev) {N:Int}{n:Nat}(hN:N=n) (v:α)
  (h:∀i,i<n->∀v,∃e',g (.int (i:Nat)) (E i v) (C i)=.ok e' (C i)/\∃v',s e' (C i)=.ok (.nx (E (i+1) v')) (C (i+1))) :
  ∃v',cy (λ_=>True) g s (aW 0 N) (E 0 v) (C 0)=.ok (.nx (E n v')) (C n):=by
 have hl:(aW 0 N).length=n:=by rw[g9];omega
 have:=wW (st:=λ_=>True) C E (aW 0 N) 0 v (λ_ _=>trivial) (λi x hx v=>by
  obtain⟨h1,rfl⟩:=pY hx;rw[QV,V5];exact h i (by omega) v)
 rwa[hl,QV]at this
def tZ:List D->aa->R D:=λxs c=>match xs with
 |[.int i]=>.ok (.int i) c
 |[.bl k]=>.ok (.int (if k then 1 else 0)) c
 |_=>.bad
theorem adF{X:Cx}:cP X (.type "int") (rN X.K tZ):=by
 intro pins s Z H vs us Q I rv h;obtain⟨ρ,xs,c,W,rx,p⟩:=h;unfold tZ at p;split at p
 ·obtain⟨v,r,rfl,hx,hr⟩:=rx;cases hr;cases hx;exact Qh pins s Z H _ us Q I rv (.inl ⟨_,rfl,p.here W rfl⟩)
 ·obtain⟨v,r,rfl,hx,hr⟩:=rx;cases hr;cases hx;exact Qh pins s Z H _ us Q I rv (.inr ⟨_,rfl,p.here W rfl⟩)
 ·exact p.elim
@[simp] theorem aeY(k:Bool) (c:aa):tZ [.bl k] c=.ok (.int (if k then 1 else 0)) c:=rfl
@[simp] theorem aeZ(i:Int) (c:aa):tZ [.int i] c=.ok (.int i) c:=rfl
abbrev Up(l:List Nat):Prop:=l.Pairwise (· < ·)
theorem getD_list(xs:Array Nat) (i d:Nat):xs.getD i d=xs.toList.getD i d:=by
 simp[VG,Q6]
theorem uT{l:List Nat}(h:Up l) {i k:Nat}(hik:i<k) (hk:k<l.length):l.getD i 0<l.getD k 0:=by
 have:=List.pairwise_iff_getElem.mp h i k (by omega) hk hik
 simpa[Q6,Bt hk,Bt (show i<l.length by omega)]using this
def Parts(l:List Nat) (j p:Nat):Prop:=p<=l.length/\(∀i,i<p->l.getD i 0<j)/\∀i,p<=i->i<l.length->j<=l.getD i 0
theorem GX{xs:Array Nat}{j:Nat}(h:Up xs.toList):∀fuel lo hi,lo<=hi->hi<=xs.toList.length->hi-lo<=fuel->(∀i,i<lo->xs.toList.getD i 0<j)->(∀i,hi<=i->i<xs.toList.length->j<=xs.toList.getD i 0) ->
  Parts xs.toList j (SetTable.below.go xs j fuel lo hi)
 |0,lo,hi,h1,h2,h3,h4,h5=>⟨by unfold SetTable.below.go;omega,λi hi'=>h4 i (by unfold SetTable.below.go at hi';exact hi'),λi hi'=>h5 i (by unfold SetTable.below.go at hi';omega)⟩
 |fuel+1,lo,hi,h1,h2,h3,h4,h5=>by
  unfold SetTable.below.go
  by_cases hl:lo<hi
  ·rw[if_pos hl];dsimp only;have hm:(lo+hi)/2<xs.toList.length:=by omega
   have he:xs.getD ((lo+hi)/2) j=xs.toList.getD ((lo+hi)/2) 0:=by
    rw[getD_list];simp[Q6,Bt hm]
   rw[he]
   by_cases hc:xs.toList.getD ((lo+hi)/2) 0<j
   ·rw[if_pos hc];refine GX h fuel _ _ (by omega) h2 (by omega) (λi hi'=>?_) h5
    by_cases hq:i=(lo+hi)/2
    ·rw[hq];exact hc
    ·exact Tp (uT h (show i<(lo+hi)/2 by omega) hm) hc
   ·rw[if_neg hc];refine GX h fuel _ _ (by omega) (by omega) (by omega) h4 (λi hi' hl'=>?_)
    by_cases hq:i=(lo+hi)/2
    ·rw[hq];omega
    ·exact Q3 (by omega) (SD (uT h (show(lo+hi)/2<i by omega) hl'))
  ·rw[if_neg hl];exact⟨by omega,h4,λi hi'=>h5 i (by omega)⟩
theorem Bp{xs:Array Nat}(h:Up xs.toList) (j:Nat):Parts xs.toList j (SetTable.below xs j):=by
 exact GX h _ _ _ (RL _) (by simp) (by simp) (λi hi=>absurd hi (V0 _)) (λi h1 h2=>by simp at h2;omega)
theorem ad2{xs:Array Nat}(h:Up xs.toList):SetTable.below xs 0=0:=by
 obtain⟨_,h2,_⟩:=Bp h 0
 rcases VF _ with e|e
 ·exact e
 ·exact absurd (h2 0 e) (V0 _)
theorem ad3{xs:Array Nat}(h:Up xs.toList) {i:Nat}(hi:i<xs.toList.length):SetTable.below xs (xs.toList.getD i 0+1)=i+1:=by
 obtain⟨h1,h2,h3⟩:=Bp h (xs.toList.getD i 0+1)
 rcases VE (SetTable.below xs (xs.toList.getD i 0+1)) (i+1)with e|e|e
 ·have:=h3 i (by omega) hi;omega
 ·exact e
 ·have a:=h2 _ e;have b:=uT h (show i<i+1 by omega) (show i+1<xs.toList.length by omega)
  omega
theorem ad4{xs:Array Nat}(h:Up xs.toList) {j:Nat}(hj:j∈xs.toList):xs[SetTable.below xs j]? = Y j:=by
 obtain⟨i,hi,e⟩:=Uz hj;obtain⟨h1,h2,h3⟩:=Bp h j;have e':xs.toList.getD i 0=j:=by rw[Q6,Bt hi];exact e
 have hp:SetTable.below xs j=i:=by
  rcases VE (SetTable.below xs j) i with q|q|q
  ·have a:=h3 _ (ZA _) (by omega)
   have b:=uT h q hi;omega
  ·exact q
  ·have a:=h2 i q;omega
 rw[hp,<-S2,Bt hi,e]
theorem ahp{xs:Array Nat}(h:Up xs.toList) {j:Nat}(hj:j∉xs.toList):Up (SetTable.insertAt xs (SetTable.below xs j) j).toList:=by
 rw[SetTable.toList_insertAt];obtain⟨h1,h2,h3⟩:=Bp h j
 generalize SetTable.below xs j=p at h1 h2 h3
 have ht:∀a∈xs.toList.take p,a<j:=by
  intro a ha;obtain⟨i,hi,e⟩:=Uz ha;have hi':i<p/\i<xs.toList.length:=by simp at hi ⊢;omega
  have:=h2 i hi'.1;rw[UD]at e;rw[Q6,Bt hi'.2]at this
  simpa[<-e]using this
 have hd:∀a∈xs.toList.drop p,j<a:=by
  intro a ha;have hm:a∈xs.toList:=WA ha;obtain⟨i,hi,e⟩:=Uz ha;have hi':p+i<xs.toList.length:=by simp at hi ⊢;omega
  have:=h3 (p+i) (by omega) hi'
  rw[List.getElem_drop]at e;rw[Q6,Bt hi']at this;have hle:j<=a:=by simpa[<-e]using this
  exact Nat.lt_of_le_of_ne hle λq=>hj (q▸hm)
 refine List.pairwise_append.mpr ⟨h.sublist (UR _ _),Rw.mpr ⟨hd,h.sublist (List.drop_sublist _ _)⟩,λa ha b hb=>?_⟩
 rcases l8.mp hb with rfl|hb
 ·exact ht a ha
 ·exact Tp (ht a ha) (hd b hb)
theorem LW:∀(n:Nat) (l:List Nat),(∀j,j<n->j∈l)->n<=l.length
 |0,_,_=>RL _
 |n+1,l,h=>by
  have hn:=h n (Rr _);have:=LW n (l.erase n) λj hj=>(W9 (by omega)).mpr (h j (by omega))
  rw[W8 hn]at this;have:=W7 hn;omega
def kF(mask:Nat):Nat->Nat->Nat->Nat->Nat->Nat->Bool
 |0,_,_,_,_,_=>G
 |n+1,j,more,i,q,acc =>
  if acc |||(1 <<< j)=2^(mask+1)-1 then L
  else if more>0 then kF mask n (j+1) (more-1) i q (acc |||(1 <<< j))
  else kF mask n ((i*5+1+q/32) % (mask+1)) (SetTable.runEnd mask ((i*5+1+q/32) % (mask+1))-(i*5+1+q/32) % (mask+1)) ((i*5+1+q/32) % (mask+1)) (q/32) (acc |||(1 <<< j))
def Bl(mask:Nat):Bool:=(Ω 128).all λh=>kF mask (10*(mask+15)) (h % (mask+1)) (SetTable.runEnd mask (h % (mask+1))-h % (mask+1)) (h % (mask+1)) h 0
def uA(mask:Nat):Nat->Nat->Nat->Nat->Bool
 |0,_,_,_=>G
 |n+1,i,q,acc =>
  if acc |||((2^(SetTable.runEnd mask i+1-i)-1) <<< i)=2^(mask+1)-1 then L
  else uA mask n ((i*5+1+q/32) % (mask+1)) (q/32) (acc |||((2^(SetTable.runEnd mask i+1-i)-1) <<< i))
def Gz(mask:Nat):Bool:=(Ω 128).all λh=>uA mask (mask+15) (h % (mask+1)) h 0
theorem adl:Bl 7=L:=by decide +kernel
theorem adm:Bl 31=L:=by decide +kernel
theorem adn:Bl 127=L:=by decide +kernel
theorem adj:Gz 31=L:=by decide +kernel
theorem adk:Gz 127=L:=by decide +kernel
theorem GV(acc j k:Nat):(acc |||(1 <<< j)).testBit k=(acc.testBit k||decide (k=j)):=by
 rw[Nat.testBit_or,Nat.one_shiftLeft,Nat.testBit_two_pow]
 by_cases h:j=k
 ·subst h;simp
 ·simp[h,Q8 h]
theorem Bk{mask:Nat}:∀n j more i q acc,kF mask n j more i q acc=L->∀k,acc.testBit k=L->k<=mask
 |0,_,_,_,_,_,h,_,_=>by cases h
 |n+1,j,more,i,q,acc,h,k,hk=>by
  have hk':(acc |||(1 <<< j)).testBit k=L:=by rw[GV,hk];rfl
  unfold kF at h;split at h
  ·rename_i e;rw[e,TX]at hk';have:=of_decide_eq_true hk';omega
  ·split at h
   ·exact Bk _ _ _ _ _ _ h k hk'
   ·exact Bk _ _ _ _ _ _ h k hk'
theorem Kl{t:QZ}(hd:t.dummies=#[]) (j:Nat):t.slot j=.empty\/∃i,t.slot j=.live i:=by
 unfold SetTable.slot;dsimp only;split
 ·exact .inr ⟨_,rfl⟩
 ·rw[hd];exact .inl rfl
theorem F7{t:QZ}{h:Int}(hd:t.dummies=#[]):∀n (p:SetTable.Probe) acc fuel,kF t.mask n p.j p.more p.i p.perturb acc=L->p.dummy=O->n<=fuel ->
  (∀k,acc.testBit k=L->t.slot k≠.empty)->(∃j,j<=t.mask/\t.slot j=.empty) ->
  ∃j,SetTable.probe.go t (λ_=>h+1) h fuel p=Y (.empty j O)/\t.slot j=.empty/\j<=t.mask
 |0,_,_,_,h,_,_,_,_=>by simp[kF]at h
 |n+1,p,acc,0,_,_,h,_,_=>by omega
 |n+1,p,acc,fuel+1,hc,hn,hf,ha,hj=>by
  have hle:p.j<=t.mask:=by
   have hk':(acc |||(1 <<< p.j)).testBit p.j=L:=by rw[GV];simp
   unfold kF at hc;split at hc
   ·rename_i e;rw[e,TX]at hk';have:=of_decide_eq_true hk';omega
   ·split at hc
    ·exact Bk _ _ _ _ _ _ hc _ hk'
    ·exact Bk _ _ _ _ _ _ hc _ hk'
  unfold SetTable.probe.go
  rcases Kl hd p.j with e|⟨i,e⟩
  ·rw[e];exact⟨p.j,by rw[hn],e,hle⟩
  ·rw[e];have hne:(h+1==h)=G:=by simp;omega
   rw[hne];have ha':∀k,(acc |||(1 <<< p.j)).testBit k=L->t.slot k≠.empty:=by
    intro k hk;rw[GV,SR,decide_eq_true_eq]at hk
    rcases hk with hk|rfl
    ·exact ha k hk
    ·rw[e];intro q;cases q
   unfold kF at hc;split at hc
   ·rename_i ef;obtain⟨j0,h0,e0⟩:=hj;exact absurd e0 (ha' j0 (by rw[ef,TX];exact decide_eq_true (by omega)))
   ·split at hc
    ·rename_i hm;have F0:t.advance p={p with j:=p.j+1,more:=p.more-1}:=by unfold SetTable.advance;rw[if_pos hm]
     rw[F0];exact F7 hd n _ _ fuel hc hn (by omega) ha' hj
    ·rename_i hm;have F0:t.advance p={p with j:=(p.i*5+1+p.perturb/32) % (t.mask+1),more:=SetTable.runEnd t.mask ((p.i*5+1+p.perturb/32) % (t.mask+1))-(p.i*5+1+p.perturb/32) % (t.mask+1),i:=(p.i*5+1+p.perturb/32) % (t.mask+1),perturb:=p.perturb/32}:=by
      unfold SetTable.advance;rw[if_neg hm];rfl
     rw[F0];exact F7 hd n _ _ fuel hc hn (by omega) ha' hj
theorem Qm{n:Nat}(h:n<128):SetTable.bits (n:Int)=n:=by
 unfold SetTable.bits;have:((n:Int) % (2^64:Int))=n:=Uy (by omega) (by omega)
 rw[this];rfl
def Es(m:Nat):Prop:=m=7\/m=31\/m=127
theorem adh{m:Nat}(h:Es m) {n:Nat}(hn:n<128):kF m (10*(m+15)) (n % (m+1)) (SetTable.runEnd m (n % (m+1))-n % (m+1)) (n % (m+1)) n 0=L:=by
 have:Bl m=L:=h.elim (λe=>e▸adl) λh=>h.elim (λe=>e▸adm) λe=>e▸adn
 exact R8.mp this n (H8.mpr hn)
theorem acw{t:QZ}{n:Nat}(hd:t.dummies=#[]) (hm:Es t.mask) (hn:n<128) (hs:t.place.toList.length<=t.mask) (hu:Up t.place.toList) :
  ∃j,t.freeSlot (n:Int)=Y (j,G)/\j∉t.place.toList/\j<=t.mask:=by
 have hmem:∀j,t.slot j=.empty->j∉t.place.toList:=by
  intro j e hj;unfold SetTable.slot at e;dsimp only at e;rw[ad4 hu hj]at e;simp at e
 have abH:∀j,j∉t.place.toList->t.slot j=.empty:=by
  intro j hj
  rcases Kl hd j with e|⟨i,e⟩
  ·exact e
  ·unfold SetTable.slot at e;dsimp only at e;split at e
   ·rename_i q;have:=eq_of_beq q;rw[<-S2]at this;exact absurd (R5 this) hj
   ·split at e<;>cases e
 have hex:∃j,j<=t.mask/\t.slot j=.empty:=by
  by_cases q:∃j,j<=t.mask/\j∉t.place.toList
  ·obtain⟨j,a,b⟩:=q;exact⟨j,a,abH j b⟩
  ·have:=LW (t.mask+1) t.place.toList λj hj=>Classical.byContradiction λx=>q ⟨j,by omega,x⟩
   omega
 have hb:=Qm hn;obtain⟨j,e,e1,e2⟩:=F7 (t:=t) (h:=(n:Int)) hd (10*(t.mask+15)) (t.probeStart n) 0 (10*SetTable.turns t.mask)
  (by show kF _ _ (SetTable.bits n % _) (SetTable.runEnd t.mask (SetTable.bits n % (t.mask+1))-SetTable.bits n % (t.mask+1)) (SetTable.bits n % _) (SetTable.bits n) _=L;rw[hb];exact adh hm hn) rfl (ZA _) (λk hk=>by simp at hk) hex
 refine⟨j,?_,hmem j e1,e2⟩;unfold SetTable.freeSlot SetTable.probe;rw[e];rfl
theorem ajy(c i k:Nat):((2^c-1) <<< i).testBit k=decide (i<=k/\k<i+c):=by
 rw[Nat.testBit_shiftLeft,TX]
 by_cases h:i<=k
 ·simp only[ge_iff_le,h,decide_true,Bool.true_and,true_and];exact decide_eq_decide.mpr (by omega)
 ·simp[h]
theorem NL{mask:Nat}{owner:Array (Option Nat)}:∀n i q acc fuel,uA mask n i q acc=L->n<=fuel->(∀k,k<=mask->acc.testBit k=L->owner.getD k (Y 0)≠O) ->
  (∃j,j<=mask/\owner.getD j (Y 0)=O)->∃j,SetTable.layClean.free mask owner fuel i q=Y j/\owner.getD j (Y 0)=O
 |0,_,_,_,_,h,_,_,_=>by simp[uA]at h
 |n+1,i,q,acc,0,_,h,_,_=>by omega
 |n+1,i,q,acc,fuel+1,hc,hf,ha,hj=>by
  unfold SetTable.layClean.free;cases hr:(Ω _).find? _ with
  |some k =>
   have:=List.find?_some hr;exact⟨i+k,rfl,by simpa using this⟩
  |none =>
   have ha':∀k,k<=mask->(acc |||((2^(SetTable.runEnd mask i+1-i)-1) <<< i)).testBit k=L->owner.getD k (Y 0)≠O:=by
    intro k hk hb;rw[Nat.testBit_or,ajy,SR,decide_eq_true_eq]at hb
    rcases hb with hb|hb
    ·exact ha k hk hb
    ·intro e;have:=(List.find?_eq_none.mp hr) (k-i) (H8.mpr (by omega))
     rw[show i+_=k by omega,e]at this
     exact this rfl
   unfold uA at hc;split at hc
   ·rename_i ef;obtain⟨j0,h0,e0⟩:=hj;exact absurd e0 (ha' j0 h0 (by rw[ef,TX];exact decide_eq_true (by omega)))
   ·exact NL n _ _ _ fuel hc (by omega) ha' hj
def sL(m:Nat):Prop:=m=31\/m=127
theorem adi{m:Nat}(h:sL m) {n:Nat}(hn:n<128):uA m (m+15) (n % (m+1)) n 0=L:=by
 have:Gz m=L:=h.elim (λe=>e▸adj) λe=>e▸adk
 exact R8.mp this n (H8.mpr hn)
theorem Pa:∀(l:List (Option Nat)) (j k:Nat),j<l.length->l.getD j (Y 0)=O->((l.set j (Y k)).filterMap id).Perm (k::l.filterMap id)
 |[],_,_,h,_=>absurd h (V0 _)
 |x::l,0,k,_,e=>by
  have:x=O:=by simpa using e
  subst this;simp
 |x::l,j+1,k,h,e=>by
  have ih:=Pa l j k (by simpa using h) (by simpa using e)
  cases x with
  |none=>simpa using ih
  |some a =>
   exact(ih.cons a).trans (List.Perm.swap _ _ _)
theorem Pb:∀(l:List (Option Nat)),(∀j,j<l.length->l.getD j (Y 0)≠O)->(l.filterMap id).length=l.length
 |[],_=>rfl
 |x::l,h=>by
  cases x with
  |none=>exact absurd rfl (h 0 (by simp))
  |some a =>
   have:=Pb l λj hj=>by simpa using h (j+1) (by simpa using hj)
   simp[this]
def yc(mask:Nat) (owner:Array (Option Nat)) (k:Nat):Prop:=owner.toList.length=mask+1/\(owner.toList.filterMap id).Perm (Ω k)
theorem Ac(xs:Array (Option Nat)) (i:Nat) (d:Option Nat):xs.getD i d=xs.toList.getD i d:=by
 simp[VG,Q6]
theorem ZY{mask:Nat}{owner:Array (Option Nat)}{k n:Nat}(hm:sL mask) (hn:n<128) (I:yc mask owner k) (hk:k<=mask) :
  ∃j,SetTable.layClean.free mask owner (SetTable.turns mask) (SetTable.bits n % (mask+1)) (SetTable.bits n)=Y j/\yc mask (owner.setIfInBounds j (Y k)) (k+1):=by
 obtain⟨h1,h2⟩:=I;have hex:∃j,j<=mask/\owner.getD j (Y 0)=O:=by
  by_cases q:∃j,j<=mask/\owner.getD j (Y 0)=O
  ·exact q
  ·have:=Pb owner.toList λj hj e=>q ⟨j,by omega,by rw[Ac];exact e⟩
   have h3:=h2.length_eq;rw[S1]at h3;omega
 obtain⟨j,e,e1⟩:=NL _ _ _ 0 _ (adi hm hn) (ZA _) (λk _ hb=>by simp at hb) hex
 refine⟨j,by rw[Qm hn];exact e,by simpa using h1,?_⟩
 rw[Ac]at e1;have hj:j<owner.toList.length:=by
  rcases Ux j owner.toList.length with q|q
  ·exact q
  ·rw[Q6,Rf q]at e1;cases e1
 rw[Array.toList_setIfInBounds];refine(Pa _ j k hj e1).trans ?_;rw[UA];exact(h2.cons k).trans (W6 k _).symm
theorem NN{mask:Nat}(hm:sL mask):∀(hs:List Int) (owner:Array (Option Nat)) (k:Nat),(∀h∈hs,∃n:Nat,h=n/\n<128)->yc mask owner k->k+hs.length<=mask ->
  ∃ow,hs.foldl (λacc h=>(do
   let(owner,k) <-acc
   let j <-SetTable.layClean.free mask owner (SetTable.turns mask) (SetTable.bits h % (mask+1)) (SetTable.bits h)
   pure (owner.setIfInBounds j (Y k),k+1):Option (Array (Option Nat)×Nat))) (Y (owner,k))=Y (ow,k+hs.length)/\yc mask ow (k+hs.length)
 |[],owner,k,_,I,_=>⟨owner,rfl,I⟩
 |h::hs,owner,k,hh,I,hl=>by
  obtain⟨n,e,hn⟩:=hh h (.head _);subst e;simp only[Iv]at hl;obtain⟨j,e,I'⟩:=ZY hm hn I (by omega)
  obtain⟨ow,e',IP⟩:=NN hm hs _ (k+1) (λh x=>hh h (.tail _ x)) I' (by omega)
  refine⟨ow,?_,by rw[Iv,show k+(hs.length+1)=k+1+hs.length by omega];exact IP⟩
  rw[Si,Iv,show k+(hs.length+1)=k+1+hs.length by omega,<-e']
  congr 1
  show(do let j <-SetTable.layClean.free mask owner (SetTable.turns mask) (SetTable.bits n % (mask+1)) (SetTable.bits n);pure (owner.setIfInBounds j (Y k),k+1):Option (Array (Option Nat)×Nat))=_
  rw[e];rfl
theorem Z0{mask:Nat}(hm:sL mask) (hs:Array Int) (hh:∀h∈hs.toList,∃n:Nat,h=n/\n<128) (hl:hs.toList.length<=mask) :
  ∃ow,SetTable.layClean mask hs=Y ow/\yc mask ow hs.toList.length:=by
 obtain⟨ow,e,I⟩:=NN hm hs.toList (Array.replicate (mask+1) O) 0 hh ⟨by simp,by simp⟩ (by omega)
 rw[QV]at e I;refine⟨ow,?_,I⟩;unfold SetTable.layClean;rw[<-Array.foldl_toList];exact congrArg (Option.map (λx:Array (Option Nat)×Nat=>x.1)) e
theorem LJ(l:List (Option Nat)):(Ω l.length).filterMap (λj=>l.getD j O)=l.filterMap id:=by
 have:l=(Ω l.length).map (λj=>l.getD j O):=by
  apply U9
  ·simp
  ·intro i h1 h2;simp[Q6,Bt h1]
 conv=>rhs;rw[this]
 rw[Vb];rfl
theorem Z8{mask:Nat}(hm:sL mask) (f mv:Nat) (led plain:Bool) (hs:Array Int) (hh:∀h∈hs.toList,∃n:Nat,h=n/\n<128) (hl:hs.toList.length<=mask) :
  ∃place order,SetTable.laid mask f mv led plain hs=Y ({mask:=mask,place:=place,dummies:=#[],finger:=f,led:=led,moves:=mv,plain:=plain},order)/\Up place.toList/\(∀j∈place.toList,j<=mask)/\place.size=hs.size/\order.toList.Perm (Ω hs.size):=by
 obtain⟨ow,e,h1,h2⟩:=Z0 hm hs hh hl;refine⟨(((Ω (mask+1)).filterMap λj=>(ow.getD j O).map (j,·)).map (·.1)).toArray,(((Ω (mask+1)).filterMap λj=>(ow.getD j O).map (j,·)).map (·.2)).toArray,?_,?_,?_,?_,?_⟩
 ·unfold SetTable.laid;rw[e];rfl
 ·show Up ((((Ω (mask+1)).filterMap λj=>(ow.getD j O).map (j,·)).map (·.1)).toArray).toList
  show List.Pairwise _ _;rw[W0];refine List.Pairwise.filterMap _ (λa a' hlt b hb b' hb'=>?_) U8
  cases ha:ow.getD a O<;>rw[ha]at hb<;>simp at hb
  cases ha':ow.getD a' O<;>rw[ha']at hb'<;>simp at hb'
  rw[<-hb,<-hb'];exact hlt
 ·intro j hj;simp only[x6,Tt,H8]at hj;obtain⟨⟨a,b⟩,⟨c,hc,hq⟩,rfl⟩:=hj;cases ha:ow.getD c O<;>rw[ha]at hq<;>simp at hq
  obtain⟨rfl,_⟩:=hq;omega
 ·have:((Ω (mask+1)).filterMap λj=>(ow.getD j O).map (j,·)).length=(ow.toList.filterMap id).length:=by
   rw[<-LJ,h1,<-x8 (f:=Prod.snd),Vz]
   congr 1
   congr 1
   funext j
   rw[Ac];cases ow.toList.getD j O<;>rfl
  rw[E4,x8,this,h2.length_eq,S1];simp
 ·show(((Ω (mask+1)).filterMap λj=>(ow.getD j O).map (j,·)).map (·.2)).Perm _
  have:(((Ω (mask+1)).filterMap λj=>(ow.getD j O).map (j,·)).map (·.2))=ow.toList.filterMap id:=by
   rw[<-LJ,h1,Vz]
   congr 1
   funext j
   rw[Ac];cases ow.toList.getD j O<;>rfl
  rw[this]
  simpa using h2
structure o4 (t:QZ) (n:Nat):Prop where
 size:t.place.size=n
 up:Up t.place.toList
 le:∀j∈t.place.toList,j<=t.mask
 dm:t.dummies=#[]
 mask:(t.mask=7/\n<=4)\/(t.mask=31/\n<=18)\/(t.mask=127/\n<=76)
 plain:t.plain=L
theorem o4.fits{t:QZ}{n:Nat}(h:o4 t n):t.fits n=L:=by
 have:=h.mask;simp only[SetTable.fits,SetTable.fill,h.size,h.dm,RI,beq_self_eq_true,true_and,decide_eq_true_eq];simp;omega
theorem aiz(led:Bool):o4 (.fresh 0 0 led) 0:=⟨rfl,.nil,λj h=>by simp[SetTable.fresh]at h,rfl,.inl ⟨rfl,by omega⟩,rfl⟩
def HS(es:List (Int×S)):Prop:=∀e∈es,∃n:Nat,e.1=n/\n<128
theorem ZZ{t:QZ}{es:Array (Int×S)}{x:S}{m:Nat}(I:o4 t es.size) (hm:m<128) (hn:es.size<64) :
  ∃es1 t1,layNew t es (m:Int) x=(es1,t1,G,G)/\es1.size=es.size+1/\t1.led=t.led/\t1.plain=L/\t1.place.size=es1.size/\Up t1.place.toList/\(∀j∈t1.place.toList,j<=t1.mask)/\t1.dummies=#[]/\t1.mask=t.mask/\t1.fits es1.size=L:=by
 have hk:=I.mask;have hsz:=I.size;obtain⟨j,e,h1,h2⟩:=acw I.dm (by unfold Es;omega) hm (by simp;omega) I.up
 have hnd:(if SetTable.has t.dummies j then SetTable.eraseAt t.dummies (SetTable.below t.dummies j)else t.dummies)=#[]:=by
  rw[I.dm];rfl
 have hs1:(SetTable.insertAt es (SetTable.below t.place j) (m,x)).size=es.size+1:=by
  rw[<-R1,(Uw ..).length_eq];simp
 have hs2:(SetTable.insertAt t.place (SetTable.below t.place j) j).size=es.size+1:=by
  rw[<-R1,(Uw ..).length_eq];simp[hsz]
 have hfit:(t.put j).1.fits (es.size+1)=L:=by
  simp only[SetTable.put,SetTable.fits,SetTable.fill,hnd,hs2,RI,beq_self_eq_true,true_and,decide_eq_true_eq];simp;omega
 refine⟨SetTable.insertAt es _ _,(t.put j).1,?_,hs1,rfl,I.plain,?_,?_,?_,hnd,rfl,?_⟩
 ·unfold layNew;rw[e];dsimp only;have hp:(t.put j).2=SetTable.below t.place j:=rfl;rw[hp,hs1];unfold SetTable.orStandIn;rw[hfit];rfl
 ·rw[hs1];exact hs2
 ·exact ahp I.up h1
 ·intro k hk';have:k∈(t.place.push j).toList:=(Uw t.place _ j).mem_iff.mp hk';rw[Uv,RO,RG]at this
  rcases this with q|rfl
  ·exact I.le k q
  ·exact h2
 ·rw[hs1];exact hfit
theorem ajf{t:QZ}{es:Array (Int×S)}(hp:t.plain=L) (hh:HS es.toList) (hm:(t.mask=7/\es.size=5)\/(t.mask=31/\es.size=19)) :
  ∃xj t2,relayAll t es (SetTable.grown es.size)=(xj,t2,G)/\xj.size=es.size/\o4 t2 xj.size/\t2.led=t.led:=by
 have hw:∃m,SetTable.sizeAbove (SetTable.grown es.size)-1=m/\((m=31/\es.size=5)\/(m=127/\es.size=19)):=by
  rcases hm with⟨_,e⟩|⟨_,e⟩
  ·rw[e];exact⟨31,by decide,.inl ⟨rfl,rfl⟩⟩
  ·rw[e];exact⟨127,by decide,.inr ⟨rfl,rfl⟩⟩
 obtain⟨m,ew,hq⟩:=hw;have hs:(es.map (·.1)).toList=es.toList.map (·.1):=by simp
 obtain⟨place,order,e,u1,u2,u3,u4⟩:=Z8 (mask:=m) (by unfold sL;omega) t.finger (t.movedTo m) t.led t.plain (es.map (·.1)) (λh hx=>by
  rw[hs,x6]at hx;obtain⟨y,hy,rfl⟩:=hx;exact hh y hy) (by rw[hs,x8,R1];omega)
 rw[Array.size_map]at u3 u4;have hes:(order.filterMap (es[·]?)).size=es.size:=by
  rw[<-R1,Array.toList_filterMap];exact((u4.filterMap _).trans (by rw[filterMap_getElem?_range])).length_eq
 have hfit:SetTable.fits {mask:=m,place:=place,dummies:=#[],finger:=t.finger,led:=t.led,moves:=t.movedTo m,plain:=t.plain} es.size=L:=by
  simp only[SetTable.fits,SetTable.fill,u3,RI,beq_self_eq_true,true_and,decide_eq_true_eq];simp only[E4,S5];omega
 refine⟨order.filterMap (es[·]?),{mask:=m,place:=place,dummies:=#[],finger:=t.finger,led:=t.led,moves:=t.movedTo m,plain:=t.plain},?_,hes,?_,?_⟩
 rotate_left
 ·rw[hes];exact⟨u3,u1,u2,rfl,.inr (by show(m=31/\_)\/(m=127/\_);omega),hp⟩
 ·rfl
 ·unfold relayAll SetTable.relaid;rw[ew,e];dsimp only;rw[hes,hfit];have hc:coversAll order es.size=L:=by unfold coversAll;exact List.isPerm_iff.mpr u4
  rw[hc];rfl
theorem acu{t t1:QZ}{n:Nat}(I:o4 t n) (hm:t1.mask=t.mask) (hs:t1.place.size=n+1) (hd:t1.dummies=#[]) (hn:n<64) :
  (t1.tooFull=L->(t1.mask=7/\n+1=5)\/(t1.mask=31/\n+1=19))/\(t1.tooFull=G->((t1.mask=7/\n+1<=4)\/(t1.mask=31/\n+1<=18)\/(t1.mask=127/\n+1<=76))):=by
 have hk:=I.mask;have hz:(#[]:Array Nat).size=0:=rfl;simp only[SetTable.tooFull,SetTable.fill,hs,hd,hm,hz,decide_eq_true_eq,decide_eq_false_iff_not];omega
theorem z9{n:Nat}(h:n<128):hashInt (n:Int)=n:=by
 have:((Ω 128).all λn=>hashInt n==n)=L:=by decide +kernel
 exact eq_of_beq (R8.mp this n (H8.mpr h))
def fX(w:π):Bool:=w.params.followText "set-order"
def gu(ns:List Nat) (x:Nat):List Nat:=if x∈ns then ns else ns++[x]
def iw(l:List (Int×S)) (ns:List Nat):Prop:=(l.map (·.1)).Perm (ns.map λn:Nat=>(n:Int))/\∀e∈l,∃(n:Nat) (tk:Tok),e=((n:Int),.int n tk)/\n<128
def dR(w:π) (h:χ) (a:J) (ns:List Nat):Prop:=∃o es ep t,h.get? a=Y o/\o.ExactSet/\o.data=.set es ep t/\o4 t es.size/\t.led = !fX w/\iw es.toList ns
theorem iw.hs{l:List (Int×S)}{ns:List Nat}(h:iw l ns):HS l:=λe he=>by
 obtain⟨n,tk,rfl,hn⟩:=h.2 e he;exact⟨n,rfl,hn⟩
theorem iw.len{l:List (Int×S)}{ns:List Nat}(h:iw l ns):l.length=ns.length:=by
 have:=h.1.length_eq;simpa using this
theorem iw.mem{l:List (Int×S)}{ns:List Nat}(h:iw l ns) (n:Nat):n∈ns↔∃e∈l,e.1=(n:Int):=by
 constructor
 ·intro hn;have:_∈l.map (·.1):=h.1.mem_iff.mpr (x6.mpr ⟨n,hn,rfl⟩);obtain⟨e,he,q⟩:=x6.mp this;exact⟨e,he,q⟩
 ·rintro ⟨e,he,q⟩
  have:_∈ns.map _:=h.1.mem_iff.mp (x6.mpr ⟨e,he,q⟩);obtain⟨m,hm,r⟩:=x6.mp this;have:m=n:=by omega
  exact this▸hm
theorem iw.perm{l l':List (Int×S)}{ns:List Nat}(h:iw l ns) (p:l'.Perm l):iw l' ns:=⟨(p.map _).trans h.1,λe he=>h.2 e (p.mem_iff.mp he)⟩
theorem iw.push{l:List (Int×S)}{ns:List Nat}(h:iw l ns) {m:Nat}(hm:m<128) (tk:Tok):iw (l++[((m:Int),.int m tk)]) (ns++[m]):=by
 refine⟨?_,λe he=>?_⟩
 ·rw[SO,SO];exact h.1.append_right _
 ·rcases RO.mp he with he|he
  ·exact h.2 e he
  ·rw[RG]at he;exact⟨m,tk,he,hm⟩
section
variable {prog:ο}{w:π}{A:ψ}{E:S->Ψ->Prop}{s:Ψ}
theorem iw.els{l:List (Int×S)}{ns:List Nat}(h:iw l ns):ElemsOf (intKind prog w) l:=λe he=>by
 obtain⟨n,tk,rfl,hn⟩:=h.2 e he;exact⟨⟨n,by simp[intKind,Value.isInt],(z9 hn).symm⟩,rfl⟩
theorem LN{h:χ}{a:J}{o:Obj}{es es':Array (Int×S)}{ep:Nat}{t t':QZ}(ho:h.get? a=Y o) (hd:o.data=.set es ep t) :
  (h.update a (Obj.putSet es' t')).get? a=Y {o with data:=.set es' (ep+1) t'}:=by
 have:=Sx (Obj.putSet es' t') ho (by rw[putSet_of es' t' hd];rfl)
 rwa[putSet_of es' t' hd]at this
theorem Ks{a:J}{ns:List Nat}{m:Nat}{tk:Tok}{Q:Bool->Ψ->Prop}(hm:m<128) (hS:dR w s.heap a ns) (hn:ns.length<64)
  (h:∀b h',SE a s.heap h'->dR w h' a (gu ns m)->Q b {s with heap:=h'}):wpAny (model prog w) A (setAddHashed a (.int m tk) (hashInt m)) Q E s:=by
 obtain⟨o,es,ep,t,ho,hex,hd,hI,hl,hs⟩:=hS;have hsz:es.size=ns.length:=by rw[<-R1];exact hs.len
 have hel:ElemsOf (intKind prog w) es.toList:=hs.els;have hkey:(intKind prog w).is (m:Int) (.int m tk)=L:=by simp[intKind,Value.isInt]
 refine Rj (Rc (Sa ho hd hI.fits ?_));dsimp only;rw[byScan_of rfl (by unfold scanBound;omega) hel]
 simp only[↓reduceIte];refine Rc (Rc (wpAny_rule (Rc (wpAny_setScan_of hkey ho hd hI.fits hel ?_))));have hfind:∀e∈es.toList,(intKind prog w).is (m:Int) e.2=L->e.1=(m:Int):=λe he q=>by
  obtain⟨n,tk',rfl,_⟩:=hs.2 e he;obtain⟨t',q⟩:=UY (show Value.isInt (m:Int) (.int (n:Int) tk')=L from q)
  injection q
 cases hr:es.toList.findIdx? (λe=>(intKind prog w).is (m:Int) e.2)with
 |some j =>
  dsimp only;obtain⟨hj,hpj,_⟩:=Vy.mp hr;have hmem:m∈ns:=(hs.mem m).mpr ⟨_,RH hj,hfind _ (RH hj) hpj⟩;refine Xd (Xd ?_);exact h G s.heap (Heap.SameBut.refl a s.heap) (by unfold gu;rw[if_pos hmem];exact⟨o,es,ep,t,ho,hex,hd,hI,hl,hs⟩)
 |none =>
  dsimp only;have hmem:m∉ns:=λhq=>by
   obtain⟨e,he,q⟩:=(hs.mem m).mp hq;have:=List.findIdx?_eq_none_iff.mp hr e he;obtain⟨n,tk',rfl,_⟩:=hs.2 e he;have e:n=m:=by dsimp only at q;omega
   subst e;simp[intKind,Value.isInt]at this
  have hst:gu ns m=ns++[m]:=by unfold gu;rw[if_neg hmem]
  rw[hst]at h;rw[z9 hm];have z6:=layNew_perm t es (m:Int) (.int m tk);obtain⟨es1,t1,e1,q1,q2,q3,q4,q5,q6,q7,q8,q9⟩:=ZZ hI hm (by omega)
  rw[e1]at z6 ⊢;dsimp only at z6 ⊢;rw[Uv]at z6;have hs1:=(hs.push hm tk).perm z6;refine Rc (Xd ?_);rw[q3];refine Rc ?_;rw[hashByValue_scannable 8 rfl];refine Xd ?_;dsimp only[plainKind];simp;refine Rc (wpAny_storeSet_of ho hd ?_ (fits_of_scanBound (by unfold scanBound;omega)))
  have FP:=LN (es':=es1) (t':=t1) ho hd;have k8:=SQ s.heap a (Obj.putSet es1 t1);have hcs:=acu hI q8 (q4.trans q1) q7 (by omega)
  cases hf:t1.tooFull with
  |false =>
   simp only[Bool.not_false,Bool.and_false,Sv,↓reduceIte];refine Xd (Xd (h L _ k8 ⟨_,es1,ep+1,t1,FP,hex,rfl,⟨q4,q5,q6,q7,?_,q3⟩,q2.trans hl,hs1⟩));rw[q1];exact hcs.2 hf
  |true =>
   simp only[Bool.not_false,Uu,↓reduceIte];have hp2:=relayAll_perm t1 es1 (SetTable.grown es1.size);obtain⟨xj,t2,e2,r1,r2,r3⟩:=ajf q3 hs1.hs (by rw[q1];exact hcs.1 hf)
   rw[e2]at hp2 ⊢;dsimp only at hp2 ⊢;refine Rc (Xd ?_);refine Rc (wpAny_storeSet_of FP rfl ?_ (fits_of_scanBound (by unfold scanBound;omega)))
   exact Xd (Xd (h L _ (k8.trans (SQ _ a _)) ⟨_,xj,ep+1+1,t2,LN FP rfl,hex,rfl,r2,r3.trans (q2.trans hl),hs1.perm hp2⟩))
end
def eZ(xs:List Nat):List Nat:=xs.foldl gu []
theorem acD{xs:List Nat}{i:Nat}(h:i<xs.length):eZ (xs.take (i+1))=gu (eZ (xs.take i)) xs[i]:=by
 unfold eZ;rw[Ut h,Vx];rfl
theorem O5:∀(xs ns:List Nat),ns.length<=(xs.foldl gu ns).length
 |[],ns=>ZA _
 |x::xs,ns=>by
  have:=O5 xs (gu ns x);have h:ns.length<=(gu ns x).length:=by unfold gu;split<;>simp
  rw[Si];omega
theorem acE(xs:List Nat) (i:Nat):(eZ (xs.take i)).length<=(eZ xs).length:=by
 have:eZ xs=(xs.drop i).foldl gu (eZ (xs.take i)):=by
  unfold eZ;rw[<-Vx,U7]
 rw[this];exact O5 _ _
theorem dR.at{w:π}{h h':χ}{a:J}{ns:List Nat}(x:dR w h a ns) (k:∀o,h.get? a=Y o->h'.get? a=Y o):dR w h' a ns :=
 let⟨o,es,ep,t,ho,r⟩:=x;⟨o,es,ep,t,k o ho,r⟩
section
variable {prog:ο}{w:π}{A:ψ}{s:Ψ}{E:S->Ψ->Prop}
theorem Kq{R:Result->Ψ->Prop}{I:J}{fp wr:List J}{ξ:Array GenState->Array GenState->Prop}{P:Nat->S->Prop}{St:Nat->Ψ->Prop}{xs:List Nat}
  (W:WalksS prog w A.in1 I fp wr ξ xs.length P St) (Γ:J) (hSf:Γ∉fp) (hval:∀(i:Nat) v,(hi:i<xs.length)->P i v->∃t,v=Value.int (xs[i]:Nat) t) (hx:∀x∈xs,x<128) (h64:(eZ xs).length<64) :
  ∀(k i:Nat) (s:Ψ),xs.length-i=k->i<=xs.length->St i s->dR w s.heap Γ (eZ (xs.take i)) ->
   (∀s',Moved (Γ::wr) ξ s s'->dR w s'.heap Γ (eZ xs)->R (.ok (.ret .none)) s') ->
   codeAny (model prog w) A (.builtin "set.update.loop" ⟨[.ref Γ,.ref I],[]⟩) R s:=by
 have OB:=λh=>hSf (W.sub _ h)
 have hup:∀b∈wr,b∈Γ::wr:=λb hb=>.tail _ hb
 intro k
 induction k with
 |zero =>
  intro i s hk hi st hS hR;cases(show i=xs.length by omega)
  refine TV F.entry_set_update_loop ?_;refine Rc (W.done s _ _ st λs' hm=>?_)
  rw[RN]at hS;exact Xd (hR s' (hm.mono hup) (hS.at λo e=>hm.heap Γ _ OB e))
 |succ k ih =>
  intro i s hk hi st hS hR;have hlt:i<xs.length:=by omega
  refine TV F.entry_set_update_loop ?_;rw[Around.under_plainId F.plain_set_update_loop _];refine Rc (W.item i s _ _ hlt st λv s' hP st' hm=>?_)
  obtain⟨t,rfl⟩:=hval i v hlt hP;refine Rc (Rj ?_);unfold setAdd;refine Rj (Rc ((intKind prog w).pyHash (k:=(xs[i]:Nat)) (by simp[intKind,Value.isInt]) ?_))
  refine Ks (s:={s' with toks:=s'.toks+1}) (hx _ (RH hlt)) (hS.at λo e=>hm.heap Γ _ OB e) (U6 (acE xs i) h64) λb h' k8 k9=>?_
  rw[<-acD hlt]at k9;refine Xd ⟨plainId_quiet F.plain_set_update_loop _,ih (i+1) _ (by omega) hlt (W.frame _ s' _ _ st' (Rx _) λb hb o e=>?_) k9 λs'' abw abY=>?_⟩
  ·rw[k8.2 b (λq:b=Γ=>hSf (q▸hb))];exact e
  ·refine hR s'' (Moved.trans W.gtrans ((hm.mono hup).then_heap (Rx _) λb o hb e=>?_) abw) abY
   rw[k8.2 b (λq:b=Γ=>hb (q▸.head _))];exact e
def eF(w:π):Obj:={cls:=.type "set",dict:=O,data:=.set #[] 0 (.fresh 0 0 (!fX w))}
theorem Gn(w:π) {h:χ}{a:J}(e:h.get? a=Y (eF w)):dR w h a [] :=
 ⟨_,#[],0,_,e,⟨rfl,rfl,rfl⟩,rfl,aiz _,rfl,.refl _,λe he=>by cases he⟩
theorem Kp(a:S) {Q₁:S->Ψ->Prop}(h:Q₁ (.ref s.heap.objs.size) {s with heap:=s.heap.push (eF w)}) :
  codeAny (model prog w) A (.call (.builtin "set.__new__") ⟨[.type "set",a],[]⟩) (wants Q₁ E) s:=by
 refine Us (show wpAny _ A.in1 _ _ _ s from ?_)
 refine Rc (Ss (PySem.F.newCall_set_1 a) (Xd ⟨plainId_quiet Vw _,TV PySem.F.entry_set_new ?_⟩));rw[Around.under_plainId Vw _];unfold Builtin.«set.__new__» Builtin.Frozenset.newClass;have hsub:=TU;obtain⟨hp,g,d,tk,os⟩:=s;dsimp only;wp_walk;refine Rv (Xd ?_);dsimp only;simp only[newObj];exact Rc (wpAny_alloc (Xd (Xd h)))
set_option maxHeartbeats 3200000 in
theorem aiC{l:J}{items:Array S}{xs:List Nat}{Q:S->Ψ->Prop}(hh:A.handled=O) (hl:s.heap.IsList l items) (hi:Rb items.toList (xs.map λn:Nat=>(n:Int))) (hx:∀x∈xs,x<128) (h64:(eZ xs).length<64)
  (h:∀(h':χ) (tk:Nat),dR w h' s.heap.objs.size (eZ xs)->(∀b o,b<s.heap.objs.size->s.heap.get? b=Y o->h'.get? b=Y o)->Q (.ref s.heap.objs.size) {s with heap:=h',toks:=tk}) :
  wpAny (model prog w) A (call (.type "set") [.ref l]) Q E s:=by
 obtain⟨c,tl,abu⟩:=RE.mro;have hmade:=RE.made;have hsub:=RE.sub;refine Sm (Us (show wpAny _ _ (callAny (.type "set") _) _ _ _ from ?_))
 refine Xd ⟨Code.quiet_builtin _ (by decide +kernel),TV Vu ?_⟩
 rw[Around.under_plain (Vt "set" [.ref l] []) rfl];have h1:=RE.notType;have h2:=RE.canCreate;have hct:=Vs (.ref l)
 repeat any_goals (first|assumption|wp_step)
 refine Rq (Kp (.ref l) (E:=E) (Q₁:=λobj s₁=>obj=.ref s.heap.objs.size/\s₁={s with heap:=s.heap.push (eF w)}) ⟨rfl,rfl⟩) λr s₁ hr=>?_
 cases r with
 |error e=>exact hr
 |ok fl =>
  cases fl with
  |ret obj =>
   obtain⟨rfl,rfl⟩:=hr;have hS:(s.heap.push (eF w)).get? s.heap.objs.size=Y (eF w):=E3 _ rfl;have hT:V9 {s with heap:=s.heap.push (eF w)} (.ref s.heap.objs.size) "set":=⟨_,hS,rfl⟩
   have hli:=RE.init.lookup;have hbi:=RE.init.bind (.ref s.heap.objs.size)
   repeat any_goals (first|assumption|wp_step)
   refine Rq (codeAny_call_builtin (R:=wants (λr s₂=>r=.none/\∃h' tk,s₂={s with heap:=h',toks:=tk}/\dR w h' s.heap.objs.size (eZ xs) /\
     (∀b o,b<s.heap.objs.size->s.heap.get? b=Y o->h'.get? b=Y o)) E) RE.init.plain Vr (check_set_init_1 hT ?_)) λr₂ s₂ qy=>?_
   ·obtain⟨ol,jg,hcl,nl,hdl⟩:=hl;obtain⟨YO,Eu,YF,Eg⟩:=ol;simp only at hcl hdl;subst hcl;subst hdl;have wK:(s.heap.push (eF w)).get? l=Y {cls:=.type "list",dict:=Eu,data:=.seq items nl,slots:=Eg}:=gn _ jg;have abd:=PySem.F.sub_list_set;have abe:=PySem.F.sub_list_frozenset;have hne:(Value.type "list"==Value.type "dict")=G:=by decide
    have hl1:(s.heap.push (eF w)).IsList l items:=⟨_,wK,rfl,nl,rfl⟩;unfold eF at hS hT wK ⊢;unfold Builtin.«set.__init__» noKeywords Builtin.Frozenset.updateFrom
    generalize F3:pyIter=PI
    wp_walk
    subst F3;refine T7 hl1 (Rc (wpAny_runValue ?_));have hlS:l<s.heap.objs.size:=lu jg;have hlen:items.size=xs.length:=by have:=hi.length;simpa using this
    have FQ:l≠(s.heap.push (eF w)).objs.size:=by rw[RK];exact AP (Se hlS)
    have hSf:s.heap.objs.size∉[(s.heap.push (eF w)).objs.size,l]:=by
     rw[RK];simp only[l8,R7,or_false,not_or];exact⟨AP (Rr _),Ri hlS⟩
    have W:=(Tj (prog:=prog) (w:=w) (A:=A.in1.in1.in1) (by simp[hh]) (s.heap.push (eF w)).objs.size l FQ items).toS
    rw[hlen]at W;refine Kq (xs:=xs) W s.heap.objs.size hSf (λi v hi' hv=>?_) hx h64 xs.length 0 _ (by omega) (RL _) ⟨⟨_,E3 _ rfl,rfl,rfl⟩,hl1.push _⟩ (Gn w (gn _ hS)) λs' hm hS'=>?_
    ·obtain⟨t,e⟩:=IntsAre.int_at hi i v (by rw[S2];exact hv)
     exact⟨t,by rw[e];simp[Q6,Bt hi']⟩
    ·obtain⟨h',g',d',tk',os'⟩:=s';cases(show g'=s.gens from hm.gens)
     cases(show d'=s.drawn from hm.drawn)
     cases(show os'=s.os from hm.os)
     refine Xd (Xd ⟨rfl,h',tk',rfl,hS',λb o hb e=>?_⟩)
     exact hm.heap b o (by rw[RK];simp only[l8,R7,or_false,not_or];exact⟨AP hb,AP (Se hb)⟩) (gn _ (gn _ e))
   ·cases r₂ with
    |error e=>exact qy
    |ok Gg =>
     cases Gg with
     |ret r =>
      obtain⟨rfl,h',tk,rfl,hS',hk'⟩:=qy
      repeat any_goals (first|assumption|wp_step)
      exact h _ _ hS' hk'
     |_=>exact qy.elim
  |_=>exact hr.elim
end
theorem rW:Slot "set_iterator" "__next__" "set_iterator.__next__" :=
 .of (owner:="set_iterator") (n:="__next__") (by rw[typeLookup_type,Vq];kernel_rfl) (by decide +kernel) (by decide +kernel)
  (by decide +kernel) (by first|exact .inl (by decide +kernel)|exact .inr (by decide +kernel)) (by rw[U5];kernel_rfl)
theorem JY:Slot "set_iterator" "__iter__" "set_iterator.__iter__" :=
 .of (owner:="set_iterator") (n:="__iter__") (by rw[typeLookup_type,Vq];kernel_rfl) (by decide +kernel) (by decide +kernel)
  (by decide +kernel) (by first|exact .inl (by decide +kernel)|exact .inr (by decide +kernel)) (by rw[U5];kernel_rfl)
theorem J0:entryFor table "set_iterator.__next__"=Y Builtin.«set_iterator.__next__»:=entryFor_of_tree (by kernel_rfl)
theorem ahO:entryFor table "set_iterator.__iter__"=Y Builtin.«dict_keyiterator.__iter__» :=
 Ur (id':="dict_keyiterator.__iter__") (by kernel_rfl) rfl (by decide +kernel) (by kernel_rfl)
theorem ahP:entryFor table "set.__iter__"=Y Builtin.«frozenset.__iter__» :=
 Ur (id':="frozenset.__iter__") (by kernel_rfl) rfl (by decide +kernel) (by kernel_rfl)
theorem JZ:Manifest.owners.lookup (String.ofList ['r','o','t','a','r','e','t','i','_','t','e','s'].reverse)=Y Manifest.sig_set_iterator:=by kernel_rfl
theorem J1(a:S):argsOk "set_iterator.__next__" ⟨[a],[]⟩:=by
 unfold argsOk;rw[signature?_of (n:=['_','_','t','x','e','n','_','_']) (by kernel_rfl) JZ];kernel_rfl
theorem ajc(a:S):argsOk "set_iterator.__iter__" ⟨[a],[]⟩:=by
 unfold argsOk;rw[signature?_of (n:=['_','_','r','e','t','i','_','_']) (by kernel_rfl) JZ];kernel_rfl
theorem acS{α:Type}{l:List α}{i:Nat}(h:i<l.length):([l[i]]++l.eraseIdx i).Perm l:=by
 rw[List.eraseIdx_eq_take_drop_succ];have e:l=l.take i++l[i]::l.drop (i+1):=by rw[<-UE h,U7]
 conv=>rhs;rw[e]
 exact(Vp (l₁:=l.take i)).symm
theorem LX{α:Type}(next:Nat->Nat):∀(fuel k:Nat) (left:List α) (out:Array α),fuel=left.length->(pickOrder.go next fuel k left out).toList.Perm (out.toList++left)
 |0,k,left,out,h=>by
  have:left=[]:=List.length_eq_zero_iff.mp h.symm;subst this;unfold pickOrder.go;simp
 |fuel+1,k,left,out,h=>by
  unfold pickOrder.go;have hlt:next k % left.length<left.length:=Nat.mod_lt _ (by omega)
  rw[Bt hlt];refine(LX next fuel _ _ _ (by rw[List.length_eraseIdx_of_lt hlt];omega)).trans ?_
  rw[Uv,RU];exact(acS hlt).append_left _
def iE(w:π) (a:J) (ep:Nat) (es:Array (Int×S)):Array (Int×S):=if fX w then pickOrder (w.params.setOrder a ep) es else es
theorem vJ(w:π) (a:J) (ep:Nat) (es:Array (Int×S)):(iE w a ep es).toList.Perm es.toList:=by
 unfold iE;split
 ·unfold pickOrder
  simpa using LX _ es.size 0 es.toList #[] (by simp)
 ·exact .rfl
def i6(b:Bool) (place:Array Nat):Nat->Nat
 |0=>0
 |i+1=>if b then 0 else place.toList.getD i 0+1
def lI(h:χ) (it a:J) (sl i n ep:Nat):Prop:=∃o,h.get? it=Y o/\o.cls=.type "set_iterator"/\o.data=.fields #[.int sl 0,.int i 0,.ref a,.int n 0,.int ep 0]
theorem lI.typeIs{s:Ψ}{it a:J}{sl i n ep:Nat}(h:lI s.heap it a sl i n ep):s.TypeIs (.ref it) "set_iterator":=let⟨o,ho,hc,_⟩:=h;⟨o,ho,hc⟩
theorem lI.at{h h':χ}{it a:J}{sl i n ep:Nat}(x:lI h it a sl i n ep) (k:∀o,h.get? it=Y o->h'.get? it=Y o):lI h' it a sl i n ep:=let⟨o,ho,r⟩:=x;⟨o,k o ho,r⟩
def iy(w:π) (h:χ) (a:J) (es:Array (Int×S)) (ep:Nat) (t:QZ):Prop:=∃o,h.get? a=Y o/\o.ExactSet/\o.data=.set es ep t/\o4 t es.size/\t.led = !fX w
theorem iy.at{w:π}{h h':χ}{a:J}{es:Array (Int×S)}{ep:Nat}{t:QZ}(x:iy w h a es ep t) (k:∀o,h.get? a=Y o->h'.get? a=Y o):iy w h' a es ep t:=let⟨o,ho,r⟩:=x;⟨o,k o ho,r⟩
section
variable {prog:ο}{w:π}{A:ψ}{E:S->Ψ->Prop}{s:Ψ}
theorem Ko{a:J}{es:Array (Int×S)}{ep i:Nat}{t:QZ}{Q:Option (S×Nat)->Ψ->Prop}(hS:iy w s.heap a es ep t) (hi:i<=es.size)
  (h:Q ((iE w a ep es)[i]?.map λe=>(e.2,i6 (fX w) t.place (i+1))) s):wpAny (model prog w) A (setNext a (i6 (fX w) t.place i) i ep) Q E s:=by
 obtain⟨o,ho,hex,hd,hI,hl⟩:=hS;refine Rc (Sa ho hd hI.fits ?_);refine Rc ?_;refine Rc (Rv (Xd ?_));show wpAny _ _ (if fX w=L then _ else _) _ _ _
 unfold iE at h;cases hb:fX w with
 |true =>
  rw[hb]at h;simp at h ⊢;refine Rc ?_;unfold setWalk;refine Rc (Sa ho hd hI.fits ?_);refine Rc ?_;unfold setsByText;refine Rc (Rv (Xd ?_));show wpAny _ _ (if fX w=L then _ else _) _ _ _
  rw[hb];refine Rc (Rv (Xd (Xd ?_)));have e:i6 L t.place (i+1)=i6 L t.place i:=by cases i<;>rfl
  rw[e]at h;exact h
 |false =>
  rw[hb]at h hl;simp at h ⊢;show wpAny _ _ (if(!t.plain&&decide (es.size>1))=L then _ else _) _ _ _
  rw[hI.plain];refine Rc (Ss (a:=()) ?_ ?_)
  ·show(if(!t.led && !es.isEmpty)=L then _ else _)=_
   rw[hl];rfl
  have hbl:SetTable.below t.place (i6 G t.place i)=i:=by
   cases i with
   |zero=>exact ad2 hI.up
   |succ i=>exact ad3 hI.up (by rw[R1,hI.size];omega)
  rw[hbl];refine Xd ?_
  rcases Ux i es.size with hlt|hge
  ·have hp:i<t.place.size:=by rw[hI.size];exact hlt
   rw[SN hlt]at h ⊢;rw[SN hp];have e:i6 G t.place (i+1)=t.place[i]+1:=by
    simp[i6,Q6,Bt (show i<t.place.toList.length by simpa using hp)]
   rw[e]at h;exact h
  ·rw[Uq hge]at h ⊢;exact h
end
section
variable {prog:ο}{w:π}{A:ψ}{E:S->Ψ->Prop}{s:Ψ}
theorem aaM{it a:J}{es:Array (Int×S)}{ep i:Nat}{t:QZ}{v:Int×S}{Q:Option S->Ψ->Prop}(hit:lI s.heap it a (i6 (fX w) t.place i) i es.size ep) (hS:iy w s.heap a es ep t) (hi:i<es.size)
  (hv:(iE w a ep es)[i]? = Y v) (hQ:∀h',lI h' it a (i6 (fX w) t.place (i+1)) (i+1) es.size ep->SE it s.heap h'->Q (Y v.2) {s with heap:=h'}) :
  wpAny (model prog w) A (pyNext (.ref it)) Q E s:=by
 obtain⟨o,ho,hc,hd⟩:=id hit;obtain⟨oS,hoS,Ou,hdS,hI,hl⟩:=id hS;refine Rc (wpAny_attempt (Sy hit.typeIs rW (Rp rW hit.typeIs J0 ?_ (J1 _))));refine Rc (Xd ?_);refine Rc (wpAny_fieldsOf ho hd ?_);refine Rc (TR hoS hdS hI.fits ?_);rw[if_neg (by simp)]
 refine Rc (Ko (ep:=ep) hS (SD hi) ?_);rw[hv];refine Rc (Su ho hd (by simp) ?_)
 have g1:=Sx (Obj.mapFields (·.setIfInBounds 0 (rawInt ((i6 (fX w) t.place (i+1)))))) ho (UI (Sd hd _));have d1:=Sd hd (·.setIfInBounds 0 (rawInt ((i6 (fX w) t.place (i+1)))));refine Rc (Su g1 d1 (by simp) ?_)
 refine Xd ⟨_,rfl,Xd (hQ _ ⟨_,(Sx (Obj.mapFields (·.setIfInBounds 1 (rawInt (i+1)))) g1 (UI (Sd d1 _))),?_,?_⟩ ((SQ ..).trans (SQ ..)))⟩
 ·exact(UH ..).trans ((UH ..).trans hc)
 ·rw[(Sd d1 (·.setIfInBounds 1 _))];simp[rawInt]
theorem aaN{it a:J}{es:Array (Int×S)}{ep:Nat}{t:QZ}{Q:Option S->Ψ->Prop}(hh:A.handled=O) (hit:lI s.heap it a (i6 (fX w) t.place es.size) es.size es.size ep) (hS:iy w s.heap a es ep t)
  (hQ:∀h',Heap.ExtBut it s.heap h'->Q O {s with heap:=h'}):wpAny (model prog w) A (pyNext (.ref it)) Q E s:=by
 obtain⟨o,ho,hc,hd⟩:=id hit;obtain⟨oS,hoS,Ou,hdS,hI,hl⟩:=id hS;refine Rc (wpAny_attempt (Sy hit.typeIs rW (Rp rW hit.typeIs J0 ?_ (J1 _))));refine Rc (Xd ?_);refine Rc (wpAny_fieldsOf ho hd ?_);refine Rc (TR hoS hdS hI.fits ?_);rw[if_neg (by simp)]
 refine Rc (Ko (ep:=ep) hS (ZA _) ?_);have hv:(iE w a ep es)[es.size]? = O:=by
  have:=(vJ w a ep es).length_eq;rw[R1,R1]at this;exact Uq (by omega)
 rw[hv];refine Rc (Su ho hd (by simp) ?_)
 refine Rc ?_;refine Rc (m:=firstArgMember _ _) (Ss (by first|rfl|(simp;rfl)) (S7 ?_ (by size_fits)))
 refine Rc (wpAny_handled ?_);rw[show A.in1.handled=O from hh]
 refine Rc (Xd (wpAny_throw ?_));refine Rc (TQ (b:=L) ⟨_,E3 _ rfl,rfl⟩ isSubtype_stop ?_);exact Xd (hQ _ (((SQ ..).extBut.push _).push _))
theorem aaL{it a:J}{sl i n ep:Nat}{Q:S->Ψ->Prop}(hit:lI s.heap it a sl i n ep) (h:Q (.ref it) s):wpAny (model prog w) A (pyIter (.ref it)) Q E s:=by
 exact wpAny_pyIter_slot hit.typeIs JY (Rp JY hit.typeIs ahO (show wpAny _ _ _ _ _ s from(Xd ⟨_,rfl,"set_iterator",_,hit.typeIs,rW.lookup,h⟩)) (ajc _))
theorem aiE(hh:A.handled=O) (I a:J) (hne:a≠I) (es:Array (Int×S)) (ep:Nat) (t:QZ) :
  Walks prog w A I [I,a] [I] es.size (λi v=>(iE w a ep es)[i]?.map (·.2)=Y v) (λi h=>lI h I a (i6 (fX w) t.place i) i es.size ep/\iy w h a es ep t) where
 sub:=λb hb=>by simp at hb;simp[hb]
 frame:=λ_ _ _ st hk=>⟨st.1.at λo e=>hk I (by simp) o e,st.2.at λo e=>hk a (by simp) o e⟩
 item:=λi s Q E hi st hQ=>by
  have hl:=(vJ w a ep es).length_eq;rw[R1,R1]at hl;have hv:_[i]? = Y (iE w a ep es)[i]:=SN (by omega)
  exact aaM st.1 st.2 hi hv λh' wM hs'=>hQ _ h' s.toks (by rw[hv];rfl) ⟨wM,st.2.at λo e=>hs'.extBut a o hne e⟩ λb o hb e=>hs'.extBut b o (λh=>hb (by simp[h])) e
 done:=λs Q E st hQ=>aaN hh st.1 st.2 λh' he'=>hQ h' s.toks λb o hb e=>he' b o (λh=>hb (by simp[h])) e
 self:=λ_ _ _ _ st hQ=>aaL st.1 hQ
theorem iy.typeIs{a:J}{es:Array (Int×S)}{ep:Nat}{t:QZ}(h:iy w s.heap a es ep t):s.TypeIs (.ref a) "set":=let⟨o,ho,hx,_⟩:=h;⟨o,ho,hx.1⟩
theorem aiA{a:J}{es:Array (Int×S)}{ep:Nat}{t:QZ}{Q:S->Ψ->Prop}(hS:iy w s.heap a es ep t)
  (hQ:Q (.ref s.heap.objs.size) {s with heap:=s.heap.push {cls:=.type "set_iterator",data:=.fields #[.int 0 0,.int 0 0,.ref a,.int es.size 0,.int ep 0]} }):wpAny (model prog w) A (pyIter (.ref a)) Q E s:=by
 obtain⟨oS,hoS,Ou,hdS,hI,hl⟩:=id hS;refine wpAny_pyIter_slot hS.typeIs Vo (Rp Vo hS.typeIs ahP ?_ (PySem.F.args_set_iter_1 _));refine Rc (Rc (Xd (Xd ?_)));refine Rc (Rc (TR hoS hdS hI.fits (Xd ?_)));refine Rc ?_;refine Rc (Sa hoS hdS hI.fits ?_);refine Rc ?_;refine Rc (Rv (Xd (Xd ?_)));have e:(!fX w&&(!t.plain&&decide (es.size>1)))=G:=by rw[hI.plain];simp
 show wpAny _ _ (if(!fX w&&(!t.plain&&decide _))=L then _ else _) _ _ _
 rw[e];refine Rc (Xd ?_);refine Rc (Uo hoS hdS hI.fits ?_);refine Rc ?_;refine S7 (Xd ⟨_,rfl,"set_iterator",_,⟨_,E3 _ rfl,rfl⟩,rW.lookup,?_⟩);exact hQ
end
end L2
namespace L2
open PySem PySem.Spec PyProof.Rows PySem.W
def jG(x:Nat):List Nat->List Nat
 |[]=>[x]
 |y::l=>if x<y then x::y::l else if x=y then y::l else y::jG x l
def cX:List Nat->List Nat
 |[]=>[]
 |x::l=>jG x (cX l)
theorem EV{x y:Nat}:∀{l:List Nat},y∈jG x l↔y=x\/y∈l
 |[]=>by simp[jG]
 |z::l=>by
  unfold jG;split
  ·simp
  ·split
   ·rename_i h;subst h;simp
   ·simp only[l8,EV]
    constructor
    ·rintro (h|h|h)<;>simp[h]
    ·rintro (h|h|h)<;>simp[h]
theorem Jt{x:Nat}:∀{l:List Nat},Up l->Up (jG x l)
 |[],_=>by simp[jG]
 |z::l,h=>by
  obtain⟨h1,h2⟩:=Rw.mp h;unfold jG;split
  ·rename_i hx;exact Rw.mpr ⟨λb hb=>by
    rcases l8.mp hb with rfl|hb
    ·exact hx
    ·exact Tp hx (h1 b hb),h⟩
  ·split
   ·exact h
   ·refine Rw.mpr ⟨λb hb=>?_,Jt h2⟩
    rcases EV.mp hb with rfl|hb
    ·omega
    ·exact h1 b hb
theorem uS:∀l:List Nat,Up (cX l)
 |[]=>.nil
 |x::l=>Jt (uS l)
theorem vR{y:Nat}:∀{l:List Nat},y∈cX l↔y∈l
 |[]=>by simp[cX]
 |x::l=>by simp[cX,EV,vR]
theorem up_eq:∀{l m:List Nat},Up l->Up m->(∀x,x∈l↔x∈m)->l=m
 |[],[],_,_,_=>rfl
 |[],y::m,_,_,h=>absurd ((h y).mpr (.head _)) (by simp)
 |x::l,[],_,_,h=>absurd ((h x).mp (.head _)) (by simp)
 |x::l,y::m,h1,h2,h=>by
  obtain⟨a1,a2⟩:=Rw.mp h1;obtain⟨b1,b2⟩:=Rw.mp h2;have e:x=y:=by
   rcases l8.mp ((h x).mp (.head _))with e|hx
   ·exact e
   ·rcases l8.mp ((h y).mpr (.head _))with e|hy
    ·exact e.symm
    ·have:=a1 y hy;have:=b1 x hx;omega
  subst e;rw[up_eq a2 b2 λz=>?_]
  constructor
  ·intro hz
   rcases l8.mp ((h z).mp (.tail _ hz))with e|q
   ·subst e;exact absurd (a1 z hz) (RQ _)
   ·exact q
  ·intro hz
   rcases l8.mp ((h z).mpr (.tail _ hz))with e|q
   ·subst e;exact absurd (b1 z hz) (RQ _)
   ·exact q
theorem Nu{ns:List Nat}{x y:Nat}:y∈gu ns x↔y∈ns\/y=x:=by
 unfold gu;split
 ·rename_i h;exact⟨.inl,λq=>q.elim id λe=>e▸h⟩
 ·simp
theorem Nd{ns:List Nat}{x:Nat}(h:ns.Nodup):(gu ns x).Nodup:=by
 unfold gu;split
 ·exact h
 ·rename_i hx;refine Ti.mpr ⟨h,by simp,λa ha b hb=>?_⟩
  rw[RG]at hb;subst hb;exact λe=>hx (e▸ha)
theorem vS:∀{xs ns:List Nat}{y:Nat},y∈xs.foldl gu ns↔y∈ns\/y∈xs
 |[],ns,y=>by simp
 |x::xs,ns,y=>by
  rw[Si,vS,Nu,l8,or_assoc]
theorem vM:∀{xs ns:List Nat},ns.Nodup->(xs.foldl gu ns).Nodup
 |[],_,h=>h
 |x::xs,_,h=>vM (xs:=xs) (Nd h)
theorem aiS{xs:List Nat}{zs:List Int}(h1:zs.Perm ((eZ xs).map λn:Nat=>(n:Int))) (h2:zs.Pairwise (·<=·)):zs=(cX xs).map λn:Nat=>(n:Int):=by
 have hz:∀z∈zs,∃n:Nat,z=n:=λz hz=>by
  obtain⟨n,_,e⟩:=x6.mp (h1.mem_iff.mp hz);exact⟨n,e.symm⟩
 have e:zs=(zs.map Int.toNat).map λn:Nat=>(n:Int):=by
  rw[P0]
  conv=>lhs;rw[<-U4 zs]
  refine R4 λz hq=>?_
  obtain⟨n,rfl⟩:=hz z hq;simp
 have hp:(zs.map Int.toNat).Perm (eZ xs):=by
  have:=h1.map Int.toNat;rw[P0]at this;refine this.trans (List.Perm.of_eq ?_)
  conv=>rhs;rw[<-U4 (eZ xs)]
  exact R4 λn _=>by simp
 have hnd:(zs.map Int.toNat).Nodup:=hp.nodup_iff.mpr (vM .nil);have hup:Up (zs.map Int.toNat):=by
  have hle:(zs.map Int.toNat).Pairwise (·<=·):=by
   rw[W0];exact h2.imp fun{a b} h=>by omega
  refine(hle.and hnd).imp fun{a b} h=>?_
  have h2:a≠b:=h.2;omega
 rw[e,up_eq hup (uS xs) λx=>by
  rw[hp.mem_iff,vR];unfold eZ;rw[vS];simp]
theorem Nc:∀{l:List Nat},Up l->l.Nodup:=fun{l} h=>h.imp fun{a b} h=>AP h
theorem yO(xs:List Nat):(cX xs).length=(eZ xs).length:=by
 have hp:(cX xs).Perm (eZ xs):=by
  refine(Vn (Nc (uS xs)) (vM .nil)).mpr λx=>?_
  rw[vR,vS];simp
 exact hp.length_eq
theorem Ju{l:List Nat}(h:Up l):∀i,i<l.length->i<=l.getD i 0
 |0,_=>RL _
 |i+1,hi=>by
  have a:=Ju h i (by omega)
  have b:=uT h (show i<i+1 by omega) hi
  omega
theorem CW{l:List Nat}(h:Up l) {m:Nat}(hm:∀x∈l,x<m):l.length<=m:=by
 rcases VF l.length with e|e
 ·omega
 ·have a:=Ju h (l.length-1) (by omega)
  have hi:l.length-1<l.length:=by omega
  have b:l.getD (l.length-1) 0<m:=hm _ (by rw[Q6,Bt hi];exact RH hi)
  omega
theorem N8:∀{l:List (Int×S)},(∀e∈l,∃(n:Nat) (tk:Tok),e=((n:Int),.int n tk)/\n<128)->Rb (l.map (·.2)) (l.map (·.1))
 |[],_=>.nil
 |e::l,h=>by
  obtain⟨n,tk,rfl,_⟩:=h e (.head _);exact .cons _ _ (N8 λe he=>h e (.tail _ he))
section
variable {prog:ο}{w:π}{A:ψ}{E:S->Ψ->Prop}{s:Ψ}
theorem abC{r:J}{Q:Bool->Ψ->Prop}(hT:s.TypeIs (.ref r) "set") (h:Q G s):wpAny (model prog w) A (Builtin.List.listLengthHint (.ref r)) Q E s:=by
 unfold Builtin.List.listLengthHint;refine Rc (wpAny_specialOf hT PySem.F.slot_set_len.lookup ?_)
 generalize hid:("set.__len__":String)=id0
 wp_delta
 rw[show splitId id0=Y ("set","__len__")from by subst hid;decide +kernel]
 subst hid;refine Rc (TQ (T:="set") (b:=L) hT TU ?_);refine wpAny_ite_split (λq=>absurd q (by decide)) λ_=>wpAny_ite_split (λ_=>?_) λq=>absurd (by decide +kernel) q
 exact Rc (wpAny_typeOf hT (Xd h))
theorem iy.lt{h:χ}{a:J}{es:Array (Int×S)}{ep:Nat}{t:QZ}(x:iy w h a es ep t):a<h.objs.size:=let⟨_,ho,_⟩:=x;lu ho
theorem aiX{a:J}{es:Array (Int×S)}{ep:Nat}{t:QZ}:KdlSrc prog w "set" a a es.size (λi v=>(iE w a ep es)[i]?.map (·.2)=Y v) (λh=>iy w h a es ep t) where
 type:=λ_ h=>h.typeIs
 there:=λ_ h=>⟨h.lt,h.lt⟩
 keep:=λ_ _ h k=>h.at λo e=>k a (.inl rfl) o e
 notList:=by decide
 notTuple:=by decide
 hint:=λ_ _ _ _ h q=>abC h.typeIs q
 iter:=λ_ s hh h=>⟨_,_,(λ_ _ q=>aiA h q),aiE hh _ a (AP h.lt) es ep t,⟨⟨_,E3 _ rfl,rfl,rfl⟩,h.at λo e=>gn _ e⟩⟩
theorem aiT{a:J}{xs:List Nat}{Q:S->Ψ->Prop}(hh:A.handled=O) (hS:dR w s.heap a (eZ xs)) (hn:(eZ xs).length<64)
  (h:∀(h1 h':χ) (tk c:Nat) (out:Array S),(∀b o,s.heap.get? b=Y o->h1.get? b=Y o)->(∀b o,h1.get? b=Y o->h'.get? b=Y o)->h'.get? h1.objs.size=Y (seqObj "list" out c) ->
   Rb out.toList ((cX xs).map λn:Nat=>(n:Int))->Q (.ref h1.objs.size) {s with heap:=h',toks:=tk}) :
  wpAny (model prog w) A (call (.builtin "sorted") [.ref a]) Q E s:=by
 obtain⟨o,es,ep,t,ho,hex,hd,hI,hl,hs⟩:=hS;have hlen:es.size<64:=by
  have h1:=hs.len;rw[R1]at h1;omega
 have hok:iy w s.heap a es ep t:=⟨o,ho,hex,hd,hI,hl⟩;refine Vm kind_sorted plain_sorted entry_sorted (args_sorted1 _) ?_;unfold Builtin.«sorted»;refine Rc (m:=checkCount "sorted" 1 1 _) (Xd ?_);refine Rc (kdu_collect (A:=A.in1) (aiX (prog:=prog)) hh hok (by rw[S9];omega) λh1 tk acc hk hacc=>?_)
 have uo:acc.toList=(iE w a ep es).toList.map (·.2):=by
  have hlo:=(vJ w a ep es).length_eq;rw[R1,R1]at hlo;apply Um;intro i
  rcases Ux i acc.size with q|q
  ·have h3:=hacc.2 i acc[i] (SN q);rw[Q9,S2,S2,h3,SN q]
  ·have h4:=hacc.1;rw[Rf (by simpa using q),Rf (by simp;omega)]
 have hp:=vJ w a ep es;have hI2:Rb acc.toList ((iE w a ep es).toList.map (·.1)):=by
  rw[uo];exact N8 λe he=>hs.2 e (hp.mem_iff.mp he)
 have hal:acc.toList.length<64:=by rw[R1,hacc.1];exact hlen
 refine Rc (wpAny_newList ?_ (by rw[S9];omega))
 have mj:(h1.push (seqObj "list" acc.toList.toArray 0)).get? h1.objs.size=Y (seqObj "list" acc.toList.toArray 0):=E3 _ rfl;refine Rc (Rj (Rp slot_list_sort ⟨_,mj,rfl⟩ entry_list_sort (list_sort_tree (s:={s with heap:=h1.push (seqObj "list" acc.toList.toArray 0),toks:=tk}) mj hI2 hal λout zs a1 a2 a3=>⟨_,rfl,?_⟩) (args_list_sort _)))
 refine Xd ⟨_,rfl,?_⟩;have hz:=aiS (a2.trans ((hp.map _).trans hs.1)) a3;rw[hz]at a1;have hne:∀b o,h1.get? b=Y o->b≠h1.objs.size:=λb o e=>AP (lu e)
 have g1:=U3 mj (λ_=>#[])
 have g2:=U3 (gn (seqObj "list" #[] 0) (gn (seqObj "tuple" acc.toList.toArray 0) g1)) λ_=>out
 refine h h1 _ tk _ out hk (λb o e=>?_) g2 a1
 have q:=Q8 (hne b o e);exact(S6 _ _ q).trans (gn _ (gn _ ((S6 _ _ q).trans (gn _ e))))
end
abbrev nV(ns:List Nat):List V:=ns.map λn:Nat=>V.int n
abbrev nD(ns:List Nat):List D:=ns.map λn:Nat=>D.int n
def ni(w:π) (a:J) (ns:List Nat):χ->Prop:=λh=>dR w h a (eZ ns)
theorem CU:∀{ns:List Nat}{us:List S},Vals (nV ns) us->Rb us (ns.map λn:Nat=>(n:Int))
 |[],_,.nil=>.nil
 |n::ns,_,.cons ⟨t,e⟩ r=>by subst e;exact .cons _ _ (CU r)
theorem QH:∀{ns:List Nat}{us:List S},Rb us (ns.map λn:Nat=>(n:Int))->Vals (nV ns) us
 |[],_,.nil=>.nil
 |n::ns,_,.cons _ t r=>.cons ⟨t,rfl⟩ (QH r)
theorem aiY(xs:List Nat):(cX xs).length<=xs.length:=by
 have h:∀(x:Nat) (l:List Nat),(jG x l).length<=l.length+1:=by
  intro x l
  induction l with
  |nil=>simp[jG]
  |cons y l ih =>
   unfold jG;split
   ·simp
   ·split
    ·simp
    ·simp only[Iv];omega
 induction xs with
 |nil=>exact ZA _
 |cons x xs ih=>have:=h x (cX xs);simp only[cX,Iv];omega
section
variable {X:Cx}
def ai4(X:Cx):List V->Hp->VK->Prop:=λxs H Q=>∃a ns,xs=[.ref a]/\bN X.K H a (nV ns)/\(cX ns).length<64/\(∀x∈ns,x<128)/\∀p,H p=O->Q (.ref p) (upd H p (.ext (ni X.w p ns)))
theorem PL(hc:X.calm=L:=by rfl):cP X (.type "set") (ai4 X):=by
 intro pins s Z H xs us Q I rv h;obtain⟨a,ns,rfl,sq,hb,hx,q⟩:=h;obtain⟨u,rfl,ru⟩:=R0 rv;cases ru;obtain⟨its,ri,pl,hz⟩:=I.list sq;refine aiC (xs:=ns) (I.ok.hd hc) pl.isList (by simpa using CU ri) hx (by rw[<-yO];exact hb) λh' tk hS kp=>?_
 have k9:=hS;obtain⟨o,es,ep,t,ho,_⟩:=k9;refine⟨.ref s.heap.objs.size,upd H s.heap.objs.size _,I.laid (t':=tk) (λb u e=>kp b u (lu e) e) (ZA _) ?_,rfl,q _ (I.hok.fresh (ZA _))⟩
 exact⟨hS,⟨o,ho⟩,λh1 h2 x k=>x.at k⟩
def ai7(X:Cx):List V->Hp->VK->Prop:=λxs H Q=>∃a ns,xs=[.ref a]/\H a=Y (.ext (ni X.w a ns))/\(cX ns).length<64/\∀p,H p=O->Q (.ref p) (upd H p (.lst (nV (cX ns))))
theorem adb(hc:X.calm=L:=by rfl):cP X (.builtin "sorted") (ai7 X):=by
 intro pins s Z H xs us Q I rv h;obtain⟨a,ns,rfl,hH,hn,q⟩:=h;obtain⟨u,rfl,ru⟩:=R0 rv;cases ru;obtain⟨hS,_,_⟩:=I.hok a _ hH;refine aiT (I.ok.hd hc) hS (by rw[<-yO];exact hn) λh1 h' tk c out k1 k2 hp hI=>?_
 have I1:Inv X pins Z H {s with heap:=h1,toks:=tk}:=I.kept k1
 have hf:H h1.objs.size=O:=I1.hok.fresh (ZA _);refine⟨.ref h1.objs.size,upd H h1.objs.size (.lst (nV (cX ns))),I1.laid (t':=tk) k2 (ZA _) ⟨?_,out.toList,c,QH hI,by simpa using hp⟩,rfl,q _ hf⟩
 simp only[x8];rw[S9];omega
def kg(l:List D):Option (List Nat):=match oi l with
 |some ns=>if ns.all (λn=>decide (0<=n/\n<128))=L/\(cX (ns.map Int.toNat)).length<64 then Y (ns.map Int.toNat)else O
 |none=>O
theorem ER{l:List D}{ns:List Nat}(h:kg l=Y ns):l=nD ns/\(cX ns).length<64/\∀x∈ns,x<128:=by
 unfold kg at h;split at h
 ·rename_i zs hz;split at h
  ·rename_i hc;cases h;refine⟨?_,hc.2,λx hx=>?_⟩
   ·rw[FF hz];unfold nD;rw[P0];refine R4 λz hq=>?_
    have:=of_decide_eq_true (R8.mp hc.1 z hq)
    congr 1;omega
   ·obtain⟨z,hq,rfl⟩:=x6.mp hx;have:=of_decide_eq_true (R8.mp hc.1 z hq);omega
  ·cases h
 ·cases h
theorem Nn{ns:List Nat}(h:(cX ns).length<64) (hx:∀x∈ns,x<128):kg (nD ns)=Y ns:=by
 unfold kg;have e:nD ns=(ns.map λn:Nat=>(n:Int)).map D.int:=by simp[nD]
 rw[e,FE];dsimp only;have e:(ns.map λn:Nat=>(n:Int)).map Int.toNat=ns:=by
  rw[P0];have:(Int.toNat ∘ λn:Nat=>(n:Int))=id:=by funext n;simp
  rw[this,U4]
 rw[e,if_pos ⟨R8.mpr λz hz=>by
  obtain⟨n,hn,rfl⟩:=x6.mp hz;have:=hx n hn;exact decide_eq_true (by omega),h⟩]
theorem DS{K:θ}{ρ:List J}{H:Hp}{ns:List Nat}{xs:List V}(h:aK K ρ H (nD ns) xs):xs=nV ns:=by
 have e:nD ns=(ns.map λn:Nat=>(n:Int)).map D.int:=by simp[nD]
 rw[e]at h;rw[aK.FD h];simp[nV]
theorem ajg{K:θ}{ρ:List J}{H:Hp}(ns:List Nat):aK K ρ H (nD ns) (nV ns):=by
 have e:nD ns=(ns.map λn:Nat=>(n:Int)).map D.int:=by simp[nD]
 have e':nV ns=(ns.map λn:Nat=>(n:Int)).map V.int:=by simp[nV]
 rw[e,e'];exact aK.ints
theorem qe(ns:List Nat):bB (nD ns)=L:=by
 have e:nD ns=(ns.map λn:Nat=>(n:Int)).map D.int:=by simp[nD]
 rw[e];exact Y4
def Bf(a:aj):af:=λe c=>(a e c).bind λxs c=>match xs with
 |[x]=>match fJ c x with
  |some l=>match kg l with
   |some ns=>.ok (.lst (nD (cX ns))) c
   |none=>.bad
  |none=>.bad
 |_=>.bad
theorem Wr{e:ν}{da:aj}{p1 p2 q1 q2:Pos}{f:List D->aa->R D}(ha:fY X [e] da) (hm:X.mg "sorted"=O) (hm2:X.mg "set"=O) (hg:Gl X "sorted") (oq:Gl X "set") (hc:X.calm=L)
  (he:ε [e] X.env=(G,eval e X.env)::ε [] X.env)
  (hf:∀xs c ρ H (Q:VK) vs,Wd X.K ρ H c->aK X.K ρ H xs vs->post X.K (Rel X.K) (f xs c) ρ H Q->∃a ns,vs=[.ref a]/\bN X.K H a (nV ns)/\(cX ns).length<64/\(∀x∈ns,x<128) /\
   ∀p,H p=O->∀q,upd H p (.ext (ni X.w p ns)) q=O->Q (.ref q) (upd (upd H p (.ext (ni X.w p ns))) q (.lst (nV (cX ns))))) :
  aP X (.Call (.Name "sorted" p1) [.Call (.Name "set" p2) [e] [] q2] [] q1) (aF f da):=by
 have abf:PE X (.Call (.Name "set" p2) [e] [] q2) _:=sC (PL hc) oq hm2 (by decide +kernel) ha (by decide) (by decide) he (by exact fK rfl)
 refine(D8 (adb hc) hg hm (by decide +kernel) (ic abf iN (c9 rfl)) (by decide) (by decide) (by exact c9 rfl) (by exact fK rfl)).imp λZ H Q h=>?_
 obtain⟨ρ,e,c,W,V,p⟩:=h;refine⟨ρ,e,c,W,V,post.bind p λxs c1 aJ H1 vs ex W1 X1 r1 p1=>?_⟩
 obtain⟨a,ns,rfl,sq,h64,hx,q⟩:=hf xs c1 aJ H1 Q vs W1 r1 p1;exact⟨a,ns,rfl,sq,h64,hx,λp hp=>⟨p,ns,rfl,cV,h64,λq' hq=>q p hp q' hq⟩⟩
def Kg:List D->aa->R D:=λxs c=>match xs with
 |[x]=>match fJ c x with
  |some l=>match kg l with
   |some ns=>.ok (.lst (nD (cX ns))) c
   |none=>.bad
  |none=>.bad
 |_=>.bad
theorem ak0{e:ν}{da:aj}{p1 p2 q1 q2:Pos}(ha:fY X [e] da) (hm:X.mg "sorted"=O) (hm2:X.mg "set"=O) (hg:Gl X "sorted":=by rfl) (oq:Gl X "set":=by rfl) (hc:X.calm=L:=by rfl)
  (he:ε [e] X.env=(G,eval e X.env)::ε [] X.env:=by exact c9 rfl):aP X (.Call (.Name "sorted" p1) [.Call (.Name "set" p2) [e] [] q2] [] q1) (Bf da) :=
 Wr (f:=Kg) ha hm hm2 hg oq hc he λxs c ρ H Q vs W r p=>by
  unfold Kg at p;split at p
  ·rename_i x;obtain⟨v,rr,rfl,hx,hr⟩:=r;cases hr;split at p
   ·rename_i l hl;split at p
    ·rename_i ns hn;obtain⟨rfl,h64,hx'⟩:=ER hn;obtain⟨a,ys,rfl,ha',rl⟩:=tO W hx hl;cases DS rl;refine⟨a,ns,rfl,bN.of ha',h64,hx',λq hq q' hq'=>?_⟩
     exact qg (W.fresh hq) (ajg _) (post.ext p (Ext.fresh W hq)) q' hq'
    ·exact p.elim
   ·exact p.elim
  ·exact p.elim
end
section
variable (a:aj) (e:Ev) (c:aa)
@[simp] theorem aa2:Bf a e c=(a e c).bind λxs c=>match xs with
 |[x]=>match fJ c x with
  |some l=>match kg l with
   |some ns=>.ok (.lst (nD (cX ns))) c
   |none=>.bad
  |none=>.bad
 |_=>.bad:=rfl
end
section
variable {prog:ο}{w:π}{A:ψ}{E:S->Ψ->Prop}{s:Ψ}
theorem ais{a:J}{ns:List Nat}{m:Nat}{tk:Tok}{Q:Option Nat->Ψ->Prop}(hm:m<128) (hS:dR w s.heap a ns) (hn:ns.length<64)
  (h:∀r:Option Nat,r.isSome=decide (m∈ns)->Q r s):wpAny (model prog w) A (setFind a (.int m tk) (m:Int)) Q E s:=by
 obtain⟨o,es,ep,t,ho,hex,hd,hI,hl,hs⟩:=hS;have hsz:es.size=ns.length:=by rw[<-R1];exact hs.len
 have hkey:(intKind prog w).is (m:Int) (.int m tk)=L:=by simp[intKind,Value.isInt]
 have:=wpAny_setFind_of (A:=A) (E:=E) (Q:=Q) hkey rfl (⟨o,es,ep,t,ho,hex,hd,hs.els,λk=>by rw[Sb],by unfold scanBound;omega,hI.fits,rfl⟩) λr hr=>h r (by
  rw[hr,RW,Sb,decide_eq_true_eq,hs.mem m]
  constructor
  ·rintro ⟨e,he,q⟩
   obtain⟨n,tk',rfl,_⟩:=hs.2 e he;obtain⟨t',q⟩:=UY (show Value.isInt (m:Int) (.int (n:Int) tk')=L from q)
   exact⟨_,he,by injection q⟩
  ·rintro ⟨e,he,q⟩
   obtain⟨n,tk',rfl,_⟩:=hs.2 e he;have e:n=m:=by dsimp only at q;omega
   subst e;exact⟨_,he,by simp[intKind,Value.isInt]⟩)
 have e:(intKind prog w).hash (m:Int)=(m:Int):=z9 hm
 rwa[e]at this
theorem ag9{a r:J}{others:List J}{es:Array (Int×S)}{ep:Nat}{t:QZ}{Q:Array (Int×S)->Ψ->Prop}(hS:iy w s.heap a es ep t) (h:Q (iE w a ep es) s):wpAny (model prog w) A (setWalkUnseen a others (Y r)) Q E s:=by
 obtain⟨o,ho,hex,hd,hI,hl⟩:=hS;have key:wpAny (model prog w) A (setWalk a) Q E s:=by
  refine Rc (Sa ho hd hI.fits ?_);refine Rc ?_;refine Rc (Rv (Xd ?_));show wpAny _ _ (if fX w=L then _ else _) _ _ _
  unfold iE at h;cases hb:fX w with
  |true =>
   rw[hb]at h;exact Rc (Rv (Xd h))
  |false =>
   rw[hb]at h hl;show wpAny _ _ (if(!t.plain&&decide (es.size>1))=L then _ else _) _ _ _
   rw[hI.plain];refine Rc (Ss (a:=()) ?_ (Xd h));show(if _=L then _ else _)=_
   rw[hl];rfl
 refine Rc (Sa ho hd hI.fits ?_);dsimp only;refine Rc ?_;refine Rc (Rv (Xd ?_));show wpAny _ _ (if(fX w||(t.led&&t.plain)||decide (es.size<=1))=L then _ else _) _ _ _
 rw[if_pos (by rw[hl,hI.plain];cases fX w<;>simp)]
 first|exact key|exact Rc key
theorem EL:∀{l m:List Nat},l.Nodup->(∀x∈l,x∈m)->l.length<=m.length
 |[],m,_,_=>RL _
 |x::l,m,h,hs=>by
  obtain⟨h1,h2⟩:=S8.mp h;have hx:=hs x (.head _);have:=EL h2 λy hy=>(W9 (λe:y=x=>h1 (by rw[<-e];exact hy))).mpr (hs y (.tail _ hy))
  rw[W8 hx]at this;have:=W7 hx;rw[Iv];omega
theorem aeb{asked walked r:J}{ns ms:List Nat}{es:Array (Int×S)}{ep:Nat}{t:QZ}{Q:Unit->Ψ->Prop}(id:String) (hra:asked≠r) (hrw:walked≠r) (ha:dR w s.heap asked ns) (hw:iy w s.heap walked es ep t) (hs:iw es.toList ms) (hr:dR w s.heap r []) (hn:ns.length<64)
  (h:∀(h':χ) (rs:List Nat),dR w h' r rs->rs.Nodup->(∀x,x∈rs↔x∈ns/\x∈ms)->(∀b o,b≠r->s.heap.get? b=Y o->h'.get? b=Y o)->Q () {s with heap:=h'}) :
  wpAny (model prog w) A (forIn (iE w walked ep es) PUnit.unit fun(p:Int×S) (_:PUnit)=>do
   holding [p.2] (do if(<-setFind asked p.2 p.1).isSome=L then(do let _ <-setAddHashed r p.2 p.1;pure PUnit.unit)else pure PUnit.unit)
   Builtin.Frozenset.unchanged id walked ep
   pure (ForInStep.yield PUnit.unit)) Q E s:=by
 have hp:=vJ w walked ep es;refine PySem.MeetsSeq2.wpAny_forIn_array _ (λrest _ s'=>∃(h':χ) (rs:List Nat) (done:List (Int×S)),s'={s with heap:=h'}/\(iE w walked ep es).toList=done++rest/\dR w h' r rs/\rs.Nodup/\(∀x:Nat,x∈rs↔x∈ns/\∃e∈done,e.1=(x:Int))/\(∀b o,b≠r->s.heap.get? b=Y o->h'.get? b=Y o)) _ ?_ ?_ _ _
  ⟨s.heap,[],[],rfl,rfl,hr,.nil,λx=>by simp,λ_ _ _ e=>e⟩
 ·rintro ⟨hx,x⟩ rest u s' ⟨h',rs,done,rfl,hl,hR,hnd,hmem,hk⟩
  have hin:(hx,x)∈es.toList:=hp.mem_iff.mp (by rw[hl];simp)
  obtain⟨n,tk,e,FT⟩:=hs.2 _ hin;cases e;have ha':dR w h' asked ns:=ha.at λo e=>hk asked o hra e
  have hw':=hw.at λo e=>hk walked o hrw e
  have hrl:rs.length<64:=U6 (EL hnd λx hx=>((hmem x).mp hx).1) hn
  have tail:∀Q' (h2:χ),(∀b o,b≠r->s.heap.get? b=Y o->h2.get? b=Y o)->Q' (.yield PUnit.unit) {s with heap:=h2} ->
    wpAny (model prog w) A (Builtin.Frozenset.unchanged id walked ep >>= λ_=>pure (ForInStep.yield PUnit.unit)) Q' E {s with heap:=h2}:=by
   intro Q' h2 q4 q;obtain⟨o,ho,_,hd,hI,_⟩:=hw.at λo e=>q4 walked o hrw e
   unfold Builtin.Frozenset.unchanged;refine Rc (Rc (Uo ho hd hI.fits ?_));rw[if_neg (by simp)]
   exact Xd (Xd q)
  dsimp only;refine Rc (Rj (Rc (ais (s:={s with heap:=h'}) FT ha' hn λres hres=>?_)))
  by_cases hq:n∈ns
  ·have FL:res.isSome=L:=by rw[hres];exact decide_eq_true hq
   rw[if_pos FL];have key:=Ks (prog:=prog) (A:=A) (E:=E) (s:={s with heap:=h'}) (tk:=tk) (Q:=λ_ s'=>∃h2,s'={s with heap:=h2}/\dR w h2 r (gu rs n)/\∀b o,b≠r->s.heap.get? b=Y o->h2.get? b=Y o) FT hR hrl
    λbb h2 k8 k9=>⟨h2,rfl,k9,λb o hb e=>by rw[k8.2 b hb];exact hk b o hb e⟩
   rw[(z9 FT)]at key;refine Rc (QW key (λbb s2 q=>?_) λ_ _ q=>q)
   obtain⟨h2,rfl,k9,hk2⟩:=q;refine Xd (tail _ h2 hk2 ⟨h2,gu rs n,done++[((n:Int),Value.int n tk)],rfl,by rw[hl];simp,k9,Nd hnd,λx=>?_,hk2⟩)
   rw[Nu,hmem x]
   constructor
   ·rintro (⟨a1,e,he,q⟩|rfl)
    ·exact⟨a1,e,by simp[he],q⟩
    ·exact⟨hq,((x:Int),Value.int x tk),by simp,rfl⟩
   ·rintro ⟨a1,e,he,q⟩
    rcases RO.mp he with he|he
    ·exact .inl ⟨a1,e,he,q⟩
    ·rw[RG]at he;subst he
     right
     dsimp only at q;omega
  ·have FL:¬(res.isSome=L):=by rw[hres];simpa using hq
   rw[if_neg FL];refine Xd (tail _ h' hk ⟨h',rs,done++[((n:Int),Value.int n tk)],rfl,by rw[hl];simp,hR,hnd,λx=>?_,hk⟩)
   rw[hmem x]
   constructor
   ·rintro ⟨a1,e,he,q⟩
    exact⟨a1,e,by simp[he],q⟩
   ·rintro ⟨a1,e,he,q⟩
    rcases RO.mp he with he|he
    ·exact⟨a1,e,he,q⟩
    ·rw[RG]at he;subst he;have e2:x=n:=by dsimp only at q;omega
     exact absurd (e2▸a1) hq
 ·rintro u s' ⟨h',rs,done,rfl,hl,hR,hnd,hmem,hk⟩
  rw[RY]at hl;refine h h' rs hR hnd (λx=>?_) hk
  rw[hmem x,hs.mem x,<-hl]
  constructor
  ·rintro ⟨a1,e,he,q⟩;exact⟨a1,e,hp.mem_iff.mp he,q⟩
  ·rintro ⟨a1,e,he,q⟩;exact⟨a1,e,hp.mem_iff.mpr he,q⟩
theorem aed(id:String) {a b:J}{ns ms:List Nat}{Q:S->Ψ->Prop}(hne:(Value.ref b==Value.ref a)=G) (ha:dR w s.heap a ns) (hb:dR w s.heap b ms) (hn:ns.length<64) (hm:ms.length<64) (hnd:ns.Nodup) (hmd:ms.Nodup)
  (h:∀(h':χ) (rs:List Nat),dR w h' s.heap.objs.size rs->rs.Nodup->(∀x,x∈rs↔x∈ns/\x∈ms)->(∀b o,s.heap.get? b=Y o->h'.get? b=Y o)->Q (.ref s.heap.objs.size) {s with heap:=h'}) :
  wpAny (model prog w) A (Builtin.Frozenset.intersection id a (.ref b)) Q E s:=by
 unfold Builtin.Frozenset.intersection;rw[if_neg (by rw[hne];exact QY)]
 refine Rc ?_;unfold Builtin.Frozenset.baseOf;refine Rc (TQ (by obtain⟨o,_,_,_,ho,hx,_⟩:=ha;exact⟨o,ho,hx.1⟩) TU (Xd ?_))
 simp only[if_true];refine Rc ?_;unfold newSet setsByText;refine Rc (Rc (Rv (Xd ?_)));dsimp only;simp only[newObj];refine Rc (wpAny_alloc (Xd ?_));refine Rc (Xd ?_);have abW:V9 {s with heap:=s.heap.push (eF w)} (.ref b) "set":=by obtain⟨o,_,_,_,ho,hx,_⟩:=hb;exact⟨o,gn _ ho,hx.1⟩
 refine Rc (Rj (Rc ?_));unfold Builtin.Frozenset.isAnySet;refine Rc (TQ (T:="set") (b:=L) abW TU ?_);refine Xd ?_;rw[if_pos rfl];refine Rc (Xd ?_);have ha1:dR w (s.heap.push (eF w)) a ns:=ha.at λo e=>gn _ e
 have hb1:dR w (s.heap.push (eF w)) b ms:=hb.at λo e=>gn _ e
 have OA:a≠s.heap.objs.size:=by obtain⟨o,_,_,_,ho,_⟩:=ha;exact AP (lu ho)
 have Ox:b≠s.heap.objs.size:=by obtain⟨o,_,_,_,ho,_⟩:=hb;exact AP (lu ho)
 have go:∀(asked walked:J) (ns' ms':List Nat),asked≠s.heap.objs.size->walked≠s.heap.objs.size->dR w (s.heap.push (eF w)) asked ns'->dR w (s.heap.push (eF w)) walked ms'->ns'.length<64->(∀x,(x∈ns'/\x∈ms')↔(x∈ns/\x∈ms)) ->
   wpAny (model prog w) A (do
    let was <-setEpoch walked
    let arr <-setWalkUnseen walked [asked,s.heap.objs.size] (Y s.heap.objs.size)
    forIn arr PUnit.unit fun(p:Int×S) (_:PUnit)=>do
     holding [p.2] (do if(<-setFind asked p.2 p.1).isSome=L then(do let _ <-setAddHashed s.heap.objs.size p.2 p.1;pure PUnit.unit)else pure PUnit.unit)
     Builtin.Frozenset.unchanged id walked was
     pure (ForInStep.yield PUnit.unit)
    pure ()) (λ_ s'=>wpAny (model prog w) A (pure (Value.ref s.heap.objs.size)) Q E s') E {s with heap:=s.heap.push (eF w)}:=by
  intro asked walked ns' ms' n1 n2 h1 h2 hl hmm;obtain⟨o,es,ep,t,ho,hex,hd,hI,Oo,hs⟩:=h2;refine Rc (Uo ho hd hI.fits ?_);refine Rc (ag9 (es:=es) (ep:=ep) (t:=t) ⟨o,ho,hex,hd,hI,Oo⟩ ?_);refine Rc (aeb id n1 n2 h1 ⟨o,ho,hex,hd,hI,Oo⟩ hs (Gn w (E3 _ rfl)) hl λh' rs q1 q2 q3 q4=>?_)
  refine Xd (Xd (h h' rs q1 q2 (λx=>(q3 x).trans (hmm x)) λb' o' e=>q4 b' o' (AP (lu e)) (gn _ e)))
 obtain⟨oa,esa,epa,ta,hoa,_,hda,hIa,_,_⟩:=_root_.id ha1;obtain⟨ob,esb,epb,tb,hob,_,hdb,hIb,_,_⟩:=_root_.id hb1;unfold Builtin.Frozenset.sizeOf;refine Rc (Rc (TR hob hdb hIb.fits (Xd ?_)));refine Rc (Rc (TR hoa hda hIa.fits (Xd ?_)))
 by_cases hsz:esb.size>esa.size
 ·simp only[if_pos hsz];exact go b a ms ns Ox OA hb1 ha1 hm λx=>⟨fun⟨u,v⟩=>⟨v,u⟩,fun⟨u,v⟩=>⟨v,u⟩⟩
 ·simp only[if_neg hsz];exact go a b ns ms OA Ox ha1 hb1 hn λx=>Iff.rfl
theorem ahN:entryFor table "set.__and__"=Y Builtin.«frozenset.__and__» :=
 Ur (id':="frozenset.__and__") (by kernel_rfl) rfl (by decide +kernel) (by kernel_rfl)
theorem Qx{v:S}{Q:Bool->Ψ->Prop}(hT:s.TypeIs v "set") (h:Q L s):wpAny (model prog w) A (Builtin.Frozenset.isAnySet v) Q E s:=by
 exact Rc (TQ (b:=L) hT TU (Xd h))
theorem air{a b:J}{ns ms:List Nat}{Q:S->Ψ->Prop}(hab:a≠b) (ha:dR w s.heap a ns) (hb:dR w s.heap b ms) (hn:ns.length<64) (hm:ms.length<64) (hnd:ns.Nodup) (hmd:ms.Nodup)
  (h:∀(h':χ) (rs:List Nat),dR w h' s.heap.objs.size rs->rs.Nodup->(∀x,x∈rs↔x∈ns/\x∈ms)->(∀b o,s.heap.get? b=Y o->h'.get? b=Y o)->Q (.ref s.heap.objs.size) {s with heap:=h'}) :
  wpAny (model prog w) A (binaryOp .BitAnd (.ref a) (.ref b)) Q E s:=by
 have hTa:s.TypeIs (.ref a) "set":=by obtain⟨o,_,_,_,ho,hx,_⟩:=ha;exact⟨o,ho,hx.1⟩
 have hTb:s.TypeIs (.ref b) "set":=by obtain⟨o,_,_,_,ho,hx,_⟩:=hb;exact⟨o,ho,hx.1⟩
 refine wpAny_binaryOp_same hTa hTb PySem.F.fills_set_and Vl (Rp Vl hTa ahN ?_ (PySem.F.args_set_and_2 _ _));unfold Builtin.«frozenset.__and__»;show wpAny _ _ (Builtin.Frozenset.slot1 "__and__" ⟨[.ref a,.ref b],[]⟩ >>= _) _ _ _;refine Rc (Rc (Xd (Xd ?_)));dsimp only;simp only[Sv,if_false];refine Rc (Rc (Qx hTa ?_));refine Qx hTb ?_;simp only[Bool.not_true,Sv,if_false];refine Rc (Xd ?_);refine Rc (aed _ (by simpa using Q8 hab) ha hb hn hm hnd hmd λh' rs q1 q2 q3 q4=>?_)
 exact Xd ⟨_,rfl,(λe=>by cases e),h h' rs q1 q2 q3 q4⟩
end
theorem sub_tuple_set:isSubtype (.type "tuple") (.type "set")=pure G:=by rw[U5];kernel_rfl
theorem sub_tuple_frozenset:isSubtype (.type "tuple") (.type "frozenset")=pure G:=by rw[U5];kernel_rfl
section
variable {prog:ο}{w:π}{A:ψ}{s:Ψ}{E:S->Ψ->Prop}
set_option maxHeartbeats 3200000 in
theorem aiD{l:J}{items:Array S}{xs:List Nat}{Q:S->Ψ->Prop}(hh:A.handled=O) (hl:s.heap.IsTuple l items) (hi:Rb items.toList (xs.map λn:Nat=>(n:Int))) (hx:∀x∈xs,x<128) (h64:(eZ xs).length<64)
  (h:∀(h':χ) (tk:Nat),dR w h' s.heap.objs.size (eZ xs)->(∀b o,b<s.heap.objs.size->s.heap.get? b=Y o->h'.get? b=Y o)->Q (.ref s.heap.objs.size) {s with heap:=h',toks:=tk}) :
  wpAny (model prog w) A (call (.type "set") [.ref l]) Q E s:=by
 obtain⟨c,tl,abu⟩:=RE.mro;have hmade:=RE.made;have hsub:=RE.sub;refine Sm (Us (show wpAny _ _ (callAny (.type "set") _) _ _ _ from ?_))
 refine Xd ⟨Code.quiet_builtin _ (by decide +kernel),TV Vu ?_⟩
 rw[Around.under_plain (Vt "set" [.ref l] []) rfl];have h1:=RE.notType;have h2:=RE.canCreate;have hct:=Vs (.ref l)
 repeat any_goals (first|assumption|wp_step)
 refine Rq (Kp (.ref l) (E:=E) (Q₁:=λobj s₁=>obj=.ref s.heap.objs.size/\s₁={s with heap:=s.heap.push (eF w)}) ⟨rfl,rfl⟩) λr s₁ hr=>?_
 cases r with
 |error e=>exact hr
 |ok fl =>
  cases fl with
  |ret obj =>
   obtain⟨rfl,rfl⟩:=hr;have hS:(s.heap.push (eF w)).get? s.heap.objs.size=Y (eF w):=E3 _ rfl;have hT:V9 {s with heap:=s.heap.push (eF w)} (.ref s.heap.objs.size) "set":=⟨_,hS,rfl⟩
   have hli:=RE.init.lookup;have hbi:=RE.init.bind (.ref s.heap.objs.size)
   repeat any_goals (first|assumption|wp_step)
   refine Rq (codeAny_call_builtin (R:=wants (λr s₂=>r=.none/\∃h' tk,s₂={s with heap:=h',toks:=tk}/\dR w h' s.heap.objs.size (eZ xs) /\
     (∀b o,b<s.heap.objs.size->s.heap.get? b=Y o->h'.get? b=Y o)) E) RE.init.plain Vr (check_set_init_1 hT ?_)) λr₂ s₂ qy=>?_
   ·obtain⟨ol,jg,hcl,nl,hdl⟩:=hl;obtain⟨YO,Eu,YF,Eg⟩:=ol;simp only at hcl hdl;subst hcl;subst hdl;have wK:(s.heap.push (eF w)).get? l=Y {cls:=.type "tuple",dict:=Eu,data:=.seq items nl,slots:=Eg}:=gn _ jg;have abd:=sub_tuple_set;have abe:=sub_tuple_frozenset;have hne:(Value.type "tuple"==Value.type "dict")=G:=by decide
    have hl1:(s.heap.push (eF w)).IsTuple l items:=⟨_,wK,rfl,nl,rfl⟩;unfold eF at hS hT wK ⊢;unfold Builtin.«set.__init__» noKeywords Builtin.Frozenset.updateFrom
    generalize F3:pyIter=PI
    wp_walk
    subst F3;refine T6 hl1 (Rc (wpAny_runValue ?_));have hlS:l<s.heap.objs.size:=lu jg;have hlen:items.size=xs.length:=by have:=hi.length;simpa using this
    have FQ:l≠(s.heap.push (eF w)).objs.size:=by rw[RK];exact AP (Se hlS)
    have hSf:s.heap.objs.size∉[(s.heap.push (eF w)).objs.size,l]:=by
     rw[RK];simp only[l8,R7,or_false,not_or];exact⟨AP (Rr _),Ri hlS⟩
    have W:=(Walks.tuple (prog:=prog) (w:=w) (A:=A.in1.in1.in1) (by simp[hh]) (s.heap.push (eF w)).objs.size l FQ items).toS
    rw[hlen]at W;refine Kq (xs:=xs) W s.heap.objs.size hSf (λi v hi' hv=>?_) hx h64 xs.length 0 _ (by omega) (RL _) ⟨⟨_,E3 _ rfl,rfl,rfl⟩,hl1.at λo e=>gn _ e⟩ (Gn w (gn _ hS)) λs' hm hS'=>?_
    ·obtain⟨t,e⟩:=IntsAre.int_at hi i v (by rw[S2];exact hv)
     exact⟨t,by rw[e];simp[Q6,Bt hi']⟩
    ·obtain⟨h',g',d',tk',os'⟩:=s';cases(show g'=s.gens from hm.gens)
     cases(show d'=s.drawn from hm.drawn)
     cases(show os'=s.os from hm.os)
     refine Xd (Xd ⟨rfl,h',tk',rfl,hS',λb o hb e=>?_⟩)
     exact hm.heap b o (by rw[RK];simp only[l8,R7,or_false,not_or];exact⟨AP hb,AP (Se hb)⟩) (gn _ (gn _ e))
   ·cases r₂ with
    |error e=>exact qy
    |ok Gg =>
     cases Gg with
     |ret r =>
      obtain⟨rfl,h',tk,rfl,hS',hk'⟩:=qy
      repeat any_goals (first|assumption|wp_step)
      exact h _ _ hS' hk'
     |_=>exact qy.elim
  |_=>exact hr.elim
end
def Dq(w:π) (a:J) (rs:List Nat):χ->Prop:=λh=>dR w h a rs
def lB(ns ms:List Nat):Nat:=((cX ns).filter λx=>decide (x∈ms)).length
theorem ad0{ns ms rs:List Nat}(hn:rs.Nodup) (h:∀x,x∈rs↔x∈ns/\x∈ms):rs.length=lB ns ms:=by
 have hp:rs.Perm ((cX ns).filter λx=>decide (x∈ms)):=by
  refine(Vn hn ((Nc (uS ns)).filter _)).mpr λx=>?_
  rw[h x,RV,vR,decide_eq_true_eq]
 exact hp.length_eq
section
variable {X:Cx}
def ai2(X:Cx):List V->Hp->VK->Prop:=λxs H Q=>∃a ns,xs=[.ref a]/\(bN X.K H a (nV ns)\/ck X.K H a (nV ns))/\(cX ns).length<64/\(∀x∈ns,x<128)/\∀p,H p=O->Q (.ref p) (upd H p (.ext (ni X.w p ns)))
theorem PM(hc:X.calm=L:=by rfl):cP X (.type "set") (ai2 X):=by
 intro pins s Z H xs us Q I rv h;obtain⟨a,ns,rfl,sq,hb,hx,q⟩:=h
 rcases sq with sq|sq
 ·exact PL hc pins s Z H _ us Q I rv ⟨a,ns,rfl,sq,hb,hx,q⟩
 ·obtain⟨u,rfl,ru⟩:=R0 rv;cases ru;obtain⟨its,ri,pl,hz⟩:=I.tuple sq;refine aiD (xs:=ns) (I.ok.hd hc) (show s.heap.IsTuple a its.toArray from pl) (by simpa using CU ri) hx (by rw[<-yO];exact hb) λh' tk hS kp=>?_
  have k9:=hS;obtain⟨o,es,ep,t,ho,_⟩:=k9;refine⟨.ref s.heap.objs.size,upd H s.heap.objs.size _,I.laid (t':=tk) (λb u e=>kp b u (lu e) e) (ZA _) ?_,rfl,q _ (I.hok.fresh (ZA _))⟩
  exact⟨hS,⟨o,ho⟩,λh1 h2 x k=>x.at k⟩
def akP(X:Cx):R2:=λx y H Q=>∃a b ns ms,x=.ref a/\y=.ref b/\a≠b/\H a=Y (.ext (ni X.w a ns))/\H b=Y (.ext (ni X.w b ms))/\(cX ns).length<64/\(cX ms).length<64 /\
 ∀p rs,H p=O->rs.length=lB ns ms->rs.length<64->Q (.ref p) (upd H p (.ext (Dq X.w p rs)))
theorem Xz:bC X (binaryOp .BitAnd) (akP X):=by
 intro pins s Z H x y v u Q I rx ry h;obtain⟨a,b,ns,ms,rfl,rfl,hab,ha,hb,h1,h2,q⟩:=h;cases rx;cases ry;obtain⟨hA,_,_⟩:=I.hok a _ ha;obtain⟨hB,_,_⟩:=I.hok b _ hb;rw[yO]at h1 h2;refine air hab hA hB h1 h2 (vM .nil) (vM .nil) λh' rs q1 q2 q3 q4=>?_
 have hmem:∀x,x∈rs↔x∈ns/\x∈ms:=λx=>by
  rw[q3 x];unfold eZ;rw[vS,vS];simp
 have akO:=q1;obtain⟨o,es,ep,t,ho,_⟩:=akO;refine⟨.ref s.heap.objs.size,upd H s.heap.objs.size (.ext (Dq X.w s.heap.objs.size rs)),I.laid (t':=s.toks) q4 (ZA _) ⟨q1,⟨o,ho⟩,λh1 h2 x k=>x.at k⟩,rfl,q _ rs (I.hok.fresh (ZA _)) (ad0 q2 hmem) (U6 (EL q2 λx hx=>((q3 x).mp hx).1) h1)⟩
def akc(X:Cx):List V->Hp->VK->Prop:=λxs H Q=>∃a rs,xs=[.ref a]/\H a=Y (.ext (Dq X.w a rs))/\rs.length<64/\Q (.int (rs.length:Nat)) H
theorem adg:cP X (.builtin "len") (akc X):=by
 intro pins s Z H xs us Q I rv h;obtain⟨a,rs,rfl,hH,hn,q⟩:=h;obtain⟨u,rfl,ru⟩:=R0 rv;cases ru;obtain⟨hS,_,_⟩:=I.hok a _ hH;obtain⟨o,es,ep,t,ho,hex,hd,hI,hl,hs⟩:=hS;have he:es.size=rs.length:=by rw[<-R1];exact hs.len
 refine call_len_set ho hex hd hI.fits (by rw[he];omega) ⟨.int _,H,I.tok _,⟨_,by rw[he]⟩,q⟩
def lW(c:aa):D->Option (List Nat)
 |.tup l=>kg l
 |x=>match fJ c x with
  |some l=>kg l
  |none=>O
theorem Np{K:θ}{ρ:List J}{H:Hp}{c:aa}{x:D}{v:V}{ns:List Nat}(W:Wd K ρ H c) (r:Rel K ρ H x v) (h:lW c x=Y ns):∃a,v=.ref a/\(bN K H a (nV ns)\/ck K H a (nV ns))/\(cX ns).length<64/\∀x∈ns,x<128:=by
 unfold lW at h;split at h
 ·obtain⟨rfl,h64,hx⟩:=ER h;obtain⟨a,xs,rfl,ha,rl⟩:=r;cases DS rl;exact⟨a,rfl,.inr (ck.of ha),h64,hx⟩
 ·split at h
  ·rename_i l hl;obtain⟨rfl,h64,hx⟩:=ER h;obtain⟨a,ys,rfl,ha,rl⟩:=tO W r hl;cases DS rl;exact⟨a,rfl,.inl (bN.of ha),h64,hx⟩
  ·cases h
def uw(a b:aj):af:=λe c=>(a e c).bind λxs c=>match xs with
 |[x]=>match lW c x with
  |some ns=>(b e c).bind λys c=>match ys with
   |[y]=>match lW c y with
    |some ms=>.ok (.int (lB ns ms:Nat)) c
    |none=>.bad
   |_=>.bad
  |none=>.bad
 |_=>.bad
theorem aj6{a b:ν}{da db:aj}{p0 p1 p2 q0 q1 q2 q3:Pos}(ha:fY X [a] da) (hb:fY X [b] db) (hm:X.mg "len"=O) (hm2:X.mg "set"=O) (hg:Gl X "len":=by rfl) (oq:Gl X "set":=by rfl) (hc:X.calm=L:=by rfl)
  (he:ε [a] X.env=(G,eval a X.env)::ε [] X.env:=by exact c9 rfl) (he2:ε [b] X.env=(G,eval b X.env)::ε [] X.env:=by exact c9 rfl) :
  aP X (.Call (.Name "len" p0) [.BinOp (.Call (.Name "set" p1) [a] [] q1) .BitAnd (.Call (.Name "set" p2) [b] [] q2) q3] [] q0) (uw da db):=by
 have h1:PE X (.Call (.Name "set" p1) [a] [] q1) _:=sC (PM hc) oq hm2 (by decide +kernel) ha (by decide) (by decide) he (by exact fK rfl)
 have h2:PE X (.Call (.Name "set" p2) [b] [] q2) _:=sC (PM hc) oq hm2 (by decide +kernel) hb (by decide) (by decide) he2 (by exact fK rfl)
 refine(D8 adg hg hm (by decide +kernel) (ic (L5 Xz h1 h2) iN (c9 rfl)) (by decide) (by decide) (by exact c9 rfl) (by exact fK rfl)).imp λZ H Q h=>?_
 obtain⟨ρ,e,c,W,V,p⟩:=h;refine⟨ρ,e,c,W,V,post.bind p λxs c1 aJ H1 vs ex W1 X1 r1 p1=>?_⟩
 clear ex;split at p1
 ·rename_i x;obtain⟨v,r,rfl,hx,hr⟩:=r1;cases hr;split at p1
  ·rename_i ns hn;obtain⟨ad,rfl,sq,h64,hx'⟩:=Np W1 hx hn;refine⟨ad,ns,rfl,sq,h64,hx',λpa hpa=>?_⟩
   refine⟨aJ,e,c1,W1.fresh hpa,(V.mono W X1).mono W1 (Ext.fresh W1 hpa),post.bind (post.ext p1 (Ext.fresh W1 hpa)) λys c2 bS H2 vs2 ex2 W2 X2 r2 p2=>?_⟩
   clear ex2;split at p2
   ·rename_i y;obtain⟨v2,r',rfl,hy,hr'⟩:=r2;cases hr';split at p2
    ·rename_i ms hm';obtain⟨bd,rfl,aiV,OG,hy'⟩:=Np W2 hy hm';refine⟨bd,ms,rfl,aiV,OG,hy',λpb FO=>?_⟩
     have abj:pa∉aJ:=W1.nil hpa;have F5:=(X2.keep pa _ cV abj rfl).1;have hne:pa≠pb:=λz=>by rw[z,FO]at F5;cases F5
     refine⟨pa,pb,ns,ms,rfl,rfl,hne,by rw[aV hne];exact F5,cV,h64,OG,λpr rs Oi hl abz=>?_⟩
     refine⟨pr,rs,rfl,cV,abz,?_⟩;rw[hl];have W3:=W2.fresh (o:=.ext (ni X.w pb ms)) FO;exact p2 bS _ _ (W3.fresh Oi) ((Ext.fresh W2 FO).trans (Ext.fresh W3 Oi)) rfl
    ·exact p2.elim
   ·exact p2.elim
  ·exact p1.elim
 ·exact p1.elim
end
@[simp] theorem aeU(a b:aj) (e:Ev) (c:aa):uw a b e c=(a e c).bind λxs c=>match xs with
 |[x]=>match lW c x with
  |some ns=>(b e c).bind λys c=>match ys with
   |[y]=>match lW c y with
    |some ms=>.ok (.int (lB ns ms:Nat)) c
    |none=>.bad
   |_=>.bad
  |none=>.bad
 |_=>.bad:=rfl
theorem aiZ{a b:ν}{env:Env}{pos:Pos}(h:isStar a=G) (g:isStar b=G):((ω pos (ε [a,b] env)).all (λx=>!x.1)&&(RA pos (RB [] env)).all (λx=>x.1.isSome)
   && decide ([a,b].length+([]:List QX).length+(if([]:List QX).isEmpty then 0 else 1)<30))=L:=by
 rw[Kc h g];simp[ω,RA,RB]
section
variable {X:Cx}
def akY:V->List V->Hp->VK->Prop:=λx vs H Q=>∃l xs y,∃i:Int,x=.ref l/\vs=[.int i,y]/\H l=Y (.lst xs)/\(0<=i/\i<=xs.length)/\xs.length<Ξ/\Q .aE (upd H l (.lst (xs.take i.toNat++y::xs.drop i.toNat)))
theorem Zs:rE X "list.insert" akY:=by
 intro pins s Z H x vs v us Q I rx rv h;obtain⟨l,xs,y,i,rfl,rfl,hH,hi,hz,q⟩:=h;cases rx;cases rv with
 |cons r0 rr =>
  cases rr with
  |cons ru rr =>
   cases rr;obtain⟨t,rfl⟩:=r0;rename_i u;obtain⟨z,its,n,r,hl,e⟩:=I.nW hH;have hsl:Ξ<2^62:=by decide
   have hfit:¬(!Builtin.List.listFitsIndex i)=L:=by
    have:Builtin.List.listFitsIndex i=L:=by
     unfold Builtin.List.listFitsIndex;simp;omega
    rw[this];decide
   refine Rg F.slot_list_insert ⟨_,e,rfl⟩ F.entry_list_insert (F.args_list_insert_3 _ _ _) (AutoSeq1.list_insert_list_int_val_1 l its.toArray n i t u hfit (by rw[E4];omega)) ⟨e,?_⟩
   refine⟨.aE,_,I.Fc hH e ?_ ((r.take i.toNat).append (.cons ru (r.drop i.toNat))) ?_,rfl,q⟩
   ·have hk:(if i<0 then(i+(its.toArray.size:Int)).toNat else min i.toNat its.toArray.size)=i.toNat:=by
     rw[if_neg (by omega),E4];omega
    rw[hk];simp[Ul,TN]
   ·simp;omega
def xy(o a b:af):af:=λe c=>(o e c).bind λx c=>match x with
 |.ref k=>(a e c).bind λi c=>(b e c).bind λy c=>match i,c[k]? with
  |.int i,Y (.lst l)=>if(0<=i/\i<=l.length)/\l.length<Ξ/\noRef y=L then .ok .aE (c.set k (.lst (l.take i.toNat++y::l.drop i.toNat)))else .bad
  |_,_=>.bad
 |_=>.bad
theorem Y3{l:List D}(h:bB l=L) (n:Nat):bB (l.take n)=L:=gV.mpr λd hd=>gV.mp h d (R6 hd)
theorem Y5{l:List D}(h:bB l=L) (n:Nat):bB (l.drop n)=L:=gV.mpr λd hd=>gV.mp h d (WA hd)
theorem aj3{o a b:ν}{dO da db:af}{apos cpos:Pos}(ho:aP X o dO) (ha:aP X a da) (hb:aP X b db)
  (hbase:RM o "insert" X.env (eval o X.env)=eval o X.env:=by rfl)
  (hfew:((ω cpos (ε [a,b] X.env)).all (λx=>!x.1)&&(RA cpos (RB [] X.env)).all (λx=>x.1.isSome)
   && decide ([a,b].length+([]:List QX).length+(if([]:List QX).isEmpty then 0 else 1)<30))=L:=by exact aiZ rfl rfl)
  (hline:(apos.endLine==cpos.line)=L:=by rfl) (hs:ε [a,b] X.env=(G,eval a X.env)::ε [b] X.env:=by exact c9 rfl) (hs2:ε [b] X.env=(G,eval b X.env)::ε [] X.env:=by exact c9 rfl) (hplain:(ω cpos (ε [b] X.env)).any (·.1)=G:=by exact fK rfl) :
  aP X (.Call (.Attribute o "insert" apos) [a,b] [] cpos) (xy dO da db) :=
 (p7 Tg PySem.F.slot_list_insert PySem.F.type_list_insert Zs ho (ic ha (ic hb iN hs2) hs) hbase hfew hline hs hplain).imp λZ H Q h=>by
  obtain⟨ρ,e,c,W,V,p⟩:=h;refine⟨ρ,e,c,W,V,post.bind p λx c1 aJ H1 v _ W1 X1 r1 p1=>?_⟩
  cases x with
  |ref k =>
   obtain⟨ad,rfl,hk,hL⟩:=r1;obtain⟨xs,hx⟩:=hL.lst;refine⟨.inl ⟨rfl,xs,bN.of hx⟩,aJ,e,c1,W1,V.mono W X1,post.bind p1 λi c2 bS H2 ui _ W2 X2 r2 p2=>⟨bS,e,c2,W2,(V.mono W X1).mono W1 X2,post.bind p2 λy c3 jU H3 u _ W3 X3 r3 p3=>?_⟩⟩
   split at p3
   ·rename_i i' l hl _;split at p3
    ·rename_i hh;cases r2;obtain⟨nr,ys,hy,rl⟩:=W3.eL k ad _ (X3.pre k ad (X2.pre k ad hk)) hl;refine⟨ad,ys,u,i',rfl,rfl,hy,by rw[rl.length];exact hh.1,by rw[rl.length];exact hh.2.1,?_⟩
     refine p3 jU _ .aE (W3.write (X3.pre k ad (X2.pre k ad hk)) ?_ ((rl.take _).append ⟨u,_,rfl,r3,rl.drop _⟩)) (Ext.write (X3.pre k ad (X2.pre k ad hk))) rfl;rw[sN,Y3 nr];simp[bB,hh.2.2,Y5 nr]
    ·exact p3.elim
   ·exact p3.elim
  |_=>exact p1.elim
def tP:List D->aa->R D:=λxs c=>match xs with
 |[x]=>match fP c x with
  |some l=>if bB l=L then .ok (.ref c.length) (c++[.lst l])else .bad
  |none=>.bad
 |_=>.bad
theorem adC:cP X (.type "list") (rN X.K tP):=by
 intro pins s Z H vs us Q I rv h;obtain⟨ρ,xs,c,W,rx,p⟩:=h;unfold tP at p;split at p
 ·rename_i x;obtain⟨v,r,rfl,hx,hr⟩:=rx;cases hr;split at p
  ·rename_i l hl;split at p
   ·rename_i nr;obtain⟨a,ys,rfl,sq,r⟩:=yS W hx hl;exact adO pins s Z H _ us Q I rv ⟨a,ys,rfl,sq,EI W nr r p⟩
   ·exact p.elim
  ·exact p.elim
 ·exact p.elim
end
@[simp] theorem abq(o a b:af) (e:Ev) (c:aa):xy o a b e c=(o e c).bind λx c=>match x with
 |.ref k=>(a e c).bind λi c=>(b e c).bind λy c=>match i,c[k]? with
  |.int i,Y (.lst l)=>if(0<=i/\i<=l.length)/\l.length<Ξ/\noRef y=L then .ok .aE (c.set k (.lst (l.take i.toNat++y::l.drop i.toNat)))else .bad
  |_,_=>.bad
 |_=>.bad:=rfl
mutual
def fG(c:aa) (n:Nat):D->Option D
 |.ref k=>match c[k]? with
  |some (.lst l)=>if n<=k then Y (.lst l)else O
  |_=>O
 |.lst l=>match mZ c n l with
  |some m=>Y (.lst m)
  |none=>O
 |.tup l=>match mZ c n l with
  |some m=>Y (.tup m)
  |none=>O
 |.aE=>Y .aE
 |.bl b=>Y (.bl b)
 |.int i=>Y (.int i)
 |.str x=>Y (.str x)
 |.ty x=>Y (.ty x)
 |.cD x=>Y (.cD x)
 |.fn x m=>Y (.fn x m)
 |.exc x=>Y (.exc x)
 |.iH=>Y .iH
 |.dct ks=>Y (.dct ks)
 |.eG _=>O
 |.cS _ _=>O
 |.dX _ _=>O
 |.lam _ _ _ _=>O
def mZ(c:aa) (n:Nat):List D->Option (List D)
 |[]=>Y []
 |d::l=>match fG c n d,mZ c n l with
  |some a,Y m=>Y (a::m)
  |_,_=>O
end
section
variable {K:θ}{aJ:List J}{H1:Hp}{c1:aa}{n:Nat}
mutual
theorem JG(W1:Wd K aJ H1 c1):∀(d:D) (v:V) (d':D),Rel K aJ H1 d v->fG c1 n d=Y d'->Rel K (aJ.take n) H1 d' v
 |.ref k,v,d',r,h=>by
  unfold fG at h;split at h
  ·rename_i l hl;split at h
   ·rename_i hk;cases h;obtain⟨a,rfl,ha,_⟩:=r;obtain⟨nr,xs,hx,rl⟩:=W1.eL k a _ ha hl;refine⟨a,xs,rfl,⟨hx,λq=>?_⟩,aK.low (λb h=>R6 h) l xs nr rl⟩
    obtain⟨j,hj,e⟩:=S4.mp q;rw[UD]at e;have hk1:=Q7.mp ha;have hjl:j<aJ.length:=by simp at hj;omega
    have:=(T8 W1.nd (h₀:=hjl) (h₁:=hk1.1)).mp (e.trans hk1.2.symm);simp at hj;omega
   ·cases h
  ·cases h
 |.lst l,v,d',r,h=>by
  unfold fG at h;split at h
  ·rename_i m hm;cases h;obtain⟨a,xs,rfl,s,rl⟩:=r;exact⟨a,xs,rfl,⟨s.1,λq=>s.2 (R6 q)⟩,C7 W1 l xs m rl hm⟩
  ·cases h
 |.tup l,v,d',r,h=>by
  unfold fG at h;split at h
  ·rename_i m hm;cases h;obtain⟨a,xs,rfl,s,rl⟩:=r;exact⟨a,xs,rfl,s,C7 W1 l xs m rl hm⟩
  ·cases h
 |.aE,v,d',r,h=>by unfold fG at h;cases h;exact Rel.low (λb h=>R6 h) _ _ rfl r
 |.bl b,v,d',r,h=>by unfold fG at h;cases h;exact Rel.low (λb h=>R6 h) _ _ rfl r
 |.int i,v,d',r,h=>by unfold fG at h;cases h;exact Rel.low (λb h=>R6 h) _ _ rfl r
 |.str x,v,d',r,h=>by unfold fG at h;cases h;exact Rel.low (λb h=>R6 h) _ _ rfl r
 |.ty x,v,d',r,h=>by unfold fG at h;cases h;exact Rel.low (λb h=>R6 h) _ _ rfl r
 |.cD x,v,d',r,h=>by unfold fG at h;cases h;exact Rel.low (λb h=>R6 h) _ _ rfl r
 |.fn x m,v,d',r,h=>by unfold fG at h;cases h;exact Rel.low (λb h=>R6 h) _ _ rfl r
 |.exc x,v,d',r,h=>by unfold fG at h;cases h;exact Rel.low (λb h=>R6 h) _ _ rfl r
 |.iH,v,d',r,h=>by unfold fG at h;cases h;exact Rel.low (λb h=>R6 h) _ _ rfl r
 |.dct ks,v,d',r,h=>by unfold fG at h;cases h;exact Rel.low (λb h=>R6 h) _ _ rfl r
 |.eG _,v,d',r,h=>by unfold fG at h;cases h
 |.cS _ _,v,d',r,h=>by unfold fG at h;cases h
 |.dX _ _,v,d',r,h=>by unfold fG at h;cases h
 |.lam _ _ _ _,v,d',r,h=>by unfold fG at h;cases h
theorem C7(W1:Wd K aJ H1 c1):∀(l:List D) (xs:List V) (m:List D),aK K aJ H1 l xs->mZ c1 n l=Y m->aK K (aJ.take n) H1 m xs
 |[],xs,m,r,h=>by unfold mZ at h;cases h;exact r
 |d::l,xs,m,r,h=>by
  unfold mZ at h;split at h
  ·rename_i a m' ha hm;cases h;obtain⟨y,ys,rfl,r1,r2⟩:=r;exact⟨y,ys,rfl,JG W1 d y a r1 ha,C7 W1 l ys m' r2 hm⟩
  ·cases h
end
end
def lq(n:Nat) (v:D) (c:aa):R D:=match fG c n v with
 |some d=>.ok d (c.take n)
 |none=>.bad
def mw(n:Nat) (d:ah):List D->aa->R D:=λxs c=>(d (cC n xs) c).bind λf c'=>match f with
 |.rt v=>lq c.length v c'
 |.nx _=>lq c.length .aE c'
 |_=>.bad
theorem Pd{K:θ}{ρ aJ:List J}{H H1:Hp}{c c1:aa}{v:D}{x:V}{Q:VK}(W:Wd K ρ H c) (W1:Wd K aJ H1 c1) (X1:Ext ρ H aJ H1) (r:Rel K aJ H1 v x) (p:post K (Rel K) (lq c.length v c1) ρ H Q):Q x H1:=by
 have Xc:=X1.cut (n:=c.length) (Rt W.len);unfold lq at p;split at p
 ·rename_i d hd;exact p _ H1 x (W1.cut (Ext.len W W1 X1)) Xc (JG W1 v x d r hd)
 ·exact p.elim
section
variable {P:ο}{w:π}{K:θ}{mg:Str->Option S}{base:χ}
theorem Gf{x qual:Str}{st:υ}{f:J}{fd:Q2}{N ps:List Str}{k n m:Nat}{d:ah}(F:iV K x qual st f fd) (Γ:eO N ps (bP st)) (hN:N.length=n) (hm:ps.length=m)
  (hb:∀(cdv:S) (A:ψ) (outer:List Env) (s:Ψ) (H:Hp) (E:XK),b7 k (A.deeper (envOfC qual (bP st) s.heap.objs.size f cdv))->br (jl bV P w K mg base N qual (bP st) f cdv A outer s H E).iO (gj st) d) :
  cg P w K mg base bV (k+1) f fd ps (dH K m (mw n d)):=by
 subst hN;subst hm;refine F.ok Γ (λvs H Q E h=>?_) (λcdv A outer s H vs Q E hr h=>⟨_,hb cdv A outer s H E hr,?_⟩)
 ·obtain⟨ρ,xs,c,W,r,hl,p⟩:=h;exact r.length.trans hl
 ·obtain⟨ρ,xs,c,W,r,hl,p⟩:=h;refine⟨ρ,cC N.length xs,c,W,ek.start r,post.bind p λfl c1 aJ H1 b _ W1 X1 r1 p1=>?_⟩
  cases fl with
  |nx e1 =>
   obtain⟨σ1,rfl,V1⟩:=r1;exact Pd (v:=.aE) W W1 X1 rfl (by unfold mw at p;rename_i he;rw[he]at p;exact p)
  |rt d =>
   obtain⟨v,rfl,V1⟩:=r1;exact Pd (v:=d) (x:=v) W W1 X1 V1 (by unfold mw at p;rename_i he;rw[he]at p;exact p)
  |bk e1=>exact p1.elim
  |ct e1=>exact p1.elim
end
@[simp] theorem CJ(n:Nat) (d:ah) (xs:List D) (c:aa):mw n d xs c=(d (cC n xs) c).bind λf c'=>match f with
 |.rt v=>lq c.length v c'
 |.nx _=>lq c.length .aE c'
 |_=>.bad:=rfl
end L2
namespace L2
open PySem PySem.Spec PyProof.Rows
section
variable {X:Cx}{e sx:ν}{te:TE}{lo hi:Option ν}{tl th ts:TO}{pos p2:Pos}
def vA(i j:Int):List Int:=(Ω (j-i).toNat).map λk:Nat=>i+(k:Int)
theorem aaK{f:Nat->Int}{acc:Array S}{n:Nat}(h:ItemsOf (λk v=>∃t,v=.int (f k) t) acc n):Vals (((Ω n).map f).map V.int) acc.toList:=by
 have hl:acc.toList.length=n:=by rw[R1];exact h.1
 have key:∀us o,(∀k (u:S),us[k]? = Y u->∃t,u=.int (f (o+k)) t)->Vals (((List.range' o us.length).map f).map V.int) us:=by
  intro us
  induction us with
  |nil=>intro o _;exact .nil
  |cons u us ih =>
   intro o hu;obtain⟨t,e⟩:=hu 0 u rfl;refine .cons ⟨t,e⟩ (ih _ λk v hv=>?_)
   have:=hu (k+1) v (by simpa using hv)
   rwa[show o+_=o+1+k by omega]at this
 have:=key acc.toList 0 λk u hu=>by
  have:=h.2 k u (by rw[<-S2];exact hu)
  rwa[QV]
 rwa[hl,<-TM]at this
def akb(X:Cx):List V->Hp->VK->Prop:=λxs H Q=>∃p i j,xs=[.ref p]/\H p=Y (.vB i j)/\(0<=i/\i<j/\j<1000)/\∀l,H l=O->Q (.ref l) (upd H l (.lst ((vA i j).map V.int)))
theorem adf(hc:X.calm=L:=by rfl):cP X (.type "list") (akb X):=by
 intro pins s Z H xs us Q I rv h;obtain⟨p,i,j,rfl,hH,hb,q⟩:=h;obtain⟨u,rfl,ru⟩:=R0 rv;cases ru;obtain⟨t,u,v,hr⟩:=I.hok p _ hH;have hn:Builtin.Range.rangeSize i j 1=((j-i).toNat:Nat):=by
  unfold Builtin.Range.rangeSize;omega
 refine call_list_range (I.ok.hd hc) hr (small_one (by omega) (by omega) (by omega) (by omega)) hn (by omega) λh' tk acc c' kp hg hit=>?_
 have wM:ItemsOf _ acc (j-i).toNat:=⟨hit.1,λk v hv=>by
  have:=hit.2 k v hv
  simpa using this⟩
 refine⟨.ref s.heap.objs.size,upd H s.heap.objs.size (.lst _),I.laid kp (ZA _) ⟨?_,acc.toList,c',aaK wM,by rw[Vk];exact hg⟩,rfl,q _ (I.hok.fresh (ZA _))⟩
 simp only[vA,x8,S1];rw[S9];omega
end
open PySem.SeqAt
open AutoSeq1 (wpAny_loadPart')
section
variable {X:Cx}
def ai1:List V->Hp->VK->Prop:=λxs H Q=>∃j,xs=[.int j]/\∀p,H p=O->Q (.ref p) (upd H p (.vB 0 j))
theorem ade:cP X (.type "range") ai1:=by
 intro pins s Z H xs us Q I rv h;obtain⟨j,rfl,q⟩:=h;obtain⟨u,rfl,ru⟩:=R0 rv;obtain⟨t,rfl⟩:=ru;refine call_range_1 ⟨.ref s.heap.objs.size,upd H s.heap.objs.size _,I.laid (λb o e=>gn _ e) (ZA _) ?_,rfl,q _ (I.hok.fresh (ZA _))⟩
 exact⟨_,_,_,E3 _ rfl⟩
def xx(a:aj):af:=λe c=>(a e c).bind λxs c=>match xs with
 |[.int j]=>if 0<j/\j<1000 then .ok (.lst ((vA 0 j).map D.int)) c else .bad
 |_=>.bad
theorem aj7{a:ν}{da:aj}{p1 p2 q1 q2:Pos}(ha:fY X [a] da) (hm:X.mg "list"=O) (hm2:X.mg "range"=O) (hg:Gl X "list":=by rfl) (oq:Gl X "range":=by rfl) (hc:X.calm=L:=by rfl)
  (he:ε [a] X.env=(G,eval a X.env)::ε [] X.env:=by exact c9 rfl) (hb:(ω q2 (ε [] X.env)).any (·.1)=G:=by exact fK rfl):aP X (.Call (.Name "list" p1) [.Call (.Name "range" p2) [a] [] q2] [] q1) (xx da):=by
 refine(sC (adf hc) hg hm (by decide +kernel) (ic (sC ade oq hm2 (by decide +kernel) ha (by decide) (by decide) he hb) iN (c9 rfl)) (by decide) (by decide) (c9 rfl) (fK rfl)).imp λZ H Q h=>?_
 obtain⟨ρ,e,c,W,V,p⟩:=h;refine⟨ρ,e,c,W,V,post.bind p λxs c1 aJ H1 vs ex W1 X1 r1 p1=>?_⟩
 split at p1
 ·rename_i j;obtain⟨v,r,rfl,hx,hr2⟩:=r1;cases hr2;cases hx;split at p1
  ·rename_i hb;exact⟨j,rfl,λp hp=>⟨p,0,j,rfl,cV,⟨Int.le_refl _,hb.1,hb.2⟩,λl hl=>qg (W1.fresh hp) aK.ints (post.ext p1 (Ext.fresh W1 hp)) l hl⟩⟩
  ·exact p1.elim
 ·exact p1.elim
end
section
variable (o a:af) (b:aj) (e:Ev) (c:aa)
@[simp] theorem agW:xx b e c=(b e c).bind λxs c=>match xs with
 |[.int j]=>if 0<j/\j<1000 then .ok (.lst ((vA 0 j).map D.int)) c else .bad
 |_=>.bad:=rfl
end
theorem JD{l c:Int}{t u:Tok}{v:S}:∀(xs:List S),UB xs->UB (xs++[.int l t,.int c u,v])
 |[],_=>trivial
 |.int _ _ :: .int _ _::_::rest,h=>JD (c:=c) rest h
theorem Qz{pos p:Pos}{v cv:S}:∀(xs:List S),UB xs->codeAmong p (xs++[rawInt pos.line,rawInt pos.col,v])=Y cv->codeAmong p xs=Y cv\/cv=v
 |[],_,h=>by
  simp only[Q0,rawInt,codeAmong]at h;split at h
  ·exact .inr (Q4 h).symm
  ·cases h
 |.int a _ :: .int b _::x::rest,ht,h=>by
  simp only[Sf,codeAmong]at h ⊢;split at h
  ·rename_i hc;rw[if_pos hc];exact .inl h
  ·rename_i hc;rw[if_neg hc];exact Qz rest ht h
structure aez (H H':Hp) (n:Nat) (P:J) (q:Str) (e:ν) (cl:List (Str×J)) (a:J):Prop where
 at':∃o c,H' a=Y (.ext (qp a o))/\yd e o q c cl/\H' c=Y (.ext (qT c q))
 keep:∀b u,H b=Y u->tW u=G->H' b=Y u
 new:∀b,b<n->H b=O->H' b=O
 tabs:∀b ps,b≠P->H b=Y (.cJ ps)->H' b=Y (.cJ ps)
 tab:TabAt H' P q
section
variable {X:Cx}{pins:List (J×Obj)}{Z:St}{H:Hp}{s:Ψ}
theorem P8{h1 h2:χ}{c:J}{q:Str}(x:h1.CodeRec (.ref c) q) (k:∀o,h1.get? c=Y o->h2.get? c=Y o):h2.CodeRec (.ref c) q:=by
 obtain⟨c',oc,vs,t,e,h,r⟩:=x;cases e;exact⟨_,oc,vs,t,rfl,k _ h,r⟩
theorem Z7{c P:J}{q:Str}{params:SS}{body:ν}{scope:Q5}{pos:Pos}{clos:List (Str×J)}{Q:S->Ψ->Prop}
  (I:Inv X pins Z H s) (hcode:X.env.code=.ref c) (hq:X.env.qual++"<lambda>"=q) (hC:PySem.W.codeHdIn X.K c P=L) (hT:TabAt H P q) (hcl:closureFor scope X.env=pure clos) (hdef:defaultsOf params X.env=([],[]))
  (h:∀a H' s',Inv X pins Z H' s'->s.heap.objs.size<=a->aez H H' s.heap.objs.size P q (.Lambda params body scope pos) clos a->Q (.ref a) s') :
  wpAny (model X.prog X.w) X.A (eval (.Lambda params body scope pos) X.env) Q X.xe s:=by
 obtain⟨ps,hP,ht,hcs⟩:=hT;have wO:s.heap.get? P=Y (PySem.W.tabObj ps):=I.hok P _ hP;have hns:s.heap.Ns ι X.mg:=I.mod.glob.keeps I.bk;obtain⟨bm,ob,b1,b2,b3,b4,b5,b6⟩:=I.mod.bmod;have xW:=I.bk _ _ b3;have hgP:ι≠P:=λz=>by
  obtain⟨o,es,ep,e,hd,_⟩:=hns;rw[z,wO]at e;cases e;cases hd
 have hbP:bm≠P:=λz=>by rw[z,wO]at xW;cases xW;cases b4
 have hbG:bm≠ι:=λz=>by
  obtain⟨o,es,ep,e,hd,_⟩:=hns;rw[z,e]at xW;cases xW;rw[hd]at b6;cases b6
 have hB:s.heap.BuiltinsAt X.mg P:=⟨bm,ob,b1,b2,hbG,hbP,xW,b4,b5,b6⟩;have C:PySem.W.CodeHd s.heap c P:=Vj I.dW hC;refine PySem.W.kla_eval hdef ?_;rw[hq];have OC:P<s.heap.objs.size:=lu wO;cases hf:codeAmong pos ps.toList with
 |some cv =>
  obtain⟨c',rfl,hc'⟩:=hcs pos cv hf;refine PySem.W.kla_makeFunctionHit hcl I.ok.glob hns hcode C wO ht hf hB λctv h' tk hk hsz=>?_
  generalize ho:({cls:=.type "function",data:=.func (PySem.W.kla_fn "<lambda>" q params body scope clos ((X.mg "__name__").getD .none) (.ref c') ctv)}:Obj)=o
  have hof:o.isFreed=G:=by rw[<-ho];rfl
  have hn:H h'.objs.size=O:=I.hok.fresh hsz;have nb:∀b u,H b=Y u->b≠h'.objs.size:=λb u e=>cK e hn
  refine h h'.objs.size (upd H h'.objs.size (.ext (qp h'.objs.size o))) _ (I.laid (t':=tk) (λb u e=>gn _ (hk b u e)) hsz ?_) hsz ⟨⟨o,c',cV,⟨_,ctv,ho.symm⟩,by rw[aV (nb _ _ hc')];exact hc'⟩,λb u e _=>by rw[aV (nb b u e)];exact e,λb hb e=>by rw[aV (AP (I8 hb hsz))];exact e,λb ps' _ e=>by rw[aV (nb b _ e)];exact e,⟨ps,by rw[aV (nb _ _ hP)];exact hP,ht,λp v e=>let⟨d,e1,e2⟩:=hcs p v e;⟨d,e1,by rw[aV (nb _ _ e2)];exact e2⟩⟩⟩
  exact⟨E3 _ hof,⟨_,E3 _ hof⟩,λh1 h2 e k=>k _ e⟩
 |none =>
  refine PySem.W.kla_makeFunction hcl I.ok.glob hns hcode C wO ht hf hgP hB λc' ctv h' tk hx hge hlt hrec htb=>?_
  generalize ho:PySem.W.kla_obj "<lambda>" q params body scope clos ((X.mg "__name__").getD .none) c' ctv=o
  have hsz:s.heap.objs.size<=h'.objs.size:=Q3 hge (SD hlt);have hof:o.isFreed=G:=by rw[<-ho];rfl
  have hnc:H c'=O:=I.hok.fresh hge;have hna:H h'.objs.size=O:=I.hok.fresh hsz;have hca:c'≠h'.objs.size:=AP hlt;have hPc:P≠c':=AP (I8 OC hge);have hPa:P≠h'.objs.size:=AP (I8 OC hsz)
  generalize hps:ps ++ #[rawInt pos.line,rawInt pos.col,.ref c']=ps' at htb
  let H':Hp:=upd (upd (upd H P (.cJ ps')) c' (.ext (qT c' q))) h'.objs.size (.ext (qp h'.objs.size o))
  have iK:∀b,b≠P->b≠c'->b≠h'.objs.size->H' b=H b:=λb n1 n2 n3=>by
   show upd (upd (upd H P (.cJ ps')) c' _) h'.objs.size _ b=_;rw[aV n3,aV n2,aV n1]
  have G8:H' P=Y (.cJ ps'):=by
   show upd (upd (upd H P (.cJ ps')) c' _) h'.objs.size _ P=_;rw[aV hPa,aV hPc,cV]
  have G6:H' c'=Y (.ext (qT c' q)):=by
   show upd (upd (upd H P (.cJ ps')) c' _) h'.objs.size _ c'=_;rw[aV hca,cV]
  have Qt:H' h'.objs.size=Y (.ext (qp h'.objs.size o)):=cV;have old:∀b u,H b=Y u->tW u=G->H' b=Y u:=λb u e t=>by
   rw[iK b (λz=>by rw[z,hP]at e;cases e;cases t) (cK e hnc) (cK e hna)];exact e
  have kp:∀b ob,b≠P->s.heap.get? b=Y ob->(h'.push o).get? b=Y ob:=λb ob n e=>gn _ (hx b ob n e)
  have abl:cL X.prog X.w H' (h'.push o):=λb u e=>by
   by_cases h1:b=h'.objs.size
   ·subst h1;rw[Qt]at e;cases e;exact⟨E3 _ hof,⟨_,E3 _ hof⟩,λh1 h2 e k=>k _ e⟩
   ·by_cases h2:b=c'
    ·subst h2;rw[G6]at e;cases e;obtain⟨d,oc,vs,t,e0,e1,e2⟩:=id hrec;cases e0;refine⟨P8 hrec λo e=>gn _ e,⟨oc,gn _ e1⟩,λh1 h2 x k=>P8 x k⟩
    ·by_cases h3:b=P
     ·subst h3;rw[G8]at e;cases e;exact gn _ htb
     ·rw[iK b h3 h2 h1]at e;refine(I.hok b u e).stay (λd w hd z=>kp d w ?_ z) (λd z=>?_) λd xs z=>?_
      ·rcases hd with hd|hd
       ·rw[hd];exact h3
       ·intro z2;rw[z2,hP]at hd;cases hd
      ·exact old d _ z rfl
      ·exact old d _ z rfl
  have I':Inv X pins Z H' {s with heap:=h'.push o,toks:=tk}:=by
   refine I.step (g':=s.gens) (d':=s.drawn) (ch:=[]) (λ_ z=>nomatch z) (λb ob _ _ _ e n=>kp b ob (λz=>by rw[z,hP]at n;cases n) e) (λb ob _ _ _ e n=>⟨ob.slots,kp b ob (λz=>by rw[z,hP]at n;cases n) e⟩) (λb ob _ e n=>?_) (λb ob _ e=>?_) (λb xs e=>old b _ e rfl) (λb o' u e=>old b _ e rfl) (λb ps2 e=>?_) (λm hm=>?_) abl I.bare
   ·have hb:=lu e;rw[iK b (λz=>by rw[z,hP]at n;cases n) (AP (I8 hb hge)) (AP (I8 hb hsz))]
    exact n
   ·by_cases hb:b=P
    ·subst hb;exact⟨_,gn _ htb⟩
    ·exact⟨ob,kp b ob hb e⟩
   ·by_cases hb:b=P
    ·subst hb;rw[hP]at e;cases e;exact⟨#[rawInt pos.line,rawInt pos.col,.ref c'],by rw[G8,hps]⟩
    ·refine⟨#[],?_⟩;rw[iK b hb (cK e hnc) (cK e hna),e];simp
   ·have hLP:X.env.locals≠P:=λz=>by have:=I.free;rw[z,hP]at this;cases this
    obtain⟨ol,es,ep,e,r⟩:=hm;exact⟨ol,es,ep,kp _ _ hLP e,r⟩
  refine h h'.objs.size H' _ I' hsz ⟨⟨o,c',Qt,⟨_,ctv,ho.symm⟩,G6⟩,old,λb hb e=>?_,λb ps2 nb e=>?_,⟨ps',G8,?_,λp v e=>?_⟩⟩
  ·rw[iK b (λz=>by rw[z,hP]at e;cases e) (AP (I8 hb hge)) (AP (I8 hb hsz))];exact e
  ·rw[iK b nb (cK e hnc) (cK e hna)];exact e
  ·rw[<-hps,Vi];exact JD _ ht
  ·rw[<-hps,Vi]at e
   rcases Qz ps.toList ht e with e|e
   ·obtain⟨d,e1,e2⟩:=hcs p v e;exact⟨d,e1,old d _ e2 rfl⟩
   ·exact⟨c',e,G6⟩
end
def gi(H:Hp) (F:J->Option Obj):Hp:=λb=>match F b with
 |some o=>Y (.cN o (.own 0))
 |none=>H b
def cW(H:Hp) (F:J->Option Obj):Hp:=λb=>match F b with
 |some _=>O
 |none=>H b
section
variable {H H':Hp}{F:J->Option Obj}{b:J}{o:Obj}{u:HO}
theorem oA(h:F b=Y o):gi H F b=Y (.cN o (.own 0)):=by unfold gi;rw[h]
theorem ji(h:F b=O):gi H F b=H b:=by unfold gi;rw[h]
theorem rQ(h:F b=Y o):cW H F b=O:=by unfold cW;rw[h]
theorem iM(h:F b=O):cW H F b=H b:=by unfold cW;rw[h]
theorem Ca(hF:∀b o,F b=Y o->H b=O) (h:H b=Y u):F b=O:=by
 cases e:F b with
 |none=>rfl
 |some o=>rw[hF b o e]at h;cases h
theorem jM(hF:∀b o,F b=Y o->H b=O) (h:H b=Y u):gi H F b=Y u:=by rw[ji (Ca hF h)];exact h
end
section
variable {X:Cx}{pins:List (J×Obj)}{Z:St}{H H':Hp}{s s':Ψ}{F:J->Option Obj}
structure IQ (X:Cx) (H:Hp) (s:Ψ) (F:J->Option Obj):Prop where
 heap:∀b o,F b=Y o->s.heap.get? b=Y o
 free:∀b o,F b=Y o->H b=O
 high:∀b o,F b=Y o->X.s₀.heap.objs.size<=b
 loc:∀b o,F b=Y o->b≠X.env.locals
theorem OX{P:ο}{w:π}{h:χ}(hok:cL P w H h) (hF:∀b o,F b=Y o->H b=O) (hh:∀b o,F b=Y o->h.get? b=Y o):cL P w (gi H F) h:=λb u e=>by
 cases hb:F b with
 |some o =>
  rw[oA hb]at e;cases e;exact⟨hh b o hb,o,hh b o hb⟩
 |none =>
  rw[ji hb]at e;exact(hok b u e).stay (λ_ _ _ z=>z) (λc z=>jM hF z) λc xs z=>jM hF z
theorem OY(I:Inv X pins Z H s) (σ:IQ X H s F):lJ X.prog X.w X.K X.mg X.base X.A X.stack s (gi H F):=by
 have e:=I.A9;have sz:X.base.objs.size<=X.s₀.heap.objs.size:=I.ok.iS;refine⟨e.frames,e.mod,λb o h=>?_,e.iS,e.ir,λb hb=>?_,OX I.hok σ.free σ.heap,e.bare⟩
 ·obtain⟨h1,h2⟩:=e.bs b o h;refine⟨h1,?_⟩;cases hb:F b with
  |none=>rw[ji hb];exact h2
  |some ob=>exact absurd (I8 (lu h) (Q3 sz (σ.high b ob hb))) (RQ _)
 ·cases hF:F b with
  |none=>rw[ji hF];exact e.kq b hb
  |some ob =>
   exfalso
   rcases l8.mp (I.pP b hb)with z|z
   ·exact σ.loc b ob hF z
   ·obtain⟨_,o2,ho,_⟩:=I.ok.ir.mem z;exact absurd (I8 (lu ho) (σ.high b ob hF)) (RQ _)
theorem ahn{fs:List J}{h h':χ}{P:ο}{w:π}(hF:∀b o,F b=Y o->H b=O) (hh:∀b o,F b=Y o->h.get? b=Y o) (hfs:∀b o,F b=Y o->b∉fs) (un:Un fs [] (gi H F) H' h h') (hok:cL P w H' h'):Un fs [] H (cW H' F) h h'/\cL P w (cW H' F) h':=by
 have fz:∀b o,F b=Y o->H' b=Y (.cN o (.own 0)):=λb o e=>un.jh b o _ (oA e)
 have nn:∀{b:J}{u:HO},H b=Y u->F b=O:=λe=>Ca hF e
 refine⟨⟨λb o e n hb hx=>?_,λb o e n hb hx=>?_,λb o e n hx=>?_,un.there,λb xs e=>?_,λb o u e=>?_,λb ps e=>?_⟩,λb u e=>?_⟩
 ·cases hb':F b with
  |none=>exact un.keep b o e (by rw[ji hb'];exact n) hb hx
  |some ob =>
   have e1:=hh b ob hb';rw[e]at e1;cases e1;exact(hok b _ (fz b o hb')).1
 ·cases hb':F b with
  |none=>exact un.slot b o e (by rw[ji hb'];exact n) hb hx
  |some ob=>exact absurd hb (hfs b ob hb')
 ·cases hb':F b with
  |none=>rw[iM hb'];exact un.free b o e (by rw[ji hb'];exact n) hx
  |some ob=>exact rQ hb'
 ·rw[iM (nn e)];exact un.tups b xs (jM hF e)
 ·rw[iM (nn e)];exact un.jh b o u (jM hF e)
 ·obtain⟨more,z⟩:=un.jw b ps (jM hF e);exact⟨more,by rw[iM (nn e)];exact z⟩
 ·cases hb:F b with
  |some ob=>rw[rQ hb]at e;cases e
  |none =>
   rw[iM hb]at e;have st:∀{c:J}{v:HO},H' c=Y v->(∀o,v≠.cN o (.own 0))->cW H' F c=Y v:=fun{c v} z n=>by
    cases hc:F c with
    |none=>rw[iM hc];exact z
    |some oc=>rw[fz c oc hc]at z;exact absurd (Q4 z).symm (n oc)
   exact(hok b u e).stay (λ_ _ _ z=>z) (λc z=>st z λ_ q=>nomatch q) λc xs z=>st z λ_ q=>nomatch q
theorem ajz{k:Nat}{f:J}{fd:Q2}{ps:List Str}{sp:Sp}{us:List S}{vs:List V}{Q:VK}(ξ:cg X.prog X.w X.K X.mg X.base bV k f fd ps sp) (hr:b7 k X.A) (hb:Binds X.K fd ps []) (I:Inv X pins Z H s) (σ:IQ X H s F) (r:Vals vs us)
  (h:sp vs (gi H F) (λv H'=>Q v (cW H' F)) E0):wpAny (model X.prog X.w) X.A (call (.ref f) us) (EP X pins Z Q) X.xe s:=by
 have hl:us.length=ps.length:=by rw[<-r.length];exact ξ.len _ _ _ _ h
 have hb':=hb s us I.dW (by rw[RY];exact hl)
 rw[RY]at hb';refine Sm (Rq (ξ.run X.A X.stack s (gi H F) ⟨us,[]⟩ us vs _ E0 hr (OY I σ) hb' r h) λr s' hq=>?_)
 cases r with
 |error e=>exact False.elim hq
 |ok fl =>
  cases fl with
  |ret u =>
   obtain⟨v,H',os,bare,un,hok,rv,q⟩:=hq;obtain⟨CY,abm⟩:=ahn σ.free σ.heap (λb o e hb=>by
    have:=(OY I σ).kq b hb;rw[oA e]at this;cases this) un hok
   exact⟨v,cW H' F,I.GH os CY abm bare λb z=>absurd z (by simp),rv,q⟩
  |next=>exact False.elim hq
  |brk=>exact False.elim hq
  |cont=>exact False.elim hq
end
section
variable {K:θ}{ρ ρ':List J}{H H':Hp}{c c':aa}{F:J->Option Obj}
theorem Jf(W:Wd K ρ H c) (k:∀b u,H b=Y u->tW u=G->H' b=Y u) (t:rm K H'):Ext ρ H ρ H'/\Wd K ρ H' c:=by
 have X:Ext ρ H ρ H':=Ext.of W k;refine⟨X,W.nd,W.len,λj a cl e1 e2=>?_,t⟩
 have q:=W.eL j a cl e1 e2;rw[kG]at q ⊢;obtain⟨nr,xs,e,r⟩:=q;exact⟨nr,xs,k _ _ e (by cases cl<;>rfl),aK.mono W X _ xs r⟩
theorem Jg(W:Wd K ρ H c) (hF:∀b o,F b=Y o->H b=O):Ext ρ H ρ (gi H F)/\Wd K ρ (gi H F) c :=
 Jf W (λb u e _=>jM hF e) (W.tab.mono (λ_ _ e=>jM hF e) λ_ _ e=>jM hF e)
theorem gq{b:J}{u:HO}(hF:∀b o,F b=Y o->H b=Y (.cN o (.own 0))) (e:H b=Y u) (n:∀o,u≠.cN o (.own 0)):cW H F b=Y u:=by
 cases hc:F b with
 |none=>rw[iM hc];exact e
 |some oc=>rw[hF b oc hc]at e;exact absurd (Q4 e).symm (n oc)
mutual
theorem Rel.cW(hF:∀b o,F b=Y o->H b=Y (.cN o (.own 0))):∀(d:D) (v:V),eV d=L->Rel K ρ H d v->Rel K ρ (cW H F) d v
 |.aE,v,_,h=>h
 |.bl b,v,_,h=>h
 |.int i,v,_,h=>h
 |.str y,v,_,h=>h
 |.ty n,v,_,h=>h
 |.tup l,v,n,h=>by
  obtain⟨a,xs,e,s,r⟩:=h;exact⟨a,xs,e,gq hF s (λ_ z=>nomatch z),aK.cW hF l xs (by unfold eV at n;exact n) r⟩
 |.lst l,v,n,h=>by
  obtain⟨a,xs,e,s,r⟩:=h;exact⟨a,xs,e,⟨gq hF s.1 (λ_ z=>nomatch z),s.2⟩,aK.cW hF l xs (by unfold eV at n;exact n) r⟩
 |.ref k,v,_,h=>by
  obtain⟨a,e,s,l⟩:=h;exact⟨a,e,s,l.to λo e g=>gq hF e λ_ z=>by cases z;cases g⟩
 |.cD l,v,_,h=>by
  obtain⟨a,e,s⟩:=h;refine⟨a,e,?_⟩
  rcases s with⟨s,z⟩|s
  ·rcases s with s|⟨o,s⟩
   ·exact .inl ⟨.inl (gq hF s (λ_ z=>nomatch z)),z⟩
   ·exact .inl ⟨.inr ⟨o,gq hF s (λ_ z=>nomatch z)⟩,z⟩
  ·exact .inr s
 |.fn a n,v,_,h=>h
 |.iH,v,_,h=>by
  obtain⟨a,e,q⟩:=h;exact⟨a,e,gq hF q (λ_ z=>nomatch z)⟩
 |.dct ks,v,_,h=>by
  obtain⟨a,kvs,e,q,z⟩:=h;exact⟨a,kvs,e,gq hF q (λ_ z=>nomatch z),z⟩
 |.eG k,v,_,h=>by
  obtain⟨a,e,s,l⟩:=h;exact⟨a,e,s,l.to λo e g=>gq hF e λ_ z=>by cases z;cases g⟩
 |.cS a b,v,_,h=>h.to (λ_ _ _ _ q _=>gq hF q (λ_ z=>nomatch z)) λ_ _ _ z e h=>⟨e,h.to λo e g=>gq hF e λ_ y=>by cases y;exact z g.symm⟩
 |.dX a b,v,_,h=>by
  obtain⟨p,C,dx,u,e,n,q,h⟩:=h;exact⟨p,C,dx,u,e,n,gq hF q (λ_ z=>nomatch z),h.to (λ_ _ _ _ q _=>gq hF q (λ_ z=>nomatch z)) λ_ _ _ z e h=>⟨e,h.to λo e g=>gq hF e λ_ y=>by cases y;exact z g.symm⟩⟩
 |.exc y,v,_,h=>by
  obtain⟨a,C,e,n,q⟩:=h;exact⟨a,C,e,n,gq hF q (λ_ z=>nomatch z)⟩
 |.lam _ _ _ _,v,n,h=>by unfold eV at n;cases n
theorem aK.cW(hF:∀b o,F b=Y o->H b=Y (.cN o (.own 0))):∀(l:List D) (xs:List V),fm l=L->aK K ρ H l xs->aK K ρ (cW H F) l xs
 |[],xs,_,h=>h
 |d::l,xs,n,h=>by
  obtain⟨y,r,e,h1,h2⟩:=h;unfold fm at n;rw[RI]at n;exact⟨y,r,e,Rel.cW hF d y n.1 h1,aK.cW hF l r n.2 h2⟩
end
theorem Je(W:Wd K ρ H c) (hF:∀b o,F b=Y o->H b=Y (.cN o (.own 0))):Wd K ρ (cW H F) c:=by
 refine⟨W.nd,W.len,λj a cl e1 e2=>?_,W.tab.mono (λ_ _ e=>gq hF e (λ_ z=>nomatch z)) λ_ _ e=>gq hF e (λ_ z=>nomatch z)⟩
 have q:=W.eL j a cl e1 e2;rw[kG]at q ⊢;obtain⟨nr,xs,e,r⟩:=q;exact⟨nr,xs,gq hF e (λ_ z=>by cases cl<;>cases z),aK.cW hF _ xs (zC _ nr) r⟩
theorem acL(x:Ext ρ (gi H F) ρ' H') (hF:∀b o,F b=Y o->H b=O):Ext ρ H ρ' (cW H' F) :=
 ⟨x.pre,λa o e n t=>by
  obtain⟨h1,h2⟩:=x.keep a o (jM hF e) n t;exact⟨by rw[iM (Ca hF e)];exact h1,h2⟩,λk a n e h=>by
  obtain⟨o,q,g⟩:=h;exact(x.fT k a n e ⟨o,jM hF q,g⟩).to λu z _=>by rw[iM (Ca hF q)];exact z⟩
theorem acM(x:Ext ρ (cW H F) ρ' H') (W':Wd K ρ' H' c') (hF:∀b o,F b=Y o->H b=Y (.cN o (.own 0))) (hn:∀b o,F b=Y o->H' b=O):Ext ρ H ρ' (gi H' F) :=
 ⟨x.pre,λa o e n t=>by
  cases hc:F a with
  |some oc =>
   have:=hF a oc hc;rw[e]at this;cases this;exact⟨oA hc,W'.nil (hn a oc hc)⟩
  |none =>
   obtain⟨h1,h2⟩:=x.keep a o (by rw[iM hc];exact e) n t
   exact⟨by rw[ji hc];exact h1,h2⟩,λk a n e h=>by
  cases hc:F a with
  |some oc =>
   obtain⟨u,z,_⟩:=W'.at' (R5 (x.pre k a e));rw[hn a oc hc]at z;cases z
  |none=>exact(x.fT k a n e (h.to λo z _=>by rw[iM hc];exact z)).to λo z _=>by rw[ji hc];exact z⟩
end
end L2
namespace L2
open PySem PySem.Spec PyProof.Rows
structure gp (X:Cx) (ns:List Str) (js:List Nat) (scope:Q5):Prop where
 names:∀x∈scope.names,x.2=.free->X.env.kindOf x.1=Y .cell\/X.env.kindOf x.1=Y .free
 got:∀(i j:Nat) (x:Str),js[i]? = Y j->ns[i]? = Y x->(x,NameKind.free)∈scope.names/\X.N[j]? = Y x/\(X.env.kindOf x=Y .cell\/X.env.kindOf x=Y .free)
 all:∀x,(x,NameKind.free)∈scope.names->x∈ns
def NO(XN:List Str) (xn:List (Str×QU)) (ns:List Str) (js:List Nat) (names:List (Str×QU)):Bool :=
 names.all (λx=>decide (x.2≠NameKind.free)||((decide (xn.lookup x.1=Y NameKind.cell)||decide (xn.lookup x.1=Y NameKind.free))&&decide (x.1∈ns))) &&
 (js.zip ns).all (λq=>decide ((q.2,NameKind.free)∈names)&&decide (XN[q.1]? = Y q.2)&&(decide (xn.lookup q.2=Y NameKind.cell)||decide (xn.lookup q.2=Y NameKind.free)))
theorem gp.of{X:Cx}{ns:List Str}{js:List Nat}{scope:Q5}(h:NO X.N X.env.scope.names ns js scope.names=L):gp X ns js scope:=by
 unfold NO at h;simp only[RI,R8,decide_eq_true_eq,SR]at h;obtain⟨h1,h2⟩:=h;refine⟨λx hx e=>?_,λi j x hj hx=>?_,λx hx=>?_⟩
 ·rcases h1 x hx with z|z
  ·exact absurd e z
  ·exact z.1
 ·have hm:(j,x)∈js.zip ns:=by
   have:(js.zip ns)[i]? = Y (j,x):=by rw[VQ];exact⟨hj,hx⟩
   exact R5 this
  obtain⟨⟨a,b⟩,d⟩:=h2 _ hm;exact⟨a,b,d⟩
 ·rcases h1 _ hx with z|z
  ·exact absurd rfl z
  ·exact z.2
section
variable {X:Cx}{pins:List (J×Obj)}{Z:St}{H:Hp}{s:Ψ}{ns:List Str}{js:List Nat}{scope:Q5}
abbrev mJ(X:Cx) (scope:Q5):List (Str×J):=gP X.env scope.names []
theorem gp.clos(Γ:gp X ns js scope) (I:Inv X pins Z H s):closureFor scope X.env=pure (mJ X scope):=by
 show(_ >>= λcs=>pure cs)=_
 rw[(B0 (env:=X.env) scope.names [] λx hx hk=>I.ok.has x.1 (Γ.names x hx hk)),pure_bind]
theorem gp.cap(Γ:gp X ns js scope) (I:Inv X pins Z H s) {x:Str}{c:J}(h:(mJ X scope).lookup x=Y c):(x,NameKind.free)∈scope.names/\X.env.cells.lookup x=Y c:=by
 rcases Hh _ _ h with⟨a,b⟩|q
 ·refine⟨a,?_⟩;obtain⟨c',hc⟩:=I.ok.has x (Γ.names _ a rfl);rw[hc]at b ⊢;rw[b];rfl
 ·cases q
theorem gp.has(Γ:gp X ns js scope) (I:Inv X pins Z H s) {x:Str}(h:(x,NameKind.free)∈scope.names):∃c,(mJ X scope).lookup x=Y c:=T3.mp (Hi _ _ (.inr h))
theorem gp.cl(Γ:gp X ns js scope) (I:Inv X pins Z H s):yh (mJ X scope) ns:=⟨λx y c h1 h2=>I.ok.inj x y c (Γ.cap I h1).2 (Γ.cap I h2).2,λx c h=>Γ.all x (Γ.cap I h).1⟩
open Classical in
def oz(cl:List (Str×J)) (h:χ):J->Option Obj:=λb=>if ∃x,cl.lookup x=Y b then h.get? b else O
theorem Gb{cl:List (Str×J)}{h:χ}{b:J}{o:Obj}(e:oz cl h b=Y o):(∃x,cl.lookup x=Y b)/\h.get? b=Y o:=by
 unfold oz at e;split at e
 ·rename_i z;exact⟨z,e⟩
 ·cases e
theorem OV{cl:List (Str×J)}{h:χ}{b:J}{o:Obj}{x:Str}(e:cl.lookup x=Y b) (g:h.get? b=Y o):oz cl h b=Y o:=by
 unfold oz;rw[if_pos ⟨x,e⟩,g]
theorem gp.fz(Γ:gp X ns js scope) (I:Inv X pins Z H s) (hfn:∀x,X.fn x=L):IQ X H s (oz (mJ X scope) s.heap):=by
 refine⟨λb o e=>(Gb e).2,λb o e=>?_,λb o e=>?_,λb o e=>?_⟩
 all_goals
  obtain⟨⟨x,hx⟩,_⟩:=Gb e;have hc:=(Γ.cap I hx).2
 ·exact I.jj x b hc
 ·exact I.ok.oO x b (hfn x) hc
 ·exact I.oN x b hc
theorem gp.cells(Γ:gp X ns js scope) (I:Inv X pins Z H s) (i j:Nat) (x:Str) (v:V) (hj:js[i]? = Y j) (hx:ns[i]? = Y x) (hv:Z[j]? = Y (Y v)):∃c oc u,(mJ X scope).lookup x=Y c/\oz (mJ X scope) s.heap c=Y oc/\oc.data=.cell (Y u)/\RelV v u:=by
 obtain⟨h1,h2,h3⟩:=Γ.got i j x hj hx;obtain⟨c,hc⟩:=Γ.has I h1;obtain⟨m,hm,hl⟩:=I.loc;obtain⟨u,ru,lk⟩:=hl j x v h2 hv (h3.elim (λz=>.inr (.inl z)) λz=>.inr (.inr z))
 rcases lk with⟨k,_⟩|⟨_,c',hc',oc,ho,hd⟩
 ·rcases h3 with z|z<;>(rw[z]at k;cases k)
 ·rw[((Γ.cap I hc).2)]at hc';cases hc';exact⟨c,oc,u,hc,OV hc ho,hd,ru⟩
structure aey (H H':Hp) (P:J) (q:Str) (e:ν) (cl:List (Str×J)) (a:J):Prop where
 at':∃o c,H' a=Y (.ext (qp a o))/\yd e o q c cl/\H' c=Y (.ext (qT c q))
 keep:∀b u,H b=Y u->tW u=G->H' b=Y u
 tabs:∀b ps,b≠P->H b=Y (.cJ ps)->H' b=Y (.cJ ps)
 tab:TabAt H' P q
def ah1(P:J) (q:Str) (e:ν) (cl:List (Str×J)):TE:=λ_ H Q=>TabAt H P q/\∀a H',aey H H' P q e cl a->Q (.ref a) H'
theorem Ww{c P:J}{q:Str}{params:SS}{body:ν}{pos:Pos}(Γ:gp X ns js scope) (hcode:X.env.code=.ref c) (hq:X.env.qual++"<lambda>"=q) (hC:PySem.W.codeHdIn X.K c P=L) (hdef:defaultsOf params X.env=([],[])) :
  PE X (.Lambda params body scope pos) (ah1 P q (.Lambda params body scope pos) (mJ X scope)):=λpins s Z H Q I h =>
 Z7 I hcode hq hC h.1 (Γ.clos I) hdef λa H' s' I' hge N=>⟨.ref a,H',I',rfl,h.2 a H' ⟨N.at',N.keep,N.tabs,N.tab⟩⟩
def ahU(cl:List (Str×J)) (ns:List Str) (js:List Nat) (sp:Sp) (t:TA):TE:=λZ H Q=>t Z H λvs H1=>yh cl ns->∀F:J->Option Obj,(∀b o,F b=Y o->H1 b=O) ->
 (∀(i j:Nat) (x:Str) (v:V),js[i]? = Y j->ns[i]? = Y x->Z[j]? = Y (Y v)->∃c oc u,cl.lookup x=Y c/\F c=Y oc/\oc.data=.cell (Y u)/\RelV v u)->sp vs (gi H1 F) (λv H'=>Q v (cW H' F)) E0
theorem ak4{x:Str}{st:υ}{ps:List Str}{f:J}{fd:Q2}{k:Nat}{sp:Sp}{e:ν}{es:List ν}{t:TA}{p pos:Pos}(D:Def X.K X.mg x st ps f fd) (ξ:cg X.prog X.w X.K X.mg X.base bV k f fd ps sp) (hr:b7 k X.A) (Γ:gp X ns js scope) (hfn:∀x,X.fn x=L) (ha:PA X (e::es) t) (hg:Gl X x:=by rfl)
  (hdb:(x==("__debug__":Str))=G:=by decide) (he:ε (e::es) X.env=(G,eval e X.env)::ε es X.env:=by rfl) (hpl:(ω pos (ε es X.env)).any (·.1)=G:=by rfl) :
  PE X (.Call (.Name x p) (e::es) [] pos) (ahU (mJ X scope) ns js sp t):=by
 intro pins s Z H Q I h;refine Sl (zR I hg D.at' ?_ hdb);refine US (h₀:=X.base) I.ok.mod.fT D.fn.kp (aZ (ha pos pins s Z H _ I h) λus s1 ⟨vs,H1,I1,r,q⟩=>⟨I1.dW,?_⟩) he hpl
 exact ajz ξ hr D.bd I1 (Γ.fz I1 hfn) r (q (Γ.cl I1) _ (λb o e=>(Γ.fz I1 hfn).free b o e) λi j x v h1 h2 h3=>Γ.cells I1 i j x v h1 h2 h3)
end
def getAll(e:Ev):List Nat->Option (List D)
 |[]=>Y []
 |j::js=>match e[j]?,getAll e js with
  |some (Y d),Y l=>Y (d::l)
  |_,_=>O
def oJ(k:Nat) (m:List D->aa->R D) (d1:af) (E:ν) (ns:List Str) (js:List Nat):af:=λe c=>(d1 e c).bind λx c=>match getAll e js with
 |some l=>(m [x,.lam k E ns l] c).bind λv c=>if noRef v=L then .ok v c else .bad
 |none=>.bad
section
variable {X:Cx}{K:θ}{ρ:List J}{H Hf:Hp}{Z:St}
theorem Qg{e:Ev}{cl:List (Str×J)}{F:J->Option Obj}(Vv:ek K ρ H e Z) (hV:∀d v,Rel K ρ H d v->Rel K ρ Hf d v) (hf:∀c o,F c=Y o->Hf c=Y (.cN o (.own 0))):∀(js:List Nat) (ns:List Str) (l:List D),js.length=ns.length->getAll e js=Y l ->
  (∀(i j:Nat) (x:Str) (v:V),js[i]? = Y j->ns[i]? = Y x->Z[j]? = Y (Y v)->∃c oc u,cl.lookup x=Y c/\F c=Y oc/\oc.data=.cell (Y u)/\RelV v u)->∃xs,iW Hf cl ns xs/\aK K ρ Hf l xs
 |[],[],l,_,h,_=>by
  unfold getAll at h;cases h;exact⟨[],rfl,rfl⟩
 |j::js,x::ns,l,hl,h,hc=>by
  unfold getAll at h;split at h
  ·rename_i d r hd hr;cases h;obtain⟨v,hv,rv⟩:=Vv.get j d hd;obtain⟨c,oc,u,h1,h2,h3,h4⟩:=hc 0 j x v rfl rfl hv;obtain⟨xs,h5,h6⟩:=Qg Vv hV hf js ns r (Nat.succ.inj hl) hr λi j x v a b d=>hc (i+1) j x v a b d
   exact⟨v::xs,⟨v,xs,c,oc,u,rfl,h1,hf c oc h2,h3,h4,h5⟩,v,xs,rfl,hV d v rv,h6⟩
  ·cases h
 |[],_::_,_,hl,_,_=>by cases hl
 |_::_,[],_,hl,_,_=>by cases hl
def Fg(K:θ):List (Str×J):=qq.filterMap λx=>(PySem.W.tabIn K x).map λq=>(x,q.2)
def vg(K:θ):Bool:=(Fg K).all λa=>(Fg K).all λb=>!(a.2==b.2)||(a.1==b.1)
theorem aiw(h:vg K=L) {x y:Str}{c d P:J}(hx:x∈qq) (hy:y∈qq) (tx:PySem.W.tabIn K x=Y (c,P)) (ty:PySem.W.tabIn K y=Y (d,P)):x=y:=by
 unfold vg at h;have m:∀{z:Str}{c:J},z∈qq->PySem.W.tabIn K z=Y (c,P)->(z,P)∈Fg K:=fun{z c} hz tz=>Tt.mpr ⟨z,hz,by rw[tz];rfl⟩
 have:=R8.mp (R8.mp h _ (m hx tx)) _ (m hy ty)
 simpa using this
theorem Wd.Y7{c:aa}{a:J}{o:Obj}{u:HO}(W:Wd K ρ H c) (h:H a=Y (.cN o u)):a∉ρ:=λm=>by
 exact W.no h rfl m
theorem Eb{kk:Nat}{x y:Str}{st:υ}{ps:List Str}{f c P:J}{fd:Q2}{k:Nat}{m:List D->aa->R D}{e1 body:ν}{d1:af}{params:SS}{scope:Q5}{ns:List Str}{js:List Nat}{p pos qm:Pos}
  (D:Def X.K X.mg x st ps f fd) (ξ:cg X.prog X.w X.K X.mg X.base bV k f fd ps (dH X.K 2 m)) (hr:b7 k X.A) (he1:aP X e1 d1) (Γ:gp X ns js scope) (hjn:js.length=ns.length) (hfn:∀x,X.fn x=L) (hy:y∈qq) (ht:PySem.W.tabIn X.K y=Y (c,P)) (hap:vg X.K=L) (hcode:X.env.code=.ref c) (hq:X.env.qual++"<lambda>"=zS y) (hC:PySem.W.codeHdIn X.K c P=L)
  (hdef:defaultsOf params X.env=([],[]):=by rfl) (hg:Gl X x:=by rfl)
  (hdb:(x==("__debug__":Str))=G:=by decide) (hs1:ε [e1,.Lambda params body scope qm] X.env=(G,eval e1 X.env)::ε [.Lambda params body scope qm] X.env:=by exact c9 rfl) (hs2:ε [.Lambda params body scope qm] X.env=(G,eval (.Lambda params body scope qm) X.env)::ε [] X.env:=by exact c9 rfl) (hpl:(ω pos (ε [.Lambda params body scope qm] X.env)).any (·.1)=G:=by exact fK rfl) :
  aP X (.Call (.Name x p) [e1,.Lambda params body scope qm] [] pos) (oJ kk m d1 (.Lambda params body scope qm) ns js) :=
 PE.imp (ak4 D ξ hr Γ hfn (ic he1 (ic (Ww (c:=c) (P:=P) (q:=zS y) Γ hcode hq hC hdef) iN hs2) hs1) hg hdb hs1 hpl) λZ H Q h=>by
  obtain⟨ρ,e,c0,W,V,pp⟩:=h;refine⟨ρ,e,c0,W,V,post.bind pp λx1 c1 aJ H1 v _ W1 X1 r1 p1=>?_⟩
  have V1:=V.mono W X1;refine⟨W1.tab y hy c P ht,λa H' N=>?_⟩
  have ait:rm X.K H':=λz hz d P' tz=>by
   by_cases hP:P'=P
   ·subst hP;rw[aiw hap hz hy tz ht];exact N.tab
   ·exact(W1.tab z hz d P' tz).mono (λps e=>N.tabs P' ps hP e) λc φ e=>N.keep c _ e rfl
  obtain⟨X2,W2⟩:=Jf W1 N.keep ait;intro hcl F hF FY;obtain⟨X3,W3⟩:=Jg W2 hF;have QC:=X2.trans X3;split at p1
  ·rename_i l hl;obtain⟨xs,hxs,hrs⟩:=Qg (Hf:=gi H' F) V1 (λd v r=>Rel.mono W1 QC d v r) (λc o e=>oA e) js ns l hjn hl FY
   obtain⟨o,cc,ha,hobj,hcc⟩:=N.at';refine⟨aJ,[x1,.lam kk _ ns l],c1,W3,⟨v,[.ref a],rfl,Rel.mono W1 QC x1 v r1,.ref a,[],rfl,⟨a,o,zS y,cc,_,xs,rfl,jM hF ha,hobj,jM hF hcc,hcl,hxs,hrs⟩,rfl⟩,rfl,?_⟩;cases hm:m [x1,.lam kk _ ns l] c1 with
   |bad=>rw[hm]at p1;exact p1.elim
   |ok d c2 =>
    rw[hm,R.aL]at p1;split at p1
    ·rename_i hn;intro ρ' H4 b W4 X4 r4;have fz:∀b o,F b=Y o->H4 b=Y (.cN o (.own 0)):=λb o e=>(X4.keep b _ (oA e) (W3.Y7 (oA e)) rfl).1
     exact p1 ρ' (cW H4 F) b (Je W4 fz) (X2.trans (acL X4 hF)) (Rel.cW fz d b (M5 d hn) r4)
    ·exact p1.elim
  ·exact p1.elim
end
def QN(s:Ψ) (H:Hp) (outer:List Env) (cl:List (Str×J)) (ns:List Str) (cs:List V):Prop :=
 cs.length=ns.length/\∀(i:Nat) (x:Str),ns[i]? = Y x->∃v c u,cs[i]? = Y v/\cl.lookup x=Y c/\s.heap.IsCell c (Y u)/\RelV v u/\H c=O/\c∉frs outer
def o6(P:ο) (w:π) (K:θ) (mg:Str->Option S) (base:χ) (k:Nat) (E:ν) (ns:List Str) (n:Nat) (sp:Sp):Prop :=
 ∀(A:ψ) (outer:List Env) (s:Ψ) (H:Hp) (a:J) (o:Obj) (q:Str) (cc:J) (cl:List (Str×J)) (us:List S) (vs cs:List V) (Q:VK),b7 k A->lJ P w K mg base A outer s H->s.heap.get? a=Y o->yd E o q cc cl->s.heap.CodeRec (.ref cc) q->yh cl ns ->
  QN s H outer cl ns cs->Vals vs us->vs.length=n->sp (vs++cs) H Q E0->codeAny (model P w) A (.call (.ref a) ⟨us,[]⟩) (CR bV outer P w H s Q E0) s
def wC(P:ο) (w:π) (K:θ) (mg:Str->Option S) (base:χ) (N:List Str) (qual:Str) (scope:Q5) (f:J) (cd:S) (cl:List (Str×J)) (A:ψ) (outer:List Env) (s:Ψ) (H:Hp):Cx where
 prog:=P
 w:=w
 K:=K
 mg:=mg
 base:=base
 A:=A.deeper (PySem.W.envX qual scope s.heap.objs.size f cd cl)
 N:=N
 s₀:=s
 H₀:=H
 env:=PySem.W.envX qual scope s.heap.objs.size f cd cl
 outer:=outer
 stack:=PySem.W.envX qual scope s.heap.objs.size f cd cl::outer
 ex:=[]
 calm:=L
 fn:=λ_=>G
 pn:=[]
 xe:=λ_ _=>False
structure rF (ps ns:List Str) (scope:Q5):Prop where
 kind:scope.kind=.function
 co:scope.isCoroutine=G
 gen:scope.isGenerator=G
 nd:(ps++ns).Nodup
 par:∀x∈ps,scope.names.lookup x=Y .local
 cap:∀x∈ns,scope.names.lookup x=Y .free
 MW:∀y∈scope.names,y.2≠.cell
 free:∀y∈scope.names,y.2=.free->y.1∈ns
theorem rF.of{ps ns:List Str}{scope:Q5}(h1:scope.kind=.function) (h2:scope.isCoroutine=G) (h3:scope.isGenerator=G)
  (h:(decide (ps++ns).Nodup&&ps.all (λx=>decide (scope.names.lookup x=Y NameKind.local))&&ns.all (λx=>decide (scope.names.lookup x=Y NameKind.free))&&scope.names.all (λy=>decide (y.2≠NameKind.cell)&&(decide (y.2≠NameKind.free)||decide (y.1∈ns))))=L):rF ps ns scope:=by
 simp only[RI,R8,decide_eq_true_eq,SR]at h;obtain⟨⟨⟨a,b⟩,c⟩,d⟩:=h;exact⟨h1,h2,h3,a,b,c,λy hy=>(d y hy).1,λy hy e=>(d y hy).2.elim (λz=>absurd e z) id⟩
theorem agZ{x:Str}:∀{ps:List Str}{us:List S},x∉ps->(ps.zip us).reverse.lookup x=O:=fun{ps us} h=>by
 cases e:(ps.zip us).reverse.lookup x with
 |none=>rfl
 |some v=>exact absurd (T4 (List.mem_reverse.mp (Rh e))).1 h
theorem ND{x:Str}{v:S}:∀{l m:List (Str×S)},l.lookup x=O->(l++m).lookup x=m.lookup x
 |[],_,_=>rfl
 |(y,u)::l,m,h=>by
  rw[R9]at h;rw[Sf,R9];cases hb:x==y with
  |true=>rw[hb]at h;cases h
  |false=>rw[hb]at h;exact ND (v:=v) h
theorem NC{x:Str}{v:S}:∀{l m:List (Str×S)},l.lookup x=Y v->(l++m).lookup x=Y v
 |(y,u)::l,m,h=>by
  rw[R9]at h;rw[Sf,R9];cases hb:x==y with
  |true=>rw[hb]at h;exact h
  |false=>rw[hb]at h;exact NC h
theorem IU{x:Str}{v:S}:∀{ps:List Str}{us:List S}{i:Nat},ps.Nodup->ps[i]? = Y x->us[i]? = Y v->(ps.zip us).reverse.lookup x=Y v
 |p::ps,u::us,0,nd,h1,h2=>by
  cases h1;cases h2;rw[Uk,Vh,ND (v:=v) (agZ (S8.mp nd).1)];simp
 |p::ps,u::us,i+1,nd,h1,h2=>by
  rw[Uk,Vh];exact NC (IU (S8.mp nd).2 (by simpa using h1) (by simpa using h2))
 |[],_,_,_,h1,_=>by simp at h1
 |_::_,[],_,_,_,h2=>by simp at h2
theorem Z6{P:ο}{w:π}{K:θ}{mg:Str->Option S}{base:χ}{k:Nat}{params:SS}{body:ν}{scope:Q5}{pos:Pos}{ps ns:List Str}{sp:Sp}(Γ:rF ps ns scope)
  (hbind:∀(q:Str) (cl:List (Str×J)) (pm cdv ct:S) (us:List S),us.length=ps.length->bindArgs (PySem.W.kla_fn "<lambda>" q params body scope cl pm cdv ct) ⟨us,[]⟩=pure (ps.zip us))
  (hb:∀(q:Str) (f:J) (cd:S) (cl:List (Str×J)) (A:ψ) (outer:List Env) (s:Ψ) (H:Hp) (vs:List V) (Q:VK),b7 k (A.deeper (PySem.W.envX q scope s.heap.objs.size f cd cl))->sp vs H Q E0->∃t,PE (wC P w K mg base (ps++ns) q scope f cd cl A outer s H) body t/\t (vs.map Y) H Q) :
  o6 P w K mg base (k+1) (.Lambda params body scope pos) ns ps.length sp:=by
 intro A outer s H a o q cc cl us vs cs Q hr e0 ho hobj hcd hcl hcap rv hlen jJ;obtain⟨pm,ctv,rfl⟩:=hobj;have KX:K.In s.heap:=e0.mod.fT.keeps λb o e=>(e0.bs b o e).1
 have lim:s.heap.NoLimit:=e0.mod.nolimit.keeps λb o e=>(e0.bs b o e).1
 refine PySem.W.kla_callFunE hr.depth ho rfl Γ.co Γ.gen rfl hcd ?_;rw[hbind q cl pm (.ref cc) ctv us (by rw[<-rv.length];exact hlen)]
 refine Xd (wpAny_newFunctionEnv Γ.MW (λy hy=>Γ.par y.1 (T4 hy).1) (λh₁ hns k8=>⟨lim.fresh _ k8,?_⟩) Γ.kind)
 show codeAny _ _ (.expr body (PySem.W.envX q scope s.heap.objs.size a (.ref cc) cl)) _ _;have hk₁:∀b ob,s.heap.get? b=Y ob->h₁.get? b=Y ob:=λb ob e=>k8.extBut b ob (AP (lu e)) (gn _ e)
 obtain⟨t,ht,hq⟩:=hb q a (.ref cc) cl A outer s H (vs++cs) Q (hr.deeper _) jJ;have lV:∀b:J,b∉(wC P w K mg base (ps++ns) q scope a (.ref cc) cl A outer s H).ex:=λb z=>absurd (show b∈([]:List J)from z) (by simp)
 have OL:∀x c,cl.lookup x=Y c->∃v u,s.heap.IsCell c (Y u)/\RelV v u/\H c=O:=λx c e=>by
  obtain⟨i,hi,ei⟩:=S4.mp (hcl.2 x c e);obtain⟨v,c',u,_,h2,h3,h4,h5,_⟩:=hcap.2 i x (by rw[Bt hi,ei])
  rw[e]at h2;cases h2;exact⟨v,u,h3,h4,h5⟩
 have NW:∀{c:J}{u:Option S},s.heap.IsCell c u->h₁.IsCell c u:=fun{c u} ⟨o,e,d⟩=>⟨o,hk₁ c o e,d⟩
 have I:Inv (wC P w K mg base (ps++ns) q scope a (.ref cc) cl A outer s H) [] ((vs++cs).map Y) H {s with heap:=h₁,toks:=s.toks+(ps.zip us).length}:=by
  refine⟨⟨e0.mod,Γ.kind,rfl,rfl,ZA _,hcl.1,λx hx=>?_,λx c h=>absurd h (by simp[wC]),λ_=>hr.hd,Around.frames_deeper e0.frames,.inr ⟨rfl,rfl⟩,λb z=>absurd z (lV b),e0.bs,e0.iS,λb _ _=>lV b,λb z=>absurd z (lV b),e0.ir,e0.kq⟩,
   rfl,e0.bare,Un.kept hk₁,⟨_,hns,λi x v h1 h2 h3=>?_⟩,λx c h=>?_,e0.hok.fresh (ZA _),λx c h=>?_,λp hp=>absurd (show p∈([]:List (J×Obj))from hp) (by simp),e0.hok.kept hk₁,?_⟩
  ·have hx:scope.names.lookup x=Y .cell\/scope.names.lookup x=Y .free:=hx
   rcases hx with hx|hx
   ·exact absurd rfl (Γ.MW _ (Rh hx))
   ·have hm:=Γ.free _ (Rh hx) rfl;obtain⟨i,hi,ei⟩:=S4.mp hm;obtain⟨v,c',u,_,h2,_⟩:=hcap.2 i x (by rw[Bt hi,ei])
    exact⟨c',h2⟩
  ·have h1:(ps++ns)[i]? = Y x:=h1;have h2':(vs++cs)[i]? = Y v:=by
    rw[Q9]at h2;cases e:(vs++cs)[i]? with
    |none=>rw[e]at h2;cases h2
    |some b=>rw[e]at h2;cases h2;rfl
   by_cases hi:i<ps.length
   ·rw[RJ hi]at h1;rw[RJ (by omega)]at h2'
    obtain⟨u,hu,ru⟩:=rv.get h2';refine⟨u,ru,.inl ⟨Γ.par x (R5 h1),?_⟩⟩;exact IU ((Ti.mp Γ.nd).1) h1 hu
   ·rw[RC (by omega)]at h1
    rw[RC (by omega),hlen]at h2'
    obtain⟨v',c,u,e1,e2,e3,e4,_⟩:=hcap.2 _ x h1;rw[h2']at e1;cases e1;exact⟨u,e4,.inr ⟨.inr (Γ.cap x (R5 h1)),c,e2,NW e3⟩⟩
  ·obtain⟨v,u,h3,_⟩:=OL x c h;exact⟨_,NW h3⟩
  ·obtain⟨v,u,_,_,h5⟩:=OL x c h;exact h5
  ·show((vs++cs).map Y).length=(ps++ns).length;rw[x8,QT,QT,hlen,hcap.1]
 refine PySem.W.kla_codeExpr (QW (ht [] _ _ H Q I hq) (λu s' hs=>?_) λe s' hs=>False.elim hs)
 obtain⟨v,H',Θ,ru,q⟩:=hs;exact⟨v,H',Θ.os,Θ.bare,Θ.base,Θ.hok,ru,q⟩
section
variable {M:Model}{A:ψ}{E:S->Ψ->Prop}{s:Ψ}{env:Env}{pos:Pos}{Q:S->Ψ->Prop}
theorem adW{a:J}{o:Obj}{fd:Q2}{e:ν}{rest:List ν}(hd:o.data=.func fd) (h:wpAny M A (spliced (ω pos (ε (e::rest) env))) (λvs s₁=>s₁.heap.get? a=Y o/\wpAny M A (call (.ref a) ([]++vs)) Q E s₁) E s)
  (he:ε (e::rest) env=(G,eval e env)::ε rest env) (hplain:(ω pos (ε rest env)).any (·.1)=G) :
  wpAny M A (callWith pos (.ref a) [] (ω pos (ε (e::rest) env)) []) Q E s:=by
 rw[he]at h ⊢;refine PySem.W.callWith_of (P:=λh=>h.get? a=Y o) (by show((G||(ω pos _).any (·.1))||false)=G;rw[hplain];rfl) (λh e=>⟨.frame,.inl rfl,?_⟩) (PySem.Calls.evalArgs_plain h)
 obtain⟨oc,od,dt,sl⟩:=o;cases hd;exact(PySem.W.Looks.ld e).andThen PySem.W.Looks.now
end
section
variable {X:Cx}{pins:List (J×Obj)}{Z:St}{H H':Hp}{s s':Ψ}{F:J->Option Obj}
theorem ahm{P:ο}{w:π}{h:χ}(hok:cL P w H h) (hF:∀b o,F b=Y o->H b=Y (.cN o (.own 0))):cL P w (cW H F) h:=λb u e=>by
 cases hb:F b with
 |some o=>rw[rQ hb]at e;cases e
 |none =>
  rw[iM hb]at e;exact(hok b u e).stay (λ_ _ _ z=>z) (λc z=>gq hF z λ_ q=>nomatch q) λc xs z=>gq hF z λ_ q=>nomatch q
theorem uW{b:J}(h:H b=O):cW H F b=O:=by
 unfold cW;split<;>first|rfl|exact h
theorem abJ{k n:Nat}{Ex:ν}{ns:List Str}{sp:Sp}{a cc:J}{o:Obj}{q:Str}{cl:List (Str×J)}{us:List S}{vs cs:List V}{Q:VK}(ξ:o6 X.prog X.w X.K X.mg X.base k Ex ns n sp) (hr:b7 k X.A) (I:Inv X pins Z H s)
  (ha:H a=Y (.ext (qp a o))) (hobj:yd Ex o q cc cl) (hcc:H cc=Y (.ext (qT cc q))) (hcl:yh cl ns) (hcs:iW H cl ns cs) (r:Vals vs us) (hn:vs.length=n)
  (h:∀F:J->Option Obj,(∀b o,F b=Y o->H b=Y (.cN o (.own 0)))->sp (vs++cs) (cW H F) (λv H'=>(∀b o,F b=Y o->H' b=O)->Q v (gi H' F)) E0) :
  wpAny (model X.prog X.w) X.A (call (.ref a) us) (EP X pins Z Q) X.xe s:=by
 have hF:∀b ob,oz cl s.heap b=Y ob->H b=Y (.cN ob (.own 0)):=λb ob e=>by
  obtain⟨⟨x,hx⟩,hg⟩:=Gb e;obtain⟨i,hi,ei⟩:=S4.mp (hcl.2 x b hx);obtain⟨v,c,oc,u,_,h2,h3,_⟩:=hcs.get (i:=i) (x:=x) (by rw[Bt hi,ei])
  rw[hx]at h2;cases h2;have:=(I.hok b _ h3).1;rw[hg]at this;cases this;exact h3
 generalize hFd:oz cl s.heap=F at hF
 have e:=I.A9;have nf:∀b ob,F b=Y ob->b∉frs X.stack:=λb ob z hb=>by
  have:=I.Di b hb;rw[hF b ob z]at this;cases this
 have cap:QN s (cW H F) X.stack cl ns cs:=by
  refine⟨hcs.length,λi x hx=>?_⟩
  obtain⟨v,c,oc,u,h1,h2,h3,h4,h5⟩:=hcs.get hx;have hg:=(I.hok c _ h3).1;have hf:F c=Y oc:=by rw[<-hFd];exact OV h2 hg
  exact⟨v,c,u,h1,h2,⟨oc,hg,h4⟩,h5,rQ hf,nf c oc hf⟩
 refine Sm (Rq (ξ X.A X.stack s (cW H F) a o q cc cl us vs cs _ hr (⟨e.frames,e.mod,λb o h=>⟨(e.bs b o h).1,uW (e.bs b o h).2⟩,e.iS,e.ir,λb hb=>uW (e.kq b hb),ahm I.hok hF,e.bare⟩) (I.hok a _ ha).1 hobj (I.hok cc _ hcc).1 hcl cap r hn (h F hF)) λrr s' hq=>?_)
 cases rr with
 |error e=>exact False.elim hq
 |ok fl =>
  cases fl with
  |next=>exact False.elim hq
  |brk=>exact False.elim hq
  |cont=>exact False.elim hq
  |ret u =>
   obtain⟨v,H',os,bare,un,hok,rv,q⟩:=hq;have gF:=λb ob z=>(I.hok b _ (hF b ob z)).1
   have hn':=λb ob z=>un.free b ob (gF b ob z) (rQ z) (by simp)
   have Fn:∀{b:J},H b=O->F b=O:=fun{b} z=>by
    cases e:F b with
    |none=>rfl
    |some ob=>rw[hF b ob e]at z;cases z
   have old:∀{b:J}{u:HO},H b=Y u->(∀o,u≠.cN o (.own 0))->F b=O/\cW H F b=Y u:=fun{b u} z nq=>by
    cases e:F b with
    |none=>exact⟨rfl,by rw[iM e];exact z⟩
    |some ob=>rw[hF b ob e]at z;exact absurd (Q4 z).symm (nq ob)
   have CY:Un (frs X.stack) [] H (gi H' F) s.heap s'.heap:=by
    refine⟨λb o e n hb hx=>un.keep b o e (uW n) hb hx,λb o e n hb hx=>un.slot b o e (uW n) hb hx,λb o e n hx=>?_,un.there,λb xs e=>?_,λb o u e=>?_,λb ps e=>?_⟩
    ·rw[ji (Fn n)];exact un.free b o e (uW n) hx
    ·obtain⟨h1,h2⟩:=old e λ_ z=>nomatch z
     rw[ji h1];exact un.tups b xs h2
    ·cases z:F b with
     |some ob =>
      have:=hF b ob z;rw[e]at this;cases this;exact oA z
     |none=>rw[ji z];exact un.jh b o u (by rw[iM z];exact e)
    ·obtain⟨h1,h2⟩:=old e λ_ z=>nomatch z
     rw[ji h1];exact un.jw b ps h2
   exact⟨v,gi H' F,I.GH os CY (OX hok hn' (λb ob z=>un.keep b ob (gF b ob z) (rQ z) (nf b ob z) (by simp))) bare λb z=>absurd z (by simp),rv,q hn'⟩
end
open Classical in
def qS(i n:Nat) (cJ:List (ν×List Str×(List D->aa->R D))) (a:aj):af:=λe c=>match e[i]? with
 |some (Y (.lam k E ns l))=>match cJ[k]? with
  |some t=>if E=t.1/\ns=t.2.1 then(a e c).bind λxs c=>if xs.length=n/\fm xs=L/\fm l=L then t.2.2 (xs++l) c else .bad else .bad
  |none=>.bad
 |_=>.bad
theorem WY{X:Cx}(i:Nat) {n:Nat}{cJ:List (ν×List Str×(List D->aa->R D))}{x:Str}{e:ν}{es:List ν}{da:aj}{p pos:Pos}(hT:∀t∈cJ,∃k,o6 X.prog X.w X.K X.mg X.base k t.1 t.2.1 n (dH X.K (n+t.2.1.length) t.2.2)/\b7 k X.A) (ha:fY X (e::es) da)
  (hN:X.N[i]? = Y x:=by rfl) (hv:ya X.env.scope x:=by first|exact Or.inl rfl|exact Or.inr (Or.inl rfl)|exact Or.inr (Or.inr rfl)) (hd:(x==("__debug__":Str))=G:=by decide)
  (hcd:(x==("__classdict__":Str))=G:=by decide) (he:ε (e::es) X.env=(G,eval e X.env)::ε es X.env:=by exact c9 rfl) (hpl:(ω pos (ε es X.env)).any (·.1)=G:=by exact fK rfl) :
  aP X (.Call (.Name x p) (e::es) [] pos) (qS i n cJ da):=by
 intro pins s Z H Q I h;obtain⟨ρ,ev,c,W,Vv,q⟩:=h;unfold qS at q;split at q
 ·rename_i kk Ex ns l hf;obtain⟨v,hσ,rl⟩:=Vv.get i _ hf;obtain⟨a,o,qn,cc,cl,cs,rfl,ha1,hobj,hcc,hcl,hcs,hrs⟩:=id rl;split at q
  ·rename_i t ht;split at q
   ·rename_i hzy;obtain⟨rfl,rfl⟩:=hzy;obtain⟨k,ξ,hr⟩:=hT _ (R5 ht);refine Sl (aZ (D4 hN hv hd hcd pins s Z H (λv H1=>v=.ref a/\H1=H) I ⟨_,hσ,rfl,rfl⟩) λu s1 ⟨v,H1,I1,r1,q1⟩=>?_)
    obtain⟨rfl,rfl⟩:=q1;cases r1;have hdata:∃fd,o.data=.func fd:=by
     cases hE:t.1 with
     |Lambda params body scope lp =>
      rw[hE]at hobj;obtain⟨pm,ctv,rfl⟩:=hobj;exact⟨_,rfl⟩
     |_=>rw[hE]at hobj;exact hobj.elim
    obtain⟨fd,hdata⟩:=hdata;refine adW hdata (aZ (ha pos pins s1 Z H1 (λvs H2=>∃aJ xs c1,Wd X.K aJ H2 c1/\Ext ρ H1 aJ H2/\aK X.K aJ H2 xs vs/\xs.length=n/\fm xs=L/\fm l=L/\post X.K (Rel X.K) (t.2.2 (xs++l) c1) aJ H2 Q) I1 ⟨ρ,ev,c,W,Vv,post.bind q λxs c1 aJ H2 vs _ W1 X1 r1 p1=>?_⟩) λus s2 ⟨vs,H2,I2,r2,aJ,xs,c1,W1,X1,rx,hl,n1,n2,p1⟩=>?_) he hpl
    ·split at p1
     ·rename_i hc;exact⟨aJ,xs,c1,W1,X1,r1,hc.1,hc.2.1,hc.2.2,p1⟩
     ·exact p1.elim
    ·obtain⟨a',o',qn',cc',cl',cs',ea,ha2,abp,abO,abM,Ov,Og⟩:=Rel.mono W X1 _ _ rl;cases ea;have eo:o=o':=by
      have g1:=(I2.hok a _ ((X1.keep a _ ha1 (W.no ha1 rfl) rfl).1)).1;have g1':=g1;have OU:s2.heap.get? a=Y o':=((I2.hok a _ ha2).1);rw[g1']at OU;exact Q4 OU
     subst eo;refine⟨(I2.hok a _ ha2).1,?_⟩;refine abJ (cs:=cs') ξ hr I2 ha2 abp abO abM Ov r2 (by rw[rx.length];exact hl) λF hF=>?_
     refine⟨aJ,xs++l,c1,Je W1 hF,aK.append (aK.cW hF xs vs n1 rx) (aK.cW hF l cs' n2 Og),by rw[QT,hl,<-Og.length,Ov.length],?_⟩
     cases hm:t.2.2 (xs++l) c1 with
     |bad=>rw[hm]at p1;exact p1.elim
     |ok d c2 =>
      rw[hm]at p1;intro ρ' H4 b W4 X4 r4 Om;obtain⟨X5,W5⟩:=Jg W4 Om;exact p1 ρ' (gi H4 F) b W5 (acM X4 W4 hF Om) (Rel.mono W4 X5 d b r4)
   ·exact q.elim
  ·exact q.elim
 ·exact q.elim
@[simp] theorem ahx(i n:Nat) (cJ:List (ν×List Str×(List D->aa->R D))) (a:aj) (e:Ev) (c:aa) {k:Nat}{Ex:ν}{ns:List Str}{l:List D}{m:List D->aa->R D}(h:e[i]? = Y (Y (.lam k Ex ns l))) (ht:cJ[k]? = Y (Ex,ns,m)):qS i n cJ a e c=(a e c).bind λxs c=>if xs.length=n/\fm xs=L/\fm l=L then m (xs++l) c else .bad:=by
 unfold qS;rw[h];dsimp only;rw[ht];dsimp only;rw[if_pos ⟨rfl,rfl⟩]
def lZ(d:af):List D->aa->R D:=λxs c=>d (xs.map Y) c
theorem ajh{K:θ}{ρ:List J}{H:Hp}{xs:List D}{vs:List V}(r:aK K ρ H xs vs):ek K ρ H (xs.map Y) (vs.map Y):=by
 refine⟨λi d h=>?_,by rw[x8,x8,r.length]⟩
 rw[Q9]at h;cases e:xs[i]? with
 |none=>rw[e]at h;cases h
 |some y =>
  rw[e]at h;cases h;obtain⟨v,hv,rv⟩:=r.get e;exact⟨v,by rw[Q9,hv];rfl,rv⟩
theorem Fj{P:ο}{w:π}{K:θ}{mg:Str->Option S}{base:χ}{k:Nat}{params:SS}{body:ν}{scope:Q5}{pos:Pos}{ps ns:List Str}{d:af}(Γ:rF ps ns scope)
  (hbind:∀(q:Str) (cl:List (Str×J)) (pm cdv ct:S) (us:List S),us.length=ps.length->bindArgs (PySem.W.kla_fn "<lambda>" q params body scope cl pm cdv ct) ⟨us,[]⟩=pure (ps.zip us))
  (hb:∀(q:Str) (f:J) (cd:S) (cl:List (Str×J)) (A:ψ) (outer:List Env) (s:Ψ) (H:Hp),b7 k (A.deeper (PySem.W.envX q scope s.heap.objs.size f cd cl))->aP (wC P w K mg base (ps++ns) q scope f cd cl A outer s H) body d) :
  o6 P w K mg base (k+1) (.Lambda params body scope pos) ns ps.length (dH K (ps.length+ns.length) (lZ d)) :=
 Z6 Γ hbind λq f cd cl A outer s H vs Q hr h=>⟨_,hb q f cd cl A outer s H hr,by
  obtain⟨ρ,xs,c,W,r,hl,p⟩:=h;exact⟨ρ,xs.map Y,c,W,ajh r,p⟩⟩
section
variable {P:ο}{w:π}{K:θ}{mg:Str->Option S}{base:χ}
theorem Ge{x:Str}{st:υ}{f:J}{fd:Q2}{N ps:List Str}{k n m:Nat}{own:Bool}{d:ah}(F:iV K x x st f fd) (hn:μ K ι x=Y (Y (.ref f))) (Γ:eO N ps (bP st)) (hN:N.length=n) (hm:ps.length=m)
  (hb:∀(cdv:S) (A:ψ) (outer:List Env) (s:Ψ) (H:Hp) (E:XK),(∀c P,PySem.W.tabIn K x=Y (c,P)->cdv=.ref c)->b7 k (A.deeper (envOfC x (bP st) s.heap.objs.size f cdv))->br (jl bV P w K mg base N x (bP st) f cdv A outer s H E).iO (gj st) d) :
  cg P w K mg base bV (k+1) f fd ps (dH K m (bx n own d)):=by
 obtain⟨oc,od,kV,doc,pm,an,Bm,ct,osl,hfd,lk,hcd⟩:=F.ex;have key:∀(cdv:S),(∀(A:ψ) (outer:List Env) (s:Ψ) H E,b7 k (A.deeper (envOfC x (bP st) s.heap.objs.size f cdv))->br (jl bV P w K mg base N x (bP st) f cdv A outer s H E).iO (gj st) d)->cdv=Bm->cg P w K mg base bV (k+1) f fd ps (dH K m (bx n own d)):=by
  intro cdv hb' e;subst e;subst hN;subst hm;subst hfd;refine O7 lk hcd Γ (λvs H Q E h=>?_) λA outer s H vs Q E hr h=>⟨_,gm.iO (hb' A outer s H E hr),?_⟩
  ·obtain⟨ρ,xs,c,W,r,hl,p⟩:=h;exact r.length.trans hl
  ·obtain⟨ρ,xs,c,W,r,hl,p⟩:=h;refine⟨ρ,cC N.length xs,c,W,ek.start r,post.bind p λfl c1 aJ H1 b _ W1 X1 r1 p1=>?_⟩
   cases fl with
   |nx e1 =>
    obtain⟨σ1,rfl,V1⟩:=r1;exact A6 (v:=.aE) (x:=.aE) (H1:=H1) W W1 X1 rfl (by
     unfold bx at p;exact id (α:=post K _ (cG own c.length .aE c1) ρ H Q) (by
      rename_i he;rw[he]at p;exact p))
   |rt d =>
    obtain⟨v,rfl,V1⟩:=r1;exact A6 (x:=v) (H1:=H1) W W1 X1 V1 (by
     unfold bx at p;rename_i he;rw[he]at p;exact p)
   |bk e1=>exact p1.elim
   |ct e1=>exact p1.elim
 refine key Bm (λA outer s H E hr=>hb Bm A outer s H E (λc P' ht=>?_) hr) rfl
 unfold PySem.W.tabIn at ht;rw[hn]at ht;dsimp only at ht;rw[lk,hfd]at ht;dsimp only at ht;cases Bm with
 |ref c' =>
  dsimp only at ht;split at ht
  ·split at ht
   ·cases ht;rfl
   ·cases ht
  ·cases ht
 |_=>cases ht
end
def aew(H:Hp) (ts:List J):Prop:=∀b,H b=O\/(∃o xs,H b=Y (.cN o (.lst xs)))\/(b∈ts/\H b=Y (.cJ #[]))
theorem Z4{P:ο}{w:π}{K:θ}{mg mb:Str->Option S}{k:Nat}{fa a:J}{fd:Q2}{x:Str}{sp:Sp}{s₁:Ψ}{vs:List S}{ns:List Int}{ts:List (J×J)}
  (KX:K.In s₁.heap) (hns:s₁.heap.Ns ι mg) (hb:s₁.heap.Ns builtinsNs mb) (hbb:∀x:Str,x≠"__name__"->mb x=bootBuiltins x) (hlim:s₁.heap.NoLimit)
  (hbm:∃bm ob,mg "__builtins__"=Y (.ref bm)/\bm≠builtinsNs/\s₁.heap.get? bm=Y ob/\ob.cls=.type "module"/\ob.dict=Y builtinsNs/\ob.data=.plain) (hg:s₁.gens=#[])
  (ha:s₁.heap.get? a=Y {cls:=.type "list",data:=.seq vs.toArray}) (hi:Rb vs ns) (hl:ns.length<=Ξ) (hr:b7 k callerA)
  (wN:∀q∈ts,PySem.W.codeHdIn K q.1 q.2=L/\s₁.heap.get? q.2=Y (PySem.W.tabObj #[])) (hKt:PySem.W.noTabs K=L)
  (F:∀base:χ,K.In base->base.Ns ι mg->cg P w K mg base bV k fa fd [x] sp) (hbind:∀(s:Ψ) (u:S),SH s fd ⟨[u],[]⟩ [(x,u)])
  (jJ:∀H:Hp,(∀q∈ts,H q.2=Y (.cJ #[]))->bN K H a (ns.map V.int)->sp [.ref a] H (λv _=>v=.bl L) λ_ _ _=>False) :
  codeAny (model P w) callerA (.call (.ref fa) ⟨[.ref a],[]⟩) (λr s'=>r=.ok (.ret (.bool L))/\OldK s₁.heap s'.heap/\s'.os=s₁.os/\Rz s'.gens) s₁:=by
 have rv:=Jm hi;have ZW:=hi.length;have ko:∀b,b∈ts.map (·.2)->s₁.heap.get? b=Y (PySem.W.tabObj #[]):=λb h=>by
  obtain⟨q,hq,rfl⟩:=x6.mp h;exact(wN q hq).2
 have nat:a∉ts.map (·.2):=λh=>by have:=ko a h;rw[ha]at this;cases this
 have core:∀H:Hp,aew H (ts.map (·.2))->(∀q∈ts,H q.2=Y (.cJ #[]))->bN K H a (ns.map V.int)->cL P w H s₁.heap->(∀b,H b≠O->b=a\/b∈ts.map (·.2))->(H a≠O->K.lookup a=O) ->
   codeAny (model P w) callerA (.call (.ref fa) ⟨[.ref a],[]⟩) (λr s'=>r=.ok (.ret (.bool L))/\OldK s₁.heap s'.heap/\s'.os=s₁.os/\Rz s'.gens) s₁:=by
  intro H hO hT hS hok hA hK;have GY:∀{b:J}{o:Obj},s₁.heap.get? b=Y o->H b=O->(mq s₁.heap H).get? b=Y o:=λe n=>abG e n
  have Y6:∀{b:J}{o:Obj},s₁.heap.get? b=Y o->o.cls≠.type "list"->o.cls≠.none->H b=O:=fun{b o} e d1 d2=>by
   cases q:H b with
   |none=>rfl
   |some u =>
    rcases hA b (by rw[q];simp)with e'|e'
    ·subst e';rw[ha]at e;cases e;exact absurd rfl d1
    ·rw[ko b e']at e;cases e;exact absurd rfl d2
  have lV:∀{b:J}{o:Obj}{es:Array So}{ep:Nat},s₁.heap.get? b=Y o->o.data=.dict es ep->H b=O:=fun{b o es ep} e d=>by
   cases q:H b with
   |none=>rfl
   |some u =>
    rcases hA b (by rw[q];simp)with e'|e'
    ·subst e';rw[ha]at e;cases e;have d':Data.seq vs.toArray _=Data.dict es ep:=d;cases d'
    ·rw[ko b e']at e;cases e;have d':Data.fields #[]=Data.dict es ep:=d;cases d'
  have zA:∀{b:J}{m:Str->Option S},s₁.heap.Ns b m->(mq s₁.heap H).Ns b m:=fun{b m} ⟨o,es,ep,e,d,r⟩=>⟨o,es,ep,GY e (lV e d),d,r⟩
  have OF:K.In (mq s₁.heap H):=λb o e=>GY (KX b o e) (by
   cases q:H b with
   |none=>rfl
   |some u =>
    rcases hA b (by rw[q];simp)with e'|e'
    ·subst e';rw[hK (by rw[q];simp)]at e;cases e
    ·have h1:=KX b o e;rw[ko b e']at h1;cases h1;have h2:=R8.mp hKt (b,_) (PySem.W.mem_of_lookupK e);exact absurd (show G=L from h2) QY)
  have hM:Mod K mg (mq s₁.heap H):=⟨OF,zA hns,⟨mb,zA hb,hbb⟩,let⟨mc,h1,h2⟩:=hlim;⟨mc,zA h1,h2⟩,let⟨bm,ob,b1,b2,b3,b4,b5⟩:=hbm;⟨bm,ob,b1,b2,GY b3 (Y6 b3 (by rw[b4];simp) (by rw[b4];simp)),b4,b5⟩⟩
  have e0:lJ P w K mg (mq s₁.heap H) callerA [] s₁ H:=⟨rfl,hM,λb o e=>YD e,Rt (abD _ _),trivial,λb hb=>absurd (show b∈([]:List J)from hb) (by simp),hok,.of_eq hg⟩
  refine Rq ((F _ OF (zA hns)).run callerA [] s₁ H ⟨[.ref a],[]⟩ [.ref a] [.ref a] _ _ hr e0 (hbind s₁ (.ref a)) (.cons rfl .nil) (jJ H hT hS)) λr s' h=>?_
  cases r with
  |error e=>exact False.elim h
  |ok fl =>
   cases fl with
   |next=>exact False.elim h
   |brk=>exact False.elim h
   |cont=>exact False.elim h
   |ret u =>
    obtain⟨v,H',os,bare,un,Oj,r',q⟩:=h;have q':v=.bl L:=q;subst q';obtain rfl:u=Value.bool L:=r';have main:∀b o,s₁.heap.get? b=Y o->s'.heap.get? b=Y o\/(b∈ts.map (·.2)/\o=PySem.W.tabObj #[]/\∃ps,s'.heap.get? b=Y (PySem.W.tabObj ps)):=λb o e=>by
     rcases hO b with z|⟨ob,xs,z⟩|⟨hm,z⟩
     ·exact .inl (un.keep b o e z (by intro z;exact absurd (show b∈([]:List J)from z) (by simp)) (by simp))
     ·have z2:=un.jh b ob _ z;obtain⟨e1,_⟩:=hok b _ z;obtain⟨e2,_⟩:=Oj b _ z2;rw[e]at e1;cases e1;exact .inl e2
     ·obtain⟨more,z2⟩:=un.jw b _ z;have e2:s'.heap.get? b=Y (PySem.W.tabObj (#[]++more)):=Oj b _ z2;have e1:=ko b hm;rw[e]at e1;cases e1;exact .inr ⟨hm,rfl,_,e2⟩
    refine⟨rfl,⟨λb o e=>?_,λb o e=>?_⟩,os,bare⟩
    ·rcases main b o e with z|⟨hm,rfl,ps,z⟩
     ·exact .inl z
     ·obtain⟨q,hq,rfl⟩:=x6.mp hm;have hC:=Vj KX (wN q hq).1;exact .inr (.inl ⟨(hC.tab (wN q hq).2).isCodeTable,rfl,#[],ps,rfl,by rw[Array.empty_append];exact z⟩)
    ·rcases main b o e with z|⟨_,_,ps,z⟩
     ·exact⟨o,z⟩
     ·exact⟨_,z⟩
 have afb:∀(H:Hp) b,H b=Y (.cJ #[])->b∈ts.map (·.2)->d7 P w H s₁.heap b (.cJ #[]):=λH b _ h=>ko b h
 cases hk:K.lookup a with
 |some o =>
  have e:=KX a o hk;rw[ha]at e;cases e
  let H:Hp:=λb=>if b∈ts.map (·.2)then Y (.cJ #[])else O
  refine core H (λb=>?_) (λq hq=>if_pos (Uj hq)) (.inr ⟨_,vs.toArray,_,hk,rfl,rfl,rfl,by rw[E4,ZW];exact hl,by simpa using rv⟩) (λb u z=>?_) (λb z=>?_) λz=>absurd (if_neg nat) z
  ·by_cases hb:b∈ts.map (·.2)
   ·exact .inr (.inr ⟨hb,if_pos hb⟩)
   ·exact .inl (if_neg hb)
  ·by_cases hb:b∈ts.map (·.2)
   ·have z':=(if_pos hb).symm.trans z;cases z';exact ko b hb
   ·have z':=(if_neg hb).symm.trans z;cases z'
  ·by_cases hb:b∈ts.map (·.2)
   ·exact .inr hb
   ·exact absurd (if_neg hb) z
 |none =>
  let H:Hp:=λb=>if b∈ts.map (·.2)then Y (.cJ #[])else if b=a then Y (.cN {cls:=.type "list",data:=.seq vs.toArray} (.lst (ns.map V.int)))else O
  have Ha:H a=Y _:=(if_neg nat).trans (if_pos rfl);refine core H (λb=>?_) (λq hq=>if_pos (Uj hq)) (.inl (.inr ⟨_,Ha⟩)) (λb u z=>?_) (λb z=>?_) λ_=>hk
  ·by_cases hb:b∈ts.map (·.2)
   ·exact .inr (.inr ⟨hb,if_pos hb⟩)
   ·by_cases hb2:b=a
    ·exact .inr (.inl ⟨_,_,(if_neg hb).trans (if_pos hb2)⟩)
    ·exact .inl ((if_neg hb).trans (if_neg hb2))
  ·by_cases hb:b∈ts.map (·.2)
   ·have z':=(if_pos hb).symm.trans z;cases z';exact ko b hb
   ·by_cases hb2:b=a
    ·have z':=((if_neg hb).trans (if_pos hb2)).symm.trans z;cases z';subst hb2;exact⟨ha,by rw[x8];exact hl,vs,_,rv,ha⟩
    ·have z':=((if_neg hb).trans (if_neg hb2)).symm.trans z;cases z'
  ·by_cases hb:b∈ts.map (·.2)
   ·exact .inr hb
   ·by_cases hb2:b=a
    ·exact .inl hb2
    ·exact absurd ((if_neg hb).trans (if_neg hb2)) z
def C8(K:θ) (ts:List (J×J)):Bool:=qq.all λx=>match PySem.W.tabIn K x with
 |some q=>decide (q∈ts)
 |none=>L
theorem aiu{K:θ}{H:Hp}{ts:List (J×J)}(h:C8 K ts=L) (hT:∀q∈ts,H q.2=Y (.cJ #[])):rm K H:=λx hx c P e=>by
 have:=R8.mp h x hx;rw[e]at this;exact⟨#[],hT _ (of_decide_eq_true this),trivial,λpos cv z=>by cases z⟩
theorem ahh{l:VA}{n k:Nat}{q:ο}{loose:List Str}{XP:(Str->Option S)->χ->Prop}{YP:π->χ->Prop}{d:DefRec}{K:Params->θ}{x:Str}{m:List D->aa->R D}{ts:List (J×J)}
  (hn:l.most=Y n) (hn2:n<=Ξ) (hdf:d.params.defaults=[]) (hr:b7 k callerA)
  (hY:∀(w:π) (h:χ),YP w h->(K w.params).In h/\∀q∈ts,h.get? q.2=Y (PySem.W.tabObj #[]))
  (hK:∀p,(ts.all λq=>PySem.W.codeHdIn (K p) q.1 q.2)=L/\PySem.W.noTabs (K p)=L/\C8 (K p) ts=L)
  (F:∀(w:π) (mg:Str->Option S) (fa:J) (h:χ),(K w.params).In h->h.Ns ι mg->mg d.name=Y (.ref fa) ->
   ∃fd:Q2,(∀(s:Ψ) (u:S),SH s fd ⟨[u],[]⟩ [(x,u)]) /\
    ∀base:χ,(K w.params).In base->base.Ns ι mg->cg l.prog w (K w.params) mg base bV k fa fd [x] (dH (K w.params) 1 m))
  (hm:∀ns:List Int,ns.length<=n->∃c,m [.cD ns] []=.ok (.bl L) c) :
  PySem.W.WalkO q loose XP YP l.row.toRowW d [] (λf vs=>PySem.call f vs):=by
 refine QO.ad6 hn hdf λw s₀ s₁ mg mb fa o pm cd doc a vs ns ξ ζ ho hd hcd hmg hobj hints hlen hg=>?_
 obtain⟨KX,hT⟩:=hY w _ ζ;obtain⟨fd,hb,hF⟩:=F w mg fa _ KX ξ.T.g hmg;obtain⟨k1,k2,k3⟩:=hK w.params;refine Z4 KX ξ.T.g ξ.T.b ξ.T.builtins ξ.T.nolimit ξ.T.bmain hg hobj hints (Q3 hlen hn2) hr (λq hq=>⟨R8.mp k1 q hq,hT q hq⟩) k2 hF hb λH h1 h2=>?_
 obtain⟨c,hc⟩:=hm ns hlen;refine⟨[],[.cD ns],[],⟨.nil,rfl,λk a cl e=>(by cases e),aiu k3 h1⟩,⟨.ref a,[],rfl,⟨a,rfl,?_⟩,rfl⟩,rfl,?_⟩
 ·rcases h2 with hS|hS
  ·exact .inl ⟨hS,by simp⟩
  ·exact .inr (.inr hS)
 ·rw[hc];exact λρ' H' b _ _ r=>r
section
variable {X:Cx}
def zY:D->D->aa->R D:=λx y c=>match x,y with
 |.tup [.int a,.int b],.dct ks=>.ok (.bl (decide ((a,b)∈ks))) c
 |_,_=>.bad
theorem YH(hu:X.A.units+64<QS):bC X (compareOp .In) (r2 X.K zY):=by
 intro pins s Z H v u vv uu Q I rv ru h;obtain⟨ρ,x,y,c,W,rx,ry,p⟩:=h;unfold zY at p;split at p
 ·rename_i a b ks;obtain⟨t,xs,rfl,ht,rl⟩:=rx;obtain⟨x1,r1,rfl,e1,rl⟩:=rl;obtain⟨x2,r2,rfl,e2,rl⟩:=rl;cases(show x1=V.int a from e1)
  cases(show x2=V.int b from e2)
  cases(show r2=[]from rl)
  obtain⟨d,kvs,rfl,hd,hk⟩:=ry;obtain rfl:uu=Value.ref d:=ru;have g:iA H d (.ref t) (dG kvs [Sum.inl a,Sum.inl b]):=iA.t hd (show H t=Y (.tup ([Sum.inl a,Sum.inl b].map kV))from ht)
  refine ac7 (by omega) I g rv λs3 I3=>⟨.bl (dG kvs [Sum.inl a,Sum.inl b]).isSome,H,I3,rfl,?_⟩
  rw[<-pJ,hk (a,b)];exact p.here W rfl
 ·exact p.elim
end
theorem aak{k:Key}{u:S}(h:jE k u=L):RelV (kV k) u:=by
 cases k with
 |inl i =>
  cases u with
  |int j t =>
   have e:(i==j)=L\/(j==i)=L:=by
    unfold jE at h
    first
     |exact .inl h
     |exact .inr h
   have:j=i:=by
    rcases e with e|e
    ·exact(by simpa using e:i=j).symm
    ·simpa using e
   subst this;exact⟨t,rfl⟩
  |_=>exact absurd h (by unfold jE;intro z;cases z)
 |inr x =>
  cases u with
  |str y t =>
   have e:(x==y)=L\/(y==x)=L:=by
    unfold jE at h
    first
     |exact .inl h
     |exact .inr h
   have:y=x:=by
    rcases e with e|e
    ·exact(by simpa using e:x=y).symm
    ·simpa using e
   subst this;exact⟨t,rfl⟩
  |_=>exact absurd h (by unfold jE;intro z;cases z)
theorem KV.get{kvs:List (Key×V)}{vs:List (Key×S)}(r:KV kvs vs):∀{i:Nat},i<kvs.length->∃k v u,kvs[i]? = Y (k,v)/\vs[i]? = Y (k,u):=by
 induction r with
 |nil=>intro i hi;cases hi
 | @cons p q ps qs hq t ih =>
  intro i hi;cases i with
  |zero=>exact⟨p.1,p.2,q.2,rfl,by rw[hq.1];rfl⟩
  |succ i =>
   obtain⟨k,v,u,h1,h2⟩:=ih (i:=i) (by simpa using hi)
   exact⟨k,v,u,by simpa using h1,by simpa using h2⟩
def valN(l:List (Nat×Int)) (n:Nat):Option Int:=(l.find? λp=>decide (p.1=n)).map (·.2)
def putN(l:List (Nat×Int)) (n:Nat) (v:Int):List (Nat×Int):=if(l.any λp=>decide (p.1=n))=L then l.map (λp=>if p.1=n then(p.1,v)else p)else l++[(n,v)]
def aek(l:List (Nat×Int)) (n:Nat) (x:Int):List (Nat×Int):=putN l n ((valN l n).getD 0+x)
def DP(r:List Nat) (x:Int) (l:List (Nat×Int)):List (Nat×Int):=r.foldl (λl n=>aek l n x) l
structure GdN (Δ:Nat) (l:List (Nat×Int)):Prop where
 nd:(l.map (·.1)).Nodup
 lt:∀p∈l,p.1<Δ
def tX:HO->Bool
 |.ins _ _ []=>L
 |_=>G
section
variable {K:θ}{ρ:List J}{H H':Hp}{c:aa}
theorem aiW(k:∀a o,H a=Y o->tX o=G->H' a=Y o) {a:J}{xs:List V}(h:rq K ρ H a xs):rq K ρ H' a xs:=by
 rcases h with⟨h,n⟩|h
 ·rcases h with h|⟨o,h⟩
  ·exact .inl ⟨.inl (k a _ h rfl),n⟩
  ·exact .inl ⟨.inr ⟨o,k a _ h rfl⟩,n⟩
 ·exact .inr h
mutual
theorem Rel.nd(k:∀a o,H a=Y o->tX o=G->H' a=Y o):∀(d:D) (v:V),Rel K ρ H d v->Rel K ρ H' d v
 |.aE,v,h=>h
 |.bl b,v,h=>h
 |.int i,v,h=>h
 |.str y,v,h=>h
 |.ty n,v,h=>h
 |.tup l,v,h=>by
  obtain⟨a,xs,e,s,r⟩:=h;exact⟨a,xs,e,k a _ s rfl,aK.nd k l xs r⟩
 |.lst l,v,h=>by
  obtain⟨a,xs,e,s,r⟩:=h;exact⟨a,xs,e,⟨k a _ s.1 rfl,s.2⟩,aK.nd k l xs r⟩
 |.ref _,v,h=>by
  obtain⟨a,e,s,l⟩:=h;exact⟨a,e,s,l.to λo e g=>k a o e (by cases o<;>first|rfl|cases g)⟩
 |.cD l,v,h=>by
  obtain⟨a,e,s⟩:=h;exact⟨a,e,aiW k s⟩
 |.fn a n,v,h=>h
 |.iH,v,h=>by
  obtain⟨a,e,q⟩:=h;exact⟨a,e,k a _ q rfl⟩
 |.dct ks,v,h=>by
  obtain⟨a,kvs,e,q,z⟩:=h;exact⟨a,kvs,e,k a _ q rfl,z⟩
 |.eG _,v,h=>by
  obtain⟨a,e,s,l⟩:=h;exact⟨a,e,s,l.to λo e g=>k a o e (by cases o<;>first|rfl|cases g)⟩
 |.cS a b,v,h=>h.to (λp _ _ fs q z=>k p _ q (by cases fs;exact absurd rfl z;rfl)) λ_ p _ z e h=>⟨e,h.to λo e g=>k p o e (by cases o<;>first|rfl|exact absurd g.symm z)⟩
 |.dX a b,v,h=>by
  obtain⟨p,C,dx,u,e,n,q,h⟩:=h;exact⟨p,C,dx,u,e,n,k p _ q rfl,h.to (λp _ _ fs q z=>k p _ q (by cases fs;exact absurd rfl z;rfl)) λ_ p _ z e h=>⟨e,h.to λo e g=>k p o e (by cases o<;>first|rfl|exact absurd g.symm z)⟩⟩
 |.exc y,v,h=>by
  obtain⟨a,C,e,n,q⟩:=h;exact⟨a,C,e,n,k a _ q rfl⟩
 |.lam _ y ns l,v,h=>by
  obtain⟨a,o,q,c,cl,xs,e,h1,h2,h3,h4,h5,h6⟩:=h;exact⟨a,o,q,c,cl,xs,e,k a _ h1 rfl,h2,k c _ h3 rfl,h4,h5.mono (λb o z=>k b _ z rfl),aK.nd k l xs h6⟩
theorem aK.nd(k:∀a o,H a=Y o->tX o=G->H' a=Y o):∀(l:List D) (xs:List V),aK K ρ H l xs->aK K ρ H' l xs
 |[],xs,h=>h
 |d::l,xs,h=>by
  obtain⟨y,r,e,h1,h2⟩:=h;exact⟨y,r,e,Rel.nd k d y h1,aK.nd k l r h2⟩
end
theorem Wd.Ng(W:Wd K ρ H c) (k:∀a o,H a=Y o->tX o=G->H' a=Y o):Wd K ρ H' c :=
 ⟨W.nd,W.len,λi a cl e1 e2=>by
  have q:=W.eL i a cl e1 e2;rw[kG]at q ⊢;obtain⟨nr,xs,h,r⟩:=q;exact⟨nr,xs,k a _ h (by cases cl<;>rfl),aK.nd k _ xs r⟩,W.tab.mono (λP ps e=>k P _ e rfl) λc φ e=>k c _ e rfl⟩
theorem ahj{a:J}{o:HO}(h:H a=O\/∃u,H a=Y u/\tX u=L):∀b u,H b=Y u->tX u=G->upd H a o b=Y u:=λb u e d=>by
 have:b≠a:=λz=>by
  subst z
  rcases h with h|⟨v,h,t⟩
  ·rw[h]at e;cases e
  ·rw[h]at e;cases e;rw[t]at d;cases d
 rw[aV this];exact e
end
end L2
namespace L2
open PySem PySem.Spec PyProof.Rows
def sy(p:Int×Int):D:=.tup [.int p.1,.int p.2]
def iT(qs:List (Int×Int)):List (Int×Int):=qs.flatMap λq=>[q,(q.2,q.1)]
def B7(kvs:List (List Key×V)) (ks:List (Int×Int)):Prop:=∀p:Int×Int,(kvs.any λkv=>decide (kv.1=[Sum.inl p.1,Sum.inl p.2]))=decide (p∈ks)
theorem B7.put{kvs:List (List Key×V)}{ks:List (Int×Int)}(h:B7 kvs ks) (q:Int×Int) (v:V):B7 (putK kvs [Sum.inl q.1,Sum.inl q.2] v) (ks++[q]):=λp=>by
 have e:=h p;rw[pJ]at e ⊢;rw[ahk]
 by_cases hq:p=q
 ·subst hq;simp
 ·have hne:¬([Sum.inl p.1,Sum.inl p.2]:List Key)=[Sum.inl q.1,Sum.inl q.2]:=λz=>hq (by
   simp only[Vg,Sum.inl.injEq,and_true]at z;exact Tq z.1 z.2)
  rw[if_neg hne,e];simp[hq]
def DX:D->Option (Int×Int)
 |.tup [.int a,.int b]=>Y (a,b)
 |_=>O
def lS:List D->Option (List (Int×Int))
 |[]=>Y []
 |d::l=>match DX d,lS l with
  |some p,Y ps=>Y (p::ps)
  |_,_=>O
theorem LQ:∀{l:List D}{ps:List (Int×Int)},lS l=Y ps->l=ps.map sy
 |[],ps,h=>by cases h;rfl
 |d::l,ps,h=>by
  unfold lS at h;split at h
  ·rename_i p qs h1 h2;cases h;rw[LQ h2];unfold DX at h1;split at h1
   ·cases h1;rfl
   ·cases h1
  ·cases h
theorem LR:∀ps:List (Int×Int),lS (ps.map sy)=Y ps
 |[]=>rfl
 |p::ps=>by
  unfold lS;rw[E1];have:=LR ps;simp[sy,DX,this]
def nj(i j k:Nat):ah:=λe c=>match e[i]? with
 |some (Y d)=>match(fJ c d).bind lS with
  |some ps=>if ps.length<2000/\e.length=4 then .ok (.nx ((e.set j (Y (.dct (iT ps)))).set k O)) c else .bad
  |none=>.bad
 |_=>.bad
theorem akn{α β:Type}{K:θ}{Rl:List J->Hp->α->β->Prop}{r:R α}{ρ aJ:List J}{H H1:Hp}{Q:β->Hp->Prop}(x:Ext ρ H aJ H1) (p:post K Rl r ρ H Q):post K Rl r aJ H1 Q:=by
 cases r with
 |ok a c=>exact λρ' H' b W X R=>p ρ' H' b W (x.trans X) R
 |bad=>exact p
theorem gS:10000<Ξ:=by decide
section
variable {K:θ}{ρ:List J}{H0:Hp}{c:aa}
def II(K:θ) (H0:Hp) (a:J) (s0:Option V) (v1:V) (ps:List (Int×Int)) (i:Nat) (Z:St) (H:Hp):Prop :=
 ∃x kvs,(∀b o,H0 b=Y o->H b=Y o)/\Z=[s0,Y v1,Y (.ref a),x]/\H a=Y (.dT kvs)/\B7 kvs (iT (ps.take i))/\kvs.length<=2*i
theorem akp{H:Hp}{p:Int×Int}{v:V}(r:Rel K ρ H (sy p) v):∃b,v=.ref b/\H b=Y (.tup [.int p.1,.int p.2]):=by
 obtain⟨b,xs,rfl,hb,rl⟩:=r;obtain⟨x1,r1,rfl,e1,rl⟩:=rl;obtain⟨x2,r2,rfl,e2,rl⟩:=rl;cases(show x1=V.int p.1 from e1)
 cases(show x2=V.int p.2 from e2)
 cases(show r2=[]from rl)
 exact⟨b,rfl,hb⟩
def NY(K:θ):TS :=
 Dc (DN (jY 2) (jY 3) (tC (.bl L))) (DN (jY 2) (JL (De (rV (DT K) (jY 3) (tC (.int 1))) (De (rV (DT K) (jY 3) (tC (.int 0))) vh))) (tC (.bl L)))
theorem aay{a:J}{s0:Option V}{v1:V}{ps:List (Int×Int)}{i:Nat}{p:Int×Int}{b:J}{D:Ends}(ha:H0 a=O) (hb:H0 b=Y (.tup [.int p.1,.int p.2])) (hp:ps[i]? = Y p) (hl:ps.length<2000)
  (hD:∀Z H,II K H0 a s0 v1 ps (i+1) Z H->D.nx Z H) {Z:St}{H:Hp}(h:II K H0 a s0 v1 ps i Z H):NY K D (Z.set 3 (Y (.ref b))) H:=by
 obtain⟨x,kvs,M,rfl,hd,hk,hlen⟩:=h;have hi:i<ps.length:=(Q7.mp hp).1;have sz:=gS;have Oz:=M b _ hb;have hba:b≠a:=λe=>by rw[e,ha]at hb;cases hb
 refine⟨.ref a,rfl,.ref b,rfl,a,_,rfl,mR.t (k:=[Sum.inl p.1,Sum.inl p.2]) hd Oz (by omega),?_⟩
 have k1:=hk.put p (.bl L);have l1:=zP kvs [Sum.inl p.1,Sum.inl p.2] (.bl L)
 generalize putK kvs [Sum.inl p.1,Sum.inl p.2] (.bl L)=qu at k1 l1
 have hb1:upd H a (.dT qu) b=Y (.tup [.int p.1,.int p.2]):=by rw[aV hba];exact Oz
 have hd1:upd H a (.dT qu) a=Y (.dT qu):=by unfold upd;rw[if_pos rfl]
 refine⟨.ref a,rfl,.ref b,rfl,b,[.int p.1,.int p.2],1,.int p.2,rfl,rfl,.inl (.inl hb1),rfl,.ref b,rfl,b,[.int p.1,.int p.2],0,.int p.1,rfl,rfl,.inl (.inl hb1),rfl,by show 2<=Ξ;omega,λt ht=>?_⟩
 have ko:t≠a:=λe=>by rw[e,hd1]at ht;cases ht
 have hat:a≠t:=Q8 ko;have hd2:upd (upd H a (.dT qu)) t (.tup [.int p.2,.int p.1]) a=Y (.dT qu):=by rw[aV hat];exact hd1
 have ht2:upd (upd H a (.dT qu)) t (.tup [.int p.2,.int p.1]) t=Y (.tup ([Sum.inl p.2,Sum.inl p.1].map kV)):=by unfold upd;rw[if_pos rfl];rfl
 refine⟨a,_,rfl,mR.t (k:=[Sum.inl p.2,Sum.inl p.1]) hd2 ht2 (by omega),?_⟩
 have k2:=k1.put (p.2,p.1) (.bl L);have l2:=zP qu [Sum.inl p.2,Sum.inl p.1] (.bl L);refine hD _ _ ⟨Y (.ref b),_,λu o e=>?_,rfl,by unfold upd;rw[if_pos rfl],?_,by omega⟩
 ·have Oe:u≠a:=λz=>by rw[z,ha]at e;cases e
  have hut:u≠t:=λz=>by
   rw[z]at e;have:=M t o e;rw[aV ko,this]at ht;cases ht
  rw[aV Oe,aV hut,aV Oe];exact M u o e
 ·have e:iT (ps.take (i+1))=iT (ps.take i)++[p]++[(p.2,p.1)]:=by
   rw[UC,hp];unfold iT;rw[U1];simp
  rw[e];exact k2
end
theorem NJ{α:Type}{l:List α}(h:l.length=4):∃a b d f,l=[a,b,d,f]:=by
 match l,h with
 |[a,b,d,f],_=>exact⟨a,b,d,f,rfl⟩
theorem ZM{K:θ}{ρ:List J}{H:Hp}{c:aa}(W:Wd K ρ H c) {d:D}{v:V}{l:List D}(r:Rel K ρ H d v) (h:fJ c d=Y l):∃a xs,v=.ref a/\H a=Y (.lst xs)/\aK K ρ H l xs:=by
 cases d with
 |lst m =>
  have e:Y m=Y l:=h;cases e;obtain⟨a,xs,rfl,hs,rl⟩:=r;exact⟨a,xs,rfl,hs.1,rl⟩
 |ref k =>
  obtain⟨a,rfl,ha,_⟩:=r;unfold fJ at h;dsimp only at h;cases hc:c[k]? with
  |none=>rw[hc]at h;cases h
  |some cl =>
   cases cl with
   |lst m =>
    rw[hc]at h;cases h;obtain⟨_,xs,hx,rl⟩:=W.eL k a _ ha hc;exact⟨a,xs,rfl,hx,rl⟩
   |kd m=>rw[hc]at h;cases h
 |_=>cases h
theorem aiL{X:Cx}{A B:υ}{rest:List υ}{dr:ah}(hA:PS X A (Dg JT (Ae 2))) (hB:PS X B (JR (Od X.K (jY 1)) (Ae 3) (NY X.K))) (hr:br X rest dr):br X (A::B::rest) (aC (nj 1 2 3) dr) :=
 (vD hA (vD hB hr)).imp λσ Z H h=>by
  obtain⟨ρ,e,c,W,V,p⟩:=h;unfold aC nj at p;cases he:e[1]? with
  |none=>rw[he]at p;exact p.elim
  |some od =>
   cases od with
   |none=>rw[he]at p;exact p.elim
   |some d =>
    rw[he]at p;dsimp only at p;cases hl:fJ c d with
    |none=>rw[hl]at p;exact p.elim
    |some l =>
     rw[hl,U0]at p;cases hq:lS l with
     |none=>rw[hq]at p;exact p.elim
     |some ps =>
      rw[hq]at p;dsimp only at p
      by_cases hh:ps.length<2000/\e.length=4
      ·rw[if_pos hh]at p;have el:=LQ hq;subst el;obtain⟨v1,hv1,rd⟩:=V.get 1 d he;obtain⟨e0,e1,e2,e3,rfl⟩:=NJ hh.2;obtain⟨s0,s1,s2,s3,rfl⟩:=NJ (V.len.symm.trans hh.2);cases he;cases hv1;obtain⟨b,xs,rfl,hb,rl⟩:=ZM W rd hl;have hx:=rl.length;rw[x8]at hx;intro a ha;have M0:∀u o,H u=Y o->upd H a (.dT []) u=Y o:=λu o z=>by
        rw[aV (λy=>by rw[y,ha]at z;cases z)];exact z
       refine⟨.ref b,rfl,b,rfl,⟨xs,bN.of (M0 b _ hb)⟩,acB (K:=X.K) (a:=b) (xs:=xs) (II X.K H a s0 (.ref b) ps) ⟨s3,[],M0,rfl,by unfold upd;rw[if_pos rfl],λq=>by simp[iT],RL _⟩ (λi Z H' _ q=>?_) (λi x Z H' hxi q=>?_) (λZ H' q=>?_)⟩
       ·obtain⟨_,_,M,_⟩:=q;exact bN.of (M b _ hb)
       ·have hi:i<ps.length:=by rw[<-hx];exact(Q7.mp hxi).1
        obtain⟨x',hx',rp⟩:=aK.get rl (i:=i) (d:=sy ps[i]) (by simp[hi])
        rw[hxi]at hx';cases hx';obtain⟨t,rfl,ht⟩:=akp rp;exact aay ha ht (Bt hi) hh.1 (λZ H q=>q) q
       ·obtain⟨x,kvs,M,rfl,hd,hk,_⟩:=q;rw[hx,RN]at hk;have E:Ext ρ H ρ H':=Ext.of W λu o z _=>M u o z
        refine⟨ρ,[e0,Y d,Y (.dct (iT ps)),O],c,W.Ng (λu o z _=>M u o z),⟨λi g hg=>?_,rfl⟩,akn E p⟩
        match i,hg with
        |0,hg =>
         obtain⟨v,hv,r⟩:=V.get 0 g hg;exact⟨v,hv,Rel.mono W E _ _ r⟩
        |1,hg =>
         cases hg;exact⟨.ref b,rfl,Rel.mono W E _ _ rd⟩
        |2,hg =>
         cases hg;exact⟨.ref a,rfl,a,kvs,rfl,hd,hk⟩
        |3,hg=>cases hg
        |(n+4),hg=>simp at hg
      ·rw[if_neg hh]at p;exact p.elim
theorem Of{A:ψ}(h:A.units+64<QS):A.units+1<QS:=by omega
structure rH (K:θ) (C:J):Prop where
 at_:μ K ι "Bench"=Y (Y (.ref C))
 cl:jS K C
 nk:mQ K C "kept"
 np:mQ K C "past"
def iu(o:af):af:=λe c=>(o e c).bind λx c=>match x with
 |.cS a _=>.ok (.eG a) c
 |_=>.bad
def xu(o:af):af:=λe c=>(o e c).bind λx c=>match x with
 |.cS _ b=>.ok (.ref b) c
 |_=>.bad
def eX(l:List (Str×D)) (n:Str):Option D:=(l.find? λp=>decide (p.1=n)).map (·.2)
def jF(l:List (Str×D)) (n:Str) (d:D):List (Str×D) :=
 if(l.any λp=>decide (p.1=n))=L then l.map (λp=>if p.1=n then(p.1,d)else p)else l++[(n,d)]
def kz(l:List (Str×D)) (xs:List V):List (Key×V):=(l.map λp=>(Sum.inr p.1:Key)).zip xs
section
variable {K:θ}{ρ:List J}{H:Hp}{n:Str}
theorem n5:∀{l:List (Str×D)}{xs:List V},aK K ρ H (l.map (·.2)) xs->(∀d,eX l n=Y d->∃v,dG (kz l xs) (Sum.inr n)=Y v/\Rel K ρ H d v)/\(eX l n=O->dG (kz l xs) (Sum.inr n)=O)
 |[],xs,r=>by
  cases(show xs=[]from r)
  exact⟨λd h=>(by cases h),λ_=>rfl⟩
 |(m,d0)::l,xs,r=>by
  obtain⟨x,ys,rfl,r1,r2⟩:=r
  by_cases e:m=n
  ·subst e;have q:dG (kz ((m,d0)::l) (x::ys)) (Sum.inr m)=Y x:=ju rfl;have a:eX ((m,d0)::l) m=Y d0:=by simp[eX]
   refine⟨λd h=>?_,λh=>?_⟩
   ·rw[a]at h;cases h;exact⟨x,q,r1⟩
   ·rw[a]at h;cases h
  ·have q:dG (kz ((m,d0)::l) (x::ys)) (Sum.inr n)=dG (kz l ys) (Sum.inr n):=jv (λz=>e (Sum.inr.inj z))
   have a:eX ((m,d0)::l) n=eX l n:=by simp[eX,e]
   rw[q,a];exact n5 r2
theorem NR{l:List (Str×D)}{xs:List V}(r:aK K ρ H (l.map (·.2)) xs):(kz l xs).length=l.length:=by
 have:=r.length;simp[kz]at this ⊢;omega
theorem aab{l:List (Str×D)}{xs:List V}(r:aK K ρ H (l.map (·.2)) xs):((kz l xs).any λkv=>decide (kv.1=Sum.inr n))=l.any λp=>decide (p.1=n):=by
 rw[pJ];have q:(eX l n).isSome=l.any λp=>decide (p.1=n):=by
  clear r
  induction l with
  |nil=>rfl
  |cons a l ih=>by_cases h:a.1=n<;>simp_all[eX]
 rw[<-q];cases h:eX l n with
 |none=>rw[(n5 r).2 h];rfl
 |some d =>
  obtain⟨v,e,_⟩:=(n5 r).1 d h;rw[e];rfl
theorem NQ{d:D}{v:V}(rv:Rel K ρ H d v):∀{l:List (Str×D)}{xs:List V},aK K ρ H (l.map (·.2)) xs->∃ys,(kz l xs).map (λkv=>if kv.1=Sum.inr n then(kv.1,v)else kv)=kz (l.map λp=>if p.1=n then(p.1,d)else p) ys/\aK K ρ H ((l.map λp=>if p.1=n then(p.1,d)else p).map (·.2)) ys
 |[],xs,r=>by
  cases(show xs=[]from r)
  exact⟨[],rfl,rfl⟩
 |(m,d0)::l,xs,r=>by
  obtain⟨x,ys,rfl,r1,r2⟩:=r;obtain⟨zs,e,rz⟩:=NQ rv r2
  by_cases h:m=n
  ·subst h;refine⟨v::zs,?_,v,zs,rfl,?_,?_⟩
   ·show _::(kz l ys).map _=_;rw[e];simp[kz]
   ·simpa using rv
   ·simpa using rz
  ·refine⟨x::zs,?_,x,zs,rfl,?_,?_⟩
   ·show _::(kz l ys).map _=_;rw[e];simp[kz,h]
   ·simpa[h]using r1
   ·simpa using rz
theorem aaa{d:D}{v:V}(rv:Rel K ρ H d v) {l:List (Str×D)}{xs:List V}(r:aK K ρ H (l.map (·.2)) xs):∃ys,putK (kz l xs) (Sum.inr n) v=kz (jF l n d) ys/\aK K ρ H ((jF l n d).map (·.2)) ys:=by
 unfold putK jF;rw[aab r];split
 ·exact NQ rv r
 ·refine⟨xs++[v],?_,?_⟩
  ·have:=r.length;unfold kz;rw[SO,List.zip_append (by simpa using this.symm)];rfl
  ·rw[SO];exact r.append ⟨v,[],rfl,rv,rfl⟩
end
def ux(o a:af):af:=λe c=>(o e c).bind λx c=>match x with
 |.eG k=>(a e c).bind λy c=>match y,c[k]? with
  |.str n,Y (.kd l)=>.ok ((eX l n).getD .aE) c
  |_,_=>.bad
 |_=>.bad
def Bh(o a:af):af:=λe c=>(o e c).bind λx c=>match x with
 |.eG k=>(a e c).bind λy c=>match y,c[k]? with
  |.str n,Y (.kd l)=>match eX l n with
   |some d=>.ok d c
   |none=>.bad
  |_,_=>.bad
 |_=>.bad
def yY(o a v:af):ah:=λe c=>(v e c).bind λd c=>(o e c).bind λx c=>(a e c).bind λy c=>match x,y with
 |.eG k,.str n=>match c[k]? with
  |some (.kd l)=>if l.length<Ξ/\noRef d=L then .ok (.nx e) (c.set k (.kd (jF l n d)))else .bad
  |_=>.bad
 |_,_=>.bad
def nI:D->D->aa->R D:=λx y c=>match x,y with
 |.str n,.eG k=>match c[k]? with
  |some (.kd l)=>.ok (.bl (!(eX l n).isSome)) c
  |_=>.bad
 |_,_=>.bad
def tQ:List D->aa->R D:=λxs c=>match xs with
 |[.eG k]=>match c[k]? with
  |some (.kd l)=>.ok (.int l.length) c
  |_=>.bad
 |_=>.bad
section
variable {X:Cx}{C:J}{o i e value:ν}{dO da dv:af}{pos apos cpos pos':Pos}
theorem p8(B:rH X.K C) (ho:aP X o dO) (hb:RM o "kept" X.env (eval o X.env)=eval o X.env:=by rfl):aP X (.Attribute o "kept" pos) (iu dO):=(D7 ho hb).imp λZ H Q h=>by
 obtain⟨ρ,e,c,W,V,p⟩:=h;refine⟨ρ,e,c,W,V,post.bind p λx c1 aJ H1 v _ W1 X1 r1 p1=>?_⟩
 cases x with
 |cS a b =>
  obtain⟨q,C',dx,pa,pb,rfl,hC,hq,h1,h2⟩:=r1;rw[B.at_]at hC;cases hC;exact⟨q,_,dx,_,_,rfl,hq,B.cl,B.nk,rfl,p1.here W1 ⟨pa,rfl,h1⟩⟩
 |_=>exact p1.elim
theorem aj9(B:rH X.K C) (ho:aP X o dO) (hb:RM o "past" X.env (eval o X.env)=eval o X.env:=by rfl):aP X (.Attribute o "past" pos) (xu dO):=(D7 ho hb).imp λZ H Q h=>by
 obtain⟨ρ,e,c,W,V,p⟩:=h;refine⟨ρ,e,c,W,V,post.bind p λx c1 aJ H1 v _ W1 X1 r1 p1=>?_⟩
 cases x with
 |cS a b =>
  obtain⟨q,C',dx,pa,pb,rfl,hC,hq,h1,h2⟩:=r1;rw[B.at_]at hC;cases hC;exact⟨q,_,dx,_,_,rfl,hq,B.cl,B.np,rfl,p1.here W1 ⟨pb,rfl,h2⟩⟩
 |_=>exact p1.elim
theorem ZK{m:Str}(hb:RM o m X.env (eval o X.env)=eval o X.env) (h1:isStar e=G) (hl:(apos.endLine==cpos.line)=L):M1 X o m apos e cpos :=
 ⟨hb,pR h1,hl,by rw[rY h1];simp[ω]⟩
theorem aj4(hu:X.A.units+64<QS) (ho:aP X o dO) (ha:aP X e da) (hb:RM o "get" X.env (eval o X.env)=eval o X.env:=by rfl) (h1:isStar e=G:=by rfl) (hl:(apos.endLine==cpos.line)=L:=by rfl) :
  aP X (.Call (.Attribute o "get" apos) [e] [] cpos) (ux dO da):=(ak9 (by omega) ho ha (ZK hb h1 hl)).imp λZ H Q h=>by
 obtain⟨ρ,e,c,W,V,p⟩:=h;refine⟨ρ,e,c,W,V,post.bind p λx c1 aJ H1 v _ W1 X1 r1 p1=>?_⟩
 cases x with
 |eG k =>
  obtain⟨a,rfl,ha,hd⟩:=r1;obtain⟨kvs,hk⟩:=hd.dK;refine⟨a,rfl,.inl ⟨kvs,.inl hk⟩,aJ,e,c1,W1,V.mono W X1,post.bind p1 λy c2 bS H2 u _ W2 X2 r2 p2=>?_⟩
  split at p2
  ·rename_i n l hl _;cases r2;obtain⟨_,xs,hx,rs⟩:=W2.eL k a _ (X2.pre k a ha) hl;refine⟨_,iA.k (k:=Sum.inr n) hx,?_⟩;cases q:eX l n with
   |none =>
    rw[q]at p2;rw[show dG ((l.map λp=>(Sum.inr p.1:Key)).zip xs) (Sum.inr n)=O from(n5 rs).2 q]
    exact p2.here W2 rfl
   |some d =>
    rw[q]at p2;obtain⟨v,ev,rv⟩:=(n5 rs).1 d q;rw[show dG ((l.map λp=>(Sum.inr p.1:Key)).zip xs) (Sum.inr n)=Y v from ev]
    exact p2.here W2 rv
  ·exact p2.elim
 |_=>exact p1.elim
theorem aj5(hu:X.A.units+64<QS) (ho:aP X o dO) (ha:aP X i da) (hs:IG i:=by exact λ_ _=>rfl):aP X (.Subscript o i pos) (Bh dO da):=(ak8 (by omega) ho ha hs).imp λZ H Q h=>by
 obtain⟨ρ,e,c,W,V,p⟩:=h;refine⟨ρ,e,c,W,V,post.bind p λx c1 aJ H1 v _ W1 X1 r1 p1=>?_⟩
 cases x with
 |eG k =>
  obtain⟨a,rfl,ha,hd⟩:=r1;refine⟨aJ,e,c1,W1,V.mono W X1,post.bind p1 λy c2 bS H2 u _ W2 X2 r2 p2=>?_⟩
  split at p2
  ·rename_i n l hl _;cases r2;obtain⟨_,xs,hx,rs⟩:=W2.eL k a _ (X2.pre k a ha) hl;split at p2
   ·rename_i d q;obtain⟨v,ev,rv⟩:=(n5 rs).1 d q;exact⟨a,v,rfl,ev▸iA.k (k:=Sum.inr n) hx,p2.here W2 rv⟩
   ·exact p2.elim
  ·exact p2.elim
 |_=>exact p1.elim
theorem ain(hu:X.A.units+64<QS) (ho:aP X o dO) (ha:aP X i da) (hv:aP X value dv) (hs:swapsWith value (Y (.Subscript o i pos')) pos.line X.env=pure G:=by rfl) :
  jq X (.Assign [.Subscript o i pos'] value pos) (yY dO da dv):=(DW (by omega) ho ha hv hs).imp λσ Z H h=>by
 obtain⟨ρ,e,c,W,V,p⟩:=h;refine⟨ρ,e,c,W,V,post.bind p λd c1 aJ H1 v _ W1 X1 r1 p1=>⟨aJ,e,c1,W1,V.mono W X1,post.bind p1 λx c2 bS H2 vx _ W2 X2 r2 p2=>⟨bS,e,c2,W2,(V.mono W X1).mono W1 X2,post.bind p2 λy c3 jU H3 vy _ W3 X3 r3 p3=>?_⟩⟩⟩
 split at p3
 ·rename_i k n _ _;split at p3
  ·rename_i l hl;split at p3
   ·rename_i hh;obtain⟨a,rfl,ha,_⟩:=r2;cases r3;have F1:=X3.pre k a ha;obtain⟨nr,xs,hx,rs⟩:=W3.eL k a _ F1 hl;have rv:=Rel.mono W2 X3 _ _ (Rel.mono W1 X2 _ _ r1);obtain⟨ys,ey,ry⟩:=aaa (n:=n) rv rs;refine⟨a,_,rfl,mR.k (k:=Sum.inr n) hx (by rw[show((l.map λp=>(Sum.inr p.1:Key)).zip xs).length=l.length from NR rs];exact hh.1),?_⟩
    rw[show putK ((l.map λp=>(Sum.inr p.1:Key)).zip xs) (Sum.inr n) v=kz (jF l n d) ys from ey]
    have YW:bB ((jF l n d).map (·.2))=L:=by
     unfold jF;split
     ·rw[gV]at nr ⊢;intro z hz;simp only[P0,x6]at hz nr;obtain⟨p,hp,rfl⟩:=hz;dsimp only[Function.comp];split
      ·exact hh.2
      ·exact nr _ ⟨p,hp,rfl⟩
     ·rw[SO,sN,nr];simp[bB,hh.2]
    have E:Ext jU H3 jU (upd H3 a (.dK (kz (jF l n d) ys))):=Ext.write F1 ⟨_,hx,rfl⟩;exact p3 jU _ (.nx Z) (W3.Jc (d:=.kd (jF l n d)) (xs:=ys) F1 YW ry ⟨_,hx,rfl⟩) E ⟨Z,rfl,(((V.mono W X1).mono W1 X2).mono W2 X3).mono W3 E⟩
   ·exact p3.elim
  ·exact p3.elim
 ·exact p3.elim
theorem MI(hu:X.A.units+64<QS):bC X (compareOp .NotIn) (r2 X.K nI):=by
 intro pins s Z H v u vv uu Q I rv ru h;obtain⟨ρ,x,y,c,W,rx,ry,p⟩:=h;unfold nI at p;split at p
 ·rename_i n k;split at p
  ·rename_i l hl;cases rx;obtain⟨a,rfl,ha,_⟩:=ry;obtain rfl:uu=Value.ref a:=ru;obtain⟨_,xs,hx,rs⟩:=W.eL k a _ ha hl;refine ac5 (by omega) I (iA.k (k:=Sum.inr n) hx) rv λs3 I3=>⟨.bl _,H,I3,rfl,?_⟩
   cases q:eX l n with
   |none =>
    rw[q]at p;rw[show dG ((l.map λp=>(Sum.inr p.1:Key)).zip xs) (Sum.inr n)=O from(n5 rs).2 q]
    exact p.here W rfl
   |some d =>
    rw[q]at p;obtain⟨v,ev,rv⟩:=(n5 rs).1 d q;rw[show dG ((l.map λp=>(Sum.inr p.1:Key)).zip xs) (Sum.inr n)=Y v from ev]
    exact p.here W rfl
  ·exact p.elim
 ·exact p.elim
theorem adD:cP X (.builtin "len") (rN X.K tQ):=by
 intro pins s Z H vs us Q I rv h;obtain⟨ρ,xs,c,W,rx,p⟩:=h;unfold tQ at p;split at p
 ·rename_i k;split at p
  ·rename_i l hl;obtain⟨v,r,rfl,⟨a,rfl,ha,_⟩,hr⟩:=rx;cases hr;obtain⟨_,ys,hx,rs⟩:=W.eL k a _ ha hl;obtain⟨u,us',rfl,ru,rn⟩:∃u us',us=u::us'/\RelV (.ref a) u/\Vals [] us':=by cases rv;exact⟨_,_,rfl,by assumption,by assumption⟩
   cases rn;obtain rfl:u=Value.ref a:=ru;refine ac6 I (.inl hx) λt s' I'=>⟨.int _,H,I',⟨t,rfl⟩,?_⟩
   rw[show((l.map λp=>(Sum.inr p.1:Key)).zip ys).length=l.length from NR rs]
   exact p.here W rfl
  ·exact p.elim
 ·exact p.elim
end
structure g6 (K:θ) (C:J) (m qual:Str) (st:υ) (ps:List Str) where
 a:J
 fd:Q2
 fn:iV K m qual st a fd
 mt:Meth K C m a
 bd:Binds K fd ps []
def fN(n:Nat) (m:List D->aa->R D) (o:af) (a:aj):af:=λe c=>(o e c).bind λx c=>match x with
 |.cS i j=>(a e c).bind λxs c=>if xs.length=n then m (.cS i j::xs) c else .bad
 |_=>.bad
def Gy:af:=λ_ c=>.ok (.cS c.length (c.length+1)) (c++[.kd [],.lst []])
section
variable {X:Cx}{C:J}{m qual:Str}{st:υ}{ps:List Str}{k n:Nat}{md:List D->aa->R D}{o e:ν}{es:List ν}{dO:af}{da:aj}{pos apos cpos p:Pos}{pl:Sem Bool}
theorem i8(B:rH X.K C) (M:g6 X.K C m qual st ps) (ξ:cg X.prog X.w X.K X.mg X.base bV k M.a M.fd ps (dH X.K (n+1) md)) (hr:b7 k X.A) (ho:aP X o dO) (ha:fY X (e::es) da)
  (hl:∀u v:V,([("kept",u),("past",v)]:List (Str×V)).lookup m=O:=by intro _ _;rfl)
  (hst:ε (e::es) X.env=(G,eval e X.env)::ε es X.env:=by exact c9 rfl) (hpl:(ω pos (ε es X.env)).any (·.1)=G:=by exact fK rfl)
  (ht:eval (.Call (.Attribute o m apos) (e::es) [] pos) X.env=(do
   let ov <-eval o X.env
   standAt apos.atName
   let(f,first) <-holding [ov] (getMethod ov m pl)
   callWith pos f first (ω pos (ε (e::es) X.env)) (RA pos (RB [] X.env))):=by rfl) :
  aP X (.Call (.Attribute o m apos) (e::es) [] pos) (fN n md dO da):=(L6 ho B.cl M.mt ξ hr M.bd .nil sH ha hst hpl ht).imp λZ H Q h=>by
 obtain⟨ρ,e,c,W,V,p⟩:=h;refine⟨ρ,e,c,W,V,post.bind p λx c1 aJ H1 v _ W1 X1 r1 p1=>?_⟩
 cases x with
 |cS i j =>
  have r1':=r1;obtain⟨q,C',dx,pa,pb,rfl,hC,hq,h1,h2⟩:=r1;rw[B.at_]at hC;cases hC;refine⟨q,dx,_,rfl,hq,hl _ _,aJ,e,c1,W1,V.mono W X1,post.bind p1 λxs c2 bS H2 vs _ W2 X2 r2 p2=>?_⟩
  split at p2
  ·rename_i hn;exact⟨bS,.cS i j::xs,c2,W2,⟨_,_,rfl,Rel.mono W1 X2 _ _ r1',by rw[RY];exact r2⟩,by simp[hn],p2⟩
  ·exact p2.elim
 |_=>exact p1.elim
theorem aj8(B:rH X.K C) (M:g6 X.K C m qual st ps) (ξ:cg X.prog X.w X.K X.mg X.base bV k M.a M.fd ps (dH X.K 1 md)) (hr:b7 k X.A) (ho:aP X o dO)
  (hl:∀u v:V,([("kept",u),("past",v)]:List (Str×V)).lookup m=O:=by intro _ _;rfl)
  (ht:eval (.Call (.Attribute o m apos) [] [] pos) X.env=(do
   let ov <-eval o X.env
   standAt apos.atName
   let(f,first) <-holding [ov] (getMethod ov m pl)
   callWith pos f first (ω pos (ε [] X.env)) (RA pos (RB [] X.env))):=by rfl) :
  aP X (.Call (.Attribute o m apos) [] [] pos) (fN 0 md dO au):=(Wv ho B.cl M.mt ξ hr M.bd .nil sH ht).imp λZ H Q h=>by
 obtain⟨ρ,e,c,W,V,p⟩:=h;refine⟨ρ,e,c,W,V,post.bind p λx c1 aJ H1 v _ W1 X1 r1 p1=>?_⟩
 cases x with
 |cS i j =>
  have r1':=r1;obtain⟨q,C',dx,pa,pb,rfl,hC,hq,h1,h2⟩:=r1;rw[B.at_]at hC;cases hC;exact⟨q,dx,_,rfl,hq,hl _ _,aJ,[.cS i j],c1,W1,⟨_,_,rfl,r1',rfl⟩,rfl,p1⟩
 |_=>exact p1.elim
def Dm(K:θ):Sp:=λvs H Q _=>∃x C dx,vs=[.ref x]/\H x=Y (.ins C dx [])/\rH K C /\
 ∀d l,H d=O->upd H d (.dK []) l=O->Q .aE (upd (upd (upd (upd H d (.dK [])) x (.ins C dx [("kept",.ref d)])) l (.lst [])) x (.ins C dx [("kept",.ref d),("past",.ref l)]))
def ah0(K:θ):TS:=Dc (yZ K (jY 0) JU "kept") (yZ K (jY 0) (JP vh) "past")
theorem acH{P:ο}{w:π}{K:θ}{mg:Str->Option S}{base:χ}{x qual:Str}{st:υ}{f:J}{fd:Q2}{N ps:List Str}{k:Nat}(F:iV K x qual st f fd) (Γ:eO N ps (bP st)) (hN:N.length=1) (hm:ps.length=1)
  (hb:∀(cdv:S) (A:ψ) (outer:List Env) (s:Ψ) (H:Hp) (E:XK),b7 k (A.deeper (envOfC qual (bP st) s.heap.objs.size f cdv))->gm (jl bV P w K mg base N qual (bP st) f cdv A outer s H E).iO (gj st) (ah0 K)) :
  cg P w K mg base bV (k+1) f fd ps (Dm K):=by
 refine F.ok Γ (λvs H Q E h=>?_) (λcdv A outer s H vs Q E hr h=>⟨_,hb cdv A outer s H E hr,?_⟩)
 ·obtain⟨x,C,dx,rfl,_⟩:=h;rw[hm];rfl
 ·obtain⟨x,C,dx,rfl,hx,B,q⟩:=h;have es:start N [V.ref x]=[Y (.ref x)]:=by unfold start;rw[hN];rfl
  rw[es];intro d hd;have hdx:x≠d:=cK hx hd;refine⟨.ref x,rfl,x,C,dx,[],rfl,by rw[aV hdx];exact hx,B.cl,B.nk,by decide,?_⟩
  refine⟨by show 0<=Ξ;decide,λl hl=>?_⟩
  have hlx:l≠x:=λz=>by subst z;rw[cV]at hl;cases hl
  rw[aV hlx]at hl;exact⟨.ref x,rfl,x,C,dx,[("kept",.ref d)],rfl,by rw[aV (Q8 hlx),cV];rfl,B.cl,B.np,by show 1<1000;decide,q d l hd hl⟩
theorem WZ{f:J}{fd:Q2}(B:rH X.K C) (M:Mk X.K C f) (ξ:cg X.prog X.w X.K X.mg X.base bV k f fd ps (Dm X.K)) (hr:b7 (k+1) X.A) (hm:X.mg "Bench"=Y (.ref C)) (hb:Binds X.K fd ps []) (hg:Gl X "Bench":=by rfl) :
  aP X (.Call (.Name "Bench" p) [] [] pos) Gy:=(L7 M ξ hr hg hm hb .nil sH).imp λZ H Q h=>by
 obtain⟨ρ,e,c,W,V,q⟩:=h;intro x dx hx hdx hne;refine⟨x,C,dx,rfl,cV,B,λd l hd hl=>⟨rfl,?_⟩⟩
 have Bb:d≠x:=λz=>by subst z;rw[cV]at hd;cases hd
 rw[aV Bb]at hd;have Pn:d≠dx:=λz=>by subst z;rw[cV]at hd;cases hd
 rw[aV Pn]at hd;have ld:l≠d:=λz=>by subst z;rw[cV]at hl;cases hl
 rw[aV ld]at hl;have lx:l≠x:=λz=>by subst z;rw[cV]at hl;cases hl
 rw[aV lx]at hl;have NK:l≠dx:=λz=>by subst z;rw[cV]at hl;cases hl
 rw[aV NK]at hl;have agI:=Ext.fresh (o:=.own x) W hdx;have W1:=W.fresh (o:=.own x) hdx;have z4:upd H dx (.own x) x=O:=by rw[aV (Q8 hne)];exact hx
 have E2:=Ext.fresh (o:=.ins C dx [("kept",.ref d),("past",.ref l)]) W1 z4;have W2:=W1.fresh (o:=.ins C dx [("kept",.ref d),("past",.ref l)]) z4;have hd2:upd (upd H dx (.own x)) x (.ins C dx [("kept",.ref d),("past",.ref l)]) d=O:=by rw[aV Bb,aV Pn];exact hd
 have agJ:=Ext.cell (o:=.dK []) W2 hd2;have W3:=W2.Qf (d:=.kd []) (xs:=[]) hd2 rfl rfl;have hl3:upd (upd (upd H dx (.own x)) x (.ins C dx [("kept",.ref d),("past",.ref l)])) d (.dK []) l=O:=by rw[aV ld,aV lx,aV NK];exact hl
 have agL:=Ext.cell (o:=.lst []) W3 hl3;have W4:=W3.cell (l:=[]) (xs:=[]) hl3 rfl rfl;have eH:upd (upd (upd (upd (upd (upd H dx (.own x)) x (.ins C dx [])) d (.dK [])) x (.ins C dx [("kept",.ref d)])) l (.lst [])) x (.ins C dx [("kept",.ref d),("past",.ref l)])
   = upd (upd (upd (upd H dx (.own x)) x (.ins C dx [("kept",.ref d),("past",.ref l)])) d (.dK [])) l (.lst []):=by
  funext b
  unfold upd
  by_cases b1:b=x
  ·subst b1;simp[Q8 Bb,Q8 lx]
  ·by_cases b2:b=l
   ·subst b2;simp[b1]
   ·by_cases b3:b=d
    ·subst b3;simp[b1,b2]
    ·simp[b1,b2,b3]
 rw[eH];have q2:post X.K (Rel X.K) (.ok (.cS c.length (c.length+1)) ((c++[.kd []])++[.lst []])) ρ H Q:=by rw[RU];exact q
 refine q2 _ _ _ W4 (((agI.trans E2).trans agJ).trans agL) ⟨x,C,dx,d,l,rfl,B.at_,?_,⟨?_,?_⟩,?_,?_⟩
 ·rw[aV (Q8 lx),aV (Q8 Bb),cV]
 ·rw[RU,RC (by rw[W.len];exact ZA _),W.len,S3];rfl
 ·exact⟨_,by rw[aV (Q8 ld),cV],rfl⟩
 ·rw[RU,RC (by rw[W.len];exact Rx _),W.len,show c.length+1-c.length=1 by omega];rfl
 ·exact⟨_,cV,rfl⟩
end
section
variable {X:Cx}
def IL(x:Str):It:=⟨λi _=>i<x.cps.size,λi H v H'=>H'=H/\∃c,x.cps[i]? = Y c/\v=.str ⟨#[c]⟩,λi _=>x.cps.size<=i⟩
theorem ag7{P:ο}{w:π}{K:θ}{tg:ν}(it:J) (x:Str) (t:Tok):Turn P w K tg (IL x) [it] it (λi h=>h.IsStrIter it "str_ascii_iterator" x t i) where
 mem:=by simp
 obj:=λi h st b hb=>by
  have e:b=it:=by simpa using hb
  subst e;obtain⟨o,e,c,d⟩:=st;exact⟨o,e,λv z=>by rw[d]at z;cases z⟩
 keep:=λi h h' st k=>by
  obtain⟨o,e,c,d⟩:=st;exact⟨o,k it (by simp) o e,c,d⟩
 item:=by
  intro X hP hw hK hc i pins s Z H E I hf st hg;subst hP hw hK;obtain⟨f0,f1,f2,f3,f4,f5⟩:=hf it (by simp)
  obtain⟨c,hx⟩:∃c,x.cps[i]? = Y c:=⟨_,SN hg⟩;refine wpAny_pyNext_ascii_item st hx λh' st' sb=>?_
  have I1:Inv X pins Z H {s with heap:=h',toks:=s.toks+1}:=I.turned (t':=s.toks+1) (λb o hb e=>(sb.2 b hb).trans e) f0 f1 f3 f4 f5
  obtain⟨o',e,c',d⟩:=id st';exact⟨_,rfl,Ab (s:={s with heap:=h',toks:=s.toks+1}) e c' d (by decide) ⟨.str ⟨#[c]⟩,H,I1,⟨_,rfl⟩,⟨rfl,c,hx,rfl⟩,st',λb hb=>(hf b hb).1⟩⟩
 done:=by
  intro X hP hw hK hc i pins s Z H E I hf st hg;subst hP hw hK;obtain⟨f0,f1,f2,f3,f4,f5⟩:=hf it (by simp)
  exact wpAny_pyNext_ascii_end (I.ok.hd hc) st (Uq hg) λh' eb=>⟨rfl,I.turned (t':=s.toks) (λb o hb e=>eb b o hb e) f0 f1 f3 f4 f5⟩
 self:=λ_ _ _ _ _ st h=>wpAny_pyIter_striter_ascii st h
def aa4(tl:TE):TI:=λZ H R=>tl Z H λv H1=>∃x:Str,v=.str x/\(x.cps.all λc=>decide (c<128))=L/\R (IL x) H1
theorem Wa{tg l:ν}{tl:TE}(hl:PE X l tl):PI X tg l (aa4 tl):=by
 intro pins s Z H R I h;refine aZ (hl pins s Z H _ I h) λv s1 ⟨x,H1,I1,r1,q1⟩=>?_
 obtain⟨z,rfl,ha,q⟩:=q1;obtain⟨t,rfl⟩:=r1;refine wpAny_pyIter_ascii ha ?_;refine⟨s1.heap.objs.size,[s1.heap.objs.size],_,_,H1,rfl,I1.kept (t':=s1.toks) λb o e=>gn _ e,ag7 _ z t,⟨_,E3 _ rfl,rfl,rfl⟩,λb hb=>?_,q⟩
 have e:b=s1.heap.objs.size:=by simpa using hb
 subst e;exact I1.wV (ZA _) (I1.hok.fresh (ZA _))
def nh(x:Str):List D:=x.cps.toList.map λc=>.str ⟨#[c]⟩
def Bg(a:af):Ev->aa->R Src:=λe c=>(a e c).bind λx c=>match x with
 |.str z=>if(z.cps.all λc=>decide (c<128))=L then .ok ⟨nh z,λ_=>True⟩ c else .bad
 |_=>.bad
theorem aas{K:θ}{ρ:List J}{H:Hp}{x:Str}{st:aa->Prop}:JS K ρ H ⟨nh x,st⟩ (IL x):=by
 intro ρ' H' c' W E s i;refine⟨λd hd=>?_,λe=>?_⟩
 ·have hd:(nh x)[i]? = Y d:=hd;unfold nh at hd;rw[Q9,S2]at hd;cases q:x.cps[i]? with
  |none=>rw[q]at hd;cases hd
  |some c =>
   rw[q]at hd;cases hd;refine⟨(VI.mp q).1,λy H2 hy=>?_⟩
   obtain⟨rfl,c',hc,rfl⟩:=hy;rw[q]at hc;cases hc;exact⟨W,Ext.refl,rfl⟩
 ·have:(nh x).length=x.cps.size:=by simp[nh]
  rw[e];exact Rt this.symm
theorem aa1{tg l:ν}{dl:af}(hl:aP X l dl):PId X tg l (Bg dl):=(Wa hl).imp λZ H Q h=>by
 obtain⟨ρ,e,c,W,V,p⟩:=h;refine⟨ρ,e,c,W,V,post.bind p λx c1 aJ H1 v _ W1 X1 r1 p1=>?_⟩
 cases x with
 |str z =>
  cases r1;dsimp only at p1;split at p1
  ·rename_i ha;exact⟨z,rfl,ha,p1.here W1 aas⟩
  ·exact p1.elim
 |_=>exact p1.elim
def zZ:D->D->aa->R D:=λx y c=>match x,y with
 |.str y,.str x=>.ok (.bl (Txt.contains x y)) c
 |_,_=>.bad
theorem YI:bC X (compareOp .In) (r2 X.K zZ):=by
 intro pins s Z H v u vv uu Q I rv ru h;obtain⟨ρ,x,y,c,W,rx,ry,p⟩:=h;unfold zZ at p;split at p
 ·cases rx;cases ry;obtain⟨t,rfl⟩:=rv;obtain⟨t',rfl⟩:=ru;exact SB.contains ⟨.bl _,H,I,rfl,p.here W rfl⟩
 ·exact p.elim
def yP:List D->aa->R D:=λxs c=>match xs with
 |[.eG k]=>match c[k]? with
  |some (.kd [(n,_)])=>.ok (.lst [.str n]) c
  |_=>.bad
 |_=>.bad
theorem adA(hc:X.calm=L:=by rfl):cP X (.builtin "sorted") (rN X.K yP):=by
 intro pins s Z H vs us Q I rv h;obtain⟨ρ,xs,c,W,rx,p⟩:=h;unfold yP at p;split at p
 ·rename_i k;split at p
  ·rename_i n d hl;obtain⟨v,r,rfl,⟨a,rfl,ha,_⟩,hr⟩:=rx;cases hr;obtain⟨_,ys,hx,rs⟩:=W.eL k a _ ha hl;obtain⟨y,r2,rfl,ry,rn⟩:=rs;cases(show r2=[]from rn)
   obtain⟨u,rfl,ru⟩:=R0 rv;cases ru;obtain⟨z,hd,vs,rel,o,es,ep,h1,h2,h3,h4⟩:=Pr I.hok hx;have hvl:vs.length=1:=rel.length.symm;refine Vm kind_sorted plain_sorted entry_sorted (args_sorted1 _) ?_;unfold Builtin.«sorted»;refine Rc (m:=checkCount "sorted" 1 1 _) (Xd ?_);refine Rc (PySem.W.kdu_collect (A:=X.A.in1) (PySem.W.kdl_dict (knd:=gX X.prog X.w) (kvs:=vs) (ep:=ep) hd) (I.ok.hd hc) ⟨o,es,h1,h2,h3,h4⟩ (by rw[hvl];decide) λh1 tk acc hk hacc=>?_)
   obtain⟨q0,v0,u0,e1,e2⟩:=rel.get (i:=0) (by show 0<1;decide)
   have eq0:q0=Sum.inr n:=by
    have:((Sum.inr n:Key),y)=(q0,v0):=Q4 e1;exact(congrArg Prod.fst this).symm
   have hs0:acc.size=1:=hacc.1.trans hvl;obtain⟨k1,x1,f1,f2⟩:=hacc.2 0 acc[0] (SN (by omega))
   rw[e2]at f1;cases f1;rw[eq0]at f2;obtain⟨t,ht⟩:=aak (k:=Sum.inr n) (show jE (Sum.inr n) acc[0]=L from f2)
   have uo:acc.toList=[Value.str n t]:=by
    apply U9
    ·simpa using hs0
    ·intro i hi1 hi2;have:i=0:=by simp at hi2;omega
     subst this
     simpa using ht
   have hS:StrsAre acc.toList [n]:=by rw[uo];exact .cons _ _ .nil
   refine Rc (wpAny_newList ?_ (by rw[uo];show 1<=Ξ;decide))
   have mj:(h1.push (seqObj "list" acc.toList.toArray 0)).get? h1.objs.size=Y (seqObj "list" acc.toList.toArray 0):=E3 _ rfl;refine Rc (Rj (Rp slot_list_sort ⟨_,mj,rfl⟩ entry_list_sort (list_sort_treeK (s:={s with heap:=h1.push (seqObj "list" acc.toList.toArray 0),toks:=tk}) strKind_oneLt mj hS.keysOf (λa b r e=>by rw[uo]at e;cases e) (by rw[uo];show 1<64;decide) λst a2 a3=>⟨_,rfl,?_⟩)))
   refine Xd ⟨_,rfl,?_⟩;obtain⟨ss,g1,g2,_⟩:=sorted_out_str hS a2 a3;have:=List.perm_singleton.mp g2;subst this
   generalize Array.map (λx=>x.snd) (arrOf st)=out at g1
   have hne:∀b o,h1.get? b=Y o->b≠h1.objs.size:=λb o e=>AP (lu e)
   have w1:=U3 mj (λ_=>#[])
   have w2:=U3 (gn (seqObj "list" #[] 0) (gn (seqObj "tuple" acc.toList.toArray 0) w1)) λ_=>out
   have I1:Inv X pins Z H {s with heap:=h1,toks:=tk}:=I.kept hk
   have hf:H h1.objs.size=O:=I1.hok.fresh (ZA _);have kp:∀b o,h1.get? b=Y o->(sortedHeap (h1.push (seqObj "list" acc.toList.toArray 0)) h1.objs.size acc.toList out).get? b=Y o:=λb o e=>by
    have q:=Q8 (hne b o e);exact(S6 _ _ q).trans (gn _ (gn _ ((S6 _ _ q).trans (gn _ e))))
   have vo:Vals [V.str n] out.toList:=by
    cases g:out.toList with
    |nil=>rw[g]at g1;cases g1
    |cons a l =>
     rw[g]at g1;cases g1 with
     |cons y t q=>cases q;exact .cons ⟨_,rfl⟩ .nil
   refine⟨.ref h1.objs.size,upd H h1.objs.size (.lst [.str n]),I1.laid (t':=tk) kp (ZA _) ⟨by show 1<=Ξ;decide,out.toList,_,vo,by rw[Vk];exact w2⟩,rfl,?_⟩
   exact qg (xs:=[.str n]) (vs:=[.str n]) W ⟨.str n,[],rfl,rfl,rfl⟩ p _ hf
  ·exact p.elim
 ·exact p.elim
end
def dM(sep:Str):List Str->Str
 |[x]=>x
 |l=>Builtin.Str.glued sep l
theorem J4:∀{ss:List Str}{us:List S},Vals (ss.map V.str) us->∃l:List (Str×Tok),us=strValues l/\l.map (·.1)=ss
 |[],us,h=>by cases h;exact⟨[],rfl,rfl⟩
 |x::ss,us,h=>by
  cases h with
  |cons r rr =>
   obtain⟨t,rfl⟩:=r;obtain⟨l,rfl,e⟩:=J4 rr;exact⟨(x,t)::l,rfl,by rw[E1,e]⟩
section
variable {X:Cx}
def rJoin:V->List V->Hp->VK->Prop:=λx vs H Q=>∃sep a ss,x=.str sep/\vs=[.ref a]/\H a=Y (.lst (ss.map V.str))/\Builtin.Str.tooLong (Array.foldl (λx1 x2=>x1+x2.length+sep.length) 0 ss.toArray)=G/\(dM sep ss).length<=Ξ/\Q (.str (dM sep ss)) H
theorem Zr:rE X "str.join" rJoin:=by
 intro pins s Z H x vs v us Q I rx rv h;obtain⟨sep,a,ss,rfl,rfl,hH,hz,hw,q⟩:=h;obtain⟨t,rfl⟩:=rx;obtain⟨u,rfl,ru⟩:=rv.one;cases ru;obtain⟨its,r,p,_⟩:=I.list (bN.of (K:=X.K) hH);obtain⟨l,rfl,e⟩:=J4 r;refine Rg F.slot_str_join (SJ s sep t) F.entry_str_join (F.args_str_join_2 _ _) (PySem.meets_str_join_list sep t a l (by rw[e];exact hz)) ⟨p.isList,?_⟩
 match l,e with
 |[],e =>
  subst e;exact⟨hw,.str _,H,I.tok _,⟨_,rfl⟩,q⟩
 |[y],e =>
  subst e;exact⟨.str _,H,I,⟨_,rfl⟩,q⟩
 |y::z::l,e =>
  subst e;exact⟨hw,.str _,H,I.tok _,⟨_,rfl⟩,q⟩
def akU:V->List V->Hp->VK->Prop:=λx vs H Q=>∃a b,x=.str a/\vs=[.str b]/\Q (.int ((Builtin.Str.occurrences a b 0 a.length (a.length+1)).length:Nat)) H
theorem Zu:rE X "str.count" akU:=by
 intro pins s Z H x vs v us Q I rx rv h;obtain⟨a,b,rfl,rfl,q⟩:=h;obtain⟨t,rfl⟩:=rx;obtain⟨u,rfl,ru⟩:=rv.one;obtain⟨t',rfl⟩:=ru;refine call_gives F.slot_str_count (SJ s a t) F.entry_str_count (F.args_str_count_2 _ _) (PySem.gives_str_count a b t t') ?_;exact⟨.int _,H,I.tok _,⟨_,rfl⟩,q⟩
def ng:List D->Option (List Str)
 |[]=>Y []
 |.str x::l=>(ng l).map (x :: ·)
 |_::_=>O
theorem J5{K:θ}{ρ:List J}{H:Hp}:∀{l:List D}{ss:List Str}{xs:List V},ng l=Y ss->aK K ρ H l xs->xs=ss.map V.str
 |[],ss,xs,h,r=>by cases h;exact r
 |d::l,ss,xs,h,r=>by
  obtain⟨y,r',rfl,h1,h2⟩:=r;cases d with
  |str x =>
   unfold ng at h;cases hs:ng l with
   |none=>rw[hs]at h;cases h
   |some ss' =>
    rw[hs]at h;cases h;cases(show y=V.str x from h1)
    rw[J5 hs h2];rfl
  |_=>cases h
def jk(o a:af):af:=λe c=>(o e c).bind λx c=>match x with
 |.str sep=>(a e c).bind λy c=>match(fJ c y).bind ng with
  |some ss=>if Builtin.Str.tooLong (Array.foldl (λx1 x2=>x1+x2.length+sep.length) 0 ss.toArray)=G/\(dM sep ss).length<=Ξ then .ok (.str (dM sep ss)) c else .bad
  |none=>.bad
 |_=>.bad
theorem sD{o e:ν}{dO da:af}{apos cpos:Pos}(ho:aP X o dO) (ha:aP X e da)
  (hbase:RM o "join" X.env (eval o X.env)=eval o X.env:=by rfl)
  (hfew:((ω cpos (ε [e] X.env)).all (λx=>!x.1)&&(RA cpos (RB [] X.env)).all (λx=>x.1.isSome)
   && decide ([e].length+([]:List QX).length+(if([]:List QX).isEmpty then 0 else 1)<30))=L:=by exact pR rfl)
  (hline:(apos.endLine==cpos.line)=L:=by rfl) (hs:ε [e] X.env=(G,eval e X.env)::ε [] X.env:=by exact c9 rfl) (hplain:(ω cpos (ε [] X.env)).any (·.1)=G:=by exact fK rfl) :
  aP X (.Call (.Attribute o "join" apos) [e] [] cpos) (jk dO da) :=
 (p7 Ui PySem.F.slot_str_join PySem.F.type_str_join Zr ho (ic ha iN hs) hbase hfew hline hs hplain).imp λZ H Q h=>by
  obtain⟨ρ,e,c,W,V,p⟩:=h;refine⟨ρ,e,c,W,V,post.bind p λx c1 aJ H1 v _ W1 X1 r1 p1=>?_⟩
  cases x with
  |str sep =>
   cases(show v=L2.V.str sep from r1)
   refine⟨rfl,aJ,e,c1,W1,V.mono W X1,post.bind p1 λy c2 bS H2 u _ W2 X2 r2 p2=>?_⟩
   cases hl:fJ c2 y with
   |none=>rw[hl]at p2;exact p2.elim
   |some l =>
    rw[hl,U0]at p2;cases hq:ng l with
    |none=>rw[hq]at p2;exact p2.elim
    |some ss =>
     rw[hq]at p2;dsimp only at p2
     by_cases hh:Builtin.Str.tooLong (Array.foldl (λx1 x2=>x1+x2.length+sep.length) 0 ss.toArray)=G/\(dM sep ss).length<=Ξ
     ·rw[if_pos hh]at p2;obtain⟨a,xs,rfl,hx,rl⟩:=tO W2 r2 hl;have:=J5 hq rl;subst this;exact⟨sep,a,ss,rfl,rfl,hx,hh.1,hh.2,p2.here W2 rfl⟩
     ·rw[if_neg hh]at p2;exact p2.elim
  |_=>exact p1.elim
def uy(o a:af):af:=λe c=>(o e c).bind λx c=>match x with
 |.str w=>(a e c).bind λy c=>match y with
  |.str z=>.ok (.int ((Builtin.Str.occurrences w z 0 w.length (w.length+1)).length:Nat)) c
  |_=>.bad
 |_=>.bad
theorem Mf{o e:ν}{dO da:af}{apos cpos:Pos}(ho:aP X o dO) (ha:aP X e da)
  (hbase:RM o "count" X.env (eval o X.env)=eval o X.env:=by rfl)
  (hfew:((ω cpos (ε [e] X.env)).all (λx=>!x.1)&&(RA cpos (RB [] X.env)).all (λx=>x.1.isSome)
   && decide ([e].length+([]:List QX).length+(if([]:List QX).isEmpty then 0 else 1)<30))=L:=by exact pR rfl)
  (hline:(apos.endLine==cpos.line)=L:=by rfl) (hs:ε [e] X.env=(G,eval e X.env)::ε [] X.env:=by exact c9 rfl) (hplain:(ω cpos (ε [] X.env)).any (·.1)=G:=by exact fK rfl) :
  aP X (.Call (.Attribute o "count" apos) [e] [] cpos) (uy dO da) :=
 (p7 Ui PySem.F.slot_str_count PySem.F.type_str_count Zu ho (ic ha iN hs) hbase hfew hline hs hplain).imp λZ H Q h=>by
  obtain⟨ρ,e,c,W,V,p⟩:=h;refine⟨ρ,e,c,W,V,post.bind p λx c1 aJ H1 v _ W1 X1 r1 p1=>?_⟩
  cases x with
  |str w =>
   cases(show v=L2.V.str w from r1)
   refine⟨rfl,aJ,e,c1,W1,V.mono W X1,post.bind p1 λy c2 bS H2 u _ W2 X2 r2 p2=>?_⟩
   cases y with
   |str z =>
    cases(show u=L2.V.str z from r2)
    exact⟨w,z,rfl,rfl,p2.here W2 rfl⟩
   |_=>exact p2.elim
  |_=>exact p1.elim
end
def gg(x y:Str):List Nat:=Builtin.Str.occurrences x y 0 x.length (x.length+1)
def gv(x y:Str):List Str:=if(decide (x.length<y.length)||decide (Builtin.Str.strKind x<Builtin.Str.strKind y))=L then[x]else if(gg x y).isEmpty=L then[x]else Builtin.Str.partsBetween x (gg x y) y.length
theorem Jp:∀(ss:List Str) (n:Nat),Vals (ss.map V.str) (strsFrom n ss)
 |[],n=>.nil
 |x::ss,n=>by
  have e:strsFrom n (x::ss)=.str x n::strsFrom (n+1) ss:=by
   first
    |rfl
    |simp[strsFrom]
  rw[e,E1];exact .cons ⟨_,rfl⟩ (Jp ss (n+1))
section
variable {X:Cx}
def ai8:V->List V->Hp->VK->Prop:=λx vs H Q=>∃w y,x=.str w/\vs=[.str y]/\(y.length==0)=G/\w.length<=Ξ/\(gv w y).length<=Ξ/\∀p,H p=O->Q (.ref p) (upd H p (.lst ((gv w y).map V.str)))
theorem Zq:rE X "str.split" ai8:=by
 intro pins s Z H x vs v us Q I rx rv h;obtain⟨w,y,rfl,rfl,hy,hw,hl,q⟩:=h;obtain⟨t,rfl⟩:=rx;obtain⟨u,rfl,ru⟩:=rv.one;obtain⟨t',rfl⟩:=ru;have hf:H s.heap.objs.size=O:=I.hok.fresh (ZA _);have q':=q _ hf;cases h1:(decide (w.length<y.length)||decide (Builtin.Str.strKind w<Builtin.Str.strKind y))with
 |true =>
  have e:gv w y=[w]:=by unfold gv;rw[if_pos h1]
  rw[e]at q' hl;refine Rg Uh (SJ s w t) Ug (Ue _ _) (PySem.meets_str_split_cannot_occur w y t t' h1) ?_;refine⟨.ref s.heap.objs.size,_,I.laid (t':=s.toks) (o:=.lst ([w].map V.str)) (λb u e=>gn _ e) (ZA _) ?_,rfl,q'⟩
  exact⟨hl,[.str w t],0,.cons ⟨_,rfl⟩ .nil,E3 _ rfl⟩
 |false =>
  cases h2:(gg w y).isEmpty with
  |true =>
   have e:gv w y=[w]:=by unfold gv;rw[if_neg (by rw[h1];decide),if_pos h2]
   rw[e]at q' hl;refine Rg Uh (SJ s w t) Ug (Ue _ _) (PySem.meets_str_split_not_found w y t t' h1 hy h2) ?_;refine⟨.ref s.heap.objs.size,_,I.laid (t':=s.toks) (o:=.lst ([w].map V.str)) (λb u e=>gn _ e) (ZA _) ?_,rfl,q'⟩
   exact⟨hl,[.str w t],0,.cons ⟨_,rfl⟩ .nil,E3 _ rfl⟩
  |false =>
   have e:gv w y=Builtin.Str.partsBetween w (gg w y) y.length:=by unfold gv;rw[if_neg (by rw[h1];decide),if_neg (by rw[h2];decide)]
   rw[e]at q' hl;refine Rg Uh (SJ s w t) Ug (Ue _ _) (PySem.meets_str_split_sep w y t t' h1 hy h2 hw hl) ?_;refine⟨.ref s.heap.objs.size,_,I.laid (t':=s.toks+(Builtin.Str.partsBetween w (gg w y) y.length).length) (o:=.lst ((Builtin.Str.partsBetween w (gg w y) y.length).map V.str)) (λb u e=>gn _ e) (ZA _) ?_,rfl,q'⟩
   exact⟨by rw[x8];exact hl,strsFrom s.toks (Builtin.Str.partsBetween w (gg w y) y.length),0,Jp _ _,E3 _ rfl⟩
def qP(o a:af):af:=λe c=>(o e c).bind λx c=>match x with
 |.str w=>(a e c).bind λy c=>match y with
  |.str z=>if(z.length==0)=G/\w.length<=Ξ/\(gv w z).length<=Ξ then .ok (.lst ((gv w z).map D.str)) c else .bad
  |_=>.bad
 |_=>.bad
theorem LD{K:θ}{ρ:List J}{H:Hp}:∀ss:List Str,aK K ρ H (ss.map D.str) (ss.map V.str)
 |[]=>rfl
 |x::ss=>⟨_,_,rfl,rfl,LD ss⟩
theorem Ma{o e:ν}{dO da:af}{apos cpos:Pos}(ho:aP X o dO) (ha:aP X e da)
  (hbase:RM o "split" X.env (eval o X.env)=eval o X.env:=by rfl)
  (hfew:((ω cpos (ε [e] X.env)).all (λx=>!x.1)&&(RA cpos (RB [] X.env)).all (λx=>x.1.isSome)
   && decide ([e].length+([]:List QX).length+(if([]:List QX).isEmpty then 0 else 1)<30))=L:=by exact pR rfl)
  (hline:(apos.endLine==cpos.line)=L:=by rfl) (hs:ε [e] X.env=(G,eval e X.env)::ε [] X.env:=by exact c9 rfl) (hplain:(ω cpos (ε [] X.env)).any (·.1)=G:=by exact fK rfl) :
  aP X (.Call (.Attribute o "split" apos) [e] [] cpos) (qP dO da) :=
 (p7 Ui PySem.F.slot_str_split PySem.F.type_str_split Zq ho (ic ha iN hs) hbase hfew hline hs hplain).imp λZ H Q h=>by
  obtain⟨ρ,e,c,W,V,p⟩:=h;refine⟨ρ,e,c,W,V,post.bind p λx c1 aJ H1 v _ W1 X1 r1 p1=>?_⟩
  cases x with
  |str w =>
   cases(show v=L2.V.str w from r1)
   refine⟨rfl,aJ,e,c1,W1,V.mono W X1,post.bind p1 λy c2 bS H2 u _ W2 X2 r2 p2=>?_⟩
   cases y with
   |str z =>
    cases(show u=L2.V.str z from r2)
    dsimp only at p2
    by_cases hh:(z.length==0)=G/\w.length<=Ξ/\(gv w z).length<=Ξ
    ·rw[if_pos hh]at p2;refine⟨w,z,rfl,rfl,hh.1,hh.2.1,hh.2.2,λa ha=>?_⟩
     exact p2 bS _ (.ref a) (W2.fresh ha) (Ext.fresh W2 ha) ⟨a,_,rfl,⟨by unfold upd;rw[if_pos rfl],W2.nil ha⟩,LD _⟩
    ·rw[if_neg hh]at p2;exact p2.elim
   |_=>exact p2.elim
  |_=>exact p1.elim
theorem sF{x y:Str}{t:Tok}{pos:Pos}(hg:Gl X x) (hm:X.mg x=Y (.str y t)) (hd:(x==("__debug__":Str))=G:=by decide):aP X (.Name x pos) (dC (.str y)):=nE (zk (v:=.str y) hg hm ⟨t,rfl⟩ hd) λ_ _=>rfl
def dU:List D->aa->R D:=λxs c=>match xs with
 |[.int i]=>if i.natAbs.log2<1920 then .ok (.str (toString i)) c else .bad
 |_=>.bad
theorem kH:cP X (.type "str") (rN X.K dU):=by
 intro pins s Z H vs us Q I rv h;obtain⟨ρ,xs,c,W,rx,p⟩:=h;unfold dU at p;split at p
 ·rename_i i;obtain⟨v,r,rfl,hx,hr⟩:=rx;cases hr;cases hx
  by_cases hb:i.natAbs.log2<1920
  ·rw[if_pos hb]at p;exact adK pins s Z H _ us Q I rv ⟨i,rfl,hb,p.here W rfl⟩
  ·rw[if_neg hb]at p;exact p.elim
 ·exact p.elim
theorem kK:bootBuiltins "str"=Y (.type "str"):=by decide +kernel
def tV:D->D->aa->R D:=λx y c=>match x,y with
 |.str z,.int i=>if z.length<=Ξ then(match dY z.cps.toList i with|some ch=>.ok (.str ⟨#[ch]⟩) c|none=>.bad)else .bad
 |_,_=>.bad
theorem aa0:o7 X (r2 X.K tV):=by
 intro value slice pins s Z H x y v u Q I rx ry h hs;obtain⟨ρ,a,b,c,W,ra,rb,p⟩:=h;unfold tV at p;split at p
 ·rename_i z i;cases(show x=L2.V.str z from ra)
  cases(show y=L2.V.int i from rb)
  by_cases hl:z.length<=Ξ
  ·rw[if_pos hl]at p;cases hat:dY z.cps.toList i with
   |none=>rw[hat]at p;exact p.elim
   |some ch =>
    rw[hat]at p;exact aaG value slice pins s Z H _ _ v u Q I rx ry ⟨z,i,ch,rfl,rfl,hl,hat,p.here W rfl⟩ hs
  ·rw[if_neg hl]at p;exact p.elim
 ·exact p.elim
end
structure yg (K:θ) (C:J):Prop where
 at_:μ K ι "Desk"=Y (Y (.ref C))
 cl:jS K C
 nb:mQ K C "bench"
def lz(o:af):af:=λe c=>(o e c).bind λx c=>match x with
 |.dX a b=>.ok (.cS a b) c
 |_=>.bad
def eK(n:Nat) (m:List D->aa->R D) (o:af) (a:aj):af:=λe c=>(o e c).bind λx c=>match x with
 |.dX i j=>(a e c).bind λxs c=>if xs.length=n then m (.dX i j::xs) c else .bad
 |_=>.bad
def qR:af:=λ_ c=>.ok (.dX c.length (c.length+1)) (c++[.kd [],.lst []])
section
variable {X:Cx}{C:J}{m qual:Str}{st:υ}{ps:List Str}{k n:Nat}{md:List D->aa->R D}{o e:ν}{es:List ν}{dO:af}{da:aj}{pos apos cpos p:Pos}{pl:Sem Bool}
theorem p9(B:yg X.K C) (ho:aP X o dO) (hb:RM o "bench" X.env (eval o X.env)=eval o X.env:=by rfl):aP X (.Attribute o "bench" pos) (lz dO):=(D7 ho hb).imp λZ H Q h=>by
 obtain⟨ρ,e,c,W,V,p⟩:=h;refine⟨ρ,e,c,W,V,post.bind p λx c1 aJ H1 v _ W1 X1 r1 p1=>?_⟩
 cases x with
 |dX a b =>
  obtain⟨q,C',dx,u,rfl,hC,hq,h1⟩:=r1;rw[B.at_]at hC;cases hC;exact⟨q,_,dx,_,_,rfl,hq,B.cl,B.nb,rfl,p1.here W1 h1⟩
 |_=>exact p1.elim
theorem iD(B:yg X.K C) (M:g6 X.K C m qual st ps) (ξ:cg X.prog X.w X.K X.mg X.base bV k M.a M.fd ps (dH X.K (n+1) md)) (hr:b7 k X.A) (ho:aP X o dO) (ha:fY X (e::es) da)
  (hl:∀u:V,([("bench",u)]:List (Str×V)).lookup m=O:=by intro _;rfl)
  (hst:ε (e::es) X.env=(G,eval e X.env)::ε es X.env:=by exact c9 rfl) (hpl:(ω pos (ε es X.env)).any (·.1)=G:=by exact fK rfl)
  (ht:eval (.Call (.Attribute o m apos) (e::es) [] pos) X.env=(do
   let ov <-eval o X.env
   standAt apos.atName
   let(f,first) <-holding [ov] (getMethod ov m pl)
   callWith pos f first (ω pos (ε (e::es) X.env)) (RA pos (RB [] X.env))):=by rfl) :
  aP X (.Call (.Attribute o m apos) (e::es) [] pos) (eK n md dO da):=(L6 ho B.cl M.mt ξ hr M.bd .nil sH ha hst hpl ht).imp λZ H Q h=>by
 obtain⟨ρ,e,c,W,V,p⟩:=h;refine⟨ρ,e,c,W,V,post.bind p λx c1 aJ H1 v _ W1 X1 r1 p1=>?_⟩
 cases x with
 |dX i j =>
  have r1':=r1;obtain⟨q,C',dx,u,rfl,hC,hq,h1⟩:=r1;rw[B.at_]at hC;cases hC;refine⟨q,dx,_,rfl,hq,hl _,aJ,e,c1,W1,V.mono W X1,post.bind p1 λxs c2 bS H2 vs _ W2 X2 r2 p2=>?_⟩
  split at p2
  ·rename_i hn;exact⟨bS,.dX i j::xs,c2,W2,⟨_,_,rfl,Rel.mono W1 X2 _ _ r1',by rw[RY];exact r2⟩,by simp[hn],p2⟩
  ·exact p2.elim
 |_=>exact p1.elim
def Dl(K:θ):Sp:=λvs H Q _=>∃x C dx ρ c,vs=[.ref x]/\H x=Y (.ins C dx [])/\x∉ρ/\yg K C/\Wd K ρ H c/\post K (Rel K) (Gy [] c) ρ H λu H2=>H2 x=Y (.ins C dx [])->Q .aE (upd H2 x (.ins C dx [("bench",u)]))
theorem acG{P:ο}{w:π}{K:θ}{mg:Str->Option S}{base:χ}{x qual:Str}{st:υ}{f:J}{fd:Q2}{N ps:List Str}{k:Nat}(F:iV K x qual st f fd) (Γ:eO N ps (bP st)) (hN:N.length=1) (hm:ps.length=1)
  (hb:∀(cdv:S) (A:ψ) (outer:List Env) (s:Ψ) (H:Hp) (E:XK),b7 k (A.deeper (envOfC qual (bP st) s.heap.objs.size f cdv))->gm (jl bV P w K mg base N qual (bP st) f cdv A outer s H E).iO (gj st) (yZ K (jY 0) (tD K (Rel K) Gy) "bench")) :
  cg P w K mg base bV (k+1) f fd ps (Dl K):=by
 refine F.ok Γ (λvs H Q E h=>?_) (λcdv A outer s H vs Q E hr h=>⟨_,hb cdv A outer s H E hr,?_⟩)
 ·obtain⟨x,C,dx,ρ,c,rfl,_⟩:=h;rw[hm];rfl
 ·obtain⟨x,C,dx,ρ,c,rfl,hx,nx,B,W,q⟩:=h;have es:start N [V.ref x]=[Y (.ref x)]:=by unfold start;rw[hN];rfl
  rw[es];refine⟨ρ,[O],c,W,⟨λi d h=>?_,rfl⟩,?_⟩
  ·cases i with
   |zero=>cases h
   |succ i=>cases h
  ·intro bS H2 u W2 E2 r2;have h2:=(E2.keep x _ hx nx rfl).1;exact⟨.ref x,rfl,x,C,dx,[],rfl,h2,B.cl,B.nb,by decide,q bS H2 u W2 E2 r2 h2⟩
theorem Me{f:J}{fd:Q2}(B:yg X.K C) (M:Mk X.K C f) (ξ:cg X.prog X.w X.K X.mg X.base bV k f fd ps (Dl X.K)) (hr:b7 (k+1) X.A) (hm:X.mg "Desk"=Y (.ref C)) (hb:Binds X.K fd ps []) (hg:Gl X "Desk":=by rfl) :
  aP X (.Call (.Name "Desk" p) [] [] pos) qR:=(L7 M ξ hr hg hm hb .nil sH).imp λZ H Q h=>by
 obtain⟨ρ,e,c,W,V,q⟩:=h;intro x dx hx hdx hne;have W1:=W.fresh (o:=.own x) hdx;have z4:upd H dx (.own x) x=O:=by rw[aV (Q8 hne)];exact hx
 have W2:=W1.fresh (o:=.ins C dx []) z4;refine⟨x,C,dx,ρ,c,rfl,cV,W.nil hx,B,W2,λbS H2 u W3 E r h2=>⟨rfl,?_⟩⟩
 have K2:=ahj (o:=.ins C dx [("bench",u)]) (.inr ⟨_,h2,rfl⟩);refine q bS _ (.ref x) (W3.Ng K2) ⟨E.pre,λa o h n t=>?_,λk a n h z=>?_⟩ ⟨x,C,dx,u,rfl,B.at_,cV,Rel.nd K2 _ _ r⟩
 ·have a1:a≠x:=cK h hx;obtain⟨h1,h3⟩:=E.keep a o (by rw[aV a1,aV (cK h hdx)];exact h) n t
  exact⟨by rw[aV a1];exact h1,h3⟩
 ·have a1:a≠x:=cK z.choose_spec.1 hx;exact(E.fT k a n h ((z.upd (cK z.choose_spec.1 hdx)).upd a1)).upd a1
theorem aio{body:List υ}{h₀:ExceptHandler}{b:ah}(hb:br X.iO body b):jq X (.Try body [h₀] [] [] pos) b:=akx hb
end
section
variable {X:Cx}
def fD:D->D->aa->R D:=λx y c=>match x,y with
 |.str i,.str j=>if i.length+j.length<=Ξ then .ok (.str (i++j)) c else .bad
 |_,_=>.bad
theorem j7:bC X (binaryOp .Add) (r2 X.K fD):=by
 intro pins s Z H v u vv uu Q I rv ru h;obtain⟨ρ,x,y,c,W,rx,ry,p⟩:=h;unfold fD at p;split at p
 ·split at p
  ·rename_i hl;cases rx;cases ry;exact Mn pins s Z H _ _ vv uu Q I rv ru ⟨_,_,rfl,rfl,hl,p.here W rfl⟩
  ·exact p.elim
 ·exact p.elim
def zW:List D->aa->R D:=λxs c=>match xs with
 |[.str s]=>match intText? s with
  |some n=>if s.length<=640 then .ok (.int n) c else .bad
  |none=>.bad
 |_=>.bad
theorem adE:cP X (.type "int") (rN X.K zW):=by
 intro pins s Z H vs us Q I rv h;obtain⟨ρ,xs,c,W,rx,p⟩:=h;unfold zW at p;split at p
 ·rename_i x;obtain⟨v,r,rfl,hv,hr⟩:=rx;cases hr;cases hv;obtain⟨u,rfl,t,rfl⟩:=R0 rv;split at p
  ·rename_i n hn;split at p
   ·rename_i hl;exact PySem.W.KIN.call_text hn hl ⟨.int n,H,I.tok _,⟨_,rfl⟩,p.here W rfl⟩
   ·exact p.elim
  ·exact p.elim
 ·exact p.elim
end
def g7(t:List (Str×Int)) (k:Str):Option Int:=(t.find? λp=>decide (p.1=k)).map (·.2)
def Ba(w:π):List So->List (Str×Int)->Prop
 |[],[]=>True
 |e::es,p::t=>(e.hash=hashStr w p.1/\(∃k,e.key=.str p.1 k)/\∃k,e.val=.int p.2 k)/\Ba w es t
 |_,_=>False
def yf(K:θ) (w:π) (a:J) (t:List (Str×Int)):Prop:=(a==sysModules)=G/\∃es n,K.lookup a=Y ⟨.type "dict",O,.dict es n,#[]⟩/\Ba w es.toList t
theorem Gm{w:π}(k:Str):∀{es:List So}{t:List (Str×Int)},Ba w es t->(∀e∈es,∃k,Value.isStrOf k e.key=L/\e.hash=hashStr w k)/\(g7 t k=O->es.find? (λe=>Value.isStrOf k e.key)=O)/\∀i,g7 t k=Y i->∃e u,es.find? (λe=>Value.isStrOf k e.key)=Y e/\e.val=.int i u
 |[],[],_=>⟨λ_ h=>(nomatch h),λ_=>rfl,λ_ h=>by cases h⟩
 |[],p::t,h=>h.elim
 |e::es,[],h=>h.elim
 |e::es,p::t,h=>by
  obtain⟨⟨h1,⟨a,h2⟩,b,h3⟩,h4⟩:=h;obtain⟨i1,i2,i3⟩:=Gm k h4;refine⟨λx hx=>?_,?_⟩
  ·rcases l8.mp hx with rfl|hx
   ·exact⟨p.1,by rw[h2];simp[Value.isStrOf],h1⟩
   ·exact i1 x hx
  ·by_cases hk:p.1=k
   ·have q:Value.isStrOf k e.key=L:=by rw[h2,hk];simp[Value.isStrOf]
    have z:g7 (p::t) k=Y p.2:=by simp[g7,hk]
    rw[z,Vf (p:=λe:So=>Value.isStrOf k e.key) q]
    exact⟨λh=>(by cases h),λi h=>(by cases h;exact⟨e,b,rfl,h3⟩)⟩
   ·have q:¬Value.isStrOf k e.key=L:=by rw[h2];simpa[Value.isStrOf]using hk
    have z:g7 (p::t) k=g7 t k:=by simp[g7,hk]
    rw[z,WL (p:=λe:So=>Value.isStrOf k e.key) q]
    exact⟨i2,i3⟩
theorem PB{K:θ}{h:χ}{a:J}{t:List (Str×Int)}{prog:ο}{w:π}(hk:K.In h) (hd:yf K w a t):(a==sysModules)=G/\∃f,h.MapOf (PySem.strKind prog w) a f/\∀k,(g7 t k=O->f k=O)/\∀i,g7 t k=Y i->∃u,f k=Y (.int i u):=by
 obtain⟨h0,es,n,e,z⟩:=hd;refine⟨h0,findBy Value.isStrOf es,⟨_,es,n,hk a _ e,⟨rfl,rfl,rfl⟩,rfl,λx hx=>(Gm Str.empty z).1 x (by simpa using hx),λ_=>rfl⟩,λk=>?_⟩
 have ef:findBy Value.isStrOf es k=(es.toList.find? λe=>Value.isStrOf k e.key).map (·.val):=by unfold findBy;rw[WS]
 obtain⟨_,q1,q2⟩:=Gm k z;refine⟨λh=>by rw[ef,q1 h];rfl,λi h=>?_⟩
 obtain⟨x,u,e1,e2⟩:=q2 i h;exact⟨u,by rw[ef,e1,<-e2];rfl⟩
def ud(t:List (Str×Int)):D->aa->R D:=λx c=>match x with
 |.str k=>match g7 t k with
  |some i=>.ok (.int i) c
  |none=>.bad
 |_=>.bad
def zB(x:Str) (t:List (Str×Int)):D->D->aa->R D:=λa b c=>match a,b with
 |.str k,.fn y _=>if y=x then .ok (.bl (!(g7 t k).isSome)) c else .bad
 |_,_=>.bad
def oj(x:Str) (t:List Str) (n:Bool):D->D->aa->R D:=λa b c=>match cZ a,b,fc (t.map D.str)with
 |some p,.fn y _,Y ys=>if y=x/\p.depth<=62 then .ok (.bl (n != (ys.any λz=>z.eqv p))) c else .bad
 |_,_,_=>.bad
section
variable {X:Cx}{x:Str}{ad:J}{t:List (Str×Int)}{ts:List Str}
def akV(ad:J) (t:List (Str×Int)):R2:=λx y H Q=>∃k i,x=.ref ad/\y=.str k/\g7 t k=Y i/\Q (.int i) H
theorem aaI(ht:yf X.K X.w ad t):o7 X (akV ad t):=by
 intro value slice pins s Z H x y v u Q I rx ry h hs;obtain⟨k,i,rfl,rfl,hl,q⟩:=h;cases rx;obtain⟨tk,rfl⟩:=ry;obtain⟨_,f,hm,hf⟩:=PB (prog:=X.prog) I.dW ht;obtain⟨b,hb⟩:=(hf k).2 i hl;have fin:EP X pins Z Q (.int i b) {s with toks:=s.toks+1}:=⟨.int i,H,I.tok _,⟨b,rfl⟩,q⟩
 exact UP (x:=.int i b) hm.typeIs slot_dict_getitem.lookup (wpAny_getItem_of (key:=.str k tk) (by simp[PySem.strKind,Value.isStrOf]) hm hb ⟨rfl,fin⟩) hs
theorem WV{a:ν}{da:af}{p1 p2}(hm:X.mg x=Y (.ref ad)) (ht:yf X.K X.w ad t) (ha:aP X a da) (hg:Gl X x:=by rfl) (hd:(x==("__debug__":Str))=G:=by decide) (hs:IF a:=by exact λ_ _=>rfl) :
  aP X (.Subscript (.Name x p1) a p2) (Be (ud t) da) :=
 (zj (aaI ht) (zk (v:=.ref ad) hg hm rfl hd) ha hs).imp λZ H Q h=>by
  obtain⟨ρ,e,c,W,V,p⟩:=h;refine⟨ρ,e,c,W,V,post.bind p λx c1 aJ H1 v ex W1 X1 r1 p1=>?_⟩
  clear ex;unfold ud at p1;split at p1
  ·rename_i k;cases r1;split at p1
   ·rename_i i hi;exact⟨k,i,rfl,rfl,hi,p1.here W1 rfl⟩
   ·exact p1.elim
  ·exact p1.elim
theorem YG(hn:μ X.K ι x=Y (Y (.ref ad))) (ht:yf X.K X.w ad t):bC X (compareOp .NotIn) (r2 X.K (zB x t)):=by
 intro pins s Z H v u vv uu Q I rv ru h;obtain⟨ρ,a,b,c,W,rx,ry,p⟩:=h;unfold zB at p;split at p
 ·split at p
  ·rename_i k y n hy;subst hy;cases rx;obtain⟨a,rfl,hb⟩:=ry;rw[hn]at hb;cases hb;obtain⟨tk,rfl⟩:=rv;cases ru;obtain⟨h0,f,hm,hf⟩:=PB (prog:=X.prog) I.dW ht;have e:(f k).isSome=(g7 t k).isSome:=by
    cases z:g7 t k with
    |none=>rw[(hf k).1 z];rfl
    |some l=>obtain⟨b,hb⟩:=(hf k).2 l z;rw[hb];rfl
   rw[<-e]at p;refine wpAny_notIn_of (key:=.str k tk) (k:=k) (by simp[PySem.strKind,Value.isStrOf]) h0 hm ?_
   exact⟨.bl _,H,I.tok _,rfl,p.here W rfl⟩
  ·exact p.elim
 ·exact p.elim
theorem LF{K:θ}{ρ:List J}{H:Hp}:∀ts:List Str,aK K ρ H (ts.map D.str) (ts.map V.str)
 |[]=>rfl
 |a::l=>⟨.str a,_,rfl,rfl,LF l⟩
theorem JB{pins:List (J×Obj)}{Z:St}{H:Hp}{s:Ψ}{ys:List RX}(I:Inv X pins Z H s) (hq:ck X.K (λ_=>O) ad (ts.map V.str)) (q:fc (ts.map D.str)=Y ys):(∃bs,Reads s.heap (.ref ad) (.tuple ys) bs)/\PyData.canLayAll0 ys=L:=by
 have hq:ck X.K H ad (ts.map V.str):=by
  rcases hq with h|h
  ·rcases h with h|⟨o,h⟩<;>cases h
  ·exact .inr h
 obtain⟨its,vs,⟨o,h1,h2,n,h3⟩,_⟩:=I.tuple hq;obtain⟨⟨as,ra⟩,hc⟩:=vC I _ _ its _ (LF (ρ:=[]) ts) vs q;exact⟨⟨_,.tuple h1 h2 h3 (by simpa using ra)⟩,hc⟩
theorem ML(hu:X.A.units+64<QS) (hn:μ X.K ι x=Y (Y (.ref ad))) (hq:ck X.K (λ_=>O) ad (ts.map V.str)):bC X (compareOp .In) (r2 X.K (oj x ts G))/\bC X (compareOp .NotIn) (r2 X.K (oj x ts L)):=by
 constructor<;>intro pins s Z H v u vv uu Q I rv ru h<;>obtain⟨ρ,a,b,c,W,rx,ry,p⟩:=h<;>unfold oj at p<;>split at p
 ·split at p
  ·rename_i k y n ys ha hb hh;obtain⟨rfl,hd⟩:=hh;obtain⟨a,rfl,hb⟩:=ry;rw[hn]at hb;cases hb;cases ru;obtain⟨⟨as,ra⟩,ca⟩:=gw I _ _ _ _ rx rv ha;obtain⟨⟨bs,rb⟩,cb⟩:=JB I hq hb;exact VL rb ra cb ca (t6 hu hd) ⟨.bl _,H,I,rfl,by rw[Bool.false_bne]at p;exact p.here W rfl⟩
  ·exact p.elim
 ·exact p.elim
 ·split at p
  ·rename_i k y n ys ha hb hh;obtain⟨rfl,hd⟩:=hh;obtain⟨a,rfl,hb⟩:=ry;rw[hn]at hb;cases hb;cases ru;obtain⟨⟨as,ra⟩,ca⟩:=gw I _ _ _ _ rx rv ha;obtain⟨⟨bs,rb⟩,cb⟩:=JB I hq hb;exact VJ rb ra cb ca (t6 hu hd) ⟨.bl _,H,I,rfl,by rw[Bool.true_bne]at p;exact p.here W rfl⟩
  ·exact p.elim
 ·exact p.elim
def strN:List D->aa->R D:=λxs c=>match xs with
 |[.aE]=>.ok (.str "None") c
 |_=>dU xs c
theorem adz:cP X (.type "str") (rN X.K strN):=by
 intro pins s Z H vs us Q I rv h;obtain⟨ρ,xs,c,W,rx,p⟩:=h;unfold strN at p;split at p
 ·obtain⟨v,r,rfl,hx,hr⟩:=rx;cases hr;cases hx;obtain⟨u,rfl,ru⟩:=R0 rv;cases ru;exact PySem.P.str_of_none ⟨.str _,H,I.tok _,⟨_,rfl⟩,p.here W rfl⟩
 ·exact kH pins s Z H vs us Q I rv ⟨ρ,xs,c,W,rx,p⟩
end
end L2
namespace Ev
open PySem L2 PyProof.Rows
def top(i:Nat):υ:=PySem.Challenge.pw_evenwebs_k93_whole_a_desk_and_all.main.body.getD i (.Pass ⟨0,0,0,0⟩)
def ja(i j:Nat):υ:=match top i with
 |.ClassDef _ _ _ b _ _ _ _ _ _ _=>b.getD j (.Pass ⟨0,0,0,0⟩)
 |s=>s
abbrev Li:υ:=top 10
abbrev Lh:υ:=top 11
abbrev Lk:υ:=top 14
abbrev Lv:υ:=top 15
abbrev Lo:υ:=top 16
abbrev Lj:υ:=top 17
abbrev Ll:υ:=top 18
abbrev Lw:υ:=top 19
abbrev KP:υ:=top 20
abbrev KH:υ:=top 21
abbrev yV:υ:=top 22
abbrev KL:υ:=top 23
abbrev KN:υ:=top 24
abbrev yX:υ:=top 25
abbrev Ls:υ:=top 27
abbrev Lp:υ:=top 28
abbrev KO:υ:=top 29
abbrev Lq:υ:=top 30
abbrev Lr:υ:=top 31
abbrev yW:υ:=top 33
abbrev Lm:υ:=top 34
abbrev KW:υ:=top 35
abbrev Ln:υ:=top 40
abbrev DM:υ:=ja 42 0
abbrev DK:υ:=ja 42 1
abbrev DL:υ:=ja 42 2
abbrev DH:υ:=ja 42 3
abbrev DE:υ:=ja 42 10
abbrev DG:υ:=ja 42 5
abbrev DF:υ:=ja 42 6
abbrev DJ:υ:=ja 42 9
abbrev DI:υ:=ja 42 11
abbrev Lf:υ:=top 45
abbrev KZ:υ:=top 46
abbrev KG:υ:=top 50
abbrev KC:υ:=top 51
abbrev Lg:υ:=top 52
abbrev Lu:υ:=top 53
abbrev KU:υ:=top 54
abbrev KR:υ:=top 55
abbrev KD:υ:=top 61
abbrev KI:υ:=top 62
abbrev KY:υ:=top 63
abbrev KS:υ:=top 64
abbrev KQ:υ:=top 65
abbrev KJ:υ:=top 66
abbrev DC:υ:=ja 67 0
abbrev DA:υ:=ja 67 2
abbrev DB:υ:=ja 67 3
abbrev Dz:υ:=ja 67 1
abbrev Lb:υ:=top 69
abbrev K6:υ:=top 70
abbrev K1:υ:=top 71
abbrev K8:υ:=top 72
abbrev Dy:υ:=top 73
abbrev K4:υ:=top 74
abbrev La:υ:=top 75
abbrev K7:υ:=top 76
abbrev Dw:υ:=top 77
abbrev Dv:υ:=top 78
abbrev Ld:υ:=top 79
abbrev Lc:υ:=top 80
abbrev K5:υ:=top 81
abbrev K3:υ:=top 82
abbrev K9:υ:=top 83
abbrev K0:υ:=top 84
abbrev Le:υ:=top 85
def Fi(st:υ):ν:=match(gj st).getLast? with
 |some (.Return (Y (.Call _ [_,e] _ _)) _)=>e
 |_=>.Name "" ⟨0,0,0,0⟩
def o8:ν:=Fi yV
def IS:ν:=Fi yX
def Cb:ν:=Fi yW
def kP:List (Str×Int):=[("put",3),("tie",4),("turn",3),("about",2),("drop",2),("undo",1),("show",2),("numbers",2),("knots",3),("threes",2),("names",1)]
def mS:List Str:=["show","numbers","knots","threes","names"]
def pG:List Str:=["put","turn"]
def uH:ah :=
 (aQ (g4 (aF bT (ao (ak 0) (ao (dC (.ty "int")) au))) (oG (aF bT (ao (ak 0) (ao (dC (.ty "bool")) au))))))
def wz:List D->aa->R D:=bx 1 G uH
def uG:ah :=
 (aQ (g4 (aH 1 wz (ao (ak 0) au)) (oH kj kj (ak 1) (ak 0) (ak 2))))
def k6:List D->aa->R D:=bx 3 G uG
def uI:ah :=
 (aQ (aH 3 k6 (ao (ak 0) (ao (dC (.int 0)) (ao (ay fZ (ak 1) (dC (.int 1))) au)))))
def ki:List D->aa->R D:=bx 2 G uI
def xT:ah :=
 (aC (aY (cH (aG (aF bT (ao (ak 0) (ao (dC (.ty "tuple")) au))))) (aQ (dC (.bl G))) bA) (aC (aN 2 (dC (.int 0))) (aC (bU (fy (ak 0)) (aB 3) (aC (aY (cH (aG (aH 3 k6 (ao (ak 3) (ao (ak 2) (ao (ay fZ (ak 1) (dC (.int 1))) au)))))) (aQ (dC (.bl G))) bA) (aN 2 (ay bZ (ak 3) (dC (.int 1)))))) (aQ (dC (.bl L))))))
def lX:List D->aa->R D:=bx 4 G xT
def G4:ah :=
 (aQ (g4 (ay kX (ak 1) (ay aD (ak 0) (ak 1))) (aF gI (ao (bg (fy (ay aD (ak 0) (ak 1))) [O,Y 1,Y 0] (aB 0) aT (ay inD (ak 1) (ay aD (ak 2) (ak 0)))) au))))
def qk:List D->aa->R D:=bx 2 G G4
def BR:ah :=
 (aC (aY (ee (cH (aG (aF bT (ao (ak 0) (ao (dC (.ty "tuple")) au))))) (cH (aG (oH kj kj (dC (.int 1)) (aF aS (ao (ak 0) au)) (dC (.int 50)))))) (aQ (dC (.bl G))) bA) (aC (aN 1 (aF aS (ao (ak 0) au))) (aC (aY (cH (aG (aF gI (ao (bg (fy (ak 0)) [O,Y 1] (aB 0) aT (aH 2 lX (ao (ak 0) (ao (ak 1) au)))) au)))) (aQ (dC (.bl G))) bA) (aQ (aF gI (ao (bg (bQ (ao (ak 1) au)) [O,Y 0] (aB 0) aT (aH 2 qk (ao (ak 1) (ao (ak 0) au)))) au))))))
def EZ:List D->aa->R D:=bx 2 G BR
def BS:ah :=
 (aC (aY (ee (cH (aG (aF bT (ao (ak 0) (ao (dC (.ty "tuple")) au))))) (aG (ay cE (aF aS (ao (ak 0) au)) (dC (.int 2))))) (aQ (dC (.bl G))) bA) (aQ (g4 (aH 2 ki (ao (ay aD (ak 0) (dC (.int 0))) (ao (ak 1) au))) (g4 (aH 2 ki (ao (ay aD (ak 0) (dC (.int 1))) (ao (ak 1) au))) (ay cE (ay aD (ak 0) (dC (.int 0))) (ay aD (ak 0) (dC (.int 1))))))))
def tF:List D->aa->R D:=bx 2 G BS
def BZ:ah :=
 (aQ (g4 (aF bT (ao (ak 0) (ao (dC (.ty "list")) au))) (aF gI (ao (bg (cO (ak 0)) [O,Y 1] (aB 0) aT (aH 2 tF (ao (ak 0) (ao (ak 1) au)))) au))))
def tL:List D->aa->R D:=bx 2 G BZ
def nZ:af :=
 (ay zY (bY (ao (ak 0) (ao (ak 1) au))) (ak 2))
def qt:af :=
 (ay kX (ak 1) (ay aD (ak 2) (ak 0)))
def nY:af :=
 (ay cE (ay inD (ak 1) (ay aD (ak 2) (ak 0))) (ay cE (ay inD (ak 0) (ak 3)) (ay inD (ak 1) (ak 3))))
def lams:List (ν×List Str×(List D->aa->R D)):=[(o8,["joined"],lZ nZ),(IS,["web"],lZ qt),(Cb,["web","some"],lZ nY)]
def Bx:ah :=
 (aQ (aF gr (ao (bg (bQ (ao (ak 0) au)) [O,Y 1,Y 2] (aB 0) (jO (aG (ay cE (ak 0) (ak 1))) (aG (qS 2 2 lams (ao (ak 1) (ao (ak 0) au))))) (ak 0)) au)))
def jD:List D->aa->R D:=bx 3 G Bx
def Br:ah :=
 (aQ (aF gr (ao (bg (bQ (ao (ak 0) au)) [O,Y 0,Y 1] (aB 0) aT (aH 3 jD (ao (ak 1) (ao (ak 0) (ao (ak 2) au))))) au)))
def jd:List D->aa->R D:=bx 2 G Br
def Bs:ah :=
 (aC (aY (cH (aG (aH 2 tL (ao (ak 1) (ao (ak 0) au))))) e7 bA) (aC (nj 1 2 3) (aQ (oJ 0 jd (ak 0) o8 ["joined"] [2]))))
def vV:List D->aa->R D:=bx 4 G Bs
def Bv:ah :=
 (aC (aN 1 (fW au)) (aC (bU (qQ (ao (ak 0) au)) (gG 2 (dj (aB 2) (dj (aB 3) gZ))) (dg (gk (ak 1) (bg (fy (ak 3)) [O,Y 2] (aB 0) (aG (ay iG (ak 1) (ak 0))) (bY (ao (ak 1) (ao (ak 0) au))))))) (aQ (ak 1))))
def vW:List D->aa->R D:=bx 4 G Bv
def xH:ah :=
 (aQ (g4 (aH 2 ki (ao (ak 1) (ao (aF aS (ao (ak 0) au)) au))) (ay inD (ak 2) (ay aD (ak 0) (ak 1)))))
def nP:List D->aa->R D:=bx 3 G xH
def BA:ah :=
 (aQ (oJ 1 jd (aF aS (ao (ak 0) au)) IS ["web"] [0]))
def nQ:List D->aa->R D:=bx 1 G BA
def BY:ah :=
 (aQ (uw (ao (ay aD (ak 0) (ak 1)) au) (ao (ay aD (ak 0) (ak 2)) au)))
def nT:List D->aa->R D:=bx 3 G BY
def BV:ah :=
 (aC (bU (qQ (ao (ak 0) au)) (gG 2 (dj (aB 1) (dj (aB 2) gZ))) (aY (aG (ay cE (aF aS (ao (ak 2) au)) (aF aS (ao (ay aD (ak 0) (dC (.int 0))) au)))) (aQ (ak 1)) bA)) (aQ (dC .aE)))
def wA:List D->aa->R D:=bx 3 G BV
def Bw:ah :=
 (aQ (kE (ur (ak 1)) (aH 3 nT (ao (ak 0) (ao (ay aD (ay aD (ak 1) (dC (.int 0))) (dC (.int 0))) (ao (ay aD (ay aD (ak 1) (dC (.int 0))) (dC (.int 1))) au)))) (dC .aE)))
def kZ:List D->aa->R D:=bx 2 G Bw
def BW:ah :=
 (aC (aN 2 (aH 2 kZ (ao (ak 0) (ao (ak 1) au)))) (aC (bU (cO (ak 1)) (aB 3) (aY (aG (ay cE (aH 3 nT (ao (ak 0) (ao (ay aD (ak 3) (dC (.int 0))) (ao (ay aD (ak 3) (dC (.int 1))) au)))) (ak 2))) (aQ (ak 3)) bA)) (aQ (dC .aE))))
def wB:List D->aa->R D:=bx 4 G BW
def BX:ah :=
 (aC (aN 1 (aH 1 wA (ao (ak 0) au))) (aC (aY (aG (ay qw (ak 1) (dC .aE))) (aQ (bY (ao (dC (.str "place")) (ao (ak 1) au)))) bA) (aC (aN 2 (aH 1 vW (ao (ak 0) au))) (aC (aN 3 (aH 1 vW (ao (aH 1 nQ (ao (ak 0) au)) au))) (aC (bU (fy (bY (ao (bY (ao (dC (.str "tied")) (ao (ak 2) au))) (ao (bY (ao (dC (.str "apart")) (ao (ak 3) au))) au)))) (gG 2 (dj (aB 4) (dj (aB 5) gZ))) (aC (aN 6 (aH 2 wB (ao (ak 0) (ao (ak 5) au)))) (aY (aG (ay qw (ak 6) (dC .aE))) (aQ (bY (ao (ak 4) (ao (ay aD (ak 6) (dC (.int 0))) (ao (ay aD (ak 6) (dC (.int 1))) au))))) bA))) (aQ (bY (ao (dC (.str "even")) (ao (bY (ao (aF aS (ao (ak 0) au)) (ao (aF aS (ao (ay aD (ak 0) (dC (.int 0))) au)) (ao (aH 2 kZ (ao (ak 0) (ao (ak 2) au))) (ao (aH 2 kZ (ao (ak 0) (ao (ak 3) au))) au))))) au)))))))))
def tH:List D->aa->R D:=bx 7 G BX
def xG:ah :=
 (aC (aY (cH (aG (aH 2 lX (ao (ak 1) (ao (aF aS (ao (ak 0) au)) au))))) e7 bA) (aQ (oJ 2 jd (aF aS (ao (ak 0) au)) Cb ["web","some"] [0,1])))
def sU:List D->aa->R D:=bx 2 G xG
def xR:ah :=
 (aC (aN 4 (ff (ao (aH 3 nP (ao (ak 0) (ao (ak 1) (ao (ak 2) au)))) (ao (aH 3 nP (ao (ak 0) (ao (ak 1) (ao (ak 3) au)))) (ao (aH 3 nP (ao (ak 0) (ao (ak 2) (ao (ak 3) au)))) au))))) (aQ (ay cu (ay gC (xB (ak 4) (dC (.bl L))) (dC (.int 2))) (dC (.int 1)))))
def nS:List D->aa->R D:=bx 5 G xR
def xM:ah :=
 (aC (aN 1 (dC (.int 0))) (aC (bU (bQ (ao (aF aS (ao (ak 0) au)) au)) (aB 2) (bU (bQ (ao (ak 2) au)) (aB 3) (aN 1 (ay bZ (ak 1) (aF aS (ao (bg (bQ (ao (ak 3) au)) [O,Y 0,Y 3,Y 2] (aB 0) (aG (aH 4 nS (ao (ak 1) (ao (ak 0) (ao (ak 2) (ao (ak 3) au)))))) (ak 0)) au)))))) (aQ (ak 1))))
def zJ:List D->aa->R D:=bx 4 G xM
def BU:ah :=
 (aC (aY (ee (cH (aG (aF bT (ao (ak 0) (ao (dC (.ty "str")) au))))) (cH (aG (oH kj kj (dC (.int 1)) (aF aS (ao (ak 0) au)) (dC (.int 8)))))) (aQ (dC (.bl G))) bA) (aQ (aF gI (ao (bg (Bg (ak 0)) [O] (aB 0) aT (ay zZ (ak 0) (dC (.str "abcdefghijklmnopqrstuvwxyz")))) au))))
def tG:List D->aa->R D:=bx 1 G BU
def oW:ah :=
 (aY (aG (ay l6 (ak 2) (dC .aE))) e7 (yY (iu (ak 0)) (ak 1) (ak 2)))
def Fb:List D->aa->R D:=bx 3 G oW
def mL:ah :=
 (aC (dg (uz (xu (ak 0)) (bY (ao (ak 1) (ao (ux (iu (ak 0)) (ak 1)) au))))) (dg (fN 2 Fb (ak 0) (ao (ak 1) (ao (ak 2) au)))))
def tN:List D->aa->R D:=bx 3 G mL
def mK:ah :=
 (aC (aY (cH (aG (aH 1 tG (ao (ak 1) au)))) e7 bA) (aC (aY (cH (aG (aH 1 EZ (ao (ak 2) au)))) e7 bA) (aC (aY (jO (aG (ay nI (ak 1) (iu (ak 0)))) (aG (ay cu (aF tQ (ao (iu (ak 0)) au)) (dC (.int 12))))) e7 bA) (dg (fN 2 tN (ak 0) (ao (ak 1) (ao (ak 2) au)))))))
def E7:List D->aa->R D:=bx 3 G mK
def oU:ah :=
 (aC (aY (ee (cH (aG (aF bT (ao (ak 1) (ao (dC (.ty "str")) au))))) (aG (ay nI (ak 1) (iu (ak 0))))) e7 bA) (aQ (Bh (iu (ak 0)) (ak 1))))
def ql:List D->aa->R D:=bx 2 G oU
def qY:ah :=
 (dg (fN 2 tN (ak 0) (ao (ak 1) (ao (aH 2 sU (ao (fN 1 ql (ak 0) (ao (ak 1) au)) (ao (ak 2) au))) au))))
def E6:List D->aa->R D:=bx 3 G qY
def qX:ah :=
 (dg (fN 2 tN (ak 0) (ao (ak 1) (ao (aH 1 nQ (ao (fN 1 ql (ak 0) (ao (ak 1) au)) au)) au))))
def E5:List D->aa->R D:=bx 2 G qX
def oV:ah :=
 (aQ (aF yP (ao (iu (ak 0)) au)))
def E9:List D->aa->R D:=bx 1 G oV
def qZ:ah :=
 (aQ (aH 1 tH (ao (fN 1 ql (ak 0) (ao (ak 1) au)) au)))
def E8:List D->aa->R D:=bx 2 G qZ
def BQ:ah :=
 (aQ (bg (cO (ak 2)) [O,Y 1,Y 0] (aB 0) (jO (aG (ay jK (ak 0) (ak 1))) (aG (ay inD (ak 0) (ay aD (ak 2) (ak 1))))) (ak 0)))
def wo:List D->aa->R D:=bx 3 G BQ
def xN:ah :=
 (aC (aN 2 (ff (ao (xx (ao (aF aS (ao (ak 0) au)) au)) au))) (aC (bU (bQ (ao (ay fZ (ak 1) (dC (.int 1))) au)) (aB 3) (aC (aN 4 (fW au)) (aC (bU (cO (ak 2)) (aB 5) (dg (gk (ak 4) (bg (cO (ak 5)) [O,Y 0,Y 5] (aB 0) aT (aH 3 wo (ao (ak 1) (ao (ak 0) (ao (ak 2) au)))))))) (aN 2 (ak 4))))) (aQ (aF nc (ao (bg (cO (ak 2)) [O] (aB 0) aT (aF aS (ao (ak 0) au))) au)))))
def nR:List D->aa->R D:=bx 6 G xN
def GZ:ah :=
 (aQ (jk (dC (.str "")) (bg (bQ (ao (ak 1) au)) [O,Y 0,Y 1] (aB 0) aT (kE (aG (ay inD (ak 0) (ay aD (ak 1) (ak 2)))) (dC (.str "#")) (dC (.str "."))))))
def qj:List D->aa->R D:=bx 2 G GZ
def xF:ah :=
 (aC (aN 1 (bg (fM (ao (dC (.int 1)) (ao (aF aS (ao (ak 0) au)) au))) [O,Y 0] (aB 0) aT (aH 2 qj (ao (ak 1) (ao (ak 0) au))))) (aQ (jk (dC (.str " ")) (ay kI (ff (ao (aF dU (ao (aF aS (ao (ak 0) au)) au)) au)) (ak 1)))))
def sS:List D->aa->R D:=bx 2 G xF
def G3:ah :=
 (aQ (g4 (ay cu (aF aS (ao (ak 0) au)) (ak 1)) (ay cu (ay bZ (uy (ak 0) (dC (.str "#"))) (uy (ak 0) (dC (.str ".")))) (ak 1))))
def wu:List D->aa->R D:=bx 2 G G3
def xS:ah :=
 (aC (aN 1 (aF aS (ao (ak 0) au))) (aC (aY (ee (aG (ay jK (ak 1) (dC (.int 50)))) (aG (ay cE (ay aD (ak 0) (dC (.int 0))) (aF dU (ao (ak 1) au))))) (aQ (dC (.bl G))) bA) (aQ (aF gI (ao (bg (fM (ao (dC (.int 1)) (ao (ak 1) au))) [O,Y 0] (aB 0) aT (aH 2 wu (ao (ay aD (ak 1) (ak 0)) (ao (ak 0) au)))) au)))))
def tK:List D->aa->R D:=bx 2 G xS
def uF:ah :=
 (aC (aN 1 (fW au)) (aC (bU (fM (ao (dC (.int 1)) (ao (aF aS (ao (ak 0) au)) au))) (aB 2) (dg (gk (ak 1) (bg (bQ (ao (ak 2) au)) [O,Y 2,Y 0] (aB 0) (aG (ay cu (ay tV (ay aD (ak 2) (ak 1)) (ak 0)) (dC (.str "#")))) (bY (ao (ak 0) (ao (ak 1) au))))))) (aQ (ak 1))))
def vY:List D->aa->R D:=bx 3 G uF
def xJ:ah :=
 (aC (aY (cH (aG (aF bT (ao (ak 0) (ao (dC (.ty "str")) au))))) e7 bA) (aC (aN 1 (qP (ak 0) (dC (.str " ")))) (aC (aY (cH (aG (aH 1 tK (ao (ak 1) au)))) e7 bA) (aQ (aH 2 vV (ao (aF aS (ao (ak 1) au)) (ao (aH 1 vY (ao (ak 1) au)) au)))))))
def vX:List D->aa->R D:=bx 2 G xJ
def Bq:ah :=
 (aC (aY (cH (aG (aF bT (ao (ak 0) (ao (dC (.ty "str")) au))))) e7 bA) (aC (aN 1 (qP (ak 0) (dC (.str " ")))) (aC (aY (ee (aG (ay inD (dC (.str "")) (ak 1))) (aG (ay (zB "MANY_WORDS" kP) (ay aD (ak 1) (dC (.int 0))) (dC (.fn "MANY_WORDS" 0))))) e7 bA) (aC (aN 2 (Be (ud kP) (ay aD (ak 1) (dC (.int 0))))) (aC (aY (ee (aG (ay iG (aF aS (ao (ak 1) au)) (ak 2))) (jO (aG (ay jK (aF aS (ao (ak 1) au)) (ak 2))) (aG (ay (oj "LONG_ROWS" pG L) (ay aD (ak 1) (dC (.int 0))) (dC (.fn "LONG_ROWS" 0)))))) e7 bA) (aQ (ak 1)))))))
def vU:List D->aa->R D:=bx 3 G Bq
def G0:ah :=
 (aQ (aH 1 vX (ao (jk (dC (.str " ")) (ak 0)) au)))
def EX:List D->aa->R D:=bx 1 G G0
def BB:ah :=
 (aC (aY (aG (ay kX (ak 0) (bg (fM (ao (ak 1) (ao (ay bZ (ak 2) (dC (.int 1))) au))) [O] (aB 0) aT (aF dU (ao (ak 0) au))))) e7 bA) (aQ (aF zW (ao (ak 0) au))))
def vZ:List D->aa->R D:=bx 3 G BB
def G1:ah :=
 (aQ (aH 3 vZ (ao (ak 0) (ao (dC (.int 0)) (ao (dC (.int 99)) au)))))
def sW:List D->aa->R D:=bx 1 G G1
def By:ah :=
 (aC (aN 1 (bg (cO (ak 0)) [O] (aB 0) aT (aH 1 sW (ao (ak 0) au)))) (aC (aY (aG (ay kY (ak 1) (Bf (ao (ak 1) au)))) e7 bA) (aQ (aF gr (ao (ak 1) au)))))
def EY:List D->aa->R D:=bx 2 G By
def Bu:ah :=
 (aC (aN 1 (kE (aG (ay cu (ay aD (ak 0) (dC (.int 0))) (dC (.str "even")))) (ay aD (ak 0) (dC (.int 1))) (xr (ak 0) (mF (dC (.int 1))) mG))) (aQ (jk (dC (.str " ")) (ay kI (ff (ao (ay aD (ak 0) (dC (.int 0))) au)) (bg (fy (ak 1)) [O] (aB 0) aT (kE (aG (ay l6 (ak 0) (dC .aE))) (dC (.str "-")) (aF dU (ao (ak 0) au))))))))
def sV:List D->aa->R D:=bx 2 G Bu
def lD:ah :=
 (aY (aG (ay cu (ay aD (ak 1) (dC (.int 0))) (dC (.str "put")))) (dg (fN 2 E7 (lz (ak 0)) (ao (ay aD (ak 1) (dC (.int 1))) (ao (aH 1 EX (ao (uv (ak 1) (mF (dC (.int 2))) mG) au)) au)))) (aY (aG (ay cu (ay aD (ak 1) (dC (.int 0))) (dC (.str "tie")))) e7 (aY (aG (ay cu (ay aD (ak 1) (dC (.int 0))) (dC (.str "turn")))) (dg (fN 2 E6 (lz (ak 0)) (ao (ay aD (ak 1) (dC (.int 1))) (ao (aH 1 EY (ao (uv (ak 1) (mF (dC (.int 2))) mG) au)) au)))) (aY (aG (ay cu (ay aD (ak 1) (dC (.int 0))) (dC (.str "about")))) (dg (fN 1 E5 (lz (ak 0)) (ao (ay aD (ak 1) (dC (.int 1))) au))) (aY (aG (ay cu (ay aD (ak 1) (dC (.int 0))) (dC (.str "drop")))) e7 e7)))))
def tM:List D->aa->R D:=bx 2 G lD
def jR:ah :=
 (aC (aY (aG (ay cu (ay aD (ak 1) (dC (.int 0))) (dC (.str "names")))) (aC (aN 2 (fN 0 E9 (lz (ak 0)) au)) (aQ (kE (ur (ak 2)) (jk (dC (.str " ")) (ak 2)) (dC (.str "none"))))) bA) (aC (aY (aG (ay cu (ay aD (ak 1) (dC (.int 0))) (dC (.str "numbers")))) (aQ (aH 1 sV (ao (fN 1 E8 (lz (ak 0)) (ao (ay aD (ak 1) (dC (.int 1))) au)) au))) bA) (aC (aY (aG (ay cu (ay aD (ak 1) (dC (.int 0))) (dC (.str "knots")))) (aC (aN 3 (aH 3 vZ (ao (ay aD (ak 1) (dC (.int 2))) (ao (dC (.int 1)) (ao (dC (.int 4)) au))))) (aQ (aF dU (ao (aH 2 nR (ao (fN 1 ql (lz (ak 0)) (ao (ay aD (ak 1) (dC (.int 1))) au)) (ao (ak 3) au))) au)))) bA) (aC (aN 4 (fN 1 ql (lz (ak 0)) (ao (ay aD (ak 1) (dC (.int 1))) au))) (aQ (kE (aG (ay cu (ay aD (ak 1) (dC (.int 0))) (dC (.str "show")))) (aH 1 sS (ao (ak 4) au)) (aF dU (ao (aH 1 zJ (ao (ak 4) au)) au))))))))
def nU:List D->aa->R D:=bx 5 G jR
def lC:ah :=
 (aC (aN 2 (aH 1 vU (ao (ak 1) au))) (aC (aY (aG (ay (oj "ASKING_ROWS" mS G) (ay aD (ak 2) (dC (.int 0))) (dC (.fn "ASKING_ROWS" 0)))) (aQ (eK 1 nU (ak 0) (ao (ak 2) au))) bA) (aC (dg (eK 1 tM (ak 0) (ao (ak 2) au))) (aQ (dC (.str "ok"))))))
def cU:List D->aa->R D:=bx 3 G lC
def xP:ah :=
 (aC (aY (aG (ay iG (ak 1) (aF aS (ao (ak 0) au)))) (aQ (ay aD (ak 0) (ak 1))) bA) (aQ (dC (.int 0))))
def tu:List D->aa->R D:=bx 2 G xP
def xO:ah :=
 (aC (aY (aG (ay OM (ak 0) (ay sA (dC (.int 10)) (dC (.int 18))))) (aQ (fW (ao (ay fZ (ak 0) (ay sA (dC (.int 10)) (dC (.int 18)))) au))) bA) (aC (aN 1 (dC (.int 0))) (aC (bU (bQ (ao (dC (.int 64)) au)) (aB 2) (aC (aN 3 (ay gC (ay gW (ay bZ (ay bZ (ay gC (ak 0) (dC (.int 2147483629))) (ay gW (dC (.int 7919)) (ak 2))) (dC (.int 1))) (dC (.int 48271))) (dC (.int 2147483647)))) (aC (aN 3 (ay gC (ay bZ (ay bZ (ay gW (ak 3) (ak 3)) (ay gW (dC (.int 69621)) (ak 2))) (dC (.int 7))) (dC (.int 2147483587)))) (aN 1 (ay bZ (ay gW (ak 1) (dC (.int 2147483587))) (ak 3)))))) (aQ (fW (ao (ak 1) au))))))
def sY:List D->aa->R D:=bx 4 L xO
def BE:ah :=
 (aC (aN 2 (ay gC (ay aD (ak 0) (dC (.int 0))) (ak 1))) (aC (jx (ay mE (ay aD (ak 0) (dC (.int 0))) (ak 1)) (jL (ak 0) (dC (.int 0)))) (aQ (ak 2))))
def d8:List D->aa->R D:=bx 3 G BE
def BJ:ah :=
 (aC (aN 2 (fW au)) (aC (bU (bQ (ao (ak 1) au)) (aB 3) (dg (xy (ak 2) (aH 2 d8 (ao (ak 0) (ao (ay bZ (ak 3) (dC (.int 1))) au))) (ak 3)))) (aQ (aF gr (ao (ak 2) au)))))
def sZ:List D->aa->R D:=bx 4 G BJ
def G2:ah :=
 (aC (aN 2 (bg (bQ (ao (ak 0) au)) [O,Y 0] (aB 0) aT (ay nv (ff (ao (dC (.bl G)) au)) (ak 1)))) (aC (bU (cO (ak 1)) (gG 2 (dj (aB 3) (dj (aB 4) gZ))) (aC (jx (dC (.bl L)) (jL (ay aD (ak 2) (ak 3)) (ak 4))) (jx (dC (.bl L)) (jL (ay aD (ak 2) (ak 4)) (ak 3))))) (aQ (ak 2))))
def wk:List D->aa->R D:=mw 5 G2
def BG:ah :=
 (aC (aN 2 (ay bZ (dC (.int 1)) (aH 2 d8 (ao (ak 0) (ao (ak 1) au))))) (aC (aN 3 (ay bZ (dC (.int 1)) (aH 2 d8 (ao (ak 0) (ao (dC (.int 5)) au))))) (aC (aN 4 (fW au)) (aC (bU (bQ (ao (ak 2) au)) (aB 5) (dg (gk (ak 4) (bg (fM (ao (ay bZ (ak 5) (dC (.int 1))) (ao (ak 2) au))) [O,Y 5,Y 3,Y 0] (aB 0) (aG (ay iG (aH 2 d8 (ao (ak 3) (ao (dC (.int 6)) au))) (ak 2))) (bY (ao (ak 1) (ao (ak 0) au))))))) (aQ (aH 2 wk (ao (ak 2) (ao (ak 4) au))))))))
def zK:List D->aa->R D:=bx 6 G BG
def BL:ah :=
 (aC (aN 2 (fW au)) (aC (bU (bQ (ao (ak 0) au)) (aB 3) (bU (fM (ao (ay bZ (ak 3) (dC (.int 1))) (ao (ak 0) au))) (aB 4) (aY (aG (aF xY (ao (bg (cO (ay aD (ak 1) (ak 3))) [O,Y 1,Y 4] (aB 0) aT (ay inD (ak 0) (ay aD (ak 1) (ak 2)))) au))) (dg (uz (ak 2) (bY (ao (ak 3) (ao (ak 4) au))))) bA))) (aQ (ak 2))))
def wj:List D->aa->R D:=bx 5 G BL
def BI:ah :=
 (aC (aN 2 (aH 2 d8 (ao (ak 0) (ao (dC (.int 6)) au)))) (aC (aN 3 (ay bZ (dC (.int 1)) (aH 2 d8 (ao (ak 0) (ao (ak 1) au))))) (aC (aN 4 (fW au)) (aC (aY (aG (ay cu (ak 2) (dC (.int 0)))) (aC (aN 5 (bg (fM (ao (dC (.int 1)) (ao (ay bZ (ay mE (ak 3) (dC (.int 2))) (dC (.int 1))) au))) [O,Y 0] (aB 0) (aG (ay cu (aH 2 d8 (ao (ak 1) (ao (dC (.int 2)) au))) (dC (.int 1)))) (ak 0))) (bU (cO (ak 5)) (aB 6) (dg (gk (ak 4) (bg (bQ (ao (ak 3) au)) [O,Y 3,Y 6] (aB 0) aT (bY (ao (ak 0) (ao (ay gC (ay bZ (ak 0) (ak 2)) (ak 1)) au)))))))) (aY (aG (ay cu (ak 2) (dC (.int 1)))) (aC (aN 7 (ay aD (ff (ao (dC (.int 2)) (ao (dC (.int 3)) (ao (dC (.int 4)) (ao (dC (.int 5)) au))))) (aH 2 d8 (ao (ak 0) (ao (dC (.int 4)) au))))) (aC (aN 8 (fW au)) (aC (bU (bQ (ao (ak 7) au)) (aB 9) (dg (gk (ak 8) (bg (fM (ao (ay bZ (ak 9) (dC (.int 1))) (ao (ak 7) au))) [O,Y 9] (aB 0) aT (ff (ao (ak 1) (ao (ak 0) au))))))) (aC (aN 3 (aF kh (ao (aF aS (ao (ak 8) au)) (ao (ak 1) au)))) (aN 4 (aH 2 wj (ao (ak 3) (ao (ak 8) au)))))))) (aY (aG (ay iG (ak 2) (dC (.int 4)))) (aC (aN 10 (ay bZ (dC (.int 1)) (aH 2 d8 (ao (ak 0) (ao (aF kh (ao (dC (.int 4)) (ao (ak 1) au))) au))))) (aC (aN 11 (ay bZ (dC (.int 1)) (aH 2 d8 (ao (ak 0) (ao (aF kh (ao (dC (.int 4)) (ao (ay mE (ak 1) (ak 10)) au))) au))))) (aC (aN 3 (ay gW (ak 10) (ak 11))) (aC (aN 8 (bg (bQ (ao (ak 3) au)) [O,Y 11] (aB 0) aT (ff (ao (ay mE (ak 0) (ak 1)) au)))) (aC (aY (aG (ay cu (ak 2) (dC (.int 2)))) (aN 8 (bg (bQ (ao (ak 3) au)) [O,Y 11] (aB 0) aT (ff (ao (ay mE (ak 0) (ak 1)) (ao (ay bZ (dC (.int 10)) (ay gC (ak 0) (ak 1))) au))))) bA) (aN 4 (aH 2 wj (ao (ak 3) (ao (ak 8) au))))))))) (aY (aG (ay cu (ak 2) (dC (.int 4)))) (aC (aN 3 (aF kh (ao (ak 1) (ao (ay aD (ff (ao (dC (.int 5)) (ao (dC (.int 13)) au))) (aH 2 d8 (ao (ak 0) (ao (dC (.int 2)) au)))) au)))) (aC (aN 12 (bg (fM (ao (dC (.int 1)) (ao (ak 3) au))) [O,Y 3] (aB 0) aT (ay gC (ay gW (ak 0) (ak 0)) (ak 1)))) (bU (bQ (ao (ak 3) au)) (aB 9) (dg (gk (ak 4) (bg (fM (ao (ay bZ (ak 9) (dC (.int 1))) (ao (ak 3) au))) [O,Y 9,Y 12,Y 3] (aB 0) (aG (ay inD (ay gC (ay fZ (ak 0) (ak 1)) (ak 3)) (ak 2))) (bY (ao (ak 1) (ao (ak 0) au))))))))) (aC (aN 3 (aF kh (ao (dC (.int 8)) (ao (ak 1) au)))) (aC (bU (bQ (ao (ak 3) au)) (aB 9) (dg (gk (ak 4) (bg (fM (ao (ay bZ (ak 9) (dC (.int 1))) (ao (ak 3) au))) [O,Y 9] (aB 0) (aG (ay inD (ay fZ (ak 0) (ak 1)) (bY (ao (dC (.int 1)) (ao (dC (.int 2)) (ao (dC (.int 4)) au)))))) (bY (ao (ak 1) (ao (ak 0) au))))))) (aN 4 (bg (cO (ak 4)) [O,O] (gG 2 (dj (aB 0) (dj (aB 1) gZ))) (aG (ay cu (ay xZ (ak 0) (ak 1)) (ak 0))) (bY (ao (ak 0) (ao (ak 1) au))))))))))) (aQ (aH 2 wk (ao (ak 3) (ao (ak 4) au))))))))
def zL:List D->aa->R D:=bx 13 G BI
def BN:ah :=
 (aC (aN 2 (aF aS (ao (ak 0) au))) (aC (aN 3 (bg (bQ (ao (ak 2) au)) [O,Y 2] (aB 0) aT (ay nv (ff (ao (dC (.bl G)) au)) (ak 1)))) (aC (bU (bQ (ao (ak 2) au)) (aB 4) (bU (bQ (ao (ak 2) au)) (aB 5) (jx (ay aD (ay aD (ak 0) (ak 4)) (ak 5)) (jL (ay aD (ak 3) (ay aD (ak 1) (ak 4))) (ay aD (ak 1) (ak 5)))))) (aQ (ak 3)))))
def zN:List D->aa->R D:=mw 6 BN
def BC:ah :=
 (aC (aN 3 (bg (cO (ak 0)) [O] (aB 0) aT (aF tP (ao (ak 0) au)))) (aC (jx (oG (ay aD (ay aD (ak 3) (ak 1)) (ak 2))) (jL (ay aD (ak 3) (ak 1)) (ak 2))) (aC (jx (oG (ay aD (ay aD (ak 3) (ak 2)) (ak 1))) (jL (ay aD (ak 3) (ak 2)) (ak 1))) (aQ (ak 3)))))
def wc:List D->aa->R D:=mw 4 BC
def BP:ah :=
 (aC (aN 1 (aF aS (ao (ak 0) au))) (aQ (bg (bQ (ao (ak 1) au)) [O,Y 1,Y 0] (aB 0) aT (bg (bQ (ao (ak 1) au)) [O,Y 0,Y 2] (aB 0) aT (g4 (ay cE (ak 1) (ak 0)) (oG (ay aD (ay aD (ak 2) (ak 1)) (ak 0))))))))
def tE:List D->aa->R D:=bx 2 G BP
def BO:ah :=
 (aC (aY (aG (ay iG (aH 2 d8 (ao (ak 0) (ao (dC (.int 5)) au))) (dC (.int 2)))) (aN 2 (aH 2 zK (ao (ak 0) (ao (ak 1) au)))) (aN 2 (aH 2 zL (ao (ak 0) (ao (ak 1) au))))) (aC (aN 3 (aF aS (ao (ak 2) au))) (aC (aY (aG (ay cu (aH 2 d8 (ao (ak 0) (ao (dC (.int 3)) au))) (dC (.int 0)))) (aN 2 (aH 1 tE (ao (ak 2) au))) bA) (aC (aY (jO (aG (ay jK (ak 3) (dC (.int 1)))) (aG (ay cu (aH 2 d8 (ao (ak 0) (ao (dC (.int 4)) au))) (dC (.int 0))))) (aC (aN 4 (aH 2 d8 (ao (ak 0) (ao (ak 3) au)))) (aN 2 (aH 3 wc (ao (ak 2) (ao (ak 4) (ao (ay gC (ay bZ (ay bZ (ak 4) (dC (.int 1))) (aH 2 d8 (ao (ak 0) (ao (ay fZ (ak 3) (dC (.int 1))) au)))) (ak 3)) au)))))) bA) (aQ (aH 2 zN (ao (ak 2) (ao (aH 2 sZ (ao (ak 0) (ao (ak 3) au))) au))))))))
def tw:List D->aa->R D:=bx 5 G BO
def BH:ah :=
 (aQ (aF gr (ao (bg (cO (ak 0)) [O,Y 0] (aB 0) aT (aF gr (ao (bg (bQ (ao (aF aS (ao (ak 1) au)) au)) [O,Y 0] (aB 0) (aG (ay aD (ak 1) (ak 0))) (ak 0)) au))) au)))
def wg:List D->aa->R D:=bx 1 G BH
def BF:ah :=
 (aC (aN 2 (ay bZ (dC (.int 1)) (aH 2 d8 (ao (ak 0) (ao (dC (.int 5)) au))))) (aQ (aF gr (ao (bg (bQ (ao (ak 1) au)) [O,Y 2,Y 0] (aB 0) (aG (ay iG (aH 2 d8 (ao (ak 2) (ao (dC (.int 6)) au))) (ak 1))) (ak 0)) au))))
def we:List D->aa->R D:=bx 3 G BF
def BK:ah :=
 (aC (aN 1 (xr (ak 0) (mF (dC (.int 1))) mG)) (aC (aY (aG (ay cu (ay aD (ak 0) (dC (.int 0))) (dC (.str "even")))) (aN 1 (ay aD (ak 0) (dC (.int 1)))) bA) (aC (aN 2 (ay aD (ak 0) (dC (.int 0)))) (aC (bU (fy (ak 1)) (aB 3) (aN 2 (ay fD (ay fD (ak 2) (dC (.str " "))) (ay aD (ff (ao (aF strN (ao (ak 3) au)) (ao (dC (.str "-")) au))) (aF tZ (ao (ay l6 (ak 3) (dC .aE)) au)))))) (aQ (ak 2))))))
def zM:List D->aa->R D:=bx 4 G BK
def BD:ah :=
 (aC (aY (ee (aG (ay cE (eK 1 cU (ak 0) (ao (ay fD (dC (.str "show ")) (ak 1)) au)) (aH 1 sS (ao (ak 2) au)))) (aG (ay cE (eK 1 cU (ak 0) (ao (ay fD (dC (.str "threes ")) (ak 1)) au)) (aF dU (ao (aH 1 zJ (ao (ak 2) au)) au))))) (aQ (dC (.bl G))) bA) (aC (bU (fM (ao (dC (.int 1)) (ao (dC (.int 5)) au))) (aB 3) (aY (aG (ay cE (eK 1 cU (ak 0) (ao (ay fD (ay fD (ay fD (dC (.str "knots ")) (ak 1)) (dC (.str " "))) (aF dU (ao (ak 3) au))) au)) (aF dU (ao (aH 2 nR (ao (ak 2) (ao (ak 3) au))) au)))) (aQ (dC (.bl G))) bA)) (aQ (ay cu (eK 1 cU (ak 0) (ao (ay fD (dC (.str "numbers ")) (ak 1)) au)) (aH 1 zM (ao (aH 1 tH (ao (ak 2) au)) au))))))
def sX:List D->aa->R D:=bx 4 G BD
def xQ:ah :=
 (aC (bU (bQ (ao (aF sR (ao (dC (.int 1)) (ao (aF kh (ao (aF aS (ao (ak 0) au)) (ao (dC (.int 6)) au))) au))) au)) (aB 1) (aC (aN 2 (aH 1 sY (ao (aH 2 tu (ao (ak 0) (ao (ak 1) au))) au))) (aC (aN 3 (aH 1 wg (ao (aH 2 tw (ao (ak 2) (ao (dC (.int 10)) au))) au))) (aC (aN 4 qR) (aC (dg (eK 1 cU (ak 4) (ao (ay fD (dC (.str "put one ")) (aH 1 sS (ao (ak 3) au))) au))) (aC (aN 5 (aH 2 we (ao (ak 2) (ao (aF aS (ao (ak 3) au)) au)))) (aC (aY (aG (ay kB (ak 5) (bY au))) (aN 5 (bY (ao (ay fZ (aF aS (ao (ak 3) au)) (dC (.int 1))) au))) bA) (aC (aN 6 (ay fD (dC (.str "turn one ")) (jk (dC (.str " ")) (bg (fy (ak 5)) [O] (aB 0) aT (aF dU (ao (ak 0) au)))))) (aC (aN 7 (aH 1 nQ (ao (aH 2 sU (ao (ak 3) (ao (ak 5) au))) au))) (aC (aY (ee (aG (ay cE (eK 1 cU (ak 4) (ao (ak 6) au)) (dC (.str "ok")))) (ee (aG (ay cE (eK 1 cU (ak 4) (ao (dC (.str "about one")) au)) (dC (.str "ok")))) (cH (aG (aH 3 sX (ao (ak 4) (ao (dC (.str "one")) (ao (ak 7) au)))))))) (aQ (dC (.bl G))) bA) (aC (aN 8 qR) (aC (dg (eK 1 cU (ak 8) (ao (ay fD (dC (.str "put two ")) (eK 1 cU (ak 4) (ao (dC (.str "show one")) au))) au))) (aC (aY (ee (cH (aG (aH 3 sX (ao (ak 8) (ao (dC (.str "two")) (ao (ak 7) au)))))) (aG (ay cE (eK 1 cU (ak 8) (ao (dC (.str "names")) au)) (dC (.str "two"))))) (aQ (dC (.bl G))) bA) (aY (ee (aG (ay cE (eK 1 cU (ak 4) (ao (dC (.str "about one")) au)) (dC (.str "ok")))) (ee (aG (ay cE (eK 1 cU (ak 4) (ao (ak 6) au)) (dC (.str "ok")))) (aG (ay kY (aH 1 vX (ao (eK 1 cU (ak 4) (ao (dC (.str "show one")) au)) au)) (ak 3))))) (aQ (dC (.bl G))) bA)))))))))))))) (aQ (dC (.bl L))))
def wm:List D->aa->R D:=bx 9 G xQ
end Ev
namespace L2
open PySem PySem.Spec PyProof.Rows
structure Dd (K:θ) (mg:Str->Option S) (x:Str) (st:υ) (ps:List Str) where
 a:J
 fd:Q2
 d:Def K mg x st ps a fd
 n:μ K ι x=Y (Y (.ref a))
section
variable {K:θ}{mg:Str->Option S}{x:Str}{st:υ}{ps:List Str}{f:J}{h:χ}
def FA(K:θ) (x:Str) (st:υ) (f:J):Prop:=μ K ι x=Y (Y (.ref f))/\∃(oc:S) (od:Option J) (kV dc pm:S) (an:Option J) (cd ct:S) (sl:Array (Option S)),K.lookup f=Y ⟨oc,od,.func (PySem.W.fnOf x x (kD st) (gj st) (bP st) .none kV dc pm an cd ct),sl⟩/\PySem.W.codeIn K cd x=L/\PySem.W.keepIn K (.ref f)=L
theorem FA.mk{oc:S}{od an:Option J}{sl:Array (Option S)}{kV dc pm cd ct:S}(a:μ K ι x=Y (Y (.ref f))) (l:K.lookup f=Y ⟨oc,od,.func (PySem.W.fnOf x x (kD st) (gj st) (bP st) .none kV dc pm an cd ct),sl⟩) (c:PySem.W.codeIn K cd x=L) (k:PySem.W.keepIn K (.ref f)=L):FA K x st f:=⟨a,_,_,_,_,_,_,_,_,_,l,c,k⟩
theorem FA.fn(A:FA K x st f):∃fd,iV K x x st f fd:=by
 obtain⟨_,oc,od,kV,dc,pm,an,cd,ct,sl,l,c,k⟩:=A;exact⟨_,OW l c k⟩
def bM(X:K.In h) (ξ:h.Ns ι mg) (A:FA K x st f) (hb:∀(kV doc pm:S) (an:Option J) (cdv ct:S) (us:List S),us.length=ps.length->bindArgs (PySem.W.fnOf x x (kD st) (gj st) (bP st) .none kV doc pm an cdv ct) ⟨us,[]⟩=pure (ps.zip us):=by
  intro _ _ _ _ _ _ us hl
  rcases us with _|⟨_,_|⟨_,_|⟨_,_|⟨_,_|⟨_,_⟩⟩⟩⟩⟩<;>first|(simp at hl;done)|rfl):Dd K mg x st ps :=
 ⟨f,A.fn.choose,⟨A.fn.choose_spec,RT X ξ A.1,A.fn.choose_spec.binds hb⟩,A.1⟩
theorem Z1{P:ο}{w:π}{k:Nat}{sp:Sp}{p:Str}(D:Dd K mg x st [p]) (FW:mg x=Y (.ref f)) (ok:∀base:χ,cg P w K mg base bV k D.a D.fd [p] sp)
  (hb:∀(kV doc pm:S) (an:Option J) (cdv ct v:S),bindArgs (PySem.W.fnOf x x (kD st) (gj st) (bP st) .none kV doc pm an cdv ct) ⟨[v],[]⟩=pure [(p,v)]:=by exact λ_ _ _ _ _ _ _=>rfl) :
  ∃fd:Q2,(∀(s:Ψ) (v:S),SH s fd ⟨[v],[]⟩ [(p,v)])/\∀base:χ,K.In base->base.Ns ι mg->cg P w K mg base bV k f fd [p] sp:=by
 cases(FW.symm.trans D.d.at');obtain⟨oc,od,kV,doc,pm,an,cdv,ct,osl,hfd,lk,hcd⟩:=D.d.fn.ex;exact⟨D.fd,λs v=>.of_eq (by rw[hfd];exact hb kV doc pm an cdv ct v),λbase _ _=>ok base⟩
end
abbrev bO(P:ο) (w:π) {K:θ}{mg:Str->Option S}{x:Str}{st:υ}{ps:List Str}(base:χ) (k:Nat) (F:Dd K mg x st ps) (n:Nat) (m:List D->aa->R D):Prop:=cg P w K mg base bV k F.a F.fd ps (dH K n m)
section
variable {X:Cx}{N':List Str}{pick:List (Option Nat)}{scope:Q5}{tg elt iter:ν}{ifs:List ν}{pos:Pos}{ds:Ev->aa->R Src}{g:Gd}{dt:ai}{de:af}
theorem aU{x:Str}{st:υ}{ps:List Str}{D:Dd X.K X.mg x st ps}{k j n:Nat}{m:List L2.D->aa->R L2.D}{e:ν}{es:List ν}{da:Ev->aa->R (List L2.D)}{p pos:Pos}(ξ:cg X.prog X.w X.K X.mg X.base bV k D.a D.fd ps (dH X.K n m)) (hr:b7 j X.A) (ha:fY X (e::es) da) (hk:k<=j:=by decide) (hg:Gl X x:=by rfl)
  (hdb:(x==("__debug__":Str))=G:=by decide) (he:ε (e::es) X.env=(G,eval e X.env)::ε es X.env:=by exact c9 rfl) (hpl:(ω pos (ε es X.env)).any (·.1)=G:=by exact fK rfl) :
  aP X (.Call (.Name x p) (e::es) [] pos) (aH n m da):=aj2 D.d ξ (hr.mono hk) ha hg hdb he hpl
theorem gc{x:Str}{p:Pos}(hit:PId X (.Name x p) iter ds) (he:∀cl C s₀ H₀ ex pn,aP (fO X N' scope cl C s₀ H₀ ex pn) elt de)
  (Γ:dz X N' pick scope:=by exact dz.of rfl rfl) (hN:N'.Nodup:=by decide +kernel)
  (hg:N'.Nodup->∀cl C s₀ H₀ ex pn,lH (fO X N' scope cl C s₀ H₀ ex pn) (.Name x p) (aB 0):=by exact λh _ _ _ _ _ _=>e9 (i:=0) (hN:=h))
  (hc:X.calm=L:=by rfl) (hs:∀x,foldedSetIterable iter X.env x=pure x:=by intro _;rfl) :
  aP X (.ListComp elt [⟨.Name x p,iter,[],0⟩] scope pos) (bg ds pick (aB 0) aT de):=j4 Γ hit (hg hN) (λ_ _ _ _ _ _=>ny) he hc hs
end
section
variable {X:Cx}{st:υ}{rest:List υ}{t u:ah}{e:ν}{da:af}{pos:Pos}
theorem bE(i:Nat) {x:Str}{pos':Pos}(he:aP X e da) (hN:X.N.Nodup:=by assumption) (hi:X.N[i]? = Y x:=by rfl) (hx:Loc X.env.scope x:=by first|exact Or.inl rfl|exact Or.inr rfl) (hs:swapsWith e (Y (.Name x pos')) pos.line X.env=pure G:=by rfl)
  (hf:X.fn x=L\/X.env.scope.names.lookup x=Y .local:=by first|exact .inl rfl|exact .inr rfl):jq X (.Assign [.Name x pos'] e pos) (aN i da):=r8 he hN hi hx hs hf
theorem fq(i:Nat) {x:Str}(hN:X.N.Nodup:=by assumption) (hi:X.N[i]? = Y x:=by rfl) (hx:Loc X.env.scope x:=by first|exact Or.inl rfl|exact Or.inr rfl) (hf:X.fn x=L\/X.env.scope.names.lookup x=Y .local:=by first|exact .inl rfl|exact .inr rfl):lH X (.Name x pos) (aB i):=e9 hN hi hx hf
end
theorem bX{P:ο}{w:π}{K:θ}{mg:Str->Option S}{base:χ}{x:Str}{st:υ}{ps:List Str}{D:Dd K mg x st ps}(N:List Str) {k n m:Nat}{own:Bool}{d:ah}
  (hb:N.Nodup->∀(cdv:S) (A:ψ) (outer:List Env) (s:Ψ) (H:Hp) (E:XK),b7 k (A.deeper (envOfC x (bP st) s.heap.objs.size D.a cdv))->br (jl bV P w K mg base N x (bP st) D.a cdv A outer s H E).iO (gj st) d)
  (Γ:eO N ps (bP st):=by exact⟨rfl,rfl,rfl,by decide +kernel,rfl,by decide +kernel,by decide +kernel⟩) (hN:N.length=n:=by rfl) (hm:ps.length=m:=by rfl):cg P w K mg base bV (k+1) D.a D.fd ps (dH K m (bx n own d)) :=
 jN D.d.fn Γ hN hm (hb Γ.nd)
section
variable {K:θ}{C:J}{m qual:Str}{st:υ}{ps:List Str}{f:J}
def FM(K:θ) (C:J) (m qual:Str) (st:υ) (f:J):Prop:=Meth K C m f/\∃(oc:S) (od:Option J) (kV dc pm:S) (an:Option J) (cd ct:S) (sl:Array (Option S)),K.lookup f=Y ⟨oc,od,.func (PySem.W.fnOf m qual (kD st) (gj st) (bP st) .none kV dc pm an cd ct),sl⟩/\PySem.W.codeIn K cd qual=L
theorem FM.mk{oc:S}{od an:Option J}{sl:Array (Option S)}{kV dc pm cd ct:S}(a:PySem.W.findIn K (.ref C) m=Y (Y (.ref f))) (i:PySem.W.isFn K (.ref f)=L) (l:K.lookup f=Y ⟨oc,od,.func (PySem.W.fnOf m qual (kD st) (gj st) (bP st) .none kV dc pm an cd ct),sl⟩) (c:PySem.W.codeIn K cd qual=L) (k:PySem.W.keepIn K (.ref f)=L):FM K C m qual st f:=⟨⟨a,i,k⟩,_,_,_,_,_,_,_,_,_,l,c⟩
theorem FM.fn(A:FM K C m qual st f):∃fd,iV K m qual st f fd:=by
 obtain⟨k,oc,od,kV,dc,pm,an,cd,ct,sl,l,c⟩:=A;exact⟨_,OW l c k.kp⟩
def jb(A:FM K C m qual st f) (hb:∀(kV doc pm:S) (an:Option J) (cdv ct:S) (us:List S),us.length=ps.length->bindArgs (PySem.W.fnOf m qual (kD st) (gj st) (bP st) .none kV doc pm an cdv ct) ⟨us,[]⟩=pure (ps.zip us):=by
  intro _ _ _ _ _ _ us hl
  rcases us with _|⟨_,_|⟨_,_|⟨_,_|⟨_,_|⟨_,_⟩⟩⟩⟩⟩<;>first|(simp at hl;done)|rfl):g6 K C m qual st ps :=
 ⟨f,A.fn.choose,A.fn.choose_spec,A.1,A.fn.choose_spec.binds hb⟩
end
end L2
namespace Ev
open PySem L2 PyProof.Rows
set_option genInjectivity false in
set_option genSizeOfSpec false in
structure Tx (w:π) (K:θ) (mg:Str->Option S) where
 AR:Dd K mg "is_whole" Li ["thing"]
 AQ:Dd K mg "is_whole_within" Lh ["thing","least","most"]
 AU:Dd K mg "is_place" Lk ["thing","many"]
 A4:Dd K mg "are_rising_places" Lv ["thing","many"]
 AY:Dd K mg "is_mutual" Lo ["rows","one"]
 AS:Dd K mg "is_web" Lj ["thing"]
 AV:Dd K mg "is_pair" Ll ["thing","many"]
 A5:Dd K mg "are_pairs" Lw ["thing","many"]
 Aq:Dd K mg "row_where" KP ["many","one","are_tied"]
 qF:Dd K mg "web_where" KH ["many","are_tied"]
 ue:Dd K mg "web_of" yV ["many","pairs"]
 Am:Dd K mg "ties" KL ["web"]
 An:Dd K mg "tied" KN ["web","one","other"]
 ug:Dd K mg "other_web" yX ["web"]
 A2:Dd K mg "common" Ls ["web","one","other"]
 AZ:Dd K mg "first_unlike_place" Lp ["web"]
 Ao:Dd K mg "shared_by_all" KO ["web","pairs"]
 A0:Dd K mg "first_unlike_pair" Lq ["web","pairs"]
 A1:Dd K mg "evenness" Lr ["web"]
 uf:Dd K mg "turned_at" yW ["web","some"]
 AW:Dd K mg "is_odd" Lm ["web","one","other","third"]
 Aw:Dd K mg "odd_threes" KW ["web"]
 AX:Dd K mg "is_name" Ln ["thing"]
 AN:Dd K mg "later_tied_to" Lf ["web","place","some"]
 Ay:Dd K mg "many_knots" KZ ["web","size"]
 Aj:Dd K mg "word_of" KG ["web","place"]
 Ah:Dd K mg "written" KC ["web"]
 AO:Dd K mg "is_word" Lg ["word","place"]
 A3:Dd K mg "are_words" Lu ["words"]
 Av:Dd K mg "pairs_in" KU ["words"]
 As:Dd K mg "read" KR ["text"]
 Ai:Dd K mg "words_in" KD ["row"]
 Ak:Dd K mg "web_in" KI ["words"]
 Ax:Dd K mg "number_in" KY ["word","least","most"]
 Au:Dd K mg "place_in" KS ["word"]
 Ar:Dd K mg "rising_in" KQ ["words"]
 Al:Dd K mg "told_numbers" KJ ["told"]
 AK:Dd K mg "_law_cell_at" Lb ["script","k"]
 AF:Dd K mg "_law_pot" K6 ["cell"]
 AA:Dd K mg "_law_take" K1 ["pot","far"]
 AH:Dd K mg "_law_order" K8 ["pot","wide"]
 wZ:Dd K mg "_law_joined" Dy ["many","wanted"]
 AD:Dd K mg "_law_scattered" K4 ["pot","most"]
 AJ:Dd K mg "_law_near" La ["many","marks"]
 AG:Dd K mg "_law_plain" K7 ["pot","most"]
 wY:Dd K mg "_law_moved" Dw ["table","order"]
 wX:Dd K mg "_law_toggled" Dv ["table","one","other"]
 AM:Dd K mg "_law_about" Ld ["table"]
 AL:Dd K mg "_law_built" Lc ["pot","most"]
 AE:Dd K mg "_law_rows" K5 ["table"]
 AB:Dd K mg "_law_some_places" K3 ["pot","many"]
 AI:Dd K mg "_law_numbers_text" K9 ["due"]
 Az:Dd K mg "_law_tells" K0 ["desk","name","web"]
 xg:Dd K mg "law" Le ["script"]
 C:J
 fC:rH K C
 gB:mg "Bench"=Y (.ref C)
 oE:g6 K C "__init__" "Bench.__init__" DM ["self"]
 qN:g6 K C "keep" "Bench.keep" DK ["self","name","web"]
 mD:g6 K C "do" "Bench.do" DL ["self","name","web"]
 qK:g6 K C "put" "Bench.put" DH ["self","name","web"]
 ku:g6 K C "web" "Bench.web" DE ["self","name"]
 qJ:g6 K C "turn" "Bench.turn" DG ["self","name","some"]
 qI:g6 K C "turn_about" "Bench.turn_about" DF ["self","name"]
 qM:g6 K C "names" "Bench.names" DJ ["self"]
 qL:g6 K C "numbers" "Bench.numbers" DI ["self","name"]
 nN:Mk K C oE.a
 C2:J
 fu:yg K C2
 gD:mg "Desk"=Y (.ref C2)
 mC:g6 K C2 "__init__" "Desk.__init__" DC ["self"]
 qG:g6 K C2 "obey" "Desk.obey" DA ["self","words"]
 qH:g6 K C2 "answer" "Desk.answer" DB ["self","words"]
 gH:g6 K C2 "say" "Desk.say" Dz ["self","row"]
 fS:Mk K C2 mC.a
 mO:J
 F9:mg "MANY_WORDS"=Y (.ref mO)
 vN:μ K ι "MANY_WORDS"=Y (Y (.ref mO))
 C9:yf K w mO kP
 oZ:J
 OT:mg "ASKING_ROWS"=Y (.ref oZ)
 vP:μ K ι "ASKING_ROWS"=Y (Y (.ref oZ))
 LM:ck K (λ_=>O) oZ (mS.map V.str)
 oY:J
 OP:mg "LONG_ROWS"=Y (.ref oY)
 vO:μ K ι "LONG_ROWS"=Y (Y (.ref oY))
 LL:ck K (λ_=>O) oY (pG.map V.str)
 qi:mg "all"=O
 Nk:mg "any"=O
 Nj:mg "bool"=O
 EO:mg "enumerate"=O
 zG:mg "int"=O
 kc:mg "isinstance"=O
 cR:mg "len"=O
 zF:mg "list"=O
 Ni:mg "max"=O
 qh:mg "min"=O
 cz:mg "range"=O
 EN:mg "set"=O
 EM:mg "sorted"=O
 ie:mg "str"=O
 Nh:mg "sum"=O
 j9:mg "tuple"=O
 m8:J
 mY:J
 pN:PySem.W.tabIn K "other_web"=Y (m8,mY)
 rU:PySem.W.codeHdIn K m8 mY=L
 m7:J
 mX:J
 pM:PySem.W.tabIn K "turned_at"=Y (m7,mX)
 rT:PySem.W.codeHdIn K m7 mX=L
 m5:J
 mW:J
 pL:PySem.W.tabIn K "web_of"=Y (m5,mW)
 rS:PySem.W.codeHdIn K m5 mW=L
 m9:vg K=L
 ve:Tok
 Ga:mg "APART"=Y (.str "." ve)
 vd:Tok
 OS:mg "GREATEST_SIZE"=Y (.int 4 vd)
 vc:Tok
 OR:mg "GREATEST_WRITTEN"=Y (.int 99 vc)
 u9:Tok
 OQ:mg "LONGEST_NAME"=Y (.int 8 u9)
 u7:Tok
 OO:mg "MOST_NAMES"=Y (.int 12 u7)
 u6:Tok
 F8:mg "MOST_PLACES"=Y (.int 50 u6)
 u5:Tok
 ON:mg "SMALL_LETTERS"=Y (.str "abcdefghijklmnopqrstuvwxyz" u5)
 uZ:Tok
 Ad:mg "TIED"=Y (.str "#" uZ)
section
variable {P:ο}{w:π}{K:θ}{mg:Str->Option S}{base:χ}
theorem Yj(T:Tx w K mg):bO P w base 1 T.AR 1 wz :=
 bX ["thing"] λhN _ _ _ _ _ _ _=>by
  show br _ _ uH;unfold uH;exact(aI (bf (lT (bH lA T.kc Ro (av (aq 0) (av (kR rfl T.zG boot_int) aA))) (nA (zl (bH lA T.kc Ro (av (aq 0) (av (kR rfl T.Nj boot_bool) aA))))))))
theorem My(T:Tx w K mg):bO P w base 2 T.AQ 3 k6 :=
 bX ["thing","least","most"] λhN _ _ _ _ _ _ hr=>by
  show br _ _ uG;unfold uG;exact(aI (bf (lT (aU (Yj T) hr (av (aq 0) aA)) (nA (WX sM sM (aq 1) (aq 0) (aq 2))))))
theorem Ep(T:Tx w K mg):bO P w base 3 T.AU 2 ki :=
 bX ["thing","many"] λhN _ _ _ _ _ _ hr=>by
  show br _ _ uI;unfold uI;exact(aI (bf (aU (My T) hr (av (aq 0) (av aM (av (bz nG (aq 1) aM) aA))))))
theorem MB(T:Tx w K mg):bO P w base 3 T.A4 2 lX :=
 bX ["thing","many","least","place"] λhN _ _ _ _ _ _ hr=>by
  show br _ _ xT;unfold xT;refine aO (bR (gK (gf (bH lA T.kc Ro (av (aq 0) (av (kR rfl T.j9 Rn) aA))))) (aI (bf gy)) cA) ?_;refine aO (bE 2 aM) ?_;refine aO (fj (om (aq 0)) (fq 3) (aO (bR (gK (gf (aU (My T) hr (av (aq 3) (av (aq 2) (av (bz nG (aq 1) aM) aA)))))) (aI (bf gy)) cA) (aI (bE 2 (bz e8 (aq 3) aM))))) ?_;exact(aI (bf gy))
theorem Yo(T:Tx w K mg):bO P w base 1 T.AY 2 qk :=
 bX ["rows","one"] λhN _ _ _ _ _ _ hr=>by
  show br _ _ G4;unfold G4;exact(aI (bf (lT (gx (Ew (eY hr)) (aq 1) (bu bw (aq 0) (aq 1))) (nA (bH uC T.qi SY (av (gc (N':=["other","one","rows"]) (pick:=[O,Y 1,Y 0]) (om (bu bw (aq 0) (aq 1))) (λ_ _ _ _ _ _=>(gx (j6 (eY hr)) (aq 1) (bu bw (aq 2) (aq 0))))) aA))))))
theorem Yk(T:Tx w K mg):bO P w base 4 T.AS 1 EZ :=
 bX ["thing","many"] λhN _ _ _ _ _ _ hr=>by
  show br _ _ BR;unfold BR;refine aO (bR (PW.pt (i7 (gK (gf (bH lA T.kc Ro (av (aq 0) (av (kR rfl T.j9 Rn) aA))))) (j3 (gK (Mg sM sM aM (bH dw T.cR P7 (av (aq 0) aA)) (sG rfl T.F8)))))) (aI (bf gy)) cA) ?_;refine aO (bE 1 (bH dw T.cR P7 (av (aq 0) aA))) ?_;refine aO (bR (gK (gf (bH uC T.qi SY (av (gc (N':=["row","many"]) (pick:=[O,Y 1]) (om (aq 0)) (λ_ _ _ _ _ _=>(aU (MB T) hr (av (aq 0) (av (aq 1) aA))))) aA)))) (aI (bf gy)) cA) ?_
  exact(aI (bf (bH uC T.qi SY (av (gc (N':=["one","thing"]) (pick:=[O,Y 0]) (ez (av (aq 1) aA) T.cz) (λ_ _ _ _ _ _=>(aU (Yo T) hr (av (aq 1) (av (aq 0) aA))))) aA))))
theorem Yl(T:Tx w K mg):bO P w base 4 T.AV 2 tF :=
 bX ["thing","many"] λhN _ _ _ _ _ _ hr=>by
  show br _ _ BS;unfold BS;refine aO (bR (PW.pt (i7 (gK (gf (bH lA T.kc Ro (av (aq 0) (av (kR rfl T.j9 Rn) aA))))) (j3 (bF gU (bH dw T.cR P7 (av (aq 0) aA)) aM)))) (aI (bf gy)) cA) ?_;exact(aI (bf (lT (aU (Ep T) hr (av (bu bw (aq 0) aM) (av (aq 1) aA))) (lT (aU (Ep T) hr (av (bu bw (aq 0) aM) (av (aq 1) aA))) (nA (gx gU (bu bw (aq 0) aM) (bu bw (aq 0) aM)))))))
theorem Ys(T:Tx w K mg):bO P w base 5 T.A5 2 tL :=
 bX ["thing","many"] λhN _ _ _ _ _ _ hr=>by
  show br _ _ BZ;unfold BZ;exact(aI (bf (lT (bH lA T.kc Ro (av (aq 0) (av (kR rfl T.zF boot_list) aA))) (nA (bH uC T.qi SY (av (gc (N':=["pair","many"]) (pick:=[O,Y 1]) (jf (aq 0)) (λ_ _ _ _ _ _=>(aU (Yl T) hr (av (aq 0) (av (aq 1) aA))))) aA))))))
theorem Yh(T:Tx w K mg):o6 P w K mg base 1 o8 ["joined"] 2 (dH K (2+1) (lZ nZ)):=by
 with_unfolding_all refine Fj (k:=0) (ps:=["one","other"]) (ns:=["joined"]) (d:=nZ) (rF.of rfl rfl rfl (by decide +kernel)) (λq cl pm cdv ct us hl=>match us,hl with|[_,_],_=>rfl) λq f cd cl A outer s H hr=>?_
 show aP _ _ nZ;unfold nZ;exact(gx (YH (eY hr)) (gb (av (aq 0) (av (aq 1) aA))) (aq 2))
theorem Yg(T:Tx w K mg):o6 P w K mg base 1 IS ["web"] 2 (dH K (2+1) (lZ qt)):=by
 with_unfolding_all refine Fj (k:=0) (ps:=["one","other"]) (ns:=["web"]) (d:=qt) (rF.of rfl rfl rfl (by decide +kernel)) (λq cl pm cdv ct us hl=>match us,hl with|[_,_],_=>rfl) λq f cd cl A outer s H hr=>?_
 show aP _ _ qt;unfold qt;exact(gx (Ew (eY hr)) (aq 1) (bu bw (aq 2) (aq 0)))
theorem Ye(T:Tx w K mg):o6 P w K mg base 1 Cb ["web","some"] 2 (dH K (2+2) (lZ nY)):=by
 with_unfolding_all refine Fj (k:=0) (ps:=["one","other"]) (ns:=["web","some"]) (d:=nY) (rF.of rfl rfl rfl (by decide +kernel)) (λq cl pm cdv ct us hl=>match us,hl with|[_,_],_=>rfl) λq f cd cl A outer s H hr=>?_
 show aP _ _ nY;unfold nY;exact(gx gU (gx (j6 (eY hr)) (aq 1) (bu bw (aq 2) (aq 0))) (gx gU (gx (j6 (eY hr)) (aq 0) (aq 3)) (gx (j6 (eY hr)) (aq 1) (aq 3))))
theorem Yd(T:Tx w K mg) {A:ψ}(hr:b7 1 A):∀t∈lams,∃k,o6 P w K mg base k t.1 t.2.1 2 (dH K (2+t.2.1.length) t.2.2)/\b7 k A:=by
 intro t ht;unfold lams at ht;simp only[l8,R7,or_false]at ht
 rcases ht with rfl|rfl|rfl
 ·exact⟨_,Yh T,hr.mono (by decide)⟩
 ·exact⟨_,Yg T,hr.mono (by decide)⟩
 ·exact⟨_,Ye T,hr.mono (by decide)⟩
theorem XI(T:Tx w K mg):bO P w base 2 T.Aq 3 jD :=
 bX ["many","one","are_tied"] λhN _ _ _ _ _ _ hr=>by
  show br _ _ Bx;unfold Bx;exact(aI (bf (fR qW T.j9 Rn (av (j4 (N':=["other","one","are_tied"]) (pick:=[O,Y 1,Y 2]) (dz.of rfl rfl) (ez (av (aq 0) aA) T.cz) (λ_ _ _ _ _ _=>(e9 (i:=0) (hN:=(by decide +kernel:R3 (["other","one","are_tied"]:List Str))))) (λ_ _ _ _ _ _=>(jA (PW.pt (vH (bF gU (aq 0) (aq 1)) (vI (gf (WY 2 (Yd T (hr.mono (by decide))) (av (aq 1) (av (aq 0) aA))))))))) (λ_ _ _ _ _ _=>(aq 0))) aA))))
theorem Ek(T:Tx w K mg):bO P w base 3 T.qF 2 jd :=
 bX ["many","are_tied"] λhN _ _ _ _ _ _ hr=>by
  show br _ _ Br;unfold Br;exact(aI (bf (fR qW T.j9 Rn (av (gc (N':=["one","many","are_tied"]) (pick:=[O,Y 0,Y 1]) (ez (av (aq 0) aA) T.cz) (λ_ _ _ _ _ _=>(aU (XI T) hr (av (aq 1) (av (aq 0) (av (aq 2) aA)))))) aA))))
theorem Ds:eO ["many","pairs","joined","pair"] ["many","pairs"] (bP yV):=⟨rfl,rfl,rfl,by decide +kernel,rfl,by decide +kernel,by decide +kernel⟩
theorem XF(T:Tx w K mg):bO P w base 6 T.ue 2 vV :=
 Ge (k:=5) T.ue.d.fn T.ue.n Ds rfl rfl λcdv A outer s H E hcd hr=>by
  show br _ _ Bs;unfold Bs;refine aO (bR (gK (gf (aU (Ys T) hr (av (aq 1) (av (aq 0) aA))))) (aI gT) cA) ?_;refine aiL (LO (i:=2) Ds.nd rfl (by first|exact Or.inl rfl|exact Or.inr rfl) Wz) (LP PassesOwn.never rfl (LY (pv 1)) (L1 (i:=3) Ds.nd rfl (by first|exact Or.inl rfl|exact Or.inr rfl)) (vD (DW (Of (eY hr)) (pv 2) (pv 3) D9 rfl) (zd (DW (Of (eY hr)) (pv 2) (L3 (ic (zj Fv (pv 3) D6 (λ_ _=>rfl)) (ic (zj Fv (pv 3) D6 (λ_ _=>rfl)) iN (c9 rfl)) (c9 rfl))) D9 rfl)))) ?_
  exact(aI (bf (Eb (kk:=0) T.qF.d (Ek T) (hr.mono (by decide)) (aq 0) (gp.of (by kernel_rfl)) rfl (λ_=>rfl) (y:="web_of") (by decide +kernel) T.pL T.m9 (hcd _ _ T.pL) rfl T.rS)))
theorem Mq(T:Tx w K mg):bO P w base 1 T.Am 1 vW :=
 bX ["web","told","one","row"] λhN _ _ _ _ _ _ _=>by
  show br _ _ Bv;unfold Bv;refine aO (bE 1 (kT aA)) ?_;refine aO (fj (Oc (av (aq 0) aA) T.EO) (wU (n:=2) (lg (fq 2) (lg (fq 3) wR))) (aI (fQ (nC (aq 1) (j4 (N':=["other","one"]) (pick:=[O,Y 2]) (dz.of rfl rfl) (om (aq 3)) (λ_ _ _ _ _ _=>(e9 (i:=0) (hN:=(by decide +kernel:R3 (["other","one"]:List Str))))) (λ_ _ _ _ _ _=>(jA (bF qb (aq 1) (aq 0)))) (λ_ _ _ _ _ _=>(gb (av (aq 1) (av (aq 0) aA))))))))) ?_
  exact(aI (bf (aq 1)))
theorem El(T:Tx w K mg):bO P w base 4 T.An 3 nP :=
 bX ["web","one","other"] λhN _ _ _ _ _ _ hr=>by
  show br _ _ xH;unfold xH;exact(aI (bf (lT (aU (Ep T) hr (av (aq 1) (av (bH dw T.cR P7 (av (aq 0) aA)) aA))) (nA (gx (j6 (eY hr)) (aq 2) (bu bw (aq 0) (aq 1)))))))
theorem ajV:eO ["web"] ["web"] (bP yX):=⟨rfl,rfl,rfl,by decide +kernel,rfl,by decide +kernel,by decide +kernel⟩
theorem Eo(T:Tx w K mg):bO P w base 4 T.ug 1 nQ :=
 Ge (k:=3) T.ug.d.fn T.ug.n ajV rfl rfl λcdv A outer s H E hcd hr=>by
  show br _ _ BA;unfold BA;exact(aI (bf (Eb (kk:=1) T.qF.d (Ek T) (hr.mono (by decide)) (bH dw T.cR P7 (av (aq 0) aA)) (gp.of (by kernel_rfl)) rfl (λ_=>rfl) (y:="other_web") (by decide +kernel) T.pN T.m9 (hcd _ _ T.pN) rfl T.rU)))
theorem MA(T:Tx w K mg):bO P w base 1 T.A2 3 nT :=
 bX ["web","one","other"] λhN _ _ _ _ _ _ _=>by
  show br _ _ BY;unfold BY;exact(aI (bf (aj6 (av (bu bw (aq 0) (aq 1)) aA) (av (bu bw (aq 0) (aq 2)) aA) T.cR T.EN)))
theorem Yp(T:Tx w K mg):bO P w base 1 T.AZ 1 wA :=
 bX ["web","place","row"] λhN _ _ _ _ _ _ _=>by
  show br _ _ BV;unfold BV;refine aO (fj (Oc (av (aq 0) aA) T.EO) (wU (n:=2) (lg (fq 1) (lg (fq 2) wR))) (aI (bR (bF gU (bH dw T.cR P7 (av (aq 2) aA)) (bH dw T.cR P7 (av (bu bw (aq 0) aM) aA))) (aI (bf (aq 1))) cA))) ?_;exact(aI (bf nB))
theorem Em(T:Tx w K mg):bO P w base 2 T.Ao 2 kZ :=
 bX ["web","pairs"] λhN _ _ _ _ _ _ hr=>by
  show br _ _ Bw;unfold Bw;exact(aI (bf (sE (L8 (aq 1)) (aU (MA T) hr (av (aq 0) (av (bu bw (bu bw (aq 1) aM) aM) (av (bu bw (bu bw (aq 1) aM) aM) aA)))) nB)))
theorem Yq(T:Tx w K mg):bO P w base 3 T.A0 2 wB :=
 bX ["web","pairs","shared","pair"] λhN _ _ _ _ _ _ hr=>by
  show br _ _ BW;unfold BW;refine aO (bE 2 (aU (Em T) hr (av (aq 0) (av (aq 1) aA)))) ?_;refine aO (fj (jf (aq 1)) (fq 3) (aI (bR (bF gU (aU (MA T) hr (av (aq 0) (av (bu bw (aq 3) aM) (av (bu bw (aq 3) aM) aA)))) (aq 2)) (aI (bf (aq 3))) cA))) ?_;exact(aI (bf nB))
theorem Mz(T:Tx w K mg):bO P w base 5 T.A1 1 tH :=
 bX ["web","place","near","far","word","pairs","pair"] λhN _ _ _ _ _ _ hr=>by
  show br _ _ BX;unfold BX;refine aO (bE 1 (aU (Yp T) hr (av (aq 0) aA))) ?_;refine aO (bR (bF MK (aq 1) nB) (aI (bf (gb (av bW (av (aq 1) aA))))) cA) ?_;refine aO (bE 2 (aU (Mq T) hr (av (aq 0) aA))) ?_;refine aO (bE 3 (aU (Mq T) hr (av (aU (Eo T) hr (av (aq 0) aA)) aA))) ?_;refine aO (fj (om (gb (av (gb (av bW (av (aq 2) aA))) (av (gb (av bW (av (aq 3) aA))) aA)))) (wU (n:=2) (lg (fq 4) (lg (fq 5) wR))) (aO (bE 6 (aU (Yq T) hr (av (aq 0) (av (aq 5) aA)))) (aI (bR (bF MK (aq 6) nB) (aI (bf (gb (av (aq 4) (av (bu bw (aq 6) aM) (av (bu bw (aq 6) aM) aA)))))) cA)))) ?_;exact(aI (bf (gb (av bW (av (gb (av (bH dw T.cR P7 (av (aq 0) aA)) (av (bH dw T.cR P7 (av (bu bw (aq 0) aM) aA)) (av (aU (Em T) hr (av (aq 0) (av (aq 2) aA))) (av (aU (Em T) hr (av (aq 0) (av (aq 3) aA))) aA))))) aA)))))
theorem ajW:eO ["web","some"] ["web","some"] (bP yW):=⟨rfl,rfl,rfl,by decide +kernel,rfl,by decide +kernel,by decide +kernel⟩
theorem Mp(T:Tx w K mg):bO P w base 4 T.uf 2 sU :=
 Ge (k:=3) T.uf.d.fn T.uf.n ajW rfl rfl λcdv A outer s H E hcd hr=>by
  show br _ _ xG;unfold xG;refine aO (bR (gK (gf (aU (MB T) hr (av (aq 1) (av (bH dw T.cR P7 (av (aq 0) aA)) aA))))) (aI gT) cA) ?_;exact(aI (bf (Eb (kk:=2) T.qF.d (Ek T) (hr.mono (by decide)) (bH dw T.cR P7 (av (aq 0) aA)) (gp.of (by kernel_rfl)) rfl (λ_=>rfl) (y:="turned_at") (by decide +kernel) T.pM T.m9 (hcd _ _ T.pM) rfl T.rT)))
theorem Ym(T:Tx w K mg):bO P w base 5 T.AW 4 nS :=
 bX ["web","one","other","third","near"] λhN _ _ _ _ _ _ hr=>by
  show br _ _ xR;unfold xR;refine aO (bE 4 (jB (av (aU (El T) hr (av (aq 0) (av (aq 1) (av (aq 2) aA)))) (av (aU (El T) hr (av (aq 0) (av (aq 1) (av (aq 3) aA)))) (av (aU (El T) hr (av (aq 0) (av (aq 2) (av (aq 3) aA)))) aA))))) ?_;exact(aI (bf (gx fk (bz kU (WW (aq 4) gy) aM) aM)))
theorem Ms(T:Tx w K mg):bO P w base 6 T.Aw 1 zJ :=
 bX ["web","many","third","other"] λhN _ _ _ _ _ _ hr=>by
  show br _ _ xM;unfold xM;refine aO (bE 1 aM) ?_;refine aO (fj (ez (av (bH dw T.cR P7 (av (aq 0) aA)) aA) T.cz) (fq 2) (aI (fj (ez (av (aq 2) aA) T.cz) (fq 3) (aI (bE 1 (bz e8 (aq 1) (bH dw T.cR P7 (av (j4 (N':=["one","web","other","third"]) (pick:=[O,Y 0,Y 3,Y 2]) (dz.of rfl rfl) (ez (av (aq 3) aA) T.cz) (λ_ _ _ _ _ _=>(e9 (i:=0) (hN:=(by decide +kernel:R3 (["one","web","other","third"]:List Str))))) (λ_ _ _ _ _ _=>(jA (gf (aU (Ym T) hr (av (aq 1) (av (aq 0) (av (aq 2) (av (aq 3) aA)))))))) (λ_ _ _ _ _ _=>(aq 0))) aA)))))))) ?_
  exact(aI (bf (aq 1)))
theorem Yn(T:Tx w K mg):bO P w base 1 T.AX 1 tG :=
 bX ["thing"] λhN _ _ _ _ _ _ _=>by
  show br _ _ BU;unfold BU;refine aO (bR (PW.pt (i7 (gK (gf (bH lA T.kc Ro (av (aq 0) (av (kR rfl T.ie boot_str) aA))))) (j3 (gK (Mg sM sM aM (bH dw T.cR P7 (av (aq 0) aA)) (sG rfl T.OQ)))))) (aI (bf gy)) cA) ?_;exact(aI (bf (bH uC T.qi SY (av (gc (N':=["sign"]) (pick:=[O]) (aa1 (aq 0)) (λ_ _ _ _ _ _=>(gx YI (aq 0) (sF rfl T.ON)))) aA))))
theorem ajK:eO ["self"] ["self"] (bP DM):=⟨rfl,rfl,rfl,by decide +kernel,rfl,by decide +kernel,by decide +kernel⟩
theorem YB(T:Tx w K mg):cg P w K mg base bV 1 T.oE.a T.oE.fd ["self"] (Dm K) :=
 acH (k:=0) T.oE.fn ajK rfl rfl λcdv A outer s H E hr=>vD (DV (pv 0) akA rfl) (zd (DV (pv 0) (D5 iN) rfl))
theorem ajM:eO ["self","name","web"] ["self","name","web"] (bP DK):=⟨rfl,rfl,rfl,by decide +kernel,rfl,by decide +kernel,by decide +kernel⟩
theorem YA(T:Tx w K mg):cg P w K mg base bV 1 T.qN.a T.qN.fd ["self","name","web"] (dH K 3 Fb) :=
 jN (k:=0) T.qN.fn ajM rfl rfl λcdv A outer s H E hr=>by
  show br _ _ oW;unfold oW;exact(aI (bR (bF Ey (aq 2) nB) (aI gT) (aI (ain (eY hr) (p8 T.fC (aq 0)) (aq 1) (aq 2)))))
theorem ajL:eO ["self","name","web"] ["self","name","web"] (bP DL):=⟨rfl,rfl,rfl,by decide +kernel,rfl,by decide +kernel,by decide +kernel⟩
theorem Er(T:Tx w K mg):cg P w K mg base bV 2 T.mD.a T.mD.fd ["self","name","web"] (dH K 3 tN) :=
 jN (k:=1) T.mD.fn ajL rfl rfl λcdv A outer s H E hr=>by
  show br _ _ mL;unfold mL;refine aO (fQ (Mh (aj9 T.fC (aq 0)) (gb (av (aq 1) (av (aj4 (eY hr) (p8 T.fC (aq 0)) (aq 1)) aA))))) ?_;exact(aI (fQ (i8 T.fC T.qN (YA T) (hr.mono (by decide)) (aq 0) (av (aq 1) (av (aq 2) aA)))))
theorem ajP:eO ["self","name","web"] ["self","name","web"] (bP DH):=⟨rfl,rfl,rfl,by decide +kernel,rfl,by decide +kernel,by decide +kernel⟩
theorem Yx(T:Tx w K mg):cg P w K mg base bV 5 T.qK.a T.qK.fd ["self","name","web"] (dH K 3 E7) :=
 jN (k:=4) T.qK.fn ajP rfl rfl λcdv A outer s H E hr=>by
  show br _ _ mK;unfold mK;refine aO (bR (gK (gf (aU (Yn T) hr (av (aq 1) aA)))) (aI gT) cA) ?_;refine aO (bR (gK (gf (aU (Yk T) hr (av (aq 2) aA)))) (aI gT) cA) ?_;refine aO (bR (PW.pt (vH (bF (MI (eY hr)) (aq 1) (p8 T.fC (aq 0))) (vI (bF fk (bH adD T.cR P7 (av (p8 T.fC (aq 0)) aA)) (sG rfl T.OO))))) (aI gT) cA) ?_;exact(aI (fQ (i8 T.fC T.mD (Er T) (hr.mono (by decide)) (aq 0) (av (aq 1) (av (aq 2) aA)))))
theorem ajS:eO ["self","name"] ["self","name"] (bP DE):=⟨rfl,rfl,rfl,by decide +kernel,rfl,by decide +kernel,by decide +kernel⟩
theorem vK(T:Tx w K mg):cg P w K mg base bV 1 T.ku.a T.ku.fd ["self","name"] (dH K 2 ql) :=
 jN (k:=0) T.ku.fn ajS rfl rfl λcdv A outer s H E hr=>by
  show br _ _ oU;unfold oU;refine aO (bR (PW.pt (i7 (gK (gf (bH lA T.kc Ro (av (aq 1) (av (kR rfl T.ie boot_str) aA))))) (j3 (bF (MI (eY hr)) (aq 1) (p8 T.fC (aq 0)))))) (aI gT) cA) ?_;exact(aI (bf (aj5 (eY hr) (p8 T.fC (aq 0)) (aq 1))))
theorem ajQ:eO ["self","name","some"] ["self","name","some"] (bP DG):=⟨rfl,rfl,rfl,by decide +kernel,rfl,by decide +kernel,by decide +kernel⟩
theorem Yw(T:Tx w K mg):cg P w K mg base bV 5 T.qJ.a T.qJ.fd ["self","name","some"] (dH K 3 E6) :=
 jN (k:=4) T.qJ.fn ajQ rfl rfl λcdv A outer s H E hr=>by
  show br _ _ qY;unfold qY;exact(aI (fQ (i8 T.fC T.mD (Er T) (hr.mono (by decide)) (aq 0) (av (aq 1) (av (aU (Mp T) hr (av (i8 T.fC T.ku (vK T) (hr.mono (by decide)) (aq 0) (av (aq 1) aA)) (av (aq 2) aA))) aA)))))
theorem ajR:eO ["self","name"] ["self","name"] (bP DF):=⟨rfl,rfl,rfl,by decide +kernel,rfl,by decide +kernel,by decide +kernel⟩
theorem Yv(T:Tx w K mg):cg P w K mg base bV 5 T.qI.a T.qI.fd ["self","name"] (dH K 2 E5) :=
 jN (k:=4) T.qI.fn ajR rfl rfl λcdv A outer s H E hr=>by
  show br _ _ qX;unfold qX;exact(aI (fQ (i8 T.fC T.mD (Er T) (hr.mono (by decide)) (aq 0) (av (aq 1) (av (aU (Eo T) hr (av (i8 T.fC T.ku (vK T) (hr.mono (by decide)) (aq 0) (av (aq 1) aA)) aA)) aA)))))
theorem ajN:eO ["self"] ["self"] (bP DJ):=⟨rfl,rfl,rfl,by decide +kernel,rfl,by decide +kernel,by decide +kernel⟩
theorem Yz(T:Tx w K mg):cg P w K mg base bV 1 T.qM.a T.qM.fd ["self"] (dH K 1 E9) :=
 jN (k:=0) T.qM.fn ajN rfl rfl λcdv A outer s H E hr=>by
  show br _ _ oV;unfold oV;exact(aI (bf (bH adA T.EM (by decide +kernel) (av (p8 T.fC (aq 0)) aA))))
theorem ajO:eO ["self","name"] ["self","name"] (bP DI):=⟨rfl,rfl,rfl,by decide +kernel,rfl,by decide +kernel,by decide +kernel⟩
theorem Yy(T:Tx w K mg):cg P w K mg base bV 6 T.qL.a T.qL.fd ["self","name"] (dH K 2 E8) :=
 jN (k:=5) T.qL.fn ajO rfl rfl λcdv A outer s H E hr=>by
  show br _ _ qZ;unfold qZ;exact(aI (bf (aU (Mz T) hr (av (i8 T.fC T.ku (vK T) (hr.mono (by decide)) (aq 0) (av (aq 1) aA)) aA))))
theorem Yc(T:Tx w K mg):bO P w base 1 T.AN 3 wo :=
 bX ["web","place","some"] λhN _ _ _ _ _ _ hr=>by
  show br _ _ BQ;unfold BQ;exact(aI (bf (j4 (N':=["other","place","web"]) (pick:=[O,Y 1,Y 0]) (dz.of rfl rfl) (jf (aq 2)) (λ_ _ _ _ _ _=>(e9 (i:=0) (hN:=(by decide +kernel:R3 (["other","place","web"]:List Str))))) (λ_ _ _ _ _ _=>(jA (PW.pt (vH (bF zw (aq 0) (aq 1)) (vI (bF (j6 (eY hr)) (aq 0) (bu bw (aq 2) (aq 1)))))))) (λ_ _ _ _ _ _=>(aq 0)))))
theorem Mu(T:Tx w K mg):bO P w base 2 T.Ay 2 nR :=
 bX ["web","size","ways_on","step","longer","some"] λhN _ _ _ _ _ _ hr=>by
  show br _ _ xN;unfold xN;refine aO (bE 2 (jB (av (aj7 (av (bH dw T.cR P7 (av (aq 0) aA)) aA) T.zF T.cz) aA))) ?_;refine aO (fj (ez (av (bz nG (aq 1) aM) aA) T.cz) (fq 3) (aO (bE 4 (kT aA)) (aO (fj (jf (aq 2)) (fq 5) (aI (fQ (nC (aq 4) (gc (N':=["place","web","some"]) (pick:=[O,Y 0,Y 5]) (jf (aq 5)) (λ_ _ _ _ _ _=>(aU (Yc T) hr (av (aq 1) (av (aq 0) (av (aq 2) aA)))))))))) (aI (bE 2 (aq 4)))))) ?_
  exact(aI (bf (bH ady T.Nh boot_sum (av (gc (N':=["some"]) (pick:=[O]) (jf (aq 2)) (λ_ _ _ _ _ _=>(bH dw T.cR P7 (av (aq 0) aA)))) aA))))
theorem XE(T:Tx w K mg):bO P w base 1 T.Aj 2 qj :=
 bX ["web","place"] λhN _ _ _ _ _ _ hr=>by
  show br _ _ GZ;unfold GZ;exact(aI (bf (sD bW (gc (N':=["below","web","place"]) (pick:=[O,Y 0,Y 1]) (ez (av (aq 1) aA) T.cz) (λ_ _ _ _ _ _=>(sE (bF (j6 (eY hr)) (aq 0) (bu bw (aq 1) (aq 2))) (sF rfl T.Ad) (sF rfl T.Ga)))))))
theorem Ej(T:Tx w K mg):bO P w base 2 T.Ah 1 sS :=
 bX ["web","words"] λhN _ _ _ _ _ _ hr=>by
  show br _ _ xF;unfold xF;refine aO (lQ (i:=1) (hN:=hN) (N':=["place","web"]) (pick:=[O,Y 0]) (dz.of rfl rfl) (jH (av aM (av (bH dw T.cR P7 (av (aq 0) aA)) aA)) T.cz) (λ_ _ _ _ _ _=>(e9 (i:=0) (hN:=(by decide +kernel:R3 (["place","web"]:List Str))))) (λ_ _ _ _ _ _=>ny) (λ_ _ _ _ _ _=>(aU (XE T) hr (av (aq 1) (av (aq 0) aA))))) ?_
  exact(aI (bf (sD bW (bz MM (jB (av (fR kH T.ie kK (av (bH dw T.cR P7 (av (aq 0) aA)) aA)) aA)) (aq 1)))))
theorem Yi(T:Tx w K mg):bO P w base 1 T.AO 2 wu :=
 bX ["word","place"] λhN _ _ _ _ _ _ _=>by
  show br _ _ G3;unfold G3;exact(aI (bf (lT (gx fk (bH dw T.cR P7 (av (aq 0) aA)) (aq 1)) (nA (gx fk (bz e8 (Mf (aq 0) (sF rfl T.Ad)) (Mf (aq 0) (sF rfl T.Ga))) (aq 1))))))
theorem Yr(T:Tx w K mg):bO P w base 2 T.A3 1 tK :=
 bX ["words","many"] λhN _ _ _ _ _ _ hr=>by
  show br _ _ xS;unfold xS;refine aO (bE 1 (bH dw T.cR P7 (av (aq 0) aA))) ?_;refine aO (bR (PW.pt (i7 (bF zw (aq 1) (sG rfl T.F8)) (j3 (bF gU (bu bw (aq 0) aM) (fR kH T.ie kK (av (aq 1) aA)))))) (aI (bf gy)) cA) ?_;exact(aI (bf (bH uC T.qi SY (av (gc (N':=["place","words"]) (pick:=[O,Y 0]) (jH (av aM (av (aq 1) aA)) T.cz) (λ_ _ _ _ _ _=>(aU (Yi T) hr (av (bu bw (aq 1) (aq 0)) (av (aq 0) aA))))) aA))))
theorem XO(T:Tx w K mg):bO P w base 1 T.Av 1 vY :=
 bX ["words","pairs","place"] λhN _ _ _ _ _ _ _=>by
  show br _ _ uF;unfold uF;refine aO (bE 1 (kT aA)) ?_;refine aO (fj (jH (av aM (av (bH dw T.cR P7 (av (aq 0) aA)) aA)) T.cz) (fq 2) (aI (fQ (nC (aq 1) (j4 (N':=["below","place","words"]) (pick:=[O,Y 2,Y 0]) (dz.of rfl rfl) (ez (av (aq 2) aA) T.cz) (λ_ _ _ _ _ _=>(e9 (i:=0) (hN:=(by decide +kernel:R3 (["below","place","words"]:List Str))))) (λ_ _ _ _ _ _=>(jA (bF fk (bu aa0 (bu bw (aq 2) (aq 1)) (aq 0)) (sF rfl T.Ad)))) (λ_ _ _ _ _ _=>(gb (av (aq 0) (av (aq 1) aA))))))))) ?_
  exact(aI (bf (aq 1)))
theorem Mr(T:Tx w K mg):bO P w base 7 T.As 1 vX :=
 bX ["text","words"] λhN _ _ _ _ _ _ hr=>by
  show br _ _ xJ;unfold xJ;refine aO (bR (gK (gf (bH lA T.kc Ro (av (aq 0) (av (kR rfl T.ie boot_str) aA))))) (aI gT) cA) ?_;refine aO (bE 1 (Ma (aq 0) bW)) ?_;refine aO (bR (gK (gf (aU (Yr T) hr (av (aq 1) aA)))) (aI gT) cA) ?_;exact(aI (bf (aU (XF T) hr (av (bH dw T.cR P7 (av (aq 1) aA)) (av (aU (XO T) hr (av (aq 1) aA)) aA)))))
theorem XD(T:Tx w K mg):bO P w base 1 T.Ai 1 vU :=
 bX ["row","words","many"] λhN _ _ _ _ _ _ hr=>by
  show br _ _ Bq;unfold Bq;refine aO (bR (gK (gf (bH lA T.kc Ro (av (aq 0) (av (kR rfl T.ie boot_str) aA))))) (aI gT) cA) ?_;refine aO (bE 1 (Ma (aq 0) bW)) ?_;refine aO (bR (PW.pt (i7 (bF (j6 (eY hr)) bW (aq 1)) (j3 (bF (YG T.vN T.C9) (bu bw (aq 1) aM) (Ea T.F9 T.vN))))) (aI gT) cA) ?_;refine aO (bE 2 (WV T.F9 T.C9 (bu bw (aq 1) aM))) ?_;refine aO (bR (PW.pt (i7 (bF qb (bH dw T.cR P7 (av (aq 1) aA)) (aq 2)) (j3 (PW.pt (vH (bF zw (bH dw T.cR P7 (av (aq 1) aA)) (aq 2)) (vI (bF (ML (eY hr) T.vO T.LL).2 (bu bw (aq 1) aM) (Ea T.OP T.vO)))))))) (aI gT) cA) ?_;exact(aI (bf (aq 1)))
theorem XG(T:Tx w K mg):bO P w base 8 T.Ak 1 EX :=
 bX ["words"] λhN _ _ _ _ _ _ hr=>by
  show br _ _ G0;unfold G0;exact(aI (aio (aI (bf (aU (Mr T) hr (av (sD bW (aq 0)) aA))))))
theorem Mt(T:Tx w K mg):bO P w base 1 T.Ax 3 vZ :=
 bX ["word","least","most"] λhN _ _ _ _ _ _ hr=>by
  show br _ _ BB;unfold BB;refine aO (bR (bF (Ew (eY hr)) (aq 0) (gc (N':=["number"]) (pick:=[O]) (jH (av (aq 1) (av (bz e8 (aq 2) aM) aA)) T.cz) (λ_ _ _ _ _ _=>(fR kH T.ie kK (av (aq 0) aA))))) (aI gT) cA) ?_
  exact(aI (bf (fR adE T.zG boot_int (av (aq 0) aA))))
theorem XM(T:Tx w K mg):bO P w base 2 T.Au 1 sW :=
 bX ["word"] λhN _ _ _ _ _ _ hr=>by
  show br _ _ G1;unfold G1;exact(aI (bf (aU (Mt T) hr (av (aq 0) (av aM (av (sG rfl T.OR) aA))))))
theorem XJ(T:Tx w K mg):bO P w base 3 T.Ar 1 EY :=
 bX ["words","places"] λhN _ _ _ _ _ _ hr=>by
  show br _ _ By;unfold By;refine aO (lQ (i:=1) (hN:=hN) (N':=["word"]) (pick:=[O]) (dz.of rfl rfl) (jf (aq 0)) (λ_ _ _ _ _ _=>(e9 (i:=0) (hN:=(by decide +kernel:R3 (["word"]:List Str))))) (λ_ _ _ _ _ _=>ny) (λ_ _ _ _ _ _=>(aU (XM T) hr (av (aq 0) aA)))) ?_
  refine aO (bR (bF (MJ (eY hr)) (aq 1) (ak0 (av (aq 1) aA) T.EM T.EN)) (aI gT) cA) ?_;exact(aI (bf (fR qW T.j9 Rn (av (aq 1) aA))))
theorem XH(T:Tx w K mg):bO P w base 1 T.Al 1 sV :=
 bX ["told","parts"] λhN _ _ _ _ _ _ _=>by
  show br _ _ Bu;unfold Bu;refine aO (bE 1 (sE (bF fk (bu bw (aq 0) aM) bW) (bu bw (aq 0) aM) (Mb (aq 0) (ze aM) zf))) ?_;exact(aI (bf (sD bW (bz MM (jB (av (bu bw (aq 0) aM) aA)) (gc (N':=["part"]) (pick:=[O]) (om (aq 1)) (λ_ _ _ _ _ _=>(sE (bF Ey (aq 0) nB) bW (fR kH T.ie kK (av (aq 0) aA)))))))))
theorem ajT:eO ["self"] ["self"] (bP DC):=⟨rfl,rfl,rfl,by decide +kernel,rfl,by decide +kernel,by decide +kernel⟩
theorem MC(T:Tx w K mg):cg P w K mg base bV 3 T.mC.a T.mC.fd ["self"] (Dl K) :=
 acG (k:=2) T.mC.fn ajT rfl rfl λcdv A outer s H E hr=>zd (DV (pv 0) (WZ T.fC T.nN (YB T) (hr.mono (by decide)) T.gB T.oE.bd) rfl)
theorem ajU:eO ["self","words"] ["self","words"] (bP DA):=⟨rfl,rfl,rfl,by decide +kernel,rfl,by decide +kernel,by decide +kernel⟩
theorem Yt(T:Tx w K mg):cg P w K mg base bV 9 T.qG.a T.qG.fd ["self","words"] (dH K 2 tM) :=
 jN (k:=8) T.qG.fn ajU rfl rfl λcdv A outer s H E hr=>by
  show br _ _ lD;unfold lD;exact(aI (bR (bF fk (bu bw (aq 1) aM) bW) (aI (fQ (i8 T.fC T.qK (Yx T) (hr.mono (by decide)) (p9 T.fu (aq 0)) (av (bu bw (aq 1) aM) (av (aU (XG T) hr (av (Mc (aq 1) (ze aM) zf) aA)) aA))))) (aI (bR (bF fk (bu bw (aq 1) aM) bW) (aI gT) (aI (bR (bF fk (bu bw (aq 1) aM) bW) (aI (fQ (i8 T.fC T.qJ (Yw T) (hr.mono (by decide)) (p9 T.fu (aq 0)) (av (bu bw (aq 1) aM) (av (aU (XJ T) hr (av (Mc (aq 1) (ze aM) zf) aA)) aA))))) (aI (bR (bF fk (bu bw (aq 1) aM) bW) (aI (fQ (i8 T.fC T.qI (Yv T) (hr.mono (by decide)) (p9 T.fu (aq 0)) (av (bu bw (aq 1) aM) aA)))) (aI (bR (bF fk (bu bw (aq 1) aM) bW) (aI gT) (aI gT)))))))))))
theorem yU:eO ["self","words","names","size","web"] ["self","words"] (bP DB):=⟨rfl,rfl,rfl,by decide +kernel,rfl,by decide +kernel,by decide +kernel⟩
theorem Yu(T:Tx w K mg):cg P w K mg base bV 7 T.qH.a T.qH.fd ["self","words"] (dH K 2 nU) :=
 jN (k:=6) T.qH.fn yU rfl rfl λcdv A outer s H E hr=>by
  show br _ _ jR;unfold jR;refine aO (bR (bF fk (bu bw (aq 1) aM) bW) (aO (r8 (i:=2) (aj8 T.fC T.qM (Yz T) (hr.mono (by decide)) (p9 T.fu (aq 0))) (hN:=yU.nd)) (aI (bf (sE (L8 (aq 2)) (sD bW (aq 2)) bW)))) cA) ?_
  refine aO (bR (bF fk (bu bw (aq 1) aM) bW) (aI (bf (aU (XH T) hr (av (i8 T.fC T.qL (Yy T) (hr.mono (by decide)) (p9 T.fu (aq 0)) (av (bu bw (aq 1) aM) aA)) aA)))) cA) ?_
  refine aO (bR (bF fk (bu bw (aq 1) aM) bW) (aO (r8 (i:=3) (aU (Mt T) hr (av (bu bw (aq 1) aM) (av aM (av (sG rfl T.OS) aA)))) (hN:=yU.nd)) (aI (bf (fR kH T.ie kK (av (aU (Mu T) hr (av (i8 T.fC T.ku (vK T) (hr.mono (by decide)) (p9 T.fu (aq 0)) (av (bu bw (aq 1) aM) aA)) (av (aq 3) aA))) aA))))) cA) ?_
  refine aO (r8 (i:=4) (i8 T.fC T.ku (vK T) (hr.mono (by decide)) (p9 T.fu (aq 0)) (av (bu bw (aq 1) aM) aA)) (hN:=yU.nd)) ?_
  exact(aI (bf (sE (bF fk (bu bw (aq 1) aM) bW) (aU (Ej T) hr (av (aq 4) aA)) (fR kH T.ie kK (av (aU (Ms T) hr (av (aq 4) aA)) aA)))))
theorem Kw:eO ["self","row","words"] ["self","row"] (bP Dz):=⟨rfl,rfl,rfl,by decide +kernel,rfl,by decide +kernel,by decide +kernel⟩
theorem i9(T:Tx w K mg):cg P w K mg base bV 10 T.gH.a T.gH.fd ["self","row"] (dH K 2 cU) :=
 jN (k:=9) T.gH.fn Kw rfl rfl λcdv A outer s H E hr=>by
  show br _ _ lC;unfold lC;refine aO (r8 (i:=2) (aU (XD T) hr (av (aq 1) aA)) (hN:=Kw.nd)) ?_;refine aO (bR (bF (ML (eY hr) T.vP T.LM).1 (bu bw (aq 2) aM) (Ea T.OT T.vP)) (aI (bf (iD T.fu T.qH (Yu T) (hr.mono (by decide)) (aq 0) (av (aq 2) aA)))) cA) ?_
  refine aO (fQ (iD T.fu T.qG (Yt T) (hr.mono (by decide)) (aq 0) (av (aq 2) aA))) ?_
  exact(aI (bf bW))
theorem X0(T:Tx w K mg):bO P w base 1 T.AK 2 tu :=
 bX ["script","k"] λhN _ _ _ _ _ _ _=>by
  show br _ _ xP;unfold xP;refine aO (bR (bF qb (aq 1) (bH dw T.cR P7 (av (aq 0) aA))) (aI (bf (bu bw (aq 0) (aq 1)))) cA) ?_;exact(aI (bf aM))
theorem XU(T:Tx w K mg):bO P w base 1 T.AF 1 sY :=
 bX ["cell","number","j","more"] λhN _ _ _ _ _ _ _=>by
  show br _ _ xO;unfold xO;refine aO (bR (bF YJ (aq 0) (bz MH aM aM)) (aI (bf (kT (av (bz nG (aq 0) (bz MH aM aM)) aA)))) cA) ?_;refine aO (bE 1 aM) ?_;refine aO (fj (ez (av aM aA) T.cz) (fq 2) (aO (bE 3 (bz kU (bz qa (bz e8 (bz e8 (bz kU (aq 0) aM) (bz qa aM (aq 2))) aM) aM) aM)) (aO (bE 3 (bz kU (bz e8 (bz e8 (bz qa (aq 3) (aq 3)) (bz qa aM (aq 2))) aM) aM)) (aI (bE 1 (bz e8 (bz qa (aq 1) aM) (aq 3))))))) ?_;exact(aI (bf (kT (av (aq 1) aA))))
theorem gM(T:Tx w K mg):bO P w base 1 T.AA 2 d8 :=
 bX ["pot","far","found"] λhN _ _ _ _ _ _ _=>by
  show br _ _ BE;unfold BE;refine aO (bE 2 (bz kU (bu bw (aq 0) aM) (aq 1))) ?_;refine aO (r9 (bz vL (bu bw (aq 0) aM) (aq 1)) (ua (aq 0) aM)) ?_;exact(aI (bf (aq 2)))
theorem XX(T:Tx w K mg):bO P w base 2 T.AH 2 sZ :=
 bX ["pot","wide","found","k"] λhN _ _ _ _ _ _ hr=>by
  show br _ _ BJ;unfold BJ;refine aO (bE 2 (kT aA)) ?_;refine aO (fj (ez (av (aq 1) aA) T.cz) (fq 3) (aI (fQ (aj3 (aq 2) (aU (gM T) hr (av (aq 0) (av (bz e8 (aq 3) aM) aA))) (aq 3))))) ?_;exact(aI (bf (fR qW T.j9 Rn (av (aq 2) aA))))
theorem yT:eO ["many","wanted","found","one","other"] ["many","wanted"] (bP Dy):=⟨rfl,rfl,rfl,by decide +kernel,rfl,by decide +kernel,by decide +kernel⟩
theorem Mx(T:Tx w K mg):bO P w base 1 T.wZ 2 wk :=
 Gf (k:=0) T.wZ.d.fn yT rfl rfl λcdv A outer s H E hr=>by
  show br _ _ G2;unfold G2;refine aO (lQ (i:=2) (hN:=yT.nd) (N':=["place","many"]) (pick:=[O,Y 0]) (dz.of rfl rfl) (ez (av (aq 0) aA) T.cz) (λ_ _ _ _ _ _=>(e9 (i:=0) (hN:=(by decide +kernel:R3 (["place","many"]:List Str))))) (λ_ _ _ _ _ _=>ny) (λ_ _ _ _ _ _=>(bz MG (jB (av gy aA)) (aq 1)))) ?_
  refine aO (fj (jf (aq 1)) (wU (n:=2) (lg (e9 (i:=3) (hN:=yT.nd)) (lg (e9 (i:=4) (hN:=yT.nd)) wR))) (aO (r9 gy (ua (bu bw (aq 2) (aq 3)) (aq 4))) (aI (r9 gy (ua (bu bw (aq 2) (aq 4)) (aq 3)))))) ?_;exact(aI (bf (aq 2)))
theorem XS(T:Tx w K mg):bO P w base 2 T.AD 2 zK :=
 bX ["pot","most","many","dense","wanted","one"] λhN _ _ _ _ _ _ hr=>by
  show br _ _ BG;unfold BG;refine aO (bE 2 (bz e8 aM (aU (gM T) hr (av (aq 0) (av (aq 1) aA))))) ?_;refine aO (bE 3 (bz e8 aM (aU (gM T) hr (av (aq 0) (av aM aA))))) ?_;refine aO (bE 4 (kT aA)) ?_;refine aO (fj (ez (av (aq 2) aA) T.cz) (fq 5) (aI (fQ (nC (aq 4) (j4 (N':=["other","one","dense","pot"]) (pick:=[O,Y 5,Y 3,Y 0]) (dz.of rfl rfl) (jH (av (bz e8 (aq 5) aM) (av (aq 2) aA)) T.cz) (λ_ _ _ _ _ _=>(e9 (i:=0) (hN:=(by decide +kernel:R3 (["other","one","dense","pot"]:List Str))))) (λ_ _ _ _ _ _=>(jA (bF qb (aU (gM T) hr (av (aq 3) (av aM aA))) (aq 2)))) (λ_ _ _ _ _ _=>(gb (av (aq 1) (av (aq 0) aA))))))))) ?_
  exact(aI (bf (aU (Mx T) hr (av (aq 2) (av (aq 4) aA)))))
theorem Mw(T:Tx w K mg):bO P w base 1 T.AJ 2 wj :=
 bX ["many","marks","found","one","other"] λhN _ _ _ _ _ _ hr=>by
  show br _ _ BL;unfold BL;refine aO (bE 2 (kT aA)) ?_;refine aO (fj (ez (av (aq 0) aA) T.cz) (fq 3) (aI (fj (jH (av (bz e8 (aq 3) aM) (av (aq 0) aA)) T.cz) (fq 4) (aI (bR (gf (bH adG T.Nk boot_any (av (gc (N':=["mark","marks","other"]) (pick:=[O,Y 1,Y 4]) (jf (bu bw (aq 1) (aq 3))) (λ_ _ _ _ _ _=>(gx (j6 (eY hr)) (aq 0) (bu bw (aq 1) (aq 2))))) aA))) (aI (fQ (Mh (aq 2) (gb (av (aq 3) (av (aq 4) aA)))))) cA))))) ?_
  exact(aI (bf (aq 2)))
theorem XW(T:Tx w K mg):bO P w base 2 T.AG 2 zL :=
 bX ["pot","most","way","many","wanted","steps","step","things","marks","one","high","wide","squares"] λhN _ _ _ _ _ _ hr=>by
  show br _ _ BI;unfold BI;refine aO (bE 2 (aU (gM T) hr (av (aq 0) (av aM aA)))) ?_;refine aO (bE 3 (bz e8 aM (aU (gM T) hr (av (aq 0) (av (aq 1) aA))))) ?_;refine aO (bE 4 (kT aA)) ?_;refine aO (bR (bF fk (aq 2) aM) (aO (lQ (i:=5) (hN:=hN) (N':=["step","pot"]) (pick:=[O,Y 0]) (dz.of rfl rfl) (jH (av aM (av (bz e8 (bz vL (aq 3) aM) aM) aA)) T.cz) (λ_ _ _ _ _ _=>(e9 (i:=0) (hN:=(by decide +kernel:R3 (["step","pot"]:List Str))))) (λ_ _ _ _ _ _=>(jA (bF fk (aU (gM T) hr (av (aq 1) (av aM aA))) aM))) (λ_ _ _ _ _ _=>(aq 0))) (aI (fj (jf (aq 5)) (fq 6) (aI (fQ (nC (aq 4) (gc (N':=["k","many","step"]) (pick:=[O,Y 3,Y 6]) (ez (av (aq 3) aA) T.cz) (λ_ _ _ _ _ _=>(gb (av (aq 0) (av (bz kU (bz e8 (aq 0) (aq 2)) (aq 1)) aA))))))))))) (aI (bR (bF fk (aq 2) aM) (aO (bE 7 (bu bw (jB (av aM (av aM (av aM (av aM aA))))) (aU (gM T) hr (av (aq 0) (av aM aA))))) (aO (bE 8 (kT aA)) (aO (fj (ez (av (aq 7) aA) T.cz) (fq 9) (aI (fQ (nC (aq 8) (gc (N':=["other","one"]) (pick:=[O,Y 9]) (jH (av (bz e8 (aq 9) aM) (av (aq 7) aA)) T.cz) (λ_ _ _ _ _ _=>(jB (av (aq 1) (av (aq 0) aA))))))))) (aO (bE 3 (bH uB T.qh SX (av (bH dw T.cR P7 (av (aq 8) aA)) (av (aq 1) aA)))) (aI (bE 4 (aU (Mw T) hr (av (aq 3) (av (aq 8) aA))))))))) (aI (bR (bF qb (aq 2) aM) (aO (bE 10 (bz e8 aM (aU (gM T) hr (av (aq 0) (av (bH uB T.qh SX (av aM (av (aq 1) aA))) aA))))) (aO (bE 11 (bz e8 aM (aU (gM T) hr (av (aq 0) (av (bH uB T.qh SX (av aM (av (bz vL (aq 1) (aq 10)) aA))) aA))))) (aO (bE 3 (bz qa (aq 10) (aq 11))) (aO (lQ (i:=8) (hN:=hN) (N':=["k","wide"]) (pick:=[O,Y 11]) (dz.of rfl rfl) (ez (av (aq 3) aA) T.cz) (λ_ _ _ _ _ _=>(e9 (i:=0) (hN:=(by decide +kernel:R3 (["k","wide"]:List Str))))) (λ_ _ _ _ _ _=>ny) (λ_ _ _ _ _ _=>(jB (av (bz vL (aq 0) (aq 1)) aA)))) (aO (bR (bF fk (aq 2) aM) (aI (lQ (i:=8) (hN:=hN) (N':=["k","wide"]) (pick:=[O,Y 11]) (dz.of rfl rfl) (ez (av (aq 3) aA) T.cz) (λ_ _ _ _ _ _=>(e9 (i:=0) (hN:=(by decide +kernel:R3 (["k","wide"]:List Str))))) (λ_ _ _ _ _ _=>ny) (λ_ _ _ _ _ _=>(jB (av (bz vL (aq 0) (aq 1)) (av (bz e8 aM (bz kU (aq 0) (aq 1))) aA)))))) cA) (aI (bE 4 (aU (Mw T) hr (av (aq 3) (av (aq 8) aA)))))))))) (aI (bR (bF fk (aq 2) aM) (aO (bE 3 (bH uB T.qh SX (av (aq 1) (av (bu bw (jB (av aM (av aM aA))) (aU (gM T) hr (av (aq 0) (av aM aA)))) aA)))) (aO (bE 12 (gc (N':=["k","many"]) (pick:=[O,Y 3]) (jH (av aM (av (aq 3) aA)) T.cz) (λ_ _ _ _ _ _=>(bz kU (bz qa (aq 0) (aq 0)) (aq 1))))) (aI (fj (ez (av (aq 3) aA) T.cz) (fq 9) (aI (fQ (nC (aq 4) (j4 (N':=["other","one","squares","many"]) (pick:=[O,Y 9,Y 12,Y 3]) (dz.of rfl rfl) (jH (av (bz e8 (aq 9) aM) (av (aq 3) aA)) T.cz) (λ_ _ _ _ _ _=>(e9 (i:=0) (hN:=(by decide +kernel:R3 (["other","one","squares","many"]:List Str))))) (λ_ _ _ _ _ _=>(jA (bF (j6 (eY hr)) (bz kU (bz nG (aq 0) (aq 1)) (aq 3)) (aq 2)))) (λ_ _ _ _ _ _=>(gb (av (aq 1) (av (aq 0) aA)))))))))))) (aO (bE 3 (bH uB T.qh SX (av aM (av (aq 1) aA)))) (aO (fj (ez (av (aq 3) aA) T.cz) (fq 9) (aI (fQ (nC (aq 4) (j4 (N':=["other","one"]) (pick:=[O,Y 9]) (dz.of rfl rfl) (jH (av (bz e8 (aq 9) aM) (av (aq 3) aA)) T.cz) (λ_ _ _ _ _ _=>(e9 (i:=0) (hN:=(by decide +kernel:R3 (["other","one"]:List Str))))) (λ_ _ _ _ _ _=>(jA (bF (j6 (eY hr)) (bz nG (aq 0) (aq 1)) (gb (av aM (av aM (av aM aA))))))) (λ_ _ _ _ _ _=>(gb (av (aq 1) (av (aq 0) aA))))))))) (aI (lQ (i:=4) (hN:=hN) (N':=["one","other"]) (pick:=[O,O]) (dz.of rfl rfl) (jf (aq 4)) (λ_ _ _ _ _ _=>(wU (n:=2) (lg (e9 (i:=0) (hN:=(by decide +kernel:R3 (["one","other"]:List Str)))) (lg (e9 (i:=1) (hN:=(by decide +kernel:R3 (["one","other"]:List Str)))) wR)))) (λ_ _ _ _ _ _=>(jA (bF fk (bz YL (aq 0) (aq 1)) (aq 0)))) (λ_ _ _ _ _ _=>(gb (av (aq 0) (av (aq 1) aA))))))))))))))) ?_
  exact(aI (bf (aU (Mx T) hr (av (aq 3) (av (aq 4) aA)))))
theorem vq:eO ["table","order","many","found","one","other"] ["table","order"] (bP Dw):=⟨rfl,rfl,rfl,by decide +kernel,rfl,by decide +kernel,by decide +kernel⟩
theorem XZ(T:Tx w K mg):bO P w base 1 T.wY 2 zN :=
 Gf (k:=0) T.wY.d.fn vq rfl rfl λcdv A outer s H E hr=>by
  show br _ _ BN;unfold BN;refine aO (r8 (i:=2) (bH dw T.cR P7 (av (aq 0) aA)) (hN:=vq.nd)) ?_;refine aO (lQ (i:=3) (hN:=vq.nd) (N':=["place","many"]) (pick:=[O,Y 2]) (dz.of rfl rfl) (ez (av (aq 2) aA) T.cz) (λ_ _ _ _ _ _=>(e9 (i:=0) (hN:=(by decide +kernel:R3 (["place","many"]:List Str))))) (λ_ _ _ _ _ _=>ny) (λ_ _ _ _ _ _=>(bz MG (jB (av gy aA)) (aq 1)))) ?_
  refine aO (fj (ez (av (aq 2) aA) T.cz) (e9 (i:=4) (hN:=vq.nd)) (aI (fj (ez (av (aq 2) aA) T.cz) (e9 (i:=5) (hN:=vq.nd)) (aI (r9 (bu bw (bu bw (aq 0) (aq 4)) (aq 5)) (ua (bu bw (aq 3) (bu bw (aq 1) (aq 4))) (bu bw (aq 1) (aq 5)))))))) ?_;exact(aI (bf (aq 3)))
theorem Kv:eO ["table","one","other","found"] ["table","one","other"] (bP Dv):=⟨rfl,rfl,rfl,by decide +kernel,rfl,by decide +kernel,by decide +kernel⟩
theorem XQ(T:Tx w K mg):bO P w base 1 T.wX 3 wc :=
 Gf (k:=0) T.wX.d.fn Kv rfl rfl λcdv A outer s H E hr=>by
  show br _ _ BC;unfold BC;refine aO (lQ (i:=3) (hN:=Kv.nd) (N':=["row"]) (pick:=[O]) (dz.of rfl rfl) (jf (aq 0)) (λ_ _ _ _ _ _=>(e9 (i:=0) (hN:=(by decide +kernel:R3 (["row"]:List Str))))) (λ_ _ _ _ _ _=>ny) (λ_ _ _ _ _ _=>(fR adC T.zF boot_list (av (aq 0) aA)))) ?_
  refine aO (r9 (zl (bu bw (bu bw (aq 3) (aq 1)) (aq 2))) (ua (bu bw (aq 3) (aq 1)) (aq 2))) ?_;refine aO (r9 (zl (bu bw (bu bw (aq 3) (aq 2)) (aq 1))) (ua (bu bw (aq 3) (aq 2)) (aq 1))) ?_;exact(aI (bf (aq 3)))
theorem X8(T:Tx w K mg):bO P w base 1 T.AM 1 tE :=
 bX ["table","many"] λhN _ _ _ _ _ _ _=>by
  show br _ _ BP;unfold BP;refine aO (bE 1 (bH dw T.cR P7 (av (aq 0) aA))) ?_;exact(aI (bf (gc (N':=["one","many","table"]) (pick:=[O,Y 1,Y 0]) (ez (av (aq 1) aA) T.cz) (λ_ _ _ _ _ _=>(gc (N':=["other","one","table"]) (pick:=[O,Y 0,Y 2]) (ez (av (aq 1) aA) T.cz) (λ_ _ _ _ _ _=>(lT (gx gU (aq 1) (aq 0)) (nA (zl (bu bw (bu bw (aq 2) (aq 1)) (aq 0)))))))))))
theorem X7(T:Tx w K mg):bO P w base 3 T.AL 2 tw :=
 bX ["pot","most","found","many","one"] λhN _ _ _ _ _ _ hr=>by
  show br _ _ BO;unfold BO;refine aO (bR (bF qb (aU (gM T) hr (av (aq 0) (av aM aA))) aM) (aI (bE 2 (aU (XS T) hr (av (aq 0) (av (aq 1) aA))))) (aI (bE 2 (aU (XW T) hr (av (aq 0) (av (aq 1) aA)))))) ?_;refine aO (bE 3 (bH dw T.cR P7 (av (aq 2) aA))) ?_;refine aO (bR (bF fk (aU (gM T) hr (av (aq 0) (av aM aA))) aM) (aI (bE 2 (aU (X8 T) hr (av (aq 2) aA)))) cA) ?_;refine aO (bR (PW.pt (vH (bF zw (aq 3) aM) (vI (bF fk (aU (gM T) hr (av (aq 0) (av aM aA))) aM)))) (aO (bE 4 (aU (gM T) hr (av (aq 0) (av (aq 3) aA)))) (aI (bE 2 (aU (XQ T) hr (av (aq 2) (av (aq 4) (av (bz kU (bz e8 (bz e8 (aq 4) aM) (aU (gM T) hr (av (aq 0) (av (bz nG (aq 3) aM) aA)))) (aq 3)) aA))))))) cA) ?_;exact(aI (bf (aU (XZ T) hr (av (aq 2) (av (aU (XX T) hr (av (aq 0) (av (aq 3) aA))) aA)))))
theorem XT(T:Tx w K mg):bO P w base 1 T.AE 1 wg :=
 bX ["table"] λhN _ _ _ _ _ _ _=>by
  show br _ _ BH;unfold BH;exact(aI (bf (fR qW T.j9 Rn (av (gc (N':=["row","table"]) (pick:=[O,Y 0]) (jf (aq 0)) (λ_ _ _ _ _ _=>(fR qW T.j9 Rn (av (j4 (N':=["k","row"]) (pick:=[O,Y 0]) (dz.of rfl rfl) (ez (av (bH dw T.cR P7 (av (aq 1) aA)) aA) T.cz) (λ_ _ _ _ _ _=>(e9 (i:=0) (hN:=(by decide +kernel:R3 (["k","row"]:List Str))))) (λ_ _ _ _ _ _=>(jA (gf (bu bw (aq 1) (aq 0))))) (λ_ _ _ _ _ _=>(aq 0))) aA)))) aA))))
theorem XR(T:Tx w K mg):bO P w base 2 T.AB 2 we :=
 bX ["pot","many","dense"] λhN _ _ _ _ _ _ hr=>by
  show br _ _ BF;unfold BF;refine aO (bE 2 (bz e8 aM (aU (gM T) hr (av (aq 0) (av aM aA))))) ?_;exact(aI (bf (fR qW T.j9 Rn (av (j4 (N':=["k","dense","pot"]) (pick:=[O,Y 2,Y 0]) (dz.of rfl rfl) (ez (av (aq 1) aA) T.cz) (λ_ _ _ _ _ _=>(e9 (i:=0) (hN:=(by decide +kernel:R3 (["k","dense","pot"]:List Str))))) (λ_ _ _ _ _ _=>(jA (bF qb (aU (gM T) hr (av (aq 2) (av aM aA))) (aq 1)))) (λ_ _ _ _ _ _=>(aq 0))) aA))))
theorem XY(T:Tx w K mg):bO P w base 1 T.AI 1 zM :=
 bX ["due","parts","text","part"] λhN _ _ _ _ _ _ _=>by
  show br _ _ BK;unfold BK;refine aO (bE 1 (Mb (aq 0) (ze aM) zf)) ?_;refine aO (bR (bF fk (bu bw (aq 0) aM) bW) (aI (bE 1 (bu bw (aq 0) aM))) cA) ?_;refine aO (bE 2 (bu bw (aq 0) aM)) ?_;refine aO (fj (om (aq 1)) (fq 3) (aI (bE 2 (bz j7 (bz j7 (aq 2) bW) (bu bw (jB (av (fR adz T.ie kK (av (aq 3) aA)) (av bW aA))) (fR adF T.zG boot_int (av (gx Ey (aq 3) nB) aA))))))) ?_;exact(aI (bf (aq 2)))
theorem Mv(T:Tx w K mg):bO P w base 11 T.Az 3 sX :=
 bX ["desk","name","web","size"] λhN _ _ _ _ _ _ hr=>by
  show br _ _ BD;unfold BD;refine aO (bR (PW.pt (i7 (bF gU (iD T.fu T.gH (i9 T) (hr.mono (by decide)) (aq 0) (av (bz j7 bW (aq 1)) aA)) (aU (Ej T) hr (av (aq 2) aA))) (j3 (bF gU (iD T.fu T.gH (i9 T) (hr.mono (by decide)) (aq 0) (av (bz j7 bW (aq 1)) aA)) (fR kH T.ie kK (av (aU (Ms T) hr (av (aq 2) aA)) aA)))))) (aI (bf gy)) cA) ?_
  refine aO (fj (jH (av aM (av aM aA)) T.cz) (fq 3) (aI (bR (bF gU (iD T.fu T.gH (i9 T) (hr.mono (by decide)) (aq 0) (av (bz j7 (bz j7 (bz j7 bW (aq 1)) bW) (fR kH T.ie kK (av (aq 3) aA))) aA)) (fR kH T.ie kK (av (aU (Mu T) hr (av (aq 2) (av (aq 3) aA))) aA))) (aI (bf gy)) cA))) ?_
  exact(aI (bf (gx fk (iD T.fu T.gH (i9 T) (hr.mono (by decide)) (aq 0) (av (bz j7 bW (aq 1)) aA)) (aU (XY T) hr (av (aU (Mz T) hr (av (aq 2) aA)) aA)))))
theorem Yb(T:Tx w K mg):bO P w base 12 T.xg 1 wm :=
 bX ["script","k","pot","web","desk","some","turn","now","other"] λhN _ _ _ _ _ _ hr=>by
  show br _ _ xQ;unfold xQ;refine aO (fj (ez (av (bH adB T.Ni boot_max (av aM (av (bH uB T.qh SX (av (bH dw T.cR P7 (av (aq 0) aA)) (av aM aA))) aA))) aA) T.cz) (fq 1) (aO (bE 2 (aU (XU T) hr (av (aU (X0 T) hr (av (aq 0) (av (aq 1) aA))) aA))) (aO (bE 3 (aU (XT T) hr (av (aU (X7 T) hr (av (aq 2) (av aM aA))) aA))) (aO (bE 4 (Me T.fu T.fS (MC T) (hr.mono (by decide)) T.gD T.mC.bd)) (aO (fQ (iD T.fu T.gH (i9 T) (hr.mono (by decide)) (aq 4) (av (bz j7 bW (aU (Ej T) hr (av (aq 3) aA))) aA))) (aO (bE 5 (aU (XR T) hr (av (aq 2) (av (bH dw T.cR P7 (av (aq 3) aA)) aA)))) (aO (bR (bF (YK (eY hr)) (aq 5) (gb aA)) (aI (bE 5 (gb (av (bz nG (bH dw T.cR P7 (av (aq 3) aA)) aM) aA)))) cA) (aO (bE 6 (bz j7 bW (sD bW (gc (N':=["place"]) (pick:=[O]) (om (aq 5)) (λ_ _ _ _ _ _=>(fR kH T.ie kK (av (aq 0) aA))))))) (aO (bE 7 (aU (Eo T) hr (av (aU (Mp T) hr (av (aq 3) (av (aq 5) aA))) aA))) (aO (bR (PW.pt (i7 (bF gU (iD T.fu T.gH (i9 T) (hr.mono (by decide)) (aq 4) (av (aq 6) aA)) bW) (i7 (bF gU (iD T.fu T.gH (i9 T) (hr.mono (by decide)) (aq 4) (av bW aA)) bW) (j3 (gK (gf (aU (Mv T) hr (av (aq 4) (av bW (av (aq 7) aA)))))))))) (aI (bf gy)) cA) (aO (bE 8 (Me T.fu T.fS (MC T) (hr.mono (by decide)) T.gD T.mC.bd)) (aO (fQ (iD T.fu T.gH (i9 T) (hr.mono (by decide)) (aq 8) (av (bz j7 bW (iD T.fu T.gH (i9 T) (hr.mono (by decide)) (aq 4) (av bW aA))) aA))) (aO (bR (PW.pt (i7 (gK (gf (aU (Mv T) hr (av (aq 8) (av bW (av (aq 7) aA)))))) (j3 (bF gU (iD T.fu T.gH (i9 T) (hr.mono (by decide)) (aq 8) (av bW aA)) bW)))) (aI (bf gy)) cA) (aI (bR (PW.pt (i7 (bF gU (iD T.fu T.gH (i9 T) (hr.mono (by decide)) (aq 4) (av bW aA)) bW) (i7 (bF gU (iD T.fu T.gH (i9 T) (hr.mono (by decide)) (aq 4) (av (aq 6) aA)) bW) (j3 (bF (MJ (eY hr)) (aU (Mr T) hr (av (iD T.fu T.gH (i9 T) (hr.mono (by decide)) (aq 4) (av bW aA)) aA)) (aq 3)))))) (aI (bf gy)) cA))))))))))))))) ?_
  exact(aI (bf gy))
end
end Ev
namespace Ev
open PySem L2
theorem b9{s t:ah}{e e':Ev}{c c':aa}(h:s e c=.ok (.nx e') c'):aC s t e c=t e' c':=by rw[pB,h];rfl
theorem nL{i:Int}(h:0<=i):∃n:Nat,i=n:=⟨i.toNat,by omega⟩
theorem Ag{g:Gd}{s:ah}(inv:Nat->Ev->aa->Prop):∀(items:List D) (k:Nat) (e:Ev) (c:aa),inv k e c ->
  (∀i x,items[i]? = Y x->∀e c,inv (k+i) e c->∃e' e'' c' c'',g x e c=.ok e' c'/\s e' c'=.ok (.nx e'') c''/\inv (k+i+1) e'' c'') ->
  ∃e' c',inv (k+items.length) e' c'/\cy (λ_=>True) g s items e c=.ok (.nx e') c'
 |[],k,e,c,hi,_=>⟨e,c,hi,by simp⟩
 |x::xs,k,e,c,hi,h=>by
  obtain⟨e',e'',c',c'',h1,h2,h3⟩:=h 0 x rfl e c hi;obtain⟨e3,c3,i3,h4⟩:=Ag inv xs _ e'' c'' h3 λi y hy e c hi=>by
   have:=h (i+1) y (by simpa using hy) e c (by rwa[show k+(i+1)=k+1+i by omega])
   rwa[show k+_+1=k+1+i+1 by omega]at this
  exact⟨e3,c3,by rwa[Iv,show k+_=k+1+xs.length by omega],by rw[kr,h1,R.aL,h2];exact h4⟩
def dS(j:Nat) (n:Nat) (c:aa):Prop:=c.length=n/\j<n/\∃p:Int,c[j]? = Y (.lst [.int p])
theorem dS.set{j n:Nat}{c:aa}(h:dS j n c) (p:Int):dS j n (c.set j (.lst [.int p])):=by
 obtain⟨h1,h2,_⟩:=h;exact⟨by simp[h1],h2,p,by rw[SA (by omega)]⟩
theorem ako(cell:Int) (c:aa):∃p:Int,sY [.int cell] c=.ok (.ref c.length) (c++[.lst [.int p]]):=by
 by_cases h:10^18<=cell
 ·simp(disch:=omega) [sY,xO,LS,h];rw[if_pos (by simpa using h)]
  simp[cG]
 ·obtain⟨e',c',⟨⟨q,v1,v2,rfl⟩,rfl⟩,hf⟩:=O3 (g:=aB 2) (s:=(aC (aN 3 (ay gC (ay gW (ay bZ (ay bZ (ay gC (ak 0) (dC (.int 2147483629))) (ay gW (dC (.int 7919)) (ak 2))) (dC (.int 1))) (dC (.int 48271))) (dC (.int 2147483647)))) (aC (aN 3 (ay gC (ay bZ (ay bZ (ay gW (ak 3) (ak 3)) (ay gW (dC (.int 69621)) (ak 2))) (dC (.int 7))) (dC (.int 2147483587)))) (aN 1 (ay bZ (ay gW (ak 1) (dC (.int 2147483587))) (ak 3))))))
   (λe c'=>(∃q v1 v2,e=[Y (.int cell),Y (.int q),v1,v2])/\c'=c) (aW 0 64) [Y (.int cell),Y (.int 0),O,O] c ⟨⟨0,O,O,rfl⟩,rfl⟩ (λx hx e c' ⟨⟨q,v1,v2,he⟩,hc⟩=>by
    obtain⟨i,rfl,i0,i1⟩:=jc hx;subst he;subst hc;have b0:0<=(cell % 2147483629+7919*i+1)*48271 % 2147483647:=TL _ (by decide)
    have b1:(cell % 2147483629+7919*i+1)*48271 % 2147483647<2147483647:=TJ _ (by decide)
    generalize hm:(cell % 2147483629+7919*i+1)*48271 % 2147483647=m at b0 b1
    refine⟨_,[Y (.int cell),Y (.int (q*2147483587+(m*m+69621*i+7) % 2147483587)),Y (.int i),Y (.int ((m*m+69621*i+7) % 2147483587))],_,_,rfl,by simp(disch:=omega) [nM,ES,mul_r,hm],⟨⟨_,_,_,rfl⟩,rfl⟩⟩)
  have hh:¬(1000000000000000000<=cell):=by simpa using h
  simp(disch:=omega) [sY,xO,LS,hh];rw[hf];simp[cG]
theorem adx(ns:List Int) (k:Int) (h:0<=k) (c:aa):∃x:Int,tu [.cD ns,.int k] c=.ok (.int x) c:=by
 by_cases q:k<ns.length
 ·have e:aD (.cD ns) (.int k) c=.ok (.int ns[k.toNat]) c:=by
   show(match dY (ns.map D.int) k with|some d=>R.ok d c|none=>R.bad)=_
   have:dY (ns.map D.int) k=Y (.int ns[k.toNat]):=by
    have:=jm (xs:=ns.map D.int) (j:=k.toNat) (v:=.int ns[k.toNat]) (by simp)
    rwa[Ud h]at this
   rw[this]
  simp[tu,xP,q,e]
 ·exact⟨0,by simp[tu,xP,q]⟩
theorem take2{j:Nat}{c:aa}{p eE:Int}(hp:c[j]? = Y (.lst [.int p])) (h0:0<eE) (h1:eE<1073741824):d8 [.ref j,.int eE] c=.ok (.int (p % eE)) (c.set j (.lst [.int (p/eE)])):=by
 have e1:aD (.ref j) (.int 0) c=.ok (.int p) c:=by
  simp[aD,fP,hp]
 have e2:pV (.ref j) (.int 0) (.int (p/eE)) c=.ok () (c.set j (.lst [.int (p/eE)])):=by
  simp[pV,hp,ig]
 have e3:(c.set j (.lst [.int (p/eE)])).take c.length=c.set j (.lst [.int (p/eE)]):=by
  rw[TN];simp
 simp(disch:=omega) [d8,BE,e1,nM,xo,e2,e3]
def PO(j n:Nat) (os:List Nat) (c:aa):Prop:=c.length=n+1/\j<n/\(∃p:Int,c[j]? = Y (.lst [.int p]))/\c[n]? = Y (.lst (nD os))
theorem aaX(os:List Nat) (i k:Nat):(os.take i++k::os.drop i).Perm (k::os):=by
 refine Vp.trans ?_;rw[U7]
def sJ:ah:=(dg (xy (ak 2) (aH 2 d8 (ao (ak 0) (ao (ay bZ (ak 3) (dC (.int 1))) au))) (ak 3)))
theorem Xg{j n k:Nat}{os:List Nat}{c:aa}(hP:PO j n os c) (hk:os.length=k) (hk':k<1000) (a1:Option D) :
  ∃os' c',PO j n os' c'/\os'.Perm (k::os)/\sJ [Y (.ref j),a1,Y (.ref n),Y (.int k)] c=.ok (.nx [Y (.ref j),a1,Y (.ref n),Y (.int k)]) c':=by
 obtain⟨h1,h2,⟨p,h3⟩,h4⟩:=hP;have hs:=fH (n:=1000) (by decide)
 have ht:=take2 (eE:=k+1) h3 (by omega) (by omega)
 have x0:=TL p (show(k:Int)+1≠0 by omega)
 have x1:=TJ p (show(0:Int)<k+1 by omega)
 generalize p % _=x at ht x0 x1
 obtain⟨i,rfl⟩:=nL x0
 generalize hc1:c.set j (.lst [.int _])=c1 at ht
 have l1:c1.length=n+1:=by rw[<-hc1];simp[h1]
 have q1:c1[n]? = Y (.lst (nD os)):=by rw[<-hc1,Sn (by omega)];exact h4
 refine⟨os.take i++k::os.drop i,c1.set n (.lst (nD (os.take i++k::os.drop i))),⟨by simp[l1],h2,⟨_,by rw[Sn (by omega)];exact(by rw[<-hc1,SA (by omega)])⟩,by rw[SA (by omega)]⟩,aaX os i k,?_⟩
 have e:nD (os.take i++k::os.drop i)=(nD os).take i ++ .int k::(nD os).drop i:=by simp
 have hin:xy (ak 2) (aH 2 d8 (ao (ak 0) (ao (ay bZ (ak 3) (dC (.int 1))) au))) (ak 3) [Y (.ref j),a1,Y (.ref n),Y (.int k)] c=.ok .aE (c1.set n (.lst (nD (os.take i++k::os.drop i)))):=by
  rw[abq];simp only[eS,gz,gs,R.aL,x_call,cT,gR,jV,cI,ahv,Iv,S5,if_pos,ht,q1];rw[if_pos ⟨⟨by omega,by rw[x8];omega⟩,by rw[x8];omega,rfl⟩,Sk,e]
 unfold sJ;rw[yx,hin];rfl
theorem Xh{j n:Nat}{q:Int}{c c3:aa}{l:List D}{v:Option D}(hn:c.length=n) (b:-4611686018427387904<=q/\q<4611686018427387904) (hf:cy (λ_=>True) (aB 3) sJ (aW 0 q) [Y (.ref j),Y (.int q),Y (.ref n),O] (c++[.lst []])=.ok (.nx [Y (.ref j),Y (.int q),Y (.ref n),v]) c3)
  (ht:gr [.ref n] c3=.ok (.tup l) c3) (nr:bB l=L):sZ [.ref j,.int q] c=.ok (.tup l) (c3.take n):=by
 have hb:BJ=aC _ (aC (bU _ (aB 3) sJ) _):=rfl;have e0:(aN 2 (fW au)) [Y (.ref j),Y (.int q),O,O] c=.ok (.nx [Y (.ref j),Y (.int q),Y (.ref n),O]) (c++[.lst []]):=by simp[hn]
 have e1:(bU (bQ (ao (ak 1) au)) (aB 3) sJ) [Y (.ref j),Y (.int q),Y (.ref n),O] (c++[.lst []])=.ok (.nx [Y (.ref j),Y (.int q),Y (.ref n),v]) c3:=by
  simp
  rwa[if_pos (by omega)]
 have e2:(aQ (aF gr (ao (ak 2) au))) [Y (.ref j),Y (.int q),Y (.ref n),v] c3=.ok (.rt (.tup l)) c3:=by simp[ht]
 rw[sZ,iB,hb];have es:cC 4 [D.ref j,.int q]=[Y (.ref j),Y (.int q),O,O]:=rfl;rw[es,b9 e0,b9 e1,e2];have kW:noRef (.tup l)=L:=nr;simp only[R.aL];unfold cG;dsimp only;rw[if_pos kW,hn]
theorem Xf{j n m:Nat}{c:aa}(hP:dS j n c) (hm:m<1000):∃os c',os.Perm (Ω m)/\dS j n c'/\sZ [.ref j,.int (m:Int)] c=.ok (.tup (nD os)) c':=by
 obtain⟨hl,hj,p,hp⟩:=hP;have hlen:(aW 0 (m:Int)).length=m:=by rw[g9];omega
 obtain⟨e',c3,⟨os,v,rfl,P3,hp3⟩,hf⟩:=Ag (g:=aB 3) (s:=sJ) (λk e c=>∃os v,e=[Y (.ref j),Y (.int (m:Int)),Y (.ref n),v]/\PO j n os c/\os.Perm (Ω k))
  (aW 0 (m:Int)) 0 [Y (.ref j),Y (.int (m:Int)),Y (.ref n),O] (c++[.lst []]) ⟨[],O,rfl,⟨by simp[hl],hj,⟨p,by rw[RJ (by omega)];exact hp⟩,by rw[RC (by omega),hl];simp⟩,.refl _⟩ (λi x hx e c ⟨os,v,he,P1,hp1⟩=>by
   subst he;have hi:i<(aW 0 (m:Int)).length:=(Q7.mp hx).1;obtain⟨hlt,rfl⟩:=pY hx;rw[V5];rw[QV]at hp1 ⊢;have jg:os.length=i:=by have:=hp1.length_eq;simpa using this
   obtain⟨Xe,c2,P2,hp2,h2⟩:=Xg P1 jg (by omega) (Y (.int (m:Int)))
   refine⟨_,_,_,_,rfl,h2,Xe,_,rfl,P2,?_⟩;rw[UA];exact hp2.trans ((hp1.cons i).trans (W6 i _).symm))
 rw[hlen,QV]at hp3;obtain⟨l3,_,⟨p3,q3⟩,q4⟩:=P3;refine⟨os,c3.take n,hp3,⟨by rw[Sz];omega,hj,p3,by rw[WM hj];exact q3⟩,?_⟩
 exact Xh hl (by omega) hf (by unfold gr;dsimp only;rw[show fP c3 (.ref n)=Y (nD os) by unfold fP;dsimp only;rw[q4]]) (qe os)
def dI(n m:Nat):List D:=(Ω m).map λr=>.ref (n+r)
theorem zc{n m r:Nat}(h:r<m):dY (dI n m) (r:Int)=Y (.ref (n+r)):=jm (by simp[dI,h])
def cF(m:Nat) (f:Nat->Nat->Bool) (i:Nat):List D:=(Ω m).map λk=>.bl (f i k)
def eB(m:Nat) (f:Nat->Nat->Bool):aa:=(Ω m).map λi=>.lst (cF m f i)
def bG(m:Nat) (f:Nat->Nat->Bool):D:=.lst ((Ω m).map λi=>.lst (cF m f i))
def f6(f:Nat->Nat->Bool) (a b:Nat) (v:Bool):Nat->Nat->Bool:=λi k=>if i=a/\k=b then v else f i k
theorem ajp(m:Nat) (f:Nat->Nat->Bool) (i:Nat):(cF m f i).length=m:=by simp[cF]
theorem ajo{m k:Nat}(f:Nat->Nat->Bool) (i:Nat) (h:k<m):(cF m f i)[k]? = Y (.bl (f i k)):=by simp[cF,h]
theorem DQ(m:Nat) (f:Nat->Nat->Bool) (i:Nat):bB (cF m f i)=L:=gV.mpr λd hd=>by
 obtain⟨k,_,rfl⟩:=x6.mp hd;rfl
theorem F6{m i:Nat}(f:Nat->Nat->Bool) (c:aa) (h:i<m):(c++eB m f)[c.length+i]? = Y (.lst (cF m f i)):=by
 simp[eB,h]
theorem acg{m a b:Nat}(f:Nat->Nat->Bool) (v:Bool) (c:aa) (ha:a<m):(c++eB m f).set (c.length+a) (.lst ((cF m f a).set b (.bl v)))=c++eB m (f6 f a b v):=by
 rw[TH _ _ (by omega)]
 congr 1
 rw[Nat.add_sub_cancel_left];apply U9
 ·simp[eB]
 ·intro i h1 h2;rw[WK];simp only[eB,WJ,UG]
  by_cases e:a=i
  ·subst e;rw[if_pos rfl]
   congr 1
   apply U9
   ·simp[cF]
   ·intro k h3 h4;rw[WK];simp only[cF,WJ,UG,f6]
    by_cases e2:b=k
    ·subst e2;simp
    ·rw[if_neg e2,if_neg (λz=>e2 z.2.symm)]
  ·rw[if_neg e]
   congr 1
   refine R4 λk _=>?_
   unfold f6;rw[if_neg (λz=>e z.1.symm)]
theorem Aa{m a b:Nat}(f:Nat->Nat->Bool) (v:Bool) (c:aa) (ha:a<m) (hb:b<m):pV (.ref (c.length+a)) (.int (b:Int)) (.bl v) (c++eB m f)=.ok () (c++eB m (f6 f a b v)):=by
 have p:=acg (b:=b) f v c ha;unfold pV;simp[(F6 f c ha),ig,(ajp m f a),hb,noRef,p]
theorem acJ(n:Nat):(τ n [D.bl G]).flatten=(Ω n).map λ_=>D.bl G:=by
 induction n with
 |zero=>rfl
 |succ n ih=>rw[SI,Sj,ih,Te,E1,P0];rfl
def qC:af:=(ay nv (ff (ao (dC (.bl G)) au)) (ak 1))
theorem acn{q:Int}{m:Nat}(hq:q=m) (hm:m<1000) (v:Option D) (c:aa):qC [v,Y (.int q)] c=.ok (.ref c.length) (c++[.lst ((Ω m).map λ_=>.bl G)]):=by
 have hs:=fH (n:=1000) (by decide)
 have e:(τ q.toNat [D.bl G]).flatten=(Ω m).map λ_=>D.bl G:=by rw[acJ,hq,Sk]
 unfold qC;simp only[gR,yv,cT,jV,cI,R.aL,eS,gz,gs,Iv,S5];rw[if_pos (fH (by decide))]
 simp only[R.aL,agR,e];rw[if_pos ⟨by omega,by omega,by simp;omega,rfl⟩]
theorem GA{q:Int}{m:Nat}(hq:q=m) (hm:m<1000):∀(items:List D) (v:Option D) (acc:List D) (c:aa),bL (λ_=>True) (aB 0) aT qC items [v,Y (.int q)] acc c=.ok (acc++dI c.length items.length) (c++(Ω items.length).map λ_=>.lst ((Ω m).map λ_=>.bl G))
 |[],v,acc,c=>by simp[dI]
 |x::xs,v,acc,c=>by
  rw[mH];have h1:aB 0 x [v,Y (.int q)] c=.ok [Y x,Y (.int q)] c:=rfl;rw[h1,R.aL,yr,R.aL,if_pos rfl,acn hq hm,R.aL,GA hq hm xs];have e1:acc++[D.ref c.length]++dI (c++[Cell.lst ((Ω m).map λ_=>.bl G)]).length xs.length=acc++dI c.length (x::xs).length:=by
   rw[RU,QT,Iv,S5]
   congr 1
   unfold dI;rw[Iv,Te,E1,P0];simp only[Sf,Q0,Tf]
   congr 1
   refine R4 λr _=>?_
   simp only[Function.comp]
   congr 1;omega
  have e2:c++[Cell.lst ((Ω m).map λ_=>D.bl G)]++(Ω xs.length).map (λ_=>Cell.lst ((Ω m).map λ_=>D.bl G))=c++(Ω (x::xs).length).map (λ_=>Cell.lst ((Ω m).map λ_=>D.bl G)):=by
   rw[RU]
   congr 1
   rw[Iv,Te,E1,P0];rfl
  rw[e1,e2]
theorem JF(c:aa) (n m:Nat) (f:Nat->Nat->Bool):∀l:List Nat,(∀i∈l,c[n+i]? = Y (.lst (cF m f i)))->mZ c n (l.map λi=>.ref (n+i))=Y (l.map λi=>.lst (cF m f i))
 |[],_=>rfl
 |i::l,h=>by
  have ih:=JF c n m f l λk hk=>h k (.tail _ hk)
  rw[E1,E1,mZ,ih];have:fG c n (.ref (n+i))=Y (.lst (cF m f i)):=by
   unfold fG;rw[h i (.head _)];dsimp only;rw[if_pos (by omega)]
  rw[this]
theorem Gi(c:aa) (m:Nat) (f:Nat->Nat->Bool):lq c.length (.lst (dI c.length m)) (c++eB m f)=.ok (bG m f) c:=by
 unfold lq fG dI;rw[JF _ _ m f (Ω m) λi hi=>F6 f c (H8.mp hi)]
 simp[bG]
def fS(M:List (List Int)):List D:=M.map λl=>.lst (l.map D.int)
def aR(p:Nat×Nat):D:=.tup [.int p.1,.int p.2]
def IE(m:Nat) (ps:List (Nat×Nat)):Prop:=∀p∈ps,p.1<m/\p.2<m
def iQ(ps:List (Nat×Nat)):Nat->Nat->Bool:=λi k=>ps.any λp=>(p.1==i&&p.2==k)||(p.2==i&&p.1==k)
theorem join_snoc(ps:List (Nat×Nat)) (p:Nat×Nat):iQ (ps++[p])=f6 (f6 (iQ ps) p.1 p.2 L) p.2 p.1 L:=by
 funext i k
 unfold iQ f6;rw[List.any_append]
 by_cases h1:i=p.2/\k=p.1
 ·rw[if_pos h1];simp[h1.1,h1.2]
 ·rw[if_neg h1]
  by_cases h2:i=p.1/\k=p.2
  ·rw[if_pos h2];simp[h2.1,h2.2]
  ·rw[if_neg h2];have e1:(p.1==i&&p.2==k)=G:=by
    cases q:(p.1==i&&p.2==k)with
    |false=>rfl
    |true=>simp at q;exact absurd ⟨q.1.symm,q.2.symm⟩ h2
   have e2:(p.2==i&&p.1==k)=G:=by
    cases q:(p.2==i&&p.1==k)with
    |false=>rfl
    |true=>simp at q;exact absurd ⟨q.1.symm,q.2.symm⟩ h1
   simp[e1,e2]
def wH:ah:=(aC (jx (dC (.bl L)) (jL (ay aD (ak 2) (ak 3)) (ak 4))) (jx (dC (.bl L)) (jL (ay aD (ak 2) (ak 4)) (ak 3))))
theorem aaz{m a b:Nat}{f:Nat->Nat->Bool}{c:aa}(a0 a1:Option D) (ha:a<m) (hb:b<m) :
  wH [a0,a1,Y (.lst (dI c.length m)),Y (.int a),Y (.int b)] (c++eB m f)=.ok (.nx [a0,a1,Y (.lst (dI c.length m)),Y (.int a),Y (.int b)]) (c++eB m (f6 (f6 f a b L) b a L)):=by
 have h1:∀c',aD (.lst (dI c.length m)) _ c'=.ok _ c':=λc'=>by rw[iX,zc ha]
 have h2:∀c',aD (.lst _) _ c'=.ok (.ref (c.length+b)) c':=λc'=>by rw[iX,zc hb]
 have s2:=Aa (f6 f a b L) L c hb ha;unfold wH;simp only[pB,CK,jV,R.aL,CI,gR,eS,gz,gs,h1,h2,(Aa f L c ha hb),s2]
theorem aaC{m:Nat}{ps:List (Nat×Nat)}{c:aa}(hp:IE m ps) (st:aa->Prop) (hst:∀R:aa,st (c++R)) (a0 a1:Option D) :
  ∃v w,cy st (gG 2 (dj (aB 3) (dj (aB 4) gZ))) wH (ps.map aR) [a0,a1,Y (.lst (dI c.length m)),O,O] (c++eB m λ_ _=>G)=.ok (.nx [a0,a1,Y (.lst (dI c.length m)),v,w]) (c++eB m (iQ ps)):=by
 obtain⟨v',hf⟩:=wW (g:=(gG 2 (dj (aB 3) (dj (aB 4) gZ)))) (s:=wH) _ (λ_ v=>[a0,a1,Y _,v.1,v.2]) (ps.map aR) 0 (O,O) (λi _=>hst _) (λi x hx v=>by
  rw[QV];have hi:i<ps.length:=by have:=(Q7.mp hx).1;simpa using this
  have ex:x=aR ps[i]:=by
   rw[Q9,Bt hi]at hx;cases hx;rfl
  subst ex;have hq:=hp _ (RH hi);have hs:=aaz (f:=iQ (ps.take i)) (c:=c) a0 a1 hq.1 hq.2;rw[<-join_snoc,<-Ut hi]at hs;refine⟨[a0,a1,Y _,Y _,Y _],?_,(Y _,Y _),hs⟩;simp[aR])
 have e0:iQ (ps.take 0)=λ_ _=>G:=by funext i k;rfl
 rw[QV,x8,RN,e0]at hf;exact⟨v'.1,v'.2,hf⟩
theorem aaD{q:Int}{c c':aa}{l:List D}(a1:Option D) (b1:-4611686018427387904<=q/\q<4611686018427387904) (hl:(aW 0 q).length<Ξ) (hc:bL (λ_=>True) (aB 0) aT qC (aW 0 q) [O,Y (.int q)] [] c=.ok l c') :
  (aN 2 (bg (bQ (ao (ak 0) au)) [O,Y 0] (aB 0) aT (ay nv (ff (ao (dC (.bl G)) au)) (ak 1)))) [Y (.int q),a1,O,O,O] c=.ok (.nx [Y (.int q),a1,Y (.lst l),O,O]) c':=by
 unfold qC at hc;simp;rw[if_pos (by omega)]
 simp;rw[if_pos hl];have:f7 [O,Y 0] [Y (D.int q),a1,O,O,O]=[O,Y (.int q)]:=rfl;rw[this,hc];rfl
theorem aaE{q:Int}{X:D}{c c1 c2:aa}{l:List D}{v w:Option D}{W:D}{s0 s1 s2:ah}(e0:s0 [Y (.int q),Y X,O,O,O] c=.ok (.nx [Y (.int q),Y X,Y (.lst l),O,O]) c1)
  (e1:s1 [Y (.int q),Y X,Y (.lst l),O,O] c1=.ok (.nx [Y (.int q),Y X,Y (.lst l),v,w]) c2) (e2:s2 [Y (.int q),Y X,Y (.lst l),v,w] c2=.ok (.rt (.lst l)) c2) (hx:lq c.length (.lst l) c2=.ok W c) :
  mw 5 (aC s0 (aC s1 s2)) [.int q,X] c=.ok W c:=by
 rw[CJ];have e3:cC 5 [D.int q,X]=[Y _,Y X,O,O,O]:=rfl
 rwa[e3,b9 e0,b9 e1,e2]
theorem aau{m:Nat}{ps:List (Nat×Nat)}{X:D}{c:aa}(hp:IE m ps) (hm:m<1000) (hX:(∃k,X=.ref k/\c[k]? = Y (.lst (ps.map aR)))\/X=.lst (ps.map aR)):wk [.int (m:Int),X] c=.ok (bG m (iQ ps)) c:=by
 have hs:=fH (n:=1000) (by decide)
 have hrl:(aW 0 m).length=m:=by rw[g9];omega
 have hc:=GA rfl hm (aW 0 m) O [] c;rw[hrl,Q0]at hc;have hg:(Ω m).map (λ_=>Cell.lst _)=eB m λ_ _=>G:=rfl
 have FJ:∃st:aa->Prop,(∀R:aa,st (c++R))/\∀(a0 a2:Option D) R,cO (ak 1) [a0,Y X,a2,O,O] (c++R)=.ok ⟨ps.map aR,st⟩ (c++R):=by
  rcases hX with⟨k,rfl,hk⟩|rfl
  ·have hkl:k<c.length:=(Q7.mp hk).1;have Oq:∀R:aa,(c++R)[k]? = Y _:=λR=>by rw[RJ hkl];exact hk
   refine⟨λc'=>c'[k]? = Y _,Oq,λa0 a2 agy=>?_⟩
   unfold cO;simp only[eS,gz,gs,R.aL,Oq]
  ·exact⟨λ_=>True,λ_=>trivial,λa0 a2 R=>rfl⟩
 obtain⟨st,hst,hd⟩:=FJ;obtain⟨v,w,hf⟩:=aaC (m:=m) hp st hst _ (Y X);have e1:(bU (cO (ak 1)) (gG 2 (dj (aB 3) (dj (aB 4) gZ))) wH) [Y (.int m),Y X,Y (.lst (dI c.length m)),O,O] (c++eB m λ_ _=>G)=.ok (.nx [Y (.int m),Y X,Y (.lst (dI c.length m)),v,w]) (c++eB m (iQ ps)):=by
  rwa[rO,hd]
 exact aaE (aaD (Y X) (by omega) (by rw[hrl];omega) hc) e1 rfl (Gi c m _)
theorem JJ{m i:Nat}(f:Nat->Nat->Bool) (h:i<m):dY ((Ω m).map λi=>D.lst (cF m f i)) (i:Int)=Y (.lst (cF m f i)):=jm (by simp[h])
theorem y9{m k:Nat}(f:Nat->Nat->Bool) (i:Nat) (h:k<m):dY (cF m f i) (k:Int)=Y (.bl (f i k)):=jm (ajo f i h)
theorem Nr{os:List Nat}{i:Nat}(h:i<os.length):dY (nD os) (i:Int)=Y (.int (os[i]:Nat)):=jm (by simp[nD,h])
theorem FI{os:List Nat}{a:Nat}(h:os.idxOf a<os.length):os[os.idxOf a]=a:=by
 exact List.getElem_idxOf h
theorem Ob{os:List Nat}(hn:os.Nodup) {i:Nat}(h:i<os.length):os.idxOf os[i]=i:=by
 exact(T8 hn).mp (FI (List.idxOf_lt_length_iff.mpr (RH h)))
def gh(os:List Nat) (f:Nat->Nat->Bool) (i k:Nat):Nat->Nat->Bool:=λa b=>if os.idxOf a<i\/(os.idxOf a=i/\os.idxOf b<k)then(if os.idxOf b<os.length then f (os.idxOf a) (os.idxOf b)else G)else G
theorem Zh{os:List Nat}(hn:os.Nodup) (f:Nat->Nat->Bool) {i k:Nat}(hi:i<os.length) (hk:k<os.length):f6 (gh os f i k) os[i] os[k] (f i k)=gh os f i (k+1):=by
 funext a b
 unfold f6 gh
 by_cases h:a=os[i]/\b=os[k]
 ·rw[if_pos h,h.1,h.2,Ob hn hi,Ob hn hk];rw[if_pos (by omega),if_pos hk]
 ·rw[if_neg h]
  by_cases ha:os.idxOf a=i
  ·by_cases hb:os.idxOf b=k
   ·have ea:os[i]=a:=by
     have:=FI (os:=os) (a:=a) (by omega)
     simpa[ha]using this
    have eb:os[k]=b:=by
     have:=FI (os:=os) (a:=b) (by omega)
     simpa[hb]using this
    exact absurd ⟨ea.symm,eb.symm⟩ h
   ·have e:(os.idxOf a<i\/(os.idxOf a=i/\os.idxOf b<k))↔(os.idxOf a<i\/(os.idxOf a=i/\os.idxOf b<k+1)):=by omega
    simp only[e]
  ·have e:(os.idxOf a<i\/(os.idxOf a=i/\os.idxOf b<k))↔(os.idxOf a<i\/(os.idxOf a=i/\os.idxOf b<k+1)):=by omega
   simp only[e]
theorem Zi{os:List Nat}(f:Nat->Nat->Bool) (i:Nat):∀a b,gh os f i os.length a b=gh os f (i+1) 0 a b:=λa b=>by
 unfold gh
 by_cases hb:os.idxOf b<os.length
 ·have e:(os.idxOf a<i\/(os.idxOf a=i/\os.idxOf b<os.length))↔(os.idxOf a<i+1\/(os.idxOf a=i+1/\os.idxOf b<0)):=by omega
  simp only[e]
 ·simp only[if_neg hb,ite_self]
def vQ:ah:=(jx (ay aD (ay aD (ak 0) (ak 4)) (ak 5)) (jL (ay aD (ak 3) (ay aD (ak 1) (ak 4))) (ay aD (ak 1) (ak 5))))
theorem Zo{os:List Nat}(hn:os.Nodup) {m i k:Nat}(hm:os.length=m) (f:Nat->Nat->Bool) {c:aa}(hlt:∀x∈os,x<m) (hi:i<m) (hk:k<m) (a2:Option D) :
  vQ [Y (bG m f),Y (.tup (nD os)),a2,Y (.lst (dI c.length m)),Y (.int i),Y (.int k)] (c++eB m (gh os f i k))=.ok (.nx [Y (bG m f),Y (.tup (nD os)),a2,Y (.lst (dI c.length m)),Y (.int i),Y (.int k)]) (c++eB m (gh os f i (k+1))):=by
 have Ol:os[i]<m:=hlt _ (RH (by omega))
 have hok:os[k]<m:=hlt _ (RH (by omega))
 have h1:∀c',aD (bG m f) (.int (i:Int)) c'=.ok (.lst (cF m f i)) c':=λc'=>by unfold bG;rw[iX,JJ f hi]
 have h2:∀c',aD (.lst (cF m f i)) (.int (k:Int)) c'=.ok (.bl (f i k)) c':=λc'=>by rw[iX,y9 f i hk]
 have h3:∀c',aD (.tup (nD os)) (.int (i:Int)) c'=.ok (.int (os[i])) c':=λc'=>by rw[yw,Nr (by omega)]
 have h4:∀c',aD (.tup (nD os)) (.int (k:Int)) c'=.ok (.int (os[k])) c':=λc'=>by rw[yw,Nr (by omega)]
 have h5:∀c',aD (.lst (dI c.length m)) (.int (os[i])) c'=.ok (.ref (c.length+os[i])) c':=λc'=>by rw[iX,zc Ol]
 have s1:=Aa (gh os f i k) (f i k) c Ol hok;rw[Zh hn f (by omega) (by omega)]at s1
 unfold vQ;simp only[CK,R.aL,CI,gR,eS,gz,gs,h1,h2,h3,h4,h5,s1]
def sP:ah:=bU (bQ (ao (ak 2) au)) (aB 5) vQ
theorem Zn{q:Int}{T η:D}{c c':aa}{l:List D}{a4 v v':Option D}(b:-4611686018427387904<=q/\q<4611686018427387904) (h:cy (λ_=>True) (aB 5) vQ (aW 0 q) [Y T,Y η,Y (.int q),Y (.lst l),a4,v] c=.ok (.nx [Y T,Y η,Y (.int q),Y (.lst l),a4,v']) c') :
  sP [Y T,Y η,Y (.int q),Y (.lst l),a4,v] c=.ok (.nx [Y T,Y η,Y (.int q),Y (.lst l),a4,v']) c':=by
 unfold sP;simp only[rO,rL,cT,eS,gz,gs,cI,R.aL];rw[if_pos (by omega)]
 exact h
theorem Zm{os:List Nat}(hn:os.Nodup) {m i:Nat}(hm:os.length=m) (hm':m<1000) (f:Nat->Nat->Bool) {c:aa}(hlt:∀x∈os,x<m) (hi:i<m) (v:Option D) :
  ∃v',sP [Y (bG m f),Y (.tup (nD os)),Y (.int (m:Int)),Y (.lst (dI c.length m)),Y (.int i),v] (c++eB m (gh os f i 0))=.ok (.nx [Y (bG m f),Y (.tup (nD os)),Y (.int (m:Int)),Y (.lst (dI c.length m)),Y (.int i),v']) (c++eB m (gh os f (i+1) 0)):=by
 obtain⟨v',hf⟩:=O1 (g:=aB 5) (s:=vQ) (λk=>c++eB m (gh os f i k)) (λ_ v=>[Y (bG m f),Y (.tup (nD os)),Y (.int (m:Int)),Y (.lst (dI c.length m)),Y (.int i),v]) (N:=(m:Int)) (n:=m) rfl v (λk hk v=>by
  exact⟨_,rfl,Y (.int k),Zo hn hm f hlt hi hk (Y (.int (m:Int)))⟩)
 have e:gh os f i m=gh os f (i+1) 0:=by
  funext a b
  rw[<-hm];exact Zi f i a b
 rw[e]at hf;exact⟨v',Zn (by omega) hf⟩
theorem len_tab(m:Nat) (f:Nat->Nat->Bool) (c:aa):aS [bG m f] c=.ok (.int (m:Int)) c:=by
 unfold aS bG;simp[fP]
theorem Zl{q:Int}{T η W:D}{c c1 c2:aa}{l:List D}{v w:Option D}{s0 s1 s2 s3:ah}(e0:s0 [Y T,Y η,O,O,O,O] c=.ok (.nx [Y T,Y η,Y (.int q),O,O,O]) c) (e1:s1 [Y T,Y η,Y (.int q),O,O,O] c=.ok (.nx [Y T,Y η,Y (.int q),Y (.lst l),O,O]) c1)
  (e2:s2 [Y T,Y η,Y (.int q),Y (.lst l),O,O] c1=.ok (.nx [Y T,Y η,Y (.int q),Y (.lst l),v,w]) c2) (e3:s3 [Y T,Y η,Y (.int q),Y (.lst l),v,w] c2=.ok (.rt (.lst l)) c2) (hx:lq c.length (.lst l) c2=.ok W c) :
  mw 6 (aC s0 (aC s1 (aC s2 s3))) [T,η] c=.ok W c:=by
 rw[CJ];have es:cC 6 [T,η]=[Y T,Y η,O,O,O,O]:=rfl;rw[es,b9 e0,b9 e1,b9 e2,e3];exact hx
theorem Zj{q:Int}{T η:D}{c c':aa}{l:List D}(b1:-4611686018427387904<=q/\q<4611686018427387904) (hl:(aW 0 q).length<Ξ) (hc:bL (λ_=>True) (aB 0) aT qC (aW 0 q) [O,Y (.int q)] [] c=.ok l c') :
  (aN 3 (bg (bQ (ao (ak 2) au)) [O,Y 2] (aB 0) aT (ay nv (ff (ao (dC (.bl G)) au)) (ak 1)))) [Y T,Y η,Y (.int q),O,O,O] c=.ok (.nx [Y T,Y η,Y (.int q),Y (.lst l),O,O]) c':=by
 unfold qC at hc;simp only[pA,kO,rL,cT,eS,gz,gs,cI,R.aL];rw[if_pos (by omega)]
 simp only[R.aL];rw[if_pos hl];have:f7 [O,Y 2] [Y T,Y η,Y (D.int q),O,O,O]=[O,Y (.int q)]:=rfl;rw[this,hc];rfl
theorem Zk{q:Int}{T η:D}{c c':aa}{l:List D}{u v:Option D}(b:-4611686018427387904<=q/\q<4611686018427387904) (h:cy (λ_=>True) (aB 4) sP (aW 0 q) [Y T,Y η,Y (.int q),Y (.lst l),O,O] c=.ok (.nx [Y T,Y η,Y (.int q),Y (.lst l),u,v]) c') :
  (bU (bQ (ao (ak 2) au)) (aB 4) sP) [Y T,Y η,Y (.int q),Y (.lst l),O,O] c=.ok (.nx [Y T,Y η,Y (.int q),Y (.lst l),u,v]) c':=by
 simp only[rO,rL,cT,eS,gz,gs,cI,R.aL];rw[if_pos (by omega)]
 exact h
theorem Zx{os:List Nat}{m:Nat}(hp:os.Perm (Ω m)) (hm:m<1000) (f:Nat->Nat->Bool) (c:aa):zN [bG m f,.tup (nD os)] c=.ok (bG m (gh os f m 0)) c:=by
 have hs:=fH (n:=1000) (by decide)
 have hn:os.Nodup:=hp.nodup_iff.mpr List.nodup_range;have hl:os.length=m:=by have:=hp.length_eq;simpa using this
 have hrl:(aW 0 (m:Int)).length=m:=by rw[g9];omega
 have hc:=GA (q:=(m:Int)) (m:=m) rfl hm (aW 0 (m:Int)) O [] c;rw[hrl,Q0]at hc;have hg:(Ω m).map (λ_=>Cell.lst ((Ω m).map λ_=>D.bl G))=eB m (gh os f 0 0):=by
  unfold eB cF;refine R4 λi _=>?_
  congr 1
  refine R4 λk _=>?_
  simp[gh]
 rw[hg]at hc;obtain⟨v',hf⟩:=O1 (α:=Option D×Option D) (g:=aB 4) (s:=sP) _ (λ_ v=>[Y (bG m f),Y (.tup (nD os)),Y (.int (m:Int)),Y (.lst (dI c.length m)),v.1,v.2]) (N:=(m:Int)) (n:=m) rfl (O,O) (λi hi v=>by
  obtain⟨w,hw⟩:=Zm hn hl hm f (λx hx=>H8.mp (hp.mem_iff.mp hx)) hi v.2 (c:=c)
  exact⟨_,rfl,(Y (.int i),w),hw⟩)
 have e0:(aN 2 (aF aS (ao (ak 0) au))) [Y (bG m f),Y (.tup (nD os)),O,O,O,O] c=.ok (.nx [Y (bG m f),Y (.tup (nD os)),Y (.int (m:Int)),O,O,O]) c:=by
  have:=len_tab m f c;simp[this]
 have hb:BN=aC _ (aC _ _):=rfl;exact Zl e0 (Zj (by omega) (by rw[hrl];omega) hc) (Zk (by omega) hf) rfl (Gi c m _)
def Bj:af:=(aF tP (ao (ak 0) au))
theorem PU(m:Nat) (f:Nat->Nat->Bool):∀(l:List Nat) (v:Option D) (acc:List D) (c:aa),bL (λ_=>True) (aB 0) aT Bj (l.map λi=>.lst (cF m f i)) [v] acc c=.ok (acc++dI c.length l.length) (c++l.map λi=>.lst (cF m f i))
 |[],v,acc,c=>by simp[dI]
 |i::l,v,acc,c=>by
  rw[E1,mH];have h1:aB 0 _ [v] c=.ok [Y (.lst (cF m f i))] c:=rfl;have h2:Bj [Y (.lst (cF m f i))] c=.ok (.ref c.length) (c++[.lst (cF m f i)]):=by
   unfold Bj;simp;unfold tP;dsimp only[fP];rw[if_pos (DQ m f i)]
  rw[h1,R.aL,yr,R.aL,if_pos rfl,h2,R.aL,PU m f l];have e1:acc++[D.ref c.length]++dI (c++[Cell.lst (cF m f i)]).length l.length=acc++dI c.length (i::l).length:=by
   rw[RU,QT,Iv,S5]
   congr 1
   unfold dI;rw[Iv,Te,E1,P0];simp only[Sf,Q0,Tf]
   congr 1
   refine R4 λr _=>?_
   congr 1;omega
  rw[e1,RU];rfl
def uY(f:Nat->Nat->Bool) (a b:Nat):Nat->Nat->Bool:=f6 (f6 f a b (!f a b)) b a (!f6 f a b (!f a b) b a)
theorem ach{m a b:Nat}(f:Nat->Nat->Bool) (c:aa) (ha:a<m) (hb:b<m):aD (.ref (c.length+a)) (.int (b:Int)) (c++eB m f)=.ok (.bl (f a b)) (c++eB m f):=by
 unfold aD fP;dsimp only;rw[F6 f c ha];dsimp only;rw[y9 f a hb]
theorem JH{m a b:Nat}(f:Nat->Nat->Bool) {c:aa}{i j:Nat}{a0:Option D}{e:Ev}(he:e[3]? = Y (Y (.lst (dI c.length m)))) (hi:e[i]? = Y (Y (.int (a:Int)))) (hj:e[j]? = Y (Y (.int (b:Int)))) (ha:a<m) (hb:b<m) :
  jx (oG (ay aD (ay aD (ak 3) (ak i)) (ak j))) (jL (ay aD (ak 3) (ak i)) (ak j)) e (c++eB m f)=.ok (.nx e) (c++eB m (f6 f a b (!f a b))):=by
 have h1:∀c',aD _ _ c'=.ok (.ref (c.length+a)) c':=λc'=>by rw[iX,zc ha]
 simp only[CK,agU,gR,eS,he,hi,hj,R.aL,h1,(ach f c ha hb),CI,(Aa f (!f a b) c ha hb)]
theorem aib{m a b:Nat}(ha:a<m) (hb:b<m) (hm:m<1000) (f:Nat->Nat->Bool) (c:aa):wc [bG m f,.int (a:Int),.int (b:Int)] c=.ok (bG m (uY f a b)) c:=by
 have hs:=fH (n:=1000) (by decide)
 have hc:=PU m f (Ω m) O [] c;rw[S1,Q0]at hc;have hb':BC=aC _ _:=rfl;have e0:(aN 3 (bg (cO (ak 0)) [O] (aB 0) aT (aF tP (ao (ak 0) au)))) [Y (bG m f),Y (.int (a:Int)),Y (.int (b:Int)),O] c=.ok (.nx [Y (bG m f),Y (.int (a:Int)),Y (.int (b:Int)),Y (.lst (dI c.length m))]) (c++eB m f):=by
  unfold Bj at hc;rw[pA,kO];unfold cO bG;simp only[eS,gz,R.aL];rw[if_pos (by rw[x8,S1];omega)]
  have:∀T A B:Option D,f7 [O] [T,A,B,O]=[O]:=λ_ _ _=>rfl
  rw[this,hc];rfl
 have e1:=JH f (c:=c) (m:=m) (i:=1) (j:=2) (a0:=O) (e:=[Y (bG m f),Y (.int (a:Int)),Y (.int (b:Int)),Y (.lst (dI c.length m))]) rfl rfl rfl ha hb;have e2:=JH (f6 f a b (!f a b)) (c:=c) (m:=m) (i:=2) (j:=1) (a0:=O) (e:=[Y (bG m f),Y (.int (a:Int)),Y (.int (b:Int)),Y (.lst (dI c.length m))]) rfl rfl rfl hb ha;rw[wc,hb',CJ];have es:cC 4 [bG m f,.int (a:Int),.int (b:Int)]=[Y (bG m f),Y (.int (a:Int)),Y (.int (b:Int)),O]:=rfl;rw[es,b9 e0,b9 e1,b9 e2];exact Gi c m (uY f a b)
def eg(f:Nat->Nat->Bool):Nat->Nat->Bool:=λi k=>!decide (i=k) && !f i k
def uK:af:=(g4 (ay cE (ak 1) (ak 0)) (oG (ay aD (ay aD (ak 2) (ak 1)) (ak 0))))
def rj:af:=bg (bQ (ao (ak 1) au)) [O,Y 0,Y 2] (aB 0) aT uK
theorem O9(l:List D):l.filter (λ_=>L)=l:=by simp
theorem Lz{β:Type}(m:Nat) (F:D->β):(aW 0 (m:Int)).map F=(Ω m).map λi:Nat=>F (.int (i:Int)):=by
 unfold aW;rw[P0,show((m:Int)-0).toNat=m by omega]
 refine R4 λi _=>?_
 simp
theorem aep{m i:Nat}(f:Nat->Nat->Bool) (hi:i<m) (c:aa):bL (λ_=>True) (aB 0) aT uK (aW 0 (m:Int)) [O,Y (.int (i:Int)),Y (bG m f)] [] c=.ok (cF m (eg f) i) c:=by
 have h1:∀c',aD (bG m f) (.int _) c'=.ok (.lst (cF m f i)) c':=λc'=>by unfold bG;rw[iX,JJ f hi]
 have:=xC (c:=c) (g:=aB 0) (t:=aT) (a:=uK) (λe=>∃v,e=[v,Y (.int i),Y (bG m f)]) (λ_=>L) (λd=>match d with|.int k=>.bl (eg f i k.toNat)|d=>d) (aW 0 m) [O,Y (.int i),Y (bG m f)] [] ⟨_,rfl⟩ (λd hd e ⟨v,he⟩=>by
  subst he;obtain⟨k',rfl,k0,k1⟩:=jc hd;obtain⟨k,rfl⟩:=nL k0;have h2:∀c',aD (.lst (cF m f i)) (.int k) c'=.ok (.bl (f i k)) c':=λc'=>by rw[iX,y9 f i (by omega)]
  refine⟨_,rfl,⟨_,rfl⟩,rfl,λ_=>?_⟩
  show uK [Y (.int k),Y (.int i),Y (bG m f)] c=_
  generalize bG m f=T at *
  unfold uK
  by_cases e:i=k
  ·subst e;simp[eg]
  ·have e':¬(i:Int)=k:=by omega
   simp[e',eg,e,h1,h2])
 rw[this,Q0,O9,Lz]
 congr 1
theorem aes{q i:Int}{T a0:Option D}{c:aa}{l:List D}(b:-4611686018427387904<=q/\q<4611686018427387904) (hl:(aW 0 q).length<Ξ) (h:bL (λ_=>True) (aB 0) aT uK (aW 0 q) [O,Y (.int i),T] [] c=.ok l c):rj [Y (.int i),Y (.int q),T] c=.ok (.lst l) c:=by
 unfold rj;simp;rw[if_pos (by omega)]
 simp;rw[if_pos hl];have:f7 [O,Y 0,Y 2] [Y (D.int i),Y (.int q),T]=[O,Y (.int i),T]:=by cases T<;>rfl
 rw[this,h];rfl
theorem aeo{m:Nat}(f:Nat->Nat->Bool) (hm:m<1000) (c:aa):bL (λ_=>True) (aB 0) aT rj (aW 0 (m:Int)) [O,Y (.int (m:Int)),Y (bG m f)] [] c=.ok ((Ω m).map λi=>.lst (cF m (eg f) i)) c:=by
 have hs:=fH (n:=1000) (by decide)
 have:=xC (g:=aB 0) (t:=aT) (a:=rj) (λe=>∃v,e=[v,Y _,Y (bG m f)]) (λ_=>L) (λd=>match d with|.int k=>.lst (cF m _ k.toNat)|d=>d) (aW 0 m) [O,Y (.int (m:Int)),Y _] [] ⟨_,rfl⟩ (λd hd e ⟨v,he⟩=>by
  subst he;obtain⟨k',rfl,k0,k1⟩:=jc hd;obtain⟨k,rfl⟩:=nL k0;refine⟨_,rfl,⟨_,rfl⟩,rfl,λ_=>?_⟩
  exact aes (a0:=O) (by omega) (by rw[g9];omega) (aep f (by omega) c))
 rw[this,Q0,O9,Lz]
 congr 1
theorem aeq{q:Int}{T:D}{c:aa}{l:List D}(b:-4611686018427387904<=q/\q<4611686018427387904) (hl:(aW 0 q).length<Ξ) (hn:aS [T] c=.ok (.int q) c) (h:bL (λ_=>True) (aB 0) aT rj (aW 0 q) [O,Y (.int q),Y T] [] c=.ok l c) (nr:bB l=L):tE [T] c=.ok (.lst l) c:=by
 have hb:BP=aC _ (aQ (bg _ [O,Y 1,Y 0] _ aT rj)):=rfl;have e1:(aQ (bg (bQ (ao (ak 1) au)) [O,Y 1,Y 0] (aB 0) aT rj)) [Y T,Y (.int q)] c=.ok (.rt (.lst l)) c:=by
  simp;rw[if_pos (by omega)]
  simp;rw[if_pos hl];have:f7 [O,Y 1,Y 0] [Y T,Y _]=[O,Y (.int q),Y T]:=rfl;rw[this,h];rfl
 have e0:(aN 1 (aF aS (ao (ak 0) au))) [Y T,O] c=.ok (.nx [Y T,Y (.int q)]) c:=by simp[hn]
 rw[tE,iB,hb];have es:cC 2 [T]=[Y T,O]:=rfl;rw[es,b9 e0,e1];have kW:noRef (.lst l)=L:=nr;simp only[R.aL];unfold cG;dsimp only;rw[if_pos kW,RN]
theorem aem{m:Nat}(f:Nat->Nat->Bool) (hm:m<1000) (c:aa):tE [bG m f] c=.ok (bG m (eg f)) c:=by
 have hs:=fH (n:=1000) (by decide)
 refine aeq (by omega) (by rw[g9];omega) (len_tab m f c) (aeo f hm c) (gV.mpr λd hd=>?_)
 obtain⟨i,_,rfl⟩:=x6.mp hd;exact DQ m _ i
def cj(m:Nat) (f:Nat->Nat->Bool) (i:Nat):List Nat:=(Ω m).filter λk=>f i k
def sd(m:Nat) (f:Nat->Nat->Bool):D:=.tup ((Ω m).map λi=>.tup (nD (cj m f i)))
def sf:ai:=(aG (ay aD (ak 1) (ak 0)))
theorem ajj{m i:Nat}(f:Nat->Nat->Bool) (c:aa):bL (λ_=>True) (aB 0) sf (ak 0) (aW 0 (m:Int)) [O,Y (.lst (cF m f i))] [] c=.ok (nD (cj m f i)) c:=by
 have:=xC (c:=c) (g:=aB 0) (t:=sf) (a:=ak 0) (λe=>∃v,e=[v,Y (.lst (cF m f i))]) (λd=>match d with|.int k=>f i k.toNat|_=>G) id (aW 0 (m:Int)) [O,Y (.lst (cF m f i))] [] ⟨_,rfl⟩ (λd hd e ⟨v,he⟩=>by
  subst he;obtain⟨k',rfl,k0,k1⟩:=jc hd;obtain⟨k,rfl⟩:=nL k0;have h2:aD (.lst (cF m f i)) (.int (k:Int)) c=.ok (.bl (f i k)) c:=by rw[iX,y9 f i (by omega)]
  refine⟨_,rfl,⟨_,rfl⟩,?_,λ_=>rfl⟩
  show sf [Y (.int (k:Int)),Y (.lst (cF m f i))] c=_;unfold sf;simp only[pF,gR,eS,gz,gs,R.aL,h2,Sk])
 rw[this,Q0,U4]
 congr 1
 unfold aW cj nD;rw[List.filter_map,show((m:Int)-0).toNat=m by omega]
 have e:((λd:D=>match d with|.int k=>f i k.toNat|_=>G) ∘ λk:Nat=>D.int (0+(k:Int)))=λk=>f i k:=by
  funext k
  simp
 rw[e];refine R4 λk _=>?_
 simp
def sj:af:=(aF gr (ao (bg (bQ (ao (aF aS (ao (ak 1) au)) au)) [O,Y 0] (aB 0) (aG (ay aD (ak 1) (ak 0))) (ak 0)) au))
theorem ajk{q:Int}{T:D}{r l:List D}{c:aa}(hn:aS [T] c=.ok (.int q) c) (b:-4611686018427387904<=q/\q<4611686018427387904) (hl:(aW 0 q).length<Ξ) (h:bL (λ_=>True) (aB 0) sf (ak 0) (aW 0 q) [O,Y (.lst r)] [] c=.ok l c) :
  sj [Y (.lst r),Y T] c=.ok (.tup l) c:=by
 unfold sf at h;unfold sj;simp only[pD,cT,kO,rL,eS,gz,gs,cI,R.aL,hn];rw[if_pos (by omega)]
 simp only[R.aL];rw[if_pos hl];have:f7 [O,Y 0] [Y (D.lst r),Y T]=[O,Y (.lst r)]:=rfl;rw[this,h];rfl
theorem ajl{m:Nat}(f:Nat->Nat->Bool) (hm:m<1000) (c:aa):bL (λ_=>True) (aB 0) aT sj ((Ω m).map λi=>.lst (cF m f i)) [O,Y (bG m f)] [] c=.ok ((Ω m).map λi=>.tup (nD (cj m f i))) c:=by
 have hs:=fH (n:=1000) (by decide)
 have hlen:=len_tab m f c;have key:∀(l:List Nat) (v:Option D) (acc:List D),bL (λ_=>True) (aB 0) aT sj (l.map λi=>.lst (cF m f i)) [v,Y (bG m f)] acc c=.ok (acc++l.map λi=>.tup (nD (cj m f i))) c:=by
  intro l
  induction l with
  |nil=>intro v acc;simp
  |cons i l ih =>
   intro v acc;have h1:aB 0 _ [v,Y (bG m f)] c=.ok [Y (.lst (cF m f i)),Y (bG m f)] c:=rfl;rw[E1,mH,h1,R.aL,yr,R.aL,if_pos rfl,(ajk hlen (by omega) (by rw[g9];omega) (ajj f c)),R.aL,ih,RU]
   rfl
 have:=key (Ω m) O []
 rwa[Q0]at this
theorem ajx{m:Nat}(f:Nat->Nat->Bool) (hm:m<1000) (c:aa):wg [bG m f] c=.ok (sd m f) c:=by
 have hs:=fH (n:=1000) (by decide)
 have h:=ajl f hm c;have hb:BH=aQ (aF gr (ao (bg _ [O,Y 0] (aB 0) aT sj) au)):=rfl;rw[wg,iB,hb];have es:cC 1 [bG m f]=[Y (bG m f)]:=rfl;have nr:noRef (sd m f)=L:=by
  refine gV.mpr λd hd=>?_
  obtain⟨i,_,rfl⟩:=x6.mp hd;exact qe _
 have e1:(aQ (aF gr (ao (bg (cO (ak 0)) [O,Y 0] (aB 0) aT sj) au))) [Y (bG m f)] c=.ok (.rt (sd m f)) c:=by
  have hd:cO (ak 0) [Y (bG m f)] c=.ok ⟨(Ω m).map λi=>.lst _,λ_=>True⟩ c:=rfl
  have hp:f7 [O,Y 0] [Y (bG m f)]=[O,Y (bG m f)]:=rfl;simp only[pC,pD,cT,kO,hd,cI,R.aL];rw[if_pos (by rw[x8,S1];omega),hp,h]
  rfl
 rw[es,e1];simp;unfold sd at nr ⊢;unfold cG;dsimp only;rw[if_pos nr,RN]
def kN(m:Nat) (ps:List (Nat×Nat)):Prop:=∀p∈ps,p.1<m/\p.2<m/\p.1≠p.2
def dZ(f:Nat->Nat->Bool):Prop:=(∀i,f i i=G)/\∀i k,f i k=f k i
theorem aav{m:Nat}{ps:List (Nat×Nat)}(h:kN m ps):dZ (iQ ps):=by
 refine⟨λi=>?_,λi k=>?_⟩
 ·unfold iQ;rw[WR];intro p hp;have:=(h p hp).2.2;simp only[SR,RI,beq_iff_eq];omega
 ·unfold iQ
  congr 1
  funext p
  rw[Bool.or_comm]
  congr 1<;>rw[Bool.and_comm]
theorem QB{f:Nat->Nat->Bool}(h:dZ f):dZ (eg f):=by
 refine⟨λi=>by simp[eg],λi k=>?_⟩
 unfold eg;rw[h.2 i k]
 congr 2
 exact decide_eq_decide.mpr ⟨Eq.symm,Eq.symm⟩
theorem ah9{f:Nat->Nat->Bool}(h:dZ f) {a b:Nat}(hab:a≠b):dZ (uY f a b):=by
 have e:∀i k,uY f a b i k=if(i=b/\k=a)\/(i=a/\k=b)then !f a b else f i k:=λi k=>by
  unfold uY;have e1:f6 f a b (!f a b) b a=f a b:=by
   unfold f6;rw[if_neg (λz=>hab z.2),h.2 b a]
  rw[e1];unfold f6
  by_cases h1:i=b/\k=a
  ·rw[if_pos h1,if_pos (.inl h1)]
  ·rw[if_neg h1]
   by_cases h2:i=a/\k=b
   ·rw[if_pos h2,if_pos (.inr h2)]
   ·rw[if_neg h2,if_neg (λz=>z.elim h1 h2)]
 refine⟨λi=>?_,λi k=>?_⟩
 ·rw[e,if_neg (by omega),h.1 i]
 ·rw[e,e,h.2 i k]
  by_cases h1:(i=b/\k=a)\/(i=a/\k=b)
  ·rw[if_pos h1,if_pos (by omega)]
  ·rw[if_neg h1,if_neg (by omega)]
theorem Zg{f:Nat->Nat->Bool}(h:dZ f) {os:List Nat}{m:Nat}(hm:os.length=m):dZ (gh os f m 0):=by
 have e:∀a b,gh os f m 0 a b=if os.idxOf a<m/\os.idxOf b<m then f (os.idxOf a) (os.idxOf b)else G:=λa b=>by
  unfold gh;rw[hm]
  by_cases h1:os.idxOf a<m
  ·rw[if_pos (.inl h1)]
   by_cases h2:os.idxOf b<m
   ·rw[if_pos h2,if_pos ⟨h1,h2⟩]
   ·rw[if_neg h2,if_neg (λz=>h2 z.2)]
  ·rw[if_neg (by omega),if_neg (λz=>h1 z.1)]
 refine⟨λi=>?_,λi k=>?_⟩
 ·rw[e,h.1];simp
 ·rw[e,e,h.2]
  by_cases h1:os.idxOf i<m/\os.idxOf k<m
  ·rw[if_pos h1,if_pos ⟨h1.2,h1.1⟩]
  ·rw[if_neg h1,if_neg (λz=>h1 ⟨z.2,z.1⟩)]
theorem M3(ps:List (Nat×Nat)):bB (ps.map aR)=L:=gV.mpr λd hd=>by
 obtain⟨p,_,rfl⟩:=x6.mp hd;rfl
def W{α:Type}(r:R α) (Q:α->aa->Prop):Prop:=∃a c,r=.ok a c/\Q a c
theorem aX{α:Type}{a:α}{c:aa}{Q:α->aa->Prop}:W (.ok a c) Q↔Q a c:=Iff.intro (λh=>by obtain⟨_,_,e,q⟩:=h;cases e;exact q) λq=>⟨a,c,rfl,q⟩
theorem bK{α β:Type}{r:R α}{f:α->aa->R β}{Q:β->aa->Prop}:W (r.bind f) Q↔W r λa c=>W (f a c) Q:=by
 cases r with
 |ok a c=>rw[R.aL,aX]
 |bad=>exact Iff.intro (λh=>by obtain⟨_,_,e,_⟩:=h;cases e) λh=>by obtain⟨_,_,e,_⟩:=h;cases e
theorem W.imp{α:Type}{r:R α}{Q Q':α->aa->Prop}(h:W r Q) (k:∀a c,Q a c->Q' a c):W r Q':=let⟨a,c,e,q⟩:=h;⟨a,c,e,k a c q⟩
theorem fB{α:Type}{p:Prop} [Decidable p] {r s:R α}{Q:α->aa->Prop}(h:p) (q:W r Q):W (if p then r else s) Q:=by rw[if_pos h];exact q
def Nx(I:Ev->aa->Prop):Fl->aa->Prop:=λf c=>∃e,f=.nx e/\I e c
theorem Nx.of{I:Ev->aa->Prop}{e:Ev}{c:aa}(h:I e c):Nx I (.nx e) c:=⟨e,rfl,h⟩
theorem Jj{g:Gd}{s:ah}(inv:Nat->Ev->aa->Prop) {Q:Fl->aa->Prop}:∀(items:List D) (k:Nat) {e:Ev}{c:aa},inv k e c ->
  (∀i x e c,items[i]? = Y x->inv (k+i) e c->W (g x e c) λe c=>W (s e c) (Nx (inv (k+i+1))))->(∀e c,inv (k+items.length) e c->Q (.nx e) c)->W (cy (λ_=>True) g s items e c) Q
 |[],k,e,c,h,_,q=>by rw[acA,aX];exact q e c h
 |x::xs,k,e,c,h,st,q=>by
  rw[kr,bK];refine(st 0 x e c rfl h).imp λe c h=>?_
  rw[bK];refine h.imp λf c ⟨e',hf,h⟩=>?_
  subst hf;refine Jj inv xs _ h (λi y e c hy=>?_) λe c h=>q e c (by rw[Iv,show k+_=k+1+xs.length by omega];exact h)
  rw[show k+1+i=k+(i+1) by omega]
  exact st (i+1) y e c hy
theorem Ji{g:Gd}{s:ah}(inv:Nat->Ev->aa->Prop) {Q:Fl->aa->Prop}{items:List D}{e:Ev}{c:aa}(h:inv 0 e c)
  (st:∀(I:Ev->aa->Prop) i x e c,items[i]? = Y x->inv i e c->(∀e c,inv (i+1) e c->I e c)->W (g x e c) λe c=>W (s e c) (Nx I)) (q:∀e c,inv items.length e c->Q (.nx e) c):W (cy (λ_=>True) g s items e c) Q :=
 Jj inv items 0 h (λi x e c hx h=>by rw[QV]at h ⊢;exact st _ i x e c hx h λ_ _ h=>h) (by rw[QV];exact q)
theorem uR{g:Gd}{s:ah}(inv:Nat->Ev->aa->Prop) {Q:Fl->aa->Prop}{items:List D}{e:Ev}{c:aa}(h:inv 0 e c)
  (st:∀(I:Ev->aa->Prop) i x e c,i<items.length->x∈items->inv i e c->(∀e c,inv (i+1) e c->I e c)->W (g x e c) λe c=>W (s e c) (Nx I)) (q:∀e c,inv items.length e c->Q (.nx e) c):W (cy (λ_=>True) g s items e c) Q :=
 Ji inv h (λI i x e c hx=>st I i x e c (Q7.mp hx).1 (R5 hx)) q
theorem pI{E:Ev}{t:ai}{a:af}(inv:List D->aa->Prop) {Q:List D->aa->Prop}:∀{items:List D}{v:Option D}{acc:List D}{c:aa},inv acc c ->
  (∀(Θ:List D->aa->Prop) x acc c,x∈items->inv acc c->(∀l c,inv l c->Θ l c)->W (t (Y x::E) c) λb c=>if b=L then W (a (Y x::E) c) λd c=>Θ (acc++[d]) c else Θ acc c)->(∀l c,inv l c->l.length<=acc.length+items.length->Q l c)->W (bL (λ_=>True) (aB 0) t a items (v::E) acc c) Q
 |[],v,acc,c,h,_,q=>by
  unfold bL;rw[if_pos trivial,aX];exact q acc c h (ZA _)
 |x::xs,v,acc,c,h,st,q=>by
  rw[mH,show aB 0 x _ c=.ok _ c from rfl,R.aL,bK]
  refine(st inv x acc c (.head _) h λ_ _ h=>h).imp λb c h=>?_
  cases b with
  |true =>
   rw[if_pos rfl]at h ⊢;rw[bK];exact h.imp λd c h=>pI inv h (λΘ y acc c hy=>st Θ y acc c (.tail _ hy)) λl c hl hn=>q l c hl (by simp at hn ⊢;omega)
  |false =>
   exact pI inv h (λΘ y acc c hy=>st Θ y acc c (.tail _ hy)) λl c hl hn=>q l c hl (by simp at hn ⊢;omega)
theorem mU{j n:Nat}{c t:aa}{eE:Int}{Q:D->aa->Prop}(h:dS j n c) (h0:0<eE) (h1:eE<1073741824) (q:∀x c',0<=x->x<eE->dS j n c'->Q (.int x) (c'++t)):W (d8 [.ref j,.int eE] (c++t)) Q:=by
 obtain⟨hl,hj,p,hp⟩:=id h;refine⟨_,_,take2 (by rw[RJ (by omega)];exact hp) h0 h1,?_⟩
 rw[List.set_append_left _ _ (by omega)]
 exact q _ _ (TL _ (by omega)) (TJ _ h0) (h.set _)
def PR(m:Int) (l:List D):Prop:=∀d∈l,∃a b:Int,d=.tup [.int a,.int b]/\0<=a/\a<m/\0<=b/\b<m/\a≠b
theorem PR.nil(m:Int):PR m []:=λd h=>by cases h
theorem PR.app{m:Int}{l r:List D}(h:PR m l) (k:PR m r):PR m (l++r):=λd hd=>(RO.mp hd).elim (h d) (k d)
theorem PR.snoc{m:Int}{l:List D}(h:PR m l) {a b:Int}(h1:0<=a) (h2:a<m) (h3:0<=b) (h4:b<m) (h5:a≠b):PR m (l++[.tup [.int a,.int b]]):=h.app λd hd=>by
 rw[RG]at hd;exact⟨a,b,hd,h1,h2,h3,h4,h5⟩
theorem PR.EC{m:Int}{l:List D}(h:PR m l):bB l=L:=gV.mpr λd hd=>by
 obtain⟨a,b,rfl,_⟩:=h d hd;rfl
theorem PR.nat{m:Nat}:∀{l:List D},PR m l->∃ps,l=ps.map aR/\kN m ps
 |[],_=>⟨[],rfl,λp h=>by cases h⟩
 |d::l,h=>by
  obtain⟨ps,rfl,hp⟩:=PR.nat λx hx=>h x (.tail _ hx)
  obtain⟨a,b,rfl,h1,h2,h3,h4,h5⟩:=h d (.head _);refine⟨(a.toNat,b.toNat)::ps,by simp[aR,Ud h1,Ud h3],λp qz=>?_⟩
  rcases l8.mp qz with rfl|qz
  ·exact⟨by omega,by omega,by omega⟩
  ·exact hp p qz
theorem w_any{l:List D}(h:∀d∈l,∃b,d=.bl b) (c:aa):∃b,xY [.lst l] c=.ok (.bl b) c:=by
 obtain⟨bs,rfl⟩:∃bs:List Bool,l=bs.map D.bl:=by
  induction l with
  |nil=>exact⟨[],rfl⟩
  |cons d l ih =>
   obtain⟨bs,hb⟩:=ih λx hx=>h x (.tail _ hx)
   obtain⟨b,rfl⟩:=h d (.head _);exact⟨b::bs,by rw[hb];rfl⟩
 refine⟨bs.any id,?_⟩;unfold xY su;dsimp only;rw[GS]
theorem N9(l:List Int) (y:Int) (c:aa):∃b,inD (.int y) (.lst (l.map D.int)) c=.ok (.bl b) c:=by
 have hd:∀l:List Int,fc (l.map D.int)=Y (l.map PyData.int):=λl=>by
  induction l with
  |nil=>rfl
  |cons a l ih=>rw[E1];unfold fc;rw[ih];rfl
 refine⟨(l.map PyData.int).any λz=>z.eqv (.int y),?_⟩
 unfold inD fL cZ;simp[hd,PyData.depth]
theorem gE(a b:Int):(aW a b).length=(b-a).toNat:=by simp[aW]
theorem pU:1000000<Ξ:=by decide
theorem EJ{X:D}{M:List (List Int)}{q:Int}{c:aa}{Q:D->aa->Prop}(hX:∀t,fP (c++t) X=Y (fS M)) (hM:q<=M.length) (hs:∀l∈M,l.length<1000) (hm:q<64) (hq0:0<=q) (hQ:∀l,PR q l->Q (.lst l) c):W (wj [.int q,X] c) Q:=by
 have sz:=pU;have hix:∀(i:Int) (t:aa),0<=i->i<q->∃l:List Int,l.length<1000/\aD X (.int i) (c++t)=.ok (.lst (l.map D.int)) (c++t):=λi t i0 i1=>by
  obtain⟨k,rfl⟩:=nL i0;have hk:k<M.length:=by omega
  refine⟨M[k],hs _ (RH hk),?_⟩;unfold aD;dsimp only;rw[hX t];dsimp only;rw[jm (j:=k) (v:=.lst (M[k].map D.int)) (by simp[fS,hk])]
 simp[wj,BL,bK,aX];refine fB (by omega) (aX.mpr (uR (λi e c'=>∃l v3 v4,e=[Y (.int q),Y X,Y (.ref c.length),v3,v4]/\c'=c++[.lst l]/\PR q l/\l.length<=64*i) ⟨[],O,O,rfl,rfl,PR.nil q,by simp⟩ ?_ ?_))
 ·rintro I i x e c' hi hx ⟨l,v3,v4,rfl,rfl,hl,hn⟩ hI
  obtain⟨a,rfl,a0,a1⟩:=jc hx;simp[bK,aX,gE]at hi ⊢;refine fB (by omega) (aX.mpr (uR (λk e c'=>∃l v4,e=[Y (.int q),Y X,Y (.ref c.length),Y (.int a),v4]/\c'=c++[.lst l]/\PR q l/\l.length<=64*i+k) ⟨l,v4,rfl,rfl,hl,by omega⟩ ?_ ?_))
  ·rintro Θ k y e c' hk hy ⟨l,v4,rfl,rfl,hl,hn⟩ hJ
   obtain⟨b,rfl,b0,b1⟩:=jc hy;obtain⟨ra,ha1,ha⟩:=hix a [.lst l] a0 a1;obtain⟨rb,hb1,hb⟩:=hix b [.lst l] (by omega) b1
   simp[bK,aX,ha,gE]at hk ⊢;refine fB (by omega) ?_
   rw[bK];refine pI (λz c'=>c'=c++[.lst l]/\∀d∈z,∃b,d=.bl b) ⟨rfl,λd h=>by cases h⟩ ?_ ?_
   ·rintro K x z c' hx ⟨rfl,hz⟩ hK
    obtain⟨y,-,rfl⟩:=x6.mp hx;obtain⟨u,hu⟩:=N9 rb y (c++[.lst l]);simp[bK,aX,hb,hu];exact hK _ _ ⟨rfl,λd hd=>(RO.mp hd).elim (hz d) λh=>⟨u,RG.mp h⟩⟩
   ·rintro z c' ⟨rfl,hz⟩ -
    obtain⟨u,hu⟩:=w_any hz (c++[.lst l]);have h3:l.length<Ξ:=by omega
    cases u<;>simp[bK,aX,hu,uz,(by omega),h3]
    ·exact .of (hJ _ _ ⟨l,_,rfl,rfl,hl,by omega⟩)
    ·exact .of (hJ _ _ ⟨_,_,rfl,rfl,hl.snoc a0 a1 (by omega) b1 (by omega),by simp;omega⟩)
  ·rintro e c' ⟨l,v4,rfl,rfl,hl,hn⟩
   exact .of (hI _ _ ⟨l,_,v4,rfl,rfl,hl,by simp[gE]at hn;omega⟩)
 ·rintro e c' ⟨l,v3,v4,rfl,rfl,hl,hn⟩
  simp[aX,cG];exact hQ l hl
theorem aiv(m:Nat) (f:Nat->Nat->Bool):noRef (bG m f)=L:=by
 refine gV.mpr λd hd=>?_
 obtain⟨i,_,rfl⟩:=x6.mp hd;exact DQ m f i
theorem Gh(m:Nat) (f:Nat->Nat->Bool) (n:Nat) (c:aa):cG G n (bG m f) c=.ok (bG m f) (c.take n):=by
 have nr:=aiv m f;unfold bG at nr ⊢;unfold cG;dsimp only;rw[if_pos nr]
theorem kN.isIn{m:Nat}{ps:List (Nat×Nat)}(h:kN m ps):IE m ps:=λp hp=>⟨(h p hp).1,(h p hp).2.1⟩
theorem Jh{q:Int}{l:List D}{X:D}{c:aa}{Q:D->aa->Prop}(h0:0<=q) (h1:q<1000) (hl:PR q l) (hX:(∃k,X=.ref k/\c[k]? = Y (.lst l))\/X=.lst l) (hQ:∀(m:Nat) ps,q=m->kN m ps->Q (bG m (iQ ps)) c):W (wk [.int q,X] c) Q:=by
 obtain⟨m,rfl⟩:=nL h0;obtain⟨ps,rfl,hp⟩:=hl.nat;exact⟨_,_,aau hp.isIn (by omega) hX,hQ m ps rfl hp⟩
theorem lM{j n:Nat}{c:aa}{eE:Int}{Q:D->aa->Prop}(h:dS j n c) (h0:0<eE) (h1:eE<1073741824) (q:∀x c',0<=x->x<eE->dS j n c'->Q (.int x) c'):W (d8 [.ref j,.int eE] c) Q:=by
 have:=mU h h0 h1 λx c' a b p=>by rw[RY];exact q x c' a b p
 rwa[RY]at this
def Ex(n:Nat) (Q:D->aa->Prop):D->aa->Prop:=λv c=>∃z d l,v=.lst z/\c=d++[.lst l]/\d.length=n/\l.length+z.length<=1000000/\bB z=L/\Q .aE (d++[.lst (l++z)])
theorem yE{dO da:af}{e:Ev}{c:aa}{n:Nat}{Q:D->aa->Prop}(h1:dO e c=.ok (.ref n) c) (h:W (da e c) (Ex n Q)):W (gk dO da e c) Q:=by
 have sz:=pU;unfold gk;rw[h1];simp;rw[bK];refine h.imp λv c' hh=>?_
 obtain⟨z,d,l,rfl,rfl,hn,hl,nr,q⟩:=hh;have e1:(d++[Cell.lst l])[n]? = Y (.lst l):=by rw[<-hn];simp
 rw[e1];dsimp only;rw[if_pos ⟨by omega,nr⟩,aX,<-hn,TH _ _ (ZA _),S3]
 exact q
theorem ajX{j n:Nat}{c:aa}{most:Int}{Q:D->aa->Prop}(hP:dS j n c) (h0:0<most) (h1:most<60) (hQ:∀(m:Nat) ps c',1<=m->(m:Int)<=most->kN m ps->dS j n c'->Q (bG m (iQ ps)) c'):W (zK [.ref j,.int most] c) Q:=by
 have sz:=pU;have hn:=hP.1;simp[zK,BG,bK,aX];refine lM hP h0 (by omega) λy c1 y0 y1 P1=>?_
 simp[bK,aX];refine lM P1 (by decide) (by decide) λz c2 z0 z1 P2=>?_
 simp[bK,aX];refine fB (by omega) (aX.mpr (uR (λi e c'=>∃l d v5,e=[Y (.ref j),Y (.int most),Y (.int (1+y)),Y (.int (1+z)),Y (.ref c2.length),v5]/\c'=d++[.lst l]/\dS j n d/\PR (1+y) l/\l.length<=60*i) ⟨[],c2,O,rfl,rfl,P2,PR.nil _,by simp⟩ ?_ ?_))
 ·rintro I i x e c' hi hx ⟨l,d,v5,rfl,rfl,P,hl,z7⟩ hI
  obtain⟨a,rfl,a0,a1⟩:=jc hx;simp[gE]at hi;simp[bK,aX];refine yE (n:=c2.length) rfl ?_;simp[bK];refine fB (by omega) (aX.mpr (fB (by simp[gE];omega) (bK.mpr (pI (E:=[Y (.int a),Y (.int (1+z)),Y (.ref j)]) (λz c'=>PR (1+y) z/\∃d,c'=d++[.lst l]/\dS j n d) ⟨PR.nil _,d,rfl,P⟩ ?_ ?_))))
  ·rintro Θ x z' c' hx ⟨hz,d,rfl,P⟩ hJ
   obtain⟨b,rfl,b0,b1⟩:=jc hx;have h2:(2:Nat)<=Ξ:=by omega
   simp[bK,aX];refine mU P (by decide) (by decide) λx d x0 x1 P=>?_
   simp[bK,aX,h2];split
   ·exact hJ _ _ ⟨hz.snoc a0 a1 (by omega) b1 (by omega),d,rfl,P⟩
   ·exact hJ _ _ ⟨hz,d,rfl,P⟩
  ·rintro z' c' ⟨hz,d,rfl,P⟩ t7
   simp[gE]at t7;rw[aX];exact⟨z',d,l,rfl,rfl,by rw[P.1,P2.1],by omega,hz.EC,.of (hI _ _ ⟨_,d,_,rfl,rfl,P,hl.app hz,by simp;omega⟩)⟩
 ·rintro e c' ⟨l,d,v5,rfl,rfl,P,hl,z7⟩
  simp[bK,aX];refine Jh (by omega) (by omega) hl (.inl ⟨_,rfl,by rw[P2.1,<-P.1];simp⟩) λm ps hm hp=>?_
  simp[aX,Gh];rw[WI (by rw[P.1,hn];exact ZA _),TN (by rw[P.1,hn];exact ZA _)]
  exact hQ m ps d (by omega) (by omega) hp P
theorem PR.comp{q:Int}{E:Ev}{t:ai}{a:Int}{c:aa}{Q:List D->aa->Prop}(a0:0<=a) (a1:a<q) (ht:∀b,∃u,t (Y (.int b)::Y (.int a)::E) c=.ok u c) (hQ:∀l,PR q l->l.length<=(q-(a+1)).toNat->Q l c) :
  W (bL (λ_=>True) (aB 0) t (bY (ao (ak 1) (ao (ak 0) au))) (aW (a+1) q) (O::Y (.int a)::E) [] c) Q:=by
 refine pI (λz c'=>PR q z/\c'=c) ⟨PR.nil _,rfl⟩ ?_ ?_
 ·rintro Θ x z c' hx ⟨hz,rfl⟩ hJ
  obtain⟨b,rfl,b0,b1⟩:=jc hx;obtain⟨u,hu⟩:=ht b;cases u<;>simp[aX,hu,(by omega)]
  ·exact hJ _ _ ⟨hz,rfl⟩
  ·exact hJ _ _ ⟨hz.snoc a0 a1 (by omega) b1 (by omega),rfl⟩
 ·rintro z c' ⟨hz,rfl⟩ hn
  exact hQ z hz (by simpa[gE]using hn)
theorem OH{q:Int}{n:Nat}{d:aa}{E:Ev}{t:ai}{pick:List (Option Nat)}{v0 v1 v2 σ:Option D}{Q:Fl->aa->Prop}(hn:d.length=n) (q0:0<=q) (q1:q<64) (ht:∀a b c,∃u,t (Y (.int b)::Y (.int a)::E) c=.ok u c) (hp:∀a,f7 pick [v0,v1,v2,Y (.int q),Y (.ref n),O,O,O,O,Y (.int a),O,O,σ]=O::Y (.int a)::E)
  (hQ:∀l v9,PR q l->l.length<=4096->Q (.nx [v0,v1,v2,Y (.int q),Y (.ref n),O,O,O,O,v9,O,O,σ]) (d++[.lst l])) :
  W (cy (λ_=>True) (aB 9) (dg (gk (ak 4) (bg (fM (ao (ay bZ (ak 9) (dC (.int 1))) (ao (ak 3) au))) pick (aB 0) t (bY (ao (ak 1) (ao (ak 0) au)))))) (aW 0 q) [v0,v1,v2,Y (.int q),Y (.ref n),O,O,O,O,O,O,O,σ] (d++[.lst []])) Q:=by
 have sz:=pU;refine uR (λi e c=>∃l v9,e=[v0,v1,v2,Y _,Y _,O,O,O,O,v9,O,O,σ]/\c=d++[.lst l]/\PR q l/\l.length<=64*i) ⟨[],O,rfl,rfl,PR.nil _,by simp⟩ ?_ ?_
 ·rintro I i x e c hi hx ⟨l,v9,rfl,rfl,hl,z7⟩ hI
  obtain⟨a,rfl,a0,a1⟩:=jc hx;simp[gE]at hi;simp[bK,aX];refine yE rfl ?_;simp[bK,hp];refine fB (by omega) (aX.mpr (fB (by simp[gE];omega) (bK.mpr (PR.comp a0 a1 (λb=>ht a b _) λz hz t7=>?_))))
  rw[aX];exact⟨z,d,l,rfl,rfl,hn,by omega,hz.EC,.of (hI _ _ ⟨_,_,rfl,rfl,hl.app hz,by simp;omega⟩)⟩
 ·rintro e c ⟨l,v9,rfl,rfl,hl,hn⟩
  exact hQ l v9 hl (by simp[gE]at hn;omega)
theorem Kn{q s k:Int}(h1:1<=s) (h2:s<q) (k0:0<=k) (k1:k<q):k≠(k+s) % q:=λe=>by
 by_cases h:k+s<q
 ·rw[Uy (by omega) h]at e;omega
 ·have:(k+s) % q=k+s-q:=by
   rw[<-Int.sub_emod_right,Uy (by omega) (by omega)]
  omega
theorem comp_map{E:Ev}{a:af}{c:aa}{f g:Nat->D}:∀(l:List Nat) (v:Option D) (acc:List D),(∀i∈l,a (Y (f i)::E) c=.ok (g i) c)->bL (λ_=>True) (aB 0) aT a (l.map f) (v::E) acc c=.ok (acc++l.map g) c
 |[],v,acc,_=>by simp
 |i::l,v,acc,h=>by
  rw[E1,mH,show aB 0 _ _ c=.ok (Y _::E) c from rfl,R.aL,yr,R.aL,if_pos rfl,h i (.head _),R.aL,comp_map l _ _ λk hk=>h k (.tail _ hk)]
  simp
theorem yF{E:Ev}{a:af}{c:aa}{lo hi:Int}{v:Option D}{Q:List D->aa->Prop}(ξ:Int->D) (h:∀b,lo<=b->b<hi->a (Y (.int b)::E) c=.ok (ξ b) c) (q:Q ((Ω (hi-lo).toNat).map λi:Nat=>ξ (lo+i)) c):W (bL (λ_=>True) (aB 0) aT a (aW lo hi) (v::E) [] c) Q :=
 ⟨_,_,comp_map _ v [] λi hi=>h _ (by omega) (by have:=H8.mp hi;omega),q⟩
theorem CQ{q:Int}{t:ai}{c:aa}{st:aa->Prop}(hst:st c) (ht:∀a b:Int,∃x,t [Y (.int a),Y (.int b)] c=.ok x c):∀(l:List D) (v w:Option D) (acc:List D),PR q l->PR q acc->∃z,PR q z/\bL st (gG 2 (dj (aB 0) (dj (aB 1) gZ))) t (bY (ao (ak 0) (ao (ak 1) au))) l [v,w] acc c=.ok z c
 |[],v,w,acc,_,ha=>⟨acc,ha,by unfold bL;rw[if_pos hst]⟩
 |d::l,v,w,acc,hl,ha=>by
  have h2:(2:Nat)<=Ξ:=by have:=pU;omega
  obtain⟨a,b,rfl,r⟩:=hl d (.head _);obtain⟨u,hu⟩:=ht a b;have hl':PR q l:=λx hx=>hl x (.tail _ hx)
  unfold bL;rw[if_pos hst];cases u with
  |true =>
   obtain⟨z,hz,e⟩:=CQ hst ht l (Y (.int a)) (Y (.int b)) (acc++[.tup [.int a,.int b]]) hl' (ha.snoc r.1 r.2.1 r.2.2.1 r.2.2.2.1 r.2.2.2.2);exact⟨z,hz,by simp[hu,h2];exact e⟩
  |false =>
   obtain⟨z,hz,e⟩:=CQ hst ht l (Y (.int a)) (Y (.int b)) acc hl' ha;exact⟨z,hz,by simp[hu];exact e⟩
theorem ahb{a th q most:Int}{j n N:Nat}{d:aa}{M:List (List Int)}{K:Ev->aa->Prop}(hN:d.length+1=N) (a0:0<=a) (t1:th<=5) (t0:0<=th) (hM:∀r∈M,r.length<1000) (OD:M.length<=64)
  (hK:∀M',(∀r∈M',r.length<1000)->M'.length=M.length+(th-(a+1)).toNat->K [Y (.ref j),Y (.int most),Y (.int 1),Y (.int q),Y (.ref n),O,O,Y (.int th),Y (.ref N),Y (.int a),O,O,O] (d++[.lst [],.lst (fS M')])) (a9:a<5) :
  W (dg (gk (ak 8) (bg (fM (ao (ay bZ (ak 9) (dC (.int 1))) (ao (ak 7) au))) [O,Y 9] (aB 0) aT (ff (ao (ak 1) (ao (ak 0) au))))) [Y (.ref j),Y (.int most),Y (.int 1),Y (.int q),Y (.ref n),O,O,Y (.int th),Y (.ref N),Y (.int a),O,O,O] (d++[.lst [],.lst (fS M)])) (Nx K):=by
 have sz:=pU;have h2:(2:Nat)<=Ξ:=by omega
 simp[bK,aX];refine yE (n:=N) rfl ?_;simp[bK];refine fB (by omega) (aX.mpr (fB (by simp[gE];omega) (bK.mpr (yF (E:=[Y (.int a)]) (λb=>.lst ([a,b].map D.int)) (λb _ _=>by simp[h2]) ?_))))
 rw[aX];refine⟨_,d++[.lst []],fS M,rfl,by simp,by simp[hN],by simp[fS];omega,gV.mpr λy hy=>?_,.of ?_⟩
 ·obtain⟨k,-,rfl⟩:=x6.mp hy;rfl
 ·have e:d++[.lst []]++[Cell.lst (fS M++(Ω (th-(a+1)).toNat).map λi:Nat=>D.lst ([a,a+1+i].map D.int))]=d++[.lst [],.lst (fS (M++(Ω (th-(a+1)).toNat).map λi:Nat=>[a,a+1+(i:Int)]))]:=by simp[fS,Td]
  rw[e];refine hK _ (λr hr=>?_) (by simp)
  rcases RO.mp hr with h|h
  ·exact hM r h
  ·obtain⟨k,-,rfl⟩:=x6.mp h;simp
def Way(j n:Nat) (most:Int) (e:Ev) (c:aa):Prop:=∃(q:Int) (X:D) (l:List D) (d t:aa),e[3]? = Y (Y (.int q))/\e[4]? = Y (Y X)/\1<=q/\q<=most/\PR q l/\((∃k,X=.ref k/\c[k]? = Y (.lst l))\/X=.lst l)/\c=d++t/\dS j n d
theorem aki{j n:Nat}{c:aa}{most:Int}{Q:D->aa->Prop}(hP:dS j n c) (h0:0<most) (h1:most<60) (hQ:∀(m:Nat) ps c',1<=m->(m:Int)<=most->kN m ps->dS j n c'->Q (bG m (iQ ps)) c'):W (zL [.ref j,.int most] c) Q:=by
 have sz:=pU;have hn:=hP.1;simp[zL,BI,bK,aX];refine lM hP (by decide) (by decide) λway c1 w0 w1 P1=>?_
 simp[bK,aX];refine lM P1 h0 (by omega) λx c2 x0 x1 P2=>?_
 simp[bK,aX];have hl2:=P2.1;refine W.imp (Q:=Nx (Way j n most)) ?_ ?_
 ·generalize hW:Way j n most=I
  have hI:∀e c,Way j n most e c->I e c:=λe c h=>hW▸h
  clear hW hQ
  generalize hq:1+x=q
  have hq1:1<=q:=by omega
  have hq2:q<=most:=by omega
  clear hq x0 x1;have hd:∀l,(c2++[Cell.lst l])[n]? = Y (.lst l):=λl=>by rw[<-hl2];simp
  have h2:(2:Nat)<=Ξ:=by omega
  have h1':(1:Nat)<=Ξ:=by omega
  have h4':(4:Nat)<=Ξ:=by omega
  rw[hl2]
  by_cases e0:way=0
  ·simp(disch:=omega) [e0,bK,aX,xo];refine fB (by omega) (aX.mpr (fB (by simp[gE];omega) (bK.mpr (pI (E:=[Y (.ref j)]) (λz c'=>(∀y∈z,∃s:Int,y=.int s/\1<=s/\s<q)/\∃d,c'=d++[.lst []]/\dS j n d) ⟨(λy h=>by cases h),c2,rfl,P2⟩ ?_ ?_))))
   ·rintro Θ x z c' hx ⟨hz,d,rfl,P⟩ hJ
    obtain⟨s,rfl,s0,s1⟩:=jc hx;simp[bK,aX];refine mU P (by decide) (by decide) λu d u0 u1 P=>?_
    simp[aX];split
    ·exact hJ _ _ ⟨λy hy=>(RO.mp hy).elim (hz y) λh=>⟨s,RG.mp h,by omega,by omega⟩,d,rfl,P⟩
    ·exact hJ _ _ ⟨hz,d,rfl,P⟩
   ·rintro z c' ⟨hz,d,rfl,P⟩ t7
    simp[gE]at t7;simp[aX];refine uR (λi e c=>∃l v6,e=[Y (.ref j),Y (.int most),Y (.int 0),Y (.int q),Y (.ref n),Y (.lst z),v6,O,O,O,O,O,O]/\c=d++[.lst l]/\PR q l/\l.length<=64*i) ⟨[],O,rfl,rfl,PR.nil _,by simp⟩ ?_ ?_
    ·rintro K i x e c hi hx ⟨l,v6,rfl,rfl,hl,z7⟩ hK
     obtain⟨s,rfl,s0,s1⟩:=hz x hx;simp[bK,aX];refine yE (n:=n) rfl ?_;simp[bK];refine fB (by omega) (aX.mpr (fB (by simp[gE];omega) (bK.mpr (pI (E:=[Y (.int q),Y (.int s)]) (λz c'=>PR q z/\c'=d++[.lst l]) ⟨PR.nil _,rfl⟩ ?_ ?_))))
     ·rintro Θ x z c' hx ⟨hz,rfl⟩ hJ
      obtain⟨k,rfl,k0,k1⟩:=jc hx;simp(disch:=omega) [aX,nM,h2];exact hJ _ _ ⟨hz.snoc k0 k1 (TL _ (by omega)) (TJ _ (by omega)) (Kn s0 s1 k0 k1),rfl⟩
     ·rintro z c' ⟨hz,rfl⟩ t7
      simp[gE]at t7;rw[aX];exact⟨z,d,l,rfl,rfl,P.1,by omega,hz.EC,.of (hK _ _ ⟨_,_,rfl,rfl,hl.app hz,by simp;omega⟩)⟩
    ·rintro e c ⟨l,v6,rfl,rfl,hl,-⟩
     exact .of (hI _ _ ⟨q,.ref n,l,d,[.lst l],rfl,rfl,hq1,hq2,hl,.inl ⟨n,rfl,by rw[<-P.1];simp⟩,rfl,P⟩)
  by_cases e1:way=1
  ·simp(disch:=omega) [e1,bK,aX,h4'];refine mU P2 (by decide) (by decide) λu d u0 u1 P=>?_
   have hu:∀c,aD (.lst [.int 2,.int 3,.int 4,.int 5]) (.int u) c=.ok (.int (u+2)) c:=λc=>by
    rcases(by omega:u=0\/u=1\/u=2\/u=3)with rfl|rfl|rfl|rfl<;>rfl
   have hdl:=P.1;have ht:2<=u+2/\u+2<=5:=by omega
   generalize u+2=th at hu ht
   have t0:2<=th/\th<=5:=ht;simp[hu,aX];obtain⟨N,hN⟩:∃N,d.length+1=N:=⟨_,rfl⟩;rw[hN];refine fB (by omega) (aX.mpr (Ji (λi e c=>∃M v9,e=[Y (.ref j),Y (.int most),Y (.int 1),Y (.int q),Y (.ref n),O,O,Y (.int th),Y (.ref N),v9,O,O,O]/\c=d++[.lst [],.lst (fS M)]/\(∀r∈M,r.length<1000)/\M.length<=8*i/\(0<i->0<M.length)) ⟨[],O,rfl,rfl,(λr h=>by cases h),by simp,λh=>absurd h (RQ 0)⟩ ?_ ?_))
   ·rintro K i x e c hx ⟨M,v9,rfl,rfl,hM,OD,OE⟩ hK
    obtain⟨hi,rfl⟩:=pY hx;exact aX.mpr (ahb hN (by omega) t0.2 (by omega) hM (by omega) (λM' h1 h2=>hK _ _ ⟨M',_,rfl,rfl,h1,by omega,λ_=>by omega⟩) (by omega))
   ·rintro e c ⟨M,v9,rfl,rfl,hM,OD,OE⟩
    have hm0:0<M.length:=OE (by simp[gE];omega)
    have jI:∀t,fP (d++[Cell.lst [],.lst (fS M)]++t) (.ref N)=Y (fS M):=λt=>by rw[<-hN];simp[fP]
    obtain⟨Δ,hL⟩:∃Δ:Int,Δ=(M.length:Nat):=⟨_,rfl⟩;have hlen:aS [.ref N] (d++[Cell.lst [],.lst (fS M)])=.ok (.int Δ) (d++[.lst [],.lst (fS M)]):=by
     have:=jI [];rw[RY]at this;unfold aS;dsimp only;rw[this,hL];simp[fS]
    simp[bK,aX,hlen];refine EJ jI (by split<;>omega) hM (by split<;>omega) (by split<;>omega) λl hl=>?_
    exact .of (hI _ _ ⟨_,_,l,d,_,rfl,rfl,by split<;>omega,by split<;>omega,hl,.inr rfl,rfl,P⟩)
  by_cases e2:way<4
  ·simp(disch:=omega) [e0,e1,e2,bK,aX];refine mU P2 (by split<;>omega) (by split<;>omega) λu d u0 u1 P=>?_
   have hu:1+u<=most/\1+u<=4:=by split at u1<;>omega
   have hh:1<=1+u:=by omega
   simp[aX]
   generalize 1+u=h at hu hh
   have hv1:1<=most/h:=(WH (by omega)).mpr (by omega)
   have hv2:∀v,v<=most/h->v*h<=most:=λv hv=>(WH (by omega)).mp hv
   simp(disch:=omega) [aX,xo]
   generalize most/h=hd at hv1 hv2
   refine mU P (by split<;>omega) (by split<;>omega) λv d v0 v1 P=>?_
   have hw:1<=1+v/\1+v<=hd/\1+v<=4:=by split at v1<;>omega
   simp[aX]
   generalize 1+v=wd at hw
   have FN:=hv2 wd hw.2.1;have Oh:0<wd*h:=Int.mul_pos (by omega) (by omega)
   rw[Int.mul_comm]at FN Oh;simp(disch:=omega) [aX,ES]
   generalize h*wd=q at FN Oh
   have fin:∀e l,PR q l->e[3]? = Y (Y (.int q))->e[4]? = Y (Y (.lst l))->I e (d++[.lst []]):=λe l hl e3 e4=>hI _ _ ⟨q,_,l,d,_,e3,e4,by omega,FN,hl,.inr rfl,rfl,P⟩
   refine fB (by omega) (aX.mpr (fB (by simp[gE];omega) (bK.mpr (yF (E:=[Y (.int wd)]) (λb=>.lst ([b/wd].map D.int)) (λb _ _=>by simp(disch:=omega) [xo,h1']) ?_))))
   obtain⟨σ,hZ⟩:∃σ,σ=(Ω (q-0).toNat).map λi:Nat=>D.lst ([(0+(i:Int))/wd].map D.int):=⟨_,rfl⟩
   rw[aX,<-hZ]
   by_cases Pk:way=2
   ·rw[if_pos Pk];simp[bK,aX];refine fB (by omega) (aX.mpr (fB (by simp[gE];omega) (bK.mpr (yF (E:=[Y (.int wd)]) (λb=>.lst ([b/wd,10+b % wd].map D.int)) (λb _ _=>by simp(disch:=omega) [xo,nM,h2]) ?_))))
    obtain⟨ζ,hY⟩:∃ζ,ζ=(Ω (q-0).toNat).map λi:Nat=>D.lst ([(0+(i:Int))/wd,10+(0+(i:Int)) % wd].map D.int):=⟨_,rfl⟩
    rw[aX,<-hY];refine EJ (M:=(Ω (q-0).toNat).map λi:Nat=>[(0+(i:Int))/wd,10+(0+(i:Int)) % wd]) (λt=>by rw[hY];simp[fP,fS,Td]) (by simp;omega) (λr hr=>by obtain⟨k,-,rfl⟩:=x6.mp hr;simp) (by omega) (by omega) λl hl=>.of (fin _ l hl rfl rfl)
   ·rw[if_neg Pk];simp[bK,aX];refine EJ (M:=(Ω (q-0).toNat).map λi:Nat=>[(0+(i:Int))/wd]) (λt=>by rw[hZ];simp[fP,fS,Td]) (by simp;omega) (λr hr=>by obtain⟨k,-,rfl⟩:=x6.mp hr;simp) (by omega) (by omega) λl hl=>.of (fin _ l hl rfl rfl)
  by_cases e4:way=4
  ·simp(disch:=omega) [e4,bK,aX,h2];refine mU P2 (by decide) (by decide) λu d u0 u1 P=>?_
   obtain⟨v,hv,hu⟩:∃v:Int,5<=v/\∀c,aD (.lst [.int 5,.int 13]) (.int u) c=.ok (.int v) c:=by
    rcases(by omega:u=0\/u=1)with rfl|rfl
    ·exact⟨5,by omega,λ_=>rfl⟩
    ·exact⟨13,by omega,λ_=>rfl⟩
   simp[hu,aX];obtain⟨q,hq,q0,q1⟩:∃q,(if v<most then v else most)=q/\1<=q/\q<=most:=⟨_,rfl,by split<;>omega,by split<;>omega⟩
   rw[hq];refine fB (by omega) (aX.mpr (fB (by simp[gE];omega) (bK.mpr (yF (E:=[Y (.int q)]) (λb=>.int (b*b % q)) (λb _ _=>by simp(disch:=omega) [ES,nM]) ?_))))
   rw[aX];refine fB (by omega) (aX.mpr ?_)
   obtain⟨Γ,hS⟩:∃Γ:List Int,((Ω (q-1).toNat).map λi:Nat=>D.int ((1+(i:Int))*(1+i) % q))=Γ.map D.int:=⟨(Ω (q-1).toNat).map λi:Nat=>(1+(i:Int))*(1+i) % q,by simp⟩
   rw[hS];refine OH (E:=[Y (.lst (Γ.map D.int)),Y (.int q)]) P.1 (by omega) (by omega) (λa b c=>?_) (λa=>rfl) λl v9 hl _=>.of (hI _ _ ⟨q,.ref n,l,d,_,rfl,rfl,q0,q1,hl,.inl ⟨n,rfl,by rw[<-P.1];simp⟩,rfl,P⟩)
   obtain⟨x,hx⟩:=N9 Γ ((b-a) % q) c;exact⟨x,by simp(disch:=omega) [nM,hx]⟩
  ·simp(disch:=omega) [e0,e1,e2,e4,bK,aX];obtain⟨q,hq,q0,q1⟩:∃q,(if most<8 then most else 8)=q/\1<=q/\q<=most:=⟨_,rfl,by split<;>omega,by split<;>omega⟩
   rw[hq];have h3:(3:Nat)<=Ξ:=by omega
   refine fB (by omega) (aX.mpr (OH (E:=[]) P2.1 (by omega) (by omega) (λa b c=>?_) (λa=>rfl) λl v9 hl z7=>?_))
   ·exact⟨[PyData.int 1,.int 2,.int 4].any λz=>z.eqv (.int (b-a)),by simp[h3,inD,fL,cZ,fc,PyData.depth]⟩
   ·simp[bK,aX,hd];obtain⟨z,hz,e⟩:=CQ (c:=c2++[.lst l]) (st:=λc=>c[n]? = Y (.lst l)) (t:=(aG (ay cu (ay xZ (ak 0) (ak 1)) (ak 0)))) (hd l) (λa b=>⟨decide (Builtin.bitAnd a b=a),by simp[xZ]⟩) l O O [] hl (PR.nil q)
    exact fB (by omega) (bK.mpr ⟨z,_,e,aX.mpr (.of (hI _ _ ⟨q,_,z,c2,_,rfl,rfl,q0,q1,hz,.inr rfl,rfl,P2⟩))⟩)
 ·rintro f c' ⟨e,rfl,q,X,l,d,t,e3,e4,q0,q1,hl,hX,rfl,P⟩
  simp[e3,e4,bK,aX];refine Jh (by omega) (by omega) hl hX λm ps hm hp=>?_
  simp[aX,Gh];rw[WI (by rw[P.1,hn];exact ZA _),TN (by rw[P.1,hn];exact ZA _)]
  exact hQ m ps d (by omega) (by omega) hp P
def Tb(m:Nat) (T:D):Prop:=∃f,T=bG m f/\dZ f
theorem Tb.about{m:Nat}{T:D}(h:Tb m T) (hm:m<1000):∃T',Tb m T'/\∀c,tE [T] c=.ok T' c:=by
 obtain⟨f,rfl,hf⟩:=h;exact⟨_,⟨_,rfl,QB hf⟩,λc=>aem f hm c⟩
theorem Tb.aia{m:Nat}{T:D}{a b M:Int}(h:Tb m T) (hm:m<1000) (hM:M=m) (a0:0<=a) (a1:a<M) (b0:0<=b) (b1:b<M) (hne:a≠b) (c:aa):∃T',Tb m T'/\wc [T,.int a,.int b] c=.ok T' c:=by
 obtain⟨f,rfl,hf⟩:=h;obtain⟨i,rfl⟩:=nL a0;obtain⟨k,rfl⟩:=nL b0;exact⟨_,⟨_,rfl,ah9 hf (by omega)⟩,aib (by omega) (by omega) hm f c⟩
theorem Tb.len{m:Nat}{T:D}{M:Int}(h:Tb m T) (hM:M=m) (c:aa):aS [T] c=.ok (.int M) c:=by
 obtain⟨f,rfl,hf⟩:=h;rw[hM,len_tab]
theorem ahg{j n m:Nat}{T:D}{M:Int}{c:aa}{Q:D->aa->Prop}(h:Tb m T) (hP:dS j n c) (hm:m<1000) (hM:M=m) (hQ:∀f c',dZ f->dS j n c'->Q (bG m f) c'):W (sZ [.ref j,.int M] c) λo c=>W (zN [T,o] c) Q:=by
 obtain⟨f,rfl,hf⟩:=h;obtain⟨os,c',hp,P,e⟩:=Xf hP hm;rw[hM];exact⟨_,_,e,_,_,Zx hp hm f c',hQ _ _ (Zg hf (by have:=hp.length_eq;simpa using this)) P⟩
def agH(j n m:Nat) (most M:Int):Ev->aa->Prop:=λe c=>∃T v,e=[Y (.ref j),Y (.int most),Y T,Y (.int M),v]/\Tb m T/\dS j n c
theorem adY{j n:Nat}{c:aa}{most:Int}{Q:D->aa->Prop}(hP:dS j n c) (h0:0<most) (h6:most<60) (hQ:∀(m:Nat) f c',1<=m->(m:Int)<=most->dZ f->dS j n c'->Q (bG m f) c'):W (tw [.ref j,.int most] c) Q:=by
 have hn:=hP.1;simp[tw,BO,bK,aX];refine lM hP (by decide) (by decide) λx c1 x0 x1 P1=>?_
 simp[aX];refine W.imp (Q:=Nx λe c=>∃(m:Nat) (T:D),e=[Y (.ref j),Y (.int most),Y T,O,O]/\Tb m T/\1<=m/\(m:Int)<=most/\dS j n c) ?_ ?_
 ·have go:∀(m:Nat) ps c',1<=m->(m:Int)<=most->kN m ps->dS j n c'->W _ (Nx λe c=>∃(m:Nat) (T:D),e=[Y (.ref j),Y (.int most),Y T,O,O]/\Tb m T/\1<=m/\(m:Int)<=most/\dS j n c):=λm ps c' m1 m2 hp P=>aX.mpr (.of ⟨m,_,rfl,⟨_,rfl,aav hp⟩,m1,m2,P⟩)
  by_cases h:x<2
  ·rw[if_pos h,bK];exact ajX P1 h0 h6 go
  ·rw[if_neg h,bK];exact aki P1 h0 h6 go
 rintro f c2 ⟨e,rfl,m,T,rfl,hT,m1,m2,P2⟩
 obtain⟨M,hM⟩:∃M:Int,M=m:=⟨_,rfl⟩;simp[bK,aX,hT.len hM];refine lM P2 (by decide) (by decide) λy c3 y0 y1 P3=>?_
 simp[aX];refine W.imp (Q:=Nx λe c=>∃T,e=[Y (.ref j),Y (.int most),Y T,Y (.int M),O]/\Tb m T/\dS j n c) ?_ ?_
 ·obtain⟨T',F2,ha⟩:=hT.about (by omega)
  by_cases h:y=0
  ·simp only[h,if_true,ha,R.aL,aX];exact .of ⟨_,rfl,F2,P3⟩
  ·rw[if_neg h,aX];exact .of ⟨_,rfl,hT,P3⟩
 rintro f c4 ⟨e,rfl,T,rfl,hT,P4⟩
 simp[bK,aX];refine W.imp (Q:=fun(a:Bool) c=>(a=L->1<M)/\dS j n c) ?_ ?_
 ·by_cases h:1<M
  ·rw[if_pos h];simp only[bK];refine lM P4 (by decide) (by decide) λz c z0 z1 P=>?_
   simp only[ahz,aX];exact⟨λ_=>h,P⟩
  ·rw[if_neg h,aX];exact⟨(λh=>by cases h),P4⟩
 rintro a c5 ⟨ha,P5⟩
 refine W.imp (Q:=Nx (agH j n m most M)) ?_ ?_
 ·cases a with
  |false =>
   simp only[Sv,if_false,aX];exact .of ⟨_,_,rfl,hT,P5⟩
  |true =>
   have hM1:=ha rfl;simp only[if_true,bK];refine lM P5 (by omega) (by omega) λa c6 a0 a1 P6=>?_
   simp[bK,aX];refine lM P6 (by omega) (by omega) λb c7 b0 b1 agP=>?_
   have hne:=Kn (q:=M) (s:=1+b) (k:=a) (by omega) (by omega) a0 a1
   rw[<-Int.add_assoc]at hne;obtain⟨T',F2,ht⟩:=hT.aia (b:=(a+1+b) % M) (by omega) hM a0 a1 (TL _ (by omega)) (TJ _ (by omega)) hne c7
   simp(disch:=omega) [bK,aX,nM,ht];exact .of ⟨_,_,rfl,F2,agP⟩
 rintro f c6 ⟨e,rfl,T,v,rfl,hT,P6⟩
 simp[bK,aX];refine(ahg hT P6 (by omega) hM λf c' hf P=>?_).imp λo c h=>h
 rw[Gh,aX,TN (by rw[P.1,hn];exact ZA _)]
 exact hQ m f c' m1 m2 hf P
theorem adZ{j n:Nat}{c:aa}{most:Int}(hP:dS j n c) (h0:0<most) (h6:most<60):∃(m:Nat) (f:Nat->Nat->Bool) (c':aa),1<=m/\(m:Int)<=most/\dZ f/\dS j n c'/\tw [.ref j,.int most] c=.ok (bG m f) c':=by
 obtain⟨d,c',e,m,f,rfl,h⟩:=adY (Q:=λd c'=>∃(m:Nat) (f:Nat->Nat->Bool),d=bG m f/\1<=m/\(m:Int)<=most/\dZ f/\dS j n c') hP h0 h6 λm f c' a b h p=>⟨m,f,rfl,a,b,h,p⟩
 exact⟨m,f,c',h.1,h.2.1,h.2.2.1,h.2.2.2,e⟩
theorem ME:("":Str)=⟨#[]⟩:=by decide +kernel
theorem Et:("#":Str)=⟨#[35]⟩:=by decide +kernel
theorem MD:(".":Str)=⟨#[46]⟩:=by decide +kernel
theorem j5:(" ":Str)=⟨#[32]⟩:=by decide +kernel
def cY(s:List Nat):List (List Nat)->List Nat
 |[]=>[]
 |x::l=>x++l.flatMap λp=>s++p
theorem OI(g:Array Nat):∀(l:List Str) (acc:Array Nat),(l.foldl (λacc p=>acc++g++p.cps) acc).toList=acc.toList++l.flatMap λp=>g.toList++p.cps.toList
 |[],acc=>by simp
 |p::l,acc=>by rw[Si,OI g l,SW];simp
theorem Ru(s:Str) (ss:List Str):(dM s ss).cps.toList=cY s.cps.toList (ss.map λp=>p.cps.toList):=by
 have hg:∀x l,(Builtin.Str.glued s (x::l)).cps.toList=cY s.cps.toList ((x::l).map λp=>p.cps.toList):=λx l=>by
  show((l.foldl (λacc p=>acc++s.cps++p.cps) x.cps)).toList=_
  rw[OI];show _=x.cps.toList++(l.map λp=>p.cps.toList).flatMap λp=>s.cps.toList++p
  rw[Tc]
 match ss with
 |[]=>rfl
 |[x]=>simp[dM,cY]
 |x::y::l=>exact hg x (y::l)
theorem pO{a b:Str}(h:a.cps.toList=b.cps.toList):a=b:=by
 cases a;cases b
 congr
 exact WG.mp h
def vp(l:List Nat):Str:=⟨l.toArray⟩
theorem aaw(l:List Nat):dM "" (l.map λa=>(⟨#[a]⟩:Str))=vp l:=by
 refine pO ?_;rw[Ru,ME,P0];cases l with
 |nil=>rfl
 |cons a l =>
  show[a]++(l.map _).flatMap _=(a::l).toArray.toList;rw[Tc];simp
theorem NF(n:Nat):∀(l:List Str) (acc:Nat),l.foldl (λx1 x2=>x1+x2.length+n) acc=acc+(l.map λp=>p.length+n).sum
 |[],acc=>by simp
 |p::l,acc=>by rw[Si,NF n l,E1,S0];omega
theorem YX{s:Str}{ss:List Str}(h:(ss.map λp=>p.length+s.length).sum<=10000):Builtin.Str.tooLong (Array.foldl (λx1 x2=>x1+x2.length+s.length) 0 ss.toArray)=G:=by
 rw[List.foldl_toArray,NF];unfold Builtin.Str.tooLong;have:10000<Ξ:=gS;rw[decide_eq_false_iff_not];omega
theorem aci(s:List Nat):∀l:List (List Nat),(cY s l).length<=(l.map λp=>p.length+s.length).sum
 |[]=>ZA _
 |x::l=>by
  show(x++l.flatMap λp=>s++p).length<=_
  have h:(l.flatMap λp=>s++p).length=(l.map λp=>p.length+s.length).sum:=by
   induction l with
   |nil=>rfl
   |cons y l ih=>rw[SW,QT,ih,E1,S0,QT];omega
  rw[QT,h,E1,S0];omega
theorem wD{s:Str}{ss:List Str}:(dM s ss).length<=(ss.map λp=>p.length+s.length).sum:=by
 have h:=aci s.cps.toList (ss.map λp=>p.cps.toList)
 rw[<-Ru,P0]at h;exact h
theorem ad7(x:Str) (a i:Nat) (hi:i<x.length):Builtin.Str.subAt x ⟨#[a]⟩ i=decide (x.cps.toList[i]? = Y a):=by
 unfold Builtin.Str.subAt;have hi':i<x.cps.size:=hi;have e:x.cps.extract i (i+Str.length ⟨#[a]⟩)=#[x.cps[i]]:=by
  apply WG.mp;show(x.cps.extract i (i+1)).toList=_;rw[WE];simp[Ul,List.take_one,hi']
 rw[e];have e2:x.cps.toList[i]? = Y x.cps[i]:=by simp[hi']
 rw[e2,RW];simp
theorem zz(x:Str) (a:Nat) (f:Nat->Array Nat×Nat->Id (ForInStep (Array Nat×Nat))) (hf:∀i s,f i s=if(decide (s.1.size<x.length+1)&&decide (s.2<=i)&&decide (i+Str.length ⟨#[a]⟩<=x.length)&&Builtin.Str.subAt x ⟨#[a]⟩ i)=L then pure (.yield (s.1.push i,i+Str.length ⟨#[a]⟩))else pure (.yield s)) :
  ∀(n k:Nat) (s:Array Nat×Nat),k+n<=x.length+1->s.1.size<=k->s.2<=k->∃fr,fr<=k+n/\forIn (m:=Id) (List.range' k n) s f=(⟨(s.1.toList++(List.range' k n).filter λi=>decide (x.cps.toList[i]? = Y a)).toArray,fr⟩:Array Nat×Nat)
 |0,k,s,_,_,h=>⟨s.2,h,by simp;rfl⟩
 |n+1,k,s,hk,h1,h2=>by
  rw[WD,VS,hf,WC];have q1:decide (s.1.size<x.length+1)=L:=by rw[decide_eq_true_eq];omega
  have q2:decide (s.2<=k)=L:=by rw[decide_eq_true_eq];exact h2
  rw[q1,q2]
  by_cases hx:k<x.length
  ·have q3:decide (k+Str.length ⟨#[a]⟩<=x.length)=L:=by rw[decide_eq_true_eq];show k+1<=_;omega
   rw[q3,ad7 x a k hx]
   by_cases hc:x.cps.toList[k]? = Y a
   ·obtain⟨fr,hfr,e⟩:=zz x a f hf n (k+1) (s.1.push k,k+1) (by omega) (by simp;omega) (by simp)
    refine⟨fr,by omega,?_⟩
    simp only[hc,decide_true,Uu,if_true];refine(show _=forIn (m:=Id) (List.range' (k+1) n) (s.1.push k,k+1) f from rfl).trans (e.trans ?_)
    simp
   ·obtain⟨fr,hfr,e⟩:=zz x a f hf n (k+1) s (by omega) (by omega) (by omega)
    refine⟨fr,by omega,?_⟩
    have hd:decide (x.cps.toList[k]? = Y a)=G:=by rw[decide_eq_false_iff_not];exact hc
    rw[hd];exact(show _=forIn (m:=Id) (List.range' (k+1) n) s f from rfl).trans e
  ·have q3:decide (k+Str.length ⟨#[a]⟩<=x.length)=G:=by rw[decide_eq_false_iff_not];show ¬k+1<=_;omega
   obtain⟨fr,hfr,e⟩:=zz x a f hf n (k+1) s (by omega) (by omega) (by omega)
   refine⟨fr,by omega,?_⟩
   have hd:decide (x.cps.toList[k]? = Y a)=G:=by
    rw[decide_eq_false_iff_not];have:x.cps.toList.length<=k:=by show x.cps.size<=k;exact UN hx
    rw[Rf this];simp
   rw[q3,hd];exact(show _=forIn (m:=Id) (List.range' (k+1) n) s f from rfl).trans e
theorem zy(x:Str) (a:Nat):gg x ⟨#[a]⟩=(Ω x.length).filter λi=>decide (x.cps.toList[i]? = Y a):=by
 have hl:(Ω (x.length+1)).filter (λi=>decide (x.cps.toList[i]? = Y a))=(Ω x.length).filter λi=>decide (x.cps.toList[i]? = Y a):=by
  rw[UA,TF];have:x.cps.toList[x.length]? = O:=Rf (ZA _);rw[WC,this];simp
 rw[<-hl];unfold gg Builtin.Str.occurrences;simp only[Std.Legacy.Range.forIn_eq_forIn_range',Id.run,Std.Legacy.Range.size];have hz:(x.length+1-0+1-1)/1=x.length+1:=by omega
 rw[hz];obtain⟨fr,_,e⟩:=zz x a (λi s=>if(decide (s.1.size<x.length+1)&&decide (s.2<=i)&&decide (i+Str.length ⟨#[a]⟩<=x.length)&&Builtin.Str.subAt x ⟨#[a]⟩ i)=L then pure (.yield (s.1.push i,i+Str.length ⟨#[a]⟩))else pure (.yield s)) (λi s=>rfl) (x.length+1) 0 (#[],0) (by omega) (by simp) (by simp)
 refine(congrArg (λs:Array Nat×Nat=>s.1.toList) e).trans ?_
 rw[TM];simp
def oK:Nat->List Nat->List (List Nat)->List Nat
 |_,_,[]=>[]
 |o,w,v::vs=>(o+w.length)::oK (o+w.length+1) v vs
theorem wQ(w v:List Nat) (vs:List (List Nat)):cY [32] (w::v::vs)=w++32::cY [32] (v::vs):=by
 show w++((v::vs).flatMap λp=>[32]++p)=w++32::(v++vs.flatMap λp=>[32]++p)
 rw[SW];simp
theorem MX{pre w post:List Nat}(h:32∉w):(List.range' pre.length w.length).filter (λi=>decide ((pre++(w++post))[i]? = Y 32))=[]:=by
 rw[WB];intro i hi;rw[RS]at hi;rw[decide_eq_true_eq,RC hi.1,RJ (by omega)]
 exact λe=>h (R5 e)
theorem PF:∀(vs:List (List Nat)) (w pre:List Nat),(∀v∈w::vs,32∉v)->(List.range' pre.length (cY [32] (w::vs)).length).filter (λi=>decide ((pre++cY [32] (w::vs))[i]? = Y 32))=oK pre.length w vs
 |[],w,pre,h=>by
  have e:cY [32] [w]=w++[]:=by simp[cY]
  have e2:(cY [32] [w]).length=w.length:=by simp[cY]
  rw[e2,e];exact MX (h w (by simp))
 |v::vs,w,pre,h=>by
  have ih:=PF vs v (pre++(w++[32])) (λu hu=>h u (by simp at hu ⊢;right;exact hu))
  have hl:(pre++(w++[32])).length=pre.length+w.length+1:=by simp;omega
  rw[hl]at ih;have hx:pre++cY [32] (w::v::vs)=pre++(w++[32])++cY [32] (v::vs):=by rw[wQ];simp
  have z3:pre++cY [32] (w::v::vs)=pre++(w++32::cY [32] (v::vs)):=by rw[wQ]
  have hn:(cY [32] (w::v::vs)).length=w.length+(1+(cY [32] (v::vs)).length):=by rw[wQ];simp;omega
  rw[hn,<-Uc,<-Uc,TF,TF];have h1:=MX (pre:=pre) (post:=32::cY [32] (v::vs)) (h w (by simp))
  have h2:(List.range' (pre.length+w.length) 1).filter (λi=>decide ((pre++cY [32] (w::v::vs))[i]? = Y 32))=[pre.length+w.length]:=by
   have:(pre++cY [32] (w::v::vs))[pre.length+w.length]? = Y 32:=by
    rw[z3,RC (by omega),RC (by omega)]
    have:pre.length+w.length-pre.length-w.length=0:=by omega
    rw[this];rfl
   simp[WD,this]
  rw[h2];rw[<-z3]at h1;rw[h1];rw[<-hx]at ih;rw[ih];rfl
theorem Mi:∀(vs:List (List Nat)) (w pre:List Nat),(((pre.length::(oK pre.length w vs).map (· + 1)).zip (oK pre.length w vs++[(pre++cY [32] (w::vs)).length])).map λp=>((pre++cY [32] (w::vs)).drop p.1).take (p.2-p.1))=w::vs
 |[],w,pre=>by
  simp[oK,cY]
 |v::vs,w,pre=>by
  have ih:=Mi vs v (pre++(w++[32]));have hl:(pre++(w++[32])).length=pre.length+w.length+1:=by simp;omega
  rw[hl]at ih;have hx:pre++cY [32] (w::v::vs)=pre++(w++[32])++cY [32] (v::vs):=by rw[wQ];simp
  have z3:pre++cY [32] (w::v::vs)=pre++(w++32::cY [32] (v::vs)):=by rw[wQ]
  rw[<-hx]at ih;have h1:((pre++cY [32] (w::v::vs)).drop pre.length).take (pre.length+w.length-pre.length)=w:=by
   rw[z3,List.drop_left];have:pre.length+w.length-pre.length=w.length:=by omega
   rw[this,List.take_left]
  show((((pre.length::((pre.length+w.length+1)::(oK (pre.length+w.length+1) v vs).map (· + 1))).zip ((pre.length+w.length)::(oK (pre.length+w.length+1) v vs++[(pre++cY [32] (w::v::vs)).length])))).map _)=_;rw[Uk,E1,ih];dsimp only;rw[h1]
theorem akD(x:Str) (cuts:List Nat):(Builtin.Str.partsBetween x cuts 1).map (λp=>p.cps.toList)=(((0::cuts.map (· + 1)).zip (cuts++[x.cps.toList.length])).map λp=>(x.cps.toList.drop p.1).take (p.2-p.1)):=by
 unfold Builtin.Str.partsBetween;rw[P0];refine R4 λp _=>?_
 show(x.cps.extract p.1 p.2).toList=_;rw[WE,Ul]
theorem aiU(x:Str):gv x ⟨#[32]⟩=Builtin.Str.partsBetween x (gg x ⟨#[32]⟩) 1:=by
 have he:(gg x ⟨#[32]⟩)=[]->[x]=Builtin.Str.partsBetween x (gg x ⟨#[32]⟩) 1:=λh=>by
  rw[h];show[x]=[Builtin.Str.strSub x 0 x.length]
  congr 1
  refine pO ?_;show _=(x.cps.extract 0 x.cps.size).toList;simp
 unfold gv
 by_cases h0:(gg x ⟨#[32]⟩).isEmpty=L
 ·rw[if_pos h0,ite_self];exact he (List.isEmpty_iff.mp h0)
 ·have hk:¬(decide (x.length<Str.length ⟨#[32]⟩)||decide (Builtin.Str.strKind x<Builtin.Str.strKind ⟨#[32]⟩))=L:=by
   rw[SR,decide_eq_true_eq,decide_eq_true_eq]
   rintro (h|h)
   ·have h:x.length<1:=h;apply h0;rw[zy];have:x.length=0:=by omega
    rw[this];rfl
   ·have e:Builtin.Str.strKind ⟨#[32]⟩=1:=by decide +kernel
    rw[e]at h;unfold Builtin.Str.strKind at h;split at h
    ·omega
    ·split at h<;>omega
  rw[if_neg hk,if_neg h0];rfl
theorem Kf{w:Str}{ws:List Str}(h:∀v∈w::ws,32∉v.cps.toList):gv (dM " " (w::ws)) " "=w::ws:=by
 have hj:=Ru " " (w::ws);rw[j5]at hj ⊢
 generalize dM ⟨#[32]⟩ (w::ws)=x at hj
 have hj:x.cps.toList=cY [32] (w.cps.toList::ws.map λp=>p.cps.toList):=hj
 rw[aiU,zy];have h':∀v∈w.cps.toList::ws.map (λp=>p.cps.toList),32∉v:=λv hv=>by
  rcases l8.mp hv with rfl|hv
  ·exact h w (by simp)
  ·obtain⟨p,hp,rfl⟩:=x6.mp hv;exact h p (by simp[hp])
 have hc:=PF (ws.map λp=>p.cps.toList) w.cps.toList [] h'
 have hp:=Mi (ws.map λp=>p.cps.toList) w.cps.toList []
 rw[Q0,<-hj]at hc hp;have hxl:x.length=x.cps.toList.length:=rfl;rw[S5,<-hxl,<-TM]at hc;rw[hc];rw[S5]at hp;have hq:=akD x (oK 0 w.cps.toList (ws.map λp=>p.cps.toList))
 rw[hp]at hq;have hinj:∀a b:List Str,a.map (λp=>p.cps.toList)=b.map (λp=>p.cps.toList)->a=b:=by
  intro a
  induction a with
  |nil=>intro b hb;cases b with
   |nil=>rfl
   |cons y b=>cases hb
  |cons y a ih=>intro b hb;cases b with
   |nil=>cases hb
   |cons z b =>
    rw[E1,E1,Vg]at hb;rw[pO hb.1,ih b hb.2]
 exact hinj _ _ hq
def az(rows:List (List Nat)):D:=.tup (rows.map λr=>.tup (nD r))
theorem jt(rows:List (List Nat)):noRef (az rows)=L:=by
 refine gV.mpr λd hd=>?_
 obtain⟨r,_,rfl⟩:=x6.mp hd;exact qe r
theorem lR(n:Nat):aW 0 (n:Int)=nD (Ω n):=by
 apply Um;intro i
 by_cases h:i<n
 ·have h1:i<(aW 0 n).length:=by rw[g9];omega
  have:=pY (Bt h1);rw[Bt h1,this.2];simp[nD,h]
 ·rw[Rf (by rw[g9];omega),Rf (by simp;omega)]
theorem mz{α:Type}{E:List (Option D)}{t:ai}{a:af}{c:aa}(g F:α->D) (b:α->Bool):∀(l:List α) (v:Option D) (acc:List D),(∀x∈l,t (Y (g x)::E) c=.ok (b x) c)->(∀x∈l,b x=L->a (Y (g x)::E) c=.ok (F x) c)->bL (λ_=>True) (aB 0) t a (l.map g) (v::E) acc c=.ok (acc++(l.filter b).map F) c
 |[],v,acc,_,_=>by simp
 |x::l,v,acc,h1,h2=>by
  have e1:aB 0 _ (v::E) c=.ok (Y (g x)::E) c:=rfl;rw[E1,mH,e1,R.aL,h1 x (.head _),R.aL];cases hb:b x with
  |true =>
   rw[if_pos rfl,h2 x (.head _) hb,R.aL,mz g F b l _ _ (λz hz=>h1 z (.tail _ hz)) (λz hz=>h2 z (.tail _ hz)),List.filter_cons_of_pos hb,RU]
   rfl
  |false =>
   rw[if_neg (by decide),mz g F b l _ _ (λz hz=>h1 z (.tail _ hz)) (λz hz=>h2 z (.tail _ hz)),List.filter_cons_of_neg (by simp[hb])]
theorem uq:∀l:List Nat,fc (nD l)=Y (l.map λn:Nat=>PyData.int (n:Int))
 |[]=>rfl
 |n::ns=>by
  show(match cZ _,fc _ with|some a,Y r=>Y _|_,_=>O)=_
  rw[uq ns];rfl
theorem Qy(l:List Nat) (k:Nat):((l.map λn:Nat=>PyData.int (n:Int)).any λz=>z.eqv (.int (k:Int)))=decide (k∈l):=by
 rw[List.any_map,RW,Sb,decide_eq_true_eq];refine⟨fun⟨x,hx,e⟩=>?_,λh=>⟨k,h,?_⟩⟩
 ·have:x=(k:Int):=by simpa[PyData.eqv]using e
  have:x=k:=by omega
  exact this▸hx
 ·simp[PyData.eqv]
theorem MS(l:List Nat) (k:Nat) (c:aa):kX (.int (k:Int)) (.tup (nD l)) c=.ok (.bl (!decide (k∈l))) c:=by
 have h1:fL c (.int k)=Y _:=rfl;have h2:fL c (.tup (nD l))=Y (.tuple (l.map λn:Nat=>PyData.int (n:Int))):=by
  show(match fc _ with|some r=>Y _|none=>O)=_
  rw[uq]
 unfold kX;rw[h1,h2];dsimp only;rw[if_pos (by simp[PyData.depth]),Qy]
theorem qx(l:List Nat) (k:Nat) (c:aa):inD (.int (k:Int)) (.tup (nD l)) c=.ok (.bl (decide (k∈l))) c:=by
 have h1:fL c (.int (k:Int))=Y (.int (k:Int)):=rfl;have h2:fL c (.tup (nD l))=Y (.tuple (l.map λn:Nat=>PyData.int (n:Int))):=by
  show(match fc (nD l)with|some r=>Y (PyData.tuple r)|none=>O)=_
  rw[uq]
 unfold inD;rw[h1,h2];dsimp only;rw[if_pos (by simp[PyData.depth]),Qy]
theorem nX(w:List (List Nat)) (c:aa):aS [az w] c=.ok (.int (w.length:Nat)) c:=by
 unfold az;rw[IY,x8]
theorem k7{w:List (List Nat)}{i:Nat}{r:List Nat}(h:w[i]? = Y r) (c:aa):aD (az w) (.int (i:Int)) c=.ok (.tup (nD r)) c:=by
 unfold az;rw[yw,jm (v:=.tup (nD r)) (by rw[Q9,h];rfl)]
theorem kJ{m:List D->aa->R D}{d1 d2 d3:af}{e:Ev}{c:aa}{x y z v:D}(h1:d1 e c=.ok x c) (h2:d2 e c=.ok y c) (h3:d3 e c=.ok z c) (h:m [x,y,z] c=.ok v c):aH 3 m (ao d1 (ao d2 (ao d3 au))) e c=.ok v c:=by
 simp only[x_call,cT,h1,h2,h3,cI,R.aL];rw[if_pos (by rfl)];exact h
theorem g5{m:List D->aa->R D}{d1 d2:af}{e:Ev}{c:aa}{x y v:D}(h1:d1 e c=.ok x c) (h2:d2 e c=.ok y c) (h:m [x,y] c=.ok v c):aH 2 m (ao d1 (ao d2 au)) e c=.ok v c:=by
 simp only[x_call,cT,h1,h2,cI,R.aL];rw[if_pos (by rfl)];exact h
theorem fh{m:List D->aa->R D}{d1:af}{e:Ev}{c:aa}{x v:D}(h1:d1 e c=.ok x c) (h:m [x] c=.ok v c):aH 1 m (ao d1 au) e c=.ok v c:=by
 simp only[x_call,cT,h1,cI,R.aL];rw[if_pos (by rfl)];exact h
theorem cQ{n:Nat}{b:ah}{xs:List D}{c:aa}{v:D}(h:b (cC n xs) c=.ok (.rt v) c) (hv:noRef v=L) (hr:∀k,v≠.ref k):bx n G b xs c=.ok v c:=by
 rw[iB,h];simp only[R.aL];cases v<;>first|exact absurd rfl (hr _)|(unfold cG;dsimp only;rw[if_pos hv,RN])
theorem aaZ{d2:af}{e:Ev}{c:aa}{a s:Nat}{t u:ah}{d1:af}(h1:d1 e c=.ok (.int (a:Int)) c) (h2:d2 e c=.ok (.int (s:Int)) c):aY (aG (ay cE d1 d2)) t u e c=if a≠s then t e c else u e c:=by
 by_cases q:a=s
 ·subst q;simp[h1,h2]
 ·have q':¬((a:Int)=s):=by omega
  simp[h1,h2,q,q']
theorem aie{d1 d2 d3:af}{e:Ev}{c:aa}{x y z:D}(h1:d1 e c=.ok x c) (h2:d2 e c=.ok y c) (h3:d3 e c=.ok z c):bY (ao d1 (ao d2 (ao d3 au))) e c=.ok (.tup [x,y,z]) c:=by
 have:(3:Nat)<=Ξ:=fH (by decide)
 simp only[yt,cT,h1,h2,h3,cI,R.aL];rw[if_pos (by exact this)]
theorem uX{d1 d2:af}{e:Ev}{c:aa}{x y:D}(h1:d1 e c=.ok x c) (h2:d2 e c=.ok y c):bY (ao d1 (ao d2 au)) e c=.ok (.tup [x,y]) c:=by
 have:(2:Nat)<=Ξ:=fH (by decide)
 simp only[yt,cT,h1,h2,cI,R.aL];rw[if_pos (by exact this)]
theorem dQ{f:List D->aa->R D}{d1:af}{e:Ev}{c:aa}{x v:D}(h1:d1 e c=.ok x c) (h:f [x] c=.ok v c):aF f (ao d1 au) e c=.ok v c:=by
 simp only[pD,cT,h1,cI,R.aL];exact h
theorem er{i:Nat}{d:af}{e:Ev}{c:aa}{v:D}(h:d e c=.ok v c):aN i d e c=.ok (.nx (e.set i (Y v))) c:=by rw[pA,h];rfl
theorem cM{d:af}{e:Ev}{c:aa}{v:D}(h:d e c=.ok v c):aQ d e c=.ok (.rt v) c:=by rw[pC,h];rfl
theorem Ly(a m:Nat):aW ((a:Int)+1) (m:Int)=nD (List.range' (a+1) (m-(a+1))):=by
 apply Um;intro i
 by_cases h:i<m-(a+1)
 ·have h1:i<(aW ((a:Int)+1) (m:Int)).length:=by rw[g9];omega
  have:=pY (Bt h1);rw[Bt h1,this.2];simp[nD,Ub h]
 ·rw[Rf (by rw[g9];omega),Rf (by simp[nD];omega)]
theorem Po{d:af}{e:Ev}{c c':aa}{v:D}(h:d e c=.ok v c'):dg d e c=.ok (.nx e) c':=by rw[yx,h];rfl
theorem oB{sr:Ev->aa->R Src}{g:Gd}{s:ah}{e:Ev}{c:aa}{l:List D}{r:R Fl}(h1:sr e c=.ok ⟨l,λ_=>True⟩ c) (h2:cy (λ_=>True) g s l e c=r):bU sr g s e c=r:=by
 rw[rO,h1];exact h2
theorem nu{d:af}{e:Ev}{c:aa}{q:Int}(h:d e c=.ok (.int q) c) (bq:-4611686018427387904<=q/\q<4611686018427387904):bQ (ao d au) e c=.ok ⟨aW 0 q,λ_=>True⟩ c:=by
 simp only[rL,cT,h,cI,R.aL];rw[if_pos (by omega)]
theorem bh{f:D->D->aa->R D}{d1 d2:af}{e:Ev}{c:aa}{x y:D}{r:R D}(h1:d1 e c=.ok x c) (h2:d2 e c=.ok y c) (h:f x y c=r):ay f d1 d2 e c=r:=by
 rw[gR,h1];simp only[R.aL];rw[h2];exact h
theorem za{d1 d2:af}{e:Ev}{c:aa}{p q:Int}(h1:d1 e c=.ok (.int p) c) (h2:d2 e c=.ok (.int q) c) (bp:-4611686018427387904<=p/\p<4611686018427387904) (bq:-4611686018427387904<=q/\q<4611686018427387904):fM (ao d1 (ao d2 au)) e c=.ok ⟨aW p q,λ_=>True⟩ c:=by
 simp only[agS,cT,h1,h2,cI,R.aL];rw[if_pos ⟨by omega,by omega,by omega,by omega⟩]
def wF(m:Nat) (f:Nat->Nat->Bool):List (List Nat):=(Ω m).map (cj m f)
theorem ajw(m:Nat) (f:Nat->Nat->Bool):sd m f=az (wF m f):=by
 unfold sd az wF;rw[P0];rfl
theorem iY(m:Nat) (f:Nat->Nat->Bool):(wF m f).length=m:=by simp[wF]
theorem ahd{m i:Nat}(f:Nat->Nat->Bool) (h:i<m):(wF m f).getD i []=cj m f i:=by
 rw[Q6];simp[wF,h]
theorem ado{dO:af}{e:Ev}{c:aa}{l:List Bool}(h:dO e c=.ok (.lst (l.map D.bl)) c):xB dO (dC (.bl L)) e c=.ok (.int (l.countP id:Nat)) c:=by
 unfold xB;rw[h];simp only[R.aL,jV];rw[GS]
theorem yR{d:af}{e:Ev}{c:aa}{l:List D}(h:d e c=.ok (.lst l) c):cO d e c=.ok ⟨l,λ_=>True⟩ c:=by
 unfold cO;rw[h];rfl
theorem iJ{sr:Ev->aa->R Src}{pick:List (Option Nat)}{g:Gd}{t:ai}{a:af}{e:Ev}{c:aa}{items l:List D}(h1:sr e c=.ok ⟨items,λ_=>True⟩ c) (hl:items.length<Ξ) (h2:bL (λ_=>True) g t a items (f7 pick e) [] c=.ok l c):bg sr pick g t a e c=.ok (.lst l) c:=by
 rw[kO,h1];simp only[R.aL];rw[if_pos hl,h2];rfl
theorem Kr{i:Nat}{d:af}{e:Ev}{c c':aa}{v:D}(h:d e c=.ok v c'):aN i d e c=.ok (.nx (e.set i (Y v))) c':=by rw[pA,h];rfl
theorem aec{d1 d2:af}{e:Ev}{c:aa}{r:R D}(h1:d1 e c=.ok (.bl L) c) (h2:d2 e c=r):g4 d1 d2 e c=r:=by
 rw[ahw,h1];simp only[R.aL];rw[if_pos trivial];exact h2
theorem eN{d:af}{e:Ev}{c:aa}{b:Bool}(h:d e c=.ok (.bl b) c):aG d e c=.ok b c:=by rw[pF,h];rfl
theorem xm{α:Type} [DecidableEq α] {F:α->RX}(h:∀a b,(F a).eqv (F b)=decide (a=b)):∀l l':List α,PyData.eqvAll (l.map F) (l'.map F)=decide (l=l')
 |[],[]=>rfl
 |[],_::_=>by simp[PyData.eqvAll]
 |_::_,[]=>by simp[PyData.eqvAll]
 |a::l,b::l'=>by
  rw[E1,E1,PyData.eqvAll,h a b,xm h l l']
  by_cases e:a=b
  ·subst e;by_cases e':l=l'<;>simp[e']
  ·simp[e]
def nt(r:List Nat):RX:=.tuple (r.map λn:Nat=>PyData.int (n:Int))
theorem FG(a b:Nat):(PyData.int (a:Int)).eqv (.int (b:Int))=decide (a=b):=by
 have:(PyData.int (a:Int)).eqv (.int (b:Int))=((a:Int)==(b:Int)):=by simp[PyData.eqv]
 rw[this]
 by_cases h:a=b
 ·subst h;simp
 ·have:¬(a:Int)=(b:Int):=by omega
  simp[h,this]
theorem ajq(r r':List Nat):(nt r).eqv (nt r')=decide (r=r'):=by
 unfold nt;rw[PyData.eqv,xm FG]
theorem PN{sr:Ev->aa->R Src}{pick:List (Option Nat)}{g:Gd}{t:ai}{a:af}{e:Ev}{c c':aa}{items l:List D}(h1:sr e c=.ok ⟨items,λ_=>True⟩ c) (hl:items.length<Ξ) (h2:bL (λ_=>True) g t a items (f7 pick e) [] c=.ok l c'):bg sr pick g t a e c=.ok (.lst l) c':=by
 rw[kO,h1];simp only[R.aL];rw[if_pos hl,h2];rfl
theorem uE{f:D->D->aa->R D}{d1 d2:af}{e:Ev}{c c1 c2:aa}{x y:D}{r:R D}(h1:d1 e c=.ok x c1) (h2:d2 e c1=.ok y c2) (h:f x y c2=r):ay f d1 d2 e c=r:=by
 rw[gR,h1];simp only[R.aL];rw[h2];exact h
structure Wk (w:List (List Nat)):Prop where
 len:w.length<64
 row:∀r∈w,Up r/\∀x∈r,x<w.length
theorem Pc{dO da:af}{e:Ev}{c:aa}{k:Nat}{acc l:List D}(h1:dO e c=.ok (.ref k) c) (h2:da e c=.ok (.lst l) c) (hk:c[k]? = Y (.lst acc)) (hl:acc.length+l.length<=1000000) (nr:bB l=L):gk dO da e c=.ok .aE (c.set k (.lst (acc++l))):=by
 have hs:1000000<=Ξ:=by decide
 unfold gk;rw[h1];simp only[R.aL];rw[h2];simp only[R.aL];rw[hk];dsimp only;rw[if_pos ⟨by omega,nr⟩]
theorem ahf{m:Nat}(f:Nat->Nat->Bool) (hm:m<60):Wk (wF m f):=by
 refine⟨by rw[iY];omega,λr hr=>?_⟩
 obtain⟨i,_,rfl⟩:=x6.mp hr;rw[iY];exact⟨VD _ U8,λx hx=>H8.mp (RV.mp hx).1⟩
theorem Qi{m:List D->aa->R D}{d1 d2:af}{e:Ev}{c c1 c2 c3:aa}{x y v:D}(h1:d1 e c=.ok x c1) (h2:d2 e c1=.ok y c2) (h:m [x,y] c2=.ok v c3):aH 2 m (ao d1 (ao d2 au)) e c=.ok v c3:=by
 simp only[x_call,cT,h1,h2,cI,R.aL];rw[if_pos (by rfl)];exact h
theorem Qj{m:List D->aa->R D}{d1:af}{e:Ev}{c c1 c2:aa}{x v:D}(h1:d1 e c=.ok x c1) (h:m [x] c1=.ok v c2):aH 1 m (ao d1 au) e c=.ok v c2:=by
 simp only[x_call,cT,h1,cI,R.aL];rw[if_pos (by rfl)];exact h
theorem LC{n:Nat}{b:ah}{xs:List D}{c c':aa}{v:D}(h:b (cC n xs) c=.ok (.rt v) c') (hv:noRef v=L) (hr:∀k,v≠.ref k):bx n G b xs c=.ok v (c'.take c.length):=by
 rw[iB,h];simp;cases v<;>first|exact absurd rfl (hr _)|(unfold cG;dsimp only;rw[if_pos hv])
theorem d9{t:ai}{s:ah}{e:Ev}{c c':aa}(h:t e c=.ok G c'):aY t s bA e c=.ok (.nx e) c':=by
 rw[rM,h];rfl
theorem iU{d:af}{e:Ev}{c c':aa}{b:Bool}(h:d e c=.ok (.bl b) c'):aG d e c=.ok b c':=by rw[pF,h];rfl
theorem lU{t:ai}{e:Ev}{c c':aa}{b:Bool}(h:t e c=.ok b c'):cH t e c=.ok (!b) c':=by
 unfold cH;rw[h];rfl
theorem iI{α:Type}{E:List (Option D)}{t:ai}{a:af}{c:aa}{st:aa->Prop}(hst:st c) (g F:α->D):∀(l:List α) (v:Option D) (acc:List D),(∀x∈l,t (Y (g x)::E) c=.ok L c)->(∀x∈l,a (Y (g x)::E) c=.ok (F x) c)->bL st (aB 0) t a (l.map g) (v::E) acc c=.ok (acc++l.map F) c
 |[],v,acc,_,_=>by unfold bL;simp[hst]
 |x::l,v,acc,h1,h2=>by
  have e1:aB 0 _ (v::E) c=.ok (Y (g x)::E) c:=rfl;rw[E1];unfold bL;rw[if_pos hst,e1,R.aL,h1 x (by simp),R.aL,if_pos rfl,h2 x (by simp),R.aL,iI hst g F l _ _ (λy hy=>h1 y (by simp[hy])) (λy hy=>h2 y (by simp[hy])),RU]
  rfl
theorem and_true{d1 d2:af}{e:Ev}{c:aa}{r:R D}(h1:d1 e c=.ok (.bl L) c) (h2:d2 e c=r):g4 d1 d2 e c=r:=by
 unfold g4;rw[h1];simp only[R.aL]
 first
  |exact h2
  |(simp;exact h2)
theorem nF{t u:ai}{e:Ev}{c c1 c2:aa}(h1:t e c=.ok G c1) (h2:u e c1=.ok G c2):ee t u e c=.ok G c2:=by
 unfold ee;rw[h1]
 first
  |exact h2
  |(rw[if_neg (by decide)];exact h2)
  |(simp;exact h2)
def pX:ai:=(jO (aG (ay cE (ak 0) (ak 1))) (aG (qS 2 2 lams (ao (ak 1) (ao (ak 0) au)))))
def rP(n:Nat) (f:Nat->Nat->Bool) (i:Nat):List Nat:=(Ω n).filter λj=>decide (j≠i)&&f i j
def iC(n:Nat) (f:Nat->Nat->Bool):List (List Nat):=(Ω n).map (rP n f)
section
variable {k n:Nat}{E:ν}{ns:List Str}{l:List D}{m:List D->aa->R D}{c:aa}{f:Nat->Nat->Bool}
theorem ajv{one j:Nat}(hk:lams[k]? = Y (E,ns,m)) (hl:fm l=L) (hm:j≠one->m ([.int one,.int j]++l) c=.ok (.bl (f one j)) c) :
  pX [Y (.int j),Y (.int one),Y (.lam k E ns l)] c=.ok (decide (j≠one)&&f one j) c:=by
 unfold pX
 by_cases h:j=one
 ·subst h;simp
 ·have h':¬((j:Int)=one):=by omega
  have hc:qS 2 2 lams (ao (ak 1) (ao (ak 0) au)) [Y (.int j),Y (.int one),Y (.lam k E ns l)] c=.ok (.bl (f one j)) c:=by
   rw[ahx 2 2 lams _ _ c (k:=k) (Ex:=E) (ns:=ns) (l:=l) rfl hk];simp only[cT,eS,gz,gs,cI,R.aL];rw[if_pos ⟨rfl,rfl,hl⟩];exact hm h
  simp[h,h',hc]
theorem ajt{q:Int}{one Δ:D}{r:List D}(bq:-4611686018427387904<=q/\q<4611686018427387904) (hlen:(aW 0 q).length<Ξ) (hc:bL (λ_=>True) (aB 0) pX (ak 0) (aW 0 q) [O,Y one,Y Δ] [] c=.ok r c) (nr:noRef (.tup r)=L):jD [.int q,one,Δ] c=.ok (.tup r) c:=by
 have hb:Bx=aQ (aF gr (ao (bg (bQ (ao (ak 0) au)) [O,Y 1,Y 2] (aB 0) pX (ak 0)) au)):=rfl;rw[jD,iB,hb];have es:cC 3 [D.int q,one,Δ]=[Y (.int q),Y one,Y Δ]:=rfl;rw[es];simp only[pC,pD,cT,kO,rL,eS,gz,gs,cI,R.aL];rw[if_pos (by omega)]
 simp only[R.aL];rw[if_pos hlen];have ep:f7 [O,Y 1,Y 2] [Y (D.int q),Y one,Y Δ]=[O,Y one,Y Δ]:=rfl;rw[ep,hc];simp only[R.aL];show cG G c.length (.tup r) c=_;unfold cG;dsimp only;rw[if_pos nr,RN]
theorem ahF{q:Int}{Δ:D}{r:List D}(bq:-4611686018427387904<=q/\q<4611686018427387904) (hlen:(aW 0 q).length<Ξ) (hc:bL (λ_=>True) (aB 0) aT (aH 3 jD (ao (ak 1) (ao (ak 0) (ao (ak 2) au)))) (aW 0 q) [O,Y (.int q),Y Δ] [] c=.ok r c) (nr:noRef (.tup r)=L):jd [.int q,Δ] c=.ok (.tup r) c:=by
 have hb:Br=aQ (aF gr (ao (bg _ [O,Y 0,Y 1] (aB 0) aT _) au)):=rfl;rw[jd,iB,hb];have es:cC 2 [D.int q,Δ]=[Y _,Y Δ]:=rfl;simp;rw[if_pos (by omega)]
 simp;rw[if_pos hlen];have ep:f7 [O,Y 0,Y 1] [Y (D.int q),Y Δ]=[O,Y (.int q),Y Δ]:=rfl;rw[ep,hc];show cG G c.length (.tup r) c=_;unfold cG;dsimp only;rw[if_pos nr,RN]
theorem EE{l:List D}(h:bB l=L):noRef (.tup l)=L:=by unfold noRef;exact h
theorem zQ(hn:n<1000):(aW 0 (n:Int)).length<Ξ:=by
 have hs:=fH (n:=1000) (by decide)
 rw[g9];omega
theorem Lx(hn:n<1000):-4611686018427387904<=(n:Int)/\(n:Int)<4611686018427387904:=by omega
theorem ajr{one:Nat}{Δ:D}{r:List Nat}(hc:bL (λ_=>True) (aB 0) pX (ak 0) ((Ω n).map λj:Nat=>D.int (j:Int)) [O,Y (.int one),Y Δ] [] c=.ok (r.map λj:Nat=>D.int (j:Int)) c):bL (λ_=>True) (aB 0) pX (ak 0) (aW 0 (n:Int)) [O,Y (.int one),Y Δ] [] c=.ok (nD r) c:=by rw[lR];exact hc
theorem ajs{one:Nat}{Δ:D}{r:List Nat}(hn:n<1000) (hc:bL (λ_=>True) (aB 0) pX (ak 0) ((Ω n).map λj:Nat=>D.int (j:Int)) [O,Y (.int one),Y Δ] [] c=.ok (r.map λj:Nat=>D.int (j:Int)) c) :
  jD [.int n,.int one,Δ] c=.ok (.tup (nD r)) c:=ajt (Lx hn) (zQ hn) (ajr hc) (EE (qe _))
theorem aju{one:Nat}(hk:lams[k]? = Y (E,ns,m)) (hl:fm l=L) (hn:n<1000) (hm:∀j,j<n->j≠one->m ([.int one,.int j]++l) c=.ok (.bl (f one j)) c) :
  jD [.int n,.int one,.lam k E ns l] c=.ok (.tup (nD (rP n f one))) c:=by
 exact ajs hn (mz (a:=ak 0) (c:=c) _ _ _ _ O [] (λj hj=>ajv hk hl (hm j (H8.mp hj))) (λj _ _=>rfl))
theorem adX{m:List D->aa->R D}{x y z:D}{r:R D}(h:m [x,y,z] c=r):(if[x,y,z].length=3 then m [x,y,z] c else .bad)=r:=by
 rw[if_pos (by rfl)];exact h
theorem ahG{Δ:D}{w:List (List Nat)}(hn:n<1000) (hc:bL (λ_=>True) (aB 0) aT (aH 3 jD (ao (ak 1) (ao (ak 0) (ao (ak 2) au)))) (aW 0 (n:Int)) [O,Y (.int n),Y Δ] [] c=.ok (w.map λr=>.tup (nD r)) c):jd [.int n,Δ] c=.ok (az w) c:=ahF (Lx hn) (zQ hn) hc (jt _)
theorem adL{m:List D->aa->R D}{x y z:D}{r:R D}(h:m [y,x,z] c=r):aH 3 m (ao (ak 1) (ao (ak 0) (ao (ak 2) au))) [Y x,Y y,Y z] c=r:=by
 exact adX h
theorem ahK{i:Nat}{Δ:D}{r:List Nat}(h:jD [.int n,.int i,Δ] c=.ok (.tup (nD r)) c):aH 3 jD (ao (ak 1) (ao (ak 0) (ao (ak 2) au))) [Y (.int i),Y (.int n),Y Δ] c=.ok (.tup (nD r)) c:=adL h
theorem abg{Δ:D}{g:Nat->List Nat}(h:∀i,i<n->jD [.int n,.int i,Δ] c=.ok (.tup (nD (g i))) c):bL (λ_=>True) (aB 0) aT (aH 3 jD (ao (ak 1) (ao (ak 0) (ao (ak 2) au)))) (aW 0 (n:Int)) [O,Y (.int n),Y Δ] [] c=.ok (((Ω n).map g).map λr=>.tup (nD r)) c:=by
 have hc:=mz (t:=aT) (c:=c) _ _ _ _ O [] (λj hj=>rfl) (λi hi _=>ahK (h i (H8.mp hi)))
 have ft:(Ω n).filter (λ_=>L)=Ω n:=by simp
 rw[Q0,ft]at hc
 rwa[P0,lR]
theorem CP(hk:lams[k]? = Y (E,ns,m)) (hl:fm l=L) (hn:n<1000) (hm:∀i j,i<n->j<n->j≠i->m ([.int i,.int j]++l) c=.ok (.bl (f i j)) c) :
  jd [.int n,.lam k E ns l] c=.ok (az (iC n f)) c:=ahG hn (abg λi hi=>aju hk hl hn λj hj hne=>hm i j hi hj hne)
end
theorem GF{kk:Nat}{m:List D->aa->R D}{d1:af}{E:ν}{ns:List Str}{js:List Nat}{e:Ev}{c:aa}{x v:D}{l:List D}(h1:d1 e c=.ok x c) (hg:getAll e js=Y l) (h2:m [x,.lam kk E ns l] c=.ok v c) (hv:noRef v=L):oJ kk m d1 E ns js e c=.ok v c:=by
 unfold oJ;rw[h1];simp;rw[hg];dsimp only;rw[h2];simp only[R.aL];rw[if_pos hv]
theorem EF:∀l:List Nat,fm (nD l)=L
 |[]=>rfl
 |n::l=>by
  show(eV _&&fm _)=L;rw[EF l];rfl
theorem M4(w:List (List Nat)):eV (az w)=L:=by
 show fm _=L
 induction w with
 |nil=>rfl
 |cons r w ih =>
  show(eV _&&fm _)=L;rw[ih,Bool.and_true];exact EF r
theorem aif{d1 d2 d3 d4:af}{e:Ev}{c:aa}{x y z u:D}(h1:d1 e c=.ok x c) (h2:d2 e c=.ok y c) (h3:d3 e c=.ok z c) (h4:d4 e c=.ok u c):bY (ao d1 (ao d2 (ao d3 (ao d4 au)))) e c=.ok (.tup [x,y,z,u]) c:=by
 have:4<=Ξ:=fH (by decide)
 simp only[yt,cT,h1,h2,h3,h4,cI,R.aL];rw[if_pos (by exact this)]
theorem PC{α:Type}{g:α->D}{F:α->RX}(h:∀a,cZ (g a)=Y (F a)):∀l:List α,fc (l.map g)=Y (l.map F)
 |[]=>rfl
 |a::l=>by
  show(match cZ (g a),fc (l.map g)with|some a,Y r=>Y (a::r)|_,_=>O)=_
  rw[h a,PC h l];rfl
theorem xq{α:Type}{F:α->RX}{n:Nat}(h:∀a,(F a).depth<=n):∀l:List α,PyData.depthAll (l.map F)<=n
 |[]=>by simp[PyData.depthAll]
 |a::l=>by
  have h1:=h a;have h2:=xq h l;rw[E1,PyData.depthAll];omega
theorem abx(v w:List (List Nat)) (c:aa):kB (az v) (az w) c=.ok (.bl (decide (v=w))) c:=by
 have hd:∀w:List (List Nat),fL c (az w)=Y (.tuple (w.map nt)):=λw=>by
  show(match fc (w.map λr=>D.tup (nD r))with|some r=>Y (PyData.tuple r)|none=>O)=_
  rw[PC (F:=nt) λr=>by
   show(match fc (nD r)with|some r=>Y (PyData.tuple r)|none=>O)=_
   rw[uq];rfl]
 have dp:∀w:List (List Nat),(PyData.tuple (w.map nt)).depth<=64:=λw=>by
  have h1:∀r:List Nat,(nt r).depth<=10:=λr=>by
   unfold nt;have:=xq (F:=λn:Nat=>PyData.int (n:Int)) (n:=5) (λa=>by simp[PyData.depth]) r
   simp only[PyData.depth];omega
  have:=xq h1 w;simp only[PyData.depth];omega
 unfold kB;rw[hd,hd];dsimp only;rw[if_pos ⟨dp v,dp w⟩,PyData.eqv,xm ajq]
theorem Jl{m:Nat}{h g:Nat->Nat->Bool}(h0:∀i,h i i=G) (g0:∀i,g i i=G):iC m h=wF m g↔∀i j,i<m->j<m->h i j=g i j:=by
 constructor
 ·intro e i j hi hj;have h1:(iC m h)[i]? = (wF m g)[i]?:=by rw[e]
  simp only[iC,wF,Q9,T9 hi,Sg,Option.some.injEq]at h1
  by_cases q:j=i
  ·subst q;rw[h0,g0]
  ·have h2:j∈rP m h i↔j∈cj m g i:=by rw[h1]
   unfold rP cj at h2;cases hh:h i j<;>cases hg:g i j<;>simp_all
 ·intro e;refine R4 λi hi=>?_
  refine SV λj hj=>?_
  rw[e i j (H8.mp hi) (H8.mp hj)]
  by_cases q:j=i
  ·subst q;rw[g0];simp
  ·simp[q]
def sI(w:List (List Nat)) (i j:Nat):Bool:=!decide (j∈w.getD i [])
def gA(w:List (List Nat)):List (List Nat):=iC w.length (sI w)
theorem Ed{w:List (List Nat)}(hn:w.length<1000) (c:aa):nQ [az w] c=.ok (az (gA w)) c:=by
 have hw:=CP (k:=1) (l:=[az w]) (f:=sI w) rfl (by show(eV _&&fm [])=L;rw[M4];rfl) hn λi j hi hj hne=>by
  have e:sI w i j = !decide (j∈w[i]):=by unfold sI;rw[Q6,Bt hi];rfl
  rw[e];show qt [Y (.int i),Y (.int j),Y (az w)] c=_;unfold qt;simp only[gR,eS,gz,gs,R.aL,(k7 (Bt hi) c)];exact(MS w[i] j c)
 rw[nQ,iB];unfold BA;have es:cC 1 [az w]=[Y _]:=rfl;rw[es,pC,(GF (d1:=aF aS (ao (ak 0) au)) (js:=[0]) (e:=[Y _]) (by simp only[pD,cT,eS,gz,cI,R.aL];exact nX w c) rfl hw (jt _))]
 show cG G c.length (az (gA w)) c=_;have nr:=jt (gA w);unfold az at nr ⊢;unfold cG;dsimp only;rw[if_pos nr,RN]
def jX(i:Nat) (r:List Nat):List (Nat×Nat):=(r.filter λj=>decide (i<j)).map λj=>(i,j)
def eT(w:List (List Nat)):List (Nat×Nat):=(w.mapIdx jX).flatten
theorem aiy(i:Nat) (r:List Nat) (v:Option D) (c:aa):bL (λ_=>True) (aB 0) (aG (ay iG (ak 1) (ak 0))) (bY (ao (ak 1) (ao (ak 0) au))) (nD r) [v,Y (.int i)] [] c=.ok ((jX i r).map aR) c:=by
 have h2:2<=Ξ:=fH (by decide)
 have:=mz (E:=[Y (.int i)]) (t:=(aG (ay iG (ak 1) (ak 0)))) (a:=(bY (ao (ak 1) (ao (ak 0) au)))) (c:=c) (λj:Nat=>D.int j) (λj=>aR (i,j)) (λj=>decide (i<j)) r v [] (λj _=>by
  by_cases h:i<j
  ·have h':i<j:=by omega
   simp[h,h']
  ·simp) (λj _ _=>by simp[h2,aR])
 unfold jX
 rwa[P0]
def vf:ah:=(dg (gk (ak 1) (bg (fy (ak 3)) [O,Y 2] (aB 0) (aG (ay iG (ak 1) (ak 0))) (bY (ao (ak 1) (ao (ak 0) au))))))
theorem aby{i:Nat}{r:List Nat}{acc:List (Nat×Nat)}{c:aa}(a0:Option D) (hr:r.length<1000) (ha:acc.length+1000<1000000) :
  vf [a0,Y (.ref c.length),Y (.int i),Y (.tup (nD r))] (c++[.lst (acc.map aR)])=.ok (.nx [a0,Y (.ref c.length),Y (.int i),Y (.tup (nD r))]) (c++[.lst ((acc++jX i r).map aR)]):=by
 have hs:1000000<=Ξ:=by decide
 have hc:=aiy i r O (c++[.lst (acc.map aR)]);have hl:(jX i r).length<=r.length:=by unfold jX;rw[x8];exact SM _ _
 have hd:bg (fy (ak 3)) [O,Y 2] (aB 0) (aG (ay iG (ak 1) (ak 0))) (bY (ao (ak 1) (ao (ak 0) au))) [a0,Y (.ref c.length),Y (.int i),Y (.tup (nD r))] (c++[.lst (acc.map aR)])=.ok (.lst ((jX i r).map aR)) (c++[.lst (acc.map aR)]):=by
  simp only[kO,yu,eS,gz,gs,R.aL];rw[if_pos (by simp[nD];omega)]
  have ep:f7 [O,Y 2] [a0,Y (D.ref c.length),Y (.int i),Y (.tup (nD r))]=[O,Y (.int i)]:=rfl;rw[ep,hc];rfl
 have hx:gk (ak 1) (bg (fy (ak 3)) [O,Y 2] (aB 0) (aG (ay iG (ak 1) (ak 0))) (bY (ao (ak 1) (ao (ak 0) au)))) [a0,Y (.ref c.length),Y (.int i),Y (.tup (nD r))] (c++[.lst (acc.map aR)])=.ok .aE (c++[.lst ((acc++jX i r).map aR)]):=by
  unfold gk;simp only[eS,gz,gs,R.aL,hd];have hg:(c++[Cell.lst (acc.map aR)])[c.length]? = Y (.lst (acc.map aR)):=by simp
  rw[hg];dsimp only;rw[if_pos ⟨by simp;omega,M3 _⟩]
  simp
 unfold vf;rw[yx,hx];rfl
theorem ah5(w:List (List Nat)) {i:Nat}(h:i<w.length):eT (w.take i)++jX i w[i]=eT (w.take (i+1)):=by
 unfold eT;rw[Ut h,List.mapIdx_append,List.flatten_append];simp[Nat.min_eq_left (SD h)]
theorem Dh{m:Nat}:∀{l:List Nat},(∀x∈l,x<=m)->l.sum<=l.length*m
 |[],_=>by simp
 |x::l,h=>by
  have h1:=h x (.head _);have h2:=Dh λy hy=>h y (.tail _ hy)
  rw[S0,Iv,UO];omega
theorem ah6(w:List (List Nat)) (m:Nat) (h:∀r∈w,r.length<=m):(eT w).length<=w.length*m:=by
 unfold eT;have:∀x∈(w.mapIdx jX).map List.length,x<=m:=λx hx=>by
  obtain⟨l,hl,rfl⟩:=x6.mp hx;obtain⟨i,hi,rfl⟩:=VC.mp hl;refine Q3 ?_ (h _ (RH hi));unfold jX;rw[x8];exact SM _ _
 have:=Dh this
 simpa using this
theorem JE{w:List (List Nat)}(hw:w.length<64) (hr:∀r∈w,r.length<=64) (c:aa):vW [az w] c=.ok (.lst ((eT w).map aR)) c:=by
 have hf:=wW (st:=λ_=>True) (g:=gG 2 (dj (aB 2) (dj (aB 3) gZ))) (s:=vf) _ (λ_ v=>[Y (az w),Y (.ref c.length),v.1,v.2]) ((w.map λr=>D.tup (nD r)).mapIdx λi x=>.tup [.int i,x]) 0 (O,O) (λ_ _=>trivial) (λi x hx v=>by
  rw[QV];have hi:i<w.length:=by have:=(Q7.mp hx).1;simpa using this
  have ex:x=.tup [.int i,.tup (nD w[i])]:=by
   rw[VN,Q9,Bt hi]at hx;cases hx;rfl
  subst ex;have hl:=ah6 (w.take i) 64 λr h=>hr r (R6 h)
  have h3:(w.take i).length*64<=64*64:=Ua (by rw[Sz];omega) (ZA _)
  have hs:=aby (i:=i) (r:=w[i]) (acc:=eT (w.take i)) (c:=c) (Y (az w)) (by have:=hr _ (RH hi);omega) (by omega)
  rw[ah5 w hi]at hs;exact⟨_,by simp,(Y (.int i),Y (.tup (nD w[i]))),hs⟩)
 obtain⟨v',hf⟩:=hf;have hln:((w.map λr=>D.tup (nD r)).mapIdx λi x=>D.tup [.int i,x]).length=w.length:=by simp
 rw[QV,hln,RN]at hf;have hb:Bv=aC (aN 1 (fW au)) (aC (bU _ _ vf) _):=rfl;rw[vW,iB,hb];have es:cC 4 [az w]=[Y (az w),O,O,O]:=rfl;have e1:aN 1 (fW au) [Y (az w),O,O,O] c=.ok (.nx [Y (az w),Y (.ref c.length),O,O]) (c++[.lst []]):=by simp
 have e2:bU (qQ (ao (ak 0) au)) (gG 2 (dj (aB 2) (dj (aB 3) gZ))) vf [Y (az w),Y (.ref c.length),O,O] (c++[.lst []])=.ok (.nx [Y (az w),Y (.ref c.length),v'.1,v'.2]) (c++[.lst ((eT w).map aR)]):=by
  exact hf
 rw[es,b9 e1,b9 e2];simp[cG]
theorem Wk.short{w:List (List Nat)}(h:Wk w) {r:List Nat}(hr:r∈w):r.length<=w.length:=CW (h.row r hr).1 (h.row r hr).2
def jP(w:List (List Nat)) (p:Nat×Nat):Nat:=lB (w.getD p.1 []) (w.getD p.2 [])
theorem Nl{w:List (List Nat)}(h:Wk w) {r:List Nat}(hr:r∈w) (c:aa):lW c (.tup (nD r))=Y r:=by
 obtain⟨h1,h2⟩:=h.row r hr;have hl:=h.len;have:=CW (uS r) (λx hx=>h2 x (vR.mp hx))
 exact Nn (by omega) λx hx=>by have:=h2 x hx;omega
theorem ZX{a b:aj}{e:Ev}{c:aa}{x y:D}{ns ms:List Nat}(ha:a e c=.ok [x] c) (hb:b e c=.ok [y] c) (hx:lW c x=Y ns) (hy:lW c y=Y ms):uw a b e c=.ok (.int (lB ns ms:Nat)) c:=by
 unfold uw;rw[ha];simp;rw[hx,hb];simp;rw[hy]
theorem PZ{w:List (List Nat)}(h:Wk w) {a b:Nat}(ha:a<w.length) (hb:b<w.length) (c:aa):nT [az w,.int a,.int b] c=.ok (.int (jP w (a,b):Nat)) c:=by
 have h2:=k7 (Bt hb) c;have e:uw (ao (ay aD (ak 0) (ak 1)) au) (ao (ay aD (ak 0) (ak 2)) au) [Y (az w),Y (.int a),Y (.int b)] c=.ok _ c :=
  ZX (by simp only[cT,gR,eS,gz,gs,cI,R.aL,(k7 (Bt ha) c)]) (by simp only[cT,gR,eS,gz,gs,cI,R.aL,h2]) (Nl h (RH ha) c) (Nl h (RH hb) c)
 have e2:jP w (a,b)=lB w[a] w[b]:=by
  unfold jP;rw[Q6,Q6,Bt ha,Bt hb];rfl
 rw[nT,iB];unfold BY;have es:cC 3 [az w,.int a,.int b]=[Y _,Y _,Y _]:=rfl;rw[es,pC,e,e2];simp[cG,noRef]
def vE(w:List (List Nat)):Option Nat:=w.findIdx? λr=>decide (r.length≠(w.getD 0 []).length)
def dJ:Option Nat->D
 |some i=>.int (i:Nat)
 |none=>.aE
def vF:ah:=(aY (aG (ay cE (aF aS (ao (ak 2) au)) (aF aS (ao (ay aD (ak 0) (dC (.int 0))) au)))) (aQ (ak 1)) bA)
theorem ajA{W:D}{r r0:List Nat}{i:Nat}{c:aa}(h0:aD W (.int 0) c=.ok (.tup (nD r0)) c):vF [Y W,Y (.int i),Y (.tup (nD r))] c=if r.length≠r0.length then .ok (.rt (.int i)) c else .ok (.nx [Y W,Y (.int i),Y (.tup (nD r))]) c:=by
 have l1:(nD r).length=r.length:=by simp[nD]
 have l0:(nD r0).length=r0.length:=by simp[nD]
 unfold vF
 by_cases e:r.length=r0.length
 ·simp[h0,l1,l0,e]
 ·have e':¬((r.length:Int)=(r0.length:Int)):=by omega
  simp[h0,l1,l0,e,e']
theorem LU{W:D}{r0:List Nat}{c:aa}(h0:aD W (.int 0) c=.ok (.tup (nD r0)) c):∀(w:List (List Nat)) (k:Nat) (v1 v2:Option D),∃u1 u2,cy (λ_=>True) (gG 2 (dj (aB 1) (dj (aB 2) gZ))) vF ((w.map λr=>D.tup (nD r)).mapIdx λi x=>.tup [.int ((k+i:Nat):Int),x]) [Y W,v1,v2] c =
  (match w.findIdx? λr=>decide (r.length≠r0.length)with|some i=>.ok (.rt (.int ((k+i:Nat):Int))) c|none=>.ok (.nx [Y W,u1,u2]) c)
 |[],k,v1,v2=>⟨v1,v2,by simp⟩
 |r::w,k,v1,v2=>by
  have hg:gG 2 (dj (aB 1) (dj (aB 2) gZ)) (.tup [.int ((k+0:Nat):Int),.tup (nD r)]) [Y W,v1,v2] c=.ok [Y W,Y (.int ((k+0:Nat):Int)),Y (.tup _)] c:=rfl;have hs:=ajA (i:=k+0) (r:=r) h0;rw[E1,List.mapIdx_cons,kr,hg,R.aL,hs,List.findIdx?_cons]
  by_cases e:r.length=r0.length
  ·obtain⟨u1,u2,ih⟩:=LU h0 w _ (Y (.int ((k+0:Nat):Int))) (Y (.tup _));refine⟨u1,u2,?_⟩;rw[if_neg (by simp[e])]
   simp only[R.aL];have e1:((w.map λr=>D.tup (nD r)).mapIdx λi x=>D.tup [.int ((k+(i+1):Nat)),x])=((w.map λr=>D.tup (nD r)).mapIdx λi x=>D.tup [.int ((k+1+i:Nat):Int),x]):=by
    congr 1;funext i x;congr 4;omega
   rw[e1,ih];simp only[e,ne_eq,not_true_eq_false,decide_false];cases w.findIdx? λr=>decide (r.length≠r0.length)with
   |none=>rfl
   |some i =>
    simp only[Sg]
    congr 4;omega
  ·refine⟨O,O,?_⟩;rw[if_pos (by simpa using e)]
   simp only[R.aL];simp[e]
theorem akg{w:List (List Nat)}(h0:0<w.length) (c:aa):wA [az w] c=.ok (dJ (vE w)) c:=by
 have hi:aD (az w) (.int 0) c=.ok (.tup (nD (w.getD 0 []))) c:=by
  have:=k7 (Bt h0) c
  rwa[Q6,Bt h0]
 obtain⟨u1,u2,hf⟩:=LU hi w 0 O O;simp only[QV]at hf;have e2:bU (qQ (ao (ak 0) au)) (gG 2 (dj (aB 1) (dj (aB 2) gZ))) vF [Y (az w),O,O] c=(match vE w with|some i=>.ok (.rt (.int i)) c|none=>.ok (.nx [Y (az w),u1,u2]) c):=by
  unfold qQ;exact hf
 have hb:BV=aC (bU (qQ _) (gG 2 (dj _ _)) vF) _:=rfl;rw[wA,iB,hb];have es:cC 3 [az w]=[Y _,O,O]:=rfl;rw[es,pB,e2];cases vE w with
 |none=>simp[dJ,cG,noRef]
 |some i=>simp[dJ,cG,noRef]
def jZ(w:List (List Nat)):List (Nat×Nat)->Option Nat
 |[]=>O
 |p::_=>Y (jP w p)
def uL(w:List (List Nat)) (ps:List (Nat×Nat)):Prop:=∀p∈ps,p.1<w.length/\p.2<w.length
theorem Eh(o:Option Nat):noRef (dJ o)=L/\∀k,dJ o≠.ref k:=by
 cases o<;>exact⟨rfl,λk h=>by cases h⟩
theorem Fx(p:Nat×Nat) (c:aa):aD (aR p) (.int 0) c=.ok (.int p.1) c:=rfl
theorem Fw(p:Nat×Nat) (c:aa):aD (aR p) (.int 1) c=.ok (.int p.2) c:=rfl
theorem Dp{w:List (List Nat)}(h:Wk w) {ps:List (Nat×Nat)}(hp:uL w ps) (c:aa):kZ [az w,.lst (ps.map aR)] c=.ok (dJ (jZ w ps)) c:=by
 rw[kZ];refine cQ ?_ (Eh _).1 (Eh _).2;have es:cC 2 [az w,.lst (ps.map aR)]=[Y (az w),Y _]:=rfl;rw[es];unfold Bw;cases ps with
 |nil=>simp[rR,fJ,fP,jZ,dJ]
 |cons p ps =>
  have h1:aD (.lst ((p::ps).map aR)) (.int 0) c=.ok (aR p) c:=by
   have:=jm (xs:=(p::ps).map aR) (j:=0) (v:=aR p) rfl;rw[iX];exact(by rw[show((0:Int))=((0:Nat):Int)from rfl,this])
  obtain⟨p1,p2⟩:=hp p (.head _);have ht:ur (ak 1) [Y (az w),Y (.lst ((p::ps).map aR))] c=.ok L c:=by simp[rR,fJ,fP]
  rw[pC,lK,ht];simp only[R.aL];rw[if_pos trivial,(kJ (m:=nT) (d1:=ak 0) (d2:=ay aD (ay aD (ak 1) (dC (.int 0))) (dC (.int 0))) (d3:=ay aD (ay aD (ak 1) (dC (.int 0))) (dC (.int 1))) (e:=[Y (az w),Y (.lst ((p::ps).map aR))]) (c:=c) rfl (by simp only[gR,eS,jV,gz,gs,R.aL,h1,Fx]) (by simp only[gR,eS,jV,gz,gs,R.aL,h1,Fw]) (PZ h p1 p2 c))]
  rfl
def uU:ah:=(aY (aG (ay cE (aH 3 nT (ao (ak 0) (ao (ay aD (ak 3) (dC (.int 0))) (ao (ay aD (ak 3) (dC (.int 1))) au)))) (ak 2))) (aQ (ak 3)) bA)
def mV(w:List (List Nat)) (s:Nat) (ps:List (Nat×Nat)):Option (Nat×Nat):=ps.find? λp=>decide (jP w p≠s)
theorem ahi{w:List (List Nat)}(h:Wk w) {p:Nat×Nat}(hp:p.1<w.length/\p.2<w.length) {s:Nat}(a1:Option D) (c:aa):uU [Y (az w),a1,Y (.int s),Y (aR p)] c=if jP w p≠s then .ok (.rt (aR p)) c else .ok (.nx [Y (az w),a1,Y (.int s),Y (aR p)]) c:=by
 have hc:=kJ (m:=nT) (d1:=ak 0) (d2:=ay aD (ak 3) (dC (.int 0))) (d3:=ay aD (ak 3) (dC (.int 1))) (e:=[Y (az w),a1,Y (.int s),Y (aR p)]) (c:=c) rfl (by simp only[gR,eS,jV,gz,gs,R.aL,Fx]) (by simp only[gR,eS,jV,gz,gs,R.aL,Fw]) (PZ h hp.1 hp.2 c)
 unfold uU;rw[aaZ hc rfl];rfl
theorem Js{w:List (List Nat)}(h:Wk w) {s:Nat}{a1:Option D}{c:aa}:∀(ps:List (Nat×Nat)) (v:Option D),uL w ps->∃u,cy (λ_=>True) (aB 3) uU (ps.map aR) [Y (az w),a1,Y (.int s),v] c=(match mV w s ps with|some p=>.ok (.rt (aR p)) c|none=>.ok (.nx [Y (az w),a1,Y (.int s),u]) c)
 |[],v,_=>⟨v,by simp[mV]⟩
 |p::ps,v,hp=>by
  obtain⟨u,ih⟩:=Js (a1:=a1) h ps (Y (aR p)) λq hq=>hp q (.tail _ hq)
  have hs:=ahi h (hp p (.head _)) (s:=s) a1 c;have hg:aB 3 (aR p) [Y (az w),a1,Y (.int s),v] c=.ok [Y (az w),a1,Y (.int s),Y (aR p)] c:=rfl
  by_cases e:jP w p=s
  ·refine⟨u,?_⟩;rw[E1,kr,hg,R.aL,hs,if_neg (by simp[e])]
   simp only[R.aL];rw[ih];unfold mV;rw[WL (by simp[e])]
  ·refine⟨u,?_⟩;rw[E1,kr,hg,R.aL,hs,if_pos (by simpa using e)]
   unfold mV;rw[Vf (by simpa using e)]
   rfl
def pairD:Option (Nat×Nat)->D
 |some p=>aR p
 |none=>.aE
def iZ(w:List (List Nat)) (ps:List (Nat×Nat)):Option (Nat×Nat):=match ps with
 |[]=>O
 |p::ps=>mV w (jP w p) (p::ps)
theorem Mj(o:Option (Nat×Nat)):noRef (pairD o)=L/\∀k,pairD o≠.ref k:=by
 cases o<;>exact⟨rfl,λk h=>by cases h⟩
theorem aho{w:List (List Nat)}(h:Wk w) {ps:List (Nat×Nat)}(hp:uL w ps) (c:aa):wB [az w,.lst (ps.map aR)] c=.ok (pairD (iZ w ps)) c:=by
 have e0:aN 2 (aH 2 kZ (ao (ak 0) (ao (ak 1) au))) [Y (az w),Y (.lst (ps.map aR)),O,O] c=.ok (.nx [Y (az w),Y (.lst (ps.map aR)),Y (dJ (jZ w ps)),O]) c:=by
  rw[pA,(g5 (m:=kZ) (d1:=ak 0) (d2:=ak 1) (e:=[Y (az w),Y _,O,O]) (c:=c) rfl rfl (Dp h hp c))];rfl
 have hb:BW=aC _ (aC (bU _ (aB 3) uU) _):=rfl;refine cQ ?_ (Mj _).1 (Mj _).2;have es:cC 4 [az w,.lst (ps.map aR)]=[Y (az w),Y _,O,O]:=rfl;rw[es,hb,b9 e0];cases ps with
 |nil =>
  simp[iZ,pairD]
 |cons p ps =>
  obtain⟨u,hf⟩:=Js h (c:=c) (p::ps) O hp;have e1:bU (cO (ak 1)) (aB 3) uU [Y (az w),Y (.lst ((p::ps).map aR)),Y (dJ (jZ w (p::ps))),O] c=(match mV w (jP w p) (p::ps)with|some p=>.ok (.rt (aR p)) c|none=>.ok (.nx [Y (az w),Y (.lst ((p::ps).map aR)),Y (.int (jP w p:Nat)),u]) c):=by
   unfold cO;exact hf
  have eu:iZ w (p::ps)=mV w (jP w p) (p::ps):=rfl;rw[pB,e1,eu];cases mV w (jP w p) (p::ps)with
  |none=>simp[pairD]
  |some p=>simp[pairD]
def A8:ah:=(aC (aN 6 (aH 2 wB (ao (ak 0) (ao (ak 5) au)))) (aY (aG (ay qw (ak 6) (dC .aE))) (aQ (bY (ao (ak 4) (ao (ay aD (ak 6) (dC (.int 0))) (ao (ay aD (ak 6) (dC (.int 1))) au))))) bA))
theorem Pg{w:List (List Nat)}(h:Wk w) {ps:List (Nat×Nat)}(hp:uL w ps) {c:aa}(a1 a2 a3 a6:Option D) (word:Str):∃u,A8 [Y (az w),a1,a2,a3,Y (.str word),Y (.lst (ps.map aR)),a6] c=(match iZ w ps with
  |some p=>.ok (.rt (.tup [.str word,.int p.1,.int p.2])) c
  |none=>.ok (.nx [Y (az w),a1,a2,a3,Y (.str word),Y (.lst (ps.map aR)),u]) c):=by
 have hs:=g5 (d1:=ak 0) (d2:=ak 5) (e:=[Y (az w),a1,a2,a3,Y (.str word),Y (.lst (ps.map aR)),a6]) rfl rfl (aho h hp c);have e0:aN 6 (aH 2 wB (ao (ak 0) (ao (ak 5) au))) [Y (az w),a1,a2,a3,Y (.str word),Y (.lst (ps.map aR)),a6] c=.ok (.nx [Y (az w),a1,a2,a3,Y (.str word),Y (.lst (ps.map aR)),Y (pairD (iZ w ps))]) c:=by
  rw[pA,hs];rfl
 refine⟨Y (pairD (iZ w ps)),?_⟩;unfold A8;rw[b9 e0];cases iZ w ps with
 |none=>simp[pairD,gO]
 |some p =>
  have h3:=aie (x:=.str word) (y:=.int p.1) (z:=.int p.2) (d1:=ak 4) (d2:=ay aD (ak 6) (dC (.int 0))) (d3:=ay aD (ak 6) (dC (.int 1))) (e:=[Y (az w),a1,a2,a3,Y _,Y (.lst (ps.map aR)),Y (aR p)]) (c:=c) rfl (by simp only[gR,eS,jV,gz,gs,R.aL,Fx]) (by simp only[gR,eS,jV,gz,gs,R.aL,Fw])
  have hn:aG (ay qw (ak 6) (dC .aE)) [Y (az w),a1,a2,a3,Y (.str word),Y (.lst (ps.map aR)),Y (aR p)] c=.ok L c:=rfl;show aY _ _ _ [Y (az w),a1,a2,a3,Y _,Y _,Y (aR p)] c=_;rfl
def ly(w:List (List Nat)):D:=match vE w with
 |some i=>.tup [.str "place",.int (i:Nat)]
 |none=>match iZ w (eT w)with
  |some p=>.tup [.str "tied",.int p.1,.int p.2]
  |none=>match iZ w (eT (gA w))with
   |some p=>.tup [.str "apart",.int p.1,.int p.2]
   |none=>.tup [.str "even",.tup [.int (w.length:Nat),.int ((w.getD 0 []).length:Nat),dJ (jZ w (eT w)),dJ (jZ w (eT (gA w)))]]
theorem yK{w:List (List Nat)}{m:Nat}(hl:w.length<=m) (h:∀r∈w,∀x∈r,x<m):∀p∈eT w,p.1<m/\p.2<m:=λp hp=>by
 obtain⟨l,hl',hp⟩:=List.mem_flatten.mp hp;obtain⟨i,hi,rfl⟩:=VC.mp hl';obtain⟨j,hj,rfl⟩:=x6.mp hp;exact⟨by simp only;omega,h _ (RH hi) j (RV.mp hj).1⟩
theorem CT(n:Nat) (f:Nat->Nat->Bool):∀r∈iC n f,r.length<=n/\∀x∈r,x<n:=λr hr=>by
 obtain⟨i,_,rfl⟩:=x6.mp hr;refine⟨?_,λx hx=>H8.mp (RV.mp hx).1⟩
 have:=SM (λj=>decide (j≠i)&&f i j) (Ω n)
 rwa[S1]at this
theorem ahc(n:Nat) (f:Nat->Nat->Bool):(iC n f).length=n:=by simp[iC]
theorem O0{g:Gd}{s:ah}{x v:D}{xs:List D}{e e':Ev}{c:aa}(hg:g x e c=.ok e' c) (hs:s e' c=.ok (.rt v) c):cy (λ_=>True) g s (x::xs) e c=.ok (.rt v) c:=by
 rw[kr,hg,R.aL,hs];rfl
theorem qD{g:Gd}{s:ah}{x:D}{xs:List D}{e e' e'':Ev}{c:aa}{r:R Fl}(hg:g x e c=.ok e' c) (hs:s e' c=.ok (.nx e'') c) (h:cy (λ_=>True) g s xs e'' c=r):cy (λ_=>True) g s (x::xs) e c=r:=by
 rwa[kr,hg,R.aL,hs]
theorem vn{s t:ah}{e e':Ev}{c:aa}{r:R Fl}(h:s e c=.ok (.nx e') c) (h2:t e' c=r):aC s t e c=r:=by
 rw[pB,h];exact h2
theorem vm{s t:ah}{e:Ev}{c:aa}{v:D}(h:s e c=.ok (.rt v) c):aC s t e c=.ok (.rt v) c:=by
 rw[pB,h];rfl
def evR:ah:=aQ (bY (ao (dC (.str "even")) (ao (bY (ao (aF aS (ao (ak 0) au)) (ao (aF aS (ao (ay aD (ak 0) (dC (.int 0))) au)) (ao (aH 2 kZ (ao (ak 0) (ao (ak 2) au))) (ao (aH 2 kZ (ao (ak 0) (ao (ak 3) au))) au))))) au)))
theorem Pe{w:List (List Nat)}(h:Wk w) (h0:0<w.length) (c:aa):tH [az w] c=.ok (ly w) c:=by
 have hl:=h.len;have hn:=JE (w:=w) hl (λr hr=>by have:=h.short hr;omega) c
 have jg:(gA w).length=w.length:=ahc _ _;have hf:=JE (w:=gA w) (by omega) (λr hr=>by have:=(CT _ _ r hr).1;omega) c
 have ho:=Ed (w:=w) (by omega) c
 have p1:uL w (eT w):=yK (ZA _) λr hr x hx=>(h.row r hr).2 x hx
 have p2:uL w (eT (gA w)):=yK (Rt jg) λr hr x hx=>(CT _ _ r hr).2 x hx
 have hi:aD (az w) (.int 0) c=.ok (.tup (nD (w.getD 0 []))) c:=by
  rw[Q6,Bt h0];exact k7 (Bt h0) c
 have hp:=akg h0 c;have hw:=nX w c;have s1:=Dp h p1 c;have s2:=Dp h p2 c;obtain⟨u1,f1⟩:=Pg h p1 (c:=c) (Y .aE) (Y (.lst ((eT w).map aR))) (Y (.lst ((eT (gA w)).map aR))) O "tied"
 obtain⟨u2,f2⟩:=Pg h p2 (c:=c) (Y .aE) (Y (.lst ((eT w).map aR))) (Y (.lst ((eT (gA w)).map aR))) u1 "apart"
 have lr:aS [.tup (nD (w.getD 0 []))] c=.ok (.int ((w.getD 0 []).length:Nat)) c:=by rw[IY];simp[nD]
 unfold ly
 generalize az (gA w)=V at ho hf
 generalize D.lst ((eT w).map aR)=A at hn s1 f1 f2
 generalize D.lst ((eT (gA w)).map aR)=B at hf s2 f1 f2
 generalize D.tup (nD (w.getD 0 []))=σ at hi lr
 generalize az w=W at hn ho hi hp hw s1 s2 f1 f2 ⊢
 have key:∀v,noRef v=L->(∀k,v≠.ref k)->BX [Y W,O,O,O,O,O,O] c=.ok (.rt v) c->tH [W] c=.ok v c:=λv h2 h3 h1=>cQ h1 h2 h3
 have e0:=λx hp=>er (i:=1) (e:=[Y W,O,O,O,O,O,O]) (fh (m:=wA) (d1:=ak 0) (x:=W) (v:=x) (c:=c) rfl hp)
 cases q:vE w with
 |some i =>
  rw[q]at hp;exact key _ rfl (by simp) (vn (e0 _ hp) (vm (cM (d:=bY (ao (dC (.str "place")) (ao (ak 1) au))) (e:=[Y W,Y (.int (i:Nat)),O,O,O,O,O]) (uX (x:=.str "place") (y:=.int (i:Nat)) rfl rfl))))
 |none =>
  rw[q]at hp;have pre:∀r,cy (λ_=>True) (gG 2 (dj (aB 4) (dj (aB 5) gZ))) A8 [.tup [.str "tied",A],.tup [.str "apart",B]] [Y W,Y .aE,Y A,Y B,O,O,O] c=r->∀v,noRef v=L->(∀k,v≠.ref k)->(r.bind λfl c=>match fl with|.nx e=>evR e c|r=>.ok r c)=.ok (.rt v) c->tH [W] c=.ok v c:=λr hr v h2 h3 hv=>by
   refine key v h2 h3 (vn (e0 _ hp) (vn (e':=[Y W,Y .aE,O,O,O,O,O]) rfl (vn (er (e:=[Y W,Y .aE,O,O,O,O,O]) (fh (x:=W) rfl hn)) (vn (er (e:=[Y W,Y .aE,Y A,O,O,O,O]) (fh (fh (x:=W) rfl ho) hf)) ?_))));have FJ:fy (bY (ao (bY (ao (dC (.str "tied")) (ao (ak 2) au))) (ao (bY (ao (dC (.str "apart")) (ao (ak 3) au))) au))) [Y W,Y .aE,Y A,Y B,O,O,O] c=.ok ⟨[.tup [.str "tied",A],.tup [.str "apart",B]],λ_=>True⟩ c:=by
    rfl
   rw[pB];show((bU _ _ A8 [Y W,Y .aE,Y A,Y B,O,O,O] c).bind _)=_;rw[rO,FJ];simp only[R.aL];rw[hr];exact hv
  cases q:iZ w (eT w)with
  |some p =>
   rw[q]at f1;exact pre _ (O0 rfl f1) _ rfl (by simp) rfl
  |none =>
   rw[q]at f1;cases q:iZ w (eT (gA w))with
   |some p =>
    rw[q]at f2;exact pre _ (qD rfl f1 (O0 rfl f2)) _ rfl (by simp) rfl
   |none =>
    rw[q]at f2;refine pre (.ok (.nx [Y W,Y .aE,Y A,Y B,Y (.str "apart"),Y B,u2]) c) (qD rfl f1 (qD rfl f2 (by simp))) _ ?_ (by simp) (cM (uX (x:=.str "even") rfl (aif (dQ (x:=W) rfl hw) (dQ (bh (x:=W) (y:=.int 0) rfl rfl hi) lr) (g5 (x:=W) (y:=A) rfl rfl s1) (g5 (x:=W) (y:=B) rfl rfl s2))))
    cases jZ w (eT w)<;>cases jZ w (eT (gA w))<;>rfl
theorem aiH:10000<Ξ:=by decide
def je:List Nat->Nat
 |[]=>0
 |[a]=>a+1
 |_::b::l=>je (b::l)
theorem ZO(K:List Nat) (k:Nat):je (K++[k])=k+1:=by
 induction K with
 |nil=>rfl
 |cons a K ih =>
  cases K with
  |nil=>rfl
  |cons b K=>exact ih
def jQ(m:Nat) (g:Nat->Nat->Bool) (K:List Nat):List Nat:=(List.range' (je K) (m-je K)).filter λk=>K.all λj=>g k j
def um(m:Nat) (g:Nat->Nat->Bool) (K:List Nat):List (List Nat):=(jQ m g K).map λk=>K++[k]
def n8(m:Nat) (g:Nat->Nat->Bool):Nat->List (List Nat)
 |0=>[[]]
 |s+1=>(n8 m g s).flatMap (um m g)
theorem P9{m:Nat}{g:Nat->Nat->Bool}{K:List Nat}{k:Nat}:k∈jQ m g K↔je K<=k/\k<m/\∀j∈K,g k j=L:=by
 unfold jQ;rw[RV,RS,R8]
 constructor
 ·rintro ⟨⟨h1,h2⟩,h3⟩
  exact⟨h1,by omega,h3⟩
 ·rintro ⟨h1,h2,h3⟩
  exact⟨⟨h1,by omega⟩,h3⟩
def dB(m:Nat) (g:Nat->Nat->Bool):Nat->List (List Nat)
 |0=>[Ω m]
 |s+1=>(dB m g s).flatMap λsome=>some.map λp=>some.filter λo=>decide (o>p)&&g p o
theorem O8{α β:Type}{f h:α->List β}:∀{l:List α},(∀a∈l,f a=h a)->l.flatMap f=l.flatMap h
 |[],_=>rfl
 |a::l,q=>by rw[SW,SW,q a (by simp),O8 λb hb=>q b (by simp[hb])]
theorem CL{m:Nat}{g:Nat->Nat->Bool}(hs:∀i k,g i k=g k i):∀s,dB m g s=(n8 m g s).map (jQ m g)
 |0=>by
  have e:jQ m g []=Ω m:=by
   have e0:jQ m g []=List.range' 0 (m-0):=List.filter_eq_self.mpr (λa _=>rfl)
   rw[e0,TM];rfl
  show[Ω m]=[jQ m g []];rw[e]
 |s+1=>by
  show(dB m g s).flatMap _=((n8 m g s).flatMap (um m g)).map _;rw[CL hs s,Tc,List.map_flatMap];refine O8 λK hK=>?_
  unfold um;rw[P0];refine R4 λp hp=>?_
  obtain⟨p1,p2,p3⟩:=P9.mp hp;show(jQ m g K).filter _=jQ m g (K++[p]);unfold jQ;rw[ZO,List.filter_filter];have e:List.range' (je K) (m-je K)=List.range' (je K) (p+1-je K)++List.range' (p+1) (m-(p+1)):=by
   have:m-je K=(p+1-je K)+(m-(p+1)):=by omega
   rw[this,<-Uc]
   congr 2
   omega
  rw[e,TF];have e1:(List.range' (je K) (p+1-je K)).filter (λo=>(decide (o>p)&&g p o)&&K.all λj=>g o j)=[]:=by
   rw[WB];intro o ho;rw[RS]at ho;have:decide (o>p)=G:=by rw[decide_eq_false_iff_not];omega
   rw[this];simp
  rw[e1,Q0];refine SV λo ho=>?_
  rw[RS]at ho;have:decide (o>p)=L:=by rw[decide_eq_true_eq];omega
  rw[this,List.all_append];simp[hs p o,Bool.and_comm]
theorem I0{m:Nat}{g:Nat->Nat->Bool}(hs:∀i k,g i k=g k i) (s:Nat):((dB m g s).map List.length).sum=(n8 m g (s+1)).length:=by
 rw[CL hs,P0];show _=((n8 m g s).flatMap (um m g)).length;rw[UZ]
 congr 1
 refine R4 λK _=>?_
 show(jQ m g K).length=(um m g K).length;unfold um;rw[x8]
def iP(l:List Nat):D:=.lst (nD l)
theorem Nz(l:List Nat):noRef (iP l)=L:=by
 unfold iP noRef;exact qe l
theorem M9{m i k:Nat}(g:Nat->Nat->Bool) (hk:k<m):decide (k∈cj m g i)=g i k:=by
 rw[RW,decide_eq_true_eq];unfold cj;rw[RV,H8];simp[hk]
theorem ahe{m i:Nat}(g:Nat->Nat->Bool) (hi:i<m):(wF m g)[i]? = Y (cj m g i):=by
 unfold wF;rw[Q9,T9 hi];rfl
theorem aaY{m p o:Nat}(g:Nat->Nat->Bool) (hp:p<m) (ho:o<m) {d1 d2 d3:af}{e:Ev}{c:aa}(h1:d1 e c=.ok (.int (o:Int)) c) (h2:d2 e c=.ok (az (wF m g)) c) (h3:d3 e c=.ok (.int (p:Int)) c):aG (ay inD d1 (ay aD d2 d3)) e c=.ok (g p o) c:=by
 have:=iU (bh (f:=inD) (x:=.int (o:Int)) (y:=.tup (nD (cj m g p))) h1 (bh (x:=az (wF m g)) (y:=.int (p:Int)) h2 h3 (k7 (ahe g hp) c)) (qx (cj m g p) o c));rw[M9 g ho]at this;exact this
theorem zH(l:List Nat):(nD l).length=l.length:=by simp[nD]
def NP:ai:=(jO (aG (ay jK (ak 0) (ak 1))) (aG (ay inD (ak 0) (ay aD (ak 2) (ak 1)))))
theorem Z5{m p:Nat}(g:Nat->Nat->Bool) {l:List Nat}(hp:p<m) (hl:∀x∈l,x<m) (hn:l.length<1000) (c:aa):wo [az (wF m g),.int (p:Int),iP l] c=.ok (iP (l.filter λo=>decide (o>p)&&g p o)) c:=by
 have sz:=aiH;have dN:=mz (E:=[Y (.int p),Y (az (wF m g))]) (t:=NP) (a:=ak 0) (c:=c) (λo:Nat=>D.int o) (λo:Nat=>D.int o) (λo=>decide _&&g p o) l O [] (λo ho=>by
  have h1:aG (ay jK (ak 0) (ak 1)) [Y (.int o),Y (.int p),Y (az (wF m g))] c=.ok (decide (o>p)) c:=by
   refine iU (bh (x:=.int o) (y:=.int p) rfl rfl ?_);show R.ok (D.bl (decide (_>_))) c=_;have:decide ((o:Int)>(p:Int))=decide (o>p):=by rw[decide_eq_decide];omega
   rw[this]
  have h2:aG (ay inD (ak 0) (ay aD (ak 2) (ak 1))) [Y (.int o),Y (.int p),Y (az _)] c=.ok _ c:=aaY g hp (hl o ho) rfl rfl rfl;unfold NP jO;rw[h1,R.aL];cases decide (o>p)with
  |true=>rw[if_pos rfl,h2];rfl
  |false=>rw[if_neg (by decide)];rfl) (λo _ _=>rfl)
 rw[Q0]at dN;have hcc:=iJ (pick:=[O,Y 1,Y 0]) (e:=[Y (az _),Y (.int p),Y _]) (yR (d:=ak 2) (l:=nD l) rfl) (by rw[zH];omega) dN
 exact cQ (b:=BQ) (cM hcc) (Nz _) (λk h=>by cases h)
theorem ZR{d:af}{e:Ev}{c:aa}{m:Nat}(h:d e c=.ok (.int (m:Int)) c) (h1:0<m) (h2:m<1000):xx (ao d au) e c=.ok (iP (Ω m)) c:=by
 simp only[agW,cT,h,cI,R.aL];rw[if_pos ⟨by omega,by omega⟩]
 unfold vA iP nD;simp[P0,Td]
def eW(Δ:List (List Nat)):List D:=Δ.map iP
def rJ(c:aa) (X:D) (Δ:List D):Prop:=X=.lst Δ\/∃k,X=.ref k/\c[k]? = Y (.lst Δ)
theorem rJ.app{c:aa}{X:D}{Δ:List D}(h:rJ c X Δ) (cs:aa):rJ (c++cs) X Δ:=by
 rcases h with h|⟨k,h1,h2⟩
 ·exact .inl h
 ·exact .inr ⟨k,h1,by rw[RJ (Q7.mp h2).1];exact h2⟩
theorem O2{st:aa->Prop}{g:Gd}{s:ah}(inv:Nat->Ev->aa->Prop) (hst:∀k e c,inv k e c->st c):∀(items:List D) (k:Nat) (e:Ev) (c:aa),inv k e c ->
  (∀i x,items[i]? = Y x->∀e c,inv (k+i) e c->∃e' e'' c' c'',g x e c=.ok e' c'/\s e' c'=.ok (.nx e'') c''/\inv (k+i+1) e'' c'') ->
  ∃e' c',inv (k+items.length) e' c'/\cy st g s items e c=.ok (.nx e') c'
 |[],k,e,c,hi,_=>⟨e,c,hi,by unfold cy;rw[if_pos (hst _ _ _ hi)]⟩
 |x::xs,k,e,c,hi,h=>by
  obtain⟨e',e'',c',c'',h1,h2,h3⟩:=h 0 x rfl e c hi;obtain⟨e3,c3,i3,h4⟩:=O2 inv hst xs (k+1) e'' c'' h3 λi y hy e c hi=>by
   have e1:k+1+i=k+(i+1):=by omega
   rw[e1]at hi ⊢;exact h (i+1) y hy e c hi
  refine⟨e3,c3,?_,?_⟩
  ·rw[Iv,show k+(xs.length+1)=k+1+xs.length by omega];exact i3
  ·unfold cy;rw[if_pos (hst _ _ _ hi),h1,R.aL,h2,R.aL];exact h4
theorem Ku{X:D}{Δ:List D}{c:aa}{d:af}{e:Ev}(h:rJ c X Δ) (hd:d e c=.ok X c):∃st:aa->Prop,cO d e c=.ok ⟨Δ,st⟩ c/\∀c',rJ c' X Δ->st c':=by
 rcases h with rfl|⟨k,rfl,hk⟩
 ·exact⟨λ_=>True,by unfold cO;rw[hd];rfl,λ_ _=>trivial⟩
 ·refine⟨λc'=>c'[k]? = Y (.lst Δ),?_,λc' h=>?_⟩
  ·unfold cO;rw[hd];simp only[R.aL,hk]
  ·rcases h with h|⟨k',h1,h2⟩
   ·cases h
   ·cases h1;exact h2
theorem adq{sr:Ev->aa->R Src}{st:aa->Prop}{pick:List (Option Nat)}{g:Gd}{t:ai}{a:af}{e:Ev}{c c':aa}{items l:List D}(h1:sr e c=.ok ⟨items,st⟩ c) (hl:items.length<Ξ) (h2:bL st g t a items (f7 pick e) [] c=.ok l c'):bg sr pick g t a e c=.ok (.lst l) c':=by
 rw[kO,h1];simp;rw[if_pos hl,h2];rfl
theorem acC{sr:Ev->aa->R Src}{st:aa->Prop}{g:Gd}{s:ah}{e:Ev}{c c':aa}{l:List D}{r:R Fl}(h1:sr e c=.ok ⟨l,st⟩ c') (h2:cy st g s l e c'=r):bU sr g s e c=r:=by
 rw[rO,h1];exact h2
def stp(g:Nat->Nat->Bool) (l:List Nat):List (List Nat):=l.map λp=>l.filter λo=>decide (o>p)&&g p o
theorem yy(m:Nat) (g:Nat->Nat->Bool) (s:Nat):dB m g (s+1)=(dB m g s).flatMap (stp g):=rfl
theorem adw(m:Nat) (g:Nat->Nat->Bool) (K:List Nat):(jQ m g K).length<=m:=by
 refine Q3 (SM _ _) ?_;rw[List.length_range'];omega
theorem Ja{m:Nat}{g:Nat->Nat->Bool}(hs:∀i k,g i k=g k i) {s:Nat}{l:List Nat}(h:l∈dB m g s):(∀x∈l,x<m)/\l.length<=m:=by
 rw[CL hs]at h;obtain⟨K,_,rfl⟩:=x6.mp h;exact⟨λx hx=>(P9.mp hx).2.1,adw m g K⟩
theorem acI{α β:Type}(f:α->List β) (Δ:List α) (i:Nat):((Δ.take i).flatMap f).length<=(Δ.flatMap f).length:=by
 have e:Δ.flatMap f=(Δ.take i).flatMap f++(Δ.drop i).flatMap f:=by rw[<-U1,U7]
 rw[e,QT];omega
theorem ZQ(Δ:List (List Nat)):bB (eW Δ)=L:=gV.mpr λd hd=>by
 obtain⟨l,_,rfl⟩:=x6.mp hd;exact Nz l
theorem aje(c:aa) (x y:Cell):(c++[x]).set c.length y=c++[y]:=by
 simp
def Nt:af:=(aH 3 wo (ao (ak 1) (ao (ak 0) (ao (ak 2) au))))
def EU:ah:=(dg (gk (ak 4) (bg (cO (ak 5)) [O,Y 0,Y 5] (aB 0) aT Nt)))
def nN:ah:=aC (aN 4 (fW au)) (aC (bU (cO (ak 2)) (aB 5) EU) (aN 2 (ak 4)))
theorem Dn:1000000<Ξ:=by decide
theorem Zz{m:Nat}{g:Nat->Nat->Bool}{l:List Nat}{acc:List (List Nat)}{c:aa}(a1 a2 a3:Option D) (hl:∀x∈l,x<m) (hn:l.length<=32) (ha:acc.length<=65536) :
  EU [Y (az (wF m g)),a1,a2,a3,Y (.ref c.length),Y (iP l)] (c++[.lst (eW acc)])=.ok (.nx [Y (az (wF m g)),a1,a2,a3,Y (.ref c.length),Y (iP l)]) (c++[.lst (eW (acc++stp g l))]):=by
 have sz:=Dn
 generalize hC:c++[Cell.lst (eW acc)]=C
 have dN:=iI (c:=C) (st:=λ_=>True) (E:=[Y _,Y (iP l)]) (t:=aT) (a:=Nt) trivial _ _ l O [] (λ_ _=>rfl) (λp hp=>kJ (m:=wo) (d2:=ak 0) (d3:=ak 2) rfl rfl rfl (Z5 g (hl p hp) hl (by omega) C))
 rw[Q0]at dN;have hcc:=iJ (pick:=[O,Y 0,Y 5]) (e:=[Y (az (wF m g)),a1,a2,a3,Y (.ref c.length),Y (iP l)]) (yR (d:=ak 5) (l:=nD l) rfl) (by rw[zH];omega) dN
 have el:(l.map λp=>iP (l.filter λo=>decide (o>p)&&g p o))=eW (stp g l):=by unfold eW stp;rw[P0];rfl
 rw[el]at hcc;have hsl:(stp g l).length=l.length:=by unfold stp;rw[x8]
 have h:=Po (Pc (dO:=ak 4) (k:=c.length) (acc:=eW acc) rfl hcc (by rw[<-hC];simp) (by unfold eW;rw[x8,x8];omega) (ZQ _))
 rw[<-hC,aje]at h;have e2:eW acc++eW (stp g l)=eW (acc++stp g l):=by unfold eW;rw[SO]
 rw[e2]at h;rw[<-hC];exact h
theorem Zy{m k:Nat}{g:Nat->Nat->Bool}(hg:dZ g) (hm:m<=32) (hwl:(dB m g (k+1)).length<=65536) {X:D}{c:aa}(hX:rJ c X (eW (dB m g k))) (a1 a3 a4 a5:Option D) :
  ∃w5,nN [Y (az (wF m g)),a1,Y X,a3,a4,a5] c=.ok (.nx [Y (az (wF m g)),a1,Y (.ref c.length),a3,Y (.ref c.length),w5]) (c++[.lst (eW (dB m g (k+1)))]):=by
 have sz:=Dn;have e1:aN 4 (fW au) [Y (az (wF m g)),a1,Y X,a3,a4,a5] c=.ok (.nx [Y (az (wF m g)),a1,Y X,a3,Y (.ref c.length),a5]) (c++[.lst (eW [])]):=Kr (by
  unfold fW;rw[cI];simp only[R.aL];rw[if_pos ⟨by show 0<=Ξ;omega,rfl⟩]
  rfl)
 obtain⟨st,jI,hst⟩:=Ku (d:=ak 2) (e:=[Y (az (wF m g)),a1,Y X,a3,Y (.ref c.length),a5]) (hX.app [.lst (eW [])]) rfl;obtain⟨e',c',⟨w5,rfl,rfl⟩,hf⟩:=O2 (st:=st) (g:=aB 5) (s:=EU) (λi e c'=>∃w5,e=[Y (az (wF m g)),a1,Y X,a3,Y (.ref c.length),w5]/\c'=c++[.lst (eW (((dB m g k).take i).flatMap (stp g)))])
  (λi e c' ⟨_,_,h⟩=>by rw[h];exact hst _ (hX.app _)) (eW (dB m g k)) 0 [Y (az (wF m g)),a1,Y X,a3,Y (.ref c.length),a5] (c++[.lst _]) ⟨_,rfl,rfl⟩ (λi x hx e c' ⟨w5,he,hc⟩=>by
   subst he;subst hc;unfold eW at hx;rw[Q9]at hx;cases hq:(dB m g k)[i]? with
   |none=>rw[hq]at hx;cases hx
   |some l =>
    rw[hq]at hx;cases hx;have hlm:=R5 hq;obtain⟨h1,h2⟩:=Ja hg.2 hlm;rw[QV];have hfl:=acI (stp g) (dB m g k) i;rw[<-yy]at hfl;refine⟨_,_,_,_,rfl,Zz a1 _ a3 h1 (by omega) (by omega),_,rfl,?_⟩
    rw[UC,hq,U1];simp)
 have hlen:(eW (dB m g k)).length=(dB m g k).length:=by unfold eW;rw[x8]
 rw[QV,hlen,RN,<-yy]at hf;refine⟨w5,?_⟩;unfold nN;rw[b9 e1,b9 (acC jI hf)];exact er rfl
theorem J3:∀l:List Nat,(l.map λn:Nat=>(n:Int)).sum=((l.sum:Nat):Int)
 |[]=>rfl
 |a::l=>by rw[E1,S0,S0,J3 l];omega
theorem aad{m s:Nat}{g:Nat->Nat->Bool}(hg:dZ g) (h1:1<=m) (hm:m<=32) (hB:∀k,k<=s->(dB m g k).length<=65536) (s1:s<1000) (c:aa):nR [az (wF m g),.int ((s+1:Nat):Int)] c=.ok (.int ((n8 m g (s+1)).length:Nat)) c:=by
 have sz:=Dn;have hlen:aF aS (ao (ak 0) au) [Y (az (wF m g)),Y (.int ((s+1:Nat):Int)),O,O,O,O] c=.ok (.int (m:Int)) c:=dQ (x:=az (wF m g)) rfl (by rw[nX,iY])
 have hl0:ff (ao (xx (ao (aF aS (ao (ak 0) au)) au)) au) [Y (az (wF m g)),Y (.int ((s+1:Nat):Int)),O,O,O,O] c=.ok (.lst (eW (dB m g 0))) c:=by
  have:=ZR hlen (by omega) (by omega)
  simp only[yv,cT,this,cI,R.aL];rfl
 have e1:aN 2 (ff (ao _ au)) [Y (az (wF m g)),Y (.int ((s+1:Nat):Int)),O,O,O,O] c=.ok (.nx [Y (az (wF m g)),Y (.int ((s+1:Nat):Int)),Y _,O,O,O]) c:=er (i:=2) hl0;have hrl:(aW 0 (s:Int)).length=s:=by rw[lR,zH];simp
 obtain⟨e',c',⟨X,w3,w4,w5,rfl,hX,ht⟩,hf⟩:=Ag (g:=aB 3) (s:=nN) (λi e c'=>∃X w3 w4 w5,e=[Y (az (wF m g)),Y (.int ((s+1:Nat):Int)),Y X,w3,w4,w5]/\rJ c' X (eW (dB m g i))/\∃cs,c'=c++cs)
  (aW 0 (s:Int)) 0 [Y (az (wF m g)),Y (.int ((s+1:Nat):Int)),Y _,O,O,O] c ⟨_,_,_,_,rfl,.inl rfl,[],by simp⟩ (λi x hx e c' ⟨X,w3,w4,w5,he,hX,cs,hc⟩=>by
   subst he;obtain⟨w,h⟩:=Zy hg hm (hB (0+i+1) (by have:=(Q7.mp hx).1;omega)) hX _ (Y x) w4 w5
   rw[QV]at h ⊢;exact⟨_,_,_,_,rfl,h,_,_,_,_,rfl,.inr ⟨_,rfl,by simp⟩,cs++[.lst (eW (dB m g (i+1)))],by rw[hc,RU]⟩)
 rw[hrl,QV]at hX;obtain⟨cs,rfl⟩:=ht;have hsub:ay fZ (ak 1) (dC (.int 1)) [Y (az (wF m g)),Y (.int ((s+1:Nat):Int)),Y (.lst (eW (dB m g 0))),O,O,O] c=.ok (.int (s:Int)) c:=by
  refine bh (f:=fZ) (y:=.int 1) rfl rfl ?_;show R.ok _ c=_;exact congrArg (λz=>R.ok (D.int z) c) (by omega)
 have e2:bU (bQ _) (aB 3) nN [Y (az (wF m g)),Y (.int ((s+1:Nat):Int)),Y (.lst (eW (dB m g 0))),O,O,O] c=_:=oB (nu hsub (by omega)) hf
 obtain⟨st,jI,hst⟩:=Ku (d:=ak 2) (e:=[Y (az (wF m g)),Y (.int ((s+1:Nat):Int)),Y X,w3,w4,w5]) hX rfl;have dN:=iI (c:=c++cs) (st:=st) (E:=[]) (t:=aT) (a:=aF aS (ao (ak 0) au)) (hst _ hX) iP _ (dB m g s) O [] (λ_ _=>rfl) (λl _=>dQ (f:=aS) (x:=iP l) rfl (by
  show R.ok (D.int ((nD l).length:Nat)) (c++cs)=_;rw[zH]))
 rw[Q0]at dN;have hwl:=hB s (ZA _);have hcc:=adq (pick:=[O]) (e:=[Y (az (wF m g)),Y (.int ((s+1:Nat):Int)),Y X,w3,w4,w5]) jI (by unfold eW;rw[x8];omega) dN
 have hsum:nc [.lst ((dB m g s).map λl=>D.int ((l.length:Nat):Int))] (c++cs)=.ok (.int ((n8 m g (s+1)).length:Nat)) (c++cs):=by
  have ei:((dB m g s).map λl=>D.int ((l.length:Nat):Int))=(((dB m g s).map List.length).map λn:Nat=>(n:Int)).map D.int:=by rw[P0,P0];rfl
  unfold nc;dsimp only;rw[ei,FE];dsimp only;rw[J3,I0 hg.2]
 have hb:xN=aC (aN 2 (ff (ao _ au))) (aC (bU (bQ _) (aB 3) nN) (aQ (aF nc (ao (bg (cO (ak 2)) [O] (aB 0) aT _) au)))):=rfl;have es:cC 6 [az (wF m g),.int ((s+1:Nat):Int)]=[Y (az (wF m g)),Y (.int ((s+1:Nat):Int)),O,O,O,O]:=rfl;have hr:=LC (n:=6) (b:=xN) (xs:=[az (wF m g),.int ((s+1:Nat):Int)]) (c:=c) (c':=c++cs) (by
  rw[es,hb,b9 e1,b9 e2];exact cM (dQ hcc hsum)) rfl (λk h=>by cases h)
 rw[List.take_left]at hr;exact hr
theorem M8{m a b:Nat}(f:Nat->Nat->Bool) (hb:b<m):decide (b∈cj m f a)=f a b:=by
 unfold cj;cases h:f a b<;>simp[RV,hb,h]
theorem Jd{x lo hi:Int}(h1:lo<=x) (h2:x<=hi) (c:aa):k6 [.int x,.int lo,.int hi] c=.ok (.bl L) c:=by
 simp[k6,uG,wz,uH,h1,h2]
theorem ajB{x q:Int}(h1:0<=x) (h2:x<=q-1) (c:aa):ki [.int x,.int q] c=.ok (.bl L) c:=by
 have:=Jd h1 h2 c;simp[ki,uI,this]
theorem C6{m a b:Nat}(f:Nat->Nat->Bool) (ha:a<m) (hb:b<m) (c:aa):nP [az (wF m f),.int a,.int b] c=.ok (.bl (f a b)) c:=by
 have hl:=nX (wF m f) c;rw[iY]at hl;have h1:=k7 (w:=wF m f) (i:=a) (r:=cj m f a) (by simp[wF,ha]) c
 have hin:=qx (cj m f a) b c;rw[M8 f hb]at hin;refine cQ (v:=.bl (f a b)) ?_ rfl (λk h=>by cases h)
 show xH [Y (az (wF m f)),Y (.int a),Y (.int b)] c=_;unfold xH;exact cM (aec (g5 (m:=ki) rfl (dQ rfl hl) (ajB (by omega) (by omega) c)) (bh rfl (bh rfl rfl h1) hin))
def Ez(x y z:Bool):Bool:=decide (([x,y,z].countP id) % 2=1)
theorem ZP{d1 d2 d3:af}{e:Ev}{c:aa}{x y z:D}(h1:d1 e c=.ok x c) (h2:d2 e c=.ok y c) (h3:d3 e c=.ok z c):ff (ao d1 (ao d2 (ao d3 au))) e c=.ok (.lst [x,y,z]) c:=by
 have:(3:Nat)<=Ξ:=fH (by decide)
 simp only[yv,cT,h1,h2,h3,cI,R.aL];rw[if_pos (by exact this)]
theorem YE{e:Ev}{x y z:Bool}{c:aa}(h:ak 4 e c=.ok (.lst [.bl x,.bl y,.bl z]) c):aQ (ay cu (ay gC (xB (ak 4) (dC (.bl L))) (dC (.int 2))) (dC (.int 1))) e c=.ok (.rt (.bl (Ez x y z))) c:=by
 have h1:=ado (l:=[x,y,z]) (dO:=ak 4) (e:=e) (c:=c) h;have h2:gC (.int (([x,y,z].countP id:Nat):Int)) (.int 2) c=.ok (.int ((([x,y,z].countP id:Nat):Int) % 2)) c:=nM c (by decide)
 refine cM (bh (bh h1 rfl h2) rfl ?_);cases x<;>cases y<;>cases z<;>rfl
theorem aaS{m a b d:Nat}(f:Nat->Nat->Bool) (ha:a<m) (hb:b<m) (hd:d<m) (c:aa):nS [az (wF m f),.int a,.int b,.int d] c=.ok (.bl (Ez (f a b) (f a d) (f b d))) c:=by
 refine cQ ?_ rfl (λk h=>by cases h)
 show xR [Y (az (wF m f)),Y (.int a),Y (.int b),Y (.int d),O] c=_;unfold xR;have e0:=er (i:=4) (e:=[Y (az (wF m f)),Y (.int a),Y (.int b),Y (.int d),O]) (ZP (kJ (m:=nP) (d1:=ak 0) (d2:=ak 1) (d3:=ak 2) rfl rfl rfl (C6 f ha hb c)) (kJ (m:=nP) (d1:=ak 0) (d2:=ak 1) (d3:=ak 3) rfl rfl rfl (C6 f ha hd c)) (kJ (m:=nP) (d1:=ak 0) (d2:=ak 2) (d3:=ak 3) rfl rfl rfl (C6 f hb hd c)));rw[b9 e0];exact YE rfl
def sm(t:Nat->Nat):Nat->Nat
 |0=>0
 |i+1=>sm t i+t i
theorem Kh(p:Nat->Bool):∀n:Nat,((Ω n).filter p).length=sm (λi=>if p i=L then 1 else 0) n
 |0=>rfl
 |n+1=>by
  rw[UA,TF,QT,Kh p n];show _=sm _ n+_;cases h:p n<;>simp[h]
def jC(f:Nat->Nat->Bool) (n o t:Nat):Bool:=Ez (f n o) (f n t) (f o t)
def qU(f:Nat->Nat->Bool) (m:Nat):Nat:=sm (λt=>sm (λo=>sm (λn=>if jC f n o t=L then 1 else 0) o) t) m
theorem J2{n:Nat}{s:ah}{g:Gd}{c:aa}{t:Nat->Nat}{α:Type}(E:Nat->α->Ev) (b:Nat) (v:α) (h:∀(i:Nat) (x:Nat) (v:α),i<n->∃e',g (.int (i:Int)) (E x v) c=.ok e' c/\∃v',s e' c=.ok (.nx (E (x+t i) v')) c):∃v',cy (λ_=>True) g s (aW 0 (n:Int)) (E b v) c=.ok (.nx (E (b+sm t n) v')) c:=by
 have hf:=wW (α:=α) (st:=λ_=>True) (g:=g) (s:=s) (λ_=>c) (λi v=>E (b+sm t i) v) (aW 0 (n:Int)) 0 v (λ_ _=>trivial) (λi x hx v=>by
  rw[QV];obtain⟨h1,rfl⟩:=pY hx;rw[V5];obtain⟨e',h2,v',h3⟩:=h i (b+sm t i) v (by omega)
  refine⟨e',h2,v',?_⟩;show s e' c=.ok (.nx (E (b+(sm t i+t i)) v')) c;rw[<-Nat.add_assoc];exact h3)
 obtain⟨v',hf⟩:=hf;have hl:(aW 0 (n:Int)).length=n:=by rw[g9];omega
 rw[QV,hl]at hf;exact⟨v',hf⟩
theorem adS{m:List D->aa->R D}{d1 d2 d3 d4:af}{e:Ev}{c:aa}{x y z u v:D}(h1:d1 e c=.ok x c) (h2:d2 e c=.ok y c) (h3:d3 e c=.ok z c) (h4:d4 e c=.ok u c) (h:m [x,y,z,u] c=.ok v c):aH 4 m (ao d1 (ao d2 (ao d3 (ao d4 au)))) e c=.ok v c:=by
 simp only[x_call,cT,h1,h2,h3,h4,cI,R.aL];rw[if_pos (by rfl)];exact h
theorem QA(x y:Nat) (c:aa):bZ (.int (x:Int)) (.int (y:Int)) c=.ok (.int ((x+y:Nat):Int)) c:=by
 rw[Int.natCast_add];rfl
def Ef:ah:=(aN 1 (ay bZ (ak 1) (aF aS (ao (bg (bQ (ao (ak 3) au)) [O,Y 0,Y 3,Y 2] (aB 0) (aG (aH 4 nS (ao (ak 1) (ao (ak 0) (ao (ak 2) (ao (ak 3) au)))))) (ak 0)) au))))
def zq:ah:=bU (bQ (ao (ak 2) au)) (aB 3) Ef
theorem Xb{m o t:Nat}(f:Nat->Nat->Bool) (ho:o<m) (ht:t<m) (c:aa):bL (λ_=>True) (aB 0) (aG (aH 4 nS (ao (ak 1) (ao (ak 0) (ao (ak 2) (ao (ak 3) au)))))) (ak 0) (aW 0 (o:Int)) [O,Y (az (wF m f)),Y (.int o),Y (.int t)] [] c=.ok (nD ((Ω o).filter λn=>jC f n o t)) c:=by
 have:=mz (E:=[Y (az (wF m f)),Y (.int o),Y (.int t)]) (t:=(aG (aH 4 nS (ao (ak 1) (ao (ak 0) (ao (ak 2) (ao (ak 3) au))))))) (a:=ak 0) (c:=c) (λj:Nat=>D.int (j:Int)) (λj:Nat=>D.int (j:Int)) (λn=>jC f n o t) (Ω o) O [] (λn hn=>eN (adS (m:=nS) rfl rfl rfl rfl (aaS f (by have:=H8.mp hn;omega) ho ht c))) (λj _ _=>rfl)
 rw[Q0]at this;rw[lR];exact this
theorem Xa{m o t x:Nat}(f:Nat->Nat->Bool) (ho:o<m) (ht:t<m) (hm:m<60) (c:aa):Ef [Y (az (wF m f)),Y (.int x),Y (.int t),Y (.int o)] c=.ok (.nx [Y (az (wF m f)),Y (.int ((x+sm (λn=>if jC f n o t=L then 1 else 0) o:Nat):Int)),Y (.int t),Y (.int o)]) c:=by
 have hs:=fH (n:=1000) (by decide)
 have hc:=iJ (sr:=bQ (ao (ak 3) au)) (pick:=[O,Y 0,Y 3,Y 2]) (g:=aB 0) (t:=(aG (aH 4 nS (ao (ak 1) (ao (ak 0) (ao (ak 2) (ao (ak 3) au))))))) (a:=ak 0) (e:=[Y (az (wF m f)),Y (.int x),Y (.int t),Y (.int o)]) (nu (q:=(o:Int)) rfl (by omega)) (by rw[g9];omega) (Xb f ho ht c)
 have hl:=dQ (f:=aS) hc (ahr _ _);have e:((nD ((Ω o).filter λn=>jC f n o t)).length:Int)=((sm (λn=>if jC f n o t=L then 1 else 0) o:Nat):Int):=by
  rw[<-Kh];simp[nD]
 rw[e]at hl;exact er (bh rfl hl (QA _ _ c))
theorem MF{m:Nat}(f:Nat->Nat->Bool) (hm:m<60) (c:aa):zJ [az (wF m f)] c=.ok (.int (qU f m:Nat)) c:=by
 refine cQ ?_ rfl (λk h=>by cases h)
 show xM [Y (az (wF m f)),O,O,O] c=_;have hl:=nX (wF m f) c;rw[iY]at hl;have hin:∀(t x:Nat) (v:Option D),t<m->∃v',zq [Y (az (wF m f)),Y (.int x),Y (.int t),v] c=.ok (.nx [Y (az (wF m f)),Y (.int ((x+sm (λo=>sm (λn=>if jC f n o t=L then 1 else 0) o) t:Nat):Int)),Y (.int t),v']) c:=λt x v ht=>by
  obtain⟨v',h⟩:=J2 (n:=t) (s:=Ef) (g:=aB 3) (c:=c) (t:=λo=>sm (λn=>if jC f n o t=L then 1 else 0) o) (λx (v:Option D)=>[Y (az (wF m f)),Y (.int (x:Nat)),Y (.int t),v]) x v (λo x v ho=>⟨_,rfl,Y (.int o),Xa f (by omega) ht hm c⟩)
  exact⟨v',oB (nu (q:=(t:Int)) rfl (by omega)) h⟩
 obtain⟨v',h⟩:=J2 (n:=m) (s:=zq) (g:=aB 2) (c:=c) (t:=λt=>sm (λo=>sm (λn=>if jC f n o t=L then 1 else 0) o) t) (λx (v:Option D×Option D)=>[Y (az (wF m f)),Y (.int (x:Nat)),v.1,v.2]) 0 (O,O) (λt x v ht=>by
  obtain⟨w,hw⟩:=hin t x v.2 ht;exact⟨_,rfl,(Y (.int t),w),hw⟩)
 have e0:aN 1 (dC (.int 0)) [Y (az (wF m f)),O,O,O] c=.ok (.nx [Y (az (wF m f)),Y (.int ((0:Nat):Int)),O,O]) c:=rfl;have e1:=oB (g:=aB 2) (s:=zq) (nu (q:=(m:Int)) (d:=aF aS (ao (ak 0) au)) (e:=[Y (az (wF m f)),Y (.int ((0:Nat):Int)),O,O]) (c:=c) (dQ rfl hl) (by omega)) h
 have hb:xM=aC (aN 1 (dC (.int 0))) (aC (bU (bQ (ao (aF aS (ao (ak 0) au)) au)) (aB 2) zq) (aQ (ak 1))):=rfl;rw[hb,b9 e0,b9 e1,QV];rfl
def c8(f:Nat->Nat->Bool) (s:List Nat):Nat->Nat->Bool:=λp q=>f p q != (decide (p∈s) != decide (q∈s))
theorem Na(x y:Bool) (c:aa):cE (.bl x) (.bl y) c=.ok (.bl (x != y)) c:=by cases x<;>cases y<;>rfl
def jy(s:List Nat) (m:Nat):Prop:=Up s/\∀x∈s,x<m
def vz:ah:=(aC (aY (cH (aG (aH 3 k6 (ao (ak 3) (ao (ak 2) (ao (ay fZ (ak 1) (dC (.int 1))) au)))))) (aQ (dC (.bl G))) bA) (aN 2 (ay bZ (ak 3) (dC (.int 1)))))
theorem LB{m:Nat}{T:D}{c:aa}:∀(s:List Nat) (lo:Nat) (v:Option D),Up s->(∀x∈s,lo<=x/\x<m)->∃lo' v',cy (λ_=>True) (aB 3) vz (nD s) [Y T,Y (.int m),Y (.int lo),v] c=.ok (.nx [Y T,Y (.int m),Y (.int (lo':Nat)),v']) c
 |[],lo,v,_,_=>⟨lo,v,by simp[nD]⟩
 |x::s,lo,v,hu,h=>by
  obtain⟨h1,h2⟩:=h x (.head _);have hw:=Jd (x:=x) (lo:=lo) (hi:=(m:Int)-1) (by omega) (by omega) c
  have hc:=kJ (m:=k6) (d1:=ak 3) (d2:=ak 2) (d3:=ay fZ (ak 1) (dC (.int 1))) (e:=[Y T,Y (.int m),Y (.int lo),Y (.int x)]) (c:=c) rfl rfl (bh rfl rfl rfl) hw;have e0:aY (cH (aG (aH 3 k6 (ao (ak 3) (ao (ak 2) (ao (ay fZ (ak 1) (dC (.int 1))) au)))))) (aQ (dC (.bl G))) bA [Y T,Y (.int m),Y (.int lo),Y (.int x)] c=.ok (.nx [Y T,Y (.int m),Y (.int lo),Y (.int x)]) c:=by
   rw[rM,CH,pF,hc];rfl
  have e1:aN 2 (ay bZ (ak 3) (dC (.int 1))) [Y T,Y (.int m),Y (.int lo),Y (.int x)] c=.ok (.nx [Y T,Y (.int m),Y (.int ((x+1:Nat):Int)),Y (.int x)]) c:=er (bh rfl rfl (QA x 1 c));have hb:vz [Y T,Y (.int m),Y (.int lo),Y (.int x)] c=.ok (.nx [Y T,Y (.int m),Y (.int ((x+1:Nat):Int)),Y (.int x)]) c:=by
   unfold vz;rw[b9 e0,e1]
  obtain⟨lo',v',ih⟩:=LB (T:=T) (c:=c) s (x+1) (Y (.int x)) (Rw.mp hu).2 λy hy=>⟨by have:=(Rw.mp hu).1 y hy;omega,(h y (.tail _ hy)).2⟩
  refine⟨lo',v',?_⟩;have e1:nD (x::s)=.int (x:Int)::nD s:=rfl;have hg:aB 3 (.int (x:Int)) [Y T,Y (.int m),Y (.int lo),v] c=.ok [Y T,Y (.int m),Y (.int lo),Y (.int x)] c:=rfl;rw[e1,kr,hg,R.aL,hb];exact ih
theorem aiq{d:af}{e:Ev}{c:aa}{l:List D}(h:d e c=.ok (.tup l) c):fy d e c=.ok ⟨l,λ_=>True⟩ c:=by
 rw[yu,h];rfl
theorem LA{m:Nat}{s:List Nat}(h:jy s m) (c:aa):lX [.tup (nD s),.int m] c=.ok (.bl L) c:=by
 refine cQ ?_ rfl (λk h=>by cases h)
 show xT [Y (.tup (nD s)),Y (.int m),O,O] c=_;have e0:aY (cH (aG (aF bT (ao (ak 0) (ao (dC (.ty "tuple")) au))))) (aQ (dC (.bl G))) bA [Y (.tup (nD s)),Y (.int m),O,O] c=.ok (.nx [Y (.tup (nD s)),Y (.int m),O,O]) c:=rfl;have e1:aN 2 (dC (.int 0)) [Y (.tup (nD s)),Y (.int m),O,O] c=.ok (.nx [Y (.tup (nD s)),Y (.int m),Y (.int ((0:Nat):Int)),O]) c:=rfl;obtain⟨lo',v',h2⟩:=LB (T:=.tup (nD s)) (c:=c) s 0 O h.1 λx hx=>⟨RL _,h.2 x hx⟩
 have e2:=oB (g:=aB 3) (s:=vz) (aiq (d:=ak 0) (e:=[Y (.tup (nD s)),Y (.int m),Y (.int ((0:Nat):Int)),O]) (c:=c) (l:=nD s) rfl) h2;have hb:xT=aC (aY (cH (aG (aF bT (ao (ak 0) (ao (dC (.ty "tuple")) au))))) (aQ (dC (.bl G))) bA) (aC (aN 2 (dC (.int 0))) (aC (bU (fy (ak 0)) (aB 3) vz) (aQ (dC (.bl L))))):=rfl;rw[hb,b9 e0,b9 e1,b9 e2];rfl
theorem Jz{m:Nat}(f:Nat->Nat->Bool) {s:List Nat}(hm:m<60) (h:jy s m) (c:aa):sU [az (wF m f),.tup (nD s)] c=.ok (az (iC m (c8 f s))) c:=by
 have hl:=nX (wF m f) c;rw[iY]at hl;have nl:fm [az (wF m f),D.tup (nD s)]=L:=by
  show(eV (az (wF m f))&&(eV (.tup (nD s))&&fm []))=L;rw[M4];show fm (nD s)&&L=L;rw[EF];rfl
 have hw:=CP (k:=2) (n:=m) (E:=Cb) (ns:=["web","some"]) (l:=[az (wF m f),.tup (nD s)]) (m:=lZ nY) (c:=c) (f:=c8 f s) rfl nl (by omega) λi j hi hj _=>by
  show nY [Y (.int i),Y (.int j),Y (az (wF m f)),Y (.tup (nD s))] c=_;have h1:=k7 (w:=wF m f) (i:=i) (r:=cj m f i) (by simp[wF,hi]) c
  have hin:=qx (cj m f i) j c;rw[M8 f hj]at hin;unfold nY;exact bh (bh rfl (bh rfl rfl h1) hin) (bh (bh rfl rfl (qx s i c)) (bh rfl rfl (qx s j c)) (Na _ _ c)) (Na _ _ c)
 refine cQ ?_ (jt _) (λk h=>by cases h)
 show xG [Y (az (wF m f)),Y (.tup (nD s))] c=_;have hr:=g5 (m:=lX) (d1:=ak 1) (d2:=aF aS (ao (ak 0) au)) (e:=[Y (az (wF m f)),Y (.tup (nD s))]) (c:=c) rfl (dQ rfl hl) (LA h c);have e0:aY (cH (aG (aH 2 lX (ao (ak 1) (ao (aF aS (ao (ak 0) au)) au))))) e7 bA [Y (az (wF m f)),Y (.tup (nD s))] c=.ok (.nx [Y (az (wF m f)),Y (.tup (nD s))]) c:=by
  rw[rM,CH,pF,hr];rfl
 unfold xG;rw[b9 e0];exact cM (GF (m:=jd) (dQ rfl hl) rfl hw (jt _))
theorem aaR{a b q:Int}(a0:0<=a) (a1:a<=q-1) (b0:0<=b) (b1:b<=q-1) (hab:a≠b) (c:aa):tF [.tup [.int a,.int b],.int q] c=.ok (.bl L) c:=by
 have p1:ki [.int a,.int q] c=.ok (.bl L) c:=by simp[ki,uI,k6,uG,wz,uH,a0,a1]
 have p2:ki [.int b,.int q] c=.ok (.bl L) c:=by simp[ki,uI,k6,uG,wz,uH,b0,b1]
 simp[tF,BS,p1,p2,hab]
theorem all_true{α:Type}(l:List α) (c:aa):gI [.lst (l.map λ_=>D.bl L)] c=.ok (.bl L) c:=by
 have e:(l.map λ_=>D.bl L)=(l.map λ_=>L).map D.bl:=by rw[P0];rfl
 rw[e];unfold gI su;dsimp only;rw[GS];simp
def B6(c:aa) (X:D) (ps:List (Nat×Nat)):Prop:=(∃k,X=.ref k/\c[k]? = Y (.lst (ps.map aR)))\/X=.lst (ps.map aR)
def xX:af:=(aH 2 tF (ao (ak 0) (ao (ak 1) au)))
theorem aea{m:Nat}{ps:List (Nat×Nat)}{X:D}{c:aa}(hX:B6 c X ps) (hp:kN m ps) (hl:ps.length<1000):tL [X,.int (m:Int)] c=.ok (.bl L) c:=by
 have hs:=fH (n:=1000) (by decide)
 have hel:∀p∈ps,xX [Y (aR p),Y (.int (m:Int))] c=.ok (.bl L) c:=λp qz=>by
  obtain⟨h1,h2,h3⟩:=hp p qz;exact g5 (m:=tF) (d1:=ak 0) (d2:=ak 1) rfl rfl (aaR (by omega) (by omega) (by omega) (by omega) (by omega) c)
 have hc:bg (cO (ak 0)) [O,Y 1] (aB 0) aT xX [Y X,Y (.int (m:Int))] c=.ok (.lst (ps.map λ_=>D.bl L)) c:=by
  rcases hX with⟨k,rfl,hk⟩|rfl
  ·have h:=iI (c:=c) (st:=λc'=>c'[k]? = Y (.lst (ps.map aR))) (E:=[Y (.int (m:Int))]) (t:=aT) (a:=xX) hk aR (λ_=>.bl L) ps O [] (λ_ _=>rfl) hel
   rw[Q0]at h;have hq:cO (ak 0) [Y (D.ref k),Y (.int (m:Int))] c=.ok ⟨ps.map aR,λc'=>c'[k]? = Y (.lst (ps.map aR))⟩ c:=by
    unfold cO;rw[show ak 0 [Y (D.ref k),Y (.int (m:Int))] c=.ok (.ref k) c from rfl]
    simp only[R.aL,hk]
   rw[kO,hq,R.aL,if_pos (by rw[x8];omega),show f7 [O,Y 1] [Y (D.ref k),Y (.int (m:Int))]=[O,Y (.int (m:Int))]from rfl,h]
   rfl
  ·have h:=iI (c:=c) (st:=λ_=>True) (E:=[Y (.int (m:Int))]) (t:=aT) (a:=xX) trivial aR (λ_=>.bl L) ps O [] (λ_ _=>rfl) hel
   rw[Q0]at h;exact iJ (pick:=[O,Y 1]) (yR (d:=ak 0) rfl) (by rw[x8];omega) h
 have hi:bT [X,.ty "list"] c=.ok (.bl L) c:=by
  rcases hX with⟨k,rfl,hk⟩|rfl
  ·rfl
  ·rfl
 have hA:=dQ (f:=gI) hc (all_true ps c);have h1:aF bT (ao (ak 0) (ao (dC (.ty "list")) au)) [Y X,Y (.int (m:Int))] c=.ok (.bl L) c:=by
  simp only[pD,cT,eS,gz,jV,cI,R.aL];exact hi
 have hb:BZ=aQ (g4 (aF bT (ao (ak 0) (ao (dC (.ty "list")) au))) (aF gI (ao (bg (cO (ak 0)) [O,Y 1] (aB 0) aT xX) au))):=rfl;refine cQ ?_ rfl (λk h=>by cases h)
 have es:cC 2 [X,.int (m:Int)]=[Y X,Y (.int (m:Int))]:=rfl;rw[es,hb];refine cM ?_;unfold g4;rw[h1];simp only[R.aL]
 first
  |exact hA
  |(rw[hA];rfl)
  |simp[hA]
def wG(ps:List (Nat×Nat)) (i j:Nat):Bool:=decide (((i:Int),(j:Int))∈iT (ps.map λp=>((p.1:Int),(p.2:Int))))
theorem akr(ps:List (Nat×Nat)):lS (ps.map aR)=Y (ps.map λp=>((p.1:Int),(p.2:Int))):=by
 have e:ps.map aR=(ps.map λp=>((p.1:Int),(p.2:Int))).map sy:=by rw[P0];rfl
 rw[e];exact LR _
theorem ZL{c:aa}{X:D}{ps:List (Nat×Nat)}(h:B6 c X ps):fJ c X=Y (ps.map aR):=by
 rcases h with⟨k,rfl,hk⟩|rfl
 ·show(match c[k]? with|some (.lst l)=>Y l|_=>O)=_
  rw[hk]
 ·rfl
theorem join_gen{X:D}{l:List D}{qs:List (Int×Int)}{c:aa}(h1:fJ c X=Y l) (h2:lS l=Y qs) (hl:qs.length<1000) (a0:Option D):nj 1 2 3 [a0,Y X,O,O] c=.ok (.nx [a0,Y X,Y (.dct (iT qs)),O]) c:=by
 have e:([a0,Y X,O,O]:Ev)[1]? = Y (Y X):=rfl;unfold nj;rw[e];dsimp only;rw[h1,U0,h2];dsimp only;rw[if_pos ⟨by omega,rfl⟩]
 rfl
theorem aax{X:D}{ps:List (Nat×Nat)}{c:aa}(hX:B6 c X ps) (hl:ps.length<1000) (a0:Option D):nj 1 2 3 [a0,Y X,O,O] c=.ok (.nx [a0,Y X,Y (.dct (iT (ps.map λp=>((p.1:Int),(p.2:Int))))),O]) c :=
 join_gen (ZL hX) (akr ps) (by rw[x8];exact hl) a0
theorem ahA{m' X v:D}{ks:List (Int×Int)}{c:aa}(hw:jd [m',.lam 0 o8 ["joined"] [.dct ks]] c=.ok v c) (hv:noRef v=L):oJ 0 jd (ak 0) o8 ["joined"] [2] [Y m',Y X,Y (.dct ks),O] c=.ok v c :=
 GF (kk:=0) (m:=jd) (d1:=ak 0) (E:=o8) (ns:=["joined"]) (js:=[2]) (l:=[.dct ks]) (x:=m') rfl rfl hw hv
theorem ahH{m:Nat}{ps:List (Nat×Nat)}{X:D}{c:aa}(hX:B6 c X ps) (hp:kN m ps) (hl:ps.length<1000) (hm:m<1000):vV [.int (m:Int),X] c=.ok (az (iC m (wG ps))) c:=by
 have hap:=aea hX hp hl;have hw:=CP (k:=0) (n:=m) (E:=o8) (ns:=["joined"]) (l:=[.dct (iT (ps.map λp=>((p.1:Int),(p.2:Int))))]) (m:=lZ nZ) (c:=c) (f:=wG ps) rfl rfl hm λi j hi hj hne=>by
  show nZ [Y (.int i),Y (.int j),Y (.dct (iT (ps.map λp=>((p.1:Int),(p.2:Int)))))] c=_
  unfold nZ;exact bh (f:=zY) (uX (x:=.int (i:Int)) (y:=.int (j:Int)) rfl rfl) (y:=.dct _) rfl rfl
 have e0:aY (cH (aG (aH 2 tL (ao (ak 1) (ao (ak 0) au))))) e7 bA [Y (.int (m:Int)),Y X,O,O] c=.ok (.nx [Y (.int (m:Int)),Y X,O,O]) c:=by
  have h:=g5 (m:=tL) (d1:=ak 1) (d2:=ak 0) (e:=[Y (.int (m:Int)),Y X,O,O]) (c:=c) rfl rfl hap;rw[rM,CH,pF,h];rfl
 have e1:nj 1 2 3 [Y (.int (m:Int)),Y X,O,O] c=.ok (.nx [Y (.int (m:Int)),Y X,Y (.dct (iT (ps.map λp=>((p.1:Int),(p.2:Int))))),O]) c:=aax hX hl (Y (.int (m:Int)))
 have hb:Bs=aC (aY (cH (aG (aH 2 tL (ao (ak 1) (ao (ak 0) au))))) e7 bA) (aC (nj 1 2 3) (aQ (oJ 0 jd (ak 0) o8 ["joined"] [2]))):=rfl;have hr:=ahA (X:=X) hw (jt _);refine cQ ?_ (jt _) (λk h=>by cases h)
 have es:cC 4 [.int (m:Int),X]=[Y (.int (m:Int)),Y X,O,O]:=rfl;rw[es,hb,b9 e0,b9 e1];exact cM hr
theorem aaB{ps:List (Nat×Nat)}{i j:Nat}:wG ps i j=L↔(i,j)∈ps\/(j,i)∈ps:=by
 unfold wG iT;rw[decide_eq_true_eq,V7]
 constructor
 ·rintro ⟨q,hq,h⟩
  obtain⟨p,hp,rfl⟩:=x6.mp hq;simp only[l8,Prod.mk.injEq,R7,or_false]at h
  rcases h with⟨h1,h2⟩|⟨h1,h2⟩
  ·left
   have:(i,j)=p:=Tq (by show i=p.1;omega) (by show j=p.2;omega)
   rw[this];exact hp
  ·right
   have:(j,i)=p:=Tq (by show j=p.1;omega) (by show i=p.2;omega)
   rw[this];exact hp
 ·rintro (h|h)
  ·exact⟨((i:Int),(j:Int)),x6.mpr ⟨(i,j),h,rfl⟩,by simp⟩
  ·exact⟨((j:Int),(i:Int)),x6.mpr ⟨(j,i),h,rfl⟩,by simp⟩
structure B3 (m:Nat) (g:Nat->Nat->Bool) (ps:List (Nat×Nat)):Prop where
 wJ:∀p∈ps,p.1<m/\p.2<m/\p.1≠p.2/\g p.1 p.2=L
 all:∀a b,a<b->b<m->g a b=L->(a,b)∈ps\/(b,a)∈ps
theorem B3.ne{m:Nat}{g:Nat->Nat->Bool}{ps:List (Nat×Nat)}(h:B3 m g ps):kN m ps:=λp hp=>⟨(h.wJ p hp).1,(h.wJ p hp).2.1,(h.wJ p hp).2.2.1⟩
theorem ahI{m:Nat}{g:Nat->Nat->Bool}{ps:List (Nat×Nat)}(h:B3 m g ps) (hg:dZ g):iC m (wG ps)=wF m g:=by
 unfold iC wF;refine R4 λi hi=>?_
 rw[H8]at hi;unfold rP cj;refine SV λj hj=>?_
 rw[H8]at hj;rw[RW,RI,decide_eq_true_eq,aaB]
 constructor
 ·rintro ⟨_,h1|h1⟩
  ·exact(h.wJ _ h1).2.2.2
  ·rw[hg.2];exact(h.wJ _ h1).2.2.2
 ·intro z8;have hne:j≠i:=λe=>by rw[e,hg.1]at z8;cases z8
  refine⟨hne,?_⟩
  rcases Nat.lt_or_gt_of_ne hne with q|q
  ·exact(h.all j i q hi (by rw[hg.2];exact z8)).symm
  ·exact h.all i j q hj z8
theorem M7{m p q:Nat}{f:Nat->Nat->Bool}(hq:q<m):decide (q∈cj m f p)=f p q:=by
 unfold cj;cases hf:f p q<;>simp[hq,hf]
theorem Ft{m i:Nat}(g:Nat->Nat->Bool) (h:i<m) (c:aa):aD (az (wF m g)) (.int (i:Int)) c=.ok (.tup (nD (cj m g i))) c:=by
 have hl:=iY m g;have:=k7 (w:=wF m g) (i:=i) (Bt (by omega)) c
 have e:(wF m g)[i]'(by omega)=cj m g i:=by simp[wF]
 rw[e]at this;exact this
theorem NI(m:Nat) (g:Nat->Nat->Bool) (c:aa):aS [az (wF m g)] c=.ok (.int (m:Int)) c:=by
 have:=nX (wF m g) c;rw[iY]at this;exact this
def ET:af:=(ay inD (ak 1) (ay aD (ak 2) (ak 0)))
theorem Zp{m i:Nat}{g:Nat->Nat->Bool}(hg:dZ g) (hi:i<m) (hm:m<1000) (c:aa):qk [az (wF m g),.int (i:Int)] c=.ok (.bl L) c:=by
 have hs:=fH (n:=1000) (by decide)
 have hn:=MS (cj m g i) i c;rw[M7 hi,hg.1]at hn;have hlt:∀o∈cj m g i,o<m/\g i o=L:=λo ho=>by
  unfold cj at ho;rw[RV,H8]at ho;exact ho
 have hel:∀o∈cj m g i,ET [Y (.int (o:Int)),Y (.int (i:Int)),Y (az (wF m g))] c=.ok (.bl L) c:=λo ho=>by
  obtain⟨h1,h2⟩:=hlt o ho;have h3:=qx (cj m g o) i c;rw[M7 hi,hg.2,h2]at h3;exact bh (x:=.int (i:Int)) rfl (bh (x:=az (wF m g)) (y:=.int (o:Int)) rfl rfl (Ft g h1 c)) h3
 have h:=iI (c:=c) (st:=λ_=>True) (E:=[Y (.int (i:Int)),Y (az (wF m g))]) (t:=aT) (a:=ET) trivial (λo:Nat=>D.int (o:Int)) (λ_=>.bl L) (cj m g i) O [] (λ_ _=>rfl) hel
 rw[Q0]at h;have hlen:(cj m g i).length<=m:=by unfold cj;exact Q3 (SM _ _) (by simp)
 have jI:fy (ay aD (ak 0) (ak 1)) [Y (az (wF m g)),Y (.int (i:Int))] c=.ok ⟨nD (cj m g i),λ_=>True⟩ c:=by
  rw[yu,bh (f:=aD) (d1:=ak 0) (d2:=ak 1) (x:=az (wF m g)) (y:=.int (i:Int)) (e:=[Y (az (wF m g)),Y (.int (i:Int))]) rfl rfl (Ft g hi c)];rfl
 have hc:=iJ (pick:=[O,Y 1,Y 0]) (g:=aB 0) (t:=aT) (a:=ET) (e:=[Y (az (wF m g)),Y (.int (i:Int))]) jI (by simp[nD];omega) h
 refine cQ ?_ rfl (λk h=>by cases h)
 have es:cC 2 [az (wF m g),.int (i:Int)]=[Y (az (wF m g)),Y (.int (i:Int))]:=rfl;rw[es];exact cM (and_true (bh (f:=kX) (x:=.int (i:Int)) rfl (bh (x:=az (wF m g)) (y:=.int (i:Int)) rfl rfl (Ft g hi c)) hn) (dQ (f:=gI) hc (all_true _ c)))
theorem Zc(m:Nat) (g:Nat->Nat->Bool) (i:Nat):jy (cj m g i) m:=by
 unfold jy cj;refine⟨?_,λx hx=>?_⟩
 ·unfold Up;exact VD _ U8
 ·rw[RV,H8]at hx;exact hx.1
def zV:ah:=(aY (ee (cH (aG (aF bT (ao (ak 0) (ao (dC (.ty "tuple")) au))))) (cH (aG (oH kj kj (dC (.int 1)) (aF aS (ao (ak 0) au)) (dC (.int 50)))))) (aQ (dC (.bl G))) bA)
def N4:ah:=(aN 1 (aF aS (ao (ak 0) au)))
def N3:ah:=(aY (cH (aG (aF gI (ao (bg (fy (ak 0)) [O,Y 1] (aB 0) aT (aH 2 lX (ao (ak 0) (ao (ak 1) au)))) au)))) (aQ (dC (.bl G))) bA)
def N2:ah:=(aQ (aF gI (ao (bg (bQ (ao (ak 1) au)) [O,Y 0] (aB 0) aT (aH 2 qk (ao (ak 1) (ao (ak 0) au)))) au)))
theorem aaJ{W:D}{xs:List D}{q:Int}{a1:Option D}{c:aa}(hW:W=.tup xs) (hl:aS [W] c=.ok (.int q) c) (h1:1<=q) (h2:q<=50):zV [Y W,a1] c=.ok (.nx [Y W,a1]) c:=by
 subst hW;have hq:(xs.length:Int)=q:=by simpa using hl
 have e1:decide ((1:Int)<=(xs.length:Int))=L:=decide_eq_true (by omega)
 have e2:decide ((xs.length:Int)<=50)=L:=decide_eq_true (by omega)
 unfold zV;simp[e1,e2]
theorem aaQ{m:Nat}{g:Nat->Nat->Bool}(hg:dZ g) (h1:1<=m) (h2:m<=50) (c:aa):EZ [az (wF m g)] c=.ok (.bl L) c:=by
 have hs:=fH (n:=1000) (by decide)
 have hl:=NI m g c;have e0:zV [Y (az (wF m g)),O] c=.ok (.nx [Y (az (wF m g)),O]) c:=aaJ rfl hl (by omega) (by omega)
 have e1:N4 [Y (az (wF m g)),O] c=.ok (.nx [Y (az (wF m g)),Y (.int (m:Int))]) c:=er (i:=1) (dQ (d1:=ak 0) (x:=az (wF m g)) rfl hl);have hr:=iI (c:=c) (st:=λ_=>True) (E:=[Y (.int (m:Int))]) (t:=aT) (a:=aH 2 lX (ao (ak 0) (ao (ak 1) au))) trivial (λi:Nat=>D.tup (nD (cj m g i))) (λ_=>.bl L) (Ω m) O [] (λ_ _=>rfl) (λi _=>g5 (m:=lX) (d1:=ak 0) (d2:=ak 1) rfl rfl (LA (Zc m g i) c))
 rw[Q0]at hr;have jI:fy (ak 0) [Y (az (wF m g)),Y (.int (m:Int))] c=.ok ⟨(Ω m).map λi:Nat=>D.tup (nD (cj m g i)),λ_=>True⟩ c:=by
  have e:az (wF m g)=.tup ((Ω m).map λi:Nat=>D.tup (nD (cj m g i))):=by unfold az wF;rw[P0];rfl
  have hv:ak 0 [Y (az (wF m g)),Y (.int (m:Int))] c=.ok (.tup ((Ω m).map λi:Nat=>D.tup (nD (cj m g i)))) c:=by rw[<-e];rfl
  rw[yu,hv];rfl
 have hc:=iJ (pick:=[O,Y 1]) (g:=aB 0) (t:=aT) (e:=[Y (az (wF m g)),Y (.int (m:Int))]) jI (by simp;omega) hr
 have e2:N3 [Y (az (wF m g)),Y (.int (m:Int))] c=.ok (.nx [Y (az (wF m g)),Y (.int (m:Int))]) c:=d9 (lU (b:=L) (iU (dQ (f:=gI) hc (all_true _ c))));have hm:=iI (c:=c) (st:=λ_=>True) (E:=[Y (az (wF m g))]) (t:=aT) (a:=aH 2 qk (ao (ak 1) (ao (ak 0) au))) trivial (λi:Nat=>D.int (i:Int)) (λ_=>.bl L) (Ω m) O [] (λ_ _=>rfl) (λi hi=>g5 (m:=qk) (d1:=ak 1) (d2:=ak 0) rfl rfl (Zp hg (H8.mp hi) (by omega) c))
 rw[Q0]at hm;have hm':bL (λ_=>True) (aB 0) aT (aH 2 qk (ao (ak 1) (ao (ak 0) au))) (aW 0 (m:Int)) [O,Y (az (wF m g))] [] c=.ok ((Ω m).map λ_=>.bl L) c:=by rw[lR];exact hm
 have hc2:=iJ (pick:=[O,Y 0]) (g:=aB 0) (t:=aT) (e:=[Y (az (wF m g)),Y (.int (m:Int))]) (nu (d:=ak 1) rfl (by omega)) (by rw[g9];omega) hm'
 have e3:N2 [Y (az (wF m g)),Y (.int (m:Int))] c=.ok (.rt (.bl L)) c:=cM (dQ (f:=gI) hc2 (all_true _ c));refine cQ ?_ rfl (λk h=>by cases h)
 have es:cC 2 [az (wF m g)]=[Y (az (wF m g)),O]:=rfl;have hb:BR=aC zV (aC N4 (aC N3 N2)):=rfl;rw[es,hb,b9 e0,b9 e1,b9 e2,e3]
theorem Ml{m:Nat}(f:Nat->Nat->Bool):gA (wF m f)=wF m (eg f):=by
 unfold gA;rw[iY];refine R4 λi hi=>?_
 have hi:=H8.mp hi;unfold rP cj;refine SV λj hj=>?_
 have hj:=H8.mp hj;have e:sI (wF m f) i j = !f i j:=by
  unfold sI;rw[ahd f hi,M9 f hj]
 rw[e];unfold eg
 congr 1
 by_cases q:i=j
 ·simp[q]
 ·simp[q,show ¬j=i from λz=>q z.symm]
theorem Jb{m:Nat}{g:Nat->Nat->Bool}(hs:∀i k,g i k=g k i) (hm:m<=12):∀k,(dB m g k).length<=12^k
 |0=>by simp[dB]
 |k+1=>by
  rw[yy,UZ];have h1:=Dh (l:=(dB m g k).map λl=>(stp g l).length) (m:=12) λx hx=>by
   obtain⟨l,hl,rfl⟩:=x6.mp hx;have:=(Ja hs hl).2;simp[stp];omega
  rw[x8]at h1;exact Q3 h1 (V6 12 (Jb hs hm k))
def g8(b:Bool):Nat:=if b then 35 else 46
def dF(g:Nat->Nat->Bool) (i:Nat):Str:=vp ((Ω i).map λk=>g8 (g i k))
def bI(m:Nat):Str:=Str.ofString (toString (m:Int))
def fE(m:Nat) (g:Nat->Nat->Bool):List Str:=bI m::(List.range' 1 (m-1)).map (dF g)
def fF(m:Nat) (g:Nat->Nat->Bool):Str:=dM " " (fE m g)
theorem EB:∀m,m<51->32∉(bI m).cps.toList/\(bI m).length<=2:=by decide +kernel
theorem pH(g:Nat->Nat->Bool) (i:Nat):(dF g i).length=i:=by
 show((Ω i).map λk=>g8 (g i k)).toArray.size=i
 simp
theorem yC(g:Nat->Nat->Bool) (i:Nat):(dF g i).cps.toList=(Ω i).map λk=>g8 (g i k):=by simp[dF,vp]
theorem rX:∀(l:List Nat) (B:Nat),(∀x∈l,x<=B)->l.sum<=l.length*B
 |[],B,_=>by simp
 |x::l,B,h=>by
  have h1:=h x (by simp)
  have h2:=rX l B (λy hy=>h y (by simp[hy]))
  rw[S0,Iv,UO];omega
theorem uQ{m:Nat}(hm:1<=m) (g:Nat->Nat->Bool):(fE m g).length=m:=by simp[fE];omega
theorem CN{m:Nat}(hm:1<=m) (hm':m<=50) (g:Nat->Nat->Bool):((fE m g).map λp=>p.length+Str.length " ").sum<=10000:=by
 have h:=rX ((fE m g).map λp=>p.length+Str.length " ") 60 (λx hx=>by
  obtain⟨p,hp,rfl⟩:=x6.mp hx;have hw:Str.length " "=1:=by rw[j5];rfl
  rw[hw]
  rcases l8.mp hp with rfl|hp
  ·have:=(EB m (by omega)).2;omega
  ·obtain⟨i,hi,rfl⟩:=x6.mp hp;rw[RS]at hi;rw[pH];omega)
 rw[x8,uQ hm]at h;omega
theorem ag1{m:Nat}(hm':m<=50) (g:Nat->Nat->Bool):gv (fF m g) " "=fE m g:=by
 refine Kf λv hv=>?_
 rcases l8.mp hv with rfl|hv
 ·exact(EB m (by omega)).1
 ·obtain⟨i,hi,rfl⟩:=x6.mp hv;rw[yC];intro h;obtain⟨k,_,e⟩:=x6.mp h;unfold g8 at e;split at e<;>omega
theorem ahD{m p:Nat}(g:Nat->Nat->Bool) (h1:1<=p) (hp:p<m):(fE m g)[p]? = Y (dF g p):=by
 obtain⟨q,rfl⟩:∃q,p=q+1:=⟨p-1,by omega⟩
 show((List.range' 1 (m-1)).map (dF g))[q]? = _;rw[Q9,Ub (by omega)]
 simp[Nat.add_comm]
theorem J6:∀ss:List Str,ng (ss.map D.str)=Y ss
 |[]=>rfl
 |x::ss=>by
  have:=J6 ss;show(ng (ss.map D.str)).map (x :: ·)=_;rw[this];rfl
theorem tU{dO da:af}{e:Ev}{c:aa}{s:Str}{ss:List Str}{y:D}(h1:dO e c=.ok (.str s) c) (h2:da e c=.ok y c) (hy:fJ c y=Y (ss.map D.str)) (hl:(ss.map λp=>p.length+s.length).sum<=10000):jk dO da e c=.ok (.str (dM s ss)) c:=by
 unfold jk;rw[h1];simp only[R.aL];rw[h2];simp only[R.aL];rw[hy,U0,J6];dsimp only;have h3:10000<Ξ:=gS;have h4:=wD (s:=s) (ss:=ss);rw[if_pos ⟨YX hl,by omega⟩]
theorem aiG(l:List Nat):(((l.map λa=>(⟨#[a]⟩:Str))).map λp=>p.length+Str.length "").sum=l.length:=by
 have h:Str.length ""=0:=by rw[ME];rfl
 rw[h,P0]
 induction l with
 |nil=>rfl
 |cons a l ih=>rw[E1,S0,ih,Iv];show 1+0+l.length=_;omega
theorem aaA{da:af}{e:Ev}{c:aa}{l:List Nat}(h2:da e c=.ok (.lst (l.map λa=>D.str ⟨#[a]⟩)) c) (hl:l.length<=10000):jk (dC (.str "")) da e c=.ok (.str (vp l)) c:=by
 have h:=tU (dO:=dC (.str "")) (da:=da) (e:=e) (c:=c) (s:="") (ss:=l.map λa=>(⟨#[a]⟩:Str)) (y:=.lst (l.map λa=>D.str ⟨#[a]⟩)) rfl h2 (by show Y _=Y _;rw[P0];rfl) (by rw[aiG];exact hl)
 rw[aaw]at h;exact h
theorem se(m:Nat):aW 1 (m:Int)=nD (List.range' 1 (m-1)):=by
 have:=Ly 0 m
 simpa using this
theorem Zd{m i k:Nat}(g:Nat->Nat->Bool) (hk:k<m):decide (k∈cj m g i)=g i k:=by
 rw[RW,decide_eq_true_eq];unfold cj;rw[RV,H8];simp[hk]
def yD:af:=(kE (aG (ay inD (ak 0) (ay aD (ak 1) (ak 2)))) (dC (.str "#")) (dC (.str ".")))
theorem aa8{w:List (List Nat)}{i:Nat}{r:List Nat}(h:w[i]? = Y r) (k:Nat) (c:aa):yD [Y (.int (k:Int)),Y (az w),Y (.int (i:Int))] c=.ok (.str ⟨#[g8 (decide (k∈r))]⟩) c:=by
 have h1:aG (ay inD (ak 0) (ay aD (ak 1) (ak 2))) [Y (.int (k:Int)),Y (az w),Y (.int (i:Int))] c=.ok (decide (k∈r)) c :=
  iU (bh (x:=.int (k:Int)) (y:=.tup (nD r)) rfl (bh (x:=az w) (y:=.int (i:Int)) rfl rfl (k7 h c)) (qx r k c))
 unfold yD;rw[lK,h1,R.aL];cases decide (k∈r)with
 |true=>rw[if_pos rfl,Et];rfl
 |false=>rw[if_neg (by decide),MD];rfl
theorem ahB{m i:Nat}(g:Nat->Nat->Bool) (hi:i<m) (hm:m<=50) (c:aa):qj [az (wF m g),.int (i:Int)] c=.ok (.str (dF g i)) c:=by
 have hr:(wF m g)[i]? = Y (cj m g i):=by unfold wF;rw[Q9,T9 hi];rfl
 have dN:=iI (c:=c) (st:=λ_=>True) (E:=[Y (az (wF m g)),Y (.int (i:Int))]) (t:=aT) (a:=yD) trivial (λk:Nat=>D.int (k:Int)) (λk:Nat=>D.str ⟨#[g8 (decide (k∈cj m g i))]⟩) (Ω i) O [] (λ_ _=>rfl) (λk _=>aa8 hr k c)
 rw[Q0]at dN;have qA:bL (λ_=>True) (aB 0) aT yD (aW 0 (i:Int)) [O,Y (az (wF m g)),Y (.int (i:Int))] [] c=.ok (((Ω i).map λk=>g8 (g i k)).map λa=>D.str ⟨#[a]⟩) c:=by
  rw[lR];refine dN.trans ?_
  congr 1
  rw[P0];refine R4 λk hk=>?_
  rw[H8]at hk;rw[Zd g (by omega)]
  rfl
 have hcc:=iJ (pick:=[O,Y 0,Y 1]) (e:=[Y (az (wF m g)),Y (.int (i:Int))]) (nu (d:=ak 1) (q:=(i:Int)) rfl (by omega)) (zQ (by omega)) qA
 have hj:=aaA hcc (by simp;omega)
 exact cQ (n:=2) (cM hj) rfl (λk h=>by cases h)
def CM:af:=(bg (fM (ao (dC (.int 1)) (ao (aF aS (ao (ak 0) au)) au))) [O,Y 0] (aB 0) aT (aH 2 qj (ao (ak 1) (ao (ak 0) au))))
theorem J7{d:af}{e:Ev}{c:aa}{m:Nat}(hm:m<=50) (h:d e c=.ok (.int (m:Int)) c):aF dU (ao d au) e c=.ok (.str (bI m)) c:=by
 refine dQ h ?_;unfold dU;dsimp only;have:((m:Int)).natAbs.log2<1920:=by
  rw[VB];exact U6 (Nat.log2_le_self _) (by omega)
 rw[if_pos this];rfl
theorem Ny{d:af}{e:Ev}{c:aa}{x:D}(h:d e c=.ok x c):ff (ao d au) e c=.ok (.lst [x]) c:=by
 have k1:(1:Nat)<=Ξ:=by have:=gS;omega
 simp[h,k1]
theorem CO{m:Nat}(g:Nat->Nat->Bool) (h1:1<=m) (hm:m<=50) (c:aa):sS [az (wF m g)] c=.ok (.str (fF m g)) c:=by
 have sz:=gS;have hlen:∀e:Ev,e[0]? = Y (Y (az (wF m g)))->aF aS (ao (ak 0) au) e c=.ok (.int (m:Int)) c:=λe he=>by
  refine dQ (x:=az (wF m g)) ?_ ?_
  ·show(match e[0]? with|some (Y d)=>R.ok d c|_=>.bad)=_
   rw[he]
  ·rw[nX,iY]
 have dN:=iI (c:=c) (st:=λ_=>True) (E:=[Y (az (wF m g))]) (t:=aT) (a:=aH 2 qj (ao (ak 1) (ao (ak 0) au))) trivial (λk:Nat=>D.int (k:Int)) (λk:Nat=>D.str (dF g k)) (List.range' 1 (m-1)) O [] (λ_ _=>rfl) (λk hk=>by
  rw[RS]at hk;exact g5 (m:=qj) (d1:=ak 1) (d2:=ak 0) rfl rfl (ahB g (by omega) hm c))
 rw[Q0]at dN;have qA:bL (λ_=>True) (aB 0) aT (aH 2 qj (ao (ak 1) (ao (ak 0) au))) (aW 1 (m:Int)) [O,Y (az (wF m g))] [] c=.ok (((List.range' 1 (m-1)).map (dF g)).map D.str) c:=by
  rw[se,P0];exact dN
 have hrl:(aW 1 (m:Int)).length<Ξ:=by rw[se];simp[nD];omega
 have hcc:CM [Y (az (wF m g)),O] c=.ok (.lst (((List.range' 1 (m-1)).map (dF g)).map D.str)) c:=iJ (pick:=[O,Y 0]) (za (d1:=dC (.int 1)) (p:=1) (q:=(m:Int)) rfl (hlen _ rfl) (by omega) (by omega)) hrl qA
 have e1:aN 1 CM [Y (az (wF m g)),O] c=.ok (.nx [Y (az (wF m g)),Y (.lst (((List.range' 1 (m-1)).map (dF g)).map D.str))]) c:=er (i:=1) hcc;have FZ:kI (.lst [.str (bI m)]) (.lst (((List.range' 1 (m-1)).map (dF g)).map D.str)) c=.ok (.lst ((fE m g).map D.str)) c:=by
  unfold kI;show(if[D.str (bI m)].length+(((List.range' 1 (m-1)).map (dF g)).map D.str).length<=Ξ then _ else _)=_
  rw[if_pos (by simp;omega)]
  rfl
 have hj:=tU (dO:=dC (.str " ")) (s:=" ") (e:=[Y (az (wF m g)),Y (.lst (((List.range' 1 (m-1)).map (dF g)).map D.str))]) rfl (bh (f:=kI) (Ny (J7 hm (hlen _ rfl))) (d2:=ak 1) rfl FZ) rfl (CN h1 hm g);refine cQ (n:=2) (b:=xF) ?_ rfl (λk h=>by cases h)
 have hb:xF=aC (aN 1 CM) (aQ (jk (dC (.str " ")) (ay kI (ff (ao (aF dU (ao (aF aS (ao (ak 0) au)) au)) au)) (ak 1)))):=rfl;have es:cC 2 [az (wF m g)]=[Y (az (wF m g)),O]:=rfl;rw[es,hb,b9 e1];exact cM hj
theorem aja(ss:List Str):bB (ss.map D.str)=L:=gV.mpr λd hd=>by
 obtain⟨p,_,rfl⟩:=x6.mp hd;rfl
theorem ajd(c:aa) (x y:Cell):(c++[x]).set c.length y=c++[y]:=by
 rw[TH _ _ (ZA _)];simp
theorem ajm{m i:Nat}{x:D}(h:(aW 1 (m:Int))[i]? = Y x):1+i<m/\x=.int ((1+i:Nat):Int):=by
 rw[se]at h;unfold nD at h;rw[Q9]at h
 by_cases hi:i<m-1
 ·rw[Ub hi]at h;simp at h;refine⟨by omega,?_⟩
  rw[<-h]
  all_goals first|(congr 1;done)|(congr 1;omega)
 ·rw[Rf (by simp;omega)]at h
  cases h
theorem acV(b:Bool) (c:aa):cu (.str ⟨#[g8 b]⟩) (.str "#") c=.ok (.bl b) c:=by
 rw[Et];cases b<;>rfl
theorem adv(g:Nat->Nat->Bool) (i:Nat):(gg (dF g i) "#").length+(gg (dF g i) ".").length=i:=by
 rw[Et,MD,zy,zy,pH,yC];have e:(Ω i).filter (λk=>decide (((Ω i).map λk=>g8 (g i k))[k]? = Y 46))=(Ω i).filter λk=>!decide (((Ω i).map λk=>g8 (g i k))[k]? = Y 35):=by
  refine SV λk hk=>?_
  rw[H8]at hk;rw[Q9,T9 hk];show decide (Y (g8 (g i k))=Y 46) = !decide (Y (g8 (g i k))=Y 35);cases g i k<;>rfl
 rw[e];have:=(List.filter_append_perm (λk=>decide (((Ω i).map λk=>g8 (g i k))[k]? = Y 35)) (Ω i)).length_eq
 rw[QT,S1]at this;exact this
theorem aaP{i:Nat}(g:Nat->Nat->Bool) (hi:i<=50) (c:aa):wu [.str (dF g i),.int (i:Int)] c=.ok (.bl L) c:=by
 have sz:=gS;have h1:ay cu (aF aS (ao (ak 0) au)) (ak 1) [Y (.str (dF g i)),Y (.int (i:Int))] c=.ok (.bl L) c:=by
  refine bh (x:=.int (i:Int)) (y:=.int (i:Int)) (dQ (x:=.str (dF g i)) rfl ?_) rfl ?_
  ·show(if(dF g i).length<=Ξ then R.ok (D.int ((dF g i).length:Nat)) c else .bad)=_
   rw[pH,if_pos (by omega)]
  ·show R.ok (D.bl (decide ((i:Int)=(i:Int)))) c=_;rw[decide_eq_true rfl]
 have Ow:∀z:Str,uy (ak 0) (dC (.str z)) [Y (.str (dF g i)),Y (.int (i:Int))] c=.ok (.int ((gg (dF g i) z).length:Nat)) c:=λz=>rfl
 have h2:ay cu (ay bZ (uy (ak 0) (dC (.str "#"))) (uy (ak 0) (dC (.str ".")))) (ak 1) [Y (.str (dF g i)),Y (.int (i:Int))] c=.ok (.bl L) c:=by
  refine bh (x:=.int (i:Int)) (y:=.int (i:Int)) (bh (Ow "#") (Ow ".") ?_) rfl ?_
  ·show R.ok (D.int (((gg (dF g i) "#").length:Nat)+((gg (dF g i) ".").length:Nat))) c=_;have:=adv g i;rw[show(((gg (dF g i) "#").length:Int)+((gg (dF g i) ".").length:Int))=(i:Int) by omega]
  ·show R.ok (D.bl (decide ((i:Int)=(i:Int)))) c=_;rw[decide_eq_true rfl]
 exact cQ (n:=2) (cM (and_true h1 h2)) rfl (λk h=>by cases h)
def cB(m:Nat) (g:Nat->Nat->Bool):D:=.lst ((fE m g).map D.str)
theorem Fe{m:Nat}(h1:1<=m) (g:Nat->Nat->Bool) (c:aa):aS [cB m g] c=.ok (.int (m:Int)) c:=by
 show R.ok (D.int (((fE m g).map D.str).length:Nat)) c=_;rw[x8,uQ h1]
theorem NZ{m p:Nat}(g:Nat->Nat->Bool) (h1:1<=p) (hp:p<m) (c:aa):aD (cB m g) (.int (p:Int)) c=.ok (.str (dF g p)) c:=by
 show aD (.lst ((fE m g).map D.str)) (.int (p:Int)) c=_;rw[iX,jm (v:=D.str (dF g p)) (by rw[Q9,ahD g h1 hp];rfl)]
def G5:af:=(aH 2 wu (ao (ay aD (ak 1) (ak 0)) (ao (ak 0) au)))
theorem ad9{m:Nat}(g:Nat->Nat->Bool) (h1:1<=m) (hm:m<=50) (c:aa):tK [cB m g] c=.ok (.bl L) c:=by
 have sz:=gS;have e1:aN 1 (aF aS (ao (ak 0) au)) [Y (cB m g),O] c=.ok (.nx [Y (cB m g),Y (.int (m:Int))]) c:=er (i:=1) (dQ (x:=cB m g) rfl (Fe h1 g c));have t1:aG (ay jK (ak 1) (dC (.int 50))) [Y (cB m g),Y (.int (m:Int))] c=.ok G c:=by
  refine iU (bh (x:=.int (m:Int)) (y:=.int 50) rfl rfl ?_);show R.ok (D.bl (decide ((m:Int)>50))) c=_;rw[decide_eq_false (by omega)]
 have t2:aG (ay cE (ay aD (ak 0) (dC (.int 0))) (aF dU (ao (ak 1) au))) [Y (cB m g),Y (.int (m:Int))] c=.ok G c:=by
  refine iU (bh (x:=.str (bI m)) (y:=.str (bI m)) (bh (x:=cB m g) (y:=.int ((0:Nat):Int)) rfl rfl (by show aD (.lst ((fE m g).map D.str)) (.int ((0:Nat):Int)) c=_;rw[iX,jm (v:=D.str (bI m)) rfl])) (J7 hm rfl) ?_)
  show R.ok (D.bl (!decide (bI m=bI m))) c=_;rw[decide_eq_true rfl];rfl
 have e2:aY (ee (aG (ay jK (ak 1) (dC (.int 50)))) (aG (ay cE (ay aD (ak 0) (dC (.int 0))) (aF dU (ao (ak 1) au))))) (aQ (dC (.bl G))) bA [Y (cB m g),Y (.int (m:Int))] c=.ok (.nx [Y (cB m g),Y (.int (m:Int))]) c:=d9 (nF t1 t2);have dN:=iI (c:=c) (st:=λ_=>True) (E:=[Y (cB m g)]) (t:=aT) (a:=G5) trivial (λk:Nat=>D.int (k:Int)) (λ_:Nat=>D.bl L) (List.range' 1 (m-1)) O [] (λ_ _=>rfl) (λk hk=>by
  rw[RS]at hk;exact g5 (m:=wu) (bh (x:=cB m g) (y:=.int (k:Int)) rfl rfl (NZ g (by omega) (by omega) c)) (d2:=ak 0) rfl (aaP g (by omega) c))
 rw[Q0]at dN;have hrl:(aW 1 (m:Int)).length<Ξ:=by rw[se];simp[nD];omega
 have qA:bL (λ_=>True) (aB 0) aT G5 (aW 1 (m:Int)) [O,Y (cB m g)] [] c=.ok ((List.range' 1 (m-1)).map λ_=>D.bl L) c:=by rw[se];exact dN
 have hcc:=iJ (pick:=[O,Y 0]) (e:=[Y (cB m g),Y (.int (m:Int))]) (za (d1:=dC (.int 1)) (d2:=ak 1) (p:=1) (q:=(m:Int)) rfl rfl (by omega) (by omega)) hrl qA
 have hA:=dQ (f:=gI) hcc (all_true _ c);refine cQ (n:=2) (b:=xS) ?_ rfl (λk h=>by cases h)
 have hb:xS=aC (aN 1 (aF aS (ao (ak 0) au))) (aC (aY (ee (aG (ay jK (ak 1) (dC (.int 50)))) (aG (ay cE (ay aD (ak 0) (dC (.int 0))) (aF dU (ao (ak 1) au))))) (aQ (dC (.bl G))) bA) (aQ (aF gI (ao (bg (fM (ao (dC (.int 1)) (ao (ak 1) au))) [O,Y 0] (aB 0) aT G5) au)))):=rfl;have es:cC 2 [cB m g]=[Y (cB m g),O]:=rfl;rw[es,hb,b9 e1,b9 e2];exact cM hA
def pZ(g:Nat->Nat->Bool) (p:Nat):List (Nat×Nat):=((Ω p).filter (g p)).map λb=>(b,p)
def gJ(g:Nat->Nat->Bool) (k:Nat):List (Nat×Nat):=(List.range' 1 k).flatMap (pZ g)
theorem L0(g:Nat->Nat->Bool) (k:Nat):gJ g (k+1)=gJ g k++pZ g (1+k):=by
 unfold gJ;rw[List.range'_1_concat,U1];simp
theorem LZ(g:Nat->Nat->Bool) (p:Nat):(pZ g p).length<=p:=by
 unfold pZ;rw[x8];exact Q3 (SM _ _) (by simp)
theorem D3(g:Nat->Nat->Bool):∀k,2*(gJ g k).length<=k*(k+1)
 |0=>by simp[gJ]
 |k+1=>by
  have h1:=D3 g k;have h2:=LZ g (1+k);rw[L0,QT];have:(k+1)*(k+1+1)=k*(k+1)+2*(k+1):=by rw[Nat.mul_add,Nat.mul_comm (k+1) (k+1),Nat.add_mul];omega
  omega
theorem Wi(g:Nat->Nat->Bool) (k:Nat) (h:k<=49):(gJ g k).length<=1225:=by
 have h1:=D3 g k;have h2:k*(k+1)<=49*50:=Ua h (by omega)
 omega
theorem Wg{m:Nat}{g:Nat->Nat->Bool}(hg:dZ g):B3 m g (gJ g (m-1)):=by
 constructor
 ·intro p hp;obtain⟨q,hq,h⟩:=V7.mp hp;obtain⟨b,hb,rfl⟩:=x6.mp h;rw[RS]at hq;rw[RV,H8]at hb;refine⟨by show b<m;omega,by show q<m;omega,by show b≠q;omega,?_⟩
  show g b q=L;rw[hg.2];exact hb.2
 ·intro a b hab hb h
  left
  refine V7.mpr ⟨b,by rw[RS];omega,x6.mpr ⟨a,?_,rfl⟩⟩
  rw[RV,H8];exact⟨hab,by rw[hg.2];exact h⟩
def DZ:ai:=(aG (ay cu (ay tV (ay aD (ak 2) (ak 1)) (ak 0)) (dC (.str "#"))))
def D0:af:=(bY (ao (ak 0) (ao (ak 1) au)))
def zh:ah:=(dg (gk (ak 1) (bg (bQ (ao (ak 2) au)) [O,Y 2,Y 0] (aB 0) DZ D0)))
theorem Wb{m p:Nat}{qs:List (Nat×Nat)}{c:aa}(g:Nat->Nat->Bool) (h1:1<=p) (hp:p<m) (hm:m<=50) (hq:qs.length<=5000):zh [Y (cB m g),Y (.ref c.length),Y (.int (p:Int))] (c++[.lst (qs.map aR)])=.ok (.nx [Y (cB m g),Y (.ref c.length),Y (.int (p:Int))]) (c++[.lst ((qs++pZ g p).map aR)]):=by
 have sz:=gS
 generalize hC:c++[Cell.lst (qs.map aR)]=C
 have dN:=mz (E:=[Y (.int (p:Int)),Y (cB m g)]) (t:=DZ) (a:=D0) (c:=C) (λo:Nat=>D.int (o:Int)) (λo=>aR (o,p)) (g p) (Ω p) O [] (λo ho=>by
  rw[H8]at ho;have hix:tV (.str (dF g p)) (.int (o:Int)) C=.ok (.str ⟨#[g8 (g p o)]⟩) C:=by
   unfold tV;dsimp only;rw[if_pos (by rw[pH];omega),yC,jm (v:=g8 (g p o)) (by rw[Q9,T9 ho];rfl)]
  exact iU (bh (bh (bh (x:=cB m g) (y:=.int (p:Int)) rfl rfl (NZ g h1 hp C)) (y:=.int (o:Int)) rfl hix) (y:=.str "#") rfl (acV (g p o) C))) (λo ho _=>uX rfl rfl)
 rw[Q0]at dN;have qA:bL (λ_=>True) (aB 0) DZ D0 (aW 0 (p:Int)) [O,Y (.int (p:Int)),Y (cB m g)] [] C=.ok ((pZ g p).map aR) C:=by
  rw[lR];refine Eq.trans dN ?_;unfold pZ;rw[P0];rfl
 have hcc:=iJ (pick:=[O,Y 2,Y 0]) (e:=[Y (cB m g),Y (.ref c.length),Y (.int (p:Int))]) (nu (d:=ak 2) (q:=(p:Int)) rfl (by omega)) (zQ (by omega)) qA
 have hl:=LZ g p;have h:=Po (Pc (dO:=ak 1) (k:=c.length) (acc:=qs.map aR) rfl hcc (by rw[<-hC];simp) (by rw[x8,x8];omega) (M3 _))
 rw[<-hC,ajd]at h;rw[SO,<-hC];exact h
theorem akC{m:Nat}(g:Nat->Nat->Bool) (h1:1<=m) (hm:m<=50) (c:aa):vY [cB m g] c=.ok (.lst ((gJ g (m-1)).map aR)) c:=by
 have sz:=gS;have hl1:(aW 1 (m:Int)).length=m-1:=by rw[se];simp[nD]
 have e1:aN 1 (fW au) [Y (cB m g),O,O] c=.ok (.nx [Y (cB m g),Y (.ref c.length),O]) (c++[.lst ((gJ g 0).map aR)]):=Kr (i:=1) (by
  unfold fW;rw[cI];simp only[R.aL];rw[if_pos ⟨by show 0<=Ξ;omega,rfl⟩]
  rfl)
 obtain⟨e',c',⟨w2,rfl,rfl⟩,hf⟩:=Ag (g:=aB 2) (s:=zh) (λk e c'=>∃w2,e=[Y (cB m g),Y (.ref c.length),w2]/\c'=c++[.lst ((gJ g k).map aR)])
  (aW 1 (m:Int)) 0 [Y (cB m g),Y (.ref c.length),O] (c++[.lst ((gJ g 0).map aR)]) ⟨_,rfl,rfl⟩ (λi x hx e c' ⟨w2,he,hc⟩=>by
   subst he;subst hc;obtain⟨hlt,rfl⟩:=ajm hx;rw[QV];have hs:(gJ g i).length<=5000:=by have:=Wi g i (by omega);omega
   refine⟨_,_,_,_,rfl,Wb g (by omega) hlt hm hs,_,rfl,?_⟩
   rw[L0])
 rw[hl1,QV]at hf;have hlen:aF aS (ao (ak 0) au) [Y (cB m g),Y (.ref c.length),O] (c++[.lst ((gJ g 0).map aR)])=.ok (.int (m:Int)) (c++[.lst ((gJ g 0).map aR)]):=dQ (x:=cB m g) rfl (Fe h1 g _);have e2:bU (fM (ao (dC (.int 1)) (ao (aF aS (ao (ak 0) au)) au))) (aB 2) zh [Y (cB m g),Y (.ref c.length),O] (c++[.lst ((gJ g 0).map aR)])=_:=oB (za (d1:=dC (.int 1)) (p:=1) (q:=(m:Int)) rfl hlen (by omega) (by omega)) hf
 have hb:uF=aC (aN 1 (fW au)) (aC (bU (fM (ao (dC (.int 1)) (ao (aF aS (ao (ak 0) au)) au))) (aB 2) zh) (aQ (ak 1))):=rfl;have es:cC 3 [cB m g]=[Y (cB m g),O,O]:=rfl;have hr:uF (cC 3 [cB m g]) c=.ok (.rt (.ref c.length)) (c++[.lst ((gJ g (m-1)).map aR)]):=by
  rw[es,hb,b9 e1,b9 e2];exact cM rfl
 show bx 3 G uF [cB m g] c=_;rw[iB,hr];simp only[R.aL];show cG G c.length (.ref c.length) (c++[.lst ((gJ g (m-1)).map aR)])=_;simp[cG]
theorem LG{m:Nat}{g:Nat->Nat->Bool}(hg:dZ g) (h1:1<=m) (h12:m<=12) (c:aa):vX [.str (fF m g)] c=.ok (az (wF m g)) c:=by
 have hm:m<=50:=by omega
 have sz:=gS;have e0:aY (cH (aG (aF bT (ao (ak 0) (ao (dC (.ty "str")) au))))) e7 bA [Y (.str (fF m g)),O] c=.ok (.nx [Y (.str (fF m g)),O]) c:=d9 (lU (b:=L) (iU rfl));have jJ:qP (ak 0) (dC (.str " ")) [Y (.str (fF m g)),O] c=.ok (cB m g) c:=by
  show(if((Str.length " ")==0)=G/\(fF m g).length<=Ξ/\(gv (fF m g) " ").length<=Ξ then R.ok (D.lst ((gv (fF m g) " ").map D.str)) c else .bad)=_
  rw[ag1 hm];have hl:=wD (s:=" ") (ss:=fE m g);have hs:=CN h1 hm g;rw[if_pos ⟨by rw[j5];rfl,by unfold fF;omega,by rw[uQ h1];omega⟩]
  rfl
 have e1:aN 1 (qP (ak 0) (dC (.str " "))) [Y (.str (fF m g)),O] c=.ok (.nx [Y (.str (fF m g)),Y (cB m g)]) c:=er (i:=1) jJ;have e2:aY (cH (aG (aH 1 tK (ao (ak 1) au)))) e7 bA [Y (.str (fF m g)),Y (cB m g)] c=.ok (.nx [Y (.str (fF m g)),Y (cB m g)]) c:=d9 (lU (b:=L) (iU (fh (m:=tK) (d1:=ak 1) rfl (ad9 g h1 hm c))));have hP:=Wg (m:=m) hg;have hl:=D3 g (m-1);have:(m-1)*(m-1+1)<=11*12:=Ua (by omega) (by omega)
 have hw:=ahH (m:=m) (c:=c) (X:=.lst ((gJ g (m-1)).map aR)) (.inr rfl) hP.ne (by omega) (by omega)
 rw[ahI hP hg]at hw;refine cQ (n:=2) (b:=xJ) ?_ (jt _) (λk h=>by cases h)
 have hb:xJ=aC (aY (cH (aG (aF bT (ao (ak 0) (ao (dC (.ty "str")) au))))) e7 bA) (aC (aN 1 (qP (ak 0) (dC (.str " ")))) (aC (aY (cH (aG (aH 1 tK (ao (ak 1) au)))) e7 bA) (aQ (aH 2 vV (ao (aF aS (ao (ak 1) au)) (ao (aH 1 vY (ao (ak 1) au)) au)))))):=rfl;have es:cC 2 [.str (fF m g)]=[Y (.str (fF m g)),O]:=rfl;rw[es,hb,b9 e0,b9 e1,b9 e2];exact cM (g5 (m:=vV) (dQ (x:=cB m g) rfl (Fe h1 g c)) (fh (m:=vY) (d1:=ak 1) rfl (akC g h1 hm c)) hw)
end Ev
set_option maxHeartbeats 400000
namespace Ev
open PySem L2
section
variable {f g:Nat->Nat->Bool}{m:Nat}{s:List Nat}
theorem C5(hf:dZ f):dZ (c8 f s):=by
 refine⟨λi=>?_,λi k=>?_⟩
 ·unfold c8;rw[hf.1 i];simp
 ·unfold c8;rw[hf.2 i k];cases f k i<;>cases decide (i∈s)<;>cases decide (k∈s)<;>rfl
theorem Jk(h:∀i j,i<m->j<m->f i j=g i j):wF m f=wF m g:=R4 λi hi=>SV λj hj=>h i j (H8.mp hi) (H8.mp hj)
theorem ah8:wF m (c8 (c8 f s) s)=wF m f:=Jk λi j _ _=>by
 unfold c8;cases f i j<;>cases decide (i∈s)<;>cases decide (j∈s)<;>rfl
theorem aer(hf:dZ f):wF m (eg (eg f))=wF m f:=Jk λi j _ _=>by
 unfold eg
 by_cases h:i=j
 ·subst h;rw[hf.1 i];simp
 ·simp[h]
theorem Za{x y:D}{b:Bool}{c:aa}(h:kB x y c=.ok (.bl b) c):kY x y c=.ok (.bl (!b)) c:=by
 unfold kB at h;unfold kY;split at h
 ·split at h
  ·rename_i hd;rw[if_pos hd];cases h;rfl
  ·cases h
 ·cases h
theorem ahJ(w:List (List Nat)) (c:aa):kY (az w) (az w) c=.ok (.bl G) c:=Za (b:=L) (by rw[abx];simp)
end
section
variable {o a v:af}{e:Ev}{c c':aa}{k i j n:Nat}{x y d:D}{s:Str}{l:List (Str×D)}
theorem qv(h:o e c=.ok (.cS i j) c):iu o e c=.ok (.eG i) c:=by unfold iu;rw[h];rfl
theorem akF(h:o e c=.ok (.cS i j) c):xu o e c=.ok (.ref j) c:=by unfold xu;rw[h];rfl
theorem oQ(h:o e c=.ok (.dX i j) c):lz o e c=.ok (.cS i j) c:=by unfold lz;rw[h];rfl
theorem aac(hv:v e c=.ok d c) (ho:o e c=.ok (.eG k) c) (ha:a e c=.ok (.str s) c) (hk:c[k]? = Y (.kd l)) (hl:l.length<Ξ) (hd:noRef d=L):yY o a v e c=.ok (.nx e) (c.set k (.kd (jF l s d))):=by
 unfold yY;rw[hv];simp only[R.aL,ho,ha,hk];rw[if_pos ⟨hl,hd⟩]
theorem aah(ho:o e c=.ok (.eG k) c) (ha:a e c=.ok (.str s) c) (hk:c[k]? = Y (.kd l)):ux o a e c=.ok ((eX l s).getD .aE) c:=by
 unfold ux;rw[ho];simp only[R.aL,ha,hk]
theorem aaf(ho:o e c=.ok (.eG k) c) (ha:a e c=.ok (.str s) c) (hk:c[k]? = Y (.kd l)) (h:eX l s=Y d):Bh o a e c=.ok d c:=by
 unfold Bh;rw[ho];simp only[R.aL,ha,hk,h]
theorem MR(hk:c[k]? = Y (.kd l)):nI (.str s) (.eG k) c=.ok (.bl (!(eX l s).isSome)) c:=by
 unfold nI;simp only[hk]
theorem nO{m:List D->aa->R D}{r:R D}(ho:o e c=.ok (.cS i j) c) (h1:a e c=.ok x c) (h:m [.cS i j,x] c=r):fN 1 m o (ao a au) e c=r:=by
 unfold fN;rw[ho];simp only[R.aL,cT,h1,cI];rw[if_pos (by rfl)];exact h
theorem sQ{m:List D->aa->R D}{r:R D}(ho:o e c=.ok (.cS i j) c) (h1:a e c=.ok x c) (h2:v e c=.ok y c) (h:m [.cS i j,x,y] c=r):fN 2 m o (ao a (ao v au)) e c=r:=by
 unfold fN;rw[ho];simp only[R.aL,cT,h1,h2,cI];rw[if_pos (by rfl)];exact h
theorem ZE{m:List D->aa->R D}{r:R D}(ho:o e c=.ok (.cS i j) c) (h:m [.cS i j] c=r):fN 0 m o au e c=r:=by
 unfold fN;rw[ho];simp only[R.aL,cI];rw[if_pos (by rfl)];exact h
theorem iF{m:List D->aa->R D}{r:R D}(ho:o e c=.ok (.dX i j) c) (h1:a e c=.ok x c') (h:m [.dX i j,x] c'=r):eK 1 m o (ao a au) e c=r:=by
 unfold eK;rw[ho];simp only[R.aL,cT,h1,cI];rw[if_pos (by rfl)];exact h
theorem kC(h:o e c=.ok d c'):dg o e c=.ok (.nx e) c':=by rw[yx,h];rfl
theorem nH{b:ah}{xs:List D}{e':Ev}(h:b (cC n xs) c=.ok (.nx e') c') (hl:c'.length=c.length):bx n G b xs c=.ok .aE c':=by
 rw[iB,h];show(if noRef .aE=L then R.ok D.aE (c'.take c.length)else .bad)=_
 rw[<-hl,RN];rfl
theorem mh{t:ai}{s u:ah}{r:R Fl}(h:t e c=.ok G c') (q:u e c'=r):aY t s u e c=r:=by rw[rM,h];exact q
theorem l9{t:ai}{s u:ah}{r:R Fl}(h:t e c=.ok L c') (q:s e c'=r):aY t s u e c=r:=by rw[rM,h];exact q
theorem b8{s u:ah}{q:R Fl}{e':Ev}(h:s e c=.ok (.nx e') c') (h2:u e' c'=q):aC s u e c=q:=by rw[b9 h];exact h2
theorem rZ{i:Nat}(h:o e c=.ok x c'):aN i o e c=.ok (.nx (e.set i (Y x))) c':=by rw[pA,h];rfl
theorem GG{m:List D->aa->R D}{r:R D}(h1:o e c=.ok x c) (h2:a e c=.ok y c) (h:m [x,y] c=r):aH 2 m (ao o (ao a au)) e c=r:=by
 simp only[x_call,cT,h1,h2,cI,R.aL];rw[if_pos (by rfl)];exact h
end
def bc(t:aa) (l:List (Str×D)) (P:List D) (u:aa):aa:=t ++ .kd l :: .lst P::u
section
variable {t u:aa}{l l':List (Str×D)}{P P':List D}
theorem iK:(bc t l P u)[t.length]? = Y (.kd l):=by simp[bc]
theorem Qu:(bc t l P u)[t.length+1]? = Y (.lst P):=by unfold bc;rw[RC (Rx _),show t.length+1-t.length=1 by omega];rfl
theorem akH:(bc t l P u).set t.length (.kd l')=bc t l' P u:=by unfold bc;rw[TH _ _ (ZA _),S3];rfl
theorem akI:(bc t l P u).set (t.length+1) (.lst P')=bc t l P' u:=by unfold bc;rw[TH _ _ (Rx _),show t.length+1-t.length=1 by omega];rfl
theorem kL:(bc t l P u).length=(bc t l' P' u).length:=by simp[bc]
end
abbrev bD(t:aa):D:=.cS t.length (t.length+1)
def rC(nm:Str) (l:List (Str×D)):Prop:=l=[]\/∃v,l=[(nm,v)]/\noRef v=L
section
variable {nm:Str}{t u:aa}{l:List (Str×D)}{w:List (List Nat)}{P:List D}{m:Nat}{f:Nat->Nat->Bool}{s:List Nat}
theorem rC.put(h:rC nm l) (d:D):jF l nm d=[(nm,d)]/\l.length<Ξ:=by
 rcases h with rfl|⟨v,rfl,_⟩
 ·exact⟨rfl,by show 0<Ξ;decide⟩
 ·exact⟨by simp[jF],by show 1<Ξ;decide⟩
theorem rC.old(h:rC nm l):noRef ((eX l nm).getD .aE)=L:=by
 rcases h with rfl|⟨v,rfl,hv⟩
 ·rfl
 ·simpa[eX]using hv
theorem G7(v:D):eX [(nm,v)] nm=Y v:=by simp[eX]
theorem aaq(hl:rC nm l):Fb [bD t,.str nm,az w] (bc t l P u)=.ok .aE (bc t [(nm,az w)] P u):=by
 refine nH (e':=[Y (bD t),Y (.str nm),Y (az w)]) ?_ kL;show oW [Y (bD t),Y (.str nm),Y (az w)] (bc t l P u)=_;refine mh (c':=bc t l P u) rfl ?_;rw[aac (d:=az w) (k:=t.length) (s:=nm) (l:=l) rfl (qv rfl) rfl iK (hl.put .aE).2 (jt w),(hl.put _).1,akH]
theorem Pp(hl:rC nm l) (hP:P.length+1<=1000):tN [bD t,.str nm,az w] (bc t l P u)=.ok .aE (bc t [(nm,az w)] (P++[.tup [.str nm,(eX l nm).getD .aE]]) u):=by
 refine nH (e':=[Y (bD t),Y (.str nm),Y (az w)]) ?_ kL;show mL [Y (bD t),Y (.str nm),Y (az w)] (bc t l P u)=_;have hg:=aah (o:=iu (ak 0)) (a:=ak 1) (e:=[Y (bD t),Y (.str nm),Y (az w)]) (c:=bc t l P u) (qv rfl) (s:=nm) rfl iK;have ht:bY (ao (ak 1) (ao (ux (iu (ak 0)) (ak 1)) au)) [Y (bD t),Y (.str nm),Y (az w)] (bc t l P u)=.ok (.tup [.str nm,(eX l nm).getD .aE]) (bc t l P u):=uX rfl hg;have ha:uz (xu (ak 0)) (bY (ao (ak 1) (ao (ux (iu (ak 0)) (ak 1)) au))) [Y (bD t),Y (.str nm),Y (az w)] (bc t l P u)=.ok .aE (bc t l (P++[.tup [.str nm,(eX l nm).getD .aE]]) u):=by
  have hn:noRef (.tup [.str nm,(eX l nm).getD .aE])=L:=by
   show(noRef (.str nm)&&(noRef ((eX l nm).getD .aE)&&bB []))=L;rw[hl.old];rfl
  have hs:=fH (n:=1000) (by decide)
  unfold uz;rw[akF rfl];simp only[R.aL,ht,Qu];rw[if_pos ⟨by omega,hn⟩,akI]
 rw[mL,b9 (kC ha)];exact kC (sQ rfl rfl rfl (aaq hl))
theorem uD:ql [bD t,.str nm] (bc t [(nm,az w)] P u)=.ok (az w) (bc t [(nm,az w)] P u):=by
 refine cQ ?_ (jt w) (λk h=>by cases h)
 show oU [Y (bD t),Y (.str nm)] _=_;have h1:aG (ay nI (ak 1) (iu (ak 0))) [Y (bD t),Y (.str nm)] (bc t [(nm,az w)] P u)=.ok G (bc t [(nm,az w)] P u):=by
  refine eN (bh rfl (qv rfl) ?_);rw[MR iK,G7];rfl
 refine b8 (mh (c':=bc t [(nm,az w)] P u) (u:=bA) ?_ rfl) (cM (aaf (qv rfl) rfl iK (G7 _)));rw[agV,show cH (aG (aF bT (ao (ak 1) (ao (dC (.ty "str")) au)))) [Y (bD t),Y (.str nm)] (bc t [(nm,az w)] P u)=.ok G _ from rfl]
 exact h1
theorem akJ(hn:∀c,tG [.str nm] c=.ok (.bl L) c) (hf:dZ f) (h1:1<=m) (h2:m<=50):E7 [bD t,.str nm,az (wF m f)] (bc t [] [] u)=.ok .aE (bc t [(nm,az (wF m f))] [.tup [.str nm,.aE]] u):=by
 refine nH (e':=[Y (bD t),Y (.str nm),Y (az (wF m f))]) ?_ kL;show mK [Y (bD t),Y (.str nm),Y (az (wF m f))] _=_;have h3:jO (aG (ay nI (ak 1) (iu (ak 0)))) (aG (ay cu (aF tQ (ao (iu (ak 0)) au)) (dC (.int 12)))) [Y (bD t),Y (.str nm),Y (az (wF m f))] (bc t [] [] u)=.ok G (bc t [] [] u):=by
  rw[IZ,eN (bh rfl (qv rfl) (MR iK))];have:tQ [.eG t.length] (bc t [] [] u)=.ok (.int 0) (bc t [] [] u):=by
   unfold tQ;simp only[iK];rfl
  exact eN (bh (dQ (qv rfl) this) rfl rfl)
 rw[mK,b9 (d9 (lU (eN (fh rfl (hn _))))),b9 (d9 (lU (eN (fh rfl (aaQ hf h1 h2 _))))),b9 (d9 h3)];exact kC (sQ rfl rfl rfl (Pp (.inl rfl) (by show 1<=1000;decide)))
theorem Ze{v:D}:E9 [bD t] (bc t [(nm,v)] P u)=.ok (.lst [.str nm]) (bc t [(nm,v)] P u):=by
 refine cQ ?_ rfl (λk h=>by cases h)
 show oV [Y (bD t)] _=_;refine cM (dQ (qv rfl) ?_);unfold yP;simp only[iK]
theorem Pf(w:List (List Nat)):noRef (ly w)=L/\∀k,ly w≠.ref k:=by
 unfold ly;split
 ·exact⟨rfl,λk h=>by cases h⟩
 ·split
  ·exact⟨rfl,λk h=>by cases h⟩
  ·split
   ·exact⟨rfl,λk h=>by cases h⟩
   ·refine⟨?_,λk h=>by cases h⟩
    simp only[noRef,bB,(Eh _).1,Uu]
theorem YT(h:Wk w) (h0:0<w.length):E8 [bD t,.str nm] (bc t [(nm,az w)] P u)=.ok (ly w) (bc t [(nm,az w)] P u) :=
 cQ (cM (fh (nO rfl rfl uD) (Pe h h0 _))) (Pf w).1 (Pf w).2
theorem Pq{w':List (List Nat)}(hP:P.length+1<=1000):tN [bD t,.str nm,az w'] (bc t [(nm,az w)] P u)=.ok .aE (bc t [(nm,az w')] (P++[.tup [.str nm,az w]]) u):=by
 have:=Pp (t:=t) (u:=u) (w:=w') (.inr ⟨az w,rfl,jt w⟩:rC nm _) hP
 rwa[G7]at this
theorem ag5(hf:dZ f) (hm:m<60) (h:jy s m) (hP:P.length+1<=1000):E6 [bD t,.str nm,.tup (nD s)] (bc t [(nm,az (wF m f))] P u)=.ok .aE (bc t [(nm,az (wF m (c8 f s)))] (P++[.tup [.str nm,az (wF m f)]]) u):=by
 refine nH (e':=[Y (bD t),Y (.str nm),Y (.tup (nD s))]) ?_ kL;have e:iC m (c8 f s)=wF m (c8 f s):=(Jl (C5 hf).1 (C5 hf).1).mpr λ_ _ _ _=>rfl
 exact kC (sQ rfl rfl (g5 (nO rfl rfl uD) rfl (Jz f hm h _)) (by rw[e];exact Pq hP))
theorem aen(hm:m<60) (hP:P.length+1<=1000):E5 [bD t,.str nm] (bc t [(nm,az (wF m f))] P u)=.ok .aE (bc t [(nm,az (wF m (eg f)))] (P++[.tup [.str nm,az (wF m f)]]) u):=by
 refine nH (e':=[Y (bD t),Y (.str nm)]) ?_ kL;exact kC (sQ rfl rfl (fh (nO rfl rfl uD) (Ed (by rw[iY];omega) _)) (by rw[Ml];exact Pq hP))
end
end Ev
set_option maxHeartbeats 400000
namespace Ev
open PySem L2
theorem J8(a b:Str):(PyData.str a).eqv (.str b)=decide (a=b):=by
 simp only[PyData.eqv]
 by_cases h:a=b<;>simp[h]
theorem Gp:∀ws:List Str,(∀w∈ws,PyData.strOk w=L)->fc (ws.map D.str)=Y (ws.map PyData.str)
 |[],_=>rfl
 |a::l,h=>by
  have h1:=h a (by simp)
  have h2:=Gp l λw hw=>h w (by simp[hw])
  simp[fc,cZ,h1,h2]
theorem Qw(x:Str) (ws:List Str):((ws.map PyData.str).any λz=>z.eqv (.str x))=decide (x∈ws):=by
 rw[List.any_map,RW,Sb,decide_eq_true_iff]
 constructor
 ·rintro ⟨y,hy,h⟩
  have h:(PyData.str y).eqv (.str x)=L:=h;rw[J8,decide_eq_true_iff]at h;exact h▸hy
 ·exact λh=>⟨x,h,by show(PyData.str x).eqv (.str x)=L;rw[J8];simp⟩
section
variable {x g:Str}{ws:List Str}
theorem Oa(h:∀w∈x::ws,PyData.strOk w=L) (c:aa):inD (.str x) (.lst (ws.map D.str)) c=.ok (.bl (decide (x∈ws))) c/\kX (.str x) (.lst (ws.map D.str)) c=.ok (.bl (!decide (x∈ws))) c:=by
 have h1:fL c (.str x)=Y (.str x):=by
  show cZ (.str x)=_;simp[cZ,h x (by simp)]
 have h2:fL c (.lst (ws.map D.str))=Y (.list (ws.map PyData.str)):=by
  show(match fc (ws.map D.str)with|some r=>Y (PyData.list r)|none=>O)=_
  rw[Gp ws λw hw=>h w (by simp[hw])]
 have d:(PyData.str x).depth<=62:=by simp[PyData.depth]
 unfold inD kX;rw[h1,h2];dsimp only;rw[if_pos d,if_pos d,Qw];exact⟨rfl,rfl⟩
theorem FH(h:∀w∈x::ws,PyData.strOk w=L) (n:Bool) (c:aa):oj g ws n (.str x) (.fn g 0) c=.ok (.bl (n != decide (x∈ws))) c:=by
 have d:(PyData.str x).depth<=62:=by simp[PyData.depth]
 unfold oj;rw[show cZ (.str x)=Y (.str x) by simp[cZ,h x (by simp)],Gp ws λw hw=>h w (by simp[hw])]
 dsimp only;rw[if_pos ⟨rfl,d⟩,Qw]
end
def lE(w:Str):Prop:=PyData.strOk w=L/\w≠""/\32∉w.cps.toList/\w.length<=100
def wL(ws:List Str):D:=.lst (ws.map D.str)
theorem ZU(ws:List Str) (c:aa):aS [wL ws] c=.ok (.int (ws.length:Nat)) c:=by
 unfold aS fP wL;dsimp only;rw[x8]
theorem aaF{ws:List Str}{k:Nat}{w:Str}(h:ws[k]? = Y w) (c:aa):aD (wL ws) (.int (k:Int)) c=.ok (.str w) c:=by
 show aD (.lst (ws.map D.str)) (.int (k:Int)) c=_;rw[iX,jm (v:=D.str w) (by rw[Q9,h];rfl)]
theorem iL{i k:Nat}{ws:List Str}{w:Str}{e:Ev}{c:aa}(he:e[i]? = Y (Y (wL ws))) (h:ws[k]? = Y w):ay aD (ak i) (dC (.int (k:Int))) e c=.ok (.str w) c:=by
 refine bh (x:=wL ws) ?_ rfl (aaF h c);show(match e[i]? with|some (Y d)=>R.ok d c|_=>.bad)=_
 rw[he]
theorem zO:(∀w∈pG,PyData.strOk w=L)/\∀w∈mS,PyData.strOk w=L:=by decide +kernel
theorem mT{a:Str}{ws:List Str}{k:Int}(hs:∀w∈a::ws,lE w) (hn:ws.length<=60) (hk:g7 kP a=Y k) (hl:k<=(ws.length+1:Nat)) (hg:((ws.length+1:Nat):Int)=k\/a∈pG) (c:aa) :
  vU [.str (dM " " (a::ws))] c=.ok (wL (a::ws)) c:=by
 generalize hr:dM " " (a::ws)=r
 have sz:=gS;have jJ:qP (ak 0) (dC (.str " ")) [Y (.str r),O,O] c=.ok (wL (a::ws)) c:=by
  show(if((Str.length " ")==0)=G/\r.length<=Ξ/\(gv r " ").length<=Ξ then R.ok (D.lst ((gv r " ").map D.str)) c else .bad)=_
  have hj:=wD (s:=" ") (ss:=a::ws);have hb:=rX ((a::ws).map λp=>p.length+Str.length " ") 101 (λx hx=>by
   obtain⟨p,hp,rfl⟩:=x6.mp hx;have hw:Str.length " "=1:=by rw[j5];rfl
   have:=(hs p hp).2.2.2;omega)
  rw[x8,Iv]at hb;rw[<-hr,Kf λv hv=>(hs v hv).2.2.1,if_pos ⟨by rw[j5];rfl,by omega,by rw[Iv];omega⟩]
  rfl
 have e1:ee (aG (ay inD (dC (.str "")) (ak 1))) (aG (ay (zB "MANY_WORDS" kP) (ay aD (ak 1) (dC (.int 0))) (dC (.fn "MANY_WORDS" 0)))) [Y (.str r),Y (wL (a::ws)),O] c=.ok G c:=by
  refine nF (c1:=c) (eN (bh rfl rfl ?_)) (eN (bh (y:=.fn "MANY_WORDS" 0) (x:=.str a) (iL (k:=0) rfl rfl) rfl ?_))
  ·have s0:PyData.strOk ""=L:=by decide +kernel
   have:=(Oa (x:="") (ws:=a::ws) (λw hw=>by
    rcases l8.mp hw with rfl|hw
    ·exact s0
    ·exact(hs w hw).1) c).1
   rw[decide_eq_false λh=>(hs _ h).2.1 rfl]at this
   exact this
  ·show(if("MANY_WORDS":Str)="MANY_WORDS" then R.ok (D.bl (!(g7 kP a).isSome)) c else .bad)=_
   rw[if_pos rfl,hk];rfl
 have e2:Be (ud kP) (ay aD (ak 1) (dC (.int 0))) [Y (.str r),Y (wL (a::ws)),O] c=.ok (.int k) c:=by
  rw[agQ,show ay aD (ak 1) (dC (.int 0)) [Y (.str r),Y (wL (a::ws)),O] c=.ok (.str a) c from iL (k:=0) (ws:=a::ws) rfl rfl]
  show ud kP (.str a) c=_;unfold ud;dsimp only;rw[hk]
 have hL:∀e:Ev,e[1]? = Y (Y (wL (a::ws)))->aF aS (ao (ak 1) au) e c=.ok (.int ((ws.length+1:Nat):Int)) c:=λe he=>by
  refine dQ (x:=wL (a::ws)) ?_ (ZU _ c);show(match e[1]? with|some (Y d)=>R.ok d c|_=>.bad)=_
  rw[he]
 have e3:ee (aG (ay iG (aF aS (ao (ak 1) au)) (ak 2))) (jO (aG (ay jK (aF aS (ao (ak 1) au)) (ak 2))) (aG (ay (oj "LONG_ROWS" pG L) (ay aD (ak 1) (dC (.int 0))) (dC (.fn "LONG_ROWS" 0))))) [Y (.str r),Y (wL (a::ws)),Y (.int k)] c=.ok G c:=by
  refine nF (c1:=c) (eN (bh (hL _ rfl) rfl ?_)) ?_
  ·show R.ok (D.bl (decide (((ws.length+1:Nat):Int)<k))) c=_;rw[decide_eq_false (by omega)]
  ·rw[IZ,eN (bh (f:=jK) (x:=.int ((ws.length+1:Nat):Int)) (y:=.int k) (hL _ rfl) rfl (show _=R.ok (D.bl (decide (((ws.length+1:Nat):Int)>k))) c from rfl)),R.aL]
   rcases hg with hg|hg
   ·rw[decide_eq_false (by omega)];rfl
   ·have:=FH (g:="LONG_ROWS") (x:=a) (ws:=pG) (λw hw=>by
     rcases l8.mp hw with rfl|hw
     ·exact(hs _ (by simp)).1
     ·exact zO.1 w hw) L c
    rw[decide_eq_true hg]at this;split
    ·exact eN (bh (x:=.str a) (iL (k:=0) rfl rfl) rfl this)
    ·rfl
 refine cQ ?_ (by show bB _=L;exact aja _) (λk h=>by cases h)
 show Bq [Y (.str r),O,O] c=_;exact b8 (d9 (lU (b:=L) (iU rfl))) (b8 (er jJ) (b8 (d9 e1) (b8 (er e2) (b8 (d9 e3) (cM rfl)))))
end Ev
set_option maxHeartbeats 400000
namespace Ev
open PySem L2
theorem qc:∀n,n<100->PyData.strOk (bI n)=L/\bI n≠""/\32∉(bI n).cps.toList/\(bI n).length<=2/\intText? (bI n)=Y (n:Int):=by decide +kernel
theorem EA{n:Nat}(h:n<100):lE (bI n):=by
 obtain⟨h1,h2,h3,h4,_⟩:=qc n h;exact⟨h1,h2,h3,by omega⟩
theorem lO{d:af}{e:Ev}{c:aa}{n:Nat}(hn:n<1000000) (h:d e c=.ok (.int (n:Int)) c):aF dU (ao d au) e c=.ok (.str (bI n)) c:=by
 refine dQ h ?_;unfold dU;dsimp only;have:((n:Int)).natAbs.log2<1920:=by
  rw[VB]
  by_cases h0:n=0
  ·subst h0;decide
  ·have:=(Nat.log2_lt (k:=20) h0).mpr (by omega)
   omega
 rw[if_pos this];rfl
theorem MN{n lo hi:Nat}(h1:lo<=n) (h2:n<=hi) (h3:hi<100) (c:aa):vZ [.str (bI n),.int (lo:Int),.int (hi:Int)] c=.ok (.int (n:Int)) c:=by
 have sz:=gS;have dN:=iI (c:=c) (st:=λ_=>True) (E:=[]) (t:=aT) (a:=aF dU (ao (ak 0) au)) trivial (λk:Nat=>D.int (k:Int)) (λk:Nat=>D.str (bI k)) (List.range' lo (hi+1-lo)) O [] (λ_ _=>rfl) (λk hk=>by
  rw[RS]at hk;exact lO (by omega) rfl)
 rw[Q0]at dN;have hr:aW (lo:Int) ((hi:Int)+1)=nD (List.range' lo (hi+1-lo)):=by
  cases lo with
  |zero=>have:=lR (hi+1);rw[TM]at this;simpa using this
  |succ l=>have:=Ly l (hi+1);simpa using this
 have e1:bg (fM (ao (ak 1) (ao (ay bZ (ak 2) (dC (.int 1))) au))) [O] (aB 0) aT (aF dU (ao (ak 0) au)) [Y (.str (bI n)),Y (.int (lo:Int)),Y (.int (hi:Int))] c=.ok (wL ((List.range' lo (hi+1-lo)).map bI)) c:=by
  have:=iJ (pick:=[O]) (g:=aB 0) (t:=aT) (a:=aF dU (ao (ak 0) au)) (e:=[Y (.str (bI n)),Y (.int (lo:Int)),Y (.int (hi:Int))]) (c:=c) (za (d1:=ak 1) (d2:=ay bZ (ak 2) (dC (.int 1))) (p:=(lo:Int)) (q:=(hi:Int)+1) rfl rfl (by omega) (by omega)) (by rw[hr];simp[nD];omega) (by rw[hr];exact dN)
  rw[this];unfold wL;rw[P0];rfl
 have hin:=(Oa (x:=bI n) (ws:=(List.range' lo (hi+1-lo)).map bI) (λw hw=>by
  rcases l8.mp hw with rfl|hw
  ·exact(qc n (by omega)).1
  ·obtain⟨k,hk,rfl⟩:=x6.mp hw;rw[RS]at hk;exact(qc k (by omega)).1) c).2
 rw[decide_eq_true (Uj (RS.mpr (by omega)))]at hin
 refine cQ ?_ rfl (λk h=>by cases h)
 show BB [Y (.str (bI n)),Y (.int (lo:Int)),Y (.int (hi:Int))] c=_;refine b8 (d9 (eN (bh rfl e1 hin))) (cM (dQ rfl ?_));obtain⟨_,_,_,h4,h5⟩:=qc n (by omega)
 unfold zW;dsimp only;rw[h5];dsimp only;rw[if_pos (by omega)]
theorem akf{n:Nat}(h:n<100) (c:aa):sW [.str (bI n)] c=.ok (.int (n:Int)) c :=
 cQ (cM (kJ (m:=vZ) rfl rfl rfl (MN (lo:=0) (hi:=99) (by omega) (by omega) (by omega) c))) rfl (λk h=>by cases h)
theorem Dk:∀s:List Nat,Up s->cX s=s
 |[],_=>rfl
 |x::l,h=>by
  have h:=Rw.mp h;show jG x (cX l)=_;rw[Dk l h.2];cases l with
  |nil=>rfl
  |cons y l=>exact if_pos (h.1 y (by simp))
theorem Zb(l l':List Nat) (c:aa):kY (.lst (nD l)) (.lst (nD l')) c=.ok (.bl (!decide (l=l'))) c:=by
 have h:∀l:List Nat,fL c (.lst (nD l))=Y (.list (l.map λn:Nat=>PyData.int (n:Int))):=λl=>by
  show(match fc (nD l)with|some r=>Y (PyData.list r)|none=>O)=_
  rw[uq]
 have d:∀l:List Nat,(PyData.list (l.map λn:Nat=>PyData.int (n:Int))).depth<=64:=λl=>by
  have:PyData.depthAll (l.map λn:Nat=>PyData.int (n:Int))<=1:=xq (λa=>by simp[PyData.depth]) l
  simp only[PyData.depth];omega
 unfold kY;rw[h,h];dsimp only;rw[if_pos ⟨d l,d l'⟩,PyData.eqv,xm FG]
theorem aji{s:List Nat}{m:Nat}(h:jy s m) (hm:m<=50) (hl:s.length<=50) (c:aa):EY [wL (s.map bI)] c=.ok (.tup (nD s)) c:=by
 have sz:=gS;have dN:=iI (c:=c) (st:=λ_=>True) (E:=[]) (t:=aT) (a:=aH 1 sW (ao (ak 0) au)) trivial (λk:Nat=>D.str (bI k)) (λk:Nat=>D.int (k:Int)) s O [] (λ_ _=>rfl) (λk hk=>by
  have:=h.2 k hk;exact fh (m:=sW) rfl (akf (by omega) c))
 rw[Q0]at dN;have e1:aN 1 (bg (cO (ak 0)) [O] (aB 0) aT (aH 1 sW (ao (ak 0) au))) [Y (wL (s.map bI)),O] c=.ok (.nx [Y (wL (s.map bI)),Y (.lst (nD s))]) c:=by
  refine er (iJ (items:=s.map λk=>D.str (bI k)) (yR (d:=ak 0) (l:=(s.map bI).map D.str) rfl |>.trans ?_) (by rw[x8];omega) dN)
  rw[P0];rfl
 have e2:Bf (ao (ak 1) au) [Y (wL (s.map bI)),Y (.lst (nD s))] c=.ok (.lst (nD s)) c:=by
  rw[aa2];show(match fJ c (.lst (nD s))with|some l=>(match kg l with|some ns=>R.ok (D.lst (nD (cX ns))) c|none=>.bad)|none=>.bad)=_
  show(match kg (nD s)with|some ns=>R.ok (D.lst (nD (cX ns))) c|none=>.bad)=_
  rw[Nn (by rw[Dk s h.1];omega) (λx hx=>by have:=h.2 x hx;omega)]
  dsimp only;rw[Dk s h.1]
 refine cQ ?_ (EE (qe s)) (λk h=>by cases h)
 show By [Y (wL (s.map bI)),O] c=_;refine b8 e1 (b8 (d9 (eN (bh rfl e2 ?_))) (cM (dQ rfl rfl)));rw[Zb];simp
end Ev
set_option maxHeartbeats 400000
namespace Ev
open PySem L2
def pS:Option Nat->Str
 |none=>"-"
 |some n=>bI n
def lG(o:Option Nat):Prop:=∀n,o=Y n->n<100
def qd(hd:Str) (ps:List (Option Nat)):Str:=dM " " (hd::ps.map pS)
theorem ofM:("-":Str).length=1:=by decide +kernel
theorem lY:Str.length " "=1:=by rw[j5];rfl
theorem Ec{o:Option Nat}(h:lG o):(pS o).length<=2:=by
 cases o with
 |none=>show("-":Str).length<=2;rw[ofM];omega
 |some n=>exact(qc n (h n rfl)).2.2.2.1
theorem oX(a b:Str):(a++b).cps.toList=a.cps.toList++b.cps.toList:=by
 show(a.cps++b.cps).toList=_;simp
theorem uJ(a b:Str):(a++b).length=a.length+b.length:=by
 have:=congrArg List.length (oX a b);rw[QT]at this;exact this
def yJ:af:=(kE (aG (ay l6 (ak 0) (dC .aE))) (dC (.str "-")) (aF dU (ao (ak 0) au)))
theorem ah7{o:Option Nat}(h:lG o) (c:aa):yJ [Y (dJ o)] c=.ok (.str (pS o)) c:=by
 cases o with
 |none=>rfl
 |some n =>
  have:=h n rfl;unfold yJ;rw[lK,show aG (ay l6 (ak 0) (dC .aE)) [Y (dJ (Y n))] c=.ok G c from rfl,R.aL,if_neg (by decide)]
  exact lO (by omega) rfl
theorem C4{x:D}{hd:Str}{ps:List (Option Nat)}{c:aa}(h0:aD x (.int 0) c=.ok (.str hd) c) (hl:hd.length<=5) (hp:ps.length<=4) (hs:∀o∈ps,lG o)
  (h1:kE (aG (ay cu (ay aD (ak 0) (dC (.int 0))) (dC (.str "even")))) (ay aD (ak 0) (dC (.int 1))) (xr (ak 0) (mF (dC (.int 1))) mG) [Y x,O] c=.ok (.tup (ps.map dJ)) c):sV [x] c=.ok (.str (qd hd ps)) c:=by
 have sz:=gS;have dN:=iI (c:=c) (st:=λ_=>True) (E:=[]) (t:=aT) (a:=yJ) trivial dJ (λo=>D.str (pS o)) ps O [] (λ_ _=>rfl) (λo ho=>ah7 (hs o ho) c)
 rw[Q0]at dN;have hcc:bg (fy (ak 1)) [O] (aB 0) aT yJ [Y x,Y (.tup (ps.map dJ))] c=.ok (.lst ((ps.map pS).map D.str)) c:=by
  rw[P0];exact iJ (items:=ps.map dJ) rfl (by rw[x8];omega) dN
 have FZ:kI (.lst [.str hd]) (.lst ((ps.map pS).map D.str)) c=.ok (.lst ((hd::ps.map pS).map D.str)) c:=by
  unfold kI;show(if[D.str hd].length+((ps.map pS).map D.str).length<=Ξ then _ else _)=_
  rw[if_pos (by simp;omega)]
  rfl
 have hb:=rX ((hd::ps.map pS).map λp=>p.length+Str.length " ") 6 (λy hy=>by
  obtain⟨p,hp,rfl⟩:=x6.mp hy;rw[lY]
  rcases l8.mp hp with rfl|hp
  ·omega
  ·obtain⟨o,ho,rfl⟩:=x6.mp hp;have:=Ec (hs o ho);omega)
 rw[x8,Iv,x8]at hb;have hj:=tU (dO:=dC (.str " ")) (s:=" ") (e:=[Y x,Y (.tup (ps.map dJ))]) rfl (bh (f:=kI) (Ny (bh (d1:=ak 0) (d2:=dC (.int 0)) rfl rfl h0)) hcc FZ) rfl (by omega)
 refine cQ ?_ rfl (λk h=>by cases h)
 show Bu [Y x,O] c=_;exact b8 (er h1) (cM hj)
def MP:ah:=(aN 2 (ay fD (ay fD (ak 2) (dC (.str " "))) (ay aD (ff (ao (aF strN (ao (ak 3) au)) (ao (dC (.str "-")) au))) (aF tZ (ao (ay l6 (ak 3) (dC .aE)) au)))))
theorem kM{a b:Str}(h:a.length+b.length<=10000) (c:aa):fD (.str a) (.str b) c=.ok (.str (a++b)) c:=by
 have:=gS;unfold fD;dsimp only;rw[if_pos (by omega)]
theorem YU{x y:Option D}{t:Str}{o:Option Nat}(ht:t.length<=1000) (h:lG o) (c:aa):MP [x,y,Y (.str t),Y (dJ o)] c=.ok (.nx [x,y,Y (.str (t++" "++pS o)),Y (dJ o)]) c:=by
 have hp:=Ec h;refine er (bh (y:=.str (pS o)) (bh rfl rfl (kM (by rw[lY];omega) c)) ?_ (kM (by rw[uJ,lY];omega) c))
 cases o with
 |none=>rfl
 |some n =>
  have hn:=h n rfl;have e1:aF strN (ao (ak 3) au) [x,y,Y (.str t),Y (dJ (Y n))] c=.ok (.str (bI n)) c:=lO (d:=ak 3) (e:=[x,y,Y (.str t),Y (dJ (Y n))]) (by omega) rfl
  have e2:ff (ao (aF strN (ao (ak 3) au)) (ao (dC (.str "-")) au)) [x,y,Y (.str t),Y (dJ (Y n))] c=.ok (.lst [.str (bI n),.str "-"]) c:=by
   simp only[yv,cT,e1,cI,R.aL];rfl
  exact bh e2 (dQ (x:=.bl G) rfl rfl) rfl
def uc(t:Str) (ps:List (Option Nat)):Str:=ps.foldl (λt o=>t++" "++pS o) t
theorem MO{x y:Option D}(c:aa):∀(ps:List (Option Nat)) (t:Str) (v:Option D),t.length+3*ps.length<=1000->(∀o∈ps,lG o)->∃v',cy (λ_=>True) (aB 3) MP (ps.map dJ) [x,y,Y (.str t),v] c=.ok (.nx [x,y,Y (.str (uc t ps)),v']) c
 |[],t,v,_,_=>⟨v,by simp[uc]⟩
 |o::ps,t,v,hl,hs=>by
  have ho:=hs o (by simp)
  rw[Iv]at hl;have hp:=Ec ho;obtain⟨v',h⟩:=MO c ps (t++" "++pS o) (Y (dJ o)) (by rw[uJ,uJ,lY];omega) λo h=>hs o (by simp[h])
  refine⟨v',?_⟩;rw[E1,kr,show aB 3 (dJ o) [x,y,Y (.str t),v] c=.ok [x,y,Y (.str t),Y (dJ o)] c from rfl]
  simp only[R.aL];rw[YU (by omega) ho c]
  exact h
theorem O6:∀(ps:List (Option Nat)) (t:Str),(uc t ps).cps.toList=t.cps.toList++ps.flatMap λo=>32::(pS o).cps.toList
 |[],t=>by simp[uc]
 |o::ps,t=>by
  show(uc (t++" "++pS o) ps).cps.toList=_;rw[O6 ps,oX,oX,j5,SW];simp
theorem acF(hd:Str) (ps:List (Option Nat)):uc hd ps=qd hd ps:=by
 refine pO ?_;unfold qd;rw[O6,Ru,j5];show _=hd.cps.toList++((ps.map pS).map λp=>p.cps.toList).flatMap λp=>[32]++p
 rw[P0,Tc];rfl
end Ev
set_option maxHeartbeats 400000
namespace Ev
open PySem L2
theorem Ff{x y:D}{hd:Str}{ps:List (Option Nat)}{c:aa}(h0:aD x (.int 0) c=.ok (.str hd) c) (hl:hd.length<=5) (hp:ps.length<=4) (hs:∀o∈ps,lG o)
  (h1:xr (ak 0) (mF (dC (.int 1))) mG [Y x,O,O,O] c=.ok y c)
  (h2:aY (aG (ay cu (ay aD (ak 0) (dC (.int 0))) (dC (.str "even")))) (aN 1 (ay aD (ak 0) (dC (.int 1)))) bA [Y x,Y y,O,O] c=.ok (.nx [Y x,Y (.tup (ps.map dJ)),O,O]) c):zM [x] c=.ok (.str (qd hd ps)) c:=by
 obtain⟨v,hf⟩:=MO (x:=Y x) (y:=Y (.tup (ps.map dJ))) c ps hd O (by omega) hs
 rw[acF]at hf;refine cQ ?_ rfl (λk h=>by cases h)
 show BK [Y x,O,O,O] c=_;exact b8 (er h1) (b8 h2 (b8 (er (bh (d1:=ak 0) (d2:=dC (.int 0)) rfl rfl h0)) (b8 (oB rfl hf) (cM rfl))))
def Tw(x:D):Prop:=∃T:Str,∀c,sV [x] c=.ok (.str T) c/\zM [x] c=.ok (.str T) c
theorem A7{a:Str}{e:Ev}{l:List D}{c:aa}(h:a≠"even") (he:e[0]? = Y (Y (.tup (.str a::l)))):aG (ay cu (ay aD (ak 0) (dC (.int 0))) (dC (.str "even"))) e c=.ok G c:=by
 have h1:ay aD (ak 0) (dC (.int 0)) e c=.ok (.str a) c:=by
  refine bh (x:=.tup (.str a::l)) (y:=.int ((0:Nat):Int)) ?_ rfl ?_
  ·show(match e[0]? with|some (Y d)=>R.ok d c|_=>.bad)=_
   rw[he]
  ·rw[yw,jm (v:=.str a) rfl]
 refine eN (bh h1 rfl ?_);show R.ok (D.bl (decide (a="even"))) c=_;rw[decide_eq_false h]
theorem tw2{a:Str}{i:Nat}(h:a≠"even") (hl:a.length<=5) (hi:i<100):Tw (.tup [.str a,.int (i:Int)]):=by
 have hs:∀o∈[Y i],lG o:=λo ho n hn=>by simp at ho;subst ho;cases hn;exact hi
 refine⟨qd a [Y i],λc=>⟨C4 rfl hl (by simp) hs ?_,Ff rfl hl (by simp) hs rfl ?_⟩⟩
 ·rw[lK,A7 h rfl,R.aL,if_neg (by decide)];rfl
 ·exact mh (A7 h rfl) rfl
theorem tw3{a:Str}{i j:Nat}(h:a≠"even") (hl:a.length<=5) (hi:i<100) (hj:j<100):Tw (.tup [.str a,.int (i:Int),.int (j:Int)]):=by
 have hs:∀o∈[Y i,Y j],lG o:=λo ho n hn=>by
  simp at ho
  rcases ho with rfl|rfl<;>cases hn<;>assumption
 refine⟨qd a [Y i,Y j],λc=>⟨C4 rfl hl (by simp) hs ?_,Ff rfl hl (by simp) hs rfl ?_⟩⟩
 ·rw[lK,A7 h rfl,R.aL,if_neg (by decide)];rfl
 ·exact mh (A7 h rfl) rfl
theorem twE{ps:List (Option Nat)}(hp:ps.length<=4) (hs:∀o∈ps,lG o):Tw (.tup [.str "even",.tup (ps.map dJ)]):=by
 have hl:("even":Str).length<=5:=by decide +kernel
 have he:∀(e:Ev) (c:aa),e[0]? = Y (Y (.tup [.str "even",.tup (ps.map dJ)]))->aG (ay cu (ay aD (ak 0) (dC (.int 0))) (dC (.str "even"))) e c=.ok L c:=λe c he=>by
  have h1:ay aD (ak 0) (dC (.int 0)) e c=.ok (.str "even") c:=by
   refine bh (x:=.tup [.str "even",.tup (ps.map dJ)]) ?_ rfl rfl;show(match e[0]? with|some (Y d)=>R.ok d c|_=>.bad)=_
   rw[he]
  refine eN (bh h1 rfl ?_);show R.ok (D.bl (decide (("even":Str)="even"))) c=_;rw[decide_eq_true rfl]
 refine⟨qd "even" ps,λc=>⟨C4 rfl hl hp hs ?_,Ff rfl hl hp hs rfl ?_⟩⟩
 ·rw[lK,he _ _ rfl,R.aL,if_pos rfl];rfl
 ·exact l9 (he _ _ rfl) rfl
theorem ad1:∀(a b:List Nat),lB a b<=a.length:=λa b=>by
 unfold lB;exact Q3 (SM _ _) (aiY a)
theorem Jv{w:List (List Nat)}{ps:List (Nat×Nat)}{p:Nat×Nat}(h:iZ w ps=Y p):p∈ps:=by
 unfold iZ at h;split at h
 ·cases h
 ·exact List.mem_of_find?_eq_some h
theorem tw_ev{w:List (List Nat)}(h:Wk w) (h0:0<w.length):Tw (ly w):=by
 have hl:=h.len;have gd:∀i,(w.getD i []).length<=w.length:=λi=>by
  rw[Q6];cases e:w[i]? with
  |none=>simp
  |some r=>exact h.short (R5 e)
 have t1:=yK (w:=w) (m:=w.length) (ZA _) λr hr=>(h.row r hr).2
 have t2:=yK (w:=gA w) (m:=w.length) (by unfold gA;simp[iC]) λr hr=>((CT _ _) r hr).2
 have sh:∀ps,lG (jZ w ps):=λps n hn=>by
  cases ps with
  |nil=>cases hn
  |cons p ps =>
   cases hn;have:=ad1 (w.getD p.1 []) (w.getD p.2 []);have:=gd p.1;show lB _ _<100;omega
 unfold ly;split
 ·rename_i i hi;have:=(Vy.mp hi).1;exact tw2 (by decide +kernel) (by decide +kernel) (by omega)
 ·split
  ·rename_i p hp;have:=t1 p (Jv hp);exact tw3 (by decide +kernel) (by decide +kernel) (by omega) (by omega)
  ·split
   ·rename_i p hp;have:=t2 p (Jv hp);exact tw3 (by decide +kernel) (by decide +kernel) (by omega) (by omega)
   ·refine twE (ps:=[Y w.length,Y (w.getD 0 []).length,jZ w (eT w),jZ w (eT (gA w))]) (by simp) λo ho=>?_
    simp only[l8,R7,or_false]at ho
    rcases ho with rfl|rfl|rfl|rfl
    ·intro n hn;cases hn;omega
    ·intro n hn;cases hn;have:=gd 0;omega
    ·exact sh _
    ·exact sh _
end Ev
set_option maxHeartbeats 400000
namespace Ev
open PySem L2
abbrev dD(t:aa):D:=.dX t.length (t.length+1)
section
variable {a b r v nm:Str}{ws:List Str}{c c' t u:aa}{e:Ev}{i j m k:Nat}{f g:Nat->Nat->Bool}{P:List D}{s:List Nat}
theorem vt(hw:vU [.str r] c=.ok (wL (a::ws)) c) (ha:a∈mS) (h:nU [.dX i j,wL (a::ws)] c=.ok (.str v) c):cU [.dX i j,.str r] c=.ok (.str v) c:=by
 have hg:=FH (g:="ASKING_ROWS") (x:=a) (ws:=mS) (λw hw=>by
  rcases l8.mp hw with rfl|hw
  ·exact zO.2 _ ha
  ·exact zO.2 w hw) G c
 rw[decide_eq_true ha]at hg;refine cQ ?_ rfl (λk h=>by cases h)
 show lC [Y (.dX i j),Y (.str r),O] c=_;exact b8 (er (fh rfl hw)) (vm (l9 (c':=c) (eN (bh (iL (k:=0) (ws:=a::ws) rfl rfl) rfl hg)) (cM (iF rfl rfl h))))
theorem Du(hw:vU [.str r] c=.ok (wL (a::ws)) c) (ha:a∉mS) (hs:PyData.strOk a=L) (h:tM [.dX i j,wL (a::ws)] c=.ok .aE c') (hl:c'.length=c.length):cU [.dX i j,.str r] c=.ok (.str "ok") c':=by
 have hg:=FH (g:="ASKING_ROWS") (x:=a) (ws:=mS) (λw hw=>by
  rcases l8.mp hw with rfl|hw
  ·exact hs
  ·exact zO.2 w hw) G c
 rw[decide_eq_false ha]at hg;have h1:lC [Y (.dX i j),Y (.str r),O] c=.ok (.rt (.str "ok")) c' :=
  b8 (er (fh rfl hw)) (b8 (d9 (eN (bh (iL (k:=0) (ws:=a::ws) rfl rfl) rfl hg))) (b8 (kC (iF rfl rfl h)) (cM rfl)))
 have:=LC (n:=3) (xs:=[.dX i j,.str r]) (b:=lC) h1 rfl (λk h=>by cases h)
 rw[<-hl,RN]at this;exact this
theorem wq(he:e[1]? = Y (Y (wL (a::ws)))):aG (ay cu (ay aD (ak 1) (dC (.int 0))) (dC (.str b))) e c=.ok (decide (a=b)) c:=eN (bh (iL (k:=0) he rfl) rfl rfl)
theorem wn(he:e[1]? = Y (Y (wL (a::ws)))) (h:a≠b):aG (ay cu (ay aD (ak 1) (dC (.int 0))) (dC (.str b))) e c=.ok G c:=by rw[wq he,decide_eq_false h]
theorem wy(he:e[1]? = Y (Y (wL (a::ws)))):aG (ay cu (ay aD (ak 1) (dC (.int 0))) (dC (.str a))) e c=.ok L c:=by rw[wq he,decide_eq_true rfl]
theorem aef(h1:1<=m) (hm:m<=50):nU [dD t,wL ["show",nm]] (bc t [(nm,az (wF m g))] P u)=.ok (.str (fF m g)) (bc t [(nm,az (wF m g))] P u):=by
 refine cQ ?_ rfl (λk h=>by cases h)
 show jR [Y (dD t),Y (wL ["show",nm]),O,O,O] _=_;refine b8 (d9 (wn rfl (by decide +kernel))) (b8 (d9 (wn rfl (by decide +kernel))) (b8 (d9 (wn rfl (by decide +kernel))) (b8 (er (nO (oQ rfl) (iL (k:=1) (ws:=["show",nm]) rfl rfl) uD)) (cM ?_))))
 rw[lK,wy rfl,R.aL,if_pos rfl];exact fh rfl (CO g h1 hm _)
theorem aee(hm:m<60) (hc:qU g m<1000000):nU [dD t,wL ["threes",nm]] (bc t [(nm,az (wF m g))] P u)=.ok (.str (bI (qU g m))) (bc t [(nm,az (wF m g))] P u):=by
 refine cQ ?_ rfl (λk h=>by cases h)
 show jR [Y (dD t),Y (wL ["threes",nm]),O,O,O] _=_;refine b8 (d9 (wn rfl (by decide +kernel))) (b8 (d9 (wn rfl (by decide +kernel))) (b8 (d9 (wn rfl (by decide +kernel))) (b8 (er (nO (oQ rfl) (iL (k:=1) (ws:=["threes",nm]) rfl rfl) uD)) (cM ?_))))
 rw[lK,wn rfl (by decide +kernel),R.aL,if_neg (by decide)]
 exact lO hc (fh rfl (MF g hm _))
theorem aei{n:Nat}(hk:∀c,nR [az (wF m g),.int (k:Int)] c=.ok (.int (n:Int)) c) (hn:n<1000000) (k1:1<=k) (k4:k<=4):nU [dD t,wL ["knots",nm,bI k]] (bc t [(nm,az (wF m g))] P u)=.ok (.str (bI n)) (bc t [(nm,az (wF m g))] P u):=by
 refine cQ ?_ rfl (λk h=>by cases h)
 show jR [Y (dD t),Y (wL ["knots",nm,bI k]),O,O,O] _=_;refine b8 (d9 (wn rfl (by decide +kernel))) (b8 (d9 (wn rfl (by decide +kernel))) (vm (l9 (wy rfl) (b8 (er (kJ (iL (k:=2) (ws:=["knots",nm,bI k]) rfl rfl) rfl rfl (MN (lo:=1) (hi:=4) k1 k4 (by decide) _))) (cM ?_)))))
 exact lO hn (g5 (nO (oQ rfl) (iL (k:=1) (ws:=["knots",nm,bI k]) rfl rfl) uD) rfl (hk _))
theorem aeg{T:Str}{w:List (List Nat)}(h:Wk w) (h0:0<w.length) (hT:∀c,sV [ly w] c=.ok (.str T) c):nU [dD t,wL ["numbers",nm]] (bc t [(nm,az w)] P u)=.ok (.str T) (bc t [(nm,az w)] P u):=by
 refine cQ ?_ rfl (λk h=>by cases h)
 show jR [Y (dD t),Y (wL ["numbers",nm]),O,O,O] _=_;exact b8 (d9 (wn rfl (by decide +kernel))) (vm (l9 (wy rfl) (cM (fh (nO (oQ rfl) (iL (k:=1) (ws:=["numbers",nm]) rfl rfl) (YT h h0)) (hT _)))))
theorem aeh{w:D}(hl:nm.length<=100):nU [dD t,wL ["names"]] (bc t [(nm,w)] P u)=.ok (.str nm) (bc t [(nm,w)] P u):=by
 have hj:dM " " [nm]=nm:=rfl;refine cQ ?_ rfl (λk h=>by cases h)
 show jR [Y (dD t),Y (wL ["names"]),O,O,O] _=_;refine vm (l9 (wy rfl) (b8 (er (ZE (oQ rfl) Ze)) (cM ?_)));rw[lK,show ur (ak 2) (([Y (dD t),Y (wL ["names"]),O,O,O]:Ev).set 2 (Y (.lst [.str nm]))) (bc t [(nm,w)] P u)=.ok L (bc t [(nm,w)] P u)from rfl,R.aL,if_pos rfl]
 have:=tU (dO:=dC (.str " ")) (da:=ak 2) (s:=" ") (ss:=[nm]) (e:=([Y (dD t),Y (wL ["names"]),O,O,O]:Ev).set 2 (Y (.lst [.str nm]))) (c:=bc t [(nm,w)] P u) rfl rfl rfl (by simp[lY];omega)
 rwa[hj]at this
theorem ada(x y:D) (l:List D):cutD (x::y::l) (Y 2) O=l:=by
 unfold cutD;have h:HT.bJ (x::y::l).length 0 (Y 2)=2:=by
  have:=HT.ajE (x::y::l).length 0 2;rw[Iv,Iv]at this ⊢;have e:min 2 (l.length+1+1)=2:=by omega
  rw[e]at this;exact this
 rw[h,HT.ajF];simp
theorem sl2{x y:Str}(he:e[1]? = Y (Y (wL (x::y::ws)))):uv (ak 1) (mF (dC (.int 2))) mG e c=.ok (wL ws) c:=by
 have h1:ak 1 e c=.ok (wL (x::y::ws)) c:=by
  show(match e[1]? with|some (Y d)=>R.ok d c|_=>.bad)=_
  rw[he]
 unfold uv;rw[h1];simp only[R.aL];show R.ok (D.lst (cutD (.str x :: .str y::ws.map D.str) (Y 2) O)) c=_;rw[ada];rfl
theorem YR(hn:∀c,tG [.str nm] c=.ok (.bl L) c) (hg:dZ g) (h1:1<=m) (hm:m<=12):tM [dD t,wL ("put"::nm::fE m g)] (bc t [] [] u)=.ok .aE (bc t [(nm,az (wF m g))] [.tup [.str nm,.aE]] u):=by
 have hw:∀c,EX [wL (fE m g)] c=.ok (az (wF m g)) c:=λc =>
  cQ (cM (fh (tU (dO:=dC (.str " ")) (da:=ak 0) (s:=" ") (ss:=fE m g) rfl rfl rfl (CN h1 (by omega) g)) (LG hg h1 hm c))) (jt _) (λk h=>by cases h)
 refine nH (e':=[Y (dD t),Y (wL ("put"::nm::fE m g))]) ?_ kL;show lD [Y (dD t),Y (wL ("put"::nm::fE m g))] _=_;exact l9 (wy rfl) (kC (sQ (oQ rfl) (iL (k:=1) (ws:="put"::nm::fE m g) rfl rfl) (fh (sl2 (x:="put") (y:=nm) rfl) (hw _)) (akJ hn hg h1 (by omega))))
theorem YQ(hg:dZ g) (hm:m<=12) (h:jy s m) (hl:s.length<=50) (hP:P.length+1<=1000):tM [dD t,wL ("turn"::nm::s.map bI)] (bc t [(nm,az (wF m g))] P u)=.ok .aE (bc t [(nm,az (wF m (c8 g s)))] (P++[.tup [.str nm,az (wF m g)]]) u):=by
 refine nH (e':=[Y (dD t),Y (wL ("turn"::nm::s.map bI))]) ?_ kL;show lD [Y (dD t),Y (wL ("turn"::nm::s.map bI))] _=_;exact mh (wn rfl (by decide +kernel)) (mh (wn rfl (by decide +kernel)) (l9 (wy rfl) (kC (sQ (oQ rfl) (iL (k:=1) (ws:="turn"::nm::s.map bI) rfl rfl) (fh (sl2 (x:="turn") (y:=nm) rfl) (aji h (by omega) hl _)) (ag5 hg (by omega) h hP)))))
theorem YS(hm:m<=12) (hP:P.length+1<=1000):tM [dD t,wL ["about",nm]] (bc t [(nm,az (wF m g))] P u)=.ok .aE (bc t [(nm,az (wF m (eg g)))] (P++[.tup [.str nm,az (wF m g)]]) u):=by
 refine nH (e':=[Y (dD t),Y (wL ["about",nm])]) ?_ kL;show lD [Y (dD t),Y (wL ["about",nm])] _=_;exact mh (wn rfl (by decide +kernel)) (mh (wn rfl (by decide +kernel)) (mh (wn rfl (by decide +kernel)) (l9 (wy rfl) (kC (nO (oQ rfl) (iL (k:=1) (ws:=["about",nm]) rfl rfl) (aen (by omega) hP))))))
end
end Ev
set_option maxHeartbeats 400000
namespace Ev
open PySem L2
structure Nm (nm:Str):Prop where
 is:∀c,tG [.str nm] c=.ok (.bl L) c
 ok:lE nm
theorem Nq{nm:Str}{l:List Nat}(hn:nm=vp l) (h1:1<=l.length) (h8:l.length<=8) (hl:∀n∈l,n<128/\Txt.contains "abcdefghijklmnopqrstuvwxyz" (⟨#[n]⟩:Str)=L) (c:aa):tG [.str nm] c=.ok (.bl L) c:=by
 have sz:=gS;have hL:aS [.str nm] c=.ok (.int (l.length:Int)) c:=by
  have:nm.length=l.length:=by rw[hn];show l.toArray.size=_;simp
  simp[aS,fP,this];omega
 have hS:Bg (ak 0) [Y (.str nm)] c=.ok ⟨l.map λn=>.str ⟨#[n]⟩,λ_=>True⟩ c:=by
  have ha:(nm.cps.all λc=>decide (c<128))=L:=by
   rw[hn];show(l.toArray.all λc=>decide (c<128))=L
   simpa using λx hx=>(hl x hx).1
  have:nh nm=l.map λn=>.str ⟨#[n]⟩:=by unfold nh;rw[hn];rfl
  unfold Bg;rw[show ak 0 [Y (.str nm)] c=.ok (.str nm) c from rfl]
  simp only[R.aL];rw[if_pos ha,this]
 have hC:=mz (c:=c) (E:=[]) (t:=aT) (a:=ay zZ (ak 0) (dC (.str "abcdefghijklmnopqrstuvwxyz"))) (λn:Nat=>.str ⟨#[n]⟩) (λ_=>.bl L) (λ_=>L) l O [] (λ_ _=>rfl) (λn hn _=>by
  refine bh rfl rfl ?_;show R.ok (D.bl (Txt.contains _ _)) c=_;rw[(hl n hn).2])
 refine cQ ?_ rfl (λk h=>by cases h)
 show BU [Y (.str nm)] c=_;refine b8 (d9 (nF (c1:=c) rfl (lU (b:=L) (eN ?_)))) (cM (dQ (PN hS (by rw[x8];omega) hC) (by rw[Q0];exact all_true _ c)))
 ·unfold oH;rw[show dC (.int 1) [Y (.str nm)] c=.ok (.int 1) c from rfl,R.aL,dQ (d1:=ak 0) rfl hL]
  have a1:kj (.int 1) (.int (l.length:Int)) c=.ok (.bl L) c:=by
   show R.ok (D.bl (decide ((1:Int)<=l.length))) c=_;rw[decide_eq_true (by omega)]
  have a2:kj (.int (l.length:Int)) (.int 8) c=.ok (.bl L) c:=by
   show R.ok (D.bl (decide ((l.length:Int)<=8))) c=_;rw[decide_eq_true (by omega)]
  simp only[R.aL,a1];exact a2
theorem sO:Nm "one":=⟨λc=>Nq (l:=[111,110,101]) (by decide +kernel) (by decide) (by decide) (by decide +kernel) c,by unfold lE;decide +kernel⟩
theorem EG:Nm "two":=⟨λc=>Nq (l:=[116,119,111]) (by decide +kernel) (by decide) (by decide) (by decide +kernel) c,by unfold lE;decide +kernel⟩
theorem row2{x a b:Str}(hx:x.cps.toList=a.cps.toList++[32]):x++b=dM " " [a,b]:=pO (by rw[oX,Ru,j5,hx];simp[cY])
theorem ajn{x a b d:Str}(hx:x.cps.toList=a.cps.toList++[32]):x++b++" "++d=dM " " [a,b,d]:=pO (by rw[oX,oX,oX,Ru,j5,hx];simp[cY])
theorem DP{x a b y:Str}{l:List Str}(hx:x.cps.toList=a.cps.toList++32::(b.cps.toList++[32])):x++dM " " (y::l)=dM " " (a::b::y::l):=pO (by rw[oX,Ru,Ru,j5,hx];simp[cY])
theorem lw:∀w∈(["show","threes","knots","numbers","names","about","put","turn"]:List Str),lE w/\w∈kP.map (·.1):=by unfold lE;decide +kernel
section
variable {a nm r:Str}{c t u:aa}{m k:Nat}{f g:Nat->Nat->Bool}{P:List D}{s:List Nat}
theorem yz(ha:lE a) (N:Nm nm):∀w∈[a,nm],lE w:=λw hw=>by
 simp only[l8,R7,or_false]at hw
 rcases hw with rfl|rfl
 ·exact ha
 ·exact N.ok
theorem Dt(N:Nm nm) (h1:1<=m) (hm:m<=50) (hr:r=dM " " ["show",nm]):cU [dD t,.str r] (bc t [(nm,az (wF m g))] P u)=.ok (.str (fF m g)) (bc t [(nm,az (wF m g))] P u):=by
 subst hr;exact vt (mT (k:=2) (yz (lw _ (by decide +kernel)).1 N) (by simp) (by decide +kernel) (by simp) (.inl (by simp)) _) (by decide +kernel) (aef h1 hm)
theorem ajJ(N:Nm nm) (hm:m<60) (hc:qU g m<1000000) (hr:r=dM " " ["threes",nm]):cU [dD t,.str r] (bc t [(nm,az (wF m g))] P u)=.ok (.str (bI (qU g m))) (bc t [(nm,az (wF m g))] P u):=by
 subst hr;exact vt (mT (k:=2) (yz (lw _ (by decide +kernel)).1 N) (by simp) (by decide +kernel) (by simp) (.inl (by simp)) _) (by decide +kernel) (aee hm hc)
theorem ajI{T:Str}{w:List (List Nat)}(N:Nm nm) (h:Wk w) (h0:0<w.length) (hT:∀c,sV [ly w] c=.ok (.str T) c) (hr:r=dM " " ["numbers",nm]):cU [dD t,.str r] (bc t [(nm,az w)] P u)=.ok (.str T) (bc t [(nm,az w)] P u):=by
 subst hr;exact vt (mT (k:=2) (yz (lw _ (by decide +kernel)).1 N) (by simp) (by decide +kernel) (by simp) (.inl (by simp)) _) (by decide +kernel) (aeg h h0 hT)
theorem ajG{n:Nat}(N:Nm nm) (hk:∀c,nR [az (wF m g),.int (k:Int)] c=.ok (.int (n:Int)) c) (hn:n<1000000) (k1:1<=k) (k4:k<=4) (hr:r=dM " " ["knots",nm,bI k]):cU [dD t,.str r] (bc t [(nm,az (wF m g))] P u)=.ok (.str (bI n)) (bc t [(nm,az (wF m g))] P u):=by
 subst hr;refine vt (mT (k:=3) (λw hw=>?_) (by simp) (by decide +kernel) (by simp) (.inl (by simp)) _) (by decide +kernel) (aei hk hn k1 k4)
 simp only[l8,R7,or_false]at hw
 rcases hw with rfl|rfl|rfl
 ·exact(lw _ (by decide +kernel)).1
 ·exact N.ok
 ·exact EA (by omega)
theorem ajH{w:D}(N:Nm nm):cU [dD t,.str "names"] (bc t [(nm,w)] P u)=.ok (.str nm) (bc t [(nm,w)] P u):=by
 have hr:("names":Str)=dM " " ["names"]:=rfl;rw[hr];exact vt (mT (k:=1) (λw hw=>by obtain rfl:=RG.mp hw;exact(lw _ (by decide +kernel)).1) (by simp) (by decide +kernel) (by simp) (.inl (by simp)) _) (by decide +kernel) (aeh N.ok.2.2.2)
theorem KA(hm:m<=12) (hP:P.length+1<=1000):cU [dD t,.str "about one"] (bc t [("one",az (wF m g))] P u)=.ok (.str "ok") (bc t [("one",az (wF m (eg g)))] (P++[.tup [.str "one",az (wF m g)]]) u):=by
 have hr:("about one":Str)=dM " " ["about","one"]:=by decide +kernel
 rw[hr];exact Du (mT (k:=2) (yz (lw _ (by decide +kernel)).1 sO) (by simp) (by decide +kernel) (by simp) (.inl (by simp)) _) (by decide +kernel) (lw _ (by decide +kernel)).1.1 (YS hm hP) kL
theorem Ky(hg:dZ g) (hm:m<=12) (h:jy s m) (h0:s≠[]) (hl:s.length<=50) (hP:P.length+1<=1000) (hr:r="turn one "++dM " " (s.map bI)):cU [dD t,.str r] (bc t [("one",az (wF m g))] P u)=.ok (.str "ok") (bc t [("one",az (wF m (c8 g s)))] (P++[.tup [.str "one",az (wF m g)]]) u):=by
 have hr:r=dM " " ("turn"::"one"::s.map bI):=by
  subst hr;cases s with
  |nil=>exact absurd rfl h0
  |cons a s=>exact DP (by decide +kernel)
 subst hr;have hls:1<=s.length:=by cases s with|nil=>exact absurd rfl h0|cons a s=>simp
 refine Du (mT (k:=3) (λw hw=>?_) (by simp;omega) (by decide +kernel) (by simp;omega) (.inr (by decide +kernel)) _) (by decide +kernel) (lw _ (by decide +kernel)).1.1 (YQ hg hm h hl hP) kL
 rcases l8.mp hw with rfl|hw
 ·exact(lw _ (by decide +kernel)).1
 ·rcases l8.mp hw with rfl|hw
  ·exact sO.ok
  ·obtain⟨n,hn,rfl⟩:=x6.mp hw;have:=h.2 n hn;exact EA (by omega)
theorem ahE(h1:1<=m) (hm:m<=12) (g:Nat->Nat->Bool):∀w∈fE m g,lE w:=λw hw=>by
 rcases l8.mp hw with rfl|hw
 ·exact EA (by omega)
 ·obtain⟨i,hi,rfl⟩:=x6.mp hw;rw[RS]at hi;have hc:=yC g i;have hsg:∀n∈(dF g i).cps.toList,n=35\/n=46:=λn hn=>by
   rw[hc]at hn;obtain⟨k,_,rfl⟩:=x6.mp hn;unfold g8;split<;>simp
  refine⟨?_,λh=>?_,λh=>?_,?_⟩
  ·unfold PyData.strOk;rw[<-Array.all_toList,R8];intro n hn
   rcases hsg n hn with rfl|rfl<;>decide
  ·have:=pH g i;rw[h]at this;have e:("":Str).length=0:=by decide +kernel
   omega
  ·rcases hsg 32 h with h|h<;>omega
  ·rw[pH];omega
theorem Kz{x:Str}(N:Nm nm) (hg:dZ g) (h1:1<=m) (hm:m<=12) (hx:x.cps.toList=("put":Str).cps.toList++32::(nm.cps.toList++[32])):cU [dD t,.str (x++fF m g)] (bc t [] [] u)=.ok (.str "ok") (bc t [(nm,az (wF m g))] [.tup [.str nm,.aE]] u):=by
 have hr:x++fF m g=dM " " ("put"::nm::fE m g):=DP hx;have hl:=uQ h1 g;rw[hr];refine Du (mT (k:=3) (λw hw=>?_) (by rw[Iv];omega) (by decide +kernel) (by rw[Iv];omega) (.inr (by decide +kernel)) _) (by decide +kernel) (lw _ (by decide +kernel)).1.1 (YR N.is hg h1 hm) kL
 rcases l8.mp hw with rfl|hw
 ·exact(lw _ (by decide +kernel)).1
 ·rcases l8.mp hw with rfl|hw
  ·exact N.ok
  ·exact ahE h1 hm g w hw
end
end Ev
set_option maxHeartbeats 400000
namespace Ev
open PySem L2
theorem yQ{t:Nat->Nat}{B:Nat}:∀{n:Nat},(∀i,i<n->t i<=B)->sm t n<=n*B
 |0,_=>by simp[sm]
 |n+1,h=>by
  have:=yQ (n:=n) (t:=t) λi hi=>h i (by omega)
  have:=h n (by omega)
  show sm t n+t n<=_;rw[Nat.add_mul];omega
theorem adu(g:Nat->Nat->Bool) {m:Nat}(hm:m<=12):qU g m<1000000:=by
 have:=yQ (n:=m) (B:=144) (t:=λt=>sm (λo=>sm (λn=>if jC g n o t=L then 1 else 0) o) t) λt ht=>by
  have:=yQ (n:=t) (B:=12) (t:=λo=>sm (λn=>if jC g n o t=L then 1 else 0) o) λo ho=>by
   have:=yQ (n:=o) (B:=1) (t:=λn=>if jC g n o t=L then 1 else 0) λn _=>by split<;>omega
   omega
  have:t*12<=12*12:=V6 _ (by omega)
  omega
 have:m*144<=12*144:=V6 _ hm;unfold qU;omega
theorem aae{g:Nat->Nat->Bool}{m k:Nat}(hg:dZ g) (h1:1<=m) (hm:m<=12) (k1:1<=k) (k4:k<=4):∃n:Nat,n<1000000/\∀c,nR [az (wF m g),.int (k:Int)] c=.ok (.int (n:Int)) c:=by
 obtain⟨s,rfl⟩:∃s,k=s+1:=⟨k-1,by omega⟩
 have h4:∀k,k<=4->(dB m g k).length<=65536:=λk hk=>by
  have:=Jb hg.2 hm k;have:12^k<=12^4:=Nat.pow_le_pow_right (by decide) hk
  omega
 refine⟨(n8 m g (s+1)).length,?_,λc=>aad hg h1 (by omega) (λk hk=>h4 k (by omega)) (by omega) c⟩
 rw[<-I0 hg.2];have:=h4 (s+1) (by omega)
 rw[yy,UZ]at this;have e:(dB m g s).map (λl=>(stp g l).length)=(dB m g s).map List.length:=R4 λl _=>by simp[stp]
 rw[e]at this;omega
section
variable {nm:Str}{t u:aa}{m k:Nat}{g:Nat->Nat->Bool}{P:List D}
def NT:ah:=(aY (aG (ay cE (eK 1 cU (ak 0) (ao (ay fD (ay fD (ay fD (dC (.str "knots ")) (ak 1)) (dC (.str " "))) (aF dU (ao (ak 3) au))) au)) (aF dU (ao (aH 2 nR (ao (ak 2) (ao (ak 3) au))) au)))) (aQ (dC (.bl G))) bA)
theorem nK(a:Str) (c:aa):cE (.str a) (.str a) c=.ok (.bl G) c:=by
 show R.ok (D.bl (!decide (a=a))) c=_;simp
theorem l7:("show ":Str).length<=10/\("threes ":Str).length<=10/\("knots ":Str).length<=10/\("numbers ":Str).length<=10:=by decide +kernel
theorem zT(N:Nm nm) (hg:dZ g) (h1:1<=m) (hm:m<=12) (k1:1<=k) (k4:k<=4):NT [Y (dD t),Y (.str nm),Y (az (wF m g)),Y (.int (k:Int))] (bc t [(nm,az (wF m g))] P u)=.ok (.nx [Y (dD t),Y (.str nm),Y (az (wF m g)),Y (.int (k:Int))]) (bc t [(nm,az (wF m g))] P u):=by
 obtain⟨n,hn,hk⟩:=aae hg h1 hm k1 k4;have hl:=N.ok.2.2.2;have h7:=l7;have hk2:=(qc k (by omega)).2.2.2.1
 refine d9 (eN (bh (iF rfl (bh (bh (bh rfl rfl (kM (by omega) _)) rfl (kM (by rw[uJ,lY];omega) _)) (lO (by omega) rfl) (kM (by rw[uJ,uJ,lY];omega) _)) (ajG N hk hn k1 k4 (ajn (by decide +kernel)))) (lO hn (g5 rfl rfl (hk _))) (nK _ _)))
theorem JI(N:Nm nm) (hg:dZ g) (h1:1<=m) (hm:m<=12):sX [dD t,.str nm,az (wF m g)] (bc t [(nm,az (wF m g))] P u)=.ok (.bl L) (bc t [(nm,az (wF m g))] P u):=by
 have k:=ahf (m:=m) g (by omega)
 have k0:0<(wF m g).length:=by rw[iY];omega
 obtain⟨T,hT⟩:=tw_ev k k0;have hl:=N.ok.2.2.2;have h7:=l7;have hc:=adu g hm;have f4:cy (λ_=>True) (aB 3) NT (aW 1 5) [Y (dD t),Y (.str nm),Y (az (wF m g)),O] (bc t [(nm,az (wF m g))] P u)=.ok (.nx [Y (dD t),Y (.str nm),Y (az (wF m g)),Y (.int ((4:Nat):Int))]) (bc t [(nm,az (wF m g))] P u):=by
  rw[show aW 1 5=[.int ((1:Nat):Int),.int ((2:Nat):Int),.int ((3:Nat):Int),.int ((4:Nat):Int)]from rfl]
  refine qD rfl (zT N hg h1 hm (by omega) (by omega)) (qD rfl (zT N hg h1 hm (by omega) (by omega)) (qD rfl (zT N hg h1 hm (by omega) (by omega)) (qD rfl (zT N hg h1 hm (by omega) (by omega)) ?_)))
  simp
 refine cQ ?_ rfl (λk h=>by cases h)
 show BD [Y (dD t),Y (.str nm),Y (az (wF m g)),O] _=_;refine b8 (d9 (nF (c1:=bc t [(nm,az (wF m g))] P u) ?_ ?_)) (b8 (oB rfl f4) (cM ?_))
 ·exact eN (bh (iF rfl (bh rfl rfl (kM (by omega) _)) (Dt N h1 (by omega) (row2 (by decide +kernel)))) (fh rfl (CO g h1 (by omega) _)) (nK _ _))
 ·exact eN (bh (iF rfl (bh rfl rfl (kM (by omega) _)) (ajJ N (by omega) hc (row2 (by decide +kernel)))) (lO hc (fh rfl (MF g (by omega) _))) (nK _ _))
 ·refine bh (iF rfl (bh rfl rfl (kM (by omega) _)) (ajI N k k0 (λc=>(hT c).1) (row2 (by decide +kernel)))) (fh (fh rfl (Pe k k0 _)) (hT _).2) ?_
  show R.ok (D.bl (decide (T=T))) _=_;simp
end
end Ev
set_option maxHeartbeats 400000
namespace Ev
open PySem L2
def PT(j n:Nat) (t c:aa):Prop:=∃d,c=d++t/\dS j n d
theorem PT.take{j n:Nat}{t c:aa}{eE:Int}(h:PT j n t c) (h0:0<eE) (h1:eE<1073741824):∃x c',0<=x/\x<eE/\PT j n t c'/\d8 [.ref j,.int eE] c=.ok (.int x) c':=by
 obtain⟨d,rfl,hP⟩:=h;obtain⟨v,c',e,x,rfl,q⟩:=mU (t:=t) (Q:=λv c'=>∃x,v=.int x/\0<=x/\x<eE/\PT j n t c') hP h0 h1 λx c' a b p=>⟨x,rfl,a,b,c',rfl,p⟩
 exact⟨x,c',q.1,q.2.1,q.2.2,e⟩
theorem PT.len{j n:Nat}{t c:aa}(h:PT j n t c):c.length=n+t.length:=by
 obtain⟨d,rfl,hP⟩:=h;rw[QT,hP.1]
theorem DU{j n:Nat}{u:aa}{t:ai}{E:Ev}(ht:∀(k:Nat) (c:aa),PT j n u c->∃b c',PT j n u c'/\t (Y (.int (k:Int))::E) c=.ok b c'):∀(ks:List Nat) (v:Option D) (acc:List D) (c:aa),PT j n u c->∃(s:List Nat) (c':aa),s.Sublist ks/\PT j n u c'/\bL (λ_=>True) (aB 0) t (ak 0) (nD ks) (v::E) acc c=.ok (acc++nD s) c'
 |[],v,acc,c,hP=>⟨[],c,.refl _,hP,by simp[nD]⟩
 |k::ks,v,acc,c,hP=>by
  obtain⟨b,c1,P1,h1⟩:=ht k c hP;have hg:aB 0 (.int (k:Int)) (v::E) c=.ok (Y (.int (k:Int))::E) c:=rfl;have hv:ak 0 (Y (.int (k:Int))::E) c1=.ok (.int (k:Int)) c1:=rfl;have en:nD (k::ks)=.int (k:Int)::nD ks:=rfl;cases b with
  |true =>
   obtain⟨s,c',hs,P',h⟩:=DU ht ks (Y (.int (k:Int))) (acc++[.int (k:Int)]) c1 P1;refine⟨k::s,c',hs.cons_cons k,P',?_⟩;rw[en,mH,hg,R.aL,h1,R.aL,if_pos rfl,hv,R.aL,h,RU];rfl
  |false =>
   obtain⟨s,c',hs,P',h⟩:=DU ht ks (Y (.int (k:Int))) acc c1 P1;refine⟨s,c',hs.cons k,P',?_⟩;rw[en,mH,hg,R.aL,h1,R.aL,if_neg (by decide),h]
def spT:ai:=aG (ay iG (aH 2 d8 (ao (ak 2) (ao (dC (.int 6)) au))) (ak 1))
theorem aiR{m j n:Nat}{t c:aa}(hP:PT j n t c) (hm:m<60):∃s c',jy s m/\PT j n t c'/\we [.ref j,.int (m:Int)] c=.ok (.tup (nD s)) c':=by
 have hs:=fH (n:=1000) (by decide)
 obtain⟨x,c1,x0,x1,P1,t1⟩:=hP.take (eE:=5) (by decide) (by decide)
 obtain⟨s,c2,hsub,P2,hc⟩:=DU (t:=spT) (E:=[Y (.int (1+x)),Y (.ref j)]) (λk c hP=>by
  obtain⟨y,c',_,_,P',t⟩:=hP.take (eE:=6) (by decide) (by decide)
  exact⟨_,c',P',by rw[spT,pF,uE (GG rfl rfl t) rfl rfl];rfl⟩) (Ω m) O [] c1 P1
 refine⟨s,c2,⟨U8.sublist hsub,λx hx=>H8.mp (hsub.subset hx)⟩,P2,?_⟩
 have e0:aN 2 (ay bZ (dC (.int 1)) (aH 2 d8 (ao (ak 0) (ao (dC (.int 5)) au)))) [Y (.ref j),Y (.int m),O] c=.ok (.nx [Y (.ref j),Y (.int m),Y (.int (1+x))]) c1:=rZ (uE rfl (GG rfl rfl t1) rfl);rw[Q0,<-lR]at hc;have hcc:=PN (sr:=bQ (ao (ak 1) au)) (pick:=[O,Y 2,Y 0]) (g:=aB 0) (t:=spT) (a:=ak 0) (e:=[Y (.ref j),Y (.int m),Y (.int (1+x))]) (nu (q:=(m:Int)) rfl (by omega)) (by rw[g9];omega) hc
 have hr:aQ (aF gr (ao (bg (bQ (ao (ak 1) au)) [O,Y 2,Y 0] (aB 0) spT (ak 0)) au)) [Y (.ref j),Y (.int m),Y (.int (1+x))] c1=.ok (.rt (.tup (nD s))) c2:=by
  rw[pC,pD];simp only[cT,hcc,cI,R.aL];rfl
 have es:cC 3 [D.ref j,.int m]=[Y (.ref j),Y (.int m),O]:=rfl;have hb:BF=aC (aN 2 (ay bZ (dC (.int 1)) (aH 2 d8 (ao (ak 0) (ao (dC (.int 5)) au))))) (aQ (aF gr (ao (bg (bQ (ao (ak 1) au)) [O,Y 2,Y 0] (aB 0) spT (ak 0)) au))):=rfl;rw[we,iB,es,hb,b9 e0,hr];show cG G c.length (.tup (nD s)) c2=_;unfold cG;dsimp only;rw[if_pos (EE (qe s)),show c.length=c2.length by rw[hP.len,P2.len],RN]
def zp:ah:=(aC (aN 2 (aH 1 sY (ao (aH 2 tu (ao (ak 0) (ao (ak 1) au))) au))) (aC (aN 3 (aH 1 wg (ao (aH 2 tw (ao (ak 2) (ao (dC (.int 10)) au))) au))) (aC (aN 4 qR) (aC (dg (eK 1 cU (ak 4) (ao (ay fD (dC (.str "put one ")) (aH 1 sS (ao (ak 3) au))) au))) (aC (aN 5 (aH 2 we (ao (ak 2) (ao (aF aS (ao (ak 3) au)) au)))) (aC (aY (aG (ay kB (ak 5) (bY au))) (aN 5 (bY (ao (ay fZ (aF aS (ao (ak 3) au)) (dC (.int 1))) au))) bA) (aC (aN 6 (ay fD (dC (.str "turn one ")) (jk (dC (.str " ")) (bg (fy (ak 5)) [O] (aB 0) aT (aF dU (ao (ak 0) au)))))) (aC (aN 7 (aH 1 nQ (ao (aH 2 sU (ao (ak 3) (ao (ak 5) au))) au))) (aC (aY (ee (aG (ay cE (eK 1 cU (ak 4) (ao (ak 6) au)) (dC (.str "ok")))) (ee (aG (ay cE (eK 1 cU (ak 4) (ao (dC (.str "about one")) au)) (dC (.str "ok")))) (cH (aG (aH 3 sX (ao (ak 4) (ao (dC (.str "one")) (ao (ak 7) au)))))))) (aQ (dC (.bl G))) bA) (aC (aN 8 qR) (aC (dg (eK 1 cU (ak 8) (ao (ay fD (dC (.str "put two ")) (eK 1 cU (ak 4) (ao (dC (.str "show one")) au))) au))) (aC (aY (ee (cH (aG (aH 3 sX (ao (ak 8) (ao (dC (.str "two")) (ao (ak 7) au)))))) (aG (ay cE (eK 1 cU (ak 8) (ao (dC (.str "names")) au)) (dC (.str "two"))))) (aQ (dC (.bl G))) bA) (aY (ee (aG (ay cE (eK 1 cU (ak 4) (ao (dC (.str "about one")) au)) (dC (.str "ok")))) (ee (aG (ay cE (eK 1 cU (ak 4) (ao (ak 6) au)) (dC (.str "ok")))) (aG (ay kY (aH 1 vX (ao (eK 1 cU (ak 4) (ao (dC (.str "show one")) au)) au)) (ak 3))))) (aQ (dC (.bl G))) bA)))))))))))))
theorem Z3:xQ=aC (bU (bQ (ao (aF sR (ao (dC (.int 1)) (ao (aF kh (ao (aF aS (ao (ak 0) au)) (ao (dC (.int 6)) au))) au))) au)) (aB 1) zp) (aQ (dC (.bl L))):=rfl
theorem Qs(t:aa) (l l':List (Str×D)) (P P':List D):bc (bc t l P []) l' P' []=bc t l P [.kd l',.lst P']:=by simp[bc]
theorem Pu(e:Ev) (c:aa):qR e c=.ok (dD c) (bc c [] [] []):=rfl
theorem eq_nil(s:List Nat) (c:aa):kB (.tup (nD s)) (.tup []) c=.ok (.bl (decide (s=[]))) c:=by
 have h:∀l:List Nat,fL c (.tup (nD l))=Y (.tuple (l.map λn:Nat=>PyData.int (n:Int))):=λl=>by
  show(match fc (nD l)with|some r=>Y (PyData.tuple r)|none=>O)=_
  rw[uq]
 have d:∀l:List Nat,(PyData.tuple (l.map λn:Nat=>PyData.int (n:Int))).depth<=64:=λl=>by
  have:PyData.depthAll (l.map λn:Nat=>PyData.int (n:Int))<=1:=xq (λa=>by simp[PyData.depth]) l
  simp only[PyData.depth];omega
 have h2:=h [];unfold kB;rw[h,show fL c (.tup [])=Y (.tuple (([]:List Nat).map λn:Nat=>PyData.int (n:Int)))from h2]
 dsimp only;rw[if_pos ⟨d s,d []⟩,PyData.eqv,xm FG]
theorem Mm{t u v:ai}{e:Ev}{c c1 c2 c3:aa}(h1:t e c=.ok G c1) (h2:u e c1=.ok G c2) (h3:v e c2=.ok G c3):ee t (ee u v) e c=.ok G c3:=nF h1 (nF h2 h3)
theorem Jy{m:Nat}(h1:1<=m) (hm:m<=12) (g:Nat->Nat->Bool):(fF m g).length<=1000:=by
 have hj:=wD (s:=" ") (ss:=fE m g);have h:=rX ((fE m g).map λp=>p.length+Str.length " ") 20 (λx hx=>by
  obtain⟨p,hp,rfl⟩:=x6.mp hx;rw[lY]
  rcases l8.mp hp with rfl|hp
  ·have:=(EB m (by omega)).2;omega
  ·obtain⟨i,hi,rfl⟩:=x6.mp hp;rw[RS]at hi;rw[pH];omega)
 rw[x8,uQ h1]at h;unfold fF;omega
theorem ag3{s:List Nat}{m:Nat}(hs:jy s m) (hm:m<=12) (hl:s.length<=50) {e:Ev}{c:aa}(he:e[5]? = Y (Y (.tup (nD s)))):ay fD (dC (.str "turn one ")) (jk (dC (.str " ")) (bg (fy (ak 5)) [O] (aB 0) aT (aF dU (ao (ak 0) au)))) e c=.ok (.str ("turn one "++dM " " (s.map bI))) c:=by
 have sz:=gS;have hv:ak 5 e c=.ok (.tup (nD s)) c:=by
  show(match e[5]? with|some (Y d)=>R.ok d c|_=>.bad)=_
  rw[he]
 have dN:=iI (c:=c) (st:=λ_=>True) (E:=[]) (t:=aT) (a:=aF dU (ao (ak 0) au)) trivial (λk:Nat=>D.int (k:Int)) (λk:Nat=>D.str (bI k)) s O [] (λ_ _=>rfl) (λk hk=>by
  have:=hs.2 k hk;exact lO (by omega) rfl)
 rw[Q0]at dN;have jI:fy (ak 5) e c=.ok ⟨nD s,λ_=>True⟩ c:=by
  unfold fy;rw[hv];rfl
 have hc:bg (fy (ak 5)) [O] (aB 0) aT (aF dU (ao (ak 0) au)) e c=.ok (wL (s.map bI)) c:=by
  rw[iJ (pick:=[O]) jI (by simp[nD];omega) dN]
  unfold wL;rw[P0];rfl
 have hb:=rX ((s.map bI).map λp=>p.length+Str.length " ") 3 (λx hx=>by
  obtain⟨p,hp,rfl⟩:=x6.mp hx;obtain⟨k,hk,rfl⟩:=x6.mp hp;have:=hs.2 k hk;have:=(qc k (by omega)).2.2.2.1
  rw[lY];omega)
 rw[x8,x8]at hb;have hj:=wD (s:=" ") (ss:=s.map bI);have h9:("turn one ":Str).length=9:=by decide +kernel
 exact bh rfl (tU (dO:=dC (.str " ")) (s:=" ") (ss:=s.map bI) rfl hc rfl (by omega)) (kM (by omega) c)
theorem ZV{s:List Nat}{m:Nat}(h:jy s m):s.length<=m:=CW h.1 h.2
theorem akB{ns:List Int}{i:Int}(i0:0<=i) (c:aa) (v2 v3 v4 v5 v6 v7 v8:Option D):∃w2 w3 w4 w5 w6 w7 w8 c',zp [Y (.cD ns),Y (.int i),v2,v3,v4,v5,v6,v7,v8] c=.ok (.nx [Y (.cD ns),Y (.int i),w2,w3,w4,w5,w6,w7,w8]) c':=by
 obtain⟨y,hy⟩:=adx ns i i0 c;obtain⟨p0,hp⟩:=ako y c;have agO:dS c.length (c.length+1) (c++[.lst [.int p0]]):=⟨by simp,by omega,p0,by simp⟩
 obtain⟨m,f,c1,h1,h2,hw,P1,t1⟩:=adZ (most:=10) agO (by decide) (by decide)
 have hm:m<=12:=by omega
 have hr:=ajx f (show m<1000 by omega) c1
 rw[ajw]at hr;have hp1:=Kz (t:=c1) (u:=[]) (x:="put one ") sO hw h1 hm (by decide +kernel)
 have PT0:PT c.length (c.length+1) [.kd [("one",az (wF m f))],.lst [.tup [.str "one",.aE]]] (bc c1 [("one",az (wF m f))] [.tup [.str "one",.aE]] []):=⟨c1,rfl,P1⟩;obtain⟨s0,c2,hs0,P2,t2⟩:=aiR (m:=m) PT0 (by omega)
 obtain⟨d,rfl,hd⟩:=P2;have ed:dD c1=dD d:=by unfold dD;rw[P1.1,hd.1]
 have lm:∀(w:Option D) (vs:List (Option D)) (c:aa),aF aS (ao (ak 3) au) (Y (.cD ns)::Y (.int i)::w::Y (az (wF m f))::vs) c=.ok (.int (m:Int)) c:=λw vs c=>dQ rfl (NI m f c)
 obtain⟨s,hs,hne,hif⟩:∃s,jy s m/\s≠[]/\∀(w a:Option D) (vs:List (Option D)) (c:aa),aY (aG (ay kB (ak 5) (bY au))) (aN 5 (bY (ao (ay fZ (aF aS (ao (ak 3) au)) (dC (.int 1))) au))) bA (Y (.cD ns)::Y (.int i)::w::Y (az (wF m f))::a::Y (.tup (nD s0))::vs) c=.ok (.nx (Y (.cD ns)::Y (.int i)::w::Y (az (wF m f))::a::Y (.tup (nD s))::vs)) c:=by
  by_cases h:s0=[]
  ·refine⟨[m-1],⟨List.pairwise_singleton _ _,λx hx=>by obtain rfl:=RG.mp hx;omega⟩,by simp,λw a vs c=>?_⟩
   refine l9 (c':=c) (eN (bh rfl rfl ((eq_nil s0 c).trans (by rw[decide_eq_true h])))) ?_
   have e1:ay fZ (aF aS (ao (ak 3) au)) (dC (.int 1)) (Y (.cD ns)::Y (.int i)::w::Y (az (wF m f))::a::Y (.tup (nD s0))::vs) c=.ok (.int ((m-1:Nat):Int)) c:=by
    rw[show((m-1:Nat):Int)=(m:Int)-1 by omega]
    exact bh (lm _ _ c) rfl rfl
   have e2:bY (ao (ay fZ (aF aS (ao (ak 3) au)) (dC (.int 1))) au) (Y (.cD ns)::Y (.int i)::w::Y (az (wF m f))::a::Y (.tup (nD s0))::vs) c=.ok (.tup (nD [m-1])) c:=by
    simp only[yt,cT,e1,cI,R.aL];rfl
   exact er e2
  ·exact⟨s0,hs0,h,λw a vs c=>d9 (eN (bh rfl rfl ((eq_nil s0 c).trans (by rw[decide_eq_false h]))))⟩
 have hl:=ZV hs;have agD:("put one ":Str).length=8/\("put two ":Str).length=8:=by decide +kernel
 have wt:=C5 (s:=s) hw;have wa:=QB wt;have e1:iC m (c8 f s)=wF m (c8 f s):=(Jl wt.1 wt.1).mpr λ_ _ _ _=>rfl
 have abt:∀c,sU [az (wF m f),.tup (nD s)] c=.ok (az (wF m (c8 f s))) c:=λc=>by have:=Jz f (show m<60 by omega) hs c;rwa[e1]at this
 have hot:∀c,nQ [az (wF m (c8 f s))] c=.ok (az (wF m (eg (c8 f s)))) c:=λc=>by have:=Ed (w:=wF m (c8 f s)) (by rw[iY];omega) c;rwa[Ml]at this
 have hdk:∀e,qR e c1=.ok (dD d) (bc c1 [] [] []):=λe=>by rw[<-ed];exact Pu e c1
 rw[ed]at hp1;have s1:=Ky (t:=d) (u:=[]) (P:=[.tup [.str "one",.aE]]) hw hm hs hne (by omega) (by simp) rfl
 have s2:=KA (t:=d) (u:=[]) (g:=c8 f s) (P:=[.tup [.str "one",.aE]]++[.tup [.str "one",az (wF m f)]]) hm (by simp)
 generalize hP2:([.tup [.str "one",.aE]]++[.tup [.str "one",az (wF m f)]]++[.tup [.str "one",az (wF m (c8 f s))]]:List D)=P2 at s2
 have Z9:P2.length=3:=by rw[<-hP2];rfl
 have s3:=JI (t:=d) (u:=[]) (P:=P2) sO wa h1 hm
 generalize hc3:bc d [("one",az (wF m (eg (c8 f s))))] P2 []=c3 at s2 s3
 have s4:cU [dD d,.str "show one"] (bc c3 [] [] [])=.ok (.str (fF m (eg (c8 f s)))) (bc c3 [] [] []):=by
  rw[<-hc3,Qs];exact Dt sO h1 (by omega) (by decide +kernel)
 have s5:=Kz (t:=c3) (u:=[]) (x:="put two ") EG wa h1 hm (by decide +kernel)
 generalize hP3:([.tup [.str "two",.aE]]:List D)=P3 at s5
 have s6:=JI (t:=c3) (u:=[]) (P:=P3) EG wa h1 hm;have s7:=ajH (t:=c3) (u:=[]) (P:=P3) (w:=az (wF m (eg (c8 f s)))) EG;have eU:bc c3 [("two",az (wF m (eg (c8 f s))))] P3 []=bc d [("one",az (wF m (eg (c8 f s))))] P2 [.kd [("two",az (wF m (eg (c8 f s))))],.lst P3]:=by rw[<-hc3,Qs]
 generalize hU:([.kd [("two",az (wF m (eg (c8 f s))))],.lst P3]:aa)=U at eU
 have s8:=KA (t:=d) (u:=U) (g:=eg (c8 f s)) (P:=P2) hm (by omega)
 rw[<-eU,aer wt]at s8
 generalize hP4:P2++[.tup [.str "one",az (wF m (eg (c8 f s)))]]=P4 at s8
 have lP4:P4.length=4:=by rw[<-hP4,QT,Z9];rfl
 have s9:=Ky (t:=d) (u:=U) (P:=P4) wt hm hs hne (by omega) (by omega) rfl
 rw[ah8]at s9;have pW:=λP=>Dt (t:=d) (u:=U) (P:=P) (g:=f) (r:="show one") sO h1 (show m<=50 by omega) (by decide +kernel)
 have n2:=Jy h1 hm f;have n3:=Jy h1 hm (eg (c8 f s));refine⟨Y (.ref c.length),Y (az (wF m f)),Y (dD d),Y (.tup (nD s)),Y (.str ("turn one "++dM " " (s.map bI))),Y (az (wF m (eg (c8 f s)))),Y (dD c3),bc d [("one",az (wF m f))] (P4++[.tup [.str "one",az (wF m (c8 f s))]]) U,b8 (rZ (Qj (Qi (x:=.cD ns) (y:=.int i) rfl rfl hy) hp)) (b8 (rZ (Qj (Qi (x:=.ref c.length) rfl rfl t1) hr)) (b8 (rZ (hdk _)) (b8 (kC (iF rfl (bh rfl (fh rfl (CO f h1 (by omega) _)) (kM (by omega) _)) hp1)) ?_)))⟩
 refine b8 (rZ (GG rfl (lm _ _ _) t2)) (b8 (hif _ _ _ _) (b8 (er (ag3 hs hm (by omega) rfl)) (b8 (er (fh (g5 rfl rfl (abt _)) (hot _))) ?_)))
 refine b8 (d9 (Mm (iU (uE (iF rfl rfl s1) rfl (nK _ _))) (iU (uE (iF rfl rfl s2) rfl (nK _ _))) (lU (b:=L) (eN (kJ rfl rfl rfl s3))))) ?_;refine b8 (rZ (Pu _ _)) (b8 (kC (iF rfl (bh rfl (iF rfl rfl s4) (kM (by omega) _)) s5)) ?_)
 refine b8 (d9 (nF (lU (b:=L) (eN (kJ rfl rfl rfl s6))) (eN (bh (iF rfl rfl s7) rfl (nK _ _))))) ?_;exact d9 (Mm (iU (uE (iF rfl rfl s8) rfl (nK _ _))) (iU (uE (iF rfl rfl s9) rfl (nK _ _))) (eN (bh (fh (iF rfl rfl (pW _)) (LG hw h1 hm _)) rfl (ahJ _ _))))
theorem Z2(ns:List Int) (_:ns.length<=63):∃c',wm [.cD ns] []=.ok (.bl L) c':=by
 have hsz:=fH (n:=1000) (by decide)
 generalize hm:(if(if(6:Int)<ns.length then(6:Int)else ns.length)>1 then(if(6:Int)<ns.length then(6:Int)else ns.length)else 1)=m
 have hb:-4611686018427387904<=m/\m<4611686018427387904:=by
  rw[<-hm];split<;>(try split)<;>omega
 obtain⟨e',c',⟨w1,w2,w3,w4,w5,w6,w7,w8,rfl⟩,hf⟩:=O4 (g:=aB 1) (s:=zp)
  (λe=>∃w1 w2 w3 w4 w5 w6 w7 w8,e=[Y (.cD ns),w1,w2,w3,w4,w5,w6,w7,w8]) (aW 0 m) [Y (.cD ns),O,O,O,O,O,O,O,O] [] ⟨_,_,_,_,_,_,_,_,rfl⟩ (λt ht e c ⟨w1,w2,w3,w4,w5,w6,w7,w8,he⟩=>by
   subst he;obtain⟨i,rfl,i0,i1⟩:=jc ht;obtain⟨x2,x3,x4,x5,agE,x7,agF,c',ho⟩:=akB (ns:=ns) i0 c w2 w3 w4 w5 w6 w7 w8;exact⟨_,_,_,c',rfl,ho,⟨_,_,_,_,_,_,_,_,rfl⟩⟩)
 have hsr:(bQ (ao (aF sR (ao (dC (.int 1)) (ao (aF kh (ao (aF aS (ao (ak 0) au)) (ao (dC (.int 6)) au))) au))) au)) [Y (.cD ns),O,O,O,O,O,O,O,O] []=.ok ⟨aW 0 m,λ_=>True⟩ []:=by
  simp;simp only[gt_iff_lt]at hm;rw[hm,if_pos (by omega)]
 have e1:=oB (g:=aB 1) (s:=zp) hsr hf;have es:cC 9 [D.cD ns]=[Y (.cD ns),O,O,O,O,O,O,O,O]:=rfl;have hall:xQ [Y (.cD ns),O,O,O,O,O,O,O,O] []=.ok (.rt (.bl L)) c':=by
  rw[Z3];exact b8 e1 (cM rfl)
 refine⟨[],?_⟩;rw[wm,iB,es,hall];simp[cG,noRef]
open PyProof.Rows
theorem all_mk{l:VA}{w:π}{K:θ}{h:χ}{mg:Str->Option S}{fa:J}{AR AQ AU A4 AY AS AV A5 Aq qF ue Am An ug A2 AZ Ao A0 A1 uf AW Aw AX AN Ay Aj Ah AO A3 Av As Ai Ak Ax Au Ar Al AK AF AA AH wZ AD AJ AG wY wX AM AL AE AB AI Az xg:J}(X:K.In h) (ξ:h.Ns ι mg) (FW:mg "law"=Y (.ref fa))
  (Ih:FA K "is_whole" Li AR)
  (Ig:FA K "is_whole_within" Lh AQ)
  (Ij:FA K "is_place" Lk AU)
  (Iz:FA K "are_rising_places" Lv A4)
  (Io:FA K "is_mutual" Lo AY)
  (Ii:FA K "is_web" Lj AS)
  (Ik:FA K "is_pair" Ll AV)
  (IA:FA K "are_pairs" Lw A5)
  (Hy:FA K "row_where" KP Aq)
  (Hq:FA K "web_where" KH qF)
  (Hr:FA K "web_of" yV ue)
  (Hv:FA K "ties" KL Am)
  (Hw:FA K "tied" KN An)
  (HD:FA K "other_web" yX ug)
  (Iu:FA K "common" Ls A2)
  (Ip:FA K "first_unlike_place" Lp AZ)
  (Hx:FA K "shared_by_all" KO Ao)
  (Iq:FA K "first_unlike_pair" Lq A0)
  (Ir:FA K "evenness" Lr A1)
  (Ht:FA K "turned_at" yW uf)
  (Il:FA K "is_odd" Lm AW)
  (HE:FA K "odd_threes" KW Aw)
  (Im:FA K "is_name" Ln AX)
  (Ic:FA K "later_tied_to" Lf AN)
  (HG:FA K "many_knots" KZ Ay)
  (Ho:FA K "word_of" KG Aj)
  (Hj:FA K "written" KC Ah)
  (Ie:FA K "is_word" Lg AO)
  (Iw:FA K "are_words" Lu A3)
  (HC:FA K "pairs_in" KU Av)
  (HA:FA K "read" KR As)
  (Hl:FA K "words_in" KD Ai)
  (Hs:FA K "web_in" KI Ak)
  (HF:FA K "number_in" KY Ax)
  (HB:FA K "place_in" KS Au)
  (Hz:FA K "rising_in" KQ Ar)
  (Hu:FA K "told_numbers" KJ Al)
  (HY:FA K "_law_cell_at" Lb AK)
  (HP:FA K "_law_pot" K6 AF)
  (HK:FA K "_law_take" K1 AA)
  (HR:FA K "_law_order" K8 AH)
  (HX:FA K "_law_joined" Dy wZ)
  (HM:FA K "_law_scattered" K4 AD)
  (HV:FA K "_law_near" La AJ)
  (HQ:FA K "_law_plain" K7 AG)
  (HW:FA K "_law_moved" Dw wY)
  (HH:FA K "_law_toggled" Dv wX)
  (Ia:FA K "_law_about" Ld AM)
  (HZ:FA K "_law_built" Lc AL)
  (HN:FA K "_law_rows" K5 AE)
  (HL:FA K "_law_some_places" K3 AB)
  (HU:FA K "_law_numbers_text" K9 AI)
  (HJ:FA K "_law_tells" K0 Az)
  (Ib:FA K "law" Le xg)
  {C oE qN mD qK ku qJ qI qM qL:J}(zo:μ K ι "Bench"=Y (Y (.ref C))) (GK:PySem.W.plainGet K C Str.empty=L) (GQ:PySem.W.hasDictIn K C=L) (GJ:PySem.W.plainOver K C=L) (GI:PySem.W.findIn K (.ref C) "__setattr__"=Y (Y (.builtin "object.__setattr__"))) (GO:PySem.W.makesIn K C=L) (GP:PySem.W.keepIn K (.ref C)=L) (GN:PySem.W.findIn K (.ref C) "kept"=Y O) (GL:PySem.W.findIn K (.ref C) "past"=Y O)
  (xV:FM K C "__init__" "Bench.__init__" DM oE)
  (oW:FM K C "keep" "Bench.keep" DK qN)
  (mL:FM K C "do" "Bench.do" DL mD)
  (mK:FM K C "put" "Bench.put" DH qK)
  (oU:FM K C "web" "Bench.web" DE ku)
  (qY:FM K C "turn" "Bench.turn" DG qJ)
  (qX:FM K C "turn_about" "Bench.turn_about" DF qI)
  (oV:FM K C "names" "Bench.names" DJ qM)
  (qZ:FM K C "numbers" "Bench.numbers" DI qL)
  {C2 mC qG qH gH:J}(zm:μ K ι "Desk"=Y (Y (.ref C2))) (Gs:PySem.W.plainGet K C2 Str.empty=L) (Gx:PySem.W.hasDictIn K C2=L) (Gr:PySem.W.plainOver K C2=L) (Gq:PySem.W.findIn K (.ref C2) "__setattr__"=Y (Y (.builtin "object.__setattr__"))) (Gv:PySem.W.makesIn K C2=L) (Gw:PySem.W.keepIn K (.ref C2)=L) (Gu:PySem.W.findIn K (.ref C2) "bench"=Y O)
  (xU:FM K C2 "__init__" "Desk.__init__" DC mC)
  (lD:FM K C2 "obey" "Desk.obey" DA qG)
  (jR:FM K C2 "answer" "Desk.answer" DB qH)
  (lC:FM K C2 "say" "Desk.say" Dz gH)
  {mO:J}{Ph:Array So}{vN:Nat}(yk:μ K ι "MANY_WORDS"=Y (Y (.ref mO))) (CZ:K.lookup mO=Y ⟨.type "dict",O,.dict Ph vN,#[]⟩) (CV:(mO==sysModules)=G) (CS:Ba w Ph.toList kP)
  {oZ:J}{YN:Option J}{vP:Nat}{Fz:Array S}{aiJ:Array (Option S)}(yo:μ K ι "ASKING_ROWS"=Y (Y (.ref oZ))) (C1:K.lookup oZ=Y ⟨.type "tuple",YN,.seq Fz vP,aiJ⟩) (yH:Vals (mS.map V.str) Fz.toList/\Fz.size<=Ξ)
  {oY:J}{YM:Option J}{vO:Nat}{Fy:Array S}{aiK:Array (Option S)}(ym:μ K ι "LONG_ROWS"=Y (Y (.ref oY))) (C0:K.lookup oY=Y ⟨.type "tuple",YM,.seq Fy vO,aiK⟩) (yG:Vals (pG.map V.str) Fy.toList/\Fy.size<=Ξ)
  (Ct:μ K ι "all"=Y O)
  (Cs:μ K ι "any"=Y O)
  (Cr:μ K ι "bool"=Y O)
  (Cq:μ K ι "enumerate"=Y O)
  (Cp:μ K ι "int"=Y O)
  (Co:μ K ι "isinstance"=Y O)
  (Cn:μ K ι "len"=Y O)
  (Cm:μ K ι "list"=Y O)
  (Ck:μ K ι "max"=Y O)
  (Cj:μ K ι "min"=Y O)
  (Ci:μ K ι "range"=Y O)
  (Cg:μ K ι "set"=Y O)
  (Cf:μ K ι "sorted"=Y O)
  (Ce:μ K ι "str"=Y O)
  (Cd:μ K ι "sum"=Y O)
  (Cc:μ K ι "tuple"=Y O)
  {u5:Tok}(Cv:μ K ι "SMALL_LETTERS"=Y (Y (.str "abcdefghijklmnopqrstuvwxyz" u5)))
  {ve:Tok}(CC:μ K ι "APART"=Y (Y (.str "." ve)))
  {u7:Tok}(Cy:μ K ι "MOST_NAMES"=Y (Y (.int 12 u7)))
  {vc:Tok}(CA:μ K ι "GREATEST_WRITTEN"=Y (Y (.int 99 vc)))
  {vd:Tok}(CB:μ K ι "GREATEST_SIZE"=Y (Y (.int 4 vd)))
  {u6:Tok}(Cw:μ K ι "MOST_PLACES"=Y (Y (.int 50 u6)))
  {u9:Tok}(Cz:μ K ι "LONGEST_NAME"=Y (Y (.int 8 u9)))
  {uZ:Tok}(Cu:μ K ι "TIED"=Y (Y (.str "#" uZ)))
  {m8 mY:J}(pN:PySem.W.tabIn K "other_web"=Y (m8,mY)) (rU:PySem.W.codeHdIn K m8 mY=L)
  {m7 mX:J}(pM:PySem.W.tabIn K "turned_at"=Y (m7,mX)) (rT:PySem.W.codeHdIn K m7 mX=L)
  {m5 mW:J}(pL:PySem.W.tabIn K "web_of"=Y (m5,mW)) (rS:PySem.W.codeHdIn K m5 mW=L)
  (m9:vg K=L)
  : ∃fd:Q2,(∀(s:Ψ) (v:S),SH s fd ⟨[v],[]⟩ [("script",v)])/\∀base:χ,K.In base->base.Ns ι mg->cg l.prog w K mg base bV 12 fa fd ["script"] (dH K 1 wm):=by
 let T:Tx w K mg:={
  AR:=bM X ξ Ih,
  AQ:=bM X ξ Ig,
  AU:=bM X ξ Ij,
  A4:=bM X ξ Iz,
  AY:=bM X ξ Io,
  AS:=bM X ξ Ii,
  AV:=bM X ξ Ik,
  A5:=bM X ξ IA,
  Aq:=bM X ξ Hy,
  qF:=bM X ξ Hq,
  ue:=bM X ξ Hr,
  Am:=bM X ξ Hv,
  An:=bM X ξ Hw,
  ug:=bM X ξ HD,
  A2:=bM X ξ Iu,
  AZ:=bM X ξ Ip,
  Ao:=bM X ξ Hx,
  A0:=bM X ξ Iq,
  A1:=bM X ξ Ir,
  uf:=bM X ξ Ht,
  AW:=bM X ξ Il,
  Aw:=bM X ξ HE,
  AX:=bM X ξ Im,
  AN:=bM X ξ Ic,
  Ay:=bM X ξ HG,
  Aj:=bM X ξ Ho,
  Ah:=bM X ξ Hj,
  AO:=bM X ξ Ie,
  A3:=bM X ξ Iw,
  Av:=bM X ξ HC,
  As:=bM X ξ HA,
  Ai:=bM X ξ Hl,
  Ak:=bM X ξ Hs,
  Ax:=bM X ξ HF,
  Au:=bM X ξ HB,
  Ar:=bM X ξ Hz,
  Al:=bM X ξ Hu,
  AK:=bM X ξ HY,
  AF:=bM X ξ HP,
  AA:=bM X ξ HK,
  AH:=bM X ξ HR,
  wZ:=bM X ξ HX,
  AD:=bM X ξ HM,
  AJ:=bM X ξ HV,
  AG:=bM X ξ HQ,
  wY:=bM X ξ HW,
  wX:=bM X ξ HH,
  AM:=bM X ξ Ia,
  AL:=bM X ξ HZ,
  AE:=bM X ξ HN,
  AB:=bM X ξ HL,
  AI:=bM X ξ HU,
  Az:=bM X ξ HJ,
  xg:=bM X ξ Ib,
  C:=C,fC:=⟨zo,⟨GK,GQ,GJ,GI⟩,GN,GL⟩,gB:=RT X ξ zo,
  oE:=jb xV,
  qN:=jb oW,
  mD:=jb mL,
  qK:=jb mK,
  ku:=jb oU,
  qJ:=jb qY,
  qI:=jb qX,
  qM:=jb oV,
  qL:=jb qZ,
  nN:=⟨GO,xV.1.at_,xV.1.fn,GP⟩,
  C2:=C2,fu:=⟨zm,⟨Gs,Gx,Gr,Gq⟩,Gu⟩,gD:=RT X ξ zm,
  mC:=jb xU,
  qG:=jb lD,
  qH:=jb jR,
  gH:=jb lC,
  fS:=⟨Gv,xU.1.at_,xU.1.fn,Gw⟩,
  mO:=mO,F9:=RT X ξ yk,vN:=yk,C9:=⟨CV,_,_,CZ,CS⟩,
  oZ:=oZ,OT:=RT X ξ yo,vP:=yo,LM:=.inr ⟨_,_,_,C1,rfl,rfl,yH.2,yH.1⟩,
  oY:=oY,OP:=RT X ξ ym,vO:=ym,LL:=.inr ⟨_,_,_,C0,rfl,rfl,yG.2,yG.1⟩,
  qi:=RD X ξ Ct,
  Nk:=RD X ξ Cs,
  Nj:=RD X ξ Cr,
  EO:=RD X ξ Cq,
  zG:=RD X ξ Cp,
  kc:=RD X ξ Co,
  cR:=RD X ξ Cn,
  zF:=RD X ξ Cm,
  Ni:=RD X ξ Ck,
  qh:=RD X ξ Cj,
  cz:=RD X ξ Ci,
  EN:=RD X ξ Cg,
  EM:=RD X ξ Cf,
  ie:=RD X ξ Ce,
  Nh:=RD X ξ Cd,
  j9:=RD X ξ Cc,
  u5:=u5,ON:=RT X ξ Cv,
  ve:=ve,Ga:=RT X ξ CC,
  u7:=u7,OO:=RT X ξ Cy,
  vc:=vc,OR:=RT X ξ CA,
  vd:=vd,OS:=RT X ξ CB,
  u6:=u6,F8:=RT X ξ Cw,
  u9:=u9,OQ:=RT X ξ Cz,
  uZ:=uZ,Ad:=RT X ξ Cu,
  m8:=m8,mY:=mY,pN:=pN,rU:=rU,
  m7:=m7,mX:=mX,pM:=pM,rT:=rT,
  m5:=m5,mW:=mW,pL:=pL,rS:=rS,
  m9:=m9}
 exact Z1 T.xg FW λbase=>Yb T
theorem walk{l:VA}{q:ο}{loose:List Str}{XP:(Str->Option S)->χ->Prop}{YP:π->χ->Prop}{d:DefRec}{K:Params->θ}{ts:List (J×J)}(hn:l.most=Y 63) (hdf:d.params.defaults=[])
  (hY:∀(w:π) (h:χ),YP w h->(K w.params).In h/\∀q∈ts,h.get? q.2=Y (PySem.W.tabObj #[]))
  (hK:∀p,(ts.all λq=>PySem.W.codeHdIn (K p) q.1 q.2)=L/\PySem.W.noTabs (K p)=L/\C8 (K p) ts=L)
  (F:∀(w:π) (mg:Str->Option S) (fa:J) (h:χ),(K w.params).In h->h.Ns ι mg->mg d.name=Y (.ref fa) ->
   ∃fd:Q2,(∀(s:Ψ) (u:S),SH s fd ⟨[u],[]⟩ [("script",u)])/\∀base:χ,(K w.params).In base->base.Ns ι mg->cg l.prog w (K w.params) mg base bV 12 fa fd ["script"] (dH (K w.params) 1 wm)) :
  PySem.W.WalkO q loose XP YP l.row.toRowW d [] (λf vs=>PySem.call f vs) :=
 L2.ahh (n:=63) (k:=12) (x:="script") hn (by decide) hdf ⟨rfl,by decide,by decide⟩ hY hK F Z2
end Ev
noncomputable 
def PySem.W.Fast.tw6218352219219456818:Nat:=0
noncomputable def PySem.W.Fast.tw12727167357099962542:Nat:=0
noncomputable def PySem.W.Fast.tw17424627585952451910:Nat:=0
noncomputable def PySem.W.Fast.tw8384679663434139007:Nat:=0
noncomputable def PySem.W.Fast.tw1787777949426993086:Nat:=0
noncomputable def PySem.W.Fast.tw7275487326645273098:Nat:=0
noncomputable def PySem.W.Fast.tw6917069481410757971:Nat:=0
noncomputable def PySem.W.Fast.tw16681219408520108344:Nat:=0
noncomputable def PySem.W.Fast.tw16714394443091387943:Nat:=0
noncomputable def PySem.W.Fast.tw15110744444031624607:Nat:=0
noncomputable def PySem.W.Fast.tw5435117199843957071:Nat:=0
noncomputable def PySem.W.Fast.tw15382015847596338700:Nat:=0
noncomputable def PySem.W.Fast.tw7305215713302314549:Nat:=0
noncomputable def PySem.W.Fast.tw7519027182614120291:Nat:=0
noncomputable def PySem.W.Fast.tw15221957372790808108:Nat:=0
noncomputable def PySem.W.Fast.tw14839403423319706728:Nat:=0
noncomputable def PySem.W.Fast.tw13921072657261204218:Nat:=0
noncomputable def PySem.W.Fast.tw4419542874246036542:Nat:=0
noncomputable def PySem.W.Fast.tw17802278503151630935:Nat:=0
noncomputable def PySem.W.Fast.tw10920940864131644002:Nat:=0
noncomputable def PySem.W.Fast.tw13162813860318248506:Nat:=0
noncomputable def PySem.W.Fast.tw6917621616473354010:Nat:=0
noncomputable def PySem.W.Fast.tw5045793874398429628:Nat:=0
noncomputable def PySem.W.Fast.tw8499322127954876752:Nat:=0
noncomputable def PySem.W.Fast.tw17641044473079781507:Nat:=0
noncomputable def PySem.W.Fast.tw12479596839674368775:Nat:=0
noncomputable def PySem.W.Fast.tw8258273446735992628:Nat:=0
noncomputable def PySem.W.Fast.tw6914965352535983380:Nat:=0
noncomputable def PySem.W.Fast.tw17244262793215480839:Nat:=0
noncomputable def PySem.W.Fast.tw16474875507360521472:Nat:=0
noncomputable def PySem.W.Fast.tw17290813780156479840:Nat:=0
noncomputable def PySem.W.Fast.tw12756937962558152317:Nat:=0
noncomputable def PySem.W.Fast.tw17353008432104730105:Nat:=0
noncomputable def PySem.W.Fast.tw13568549445722101141:Nat:=0
noncomputable def PySem.W.Fast.tw3055206697317845138:Nat:=0
noncomputable def PySem.W.Fast.tw3069422963963893903:Nat:=0
noncomputable def PySem.W.Fast.tw9014788218543395974:Nat:=0
noncomputable def PySem.W.Fast.tw10644247990906366709:Nat:=0
noncomputable def PySem.W.Fast.tw2931286703723594581:Nat:=0
noncomputable def PySem.W.Fast.tw1914411574917362048:Nat:=0
noncomputable def PySem.W.Fast.tw2389704095293761035:Nat:=0
noncomputable def PySem.W.Fast.tw9991177505251894146:Nat:=0
noncomputable def PySem.W.Fast.tw4071473666180071241:Nat:=0
noncomputable def PySem.W.Fast.tw6982588578167345410:Nat:=0
noncomputable def PySem.W.Fast.tw2209580484201356355:Nat:=0
noncomputable def PySem.W.Fast.tw6091464557544946412:Nat:=0
noncomputable def PySem.W.Fast.tw11813170429453092999:Nat:=0
noncomputable def PySem.W.Fast.tw9482126397603261935:Nat:=0
noncomputable def PySem.W.Fast.tw7628582975624936059:Nat:=0
noncomputable def PySem.W.Fast.tw7750715477426106181:Nat:=0
noncomputable def PySem.W.Fast.tw8518463837907755032:Nat:=0
noncomputable def PySem.W.Fast.tw12392810005987549326:Nat:=0
noncomputable def PySem.W.Fast.tw15823327283578571756:Nat:=0
noncomputable def PySem.W.Fast.tw556976209180114553:Nat:=0
noncomputable def PySem.W.Fast.tw5757478311699974925:Nat:=0
noncomputable def PySem.W.Fast.tw6782883429609724191:Nat:=0
noncomputable def PySem.W.Fast.tw11955826952649648692:Nat:=0
noncomputable def PySem.W.Fast.tw16144277130394975268:Nat:=0
noncomputable def PySem.W.Fast.tw15894208729449932005:Nat:=0
noncomputable def PySem.W.Fast.tw9665045206160195656:Nat:=0
noncomputable def PySem.W.Fast.tw2390171665723717175:Nat:=0
noncomputable def PySem.W.Fast.tw2467412346180682248:Nat:=0
noncomputable def PySem.W.Fast.tw15465937145850325247:Nat:=0
noncomputable def PySem.W.Fast.tw12817136361020740829:Nat:=0
noncomputable def PySem.W.Fast.tw15794373557829782687:Nat:=0
noncomputable def PySem.W.Fast.tw1255459846544855390:Nat:=0
noncomputable def PySem.W.Fast.tw1877754560564263222:Nat:=0
noncomputable def PySem.W.Fast.tw17849276511559563439:Nat:=0
noncomputable def PySem.W.Fast.tw15887544144382260944:Nat:=0
noncomputable def PySem.W.Fast.tw2929627345804872451:Nat:=0
noncomputable def PySem.W.Fast.tw12524053243667026654:Nat:=0
noncomputable def PySem.W.Fast.tw11360278189029594179:Nat:=0
noncomputable def PySem.W.Fast.tw3172609418934329242:Nat:=0
noncomputable def PySem.W.Fast.tw18259723022574443717:Nat:=0
noncomputable def PySem.W.Fast.tw6103647866388351577:Nat:=0
noncomputable def PySem.W.Fast.tw1901447238502880051:Nat:=0
noncomputable def PySem.W.Fast.tw1909997577481927012:Nat:=0
noncomputable def PySem.W.Fast.tw5743295059561752361:Nat:=0
noncomputable def PySem.W.Fast.tw12216695839588389427:Nat:=0
noncomputable def PySem.W.Fast.tw11545430468683209130:Nat:=0
noncomputable def PySem.W.Fast.tw9608483924883062010:Nat:=0
noncomputable def PySem.W.Fast.tw1944259090265230350:Nat:=0
noncomputable def PySem.W.Fast.tw6866687791989263453:Nat:=0
noncomputable def PySem.W.Fast.tw15696717190326078590:Nat:=0
noncomputable def PySem.W.Fast.tw5056172368617863124:Nat:=0
noncomputable def PySem.W.Fast.tw953255296986825186:Nat:=0
noncomputable def PySem.W.Fast.tw10189784604384785256:Nat:=0
noncomputable def PySem.W.Fast.tw13105696772747406185:Nat:=0
noncomputable def PySem.W.Fast.tw2529847643410754474:Nat:=0
noncomputable def PySem.W.Fast.tw11867628147028906572:Nat:=0
noncomputable def PySem.W.Fast.tw16385960208106516192:Nat:=0
noncomputable def PySem.W.Fast.tw9229529599242813102:Nat:=0
noncomputable def PySem.W.Fast.tw16913561792880983761:Nat:=0
noncomputable def PySem.W.Fast.tw7330992503051715140:Nat:=0
noncomputable def PySem.W.Fast.tw10177682825093305838:Nat:=0
noncomputable def PySem.W.Fast.tw3706110512534386636:Nat:=0
noncomputable def PySem.W.Fast.tw6902214404351806619:Nat:=0
noncomputable def PySem.W.Fast.tw17944141135026742688:Nat:=0
noncomputable def PySem.W.Fast.tw13627063984413614106:Nat:=0
noncomputable def PySem.W.Fast.tw5560941792770000885:Nat:=0
noncomputable def PySem.W.Fast.tw15530720387498810289:Nat:=0
noncomputable def PySem.W.Fast.tw8903021272973498437:Nat:=0
noncomputable def PySem.W.Fast.tw16296589319319809219:Nat:=0
noncomputable def PySem.W.Fast.tw16027762258466379313:Nat:=0
noncomputable def PySem.W.Fast.tw16167938699540956352:Nat:=0
noncomputable def PySem.W.Fast.tw17214989146883230535:Nat:=0
noncomputable def PySem.W.Fast.tw6633180487516698430:Nat:=0
noncomputable def PySem.W.Fast.tw7754251867691146903:Nat:=0
noncomputable def PySem.W.Fast.tw10149328741855485178:Nat:=0
noncomputable def PySem.W.Fast.tw6896627118149648437:Nat:=0
noncomputable def PySem.W.Fast.tw7254792106726754056:Nat:=0
noncomputable def PySem.W.Fast.tw17334666170361639281:Nat:=0
noncomputable def PySem.W.Fast.tw16900835378098362420:Nat:=0
noncomputable def PySem.W.Fast.tw16238754988308809040:Nat:=0
noncomputable def PySem.W.Fast.tw702666740075846460:Nat:=0
noncomputable def PySem.W.Fast.tw3283573756850977939:Nat:=0
noncomputable def PySem.W.Fast.tw13007834350024000302:Nat:=0
noncomputable def PySem.W.Fast.tw8322447340557176001:Nat:=0
noncomputable def PySem.W.Fast.tw12892355599855351348:Nat:=0
noncomputable def PySem.W.Fast.tw4121586095940585715:Nat:=0
noncomputable def PySem.W.Fast.tw10250834476456702866:Nat:=0
noncomputable def PySem.W.Fast.tw4058477163641779833:Nat:=0
noncomputable def PySem.W.Fast.tw5362043003672473915:Nat:=0
noncomputable def PySem.W.Fast.tw7629027403401824875:Nat:=0
noncomputable def PySem.W.Fast.tw7751486081330031544:Nat:=0
noncomputable def PySem.W.Fast.tw6957656063881671882:Nat:=0
noncomputable def PySem.W.Fast.tw15098107432583297061:Nat:=0
noncomputable def PySem.W.Fast.tw15511941098933573556:Nat:=0
noncomputable def PySem.W.Fast.tw2568303691203821559:Nat:=0
noncomputable def PySem.W.Fast.tw3266726937360330784:Nat:=0
noncomputable def PySem.W.Fast.tw4231219785240888881:Nat:=0
noncomputable def PySem.W.Fast.tw12285160348853393940:Nat:=0
noncomputable def PySem.W.Fast.tw17092538570629806694:Nat:=0
noncomputable def PySem.W.Fast.tw11230481465329650695:Nat:=0
noncomputable def PySem.W.Fast.tw3414504646952570933:Nat:=0
noncomputable def PySem.W.Fast.tw2146875882264774235:Nat:=0
noncomputable def PySem.W.Fast.tw5425609242268852301:Nat:=0
noncomputable def PySem.W.Fast.tw1962006246108889358:Nat:=0
noncomputable def PySem.W.Fast.tw18395148143653790308:Nat:=0
noncomputable def PySem.W.Fast.tw8189953331782950492:Nat:=0
noncomputable def PySem.W.Fast.tw9100962297146532251:Nat:=0
noncomputable def PySem.W.Fast.tw16889965188249500011:Nat:=0
noncomputable def PySem.W.Fast.tw912822388489385286:Nat:=0
noncomputable def PySem.W.Fast.tw12434434046774978997:Nat:=0
noncomputable def PySem.W.Fast.tw936156272787578913:Nat:=0
noncomputable def PySem.W.Fast.tw16493025060044058166:Nat:=0
noncomputable def PySem.W.Fast.tw834584077487518838:Nat:=0
noncomputable def PySem.W.Fast.tw5547044698851616332:Nat:=0
noncomputable def PySem.W.Fast.tw11637728519774808075:Nat:=0
noncomputable def PySem.W.Fast.tw12381318974627685024:Nat:=0
noncomputable def PySem.W.Fast.tw4658370115627971631:Nat:=0
noncomputable def PySem.W.Fast.tw10935796423698335791:Nat:=0
noncomputable def PySem.W.Fast.tw16898501081261800577:Nat:=0
noncomputable def PySem.W.Fast.tw12338329521403186314:Nat:=0
noncomputable def PySem.W.Fast.tw13068631718495068674:Nat:=0
noncomputable def PySem.W.Fast.tw11152660582150527709:Nat:=0
noncomputable def PySem.W.Fast.tw17570032389982725300:Nat:=0
noncomputable def PySem.W.Fast.tw13888455532952988761:Nat:=0
noncomputable def PySem.W.Fast.tw2294237025425518650:Nat:=0
noncomputable def PySem.W.Fast.tw2994488666598462485:Nat:=0
noncomputable def PySem.W.Fast.tw5667784937745491574:Nat:=0
noncomputable def PySem.W.Fast.tw8663954135104702164:Nat:=0
noncomputable def PySem.W.Fast.tw8269828753767846070:Nat:=0
noncomputable def PySem.W.Fast.tw12787106858797214588:Nat:=0
noncomputable def PySem.W.Fast.tw3538108511440032807:Nat:=0
noncomputable def PySem.W.Fast.tw10033744569232626982:Nat:=0
noncomputable def PySem.W.Fast.tw2613819412967385635:Nat:=0
open PySem PySem.W PyProof.Rows
set_option maxRecDepth 100000 in
set_option maxHeartbeats 0 in
theorem PySem.Challenge.cw_evenwebs_k93_whole_a_desk_and_all_holds : PySem.Challenge.rw_evenwebs_k93_whole_a_desk_and_all.Holds := by
  w_on; o_law; k_head; (case hw => w_witness2)
  k_fill
  refine Ev.walk (l := PySem.Challenge.rw_evenwebs_k93_whole_a_desk_and_all) (ts := [(196, 192), (238, 234), (177, 173), (262, 258)]) rfl rfl (fun w h ζ => ⟨PySem.W.km_in_of ζ, TZ.mpr ⟨TY ζ _ (by first | k_mem | decide), TZ.mpr ⟨TY ζ _ (by first | k_mem | decide), TZ.mpr ⟨TY ζ _ (by first | k_mem | decide), TZ.mpr ⟨TY ζ _ (by first | k_mem | decide), fun _ h => nomatch h⟩⟩⟩⟩⟩) (fun p => ⟨by kernel_rfl, by kernel_rfl, by kernel_rfl⟩) ?F
  case F =>
    intro w mg fa h KX ξ hmg
    refine' Ev.all_mk (m8 := 196) (mY := 192) (m7 := 238) (mX := 234) (m5 := 177) (mW := 173) KX ξ hmg ?Ih ?Ig ?Ij ?Iz ?Io ?Ii ?Ik ?IA ?Hy ?Hq ?Hr ?Hv ?Hw ?HD ?Iu ?Ip ?Hx ?Iq ?Ir ?Ht ?Il ?HE ?Im ?Ic ?HG ?Ho ?Hj ?Ie ?Iw ?HC ?HA ?Hl ?Hs ?HF ?HB ?Hz ?Hu ?HY ?HP ?HK ?HR ?HX ?HM ?HV ?HQ ?HW ?HH ?Ia ?HZ ?HN ?HL ?HU ?HJ ?Ib ?zo ?GK ?GQ ?GJ ?GI ?GO ?GP ?GN ?GL ?xV ?oW ?mL ?mK ?oU ?qY ?qX ?oV ?qZ ?zm ?Gs ?Gx ?Gr ?Gq ?Gv ?Gw ?Gu ?xU ?lD ?jR ?lC ?yk ?CZ ?CV ?CS ?yo ?C1 ?yH ?ym ?C0 ?yG ?Ct ?Cs ?Cr ?Cq ?Cp ?Co ?Cn ?Cm ?Ck ?Cj ?Ci ?Cg ?Cf ?Ce ?Cd ?Cc ?Cv ?CC ?Cy ?CA ?CB ?Cw ?Cz ?Cu ?pN ?rU ?pM ?rT ?pL ?rS ?m9
    case Ih | Ig | Ij | Iz | Io | Ii | Ik | IA | Hy | Hq | Hr | Hv | Hw | HD | Iu | Ip | Hx | Iq | Ir | Ht | Il | HE | Im | Ic | HG | Ho | Hj | Ie | Iw | HC | HA | Hl | Hs | HF | HB | Hz | Hu | HY | HP | HK | HR | HX | HM | HV | HQ | HW | HH | Ia | HZ | HN | HL | HU | HJ | Ib =>
      apply L2.FA.mk
      k_is; k_is; k_is; k_is
    case zo|zm=>k_is
    case xV | oW | mL | mK | oU | qY | qX | oV | qZ | xU | lD | jR | lC =>
      apply L2.FM.mk
      k_is; k_is; k_is; k_is; k_is
    case yk|CZ=>k_is
    (case CV => rfl)
    (case CS => exact ⟨⟨rfl, ⟨_, rfl⟩, _, rfl⟩, ⟨⟨rfl, ⟨_, rfl⟩, _, rfl⟩, ⟨⟨rfl, ⟨_, rfl⟩, _, rfl⟩, ⟨⟨rfl, ⟨_, rfl⟩, _, rfl⟩, ⟨⟨rfl, ⟨_, rfl⟩, _, rfl⟩, ⟨⟨rfl, ⟨_, rfl⟩, _, rfl⟩, ⟨⟨rfl, ⟨_, rfl⟩, _, rfl⟩, ⟨⟨rfl, ⟨_, rfl⟩, _, rfl⟩, ⟨⟨rfl, ⟨_, rfl⟩, _, rfl⟩, ⟨⟨rfl, ⟨_, rfl⟩, _, rfl⟩, ⟨⟨rfl, ⟨_, rfl⟩, _, rfl⟩, trivial⟩⟩⟩⟩⟩⟩⟩⟩⟩⟩⟩)
    case yo|C1=>k_is
    (case yH => exact ⟨.cons ⟨_, rfl⟩ (.cons ⟨_, rfl⟩ (.cons ⟨_, rfl⟩ (.cons ⟨_, rfl⟩ (.cons ⟨_, rfl⟩ (.nil))))), by decide⟩)
    case ym|C0=>k_is
    (case yG => exact ⟨.cons ⟨_, rfl⟩ (.cons ⟨_, rfl⟩ (.nil)), by decide⟩)
    case GK|GQ|GJ|GI|GO|GP|GN|GL|Gs|Gx|Gr|Gq|Gv|Gw|Gu|Ct|Cs|Cr|Cq|Cp|Co|Cn|Cm|Ck|Cj|Ci|Cg|Cf|Ce|Cd|Cc|Cv|CC|Cy|CA|CB|Cw|Cz|Cu=>k_is
    (case pN => kernel_rfl)
    (case rU => kernel_rfl)
    (case pM => kernel_rfl)
    (case rT => kernel_rfl)
    (case pL => kernel_rfl)
    (case rS => kernel_rfl)
    (case m9 => kernel_rfl)
