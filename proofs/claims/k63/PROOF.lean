import PyProof.Rows.All
import Wide.All
import OpenK.AllK
import Wide.FinOn
import Lean
import PyProof.EqAt
import PyProof.EqKinds
import PyProof.TupleCall
import PySem.Challenge.RW_evenwebs_k63_orders_counted
import PyProof.SetScanFacts
import PyProof.SetKind
import PyProof.DictKinds
import PyProof.Rows.SetFrom
import PyProof.Walks
import PyProof.DictValues
import PyProof.FactsAll.set_1
import PyProof.DictWalks
import KE.KDictSum
import KE.KSortTup
import PyProof.FactsAll.tuple_2
import PyProof.P3In
import PyProof.EqLayable
import PyProof.SumAny
import PyProof.NoPylong
import PyProof.FitsBits
import PyProof.Rows.SeqMore
import PyProof.DictRoads
import PyProof.Rows.FactsT2
import KE.KRevIter
import PyProof.SetRoads
import PyProof.MeetsSeq2
import PyProof.WalksMore
import PyProof.AutoSeq1
import PyProof.ListRange
import PyProof.Rows.SortShell
import KE.KLam
import PyProof.DictRoadsH
import PyProof.FactsAll.tuple_1
import KE.KUnpack
set_option Elab.async false
set_option linter.all false
set_option maxHeartbeats 4000000
set_option maxRecDepth 100000
set_option bootstrap.genMatcherCode false
set_option genSizeOfSpec false
set_option genSizeOf false
open PySem renaming wpAny_bind→Rc,wpAny_pure→dD,boot_len→OZ,wpAny_mono→Pg,wpAny_holding→Pq,wpAny_call_entry→Q9,wpAny_seqItems→Q8,wpAny_field→QG,wpAny_setState_of→QE,codeAny_mono→QW,mem_of_lookup→QU,sizeLine_eq→Qe,wpAny_isInstance→Qc,wpAny_specialOf→Qa,wpAny_askSetting→Qi,wpAny_rule→Qz,codeAny_builtin→Qs,wpAny_truthy_bool→RJ,wpAny_passesOwn→RI,wpAny_pyIter_list→RH,wpAny_pyIter_tuple→RG,wpAny_call→Ry,call_meets→Rw,wpAny_callSpecial?_slot→Rv,wpAny_of_eq→Rt,wpAny_setField_rec→Rr,wpAny_tupleItemsOf→Ri,wpAny_Call_Name_kw→S5,wpAny_setField→SM,sub_set_self→SG,wpAny_setEntries_of→SE,wpAny_execs_nil→T6,wpAny_standAt→T5,wpAny_newObj_type→Sy,wpAny_onRaise→Sw,wpAny_attempt→Sv,wpAny_storeSet_of→Ss,codeAny_of_tree→Sk,wpAny_forIn_list→Si,isSubtype_tuple_tuple→Sg,isSubtype_type→Sf,concat_meets→U8,noFill_tuple_add→U7,seq_tuple_add→Uc,pushCells_keeps→UW,wpAny_updateSeq_pair→UR,wpAny_pyIter_zip→UQ,wpAny_pyIter_enum→UP,plainId_quiet→UC,weight_type_call_type→Ul,codeAny_call_builtin→Uj,check_set_init_1→Uh,wpAny_runValue→Ug,entryFor_alias→U4,wpAny_setEpoch_of→U0,list_append→Vj,wpAny_comprehension_free→Vh,filterMap_getElem?_range→VY,hashByValue_scannable→VU,wpAny_callSpecialIfBoundUnlessNone?_slot→W0,wpAny_richCompare_same_room→Vz,builtinLookup_eq_fast→Vx
open List renaming mem_range→dg,mem_cons→Bt,getD_eq_getElem?_getD→I8,mem_map→K1,getElem?_eq_getElem→O1,length_map→O2,size_toArray→O3,map_cons→O6,not_mem_nil→O7,getElem?_eq_some_iff→OX,mem_of_getElem?→P8,length_cons→PB,getElem?_map→PK,mem_append→PY,getElem_mem→PX,map_map→PV,mem_singleton→Pa,mem_of_mem_take→Pc,length_append→Pf,nil_append→Pe,lookup_cons→Pj,all_eq_true→Ph,mem_filter→Pw,mem_cons_self→Pu,mem_cons_of_mem→Pr,getElem?_append_left→Pn,map_congr_left→Pk,ext_getElem→Q4,take_length→Q3,pairwise_cons→Q7,range_succ→QC,countP_congr→QB,mem_append_right→QJ,getElem_of_mem→QF,append_nil→QX,nodup_cons→QV,getElem?_append_right→QT,append_assoc→QS,map_append→QO,getElem_inj→Qf,nodup_range→QY,getElem?_eq_none→Qj,countP_map→Qm,getElem?_set_self→R3,mem_iff_getElem→Qy,any_eq_true→Qx,pairwise_iff_getElem→Qw,length_range→Qt,nodup_iff_pairwise_ne→Qp,replicate_succ→RC,foldl_cons→RB,take_append_drop→RT,take_of_length_le→RQ,idxOf_lt_length_iff→RO,length_filter_le→RM,mem_range'_1→RL,getElem?_set_ne→Rz,flatten_cons→Rx,length_nil→Rn,nodup_append→Rh,filter_cons_of_pos→Rg,filter_congr→RZ,range_add→RY,flatMap_append→RW,mem_filterMap→S6,of_mem_zip→S4,length_take→S3,find?_eq_none→SK,pairwise_map→SJ,getElem_range→SA,cons_append→S9,getElem_map→S8,countP_append→S7,filterMap_cons→T7,take_sublist→Sz,getElem_take→TM,mem_erase_of_ne→TL,length_erase_of_mem→TJ,perm_append_singleton→TF,getElem?_set→T8,take_succ_eq_append_getElem→So,foldl_append→Sn,perm_ext_iff_of_nodup→Se,filter_cons_of_neg→Sd,getElem?_take→Sb,range_succ_eq_map→SY,getElem_idxOf→SX,range_eq_range'→SW,countP_eq_length_filter→SV,getElem?_range→SS,length_range'→SR,forIn_cons→UX,getElem?_zip_eq_some→UU,mem_of_mem_drop→UM,length_pos_of_mem→UL,pairwise_lt_range→UI,map_filterMap→UH,zip_cons_cons→UE,mem_of_find?_eq_some→UD,perm_middle→U5,drop_eq_getElem_cons→U3,length_eq_zero_iff→U1,ext_getElem?→Tw,getElem?_mapIdx→Tv,set_append_right→To,take_left→Tn,find?_cons_of_neg→Ti,find?_cons_of_pos→Th,filter_filter→Tg,filter_eq_nil_iff→Tf,flatMap_def→Te,mem_flatMap→Td,mem_append_left→VQ,any_eq_false→Vq,getElem?_replicate→Vn,getElem?_take_of_lt→Vm,find?_some→Vb,zip_append→VX,find?_eq_some_iff_getElem→VW,filter_cons→Vs,getElem?_zipWith→VN,length_zipWith→VM,length_mapIdx→VL,drop_eq_nil_of_le→VJ,reverse_cons→VF,mem_map_of_mem→VE,take_add_one→VC,getElem_set→VB,filter_map→VA,take_append_of_le_length→V9,mem_mapIdx→V7,findIdx?_cons→V6,filter_append→V5,getElem_mapIdx→V3,range'_succ→V0,countP_eq_zero→Uy,countP_mono_left→Ux,countP_cons→Uw
open Nat renaming le_refl→AP,ne_of_lt→O0,lt_of_lt_of_le→O4,zero_add→O9,le_trans→PJ,zero_le→Pd,ne_of_gt→Pp,lt_irrefl→Pz,lt_succ_of_lt→Q0,lt_succ_self→QD,lt_or_ge→Qk,le_of_lt→R4,le_of_eq→R1,testBit_two_pow_sub_one→Qu,mul_le_mul→Qq,le_succ→RA,add_zero→R9,lt_trichotomy→R8,lt_trans→Rp,mod_lt→Rk,sub_self→Rf,succ_mul→SO,lt_of_le_of_lt→SN,le_add_right→TR,add_left_cancel→TQ,two_pow_pos→Sj,not_lt_zero→UN,testBit_or→UK,pow_succ→Ue,pow_le_pow_right→Ud,lt_of_succ_lt→Tt,beq_eq→TZ,le_of_not_lt→Vi,eq_zero_or_pos→Ve,one_shiftLeft→Vd,testBit_shiftLeft→Vc,eq_of_beq_eq_true→W7,lt_or_gt_of_ne→Uz,le_antisymm→VP
open PySem.Heap renaming get?_push_of_some→H8,lt_size→Iv,get?_push_size→O5,size_push→P9,get?_update_other→Qd,get?_update_self→SQ,size_update→Tz
open Option.some renaming inj→P0,injEq→Vy
open Array renaming length_toList→PC,getElem?_toList→Q6,getElem?_eq_getElem→RS,forIn_toList→Rj,toList_setIfInBounds→TH,toList_push→T9,mem_toList_iff→UA,getD_eq_getD_getElem?→UO,toList_filterMap→UG,foldl_toList→Va,getElem?_eq_none→Vw,perm_iff_toList_perm→Vt,toList_append→VG
open Bool renaming and_eq_true→PF,false_ne_true→PM,false_eq_true→Py,eq_iff_iff→QI,or_eq_true→R0,not_false→SI,and_false→UY,or_eq_false_iff→W6,not_eq_true'→Uv
open PySem.F renaming called_set→PD,slot_tuple_hash→QZ,slot_tuple_iterator_next→Sx,slot_zip_next→Su,slot_tuple_eq→Sh,slot_tuple_add→Ub,entry_tuple_add→Ua,args_tuple_add_2→UZ,entry_type_call→Uo,typeCall_set_1→Uk,entry_set_init→Ui,plainAttrs_list→Tr,entry_tuple_iterator_next→Vg,args_tuple_iterator_next_1→Vf,plain_set_new→VT,sub_list_set→VS,sub_list_frozenset→VR,slot_set_iter→Vu,slot_set_and→VI
open PyProof.Rows renaming vals1→Po,boot_tuple→QN,boot_isinstance→QM,callWith_type1→RE,boot_min→RP,get?_update_seq→SD
open PySem.W renaming mg_none_of→Px,kia_one→QH,cellsFrom_some→T4,kitx_dict→U9,mg_of→Tq,kitx_list→Vp,callWith_K→Vo,codeHd_of_K→VH
open Ne renaming symm→Q2
open Classical renaming byContradiction→Q5
open PySem.Heap.SameBut renaming update→Ql
open PySem.Value renaming isInt_shape→RK
open Int renaming toNat_natCast→RD,emod_nonneg→Rb,emod_lt_of_pos→Ra,natCast_mul→RX,zero_add→Sa,emod_eq_of_lt→UJ,toNat_of_nonneg→Tp,le_ediv_iff_mul_le→V8
open Function renaming comp_def→RN
open PySem.Obj renaming data_mapFields→Ru,isFreed_of_fields→UT,cls_mapFields→US
open PySem.Walks renaming list→Rq
open PySem.SetTable renaming insertAt_perm→Ro,toList_insertAt→TN
open PyProof.Rows.F renaming plain_set_update_loop→SH,entry_set_update_loop→Sm
open Option renaming isSome_iff_exists→T3,getD_none→Vl
open PySem.Around renaming under_plainId→Sl,under_plain→Um
open PySem.Code renaming quiet_builtin→UB
open Prod.mk renaming injEq→U6
open PySem.PassesOwn renaming never→Tu
open List.Pairwise renaming filter→Tj,imp_of_mem→Tc,filterMap→VZ
open PySem.Calls renaming Name_function_global→Vr
open PySem.IsL renaming update→Vk
open List.Perm renaming of_eq→VO,length_eq→VD
open Option renaming some→U,none→O
open List renaming range→θ,replicate→ο,Nodup→ω,Pairwise→Uu
open PySem renaming Value→L,Addr→S,Shared→Ψ,sizeLine→Ω,starEach→ε,mainGlobals→ι,Expr→μ,Program→ν,Heap→π,World→τ,Around→χ,SetTable→ψ,Stmt→x6,FuncData→PU,NameKind→PN,backTo→OY,cLine→O8,IsPair→PZ,Scope→P7,IsTupleKey→Qh,keywordEach→R5,Keyword→QL,Arguments→RV,backToKw→R7,attributeBase→TY,IsZip→QA,GenState→S0,PyData→Qn,BindsTo→RU,Draws→Qg,PassesOwn→TU,TriplesOk→TV,Fin→Uq
open Bool renaming true→J,false→Δ
open PySem.W renaming Frag→Ξ,nsIn→υ,OpenLaw→Us
open PySem.Heap renaming SameBut→R6,IsTuple→Ut
open PyProof.Rows renaming IntsAre→QK,AllBare→Qo
open PySem.Shared renaming TypeIs→TX
open PySem.SetTable renaming Probe→Ur
noncomputable section
local macro_rules|`(tactic|omega)=>`(tactic|first|lia|omega (config:={}))
local macro_rules|`(∅)=>`(by omega)
local macro_rules|`(⋯)=>`(by decide)
namespace L2
open PySem PySem.Spec PyProof.Rows
abbrev Key:=Sum Int Str
def LC:Key->L->Bool
 |.inl k,v=>Value.isInt k v
 |.inr x,v=>Value.isStrOf x v
def Yn(w:τ):Key->Int
 |.inl k=>hashInt k
 |.inr x=>hashStr w x
theorem mS:∀{k:Key}{v:L},LC k v=J->(∃i t,k=Sum.inl i/\v=Value.int i t)\/(∃x t,k=Sum.inr x/\v=Value.str x t)
 |.inl i,v,h=>by
  obtain⟨t,e⟩:=RK (v:=v) h;exact .inl ⟨i,t,rfl,e⟩
 |.inr x,v,h=>by
  obtain⟨t,e⟩:=Value.isStrOf_shape (x:=x) (v:=v) h;exact .inr ⟨x,t,rfl,e⟩
theorem Yl(a b:Int):decide ((Sum.inl a:Key)=Sum.inl b)=(a==b):=by
 by_cases e:a=b
 ·subst e;simp
 ·have h:¬(Sum.inl a:Key)=Sum.inl b:=λq=>e (Sum.inl.inj q)
  rw[decide_eq_false h];exact(beq_eq_false_iff_ne.mpr e).symm
theorem Yi(a b:Str):decide ((Sum.inr a:Key)=Sum.inr b)=decide (a=b):=by
 by_cases e:a=b
 ·subst e;simp
 ·have h:¬(Sum.inr a:Key)=Sum.inr b:=λq=>e (Sum.inr.inj q)
  rw[decide_eq_false h,decide_eq_false e]
theorem Yk(a:Int)(b:Str):decide ((Sum.inl a:Key)=Sum.inr b)=Δ:=decide_eq_false (λq=>nomatch q)
theorem Yj(a:Str)(b:Int):decide ((Sum.inr a:Key)=Sum.inl b)=Δ:=decide_eq_false (λq=>nomatch q)
def CW(prog:ν)(w:τ):PySem.KeyKind prog w Key where
 is:=LC
 hash:=Yn w
 inj:=λv a b ha hb=>by
  rcases mS ha with⟨i,t,rfl,rfl⟩|⟨x,t,rfl,rfl⟩
  ·rcases mS hb with⟨j,u,rfl,e⟩|⟨y,u,rfl,e⟩
   ·injection e with e1 _;rw[e1]
   ·exact nomatch e
  ·rcases mS hb with⟨j,u,rfl,e⟩|⟨y,u,rfl,e⟩
   ·exact nomatch e
   ·injection e with e1 _;rw[e1]
 byValue:=λk v h=>by
  rcases mS h with⟨i,t,rfl,rfl⟩|⟨x,t,rfl,rfl⟩<;>rfl
 pyHash:=λhv h=>by
  rcases mS hv with⟨i,t,rfl,rfl⟩|⟨x,t,rfl,rfl⟩
  ·exact wpAny_pyHash_int h
  ·exact wpAny_pyHash_str h
 eqBool:=λhu hv h=>by
  rcases mS hu with⟨i,t,rfl,rfl⟩|⟨x,t,rfl,rfl⟩
  ·rcases mS hv with⟨j,u,rfl,rfl⟩|⟨y,u,rfl,rfl⟩
   ·rw[Yl]at h;exact wpAny_eqBool_int h
   ·rw[Yk]at h;exact SeqAt.EqAt.int_str i t y u _ _ _ _ h
  ·rcases mS hv with⟨j,u,rfl,rfl⟩|⟨y,u,rfl,rfl⟩
   ·rw[Yj]at h;exact SeqAt.EqAt.str_int x t j u _ _ _ _ h
   ·rw[Yi]at h;exact wpAny_eqBool_str h
 «strs»:=λk x t v h=>by
  rcases mS h with⟨i,u,rfl,e⟩|⟨y,u,rfl,e⟩
  ·exact nomatch e
  ·injection e with e1 _
   subst e1;cases v<;>rfl
inductive V where
 |aF|bl (b:Bool)|int (i:Int)|str (x:Str)|iR (b:Array UInt8)|oK (b:UInt64)|ref (a:S)|ty (n:String)
 deriving DecidableEq
def RelV:V->L->Prop
 |.aF,u=>u=Value.none
 |.bl b,u=>u=Value.bool b
 |.int i,u=>∃t,u=Value.int i t
 |.str x,u=>∃t,u=Value.str x t
 |.iR b,u=>∃t,u=Value.bytes b t
 |.oK b,u=>∃t,u=Value.float b t
 |.ref a,u=>u=Value.ref a
 |.ty n,u=>u=Value.type n
abbrev Vals:List V->List L->Prop:=Paired RelV
theorem Vals.length{xs:List V}(r:Vals xs us):xs.length=us.length:=Paired.length r
theorem Vals.get:∀{xs:List V}{us:List L}{i:Nat}{x:V},Vals xs us->xs[i]? = U x->∃u,us[i]? = U u/\RelV x u
 |_,_,_,_,.nil,e=>by simp at e
 |_,_,0,_,.cons r _,e=>by simp at e;subst e;exact⟨_,rfl,r⟩
 |_,_,i+1,x,.cons _ t,e=>by
  obtain⟨u,h1,h2⟩:=Vals.get t (by simpa using e)
  exact⟨u,by simpa using h1,h2⟩
theorem Vals.set(r:RelV x u):∀{xs:List V}{us:List L}(i:Nat),Vals xs us->Vals (xs.set i x) (us.set i u)
 |_,_,_,.nil=>.nil
 |_,_,0,.cons _ t=>.cons r t
 |_,_,i+1,.cons q t=>.cons q (Vals.set r i t)
theorem Vals.append:∀{xs ys:List V}{us ws:List L},Vals xs us->Vals ys ws->Vals (xs++ys) (us++ws)
 |_,_,_,_,.nil,s=>s
 |_,_,_,_,.cons r t,s=>.cons r (Vals.append t s)
theorem Vals.take:∀{xs:List V}{us:List L}(n:Nat),Vals xs us->Vals (xs.take n) (us.take n)
 |_,_,0,_=>.nil
 |_,_,_+1,.nil=>.nil
 |_,_,n+1,.cons r t=>.cons r (Vals.take n t)
theorem Vals.drop:∀{xs:List V}{us:List L}(n:Nat),Vals xs us->Vals (xs.drop n) (us.drop n)
 |_,_,0,r=>r
 |_,_,_+1,.nil=>.nil
 |_,_,n+1,.cons _ t=>Vals.drop n t
def Gf:Option V->Option L->Prop
 |some v,U u=>RelV v u
 |none,O=>True
 |_,_=>False
def KV{κ:Type}:List (κ×V)->List (κ×L)->Prop:=Paired fun(p:κ×V) (q:κ×L)=>p.1=q.1/\RelV p.2 q.2
def kV:Key->V
 |.inl i=>.int i
 |.inr x=>.str x
inductive HO where
 |lst (xs:List V)
 |tup (xs:List V)
 |dK (kvs:List (Key×V))|dT (kvs:List (List Key×V))
 |set (Θ:Int->Bool) (n:Nat)
 |ins (C dx:S) (fs:List (Str×V))
 |own (x:S)
 |xd (fs:List (Str×V))
 |met (f x:S)
 |B0 (lo hi:Int)
 |cI (o:Obj) (u:HO)
 |cG (ps:Array L)
 |ext (φ:π->Prop)
abbrev Hp:=S->Option HO
def upd(H:Hp)(a:S)(o:HO):Hp:=λb=>if b=a then U o else H b
theorem eT:upd H a o a=U o:=by unfold upd;rw[if_pos rfl]
theorem bz(h:b≠a):upd H a o b=H b:=by unfold upd;rw[if_neg h]
theorem Ks{H:Hp}{a b:S}{o u:HO}(h:H a=U o)(h':H b=U u)(d:o≠u):a≠b:=by
 intro e;subst e;rw[h]at h';exact d (P0 h')
theorem dH{H:Hp}{a b:S}{o:HO}(h:H a=U o)(h':H b=O):a≠b:=by
 intro e;subst e;rw[h]at h';cases h'
def nt(h:π)(a:S)(items:Array L):Prop:=∃o,h.get? a=U o/\o.cls=.type "tuple"/\(∃n,o.data=.seq items n)/\o.dict=O
theorem nt.tup{items:Array L}:nt h a items->IsTup h a items:=fun⟨o,e,c,d,_⟩=>⟨o,e,c,d⟩
theorem nt.new(h:π)(items:Array L):nt (h.push {cls:=.type "tuple",data:=.seq items}) h.objs.size items:=⟨_,O5 _ rfl,rfl,⟨_,rfl⟩,rfl⟩
section
variable (P:ν) (w:τ)
def e9(H:Hp)(h:π)(a:S):HO->Prop
 |.lst xs=>xs.length<=Ω/\∃(its:List L) (n:Nat),Vals xs its/\h.get? a=U {cls:=.type "list",data:=.seq its.toArray n}
 |.tup xs=>xs.length<=Ω/\∃its:List L,Vals xs its/\nt h a its.toArray
 |.dK kvs=>kvs.length<=Ω/\(a==sysModules)=Δ/\∃vs,KV kvs vs/\h.DictOf (CW P w) a vs
 |.dT kvs=>kvs.length<=Ω/\(a==sysModules)=Δ/\∃xs:List (List Key×S×L),
   Paired (fun(p:List Key×V) (q:List Key×S×L)=>p.1=q.1/\H q.2.1=U (.tup (p.1.map kV))/\RelV p.2 q.2.2) kvs xs /\
   ∃o es ep,h.get? a=U o/\o.ExactDict/\o.data=.dict es ep/\es.toList=xs.map (entryOfKey (tupleKind (CW P w)))/\(xs.map (·.1)).Nodup
 |.set Θ n=>h.SetOf (intKind P w) a Θ n
 |.ins C dx fs=>H dx=U (.own a)/\fs.length<=1000/\dx≠a/\h.get? a=U (PySem.W.instObj C dx) /\
   ∃mA,h.Ns1 dx mA/\(∀f,Gf (fs.lookup f) (mA f))/\PySem.Within mA (fs.map (·.1))
 |.own _=>∃o,h.get? a=U o
 |.xd fs=>∃mA,h.Ns1 a mA/\∀f,Gf (fs.lookup f) (mA f)
 |.B0 lo hi=>∃t u v,h.get? a=U {cls:=.type "range",data:=.fields #[.int lo t,.int hi u,.int 1 v]}
 |.cI o u=>h.get? a=U o/\e9 H h a u
 |.cG ps=>h.get? a=U {cls:=.none,data:=.fields ps}
 |.met f x=>h.get? a=U (PySem.W.methodObj (.ref f) (.ref x))
 |.ext φ=>φ h/\(∃o,h.get? a=U o)/\∀h1 h2:π,φ h1->(∀o,h1.get? a=U o->h2.get? a=U o)->φ h2
def cW(H:Hp)(h:π):Prop:=∀a o,H a=U o->e9 P w H h a o
end
section
variable {P:ν}{w:τ}{H H':Hp}{h h':π}{a:S}{o:HO}
theorem e9.lt(x:e9 P w H h a o):a<h.objs.size:=by
 cases o with
 |lst xs=>obtain⟨_,_,_,_,e⟩:=x;exact Iv e
 |tup xs=>obtain⟨_,_,_,p⟩:=x;exact p.tup.lt
 |dK kvs=>obtain⟨_,_,_,_,o,_,_,e,_⟩:=x;exact Iv e
 |dT kvs=>obtain⟨_,_,_,_,o,_,_,e,_⟩:=x;exact Iv e
 |set Θ n=>obtain⟨o,_,_,_,e,_⟩:=x;exact Iv e
 |ins C dx fs=>obtain⟨_,_,_,e,_⟩:=x;exact Iv e
 |own y=>obtain⟨_,e⟩:=x;exact Iv e
 |xd fs=>obtain⟨_,⟨_,_,_,e,_⟩,_⟩:=x;exact Iv e
 |B0 lo hi=>obtain⟨_,_,_,e⟩:=x;exact Iv e
 |cI ob u=>obtain⟨e,_⟩:=x;exact Iv e
 |cG ps=>exact Iv (show h.get? a=U _ from x)
 |met f y=>exact Iv (show h.get? a=U _ from x)
 |ext φ=>obtain⟨_,⟨_,e⟩,_⟩:=x;exact Iv e
theorem Paired.K0{α β:Type}{F G:α->β->Prop}:∀{l₁:List α}{l₂:List β},Paired F l₁ l₂->(∀a b,F a b->G a b)->Paired G l₁ l₂
 |_,_,.nil,_=>.nil
 |_,_,.cons r t,f=>.cons (f _ _ r) (Paired.K0 t f)
theorem e9.stay(x:e9 P w H h a o)(k:∀b u,(b=a\/H b=U (.own a))->h.get? b=U u->h'.get? b=U u)
  (ho:∀b,H b=U (.own a)->H' b=U (.own a)) (ht:∀b xs,H b=U (.tup xs)->H' b=U (.tup xs)):e9 P w H' h' a o:=by
 induction o with
 |lst xs=>obtain⟨z,its,n,r,e⟩:=x;exact⟨z,its,n,r,k _ _ (.inl rfl) e⟩
 |tup xs=>obtain⟨z,its,r,ob,e,c⟩:=x;exact⟨z,its,r,ob,k _ _ (.inl rfl) e,c⟩
 |dK kvs=>obtain⟨z,y,vs,r,ob,es,ep,e,c⟩:=x;exact⟨z,y,vs,r,ob,es,ep,k _ _ (.inl rfl) e,c⟩
 |dT kvs =>
  obtain⟨z,y,xs,r,ob,es,ep,e,c⟩:=x;exact⟨z,y,xs,Paired.K0 r λp q z=>⟨z.1,ht _ _ z.2.1,z.2.2⟩,ob,es,ep,k _ _ (.inl rfl) e,c⟩
 |set Θ n=>obtain⟨ob,es,ep,t,e,c⟩:=x;exact⟨ob,es,ep,t,k _ _ (.inl rfl) e,c⟩
 |ins C dx fs =>
  obtain⟨d,z,ne,e,mA,⟨od,es,ep,e2,c⟩,r⟩:=x;exact⟨ho _ d,z,ne,k _ _ (.inl rfl) e,mA,⟨od,es,ep,k _ _ (.inr d) e2,c⟩,r⟩
 |own y=>obtain⟨ob,e⟩:=x;exact⟨ob,k _ _ (.inl rfl) e⟩
 |xd fs=>obtain⟨mA,⟨od,es,ep,e,c⟩,r⟩:=x;exact⟨mA,⟨od,es,ep,k _ _ (.inl rfl) e,c⟩,r⟩
 |B0 lo hi=>obtain⟨t,u,v,e⟩:=x;exact⟨t,u,v,k _ _ (.inl rfl) e⟩
 |cI ob u ih=>obtain⟨e,q⟩:=x;exact⟨k _ _ (.inl rfl) e,ih q⟩
 |cG ps =>
  have e:h.get? a=U {cls:=.none,data:=.fields ps}:=x;exact k a _ (.inl rfl) e
 |met f y =>
  have e:h.get? a=U _:=x;exact k a _ (.inl rfl) e
 |ext φ=>obtain⟨p,⟨o,e⟩,st⟩:=x;exact⟨st _ _ p λo q=>k _ _ (.inl rfl) q,⟨o,k _ _ (.inl rfl) e⟩,st⟩
theorem cW.lt(x:cW P w H h)(e:H a=U o):a<h.objs.size:=(x a o e).lt
theorem cW.fresh(x:cW P w H h)(e:h.objs.size<=a):H a=O:=by
 cases q:H a with
 |none=>rfl
 |some u=>exact absurd (O4 (x.lt q) e) (Pz _)
theorem cW.kept(x:cW P w H h)(k:∀b u,h.get? b=U u->h'.get? b=U u):cW P w H h':=λa o e =>
 (x a o e).stay (λb u _ q=>k b u q) (λ_ q=>q) λ_ _ q=>q
theorem cW.laid(x:cW P w H h)(k:∀b u,h.get? b=U u->h'.get? b=U u)(hp:h.objs.size<=a)(new:e9 P w (upd H a o) h' a o):cW P w (upd H a o) h':=λb u e=>by
 have hn:=x.fresh hp
 by_cases hb:b=a
 ·subst hb;rw[eT]at e;cases e;exact new
 ·rw[bz hb]at e;exact(x b u e).stay (λc v _ q=>k c v q) (λc q=>by rw[bz (dH q hn)];exact q) λc xs q=>by rw[bz (dH q hn)];exact q
end
def Rd(H:Hp)(a:S)(u:HO):Prop:=H a=U u\/∃o,H a=U (.cI o u)
theorem Rd.ok(r:Rd H a u)(x:cW P w H h):e9 P w H h a u:=by
 rcases r with r|⟨o,r⟩
 ·exact x a u r
 ·obtain⟨_,q⟩:=x a _ r;exact q
def wA:Option HO->Prop
 |some (.lst _)=>True
 |some (.dK _)=>True
 |some (.dT _)=>True
 |some (.set _ _)=>True
 |some (.ins _ _ _)=>True
 |some (.ext _)=>True
 |_=>False
section
variable {P:ν}{w:τ}{H:Hp}{h h':π}{x e:S}{o':HO}
theorem cW.write(ok:cW P w H h)(mu:wA (H x))(he:e=x\/H e=U (.own x))(k:∀b u,b≠e->h.get? b=U u->h'.get? b=U u)(sf:∃u,h'.get? e=U u)
  (new:e9 P w (upd H x o') h' x o'):cW P w (upd H x o') h':=λb u q=>by
 have Kc:∀c y,H c=U (.own y)->c≠x:=λc y r z=>by subst z;rw[r]at mu;exact mu
 have akt:∀c xs,H c=U (.tup xs)->c≠x:=λc xs r z=>by subst z;rw[r]at mu;exact mu
 by_cases hb:b=x
 ·subst hb;rw[eT]at q;cases q;exact new
 ·rw[bz hb]at q
  by_cases qa:b=e
  ·have q':H b=U (.own x):=by
    rcases he with z|z
    ·exact absurd (qa.trans z) hb
    ·rw[qa];exact z
   rw[q]at q';cases q';obtain⟨v,hv⟩:=sf;exact⟨v,by rw[qa];exact hv⟩
  ·refine(ok b u q).stay (λc v hc r=>k c v ?_ r) (λc r=>by rw[bz (Kc c b r)];exact r) λc xs r=>by rw[bz (akt c xs r)];exact r
   rcases hc with rfl|hc
   ·exact qa
   ·rintro rfl
    rcases he with z|z
    ·exact Kc c b hc z
    ·rw[hc]at z;cases z;exact hb rfl
end
structure Un (fs ex:List S) (H H':Hp) (h h':π):Prop where
 keep:∀b o,h.get? b=U o->H b=O->b∉fs->b∉ex->h'.get? b=U o
 slot:∀b o,h.get? b=U o->H b=O->b∈fs->b∉ex->∃sl,h'.get? b=U {o with slots:=sl}
 free:∀b o,h.get? b=U o->H b=O->b∉ex->H' b=O
 there:∀b o,h.get? b=U o->b∉ex->∃o',h'.get? b=U o'
 tups:∀b xs,H b=U (.tup xs)->H' b=U (.tup xs)
 jq:∀b o u,H b=U (.cI o u)->H' b=U (.cI o u)
 jE:∀b ps,H b=U (.cG ps)->∃more,H' b=U (.cG (ps++more))
section
variable {fs fs' ex ex':List S}{H H1 H2:Hp}{h h1 h2 h':π}{a x e:S}{o:HO}
theorem Un.any(u:Un fs ex H H1 h h1)(q:h.get? b=U ob)(n:H b=O)(hx:b∉ex):∃sl,h1.get? b=U {ob with slots:=sl}:=by
 by_cases hb:b∈fs
 ·exact u.slot b ob q n hb hx
 ·exact⟨ob.slots,u.keep b ob q n hb hx⟩
theorem Un.kept(k:∀b u,h.get? b=U u->h'.get? b=U u):Un fs ex H H h h' :=
 ⟨λb ob q _ _ _=>k b ob q,λb ob q _ _ _=>⟨ob.slots,k b ob q⟩,λ_ _ _ n _=>n,λb ob q _=>⟨ob,k b ob q⟩,λ_ _ q=>q,λ_ _ _ q=>q,λ_ ps q=>⟨#[],by rw[q];simp⟩⟩
theorem Un.refl:Un fs ex H H h h:=Un.kept λ_ _ q=>q
theorem Un.laid(k:∀b u,h.get? b=U u->h'.get? b=U u)(hp:h.objs.size<=a)(hn:H a=O):Un fs ex H (upd H a o) h h' where
 keep:=λb u q _ _ _=>k b u q
 slot:=λb u q _ _ _=>⟨u.slots,k b u q⟩
 free:=λb u q n _=>by rw[bz (O0 (O4 (Iv q) hp))];exact n
 there:=λb u q _=>⟨u,k b u q⟩
 tups:=λb xs q=>by rw[bz (dH q hn)];exact q
 jq:=λb u xs q=>by rw[bz (dH q hn)];exact q
 jE:=λb ps q=>⟨#[],by rw[bz (dH q hn),q];simp⟩
theorem Un.write(mu:wA (H x))(he:e=x\/H e=U (.own x))(k:∀b u,b≠e->h.get? b=U u->h'.get? b=U u)(sf:∃u,h'.get? e=U u):Un fs ex H (upd H x o) h h':=by
 have hx:∀b,H b=O->b≠x:=λb n z=>by subst z;rw[n]at mu;exact mu
 have hb:∀b,H b=O->b≠e:=λb n z=>by
  subst z
  rcases he with r|r
  ·exact hx b n r
  ·rw[n]at r;cases r
 have hm:∀b u,H b=U u->¬wA (U u)->b≠x:=λb u q nm z=>by subst z;rw[q]at mu;exact nm mu
 refine⟨λb u q n _ _=>k b u (hb b n) q,λb u q n _ _=>⟨u.slots,k b u (hb b n) q⟩,λb u q n _=>by rw[bz (hx b n)];exact n,λb u q _=>?_,
  λb xs q=>by rw[bz (hm b _ q λz=>z)];exact q,λb u xs q=>by rw[bz (hm b _ q λz=>z)];exact q,λb ps q=>⟨#[],by rw[bz (hm b _ q λz=>z),q];simp⟩⟩
 by_cases qa:b=e
 ·subst qa;exact sf
 ·exact⟨u,k b u qa q⟩
end
def xx(h:π)(H:Hp):List S:=(θ h.objs.size).filter λa=>(H a).isSome
def mX(h:π)(H:Hp):π:=PySem.W.hideAll h (xx h H)
theorem ZF(h:π)(H:Hp):(mX h H).objs.size=h.objs.size:=PySem.W.hideAll_size _ _
theorem ZG{h:π}(e:h.get? b=U o)(n:H b=O):(mX h H).get? b=U o :=
 PySem.W.hideAll_get _ e λhm=>by
  have q:(H b).isSome=J:=(Pw.mp hm).2;rw[n]at q;simp at q
theorem ajX(e:(mX h H).get? b=U o):h.get? b=U o/\H b=O:=by
 have e':h.get? b=U o:=PySem.W.of_hideAll (xx h H) e;refine⟨e',?_⟩;cases q:H b with
 |none=>rfl
 |some x =>
  have hm:b∈xx h H:=Pw.mpr ⟨dg.mpr (Iv e'),by simp[q]⟩
  have z:(mX h H).get? b=O:=PySem.W.hideAll_none (xx h H) hm;rw[z]at e;cases e
structure Mod (K:Ξ) (mg:Str->Option L) (base:π):Prop where
 mR:K.In base
 glob:base.Ns ι mg
 blt:∃mb,base.Ns builtinsNs mb/\∀x:Str,x≠"__name__"->mb x=bootBuiltins x
 nolimit:base.NoLimit
 bmod:∃bm ob,mg "__builtins__"=U (.ref bm)/\bm≠builtinsNs/\base.get? bm=U ob/\ob.cls=.type "module"/\ob.dict=U builtinsNs/\ob.data=.plain
structure Cx where
 prog:ν
 w:τ
 K:Ξ
 mg:Str->Option L
 base:π
 A:χ
 N:List Str
 s₀:Ψ
 H₀:Hp
 env:Env
 outer:List Env
 stack:List Env
 ex:List S
 fn:Str->Bool
 calm:Bool
 pn:List (S×Obj)
 xe:L->Ψ->Prop
def frs(l:List Env):List S:=l.filterMap (·.frame)
abbrev Cx.fs(X:Cx):List S:=frs X.outer
def wu(sc:P7)(x:Str):Prop:=sc.names.lookup x=U .local\/sc.names.lookup x=U .cell\/sc.names.lookup x=U .free
def Loc(sc:P7)(x:Str):Prop:=sc.names.lookup x=U .local\/sc.names.lookup x=U .cell
def Look(env:Env)(h:π)(m:Str->Option L)(x:Str)(u:L):Prop :=
 (env.kindOf x=U .local/\m x=U u)\/((env.kindOf x=U .cell\/env.kindOf x=U .free)/\∃c,env.cells.lookup x=U c/\h.IsCell c (U u))
structure Cx.Ok (X:Cx):Prop where
 mod:Mod X.K X.mg X.base
 kind:X.env.scope.kind=.function
 glob:X.env.globals=ι
 blt:X.env.builtins=builtinsNs
 above:X.s₀.heap.objs.size<=X.env.locals
 inj:∀x y c,X.env.cells.lookup x=U c->X.env.cells.lookup y=U c->x=y
 has:∀x,(X.env.kindOf x=U .cell\/X.env.kindOf x=U .free)->∃c,X.env.cells.lookup x=U c
 oU:∀x c,X.fn x=J->X.env.cells.lookup x=U c->X.s₀.heap.objs.size<=c
 hd:X.calm=J->X.A.handled=O
 frames:X.A.frames=U X.stack
 stk:X.stack=X.outer\/(X.stack=X.env::X.outer/\X.env.frame=U X.env.locals)
 vK:∀b∈X.ex,b≠X.env.locals/\∀x c,X.env.cells.lookup x=U c->c≠b
 bs:∀b o,X.base.get? b=U o->X.s₀.heap.get? b=U o/\X.H₀ b=O
 jb:X.base.objs.size<=X.s₀.heap.objs.size
 mD:∀b o,X.base.get? b=U o->b∉X.ex
 sD:∀b∈X.ex,b∉X.fs
 iK:X.s₀.heap.FunFrames X.base X.outer
 lN:∀b∈X.fs,X.H₀ b=O
structure Inv (X:Cx) (pins:List (S×Obj)) (Z:List (Option V)) (H:Hp) (s:Ψ):Prop where
 ok:X.Ok
 os:s.os=X.s₀.os
 bare:Qo s.gens
 base:Un X.fs X.ex X.H₀ H X.s₀.heap s.heap
 loc:∃m,s.heap.Ns X.env.locals m/\∀(i:Nat) (x:Str) (v:V),X.N[i]? = U x->Z[i]? = U (U v)->wu X.env.scope x->∃u,RelV v u/\Look X.env s.heap m x u
 cell:∀x c,X.env.cells.lookup x=U c->∃v,s.heap.IsCell c v
 free:H X.env.locals=O
 jr:∀x c,X.env.cells.lookup x=U c->H c=O
 pin:∀p∈X.pn++pins,s.heap.get? p.1=U p.2/\H p.1=O/\p.1≠X.env.locals/\p.1∉X.fs/\∀v,p.2.data≠.cell v
 hok:cW X.prog X.w H s.heap
 len:Z.length=X.N.length
section
variable {X:Cx}{pins:List (S×Obj)}{Z:List (Option V)}{H H':Hp}{s:Ψ}{h':π}
theorem Cx.Ok.Wh(ok:X.Ok)(e:X.base.get? b=U o):b∉X.fs:=λhb=>by
 have:=(ok.iK.mem hb).1;rw[e]at this;cases this
theorem Inv.bs(I:Inv X pins Z H s):∀b o,X.base.get? b=U o->s.heap.get? b=U o/\H b=O:=λb o e =>
 ⟨I.base.keep b o (I.ok.bs b o e).1 (I.ok.bs b o e).2 (I.ok.Wh e) (I.ok.mD b o e),I.base.free b o (I.ok.bs b o e).1 (I.ok.bs b o e).2 (I.ok.mD b o e)⟩
theorem Inv.bk(I:Inv X pins Z H s):∀b o,X.base.get? b=U o->s.heap.get? b=U o:=λb o e=>(I.bs b o e).1
theorem Inv.mod(I:Inv X pins Z H s):Mod X.K X.mg X.base:=I.ok.mod
theorem Inv.fS(I:Inv X pins Z H s):X.K.In s.heap:=I.ok.mod.mR.keeps I.bk
theorem Inv.lt(I:Inv X pins Z H s):X.env.locals<s.heap.objs.size:=let⟨_,hn,_⟩:=I.loc;hn.lt
theorem Inv.sz(I:Inv X pins Z H s):X.s₀.heap.objs.size<=s.heap.objs.size:=PJ I.ok.above (R4 I.lt)
theorem Inv.CF(I:Inv X pins Z H s)(h:s.heap.objs.size<=a):a∉X.fs:=λhb=>by
 obtain⟨_,o,ho,_⟩:=I.ok.iK.mem hb;exact absurd (O4 (Iv ho) (PJ I.sz h)) (Pz _)
theorem Inv.oR(I:Inv X pins Z H s):∀x c,X.env.cells.lookup x=U c->c≠X.env.locals:=λx c e z=>by
 obtain⟨v,o,ho,hd⟩:=I.cell x c e;obtain⟨m,⟨o',es,ep,ho',hd',_⟩,_⟩:=I.loc;rw[z,ho']at ho;cases ho;rw[hd']at hd;cases hd
theorem Inv.iK(I:Inv X pins Z H s):s.heap.FunFrames X.base X.outer:=by
 have all:∀(l:List Env),(∀b∈frs l,b∈X.fs)->X.s₀.heap.FunFrames X.base l->s.heap.FunFrames X.base l:=by
  intro l
  induction l with
  |nil=>intro _ _;trivial
  |cons env r ih =>
   intro hs hl;obtain⟨hk,⟨ξ,o,hf,hn,ho,hd⟩,hr⟩:=hl;have hL:ξ∈X.fs:=hs ξ (by unfold frs;rw[T7,hf];exact Pu)
   obtain⟨sl,e⟩:=I.base.slot ξ o ho (I.ok.lN ξ hL) hL λz=>I.ok.sD ξ z hL
   exact⟨hk,⟨ξ,_,hf,hn,e,hd⟩,ih (λb hb=>hs b (by unfold frs;rw[T7,hf];exact Pr _ hb)) hr⟩
 exact all X.outer (λ_ hb=>hb) I.ok.iK
theorem Inv.stack(I:Inv X pins Z H s):s.heap.FunFrames X.base X.stack:=by
 rcases I.ok.stk with e|⟨e,hf⟩
 ·rw[e];exact I.iK
 ·rw[e];obtain⟨m,hn,_⟩:=I.loc;refine .cons (by rw[I.ok.kind];decide) hf hn ?_ I.iK
  exact Heap.get?_none_of_le (PJ I.ok.jb I.ok.above)
theorem Inv.o9(I:Inv X pins Z H s):∀b∈frs X.stack,b∈X.env.locals::X.fs:=λb hb=>by
 rcases I.ok.stk with e|⟨e,hf⟩
 ·rw[e]at hb;exact Pr _ hb
 ·rw[e]at hb;unfold frs at hb;rw[T7,hf]at hb;exact hb
theorem Inv.BB(I:Inv X pins Z H s):∀b∈frs X.stack,H b=O:=λb hb=>by
 rcases Bt.mp (I.o9 b hb)with e|hb
 ·rw[e];exact I.free
 ·obtain⟨_,o,ho,_⟩:=I.ok.iK.mem hb;exact I.base.free b o ho (I.ok.lN b hb) λz=>I.ok.sD b z hb
theorem Inv.step{g':Array S0}{d':Drawn}{ch:List S}(I:Inv X pins Z H s)(hch:∀b∈ch,(b∈X.ex\/X.s₀.heap.objs.size<=b)/\b≠X.env.locals/\(∀x c,X.env.cells.lookup x=U c->c≠b)/\∀p∈X.pn++pins,p.1≠b)(keep:∀b o,b≠X.env.locals->b∉X.fs->b∉ch->s.heap.get? b=U o->H b=O->h'.get? b=U o)(slot:∀b o,b≠X.env.locals->b∈X.fs->b∉ch->s.heap.get? b=U o->H b=O->∃sl,h'.get? b=U {o with slots:=sl})(free:∀b o,b∉ch->s.heap.get? b=U o->H b=O->H' b=O)(there:∀b o,b∉ch->s.heap.get? b=U o->∃o',h'.get? b=U o')(tups:∀b xs,H b=U (.tup xs)->H' b=U (.tup xs))(jq:∀b o u,H b=U (.cI o u)->H' b=U (.cI o u))(jE:∀b ps,H b=U (.cG ps)->∃more,H' b=U (.cG (ps++more)))(ns:∀m,s.heap.Ns X.env.locals m->h'.Ns X.env.locals m)(hok:cW X.prog X.w H' h')(hg:Qo g'):
  Inv X pins Z H' {s with heap:=h',gens:=g',drawn:=d',toks:=t'}:=by
 have Ku:∀b o,X.s₀.heap.get? b=U o->b≠X.env.locals:=λb o e=>O0 (O4 (Iv e) I.ok.above)
 have yt:∀b o,X.s₀.heap.get? b=U o->b∉X.ex->b∉ch:=λb o e hx hb=>by
  rcases(hch b hb).1 with z|z
  ·exact hx z
  ·exact absurd (O4 (Iv e) z) (Pz _)
 have cellK:∀x c,X.env.cells.lookup x=U c->∀v,s.heap.IsCell c v->h'.IsCell c v:=λx c e v ⟨o,ho,hd⟩=>by
  have kh:c∉ch:=λz=>(hch c z).2.2.1 x c e rfl
  by_cases hc:c∈X.fs
  ·obtain⟨sl,q⟩:=slot c o (I.oR x c e) hc kh ho (I.jr x c e);exact⟨_,q,hd⟩
  ·exact⟨o,keep c o (I.oR x c e) hc kh ho (I.jr x c e),hd⟩
 refine⟨I.ok,I.os,hg,⟨λb o e n hb hx=>?_,λb o e n hb hx=>?_,λb o e n hx=>?_,λb o e hx=>?_,λb xs e=>tups b xs (I.base.tups b xs e),λb o xs e=>jq b o xs (I.base.jq b o xs e),λb ps e=>?_⟩,?_,λx c e=>?_,?_,λx c e=>?_,λp hp=>?_,hok,I.len⟩
 ·exact keep b o (Ku b o e) hb (yt b o e hx) (I.base.keep b o e n hb hx) (I.base.free b o e n hx)
 ·obtain⟨sl,e1⟩:=I.base.slot b o e n hb hx;obtain⟨agT,e2⟩:=slot b _ (Ku b o e) hb (yt b o e hx) e1 (I.base.free b o e n hx);exact⟨agT,e2⟩
 ·obtain⟨o',e1⟩:=I.base.there b o e hx;exact free b o' (yt b o e hx) e1 (I.base.free b o e n hx)
 ·obtain⟨o',e1⟩:=I.base.there b o e hx;exact there b o' (yt b o e hx) e1
 ·obtain⟨m1,e1⟩:=I.base.jE b ps e;obtain⟨m2,e2⟩:=jE b _ e1;exact⟨m1++m2,by rw[e2,Array.append_assoc]⟩
 ·obtain⟨m,hn,hl⟩:=I.loc;refine⟨m,ns m hn,λi x v e1 e2 e3=>?_⟩
  obtain⟨u,r,l⟩:=hl i x v e1 e2 e3;refine⟨u,r,?_⟩
  rcases l with l|⟨k,c,e,z⟩
  ·exact .inl l
  ·exact .inr ⟨k,c,e,cellK x c e _ z⟩
 ·obtain⟨v,z⟩:=I.cell x c e;exact⟨v,cellK x c e v z⟩
 ·obtain⟨m,⟨o,_,_,ho,_⟩,_⟩:=I.loc;exact free _ o (λz=>(hch _ z).2.1 rfl) ho I.free
 ·obtain⟨v,o,ho,hd⟩:=I.cell x c e;exact free c o (λz=>(hch c z).2.2.1 x c e rfl) ho (I.jr x c e)
 ·obtain⟨e,n,ne,nf,d⟩:=I.pin p hp;have kh:=λz=>(hch p.1 z).2.2.2 p hp rfl
  exact⟨keep p.1 p.2 ne nf kh e n,free p.1 p.2 kh e n,ne,nf,d⟩
theorem Inv.un(I:Inv X pins Z H s)(u:Un X.fs [] H H' s.heap h')(hok:cW X.prog X.w H' h'):Inv X pins Z H' {s with heap:=h',toks:=t'}:=by
 obtain⟨m,⟨o,es,ep,ho,r⟩,_⟩:=id I.loc;obtain⟨sl,hL⟩:=u.any ho I.free (by simp)
 exact I.step (ch:=[]) (λ_ z=>nomatch z) (λb o _ hb _ e n=>u.keep b o e n hb (by simp)) (λb o _ hb _ e n=>u.slot b o e n hb (by simp)) (λb o _ e n=>u.free b o e n (by simp)) (λb o _ e=>u.there b o e (by simp)) u.tups u.jq u.jE (λm' hm=>by
  obtain⟨o',es',Et,ho',r'⟩:=hm;rw[ho]at ho';cases ho';exact⟨_,es',Et,hL,r'⟩) hok I.bare
theorem Inv.call(I:Inv X pins Z H s)(u:Un (frs X.stack) ch H H' s.heap h')(hok:cW X.prog X.w H' h')(hg:Qo g')(hch:∀b∈ch,(b∈X.ex\/X.s₀.heap.objs.size<=b)/\b≠X.env.locals/\(∀x c,X.env.cells.lookup x=U c->c≠b)/\∀p∈X.pn++pins,p.1≠b):
  Inv X pins Z H' {s with heap:=h',gens:=g',drawn:=d',toks:=t'}:=by
 obtain⟨m,⟨o,es,ep,ho,r⟩,_⟩:=id I.loc;obtain⟨sl,hL⟩:=u.any ho I.free λz=>(hch _ z).2.1 rfl
 exact I.step hch (λb o hL hb hc e n=>u.keep b o e n (λz=>(Bt.mp (I.o9 b z)).elim hL hb) hc) (λb o _ _ hc e n=>u.any e n hc) (λb o hc e n=>u.free b o e n hc) (λb o hc e=>u.there b o e hc) u.tups u.jq u.jE (λm' hm=>by
  obtain⟨o',es',Et,ho',r'⟩:=hm;rw[ho]at ho';cases ho';exact⟨_,es',Et,hL,r'⟩) hok hg
theorem Inv.turned(I:Inv X pins Z H s)(k:∀b o,b≠it->s.heap.get? b=U o->h'.get? b=U o)(hn:H it=O)(hL:it≠X.env.locals)(h1:it∈X.ex\/X.s₀.heap.objs.size<=it)(h2:∀x c,X.env.cells.lookup x=U c->c≠it)(h3:∀p∈X.pn++pins,p.1≠it):Inv X pins Z H {s with heap:=h',toks:=t'}:=by
 have Kr:∀b u,H b=U u->b≠it:=λb u e z=>by rw[z,hn]at e;cases e
 refine I.step (g':=s.gens) (d':=s.drawn) (ch:=[it]) (λb hb=>?_) (λb o _ _ hc e _=>k b o (λz=>hc (by simp[z])) e) (λb o _ _ hc e _=>⟨o.slots,k b o (λz=>hc (by simp[z])) e⟩) (λ_ _ _ _ n=>n)
  (λb o hc e=>⟨o,k b o (λz=>hc (by simp[z])) e⟩) (λ_ _ e=>e) (λ_ _ _ e=>e) (λb ps e=>⟨#[],by rw[e];simp⟩) (λm hm=>?_) (λb u e=>?_) I.bare
 ·have e:b=it:=by simpa using hb
  subst e;exact⟨h1,hL,h2,h3⟩
 ·obtain⟨o,es,ep,ho,r⟩:=hm;exact⟨o,es,ep,k _ o (Q2 hL) ho,r⟩
 ·refine(I.hok b u e).stay (λc v hc q=>k c v ?_ q) (λ_ q=>q) λ_ _ q=>q
  rcases hc with z|z
  ·rw[z];exact Kr b u e
  ·exact Kr c _ z
theorem Inv.tok(I:Inv X pins Z H s)(t:Nat):Inv X pins Z H {s with toks:=t}:=I.un (h':=s.heap) (t':=t) Un.refl I.hok
theorem Inv.kept(I:Inv X pins Z H s)(k:∀b u,s.heap.get? b=U u->h'.get? b=U u):Inv X pins Z H {s with heap:=h',toks:=t'}:=I.un (Un.kept k) (I.hok.kept k)
theorem Inv.laid(I:Inv X pins Z H s)(k:∀b u,s.heap.get? b=U u->h'.get? b=U u)(hp:s.heap.objs.size<=a)(new:e9 X.prog X.w (upd H a o) h' a o):
  Inv X pins Z (upd H a o) {s with heap:=h',toks:=t'}:=I.un (Un.laid k hp (I.hok.fresh hp)) (I.hok.laid k hp new)
theorem Inv.write(I:Inv X pins Z H s)(mu:wA (H x))(he:e=x\/H e=U (.own x))(k:∀b u,b≠e->s.heap.get? b=U u->h'.get? b=U u)(sf:∃u,h'.get? e=U u)(new:e9 X.prog X.w (upd H x o) h' x o):Inv X pins Z (upd H x o) {s with heap:=h',toks:=t'}:=I.un (Un.write mu he k sf) (I.hok.write mu he k sf new)
theorem Inv.xY(I:Inv X pins Z H s)(h:∀p∈Cc,s.heap.get? p.1=U p.2/\H p.1=O/\p.1≠X.env.locals/\p.1∉X.fs/\∀v,p.2.data≠.cell v):Inv X Cc Z H s :=
 ⟨I.ok,I.os,I.bare,I.base,I.loc,I.cell,I.free,I.jr,λp hp=>(PY.mp hp).elim (λz=>I.pin p (VQ _ z)) (h p),I.hok,I.len⟩
theorem Kf{N:List Str}(hN:N.Nodup){i j:Nat}(a:N[i]? = U x)(b:N[j]? = U x):i=j:=by
 obtain⟨h1,e1⟩:=OX.mp a;obtain⟨h2,e2⟩:=OX.mp b;exact(Qf hN).mp (e1.trans e2.symm)
theorem HG{E:L->Ψ->Prop}{Q:Unit->Ψ->Prop}(I:Inv X pins Z H s)(hN:X.N.Nodup)(hi:X.N[i]? = U x)(hx:Loc X.env.scope x)(r:RelV v u)(h:∀s',Inv X pins (Z.set i (U v)) H s'->(∃a,R6 a s.heap s'.heap/\(a=X.env.locals\/X.env.cells.lookup x=U a))->Q () s')(hf:X.fn x=J\/X.env.scope.names.lookup x=U .local:=by first|exact .inl rfl|exact .inr rfl|assumption):wpAny M A (storeName X.env x u) Q E s:=by
 obtain⟨m,hn,hl⟩:=id I.loc;have hcls:(X.env.scope.kind == .class||(X.env.scope.kind == .module&&X.env.locals != X.env.globals))=Δ:=by rw[I.ok.kind];rfl
 have Mu:i<Z.length:=by rw[I.len];exact(OX.mp hi).1
 have oR:=I.oR;have tracked:∀{a:S}{h':π},(∃o,s.heap.get? a=U o/\H a=O)->R6 a s.heap h'->cW X.prog X.w H h':=fun{a h'} ha hs b ob e=>by
  obtain⟨_,_,hfree⟩:=ha;refine(I.hok b ob e).stay (λc w' hc q=>(hs.2 c ?_).trans q) (λ_ q=>q) λ_ _ q=>q
  rintro rfl
  rcases hc with rfl|hc
  ·rw[hfree]at e;cases e
  ·rw[hfree]at hc;cases hc
 rcases hx with hk|hk
 ·refine wpAny_storeName_local hk hn (λh' hn' hs=>?_) hcls
  obtain⟨oL,_,_,p9,_⟩:=id hn;refine h _ ⟨I.ok,I.os,I.bare,⟨λb o e n hb hx=>?_,λb o e n hb hx=>?_,I.base.free,λb o e hx=>?_,I.base.tups,I.base.jq,I.base.jE⟩,⟨_,hn',λj y v' e1 e2 e3=>?_⟩,λy c e=>?_,I.free,I.jr,λp hp=>?_,tracked ⟨oL,p9,I.free⟩ hs,by simpa using I.len⟩ ⟨_,hs,.inl rfl⟩
  ·exact(hs.2 b (O0 (O4 (Iv e) I.ok.above))).trans (I.base.keep b o e n hb hx)
  ·obtain⟨sl,e1⟩:=I.base.slot b o e n hb hx;exact⟨sl,(hs.2 b (O0 (O4 (Iv e) I.ok.above))).trans e1⟩
  ·obtain⟨o',e1⟩:=I.base.there b o e hx;exact⟨o',(hs.2 b (O0 (O4 (Iv e) I.ok.above))).trans e1⟩
  ·by_cases hj:j=i
   ·subst hj;rw[hi]at e1;cases e1;rw[R3 Mu]at e2;cases e2;exact⟨u,r,.inl ⟨hk,by simp⟩⟩
   ·rw[Rz (Q2 hj)]at e2;obtain⟨u',r',q⟩:=hl j y v' e1 e2 e3;refine⟨u',r',?_⟩
    rcases q with⟨k,e⟩|⟨k,c,e,z⟩
    ·refine .inl ⟨k,?_⟩;have:y≠x:=λe=>hj (Kf hN e1 (e▸hi))
     simp[this,e]
    ·exact .inr ⟨k,c,e,z.sameBut hs (oR y c e)⟩
  ·obtain⟨w',z⟩:=I.cell y c e;exact⟨w',z.sameBut hs (oR y c e)⟩
  ·obtain⟨e,n,ne,nf,d⟩:=I.pin p hp;exact⟨(hs.2 p.1 ne).trans e,n,ne,nf,d⟩
 ·have hfn:X.fn x=J:=by
   rcases hf with z|z
   ·exact z
   ·rw[z]at hk;cases hk
  obtain⟨c,hc⟩:=I.ok.has x (.inl hk);obtain⟨w',z⟩:=I.cell x c hc;refine wpAny_storeName_cell I.ok.kind hk hc z (λh' hc' hs=>?_)
  obtain⟨oc,hoc,Zq⟩:=id z;refine h {s with heap:=h'} ⟨I.ok,I.os,I.bare,⟨λb o e n hb hx=>?_,λb o e n hb hx=>?_,I.base.free,λb o e hx=>?_,I.base.tups,I.base.jq,I.base.jE⟩,⟨m,hn.sameBut hs (Q2 (oR x c hc)),λj y v' e1 e2 e3=>?_⟩,λy c' e=>?_,I.free,I.jr,λp hp=>?_,tracked ⟨oc,hoc,I.jr x c hc⟩ hs,by simpa using I.len⟩ ⟨c,hs,.inr hc⟩
  ·exact(hs.2 b (O0 (O4 (Iv e) (I.ok.oU x c hfn hc)))).trans (I.base.keep b o e n hb hx)
  ·obtain⟨sl,e1⟩:=I.base.slot b o e n hb hx;exact⟨sl,(hs.2 b (O0 (O4 (Iv e) (I.ok.oU x c hfn hc)))).trans e1⟩
  ·obtain⟨o',e1⟩:=I.base.there b o e hx;exact⟨o',(hs.2 b (O0 (O4 (Iv e) (I.ok.oU x c hfn hc)))).trans e1⟩
  ·by_cases hj:j=i
   ·subst hj;rw[hi]at e1;cases e1;rw[R3 Mu]at e2;cases e2;exact⟨u,r,.inr ⟨.inl hk,c,hc,hc'⟩⟩
   ·rw[Rz (Q2 hj)]at e2;obtain⟨u',r',q⟩:=hl j y v' e1 e2 e3;refine⟨u',r',?_⟩
    rcases q with q|⟨k,c',e,z'⟩
    ·exact .inl q
    ·refine .inr ⟨k,c',e,z'.sameBut hs ?_⟩
     rintro rfl
     exact hj (Kf hN e1 (I.ok.inj _ _ _ e hc▸hi))
  ·by_cases hcc:c'=c
   ·subst hcc;exact⟨_,hc'⟩
   ·obtain⟨w2,z2⟩:=I.cell y c' e;exact⟨w2,z2.sameBut hs hcc⟩
  ·obtain⟨e,n,ne,nf,d⟩:=I.pin p hp;refine⟨(hs.2 p.1 ?_).trans e,n,ne,nf,d⟩;intro q;rw[q,hoc]at e;have q':oc=p.2:=P0 e;exact d w' (by rw[<-q'];exact Zq)
theorem HH{E:L->Ψ->Prop}{Q:Unit->Ψ->Prop}(I:Inv X pins Z H s)(hN:X.N.Nodup)(hi:X.N[i]? = U x)(hx:Loc X.env.scope x)(r:RelV v u)(h:∀s',Inv X pins (Z.set i (U v)) H s'->Q () s')(hf:X.fn x=J\/X.env.scope.names.lookup x=U .local:=by first|exact .inl rfl|exact .inr rfl|assumption):wpAny M A (storeName X.env x u) Q E s :=
 HG I hN hi hx r (λs' I' _=>h s' I') hf
theorem Inv.EN{s':Ψ}(I:Inv X pins Z H s)(ho:s'.os=s.os)(u:Un (frs X.stack) ch H H' s.heap s'.heap)(hok:cW X.prog X.w H' s'.heap)(hg:Qo s'.gens)(hch:∀b∈ch,(b∈X.ex\/X.s₀.heap.objs.size<=b)/\b≠X.env.locals/\(∀x c,X.env.cells.lookup x=U c->c≠b)/\∀p∈X.pn++pins,p.1≠b):Inv X pins Z H' s':=by
 obtain⟨h',g',d',t',o'⟩:=s';have e:o'=s.os:=ho;subst e;exact I.call (g':=g') (t':=t') (d':=d') u hok hg hch
end
abbrev XK:=L->Option S->Hp->Prop
abbrev St:=List (Option V)
abbrev VK:=V->Hp->Prop
abbrev TE:=St->Hp->VK->Prop
abbrev TT:=St->Hp->(Bool->Hp->Prop)->Prop
abbrev TA:=St->Hp->(List V->Hp->Prop)->Prop
structure Ends where
 nx:St->Hp->Prop
 rt:VK
 bk:St->Hp->Prop:=λ_ _=>False
 ct:St->Hp->Prop:=λ_ _=>False
abbrev TS:=Ends->St->Hp->Prop
def EP(X:Cx)(pins:List (S×Obj))(Z:St)(Q:VK)(u:L)(s':Ψ):Prop:=∃v H',Inv X pins Z H' s'/\RelV v u/\Q v H'
def TP(X:Cx)(pins:List (S×Obj))(Z:St)(Q:Bool->Hp->Prop)(b:Bool)(s':Ψ):Prop:=∃H',Inv X pins Z H' s'/\Q b H'
def afa(X:Cx)(pins:List (S×Obj))(Z:St)(Q:List V->Hp->Prop)(us:List L)(s':Ψ):Prop:=∃vs H',Inv X pins Z H' s'/\Vals vs us/\Q vs H'
def SP(X:Cx)(pins:List (S×Obj))(D:Ends)(f:Flow)(s':Ψ):Prop :=
 match f with
 |.next=>∃σ' H',Inv X pins σ' H' s'/\D.nx σ' H'
 |.brk=>∃σ' H',Inv X pins σ' H' s'/\D.bk σ' H'
 |.cont=>∃σ' H',Inv X pins σ' H' s'/\D.ct σ' H'
 |.ret u=>∃v σ' H',Inv X pins σ' H' s'/\RelV v u/\D.rt v H'
def PE(X:Cx)(e:μ)(t:TE):Prop :=
 ∀(pins:List (S×Obj)) (s:Ψ) (Z:St) (H:Hp) (Q:VK),Inv X pins Z H s->t Z H Q->wpAny (model X.prog X.w) X.A (eval e X.env) (EP X pins Z Q) X.xe s
def PT(X:Cx)(e:μ)(t:TT):Prop :=
 ∀(pins:List (S×Obj)) (s:Ψ) (Z:St) (H:Hp) (Q:Bool->Hp->Prop),Inv X pins Z H s->t Z H Q->wpAny (model X.prog X.w) X.A (isTrue e X.env (eval e X.env)) (TP X pins Z Q) X.xe s
def PW(X:Cx)(e:μ)(t:TT):Prop :=
 ∀(whole:Sem L) (pins:List (S×Obj)) (s:Ψ) (Z:St) (H:Hp) (Q:Bool->Hp->Prop),Inv X pins Z H s->t Z H Q->wpAny (model X.prog X.w) X.A (isTrue e X.env whole) (TP X pins Z Q) X.xe s
theorem PW.pt(h:PW X e t):PT X e t:=h _
def PA(X:Cx)(es:List μ)(t:TA):Prop :=
 ∀(pos:Pos) (pins:List (S×Obj)) (s:Ψ) (Z:St) (H:Hp) (Q:List V->Hp->Prop),Inv X pins Z H s->t Z H Q->wpAny (model X.prog X.w) X.A (spliced (OY pos (ε es X.env))) (afa X pins Z Q) X.xe s
def PS(X:Cx)(st:x6)(t:TS):Prop :=
 ∀(pins:List (S×Obj)) (s:Ψ) (Z:St) (H:Hp) (D:Ends),Inv X pins Z H s->t D Z H->wpAny (model X.prog X.w) X.A (exec st X.env) (SP X pins D) X.xe s
def gI(X:Cx)(st:List x6)(t:TS):Prop :=
 ∀(pins:List (S×Obj)) (s:Ψ) (Z:St) (H:Hp) (D:Ends),Inv X pins Z H s->t D Z H->wpAny (model X.prog X.w) X.A (execs st X.env) (SP X pins D) X.xe s
theorem bx{α:Type}{t:Sem α}{Q Q':α->Ψ->Prop}{M:Model}{E:L->Ψ->Prop}{s:Ψ}(h:wpAny M A t Q E s)(hQ:∀a s,Q a s->Q' a s):wpAny M A t Q' E s:=Pg h hQ λ_ _ x=>x
section
variable {X:Cx}
def qQ(i:Nat):TE:=λZ H Q=>∃v,Z[i]? = U (U v)/\Q v H
def tC(v:V):TE:=λ_ H Q=>Q v H
theorem Cg{pos:Pos}(hN:X.N[i]? = U x)(hv:wu X.env.scope x)(hd:(x==("__debug__":Str))=Δ:=by decide)(hcd:(x==("__classdict__":Str))=Δ:=by decide):PE X (.Name x pos) (qQ i):=by
 intro pins s Z H Q I h;obtain⟨v,e,h⟩:=h;obtain⟨m,hn,hl⟩:=I.loc;obtain⟨u,r,l⟩:=hl i x v hN e hv;have fin:EP X pins Z Q u s:=⟨v,H,I,r,h⟩
 rcases l with⟨hk,hm⟩|⟨hk,c,hc,hcell⟩
 ·exact wpAny_Name (wpAny_loadName_local I.ok.kind hk hn hm fin) hd
 ·rcases hk with hk|hk
  ·exact wpAny_Name (wpAny_loadName_cell I.ok.kind hk hc hcell fin) hd
  ·exact wpAny_Name (wpAny_loadName_free I.ok.kind hk hc hcell fin hcd) hd
theorem abR{i j pos}:PE X (.Constant (.int i) j pos) (tC (.int i)):=λ_ _ _ H _ I h=>wpAny_Constant_int ⟨.int i,H,I.tok _,⟨_,rfl⟩,h⟩
theorem aiX{b j pos}:PE X (.Constant (.bool b) j pos) (tC (.bl b)):=λ_ _ _ H _ I h=>Constant_bool ⟨.bl b,H,I,rfl,h⟩
theorem ac8{j pos}:PE X (.Constant .none j pos) (tC .aF):=λ_ _ _ H _ I h=>Constant_none ⟨.aF,H,I,rfl,h⟩
theorem ai3{x j pos}:PE X (.Constant (.str x) j pos) (tC (.str x)):=λ_ _ _ H _ I h=>Calls.Constant_str ⟨.str x,H,I.tok _,⟨_,rfl⟩,h⟩
def Gl(X:Cx)(x:Str):Prop:=X.env.kindOf x=U .globalImplicit
theorem C9{E:L->Ψ->Prop}{pos:Pos}{Q:L->Ψ->Prop}(I:Inv X pins Z H s)(hg:Gl X x)(hm:X.mg x=U u)(h:Q u s)(hd:(x==("__debug__":Str))=Δ:=by decide):wpAny (model X.prog X.w) X.A (eval (.Name x pos) X.env) Q E s :=
 Vr I.ok.kind hg (Calls.loadGlobal_global (by rw[I.ok.glob];exact I.mod.glob.keeps I.bk) hm h) hd
theorem mQ{E:L->Ψ->Prop}{pos:Pos}{Q:L->Ψ->Prop}(I:Inv X pins Z H s)(hg:Gl X x)(hm:X.mg x=O)(hv:bootBuiltins x=U u)(h:Q u s)(hn:x≠"__name__":=by decide)(hd:(x==("__debug__":Str))=Δ:=by decide):wpAny (model X.prog X.w) X.A (eval (.Name x pos) X.env) Q E s:=by
 obtain⟨mb,h1,h2⟩:=I.mod.blt;exact Vr I.ok.kind hg (Calls.loadGlobal_builtin (by rw[I.ok.glob];exact I.mod.glob.keeps I.bk) hm (by rw[I.ok.blt];exact h1.keeps I.bk) ((h2 x hn).trans hv) h) hd
theorem akz{pos:Pos}(hg:Gl X x)(hm:X.mg x=U u)(r:RelV v u)(hd:(x==("__debug__":Str))=Δ:=by decide):PE X (.Name x pos) (tC v) :=
 λ_ _ _ H _ I h=>C9 I hg hm ⟨v,H,I,r,h⟩ hd
theorem aiY{pos:Pos}(hg:Gl X x)(hm:X.mg x=O)(hv:bootBuiltins x=U u)(r:RelV v u)(hn:x≠"__name__":=by decide)(hd:(x==("__debug__":Str))=Δ:=by decide):PE X (.Name x pos) (tC v) :=
 λ_ _ _ H _ I h=>mQ I hg hm hv ⟨v,H,I,r,h⟩ hn hd
variable {a b:μ}{ta tb:TE}{pos:Pos}
def tB(t:TE):TT:=λZ H Q=>t Z H λx H1=>∃c,x=.bl c/\Q c H1
theorem ajo(h:PE X e t)(he:∀whole,isTrue e X.env whole=(do let v <-whole;standAt e.pos;holding [v] (truthy v)):=by intro _;rfl):PT X e (tB t):=by
 intro pins s Z H Q I hw;refine isTrue_plain (bx (h pins s Z H _ I hw) λv s1 ⟨x,H1,I1,r1,q1⟩=>?_) (he _)
 obtain⟨d,rfl,q⟩:=q1;cases r1;exact RJ ⟨H1,I1,q⟩
variable {tA xH:TT}{rest:List μ}
def af4(t u:TT):TT:=λZ H Q=>t Z H λc H1=>if c=J then u Z H1 Q else Q Δ H1
def agj(t u:TT):TT:=λZ H Q=>t Z H λc H1=>if c=J then Q J H1 else u Z H1 Q
def agh(t:TT):TT:=λZ H Q=>t Z H λc H1=>Q (!c) H1
theorem ajs(ha:PT X a tA):PW X (.BoolOp .And [a] pos) tA:=by
 intro wh pins s Z H Q I h;refine isTrue_and (bx (ha pins s Z H Q I h) λc s1 e=>?_)
 cases c with
 |true=>exact isTrue_and_nil e
 |false=>exact e
theorem aju(ha:PT X a tA):PW X (.BoolOp .Or [a] pos) tA:=by
 intro wh pins s Z H Q I h;refine isTrue_or (bx (ha pins s Z H Q I h) λc s1 e=>?_)
 cases c with
 |false=>exact isTrue_or_nil e
 |true=>exact e
theorem ajr(ha:PT X a tA)(hb:PW X (.BoolOp .And (b::rest) pos) xH):PW X (.BoolOp .And (a::b::rest) pos) (af4 tA xH):=by
 intro wh pins s Z H Q I h;refine isTrue_and (bx (ha pins s Z H _ I h) λc s1 ⟨H1,I1,q1⟩=>?_)
 cases c with
 |true=>exact hb wh pins s1 Z H1 Q I1 q1
 |false=>exact⟨H1,I1,q1⟩
theorem ajt(ha:PT X a tA)(hb:PW X (.BoolOp .Or (b::rest) pos) xH):PW X (.BoolOp .Or (a::b::rest) pos) (agj tA xH):=by
 intro wh pins s Z H Q I h;refine isTrue_or (bx (ha pins s Z H _ I h) λc s1 ⟨H1,I1,q1⟩=>?_)
 cases c with
 |true=>exact⟨H1,I1,q1⟩
 |false=>exact hb wh pins s1 Z H1 Q I1 q1
theorem ajm(ha:PT X a tA):PT X (.UnaryOp .Not a pos) (agh tA):=by
 intro pins s Z H Q I h;exact isTrue_not (ha pins s Z H (λc H1=>Q (!c) H1) I h)
def af5(ta tb:TE):TE:=λZ H Q=>ta Z H λx H1=>∃c,x=.bl c/\if c=J then tb Z H1 Q else Q (.bl Δ) H1
def agi(ta:TE):TE:=λZ H Q=>ta Z H λx H1=>∃c,x=.bl c/\Q (.bl (!c)) H1
theorem ai1{op}(h:PE X a t):PE X (.BoolOp op [a] pos) t:=λpins s Z H Q I hw=>BoolOp_one (h pins s Z H Q I hw)
theorem aiW(ha:PE X a ta)(hb:PE X (.BoolOp .And (b::rest) pos) tb):PE X (.BoolOp .And (a::b::rest) pos) (af5 ta tb):=by
 intro pins s Z H Q I h;refine BoolOp_and (bx (ha pins s Z H _ I h) λv s1 ⟨x,H1,I1,r1,q1⟩=>?_)
 obtain⟨c,rfl,q1⟩:=q1;cases r1;refine RJ ?_;cases c with
 |true=>exact hb pins s1 Z H1 Q I1 q1
 |false=>exact⟨.bl Δ,H1,I1,rfl,q1⟩
theorem ai0(ha:PE X a ta):PE X (.UnaryOp .Not a pos) (agi ta):=by
 intro pins s Z H Q I h;refine UnaryOp_ (bx (ha pins s Z H _ I h) λv s1 ⟨x,H1,I1,r1,q1⟩=>?_)
 obtain⟨c,rfl,q1⟩:=q1;cases r1;exact not_of (RJ ⟨.bl (!c),H1,I1,rfl,q1⟩)
def af3(t:TT)(ta tb:TE):TE:=λZ H Q=>t Z H λc H1=>if c=J then ta Z H1 Q else tb Z H1 Q
theorem abE(hc:PT X c tA)(ha:PE X a ta)(hb:PE X b tb):PE X (.IfExp c a b pos) (af3 tA ta tb):=by
 intro pins s Z H Q I h;refine wpAny_IfExp (bx (hc pins s Z H _ I h) λd s1 ⟨H1,I1,q1⟩=>?_)
 cases d with
 |true=>exact ha pins s1 Z H1 Q I1 q1
 |false=>exact hb pins s1 Z H1 Q I1 q1
end
def bf(K:Ξ)(H:Hp)(a:S)(xs:List V):Prop :=
 Rd H a (.lst xs) \/
  ∃(o:Obj) (its:Array L) (n:Nat),K.lookup a=U o/\o.cls=.type "list"/\o.dict=O/\o.data=.seq its n/\its.size<=Ω/\Vals xs its.toList
def bO(K:Ξ)(H:Hp)(a:S)(xs:List V):Prop :=
 Rd H a (.tup xs) \/
  ∃(o:Obj) (its:Array L) (n:Nat),K.lookup a=U o/\o.cls=.type "tuple"/\o.data=.seq its n/\its.size<=Ω/\Vals xs its.toList
def acX:L->Option V
 |.none=>U .aF
 |.bool b=>U (.bl b)
 |.int i _=>U (.int i)
 |.str x _=>U (.str x)
 |.bytes b _=>U (.iR b)
 |.float b _=>U (.oK b)
 |.ref a=>U (.ref a)
 |.type n=>U (.ty n)
 |_=>O
theorem RelV.abs(r:RelV x u):acX u=U x:=by
 cases x with
 |aF=>cases r;rfl
 |bl _=>cases r;rfl
 |int _=>obtain⟨t,rfl⟩:=r;rfl
 |str _=>obtain⟨t,rfl⟩:=r;rfl
 |iR _=>obtain⟨t,rfl⟩:=r;rfl
 |oK _=>obtain⟨t,rfl⟩:=r;rfl
 |ref _=>cases r;rfl
 |ty _=>cases r;rfl
theorem RelV.inj(r:RelV x u)(q:RelV y u):x=y:=P0 (r.abs.symm.trans q.abs)
theorem Vals.inj:∀{xs ys:List V}{us:List L},Vals xs us->Vals ys us->xs=ys
 |_,_,_,.nil,.nil=>rfl
 |_,_,_,.cons r t,.cons r' t'=>by rw[r.inj r',Vals.inj t t']
section
variable {X:Cx}{pins:List (S×Obj)}{Z:St}{H:Hp}{s:Ψ}{a:S}{xs ys:List V}
theorem bf.of{K:Ξ}(h:H a=U (.lst xs)):bf K H a xs:=.inl (.inl h)
theorem bO.of{K:Ξ}(h:H a=U (.tup xs)):bO K H a xs:=.inl (.inl h)
theorem Inv.list(I:Inv X pins Z H s)(h:bf X.K H a xs):∃its:List L,Vals xs its/\PlainL s.heap a its.toArray/\xs.length<=Ω:=by
 rcases h with h|⟨o,its,n,hk,hc,hd,hs,hz,r⟩
 ·obtain⟨z,its,n,r,e⟩:=h.ok I.hok;exact⟨its,r,⟨_,n,e,rfl,rfl,rfl⟩,z⟩
 ·refine⟨its.toList,r,⟨o,n,I.fS a o hk,hc,hd,by simpa using hs⟩,?_⟩
  have e:=r.length;simp only[PC]at e;omega
theorem Inv.tuple(I:Inv X pins Z H s)(h:bO X.K H a xs):∃its:List L,Vals xs its/\IsTup s.heap a its.toArray/\xs.length<=Ω:=by
 rcases h with h|⟨o,its,n,hk,hc,hs,hz,r⟩
 ·obtain⟨z,its,r,p⟩:=h.ok I.hok;exact⟨its,r,p.tup,z⟩
 ·refine⟨its.toList,r,⟨o,I.fS a o hk,hc,n,by simpa using hs⟩,?_⟩
  have e:=r.length;simp only[PC]at e;omega
theorem Inv.Lh(I:Inv X pins Z H s)(h:bf X.K H a xs)(h':bf X.K H a ys):xs=ys:=by
 obtain⟨its,r,⟨o,n,e,_,_,d⟩,_⟩:=I.list h;obtain⟨its',r',⟨o',n',e',_,_,d'⟩,_⟩:=I.list h';rw[e]at e';cases e';rw[d]at d'
 injection d' with d1 _
 have:its=its':=by simpa using congrArg Array.toList d1
 subst this;exact r.inj r'
theorem Inv.G5(I:Inv X pins Z H s)(h:bO X.K H a xs)(h':bO X.K H a ys):xs=ys:=by
 obtain⟨its,r,⟨o,e,_,n,d⟩,_⟩:=I.tuple h;obtain⟨its',r',⟨o',e',_,n',d'⟩,_⟩:=I.tuple h';rw[e]at e';cases e';rw[d]at d'
 injection d' with d1 _
 have:its=its':=by simpa using congrArg Array.toList d1
 subst this;exact r.inj r'
end
abbrev Cx.kX(X:Cx)(E:L->Ψ->Prop):Cx:={X with xe:=E}
abbrev Cx.lD(X:Cx):Cx:=X.kX λ_ _=>False
theorem Cx.Ok.kX{X:Cx}(ok:X.Ok)(E:L->Ψ->Prop):(X.kX E).Ok :=
 ⟨ok.mod,ok.kind,ok.glob,ok.blt,ok.above,ok.inj,ok.has,ok.oU,ok.hd,ok.frames,ok.stk,ok.vK,ok.bs,ok.jb,ok.mD,ok.sD,ok.iK,ok.lN⟩
theorem Cx.Ok.nF{X:Cx}{E:L->Ψ->Prop}(ok:(X.kX E).Ok):X.Ok :=
 ⟨ok.mod,ok.kind,ok.glob,ok.blt,ok.above,ok.inj,ok.has,ok.oU,ok.hd,ok.frames,ok.stk,ok.vK,ok.bs,ok.jb,ok.mD,ok.sD,ok.iK,ok.lN⟩
section
variable {X:Cx}{pins:List (S×Obj)}{Z:St}{H:Hp}{s:Ψ}{E:L->Ψ->Prop}
theorem Inv.kX(I:Inv X pins Z H s)(E:L->Ψ->Prop):Inv (X.kX E) pins Z H s:=⟨I.ok.kX E,I.os,I.bare,I.base,I.loc,I.cell,I.free,I.jr,I.pin,I.hok,I.len⟩
theorem Inv.nF(I:Inv (X.kX E) pins Z H s):Inv X pins Z H s:=⟨I.ok.nF,I.os,I.bare,I.base,I.loc,I.cell,I.free,I.jr,I.pin,I.hok,I.len⟩
theorem SP.nF{D:Ends}(h:SP (X.kX E) pins D f s'):SP X pins D f s':=by
 cases f with
 |next=>obtain⟨σ',H',I,q⟩:=h;exact⟨σ',H',I.nF,q⟩
 |brk=>obtain⟨σ',H',I,q⟩:=h;exact⟨σ',H',I.nF,q⟩
 |cont=>obtain⟨σ',H',I,q⟩:=h;exact⟨σ',H',I.nF,q⟩
 |ret u=>obtain⟨v,σ',H',I,r,q⟩:=h;exact⟨v,σ',H',I.nF,r,q⟩
theorem gI.lD{st:List x6}(h:gI X.lD st t):gI X st t:=λpins s Z H D I hw =>
 Pg (h pins s Z H D (I.kX _) hw) (λ_ _ q=>q.nF) λ_ _ z=>False.elim z
end
section
variable {X:Cx}{st:x6}{rest:List x6}{t u:TS}{e:μ}{te:TE}{pos:Pos}
def agv:TS:=λD Z H=>D.nx Z H
def agm(t u:TS):TS:=λD Z H=>t {D with nx:=u D} Z H
theorem ajk:gI X [] agv:=λ_ _ Z H _ I h=>T6 ⟨Z,H,I,h⟩
theorem B7(h1:PS X st t)(h2:gI X rest u):gI X (st::rest) (agm t u):=by
 intro pins s Z H D I h;refine wpAny_execs_cons (bx (h1 pins s Z H {D with nx:=u D} I h) λf s1 q=>?_)
 cases f with
 |next =>
  obtain⟨σ',H',I',q⟩:=q;exact h2 pins s1 σ' H' D I' q
 |ret v=>exact q
 |brk=>exact q
 |cont=>exact q
theorem Jp(h1:PS X st t):gI X [st] t:=by
 intro pins s Z H D I h;refine wpAny_execs_cons (bx (h1 pins s Z H D I h) λf s1 q=>?_)
 cases f with
 |next=>exact T6 q
 |ret v=>exact q
 |brk=>exact q
 |cont=>exact q
theorem Inv.quiet(I:Inv X pins Z H s):interactive X.env=Δ:=by simp[interactive,I.ok.kind]
def af1(te:TE):TS:=λD Z H=>te Z H λ_ H1=>D.nx Z H1
theorem ah7(he:PE X e te)(hs:swapsWith e O pos.line X.env=pure Δ:=by rfl):PS X (.Expr e pos) (af1 te):=by
 intro pins s Z H D I h;exact wpAny_Expr_any (bx (he pins s Z H _ I h) λv s1 ⟨x,H1,I1,r1,q1⟩=>⟨Z,H1,I1,q1⟩) I.quiet hs
def agl(te:TE):TS:=λD Z H=>te Z H D.rt
theorem ajh(he:PE X e te):PS X (.Return (U e) pos) (agl te):=by
 intro pins s Z H D I h;exact wpAny_Return_some (bx (he pins s Z H _ I h) λv s1 ⟨x,H1,I1,r1,q1⟩=>⟨x,Z,H1,I1,r1,q1⟩)
def afY(c:TT)(t u:TS):TS:=λD Z H=>c Z H λb H1=>if b=J then t D Z H1 else u D Z H1
theorem ajg(hc:PT X c tc)(ha:gI X a t)(hb:gI X b u):PS X (.If c a b pos) (afY tc t u):=by
 intro pins s Z H D I h;refine wpAny_If (bx (hc pins s Z H _ I h) λd s1 ⟨H1,I1,q1⟩=>?_)
 cases d with
 |true=>exact ha pins s1 Z H1 D I1 q1
 |false=>exact hb pins s1 Z H1 D I1 q1
end
abbrev TG:=V->St->Hp->(St->Hp->Prop)->Prop
abbrev kR:=List V->St->Hp->(St->Hp->Prop)->Prop
def PG(X:Cx)(target:μ)(t:TG):Prop :=
 ∀(pins:List (S×Obj)) (s:Ψ) (Z:St) (H:Hp) (v:V) (u:L) (Q:St->Hp->Prop),Inv X pins Z H s->RelV v u->t v Z H Q ->
  wpAny (model X.prog X.w) X.A (assign target X.env u) (λ_ s'=>∃σ' H',Inv X pins σ' H' s'/\Q σ' H') X.xe s
def nv(X:Cx)(ts:List μ)(t:kR):Prop :=
 ∀(pins:List (S×Obj)) (s:Ψ) (Z:St) (H:Hp) (vs:List V) (us:List L) (Q:St->Hp->Prop),Inv X pins Z H s->Vals vs us->t vs Z H Q ->
  wpAny (model X.prog X.w) X.A (assignInOrder ((assignEach ts X.env).map (·.2)) us) (λ_ s'=>∃σ' H',Inv X pins σ' H' s'/\Q σ' H') X.xe s
abbrev Ge:=V->V->V->Hp->(Hp->Prop)->Prop
def ON(X:Cx)(t:Ge):Prop :=
 ∀(pins:List (S×Obj)) (s:Ψ) (Z:St) (H:Hp) (o i v:V) (ov iv u:L) (Q:Hp->Prop),Inv X pins Z H s->RelV o ov->RelV i iv->RelV v u->t o i v H Q ->
  wpAny (model X.prog X.w) X.A (setItem ov iv u) (λ_ s'=>∃H',Inv X pins Z H' s'/\Q H') X.xe s
section
variable {X:Cx}{pos:Pos}
def vn(i:Nat):TG:=λv Z H Q=>Q (Z.set i (U v)) H
theorem Cf(hN:X.N.Nodup)(hi:X.N[i]? = U x)(hx:Loc X.env.scope x)(hf:X.fn x=J\/X.env.scope.names.lookup x=U .local:=by first|exact .inl rfl|exact .inr rfl|assumption):PG X (.Name x pos) (vn i):=by
 intro pins s Z H v u Q I r h;exact wpAny_assign_Name (HH I hN hi hx r (λs' I'=>⟨_,H,I',h⟩) hf)
def MV:kR:=λvs Z H Q=>vs=[]/\Q Z H
def Ec(t:TG)(u:kR):kR:=λvs Z H Q=>∃v r,vs=v::r/\t v Z H λσ' H'=>u r σ' H' Q
theorem Jx:nv X [] MV:=by
 intro pins s Z H vs us Q I r h;obtain⟨e,h⟩:=h;subst e;cases r;exact assignInOrder_nil ⟨Z,H,I,h⟩
theorem Ce(h1:PG X e t)(h2:nv X es u)(hs:(assignEach (e::es) X.env).map (·.2)=assign e X.env::(assignEach es X.env).map (·.2):=by rfl):nv X (e::es) (Ec t u):=by
 intro pins s Z H vs us Q I r h;obtain⟨v,vr,e1,h⟩:=h;subst e1;cases r with
 |cons r rr =>
  rw[hs];refine assignInOrder_cons (bx (h1 pins s Z H _ _ _ I r h) λ_ s1 ⟨σ1,H1,I1,q1⟩=>?_)
  exact h2 pins s1 σ1 H1 _ _ Q I1 rr q1
def MU(K:Ξ)(n:Nat)(t:kR):TG:=λv Z H Q=>∃a xs,v=.ref a/\bO K H a xs/\xs.length=n/\t xs Z H Q
theorem Jy(hc:X.calm=J)(h:nv X es t)(hn:(assignEach es X.env).length=n:=by rfl)(hst:(assignEach es X.env).findIdx? (·.1)=O:=by rfl):PG X (.Tuple es k pos) (MU X.K n t):=by
 intro pins s Z H v u Q I r hw;obtain⟨a,xs,e1,hq,hl,hw⟩:=hw;subst e1;cases r;obtain⟨its,rv,ht,hz⟩:=I.tuple hq;refine assign_Tuple_tuple (I.ok.hd hc) ht (by simp[hn,<-hl,rv.length]) hst λh' hx=>?_
 have I1:Inv X pins Z H {s with heap:=h'}:=I.kept (t':=s.toks) λb o e=>hx b o (O0 (Iv e)) e
 exact h pins _ Z H xs _ Q I1 (by simpa using rv) hw
def aat(to ti:TE)(t:Ge):TG:=λv Z H Q=>to Z H λo H1=>ti Z H1 λi H2=>t o i v H2 λH3=>Q Z H3
theorem ai7(ho:PE X o to)(hi:PE X i ti)(hs:ON X t)(ha:∀v,assign (.Subscript o i pos) X.env v=(do
   let ov <-holding [v] (eval o X.env)
   let iv <-holding [v,ov] (eval i X.env)
   standAt pos
   holding [v,ov,iv] (setItem ov iv v)
   release [v,ov,iv] []):=by intro _;rfl):PG X (.Subscript o i pos) (aat to ti t):=by
 intro pins s Z H v u Q I r h;rw[ha];refine Rc (Pq (bx (ho pins s Z H _ I h) λov s1 ⟨x,H1,I1,r1,q1⟩=>?_))
 refine Rc (Pq (bx (hi pins s1 Z H1 _ I1 q1) λiv s2 ⟨y,H2,I2,r2,q2⟩=>?_))
 refine Rc (T5 (Rc (Pq (bx (hs pins s2 Z H2 x y v ov iv u _ I2 r1 r2 r q2) λ_ s3 ⟨H3,I3,q3⟩=>?_))))
 exact wpAny_release ⟨Z,H3,I3,q3⟩
def BA(te:TE)(g:TG):TS:=λD Z H=>te Z H λx H1=>g x Z H1 D.nx
theorem ah5(he:PE X e te)(hg:PG X tg g)(hs:swapsWithSole [tg] e pos.line X.env=pure Δ:=by rfl)(hw:swappedStores [tg] e X.env=pure O:=by rfl)(h1:(assignEach [tg] X.env).map (·.2)=[assign tg X.env]:=by rfl):PS X (.Assign [tg] e pos) (BA te g):=by
 intro pins s Z H D I h;refine wpAny_Assign_stores (bx (he pins s Z H _ I h) λv s1 ⟨x,H1,I1,r1,q1⟩=>?_) hs hw
 rw[h1];exact bx (hg pins s1 Z H1 x v _ I1 r1 q1) λ_ s2 q=>q
theorem Jq{pos':Pos}(hN:X.N.Nodup)(hi:X.N[i]? = U x)(hx:Loc X.env.scope x)(he:PE X e te)(hs:swapsWith e (U (.Name x pos')) pos.line X.env=pure Δ:=by rfl)(hf:X.fn x=J\/X.env.scope.names.lookup x=U .local:=by first|exact .inl rfl|exact .inr rfl|assumption):
  PS X (.Assign [.Name x pos'] e pos) (BA te (vn i)):=by
 intro pins s Z H D I h;refine wpAny_Assign_Name (bx (he pins s Z H _ I h) λv s1 ⟨y,H1,I1,r1,q1⟩=>?_) hs
 exact HH I1 hN hi hx r1 (λs2 I2=>⟨_,H1,I2,q1⟩) hf
end
section
variable {X:Cx}{pos:Pos}
def agb(c:TT)(tb:TS):TS:=λD Z H=>∃W:Nat->St->Hp->Prop,(∃m,W m Z H)/\∀m Z H,W m Z H ->
 c Z H λb H1=>if b=J then ∃N:St->Hp->Prop,(∀σ' H',N σ' H'->∃m',m'<m/\W m' σ' H')/\tb {D with nx:=N,ct:=N,bk:=D.nx} Z H1 else D.nx Z H1
theorem ajj{body:List x6}(hp:TU (model X.prog X.w) X.A X.env X.xe)(hc:PT X c tc)(hb:gI X body tb):PS X (.While c body [] pos) (agb tc tb):=by
 intro pins s Z H D I h;obtain⟨W,⟨m0,w0⟩,turn⟩:=h;refine wpAny_While (codeAny_whileLoop (λn s'=>∃σ' H',Inv X pins σ' H' s'/\W n σ' H') ?_ m0 ⟨Z,H,I,w0⟩)
 rintro n s1 ⟨σ1,H1,I1,w1⟩
 refine RI hp (bx (hc pins s1 σ1 H1 _ I1 (turn n σ1 H1 w1)) λb s2 ⟨H2,I2,q2⟩=>?_)
 cases b with
 |true =>
  obtain⟨N,hN,q2⟩:=q2;rw[if_pos rfl];refine RI hp (bx (hb pins s2 σ1 H2 _ I2 q2) λf s3 q3=>?_)
  cases f with
  |next =>
   obtain⟨σ3,H3,I3,n3⟩:=q3;obtain⟨m',hm,w3⟩:=hN σ3 H3 n3;exact⟨m',hm,σ3,H3,I3,w3⟩
  |cont =>
   obtain⟨σ3,H3,I3,n3⟩:=q3;obtain⟨m',hm,w3⟩:=hN σ3 H3 n3;exact⟨m',hm,σ3,H3,I3,w3⟩
  |brk=>exact q3
  |ret v=>exact q3
 |false =>
  rw[if_neg PM];exact T6 ⟨σ1,H2,I2,q2⟩
end
structure It where
 go:Nat->Hp->Prop
 qC:Nat->Hp->V->Hp->Prop
 stop:Nat->Hp->Prop
def ia(X:Cx)(pins:List (S×Obj))(H:Hp)(b:S):Prop :=
 H b=O/\b≠X.env.locals/\b∉X.fs/\(b∈X.ex\/X.s₀.heap.objs.size<=b)/\(∀x c,X.env.cells.lookup x=U c->c≠b)/\∀p∈X.pn++pins,p.1≠b
theorem Inv.zl(I:Inv X pins Z H s)(hb:s.heap.objs.size<=b)(hn:H' b=O):ia X pins H' b:=by
 refine⟨hn,Pp (O4 I.lt hb),I.CF hb,.inr (PJ I.sz hb),λx c e z=>?_,λp hp z=>?_⟩
 ·obtain⟨v,q⟩:=I.cell x c e;exact absurd (O4 q.lt (by rw[z];exact hb)) (Pz _)
 ·exact absurd (O4 (Iv (I.pin p hp).1) (by rw[z];exact hb)) (Pz _)
structure Turn (P:ν) (w:τ) (K:Ξ) (tg:μ) (Γ:It) (fp:List S) (it:S) (tn:Nat->π->Prop):Prop where
 mem:it∈fp
 obj:∀i h,tn i h->∀b∈fp,∃o,h.get? b=U o/\∀v,o.data≠.cell v
 keep:∀i h h',tn i h->(∀b∈fp,∀o,h.get? b=U o->h'.get? b=U o)->tn i h'
 item:∀(X:Cx),X.prog=P->X.w=w->X.K=K->X.calm=J->∀(i:Nat) (pins:List (S×Obj)) (s:Ψ) (Z:St) (H:Hp) (E:L->Ψ->Prop),Inv X pins Z H s->(∀b∈fp,ia X pins H b)->tn i s.heap->Γ.go i H ->
  wpAny (model P w) X.A (pyNext (.ref it)) (λr s1=>∃u,r=U u /\
   wpAny (model P w) X.A (letOwnedTupleGo tg (.ref it) u) (λ_ s2=>∃x H',Inv X pins Z H' s2/\RelV x u/\Γ.qC i H x H'/\tn (i+1) s2.heap/\∀b∈fp,H' b=O) E s1) E s
 done:∀(X:Cx),X.prog=P->X.w=w->X.K=K->X.calm=J->∀(i:Nat) (pins:List (S×Obj)) (s:Ψ) (Z:St) (H:Hp) (E:L->Ψ->Prop),Inv X pins Z H s->(∀b∈fp,ia X pins H b)->tn i s.heap->Γ.stop i H ->
  wpAny (model P w) X.A (pyNext (.ref it)) (λr s1=>r=O/\Inv X pins Z H s1) E s
 self:∀(A:χ) (i:Nat) (s:Ψ) (Q:L->Ψ->Prop) (E:L->Ψ->Prop),tn i s.heap->Q (.ref it) s->wpAny (model P w) A (pyIter (.ref it)) Q E s
abbrev TI:=St->Hp->(It->Hp->Prop)->Prop
def OP(X:Cx)(pins:List (S×Obj))(Z:St)(tg:μ)(R:It->Hp->Prop)(itv:L)(s2:Ψ):Prop :=
 ∃(it:S) (fp:List S) (tn:Nat->π->Prop) (Γ:It) (H':Hp),itv=.ref it/\Inv X pins Z H' s2/\Turn X.prog X.w X.K tg Γ fp it tn/\tn 0 s2.heap/\(∀b∈fp,ia X pins H' b)/\R Γ H'
def PI(X:Cx)(tg iter:μ)(wi:TI):Prop :=
 ∀(pins:List (S×Obj)) (s:Ψ) (Z:St) (H:Hp) (R:It->Hp->Prop),Inv X pins Z H s->wi Z H R ->
  wpAny (model X.prog X.w) X.A (eval iter X.env) (λv s1=>wpAny (model X.prog X.w) X.A (pyIter v) (OP X pins Z tg R) X.xe s1) X.xe s
theorem Ea{E:L->Ψ->Prop}{s:Ψ}{Q:Unit->Ψ->Prop}(ho:s.heap.get? it=U o)(hc:o.cls=.type n)(hd:o.data=.fields vs)(hn:["enumerate","zip","dict_itemiterator","dict_reverseitemiterator","odict_iterator","itertools.zip_longest","itertools.pairwise"].contains n=Δ)(hQ:Q () s):wpAny M A (letOwnedTupleGo tg (.ref it) u) Q E s:=by
  cases tg<;>first
    | exact dD hQ
    | (cases u<;>first
        | exact dD hQ
        | (refine Rc (wpAny_load ho ?_)
           rw[hc,hd];show wpAny M A (if _=J then _ else _) Q E s
           rw[if_neg (by intro h;rw[hn,Bool.false_and]at h;cases h)]
           exact dD hQ))
def Gn(K:Ξ)(a:S):It :=
 ⟨λi H=>∃xs x,bf K H a xs/\xs[i]? = U x,λi H x H'=>H'=H/\∀xs,bf K H a xs->xs[i]? = U x,λi H=>∃xs,bf K H a xs/\xs.length<=i⟩
def Gm(K:Ξ)(a:S):It :=
 ⟨λi H=>∃xs x,bO K H a xs/\xs[i]? = U x,λi H x H'=>H'=H/\∀xs,bO K H a xs->xs[i]? = U x,λi H=>∃xs,bO K H a xs/\xs.length<=i⟩
def wG(lo:Int)(n:Nat):It:=⟨λi _=>i<n,λi H x H'=>H'=H/\x=.int (lo+i),λi _=>n<=i⟩
theorem agz{w:τ}{K:Ξ}{tg:μ}(a it:S):Turn P w K tg (Gn K a) [it] it (λi h=>h.IsListIter it a i) where
 mem:=by simp
 obj:=λi h st b hb=>by
  have e:b=it:=by simpa using hb
  subst e;obtain⟨o,e,c,d⟩:=st;exact⟨o,e,λv z=>by rw[d]at z;cases z⟩
 keep:=λi h h' st k=>st.at λo e=>k it (by simp) o e
 item:=by
  intro X hP hw hK hc i pins s Z H E I hf st hg;subst hP hw hK;obtain⟨xs,x,hq,hx⟩:=hg;obtain⟨its,rv,p,hz⟩:=I.list hq;obtain⟨u,hu,ru⟩:=rv.get hx;obtain⟨f0,f1,f2,f3,f4,f5⟩:=hf it (by simp)
  refine wpAny_pyNext_list_item st p.isList (by simpa using hu) λh' st' sb=>?_
  have I1:Inv X pins Z H {s with heap:=h'}:=I.turned (λb o hb e=>(sb.2 b hb).trans e) f0 f1 f3 f4 f5
  obtain⟨o,e,c,d⟩:=id st';exact⟨u,rfl,Ea e c d ⋯ ⟨x,H,I1,ru,⟨rfl,λys hy=>by rw[I.Lh hy hq];exact hx⟩,st',λb hb=>(hf b hb).1⟩⟩
 done:=by
  intro X hP hw hK hc i pins s Z H E I hf st hg;subst hP hw hK;obtain⟨xs,hq,hx⟩:=hg;obtain⟨its,rv,p,hz⟩:=I.list hq;obtain⟨f0,f1,f2,f3,f4,f5⟩:=hf it (by simp)
  have hl:=rv.length;exact wpAny_pyNext_list_end (I.ok.hd hc) st p.isList (by simp;omega) λh' eb=>⟨rfl,I.turned (λb o hb e=>eb b o hb e) f0 f1 f3 f4 f5⟩
 self:=λ_ _ _ _ _ st h=>wpAny_pyIter_listiter st h
theorem abF{w:τ}{K:Ξ}{tg:μ}(a it:S):Turn P w K tg (Gm K a) [it] it (λi h=>h.IsTupleIter it a i) where
 mem:=by simp
 obj:=λi h st b hb=>by
  have e:b=it:=by simpa using hb
  subst e;obtain⟨o,e,c,d⟩:=st;exact⟨o,e,λv z=>by rw[d]at z;cases z⟩
 keep:=λi h h' st k=>st.at λo e=>k it (by simp) o e
 item:=by
  intro X hP hw hK hc i pins s Z H E I hf st hg;subst hP hw hK;obtain⟨xs,x,hq,hx⟩:=hg;obtain⟨its,rv,p,hz⟩:=I.tuple hq;obtain⟨u,hu,ru⟩:=rv.get hx;obtain⟨f0,f1,f2,f3,f4,f5⟩:=hf it (by simp)
  refine wpAny_pyNext_tuple_item st (show s.heap.IsTuple a its.toArray from p) (x:=u) (by simpa using hu) λh' st' sb=>?_
  have I1:Inv X pins Z H {s with heap:=h'}:=I.turned (t':=s.toks) (λb o hb e=>(sb.2 b hb).trans e) f0 f1 f3 f4 f5
  obtain⟨o,e,c,d⟩:=id st';exact⟨u,rfl,Ea (s:={s with heap:=h'}) e c d ⋯ ⟨x,H,I1,ru,⟨rfl,λys hy=>by rw[I.G5 hy hq];exact hx⟩,st',λb hb=>(hf b hb).1⟩⟩
 done:=by
  intro X hP hw hK hc i pins s Z H E I hf st hg;subst hP hw hK;obtain⟨xs,hq,hx⟩:=hg;obtain⟨its,rv,p,hz⟩:=I.tuple hq;obtain⟨f0,f1,f2,f3,f4,f5⟩:=hf it (by simp)
  have hl:=rv.length;exact wpAny_pyNext_tuple_end (I.ok.hd hc) st (show s.heap.IsTuple a its.toArray from p) (by simp;omega) λh' eb=>⟨rfl,I.turned (t':=s.toks) (λb o hb e=>eb b o hb e) f0 f1 f3 f4 f5⟩
 self:=λ_ _ _ _ _ st h=>wpAny_pyIter_tupleiter st h
theorem aal{w:τ}{K:Ξ}{tg:μ}(it:S)(lo:Int)(n:Nat):Turn P w K tg (wG lo n) [it] it (λi h=>IsRangeIter h it (lo+(i:Nat)*1) ((n:Int)-(i:Nat)) 1) where
 mem:=by simp
 obj:=λi h st b hb=>by
  have e:b=it:=by simpa using hb
  subst e;exact⟨_,st,λv z=>by
   have z':Data.fields _=Data.cell v:=z;cases z'⟩
 keep:=λi h h' st k=>k it (by simp) _ st
 item:=by
  intro X hP hw hK hc i pins s Z H E I hf st hg;subst hP hw hK;obtain⟨f0,f1,f2,f3,f4,f5⟩:=hf it (by simp)
  have W:=Walks.range (prog:=X.prog) (w:=X.w) (I.ok.hd hc) it lo 1 n;refine W.item i s _ _ hg st λv h' tk hv st' kk=>?_
  obtain⟨t,rfl⟩:=hv;have I1:Inv X pins Z H {s with heap:=h',toks:=tk}:=I.turned (λb o hb e=>kk b o (by simpa using hb) e) f0 f1 f3 f4 f5
  refine⟨_,rfl,Ea (s:={s with heap:=h',toks:=tk}) (n:="range_iterator") st' rfl rfl ⋯ ⟨.int (lo+i),H,I1,⟨t,?_⟩,⟨rfl,rfl⟩,st',λb hb=>(hf b hb).1⟩⟩
  rw[Int.mul_one]
 done:=by
  intro X hP hw hK hc i pins s Z H E I hf st hg;subst hP hw hK;obtain⟨f0,f1,f2,f3,f4,f5⟩:=hf it (by simp)
  exact wpAny_pyNext_range_end (I.ok.hd hc) st (by have:n<=i:=hg;omega) λh' eb=>⟨rfl,I.turned (t':=s.toks) (λb o hb e=>eb b o hb e) f0 f1 f3 f4 f5⟩
 self:=λ_ _ _ _ _ st h=>wpAny_pyIter_rangeiter st h
section
variable {X:Cx}{tg:μ}
def Y7(K:Ξ)(tl:TE):TI:=λZ H R=>tl Z H λx H1=>∃a,x=.ref a/\(∃xs,bf K H1 a xs)/\R (Gn K a) H1
def Y4(K:Ξ)(tl:TE):TI:=λZ H R=>tl Z H λx H1=>∃a,x=.ref a/\(∃xs,bO K H1 a xs)/\R (Gm K a) H1
theorem ai9(hl:PE X l tl):PI X tg l (Y7 X.K tl):=by
 intro pins s Z H R I h;refine bx (hl pins s Z H _ I h) λv s1 ⟨x,H1,I1,r1,q1⟩=>?_
 obtain⟨a,e,⟨xs,hq⟩,q⟩:=q1;subst e;cases r1;obtain⟨its,rv,p,hz⟩:=I1.list hq;refine RH p.isList ?_;refine⟨s1.heap.objs.size,[s1.heap.objs.size],_,_,H1,rfl,I1.kept (t':=s1.toks) λb o e=>H8 _ e,agz a _,⟨_,O5 _ rfl,rfl,rfl⟩,λb hb=>?_,q⟩
 have e:b=s1.heap.objs.size:=by simpa using hb
 subst e;exact I1.zl (AP _) (I1.hok.fresh (AP _))
theorem aiC(hl:PE X l tl):PI X tg l (Y4 X.K tl):=by
 intro pins s Z H R I h;refine bx (hl pins s Z H _ I h) λv s1 ⟨x,H1,I1,r1,q1⟩=>?_
 obtain⟨a,e,⟨xs,hq⟩,q⟩:=q1;subst e;cases r1;obtain⟨its,rv,p,hz⟩:=I1.tuple hq;refine RG (show s1.heap.IsTuple a its.toArray from p) ?_
 refine⟨s1.heap.objs.size,[s1.heap.objs.size],_,_,H1,rfl,I1.kept (t':=s1.toks) λb o e=>H8 _ e,abF a _,⟨_,O5 _ rfl,rfl,rfl⟩,λb hb=>?_,q⟩
 have e:b=s1.heap.objs.size:=by simpa using hb
 subst e;exact I1.zl (AP _) (I1.hok.fresh (AP _))
theorem Jk{R:It->Hp->Prop}{E:L->Ψ->Prop}{lo:Int}(I:Inv X pins Z H s)(h1:-(2^62)<=lo)(h2:lo<2^62)(h3:-(2^62)<=hi)(h4:hi<2^62)(q:R (wG lo (hi-lo).toNat) H):wpAny (model X.prog X.w) X.A (pyIter (.ref s.heap.objs.size)) (OP X pins Z tg R) E {s with heap:=s.heap.push {cls:=.type "range",data:=.fields #[.int lo t,.int hi u,.int 1 v]},toks:=tk}:=by
 refine wpAny_pyIter_range (IsRange.new ..) (small_one h1 h2 h3 h4) ?_;have I1:Inv X pins Z H {s with heap:=s.heap.push {cls:=.type "range",data:=.fields #[.int lo t,.int hi u,.int 1 v]},toks:=tk}:=I.kept λb o e=>H8 _ e
 refine⟨(s.heap.push {cls:=.type "range",data:=.fields #[.int lo t,.int hi u,.int 1 v]}).objs.size,[(s.heap.push {cls:=.type "range",data:=.fields #[.int lo t,.int hi u,.int 1 v]}).objs.size],_,_,H,rfl,
  I1.kept (t':=tk) λb o e=>H8 _ e,aal _ lo (hi-lo).toNat,?_,λb hb=>?_,q⟩
 ·have e1:lo+((0:Nat):Int)*1=lo:=by simp
  have e2:(((hi-lo).toNat:Nat):Int)-((0:Nat):Int)=Builtin.Range.rangeSize lo hi 1:=by rw[rangeSize_one];split<;>omega
  show IsRangeIter _ _ (lo+((0:Nat):Int)*1) ((((hi-lo).toNat:Nat):Int)-((0:Nat):Int)) 1;rw[e1,e2];exact O5 _ rfl
 ·have e:b=(s.heap.push {cls:=.type "range",data:=.fields #[.int lo t,.int hi u,.int 1 v]}).objs.size:=by simpa using hb
  subst e;exact I1.zl (AP _) (I1.hok.fresh (AP _))
def Y6(ta:TA):TI:=λZ H R=>ta Z H λvs H1=>∃j:Int,vs=[.int j]/\-(2^62)<=j/\j<2^62/\R (wG 0 j.toNat) H1
def Y5(ta:TA):TI:=λZ H R=>ta Z H λvs H1=>∃i j:Int,vs=[.int i,.int j]/\(-(2^62)<=i/\i<2^62/\-(2^62)<=j/\j<2^62)/\R (wG i (j-i).toNat) H1
theorem aiA{pos:Pos}(hg:Gl X "range")(hm:X.mg "range"=O)(ha:PA X [a] ta)(hs:ε [a] X.env=[(Δ,eval a X.env)]:=by rfl):PI X tg (.Call (.Name "range" p) [a] [] pos) (Y6 ta):=by
 intro pins s Z H R I h;refine Call_ (mQ I hg hm boot_range (RE (bx (ha pos pins s Z H _ I h) λus s1 ⟨vs,H1,I1,r1,q1⟩=>?_) hs rfl))
 obtain⟨j,e,q1,q2,q⟩:=q1;subst e;cases r1 with
 |cons r rr =>
  cases rr;obtain⟨t,rfl⟩:=r;exact call_range_1 (Jk I1 ∅ ∅ q1 q2 (by simpa using q))
theorem aiB{pos:Pos}(hg:Gl X "range")(hm:X.mg "range"=O)(ha:PA X [a,b] ta)(hs:ε [a,b] X.env=[(Δ,eval a X.env),(Δ,eval b X.env)]:=by rfl)(hs2:ε [b] X.env=[(Δ,eval b X.env)]:=by rfl):
  PI X tg (.Call (.Name "range" p) [a,b] [] pos) (Y5 ta):=by
 intro pins s Z H R I h;refine Call_ (mQ I hg hm boot_range (RE (bx (ha pos pins s Z H _ I h) λus s1 ⟨vs,H1,I1,r1,q1⟩=>?_) (by rw[hs,hs2]) (by rw[hs2];rfl)))
 obtain⟨i,j,e,⟨q1,q2,q3,q4⟩,q⟩:=q1;subst e;cases r1 with
 |cons r rr =>
  cases rr with
  |cons r' rr =>
   cases rr;obtain⟨t,rfl⟩:=r;obtain⟨t',rfl⟩:=r';exact call_range_2 (Jk I1 q1 q2 q3 q4 q)
def Hx(wi:TI)(g:TG)(tb:TS):TS:=λD Z H=>wi Z H λΓ H1=>∃W:Nat->Nat->St->Hp->Prop,(∃m,W 0 m Z H1)/\∀i m Z H,W i m Z H ->
 (Γ.stop i H/\D.nx Z H)\/(Γ.go i H/\∃N:St->Hp->Prop,(∀σ' H',N σ' H'->∃m',m'<m/\W (i+1) m' σ' H')/\∀x H',Γ.qC i H x H'->g x Z H' λσ2 H2=>tb {D with nx:=N,ct:=N,bk:=D.nx} σ2 H2)
def ug(fp:List S)(h:π):List (S×Obj):=fp.filterMap λb=>(h.get? b).map λo=>(b,o)
theorem yD{h:π}(hb:b∈fp)(e:h.get? b=U o):(b,o)∈ug fp h:=S6.mpr ⟨b,hb,by rw[e];rfl⟩
theorem ajY(hp:p∈ug fp h):p.1∈fp/\h.get? p.1=U p.2:=by
 obtain⟨b,hb,e⟩:=S6.mp hp;cases q:h.get? b with
 |none=>rw[q]at e;cases e
 |some o =>
  rw[q]at e;have e':(b,o)=p:=P0 e;subst e';exact⟨hb,q⟩
theorem Inv.pinned(I:Inv X pins Z H s)(hf:∀b∈fp,ia X pins H b)(ho:∀b∈fp,∃o,s.heap.get? b=U o/\∀v,o.data≠.cell v):Inv X (pins++ug fp s.heap) Z H s :=
 I.xY λp hp=>(PY.mp hp).elim (λz=>I.pin p (QJ _ z)) λz=>by
  obtain⟨hb,e⟩:=ajY z;obtain⟨f0,f1,f2,_⟩:=hf p.1 hb;obtain⟨o,e',d⟩:=ho p.1 hb;rw[e]at e';cases e';exact⟨e,f0,f1,f2,d⟩
theorem Inv.tL(I:Inv X (pins++pl) Z H s):Inv X pins Z H s:=I.xY λp hp=>I.pin p (QJ _ (VQ _ hp))
theorem Jr{iter:μ}{body:List x6}{pos:Pos}(hp:TU (model X.prog X.w) X.A X.env X.xe)(hc:X.calm=J)(hi:PI X tg iter wi)(hg:PG X tg g)(hb:gI X body tb)(hs:∀x,foldedSetIterable iter X.env x=pure x:=by intro _;rfl):PS X (.For tg iter body [] pos) (Hx wi g tb):=by
 intro pins s Z H D I h;refine wpAny_For (bx (hi pins s Z H _ I h) λv s1 h1=>bx h1 λitv s2 h2=>?_) hs
 obtain⟨it,fp,tn,Γ,H2,e,I2,T,st2,f2,W,⟨m0,w0⟩,turn⟩:=h2;subst e;have pe:∀{H':Hp},(∀b∈fp,H' b=O)->∀b∈fp,ia X pins H' b:=λhn b hb=>⟨hn b hb,(f2 b hb).2⟩
 refine codeAny_forLoop_any (λn s'=>∃i σ' H',Inv X pins σ' H' s'/\tn i s'.heap/\(∀b∈fp,H' b=O)/\W i n σ' H') ?_ m0 ⟨0,Z,H2,I2,st2,λb hb=>(f2 b hb).1,w0⟩
 rintro n s3 ⟨i,σ3,H3,I3,st3,M6,w3⟩
 rcases turn i n σ3 H3 w3 with⟨stop,qn⟩|⟨go,N,hN,step⟩
 ·refine RI hp (bx (T.done X rfl rfl rfl hc i pins s3 σ3 H3 X.xe I3 (pe M6) st3 stop) λr s4 ⟨hr,I4⟩=>?_)
  subst hr;exact T6 ⟨σ3,H3,I4,qn⟩
 ·refine RI hp (bx (T.item X rfl rfl rfl hc i pins s3 σ3 H3 X.xe I3 (pe M6) st3 go) λr s4 ⟨u,hr,h4⟩=>?_)
  subst hr;refine RI hp (bx h4 λ_ s5 ⟨x,H5,I5,r5,y5,pq,zk⟩=>?_)
  have I5':=I5.pinned (pe zk) (T.obj _ _ pq);refine RI hp (bx (hg _ s5 σ3 H5 x u _ I5' r5 (step x H5 y5)) λ_ s6 ⟨afq,H6,I6,q6⟩=>?_)
  refine RI hp (bx (hb _ s6 afq H6 _ I6 q6) λf s7 q7=>?_)
  have again:∀{jY:St}{H7:Hp},Inv X (pins++ug fp s5.heap) jY H7 s7->N jY H7->∃m,m<n/\∃i σ' H',Inv X pins σ' H' s7/\tn i s7.heap/\(∀b∈fp,H' b=O)/\W i m σ' H':=fun{jY H7} I7 n7=>by
   obtain⟨m',hm,w7⟩:=hN jY H7 n7;refine⟨m',hm,i+1,jY,H7,I7.tL,T.keep _ _ _ pq λb hb o e=>(I7.pin (b,o) (QJ _ (QJ _ (yD hb e)))).1,λb hb=>?_,w7⟩
   obtain⟨o,e,d⟩:=T.obj _ _ pq b hb;exact(I7.pin (b,o) (QJ _ (QJ _ (yD hb e)))).2.1
  cases f with
  |next=>obtain⟨jY,H7,I7,n7⟩:=q7;exact again I7 n7
  |cont=>obtain⟨jY,H7,I7,n7⟩:=q7;exact again I7 n7
  |brk=>obtain⟨jY,H7,I7,q7⟩:=q7;exact⟨jY,H7,I7.tL,q7⟩
  |ret v=>obtain⟨x7,jY,H7,I7,r7,q7⟩:=q7;exact⟨x7,jY,H7,I7.tL,r7,q7⟩
end
abbrev R2:=V->V->Hp->VK->Prop
def bS(X:Cx)(f:L->L->Sem L)(r:R2):Prop :=
 ∀(pins:List (S×Obj)) (s:Ψ) (Z:St) (H:Hp) (x y:V) (v u:L) (Q:VK),Inv X pins Z H s->RelV x v->RelV y u->r x y H Q ->
  wpAny (model X.prog X.w) X.A (f v u) (EP X pins Z Q) X.xe s
def dG(X:Cx)(f:L)(r:List V->Hp->VK->Prop):Prop :=
 ∀(pins:List (S×Obj)) (s:Ψ) (Z:St) (H:Hp) (xs:List V) (us:List L) (Q:VK),Inv X pins Z H s->Vals xs us->r xs H Q ->
  wpAny (model X.prog X.w) X.A (call f us) (EP X pins Z Q) X.xe s
def ac5(X:Cx)(r:V->Hp->(Bool->Hp->Prop)->Prop):Prop :=
 ∀(pins:List (S×Obj)) (s:Ψ) (Z:St) (H:Hp) (x:V) (v:L) (Q:Bool->Hp->Prop),Inv X pins Z H s->RelV x v->r x H Q ->
  wpAny (model X.prog X.w) X.A (truthy v) (TP X pins Z Q) X.xe s
def xC(r:R2)(ta tb:TE):TE:=λZ H Q=>ta Z H λx H1=>tb Z H1 λy H2=>r x y H2 Q
def rI(C:Int->Int->Prop)(g:Int->Int->V):R2:=λx y H Q=>∃i j,x=.int i/\y=.int j/\C i j/\Q (g i j) H
def mz(g:Int->Int->V):R2:=λx y H Q=>∃i j,x=.int i/\y=.int j/\Q (g i j) H
section
variable {X:Cx}{a b c:μ}{ta tb tc:TE}{pos:Pos}
theorem ET(ha:PE X a ta)(hb:PE X b tb){R:V->V->Hp->Prop}(I:Inv X pins Z H s)(h:ta Z H λx H1=>tb Z H1 λy H2=>R x y H2){Q:L->Ψ->Prop}{f:L->L->Sem L}(hf:∀v u s2 x y H2,Inv X pins Z H2 s2->RelV x v->RelV y u->R x y H2->wpAny (model X.prog X.w) X.A (f v u) Q X.xe s2):
  wpAny (model X.prog X.w) X.A (eval a X.env) (λv s₁=>wpAny (model X.prog X.w) X.A (eval b X.env) (λu s₂=>wpAny (model X.prog X.w) X.A (f v u) Q X.xe s₂) X.xe s₁) X.xe s:=by
 refine bx (ha pins s Z H _ I h) λv s1 ⟨x,H1,I1,r1,q1⟩=>?_
 refine bx (hb pins s1 Z H1 _ I1 q1) λu s2 ⟨y,H2,I2,r2,q2⟩=>?_
 exact hf v u s2 x y H2 I2 r1 r2 q2
theorem JB(ho:bS X (binaryOp op) r)(ha:PE X a ta)(hb:PE X b tb):PE X (.BinOp a op b pos) (xC r ta tb):=by
 intro pins s Z H Q I h;exact wpAny_BinOp (ET ha hb I h λv u s2 x y H2 I2 rx ry q=>ho pins s2 Z H2 x y v u Q I2 rx ry q)
theorem ye{f:L->L->Sem L}{C:Int->Int->Prop}{g:Int->Int->Int}
  (rule:∀(i j:Int) (t u:Tok) (s:Ψ) (Q:L->Ψ->Prop) (E:L->Ψ->Prop),C i j->Q (.int (g i j) s.toks) {s with toks:=s.toks+1}->wpAny (model X.prog X.w) X.A (f (.int i t) (.int j u)) Q E s) :
  bS X f (rI C λi j=>.int (g i j)):=by
 intro pins s Z H x y v u Q I rx ry h;obtain⟨i,j,rfl,rfl,hc,q⟩:=h;obtain⟨t,rfl⟩:=rx;obtain⟨t',rfl⟩:=ry;exact rule i j t t' s _ _ hc ⟨.int (g i j),H,I.tok _,⟨_,rfl⟩,q⟩
theorem Cp{f:L->L->Sem L}{g:Int->Int->Int}
  (rule:∀(i j:Int) (t u:Tok) (s:Ψ) (Q:L->Ψ->Prop) (E:L->Ψ->Prop),Q (.int (g i j) s.toks) {s with toks:=s.toks+1}->wpAny (model X.prog X.w) X.A (f (.int i t) (.int j u)) Q E s) :
  bS X f (mz λi j=>.int (g i j)):=by
 intro pins s Z H x y v u Q I rx ry h;obtain⟨i,j,rfl,rfl,q⟩:=h;obtain⟨t,rfl⟩:=rx;obtain⟨t',rfl⟩:=ry;exact rule i j t t' s _ _ ⟨.int (g i j),H,I.tok _,⟨_,rfl⟩,q⟩
theorem Cq{f:L->L->Sem L}{g:Int->Int->Bool}
  (rule:∀(i j:Int) (t u:Tok) (s:Ψ) (Q:L->Ψ->Prop) (E:L->Ψ->Prop),Q (.bool (g i j)) s->wpAny (model X.prog X.w) X.A (f (.int i t) (.int j u)) Q E s) :
  bS X f (mz λi j=>.bl (g i j)):=by
 intro pins s Z H x y v u Q I rx ry h;obtain⟨i,j,rfl,rfl,q⟩:=h;obtain⟨t,rfl⟩:=rx;obtain⟨t',rfl⟩:=ry;exact rule i j t t' s _ _ ⟨.bl (g i j),H,I,rfl,q⟩
def adk(i j:Int):Prop:=0<j/\j<1073741824
def adj(i j:Int):Prop:=0<=j/\j<=1000000/\i.natAbs<2^64
def Gu(i j:Int):Prop:=(-(2^64)<i/\i<2^64)\/(-(2^64)<j/\j<2^64)
theorem Gu.ok(h:Gu i j):IntMulOk i j:=by
 rcases h with⟨h1,h2⟩|⟨h1,h2⟩
 ·exact .of_left (intBits_le_64 h1 h2)
 ·exact .of_right (intBits_le_64 h1 h2)
theorem ajG:bS X (binaryOp .Add) (mz λi j=>.int (i+j)):=Cp λ_ _ _ _ _ _ _ q=>add_int q
theorem ajc:bS X (binaryOp .Sub) (mz λi j=>.int (i-j)):=Cp λ_ _ _ _ _ _ _ q=>sub_int q
theorem aiy:bS X (binaryOp .Mult) (rI Gu λi j=>.int (i*j)):=ye λ_ _ _ _ _ _ _ hc q=>mul_int q hc.ok
theorem ajN:bS X (binaryOp .FloorDiv) (rI adk λi j=>.int (i/j)):=ye λi j _ _ _ _ _ hc q=>by
 have h1:(0:Int)<j:=hc.1;have h2:j<1073741824:=hc.2;exact floordiv_int ∅ (by rw[Int.fdiv_eq_ediv_of_nonneg i ∅];exact q) (.inl (PyProof.noPylong_small ∅))
theorem aix:bS X (binaryOp .Mod) (rI (λ_ j=>0<j) λi j=>.int (i % j)):=ye λi j _ _ _ _ _ hc q=>by
 have h1:(0:Int)<j:=hc;exact mod_int' ∅ (by rw[Int.fmod_eq_emod_of_nonneg i ∅];exact q)
theorem ajb:bS X (binaryOp .Pow) (rI adj λi j=>.int (i^j.toNat)):=ye λ_ _ _ _ _ _ _ hc q=>pow_int_small hc.1 hc.2.1 hc.2.2 q
theorem ajI:bS X (binaryOp .BitAnd) (mz λi j=>.int (Builtin.bitAnd i j)):=Cp λ_ _ _ _ _ _ _ q=>and_int q
end
def BL:V->V->Bool
 |.aF,.aF=>J|.aF,.int _=>J|.int _,.aF=>J|.aF,.bl _=>J|.bl _,.aF=>J|.aF,.str _=>J|.str _,.aF=>J
 |.int _,.int _=>J|.bl _,.bl _=>J|.str _,.str _=>J|.iR _,.iR _=>J
 |.int _,.str _=>J|.str _,.int _=>J|.bl _,.str _=>J|.str _,.bl _=>J
 |_,_=>Δ
def ahy:R2:=λx y H Q=>BL x y=J/\Q (.bl (decide (x=y))) H
def aiu:R2:=λx y H Q=>BL x y=J/\Q (.bl (!decide (x=y))) H
theorem NK:decide (V.int i=V.int j)=(i==j):=by
 rw[QI];simp
theorem NN:decide (V.bl i=V.bl j)=(i==j):=by
 rw[QI];simp
theorem NJ:decide (V.str i=V.str j)=(i==j):=by
 rw[QI];simp
theorem NL:decide (V.iR i=V.iR j)=(i.toList==j.toList):=by
 rw[QI];cases i;cases j;simp
section
variable {X:Cx}{a b c:μ}{ta tb tc:TE}{pos:Pos}
theorem dB(I:Inv X pins Z H s)(q:Q (.bl k) H)(e:k=k'):EP X pins Z Q (.bool k') s:=by
 subst e;exact⟨.bl k,H,I,rfl,q⟩
theorem ajM:bS X (compareOp .Eq) ahy:=by
 intro pins s Z H x y v u Q I rx ry h;obtain⟨hs,q⟩:=h;cases x with
 |aF =>
  cases rx;cases y with
  |aF=>cases ry;exact PySem.EqNone.eq_none_none (dB I q (by simp))
  |bl j=>cases ry;exact PySem.EqNone.eq_none_bool (dB I q (by simp))
  |int j=>obtain⟨t',rfl⟩:=ry;exact PySem.EqNone.eq_none_int (dB I q (by simp))
  |str j=>obtain⟨t',rfl⟩:=ry;exact PySem.EqNone.eq_none_str (dB I q (by simp))
  |_=>exact absurd (show Δ=J from hs) PM
 |bl i =>
  cases rx;cases y with
  |aF=>cases ry;exact PySem.EqNone.eq_bool_none (dB I q (by simp))
  |bl j=>cases ry;exact eq_bool (dB I q NN)
  |str j=>obtain⟨t',rfl⟩:=ry;exact PySem.EqMixed.eq_bool_str (dB I q (by simp))
  |_=>exact absurd (show Δ=J from hs) PM
 |int i =>
  obtain⟨t,rfl⟩:=rx;cases y with
  |aF=>cases ry;exact PySem.EqNone.eq_int_none (dB I q (by simp))
  |int j=>obtain⟨t',rfl⟩:=ry;exact eq_int (dB I q NK)
  |str j=>obtain⟨t',rfl⟩:=ry;exact PySem.EqMixed.eq_int_str (dB I q (by simp))
  |_=>exact absurd (show Δ=J from hs) PM
 |str i =>
  obtain⟨t,rfl⟩:=rx;cases y with
  |aF=>cases ry;exact PySem.EqNone.eq_str_none (dB I q (by simp))
  |bl j=>cases ry;exact PySem.EqMixed.eq_str_bool (dB I q (by simp))
  |int j=>obtain⟨t',rfl⟩:=ry;exact PySem.EqMixed.eq_str_int (dB I q (by simp))
  |str j=>obtain⟨t',rfl⟩:=ry;exact eq_str (dB I q NJ)
  |_=>exact absurd (show Δ=J from hs) PM
 |iR i =>
  obtain⟨t,rfl⟩:=rx;cases y with
  |iR j=>obtain⟨t',rfl⟩:=ry;exact PySem.W.eq_bytes (dB I q NL)
  |_=>exact absurd (show Δ=J from hs) PM
 |_=>cases y<;>exact absurd (show Δ=J from hs) PM
theorem aiz:bS X (compareOp .NotEq) aiu:=by
 intro pins s Z H x y v u Q I rx ry h;obtain⟨hs,q⟩:=h;cases x with
 |aF =>
  cases rx;cases y with
  |aF=>cases ry;exact PySem.EqNone.ne_none_none (dB I q (by simp))
  |bl j=>cases ry;exact PySem.EqNone.ne_none_bool (dB I q (by simp))
  |int j=>obtain⟨t',rfl⟩:=ry;exact PySem.EqNone.ne_none_int (dB I q (by simp))
  |str j=>obtain⟨t',rfl⟩:=ry;exact PySem.EqNone.ne_none_str (dB I q (by simp))
  |_=>exact absurd (show Δ=J from hs) PM
 |bl i =>
  cases rx;cases y with
  |aF=>cases ry;exact PySem.EqNone.ne_bool_none (dB I q (by simp))
  |bl j=>cases ry;exact ne_bool (dB I q (congrArg not NN))
  |str j=>obtain⟨t',rfl⟩:=ry;exact PySem.EqMixed.ne_bool_str (dB I q (by simp))
  |_=>exact absurd (show Δ=J from hs) PM
 |int i =>
  obtain⟨t,rfl⟩:=rx;cases y with
  |aF=>cases ry;exact PySem.EqNone.ne_int_none (dB I q (by simp))
  |int j=>obtain⟨t',rfl⟩:=ry;exact ne_int (dB I q (congrArg not NK))
  |str j=>obtain⟨t',rfl⟩:=ry;exact PySem.EqMixed.ne_int_str (dB I q (by simp))
  |_=>exact absurd (show Δ=J from hs) PM
 |str i =>
  obtain⟨t,rfl⟩:=rx;cases y with
  |aF=>cases ry;exact PySem.EqNone.ne_str_none (dB I q (by simp))
  |bl j=>cases ry;exact PySem.EqMixed.ne_str_bool (dB I q (by simp))
  |int j=>obtain⟨t',rfl⟩:=ry;exact PySem.EqMixed.ne_str_int (dB I q (by simp))
  |str j=>obtain⟨t',rfl⟩:=ry;exact ne_str (dB I q (congrArg not NJ))
  |_=>exact absurd (show Δ=J from hs) PM
 |iR i =>
  obtain⟨t,rfl⟩:=rx;cases y with
  |iR j=>obtain⟨t',rfl⟩:=ry;exact PySem.W.ne_bytes (dB I q (congrArg not NL))
  |_=>exact absurd (show Δ=J from hs) PM
 |_=>cases y<;>exact absurd (show Δ=J from hs) PM
theorem ajR:bS X (compareOp .Lt) (mz λi j=>.bl (decide (i<j))):=Cq λ_ _ _ _ _ _ _ q=>lt_int q
theorem ajP:bS X (compareOp .Gt) (mz λi j=>.bl (decide (j<i))):=Cq λ_ _ _ _ _ _ _ q=>gt_int q
theorem ajO:bS X (compareOp .GtE) (mz λi j=>.bl (decide (j<=i))):=Cq λ_ _ _ _ _ _ _ q=>ge_int q
theorem ajQ:bS X (compareOp .Is) (λx y H Q=>y=.aF/\Q (.bl (decide (x=.aF))) H):=by
 intro pins s Z H x y v u Q I rx ry h;obtain⟨rfl,q⟩:=h;cases ry;refine is_none_gen (dB I q ?_);cases x<;>first
  |(cases rx;rfl)
  |(obtain⟨t,rfl⟩:=rx;rfl)
theorem aja:bS X (compareOp .IsNot) (λx y H Q=>y=.aF/\Q (.bl (!decide (x=.aF))) H):=by
 intro pins s Z H x y v u Q I rx ry h;obtain⟨rfl,q⟩:=h;cases ry;refine isnot_none_gen (dB I q ?_);cases x<;>first
  |(cases rx;rfl)
  |(obtain⟨t,rfl⟩:=rx;rfl)
theorem Ke(b:μ)(h:op≠.In:=by decide)(h2:op≠.NotIn:=by decide):behindInMarks op b=Δ:=by
 have e1:(op==CmpOp.In)=Δ:=by cases op<;>first|rfl|exact absurd rfl h
 have e2:(op==CmpOp.NotIn)=Δ:=by cases op<;>first|rfl|exact absurd rfl h2
 cases b<;>simp[behindInMarks,e1,e2]
theorem akv(ho:bS X (compareOp op) r)(ha:PE X a ta)(hb:PE X b tb)(hm:behindInMarks op b=Δ):PE X (.Compare a [op] [b] pos) (xC r ta tb):=by
 intro pins s Z H Q I h;exact wpAny_Compare1 (ET ha hb I h λv u s2 x y H2 I2 rx ry q=>ho pins s2 Z H2 x y v u Q I2 rx ry q) hm
def aav(t:TE):TT:=λZ H Q=>t Z H λx H'=>∃k,x=.bl k/\Q k H'
theorem ajl(ho:bS X (compareOp op) r)(ha:PE X a ta)(hb:PE X b tb)(hm:behindInMarks op b=Δ):PT X (.Compare a [op] [b] pos) (aav (xC r ta tb)):=by
 intro pins s Z H Q I h;refine wpAny_isTrue_Compare1 (bx (ha pins s Z H _ I h) λv s1 ⟨x,H1,I1,r1,q1⟩=>bx (hb pins s1 Z H1 _ I1 q1) λu s2 ⟨y,H2,I2,r2,q2⟩ =>
  bx (ho pins s2 Z H2 x y v u _ I2 r1 r2 q2) λc s3 ⟨z,H3,I3,r3,k,e,q3⟩=>?_) hm
 subst e;cases r3;exact RJ ⟨H3,I3,q3⟩
def Gb(K:Ξ)(x:V)(H:Hp)(k:Bool):Prop :=
 match x with
 |.aF=>k=Δ
 |.bl b=>k=b
 |.int i=>k=(i != 0)
 |.str y=>y.length<=Ω/\k=((y.length:Int) != 0)
 |.iR y=>y.size<=Ω/\k=((y.size:Int) != 0)
 |.ref p=>(∃xs,bf K H p xs/\k = !xs.isEmpty)\/(∃xs,bO K H p xs/\k = !xs.isEmpty)\/∃kvs,H p=U (.dK kvs)/\k = !kvs.isEmpty
 |_=>False
theorem YO{κ:Type}{kvs:List (κ×V)}{vs:List (κ×L)}(r:KV kvs vs):(!vs.isEmpty) = !kvs.isEmpty:=by
 cases r<;>rfl
theorem LR{xs:List V}(r:Vals xs its):(!its.toArray.isEmpty) = !xs.isEmpty:=by
 cases r<;>simp
theorem rT:(Ω:Nat)<2^63:=by rw[Qe];decide
theorem abx:ac5 X (λx H Q=>∃k,Gb X.K x H k/\Q k H):=by
 intro pins s Z H x v Q I rx h;obtain⟨k,e,q⟩:=h;have hl:=rT;have hs:Ω=16777216:=Qe;cases x with
 |aF =>
  cases rx;have e':k=Δ:=e;subst e';exact truthy_none ⟨H,I,q⟩
 |bl b =>
  cases rx;have e':=e;subst e';exact RJ ⟨H,I,q⟩
 |int i =>
  obtain⟨t,rfl⟩:=rx;have e':k=_:=e;subst e';exact PySem.P.truthy_int ⟨H,I,q⟩
 |str y =>
  obtain⟨t,rfl⟩:=rx;obtain⟨hy,e'⟩:y.length<=Ω/\k=((y.length:Int) != 0):=e;subst e';exact PySem.P.truthy_str ∅ ⟨H,I.tok _,q⟩
 |iR y =>
  obtain⟨t,rfl⟩:=rx;obtain⟨hy,e'⟩:y.size<=Ω/\k=((y.size:Int) != 0):=e;subst e';exact PySem.W.truthy_bytes ∅ ⟨H,I.tok _,q⟩
 |ref p =>
  cases rx;have e':(∃xs,bf X.K H p xs/\k = !xs.isEmpty)\/(∃xs,bO X.K H p xs/\k = !xs.isEmpty)\/∃kvs,H p=U (.dK kvs)/\k = !kvs.isEmpty:=e
  rcases e' with⟨xs,hx,e'⟩|⟨xs,hx,e'⟩|⟨kvs,hx,e'⟩
  ·subst e';obtain⟨its,r,pl,hz⟩:=I.list hx;have hlen:=r.length;exact wpAny_truthy_list pl.isList (by simp only[O3];omega) ⟨H,I.tok _,by rw[LR r];exact q⟩
  ·subst e';obtain⟨its,r,pl,hz⟩:=I.tuple hx;have hlen:=r.length;exact truthy_tuple pl (by simp only[O3];omega) ⟨H,I.tok _,by rw[LR r];exact q⟩
  ·subst e';obtain⟨hz,hS,vs,r,m⟩:kvs.length<=Ω/\(p==sysModules)=Δ/\∃vs,KV kvs vs/\s.heap.DictOf (CW X.prog X.w) p vs:=I.hok p _ hx;have hlen:kvs.length=vs.length:=Paired.length r;exact wpAny_truthy_dict hS m ∅ ⟨H,I.tok _,by rw[YO r];exact q⟩
 |_=>exact(show False from e).elim
theorem ajn(ha:PE X a ta)(he:∀whole,isTrue a X.env whole=(do let v <-whole;standAt a.pos;holding [v] (truthy v))) :
  PT X a (λZ H Q=>ta Z H λx H'=>∃k,Gb X.K x H' k/\Q k H'):=by
 intro pins s Z H Q I h;exact isTrue_plain (bx (ha pins s Z H _ I h) λv s1 ⟨x,H1,I1,r1,q1⟩=>abx pins s1 Z H1 x v Q I1 r1 q1) (he _)
theorem ajH:bS X (binaryOp .Add) (λx y H Q=>∃i j,x=.str i/\y=.str j/\i.length+j.length<=Ω/\Q (.str (i++j)) H):=by
 intro pins s Z H x y v u Q I rx ry h;obtain⟨i,j,rfl,rfl,hz,q⟩:=h;obtain⟨t,rfl⟩:=rx;obtain⟨t',rfl⟩:=ry;exact add_str (λt' tk=>⟨.str (i++j),H,I.tok _,⟨_,rfl⟩,q⟩) hz
theorem Po(r:Vals [x] us):∃u,us=[u]/\RelV x u:=by
 cases r with
 |cons r1 r2=>cases r2;exact⟨_,rfl,r1⟩
theorem vals2(r:Vals [x,y] us):∃u w',us=[u,w']/\RelV x u/\RelV y w':=by
 cases r with
 |cons r1 r2 =>
  cases r2 with
  |cons r3 r4=>cases r4;exact⟨_,_,rfl,r1,r3⟩
theorem acp(hc:X.calm=J):dG X (.builtin "max") (λxs H Q=>∃i j,xs=[.int i,.int j]/\Q (.int (if j>i then j else i)) H):=by
 intro pins s Z H xs us Q I r h;obtain⟨i,j,rfl,q⟩:=h;obtain⟨u,w',rfl,⟨t,rfl⟩,⟨t',rfl⟩⟩:=vals2 r;refine max_two_ints (I.ok.hd hc) λh' tk k=>⟨_,H,I.kept k,?_,q⟩
 by_cases hj:j>i
 ·rw[if_pos hj,if_pos hj];exact⟨_,rfl⟩
 ·rw[if_neg hj,if_neg hj];exact⟨_,rfl⟩
theorem aco(hc:X.calm=J):dG X (.builtin "min") (λxs H Q=>∃i j,xs=[.int i,.int j]/\Q (.int (if j<i then j else i)) H):=by
 intro pins s Z H xs us Q I r h;obtain⟨i,j,rfl,q⟩:=h;obtain⟨u,w',rfl,⟨t,rfl⟩,⟨t',rfl⟩⟩:=vals2 r;refine min_two_ints (I.ok.hd hc) λh' tk k=>⟨_,H,I.kept k,?_,q⟩
 by_cases hj:j<i
 ·rw[if_pos hj,if_pos hj];exact⟨_,rfl⟩
 ·rw[if_neg hj,if_neg hj];exact⟨_,rfl⟩
end
structure Gi (h:π) (x dx C:S) (mA:Str->Option L):Prop where
 obj:h.get? x=U (PySem.W.instObj C dx)
 ns:h.Ns1 dx mA
 ne:dx≠x
theorem Xq{h:π}{mA:Str->Option L}(n:h.Ns1 dx mA):∃od,h.get? dx=U od/\∀name,PySem.W.lookIn name od=U (mA name):=by
 obtain⟨o,es,ep,ho,hd,hk,_,hm⟩:=n;refine⟨o,ho,λname=>?_⟩
 have e:=hm name;unfold nsFind findBy at e;rw[<-Array.find?_toList]at e;unfold PySem.W.lookIn;rw[hd];dsimp only;split
 ·rename_i y q;rw[q]at e;exact congrArg U e
 ·rename_i q;rw[q]at e;have a:es.toList.any (·.refKey)=Δ:=by
   rw[Vq];intro y hy;obtain⟨z,t,hkey⟩:=hk y (UA.mp hy);simp[DictEntry.refKey,hkey]
  rw[if_neg (by rw[a];exact PM)]
  exact congrArg U e
theorem Gi.look{mA:Str->Option L}(I:Gi h x dx C mA):∃od,PySem.W.InstAt h x (PySem.W.instObj C dx) C (U od)/\∀name,PySem.W.lookIn name od=U (mA name) :=
 let⟨od,ho,hl⟩:=Xq I.ns
 ⟨od,⟨I.obj,rfl,rfl,ho⟩,hl⟩
section
variable {P:ν}{w:τ}{H H':Hp}{h h':π}{a C dx:S}{fs fs':List (Str×V)}
theorem YU(hok:cW P w H h)(e:H a=U (.ins C dx fs)):∃mA,Gi h a dx C mA/\(∀f,Gf (fs.lookup f) (mA f))/\PySem.Within mA (fs.map (·.1))/\fs.length<=1000/\H dx=U (.own a):=by
 obtain⟨d,z,ne,ob,mA,n,r,q⟩:=(show e9 P w H h a _ from hok a _ e)
 exact⟨mA,⟨ob,n,ne⟩,r,q,z,d⟩
end
structure Gs (K:Ξ) (C:S):Prop where
 pg:PySem.W.plainGet K C Str.empty=J
 hd:PySem.W.hasDictIn K C=J
 po:PySem.W.plainOver K C=J
 sa:PySem.W.findIn K (.ref C) "__setattr__"=U (U (.builtin "object.__setattr__"))
theorem Gs.get{K:Ξ}{C:S}(c:Gs K C)(f:Str):PySem.W.plainGet K C f=J:=c.pg
section
variable {X:Cx}{pins:List (S×Obj)}{Z:St}{H:Hp}{s:Ψ}{A:χ}{E:L->Ψ->Prop}{Q:L->Ψ->Prop}{c:L}{b:Bool}
inductive ju (K:Ξ) (H:Hp):V->L->Prop where
 |aF:ju K H .aF (.type "NoneType")
 |bl (x:Bool):ju K H (.bl x) (.type "bool")
 |int (i:Int):ju K H (.int i) (.type "int")
 |str (x:Str):ju K H (.str x) (.type "str")
 |oK (x:UInt64):ju K H (.oK x) (.type "float")
 |lst {a:S}{xs:List V}(e:H a=U (.lst xs)):ju K H (.ref a) (.type "list")
 |cI {a:S}{o:Obj}{xs:List V}(e:H a=U (.cI o (.lst xs))):ju K H (.ref a) (.type "list")
 |tup {a:S}{xs:List V}(e:H a=U (.tup xs)):ju K H (.ref a) (.type "tuple")
 |dK {a:S}{kvs:List (Key×V)}(e:H a=U (.dK kvs)):ju K H (.ref a) (.type "dict")
 |dT {a:S}{kvs:List (List Key×V)}(e:H a=U (.dT kvs)):ju K H (.ref a) (.type "dict")
 |ins {a C dx:S}{fs:List (Str×V)}(e:H a=U (.ins C dx fs)) (cl:Gs K C) (ha:PySem.W.findIn K (.ref C) "__class__"=U (U (.builtin "object.__class__")))
   (hn:PySem.W.specialIn K (.builtin "object.__class__") "__get__"=U (U (.builtin "getset_descriptor.__get__"))) (htk:PySem.W.takesIn K (.builtin "object.__class__")=U J)
   (hm:PySem.W.mroIn K C (.type "object")=U J):ju K H (.ref a) (.ref C)
theorem YN(I:Inv X pins Z H s)(rx:RelV x u)(ty:ju X.K H x t)(e:PySem.W.kitOne X.K t c=U b)(h:∀tk,Q (.bool b) {s with toks:=tk}):
  wpAny (model X.prog X.w) A (call (.builtin "isinstance") [u,c]) Q E s:=by
 cases ty with
 |aF=>cases(show u=Value.none from rx);exact QH PySem.W.kitx_none I.fS True.intro e (λz=>nomatch z) h
 |bl y=>cases(show u=Value.bool y from rx);exact QH PySem.W.kitx_bool I.fS True.intro e (λz=>nomatch z) h
 |int i=>obtain⟨t,q⟩:=(show ∃t,u=Value.int i t from rx);cases q;exact QH PySem.W.kitx_int I.fS True.intro e (λz=>nomatch z) h
 |str y=>obtain⟨t,q⟩:=(show ∃t,u=Value.str y t from rx);cases q;exact QH PySem.W.kitx_str I.fS True.intro e (λz=>nomatch z) h
 |oK y=>obtain⟨t,q⟩:=(show ∃t,u=Value.float y t from rx);cases q;exact QH PySem.W.kitx_float I.fS True.intro e (λz=>nomatch z) h
 | @lst a xs ea =>
  cases(show u=Value.ref a from rx)
  obtain⟨_,_,n,_,h1⟩:=(show e9 X.prog X.w H s.heap a _ from I.hok a _ ea)
  exact QH Vp I.fS ⟨_,h1,rfl⟩ e (λz=>nomatch z) h
 | @cI a ob xs ea =>
  cases(show u=Value.ref a from rx)
  obtain⟨_,_,_,n,_,h1⟩:=(show e9 X.prog X.w H s.heap a _ from I.hok a _ ea)
  exact QH Vp I.fS ⟨_,h1,rfl⟩ e (λz=>nomatch z) h
 | @tup a xs ea =>
  cases(show u=Value.ref a from rx)
  obtain⟨_,_,_,p⟩:=(show e9 X.prog X.w H s.heap a _ from I.hok a _ ea)
  obtain⟨o,h1,h2,_⟩:=p;exact QH PySem.W.kitx_tuple I.fS ⟨o,h1,h2⟩ e (λz=>nomatch z) h
 | @dK a kvs ea =>
  cases(show u=Value.ref a from rx)
  obtain⟨_,_,vs,_,p⟩:=(show e9 X.prog X.w H s.heap a _ from I.hok a _ ea)
  obtain⟨o,es,ep,h1,h2,_⟩:=p;exact QH U9 I.fS ⟨o,h1,h2.1⟩ e (λz=>nomatch z) h
 | @dT a kvs ea =>
  cases(show u=Value.ref a from rx)
  obtain⟨_,_,xs,_,o,es,ep,h1,h2,_⟩:=(show e9 X.prog X.w H s.heap a _ from I.hok a _ ea)
  exact QH U9 I.fS ⟨o,h1,h2.1⟩ e (λz=>nomatch z) h
 | @ins a C dx fs ea cl ha hn htk hm =>
  cases(show u=Value.ref a from rx)
  obtain⟨mA,η,_⟩:=YU I.hok ea;obtain⟨od,Γ,_⟩:=η.look;exact QH (PySem.W.kitx_own (cl.get _) cl.hd ha hn htk hm) I.fS Γ e (λz=>nomatch z) h
end
structure cK (k:Nat) (A:χ):Prop where
 hd:A.handled=O
 dp:A.depth+3*k+5<recursionLimit
 un:A.units+16*k+200<O8
theorem cK.mono(r:cK k A)(h:j<=k):cK j A:=⟨r.hd,by have:=r.dp;omega,by have:=r.un;omega⟩
theorem cK.deeper(r:cK (k+1) A)(env:Env):cK k (A.deeper env) :=
 ⟨r.hd,by have:=r.dp;show A.depth+1+3*k+5<_;omega,by have:=r.un;show A.units+3+16*k+200<_;omega⟩
theorem cK.depth(r:cK k A):A.depth<recursionLimit:=by have:=r.dp;omega
theorem cK.units(r:cK k A):A.units+64<O8:=by have:=r.un;omega
def xD:TA:=λ_ H Q=>Q [] H
def xF(ta:TE)(tr:TA):TA:=λZ H Q=>ta Z H λx H1=>tr Z H1 λxs H2=>Q (x::xs) H2
section
variable {X:Cx}{e:μ}{es:List μ}{te:TE}{t:TA}{pos:Pos}
theorem lA:PA X [] xD:=λ_ _ _ _ H Q I h=>Calls.spliced_nil ⟨[],H,I,.nil,h⟩
theorem jJ(ha:PE X e te)(hr:PA X es t)(hs:ε (e::es) X.env=(Δ,eval e X.env)::ε es X.env:=by rfl):PA X (e::es) (xF te t):=by
 intro pos pins s Z H Q I h;rw[hs];show wpAny _ _ (spliced ((Δ,eval e X.env)::OY pos (ε es X.env))) _ _ s;refine Calls.spliced_cons (bx (ha pins s Z H _ I h) λu s1 ⟨x,H1,I1,r1,q1⟩=>?_)
 exact bx (hr pos pins s1 Z H1 _ I1 q1) λus s2 ⟨xs,H2,I2,r2,q2⟩=>⟨x::xs,H2,I2,.cons r1 r2,q2⟩
def aga(t:TA):TE:=λZ H Q=>t Z H λxs H1=>xs.length<=Ω/\∀p,H1 p=O->Q (.ref p) (upd H1 p (.tup xs))
def agu(t:TA):TE:=λZ H Q=>t Z H λxs H1=>xs.length<=Ω/\∀p,H1 p=O->Q (.ref p) (upd H1 p (.lst xs))
theorem ai4{x1}(h:PA X es t):PE X (.Tuple es x1 pos) (aga t):=by
 intro pins s Z H Q I hq;refine wpAny_Tuple_spliced (bx (h pos pins s Z H _ I hq) λus s1 ⟨xs,H1,I1,r,z,q⟩=>⟨by rw[<-r.length];exact z,?_⟩)
 have hf:H1 s1.heap.objs.size=O:=I1.hok.fresh (AP _);refine⟨.ref s1.heap.objs.size,upd H1 s1.heap.objs.size (.tup xs),I1.laid (t':=s1.toks) (λb u e=>H8 _ e) (AP _) ?_,rfl,q _ hf⟩
 exact⟨z,us,r,⟨_,O5 _ rfl,rfl,⟨_,rfl⟩,rfl⟩⟩
theorem JC(h:PA X es t):PE X (.List es pos) (agu t):=by
 intro pins s Z H Q I hq;refine wpAny_List_spliced (bx (h pos pins s Z H _ I hq) λus s1 ⟨xs,H1,I1,r,z,q⟩=>⟨by rw[<-r.length];exact z,?_⟩)
 have hf:H1 s1.heap.objs.size=O:=I1.hok.fresh (AP _);refine⟨.ref s1.heap.objs.size,upd H1 s1.heap.objs.size (.lst xs),I1.laid (t':=s1.toks) (λb u e=>H8 _ e) (AP _) ?_,rfl,q _ hf⟩
 exact⟨z,us,0,r,O5 _ rfl⟩
end
abbrev Sp:=List V->Hp->VK->XK->Prop
abbrev oZ:=List Env->Hp->Ψ->XK->L->Ψ->Prop
structure sU (P:ν) (w:τ) (K:Ξ) (mg:Str->Option L) (base:π) (A:χ) (outer:List Env) (s:Ψ) (H:Hp):Prop where
 frames:A.frames=U outer
 mod:Mod K mg base
 bs:∀b o,base.get? b=U o->s.heap.get? b=U o/\H b=O
 jb:base.objs.size<=s.heap.objs.size
 iK:s.heap.FunFrames base outer
 lN:∀b∈frs outer,H b=O
 hok:cW P w H s.heap
 bare:Qo s.gens
def CE(outer:List Env)(P:ν)(w:τ)(H:Hp)(s:Ψ)(Q:VK)(u:L)(s':Ψ):Prop :=
 ∃v H',s'.os=s.os/\Qo s'.gens/\Un (frs outer) [] H H' s.heap s'.heap/\cW P w H' s'.heap/\RelV v u/\Q v H'
def CR(CX:oZ)(outer:List Env)(P:ν)(w:τ)(H:Hp)(s:Ψ)(Q:VK)(E:XK)(r:Result)(s':Ψ):Prop :=
 match r with
 |.ok (.ret u)=>CE outer P w H s Q u s'
 |.ok _=>False
 |.error e=>CX outer H s E e s'
structure d9 (P:ν) (w:τ) (K:Ξ) (mg:Str->Option L) (base:π) (CX:oZ) (k:Nat) (f:S) (fd:PU) (ps:List Str) (sp:Sp):Prop where
 len:∀vs H Q E,sp vs H Q E->vs.length=ps.length
 run:∀(A:χ) (outer:List Env) (s:Ψ) (H:Hp) (args:Args) (us:List L) (vs:List V) (Q:VK) (E:XK),cK k A->sU P w K mg base A outer s H->RU s fd args (ps.zip us)->Vals vs us->sp vs H Q E ->
  codeAny (model P w) A (.call (.ref f) args) (CR CX outer P w H s Q E) s
section
variable {X:Cx}{pins:List (S×Obj)}{Z:St}{H:Hp}{s s':Ψ}
theorem Inv.Eu(I:Inv X pins Z H s):sU X.prog X.w X.K X.mg X.base X.A X.stack s H :=
 ⟨I.ok.frames,I.ok.mod,I.bs,PJ I.ok.jb I.sz,I.stack,I.BB,I.hok,I.bare⟩
theorem Inv.after(I:Inv X pins Z H s)(h:CE X.stack X.prog X.w H s Q u s'):EP X pins Z Q u s':=by
 obtain⟨v,H',os,bare,un,hok,r,q⟩:=h;obtain⟨hh,g,d,t,os'⟩:=s';obtain rfl:os'=s.os:=os;exact⟨v,H',I.call (h':=hh) (g':=g) (d':=d) (t':=t) (ch:=[]) un hok bare (λb z=>absurd z (by simp)),r,q⟩
end
def Hz(sp:Sp)(oM:List V)(E:XK)(t:TA):TE:=λZ H Q=>t Z H λvs H1=>sp (vs++oM) H1 Q E
def Binds(K:Ξ)(fd:PU)(ps:List Str)(ds:List L):Prop :=
 ∀(s:Ψ) (us:List L),K.In s.heap->(us++ds).length=ps.length->RU s fd ⟨us,[]⟩ (ps.zip (us++ds))
theorem Binds.all{K:Ξ}{fd:PU}{ps:List Str}(h:∀us:List L,us.length=ps.length->bindArgs fd ⟨us,[]⟩=pure (ps.zip us)):Binds K fd ps []:=λs us _ hl=>by
 rw[QX]at hl ⊢;exact .of_eq (h us hl)
def Passes(CX:oZ)(X:Cx)(E:XK):Prop:=∀(pins:List (S×Obj)) (Z:St) (H:Hp) (s:Ψ) (e:L) (s':Ψ),Inv X pins Z H s->CX X.stack H s E e s'->X.xe e s'
section
variable {X:Cx}{CX:oZ}{k:Nat}{f C:S}{fd:PU}{ps:List Str}{sp:Sp}{oM:List V}{ds:List L}{E:XK}{x m:Str}{p pos apos:Pos}{e o:μ}{es:List μ}{ta:TE}{t:TA}
theorem agY(F:d9 X.prog X.w X.K X.mg X.base CX k f fd ps sp)(hr:cK k X.A)(hb:Binds X.K fd ps ds)(hd:Vals oM ds)(hx:Passes CX X E)(I:Inv X pins Z H s)(r:Vals vs us)(h:sp (vs++oM) H Q E):wpAny (model X.prog X.w) X.A (call (.ref f) us) (EP X pins Z Q) X.xe s:=by
 have r2:Vals (vs++oM) (us++ds):=r.append hd;have hl:(us++ds).length=ps.length:=by rw[<-r2.length];exact F.len _ _ _ _ h
 refine Ry (QW (F.run X.A X.stack s H ⟨us,[]⟩ (us++ds) (vs++oM) Q E hr I.Eu (hb s us I.fS hl) r2 h) λr s' hq=>?_)
 cases r with
 |error e=>exact hx pins Z H s e s' I hq
 |ok fl =>
  cases fl with
  |ret u=>exact I.after hq
  |next=>exact False.elim hq
  |brk=>exact False.elim hq
  |cont=>exact False.elim hq
theorem aiZ(F:d9 X.prog X.w X.K X.mg X.base CX k f fd ps sp)(hr:cK k X.A)(hg:Gl X x)(hm:X.mg x=U (.ref f))(hk:PySem.W.keepIn X.K (.ref f)=J)(hb:Binds X.K fd ps ds)(hd:Vals oM ds)(hx:Passes CX X E)
  (ha:PA X (e::es) t) (hdb:(x==("__debug__":Str))=Δ:=by decide) (he:ε (e::es) X.env=(Δ,eval e X.env)::ε es X.env:=by rfl) (hpl:(OY pos (ε es X.env)).any (·.1)=Δ:=by rfl) :
  PE X (.Call (.Name x p) (e::es) [] pos) (Hz sp oM E t):=by
 intro pins s Z H Q I h;refine S5 (C9 I hg hm ?_ hdb);refine Vo (h₀:=X.base) I.ok.mod.mR hk (bx (ha pos pins s Z H _ I h) λus s1 ⟨vs,H1,I1,r,q⟩=>⟨I1.fS,?_⟩) he hpl
 exact agY F hr hb hd hx I1 r q
end
structure iS (N P:List Str) (sc:P7):Prop where
 kind:sc.kind=.function
 co:sc.isCoroutine=Δ
 gen:sc.isGenerator=Δ
 nd:N.Nodup
 pre:N.take P.length=P
 par:∀x∈P,sc.names.lookup x=U .local\/sc.names.lookup x=U .cell
 Wg:∀y∈sc.names,y.2≠.free
theorem Oo{kindOf:Str->Option PN}:∀{binds:List (Str×L)}{m:Str->Option L},(∀v,(x,v)∉binds)->bindL kindOf binds m x=m x
 |[],_,_=>rfl
 |(n,v)::r,m,h=>by
  unfold bindL;rw[Oo λw hw=>h w (Pr _ hw)]
  split
  ·have:x≠n:=by rintro rfl;exact h v Pu
   simp[this]
  ·rfl
theorem Ot{kindOf:Str->Option PN}:∀{binds:List (Str×L)}{m:Str->Option L},(∀v,(x,v)∉binds)->bindC kindOf binds m x=m x
 |[],_,_=>rfl
 |(n,v)::r,m,h=>by
  unfold bindC;rw[Ot λw hw=>h w (Pr _ hw)]
  split
  ·rfl
  ·have:x≠n:=by rintro rfl;exact h v Pu
   simp[this]
theorem Oq{kindOf:Str->Option PN}:∀{P:List Str}{vs:List L}{i:Nat}{m:Str->Option L},P.Nodup->P[i]? = U x->vs[i]? = U v->kindOf x=U .local ->
  bindL kindOf (P.zip vs) m x=U v
 |[],_,_,_,_,h,_,_=>by simp at h
 |_::_,[],_,_,_,_,h,_=>by simp at h
 |p::P,w::vs,0,m,nd,h1,h2,hk=>by
  simp at h1 h2;subst h1;subst h2;show bindL kindOf ((p,w)::P.zip vs) m p=_;unfold bindL;rw[Oo λv hv=>(QV.mp nd).1 (S4 hv).1,if_pos hk]
  simp
 |p::P,w::vs,i+1,m,nd,h1,h2,hk=>by
  show bindL kindOf ((p,w)::P.zip vs) m x=_;unfold bindL;exact Oq (i:=i) (QV.mp nd).2 (by simpa using h1) (by simpa using h2) hk
theorem Ou{kindOf:Str->Option PN}:∀{P:List Str}{vs:List L}{i:Nat}{m:Str->Option L},P.Nodup->P[i]? = U x->vs[i]? = U v->kindOf x≠U .local ->
  bindC kindOf (P.zip vs) m x=U v
 |[],_,_,_,_,h,_,_=>by simp at h
 |_::_,[],_,_,_,_,h,_=>by simp at h
 |p::P,w::vs,0,m,nd,h1,h2,hk=>by
  simp at h1 h2;subst h1;subst h2;show bindC kindOf ((p,w)::P.zip vs) m p=_;unfold bindC;rw[Ot λv hv=>(QV.mp nd).1 (S4 hv).1,if_neg hk]
  simp
 |p::P,w::vs,i+1,m,nd,h1,h2,hk=>by
  show bindC kindOf ((p,w)::P.zip vs) m x=_;unfold bindC;exact Ou (i:=i) (QV.mp nd).2 (by simpa using h1) (by simpa using h2) hk
def start(N:List Str)(vs:List V):St:=vs.map U++ο (N.length-vs.length) O
def lU(CX:oZ)(P:ν)(w:τ)(K:Ξ)(mg:Str->Option L)(base:π)(N:List Str)(qual:Str)(scope:P7)(f:S)(cd:L)(A:χ)(outer:List Env)(s:Ψ)(H:Hp)(E:XK):Cx where
 prog:=P
 w:=w
 K:=K
 mg:=mg
 base:=base
 A:=A.deeper (envOfC qual scope s.heap.objs.size f cd)
 N:=N
 s₀:=s
 H₀:=H
 env:=envOfC qual scope s.heap.objs.size f cd
 outer:=outer
 stack:=envOfC qual scope s.heap.objs.size f cd::outer
 ex:=[]
 calm:=J
 fn:=λ_=>J
 pn:=[]
 xe:=λe s'=>wpAny (model P w) (A.deeper (envOfC qual scope s.heap.objs.size f cd)) (leaving (envOfC qual scope s.heap.objs.size f cd) e) (λ_ s''=>CX outer H s E e s'') (λe' s''=>CX outer H s E e' s'') s'
theorem Oc{sc:P7}(h:sc.names.lookup x=U .cell):∃c,(cellsFrom n sc.names []).lookup x=U c:=by
 have q:=T4 sc.names n [] (.inl h);exact T3.mp q
theorem YQ{CX:oZ}{w:τ}{K:Ξ}{mg:Str->Option L}{base:π}{qual:Str}{scope:P7}{f:S}{cd:L}{A:χ}{s s1:Ψ}{H:Hp}{E:XK}{vs:List V}(Θ:iS N ps scope)(hd:A.handled=O)(e0:sU P w K mg base A outer s H)(hl:vs.length=ps.length)(r:Vals vs us)(x:InCallC s s.heap.objs.size (bindL (envOfC qual scope s.heap.objs.size f cd).kindOf (ps.zip us) λ_=>O) (cellsFrom (s.heap.objs.size+1) scope.names []) (bindC (envOfC qual scope s.heap.objs.size f cd).kindOf (ps.zip us) λ_=>O) s1):
  Inv (lU CX P w K mg base N qual scope f cd A outer s H E) [] (start N vs) H s1:=by
 have hpl:ps.length<=N.length:=by have:=congrArg List.length Θ.pre;rw[S3]at this;omega
 obtain⟨h1,tk,rfl,hk⟩:=x.done;have mF:∀b:S,b∉(lU CX P w K mg base N qual scope f cd A outer s H E).ex:=λb z=>absurd (show b∈([]:List S)from z) (by simp)
 refine⟨⟨e0.mod,Θ.kind,rfl,rfl,AP _,λy z c h1 h2=>?_,λy hy=>?_,λy c _ h=>?_,λ_=>hd,Around.frames_deeper e0.frames,.inr ⟨rfl,rfl⟩,λb z=>absurd z (mF b),e0.bs,e0.jb,λb _ _=>mF b,λb z=>absurd z (mF b),e0.iK,e0.lN⟩,
  rfl,e0.bare,Un.kept hk,⟨_,x.toInCall.ns,λi y v h1 h2 h3=>?_⟩,λy c h=>⟨_,x.cell y c h⟩,e0.hok.fresh (AP _),λy c h=>?_,λp hp=>absurd (show p∈([]:List (S×Obj))from hp) (by simp),e0.hok.kept hk,?_⟩
 ·exact name_of_addr x.apart (QU h1) (QU h2)
 ·have hy:scope.names.lookup y=U .cell\/scope.names.lookup y=U .free:=hy
  rcases hy with hy|hy
  ·exact Oc hy
  ·exact absurd rfl (Θ.Wg _ (QU hy))
 ·exact R4 (x.above y c (QU h))
 ·have hi:i<vs.length:=by
   unfold start at h2
   by_cases hi:i<vs.length
   ·exact hi
   ·rw[QT (by simpa using hi)]at h2
    rw[Vn]at h2;split at h2<;>cases h2
  have ha:vs[i]? = U v:=by
   unfold start at h2;rw[Pn (by simpa using hi),PK]at h2
   cases e:vs[i]? with
   |none=>rw[e]at h2;cases h2
   |some a=>rw[e]at h2;cases h2;rfl
  obtain⟨u,hu,rv⟩:=r.get ha;have hp:ps[i]? = U y:=by
   rw[<-Θ.pre,Vm ∅];exact h1
  have KA:ps.Nodup:=by rw[<-Θ.pre];exact Θ.nd.sublist (Sz _ _)
  refine⟨u,rv,?_⟩
  rcases Θ.par y (P8 hp)with k|k
  ·exact .inl ⟨k,Oq KA hp hu k⟩
  ·obtain⟨c,e⟩:=Oc (n:=s.heap.objs.size+1) k;refine .inr ⟨.inl k,c,e,?_⟩;have q:=x.cell y c e;rw[Ou KA hp hu (by show scope.names.lookup y≠_;rw[k];decide)]at q
   exact q
 ·exact e0.hok.fresh (R4 (x.above y c (QU h)))
 ·unfold start;show _=N.length;rw[Pf,O2,List.length_replicate];omega
theorem Nh{K:Ξ}{mg:Str->Option L}{base:π}{name qual:Str}{params:RV}{body:List x6}{scope:P7}{kV doc:L}(lk:K.lookup f=U ⟨oc,od,.func (PySem.W.fnOf name qual params body scope dV kV doc pm an cdv ct),osl⟩)(hcd:PySem.W.codeIn K cdv qual=J)(Θ:iS N ps scope)(len:∀vs H Q E,sp vs H Q E->vs.length=ps.length)(hbody:∀(A:χ) (outer:List Env) (s:Ψ) (H:Hp) (vs:List V) (Q:VK) (E:XK),cK k (A.deeper (envOfC qual scope s.heap.objs.size f cdv))->sp vs H Q E ->
   ∃t,gI (lU CX P w K mg base N qual scope f cdv A outer s H E) body t/\t {nx:=λ_ H'=>Q .aF H',rt:=Q} (start N vs) H):
  d9 P w K mg base CX (k+1) f (PySem.W.fnOf name qual params body scope dV kV doc pm an cdv ct) ps sp:=by
 refine⟨len,λA outer s H args us vs Q E hr e0 hb r oA=>?_⟩
 have hl:=len _ _ _ _ oA;have KX:=e0.mod.mR.keeps λb o e=>(e0.bs b o e).1
 have hkind:∀y∈ps.zip us,scope.names.lookup y.1=U .local\/(scope.names.lookup y.1=U .cell/\((cellsFrom (s.heap.objs.size+1) scope.names []).lookup y.1).isSome=J):=fun⟨n,v⟩ hy=>by
  rcases Θ.par n (S4 hy).1 with q|q
  ·exact .inl q
  ·exact .inr ⟨q,T4 _ _ _ (.inl q)⟩
 refine codeAny_call_function hr.depth (KX _ _ lk) rfl Θ.co Θ.gen rfl (PySem.W.codeRec_of KX hcd) (hb _ _ _ _ ?_);refine wpAny_newFunctionEnv_cells Θ.kind hkind λenv he s1 x=>?_
 subst he;refine⟨(e0.mod.nolimit.keeps λb o e=>(e0.bs b o e).1).keeps x.toInCall.keep,codeAny_func ?_⟩
 obtain⟨t,ht,hq⟩:=hbody A outer s H vs Q E (hr.deeper _) oA;refine Pg (ht [] s1 (start N vs) H _ (YQ Θ hr.hd e0 hl r x) hq) (λfl s' hs=>?_) λe s' hs=>hs
 have fin:∀{σ':St}{H':Hp}{v:V}{u:L},Inv (lU CX P w K mg base N qual scope f cdv A outer s H E) [] σ' H' s'->RelV v u->Q v H'->CE outer P w H s Q u s' :=
  fun{σ' H' v u} Γ rv q=>⟨v,H',Γ.os,Γ.bare,Γ.base,Γ.hok,rv,q⟩
 cases fl with
 |ret u =>
  obtain⟨v,σ',H',Γ,rv,q⟩:=hs;exact fin Γ rv q
 |next =>
  obtain⟨σ',H',Γ,q⟩:=hs;exact fin (v:=V.aF) Γ rfl q
 |brk =>
  obtain⟨_,_,_,q⟩:=hs;exact False.elim q
 |cont =>
  obtain⟨_,_,_,q⟩:=hs;exact False.elim q
section
variable {X:Cx}{x:Str}{p pos:Pos}{e:μ}{es:List μ}{t:TA}{id T:String}{r:List V->Hp->VK->Prop}
def xG(r:List V->Hp->VK->Prop)(t:TA):TE:=λZ H Q=>t Z H λvs H1=>r vs H1 Q
theorem x8(hc:dG X (.builtin id) r)(hg:Gl X x)(hm:X.mg x=O)(hv:bootBuiltins x=U (.builtin id))(ha:PA X (e::es) t)(hn:x≠"__name__":=by decide)(hdb:(x==("__debug__":Str))=Δ:=by decide)
  (he:ε (e::es) X.env=(Δ,eval e X.env)::ε es X.env:=by rfl) (hpl:(OY pos (ε es X.env)).any (·.1)=Δ:=by rfl):PE X (.Call (.Name x p) (e::es) [] pos) (xG r t):=by
 intro pins s Z H Q I h;exact S5 (mQ I hg hm hv (PyProof.Rows.callWith_builtin1 (bx (ha pos pins s Z H _ I h) λus s1 ⟨vs,H1,I1,r1,q1⟩=>hc pins s1 Z H1 vs us Q I1 r1 q1) he hpl) hn hdb)
theorem uh(hc:dG X (.type T) r)(hg:Gl X x)(hm:X.mg x=O)(hv:bootBuiltins x=U (.type T))(ha:PA X (e::es) t)(hn:x≠"__name__":=by decide)(hdb:(x==("__debug__":Str))=Δ:=by decide)
  (he:ε (e::es) X.env=(Δ,eval e X.env)::ε es X.env:=by rfl) (hpl:(OY pos (ε es X.env)).any (·.1)=Δ:=by rfl):PE X (.Call (.Name x p) (e::es) [] pos) (xG r t):=by
 intro pins s Z H Q I h;refine S5 (mQ I hg hm hv ?_ hn hdb);exact RE (bx (ha pos pins s Z H _ I h) λus s1 ⟨vs,H1,I1,r1,q1⟩=>hc pins s1 Z H1 vs us Q I1 r1 q1) he hpl
end
end L2
namespace HT
open PySem PyProof.Rows
section
variable {prog:ν}{w:τ}{A:χ}{E:L->Ψ->Prop}{s:Ψ}
theorem acj{vs ws:List L}{Q:L->Ψ->Prop}(ht:IsTup s.heap t vs.toArray)(hb:IsTup s.heap b ws.toArray)(hv:vs≠[])(h1:ws=[]->Q (.ref t) s)(h2:ws≠[]->Q (.ref s.heap.objs.size) {s with heap:=s.heap.push {cls:=.type "tuple",data:=.seq (vs++ws).toArray} })(hsz:vs.length+ws.length<=Ω):wpAny (model prog w) A (binaryOp .Add (.ref t) (.ref b)) Q E s:=by
 obtain⟨⟨cls,dd,data,sl⟩,ho,hc,n,hd⟩:=id ht;obtain⟨⟨ab9,dd2,data2,sl2⟩,ho2,hc2,n2,hd2⟩:=id hb;simp only at hc hd hc2 hd2;subst hc hd hc2 hd2;have e:vs.toArray++ws.toArray=(vs++ws).toArray:=by simp
 by_cases hw:ws=[]
 ·exact U8 ⟨_,ho,rfl⟩ ⟨_,ho2,rfl⟩ U7 Uc Ub Ua (UZ _ _)
   (tuple_addW1 t b vs.toArray ws.toArray n n2 dd dd2 sl sl2 (by simpa using hv) (by simp[hw])) ⟨ho,ho2,h1 hw⟩
 ·refine U8 ⟨_,ho,rfl⟩ ⟨_,ho2,rfl⟩ U7 Uc Ub Ua (UZ _ _)
   (tuple_addW2 t b vs.toArray ws.toArray n n2 dd dd2 sl sl2 (by simpa using hv) (by simpa using hw) (by rw[O3,O3];exact hsz)) ⟨ho,ho2,?_⟩
  rw[e];exact h2 hw
def gO(n d:Nat):Option Int->Nat
 |none=>d
 |some v=>if v<0 then(v+(n:Int)).toNat else min v.toNat n
theorem BV(n d:Nat):gO n d O=d:=rfl
theorem BW(n d k:Nat):gO n d (U (k:Int))=min k n:=by
 show(if(k:Int)<0 then((k:Int)+(n:Int)).toNat else min (k:Int).toNat n)=min k n
 rw[if_neg ∅,RD]
end
end HT
namespace L2
open PySem PySem.Spec PyProof.Rows
abbrev TO:=St->Hp->(Option Int->Hp->Prop)->Prop
def PO(X:Cx)(e:Option μ)(t:TO):Prop :=
 ∀(pins:List (S×Obj)) (s:Ψ) (Z:St) (H:Hp) (Q:Option Int->Hp->Prop),Inv X pins Z H s->t Z H Q ->
  wpAny (model X.prog X.w) X.A (evalPart e X.env) (λu s'=>∃o H',Inv X pins Z H' s'/\IsPart u o/\Q o H') X.xe s
def agg:TO:=λ_ H Q=>Q O H
def agk(t:TE):TO:=λZ H Q=>t Z H λx H1=>∃i,x=.int i/\Q (U i) H1
theorem intsAre_of{ns:List Int}:∀{us:List L},Vals (ns.map V.int) us->QK us ns:=by
 induction ns with
 |nil=>intro us r;rw[List.map_nil]at r;cases r;exact .nil
 |cons n ns ih =>
  intro us r;rw[O6]at r;cases r with
  |cons r1 r2 =>
   obtain⟨t,e⟩:=r1;subst e;exact .cons n t (ih r2)
section
variable {X:Cx}{e:μ}{te:TE}{lo hi:Option μ}{tl th:TO}{pos p2:Pos}
theorem abd:PO X O agg:=by
 intro pins s Z H Q I h;rw[evalPart_none];exact dD ⟨O,H,I,.none,h⟩
theorem ac6(h:PE X e te):PO X (U e) (agk te):=by
 intro pins s Z H Q I hw;rw[evalPart_some];refine bx (h pins s Z H _ I hw) λu s1 ⟨x,H1,I1,r1,q1⟩=>?_
 obtain⟨i,rfl,q⟩:=q1;obtain⟨t,rfl⟩:=r1;exact⟨U i,H1,I1,.int i t,q⟩
def OL(X:Cx)(r:V->Option Int->Option Int->Hp->VK->Prop):Prop :=
 ∀(pins:List (S×Obj)) (s:Ψ) (Z:St) (H:Hp) (x:V) (v vl vu:L) (lo hi:Option Int) (sl:S) (Q:VK),Inv X pins Z H s->RelV x v->s.heap.IsSliceOf sl vl vu .none->IsPart vl lo->IsPart vu hi->r x lo hi H Q ->
  ∃T id,typeLookup (.type T) "__getitem__"=pure (U (.builtin id))/\s.TypeIs v T/\wpAny (model X.prog X.w) X.A (getItem v (.ref sl)) (EP X pins Z Q) X.xe s
def ago(r:V->Option Int->Option Int->Hp->VK->Prop)(te:TE)(tl th:TO):TE:=λZ H Q=>te Z H λx H1=>tl Z H1 λl H2=>th Z H2 λu H3=>r x l u H3 Q
theorem ai2{r:V->Option Int->Option Int->Hp->VK->Prop}(hr:OL X r)(he:PE X e te)(hl:PO X lo tl)(hu:PO X hi th):PE X (.Subscript e (.Slice lo hi O p2) pos) (ago r te tl th):=by
 intro pins s Z H Q I h;refine Subscript_ (bx (he pins s Z H _ I h) λv s1 ⟨x,H1,I1,r1,q1⟩=>?_)
 refine wpAny_Slice (bx (hl pins s1 Z H1 _ I1 q1) λvl s2 ⟨l,H2,I2,pl,q2⟩=>bx (hu pins s2 Z H2 _ I2 q2) λvu s3 ⟨u,H3,I3,pu,q3⟩=>?_)
 rw[evalPart_none];refine dD ?_;have I4:Inv X pins Z H3 {s3 with heap:=s3.heap.push {cls:=.type "slice",data:=.fields #[vl,vu,.none]} }:=I3.kept (t':=s3.toks) λb ob q=>H8 _ q
 obtain⟨T,id,hT,ht,hg⟩:=hr pins {s3 with heap:=s3.heap.push {cls:=.type "slice",data:=.fields #[vl,vu,.none]} } Z H3 x v vl vu l u s3.heap.objs.size Q I4 r1 (Heap.IsSliceOf.new ..) pl pu q3
 show wpAny (model X.prog X.w) X.A (subscriptTail e (.Slice lo hi O p2) v (.ref s3.heap.objs.size)) (EP X pins Z Q) X.xe {s3 with heap:=s3.heap.push {cls:=.type "slice",data:=.fields #[vl,vu,.none]} }
 exact tail_any (ops:=[.ref s3.heap.objs.size,v]) ht hT hg (by with_unfolding_all rfl)
def vP(xs:List V)(lo hi:Option Int):List V:=(xs.drop (HT.gO xs.length 0 lo)).take (HT.gO xs.length xs.length hi-HT.gO xs.length 0 lo)
theorem abJ(xs:List V)(lo hi:Option Int):(vP xs lo hi).length<=xs.length:=by
 unfold vP;rw[S3,List.length_drop];omega
def ahx(K:Ξ):R2:=λx y H Q=>∃a b xs ys,x=.ref a/\y=.ref b/\bO K H a xs/\bO K H b ys/\xs≠[]/\xs.length+ys.length<=Ω /\
 (ys=[]->Q (.ref a) H)/\(ys≠[]->∀p,H p=O->Q (.ref p) (upd H p (.tup (xs++ys))))
theorem Vals.CG{xs:List V}(r:Vals xs us):us=[]↔xs=[]:=by
 cases r with
 |nil=>simp
 |cons _ _=>simp
theorem JT:bS X (binaryOp .Add) (ahx X.K):=by
 intro pins s Z H x y v u Q I rx ry h;obtain⟨a,b,xs,ys,rfl,rfl,ha,hb,hx,hz,q1,q2⟩:=h;cases rx;cases ry;obtain⟨its,r1,p1,_⟩:=I.tuple ha;obtain⟨its2,r2,p2,_⟩:=I.tuple hb;refine HT.acj p1 p2 (λz=>hx (r1.CG.mp z)) (λz=>⟨.ref a,H,I,rfl,q1 (r2.CG.mp z)⟩) (λz=>?_) (by rw[<-r1.length,<-r2.length];exact hz)
 refine⟨.ref s.heap.objs.size,_,I.laid (t':=s.toks) (o:=.tup (xs++ys)) (λb ob q=>H8 _ q) (AP _) ?_,rfl,q2 (λw=>z (r2.CG.mpr w)) _ (I.hok.fresh (AP _))⟩
 exact⟨by rw[Pf];exact hz,_,r1.append r2,nt.new _ _⟩
end
def gV(n:Nat)(i:Int):Option Nat:=if 0<=i then(if i<n then U i.toNat else O)else if -(n:Int)<=i then U (i+n).toNat else O
def dY{α:Type}(xs:List α)(i:Int):Option α:=(gV xs.length i).bind λj=>xs[j]?
theorem LL(h:gV n i=U j):seqIndex? i n=U j/\j<n/\-(n:Int)<=i/\i<n:=by
 unfold gV at h
 by_cases h0:0<=i
 ·rw[if_pos h0]at h
  by_cases h1:i<n
  ·rw[if_pos h1]at h;have e:i.toNat=j:=P0 h;exact⟨by rw[seqIndex_of h0 h1,e],∅,∅,h1⟩
  ·rw[if_neg h1]at h;cases h
 ·rw[if_neg h0]at h
  by_cases h1:-(n:Int)<=i
  ·rw[if_pos h1]at h;have e:(i+n).toNat=j:=P0 h;exact⟨by rw[seqIndex_neg ∅ h1,e],∅,h1,∅⟩
  ·rw[if_neg h1]at h;cases h
theorem OB{α:Type}{xs:List α}{i:Int}{v:α}(h:dY xs i=U v):∃j,seqIndex? i xs.length=U j/\xs[j]? = U v/\j<xs.length/\-(xs.length:Int)<=i/\i<xs.length:=by
 unfold dY at h;cases e:gV xs.length i with
 |none=>rw[e]at h;cases h
 |some j =>
  rw[e]at h;obtain⟨h1,h2,h3,h4⟩:=LL e;exact⟨j,h1,h,h2,h3,h4⟩
theorem kP{α:Type}{xs:List α}{j:Nat}{v:α}(h:xs[j]? = U v):dY xs (j:Int)=U v:=by
 have hj:j<xs.length:=(OX.mp h).1;have e:gV xs.length (j:Int)=U j:=by
  unfold gV;rw[if_pos ∅,if_pos ∅];simp
 unfold dY;rw[e];exact h
def OM(b:μ):Prop:=∀o i,subscripted b Δ o i=operate [o,i] (getItem o i)
def sR(X:Cx)(r:R2):Prop :=
 ∀(value slice:μ) (pins:List (S×Obj)) (s:Ψ) (Z:St) (H:Hp) (x y:V) (v u:L) (Q:VK),Inv X pins Z H s->RelV x v->RelV y u->r x y H Q ->
  subscripted slice Δ v u=operate [v,u] (getItem v u)->wpAny (model X.prog X.w) X.A (subscriptTail value slice v u) (EP X pins Z Q) X.xe s
def MtR(X:Cx)(id:String)(r:V->List V->Hp->VK->Prop):Prop :=
 ∀(pins:List (S×Obj)) (s:Ψ) (Z:St) (H:Hp) (x:V) (xs:List V) (v:L) (us:List L) (Q:VK),Inv X pins Z H s->RelV x v->Vals xs us->r x xs H Q ->
  wpAny (model X.prog X.w) X.A (call (.builtin id) (v::us)) (EP X pins Z Q) X.xe s
section
variable {X:Cx}{a b:μ}{ta tb:TE}{pos:Pos}
theorem abk(hr:sR X r)(ha:PE X a ta)(hb:PE X b tb)(hs:OM b):PE X (.Subscript a b pos) (xC r ta tb):=by
 intro pins s Z H Q I h;exact Subscript_ (ET ha hb I h λv u s2 x y H2 I2 rx ry q=>hr a b pins s2 Z H2 x y v u Q I2 rx ry q (hs _ _))
def aiq(K:Ξ):R2:=λx y H Q=>∃p xs i v,x=.ref p/\y=.int i/\bf K H p xs/\dY xs i=U v/\Q v H
def air(K:Ξ):R2:=λx y H Q=>∃p xs i v,x=.ref p/\y=.int i/\bO K H p xs/\dY xs i=U v/\Q v H
theorem YC:sR X (aiq X.K):=by
 intro value slice pins s Z H x y v u Q I rx ry h hs;obtain⟨p,xs,i,z,rfl,rfl,hq,he,q⟩:=h;cases rx;obtain⟨t,rfl⟩:=ry;obtain⟨its,r,pl,hz⟩:=I.list hq;obtain⟨j,h1,h2,h3,h4,h5⟩:=OB he;obtain⟨w,ew,rw'⟩:=r.get h2;have hl:=r.length;have hn:=rT;have fin:EP X pins Z Q w s:=⟨z,H,I,rw',q⟩
 by_cases h0:0<=i
 ·have hj:i.toNat=j:=by
   rw[seqIndex_of h0 h5]at h1;exact P0 h1
  exact item_listR pl.isList h0 ∅ (by rw[hj];simpa using ew) fin hs
 ·have hj:(i+(its.toArray.size:Int)).toNat=j:=by
   rw[seqIndex_neg ∅ h4]at h1
   rw[O3,<-hl];exact P0 h1
  exact subscriptTail_builtinR (x:=w) pl.isList.typeIs slot_list_getitem.lookup
   (wpAny_getItem_list_neg (Q:=λr s'=>r=w/\EP X pins Z Q r s') pl.isList ∅ (by rw[O3]<;>omega) ∅ (by rw[hj];simpa using ew) ⟨rfl,fin⟩) hs
theorem YB:sR X (air X.K):=by
 intro value slice pins s Z H x y v u Q I rx ry h hs;obtain⟨p,xs,i,z,rfl,rfl,hq,he,q⟩:=h;cases rx;obtain⟨t,rfl⟩:=ry;obtain⟨its,r,pl,hz⟩:=I.tuple hq;obtain⟨j,h1,h2,h3,h4,h5⟩:=OB he;obtain⟨w,ew,rw'⟩:=r.get h2;have hl:=r.length;have hn:=rT;have fin:EP X pins Z Q w s:=⟨z,H,I,rw',q⟩;exact subscriptTail_builtinR (x:=w) pl.typeIs slot_tuple_getitem.lookup
  (getItem_tuple (j:=j) (Q:=λr s'=>r=w/\EP X pins Z Q r s') pl ∅ ∅ (by rw[O3,<-hl];exact h1) (by simpa using ew) ⟨rfl,fin⟩) hs
theorem Xf(its:List L)(n j:Nat)(u:L):Obj.mapSeq (·.setIfInBounds j u) {cls:=.type "list",data:=.seq its.toArray n}={cls:=.type "list",data:=.seq (its.set j u).toArray n}:=by
 simp[Obj.mapSeq]
theorem Inv.lst{xs:List V}(I:Inv X pins Z H s)(h:H p=U (.lst xs)):
  ∃(its:List L) (n:Nat),Vals xs its/\s.heap.get? p=U {cls:=.type "list",data:=.seq its.toArray n}/\xs.length<=Ω:=by
 obtain⟨z,its,n,r,e⟩:=I.hok p _ h;exact⟨its,n,r,e,z⟩
theorem Inv.Xl{xs:List V}{its its':List L}{f:Obj->Obj}(I:Inv X pins Z H s)(h:H p=U (.lst xs))(ho:s.heap.get? p=U {cls:=.type "list",data:=.seq its.toArray n})(hf:f {cls:=.type "list",data:=.seq its.toArray n}={cls:=.type "list",data:=.seq its'.toArray n'})(r:Vals ys its')(hz:ys.length<=Ω)(t:Nat):
  Inv X pins Z (upd H p (.lst ys)) {s with heap:=s.heap.update p f,toks:=t}:=by
 have e:(s.heap.update p f).get? p=U {cls:=.type "list",data:=.seq its'.toArray n'}:=by
  rw[SQ f ho (by rw[hf]<;>rfl),hf]
 refine I.write (x:=p) (e:=p) (by rw[h];trivial) (.inl rfl) (λb u hb q=>(Qd _ _ (Q2 hb)).trans q) ⟨_,e⟩ ?_
 exact⟨hz,its',n',r,e⟩
def ahC:V->V->V->Hp->(Hp->Prop)->Prop:=λo i v H Q=>∃p xs k j,o=.ref p/\i=.int k/\H p=U (.lst xs)/\gV xs.length k=U j/\Q (upd H p (.lst (xs.set j v)))
theorem set_list:ON X ahC:=by
 intro pins s Z H o i v ov iv u Q I ro ri rv h;obtain⟨p,xs,k,j,rfl,rfl,hp,hj,q⟩:=h;cases ro;obtain⟨t,rfl⟩:=ri;obtain⟨its,n,r,ho,hz⟩:=I.lst hp;obtain⟨h1,h2,h3,h4⟩:=LL hj;have hl:=r.length;have hn:=rT;have I':Inv X pins Z (upd H p (.lst (xs.set j v))) {s with heap:=s.heap.update p (Obj.mapSeq (·.setIfInBounds j u))} :=
  I.Xl hp ho (Xf its n j u) (r.set rv j) (by rw[List.length_set];exact hz) s.toks
 by_cases h0:0<=k
 ·have hk:k.toNat=j:=by
   rw[seqIndex_of h0 h4]at h1;exact P0 h1
  exact PySem.W.ki_setAt ho h0 ∅ (by rw[O3,<-hl];exact h4) (by rw[hk];exact⟨_,I',q⟩)
 ·have hk:(k+(its.toArray.size:Int)).toNat=j:=by
   rw[seqIndex_neg ∅ h3]at h1
   rw[O3,<-hl];exact P0 h1
  exact PySem.W.ki_setBack ho ∅ (by rw[O3,<-hl];exact h3) ∅ (by rw[hk];exact⟨_,I',q⟩)
theorem agW(lo hi:Option Int)(n:Nat):(sliceBounds lo hi O n).1=((HT.gO n 0 lo:Nat):Int)/\(sliceBounds lo hi O n).2.1=((HT.gO n n hi:Nat):Int)/\(sliceBounds lo hi O n).2.2=1:=by
 refine⟨?_,?_,rfl⟩
 ·cases lo with
  |none=>simp[sliceBounds,HT.gO]
  |some i =>
   simp only[sliceBounds,HT.gO,Vl,show(1:Int)>0 by decide,if_true]
   by_cases h:i<0
   ·simp only[h,if_true]<;>omega
   ·simp only[h,if_false]<;>omega
 ·cases hi with
  |none=>simp[sliceBounds,HT.gO]
  |some i =>
   simp only[sliceBounds,HT.gO,Vl,show(1:Int)>0 by decide,if_true]
   by_cases h:i<0
   ·simp only[h,if_true]<;>omega
   ·simp only[h,if_false]<;>omega
theorem agV(its:List L)(lo hi:Option Int):slicePick its.toArray lo hi O=((its.drop (HT.gO its.length 0 lo)).take (HT.gO its.length its.length hi-HT.gO its.length 0 lo)).toArray:=by
 obtain⟨h1,h2,h3⟩:=agW lo hi its.toArray.size;unfold slicePick;rw[h1,h2,h3];simp only[sliceRange_one,pick_run,O3]<;>rfl
def ahE(K:Ξ):V->Option Int->Option Int->Hp->VK->Prop:=λx lo hi H Q=>∃a xs,x=.ref a/\bf K H a xs/\∀p,H p=O->Q (.ref p) (upd H p (.lst (vP xs lo hi)))
theorem agU:OL X (ahE X.K):=by
 intro pins s Z H x v vl vu lo hi sl Q I rx hs pl pu h;obtain⟨a,xs,rfl,hx,q⟩:=h;cases rx;obtain⟨its,r,ht,hz⟩:=I.list hx;have hlen:=r.length;refine⟨"list",_,slot_list_getitem.lookup,ht.isList.typeIs,?_⟩;refine wpAny_getItem_list_slice ht.isList hs pl pu .none (by simp) ?_ (by rw[O3]<;>omega)
 rw[agV,<-hlen];refine⟨.ref s.heap.objs.size,_,I.laid (λb ob q=>H8 _ q) (AP _) ?_,rfl,q _ (I.hok.fresh (AP _))⟩
 exact⟨PJ (abJ xs lo hi) hz,_,0,(r.drop _).take _,O5 _ rfl⟩
theorem acs:dG X (.builtin "len") (λxs H Q=>∃p ys,xs=[.ref p]/\(bf X.K H p ys\/bO X.K H p ys)/\Q (.int ys.length) H):=by
 intro pins s Z H xs us Q I r h;obtain⟨p,ys,rfl,hq,q⟩:=h;obtain⟨u,rfl,rx⟩:=Po r;cases rx;have hn:=rT
 rcases hq with hq|hq
 ·obtain⟨its,r',pl,hz⟩:=I.list hq;have hlen:=r'.length;exact Calls.call_len_list pl.isList (by simp<;>omega) ⟨.int ys.length,H,I.tok _,⟨s.toks+1,by rw[O3,hlen]⟩,q⟩
 ·obtain⟨its,r',pl,hz⟩:=I.tuple hq;have hlen:=r'.length;exact len_tuple pl (by simp<;>omega) ⟨.int ys.length,H,I.tok _,⟨s.toks+1,by rw[O3,hlen]⟩,q⟩
theorem acr:dG X (.builtin "len") (λxs H Q=>∃z,xs=[.str z]/\z.length<=Ω/\Q (.int z.length) H):=by
 intro pins s Z H xs us Q I r h;obtain⟨z,rfl,hz,q⟩:=h;obtain⟨u,rfl,t,rfl⟩:=Po r;have hn:=rT;exact len_str ∅ ⟨.int z.length,H,I.tok _,⟨_,rfl⟩,q⟩
theorem acq:dG X (.type "list") (λxs H Q=>∃p ys,xs=[.ref p]/\(bf X.K H p ys\/bO X.K H p ys)/\∀l,H l=O->Q (.ref l) (upd H l (.lst ys))):=by
 intro pins s Z H xs us Q I r h;obtain⟨p,ys,rfl,hq,q⟩:=h;obtain⟨u,rfl,rx⟩:=Po r;cases rx;have fin:∀(its:List L),Vals ys its->ys.length<=Ω->∀(h':π) (c':Nat),_ ->
   h'.get? s.heap.objs.size=U {cls:=.type "list",dict:=O,data:=.seq its.toArray c',slots:=#[]}->EP X pins Z Q (.ref s.heap.objs.size) {s with heap:=h'}:=λits r' hz h' c' kp e =>
  ⟨.ref s.heap.objs.size,_,I.laid (t':=s.toks) kp (AP _) (show e9 X.prog X.w _ h' _ (.lst ys)from⟨hz,its,c',r',e⟩),rfl,q _ (I.hok.fresh (AP _))⟩
 rcases hq with hq|hq
 ·obtain⟨its,r',pl,hz⟩:=I.list hq;have hlen:=r'.length;obtain⟨o,ho,hc,n,hd⟩:=pl.isList;exact call_list_seq p (.inl rfl) ho hc hd (λh' c' kp e=>fin its r' hz h' c' kp e) (by simp only[O3]<;>omega)
 ·obtain⟨its,r',pl,hz⟩:=I.tuple hq;have hlen:=r'.length;obtain⟨o,ho,hc,n,hd⟩:=pl;exact call_list_seq p (.inr rfl) ho hc hd (λh' c' kp e=>fin its r' hz h' c' kp e) (by simp only[O3]<;>omega)
theorem acm:dG X (.type "tuple") (λxs H Q=>∃p ys,xs=[.ref p]/\((bf X.K H p ys/\∀l,H l=O->Q (.ref l) (upd H l (.tup ys)))\/(bO X.K H p ys/\Q (.ref p) H))):=by
 intro pins s Z H xs us Q I r h;obtain⟨p,ys,rfl,h⟩:=h;obtain⟨u,rfl,rx⟩:=Po r;cases rx
 rcases h with⟨hq,q⟩|⟨hq,q⟩
 ·obtain⟨its,r',pl,hz⟩:=I.list hq;have hlen:=r'.length;refine call_tuple_list pl.isList (λh' kp=>?_) (by simp only[O3]<;>omega)
  have I1:Inv X pins Z H {s with heap:=h'}:=I.kept (t':=s.toks) kp
  have I2:Inv X pins Z (upd H h'.objs.size (.tup ys)) {s with heap:=h'.push {cls:=.type "tuple",data:=.seq its.toArray} } :=
   I1.laid (t':=s.toks) (λb o e=>H8 _ e) (AP _) (show e9 X.prog X.w _ _ _ (.tup ys)from⟨hz,its,r',nt.new _ _⟩)
  exact⟨.ref h'.objs.size,_,I2,rfl,q _ (I1.hok.fresh (AP _))⟩
 ·obtain⟨its,r',pl,hz⟩:=I.tuple hq;exact call_tuple_same pl ⟨.ref p,H,I,rfl,q⟩
def GY(K:Ξ)(T:String)(x:V)(H:Hp):Prop:=match x with
 |.str _=>T="str"
 |.int _=>T="int"
 |.ref p=>(T="list"/\∃xs,bf K H p xs)\/(T="tuple"/\((∃xs,H p=U (.tup xs))\/∃o,K.lookup p=U o/\o.cls=.type "tuple"/\o.dict=O)) \/
   (T="dict"/\((∃kvs,H p=U (.dK kvs))\/∃kvs,H p=U (.dT kvs)))\/(T="set"/\∃Θ n,H p=U (.set Θ n))
 |_=>False
theorem ags(I:Inv X pins Z H s)(r:RelV x v)(ty:GY X.K T x H):
  s.TypeIs v T/\∀a,v=.ref a->∃ob,s.heap.get? a=U ob/\ob.dict=O:=by
 cases x with
 |str z =>
  obtain⟨t,rfl⟩:=r;cases(show T="str" from ty)
  exact⟨typeIs_str s z t,λ_ e=>nomatch e⟩
 |int i =>
  obtain⟨t,rfl⟩:=r;cases(show T="int" from ty)
  exact⟨typeIs_int s i t,λ_ e=>nomatch e⟩
 |ref p =>
  cases r
  rcases ty with⟨rfl,xs,hq⟩|⟨rfl,⟨xs,hk⟩|⟨o,hk,hc,hd⟩⟩|⟨rfl,hk⟩|⟨rfl,Θ,n,hk⟩
  ·obtain⟨its,_,pl,_⟩:=I.list hq;refine⟨pl.isList.typeIs,λa e=>?_⟩
   cases e;obtain⟨o,n,e,c,hd,_⟩:=pl;exact⟨o,e,hd⟩
  ·obtain⟨_,its,_,o,e,c,_,hd⟩:=(show e9 X.prog X.w H s.heap p (.tup xs)from I.hok p _ hk)
   refine⟨⟨o,e,c⟩,λa e2=>?_⟩
   cases e2;exact⟨o,e,hd⟩
  ·refine⟨⟨o,I.fS p o hk,hc⟩,λa e=>?_⟩
   cases e;exact⟨o,I.fS _ o hk,hd⟩
  ·have z:∃o,s.heap.get? p=U o/\o.ExactDict:=by
    rcases hk with⟨kvs,hk⟩|⟨kvs,hk⟩
    ·obtain⟨_,_,_,_,o,_,_,e,ex,_⟩:=I.hok p _ hk;exact⟨o,e,ex⟩
    ·obtain⟨_,_,_,_,o,_,_,e,ex,_⟩:=I.hok p _ hk;exact⟨o,e,ex⟩
   obtain⟨o,e,ex⟩:=z;refine⟨⟨o,e,ex.1⟩,λa e2=>?_⟩
   cases e2;exact⟨o,e,ex.2.1⟩
  ·obtain⟨o,_,_,_,e,ex,_⟩:=I.hok p _ hk;refine⟨⟨o,e,ex.1⟩,λa e2=>?_⟩
   cases e2;exact⟨o,e,ex.2.1⟩
 |_=>exact False.elim ty
def af6(K:Ξ)(T:String)(r:V->List V->Hp->VK->Prop)(to:TE)(t:TA):TE:=λZ H Q=>to Z H λx H1=>GY K T x H1/\t Z H1 λxs H2=>r x xs H2 Q
variable {o e:μ}{es:List μ}{to:TE}{t:TA}{name:Str}{apos cpos:Pos}{T id:String}{r:V->List V->Hp->VK->Prop}
theorem Ci(pa:PlainAttrs T)(slot:Slot T name id)(hty:typeOf (.builtin id)=pure (.type "method_descriptor"))(hm:MtR X id r)(ho:PE X o to)(ha:PA X (e::es) t)
  (hbase:TY o name X.env (eval o X.env)=eval o X.env:=by rfl)
  (hfew:((OY cpos (ε (e::es) X.env)).all (λx=>!x.1)&&(R7 cpos (R5 [] X.env)).all (λx=>x.1.isSome)
   && decide ((e::es).length+([]:List QL).length+(if([]:List QL).isEmpty then 0 else 1)<30))=J:=by rfl)
  (hline:(apos.endLine==cpos.line)=J:=by rfl) (hs:ε (e::es) X.env=(Δ,eval e X.env)::ε es X.env:=by rfl) (hplain:(OY cpos (ε es X.env)).any (·.1)=Δ:=by rfl) :
  PE X (.Call (.Attribute o name apos) (e::es) [] cpos) (af6 X.K T r to t):=by
 intro pins s Z H Q I h;refine wpAny_Call_method_late hbase hfew hline rfl (bx (ho pins s Z H _ I h) λv s1 ⟨x,H1,I1,r1,ty,q1⟩=>?_)
 obtain⟨h1,h2⟩:=ags I1 r1 ty;refine⟨T,id,pa,slot,hty,h1,h2,?_⟩;have hA:=ha cpos pins s1 Z H1 _ I1 q1;rw[hs]at hA ⊢;refine Calls.callWith_builtin (by show(Δ||(OY cpos (ε es X.env)).any (·.1))=Δ;rw[hplain]<;>rfl) (Calls.evalArgs_plain ?_)
 exact bx hA λus s2 ⟨vs,H2,I2,r2,q2⟩=>hm pins s2 Z H2 x vs v us Q I2 r1 r2 q2
end
def Gj(X:Cx)(id:String)(r:V->List V->Hp->VK->Prop):Prop :=
 ∀(pins:List (S×Obj)) (s:Ψ) (Z:St) (H:Hp) (x:V) (xs:List V) (v:L) (us:List L) (Q:VK),Inv X pins Z H s->RelV x v->Vals xs us->r x xs H Q ->
  wpAny (model X.prog X.w) X.A (call (.builtin id) (v::us)) (EP X pins Z Q) X.xe s
theorem Vals.one:∀{x:V}{us:List L},Vals [x] us->∃u,us=[u]/\RelV x u
 |_,_,.cons r .nil=>⟨_,rfl,r⟩
theorem Vals.two:∀{x y:V}{us:List L},Vals [x,y] us->∃u v,us=[u,v]/\RelV x u/\RelV y v
 |_,_,_,.cons r (.cons q .nil)=>⟨_,_,rfl,r,q⟩
theorem Vals.rep{xs:List V}(h:Vals xs us):∀k:Nat,Vals (ο k xs).flatten (ο k us).flatten
 |0=>.nil
 |k+1=>by
  rw[RC,RC,Rx,Rx];exact Vals.append h (Vals.rep h k)
theorem foldl_rep(its:List L):∀(k:Nat) (acc:List L),
  List.foldl (λx1 x2=>x1++x2) acc.toArray (ο k its.toArray)=(acc++(ο k its).flatten).toArray
 |0,acc=>by simp
 |k+1,acc=>by
  have e:acc.toArray++its.toArray=(acc++its).toArray:=by simp
  have e2:(acc++its)++(ο k its).flatten=acc++(ο (k+1) its).flatten:=by
   rw[RC,Rx,QS]
  rw[<-e2,<-foldl_rep its k (acc++its),<-e,RC,RB]
section
variable {X:Cx}{pins:List (S×Obj)}{Z:St}{H:Hp}{s:Ψ}{l b:S}{xs ys zs:List V}
theorem Inv.C3{its its':List L}{f:Array L->Array L}(I:Inv X pins Z H s)(hH:H l=U (.lst xs))(e:s.heap.get? l=U {cls:=.type "list",data:=.seq its.toArray n})(hf:f its.toArray=its'.toArray)(hv:Vals ys its')(hz:ys.length<=Ω):
  Inv X pins Z (upd H l (.lst ys)) {s with heap:=s.heap.update l (Obj.mapSeq f),toks:=t'}:=by
 have q:=Vk e f;rw[hf]at q;refine I.write (x:=l) (e:=l) (by rw[hH];exact trivial) (.inl rfl) (λb' u hb hu=>(Qd s.heap (Obj.mapSeq f) (Q2 hb)).trans hu) ⟨_,q⟩ ?_
 exact⟨hz,its',_,hv,q⟩
theorem Inv.K8(I:Inv X pins Z H s)(hv:Vals ys its)(hz:ys.length<=Ω):
  Inv X pins Z (upd H s.heap.objs.size (.lst ys)) {s with heap:=s.heap.push {cls:=.type "list",data:=.seq its.toArray},toks:=t'} :=
 I.laid (λ_ _ q=>H8 _ q) (AP _) ⟨hz,its,0,hv,O5 _ rfl⟩
theorem Inv.fresh(I:Inv X pins Z H s):H s.heap.objs.size=O:=I.hok.fresh (AP _)
theorem Inv.pL(I:Inv X pins Z H s)(hH:H l=U (.lst xs)):xs.length<=Ω/\∃(its:List L) (n:Nat),Vals xs its/\xs.length=its.length/\s.heap.get? l=U {cls:=.type "list",data:=.seq its.toArray n}:=by
 obtain⟨z,its,n,r,e⟩:=I.hok l _ hH;exact⟨z,its,n,r,r.length,e⟩
theorem Kd(h:n<=Ω):Builtin.List.listTooLong n=Δ:=by
 unfold Builtin.List.listTooLong;exact decide_eq_false ∅
end
section
variable {X:Cx}
def ahO:V->List V->Hp->VK->Prop:=λx vs H Q=>∃l xs y,x=.ref l/\vs=[y]/\H l=U (.lst xs)/\xs.length<Ω/\Q .aF (upd H l (.lst (xs++[y])))
theorem WY:Gj X "list.append" ahO:=by
 intro pins s Z H x vs v us Q I rx rv h;obtain⟨l,xs,y,rfl,rfl,hH,hz,q⟩:=h;cases rx;obtain⟨u,rfl,ru⟩:=rv.one;obtain⟨z,its,n,r,hl,e⟩:=I.pL hH;refine Rw F.slot_list_append ⟨_,e,rfl⟩ F.entry_list_append (F.args_list_append_2 _ _) (Vj l its.toArray n u (by rw[O3];omega)) ⟨e,?_⟩
 refine⟨.aF,_,I.C3 (its':=its++[u]) hH e (by simp) (r.append (.cons ru .nil)) ?_,rfl,q⟩
 rw[Pf,List.length_singleton];omega
def ahz:V->List V->Hp->VK->Prop:=λx vs H Q=>∃l b xs zs,x=.ref l/\vs=[.ref b]/\H l=U (.lst xs)/\H b=U (.lst zs)/\xs.length+zs.length<=Ω/\Q .aF (upd H l (.lst (xs++zs)))
theorem WX:Gj X "list.extend" ahz:=by
 intro pins s Z H x vs v us Q I rx rv h;obtain⟨l,b,xs,zs,rfl,rfl,hH,hB,hz,q⟩:=h;cases rx;obtain⟨u,rfl,ru⟩:=rv.one;cases ru;obtain⟨z,its,n,r,hl,e⟩:=I.pL hH;obtain⟨z2,its2,n2,r2,hl2,e2⟩:=I.pL hB;have hsz:its.toArray.size+its2.toArray.size<=Ω:=by rw[O3,O3];omega
 have DN:¬(!its.toArray.isEmpty&&Builtin.List.listTooLong (its.toArray.size+its2.toArray.size))=J:=by
  rw[Kd hsz,UY];exact PM
 refine Rw F.slot_list_extend ⟨_,e,rfl⟩ F.entry_list_extend (F.args_list_extend_2 _ _)
  (AutoSeq1.list_extend_list_list_0 l its.toArray n b its2.toArray n2 DN (by rw[O3];omega) ∅) ⟨e,e2,?_⟩
 refine⟨.aF,_,I.C3 (its':=its++its2) hH e (by simp) (r.append r2) ?_,rfl,q⟩
 rw[Pf];omega
def ahw:R2:=λx y H Q=>∃l b xs zs,x=.ref l/\y=.ref b/\H l=U (.lst xs)/\H b=U (.lst zs)/\xs.length+zs.length<=Ω/\∀p,H p=O->Q (.ref p) (upd H p (.lst (xs++zs)))
theorem ajK:bS X (binaryOp .Add) ahw:=by
 intro pins s Z H x y v u Q I rx ry h;obtain⟨l,b,xs,zs,rfl,rfl,hH,hB,hz,q⟩:=h;cases rx;cases ry;obtain⟨z,its,n,r,hl,e⟩:=I.pL hH;obtain⟨z2,its2,n2,r2,hl2,e2⟩:=I.pL hB;refine PySem.P.add_list e e2 ?_ (by rw[O3,O3];omega)
 have ea:its.toArray++its2.toArray=(its++its2).toArray:=by simp
 rw[ea];exact⟨.ref _,_,I.K8 (t':=s.toks) (r.append r2) (by rw[Pf];omega),rfl,q _ I.fresh⟩
def aiv:R2:=λx y H Q=>∃l k xs,x=.ref l/\y=.int k/\H l=U (.lst xs)/\-(2^63)<=k/\k<2^63/\xs.length*k.toNat<=Ω /\
 ∀p,H p=O->Q (.ref p) (upd H p (.lst (ο k.toNat xs).flatten))
theorem len_rep{α:Type}(xs:List α)(k:Nat):(ο k xs).flatten.length=k*xs.length:=by
 induction k with
 |zero=>simp
 |succ k ih=>rw[RC,Rx,Pf,ih,SO,Nat.add_comm]
theorem JR:bS X (binaryOp .Mult) aiv:=by
 intro pins s Z H x y v u Q I rx ry h;obtain⟨l,k,xs,rfl,rfl,hH,h1,h2,hz,q⟩:=h;cases rx;obtain⟨t,rfl⟩:=ry;obtain⟨z,its,n,r,hl,e⟩:=I.pL hH;have hlen:its.toArray.size*k.toNat<=Ω:=by rw[O3,<-hl];exact hz
 have hcap:¬its.toArray.size*k.toNat>(2^63-1)/8:=by
  have:Ω<=(2^63-1)/8:=⋯
  omega
 have hfit:¬(!Builtin.List.listFitsIndex k)=J:=by
  rw[fitsIndex_both h1 h2];exact PM
 have DN:¬Builtin.List.listTooLong (its.toArray.size*k.toNat)=J:=by
  rw[Kd hlen];exact PM
 have hnew:List.foldl (λx1 x2=>x1++x2) #[] (ο (if its.toArray.isEmpty=J then 0 else k.toNat) its.toArray)=(ο k.toNat its).flatten.toArray:=by
  have f0:∀m:Nat,List.foldl _ #[] _=(ο m its).flatten.toArray:=λm=>by
   have:=foldl_rep its m [];exact this
  rw[f0];cases its with
  |nil=>simp
  |cons a r'=>rw[if_neg (by simp)]
 refine wpAny_binaryOp_repeat_ref ⋯ ⟨_,e,rfl⟩ (λs'=>typeIs_int s' k t) noFill_list_mul F.fills_int_mul F.slot_int_rmul repeat_list F.slot_int_index.lookup
  (Rw F.slot_int_rmul (typeIs_int s k t) F.entry_int_rmul (F.args_int_rmul_2 _ _) (int___rmul___int_list k t l its.toArray n)
   ⟨e,rfl,⟨_,e,rfl⟩,Rw F.slot_list_mul ⟨_,e,rfl⟩ F.entry_list_mul (F.args_list_mul_2 _ _) (AutoListH.list___mul___list_int_3 l its.toArray n k t hfit hcap DN) ⟨e,?_⟩⟩)
 rw[hnew];exact⟨.ref _,_,I.K8 (r.rep k.toNat) (by rw[len_rep,Nat.mul_comm];exact hz),rfl,q _ I.fresh⟩
end
section
variable {prog:ν}{w:τ}{A:χ}{E:L->Ψ->Prop}{s:Ψ}
set_option maxRecDepth 100000 in
end
end L2
namespace OW
open PySem PySem.W PySem.Calls PyProof.Rows
theorem YR:∀(ns:List Int) (vs:List L),WellAll P h vs (ns.map WData.int)->QK vs ns:=by
 intro ns
 induction ns with
 |nil =>
  intro vs w;cases w;exact .nil
 |cons n ns ih =>
  intro vs w;cases w with
  |cons a b =>
   cases a;exact .cons _ _ (ih _ b)
theorem ahs{l:OpenLaw}(hn:l.most=U n){args:List WData}{vals:List L}(hpre:l.row.toRowW.claim.pre args=J)(hwl:WellAll P h vals args):
  ∃a vs ns,vals=[Value.ref a]/\args=[WData.list (ns.map WData.int)]/\h.get? a=U {cls:=.type "list",data:=.seq vs.toArray}/\QK vs ns/\ns.length<=n:=by
 have hc:l.pre.holds [] {args:=args}=J:=(pre_splitW hpre).2;obtain⟨d,r,rfl,h1,h2⟩:=hasAllW_cons ((pre_splitW hpre).1);obtain rfl:=hasAllW_nil h2;obtain⟨xs,rfl,h3⟩:=hasW_list h1;obtain⟨ns,rfl⟩:=items_int h3;have hlen:ns.length<=n:=by
  unfold OpenLaw.pre at hc;have h4:(WTm.not (.lt (.lit (.int (n:Int))) (.len (.arg 0)))).holds [] {args:=[.list (ns.map .int)]}=J:=by
   have h4:=(holds_andW hc).1;rw[hn]at h4;exact h4
  have h5:=condW_of h4 (w_not (w_lt w_lit (w_len_list (w_arg rfl))));rw[O2]at h5;refine Vi λq=>?_
  first
   |(rw[decide_eq_true q']at h5;exact absurd h5 ⋯)
   |(simp at h5;omega)
 cases hwl with
 |cons w1 w2 =>
  cases w2;cases w1 with
  |list ho hall=>exact⟨_,_,ns,rfl,rfl,ho,YR ns _ hall,hlen⟩
theorem ah0(l:OpenLaw)(args:List WData):l.row.toRowW.claim.post args (.bool J) args=J :=
 postW_of (r:=l.row.toRowW) (X:=(J==J))
  (show WShape.has [] (.bool J) .bool=J by first|rfl|decide|simp[WShape.has,WShape.arms,WShape.armsAll])
  (show(WTm.eq .res (.lit (.bool J))).value [] {args:=args,res:=U (.bool J),after:=args}=U (.bool (J==J))from w_eq_bool (w_res rfl) w_lit) rfl
theorem acO{l:OpenLaw}{loose:List Str}{XP:(Str->Option L)->π->Prop}{YP:τ->π->Prop}{d:DefRec}(hn:l.most=U n)(hdf:d.params.defaults=[])(call:∀(w:τ) (s₀ s₁:Ψ) (mg mb:Str->Option L) (fa:S) (o:Obj) (pm cd doc:L) (a:S) (vs:List L) (ns:List Int),
   Ground q loose [] XP w s₀ mg mb s₁.heap->YP w s₁.heap ->
   s₁.heap.get? fa=U o->o.data=.func (docDef d.name d.params d.body d.scope pm cd doc)->s₁.heap.CodeRec cd d.name->mg d.name=U (.ref fa) ->
   s₁.heap.get? a=U {cls:=.type "list",data:=.seq vs.toArray}->QK vs ns->ns.length<=n->s₁.gens=#[] ->
   codeAny (model l.prog w) callerA (.call (.ref fa) ⟨[.ref a],[]⟩) (λr s'=>r=.ok (.ret (.bool J))/\OldK s₁.heap s'.heap/\s'.os=s₁.os/\Qo s'.gens) s₁):
  WalkO q loose XP YP l.row.toRowW d [] (λf vs=>PySem.call f vs):=by
 intro w s₀ s₁ mg mb G Y fa o pm cd doc dV kV ho hd hcd hD hmg hg args vals as hpre hlay hrd hwl hlo;obtain rfl:dV=.none:=Dflts.none hD hdf;obtain rfl:kV=.none:=Dflts.noKw hD;obtain⟨a,vs,ns,rfl,rfl,hobj,hints,hlen⟩:=ahs hn hpre hwl;refine enter_call (QW (call w s₀ s₁ mg mb fa o pm cd doc a vs ns G Y ho (fd_plain hd) hcd hmg hobj hints hlen hg) λr s' hq=>?_)
 obtain⟨rfl,h2,h3,h4⟩:=hq;exact⟨.inl ⟨.bool J,.bool J,[],rfl,λ_=>rfl,.bool J,ah0 l _,λ_=>⟨List.Pairwise.nil,λ_ hm=>(nomatch hm)⟩⟩,h2,h3,h4⟩
end OW
namespace L2
open PySem PySem.Spec PyProof.Rows
theorem GN:∀{vs:List L}{ns:List Int},QK vs ns->Vals (ns.map V.int) vs
 |_,_,.nil=>.nil
 |_,_,.cons n t h=>.cons ⟨t,rfl⟩ (GN h)
def oN(s:x6):RV:=match s with
 |.FunctionDef _ a _ _ _ _ _ _ _ _=>a
 |_=>{posonlyargs:=[],args:=[],vararg:=O,kwonlyargs:=[],kw_defaults:=[],kwarg:=O,defaults:=[]}
def iO(s:x6):List x6:=match s with
 |.FunctionDef _ _ b _ _ _ _ _ _ _=>b
 |_=>[]
def cZ(s:x6):P7:=match s with
 |.FunctionDef _ _ _ _ _ _ sc _ _ _=>sc
 |_=>{kind:=.function,names:=[],isGenerator:=Δ,isCoroutine:=Δ}
abbrev c9:oZ:=λ_ _ _ _ _ _=>False
abbrev E0:XK:=λ_ _ _=>False
theorem aiQ:Passes c9 X E0:=λ_ _ _ _ _ _ _ h=>h.elim
structure l5 (K:Ξ) (x qual:Str) (st:x6) (f:S) (fd:PU):Prop where
 ex:∃(oc:L) (od:Option S) (kV doc pm:L) (an:Option S) (cdv ct:L) (osl:Array (Option L)),
  fd=PySem.W.fnOf x qual (oN st) (iO st) (cZ st) .none kV doc pm an cdv ct/\K.lookup f=U ⟨oc,od,.func fd,osl⟩/\PySem.W.codeIn K cdv qual=J
 kp:PySem.W.keepIn K (.ref f)=J
section
variable {P:ν}{w:τ}{K:Ξ}{mg:Str->Option L}{base:π}
theorem l5.ok{qual:Str}{st:x6}(F:l5 K x qual st f fd)(Θ:iS N ps (cZ st))(len:∀vs H Q E,sp vs H Q E->vs.length=ps.length)(hbody:∀(cdv:L) (A:χ) (outer:List Env) (s:Ψ) (H:Hp) (vs:List V) (Q:VK) (E:XK),cK k (A.deeper (envOfC qual (cZ st) s.heap.objs.size f cdv))->sp vs H Q E ->
   ∃t,gI (lU c9 P w K mg base N qual (cZ st) f cdv A outer s H E).lD (iO st) t/\t {nx:=λ_ H'=>Q .aF H',rt:=Q} (start N vs) H):d9 P w K mg base c9 (k+1) f fd ps sp:=by
 obtain⟨oc,od,kV,doc,pm,an,cdv,ct,osl,rfl,lk,hcd⟩:=F.ex;refine Nh lk hcd Θ len λA outer s H vs Q E hr oA=>?_
 obtain⟨t,h,q⟩:=hbody cdv A outer s H vs Q E hr oA;exact⟨t,h.lD,q⟩
theorem l5.binds{qual:Str}{st:x6}{ps:List Str}(F:l5 K x qual st f fd)(h:∀(kV doc pm:L) (an:Option S) (cdv ct:L) (us:List L),us.length=ps.length->bindArgs (PySem.W.fnOf x qual (oN st) (iO st) (cZ st) .none kV doc pm an cdv ct) ⟨us,[]⟩=pure (ps.zip us)):Binds K fd ps []:=by
 obtain⟨oc,od,kV,doc,pm,an,cdv,ct,osl,rfl,lk,hcd⟩:=F.ex;exact .all (h kV doc pm an cdv ct)
theorem aay{qual:Str}{st:x6}{kV doc:L}(l:K.lookup f=U ⟨oc,od,.func (PySem.W.fnOf x qual (oN st) (iO st) (cZ st) .none kV doc pm an cdv ct),osl⟩)(c:PySem.W.codeIn K cdv qual=J)(k:PySem.W.keepIn K (.ref f)=J):l5 K x qual st f (PySem.W.fnOf x qual (oN st) (iO st) (cZ st) .none kV doc pm an cdv ct):=⟨⟨oc,od,kV,doc,pm,an,cdv,ct,osl,rfl,l,c⟩,k⟩
end
theorem Zf(hr:cK k A):A.units+1<O8:=SN (Nat.add_le_add_left (by decide:1<=64) _) hr.units
section
variable {X:Cx}
theorem pv(i:Nat){pos:Pos}(hN:X.N[i]? = U x:=by rfl)(hv:wu X.env.scope x:=by first|exact Or.inl rfl|exact Or.inr (Or.inl rfl)|exact Or.inr (Or.inr rfl))(hd:(x==("__debug__":Str))=Δ:=by decide)(hcd:(x==("__classdict__":Str))=Δ:=by decide):PE X (.Name x pos) (qQ i):=Cg hN hv hd hcd
end
theorem pV{A B:Prop}(h:B):if Δ=J then A else B:=by
 rw[if_neg PM];exact h
theorem pU{A B:Prop}(h:A):if J=J then A else B:=by
 rw[if_pos rfl];exact h
def fO(X:Cx)(N':List Str)(scope:P7)(cl:List (Str×S))(C:S)(s₀:Ψ)(H₀:Hp)(ex:List S)(pn:List (S×Obj)):Cx where
 prog:=X.prog
 w:=X.w
 K:=X.K
 mg:=X.mg
 base:=X.base
 A:=X.A
 N:=N'
 s₀:=s₀
 H₀:=H₀
 env:=compEnvC scope cl C X.env
 outer:=X.stack
 stack:=X.stack
 ex:=ex
 fn:=λx=>scope.names.lookup x==U NameKind.cell
 calm:=X.calm
 pn:=pn
 xe:=λ_ _=>False
structure cL (X:Cx) (N':List Str) (pick:List (Option Nat)) (scope:P7):Prop where
 kind:scope.kind=.function
 nd:N'.Nodup
 names:∀x∈scope.names,x.2=.local->scope.names.lookup x.1=U .local
 uniq:(scope.names.map (·.1)).Nodup
 len:pick.length=N'.length
 got:∀(i j:Nat) (x:Str),pick[i]? = U (U j)->N'[i]? = U x->scope.names.lookup x=U .free/\X.N[j]? = U x
 free:∀x∈scope.names,x.2=.free->X.env.kindOf x.1=U .cell\/X.env.kindOf x.1=U .free
def mh(pick:List (Option Nat))(Z:St):St:=pick.map λo=>o.bind λj=>(Z[j]?).bind id
def qw(X:Cx)(ifs:List μ)(t:TT):Prop :=
 ∀(pins:List (S×Obj)) (s:Ψ) (Z:St) (H:Hp) (Q:Bool->Hp->Prop),Inv X pins Z H s->t Z H Q ->
  wpAny (model X.prog X.w) X.A (forIn ifs J λc r=>if r=J then do let ok <-isTrue c X.env (eval c X.env);pure (ForInStep.yield ok)else pure (ForInStep.yield r)) (TP X pins Z Q) X.xe s
def agc:TT:=λ_ H Q=>Q J H
theorem ahP:qw X [] agc:=λpins s Z H Q I h=>wpAny_tests_nil ⟨H,I,h⟩
theorem ahQ(h:PT X c t):qw X [c] t:=λpins s Z H Q I q=>wpAny_tests_one (h pins s Z H Q I q)
def OU(Γ:It)(g:TG)(tt:TT)(te:TE)(Q:VK)(Z:St)(H:Hp):Prop:=∃W:Nat->Nat->St->List V->Hp->Prop,(∃m,W 0 m Z [] H) /\
  ∀i m σ' ys H,W i m σ' ys H->ys.length<Ω /\
    ((Γ.stop i H/\∀p,H p=O->Q (.ref p) (upd H p (.lst ys))) \/
     (Γ.go i H/\∃N:St->List V->Hp->Prop,(∀σ2 zs H2,N σ2 zs H2->∃m',m'<m/\W (i+1) m' σ2 zs H2)/\∀x H',Γ.qC i H x H'->g x σ' H' λσ2 H2=>tt σ2 H2 λb H3 =>
        if b=J then te σ2 H3 λy H4=>N σ2 (ys++[y]) H4 else N σ2 ys H3))
def By(wi:TI)(pick:List (Option Nat))(g:TG)(tt:TT)(te:TE):TE:=λZ H Q=>wi Z H λΓ H1=>OU Γ g tt te Q (mh pick Z) H1
def gH(env:Env):List (Str×PN)->List (Str×S)->List (Str×S)
 |[],acc=>acc
 |(n,k)::r,acc=>gH env r (if(k==NameKind.free)=J then(n,(env.cells.lookup n).getD 0)::acc else acc)
theorem AQ{env:Env}:∀(names:List (Str×PN)) (acc:List (Str×S)),(∀x∈names,x.2=.free->∃c,env.cells.lookup x.1=U c) ->
  (forIn names acc fun(x:Str×PN) cs=>(if(x.2==NameKind.free)=J then do let a <-cellOf env x.1;pure (ForInStep.yield ((x.1,a)::cs))else pure (ForInStep.yield cs):Sem (ForInStep (List (Str×S)))))=pure (gH env names acc)
 |[],acc,_=>rfl
 |(n,k)::r,acc,h=>by
  rw[UX]
  by_cases hk:(k==NameKind.free)=J
  ·obtain⟨c,hc⟩:=h (n,k) Pu (by simpa using hk)
   have e1:cellOf env n=pure c:=by unfold cellOf;rw[show env.cells.lookup n=U c from hc]
   simp only[hk,if_true,e1,pure_bind];rw[AQ r _ λx hx=>h x (Pr _ hx)]
   show _=pure (gH env r _);rw[if_pos hk,show env.cells.lookup n=U c from hc]
   rfl
  ·simp only[hk,Py,if_false,pure_bind];rw[AQ r _ λx hx=>h x (Pr _ hx)]
   show _=pure (gH env r _);rw[if_neg hk]
theorem E8{env:Env}:∀(names:List (Str×PN)) (acc:List (Str×S)),(gH env names acc).lookup x=U c ->
  ((x,NameKind.free)∈names/\c=(env.cells.lookup x).getD 0)\/acc.lookup x=U c
 |[],acc,h=>.inr h
 |(n,k)::r,acc,h=>by
  rcases E8 r _ h with⟨a,b⟩|q
  ·exact .inl ⟨Pr _ a,b⟩
  ·by_cases hk:(k==NameKind.free)=J
   ·rw[if_pos hk,Pj]at q;cases hx:x==n with
    |true =>
     rw[hx]at q;have e1:x=n:=by simpa using hx
     have e2:k=.free:=by simpa using hk
     subst e1;subst e2;exact .inl ⟨Pu,(P0 q).symm⟩
    |false=>rw[hx]at q;exact .inr q
   ·rw[if_neg hk]at q;exact .inr q
theorem E9{env:Env}:∀(names:List (Str×PN)) (acc:List (Str×S)),(acc.lookup x).isSome=J\/(x,NameKind.free)∈names->((gH env names acc).lookup x).isSome=J
 |[],acc,h=>h.elim id λz=>by cases z
 |(n,k)::r,acc,h=>by
  refine E9 r _ ?_
  by_cases hk:(k==NameKind.free)=J
  ·rw[if_pos hk,Pj];cases hx:x==n with
   |true=>exact .inl rfl
   |false =>
    refine h.imp id λz=>?_
    rcases Bt.mp z with e|z
    ·exact absurd (show(x==n)=J by cases e;simp) (by rw[hx];simp)
    ·exact z
  ·rw[if_neg hk];refine h.imp id λz=>?_
   rcases Bt.mp z with e|z
   ·exact absurd (show _=J by cases e;rfl) hk
   ·exact z
theorem EK:∀(names:List (Str×PN)) (n:Nat) (acc:List (Str×S)),(cellsFrom n names acc).lookup x=U c->(n<=c/\(x,NameKind.cell)∈names)\/acc.lookup x=U c
 |[],_,_,h=>.inr h
 |(y,k)::r,n,acc,h=>by
  unfold cellsFrom at h
  by_cases hk:(k==NameKind.cell)=J
  ·rw[if_pos hk]at h
   rcases EK r _ _ h with⟨a,b⟩|q
   ·exact .inl ⟨PJ (RA _) a,Pr _ b⟩
   ·rw[Pj]at q;cases hx:x==y with
    |true =>
     rw[hx]at q;have e1:x=y:=by simpa using hx
     have e2:k=.cell:=by simpa using hk
     subst e1;subst e2;exact .inl ⟨R1 (P0 q),Pu⟩
    |false=>rw[hx]at q;exact .inr q
  ·rw[if_neg hk]at h
   rcases EK r _ _ h with⟨a,b⟩|q
   ·exact .inl ⟨a,Pr _ b⟩
   ·exact .inr q
theorem EJ:∀(names:List (Str×PN)) (n:Nat) (acc:List (Str×S)),(∀x y c,acc.lookup x=U c->acc.lookup y=U c->x=y)->(∀x c,acc.lookup x=U c->c<n) ->
  ∀x y c,(cellsFrom n names acc).lookup x=U c->(cellsFrom n names acc).lookup y=U c->x=y
 |[],_,_,hi,_,x,y,c,h1,h2=>hi x y c h1 h2
 |(z,k)::r,n,acc,hi,hl,x,y,c,h1,h2=>by
  unfold cellsFrom at h1 h2
  by_cases hk:(k==NameKind.cell)=J
  ·rw[if_pos hk]at h1 h2;refine EJ r (n+1) ((z,n)::acc) (λx y c e1 e2=>?_) (λx c e=>?_) x y c h1 h2
   ·rw[Pj]at e1 e2;cases hx:x==z with
    |true =>
     rw[hx]at e1;cases hy:y==z with
     |true=>exact(by simpa using hx:x=z).trans (by simpa using hy:y=z).symm
     |false =>
      rw[hy]at e2;have e3:n=c:=P0 e1;exact absurd (e3▸hl y c e2) (Pz _)
    |false =>
     rw[hx]at e1;cases hy:y==z with
     |true =>
      rw[hy]at e2;have e3:n=c:=P0 e2;exact absurd (e3▸hl x c e1) (Pz _)
     |false=>rw[hy]at e2;exact hi x y c e1 e2
   ·rw[Pj]at e;cases hx:x==z with
    |true=>rw[hx]at e;have e3:n=c:=P0 e;exact e3▸QD n
    |false=>rw[hx]at e;exact Q0 (hl x c e)
  ·rw[if_neg hk]at h1 h2;exact EJ r n acc hi hl x y c h1 h2
theorem EL:∀(names:List (Str×PN)) (h:π) (acc:List (Str×S)),(cellsFrom h.objs.size names acc).lookup x=U c->acc.lookup x=U c\/(h.objs.size<=c/\(pushCells h names).IsCell c O)
 |[],_,_,e=>.inl e
 |(y,k)::r,h,acc,e=>by
  unfold cellsFrom at e;unfold pushCells
  by_cases hk:(k==NameKind.cell)=J
  ·rw[if_pos hk]at e ⊢;have e':=e;rw[show h.objs.size+1=(h.push {cls:=.type "cell",data:=.cell O}).objs.size from(P9 ..).symm]at e'
   rcases EL r _ _ e' with q|⟨a,q⟩
   ·rw[Pj]at q;cases hx:x==y with
    |true =>
     rw[hx]at q;have e3:h.objs.size=c:=P0 q;subst e3;exact .inr ⟨AP _,_,UW _ _ _ _ (O5 _ rfl),rfl⟩
    |false=>rw[hx]at q;exact .inl q
   ·refine .inr ⟨?_,q⟩;rw[P9]at a;omega
  ·rw[if_neg hk]at e ⊢;exact EL r h acc e
theorem afX{E:L->Ψ->Prop}{s:Ψ}{scope:P7}{cl:List (Str×S)}{qual:Str}{env:Env}{Q:Env->Ψ->Prop}(hQ:∀h',(∀b o,s.heap.get? b=U o->h'.get? b=U o)->h'.Ns s.heap.objs.size (λ_=>O) ->
   (∀x c,(cellsFrom (s.heap.objs.size+1) scope.names cl).lookup x=U c->cl.lookup x=U c\/(s.heap.objs.size<c/\h'.IsCell c O)) ->
   Q {scope,locals:=s.heap.objs.size,globals,cells:=cellsFrom (s.heap.objs.size+1) scope.names cl,qual,func:=O,code:=env.code,frame:=env.frame,builtins:=env.builtins} {s with heap:=h'}):
  wpAny M A (newFunctionEnv scope globals cl [] qual O .none (U env)) Q E s:=by
 simp only[newFunctionEnv,Option.isSome_some,if_true];refine Rc (wpAny_alloc ?_);refine Rc (wpAny_layCells _ (λname kind cells=>by cases hkc:kind==NameKind.cell<;>simp[hkc]) _ _ _ _ ?_)
 rw[show({s with heap:=s.heap.push {cls:=.type "dict",data:=.dict #[]} }:Ψ).heap.objs.size=s.heap.objs.size+1 from P9 ..]
 refine Rc (dD (dD ?_));refine hQ _ (λb o e=>UW _ _ b o (H8 _ e)) ((Heap.Ns.new s.heap (.type "dict")).keeps (UW _ _)) λx c e=>?_
 have e':=e;rw[show s.heap.objs.size+1=(s.heap.push {cls:=.type "dict",data:=.dict #[]}).objs.size from(P9 ..).symm]at e'
 rcases EL scope.names (s.heap.push {cls:=.type "dict",data:=.dict #[]}) cl e' with q|⟨a,q⟩
 ·exact .inl q
 ·refine .inr ⟨?_,q⟩;rw[P9]at a;omega
theorem xS{env:Env}:∀{names:List (Str×PN)},(names.map fun(n,k)=>if(k==NameKind.free&&env.scope.kind == .function&&env.kindOf n==U .cell)then(n,NameKind.cell)else(n,k)).lookup x=U k' ->
  ∃k,names.lookup x=U k/\(k'=k\/(k=.free/\k'=.cell))
 |[],h=>by cases h
 |(n,k)::r,h=>by
  rw[O6]at h
  by_cases hc:(k==NameKind.free&&env.scope.kind == .function&&env.kindOf n==U .cell)=J
  ·have e:(match((n,k))with|(n,k)=>if(k==NameKind.free&&env.scope.kind == .function&&env.kindOf n==U .cell)then _ else(n,k))=(n,NameKind.cell):=if_pos hc
   rw[e,Pj]at h;rw[Pj];cases hx:x==n with
   |true =>
    rw[hx]at h;have hk:k=.free:=by
     simp at hc
     simpa using hc.1.1
    exact⟨k,rfl,.inr ⟨hk,(P0 h).symm⟩⟩
   |false=>rw[hx]at h;exact xS h
  ·have e:(match((n,k))with|(n,k)=>if(k==NameKind.free&&env.scope.kind == .function&&env.kindOf n==U .cell)then(n,NameKind.cell)else _)=(n,k):=if_neg hc
   rw[e,Pj]at h;rw[Pj];cases hx:x==n with
   |true=>rw[hx]at h;exact⟨k,rfl,.inl (P0 h).symm⟩
   |false=>rw[hx]at h;exact xS h
theorem B3{env:Env}:∀{names:List (Str×PN)},names.lookup x=U k ->
  ∃k',(names.map fun(n,k)=>if(k==NameKind.free&&env.scope.kind == .function&&env.kindOf n==U .cell)then(n,NameKind.cell)else(n,k)).lookup x=U k'/\(k'=k\/(k=.free/\k'=.cell))
 |[],h=>by cases h
 |(n,j)::r,h=>by
  rw[O6];rw[Pj]at h
  by_cases hc:(j==NameKind.free&&env.scope.kind == .function&&env.kindOf n==U .cell)=J
  ·have e:(match((n,j))with|(n,k)=>if(k==NameKind.free&&env.scope.kind == .function&&env.kindOf n==U .cell)then _ else(n,k))=(n,NameKind.cell):=if_pos hc
   rw[e,Pj];cases hx:x==n with
   |true =>
    rw[hx]at h;have hk:j=.free:=by
     simp at hc
     simpa using hc.1.1
    exact⟨.cell,rfl,.inr ⟨(P0 h).symm.trans hk,rfl⟩⟩
   |false=>rw[hx]at h;exact B3 h
  ·have e:(match((n,j))with|(n,k)=>if(k==NameKind.free&&env.scope.kind == .function&&env.kindOf n==U .cell)then(n,NameKind.cell)else _)=(n,j):=if_neg hc
   rw[e,Pj];cases hx:x==n with
   |true=>rw[hx]at h;exact⟨j,rfl,.inl (P0 h)⟩
   |false=>rw[hx]at h;exact B3 h
theorem C5:∀{names:List (Str×PN)},(names.map (·.1)).Nodup->(x,k)∈names->names.lookup x=U k
 |[],_,h=>by cases h
 |(n,j)::r,nd,h=>by
  obtain⟨n1,n2⟩:=QV.mp nd;rw[Pj]
  rcases Bt.mp h with e|h2
  ·cases e;simp
  ·have hx:(x==n)=Δ:=by
    have:x≠n:=by
     intro e;exact n1 (K1.mpr ⟨_,h2,e⟩)
    simpa using this
   rw[hx];exact C5 n2 h2
theorem ab5{prog:ν}{R:Result->Ψ->Prop}{elt target iter:μ}{ifs:List μ}{scope:P7}{pos:Pos}{env:Env}(I:Nat->Ψ->Prop)(turn:∀n s,I n s->wpAny (model prog w) A (pyNext it) (λr s₁=>match r with
   |none=>R (.ok .next) s₁
   |some v=>wpAny (model prog w) A (letOwnedTupleGo target it v) (λ_ s₁'=>wpAny (model prog w) A (assign target env v) (λ_ s₂ =>
     wpAny (model prog w) A (forIn ifs J λc r=>if r=J then do let ok <-isTrue c env (eval c env);pure (ForInStep.yield ok)else pure (ForInStep.yield r)) (λok s₃ =>
      if ok=J then wpAny (model prog w) A (eval elt env) (λx s₄ =>
       wpAny (model prog w) A (call (.builtin "list.append") [acc,x]) (λ_ s₅=>∃m,m<n/\I m s₅) (λ_ _=>False) s₄) (λ_ _=>False) s₃
      else ∃m,m<n/\I m s₃) (λ_ _=>False) s₂) (λ_ _=>False) s₁') (λ_ _=>False) s₁) (λ_ _=>False) s)(n:Nat)(h:I n s):
  codeAny (model prog w) A (.compLoop (.ListComp elt [⟨target,iter,ifs,0⟩] scope pos) 0 it acc env) R s:=by
 refine codeAny_loop rfl I (λn s hI=>?_) n h
 refine wpAny_noted ?_;rw[compTurn_list];refine Rc (T5 (Rc (Pg (turn n s hI) (λr s₁ h₁=>?_) λ_ _ h'=>h'.elim)))
 cases r with
 |none=>exact dD h₁
 |some v =>
  refine Rc (Pg h₁ (λ_ s₁' h₁'=>?_) λ_ _ h'=>h'.elim)
  refine Rc (Pg h₁' (λ_ s₂ h₂=>Rc (Pg h₂ (λok s₃ h₃=>?_) λ_ _ h'=>h'.elim)) λ_ _ h'=>h'.elim)
  cases ok with
  |false=>exact dD ⟨rfl,h₃⟩
  |true =>
   exact Rc (Rc (Pg h₃ (λx s₄ h₄=>Rc (Pg h₄ (λ_ s₅ h₅=>dD (dD ⟨rfl,h₅⟩)) λ_ _ h'=>h'.elim)) λ_ _ h'=>h'.elim))
section
variable {X:Cx}{N':List Str}{pick:List (Option Nat)}{scope:P7}{pins:List (S×Obj)}{Z:St}{H₂:Hp}{s₂:Ψ}{tg:μ}{Γ:It}{fp:List S}{it:S}{tn:Nat->π->Prop}
theorem Oa(Θ:cL X N' pick scope)(I:Inv X pins Z H₂ s₂):closureFor scope X.env=pure (gH X.env scope.names []):=by
 have e:=AQ (env:=X.env) scope.names [] λx hx hk=>I.ok.has x.1 (Θ.free x hx hk)
 show((forIn scope.names ([]:List (Str×S)) fun(x:Str×PN) cs=>(if(x.2==NameKind.free)=J then do let a <-cellOf X.env x.1;pure (ForInStep.yield ((x.1,a)::cs))else pure (ForInStep.yield cs):Sem (ForInStep (List (Str×S))))) >>= λcs=>pure cs)=_
 rw[e,pure_bind]
theorem vS(Θ:cL X N' pick scope)(I:Inv X pins Z H₂ s₂)(h:(gH X.env scope.names []).lookup x=U c):(x,NameKind.free)∈scope.names/\X.env.cells.lookup x=U c:=by
 rcases E8 _ _ h with⟨a,b⟩|q
 ·refine⟨a,?_⟩;obtain⟨c',hc⟩:=I.ok.has x (Θ.free _ a rfl);rw[hc]at b ⊢;rw[b];rfl
 ·cases q
theorem vR(Θ:cL X N' pick scope)(I:Inv X pins Z H₂ s₂)(h:(cellsFrom n scope.names (gH X.env scope.names [])).lookup x=U c):
  (n<=c/\scope.names.lookup x=U .cell)\/(scope.names.lookup x=U .free/\X.env.cells.lookup x=U c):=by
 rcases EK _ _ _ h with⟨a,b⟩|q
 ·exact .inl ⟨a,C5 Θ.uniq b⟩
 ·obtain⟨a,b⟩:=vS Θ I q;exact .inr ⟨C5 Θ.uniq a,b⟩
theorem Ob(Θ:cL X N' pick scope)(I:Inv X pins Z H₂ s₂)(hx:scope.names.lookup x=U .free)(hc:X.env.cells.lookup x=U c):
  (cellsFrom n scope.names (gH X.env scope.names [])).lookup x=U c:=by
 have h1:((gH X.env scope.names []).lookup x).isSome=J:=E9 _ _ (.inr (QU hx));obtain⟨c',h2⟩:=T3.mp (T4 scope.names n _ (.inr h1))
 rcases vR Θ I h2 with⟨_,z⟩|⟨_,z⟩
 ·rw[hx]at z;cases z
 ·rw[hc]at z;cases z;exact h2
theorem aaA(I:Inv X pins Z H₂ s₂)(hb:b∈frs X.stack):b<s₂.heap.objs.size:=by
 rcases Bt.mp (I.o9 b hb)with e|hb
 ·rw[e];exact I.lt
 ·by_cases q:b<s₂.heap.objs.size
  ·exact q
  ·exact absurd hb (I.CF (Nat.not_lt.mp q))
theorem ab3(Θ:cL X N' pick scope)(I:Inv X pins Z H₂ s₂)(hf:∀b∈fp,ia X pins H₂ b)(hfo:∀b∈fp,b<s₂.heap.objs.size){s₄:Ψ}(hn:s₂.heap.objs.size<=n)(hC:s₂.heap.objs.size<=C)(hCn:C<n)(hos:s₄.os=s₂.os)(hge:s₄.gens=s₂.gens)(kp:∀b o,s₂.heap.get? b=U o->s₄.heap.get? b=U o)(ns:s₄.heap.Ns C λ_=>O)(ce:∀x c,(cellsFrom n scope.names (gH X.env scope.names [])).lookup x=U c->(gH X.env scope.names []).lookup x=U c\/(n<=c/\s₄.heap.IsCell c O)):
  Inv (fO X N' scope (cellsFrom n scope.names (gH X.env scope.names [])) C s₂ H₂ fp (X.pn++pins)) [] (mh pick Z) H₂ s₄:=by
 have fr:∀{a:S},s₂.heap.objs.size<=a->H₂ a=O:=λh=>I.hok.fresh h
 have old:∀{x:Str}{c:S},X.env.cells.lookup x=U c->c<s₂.heap.objs.size:=fun{x c} e=>let⟨v,z⟩:=I.cell x c e;z.lt
 have acI:∀p∈X.pn++pins,p.1<s₂.heap.objs.size:=λp hp=>Iv (I.pin p hp).1
 refine⟨⟨I.ok.mod,Θ.kind,I.ok.glob,I.ok.blt,hC,?inj,?has,?oU,I.ok.hd,I.ok.frames,.inl rfl,?vK,I.bs,PJ I.ok.jb I.sz,?mD,?sD,I.stack,I.BB⟩,
  hos,by rw[hge];exact I.bare,Un.kept kp,⟨_,ns,?loc⟩,?cell,fr hC,?jr,?pin,I.hok.kept kp,?len⟩
 case inj =>
  refine EJ _ _ _ (λx y c h1 h2=>?_) λx c h=>?_
  ·exact I.ok.inj x y c (vS Θ I h1).2 (vS Θ I h2).2
  ·exact O4 (old (vS Θ I h).2) hn
 case has =>
  intro x hx;have hx:(relabel scope X.env).names.lookup x=U .cell\/(relabel scope X.env).names.lookup x=U .free:=hx;have go:∀k,scope.names.lookup x=U k->k=.cell\/k=.free->∃c,(cellsFrom n scope.names (gH X.env scope.names [])).lookup x=U c:=λk hk hq=>by
   rcases hq with rfl|rfl
   ·exact T3.mp (T4 _ _ _ (.inl hk))
   ·obtain⟨c,hc⟩:=I.ok.has x (Θ.free _ (QU hk) rfl);exact⟨c,Ob Θ I hk hc⟩
  rcases hx with hx|hx
  ·obtain⟨k,hk,e|⟨e,_⟩⟩:=xS hx
   ·exact go k hk (.inl e.symm)
   ·exact go k hk (.inr e)
  ·obtain⟨k,hk,e|⟨_,e⟩⟩:=xS hx
   ·exact go k hk (.inr e.symm)
   ·cases e
 case oU =>
  intro x c hx hc;have hx:scope.names.lookup x=U .cell:=by simpa[fO]using hx
  rcases vR Θ I hc with⟨a,_⟩|⟨a,_⟩
  ·exact PJ hn a
  ·rw[hx]at a;cases a
 case vK =>
  intro b hb;refine⟨O0 (O4 (hfo b hb) hC),λx c hc=>?_⟩
  rcases vR Θ I hc with⟨a,_⟩|⟨_,a⟩
  ·exact Pp (O4 (hfo b hb) (PJ hn a))
  ·exact(hf b hb).2.2.2.2.1 x c a
 case mD =>
  intro b o e hb
  rcases(hf b hb).2.2.2.1 with z|z
  ·exact I.ok.mD b o e z
  ·exact absurd (O4 (Iv e) (PJ I.ok.jb z)) (Pz _)
 case sD =>
  intro b hb hs
  rcases Bt.mp (I.o9 b hs)with e|e
  ·exact(hf b hb).2.1 e
  ·exact(hf b hb).2.2.1 e
 case loc =>
  intro i x v h1 h2 h3;have h1:N'[i]? = U x:=h1;have hp:∃j,pick[i]? = U (U j)/\Z[j]? = U (U v):=by
   unfold mh at h2;rw[PK]at h2;cases e:pick[i]? with
   |none=>rw[e]at h2;cases h2
   |some o =>
    rw[e]at h2;cases o with
    |none=>cases h2
    |some j =>
     refine⟨j,rfl,?_⟩;have h2':(Z[j]?).bind id=U v:=P0 h2;cases e2:Z[j]? with
     |none=>rw[e2]at h2';cases h2'
     |some q=>rw[e2]at h2';exact congrArg U h2'
  obtain⟨j,hj,hv⟩:=hp;obtain⟨hfr,hN⟩:=Θ.got i j x hj h1;have hk:=Θ.free _ (QU hfr) rfl;obtain⟨m,hm,hl⟩:=I.loc;obtain⟨u,ru,lk⟩:=hl j x v hN hv (.inr hk);refine⟨u,ru,?_⟩
  rcases lk with⟨z,_⟩|⟨_,c,hc,hcell⟩
  ·rcases hk with q|q<;>(rw[show X.env.kindOf x=_ from z]at q;cases q)
  ·refine .inr ⟨?_,c,Ob Θ I hfr hc,hcell.keeps kp⟩;show(relabel scope X.env).names.lookup x=U .cell\/(relabel scope X.env).names.lookup x=U .free;obtain⟨k',hk',e|⟨_,e⟩⟩:=B3 hfr
   ·exact .inr (by rw[<-e];exact hk')
   ·exact .inl (by rw[<-e];exact hk')
 case cell =>
  intro x c hc
  rcases ce x c hc with z|⟨_,z⟩
  ·obtain⟨v,q⟩:=I.cell x c (vS Θ I z).2;exact⟨v,q.keeps kp⟩
  ·exact⟨O,z⟩
 case jr =>
  intro x c hc
  rcases vR Θ I hc with⟨a,_⟩|⟨_,a⟩
  ·exact fr (PJ hn a)
  ·exact I.jr x c a
 case pin =>
  intro p hp;have hp:p∈X.pn++pins:=by simpa[fO]using hp
  obtain⟨e,n0,ne,nf,d⟩:=I.pin p hp;refine⟨kp _ _ e,n0,O0 (O4 (acI p hp) hC),λz=>?_,d⟩
  rcases Bt.mp (I.o9 _ z)with e|e
  ·exact ne e
  ·exact nf e
 case len =>
  unfold mh;rw[O2];exact Θ.len
end
section
variable {X:Cx}{N':List Str}{pick:List (Option Nat)}{scope:P7}{pins:List (S×Obj)}{Z:St}{H₂:Hp}{s₂:Ψ}{tg:μ}{Γ:It}{fp:List S}{it:S}{tn:Nat->π->Prop}
 {elt iter:μ}{ifs:List μ}{pos:Pos}{g:TG}{tt:TT}{te:TE}
theorem NY{E:L->Ψ->Prop}{RR:L->S->Result->Ψ->Prop}{Qv:V->Hp->Prop}(Θ:cL X N' pick scope)(hc:X.calm=J)(jy:Inv X pins Z H₂ s₂)(T:Turn X.prog X.w X.K tg Γ fp it tn)(st:tn 0 s₂.heap)(hf:∀b∈fp,ia X pins H₂ b)(hg:∀cl C s₀ H₀ ex pn,PG (fO X N' scope cl C s₀ H₀ ex pn) tg g)(hi:∀cl C s₀ H₀ ex pn,qw (fO X N' scope cl C s₀ H₀ ex pn) ifs tt)(he:∀cl C s₀ H₀ ex pn,PE (fO X N' scope cl C s₀ H₀ ex pn) elt te){W:Nat->Nat->St->List V->Hp->Prop}(h0:W 0 m0 (mh pick Z) [] H₂)(turn:∀i m σ' ys H,W i m σ' ys H->ys.length<Ω /\
      ((Γ.stop i H/\∀p,H p=O->Qv (.ref p) (upd H p (.lst ys))) \/
       (Γ.go i H/\∃N:St->List V->Hp->Prop,(∀σ2 zs H2,N σ2 zs H2->∃m',m'<m/\W (i+1) m' σ2 zs H2)/\∀x H',Γ.qC i H x H'->g x σ' H' λσ2 H2=>tt σ2 H2 λb H3 =>
          if b=J then te σ2 H3 λy H4=>N σ2 (ys++[y]) H4 else N σ2 ys H3)))(fin:∀(D C:S) (H':Hp) (s':Ψ) (m:Str->Option L),Inv X pins Z H' s'->ia X pins H' C->s'.heap.Ns C m->Qv (.ref D) H'->RR (.ref D) C (.ok .next) s'):
    wpAny (model X.prog X.w) X.A (newList []) (λacc s₃=>wpAny (model X.prog X.w) X.A (newFunctionEnv scope X.env.globals (gH X.env scope.names []) [] X.env.qual O .none (U X.env)) (λcenv s₄ =>
      codeAny (model X.prog X.w) X.A (.compStart (.ListComp elt [⟨tg,iter,ifs,0⟩] scope pos) 0 (.ref it) acc {cenv with scope:=relabel scope X.env}) (RR acc cenv.locals) s₄) E s₃) E s₂:=by
  have hfo:∀b∈fp,b<s₂.heap.objs.size:=λb hb=>let⟨o,e,_⟩:=T.obj 0 _ st b hb;Iv e
  refine Sy (afX λh₄ kp ns ce=>?_)
  generalize D4:s₂.heap.push {cls:=.type "list",dict:=O,data:=.seq ([]:List L).toArray}=H3 at kp ns ce ⊢
  have hC:H3.objs.size=s₂.heap.objs.size+1:=by rw[<-D4,P9]
  have oi:∀b o,s₂.heap.get? b=U o->h₄.get? b=U o:=λb o e=>kp b o (D4▸H8 _ e)
  have hD:h₄.get? s₂.heap.objs.size=U {cls:=.type "list",data:=.seq ([]:List L).toArray}:=kp _ _ (D4▸O5 _ rfl);have oE:s₂.heap.objs.size<=H3.objs.size:=by rw[hC];exact RA _
  have hDC:s₂.heap.objs.size≠H3.objs.size:=by rw[hC];exact O0 (QD _)
  generalize hcl:cellsFrom (H3.objs.size+1) scope.names (gH X.env scope.names [])=cl at ce
  have Gk:Inv (fO X N' scope cl H3.objs.size s₂ H₂ fp (X.pn++pins)) [] (mh pick Z) H₂ {s₂ with heap:=h₄}:=by
    subst hcl;exact ab3 Θ jy hf hfo (n:=H3.objs.size+1) (PJ oE (RA _)) oE (QD _) rfl rfl oi ns λx c e=>ce x c e
  have DU:∀x c,cl.lookup x=U c->c≠s₂.heap.objs.size:=λx c e=>by
    subst hcl
    rcases vR Θ jy e with⟨a,_⟩|⟨_,a⟩
    · refine Pp (O4 ?_ a)
      rw[hC];exact Q0 (QD _)
    · obtain⟨v,z⟩:=jy.cell x c a
      exact O0 z.lt
  have ZQ:∀x c,X.env.cells.lookup x=U c->c≠H3.objs.size:=λx c e=>by
    obtain⟨v,z⟩:=jy.cell x c e;exact O0 (O4 z.lt oE)
  generalize gZ:fO X N' scope cl H3.objs.size s₂ H₂ fp (X.pn++pins)=X' at Gk
  have wV:X'.prog=X.prog:=by subst gZ;rfl
  have xw:X'.w=X.w:=by subst gZ;rfl
  have xK:X'.K=X.K:=by subst gZ;rfl
  have xA:X'.A=X.A:=by subst gZ;rfl
  have Gx:X'.calm=J:=by subst gZ;exact hc
  have wW:X'.env.locals=H3.objs.size:=by subst gZ;rfl
  have afF:X'.env.cells=cl:=by subst gZ;rfl
  have afp:X'.env=compEnvC scope cl H3.objs.size X.env:=by subst gZ;rfl
  have Bj:X'.fs=frs X.stack:=by subst gZ;rfl
  have Bk:X'.ex=fp:=by subst gZ;rfl
  have Bh:X'.s₀=s₂:=by subst gZ;rfl
  have Gw:X'.pn=X.pn++pins:=by subst gZ;rfl
  have afo:X'.xe=λ_ _=>False:=by subst gZ;rfl
  have afO:X'.H₀=H₂:=by subst gZ;rfl
  have hg':PG X' tg g:=by subst gZ;exact hg _ _ _ _ _ _
  have hi':qw X' ifs tt:=by subst gZ;exact hi _ _ _ _ _ _
  have he':PE X' elt te:=by subst gZ;exact he _ _ _ _ _ _
  have pe:∀{H':Hp}{pl:List (S×Obj)},(∀b∈fp,H' b=O)->(∀p∈pl,s₂.heap.objs.size<=p.1)->∀b∈fp,ia X' pl H' b:=fun{H' pl} hn hp b hb=>by
    have hlt:=hfo b hb;obtain⟨_,f1,f2,f3,f4,f5⟩:=hf b hb;refine⟨hn b hb,by rw[wW];exact O0 (O4 hlt oE),?_,.inl (by rw[Bk];exact hb),λx c e=>?_,λp p7=>?_⟩
    · rw[Bj]
      intro z
      rcases Bt.mp (jy.o9 b z)with e|e
      · exact f1 e
      · exact f2 e
    · have:=Gk.ok.vK b (by rw[Bk];exact hb)
      exact this.2 x c e
    · rcases PY.mp p7 with z|z
      · rw[Gw]at z;exact f5 p z
      · exact Pp (O4 hlt (hp p z))
  have Ju:∀{H':Hp}{s':Ψ}{σ':St}{o:Obj},Inv X' [] σ' H' s'->s'.heap.get? s₂.heap.objs.size=U o->H' s₂.heap.objs.size=O->(∀v,o.data≠.cell v)->Inv X' [(s₂.heap.objs.size,o)] σ' H' s':=fun{H' s' σ' o} I e hn hnc =>
    I.xY λp hp=>by
      obtain rfl:p=(s₂.heap.objs.size,o):=by simpa using hp
      refine⟨e,hn,by rw[wW];exact hDC,?_,hnc⟩
      rw[Bj];intro z;exact absurd (aaA jy z) (Pz _)
  have AW:H₂ s₂.heap.objs.size=O:=jy.hok.fresh (AP _)
  let afe:Nat->Ψ->Prop:=λn s'=>∃(i:Nat) (σ':St) (ys:List V) (H':Hp) (its:List L) (k:Nat),Inv X' [(s₂.heap.objs.size,{cls:=.type "list",data:=.seq its.toArray k})] σ' H' s'/\Vals ys its/\tn i s'.heap/\(∀b∈fp,H' b=O)/\W i n σ' ys H'
  have loop:codeAny (model X.prog X.w) X.A (.compLoop (.ListComp elt [⟨tg,iter,ifs,0⟩] scope pos) 0 (.ref it) (.ref s₂.heap.objs.size) X'.env) (RR (.ref s₂.heap.objs.size) H3.objs.size) {s₂ with heap:=h₄}:=by
    refine ab5 afe ?_ m0 ⟨0,_,[],H₂,[],_,Ju Gk hD AW (λv q=>nomatch q),.nil,T.keep _ _ _ st λb _ o e=>oi b o e,λb hb=>(hf b hb).1,h0⟩
    rintro n s5 ⟨i,wM,ys,H5,its,k,I5,rv,pq,zk,w5⟩
    obtain⟨hlen,tr⟩:=turn i n wM ys H5 w5;have p5:∀{o:Obj},∀p∈[(s₂.heap.objs.size,o)],s₂.heap.objs.size<=p.1:=fun{o} p hp=>by
      obtain rfl:p=(s₂.heap.objs.size,o):=by simpa using hp
      exact AP _
    rw[<-xA]
    rcases tr with⟨stop,qf⟩|⟨go,N,hN,step⟩
    · have dn:=T.done X' wV xw xK Gx i _ s5 wM H5 (λ_ _=>False) I5 (pe zk p5) pq stop
      rw[xA]at dn ⊢;refine Pg dn (λr s6 h6=>?_) λ_ _ z=>z
      obtain⟨rfl,I6⟩:=h6;show RR (.ref s₂.heap.objs.size) H3.objs.size (.ok .next) s6;obtain⟨eD,nD,_⟩:=I6.pin _ (QJ _ Pu);have o7:Un (frs X.stack) fp H₂ H5 s₂.heap s6.heap:=by
        have:=I6.base;rw[Bj,Bk,Bh,afO]at this;exact this
      have lt:∀{b:S}{o:Obj},s₂.heap.get? b=U o->b≠s₂.heap.objs.size:=λe=>O0 (Iv e)
      have agt:Un (frs X.stack) fp H₂ (upd H5 s₂.heap.objs.size (.lst ys)) s₂.heap s6.heap :=
        ⟨o7.keep,o7.slot,λb o e n hx=>by rw[bz (lt e)];exact o7.free b o e n hx,o7.there,λb xs e=>by rw[bz (dH e AW)];exact o7.tups b xs e,
          λb o u e=>by rw[bz (dH e AW)];exact o7.jq b o u e,λb ps e=>by rw[bz (dH e AW)];exact o7.jE b ps e⟩
      have Zp:cW X.prog X.w (upd H5 s₂.heap.objs.size (.lst ys)) s6.heap:=λb u e=>by
        by_cases hb:b=s₂.heap.objs.size
        · subst hb
          rw[eT]at e;cases e;exact⟨R4 hlen,its,k,rv,eD⟩
        · rw[bz hb]at e
          have:=I6.hok b u e;rw[wV,xw]at this;exact this.stay (λ_ _ _ q=>q) (λc q=>by rw[bz (dH q nD)];exact q) λc xs q=>by rw[bz (dH q nD)];exact q
      have I7:Inv X pins Z (upd H5 s₂.heap.objs.size (.lst ys)) s6:=by
        refine jy.EN (ch:=fp) ?_ agt Zp I6.bare λb hb=>?_
        · have:=I6.os;rw[Bh]at this;exact this
        · obtain⟨_,f1,f2,f3,f4,f5⟩:=hf b hb
          exact⟨f3,f1,f4,f5⟩
      obtain⟨m6,n6,_⟩:=I6.loc;rw[wW]at n6;have hC6:H5 H3.objs.size=O:=by have:=I6.free;rw[wW]at this;exact this
      refine fin _ _ _ s6 m6 I7 ⟨by rw[bz (Q2 hDC)];exact hC6,?_,?_,.inr (PJ jy.sz oE),ZQ,λp hp=>?_⟩ n6 (qf _ nD)
      · exact Pp (O4 jy.lt oE)
      · intro z
        exact absurd z (jy.CF oE)
      · exact O0 (O4 (Iv (jy.pin p hp).1) oE)
    · have YG:=T.item X' wV xw xK Gx i _ s5 wM H5 (λ_ _=>False) I5 (pe zk p5) pq go
      refine Pg YG (λr s6 h6=>?_) λ_ _ z=>z
      obtain⟨u,rfl,h6⟩:=h6;refine Pg h6 (λ_ s7 h7=>?_) λ_ _ z=>z
      obtain⟨x,H7,I7,rx,y7,BD,fr7⟩:=h7;have I7':=I7.pinned (pe fr7 p5) (T.obj _ _ BD);have mp:∀{α:Type}{t:Sem α}{Q:α->Ψ->Prop}{s:Ψ},wpAny (model X'.prog X'.w) X'.A t Q X'.xe s->wpAny (model X.prog X.w) X'.A t Q (λ_ _=>False) s:=fun{α t Q s} h=>by
        rw[wV,xw,afo]at h;exact h
      refine Pg (mp (hg' _ s7 wM H7 x u _ I7' rx (step x H7 y7))) (λ_ s8 h8=>?_) λ_ _ z=>z
      obtain⟨sV,afc,afd,q8⟩:=h8;refine Pg (mp (hi' _ s8 sV afc _ afd q8)) (λok s9 h9=>?_) λ_ _ z=>z
      obtain⟨H9,I9,q9⟩:=h9;have LD:∀{σ':St}{H':Hp}{s':Ψ},Inv X' ([(s₂.heap.objs.size,{cls:=.type "list",data:=.seq its.toArray k})]++ug fp s7.heap) σ' H' s'->tn (i+1) s'.heap/\∀b∈fp,H' b=O:=fun{σ' H' s'} I=>by
        refine⟨T.keep _ _ _ BD λb hb o e=>(I.pin (b,o) (QJ _ (QJ _ (yD hb e)))).1,λb hb=>?_⟩
        obtain⟨o,e,d⟩:=T.obj _ _ BD b hb;exact(I.pin (b,o) (QJ _ (QJ _ (yD hb e)))).2.1
      cases ok with
      | false =>
        rw[if_neg PM]at q9 ⊢;obtain⟨m',hm,w9⟩:=hN _ _ _ q9;obtain⟨t9,f9⟩:=LD I9;exact⟨m',hm,i+1,sV,ys,H9,its,k,I9.tL,rv,t9,f9,w9⟩
      | true =>
        rw[if_pos rfl]at q9 ⊢;refine Pg (mp (he' _ s9 sV H9 _ I9 q9)) (λv t8 h10=>?_) λ_ _ z=>z
        obtain⟨y,OT,OS,ry,rC⟩:=h10;obtain⟨m',hm,aab⟩:=hN _ _ _ rC;obtain⟨ahr,f10⟩:=LD OS;have OR:=OS.tL;obtain⟨eD,nD,fL,nfD,ae8⟩:=OR.pin _ (QJ _ Pu);have hl:=rv.length;refine Rw F.slot_list_append ⟨_,eD,rfl⟩ F.entry_list_append (F.args_list_append_2 _ _) (Vj s₂.heap.objs.size its.toArray k v (by rw[O3];omega)) ⟨eD,?_⟩
        have q:=Vk eD (·.push v);have I11:Inv X' [] sV OT {t8 with heap:=t8.heap.update s₂.heap.objs.size (Obj.mapSeq (·.push v))}:=by
          refine(OR.xY (Cc:=[]) λp hp=>by cases hp).turned (t':=t8.toks) (it:=s₂.heap.objs.size) (λb o hb e=>(Qd t8.heap (Obj.mapSeq (·.push v)) (Q2 hb)).trans e) nD fL (.inr (by rw[Bh];exact AP _)) (λx c hc=>DU x c (by rw[<-afF];exact hc)) λp hp=>?_
          have hp:p∈X.pn++pins:=by rw[QX,Gw]at hp;exact hp
          exact O0 (Iv (jy.pin p hp).1)
        rw[show its.toArray.push v=(its++[v]).toArray by simp]at q
        refine⟨m',hm,i+1,sV,ys++[y],OT,its++[v],_,Ju I11 q nD (λv q=>nomatch q),rv.append (.cons ry .nil),?_,f10,aab⟩
        refine T.keep _ _ _ ahr λb hb o e=>(Qd t8.heap (Obj.mapSeq (·.push v)) ?_).trans e
        exact Pp (hfo b hb)
  have e4:({scope:=relabel scope X.env,locals:=H3.objs.size,globals:=X.env.globals,cells:=cl,qual:=X.env.qual,func:=O,code:=X.env.code,frame:=X.env.frame,builtins:=X.env.builtins}:Env)=X'.env:=by rw[afp];rfl
  have HL:tn 0 h₄:=T.keep _ _ _ st λb _ o e=>oi b o e
  have goal:codeAny (model X.prog X.w) X.A (.compStart (.ListComp elt [⟨tg,iter,ifs,0⟩] scope pos) 0 (.ref it) (.ref s₂.heap.objs.size) X'.env) (RR (.ref s₂.heap.objs.size) H3.objs.size) {s₂ with heap:=h₄} :=
    codeAny_compStart_list loop (T.self _ 0 _ _ _ HL loop)
  rw[<-e4]at goal;exact goal
theorem Inv.gone(I:Inv X pins Z H' s')(f:ia X pins H' C)(hs:R6 C s'.heap h'):Inv X pins Z H' {s' with heap:=h'}:=by
 obtain⟨f0,f1,f2,f3,f4,f5⟩:=f;exact I.turned (λb o hb e=>(hs.2 b hb).trans e) f0 f1 f3 f4 f5
theorem akw(Θ:cL X N' pick scope)(hc:X.calm=J)(hit:PI X tg iter wi)(hg:∀cl C s₀ H₀ ex pn,PG (fO X N' scope cl C s₀ H₀ ex pn) tg g)(hi:∀cl C s₀ H₀ ex pn,qw (fO X N' scope cl C s₀ H₀ ex pn) ifs tt)(he:∀cl C s₀ H₀ ex pn,PE (fO X N' scope cl C s₀ H₀ ex pn) elt te)(hs:∀x,foldedSetIterable iter X.env x=pure x:=by intro _;rfl):
  PE X (.ListComp elt [⟨tg,iter,ifs,0⟩] scope pos) (By wi pick g tt te):=by
 intro pins s Z H Q I h;rw[eval_ListComp];refine Vh rfl hs (Oa Θ I) Θ.kind Θ.names (bx (hit pins s Z H _ I h) λv s1 h1=>bx h1 λitv s2 h2=>?_)
 obtain⟨it,fp,tn,Γ,H2,rfl,I2,T,st2,f2,W,⟨m0,w0⟩,turn⟩:=h2;refine NY Θ hc I2 T st2 f2 hg hi he w0 turn ?_;intro D C H' s' m I' f' n' q';exact⟨m,n',λh' hs'=>⟨.ref D,H',I'.gone f' hs',rfl,q'⟩⟩
def agn(i:Nat)(t:TE):TS:=λD Z H=>t Z H λv H1=>D.nx (Z.set i (U v)) H1
theorem aji{spos:Pos}(hsw:swapsWith (.ListComp elt [⟨tg,iter,ifs,0⟩] scope pos) (U (.Name y py)) spos.line X.env=pure J)(hN:X.N.Nodup)(hy:X.N[i]? = U y)(hl:X.env.scope.names.lookup y=U .local)(Θ:cL X N' pick scope)(hc:X.calm=J)(hit:PI X tg iter wi)(hg:∀cl C s₀ H₀ ex pn,PG (fO X N' scope cl C s₀ H₀ ex pn) tg g)(hi:∀cl C s₀ H₀ ex pn,qw (fO X N' scope cl C s₀ H₀ ex pn) ifs tt)(he:∀cl C s₀ H₀ ex pn,PE (fO X N' scope cl C s₀ H₀ ex pn) elt te)(hs:∀x,foldedSetIterable iter X.env x=pure x:=by intro _;rfl):
  PS X (.Assign [.Name y py] (.ListComp elt [⟨tg,iter,ifs,0⟩] scope pos) spos) (agn i (By wi pick g tt te)):=by
 intro pins s Z H D I h;rw[exec_Assign_Name_used _ _ _ _ hsw];refine Rc (T5 (Rc ?_));refine Rc (Pg (Vh rfl hs (Oa Θ I) Θ.kind Θ.names
  (bx (hit pins s Z H _ I h) λv s1 h1=>bx h1 λitv s2 h2=>?_)) (λ_ s' hq=>dD (dD hq)) λ_ _ e=>e)
 obtain⟨it,fp,tn,Γ,H2,rfl,I2,T,st2,f2,W,⟨m0,w0⟩,turn⟩:=h2;refine NY (Qv:=λv H1=>D.nx (Z.set i (U v)) H1) Θ hc I2 T st2 f2 hg hi he w0 turn ?_
 intro Da C H' s' m I' f' n' q';refine wpAny_assign_Name (HG I' hN hy (.inl hl) (v:=.ref Da) rfl (λs'' wH ⟨a,sb,ha⟩=>?_) (.inr hl))
 have hCa:C≠a:=by
  rcases ha with e|e
  ·rw[e];exact f'.2.1
  ·exact Q2 (f'.2.2.2.2.1 _ _ e)
 exact⟨m,n'.sameBut sb hCa,λh' hs'=>⟨_,H',wH.gone f' hs',q'⟩⟩
end
def N1(XN:List Str)(xn:List (Str×PN))(N':List Str)(pick:List (Option Nat))(names:List (Str×PN)):Bool :=
 decide N'.Nodup&&names.all (λx=>decide (names.lookup x.1=U x.2))&&decide ((names.map (·.1)).Nodup)&&(pick.length==N'.length) &&
 (pick.zip N').all (λq=>match q.1 with|none=>J|some j=>decide (names.lookup q.2=U NameKind.free)&&decide (XN[j]? = U q.2)) &&
 names.all (λx=>decide (x.2≠NameKind.free)||(decide (xn.lookup x.1=U NameKind.cell)||decide (xn.lookup x.1=U NameKind.free)))
theorem cL.of{X:Cx}{pick:List (Option Nat)}{scope:P7}(hk:scope.kind=.function)(h:N1 X.N X.env.scope.names N' pick scope.names=J):cL X N' pick scope:=by
 unfold N1 at h;simp only[PF,Ph,decide_eq_true_eq,beq_iff_eq,R0]at h;obtain⟨⟨⟨⟨⟨h1,h2⟩,h3⟩,h4⟩,h5⟩,h6⟩:=h;refine⟨hk,h1,λx hx e=>by rw[<-e];exact h2 x hx,h3,h4,λi j x hp hN=>?_,λx hx e=>?_⟩
 ·have hm:(U j,x)∈pick.zip N':=by
   have:(pick.zip N')[i]? = U (U j,x):=by rw[UU];exact⟨hp,hN⟩
   exact P8 this
  exact h5 _ hm |> λz=>by simpa using z
 ·rcases h6 x hx with z|z|z
  ·exact absurd e z
  ·exact .inl z
  ·exact .inr z
end L2
namespace PySem
open Sem (wp)
section
variable {prog:ν}{w:τ}{A:χ}{E:L->Ψ->Prop}{s:Ψ}
theorem Wx{items:Array L}{Q:L->Ψ->Prop}(hit:s.heap.IsTupleIter it l i)(hl:s.heap.IsTuple l items)(hx:items[i]? = U x)(hQ:∀h',h'.IsTupleIter it l (i+1)->R6 it s.heap h'->Q x {s with heap:=h'}):
  wpAny (model prog w) A (Builtin.SmallTypes.nextOf (.ref it)) Q E s:=by
 obtain⟨o,ho,hc,hd⟩:=id hit;obtain⟨ol,gY,_,nl,hdl⟩:=hl;refine Rc (Rv hit.typeIs Sx
  (Q9 Sx hit.typeIs Vg ?_ (Vf _)))
 show wpAny _ _ (field _ 0 >>= _) _ _ s;refine Rc (QG ho hd rfl ?_);refine Rc (QG ho hd rfl ?_);refine Rc (Q8 gY hdl ?_);simp only[RD,hx];refine Rc (SM ho hd (by simp) (dD ⟨x,rfl,dD (hQ _ ?_ (Ql ..))⟩))
 exact⟨_,SQ _ ho (UT (Ru hd _)),(US ..).trans hc,by
  rw[Ru hd];simp[rawInt]⟩
theorem Wy{items:Array L}{Q:L->Ψ->Prop}(hh:A.handled=O)(hit:s.heap.IsTupleIter it l i)(hl:s.heap.IsTuple l items)(hx:items[i]? = O)(hE:∀h' e,Heap.ExtBut it s.heap h'->(∃o,h'.get? e=U o/\o.cls=.type "StopIteration")->E (.ref e) {s with heap:=h'}):
  wpAny (model prog w) A (Builtin.SmallTypes.nextOf (.ref it)) Q E s:=by
 obtain⟨o,ho,hc,hd⟩:=id hit;obtain⟨ol,gY,_,nl,hdl⟩:=hl;refine Rc (Rv hit.typeIs Sx
  (Q9 Sx hit.typeIs Vg ?_ (Vf _)))
 show wpAny _ _ (field (.ref it) 0 >>= _) _ _ s;refine Rc (QG ho hd (x:=.ref l) rfl ?_);refine Rc (QG ho hd rfl ?_);refine Rc (Q8 gY hdl ?_);simp only[RD,hx];refine Rc (Qz (Rc (SM ho hd (by simp) ?_)))
 refine Rc ?_;refine Rc (m:=firstArgMember _ _) (Rt (a:=Value.none) (by first|rfl|(simp;rfl)) ?_)
 refine Sy ?_ (by size_fits)
 refine Rc (wpAny_handled ?_)
 first|rw[show A.in1.handled=O from hh]|rw[hh]
 refine Rc (dD (wpAny_throw ?_));exact hE _ _ (((Ql ..).extBut.push _).push _) ⟨_,O5 _ rfl,rfl⟩
theorem Draws.tuple{prog:ν}{A:χ}(hh:A.handled=O)(it l:S)(hne:l≠it)(items:Array L):
  Qg prog w A it [it,l] items.size (λi v=>items[i]? = U v) (λi h=>h.IsTupleIter it l i/\h.IsTuple l items) where
 live:=λ_ _ st=>let⟨o,ho,_⟩:=st.1;⟨o,ho⟩
 frame:=λ_ _ _ st hk=>⟨st.1.at λo e=>hk it (by simp) o e,let⟨o,e,r⟩:=st.2;⟨o,hk l (by simp) o e,r⟩⟩
 item:=λi s Q E hi st hQ=>Wx st.1 st.2 (x:=items[i]) (by simp) λh' DQ hs'=>hQ _ h' s.toks (by simp) ⟨DQ,let⟨o,e,r⟩:=st.2;⟨o,hs'.extBut _ _ hne e,r⟩⟩ hs'
 done:=λs Q E st hE=>Wy hh st.1 st.2 (by simp) hE
structure ZA (z TI TO i1 i2:S) (f1 f2:List S):Prop where
 TIz:TI≠z
 TOz:TO≠z
 TITO:TI≠TO
 TIi1:TI≠i1
 TIi2:TI≠i2
 m1:i1∈f1
 m2:i2∈f2
 z1:z∉f1
 z2:z∉f2
 o1:TO∉f1
 o2:TO∉f2
 x1:i1∉f2
 x2:i2∉f1
theorem afl{TI TO:S}{P1 P2:Nat->L->Prop}{S1 S2:Nat->π->Prop}{Q:L->Ψ->Prop}(D:ZA z TI TO i1 i2 f1 f2)(D1:Qg prog w A i1 f1 n1 P1 S1)(D2:Qg prog w A i2 f2 n2 P2 S2)(hz:QA s.heap z TI TO .none)(hTI:PZ s.heap TI (.ref i1) (.ref i2))(hTO:PZ s.heap TO a b)(h1:S1 k s.heap)(h2:S2 k s.heap)(hx:k<n1)(hy:k<n2)(hQ:∀x y h' tk,P1 k x->P2 k y->QA h' z TI TO (rawInt s.heap.objs.size)->PZ h' TO x y->S1 (k+1) h'->S2 (k+1) h'->PZ h' s.heap.objs.size x y ->
   (∀c o,c≠z->c≠TO->c≠i1->c≠i2->s.heap.get? c=U o->h'.get? c=U o)->Q (.ref s.heap.objs.size) {s with heap:=h',toks:=tk}):
  wpAny (model prog w) A (Builtin.«zip.__next__» ⟨[.ref z],[]⟩) (λfin s'=>∃v,fin=.done (.ret v)/\Q v s') E s:=by
 have yk:i1≠z:=λe=>D.z1 (e▸D.m1)
 have CC:i2≠z:=λe=>D.z2 (e▸D.m2)
 have Wv:TO≠i1:=λe=>D.o1 (e▸D.m1)
 have Wu:TO≠i2:=λe=>D.o2 (e▸D.m2)
 have n12:i1≠i2:=λe=>D.x1 (e▸D.m2)
 show wpAny _ _ (field (.ref z) 2 >>= _) _ _ _;refine Rc (QG hz rfl (x:=.bool Δ) rfl ?_);show wpAny _ _ (field (.ref z) 3 >>= _) _ _ _;refine Rc (QG hz rfl (x:=.ref TI) rfl ?_);refine Rc (Q8 hTI rfl ?_);show wpAny _ _ (Builtin.SmallTypes.ownedTupleIsFree (.ref z) >>= _) _ _ _;refine Rc ?_;unfold Builtin.SmallTypes.ownedTupleIsFree;refine Rc (QG hz rfl (x:=.none) rfl (dD ?_));simp only[if_true];refine Rc (Qz ?_);refine Rc (QG hz rfl (x:=.ref TO) rfl ?_);refine Rc (Rr hz (by simp) λh₁ rZ hs₁=>?_)
 replace rZ:QA h₁ z TI TO .ellipsis:=rZ
 refine Rc ?_;simp only[List.zipIdx_cons,List.zipIdx_nil,UX,List.forIn_nil];refine Rc (Rc (Sw ?_));show wpAny _ _ (Builtin.SmallTypes.nextOf (.ref i1) >>= _) _ _ _;refine Rc (D1.item k _ _ _ hx (D1.frame _ _ _ h1 λc hc o e=>hs₁.extBut _ _ (λq=>D.z1 (q▸hc)) e) λx h₂ tk₂ px MM hs₂=>dD ?_)
 have vf:PZ h₂ TO a b:=hs₂.extBut _ _ Wv (hs₁.extBut _ _ D.TOz hTO);refine Rc (Q8 vf rfl ?_);refine Rc (UR vf λh₃ ze jP=>?_)
 replace ze:PZ h₃ TO x b:=ze
 refine Rc (wpAny_letGo (dD ?_));refine Rc (Rc (Sw ?_));show wpAny _ _ (Builtin.SmallTypes.nextOf (.ref i2) >>= _) _ _ _;refine Rc (D2.item k _ _ _ hy (D2.frame _ _ _ h2 λc hc o e=>jP.extBut _ _ (λq=>D.o2 (q▸hc)) (hs₂.extBut _ _ (λq=>D.x1 (q▸hc)) (hs₁.extBut _ _ (λq=>D.z2 (q▸hc)) e))) λy h₄ tk₄ py aai oz=>dD ?_)
 have ME:PZ h₄ TO x b:=oz.extBut _ _ Wu ze;refine Rc (Q8 ME rfl ?_);refine Rc (UR ME λh₅ zd ou=>?_)
 replace zd:PZ h₅ TO x y:=zd
 refine Rc (wpAny_letGo (dD (dD ?_)));refine Rc (Q8 zd rfl ?_);refine Rc (wpAny_newTuple ?_);have hsz:h₅.objs.size=s.heap.objs.size:=by rw[ou.1,oz.1,jP.1,hs₂.1,hs₁.1]
 have LZ:QA h₅ z TI TO .ellipsis:=ou.extBut _ _ D.TOz.symm (oz.extBut _ _ CC.symm (jP.extBut _ _ D.TOz.symm (hs₂.extBut _ _ yk.symm rZ)));have Zx:∀c o,c≠z->c≠TO->c≠i1->c≠i2->s.heap.get? c=U o->h₅.get? c=U o:=λc o c1 c2 c3 c4 e =>
  ou.extBut _ _ c2 (oz.extBut _ _ c4 (jP.extBut _ _ c2 (hs₂.extBut _ _ c3 (hs₁.extBut _ _ c1 e))))
 have aaj:S1 (k+1) h₅:=D1.frame _ _ _ MM λc hc o e=>ou.extBut _ _ (λq=>D.o1 (q▸hc)) (oz.extBut _ _ (λq=>D.x2 (q▸hc)) (jP.extBut _ _ (λq=>D.o1 (q▸hc)) e))
 have aah:S2 (k+1) h₅:=D2.frame _ _ _ aai λc hc o e=>ou.extBut _ _ (λq=>D.o2 (q▸hc)) e
 have L6:z<h₅.objs.size:=Iv LZ;show wpAny _ _ (Builtin.SmallTypes.ownedTupleHandOut (.ref z) (.ref h₅.objs.size) >>= _) _ _ _;refine Rc ?_;unfold Builtin.SmallTypes.ownedTupleHandOut;have Y9:QA (h₅.push {cls:=.type "tuple",data:=.seq #[x,y]}) z TI TO .ellipsis:=H8 _ LZ;refine Rc (Rr Y9 (by simp) λY8 DB Me=>?_)
 replace DB:QA Y8 z TI TO (rawInt h₅.objs.size):=DB
 refine Rr DB (by simp) λyU yV Mc=>?_
 replace yV:QA yU z TI TO (rawInt h₅.objs.size):=yV
 have up:∀c o,c≠z->h₅.get? c=U o->yU.get? c=U o:=λc o c1 e=>Mc.extBut _ _ c1 (Me.extBut _ _ c1 (H8 _ e))
 have MD:PZ yU h₅.objs.size x y:=Mc.extBut _ _ (Pp L6) (Me.extBut _ _ (Pp L6) (O5 _ rfl));rw[hsz]at yV MD;refine dD ⟨_,rfl,?_⟩;show Q (.ref h₅.objs.size) _;rw[hsz];exact hQ x y yU _ px py yV (up _ _ D.TOz zd) (D1.frame _ _ _ aaj λc hc o e=>up c o (λq=>D.z1 (q▸hc)) e) (D2.frame _ _ _ aah λc hc o e=>up c o (λq=>D.z2 (q▸hc)) e) MD λc o c1 c2 c3 c4 e=>up c o c1 (Zx c o c1 c2 c3 c4 e)
theorem afk{TI TO:S}{P1 P2:Nat->L->Prop}{S1 S2:Nat->π->Prop}{Q:Fin->Ψ->Prop}(D:ZA z TI TO i1 i2 f1 f2)(D1:Qg prog w A i1 f1 n1 P1 S1)(D2:Qg prog w A i2 f2 n2 P2 S2)(hz:QA s.heap z TI TO .none)(hTI:PZ s.heap TI (.ref i1) (.ref i2))(hTO:PZ s.heap TO a b)(h1:S1 k s.heap)(h2:S2 k s.heap)(hend:k=n1\/(k<n1/\k=n2))(hE:∀h' tk e,(∀c o,c≠z->c≠TO->c≠i1->c≠i2->s.heap.get? c=U o->h'.get? c=U o)->(∃o,h'.get? e=U o/\o.cls=.type "StopIteration")->E (.ref e) {s with heap:=h',toks:=tk}):
  wpAny (model prog w) A (Builtin.«zip.__next__» ⟨[.ref z],[]⟩) Q E s:=by
 have yk:i1≠z:=λe=>D.z1 (e▸D.m1)
 have CC:i2≠z:=λe=>D.z2 (e▸D.m2)
 show wpAny _ _ (field (.ref z) 2 >>= _) _ _ _;refine Rc (QG hz rfl (x:=.bool Δ) rfl ?_);refine Rc (QG hz rfl (x:=.ref TI) rfl ?_);refine Rc (Q8 hTI rfl ?_);refine Rc ?_;unfold Builtin.SmallTypes.ownedTupleIsFree;refine Rc (QG hz rfl (x:=.none) rfl (dD ?_));simp only[if_true];refine Rc (Qz ?_);refine Rc (QG hz rfl (x:=.ref TO) rfl ?_);refine Rc (Rr hz (by simp) λh₁ rZ hs₁=>?_)
 refine Rc ?_;refine Rc (Rc (Sw ?_));have MN:S1 k h₁:=D1.frame _ _ _ h1 λc hc o e=>hs₁.extBut _ _ (λq=>D.z1 (q▸hc)) e
 rcases hend with rfl|⟨hlt,rfl⟩
 ·refine Rc (D1.done _ _ _ MN λh₂ e hs₂ he=>?_)
  obtain⟨oe,p8,hce⟩:=he;have L5:QA h₂ z TI TO .ellipsis:=hs₂ _ _ yk.symm rZ;have ZI:e≠z:=λx=>by subst x;rw[L5]at p8;cases p8;simp at hce
  refine Rr L5 (by simp) λh₃ _ jP=>hE h₃ _ e (λc o c1 _ c3 _ x=>jP.extBut _ _ c1 (hs₂ _ _ c3 (hs₁.extBut _ _ c1 x))) ⟨oe,jP.extBut _ _ ZI p8,hce⟩
 ·refine Rc (D1.item k _ _ _ hlt MN λx h₂ tk₂ px MM hs₂=>dD ?_)
  have vf:PZ h₂ TO a b:=hs₂.extBut _ _ (λe=>D.o1 (e▸D.m1)) (hs₁.extBut _ _ D.TOz hTO)
  refine Rc (Q8 vf rfl ?_);refine Rc (UR vf λh₃ ze jP=>?_)
  refine Rc (wpAny_letGo (dD ?_));refine Rc (Rc (Sw ?_));refine Rc (D2.done _ _ _ (D2.frame _ _ _ h2 λc hc o e=>jP.extBut _ _ (λq=>D.o2 (q▸hc)) (hs₂.extBut _ _ (λq=>D.x1 (q▸hc)) (hs₁.extBut _ _ (λq=>D.z2 (q▸hc)) e))) λh₄ e oz he=>?_)
  obtain⟨oe,p8,hce⟩:=he;have L4:=oz _ _ CC.symm (jP.extBut _ _ D.TOz.symm (hs₂.extBut _ _ yk.symm rZ));refine Rr L4 (by simp) λh₅ _ ou=>hE h₅ _ e (λc o c1 c2 c3 c4 x=>ou.extBut _ _ c1 (oz _ _ c4 (jP.extBut _ _ c2 (hs₂.extBut _ _ c3 (hs₁.extBut _ _ c1 x))))) ⟨oe,ou.extBut _ _ (λx=>by subst x;rw[L4]at p8;cases p8;simp at hce) p8,hce⟩
theorem ajw{TI TO:S}{P1 P2:Nat->L->Prop}{S1 S2:Nat->π->Prop}{Q:Option L->Ψ->Prop}(D:ZA z TI TO i1 i2 f1 f2)(D1:Qg prog w A.in1 i1 f1 n1 P1 S1)(D2:Qg prog w A.in1 i2 f2 n2 P2 S2)(hz:QA s.heap z TI TO .none)(hTI:PZ s.heap TI (.ref i1) (.ref i2))(hTO:PZ s.heap TO a b)(h1:S1 k s.heap)(h2:S2 k s.heap)(hx:k<n1)(hy:k<n2)(hQ:∀x y h' tk,P1 k x->P2 k y->QA h' z TI TO (rawInt s.heap.objs.size)->PZ h' TO x y->S1 (k+1) h'->S2 (k+1) h'->PZ h' s.heap.objs.size x y ->
   (∀c o,c≠z->c≠TO->c≠i1->c≠i2->s.heap.get? c=U o->h'.get? c=U o)->Q (U (.ref s.heap.objs.size)) {s with heap:=h',toks:=tk}):
  wpAny (model prog w) A (pyNext (.ref z)) Q E s:=by
 have hT:s.TypeIs (.ref z) "zip":=⟨_,hz,rfl⟩;unfold pyNext;exact Rc (Sv (Rv (name:=Str.ofString "__next__") hT Su
  (Q9 Su hT F.entry_zip_next
   (afl D D1 D2 hz hTI hTO h1 h2 hx hy λx y h' tk a0 b0 a1 a2 a3 a4 a5 a7=>dD (hQ x y h' tk a0 b0 a1 a2 a3 a4 a5 a7)) (F.args_zip_next_1 _))))
theorem ajv{TI TO:S}{P1 P2:Nat->L->Prop}{S1 S2:Nat->π->Prop}{Q:Option L->Ψ->Prop}(D:ZA z TI TO i1 i2 f1 f2)(D1:Qg prog w A.in1 i1 f1 n1 P1 S1)(D2:Qg prog w A.in1 i2 f2 n2 P2 S2)(hz:QA s.heap z TI TO .none)(hTI:PZ s.heap TI (.ref i1) (.ref i2))(hTO:PZ s.heap TO a b)(h1:S1 k s.heap)(h2:S2 k s.heap)(hend:k=n1\/(k<n1/\k=n2))(hQ:∀h' tk,(∀c o,c≠z->c≠TO->c≠i1->c≠i2->s.heap.get? c=U o->h'.get? c=U o)->Q O {s with heap:=h',toks:=tk}):wpAny (model prog w) A (pyNext (.ref z)) Q E s:=by
 have hT:s.TypeIs (.ref z) "zip":=⟨_,hz,rfl⟩;unfold pyNext;refine Rc (Sv (Rv (name:=Str.ofString "__next__") hT Su
  (Q9 Su hT F.entry_zip_next (afk D D1 D2 hz hTI hTO h1 h2 hend λh' tk e hk he=>?_) (F.args_zip_next_1 _))))
 obtain⟨o,ho,hc⟩:=he;refine Rc (Qc (T:="StopIteration") (b:=J) ⟨o,ho,hc⟩ isSubtype_stop ?_);exact dD (hQ _ _ hk)
abbrev wU(h:π)(l1:S):π:=h.push {cls:=.type "tuple_iterator",data:=.fields #[.ref l1,.int 0 0]}
abbrev wR(h:π)(l1 l2:S):π:=(wU h l1).push {cls:=.type "tuple_iterator",data:=.fields #[.ref l2,.int 0 0]}
abbrev wQ(h:π)(l1 l2:S):π:=(wR h l1 l2).push {cls:=.type "tuple",data:=.seq #[.ref h.objs.size,.ref (wU h l1).objs.size]}
abbrev wO(h:π)(l1 l2:S):π:=(wQ h l1 l2).push {cls:=.type "tuple",data:=.seq #[.none,.none]}
abbrev qB(h:π)(l1 l2:S):π:=(wO h l1 l2).push {cls:=.type "zip",data:=.fields #[.none,.bool Δ,.bool Δ,.ref (wR h l1 l2).objs.size,.ref (wQ h l1 l2).objs.size]}
theorem adb{h:π}{xs:Array L}(x:h.IsTuple a xs)(o:Obj):(h.push o).IsTuple a xs:=let⟨q,e,r⟩:=x;⟨q,H8 _ e,r⟩
theorem Xb(l1 l2:S)(xs ys:Array L) :
  Meets (Builtin.«zip.__new__» ⟨[.type "zip",.ref l1,.ref l2],[]⟩) (λ_ R s=>s.heap.IsTuple l1 xs/\s.heap.IsTuple l2 ys /\
   R (.ok (.ret (.ref (wO s.heap l1 l2).objs.size))) {s with heap:=qB s.heap l1 l2}) :=
 .of_wp λprog w A R s h=>by
  obtain⟨hp,g,d,tk,os⟩:=s;obtain⟨hl1,hl2,h⟩:=h;have hsub:=sub_zip;have vm:Ut (Shared.heap ⟨hp,g,d,tk,os⟩) l1 xs:=hl1;have vj:Ut (Shared.heap ⟨hp.push {cls:=.type "tuple_iterator",data:=.fields #[.ref l1,.int 0 0]},g,d,tk,os⟩) l2 ys:=adb hl2 _
  wp_walk using RG vm,RG vj
  exact⟨_,rfl,h⟩
theorem ack{xs:Array L}{Q:L->Ψ->Prop}(hl1:s.heap.IsTuple l1 xs)(hl2:s.heap.IsTuple l2 ys)(h:∀h',QA h' (s.heap.objs.size+4) (s.heap.objs.size+2) (s.heap.objs.size+3) .none->PZ h' (s.heap.objs.size+2) (.ref s.heap.objs.size) (.ref (s.heap.objs.size+1)) ->
   PZ h' (s.heap.objs.size+3) .none .none->h'.IsTupleIter s.heap.objs.size l1 0->h'.IsTupleIter (s.heap.objs.size+1) l2 0 ->
   (∀c o,s.heap.get? c=U o->h'.get? c=U o)->Q (.ref (s.heap.objs.size+4)) {s with heap:=h'}):
  wpAny (model prog w) A (call (.type "zip") [.ref l1,.ref l2]) Q E s:=by
 refine callType_new F.called_zip ⋯ (F.typeCall_zip_2 _ _) (F.newCall_zip_2 _ _) (λobj=>F.args_object_init_3 obj _ _) F.entry_zip_new
  (Xb l1 l2 xs ys) ⟨hl1,hl2,?_⟩
 have z1:(wU s.heap l1).objs.size=s.heap.objs.size+1:=P9 ..;have z2:(wR s.heap l1 l2).objs.size=s.heap.objs.size+2:=by rw[P9,z1]
 have z3:(wQ s.heap l1 l2).objs.size=s.heap.objs.size+3:=by rw[P9,z2]
 have z4:(wO s.heap l1 l2).objs.size=s.heap.objs.size+4:=by rw[P9,z3]
 have g5:(qB s.heap l1 l2).get? (wO s.heap l1 l2).objs.size=U _:=O5 _ rfl;have g4:(qB s.heap l1 l2).get? (wQ s.heap l1 l2).objs.size=U _:=H8 _ (O5 _ rfl);have g3:(qB s.heap l1 l2).get? (wR s.heap l1 l2).objs.size=U _:=H8 _ (H8 _ (O5 _ rfl));have g2:(qB s.heap l1 l2).get? (wU s.heap l1).objs.size=U _:=H8 _ (H8 _ (H8 _ (O5 _ rfl)));have g1:(qB s.heap l1 l2).get? s.heap.objs.size=U _:=H8 _ (H8 _ (H8 _ (H8 _ (O5 _ rfl))));show _/\_;rw[z2,z3,z4]at g5;rw[z1,z2]at g3;rw[z3]at g4;rw[z1]at g2;rw[z4];exact⟨⟨_,g5,rfl⟩,h _ g5 g3 g4 ⟨_,g1,rfl,rfl⟩ ⟨_,g2,rfl,rfl⟩ λc o x =>
  H8 _ (H8 _ (H8 _ (H8 _ (H8 _ x))))⟩
open AutoSeq1 (wpAny_loadPart')
theorem Xd(l:S)(items:Array L)(n:Nat)(dct:Option S)(sl:Array (Option L)) :
  Meets (Builtin.«enumerate.__new__» ⟨[.type "enumerate",.ref l],[]⟩) (λ_ R s=>s.heap.get? l=U {cls:=.type "tuple",dict:=dct,data:=.seq items n,slots:=sl} /\
   R (.ok (.ret (.ref (s.heap.push {cls:=.type "tuple_iterator",data:=.fields #[.ref l,.int 0 0]}).objs.size)))
    {s with heap:=(s.heap.push {cls:=.type "tuple_iterator",data:=.fields #[.ref l,.int 0 0]}).push {cls:=.type "enumerate",data:=.fields #[.none,.bool Δ,.ref s.heap.objs.size,rawInt 0,.none,.none]} }) :=
 .of_wp λprog w A R s h=>by
  obtain⟨hp,g,d,tk,os⟩:=s;obtain⟨hl,h⟩:=h;have hsub:=sub_enumerate;have hL:Ut (Shared.heap ⟨hp,g,d,tk,os⟩) l items:=⟨_,hl,rfl,n,rfl⟩
  wp_walk using wpAny_loadPart' hl
  refine wpAny_stack_any λst=>dD ?_
  split
  ·rename_i c _ _ _ _ _;cases(c==Value.type "enumerate")
   ·wp_walk using wpAny_loadPart' hl,RG hL
    exact⟨_,rfl,h⟩
   ·wp_walk using wpAny_loadPart' hl,RG hL
    exact⟨_,rfl,h⟩
  ·wp_walk using wpAny_loadPart' hl,RG hL
   exact⟨_,rfl,h⟩
theorem acv{items:Array L}{Q:L->Ψ->Prop}(hL:s.heap.IsTuple l items)(h:∀h',IsEnum h' (s.heap.objs.size+1) s.heap.objs.size 0 .none->h'.IsTupleIter s.heap.objs.size l 0->h'.objs.size=s.heap.objs.size+2 ->
   (∀b o,s.heap.get? b=U o->h'.get? b=U o)->Q (.ref (s.heap.objs.size+1)) {s with heap:=h'}):
  wpAny (model prog w) A (call (.type "enumerate") [.ref l]) Q E s:=by
 obtain⟨⟨c,dct,dt,sl⟩,hl,hc,n,hd⟩:=hL
 replace hc:c=.type "tuple":=hc
 subst hc hd;refine callType_new F.called_enumerate ⋯ (F.typeCall_enumerate_1 _) (F.newCall_enumerate_1 _) (λobj=>F.args_object_init_2 obj _) F.entry_enumerate_new
  (Xd l items n dct sl) ⟨hl,?_⟩
 have hz:(s.heap.push {cls:=.type "tuple_iterator",data:=.fields #[.ref l,.int 0 0]}).objs.size=s.heap.objs.size+1:=P9 ..;rw[hz];have he:IsEnum ((s.heap.push {cls:=.type "tuple_iterator",data:=.fields #[.ref l,.int 0 0]}).push
   {cls:=.type "enumerate",data:=.fields #[.none,.bool Δ,.ref s.heap.objs.size,rawInt 0,.none,.none]}) (s.heap.objs.size+1) s.heap.objs.size 0 .none:=by
  have:=O5 (s.heap.push {cls:=.type "tuple_iterator",data:=.fields #[.ref l,.int 0 0]})
   (o:={cls:=.type "enumerate",data:=.fields #[.none,.bool Δ,.ref s.heap.objs.size,rawInt 0,.none,.none]}) rfl
  rw[hz]at this;exact this
 refine⟨⟨_,he,rfl⟩,h _ he ⟨_,H8 _ (O5 _ rfl),rfl,rfl⟩ (by rw[P9,hz]) λb o x=>H8 _ (H8 _ x)⟩
end
end PySem
namespace L2
open PySem PySem.Spec PyProof.Rows
section
variable {X:Cx}{pins:List (S×Obj)}{Z:St}{H:Hp}{s:Ψ}{K:Ξ}
theorem aaD{xs:List V}(I:Inv X pins Z H s)(f:ia X pins H b)(q:bO X.K H a xs):a≠b:=by
 rintro rfl
 rcases q with(q|⟨o,q⟩)|⟨o,its,n,q,_⟩
 ·rw[f.1]at q;cases q
 ·rw[f.1]at q;cases q
 ·have e:=I.ok.mod.mR a o q
  rcases f.2.2.2.1 with z|z
  ·exact I.ok.mD _ _ e z
  ·exact absurd (O4 (Iv e) (PJ I.ok.jb z)) (Pz _)
theorem aaE{xs:List V}(I:Inv X pins Z H s)(f:ia X pins H b)(q:bf X.K H a xs):a≠b:=by
 rintro rfl
 rcases q with(q|⟨o,q⟩)|⟨o,its,n,q,_⟩
 ·rw[f.1]at q;cases q
 ·rw[f.1]at q;cases q
 ·have e:=I.ok.mod.mR a o q
  rcases f.2.2.2.1 with z|z
  ·exact I.ok.mD _ _ e z
  ·exact absurd (O4 (Iv e) (PJ I.ok.jb z)) (Pz _)
theorem Inv.G0{h':π}{ch:List S}{T:S}{vs:List V}{us:List L}(I:Inv X pins Z H s)(hf:∀b∈ch,ia X pins H b)(k:∀b o,b∉ch->s.heap.get? b=U o->h'.get? b=U o)(hT:s.heap.objs.size<=T)(th:∀b∈ch,∃o,h'.get? b=U o)(rv:Vals vs us)(hz:vs.length<=Ω)(tup:nt h' T us.toArray):Inv X pins Z (upd H T (.tup vs)) {s with heap:=h',toks:=t'}:=by
 have hn:H T=O:=I.hok.fresh hT;have kh:∀b u,H b=U u->b∉ch:=λb u e z=>by rw[(hf b z).1]at e;cases e
 refine I.step (g':=s.gens) (d':=s.drawn) (ch:=ch) (λb hb=>?_) (λb o _ _ hc e _=>k b o hc e) (λb o _ _ hc e _=>⟨o.slots,k b o hc e⟩) (λb o _ e n=>?_)
  (λb o hc e=>⟨o,k b o hc e⟩) (λb xs e=>by rw[bz (dH e hn)];exact e) (λb o u e=>by rw[bz (dH e hn)];exact e) (λb ps e=>⟨#[],by rw[bz (dH e hn),e];simp⟩) (λm hm=>?_) (λb u e=>?_) I.bare
 ·obtain⟨f0,f1,f2,f3,f4,f5⟩:=hf b hb;exact⟨f3,f1,f4,f5⟩
 ·rw[bz (O0 (O4 (Iv e) hT))];exact n
 ·obtain⟨o,es,ep,ho,r⟩:=hm;exact⟨o,es,ep,k _ o (λz=>(hf _ z).2.1 rfl) ho,r⟩
 ·by_cases hb:b=T
  ·subst hb;rw[eT]at e;cases e;exact⟨hz,us,rv,tup⟩
  ·rw[bz hb]at e;refine(I.hok b u e).stay (λc v hc q=>k c v ?_ q) (λc q=>by rw[bz (dH q hn)];exact q) λc xs q=>by rw[bz (dH q hn)];exact q
   rcases hc with z|z
   ·rw[z];exact kh b u e
   ·exact kh c _ z
theorem Inv.G1{h':π}{ch:List S}(I:Inv X pins Z H s)(hf:∀b∈ch,ia X pins H b)(k:∀b o,b∉ch->s.heap.get? b=U o->h'.get? b=U o):Inv X pins Z H {s with heap:=h',toks:=t'}:=by
 have kh:∀b u,H b=U u->b∉ch:=λb u e z=>by rw[(hf b z).1]at e;cases e
 refine I.step (ch:=ch) (λb hb=>?_) (λb o _ _ hc e _=>k b o hc e) (λb o _ _ hc e _=>⟨o.slots,k b o hc e⟩) (λb o _ e n=>n)
  (λb o hc e=>⟨o,k b o hc e⟩) (λb xs e=>e) (λb o u e=>e) (λb ps e=>⟨#[],by rw[e];simp⟩) (λm hm=>?_) (λb u e=>?_) I.bare
 ·obtain⟨f0,f1,f2,f3,f4,f5⟩:=hf b hb;exact⟨f3,f1,f4,f5⟩
 ·obtain⟨o,es,ep,ho,r⟩:=hm;exact⟨o,es,ep,k _ o (λz=>(hf _ z).2.1 rfl) ho,r⟩
 ·refine(I.hok b u e).stay (λc v hc q=>k c v ?_ q) (λc q=>q) λc xs q=>q
  rcases hc with z|z
  ·rw[z];exact kh b u e
  ·exact kh c _ z
end
structure AR (P:ν) (w:τ) (K:Ξ) (Sq:Hp->S->List V->Prop) (kW:π->S->S->Nat->Prop) (sS:π->S->Array L->Prop):Prop where
 get:∀{X:Cx}{pins:List (S×Obj)}{Z:St}{H:Hp}{s:Ψ}{a:S}{xs:List V},X.K=K->Inv X pins Z H s->Sq H a xs->∃its:List L,Vals xs its/\sS s.heap a its.toArray/\xs.length<=Ω
 inj:∀{X:Cx}{pins:List (S×Obj)}{Z:St}{H:Hp}{s:Ψ}{a:S}{xs ys:List V},X.K=K->Inv X pins Z H s->Sq H a xs->Sq H a ys->xs=ys
 ne:∀{X:Cx}{pins:List (S×Obj)}{Z:St}{H:Hp}{s:Ψ}{a b:S}{xs:List V},X.K=K->Inv X pins Z H s->ia X pins H b->Sq H a xs->a≠b
 mY:∀(A:χ) (it l:S) (items:Array L),A.handled=O->l≠it->Qg P w A it [it,l] items.size (λi v=>items[i]? = U v) (λi h=>kW h it l i/\sS h l items)
 obj:∀{h:π}{it l:S}{i:Nat},kW h it l i->∃o,h.get? it=U o/\∀v,o.data≠.cell v
 at':∀{h h':π}{it l:S}{i:Nat},kW h it l i->(∀o,h.get? it=U o->h'.get? it=U o)->kW h' it l i
theorem HZ{w:τ}{K:Ξ}:AR P w K (bO K) (λh it l i=>h.IsTupleIter it l i) (λh a xs=>h.IsTuple a xs) where
 get:=λe I q=>by subst e;obtain⟨its,r,p,z⟩:=I.tuple q;exact⟨its,r,p,z⟩
 inj:=λe I q q'=>by subst e;exact I.G5 q q'
 ne:=λe I f q=>by subst e;exact aaD I f q
 mY:=λA it l items hh hne=>Draws.tuple hh it l hne items
 obj:=λst=>by obtain⟨o,e,c,d⟩:=st;exact⟨o,e,λv z=>by rw[d]at z;cases z⟩
 at':=λst k=>st.at k
theorem Ia{w:τ}{K:Ξ}:AR P w K (bf K) (λh it l i=>h.IsListIter it l i) (λh a xs=>h.IsList a xs) where
 get:=λe I q=>by subst e;obtain⟨its,r,p,z⟩:=I.list q;exact⟨its,r,p.isList,z⟩
 inj:=λe I q q'=>by subst e;exact I.Lh q q'
 ne:=λe I f q=>by subst e;exact aaE I f q
 mY:=λA it l items hh hne=>Draws.list hh it l hne items
 obj:=λst=>by obtain⟨o,e,c,d⟩:=st;exact⟨o,e,λv z=>by rw[d]at z;cases z⟩
 at':=λst k=>st.at k
def AV(Sq:Hp->S->List V->Prop)(a1 a2:S):It :=
  ⟨λi H=>∃xs ys x y,Sq H a1 xs/\Sq H a2 ys/\xs[i]? = U x/\ys[i]? = U y,
   λi H v H'=>∃t x y,v=.ref t/\H t=O/\H'=upd H t (.tup [x,y])/\∀xs ys,Sq H a1 xs->Sq H a2 ys->xs[i]? = U x/\ys[i]? = U y,
   λi H=>∃xs ys,Sq H a1 xs/\Sq H a2 ys/\(i=xs.length\/(i<xs.length/\i=ys.length))⟩
def qy(Sq:Hp->S->List V->Prop)(a:S):It :=
  ⟨λi H=>∃xs x,Sq H a xs/\xs[i]? = U x,
   λi H v H'=>∃t x,v=.ref t/\H t=O/\H'=upd H t (.tup [.int i,x])/\∀xs,Sq H a xs->xs[i]? = U x,
   λi H=>∃xs,Sq H a xs/\i=xs.length⟩
theorem qJ{xs:List V}{i:Nat}(r:Vals xs us)(h:us.toArray[i]? = U u):∃x,xs[i]? = U x/\RelV x u:=by
 have h':us[i]? = U u:=by simpa using h
 have hi:i<xs.length:=by rw[r.length];exact(OX.mp h').1
 obtain⟨u',e,q⟩:=r.get (O1 hi);rw[h']at e;cases e;exact⟨xs[i],O1 hi,q⟩
theorem G2{w:τ}{K:Ξ}{Sq:Hp->S->List V->Prop}{kW:π->S->S->Nat->Prop}{sS:π->S->Array L->Prop}(Θ:AR P w K Sq kW sS){k:Nat}{pt:Pos}(a1 a2 z TI TO i1 i2:S)(n1:TI≠z)(n2:TO≠z)(n3:TI≠TO)(n4:TI≠i1)(n5:TI≠i2)(n6:TO≠i1)(n7:TO≠i2)(n8:i1≠z)(n9:i2≠z)(rC:i1≠i2):
  Turn P w K (.Tuple es k pt) (AV Sq a1 a2) [z,TI,TO,i1,i2] z (λi h=>QA h z TI TO .none/\PZ h TI (.ref i1) (.ref i2)/\(∃a b,PZ h TO a b)/\kW h i1 a1 i/\kW h i2 a2 i) where
 mem:=by simp
 obj:=λi h st b hb=>by
  obtain⟨hz,hTI,⟨a,b',hTO⟩,h1,h2⟩:=st;simp only[Bt,O7,or_false]at hb
  rcases hb with rfl|rfl|rfl|rfl|rfl
  ·exact⟨_,hz,λv q=>nomatch q⟩
  ·exact⟨_,hTI,λv q=>nomatch q⟩
  ·exact⟨_,hTO,λv q=>nomatch q⟩
  ·exact Θ.obj h1
  ·exact Θ.obj h2
 keep:=λi h h' st kp=>by
  obtain⟨hz,hTI,⟨a,b,hTO⟩,h1,h2⟩:=st;exact⟨kp _ (by simp) _ hz,kp _ (by simp) _ hTI,⟨a,b,kp _ (by simp) _ hTO⟩,Θ.at' h1 λo e=>kp _ (by simp) o e,Θ.at' h2 λo e=>kp _ (by simp) o e⟩
 item:=by
  intro X hP hw hK hc i pins s Z H E I hf st hg;subst hP hw;obtain⟨xs,ys,x,y,q1,q2,hx,hy⟩:=hg;obtain⟨hz,hTI,⟨a,b,hTO⟩,h1,h2⟩:=st;obtain⟨us,r1,p1,l1⟩:=Θ.get hK I q1;obtain⟨vs,r2,p2,l2⟩:=Θ.get hK I q2;have ne1:∀{b:S},b∈[z,TI,TO,i1,i2]->a1≠b:=λhb=>Θ.ne hK I (hf _ hb) q1
  have ne2:∀{b:S},b∈[z,TI,TO,i1,i2]->a2≠b:=λhb=>Θ.ne hK I (hf _ hb) q2
  have hx':i<us.toArray.size:=by have:=(OX.mp hx).1;have:=r1.length;simp;omega
  have hy':i<vs.toArray.size:=by have:=(OX.mp hy).1;have:=r2.length;simp;omega
  have D:ZA z TI TO i1 i2 [i1,a1] [i2,a2]:=⟨n1,n2,n3,n4,n5,by simp,by simp,by simp only[Bt,O7,or_false,not_or];exact⟨n8.symm,(ne1 (by simp)).symm⟩,by simp only[Bt,O7,or_false,not_or];exact⟨n9.symm,(ne2 (by simp)).symm⟩,
   by simp only[Bt,O7,or_false,not_or];exact⟨n6,(ne1 (by simp)).symm⟩,by simp only[Bt,O7,or_false,not_or];exact⟨n7,(ne2 (by simp)).symm⟩,
   by simp only[Bt,O7,or_false,not_or];exact⟨rC,(ne2 (by simp)).symm⟩,by simp only[Bt,O7,or_false,not_or];exact⟨rC.symm,(ne1 (by simp)).symm⟩⟩
  refine ajw D (Θ.mY X.A.in1 i1 a1 us.toArray (I.ok.hd hc) (ne1 (by simp))) (Θ.mY X.A.in1 i2 a2 vs.toArray (I.ok.hd hc) (ne2 (by simp))) hz hTI hTO ⟨h1,p1⟩ ⟨h2,p2⟩ hx' hy' λu v h' tk pu pv hz' MF s1 s2 hT kp=>?_
  refine⟨_,rfl,?_⟩;refine wpAny_letOwnedTupleGo_zip (s:={s with heap:=h',toks:=tk}) hz' λh'' L8 mV=>?_
  obtain⟨x',ex,rx⟩:=qJ r1 pu;obtain⟨y',ey,ry⟩:=qJ r2 pv;have lt:∀{c:S}{o:Obj},s.heap.get? c=U o->c≠s.heap.objs.size:=λe=>O0 (Iv e)
  have oi:∀c o,c∉[z,TO,i1,i2]->s.heap.get? c=U o->h''.get? c=U o:=λc o hcn e=>by
   simp only[Bt,O7,or_false,not_or]at hcn;exact mV.extBut _ _ hcn.1 (kp c o hcn.1 hcn.2.1 hcn.2.2.1 hcn.2.2.2 e)
  have I2:Inv X pins Z (upd H s.heap.objs.size (.tup [x',y'])) {s with heap:=h'',toks:=tk}:=by
   refine I.G0 (ch:=[z,TO,i1,i2]) (us:=[u,v]) (λb hb=>hf b ?_) oi (AP _) (λb hb=>?_) (.cons rx (.cons ry .nil)) (by show 2<=Ω;decide) (⟨_,mV.extBut _ _ (lt hz).symm hT,rfl,⟨_,rfl⟩,rfl⟩)
   ·simp only[Bt,O7,or_false]at hb ⊢
    rcases hb with rfl|rfl|rfl|rfl<;>simp
   ·simp only[Bt,O7,or_false]at hb
    rcases hb with rfl|rfl|rfl|rfl
    ·exact⟨_,L8⟩
    ·exact⟨_,mV.extBut _ _ n2 MF⟩
    ·obtain⟨o,e,_⟩:=Θ.obj s1.1;exact⟨_,mV.extBut _ _ n8 e⟩
    ·obtain⟨o,e,_⟩:=Θ.obj s2.1;exact⟨_,mV.extBut _ _ n9 e⟩
  refine⟨.ref s.heap.objs.size,_,I2,rfl,⟨_,x',y',rfl,I.hok.fresh (AP _),rfl,λxs' ys' w1 w2=>?_⟩,⟨L8,?_,⟨_,_,mV.extBut _ _ n2 MF⟩,Θ.at' s1.1 λo e=>mV.extBut _ _ n8 e,Θ.at' s2.1 λo e=>mV.extBut _ _ n9 e⟩,λb hb=>?_⟩
  ·rw[Θ.inj hK I w1 q1,Θ.inj hK I w2 q2];exact⟨ex,ey⟩
  ·exact mV.extBut _ _ n1 (kp _ _ n1 n3 n4 n5 hTI)
  ·have hb':b≠s.heap.objs.size:=by
    simp only[Bt,O7,or_false]at hb
    rcases hb with rfl|rfl|rfl|rfl|rfl
    ·exact lt hz
    ·exact lt hTI
    ·exact lt hTO
    ·obtain⟨o,e,_⟩:=Θ.obj h1;exact lt e
    ·obtain⟨o,e,_⟩:=Θ.obj h2;exact lt e
   rw[bz hb'];exact(hf b hb).1
 done:=by
  intro X hP hw hK hc i pins s Z H E I hf st hg;subst hP hw;obtain⟨xs,ys,q1,q2,hend⟩:=hg;obtain⟨hz,hTI,⟨a,b,hTO⟩,h1,h2⟩:=st;obtain⟨us,r1,p1,l1⟩:=Θ.get hK I q1;obtain⟨vs,r2,p2,l2⟩:=Θ.get hK I q2;have ne1:∀{b:S},b∈[z,TI,TO,i1,i2]->a1≠b:=λhb=>Θ.ne hK I (hf _ hb) q1
  have ne2:∀{b:S},b∈[z,TI,TO,i1,i2]->a2≠b:=λhb=>Θ.ne hK I (hf _ hb) q2
  have D:ZA z TI TO i1 i2 [i1,a1] [i2,a2]:=⟨n1,n2,n3,n4,n5,by simp,by simp,by simp only[Bt,O7,or_false,not_or];exact⟨n8.symm,(ne1 (by simp)).symm⟩,by simp only[Bt,O7,or_false,not_or];exact⟨n9.symm,(ne2 (by simp)).symm⟩,
   by simp only[Bt,O7,or_false,not_or];exact⟨n6,(ne1 (by simp)).symm⟩,by simp only[Bt,O7,or_false,not_or];exact⟨n7,(ne2 (by simp)).symm⟩,
   by simp only[Bt,O7,or_false,not_or];exact⟨rC,(ne2 (by simp)).symm⟩,by simp only[Bt,O7,or_false,not_or];exact⟨rC.symm,(ne1 (by simp)).symm⟩⟩
  have e1:=r1.length;have e2:=r2.length;refine ajv D (Θ.mY X.A.in1 i1 a1 us.toArray (I.ok.hd hc) (ne1 (by simp))) (Θ.mY X.A.in1 i2 a2 vs.toArray (I.ok.hd hc) (ne2 (by simp))) hz hTI hTO (k:=i) ⟨h1,p1⟩ ⟨h2,p2⟩ (by simp only[O3];omega) λh' tk kp=>?_
  refine⟨rfl,I.G1 (ch:=[z,TO,i1,i2]) (λb hb=>hf b ?_) λc o hcn e=>?_⟩
  ·simp only[Bt,O7,or_false]at hb ⊢
   rcases hb with rfl|rfl|rfl|rfl<;>simp
  ·simp only[Bt,O7,or_false,not_or]at hcn;exact kp c o hcn.1 hcn.2.1 hcn.2.2.1 hcn.2.2.2 e
 self:=λA i s Q E st h=>UQ st.1 h
theorem G3{w:τ}{K:Ξ}{Sq:Hp->S->List V->Prop}{kW:π->S->S->Nat->Prop}{sS:π->S->Array L->Prop}(Θ:AR P w K Sq kW sS){k:Nat}{pt:Pos}(a e it:S)(n1:e≠it):
  Turn P w K (.Tuple es k pt) (qy Sq a) [e,it] e (λi h=>(∃old,IsEnum h e it i old)/\kW h it a i) where
 mem:=by simp
 obj:=λi h st b hb=>by
  obtain⟨⟨old,hz⟩,h1⟩:=st;simp only[Bt,O7,or_false]at hb
  rcases hb with rfl|rfl
  ·exact⟨_,hz,λv q=>nomatch q⟩
  ·exact Θ.obj h1
 keep:=λi h h' st kp=>by
  obtain⟨⟨old,hz⟩,h1⟩:=st;exact⟨⟨old,kp _ (by simp) _ hz⟩,Θ.at' h1 λo e=>kp _ (by simp) o e⟩
 item:=by
  intro X hP hw hK hc i pins s Z H E I hf st hg;subst hP hw;obtain⟨xs,x,q1,hx⟩:=hg;obtain⟨⟨old,hz⟩,h1⟩:=st;obtain⟨us,r1,p1,l1⟩:=Θ.get hK I q1;have ne1:∀{b:S},b∈[e,it]->a≠b:=λhb=>Θ.ne hK I (hf _ hb) q1
  have hx':i<us.toArray.size:=by have:=(OX.mp hx).1;have:=r1.length;simp;omega
  have W:=WalksT.enumerateD (A:=X.A) (Θ.mY X.A.in1 it a us.toArray (I.ok.hd hc) (ne1 (by simp))) e n1 (by simp only[Bt,O7,or_false,not_or];exact⟨n1,(ne1 (by simp)).symm⟩) (by simp)
  refine wpAny_pyNext_enum_itemD (Θ.mY X.A.in1 it a us.toArray (I.ok.hd hc) (ne1 (by simp))) hz ⟨h1,p1⟩ hx' n1 (by simp only[Bt,O7,or_false,not_or];exact⟨n1,(ne1 (by simp)).symm⟩) λu0 h' tk0 ajp Zs hs0 Z1 hsz0 hk0=>?_
  have hilt:it<s.heap.objs.size:=by obtain⟨o,e3,_⟩:=Θ.obj h1;exact Iv e3
  have hT:s.heap.objs.size<=s.heap.objs.size:=AP _;have mid:(∃x,IsEnumOut h' e it ((i:Int)+1) x s.heap.objs.size)/\_/\s.heap.objs.size≠e/\s.heap.objs.size≠it:=⟨⟨_,Zs⟩,hs0,Pp (Iv hz),Pp hilt⟩;have kp:∀b o,b∉[e,it]->s.heap.get? b=U o->h'.get? b=U o:=λb o hb y=>hk0 b o (λe'=>hb (by simp[e'])) (λe'=>hb (by simp[e'])) y
  refine⟨_,rfl,?_⟩;refine W.go es k pt i s.heap.objs.size {s with heap:=h',toks:=tk0+1} _ _ mid λh'' st'' Ly=>?_
  obtain⟨x',ex,rx⟩:=qJ r1 ajp;have lt:∀{c:S}{o:Obj},s.heap.get? c=U o->c≠s.heap.objs.size:=λq=>O0 (Iv q)
  have hT2:nt h'' s.heap.objs.size [.int i tk0,u0].toArray:=⟨_,Ly _ _ (W.apart _ _ _ mid) Z1,rfl,⟨_,rfl⟩,rfl⟩;have I2:Inv X pins Z (upd H s.heap.objs.size (.tup [.int i,x'])) {s with heap:=h'',toks:=tk0+1}:=by
   refine I.G0 (ch:=[e,it]) (us:=[.int i tk0,u0]) hf (λc o hcn e1=>Ly _ _ hcn (kp c o hcn e1)) hT (λb hb=>?_) (.cons ⟨tk0,rfl⟩ (.cons rx .nil)) (by show 2<=Ω;decide) hT2
   simp only[Bt,O7,or_false]at hb
   rcases hb with rfl|rfl
   ·obtain⟨⟨o2,e2⟩,_⟩:=st'';exact⟨_,e2⟩
   ·obtain⟨_,e2,_⟩:=st'';obtain⟨o,e3,_⟩:=Θ.obj e2;exact⟨o,e3⟩
  refine⟨.ref s.heap.objs.size,_,I2,rfl,⟨_,x',rfl,I.hok.fresh hT,rfl,λxs' w1=>?_⟩,⟨?_,st''.2.1⟩,λb hb=>?_⟩
  ·rw[Θ.inj hK I w1 q1];exact ex
  ·obtain⟨⟨o2,e2⟩,_⟩:=st'';exact⟨o2,by simpa using e2⟩
  ·have hb':b≠s.heap.objs.size:=by
    simp only[Bt,O7,or_false]at hb
    rcases hb with rfl|rfl
    ·exact lt hz
    ·obtain⟨o,e3,_⟩:=Θ.obj h1;exact lt e3
   rw[bz hb'];exact(hf b hb).1
 done:=by
  intro X hP hw hK hc i pins s Z H E I hf st hg;subst hP hw;obtain⟨xs,q1,hend⟩:=hg;obtain⟨⟨old,hz⟩,h1⟩:=st;obtain⟨us,r1,p1,l1⟩:=Θ.get hK I q1;have ne1:∀{b:S},b∈[e,it]->a≠b:=λhb=>Θ.ne hK I (hf _ hb) q1
  have W:=WalksT.enumerateD (A:=X.A) (Θ.mY X.A.in1 it a us.toArray (I.ok.hd hc) (ne1 (by simp))) e n1 (by simp only[Bt,O7,or_false,not_or];exact⟨n1,(ne1 (by simp)).symm⟩) (by simp)
  have ei:i=us.toArray.size:=by rw[O3,<-r1.length];exact hend
  subst ei;refine W.done s _ _ ⟨⟨old,hz⟩,h1,p1⟩ λh' tk kp=>⟨rfl,I.G1 (ch:=[e,it]) hf kp⟩
 self:=λA i s Q E st h=>by
  obtain⟨⟨old,hz⟩,h1⟩:=st;exact UP hz h
section
variable {X:Cx}{es':List μ}{kt:Nat}{pt:Pos}
def LY(Sq:Hp->S->List V->Prop)(ta:TA):TI:=λZ H R=>ta Z H λvs H1=>∃a b,vs=[.ref a,.ref b]/\(∃xs ys,Sq H1 a xs/\Sq H1 b ys)/\R (AV Sq a b) H1
def DA(Sq:Hp->S->List V->Prop)(ta:TA):TI:=λZ H R=>ta Z H λvs H1=>∃a,vs=[.ref a]/\(∃xs,Sq H1 a xs)/\R (qy Sq a) H1
theorem wN(I:Inv X pins Z H s)(hn:s.heap.objs.size=n):∀b∈[n+4,n+2,n+3,n,n+1],ia X pins H b:=λb hb=>by
 have:s.heap.objs.size<=b:=by
  simp only[Bt,O7,or_false]at hb
  rcases hb with rfl|rfl|rfl|rfl|rfl<;>rw[hn]
  ·exact TR _ _
  ·exact TR _ _
  ·exact TR _ _
  ·exact AP _
  ·exact TR _ _
 exact I.zl this (I.hok.fresh this)
theorem ah9{pos:Pos}(hg:Gl X "zip")(hm:X.mg "zip"=O)(ha:PA X [a,b] ta)(hs:ε [a,b] X.env=[(Δ,eval a X.env),(Δ,eval b X.env)]:=by rfl)(hs2:ε [b] X.env=[(Δ,eval b X.env)]:=by rfl):
  PI X (.Tuple es' kt pt) (.Call (.Name "zip" p) [a,b] [] pos) (LY (bO X.K) ta):=by
 intro pins s Z H R I h;refine Call_ (mQ I hg hm boot_zip (RE (bx (ha pos pins s Z H _ I h) λus s1 ⟨vs,H1,I1,r1,q1⟩=>?_) (by rw[hs,hs2]) (by rw[hs2];rfl)))
 obtain⟨a1,a2,e,⟨xs,ys,q1,q2⟩,q⟩:=q1;subst e;cases r1 with
 |cons r rr =>
  cases rr with
  |cons r' rr =>
   cases rr;cases r;cases r';obtain⟨us,ru,pu,lu⟩:=I1.tuple q1;obtain⟨vs,rv,pv,lv⟩:=I1.tuple q2;refine ack pu pv λh' hz hTI hTO t1 t2 kp=>UQ hz ?_
   generalize hn:s1.heap.objs.size=n at hz hTI hTO t1 t2
   have ne:∀{i j:Nat},i≠j->n+i≠n+j:=λh e=>h (TQ e)
   have mG:∀{i:Nat},i≠0->n+i≠n:=λh e=>h (TQ (e.trans (R9 n).symm))
   refine⟨n+4,_,_,_,H1,rfl,I1.kept (t':=s1.toks) kp,G2 HZ a1 a2 (n+4) (n+2) (n+3) n (n+1) (ne ⋯) (ne ⋯) (ne ⋯) (mG ⋯) (ne ⋯) (mG ⋯) (ne ⋯) (mG ⋯).symm (ne ⋯) (mG ⋯).symm,⟨hz,hTI,⟨_,_,hTO⟩,t1,t2⟩,wN I1 hn,q⟩
theorem ah8{pos:Pos}(hg:Gl X "zip")(hm:X.mg "zip"=O)(ha:PA X [a,b] ta)(hs:ε [a,b] X.env=[(Δ,eval a X.env),(Δ,eval b X.env)]:=by rfl)(hs2:ε [b] X.env=[(Δ,eval b X.env)]:=by rfl):
  PI X (.Tuple es' kt pt) (.Call (.Name "zip" p) [a,b] [] pos) (LY (bf X.K) ta):=by
 intro pins s Z H R I h;refine Call_ (mQ I hg hm boot_zip (RE (bx (ha pos pins s Z H _ I h) λus s1 ⟨vs,H1,I1,r1,q1⟩=>?_) (by rw[hs,hs2]) (by rw[hs2];rfl)))
 obtain⟨a1,a2,e,⟨xs,ys,q1,q2⟩,q⟩:=q1;subst e;cases r1 with
 |cons r rr =>
  cases rr with
  |cons r' rr =>
   cases rr;cases r;cases r';obtain⟨us,ru,pu,lu⟩:=I1.list q1;obtain⟨vs,rv,pv,lv⟩:=I1.list q2;refine call_zip_2 pu.isList pv.isList λh' hz hTI hTO t1 t2 _ kp=>UQ hz ?_
   generalize hn:s1.heap.objs.size=n at hz hTI hTO t1 t2
   have ne:∀{i j:Nat},i≠j->n+i≠n+j:=λh e=>h (TQ e)
   have mG:∀{i:Nat},i≠0->n+i≠n:=λh e=>h (TQ (e.trans (R9 n).symm))
   refine⟨n+4,_,_,_,H1,rfl,I1.kept (t':=s1.toks) kp,G2 Ia a1 a2 (n+4) (n+2) (n+3) n (n+1) (ne ⋯) (ne ⋯) (ne ⋯) (mG ⋯) (ne ⋯) (mG ⋯) (ne ⋯) (mG ⋯).symm (ne ⋯) (mG ⋯).symm,⟨hz,hTI,⟨_,_,hTO⟩,t1,t2⟩,wN I1 hn,q⟩
theorem ai8{pos:Pos}(hg:Gl X "enumerate")(hm:X.mg "enumerate"=O)(ha:PA X [a] ta)(hs:ε [a] X.env=[(Δ,eval a X.env)]:=by rfl):
  PI X (.Tuple es' kt pt) (.Call (.Name "enumerate" p) [a] [] pos) (DA (bO X.K) ta):=by
 intro pins s Z H R I h;refine Call_ (mQ I hg hm boot_enumerate (RE (bx (ha pos pins s Z H _ I h) λus s1 ⟨vs,H1,I1,r1,q1⟩=>?_) hs rfl))
 obtain⟨a1,e,⟨xs,q1⟩,q⟩:=q1;subst e;cases r1 with
 |cons r rr =>
  cases rr;cases r;obtain⟨us,ru,pu,lu⟩:=I1.tuple q1;refine acv pu λh' hz t1 _ kp=>UP hz ?_
  generalize hn:s1.heap.objs.size=n at hz t1
  refine⟨n+1,_,_,_,H1,rfl,I1.kept (t':=s1.toks) kp,G3 HZ a1 (n+1) n (Pp (QD _)),⟨⟨_,hz⟩,t1⟩,λb hb=>?_,q⟩
  refine wN I1 hn b ?_;simp only[Bt,O7,or_false]at hb
  rcases hb with rfl|rfl<;>simp
end
section
variable {X:Cx}
theorem G7{bs:List Bool}(r:Vals (bs.map V.bl) its):TruthOf X.prog X.w A (λi v=>its.toArray[i]? = U v) (λi=>bs.getD i Δ):=by
 intro i v s Q E hP hQ;obtain⟨x,ex,rx⟩:=qJ r hP;rw[PK]at ex;cases e:bs[i]? with
 |none=>rw[e]at ex;cases ex
 |some b =>
  rw[e]at ex;cases ex;cases rx;refine RJ ?_;have:bs.getD i Δ=b:=by rw[I8,e];rfl
  have hQ:Q (bs.getD i Δ) s:=hQ
  rwa[this]at hQ
theorem range_all(bs:List Bool):((θ bs.length).all λi=>bs.getD i Δ)=bs.all id:=by
 rw[QI,Ph,Ph]
 constructor
 ·intro h b hb;obtain⟨i,hi,e⟩:=Qy.mp hb;have:=h i (dg.mpr hi);rw[I8,O1 hi]at this;rw[<-e];exact this
 ·intro h i hi;have hi:=dg.mp hi;rw[I8,O1 hi];exact h _ (PX hi)
theorem range_any(bs:List Bool):((θ bs.length).any λi=>bs.getD i Δ)=bs.any id:=by
 rw[QI,Qx,Qx]
 constructor
 ·rintro ⟨i,hi,h⟩
  have hi:=dg.mp hi;rw[I8,O1 hi]at h;exact⟨_,PX hi,h⟩
 ·rintro ⟨b,hb,h⟩
  obtain⟨i,hi,e⟩:=Qy.mp hb;refine⟨i,dg.mpr hi,?_⟩;rw[I8,O1 hi,e];exact h
theorem AO{h':π}(I:Inv X pins Z H s)(kp:∀b q,b∉[s.heap.objs.size]->(s.heap.push o).get? b=U q->h'.get? b=U q):Inv X pins Z H {s with heap:=h',toks:=tk} :=
 I.kept λb q e=>kp b q (by simp;exact O0 (Iv e)) (H8 _ e)
theorem acy(hc:X.calm=J):dG X (.builtin "all") (λxs H Q=>∃(p:S) (bs:List Bool),xs=[.ref p]/\bf X.K H p (bs.map V.bl)/\Q (.bl (bs.all id)) H):=by
 intro pins s Z H xs us Q I r h;obtain⟨p,bs,rfl,hp,q⟩:=h;obtain⟨u,rfl,ru⟩:=Po r;cases ru;obtain⟨its,rv,pl,hz⟩:=I.list hp;have hL:=pl.isList;refine call_all_walk (RH hL ⟨s.heap.objs.size,_,_,its.toArray.size,_,_,λi=>bs.getD i Δ,rfl,Rq (A:=X.A.in1) (I.ok.hd hc) s.heap.objs.size p (by obtain⟨o,e,_⟩:=hL;exact O0 (Iv e)) its.toArray,⟨⟨_,O5 _ rfl,rfl,rfl⟩,hL.push _⟩,G7 rv,λh' tk kp=>?_⟩)
 have hl:=rv.length;rw[O2]at hl;have I1:Inv X pins Z H {s with heap:=h',toks:=tk}:=AO I kp
 refine⟨.bl (bs.all id),H,I1,?_,q⟩;show Value.bool _=Value.bool _;rw[O3,<-hl,range_all]
theorem acw(hc:X.calm=J):dG X (.builtin "any") (λxs H Q=>∃(p:S) (bs:List Bool),xs=[.ref p]/\bf X.K H p (bs.map V.bl)/\Q (.bl (bs.any id)) H):=by
 intro pins s Z H xs us Q I r h;obtain⟨p,bs,rfl,hp,q⟩:=h;obtain⟨u,rfl,ru⟩:=Po r;cases ru;obtain⟨its,rv,pl,hz⟩:=I.list hp;have hL:=pl.isList;have DH:p≠s.heap.objs.size:=by obtain⟨o,e,_⟩:=hL;exact O0 (Iv e)
 refine call_any_walk (RH hL ⟨s.heap.objs.size,_,_,its.toArray.size,_,_,λi=>bs.getD i Δ,rfl,Rq (A:=X.A.in1) (I.ok.hd hc) s.heap.objs.size p DH its.toArray,⟨⟨_,O5 _ rfl,rfl,rfl⟩,hL.push _⟩,G7 rv,λh' tk kp=>?_⟩)
 have hl:=rv.length;rw[O2]at hl;have I1:Inv X pins Z H {s with heap:=h',toks:=tk}:=AO I kp
 refine⟨.bl (bs.any id),H,I1,?_,q⟩;show Value.bool _=Value.bool _;rw[O3,<-hl,range_any]
def tyName(H:Hp):V->String->Prop
 |.aF,n=>n="NoneType"
 |.bl _,n=>n="bool"
 |.int _,n=>n="int"
 |.str _,n=>n="str"
 |.ref a,n=>(n="list"/\((∃xs,H a=U (.lst xs))\/∃o xs,H a=U (.cI o (.lst xs))))\/(n="tuple"/\∃xs,H a=U (.tup xs))\/(n="dict"/\((∃k,H a=U (.dK k))\/∃k,H a=U (.dT k)))
 |_,_=>False
theorem agr{K:Ξ}{H:Hp}{x:V}{n:String}(h:tyName H x n):ju K H x (.type n):=by
 cases x with
 |aF=>cases(show n="NoneType" from h);exact .aF
 |bl b=>cases(show n="bool" from h);exact .bl b
 |int b=>cases(show n="int" from h);exact .int b
 |str b=>cases(show n="str" from h);exact .str b
 |ref a =>
  rcases h with⟨rfl,⟨xs,e⟩|⟨o,xs,e⟩⟩|⟨rfl,xs,e⟩|⟨rfl,⟨k,e⟩|⟨k,e⟩⟩
  ·exact .lst e
  ·exact .cI e
  ·exact .tup e
  ·exact .dK e
  ·exact .dT e
 |_=>exact False.elim h
def tS(n T:String):Bool:=n==T||(n=="bool"&&T=="int")
def Yh(n T:String):Option Bool:=if(Value.type n==Value.type T)=J then U J else if PySem.W.kitMeta T=J then(fastBuiltinMro n).map (·.contains (Value.type T))else O
theorem LB{K:Ξ}{n T:String}(hn:n∈["NoneType","bool","int","str","list","tuple","dict"])(hT:T∈["bool","int","str","list","tuple","dict"]):PySem.W.kitOne K (.type n) (.type T)=U (tS n T):=by
 show Yh n T=U (tS n T);simp only[Bt,O7,or_false]at hn hT
 rcases hn with rfl|rfl|rfl|rfl|rfl|rfl|rfl<;>rcases hT with rfl|rfl|rfl|rfl|rfl|rfl<;>decide +kernel
theorem agq(h:tyName H x n):n∈["NoneType","bool","int","str","list","tuple","dict"]:=by
 cases x with
 |aF=>cases(show n="NoneType" from h);simp
 |bl b=>cases(show n="bool" from h);simp
 |int b=>cases(show n="int" from h);simp
 |str b=>cases(show n="str" from h);simp
 |ref a=>rcases h with⟨rfl,_⟩|⟨rfl,_⟩|⟨rfl,_⟩<;>simp
 |_=>exact False.elim h
theorem acu:dG X (.builtin "isinstance") (λxs H Q=>∃x n T,xs=[x,.ty T]/\tyName H x n/\T∈["bool","int","str","list","tuple","dict"]/\Q (.bl (tS n T)) H):=by
 intro pins s Z H xs us Q I r h;obtain⟨x,n,T,rfl,hx,hT,q⟩:=h;obtain⟨u,v,rfl,ru,rv⟩:=Vals.two r;cases(show v=Value.type T from rv)
 exact YN I ru (agr hx) (LB (agq hx) hT) λtk=>⟨.bl _,H,I.tok tk,rfl,q⟩
end
def abc(ea C:S):π->Prop:=λh=>∃o,h.get? ea=U o/\o.cls=.ref C
def abD(a:S):π->Prop:=PySem.W.KitAt a "dict"
structure Def (K:Ξ) (mg:Str->Option L) (x:Str) (st:x6) (ps:List Str) (f:S) (fd:PU):Prop where
 fn:l5 K x x st f fd
 at':mg x=U (.ref f)
 bd:Binds K fd ps []
section
variable {X:Cx}
theorem aky{st:x6}{pos:Pos}(D:Def X.K X.mg x st ps f fd)(G:d9 X.prog X.w X.K X.mg X.base c9 k f fd ps sp)(hr:cK k X.A)(ha:PA X (e::es) t)(hg:Gl X x:=by rfl)(hdb:(x==("__debug__":Str))=Δ:=by decide)(he:ε (e::es) X.env=(Δ,eval e X.env)::ε es X.env:=by rfl)(hpl:(OY pos (ε es X.env)).any (·.1)=Δ:=by rfl):
  PE X (.Call (.Name x p) (e::es) [] pos) (Hz sp [] E0 t):=aiZ G hr hg D.at' D.fn.kp D.bd .nil aiQ ha hdb he hpl
theorem ai5{pos:Pos}(hg:Gl X x)(hm:X.mg x=O)(hv:bootBuiltins x=U (.type n))(hn:x≠"__name__":=by decide)(hd:(x==("__debug__":Str))=Δ:=by decide):PE X (.Name x pos) (tC (.ty n)):=aiY hg hm hv rfl hn hd
end
abbrev Up(l:List Nat):Prop:=l.Pairwise (· < ·)
theorem getD_list(xs:Array Nat)(i d:Nat):xs.getD i d=xs.toList.getD i d:=by
 simp[UO,I8]
theorem tH(h:Up l)(hik:i<k)(hk:k<l.length):l.getD i 0<l.getD k 0:=by
 have:=Qw.mp h i k ∅ hk hik
 simpa[I8,O1 hk,O1 (show i<l.length by omega)]using this
def Parts(l:List Nat)(j p:Nat):Prop:=p<=l.length/\(∀i,i<p->l.getD i 0<j)/\∀i,p<=i->i<l.length->j<=l.getD i 0
theorem EV{xs:Array Nat}(h:Up xs.toList):∀fuel lo hi,lo<=hi->hi<=xs.toList.length->hi-lo<=fuel->(∀i,i<lo->xs.toList.getD i 0<j)->(∀i,hi<=i->i<xs.toList.length->j<=xs.toList.getD i 0) ->
  Parts xs.toList j (SetTable.below.go xs j fuel lo hi)
 |0,lo,hi,h1,h2,h3,h4,h5=>⟨by unfold SetTable.below.go;omega,λi hi'=>h4 i (by unfold SetTable.below.go at hi';exact hi'),λi hi'=>h5 i (by unfold SetTable.below.go at hi';omega)⟩
 |fuel+1,lo,hi,h1,h2,h3,h4,h5=>by
  unfold SetTable.below.go
  by_cases hl:lo<hi
  ·rw[if_pos hl];dsimp only;have hm:(lo+hi)/2<xs.toList.length:=∅
   have he:xs.getD ((lo+hi)/2) j=xs.toList.getD ((lo+hi)/2) 0:=by
    rw[getD_list];simp[I8,O1 hm]
   rw[he]
   by_cases hc:xs.toList.getD ((lo+hi)/2) 0<j
   ·rw[if_pos hc];refine EV h fuel _ _ ∅ h2 ∅ (λi hi'=>?_) h5
    by_cases hq:i=(lo+hi)/2
    ·rw[hq];exact hc
    ·exact Rp (tH h (show i<(lo+hi)/2 by omega) hm) hc
   ·rw[if_neg hc];refine EV h fuel _ _ ∅ ∅ ∅ h4 (λi hi' hl'=>?_)
    by_cases hq:i=(lo+hi)/2
    ·rw[hq];omega
    ·exact PJ ∅ (R4 (tH h (show(lo+hi)/2<i by omega) hl'))
  ·rw[if_neg hl];exact⟨∅,h4,λi hi'=>h5 i ∅⟩
theorem Ah{xs:Array Nat}(h:Up xs.toList)(j:Nat):Parts xs.toList j (SetTable.below xs j):=by
 exact EV h _ _ _ (Pd _) (by simp) (by simp) (λi hi=>absurd hi (UN _)) (λi h1 h2=>by simp at h2;omega)
theorem acM{xs:Array Nat}(h:Up xs.toList):SetTable.below xs 0=0:=by
 obtain⟨_,h2,_⟩:=Ah h 0
 rcases Ve _ with e|e
 ·exact e
 ·exact absurd (h2 0 e) (UN _)
theorem acN{xs:Array Nat}(h:Up xs.toList)(hi:i<xs.toList.length):SetTable.below xs (xs.toList.getD i 0+1)=i+1:=by
 obtain⟨h1,h2,h3⟩:=Ah h (xs.toList.getD i 0+1)
 rcases R8 (SetTable.below xs (xs.toList.getD i 0+1)) (i+1)with e|e|e
 ·have:=h3 i ∅ hi;omega
 ·exact e
 ·have a:=h2 _ e;have b:=tH h (show i<i+1 by omega) (show i+1<xs.toList.length by omega)
  omega
theorem EU{xs:Array Nat}(h:Up xs.toList)(hj:j∈xs.toList):xs[SetTable.below xs j]? = U j:=by
 obtain⟨i,hi,e⟩:=QF hj;obtain⟨h1,h2,h3⟩:=Ah h j;have e':xs.toList.getD i 0=j:=by rw[I8,O1 hi];exact e
 have hp:SetTable.below xs j=i:=by
  rcases R8 (SetTable.below xs j) i with q|q|q
  ·have a:=h3 _ (AP _) ∅
   have b:=tH h q hi;omega
  ·exact q
  ·have a:=h2 i q;omega
 rw[hp,<-Q6,O1 hi,e]
theorem GP{xs:Array Nat}(h:Up xs.toList)(hj:j∉xs.toList):Up (SetTable.insertAt xs (SetTable.below xs j) j).toList:=by
 rw[TN];obtain⟨h1,h2,h3⟩:=Ah h j
 generalize SetTable.below xs j=p at h1 h2 h3
 have ht:∀a∈xs.toList.take p,a<j:=by
  intro a ha;obtain⟨i,hi,e⟩:=QF ha;have hi':i<p/\i<xs.toList.length:=by simp at hi ⊢;omega
  have:=h2 i hi'.1;rw[TM]at e;rw[I8,O1 hi'.2]at this
  simpa[<-e]using this
 have hd:∀a∈xs.toList.drop p,j<a:=by
  intro a ha;have hm:a∈xs.toList:=UM ha;obtain⟨i,hi,e⟩:=QF ha;have hi':p+i<xs.toList.length:=by simp at hi ⊢;omega
  have:=h3 (p+i) ∅ hi'
  rw[List.getElem_drop]at e;rw[I8,O1 hi']at this;have hle:j<=a:=by simpa[<-e]using this
  exact Nat.lt_of_le_of_ne hle λq=>hj (q▸hm)
 refine List.pairwise_append.mpr ⟨h.sublist (Sz _ _),Q7.mpr ⟨hd,h.sublist (List.drop_sublist _ _)⟩,λa ha b hb=>?_⟩
 rcases Bt.mp hb with rfl|hb
 ·exact ht a ha
 ·exact Rp (ht a ha) (hd b hb)
theorem Cd:∀(n:Nat) (l:List Nat),(∀j,j<n->j∈l)->n<=l.length
 |0,_,_=>Pd _
 |n+1,l,h=>by
  have hn:=h n (QD _);have:=Cd n (l.erase n) λj hj=>(TL ∅).mpr (h j ∅)
  rw[TJ hn]at this;have:=UL hn;omega
def ja(mask:Nat):Nat->Nat->Nat->Nat->Nat->Nat->Bool
 |0,_,_,_,_,_=>Δ
 |n+1,j,more,i,q,acc =>
  if acc |||(1 <<< j)=2^(mask+1)-1 then J
  else if more>0 then ja mask n (j+1) (more-1) i q (acc |||(1 <<< j))
  else ja mask n ((i*5+1+q/32) % (mask+1)) (SetTable.runEnd mask ((i*5+1+q/32) % (mask+1))-(i*5+1+q/32) % (mask+1)) ((i*5+1+q/32) % (mask+1)) (q/32) (acc |||(1 <<< j))
def Ab(mask:Nat):Bool:=(θ 128).all λh=>ja mask (10*(mask+15)) (h % (mask+1)) (SetTable.runEnd mask (h % (mask+1))-h % (mask+1)) (h % (mask+1)) h 0
def m8(mask:Nat):Nat->Nat->Nat->Nat->Bool
 |0,_,_,_=>Δ
 |n+1,i,q,acc =>
  if acc |||((2^(SetTable.runEnd mask i+1-i)-1) <<< i)=2^(mask+1)-1 then J
  else m8 mask n ((i*5+1+q/32) % (mask+1)) (q/32) (acc |||((2^(SetTable.runEnd mask i+1-i)-1) <<< i))
def EF(mask:Nat):Bool:=(θ 128).all λh=>m8 mask (mask+15) (h % (mask+1)) h 0
theorem abY:Ab 7=J:=by decide +kernel
theorem abZ:Ab 31=J:=by decide +kernel
theorem ab0:Ab 127=J:=by decide +kernel
theorem abV:EF 31=J:=by decide +kernel
theorem abW:EF 127=J:=by decide +kernel
theorem vU(acc j k:Nat):(acc |||(1 <<< j)).testBit k=(acc.testBit k||decide (k=j)):=by
 rw[UK,Vd,Nat.testBit_two_pow]
 by_cases h:j=k
 ·subst h;simp
 ·simp[h,Q2 h]
theorem Aa{mask:Nat}:∀n j more i q acc,ja mask n j more i q acc=J->∀k,acc.testBit k=J->k<=mask
 |0,_,_,_,_,_,h,_,_=>by cases h
 |n+1,j,more,i,q,acc,h,k,hk=>by
  have hk':(acc |||(1 <<< j)).testBit k=J:=by rw[vU,hk];rfl
  unfold ja at h;split at h
  ·rename_i e;rw[e,Qu]at hk';have:=of_decide_eq_true hk';omega
  ·split at h
   ·exact Aa _ _ _ _ _ _ h k hk'
   ·exact Aa _ _ _ _ _ _ h k hk'
theorem BG{t:ψ}(hd:t.dummies=#[])(j:Nat):t.slot j=.empty\/∃i,t.slot j=.live i:=by
 unfold SetTable.slot;dsimp only;split
 ·exact .inr ⟨_,rfl⟩
 ·rw[hd];exact .inl rfl
theorem Eb{t:ψ}(hd:t.dummies=#[]):∀n (p:Ur) acc fuel,ja t.mask n p.j p.more p.i p.perturb acc=J->p.dummy=O->n<=fuel ->
  (∀k,acc.testBit k=J->t.slot k≠.empty)->(∃j,j<=t.mask/\t.slot j=.empty) ->
  ∃j,SetTable.probe.go t (λ_=>h+1) h fuel p=U (.empty j O)/\t.slot j=.empty/\j<=t.mask
 |0,_,_,_,h,_,_,_,_=>by simp[ja]at h
 |n+1,p,acc,0,_,_,h,_,_=>∅
 |n+1,p,acc,fuel+1,hc,hn,hf,ha,hj=>by
  have hle:p.j<=t.mask:=by
   have hk':(acc |||(1 <<< p.j)).testBit p.j=J:=by rw[vU];simp
   unfold ja at hc;split at hc
   ·rename_i e;rw[e,Qu]at hk';have:=of_decide_eq_true hk';omega
   ·split at hc
    ·exact Aa _ _ _ _ _ _ hc _ hk'
    ·exact Aa _ _ _ _ _ _ hc _ hk'
  unfold SetTable.probe.go
  rcases BG hd p.j with e|⟨i,e⟩
  ·rw[e];exact⟨p.j,by rw[hn],e,hle⟩
  ·rw[e];have hne:(h+1==h)=Δ:=by simp;omega
   rw[hne];have ha':∀k,(acc |||(1 <<< p.j)).testBit k=J->t.slot k≠.empty:=by
    intro k hk;rw[vU,R0,decide_eq_true_eq]at hk
    rcases hk with hk|rfl
    ·exact ha k hk
    ·rw[e];intro q;cases q
   unfold ja at hc;split at hc
   ·rename_i ef;obtain⟨j0,h0,e0⟩:=hj;exact absurd e0 (ha' j0 (by rw[ef,Qu];exact decide_eq_true ∅))
   ·split at hc
    ·rename_i hm;have DW:t.advance p={p with j:=p.j+1,more:=p.more-1}:=by unfold SetTable.advance;rw[if_pos hm]
     rw[DW];exact Eb hd n _ _ fuel hc hn ∅ ha' hj
    ·rename_i hm;have DW:t.advance p={p with j:=(p.i*5+1+p.perturb/32) % (t.mask+1),more:=SetTable.runEnd t.mask ((p.i*5+1+p.perturb/32) % (t.mask+1))-(p.i*5+1+p.perturb/32) % (t.mask+1),i:=(p.i*5+1+p.perturb/32) % (t.mask+1),perturb:=p.perturb/32}:=by
      unfold SetTable.advance;rw[if_neg hm];rfl
     rw[DW];exact Eb hd n _ _ fuel hc hn ∅ ha' hj
theorem Om{n:Nat}(h:n<128):SetTable.bits (n:Int)=n:=by
 unfold SetTable.bits;have:((n:Int) % (2^64:Int))=n:=UJ ∅ ∅
 rw[this];rfl
def lB(m:Nat):Prop:=m=7\/m=31\/m=127
theorem abT(h:lB m)(hn:n<128):ja m (10*(m+15)) (n % (m+1)) (SetTable.runEnd m (n % (m+1))-n % (m+1)) (n % (m+1)) n 0=J:=by
 have:Ab m=J:=h.elim (λe=>e▸abY) λh=>h.elim (λe=>e▸abZ) λe=>e▸ab0
 exact Ph.mp this n (dg.mpr hn)
theorem aaB{t:ψ}{n:Nat}(hd:t.dummies=#[])(hm:lB t.mask)(hn:n<128)(hs:t.place.toList.length<=t.mask)(hu:Up t.place.toList) :
  ∃j,t.freeSlot (n:Int)=U (j,Δ)/\j∉t.place.toList/\j<=t.mask:=by
 have hmem:∀j,t.slot j=.empty->j∉t.place.toList:=by
  intro j e hj;unfold SetTable.slot at e;dsimp only at e;rw[EU hu hj]at e;simp at e
 have ZL:∀j,j∉t.place.toList->t.slot j=.empty:=by
  intro j hj
  rcases BG hd j with e|⟨i,e⟩
  ·exact e
  ·unfold SetTable.slot at e;dsimp only at e;split at e
   ·rename_i q;have:=eq_of_beq q;rw[<-Q6]at this;exact absurd (P8 this) hj
   ·split at e<;>cases e
 have hex:∃j,j<=t.mask/\t.slot j=.empty:=by
  by_cases q:∃j,j<=t.mask/\j∉t.place.toList
  ·obtain⟨j,a,b⟩:=q;exact⟨j,a,ZL j b⟩
  ·have:=Cd (t.mask+1) t.place.toList λj hj=>Q5 λx=>q ⟨j,∅,x⟩
   omega
 have hb:=Om hn;obtain⟨j,e,e1,e2⟩:=Eb (t:=t) (h:=(n:Int)) hd (10*(t.mask+15)) (t.probeStart n) 0 (10*SetTable.turns t.mask)
  (by show ja _ _ (SetTable.bits n % _) (SetTable.runEnd t.mask (SetTable.bits n % (t.mask+1))-SetTable.bits n % (t.mask+1)) (SetTable.bits n % _) (SetTable.bits n) _=J;rw[hb];exact abT hm hn) rfl (AP _) (λk hk=>by simp at hk) hex
 refine⟨j,?_,hmem j e1,e2⟩;unfold SetTable.freeSlot SetTable.probe;rw[e];rfl
theorem aio(c i k:Nat):((2^c-1) <<< i).testBit k=decide (i<=k/\k<i+c):=by
 rw[Vc,Qu]
 by_cases h:i<=k
 ·simp only[ge_iff_le,h,decide_true,Bool.true_and,true_and];exact decide_eq_decide.mpr ∅
 ·simp[h]
theorem De{mask:Nat}{owner:Array (Option Nat)}:∀n i q acc fuel,m8 mask n i q acc=J->n<=fuel->(∀k,k<=mask->acc.testBit k=J->owner.getD k (U 0)≠O) ->
  (∃j,j<=mask/\owner.getD j (U 0)=O)->∃j,SetTable.layClean.free mask owner fuel i q=U j/\owner.getD j (U 0)=O
 |0,_,_,_,_,h,_,_,_=>by simp[m8]at h
 |n+1,i,q,acc,0,_,h,_,_=>∅
 |n+1,i,q,acc,fuel+1,hc,hf,ha,hj=>by
  unfold SetTable.layClean.free;cases hr:(θ _).find? _ with
  |some k =>
   have:=Vb hr;exact⟨i+k,rfl,by simpa using this⟩
  |none =>
   have ha':∀k,k<=mask->(acc |||((2^(SetTable.runEnd mask i+1-i)-1) <<< i)).testBit k=J->owner.getD k (U 0)≠O:=by
    intro k hk hb;rw[UK,aio,R0,decide_eq_true_eq]at hb
    rcases hb with hb|hb
    ·exact ha k hk hb
    ·intro e;have:=(SK.mp hr) (k-i) (dg.mpr ∅)
     rw[show i+_=k by omega,e]at this
     exact this rfl
   unfold m8 at hc;split at hc
   ·rename_i ef;obtain⟨j0,h0,e0⟩:=hj;exact absurd e0 (ha' j0 h0 (by rw[ef,Qu];exact decide_eq_true ∅))
   ·exact De n _ _ _ fuel hc ∅ ha' hj
def jK(m:Nat):Prop:=m=31\/m=127
theorem abU(h:jK m)(hn:n<128):m8 m (m+15) (n % (m+1)) n 0=J:=by
 have:EF m=J:=h.elim (λe=>e▸abV) λe=>e▸abW
 exact Ph.mp this n (dg.mpr hn)
theorem Eh:∀(l:List (Option Nat)) (j k:Nat),j<l.length->l.getD j (U 0)=O->((l.set j (U k)).filterMap id).Perm (k::l.filterMap id)
 |[],_,_,h,_=>absurd h (UN _)
 |x::l,0,k,_,e=>by
  have:x=O:=by simpa using e
  subst this;simp
 |x::l,j+1,k,h,e=>by
  have ih:=Eh l j k (by simpa using h) (by simpa using e)
  cases x with
  |none=>simpa using ih
  |some a =>
   exact(ih.cons a).trans (List.Perm.swap _ _ _)
theorem Ei:∀(l:List (Option Nat)),(∀j,j<l.length->l.getD j (U 0)≠O)->(l.filterMap id).length=l.length
 |[],_=>rfl
 |x::l,h=>by
  cases x with
  |none=>exact absurd rfl (h 0 (by simp))
  |some a =>
   have:=Ei l λj hj=>by simpa using h (j+1) (by simpa using hj)
   simp[this]
def qx(mask:Nat)(owner:Array (Option Nat))(k:Nat):Prop:=owner.toList.length=mask+1/\(owner.toList.filterMap id).Perm (θ k)
theorem jS(xs:Array (Option Nat))(i:Nat)(d:Option Nat):xs.getD i d=xs.toList.getD i d:=by
 simp[UO,I8]
theorem Xz{mask:Nat}{owner:Array (Option Nat)}{k n:Nat}(hm:jK mask)(hn:n<128)(I:qx mask owner k)(hk:k<=mask) :
  ∃j,SetTable.layClean.free mask owner (SetTable.turns mask) (SetTable.bits n % (mask+1)) (SetTable.bits n)=U j/\qx mask (owner.setIfInBounds j (U k)) (k+1):=by
 obtain⟨h1,h2⟩:=I;have hex:∃j,j<=mask/\owner.getD j (U 0)=O:=by
  by_cases q:∃j,j<=mask/\owner.getD j (U 0)=O
  ·exact q
  ·have:=Ei owner.toList λj hj e=>q ⟨j,∅,by rw[jS];exact e⟩
   have h3:=h2.length_eq;rw[Qt]at h3;omega
 obtain⟨j,e,e1⟩:=De _ _ _ 0 _ (abU hm hn) (AP _) (λk _ hb=>by simp at hb) hex
 refine⟨j,by rw[Om hn];exact e,by simpa using h1,?_⟩
 rw[jS]at e1;have hj:j<owner.toList.length:=by
  rcases Qk j owner.toList.length with q|q
  ·exact q
  ·rw[I8,Qj q]at e1;cases e1
 rw[TH];refine(Eh _ j k hj e1).trans ?_;rw[QC];exact(h2.cons k).trans (TF k _).symm
theorem Lu{mask:Nat}(hm:jK mask):∀(hs:List Int) (owner:Array (Option Nat)) (k:Nat),(∀h∈hs,∃n:Nat,h=n/\n<128)->qx mask owner k->k+hs.length<=mask ->
  ∃ow,hs.foldl (λacc h=>(do
   let(owner,k) <-acc
   let j <-SetTable.layClean.free mask owner (SetTable.turns mask) (SetTable.bits h % (mask+1)) (SetTable.bits h)
   pure (owner.setIfInBounds j (U k),k+1):Option (Array (Option Nat)×Nat))) (U (owner,k))=U (ow,k+hs.length)/\qx mask ow (k+hs.length)
 |[],owner,k,_,I,_=>⟨owner,rfl,I⟩
 |h::hs,owner,k,hh,I,hl=>by
  obtain⟨n,e,hn⟩:=hh h (.head _);subst e;simp only[PB]at hl;obtain⟨j,e,I'⟩:=Xz hm hn I ∅
  obtain⟨ow,e',wH⟩:=Lu hm hs _ (k+1) (λh x=>hh h (.tail _ x)) I' ∅
  refine⟨ow,?_,by rw[PB,show k+(hs.length+1)=k+1+hs.length by omega];exact wH⟩
  rw[RB,PB,show k+(hs.length+1)=k+1+hs.length by omega,<-e']
  congr 1
  show(do let j <-SetTable.layClean.free mask owner (SetTable.turns mask) (SetTable.bits n % (mask+1)) (SetTable.bits n);pure (owner.setIfInBounds j (U k),k+1):Option (Array (Option Nat)×Nat))=_
  rw[e];rfl
theorem XC{mask:Nat}(hm:jK mask)(hs:Array Int)(hh:∀h∈hs.toList,∃n:Nat,h=n/\n<128)(hl:hs.toList.length<=mask) :
  ∃ow,SetTable.layClean mask hs=U ow/\qx mask ow hs.toList.length:=by
 obtain⟨ow,e,I⟩:=Lu hm hs.toList (Array.replicate (mask+1) O) 0 hh ⟨by simp,by simp⟩ ∅
 rw[O9]at e I;refine⟨ow,?_,I⟩;unfold SetTable.layClean;rw[<-Va];exact congrArg (Option.map (λx:Array (Option Nat)×Nat=>x.1)) e
theorem B5(l:List (Option Nat)):(θ l.length).filterMap (λj=>l.getD j O)=l.filterMap id:=by
 have:l=(θ l.length).map (λj=>l.getD j O):=by
  apply Q4
  ·simp
  ·intro i h1 h2;simp[I8,O1 h1]
 conv=>rhs;rw[this]
 rw[List.filterMap_map];rfl
theorem XR{mask:Nat}(hm:jK mask)(f mv:Nat)(led plain:Bool)(hs:Array Int)(hh:∀h∈hs.toList,∃n:Nat,h=n/\n<128)(hl:hs.toList.length<=mask) :
  ∃place order,SetTable.laid mask f mv led plain hs=U ({mask:=mask,place:=place,dummies:=#[],finger:=f,led:=led,moves:=mv,plain:=plain},order)/\Up place.toList/\(∀j∈place.toList,j<=mask)/\place.size=hs.size/\order.toList.Perm (θ hs.size):=by
 obtain⟨ow,e,h1,h2⟩:=XC hm hs hh hl;refine⟨(((θ (mask+1)).filterMap λj=>(ow.getD j O).map (j,·)).map (·.1)).toArray,(((θ (mask+1)).filterMap λj=>(ow.getD j O).map (j,·)).map (·.2)).toArray,?_,?_,?_,?_,?_⟩
 ·unfold SetTable.laid;rw[e];rfl
 ·show Up ((((θ (mask+1)).filterMap λj=>(ow.getD j O).map (j,·)).map (·.1)).toArray).toList
  show Uu _ _;rw[SJ];refine VZ _ (λa a' hlt b hb b' hb'=>?_) UI
  cases ha:ow.getD a O<;>rw[ha]at hb<;>simp at hb
  cases ha':ow.getD a' O<;>rw[ha']at hb'<;>simp at hb'
  rw[<-hb,<-hb'];exact hlt
 ·intro j hj;simp only[K1,S6,dg]at hj;obtain⟨⟨a,b⟩,⟨c,hc,hq⟩,rfl⟩:=hj;cases ha:ow.getD c O<;>rw[ha]at hq<;>simp at hq
  obtain⟨rfl,_⟩:=hq;omega
 ·have:((θ (mask+1)).filterMap λj=>(ow.getD j O).map (j,·)).length=(ow.toList.filterMap id).length:=by
   rw[<-B5,h1,<-O2 (f:=Prod.snd),UH]
   congr 1
   congr 1
   funext j
   rw[jS];cases ow.toList.getD j O<;>rfl
  rw[O3,O2,this,h2.length_eq,Qt];simp
 ·show(((θ (mask+1)).filterMap λj=>(ow.getD j O).map (j,·)).map (·.2)).Perm _
  have:(((θ (mask+1)).filterMap λj=>(ow.getD j O).map (j,·)).map (·.2))=ow.toList.filterMap id:=by
   rw[<-B5,h1,UH]
   congr 1
   funext j
   rw[jS];cases ow.toList.getD j O<;>rfl
  rw[this]
  simpa using h2
structure oY (t:ψ) (n:Nat):Prop where
 size:t.place.size=n
 up:Up t.place.toList
 le:∀j∈t.place.toList,j<=t.mask
 dm:t.dummies=#[]
 mask:(t.mask=7/\n<=4)\/(t.mask=31/\n<=18)\/(t.mask=127/\n<=76)
 plain:t.plain=J
theorem oY.fits(h:oY t n):t.fits n=J:=by
 have:=h.mask;simp only[SetTable.fits,SetTable.fill,h.size,h.dm,PF,beq_self_eq_true,true_and,decide_eq_true_eq];simp;omega
theorem agH(led:Bool):oY (.fresh 0 0 led) 0:=⟨rfl,.nil,λj h=>by simp[SetTable.fresh]at h,rfl,.inl ⟨rfl,∅⟩,rfl⟩
def HS(es:List (Int×L)):Prop:=∀e∈es,∃n:Nat,e.1=n/\n<128
theorem XA{es:Array (Int×L)}{m:Nat}(I:oY t es.size)(hm:m<128)(hn:es.size<64):
  ∃es1 t1,layNew t es (m:Int) x=(es1,t1,Δ,Δ)/\es1.size=es.size+1/\t1.led=t.led/\t1.plain=J/\t1.place.size=es1.size/\Up t1.place.toList/\(∀j∈t1.place.toList,j<=t1.mask)/\t1.dummies=#[]/\t1.mask=t.mask/\t1.fits es1.size=J:=by
 have hk:=I.mask;have hsz:=I.size;obtain⟨j,e,h1,h2⟩:=aaB I.dm (by unfold lB;omega) hm (by simp;omega) I.up
 have hnd:(if SetTable.has t.dummies j then SetTable.eraseAt t.dummies (SetTable.below t.dummies j)else t.dummies)=#[]:=by
  rw[I.dm];rfl
 have hs1:(SetTable.insertAt es (SetTable.below t.place j) (m,x)).size=es.size+1:=by
  rw[<-PC,(Ro ..).length_eq];simp
 have hs2:(SetTable.insertAt t.place (SetTable.below t.place j) j).size=es.size+1:=by
  rw[<-PC,(Ro ..).length_eq];simp[hsz]
 have hfit:(t.put j).1.fits (es.size+1)=J:=by
  simp only[SetTable.put,SetTable.fits,SetTable.fill,hnd,hs2,PF,beq_self_eq_true,true_and,decide_eq_true_eq];simp;omega
 refine⟨SetTable.insertAt es _ _,(t.put j).1,?_,hs1,rfl,I.plain,?_,?_,?_,hnd,rfl,?_⟩
 ·unfold layNew;rw[e];dsimp only;have hp:(t.put j).2=SetTable.below t.place j:=rfl;rw[hp,hs1];unfold SetTable.orStandIn;rw[hfit];rfl
 ·rw[hs1];exact hs2
 ·exact GP I.up h1
 ·intro k hk';have:k∈(t.place.push j).toList:=(Ro t.place _ j).mem_iff.mp hk';rw[T9,PY,Pa]at this
  rcases this with q|rfl
  ·exact I.le k q
  ·exact h2
 ·rw[hs1];exact hfit
theorem ahL{t:ψ}{es:Array (Int×L)}(hp:t.plain=J)(hh:HS es.toList)(hm:(t.mask=7/\es.size=5)\/(t.mask=31/\es.size=19)) :
  ∃kK t2,relayAll t es (SetTable.grown es.size)=(kK,t2,Δ)/\kK.size=es.size/\oY t2 kK.size/\t2.led=t.led:=by
 have hw:∃m,SetTable.sizeAbove (SetTable.grown es.size)-1=m/\((m=31/\es.size=5)\/(m=127/\es.size=19)):=by
  rcases hm with⟨_,e⟩|⟨_,e⟩
  ·rw[e];exact⟨31,⋯,.inl ⟨rfl,rfl⟩⟩
  ·rw[e];exact⟨127,⋯,.inr ⟨rfl,rfl⟩⟩
 obtain⟨m,ew,hq⟩:=hw;have hs:(es.map (·.1)).toList=es.toList.map (·.1):=by simp
 obtain⟨place,order,e,u1,u2,u3,u4⟩:=XR (mask:=m) (by unfold jK;omega) t.finger (t.movedTo m) t.led t.plain (es.map (·.1)) (λh hx=>by
  rw[hs,K1]at hx;obtain⟨y,hy,rfl⟩:=hx;exact hh y hy) (by rw[hs,O2,PC];omega)
 rw[Array.size_map]at u3 u4;have hes:(order.filterMap (es[·]?)).size=es.size:=by
  rw[<-PC,UG];exact((u4.filterMap _).trans (by rw[VY])).length_eq
 have hfit:SetTable.fits {mask:=m,place:=place,dummies:=#[],finger:=t.finger,led:=t.led,moves:=t.movedTo m,plain:=t.plain} es.size=J:=by
  simp only[SetTable.fits,SetTable.fill,u3,PF,beq_self_eq_true,true_and,decide_eq_true_eq];simp only[O3,Rn];omega
 refine⟨order.filterMap (es[·]?),{mask:=m,place:=place,dummies:=#[],finger:=t.finger,led:=t.led,moves:=t.movedTo m,plain:=t.plain},?_,hes,?_,?_⟩
 rotate_left
 ·rw[hes];exact⟨u3,u1,u2,rfl,.inr (by show(m=31/\_)\/(m=127/\_);omega),hp⟩
 ·rfl
 ·unfold relayAll SetTable.relaid;rw[ew,e];dsimp only;rw[hes,hfit];have hc:coversAll order es.size=J:=by unfold coversAll;exact List.isPerm_iff.mpr u4
  rw[hc];rfl
theorem aaz{t1:ψ}(I:oY t n)(hm:t1.mask=t.mask)(hs:t1.place.size=n+1)(hd:t1.dummies=#[])(hn:n<64):
  (t1.tooFull=J->(t1.mask=7/\n+1=5)\/(t1.mask=31/\n+1=19))/\(t1.tooFull=Δ->((t1.mask=7/\n+1<=4)\/(t1.mask=31/\n+1<=18)\/(t1.mask=127/\n+1<=76))):=by
 have hk:=I.mask;have hz:(#[]:Array Nat).size=0:=rfl;simp only[SetTable.tooFull,SetTable.fill,hs,hd,hm,hz,decide_eq_true_eq,decide_eq_false_iff_not];omega
abbrev Pb:=Ur
def iB(m:Nat)(p:Pb):Pb:=if p.more>0 then{p with j:=p.j+1,more:=p.more-1}else{p with j:=(p.i*5+1+p.perturb/32) % (m+1),more:=SetTable.runEnd m ((p.i*5+1+p.perturb/32) % (m+1))-(p.i*5+1+p.perturb/32) % (m+1),i:=(p.i*5+1+p.perturb/32) % (m+1),perturb:=p.perturb/32}
theorem OI(t:ψ)(p:Pb):t.advance p=iB t.mask p:=by
 unfold SetTable.advance iB;split<;>rfl
def dW(m:Nat):Nat->Pb->Pb
 |0,p=>p
 |n+1,p=>dW m n (iB m p)
theorem mT(m:Nat):∀(a b:Nat) (p:Pb),dW m (a+b) p=dW m b (dW m a p)
 |0,b,p=>by rw[O9];rfl
 |a+1,b,p=>by
  rw[show a+1+b=(a+b)+1 by omega]
  exact mT m a b _
theorem acW(m:Nat)(p:Pb):(iB m p).dummy=p.dummy:=by unfold iB;split<;>rfl
theorem LO(m:Nat):∀(n:Nat) (p:Pb),(dW m n p).dummy=p.dummy
 |0,_=>rfl
 |n+1,p=>(LO m n _).trans (acW m p)
def lg(m i q:Nat):Pb:=⟨i,SetTable.runEnd m i-i,i,q,O⟩
def j3(m:Nat)(h:Int):Pb:=lg m (SetTable.bits h % (m+1)) (SetTable.bits h)
def cE(m:Nat)(h:Int)(n:Nat):Nat:=(dW m n (j3 m h)).j
def Reach(m:Nat)(P:Nat->Prop)(h:Int)(j:Nat):Prop:=∃n,n<10*(m+15)/\cE m h n=j/\∀k,k<n->P (cE m h k)
theorem Reach.mono{P Q:Nat->Prop}(r:Reach m P h j)(i:∀k,P k->Q k):Reach m Q h j :=
 let⟨n,h1,h2,h3⟩:=r;⟨n,h1,h2,λk hk=>i _ (h3 k hk)⟩
theorem xJ{t:ψ}(hu:Up t.place.toList)(hj:j∈t.place.toList):∃i,t.slot j=.live i/\t.place[i]? = U j:=by
 refine⟨SetTable.below t.place j,?_,EU hu hj⟩;unfold SetTable.slot;dsimp only;rw[EU hu hj];simp
theorem ag8{t:ψ}(hd:t.dummies=#[])(hj:j∉t.place.toList):t.slot j=.empty:=by
 rcases BG hd j with e|⟨i,e⟩
 ·exact e
 ·unfold SetTable.slot at e;dsimp only at e;split at e
  ·rename_i q;have:=eq_of_beq q;rw[<-Q6]at this;exact absurd (P8 this) hj
  ·split at e<;>cases e
theorem D9{t:ψ}{hashAt:Nat->Int}:∀(n fuel:Nat) (p:Pb),n<=fuel->(∀k,k<n->∃i,t.slot (dW t.mask k p).j=.live i/\(hashAt i==h)=Δ) ->
  SetTable.probe.go t hashAt h fuel p=SetTable.probe.go t hashAt h (fuel-n) (dW t.mask n p)
 |0,fuel,p,_,_=>rfl
 |n+1,0,p,hf,_=>absurd hf ∅
 |n+1,fuel+1,p,hf,hk=>by
  obtain⟨i,e,hne⟩:=hk 0 ∅
  have e:t.slot p.j=.live i:=e;rw[show fuel+1-_=fuel-n by omega]
  show SetTable.probe.go t hashAt h _ p=SetTable.probe.go t hashAt h _ (dW t.mask n _);rw[<-(D9 (h:=h) n fuel _ ∅ λk hk'=>hk (k+1) ∅)]
  conv=>lhs;unfold SetTable.probe.go
  rw[e];dsimp only;rw[hne,OI];simp only[Py,if_false]
theorem least{P:Nat->Prop}:∀(n:Nat),P n->∃k,k<=n/\P k/\∀i,i<k->¬P i:=λn=>by
 induction n using Nat.strongRecOn with
 |_ n ih =>
  intro h
  by_cases q:∃i,i<n/\P i
  ·obtain⟨i,hi,hp⟩:=q;obtain⟨k,h1,h2,h3⟩:=ih i hi hp;exact⟨k,∅,h2,h3⟩
  ·exact⟨n,AP _,h,λi hi hp=>q ⟨i,hi,hp⟩⟩
structure qA (h:Int):Prop where
 go:∀m,lB m->ja m (10*(m+15)) (SetTable.bits h % (m+1)) (SetTable.runEnd m (SetTable.bits h % (m+1))-SetTable.bits h % (m+1)) (SetTable.bits h % (m+1)) (SetTable.bits h) 0=J
 lay:∀m,jK m->m8 m (m+15) (SetTable.bits h % (m+1)) (SetTable.bits h) 0=J
def kG(es:Array (Int×L))(i:Nat):Int:=(Option.map (λx:Int×L=>x.fst) es[i]?).getD 0
structure kQ (t:ψ) (es:Array (Int×L)):Prop where
 size:t.place.size=es.size
 up:Up t.place.toList
 le:∀j∈t.place.toList,j<=t.mask
 dm:t.dummies=#[]
 mask:(t.mask=7/\es.size<=4)\/(t.mask=31/\es.size<=18)\/(t.mask=127/\es.size<=76)
 reach:∀q∈t.place.toList.zip es.toList,Reach t.mask (·∈t.place.toList) q.2.1 q.1
theorem kQ.ok(I:kQ t es):lB t.mask:=by
 have:=I.mask;unfold lB;omega
theorem kQ.fits(h:kQ t es):t.fits es.size=J:=by
 have:=h.mask;simp only[SetTable.fits,SetTable.fill,h.size,h.dm,PF,beq_self_eq_true,true_and,decide_eq_true_eq];simp;omega
theorem afj{l:List Nat}{r:List (Int×L)}{i j:Nat}{e:Int×L}(h1:l[i]? = U j)(h2:r[i]? = U e):(j,e)∈l.zip r:=by
 have:(l.zip r)[i]? = U (j,e):=by rw[UU];exact⟨h1,h2⟩
 exact P8 this
theorem afC(h:Up l){i k j:Nat}(h1:l[i]? = U j)(h2:l[k]? = U j):i=k:=by
 obtain⟨a1,b1⟩:=OX.mp h1;obtain⟨a2,b2⟩:=OX.mp h2
 rcases R8 i k with q|q|q
 ·have:=Qw.mp h i k a1 a2 q;omega
 ·exact q
 ·have:=Qw.mp h k i a2 a1 q;omega
theorem OH{p:Pb}(h:p.j+p.more<=m):(iB m p).j+(iB m p).more<=m:=by
 unfold iB;split
 ·dsimp only;omega
 ·dsimp only;have:(p.i*5+1+p.perturb/32) % _<m+1:=Rk _ ∅
  unfold SetTable.runEnd;split<;>omega
theorem LM:∀(n:Nat) {p:Pb},p.j+p.more<=m->(dW m n p).j+(dW m n p).more<=m
 |0,_,h=>h
 |n+1,_,h=>LM n (OH h)
theorem HK(m:Nat)(h:Int):(j3 m h).j+(j3 m h).more<=m:=by
 have:SetTable.bits h % (m+1)<m+1:=Rk _ ∅
 unfold j3 lg;dsimp only
 generalize SetTable.bits h % (m+1)=i at this
 unfold SetTable.runEnd;split<;>omega
theorem OA(m:Nat)(h:Int)(n:Nat):cE m h n<=m:=by
 have:=LM n (HK m h);unfold cE;omega
theorem afi{l:Array Nat}{r:Array (Int×L)}(hs:l.size=r.size):∀q∈(SetTable.insertAt l p j).toList.zip (SetTable.insertAt r p e).toList,q=(j,e)\/q∈l.toList.zip r.toList:=by
 intro q hq;rw[TN,TN]at hq;have hl:(l.toList.take p).length=(r.toList.take p).length:=by simp[hs]
 rw[VX hl,UE,PY,Bt]at hq;have hz:l.toList.zip r.toList=(l.toList.take p).zip (r.toList.take p)++(l.toList.drop p).zip (r.toList.drop p):=by
  rw[<-VX hl,RT,RT]
 rw[hz,PY]
 rcases hq with q|q|q
 ·exact .inr (.inl q)
 ·exact .inl q
 ·exact .inr (.inr q)
theorem ajq(I:kQ t es)(hj:j∉t.place.toList)(hle:j<=t.mask)(hr:Reach t.mask (·∈t.place.toList) h j):
  (SetTable.insertAt es (SetTable.below t.place j) (h,x)).size=es.size+1/\(t.put j).1.place.size=es.size+1/\Up (t.put j).1.place.toList/\(∀k∈(t.put j).1.place.toList,k<=t.mask)/\(t.put j).1.dummies=#[] /\
   (∀q∈(t.put j).1.place.toList.zip (SetTable.insertAt es (SetTable.below t.place j) (h,x)).toList,Reach t.mask (·∈(t.put j).1.place.toList) q.2.1 q.1):=by
 have hsz:=I.size;have hnd:(if SetTable.has t.dummies j then SetTable.eraseAt t.dummies (SetTable.below t.dummies j)else t.dummies)=#[]:=by
  rw[I.dm];rfl
 have hmem:∀k,k∈(SetTable.insertAt t.place (SetTable.below t.place j) j).toList↔k∈t.place.toList\/k=j:=λk=>by
  rw[(Ro t.place (SetTable.below t.place j) j).mem_iff,T9,PY,Pa]
 refine⟨?_,?_,GP I.up hj,λk hk=>?_,hnd,λq hq=>?_⟩
 ·rw[<-PC,(Ro ..).length_eq];simp
 ·show(SetTable.insertAt t.place (SetTable.below t.place j) j).size=_;rw[<-PC,(Ro ..).length_eq];simp[hsz]
 ·rcases(hmem k).mp hk with q|rfl
  ·exact I.le k q
  ·exact hle
 ·rcases afi hsz q hq with rfl|q'
  ·exact hr.mono λk hk=>(hmem k).mpr (.inl hk)
  ·exact(I.reach q q').mono λk hk=>(hmem k).mpr (.inl hk)
theorem ua(m:Nat):∀(k:Nat) (p:Pb),k<=p.more->dW m k p={p with j:=p.j+k,more:=p.more-k}
 |0,p,_=>rfl
 |k+1,p,h=>by
  have ha:iB m p={p with j:=p.j+1,more:=p.more-1}:=by unfold iB;rw[if_pos ∅]
  show dW m k (iB m p)=_;rw[ha,ua m k _ (by dsimp only;omega)]
  dsimp only
  congr 1<;>omega
theorem C8(m i q:Nat):dW m (SetTable.runEnd m i-i+1) (lg m i q)=lg m ((i*5+1+q/32) % (m+1)) (q/32):=by
 rw[mT m _ 1,ua m (SetTable.runEnd m i-i) (lg m i q) (AP _)];show iB m _=_;unfold iB lg;dsimp only;rw[if_neg ∅]
theorem IZ(m i:Nat):SetTable.runEnd m i-i<=9:=by unfold SetTable.runEnd;split<;>omega
theorem BY(m i:Nat):i<=SetTable.runEnd m i:=by unfold SetTable.runEnd;split<;>omega
theorem M5{mask:Nat}{owner:Array (Option Nat)}:∀(fuel i q j:Nat),SetTable.layClean.free mask owner fuel i q=U j ->
  ∃n,n<10*fuel/\(dW mask n (lg mask i q)).j=j/\∀k,k<n->owner.getD (dW mask k (lg mask i q)).j (U 0)≠O
 |0,i,q,j,h=>by cases h
 |fuel+1,i,q,j,h=>by
  have h9:=IZ mask i;have hg:=BY mask i;unfold SetTable.layClean.free at h;cases hr:(θ (SetTable.runEnd mask i+1-i)).find? (λk=>(owner.getD (i+k) (U 0)).isNone)with
  |some k =>
   rw[hr]at h;dsimp only at h;cases h;have hk:=dg.mp (UD hr);refine⟨k,∅,?_,λk' hk'=>?_⟩
   ·rw[ua mask k _ (by show k<=SetTable.runEnd mask i-i;omega)]
    rfl
   ·rw[ua mask k' _ (by show k'<=SetTable.runEnd mask i-i;omega)]
    show owner.getD (i+k') (U 0)≠O;intro e;have hb:=VW.mp hr;obtain⟨_,n,hn,en,ZT⟩:=hb;have en':n=k:=by simpa using en
    have:=ZT k' ∅
    simp[e]at this
  |none =>
   rw[hr]at h;dsimp only at h;have h:SetTable.layClean.free mask owner fuel ((i*5+1+q/32) % (mask+1)) (q/32)=U j:=h;obtain⟨n,hn,ej,hl⟩:=M5 fuel _ _ j h;have hno:=SK.mp hr;refine⟨SetTable.runEnd mask i-i+1+n,∅,?_,λk hk=>?_⟩
   ·rw[mT,C8];exact ej
   ·by_cases hk2:k<=SetTable.runEnd mask i-i
    ·rw[ua mask k _ hk2];show owner.getD (i+k) (U 0)≠O;intro e;have:=hno k (dg.mpr ∅)
     simp[e]at this
    ·rw[show k=SetTable.runEnd mask i-i+1+(k-(SetTable.runEnd mask i-i+1)) by omega,mT,C8]
     exact hl _ ∅
structure wB (mask:Nat) (owner:Array (Option Nat)) (hs:List Int) (k:Nat):Prop where
 lay:qx mask owner k
 way:∀j i,owner.toList.getD j O=U i->∃h,hs[i]? = U h/\Reach mask (λs=>owner.getD s (U 0)≠O) h j
theorem aiN{mask:Nat}{owner:Array (Option Nat)}(I:qx mask owner k)(h:s<=mask):(owner.getD s (U 0)≠O)↔(owner.toList.getD s O≠O):=by
 have h1:=I.1;rw[jS];have hs:s<owner.toList.length:=∅
 rw[I8,I8,O1 hs];rfl
theorem XD{mask:Nat}{owner:Array (Option Nat)}{hs:List Int}(hm:jK mask)(hc:qA h)(I:wB mask owner hs k)(hk:k<=mask)(hh:hs[k]? = U h):
  ∃j,SetTable.layClean.free mask owner (SetTable.turns mask) (SetTable.bits h % (mask+1)) (SetTable.bits h)=U j/\wB mask (owner.setIfInBounds j (U k)) hs (k+1):=by
 obtain⟨h1,h2⟩:=I.lay;have hex:∃j,j<=mask/\owner.getD j (U 0)=O:=by
  by_cases q:∃j,j<=mask/\owner.getD j (U 0)=O
  ·exact q
  ·have:=Ei owner.toList λj hj e=>q ⟨j,∅,by rw[jS];exact e⟩
   have h3:=h2.length_eq;rw[Qt]at h3;omega
 obtain⟨j,e,e1⟩:=De (mask+15) _ _ 0 (SetTable.turns mask) (hc.lay mask hm) (AP _) (λk _ hb=>by simp at hb) hex
 obtain⟨n,hn,ej,hl⟩:=M5 _ _ _ _ e;rw[jS]at e1;have hj:j<owner.toList.length:=by
  rcases Qk j owner.toList.length with q|q
  ·exact q
  ·rw[I8,Qj q]at e1;cases e1
 have grow:∀s,owner.getD s (U 0)≠O->(owner.setIfInBounds j (U k)).getD s (U 0)≠O:=λs hs=>by
  rw[jS,TH,I8,T8];split
  ·first|(split<;>simp)|simp
  ·rw[jS,I8]at hs;exact hs
 refine⟨j,e,⟨⟨by simpa using h1,?_⟩,λs i hs=>?_⟩⟩
 ·rw[TH];refine(Eh _ j k hj e1).trans ?_;rw[QC];exact(h2.cons k).trans (TF k _).symm
 ·rw[TH,I8,T8]at hs
  by_cases q:j=s
  ·subst q;rw[if_pos rfl,if_pos hj]at hs;have:k=i:=by simpa using hs
   subst this;exact⟨h,hh,n,by unfold SetTable.turns at hn;exact hn,ej,λk' hk'=>grow _ (hl k' hk')⟩
  ·rw[if_neg q]at hs;obtain⟨h',q1,q2⟩:=I.way s i (by rw[I8];exact hs)
   exact⟨h',q1,q2.mono grow⟩
theorem Lv{mask:Nat}(hm:jK mask)(all:List Int):∀(hs:List Int) (owner:Array (Option Nat)) (k:Nat),(∀h∈hs,qA h)->wB mask owner all k->k+hs.length<=mask->(∀i,hs[i]? = all[k+i]?\/hs.length<=i) ->
  ∃ow,hs.foldl (λacc h=>(do
   let(owner,k) <-acc
   let j <-SetTable.layClean.free mask owner (SetTable.turns mask) (SetTable.bits h % (mask+1)) (SetTable.bits h)
   pure (owner.setIfInBounds j (U k),k+1):Option (Array (Option Nat)×Nat))) (U (owner,k))=U (ow,k+hs.length)/\wB mask ow all (k+hs.length)
 |[],owner,k,_,I,_,_=>⟨owner,rfl,I⟩
 |h::hs,owner,k,hh,I,hl,hat=>by
  simp only[PB]at hl;have h0:all[k]? = U h:=by
   rcases hat 0 with q|q
   ·rw[R9]at q;rw[<-q];rfl
   ·simp at q
  obtain⟨j,e,I'⟩:=XD hm (hh h (.head _)) I ∅ h0
  obtain⟨ow,e',wH⟩:=Lv hm all hs _ (k+1) (λh x=>hh h (.tail _ x)) I' ∅ λi=>by
   rcases hat (i+1)with q|q
   ·left;rw[show k+1+i=k+(i+1) by omega,<-q];rfl
   ·right;simpa using q
  refine⟨ow,?_,by rw[PB,show k+(hs.length+1)=k+1+hs.length by omega];exact wH⟩
  rw[RB,PB,show k+(hs.length+1)=k+1+hs.length by omega,<-e']
  congr 1
  show(do let j <-SetTable.layClean.free mask owner (SetTable.turns mask) (SetTable.bits h % (mask+1)) (SetTable.bits h);pure (owner.setIfInBounds j (U k),k+1):Option (Array (Option Nat)×Nat))=_
  rw[e];rfl
theorem XE{mask:Nat}(hm:jK mask)(hs:Array Int)(hh:∀h∈hs.toList,qA h)(hl:hs.toList.length<=mask) :
  ∃ow,SetTable.layClean mask hs=U ow/\wB mask ow hs.toList hs.toList.length:=by
 obtain⟨ow,e,I⟩:=Lv hm hs.toList hs.toList (Array.replicate (mask+1) O) 0 hh ⟨⟨by simp,by simp⟩,λj i h=>by
  rw[Array.toList_replicate,I8,Vn]at h;split at h<;>cases h⟩ ∅ λi=>.inl (by rw[O9])
 rw[O9]at e I;refine⟨ow,?_,I⟩;unfold SetTable.layClean;rw[<-Va];exact congrArg (Option.map (λx:Array (Option Nat)×Nat=>x.1)) e
theorem ahK{t:ψ}{es:Array (Int×L)}(hh:∀e∈es.toList,qA e.1)(hm:es.size=5\/es.size=19) :
  ∃t2 order,t.relaid (es.map (·.1)) (SetTable.grown es.size)=U (t2,order)/\(order.filterMap (es[·]?)).size=es.size/\kQ t2 (order.filterMap (es[·]?))/\t2.led=t.led/\(order.filterMap (es[·]?)).toList.Perm es.toList:=by
 have hw:∃m,SetTable.sizeAbove (SetTable.grown es.size)-1=m/\((m=31/\es.size=5)\/(m=127/\es.size=19)):=by
  rcases hm with e|e
  ·rw[e];exact⟨31,⋯,.inl ⟨rfl,rfl⟩⟩
  ·rw[e];exact⟨127,⋯,.inr ⟨rfl,rfl⟩⟩
 obtain⟨m,ew,hq⟩:=hw;have hs:(es.map (·.1)).toList=es.toList.map (·.1):=by simp
 have hok:jK m:=by unfold jK;omega
 have DS:∀h∈(es.map (·.1)).toList,qA h:=λh hx=>by
  rw[hs,K1]at hx;obtain⟨y,hy,rfl⟩:=hx;exact hh y hy
 have DO:(es.map (·.1)).toList.length<=m:=by rw[hs,O2,PC];omega
 obtain⟨ow,e,⟨h1,h2⟩,Ze⟩:=XE hok (es.map (·.1)) DS DO;rw[hs,O2,PC]at h2
 let live:List (Nat×Nat):=(θ (m+1)).filterMap λj=>(ow.getD j O).map (j,·)
 have hlive:∀q:Nat×Nat,q∈live↔q.1<=m/\ow.toList.getD q.1 O=U q.2:=λq=>by
  simp only[live,S6,dg]
  constructor
  ·rintro ⟨c,hc,e⟩
   cases ha:ow.getD c O<;>rw[ha]at e<;>simp at e
   subst e;exact⟨by show c<=m;omega,by rw[<-jS];exact ha⟩
  ·rintro ⟨h1,h2⟩
   exact⟨q.1,∅,by rw[jS,h2];rfl⟩
 have hord:(live.map (·.2)).Perm (θ es.size):=by
  have:live.map (·.2)=ow.toList.filterMap id:=by
   simp only[live];rw[<-B5,h1,UH]
   congr 1
   funext j
   rw[jS];cases ow.toList.getD j O<;>rfl
  rw[this];exact h2
 have hup:Up (live.map (·.1)):=by
  show Uu _ _;rw[SJ];refine VZ _ (λa a' hlt b hb b' hb'=>?_) UI
  cases ha:ow.getD a O<;>rw[ha]at hb<;>simp at hb
  cases ha':ow.getD a' O<;>rw[ha']at hb'<;>simp at hb'
  rw[<-hb,<-hb'];exact hlt
 have hlen:live.length=es.size:=by
  have:=hord.length_eq
  simpa using this
 have hes:(((live.map (·.2)).toArray).filterMap (es[·]?)).toList.Perm es.toList:=by
  rw[UG];exact(hord.filterMap _).trans (by rw[VY])
 have u9:(((live.map (·.2)).toArray).filterMap (es[·]?)).size=es.size:=by
  rw[<-PC,hes.length_eq,PC]
 have hlt:∀q∈live,q.2<es.size:=λq hq=>dg.mp (hord.mem_iff.mp (K1.mpr ⟨q,hq,rfl⟩))
 have hfm:∀(l:List (Nat×Nat)),(∀q∈l,q.2<es.size)->(l.map (·.2)).filterMap (es[·]?)=l.map λq=>es.toList.getD q.2 (0,.none):=by
  intro l
  induction l with
  |nil=>intro _;rfl
  |cons q l ih =>
   intro hq;have Mm:q.2<es.size:=hq q (.head _);rw[O6,T7,O6,ih λy hy=>hq y (.tail _ hy)]
   have:es[q.2]? = U (es.toList.getD q.2 (0,.none)):=by
    rw[<-Q6,I8,O1 (by simpa using Mm)]
    rfl
   rw[this]
 refine⟨{mask:=m,place:=(live.map (·.1)).toArray,dummies:=#[],finger:=t.finger,led:=t.led,moves:=t.movedTo m,plain:=t.plain},(live.map (·.2)).toArray,?_,u9,⟨?_,?_,?_,rfl,?_,?_⟩,rfl,hes⟩
 ·unfold SetTable.relaid SetTable.laid;rw[ew,e];rfl
 ·show((live.map (·.1)).toArray).size=_;rw[u9,O3,O2,hlen]
 ·exact hup
 ·intro j hj;have hj:j∈live.map (·.1):=hj;obtain⟨q,hq,rfl⟩:=K1.mp hj;exact((hlive q).mp hq).1
 ·rw[u9];exact .inr (by show(m=31/\_)\/(m=127/\_);omega)
 ·intro q hq;have hq:q∈(live.map (·.1)).zip (((live.map (·.2)).toArray).filterMap (es[·]?)).toList:=hq;rw[UG]at hq;have hq:q∈(live.map (·.1)).zip ((live.map (·.2)).filterMap (es[·]?)):=hq;rw[hfm live hlt,List.zip_map',K1]at hq;obtain⟨⟨j,i⟩,hji,rfl⟩:=hq;obtain⟨DP,ZD⟩:=(hlive (j,i)).mp hji;obtain⟨h,hi,hr⟩:=Ze j i ZD;have hil:=hlt (j,i) hji;have:h=(es.toList.getD i (0,.none)).1:=by
   rw[hs,PK,O1 (by simpa using hil)]at hi
   rw[I8,O1 (by simpa using hil)]
   simpa using hi.symm
  subst this;obtain⟨n,hn,ej,hl⟩:=hr;refine⟨n,hn,ej,λk hk=>?_⟩
  have hle:=OA m (es.toList.getD i (0,.none)).1 k;have:=(aiN (k:=es.size) ⟨h1,h2⟩ hle).mp (hl k hk);show cE m _ k∈live.map (·.1);cases ho:ow.toList.getD (cE m (es.toList.getD i (0,.none)).1 k) O with
  |none=>exact absurd ho this
  |some i'=>exact K1.mpr ⟨(_,i'),(hlive (_,i')).mpr ⟨hle,ho⟩,rfl⟩
theorem za{n:Nat}(h:n<128):hashInt (n:Int)=n:=by
 have:((θ 128).all λn=>hashInt n==n)=J:=by decide +kernel
 exact eq_of_beq (Ph.mp this n (dg.mpr h))
def e8(w:τ):Bool:=w.params.followText "set-order"
def gh(ns:List Nat)(x:Nat):List Nat:=if x∈ns then ns else ns++[x]
def iC(l:List (Int×L))(ns:List Nat):Prop:=(l.map (·.1)).Perm (ns.map λn:Nat=>(n:Int))/\∀e∈l,∃(n:Nat) (tk:Tok),e=((n:Int),.int n tk)/\n<128
def dM(w:τ)(h:π)(a:S)(ns:List Nat):Prop:=∃o es ep t,h.get? a=U o/\o.ExactSet/\o.data=.set es ep t/\oY t es.size/\t.led = !e8 w/\iC es.toList ns
theorem iC.hs{ns:List Nat}(h:iC l ns):HS l:=λe he=>by
 obtain⟨n,tk,rfl,hn⟩:=h.2 e he;exact⟨n,rfl,hn⟩
theorem iC.len{ns:List Nat}(h:iC l ns):l.length=ns.length:=by
 have:=h.1.length_eq;simpa using this
theorem iC.mem{ns:List Nat}(h:iC l ns)(n:Nat):n∈ns↔∃e∈l,e.1=(n:Int):=by
 constructor
 ·intro hn;have:_∈l.map (·.1):=h.1.mem_iff.mpr (K1.mpr ⟨n,hn,rfl⟩);obtain⟨e,he,q⟩:=K1.mp this;exact⟨e,he,q⟩
 ·rintro ⟨e,he,q⟩
  have:_∈ns.map _:=h.1.mem_iff.mp (K1.mpr ⟨e,he,q⟩);obtain⟨m,hm,r⟩:=K1.mp this;have:m=n:=∅
  exact this▸hm
theorem iC.perm{l':List (Int×L)}{ns:List Nat}(h:iC l ns)(p:l'.Perm l):iC l' ns:=⟨(p.map _).trans h.1,λe he=>h.2 e (p.mem_iff.mp he)⟩
theorem iC.push{ns:List Nat}(h:iC l ns){m:Nat}(hm:m<128)(tk:Tok):iC (l++[((m:Int),.int m tk)]) (ns++[m]):=by
 refine⟨?_,λe he=>?_⟩
 ·rw[QO,QO];exact h.1.append_right _
 ·rcases PY.mp he with he|he
  ·exact h.2 e he
  ·rw[Pa]at he;exact⟨m,tk,he,hm⟩
section
variable {prog:ν}{w:τ}{A:χ}{E:L->Ψ->Prop}{s:Ψ}
theorem iC.els{ns:List Nat}(h:iC l ns):ElemsOf (intKind prog w) l:=λe he=>by
 obtain⟨n,tk,rfl,hn⟩:=h.2 e he;exact⟨⟨n,by simp[intKind,Value.isInt],(za hn).symm⟩,rfl⟩
theorem xX{h:π}(ho:h.get? a=U o)(hd:o.data=.set es ep t):
  (h.update a (Obj.putSet es' t')).get? a=U {o with data:=.set es' (ep+1) t'}:=by
 have:=SQ (Obj.putSet es' t') ho (by rw[putSet_of es' t' hd];rfl)
 rwa[putSet_of es' t' hd]at this
theorem HX{ns:List Nat}{Q:Bool->Ψ->Prop}(hm:m<128)(hS:dM w s.heap a ns)(hn:ns.length<64)(h:∀b h',R6 a s.heap h'->dM w h' a (gh ns m)->Q b {s with heap:=h'}):wpAny (model prog w) A (setAddHashed a (.int m tk) (hashInt m)) Q E s:=by
 obtain⟨o,es,ep,t,ho,hex,hd,hI,hl,hs⟩:=hS;have hsz:es.size=ns.length:=by rw[<-PC];exact hs.len
 have hel:ElemsOf (intKind prog w) es.toList:=hs.els;have hkey:(intKind prog w).is (m:Int) (.int m tk)=J:=by simp[intKind,Value.isInt]
 refine Pq (Rc (QE ho hd hI.fits ?_));dsimp only;rw[byScan_of rfl (by unfold scanBound;omega) hel]
 simp only[↓reduceIte];refine Rc (Rc (Qz (Rc (wpAny_setScan_of hkey ho hd hI.fits hel ?_))));have hfind:∀e∈es.toList,(intKind prog w).is (m:Int) e.2=J->e.1=(m:Int):=λe he q=>by
  obtain⟨n,tk',rfl,_⟩:=hs.2 e he;obtain⟨t',q⟩:=RK (show Value.isInt (m:Int) (.int (n:Int) tk')=J from q)
  injection q
 cases hr:es.toList.findIdx? (λe=>(intKind prog w).is (m:Int) e.2)with
 |some j =>
  dsimp only;obtain⟨hj,Zl,_⟩:=List.findIdx?_eq_some_iff_getElem.mp hr;have hmem:m∈ns:=(hs.mem m).mpr ⟨_,PX hj,hfind _ (PX hj) Zl⟩;refine dD (dD ?_);exact h Δ s.heap (Heap.SameBut.refl a s.heap) (by unfold gh;rw[if_pos hmem];exact⟨o,es,ep,t,ho,hex,hd,hI,hl,hs⟩)
 |none =>
  dsimp only;have hmem:m∉ns:=λhq=>by
   obtain⟨e,he,q⟩:=(hs.mem m).mp hq;have:=List.findIdx?_eq_none_iff.mp hr e he;obtain⟨n,tk',rfl,_⟩:=hs.2 e he;have e:n=m:=by dsimp only at q;omega
   subst e;simp[intKind,Value.isInt]at this
  have hst:gh ns m=ns++[m]:=by unfold gh;rw[if_neg hmem]
  rw[hst]at h;rw[za hm];have r9:=layNew_perm t es (m:Int) (.int m tk);obtain⟨es1,t1,e1,q1,q2,q3,q4,q5,q6,q7,q8,q9⟩:=XA hI hm ∅
  rw[e1]at r9 ⊢;dsimp only at r9 ⊢;rw[T9]at r9;have hs1:=(hs.push hm tk).perm r9;refine Rc (dD ?_);rw[q3];refine Rc ?_;rw[VU 8 rfl];refine dD ?_;dsimp only[plainKind];simp;refine Rc (Ss ho hd ?_ (fits_of_scanBound (by unfold scanBound;omega)))
  have kF:=xX (es':=es1) (t':=t1) ho hd;have f6:=Ql s.heap a (Obj.putSet es1 t1);have hcs:=aaz hI q8 (q4.trans q1) q7 ∅
  cases hf:t1.tooFull with
  |false =>
   simp only[SI,UY,Py,↓reduceIte];refine dD (dD (h J _ f6 ⟨_,es1,ep+1,t1,kF,hex,rfl,⟨q4,q5,q6,q7,?_,q3⟩,q2.trans hl,hs1⟩));rw[q1];exact hcs.2 hf
  |true =>
   simp only[SI,Bool.and_self,↓reduceIte];have hp2:=relayAll_perm t1 es1 (SetTable.grown es1.size);obtain⟨kK,t2,e2,r1,r2,r3⟩:=ahL q3 hs1.hs (by rw[q1];exact hcs.1 hf)
   rw[e2]at hp2 ⊢;dsimp only at hp2 ⊢;refine Rc (dD ?_);refine Rc (Ss kF rfl ?_ (fits_of_scanBound (by unfold scanBound;omega)))
   exact dD (dD (h J _ (f6.trans (Ql _ a _)) ⟨_,kK,ep+1+1,t2,xX kF rfl,hex,rfl,r2,r3.trans (q2.trans hl),hs1.perm hp2⟩))
end
def fT(xs:List Nat):List Nat:=xs.foldl gh []
theorem aaI{xs:List Nat}(h:i<xs.length):fT (xs.take (i+1))=gh (fT (xs.take i)) xs[i]:=by
 unfold fT;rw[So h,Sn];rfl
theorem Nc:∀(xs ns:List Nat),ns.length<=(xs.foldl gh ns).length
 |[],ns=>AP _
 |x::xs,ns=>by
  have:=Nc xs (gh ns x);have h:ns.length<=(gh ns x).length:=by unfold gh;split<;>simp
  rw[RB];omega
theorem aaJ(xs:List Nat)(i:Nat):(fT (xs.take i)).length<=(fT xs).length:=by
 have:fT xs=(xs.drop i).foldl gh (fT (xs.take i)):=by
  unfold fT;rw[<-Sn,RT]
 rw[this];exact Nc _ _
theorem dM.at{h':π}{ns:List Nat}(x:dM w h a ns)(k:∀o,h.get? a=U o->h'.get? a=U o):dM w h' a ns :=
 let⟨o,es,ep,t,ho,r⟩:=x;⟨o,es,ep,t,k o ho,r⟩
section
variable {prog:ν}{w:τ}{A:χ}{s:Ψ}{E:L->Ψ->Prop}
theorem HW{R:Result->Ψ->Prop}{wr:List S}{G:Array S0->Array S0->Prop}{P:Nat->L->Prop}{St:Nat->Ψ->Prop}{xs:List Nat}(W:WalksS prog w A.in1 I fp wr G xs.length P St)(Θ:S)(hSf:Θ∉fp)(hval:∀(i:Nat) v,(hi:i<xs.length)->P i v->∃t,v=Value.int (xs[i]:Nat) t)(hx:∀x∈xs,x<128)(h64:(fT xs).length<64):
  ∀(k i:Nat) (s:Ψ),xs.length-i=k->i<=xs.length->St i s->dM w s.heap Θ (fT (xs.take i)) ->
   (∀s',Moved (Θ::wr) G s s'->dM w s'.heap Θ (fT xs)->R (.ok (.ret .none)) s') ->
   codeAny (model prog w) A (.builtin "set.update.loop" ⟨[.ref Θ,.ref I],[]⟩) R s:=by
 have zf:=λh=>hSf (W.sub _ h)
 have hup:∀b∈wr,b∈Θ::wr:=λb hb=>.tail _ hb
 intro k
 induction k with
 |zero =>
  intro i s hk hi st hS hR;cases(show i=xs.length by omega)
  refine Qs Sm ?_;refine Rc (W.done s _ _ st λs' hm=>?_)
  rw[Q3]at hS;exact dD (hR s' (hm.mono hup) (hS.at λo e=>hm.heap Θ _ zf e))
 |succ k ih =>
  intro i s hk hi st hS hR;have hlt:i<xs.length:=∅
  refine Qs Sm ?_;rw[Sl SH _];refine Rc (W.item i s _ _ hlt st λv s' hP st' hm=>?_)
  obtain⟨t,rfl⟩:=hval i v hlt hP;refine Rc (Pq ?_);unfold setAdd;refine Pq (Rc ((intKind prog w).pyHash (k:=(xs[i]:Nat)) (by simp[intKind,Value.isInt]) ?_))
  refine HX (s:={s' with toks:=s'.toks+1}) (hx _ (PX hlt)) (hS.at λo e=>hm.heap Θ _ zf e) (SN (aaJ xs i) h64) λb h' f6 jo=>?_
  rw[<-aaI hlt]at jo;refine dD ⟨UC SH _,ih (i+1) _ ∅ hlt (W.frame _ s' _ _ st' (RA _) λb hb o e=>?_) jo λs'' DL DZ=>?_⟩
  ·rw[f6.2 b (λq:b=Θ=>hSf (q▸hb))];exact e
  ·refine hR s'' (Moved.trans W.gtrans ((hm.mono hup).then_heap (RA _) λb o hb e=>?_) DL) DZ
   rw[f6.2 b (λq:b=Θ=>hb (q▸.head _))];exact e
def cD(w:τ):Obj:={cls:=.type "set",dict:=O,data:=.set #[] 0 (.fresh 0 0 (!e8 w))}
theorem Ey(w:τ){h:π}(e:h.get? a=U (cD w)):dM w h a [] :=
 ⟨_,#[],0,_,e,⟨rfl,rfl,rfl⟩,rfl,agH _,rfl,.refl _,λe he=>by cases he⟩
theorem BJ(a:L){Q₁:L->Ψ->Prop}(h:Q₁ (.ref s.heap.objs.size) {s with heap:=s.heap.push (cD w)}) :
  codeAny (model prog w) A (.call (.builtin "set.__new__") ⟨[.type "set",a],[]⟩) (wants Q₁ E) s:=by
 refine Sk (show wpAny _ A.in1 _ _ _ s from ?_)
 refine Rc (Rt (PySem.F.newCall_set_1 a) (dD ⟨UC VT _,Qs PySem.F.entry_set_new ?_⟩));rw[Sl VT _];unfold Builtin.«set.__new__» Builtin.Frozenset.newClass;have hsub:=SG;obtain⟨hp,g,d,tk,os⟩:=s;dsimp only;wp_walk;refine Qi (dD ?_);dsimp only;simp only[newObj];exact Rc (wpAny_alloc (dD (dD h)))
set_option maxHeartbeats 3200000 in
theorem ag3{l:S}{items:Array L}{xs:List Nat}{Q:L->Ψ->Prop}(hh:A.handled=O)(hl:s.heap.IsList l items)(hi:QK items.toList (xs.map λn:Nat=>(n:Int)))(hx:∀x∈xs,x<128)(h64:(fT xs).length<64)
  (h:∀(h':π) (tk:Nat),dM w h' s.heap.objs.size (fT xs)->(∀b o,b<s.heap.objs.size->s.heap.get? b=U o->h'.get? b=U o)->Q (.ref s.heap.objs.size) {s with heap:=h',toks:=tk}) :
  wpAny (model prog w) A (call (.type "set") [.ref l]) Q E s:=by
 obtain⟨c,tl,Mr⟩:=PD.mro;have hmade:=PD.made;have hsub:=PD.sub;refine Ry (Sk (show wpAny _ _ (callAny (.type "set") _) _ _ _ from ?_))
 refine dD ⟨UB _ (by decide +kernel),Qs Uo ?_⟩
 rw[Um (Ul "set" [.ref l] []) rfl];have h1:=PD.notType;have h2:=PD.canCreate;have hct:=Uk (.ref l)
 repeat any_goals (first|assumption|wp_step)
 refine QW (BJ (.ref l) (E:=E) (Q₁:=λobj s₁=>obj=.ref s.heap.objs.size/\s₁={s with heap:=s.heap.push (cD w)}) ⟨rfl,rfl⟩) λr s₁ hr=>?_
 cases r with
 |error e=>exact hr
 |ok fl =>
  cases fl with
  |ret obj =>
   obtain⟨rfl,rfl⟩:=hr;have hS:(s.heap.push (cD w)).get? s.heap.objs.size=U (cD w):=O5 _ rfl;have hT:TX {s with heap:=s.heap.push (cD w)} (.ref s.heap.objs.size) "set":=⟨_,hS,rfl⟩
   have hli:=PD.init.lookup;have hbi:=PD.init.bind (.ref s.heap.objs.size)
   repeat any_goals (first|assumption|wp_step)
   refine QW (Uj (R:=wants (λr s₂=>r=.none/\∃h' tk,s₂={s with heap:=h',toks:=tk}/\dM w h' s.heap.objs.size (fT xs) /\
     (∀b o,b<s.heap.objs.size->s.heap.get? b=U o->h'.get? b=U o)) E) PD.init.plain Ui (Uh hT ?_)) λr₂ s₂ kE=>?_
   ·obtain⟨ol,gY,hcl,nl,hdl⟩:=hl;obtain⟨J8,uz,J5,uw⟩:=ol;simp only at hcl hdl;subst hcl;subst hdl;have oB:(s.heap.push (cD w)).get? l=U {cls:=.type "list",dict:=uz,data:=.seq items nl,slots:=uw}:=H8 _ gY;have Mg:=VS;have Mh:=VR;have hne:(Value.type "list"==Value.type "dict")=Δ:=⋯
    have hl1:(s.heap.push (cD w)).IsList l items:=⟨_,oB,rfl,nl,rfl⟩;unfold cD at hS hT oB ⊢;unfold Builtin.«set.__init__» noKeywords Builtin.Frozenset.updateFrom
    generalize vh:pyIter=PI
    wp_walk
    subst vh;refine RH hl1 (Rc (Ug ?_));have hlS:l<s.heap.objs.size:=Iv gY;have hlen:items.size=xs.length:=by have:=hi.length;simpa using this
    have u7:l≠(s.heap.push (cD w)).objs.size:=by rw[P9];exact O0 (Q0 hlS)
    have hSf:s.heap.objs.size∉[(s.heap.push (cD w)).objs.size,l]:=by
     rw[P9];simp only[Bt,O7,or_false,not_or];exact⟨O0 (QD _),Pp hlS⟩
    have W:=(Rq (prog:=prog) (w:=w) (A:=A.in1.in1.in1) (by simp[hh]) (s.heap.push (cD w)).objs.size l u7 items).toS
    rw[hlen]at W;refine HW (xs:=xs) W s.heap.objs.size hSf (λi v hi' hv=>?_) hx h64 xs.length 0 _ ∅ (Pd _) ⟨⟨_,O5 _ rfl,rfl,rfl⟩,hl1.push _⟩ (Ey w (H8 _ hS)) λs' hm hS'=>?_
    ·obtain⟨t,e⟩:=IntsAre.int_at hi i v (by rw[Q6];exact hv)
     exact⟨t,by rw[e];simp[I8,O1 hi']⟩
    ·obtain⟨h',g',d',tk',os'⟩:=s';cases(show g'=s.gens from hm.gens)
     cases(show d'=s.drawn from hm.drawn)
     cases(show os'=s.os from hm.os)
     refine dD (dD ⟨rfl,h',tk',rfl,hS',λb o hb e=>?_⟩)
     exact hm.heap b o (by rw[P9];simp only[Bt,O7,or_false,not_or];exact⟨O0 hb,O0 (Q0 hb)⟩) (H8 _ (H8 _ e))
   ·cases r₂ with
    |error e=>exact kE
    |ok vp =>
     cases vp with
     |ret r =>
      obtain⟨rfl,h',tk,rfl,hS',hk'⟩:=kE
      repeat any_goals (first|assumption|wp_step)
      exact h _ _ hS' hk'
     |_=>exact kE.elim
  |_=>exact hr.elim
end
section
variable {X:Cx}{pins:List (S×Obj)}{Z:St}{H:Hp}{s:Ψ}{a:S}{y v:V}{u r:L}{o:Option V}{A:χ}{E:L->Ψ->Prop}
theorem abH(I:Inv X pins Z H s)(mu:wA (H a))(hs:R6 a s.heap h')(he:∃q,h'.get? a=U q)(new:e9 X.prog X.w (upd H a ob) h' a ob):
  Inv X pins Z (upd H a ob) {s with heap:=h',toks:=t'} :=
 I.write mu (.inl rfl) (λb q hb z=>(hs.2 b hb).trans z) he new
end
def hT(ks:List Int):Int:=reduceHash (Builtin.Tuple.tupleHashOf (ks.map hashInt))
def hP(n:Nat):Int:=hT [((n/8:Nat):Int),((n % 8:Nat):Int)]
def lp(m:Nat)(p:Nat×Nat):Nat×Nat:=((p.1*5+1+p.2/32) % (m+1),p.2/32)
def gn(m:Nat):Nat->Nat×Nat->Nat×Nat
 |0,p=>p
 |n+1,p=>gn m n (lp m p)
theorem C4(m:Nat):∀(a b:Nat) (p:Nat×Nat),gn m (a+b) p=gn m b (gn m a p)
 |0,b,p=>by rw[O9];rfl
 |a+1,b,p=>by
  rw[show a+1+b=(a+b)+1 by omega]
  exact C4 m a b _
theorem K4(m:Nat):∀(n:Nat) (p:Nat×Nat),(gn m n p).2=p.2/32^n
 |0,p=>by simp[gn]
 |n+1,p=>by
  show(gn m n _).2=_;rw[K4 m n];show p.2/32/32^n=_;rw[Nat.div_div_eq_div_mul,Ue,Nat.mul_comm]
theorem Xm(m:Nat)(hn:0<n)(p:Nat×Nat):(gn m n p).1<=m:=by
 cases n with
 |zero=>omega
 |succ n =>
  rw[C4 m n 1];have:(((gn m n p).1*5+1+(gn m n p).2/32) % _)<m+1:=Rk _ ∅
  show _ % _<=m;omega
theorem K3(m:Nat):∀(n i q:Nat),∃K,K<=10*n/\dW m K (lg m i q)=lg m (gn m n (i,q)).1 (gn m n (i,q)).2
 |0,i,q=>⟨0,∅,rfl⟩
 |n+1,i,q=>by
  obtain⟨K,hK,e⟩:=K3 m n _ _;have h9:=IZ m i;refine⟨SetTable.runEnd m i-i+1+K,∅,?_⟩
  rw[mT,C8,e];rfl
def Cn(m:Nat):Nat->Nat->Nat->Nat
 |0,_,acc=>acc
 |n+1,i,acc=>Cn m n ((i*5+1) % (m+1)) (acc |||(1 <<< i))
theorem JL(m:Nat):∀(n i acc s:Nat),(Cn m n i acc).testBit s=J->acc.testBit s=J\/∃t,t<n/\(gn m t (i,0)).1=s
 |0,i,acc,s,h=>.inl h
 |n+1,i,acc,s,h=>by
  rcases JL m n _ _ s h with h|⟨t,ht,e⟩
  ·rw[vU]at h
   rcases R0 _ _▸h with h|h
   ·exact .inl h
   ·exact .inr ⟨0,∅,(of_decide_eq_true h).symm⟩
  ·refine .inr ⟨t+1,∅,?_⟩
   show(gn m t _).1=s;rw[<-e];have:lp m (i,0)=((i*5+1) % (m+1),0):=by simp[lp]
   rw[this]
def yd(m:Nat):Bool:=(θ (m+1)).all λi=>Nat.beq (Cn m (m+1) i 0) (2^(m+1)-1)
theorem aiI:yd 7=J:=by decide +kernel
theorem aiH:yd 31=J:=by decide +kernel
theorem aiG:yd 127=J:=by decide +kernel
theorem aiJ(h:lB m)(hi:i<=m)(hs:s<=m):∃t,t<m+1/\(gn m t (i,0)).1=s:=by
 have ha:yd m=J:=by
  rcases h with rfl|rfl|rfl
  ·exact aiI
  ·exact aiH
  ·exact aiG
 have:=Ph.mp ha i (dg.mpr ∅)
 rcases JL m _ i 0 s (by rw[(W7 this),Qu];exact decide_eq_true ∅)with h|h
 ·simp at h
 ·exact h
theorem acL(h:Int):SetTable.bits h<2^64:=by
 unfold SetTable.bits;omega
theorem OG(hm:lB m)(h:Int)(hs:s<=m):∃t,t<m+15/\(gn m t (SetTable.bits h % (m+1),SetTable.bits h)).1=s:=by
 have h13:(gn m 13 (SetTable.bits h % (m+1),SetTable.bits h)).2=0:=by
  rw[K4];exact Nat.div_eq_of_lt (by show SetTable.bits h<32^13;exact O4 (acL h) ⋯)
 obtain⟨t,ht,e⟩:=aiJ hm (Xm m (n:=13) ⋯ _) hs
 refine⟨13+t,∅,?_⟩
 rw[C4,<-e,<-h13]
theorem OF(hm:lB m)(h:Int)(hs:s<=m):∃k,k<10*(m+15)/\cE m h k=s:=by
 obtain⟨t,ht,e⟩:=OG hm h hs;obtain⟨K,hK,eK⟩:=K3 m t (SetTable.bits h % (m+1)) (SetTable.bits h);refine⟨K,∅,?_⟩
 unfold cE j3;rw[eK];exact e
theorem MZ(ha:a<2^(m+1))(h:∀s,s<=m->a.testBit s=J):a=2^(m+1)-1:=by
 apply Nat.eq_of_testBit_eq;intro s;rw[Qu]
 by_cases q:s<m+1
 ·rw[h s ∅,decide_eq_true q]
 ·rw[decide_eq_false q];exact Nat.testBit_lt_two_pow (O4 ha (Ud ⋯ ∅))
theorem JN(ha:a<2^m)(hb:b<2^m):a |||b<2^m:=Nat.or_lt_two_pow ha hb
theorem agO(h:j<=m):1 <<< j<2^(m+1):=by
 rw[Vd];exact Nat.pow_lt_pow_right ⋯ ∅
theorem NT:∀(n:Nat) (p:Pb) (acc:Nat),1<=n->p.j+p.more<=m->acc<2^(m+1)->(∀s,s<=m->acc.testBit s=Δ->∃k,k<n/\(dW m k p).j=s)->ja m n p.j p.more p.i p.perturb acc=J
 |0,_,_,h,_,_,_=>∅
 |n+1,p,acc,_,hp,ha,hh=>by
  have ha':acc |||(1 <<< p.j)<2^(m+1):=JN ha (agO ∅)
  unfold ja
  by_cases e:acc |||(1 <<< p.j)=2^(m+1)-1
  ·rw[if_pos e]
  ·rw[if_neg e];have hx:∃s,s<=m/\(acc |||(1 <<< p.j)).testBit s=Δ:=Q5 λq=>e (MZ ha' λs hs=>by
    cases hb:(acc |||(1 <<< p.j)).testBit s with
    |true=>rfl
    |false=>exact absurd ⟨s,hs,hb⟩ q)
   have key:∀s,s<=m->(acc |||(1 <<< p.j)).testBit s=Δ->∃k,k<n/\(dW m k (iB m p)).j=s:=λs hs hb=>by
    rw[vU]at hb;have hb':=W6.mp hb;obtain⟨k,hk,ek⟩:=hh s hs hb'.1;cases k with
    |zero =>
     have:s=p.j:=ek.symm;have h2:=hb'.2;rw[this]at h2;simp at h2
    |succ k=>exact⟨k,∅,ek⟩
   obtain⟨s0,hs0,hb0⟩:=hx;obtain⟨k0,hk0,_⟩:=key s0 hs0 hb0;have ih:=NT n (iB m p) (acc |||(1 <<< p.j)) ∅ (OH hp) ha' key
   unfold iB at ih
   by_cases hm:p.more>0
   ·rw[if_pos hm]at ih ⊢;exact ih
   ·rw[if_neg hm]at ih ⊢;exact ih
theorem aip(m i:Nat):((2^(SetTable.runEnd m i+1-i)-1) <<< i).testBit i=J:=by
 have:=BY m i;rw[Vc,Qu];simp;omega
theorem aak(hi:i<=m):(2^(SetTable.runEnd m i+1-i)-1) <<< i<2^(m+1):=by
 have hr:SetTable.runEnd m i<=m:=by unfold SetTable.runEnd;split<;>omega
 have hg:=BY m i;rw[Nat.shiftLeft_eq];have h1:(2^(SetTable.runEnd m i+1-i)-1)*2^i<2^(SetTable.runEnd m i+1-i)*2^i:=Nat.mul_lt_mul_of_pos_right (Nat.sub_lt (Sj _) ⋯) (Sj i)
 rw[<-Nat.pow_add]at h1;exact O4 h1 (Ud ⋯ ∅)
theorem NU:∀(n i q acc:Nat),1<=n->i<=m->acc<2^(m+1)->(∀s,s<=m->acc.testBit s=Δ->∃t,t<n/\(gn m t (i,q)).1=s)->m8 m n i q acc=J
 |0,_,_,_,h,_,_,_=>∅
 |n+1,i,q,acc,_,hi,ha,hh=>by
  have ha':=JN ha (aak hi);unfold m8
  by_cases e:acc |||((2^(SetTable.runEnd m i+1-i)-1) <<< i)=2^(m+1)-1
  ·rw[if_pos e]
  ·rw[if_neg e];have hx:∃s,s<=m/\(acc |||_).testBit s=Δ:=Q5 λq=>e (MZ ha' λs hs=>by
    cases hb:(acc |||_).testBit s with
    |true=>rfl
    |false=>exact absurd ⟨s,hs,hb⟩ q)
   have key:∀s,s<=m->(acc |||((2^(SetTable.runEnd m i+1-i)-1) <<< i)).testBit s=Δ->∃t,t<n/\(gn m t _).1=s:=λs hs hb=>by
    rw[UK]at hb;have hb':=W6.mp hb;obtain⟨k,hk,ek⟩:=hh s hs hb'.1;cases k with
    |zero =>
     have:s=i:=ek.symm;have h2:=hb'.2;rw[this,aip]at h2;cases h2
    |succ k=>exact⟨k,∅,ek⟩
   obtain⟨s0,hs0,hb0⟩:=hx;obtain⟨k0,hk0,_⟩:=key s0 hs0 hb0;exact NU n _ _ _ ∅ (by have:=Rk (i*5+1+q/32) (show 0<m+1 by omega);omega) ha' key
theorem abX(h:Int):qA h where
 go:=λm hm=>NT (10*(m+15)) (j3 m h) 0 ∅ (HK m h) (Sj _) λs hs _=>OF hm h hs
 lay:=λm hm=>by
  have hm':lB m:=hm.elim (λe=>.inr (.inl e)) λe=>.inr (.inr e)
  exact NU (m+15) _ _ 0 ∅ (by have:=Rk (SetTable.bits h) (show 0<m+1 by omega);omega) (Sj _) λs hs _=>OG hm' h hs
abbrev Lk:=Int×List Int
def cB(P:ν)(w:τ)(Y:S->Prop)(h:π)(k:Lk)(x:S):Prop:=∃o n t y,Y x/\Y y/\h.get? x=U o/\o.cls=.type "tuple"/\o.data=.seq #[.int k.1 t,.ref y] n/\Qh (intKind P w) h k.2 y
def hL(k:Lk):Int:=reduceHash (Builtin.Tuple.tupleHashOf [hashInt k.1,hT k.2])
section
variable {prog:ν}{w:τ}{A:χ}{E:L->Ψ->Prop}{s:Ψ}{Y:S->Prop}
theorem ac4.at{h':π}(x:Qh (intKind prog w) h k y)(e:∀o,h.get? y=U o->h'.get? y=U o):Qh (intKind prog w) h' k y :=
 let⟨o,it,n,h1,r⟩:=x;⟨o,it,n,e o h1,r⟩
theorem cB.at{h':π}(z:cB prog w Y h k x)(e:∀b,Y b->∀o,h.get? b=U o->h'.get? b=U o):cB prog w Y h' k x :=
 let⟨o,n,t,y,y1,y2,h1,h2,h3,h4⟩:=z
 ⟨o,n,t,y,y1,y2,e x y1 o h1,h2,h3,ac4.at h4 (e y y2)⟩
theorem cB.typeIs(z:cB prog w Y s.heap k x):s.TypeIs (.ref x) "tuple":=let⟨o,_,_,_,_,_,h1,h2,_⟩:=z;⟨o,h1,h2⟩
theorem cB.inj(a:cB prog w Y h k x)(b:cB prog w Y h k' x):k=k':=by
 obtain⟨o,n,t,y,_,_,h1,_,h3,h4⟩:=a;obtain⟨o',n',t',y',_,_,g1,_,g3,g4⟩:=b;rw[h1]at g1;cases g1;rw[h3]at g3
 injection g3 with e _
 simp at e;obtain⟨⟨e1,_⟩,e2⟩:=e;subst e2;exact Prod.ext e1 (h4.inj g4)
theorem ints_of(h:ItemsAre (intKind prog w) ks vs):∀v∈vs,∃i t,v=.int i t:=by
 induction h with
 |nil=>intro v hv;cases hv
 |cons q _ ih =>
  intro v hv
  rcases Bt.mp hv with rfl|hv
  ·obtain⟨t,e⟩:=RK q;exact⟨_,t,e⟩
  ·exact ih v hv
theorem acF{Q:Bool->Ψ->Prop}(hx:Qh (intKind prog w) s.heap ks x)(h:Q J s):wpAny (model prog w) A (hashByValue (n+1) (.ref x)) Q E s:=by
 obtain⟨o,items,m,h1,h2,h3,h4⟩:=hx;refine Rc (Qa ⟨o,h1,h2⟩ QZ.lookup ?_);refine Rc (Q8 h1 h3 ?_);dsimp only[Option.getD];refine Rc ?_;rw[<-Rj];refine Si _ (λrest r s'=>r.1=O/\s'=s/\∀v∈rest,∃i t,v=.int i t) _ ?_ ?_ _ _ ⟨rfl,rfl,ints_of h4⟩
 ·rintro v rest r s' ⟨hr,rfl,hall⟩
  obtain⟨i,t,rfl⟩:=hall v Pu;simp only[VU n (x:=.int i t) rfl,plainKind];exact dD ⟨rfl,rfl,λu u6=>hall u (Pr _ u6)⟩
 ·rintro ⟨r1,r2⟩ s' ⟨hr,rfl,_⟩
  simp only at hr;subst hr;exact dD h
theorem acD{Q:Bool->Ψ->Prop}(hx:cB prog w Y s.heap k x)(h:Q J s):wpAny (model prog w) A (hashByValue 8 (.ref x)) Q E s:=by
 obtain⟨o,n,t,y,_,_,h1,h2,h3,h4⟩:=hx;refine Rc (Qa ⟨o,h1,h2⟩ QZ.lookup ?_);dsimp only;refine Rc (Q8 h1 h3 ?_);dsimp only[Option.getD];refine Rc ?_;rw[<-Rj];refine Rc (Rc (dD ?_));refine dD ?_;refine Rc (Rc (acF h4 ?_));refine dD ?_;exact dD (dD h)
theorem Wi{Q:Bool->Ψ->Prop}(hx:Qh (intKind prog w) s.heap ks x)(h:Q Δ s):wpAny (model prog w) A (ofAClassStatement (n+1) (.ref x)) Q E s:=by
 obtain⟨o,items,m,h1,h2,h3,h4⟩:=hx;rw[ofAClassStatement.eq_def];refine Rc (wpAny_typeOf_ref h1 ?_);rw[h2];simp only;refine Rc (dD ?_);simp only[Bool.not_true,Py,if_false];refine Rc (Q8 h1 h3 ?_);refine Rc ?_;rw[<-Rj];refine Si _ (λrest r s'=>r.1=O/\s'=s/\∀v∈rest,∃i t,v=.int i t) _ ?_ ?_ _ _ ⟨rfl,rfl,ints_of h4⟩
 ·rintro v rest r s' ⟨hr,rfl,hall⟩
  obtain⟨i,t,rfl⟩:=hall v Pu;have e1:ofAClassStatement n (.int i t)=pure Δ:=by rw[ofAClassStatement.eq_def]
  rw[e1];exact Rc (dD (dD ⟨rfl,rfl,λu u6=>hall u (Pr _ u6)⟩))
 ·rintro ⟨r1,r2⟩ s' ⟨hr,rfl,_⟩
  simp only at hr;subst hr;exact dD h
theorem Kh{Q:Bool->Ψ->Prop}(hx:cB prog w Y s.heap k x)(h:Q Δ s):wpAny (model prog w) A (ofAClassStatement 8 (.ref x)) Q E s:=by
 obtain⟨o,n,t,y,_,_,h1,h2,h3,h4⟩:=hx;rw[ofAClassStatement.eq_def];refine Rc (wpAny_typeOf_ref h1 ?_);rw[h2];refine Rc (dD ?_);refine Rc (Q8 h1 h3 ?_);refine Rc ?_;rw[<-Rj];have e1:ofAClassStatement 7 (.int k.1 t)=pure Δ:=by rw[ofAClassStatement.eq_def]
 refine Rc (Rc (dD ?_));refine dD ?_;exact Rc (Rc (Wi h4 (dD (dD (dD h)))))
theorem ahM{Q:Bool->Ψ->Prop}(hk:Qh (intKind prog w) s.heap ks a)(h:Q J s):wpAny (model prog w) A (eqIsQuiet (n+1) (.ref a)) Q E s:=by
 have hT:=hk.typeIs;obtain⟨o,items,m,ho,_,hd,hi⟩:=hk;unfold eqIsQuiet;refine Rc (Qa hT Sh.lookup ?_);refine Rc (Qc hT Sg ?_);refine Rc (Q8 ho hd ?_);refine Rc ?_;rw[<-Rj];refine Si _ (λrest r s'=>r.1=O/\s'=s/\∀v∈rest,carriedByValue v=J) _ ?_ ?_ _ _ ⟨rfl,rfl,hi.byValue⟩
 ·rintro v rest r s' ⟨hr,rfl,hall⟩
  rw[eqIsQuiet_byValue _ (hall v Pu)];exact dD ⟨rfl,rfl,λu u6=>hall u (Pr _ u6)⟩
 ·rintro ⟨r1,r2⟩ s' ⟨hr,rfl,_⟩
  subst hr;exact dD h
theorem B6{Q:Bool->Ψ->Prop}(hx:cB prog w Y s.heap k x)(h:Q J s):wpAny (model prog w) A (eqIsQuiet 8 (.ref x)) Q E s:=by
 have hT:=hx.typeIs;obtain⟨o,n,t,y,_,_,h1,h2,h3,h4⟩:=hx;unfold eqIsQuiet;refine Rc (Qa hT Sh.lookup ?_);refine Rc (Qc hT Sg ?_);refine Rc (Q8 h1 h3 ?_);refine Rc ?_;show wpAny _ _ (forIn #[Value.int k.1 t,Value.ref y] _ _) _ _ s;rw[<-Rj];refine Rc (Rc (dD ?_));refine dD ?_;dsimp only;refine Rc (Rc (ahM (n:=6) h4 ?_));refine dD ?_;exact dD (dD h)
theorem ZY{Q:Int->Ψ->Prop}(hu:A.units+8<O8)(hx:cB prog w Y s.heap k x)(h:∀tk,s.toks<=tk->Q (hL k) {s with toks:=tk}):wpAny (model prog w) A (pyHash (.ref x)) Q E s:=by
 have hTy:=hx.typeIs;obtain⟨o,n,t,y,_,_,h1,h2,h3,h4⟩:=hx
 first|unfold pyHashByItsType|skip
 first|refine Rc (wpAny_cRoomFor_or (.inr ∅) ?_)|skip
 refine Rc (Qa hTy QZ.lookup ?_);show wpAny _ _ (if(U (Value.builtin "tuple.__hash__")==U Value.none)=J then _ else _) Q E s
 rw[if_neg (by rw[beq_builtin_none];exact PM)]
 refine Rc (Qa hTy QZ.lookup ?_);show wpAny _ _ _ Q E s;refine Rc (W0 hTy QZ (Q9 QZ hTy F.entry_tuple_hash ?_ (F.args_tuple_hash_1 _)));show wpAny _ _ (Builtin.Tuple.tupleItemsOf (.ref x) >>= _) _ _ s;refine Rc (Ri h1 h3 ?_);refine Rc ?_;refine Rc (Rc ((intKind prog w).pyHash (k:=k.1) (by simp[intKind,Value.isInt]) ?_))
 first
  |refine dD ?_
  |refine Rc _
 refine Rc (Rc ((tupleKind (intKind prog w)).pyHash (k:=k.2) (by show A.units+1<O8;omega) h4 ?_))
 first
  |refine dD ?_
  |refine Rc (dD (dD ?_))
 refine dD ?_;show wpAny _ _ (retInt (Builtin.Tuple.tupleHashOf [hashInt k.1,L2.hT k.2])) _ _ _;refine wpAny_ret_mkInt ?_;show wpAny _ _ (if(decide (-(2:Int)^63<=Builtin.Tuple.tupleHashOf [hashInt k.1,L2.hT k.2])&&decide _)=J then _ else _) Q E _
 unfold hL reduceHash at h
 by_cases hr:(decide (-(2:Int)^63<=Builtin.Tuple.tupleHashOf [hashInt k.1,L2.hT k.2])&&decide (Builtin.Tuple.tupleHashOf [hashInt k.1,L2.hT k.2]<2^63))=J
 ·rw[if_pos hr];rw[if_pos hr]at h;exact dD (h _ (by simp;omega))
 ·rw[if_neg hr];rw[if_neg hr]at h;exact Rc (Qz (dD (h _ (by simp;omega))))
theorem abr{P:Uq->Ψ->Prop}(hu:A.units+4<O8)(hx:cB prog w Y s.heap j a)(hy:cB prog w Y s.heap k b)(h:P (.done (.ret (.bool (decide (j=k))))) s):
  wpAny (model prog w) A (Builtin.«tuple.__eq__» ⟨[.ref a,.ref b],[]⟩) P E s:=by
 have hTb:=hy.typeIs;obtain⟨o,n,t,y,_,_,h1,h2,h3,h4⟩:=hx;obtain⟨o',n',t',y',_,_,g1,g2,g3,g4⟩:=hy;show wpAny _ _ (isInstance _ _ >>= _) _ _ s;refine Rc (Qc hTb Sg ?_);refine Rc (Ri h1 h3 ?_);refine Rc (Ri g1 g3 ?_);refine Rc ?_;refine Rc (Rc ((intKind prog w).eqBool (a:=j.1) (b:=k.1) (by simp[intKind,Value.isInt]) (by simp[intKind,Value.isInt]) ?_))
 by_cases e1:j.1=k.1
 ·rw[decide_eq_true e1];refine dD ?_;refine Rc (Rc ((tupleKind _).eqBool (by show A.units<O8;omega) h4 g4 ?_))
  by_cases e2:j.2=k.2
  ·rw[decide_eq_true e2];refine dD (dD ?_);rw[decide_eq_true (Prod.ext e1 e2)]at h;exact dD h
  ·rw[decide_eq_false e2];rw[decide_eq_false (λz=>e2 (by rw[z]))]at h
   exact Rc (dD (dD (dD (dD h))))
 ·rw[decide_eq_false e1];rw[decide_eq_false (λz=>e1 (by rw[z]))]at h
  exact Rc (dD (dD (dD (dD h))))
theorem Es{Q:Bool->Ψ->Prop}(hu:A.units+8<O8)(hx:cB prog w Y s.heap j a)(hy:cB prog w Y s.heap k b)(h:Q (decide (j=k)) s):wpAny (model prog w) A (eqBool (.ref a) (.ref b)) Q E s:=by
 unfold eqBool
 try with_reducible refine Pq ?_
 show wpAny _ _ (if(Value.ref a==Value.ref b)=J then _ else _) Q E s
 by_cases hab:(Value.ref a==Value.ref b)=J
 ·rw[if_pos hab];have e:a=b:=by have:=eq_of_beq hab;injection this
  subst e;obtain rfl:=hx.inj hy;exact Rc (Qz (dD (by simpa using h)))
 ·rw[if_neg hab];exact Rc (Vz (op:=.Eq) hx.typeIs hy.typeIs Sh
   (Q9 Sh hx.typeIs F.entry_tuple_eq (abr (by show A.units+1+4<O8;omega) hx hy ⟨_,rfl,(λe=>nomatch e),RJ h⟩) (F.args_tuple_eq_2 _ _)) ∅)
end
theorem Jz{α β:Type}{f:α->β}:∀{l:List β}{r:List α},l.Perm (r.map f)->∃l2:List α,l=l2.map f/\l2.Perm r:=by
 intro l r h
 generalize hm:r.map f=m at h
 induction h generalizing r with
 |nil =>
  cases r with
  |nil=>exact⟨[],rfl,.refl _⟩
  |cons a r=>cases hm
 |cons x _ ih =>
  cases r with
  |nil=>cases hm
  |cons a r =>
   injection hm with h1 h2
   obtain⟨l2,e,p⟩:=ih h2;exact⟨a::l2,by rw[O6,h1,e],p.cons a⟩
 |swap x y l =>
  cases r with
  |nil=>cases hm
  |cons a r =>
   cases r with
   |nil=>simp at hm
   |cons b r =>
    injection hm with h1 h2
    injection h2 with h3 h4
    exact⟨b::a::r,by simp only[O6];rw[h1,h3,h4],.swap a b r⟩
 |trans _ _ ih1 ih2 =>
  obtain⟨l2,e,p⟩:=ih2 hm;obtain⟨l3,e3,p3⟩:=ih1 e.symm;exact⟨l3,e3,p3.trans p⟩
def fF(ks:List Lk)(k:Lk):List Lk:=if k∈ks then ks else ks++[k]
abbrev lR(f:Lk->Int)(q:Lk×S):Int×L:=(f q.1,.ref q.2)
def jv(P:ν)(w:τ)(f:Lk->Int)(Y:S->Prop)(h:π)(a:S)(ks:List Lk):Prop:=∃o es ep t,∃ξ:List (Lk×S),h.get? a=U o/\o.ExactSet/\o.data=.set es ep t/\kQ t es/\t.plain=J/\t.led = !e8 w/\es.toList=ξ.map (lR f)/\(∀q∈ξ,cB P w Y h q.1 q.2)/\(ξ.map (·.1)).Perm ks
section
variable {prog:ν}{w:τ}{A:χ}{E:L->Ψ->Prop}{s:Ψ}{Y:S->Prop}
theorem Wf{Q:Bool->Ψ->Prop}(hx:cB prog w Y s.heap ks x)(l:List L)(hl:∀v∈l,∃k y,v=.ref y/\cB prog w Y s.heap k y)(h:Q Δ s):wpAny (model prog w) A (searchCouldBeSeen (.ref x) l) Q E s:=by
 refine Rc ?_;have go:∀(l:List L),(∀v∈l,∃k y,v=.ref y/\cB prog w Y s.heap k y)->∀{R:Option Bool×Unit->Ψ->Prop},R (O,()) s->wpAny (model prog w) A (forIn l (O,()) λy __s =>
    have afE :=
     match(Value.ref x),y with
     |Value.ref a,Value.ref b=>a==b
     |x,x_1=>Δ;
    if(afE||carriedByValue (.ref x)&&carriedByValue y)=J then pure (ForInStep.yield (O,()))
    else do
     let __do_lift <-eqIsQuiet 8 (.ref x)
     if(!__do_lift)=J then pure (ForInStep.done (U J,()))
      else do
       let __do_lift <-eqIsQuiet 8 y
       if(!__do_lift)=J then pure (ForInStep.done (U J,()))
        else do
         let __do_lift <-ofAClassStatement 8 (.ref x)
         if __do_lift=J then pure (ForInStep.done (U J,()))
          else do
           let __do_lift <-ofAClassStatement 8 y
           if __do_lift=J then pure (ForInStep.done (U J,()))
            else pure (ForInStep.yield (O,()))) R E s:=by
  intro l
  induction l with
  |nil=>intro _ R hR;exact dD hR
  |cons v l ih =>
   intro hl R hR;obtain⟨k,y,rfl,hy⟩:=hl _ (.head _);have ih:=ih (λv hv=>hl v (.tail _ hv)) (R:=R)
   rw[UX];refine Rc ?_
   by_cases q:(x==y||carriedByValue (.ref x)&&carriedByValue (.ref y))=J
   ·rw[if_pos q];exact dD (ih hR)
   ·rw[if_neg q];refine Rc (B6 hx ?_);refine Rc (B6 hy ?_);refine Rc (Kh hx ?_);exact Rc (Kh hy (dD (ih hR)))
 exact go l hl (dD h)
theorem LN(m n n':Nat)(p:Pb)(h:n<=n'):dW m (n'-n) (dW m n p)=dW m n' p:=by
 rw[<-mT]
 congr 1
 omega
theorem ah4{t:ψ}(hn:n<=n')(hf:n'-n<10*(t.mask+15))(hlive:∀k,n<=k->k<n'->∃i,t.slot (cE t.mask h k)=.live i/\(kG es i==h)=Δ)(s1:t.slot (cE t.mask h n')=.live i)(s2:kG es i=h):
  t.probe (kG es) h (dW t.mask n (j3 t.mask h))=U (.candidate (cE t.mask h n') i (dW t.mask (n'+1) (j3 t.mask h))):=by
 have DE:=D9 (n'-n) (10*SetTable.turns t.mask) _ (by unfold SetTable.turns;omega) λk hk=>by
  have:=hlive (n+k) ∅ ∅
  unfold cE at this
  rwa[mT]at this
 obtain⟨f,hf'⟩:∃f,10*SetTable.turns t.mask-(n'-n)=f+1:=⟨10*SetTable.turns t.mask-(n'-n)-1,by unfold SetTable.turns;omega⟩
 show SetTable.probe.go t _ h _ _=_;rw[DE,hf',LN _ _ _ _ hn];unfold SetTable.probe.go;have s1:t.slot (dW t.mask n' _).j=.live i:=s1;rw[s1];dsimp only;rw[s2,OI];simp only[beq_self_eq_true,if_true];rw[mT _ n' 1];rfl
theorem ah3{t:ψ}(hn:n<=n')(hf:n'-n<10*(t.mask+15))(hlive:∀k,n<=k->k<n'->∃i,t.slot (cE t.mask h k)=.live i/\(kG es i==h)=Δ)(s1:t.slot (cE t.mask h n')=.empty):
  t.probe (kG es) h (dW t.mask n (j3 t.mask h))=U (.empty (cE t.mask h n') O):=by
 have DE:=D9 (n'-n) (10*SetTable.turns t.mask) _ (by unfold SetTable.turns;omega) λk hk=>by
  have:=hlive (n+k) ∅ ∅
  unfold cE at this
  rwa[mT]at this
 obtain⟨f,hf'⟩:∃f,10*SetTable.turns t.mask-(n'-n)=f+1:=⟨10*SetTable.turns t.mask-(n'-n)-1,by unfold SetTable.turns;omega⟩
 show SetTable.probe.go t _ h _ _=_;rw[DE,hf',LN _ _ _ _ hn];unfold SetTable.probe.go;have s1:t.slot (dW t.mask n' _).j=.empty:=s1;rw[s1];rw[LO];rfl
theorem agX(I:kQ t es)(s1:t.slot j=.live i):∃e,es[i]? = U e/\kG es i=e.1/\t.place[i]? = U j:=by
 have hpl:t.place[i]? = U j:=by
  unfold SetTable.slot at s1;dsimp only at s1;split at s1
  ·rename_i q;cases s1;exact eq_of_beq q
  ·split at s1<;>cases s1
 have hlt:i<t.place.size:=by
  rw[<-Q6]at hpl
  simpa using(OX.mp hpl).1
 have DM:i<es.size:=by rw[<-I.size];exact hlt
 refine⟨es[i],RS DM,?_,hpl⟩;unfold kG;rw[RS DM];rfl
theorem Xv{P:Nat->Prop}(hab:a<=b)(hb:P b):∃n,a<=n/\n<=b/\P n/\∀k,a<=k->k<n->¬P k:=by
 obtain⟨k,h1,h2,h3⟩:=least (P:=λd=>P (a+d)) _ (by rw[show a+(b-a)=b by omega];exact hb)
 exact⟨a+k,∅,∅,h2,λi hi hk hp=>h3 (i-a) ∅ (by rw[show a+_=i by omega];exact hp)⟩
theorem aas(I:kQ t es):t.gaveWay=Δ:=by
 unfold SetTable.gaveWay
 rcases I.ok with e|e|e<;>rw[e]<;>rfl
theorem Ib{f:Lk->Int}{ξ:List (Lk×S)}{Q:SetFound->Ψ->Prop}(hr:A.units+8<O8)(ho:s.heap.get? a=U o)(hd:o.data=.set es ep t)(I:kQ t es)(hL':es.toList=ξ.map (lR f))(hu:∀q∈ξ,cB prog w Y s.heap q.1 q.2)(hx:cB prog w Y s.heap k x)(hN:N<10*(t.mask+15))(hb:∀m,m<N->cE t.mask (f k) m∈t.place.toList)(h1:cE t.mask (f k) N∉t.place.toList->Q (.free (cE t.mask (f k) N) Δ) s)(h2:cE t.mask (f k) N∈t.place.toList->(∃i y,t.slot (cE t.mask (f k) N)=.live i/\es[i]? = U (f k,.ref y)/\cB prog w Y s.heap k y))(h3:∀y,cB prog w Y s.heap k y->(k,y)∈ξ->Q (.there O) s):
  ∀(d n fuel:Nat) (stand:Option Ur),N-n=d->n<=N->d<fuel->stand.getD (t.probeStart (f k))=dW t.mask n (j3 t.mask (f k))->wpAny (model prog w) A (setSearchFrom a (.ref x) (f k) J fuel stand) Q E s:=by
 intro d
 induction d using Nat.strongRecOn with
 |_ d ih =>
  intro n fuel stand hdn Zt hfu hst;obtain⟨fuel,rfl⟩:∃f,fuel=f+1:=⟨fuel-1,∅⟩
  unfold setSearchFrom;refine Rc (QE ho hd I.fits ?_);dsimp only;rw[aas I];simp only[Py,if_false];rw[hst];obtain⟨n',hn1,hn2,hp,hmin⟩:=Xv (P:=λm=>t.slot (cE t.mask (f k) m)=.empty\/∃i,t.slot (cE t.mask (f k) m)=.live i/\kG es i=f k) Zt (by
   by_cases q:cE t.mask (f k) N∈t.place.toList
   ·obtain⟨i,y,s1,s2,_⟩:=h2 q;refine .inr ⟨i,s1,?_⟩;unfold kG;rw[s2];rfl
   ·exact .inl (ag8 I.dm q))
  have hlive:∀m,n<=m->m<n'->∃i,t.slot (cE t.mask (f k) m)=.live i/\(kG es i==f k)=Δ:=λm hm1 hm2=>by
   obtain⟨i,q1,_⟩:=xJ I.up (hb m ∅)
   refine⟨i,q1,?_⟩;cases hq:kG es i==f k with
   |false=>rfl
   |true=>exact absurd (.inr ⟨i,q1,eq_of_beq hq⟩) (hmin m hm1 hm2)
  rcases hp with hp|⟨i,s1,s2⟩
  ·have jQ:=ah3 hn1 ∅ hlive hp
   have Z5:n'=N:=Q5 λq=>by
    obtain⟨i,q1,_⟩:=xJ I.up (hb n' ∅)
    rw[hp]at q1;cases q1
   subst Z5;have hnp:cE t.mask (f k) n'∉t.place.toList:=λq=>by
    obtain⟨i,q1,_⟩:=xJ I.up q;rw[hp]at q1;cases q1
   split
   ·rename_i met heq;have hm:met=.empty (cE t.mask (f k) n') O:=by
     have:=heq.symm.trans jQ;cases this;rfl
    subst hm;dsimp only;exact dD (h1 hnp)
   ·rename_i hne;exact absurd jQ (hne _)
  ·have jQ:=ah4 hn1 ∅ hlive s1 s2
   obtain⟨e,he,hae,hpl⟩:=agX I s1;have hem:e∈ξ.map (lR f):=by rw[<-hL'];exact P8 (by rw[Q6];exact he)
   obtain⟨q,hq,rfl⟩:=K1.mp hem;have hy:=hu q hq;split
   ·rename_i met heq;have hm:met=.candidate (cE t.mask (f k) n') i (dW t.mask (n'+1) (j3 t.mask (f k))):=by
     have:=heq.symm.trans jQ;cases this;rfl
    subst hm;dsimp only;simp only[he];cases hl:t.led with
    |false =>
     simp only[SI,if_true];refine Rc (Wf hx _ (λv hv=>?_) ?_)
     ·obtain⟨e,he,rfl⟩:=K1.mp hv;have he:e∈es.toList:=by
       have:=Array.mem_filter.mp (UA.mp he);exact UA.mpr this.1
      rw[hL']at he;obtain⟨q',hq',rfl⟩:=K1.mp he;exact⟨q'.1,q'.2,rfl,hu q' hq'⟩
     ·simp only[Py,if_false];refine Rc (Pq (Es hr hy hx ?_));refine Rc (QE ho hd I.fits ?_)
      by_cases ek:q.1=k
      ·rw[decide_eq_true ek];rw[if_pos (by simp)]
       refine dD (h3 q.2 (ek▸hy) ?_);rw[<-ek];exact hq
      ·rw[decide_eq_false ek];have hsm:t.sameMemory t.moves t.mask=U J:=by unfold SetTable.sameMemory;rw[if_pos (by simp)]
       have hlt:n'<N:=by
        rcases Qk n' N with z|z
        ·exact z
        ·exfalso;have:n'=N:=∅
         subst this;have hin:cE t.mask (f k) n'∈t.place.toList:=by
          rw[<-Q6]at hpl;exact P8 hpl
         obtain⟨i2,y2,r1,r2,r3⟩:=h2 hin;rw[s1]at r1;cases r1;rw[he]at r2;simp only[Vy,U6,Value.ref.injEq]at r2;rw[<-r2.2]at r3;exact ek (hy.inj r3)
       have hsame:isSame (.ref q.2) (.ref q.2)=pure J:=by
        unfold isSame;dsimp only;rw[if_pos (by simp)]
       simp only[hsm,if_true,s1,he,hsame,pure_bind];exact ih (N-(n'+1)) ∅ (n'+1) fuel _ rfl ∅ ∅ rfl
    |true =>
     refine Rc (Pq (Es hr hy hx ?_));refine Rc (QE ho hd I.fits ?_)
     by_cases ek:q.1=k
     ·rw[decide_eq_true ek];rw[if_pos (by simp)]
      refine dD (h3 q.2 (ek▸hy) ?_);rw[<-ek];exact hq
     ·rw[decide_eq_false ek];have hsm:t.sameMemory t.moves t.mask=U J:=by unfold SetTable.sameMemory;rw[if_pos (by simp)]
      have hlt:n'<N:=by
       rcases Qk n' N with z|z
       ·exact z
       ·exfalso;have:n'=N:=∅
        subst this;have hin:cE t.mask (f k) n'∈t.place.toList:=by
         rw[<-Q6]at hpl;exact P8 hpl
        obtain⟨i2,y2,r1,r2,r3⟩:=h2 hin;rw[s1]at r1;cases r1;rw[he]at r2;simp only[Vy,U6,Value.ref.injEq]at r2;rw[<-r2.2]at r3;exact ek (hy.inj r3)
      have hsame:isSame (.ref q.2) (.ref q.2)=pure J:=by
       unfold isSame;dsimp only;rw[if_pos (by simp)]
      simp only[hsm,if_true,s1,he,hsame,pure_bind];exact ih (N-(n'+1)) ∅ (n'+1) fuel _ rfl ∅ ∅ rfl
   ·rename_i hne;exact absurd jQ (hne _)
end
theorem ahJ{t:ψ}{hs:Array Int}(h:t.relaid hs n=U (t2,o)):t2.plain=t.plain:=by
 unfold SetTable.relaid SetTable.laid at h;cases hc:SetTable.layClean _ hs with
 |none=>rw[hc]at h;cases h
 |some ow =>
  rw[hc]at h;simp at h;rw[<-h.1]
section
variable {prog:ν}{w:τ}{A:χ}{E:L->Ψ->Prop}{s:Ψ}{Y:S->Prop}
theorem aaM{f:Lk->Int}{Q:Bool->Ψ->Prop}(hr:A.units+8<O8)(hx:cB prog w Y s.heap k x)(MC:¬Y a)(hS:jv prog w f Y s.heap a ks)(hn:ks.length<64)(h:∀b h',R6 a s.heap h'->jv prog w f Y h' a (fF ks k)->Q b {s with heap:=h'}):wpAny (model prog w) A (setAddHashed a (.ref x) (f k)) Q E s:=by
 have Z2:=hS;obtain⟨o,es,ep,t,ξ,ho,hex,hd,I,Zk,lJ,hL,hu,hp⟩:=hS;have hsz:es.size=ks.length:=by
  have:=congrArg List.length hL;rw[O2,PC]at this;rw[this,<-hp.length_eq,O2]
 unfold setAddHashed setAddHashedIn;refine Pq (Rc (QE ho hd I.fits ?_));dsimp only;rw[show byScan (.ref x) es=Δ from rfl]
 simp only[Py,if_false]
 by_cases hk2:k∈ks
 ·have Zz:k∈ξ.map (·.1):=hp.mem_iff.mpr hk2;obtain⟨q,hq,rfl⟩:=K1.mp Zz;have he:lR f q∈es.toList:=by rw[hL];exact K1.mpr ⟨q,hq,rfl⟩
  obtain⟨i0,hi0,ee⟩:=QF he;have e1:es.toList[i0]? = U (lR f q):=by rw[O1 hi0,ee]
  have hsz2:t.place.toList.length=es.toList.length:=by simp[I.size]
  obtain⟨j0,hj0⟩:∃j0,t.place.toList[i0]? = U j0:=⟨_,O1 ∅⟩
  obtain⟨N,hN,ha0,Zw⟩:=I.reach (j0,lR f q) (afj hj0 e1);have hm0:j0∈t.place.toList:=P8 hj0;have ha0:cE t.mask (f q.1) N=j0:=ha0;have hst:fF ks q.1=ks:=by unfold fF;rw[if_pos hk2]
  rw[hst]at h;unfold setSearch;refine Rc (Ib (f:=f) (N:=N) hr ho hd I hL hu hx hN Zw (λz=>absurd (ha0▸hm0) z) (λ_=>?_) (λy hy _=>?_) N 0 100000 O ∅ (Pd _) ?_ rfl)
  ·obtain⟨i,s1,s2⟩:=xJ I.up hm0;rw[<-Q6]at s2;have:=afC I.up s2 hj0;subst this;exact⟨i,q.2,by rw[ha0];exact s1,by rw[<-Q6];exact e1,hu q hq⟩
  ·exact dD (h Δ s.heap (Heap.SameBut.refl a s.heap) Z2)
  ·have:=I.mask;omega
 ·have hsz2:t.place.toList.length=es.toList.length:=by simp[I.size]
  have hM:=I.mask;have hes:es.toList.length=es.size:=by simp
  have ZJ:∃j,j<=t.mask/\j∉t.place.toList:=Q5 λq=>by
   have:=Cd (t.mask+1) t.place.toList λj hj=>Q5 λx=>q ⟨j,∅,x⟩
   omega
  obtain⟨js,ZC,hjn⟩:=ZJ;obtain⟨k0,hk0,ek0⟩:=OF I.ok (f k) ZC;obtain⟨N,hN,hs,hmin⟩:=least (P:=λn=>cE t.mask (f k) n∉t.place.toList) k0 (by rw[ek0];exact hjn)
  have hin:∀m,m<N->cE t.mask (f k) m∈t.place.toList:=λm hm=>Q5 λx=>hmin m hm x
  have hst:fF ks k=ks++[k]:=by unfold fF;rw[if_neg hk2]
  rw[hst]at h;unfold setSearch;refine Rc (Ib (f:=f) (N:=N) hr ho hd I hL hu hx ∅ hin (λhj=>?_) (λz=>absurd z hs) (λy hy hm=>absurd (hp.mem_iff.mp (K1.mpr ⟨(k,y),hm,rfl⟩)) hk2) N 0 100000 O ∅ (Pd _) ∅ rfl)
  have DP:=OA t.mask (f k) N;have Mk:Reach t.mask (·∈t.place.toList) (f k) (cE t.mask (f k) N):=⟨N,∅,rfl,hin⟩
  generalize cE t.mask (f k) N=j at hj DP Mk
  dsimp only;refine Rc (QE ho hd I.fits ?_);dsimp only;obtain⟨p1,p2,p3,p4,p5,p6⟩:=ajq I (x:=.ref x) hj DP Mk;have abi:∀t1:ψ,t1.mask=t.mask->t1.place=(t.put j).1.place->t1.dummies=(t.put j).1.dummies->t1.plain=J->t1.led = !e8 w->wpAny (model prog w) A (do
    storeSet a (SetTable.insertAt es (t.put j).snd (f k,Value.ref x)) t1
    if(!false&&t1.tooFull)=J then do
     setRelay a (SetTable.grown (es.size+1))
     pure J
    else pure J) Q E s:=λt1 m1 m2 m3 m4 m5=>by
   have Zh:(t.put j).snd=SetTable.below t.place j:=rfl;rw[Zh]
   generalize ZK:SetTable.insertAt es (SetTable.below t.place j) (f k,Value.ref x)=es1 at p1 p6
   rw[<-m2,<-m1]at p6;rw[<-m2]at p2 p3 p4;rw[<-m1]at p4;rw[<-m3]at p5;have vm:es1.toList=(ξ.take (SetTable.below t.place j)++(k,x)::ξ.drop (SetTable.below t.place j)).map (lR f):=by
    rw[<-ZK,TN,hL,QO,O6,List.map_take,List.map_drop]
   have D0:((ξ.take (SetTable.below t.place j)++(k,x)::ξ.drop (SetTable.below t.place j)).map (·.1)).Perm (ks++[k]):=by
    refine((U5 (a:=(k,x)) (l₁:=ξ.take (SetTable.below t.place j)) (l₂:=ξ.drop (SetTable.below t.place j))).map (·.1)).trans ?_;rw[RT,O6];exact(hp.cons k).trans (TF k ks).symm
   have hu1:∀q∈(ξ.take (SetTable.below t.place j)++(k,x)::ξ.drop (SetTable.below t.place j)),cB prog w Y s.heap q.1 q.2:=λq hq=>by
    rw[PY,Bt]at hq
    rcases hq with q1|rfl|q1
    ·exact hu q (Pc q1)
    ·exact hx
    ·exact hu q (UM q1)
   generalize ξ.take (SetTable.below t.place j)++(k,x)::ξ.drop (SetTable.below t.place j)=L1 at vm D0 hu1
   have hM:=I.mask;have hz0:(#[]:Array Nat).size=0:=rfl;have hfit:t1.fits es1.size=J:=by
    simp only[SetTable.fits,SetTable.fill,p2,p5,p1,hz0,m1,PF,beq_self_eq_true,true_and,decide_eq_true_eq];omega
   have sl:100<Ω:=⋯
   refine Rc (Ss ho hd ?_ ∅)
   have kF:=xX (es':=es1) (t':=t1) ho hd;have f6:=Ql s.heap a (Obj.putSet es1 t1);cases hf:t1.tooFull with
   |false =>
    simp only[SI,UY,Py,if_false];have hf2:((t1.mask=7/\es1.size<=4)\/(t1.mask=31/\es1.size<=18)\/(t1.mask=127/\es1.size<=76)):=by
     simp only[SetTable.tooFull,SetTable.fill,p2,p5,hz0,m1,decide_eq_false_iff_not]at hf;rw[m1];omega
    exact dD (h J _ f6 ⟨_,es1,ep+1,t1,L1,kF,hex,rfl,⟨by rw[p2,p1],p3,p4,p5,hf2,p6⟩,m4,m5,vm,(λq hq=>(hu1 q hq).at λb yb o e=>by rw[f6.2 b (λz=>MC (z▸yb))];exact e),D0⟩)
   |true =>
    simp only[SI,Bool.and_self,if_true];have hf2:es1.size=5\/es1.size=19:=by
     simp only[SetTable.tooFull,SetTable.fill,p2,p5,hz0,m1,decide_eq_true_eq]at hf;omega
    have DS:∀e∈es1.toList,qA e.1:=λe he=>abX e.1
    obtain⟨t2,order,r1,r2,r3,r4,r5⟩:=ahK (t:=t1) DS hf2;have r6:=ahJ r1
    generalize u9:order.filterMap (es1[·]?)=kK at r2 r3 r5
    refine Rc ?_;unfold setRelay;refine Rc (QE kF rfl hfit ?_);dsimp only;have hw:¬SetTable.sizeAbove (SetTable.grown (es.size+1))>Ω:=by
     rw[<-p1]
     rcases hf2 with e|e<;>rw[e]<;>decide
    rw[if_neg hw,<-p1,r1];refine Rc (Rt (show _=pure (kK,t2)from ?_) ?_)
    ·show(if((order.filterMap (es1[·]?)).size != es1.size)=J then _ else pure (order.filterMap (es1[·]?),t2))=_
     rw[u9,r2];simp
    ·dsimp only;refine Ss kF rfl ?_ ∅
     have Zi:=Ql (s.heap.update a (Obj.putSet es1 t1)) a (Obj.putSet kK t2);have Mi:=f6.trans Zi;have ho2:=xX (es':=kK) (t':=t2) kF rfl;obtain⟨L2,vj,lK⟩:∃L2:List (Lk×S),kK.toList=L2.map (lR f)/\L2.Perm L1:=by
      rw[vm]at r5;exact Jz r5
     refine dD (h J _ Mi ⟨_,kK,ep+1+1,t2,L2,ho2,hex,rfl,r3,r6.trans m4,r4.trans m5,vj,λq hq=>?_,(lK.map _).trans D0⟩)
     have hq1:=lK.mem_iff.mp hq;exact(hu1 q hq1).at λb yb o e=>by rw[Mi.2 b (λz=>MC (z▸yb))];exact e
  have mk:(t.put j).1.mask=t.mask:=rfl;have hpl:(t.put j).fst.plain=J:=Zk;rw[if_pos hpl];refine Rc (acD hx ?_);exact abi _ rfl rfl rfl hpl lJ
end
def dI(xs:List Lk):List Lk:=xs.foldl fF []
theorem aaK{xs:List Lk}(h:i<xs.length):dI (xs.take (i+1))=fF (dI (xs.take i)) xs[i]:=by
 unfold dI;rw[So h,Sn];rfl
theorem Nd:∀(xs ns:List Lk),ns.length<=(xs.foldl fF ns).length
 |[],ns=>AP _
 |x::xs,ns=>by
  have:=Nd xs (fF ns x);have h:ns.length<=(fF ns x).length:=by unfold fF;split<;>simp
  rw[RB];omega
theorem aaL(xs:List Lk)(i:Nat):(dI (xs.take i)).length<=(dI xs).length:=by
 have:dI xs=(xs.drop i).foldl fF (dI (xs.take i)):=by
  unfold dI;rw[<-Sn,RT]
 rw[this];exact Nd _ _
section
variable {prog:ν}{w:τ}{A:χ}{s:Ψ}{E:L->Ψ->Prop}
theorem jv.at{f:Lk->Int}{Y:S->Prop}{h':π}(x:jv prog w f Y h a ks)(k:∀b,(b=a\/Y b)->∀o,h.get? b=U o->h'.get? b=U o):jv prog w f Y h' a ks :=
 let⟨o,es,ep,t,ξ,ho,h1,h2,h3,p,l,h4,h5,h6⟩:=x
 ⟨o,es,ep,t,ξ,k a (.inl rfl) o ho,h1,h2,h3,p,l,h4,λq hq=>(h5 q hq).at λb yb=>k b (.inr yb),h6⟩
theorem ag2{R:Result->Ψ->Prop}{wr:List S}{G:Array S0->Array S0->Prop}{P:Nat->L->Prop}{St:Nat->Ψ->Prop}{Y:S->Prop}{xs:List Lk}{ys:List S}(hys:ys.length=xs.length)(W:WalksS prog w A.in1 I fp wr G xs.length P St)(Θ:S)(hSf:Θ∉fp)(hval:∀(i:Nat) v,(hi:i<xs.length)->P i v->v=Value.ref (ys[i]'∅))(yW:∀b,Y b->b≠Θ/\b∉wr)(h64:(dI xs).length<64)(hr:A.in1.units+8<O8):
  ∀(k i:Nat) (s:Ψ),xs.length-i=k->i<=xs.length->St i s->jv prog w hL Y s.heap Θ (dI (xs.take i))->(∀j,(hj:j<xs.length)->cB prog w Y s.heap xs[j] (ys[j]'∅)) ->
   (∀s',Moved (Θ::wr) G s s'->jv prog w hL Y s'.heap Θ (dI xs)->R (.ok (.ret .none)) s') ->
   codeAny (model prog w) A (.builtin "set.update.loop" ⟨[.ref Θ,.ref I],[]⟩) R s:=by
 have zf:Θ∉wr:=λh=>hSf (W.sub _ h)
 have hup:∀b∈wr,b∈Θ::wr:=λb hb=>.tail _ hb
 have MB:∀b,(b=Θ\/Y b)->b∉wr:=λb hb=>hb.elim (λe=>e▸zf) λm=>(yW b m).2
 intro k
 induction k with
 |zero =>
  intro i s hk hi st hS hK hR;cases(show i=xs.length by omega)
  refine Qs Sm ?_;rw[Sl SH _];show wpAny _ A.in1 (pyNext (.ref I) >>= _) _ _ s;refine Rc (W.done s _ _ st λs' hm=>?_)
  rw[Q3]at hS;exact dD (hR s' (hm.mono hup) (hS.at λb hb o e=>hm.heap b _ (MB b hb) e))
 |succ k ih =>
  intro i s hk hi st hS hK hR;have hlt:i<xs.length:=∅
  have DM:i<ys.length:=∅
  refine Qs Sm ?_;rw[Sl SH _];show wpAny _ A.in1 (pyNext (.ref I) >>= _) _ _ s;refine Rc (W.item i s _ _ hlt st λv s' hP st' hm=>?_)
  cases hval i v hlt hP;have hS':jv prog w hL Y s'.heap Θ (dI (xs.take i)):=hS.at λb hb o e=>hm.heap b _ (MB b hb) e
  have D3:∀j,(hj:j<xs.length)->cB prog w Y s'.heap xs[j] (ys[j]'∅):=λj hj=>(hK j hj).at λb yb o e=>hm.heap b _ (yW b yb).2 e
  show wpAny _ A.in1 (holding [Value.ref ys[i]] (setAdd Θ (.ref ys[i])) >>= _) _ _ s';refine Rc (Pq ?_);unfold setAdd;refine Pq (Rc (ZY (k:=xs[i]) hr (D3 i hlt) λtk htk=>?_))
  have hl:(dI (xs.take i)).length<64:=SN (aaL xs i) h64;refine aaM (Y:=Y) (f:=hL) (s:={s' with toks:=tk}) (k:=xs[i]) hr (D3 i hlt) (λz=>(yW Θ z).1 rfl) hS' hl λb h' f6 jo=>?_
  rw[<-aaK hlt]at jo;refine dD ⟨UC SH _,ih (i+1) _ ∅ hlt (W.frame _ s' _ _ st' htk λb hb o e=>?_) jo (λj hj=>?_) λs'' DL DZ=>?_⟩
  ·rw[f6.2 b (λq:b=Θ=>hSf (q▸hb))];exact e
  ·exact(D3 j hj).at λb yb o e=>by
    show h'.get? _=U o;rw[f6.2 _ (yW b yb).1];exact e
  ·refine hR s'' (Moved.trans W.gtrans ((hm.mono hup).then_heap htk λb o hb e=>?_) DL) DZ
   rw[f6.2 b (λq:b=Θ=>hb (q▸.head _))];exact e
theorem abw(f:Lk->Int)(Y:S->Prop){h:π}(e:h.get? a=U (cD w)):jv prog w f Y h a [] :=
 ⟨_,#[],0,_,[],e,⟨rfl,rfl,rfl⟩,rfl,⟨rfl,.nil,λj h=>by simp[SetTable.fresh]at h,rfl,.inl ⟨rfl,by simp⟩,λq hq=>by simp[SetTable.fresh]at hq⟩,rfl,rfl,rfl,λq hq=>(by cases hq),.refl _⟩
set_option maxHeartbeats 3200000 in
theorem ag4{l:S}{items:Array L}{Y:S->Prop}{xs:List Lk}{ys:List S}{Q:L->Ψ->Prop}(hys:ys.length=xs.length)(hh:A.handled=O)(hl:s.heap.IsList l items)(hi:items.toList=ys.map Value.ref)(hK:∀j,(hj:j<xs.length)->cB prog w Y s.heap xs[j] (ys[j]'∅))(ve:∀b,Y b->b<s.heap.objs.size/\b≠l)(h64:(dI xs).length<64)(hr:A.in1.in1.in1.units+8<O8)
  (h:∀(h':π) (tk:Nat),jv prog w hL Y h' s.heap.objs.size (dI xs)->(∀b o,b<s.heap.objs.size->s.heap.get? b=U o->h'.get? b=U o)->Q (.ref s.heap.objs.size) {s with heap:=h',toks:=tk}) :
  wpAny (model prog w) A (call (.type "set") [.ref l]) Q E s:=by
 obtain⟨c,tl,Mr⟩:=PD.mro;have hmade:=PD.made;have hsub:=PD.sub;refine Ry (Sk (show wpAny _ _ (callAny (.type "set") _) _ _ _ from ?_))
 refine dD ⟨UB _ (by decide +kernel),Qs Uo ?_⟩
 rw[Um (Ul "set" [.ref l] []) rfl];have h1:=PD.notType;have h2:=PD.canCreate;have hct:=Uk (.ref l)
 repeat any_goals (first|assumption|wp_step)
 refine QW (BJ (.ref l) (E:=E) (Q₁:=λobj s₁=>obj=.ref s.heap.objs.size/\s₁={s with heap:=s.heap.push (cD w)}) ⟨rfl,rfl⟩) λr s₁ hr=>?_
 cases r with
 |error e=>exact hr
 |ok fl =>
  cases fl with
  |ret obj =>
   obtain⟨rfl,rfl⟩:=hr;have hS:(s.heap.push (cD w)).get? s.heap.objs.size=U (cD w):=O5 _ rfl;have hT:TX {s with heap:=s.heap.push (cD w)} (.ref s.heap.objs.size) "set":=⟨_,hS,rfl⟩
   have hli:=PD.init.lookup;have hbi:=PD.init.bind (.ref s.heap.objs.size)
   repeat any_goals (first|assumption|wp_step)
   refine QW (Uj (R:=wants (λr s₂=>r=.none/\∃h' tk,s₂={s with heap:=h',toks:=tk}/\jv prog w hL Y h' s.heap.objs.size (dI xs) /\
     (∀b o,b<s.heap.objs.size->s.heap.get? b=U o->h'.get? b=U o)) E) PD.init.plain Ui (Uh hT ?_)) λr₂ s₂ kE=>?_
   ·obtain⟨ol,gY,hcl,nl,hdl⟩:=hl;obtain⟨J8,uz,J5,uw⟩:=ol;simp only at hcl hdl;subst hcl;subst hdl;have oB:(s.heap.push (cD w)).get? l=U {cls:=.type "list",dict:=uz,data:=.seq items nl,slots:=uw}:=H8 _ gY;have Mg:=VS;have Mh:=VR;have hne:(Value.type "list"==Value.type "dict")=Δ:=⋯
    have hl1:(s.heap.push (cD w)).IsList l items:=⟨_,oB,rfl,nl,rfl⟩;unfold cD at hS hT oB ⊢;unfold Builtin.«set.__init__» noKeywords Builtin.Frozenset.updateFrom
    generalize vh:pyIter=PI
    wp_walk
    subst vh;refine RH hl1 (Rc (Ug ?_));have hlS:l<s.heap.objs.size:=Iv gY;have hlen:items.size=xs.length:=by
     have:=congrArg List.length hi;rw[O2,PC]at this;omega
    have u7:l≠(s.heap.push (cD w)).objs.size:=by rw[P9];exact O0 (Q0 hlS)
    have hSf:s.heap.objs.size∉[(s.heap.push (cD w)).objs.size,l]:=by
     rw[P9];simp only[Bt,O7,or_false,not_or];exact⟨O0 (QD _),Pp hlS⟩
    have W:=(Rq (prog:=prog) (w:=w) (A:=A.in1.in1.in1) (by simp[hh]) (s.heap.push (cD w)).objs.size l u7 items).toS
    rw[hlen]at W;refine ag2 (xs:=xs) (ys:=ys) hys W s.heap.objs.size hSf (λi v hi' hv=>?_) (λy hy=>?_) h64 hr xs.length 0 _ ∅ (Pd _) ⟨⟨_,O5 _ rfl,rfl,rfl⟩,hl1.push _⟩ (abw _ _ (H8 _ hS)) (λj hj=>(hK j hj).at λb yb o e=>H8 _ (H8 _ e)) λs' hm hS'=>?_
    ·have hv:items[i]? = U v:=hv;rw[<-Q6,hi,PK,O1 ∅]at hv
     simpa using hv.symm
    ·have:=ve y hy;rw[P9];simp only[Bt,O7,or_false];exact⟨O0 this.1,λz=>by first|exact absurd z (O0 (Q0 this.1))|exact z.elim (λz=>absurd z (O0 (Q0 this.1))) this.2⟩
    ·obtain⟨h',g',d',tk',os'⟩:=s';cases(show g'=s.gens from hm.gens)
     cases(show d'=s.drawn from hm.drawn)
     cases(show os'=s.os from hm.os)
     refine dD (dD ⟨rfl,h',tk',rfl,hS',λb o hb e=>?_⟩)
     exact hm.heap b o (by rw[P9];simp only[Bt,O7,or_false,not_or];exact⟨O0 hb,O0 (Q0 hb)⟩) (H8 _ (H8 _ e))
   ·cases r₂ with
    |error e=>exact kE
    |ok vp =>
     cases vp with
     |ret r =>
      obtain⟨rfl,h',tk,rfl,hS',hk'⟩:=kE
      repeat any_goals (first|assumption|wp_step)
      exact h _ _ hS' hk'
     |_=>exact kE.elim
  |_=>exact hr.elim
end
theorem qR:Slot "set_iterator" "__next__" "set_iterator.__next__" :=
 .of (owner:="set_iterator") (n:="__next__") (by rw[typeLookup_type,Vx];kernel_rfl) (by decide +kernel) (by decide +kernel)
  (by decide +kernel) (by first|exact .inl (by decide +kernel)|exact .inr (by decide +kernel)) (by rw[Sf];kernel_rfl)
theorem HA:Slot "set_iterator" "__iter__" "set_iterator.__iter__" :=
 .of (owner:="set_iterator") (n:="__iter__") (by rw[typeLookup_type,Vx];kernel_rfl) (by decide +kernel) (by decide +kernel)
  (by decide +kernel) (by first|exact .inl (by decide +kernel)|exact .inr (by decide +kernel)) (by rw[Sf];kernel_rfl)
theorem HC:entryFor table "set_iterator.__next__"=U Builtin.«set_iterator.__next__»:=entryFor_of_tree (by kernel_rfl)
theorem aho:entryFor table "set_iterator.__iter__"=U Builtin.«dict_keyiterator.__iter__» :=
 U4 (id':="dict_keyiterator.__iter__") (by kernel_rfl) rfl (by decide +kernel) (by kernel_rfl)
theorem ahp:entryFor table "set.__iter__"=U Builtin.«frozenset.__iter__» :=
 U4 (id':="frozenset.__iter__") (by kernel_rfl) rfl (by decide +kernel) (by kernel_rfl)
theorem HB:Manifest.owners.lookup (String.ofList ['r','o','t','a','r','e','t','i','_','t','e','s'].reverse)=U Manifest.sig_set_iterator:=by kernel_rfl
theorem HD(a:L):argsOk "set_iterator.__next__" ⟨[a],[]⟩:=by
 unfold argsOk;rw[signature?_of (n:=['_','_','t','x','e','n','_','_']) (by kernel_rfl) HB];kernel_rfl
theorem ahm(a:L):argsOk "set_iterator.__iter__" ⟨[a],[]⟩:=by
 unfold argsOk;rw[signature?_of (n:=['_','_','r','e','t','i','_','_']) (by kernel_rfl) HB];kernel_rfl
theorem abm{α:Type}{l:List α}(h:i<l.length):([l[i]]++l.eraseIdx i).Perm l:=by
 rw[List.eraseIdx_eq_take_drop_succ];have e:l=l.take i++l[i]::l.drop (i+1):=by rw[<-U3 h,RT]
 conv=>rhs;rw[e]
 exact(U5 (l₁:=l.take i)).symm
theorem Jv{α:Type}(next:Nat->Nat):∀(fuel k:Nat) (left:List α) (out:Array α),fuel=left.length->(pickOrder.go next fuel k left out).toList.Perm (out.toList++left)
 |0,k,left,out,h=>by
  have:left=[]:=U1.mp h.symm;subst this;unfold pickOrder.go;simp
 |fuel+1,k,left,out,h=>by
  unfold pickOrder.go;have hlt:next k % left.length<left.length:=Rk _ ∅
  rw[O1 hlt];refine(Jv next fuel _ _ _ (by rw[List.length_eraseIdx_of_lt hlt];omega)).trans ?_
  rw[T9,QS];exact(abm hlt).append_left _
def iG(w:τ)(a:S)(ep:Nat)(es:Array (Int×L)):Array (Int×L):=if e8 w then pickOrder (w.params.setOrder a ep) es else es
theorem ux(w:τ)(a:S)(ep:Nat)(es:Array (Int×L)):(iG w a ep es).toList.Perm es.toList:=by
 unfold iG;split
 ·unfold pickOrder
  simpa using Jv _ es.size 0 es.toList #[] (by simp)
 ·exact .rfl
def jf(b:Bool)(place:Array Nat):Nat->Nat
 |0=>0
 |i+1=>if b then 0 else place.toList.getD i 0+1
def lZ(h:π)(it a:S)(sl i n ep:Nat):Prop:=∃o,h.get? it=U o/\o.cls=.type "set_iterator"/\o.data=.fields #[.int sl 0,.int i 0,.ref a,.int n 0,.int ep 0]
theorem lZ.typeIs{s:Ψ}(h:lZ s.heap it a sl i n ep):s.TypeIs (.ref it) "set_iterator":=let⟨o,ho,hc,_⟩:=h;⟨o,ho,hc⟩
theorem lZ.at{h':π}(x:lZ h it a sl i n ep)(k:∀o,h.get? it=U o->h'.get? it=U o):lZ h' it a sl i n ep:=let⟨o,ho,r⟩:=x;⟨o,k o ho,r⟩
def iD(w:τ)(h:π)(a:S)(es:Array (Int×L))(ep:Nat)(t:ψ):Prop:=∃o,h.get? a=U o/\o.ExactSet/\o.data=.set es ep t/\oY t es.size/\t.led = !e8 w
theorem iD.at{h':π}(x:iD w h a es ep t)(k:∀o,h.get? a=U o->h'.get? a=U o):iD w h' a es ep t:=let⟨o,ho,r⟩:=x;⟨o,k o ho,r⟩
section
variable {prog:ν}{w:τ}{A:χ}{E:L->Ψ->Prop}{s:Ψ}
theorem HV{Q:Option (L×Nat)->Ψ->Prop}(hS:iD w s.heap a es ep t)(hi:i<=es.size)(h:Q ((iG w a ep es)[i]?.map λe=>(e.2,jf (e8 w) t.place (i+1))) s):wpAny (model prog w) A (setNext a (jf (e8 w) t.place i) i ep) Q E s:=by
 obtain⟨o,ho,hex,hd,hI,hl⟩:=hS;refine Rc (QE ho hd hI.fits ?_);refine Rc ?_;refine Rc (Qi (dD ?_));show wpAny _ _ (if e8 w=J then _ else _) _ _ _
 unfold iG at h;cases hb:e8 w with
 |true =>
  rw[hb]at h;simp at h ⊢;refine Rc ?_;unfold setWalk;refine Rc (QE ho hd hI.fits ?_);refine Rc ?_;unfold setsByText;refine Rc (Qi (dD ?_));show wpAny _ _ (if e8 w=J then _ else _) _ _ _
  rw[hb];refine Rc (Qi (dD (dD ?_)));have e:jf J t.place (i+1)=jf J t.place i:=by cases i<;>rfl
  rw[e]at h;exact h
 |false =>
  rw[hb]at h hl;simp at h ⊢;show wpAny _ _ (if(!t.plain&&decide (es.size>1))=J then _ else _) _ _ _
  rw[hI.plain];refine Rc (Rt (a:=()) ?_ ?_)
  ·show(if(!t.led && !es.isEmpty)=J then _ else _)=_
   rw[hl];rfl
  have DV:SetTable.below t.place (jf Δ t.place i)=i:=by
   cases i with
   |zero=>exact acM hI.up
   |succ i=>exact acN hI.up (by rw[PC,hI.size];omega)
  rw[DV];refine dD ?_
  rcases Qk i es.size with hlt|hge
  ·have hp:i<t.place.size:=by rw[hI.size];exact hlt
   rw[RS hlt]at h ⊢;rw[RS hp];have e:jf Δ t.place (i+1)=t.place[i]+1:=by
    simp[jf,I8,O1 (show i<t.place.toList.length by simpa using hp)]
   rw[e]at h;exact h
  ·rw[Vw hge]at h ⊢;exact h
end
section
variable {prog:ν}{w:τ}{A:χ}{E:L->Ψ->Prop}{s:Ψ}
theorem YI{es:Array (Int×L)}{t:ψ}{Q:Option L->Ψ->Prop}(hit:lZ s.heap it a (jf (e8 w) t.place i) i es.size ep)(hS:iD w s.heap a es ep t)(hi:i<es.size)(hv:(iG w a ep es)[i]? = U v)(hQ:∀h',lZ h' it a (jf (e8 w) t.place (i+1)) (i+1) es.size ep->R6 it s.heap h'->Q (U v.2) {s with heap:=h'}):
  wpAny (model prog w) A (pyNext (.ref it)) Q E s:=by
 obtain⟨o,ho,hc,hd⟩:=id hit;obtain⟨oS,hoS,Mw,hdS,hI,hl⟩:=id hS;refine Rc (Sv (Rv hit.typeIs qR (Q9 qR hit.typeIs HC ?_ (HD _))));refine Rc (dD ?_);refine Rc (wpAny_fieldsOf ho hd ?_);refine Rc (SE hoS hdS hI.fits ?_);rw[if_neg (by simp)]
 refine Rc (HV (ep:=ep) hS (R4 hi) ?_);rw[hv];refine Rc (SM ho hd (by simp) ?_)
 have g1:=SQ (Obj.mapFields (·.setIfInBounds 0 (rawInt ((jf (e8 w) t.place (i+1)))))) ho (UT (Ru hd _));have d1:=Ru hd (·.setIfInBounds 0 (rawInt ((jf (e8 w) t.place (i+1)))));refine Rc (SM g1 d1 (by simp) ?_)
 refine dD ⟨_,rfl,dD (hQ _ ⟨_,(SQ (Obj.mapFields (·.setIfInBounds 1 (rawInt (i+1)))) g1 (UT (Ru d1 _))),?_,?_⟩ ((Ql ..).trans (Ql ..)))⟩
 ·exact(US ..).trans ((US ..).trans hc)
 ·rw[(Ru d1 (·.setIfInBounds 1 _))];simp[rawInt]
theorem YJ{es:Array (Int×L)}{t:ψ}{Q:Option L->Ψ->Prop}(hh:A.handled=O)(hit:lZ s.heap it a (jf (e8 w) t.place es.size) es.size es.size ep)(hS:iD w s.heap a es ep t)(hQ:∀h',Heap.ExtBut it s.heap h'->Q O {s with heap:=h'}):wpAny (model prog w) A (pyNext (.ref it)) Q E s:=by
 obtain⟨o,ho,hc,hd⟩:=id hit;obtain⟨oS,hoS,Mw,hdS,hI,hl⟩:=id hS;refine Rc (Sv (Rv hit.typeIs qR (Q9 qR hit.typeIs HC ?_ (HD _))));refine Rc (dD ?_);refine Rc (wpAny_fieldsOf ho hd ?_);refine Rc (SE hoS hdS hI.fits ?_);rw[if_neg (by simp)]
 refine Rc (HV (ep:=ep) hS (AP _) ?_);have hv:(iG w a ep es)[es.size]? = O:=by
  have:=(ux w a ep es).length_eq;rw[PC,PC]at this;exact Vw ∅
 rw[hv];refine Rc (SM ho hd (by simp) ?_)
 refine Rc ?_;refine Rc (m:=firstArgMember _ _) (Rt (by first|rfl|(simp;rfl)) (Sy ?_ (by size_fits)))
 refine Rc (wpAny_handled ?_);rw[show A.in1.handled=O from hh]
 refine Rc (dD (wpAny_throw ?_));refine Rc (Qc (b:=J) ⟨_,O5 _ rfl,rfl⟩ isSubtype_stop ?_);exact dD (hQ _ (((Ql ..).extBut.push _).push _))
theorem YH{Q:L->Ψ->Prop}(hit:lZ s.heap it a sl i n ep)(h:Q (.ref it) s):wpAny (model prog w) A (pyIter (.ref it)) Q E s:=by
 exact wpAny_pyIter_slot hit.typeIs HA (Q9 HA hit.typeIs aho (show wpAny _ _ _ _ _ s from(dD ⟨_,rfl,"set_iterator",_,hit.typeIs,qR.lookup,h⟩)) (ahm _))
theorem ag6(hh:A.handled=O)(I a:S)(hne:a≠I)(es:Array (Int×L))(ep:Nat)(t:ψ) :
  Walks prog w A I [I,a] [I] es.size (λi v=>(iG w a ep es)[i]?.map (·.2)=U v) (λi h=>lZ h I a (jf (e8 w) t.place i) i es.size ep/\iD w h a es ep t) where
 sub:=λb hb=>by simp at hb;simp[hb]
 frame:=λ_ _ _ st hk=>⟨st.1.at λo e=>hk I (by simp) o e,st.2.at λo e=>hk a (by simp) o e⟩
 item:=λi s Q E hi st hQ=>by
  have hl:=(ux w a ep es).length_eq;rw[PC,PC]at hl;have hv:_[i]? = U (iG w a ep es)[i]:=RS ∅
  exact YI st.1 st.2 hi hv λh' DQ hs'=>hQ _ h' s.toks (by rw[hv];rfl) ⟨DQ,st.2.at λo e=>hs'.extBut a o hne e⟩ λb o hb e=>hs'.extBut b o (λh=>hb (by simp[h])) e
 done:=λs Q E st hQ=>YJ hh st.1 st.2 λh' he'=>hQ h' s.toks λb o hb e=>he' b o (λh=>hb (by simp[h])) e
 self:=λ_ _ _ _ st hQ=>YH st.1 hQ
theorem iD.typeIs(h:iD w s.heap a es ep t):s.TypeIs (.ref a) "set":=let⟨o,ho,hx,_⟩:=h;⟨o,ho,hx.1⟩
theorem ag1{Q:L->Ψ->Prop}(hS:iD w s.heap a es ep t)(hQ:Q (.ref s.heap.objs.size) {s with heap:=s.heap.push {cls:=.type "set_iterator",data:=.fields #[.int 0 0,.int 0 0,.ref a,.int es.size 0,.int ep 0]} }):wpAny (model prog w) A (pyIter (.ref a)) Q E s:=by
 obtain⟨oS,hoS,Mw,hdS,hI,hl⟩:=id hS;refine wpAny_pyIter_slot hS.typeIs Vu (Q9 Vu hS.typeIs ahp ?_ (PySem.F.args_set_iter_1 _));refine Rc (Rc (dD (dD ?_)));refine Rc (Rc (SE hoS hdS hI.fits (dD ?_)));refine Rc ?_;refine Rc (QE hoS hdS hI.fits ?_);refine Rc ?_;refine Rc (Qi (dD (dD ?_)));have e:(!e8 w&&(!t.plain&&decide (es.size>1)))=Δ:=by rw[hI.plain];simp
 show wpAny _ _ (if(!e8 w&&(!t.plain&&decide _))=J then _ else _) _ _ _
 rw[e];refine Rc (dD ?_);refine Rc (U0 hoS hdS hI.fits ?_);refine Rc ?_;refine Sy (dD ⟨_,rfl,"set_iterator",_,⟨_,O5 _ rfl,rfl⟩,qR.lookup,?_⟩);exact hQ
end
open PySem.W
def oj(x:Nat):List Nat->List Nat
 |[]=>[x]
 |y::l=>if x<y then x::y::l else if x=y then y::l else y::oj x l
def gK:List Nat->List Nat
 |[]=>[]
 |x::l=>oj x (gK l)
theorem CY:∀{l:List Nat},y∈oj x l↔y=x\/y∈l
 |[]=>by simp[oj]
 |z::l=>by
  unfold oj;split
  ·simp
  ·split
   ·rename_i h;subst h;simp
   ·simp only[Bt,CY]
    constructor
    ·rintro (h|h|h)<;>simp[h]
    ·rintro (h|h|h)<;>simp[h]
theorem GS:∀{l:List Nat},Up l->Up (oj x l)
 |[],_=>by simp[oj]
 |z::l,h=>by
  obtain⟨h1,h2⟩:=Q7.mp h;unfold oj;split
  ·rename_i hx;exact Q7.mpr ⟨λb hb=>by
    rcases Bt.mp hb with rfl|hb
    ·exact hx
    ·exact Rp hx (h1 b hb),h⟩
  ·split
   ·exact h
   ·refine Q7.mpr ⟨λb hb=>?_,GS h2⟩
    rcases CY.mp hb with rfl|hb
    ·omega
    ·exact h1 b hb
theorem xr:∀l:List Nat,Up (gK l)
 |[]=>.nil
 |x::l=>GS (xr l)
theorem yC:∀{l:List Nat},y∈gK l↔y∈l
 |[]=>by simp[gK]
 |x::l=>by simp[gK,CY,yC]
theorem KU{ns:List Nat}:y∈gh ns x↔y∈ns\/y=x:=by
 unfold gh;split
 ·rename_i h;exact⟨.inl,λq=>q.elim id λe=>e▸h⟩
 ·simp
theorem Kw{ns:List Nat}(h:ns.Nodup):(gh ns x).Nodup:=by
 unfold gh;split
 ·exact h
 ·rename_i hx;refine Rh.mpr ⟨h,by simp,λa ha b hb=>?_⟩
  rw[Pa]at hb;subst hb;exact λe=>hx (e▸ha)
theorem yF:∀{xs ns:List Nat}{y:Nat},y∈xs.foldl gh ns↔y∈ns\/y∈xs
 |[],ns,y=>by simp
 |x::xs,ns,y=>by
  rw[RB,yF,KU,Bt,or_assoc]
theorem yv:∀{xs ns:List Nat},ns.Nodup->(xs.foldl gh ns).Nodup
 |[],_,h=>h
 |x::xs,_,h=>yv (xs:=xs) (Kw h)
theorem Kv:∀{l:List Nat},Up l->l.Nodup:=fun{l} h=>h.imp fun{a b} h=>O0 h
theorem BE(xs:List Nat):(gK xs).length=(fT xs).length:=by
 have hp:(gK xs).Perm (fT xs):=by
  refine(Se (Kv (xr xs)) (yv .nil)).mpr λx=>?_
  rw[yC,yF];simp
 exact hp.length_eq
theorem GV(h:Up l):∀i,i<l.length->i<=l.getD i 0
 |0,_=>Pd _
 |i+1,hi=>by
  have a:=GV h i ∅
  have b:=tH h (show i<i+1 by omega) hi
  omega
theorem GR(h:Up l)(hm:∀x∈l,x<m):l.length<=m:=by
 rcases Ve l.length with e|e
 ·omega
 ·have a:=GV h (l.length-1) ∅
  have hi:l.length-1<l.length:=∅
  have b:l.getD (l.length-1) 0<m:=hm _ (by rw[I8,O1 hi];exact PX hi)
  omega
section
variable {prog:ν}{w:τ}{A:χ}{E:L->Ψ->Prop}{s:Ψ}
theorem ZE{Q:Bool->Ψ->Prop}(hT:s.TypeIs (.ref r) "set")(h:Q Δ s):wpAny (model prog w) A (Builtin.List.listLengthHint (.ref r)) Q E s:=by
 unfold Builtin.List.listLengthHint;refine Rc (Qa hT PySem.F.slot_set_len.lookup ?_)
 generalize hid:("set.__len__":String)=Y3
 wp_delta
 rw[show splitId Y3=U ("set","__len__")from by subst hid;decide +kernel]
 subst hid;refine Rc (Qc (T:="set") (b:=J) hT SG ?_);refine wpAny_ite_split (λq=>absurd q ⋯) λ_=>wpAny_ite_split (λ_=>?_) λq=>absurd (by decide +kernel) q
 exact Rc (wpAny_typeOf hT (dD h))
theorem iD.lt(x:iD w h a es ep t):a<h.objs.size:=let⟨_,ho,_⟩:=x;Iv ho
theorem ahh{es:Array (Int×L)}:KdlSrc prog w "set" a a es.size (λi v=>(iG w a ep es)[i]?.map (·.2)=U v) (λh=>iD w h a es ep t) where
 type:=λ_ h=>h.typeIs
 there:=λ_ h=>⟨h.lt,h.lt⟩
 keep:=λ_ _ h k=>h.at λo e=>k a (.inl rfl) o e
 notList:=⋯
 notTuple:=⋯
 hint:=λ_ _ _ _ h q=>ZE h.typeIs q
 iter:=λ_ s hh h=>⟨_,_,(λ_ _ q=>ag1 h q),ag6 hh _ a (O0 h.lt) es ep t,⟨⟨_,O5 _ rfl,rfl,rfl⟩,h.at λo e=>H8 _ e⟩⟩
end
def eH{α:Type}(lt:Nat->Nat->Bool):KasT α->α
 |.ret a=>a
 |.ask i j k=>eH lt (k (lt i j))
def gq{α:Type}(P:Nat->Prop)(lt:Nat->Nat->Bool):KasT α->Prop
 |.ret _=>True
 |.ask i j k=>P i/\P j/\gq P lt (k (lt i j))
theorem rV{α β:Type}{lt:Nat->Nat->Bool}{f:α->KasT β}:∀t:KasT α,eH lt (t.bind f)=eH lt (f (eH lt t))
 |.ret _=>rfl
 |.ask i j k=>rV (k _)
theorem pS{α β:Type}{P:Nat->Prop}{lt:Nat->Nat->Bool}{f:α->KasT β}:∀t:KasT α,gq P lt t->gq P lt (f (eH lt t))->gq P lt (t.bind f)
 |.ret _,_,h=>h
 |.ask i j k,h,g=>⟨h.1,h.2.1,pS _ h.2.2 g⟩
theorem LI{α:Type}{P:Nat->Prop}{lt:Nat->Nat->Bool}{cmp:Nat->Nat->(Bool->Ψ->Prop)->Ψ->Prop}{Q:α->Ψ->Prop}(hc:∀i j C,P i->P j->C (lt i j) s->cmp i j C s):∀t:KasT α,gq P lt t->Q (eH lt t) s->t.kasWp cmp Q s
 |.ret _,_,h=>h
 |.ask i j k,a,h=>hc i j _ a.1 a.2.1 (LI hc _ a.2.2 h)
section
variable {n:Nat}{r:Nat->Nat}
abbrev fu(r:Nat->Nat):Nat->Nat->Bool:=λi j=>decide (r i<r j)
structure Pm (n:Nat) (p:Array Nat):Prop where
 pm:p.toList.Perm (θ n)
theorem Pm.size(h:Pm n p):p.size=n:=by have:=h.pm.length_eq;simpa using this
theorem Pm.lt(h:Pm n p)(h0:0<n)(i:Nat):p.getD i 0<n:=by
 by_cases q:i<p.size
 ·have:p[i]∈p.toList:=by simp
  have:=dg.mp (h.pm.mem_iff.mp this)
  simpa[Array.getD,q]using this
 ·simpa[Array.getD,q]using h0
theorem Pm.inj(h:Pm n p)(hi:i<n)(hj:j<n)(e:p.getD i 0=p.getD j 0):i=j:=by
 have hs:=h.size;have e1:p.toList[i]'(by simp;omega)=p.toList[j]'(by simp;omega):=by
  have a1:p.getD i 0=p[i]'∅:=by simp[Array.getD,show i<p.size by omega]
  have a2:p.getD j 0=p[j]'∅:=by simp[Array.getD,show j<p.size by omega]
  rw[a1,a2]at e
  simpa using e
 exact(Qf (h.pm.nodup_iff.mpr QY)).mp e1
theorem Pm.rev(h:Pm n p)(i j:Nat):Pm n (kas_rev p i j):=⟨(Vt.mp (mirror_perm p i j _)).trans h.pm⟩
theorem Pm.bub(h:Pm n p)(i j:Nat):Pm n (bubble p i j):=⟨(Vt.mp (bubble_perm p i j)).trans h.pm⟩
def jz(r:Nat->Nat)(p:Array Nat)(m:Nat):Prop:=∀i j,i<j->j<m->r (p.getD i 0)<r (p.getD j 0)
theorem jz.snoc(h:jz r p m)(hl:0<m->r (p.getD (m-1) 0)<r (p.getD m 0)):jz r p (m+1):=λi j hij hj=>by
 by_cases e:j=m
 ·subst e;have h0:=hl ∅
  by_cases q:i=j-1
  ·rw[q];exact h0
  ·exact Rp (h i _ ∅ ∅) h0
 ·exact h i j hij ∅
variable (inj:∀i j,i<n->j<n->r i=r j->i=j)
include inj in
theorem CL{p:Array Nat}(h:Pm n p){i j:Nat}(hi:i<n)(hj:j<n)(hne:i≠j):r (p.getD i 0)≠r (p.getD j 0):=λe=>hne (h.inj hi hj (inj _ _ (h.lt ∅ i) (h.lt ∅ j) e))
include inj in
theorem E6{p:Array Nat}(h:Pm n p):∀(f m:Nat),1<=m->m+f<=n->jz r p m->m<=eH (fu r) (kas_asc p f m)/\eH (fu r) (kas_asc p f m)<=m+f/\jz r p (eH (fu r) (kas_asc p f m))/\gq (· < n) (fu r) (kas_asc p f m)/\(eH (fu r) (kas_asc p f m)<m+f->r (p.getD (eH (fu r) (kas_asc p f m)) 0)<r (p.getD (eH (fu r) (kas_asc p f m)-1) 0))
 |0,m,h1,h2,ha=>⟨AP _,AP _,ha,trivial,λq=>absurd q (Pz m)⟩
 |f+1,m,h1,h2,ha=>by
  have a1:=h.lt ∅ m
  have a2:=h.lt ∅ (m-1)
  unfold kas_asc;simp only[eH,gq]
  by_cases q:r (p.getD m 0)<r (p.getD (m-1) 0)
  ·simp only[decide_eq_true q,if_true,eH,gq];exact⟨AP _,∅,ha,⟨a1,a2,trivial⟩,λ_=>q⟩
  ·have e:decide _=Δ:=decide_eq_false q;simp only[e,Py,if_false];have hne:=CL inj h (i:=m) (j:=m-1) ∅ ∅ ∅
   obtain⟨b1,b2,b3,b4,b5⟩:=E6 h f (m+1) ∅ ∅ (ha.snoc λ_=>∅)
   exact⟨∅,∅,b3,⟨a1,a2,b4⟩,λz=>b5 ∅⟩
def qz(r:Nat->Nat)(p:Array Nat)(m:Nat):Prop:=∀i j,i<j->j<m->r (p.getD j 0)<r (p.getD i 0)
theorem qz.snoc(h:qz r p m)(hl:0<m->r (p.getD m 0)<r (p.getD (m-1) 0)):qz r p (m+1):=λi j hij hj=>by
 by_cases e:j=m
 ·subst e;have h0:=hl ∅
  by_cases q:i=j-1
  ·rw[q];exact h0
  ·exact Rp h0 (h i (j-1) ∅ ∅)
 ·exact h i j hij ∅
include inj in
theorem NG{p:Array Nat}(h:Pm n p):∀(f m:Nat),1<=m->m+f<=n->qz r p m->∃m',eH (fu r) (kas_desc f p m 0)=(p,m',0)/\m<=m'/\m'<=m+f/\qz r p m'/\gq (· < n) (fu r) (kas_desc f p m 0)
 |0,m,h1,h2,ha=>⟨m,rfl,AP _,AP _,ha,trivial⟩
 |f+1,m,h1,h2,ha=>by
  have a1:=h.lt ∅ m
  have a2:=h.lt ∅ (m-1)
  unfold kas_desc;simp only[eH,gq]
  by_cases q:r (p.getD m 0)<r (p.getD (m-1) 0)
  ·simp only[decide_eq_true q,if_true,gt_iff_lt,Pz,if_false];obtain⟨m',b1,b2,b3,b4,b5⟩:=NG h f _ ∅ ∅ (ha.snoc λ_=>q)
   exact⟨m',b1,∅,∅,b4,a1,a2,b5⟩
  ·have e:decide _=Δ:=decide_eq_false q;have hne:=CL inj h (i:=m) (j:=m-1) ∅ ∅ ∅
   have q2:r (p.getD (m-1) 0)<r (p.getD m 0):=∅
   simp only[e,Py,if_false,eH,gq,decide_eq_true q2,if_true];exact⟨m,rfl,AP _,∅,ha,a1,a2,a2,a1,trivial⟩
theorem gD(p:Array Nat)(i:Nat):p.getD i 0=(p[i]?).getD 0:=by
 rw[UO]
theorem Jf{p:Array Nat}(hm:m<=p.size):(kas_rev p 0 m).getD k 0=if k<m then p.getD (m-1-k) 0 else p.getD k 0:=by
 unfold kas_rev;rw[gD,(getElem?_mirror (i:=0) (j:=m) hm _ ∅ k)]
 simp only[Nat.sub_zero,O9,Pd,true_and]
 by_cases q:k<m
 ·rw[if_pos q]
  by_cases z:k<m/2\/m-m/2<=k/\k<m
  ·rw[if_pos z,gD]
  ·have e:m-1-k=k:=∅
   rw[if_neg z,e,gD]
 ·rw[if_neg q,if_neg ∅,gD]
include inj in
theorem af9{p:Array Nat}(h:Pm n p){m:Nat}(h1:1<=m)(h2:m<=n)(hd:qz r p m):∃m' p',eH (fu r) (kas_tail3 m n p)=(m',p')/\Pm n p'/\1<=m'/\m'<=n/\jz r p' m'/\gq (· < n) (fu r) (kas_tail3 m n p):=by
 have ha:jz r (kas_rev p 0 m) m:=λi j hij hj=>by
  have hs:=h.size;rw[Jf ∅,Jf ∅,if_pos ∅,if_pos hj]
  exact hd _ _ ∅ ∅
 obtain⟨b1,b2,b3,b4,_⟩:=E6 inj (h.rev 0 m) (n-m) m h1 ∅ ha
 unfold kas_tail3;refine⟨_,_,by rw[rV];rfl,h.rev 0 m,∅,∅,b3,pS _ b4 trivial⟩
include inj in
theorem ab1{p:Array Nat}(h:Pm n p)(h2:2<=n):∃m p',eH (fu r) (kas_count n p)=(m,p')/\Pm n p'/\1<=m/\m<=n/\jz r p' m/\gq (· < n) (fu r) (kas_count n p):=by
 obtain⟨b1,b2,b3,b4,b5⟩:=E6 inj h (n-1) 1 ∅ ∅ (λi j hij hj=>∅)
 unfold kas_count;rw[rV];have hk:=fun{α:Type}{f:Nat->KasT α}=>pS (P:=(· < n)) (lt:=fu r) (f:=f) (kas_asc p _ 1) b4
 generalize eH (fu r) (kas_asc p _ 1)=m at b1 b2 b3 b5 hk
 by_cases e:m=n
 ·refine⟨m,p,?_,h,b1,∅,b3,hk ?_⟩<;>rw[if_pos (by simp[e])]
  ·rfl
  ·trivial
 ·have ne:¬(m==n)=J:=by simp[e]
  by_cases q:m>1
  ·have lt:=b3 0 (m-1) ∅ ∅
   refine⟨m,p,?_,h,b1,∅,b3,hk ?_⟩<;>rw[if_neg ne,if_pos q]
   ·simp only[eH,decide_eq_true lt,if_true]
   ·simp only[gq,decide_eq_true lt,if_true];exact⟨h.lt ∅ _,h.lt ∅ _,trivial⟩
  ·have e1:m=1:=∅
   subst e1;have d1:qz r p 2:=λi j hij hj=>by
    have:i=0:=∅
    have:j=1:=∅
    subst_vars
    exact b5 ∅
   obtain⟨m',c1,c2,c3,c4,c5⟩:=NG inj h (n-2) 2 ∅ ∅ d1
   obtain⟨m2,p2,t1,t2,t3,t4,t5,t6⟩:=af9 inj h (m:=m') ∅ ∅ c4
   have Mx:eH (fu r) (kas_descPart 1 n p)=(m2,p2)/\gq (· < n) (fu r) (kas_descPart 1 n p):=by
    unfold kas_descPart;rw[rV,show n-(1+1)=n-2 by omega,c1]
    refine⟨?_,pS _ c5 ?_⟩
    ·rw[if_neg (by simp)];exact t1
    ·rw[c1,if_neg (by simp)];exact t6
   refine⟨m2,p2,?_,t2,t3,t4,t5,hk ?_⟩<;>rw[if_neg ne,if_neg q]
   ·exact Mx.1
   ·exact Mx.2
include inj in
theorem ue{p:Array Nat}(h:Pm n p){k:Nat}(hk:k<n)(ha:jz r p k):∀(f lo hi:Nat),lo<=hi->hi<=k->hi-lo<=f->(∀i,i<lo->r (p.getD i 0)<r (p.getD k 0))->(∀i,hi<=i->i<k->r (p.getD k 0)<r (p.getD i 0)) ->
  ∃l,eH (fu r) (kas_place p k f lo hi)=l/\l<=k/\(∀i,i<l->r (p.getD i 0)<r (p.getD k 0))/\(∀i,l<=i->i<k->r (p.getD k 0)<r (p.getD i 0))/\gq (· < n) (fu r) (kas_place p k f lo hi)
 |0,lo,hi,h1,h2,h3,h4,h5=>⟨lo,rfl,∅,h4,λi h6 h7=>h5 i ∅ h7,trivial⟩
 |f+1,lo,hi,h1,h2,h3,h4,h5=>by
  unfold kas_place
  by_cases e:lo ≥ hi
  ·rw[if_pos e];exact⟨lo,rfl,∅,h4,λi h6 h7=>h5 i ∅ h7,trivial⟩
  ·rw[if_neg e];have a1:=h.lt ∅ k
   have a2:=h.lt ∅ ((lo+hi)/2)
   simp only[eH,gq]
   by_cases q:r (p.getD k 0)<r (p.getD ((lo+hi)/2) 0)
   ·simp only[decide_eq_true q,if_true];obtain⟨l,b1,b2,b3,b4,b5⟩:=ue h hk ha f lo ((lo+hi)/2) ∅ ∅ ∅ h4 (λi h6 h7=>by
     by_cases z:i=(lo+hi)/2
     ·rw[z];exact q
     ·exact Rp q (ha _ i ∅ h7))
    exact⟨l,b1,b2,b3,b4,a1,a2,b5⟩
   ·have ef:decide (r (p.getD k 0)<r (p.getD ((lo+hi)/2) 0))=Δ:=decide_eq_false q;have hne:=CL inj h (i:=k) (j:=(lo+hi)/2) hk ∅ ∅
    simp only[ef,Py,if_false];obtain⟨l,b1,b2,b3,b4,b5⟩:=ue h hk ha f ((lo+hi)/2+1) hi ∅ h2 ∅ (λi h6=>by
     by_cases z:i=(lo+hi)/2
     ·rw[z];omega
     ·have:=ha i ((lo+hi)/2) ∅ ∅;omega) h5
    exact⟨l,b1,b2,b3,b4,a1,a2,b5⟩
theorem Oh{p:Array Nat}(hk:k<p.size)(hl:l<=k):(bubble p k (k-l)).getD i 0=if i=l then p.getD k 0 else if l<i/\i<=k then p.getD (i-1) 0 else p.getD i 0:=by
 rw[gD,(getElem?_bubble (xs:=p) hk _ ∅ i),show k-_=l by omega]
 by_cases e:i=l
 ·rw[if_pos e,if_pos e,gD]
 ·rw[if_neg e,if_neg e]
  by_cases e2:l<i/\i<=k
  ·rw[if_pos e2,if_pos e2,gD]
  ·rw[if_neg e2,if_neg e2,gD]
include inj in
theorem Ov:∀(f:Nat) {p:Array Nat}(h:Pm n p) (k:Nat),k+f=n->jz r p k->∃p',eH (fu r) (kas_bin f p k)=p'/\Pm n p'/\jz r p' n/\gq (· < n) (fu r) (kas_bin f p k)
 |0,p,h,k,hk,ha=>⟨p,rfl,h,by rw[<-hk];exact ha,trivial⟩
 |f+1,p,h,k,hk,ha=>by
  have hs:=h.size;obtain⟨l,b1,b2,b3,b4,b5⟩:=ue inj h ∅ ha k 0 k ∅ ∅ ∅ (λi hi=>∅) (λi h1 h2=>∅)
  have ha':jz r (bubble p k _) (k+1):=λi j hij hj=>by
   rw[Oh ∅ b2,Oh ∅ b2]
   by_cases e1:i=l
   ·rw[if_pos e1,if_neg ∅,if_pos ∅]
    exact b4 _ ∅ ∅
   ·rw[if_neg e1]
    by_cases e2:j=l
    ·rw[if_pos e2,if_neg ∅]
     exact b3 i ∅
    ·rw[if_neg e2]
     by_cases e3:l<i/\i<=k
     ·rw[if_pos e3,if_pos ∅]
      exact ha _ _ ∅ ∅
     ·rw[if_neg e3]
      by_cases e4:l<j/\j<=k
      ·rw[if_pos e4]
       by_cases e5:i=j-1
       ·omega
       ·exact ha _ _ ∅ ∅
      ·rw[if_neg e4];exact ha _ _ ∅ ∅
  obtain⟨p',c1,c2,c3,c4⟩:=Ov f (h.bub k _) _ ∅ ha'
  unfold kas_bin;refine⟨p',by rw[rV,b1];exact c1,c2,c3,pS _ b5 (by rw[b1];exact c4)⟩
include inj in
theorem aha(h2:2<=n):∃p,eH (fu r) (kas_sort n)=p/\Pm n p/\jz r p n/\gq (· < n) (fu r) (kas_sort n):=by
 have h0:Pm n (List.toArray (θ n)):=⟨by simp⟩
 obtain⟨m,p,b1,b2,b3,b4,b5,b6⟩:=ab1 inj h0 h2;unfold kas_sort;rw[rV,b1]
 by_cases e:m<n
 ·have em:max m 1=m:=∅
  obtain⟨p',c1,c2,c3,c4⟩:=Ov inj (n-m) b2 m ∅ b5
  refine⟨p',?_,c2,c3,pS _ b6 ?_⟩
  ·rw[if_pos e,em];exact c1
  ·rw[b1,if_pos e,em];exact c4
 ·have em:m=n:=∅
  subst em;exact⟨p,by rw[if_neg e];rfl,b2,b5,pS _ b6 (by rw[b1,if_neg e];trivial)⟩
end
def eZ:List Int->List Int->Bool
 |[],[]=>Δ
 |[],_::_=>J
 |_::_,[]=>Δ
 |a::as,b::bs=>if a=b then eZ as bs else decide (a<b)
def fR(j k:Lk):Bool:=if j.1=k.1 then eZ j.2 k.2 else decide (j.1<k.1)
section
variable {prog:ν}{w:τ}{A:χ}{E:L->Ψ->Prop}{s:Ψ}{Y:S->Prop}
theorem Xj{P:Uq->Ψ->Prop}(hx:Qh (intKind prog w) s.heap x a)(hy:Qh (intKind prog w) s.heap y b)(h:P (.done (.ret (.bool (eZ x y)))) s):
  wpAny (model prog w) A (Builtin.«tuple.__lt__» ⟨[.ref a,.ref b],[]⟩) P E s:=by
 have hTb:=hy.typeIs;obtain⟨oa,xs,na,hoa,_,hda,ZH⟩:=hx;obtain⟨ob,ys,nb,hob,_,hdb,hib⟩:=hy;show wpAny _ _ (isInstance (.ref b) (.type "tuple") >>= _) _ _ s;refine Rc (Qc hTb Sg ?_);refine Rc (Ri hoa hda ?_);refine Rc (Ri hob hdb ?_);refine Rc ?_;refine Si _
  (λrest r s'=>r.1=O/\s'=s/\∃x' y' xs' ys',rest=List.zip xs' ys'/\ItemsAre (intKind prog w) x' xs'/\ItemsAre (intKind prog w) y' ys'/\eZ x' y'=eZ x y/\decide (xs'.length<ys'.length)=decide (xs.size<ys.size))
  _ ?_ ?_ _ _ ⟨rfl,rfl,x,y,xs.toList,ys.toList,rfl,ZH,hib,rfl,by simp⟩
 ·rintro ⟨u,v⟩ rest r s' ⟨hr,rfl,x',y',xs',ys',hz,hx',hy',y9,hlen⟩
  cases hx' with
  |nil=>simp at hz
  | @cons k1 u' x'' aae h1 Zd =>
   cases hy' with
   |nil=>simp at hz
   | @cons k2 v' afn afm h2 Zb =>
    obtain⟨⟨rfl,rfl⟩,rfl⟩:=hz;refine Rc ((intKind prog w).eqBool (a:=k1) (b:=k2) h1 h2 ?_)
    by_cases hk:k1=k2
    ·subst hk;simp;refine dD ⟨rfl,rfl,x'',afn,aae,afm,rfl,Zd,Zb,?_,by simpa using hlen⟩
     rw[<-y9];simp[eZ]
    ·rw[decide_eq_false hk];have hf:eZ x y=decide (k1<k2):=by rw[<-y9];simp[eZ,hk]
     rw[hf]at h;obtain⟨t1,rfl⟩:=RK h1;obtain⟨t2,rfl⟩:=RK h2;refine Rc (Qz (Rc (show wpAny _ _ _ _ _ _ from lt_int ?_)))
     exact Rc (dD (dD (dD h)))
 ·rintro ⟨r1,r2⟩ s' ⟨hr,rfl,x',y',xs',ys',hz,hx',hy',y9,hlen⟩
  subst hr;refine dD ?_;have se:decide (xs.size<ys.size)=eZ x y:=by
   rw[<-y9,<-hlen];cases hx' with
   |nil =>
    cases hy' with
    |nil=>simp[eZ]
    |cons _ _=>simp[eZ]
   |cons _ _ =>
    cases hy' with
    |nil=>simp[eZ]
    |cons _ _=>simp at hz
  show P (.done (.ret (.bool _))) s';rw[se];exact h
theorem Xi{Q:L->Ψ->Prop}(hu:A.units<O8)(hx:Qh (intKind prog w) s.heap x a)(hy:Qh (intKind prog w) s.heap y b)(h:Q (.bool (eZ x y)) s):
  wpAny (model prog w) A (compareOp .Lt (.ref a) (.ref b)) Q E s :=
 show wpAny _ _ _ _ _ _ from Vz (op:=.Lt) hx.typeIs hy.typeIs F.slot_tuple_lt
   (Q9 F.slot_tuple_lt hx.typeIs F.entry_tuple_lt (Xj hx hy ⟨_,rfl,(λe=>nomatch e),h⟩) (F.args_tuple_lt_2 _ _)) hu
theorem Ym{Q:Bool->Ψ->Prop}(hu:A.units<O8)(hx:cB prog w Y s.heap j a)(hy:cB prog w Y s.heap k b)(h:Q (fR j k) s):wpAny (model prog w) A (keyLt' (tuples' J) (.ref a) (.ref b)) Q E s:=by
 obtain⟨o,n,t,y,_,_,h1,h2,h3,h4⟩:=hx;obtain⟨o',n',t',y',_,_,g1,g2,g3,g4⟩:=hy;refine kat_lt h1 h3 g1 g3 ?_;refine kat_cons ((intKind prog w).eqBool (a:=j.1) (b:=k.1) (by simp[intKind,Value.isInt]) (by simp[intKind,Value.isInt]) ?_)
 unfold fR at h
 by_cases e1:j.1=k.1
 ·rw[if_pos e1]at h;rw[decide_eq_true e1];refine kat_yes (kat_cons ((tupleKind _).eqBool hu h4 g4 ?_))
  by_cases e2:j.2=k.2
  ·rw[decide_eq_true e2];refine kat_yes (kat_nil ?_);have:eZ j.2 k.2=Δ:=by
    rw[e2]
    generalize k.2=l
    induction l with
    |nil=>rfl
    |cons a l ih=>simp[eZ,ih]
   rw[this]at h
   simpa using h
  ·rw[decide_eq_false e2];exact kat_no (kat_one _ _ (Xi hu h4 g4 (h)))
 ·rw[if_neg e1]at h;rw[decide_eq_false e1];exact oneLt_int h
end
theorem Lj:∀l:List Int,eZ l l=Δ
 |[]=>rfl
 |a::l=>by simp[eZ,Lj l]
theorem Li:∀{l m:List Int},l≠m->eZ l m=J\/eZ m l=J
 |[],[],h=>absurd rfl h
 |[],_::_,_=>.inl rfl
 |_::_,[],_=>.inr rfl
 |a::l,b::m,h=>by
  unfold eZ
  by_cases e:a=b
  ·subst e;simp only;exact Li λq=>h (by rw[q])
  ·rw[if_neg e,if_neg (λq=>e q.symm)]
   simp;omega
theorem lex_trans:∀{l m n:List Int},eZ l m=J->eZ m n=J->eZ l n=J
 |[],[],_,h,_=>by cases h
 |[],_::_,[],_,h=>by cases h
 |[],_::_,_::_,_,_=>rfl
 |_::_,[],_,h,_=>by cases h
 |_::_,_::_,[],_,h=>by cases h
 |a::l,b::m,d::n,h,g=>by
  unfold eZ at h g ⊢
  by_cases e:a=b
  ·subst e;rw[if_pos rfl]at h
   by_cases e2:a=d
   ·subst e2;rw[if_pos rfl]at g ⊢;exact lex_trans h g
   ·rw[if_neg e2]at g ⊢;exact g
  ·rw[if_neg e]at h;have h:=of_decide_eq_true h
   by_cases e2:b=d
   ·subst e2;rw[if_neg e];exact decide_eq_true h
   ·rw[if_neg e2]at g;have g:=of_decide_eq_true g;rw[if_neg ∅]
    exact decide_eq_true ∅
theorem pK(k:Lk):fR k k=Δ:=by unfold fR;rw[if_pos rfl,Lj]
theorem C1(h:j≠k):fR j k=J\/fR k j=J:=by
 unfold fR
 by_cases e:j.1=k.1
 ·rw[if_pos e,if_pos e.symm];exact Li λq=>h (Prod.ext e q)
 ·rw[if_neg e,if_neg (λq=>e q.symm)]
  simp;omega
theorem yL(h:fR i j=J)(g:fR j k=J):fR i k=J:=by
 unfold fR at h g ⊢
 by_cases e:i.1=j.1
 ·rw[if_pos e]at h;rw[e]
  by_cases e2:j.1=k.1
  ·rw[if_pos e2]at g ⊢;exact lex_trans h g
  ·rw[if_neg e2]at g ⊢;exact g
 ·rw[if_neg e]at h;have h:=of_decide_eq_true h
  by_cases e2:j.1=k.1
  ·rw[<-e2,if_neg e];exact decide_eq_true h
  ·rw[if_neg e2]at g;have g:=of_decide_eq_true g;rw[if_neg ∅]
   exact decide_eq_true ∅
theorem Xk(h:fR j k=J):fR k j=Δ:=by
 cases q:fR k j with
 |false=>rfl
 |true=>have:=yL h q;rw[pK]at this;cases this
def nN(ks:List Lk)(k:Lk):Nat:=(ks.filter λz=>fR z k).length
theorem Nn{α:Type}{p q:α->Bool}:∀{l:List α},(∀a∈l,p a=J->q a=J)->(l.filter p).length<=(l.filter q).length
 |[],_=>AP _
 |a::l,h=>by
  have ih:=Nn (l:=l) λx hx=>h x (.tail _ hx)
  cases hp:p a with
  |true=>rw[Rg hp,Rg (h a (.head _) hp)];simpa using ih
  |false =>
   rw[Sd (by simp[hp])]
   rw[Vs];split
   ·simp;omega
   ·exact ih
theorem Nm{α:Type}{p q:α->Bool}:∀{l:List α},(∀a∈l,p a=J->q a=J)->(∃a∈l,p a=Δ/\q a=J)->(l.filter p).length<(l.filter q).length
 |[],_,⟨a,ha,_⟩=>by cases ha
 |a::l,h,⟨b,hb,h1,h2⟩=>by
  have hl:∀x∈l,p x=J->q x=J:=λx hx=>h x (.tail _ hx)
  rcases Bt.mp hb with rfl|hb
  ·rw[Sd (by simp[h1]),Rg h2]
   have:=Nn hl;simp;omega
  ·have ih:=Nm hl ⟨b,hb,h1,h2⟩;cases hp:p a with
   |true=>rw[Rg hp,Rg (h a (.head _) hp)];simpa using ih
   |false =>
    rw[Sd (by simp[hp]),Vs]
    split
    ·simp;omega
    ·exact ih
theorem xT(hj:j∈ks)(h:fR j k=J):nN ks j<nN ks k :=
 Nm (λa _ ha=>yL ha h) ⟨j,hj,pK j,h⟩
theorem Je(hj:j∈ks)(hk:k∈ks):fR j k=decide (nN ks j<nN ks k):=by
 by_cases e:j=k
 ·subst e;rw[pK];simp
 ·rcases C1 e with h|h
  ·rw[h,decide_eq_true (xT hj h)]
  ·rw[Xk h,decide_eq_false (by have:=xT hk h;omega)]
theorem ahY(hj:j∈ks)(hk:k∈ks)(e:nN ks j=nN ks k):j=k:=Q5 λq=>by
 rcases C1 q with h|h
 ·have:=xT hj h;omega
 ·have:=xT hk h;omega
abbrev oX(l:List Lk):Prop:=l.Pairwise λa b=>fR a b=J
def om(x:Lk):List Lk->List Lk
 |[]=>[x]
 |y::l=>if fR x y=J then x::y::l else if x=y then y::l else y::om x l
def ff:List Lk->List Lk
 |[]=>[]
 |x::l=>om x (ff l)
theorem CZ:∀{l:List Lk},y∈om x l↔y=x\/y∈l
 |[]=>by simp[om]
 |z::l=>by
  unfold om;split
  ·simp
  ·split
   ·rename_i h;subst h;simp
   ·simp only[Bt,CZ (l:=l)]
    constructor
    ·rintro (h|h|h)<;>simp[h]
    ·rintro (h|h|h)<;>simp[h]
theorem GU:∀{l:List Lk},oX l->oX (om x l)
 |[],_=>by simp[om]
 |z::l,h=>by
  obtain⟨h1,h2⟩:=Q7.mp h;unfold om;split
  ·rename_i hx;exact Q7.mpr ⟨λb hb=>by
    rcases Bt.mp hb with rfl|hb
    ·exact hx
    ·exact yL hx (h1 b hb),h⟩
  ·rename_i hx;split
   ·exact h
   ·rename_i hne;refine Q7.mpr ⟨λb hb=>?_,GU h2⟩
    rcases CZ.mp hb with rfl|hb
    ·rcases C1 hne with q|q
     ·exact absurd q hx
     ·exact q
    ·exact h1 b hb
theorem tG:∀l:List Lk,oX (ff l)
 |[]=>.nil
 |x::l=>GU (tG l)
theorem uI:∀{l:List Lk},y∈ff l↔y∈l
 |[]=>by simp[ff]
 |x::l=>by simp[ff,CZ,uI (l:=l)]
theorem GW:∀{l m:List Lk},oX l->oX m->(∀x,x∈l↔x∈m)->l=m
 |[],[],_,_,_=>rfl
 |[],y::m,_,_,h=>absurd ((h y).mpr (.head _)) (by simp)
 |x::l,[],_,_,h=>absurd ((h x).mp (.head _)) (by simp)
 |x::l,y::m,h1,h2,h=>by
  obtain⟨a1,a2⟩:=Q7.mp h1;obtain⟨b1,b2⟩:=Q7.mp h2;have Dt:∀z,fR z z=J->False:=λz q=>by rw[pK]at q;cases q
  have e:x=y:=by
   rcases Bt.mp ((h x).mp (.head _))with e|hx
   ·exact e
   ·rcases Bt.mp ((h y).mpr (.head _))with e|hy
    ·exact e.symm
    ·exact(Dt x (yL (a1 y hy) (b1 x hx))).elim
  subst e;rw[GW a2 b2 λz=>?_]
  constructor
  ·intro hz
   rcases Bt.mp ((h z).mp (.tail _ hz))with e|q
   ·subst e;exact(Dt _ (a1 z hz)).elim
   ·exact q
  ·intro hz
   rcases Bt.mp ((h z).mpr (.tail _ hz))with e|q
   ·subst e;exact(Dt _ (b1 z hz)).elim
   ·exact q
theorem Xa:y∈fF ks x↔y∈ks\/y=x:=by
 unfold fF;split
 ·rename_i h;exact⟨.inl,λq=>q.elim id λe=>e▸h⟩
 ·simp
theorem WE{ks:List Lk}(h:ks.Nodup):(fF ks x).Nodup:=by
 unfold fF;split
 ·exact h
 ·rename_i hx;refine Rh.mpr ⟨h,by simp,λa ha b hb=>?_⟩
  rw[Pa]at hb;subst hb;exact λe=>hx (e▸ha)
theorem yE:∀{xs ks:List Lk}{y:Lk},y∈xs.foldl fF ks↔y∈ks\/y∈xs
 |[],ks,y=>by simp
 |x::xs,ks,y=>by rw[RB,yE,Xa,Bt,or_assoc]
theorem yu:∀{xs ks:List Lk},ks.Nodup->(xs.foldl fF ks).Nodup
 |[],_,h=>h
 |x::xs,_,h=>yu (xs:=xs) (WE h)
section
variable {prog:ν}{w:τ}{A:χ}{E:L->Ψ->Prop}{s:Ψ}{Y:S->Prop}
theorem G4:∀(ξ:List (Lk×S)),(∀q∈ξ,cB prog w Y h q.1 q.2)->∃fs:List L,fs.length=ξ.length/\KatTups h (ξ.map λq=>Value.ref q.2) fs/\∀v∈fs,∃i t,v=Value.int i t
 |[],_=>⟨[],rfl,.nil,λv hv=>by cases hv⟩
 |q::ξ,hk=>by
  obtain⟨fs,h1,h2,h3⟩:=G4 ξ λq hq=>hk q (.tail _ hq)
  obtain⟨o,n,t,y,_,_,g1,g2,g3,_⟩:=hk q (.head _);refine⟨.int q.1.1 t::fs,by simp[h1],KatTups.cons g1 g2 g3 rfl h2,λv hv=>?_⟩
  rcases Bt.mp hv with rfl|hv
  ·exact⟨_,_,rfl⟩
  ·exact h3 v hv
def cy(ξ:List (Lk×S)):List L:=ξ.map λq=>Value.ref q.2
theorem ahb{Q:SortSt->Ψ->Prop}(hu:A.units+8<O8)(hk:∀q∈ξ,cB prog w Y s.heap q.1 q.2)(nd:(ξ.map (·.1)).Nodup)(h2:2<=ξ.length)(h64:ξ.length<64)(h:∀st' (L3:List (Lk×S)),(arrOf st').map (·.2)=(cy L3).toArray->failedOf st'=O->L3.Perm ξ->oX (L3.map (·.1))->Q st' s):
  wpAny (model prog w) A ((sortRuns').run (SortSt.mk' (tuples' J) ((cy ξ).toArray.zip (cy ξ).toArray) #[] 7 O)) (λr s'=>Q r.2 s') E s:=by
 have hl:(cy ξ).length=ξ.length:=by simp[cy]
 have d0:Lk×S:=((0,[]),0);have at':∀i,i<ξ.length->(cy ξ).getD i Value.none=Value.ref (ξ.getD i d0).2:=λi hi=>by
  simp[cy,I8,hi]
 have mem:∀i,i<ξ.length->ξ.getD i d0∈ξ:=λi hi=>by
  have:ξ.getD i d0=ξ[i]:=by simp[I8,hi]
  rw[this];exact PX hi
 have sd:∀i,i<ξ.length->(ξ.getD i d0).1∈ξ.map (·.1):=λi hi=>K1.mpr ⟨_,mem i hi,rfl⟩
 have inj:∀i j,i<ξ.length->j<ξ.length->nN (ξ.map (·.1)) (ξ.getD i d0).1=nN (ξ.map (·.1)) (ξ.getD j d0).1->i=j:=λi j hi hj e=>by
  have e1:=ahY (sd i hi) (sd j hj) e;have a1:(ξ.map (·.1))[i]'(by simpa using hi)=(ξ.map (·.1))[j]'(by simpa using hj):=by
   have b1:ξ.getD i d0=ξ[i]:=by simp[I8,hi]
   have b2:ξ.getD j d0=ξ[j]:=by simp[I8,hj]
   rw[b1,b2]at e1
   simpa using e1
  exact(Qf nd).mp a1
 obtain⟨p,e1,e2,e3,e4⟩:=aha (n:=ξ.length) inj h2;refine kat_run (κ:=tuples' J) (ks:=cy ξ) (vs:=cy ξ) (G:=λp' s'=>s'=s/\p'=p) rfl ∅ ∅ (λp' st' s' hp har hf hg=>?_) ?_
 ·obtain⟨rfl,rfl⟩:=hg;refine h st' (p'.toList.map λi=>ξ.getD i d0) ?_ hf ?_ ?_
  ·rw[kat_snds rfl har]
   congr 1
   unfold cy;rw[PV];refine Pk λi hi=>?_
   have:=dg.mp (e2.pm.mem_iff.mp hi);exact at' i this
  ·refine(e2.pm.map _).trans (VO ?_);refine Q4 (by simp) λi h1 h2=>?_
   simp at h1;simp[I8,h1]
  ·rw[PV];show Uu _ _;rw[SJ,Qw];intro i j hi hj hij;simp at hi hj;have:=e3 i j hij ∅
   have q1:p'.getD i 0=p'.toList[i]:=by simp[Array.getD,hi]
   have q2:p'.getD j 0=p'.toList[j]:=by simp[Array.getD,hj]
   rw[q1,q2]at this;have m1:=dg.mp (e2.pm.mem_iff.mp (PX (l:=p'.toList) (by simpa using hi)))
   have m2:=dg.mp (e2.pm.mem_iff.mp (PX (l:=p'.toList) (by simpa using hj)))
   show fR (ξ.getD p'.toList[i] d0).1 (ξ.getD p'.toList[j] d0).1=J;rw[Je (sd _ m1) (sd _ m2)];exact decide_eq_true this
 ·rw[hl];refine LI (P:=(· < ξ.length)) (λi j C hi hj hC=>?_) _ e4 ⟨rfl,e1⟩
  unfold kas_ask;rw[at' i hi,at' j hj];refine Ym ∅ (hk _ (mem i hi)) (hk _ (mem j hj)) ?_
  rw[Je (sd i hi) (sd j hj)];exact hC
theorem ahc{P:Uq->Ψ->Prop}(hu:A.units+8<O8)(ho:s.heap.get? a=U (seqObj "list" (cy ξ).toArray n))(ve:∀b,Y b->b<s.heap.objs.size/\b≠a)(hk:∀q∈ξ,cB prog w Y s.heap q.1 q.2)(nd:(ξ.map (·.1)).Nodup)(h64:ξ.length<64)(h:∀L3:List (Lk×S),L3.Perm ξ->oX (L3.map (·.1))->P (.done (.ret .none)) {s with heap:=sortedHeap s.heap a (cy ξ) (cy L3).toArray}):
  wpAny (model prog w) A (Builtin.«list.sort» ⟨[.ref a],[]⟩) P E s:=by
 have hl:(cy ξ).length=ξ.length:=by simp[cy]
 rw[list_sort_plain];have ha:a<s.heap.objs.size:=Iv ho;refine Rc (listItems_at ho rfl ?_);refine Rc (listUpdate_at ho rfl ?_ (by rw[O3,Qe];omega) (Pd _))
 obtain⟨e1,kF⟩:∃e1,(s.heap.update a (Obj.mapSeq λ_=>#[])).get? a=U (seqObj "list" #[] e1):=⟨_,SD ho (λ_=>#[])⟩
 refine Rc (seqEpoch_at kF rfl ?_);refine Rc (wpAny_newTuple ?_ (by show(cy ξ).length<=_;rw[Qe];omega))
 refine Rc (wpAny_newList ?_ (Pd _));refine Pq ?_;have ho6:(((s.heap.update a (Obj.mapSeq λ_=>#[])).push (seqObj "tuple" (cy ξ).toArray 0)).push (seqObj "list" #[] 0)).get? a=U (seqObj "list" #[] e1):=by
  rw[Heap.get?_push_ne _ _ _ (by rw[size_push',Tz];exact O0 (Q0 ha)),Heap.get?_push_ne _ _ _ (by rw[Tz];exact O0 ha)]
  exact kF
 have Mt:∀q∈ξ,cB prog w Y (((s.heap.update a (Obj.mapSeq λ_=>#[])).push (seqObj "tuple" (cy ξ).toArray 0)).push (seqObj "list" #[] 0)) q.1 q.2:=λq hq=>(hk q hq).at λb yb o e =>
  H8 _ (H8 _ ((Qd _ _ (Q2 (ve b yb).2)).trans e))
 dsimp only;have hsz:(cy ξ).toArray.size=ξ.length:=by simp[cy]
 by_cases h2:(cy ξ).toArray.size<2
 ·rw[if_pos h2,if_pos h2];refine Rc (dD ?_);rw[StateT.run_pure];refine Rc (dD ?_);dsimp only;have hz:((arrOf (SortSt.mk' general' ((cy ξ).toArray.zip (cy ξ).toArray) #[] 7 O)).map (·.2))=(cy ξ).toArray:=by
   apply Array.toList_inj.mp;rw[Array.toList_map,Array.toList_zip];exact List.map_snd_zip (AP _)
  refine Rc (seqEpoch_at ho6 rfl ?_);refine Rc (listUpdate_at ho6 rfl ?_ (Pd _) (by rw[hz,hsz,Qe];omega))
  rw[hz];simp only[bne_self_eq_false,Py,if_false];refine dD (h ξ (.refl _) ?_);rw[hsz]at h2
  match ξ,h2 with
  |[],_=>exact .nil
  |[q],_=>exact List.pairwise_singleton _ _
 ·rw[if_neg h2,if_neg h2];obtain⟨fs,f1,f2,f3⟩:=G4 ξ Mt;refine Rc (kat_kind (T:=.type "int") f2 ∅ (λv hv=>?_) rfl ?_)
  ·obtain⟨i,t,rfl⟩:=f3 v hv;exact Looks.of_pure rfl
  refine Rc (ahb (Q:=λst' s'=>s'={s with heap:=((s.heap.update a (Obj.mapSeq λ_=>#[])).push (seqObj "tuple" (cy ξ).toArray 0)).push (seqObj "list" #[] 0)}/\∃L3:List (Lk×S),(arrOf st').map (·.2)=(cy L3).toArray/\failedOf st'=O/\L3.Perm ξ/\oX (L3.map (·.1))) hu Mt nd ∅ h64 (λst' L3 a1 a2 a3 a4=>⟨rfl,L3,a1,a2,a3,a4⟩) |> λz=>Pg z ?_ λ_ _ e=>e)
  rintro ⟨⟨⟩,st'⟩ s' ⟨rfl,L3,a1,a2,a3,a4⟩
  dsimp only;have hl3:(cy L3).length=ξ.length:=by simp[cy,a3.length_eq]
  refine Rc (seqEpoch_at ho6 rfl ?_);refine Rc (listUpdate_at ho6 rfl ?_ (Pd _) (by rw[a1,O3,hl3,Qe];omega))
  rw[a1,a2];simp only[bne_self_eq_false,Py,if_false];exact dD (h L3 a3 a4)
theorem ahd{xs:List Lk}{Q:L->Ψ->Prop}(hh:A.handled=O)(hu:A.units+16<O8)(ve:∀b,Y b->∃o,s.heap.get? b=U o)(hS:jv prog w hL Y s.heap a (dI xs))(hn:(dI xs).length<64)(h:∀(h1 h':π) (tk c:Nat) (L3:List (Lk×S)),(∀b o,s.heap.get? b=U o->h1.get? b=U o)->(∀b o,h1.get? b=U o->h'.get? b=U o)->h'.get? h1.objs.size=U (seqObj "list" (cy L3).toArray c) ->
   (∀q∈L3,cB prog w Y h' q.1 q.2)->L3.map (·.1)=ff xs->Q (.ref h1.objs.size) {s with heap:=h',toks:=tk}):
  wpAny (model prog w) A (call (.builtin "sorted") [.ref a]) Q E s:=by
 obtain⟨o,es,ep,t,ξ,ho,hex,hd,I,hpl,lJ,hLe,hk,hp⟩:=hS;have hlen:es.size=(dI xs).length:=by
  have:=congrArg List.length hLe;rw[O2,PC]at this;rw[this,<-hp.length_eq,O2]
 have hok:iD w s.heap a es ep t:=⟨o,ho,hex,hd,⟨I.size,I.up,I.le,I.dm,I.mask,hpl⟩,lJ⟩;refine Calls.call_function_entry kind_sorted plain_sorted entry_sorted (args_sorted1 _) ?_;unfold Builtin.«sorted»;refine Rc (m:=checkCount "sorted" 1 1 _) (dD ?_);refine Rc (kdu_collect (A:=A.in1) (ahh (prog:=prog)) hh hok (by rw[Qe];omega) λh1 tk acc hkp hacc=>?_)
 have abz:acc.toList=(iG w a ep es).toList.map (·.2):=by
  have hlo:=(ux w a ep es).length_eq;rw[PC,PC]at hlo;apply Tw;intro i
  rcases Qk i acc.size with q|q
  ·have h3:=hacc.2 i acc[i] (RS q);rw[PK,Q6,Q6,h3,RS q]
  ·have h4:=hacc.1;rw[Qj (by simpa using q),Qj (by simp;omega)]
 obtain⟨L2,vj,lK⟩:∃L2:List (Lk×S),(iG w a ep es).toList=L2.map (lR hL)/\L2.Perm ξ:=by
  have mW:=ux w a ep es;rw[hLe]at mW;exact Jz mW
 have aby:acc.toList=cy L2:=by
  rw[abz,vj,PV];rfl
 have hk1:∀q∈L2,cB prog w Y h1 q.1 q.2:=λq hq=>(hk q (lK.mem_iff.mp hq)).at λb yb o e=>hkp b o e
 have hal:L2.length<64:=by
  rw[lK.length_eq];have:=hp.length_eq;rw[O2]at this;omega
 have nd:(L2.map (·.1)).Nodup:=((lK.map (·.1)).trans hp).nodup_iff.mpr (yu .nil);have hrl:(cy L2).length=L2.length:=by simp[cy]
 rw[aby];refine Rc (wpAny_newList ?_ (by rw[Qe];omega))
 have p9:(h1.push (seqObj "list" (cy L2).toArray 0)).get? h1.objs.size=U (seqObj "list" (cy L2).toArray 0):=O5 _ rfl;refine Rc (Pq (Q9 slot_list_sort ⟨_,p9,rfl⟩ entry_list_sort (ahc (Y:=Y) (s:={s with heap:=h1.push (seqObj "list" (cy L2).toArray 0),toks:=tk}) (by show A.units+1+1+8<O8;omega) p9 (λb yb=>?_) (λq hq=>(hk1 q hq).at λb yb o e=>H8 _ e) nd hal λL3 a1 a2=>⟨_,rfl,?_⟩) (args_list_sort _)))
 ·obtain⟨o',e'⟩:=ve b yb;have:=Iv (hkp b o' e');exact⟨by show b<(h1.push _).objs.size;rw[P9];exact Q0 this,O0 this⟩
 refine dD ⟨_,rfl,?_⟩;have hne:∀b o,h1.get? b=U o->b≠h1.objs.size:=λb o e=>O0 (Iv e)
 have g1:=SD p9 (λ_=>#[])
 have g2:=SD (H8 (seqObj "list" #[] 0) (H8 (seqObj "tuple" (cy L2).toArray 0) g1)) λ_=>(cy L3).toArray
 have kp:∀b o,h1.get? b=U o->(sortedHeap (h1.push (seqObj "list" (cy L2).toArray 0)) h1.objs.size (cy L2) (cy L3).toArray).get? b=U o:=λb o e=>by
  have q:=Q2 (hne b o e);exact(Qd _ _ q).trans (H8 _ (H8 _ ((Qd _ _ q).trans (H8 _ e))))
 refine h h1 _ tk _ L3 hkp kp g2 (λq hq=>(hk1 q (a1.mem_iff.mp hq)).at λb yb o e=>kp b o e) ?_
 refine GW a2 (tG xs) λx=>?_
 rw[((a1.trans lK).map (·.1)).mem_iff,hp.mem_iff,uI];unfold dI;rw[yE];simp
end
def lY(H:Hp)(a:S)(k:Lk):Prop:=∃y,H a=U (.tup [.int k.1,.ref y])/\H y=U (.tup (k.2.map V.int))
def fQ(H:Hp):List S->List Lk->Prop
 |[],[]=>True
 |a::as,k::ks=>lY H a k/\fQ H as ks
 |_,_=>False
theorem lY.mono(h:lY H a k)(m:∀b xs,H b=U (.tup xs)->H' b=U (.tup xs)):lY H' a k :=
 let⟨y,h1,h2⟩:=h;⟨y,m _ _ h1,m _ _ h2⟩
theorem fQ.mono(m:∀b xs,H b=U (.tup xs)->H' b=U (.tup xs)):∀{as:List S}{ks:List Lk},fQ H as ks->fQ H' as ks
 |[],[],_=>trivial
 |[],_::_,h=>h.elim
 |_::_,[],h=>h.elim
 |_::_,_::_,h=>⟨h.1.mono m,fQ.mono m h.2⟩
theorem fQ.len:∀{as:List S}{ks:List Lk},fQ H as ks->as.length=ks.length
 |[],[],_=>rfl
 |[],_::_,h=>h.elim
 |_::_,[],h=>h.elim
 |_::_,_::_,h=>congrArg (· + 1) (fQ.len h.2)
theorem fQ.at:∀{as:List S}{ks:List Lk},fQ H as ks->∀{i:Nat}{a:S}{k:Lk},as[i]? = U a->ks[i]? = U k->lY H a k
 |[],[],_,i,_,_,h,_=>by cases i<;>cases h
 |[],_::_,h,_,_,_,_,_=>h.elim
 |_::_,[],h,_,_,_,_,_=>h.elim
 |_::_,_::_,h,0,_,_,e1,e2=>by cases e1;cases e2;exact h.1
 |_::_,_::_,h,i+1,_,_,e1,e2=>fQ.at h.2 e1 e2
def abt(x:Lk×S×L):DictEntry:=⟨hL x.1,.ref x.2.1,x.2.2⟩
def gu(a:S)(kvs:List (Lk×Int))(as:List S):π->Prop:=λh=>∃o es ep,∃xs:List (Lk×S×L),h.get? a=U o/\o.ExactDict/\o.data=.dict es ep/\es.toList=xs.map abt/\xs.map (·.1)=kvs.map (·.1)/\xs.map (·.2.1)=as/\Vals (kvs.map λkv=>V.int kv.2) (xs.map (·.2.2))
def isStar:μ->Bool
 |.Starred _ _=>J
 |_=>Δ
theorem ez{env:Env}(h:isStar a=Δ):ε (a::es) env=(Δ,eval a env)::ε es env:=by
 cases a<;>first|(cases h;done)|(simp only[ε];done)
def noStar(es:List μ):Bool:=es.all λa=>!isStar a
theorem ig{env:Env}{pos:Pos}(h:noStar es=J):(OY pos (ε es env)).any (·.1)=Δ:=by
 induction es with
 |nil=>simp only[ε];rfl
 |cons a es ih =>
  have h:(!isStar a&&noStar es)=J:=h;rw[PF]at h;rw[ez (by simpa using h.1)]
  have:=ih h.2
  simpa[OY]using this
theorem nJ{env:Env}(h:isStar a=Δ):ε [a] env=[(Δ,eval a env)]:=by
 rw[ez h];simp only[ε]
theorem BC{env:Env}(h:isStar a=Δ)(g:isStar b=Δ):ε [a,b] env=[(Δ,eval a env),(Δ,eval b env)]:=by
 rw[ez h,nJ g]
theorem HJ{env:Env}{pos:Pos}(h:isStar a=Δ):((OY pos (ε [a] env)).all (λx=>!x.1)&&(R7 pos (R5 [] env)).all (λx=>x.1.isSome)
   && decide ([a].length+([]:List QL).length+(if([]:List QL).isEmpty then 0 else 1)<30))=J:=by
 rw[nJ h];simp[OY,R7,R5]
inductive D where
 |aF|bl (b:Bool)|int (i:Int)|str (x:Str)|ty (n:String)|tup (l:List D)|lst (l:List D)|ref (k:Nat)|bK (l:List Int)|fn (x:Str) (n:Nat)|exc (x:Str)|iM|dct (ks:List (Int×Int))|gb (kvs:List (Lk×Int))|lam (k:Nat) (e:μ) (ns:List Str) (l:List D)
inductive Cell where
 |lst (l:List D)
mutual
def noRef:D->Bool
 |.tup l=>bD l
 |.lst l=>bD l
 |.ref _=>Δ
 |.aF=>J
 |.bl _=>J
 |.int _=>J
 |.str _=>J
 |.ty _=>J
 |.bK _=>J
 |.fn _ _=>J
 |.exc _=>J
 |.iM=>J
 |.dct _=>J
 |.gb _=>J
 |.lam _ _ _ _=>Δ
def bD:List D->Bool
 |[]=>J
 |d::l=>noRef d&&bD l
end
mutual
def fm:D->Bool
 |.tup l=>fK l
 |.lst l=>fK l
 |.lam _ _ _ _=>Δ
 |.ref _=>J
 |.aF=>J
 |.bl _=>J
 |.int _=>J
 |.str _=>J
 |.ty _=>J
 |.bK _=>J
 |.fn _ _=>J
 |.exc _=>J
 |.iM=>J
 |.dct _=>J
 |.gb _=>J
def fK:List D->Bool
 |[]=>J
 |d::l=>fm d&&fK l
end
mutual
theorem Ko:∀d:D,noRef d=J->fm d=J
 |.tup l,h=>by unfold noRef at h;unfold fm;exact yq l h
 |.lst l,h=>by unfold noRef at h;unfold fm;exact yq l h
 |.lam _ _ _ _,h=>by unfold noRef at h;cases h
 |.ref _,h=>by unfold noRef at h;cases h
 |.aF,_=>by unfold fm;rfl
 |.bl _,_=>by unfold fm;rfl
 |.int _,_=>by unfold fm;rfl
 |.str _,_=>by unfold fm;rfl
 |.ty _,_=>by unfold fm;rfl
 |.bK _,_=>by unfold fm;rfl
 |.fn _ _,_=>by unfold fm;rfl
 |.exc _,_=>by unfold fm;rfl
 |.iM,_=>by unfold fm;rfl
 |.dct _,_=>by unfold fm;rfl
 |.gb _,_=>by unfold fm;rfl
theorem yq:∀l:List D,bD l=J->fK l=J
 |[],_=>by unfold fK;rfl
 |d::l,h=>by
  unfold bD at h;rw[PF]at h;unfold fK;rw[Ko d h.1,yq l h.2];rfl
end
theorem uC:∀{l m:List D},bD (l++m)=(bD l&&bD m)
 |[],m=>by simp[bD]
 |d::l,m=>by simp[bD,uC,Bool.and_assoc]
theorem Kl:∀{l:List D}{i:Nat}{d:D},bD l=J->noRef d=J->bD (l.set i d)=J
 |[],i,d,h,g=>h
 |b::l,0,d,h,g=>by simp_all[bD]
 |b::l,i+1,d,h,g=>by
  simp only[bD,PF]at h;simp only[List.set_cons_succ,bD,PF];exact⟨h.1,Kl h.2 g⟩
theorem gS:∀{l:List D},bD l=J↔∀d∈l,noRef d=J
 |[]=>by simp[bD]
 |d::l=>by simp[bD,gS]
theorem Wo{l:List Int}:bD (l.map D.int)=J:=gS.mpr λd h=>by
 obtain⟨i,_,rfl⟩:=K1.mp h;rfl
inductive R (α:Type) where
 |ok (a:α) (c:List Cell)
 |bad
def R.bind{α β:Type}(r:R α)(f:α->List Cell->R β):R β:=match r with
 |.ok a c=>f a c
 |.bad=>.bad
@[simp] theorem R.aH{α β:Type}{a:α}{f:α->List Cell->R β}:(R.ok a c).bind f=f a c:=rfl
@[simp] theorem R.ae3{α β:Type}{f:α->List Cell->R β}:(R.bad:R α).bind f=.bad:=rfl
def pQ:List Str:=["greatest_among","web_of","other_web","turned_at","pairs_web","field_web","net_web"]
def yN(x:Str):Str:=x++".<locals>."++"<lambda>"
def qk(c:S)(q:Str):π->Prop:=λh=>h.CodeRec (.ref c) q
def pP(a:S)(o:Obj):π->Prop:=λh=>h.get? a=U o
def wC(e:μ)(o:Obj)(q:Str)(c:S)(cl:List (Str×S)):Prop:=match e with
 |.Lambda params body scope _=>∃pm ctv,o=PySem.W.kla_obj "<lambda>" q params body scope cl pm c ctv
 |_=>False
def uZ:HO->Bool
 |.cG _=>J
 |_=>Δ
def jc(H:Hp)(cl:List (Str×S)):List Str->List V->Prop
 |[],xs=>xs=[]
 |x::ns,xs=>∃v r c oc u,xs=v::r/\cl.lookup x=U c/\H c=U (.cI oc (.own 0))/\oc.data=.cell (U u)/\RelV v u/\jc H cl ns r
def wL(cl:List (Str×S))(ns:List Str):Prop:=(∀x y c,cl.lookup x=U c->cl.lookup y=U c->x=y)/\∀x c,cl.lookup x=U c->x∈ns
def TabAt(H:Hp)(P:S)(q:Str):Prop:=∃ps,H P=U (.cG ps)/\TV ps.toList/\∀pos cv,codeAmong pos ps.toList=U cv->∃c,cv=.ref c/\H c=U (.ext (qk c q))
def qs(K:Ξ)(H:Hp):Prop:=∀x∈pQ,∀c P,PySem.W.tabIn K x=U (c,P)->TabAt H P (yN x)
theorem jc.mono{cl:List (Str×S)}:∀{ns:List Str}{xs:List V},(∀c o,H c=U (.cI o (.own 0))->H' c=U (.cI o (.own 0)))->jc H cl ns xs->jc H' cl ns xs
 |[],_,_,h=>h
 |x::ns,xs,k,h=>by
  obtain⟨v,r,c,oc,u,e,h0,h1,h2,h3,h4⟩:=h;exact⟨v,r,c,oc,u,e,h0,k _ _ h1,h2,h3,jc.mono k h4⟩
theorem jc.get{cl:List (Str×S)}:∀{ns:List Str}{xs:List V}{i:Nat}{x:Str},jc H cl ns xs->ns[i]? = U x->∃v c oc u,xs[i]? = U v/\cl.lookup x=U c/\H c=U (.cI oc (.own 0))/\oc.data=.cell (U u)/\RelV v u
 |[],_,_,_,_,e=>by cases e
 |_::ns,xs,0,_,h,e=>by
  obtain⟨v,r,c,oc,u,rfl,h0,h1,h2,h3,h4⟩:=h;cases e;exact⟨v,c,oc,u,rfl,h0,h1,h2,h3⟩
 |_::ns,xs,i+1,x,h,e=>by
  obtain⟨v,r,c,oc,u,rfl,h0,h1,h2,h3,h4⟩:=h;exact jc.get (i:=i) h4 e
theorem jc.length{cl:List (Str×S)}:∀{ns:List Str}{xs:List V},jc H cl ns xs->xs.length=ns.length
 |[],xs,h=>by cases(show xs=[]from h);rfl
 |_::ns,xs,h=>by
  obtain⟨v,r,c,oc,u,rfl,h0,h1,h2,h3,h4⟩:=h;simp[jc.length h4]
theorem TabAt.mono(h:TabAt H P q)(k1:∀ps,H P=U (.cG ps)->H' P=U (.cG ps))(k2:∀c φ,H c=U (.ext φ)->H' c=U (.ext φ)):TabAt H' P q:=by
 obtain⟨ps,h1,h2,h3⟩:=h;exact⟨ps,k1 ps h1,h2,λpos cv e=>let⟨c,e1,e2⟩:=h3 pos cv e;⟨c,e1,k2 _ _ e2⟩⟩
theorem qs.mono{K:Ξ}{H H':Hp}(h:qs K H)(k1:∀P ps,H P=U (.cG ps)->H' P=U (.cG ps))(k2:∀c φ,H c=U (.ext φ)->H' c=U (.ext φ)):qs K H':=λx hx c P e=>(h x hx c P e).mono (k1 P) k2
def qt(K:Ξ)(ρ:List S)(H:Hp)(a:S)(xs:List V):Prop:=(Rd H a (.lst xs)/\a∉ρ)\/bf K (λ_=>O) a xs
mutual
def Rel(K:Ξ)(ρ:List S)(H:Hp):D->V->Prop
 |.aF,v=>v=.aF
 |.bl b,v=>v=.bl b
 |.int i,v=>v=.int i
 |.str x,v=>v=.str x
 |.ty n,v=>v=.ty n
 |.tup l,v=>∃a xs,v=.ref a/\H a=U (.tup xs)/\aJ K ρ H l xs
 |.lst l,v=>∃a xs,v=.ref a/\(H a=U (.lst xs)/\a∉ρ)/\aJ K ρ H l xs
 |.ref k,v=>∃a,v=.ref a/\ρ[k]? = U a
 |.bK l,v=>∃a,v=.ref a/\qt K ρ H a (l.map V.int)
 |.fn x n,v=>∃a,v=.ref a/\υ K ι x=U (U (.ref a))
 |.iM,v=>∃a,v=.ref a/\H a=U (.ext (abD a))
 |.dct ks,v=>∃a kvs,v=.ref a/\H a=U (.dT kvs)/\∀p:Int×Int,((kvs.any λkv=>decide (kv.1=[Sum.inl p.1,Sum.inl p.2]))=decide (p∈ks))
 |.gb kvs,v=>∃a as,v=.ref a/\H a=U (.ext (gu a kvs as))/\fQ H as (kvs.map (·.1))
 |.exc x,v=>∃a C,v=.ref a/\υ K ι x=U (U (.ref C))/\H a=U (.ext (abc a C))
 |.lam _ e ns l,v=>∃a o q c cl xs,v=.ref a/\H a=U (.ext (pP a o))/\wC e o q c cl/\H c=U (.ext (qk c q))/\wL cl ns/\jc H cl ns xs/\aJ K ρ H l xs
def aJ(K:Ξ)(ρ:List S)(H:Hp):List D->List V->Prop
 |[],xs=>xs=[]
 |d::l,xs=>∃x r,xs=x::r/\Rel K ρ H d x/\aJ K ρ H l r
end
theorem qt.sql{K:Ξ}{H:Hp}{a:S}{xs:List V}(h:qt K ρ H a xs):bf K H a xs:=by
 rcases h with⟨h,_⟩|(h|h)
 ·exact .inl h
 ·rcases h with h|⟨o,h⟩<;>cases h
 ·exact .inr h
def adi(K:Ξ)(ρ:List S)(H:Hp)(a:S):Cell->Prop
 |.lst l=>bD l=J/\∃xs,H a=U (.lst xs)/\aJ K ρ H l xs
structure Wd (K:Ξ) (ρ:List S) (H:Hp) (c:List Cell):Prop where
 nd:ρ.Nodup
 len:ρ.length=c.length
 fP:∀(k:Nat) (a:S) (cl:Cell),ρ[k]? = U a->c[k]? = U cl->adi K ρ H a cl
 tab:qs K H
structure Ext (ρ:List S) (H:Hp) (ρ':List S) (H':Hp):Prop where
 pre:∀(k:Nat) (a:S),ρ[k]? = U a->ρ'[k]? = U a
 keep:∀a o,H a=U o->a∉ρ->uZ o=Δ->H' a=U o/\a∉ρ'
theorem Ext.refl:Ext ρ H ρ H:=⟨λ_ _ h=>h,λ_ _ h n _=>⟨h,n⟩⟩
theorem Ext.trans(x:Ext ρ H aM H1)(y:Ext aM H1 dP H2):Ext ρ H dP H2 :=
 ⟨λk a h=>y.pre k a (x.pre k a h),λa o h n t=>let⟨h1,n1⟩:=x.keep a o h n t;y.keep a o h1 n1 t⟩
section
variable {K:Ξ}{ρ ρ':List S}{H H':Hp}{c c':List Cell}
theorem Wd.at'(W:Wd K ρ H c)(h:a∈ρ):∃xs,H a=U (.lst xs):=by
 obtain⟨k,hk,e⟩:=Qy.mp h;have hc:k<c.length:=by rw[<-W.len];exact hk
 have q:=W.fP k a c[k] (by rw[O1 hk,e]) (O1 hc)
 cases hcl:c[k]with
 |lst l=>rw[hcl]at q;obtain⟨_,xs,h,_⟩:=q;exact⟨xs,h⟩
theorem Wd.Wj(W:Wd K ρ H c){xs:List V}(h:H a=U (.tup xs)):a∉ρ:=λm=>by
 obtain⟨ys,e⟩:=W.at' m;rw[e]at h;cases h
theorem Wd.nil(W:Wd K ρ H c)(h:H a=O):a∉ρ:=λm=>by
 obtain⟨ys,e⟩:=W.at' m;rw[e]at h;cases h
theorem qL(W:Wd K ρ H c)(x:Ext ρ H ρ' H'){xs:List V}(h:H a=U (.tup xs)):H' a=U (.tup xs):=(x.keep a _ h (W.Wj h) rfl).1
theorem C2(x:Ext ρ H ρ' H'){xs:List V}(h:H a=U (.lst xs)/\a∉ρ):H' a=U (.lst xs)/\a∉ρ':=x.keep a _ h.1 h.2 rfl
theorem HN(x:Ext ρ H ρ' H'){xs:List V}(h:qt K ρ H a xs):qt K ρ' H' a xs:=by
 rcases h with⟨h,n⟩|h
 ·rcases h with h|⟨o,h⟩
  ·exact .inl ⟨.inl (x.keep a _ h n rfl).1,(x.keep a _ h n rfl).2⟩
  ·exact .inl ⟨.inr ⟨o,(x.keep a _ h n rfl).1⟩,(x.keep a _ h n rfl).2⟩
 ·exact .inr h
mutual
theorem Rel.mono(W:Wd K ρ H c)(x:Ext ρ H ρ' H'):∀(d:D) (v:V),Rel K ρ H d v->Rel K ρ' H' d v
 |.aF,v,h=>h
 |.bl b,v,h=>h
 |.int i,v,h=>h
 |.str y,v,h=>h
 |.ty n,v,h=>h
 |.tup l,v,h=>by
  obtain⟨a,xs,e,s,r⟩:=h;exact⟨a,xs,e,qL W x s,aJ.mono W x l xs r⟩
 |.lst l,v,h=>by
  obtain⟨a,xs,e,s,r⟩:=h;exact⟨a,xs,e,C2 x s,aJ.mono W x l xs r⟩
 |.ref k,v,h=>by
  obtain⟨a,e,s⟩:=h;exact⟨a,e,x.pre k a s⟩
 |.bK l,v,h=>by
  obtain⟨a,e,s⟩:=h;exact⟨a,e,HN x s⟩
 |.fn a n,v,h=>h
 |.iM,v,h=>by
  obtain⟨a,e,q⟩:=h;exact⟨a,e,(x.keep a _ q (λm=>by obtain⟨ys,z⟩:=W.at' m;rw[z]at q;cases q) rfl).1⟩
 |.dct ks,v,h=>by
  obtain⟨a,kvs,e,q,z⟩:=h;exact⟨a,kvs,e,(x.keep a _ q (λm=>by obtain⟨ys,z⟩:=W.at' m;rw[z]at q;cases q) rfl).1,z⟩
 |.gb kvs,v,h=>by
  obtain⟨a,as,e,q,z⟩:=h;exact⟨a,as,e,(x.keep a _ q (λm=>by obtain⟨ys,z⟩:=W.at' m;rw[z]at q;cases q) rfl).1,z.mono λb xs=>qL W x⟩
 |.exc y,v,h=>by
  obtain⟨a,C,e,n,q⟩:=h;exact⟨a,C,e,n,(x.keep a _ q (λm=>by obtain⟨ys,z⟩:=W.at' m;rw[z]at q;cases q) rfl).1⟩
 |.lam _ y ns l,v,h=>by
  obtain⟨a,o,q,c,cl,xs,e,h1,h2,h3,h4,h5,h6⟩:=h;have nr:∀(b:S) (u:HO),H b=U u->(∀ys,u≠.lst ys)->b∉ρ:=λb u q n m=>by obtain⟨ys,z⟩:=W.at' m;rw[z]at q;exact n ys (P0 q).symm
  exact⟨a,o,q,c,cl,xs,e,(x.keep a _ h1 (nr a _ h1 λ_ z=>nomatch z) rfl).1,h2,(x.keep c _ h3 (nr c _ h3 λ_ z=>nomatch z) rfl).1,h4,h5.mono (λb o z=>(x.keep b _ z (nr b _ z λ_ z=>nomatch z) rfl).1),aJ.mono W x l xs h6⟩
theorem aJ.mono(W:Wd K ρ H c)(x:Ext ρ H ρ' H'):∀(l:List D) (xs:List V),aJ K ρ H l xs->aJ K ρ' H' l xs
 |[],xs,h=>h
 |d::l,xs,h=>by
  obtain⟨y,r,e,h1,h2⟩:=h;exact⟨y,r,e,Rel.mono W x d y h1,aJ.mono W x l r h2⟩
end
theorem aJ.length:∀{l:List D}{xs:List V},aJ K ρ H l xs->xs.length=l.length
 |[],xs,h=>by cases(show xs=[]from h);rfl
 |d::l,xs,h=>by
  obtain⟨y,r,rfl,h1,h2⟩:=h;simp only[PB,aJ.length h2]
theorem aJ.get:∀{l:List D}{xs:List V}{i:Nat}{d:D},aJ K ρ H l xs->l[i]? = U d->∃x,xs[i]? = U x/\Rel K ρ H d x
 |[],_,_,_,_,e=>by cases e
 |_::l,_,0,_,h,e=>by
  obtain⟨y,r,rfl,h1,h2⟩:=h;cases e;exact⟨y,rfl,h1⟩
 |_::l,_,i+1,_,h,e=>by
  obtain⟨y,r,rfl,h1,h2⟩:=h;exact aJ.get (i:=i) h2 e
theorem aJ.append:∀{l m:List D}{xs ys:List V},aJ K ρ H l xs->aJ K ρ H m ys->aJ K ρ H (l++m) (xs++ys)
 |[],m,xs,ys,h,g=>by cases(show xs=[]from h);exact g
 |d::l,m,xs,ys,h,g=>by
  obtain⟨y,r,rfl,h1,h2⟩:=h;exact⟨y,r++ys,rfl,h1,aJ.append h2 g⟩
theorem aJ.set:∀{l:List D}{xs:List V}{d:D}{x:V}(i:Nat),aJ K ρ H l xs->Rel K ρ H d x->aJ K ρ H (l.set i d) (xs.set i x)
 |[],xs,d,x,i,h,g=>by cases(show xs=[]from h);exact rfl
 |b::l,xs,d,x,0,h,g=>by
  obtain⟨y,r,rfl,h1,h2⟩:=h;exact⟨x,r,rfl,g,h2⟩
 |b::l,xs,d,x,i+1,h,g=>by
  obtain⟨y,r,rfl,h1,h2⟩:=h;exact⟨y,r.set i x,rfl,h1,aJ.set i h2 g⟩
theorem aJ.take:∀{l:List D}{xs:List V}(n:Nat),aJ K ρ H l xs->aJ K ρ H (l.take n) (xs.take n)
 |l,xs,0,h=>by simp only[List.take_zero];exact rfl
 |[],xs,n+1,h=>by cases(show xs=[]from h);exact rfl
 |d::l,xs,n+1,h=>by
  obtain⟨y,r,rfl,h1,h2⟩:=h;exact⟨y,r.take n,rfl,h1,aJ.take n h2⟩
theorem aJ.drop:∀{l:List D}{xs:List V}(n:Nat),aJ K ρ H l xs->aJ K ρ H (l.drop n) (xs.drop n)
 |l,xs,0,h=>h
 |[],xs,n+1,h=>by cases(show xs=[]from h);exact rfl
 |d::l,xs,n+1,h=>by
  obtain⟨y,r,rfl,h1,h2⟩:=h;exact aJ.drop n h2
theorem aJ.ints{l:List Int}:aJ K ρ H (l.map D.int) (l.map V.int):=by
 induction l with
 |nil=>exact rfl
 |cons a l ih=>exact⟨_,_,rfl,rfl,ih⟩
theorem aJ.pX:∀{l:List Int}{xs:List V},aJ K ρ H (l.map D.int) xs->xs=l.map V.int
 |[],xs,h=>h
 |a::l,xs,h=>by
  obtain⟨y,r,rfl,h1,h2⟩:=h;cases(show y=V.int a from h1)
  rw[aJ.pX h2];rfl
theorem aJ.EO:∀{l:List Bool}{xs:List V},aJ K ρ H (l.map D.bl) xs->xs=l.map V.bl
 |[],xs,h=>h
 |a::l,xs,h=>by
  obtain⟨y,r,rfl,h1,h2⟩:=h;cases(show y=V.bl a from h1)
  rw[aJ.EO h2];rfl
theorem Ext.fresh(W:Wd K ρ H c)(h:H p=O):Ext ρ H ρ (upd H p o) :=
 ⟨λ_ _ e=>e,λa u e n _=>⟨by rw[bz (dH e h)];exact e,n⟩⟩
theorem Wd.fresh(W:Wd K ρ H c)(h:H p=O):Wd K ρ (upd H p o) c :=
 ⟨W.nd,W.len,λk a cl e1 e2=>by
  have q:=W.fP k a cl e1 e2;cases cl with
  |lst l =>
   obtain⟨nr,xs,e,r⟩:=q;exact⟨nr,xs,by rw[bz (dH e h)];exact e,aJ.mono W (Ext.fresh W h) l xs r⟩,
  W.tab.mono (λP ps e=>by rw[bz (dH e h)];exact e) (λb φ e=>by rw[bz (dH e h)];exact e)⟩
theorem Ext.cell(W:Wd K ρ H c)(h:H p=O):Ext ρ H (ρ++[p]) (upd H p o) :=
 ⟨λk a e=>by rw[Pn (OX.mp e).1];exact e,λa u e n _=>⟨by rw[bz (dH e h)];exact e,by
  rw[PY]
  rintro (z|z)
  ·exact n z
  ·exact dH e h (by simpa using z)⟩⟩
theorem Wd.cell{xs:List V}(W:Wd K ρ H c)(h:H p=O)(nr:bD l=J)(r:aJ K ρ H l xs):Wd K (ρ++[p]) (upd H p (.lst xs)) (c++[.lst l]):=by
 have X:=Ext.cell (o:=.lst xs) W h;refine⟨?_,by simp[W.len],λk a cl e1 e2=>?_,W.tab.mono (λP ps e=>by rw[bz (dH e h)];exact e) (λb φ e=>by rw[bz (dH e h)];exact e)⟩
 ·rw[Rh];refine⟨W.nd,by simp,?_⟩
  intro a ha b hb;rw[Pa]at hb;subst hb;exact λz=>W.nil h (z▸ha)
 ·by_cases hk:k<c.length
  ·rw[Pn hk]at e2;rw[Pn (by rw[W.len];exact hk)]at e1
   have q:=W.fP k a cl e1 e2;cases cl with
   |lst l' =>
    obtain⟨lC,ys,e,r'⟩:=q;exact⟨lC,ys,by rw[bz (dH e h)];exact e,aJ.mono W X l' ys r'⟩
  ·have hk':k=c.length:=by
    have:=(OX.mp e2).1;simp at this;omega
   subst hk';rw[QT (AP _),Rf]at e2;rw[QT (by rw[W.len];exact AP _),W.len,Rf]at e1
   cases e1;cases e2;exact⟨nr,xs,eT,aJ.mono W X l xs r⟩
theorem Ext.write{k:Nat}(h:ρ[k]? = U p):Ext ρ H ρ (upd H p o) :=
 ⟨λ_ _ e=>e,λa u e n _=>⟨by rw[bz (λz=>n (by rw[z];exact P8 h))];exact e,n⟩⟩
theorem Wd.write{xs:List V}(W:Wd K ρ H c)(h:ρ[k]? = U p)(nr:bD l=J)(r:aJ K ρ H l xs):Wd K ρ (upd H p (.lst xs)) (c.set k (.lst l)):=by
 have X:=Ext.write (H:=H) (o:=.lst xs) h;obtain⟨ys,hy⟩:=W.at' (P8 h);refine⟨W.nd,by simp[W.len],λj a cl e1 e2=>?_,W.tab.mono (λP ps e=>by rw[bz (Ks e hy λz=>nomatch z)];exact e) (λb φ e=>by rw[bz (Ks e hy λz=>nomatch z)];exact e)⟩
 by_cases hj:j=k
 ·subst hj;rw[h]at e1;cases e1;have hl:j<c.length:=by rw[<-W.len];exact(OX.mp h).1
  rw[R3 hl]at e2;cases e2;exact⟨nr,xs,eT,aJ.mono W X l xs r⟩
 ·rw[Rz (Q2 hj)]at e2;have q:=W.fP j a cl e1 e2;have hap:a≠p:=by
   intro e;subst e;have h1:=(OX.mp h);have h2:=(OX.mp e1);exact hj ((Qf W.nd (h₀:=h2.1) (h₁:=h1.1)).mp (h2.2.trans h1.2.symm))
  cases cl with
  |lst l' =>
   obtain⟨lC,ys,e,r'⟩:=q;exact⟨lC,ys,by rw[bz hap];exact e,aJ.mono W X l' ys r'⟩
mutual
theorem Rel.low(h:∀a,a∈ρ'->a∈ρ):∀(d:D) (v:V),noRef d=J->Rel K ρ H d v->Rel K ρ' H d v
 |.aF,v,_,r=>r
 |.bl b,v,_,r=>r
 |.int i,v,_,r=>r
 |.str y,v,_,r=>r
 |.ty n,v,_,r=>r
 |.tup l,v,n,r=>by
  obtain⟨a,xs,e,s,r⟩:=r;exact⟨a,xs,e,s,aJ.low h l xs n r⟩
 |.lst l,v,n,r=>by
  obtain⟨a,xs,e,s,r⟩:=r;exact⟨a,xs,e,⟨s.1,λq=>s.2 (h a q)⟩,aJ.low h l xs n r⟩
 |.ref k,v,n,r=>by cases n
 |.bK l,v,n,r=>by
  obtain⟨a,e,s⟩:=r;refine⟨a,e,?_⟩
  rcases s with⟨s,z⟩|s
  ·exact .inl ⟨s,λq=>z (h a q)⟩
  ·exact .inr s
 |.fn a m,v,n,r=>r
 |.exc y,v,n,r=>r
 |.iM,v,n,r=>r
 |.dct _,v,n,r=>r
 |.gb _,v,n,r=>r
 |.lam _ _ _ _,v,n,r=>by cases n
theorem aJ.low(h:∀a,a∈ρ'->a∈ρ):∀(l:List D) (xs:List V),bD l=J->aJ K ρ H l xs->aJ K ρ' H l xs
 |[],xs,_,r=>r
 |d::l,xs,n,r=>by
  obtain⟨y,ys,e,h1,h2⟩:=r;have n:(noRef d&&bD l)=J:=n;rw[PF]at n;exact⟨y,ys,e,Rel.low h d y n.1 h1,aJ.low h l ys n.2 h2⟩
end
theorem Wd.cut(W:Wd K ρ H c)(hn:n<=c.length):Wd K (ρ.take n) H (c.take n):=by
 refine⟨W.nd.sublist (Sz _ _),by simp[W.len],λk a cl e1 e2=>?_,W.tab⟩
 rw[Sb]at e1 e2;split at e1
 ·rename_i hk;rw[if_pos hk]at e2;have q:=W.fP k a cl e1 e2;cases cl with
  |lst l =>
   obtain⟨nr,xs,e,r⟩:=q;exact⟨nr,xs,e,aJ.low (λa h=>Pc h) l xs nr r⟩
 ·cases e1
theorem Ext.cut(x:Ext ρ H ρ' H')(hn:ρ.length<=n):Ext ρ H (ρ'.take n) H' :=
 ⟨λk a e=>by rw[Sb,if_pos (O4 (OX.mp e).1 hn)];exact x.pre k a e,λa o e z t=>let⟨h1,h2⟩:=x.keep a o e z t;⟨h1,λq=>h2 (Pc q)⟩⟩
theorem Ext.len(W:Wd K ρ H c)(W':Wd K ρ' H' c')(x:Ext ρ H ρ' H'):c.length<=c'.length:=by
 rw[<-W.len,<-W'.len]
 by_cases h:ρ.length<=ρ'.length
 ·exact h
 ·exfalso;have e:=x.pre ρ'.length ρ[ρ'.length] (O1 _);rw[Qj (AP _)]at e;cases e
end
abbrev Ev:=List (Option D)
def post{α β:Type}(K:Ξ)(Rl:List S->Hp->α->β->Prop)(r:R α)(ρ:List S)(H:Hp)(Q:β->Hp->Prop):Prop:=match r with
 |.ok a c=>∀ρ' H' b,Wd K ρ' H' c->Ext ρ H ρ' H'->Rl ρ' H' a b->Q b H'
 |.bad=>False
structure dN (K:Ξ) (ρ:List S) (H:Hp) (e:Ev) (Z:St):Prop where
 get:∀(i:Nat) (d:D),e[i]? = U (U d)->∃v,Z[i]? = U (U v)/\Rel K ρ H d v
 len:e.length=Z.length
def tD{α β:Type}(K:Ξ)(Rl:List S->Hp->α->β->Prop)(d:Ev->List Cell->R α):St->Hp->(β->Hp->Prop)->Prop :=
 λZ H Q=>∃ρ e c,Wd K ρ H c/\dN K ρ H e Z/\post K Rl (d e c) ρ H Q
section
variable {α β γ δ:Type}{K:Ξ}{ρ ρ':List S}{H H':Hp}{c:List Cell}{e:Ev}{Z:St}{Rl:List S->Hp->α->β->Prop}{Rm:List S->Hp->γ->δ->Prop}
theorem dN.mono(V:dN K ρ H e Z)(W:Wd K ρ H c)(x:Ext ρ H ρ' H'):dN K ρ' H' e Z :=
 ⟨λi d h=>let⟨v,h1,h2⟩:=V.get i d h;⟨v,h1,Rel.mono W x d v h2⟩,V.len⟩
theorem dN.set(V:dN K ρ H e Z)(r:Rel K ρ H d v)(i:Nat):dN K ρ H (e.set i (U d)) (Z.set i (U v)):=by
 refine⟨λj b h=>?_,by simp[V.len]⟩
 by_cases hj:j=i
 ·subst hj;have hl:j<e.length:=by
   have:=(OX.mp h).1
   simpa using this
  rw[R3 hl]at h;cases h;exact⟨v,by rw[R3 (by rw[<-V.len];exact hl)],r⟩
 ·rw[Rz (Q2 hj)]at h ⊢;exact V.get j b h
theorem post.ext{Q:β->Hp->Prop}(p:post K Rl r ρ H Q)(x:Ext ρ H ρ' H'):post K Rl r ρ' H' Q:=by
 cases r with
 |ok a c=>exact λdP H2 b W y r=>p dP H2 b W (x.trans y) r
 |bad=>exact p
theorem post.bind{r:R α}{f:α->List Cell->R γ}{Q:δ->Hp->Prop}{Θ:β->Hp->Prop}(p:post K Rm (r.bind f) ρ H Q)
  (h:∀a c1 ρ' H' b,r=.ok a c1->Wd K ρ' H' c1->Ext ρ H ρ' H'->Rl ρ' H' a b->post K Rm (f a c1) ρ' H' Q->Θ b H'):post K Rl r ρ H Θ:=by
 cases r with
 |ok a c1=>exact λρ' H' b W x r=>h a c1 ρ' H' b rfl W x r (post.ext p x)
 |bad=>exact p
theorem post.here{Q:β->Hp->Prop}(p:post K Rl (.ok a c) ρ H Q)(W:Wd K ρ H c)(r:Rl ρ H a b):Q b H:=p ρ H b W Ext.refl r
end
abbrev bg(X:Cx)(e:μ)(d:Ev->List Cell->R D):Prop:=PE X e (tD X.K (Rel X.K) d)
abbrev jw(X:Cx)(e:μ)(d:Ev->List Cell->R Bool):Prop:=PT X e (tD X.K (λ_ _ a b=>a=b) d)
abbrev sP(X:Cx)(e:μ)(d:Ev->List Cell->R Bool):Prop:=PW X e (tD X.K (λ_ _ a b=>a=b) d)
abbrev gx(X:Cx)(es:List μ)(d:Ev->List Cell->R (List D)):Prop:=PA X es (tD X.K (aJ X.K) d)
section
variable {X:Cx}{e:μ}{es:List μ}{st:x6}{sts:List x6}
theorem PE.imp(h:PE X e t)(i:∀Z H Q,t' Z H Q->t Z H Q):PE X e t':=λpins s Z H Q I q=>h pins s Z H Q I (i _ _ _ q)
theorem PT.imp(h:PT X e t)(i:∀Z H Q,t' Z H Q->t Z H Q):PT X e t':=λpins s Z H Q I q=>h pins s Z H Q I (i _ _ _ q)
theorem PW.imp(h:PW X e t)(i:∀Z H Q,t' Z H Q->t Z H Q):PW X e t':=λwh pins s Z H Q I q=>h wh pins s Z H Q I (i _ _ _ q)
theorem PA.imp(h:PA X es t)(i:∀Z H Q,t' Z H Q->t Z H Q):PA X es t':=λpos pins s Z H Q I q=>h pos pins s Z H Q I (i _ _ _ q)
theorem PS.imp(h:PS X st t)(i:∀D Z H,t' D Z H->t D Z H):PS X st t':=λpins s Z H D I q=>h pins s Z H D I (i _ _ _ q)
theorem gI.imp(h:gI X sts t)(i:∀D Z H,t' D Z H->t D Z H):gI X sts t':=λpins s Z H D I q=>h pins s Z H D I (i _ _ _ q)
end
def ak(i:Nat):Ev->List Cell->R D:=λe c=>match e[i]? with
 |some (U d)=>.ok d c
 |_=>.bad
def dC(d:D):Ev->List Cell->R D:=λ_ c=>.ok d c
section
variable {X:Cx}
theorem au(i:Nat){pos:Pos}(hN:X.N[i]? = U x:=by rfl)(hv:wu X.env.scope x:=by first|exact Or.inl rfl|exact Or.inr (Or.inl rfl)|exact Or.inr (Or.inr rfl))(hd:(x==("__debug__":Str))=Δ:=by decide)(hcd:(x==("__classdict__":Str))=Δ:=by decide):bg X (.Name x pos) (ak i):=(Cg hN hv hd hcd).imp λZ H Q h=>by
 obtain⟨ρ,e,c,W,V,p⟩:=h;unfold ak at p;cases q:e[i]? with
 |none=>rw[q]at p;exact p.elim
 |some o =>
  rw[q]at p;cases o with
  |none=>exact p.elim
  |some d =>
   obtain⟨v,hv,r⟩:=V.get i d q;exact⟨v,hv,p.here W r⟩
theorem qY(h:PE X e (tC v))(r:∀ρ H,Rel X.K ρ H d v):bg X e (dC d):=h.imp λZ H Q h=>by
 obtain⟨ρ,e,c,W,V,p⟩:=h;exact post.here (r:=r ρ H) p W
theorem aN{i j pos}:bg X (.Constant (.int i) j pos) (dC (.int i)):=qY abR λ_ _=>rfl
theorem pG{b j pos}:bg X (.Constant (.bool b) j pos) (dC (.bl b)):=qY aiX λ_ _=>rfl
theorem jh{j pos}:bg X (.Constant .none j pos) (dC .aF):=qY ac8 λ_ _=>rfl
theorem um{x j pos}:bg X (.Constant (.str x) j pos) (dC (.str x)):=qY ai3 λ_ _=>rfl
theorem j7{pos:Pos}(hg:Gl X x)(hm:X.mg x=O)(hv:bootBuiltins x=U (.type n))(hn:x≠"__name__":=by decide)(hd:(x==("__debug__":Str))=Δ:=by decide):bg X (.Name x pos) (dC (.ty n)):=qY (ai5 hg hm hv hn hd) λ_ _=>rfl
theorem JF{pos:Pos}(hg:Gl X x)(hm:X.mg x=U (.int i t))(hd:(x==("__debug__":Str))=Δ:=by decide):bg X (.Name x pos) (dC (.int i)):=qY (akz (v:=.int i) hg hm ⟨t,rfl⟩ hd) λ_ _=>rfl
end
end L2
namespace L2
open PySem PySem.Spec PyProof.Rows
def av(f:D->D->List Cell->R D)(a b:Ev->List Cell->R D):Ev->List Cell->R D:=λe c=>(a e c).bind λx c=>(b e c).bind λy c=>f x y c
def r2(K:Ξ)(f:D->D->List Cell->R D):R2:=λv u H Q=>∃ρ x y c,Wd K ρ H c/\Rel K ρ H x v/\Rel K ρ H y u/\post K (Rel K) (f x y c) ρ H Q
def r1(K:Ξ)(f:D->List Cell->R D):V->Hp->VK->Prop:=λv H Q=>∃ρ x c,Wd K ρ H c/\Rel K ρ H x v/\post K (Rel K) (f x c) ρ H Q
def rN(K:Ξ)(f:List D->List Cell->R D):List V->Hp->VK->Prop:=λvs H Q=>∃ρ xs c,Wd K ρ H c/\aJ K ρ H xs vs/\post K (Rel K) (f xs c) ρ H Q
def aK(f:List D->List Cell->R D)(a:Ev->List Cell->R (List D)):Ev->List Cell->R D:=λe c=>(a e c).bind λxs c=>f xs c
section
variable {X:Cx}{a b:μ}{da db dd:Ev->List Cell->R D}{pos:Pos}{K:Ξ}{Z:St}{H:Hp}{Q:VK}{f:D->D->List Cell->R D}
theorem xB(h:tD K (Rel K) (av f da db) Z H Q):tD K (Rel K) da Z H λv H1=>tD K (Rel K) db Z H1 λu H2=>r2 K f v u H2 Q:=by
 obtain⟨ρ,e,c,W,V,p⟩:=h;refine⟨ρ,e,c,W,V,post.bind p λx c1 aM H1 v _ W1 X1 r1 p1=>⟨aM,e,c1,W1,V.mono W X1,post.bind p1 λy c2 dP H2 u _ W2 X2 r2 p2=>⟨dP,x,y,c2,W2,Rel.mono W1 X2 _ _ r1,r2,p2⟩⟩⟩
theorem Hu{g:List D->List Cell->R D}{ds:Ev->List Cell->R (List D)}(h:tD K (Rel K) (aK g ds) Z H Q):tD K (aJ K) ds Z H λvs H1=>rN K g vs H1 Q:=by
 obtain⟨ρ,e,c,W,V,p⟩:=h;exact⟨ρ,e,c,W,V,post.bind p λx c1 aM H1 v _ W1 X1 r1 p1=>⟨aM,x,c1,W1,r1,p1⟩⟩
theorem aU(ho:bS X (binaryOp op) (r2 X.K f))(ha:bg X a da)(hb:bg X b db):bg X (.BinOp a op b pos) (av f da db):=(JB ho ha hb).imp λZ H Q h=>xB h
theorem jH(ho:bS X (compareOp op) (r2 X.K f))(ha:bg X a da)(hb:bg X b db)(hm:behindInMarks op b=Δ:=by first|exact Ke _|rfl):bg X (.Compare a [op] [b] pos) (av f da db):=(akv ho ha hb hm).imp λZ H Q h=>xB h
theorem bM(hr:sR X (r2 X.K f))(ha:bg X a da)(hb:bg X b db)(hs:OM b:=by exact λ_ _=>rfl):bg X (.Subscript a b pos) (av f da db):=(abk hr ha hb hs).imp λZ H Q h=>xB h
end
def aq:Ev->List Cell->R (List D):=λ_ c=>.ok [] c
def ao(a:Ev->List Cell->R D)(r:Ev->List Cell->R (List D)):Ev->List Cell->R (List D):=λe c=>(a e c).bind λx c=>(r e c).bind λxs c=>.ok (x::xs) c
def bZ(a:Ev->List Cell->R (List D)):Ev->List Cell->R D:=λe c=>(a e c).bind λxs c=>if xs.length<=Ω then .ok (.tup xs) c else .bad
def bV(a:Ev->List Cell->R (List D)):Ev->List Cell->R D:=λe c=>(a e c).bind λxs c=>if xs.length<=Ω then .ok (.lst xs) c else .bad
def fN(a:Ev->List Cell->R (List D)):Ev->List Cell->R D:=λe c=>(a e c).bind λxs c=>if xs.length<=Ω/\bD xs=J then .ok (.ref c.length) (c++[.lst xs])else .bad
section
variable {X:Cx}{a:μ}{es:List μ}{da:Ev->List Cell->R D}{ds:Ev->List Cell->R (List D)}{pos:Pos}{K:Ξ}{ρ:List S}{H:Hp}{c:List Cell}{Q:VK}{xs:List D}{vs:List V}
theorem az:gx X [] aq:=lA.imp λZ H Q h=>by
 obtain⟨ρ,e,c,W,V,p⟩:=h;exact post.here p W rfl
theorem ay(ha:bg X a da)(hr:gx X es ds)(hs:ε (a::es) X.env=(Δ,eval a X.env)::ε es X.env:=by exact ez rfl):gx X (a::es) (ao da ds):=(jJ ha hr hs).imp λZ H Q h=>by
 obtain⟨ρ,e,c,W,V,p⟩:=h;exact⟨ρ,e,c,W,V,post.bind p λx c1 aM H1 v _ W1 X1 r1 p1=>⟨aM,e,c1,W1,V.mono W X1,post.bind p1 λy c2 dP H2 u _ W2 X2 r2 p2=>p2.here W2 ⟨v,u,rfl,Rel.mono W1 X2 _ _ r1,r2⟩⟩⟩
theorem yr(W:Wd K ρ H c)(r:aJ K ρ H xs vs)(p:post K (Rel K) (.ok (.tup xs) c) ρ H Q):∀q,H q=O->Q (.ref q) (upd H q (.tup vs)):=λq hq =>
 p ρ _ _ (W.fresh hq) (Ext.fresh W hq) ⟨q,vs,rfl,eT,aJ.mono W (Ext.fresh W hq) _ _ r⟩
theorem rA(W:Wd K ρ H c)(r:aJ K ρ H xs vs)(p:post K (Rel K) (.ok (.lst xs) c) ρ H Q):∀q,H q=O->Q (.ref q) (upd H q (.lst vs)):=λq hq =>
 p ρ _ _ (W.fresh hq) (Ext.fresh W hq) ⟨q,vs,rfl,⟨eT,W.nil hq⟩,aJ.mono W (Ext.fresh W hq) _ _ r⟩
theorem CH(W:Wd K ρ H c)(nr:bD xs=J)(r:aJ K ρ H xs vs)(p:post K (Rel K) (.ok (.ref c.length) (c++[.lst xs])) ρ H Q):∀q,H q=O->Q (.ref q) (upd H q (.lst vs)):=λq hq =>
 p _ _ _ (W.cell hq nr r) (Ext.cell W hq) ⟨q,rfl,by rw[QT (by rw[W.len];exact AP _),W.len,Rf];rfl⟩
theorem gj{x1}(h:gx X es ds):bg X (.Tuple es x1 pos) (bZ ds):=(ai4 h).imp λZ H Q h=>by
 obtain⟨ρ,e,c,W,V,p⟩:=h;refine⟨ρ,e,c,W,V,post.bind p λx c1 aM H1 v _ W1 X1 r1 p1=>?_⟩
 split at p1
 ·rename_i hl;exact⟨by rw[r1.length];exact hl,yr W1 r1 p1⟩
 ·exact p1.elim
theorem gk(h:gx X es ds):bg X (.List es pos) (bV ds):=(JC h).imp λZ H Q h=>by
 obtain⟨ρ,e,c,W,V,p⟩:=h;refine⟨ρ,e,c,W,V,post.bind p λx c1 aM H1 v _ W1 X1 r1 p1=>?_⟩
 split at p1
 ·rename_i hl;exact⟨by rw[r1.length];exact hl,rA W1 r1 p1⟩
 ·exact p1.elim
theorem ly(h:gx X es ds):bg X (.List es pos) (fN ds):=(JC h).imp λZ H Q h=>by
 obtain⟨ρ,e,c,W,V,p⟩:=h;refine⟨ρ,e,c,W,V,post.bind p λx c1 aM H1 v _ W1 X1 r1 p1=>?_⟩
 split at p1
 ·rename_i hl;exact⟨by rw[r1.length];exact hl.1,CH W1 hl.2 r1 p1⟩
 ·exact p1.elim
end
def aZ:D->D->List Cell->R D:=λx y c=>match x,y with
 |.int i,.int j=>.ok (.int (i+j)) c
 |.str a,.str b=>if a.length+b.length<=Ω then .ok (.str (a++b)) c else .bad
 |.tup l,.tup m=>if l.length≠0/\l.length+m.length<=Ω then .ok (.tup (l++m)) c else .bad
 |_,_=>.bad
def k6:D->D->List Cell->R D:=λx y c=>match x,y with
 |.int i,.int j=>.ok (.int (i-j)) c
 |_,_=>.bad
def bY:D->D->List Cell->R D:=λx y c=>match x,y with
 |.int i,.int j=>if(-(2^64)<i/\i<2^64)\/(-(2^64)<j/\j<2^64)then .ok (.int (i*j)) c else .bad
 |_,_=>.bad
def dX:D->D->List Cell->R D:=λx y c=>match x,y with
 |.int i,.int j=>if 0<j/\j<1073741824 then .ok (.int (i/j)) c else .bad
 |_,_=>.bad
def fq:D->D->List Cell->R D:=λx y c=>match x,y with
 |.int i,.int j=>if 0<j then .ok (.int (i % j)) c else .bad
 |_,_=>.bad
def qW:D->D->List Cell->R D:=λx y c=>match x,y with
 |.int i,.int j=>if 0<=j/\j<=1000000/\i.natAbs<2^64 then .ok (.int (i^j.toNat)) c else .bad
 |_,_=>.bad
def sG(p:Int->Int->Bool):D->D->List Cell->R D:=λx y c=>match x,y with
 |.int i,.int j=>.ok (.bl (p i j)) c
 |_,_=>.bad
section
variable {X:Cx}
theorem cO:bS X (binaryOp .Add) (r2 X.K aZ):=by
 intro pins s Z H v u vv uu Q I rv ru h;obtain⟨ρ,x,y,c,W,rx,ry,p⟩:=h;unfold aZ at p;split at p
 ·cases rx;cases ry;exact ajG pins s Z H _ _ vv uu Q I rv ru ⟨_,_,rfl,rfl,p.here W rfl⟩
 ·split at p
  ·rename_i hl;cases rx;cases ry;exact ajH pins s Z H _ _ vv uu Q I rv ru ⟨_,_,rfl,rfl,hl,p.here W rfl⟩
  ·exact p.elim
 ·split at p
  ·rename_i hl;obtain⟨a,xs,rfl,sa,ra⟩:=rx;obtain⟨b,ys,rfl,sb,rb⟩:=ry;refine JT pins s Z H _ _ vv uu Q I rv ru ⟨a,b,xs,ys,rfl,rfl,bO.of sa,bO.of sb,λz=>hl.1 ?_,by rw[ra.length,rb.length];exact hl.2,λz=>?_,λ_=>yr W (ra.append rb) p⟩
   ·rw[<-ra.length,z];rfl
   ·refine p.here W ⟨a,xs++ys,rfl,by rw[z,QX];exact sa,ra.append rb⟩
  ·exact p.elim
 ·exact p.elim
theorem uA:bS X (binaryOp .Sub) (r2 X.K k6):=by
 intro pins s Z H v u vv uu Q I rv ru h;obtain⟨ρ,x,y,c,W,rx,ry,p⟩:=h;unfold k6 at p;split at p
 ·cases rx;cases ry;exact ajc pins s Z H _ _ vv uu Q I rv ru ⟨_,_,rfl,rfl,p.here W rfl⟩
 ·exact p.elim
theorem gR:bS X (binaryOp .Mult) (r2 X.K bY):=by
 intro pins s Z H v u vv uu Q I rv ru h;obtain⟨ρ,x,y,c,W,rx,ry,p⟩:=h;unfold bY at p;split at p
 ·split at p
  ·rename_i hl;cases rx;cases ry;exact aiy pins s Z H _ _ vv uu Q I rv ru ⟨_,_,rfl,rfl,hl,p.here W rfl⟩
  ·exact p.elim
 ·exact p.elim
theorem kg:bS X (binaryOp .FloorDiv) (r2 X.K dX):=by
 intro pins s Z H v u vv uu Q I rv ru h;obtain⟨ρ,x,y,c,W,rx,ry,p⟩:=h;unfold dX at p;split at p
 ·split at p
  ·rename_i hl;cases rx;cases ry;exact ajN pins s Z H _ _ vv uu Q I rv ru ⟨_,_,rfl,rfl,hl,p.here W rfl⟩
  ·exact p.elim
 ·exact p.elim
theorem kc:bS X (binaryOp .Mod) (r2 X.K fq):=by
 intro pins s Z H v u vv uu Q I rv ru h;obtain⟨ρ,x,y,c,W,rx,ry,p⟩:=h;unfold fq at p;split at p
 ·split at p
  ·rename_i hl;cases rx;cases ry;exact aix pins s Z H _ _ vv uu Q I rv ru ⟨_,_,rfl,rfl,hl,p.here W rfl⟩
  ·exact p.elim
 ·exact p.elim
theorem J7:bS X (binaryOp .Pow) (r2 X.K qW):=by
 intro pins s Z H v u vv uu Q I rv ru h;obtain⟨ρ,x,y,c,W,rx,ry,p⟩:=h;unfold qW at p;split at p
 ·split at p
  ·rename_i hl;cases rx;cases ry;exact ajb pins s Z H _ _ vv uu Q I rv ru ⟨_,_,rfl,rfl,hl,p.here W rfl⟩
  ·exact p.elim
 ·exact p.elim
theorem CB{f:L->L->Sem L}{q:Int->Int->Bool}(h:bS X f (mz λi j=>.bl (q i j))):bS X f (r2 X.K (sG q)):=by
 intro pins s Z H v u vv uu Q I rv ru hh;obtain⟨ρ,x,y,c,W,rx,ry,p⟩:=hh;unfold sG at p;split at p
 ·cases rx;cases ry;exact h pins s Z H _ _ vv uu Q I rv ru ⟨_,_,rfl,rfl,p.here W rfl⟩
 ·exact p.elim
abbrev kB:=sG λi j=>decide (i<j)
abbrev jR:=sG λi j=>decide (j<i)
abbrev MQ:=sG λi j=>decide (j<=i)
theorem uB:bS X (compareOp .Lt) (r2 X.K kB):=CB ajR
theorem yi:bS X (compareOp .Gt) (r2 X.K jR):=CB ajP
theorem ajV:bS X (compareOp .GtE) (r2 X.K MQ):=CB ajO
end
def Er:D->D->Option Bool
 |.aF,.aF=>U J|.aF,.int _=>U Δ|.int _,.aF=>U Δ|.aF,.bl _=>U Δ|.bl _,.aF=>U Δ|.aF,.str _=>U Δ|.str _,.aF=>U Δ
 |.int i,.int j=>U (decide (i=j))|.bl a,.bl b=>U (decide (a=b))|.str x,.str y=>U (decide (x=y))
 |.int _,.str _=>U Δ|.str _,.int _=>U Δ|.bl _,.str _=>U Δ|.str _,.bl _=>U Δ
 |_,_=>O
def bH:D->D->List Cell->R D:=λx y c=>match Er x y with
 |some b=>.ok (.bl b) c
 |none=>.bad
def fL:D->D->List Cell->R D:=λx y c=>match Er x y with
 |some b=>.ok (.bl (!b)) c
 |none=>.bad
def fM:D->Bool
 |.aF=>J
 |_=>Δ
def mU:D->D->List Cell->R D:=λx y c=>match y with
 |.aF=>.ok (.bl (fM x)) c
 |_=>.bad
def iJ:D->D->List Cell->R D:=λx y c=>match y with
 |.aF=>.ok (.bl (!fM x)) c
 |_=>.bad
section
variable {X:Cx}{K:Ξ}{ρ:List S}{H:Hp}{c:List Cell}
theorem Nz(rx:Rel K ρ H x v)(ry:Rel K ρ H y u)(h:Er x y=U b):BL v u=J/\decide (v=u)=b:=by
 cases x<;>cases y<;>first
  |(cases rx;cases ry;cases h;refine⟨rfl,?_⟩;simp;done)
  |(cases h;done)
theorem fk:bS X (compareOp .Eq) (r2 X.K bH):=by
 intro pins s Z H v u vv uu Q I rv ru h;obtain⟨ρ,x,y,c,W,rx,ry,p⟩:=h;unfold bH at p;split at p
 ·rename_i b hb;obtain⟨h1,h2⟩:=Nz rx ry hb;exact ajM pins s Z H _ _ vv uu Q I rv ru ⟨h1,by rw[h2];exact p.here W rfl⟩
 ·exact p.elim
theorem nR:bS X (compareOp .NotEq) (r2 X.K fL):=by
 intro pins s Z H v u vv uu Q I rv ru h;obtain⟨ρ,x,y,c,W,rx,ry,p⟩:=h;unfold fL at p;split at p
 ·rename_i b hb;obtain⟨h1,h2⟩:=Nz rx ry hb;exact aiz pins s Z H _ _ vv uu Q I rv ru ⟨h1,by rw[h2];exact p.here W rfl⟩
 ·exact p.elim
theorem LQ(rx:Rel K ρ H x v):decide (v=.aF)=fM x:=by
 cases x<;>first
  |(cases rx;rfl;done)
  |(cases rx;simp[fM];done)
  |(obtain⟨a,xs,rfl,_⟩:=rx;simp[fM];done)
  |(obtain⟨a,rfl,_⟩:=rx;simp[fM];done)
  |(obtain⟨a,o,q,c,cl,xs,rfl,_⟩:=rx;simp[fM];done)
theorem Cz:bS X (compareOp .Is) (r2 X.K mU):=by
 intro pins s Z H v u vv uu Q I rv ru h;obtain⟨ρ,x,y,c,W,rx,ry,p⟩:=h;unfold mU at p;split at p
 ·cases ry;exact ajQ pins s Z H _ _ vv uu Q I rv ru ⟨rfl,by rw[LQ rx];exact p.here W rfl⟩
 ·exact p.elim
theorem yg:bS X (compareOp .IsNot) (r2 X.K iJ):=by
 intro pins s Z H v u vv uu Q I rv ru h;obtain⟨ρ,x,y,c,W,rx,ry,p⟩:=h;unfold iJ at p;split at p
 ·cases ry;exact aja pins s Z H _ _ vv uu Q I rv ru ⟨rfl,by rw[LQ rx];exact p.here W rfl⟩
 ·exact p.elim
end
def fH(c:List Cell):D->Option (List D)
 |.tup l=>U l
 |.lst l=>U l
 |.bK l=>U (l.map D.int)
 |.ref k=>match c[k]? with
  |some (.lst l)=>U l
  |none=>O
 |_=>O
def aG:D->D->List Cell->R D:=λx y c=>match y with
 |.int i=>match fH c x with
  |some l=>match dY l i with
   |some d=>.ok d c
   |none=>.bad
  |none=>.bad
 |_=>.bad
section
variable {X:Cx}{K:Ξ}{ρ:List S}{H:Hp}{c:List Cell}
theorem xO(W:Wd K ρ H c)(rx:Rel K ρ H x v)(h:fH c x=U l):∃a xs,v=.ref a/\(bf K H a xs\/bO K H a xs)/\aJ K ρ H l xs:=by
 cases x with
 |tup m =>
  cases h;obtain⟨a,xs,e,s,r⟩:=rx;exact⟨a,xs,e,.inr (bO.of s),r⟩
 |lst m =>
  cases h;obtain⟨a,xs,e,s,r⟩:=rx;exact⟨a,xs,e,.inl (bf.of s.1),r⟩
 |bK m =>
  cases h;obtain⟨a,e,s⟩:=rx;exact⟨a,_,e,.inl s.sql,aJ.ints⟩
 |ref k =>
  obtain⟨a,e,s⟩:=rx;unfold fH at h;dsimp only at h;cases hc:c[k]? with
  |none=>rw[hc]at h;cases h
  |some cl =>
   cases cl with
   |lst m =>
    rw[hc]at h;cases h;obtain⟨_,xs,hx,r⟩:=W.fP k a _ s hc;exact⟨a,xs,e,.inl (bf.of hx),r⟩
 |_=>cases h
theorem acP{xs:List V}(r:aJ K ρ H l xs)(h:dY l i=U d):∃v,dY xs i=U v/\Rel K ρ H d v:=by
 unfold dY at h ⊢;rw[r.length];cases e:gV l.length i with
 |none=>rw[e]at h;cases h
 |some j =>
  rw[e]at h;exact r.get h
theorem bN:sR X (r2 X.K aG):=by
 intro value slice pins s Z H v u vv uu Q I rv ru h hs;obtain⟨ρ,x,y,c,W,rx,ry,p⟩:=h;unfold aG at p;split at p
 ·split at p
  ·rename_i l hl;split at p
   ·rename_i d hd;cases ry;obtain⟨a,xs,rfl,sq,r⟩:=xO W rx hl;obtain⟨w,hw,rw'⟩:=acP r hd
    rcases sq with sq|sq
    ·exact YC value slice pins s Z H _ _ vv uu Q I rv ru ⟨a,xs,_,w,rfl,rfl,sq,hw,p.here W rw'⟩ hs
    ·exact YB value slice pins s Z H _ _ vv uu Q I rv ru ⟨a,xs,_,w,rfl,rfl,sq,hw,p.here W rw'⟩ hs
   ·exact p.elim
  ·exact p.elim
 ·exact p.elim
end
def qM(c:List Cell):D->Option Bool
 |.aF=>U Δ
 |.bl b=>U b
 |.int i=>U (i != 0)
 |.tup l=>U (!l.isEmpty)
 |.lst l=>U (!l.isEmpty)
 |.ref k=>match c[k]? with
  |some (.lst l)=>U (!l.isEmpty)
  |none=>O
 |_=>O
def z6(a:Ev->List Cell->R D):Ev->List Cell->R Bool:=λe c=>(a e c).bind λx c=>match qM c x with
 |some b=>.ok b c
 |none=>.bad
def aI(a:Ev->List Cell->R D):Ev->List Cell->R Bool:=λe c=>(a e c).bind λx c=>match x with
 |.bl b=>.ok b c
 |_=>.bad
def kN(a b:Ev->List Cell->R Bool):Ev->List Cell->R Bool:=λe c=>(a e c).bind λx c=>if x=J then b e c else .ok Δ c
def kM(a b:Ev->List Cell->R Bool):Ev->List Cell->R Bool:=λe c=>(a e c).bind λx c=>if x=J then .ok J c else b e c
def gw(a:Ev->List Cell->R Bool):Ev->List Cell->R Bool:=λe c=>(a e c).bind λx c=>.ok (!x) c
def m7(a b:Ev->List Cell->R D):Ev->List Cell->R D:=λe c=>(a e c).bind λx c=>match x with
 |.bl k=>if k=J then b e c else .ok (.bl Δ) c
 |_=>.bad
def oQ(a:Ev->List Cell->R D):Ev->List Cell->R D:=λe c=>(a e c).bind λx c=>match x with
 |.bl k=>.ok (.bl (!k)) c
 |_=>.bad
def sF(t:Ev->List Cell->R Bool)(a b:Ev->List Cell->R D):Ev->List Cell->R D:=λe c=>(t e c).bind λx c=>if x=J then a e c else b e c
section
variable {X:Cx}{a b c':μ}{da db:Ev->List Cell->R D}{ta tb:Ev->List Cell->R Bool}{pos:Pos}{rest:List μ}
theorem agA{K:Ξ}{H:Hp}{v:V}{k:Bool}(W:Wd K ρ H c)(rx:Rel K ρ H x v)(h:qM c x=U k):Gb K v H k:=by
 have emp:∀{l:List D}{xs:List V},aJ K ρ H l xs->l.isEmpty=xs.isEmpty:=fun{l xs} r=>by
  have:=r.length;cases l<;>cases xs<;>simp_all
 cases x with
 |aF=>cases rx;cases h;exact rfl
 |bl b=>cases rx;cases h;exact rfl
 |int i=>cases rx;cases h;exact rfl
 |tup l =>
  obtain⟨a,xs,rfl,s,r⟩:=rx;cases h;exact .inr (.inl ⟨xs,bO.of s,by rw[emp r]⟩)
 |lst l =>
  obtain⟨a,xs,rfl,s,r⟩:=rx;cases h;exact .inl ⟨xs,bf.of s.1,by rw[emp r]⟩
 |ref j =>
  obtain⟨a,rfl,s⟩:=rx;unfold qM at h;dsimp only at h;cases hc:c[j]? with
  |none=>rw[hc]at h;cases h
  |some cl =>
   cases cl with
   |lst m =>
    rw[hc]at h;cases h;obtain⟨_,xs,hx,r⟩:=W.fP j a _ s hc;exact .inl ⟨xs,bf.of hx,by rw[emp r]⟩
 |_=>cases h
theorem aiV(ha:bg X a da)(he:∀whole,isTrue a X.env whole=(do let v <-whole;standAt a.pos;holding [v] (truthy v)):=by intro _;rfl):jw X a (z6 da):=(ajn ha he).imp λZ H Q h=>by
 obtain⟨ρ,e,c,W,V,p⟩:=h;refine⟨ρ,e,c,W,V,post.bind p λx c1 aM H1 v _ W1 X1 r1 p1=>?_⟩
 split at p1
 ·rename_i k hk;exact⟨k,agA W1 r1 hk,p1.here W1 rfl⟩
 ·exact p1.elim
theorem Ol(h:tD X.K (λ_ _ a b=>a=b) (aI da) Z H Q):tD X.K (Rel X.K) da Z H λx H'=>∃k,x=.bl k/\Q k H':=by
 obtain⟨ρ,e,c,W,V,p⟩:=h;refine⟨ρ,e,c,W,V,post.bind p λx c1 aM H1 v _ W1 X1 r1 p1=>?_⟩
 cases x with
 |bl k=>cases r1;exact⟨k,rfl,p1.here W1 rfl⟩
 |_=>exact p1.elim
theorem jI(ha:bg X a da)(he:∀whole,isTrue a X.env whole=(do let v <-whole;standAt a.pos;holding [v] (truthy v)):=by intro _;rfl):jw X a (aI da):=(ajo ha he).imp λZ H Q h=>Ol h
theorem bX{f:D->D->List Cell->R D}(ho:bS X (compareOp op) (r2 X.K f))(ha:bg X a da)(hb:bg X b db)(hm:behindInMarks op b=Δ:=by first|exact Ke _|rfl):jw X (.Compare a [op] [b] pos) (aI (av f da db)) :=
 (ajl ho ha hb hm).imp λZ H Q h=>xB (Ol h)
theorem ur(ha:jw X a ta):sP X (.BoolOp .And [a] pos) ta:=ajs ha
theorem Cm(ha:jw X a ta):sP X (.BoolOp .Or [a] pos) ta:=aju ha
theorem uq(ha:jw X a ta)(hb:sP X (.BoolOp .And (b::rest) pos) tb):sP X (.BoolOp .And (a::b::rest) pos) (kN ta tb):=(ajr ha hb).imp λZ H Q h=>by
 obtain⟨ρ,e,c,W,V,p⟩:=h;refine⟨ρ,e,c,W,V,post.bind p λx c1 aM H1 v _ W1 X1 r1 p1=>?_⟩
 cases r1;cases x with
 |true=>exact pU ⟨aM,e,c1,W1,V.mono W X1,p1⟩
 |false=>exact pV (post.here p1 W1 rfl)
theorem Ck(ha:jw X a ta)(hb:sP X (.BoolOp .Or (b::rest) pos) tb):sP X (.BoolOp .Or (a::b::rest) pos) (kM ta tb):=(ajt ha hb).imp λZ H Q h=>by
 obtain⟨ρ,e,c,W,V,p⟩:=h;refine⟨ρ,e,c,W,V,post.bind p λx c1 aM H1 v _ W1 X1 r1 p1=>?_⟩
 cases r1;cases x with
 |true=>exact pU (post.here p1 W1 rfl)
 |false=>exact pV ⟨aM,e,c1,W1,V.mono W X1,p1⟩
theorem uo(ha:jw X a ta):jw X (.UnaryOp .Not a pos) (gw ta):=(ajm ha).imp λZ H Q h=>by
 obtain⟨ρ,e,c,W,V,p⟩:=h;refine⟨ρ,e,c,W,V,post.bind p λx c1 aM H1 v _ W1 X1 r1 p1=>?_⟩
 cases r1;exact p1.here W1 rfl
theorem qX{op}(h:bg X a da):bg X (.BoolOp op [a] pos) da:=ai1 h
theorem qZ(ha:bg X a da)(hb:bg X (.BoolOp .And (b::rest) pos) db):bg X (.BoolOp .And (a::b::rest) pos) (m7 da db):=(aiW ha hb).imp λZ H Q h=>by
 obtain⟨ρ,e,c,W,V,p⟩:=h;refine⟨ρ,e,c,W,V,post.bind p λx c1 aM H1 v _ W1 X1 r1 p1=>?_⟩
 cases x with
 |bl k =>
  cases r1;refine⟨k,rfl,?_⟩;cases k with
  |true=>exact pU ⟨aM,e,c1,W1,V.mono W X1,p1⟩
  |false=>exact pV (post.here p1 W1 rfl)
 |_=>exact p1.elim
theorem x9(ha:bg X a da):bg X (.UnaryOp .Not a pos) (oQ da):=(ai0 ha).imp λZ H Q h=>by
 obtain⟨ρ,e,c,W,V,p⟩:=h;refine⟨ρ,e,c,W,V,post.bind p λx c1 aM H1 v _ W1 X1 r1 p1=>?_⟩
 cases x with
 |bl k=>cases r1;exact⟨k,rfl,p1.here W1 rfl⟩
 |_=>exact p1.elim
theorem JE(ht:jw X c' ta)(ha:bg X a da)(hb:bg X b db):bg X (.IfExp c' a b pos) (sF ta da db):=(abE ht ha hb).imp λZ H Q h=>by
 obtain⟨ρ,e,c,W,V,p⟩:=h;refine⟨ρ,e,c,W,V,post.bind p λx c1 aM H1 v _ W1 X1 r1 p1=>?_⟩
 cases r1;cases x with
 |true=>exact pU ⟨aM,e,c1,W1,V.mono W X1,p1⟩
 |false=>exact pV ⟨aM,e,c1,W1,V.mono W X1,p1⟩
end
inductive Fl where
 |nx (e:Ev)|rt (d:D)|bk (e:Ev)|ct (e:Ev)
abbrev aa:=List Cell
abbrev af:=Ev->List Cell->R D
abbrev ah:=Ev->List Cell->R Fl
abbrev ai:=Ev->List Cell->R Bool
abbrev aj:=Ev->List Cell->R (List D)
inductive FV where
 |nx (Z:St)|rt (v:V)|bk (Z:St)|ct (Z:St)
def qv(K:Ξ)(ρ:List S)(H:Hp):Fl->FV->Prop
 |.nx e,f=>∃Z,f=.nx Z/\dN K ρ H e Z
 |.rt d,f=>∃v,f=.rt v/\Rel K ρ H d v
 |.bk e,f=>∃Z,f=.bk Z/\dN K ρ H e Z
 |.ct e,f=>∃Z,f=.ct Z/\dN K ρ H e Z
def En(σ:Ends):FV->Hp->Prop
 |.nx Z,H=>σ.nx Z H
 |.rt v,H=>σ.rt v H
 |.bk Z,H=>σ.bk Z H
 |.ct Z,H=>σ.ct Z H
def Hv(K:Ξ)(d:ah):TS:=λσ Z H=>tD K (qv K) d Z H (En σ)
abbrev jX(X:Cx)(st:x6)(d:ah):Prop:=PS X st (Hv X.K d)
abbrev bI(X:Cx)(st:List x6)(d:ah):Prop:=gI X st (Hv X.K d)
def bQ:ah:=λe c=>.ok (.nx e) c
def aB(a b:ah):ah:=λe c=>(a e c).bind λf c=>match f with
 |.nx e=>b e c
 |f=>.ok f c
def aS(a:af):ah:=λe c=>(a e c).bind λx c=>.ok (.rt x) c
def fh(a:af):ah:=λe c=>(a e c).bind λ_ c=>.ok (.nx e) c
def bC(t:ai)(a b:ah):ah:=λe c=>(t e c).bind λx c=>if x=J then a e c else b e c
def aE(i:Nat)(a:af):ah:=λe c=>(a e c).bind λx c=>.ok (.nx (e.set i (U x))) c
def BX:ah:=λ_ _=>.bad
section
variable {X:Cx}{st:x6}{rest:List x6}{t u:ah}{e:μ}{da:af}{pos:Pos}
theorem dR:bI X [] bQ:=ajk.imp λσ Z H h=>by
 obtain⟨ρ,e,c,W,V,p⟩:=h;exact p.here W ⟨Z,rfl,V⟩
theorem aO(h1:jX X st t)(h2:bI X rest u):bI X (st::rest) (aB t u):=(B7 h1 h2).imp λσ Z H h=>by
 obtain⟨ρ,e,c,W,V,p⟩:=h;refine⟨ρ,e,c,W,V,post.bind p λf c1 aM H1 b _ W1 X1 r1 p1=>?_⟩
 cases f with
 |nx e1=>obtain⟨σ1,rfl,V1⟩:=r1;exact⟨aM,e1,c1,W1,V1,p1⟩
 |rt d=>obtain⟨v,rfl,V1⟩:=r1;exact post.here (Q:=En σ) (show post X.K _ (.ok _ c1) aM H1 _ from p1) W1 ⟨_,rfl,V1⟩
 |bk e1=>obtain⟨σ1,rfl,V1⟩:=r1;exact post.here (Q:=En σ) (show post X.K (qv X.K) _ aM H1 _ from p1) W1 ⟨_,rfl,V1⟩
 |ct e1=>obtain⟨σ1,rfl,V1⟩:=r1;exact post.here (Q:=En σ) (show post X.K (qv X.K) _ aM H1 _ from p1) W1 ⟨_,rfl,V1⟩
theorem aQ(h1:jX X st t):bI X [st] t:=Jp h1
theorem aht:jX X st BX:=λ_ _ _ _ _ _ h=>by
 obtain⟨ρ,e,c,W,V,p⟩:=h;exact p.elim
theorem bB(he:bg X e da):jX X (.Return (U e) pos) (aS da):=(ajh he).imp λσ Z H h=>by
 obtain⟨ρ,e,c,W,V,p⟩:=h;refine⟨ρ,e,c,W,V,post.bind p λx c1 aM H1 v _ W1 X1 r1 p1=>p1.here W1 ⟨v,rfl,r1⟩⟩
theorem j4(he:bg X e da)(hs:swapsWith e O pos.line X.env=pure Δ:=by rfl):jX X (.Expr e pos) (fh da):=(ah7 he hs).imp λσ Z H h=>by
 obtain⟨ρ,e,c,W,V,p⟩:=h;refine⟨ρ,e,c,W,V,post.bind p λx c1 aM H1 v _ W1 X1 r1 p1=>p1.here W1 ⟨Z,rfl,V.mono W X1⟩⟩
theorem cS(hc:jw X c' tc)(ha:bI X a t)(hb:bI X b u):jX X (.If c' a b pos) (bC tc t u):=(ajg hc ha hb).imp λσ Z H h=>by
 obtain⟨ρ,e,c,W,V,p⟩:=h;refine⟨ρ,e,c,W,V,post.bind p λx c1 aM H1 v _ W1 X1 r1 p1=>?_⟩
 cases r1;cases x with
 |true=>exact pU ⟨aM,e,c1,W1,V.mono W X1,p1⟩
 |false=>exact pV ⟨aM,e,c1,W1,V.mono W X1,p1⟩
theorem gA{pos':Pos}(he:bg X e da)(hN:X.N.Nodup:=by decide +kernel)(hi:X.N[i]? = U x:=by rfl)(hx:Loc X.env.scope x:=by first|exact Or.inl rfl|exact Or.inr rfl)(hs:swapsWith e (U (.Name x pos')) pos.line X.env=pure Δ:=by rfl)(hf:X.fn x=J\/X.env.scope.names.lookup x=U .local:=by first|exact .inl rfl|exact .inr rfl):jX X (.Assign [.Name x pos'] e pos) (aE i da):=(Jq hN hi hx he hs).imp λσ Z H h=>by
 obtain⟨ρ,e,c,W,V,p⟩:=h;refine⟨ρ,e,c,W,V,post.bind p λx c1 aM H1 v _ W1 X1 r1 p1=>p1.here W1 ⟨_,rfl,(V.mono W X1).set r1 i⟩⟩
end
abbrev Gd:=D->Ev->aa->R Ev
def xE(K:Ξ)(g:Gd):TG:=λv Z H Q=>∃ρ x e c,Wd K ρ H c/\dN K ρ H e Z/\Rel K ρ H x v/\post K (λρ H e Z=>dN K ρ H e Z) (g x e c) ρ H Q
def af2(K:Ξ)(g:List D->Ev->aa->R Ev):kR:=λvs Z H Q=>∃ρ xs e c,Wd K ρ H c/\dN K ρ H e Z/\aJ K ρ H xs vs/\post K (λρ H e Z=>dN K ρ H e Z) (g xs e c) ρ H Q
abbrev kU(X:Cx)(e:μ)(g:Gd):Prop:=PG X e (xE X.K g)
abbrev wz(X:Cx)(es:List μ)(g:List D->Ev->aa->R Ev):Prop:=nv X es (af2 X.K g)
def aA(i:Nat):Gd:=λx e c=>.ok (e.set i (U x)) c
def fB:List D->Ev->aa->R Ev:=λxs e c=>match xs with
 |[]=>.ok e c
 |_=>.bad
def b9(g:Gd)(r:List D->Ev->aa->R Ev):List D->Ev->aa->R Ev:=λxs e c=>match xs with
 |x::xs=>(g x e c).bind λe c=>r xs e c
 |_=>.bad
def fy(n:Nat)(g:List D->Ev->aa->R Ev):Gd:=λx e c=>match x with
 |.tup l=>if l.length=n then g l e c else .bad
 |_=>.bad
theorem PG.imp(h:PG X e t)(i:∀v Z H Q,t' v Z H Q->t v Z H Q):PG X e t':=λpins s Z H x u Q I r q=>h pins s Z H x u Q I r (i _ _ _ _ q)
theorem nv.imp(h:nv X es t)(i:∀v Z H Q,t' v Z H Q->t v Z H Q):nv X es t':=λpins s Z H x u Q I r q=>h pins s Z H x u Q I r (i _ _ _ _ q)
section
variable {X:Cx}{pos:Pos}
theorem cM(hN:X.N.Nodup:=by decide +kernel)(hi:X.N[i]? = U x:=by rfl)(hx:Loc X.env.scope x:=by first|exact Or.inl rfl|exact Or.inr rfl)(hf:X.fn x=J\/X.env.scope.names.lookup x=U .local:=by first|exact .inl rfl|exact .inr rfl):kU X (.Name x pos) (aA i) :=
 (Cf hN hi hx hf).imp λv Z H Q h=>by
  obtain⟨ρ,x,e,c,W,V,r,p⟩:=h;exact p.here W (V.set r i)
theorem oF:wz X [] fB:=Jx.imp λv Z H Q h=>by
 obtain⟨ρ,xs,e,c,W,V,r,p⟩:=h;cases xs with
 |nil=>exact⟨r,p.here W V⟩
 |cons x xs=>exact p.elim
theorem iy{u:List D->Ev->aa->R Ev}(h1:kU X e g)(h2:wz X es u)(hs:(assignEach (e::es) X.env).map (·.2)=assign e X.env::(assignEach es X.env).map (·.2):=by rfl):wz X (e::es) (b9 g u) :=
 (Ce h1 h2 hs).imp λv Z H Q h=>by
  obtain⟨ρ,xs,e,c,W,V,r,p⟩:=h;cases xs with
  |nil=>exact p.elim
  |cons x xs =>
   obtain⟨y,ys,rfl,rx,rs⟩:=r;exact⟨y,ys,rfl,ρ,x,e,c,W,V,rx,post.bind p λe1 c1 aM H1 σ1 _ W1 X1 V1 p1=>⟨aM,xs,e1,c1,W1,V1,aJ.mono W X1 _ _ rs,p1⟩⟩
theorem qb{g:List D->Ev->aa->R Ev}(h:wz X es g)(hc:X.calm=J:=by rfl)(hn:(assignEach es X.env).length=n:=by rfl)(hst:(assignEach es X.env).findIdx? (·.1)=O:=by rfl):kU X (.Tuple es k pos) (fy n g) :=
 (Jy hc h hn hst).imp λv Z H Q h=>by
  obtain⟨ρ,x,e,c,W,V,r,p⟩:=h;cases x with
  |tup l =>
   obtain⟨a,xs,rfl,s,rs⟩:=r;unfold fy at p;dsimp only at p;split at p
   ·rename_i hl;exact⟨a,xs,rfl,bO.of s,rs.length.trans hl,ρ,l,e,c,W,V,rs,p⟩
   ·exact p.elim
  |_=>exact p.elim
def iW(a:af)(g:Gd):ah:=λe c=>(a e c).bind λx c=>(g x e c).bind λe c=>.ok (.nx e) c
theorem pB(he:bg X e da)(hg:kU X tg g)(hs:swapsWithSole [tg] e pos.line X.env=pure Δ:=by rfl)(hw:swappedStores [tg] e X.env=pure O:=by rfl)(h1:(assignEach [tg] X.env).map (·.2)=[assign tg X.env]:=by rfl):jX X (.Assign [tg] e pos) (iW da g):=(ah5 he hg hs hw h1).imp λσ Z H h=>by
 obtain⟨ρ,e,c,W,V,p⟩:=h;refine⟨ρ,e,c,W,V,post.bind p λx c1 aM H1 v _ W1 X1 r1 p1=>⟨aM,x,e,c1,W1,V.mono W X1,r1,post.bind p1 λe2 c2 dP H2 σ2 _ W2 X2 V2 p2=>p2.here W2 ⟨σ2,rfl,V2⟩⟩⟩
def mw:D->D->D->aa->R Unit:=λo i v c=>match o,i with
 |.ref k,.int i=>match c[k]? with
  |some (.lst l)=>match gV l.length i with
   |some j=>if noRef v=J then .ok () (c.set k (.lst (l.set j v)))else .bad
   |none=>.bad
  |none=>.bad
 |_,_=>.bad
def jT(o i:af):Gd:=λx e c=>(o e c).bind λo c=>(i e c).bind λi c=>(mw o i x c).bind λ_ c=>.ok e c
theorem su(ho:bg X o dO)(hi:bg X i di)(ha:∀v,assign (.Subscript o i pos) X.env v=(do
   let ov <-holding [v] (eval o X.env)
   let iv <-holding [v,ov] (eval i X.env)
   standAt pos
   holding [v,ov,iv] (setItem ov iv v)
   release [v,ov,iv] []):=by intro _;rfl):kU X (.Subscript o i pos) (jT dO di):=(ai7 ho hi set_list ha).imp λv Z H Q h=>by
 obtain⟨ρ,x,e,c,W,V,rx,p⟩:=h;refine⟨ρ,e,c,W,V,post.bind p λo c1 aM H1 ov _ W1 X1 r1 p1=>⟨aM,e,c1,W1,V.mono W X1,post.bind p1 λi c2 dP H2 iv _ W2 X2 r2 p2=>?_⟩⟩
 have V2:=(V.mono W X1).mono W1 X2;have agB:=Rel.mono W (X1.trans X2) _ _ rx;have ro:=Rel.mono W1 X2 _ _ r1;unfold mw at p2;split at p2
 ·rename_i k i _ _;split at p2
  ·rename_i l hl;split at p2
   ·rename_i j hj;split at p2
    ·rename_i hv;obtain⟨a,rfl,ha⟩:=ro;cases r2;obtain⟨nr,ys,hy,rl⟩:=W2.fP k a _ ha hl;refine⟨a,ys,i,j,rfl,rfl,hy,by rw[rl.length];exact hj,?_⟩
     exact p2 dP _ Z (W2.write ha (Kl nr hv) (rl.set j agB)) (Ext.write ha) (V2.mono W2 (Ext.write ha))
    ·exact p2.elim
   ·exact p2.elim
  ·exact p2.elim
 ·exact p2.elim
end
structure Src where
 items:List D
 stays:aa->Prop
def JS(K:Ξ)(ρ:List S)(H:Hp)(s:Src)(Γ:It):Prop :=
 ∀ρ' H' c',Wd K ρ' H' c'->Ext ρ H ρ' H'->s.stays c'->∀i:Nat,
  (∀d,s.items[i]? = U d->Γ.go i H'/\∀x H2,Γ.qC i H' x H2->Wd K ρ' H2 c'/\Ext ρ' H' ρ' H2/\Rel K ρ' H2 d x)/\(i=s.items.length->Γ.stop i H')
def Hw(K:Ξ)(d:Ev->aa->R Src):TI:=tD K (JS K) d
abbrev PId(X:Cx)(tg iter:μ)(d:Ev->aa->R Src):Prop:=PI X tg iter (Hw X.K d)
theorem PI.imp{iter:μ}(h:PI X tg iter t)(i:∀Z H Q,t' Z H Q->t Z H Q):PI X tg iter t':=λpins s Z H Q I q=>h pins s Z H Q I (i _ _ _ q)
def dF(a:af):Ev->aa->R Src:=λe c=>(a e c).bind λx c=>match x with
 |.lst l=>.ok ⟨l,λ_=>True⟩ c
 |.bK l=>.ok ⟨l.map D.int,λ_=>True⟩ c
 |.ref k=>match c[k]? with
  |some (.lst l)=>.ok ⟨l,λc=>c[k]? = U (.lst l)⟩ c
  |none=>.bad
 |_=>.bad
def g6(a:af):Ev->aa->R Src:=λe c=>(a e c).bind λx c=>match x with
 |.tup l=>.ok ⟨l,λ_=>True⟩ c
 |_=>.bad
def aR(lo hi:Int):List D:=(θ (hi-lo).toNat).map fun(i:Nat)=>D.int (lo+(i:Int))
def bu(a:aj):Ev->aa->R Src:=λe c=>(a e c).bind λxs c=>match xs with
 |[.int j]=>if -(2^62)<=j/\j<2^62 then .ok ⟨aR 0 j,λ_=>True⟩ c else .bad
 |_=>.bad
def gv(a:aj):Ev->aa->R Src:=λe c=>(a e c).bind λxs c=>match xs with
 |[.int i,.int j]=>if -(2^62)<=i/\i<2^62/\-(2^62)<=j/\j<2^62 then .ok ⟨aR i j,λ_=>True⟩ c else .bad
 |_=>.bad
def qi(a:aj):Ev->aa->R Src:=λe c=>(a e c).bind λxs c=>match xs with
 |[.tup l]=>.ok ⟨l.mapIdx λi x=>.tup [.int i,x],λ_=>True⟩ c
 |_=>.bad
section
variable {X:Cx}{tg:μ}{K:Ξ}{ρ:List S}{H:Hp}
theorem Dp{st:aa->Prop}(h:∀ρ' H' c',Wd K ρ' H' c'->Ext ρ H ρ' H'->st c'->∃xs,bf K H' a xs/\aJ K ρ' H' l xs):JS K ρ H ⟨l,st⟩ (Gn K a):=by
 intro ρ' H' c' W E s i;obtain⟨xs,q,r⟩:=h ρ' H' c' W E s;refine⟨λd hd=>?_,λe=>⟨xs,q,by rw[r.length];exact R1 e.symm⟩⟩
 obtain⟨x,hx,rx⟩:=r.get hd;refine⟨⟨xs,x,q,hx⟩,λy H2 hy=>?_⟩
 obtain⟨rfl,hy⟩:=hy;have:=hy xs q;rw[hx]at this;cases this;exact⟨W,Ext.refl,rx⟩
theorem Yr{st:aa->Prop}(h:∀ρ' H' c',Wd K ρ' H' c'->Ext ρ H ρ' H'->st c'->∃xs,bO K H' a xs/\aJ K ρ' H' l xs):JS K ρ H ⟨l,st⟩ (Gm K a):=by
 intro ρ' H' c' W E s i;obtain⟨xs,q,r⟩:=h ρ' H' c' W E s;refine⟨λd hd=>?_,λe=>⟨xs,q,by rw[r.length];exact R1 e.symm⟩⟩
 obtain⟨x,hx,rx⟩:=r.get hd;refine⟨⟨xs,x,q,hx⟩,λy H2 hy=>?_⟩
 obtain⟨rfl,hy⟩:=hy;have:=hy xs q;rw[hx]at this;cases this;exact⟨W,Ext.refl,rx⟩
theorem j5{lo:Int}(h:(aR lo hi)[i]? = U d):i<(hi-lo).toNat/\d=.int (lo+i):=by
 unfold aR at h;rw[PK]at h;cases q:(θ (hi-lo).toNat)[i]? with
 |none=>rw[q]at h;cases h
 |some j =>
  rw[q]at h;obtain⟨h2,h3⟩:=((OX.mp q));rw[SA]at h3;subst h3;cases h;exact⟨by simpa using h2,rfl⟩
theorem LJ{lo:Int}{st:aa->Prop}:JS K ρ H ⟨aR lo hi,st⟩ (wG lo (hi-lo).toNat):=by
 intro ρ' H' c' W E s i;refine⟨λd hd=>?_,λe=>?_⟩
 ·obtain⟨h1,rfl⟩:=j5 hd;refine⟨h1,λx H2 hy=>?_⟩
  obtain⟨rfl,rfl⟩:=hy;exact⟨W,Ext.refl,rfl⟩
 ·have:(aR lo hi).length=(hi-lo).toNat:=by simp[aR]
  rw[e];exact R1 this.symm
theorem kD{dl:af}(hl:bg X l dl):PId X tg l (dF dl):=(ai9 hl).imp λZ H Q h=>by
 obtain⟨ρ,e,c,W,V,p⟩:=h;refine⟨ρ,e,c,W,V,post.bind p λx c1 aM H1 v _ W1 X1 r1 p1=>?_⟩
 cases x with
 |lst l =>
  obtain⟨a,xs,rfl,s,rs⟩:=r1;exact⟨a,rfl,⟨xs,bf.of s.1⟩,p1.here W1 (Dp λρ' H' c' W' E _=>⟨xs,bf.of (C2 E s).1,aJ.mono W1 E _ _ rs⟩)⟩
 |bK l =>
  obtain⟨a,rfl,s⟩:=r1;exact⟨a,rfl,⟨_,s.sql⟩,p1.here W1 (Dp λρ' H' c' W' E _=>⟨_,(HN E s).sql,aJ.ints⟩)⟩
 |ref k =>
  obtain⟨a,rfl,ha⟩:=r1;dsimp only at p1;split at p1
  ·rename_i l hl;obtain⟨_,xs,hx,rs⟩:=W1.fP k a _ ha hl;refine⟨a,rfl,⟨xs,bf.of hx⟩,p1.here W1 (Dp λρ' H' c' W' E st=>?_)⟩
   obtain⟨_,ys,hy,rs'⟩:=W'.fP k a _ (E.pre k a ha) st;exact⟨ys,bf.of hy,rs'⟩
  ·exact p1.elim
 |_=>exact p1.elim
theorem pZ{dl:af}(hl:bg X l dl):PId X tg l (g6 dl):=(aiC hl).imp λZ H Q h=>by
 obtain⟨ρ,e,c,W,V,p⟩:=h;refine⟨ρ,e,c,W,V,post.bind p λx c1 aM H1 v _ W1 X1 r1 p1=>?_⟩
 cases x with
 |tup l =>
  obtain⟨a,xs,rfl,s,rs⟩:=r1;exact⟨a,rfl,⟨xs,bO.of s⟩,p1.here W1 (Yr λρ' H' c' W' E _=>⟨xs,bO.of (qL W1 E s),aJ.mono W1 E _ _ rs⟩)⟩
 |_=>exact p1.elim
theorem cT{pos:Pos}(ha:gx X [a] da)(hm:X.mg "range"=O)(hg:Gl X "range":=by rfl)(hs:ε [a] X.env=[(Δ,eval a X.env)]:=by exact nJ rfl):PId X tg (.Call (.Name "range" p) [a] [] pos) (bu da) :=
 (aiA hg hm ha hs).imp λZ H Q h=>by
  obtain⟨ρ,e,c,W,V,p⟩:=h;refine⟨ρ,e,c,W,V,post.bind p λx c1 aM H1 v _ W1 X1 r1 p1=>?_⟩
  split at p1
  ·rename_i j _;split at p1
   ·rename_i hj;obtain⟨y,ys,rfl,ry,rs⟩:=r1;cases ry;cases rs;refine⟨j,rfl,hj.1,hj.2,p1.here W1 ?_⟩;have:=LJ (K:=X.K) (ρ:=aM) (H:=H1) (lo:=0) (hi:=j) (st:=λ_=>True)
    rw[Int.sub_zero]at this;exact this
   ·exact p1.elim
  ·exact p1.elim
theorem lI{pos:Pos}(ha:gx X [a,b] da)(hm:X.mg "range"=O)(hg:Gl X "range":=by rfl)(hs:ε [a,b] X.env=[(Δ,eval a X.env),(Δ,eval b X.env)]:=by exact BC rfl rfl)(hs2:ε [b] X.env=[(Δ,eval b X.env)]:=by exact nJ rfl):PId X tg (.Call (.Name "range" p) [a,b] [] pos) (gv da) :=
 (aiB hg hm ha hs hs2).imp λZ H Q h=>by
  obtain⟨ρ,e,c,W,V,p⟩:=h;refine⟨ρ,e,c,W,V,post.bind p λx c1 aM H1 v _ W1 X1 r1 p1=>?_⟩
  split at p1
  ·rename_i i j _;split at p1
   ·rename_i hj;obtain⟨y,ys,rfl,ry,z,zs,rfl,rz,rs⟩:=r1;cases ry;cases rz;cases rs;exact⟨i,j,rfl,hj,p1.here W1 LJ⟩
   ·exact p1.elim
  ·exact p1.elim
theorem Yq{st:aa->Prop}(h:∀ρ' H' c',Wd K ρ' H' c'->Ext ρ H ρ' H'->st c'->∃xs ys,bO K H' a xs/\bO K H' b ys/\aJ K ρ' H' l xs/\aJ K ρ' H' m ys):JS K ρ H ⟨List.zipWith (λx y=>.tup [x,y]) l m,st⟩ (AV (bO K) a b):=by
 intro ρ' H' c' W E s i;obtain⟨xs,ys,q1,q2,r1,r2⟩:=h ρ' H' c' W E s;refine⟨λd hd=>?_,λe=>⟨xs,ys,q1,q2,?_⟩⟩
 ·have hd:(List.zipWith (λx y=>D.tup [x,y]) l m)[i]? = U d:=hd
  rw[VN]at hd;cases e1:l[i]? with
  |none=>rw[e1]at hd;cases hd
  |some x =>
   cases e2:m[i]? with
   |none=>rw[e1,e2]at hd;cases hd
   |some y =>
    rw[e1,e2]at hd;cases hd;obtain⟨v,hv,rv⟩:=r1.get e1;obtain⟨u,hu,ru⟩:=r2.get e2;refine⟨⟨xs,ys,v,u,q1,q2,hv,hu⟩,λz H2 hz=>?_⟩
    obtain⟨t,v',u',rfl,ht,rfl,hz⟩:=hz;obtain⟨z1,z2⟩:=hz xs ys q1 q2;rw[hv]at z1;rw[hu]at z2;cases z1;cases z2;exact⟨W.fresh ht,Ext.fresh W ht,t,[v,u],rfl,eT,v,[u],rfl,Rel.mono W (Ext.fresh W ht) _ _ rv,u,[],rfl,Rel.mono W (Ext.fresh W ht) _ _ ru,rfl⟩
 ·have e:i=(List.zipWith (λx y=>D.tup [x,y]) l m).length:=e
  rw[VM]at e;rw[r1.length,r2.length];omega
theorem Yt{st:aa->Prop}(h:∀ρ' H' c',Wd K ρ' H' c'->Ext ρ H ρ' H'->st c'->∃xs,bO K H' a xs/\aJ K ρ' H' l xs):JS K ρ H ⟨l.mapIdx λi x=>.tup [.int i,x],st⟩ (qy (bO K) a):=by
 intro ρ' H' c' W E s i;obtain⟨xs,q,r⟩:=h ρ' H' c' W E s;refine⟨λd hd=>?_,λe=>⟨xs,q,?_⟩⟩
 ·have hd:(l.mapIdx λi x=>D.tup [.int i,x])[i]? = U d:=hd
  rw[Tv]at hd;cases e1:l[i]? with
  |none=>rw[e1]at hd;cases hd
  |some x =>
   rw[e1]at hd;cases hd;obtain⟨v,hv,rv⟩:=r.get e1;refine⟨⟨xs,v,q,hv⟩,λz H2 hz=>?_⟩
   obtain⟨t,v',rfl,ht,rfl,hz⟩:=hz;have z1:=hz xs q;rw[hv]at z1;cases z1;exact⟨W.fresh ht,Ext.fresh W ht,t,[.int i,v],rfl,eT,.int i,[v],rfl,rfl,v,[],rfl,Rel.mono W (Ext.fresh W ht) _ _ rv,rfl⟩
 ·have e:i=(l.mapIdx λi x=>D.tup [.int i,x]).length:=e
  rw[VL]at e;rw[r.length];exact e
theorem LX{pt:Pos}{pos:Pos}(ha:gx X [a] da)(hm:X.mg "enumerate"=O)(hg:Gl X "enumerate":=by rfl)(hs:ε [a] X.env=[(Δ,eval a X.env)]:=by exact nJ rfl):
  PId X (.Tuple es k pt) (.Call (.Name "enumerate" p) [a] [] pos) (qi da):=(ai8 hg hm ha hs).imp λZ H Q h=>by
 obtain⟨ρ,e,c,W,V,p⟩:=h;refine⟨ρ,e,c,W,V,post.bind p λx c1 aM H1 v _ W1 X1 r1 p1=>?_⟩
 split at p1
 ·obtain⟨y,ys,rfl,ry,rs⟩:=r1;cases rs;obtain⟨a1,xs,rfl,s1,t1⟩:=ry;exact⟨a1,rfl,⟨xs,bO.of s1⟩,p1.here W1 (Yt λρ' H' c' W' E _=>⟨xs,bO.of (qL W1 E s1),aJ.mono W1 E _ _ t1⟩)⟩
 ·exact p1.elim
open Classical in
def bU(st:aa->Prop)(g:Gd)(b:ah):List D->ah
 |[],e,c=>if st c then .ok (.nx e) c else .bad
 |x::xs,e,c=>if st c then(g x e c).bind λe c=>(b e c).bind λf c=>match f with
   |.nx e=>bU st g b xs e c
   |.ct e=>bU st g b xs e c
   |.bk e=>.ok (.nx e) c
   |.rt d=>.ok (.rt d) c
  else .bad
def bL(s:Ev->aa->R Src)(g:Gd)(b:ah):ah:=λe c=>(s e c).bind λs c=>bU s.stays g b s.items e c
theorem eG{iter:μ}{body:List x6}{ds:Ev->aa->R Src}{pos:Pos}(hi:PId X tg iter ds)(hg:kU X tg g)(hb:bI X body db)(hp:TU (model X.prog X.w) X.A X.env X.xe:=by exact Tu)(hc:X.calm=J:=by rfl)(hs:∀x,foldedSetIterable iter X.env x=pure x:=by intro _;rfl):jX X (.For tg iter body [] pos) (bL ds g db):=(Jr hp hc hi hg hb hs).imp λσ Z H h=>by
 obtain⟨ρ,e,c,W,V,p⟩:=h;refine⟨ρ,e,c,W,V,post.bind p λs c1 aM H1 Γ _ W1 X1 j1 p1=>?_⟩
 refine⟨λi m Z H=>∃ρ e c,Wd X.K ρ H c/\Ext aM H1 ρ H/\dN X.K ρ H e Z/\i<=s.items.length/\m=s.items.length-i/\post X.K (qv X.K) (bU s.stays g db (s.items.drop i) e c) ρ H (En σ),
  ⟨_,aM,e,c1,W1,Ext.refl,V.mono W X1,Pd _,rfl,p1⟩,?_⟩
 rintro i m σ2 H2 ⟨dP,e2,c2,W2,X2,V2,hi2,rfl,p2⟩
 by_cases hl:i<s.items.length
 ·rw[U3 hl]at p2;unfold bU at p2;split at p2
  ·rename_i hst;obtain⟨go,yl⟩:=(j1 dP H2 c2 W2 X2 hst i).1 _ (O1 hl);refine .inr ⟨go,λσ' H'=>∃ρ e c,Wd X.K ρ H' c/\Ext aM H1 ρ H'/\dN X.K ρ H' e σ'/\i+1<=s.items.length/\post X.K (qv X.K) (bU s.stays g db (s.items.drop (i+1)) e c) ρ H' (En σ),?_,λx H3 hy=>?_⟩
   ·rintro σ' H' ⟨ρ,e,c,w,x,v,l,q⟩
    exact⟨s.items.length-(i+1),∅,ρ,e,c,w,x,v,l,rfl,q⟩
   ·obtain⟨W3,X3,r3⟩:=yl x H3 hy;refine⟨dP,_,e2,c2,W3,V2.mono W2 X3,r3,post.bind (post.ext p2 X3) λe4 c4 AY H4 aad _ W4 X4 V4 p4=>?_⟩
    refine⟨AY,e4,c4,W4,V4,post.bind p4 λf c5 jA H5 b _ W5 X5 r5 p5=>?_⟩
    have wo:=((X2.trans X3).trans X4).trans X5;cases f with
    |nx e1=>obtain⟨σ1,rfl,V1⟩:=r5;exact⟨jA,e1,c5,W5,wo,V1,hl,p5⟩
    |ct e1=>obtain⟨σ1,rfl,V1⟩:=r5;exact⟨jA,e1,c5,W5,wo,V1,hl,p5⟩
    |bk e1=>obtain⟨σ1,rfl,V1⟩:=r5;exact post.here (Q:=En σ) (show post X.K (qv X.K) (.ok (Fl.nx e1) c5) jA H5 (En σ)from p5) W5 ⟨_,rfl,V1⟩
    |rt d=>obtain⟨v,rfl,V1⟩:=r5;exact post.here (Q:=En σ) (show post X.K (qv X.K) (.ok (Fl.rt d) c5) jA H5 (En σ)from p5) W5 ⟨_,rfl,V1⟩
  ·exact p2.elim
 ·obtain rfl:i=s.items.length:=∅
  rw[VJ (AP _)]at p2;unfold bU at p2;split at p2
  ·rename_i hst;exact .inl ⟨(j1 dP H2 c2 W2 X2 hst _).2 rfl,post.here (Q:=En σ) p2 W2 ⟨σ2,rfl,V2⟩⟩
  ·exact p2.elim
def l7(t:ai)(b:ah):Nat->ah
 |0,_,_=>.bad
 |n+1,e,c=>(t e c).bind λk c=>if k=J then(b e c).bind λf c=>match f with
   |.nx e=>l7 t b n e c
   |.ct e=>l7 t b n e c
   |.bk e=>.ok (.nx e) c
   |.rt d=>.ok (.rt d) c
  else .ok (.nx e) c
theorem ahv{body:List x6}{pos:Pos}(ht:jw X c' dt)(hb:bI X body db)(hp:TU (model X.prog X.w) X.A X.env X.xe:=by exact Tu):jX X (.While c' body [] pos) (l7 dt db n):=(ajj hp ht hb).imp λσ Z H h=>by
 obtain⟨ρ,e,c,W,V,p⟩:=h;refine⟨λm Z H=>∃ρ e c,Wd X.K ρ H c/\dN X.K ρ H e Z/\post X.K _ (l7 dt db m e c) ρ H (En σ),⟨n,ρ,e,c,W,V,p⟩,?_⟩
 rintro m σ2 H2 ⟨dP,e2,c2,W2,V2,p2⟩
 cases m with
 |zero=>exact p2.elim
 |succ m =>
  refine⟨dP,e2,c2,W2,V2,post.bind p2 λk c3 sW H3 b _ W3 X3 r3 p3=>?_⟩
  cases r3;cases k with
  |true =>
   refine pU ⟨λZ H=>∃ρ e c,Wd X.K ρ H c/\dN X.K ρ H e Z/\post X.K _ _ ρ H (En σ),λσ' H' q=>⟨m,QD _,q⟩,?_⟩
   refine⟨sW,e2,c3,W3,V2.mono W2 X3,post.bind p3 λf c5 jA H5 b _ W5 X5 r5 p5=>?_⟩
   cases f with
   |nx e1=>obtain⟨σ1,rfl,V1⟩:=r5;exact⟨jA,e1,c5,W5,V1,p5⟩
   |ct e1=>obtain⟨σ1,rfl,V1⟩:=r5;exact⟨jA,e1,c5,W5,V1,p5⟩
   |bk e1=>obtain⟨σ1,rfl,V1⟩:=r5;exact post.here (Q:=En σ) (show post X.K _ _ jA H5 (En σ)from p5) W5 ⟨_,rfl,V1⟩
   |rt d=>obtain⟨v,rfl,V1⟩:=r5;exact post.here (Q:=En σ) (show post X.K _ _ jA H5 (En σ)from p5) W5 ⟨_,rfl,V1⟩
  |false=>exact pV (post.here (Q:=En σ) (show post X.K _ _ sW H3 (En σ)from p3) W3 ⟨_,rfl,V2.mono W2 X3⟩)
end
def fj(pick:List (Option Nat))(e:Ev):Ev:=pick.map λo=>o.bind λj=>(e[j]?).bind id
open Classical in
def bR(st:aa->Prop)(g:Gd)(t:ai)(el:af):List D->Ev->List D->aa->R (List D)
 |[],e,acc,c=>if st c then .ok acc c else .bad
 |x::xs,e,acc,c=>if st c then(g x e c).bind λe c=>(t e c).bind λk c=>if k=J then(el e c).bind λy c=>bR st g t el xs e (acc++[y]) c else bR st g t el xs e acc c else .bad
def aX(s:Ev->aa->R Src)(pick:List (Option Nat))(g:Gd)(t:ai)(el:af):af:=λe c=>(s e c).bind λs c =>
 if s.items.length<Ω then(bR s.stays g t el s.items (fj pick e) [] c).bind λl c=>.ok (.lst l) c else .bad
def aY:ai:=λ_ c=>.ok J c
abbrev AU(X:Cx)(ifs:List μ)(t:ai):Prop:=qw X ifs (tD X.K (λ_ _ a b=>a=b) t)
section
variable {X:Cx}{N':List Str}{pick:List (Option Nat)}{scope:P7}{tg elt iter:μ}{ifs:List μ}{pos:Pos}{ds:Ev->aa->R Src}{g:Gd}{dt:ai}{de:af}
theorem lq:AU X [] aY:=λpins s Z H Q I h=>by
 obtain⟨ρ,e,c,W,V,p⟩:=h;exact ahP pins s Z H Q I (post.here p W rfl)
theorem iX(h:jw X c' dt):AU X [c'] dt:=ahQ h
theorem dN.picked{K:Ξ}{H:Hp}{Z:St}(V:dN K ρ H e Z):dN K ρ H (fj pick e) (mh pick Z):=by
 refine⟨λi d h=>?_,by simp[fj,mh]⟩
 unfold fj at h;unfold mh;rw[PK]at h ⊢;cases q:pick[i]? with
 |none=>rw[q]at h;cases h
 |some o =>
  rw[q]at h;cases o with
  |none=>cases h
  |some j =>
   have h':(e[j]?).bind id=U d:=P0 h;cases q2:e[j]? with
   |none=>rw[q2]at h';cases h'
   |some z =>
    rw[q2]at h';subst h';obtain⟨v,hv,r⟩:=V.get j d q2;exact⟨v,by simp[hv],r⟩
theorem ab4{K:Ξ}{H1:Hp}{Z:St}{s:Src}{Γ:It}{Q:VK}(W1:Wd K aM H1 c1)(V1:dN K aM H1 e Z)(j1:JS K aM H1 s Γ)(hn:s.items.length<Ω)(p1:post K (Rel K) ((bR s.stays g dt de s.items e [] c1).bind λl c=>.ok (.lst l) c) aM H1 Q):OU Γ (xE K g) (tD K (λ_ _ a b=>a=b) dt) (tD K (Rel K) de) Q Z H1:=by
 refine⟨λi m Z ys H=>∃ρ e acc c,Wd K ρ H c/\Ext aM H1 ρ H/\dN K ρ H e Z/\aJ K ρ H acc ys/\acc.length<=i/\i<=s.items.length/\m=s.items.length-i/\post K (Rel K) ((bR s.stays g dt de (s.items.drop i) e acc c).bind λl c=>.ok (.lst l) c) ρ H Q,
  ⟨_,aM,e,[],c1,W1,Ext.refl,V1,rfl,AP _,Pd _,rfl,p1⟩,?_⟩
 rintro i m σ2 ys H2 ⟨dP,e2,acc,c2,W2,X2,V2,r2,ha,hi2,rfl,p2⟩
 refine⟨by rw[r2.length];omega,?_⟩
 by_cases hl:i<s.items.length
 ·rw[U3 hl]at p2;unfold bR at p2;split at p2
  ·rename_i hst;obtain⟨go,yl⟩:=(j1 dP H2 c2 W2 X2 hst i).1 _ (O1 hl);refine .inr ⟨go,λσ' ys' H'=>∃ρ e acc c,Wd K ρ H' c/\Ext aM H1 ρ H'/\dN K ρ H' e σ'/\aJ K ρ H' acc ys'/\acc.length<=i+1/\i+1<=s.items.length/\post K (Rel K) ((bR s.stays g dt de (s.items.drop (i+1)) e acc c).bind λl c=>.ok (.lst l) c) ρ H' Q,?_,λx H3 hy=>?_⟩
   ·rintro σ' ys' H' ⟨ρ,e,acc,c,w,x,v,r,a,l,q⟩
    exact⟨s.items.length-(i+1),∅,ρ,e,acc,c,w,x,v,r,a,l,rfl,q⟩
   ·obtain⟨W3,X3,r3⟩:=yl x H3 hy;have assoc:∀{α β γ:Type}(r:R α) f (g:β->aa->R γ),(r.bind f).bind g=r.bind λa c=>(f a c).bind g:=λr f g=>by cases r<;>rfl
    rw[assoc]at p2;refine⟨dP,_,e2,c2,W3,V2.mono W2 X3,r3,post.bind (post.ext p2 X3) λe4 c4 AY H4 aad _ W4 X4 V4 p4=>?_⟩
    rw[assoc]at p4;refine⟨AY,e4,c4,W4,V4,post.bind p4 λk c5 jA H5 b _ W5 X5 r5 p5=>?_⟩
    cases r5;have wo:=((X2.trans X3).trans X4).trans X5;have Jo:=aJ.mono W2 ((X3.trans X4).trans X5) _ _ r2;cases k with
    |true =>
     refine pU ?_;rw[if_pos rfl,assoc]at p5;refine⟨jA,e4,c5,W5,V4.mono W4 X5,post.bind p5 λy c6 afr H6 v _ aj1 X6 r6 p6=>?_⟩
     refine⟨afr,e4,acc++[y],c6,aj1,wo.trans X6,(V4.mono W4 X5).mono W5 X6,(aJ.mono W5 X6 _ _ Jo).append ⟨v,[],rfl,r6,rfl⟩,by simp;exact ha,hl,p6⟩
    |false =>
     refine pV ?_;exact⟨jA,e4,acc,c5,W5,wo,V4.mono W4 X5,Jo,Nat.le_succ_of_le ha,hl,p5⟩
  ·exact p2.elim
 ·obtain rfl:i=s.items.length:=∅
  rw[VJ (AP _)]at p2;unfold bR at p2;split at p2
  ·rename_i hst;exact .inl ⟨(j1 dP H2 c2 W2 X2 hst _).2 rfl,rA W2 r2 p2⟩
  ·exact p2.elim
theorem NZ{Z:St}{H:Hp}{Q:VK}{K:Ξ}(h:tD K (Rel K) (aX ds pick g dt de) Z H Q):By (Hw K ds) pick (xE K g) (tD K (λ_ _ a b=>a=b) dt) (tD K (Rel K) de) Z H Q:=by
 obtain⟨ρ,e,c,W,V,p⟩:=h;refine⟨ρ,e,c,W,V,post.bind p λs c1 aM H1 Γ _ W1 X1 j1 p1=>?_⟩
 split at p1
 ·rename_i hn;exact ab4 W1 (V.mono W X1).picked j1 hn p1
 ·exact p1.elim
theorem iZ(Θ:cL X N' pick scope)(hit:PId X tg iter ds)
  (hg:∀cl C s₀ H₀ ex pn,kU (fO X N' scope cl C s₀ H₀ ex pn) tg g) (hi:∀cl C s₀ H₀ ex pn,AU (fO X N' scope cl C s₀ H₀ ex pn) ifs dt) (he:∀cl C s₀ H₀ ex pn,bg (fO X N' scope cl C s₀ H₀ ex pn) elt de)
  (hc:X.calm=J:=by rfl) (hs:∀x,foldedSetIterable iter X.env x=pure x:=by intro _;rfl) :
  bg X (.ListComp elt [⟨tg,iter,ifs,0⟩] scope pos) (aX ds pick g dt de):=(akw Θ hc hit hg hi he hs).imp λZ H Q h=>NZ h
theorem k8{spos:Pos}(Θ:cL X N' pick scope)(hit:PId X tg iter ds)(hg:∀cl C s₀ H₀ ex pn,kU (fO X N' scope cl C s₀ H₀ ex pn) tg g)(hi:∀cl C s₀ H₀ ex pn,AU (fO X N' scope cl C s₀ H₀ ex pn) ifs dt)(he:∀cl C s₀ H₀ ex pn,bg (fO X N' scope cl C s₀ H₀ ex pn) elt de)(hsw:swapsWith (.ListComp elt [⟨tg,iter,ifs,0⟩] scope pos) (U (.Name y py)) spos.line X.env=pure J:=by rfl)(hN:X.N.Nodup:=by decide +kernel)(hy:X.N[i]? = U y:=by rfl)(hl:X.env.scope.names.lookup y=U .local:=by rfl)(hc:X.calm=J:=by rfl)(hs:∀x,foldedSetIterable iter X.env x=pure x:=by intro _;rfl):
  jX X (.Assign [.Name y py] (.ListComp elt [⟨tg,iter,ifs,0⟩] scope pos) spos) (aE i (aX ds pick g dt de)):=(aji (g:=xE X.K g) (tt:=tD X.K (λ_ _ a b=>a=b) dt) (te:=tD X.K (Rel X.K) de) hsw hN hy hl Θ hc hit hg hi he hs).imp λσ Z H h=>by
 refine NZ (g:=g) (dt:=dt) (de:=de) ?_;obtain⟨ρ,e,c,W,V,p⟩:=h;refine⟨ρ,e,c,W,V,post.bind p λx c1 aM H1 v _ W1 X1 r1 p1=>p1.here W1 ⟨_,rfl,(V.mono W X1).set r1 i⟩⟩
end
def fG(K:Ξ)(n:Nat)(m:List D->aa->R D):Sp:=λvs H Q _=>∃ρ xs c,Wd K ρ H c/\aJ K ρ H xs vs/\xs.length=n/\post K (Rel K) (m xs c) ρ H Q
def aD(n:Nat)(m:List D->aa->R D)(a:aj):af:=λe c=>(a e c).bind λxs c=>if xs.length=n then m xs c else .bad
def bW(n:Nat)(xs:List D):Ev:=xs.map U++ο (n-xs.length) O
def cH(own:Bool)(n:Nat)(v:D)(c:aa):R D:=match v with
 |.ref k=>match c[k]? with
  |some (.lst l)=>if n<=k then(if own=J then .ok (.ref n) (c.take n++[.lst l])else .ok (.lst l) (c.take n))else .bad
  |none=>.bad
 |v=>if noRef v=J then .ok v (c.take n)else .bad
def bJ(n:Nat)(own:Bool)(d:ah):List D->aa->R D:=λxs c=>(d (bW n xs) c).bind λf c'=>match f with
 |.rt v=>cH own c.length v c'
 |.nx _=>cH own c.length .aF c'
 |_=>.bad
section
variable {P:ν}{w:τ}{K:Ξ}{mg:Str->Option L}{base:π}
theorem zX{own:Bool}(W:Wd K ρ H c)(W1:Wd K aM H1 c1)(X1:Ext ρ H aM H1)(r:Rel K aM H1 v x)(p:post K (Rel K) (cH own c.length v c1) ρ H Q):Q x H1:=by
 have hn:=Ext.len W W1 X1;have Wc:=W1.cut hn;have Xc:=X1.cut (n:=c.length) (R1 W.len);unfold cH at p;split at p
 ·rename_i k;split at p
  ·rename_i l hl;split at p
   ·rename_i hk;obtain⟨a,rfl,ha⟩:=r;obtain⟨nr,xs,hx,rl⟩:=W1.fP k a _ ha hl;have na:a∉aM.take c.length:=by
     intro h;obtain⟨j,hj,e⟩:=Qy.mp h;have hj2:j<c.length:=by simp at hj;omega
     rw[TM]at e;have hk1:=OX.mp ha;have:=(Qf W1.nd (h₀:=(by simp at hj;omega)) (h₁:=hk1.1)).mp (e.trans hk1.2.symm)
     omega
    have sub:∀b,b∈aM.take c.length->b∈aM:=λb h=>Pc h
    split at p
    ·have lr:(aM.take c.length).length=c.length:=by simp[W1.len];omega
     refine p (aM.take c.length++[a]) H1 (.ref a) ?_ ?_ ⟨a,rfl,?_⟩
     ·refine⟨?_,by simp[W1.len],λj b cl e1 e2=>?_,W1.tab⟩
      ·rw[Rh];refine⟨Wc.nd,by simp,?_⟩
       intro y hy z hz;rw[Pa]at hz;subst hz;exact λq=>na (q▸hy)
      ·by_cases hj:j<c.length
       ·rw[Pn (by rw[lr];exact hj)]at e1
        rw[Pn (by simp;omega)]at e2
        have q:=Wc.fP j b cl e1 e2;cases cl with
        |lst l' =>
         obtain⟨lC,ys,hy,r'⟩:=q;refine⟨lC,ys,hy,aJ.low (ρ:=aM) (λz hz=>?_) l' ys lC ?_⟩
         ·rcases PY.mp hz with hz|hz
          ·exact sub z hz
          ·rw[Pa]at hz;subst hz;exact P8 ha
         ·have e1':aM[j]? = U b:=by rw[Sb,if_pos hj]at e1;exact e1
          obtain⟨_,zs,hz,rz⟩:=W1.fP j b _ e1' (by rw[Sb,if_pos hj]at e2;exact e2)
          rw[hy]at hz;cases hz;exact rz
       ·have hj':j=c.length:=by
         have:=(OX.mp e1).1;rw[Pf,lr]at this;simp at this;omega
        subst hj';rw[QT (by rw[lr];exact AP _),lr,Rf]at e1
        rw[QT (by simp;omega),show c.length-(List.take c.length c1).length=0 by simp;omega]at e2
        cases e1;cases e2;refine⟨nr,xs,hx,aJ.low (ρ:=aM) (λz hz=>?_) l xs nr rl⟩
        rcases PY.mp hz with hz|hz
        ·exact sub z hz
        ·rw[Pa]at hz;subst hz;exact P8 ha
     ·refine⟨λj b e=>?_,λb o e z t=>?_⟩
      ·have q:=Xc.pre j b e;rw[Pn (OX.mp q).1];exact q
      ·obtain⟨h1,h2⟩:=X1.keep b o e z t;refine⟨h1,λq=>h2 ?_⟩
       rcases PY.mp q with q|q
       ·exact sub b q
       ·rw[Pa]at q;subst q;exact P8 ha
     ·rw[QT (by rw[lr];exact AP _),lr,Rf];rfl
    ·exact p (aM.take c.length) H1 (.ref a) Wc Xc ⟨a,xs,rfl,⟨hx,na⟩,aJ.low sub l xs nr rl⟩
   ·exact p.elim
  ·exact p.elim
 ·split at p
  ·rename_i hv;exact p _ H1 x Wc Xc (Rel.low (λb h=>Pc h) _ _ hv r)
  ·exact p.elim
theorem dN.start{xs:List D}{N:List Str}(r:aJ K ρ H xs vs):dN K ρ H (bW N.length xs) (start N vs):=by
 have hl:=r.length;refine⟨λi d h=>?_,by simp[bW,L2.start,hl]⟩
 unfold bW at h;unfold L2.start
 by_cases hi:i<xs.length
 ·rw[Pn (by simpa using hi),PK]at h
  cases q:xs[i]? with
  |none=>rw[q]at h;cases h
  |some x =>
   rw[q]at h;cases h;obtain⟨v,hv,rv⟩:=r.get q;exact⟨v,by rw[Pn (by simp[hl];exact hi),PK,hv];rfl,rv⟩
 ·rw[QT (by simpa using Vi hi)]at h
  have:=P8 h;rw[List.mem_replicate]at this;cases this.2
theorem zu{qual:Str}{st:x6}{own:Bool}(F:l5 K x qual st f fd)(Θ:iS N ps (cZ st))(hN:N.length=n)(hm:ps.length=m)(hb:∀(cdv:L) (A:χ) (outer:List Env) (s:Ψ) (H:Hp) (E:XK),cK k (A.deeper (envOfC qual (cZ st) s.heap.objs.size f cdv))->bI (lU c9 P w K mg base N qual (cZ st) f cdv A outer s H E).lD (iO st) d):
  d9 P w K mg base c9 (k+1) f fd ps (fG K m (bJ n own d)):=by
 subst hN;subst hm;refine F.ok Θ (λvs H Q E h=>?_) (λcdv A outer s H vs Q E hr h=>⟨_,hb cdv A outer s H E hr,?_⟩)
 ·obtain⟨ρ,xs,c,W,r,hl,p⟩:=h;exact r.length.trans hl
 ·obtain⟨ρ,xs,c,W,r,hl,p⟩:=h;refine⟨ρ,bW N.length xs,c,W,dN.start r,post.bind p λfl c1 aM H1 b _ W1 X1 r1 p1=>?_⟩
  cases fl with
  |nx e1 =>
   obtain⟨σ1,rfl,V1⟩:=r1;exact zX (v:=.aF) (x:=.aF) (H1:=H1) W W1 X1 rfl (by
    unfold bJ at p;exact id (α:=post K (Rel K) (cH own c.length .aF c1) ρ H Q) (by
     rename_i he;rw[he]at p;exact p))
  |rt d =>
   obtain⟨v,rfl,V1⟩:=r1;exact zX (v:=d) (x:=v) (H1:=H1) W W1 X1 V1 (by
    unfold bJ at p;rename_i he;rw[he]at p;exact p)
  |bk e1=>exact p1.elim
  |ct e1=>exact p1.elim
end
section
variable {X:Cx}
theorem iY{st:x6}{m:List D->aa->R D}{pos:Pos}(D:Def X.K X.mg x st ps f fd)(G:d9 X.prog X.w X.K X.mg X.base c9 k f fd ps (fG X.K n m))(hr:cK k X.A)(ha:gx X (e::es) da)(hg:Gl X x:=by rfl)(hdb:(x==("__debug__":Str))=Δ:=by decide)(he:ε (e::es) X.env=(Δ,eval e X.env)::ε es X.env:=by exact ez rfl)(hpl:(OY pos (ε es X.env)).any (·.1)=Δ:=by exact ig rfl):
  bg X (.Call (.Name x p) (e::es) [] pos) (aD n m da):=(aky D G hr ha hg hdb he hpl).imp λZ H Q h=>by
 obtain⟨ρ,e,c,W,V,q⟩:=h;refine⟨ρ,e,c,W,V,post.bind q λxs c1 aM H1 vs _ W1 X1 r1 p1=>?_⟩
 split at p1
 ·rename_i hl;exact⟨aM,xs,c1,W1,by rw[QX];exact r1,hl,p1⟩
 ·exact p1.elim
theorem bG{id:String}{pos:Pos}{f:List D->aa->R D}(hc:dG X (.builtin id) (rN X.K f))(hm:X.mg x=O)(hv:bootBuiltins x=U (.builtin id))(ha:gx X (e::es) da)(hg:Gl X x:=by rfl)(hn:x≠"__name__":=by decide)(hdb:(x==("__debug__":Str))=Δ:=by decide)(he:ε (e::es) X.env=(Δ,eval e X.env)::ε es X.env:=by exact ez rfl)(hpl:(OY pos (ε es X.env)).any (·.1)=Δ:=by exact ig rfl):bg X (.Call (.Name x p) (e::es) [] pos) (aK f da):=(x8 hc hg hm hv ha hn hdb he hpl).imp λZ H Q h=>Hu h
theorem lz{pos:Pos}{f:List D->aa->R D}(hc:dG X (.type T) (rN X.K f))(hm:X.mg x=O)(hv:bootBuiltins x=U (.type T))(ha:gx X (e::es) da)(hg:Gl X x:=by rfl)(hn:x≠"__name__":=by decide)(hdb:(x==("__debug__":Str))=Δ:=by decide)(he:ε (e::es) X.env=(Δ,eval e X.env)::ε es X.env:=by exact ez rfl)(hpl:(OY pos (ε es X.env)).any (·.1)=Δ:=by exact ig rfl):bg X (.Call (.Name x p) (e::es) [] pos) (aK f da):=(uh hc hg hm hv ha hn hdb he hpl).imp λZ H Q h=>Hu h
end
def aT:List D->aa->R D:=λxs c=>match xs with
 |[x]=>match fH c x with
  |some l=>.ok (.int l.length) c
  |none=>match x with
   |.str z=>if z.length<=Ω then .ok (.int z.length) c else .bad
   |_=>.bad
 |_=>.bad
def GZ:D->Option String
 |.aF=>U "NoneType"
 |.bl _=>U "bool"
 |.int _=>U "int"
 |.str _=>U "str"
 |.tup _=>U "tuple"
 |.lst _=>U "list"
 |.ref _=>U "list"
 |_=>O
def cj:List D->aa->R D:=λxs c=>match xs with
 |[.iM,.ty T]=>if T∈["bool","int","str","list","tuple","dict"]then .ok (.bl (tS "dict" T)) c else .bad
 |[x,.ty T]=>match GZ x with
  |some n=>if T∈["bool","int","str","list","tuple","dict"]then .ok (.bl (tS n T)) c else .bad
  |none=>.bad
 |_=>.bad
def qm:List D->Option (List Bool)
 |[]=>U []
 |.bl b::l=>(qm l).map (b :: ·)
 |_=>O
def iw:List D->Option (List Int)
 |[]=>U []
 |.int i::l=>(iw l).map (i :: ·)
 |_=>O
theorem ER(l:List Bool):qm (l.map D.bl)=U l:=by
 induction l with
 |nil=>rfl
 |cons a l ih=>simp[qm,ih]
theorem yR(l:List Int):iw (l.map D.int)=U l:=by
 induction l with
 |nil=>rfl
 |cons a l ih=>simp[iw,ih]
theorem ES:∀{l:List D}{bs:List Bool},qm l=U bs->l=bs.map D.bl
 |[],bs,h=>by cases h;rfl
 |d::l,bs,h=>by
  cases d with
  |bl b =>
   unfold qm at h;cases q:qm l with
   |none=>rw[q]at h;cases h
   |some r=>rw[q]at h;cases h;rw[ES q];rfl
  |_=>cases h
theorem pY:∀{l:List D}{bs:List Int},iw l=U bs->l=bs.map D.int
 |[],bs,h=>by cases h;rfl
 |d::l,bs,h=>by
  cases d with
  |int b =>
   unfold iw at h;cases q:iw l with
   |none=>rw[q]at h;cases h
   |some r=>rw[q]at h;cases h;rw[pY q];rfl
  |_=>cases h
def pD(f:List Bool->Bool):List D->aa->R D:=λxs c=>match xs with
 |[.lst l]=>match qm l with
  |some bs=>.ok (.bl (f bs)) c
  |none=>.bad
 |_=>.bad
def oW:=pD λbs=>bs.all id
def nj:=pD λbs=>bs.any id
def rE:List D->aa->R D:=λxs c=>match xs with
 |[.int i,.int j]=>.ok (.int (if j>i then j else i)) c
 |_=>.bad
def kj:List D->aa->R D:=λxs c=>match xs with
 |[.int i,.int j]=>.ok (.int (if j<i then j else i)) c
 |_=>.bad
def fZ:Int->List Int->Int
 |a,[]=>a
 |a,b::l=>fZ (if b<a then b else a) l
def fc:List D->aa->R D:=λxs c=>match xs with
 |[x]=>match fH c x with
  |some l=>.ok (.tup l) c
  |none=>.bad
 |_=>.bad
section
variable {X:Cx}{K:Ξ}{ρ:List S}{H:Hp}{c:aa}
theorem dJ:dG X (.builtin "len") (rN X.K aT):=by
 intro pins s Z H vs us Q I rv h;obtain⟨ρ,xs,c,W,rx,p⟩:=h;unfold aT at p;split at p
 ·obtain⟨v,r,rfl,hx,hr⟩:=rx;cases hr;split at p
  ·rename_i l hl;obtain⟨a,ys,rfl,sq,r⟩:=xO W hx hl;exact acs pins s Z H _ us Q I rv ⟨a,ys,rfl,sq,by rw[r.length];exact p.here W rfl⟩
  ·split at p
   ·split at p
    ·rename_i hz;cases hx;exact acr pins s Z H _ us Q I rv ⟨_,rfl,hz,p.here W rfl⟩
    ·exact p.elim
   ·exact p.elim
 ·exact p.elim
theorem agp(W:Wd K ρ H c)(rx:Rel K ρ H x v)(h:GZ x=U n):tyName H v n:=by
 cases x with
 |aF=>cases rx;cases h;exact rfl
 |bl b=>cases rx;cases h;exact rfl
 |int b=>cases rx;cases h;exact rfl
 |str b=>cases rx;cases h;exact rfl
 |tup l=>obtain⟨a,xs,rfl,s,r⟩:=rx;cases h;exact .inr (.inl ⟨rfl,xs,s⟩)
 |lst l=>obtain⟨a,xs,rfl,s,r⟩:=rx;cases h;exact .inl ⟨rfl,.inl ⟨xs,s.1⟩⟩
 |ref k =>
  obtain⟨a,rfl,s⟩:=rx;cases h;obtain⟨xs,e⟩:=W.at' (P8 s);exact .inl ⟨rfl,.inl ⟨xs,e⟩⟩
 |_=>cases h
theorem kO:dG X (.builtin "isinstance") (rN X.K cj):=by
 intro pins s Z H vs us Q I rv h;obtain⟨ρ,xs,c,W,rx,p⟩:=h;unfold cj at p;split at p
 ·split at p
  ·rename_i hT;obtain⟨v,r,rfl,⟨a,rfl,hH⟩,u,r',rfl,hu,hr⟩:=rx;cases hr;cases hu;obtain⟨u1,u2,rfl,r1,r2⟩:=Vals.two rv;cases r1;cases r2;obtain⟨hp,_,_⟩:=I.hok a _ hH;exact QH U9 I.fS hp (LB (n:="dict") (by simp) hT) (λz=>nomatch z) λtk=>⟨.bl _,H,I.tok _,rfl,p.here W rfl⟩
  ·exact p.elim
 ·split at p
  ·rename_i n hn;split at p
   ·rename_i hT;obtain⟨v,r,rfl,hx,u,r',rfl,hu,hr⟩:=rx;cases hr;cases hu;exact acu pins s Z H _ us Q I rv ⟨v,n,_,rfl,agp W hx hn,hT,p.here W rfl⟩
   ·exact p.elim
  ·exact p.elim
 ·exact p.elim
theorem Od(hc:X.calm=J:=by rfl):dG X (.builtin "all") (rN X.K oW):=by
 intro pins s Z H vs us Q I rv h;obtain⟨ρ,xs,c,W,rx,p⟩:=h;unfold oW pD at p;split at p
 ·split at p
  ·rename_i bs hb;obtain⟨v,r,rfl,⟨a,ys,rfl,s1,r1⟩,hr⟩:=rx;cases hr;rw[ES hb]at r1;cases r1.EO;exact acy hc pins s Z H _ us Q I rv ⟨a,bs,rfl,bf.of s1.1,p.here W rfl⟩
  ·exact p.elim
 ·exact p.elim
theorem aci(hc:X.calm=J:=by rfl):dG X (.builtin "any") (rN X.K nj):=by
 intro pins s Z H vs us Q I rv h;obtain⟨ρ,xs,c,W,rx,p⟩:=h;unfold nj pD at p;split at p
 ·split at p
  ·rename_i bs hb;obtain⟨v,r,rfl,⟨a,ys,rfl,s1,r1⟩,hr⟩:=rx;cases hr;rw[ES hb]at r1;cases r1.EO;exact acw hc pins s Z H _ us Q I rv ⟨a,bs,rfl,bf.of s1.1,p.here W rfl⟩
  ·exact p.elim
 ·exact p.elim
theorem acg(hc:X.calm=J:=by rfl):dG X (.builtin "max") (rN X.K rE):=by
 intro pins s Z H vs us Q I rv h;obtain⟨ρ,xs,c,W,rx,p⟩:=h;unfold rE at p;split at p
 ·obtain⟨v,r,rfl,hx,u,r',rfl,hu,hr⟩:=rx;cases hr;cases hx;cases hu;exact acp hc pins s Z H _ us Q I rv ⟨_,_,rfl,p.here W rfl⟩
 ·exact p.elim
theorem sH(hc:X.calm=J:=by rfl):dG X (.builtin "min") (rN X.K kj):=by
 intro pins s Z H vs us Q I rv h;obtain⟨ρ,xs,c,W,rx,p⟩:=h;unfold kj at p;split at p
 ·obtain⟨v,r,rfl,hx,u,r',rfl,hu,hr⟩:=rx;cases hr;cases hx;cases hu;exact aco hc pins s Z H _ us Q I rv ⟨_,_,rfl,p.here W rfl⟩
 ·exact p.elim
theorem ng:dG X (.type "tuple") (rN X.K fc):=by
 intro pins s Z H vs us Q I rv h;obtain⟨ρ,xs,c,W,rx,p⟩:=h;unfold fc at p;split at p
 ·rename_i x;obtain⟨v,r,rfl,hx,hr⟩:=rx;cases hr;split at p
  ·rename_i l hl;obtain⟨a,ys,rfl,sq,r⟩:=xO W hx hl;refine acm pins s Z H _ us Q I rv ⟨a,ys,rfl,?_⟩
   rcases sq with sq|sq
   ·exact .inl ⟨sq,yr W r p⟩
   ·refine .inr ⟨sq,?_⟩;cases x with
    |tup m=>cases hl;exact p.here W hx
    |lst m =>
     obtain⟨b,zs,e,s1,_⟩:=hx;cases e;exfalso
     rcases sq with sq|⟨o,its,n,hk,hcl,_⟩
     ·rcases sq with sq|⟨o,sq⟩<;>(rw[s1.1]at sq;cases sq)
     ·have:=I.bs a o (I.ok.mod.mR a o hk);rw[s1.1]at this;cases this.2
    |bK m =>
     exfalso;obtain⟨b,e,s1⟩:=hx;cases e;obtain⟨i1,_,pl,_⟩:=I.list s1.sql;obtain⟨i2,_,pt,_⟩:=I.tuple sq;obtain⟨o1,e1,c1,_⟩:=pl.isList;obtain⟨o2,e2,c2,_⟩:=pt;rw[e1]at e2;cases e2;rw[c1]at c2;exact absurd c2 ⋯
    |ref k =>
     exfalso;obtain⟨b,e,s1⟩:=hx;cases e;obtain⟨zs,hz⟩:=W.at' (P8 s1)
     rcases sq with sq|⟨o,its,n,hk,hcl,_⟩
     ·rcases sq with sq|⟨o,sq⟩<;>(rw[hz]at sq;cases sq)
     ·have:=I.bs a o (I.ok.mod.mR a o hk);rw[hz]at this;cases this.2
    |_=>cases hl
  ·exact p.elim
 ·exact p.elim
theorem Ow(l:List Int)(a:Int):∀k,k<(a::l).length->(a::l).getD (argBest (λi j=>decide ((a::l).getD i 0<(a::l).getD j 0)) k) 0=fZ a (l.take k)
 |0,_=>rfl
 |k+1,h=>by
  have ih:=Ow l a k (Tt h);have hk:k<l.length:=by simpa using h
  have step:∀(l:List Int) k (a:Int) _,fZ a (l.take (k+1))=if l[k]<fZ a (l.take k)then l[k]else fZ a (l.take k):=by
   intro l
   induction l with
   |nil=>intro k a hk;cases hk
   |cons b l ihl =>
    intro k a hk;cases k with
    |zero=>simp[fZ]
    |succ k =>
     have:=ihl k (if b<a then b else a) (by simpa using hk)
     simpa[fZ]using this
  rw[step l k a hk];unfold argBest;rw[ih];have e:(a::l).getD (k+1) 0=l[k]:=by simp[List.getD,hk]
  rw[e]
  by_cases hc:l[k]<fZ a (l.take k)
  ·rw[if_pos (by simpa using hc),if_pos hc,e]
  ·rw[if_neg (by simpa using hc),if_neg hc,ih]
end
def lT(o a:af):af:=λe c=>(o e c).bind λx c=>match x with
 |.ref k=>(a e c).bind λy c=>match c[k]? with
  |some (.lst l)=>if l.length<Ω/\noRef y=J then .ok .aF (c.set k (.lst (l++[y])))else .bad
  |none=>.bad
 |_=>.bad
theorem JG{apos:Pos}(ho:bg X o dO)(ha:bg X e da)(hbase:TY o "append" X.env (eval o X.env)=eval o X.env:=by rfl)(hfew:((OY cpos (ε [e] X.env)).all (λx=>!x.1)&&(R7 cpos (R5 [] X.env)).all (λx=>x.1.isSome)
   && decide ([e].length+([]:List QL).length+(if([]:List QL).isEmpty then 0 else 1)<30))=J:=by exact HJ rfl)(hline:(apos.endLine==cpos.line)=J:=by rfl)(hs:ε [e] X.env=(Δ,eval e X.env)::ε [] X.env:=by exact ez rfl)(hplain:(OY cpos (ε [] X.env)).any (·.1)=Δ:=by exact ig rfl):
  bg X (.Call (.Attribute o "append" apos) [e] [] cpos) (lT dO da) :=
 (Ci Tr PySem.F.slot_list_append PySem.F.type_list_append WY ho (jJ ha lA hs) hbase hfew hline hs hplain).imp λZ H Q h=>by
  obtain⟨ρ,e,c,W,V,p⟩:=h;refine⟨ρ,e,c,W,V,post.bind p λx c1 aM H1 v _ W1 X1 r1 p1=>?_⟩
  cases x with
  |ref k =>
   obtain⟨a,rfl,ha⟩:=r1;obtain⟨xs,hx⟩:=W1.at' (P8 ha);refine⟨.inl ⟨rfl,xs,bf.of hx⟩,aM,e,c1,W1,V.mono W X1,post.bind p1 λy c2 dP H2 u _ W2 X2 r2 p2=>?_⟩
   split at p2
   ·rename_i l hl;split at p2
    ·rename_i hh;obtain⟨nr,ys,hy,rl⟩:=W2.fP k a _ (X2.pre k a ha) hl;refine⟨a,ys,u,rfl,rfl,hy,by rw[rl.length];exact hh.1,?_⟩
     refine p2 dP _ .aF (W2.write (X2.pre k a ha) (by rw[uC,nr];simp[bD,hh.2]) (rl.append ⟨u,[],rfl,r2,rfl⟩)) (Ext.write (X2.pre k a ha)) rfl
    ·exact p2.elim
   ·exact p2.elim
  |_=>exact p1.elim
section
variable (e:Ev) (c:aa) (a b d:af) (ta tb:ai) (s t:ah) (l:aj) (g:Gd) (gs:List D->Ev->aa->R Ev)
@[simp] theorem cX(i:Nat):ak i e c=match e[i]? with|some (U d)=>.ok d c|_=>.bad:=rfl
@[simp] theorem jB(d:D):dC d e c=.ok d c:=rfl
@[simp] theorem fV(f:D->D->aa->R D):av f a b e c=(a e c).bind λx c=>(b e c).bind λy c=>f x y c:=rfl
@[simp] theorem qH(f:List D->aa->R D):aK f l e c=(l e c).bind λxs c=>f xs c:=rfl
@[simp] theorem cQ:aq e c=.ok [] c:=rfl
@[simp] theorem cY:ao a l e c=(a e c).bind λx c=>(l e c).bind λxs c=>.ok (x::xs) c:=rfl
@[simp] theorem wX:bZ l e c=(l e c).bind λxs c=>if xs.length<=Ω then .ok (.tup xs) c else .bad:=rfl
@[simp] theorem qG:bV l e c=(l e c).bind λxs c=>if xs.length<=Ω then .ok (.lst xs) c else .bad:=rfl
@[simp] theorem adz:fN l e c=(l e c).bind λxs c=>if xs.length<=Ω/\bD xs=J then .ok (.ref c.length) (c++[.lst xs])else .bad:=rfl
@[simp] theorem xg:aI a e c=(a e c).bind λx c=>match x with|.bl b=>.ok b c|_=>.bad:=rfl
@[simp] theorem adn:z6 a e c=(a e c).bind λx c=>match qM c x with|some b=>.ok b c|none=>.bad:=rfl
@[simp] theorem xj:kN ta tb e c=(ta e c).bind λx c=>if x=J then tb e c else .ok Δ c:=rfl
@[simp] theorem afM:kM ta tb e c=(ta e c).bind λx c=>if x=J then .ok J c else tb e c:=rfl
@[simp] theorem afU:gw ta e c=(ta e c).bind λx c=>.ok (!x) c:=rfl
@[simp] theorem adL:m7 a b e c=(a e c).bind λx c=>match x with|.bl k=>if k=J then b e c else .ok (.bl Δ) c|_=>.bad:=rfl
@[simp] theorem afL:oQ a e c=(a e c).bind λx c=>match x with|.bl k=>.ok (.bl (!k)) c|_=>.bad:=rfl
@[simp] theorem GA:sF ta a b e c=(ta e c).bind λx c=>if x=J then a e c else b e c:=rfl
@[simp] theorem x_call(n:Nat)(m:List D->aa->R D):aD n m l e c=(l e c).bind λxs c=>if xs.length=n then m xs c else .bad:=rfl
@[simp] theorem adt:bQ e c=.ok (.nx e) c:=rfl
@[simp] theorem adK:BX e c=.bad:=rfl
@[simp] theorem ic:aB s t e c=(s e c).bind λf c=>match f with|.nx e=>t e c|f=>.ok f c:=rfl
@[simp] theorem qF:aS a e c=(a e c).bind λx c=>.ok (.rt x) c:=rfl
@[simp] theorem wZ:fh a e c=(a e c).bind λ_ c=>.ok (.nx e) c:=rfl
@[simp] theorem sX:bC ta s t e c=(ta e c).bind λx c=>if x=J then s e c else t e c:=rfl
@[simp] theorem qE(i:Nat):aE i a e c=(a e c).bind λx c=>.ok (.nx (e.set i (U x))) c:=rfl
@[simp] theorem xh:iW a g e c=(a e c).bind λx c=>(g x e c).bind λe c=>.ok (.nx e) c:=rfl
@[simp] theorem GB(i:Nat)(x:D):aA i x e c=.ok (e.set i (U x)) c:=rfl
@[simp] theorem adG:fB [] e c=.ok e c:=rfl
@[simp] theorem adH(x:D)(xs:List D):b9 g gs (x::xs) e c=(g x e c).bind λe c=>gs xs e c:=rfl
@[simp] theorem adF(n:Nat)(xs:List D):fy n gs (.tup xs) e c=if xs.length=n then gs xs e c else .bad:=rfl
@[simp] theorem Bo(x:D):jT a b x e c=(a e c).bind λo c=>(b e c).bind λi c=>(mw o i x c).bind λ_ c=>.ok e c:=rfl
@[simp] theorem nC(sr:Ev->aa->R Src):bL sr g s e c=(sr e c).bind λq c=>bU q.stays g s q.items e c:=rfl
@[simp] theorem iT(n:Nat)(own:Bool)(xs:List D):bJ n own s xs c=(s (bW n xs) c).bind λf c'=>match f with
 |.rt v=>cH own c.length v c'
 |.nx _=>cH own c.length .aF c'
 |_=>.bad:=rfl
@[simp] theorem adp(n:Nat)(xs:List D):bW n xs=xs.map U++ο (n-xs.length) O:=rfl
@[simp] theorem nE(sr:Ev->aa->R Src)(pick:List (Option Nat)):aX sr pick g ta a e c=(sr e c).bind λq c =>
 if q.items.length<Ω then(bR q.stays g ta a q.items (fj pick e) [] c).bind λl c=>.ok (.lst l) c else .bad:=rfl
@[simp] theorem qD:aY e c=.ok J c:=rfl
@[simp] theorem sZ(i j:Int):aZ (.int i) (.int j) c=.ok (.int (i+j)) c:=rfl
@[simp] theorem adM(x y:List D):aZ (.tup x) (.tup y) c=if x.length≠0/\x.length+y.length<=Ω then .ok (.tup (x++y)) c else .bad:=rfl
@[simp] theorem ado(i j:Int):k6 (.int i) (.int j) c=.ok (.int (i-j)) c:=rfl
theorem jZ(i j:Int):bY (.int i) (.int j) c=if(-(2^64)<i/\i<2^64)\/(-(2^64)<j/\j<2^64)then .ok (.int (i*j)) c else .bad:=rfl
theorem GC(i j:Int):dX (.int i) (.int j) c=if 0<j/\j<1073741824 then .ok (.int (i/j)) c else .bad:=rfl
theorem afS(i j:Int):fq (.int i) (.int j) c=if 0<j then .ok (.int (i % j)) c else .bad:=rfl
theorem afI(i j:Int):qW (.int i) (.int j) c=if 0<=j/\j<=1000000/\i.natAbs<2^64 then .ok (.int (i^j.toNat)) c else .bad:=rfl
@[simp] theorem adJ(p:Int->Int->Bool)(i j:Int):sG p (.int i) (.int j) c=.ok (.bl (p i j)) c:=rfl
@[simp] theorem wY(i j:Int):bH (.int i) (.int j) c=.ok (.bl (decide (i=j))) c:=rfl
@[simp] theorem adv(i j:Int):fL (.int i) (.int j) c=.ok (.bl (!decide (i=j))) c:=rfl
@[simp] theorem adI(i j:Bool):bH (.bl i) (.bl j) c=.ok (.bl (decide (i=j))) c:=rfl
@[simp] theorem adw(i j:Bool):fL (.bl i) (.bl j) c=.ok (.bl (!decide (i=j))) c:=rfl
@[simp] theorem afQ(i j:Str):bH (.str i) (.str j) c=.ok (.bl (decide (i=j))) c:=rfl
@[simp] theorem adu(i j:Str):fL (.str i) (.str j) c=.ok (.bl (!decide (i=j))) c:=rfl
@[simp] theorem x_is(x:D):mU x .aF c=.ok (.bl (fM x)) c:=rfl
@[simp] theorem adD(x:D):iJ x .aF c=.ok (.bl (!fM x)) c:=rfl
@[simp] theorem aec:fM .aF=J:=rfl
@[simp] theorem n_bl(b:Bool):fM (.bl b)=Δ:=rfl
@[simp] theorem aee(b:Int):fM (.int b)=Δ:=rfl
@[simp] theorem aeb(b:Str):fM (.str b)=Δ:=rfl
@[simp] theorem aea(b:List D):fM (.tup b)=Δ:=rfl
@[simp] theorem aed(b:List D):fM (.lst b)=Δ:=rfl
@[simp] theorem Bm(xs:List D)(i:Int):aG (.tup xs) (.int i) c=match dY xs i with|some d=>.ok d c|none=>.bad:=rfl
@[simp] theorem iE(xs:List D)(i:Int):aG (.lst xs) (.int i) c=match dY xs i with|some d=>.ok d c|none=>.bad:=rfl
@[simp] theorem Gz(xs:List D):aT [.tup xs] c=.ok (.int xs.length) c:=rfl
@[simp] theorem Bl(xs:List D):aT [.lst xs] c=.ok (.int xs.length) c:=rfl
@[simp] theorem adC(xs:List Int):aT [.bK xs] c=.ok (.int xs.length) c:=by
 show R.ok _ c=_;rw[O2]
@[simp] theorem ady(i j:Int):rE [.int i,.int j] c=.ok (.int (if j>i then j else i)) c:=rfl
@[simp] theorem adx(i j:Int):kj [.int i,.int j] c=.ok (.int (if j<i then j else i)) c:=rfl
@[simp] theorem adX:noRef .aF=J:=rfl
@[simp] theorem r_bl(b:Bool):noRef (.bl b)=J:=rfl
@[simp] theorem adZ(b:Int):noRef (.int b)=J:=rfl
@[simp] theorem adW(b:Str):noRef (.str b)=J:=rfl
@[simp] theorem ahH(b:List D):noRef (.tup b)=bD b:=by simp[noRef]
@[simp] theorem ahG(b:List D):noRef (.lst b)=bD b:=by simp[noRef]
@[simp] theorem adY:bD []=J:=by simp[bD]
@[simp] theorem ad0(d:D)(b:List D):bD (d::b)=(noRef d&&bD b):=by simp[bD]
@[simp] theorem q_bl(own:Bool)(n:Nat)(b:Bool):cH own n (.bl b) c=.ok (.bl b) (c.take n):=rfl
@[simp] theorem ad5(own:Bool)(n:Nat):cH own n .aF c=.ok .aF (c.take n):=rfl
@[simp] theorem ad7(own:Bool)(n:Nat)(b:Int):cH own n (.int b) c=.ok (.int b) (c.take n):=rfl
@[simp] theorem ad4(own:Bool)(n:Nat)(b:Str):cH own n (.str b) c=.ok (.str b) (c.take n):=rfl
@[simp] theorem ad3(own:Bool)(n:Nat)(b:List D):cH own n (.tup b) c=if bD b=J then .ok (.tup b) (c.take n)else .bad:=by
 show(if noRef (.tup b)=J then R.ok (D.tup b) (c.take n)else R.bad)=_
 rw[ahH]
@[simp] theorem ad6(own:Bool)(n:Nat)(b:List D):cH own n (.lst b) c=if bD b=J then .ok (.lst b) (c.take n)else .bad:=by
 show(if noRef (.lst b)=J then R.ok (D.lst b) (c.take n)else R.bad)=_
 rw[ahG]
@[simp] theorem o4:bu l e c=(l e c).bind λxs c=>match xs with
 |[.int j]=>if -(2^62)<=j/\j<2^62 then .ok ⟨aR 0 j,λ_=>True⟩ c else .bad
 |_=>.bad:=rfl
@[simp] theorem Gy:gv l e c=(l e c).bind λxs c=>match xs with
 |[.int i,.int j]=>if -(2^62)<=i/\i<2^62/\-(2^62)<=j/\j<2^62 then .ok ⟨aR i j,λ_=>True⟩ c else .bad
 |_=>.bad:=rfl
@[simp] theorem adq:dF a e c=(a e c).bind λx c=>match x with
 |.lst l=>.ok ⟨l,λ_=>True⟩ c
 |.bK l=>.ok ⟨l.map D.int,λ_=>True⟩ c
 |.ref k=>match c[k]? with
  |some (.lst l)=>.ok ⟨l,λc=>c[k]? = U (.lst l)⟩ c
  |none=>.bad
 |_=>.bad:=rfl
@[simp] theorem afG:g6 a e c=(a e c).bind λx c=>match x with
 |.tup l=>.ok ⟨l,λ_=>True⟩ c
 |_=>.bad:=rfl
end
section
variable (g:Gd) (s:ah) (t:ai) (a:af) (e:Ev) (c:aa)
@[simp] theorem aaF:bU (λ_=>True) g s [] e c=.ok (.nx e) c:=by simp[bU]
@[simp] theorem iL(x:D)(xs:List D):bU (λ_=>True) g s (x::xs) e c=(g x e c).bind λe c=>(s e c).bind λf c=>match f with
   |.nx e=>bU (λ_=>True) g s xs e c
   |.ct e=>bU (λ_=>True) g s xs e c
   |.bk e=>.ok (.nx e) c
   |.rt d=>.ok (.rt d) c:=by
 exact if_pos trivial
@[simp] theorem aeZ(acc:List D):bR (λ_=>True) g t a [] e acc c=.ok acc c:=by simp[bR]
@[simp] theorem m9(x:D)(xs acc:List D):bR (λ_=>True) g t a (x::xs) e acc c=(g x e c).bind λe c=>(t e c).bind λk c=>if k=J then(a e c).bind λy c=>bR (λ_=>True) g t a xs e (acc++[y]) c else bR (λ_=>True) g t a xs e acc c:=by
 exact if_pos trivial
end
@[simp] theorem gz{α:Type}(a:α)(l:List α):(a::l)[0]? = U a:=rfl
@[simp] theorem gs{α:Type}(a:α)(l:List α)(n:Nat):(a::l)[n+1]? = l[n]?:=rfl
@[simp] theorem qo{α:Type}(a:α)(l:List α):dY (a::l) 0=U a:=by simp[dY,gV]
@[simp] theorem ni{α:Type}(a b:α)(l:List α):dY (a::b::l) 1=U b:=by
 unfold dY gV;rw[if_pos ⋯,if_pos (by simp;omega)]
 rfl
@[simp] theorem at2{α:Type}(a b d:α)(l:List α):dY (a::b::d::l) 2=U d:=by
 unfold dY gV;rw[if_pos ⋯,if_pos (by simp;omega)]
 rfl
@[simp] theorem at3{α:Type}(a b d f:α)(l:List α):dY (a::b::d::f::l) 3=U f:=by
 unfold dY gV;rw[if_pos ⋯,if_pos (by simp;omega)]
 rfl
@[simp] theorem at4{α:Type}(a b d f h:α)(l:List α):dY (a::b::d::f::h::l) 4=U h:=by
 unfold dY gV;rw[if_pos ⋯,if_pos (by simp;omega)]
 rfl
theorem cN(h:n<=1000):n<=Ω:=PJ h ⋯
@[simp] theorem sl0:(0:Nat)<=Ω:=Pd _
@[simp] theorem sl1:(1:Nat)<=Ω:=⋯
@[simp] theorem sl2:(2:Nat)<=Ω:=⋯
@[simp] theorem sl3:(3:Nat)<=Ω:=⋯
@[simp] theorem sl4:(4:Nat)<=Ω:=⋯
@[simp] theorem sl5:(5:Nat)<=Ω:=⋯
@[simp] theorem sl6:(6:Nat)<=Ω:=⋯
@[simp] theorem st0:(0:Nat)<Ω:=⋯
@[simp] theorem st1:(1:Nat)<Ω:=⋯
@[simp] theorem st2:(2:Nat)<Ω:=⋯
@[simp] theorem st3:(3:Nat)<Ω:=⋯
@[simp] theorem HL:(4:Nat)<Ω:=⋯
@[simp] theorem pq:(5:Nat)<Ω:=⋯
@[simp] theorem aeH(i:Int)(c:aa):cj [.int i,.ty "int"] c=.ok (.bl J) c:=rfl
@[simp] theorem aeI(i:Int)(c:aa):cj [.int i,.ty "bool"] c=.ok (.bl Δ) c:=rfl
@[simp] theorem aeF(i:Int)(c:aa):cj [.int i,.ty "str"] c=.ok (.bl Δ) c:=rfl
@[simp] theorem aeE(i:Int)(c:aa):cj [.int i,.ty "tuple"] c=.ok (.bl Δ) c:=rfl
@[simp] theorem aeG(i:Int)(c:aa):cj [.int i,.ty "list"] c=.ok (.bl Δ) c:=rfl
@[simp] theorem aeM(i:Bool)(c:aa):cj [.bl i,.ty "int"] c=.ok (.bl J) c:=rfl
@[simp] theorem aeN(i:Bool)(c:aa):cj [.bl i,.ty "bool"] c=.ok (.bl J) c:=rfl
@[simp] theorem aeK(i:Bool)(c:aa):cj [.bl i,.ty "str"] c=.ok (.bl Δ) c:=rfl
@[simp] theorem aeJ(i:Bool)(c:aa):cj [.bl i,.ty "tuple"] c=.ok (.bl Δ) c:=rfl
@[simp] theorem aeL(i:Bool)(c:aa):cj [.bl i,.ty "list"] c=.ok (.bl Δ) c:=rfl
@[simp] theorem aes(i:Str)(c:aa):cj [.str i,.ty "int"] c=.ok (.bl Δ) c:=rfl
@[simp] theorem aet(i:Str)(c:aa):cj [.str i,.ty "bool"] c=.ok (.bl Δ) c:=rfl
@[simp] theorem aeq(i:Str)(c:aa):cj [.str i,.ty "str"] c=.ok (.bl J) c:=rfl
@[simp] theorem aep(i:Str)(c:aa):cj [.str i,.ty "tuple"] c=.ok (.bl Δ) c:=rfl
@[simp] theorem aer(i:Str)(c:aa):cj [.str i,.ty "list"] c=.ok (.bl Δ) c:=rfl
@[simp] theorem aex(c:aa):cj [.aF,.ty "int"] c=.ok (.bl Δ) c:=rfl
@[simp] theorem aey(c:aa):cj [.aF,.ty "bool"] c=.ok (.bl Δ) c:=rfl
@[simp] theorem aev(c:aa):cj [.aF,.ty "str"] c=.ok (.bl Δ) c:=rfl
@[simp] theorem aeu(c:aa):cj [.aF,.ty "tuple"] c=.ok (.bl Δ) c:=rfl
@[simp] theorem aew(c:aa):cj [.aF,.ty "list"] c=.ok (.bl Δ) c:=rfl
@[simp] theorem aen(i:List D)(c:aa):cj [.tup i,.ty "int"] c=.ok (.bl Δ) c:=rfl
@[simp] theorem aeo(i:List D)(c:aa):cj [.tup i,.ty "bool"] c=.ok (.bl Δ) c:=rfl
@[simp] theorem ael(i:List D)(c:aa):cj [.tup i,.ty "str"] c=.ok (.bl Δ) c:=rfl
@[simp] theorem aek(i:List D)(c:aa):cj [.tup i,.ty "tuple"] c=.ok (.bl J) c:=rfl
@[simp] theorem aem(i:List D)(c:aa):cj [.tup i,.ty "list"] c=.ok (.bl Δ) c:=rfl
@[simp] theorem aeC(i:List D)(c:aa):cj [.lst i,.ty "int"] c=.ok (.bl Δ) c:=rfl
@[simp] theorem aeD(i:List D)(c:aa):cj [.lst i,.ty "bool"] c=.ok (.bl Δ) c:=rfl
@[simp] theorem aeA(i:List D)(c:aa):cj [.lst i,.ty "str"] c=.ok (.bl Δ) c:=rfl
@[simp] theorem aez(i:List D)(c:aa):cj [.lst i,.ty "tuple"] c=.ok (.bl Δ) c:=rfl
@[simp] theorem aeB(i:List D)(c:aa):cj [.lst i,.ty "list"] c=.ok (.bl J) c:=rfl
section
variable (c:aa) {i j:Int}
theorem yy(h1:-18446744073709551616<i)(h2:i<18446744073709551616):bY (.int i) (.int j) c=.ok (.int (i*j)) c:=by
 rw[jZ,if_pos];exact .inl ⟨∅,∅⟩
theorem mul_r(h1:-18446744073709551616<j)(h2:j<18446744073709551616):bY (.int i) (.int j) c=.ok (.int (i*j)) c:=by
 rw[jZ,if_pos];exact .inr ⟨∅,∅⟩
theorem qe(h1:0<j)(h2:j<1073741824):dX (.int i) (.int j) c=.ok (.int (i/j)) c:=by
 rw[GC,if_pos ⟨h1,h2⟩]
theorem mJ(h1:0<j):fq (.int i) (.int j) c=.ok (.int (i % j)) c:=by
 rw[afS,if_pos h1]
theorem Js(h1:0<=j)(h2:j<=1000000)(h3:i.natAbs<18446744073709551616):qW (.int i) (.int j) c=.ok (.int (i^j.toNat)) c:=by
 rw[afI,if_pos ⟨h1,h2,h3⟩]
end
section
variable {g:Gd}{s:ah}{t:ai}{a:af}
theorem vQ(inv:Ev->Prop)(F:D->Bool)(G:D->D):∀(items:List D) (e:Ev) (acc:List D),inv e ->
  (∀x∈items,∀e,inv e->∃e',g x e c=.ok e' c/\inv e'/\t e' c=.ok (F x) c/\(F x=J->a e' c=.ok (G x) c)) ->
  bR (λ_=>True) g t a items e acc c=.ok (acc++(items.filter F).map G) c
 |[],e,acc,_,_=>by simp
 |x::xs,e,acc,hi,h=>by
  obtain⟨e',h1,h2,h3,h4⟩:=h x Pu e hi;rw[m9,h1,R.aH,h3,R.aH];cases hF:F x with
  |true =>
   rw[if_pos rfl,h4 hF,R.aH,vQ inv F G xs e' _ h2 λy hy=>h y (Pr _ hy)]
   simp[hF]
  |false =>
   rw[if_neg PM,vQ inv F G xs e' _ h2 λy hy=>h y (Pr _ hy)]
   simp[hF]
theorem zo{c:aa}(inv:Ev->Prop)(P:D->Option D):∀(items:List D) (e:Ev),inv e ->
  (∀x∈items,∀e,inv e->∃e' e'',g x e c=.ok e' c/\inv e''/\s e' c=match P x with|none=>.ok (.nx e'') c|some v=>.ok (.rt v) c) ->
  match items.findSome? P with|none=>∃e',inv e'/\bU (λ_=>True) g s items e c=.ok (.nx e') c|some v=>bU (λ_=>True) g s items e c=.ok (.rt v) c
 |[],e,hi,_=>⟨e,hi,by simp⟩
 |x::xs,e,hi,h=>by
  obtain⟨e',e'',h1,h2,h3⟩:=h x Pu e hi;have ih:=zo inv P xs e'' h2 λy hy=>h y (Pr _ hy)
  rw[List.findSome?_cons,iL,h1,R.aH,h3];cases hP:P x with
  |some v=>simp
  |none=>simpa using ih
theorem Nb(inv:Ev->Prop):∀(items:List D) (e:Ev) (c:aa),inv e ->
  (∀x∈items,∀e c,inv e->∃e' e'' c' c'',g x e c=.ok e' c'/\s e' c'=.ok (.nx e'') c''/\inv e'') ->
  ∃e' c',inv e'/\bU (λ_=>True) g s items e c=.ok (.nx e') c'
 |[],e,c,hi,_=>⟨e,c,hi,by simp⟩
 |x::xs,e,c,hi,h=>by
  obtain⟨e',e'',c',c'',h1,h2,h3⟩:=h x Pu e c hi;obtain⟨e3,c3,i3,h4⟩:=Nb inv xs e'' c'' h3 λy hy=>h y (Pr _ hy)
  exact⟨e3,c3,i3,by rw[iL,h1,R.aH,h2];exact h4⟩
theorem Na(inv:Ev->aa->Prop):∀(items:List D) (e:Ev) (c:aa),inv e c ->
  (∀x∈items,∀e c,inv e c->∃e' e'' c' c'',g x e c=.ok e' c'/\s e' c'=.ok (.nx e'') c''/\inv e'' c'') ->
  ∃e' c',inv e' c'/\bU (λ_=>True) g s items e c=.ok (.nx e') c'
 |[],e,c,hi,_=>⟨e,c,hi,by simp⟩
 |x::xs,e,c,hi,h=>by
  obtain⟨e',e'',c',c'',h1,h2,h3⟩:=h x Pu e c hi;obtain⟨e3,c3,i3,h4⟩:=Na inv xs e'' c'' h3 λy hy=>h y (Pr _ hy)
  exact⟨e3,c3,i3,by rw[iL,h1,R.aH,h2];exact h4⟩
end
theorem jk{lo:Int}(h:d∈aR lo hi):∃i:Int,d=.int i/\lo<=i/\i<hi:=by
 obtain⟨k,hk,rfl⟩:=K1.mp h;have:=dg.mp hk;exact⟨lo+k,rfl,∅,∅⟩
theorem fX{lo:Int}:(aR lo hi).length=(hi-lo).toNat:=by simp[aR]
def eV(c:aa):D->Option (List D)
 |.lst l=>U l
 |.ref k=>match c[k]? with
  |some (.lst l)=>U l
  |none=>O
 |_=>O
def tT(c:aa):D->aa->Prop
 |.ref k=>λc'=>c'[k]? = c[k]?
 |_=>λ_=>True
def sI:D->D->aa->R D:=λx y c=>match eV c x,eV c y with
 |some l,U m=>if l.length+m.length<=Ω then .ok (.lst (l++m)) c else .bad
 |_,_=>.bad
def cutD(xs:List D)(lo hi:Option Int):List D:=(xs.drop (HT.gO xs.length 0 lo)).take (HT.gO xs.length xs.length hi-HT.gO xs.length 0 lo)
def qg(a:af)(lo hi:Ev->aa->R (Option Int)):af:=λe c=>(a e c).bind λx c=>(lo e c).bind λl c=>(hi e c).bind λu c=>match eV c x with
 |some xs=>.ok (.lst (cutD xs l u)) c
 |none=>.bad
def qh:Ev->aa->R (Option Int):=λ_ c=>.ok O c
def oO(a:af):Ev->aa->R (Option Int):=λe c=>(a e c).bind λx c=>match x with
 |.int i=>.ok (U i) c
 |_=>.bad
def vN(a:aj):Ev->aa->R Src:=λe c=>(a e c).bind λxs c=>match xs with
 |[.tup l,.tup m]=>.ok ⟨List.zipWith (λx y=>.tup [x,y]) l m,λ_=>True⟩ c
 |[x,y]=>match eV c x,eV c y with
  |some l,U m=>.ok ⟨List.zipWith (λx y=>.tup [x,y]) l m,λc'=>tT c x c'/\tT c y c'⟩ c
  |_,_=>.bad
 |_=>.bad
section
variable {X:Cx}{K:Ξ}{ρ ρ':List S}{H H':Hp}{c c':aa}
theorem mL(W:Wd K ρ H c)(rx:Rel K ρ H x v)(h:eV c x=U l):∃a xs,v=.ref a/\H a=U (.lst xs)/\aJ K ρ H l xs:=by
 cases x with
 |lst m =>
  cases h;obtain⟨a,xs,e,s,r⟩:=rx;exact⟨a,xs,e,s.1,r⟩
 |ref k =>
  obtain⟨a,e,s⟩:=rx;unfold eV at h;dsimp only at h;cases hc:c[k]? with
  |none=>rw[hc]at h;cases h
  |some cl =>
   cases cl with
   |lst m =>
    rw[hc]at h;cases h;obtain⟨_,xs,hx,r⟩:=W.fP k a _ s hc;exact⟨a,xs,e,hx,r⟩
 |_=>cases h
theorem K2(W:Wd K ρ H c)(W':Wd K ρ' H' c')(E:Ext ρ H ρ' H')(rx:Rel K ρ H x v)(h:eV c x=U l)(st:tT c x c')(e:v=.ref a):∃xs,bf K H' a xs/\aJ K ρ' H' l xs:=by
 have aam:=Rel.mono W E x v rx;have h':eV c' x=U l:=by
  cases x with
  |lst m=>exact h
  |ref k =>
   have st:c'[k]? = c[k]?:=st;unfold eV at h ⊢;dsimp only at h ⊢;rw[st];exact h
  |_=>cases h
 obtain⟨b,xs,e2,hx,r⟩:=mL W' aam h';rw[e]at e2;cases e2;exact⟨xs,bf.of hx,r⟩
theorem ajT:bS X (binaryOp .Add) (r2 X.K sI):=by
 intro pins s Z H v u vv uu Q I rv ru h;obtain⟨ρ,x,y,c,W,rx,ry,p⟩:=h;unfold sI at p;split at p
 ·rename_i l m hl hm;split at p
  ·rename_i hz;obtain⟨a,xs,rfl,ha,ra⟩:=mL W rx hl;obtain⟨b,ys,rfl,hb,rb⟩:=mL W ry hm;exact ajK pins s Z H _ _ vv uu Q I rv ru ⟨a,b,xs,ys,rfl,rfl,ha,hb,by rw[ra.length,rb.length];exact hz,rA W (ra.append rb) p⟩
  ·exact p.elim
 ·exact p.elim
abbrev AS(X:Cx)(e:Option μ)(d:Ev->aa->R (Option Int)):Prop:=PO X e (tD X.K (λ_ _ a b=>a=b) d)
theorem PO.imp(h:PO X e t)(i:∀Z H Q,t' Z H Q->t Z H Q):PO X e t':=λpins s Z H Q I q=>h pins s Z H Q I (i _ _ _ q)
theorem B9:AS X O qh:=abd.imp λZ H Q h=>by
 obtain⟨ρ,e,c,W,Vv,p⟩:=h;exact p.here W rfl
theorem B8(h:bg X e d):AS X (U e) (oO d):=(ac6 h).imp λZ H Q h=>by
 obtain⟨ρ,e,c,W,Vv,p⟩:=h;refine⟨ρ,e,c,W,Vv,post.bind p λx c1 aM H1 v _ W1 X1 r1 p1=>?_⟩
 cases x with
 |int i=>cases r1;exact⟨i,rfl,p1.here W1 rfl⟩
 |_=>exact p1.elim
theorem abI{xs:List V}{lo:Option Int}(r:aJ K ρ H l xs):aJ K ρ H (cutD l lo hi) (vP xs lo hi):=by
 unfold cutD vP;rw[r.length];exact(r.drop _).take _
theorem Cj{lo:Option μ}{p2 pos:Pos}{dl dh:Ev->aa->R (Option Int)}(he:bg X e da)(hl:AS X lo dl)(hh:AS X hi dh):bg X (.Subscript e (.Slice lo hi O p2) pos) (qg da dl dh) :=
 (ai2 agU he hl hh).imp λZ H Q h=>by
  obtain⟨ρ,e,c,W,Vv,p⟩:=h;refine⟨ρ,e,c,W,Vv,post.bind p λx c1 aM H1 v _ W1 X1 r1 p1=>⟨aM,e,c1,W1,Vv.mono W X1,post.bind p1 λl c2 dP H2 l' _ W2 X2 r2 p2=>⟨dP,e,c2,W2,(Vv.mono W X1).mono W1 X2,post.bind p2 λu c3 sW H3 u' _ W3 X3 r3 p3=>?_⟩⟩⟩
  cases r2;cases r3;split at p3
  ·rename_i xs hs;obtain⟨a,ys,rfl,ha,r⟩:=mL W3 (Rel.mono W1 (X2.trans X3) _ _ r1) hs;exact⟨a,ys,rfl,bf.of ha,rA W3 (abI r) p3⟩
  ·exact p3.elim
theorem PI.or{iter:μ}(h:PI X tg iter t)(h':PI X tg iter t'):PI X tg iter (λZ H R=>t Z H R\/t' Z H R):=λpins s Z H R I q=>q.elim (h pins s Z H R I) (h' pins s Z H R I)
theorem Yp{st:aa->Prop}(h:∀ρ' H' c',Wd K ρ' H' c'->Ext ρ H ρ' H'->st c'->∃xs ys,bf K H' a xs/\bf K H' b ys/\aJ K ρ' H' l xs/\aJ K ρ' H' m ys):JS K ρ H ⟨List.zipWith (λx y=>.tup [x,y]) l m,st⟩ (AV (bf K) a b):=by
 intro ρ' H' c' W E s i;obtain⟨xs,ys,q1,q2,r1,r2⟩:=h ρ' H' c' W E s;refine⟨λd hd=>?_,λe=>⟨xs,ys,q1,q2,?_⟩⟩
 ·have hd:(List.zipWith (λx y=>D.tup [x,y]) l m)[i]? = U d:=hd
  rw[VN]at hd;cases e1:l[i]? with
  |none=>rw[e1]at hd;cases hd
  |some x =>
   cases e2:m[i]? with
   |none=>rw[e1,e2]at hd;cases hd
   |some y =>
    rw[e1,e2]at hd;cases hd;obtain⟨v,hv,rv⟩:=r1.get e1;obtain⟨u,hu,ru⟩:=r2.get e2;refine⟨⟨xs,ys,v,u,q1,q2,hv,hu⟩,λz H2 hz=>?_⟩
    obtain⟨t,v',u',rfl,ht,rfl,hz⟩:=hz;obtain⟨z1,z2⟩:=hz xs ys q1 q2;rw[hv]at z1;rw[hu]at z2;cases z1;cases z2;exact⟨W.fresh ht,Ext.fresh W ht,t,[v,u],rfl,eT,v,[u],rfl,Rel.mono W (Ext.fresh W ht) _ _ rv,u,[],rfl,Rel.mono W (Ext.fresh W ht) _ _ ru,rfl⟩
 ·have e:i=(List.zipWith (λx y=>D.tup [x,y]) l m).length:=e
  rw[VM]at e;rw[r1.length,r2.length];omega
theorem YZ{pt:Pos}{pos:Pos}(ha:gx X [a,b] da)(hm:X.mg "zip"=O)(hg:Gl X "zip":=by rfl)(hs:ε [a,b] X.env=[(Δ,eval a X.env),(Δ,eval b X.env)]:=by exact BC rfl rfl)(hs2:ε [b] X.env=[(Δ,eval b X.env)]:=by exact nJ rfl):
  PId X (.Tuple es k pt) (.Call (.Name "zip" p) [a,b] [] pos) (vN da):=((ah9 hg hm ha hs hs2).or (ah8 hg hm ha hs hs2)).imp λZ H Q h=>by
 obtain⟨ρ,e,c,W,Vv,p⟩:=h;cases hd:da e c with
 |bad=>unfold vN at p;rw[hd]at p;exact p.elim
 |ok xs c1 =>
  have p0:=p;unfold vN at p0;rw[hd,R.aH]at p0;split at p0
  ·left
   refine⟨ρ,e,c,W,Vv,?_⟩;rw[hd];intro aM H1 vs W1 X1 r1;obtain⟨y,ys,rfl,ry,z,zs,rfl,rz,rs⟩:=r1;cases rs;obtain⟨a1,xs,rfl,s1,t1⟩:=ry;obtain⟨a2,ys,rfl,s2,t2⟩:=rz;exact⟨a1,a2,rfl,⟨xs,ys,bO.of s1,bO.of s2⟩,post.here (post.ext p0 X1) W1 (Yq λρ' H' c' W' E _=>⟨xs,ys,bO.of (qL W1 E s1),bO.of (qL W1 E s2),aJ.mono W1 E _ _ t1,aJ.mono W1 E _ _ t2⟩)⟩
  ·rename_i x y _;split at p0
   ·rename_i l m hl hm'
    right
    refine⟨ρ,e,c,W,Vv,?_⟩;rw[hd];intro aM H1 vs W1 X1 r1;obtain⟨v,ys,rfl,ry,u,zs,rfl,rz,rs⟩:=r1;cases rs;obtain⟨a1,xs,rfl,s1,t1⟩:=mL W1 ry hl;obtain⟨a2,ys,rfl,s2,t2⟩:=mL W1 rz hm';refine⟨a1,a2,rfl,⟨xs,ys,bf.of s1,bf.of s2⟩,post.here (post.ext p0 X1) W1 (Yp λρ' H' c' W' E st=>?_)⟩
    obtain⟨xs',q1,q2⟩:=K2 W1 W' E ry hl st.1 rfl;obtain⟨ys',q3,q4⟩:=K2 W1 W' E rz hm' st.2 rfl;exact⟨xs',ys',q1,q3,q2,q4⟩
   ·exact p0.elim
  ·exact p0.elim
end
section
variable (e:Ev) (c:aa) (a:af) (lo hi:Ev->aa->R (Option Int)) (l:aj)
@[simp] theorem afH:qg a lo hi e c=(a e c).bind λx c=>(lo e c).bind λl c=>(hi e c).bind λu c=>match eV c x with
 |some xs=>.ok (.lst (cutD xs l u)) c
 |none=>.bad:=rfl
@[simp] theorem afT:qh e c=.ok O c:=rfl
@[simp] theorem ads:oO a e c=(a e c).bind λx c=>match x with
 |.int i=>.ok (U i) c
 |_=>.bad:=rfl
@[simp] theorem adm:vN l e c=(l e c).bind λxs c=>match xs with
 |[.tup l,.tup m]=>.ok ⟨List.zipWith (λx y=>.tup [x,y]) l m,λ_=>True⟩ c
 |[x,y]=>match eV c x,eV c y with
  |some l,U m=>.ok ⟨List.zipWith (λx y=>.tup [x,y]) l m,λc'=>tT c x c'/\tT c y c'⟩ c
  |_,_=>.bad
 |_=>.bad:=rfl
@[simp] theorem aeh(x:List D):eV c (.lst x)=U x:=rfl
end
section
variable {g:Gd}{s:ah}{t:ai}{a:af}
theorem acQ(ho:dO e (c++[.lst acc])=.ok (.ref c.length) (c++[.lst acc]))(ha:da e (c++[.lst acc])=.ok y (c++[.lst acc]))(hy:noRef y=J)(hl:acc.length+1<=1000000):
  lT dO da e (c++[.lst acc])=.ok .aF (c++[.lst (acc++[y])]):=by
 have h1:acc.length<Ω:=O4 (by omega:acc.length<1000000) ⋯
 unfold lT;rw[ho,R.aH];dsimp only;rw[ha,R.aH];have e1:(c++[Cell.lst acc])[c.length]? = U (.lst acc):=by simp
 have e2:(c++[Cell.lst acc]).set c.length (.lst (acc++[y]))=c++[.lst (acc++[y])]:=by simp
 rw[e1];dsimp only;rw[if_pos ⟨h1,hy⟩,e2]
end
mutual
def eF:D->Option Qn
 |.aF=>U .none
 |.bl b=>U (.bool b)
 |.int i=>U (.int i)
 |.str x=>if PyData.strOk x=J then U (.str x)else O
 |.tup l=>match eN l with
  |some r=>U (.tuple r)
  |none=>O
 |.lst l=>match eN l with
  |some r=>U (.list r)
  |none=>O
 |.ty _=>O
 |.ref _=>O
 |.bK _=>O
 |.fn _ _=>O
 |.exc _=>O
 |.iM=>O
 |.dct _=>O
 |.gb _=>O
 |.lam _ _ _ _=>O
def eN:List D->Option (List Qn)
 |[]=>U []
 |d::l=>match eF d,eN l with
  |some a,U r=>U (a::r)
  |_,_=>O
end
def fC(c:aa):D->Option Qn
 |.ref k=>match c[k]? with
  |some (.lst l)=>match eN l with
   |some r=>U (.list r)
   |none=>O
  |none=>O
 |d=>eF d
def kL:D->D->aa->R D:=λx y c=>match fC c x,fC c y with
 |some p,U q=>if p.depth<=64/\q.depth<=64 then .ok (.bl (p.eqv q)) c else .bad
 |_,_=>.bad
def inD:D->D->aa->R D:=λx y c=>match fC c x,fC c y with
 |some p,U (.list ys)=>if p.depth<=62 then .ok (.bl (ys.any λz=>z.eqv p)) c else .bad
 |some p,U (.tuple ys)=>if p.depth<=62 then .ok (.bl (ys.any λz=>z.eqv p)) c else .bad
 |_,_=>.bad
def iH:D->D->aa->R D:=λx y c=>match fC c x,fC c y with
 |some p,U (.list ys)=>if p.depth<=62 then .ok (.bl (!ys.any λz=>z.eqv p)) c else .bad
 |some p,U (.tuple ys)=>if p.depth<=62 then .ok (.bl (!ys.any λz=>z.eqv p)) c else .bad
 |_,_=>.bad
section
variable {X:Cx}{pins:List (S×Obj)}{Z:St}{ρ:List S}{H:Hp}{s:Ψ}{c:aa}
mutual
theorem iF(I:Inv X pins Z H s):∀(d:D) (v:V) (u:L) (p:Qn),Rel X.K ρ H d v->RelV v u->eF d=U p->(∃as,Reads s.heap u p as)/\p.canLay0=J
 |.aF,v,u,p,r,ru,e=>by
  cases r;cases ru;cases e;exact⟨⟨_,.none⟩,by simp[PyData.canLay0]⟩
 |.bl b,v,u,p,r,ru,e=>by
  cases r;cases ru;cases e;exact⟨⟨_,.bool b⟩,by simp[PyData.canLay0]⟩
 |.int i,v,u,p,r,ru,e=>by
  cases r;obtain⟨t,rfl⟩:=ru;cases e;exact⟨⟨_,.int i t⟩,by simp[PyData.canLay0]⟩
 |.str x,v,u,p,r,ru,e=>by
  cases r;obtain⟨t,rfl⟩:=ru;unfold eF at e;split at e
  ·rename_i hx;cases e;exact⟨⟨_,.str x t⟩,by simpa[PyData.canLay0]using hx⟩
  ·cases e
 |.tup l,v,u,p,r,ru,e=>by
  obtain⟨a,xs,rfl,ha,rs⟩:=r;cases ru;unfold eF at e;split at e
  ·rename_i q hq;cases e;obtain⟨its,vs,⟨o,h1,h2,n,h3⟩,_⟩:=I.tuple (bO.of ha);obtain⟨⟨as,ra⟩,hc⟩:=xV I l xs its q rs vs hq;exact⟨⟨_,.tuple h1 h2 h3 (by simpa using ra)⟩,by simpa[PyData.canLay0]using hc⟩
  ·cases e
 |.lst l,v,u,p,r,ru,e=>by
  obtain⟨a,xs,rfl,ha,rs⟩:=r;cases ru;unfold eF at e;split at e
  ·rename_i q hq;cases e;obtain⟨its,vs,pl,_⟩:=I.list (bf.of ha.1);obtain⟨o,h1,h2,n,h3⟩:=pl.isList;obtain⟨⟨as,ra⟩,hc⟩:=xV I l xs its q rs vs hq;exact⟨⟨_,.list h1 h2 h3 (by simpa using ra)⟩,by simpa[PyData.canLay0]using hc⟩
  ·cases e
 |.ty _,v,u,p,r,ru,e=>by simp[eF]at e
 |.ref _,v,u,p,r,ru,e=>by simp[eF]at e
 |.bK _,v,u,p,r,ru,e=>by simp[eF]at e
 |.fn _ _,v,u,p,r,ru,e=>by simp[eF]at e
 |.exc _,v,u,p,r,ru,e=>by simp[eF]at e
 |.iM,v,u,p,r,ru,e=>by simp[eF]at e
 |.dct _,v,u,p,r,ru,e=>by simp[eF]at e
 |.gb _,v,u,p,r,ru,e=>by simp[eF]at e
 |.lam _ _ _ _,v,u,p,r,ru,e=>by simp[eF]at e
theorem xV(I:Inv X pins Z H s):∀(l:List D) (vs:List V) (us:List L) (ps:List Qn),aJ X.K ρ H l vs->Vals vs us->eN l=U ps->(∃as,ReadsAll s.heap us ps as)/\PyData.canLayAll0 ps=J
 |[],vs,us,ps,r,ru,e=>by
  cases r;cases ru;cases e;exact⟨⟨_,.nil⟩,by simp[PyData.canLayAll0]⟩
 |d::l,vs,us,ps,r,ru,e=>by
  obtain⟨x,xs,rfl,r1,r2⟩:=r;cases ru with
  |cons q1 q2 =>
   unfold eN at e;split at e
   ·rename_i a r e1 e2;cases e;obtain⟨⟨as,ra⟩,ca⟩:=iF I d x _ a r1 q1 e1;obtain⟨⟨bs,rb⟩,cb⟩:=xV I l xs _ r r2 q2 e2;exact⟨⟨_,.cons ra rb⟩,by simp[PyData.canLayAll0,ca,cb]⟩
   ·cases e
end
theorem k9(I:Inv X pins Z H s)(W:Wd X.K ρ H c)(r:Rel X.K ρ H d v)(ru:RelV v u)(e:fC c d=U p):(∃as,Reads s.heap u p as)/\p.canLay0=J:=by
 cases d with
 |ref k =>
  unfold fC at e;dsimp only at e;cases hc:c[k]? with
  |none=>rw[hc]at e;cases e
  |some cl =>
   cases cl with
   |lst l =>
    rw[hc]at e;dsimp only at e;split at e
    ·rename_i q hq;cases e;obtain⟨a,rfl,s1⟩:=r;cases ru;obtain⟨_,xs,hx,rs⟩:=W.fP k a _ s1 hc;obtain⟨its,vs,pl,_⟩:=I.list (bf.of hx);obtain⟨o,h1,h2,n,h3⟩:=pl.isList;obtain⟨⟨as,ra⟩,hc⟩:=xV I l xs its q rs vs hq;exact⟨⟨_,.list h1 h2 h3 (by simpa using ra)⟩,by simpa[PyData.canLay0]using hc⟩
    ·cases e
 |aF=>exact iF I _ v u p r ru e
 |bl b=>exact iF I _ v u p r ru e
 |int b=>exact iF I _ v u p r ru e
 |str b=>exact iF I _ v u p r ru e
 |tup b=>exact iF I _ v u p r ru e
 |lst b=>exact iF I _ v u p r ru e
 |ty b=>exact iF I _ v u p r ru e
 |bK b=>exact iF I _ v u p r ru e
 |fn b n=>exact iF I _ v u p r ru e
 |exc b=>exact iF I _ v u p r ru e
 |dct b=>exact iF I _ v u p r ru e
 |gb b=>exact iF I _ v u p r ru e
 |iM=>exact iF I _ v u p r ru e
 |lam k y ns l=>exact iF I _ v u p r ru e
theorem CA(hu:X.A.units+64<O8):bS X (compareOp .Eq) (r2 X.K kL):=by
 intro pins s Z H v u vv uu Q I rv ru h;obtain⟨ρ,x,y,c,W,rx,ry,p⟩:=h;unfold kL at p;split at p
 ·rename_i a b ha hb;split at p
  ·rename_i hd;obtain⟨⟨as,ra⟩,ca⟩:=k9 I W rx rv ha;obtain⟨⟨bs,rb⟩,cb⟩:=k9 I W ry ru hb;exact PySem.SeqAt.compareEq_shaped ra rb (by simp[PySem.SeqAt.shaped,ca,hd.1]) (by simp[PySem.SeqAt.shaped,cb,hd.2]) hu ⟨.bl _,H,I,rfl,p.here W rfl⟩
  ·exact p.elim
 ·exact p.elim
theorem yS{A:χ}{p:Qn}(hu:A.units+64<O8)(hd:p.depth<=62):A.units+1+min (PyData.depthAll ys) p.depth<O8:=by
 omega
theorem yh(hu:X.A.units+64<O8):bS X (compareOp .In) (r2 X.K inD):=by
 intro pins s Z H v u vv uu Q I rv ru h;obtain⟨ρ,x,y,c,W,rx,ry,p⟩:=h;unfold inD at p;split at p
 ·rename_i a ys ha hb;split at p
  ·rename_i hd;obtain⟨⟨as,ra⟩,ca⟩:=k9 I W rx rv ha;obtain⟨⟨bs,rb⟩,cb⟩:=k9 I W ry ru hb;exact PySem.SeqAt.in_list_reads rb ra (by simpa[PyData.canLay0]using cb) ca (yS hu hd) ⟨.bl _,H,I,rfl,p.here W rfl⟩
  ·exact p.elim
 ·rename_i a ys ha hb;split at p
  ·rename_i hd;obtain⟨⟨as,ra⟩,ca⟩:=k9 I W rx rv ha;obtain⟨⟨bs,rb⟩,cb⟩:=k9 I W ry ru hb;exact PySem.SeqAt.in_tuple_reads rb ra (by simpa[PyData.canLay0]using cb) ca (yS hu hd) ⟨.bl _,H,I,rfl,p.here W rfl⟩
  ·exact p.elim
 ·exact p.elim
theorem Cy(hu:X.A.units+64<O8):bS X (compareOp .NotIn) (r2 X.K iH):=by
 intro pins s Z H v u vv uu Q I rv ru h;obtain⟨ρ,x,y,c,W,rx,ry,p⟩:=h;unfold iH at p;split at p
 ·rename_i a ys ha hb;split at p
  ·rename_i hd;obtain⟨⟨as,ra⟩,ca⟩:=k9 I W rx rv ha;obtain⟨⟨bs,rb⟩,cb⟩:=k9 I W ry ru hb;exact PySem.SeqAt.notIn_list_reads rb ra (by simpa[PyData.canLay0]using cb) ca (yS hu hd) ⟨.bl _,H,I,rfl,p.here W rfl⟩
  ·exact p.elim
 ·rename_i a ys ha hb;split at p
  ·rename_i hd;obtain⟨⟨as,ra⟩,ca⟩:=k9 I W rx rv ha;obtain⟨⟨bs,rb⟩,cb⟩:=k9 I W ry ru hb;exact PySem.SeqAt.notIn_tuple_reads rb ra (by simpa[PyData.canLay0]using cb) ca (yS hu hd) ⟨.bl _,H,I,rfl,p.here W rfl⟩
  ·exact p.elim
 ·exact p.elim
end
theorem i9(hr:cK k A):A.units+64<O8:=by have:=hr.un;omega
section
variable (c:aa)
@[simp] theorem aeW:eF .aF=U .none:=by simp only[eF]
@[simp] theorem aeY(b:Bool):eF (.bl b)=U (.bool b):=by simp only[eF]
@[simp] theorem aeX(i:Int):eF (.int i)=U (.int i):=by simp only[eF]
@[simp] theorem aeV:eN []=U []:=by simp only[eN]
end
end L2
namespace L2
open PySem PySem.Spec PyProof.Rows
def wk:D->D->aa->R D:=λx y c=>match x,y with
 |.int i,.int j=>.ok (.int (Builtin.bitAnd i j)) c
 |_,_=>.bad
section
variable {X:Cx}
theorem ajS:bS X (binaryOp .BitAnd) (r2 X.K wk):=by
 intro pins s Z H v u vv uu Q I rv ru h;obtain⟨ρ,x,y,c,W,rx,ry,p⟩:=h;unfold wk at p;split at p
 ·cases rx;cases ry;exact ajI pins s Z H _ _ vv uu Q I rv ru ⟨_,_,rfl,rfl,p.here W rfl⟩
 ·exact p.elim
end
def Ag:D->D->aa->R D:=λx y c=>match x,y with
 |.tup l,.tup m=>if l.length+m.length<=Ω then .ok (.tup (l++m)) c else .bad
 |_,_=>.bad
section
variable {X:Cx}
theorem ajL:bS X (binaryOp .Add) (λx y H Q=>∃a b ys,x=.ref a/\y=.ref b/\bO X.K H a []/\bO X.K H b ys/\Q (.ref b) H):=by
 intro pins s Z H x y v u Q I rx ry h;obtain⟨a,b,ys,rfl,rfl,ha,hb,q⟩:=h;cases rx;cases ry;obtain⟨its,r1,p1,_⟩:=I.tuple ha;obtain⟨its2,r2,p2,_⟩:=I.tuple hb;cases r1;obtain⟨⟨cls,dd,data,sl⟩,ho,hc,n,hd⟩:=id p1;obtain⟨⟨ab9,dd2,data2,sl2⟩,ho2,hc2,n2,hd2⟩:=id p2;subst hc hd hc2 hd2;exact U8 ⟨_,ho,rfl⟩ ⟨_,ho2,rfl⟩ U7 Uc Ub Ua (UZ _ _)
   (tuple_addW0 a b [].toArray its2.toArray n n2 dd dd2 sl sl2 rfl) ⟨ho,ho2,⟨.ref b,H,I,rfl,q⟩⟩
theorem ajU:bS X (binaryOp .Add) (r2 X.K Ag):=by
 intro pins s Z H v u vv uu Q I rv ru h;obtain⟨ρ,x,y,c,W,rx,ry,p⟩:=h;unfold Ag at p;split at p
 ·rename_i l m;split at p
  ·rename_i hl;obtain⟨a,xs,rfl,sa,ra⟩:=rx;obtain⟨b,ys,rfl,sb,rb⟩:=ry
   by_cases hz:xs=[]
   ·subst hz;have:l=[]:=by have:=ra.length;exact U1.mp (by simpa using this.symm)
    subst this;exact ajL pins s Z H _ _ vv uu Q I rv ru ⟨a,b,ys,rfl,rfl,bO.of sa,bO.of sb,p.here W ⟨b,ys,rfl,sb,rb⟩⟩
   ·refine JT pins s Z H _ _ vv uu Q I rv ru ⟨a,b,xs,ys,rfl,rfl,bO.of sa,bO.of sb,hz,by rw[ra.length,rb.length];exact hl,λz=>?_,λ_=>yr W (ra.append rb) p⟩
    refine p.here W ⟨a,xs++ys,rfl,by rw[z,QX];exact sa,ra.append rb⟩
  ·exact p.elim
 ·exact p.elim
end
def qV:D->D->aa->R D:=λx y c=>match x,y with
 |.lst l,.int k=>if -(2^63)<=k/\k<2^63/\l.length*k.toNat<=Ω then .ok (.lst (ο k.toNat l).flatten) c else .bad
 |_,_=>.bad
theorem aJ.rep{K:Ξ}{H:Hp}{xs:List V}(r:aJ K ρ H l xs):∀n:Nat,aJ K ρ H (ο n l).flatten (ο n xs).flatten
 |0=>rfl
 |n+1=>aJ.append r (aJ.rep r n)
theorem ajW:bS X (binaryOp .Mult) (r2 X.K qV):=by
 intro pins s Z H v u vv uu Q I rv ru h;obtain⟨ρ,x,y,c,W,rx,ry,p⟩:=h;unfold qV at p;split at p
 ·split at p
  ·rename_i hl;obtain⟨a,xs,rfl,sa,ra⟩:=rx;cases ry;exact JR pins s Z H _ _ vv uu Q I rv ru ⟨a,_,xs,rfl,rfl,sa.1,hl.1,hl.2.1,by rw[ra.length];exact hl.2.2,rA W (aJ.rep ra _) p⟩
  ·exact p.elim
 ·exact p.elim
section
variable (e:Ev) (c:aa) (l:aj)
@[simp] theorem afJ(m:List D)(k:Int):qV (.lst m) (.int k) c=if -(2^63)<=k/\k<2^63/\m.length*k.toNat<=Ω then .ok (.lst (ο k.toNat m).flatten) c else .bad:=rfl
end
def nP:D->D->aa->R D:=λx y c=>match x,y with
 |.lst l,.int k=>if -(2^63)<=k/\k<2^63/\l.length*k.toNat<=Ω/\bD l=J then .ok (.ref c.length) (c++[.lst (ο k.toNat l).flatten])else .bad
 |_,_=>.bad
theorem Km(h:bD l=J):∀n:Nat,bD (ο n l).flatten=J
 |0=>by simp
 |n+1=>by rw[RC,Rx,uC,h,Km h n];rfl
theorem J6:bS X (binaryOp .Mult) (r2 X.K nP):=by
 intro pins s Z H v u vv uu Q I rv ru h;obtain⟨ρ,x,y,c,W,rx,ry,p⟩:=h;unfold nP at p;split at p
 ·split at p
  ·rename_i hl;obtain⟨a,xs,rfl,sa,ra⟩:=rx;cases ry;exact JR pins s Z H _ _ vv uu Q I rv ru ⟨a,_,xs,rfl,rfl,sa.1,hl.1,hl.2.1,by rw[ra.length];exact hl.2.2.1,CH W (Km hl.2.2.2 _) (aJ.rep ra _) p⟩
  ·exact p.elim
 ·exact p.elim
def gG(o a:af):af:=λe c=>(o e c).bind λx c=>match x with
 |.ref k=>(a e c).bind λy c=>match y with
  |.lst m=>match c[k]? with
   |some (.lst l)=>if l.length+m.length<=Ω/\bD m=J then .ok .aF (c.set k (.lst (l++m)))else .bad
   |none=>.bad
  |_=>.bad
 |_=>.bad
theorem pF{apos:Pos}(ho:bg X o dO)(ha:bg X e da)(hbase:TY o "extend" X.env (eval o X.env)=eval o X.env:=by rfl)(hfew:((OY cpos (ε [e] X.env)).all (λx=>!x.1)&&(R7 cpos (R5 [] X.env)).all (λx=>x.1.isSome)
   && decide ([e].length+([]:List QL).length+(if([]:List QL).isEmpty then 0 else 1)<30))=J:=by exact HJ rfl)(hline:(apos.endLine==cpos.line)=J:=by rfl)(hs:ε [e] X.env=(Δ,eval e X.env)::ε [] X.env:=by exact ez rfl)(hplain:(OY cpos (ε [] X.env)).any (·.1)=Δ:=by exact ig rfl):
  bg X (.Call (.Attribute o "extend" apos) [e] [] cpos) (gG dO da) :=
 (Ci Tr PySem.F.slot_list_extend PySem.F.type_list_extend WX ho (jJ ha lA hs) hbase hfew hline hs hplain).imp λZ H Q h=>by
  obtain⟨ρ,e,c,W,V,p⟩:=h;refine⟨ρ,e,c,W,V,post.bind p λx c1 aM H1 v _ W1 X1 r1 p1=>?_⟩
  cases x with
  |ref k =>
   obtain⟨a,rfl,ha⟩:=r1;obtain⟨xs,hx⟩:=W1.at' (P8 ha);refine⟨.inl ⟨rfl,xs,bf.of hx⟩,aM,e,c1,W1,V.mono W X1,post.bind p1 λy c2 dP H2 u _ W2 X2 r2 p2=>?_⟩
   cases y with
   |lst m =>
    obtain⟨b,zs,rfl,sb,rb⟩:=r2;dsimp only at p2;split at p2
    ·rename_i l hl;split at p2
     ·rename_i hh;obtain⟨nr,ys,hy,rl⟩:=W2.fP k a _ (X2.pre k a ha) hl;refine⟨a,b,ys,zs,rfl,rfl,hy,sb.1,by rw[rl.length,rb.length];exact hh.1,?_⟩
      refine p2 dP _ .aF (W2.write (X2.pre k a ha) (by rw[uC,nr,hh.2];rfl) (rl.append rb)) (Ext.write (X2.pre k a ha)) rfl
     ·exact p2.elim
    ·exact p2.elim
   |_=>exact p2.elim
  |_=>exact p1.elim
section
variable (e:Ev) (c:aa) (o a:af)
@[simp] theorem afK(m:List D)(k:Int):nP (.lst m) (.int k) c=if -(2^63)<=k/\k<2^63/\m.length*k.toNat<=Ω/\bD m=J then .ok (.ref c.length) (c++[.lst (ο k.toNat m).flatten])else .bad:=rfl
end
theorem zm{α:Type}{st:aa->Prop}(C:Nat->aa)(E:Nat->α->Ev):∀(items:List D) (k:Nat) (v:α),(∀i,i<=items.length->st (C (k+i))) ->
  (∀i x,items[i]? = U x->∀v,∃e',g x (E (k+i) v) (C (k+i))=.ok e' (C (k+i))/\∃v',s e' (C (k+i))=.ok (.nx (E (k+i+1) v')) (C (k+i+1))) ->
  ∃v',bU st g s items (E k v) (C k)=.ok (.nx (E (k+items.length) v')) (C (k+items.length))
 |[],k,v,hst,_=>⟨v,by
   have:=hst 0 (AP _);rw[R9]at this;unfold bU;rw[if_pos this];rfl⟩
 |x::xs,k,v,hst,h=>by
  obtain⟨e',h1,v',h2⟩:=h 0 x rfl v;obtain⟨v2,h3⟩:=zm C E xs (k+1) v' (λi hi=>by
   have:=hst (i+1) (by simp only[PB];omega)
   rwa[show k+(i+1)=k+1+i by omega]at this) (λi y hy v=>by
   have:=h (i+1) y (by simpa using hy) v
   rwa[show k+(i+1)=k+1+i by omega]at this)
  refine⟨v2,?_⟩;unfold bU;rw[if_pos (by have:=hst 0 (Pd _);exact this)]
  rw[R9]at h1 h2;rw[h1,R.aH,h2];simp only[R.aH];rw[h3,PB,show k+(xs.length+1)=k+1+xs.length by omega]
theorem M9{α:Type}(C:Nat->aa)(E:Nat->α->Ev){N:Int}{n:Nat}(hN:N=n)(v:α)(h:∀i,i<n->∀v,∃e',g (.int (i:Nat)) (E i v) (C i)=.ok e' (C i)/\∃v',s e' (C i)=.ok (.nx (E (i+1) v')) (C (i+1))):
  ∃v',bU (λ_=>True) g s (aR 0 N) (E 0 v) (C 0)=.ok (.nx (E n v')) (C n):=by
 have hl:(aR 0 N).length=n:=by rw[fX];omega
 have:=zm (st:=λ_=>True) C E (aR 0 N) 0 v (λ_ _=>trivial) (λi x hx v=>by
  obtain⟨h1,rfl⟩:=j5 hx;rw[O9,Sa];exact h i ∅ v)
 rwa[hl,O9]at this
abbrev nV(ns:List Nat):List V:=ns.map λn:Nat=>V.int n
abbrev nD(ns:List Nat):List D:=ns.map λn:Nat=>D.int n
def tW(w:τ)(a:S)(ns:List Nat):π->Prop:=λh=>dM w h a (fT ns)
theorem Bs:∀{ns:List Nat}{us:List L},Vals (nV ns) us->QK us (ns.map λn:Nat=>(n:Int))
 |[],_,.nil=>.nil
 |n::ns,_,.cons ⟨t,e⟩ r=>by subst e;exact .cons _ _ (Bs r)
section
variable {X:Cx}
def ahD(X:Cx):List V->Hp->VK->Prop:=λxs H Q=>∃a ns,xs=[.ref a]/\bf X.K H a (nV ns)/\(gK ns).length<64/\(∀x∈ns,x<128)/\∀p,H p=O->Q (.ref p) (upd H p (.ext (tW X.w p ns)))
theorem abN(hc:X.calm=J:=by rfl):dG X (.type "set") (ahD X):=by
 intro pins s Z H xs us Q I rv h;obtain⟨a,ns,rfl,sq,hb,hx,q⟩:=h;obtain⟨u,rfl,ru⟩:=Po rv;cases ru;obtain⟨its,ri,pl,hz⟩:=I.list sq;refine ag3 (xs:=ns) (I.ok.hd hc) pl.isList (by simpa using Bs ri) hx (by rw[<-BE];exact hb) λh' tk hS kp=>?_
 have jo:=hS;obtain⟨o,es,ep,t,ho,_⟩:=jo;refine⟨.ref s.heap.objs.size,upd H s.heap.objs.size _,I.laid (t':=tk) (λb u e=>kp b u (Iv e) e) (AP _) ?_,rfl,q _ (I.hok.fresh (AP _))⟩
 exact⟨hS,⟨o,ho⟩,λh1 h2 x k=>x.at k⟩
def rB(l:List D):Option (List Nat):=match iw l with
 |some ns=>if ns.all (λn=>decide (0<=n/\n<128))=J/\(gK (ns.map Int.toNat)).length<64 then U (ns.map Int.toNat)else O
 |none=>O
theorem KH{ns:List Nat}(h:rB l=U ns):l=nD ns/\(gK ns).length<64/\∀x∈ns,x<128:=by
 unfold rB at h;split at h
 ·rename_i zs hz;split at h
  ·rename_i hc;cases h;refine⟨?_,hc.2,λx hx=>?_⟩
   ·rw[pY hz];unfold nD;rw[PV];refine Pk λz hq=>?_
    have:=of_decide_eq_true (Ph.mp hc.1 z hq)
    congr 1;omega
   ·obtain⟨z,hq,rfl⟩:=K1.mp hx;have:=of_decide_eq_true (Ph.mp hc.1 z hq);omega
  ·cases h
 ·cases h
theorem WK{ns:List Nat}(h:(gK ns).length<64)(hx:∀x∈ns,x<128):rB (nD ns)=U ns:=by
 unfold rB;have e:nD ns=(ns.map λn:Nat=>(n:Int)).map D.int:=by simp[nD]
 rw[e,yR];dsimp only;have e:(ns.map λn:Nat=>(n:Int)).map Int.toNat=ns:=by
  rw[PV];have:(Int.toNat ∘ λn:Nat=>(n:Int))=id:=by funext n;simp
  rw[this,List.map_id]
 rw[e,if_pos ⟨Ph.mpr λz hz=>by
  obtain⟨n,hn,rfl⟩:=K1.mp hz;have:=hx n hn;exact decide_eq_true ∅,h⟩]
theorem Jg{K:Ξ}{H:Hp}{ns:List Nat}{xs:List V}(h:aJ K ρ H (nD ns) xs):xs=nV ns:=by
 have e:nD ns=(ns.map λn:Nat=>(n:Int)).map D.int:=by simp[nD]
 rw[e]at h;rw[aJ.pX h];simp[nV]
theorem mE(ns:List Nat):bD (nD ns)=J:=by
 have e:nD ns=(ns.map λn:Nat=>(n:Int)).map D.int:=by simp[nD]
 rw[e];exact Wo
end
section
variable {prog:ν}{w:τ}{A:χ}{E:L->Ψ->Prop}{s:Ψ}
theorem ag0{ns:List Nat}{Q:Option Nat->Ψ->Prop}(hm:m<128)(hS:dM w s.heap a ns)(hn:ns.length<64)(h:∀r:Option Nat,r.isSome=decide (m∈ns)->Q r s):wpAny (model prog w) A (setFind a (.int m tk) (m:Int)) Q E s:=by
 obtain⟨o,es,ep,t,ho,hex,hd,hI,hl,hs⟩:=hS;have hsz:es.size=ns.length:=by rw[<-PC];exact hs.len
 have hkey:(intKind prog w).is (m:Int) (.int m tk)=J:=by simp[intKind,Value.isInt]
 have:=wpAny_setFind_of (A:=A) (E:=E) (Q:=Q) hkey rfl (⟨o,es,ep,t,ho,hex,hd,hs.els,λk=>by rw[Qx],by unfold scanBound;omega,hI.fits,rfl⟩) λr hr=>h r (by
  rw[hr,QI,Qx,decide_eq_true_eq,hs.mem m]
  constructor
  ·rintro ⟨e,he,q⟩
   obtain⟨n,tk',rfl,_⟩:=hs.2 e he;obtain⟨t',q⟩:=RK (show Value.isInt (m:Int) (.int (n:Int) tk')=J from q)
   exact⟨_,he,by injection q⟩
  ·rintro ⟨e,he,q⟩
   obtain⟨n,tk',rfl,_⟩:=hs.2 e he;have e:n=m:=by dsimp only at q;omega
   subst e;exact⟨_,he,by simp[intKind,Value.isInt]⟩)
 have e:(intKind prog w).hash (m:Int)=(m:Int):=za hm
 rwa[e]at this
theorem afy{others:List S}{Q:Array (Int×L)->Ψ->Prop}(hS:iD w s.heap a es ep t)(h:Q (iG w a ep es) s):wpAny (model prog w) A (setWalkUnseen a others (U r)) Q E s:=by
 obtain⟨o,ho,hex,hd,hI,hl⟩:=hS;have key:wpAny (model prog w) A (setWalk a) Q E s:=by
  refine Rc (QE ho hd hI.fits ?_);refine Rc ?_;refine Rc (Qi (dD ?_));show wpAny _ _ (if e8 w=J then _ else _) _ _ _
  unfold iG at h;cases hb:e8 w with
  |true =>
   rw[hb]at h;exact Rc (Qi (dD h))
  |false =>
   rw[hb]at h hl;show wpAny _ _ (if(!t.plain&&decide (es.size>1))=J then _ else _) _ _ _
   rw[hI.plain];refine Rc (Rt (a:=()) ?_ (dD h));show(if _=J then _ else _)=_
   rw[hl];rfl
 refine Rc (QE ho hd hI.fits ?_);dsimp only;refine Rc ?_;refine Rc (Qi (dD ?_));show wpAny _ _ (if(e8 w||(t.led&&t.plain)||decide (es.size<=1))=J then _ else _) _ _ _
 rw[if_pos (by rw[hl,hI.plain];cases e8 w<;>simp)]
 first|exact key|exact Rc key
theorem CN:∀{l m:List Nat},l.Nodup->(∀x∈l,x∈m)->l.length<=m.length
 |[],m,_,_=>Pd _
 |x::l,m,h,hs=>by
  obtain⟨h1,h2⟩:=QV.mp h;have hx:=hs x (.head _);have:=CN h2 λy hy=>(TL (λe:y=x=>h1 (by rw[<-e];exact hy))).mpr (hs y (.tail _ hy))
  rw[TJ hx]at this;have:=UL hx;rw[PB];omega
theorem acT{asked walked:S}{ns:List Nat}{Q:Unit->Ψ->Prop}(id:String)(Zj:asked≠r)(hrw:walked≠r)(ha:dM w s.heap asked ns)(hw:iD w s.heap walked es ep t)(hs:iC es.toList ms)(hr:dM w s.heap r [])(hn:ns.length<64)(h:∀(h':π) (rs:List Nat),dM w h' r rs->rs.Nodup->(∀x,x∈rs↔x∈ns/\x∈ms)->(∀b o,b≠r->s.heap.get? b=U o->h'.get? b=U o)->Q () {s with heap:=h'}):
  wpAny (model prog w) A (forIn (iG w walked ep es) PUnit.unit fun(p:Int×L) (_:PUnit)=>do
   holding [p.2] (do if(<-setFind asked p.2 p.1).isSome=J then(do let _ <-setAddHashed r p.2 p.1;pure PUnit.unit)else pure PUnit.unit)
   Builtin.Frozenset.unchanged id walked ep
   pure (ForInStep.yield PUnit.unit)) Q E s:=by
 have hp:=ux w walked ep es;refine PySem.MeetsSeq2.wpAny_forIn_array _ (λrest _ s'=>∃(h':π) (rs:List Nat) (done:List (Int×L)),s'={s with heap:=h'}/\(iG w walked ep es).toList=done++rest/\dM w h' r rs/\rs.Nodup/\(∀x:Nat,x∈rs↔x∈ns/\∃e∈done,e.1=(x:Int))/\(∀b o,b≠r->s.heap.get? b=U o->h'.get? b=U o)) _ ?_ ?_ _ _
  ⟨s.heap,[],[],rfl,rfl,hr,.nil,λx=>by simp,λ_ _ _ e=>e⟩
 ·rintro ⟨hx,x⟩ rest u s' ⟨h',rs,done,rfl,hl,hR,hnd,hmem,hk⟩
  have hin:(hx,x)∈es.toList:=hp.mem_iff.mp (by rw[hl];simp)
  obtain⟨n,tk,e,DK⟩:=hs.2 _ hin;cases e;have ha':dM w h' asked ns:=ha.at λo e=>hk asked o Zj e
  have i8:=hw.at λo e=>hk walked o hrw e
  have hrl:rs.length<64:=SN (CN hnd λx hx=>((hmem x).mp hx).1) hn
  have tail:∀Q' (h2:π),(∀b o,b≠r->s.heap.get? b=U o->h2.get? b=U o)->Q' (.yield PUnit.unit) {s with heap:=h2} ->
    wpAny (model prog w) A (Builtin.Frozenset.unchanged id walked ep >>= λ_=>pure (ForInStep.yield PUnit.unit)) Q' E {s with heap:=h2}:=by
   intro Q' h2 q4 q;obtain⟨o,ho,_,hd,hI,_⟩:=hw.at λo e=>q4 walked o hrw e
   unfold Builtin.Frozenset.unchanged;refine Rc (Rc (U0 ho hd hI.fits ?_));rw[if_neg (by simp)]
   exact dD (dD q)
  dsimp only;refine Rc (Pq (Rc (ag0 (s:={s with heap:=h'}) DK ha' hn λres hres=>?_)))
  by_cases hq:n∈ns
  ·have DF:res.isSome=J:=by rw[hres];exact decide_eq_true hq
   rw[if_pos DF];have key:=HX (prog:=prog) (A:=A) (E:=E) (s:={s with heap:=h'}) (tk:=tk) (Q:=λ_ s'=>∃h2,s'={s with heap:=h2}/\dM w h2 r (gh rs n)/\∀b o,b≠r->s.heap.get? b=U o->h2.get? b=U o) DK hR hrl
    λbb h2 f6 jo=>⟨h2,rfl,jo,λb o hb e=>by rw[f6.2 b hb];exact hk b o hb e⟩
   rw[(za DK)]at key;refine Rc (Pg key (λbb s2 q=>?_) λ_ _ q=>q)
   obtain⟨h2,rfl,jo,hk2⟩:=q;refine dD (tail _ h2 hk2 ⟨h2,gh rs n,done++[((n:Int),Value.int n tk)],rfl,by rw[hl];simp,jo,Kw hnd,λx=>?_,hk2⟩)
   rw[KU,hmem x]
   constructor
   ·rintro (⟨a1,e,he,q⟩|rfl)
    ·exact⟨a1,e,by simp[he],q⟩
    ·exact⟨hq,((x:Int),Value.int x tk),by simp,rfl⟩
   ·rintro ⟨a1,e,he,q⟩
    rcases PY.mp he with he|he
    ·exact .inl ⟨a1,e,he,q⟩
    ·rw[Pa]at he;subst he
     right
     dsimp only at q;omega
  ·have DF:¬(res.isSome=J):=by rw[hres];simpa using hq
   rw[if_neg DF];refine dD (tail _ h' hk ⟨h',rs,done++[((n:Int),Value.int n tk)],rfl,by rw[hl];simp,hR,hnd,λx=>?_,hk⟩)
   rw[hmem x]
   constructor
   ·rintro ⟨a1,e,he,q⟩
    exact⟨a1,e,by simp[he],q⟩
   ·rintro ⟨a1,e,he,q⟩
    rcases PY.mp he with he|he
    ·exact⟨a1,e,he,q⟩
    ·rw[Pa]at he;subst he;have e2:x=n:=by dsimp only at q;omega
     exact absurd (e2▸a1) hq
 ·rintro u s' ⟨h',rs,done,rfl,hl,hR,hnd,hmem,hk⟩
  rw[QX]at hl;refine h h' rs hR hnd (λx=>?_) hk
  rw[hmem x,hs.mem x,<-hl]
  constructor
  ·rintro ⟨a1,e,he,q⟩;exact⟨a1,e,hp.mem_iff.mp he,q⟩
  ·rintro ⟨a1,e,he,q⟩;exact⟨a1,e,hp.mem_iff.mpr he,q⟩
theorem acU(id:String){ns:List Nat}{Q:L->Ψ->Prop}(hne:(Value.ref b==Value.ref a)=Δ)(ha:dM w s.heap a ns)(hb:dM w s.heap b ms)(hn:ns.length<64)(hm:ms.length<64)(hnd:ns.Nodup)(hmd:ms.Nodup)(h:∀(h':π) (rs:List Nat),dM w h' s.heap.objs.size rs->rs.Nodup->(∀x,x∈rs↔x∈ns/\x∈ms)->(∀b o,s.heap.get? b=U o->h'.get? b=U o)->Q (.ref s.heap.objs.size) {s with heap:=h'}):
  wpAny (model prog w) A (Builtin.Frozenset.intersection id a (.ref b)) Q E s:=by
 unfold Builtin.Frozenset.intersection;rw[if_neg (by rw[hne];exact PM)]
 refine Rc ?_;unfold Builtin.Frozenset.baseOf;refine Rc (Qc (by obtain⟨o,_,_,_,ho,hx,_⟩:=ha;exact⟨o,ho,hx.1⟩) SG (dD ?_))
 simp only[if_true];refine Rc ?_;unfold newSet setsByText;refine Rc (Rc (Qi (dD ?_)));dsimp only;simp only[newObj];refine Rc (wpAny_alloc (dD ?_));refine Rc (dD ?_);have Z0:TX {s with heap:=s.heap.push (cD w)} (.ref b) "set":=by obtain⟨o,_,_,_,ho,hx,_⟩:=hb;exact⟨o,H8 _ ho,hx.1⟩
 refine Rc (Pq (Rc ?_));unfold Builtin.Frozenset.isAnySet;refine Rc (Qc (T:="set") (b:=J) Z0 SG ?_);refine dD ?_;rw[if_pos rfl];refine Rc (dD ?_);have ha1:dM w (s.heap.push (cD w)) a ns:=ha.at λo e=>H8 _ e
 have hb1:dM w (s.heap.push (cD w)) b ms:=hb.at λo e=>H8 _ e
 have MA:a≠s.heap.objs.size:=by obtain⟨o,_,_,_,ho,_⟩:=ha;exact O0 (Iv ho)
 have Mz:b≠s.heap.objs.size:=by obtain⟨o,_,_,_,ho,_⟩:=hb;exact O0 (Iv ho)
 have go:∀(asked walked:S) (ns' ms':List Nat),asked≠s.heap.objs.size->walked≠s.heap.objs.size->dM w (s.heap.push (cD w)) asked ns'->dM w (s.heap.push (cD w)) walked ms'->ns'.length<64->(∀x,(x∈ns'/\x∈ms')↔(x∈ns/\x∈ms)) ->
   wpAny (model prog w) A (do
    let was <-setEpoch walked
    let arr <-setWalkUnseen walked [asked,s.heap.objs.size] (U s.heap.objs.size)
    forIn arr PUnit.unit fun(p:Int×L) (_:PUnit)=>do
     holding [p.2] (do if(<-setFind asked p.2 p.1).isSome=J then(do let _ <-setAddHashed s.heap.objs.size p.2 p.1;pure PUnit.unit)else pure PUnit.unit)
     Builtin.Frozenset.unchanged id walked was
     pure (ForInStep.yield PUnit.unit)
    pure ()) (λ_ s'=>wpAny (model prog w) A (pure (Value.ref s.heap.objs.size)) Q E s') E {s with heap:=s.heap.push (cD w)}:=by
  intro asked walked ns' ms' n1 n2 h1 h2 hl Zu;obtain⟨o,es,ep,t,ho,hex,hd,hI,lJ,hs⟩:=h2;refine Rc (U0 ho hd hI.fits ?_);refine Rc (afy (es:=es) (ep:=ep) (t:=t) ⟨o,ho,hex,hd,hI,lJ⟩ ?_);refine Rc (acT id n1 n2 h1 ⟨o,ho,hex,hd,hI,lJ⟩ hs (Ey w (O5 _ rfl)) hl λh' rs q1 q2 q3 q4=>?_)
  refine dD (dD (h h' rs q1 q2 (λx=>(q3 x).trans (Zu x)) λb' o' e=>q4 b' o' (O0 (Iv e)) (H8 _ e)))
 obtain⟨oa,esa,epa,ta,hoa,_,hda,hIa,_,_⟩:=_root_.id ha1;obtain⟨ob,esb,epb,tb,hob,_,hdb,Z9,_,_⟩:=_root_.id hb1;unfold Builtin.Frozenset.sizeOf;refine Rc (Rc (SE hob hdb Z9.fits (dD ?_)));refine Rc (Rc (SE hoa hda hIa.fits (dD ?_)))
 by_cases hsz:esb.size>esa.size
 ·simp only[if_pos hsz];exact go b a ms ns Mz MA hb1 ha1 hm λx=>⟨fun⟨u,v⟩=>⟨v,u⟩,fun⟨u,v⟩=>⟨v,u⟩⟩
 ·simp only[if_neg hsz];exact go a b ns ms MA Mz ha1 hb1 hn λx=>Iff.rfl
theorem ahn:entryFor table "set.__and__"=U Builtin.«frozenset.__and__» :=
 U4 (id':="frozenset.__and__") (by kernel_rfl) rfl (by decide +kernel) (by kernel_rfl)
theorem OD{Q:Bool->Ψ->Prop}(hT:s.TypeIs v "set")(h:Q J s):wpAny (model prog w) A (Builtin.Frozenset.isAnySet v) Q E s:=by
 exact Rc (Qc (b:=J) hT SG (dD h))
theorem abA{ns:List Nat}{Q:L->Ψ->Prop}(hab:a≠b)(ha:dM w s.heap a ns)(hb:dM w s.heap b ms)(hn:ns.length<64)(hm:ms.length<64)(hnd:ns.Nodup)(hmd:ms.Nodup)(h:∀(h':π) (rs:List Nat),dM w h' s.heap.objs.size rs->rs.Nodup->(∀x,x∈rs↔x∈ns/\x∈ms)->(∀b o,s.heap.get? b=U o->h'.get? b=U o)->Q (.ref s.heap.objs.size) {s with heap:=h'}):
  wpAny (model prog w) A (binaryOp .BitAnd (.ref a) (.ref b)) Q E s:=by
 have hTa:s.TypeIs (.ref a) "set":=by obtain⟨o,_,_,_,ho,hx,_⟩:=ha;exact⟨o,ho,hx.1⟩
 have hTb:s.TypeIs (.ref b) "set":=by obtain⟨o,_,_,_,ho,hx,_⟩:=hb;exact⟨o,ho,hx.1⟩
 refine wpAny_binaryOp_same hTa hTb PySem.F.fills_set_and VI (Q9 VI hTa ahn ?_ (PySem.F.args_set_and_2 _ _));unfold Builtin.«frozenset.__and__»;show wpAny _ _ (Builtin.Frozenset.slot1 "__and__" ⟨[.ref a,.ref b],[]⟩ >>= _) _ _ _;refine Rc (Rc (dD (dD ?_)));dsimp only;simp only[Py,if_false];refine Rc (Rc (OD hTa ?_));refine OD hTb ?_;simp only[Bool.not_true,Py,if_false];refine Rc (dD ?_);refine Rc (acU _ (by simpa using Q2 hab) ha hb hn hm hnd hmd λh' rs q1 q2 q3 q4=>?_)
 exact dD ⟨_,rfl,(λe=>by cases e),h h' rs q1 q2 q3 q4⟩
end
theorem sub_tuple_set:isSubtype (.type "tuple") (.type "set")=pure Δ:=by rw[Sf];kernel_rfl
theorem sub_tuple_frozenset:isSubtype (.type "tuple") (.type "frozenset")=pure Δ:=by rw[Sf];kernel_rfl
section
variable {prog:ν}{w:τ}{A:χ}{s:Ψ}{E:L->Ψ->Prop}
set_option maxHeartbeats 3200000 in
theorem ag5{l:S}{items:Array L}{xs:List Nat}{Q:L->Ψ->Prop}(hh:A.handled=O)(hl:s.heap.IsTuple l items)(hi:QK items.toList (xs.map λn:Nat=>(n:Int)))(hx:∀x∈xs,x<128)(h64:(fT xs).length<64)
  (h:∀(h':π) (tk:Nat),dM w h' s.heap.objs.size (fT xs)->(∀b o,b<s.heap.objs.size->s.heap.get? b=U o->h'.get? b=U o)->Q (.ref s.heap.objs.size) {s with heap:=h',toks:=tk}) :
  wpAny (model prog w) A (call (.type "set") [.ref l]) Q E s:=by
 obtain⟨c,tl,Mr⟩:=PD.mro;have hmade:=PD.made;have hsub:=PD.sub;refine Ry (Sk (show wpAny _ _ (callAny (.type "set") _) _ _ _ from ?_))
 refine dD ⟨UB _ (by decide +kernel),Qs Uo ?_⟩
 rw[Um (Ul "set" [.ref l] []) rfl];have h1:=PD.notType;have h2:=PD.canCreate;have hct:=Uk (.ref l)
 repeat any_goals (first|assumption|wp_step)
 refine QW (BJ (.ref l) (E:=E) (Q₁:=λobj s₁=>obj=.ref s.heap.objs.size/\s₁={s with heap:=s.heap.push (cD w)}) ⟨rfl,rfl⟩) λr s₁ hr=>?_
 cases r with
 |error e=>exact hr
 |ok fl =>
  cases fl with
  |ret obj =>
   obtain⟨rfl,rfl⟩:=hr;have hS:(s.heap.push (cD w)).get? s.heap.objs.size=U (cD w):=O5 _ rfl;have hT:TX {s with heap:=s.heap.push (cD w)} (.ref s.heap.objs.size) "set":=⟨_,hS,rfl⟩
   have hli:=PD.init.lookup;have hbi:=PD.init.bind (.ref s.heap.objs.size)
   repeat any_goals (first|assumption|wp_step)
   refine QW (Uj (R:=wants (λr s₂=>r=.none/\∃h' tk,s₂={s with heap:=h',toks:=tk}/\dM w h' s.heap.objs.size (fT xs) /\
     (∀b o,b<s.heap.objs.size->s.heap.get? b=U o->h'.get? b=U o)) E) PD.init.plain Ui (Uh hT ?_)) λr₂ s₂ kE=>?_
   ·obtain⟨ol,gY,hcl,nl,hdl⟩:=hl;obtain⟨J8,uz,J5,uw⟩:=ol;simp only at hcl hdl;subst hcl;subst hdl;have oB:(s.heap.push (cD w)).get? l=U {cls:=.type "tuple",dict:=uz,data:=.seq items nl,slots:=uw}:=H8 _ gY;have Mg:=sub_tuple_set;have Mh:=sub_tuple_frozenset;have hne:(Value.type "tuple"==Value.type "dict")=Δ:=⋯
    have hl1:(s.heap.push (cD w)).IsTuple l items:=⟨_,oB,rfl,nl,rfl⟩;unfold cD at hS hT oB ⊢;unfold Builtin.«set.__init__» noKeywords Builtin.Frozenset.updateFrom
    generalize vh:pyIter=PI
    wp_walk
    subst vh;refine RG hl1 (Rc (Ug ?_));have hlS:l<s.heap.objs.size:=Iv gY;have hlen:items.size=xs.length:=by have:=hi.length;simpa using this
    have u7:l≠(s.heap.push (cD w)).objs.size:=by rw[P9];exact O0 (Q0 hlS)
    have hSf:s.heap.objs.size∉[(s.heap.push (cD w)).objs.size,l]:=by
     rw[P9];simp only[Bt,O7,or_false,not_or];exact⟨O0 (QD _),Pp hlS⟩
    have W:=(Walks.tuple (prog:=prog) (w:=w) (A:=A.in1.in1.in1) (by simp[hh]) (s.heap.push (cD w)).objs.size l u7 items).toS
    rw[hlen]at W;refine HW (xs:=xs) W s.heap.objs.size hSf (λi v hi' hv=>?_) hx h64 xs.length 0 _ ∅ (Pd _) ⟨⟨_,O5 _ rfl,rfl,rfl⟩,hl1.at λo e=>H8 _ e⟩ (Ey w (H8 _ hS)) λs' hm hS'=>?_
    ·obtain⟨t,e⟩:=IntsAre.int_at hi i v (by rw[Q6];exact hv)
     exact⟨t,by rw[e];simp[I8,O1 hi']⟩
    ·obtain⟨h',g',d',tk',os'⟩:=s';cases(show g'=s.gens from hm.gens)
     cases(show d'=s.drawn from hm.drawn)
     cases(show os'=s.os from hm.os)
     refine dD (dD ⟨rfl,h',tk',rfl,hS',λb o hb e=>?_⟩)
     exact hm.heap b o (by rw[P9];simp only[Bt,O7,or_false,not_or];exact⟨O0 hb,O0 (Q0 hb)⟩) (H8 _ (H8 _ e))
   ·cases r₂ with
    |error e=>exact kE
    |ok vp =>
     cases vp with
     |ret r =>
      obtain⟨rfl,h',tk,rfl,hS',hk'⟩:=kE
      repeat any_goals (first|assumption|wp_step)
      exact h _ _ hS' hk'
     |_=>exact kE.elim
  |_=>exact hr.elim
end
def BK(w:τ)(a:S)(rs:List Nat):π->Prop:=λh=>dM w h a rs
def oV(ns ms:List Nat):Nat:=((gK ns).filter λx=>decide (x∈ms)).length
theorem Oi{ns rs:List Nat}(hn:rs.Nodup)(h:∀x,x∈rs↔x∈ns/\x∈ms):rs.length=oV ns ms:=by
 have hp:rs.Perm ((gK ns).filter λx=>decide (x∈ms)):=by
  refine(Se hn ((Kv (xr ns)).filter _)).mpr λx=>?_
  rw[h x,Pw,yC,decide_eq_true_eq]
 exact hp.length_eq
section
variable {X:Cx}
def ahB(X:Cx):List V->Hp->VK->Prop:=λxs H Q=>∃a ns,xs=[.ref a]/\(bf X.K H a (nV ns)\/bO X.K H a (nV ns))/\(gK ns).length<64/\(∀x∈ns,x<128)/\∀p,H p=O->Q (.ref p) (upd H p (.ext (tW X.w p ns)))
theorem NS(hc:X.calm=J:=by rfl):dG X (.type "set") (ahB X):=by
 intro pins s Z H xs us Q I rv h;obtain⟨a,ns,rfl,sq,hb,hx,q⟩:=h
 rcases sq with sq|sq
 ·exact abN hc pins s Z H _ us Q I rv ⟨a,ns,rfl,sq,hb,hx,q⟩
 ·obtain⟨u,rfl,ru⟩:=Po rv;cases ru;obtain⟨its,ri,pl,hz⟩:=I.tuple sq;refine ag5 (xs:=ns) (I.ok.hd hc) (show s.heap.IsTuple a its.toArray from pl) (by simpa using Bs ri) hx (by rw[<-BE];exact hb) λh' tk hS kp=>?_
  have jo:=hS;obtain⟨o,es,ep,t,ho,_⟩:=jo;refine⟨.ref s.heap.objs.size,upd H s.heap.objs.size _,I.laid (t':=tk) (λb u e=>kp b u (Iv e) e) (AP _) ?_,rfl,q _ (I.hok.fresh (AP _))⟩
  exact⟨hS,⟨o,ho⟩,λh1 h2 x k=>x.at k⟩
def ahN(X:Cx):R2:=λx y H Q=>∃a b ns ms,x=.ref a/\y=.ref b/\a≠b/\H a=U (.ext (tW X.w a ns))/\H b=U (.ext (tW X.w b ms))/\(gK ns).length<64/\(gK ms).length<64 /\
 ∀p rs,H p=O->rs.length=oV ns ms->rs.length<64->Q (.ref p) (upd H p (.ext (BK X.w p rs)))
theorem ajJ:bS X (binaryOp .BitAnd) (ahN X):=by
 intro pins s Z H x y v u Q I rx ry h;obtain⟨a,b,ns,ms,rfl,rfl,hab,ha,hb,h1,h2,q⟩:=h;cases rx;cases ry;obtain⟨hA,_,_⟩:=I.hok a _ ha;obtain⟨hB,_,_⟩:=I.hok b _ hb;rw[BE]at h1 h2;refine abA hab hA hB h1 h2 (yv .nil) (yv .nil) λh' rs q1 q2 q3 q4=>?_
 have hmem:∀x,x∈rs↔x∈ns/\x∈ms:=λx=>by
  rw[q3 x];unfold fT;rw[yF,yF];simp
 have ajx:=q1;obtain⟨o,es,ep,t,ho,_⟩:=ajx;refine⟨.ref s.heap.objs.size,upd H s.heap.objs.size (.ext (BK X.w s.heap.objs.size rs)),I.laid (t':=s.toks) q4 (AP _) ⟨q1,⟨o,ho⟩,λh1 h2 x k=>x.at k⟩,rfl,q _ rs (I.hok.fresh (AP _)) (Oi q2 hmem) (SN (CN q2 λx hx=>((q3 x).mp hx).1) h1)⟩
def ais(X:Cx):List V->Hp->VK->Prop:=λxs H Q=>∃a rs,xs=[.ref a]/\H a=U (.ext (BK X.w a rs))/\rs.length<64/\Q (.int (rs.length:Nat)) H
theorem abS:dG X (.builtin "len") (ais X):=by
 intro pins s Z H xs us Q I rv h;obtain⟨a,rs,rfl,hH,hn,q⟩:=h;obtain⟨u,rfl,ru⟩:=Po rv;cases ru;obtain⟨hS,_,_⟩:=I.hok a _ hH;obtain⟨o,es,ep,t,ho,hex,hd,hI,hl,hs⟩:=hS;have he:es.size=rs.length:=by rw[<-PC];exact hs.len
 refine call_len_set ho hex hd hI.fits (by rw[he];omega) ⟨.int _,H,I.tok _,⟨_,by rw[he]⟩,q⟩
def mH(c:aa):D->Option (List Nat)
 |.tup l=>rB l
 |x=>match eV c x with
  |some l=>rB l
  |none=>O
theorem KI{K:Ξ}{H:Hp}{v:V}{ns:List Nat}(W:Wd K ρ H c)(r:Rel K ρ H x v)(h:mH c x=U ns):∃a,v=.ref a/\(bf K H a (nV ns)\/bO K H a (nV ns))/\(gK ns).length<64/\∀x∈ns,x<128:=by
 unfold mH at h;split at h
 ·obtain⟨rfl,h64,hx⟩:=KH h;obtain⟨a,xs,rfl,ha,rl⟩:=r;cases Jg rl;exact⟨a,rfl,.inr (bO.of ha),h64,hx⟩
 ·split at h
  ·rename_i l hl;obtain⟨rfl,h64,hx⟩:=KH h;obtain⟨a,ys,rfl,ha,rl⟩:=mL W r hl;cases Jg rl;exact⟨a,rfl,.inl (bf.of ha),h64,hx⟩
  ·cases h
def sE(a b:aj):af:=λe c=>(a e c).bind λxs c=>match xs with
 |[x]=>match mH c x with
  |some ns=>(b e c).bind λys c=>match ys with
   |[y]=>match mH c y with
    |some ms=>.ok (.int (oV ns ms:Nat)) c
    |none=>.bad
   |_=>.bad
  |none=>.bad
 |_=>.bad
theorem aiU{p1 p2:Pos}(ha:gx X [a] da)(hb:gx X [b] db)(hm:X.mg "len"=O)(hm2:X.mg "set"=O)(hg:Gl X "len":=by rfl)(yZ:Gl X "set":=by rfl)(hc:X.calm=J:=by rfl)(he:ε [a] X.env=(Δ,eval a X.env)::ε [] X.env:=by exact ez rfl)(ZM:ε [b] X.env=(Δ,eval b X.env)::ε [] X.env:=by exact ez rfl):
  bg X (.Call (.Name "len" p0) [.BinOp (.Call (.Name "set" p1) [a] [] q1) .BitAnd (.Call (.Name "set" p2) [b] [] q2) q3] [] q0) (sE da db):=by
 have h1:PE X (.Call (.Name "set" p1) [a] [] q1) _:=uh (NS hc) yZ hm2 (by decide +kernel) ha ⋯ ⋯ he (by exact ig rfl)
 have h2:PE X (.Call (.Name "set" p2) [b] [] q2) _:=uh (NS hc) yZ hm2 (by decide +kernel) hb ⋯ ⋯ ZM (by exact ig rfl)
 refine(x8 abS hg hm (by decide +kernel) (jJ (JB ajJ h1 h2) lA (ez rfl)) ⋯ ⋯ (by exact ez rfl) (by exact ig rfl)).imp λZ H Q h=>?_
 obtain⟨ρ,e,c,W,V,p⟩:=h;refine⟨ρ,e,c,W,V,post.bind p λxs c1 aM H1 vs ex W1 X1 r1 p1=>?_⟩
 clear ex;split at p1
 ·rename_i x;obtain⟨v,r,rfl,hx,hr⟩:=r1;cases hr;split at p1
  ·rename_i ns hn;obtain⟨ad,rfl,sq,h64,hx'⟩:=KI W1 hx hn;refine⟨ad,ns,rfl,sq,h64,hx',λpa hpa=>?_⟩
   refine⟨aM,e,c1,W1.fresh hpa,(V.mono W X1).mono W1 (Ext.fresh W1 hpa),post.bind (post.ext p1 (Ext.fresh W1 hpa)) λys c2 dP H2 vs2 ex2 W2 X2 r2 p2=>?_⟩
   clear ex2;split at p2
   ·rename_i y;obtain⟨v2,r',rfl,hy,hr'⟩:=r2;cases hr';split at p2
    ·rename_i ms hm';obtain⟨bd,rfl,ahe,ML,hy'⟩:=KI W2 hy hm';refine⟨bd,ms,rfl,ahe,ML,hy',λpb DI=>?_⟩
     have Zm:pa∉aM:=W1.nil hpa;have D5:=(X2.keep pa _ eT Zm rfl).1;have hne:pa≠pb:=λz=>by rw[z,DI]at D5;cases D5
     refine⟨pa,pb,ns,ms,rfl,rfl,hne,by rw[bz hne];exact D5,eT,h64,ML,λpr rs jQ hl Zv=>?_⟩
     refine⟨pr,rs,rfl,eT,Zv,?_⟩;rw[hl];have W3:=W2.fresh (o:=.ext (tW X.w pb ms)) DI;exact p2 dP _ _ (W3.fresh jQ) ((Ext.fresh W2 DI).trans (Ext.fresh W3 jQ)) rfl
    ·exact p2.elim
   ·exact p2.elim
  ·exact p1.elim
 ·exact p1.elim
end
@[simp] theorem adB(a b:aj)(e:Ev)(c:aa):sE a b e c=(a e c).bind λxs c=>match xs with
 |[x]=>match mH c x with
  |some ns=>(b e c).bind λys c=>match ys with
   |[y]=>match mH c y with
    |some ms=>.ok (.int (oV ns ms:Nat)) c
    |none=>.bad
   |_=>.bad
  |none=>.bad
 |_=>.bad:=rfl
theorem ahk{env:Env}{pos:Pos}(h:isStar a=Δ)(g:isStar b=Δ):((OY pos (ε [a,b] env)).all (λx=>!x.1)&&(R7 pos (R5 [] env)).all (λx=>x.1.isSome)
   && decide ([a,b].length+([]:List QL).length+(if([]:List QL).isEmpty then 0 else 1)<30))=J:=by
 rw[BC h g];simp[OY,R7,R5]
section
variable {X:Cx}
def abl:V->List V->Hp->VK->Prop:=λx vs H Q=>∃l xs y,∃i:Int,x=.ref l/\vs=[.int i,y]/\H l=U (.lst xs)/\(0<=i/\i<=xs.length)/\xs.length<Ω/\Q .aF (upd H l (.lst (xs.take i.toNat++y::xs.drop i.toNat)))
theorem WW:Gj X "list.insert" abl:=by
 intro pins s Z H x vs v us Q I rx rv h;obtain⟨l,xs,y,i,rfl,rfl,hH,hi,hz,q⟩:=h;cases rx;cases rv with
 |cons r0 rr =>
  cases rr with
  |cons ru rr =>
   cases rr;obtain⟨t,rfl⟩:=r0;rename_i u;obtain⟨z,its,n,r,hl,e⟩:=I.pL hH;have hsl:Ω<2^62:=⋯
   have hfit:¬(!Builtin.List.listFitsIndex i)=J:=by
    have:Builtin.List.listFitsIndex i=J:=by
     unfold Builtin.List.listFitsIndex;simp;omega
    rw[this];decide
   refine Rw F.slot_list_insert ⟨_,e,rfl⟩ F.entry_list_insert (F.args_list_insert_3 _ _ _) (AutoSeq1.list_insert_list_int_val_1 l its.toArray n i t u hfit (by rw[O3];omega)) ⟨e,?_⟩
   refine⟨.aF,_,I.C3 hH e ?_ ((r.take i.toNat).append (.cons ru (r.drop i.toNat))) ?_,rfl,q⟩
   ·have hk:(if i<0 then(i+(its.toArray.size:Int)).toNat else min i.toNat its.toArray.size)=i.toNat:=by
     rw[if_neg ∅,O3];omega
    rw[hk];simp[List.extract_eq_take_drop,RQ]
   ·simp;omega
def vO(o a b:af):af:=λe c=>(o e c).bind λx c=>match x with
 |.ref k=>(a e c).bind λi c=>(b e c).bind λy c=>match i,c[k]? with
  |.int i,U (.lst l)=>if(0<=i/\i<=l.length)/\l.length<Ω/\noRef y=J then .ok .aF (c.set k (.lst (l.take i.toNat++y::l.drop i.toNat)))else .bad
  |_,_=>.bad
 |_=>.bad
theorem Wl(h:bD l=J)(n:Nat):bD (l.take n)=J:=gS.mpr λd hd=>gS.mp h d (Pc hd)
theorem Wq(h:bD l=J)(n:Nat):bD (l.drop n)=J:=gS.mpr λd hd=>gS.mp h d (UM hd)
theorem aiT{apos:Pos}(ho:bg X o dO)(ha:bg X a da)(hb:bg X b db)(hbase:TY o "insert" X.env (eval o X.env)=eval o X.env:=by rfl)(hfew:((OY cpos (ε [a,b] X.env)).all (λx=>!x.1)&&(R7 cpos (R5 [] X.env)).all (λx=>x.1.isSome)
   && decide ([a,b].length+([]:List QL).length+(if([]:List QL).isEmpty then 0 else 1)<30))=J:=by exact ahk rfl rfl)(hline:(apos.endLine==cpos.line)=J:=by rfl)(hs:ε [a,b] X.env=(Δ,eval a X.env)::ε [b] X.env:=by exact ez rfl)(hs2:ε [b] X.env=(Δ,eval b X.env)::ε [] X.env:=by exact ez rfl)(hplain:(OY cpos (ε [b] X.env)).any (·.1)=Δ:=by exact ig rfl):
  bg X (.Call (.Attribute o "insert" apos) [a,b] [] cpos) (vO dO da db) :=
 (Ci Tr PySem.F.slot_list_insert PySem.F.type_list_insert WW ho (jJ ha (jJ hb lA hs2) hs) hbase hfew hline hs hplain).imp λZ H Q h=>by
  obtain⟨ρ,e,c,W,V,p⟩:=h;refine⟨ρ,e,c,W,V,post.bind p λx c1 aM H1 v _ W1 X1 r1 p1=>?_⟩
  cases x with
  |ref k =>
   obtain⟨ad,rfl,hk⟩:=r1;obtain⟨xs,hx⟩:=W1.at' (P8 hk);refine⟨.inl ⟨rfl,xs,bf.of hx⟩,aM,e,c1,W1,V.mono W X1,post.bind p1 λi c2 dP H2 ui _ W2 X2 r2 p2=>⟨dP,e,c2,W2,(V.mono W X1).mono W1 X2,post.bind p2 λy c3 sW H3 u _ W3 X3 r3 p3=>?_⟩⟩
   split at p3
   ·rename_i i' l hl _;split at p3
    ·rename_i hh;cases r2;obtain⟨nr,ys,hy,rl⟩:=W3.fP k ad _ (X3.pre k ad (X2.pre k ad hk)) hl;refine⟨ad,ys,u,i',rfl,rfl,hy,by rw[rl.length];exact hh.1,by rw[rl.length];exact hh.2.1,?_⟩
     refine p3 sW _ .aF (W3.write (X3.pre k ad (X2.pre k ad hk)) ?_ ((rl.take _).append ⟨u,_,rfl,r3,rl.drop _⟩)) (Ext.write (X3.pre k ad (X2.pre k ad hk))) rfl;rw[uC,Wl nr];simp[bD,hh.2.2,Wq nr]
    ·exact p3.elim
   ·exact p3.elim
  |_=>exact p1.elim
def rS:List D->aa->R D:=λxs c=>match xs with
 |[x]=>match fH c x with
  |some l=>if bD l=J then .ok (.ref c.length) (c++[.lst l])else .bad
  |none=>.bad
 |_=>.bad
theorem ach:dG X (.type "list") (rN X.K rS):=by
 intro pins s Z H vs us Q I rv h;obtain⟨ρ,xs,c,W,rx,p⟩:=h;unfold rS at p;split at p
 ·rename_i x;obtain⟨v,r,rfl,hx,hr⟩:=rx;cases hr;split at p
  ·rename_i l hl;split at p
   ·rename_i nr;obtain⟨a,ys,rfl,sq,r⟩:=xO W hx hl;exact acq pins s Z H _ us Q I rv ⟨a,ys,rfl,sq,CH W nr r p⟩
   ·exact p.elim
  ·exact p.elim
 ·exact p.elim
end
@[simp] theorem afR(o a b:af)(e:Ev)(c:aa):vO o a b e c=(o e c).bind λx c=>match x with
 |.ref k=>(a e c).bind λi c=>(b e c).bind λy c=>match i,c[k]? with
  |.int i,U (.lst l)=>if(0<=i/\i<=l.length)/\l.length<Ω/\noRef y=J then .ok .aF (c.set k (.lst (l.take i.toNat++y::l.drop i.toNat)))else .bad
  |_,_=>.bad
 |_=>.bad:=rfl
mutual
def eg(c:aa)(n:Nat):D->Option D
 |.ref k=>match c[k]? with
  |some (.lst l)=>if n<=k then U (.lst l)else O
  |none=>O
 |.lst l=>match ie c n l with
  |some m=>U (.lst m)
  |none=>O
 |.tup l=>match ie c n l with
  |some m=>U (.tup m)
  |none=>O
 |.aF=>U .aF
 |.bl b=>U (.bl b)
 |.int i=>U (.int i)
 |.str x=>U (.str x)
 |.ty x=>U (.ty x)
 |.bK x=>U (.bK x)
 |.fn x m=>U (.fn x m)
 |.exc x=>U (.exc x)
 |.iM=>U .iM
 |.dct ks=>U (.dct ks)
 |.gb ks=>U (.gb ks)
 |.lam _ _ _ _=>O
def ie(c:aa)(n:Nat):List D->Option (List D)
 |[]=>U []
 |d::l=>match eg c n d,ie c n l with
  |some a,U m=>U (a::m)
  |_,_=>O
end
section
variable {K:Ξ}{aM:List S}{H1:Hp}{c1:aa}{n:Nat}
mutual
theorem Ho(W1:Wd K aM H1 c1):∀(d:D) (v:V) (d':D),Rel K aM H1 d v->eg c1 n d=U d'->Rel K (aM.take n) H1 d' v
 |.ref k,v,d',r,h=>by
  unfold eg at h;split at h
  ·rename_i l hl;split at h
   ·rename_i hk;cases h;obtain⟨a,rfl,ha⟩:=r;obtain⟨nr,xs,hx,rl⟩:=W1.fP k a _ ha hl;refine⟨a,xs,rfl,⟨hx,λq=>?_⟩,aJ.low (λb h=>Pc h) l xs nr rl⟩
    obtain⟨j,hj,e⟩:=Qy.mp q;rw[TM]at e;have hk1:=OX.mp ha;have hjl:j<aM.length:=by simp at hj;omega
    have:=(Qf W1.nd (h₀:=hjl) (h₁:=hk1.1)).mp (e.trans hk1.2.symm);simp at hj;omega
   ·cases h
  ·cases h
 |.lst l,v,d',r,h=>by
  unfold eg at h;split at h
  ·rename_i m hm;cases h;obtain⟨a,xs,rfl,s,rl⟩:=r;exact⟨a,xs,rfl,⟨s.1,λq=>s.2 (Pc q)⟩,Bv W1 l xs m rl hm⟩
  ·cases h
 |.tup l,v,d',r,h=>by
  unfold eg at h;split at h
  ·rename_i m hm;cases h;obtain⟨a,xs,rfl,s,rl⟩:=r;exact⟨a,xs,rfl,s,Bv W1 l xs m rl hm⟩
  ·cases h
 |.aF,v,d',r,h=>by unfold eg at h;cases h;exact Rel.low (λb h=>Pc h) _ _ rfl r
 |.bl b,v,d',r,h=>by unfold eg at h;cases h;exact Rel.low (λb h=>Pc h) _ _ rfl r
 |.int i,v,d',r,h=>by unfold eg at h;cases h;exact Rel.low (λb h=>Pc h) _ _ rfl r
 |.str x,v,d',r,h=>by unfold eg at h;cases h;exact Rel.low (λb h=>Pc h) _ _ rfl r
 |.ty x,v,d',r,h=>by unfold eg at h;cases h;exact Rel.low (λb h=>Pc h) _ _ rfl r
 |.bK x,v,d',r,h=>by unfold eg at h;cases h;exact Rel.low (λb h=>Pc h) _ _ rfl r
 |.fn x m,v,d',r,h=>by unfold eg at h;cases h;exact Rel.low (λb h=>Pc h) _ _ rfl r
 |.exc x,v,d',r,h=>by unfold eg at h;cases h;exact Rel.low (λb h=>Pc h) _ _ rfl r
 |.iM,v,d',r,h=>by unfold eg at h;cases h;exact Rel.low (λb h=>Pc h) _ _ rfl r
 |.dct ks,v,d',r,h=>by unfold eg at h;cases h;exact Rel.low (λb h=>Pc h) _ _ rfl r
 |.gb ks,v,d',r,h=>by unfold eg at h;cases h;exact Rel.low (λb h=>Pc h) _ _ rfl r
 |.lam _ _ _ _,v,d',r,h=>by unfold eg at h;cases h
theorem Bv(W1:Wd K aM H1 c1):∀(l:List D) (xs:List V) (m:List D),aJ K aM H1 l xs->ie c1 n l=U m->aJ K (aM.take n) H1 m xs
 |[],xs,m,r,h=>by unfold ie at h;cases h;exact r
 |d::l,xs,m,r,h=>by
  unfold ie at h;split at h
  ·rename_i a m' ha hm;cases h;obtain⟨y,ys,rfl,r1,r2⟩:=r;exact⟨y,ys,rfl,Ho W1 d y a r1 ha,Bv W1 l ys m' r2 hm⟩
  ·cases h
end
end
def jW(n:Nat)(v:D)(c:aa):R D:=match eg c n v with
 |some d=>.ok d (c.take n)
 |none=>.bad
def jV(n:Nat)(d:ah):List D->aa->R D:=λxs c=>(d (bW n xs) c).bind λf c'=>match f with
 |.rt v=>jW c.length v c'
 |.nx _=>jW c.length .aF c'
 |_=>.bad
theorem Nu{K:Ξ}{H H1:Hp}{x:V}{Q:VK}(W:Wd K ρ H c)(W1:Wd K aM H1 c1)(X1:Ext ρ H aM H1)(r:Rel K aM H1 v x)(p:post K (Rel K) (jW c.length v c1) ρ H Q):Q x H1:=by
 have Xc:=X1.cut (n:=c.length) (R1 W.len);unfold jW at p;split at p
 ·rename_i d hd;exact p _ H1 x (W1.cut (Ext.len W W1 X1)) Xc (Ho W1 v x d r hd)
 ·exact p.elim
section
variable {P:ν}{w:τ}{K:Ξ}{mg:Str->Option L}{base:π}
theorem zq{qual:Str}{st:x6}(F:l5 K x qual st f fd)(Θ:iS N ps (cZ st))(hN:N.length=n)(hm:ps.length=m)(hb:∀(cdv:L) (A:χ) (outer:List Env) (s:Ψ) (H:Hp) (E:XK),cK k (A.deeper (envOfC qual (cZ st) s.heap.objs.size f cdv))->bI (lU c9 P w K mg base N qual (cZ st) f cdv A outer s H E).lD (iO st) d):
  d9 P w K mg base c9 (k+1) f fd ps (fG K m (jV n d)):=by
 subst hN;subst hm;refine F.ok Θ (λvs H Q E h=>?_) (λcdv A outer s H vs Q E hr h=>⟨_,hb cdv A outer s H E hr,?_⟩)
 ·obtain⟨ρ,xs,c,W,r,hl,p⟩:=h;exact r.length.trans hl
 ·obtain⟨ρ,xs,c,W,r,hl,p⟩:=h;refine⟨ρ,bW N.length xs,c,W,dN.start r,post.bind p λfl c1 aM H1 b _ W1 X1 r1 p1=>?_⟩
  cases fl with
  |nx e1 =>
   obtain⟨σ1,rfl,V1⟩:=r1;exact Nu (v:=.aF) W W1 X1 rfl (by unfold jV at p;rename_i he;rw[he]at p;exact p)
  |rt d =>
   obtain⟨v,rfl,V1⟩:=r1;exact Nu (v:=d) (x:=v) W W1 X1 V1 (by unfold jV at p;rename_i he;rw[he]at p;exact p)
  |bk e1=>exact p1.elim
  |ct e1=>exact p1.elim
end
@[simp] theorem sY(n:Nat)(d:ah)(xs:List D)(c:aa):jV n d xs c=(d (bW n xs) c).bind λf c'=>match f with
 |.rt v=>jW c.length v c'
 |.nx _=>jW c.length .aF c'
 |_=>.bad:=rfl
end L2
namespace L2
open PySem PySem.Spec PyProof.Rows
section
variable {X:Cx}{e sx:μ}{te:TE}{lo hi:Option μ}{tl th ts:TO}{pos p2:Pos}
def insI(x:Int):List Int->List Int
 |[]=>[x]
 |y::l=>if x<=y then x::y::l else y::insI x l
def i6:List Int->List Int
 |[]=>[]
 |x::l=>insI x (i6 l)
theorem Dy(x:Int):∀l,(insI x l).Perm (x::l)
 |[]=>.refl _
 |y::l=>by
  unfold insI;split
  ·exact .refl _
  ·exact((Dy x l).cons y).trans (List.Perm.swap _ _ _)
theorem pW:∀l,(i6 l).Perm l
 |[]=>.refl _
 |x::l=>(Dy x _).trans ((pW l).cons x)
theorem LV(x:Int):∀{l:List Int},l.Pairwise (·<=·)->(insI x l).Pairwise (·<=·)
 |[],_=>by simp[insI]
 |y::l,h=>by
  obtain⟨h1,h2⟩:=Q7.mp h;unfold insI;split
  ·rename_i hx;exact Q7.mpr ⟨λb hb=>by
    rcases Bt.mp hb with rfl|hb
    ·exact hx
    ·exact Int.le_trans hx (h1 b hb),h⟩
  ·refine Q7.mpr ⟨λb hb=>?_,LV x h2⟩
   rcases Bt.mp ((Dy x l).mem_iff.mp hb)with rfl|hb
   ·omega
   ·exact h1 b hb
theorem yO:∀l:List Int,(i6 l).Pairwise (·<=·)
 |[]=>.nil
 |x::l=>LV x (yO l)
theorem BF:∀{l m:List Int},l.Perm m->l.Pairwise (·<=·)->m.Pairwise (·<=·)->l=m
 |[],m,p,_,_=>by have:=p.length_eq;cases m with|nil=>rfl|cons a m=>simp at this
 |x::l,[],p,_,_=>by have:=p.length_eq;simp at this
 |x::l,y::m,p,h1,h2=>by
  obtain⟨a1,a2⟩:=Q7.mp h1;obtain⟨b1,b2⟩:=Q7.mp h2;have e:x=y:=by
   have u:x<=y:=by
    rcases Bt.mp (p.mem_iff.mpr (Pu (a:=y) (l:=m)))with e|q
    ·omega
    ·exact a1 y q
   have v:y<=x:=by
    rcases Bt.mp (p.mem_iff.mp (Pu (a:=x) (l:=l)))with e|q
    ·omega
    ·exact b1 x q
   omega
  subst e;rw[BF ((List.perm_cons _).mp p) a2 b2]
def ahF(X:Cx):List V->Hp->VK->Prop:=λxs H Q=>∃a ns,xs=[.ref a]/\bf X.K H a (ns.map V.int)/\ns.length<64/\∀p,H p=O->Q (.ref p) (upd H p (.lst ((i6 ns).map V.int)))
theorem OQ:∀{ns:List Int}{us:List L},QK us ns->Vals (ns.map V.int) us
 |[],_,.nil=>.nil
 |n::ns,_,.cons _ t r=>.cons ⟨t,rfl⟩ (OQ r)
theorem abL:dG X (.builtin "sorted") (ahF X):=by
 intro pins s Z H xs us Q I rv h;obtain⟨a,ns,rfl,sq,hn,q⟩:=h;obtain⟨u,rfl,ru⟩:=Po rv;cases ru;obtain⟨its,ri,pl,hz⟩:=I.list sq;have hl:=ri.length;have hIA:QK its ns:=intsAre_of ri;refine sorted_ints pl.isList hIA (by rw[<-hl];simpa using hn) λout zs i1 i2 i3=>?_
 have hzs:zs=i6 ns:=BF (i2.trans (pW ns).symm) i3 (yO ns);subst hzs;have hf:H _=O:=I.hok.fresh (RA _);have hne:∀b o,s.heap.get? b=U o->s.heap.objs.size≠b/\s.heap.objs.size+1≠b:=λb o e=>⟨Pp (Iv e),Pp (Q0 (Iv e))⟩
 have hsz:((s.heap.push (seqObj "list" #[] 0)).update s.heap.objs.size (Obj.mapSeq (· ++ its.toArray))).objs.size=s.heap.objs.size+1:=by rw[Tz,P9]
 have p9:(((s.heap.push (seqObj "list" #[] 0)).update s.heap.objs.size (Obj.mapSeq (· ++ its.toArray))).push (seqObj "list" its.toArray 0)).get? (s.heap.objs.size+1)=U (seqObj "list" its.toArray 0):=by
  rw[<-hsz];exact O5 _ rfl
 have g1:=SD p9 (λ_=>#[])
 have g2:=SD (H8 (seqObj "list" #[] 0) (H8 (seqObj "tuple" its.toArray 0) g1)) λ_=>out
 refine⟨.ref _,upd H (s.heap.objs.size+1) (.lst ((i6 ns).map V.int)),I.laid (t':=s.toks) (λb o e=>?_) (RA _) ⟨?_,out.toList,_,OQ i1,by rw[Array.toArray_toList];exact g2⟩,rfl,q _ hf⟩
 ·obtain⟨n1,n2⟩:=hne b o e;exact(Qd _ _ n2).trans (H8 _ (H8 _ ((Qd _ _ n2).trans (H8 _ ((Qd _ _ n1).trans (H8 _ e))))))
 ·have:=(pW ns).length_eq;rw[O2,this,Qe];omega
def nK:List D->aa->R D:=λxs c=>match xs with
 |[x]=>match eV c x with
  |some l=>match iw l with
   |some ns=>if ns.length<64 then .ok (.lst ((i6 ns).map D.int)) c else .bad
   |none=>.bad
  |none=>.bad
 |_=>.bad
theorem EM:dG X (.builtin "sorted") (rN X.K nK):=by
 intro pins s Z H vs us Q I rv h;obtain⟨ρ,xs,c,W,rx,p⟩:=h;unfold nK at p;split at p
 ·obtain⟨v,r',rfl,hx,hr⟩:=rx;cases hr;split at p
  ·rename_i l hl;split at p
   ·rename_i ns hn;split at p
    ·rename_i hb;obtain⟨a,ys,rfl,ha',rl⟩:=mL W hx hl;rw[pY hn]at rl;cases rl.pX;exact abL pins s Z H _ us Q I rv ⟨a,ns,rfl,bf.of ha',hb,rA W aJ.ints p⟩
    ·exact p.elim
   ·exact p.elim
  ·exact p.elim
 ·exact p.elim
end
theorem G8:∀(xs:List L),TV xs->TV (xs++[.int l t,.int c u,v])
 |[],_=>trivial
 |.int _ _ :: .int _ _::_::rest,h=>G8 (c:=c) rest h
theorem OE{pos:Pos}:∀(xs:List L),TV xs->codeAmong p (xs++[rawInt pos.line,rawInt pos.col,v])=U cv->codeAmong p xs=U cv\/cv=v
 |[],_,h=>by
  simp only[Pe,rawInt,codeAmong]at h;split at h
  ·exact .inr (P0 h).symm
  ·cases h
 |.int a _ :: .int b _::x::rest,ht,h=>by
  simp only[S9,codeAmong]at h ⊢;split at h
  ·rename_i hc;rw[if_pos hc];exact .inl h
  ·rename_i hc;rw[if_neg hc];exact OE rest ht h
structure ada (H H':Hp) (n:Nat) (P:S) (q:Str) (e:μ) (cl:List (Str×S)) (a:S):Prop where
 at':∃o c,H' a=U (.ext (pP a o))/\wC e o q c cl/\H' c=U (.ext (qk c q))
 keep:∀b u,H b=U u->uZ u=Δ->H' b=U u
 new:∀b,b<n->H b=O->H' b=O
 tabs:∀b ps,b≠P->H b=U (.cG ps)->H' b=U (.cG ps)
 tab:TabAt H' P q
section
variable {X:Cx}{pins:List (S×Obj)}{Z:St}{H:Hp}{s:Ψ}
theorem N5{h1 h2:π}(x:h1.CodeRec (.ref c) q)(k:∀o,h1.get? c=U o->h2.get? c=U o):h2.CodeRec (.ref c) q:=by
 obtain⟨c',oc,vs,t,e,h,r⟩:=x;cases e;exact⟨_,oc,vs,t,rfl,k _ h,r⟩
theorem XM{params:RV}{body:μ}{scope:P7}{pos:Pos}{clos:List (Str×S)}{Q:L->Ψ->Prop}(I:Inv X pins Z H s)(hcode:X.env.code=.ref c)(hq:X.env.qual++"<lambda>"=q)(hC:PySem.W.codeHdIn X.K c P=J)(hT:TabAt H P q)(hcl:closureFor scope X.env=pure clos)(hdef:defaultsOf params X.env=([],[]))(h:∀a H' s',Inv X pins Z H' s'->s.heap.objs.size<=a->ada H H' s.heap.objs.size P q (.Lambda params body scope pos) clos a->Q (.ref a) s'):
  wpAny (model X.prog X.w) X.A (eval (.Lambda params body scope pos) X.env) Q X.xe s:=by
 obtain⟨ps,hP,ht,hcs⟩:=hT;have vg:s.heap.get? P=U (PySem.W.tabObj ps):=I.hok P _ hP;have hns:s.heap.Ns ι X.mg:=I.mod.glob.keeps I.bk;obtain⟨bm,ob,b1,b2,b3,b4,b5,b6⟩:=I.mod.bmod;have wg:=I.bk _ _ b3;have hgP:ι≠P:=λz=>by
  obtain⟨o,es,ep,e,hd,_⟩:=hns;rw[z,vg]at e;cases e;cases hd
 have ZV:bm≠P:=λz=>by rw[z,vg]at wg;cases wg;cases b4
 have ZW:bm≠ι:=λz=>by
  obtain⟨o,es,ep,e,hd,_⟩:=hns;rw[z,e]at wg;cases wg;rw[hd]at b6;cases b6
 have hB:s.heap.BuiltinsAt X.mg P:=⟨bm,ob,b1,b2,ZW,ZV,wg,b4,b5,b6⟩;have C:PySem.W.CodeHd s.heap c P:=VH I.fS hC;refine PySem.W.kla_eval hdef ?_;rw[hq];have MG:P<s.heap.objs.size:=Iv vg;cases hf:codeAmong pos ps.toList with
 |some cv =>
  obtain⟨c',rfl,hc'⟩:=hcs pos cv hf;refine PySem.W.kla_makeFunctionHit hcl I.ok.glob hns hcode C vg ht hf hB λctv h' tk hk hsz=>?_
  generalize ho:({cls:=.type "function",data:=.func (PySem.W.kla_fn "<lambda>" q params body scope clos ((X.mg "__name__").getD .none) (.ref c') ctv)}:Obj)=o
  have hof:o.isFreed=Δ:=by rw[<-ho];rfl
  have hn:H h'.objs.size=O:=I.hok.fresh hsz;have nb:∀b u,H b=U u->b≠h'.objs.size:=λb u e=>dH e hn
  refine h h'.objs.size (upd H h'.objs.size (.ext (pP h'.objs.size o))) _ (I.laid (t':=tk) (λb u e=>H8 _ (hk b u e)) hsz ?_) hsz ⟨⟨o,c',eT,⟨_,ctv,ho.symm⟩,by rw[bz (nb _ _ hc')];exact hc'⟩,λb u e _=>by rw[bz (nb b u e)];exact e,λb hb e=>by rw[bz (O0 (O4 hb hsz))];exact e,λb ps' _ e=>by rw[bz (nb b _ e)];exact e,⟨ps,by rw[bz (nb _ _ hP)];exact hP,ht,λp v e=>let⟨d,e1,e2⟩:=hcs p v e;⟨d,e1,by rw[bz (nb _ _ e2)];exact e2⟩⟩⟩
  exact⟨O5 _ hof,⟨_,O5 _ hof⟩,λh1 h2 e k=>k _ e⟩
 |none =>
  refine PySem.W.kla_makeFunction hcl I.ok.glob hns hcode C vg ht hf hgP hB λc' ctv h' tk hx hge hlt hrec htb=>?_
  generalize ho:PySem.W.kla_obj "<lambda>" q params body scope clos ((X.mg "__name__").getD .none) c' ctv=o
  have hsz:s.heap.objs.size<=h'.objs.size:=PJ hge (R4 hlt);have hof:o.isFreed=Δ:=by rw[<-ho];rfl
  have hnc:H c'=O:=I.hok.fresh hge;have hna:H h'.objs.size=O:=I.hok.fresh hsz;have hca:c'≠h'.objs.size:=O0 hlt;have Z3:P≠c':=O0 (O4 MG hge);have hPa:P≠h'.objs.size:=O0 (O4 MG hsz)
  generalize hps:ps ++ #[rawInt pos.line,rawInt pos.col,.ref c']=ps' at htb
  let H':Hp:=upd (upd (upd H P (.cG ps')) c' (.ext (qk c' q))) h'.objs.size (.ext (pP h'.objs.size o))
  have qo:∀b,b≠P->b≠c'->b≠h'.objs.size->H' b=H b:=λb n1 n2 n3=>by
   show upd (upd (upd H P (.cG ps')) c' _) h'.objs.size _ b=_;rw[bz n3,bz n2,bz n1]
  have cE:H' P=U (.cG ps'):=by
   show upd (upd (upd H P (.cG ps')) c' _) h'.objs.size _ P=_;rw[bz hPa,bz Z3,eT]
  have E5:H' c'=U (.ext (qk c' q)):=by
   show upd (upd (upd H P (.cG ps')) c' _) h'.objs.size _ c'=_;rw[bz hca,eT]
  have Oz:H' h'.objs.size=U (.ext (pP h'.objs.size o)):=eT;have old:∀b u,H b=U u->uZ u=Δ->H' b=U u:=λb u e t=>by
   rw[qo b (λz=>by rw[z,hP]at e;cases e;cases t) (dH e hnc) (dH e hna)];exact e
  have kp:∀b ob,b≠P->s.heap.get? b=U ob->(h'.push o).get? b=U ob:=λb ob n e=>H8 _ (hx b ob n e)
  have Zn:cW X.prog X.w H' (h'.push o):=λb u e=>by
   by_cases h1:b=h'.objs.size
   ·subst h1;rw[Oz]at e;cases e;exact⟨O5 _ hof,⟨_,O5 _ hof⟩,λh1 h2 e k=>k _ e⟩
   ·by_cases h2:b=c'
    ·subst h2;rw[E5]at e;cases e;obtain⟨d,oc,vs,t,e0,e1,e2⟩:=id hrec;cases e0;refine⟨N5 hrec λo e=>H8 _ e,⟨oc,H8 _ e1⟩,λh1 h2 x k=>N5 x k⟩
    ·by_cases h3:b=P
     ·subst h3;rw[cE]at e;cases e;exact H8 _ htb
     ·rw[qo b h3 h2 h1]at e;refine(I.hok b u e).stay (λd w hd z=>kp d w ?_ z) (λd z=>?_) λd xs z=>?_
      ·rcases hd with hd|hd
       ·rw[hd];exact h3
       ·intro z2;rw[z2,hP]at hd;cases hd
      ·exact old d _ z rfl
      ·exact old d _ z rfl
  have I':Inv X pins Z H' {s with heap:=h'.push o,toks:=tk}:=by
   refine I.step (g':=s.gens) (d':=s.drawn) (ch:=[]) (λ_ z=>nomatch z) (λb ob _ _ _ e n=>kp b ob (λz=>by rw[z,hP]at n;cases n) e) (λb ob _ _ _ e n=>⟨ob.slots,kp b ob (λz=>by rw[z,hP]at n;cases n) e⟩) (λb ob _ e n=>?_) (λb ob _ e=>?_) (λb xs e=>old b _ e rfl) (λb o' u e=>old b _ e rfl) (λb ps2 e=>?_) (λm hm=>?_) Zn I.bare
   ·have hb:=Iv e;rw[qo b (λz=>by rw[z,hP]at n;cases n) (O0 (O4 hb hge)) (O0 (O4 hb hsz))]
    exact n
   ·by_cases hb:b=P
    ·subst hb;exact⟨_,H8 _ htb⟩
    ·exact⟨ob,kp b ob hb e⟩
   ·by_cases hb:b=P
    ·subst hb;rw[hP]at e;cases e;exact⟨#[rawInt pos.line,rawInt pos.col,.ref c'],by rw[cE,hps]⟩
    ·refine⟨#[],?_⟩;rw[qo b hb (dH e hnc) (dH e hna),e];simp
   ·have Z6:X.env.locals≠P:=λz=>by have:=I.free;rw[z,hP]at this;cases this
    obtain⟨ol,es,ep,e,r⟩:=hm;exact⟨ol,es,ep,kp _ _ Z6 e,r⟩
  refine h h'.objs.size H' _ I' hsz ⟨⟨o,c',Oz,⟨_,ctv,ho.symm⟩,E5⟩,old,λb hb e=>?_,λb ps2 nb e=>?_,⟨ps',cE,?_,λp v e=>?_⟩⟩
  ·rw[qo b (λz=>by rw[z,hP]at e;cases e) (O0 (O4 hb hge)) (O0 (O4 hb hsz))];exact e
  ·rw[qo b nb (dH e hnc) (dH e hna)];exact e
  ·rw[<-hps,VG];exact G8 _ ht
  ·rw[<-hps,VG]at e
   rcases OE ps.toList ht e with e|e
   ·obtain⟨d,e1,e2⟩:=hcs p v e;exact⟨d,e1,old d _ e2 rfl⟩
   ·exact⟨c',e,E5⟩
end
def f7(H:Hp)(F:S->Option Obj):Hp:=λb=>match F b with
 |some o=>U (.cI o (.own 0))
 |none=>H b
def cR(H:Hp)(F:S->Option Obj):Hp:=λb=>match F b with
 |some _=>O
 |none=>H b
section
variable {H H':Hp}{F:S->Option Obj}{b:S}{o:Obj}{u:HO}
theorem oH(h:F b=U o):f7 H F b=U (.cI o (.own 0)):=by unfold f7;rw[h]
theorem jU(h:F b=O):f7 H F b=H b:=by unfold f7;rw[h]
theorem qK(h:F b=U o):cR H F b=O:=by unfold cR;rw[h]
theorem jD(h:F b=O):cR H F b=H b:=by unfold cR;rw[h]
theorem Gq(hF:∀b o,F b=U o->H b=O)(h:H b=U u):F b=O:=by
 cases e:F b with
 |none=>rfl
 |some o=>rw[hF b o e]at h;cases h
theorem kH(hF:∀b o,F b=U o->H b=O)(h:H b=U u):f7 H F b=U u:=by rw[jU (Gq hF h)];exact h
end
section
variable {X:Cx}{pins:List (S×Obj)}{Z:St}{H H':Hp}{s s':Ψ}{F:S->Option Obj}
structure Gp (X:Cx) (H:Hp) (s:Ψ) (F:S->Option Obj):Prop where
 heap:∀b o,F b=U o->s.heap.get? b=U o
 free:∀b o,F b=U o->H b=O
 high:∀b o,F b=U o->X.s₀.heap.objs.size<=b
 loc:∀b o,F b=U o->b≠X.env.locals
theorem M0(hok:cW P w H h)(hF:∀b o,F b=U o->H b=O)(hh:∀b o,F b=U o->h.get? b=U o):cW P w (f7 H F) h:=λb u e=>by
 cases hb:F b with
 |some o =>
  rw[oH hb]at e;cases e;exact⟨hh b o hb,o,hh b o hb⟩
 |none =>
  rw[jU hb]at e;exact(hok b u e).stay (λ_ _ _ z=>z) (λc z=>kH hF z) λc xs z=>kH hF z
theorem M4(I:Inv X pins Z H s)(σ:Gp X H s F):sU X.prog X.w X.K X.mg X.base X.A X.stack s (f7 H F):=by
 have e:=I.Eu;have sz:X.base.objs.size<=X.s₀.heap.objs.size:=I.ok.jb;refine⟨e.frames,e.mod,λb o h=>?_,e.jb,e.iK,λb hb=>?_,M0 I.hok σ.free σ.heap,e.bare⟩
 ·obtain⟨h1,h2⟩:=e.bs b o h;refine⟨h1,?_⟩;cases hb:F b with
  |none=>rw[jU hb];exact h2
  |some ob=>exact absurd (O4 (Iv h) (PJ sz (σ.high b ob hb))) (Pz _)
 ·cases hF:F b with
  |none=>rw[jU hF];exact e.lN b hb
  |some ob =>
   exfalso
   rcases Bt.mp (I.o9 b hb)with z|z
   ·exact σ.loc b ob hF z
   ·obtain⟨_,o2,ho,_⟩:=I.ok.iK.mem z;exact absurd (O4 (Iv ho) (σ.high b ob hF)) (Pz _)
theorem aft{fs:List S}{h:π}(hF:∀b o,F b=U o->H b=O)(hh:∀b o,F b=U o->h.get? b=U o)(hfs:∀b o,F b=U o->b∉fs)(un:Un fs [] (f7 H F) H' h h')(hok:cW P w H' h'):Un fs [] H (cR H' F) h h'/\cW P w (cR H' F) h':=by
 have fz:∀b o,F b=U o->H' b=U (.cI o (.own 0)):=λb o e=>un.jq b o _ (oH e)
 have nn:∀{b:S}{u:HO},H b=U u->F b=O:=λe=>Gq hF e
 refine⟨⟨λb o e n hb hx=>?_,λb o e n hb hx=>?_,λb o e n hx=>?_,un.there,λb xs e=>?_,λb o u e=>?_,λb ps e=>?_⟩,λb u e=>?_⟩
 ·cases hb':F b with
  |none=>exact un.keep b o e (by rw[jU hb'];exact n) hb hx
  |some ob =>
   have e1:=hh b ob hb';rw[e]at e1;cases e1;exact(hok b _ (fz b o hb')).1
 ·cases hb':F b with
  |none=>exact un.slot b o e (by rw[jU hb'];exact n) hb hx
  |some ob=>exact absurd hb (hfs b ob hb')
 ·cases hb':F b with
  |none=>rw[jD hb'];exact un.free b o e (by rw[jU hb'];exact n) hx
  |some ob=>exact qK hb'
 ·rw[jD (nn e)];exact un.tups b xs (kH hF e)
 ·rw[jD (nn e)];exact un.jq b o u (kH hF e)
 ·obtain⟨more,z⟩:=un.jE b ps (kH hF e);exact⟨more,by rw[jD (nn e)];exact z⟩
 ·cases hb:F b with
  |some ob=>rw[qK hb]at e;cases e
  |none =>
   rw[jD hb]at e;have st:∀{c:S}{v:HO},H' c=U v->(∀o,v≠.cI o (.own 0))->cR H' F c=U v:=fun{c v} z n=>by
    cases hc:F c with
    |none=>rw[jD hc];exact z
    |some oc=>rw[fz c oc hc]at z;exact absurd (P0 z).symm (n oc)
   exact(hok b u e).stay (λ_ _ _ z=>z) (λc z=>st z λ_ q=>nomatch q) λc xs z=>st z λ_ q=>nomatch q
theorem agZ(G:d9 X.prog X.w X.K X.mg X.base c9 k f fd ps sp)(hr:cK k X.A)(hb:Binds X.K fd ps [])(I:Inv X pins Z H s)(σ:Gp X H s F)(r:Vals vs us)(h:sp vs (f7 H F) (λv H'=>Q v (cR H' F)) E0):wpAny (model X.prog X.w) X.A (call (.ref f) us) (EP X pins Z Q) X.xe s:=by
 have hl:us.length=ps.length:=by rw[<-r.length];exact G.len _ _ _ _ h
 have hb':=hb s us I.fS (by rw[QX];exact hl)
 rw[QX]at hb';refine Ry (QW (G.run X.A X.stack s (f7 H F) ⟨us,[]⟩ us vs _ E0 hr (M4 I σ) hb' r h) λr s' hq=>?_)
 cases r with
 |error e=>exact False.elim hq
 |ok fl =>
  cases fl with
  |ret u =>
   obtain⟨v,H',os,bare,un,hok,rv,q⟩:=hq;obtain⟨Bu,Zo⟩:=aft σ.free σ.heap (λb o e hb=>by
    have:=(M4 I σ).lN b hb;rw[oH e]at this;cases this) un hok
   exact⟨v,cR H' F,I.EN os Bu Zo bare λb z=>absurd z (by simp),rv,q⟩
  |next=>exact False.elim hq
  |brk=>exact False.elim hq
  |cont=>exact False.elim hq
end
section
variable {K:Ξ}{ρ ρ':List S}{H H':Hp}{c c':aa}{F:S->Option Obj}
theorem GF(W:Wd K ρ H c)(k:∀b u,H b=U u->uZ u=Δ->H' b=U u)(t:qs K H'):Ext ρ H ρ H'/\Wd K ρ H' c:=by
 have X:Ext ρ H ρ H':=⟨λ_ _ e=>e,λa o e n z=>⟨k a o e z,n⟩⟩
 refine⟨X,W.nd,W.len,λj a cl e1 e2=>?_,t⟩
 have q:=W.fP j a cl e1 e2;cases cl with
 |lst l =>
  obtain⟨nr,xs,e,r⟩:=q;exact⟨nr,xs,k _ _ e rfl,aJ.mono W X l xs r⟩
theorem GG(W:Wd K ρ H c)(hF:∀b o,F b=U o->H b=O):Ext ρ H ρ (f7 H F)/\Wd K ρ (f7 H F) c :=
 GF W (λb u e _=>kH hF e) (W.tab.mono (λ_ _ e=>kH hF e) λ_ _ e=>kH hF e)
theorem iU(hF:∀b o,F b=U o->H b=U (.cI o (.own 0)))(e:H b=U u)(n:∀o,u≠.cI o (.own 0)):cR H F b=U u:=by
 cases hc:F b with
 |none=>rw[jD hc];exact e
 |some oc=>rw[hF b oc hc]at e;exact absurd (P0 e).symm (n oc)
mutual
theorem Rel.cR(hF:∀b o,F b=U o->H b=U (.cI o (.own 0))):∀(d:D) (v:V),fm d=J->Rel K ρ H d v->Rel K ρ (cR H F) d v
 |.aF,v,_,h=>h
 |.bl b,v,_,h=>h
 |.int i,v,_,h=>h
 |.str y,v,_,h=>h
 |.ty n,v,_,h=>h
 |.tup l,v,n,h=>by
  obtain⟨a,xs,e,s,r⟩:=h;exact⟨a,xs,e,iU hF s (λ_ z=>nomatch z),aJ.cR hF l xs (by unfold fm at n;exact n) r⟩
 |.lst l,v,n,h=>by
  obtain⟨a,xs,e,s,r⟩:=h;exact⟨a,xs,e,⟨iU hF s.1 (λ_ z=>nomatch z),s.2⟩,aJ.cR hF l xs (by unfold fm at n;exact n) r⟩
 |.ref k,v,_,h=>h
 |.bK l,v,_,h=>by
  obtain⟨a,e,s⟩:=h;refine⟨a,e,?_⟩
  rcases s with⟨s,z⟩|s
  ·rcases s with s|⟨o,s⟩
   ·exact .inl ⟨.inl (iU hF s (λ_ z=>nomatch z)),z⟩
   ·exact .inl ⟨.inr ⟨o,iU hF s (λ_ z=>nomatch z)⟩,z⟩
  ·exact .inr s
 |.fn a n,v,_,h=>h
 |.iM,v,_,h=>by
  obtain⟨a,e,q⟩:=h;exact⟨a,e,iU hF q (λ_ z=>nomatch z)⟩
 |.dct ks,v,_,h=>by
  obtain⟨a,kvs,e,q,z⟩:=h;exact⟨a,kvs,e,iU hF q (λ_ z=>nomatch z),z⟩
 |.gb ks,v,_,h=>by
  obtain⟨a,as,e,q,z⟩:=h;exact⟨a,as,e,iU hF q (λ_ z=>nomatch z),z.mono λb xs q=>iU hF q (λ_ z=>nomatch z)⟩
 |.exc y,v,_,h=>by
  obtain⟨a,C,e,n,q⟩:=h;exact⟨a,C,e,n,iU hF q (λ_ z=>nomatch z)⟩
 |.lam _ _ _ _,v,n,h=>by unfold fm at n;cases n
theorem aJ.cR(hF:∀b o,F b=U o->H b=U (.cI o (.own 0))):∀(l:List D) (xs:List V),fK l=J->aJ K ρ H l xs->aJ K ρ (cR H F) l xs
 |[],xs,_,h=>h
 |d::l,xs,n,h=>by
  obtain⟨y,r,e,h1,h2⟩:=h;unfold fK at n;rw[PF]at n;exact⟨y,r,e,Rel.cR hF d y n.1 h1,aJ.cR hF l r n.2 h2⟩
end
theorem GD(W:Wd K ρ H c)(hF:∀b o,F b=U o->H b=U (.cI o (.own 0))):Wd K ρ (cR H F) c:=by
 refine⟨W.nd,W.len,λj a cl e1 e2=>?_,W.tab.mono (λ_ _ e=>iU hF e (λ_ z=>nomatch z)) λ_ _ e=>iU hF e (λ_ z=>nomatch z)⟩
 have q:=W.fP j a cl e1 e2;cases cl with
 |lst l =>
  obtain⟨nr,xs,e,r⟩:=q;exact⟨nr,xs,iU hF e (λ_ z=>nomatch z),aJ.cR hF l xs (yq l nr) r⟩
theorem aa8(x:Ext ρ (f7 H F) ρ' H')(hF:∀b o,F b=U o->H b=O):Ext ρ H ρ' (cR H' F) :=
 ⟨x.pre,λa o e n t=>by
  obtain⟨h1,h2⟩:=x.keep a o (kH hF e) n t;exact⟨by rw[jD (Gq hF e)];exact h1,h2⟩⟩
theorem aa9(x:Ext ρ (cR H F) ρ' H')(W':Wd K ρ' H' c')(hF:∀b o,F b=U o->H b=U (.cI o (.own 0)))(hn:∀b o,F b=U o->H' b=O):Ext ρ H ρ' (f7 H' F) :=
 ⟨x.pre,λa o e n t=>by
  cases hc:F a with
  |some oc =>
   have:=hF a oc hc;rw[e]at this;cases this;exact⟨oH hc,W'.nil (hn a oc hc)⟩
  |none =>
   obtain⟨h1,h2⟩:=x.keep a o (by rw[jD hc];exact e) n t
   exact⟨by rw[jU hc];exact h1,h2⟩⟩
end
end L2
namespace L2
open PySem PySem.Spec PyProof.Rows
structure gJ (X:Cx) (ns:List Str) (js:List Nat) (scope:P7):Prop where
 names:∀x∈scope.names,x.2=.free->X.env.kindOf x.1=U .cell\/X.env.kindOf x.1=U .free
 got:∀(i j:Nat) (x:Str),js[i]? = U j->ns[i]? = U x->(x,NameKind.free)∈scope.names/\X.N[j]? = U x/\(X.env.kindOf x=U .cell\/X.env.kindOf x=U .free)
 all:∀x,(x,NameKind.free)∈scope.names->x∈ns
def Lw(XN:List Str)(xn:List (Str×PN))(ns:List Str)(js:List Nat)(names:List (Str×PN)):Bool :=
 names.all (λx=>decide (x.2≠NameKind.free)||((decide (xn.lookup x.1=U NameKind.cell)||decide (xn.lookup x.1=U NameKind.free))&&decide (x.1∈ns))) &&
 (js.zip ns).all (λq=>decide ((q.2,NameKind.free)∈names)&&decide (XN[q.1]? = U q.2)&&(decide (xn.lookup q.2=U NameKind.cell)||decide (xn.lookup q.2=U NameKind.free)))
theorem gJ.of{X:Cx}{ns:List Str}{scope:P7}(h:Lw X.N X.env.scope.names ns js scope.names=J):gJ X ns js scope:=by
 unfold Lw at h;simp only[PF,Ph,decide_eq_true_eq,R0]at h;obtain⟨h1,h2⟩:=h;refine⟨λx hx e=>?_,λi j x hj hx=>?_,λx hx=>?_⟩
 ·rcases h1 x hx with z|z
  ·exact absurd e z
  ·exact z.1
 ·have hm:(j,x)∈js.zip ns:=by
   have:(js.zip ns)[i]? = U (j,x):=by rw[UU];exact⟨hj,hx⟩
   exact P8 this
  obtain⟨⟨a,b⟩,d⟩:=h2 _ hm;exact⟨a,b,d⟩
 ·rcases h1 _ hx with z|z
  ·exact absurd rfl z
  ·exact z.2
section
variable {X:Cx}{pins:List (S×Obj)}{Z:St}{H:Hp}{s:Ψ}{ns:List Str}{js:List Nat}{scope:P7}
abbrev nc(X:Cx)(scope:P7):List (Str×S):=gH X.env scope.names []
theorem gJ.clos(Θ:gJ X ns js scope)(I:Inv X pins Z H s):closureFor scope X.env=pure (nc X scope):=by
 show(_ >>= λcs=>pure cs)=_
 rw[(AQ (env:=X.env) scope.names [] λx hx hk=>I.ok.has x.1 (Θ.names x hx hk)),pure_bind]
theorem gJ.cap(Θ:gJ X ns js scope)(I:Inv X pins Z H s)(h:(nc X scope).lookup x=U c):(x,NameKind.free)∈scope.names/\X.env.cells.lookup x=U c:=by
 rcases E8 _ _ h with⟨a,b⟩|q
 ·refine⟨a,?_⟩;obtain⟨c',hc⟩:=I.ok.has x (Θ.names _ a rfl);rw[hc]at b ⊢;rw[b];rfl
 ·cases q
theorem gJ.has(Θ:gJ X ns js scope)(I:Inv X pins Z H s)(h:(x,NameKind.free)∈scope.names):∃c,(nc X scope).lookup x=U c:=T3.mp (E9 _ _ (.inr h))
theorem gJ.cl(Θ:gJ X ns js scope)(I:Inv X pins Z H s):wL (nc X scope) ns:=⟨λx y c h1 h2=>I.ok.inj x y c (Θ.cap I h1).2 (Θ.cap I h2).2,λx c h=>Θ.all x (Θ.cap I h).1⟩
open Classical in
def oG(cl:List (Str×S))(h:π):S->Option Obj:=λb=>if ∃x,cl.lookup x=U b then h.get? b else O
theorem Ed{cl:List (Str×S)}(e:oG cl h b=U o):(∃x,cl.lookup x=U b)/\h.get? b=U o:=by
 unfold oG at e;split at e
 ·rename_i z;exact⟨z,e⟩
 ·cases e
theorem MX{cl:List (Str×S)}{h:π}(e:cl.lookup x=U b)(g:h.get? b=U o):oG cl h b=U o:=by
 unfold oG;rw[if_pos ⟨x,e⟩,g]
theorem gJ.fz(Θ:gJ X ns js scope)(I:Inv X pins Z H s)(hfn:∀x,X.fn x=J):Gp X H s (oG (nc X scope) s.heap):=by
 refine⟨λb o e=>(Ed e).2,λb o e=>?_,λb o e=>?_,λb o e=>?_⟩
 all_goals
  obtain⟨⟨x,hx⟩,_⟩:=Ed e;have hc:=(Θ.cap I hx).2
 ·exact I.jr x b hc
 ·exact I.ok.oU x b (hfn x) hc
 ·exact I.oR x b hc
theorem gJ.cells(Θ:gJ X ns js scope)(I:Inv X pins Z H s)(i j:Nat)(x:Str)(v:V)(hj:js[i]? = U j)(hx:ns[i]? = U x)(hv:Z[j]? = U (U v)):∃c oc u,(nc X scope).lookup x=U c/\oG (nc X scope) s.heap c=U oc/\oc.data=.cell (U u)/\RelV v u:=by
 obtain⟨h1,h2,h3⟩:=Θ.got i j x hj hx;obtain⟨c,hc⟩:=Θ.has I h1;obtain⟨m,hm,hl⟩:=I.loc;obtain⟨u,ru,lk⟩:=hl j x v h2 hv (h3.elim (λz=>.inr (.inl z)) λz=>.inr (.inr z))
 rcases lk with⟨k,_⟩|⟨_,c',hc',oc,ho,hd⟩
 ·rcases h3 with z|z<;>(rw[z]at k;cases k)
 ·rw[((Θ.cap I hc).2)]at hc';cases hc';exact⟨c,oc,u,hc,MX hc ho,hd,ru⟩
structure ac9 (H H':Hp) (P:S) (q:Str) (e:μ) (cl:List (Str×S)) (a:S):Prop where
 at':∃o c,H' a=U (.ext (pP a o))/\wC e o q c cl/\H' c=U (.ext (qk c q))
 keep:∀b u,H b=U u->uZ u=Δ->H' b=U u
 tabs:∀b ps,b≠P->H b=U (.cG ps)->H' b=U (.cG ps)
 tab:TabAt H' P q
def afZ(P:S)(q:Str)(e:μ)(cl:List (Str×S)):TE:=λ_ H Q=>TabAt H P q/\∀a H',ac9 H H' P q e cl a->Q (.ref a) H'
theorem abq{params:RV}{body:μ}{pos:Pos}(Θ:gJ X ns js scope)(hcode:X.env.code=.ref c)(hq:X.env.qual++"<lambda>"=q)(hC:PySem.W.codeHdIn X.K c P=J)(hdef:defaultsOf params X.env=([],[])):
  PE X (.Lambda params body scope pos) (afZ P q (.Lambda params body scope pos) (nc X scope)):=λpins s Z H Q I h =>
 XM I hcode hq hC h.1 (Θ.clos I) hdef λa H' s' I' hge N=>⟨.ref a,H',I',rfl,h.2 a H' ⟨N.at',N.keep,N.tabs,N.tab⟩⟩
def af0(cl:List (Str×S))(ns:List Str)(js:List Nat)(sp:Sp)(t:TA):TE:=λZ H Q=>t Z H λvs H1=>wL cl ns->∀F:S->Option Obj,(∀b o,F b=U o->H1 b=O) ->
 (∀(i j:Nat) (x:Str) (v:V),js[i]? = U j->ns[i]? = U x->Z[j]? = U (U v)->∃c oc u,cl.lookup x=U c/\F c=U oc/\oc.data=.cell (U u)/\RelV v u)->sp vs (f7 H1 F) (λv H'=>Q v (cR H' F)) E0
theorem aiw{st:x6}{pos:Pos}(D:Def X.K X.mg x st ps f fd)(G:d9 X.prog X.w X.K X.mg X.base c9 k f fd ps sp)(hr:cK k X.A)(Θ:gJ X ns js scope)(hfn:∀x,X.fn x=J)(ha:PA X (e::es) t)(hg:Gl X x:=by rfl)(hdb:(x==("__debug__":Str))=Δ:=by decide)(he:ε (e::es) X.env=(Δ,eval e X.env)::ε es X.env:=by rfl)(hpl:(OY pos (ε es X.env)).any (·.1)=Δ:=by rfl):
  PE X (.Call (.Name x p) (e::es) [] pos) (af0 (nc X scope) ns js sp t):=by
 intro pins s Z H Q I h;refine S5 (C9 I hg D.at' ?_ hdb);refine Vo (h₀:=X.base) I.ok.mod.mR D.fn.kp (bx (ha pos pins s Z H _ I h) λus s1 ⟨vs,H1,I1,r,q⟩=>⟨I1.fS,?_⟩) he hpl
 exact agZ G hr D.bd I1 (Θ.fz I1 hfn) r (q (Θ.cl I1) _ (λb o e=>(Θ.fz I1 hfn).free b o e) λi j x v h1 h2 h3=>Θ.cells I1 i j x v h1 h2 h3)
end
def getAll(e:Ev):List Nat->Option (List D)
 |[]=>U []
 |j::js=>match e[j]?,getAll e js with
  |some (U d),U l=>U (d::l)
  |_,_=>O
def z7(k:Nat)(m:List D->aa->R D)(d1:af)(E:μ)(ns:List Str)(js:List Nat):af:=λe c=>(d1 e c).bind λx c=>match getAll e js with
 |some l=>(m [x,.lam k E ns l] c).bind λv c=>if noRef v=J then .ok v c else .bad
 |none=>.bad
section
variable {X:Cx}{K:Ξ}{ρ:List S}{H Hf:Hp}{Z:St}
theorem Oe{cl:List (Str×S)}{F:S->Option Obj}(Vv:dN K ρ H e Z)(hV:∀d v,Rel K ρ H d v->Rel K ρ Hf d v)(hf:∀c o,F c=U o->Hf c=U (.cI o (.own 0))):∀(js:List Nat) (ns:List Str) (l:List D),js.length=ns.length->getAll e js=U l ->
  (∀(i j:Nat) (x:Str) (v:V),js[i]? = U j->ns[i]? = U x->Z[j]? = U (U v)->∃c oc u,cl.lookup x=U c/\F c=U oc/\oc.data=.cell (U u)/\RelV v u)->∃xs,jc Hf cl ns xs/\aJ K ρ Hf l xs
 |[],[],l,_,h,_=>by
  unfold getAll at h;cases h;exact⟨[],rfl,rfl⟩
 |j::js,x::ns,l,hl,h,hc=>by
  unfold getAll at h;split at h
  ·rename_i d r hd hr;cases h;obtain⟨v,hv,rv⟩:=Vv.get j d hd;obtain⟨c,oc,u,h1,h2,h3,h4⟩:=hc 0 j x v rfl rfl hv;obtain⟨xs,h5,h6⟩:=Oe Vv hV hf js ns r (Nat.succ.inj hl) hr λi j x v a b d=>hc (i+1) j x v a b d
   exact⟨v::xs,⟨v,xs,c,oc,u,rfl,h1,hf c oc h2,h3,h4,h5⟩,v,xs,rfl,hV d v rv,h6⟩
  ·cases h
 |[],_::_,_,hl,_,_=>by cases hl
 |_::_,[],_,hl,_,_=>by cases hl
def Df(K:Ξ):List (Str×S):=pQ.filterMap λx=>(PySem.W.tabIn K x).map λq=>(x,q.2)
def tR(K:Ξ):Bool:=(Df K).all λa=>(Df K).all λb=>!(a.2==b.2)||(a.1==b.1)
theorem af8(h:tR K=J)(hx:x∈pQ)(hy:y∈pQ)(tx:PySem.W.tabIn K x=U (c,P))(ty:PySem.W.tabIn K y=U (d,P)):x=y:=by
 unfold tR at h;have m:∀{z:Str}{c:S},z∈pQ->PySem.W.tabIn K z=U (c,P)->(z,P)∈Df K:=fun{z c} hz tz=>S6.mpr ⟨z,hz,by rw[tz];rfl⟩
 have:=Ph.mp (Ph.mp h _ (m hx tx)) _ (m hy ty)
 simpa using this
theorem Wd.Ww(W:Wd K ρ H c)(h:H a=U (.cI o u)):a∉ρ:=λm=>by
 obtain⟨ys,e⟩:=W.at' m;rw[e]at h;cases h
theorem aiS{st:x6}{m:List D->aa->R D}{body:μ}{params:RV}{scope:P7}{ns:List Str}{pos:Pos}(D:Def X.K X.mg x st ps f fd)(G:d9 X.prog X.w X.K X.mg X.base c9 k f fd ps (fG X.K 2 m))(hr:cK k X.A)(ZN:bg X e1 d1)(Θ:gJ X ns js scope)(hjn:js.length=ns.length)(hfn:∀x,X.fn x=J)(hy:y∈pQ)(ht:PySem.W.tabIn X.K y=U (c,P))(hap:tR X.K=J)(hcode:X.env.code=.ref c)(hq:X.env.qual++"<lambda>"=yN y)(hC:PySem.W.codeHdIn X.K c P=J)(hdef:defaultsOf params X.env=([],[]):=by rfl)(hg:Gl X x:=by rfl)(hdb:(x==("__debug__":Str))=Δ:=by decide)(hs1:ε [e1,.Lambda params body scope pM] X.env=(Δ,eval e1 X.env)::ε [.Lambda params body scope pM] X.env:=by exact ez rfl)(hs2:ε [.Lambda params body scope pM] X.env=(Δ,eval (.Lambda params body scope pM) X.env)::ε [] X.env:=by exact ez rfl)(hpl:(OY pos (ε [.Lambda params body scope pM] X.env)).any (·.1)=Δ:=by exact ig rfl):
  bg X (.Call (.Name x p) [e1,.Lambda params body scope pM] [] pos) (z7 kk m d1 (.Lambda params body scope pM) ns js) :=
 PE.imp (aiw D G hr Θ hfn (jJ ZN (jJ (abq (c:=c) (P:=P) (q:=yN y) Θ hcode hq hC hdef) lA hs2) hs1) hg hdb hs1 hpl) λZ H Q h=>by
  obtain⟨ρ,e,c0,W,V,pp⟩:=h;refine⟨ρ,e,c0,W,V,post.bind pp λx1 c1 aM H1 v _ W1 X1 r1 p1=>?_⟩
  have V1:=V.mono W X1;refine⟨W1.tab y hy c P ht,λa H' N=>?_⟩
  have agd:qs X.K H':=λz hz d P' tz=>by
   by_cases hP:P'=P
   ·subst hP;rw[af8 hap hz hy tz ht];exact N.tab
   ·exact(W1.tab z hz d P' tz).mono (λps e=>N.tabs P' ps hP e) λc φ e=>N.keep c _ e rfl
  obtain⟨X2,W2⟩:=GF W1 N.keep agd;intro hcl F hF DU;obtain⟨X3,W3⟩:=GG W2 hF;have OJ:=X2.trans X3;split at p1
  ·rename_i l hl;obtain⟨xs,hxs,hrs⟩:=Oe (Hf:=f7 H' F) V1 (λd v r=>Rel.mono W1 OJ d v r) (λc o e=>oH e) js ns l hjn hl DU
   obtain⟨o,cc,ha,hobj,hcc⟩:=N.at';refine⟨aM,[x1,.lam kk _ ns l],c1,W3,⟨v,[.ref a],rfl,Rel.mono W1 OJ x1 v r1,.ref a,[],rfl,⟨a,o,yN y,cc,_,xs,rfl,kH hF ha,hobj,kH hF hcc,hcl,hxs,hrs⟩,rfl⟩,rfl,?_⟩;cases hm:m [x1,.lam kk _ ns l] c1 with
   |bad=>rw[hm]at p1;exact p1.elim
   |ok d c2 =>
    rw[hm,R.aH]at p1;split at p1
    ·rename_i hn;intro ρ' H4 b W4 X4 r4;have fz:∀b o,F b=U o->H4 b=U (.cI o (.own 0)):=λb o e=>(X4.keep b _ (oH e) (W3.Ww (oH e)) rfl).1
     exact p1 ρ' (cR H4 F) b (GD W4 fz) (X2.trans (aa8 X4 hF)) (Rel.cR fz d b (Ko d hn) r4)
    ·exact p1.elim
  ·exact p1.elim
end
def OV(s:Ψ)(H:Hp)(outer:List Env)(cl:List (Str×S))(ns:List Str)(cs:List V):Prop :=
 cs.length=ns.length/\∀(i:Nat) (x:Str),ns[i]? = U x->∃v c u,cs[i]? = U v/\cl.lookup x=U c/\s.heap.IsCell c (U u)/\RelV v u/\H c=O/\c∉frs outer
def sQ(P:ν)(w:τ)(K:Ξ)(mg:Str->Option L)(base:π)(k:Nat)(E:μ)(ns:List Str)(n:Nat)(sp:Sp):Prop :=
 ∀(A:χ) (outer:List Env) (s:Ψ) (H:Hp) (a:S) (o:Obj) (q:Str) (cc:S) (cl:List (Str×S)) (us:List L) (vs cs:List V) (Q:VK),cK k A->sU P w K mg base A outer s H->s.heap.get? a=U o->wC E o q cc cl->s.heap.CodeRec (.ref cc) q->wL cl ns ->
  OV s H outer cl ns cs->Vals vs us->vs.length=n->sp (vs++cs) H Q E0->codeAny (model P w) A (.call (.ref a) ⟨us,[]⟩) (CR c9 outer P w H s Q E0) s
def uW(P:ν)(w:τ)(K:Ξ)(mg:Str->Option L)(base:π)(N:List Str)(qual:Str)(scope:P7)(f:S)(cd:L)(cl:List (Str×S))(A:χ)(outer:List Env)(s:Ψ)(H:Hp):Cx where
 prog:=P
 w:=w
 K:=K
 mg:=mg
 base:=base
 A:=A.deeper (PySem.W.envX qual scope s.heap.objs.size f cd cl)
 N:=N
 s₀:=s
 H₀:=H
 env:=PySem.W.envX qual scope s.heap.objs.size f cd cl
 outer:=outer
 stack:=PySem.W.envX qual scope s.heap.objs.size f cd cl::outer
 ex:=[]
 calm:=J
 fn:=λ_=>Δ
 pn:=[]
 xe:=λ_ _=>False
structure wD (ps ns:List Str) (scope:P7):Prop where
 kind:scope.kind=.function
 co:scope.isCoroutine=Δ
 gen:scope.isGenerator=Δ
 nd:(ps++ns).Nodup
 par:∀x∈ps,scope.names.lookup x=U .local
 cap:∀x∈ns,scope.names.lookup x=U .free
 Kg:∀y∈scope.names,y.2≠.cell
 free:∀y∈scope.names,y.2=.free->y.1∈ns
theorem wD.of{ns:List Str}{scope:P7}(h1:scope.kind=.function)(h2:scope.isCoroutine=Δ)(h3:scope.isGenerator=Δ)(h:(decide (ps++ns).Nodup&&ps.all (λx=>decide (scope.names.lookup x=U NameKind.local))&&ns.all (λx=>decide (scope.names.lookup x=U NameKind.free))&&scope.names.all (λy=>decide (y.2≠NameKind.cell)&&(decide (y.2≠NameKind.free)||decide (y.1∈ns))))=J):wD ps ns scope:=by
 simp only[PF,Ph,decide_eq_true_eq,R0]at h;obtain⟨⟨⟨a,b⟩,c⟩,d⟩:=h;exact⟨h1,h2,h3,a,b,c,λy hy=>(d y hy).1,λy hy e=>(d y hy).2.elim (λz=>absurd e z) id⟩
theorem afh:∀{ps:List Str}{us:List L},x∉ps->(ps.zip us).reverse.lookup x=O:=fun{ps us} h=>by
 cases e:(ps.zip us).reverse.lookup x with
 |none=>rfl
 |some v=>exact absurd (S4 (List.mem_reverse.mp (QU e))).1 h
theorem K6{x:Str}{v:L}:∀{l m:List (Str×L)},l.lookup x=O->(l++m).lookup x=m.lookup x
 |[],_,_=>rfl
 |(y,u)::l,m,h=>by
  rw[Pj]at h;rw[S9,Pj];cases hb:x==y with
  |true=>rw[hb]at h;cases h
  |false=>rw[hb]at h;exact K6 (v:=v) h
theorem K5:∀{l m:List (Str×L)},l.lookup x=U v->(l++m).lookup x=U v
 |(y,u)::l,m,h=>by
  rw[Pj]at h;rw[S9,Pj];cases hb:x==y with
  |true=>rw[hb]at h;exact h
  |false=>rw[hb]at h;exact K5 h
theorem Gv:∀{ps:List Str}{us:List L}{i:Nat},ps.Nodup->ps[i]? = U x->us[i]? = U v->(ps.zip us).reverse.lookup x=U v
 |p::ps,u::us,0,nd,h1,h2=>by
  cases h1;cases h2;rw[UE,VF,K6 (v:=v) (afh (QV.mp nd).1)];simp
 |p::ps,u::us,i+1,nd,h1,h2=>by
  rw[UE,VF];exact K5 (Gv (QV.mp nd).2 (by simpa using h1) (by simpa using h2))
 |[],_,_,_,h1,_=>by simp at h1
 |_::_,[],_,_,_,h2=>by simp at h2
theorem XJ{w:τ}{K:Ξ}{mg:Str->Option L}{base:π}{k:Nat}{params:RV}{body:μ}{scope:P7}{pos:Pos}{ns:List Str}{sp:Sp}(Θ:wD ps ns scope)(hbind:∀(q:Str) (cl:List (Str×S)) (pm cdv ct:L) (us:List L),us.length=ps.length->bindArgs (PySem.W.kla_fn "<lambda>" q params body scope cl pm cdv ct) ⟨us,[]⟩=pure (ps.zip us))(hb:∀(q:Str) (f:S) (cd:L) (cl:List (Str×S)) (A:χ) (outer:List Env) (s:Ψ) (H:Hp) (vs:List V) (Q:VK),cK k (A.deeper (PySem.W.envX q scope s.heap.objs.size f cd cl))->sp vs H Q E0->∃t,PE (uW P w K mg base (ps++ns) q scope f cd cl A outer s H) body t/\t (vs.map U) H Q):
  sQ P w K mg base (k+1) (.Lambda params body scope pos) ns ps.length sp:=by
 intro A outer s H a o q cc cl us vs cs Q hr e0 ho hobj hcd hcl hcap rv hlen oA;obtain⟨pm,ctv,rfl⟩:=hobj;have KX:K.In s.heap:=e0.mod.mR.keeps λb o e=>(e0.bs b o e).1
 have lim:s.heap.NoLimit:=e0.mod.nolimit.keeps λb o e=>(e0.bs b o e).1
 refine PySem.W.kla_callFunE hr.depth ho rfl Θ.co Θ.gen rfl hcd ?_;rw[hbind q cl pm (.ref cc) ctv us (by rw[<-rv.length];exact hlen)]
 refine dD (wpAny_newFunctionEnv Θ.Kg (λy hy=>Θ.par y.1 (S4 hy).1) (λh₁ hns f6=>⟨lim.fresh _ f6,?_⟩) Θ.kind)
 show codeAny _ _ (.expr body (PySem.W.envX q scope s.heap.objs.size a (.ref cc) cl)) _ _;have hk₁:∀b ob,s.heap.get? b=U ob->h₁.get? b=U ob:=λb ob e=>f6.extBut b ob (O0 (Iv e)) (H8 _ e)
 obtain⟨t,ht,hq⟩:=hb q a (.ref cc) cl A outer s H (vs++cs) Q (hr.deeper _) oA;have mF:∀b:S,b∉(uW P w K mg base (ps++ns) q scope a (.ref cc) cl A outer s H).ex:=λb z=>absurd (show b∈([]:List S)from z) (by simp)
 have MP:∀x c,cl.lookup x=U c->∃v u,s.heap.IsCell c (U u)/\RelV v u/\H c=O:=λx c e=>by
  obtain⟨i,hi,ei⟩:=Qy.mp (hcl.2 x c e);obtain⟨v,c',u,_,h2,h3,h4,h5,_⟩:=hcap.2 i x (by rw[O1 hi,ei])
  rw[e]at h2;cases h2;exact⟨v,u,h3,h4,h5⟩
 have LF:∀{c:S}{u:Option L},s.heap.IsCell c u->h₁.IsCell c u:=fun{c u} ⟨o,e,d⟩=>⟨o,hk₁ c o e,d⟩
 have I:Inv (uW P w K mg base (ps++ns) q scope a (.ref cc) cl A outer s H) [] ((vs++cs).map U) H {s with heap:=h₁,toks:=s.toks+(ps.zip us).length}:=by
  refine⟨⟨e0.mod,Θ.kind,rfl,rfl,AP _,hcl.1,λx hx=>?_,λx c h=>absurd h (by simp[uW]),λ_=>hr.hd,Around.frames_deeper e0.frames,.inr ⟨rfl,rfl⟩,λb z=>absurd z (mF b),e0.bs,e0.jb,λb _ _=>mF b,λb z=>absurd z (mF b),e0.iK,e0.lN⟩,
   rfl,e0.bare,Un.kept hk₁,⟨_,hns,λi x v h1 h2 h3=>?_⟩,λx c h=>?_,e0.hok.fresh (AP _),λx c h=>?_,λp hp=>absurd (show p∈([]:List (S×Obj))from hp) (by simp),e0.hok.kept hk₁,?_⟩
  ·have hx:scope.names.lookup x=U .cell\/scope.names.lookup x=U .free:=hx
   rcases hx with hx|hx
   ·exact absurd rfl (Θ.Kg _ (QU hx))
   ·have hm:=Θ.free _ (QU hx) rfl;obtain⟨i,hi,ei⟩:=Qy.mp hm;obtain⟨v,c',u,_,h2,_⟩:=hcap.2 i x (by rw[O1 hi,ei])
    exact⟨c',h2⟩
  ·have h1:(ps++ns)[i]? = U x:=h1;have h2':(vs++cs)[i]? = U v:=by
    rw[PK]at h2;cases e:(vs++cs)[i]? with
    |none=>rw[e]at h2;cases h2
    |some b=>rw[e]at h2;cases h2;rfl
   by_cases hi:i<ps.length
   ·rw[Pn hi]at h1;rw[Pn ∅]at h2'
    obtain⟨u,hu,ru⟩:=rv.get h2';refine⟨u,ru,.inl ⟨Θ.par x (P8 h1),?_⟩⟩;exact Gv ((Rh.mp Θ.nd).1) h1 hu
   ·rw[QT ∅]at h1
    rw[QT ∅,hlen]at h2'
    obtain⟨v',c,u,e1,e2,e3,e4,_⟩:=hcap.2 _ x h1;rw[h2']at e1;cases e1;exact⟨u,e4,.inr ⟨.inr (Θ.cap x (P8 h1)),c,e2,LF e3⟩⟩
  ·obtain⟨v,u,h3,_⟩:=MP x c h;exact⟨_,LF h3⟩
  ·obtain⟨v,u,_,_,h5⟩:=MP x c h;exact h5
  ·show((vs++cs).map U).length=(ps++ns).length;rw[O2,Pf,Pf,hlen,hcap.1]
 refine PySem.W.kla_codeExpr (Pg (ht [] _ _ H Q I hq) (λu s' hs=>?_) λe s' hs=>False.elim hs)
 obtain⟨v,H',Γ,ru,q⟩:=hs;exact⟨v,H',Γ.os,Γ.bare,Γ.base,Γ.hok,ru,q⟩
section
variable {M:Model}{A:χ}{E:L->Ψ->Prop}{s:Ψ}{env:Env}{pos:Pos}{Q:L->Ψ->Prop}
theorem acz{o:Obj}{rest:List μ}(hd:o.data=.func fd)(h:wpAny M A (spliced (OY pos (ε (e::rest) env))) (λvs s₁=>s₁.heap.get? a=U o/\wpAny M A (call (.ref a) ([]++vs)) Q E s₁) E s)(he:ε (e::rest) env=(Δ,eval e env)::ε rest env)(hplain:(OY pos (ε rest env)).any (·.1)=Δ):
  wpAny M A (callWith pos (.ref a) [] (OY pos (ε (e::rest) env)) []) Q E s:=by
 rw[he]at h ⊢;refine PySem.W.callWith_of (P:=λh=>h.get? a=U o) (by show((Δ||(OY pos _).any (·.1))||false)=Δ;rw[hplain];rfl) (λh e=>⟨.frame,.inl rfl,?_⟩) (PySem.Calls.evalArgs_plain h)
 obtain⟨oc,od,dt,sl⟩:=o;cases hd;exact(PySem.W.Looks.ld e).andThen PySem.W.Looks.now
end
section
variable {X:Cx}{pins:List (S×Obj)}{Z:St}{H H':Hp}{s s':Ψ}{F:S->Option Obj}
theorem afu(hok:cW P w H h)(hF:∀b o,F b=U o->H b=U (.cI o (.own 0))):cW P w (cR H F) h:=λb u e=>by
 cases hb:F b with
 |some o=>rw[qK hb]at e;cases e
 |none =>
  rw[jD hb]at e;exact(hok b u e).stay (λ_ _ _ z=>z) (λc z=>iU hF z λ_ q=>nomatch q) λc xs z=>iU hF z λ_ q=>nomatch q
theorem tM(h:H b=O):cR H F b=O:=by
 unfold cR;split<;>first|rfl|exact h
theorem aaN{Ex:μ}{ns:List Str}{cl:List (Str×S)}{cs:List V}(G:sQ X.prog X.w X.K X.mg X.base k Ex ns n sp)(hr:cK k X.A)(I:Inv X pins Z H s)(ha:H a=U (.ext (pP a o)))(hobj:wC Ex o q cc cl)(hcc:H cc=U (.ext (qk cc q)))(hcl:wL cl ns)(hcs:jc H cl ns cs)(r:Vals vs us)(hn:vs.length=n)(h:∀F:S->Option Obj,(∀b o,F b=U o->H b=U (.cI o (.own 0)))->sp (vs++cs) (cR H F) (λv H'=>(∀b o,F b=U o->H' b=O)->Q v (f7 H' F)) E0):
  wpAny (model X.prog X.w) X.A (call (.ref a) us) (EP X pins Z Q) X.xe s:=by
 have hF:∀b ob,oG cl s.heap b=U ob->H b=U (.cI ob (.own 0)):=λb ob e=>by
  obtain⟨⟨x,hx⟩,hg⟩:=Ed e;obtain⟨i,hi,ei⟩:=Qy.mp (hcl.2 x b hx);obtain⟨v,c,oc,u,_,h2,h3,_⟩:=hcs.get (i:=i) (x:=x) (by rw[O1 hi,ei])
  rw[hx]at h2;cases h2;have:=(I.hok b _ h3).1;rw[hg]at this;cases this;exact h3
 generalize hFd:oG cl s.heap=F at hF
 have e:=I.Eu;have nf:∀b ob,F b=U ob->b∉frs X.stack:=λb ob z hb=>by
  have:=I.BB b hb;rw[hF b ob z]at this;cases this
 have cap:OV s (cR H F) X.stack cl ns cs:=by
  refine⟨hcs.length,λi x hx=>?_⟩
  obtain⟨v,c,oc,u,h1,h2,h3,h4,h5⟩:=hcs.get hx;have hg:=(I.hok c _ h3).1;have hf:F c=U oc:=by rw[<-hFd];exact MX h2 hg
  exact⟨v,c,u,h1,h2,⟨oc,hg,h4⟩,h5,qK hf,nf c oc hf⟩
 refine Ry (QW (G X.A X.stack s (cR H F) a o q cc cl us vs cs _ hr (⟨e.frames,e.mod,λb o h=>⟨(e.bs b o h).1,tM (e.bs b o h).2⟩,e.jb,e.iK,λb hb=>tM (e.lN b hb),afu I.hok hF,e.bare⟩) (I.hok a _ ha).1 hobj (I.hok cc _ hcc).1 hcl cap r hn (h F hF)) λrr s' hq=>?_)
 cases rr with
 |error e=>exact False.elim hq
 |ok fl =>
  cases fl with
  |next=>exact False.elim hq
  |brk=>exact False.elim hq
  |cont=>exact False.elim hq
  |ret u =>
   obtain⟨v,H',os,bare,un,hok,rv,q⟩:=hq;have gF:=λb ob z=>(I.hok b _ (hF b ob z)).1
   have hn':=λb ob z=>un.free b ob (gF b ob z) (qK z) (by simp)
   have Fn:∀{b:S},H b=O->F b=O:=fun{b} z=>by
    cases e:F b with
    |none=>rfl
    |some ob=>rw[hF b ob e]at z;cases z
   have old:∀{b:S}{u:HO},H b=U u->(∀o,u≠.cI o (.own 0))->F b=O/\cR H F b=U u:=fun{b u} z nq=>by
    cases e:F b with
    |none=>exact⟨rfl,by rw[jD e];exact z⟩
    |some ob=>rw[hF b ob e]at z;exact absurd (P0 z).symm (nq ob)
   have Bu:Un (frs X.stack) [] H (f7 H' F) s.heap s'.heap:=by
    refine⟨λb o e n hb hx=>un.keep b o e (tM n) hb hx,λb o e n hb hx=>un.slot b o e (tM n) hb hx,λb o e n hx=>?_,un.there,λb xs e=>?_,λb o u e=>?_,λb ps e=>?_⟩
    ·rw[jU (Fn n)];exact un.free b o e (tM n) hx
    ·obtain⟨h1,h2⟩:=old e λ_ z=>nomatch z
     rw[jU h1];exact un.tups b xs h2
    ·cases z:F b with
     |some ob =>
      have:=hF b ob z;rw[e]at this;cases this;exact oH z
     |none=>rw[jU z];exact un.jq b o u (by rw[jD z];exact e)
    ·obtain⟨h1,h2⟩:=old e λ_ z=>nomatch z
     rw[jU h1];exact un.jE b ps h2
   exact⟨v,f7 H' F,I.EN os Bu (M0 hok hn' (λb ob z=>un.keep b ob (gF b ob z) (qK z) (nf b ob z) (by simp))) bare λb z=>absurd z (by simp),rv,q hn'⟩
end
open Classical in
def qj(i n:Nat)(cG:List (μ×List Str×(List D->aa->R D)))(a:aj):af:=λe c=>match e[i]? with
 |some (U (.lam k E ns l))=>match cG[k]? with
  |some t=>if E=t.1/\ns=t.2.1 then(a e c).bind λxs c=>if xs.length=n/\fK xs=J/\fK l=J then t.2.2 (xs++l) c else .bad else .bad
  |none=>.bad
 |_=>.bad
theorem aiR{X:Cx}(i:Nat){cG:List (μ×List Str×(List D->aa->R D))}{pos:Pos}(hT:∀t∈cG,∃k,sQ X.prog X.w X.K X.mg X.base k t.1 t.2.1 n (fG X.K (n+t.2.1.length) t.2.2)/\cK k X.A)(ha:gx X (e::es) da)(hN:X.N[i]? = U x:=by rfl)(hv:wu X.env.scope x:=by first|exact Or.inl rfl|exact Or.inr (Or.inl rfl)|exact Or.inr (Or.inr rfl))(hd:(x==("__debug__":Str))=Δ:=by decide)(hcd:(x==("__classdict__":Str))=Δ:=by decide)(he:ε (e::es) X.env=(Δ,eval e X.env)::ε es X.env:=by exact ez rfl)(hpl:(OY pos (ε es X.env)).any (·.1)=Δ:=by exact ig rfl):
  bg X (.Call (.Name x p) (e::es) [] pos) (qj i n cG da):=by
 intro pins s Z H Q I h;obtain⟨ρ,ev,c,W,Vv,q⟩:=h;unfold qj at q;split at q
 ·rename_i kk Ex ns l hf;obtain⟨v,hσ,rl⟩:=Vv.get i _ hf;obtain⟨a,o,qn,cc,cl,cs,rfl,ha1,hobj,hcc,hcl,hcs,hrs⟩:=id rl;split at q
  ·rename_i t ht;split at q
   ·rename_i Za;obtain⟨rfl,rfl⟩:=Za;obtain⟨k,G,hr⟩:=hT _ (P8 ht);refine S5 (bx (Cg hN hv hd hcd pins s Z H (λv H1=>v=.ref a/\H1=H) I ⟨_,hσ,rfl,rfl⟩) λu s1 ⟨v,H1,I1,r1,q1⟩=>?_)
    obtain⟨rfl,rfl⟩:=q1;cases r1;have hdata:∃fd,o.data=.func fd:=by
     cases hE:t.1 with
     |Lambda params body scope lp =>
      rw[hE]at hobj;obtain⟨pm,ctv,rfl⟩:=hobj;exact⟨_,rfl⟩
     |_=>rw[hE]at hobj;exact hobj.elim
    obtain⟨fd,hdata⟩:=hdata;refine acz hdata (bx (ha pos pins s1 Z H1 (λvs H2=>∃aM xs c1,Wd X.K aM H2 c1/\Ext ρ H1 aM H2/\aJ X.K aM H2 xs vs/\xs.length=n/\fK xs=J/\fK l=J/\post X.K (Rel X.K) (t.2.2 (xs++l) c1) aM H2 Q) I1 ⟨ρ,ev,c,W,Vv,post.bind q λxs c1 aM H2 vs _ W1 X1 r1 p1=>?_⟩) λus s2 ⟨vs,H2,I2,r2,aM,xs,c1,W1,X1,rx,hl,n1,n2,p1⟩=>?_) he hpl
    ·split at p1
     ·rename_i hc;exact⟨aM,xs,c1,W1,X1,r1,hc.1,hc.2.1,hc.2.2,p1⟩
     ·exact p1.elim
    ·obtain⟨a',o',qn',cc',cl',cs',ea,ha2,Zr,ZR,ZP,My,Mj⟩:=Rel.mono W X1 _ _ rl;cases ea;have eo:o=o':=by
      have g1:=(I2.hok a _ ((X1.keep a _ ha1 (λm=>by obtain⟨ys,z⟩:=W.at' m;rw[z]at ha1;cases ha1) rfl).1)).1
      have g1':=g1;have MW:s2.heap.get? a=U o':=((I2.hok a _ ha2).1);rw[g1']at MW;exact P0 MW
     subst eo;refine⟨(I2.hok a _ ha2).1,?_⟩;refine aaN (cs:=cs') G hr I2 ha2 Zr ZR ZP My r2 (by rw[rx.length];exact hl) λF hF=>?_
     refine⟨aM,xs++l,c1,GD W1 hF,aJ.append (aJ.cR hF xs vs n1 rx) (aJ.cR hF l cs' n2 Mj),by rw[Pf,hl,<-Mj.length,My.length],?_⟩
     cases hm:t.2.2 (xs++l) c1 with
     |bad=>rw[hm]at p1;exact p1.elim
     |ok d c2 =>
      rw[hm]at p1;intro ρ' H4 b W4 X4 r4 Mq;obtain⟨X5,W5⟩:=GG W4 Mq;exact p1 ρ' (f7 H4 F) b W5 (aa9 X4 W4 hF Mq) (Rel.mono W4 X5 d b r4)
   ·exact q.elim
  ·exact q.elim
 ·exact q.elim
@[simp] theorem afP(i n:Nat)(cG:List (μ×List Str×(List D->aa->R D)))(a:aj)(e:Ev)(c:aa){Ex:μ}{ns:List Str}{m:List D->aa->R D}(h:e[i]? = U (U (.lam k Ex ns l)))(ht:cG[k]? = U (Ex,ns,m)):qj i n cG a e c=(a e c).bind λxs c=>if xs.length=n/\fK xs=J/\fK l=J then m (xs++l) c else .bad:=by
 unfold qj;rw[h];dsimp only;rw[ht];dsimp only;rw[if_pos ⟨rfl,rfl⟩]
def Dg(d:af):List D->aa->R D:=λxs c=>d (xs.map U) c
theorem ahU{K:Ξ}{H:Hp}{xs:List D}(r:aJ K ρ H xs vs):dN K ρ H (xs.map U) (vs.map U):=by
 refine⟨λi d h=>?_,by rw[O2,O2,r.length]⟩
 rw[PK]at h;cases e:xs[i]? with
 |none=>rw[e]at h;cases h
 |some y =>
  rw[e]at h;cases h;obtain⟨v,hv,rv⟩:=r.get e;exact⟨v,by rw[PK,hv];rfl,rv⟩
theorem XQ{w:τ}{K:Ξ}{mg:Str->Option L}{base:π}{k:Nat}{params:RV}{body:μ}{scope:P7}{pos:Pos}{ns:List Str}(Θ:wD ps ns scope)(hbind:∀(q:Str) (cl:List (Str×S)) (pm cdv ct:L) (us:List L),us.length=ps.length->bindArgs (PySem.W.kla_fn "<lambda>" q params body scope cl pm cdv ct) ⟨us,[]⟩=pure (ps.zip us))(hb:∀(q:Str) (f:S) (cd:L) (cl:List (Str×S)) (A:χ) (outer:List Env) (s:Ψ) (H:Hp),cK k (A.deeper (PySem.W.envX q scope s.heap.objs.size f cd cl))->bg (uW P w K mg base (ps++ns) q scope f cd cl A outer s H) body d):
  sQ P w K mg base (k+1) (.Lambda params body scope pos) ns ps.length (fG K (ps.length+ns.length) (Dg d)) :=
 XJ Θ hbind λq f cd cl A outer s H vs Q hr h=>⟨_,hb q f cd cl A outer s H hr,by
  obtain⟨ρ,xs,c,W,r,hl,p⟩:=h;exact⟨ρ,xs.map U,c,W,ahU r,p⟩⟩
section
variable {P:ν}{w:τ}{K:Ξ}{mg:Str->Option L}{base:π}
theorem aaO{st:x6}{own:Bool}(F:l5 K x x st f fd)(hn:υ K ι x=U (U (.ref f)))(Θ:iS N ps (cZ st))(hN:N.length=n)(hm:ps.length=m)(hb:∀(cdv:L) (A:χ) (outer:List Env) (s:Ψ) (H:Hp) (E:XK),(∀c P,PySem.W.tabIn K x=U (c,P)->cdv=.ref c)->cK k (A.deeper (envOfC x (cZ st) s.heap.objs.size f cdv))->bI (lU c9 P w K mg base N x (cZ st) f cdv A outer s H E).lD (iO st) d):
  d9 P w K mg base c9 (k+1) f fd ps (fG K m (bJ n own d)):=by
 obtain⟨oc,od,kV,doc,pm,an,Af,ct,osl,hfd,lk,hcd⟩:=F.ex;have key:∀(cdv:L),(∀(A:χ) (outer:List Env) (s:Ψ) H E,cK k (A.deeper (envOfC x (cZ st) s.heap.objs.size f cdv))->bI (lU c9 P w K mg base N x (cZ st) f cdv A outer s H E).lD (iO st) d)->cdv=Af->d9 P w K mg base c9 (k+1) f fd ps (fG K m (bJ n own d)):=by
  intro cdv hb' e;subst e;subst hN;subst hm;subst hfd;refine Nh lk hcd Θ (λvs H Q E h=>?_) λA outer s H vs Q E hr h=>⟨_,gI.lD (hb' A outer s H E hr),?_⟩
  ·obtain⟨ρ,xs,c,W,r,hl,p⟩:=h;exact r.length.trans hl
  ·obtain⟨ρ,xs,c,W,r,hl,p⟩:=h;refine⟨ρ,bW N.length xs,c,W,dN.start r,post.bind p λfl c1 aM H1 b _ W1 X1 r1 p1=>?_⟩
   cases fl with
   |nx e1 =>
    obtain⟨σ1,rfl,V1⟩:=r1;exact zX (v:=.aF) (x:=.aF) (H1:=H1) W W1 X1 rfl (by
     unfold bJ at p;exact id (α:=post K _ (cH own c.length .aF c1) ρ H Q) (by
      rename_i he;rw[he]at p;exact p))
   |rt d =>
    obtain⟨v,rfl,V1⟩:=r1;exact zX (x:=v) (H1:=H1) W W1 X1 V1 (by
     unfold bJ at p;rename_i he;rw[he]at p;exact p)
   |bk e1=>exact p1.elim
   |ct e1=>exact p1.elim
 refine key Af (λA outer s H E hr=>hb Af A outer s H E (λc P' ht=>?_) hr) rfl
 unfold PySem.W.tabIn at ht;rw[hn]at ht;dsimp only at ht;rw[lk,hfd]at ht;dsimp only at ht;cases Af with
 |ref c' =>
  dsimp only at ht;split at ht
  ·split at ht
   ·cases ht;rfl
   ·cases ht
  ·cases ht
 |_=>cases ht
end
def ac7(H:Hp)(ts:List S):Prop:=∀b,H b=O\/(∃o xs,H b=U (.cI o (.lst xs)))\/(b∈ts/\H b=U (.cG #[]))
theorem XI{P:ν}{w:τ}{K:Ξ}{mg mb:Str->Option L}{fa a:S}{fd:PU}{x:Str}{sp:Sp}{s₁:Ψ}{vs:List L}{ns:List Int}{ts:List (S×S)}(KX:K.In s₁.heap)(hns:s₁.heap.Ns ι mg)(hb:s₁.heap.Ns builtinsNs mb)(ZU:∀x:Str,x≠"__name__"->mb x=bootBuiltins x)(hlim:s₁.heap.NoLimit)(hbm:∃bm ob,mg "__builtins__"=U (.ref bm)/\bm≠builtinsNs/\s₁.heap.get? bm=U ob/\ob.cls=.type "module"/\ob.dict=U builtinsNs/\ob.data=.plain)(hg:s₁.gens=#[])(ha:s₁.heap.get? a=U {cls:=.type "list",data:=.seq vs.toArray})(hi:QK vs ns)(hl:ns.length<=Ω)(hr:cK k callerA)(DX:∀q∈ts,PySem.W.codeHdIn K q.1 q.2=J/\s₁.heap.get? q.2=U (PySem.W.tabObj #[]))(Z7:PySem.W.noTabs K=J)(F:∀base:π,K.In base->base.Ns ι mg->d9 P w K mg base c9 k fa fd [x] sp)(hbind:∀(s:Ψ) (u:L),RU s fd ⟨[u],[]⟩ [(x,u)])(oA:∀H:Hp,(∀q∈ts,H q.2=U (.cG #[]))->bf K H a (ns.map V.int)->sp [.ref a] H (λv _=>v=.bl J) λ_ _ _=>False):
  codeAny (model P w) callerA (.call (.ref fa) ⟨[.ref a],[]⟩) (λr s'=>r=.ok (.ret (.bool J))/\OldK s₁.heap s'.heap/\s'.os=s₁.os/\Qo s'.gens) s₁:=by
 have rv:=GN hi;have Xs:=hi.length;have oq:∀b,b∈ts.map (·.2)->s₁.heap.get? b=U (PySem.W.tabObj #[]):=λb h=>by
  obtain⟨q,hq,rfl⟩:=K1.mp h;exact(DX q hq).2
 have nat:a∉ts.map (·.2):=λh=>by have:=oq a h;rw[ha]at this;cases this
 have core:∀H:Hp,ac7 H (ts.map (·.2))->(∀q∈ts,H q.2=U (.cG #[]))->bf K H a (ns.map V.int)->cW P w H s₁.heap->(∀b,H b≠O->b=a\/b∈ts.map (·.2))->(H a≠O->K.lookup a=O) ->
   codeAny (model P w) callerA (.call (.ref fa) ⟨[.ref a],[]⟩) (λr s'=>r=.ok (.ret (.bool J))/\OldK s₁.heap s'.heap/\s'.os=s₁.os/\Qo s'.gens) s₁:=by
  intro H hO hT hS hok hA hK;have EW:∀{b:S}{o:Obj},s₁.heap.get? b=U o->H b=O->(mX s₁.heap H).get? b=U o:=λe n=>ZG e n
  have Wt:∀{b:S}{o:Obj},s₁.heap.get? b=U o->o.cls≠.type "list"->o.cls≠.none->H b=O:=fun{b o} e d1 d2=>by
   cases q:H b with
   |none=>rfl
   |some u =>
    rcases hA b (by rw[q];simp)with e'|e'
    ·subst e';rw[ha]at e;cases e;exact absurd rfl d1
    ·rw[oq b e']at e;cases e;exact absurd rfl d2
  have mF:∀{b:S}{o:Obj}{es:Array DictEntry}{ep:Nat},s₁.heap.get? b=U o->o.data=.dict es ep->H b=O:=fun{b o es ep} e d=>by
   cases q:H b with
   |none=>rfl
   |some u =>
    rcases hA b (by rw[q];simp)with e'|e'
    ·subst e';rw[ha]at e;cases e;have d':Data.seq vs.toArray _=Data.dict es ep:=d;cases d'
    ·rw[oq b e']at e;cases e;have d':Data.fields #[]=Data.dict es ep:=d;cases d'
  have ym:∀{b:S}{m:Str->Option L},s₁.heap.Ns b m->(mX s₁.heap H).Ns b m:=fun{b m} ⟨o,es,ep,e,d,r⟩=>⟨o,es,ep,EW e (mF e d),d,r⟩
  have MK:K.In (mX s₁.heap H):=λb o e=>EW (KX b o e) (by
   cases q:H b with
   |none=>rfl
   |some u =>
    rcases hA b (by rw[q];simp)with e'|e'
    ·subst e';rw[hK (by rw[q];simp)]at e;cases e
    ·have h1:=KX b o e;rw[oq b e']at h1;cases h1;have h2:=Ph.mp Z7 (b,_) (PySem.W.mem_of_lookupK e);exact absurd (show Δ=J from h2) PM)
  have hM:Mod K mg (mX s₁.heap H):=⟨MK,ym hns,⟨mb,ym hb,ZU⟩,let⟨mc,h1,h2⟩:=hlim;⟨mc,ym h1,h2⟩,let⟨bm,ob,b1,b2,b3,b4,b5⟩:=hbm;⟨bm,ob,b1,b2,EW b3 (Wt b3 (by rw[b4];simp) (by rw[b4];simp)),b4,b5⟩⟩
  have e0:sU P w K mg (mX s₁.heap H) callerA [] s₁ H:=⟨rfl,hM,λb o e=>ajX e,R1 (ZF _ _),trivial,λb hb=>absurd (show b∈([]:List S)from hb) (by simp),hok,.of_eq hg⟩
  refine QW ((F _ MK (ym hns)).run callerA [] s₁ H ⟨[.ref a],[]⟩ [.ref a] [.ref a] _ _ hr e0 (hbind s₁ (.ref a)) (.cons rfl .nil) (oA H hT hS)) λr s' h=>?_
  cases r with
  |error e=>exact False.elim h
  |ok fl =>
   cases fl with
   |next=>exact False.elim h
   |brk=>exact False.elim h
   |cont=>exact False.elim h
   |ret u =>
    obtain⟨v,H',os,bare,un,Mn,r',q⟩:=h;have q':v=.bl J:=q;subst q';obtain rfl:u=Value.bool J:=r';have main:∀b o,s₁.heap.get? b=U o->s'.heap.get? b=U o\/(b∈ts.map (·.2)/\o=PySem.W.tabObj #[]/\∃ps,s'.heap.get? b=U (PySem.W.tabObj ps)):=λb o e=>by
     rcases hO b with z|⟨ob,xs,z⟩|⟨hm,z⟩
     ·exact .inl (un.keep b o e z (by intro z;exact absurd (show b∈([]:List S)from z) (by simp)) (by simp))
     ·have z2:=un.jq b ob _ z;obtain⟨e1,_⟩:=hok b _ z;obtain⟨e2,_⟩:=Mn b _ z2;rw[e]at e1;cases e1;exact .inl e2
     ·obtain⟨more,z2⟩:=un.jE b _ z;have e2:s'.heap.get? b=U (PySem.W.tabObj (#[]++more)):=Mn b _ z2;have e1:=oq b hm;rw[e]at e1;cases e1;exact .inr ⟨hm,rfl,_,e2⟩
    refine⟨rfl,⟨λb o e=>?_,λb o e=>?_⟩,os,bare⟩
    ·rcases main b o e with z|⟨hm,rfl,ps,z⟩
     ·exact .inl z
     ·obtain⟨q,hq,rfl⟩:=K1.mp hm;have hC:=VH KX (DX q hq).1;exact .inr (.inl ⟨(hC.tab (DX q hq).2).isCodeTable,rfl,#[],ps,rfl,by rw[Array.empty_append];exact z⟩)
    ·rcases main b o e with z|⟨_,_,ps,z⟩
     ·exact⟨o,z⟩
     ·exact⟨_,z⟩
 have adO:∀(H:Hp) b,H b=U (.cG #[])->b∈ts.map (·.2)->e9 P w H s₁.heap b (.cG #[]):=λH b _ h=>oq b h
 cases hk:K.lookup a with
 |some o =>
  have e:=KX a o hk;rw[ha]at e;cases e
  let H:Hp:=λb=>if b∈ts.map (·.2)then U (.cG #[])else O
  refine core H (λb=>?_) (λq hq=>if_pos (VE hq)) (.inr ⟨_,vs.toArray,_,hk,rfl,rfl,rfl,by rw[O3,Xs];exact hl,by simpa using rv⟩) (λb u z=>?_) (λb z=>?_) λz=>absurd (if_neg nat) z
  ·by_cases hb:b∈ts.map (·.2)
   ·exact .inr (.inr ⟨hb,if_pos hb⟩)
   ·exact .inl (if_neg hb)
  ·by_cases hb:b∈ts.map (·.2)
   ·have z':=(if_pos hb).symm.trans z;cases z';exact oq b hb
   ·have z':=(if_neg hb).symm.trans z;cases z'
  ·by_cases hb:b∈ts.map (·.2)
   ·exact .inr hb
   ·exact absurd (if_neg hb) z
 |none =>
  let H:Hp:=λb=>if b∈ts.map (·.2)then U (.cG #[])else if b=a then U (.cI {cls:=.type "list",data:=.seq vs.toArray} (.lst (ns.map V.int)))else O
  have Ha:H a=U _:=(if_neg nat).trans (if_pos rfl);refine core H (λb=>?_) (λq hq=>if_pos (VE hq)) (.inl (.inr ⟨_,Ha⟩)) (λb u z=>?_) (λb z=>?_) λ_=>hk
  ·by_cases hb:b∈ts.map (·.2)
   ·exact .inr (.inr ⟨hb,if_pos hb⟩)
   ·by_cases hb2:b=a
    ·exact .inr (.inl ⟨_,_,(if_neg hb).trans (if_pos hb2)⟩)
    ·exact .inl ((if_neg hb).trans (if_neg hb2))
  ·by_cases hb:b∈ts.map (·.2)
   ·have z':=(if_pos hb).symm.trans z;cases z';exact oq b hb
   ·by_cases hb2:b=a
    ·have z':=((if_neg hb).trans (if_pos hb2)).symm.trans z;cases z';subst hb2;exact⟨ha,by rw[O2];exact hl,vs,_,rv,ha⟩
    ·have z':=((if_neg hb).trans (if_neg hb2)).symm.trans z;cases z'
  ·by_cases hb:b∈ts.map (·.2)
   ·exact .inr hb
   ·by_cases hb2:b=a
    ·exact .inl hb2
    ·exact absurd ((if_neg hb).trans (if_neg hb2)) z
def Bw(K:Ξ)(ts:List (S×S)):Bool:=pQ.all λx=>match PySem.W.tabIn K x with
 |some q=>decide (q∈ts)
 |none=>J
theorem age{K:Ξ}{H:Hp}(h:Bw K ts=J)(hT:∀q∈ts,H q.2=U (.cG #[])):qs K H:=λx hx c P e=>by
 have:=Ph.mp h x hx;rw[e]at this;exact⟨#[],hT _ (of_decide_eq_true this),trivial,λpos cv z=>by cases z⟩
theorem afx{l:Us}{loose:List Str}{XP:(Str->Option L)->π->Prop}{YP:τ->π->Prop}{d:DefRec}{K:Params->Ξ}{m:List D->aa->R D}(hn:l.most=U n)(hn2:n<=Ω)(hdf:d.params.defaults=[])(hr:cK k callerA)(hY:∀(w:τ) (h:π),YP w h->(K w.params).In h/\∀q∈ts,h.get? q.2=U (PySem.W.tabObj #[]))(hK:∀p,(ts.all λq=>PySem.W.codeHdIn (K p) q.1 q.2)=J/\PySem.W.noTabs (K p)=J/\Bw (K p) ts=J)(F:∀(w:τ) (mg:Str->Option L) (fa:S) (h:π),(K w.params).In h->h.Ns ι mg->mg d.name=U (.ref fa) ->
   ∃fd:PU,(∀(s:Ψ) (u:L),RU s fd ⟨[u],[]⟩ [(x,u)]) /\
    ∀base:π,(K w.params).In base->base.Ns ι mg->d9 l.prog w (K w.params) mg base c9 k fa fd [x] (fG (K w.params) 1 m))(hm:∀ns:List Int,ns.length<=n->∃c,m [.bK ns] []=.ok (.bl J) c):
  PySem.W.WalkO q loose XP YP l.row.toRowW d [] (λf vs=>PySem.call f vs):=by
 refine OW.acO hn hdf λw s₀ s₁ mg mb fa o pm cd doc a vs ns G Y ho hd hcd hmg hobj hints hlen hg=>?_
 obtain⟨KX,hT⟩:=hY w _ Y;obtain⟨fd,hb,hF⟩:=F w mg fa _ KX G.T.g hmg;obtain⟨k1,k2,k3⟩:=hK w.params;refine XI KX G.T.g G.T.b G.T.builtins G.T.nolimit G.T.bmain hg hobj hints (PJ hlen hn2) hr (λq hq=>⟨Ph.mp k1 q hq,hT q hq⟩) k2 hF hb λH h1 h2=>?_
 obtain⟨c,hc⟩:=hm ns hlen;refine⟨[],[.bK ns],[],⟨.nil,rfl,λk a cl e=>(by cases e),age k3 h1⟩,⟨.ref a,[],rfl,⟨a,rfl,?_⟩,rfl⟩,rfl,?_⟩
 ·rcases h2 with hS|hS
  ·exact .inl ⟨hS,by simp⟩
  ·exact .inr (.inr hS)
 ·rw[hc];exact λρ' H' b _ _ r=>r
structure GdN (ξ:Nat) (l:List (Nat×Int)):Prop where
 nd:(l.map (·.1)).Nodup
 lt:∀p∈l,p.1<ξ
def yP:HO->Bool
 |.dK _=>J
 |.cI _ (.dK _)=>J
 |_=>Δ
section
variable {K:Ξ}{ρ:List S}{H H':Hp}{c:aa}
theorem ahf(k:∀a o,H a=U o->yP o=Δ->H' a=U o){xs:List V}(h:qt K ρ H a xs):qt K ρ H' a xs:=by
 rcases h with⟨h,n⟩|h
 ·rcases h with h|⟨o,h⟩
  ·exact .inl ⟨.inl (k a _ h rfl),n⟩
  ·exact .inl ⟨.inr ⟨o,k a _ h rfl⟩,n⟩
 ·exact .inr h
mutual
theorem Rel.nd(k:∀a o,H a=U o->yP o=Δ->H' a=U o):∀(d:D) (v:V),Rel K ρ H d v->Rel K ρ H' d v
 |.aF,v,h=>h
 |.bl b,v,h=>h
 |.int i,v,h=>h
 |.str y,v,h=>h
 |.ty n,v,h=>h
 |.tup l,v,h=>by
  obtain⟨a,xs,e,s,r⟩:=h;exact⟨a,xs,e,k a _ s rfl,aJ.nd k l xs r⟩
 |.lst l,v,h=>by
  obtain⟨a,xs,e,s,r⟩:=h;exact⟨a,xs,e,⟨k a _ s.1 rfl,s.2⟩,aJ.nd k l xs r⟩
 |.ref _,v,h=>h
 |.bK l,v,h=>by
  obtain⟨a,e,s⟩:=h;exact⟨a,e,ahf k s⟩
 |.fn a n,v,h=>h
 |.iM,v,h=>by
  obtain⟨a,e,q⟩:=h;exact⟨a,e,k a _ q rfl⟩
 |.dct ks,v,h=>by
  obtain⟨a,kvs,e,q,z⟩:=h;exact⟨a,kvs,e,k a _ q rfl,z⟩
 |.gb ks,v,h=>by
  obtain⟨a,as,e,q,z⟩:=h;exact⟨a,as,e,k a _ q rfl,z.mono λb xs q=>k b _ q rfl⟩
 |.exc y,v,h=>by
  obtain⟨a,C,e,n,q⟩:=h;exact⟨a,C,e,n,k a _ q rfl⟩
 |.lam _ y ns l,v,h=>by
  obtain⟨a,o,q,c,cl,xs,e,h1,h2,h3,h4,h5,h6⟩:=h;exact⟨a,o,q,c,cl,xs,e,k a _ h1 rfl,h2,k c _ h3 rfl,h4,h5.mono (λb o z=>k b _ z rfl),aJ.nd k l xs h6⟩
theorem aJ.nd(k:∀a o,H a=U o->yP o=Δ->H' a=U o):∀(l:List D) (xs:List V),aJ K ρ H l xs->aJ K ρ H' l xs
 |[],xs,h=>h
 |d::l,xs,h=>by
  obtain⟨y,r,e,h1,h2⟩:=h;exact⟨y,r,e,Rel.nd k d y h1,aJ.nd k l r h2⟩
end
theorem Wd.WJ(W:Wd K ρ H c)(k:∀a o,H a=U o->yP o=Δ->H' a=U o):Wd K ρ H' c :=
 ⟨W.nd,W.len,λi a cl e1 e2=>by
  have q:=W.fP i a cl e1 e2;cases cl with
  |lst l =>
   obtain⟨nr,xs,h,r⟩:=q;exact⟨nr,xs,k a _ h rfl,aJ.nd k l xs r⟩,W.tab.mono (λP ps e=>k P _ e rfl) λc φ e=>k c _ e rfl⟩
end
end L2
namespace L2
open PySem PySem.Spec PyProof.Rows
theorem ah1{α β:Type}{K:Ξ}{Rl:List S->Hp->α->β->Prop}{r:R α}{H H1:Hp}{Q:β->Hp->Prop}(x:Ext ρ H aM H1)(p:post K Rl r ρ H Q):post K Rl r aM H1 Q:=by
 cases r with
 |ok a c=>exact λρ' H' b W X R=>p ρ' H' b W (x.trans X) R
 |bad=>exact p
theorem agR:10000<Ω:=⋯
def gT:Int->List Int->Int
 |a,[]=>a
 |a,b::l=>gT (if b>a then b else a) l
theorem Ox(l:List Int)(a:Int):∀k,k<(a::l).length->(a::l).getD (argBest (λi j=>decide ((a::l).getD i 0>(a::l).getD j 0)) k) 0=gT a (l.take k)
 |0,_=>rfl
 |k+1,h=>by
  have ih:=Ox l a k (Tt h);have hk:k<l.length:=by simpa using h
  have step:∀(l:List Int) k a _,gT a (l.take (k+1))=if l[k]>gT a (l.take k)then l[k]else gT a (l.take k):=by
   intro l
   induction l with
   |nil=>intro k a hk;cases hk
   |cons b l ihl =>
    intro k a hk;cases k with
    |zero=>simp[gT]
    |succ k =>
     have:=ihl k (if b>a then b else a) (by simpa using hk)
     simpa[gT]using this
  rw[step l k a hk];unfold argBest;rw[ih];have e:(a::l).getD (k+1) 0=l[k]:=by simp[List.getD,hk]
  rw[e]
  by_cases hc:l[k]>gT a (l.take k)
  ·rw[if_pos (by simpa using hc),if_pos hc,e]
  ·rw[if_neg (by simpa using hc),if_neg hc,ih]
def uJ:List D->aa->R D:=λxs c=>match xs with
 |[.lst l]=>match iw l with
  |some (a::r)=>.ok (.int (gT a r)) c
  |_=>.bad
 |_=>.bad
section
variable {X:Cx}
theorem acf(hc:X.calm=J:=by rfl):dG X (.builtin "max") (rN X.K uJ):=by
 intro pins s Z H vs us Q I rv h;obtain⟨ρ,xs,c,W,rx,p⟩:=h;unfold uJ at p;split at p
 ·split at p
  ·rename_i a r hb;obtain⟨v,r',rfl,⟨b,ys,rfl,s1,r1⟩,hr⟩:=rx;cases hr;rw[pY hb]at r1;cases r1.pX;obtain⟨u,rfl,ru⟩:=Po rv;cases ru;obtain⟨its,ri,pt,hz⟩:=I.list (bf.of s1.1);have hl:=ri.length;have val:∀i v,its.toArray[i]? = U v->∃t,v=Value.int ((a::r).getD i 0) t:=λi v hv=>by
    obtain⟨x,hx,rx⟩:=qJ ri hv;rw[PK]at hx;cases q:(a::r)[i]? with
    |none=>rw[q]at hx;cases hx
    |some z =>
     rw[q]at hx;cases hx;obtain⟨t,rfl⟩:=rx;exact⟨t,by rw[I8,q];rfl⟩
   refine call_max_walk (RH pt.isList ⟨s.heap.objs.size,_,_,its.toArray.size,_,_,_,rfl,Rq (A:=X.A.in1) (I.ok.hd hc) s.heap.objs.size b (by obtain⟨o,e,_⟩:=pt.isList;exact O0 (Iv e)) its.toArray,⟨⟨_,O5 _ rfl,rfl,rfl⟩,?_⟩,λd hd=>?_,?_,CmpOf.ints_gt _ val,λv h' tk hP kp=>?_⟩)
   ·obtain⟨o,e,q⟩:=pt.isList;exact⟨o,H8 _ e,q⟩
   ·rw[P9]
    rcases Bt.mp hd with rfl|hd
    ·exact QD _
    ·rw[Pa]at hd;subst hd;obtain⟨o,e,_⟩:=pt.isList;exact Q0 (Iv e)
   ·rw[O3,<-hl];simp
   ·have I1:Inv X pins Z H {s with heap:=h',toks:=tk}:=AO I kp
    obtain⟨t,rfl⟩:=val _ _ hP;have hs:its.toArray.size-1=r.length:=by rw[O3,<-hl];simp
    rw[hs,Ox r a r.length (by simp),Q3]
    exact⟨.int _,H,I1,⟨t,rfl⟩,p.here W rfl⟩
  ·exact p.elim
 ·exact p.elim
end
def HY(P:ν)(w:τ)(a:S)(n:Nat):π->Prop:=λh=>∃o Θ,h.get? a=U o/\o.SetObjOf (intKind P w) Θ n
def mZ(ns:List Int):Nat:=(firstMet (λi=>ns.getD i 0) ns.length).length
theorem GO:∀{ns:List Int}{us:List L},Vals (ns.map V.int) us->QK us ns
 |[],_,.nil=>.nil
 |n::ns,_,.cons ⟨t,e⟩ r=>by subst e;exact .cons _ _ (GO r)
section
variable {X:Cx}
def ahA(X:Cx):List V->Hp->VK->Prop:=λxs H Q=>∃a ns,xs=[.ref a]/\bf X.K H a (ns.map V.int)/\ns.length+1<scanBound/\∀p,H p=O->Q (.ref p) (upd H p (.ext (HY X.prog X.w p (mZ ns))))
theorem abP(hc:X.calm=J:=by rfl):dG X (.type "set") (ahA X):=by
 intro pins s Z H xs us Q I rv h;obtain⟨a,ns,rfl,sq,hb,q⟩:=h;obtain⟨u,rfl,ru⟩:=Po rv;cases ru;obtain⟨its,ri,pl,hz⟩:=I.list sq;have hl:its.length=ns.length:=by have:=ri.length;simpa using this.symm
 refine call_set_list (I.ok.hd hc) pl.isList (GO (by simpa using ri)) (by simpa[hl]using hb) λh' tk hS kp=>?_
 have hn:(firstMet (λi=>ns.getD i 0) its.toArray.size).length=mZ ns:=by unfold mZ;rw[O3,hl]
 obtain⟨o,ho,hso⟩:=hS.objOf;rw[hn]at hso;refine⟨.ref s.heap.objs.size,upd H s.heap.objs.size _,I.laid (t':=tk) (λb u e=>kp b u (Iv e) e) (AP _) ?_,rfl,q _ (I.hok.fresh (AP _))⟩
 exact⟨⟨o,_,ho,hso⟩,⟨o,ho⟩,λh1 h2 ⟨o,Θ,ho,hs⟩ k=>⟨o,Θ,k o ho,hs⟩⟩
def ait(X:Cx):List V->Hp->VK->Prop:=λxs H Q=>∃a n,xs=[.ref a]/\H a=U (.ext (HY X.prog X.w a n))/\(n:Int)<2^63/\Q (.int (n:Nat)) H
theorem abQ:dG X (.builtin "len") (ait X):=by
 intro pins s Z H xs us Q I rv h;obtain⟨a,n,rfl,hH,hn,q⟩:=h;obtain⟨u,rfl,ru⟩:=Po rv;cases ru;obtain⟨⟨o,Θ,ho,hso⟩,_,_⟩:=I.hok a _ hH;obtain⟨hex,es,ep,t,hd,_,_,he,hf⟩:=hso;subst he;exact call_len_set ho hex hd hf hn ⟨.int _,H,I.tok _,⟨_,rfl⟩,q⟩
def lS(a:aj):af:=λe c=>(a e c).bind λxs c=>match xs with
 |[x]=>match eV c x with
  |some l=>match iw l with
   |some ns=>if ns.length<1000 then .ok (.int (mZ ns)) c else .bad
   |none=>.bad
  |none=>.bad
 |_=>.bad
theorem abC(ns:List Int):mZ ns<=ns.length:=firstMet_length_le _ _
theorem JD{p1 p2:Pos}(ha:gx X [e] da)(hm:X.mg "len"=O)(hm2:X.mg "set"=O)(hg:Gl X "len":=by rfl)(yZ:Gl X "set":=by rfl)(hc:X.calm=J:=by rfl)(he:ε [e] X.env=(Δ,eval e X.env)::ε [] X.env:=by exact ez rfl):bg X (.Call (.Name "len" p1) [.Call (.Name "set" p2) [e] [] q2] [] q1) (lS da):=by
 refine(x8 abQ hg hm (by decide +kernel) (jJ (uh (abP hc) yZ hm2 (by decide +kernel) ha ⋯ ⋯ he (by exact ig rfl)) lA (ez rfl)) ⋯ ⋯ (by exact ez rfl) (by exact ig rfl)).imp λZ H Q h=>?_
 obtain⟨ρ,e,c,W,V,p⟩:=h;refine⟨ρ,e,c,W,V,post.bind p λxs c1 aM H1 vs ex W1 X1 r1 p1=>?_⟩
 clear ex;split at p1
 ·rename_i x;obtain⟨v,r,rfl,hx,hr⟩:=r1;cases hr;split at p1
  ·rename_i l hl;split at p1
   ·rename_i ns hn;split at p1
    ·rename_i hb;obtain⟨a,ys,rfl,ha',rl⟩:=mL W1 hx hl;rw[pY hn]at rl;cases rl.pX;refine⟨a,ns,rfl,bf.of ha',by unfold scanBound;omega,λq hq=>?_⟩
     refine⟨q,mZ ns,rfl,eT,?_,?_⟩
     ·have:=abC ns;omega
     ·exact p1 aM _ _ (W1.fresh hq) (Ext.fresh W1 hq) rfl
    ·exact p1.elim
   ·exact p1.elim
  ·exact p1.elim
 ·exact p1.elim
def uH:List D->aa->R D:=λxs c=>match xs with
 |[.lst l]=>match iw l with
  |some (a::r)=>.ok (.int (fZ a r)) c
  |_=>.bad
 |_=>.bad
theorem ace(hc:X.calm=J:=by rfl):dG X (.builtin "min") (rN X.K uH):=by
 intro pins s Z H vs us Q I rv h;obtain⟨ρ,xs,c,W,rx,p⟩:=h;unfold uH at p;split at p
 ·split at p
  ·rename_i a r hb;obtain⟨v,r',rfl,⟨b,ys,rfl,s1,r1⟩,hr⟩:=rx;cases hr;rw[pY hb]at r1;cases r1.pX;obtain⟨u,rfl,ru⟩:=Po rv;cases ru;obtain⟨its,ri,pt,hz⟩:=I.list (bf.of s1.1);have DH:b≠s.heap.objs.size:=by obtain⟨o,e,_⟩:=pt.isList;exact O0 (Iv e)
   have hl:=ri.length;have val:∀i v,its.toArray[i]? = U v->∃t,v=Value.int ((a::r).getD i 0) t:=λi v hv=>by
    obtain⟨x,hx,rx⟩:=qJ ri hv;rw[PK]at hx;cases q:(a::r)[i]? with
    |none=>rw[q]at hx;cases hx
    |some z =>
     rw[q]at hx;cases hx;obtain⟨t,rfl⟩:=rx;exact⟨t,by rw[I8,q];rfl⟩
   refine call_min_walk (RH pt.isList ⟨s.heap.objs.size,_,_,its.toArray.size,_,_,_,rfl,Rq (A:=X.A.in1) (I.ok.hd hc) s.heap.objs.size b DH its.toArray,⟨⟨_,O5 _ rfl,rfl,rfl⟩,?_⟩,λd hd=>?_,?_,CmpOf.ints_lt (λi=>(a::r).getD i 0) val,λv h' tk hP kp=>?_⟩)
   ·obtain⟨o,e,q⟩:=pt.isList;exact⟨o,H8 _ e,q⟩
   ·rw[P9]
    rcases Bt.mp hd with rfl|hd
    ·exact QD _
    ·rw[Pa]at hd;subst hd;obtain⟨o,e,_⟩:=pt.isList;exact Q0 (Iv e)
   ·rw[O3,<-hl];simp
   ·have I1:Inv X pins Z H {s with heap:=h',toks:=tk}:=AO I kp
    obtain⟨t,rfl⟩:=val _ _ hP;have hs:its.toArray.size-1=r.length:=by rw[O3,<-hl];simp
    rw[hs,Ow r a r.length (by simp),Q3]
    exact⟨.int (fZ a r),H,I1,⟨t,rfl⟩,p.here W rfl⟩
  ·exact p.elim
 ·exact p.elim
end
@[simp] theorem adA(a:aj)(e:Ev)(c:aa):lS a e c=(a e c).bind λxs c=>match xs with
 |[x]=>match eV c x with
  |some l=>match iw l with
   |some ns=>if ns.length<1000 then .ok (.int (mZ ns)) c else .bad
   |none=>.bad
  |none=>.bad
 |_=>.bad:=rfl
section
variable {prog:ν}{w:τ}{A:χ}{s:Ψ}{E:L->Ψ->Prop}
set_option maxHeartbeats 3200000 in
end
def aV:D->Option (List Int)
 |.tup [.int i,.int j]=>if 0<=i/\i<8/\0<=j/\j<8 then U [i,j]else O
 |_=>O
section
variable {X:Cx}
theorem GL:∀{ys:List S}{us:List L},Vals (ys.map V.ref) us->us=ys.map Value.ref
 |[],_,.nil=>rfl
 |y::ys,_,.cons e r=>by cases e;rw[GL r];rfl
end
section
variable {X:Cx}{es':List μ}{kt:Nat}{pt:Pos}
theorem Jw{pos:Pos}(hg:Gl X "enumerate")(hm:X.mg "enumerate"=O)(ha:PA X [a] ta)(hs:ε [a] X.env=[(Δ,eval a X.env)]:=by rfl):
  PI X (.Tuple es' kt pt) (.Call (.Name "enumerate" p) [a] [] pos) (DA (bf X.K) ta):=by
 intro pins s Z H R I h;refine Call_ (mQ I hg hm boot_enumerate (RE (bx (ha pos pins s Z H _ I h) λus s1 ⟨vs,H1,I1,r1,q1⟩=>?_) hs rfl))
 obtain⟨a1,e,⟨xs,q1⟩,q⟩:=q1;subst e;cases r1 with
 |cons r rr =>
  cases rr;cases r;obtain⟨us,ru,pu,lu⟩:=I1.list q1;refine call_enumerate_list pu.isList λh' hz t1 _ kp=>UP hz ?_
  generalize hn:s1.heap.objs.size=n at hz t1
  refine⟨n+1,_,_,_,H1,rfl,I1.kept kp,G3 Ia a1 _ n (Pp (QD _)),⟨⟨_,hz⟩,t1⟩,λb hb=>?_,q⟩
  refine wN I1 hn b ?_;simp at hb
  rcases hb with rfl|rfl<;>simp
end
def ED(a:aj):Ev->aa->R Src:=λe c=>(a e c).bind λxs c=>match xs with
 |[.lst l]=>.ok ⟨l.mapIdx λi x=>.tup [.int i,x],λ_=>True⟩ c
 |_=>.bad
section
variable {X:Cx}{K:Ξ}{ρ:List S}{H:Hp}
theorem Ys{st:aa->Prop}(h:∀ρ' H' c',Wd K ρ' H' c'->Ext ρ H ρ' H'->st c'->∃xs,bf K H' a xs/\aJ K ρ' H' l xs):JS K ρ H ⟨l.mapIdx λi x=>.tup [.int i,x],st⟩ (qy (bf K) a):=by
 intro ρ' H' c' W E s i;obtain⟨xs,q,r⟩:=h ρ' H' c' W E s;refine⟨λd hd=>?_,λe=>⟨xs,q,?_⟩⟩
 ·rw[Tv]at hd;cases e1:l[i]? with
  |none=>rw[e1]at hd;cases hd
  |some x =>
   rw[e1]at hd;cases hd;obtain⟨v,hv,rv⟩:=r.get e1;refine⟨⟨xs,v,q,hv⟩,λz H2 hz=>?_⟩
   obtain⟨t,v',rfl,ht,rfl,hz⟩:=hz;have z1:=hz xs q;rw[hv]at z1;cases z1;exact⟨W.fresh ht,Ext.fresh W ht,t,[.int i,v],rfl,eT,.int i,[v],rfl,rfl,v,[],rfl,Rel.mono W (Ext.fresh W ht) _ _ rv,rfl⟩
 ·rw[VL]at e;rw[r.length];exact e
theorem Y0{pt:Pos}{pos:Pos}(ha:gx X [a] da)(hm:X.mg "enumerate"=O)(hg:Gl X "enumerate":=by rfl)(hs:ε [a] X.env=[(Δ,eval a X.env)]:=by exact nJ rfl):
  PId X (.Tuple es k pt) (.Call (.Name "enumerate" p) [a] [] pos) (ED da):=(Jw hg hm ha hs).imp λZ H Q h=>by
 obtain⟨ρ,e,c,W,V,p⟩:=h;refine⟨ρ,e,c,W,V,post.bind p λx c1 aM H1 v _ W1 X1 r1 p1=>?_⟩
 split at p1
 ·obtain⟨y,ys,rfl,ry,rs⟩:=r1;cases rs;obtain⟨a1,xs,rfl,s1,t1⟩:=ry;exact⟨a1,rfl,⟨xs,bf.of s1.1⟩,p1.here W1 (Ys λρ' H' c' W' E _=>⟨xs,bf.of (C2 E s1).1,aJ.mono W1 E _ _ t1⟩)⟩
 ·exact p1.elim
end
section
variable {prog:ν}{w:τ}{A:χ}{E:L->Ψ->Prop}{s:Ψ}
theorem ZX{Y:S->Prop}{Q:Int->Ψ->Prop}(hu:A.units+8<O8)(hx:cB prog w Y s.heap k x)(h:Q (hL k) {s with toks:=s.toks+(k.2.length+3)}):wpAny (model prog w) A (pyHash (.ref x)) Q E s:=by
 have hTy:=hx.typeIs;obtain⟨o,n,t,y,_,_,h1,h2,h3,h4⟩:=hx
 first|refine Rc (wpAny_cRoomFor_or (.inr ∅) ?_)|skip
 refine Rc (Qa hTy QZ.lookup ?_);refine Rc (Qa hTy QZ.lookup ?_);refine Rc (W0 hTy QZ (Q9 QZ hTy F.entry_tuple_hash ?_ (F.args_tuple_hash_1 _)));show wpAny _ _ (Builtin.Tuple.tupleItemsOf _ >>= _) _ _ s;refine Rc (Ri h1 h3 ?_);refine Rc ?_;refine Rc (Rc ((intKind prog w).pyHash (k:=k.1) (by simp[intKind,Value.isInt]) ?_))
 first
  |refine dD ?_
  |refine Rc _
 refine Rc (Rc ((tupleKind _).pyHash (by show A.units+1<O8;omega) h4 ?_))
 first
  |refine dD ?_
  |refine Rc _
 refine dD ?_;show wpAny _ _ (retInt (Builtin.Tuple.tupleHashOf [hashInt k.1,L2.hT k.2])) _ _ _;refine wpAny_ret_mkInt ?_;show wpAny _ _ (if _=J then _ else _) Q E _
 have et:s.toks+(k.2.length+3)=s.toks+1+(k.2.length+1)+1:=∅
 rw[et]at h;unfold hL reduceHash at h
 by_cases hr:(decide (-(2:Int)^63<=Builtin.Tuple.tupleHashOf [hashInt k.1,L2.hT k.2])&&decide (Builtin.Tuple.tupleHashOf [hashInt k.1,L2.hT k.2]<2^63))=J
 ·rw[if_pos hr];rw[if_pos hr]at h;exact dD h
 ·rw[if_neg hr];rw[if_neg hr]at h;exact Rc (Qz (dD h))
end
def K7(P:ν)(w:τ):HeapKind P w Lk where
 is:=cB P w (λ_=>True)
 hash:=hL
 draws:=λk=>k.2.length+3
 room:=λA=>A.units+8<O8
 inj:=λa b=>a.inj b
 keeps:=fun{h h'}{k}{a d}{o es ep} x ho hd hs=>by
  obtain⟨o',n,t,y,_,_,h1,h2,h3,h4⟩:=x;have hne:a≠d:=by
   rintro rfl
   obtain rfl:o'=o:=P0 (h1.symm.trans ho);rw[hd]at h3;exact nomatch h3
  exact⟨o',n,t,y,trivial,trivial,(hs.2 a hne).trans h1,h2,h3,h4.keeps ho hd hs⟩
 pyHash:=λhu hk h=>ZX hu hk h
 eqBool:=λhu hx hy h=>Es hu hx hy h
 quiet:=λhk h=>B6 hk h
section
variable {X:Cx}{pins:List (S×Obj)}{Z:St}{H:Hp}{s:Ψ}{a:S}{k:Lk}
theorem Jh(h:RelV v (.int i t)):v=.int i:=by
 cases v with
 |int j=>obtain⟨t2,e⟩:=(show ∃t2,Value.int i t=Value.int j t2 from h);cases e;rfl
 |aF=>exact nomatch (show Value.int i t=Value.none from h)
 |bl b=>exact nomatch (show Value.int i t=Value.bool b from h)
 |str x=>obtain⟨t2,e⟩:=(show ∃t2,Value.int i t=Value.str x t2 from h);cases e
 |iR x=>obtain⟨t2,e⟩:=(show ∃t2,Value.int i t=Value.bytes x t2 from h);cases e
 |oK x=>obtain⟨t2,e⟩:=(show ∃t2,Value.int i t=Value.float x t2 from h);cases e
 |ref a=>exact nomatch (show Value.int i t=Value.ref a from h)
 |ty n=>exact nomatch (show Value.int i t=Value.type n from h)
theorem ahI(h:RelV v (.ref y)):v=.ref y:=by
 cases v with
 |ref a=>cases(show Value.ref y=Value.ref a from h);rfl
 |aF=>exact nomatch (show Value.ref y=Value.none from h)
 |bl b=>exact nomatch (show Value.ref y=Value.bool b from h)
 |int x=>obtain⟨t2,e⟩:=(show ∃t2,Value.ref y=Value.int x t2 from h);cases e
 |str x=>obtain⟨t2,e⟩:=(show ∃t2,Value.ref y=Value.str x t2 from h);cases e
 |iR x=>obtain⟨t2,e⟩:=(show ∃t2,Value.ref y=Value.bytes x t2 from h);cases e
 |oK x=>obtain⟨t2,e⟩:=(show ∃t2,Value.ref y=Value.float x t2 from h);cases e
 |ty n=>exact nomatch (show Value.ref y=Value.type n from h)
theorem items_int:∀{ks:List Int}{us:List L},Vals (ks.map V.int) us->ItemsAre (intKind P w) ks us
 |[],_,r=>by rw[List.map_nil]at r;cases r;exact .nil
 |k::ks,_,r=>by
  cases r with
  |cons h t =>
   obtain⟨t',rfl⟩:=h;exact .cons (by simp[intKind,Value.isInt]) (items_int t)
theorem LU:∀{xs:List V}{ks:List Int}{us:List L},Vals xs us->ItemsAre (intKind P w) ks us->xs=ks.map V.int
 |_,_,_,.nil,.nil=>rfl
 |_,_,_,.cons h t,.cons q r=>by
  obtain⟨t',rfl⟩:=RK q;rw[LU t r,Jh h];rfl
theorem uU{Y:S->Prop}(ok:cW X.prog X.w H s.heap)(hY:∀b xs,H b=U (.tup xs)->Y b)(h:lY H a k):cB X.prog X.w Y s.heap k a:=by
 obtain⟨y,h1,h2⟩:=h;obtain⟨_,its,hv,o,g1,g2,⟨n,g3⟩,_⟩:=ok a _ h1;obtain⟨_,its2,hv2,o2,k1,k2,⟨n2,k3⟩,_⟩:=ok y _ h2;cases hv with
 |cons r1 r2 =>
  cases r2 with
  |cons r3 r4 =>
   cases r4;obtain⟨t,rfl⟩:=r1;cases r3;exact⟨o,n,t,y,hY _ _ h1,hY _ _ h2,g1,g2,g3,o2,its2.toArray,n2,k1,k2,k3,by simpa using items_int hv2⟩
theorem Le(ok:cW X.prog X.w H h)(z:cB X.prog X.w (λb=>∃xs,H b=U (.tup xs)) h k a):lY H a k:=by
 obtain⟨o,n,t,y,⟨xs,y1⟩,⟨ys,y2⟩,h1,h2,h3,o2,it2,n2,g1,g2,g3,g4⟩:=z;obtain⟨_,its,hv,o',q1,_,⟨n',q3⟩,_⟩:=ok a _ y1;rw[h1]at q1;cases q1;rw[h3]at q3
 injection q3 with e _
 have e:=congrArg Array.toList e;simp only at e;subst e;obtain⟨_,its2,hv2,o3,r1,_,⟨n3,r3⟩,_⟩:=ok y _ y2;rw[g1]at r1;cases r1;rw[g3]at r3
 injection r3 with e2 _
 subst e2;have hy:=LU hv2 (by simpa using g4)
 subst hy;refine⟨y,?_,y2⟩;rw[y1];cases hv with
 |cons a1 b1 =>
  cases b1 with
  |cons a2 b2 =>
   cases b2;rw[Jh a1,ahI a2]
end
def mq(w:τ)(a:S)(L0:List (Lk×S)):π->Prop:=λh=>∃o es ep t,∃ξ:List (Lk×S),h.get? a=U o/\o.ExactSet/\o.data=.set es ep t/\kQ t es/\t.plain=J/\t.led = !e8 w/\es.toList=ξ.map (lR hL)/\ξ.Perm L0
def Gh(H:Hp)(L0:List (Lk×S)):Prop:=∀q∈L0,lY H q.2 q.1
section
variable {X:Cx}
def Jm(X:Cx):List V->Hp->VK->Prop:=λxs H Q=>∃a ys ks,xs=[.ref a]/\bf X.K H a (ys.map V.ref)/\H a≠O/\(∀zs,H a≠U (.tup zs))/\fQ H ys ks/\(dI ks).length<64/\∀p L0,H p=O->Gh H L0->(L0.map (·.1)).Perm (dI ks)->Q (.ref p) (upd H p (.ext (mq X.w p L0)))
theorem abO(hu:X.A.units+64<O8)(hc:X.calm=J:=by rfl):dG X (.type "set") (Jm X):=by
 intro pins s Z H xs us Q I rv h;obtain⟨a,ys,ks,rfl,sq,hne,hnt,hp,h64,q⟩:=h;obtain⟨u,rfl,ru⟩:=Po rv;cases ru;obtain⟨its,ri,pl,hz⟩:=I.list sq;have hl:=hp.len;refine ag4 (Y:=λb=>∃xs,H b=U (.tup xs)) (ys:=ys) hl (I.ok.hd hc) pl.isList (by simpa using GL ri) (λj hj=>?_) (λb hb=>?_) h64 (by grind) λh' tk hS kp=>?_
 ·exact uU I.hok (λb xs e=>⟨xs,e⟩) (hp.at (O1 ∅) (O1 hj))
 ·obtain⟨xs,e⟩:=hb;obtain⟨_,its,hv,o,g1,_⟩:=I.hok b _ e;exact⟨Iv g1,λz=>hnt xs (z▸e)⟩
 ·have hf:H s.heap.objs.size=O:=I.hok.fresh (AP _);obtain⟨o,es,ep,t,ξ,ho,hex,hd,IT,hpl,lJ,hL',hk,r9⟩:=hS;have oi:=λb u e=>kp b u (Iv e) e
  have I2:Inv X pins Z H {s with heap:=h',toks:=tk}:=I.kept oi
  refine⟨.ref s.heap.objs.size,upd H s.heap.objs.size _,I.laid oi (AP _) ?_,rfl,q _ ξ hf (λz hz=>Le I2.hok (hk z hz)) r9⟩
  exact⟨⟨o,es,ep,t,ξ,ho,hex,hd,IT,hpl,lJ,hL',.refl _⟩,⟨o,ho⟩,λh1 h2 ⟨o,es,ep,t,ξ,ho,r⟩ k=>⟨o,es,ep,t,ξ,k o ho,r⟩⟩
def Jl(X:Cx):List V->Hp->VK->Prop:=λxs H Q=>∃a L0 ks,xs=[.ref a]/\H a=U (.ext (mq X.w a L0))/\Gh H L0/\(L0.map (·.1)).Perm (dI ks)/\(dI ks).length<64/\∀p ys,H p=O->fQ H ys (ff ks)->Q (.ref p) (upd H p (.lst (ys.map V.ref)))
theorem Ji:∀ys:List S,Vals (ys.map V.ref) (ys.map Value.ref)
 |[]=>.nil
 |y::ys=>.cons rfl (Ji ys)
theorem La:∀(ξ:List (Lk×S)),Gh H ξ->fQ H (ξ.map (·.2)) (ξ.map (·.1))
 |[],_=>trivial
 |q::ξ,h=>⟨h q (.head _),La ξ λz hz=>h z (.tail _ hz)⟩
theorem abM(hu:X.A.units+64<O8)(hc:X.calm=J:=by rfl):dG X (.builtin "sorted") (Jl X):=by
 intro pins s Z H xs us Q I rv h;obtain⟨a,L0,ks,rfl,hH,jQ,mW,h64,q⟩:=h;obtain⟨u,rfl,ru⟩:=Po rv;cases ru;obtain⟨⟨o,es,ep,t,ξ,ho,hex,hd,IT,hpl,lJ,hL',lK⟩,_,_⟩:=I.hok a _ hH;have hS:jv X.prog X.w hL (λb=>∃xs,H b=U (.tup xs)) s.heap a (dI ks):=⟨o,es,ep,t,ξ,ho,hex,hd,IT,hpl,lJ,hL',λz hz=>uU (s:=s) I.hok (λb xs e=>⟨xs,e⟩) (jQ z (lK.mem_iff.mp hz)),(lK.map _).trans mW⟩
 refine ahd (xs:=ks) (I.ok.hd hc) ∅ (λb hb=>?_) hS h64 λh1 h' tk c L3 k1 k2 hp hk hs=>?_
 ·obtain⟨xs,e⟩:=hb;obtain⟨_,its,hv,o,g1,_⟩:=I.hok b _ e;exact⟨o,g1⟩
 ·have I1:Inv X pins Z H {s with heap:=h1,toks:=tk}:=I.kept k1
  have I2:Inv X pins Z H {s with heap:=h',toks:=tk}:=I.kept λb o e=>k2 b o (k1 b o e)
  have hf:H h1.objs.size=O:=I1.hok.fresh (AP _);have hl3:=La L3 λz hz=>Le I2.hok (hk z hz)
  rw[hs]at hl3;have hlen:L3.length<64:=by
   have e1:=congrArg List.length hs;rw[O2]at e1;have:(ff ks).length=(dI ks).length:=by
    refine VD ((Se ?_ (yu .nil)).mpr λx=>?_)
    ·exact(tG ks).imp fun{a b} h e=>by subst e;rw[pK]at h;cases h
    ·rw[uI]
     first|unfold dI|skip
     rw[yE];simp
   omega
  refine⟨.ref h1.objs.size,upd H h1.objs.size (.lst ((L3.map (·.2)).map V.ref)),I1.laid (t':=tk) k2 (AP _) ⟨?_,cy L3,c,?_,hp⟩,rfl,q _ _ hf hl3⟩
  ·simp only[O2];rw[Qe];omega
  ·have:=Ji (L3.map (·.2));rw[PV]at this ⊢;unfold cy;rw[PV]at this;exact this
def gm(k:Lk):D:=.tup [.int k.1,.tup (k.2.map D.int)]
def rR:D->Option Lk
 |.tup [.int c,.tup l]=>match iw l with
  |some ns=>U (c,ns)
  |none=>O
 |_=>O
def pO:List D->Option (List Lk)
 |[]=>U []
 |d::l=>match rR d,pO l with
  |some k,U ks=>U (k::ks)
  |_,_=>O
theorem Lf(h:rR d=U k):d=gm k:=by
 unfold rR at h;split at h
 ·split at h
  ·rename_i c l ns hn;cases h;rw[pY hn];rfl
  ·cases h
 ·cases h
theorem Lg(k:Lk):rR (gm k)=U k:=by
 unfold gm rR;dsimp only;rw[yR]
theorem Lb:∀{l:List D}{ks:List Lk},pO l=U ks->l=ks.map gm
 |[],ks,h=>by cases h;rfl
 |d::l,ks,h=>by
  unfold pO at h;split at h
  ·rename_i k rk h1 h2;cases h;rw[Lf h1,Lb h2];rfl
  ·grind
theorem Lc:∀ks:List Lk,pO (ks.map gm)=U ks
 |[]=>rfl
 |k::ks=>by
  rw[O6];unfold pO;rw[Lg,Lc ks]
theorem Ld{K:Ξ}{H:Hp}{k:Lk}{v:V}(r:Rel K ρ H (gm k) v):∃a,v=.ref a/\lY H a k:=by
 obtain⟨a,xs,rfl,ha,rl⟩:=r;obtain⟨x1,r1,rfl,e1,rl⟩:=rl;obtain⟨x2,r2,rfl,e2,rl⟩:=rl;cases(show x1=V.int k.1 from e1)
 cases(show r2=[]from rl)
 obtain⟨y,ys,rfl,hy,ry⟩:=e2;have:=aJ.pX ry;subst this;exact⟨a,rfl,y,ha,hy⟩
theorem K9{K:Ξ}{H:Hp}:∀{ks:List Lk}{vs:List V},aJ K ρ H (ks.map gm) vs->∃ys:List S,vs=ys.map V.ref/\fQ H ys ks
 |[],vs,r=>⟨[],r,trivial⟩
 |k::ks,vs,r=>by
  rw[O6]at r;obtain⟨x,r',rfl,e,rl⟩:=r;obtain⟨a,rfl,ha⟩:=Ld e;obtain⟨ys,rfl,hy⟩:=K9 rl;exact⟨a::ys,rfl,ha,hy⟩
theorem ND(I:Inv X pins Z H s)(h:H a=U (.ext (gu a kvs as)))(hk:fQ H as (kvs.map (·.1)))(nd:(kvs.map (·.1)).Nodup):
  ∃xs:List (Lk×S×L),s.heap.DictOfH (K7 X.prog X.w) a xs/\xs.map (·.1)=kvs.map (·.1)/\xs.map (·.2.1)=as/\Vals (kvs.map λkv=>V.int kv.2) (xs.map (·.2.2)):=by
 obtain⟨⟨o,es,ep,xs,ho,hex,hd,he,e1,e2,hv⟩,_,_⟩:=I.hok a _ h;refine⟨xs,⟨o,es,ep,ho,hex,hd,he,λx hx=>?_,by rw[e1];exact nd⟩,e1,e2,hv⟩
 obtain⟨i,hi,rfl⟩:=QF hx;refine uU (s:=s) I.hok (λ_ _ _=>trivial) (hk.at (i:=i) ?_ ?_)
 ·rw[<-e2,PK,O1 hi];rfl
 ·rw[<-e1,PK,O1 hi];rfl
def Hy:TE:=λ_ H Q=>∀p,H p=O->Q (.ref p) (upd H p (.ext (gu p [] [])))
theorem akx{pos:Pos}:PE X (.Dict [] [] pos) Hy:=λpins s Z H Q I h =>
 wpAny_Dict_empty ⟨.ref s.heap.objs.size,_,I.laid (a:=s.heap.objs.size) (o:=.ext (gu s.heap.objs.size [] [])) (t':=s.toks) (λ_ _ q=>H8 _ q) (AP _)
  ⟨⟨_,#[],0,[],O5 _ rfl,⟨rfl,rfl,rfl⟩,rfl,rfl,rfl,rfl,.nil⟩,⟨_,O5 _ rfl⟩,λh1 h2 ⟨o,es,ep,xs,ho,r⟩ k=>⟨o,es,ep,xs,k o ho,r⟩⟩,rfl,h _ (I.hok.fresh (AP _))⟩
def IY(td ty tv:TE):TS:=λD Z H=>tv Z H λv H1=>td Z H1 λx H2=>ty Z H2 λy H3=>∃a kvs as b k n,x=.ref a/\v=.int n/\y=.ref b/\H3 a=U (.ext (gu a kvs as))/\fQ H3 as (kvs.map (·.1))/\(kvs.map (·.1)).Nodup/\k∉kvs.map (·.1)/\kvs.length<1000/\lY H3 b k/\D.nx Z (upd H3 a (.ext (gu a (kvs++[(k,n)]) (as++[b]))))
theorem ah6{value:μ}{pos pos':Pos}(hu:X.A.units+64<O8)(ho:PE X o td)(hi:PE X i ty)(hv:PE X value tv)(hs:swapsWith value (U (.Subscript o i pos')) pos.line X.env=pure Δ):
  PS X (.Assign [.Subscript o i pos'] value pos) (IY td ty tv):=by
 intro pins s Z H D I h;refine wpAny_Assign_Subscript (bx (hv pins s Z H _ I h) λr s1 ⟨v,H1,I1,rv,q1⟩=>bx (ho pins s1 Z H1 _ I1 q1) λu s2 ⟨x,H2,I2,rx,q2⟩=>bx (hi pins s2 Z H2 _ I2 q2) λiv s3 ⟨y,H3,I3,ry,a,kvs,as,b,k,n,ex,ev,ey,ha,hk,nd,hnk,hl,hb,q3⟩=>?_) hs
 subst ex ev ey;obtain rfl:u=Value.ref a:=rx;obtain rfl:iv=Value.ref b:=ry;obtain⟨t,rfl⟩:=rv;obtain⟨xs,dd,e1,e2,vv⟩:=ND I3 ha hk nd;have Zc:xs.length=kvs.length:=by have:=congrArg List.length e1;simpa using this
 have sl:10000<Ω:=agR;have hno:atKey xs k=O:=by
  refine atKey_none_of_get λj p hj=>hnk ?_
  grind
 refine wpAny_setItem_heap (knd:=K7 X.prog X.w) (k:=k) (by show X.A.units+1+8<O8;omega) (uU (s:=s3) I3.hok (λ_ _ _=>trivial) hb) dd (λh' NO f6=>?_) ∅
 rw[storedH_new hno]at NO;obtain⟨o',es,ep,ho',hex,hd',he',_,_⟩:=NO;have new:e9 X.prog X.w (upd H3 a (.ext (gu a (kvs++[(k,n)]) (as++[b])))) h' a (.ext (gu a (kvs++[(k,n)]) (as++[b]))):=⟨⟨o',es,ep,xs++[(k,b,Value.int n t)],ho',hex,hd',he',?_,?_,?_⟩,⟨_,ho'⟩,λh1 h2 ⟨o,es,ep,xs,ho,r⟩ k=>⟨o,es,ep,xs,k o ho,r⟩⟩
 ·exact⟨Z,_,abH I3 (by rw[ha];exact True.intro) f6 ⟨_,ho'⟩ new,q3⟩
 ·rw[QO,QO,e1];rfl
 ·rw[QO,e2];rfl
 ·rw[QO,QO];exact Paired.snoc vv (show ∃t',Value.int n t=Value.int n t' from⟨t,rfl⟩)
end
def pT:D->D->aa->R D:=λx y c=>match x,rR y with
 |.gb kvs,U k=>match kvs.find? (λkv=>decide (kv.1=k))with
  |some kv=>if(kvs.map (·.1)).Nodup then .ok (.int kv.2) c else .bad
  |none=>.bad
 |_,_=>.bad
section
variable {X:Cx}
theorem aaX{kvs:List (Lk×Int)}{kv:Lk×Int}(nd:(kvs.map (·.1)).Nodup)(h:kvs.find? (λkv=>decide (kv.1=k))=U kv){xs:List (Lk×S×L)}(e1:xs.map (·.1)=kvs.map (·.1))(vv:Vals (kvs.map λkv=>V.int kv.2) (xs.map (·.2.2))):∃p t,atKey xs k=U p/\p.2=.int kv.2 t:=by
 have hm:=UD h;have hk:kv.1=k:=by have:=Vb h;simpa using this
 obtain⟨i,hi,e⟩:=QF hm;have Zc:xs.length=kvs.length:=by have:=congrArg List.length e1;simpa using this
 have hx:xs[i]? = U (k,(xs[i]'∅).2):=by
  rw[O1 ∅]
  have q:(xs.map (·.1))[i]'(by simp;omega)=(kvs.map (·.1))[i]'(by simpa using hi):=by simp only[e1]
  simp only[S8]at q;rw[e,hk]at q;rw[<-q]
 obtain⟨u,hu,ru⟩:=Vals.get vv (i:=i) (x:=V.int kv.2) (by rw[PK,O1 hi,e];rfl)
 rw[PK,hx]at hu;cases hu;obtain⟨t,et⟩:=ru;exact⟨_,t,atKey_of_get (by rw[e1];exact nd) hx,et⟩
theorem YD(hu:X.A.units+64<O8):sR X (r2 X.K pT):=by
 intro value slice pins s Z H v u vv uu Q I rv ru h hs;obtain⟨ρ,x,y,c,W,rx,ry,p⟩:=h;unfold pT at p;split at p
 ·rename_i kvs k hk;split at p
  ·rename_i kv hf;split at p
   ·rename_i nd;have ey:=Lf hk;subst ey;obtain⟨a,as,rfl,ha,hl⟩:=rx;obtain⟨b,rfl,hb⟩:=Ld ry;cases rv;cases ru;obtain⟨xs,dd,e1,e2,vs⟩:=ND I ha hl nd;obtain⟨pr,t,hp,et⟩:=aaX nd hf e1 vs;have hT:=dd.typeIs;have fin:wpAny (model X.prog X.w) X.A (subscripted slice Δ (.ref a) (.ref b)) (λr s₃=>wpAny (model X.prog X.w) X.A (letTemporaryGo value (.ref a) r >>= λ_=>pure r) (EP X pins Z Q) X.xe s₃) X.xe s:=by
     rw[hs];refine wpAny_operating (wpAny_getItem_heap (by show X.A.units+1+8<O8;omega) (uU I.hok (λ_ _ _=>trivial) hb) dd hp ?_)
     rw[et];exact Rc (wpAny_letTemporaryGo (dD ⟨.int kv.2,H,I.tok _,⟨t,rfl⟩,p ρ H _ W Ext.refl rfl⟩))
    refine Rc ?_;refine Rc (Qa hT PySem.F.slot_dict_getitem.lookup ?_)
    first
     |exact dD (Rc fin)
     |exact Rc _
     |exact Rc fin
   ·exact p.elim
  ·exact p.elim
 ·exact p.elim
end
theorem aaH{Sq:Hp->S->List V->Prop}{a:S}{xs:List V}{g:TG}{tb:TS}{D:Ends}{Z:St}{H:Hp}(Pv:Nat->St->Hp->Prop)(h0:Pv 0 Z H)(hl:∀i Z H,i<=xs.length->Pv i Z H->Sq H a xs)
  (hs:∀i x t Z H,xs[i]? = U x->Pv i Z H->H t=O->g (.ref t) Z (upd H t (.tup [.int i,x])) λσ2 H2=>tb {D with nx:=Pv (i+1),ct:=Pv (i+1),bk:=D.nx} σ2 H2) (hd:∀Z H,Pv xs.length Z H->D.nx Z H) :
  ∃W:Nat->Nat->St->Hp->Prop,(∃m,W 0 m Z H)/\∀i m Z H,W i m Z H ->
   ((qy Sq a).stop i H/\D.nx Z H)\/((qy Sq a).go i H/\∃N:St->Hp->Prop,(∀σ' H',N σ' H'->∃m',m'<m/\W (i+1) m' σ' H')/\∀x H',(qy Sq a).qC i H x H'->g x Z H' λσ2 H2=>tb {D with nx:=N,ct:=N,bk:=D.nx} σ2 H2):=by
 refine⟨λi m Z H=>m=xs.length-i/\i<=xs.length/\Pv i Z H,⟨xs.length,by simp,Pd _,h0⟩,?_⟩
 rintro i m Z H ⟨rfl,hi,p⟩
 have q:=hl i Z H hi p
 by_cases hlt:i<xs.length
 ·refine .inr ⟨⟨xs,xs[i],q,by simp⟩,Pv _,λσ' H' p'=>⟨xs.length-_,∅,rfl,hlt,p'⟩,λx H' y=>?_⟩
  obtain⟨t,x',rfl,ht,rfl,hx⟩:=y;exact hs i x' t Z H (hx xs q) p ht
 ·have e:i=xs.length:=∅
  subst e;exact .inl ⟨⟨xs,q,rfl⟩,hd Z H p⟩
def gC(ks:List Lk):List (Lk×Int):=ks.mapIdx λi k=>(k,(i:Int))
theorem uX(ks:List Lk):(gC ks).map (·.1)=ks:=by
 unfold gC;refine Q4 (by simp) λi h1 h2=>?_
 simp
theorem Lx(ks:List Lk):(gC ks).length=ks.length:=by simp[gC]
theorem XS{ks:List Lk}{k:Lk}(h:ks[i]? = U k):gC (ks.take (i+1))=gC (ks.take i)++[(k,(i:Int))]:=by
 have hi:=(OX.mp h).1;rw[VC,h];simp[gC];omega
def t7:ah:=λe c=>match e[2]? with
 |some (U (D.lst l))=>match pO l with
  |some ks=>if(dI ks).length<64/\e.length=6 then .ok (.nx [e.getD 0 O,e.getD 1 O,e.getD 2 O,U (.gb (gC (ff ks))),O,O]) c else .bad
  |none=>.bad
 |_=>.bad
def RkP(H0:Hp)(a:S)(s0 s1 s2:Option V)(ks:List Lk)(ys:List S)(i:Nat)(Z:St)(H:Hp):Prop :=
 ∃x y,(∀b o,H0 b=U o->b≠a->H b=U o)/\Z=[s0,s1,s2,U (.ref a),x,y]/\H a=U (.ext (gu a (gC (ks.take i)) (ys.take i)))
theorem Lr{α:Type}{l:List α}(h:l.length=6):∃a b d f g k,l=[a,b,d,f,g,k]:=by
 match l,h with
 |[a,b,d,f,g,k],_=>exact⟨a,b,d,f,g,k,rfl⟩
theorem fQ.take:∀{as:List S}{ks:List Lk}(n:Nat),fQ H as ks->fQ H (as.take n) (ks.take n)
 |[],[],n,_=>by simp;exact trivial
 |[],_::_,_,h=>h.elim
 |_::_,[],_,h=>h.elim
 |_::_,_::_,0,_=>trivial
 |_::_,_::_,n+1,h=>⟨h.1,fQ.take n h.2⟩
theorem HM(ks:List Lk):(ff ks).Nodup:=(tG ks).imp fun{a b} h e=>by subst e;rw[pK]at h;cases h
theorem ahj(ks:List Lk):(ff ks).length=(dI ks).length :=
 VD ((Se (HM ks) (yu .nil)).mpr λx=>by
  rw[uI,yE];simp)
abbrev aaC(X:Cx):TE:=xG (Jl X) (xF (xG (Jm X) (xF (qQ 2) xD)) xD)
theorem ahu{rest:List x6}(hA:PS X A (BA Hy (vn 3)))(hB:PS X B (Hx (DA (bf X.K) (xF (aaC X) xD)) (MU X.K 2 (Ec (vn 4) (Ec (vn 5) MV))) (IY (qQ 3) (qQ 5) (qQ 4))))(hr:bI X rest dr):bI X (A::B::rest) (aB t7 dr) :=
 (B7 hA (B7 hB hr)).imp λσ Z H h=>by
  obtain⟨ρ,e,c,W,VV,p⟩:=h;unfold aB t7 at p;cases he:e[2]? with
  |none=>rw[he]at p;exact p.elim
  |some od =>
   cases od with
   |none=>rw[he]at p;exact p.elim
   |some d =>
    cases d with
    |lst l =>
     rw[he]at p;dsimp only at p;cases hk:pO l with
     |none=>rw[hk]at p;exact p.elim
     |some ks =>
      rw[hk]at p;dsimp only at p
      by_cases sj:(dI ks).length<64/\e.length=6
      ·rw[if_pos sj]at p;have el:=Lb hk;subst el;obtain⟨v2,hv2,rd⟩:=VV.get 2 _ he;obtain⟨e0,e1,e2,e3,e4,e5,rfl⟩:=Lr sj.2;obtain⟨s0,s1,s2,s3,s4,s5,rfl⟩:=Lr (VV.len.symm.trans sj.2);cases he;cases hv2;obtain⟨b,ws,rfl,hb,rl⟩:=id rd;obtain⟨zs,rfl,hz⟩:=K9 rl;intro a ha;have M1:∀u o,H u=U o->upd H a (.ext (gu a [] [])) u=U o:=λu o z=>by rw[bz (λy=>by rw[y,ha]at z;cases z)];exact z
       refine⟨.ref b,rfl,b,zs,ks,rfl,bf.of (M1 b _ hb.1),by rw[M1 b _ hb.1];simp,λxs z=>(by rw[M1 b _ hb.1]at z;cases z),hz.mono λu xs z=>M1 u _ z,sj.1,λq L0 hq jQ mW=>?_⟩
       have M2:∀u o,upd H a (.ext (gu a [] [])) u=U o->upd (upd H a (.ext (gu a [] []))) q (.ext (mq X.w q L0)) u=U o:=λu o z=>by rw[bz (λy=>by rw[y,hq]at z;cases z)];exact z
       refine⟨q,L0,ks,rfl,eT,λz hz=>(jQ z hz).mono λu xs z=>M2 u _ z,mW,sj.1,λr ys hr' hp=>?_⟩
       have M3:∀u o,upd (upd H a (.ext (gu a [] []))) q (.ext (mq X.w q L0)) u=U o->upd (upd (upd H a (.ext (gu a [] []))) q (.ext (mq X.w q L0))) r (.lst (ys.map V.ref)) u=U o:=λu o z=>by rw[bz (λy=>by rw[y,hr']at z;cases z)];exact z
       have vd:upd (upd (upd H a (.ext (gu a [] []))) q (.ext (mq X.w q L0))) r (.lst (ys.map V.ref)) r=U (.lst (ys.map V.ref)):=eT;have zc:upd (upd (upd H a (.ext (gu a [] []))) q (.ext (mq X.w q L0))) r (.lst (ys.map V.ref)) a=U (.ext (gu a [] [])):=M3 _ _ (M2 _ _ eT);have hp3:=hp.mono λu xs z=>M3 u _ z
       have hM:∀u o,H u=U o->upd (upd (upd H a (.ext (gu a [] []))) q (.ext (mq X.w q L0))) r (.lst (ys.map V.ref)) u=U o:=λu o z=>M3 u o (M2 u o (M1 u o z))
       generalize upd (upd (upd H a (.ext (gu a [] []))) q (.ext (mq X.w q L0))) r (.lst (ys.map V.ref))=H2 at vd zc hp3 hM
       have hyl:=hp3.len;have hba:r≠a:=λz=>by rw[z,zc]at vd;cases vd
       have G6:∀{y:S}{xs:List V},H2 y=U (.tup xs)->y≠a:=fun{y xs} hy z=>by rw[z,zc]at hy;cases hy
       have hnd:=HM ks;have hsl:=ahj ks;refine⟨r,rfl,⟨_,bf.of vd⟩,aaH (xs:=ys.map V.ref) (RkP H2 a s0 s1 (U (.ref b)) (ff ks) ys) ⟨s4,s5,λb o h _=>h,rfl,?_⟩ (λi Z H' _ q=>?_) (λi x t Z H' hxi q ht=>?_) (λZ H' q=>?_)⟩
       ·simpa[gC]using zc
       ·obtain⟨_,_,M,_⟩:=q;exact bf.of (M r _ vd hba)
       ·obtain⟨x4,x5,M,rfl,hd⟩:=q;rw[PK]at hxi;cases u5:ys[i]? with
        |none=>rw[u5]at hxi;cases hxi
        |some y =>
         rw[u5]at hxi;cases hxi;have hi:i<(ff ks).length:=by rw[<-hyl];exact(OX.mp u5).1
         have hki:(ff ks)[i]? = U (ff ks)[i]:=O1 hi;have hlk:=hp3.at u5 hki;have tm:∀z xs,H2 z=U (.tup xs)->upd H' t (.tup [.int i,.ref y]) z=U (.tup xs):=λz xs hz=>by
          have h':=M z _ hz (G6 hz);rw[bz (λw=>by rw[w,ht]at h';cases h')]
          exact h'
         have hat:a≠t:=λw=>by rw[<-w,hd]at ht;cases ht
         refine⟨t,[.int i,.ref y],rfl,bO.of eT,rfl,.int i,[.ref y],rfl,.ref y,[],rfl,rfl,?_⟩;refine⟨.int i,rfl,.ref a,rfl,.ref y,rfl,a,gC ((ff ks).take i),ys.take i,y,(ff ks)[i],i,rfl,rfl,rfl,by rw[bz hat];exact hd,?_,?_,?_,?_,hlk.mono tm,?_⟩
         ·rw[uX];exact(hp3.take i).mono tm
         ·rw[uX];exact hnd.sublist (Sz _ _)
         ·rw[uX];intro hm;obtain⟨j,hj,ej⟩:=QF hm;simp at hj;rw[TM]at ej;have:=(Qf hnd).mp ej;omega
         ·rw[Lx,S3];omega
         ·refine⟨_,_,λz o hz L7=>?_,rfl,?_⟩
          ·have h':=M z o hz L7;rw[bz L7,bz (λw=>by rw[w,ht]at h';cases h')]
           exact h'
          ·rw[eT,XS hki,VC,u5];rfl
       ·obtain⟨x4,x5,M,rfl,hd⟩:=q;rw[O2,hyl,Q3,<-hyl,Q3]at hd;have MI:∀u o,H u=U o->H' u=U o:=λu o z=>M u o (hM u o z) (λw=>by rw[w,ha]at z;cases z)
        have E:Ext ρ H ρ H':=⟨λ_ _ z=>z,λu o z n _=>⟨MI u o z,n⟩⟩
        refine⟨ρ,[e0,e1,U (.lst (ks.map gm)),U (.gb (gC (ff ks))),O,O],c,W.WJ (λu o z _=>MI u o z),⟨λi g hg=>?_,rfl⟩,ah1 E p⟩
        match i,hg with
        |0,hg =>
         obtain⟨v,hv,r⟩:=VV.get 0 g hg;exact⟨v,hv,Rel.mono W E _ _ r⟩
        |1,hg =>
         obtain⟨v,hv,r⟩:=VV.get 1 g hg;exact⟨v,hv,Rel.mono W E _ _ r⟩
        |2,hg =>
         cases hg;exact⟨.ref b,rfl,Rel.mono W E _ _ rd⟩
        |3,hg =>
         cases hg;refine⟨.ref a,rfl,a,ys,rfl,hd,?_⟩;rw[uX];exact hp3.mono λz xs hz=>M z _ hz (G6 hz)
        |4,hg=>cases hg
        |5,hg=>cases hg
        |(n+6),hg=>simp at hg
      ·rw[if_neg sj]at p;exact p.elim
    |_=>rw[he]at p;exact p.elim
section
variable {X:Cx}{pos:Pos}
def aau(K:Ξ)(n:Nat)(t:kR):TG:=λv Z H Q=>∃a xs,v=.ref a/\bf K H a xs/\xs.length=n/\t xs Z H Q
theorem ai6(hc:X.calm=J)(h:nv X es t)(hn:(assignEach es X.env).length=n)(hst:(assignEach es X.env).findIdx? (·.1)=O):PG X (.Tuple es k pos) (aau X.K n t):=by
 intro pins s Z H v u Q I r hw;obtain⟨a,xs,e1,hq,hl,hw⟩:=hw;subst e1;cases r;obtain⟨its,rv,ht,hz⟩:=I.list hq;rw[assign_Tuple];refine Rc (T5 ?_);unfold unpack;have e:(assignEach es X.env).length=its.toArray.size:=by simp[hn,<-hl,rv.length]
 rw[e,hst];refine Rc (Pq (PySem.W.kun_itemsOf (I.ok.hd hc) ht.isList λh' hx=>?_))
 have I1:Inv X pins Z H {s with heap:=h'}:=I.kept (t':=s.toks) λb o e=>hx b o (O0 (Iv e)) e
 exact h pins _ Z H xs _ Q I1 (by simpa using rv) hw
def zj(n:Nat)(g:List D->Ev->aa->R Ev):Gd:=λx e c=>match x with
 |.lst l=>if l.length=n then g l e c else .bad
 |_=>.bad
theorem aaq{g:List D->Ev->aa->R Ev}(h:wz X es g)(hc:X.calm=J:=by rfl)(hn:(assignEach es X.env).length=n:=by rfl)(hst:(assignEach es X.env).findIdx? (·.1)=O:=by rfl):kU X (.Tuple es k pos) (zj n g) :=
 (ai6 hc h hn hst).imp λv Z H Q h=>by
  obtain⟨ρ,x,e,c,W,V,r,p⟩:=h;cases x with
  |lst l =>
   obtain⟨a,xs,rfl,s,rs⟩:=r;unfold zj at p;dsimp only at p;split at p
   ·rename_i hl;exact⟨a,xs,rfl,bf.of s.1,rs.length.trans hl,ρ,l,e,c,W,V,rs,p⟩
   ·exact p.elim
  |_=>exact p.elim
end
end L2
local macro_rules|`(⇑$x)=>`(L2.ao (L2.ak $x) L2.aq)
local macro_rules|`($x⊂$y)=>`(L2.ao (L2.ak $x) (L2.ao (L2.ak $y) L2.aq))
local macro_rules|`(↥$x)=>`(.int ($x :Int))
namespace Ev
open PySem L2 PyProof.Rows
def top(i:Nat):x6:=PySem.Challenge.pw_evenwebs_k63_orders_counted.main.body.getD i (.Pass ⟨0,0,0,0⟩)
abbrev Ik:x6:=top 4
abbrev Ie:x6:=top 5
abbrev Ig:x6:=top 6
abbrev xQ:x6:=top 7
abbrev IV:x6:=top 9
abbrev IL:x6:=top 10
abbrev Ii:x6:=top 11
abbrev IM:x6:=top 12
abbrev IU:x6:=top 13
abbrev IK:x6:=top 14
abbrev Io:x6:=top 18
abbrev Ih:x6:=top 19
abbrev Iq:x6:=top 20
abbrev IS:x6:=top 21
abbrev IX:x6:=top 22
abbrev IQ:x6:=top 23
abbrev Ij:x6:=top 24
abbrev IW:x6:=top 25
abbrev IP:x6:=top 26
abbrev Im:x6:=top 27
abbrev BU:x6:=top 28
abbrev Il:x6:=top 29
abbrev Ip:x6:=top 30
abbrev IF:x6:=top 32
abbrev IB:x6:=top 33
abbrev Iw:x6:=top 34
abbrev ID:x6:=top 35
abbrev BR:x6:=top 36
abbrev Iz:x6:=top 37
abbrev IE:x6:=top 38
abbrev IC:x6:=top 39
abbrev BP:x6:=top 40
abbrev BN:x6:=top 41
abbrev II:x6:=top 42
abbrev IG:x6:=top 43
abbrev IA:x6:=top 44
abbrev Ir:x6:=top 45
abbrev BO:x6:=top 46
abbrev BS:x6:=top 47
abbrev Iu:x6:=top 48
abbrev BQ:x6:=top 49
abbrev IJ:x6:=top 50
def XO(st:x6):μ:=match(iO st).getLast? with
 |some (.Return (U (.Call _ [_,e] _ _)) _)=>e
 |_=>.Name "" ⟨0,0,0,0⟩
def Gr:μ:=XO xQ
def pR:af :=
 (av iH (ak 1) (av aG (ak 2) (ak 0)))
def lams:List (μ×List Str×(List D->aa->R D)):=[(Gr,["web"],Dg pR)]
def Am:ah :=
 (aS (aK fc (ao (aX (bu ⇑0) [O,U 1,U 2] (aA 0) (kN (aI (av fL (ak 0) (ak 1))) (aI (qj 2 2 lams (1⊂0)))) (ak 0)) aq)))
def jN:List D->aa->R D:=bJ 3 Δ Am
def Ai:ah :=
 (aS (aK fc (ao (aX (bu ⇑0) [O,U 0,U 1] (aA 0) aY (aD 3 jN (ao (ak 1) (0⊂2)))) aq)))
def rF:List D->aa->R D:=bJ 2 Δ Ai
def Aj:ah :=
 (aB (aE 1 (fN aq)) (aB (bL (qi ⇑0) (fy 2 (b9 (aA 2) (b9 (aA 3) fB))) (fh (gG (ak 1) (aX (g6 (ak 3)) [O,U 2] (aA 0) (aI (av kB (ak 1) (ak 0))) (bZ (1⊂0)))))) (aS (ak 1))))
def uK:List D->aa->R D:=bJ 4 Δ Aj
def Ao:ah :=
 (aS (z7 0 rF (aK aT ⇑0) Gr ["web"] [0]))
def yG:List D->aa->R D:=bJ 1 Δ Ao
def AK:ah :=
 (aS (sE (ao (av aG (ak 0) (ak 1)) aq) (ao (av aG (ak 0) (ak 2)) aq)))
def nZ:List D->aa->R D:=bJ 3 Δ AK
def AF:ah :=
 (aB (bL (qi ⇑0) (fy 2 (b9 (aA 1) (b9 (aA 2) fB))) (bC (aI (av fL (aK aT ⇑2) (aK aT (ao (av aG (ak 0) (dC (.int 0))) aq)))) (aS (ak 1)) bQ)) (aS (dC .aF)))
def uR:List D->aa->R D:=bJ 3 Δ AF
def Ak:ah :=
 (aS (sF (z6 (ak 1)) (aD 3 nZ (ao (ak 0) (ao (av aG (av aG (ak 1) (dC (.int 0))) (dC (.int 0))) (ao (av aG (av aG (ak 1) (dC (.int 0))) (dC (.int 1))) aq)))) (dC .aF)))
def lE:List D->aa->R D:=bJ 2 Δ Ak
def AG:ah :=
 (aB (aE 2 (aD 2 lE (0⊂1))) (aB (bL (dF (ak 1)) (aA 3) (bC (aI (av fL (aD 3 nZ (ao (ak 0) (ao (av aG (ak 3) (dC (.int 0))) (ao (av aG (ak 3) (dC (.int 1))) aq)))) (ak 2))) (aS (ak 3)) bQ)) (aS (dC .aF))))
def uS:List D->aa->R D:=bJ 4 Δ AG
def AJ:ah :=
 (aB (aE 1 (aD 1 uR ⇑0)) (aB (bC (aI (av iJ (ak 1) (dC .aF))) (aS (bZ (ao (dC (.str "place")) ⇑1))) bQ) (aB (aE 2 (aD 1 uK ⇑0)) (aB (aE 3 (aD 1 uK (ao (aD 1 yG ⇑0) aq))) (aB (bL (g6 (bZ (ao (bZ (ao (dC (.str "tied")) ⇑2)) (ao (bZ (ao (dC (.str "apart")) ⇑3)) aq)))) (fy 2 (b9 (aA 4) (b9 (aA 5) fB))) (aB (aE 6 (aD 2 uS (0⊂5))) (bC (aI (av iJ (ak 6) (dC .aF))) (aS (bZ (ao (ak 4) (ao (av aG (ak 6) (dC (.int 0))) (ao (av aG (ak 6) (dC (.int 1))) aq))))) bQ))) (aS (bZ (ao (dC (.str "even")) (ao (bZ (ao (aK aT ⇑0) (ao (aK aT (ao (av aG (ak 0) (dC (.int 0))) aq)) (ao (aD 2 lE (0⊂2)) (ao (aD 2 lE (0⊂3)) aq))))) aq)))))))))
def rO:List D->aa->R D:=bJ 7 Δ AJ
def E2:ah :=
 (aS (av bH (av aG (aD 1 rO ⇑0) (dC (.int 0))) (dC (.str "even"))))
def rM:List D->aa->R D:=bJ 1 Δ E2
def EY:ah :=
 (aS (aK fc (ao (aX (g6 (ak 0)) [O,U 1] (aA 0) aY (av aZ (ak 1) (ak 0))) aq)))
def uN:List D->aa->R D:=bJ 2 Δ EY
def EX:ah :=
 (aS (av Ag (ak 0) (aK fc (ao (aX (g6 (ak 1)) [O,U 0] (aA 0) aY (aD 2 uN (ao (ak 0) (ao (aK aT ⇑1) aq)))) aq))))
def uL:List D->aa->R D:=bJ 2 Δ EX
def EZ:ah :=
 (aS (bZ (ao (av aG (ak 1) (ak 2)) (ao (aK fc (ao (aK nK (ao (aX (g6 (av aG (ak 0) (ak 2))) [O,U 1] (aA 0) aY (av aG (ak 1) (ak 0))) aq)) aq)) aq))))
def uO:List D->aa->R D:=bJ 3 Δ EZ
def AI:ah :=
 (aB (aE 2 (aX (bu (ao (aK aT ⇑0) aq)) [O,U 0,U 1] (aA 0) aY (aD 3 uO (ao (ak 1) (2⊂0))))) (aB t7 (aS (aX (dF (ak 2)) [O,U 3] (aA 0) aY (av pT (ak 1) (ak 0))))))
def pJ:List D->aa->R D:=bJ 6 Δ AI
def AL:ah :=
 (aB (aE 1 (av dX (aK aT ⇑0) (dC (.int 2)))) (aS (av kL (aK nK (ao (qg (ak 0) qh (oO (ak 1))) aq)) (aK nK (ao (qg (ak 0) (oO (ak 1)) qh) aq)))))
def lG:List D->aa->R D:=bJ 2 Δ AL
def AH:ah :=
 (aB (aE 2 (ak 1)) (aB (aE 3 (aD 2 pJ (0⊂2))) (aB (l7 (kN (aI (aD 1 lG ⇑3)) (aI (av jR (lS ⇑3) (lS ⇑2)))) (aB (aE 2 (ak 3)) (aE 3 (aD 2 pJ (0⊂2)))) 40) (aS (ak 3)))))
def mK:List D->aa->R D:=bJ 4 Δ AH
def Al:ah :=
 (aB (aE 3 (av aZ (aK uJ ⇑0) (dC (.int 1)))) (aS (aX (ED ⇑0) [O,O,U 3,U 1,U 2] (fy 2 (b9 (aA 0) (b9 (aA 1) fB))) aY (sF (aI (av inD (ak 0) (bZ (3⊂4)))) (ak 2) (ak 1)))))
def ko:List D->aa->R D:=bJ 4 Δ Al
def E4:ah :=
 (aS (av kL (aX (g6 (av aG (ak 0) (ak 1))) [O,U 2] (aA 0) (aI (av fL (ak 0) (ak 1))) (ak 0)) (aX (g6 (av aG (ak 0) (ak 2))) [O,U 1] (aA 0) (aI (av fL (ak 0) (ak 1))) (ak 0))))
def rP:List D->aa->R D:=bJ 3 Δ E4
def E3:ah :=
 (aB (aE 2 (av dX (aK aT ⇑0) (dC (.int 2)))) (aB (bL (bu ⇑2) (aA 3) (bC (gw (aI (aK oW (ao (aX (bu ⇑2) [O,U 0,U 3,U 1] (aA 0) (aI (av bH (av aG (ak 3) (ak 0)) (av aG (ak 3) (ak 2)))) (aD 3 rP (ao (ak 1) (2⊂0)))) aq)))) (aS (ak 3)) bQ)) (aS (dC .aF))))
def ku:List D->aa->R D:=bJ 4 Δ E3
def Aq:ah :=
 (aB (aE 1 (av dX (aK aT ⇑0) (dC (.int 2)))) (aB (aE 2 (fN aq)) (aB (bL (bu ⇑1) (aA 3) (aB (aE 4 (aX (bu ⇑1) [O,U 0,U 3,U 1] (aA 0) (aI (av bH (av aG (ak 1) (av aZ (ak 3) (ak 0))) (av aG (ak 1) (ak 2)))) (ak 0))) (fh (lT (ak 2) (aK uH (ao (aX (dF (ak 4)) [O,U 2] (aA 0) (aI (av iH (ak 0) (ak 1))) (ak 0)) aq)))))) (aS (aK fc ⇑2)))))
def uM:List D->aa->R D:=bJ 5 Δ Aq
def nh(m:List D->aa->R D):ah :=
 (aB (aE 2 (aD 2 mK (0⊂1))) (aB (bC (gw (aI (aD 1 lG ⇑2))) (aS (dC .aF)) bQ) (aB (aE 3 (aD 2 ku (0⊂2))) (aB (bC (aI (av mU (ak 3) (dC .aF))) (aS (aD 1 uM ⇑2)) bQ) (aB (bL (gv (ao (av dX (aK aT ⇑0) (dC (.int 2))) (ao (aK aT ⇑0) aq))) (aA 4) (bC (aI (av bH (av aG (ak 2) (ak 4)) (av aG (ak 2) (ak 3)))) (aB (aE 5 (aD 2 m (ao (ak 0) (ao (aD 3 ko (ao (ak 2) (3⊂4))) aq)))) (bC (aI (av iJ (ak 5) (dC .aF))) (aS (ak 5)) bQ)) bQ)) (aS (dC .aF)))))))
def iu:Nat->List D->aa->R D
 |0=>λ_ _=>.bad
 |k+1=>bJ 6 Δ (nh (iu k))
def An:ah :=
 (bC (kM (aI (av jR (aK aT ⇑0) (ak 2))) (kN (aI (av jR (aK aT ⇑0) (ak 1))) (gw (aI (aD 1 rM ⇑0))))) BX bQ)
def jl:List D->aa->R D:=bJ 3 Δ An
def Ar:ah :=
 (aB (fh (aD 3 jl (ao (ak 0) (ao (dC (.int 10)) (ao (dC (.int 16)) aq))))) (aB (aE 1 (aK aT ⇑0)) (aB (aE 2 (aD 2 uL (0⊂0))) (aB (aE 3 (av qV (bV (ao (dC (.int 0)) aq)) (av bY (dC (.int 2)) (ak 1)))) (aB (aE 4 (dC (.int 1))) (aB (bL (bu ⇑1) (aA 5) (aB (aE 6 (aX (bu ⇑1) [O,U 3,U 5,U 1] (aA 0) aY (aD 3 ko (ao (ak 1) (ao (ak 2) (ao (av aZ (ak 3) (ak 0)) aq)))))) (aB (aE 4 (av bY (ak 4) (aK aT (ao (aX (dF (ak 6)) [O,U 2] (aA 0) (aI (av iJ (aD 2 (iu 18) (1⊂0)) (dC .aF))) (ak 0)) aq)))) (aE 3 (av aG (ak 6) (ak 5)))))) (aS (ak 4))))))))
def jO:List D->aa->R D:=bJ 7 Δ Ar
def wc:ah :=
 (aB (bC (aI (av kB (ak 1) (aK aT ⇑0))) (aS (av aG (ak 0) (ak 1))) bQ) (aS (dC (.int 0))))
def rJ:List D->aa->R D:=bJ 2 Δ wc
def vW:ah :=
 (aB (bC (aI (av MQ (ak 0) (av qW (dC (.int 10)) (dC (.int 18))))) (aS (fN (ao (av k6 (ak 0) (av qW (dC (.int 10)) (dC (.int 18)))) aq))) bQ) (aB (aE 1 (dC (.int 0))) (aB (bL (bu (ao (dC (.int 64)) aq)) (aA 2) (aB (aE 3 (av fq (av bY (av aZ (av aZ (av fq (ak 0) (dC (.int 2147483629))) (av bY (dC (.int 7919)) (ak 2))) (dC (.int 1))) (dC (.int 48271))) (dC (.int 2147483647)))) (aB (aE 3 (av fq (av aZ (av aZ (av bY (ak 3) (ak 3)) (av bY (dC (.int 69621)) (ak 2))) (dC (.int 7))) (dC (.int 2147483587)))) (aE 1 (av aZ (av bY (ak 1) (dC (.int 2147483587))) (ak 3)))))) (aS (fN ⇑1)))))
def rG:List D->aa->R D:=bJ 4 J vW
def vV:ah :=
 (aB (aE 2 (av fq (av aG (ak 0) (dC (.int 0))) (ak 1))) (aB (iW (av dX (av aG (ak 0) (dC (.int 0))) (ak 1)) (jT (ak 0) (dC (.int 0)))) (aS (ak 2))))
def b8:List D->aa->R D:=bJ 3 Δ vV
def AA:ah :=
 (aB (aE 2 (fN aq)) (aB (bL (bu ⇑1) (aA 3) (fh (vO (ak 2) (aD 2 b8 (ao (ak 0) (ao (av aZ (ak 3) (dC (.int 1))) aq))) (ak 3)))) (aS (aK fc ⇑2))))
def nX:List D->aa->R D:=bJ 4 Δ AA
def E1:ah :=
 (aB (aE 2 (aX (bu ⇑0) [O,U 0] (aA 0) aY (av nP (bV (ao (dC (.bl Δ)) aq)) (ak 1)))) (aB (bL (dF (ak 1)) (fy 2 (b9 (aA 3) (b9 (aA 4) fB))) (aB (iW (dC (.bl J)) (jT (av aG (ak 2) (ak 3)) (ak 4))) (iW (dC (.bl J)) (jT (av aG (ak 2) (ak 4)) (ak 3))))) (aS (ak 2))))
def nY:List D->aa->R D:=jV 5 E1
def Aw:ah :=
 (aB (aE 2 (av aZ (dC (.int 1)) (aD 2 b8 (0⊂1)))) (aB (aE 3 (av aZ (dC (.int 1)) (aD 2 b8 (ao (ak 0) (ao (dC (.int 5)) aq))))) (aB (aE 4 (fN aq)) (aB (bL (bu ⇑2) (aA 5) (fh (gG (ak 4) (aX (gv (ao (av aZ (ak 5) (dC (.int 1))) ⇑2)) [O,U 5,U 3,U 0] (aA 0) (aI (av kB (aD 2 b8 (ao (ak 3) (ao (dC (.int 6)) aq))) (ak 2))) (bZ (1⊂0)))))) (aS (aD 2 nY (2⊂4)))))))
def yI:List D->aa->R D:=bJ 6 Δ Aw
def vX:ah :=
 (aB (aE 2 (fN aq)) (aB (bL (bu ⇑0) (aA 3) (bL (gv (ao (av aZ (ak 3) (dC (.int 1))) ⇑0)) (aA 4) (bC (aI (aK nj (ao (aX (dF (av aG (ak 1) (ak 3))) [O,U 1,U 4] (aA 0) aY (av inD (ak 0) (av aG (ak 1) (ak 2)))) aq))) (fh (lT (ak 2) (bZ (3⊂4)))) bQ))) (aS (ak 2))))
def kr:List D->aa->R D:=bJ 5 Δ vX
def Az:ah :=
 (aB (aE 2 (aD 2 b8 (ao (ak 0) (ao (dC (.int 6)) aq)))) (aB (aE 3 (av aZ (dC (.int 1)) (aD 2 b8 (0⊂1)))) (aB (aE 4 (fN aq)) (aB (bC (aI (av bH (ak 2) (dC (.int 0)))) (aB (aE 5 (aX (gv (ao (dC (.int 1)) (ao (av aZ (av dX (ak 3) (dC (.int 2))) (dC (.int 1))) aq))) [O,U 0] (aA 0) (aI (av bH (aD 2 b8 (ao (ak 1) (ao (dC (.int 2)) aq))) (dC (.int 1)))) (ak 0))) (bL (dF (ak 5)) (aA 6) (fh (gG (ak 4) (aX (bu ⇑3) [O,U 3,U 6] (aA 0) aY (bZ (ao (ak 0) (ao (av fq (av aZ (ak 0) (ak 2)) (ak 1)) aq)))))))) (bC (aI (av bH (ak 2) (dC (.int 1)))) (aB (aE 7 (av aG (bV (ao (dC (.int 2)) (ao (dC (.int 3)) (ao (dC (.int 4)) (ao (dC (.int 5)) aq))))) (aD 2 b8 (ao (ak 0) (ao (dC (.int 4)) aq))))) (aB (aE 8 (fN aq)) (aB (bL (bu ⇑7) (aA 9) (fh (gG (ak 8) (aX (gv (ao (av aZ (ak 9) (dC (.int 1))) ⇑7)) [O,U 9] (aA 0) aY (bV (1⊂0)))))) (aB (aE 3 (aK kj (ao (aK aT ⇑8) ⇑1))) (aE 4 (aD 2 kr (3⊂8))))))) (bC (aI (av kB (ak 2) (dC (.int 4)))) (aB (aE 10 (av aZ (dC (.int 1)) (aD 2 b8 (ao (ak 0) (ao (aK kj (ao (dC (.int 4)) ⇑1)) aq))))) (aB (aE 11 (av aZ (dC (.int 1)) (aD 2 b8 (ao (ak 0) (ao (aK kj (ao (dC (.int 4)) (ao (av dX (ak 1) (ak 10)) aq))) aq))))) (aB (aE 3 (av bY (ak 10) (ak 11))) (aB (aE 8 (aX (bu ⇑3) [O,U 11] (aA 0) aY (bV (ao (av dX (ak 0) (ak 1)) aq)))) (aB (bC (aI (av bH (ak 2) (dC (.int 2)))) (aE 8 (aX (bu ⇑3) [O,U 11] (aA 0) aY (bV (ao (av dX (ak 0) (ak 1)) (ao (av aZ (dC (.int 10)) (av fq (ak 0) (ak 1))) aq))))) bQ) (aE 4 (aD 2 kr (3⊂8)))))))) (bC (aI (av bH (ak 2) (dC (.int 4)))) (aB (aE 3 (aK kj (ao (ak 1) (ao (av aG (bV (ao (dC (.int 5)) (ao (dC (.int 13)) aq))) (aD 2 b8 (ao (ak 0) (ao (dC (.int 2)) aq)))) aq)))) (aB (aE 12 (aX (gv (ao (dC (.int 1)) ⇑3)) [O,U 3] (aA 0) aY (av fq (av bY (ak 0) (ak 0)) (ak 1)))) (bL (bu ⇑3) (aA 9) (fh (gG (ak 4) (aX (gv (ao (av aZ (ak 9) (dC (.int 1))) ⇑3)) [O,U 9,U 12,U 3] (aA 0) (aI (av inD (av fq (av k6 (ak 0) (ak 1)) (ak 3)) (ak 2))) (bZ (1⊂0)))))))) (aB (aE 3 (aK kj (ao (dC (.int 8)) ⇑1))) (aB (bL (bu ⇑3) (aA 9) (fh (gG (ak 4) (aX (gv (ao (av aZ (ak 9) (dC (.int 1))) ⇑3)) [O,U 9] (aA 0) (aI (av inD (av k6 (ak 0) (ak 1)) (bZ (ao (dC (.int 1)) (ao (dC (.int 2)) (ao (dC (.int 4)) aq)))))) (bZ (1⊂0)))))) (aE 4 (aX (dF (ak 4)) [O,O] (fy 2 (b9 (aA 0) (b9 (aA 1) fB))) (aI (av bH (av wk (ak 0) (ak 1)) (ak 0))) (bZ (0⊂1)))))))))) (aS (aD 2 nY (3⊂4)))))))
def yJ:List D->aa->R D:=bJ 13 Δ Az
def AB:ah :=
 (aB (aE 2 (aK aT ⇑0)) (aB (aE 3 (aX (bu ⇑2) [O,U 2] (aA 0) aY (av nP (bV (ao (dC (.bl Δ)) aq)) (ak 1)))) (aB (bL (bu ⇑2) (aA 4) (bL (bu ⇑2) (aA 5) (iW (av aG (av aG (ak 0) (ak 4)) (ak 5)) (jT (av aG (ak 3) (av aG (ak 1) (ak 4))) (av aG (ak 1) (ak 5)))))) (aS (ak 3)))))
def rH:List D->aa->R D:=jV 6 AB
def Au:ah :=
 (aB (aE 3 (aX (dF (ak 0)) [O] (aA 0) aY (aK rS ⇑0))) (aB (iW (oQ (av aG (av aG (ak 3) (ak 1)) (ak 2))) (jT (av aG (ak 3) (ak 1)) (ak 2))) (aB (iW (oQ (av aG (av aG (ak 3) (ak 2)) (ak 1))) (jT (av aG (ak 3) (ak 2)) (ak 1))) (aS (ak 3)))))
def uP:List D->aa->R D:=jV 4 Au
def AE:ah :=
 (aB (aE 1 (aK aT ⇑0)) (aS (aX (bu ⇑1) [O,U 1,U 0] (aA 0) aY (aX (bu ⇑1) [O,U 0,U 2] (aA 0) aY (m7 (av fL (ak 1) (ak 0)) (oQ (av aG (av aG (ak 2) (ak 1)) (ak 0))))))))
def rL:List D->aa->R D:=bJ 2 Δ AE
def AD:ah :=
 (aB (bC (aI (av kB (aD 2 b8 (ao (ak 0) (ao (dC (.int 5)) aq))) (dC (.int 2)))) (aE 2 (aD 2 yI (0⊂1))) (aE 2 (aD 2 yJ (0⊂1)))) (aB (aE 3 (aK aT ⇑2)) (aB (bC (aI (av bH (aD 2 b8 (ao (ak 0) (ao (dC (.int 3)) aq))) (dC (.int 0)))) (aE 2 (aD 1 rL ⇑2)) bQ) (aB (bC (kN (aI (av jR (ak 3) (dC (.int 1)))) (aI (av bH (aD 2 b8 (ao (ak 0) (ao (dC (.int 4)) aq))) (dC (.int 0))))) (aB (aE 4 (aD 2 b8 (0⊂3))) (aE 2 (aD 3 uP (ao (ak 2) (ao (ak 4) (ao (av fq (av aZ (av aZ (ak 4) (dC (.int 1))) (aD 2 b8 (ao (ak 0) (ao (av k6 (ak 3) (dC (.int 1))) aq)))) (ak 3)) aq)))))) bQ) (aS (aD 2 rH (ao (ak 2) (ao (aD 2 nX (0⊂3)) aq))))))))
def rK:List D->aa->R D:=bJ 5 Δ AD
def Ay:ah :=
 (aS (aK fc (ao (aX (dF (ak 0)) [O,U 0] (aA 0) aY (aK fc (ao (aX (bu (ao (aK aT ⇑1) aq)) [O,U 0] (aA 0) (aI (av aG (ak 1) (ak 0))) (ak 0)) aq))) aq)))
def nW:List D->aa->R D:=bJ 1 Δ Ay
def As:ah :=
 (aS (m7 (aK cj (ao (ak 0) (ao (dC (.ty "int")) aq))) (oQ (aK cj (ao (ak 0) (ao (dC (.ty "bool")) aq))))))
def yH:List D->aa->R D:=bJ 1 Δ As
def Ax(m:List D->aa->R D):ah :=
 (aB (bC (aI (av mU (ak 1) (dC .aF))) (aS (av mU (ak 0) (dC .aF))) bQ) (aB (bC (aI (aK cj (ao (ak 1) (ao (dC (.ty "bool")) aq)))) (aS (m7 (aK cj (ao (ak 0) (ao (dC (.ty "bool")) aq))) (av bH (ak 0) (ak 1)))) bQ) (aB (bC (aI (aK cj (ao (ak 1) (ao (dC (.ty "int")) aq)))) (aS (m7 (aD 1 yH ⇑0) (av bH (ak 0) (ak 1)))) bQ) (aB (bC (aI (aK cj (ao (ak 1) (ao (dC (.ty "str")) aq)))) (aS (m7 (aK cj (ao (ak 0) (ao (dC (.ty "str")) aq))) (av bH (ak 0) (ak 1)))) bQ) (aB (bC (kM (aI (av fL (aK cj (ao (ak 1) (ao (dC (.ty "tuple")) aq))) (aK cj (ao (ak 0) (ao (dC (.ty "tuple")) aq))))) (aI (av fL (aK cj (ao (ak 1) (ao (dC (.ty "list")) aq))) (aK cj (ao (ak 0) (ao (dC (.ty "list")) aq)))))) (aS (dC (.bl Δ))) bQ) (aS (m7 (av bH (aK aT ⇑0) (aK aT ⇑1)) (aK oW (ao (aX (vN (0⊂1)) [O,O] (fy 2 (b9 (aA 0) (b9 (aA 1) fB))) aY (aD 2 m (0⊂1))) aq)))))))))
def kq:Nat->List D->aa->R D
 |0=>λ_ _=>.bad
 |k+1=>bJ 2 Δ (Ax (kq k))
def vZ(m:List D->aa->R D):ah :=
 (aB (aE 2 (aK aT ⇑1)) (aB (bC (aI (av bH (ak 2) (aK aT ⇑0))) (aS (dC (.int 1))) bQ) (aB (aE 3 (dC (.int 0))) (aB (bL (bu (ao (aK aT ⇑0) aq)) (aA 4) (bC (kN (aI (av iH (ak 4) (ak 1))) (aI (av kL (aX (dF (ak 1)) [O,U 0,U 4] (aA 0) aY (av aG (av aG (ak 1) (ak 2)) (ak 0))) (qg (av aG (ak 0) (ak 2)) qh (oO (ak 2)))))) (aE 3 (av aZ (ak 3) (aD 2 m (ao (ak 0) (ao (av sI (ak 1) (bV ⇑4)) aq))))) bQ)) (aS (ak 3))))))
def lF:Nat->List D->aa->R D
 |0=>λ_ _=>.bad
 |k+1=>bJ 5 Δ (vZ (lF k))
def Av:ah :=
 (aB (aE 1 (dC (.int 1))) (aB (bL (gv (ao (dC (.int 2)) (ao (av aZ (ak 0) (dC (.int 1))) aq))) (aA 2) (aE 1 (av bY (ak 1) (ak 2)))) (aS (ak 1))))
def gB:List D->aa->R D:=bJ 3 Δ Av
def vY:ah :=
 (aB (aE 1 (aD 2 b8 (ao (ak 0) (ao (dC (.int 5)) aq)))) (aB (bC (aI (av bH (ak 1) (dC (.int 0)))) (aB (aE 2 (av aZ (dC (.int 4)) (aD 2 b8 (ao (ak 0) (ao (dC (.int 7)) aq))))) (aS (bV (ao (aX (bu ⇑2) [O,U 2] (aA 0) aY (bV (ao (ak 0) (ao (av fq (av aZ (ak 0) (dC (.int 1))) (ak 1)) aq)))) (ao (av bY (dC (.int 2)) (ak 2)) aq))))) bQ) (aB (bC (aI (av bH (ak 1) (dC (.int 1)))) (aB (aE 3 (av aZ (dC (.int 2)) (aD 2 b8 (ao (ak 0) (ao (dC (.int 3)) aq))))) (aS (bV (ao (aX (bu (ao (av bY (ak 3) (ak 3)) aq)) [O,U 3] (aA 0) aY (bV (ao (av dX (ak 0) (ak 1)) (ao (av aZ (dC (.int 10)) (av fq (ak 0) (ak 1))) aq)))) (ao (av bY (av bY (dC (.int 2)) (aD 1 gB ⇑3)) (aD 1 gB ⇑3)) aq))))) bQ) (aB (bC (aI (av bH (ak 1) (dC (.int 2)))) (aB (aE 4 (av aZ (dC (.int 4)) (aD 2 b8 (ao (ak 0) (ao (dC (.int 2)) aq))))) (aB (aE 5 (fN aq)) (aB (bL (bu ⇑4) (aA 6) (fh (gG (ak 5) (aX (gv (ao (av aZ (ak 6) (dC (.int 1))) ⇑4)) [O,U 6] (aA 0) aY (bV (1⊂0)))))) (aS (bV (ao (ak 5) (ao (av aG (bV (ao (dC (.int 48)) (ao (dC (.int 120)) aq))) (av k6 (ak 4) (dC (.int 4)))) aq))))))) bQ) (aB (aE 7 (av aZ (dC (.int 1)) (aD 2 b8 (ao (ak 0) (ao (dC (.int 4)) aq))))) (aB (aE 8 (av aZ (dC (.int 1)) (aD 2 b8 (ao (ak 0) (ao (dC (.int 2)) aq))))) (aB (aE 9 (aD 1 gB ⇑7)) (aB (bL (bu ⇑7) (aA 10) (aE 9 (av bY (ak 9) (aD 1 gB ⇑8)))) (aB (bC (kM (aI (av bH (ak 8) (dC (.int 1)))) (aI (av bH (ak 7) (dC (.int 1))))) (aE 9 (aD 1 gB (ao (av bY (ak 7) (ak 8)) aq))) bQ) (aS (bV (ao (aX (bu (ao (av bY (ak 7) (ak 8)) aq)) [O,U 8] (aA 0) aY (bV (ao (av dX (ak 0) (ak 1)) aq))) ⇑9))))))))))))
def yK:List D->aa->R D:=jV 11 vY
def we:ah :=
 (aB (bL (bu (ao (aK rE (ao (dC (.int 1)) (ao (aK kj (ao (aK aT ⇑0) (ao (dC (.int 6)) aq))) aq))) aq)) (aA 1) (aB (aE 2 (aD 1 rG (ao (aD 2 rJ (0⊂1)) aq))) (aB (aE 3 (aD 2 rK (ao (ak 2) (ao (dC (.int 6)) aq)))) (aB (bC (gw (aI (aD 2 (kq 3) (ao (aD 1 jO (ao (aD 1 nW ⇑3) aq)) (ao (aD 2 (lF 8) (ao (ak 3) (ao (bV aq) aq))) aq))))) (aS (dC (.bl Δ))) bQ) (aB (iW (aD 1 yK ⇑2) (zj 2 (b9 (aA 4) (b9 (aA 5) fB)))) (aB (aE 3 (aD 2 rH (ao (aD 2 nY (ao (aK aT ⇑4) (ao (aD 2 kr (ao (aK aT ⇑4) ⇑4)) aq))) (ao (aD 2 nX (ao (ak 2) (ao (aK aT ⇑4) aq))) aq)))) (bL (bu (ao (dC (.int 2)) aq)) (aA 6) (bC (gw (aI (aD 2 (kq 3) (ao (aD 1 jO (ao (aD 1 nW ⇑3) aq)) ⇑5)))) (aS (dC (.bl Δ))) bQ)))))))) (aS (av bH (aD 1 jO (ao (bZ (ao (bZ aq) aq)) aq)) (dC (.int 1)))))
def uQ:List D->aa->R D:=bJ 7 Δ we
end Ev
namespace L2
open PySem PySem.Spec PyProof.Rows
structure Dd (K:Ξ) (mg:Str->Option L) (x:Str) (st:x6) (ps:List Str) where
 a:S
 fd:PU
 d:Def K mg x st ps a fd
 n:υ K ι x=U (U (.ref a))
section
variable {K:Ξ}{mg:Str->Option L}{x:Str}{st:x6}{ps:List Str}{f:S}{h:π}
def FA(K:Ξ)(x:Str)(st:x6)(f:S):Prop:=υ K ι x=U (U (.ref f))/\∃(oc:L) (od:Option S) (kV dc pm:L) (an:Option S) (cd ct:L) (sl:Array (Option L)),K.lookup f=U ⟨oc,od,.func (PySem.W.fnOf x x (oN st) (iO st) (cZ st) .none kV dc pm an cd ct),sl⟩/\PySem.W.codeIn K cd x=J/\PySem.W.keepIn K (.ref f)=J
theorem FA.mk{kV:L}(a:υ K ι x=U (U (.ref f)))(l:K.lookup f=U ⟨oc,od,.func (PySem.W.fnOf x x (oN st) (iO st) (cZ st) .none kV dc pm an cd ct),sl⟩)(c:PySem.W.codeIn K cd x=J)(k:PySem.W.keepIn K (.ref f)=J):FA K x st f:=⟨a,_,_,_,_,_,_,_,_,_,l,c,k⟩
theorem FA.fn(A:FA K x st f):∃fd,l5 K x x st f fd:=by
 obtain⟨_,oc,od,kV,dc,pm,an,cd,ct,sl,l,c,k⟩:=A;exact⟨_,aay l c k⟩
def cz(X:K.In h)(G:h.Ns ι mg)(A:FA K x st f)(hb:∀(kV doc pm:L) (an:Option S) (cdv ct:L) (us:List L),us.length=ps.length->bindArgs (PySem.W.fnOf x x (oN st) (iO st) (cZ st) .none kV doc pm an cdv ct) ⟨us,[]⟩=pure (ps.zip us):=by
  intro _ _ _ _ _ _ us hl
  rcases us with _|⟨_,_|⟨_,_|⟨_,_|⟨_,_|⟨_,_⟩⟩⟩⟩⟩<;>first|(simp at hl;done)|rfl):Dd K mg x st ps :=
 ⟨f,A.fn.choose,⟨A.fn.choose_spec,Tq X G A.1,A.fn.choose_spec.binds hb⟩,A.1⟩
theorem XF(D:Dd K mg x st [p])(DR:mg x=U (.ref f))(ok:∀base:π,d9 P w K mg base c9 k D.a D.fd [p] sp)(hb:∀(kV doc pm:L) (an:Option S) (cdv ct v:L),bindArgs (PySem.W.fnOf x x (oN st) (iO st) (cZ st) .none kV doc pm an cdv ct) ⟨[v],[]⟩=pure [(p,v)]:=by exact λ_ _ _ _ _ _ _=>rfl):
  ∃fd:PU,(∀(s:Ψ) (v:L),RU s fd ⟨[v],[]⟩ [(p,v)])/\∀base:π,K.In base->base.Ns ι mg->d9 P w K mg base c9 k f fd [p] sp:=by
 cases(DR.symm.trans D.d.at');obtain⟨oc,od,kV,doc,pm,an,cdv,ct,osl,hfd,lk,hcd⟩:=D.d.fn.ex;exact⟨D.fd,λs v=>.of_eq (by rw[hfd];exact hb kV doc pm an cdv ct v),λbase _ _=>ok base⟩
end
abbrev cF(P:ν)(w:τ){K:Ξ}{mg:Str->Option L}{x:Str}{st:x6}{ps:List Str}(base:π)(k:Nat)(F:Dd K mg x st ps)(n:Nat)(m:List D->aa->R D):Prop:=d9 P w K mg base c9 k F.a F.fd ps (fG K n m)
section
variable {X:Cx}{N':List Str}{pick:List (Option Nat)}{scope:P7}{tg elt iter:μ}{ifs:List μ}{pos:Pos}{ds:Ev->aa->R Src}{g:Gd}{dt:ai}{de:af}
theorem br{st:x6}{D:Dd X.K X.mg x st ps}{m:List L2.D->aa->R L2.D}{da:Ev->aa->R (List L2.D)}{pos:Pos}(G:d9 X.prog X.w X.K X.mg X.base c9 k D.a D.fd ps (fG X.K n m))(hr:cK j X.A)(ha:gx X (e::es) da)(hk:k<=j:=by decide)(hg:Gl X x:=by rfl)(hdb:(x==("__debug__":Str))=Δ:=by decide)(he:ε (e::es) X.env=(Δ,eval e X.env)::ε es X.env:=by exact ez rfl)(hpl:(OY pos (ε es X.env)).any (·.1)=Δ:=by exact ig rfl):
  bg X (.Call (.Name x p) (e::es) [] pos) (aD n m da):=iY D.d G (hr.mono hk) ha hg hdb he hpl
theorem gP(hit:PId X (.Name x p) iter ds)(he:∀cl C s₀ H₀ ex pn,bg (fO X N' scope cl C s₀ H₀ ex pn) elt de)(Θ:cL X N' pick scope:=by exact cL.of rfl rfl)(hN:N'.Nodup:=by decide +kernel)(hg:N'.Nodup->∀cl C s₀ H₀ ex pn,kU (fO X N' scope cl C s₀ H₀ ex pn) (.Name x p) (aA 0):=by exact λh _ _ _ _ _ _=>cM (i:=0) (hN:=h))(hc:X.calm=J:=by rfl)(hs:∀x,foldedSetIterable iter X.env x=pure x:=by intro _;rfl):
  bg X (.ListComp elt [⟨.Name x p,iter,[],0⟩] scope pos) (aX ds pick (aA 0) aY de):=iZ Θ hit (hg hN) (λ_ _ _ _ _ _=>lq) he hc hs
end
section
variable {X:Cx}{st:x6}{rest:List x6}{t u:ah}{e:μ}{da:af}{pos:Pos}
theorem bF(i:Nat){pos':Pos}(he:bg X e da)(hN:X.N.Nodup:=by assumption)(hi:X.N[i]? = U x:=by rfl)(hx:Loc X.env.scope x:=by first|exact Or.inl rfl|exact Or.inr rfl)(hs:swapsWith e (U (.Name x pos')) pos.line X.env=pure Δ:=by rfl)(hf:X.fn x=J\/X.env.scope.names.lookup x=U .local:=by first|exact .inl rfl|exact .inr rfl):jX X (.Assign [.Name x pos'] e pos) (aE i da):=gA he hN hi hx hs hf
theorem e7(i:Nat)(hN:X.N.Nodup:=by assumption)(hi:X.N[i]? = U x:=by rfl)(hx:Loc X.env.scope x:=by first|exact Or.inl rfl|exact Or.inr rfl)(hf:X.fn x=J\/X.env.scope.names.lookup x=U .local:=by first|exact .inl rfl|exact .inr rfl):kU X (.Name x pos) (aA i):=cM hN hi hx hf
end
theorem cU{w:τ}{K:Ξ}{mg:Str->Option L}{base:π}{st:x6}{D:Dd K mg x st ps}(N:List Str){k n m:Nat}{own:Bool}{d:ah}(hb:N.Nodup->∀(cdv:L) (A:χ) (outer:List Env) (s:Ψ) (H:Hp) (E:XK),cK k (A.deeper (envOfC x (cZ st) s.heap.objs.size D.a cdv))->bI (lU c9 P w K mg base N x (cZ st) D.a cdv A outer s H E).lD (iO st) d)(Θ:iS N ps (cZ st):=by exact⟨rfl,rfl,rfl,by decide +kernel,rfl,by decide +kernel,by decide +kernel⟩)(hN:N.length=n:=by rfl)(hm:ps.length=m:=by rfl):d9 P w K mg base c9 (k+1) D.a D.fd ps (fG K m (bJ n own d)) :=
 zu D.d.fn Θ hN hm (hb Θ.nd)
end L2
namespace Ev
open PySem L2 PyProof.Rows
set_option genInjectivity false in
set_option genSizeOfSpec false in
structure Tx (K:Ξ) (mg:Str->Option L) where
 zA:Dd K mg "row_where" Ik ["many","one","are_tied"]
 vt:Dd K mg "web_where" Ie ["many","are_tied"]
 zx:Dd K mg "ties" Ig ["web"]
 sA:Dd K mg "other_web" xQ ["web"]
 zV:Dd K mg "common" IV ["web","one","other"]
 zR:Dd K mg "first_unlike_place" IL ["web"]
 zz:Dd K mg "shared_by_all" Ii ["web","pairs"]
 zS:Dd K mg "first_unlike_pair" IM ["web","pairs"]
 zU:Dd K mg "evenness" IU ["web"]
 zQ:Dd K mg "is_even" IK ["web"]
 zC:Dd K mg "moved_on" Io ["row","many"]
 zy:Dd K mg "side_by_side" Ih ["one","other"]
 zE:Dd K mg "look_of" Iq ["both","colours","place"]
 zT:Dd K mg "finer_colours" IS ["both","colours"]
 vJ:Dd K mg "are_shared" IX ["colours"]
 vI:Dd K mg "finest_colours" IQ ["both","colours"]
 vz:Dd K mg "set_apart" Ij ["colours","one","other"]
 zW:Dd K mg "are_twins" IW ["web","one","other"]
 vH:Dd K mg "first_open" IP ["both","colours"]
 vA:Dd K mg "order_by" Im ["colours"]
 lQ:Dd K mg "first_order" BU ["both","colours"]
 zB:Dd K mg "require_few" Il ["web","most","most_even"]
 zD:Dd K mg "many_orders" Ip ["web"]
 zN:Dd K mg "_law_cell_at" IF ["script","k"]
 zJ:Dd K mg "_law_pot" IB ["cell"]
 zG:Dd K mg "_law_take" Iw ["pot","far"]
 zL:Dd K mg "_law_order" ID ["pot","wide"]
 vF:Dd K mg "_law_joined" BR ["many","wanted"]
 zH:Dd K mg "_law_scattered" Iz ["pot","most"]
 zM:Dd K mg "_law_near" IE ["many","marks"]
 zK:Dd K mg "_law_plain" IC ["pot","most"]
 vD:Dd K mg "_law_moved" BP ["table","order"]
 vC:Dd K mg "_law_toggled" BN ["table","one","other"]
 zP:Dd K mg "_law_about" II ["table"]
 zO:Dd K mg "_law_built" IG ["pot","most"]
 zI:Dd K mg "_law_rows" IA ["table"]
 vB:Dd K mg "_law_whole" Ir ["found"]
 kJ:Dd K mg "_law_same" BO ["found","due"]
 lP:Dd K mg "_law_counted" BS ["table","images"]
 zF:Dd K mg "_law_times" Iu ["number"]
 vE:Dd K mg "_law_known" BQ ["pot"]
 vG:Dd K mg "law" IJ ["script"]
 CS:mg "all"=O
 KD:mg "any"=O
 yx:mg "bool"=O
 uF:mg "enumerate"=O
 CQ:mg "int"=O
 jM:mg "isinstance"=O
 cP:mg "len"=O
 yw:mg "list"=O
 CP:mg "max"=O
 nS:mg "min"=O
 b7:mg "range"=O
 uE:mg "set"=O
 uD:mg "sorted"=O
 CO:mg "str"=O
 jL:mg "tuple"=O
 KC:mg "zip"=O
 nH:S
 nG:S
 o8:PySem.W.tabIn K "other_web"=U (nH,nG)
 qN:PySem.W.codeHdIn K nH nG=J
 qO:tR K=J
 tP:Tok
 MT:mg "MOST_COUNTED"=U (.int 10 tP)
 tO:Tok
 MS:mg "MOST_EVEN_COUNTED"=U (.int 16 tO)
section
variable {P:ν}{w:τ}{K:Ξ}{mg:Str->Option L}{base:π}
theorem akf(T:Tx K mg):sQ P w K mg base 1 Gr ["web"] 2 (fG K (2+1) (Dg pR)):=by
 with_unfolding_all refine XQ (k:=0) (ps:=["one","other"]) (ns:=["web"]) (d:=pR) (wD.of rfl rfl rfl (by decide +kernel)) (λq cl pm cdv ct us hl=>match us,hl with|[_,_],_=>rfl) λq f cd cl A outer s H hr=>?_
 show bg _ _ pR;unfold pR;exact(jH (Cy (i9 hr)) (au 1) (bM bN (au 2) (au 0)))
theorem akg(T:Tx K mg)(hr:cK 1 A):∀t∈lams,∃k,sQ P w K mg base k t.1 t.2.1 2 (fG K (2+t.2.1.length) t.2.2)/\cK k A:=by
 intro t ht;unfold lams at ht;simp only[Bt,O7,or_false]at ht
 rcases ht with rfl
 ·exact⟨_,akf T,hr.mono ⋯⟩
theorem ajB(T:Tx K mg):cF P w base 2 T.zA 3 jN :=
 cU ["many","one","are_tied"] λhN _ _ _ _ _ _ hr=>by
  show bI _ _ Am;unfold Am;exact(aQ (bB (lz ng T.jL QN (ay (iZ (N':=["other","one","are_tied"]) (pick:=[O,U 1,U 2]) (cL.of rfl rfl) (cT (ay (au 0) az) T.b7) (λ_ _ _ _ _ _=>(cM (i:=0) (hN:=(by decide +kernel:ω (["other","one","are_tied"]:List Str))))) (λ_ _ _ _ _ _=>(iX (PW.pt (uq (bX nR (au 0) (au 1)) (ur (jI (aiR 2 (akg T (hr.mono ⋯)) (ay (au 1) (ay (au 0) az))))))))) (λ_ _ _ _ _ _=>(au 0))) az))))
theorem ajD(T:Tx K mg):cF P w base 3 T.vt 2 rF :=
 cU ["many","are_tied"] λhN _ _ _ _ _ _ hr=>by
  show bI _ _ Ai;unfold Ai;exact(aQ (bB (lz ng T.jL QN (ay (gP (N':=["one","many","are_tied"]) (pick:=[O,U 0,U 1]) (cT (ay (au 0) az) T.b7) (λ_ _ _ _ _ _=>(br (ajB T) hr (ay (au 1) (ay (au 0) (ay (au 2) az)))))) az))))
theorem JU(T:Tx K mg):cF P w base 1 T.zx 1 uK :=
 cU ["web","told","one","row"] λhN _ _ _ _ _ _ _=>by
  show bI _ _ Aj;unfold Aj;refine aO (bF 1 (ly az)) ?_;refine aO (eG (LX (ay (au 0) az) T.uF) (qb (n:=2) (iy (e7 2) (iy (e7 3) oF))) (aQ (j4 (pF (au 1) (iZ (N':=["other","one"]) (pick:=[O,U 2]) (cL.of rfl rfl) (pZ (au 3)) (λ_ _ _ _ _ _=>(cM (i:=0) (hN:=(by decide +kernel:ω (["other","one"]:List Str))))) (λ_ _ _ _ _ _=>(iX (bX uB (au 1) (au 0)))) (λ_ _ _ _ _ _=>(gj (ay (au 1) (ay (au 0) az))))))))) ?_
  exact(aQ (bB (au 1)))
theorem agD:iS ["web"] ["web"] (cZ xQ):=⟨rfl,rfl,rfl,by decide +kernel,rfl,by decide +kernel,by decide +kernel⟩
theorem aj9(T:Tx K mg):cF P w base 4 T.sA 1 yG :=
 aaO (k:=3) T.sA.d.fn T.sA.n agD rfl rfl λcdv A outer s H E hcd hr=>by
  show bI _ _ Ao;unfold Ao;exact(aQ (bB (aiS (kk:=0) T.vt.d (ajD T) (hr.mono ⋯) (bG dJ T.cP OZ (ay (au 0) az)) (gJ.of (by kernel_rfl)) rfl (λ_=>rfl) (y:="other_web") (by decide +kernel) T.o8 T.qO (hcd _ _ T.o8) rfl T.qN)))
theorem J2(T:Tx K mg):cF P w base 1 T.zV 3 nZ :=
 cU ["web","one","other"] λhN _ _ _ _ _ _ _=>by
  show bI _ _ AK;unfold AK;exact(aQ (bB (aiU (ay (bM bN (au 0) (au 1)) az) (ay (bM bN (au 0) (au 2)) az) T.cP T.uE)))
theorem akd(T:Tx K mg):cF P w base 1 T.zR 1 uR :=
 cU ["web","place","row"] λhN _ _ _ _ _ _ _=>by
  show bI _ _ AF;unfold AF;refine aO (eG (LX (ay (au 0) az) T.uF) (qb (n:=2) (iy (e7 1) (iy (e7 2) oF))) (aQ (cS (bX nR (bG dJ T.cP OZ (ay (au 2) az)) (bG dJ T.cP OZ (ay (bM bN (au 0) aN) az))) (aQ (bB (au 1))) dR))) ?_;exact(aQ (bB jh))
theorem Cs(T:Tx K mg):cF P w base 2 T.zz 2 lE :=
 cU ["web","pairs"] λhN _ _ _ _ _ _ hr=>by
  show bI _ _ Ak;unfold Ak;exact(aQ (bB (JE (aiV (au 1)) (br (J2 T) hr (ay (au 0) (ay (bM bN (bM bN (au 1) aN) aN) (ay (bM bN (bM bN (au 1) aN) aN) az)))) jh)))
theorem akc(T:Tx K mg):cF P w base 3 T.zS 2 uS :=
 cU ["web","pairs","shared","pair"] λhN _ _ _ _ _ _ hr=>by
  show bI _ _ AG;unfold AG;refine aO (bF 2 (br (Cs T) hr (ay (au 0) (ay (au 1) az)))) ?_;refine aO (eG (kD (au 1)) (e7 3) (aQ (cS (bX nR (br (J2 T) hr (ay (au 0) (ay (bM bN (au 3) aN) (ay (bM bN (au 3) aN) az)))) (au 2)) (aQ (bB (au 3))) dR))) ?_;exact(aQ (bB jh))
theorem akA(T:Tx K mg):cF P w base 5 T.zU 1 rO :=
 cU ["web","place","near","far","word","pairs","pair"] λhN _ _ _ _ _ _ hr=>by
  show bI _ _ AJ;unfold AJ;refine aO (bF 1 (br (akd T) hr (ay (au 0) az))) ?_;refine aO (cS (bX yg (au 1) jh) (aQ (bB (gj (ay um (ay (au 1) az))))) dR) ?_;refine aO (bF 2 (br (JU T) hr (ay (au 0) az))) ?_;refine aO (bF 3 (br (JU T) hr (ay (br (aj9 T) hr (ay (au 0) az)) az))) ?_;refine aO (eG (pZ (gj (ay (gj (ay um (ay (au 2) az))) (ay (gj (ay um (ay (au 3) az))) az)))) (qb (n:=2) (iy (e7 4) (iy (e7 5) oF))) (aO (bF 6 (br (akc T) hr (ay (au 0) (ay (au 5) az)))) (aQ (cS (bX yg (au 6) jh) (aQ (bB (gj (ay (au 4) (ay (bM bN (au 6) aN) (ay (bM bN (au 6) aN) az)))))) dR)))) ?_;exact(aQ (bB (gj (ay um (ay (gj (ay (bG dJ T.cP OZ (ay (au 0) az)) (ay (bG dJ T.cP OZ (ay (bM bN (au 0) aN) az)) (ay (br (Cs T) hr (ay (au 0) (ay (au 2) az))) (ay (br (Cs T) hr (ay (au 0) (ay (au 3) az))) az))))) az)))))
theorem ake(T:Tx K mg):cF P w base 6 T.zQ 1 rM :=
 cU ["web"] λhN _ _ _ _ _ _ hr=>by
  show bI _ _ E2;unfold E2;exact(aQ (bB (jH fk (bM bN (br (akA T) hr (ay (au 0) az)) aN) um)))
theorem aj7(T:Tx K mg):cF P w base 1 T.zC 2 uN :=
 cU ["row","many"] λhN _ _ _ _ _ _ _=>by
  show bI _ _ EY;unfold EY;exact(aQ (bB (lz ng T.jL QN (ay (gP (N':=["place","many"]) (pick:=[O,U 1]) (pZ (au 0)) (λ_ _ _ _ _ _=>(aU cO (au 1) (au 0)))) az))))
theorem ajC(T:Tx K mg):cF P w base 2 T.zy 2 uL :=
 cU ["one","other"] λhN _ _ _ _ _ _ hr=>by
  show bI _ _ EX;unfold EX;exact(aQ (bB (aU ajU (au 0) (lz ng T.jL QN (ay (gP (N':=["row","one"]) (pick:=[O,U 0]) (pZ (au 1)) (λ_ _ _ _ _ _=>(br (aj7 T) hr (ay (au 0) (ay (bG dJ T.cP OZ (ay (au 1) az)) az))))) az)))))
theorem aj6(T:Tx K mg):cF P w base 1 T.zE 3 uO :=
 cU ["both","colours","place"] λhN _ _ _ _ _ _ _=>by
  show bI _ _ EZ;unfold EZ;exact(aQ (bB (gj (ay (bM bN (au 1) (au 2)) (ay (lz ng T.jL QN (ay (bG EM T.uD (by decide +kernel) (ay (gP (N':=["near","colours"]) (pick:=[O,U 1]) (pZ (bM bN (au 0) (au 2))) (λ_ _ _ _ _ _=>(bM bN (au 1) (au 0)))) az)) az)) az)))))
theorem J1(T:Tx K mg):cF P w base 2 T.zT 2 pJ :=
 cU ["both","colours","looks","numbered","number","look"] λhN _ _ _ _ _ _ hr=>by
  have hu:=Tt (Zf hr);show bI _ _ AI;unfold AI;refine aO (k8 (i:=2) (hN:=hN) (N':=["place","both","colours"]) (pick:=[O,U 0,U 1]) (cL.of rfl rfl) (cT (ay (bG dJ T.cP OZ (ay (au 0) az)) az) T.b7) (λ_ _ _ _ _ _=>(cM (i:=0) (hN:=(by decide +kernel:ω (["place","both","colours"]:List Str))))) (λ_ _ _ _ _ _=>lq) (λ_ _ _ _ _ _=>(br (aj6 T) hr (ay (au 1) (ay (au 2) (ay (au 0) az)))))) ?_
  exact(ahu (Jq (i:=3) hN rfl (by first|exact Or.inl rfl|exact Or.inr rfl) akx) (Jr Tu rfl (Jw rfl T.uF (jJ (x8 (abM (i9 hr)) rfl T.uD (by decide +kernel) (jJ (uh (abO (i9 hr)) rfl T.uE (by decide +kernel) (jJ (pv 2) lA (ez rfl)) ⋯ ⋯ (ez rfl) (ig rfl)) lA (ez rfl)) ⋯ ⋯ (ez rfl) (ig rfl)) lA (ez rfl)) (nJ rfl)) (Jy rfl (Ce (Cf (i:=4) hN rfl (by first|exact Or.inl rfl|exact Or.inr rfl)) (Ce (Cf (i:=5) hN rfl (by first|exact Or.inl rfl|exact Or.inr rfl)) Jx))) (Jp (ah6 (i9 hr) (pv 3) (pv 5) (pv 4) rfl))) (aQ (bB (gP (N':=["look","numbered"]) (pick:=[O,U 3]) (kD (au 2)) (λ_ _ _ _ _ _=>(bM (YD (i9 hr)) (au 1) (au 0)))))))
theorem J3(T:Tx K mg):cF P w base 1 T.vJ 1 lG :=
 cU ["colours","many"] λhN _ _ _ _ _ _ hr=>by
  show bI _ _ AL;unfold AL;refine aO (bF 1 (aU kg (bG dJ T.cP OZ (ay (au 0) az)) aN)) ?_;exact(aQ (bB (jH (CA (i9 hr)) (bG EM T.uD (by decide +kernel) (ay (Cj (au 0) B9 (B8 (au 1))) az)) (bG EM T.uD (by decide +kernel) (ay (Cj (au 0) (B8 (au 1)) B9) az)))))
theorem aka(T:Tx K mg):cF P w base 3 T.vI 2 mK :=
 cU ["both","colours","coarse","fine"] λhN _ _ _ _ _ _ hr=>by
  show bI _ _ AH;unfold AH;refine aO (bF 2 (au 1)) ?_;refine aO (bF 3 (br (J1 T) hr (ay (au 0) (ay (au 2) az)))) ?_;refine aO (ahv (n:=40) (PW.pt (uq (jI (br (J3 T) hr (ay (au 3) az))) (ur (bX yi (JD (ay (au 3) az) T.cP T.uE) (JD (ay (au 2) az) T.cP T.uE))))) (aO (bF 2 (au 3)) (aQ (bF 3 (br (J1 T) hr (ay (au 0) (ay (au 2) az))))))) ?_;exact(aQ (bB (au 3)))
theorem JV(T:Tx K mg):cF P w base 1 T.vz 3 ko :=
 cU ["colours","one","other","fresh"] λhN _ _ _ _ _ _ hr=>by
  show bI _ _ Al;unfold Al;refine aO (bF 3 (aU cO (bG acf T.CP boot_max (ay (au 0) az)) aN)) ?_;exact(aQ (bB (iZ (N':=["place","colour","fresh","one","other"]) (pick:=[O,O,U 3,U 1,U 2]) (cL.of rfl rfl) (Y0 (ay (au 0) az) T.uF) (λ_ _ _ _ _ _=>(qb (n:=2) (iy (cM (i:=0) (hN:=(by decide +kernel:ω (["place","colour","fresh","one","other"]:List Str)))) (iy (cM (i:=1) (hN:=(by decide +kernel:ω (["place","colour","fresh","one","other"]:List Str)))) oF)))) (λ_ _ _ _ _ _=>lq) (λ_ _ _ _ _ _=>(JE (bX (yh (i9 hr)) (au 0) (gj (ay (au 3) (ay (au 4) az)))) (au 2) (au 1))))))
theorem ajz(T:Tx K mg):cF P w base 1 T.zW 3 rP :=
 cU ["web","one","other"] λhN _ _ _ _ _ _ hr=>by
  show bI _ _ E4;unfold E4;exact(aQ (bB (jH (CA (i9 hr)) (iZ (N':=["near","other"]) (pick:=[O,U 2]) (cL.of rfl rfl) (pZ (bM bN (au 0) (au 1))) (λ_ _ _ _ _ _=>(cM (i:=0) (hN:=(by decide +kernel:ω (["near","other"]:List Str))))) (λ_ _ _ _ _ _=>(iX (bX nR (au 0) (au 1)))) (λ_ _ _ _ _ _=>(au 0))) (iZ (N':=["near","one"]) (pick:=[O,U 1]) (cL.of rfl rfl) (pZ (bM bN (au 0) (au 2))) (λ_ _ _ _ _ _=>(cM (i:=0) (hN:=(by decide +kernel:ω (["near","one"]:List Str))))) (λ_ _ _ _ _ _=>(iX (bX nR (au 0) (au 1)))) (λ_ _ _ _ _ _=>(au 0))))))
theorem akb(T:Tx K mg):cF P w base 2 T.vH 2 ku :=
 cU ["both","colours","many","one"] λhN _ _ _ _ _ _ hr=>by
  show bI _ _ E3;unfold E3;refine aO (bF 2 (aU kg (bG dJ T.cP OZ (ay (au 0) az)) aN)) ?_;refine aO (eG (cT (ay (au 2) az) T.b7) (e7 3) (aQ (cS (uo (jI (bG Od T.CS boot_all (ay (iZ (N':=["other","both","one","colours"]) (pick:=[O,U 0,U 3,U 1]) (cL.of rfl rfl) (cT (ay (au 2) az) T.b7) (λ_ _ _ _ _ _=>(cM (i:=0) (hN:=(by decide +kernel:ω (["other","both","one","colours"]:List Str))))) (λ_ _ _ _ _ _=>(iX (bX fk (bM bN (au 3) (au 0)) (bM bN (au 3) (au 2))))) (λ_ _ _ _ _ _=>(br (ajz T) hr (ay (au 1) (ay (au 2) (ay (au 0) az)))))) az)))) (aQ (bB (au 3))) dR))) ?_
  exact(aQ (bB jh))
theorem aj8(T:Tx K mg):cF P w base 1 T.vA 1 uM :=
 cU ["colours","many","order","place","there"] λhN _ _ _ _ _ _ hr=>by
  show bI _ _ Aq;unfold Aq;refine aO (bF 1 (aU kg (bG dJ T.cP OZ (ay (au 0) az)) aN)) ?_;refine aO (bF 2 (ly az)) ?_;refine aO (eG (cT (ay (au 1) az) T.b7) (e7 3) (aO (k8 (i:=4) (hN:=hN) (N':=["other","colours","place","many"]) (pick:=[O,U 0,U 3,U 1]) (cL.of rfl rfl) (cT (ay (au 1) az) T.b7) (λ_ _ _ _ _ _=>(cM (i:=0) (hN:=(by decide +kernel:ω (["other","colours","place","many"]:List Str))))) (λ_ _ _ _ _ _=>(iX (bX fk (bM bN (au 1) (aU cO (au 3) (au 0))) (bM bN (au 1) (au 2))))) (λ_ _ _ _ _ _=>(au 0))) (aQ (j4 (JG (au 2) (bG ace T.nS RP (ay (iZ (N':=["other","order"]) (pick:=[O,U 2]) (cL.of rfl rfl) (kD (au 4)) (λ_ _ _ _ _ _=>(cM (i:=0) (hN:=(by decide +kernel:ω (["other","order"]:List Str))))) (λ_ _ _ _ _ _=>(iX (bX (Cy (i9 hr)) (au 0) (au 1)))) (λ_ _ _ _ _ _=>(au 0))) az))))))) ?_
  exact(aQ (bB (lz ng T.jL QN (ay (au 2) az))))
theorem tZ:iS ["both","colours","fine","one","other","order"] ["both","colours"] (cZ BU):=⟨rfl,rfl,rfl,by decide +kernel,rfl,by decide +kernel,by decide +kernel⟩
theorem J0(T:Tx K mg):∀j:Nat,d9 P w K mg base c9 (4+j) T.lQ.a T.lQ.fd ["both","colours"] (fG K 2 (iu j))
 |0=>⟨λvs H Q E h=>by obtain⟨_,_,_,_,_,_,p⟩:=h;exact p.elim,λA outer s H args us vs Q E hr he hb hv h=>by obtain⟨_,_,_,_,_,_,p⟩:=h;exact p.elim⟩
 |j+1=>zu (k:=4+j) T.lQ.d.fn tZ rfl rfl λcdv A outer s H E hr=>by
  have ih:d9 P w K mg base c9 (4+j) T.lQ.a T.lQ.fd ["both","colours"] (fG K 2 (iu j)):=J0 T j;show bI _ _ (nh (iu j));unfold nh
  generalize iu j=m at ih ⊢
  refine aO (gA (i:=2) (iY T.vI.d (aka T) (hr.mono ∅) (ay (au 0) (ay (au 1) az))) (hN:=tZ.nd)) ?_
  refine aO (cS (uo (jI (iY T.vJ.d (J3 T) (hr.mono ∅) (ay (au 2) az)))) (aQ (bB jh)) dR) ?_
  refine aO (gA (i:=3) (iY T.vH.d (akb T) (hr.mono ∅) (ay (au 0) (ay (au 2) az))) (hN:=tZ.nd)) ?_
  refine aO (cS (bX Cz (au 3) jh) (aQ (bB (iY T.vA.d (aj8 T) (hr.mono ∅) (ay (au 2) az)))) dR) ?_
  refine aO (eG (lI (ay (aU kg (bG dJ T.cP OZ (ay (au 0) az)) aN) (ay (bG dJ T.cP OZ (ay (au 0) az)) az)) T.b7) (cM (i:=4) (hN:=tZ.nd)) (aQ (cS (bX fk (bM bN (au 2) (au 4)) (bM bN (au 2) (au 3))) (aO (gA (i:=5) (iY T.lQ.d ih (hr.mono ∅) (ay (au 0) (ay (iY T.vz.d (JV T) (hr.mono ∅) (ay (au 2) (ay (au 3) (ay (au 4) az)))) az))) (hN:=tZ.nd)) (aQ (cS (bX yg (au 5) jh) (aQ (bB (au 5))) dR))) dR))) ?_
  exact(aQ (bB jh))
theorem ajA(T:Tx K mg):cF P w base 7 T.zB 3 jl :=
 cU ["web","most","most_even"] λhN _ _ _ _ _ _ hr=>by
  show bI _ _ An;unfold An;exact(aQ (cS (PW.pt (Ck (bX yi (bG dJ T.cP OZ (ay (au 0) az)) (au 2)) (Cm (PW.pt (uq (bX yi (bG dJ T.cP OZ (ay (au 0) az)) (au 1)) (ur (uo (jI (br (ake T) hr (ay (au 0) az)))))))))) (aQ aht) dR))
theorem Ct(T:Tx K mg):cF P w base 23 T.zD 1 jO :=
 cU ["web","many","both","colours","product","place","tried"] λhN _ _ _ _ _ _ hr=>by
  show bI _ _ Ar;unfold Ar;refine aO (j4 (br (ajA T) hr (ay (au 0) (ay (JF rfl T.MT) (ay (JF rfl T.MS) az))))) ?_;refine aO (bF 1 (bG dJ T.cP OZ (ay (au 0) az))) ?_;refine aO (bF 2 (br (ajC T) hr (ay (au 0) (ay (au 0) az)))) ?_;refine aO (bF 3 (aU ajW (gk (ay aN az)) (aU gR aN (au 1)))) ?_;refine aO (bF 4 aN) ?_;refine aO (eG (cT (ay (au 1) az) T.b7) (e7 5) (aO (k8 (i:=6) (hN:=hN) (N':=["there","colours","place","many"]) (pick:=[O,U 3,U 5,U 1]) (cL.of rfl rfl) (cT (ay (au 1) az) T.b7) (λ_ _ _ _ _ _=>(cM (i:=0) (hN:=(by decide +kernel:ω (["there","colours","place","many"]:List Str))))) (λ_ _ _ _ _ _=>lq) (λ_ _ _ _ _ _=>(br (JV T) hr (ay (au 1) (ay (au 2) (ay (aU cO (au 3) (au 0)) az)))))) (aO (bF 4 (aU gR (au 4) (bG dJ T.cP OZ (ay (iZ (N':=["each","both"]) (pick:=[O,U 2]) (cL.of rfl rfl) (kD (au 6)) (λ_ _ _ _ _ _=>(cM (i:=0) (hN:=(by decide +kernel:ω (["each","both"]:List Str))))) (λ_ _ _ _ _ _=>(iX (bX yg (iY T.lQ.d (J0 T 18) (hr.mono ⋯) (ay (au 1) (ay (au 0) az))) jh))) (λ_ _ _ _ _ _=>(au 0))) az)))) (aQ (bF 3 (bM bN (au 6) (au 5))))))) ?_
  exact(aQ (bB (au 4)))
theorem akk(T:Tx K mg):cF P w base 1 T.zN 2 rJ :=
 cU ["script","k"] λhN _ _ _ _ _ _ _=>by
  show bI _ _ wc;unfold wc;refine aO (cS (bX uB (au 1) (bG dJ T.cP OZ (ay (au 0) az))) (aQ (bB (bM bN (au 0) (au 1)))) dR) ?_;exact(aQ (bB aN))
theorem akn(T:Tx K mg):cF P w base 1 T.zJ 1 rG :=
 cU ["cell","number","j","more"] λhN _ _ _ _ _ _ _=>by
  show bI _ _ vW;unfold vW;refine aO (cS (bX ajV (au 0) (aU J7 aN aN)) (aQ (bB (ly (ay (aU uA (au 0) (aU J7 aN aN)) az)))) dR) ?_;refine aO (bF 1 aN) ?_;refine aO (eG (cT (ay aN az) T.b7) (e7 2) (aO (bF 3 (aU kc (aU gR (aU cO (aU cO (aU kc (au 0) aN) (aU gR aN (au 2))) aN) aN) aN)) (aO (bF 3 (aU kc (aU cO (aU cO (aU gR (au 3) (au 3)) (aU gR aN (au 2))) aN) aN)) (aQ (bF 1 (aU cO (aU gR (au 1) aN) (au 3))))))) ?_;exact(aQ (bB (ly (ay (au 1) az))))
theorem fJ(T:Tx K mg):cF P w base 1 T.zG 2 b8 :=
 cU ["pot","far","found"] λhN _ _ _ _ _ _ _=>by
  show bI _ _ vV;unfold vV;refine aO (bF 2 (aU kc (bM bN (au 0) aN) (au 1))) ?_;refine aO (pB (aU kg (bM bN (au 0) aN) (au 1)) (su (au 0) aN)) ?_;exact(aQ (bB (au 2)))
theorem JX(T:Tx K mg):cF P w base 2 T.zL 2 nX :=
 cU ["pot","wide","found","k"] λhN _ _ _ _ _ _ hr=>by
  show bI _ _ AA;unfold AA;refine aO (bF 2 (ly az)) ?_;refine aO (eG (cT (ay (au 1) az) T.b7) (e7 3) (aQ (j4 (aiT (au 2) (br (fJ T) hr (ay (au 0) (ay (aU cO (au 3) aN) az))) (au 3))))) ?_;exact(aQ (bB (lz ng T.jL QN (ay (au 2) az))))
theorem xP:iS ["many","wanted","found","one","other"] ["many","wanted"] (cZ BR):=⟨rfl,rfl,rfl,by decide +kernel,rfl,by decide +kernel,by decide +kernel⟩
theorem Cw(T:Tx K mg):cF P w base 1 T.vF 2 nY :=
 zq (k:=0) T.vF.d.fn xP rfl rfl λcdv A outer s H E hr=>by
  show bI _ _ E1;unfold E1;refine aO (k8 (i:=2) (hN:=xP.nd) (N':=["place","many"]) (pick:=[O,U 0]) (cL.of rfl rfl) (cT (ay (au 0) az) T.b7) (λ_ _ _ _ _ _=>(cM (i:=0) (hN:=(by decide +kernel:ω (["place","many"]:List Str))))) (λ_ _ _ _ _ _=>lq) (λ_ _ _ _ _ _=>(aU J6 (gk (ay pG az)) (au 1)))) ?_
  refine aO (eG (kD (au 1)) (qb (n:=2) (iy (cM (i:=3) (hN:=xP.nd)) (iy (cM (i:=4) (hN:=xP.nd)) oF))) (aO (pB pG (su (bM bN (au 2) (au 3)) (au 4))) (aQ (pB pG (su (bM bN (au 2) (au 4)) (au 3)))))) ?_;exact(aQ (bB (au 2)))
theorem aj3(T:Tx K mg):cF P w base 2 T.zH 2 yI :=
 cU ["pot","most","many","dense","wanted","one"] λhN _ _ _ _ _ _ hr=>by
  show bI _ _ Aw;unfold Aw;refine aO (bF 2 (aU cO aN (br (fJ T) hr (ay (au 0) (ay (au 1) az))))) ?_;refine aO (bF 3 (aU cO aN (br (fJ T) hr (ay (au 0) (ay aN az))))) ?_;refine aO (bF 4 (ly az)) ?_;refine aO (eG (cT (ay (au 2) az) T.b7) (e7 5) (aQ (j4 (pF (au 4) (iZ (N':=["other","one","dense","pot"]) (pick:=[O,U 5,U 3,U 0]) (cL.of rfl rfl) (lI (ay (aU cO (au 5) aN) (ay (au 2) az)) T.b7) (λ_ _ _ _ _ _=>(cM (i:=0) (hN:=(by decide +kernel:ω (["other","one","dense","pot"]:List Str))))) (λ_ _ _ _ _ _=>(iX (bX uB (br (fJ T) hr (ay (au 3) (ay aN az))) (au 2)))) (λ_ _ _ _ _ _=>(gj (ay (au 1) (ay (au 0) az))))))))) ?_
  exact(aQ (bB (br (Cw T) hr (ay (au 2) (ay (au 4) az)))))
theorem Cv(T:Tx K mg):cF P w base 1 T.zM 2 kr :=
 cU ["many","marks","found","one","other"] λhN _ _ _ _ _ _ hr=>by
  show bI _ _ vX;unfold vX;refine aO (bF 2 (ly az)) ?_;refine aO (eG (cT (ay (au 0) az) T.b7) (e7 3) (aQ (eG (lI (ay (aU cO (au 3) aN) (ay (au 0) az)) T.b7) (e7 4) (aQ (cS (jI (bG aci T.KD boot_any (ay (gP (N':=["mark","marks","other"]) (pick:=[O,U 1,U 4]) (kD (bM bN (au 1) (au 3))) (λ_ _ _ _ _ _=>(jH (yh (i9 hr)) (au 0) (bM bN (au 1) (au 2))))) az))) (aQ (j4 (JG (au 2) (gj (ay (au 3) (ay (au 4) az)))))) dR))))) ?_
  exact(aQ (bB (au 2)))
theorem akm(T:Tx K mg):cF P w base 2 T.zK 2 yJ :=
 cU ["pot","most","way","many","wanted","steps","step","things","marks","one","high","wide","squares"] λhN _ _ _ _ _ _ hr=>by
  show bI _ _ Az;unfold Az;refine aO (bF 2 (br (fJ T) hr (ay (au 0) (ay aN az)))) ?_;refine aO (bF 3 (aU cO aN (br (fJ T) hr (ay (au 0) (ay (au 1) az))))) ?_;refine aO (bF 4 (ly az)) ?_;refine aO (cS (bX fk (au 2) aN) (aO (k8 (i:=5) (hN:=hN) (N':=["step","pot"]) (pick:=[O,U 0]) (cL.of rfl rfl) (lI (ay aN (ay (aU cO (aU kg (au 3) aN) aN) az)) T.b7) (λ_ _ _ _ _ _=>(cM (i:=0) (hN:=(by decide +kernel:ω (["step","pot"]:List Str))))) (λ_ _ _ _ _ _=>(iX (bX fk (br (fJ T) hr (ay (au 1) (ay aN az))) aN))) (λ_ _ _ _ _ _=>(au 0))) (aQ (eG (kD (au 5)) (e7 6) (aQ (j4 (pF (au 4) (gP (N':=["k","many","step"]) (pick:=[O,U 3,U 6]) (cT (ay (au 3) az) T.b7) (λ_ _ _ _ _ _=>(gj (ay (au 0) (ay (aU kc (aU cO (au 0) (au 2)) (au 1)) az))))))))))) (aQ (cS (bX fk (au 2) aN) (aO (bF 7 (bM bN (gk (ay aN (ay aN (ay aN (ay aN az))))) (br (fJ T) hr (ay (au 0) (ay aN az))))) (aO (bF 8 (ly az)) (aO (eG (cT (ay (au 7) az) T.b7) (e7 9) (aQ (j4 (pF (au 8) (gP (N':=["other","one"]) (pick:=[O,U 9]) (lI (ay (aU cO (au 9) aN) (ay (au 7) az)) T.b7) (λ_ _ _ _ _ _=>(gk (ay (au 1) (ay (au 0) az))))))))) (aO (bF 3 (bG sH T.nS RP (ay (bG dJ T.cP OZ (ay (au 8) az)) (ay (au 1) az)))) (aQ (bF 4 (br (Cv T) hr (ay (au 3) (ay (au 8) az))))))))) (aQ (cS (bX uB (au 2) aN) (aO (bF 10 (aU cO aN (br (fJ T) hr (ay (au 0) (ay (bG sH T.nS RP (ay aN (ay (au 1) az))) az))))) (aO (bF 11 (aU cO aN (br (fJ T) hr (ay (au 0) (ay (bG sH T.nS RP (ay aN (ay (aU kg (au 1) (au 10)) az))) az))))) (aO (bF 3 (aU gR (au 10) (au 11))) (aO (k8 (i:=8) (hN:=hN) (N':=["k","wide"]) (pick:=[O,U 11]) (cL.of rfl rfl) (cT (ay (au 3) az) T.b7) (λ_ _ _ _ _ _=>(cM (i:=0) (hN:=(by decide +kernel:ω (["k","wide"]:List Str))))) (λ_ _ _ _ _ _=>lq) (λ_ _ _ _ _ _=>(gk (ay (aU kg (au 0) (au 1)) az)))) (aO (cS (bX fk (au 2) aN) (aQ (k8 (i:=8) (hN:=hN) (N':=["k","wide"]) (pick:=[O,U 11]) (cL.of rfl rfl) (cT (ay (au 3) az) T.b7) (λ_ _ _ _ _ _=>(cM (i:=0) (hN:=(by decide +kernel:ω (["k","wide"]:List Str))))) (λ_ _ _ _ _ _=>lq) (λ_ _ _ _ _ _=>(gk (ay (aU kg (au 0) (au 1)) (ay (aU cO aN (aU kc (au 0) (au 1))) az)))))) dR) (aQ (bF 4 (br (Cv T) hr (ay (au 3) (ay (au 8) az)))))))))) (aQ (cS (bX fk (au 2) aN) (aO (bF 3 (bG sH T.nS RP (ay (au 1) (ay (bM bN (gk (ay aN (ay aN az))) (br (fJ T) hr (ay (au 0) (ay aN az)))) az)))) (aO (bF 12 (gP (N':=["k","many"]) (pick:=[O,U 3]) (lI (ay aN (ay (au 3) az)) T.b7) (λ_ _ _ _ _ _=>(aU kc (aU gR (au 0) (au 0)) (au 1))))) (aQ (eG (cT (ay (au 3) az) T.b7) (e7 9) (aQ (j4 (pF (au 4) (iZ (N':=["other","one","squares","many"]) (pick:=[O,U 9,U 12,U 3]) (cL.of rfl rfl) (lI (ay (aU cO (au 9) aN) (ay (au 3) az)) T.b7) (λ_ _ _ _ _ _=>(cM (i:=0) (hN:=(by decide +kernel:ω (["other","one","squares","many"]:List Str))))) (λ_ _ _ _ _ _=>(iX (bX (yh (i9 hr)) (aU kc (aU uA (au 0) (au 1)) (au 3)) (au 2)))) (λ_ _ _ _ _ _=>(gj (ay (au 1) (ay (au 0) az)))))))))))) (aO (bF 3 (bG sH T.nS RP (ay aN (ay (au 1) az)))) (aO (eG (cT (ay (au 3) az) T.b7) (e7 9) (aQ (j4 (pF (au 4) (iZ (N':=["other","one"]) (pick:=[O,U 9]) (cL.of rfl rfl) (lI (ay (aU cO (au 9) aN) (ay (au 3) az)) T.b7) (λ_ _ _ _ _ _=>(cM (i:=0) (hN:=(by decide +kernel:ω (["other","one"]:List Str))))) (λ_ _ _ _ _ _=>(iX (bX (yh (i9 hr)) (aU uA (au 0) (au 1)) (gj (ay aN (ay aN (ay aN az))))))) (λ_ _ _ _ _ _=>(gj (ay (au 1) (ay (au 0) az))))))))) (aQ (k8 (i:=4) (hN:=hN) (N':=["one","other"]) (pick:=[O,O]) (cL.of rfl rfl) (kD (au 4)) (λ_ _ _ _ _ _=>(qb (n:=2) (iy (cM (i:=0) (hN:=(by decide +kernel:ω (["one","other"]:List Str)))) (iy (cM (i:=1) (hN:=(by decide +kernel:ω (["one","other"]:List Str)))) oF)))) (λ_ _ _ _ _ _=>(iX (bX fk (aU ajS (au 0) (au 1)) (au 0)))) (λ_ _ _ _ _ _=>(gj (ay (au 0) (ay (au 1) az))))))))))))))) ?_
  exact(aQ (bB (br (Cw T) hr (ay (au 3) (ay (au 4) az)))))
theorem tX:iS ["table","order","many","found","one","other"] ["table","order"] (cZ BP):=⟨rfl,rfl,rfl,by decide +kernel,rfl,by decide +kernel,by decide +kernel⟩
theorem JY(T:Tx K mg):cF P w base 1 T.vD 2 rH :=
 zq (k:=0) T.vD.d.fn tX rfl rfl λcdv A outer s H E hr=>by
  show bI _ _ AB;unfold AB;refine aO (gA (i:=2) (bG dJ T.cP OZ (ay (au 0) az)) (hN:=tX.nd)) ?_;refine aO (k8 (i:=3) (hN:=tX.nd) (N':=["place","many"]) (pick:=[O,U 2]) (cL.of rfl rfl) (cT (ay (au 2) az) T.b7) (λ_ _ _ _ _ _=>(cM (i:=0) (hN:=(by decide +kernel:ω (["place","many"]:List Str))))) (λ_ _ _ _ _ _=>lq) (λ_ _ _ _ _ _=>(aU J6 (gk (ay pG az)) (au 1)))) ?_
  refine aO (eG (cT (ay (au 2) az) T.b7) (cM (i:=4) (hN:=tX.nd)) (aQ (eG (cT (ay (au 2) az) T.b7) (cM (i:=5) (hN:=tX.nd)) (aQ (pB (bM bN (bM bN (au 0) (au 4)) (au 5)) (su (bM bN (au 3) (bM bN (au 1) (au 4))) (bM bN (au 1) (au 5)))))))) ?_;exact(aQ (bB (au 3)))
theorem Ic:iS ["table","one","other","found"] ["table","one","other"] (cZ BN):=⟨rfl,rfl,rfl,by decide +kernel,rfl,by decide +kernel,by decide +kernel⟩
theorem aj4(T:Tx K mg):cF P w base 1 T.vC 3 uP :=
 zq (k:=0) T.vC.d.fn Ic rfl rfl λcdv A outer s H E hr=>by
  show bI _ _ Au;unfold Au;refine aO (k8 (i:=3) (hN:=Ic.nd) (N':=["row"]) (pick:=[O]) (cL.of rfl rfl) (kD (au 0)) (λ_ _ _ _ _ _=>(cM (i:=0) (hN:=(by decide +kernel:ω (["row"]:List Str))))) (λ_ _ _ _ _ _=>lq) (λ_ _ _ _ _ _=>(lz ach T.yw boot_list (ay (au 0) az)))) ?_
  refine aO (pB (x9 (bM bN (bM bN (au 3) (au 1)) (au 2))) (su (bM bN (au 3) (au 1)) (au 2))) ?_;refine aO (pB (x9 (bM bN (bM bN (au 3) (au 2)) (au 1))) (su (bM bN (au 3) (au 2)) (au 1))) ?_;exact(aQ (bB (au 3)))
theorem aki(T:Tx K mg):cF P w base 1 T.zP 1 rL :=
 cU ["table","many"] λhN _ _ _ _ _ _ _=>by
  show bI _ _ AE;unfold AE;refine aO (bF 1 (bG dJ T.cP OZ (ay (au 0) az))) ?_;exact(aQ (bB (gP (N':=["one","many","table"]) (pick:=[O,U 1,U 0]) (cT (ay (au 1) az) T.b7) (λ_ _ _ _ _ _=>(gP (N':=["other","one","table"]) (pick:=[O,U 0,U 2]) (cT (ay (au 1) az) T.b7) (λ_ _ _ _ _ _=>(qZ (jH nR (au 1) (au 0)) (qX (x9 (bM bN (bM bN (au 2) (au 1)) (au 0)))))))))))
theorem akj(T:Tx K mg):cF P w base 3 T.zO 2 rK :=
 cU ["pot","most","found","many","one"] λhN _ _ _ _ _ _ hr=>by
  show bI _ _ AD;unfold AD;refine aO (cS (bX uB (br (fJ T) hr (ay (au 0) (ay aN az))) aN) (aQ (bF 2 (br (aj3 T) hr (ay (au 0) (ay (au 1) az))))) (aQ (bF 2 (br (akm T) hr (ay (au 0) (ay (au 1) az)))))) ?_;refine aO (bF 3 (bG dJ T.cP OZ (ay (au 2) az))) ?_;refine aO (cS (bX fk (br (fJ T) hr (ay (au 0) (ay aN az))) aN) (aQ (bF 2 (br (aki T) hr (ay (au 2) az)))) dR) ?_;refine aO (cS (PW.pt (uq (bX yi (au 3) aN) (ur (bX fk (br (fJ T) hr (ay (au 0) (ay aN az))) aN)))) (aO (bF 4 (br (fJ T) hr (ay (au 0) (ay (au 3) az)))) (aQ (bF 2 (br (aj4 T) hr (ay (au 2) (ay (au 4) (ay (aU kc (aU cO (aU cO (au 4) aN) (br (fJ T) hr (ay (au 0) (ay (aU uA (au 3) aN) az)))) (au 3)) az))))))) dR) ?_;exact(aQ (bB (br (JY T) hr (ay (au 2) (ay (br (JX T) hr (ay (au 0) (ay (au 3) az))) az)))))
theorem JW(T:Tx K mg):cF P w base 1 T.zI 1 nW :=
 cU ["table"] λhN _ _ _ _ _ _ _=>by
  show bI _ _ Ay;unfold Ay;exact(aQ (bB (lz ng T.jL QN (ay (gP (N':=["row","table"]) (pick:=[O,U 0]) (kD (au 0)) (λ_ _ _ _ _ _=>(lz ng T.jL QN (ay (iZ (N':=["k","row"]) (pick:=[O,U 0]) (cL.of rfl rfl) (cT (ay (bG dJ T.cP OZ (ay (au 1) az)) az) T.b7) (λ_ _ _ _ _ _=>(cM (i:=0) (hN:=(by decide +kernel:ω (["k","row"]:List Str))))) (λ_ _ _ _ _ _=>(iX (jI (bM bN (au 1) (au 0))))) (λ_ _ _ _ _ _=>(au 0))) az)))) az))))
theorem aj5(T:Tx K mg):cF P w base 1 T.vB 1 yH :=
 cU ["found"] λhN _ _ _ _ _ _ _=>by
  show bI _ _ As;unfold As;exact(aQ (bB (qZ (bG kO T.jM QM (ay (au 0) (ay (j7 rfl T.CQ boot_int) az))) (qX (x9 (bG kO T.jM QM (ay (au 0) (ay (j7 rfl T.yx boot_bool) az))))))))
theorem agC:iS ["found","due"] ["found","due"] (cZ BO):=⟨rfl,rfl,rfl,by decide +kernel,rfl,by decide +kernel,by decide +kernel⟩
theorem Cu(T:Tx K mg):∀j:Nat,d9 P w K mg base c9 (2+j) T.kJ.a T.kJ.fd ["found","due"] (fG K 2 (kq j))
 |0=>⟨λvs H Q E h=>by obtain⟨_,_,_,_,_,_,p⟩:=h;exact p.elim,λA outer s H args us vs Q E hr he hb hv h=>by obtain⟨_,_,_,_,_,_,p⟩:=h;exact p.elim⟩
 |j+1=>zu (k:=2+j) T.kJ.d.fn agC rfl rfl λcdv A outer s H E hr=>by
  have ih:d9 P w K mg base c9 (2+j) T.kJ.a T.kJ.fd ["found","due"] (fG K 2 (kq j)):=Cu T j;show bI _ _ (Ax (kq j));unfold Ax
  generalize kq j=m at ih ⊢
  refine aO (cS (bX Cz (au 1) jh) (aQ (bB (jH Cz (au 0) jh))) dR) ?_;refine aO (cS (jI (bG kO T.jM QM (ay (au 1) (ay (j7 rfl T.yx boot_bool) az)))) (aQ (bB (qZ (bG kO T.jM QM (ay (au 0) (ay (j7 rfl T.yx boot_bool) az))) (qX (jH fk (au 0) (au 1)))))) dR) ?_;refine aO (cS (jI (bG kO T.jM QM (ay (au 1) (ay (j7 rfl T.CQ boot_int) az)))) (aQ (bB (qZ (iY T.vB.d (aj5 T) (hr.mono ∅) (ay (au 0) az)) (qX (jH fk (au 0) (au 1)))))) dR) ?_
  refine aO (cS (jI (bG kO T.jM QM (ay (au 1) (ay (j7 rfl T.CO boot_str) az)))) (aQ (bB (qZ (bG kO T.jM QM (ay (au 0) (ay (j7 rfl T.CO boot_str) az))) (qX (jH fk (au 0) (au 1)))))) dR) ?_;refine aO (cS (PW.pt (Ck (bX nR (bG kO T.jM QM (ay (au 1) (ay (j7 rfl T.jL QN) az))) (bG kO T.jM QM (ay (au 0) (ay (j7 rfl T.jL QN) az)))) (Cm (bX nR (bG kO T.jM QM (ay (au 1) (ay (j7 rfl T.yw boot_list) az))) (bG kO T.jM QM (ay (au 0) (ay (j7 rfl T.yw boot_list) az))))))) (aQ (bB pG)) dR) ?_;exact(aQ (bB (qZ (jH fk (bG dJ T.cP OZ (ay (au 0) az)) (bG dJ T.cP OZ (ay (au 1) az))) (qX (bG Od T.CS boot_all (ay (iZ (N':=["one","other"]) (pick:=[O,O]) (cL.of rfl rfl) (YZ (ay (au 0) (ay (au 1) az)) T.KC) (λ_ _ _ _ _ _=>(qb (n:=2) (iy (cM (i:=0) (hN:=(by decide +kernel:ω (["one","other"]:List Str)))) (iy (cM (i:=1) (hN:=(by decide +kernel:ω (["one","other"]:List Str)))) oF)))) (λ_ _ _ _ _ _=>lq) (λ_ _ _ _ _ _=>(iY T.kJ.d ih (hr.mono ∅) (ay (au 0) (ay (au 1) az))))) az))))))
theorem tY:iS ["table","images","k","found","image"] ["table","images"] (cZ BS):=⟨rfl,rfl,rfl,by decide +kernel,rfl,by decide +kernel,by decide +kernel⟩
theorem JZ(T:Tx K mg):∀j:Nat,d9 P w K mg base c9 (1+j) T.lP.a T.lP.fd ["table","images"] (fG K 2 (lF j))
 |0=>⟨λvs H Q E h=>by obtain⟨_,_,_,_,_,_,p⟩:=h;exact p.elim,λA outer s H args us vs Q E hr he hb hv h=>by obtain⟨_,_,_,_,_,_,p⟩:=h;exact p.elim⟩
 |j+1=>zu (k:=1+j) T.lP.d.fn tY rfl rfl λcdv A outer s H E hr=>by
  have ih:d9 P w K mg base c9 (1+j) T.lP.a T.lP.fd ["table","images"] (fG K 2 (lF j)):=JZ T j;show bI _ _ (vZ (lF j));unfold vZ
  generalize lF j=m at ih ⊢
  refine aO (gA (i:=2) (bG dJ T.cP OZ (ay (au 1) az)) (hN:=tY.nd)) ?_;refine aO (cS (bX fk (au 2) (bG dJ T.cP OZ (ay (au 0) az))) (aQ (bB aN)) dR) ?_;refine aO (gA (i:=3) aN (hN:=tY.nd)) ?_;refine aO (eG (cT (ay (bG dJ T.cP OZ (ay (au 0) az)) az) T.b7) (cM (i:=4) (hN:=tY.nd)) (aQ (cS (PW.pt (uq (bX (Cy (i9 hr)) (au 4) (au 1)) (ur (bX (CA (i9 hr)) (gP (N':=["old","table","image"]) (pick:=[O,U 0,U 4]) (kD (au 1)) (λ_ _ _ _ _ _=>(bM bN (bM bN (au 1) (au 2)) (au 0)))) (Cj (bM bN (au 0) (au 2)) B9 (B8 (au 2))))))) (aQ (gA (i:=3) (aU cO (au 3) (iY T.lP.d ih (hr.mono ∅) (ay (au 0) (ay (aU ajT (au 1) (gk (ay (au 4) az))) az)))) (hN:=tY.nd))) dR))) ?_
  exact(aQ (bB (au 3)))
theorem uy(T:Tx K mg):cF P w base 1 T.zF 1 gB :=
 cU ["number","found","k"] λhN _ _ _ _ _ _ _=>by
  show bI _ _ Av;unfold Av;refine aO (bF 1 aN) ?_;refine aO (eG (lI (ay aN (ay (aU cO (au 0) aN) az)) T.b7) (e7 2) (aQ (bF 1 (aU gR (au 1) (au 2))))) ?_;exact(aQ (bB (au 1)))
theorem jg:iS ["pot","way","many","m","things","marks","one","lots","each","found","k"] ["pot"] (cZ BQ):=⟨rfl,rfl,rfl,by decide +kernel,rfl,by decide +kernel,by decide +kernel⟩
theorem akl(T:Tx K mg):cF P w base 2 T.vE 1 yK :=
 zq (k:=1) T.vE.d.fn jg rfl rfl λcdv A outer s H E hr=>by
  show bI _ _ vY;unfold vY;refine aO (gA (i:=1) (br (fJ T) hr (ay (au 0) (ay aN az))) (hN:=jg.nd)) ?_;refine aO (cS (bX fk (au 1) aN) (aO (gA (i:=2) (aU cO aN (br (fJ T) hr (ay (au 0) (ay aN az)))) (hN:=jg.nd)) (aQ (bB (gk (ay (gP (N':=["k","many"]) (pick:=[O,U 2]) (cT (ay (au 2) az) T.b7) (λ_ _ _ _ _ _=>(gk (ay (au 0) (ay (aU kc (aU cO (au 0) aN) (au 1)) az))))) (ay (aU gR aN (au 2)) az)))))) dR) ?_
  refine aO (cS (bX fk (au 1) aN) (aO (gA (i:=3) (aU cO aN (br (fJ T) hr (ay (au 0) (ay aN az)))) (hN:=jg.nd)) (aQ (bB (gk (ay (gP (N':=["k","m"]) (pick:=[O,U 3]) (cT (ay (aU gR (au 3) (au 3)) az) T.b7) (λ_ _ _ _ _ _=>(gk (ay (aU kg (au 0) (au 1)) (ay (aU cO aN (aU kc (au 0) (au 1))) az))))) (ay (aU gR (aU gR aN (br (uy T) hr (ay (au 3) az))) (br (uy T) hr (ay (au 3) az))) az)))))) dR) ?_
  refine aO (cS (bX fk (au 1) aN) (aO (gA (i:=4) (aU cO aN (br (fJ T) hr (ay (au 0) (ay aN az)))) (hN:=jg.nd)) (aO (gA (i:=5) (ly az) (hN:=jg.nd)) (aO (eG (cT (ay (au 4) az) T.b7) (cM (i:=6) (hN:=jg.nd)) (aQ (j4 (pF (au 5) (gP (N':=["other","one"]) (pick:=[O,U 6]) (lI (ay (aU cO (au 6) aN) (ay (au 4) az)) T.b7) (λ_ _ _ _ _ _=>(gk (ay (au 1) (ay (au 0) az))))))))) (aQ (bB (gk (ay (au 5) (ay (bM bN (gk (ay aN (ay aN az))) (aU uA (au 4) aN)) az)))))))) dR) ?_
  refine aO (gA (i:=7) (aU cO aN (br (fJ T) hr (ay (au 0) (ay aN az)))) (hN:=jg.nd)) ?_;refine aO (gA (i:=8) (aU cO aN (br (fJ T) hr (ay (au 0) (ay aN az)))) (hN:=jg.nd)) ?_;refine aO (gA (i:=9) (br (uy T) hr (ay (au 7) az)) (hN:=jg.nd)) ?_;refine aO (eG (cT (ay (au 7) az) T.b7) (cM (i:=10) (hN:=jg.nd)) (aQ (gA (i:=9) (aU gR (au 9) (br (uy T) hr (ay (au 8) az))) (hN:=jg.nd)))) ?_;refine aO (cS (PW.pt (Ck (bX fk (au 8) aN) (Cm (bX fk (au 7) aN)))) (aQ (gA (i:=9) (br (uy T) hr (ay (aU gR (au 7) (au 8)) az)) (hN:=jg.nd))) dR) ?_;exact(aQ (bB (gk (ay (gP (N':=["k","each"]) (pick:=[O,U 8]) (cT (ay (aU gR (au 7) (au 8)) az) T.b7) (λ_ _ _ _ _ _=>(gk (ay (aU kg (au 0) (au 1)) az)))) (ay (au 9) az)))))
theorem akh(T:Tx K mg):cF P w base 24 T.vG 1 uQ :=
 cU ["script","k","pot","table","marks","due","turn"] λhN _ _ _ _ _ _ hr=>by
  show bI _ _ we;unfold we;refine aO (eG (cT (ay (bG acg T.CP boot_max (ay aN (ay (bG sH T.nS RP (ay (bG dJ T.cP OZ (ay (au 0) az)) (ay aN az))) az))) az) T.b7) (e7 1) (aO (bF 2 (br (akn T) hr (ay (br (akk T) hr (ay (au 0) (ay (au 1) az))) az))) (aO (bF 3 (br (akj T) hr (ay (au 2) (ay aN az)))) (aO (cS (uo (jI (iY T.kJ.d (Cu T 3) (hr.mono ⋯) (ay (br (Ct T) hr (ay (br (JW T) hr (ay (au 3) az)) az)) (ay (iY T.lP.d (JZ T 8) (hr.mono ⋯) (ay (au 3) (ay (gk az) az))) az))))) (aQ (bB pG)) dR) (aO (pB (br (akl T) hr (ay (au 2) az)) (aaq (n:=2) (iy (e7 4) (iy (e7 5) oF)))) (aO (bF 3 (br (JY T) hr (ay (br (Cw T) hr (ay (bG dJ T.cP OZ (ay (au 4) az)) (ay (br (Cv T) hr (ay (bG dJ T.cP OZ (ay (au 4) az)) (ay (au 4) az))) az))) (ay (br (JX T) hr (ay (au 2) (ay (bG dJ T.cP OZ (ay (au 4) az)) az))) az)))) (aQ (eG (cT (ay aN az) T.b7) (e7 6) (aQ (cS (uo (jI (iY T.kJ.d (Cu T 3) (hr.mono ⋯) (ay (br (Ct T) hr (ay (br (JW T) hr (ay (au 3) az)) az)) (ay (au 5) az))))) (aQ (bB pG)) dR)))))))))) ?_
  exact(aQ (bB (jH fk (br (Ct T) hr (ay (gj (ay (gj az) az)) az)) aN)))
end
end Ev
namespace Ev
open PySem L2
theorem gM(h:s e c=.ok (.nx e') c'):aB s t e c=t e' c':=by rw[ic,h];rfl
theorem jj{i:Int}(h:0<=i):∃n:Nat,i=n:=⟨i.toNat,∅⟩
theorem oJ(inv:Nat->Ev->aa->Prop):∀(items:List D) (k:Nat) (e:Ev) (c:aa),inv k e c ->
  (∀i x,items[i]? = U x->∀e c,inv (k+i) e c->∃e' e'' c' c'',g x e c=.ok e' c'/\s e' c'=.ok (.nx e'') c''/\inv (k+i+1) e'' c'') ->
  ∃e' c',inv (k+items.length) e' c'/\bU (λ_=>True) g s items e c=.ok (.nx e') c'
 |[],k,e,c,hi,_=>⟨e,c,hi,by simp⟩
 |x::xs,k,e,c,hi,h=>by
  obtain⟨e',e'',c',c'',h1,h2,h3⟩:=h 0 x rfl e c hi;obtain⟨e3,c3,i3,h4⟩:=oJ inv xs _ e'' c'' h3 λi y hy e c hi=>by
   have:=h (i+1) y (by simpa using hy) e c (by rwa[show k+(i+1)=k+1+i by omega])
   rwa[show k+_+1=k+1+i+1 by omega]at this
  exact⟨e3,c3,by rwa[PB,show k+_=k+1+xs.length by omega],by rw[iL,h1,R.aH,h2];exact h4⟩
def ck(j:Nat)(n:Nat)(c:aa):Prop:=c.length=n/\j<n/\∃p:Int,c[j]? = U (.lst [.int p])
theorem ck.set(h:ck j n c)(p:Int):ck j n (c.set j (.lst [.int p])):=by
 obtain⟨h1,h2,_⟩:=h;exact⟨by simp[h1],h2,p,by rw[R3 ∅]⟩
theorem qP(h:ck j n c)(h0:0<cJ)(h1:cJ<1073741824):
  ∃(x:Int) (c':aa),0<=x/\x<cJ/\ck j n c'/\b8 [.ref j,.int cJ] c=.ok (.int x) c':=by
 obtain⟨hl,hj,p,hp⟩:=id h;refine⟨p % cJ,c.set j (.lst [.int (p/cJ)]),Rb _ ∅,Ra _ h0,h.set _,?_⟩
 have e1:aG (.ref j) (.int 0) c=.ok (.int p) c:=by
  unfold aG fH;simp[hp]
 have e2:mw (.ref j) (.int 0) (.int (p/cJ)) c=.ok () (c.set j (.lst [.int (p/cJ)])):=by
  unfold mw;simp[hp,gV]
 have e3:(c.set j (.lst [.int (p/cJ)])).take c.length=c.set j (.lst [.int (p/cJ)]):=by
  rw[RQ];simp
 simp(disch:=omega) [b8,vV,e1,mJ,qe,e2,e3]
theorem ah2(cell:Int)(c:aa):∃p:Int,rG [.int cell] c=.ok (.ref c.length) (c++[.lst [.int p]]):=by
 by_cases h:10^18<=cell
 ·simp(disch:=omega) [rG,vW,Js,h];rw[if_pos (by simpa using h)]
  simp[cH]
 ·obtain⟨e',c',⟨⟨q,v1,v2,rfl⟩,rfl⟩,hf⟩:=Na (g:=aA 2) (s:=(aB (aE 3 (av fq (av bY (av aZ (av aZ (av fq (ak 0) (dC (.int 2147483629))) (av bY (dC (.int 7919)) (ak 2))) (dC (.int 1))) (dC (.int 48271))) (dC (.int 2147483647)))) (aB (aE 3 (av fq (av aZ (av aZ (av bY (ak 3) (ak 3)) (av bY (dC (.int 69621)) (ak 2))) (dC (.int 7))) (dC (.int 2147483587)))) (aE 1 (av aZ (av bY (ak 1) (dC (.int 2147483587))) (ak 3))))))
   (λe c'=>(∃q v1 v2,e=[U (.int cell),U (.int q),v1,v2])/\c'=c) (aR 0 64) [U (.int cell),U (.int 0),O,O] c ⟨⟨0,O,O,rfl⟩,rfl⟩ (λx hx e c' ⟨⟨q,v1,v2,he⟩,hc⟩=>by
    obtain⟨i,rfl,i0,i1⟩:=jk hx;subst he;subst hc;have b0:0<=(cell % 2147483629+7919*i+1)*48271 % 2147483647:=Rb _ ⋯
    have b1:(cell % 2147483629+7919*i+1)*48271 % 2147483647<2147483647:=Ra _ ⋯
    generalize hm:(cell % 2147483629+7919*i+1)*48271 % 2147483647=m at b0 b1
    refine⟨_,[U (.int cell),U (.int (q*2147483587+(m*m+69621*i+7) % 2147483587)),U (.int i),U (.int ((m*m+69621*i+7) % 2147483587))],_,_,rfl,by simp(disch:=omega) [mJ,yy,mul_r,hm],⟨⟨_,_,_,rfl⟩,rfl⟩⟩)
  have hh:¬(1000000000000000000<=cell):=by simpa using h
  simp(disch:=omega) [rG,vW,Js,hh];rw[hf];simp[cH]
theorem acd(ns:List Int)(k:Int)(h:0<=k)(c:aa):∃x:Int,rJ [.bK ns,.int k] c=.ok (.int x) c:=by
 by_cases q:k<ns.length
 ·have e:aG (.bK ns) (.int k) c=.ok (.int ns[k.toNat]) c:=by
   show(match dY (ns.map D.int) k with|some d=>R.ok d c|none=>R.bad)=_
   have:dY (ns.map D.int) k=U (.int ns[k.toNat]):=by
    have:=kP (xs:=ns.map D.int) (j:=k.toNat) (v:=.int ns[k.toNat]) (by simp)
    rwa[Tp h]at this
   rw[this]
  simp[rJ,wc,q,e]
 ·exact⟨0,by simp[rJ,wc,q]⟩
theorem take2(hp:c[j]? = U (.lst [.int p]))(h0:0<cJ)(h1:cJ<1073741824):b8 [.ref j,.int cJ] c=.ok (.int (p % cJ)) (c.set j (.lst [.int (p/cJ)])):=by
 have e1:aG (.ref j) (.int 0) c=.ok (.int p) c:=by
  simp[aG,fH,hp]
 have e2:mw (.ref j) (.int 0) (.int (p/cJ)) c=.ok () (c.set j (.lst [.int (p/cJ)])):=by
  simp[mw,hp,gV]
 have e3:(c.set j (.lst [.int (p/cJ)])).take c.length=c.set j (.lst [.int (p/cJ)]):=by
  rw[RQ];simp
 simp(disch:=omega) [b8,vV,e1,mJ,qe,e2,e3]
def PO(j n:Nat)(os:List Nat)(c:aa):Prop:=c.length=n+1/\j<n/\(∃p:Int,c[j]? = U (.lst [.int p]))/\c[n]? = U (.lst (nD os))
theorem YT(os:List Nat)(i k:Nat):(os.take i++k::os.drop i).Perm (k::os):=by
 refine U5.trans ?_;rw[RT]
def rj:ah:=(fh (vO (ak 2) (aD 2 b8 (ao (ak 0) (ao (av aZ (ak 3) (dC (.int 1))) aq))) (ak 3)))
theorem aiF{os:List Nat}(hP:PO j n os c)(hk:os.length=k)(hk':k<1000)(a1:Option D):
  ∃os' c',PO j n os' c'/\os'.Perm (k::os)/\rj [U (.ref j),a1,U (.ref n),U (.int k)] c=.ok (.nx [U (.ref j),a1,U (.ref n),U (.int k)]) c':=by
 obtain⟨h1,h2,⟨p,h3⟩,h4⟩:=hP;have hs:=cN (n:=1000) ⋯
 have ht:=take2 (cJ:=k+1) h3 ∅ ∅
 have x0:=Rb p (show(k:Int)+1≠0 by omega)
 have x1:=Ra p (show(0:Int)<k+1 by omega)
 generalize p % _=x at ht x0 x1
 obtain⟨i,rfl⟩:=jj x0
 generalize hc1:c.set j (.lst [.int _])=c1 at ht
 have l1:c1.length=n+1:=by rw[<-hc1];simp[h1]
 have q1:c1[n]? = U (.lst (nD os)):=by rw[<-hc1,Rz ∅];exact h4
 refine⟨os.take i++k::os.drop i,c1.set n (.lst (nD (os.take i++k::os.drop i))),⟨by simp[l1],h2,⟨_,by rw[Rz ∅];exact(by rw[<-hc1,R3 ∅])⟩,by rw[R3 ∅]⟩,YT os i k,?_⟩
 have e:nD (os.take i++k::os.drop i)=(nD os).take i ++ .int k::(nD os).drop i:=by simp
 have hin:vO (ak 2) (aD 2 b8 (ao (ak 0) (ao (av aZ (ak 3) (dC (.int 1))) aq))) (ak 3) [U (.ref j),a1,U (.ref n),U (.int k)] c=.ok .aF (c1.set n (.lst (nD (os.take i++k::os.drop i)))):=by
  rw[afR];simp only[cX,gz,gs,R.aH,x_call,cY,fV,jB,cQ,sZ,PB,Rn,if_pos,ht,q1];rw[if_pos ⟨⟨∅,by rw[O2];omega⟩,by rw[O2];omega,rfl⟩,RD,e]
 unfold rj;rw[wZ,hin];rfl
theorem aiE{c:aa}(hn:c.length=n)(b:-4611686018427387904<=q/\q<4611686018427387904)(hf:bU (λ_=>True) (aA 3) rj (aR 0 q) [U (.ref j),U (.int q),U (.ref n),O] (c++[.lst []])=.ok (.nx [U (.ref j),U (.int q),U (.ref n),v]) c3)(ht:fc [.ref n] c3=.ok (.tup l) c3)(nr:bD l=J):nX [.ref j,.int q] c=.ok (.tup l) (c3.take n):=by
 have hb:AA=aB _ (aB (bL _ (aA 3) rj) _):=rfl;have e0:(aE 2 (fN aq)) [U (.ref j),U (.int q),O,O] c=.ok (.nx [U (.ref j),U (.int q),U (.ref n),O]) (c++[.lst []]):=by simp[hn]
 have e1:(bL (bu ⇑1) (aA 3) rj) [U (.ref j),U (.int q),U (.ref n),O] (c++[.lst []])=.ok (.nx [U (.ref j),U (.int q),U (.ref n),v]) c3:=by
  simp
  rwa[if_pos ∅]
 have e2:(aS (aK fc ⇑2)) [U (.ref j),U (.int q),U (.ref n),v] c3=.ok (.rt (.tup l)) c3:=by simp[ht]
 rw[nX,iT,hb];have es:bW 4 [D.ref j,.int q]=[U (.ref j),U (.int q),O,O]:=rfl;rw[es,gM e0,gM e1,e2];have lC:noRef (.tup l)=J:=nr;simp only[R.aH];unfold cH;dsimp only;rw[if_pos lC,hn]
theorem JK{j n m:Nat}(hP:ck j n c)(hm:m<1000):∃os c',os.Perm (θ m)/\ck j n c'/\nX [.ref j,.int (m:Int)] c=.ok (.tup (nD os)) c':=by
 obtain⟨hl,hj,p,hp⟩:=hP;have hlen:(aR 0 (m:Int)).length=m:=by rw[fX];omega
 obtain⟨e',c3,⟨os,v,rfl,P3,hp3⟩,hf⟩:=oJ (g:=aA 3) (s:=rj) (λk e c=>∃os v,e=[U (.ref j),U ↥m,U (.ref n),v]/\PO j n os c/\os.Perm (θ k))
  (aR 0 (m:Int)) 0 [U (.ref j),U ↥m,U (.ref n),O] (c++[.lst []]) ⟨[],O,rfl,⟨by simp[hl],hj,⟨p,by rw[Pn ∅];exact hp⟩,by rw[QT ∅,hl];simp⟩,.refl _⟩ (λi x hx e c ⟨os,v,he,P1,hp1⟩=>by
   subst he;have hi:i<(aR 0 (m:Int)).length:=(OX.mp hx).1;obtain⟨hlt,rfl⟩:=j5 hx;rw[Sa];rw[O9]at hp1 ⊢;have gY:os.length=i:=by have:=hp1.length_eq;simpa using this
   obtain⟨aiK,c2,P2,hp2,h2⟩:=aiF P1 gY ∅ (U ↥m)
   refine⟨_,_,_,_,rfl,h2,aiK,_,rfl,P2,?_⟩;rw[QC];exact hp2.trans ((hp1.cons i).trans (TF i _).symm))
 rw[hlen,O9]at hp3;obtain⟨l3,_,⟨p3,q3⟩,q4⟩:=P3;refine⟨os,c3.take n,hp3,⟨by rw[S3];omega,hj,p3,by rw[Vm hj];exact q3⟩,?_⟩
 exact aiE hl ∅ hf (by unfold fc;dsimp only;rw[show fH c3 (.ref n)=U (nD os) by unfold fH;dsimp only;rw[q4]]) (mE os)
def dw(n m:Nat):List D:=(θ m).map λr=>.ref (n+r)
theorem xW(h:r<m):dY (dw n m) (r:Int)=U (.ref (n+r)):=kP (by simp[dw,h])
def bT(m:Nat)(f:Nat->Nat->Bool)(i:Nat):List D:=(θ m).map λk=>.bl (f i k)
def d7(m:Nat)(f:Nat->Nat->Bool):aa:=(θ m).map λi=>.lst (bT m f i)
def bh(m:Nat)(f:Nat->Nat->Bool):D:=.lst ((θ m).map λi=>.lst (bT m f i))
def fW(f:Nat->Nat->Bool)(a b:Nat)(v:Bool):Nat->Nat->Bool:=λi k=>if i=a/\k=b then v else f i k
theorem aid(m:Nat)(f:Nat->Nat->Bool)(i:Nat):(bT m f i).length=m:=by simp[bT]
theorem aic(f:Nat->Nat->Bool)(i:Nat)(h:k<m):(bT m f i)[k]? = U (.bl (f i k)):=by simp[bT,h]
theorem BZ(m:Nat)(f:Nat->Nat->Bool)(i:Nat):bD (bT m f i)=J:=gS.mpr λd hd=>by
 obtain⟨k,_,rfl⟩:=K1.mp hd;rfl
theorem D8(f:Nat->Nat->Bool)(c:aa)(h:i<m):(c++d7 m f)[c.length+i]? = U (.lst (bT m f i)):=by
 simp[d7,h]
theorem aan(f:Nat->Nat->Bool)(v:Bool)(c:aa)(ha:a<m):(c++d7 m f).set (c.length+a) (.lst ((bT m f a).set b (.bl v)))=c++d7 m (fW f a b v):=by
 rw[To _ _ ∅]
 congr 1
 rw[Nat.add_sub_cancel_left];apply Q4
 ·simp[d7]
 ·intro i h1 h2;rw[VB];simp only[d7,S8,SA]
  by_cases e:a=i
  ·subst e;rw[if_pos rfl]
   congr 1
   apply Q4
   ·simp[bT]
   ·intro k h3 h4;rw[VB];simp only[bT,S8,SA,fW]
    by_cases e2:b=k
    ·subst e2;simp
    ·rw[if_neg e2,if_neg (λz=>e2 z.2.symm)]
  ·rw[if_neg e]
   congr 1
   refine Pk λk _=>?_
   unfold fW;rw[if_neg (λz=>e z.1.symm)]
theorem zh(f:Nat->Nat->Bool)(v:Bool)(c:aa)(ha:a<m)(hb:b<m):mw (.ref (c.length+a)) ↥b (.bl v) (c++d7 m f)=.ok () (c++d7 m (fW f a b v)):=by
 have p:=aan (b:=b) f v c ha;unfold mw;simp[(D8 f c ha),gV,(aid m f a),hb,noRef,p]
theorem aaS(n:Nat):(ο n [D.bl Δ]).flatten=(θ n).map λ_=>D.bl Δ:=by
 induction n with
 |zero=>rfl
 |succ n ih=>rw[RC,Rx,ih,SY,O6,PV];rfl
def qc:af:=(av nP (bV (ao (dC (.bl Δ)) aq)) (ak 1))
theorem aar{q:Int}{m:Nat}(hq:q=m)(hm:m<1000)(v:Option D)(c:aa):qc [v,U (.int q)] c=.ok (.ref c.length) (c++[.lst ((θ m).map λ_=>.bl Δ)]):=by
 have hs:=cN (n:=1000) ⋯
 have e:(ο q.toNat [D.bl Δ]).flatten=(θ m).map λ_=>D.bl Δ:=by rw[aaS,hq,RD]
 unfold qc;simp only[fV,qG,cY,jB,cQ,R.aH,cX,gz,gs,PB,Rn];rw[if_pos (cN ⋯)]
 simp only[R.aH,afK,e];rw[if_pos ⟨∅,∅,by simp;omega,rfl⟩]
theorem EG{q:Int}{m:Nat}(hq:q=m)(hm:m<1000):∀(items:List D) (v:Option D) (acc:List D) (c:aa),bR (λ_=>True) (aA 0) aY qc items [v,U (.int q)] acc c=.ok (acc++dw c.length items.length) (c++(θ items.length).map λ_=>.lst ((θ m).map λ_=>.bl Δ))
 |[],v,acc,c=>by simp[dw]
 |x::xs,v,acc,c=>by
  rw[m9];have h1:aA 0 x [v,U (.int q)] c=.ok [U x,U (.int q)] c:=rfl;rw[h1,R.aH,qD,R.aH,if_pos rfl,aar hq hm,R.aH,EG hq hm xs];have e1:acc++[D.ref c.length]++dw (c++[Cell.lst ((θ m).map λ_=>.bl Δ)]).length xs.length=acc++dw c.length (x::xs).length:=by
   rw[QS,Pf,PB,Rn]
   congr 1
   unfold dw;rw[PB,SY,O6,PV];simp only[S9,Pe,R9]
   congr 1
   refine Pk λr _=>?_
   simp only[Function.comp]
   congr 1;omega
  have e2:c++[Cell.lst ((θ m).map λ_=>D.bl Δ)]++(θ xs.length).map (λ_=>Cell.lst ((θ m).map λ_=>D.bl Δ))=c++(θ (x::xs).length).map (λ_=>Cell.lst ((θ m).map λ_=>D.bl Δ)):=by
   rw[QS]
   congr 1
   rw[PB,SY,O6,PV];rfl
  rw[e1,e2]
theorem Hl(c:aa)(n m:Nat)(f:Nat->Nat->Bool):∀l:List Nat,(∀i∈l,c[n+i]? = U (.lst (bT m f i)))->ie c n (l.map λi=>.ref (n+i))=U (l.map λi=>.lst (bT m f i))
 |[],_=>rfl
 |i::l,h=>by
  have ih:=Hl c n m f l λk hk=>h k (.tail _ hk)
  rw[O6,O6,ie,ih];have:eg c n (.ref (n+i))=U (.lst (bT m f i)):=by
   unfold eg;rw[h i (.head _)];dsimp only;rw[if_pos ∅]
  rw[this]
theorem Em(c:aa)(m:Nat)(f:Nat->Nat->Bool):jW c.length (.lst (dw c.length m)) (c++d7 m f)=.ok (bh m f) c:=by
 unfold jW eg dw;rw[Hl _ _ m f (θ m) λi hi=>D8 f c (dg.mp hi)]
 simp[bh]
def bA(M:List (List Int)):List D:=M.map λl=>.lst (l.map D.int)
def aV(p:Nat×Nat):D:=.tup [.int p.1,.int p.2]
def Gg(m:Nat)(ps:List (Nat×Nat)):Prop:=∀p∈ps,p.1<m/\p.2<m
def gU(ps:List (Nat×Nat)):Nat->Nat->Bool:=λi k=>ps.any λp=>(p.1==i&&p.2==k)||(p.2==i&&p.1==k)
theorem join_snoc(ps:List (Nat×Nat))(p:Nat×Nat):gU (ps++[p])=fW (fW (gU ps) p.1 p.2 J) p.2 p.1 J:=by
 funext i k
 unfold gU fW;rw[List.any_append]
 by_cases h1:i=p.2/\k=p.1
 ·rw[if_pos h1];simp[h1.1,h1.2]
 ·rw[if_neg h1]
  by_cases h2:i=p.1/\k=p.2
  ·rw[if_pos h2];simp[h2.1,h2.2]
  ·rw[if_neg h2];have e1:(p.1==i&&p.2==k)=Δ:=by
    cases q:(p.1==i&&p.2==k)with
    |false=>rfl
    |true=>simp at q;exact absurd ⟨q.1.symm,q.2.symm⟩ h2
   have e2:(p.2==i&&p.1==k)=Δ:=by
    cases q:(p.2==i&&p.1==k)with
    |false=>rfl
    |true=>simp at q;exact absurd ⟨q.1.symm,q.2.symm⟩ h1
   simp[e1,e2]
def uY:ah:=(aB (iW (dC (.bl J)) (jT (av aG (ak 2) (ak 3)) (ak 4))) (iW (dC (.bl J)) (jT (av aG (ak 2) (ak 4)) (ak 3))))
theorem Yx{f:Nat->Nat->Bool}{c:aa}(a0 a1:Option D)(ha:a<m)(hb:b<m):
  uY [a0,a1,U (.lst (dw c.length m)),U (.int a),U (.int b)] (c++d7 m f)=.ok (.nx [a0,a1,U (.lst (dw c.length m)),U (.int a),U (.int b)]) (c++d7 m (fW (fW f a b J) b a J)):=by
 have h1:∀c',aG (.lst (dw c.length m)) _ c'=.ok _ c':=λc'=>by rw[iE,xW ha]
 have h2:∀c',aG (.lst _) _ c'=.ok (.ref (c.length+b)) c':=λc'=>by rw[iE,xW hb]
 have s2:=zh (fW f a b J) J c hb ha;unfold uY;simp only[ic,xh,jB,R.aH,Bo,fV,cX,gz,gs,h1,h2,(zh f J c ha hb),s2]
theorem Yy(hp:Gg m ps)(st:aa->Prop)(hst:∀R:aa,st (c++R))(a0 a1:Option D):
  ∃v w,bU st (fy 2 (b9 (aA 3) (b9 (aA 4) fB))) uY (ps.map aV) [a0,a1,U (.lst (dw c.length m)),O,O] (c++d7 m λ_ _=>Δ)=.ok (.nx [a0,a1,U (.lst (dw c.length m)),v,w]) (c++d7 m (gU ps)):=by
 obtain⟨v',hf⟩:=zm (g:=(fy 2 (b9 (aA 3) (b9 (aA 4) fB)))) (s:=uY) _ (λ_ v=>[a0,a1,U _,v.1,v.2]) (ps.map aV) 0 (O,O) (λi _=>hst _) (λi x hx v=>by
  rw[O9];have hi:i<ps.length:=by have:=(OX.mp hx).1;simpa using this
  have ex:x=aV ps[i]:=by
   rw[PK,O1 hi]at hx;cases hx;rfl
  subst ex;have hq:=hp _ (PX hi);have hs:=Yx (f:=gU (ps.take i)) (c:=c) a0 a1 hq.1 hq.2;rw[<-join_snoc,<-So hi]at hs;refine⟨[a0,a1,U _,U _,U _],?_,(U _,U _),hs⟩;simp[aV])
 have e0:gU (ps.take 0)=λ_ _=>Δ:=by funext i k;rfl
 rw[O9,O2,Q3,e0]at hf;exact⟨v'.1,v'.2,hf⟩
theorem Yz(a1:Option D)(b1:-4611686018427387904<=q/\q<4611686018427387904)(hl:(aR 0 q).length<Ω)(hc:bR (λ_=>True) (aA 0) aY qc (aR 0 q) [O,U (.int q)] [] c=.ok l c'):
  (aE 2 (aX (bu ⇑0) [O,U 0] (aA 0) aY (av nP (bV (ao (dC (.bl Δ)) aq)) (ak 1)))) [U (.int q),a1,O,O,O] c=.ok (.nx [U (.int q),a1,U (.lst l),O,O]) c':=by
 unfold qc at hc;simp;rw[if_pos ∅]
 simp;rw[if_pos hl];have:fj [O,U 0] [U (D.int q),a1,O,O,O]=[O,U (.int q)]:=rfl;rw[this,hc];rfl
theorem YA{W:D}{s1 s2:ah}(e0:s0 [U (.int q),U X,O,O,O] c=.ok (.nx [U (.int q),U X,U (.lst l),O,O]) c1)(e1:s1 [U (.int q),U X,U (.lst l),O,O] c1=.ok (.nx [U (.int q),U X,U (.lst l),v,w]) c2)(e2:s2 [U (.int q),U X,U (.lst l),v,w] c2=.ok (.rt (.lst l)) c2)(hx:jW c.length (.lst l) c2=.ok W c):
  jV 5 (aB s0 (aB s1 s2)) [.int q,X] c=.ok W c:=by
 rw[sY];have e3:bW 5 [D.int q,X]=[U _,U X,O,O,O]:=rfl
 rwa[e3,gM e0,gM e1,e2]
theorem LK(hp:Gg m ps)(hm:m<1000)(hX:(∃k,X=.ref k/\c[k]? = U (.lst (ps.map aV)))\/X=.lst (ps.map aV)):nY [.int (m:Int),X] c=.ok (bh m (gU ps)) c:=by
 have hs:=cN (n:=1000) ⋯
 have hrl:(aR 0 m).length=m:=by rw[fX];omega
 have hc:=EG rfl hm (aR 0 m) O [] c;rw[hrl,Pe]at hc;have hg:(θ m).map (λ_=>Cell.lst _)=d7 m λ_ _=>Δ:=rfl
 have DC:∃st:aa->Prop,(∀R:aa,st (c++R))/\∀(a0 a2:Option D) R,dF (ak 1) [a0,U X,a2,O,O] (c++R)=.ok ⟨ps.map aV,st⟩ (c++R):=by
  rcases hX with⟨k,rfl,hk⟩|rfl
  ·have Zy:k<c.length:=(OX.mp hk).1;have Ms:∀R:aa,(c++R)[k]? = U _:=λR=>by rw[Pn Zy];exact hk
   refine⟨λc'=>c'[k]? = U _,Ms,λa0 a2 ae7=>?_⟩
   unfold dF;simp only[cX,gz,gs,R.aH,Ms]
  ·exact⟨λ_=>True,λ_=>trivial,λa0 a2 R=>rfl⟩
 obtain⟨st,hst,hd⟩:=DC;obtain⟨v,w,hf⟩:=Yy (m:=m) hp st hst _ (U X);have e1:(bL (dF (ak 1)) (fy 2 (b9 (aA 3) (b9 (aA 4) fB))) uY) [U (.int m),U X,U (.lst (dw c.length m)),O,O] (c++d7 m λ_ _=>Δ)=.ok (.nx [U (.int m),U X,U (.lst (dw c.length m)),v,w]) (c++d7 m (gU ps)):=by
  rwa[nC,hd]
 exact YA (Yz (U X) ∅ (by rw[hrl];omega) hc) e1 rfl (Em c m _)
theorem Bx(f:Nat->Nat->Bool)(h:i<m):dY ((θ m).map λi=>D.lst (bT m f i)) (i:Int)=U (.lst (bT m f i)):=kP (by simp[h])
theorem uc(f:Nat->Nat->Bool)(i:Nat)(h:k<m):dY (bT m f i) (k:Int)=U (.bl (f i k)):=kP (aic f i h)
theorem KJ{os:List Nat}(h:i<os.length):dY (nD os) (i:Int)=U (.int (os[i]:Nat)):=kP (by simp[nD,h])
theorem Dz{os:List Nat}(h:os.idxOf a<os.length):os[os.idxOf a]=a:=by
 exact SX h
theorem yT{os:List Nat}(hn:os.Nodup)(h:i<os.length):os.idxOf os[i]=i:=by
 exact(Qf hn).mp (Dz (RO.mpr (PX h)))
def dS(os:List Nat)(f:Nat->Nat->Bool)(i k:Nat):Nat->Nat->Bool:=λa b=>if os.idxOf a<i\/(os.idxOf a=i/\os.idxOf b<k)then(if os.idxOf b<os.length then f (os.idxOf a) (os.idxOf b)else Δ)else Δ
theorem WL{os:List Nat}(hn:os.Nodup)(f:Nat->Nat->Bool)(hi:i<os.length)(hk:k<os.length):fW (dS os f i k) os[i] os[k] (f i k)=dS os f i (k+1):=by
 funext a b
 unfold fW dS
 by_cases h:a=os[i]/\b=os[k]
 ·rw[if_pos h,h.1,h.2,yT hn hi,yT hn hk];rw[if_pos ∅,if_pos hk]
 ·rw[if_neg h]
  by_cases ha:os.idxOf a=i
  ·by_cases hb:os.idxOf b=k
   ·have ea:os[i]=a:=by
     have:=Dz (os:=os) (a:=a) ∅
     simpa[ha]using this
    have eb:os[k]=b:=by
     have:=Dz (os:=os) (a:=b) ∅
     simpa[hb]using this
    exact absurd ⟨ea.symm,eb.symm⟩ h
   ·have e:(os.idxOf a<i\/(os.idxOf a=i/\os.idxOf b<k))↔(os.idxOf a<i\/(os.idxOf a=i/\os.idxOf b<k+1)):=∅
    simp only[e]
  ·have e:(os.idxOf a<i\/(os.idxOf a=i/\os.idxOf b<k))↔(os.idxOf a<i\/(os.idxOf a=i/\os.idxOf b<k+1)):=∅
   simp only[e]
theorem WN{os:List Nat}(f:Nat->Nat->Bool)(i:Nat):∀a b,dS os f i os.length a b=dS os f (i+1) 0 a b:=λa b=>by
 unfold dS
 by_cases hb:os.idxOf b<os.length
 ·have e:(os.idxOf a<i\/(os.idxOf a=i/\os.idxOf b<os.length))↔(os.idxOf a<i+1\/(os.idxOf a=i+1/\os.idxOf b<0)):=∅
  simp only[e]
 ·simp only[if_neg hb,ite_self]
def uG:ah:=(iW (av aG (av aG (ak 0) (ak 4)) (ak 5)) (jT (av aG (ak 3) (av aG (ak 1) (ak 4))) (av aG (ak 1) (ak 5))))
theorem WV{os:List Nat}(hn:os.Nodup)(hm:os.length=m)(f:Nat->Nat->Bool){c:aa}(hlt:∀x∈os,x<m)(hi:i<m)(hk:k<m)(a2:Option D):
  uG [U (bh m f),U (.tup (nD os)),a2,U (.lst (dw c.length m)),U (.int i),U (.int k)] (c++d7 m (dS os f i k))=.ok (.nx [U (bh m f),U (.tup (nD os)),a2,U (.lst (dw c.length m)),U (.int i),U (.int k)]) (c++d7 m (dS os f i (k+1))):=by
 have DJ:os[i]<m:=hlt _ (PX ∅)
 have hok:os[k]<m:=hlt _ (PX ∅)
 have h1:∀c',aG (bh m f) ↥i c'=.ok (.lst (bT m f i)) c':=λc'=>by unfold bh;rw[iE,Bx f hi]
 have h2:∀c',aG (.lst (bT m f i)) ↥k c'=.ok (.bl (f i k)) c':=λc'=>by rw[iE,uc f i hk]
 have h3:∀c',aG (.tup (nD os)) ↥i c'=.ok (.int (os[i])) c':=λc'=>by rw[Bm,KJ ∅]
 have h4:∀c',aG (.tup (nD os)) ↥k c'=.ok (.int (os[k])) c':=λc'=>by rw[Bm,KJ ∅]
 have h5:∀c',aG (.lst (dw c.length m)) (.int (os[i])) c'=.ok (.ref (c.length+os[i])) c':=λc'=>by rw[iE,xW DJ]
 have s1:=zh (dS os f i k) (f i k) c DJ hok;rw[WL hn f ∅ ∅]at s1
 unfold uG;simp only[xh,R.aH,Bo,fV,cX,gz,gs,h1,h2,h3,h4,h5,s1]
def rD:ah:=bL (bu ⇑2) (aA 5) uG
theorem WU(b:-4611686018427387904<=q/\q<4611686018427387904)(h:bU (λ_=>True) (aA 5) uG (aR 0 q) [U T,U η,U (.int q),U (.lst l),a4,v] c=.ok (.nx [U T,U η,U (.int q),U (.lst l),a4,v']) c'):
  rD [U T,U η,U (.int q),U (.lst l),a4,v] c=.ok (.nx [U T,U η,U (.int q),U (.lst l),a4,v']) c':=by
 unfold rD;simp only[nC,o4,cY,cX,gz,gs,cQ,R.aH];rw[if_pos ∅]
 exact h
theorem WT{os:List Nat}(hn:os.Nodup)(hm:os.length=m)(hm':m<1000)(f:Nat->Nat->Bool){c:aa}(hlt:∀x∈os,x<m)(hi:i<m)(v:Option D):
  ∃v',rD [U (bh m f),U (.tup (nD os)),U ↥m,U (.lst (dw c.length m)),U (.int i),v] (c++d7 m (dS os f i 0))=.ok (.nx [U (bh m f),U (.tup (nD os)),U ↥m,U (.lst (dw c.length m)),U (.int i),v']) (c++d7 m (dS os f (i+1) 0)):=by
 obtain⟨v',hf⟩:=M9 (g:=aA 5) (s:=uG) (λk=>c++d7 m (dS os f i k)) (λ_ v=>[U (bh m f),U (.tup (nD os)),U ↥m,U (.lst (dw c.length m)),U (.int i),v]) (N:=(m:Int)) (n:=m) rfl v (λk hk v=>by
  exact⟨_,rfl,U (.int k),WV hn hm f hlt hi hk (U ↥m)⟩)
 have e:dS os f i m=dS os f (i+1) 0:=by
  funext a b
  rw[<-hm];exact WN f i a b
 rw[e]at hf;exact⟨v',WU ∅ hf⟩
theorem len_tab(m:Nat)(f:Nat->Nat->Bool)(c:aa):aT [bh m f] c=.ok ↥m c:=by
 unfold aT bh;simp[fH]
theorem WS{W:D}{s1 s2:ah}(e0:s0 [U T,U η,O,O,O,O] c=.ok (.nx [U T,U η,U (.int q),O,O,O]) c)(e1:s1 [U T,U η,U (.int q),O,O,O] c=.ok (.nx [U T,U η,U (.int q),U (.lst l),O,O]) c1)(e2:s2 [U T,U η,U (.int q),U (.lst l),O,O] c1=.ok (.nx [U T,U η,U (.int q),U (.lst l),v,w]) c2)(e3:s3 [U T,U η,U (.int q),U (.lst l),v,w] c2=.ok (.rt (.lst l)) c2)(hx:jW c.length (.lst l) c2=.ok W c):
  jV 6 (aB s0 (aB s1 (aB s2 s3))) [T,η] c=.ok W c:=by
 rw[sY];have es:bW 6 [T,η]=[U T,U η,O,O,O,O]:=rfl;rw[es,gM e0,gM e1,gM e2,e3];exact hx
theorem WQ(b1:-4611686018427387904<=q/\q<4611686018427387904)(hl:(aR 0 q).length<Ω)(hc:bR (λ_=>True) (aA 0) aY qc (aR 0 q) [O,U (.int q)] [] c=.ok l c'):
  (aE 3 (aX (bu ⇑2) [O,U 2] (aA 0) aY (av nP (bV (ao (dC (.bl Δ)) aq)) (ak 1)))) [U T,U η,U (.int q),O,O,O] c=.ok (.nx [U T,U η,U (.int q),U (.lst l),O,O]) c':=by
 unfold qc at hc;simp only[qE,nE,o4,cY,cX,gz,gs,cQ,R.aH];rw[if_pos ∅]
 simp only[R.aH];rw[if_pos hl];have:fj [O,U 2] [U T,U η,U (D.int q),O,O,O]=[O,U (.int q)]:=rfl;rw[this,hc];rfl
theorem WR(b:-4611686018427387904<=q/\q<4611686018427387904)(h:bU (λ_=>True) (aA 4) rD (aR 0 q) [U T,U η,U (.int q),U (.lst l),O,O] c=.ok (.nx [U T,U η,U (.int q),U (.lst l),u,v]) c'):
  (bL (bu ⇑2) (aA 4) rD) [U T,U η,U (.int q),U (.lst l),O,O] c=.ok (.nx [U T,U η,U (.int q),U (.lst l),u,v]) c':=by
 simp only[nC,o4,cY,cX,gz,gs,cQ,R.aH];rw[if_pos ∅]
 exact h
theorem KN{os:List Nat}(hp:os.Perm (θ m))(hm:m<1000)(f:Nat->Nat->Bool)(c:aa):rH [bh m f,.tup (nD os)] c=.ok (bh m (dS os f m 0)) c:=by
 have hs:=cN (n:=1000) ⋯
 have hn:os.Nodup:=hp.nodup_iff.mpr QY;have hl:os.length=m:=by have:=hp.length_eq;simpa using this
 have hrl:(aR 0 (m:Int)).length=m:=by rw[fX];omega
 have hc:=EG (q:=(m:Int)) (m:=m) rfl hm (aR 0 (m:Int)) O [] c;rw[hrl,Pe]at hc;have hg:(θ m).map (λ_=>Cell.lst ((θ m).map λ_=>D.bl Δ))=d7 m (dS os f 0 0):=by
  unfold d7 bT;refine Pk λi _=>?_
  congr 1
  refine Pk λk _=>?_
  simp[dS]
 rw[hg]at hc;obtain⟨v',hf⟩:=M9 (α:=Option D×Option D) (g:=aA 4) (s:=rD) _ (λ_ v=>[U (bh m f),U (.tup (nD os)),U ↥m,U (.lst (dw c.length m)),v.1,v.2]) (N:=(m:Int)) (n:=m) rfl (O,O) (λi hi v=>by
  obtain⟨w,hw⟩:=WT hn hl hm f (λx hx=>dg.mp (hp.mem_iff.mp hx)) hi v.2 (c:=c)
  exact⟨_,rfl,(U (.int i),w),hw⟩)
 have e0:(aE 2 (aK aT ⇑0)) [U (bh m f),U (.tup (nD os)),O,O,O,O] c=.ok (.nx [U (bh m f),U (.tup (nD os)),U ↥m,O,O,O]) c:=by
  have:=len_tab m f c;simp[this]
 have hb:AB=aB _ (aB _ _):=rfl;exact WS e0 (WQ ∅ (by rw[hrl];omega) hc) (WR ∅ hf) rfl (Em c m _)
def z9:af:=(aK rS ⇑0)
theorem NX(m:Nat)(f:Nat->Nat->Bool):∀(l:List Nat) (v:Option D) (acc:List D) (c:aa),bR (λ_=>True) (aA 0) aY z9 (l.map λi=>.lst (bT m f i)) [v] acc c=.ok (acc++dw c.length l.length) (c++l.map λi=>.lst (bT m f i))
 |[],v,acc,c=>by simp[dw]
 |i::l,v,acc,c=>by
  rw[O6,m9];have h1:aA 0 _ [v] c=.ok [U (.lst (bT m f i))] c:=rfl;have h2:z9 [U (.lst (bT m f i))] c=.ok (.ref c.length) (c++[.lst (bT m f i)]):=by
   unfold z9;simp;unfold rS;dsimp only[fH];rw[if_pos (BZ m f i)]
  rw[h1,R.aH,qD,R.aH,if_pos rfl,h2,R.aH,NX m f l];have e1:acc++[D.ref c.length]++dw (c++[Cell.lst (bT m f i)]).length l.length=acc++dw c.length (i::l).length:=by
   rw[QS,Pf,PB,Rn]
   congr 1
   unfold dw;rw[PB,SY,O6,PV];simp only[S9,Pe,R9]
   congr 1
   refine Pk λr _=>?_
   congr 1;omega
  rw[e1,QS];rfl
def tN(f:Nat->Nat->Bool)(a b:Nat):Nat->Nat->Bool:=fW (fW f a b (!f a b)) b a (!fW f a b (!f a b) b a)
theorem aao(f:Nat->Nat->Bool)(c:aa)(ha:a<m)(hb:b<m):aG (.ref (c.length+a)) ↥b (c++d7 m f)=.ok (.bl (f a b)) (c++d7 m f):=by
 unfold aG fH;dsimp only;rw[D8 f c ha];dsimp only;rw[uc f a hb]
theorem Hs{m a b:Nat}(f:Nat->Nat->Bool){c:aa}{i j:Nat}{a0:Option D}{e:Ev}(he:e[3]? = U (U (.lst (dw c.length m))))(hi:e[i]? = U (U ↥a))(hj:e[j]? = U (U ↥b))(ha:a<m)(hb:b<m) :
  iW (oQ (av aG (av aG (ak 3) (ak i)) (ak j))) (jT (av aG (ak 3) (ak i)) (ak j)) e (c++d7 m f)=.ok (.nx e) (c++d7 m (fW f a b (!f a b))):=by
 have h1:∀c',aG _ _ c'=.ok (.ref (c.length+a)) c':=λc'=>by rw[iE,xW ha]
 simp only[xh,afL,fV,cX,he,hi,hj,R.aH,h1,(aao f c ha hb),Bo,(zh f (!f a b) c ha hb)]
theorem aa6(ha:a<m)(hb:b<m)(hm:m<1000)(f:Nat->Nat->Bool)(c:aa):uP [bh m f,.int (a:Int),.int (b:Int)] c=.ok (bh m (tN f a b)) c:=by
 have hs:=cN (n:=1000) ⋯
 have hc:=NX m f (θ m) O [] c;rw[Qt,Pe]at hc;have hb':Au=aB _ _:=rfl;have e0:(aE 3 (aX (dF (ak 0)) [O] (aA 0) aY (aK rS ⇑0))) [U (bh m f),U ↥a,U ↥b,O] c=.ok (.nx [U (bh m f),U ↥a,U ↥b,U (.lst (dw c.length m))]) (c++d7 m f):=by
  unfold z9 at hc;rw[qE,nE];unfold dF bh;simp only[cX,gz,R.aH];rw[if_pos (by rw[O2,Qt];omega)]
  have:∀T A B:Option D,fj [O] [T,A,B,O]=[O]:=λ_ _ _=>rfl
  rw[this,hc];rfl
 have e1:=Hs f (c:=c) (m:=m) (i:=1) (j:=2) (a0:=O) (e:=[U (bh m f),U ↥a,U ↥b,U (.lst (dw c.length m))]) rfl rfl rfl ha hb;have e2:=Hs (fW f a b (!f a b)) (c:=c) (m:=m) (i:=2) (j:=1) (a0:=O) (e:=[U (bh m f),U ↥a,U ↥b,U (.lst (dw c.length m))]) rfl rfl rfl hb ha;rw[uP,hb',sY];have es:bW 4 [bh m f,.int (a:Int),.int (b:Int)]=[U (bh m f),U ↥a,U ↥b,O]:=rfl;rw[es,gM e0,gM e1,gM e2];exact Em c m (tN f a b)
def nk(f:Nat->Nat->Bool):Nat->Nat->Bool:=λi k=>!decide (i=k) && !f i k
def sM:af:=(m7 (av fL (ak 1) (ak 0)) (oQ (av aG (av aG (ak 2) (ak 1)) (ak 0))))
def qq:af:=aX (bu ⇑1) [O,U 0,U 2] (aA 0) aY sM
theorem Nl(l:List D):l.filter (λ_=>J)=l:=by simp
theorem Jc{β:Type}(m:Nat)(F:D->β):(aR 0 (m:Int)).map F=(θ m).map λi:Nat=>F ↥i:=by
 unfold aR;rw[PV,show((m:Int)-0).toNat=m by omega]
 refine Pk λi _=>?_
 simp
theorem ac1{m i:Nat}(f:Nat->Nat->Bool)(hi:i<m)(c:aa):bR (λ_=>True) (aA 0) aY sM (aR 0 (m:Int)) [O,U ↥i,U (bh m f)] [] c=.ok (bT m (nk f) i) c:=by
 have h1:∀c',aG (bh m f) (.int _) c'=.ok (.lst (bT m f i)) c':=λc'=>by unfold bh;rw[iE,Bx f hi]
 have:=vQ (c:=c) (g:=aA 0) (t:=aY) (a:=sM) (λe=>∃v,e=[v,U (.int i),U (bh m f)]) (λ_=>J) (λd=>match d with|.int k=>.bl (nk f i k.toNat)|d=>d) (aR 0 m) [O,U (.int i),U (bh m f)] [] ⟨_,rfl⟩ (λd hd e ⟨v,he⟩=>by
  subst he;obtain⟨k',rfl,k0,k1⟩:=jk hd;obtain⟨k,rfl⟩:=jj k0;have h2:∀c',aG (.lst (bT m f i)) (.int k) c'=.ok (.bl (f i k)) c':=λc'=>by rw[iE,uc f i ∅]
  refine⟨_,rfl,⟨_,rfl⟩,rfl,λ_=>?_⟩
  show sM [U (.int k),U (.int i),U (bh m f)] c=_
  generalize bh m f=T at *
  unfold sM
  by_cases e:i=k
  ·subst e;simp[nk]
  ·have e':¬(i:Int)=k:=∅
   simp[e',nk,e,h1,h2])
 rw[this,Pe,Nl,Jc]
 congr 1
theorem ac3{q i:Int}{T a0:Option D}{c:aa}{l:List D}(b:-4611686018427387904<=q/\q<4611686018427387904)(hl:(aR 0 q).length<Ω)(h:bR (λ_=>True) (aA 0) aY sM (aR 0 q) [O,U (.int i),T] [] c=.ok l c):qq [U (.int i),U (.int q),T] c=.ok (.lst l) c:=by
 unfold qq;simp;rw[if_pos ∅]
 simp;rw[if_pos hl];have:fj [O,U 0,U 2] [U (D.int i),U (.int q),T]=[O,U (.int i),T]:=by cases T<;>rfl
 rw[this,h];rfl
theorem ac0{m:Nat}(f:Nat->Nat->Bool)(hm:m<1000)(c:aa):bR (λ_=>True) (aA 0) aY qq (aR 0 (m:Int)) [O,U ↥m,U (bh m f)] [] c=.ok ((θ m).map λi=>.lst (bT m (nk f) i)) c:=by
 have hs:=cN (n:=1000) ⋯
 have:=vQ (g:=aA 0) (t:=aY) (a:=qq) (λe=>∃v,e=[v,U _,U (bh m f)]) (λ_=>J) (λd=>match d with|.int k=>.lst (bT m _ k.toNat)|d=>d) (aR 0 m) [O,U ↥m,U _] [] ⟨_,rfl⟩ (λd hd e ⟨v,he⟩=>by
  subst he;obtain⟨k',rfl,k0,k1⟩:=jk hd;obtain⟨k,rfl⟩:=jj k0;refine⟨_,rfl,⟨_,rfl⟩,rfl,λ_=>?_⟩
  exact ac3 (a0:=O) ∅ (by rw[fX];omega) (ac1 f ∅ c))
 rw[this,Pe,Nl,Jc]
 congr 1
theorem ac2(b:-4611686018427387904<=q/\q<4611686018427387904)(hl:(aR 0 q).length<Ω)(hn:aT [T] c=.ok (.int q) c)(h:bR (λ_=>True) (aA 0) aY qq (aR 0 q) [O,U (.int q),U T] [] c=.ok l c)(nr:bD l=J):rL [T] c=.ok (.lst l) c:=by
 have hb:AE=aB _ (aS (aX _ [O,U 1,U 0] _ aY qq)):=rfl;have e1:(aS (aX (bu ⇑1) [O,U 1,U 0] (aA 0) aY qq)) [U T,U (.int q)] c=.ok (.rt (.lst l)) c:=by
  simp;rw[if_pos ∅]
  simp;rw[if_pos hl];have:fj [O,U 1,U 0] [U T,U _]=[O,U (.int q),U T]:=rfl;rw[this,h];rfl
 have e0:(aE 1 (aK aT ⇑0)) [U T,O] c=.ok (.nx [U T,U (.int q)]) c:=by simp[hn]
 rw[rL,iT,hb];have es:bW 2 [T]=[U T,O]:=rfl;rw[es,gM e0,e1];have lC:noRef (.lst l)=J:=nr;simp only[R.aH];unfold cH;dsimp only;rw[if_pos lC,Q3]
theorem acY(f:Nat->Nat->Bool)(hm:m<1000)(c:aa):rL [bh m f] c=.ok (bh m (nk f)) c:=by
 have hs:=cN (n:=1000) ⋯
 refine ac2 ∅ (by rw[fX];omega) (len_tab m f c) (ac0 f hm c) (gS.mpr λd hd=>?_)
 obtain⟨i,_,rfl⟩:=K1.mp hd;exact BZ m _ i
def cg(m:Nat)(f:Nat->Nat->Bool)(i:Nat):List Nat:=(θ m).filter λk=>f i k
def qS(m:Nat)(f:Nat->Nat->Bool):D:=.tup ((θ m).map λi=>.tup (nD (cg m f i)))
def qT:ai:=(aI (av aG (ak 1) (ak 0)))
theorem ahW{m i:Nat}(f:Nat->Nat->Bool)(c:aa):bR (λ_=>True) (aA 0) qT (ak 0) (aR 0 (m:Int)) [O,U (.lst (bT m f i))] [] c=.ok (nD (cg m f i)) c:=by
 have:=vQ (c:=c) (g:=aA 0) (t:=qT) (a:=ak 0) (λe=>∃v,e=[v,U (.lst (bT m f i))]) (λd=>match d with|.int k=>f i k.toNat|_=>Δ) id (aR 0 (m:Int)) [O,U (.lst (bT m f i))] [] ⟨_,rfl⟩ (λd hd e ⟨v,he⟩=>by
  subst he;obtain⟨k',rfl,k0,k1⟩:=jk hd;obtain⟨k,rfl⟩:=jj k0;have h2:aG (.lst (bT m f i)) ↥k c=.ok (.bl (f i k)) c:=by rw[iE,uc f i ∅]
  refine⟨_,rfl,⟨_,rfl⟩,?_,λ_=>rfl⟩
  show qT [U ↥k,U (.lst (bT m f i))] c=_;unfold qT;simp only[xg,fV,cX,gz,gs,R.aH,h2,RD])
 rw[this,Pe,List.map_id]
 congr 1
 unfold aR cg nD;rw[VA,show((m:Int)-0).toNat=m by omega]
 have e:((λd:D=>match d with|.int k=>f i k.toNat|_=>Δ) ∘ λk:Nat=>D.int (0+(k:Int)))=λk=>f i k:=by
  funext k
  simp
 rw[e];refine Pk λk _=>?_
 simp
def qU:af:=(aK fc (ao (aX (bu (ao (aK aT ⇑1) aq)) [O,U 0] (aA 0) (aI (av aG (ak 1) (ak 0))) (ak 0)) aq))
theorem ahX(hn:aT [T] c=.ok (.int q) c)(b:-4611686018427387904<=q/\q<4611686018427387904)(hl:(aR 0 q).length<Ω)(h:bR (λ_=>True) (aA 0) qT (ak 0) (aR 0 q) [O,U (.lst r)] [] c=.ok l c):
  qU [U (.lst r),U T] c=.ok (.tup l) c:=by
 unfold qT at h;unfold qU;simp only[qH,cY,nE,o4,cX,gz,gs,cQ,R.aH,hn];rw[if_pos ∅]
 simp only[R.aH];rw[if_pos hl];have:fj [O,U 0] [U (D.lst r),U T]=[O,U (.lst r)]:=rfl;rw[this,h];rfl
theorem ahZ(f:Nat->Nat->Bool)(hm:m<1000)(c:aa):bR (λ_=>True) (aA 0) aY qU ((θ m).map λi=>.lst (bT m f i)) [O,U (bh m f)] [] c=.ok ((θ m).map λi=>.tup (nD (cg m f i))) c:=by
 have hs:=cN (n:=1000) ⋯
 have hlen:=len_tab m f c;have key:∀(l:List Nat) (v:Option D) (acc:List D),bR (λ_=>True) (aA 0) aY qU (l.map λi=>.lst (bT m f i)) [v,U (bh m f)] acc c=.ok (acc++l.map λi=>.tup (nD (cg m f i))) c:=by
  intro l
  induction l with
  |nil=>intro v acc;simp
  |cons i l ih =>
   intro v acc;have h1:aA 0 _ [v,U (bh m f)] c=.ok [U (.lst (bT m f i)),U (bh m f)] c:=rfl;rw[O6,m9,h1,R.aH,qD,R.aH,if_pos rfl,(ahX hlen ∅ (by rw[fX];omega) (ahW f c)),R.aH,ih,QS]
   rfl
 have:=key (θ m) O []
 rwa[Pe]at this
theorem aim(f:Nat->Nat->Bool)(hm:m<1000)(c:aa):nW [bh m f] c=.ok (qS m f) c:=by
 have hs:=cN (n:=1000) ⋯
 have h:=ahZ f hm c;have hb:Ay=aS (aK fc (ao (aX _ [O,U 0] (aA 0) aY qU) aq)):=rfl;rw[nW,iT,hb];have es:bW 1 [bh m f]=[U (bh m f)]:=rfl;have nr:noRef (qS m f)=J:=by
  refine gS.mpr λd hd=>?_
  obtain⟨i,_,rfl⟩:=K1.mp hd;exact mE _
 have e1:(aS (aK fc (ao (aX (dF (ak 0)) [O,U 0] (aA 0) aY qU) aq))) [U (bh m f)] c=.ok (.rt (qS m f)) c:=by
  have hd:dF (ak 0) [U (bh m f)] c=.ok ⟨(θ m).map λi=>.lst _,λ_=>True⟩ c:=rfl
  have hp:fj [O,U 0] [U (bh m f)]=[O,U (bh m f)]:=rfl;simp only[qF,qH,cY,nE,hd,cQ,R.aH];rw[if_pos (by rw[O2,Qt];omega),hp,h]
  rfl
 rw[es,e1];simp;unfold qS at nr ⊢;unfold cH;dsimp only;rw[if_pos nr,Q3]
def nu(m:Nat)(ps:List (Nat×Nat)):Prop:=∀p∈ps,p.1<m/\p.2<m/\p.1≠p.2
def g8(f:Nat->Nat->Bool):Prop:=(∀i,f i i=Δ)/\∀i k,f i k=f k i
theorem Yu(h:nu m ps):g8 (gU ps):=by
 refine⟨λi=>?_,λi k=>?_⟩
 ·unfold gU;rw[Vq];intro p hp;have:=(h p hp).2.2;simp only[R0,PF,beq_iff_eq];omega
 ·unfold gU
  congr 1
  funext p
  rw[Bool.or_comm]
  congr 1<;>rw[Bool.and_comm]
theorem acZ{f:Nat->Nat->Bool}(h:g8 f):g8 (nk f):=by
 refine⟨λi=>by simp[nk],λi k=>?_⟩
 unfold nk;rw[h.2 i k]
 congr 2
 exact decide_eq_decide.mpr ⟨Eq.symm,Eq.symm⟩
theorem agM{f:Nat->Nat->Bool}(h:g8 f)(hab:a≠b):g8 (tN f a b):=by
 have e:∀i k,tN f a b i k=if(i=b/\k=a)\/(i=a/\k=b)then !f a b else f i k:=λi k=>by
  unfold tN;have e1:fW f a b (!f a b) b a=f a b:=by
   unfold fW;rw[if_neg (λz=>hab z.2),h.2 b a]
  rw[e1];unfold fW
  by_cases h1:i=b/\k=a
  ·rw[if_pos h1,if_pos (.inl h1)]
  ·rw[if_neg h1]
   by_cases h2:i=a/\k=b
   ·rw[if_pos h2,if_pos (.inr h2)]
   ·rw[if_neg h2,if_neg (λz=>z.elim h1 h2)]
 refine⟨λi=>?_,λi k=>?_⟩
 ·rw[e,if_neg ∅,h.1 i]
 ·rw[e,e,h.2 i k]
  by_cases h1:(i=b/\k=a)\/(i=a/\k=b)
  ·rw[if_pos h1,if_pos ∅]
  ·rw[if_neg h1,if_neg ∅]
theorem KL{f:Nat->Nat->Bool}(h:g8 f){os:List Nat}(hm:os.length=m):g8 (dS os f m 0):=by
 have e:∀a b,dS os f m 0 a b=if os.idxOf a<m/\os.idxOf b<m then f (os.idxOf a) (os.idxOf b)else Δ:=λa b=>by
  unfold dS;rw[hm]
  by_cases h1:os.idxOf a<m
  ·rw[if_pos (.inl h1)]
   by_cases h2:os.idxOf b<m
   ·rw[if_pos h2,if_pos ⟨h1,h2⟩]
   ·rw[if_neg h2,if_neg (λz=>h2 z.2)]
  ·rw[if_neg ∅,if_neg (λz=>h1 z.1)]
 refine⟨λi=>?_,λi k=>?_⟩
 ·rw[e,h.1];simp
 ·rw[e,e,h.2]
  by_cases h1:os.idxOf i<m/\os.idxOf k<m
  ·rw[if_pos h1,if_pos ⟨h1.2,h1.1⟩]
  ·rw[if_neg h1,if_neg (λz=>h1 ⟨z.2,z.1⟩)]
theorem Wm(ps:List (Nat×Nat)):bD (ps.map aV)=J:=gS.mpr λd hd=>by
 obtain⟨p,_,rfl⟩:=K1.mp hd;rfl
def W{α:Type}(r:R α)(Q:α->aa->Prop):Prop:=∃a c,r=.ok a c/\Q a c
theorem aW{α:Type}{a:α}{Q:α->aa->Prop}:W (.ok a c) Q↔Q a c:=Iff.intro (λh=>by obtain⟨_,_,e,q⟩:=h;cases e;exact q) λq=>⟨a,c,rfl,q⟩
theorem bE{α β:Type}{r:R α}{f:α->aa->R β}{Q:β->aa->Prop}:W (r.bind f) Q↔W r λa c=>W (f a c) Q:=by
 cases r with
 |ok a c=>rw[R.aH,aW]
 |bad=>exact Iff.intro (λh=>by obtain⟨_,_,e,_⟩:=h;cases e) λh=>by obtain⟨_,_,e,_⟩:=h;cases e
theorem W.imp{α:Type}{r:R α}{Q Q':α->aa->Prop}(h:W r Q)(k:∀a c,Q a c->Q' a c):W r Q':=let⟨a,c,e,q⟩:=h;⟨a,c,e,k a c q⟩
theorem eX{α:Type}{p:Prop}[Decidable p]{r s:R α}{Q:α->aa->Prop}(h:p)(q:W r Q):W (if p then r else s) Q:=by rw[if_pos h];exact q
def Nx(I:Ev->aa->Prop):Fl->aa->Prop:=λf c=>∃e,f=.nx e/\I e c
theorem Nx.of{I:Ev->aa->Prop}(h:I e c):Nx I (.nx e) c:=⟨e,rfl,h⟩
theorem GJ(inv:Nat->Ev->aa->Prop){Q:Fl->aa->Prop}:∀(items:List D) (k:Nat) {e:Ev}{c:aa},inv k e c ->
  (∀i x e c,items[i]? = U x->inv (k+i) e c->W (g x e c) λe c=>W (s e c) (Nx (inv (k+i+1))))->(∀e c,inv (k+items.length) e c->Q (.nx e) c)->W (bU (λ_=>True) g s items e c) Q
 |[],k,e,c,h,_,q=>by rw[aaF,aW];exact q e c h
 |x::xs,k,e,c,h,st,q=>by
  rw[iL,bE];refine(st 0 x e c rfl h).imp λe c h=>?_
  rw[bE];refine h.imp λf c ⟨e',hf,h⟩=>?_
  subst hf;refine GJ inv xs _ h (λi y e c hy=>?_) λe c h=>q e c (by rw[PB,show k+_=k+1+xs.length by omega];exact h)
  rw[show k+1+i=k+(i+1) by omega]
  exact st (i+1) y e c hy
theorem GI(inv:Nat->Ev->aa->Prop){Q:Fl->aa->Prop}{items:List D}(h:inv 0 e c)(st:∀(I:Ev->aa->Prop) i x e c,items[i]? = U x->inv i e c->(∀e c,inv (i+1) e c->I e c)->W (g x e c) λe c=>W (s e c) (Nx I))(q:∀e c,inv items.length e c->Q (.nx e) c):W (bU (λ_=>True) g s items e c) Q :=
 GJ inv items 0 h (λi x e c hx h=>by rw[O9]at h ⊢;exact st _ i x e c hx h λ_ _ h=>h) (by rw[O9];exact q)
theorem tE(inv:Nat->Ev->aa->Prop){Q:Fl->aa->Prop}{items:List D}(h:inv 0 e c)(st:∀(I:Ev->aa->Prop) i x e c,i<items.length->x∈items->inv i e c->(∀e c,inv (i+1) e c->I e c)->W (g x e c) λe c=>W (s e c) (Nx I))(q:∀e c,inv items.length e c->Q (.nx e) c):W (bU (λ_=>True) g s items e c) Q :=
 GI inv h (λI i x e c hx=>st I i x e c (OX.mp hx).1 (P8 hx)) q
theorem o6(inv:List D->aa->Prop){Q:List D->aa->Prop}:∀{items:List D}{v:Option D}{acc:List D}{c:aa},inv acc c ->
  (∀(Γ:List D->aa->Prop) x acc c,x∈items->inv acc c->(∀l c,inv l c->Γ l c)->W (t (U x::E) c) λb c=>if b=J then W (a (U x::E) c) λd c=>Γ (acc++[d]) c else Γ acc c)->(∀l c,inv l c->l.length<=acc.length+items.length->Q l c)->W (bR (λ_=>True) (aA 0) t a items (v::E) acc c) Q
 |[],v,acc,c,h,_,q=>by
  unfold bR;rw[if_pos trivial,aW];exact q acc c h (AP _)
 |x::xs,v,acc,c,h,st,q=>by
  rw[m9,show aA 0 x _ c=.ok _ c from rfl,R.aH,bE]
  refine(st inv x acc c (.head _) h λ_ _ h=>h).imp λb c h=>?_
  cases b with
  |true =>
   rw[if_pos rfl]at h ⊢;rw[bE];exact h.imp λd c h=>o6 inv h (λΓ y acc c hy=>st Γ y acc c (.tail _ hy)) λl c hl hn=>q l c hl (by simp at hn ⊢;omega)
  |false =>
   exact o6 inv h (λΓ y acc c hy=>st Γ y acc c (.tail _ hy)) λl c hl hn=>q l c hl (by simp at hn ⊢;omega)
theorem o5{Q:D->aa->Prop}(h:ck j n c)(h0:0<cJ)(h1:cJ<1073741824)(q:∀x c',0<=x->x<cJ->ck j n c'->Q (.int x) (c'++t)):W (b8 [.ref j,.int cJ] (c++t)) Q:=by
 obtain⟨hl,hj,p,hp⟩:=id h;refine⟨_,_,take2 (by rw[Pn ∅];exact hp) h0 h1,?_⟩
 rw[List.set_append_left _ _ ∅]
 exact q _ _ (Rb _ ∅) (Ra _ h0) (h.set _)
def PR(m:Int)(l:List D):Prop:=∀d∈l,∃a b:Int,d=.tup [.int a,.int b]/\0<=a/\a<m/\0<=b/\b<m/\a≠b
theorem PR.nil(m:Int):PR m []:=λd h=>by cases h
theorem PR.app(h:PR m l)(k:PR m r):PR m (l++r):=λd hd=>(PY.mp hd).elim (h d) (k d)
theorem PR.snoc(h:PR m l)(h1:0<=a)(h2:a<m)(h3:0<=b)(h4:b<m)(h5:a≠b):PR m (l++[.tup [.int a,.int b]]):=h.app λd hd=>by
 rw[Pa]at hd;exact⟨a,b,hd,h1,h2,h3,h4,h5⟩
theorem PR.CD(h:PR m l):bD l=J:=gS.mpr λd hd=>by
 obtain⟨a,b,rfl,_⟩:=h d hd;rfl
theorem PR.nat{m:Nat}:∀{l:List D},PR m l->∃ps,l=ps.map aV/\nu m ps
 |[],_=>⟨[],rfl,λp h=>by cases h⟩
 |d::l,h=>by
  obtain⟨ps,rfl,hp⟩:=PR.nat λx hx=>h x (.tail _ hx)
  obtain⟨a,b,rfl,h1,h2,h3,h4,h5⟩:=h d (.head _);refine⟨(a.toNat,b.toNat)::ps,by simp[aV,Tp h1,Tp h3],λp p7=>?_⟩
  rcases Bt.mp p7 with rfl|p7
  ·exact⟨∅,∅,∅⟩
  ·exact hp p p7
theorem w_any(h:∀d∈l,∃b,d=.bl b)(c:aa):∃b,nj [.lst l] c=.ok (.bl b) c:=by
 obtain⟨bs,rfl⟩:∃bs:List Bool,l=bs.map D.bl:=by
  induction l with
  |nil=>exact⟨[],rfl⟩
  |cons d l ih =>
   obtain⟨bs,hb⟩:=ih λx hx=>h x (.tail _ hx)
   obtain⟨b,rfl⟩:=h d (.head _);exact⟨b::bs,by rw[hb];rfl⟩
 refine⟨bs.any id,?_⟩;unfold nj pD;dsimp only;rw[ER]
theorem LW(l:List Int)(y:Int)(c:aa):∃b,inD (.int y) (.lst (l.map D.int)) c=.ok (.bl b) c:=by
 have hd:∀l:List Int,eN (l.map D.int)=U (l.map PyData.int):=λl=>by
  induction l with
  |nil=>rfl
  |cons a l ih=>rw[O6];unfold eN;rw[ih];rfl
 refine⟨(l.map PyData.int).any λz=>z.eqv (.int y),?_⟩
 unfold inD fC eF;simp[hd,PyData.depth]
theorem gp(a b:Int):(aR a b).length=(b-a).toNat:=by simp[aR]
theorem pA:1000000<Ω:=⋯
theorem CI{q:Int}{Q:D->aa->Prop}(hX:∀t,fH (c++t) X=U (bA M))(hM:q<=M.length)(hs:∀l∈M,l.length<1000)(hm:q<64)(Mm:0<=q)(hQ:∀l,PR q l->Q (.lst l) c):W (kr [.int q,X] c) Q:=by
 have sz:=pA;have hix:∀(i:Int) (t:aa),0<=i->i<q->∃l:List Int,l.length<1000/\aG X (.int i) (c++t)=.ok (.lst (l.map D.int)) (c++t):=λi t i0 i1=>by
  obtain⟨k,rfl⟩:=jj i0;have hk:k<M.length:=∅
  refine⟨M[k],hs _ (PX hk),?_⟩;unfold aG;dsimp only;rw[hX t];dsimp only;rw[kP (j:=k) (v:=.lst (M[k].map D.int)) (by simp[bA,hk])]
 simp[kr,vX,bE,aW];refine eX ∅ (aW.mpr (tE (λi e c'=>∃l v3 v4,e=[U (.int q),U X,U (.ref c.length),v3,v4]/\c'=c++[.lst l]/\PR q l/\l.length<=64*i) ⟨[],O,O,rfl,rfl,PR.nil q,by simp⟩ ?_ ?_))
 ·rintro I i x e c' hi hx ⟨l,v3,v4,rfl,rfl,hl,hn⟩ hI
  obtain⟨a,rfl,a0,a1⟩:=jk hx;simp[bE,aW,gp]at hi ⊢;refine eX ∅ (aW.mpr (tE (λk e c'=>∃l v4,e=[U (.int q),U X,U (.ref c.length),U (.int a),v4]/\c'=c++[.lst l]/\PR q l/\l.length<=64*i+k) ⟨l,v4,rfl,rfl,hl,∅⟩ ?_ ?_))
  ·rintro Γ k y e c' hk hy ⟨l,v4,rfl,rfl,hl,hn⟩ hJ
   obtain⟨b,rfl,b0,b1⟩:=jk hy;obtain⟨ra,ha1,ha⟩:=hix a [.lst l] a0 a1;obtain⟨rb,hb1,hb⟩:=hix b [.lst l] ∅ b1
   simp[bE,aW,ha,gp]at hk ⊢;refine eX ∅ ?_
   rw[bE];refine o6 (λz c'=>c'=c++[.lst l]/\∀d∈z,∃b,d=.bl b) ⟨rfl,λd h=>by cases h⟩ ?_ ?_
   ·rintro K x z c' hx ⟨rfl,hz⟩ hK
    obtain⟨y,-,rfl⟩:=K1.mp hx;obtain⟨u,hu⟩:=LW rb y (c++[.lst l]);simp[bE,aW,hb,hu];exact hK _ _ ⟨rfl,λd hd=>(PY.mp hd).elim (hz d) λh=>⟨u,Pa.mp h⟩⟩
   ·rintro z c' ⟨rfl,hz⟩ -
    obtain⟨u,hu⟩:=w_any hz (c++[.lst l]);have h3:l.length<Ω:=∅
    cases u<;>simp[bE,aW,hu,lT,∅,h3]
    ·exact .of (hJ _ _ ⟨l,_,rfl,rfl,hl,∅⟩)
    ·exact .of (hJ _ _ ⟨_,_,rfl,rfl,hl.snoc a0 a1 ∅ b1 ∅,by simp;omega⟩)
  ·rintro e c' ⟨l,v4,rfl,rfl,hl,hn⟩
   exact .of (hI _ _ ⟨l,_,v4,rfl,rfl,hl,by simp[gp]at hn;omega⟩)
 ·rintro e c' ⟨l,v3,v4,rfl,rfl,hl,hn⟩
  simp[aW,cH];exact hQ l hl
theorem af7(m:Nat)(f:Nat->Nat->Bool):noRef (bh m f)=J:=by
 refine gS.mpr λd hd=>?_
 obtain⟨i,_,rfl⟩:=K1.mp hd;exact BZ m f i
theorem El(m:Nat)(f:Nat->Nat->Bool)(n:Nat)(c:aa):cH Δ n (bh m f) c=.ok (bh m f) (c.take n):=by
 have nr:=af7 m f;unfold bh at nr ⊢;unfold cH;dsimp only;rw[if_pos nr]
theorem nu.isIn(h:nu m ps):Gg m ps:=λp hp=>⟨(h p hp).1,(h p hp).2.1⟩
theorem GH{Q:D->aa->Prop}(h0:0<=q)(h1:q<1000)(hl:PR q l)(hX:(∃k,X=.ref k/\c[k]? = U (.lst l))\/X=.lst l)(hQ:∀(m:Nat) ps,q=m->nu m ps->Q (bh m (gU ps)) c):W (nY [.int q,X] c) Q:=by
 obtain⟨m,rfl⟩:=jj h0;obtain⟨ps,rfl,hp⟩:=hl.nat;exact⟨_,_,LK hp.isIn ∅ hX,hQ m ps rfl hp⟩
theorem l8{Q:D->aa->Prop}(h:ck j n c)(h0:0<cJ)(h1:cJ<1073741824)(q:∀x c',0<=x->x<cJ->ck j n c'->Q (.int x) c'):W (b8 [.ref j,.int cJ] c) Q:=by
 have:=o5 h h0 h1 λx c' a b p=>by rw[QX];exact q x c' a b p
 rwa[QX]at this
def Ex(n:Nat)(Q:D->aa->Prop):D->aa->Prop:=λv c=>∃z d l,v=.lst z/\c=d++[.lst l]/\d.length=n/\l.length+z.length<=1000000/\bD z=J/\Q .aF (d++[.lst (l++z)])
theorem xo{Q:D->aa->Prop}(h1:dO e c=.ok (.ref n) c)(h:W (da e c) (Ex n Q)):W (gG dO da e c) Q:=by
 have sz:=pA;unfold gG;rw[h1];simp;rw[bE];refine h.imp λv c' hh=>?_
 obtain⟨z,d,l,rfl,rfl,hn,hl,nr,q⟩:=hh;have e1:(d++[Cell.lst l])[n]? = U (.lst l):=by rw[<-hn];simp
 rw[e1];dsimp only;rw[if_pos ⟨∅,nr⟩,aW,<-hn,To _ _ (AP _),Rf]
 exact q
theorem agE{most:Int}{Q:D->aa->Prop}(hP:ck j n c)(h0:0<most)(h1:most<60)(hQ:∀(m:Nat) ps c',1<=m->(m:Int)<=most->nu m ps->ck j n c'->Q (bh m (gU ps)) c'):W (yI [.ref j,.int most] c) Q:=by
 have sz:=pA;have hn:=hP.1;simp[yI,Aw,bE,aW];refine l8 hP h0 ∅ λy c1 y0 y1 P1=>?_
 simp[bE,aW];refine l8 P1 ⋯ ⋯ λz c2 z0 z1 P2=>?_
 simp[bE,aW];refine eX ∅ (aW.mpr (tE (λi e c'=>∃l d v5,e=[U (.ref j),U (.int most),U (.int (1+y)),U (.int (1+z)),U (.ref c2.length),v5]/\c'=d++[.lst l]/\ck j n d/\PR (1+y) l/\l.length<=60*i) ⟨[],c2,O,rfl,rfl,P2,PR.nil _,by simp⟩ ?_ ?_))
 ·rintro I i x e c' hi hx ⟨l,d,v5,rfl,rfl,P,hl,yX⟩ hI
  obtain⟨a,rfl,a0,a1⟩:=jk hx;simp[gp]at hi;simp[bE,aW];refine xo (n:=c2.length) rfl ?_;simp[bE];refine eX ∅ (aW.mpr (eX (by simp[gp];omega) (bE.mpr (o6 (E:=[U (.int a),U (.int (1+z)),U (.ref j)]) (λz c'=>PR (1+y) z/\∃d,c'=d++[.lst l]/\ck j n d) ⟨PR.nil _,d,rfl,P⟩ ?_ ?_))))
  ·rintro Γ x z' c' hx ⟨hz,d,rfl,P⟩ hJ
   obtain⟨b,rfl,b0,b1⟩:=jk hx;have h2:(2:Nat)<=Ω:=∅
   simp[bE,aW];refine o5 P ⋯ ⋯ λx d x0 x1 P=>?_
   simp[bE,aW,h2];split
   ·exact hJ _ _ ⟨hz.snoc a0 a1 ∅ b1 ∅,d,rfl,P⟩
   ·exact hJ _ _ ⟨hz,d,rfl,P⟩
  ·rintro z' c' ⟨hz,d,rfl,P⟩ r8
   simp[gp]at r8;rw[aW];exact⟨z',d,l,rfl,rfl,by rw[P.1,P2.1],∅,hz.CD,.of (hI _ _ ⟨_,d,_,rfl,rfl,P,hl.app hz,by simp;omega⟩)⟩
 ·rintro e c' ⟨l,d,v5,rfl,rfl,P,hl,yX⟩
  simp[bE,aW];refine GH ∅ ∅ hl (.inl ⟨_,rfl,by rw[P2.1,<-P.1];simp⟩) λm ps hm hp=>?_
  simp[aW,El];rw[V9 (by rw[P.1,hn];exact AP _),RQ (by rw[P.1,hn];exact AP _)]
  exact hQ m ps d ∅ ∅ hp P
theorem PR.comp{Q:List D->aa->Prop}(a0:0<=a)(a1:a<q)(ht:∀b,∃u,t (U (.int b)::U (.int a)::E) c=.ok u c)(hQ:∀l,PR q l->l.length<=(q-(a+1)).toNat->Q l c):
  W (bR (λ_=>True) (aA 0) t (bZ (1⊂0)) (aR (a+1) q) (O::U (.int a)::E) [] c) Q:=by
 refine o6 (λz c'=>PR q z/\c'=c) ⟨PR.nil _,rfl⟩ ?_ ?_
 ·rintro Γ x z c' hx ⟨hz,rfl⟩ hJ
  obtain⟨b,rfl,b0,b1⟩:=jk hx;obtain⟨u,hu⟩:=ht b;cases u<;>simp[aW,hu,∅]
  ·exact hJ _ _ ⟨hz,rfl⟩
  ·exact hJ _ _ ⟨hz.snoc a0 a1 ∅ b1 ∅,rfl⟩
 ·rintro z c' ⟨hz,rfl⟩ hn
  exact hQ z hz (by simpa[gp]using hn)
theorem MO{d:aa}{pick:List (Option Nat)}{Q:Fl->aa->Prop}(hn:d.length=n)(q0:0<=q)(q1:q<64)(ht:∀a b c,∃u,t (U (.int b)::U (.int a)::E) c=.ok u c)(hp:∀a,fj pick [v0,v1,v2,U (.int q),U (.ref n),O,O,O,O,U (.int a),O,O,σ]=O::U (.int a)::E)(hQ:∀l v9,PR q l->l.length<=4096->Q (.nx [v0,v1,v2,U (.int q),U (.ref n),O,O,O,O,v9,O,O,σ]) (d++[.lst l])):
  W (bU (λ_=>True) (aA 9) (fh (gG (ak 4) (aX (gv (ao (av aZ (ak 9) (dC (.int 1))) ⇑3)) pick (aA 0) t (bZ (1⊂0))))) (aR 0 q) [v0,v1,v2,U (.int q),U (.ref n),O,O,O,O,O,O,O,σ] (d++[.lst []])) Q:=by
 have sz:=pA;refine tE (λi e c=>∃l v9,e=[v0,v1,v2,U _,U _,O,O,O,O,v9,O,O,σ]/\c=d++[.lst l]/\PR q l/\l.length<=64*i) ⟨[],O,rfl,rfl,PR.nil _,by simp⟩ ?_ ?_
 ·rintro I i x e c hi hx ⟨l,v9,rfl,rfl,hl,yX⟩ hI
  obtain⟨a,rfl,a0,a1⟩:=jk hx;simp[gp]at hi;simp[bE,aW];refine xo rfl ?_;simp[bE,hp];refine eX ∅ (aW.mpr (eX (by simp[gp];omega) (bE.mpr (PR.comp a0 a1 (λb=>ht a b _) λz hz r8=>?_))))
  rw[aW];exact⟨z,d,l,rfl,rfl,hn,∅,hz.CD,.of (hI _ _ ⟨_,_,rfl,rfl,hl.app hz,by simp;omega⟩)⟩
 ·rintro e c ⟨l,v9,rfl,rfl,hl,hn⟩
  exact hQ l v9 hl (by simp[gp]at hn;omega)
theorem HR{q s k:Int}(h1:1<=s)(h2:s<q)(k0:0<=k)(k1:k<q):k≠(k+s) % q:=λe=>by
 by_cases h:k+s<q
 ·rw[UJ ∅ h]at e;omega
 ·have:(k+s) % q=k+s-q:=by
   rw[<-Int.sub_emod_right,UJ ∅ ∅]
  omega
theorem comp_map{f g:Nat->D}:∀(l:List Nat) (v:Option D) (acc:List D),(∀i∈l,a (U (f i)::E) c=.ok (g i) c)->bR (λ_=>True) (aA 0) aY a (l.map f) (v::E) acc c=.ok (acc++l.map g) c
 |[],v,acc,_=>by simp
 |i::l,v,acc,h=>by
  rw[O6,m9,show aA 0 _ _ c=.ok (U _::E) c from rfl,R.aH,qD,R.aH,if_pos rfl,h i (.head _),R.aH,comp_map l _ _ λk hk=>h k (.tail _ hk)]
  simp
theorem xq{lo:Int}{Q:List D->aa->Prop}(G:Int->D)(h:∀b,lo<=b->b<hi->a (U (.int b)::E) c=.ok (G b) c)(q:Q ((θ (hi-lo).toNat).map λi:Nat=>G (lo+i)) c):W (bR (λ_=>True) (aA 0) aY a (aR lo hi) (v::E) [] c) Q :=
 ⟨_,_,comp_map _ v [] λi hi=>h _ ∅ (by have:=dg.mp hi;omega),q⟩
theorem Bq{st:aa->Prop}(hst:st c)(ht:∀a b:Int,∃x,t [U (.int a),U (.int b)] c=.ok x c):∀(l:List D) (v w:Option D) (acc:List D),PR q l->PR q acc->∃z,PR q z/\bR st (fy 2 (b9 (aA 0) (b9 (aA 1) fB))) t (bZ (0⊂1)) l [v,w] acc c=.ok z c
 |[],v,w,acc,_,ha=>⟨acc,ha,by unfold bR;rw[if_pos hst]⟩
 |d::l,v,w,acc,hl,ha=>by
  have h2:(2:Nat)<=Ω:=by have:=pA;omega
  obtain⟨a,b,rfl,r⟩:=hl d (.head _);obtain⟨u,hu⟩:=ht a b;have hl':PR q l:=λx hx=>hl x (.tail _ hx)
  unfold bR;rw[if_pos hst];cases u with
  |true =>
   obtain⟨z,hz,e⟩:=Bq hst ht l (U (.int a)) (U (.int b)) (acc++[.tup [.int a,.int b]]) hl' (ha.snoc r.1 r.2.1 r.2.2.1 r.2.2.2.1 r.2.2.2.2);exact⟨z,hz,by simp[hu,h2];exact e⟩
  |false =>
   obtain⟨z,hz,e⟩:=Bq hst ht l (U (.int a)) (U (.int b)) acc hl' ha;exact⟨z,hz,by simp[hu];exact e⟩
theorem aac{most:Int}{d:aa}{K:Ev->aa->Prop}(hN:d.length+1=N)(a0:0<=a)(t1:th<=5)(t0:0<=th)(hM:∀r∈M,r.length<1000)(MH:M.length<=64)(hK:∀M',(∀r∈M',r.length<1000)->M'.length=M.length+(th-(a+1)).toNat->K [U (.ref j),U (.int most),U (.int 1),U (.int q),U (.ref n),O,O,U (.int th),U (.ref N),U (.int a),O,O,O] (d++[.lst [],.lst (bA M')]))(a9:a<5):
  W (fh (gG (ak 8) (aX (gv (ao (av aZ (ak 9) (dC (.int 1))) ⇑7)) [O,U 9] (aA 0) aY (bV (1⊂0)))) [U (.ref j),U (.int most),U (.int 1),U (.int q),U (.ref n),O,O,U (.int th),U (.ref N),U (.int a),O,O,O] (d++[.lst [],.lst (bA M)])) (Nx K):=by
 have sz:=pA;have h2:(2:Nat)<=Ω:=∅
 simp[bE,aW];refine xo (n:=N) rfl ?_;simp[bE];refine eX ∅ (aW.mpr (eX (by simp[gp];omega) (bE.mpr (xq (E:=[U (.int a)]) (λb=>.lst ([a,b].map D.int)) (λb _ _=>by simp[h2]) ?_))))
 rw[aW];refine⟨_,d++[.lst []],bA M,rfl,by simp,by simp[hN],by simp[bA];omega,gS.mpr λy hy=>?_,.of ?_⟩
 ·obtain⟨k,-,rfl⟩:=K1.mp hy;rfl
 ·have e:d++[.lst []]++[Cell.lst (bA M++(θ (th-(a+1)).toNat).map λi:Nat=>D.lst ([a,a+1+i].map D.int))]=d++[.lst [],.lst (bA (M++(θ (th-(a+1)).toNat).map λi:Nat=>[a,a+1+(i:Int)]))]:=by simp[bA,RN]
  rw[e];refine hK _ (λr hr=>?_) (by simp)
  rcases PY.mp hr with h|h
  ·exact hM r h
  ·obtain⟨k,-,rfl⟩:=K1.mp h;simp
def Way(j n:Nat)(most:Int)(e:Ev)(c:aa):Prop:=∃(q:Int) (X:D) (l:List D) (d t:aa),e[3]? = U (U (.int q))/\e[4]? = U (U X)/\1<=q/\q<=most/\PR q l/\((∃k,X=.ref k/\c[k]? = U (.lst l))\/X=.lst l)/\c=d++t/\ck j n d
theorem ahT{most:Int}{Q:D->aa->Prop}(hP:ck j n c)(h0:0<most)(h1:most<60)(hQ:∀(m:Nat) ps c',1<=m->(m:Int)<=most->nu m ps->ck j n c'->Q (bh m (gU ps)) c'):W (yJ [.ref j,.int most] c) Q:=by
 have sz:=pA;have hn:=hP.1;simp[yJ,Az,bE,aW];refine l8 hP ⋯ ⋯ λway c1 w0 w1 P1=>?_
 simp[bE,aW];refine l8 P1 h0 ∅ λx c2 x0 x1 P2=>?_
 simp[bE,aW];have hl2:=P2.1;refine W.imp (Q:=Nx (Way j n most)) ?_ ?_
 ·generalize hW:Way j n most=I
  have hI:∀e c,Way j n most e c->I e c:=λe c h=>hW▸h
  clear hW hQ
  generalize hq:1+x=q
  have hq1:1<=q:=∅
  have hq2:q<=most:=∅
  clear hq x0 x1;have hd:∀l,(c2++[Cell.lst l])[n]? = U (.lst l):=λl=>by rw[<-hl2];simp
  have h2:(2:Nat)<=Ω:=∅
  have h1':(1:Nat)<=Ω:=∅
  have h4':(4:Nat)<=Ω:=∅
  rw[hl2]
  by_cases e0:way=0
  ·simp(disch:=omega) [e0,bE,aW,qe];refine eX ∅ (aW.mpr (eX (by simp[gp];omega) (bE.mpr (o6 (E:=[U (.ref j)]) (λz c'=>(∀y∈z,∃s:Int,y=.int s/\1<=s/\s<q)/\∃d,c'=d++[.lst []]/\ck j n d) ⟨(λy h=>by cases h),c2,rfl,P2⟩ ?_ ?_))))
   ·rintro Γ x z c' hx ⟨hz,d,rfl,P⟩ hJ
    obtain⟨s,rfl,s0,s1⟩:=jk hx;simp[bE,aW];refine o5 P ⋯ ⋯ λu d u0 u1 P=>?_
    simp[aW];split
    ·exact hJ _ _ ⟨λy hy=>(PY.mp hy).elim (hz y) λh=>⟨s,Pa.mp h,∅,∅⟩,d,rfl,P⟩
    ·exact hJ _ _ ⟨hz,d,rfl,P⟩
   ·rintro z c' ⟨hz,d,rfl,P⟩ r8
    simp[gp]at r8;simp[aW];refine tE (λi e c=>∃l v6,e=[U (.ref j),U (.int most),U (.int 0),U (.int q),U (.ref n),U (.lst z),v6,O,O,O,O,O,O]/\c=d++[.lst l]/\PR q l/\l.length<=64*i) ⟨[],O,rfl,rfl,PR.nil _,by simp⟩ ?_ ?_
    ·rintro K i x e c hi hx ⟨l,v6,rfl,rfl,hl,yX⟩ hK
     obtain⟨s,rfl,s0,s1⟩:=hz x hx;simp[bE,aW];refine xo (n:=n) rfl ?_;simp[bE];refine eX ∅ (aW.mpr (eX (by simp[gp];omega) (bE.mpr (o6 (E:=[U (.int q),U (.int s)]) (λz c'=>PR q z/\c'=d++[.lst l]) ⟨PR.nil _,rfl⟩ ?_ ?_))))
     ·rintro Γ x z c' hx ⟨hz,rfl⟩ hJ
      obtain⟨k,rfl,k0,k1⟩:=jk hx;simp(disch:=omega) [aW,mJ,h2];exact hJ _ _ ⟨hz.snoc k0 k1 (Rb _ ∅) (Ra _ ∅) (HR s0 s1 k0 k1),rfl⟩
     ·rintro z c' ⟨hz,rfl⟩ r8
      simp[gp]at r8;rw[aW];exact⟨z,d,l,rfl,rfl,P.1,∅,hz.CD,.of (hK _ _ ⟨_,_,rfl,rfl,hl.app hz,by simp;omega⟩)⟩
    ·rintro e c ⟨l,v6,rfl,rfl,hl,-⟩
     exact .of (hI _ _ ⟨q,.ref n,l,d,[.lst l],rfl,rfl,hq1,hq2,hl,.inl ⟨n,rfl,by rw[<-P.1];simp⟩,rfl,P⟩)
  by_cases e1:way=1
  ·simp(disch:=omega) [e1,bE,aW,h4'];refine o5 P2 ⋯ ⋯ λu d u0 u1 P=>?_
   have hu:∀c,aG (.lst [.int 2,.int 3,.int 4,.int 5]) (.int u) c=.ok (.int (u+2)) c:=λc=>by
    rcases(by omega:u=0\/u=1\/u=2\/u=3)with rfl|rfl|rfl|rfl<;>rfl
   have hdl:=P.1;have ht:2<=u+2/\u+2<=5:=∅
   generalize u+2=th at hu ht
   have t0:2<=th/\th<=5:=ht;simp[hu,aW];obtain⟨N,hN⟩:∃N,d.length+1=N:=⟨_,rfl⟩;rw[hN];refine eX ∅ (aW.mpr (GI (λi e c=>∃M v9,e=[U (.ref j),U (.int most),U (.int 1),U (.int q),U (.ref n),O,O,U (.int th),U (.ref N),v9,O,O,O]/\c=d++[.lst [],.lst (bA M)]/\(∀r∈M,r.length<1000)/\M.length<=8*i/\(0<i->0<M.length)) ⟨[],O,rfl,rfl,(λr h=>by cases h),by simp,λh=>absurd h (Pz 0)⟩ ?_ ?_))
   ·rintro K i x e c hx ⟨M,v9,rfl,rfl,hM,MH,MJ⟩ hK
    obtain⟨hi,rfl⟩:=j5 hx;exact aW.mpr (aac hN ∅ t0.2 ∅ hM ∅ (λM' h1 h2=>hK _ _ ⟨M',_,rfl,rfl,h1,∅,λ_=>∅⟩) ∅)
   ·rintro e c ⟨M,v9,rfl,rfl,hM,MH,MJ⟩
    have hm0:0<M.length:=MJ (by simp[gp];omega)
    have Mf:∀t,fH (d++[Cell.lst [],.lst (bA M)]++t) (.ref N)=U (bA M):=λt=>by rw[<-hN];simp[fH]
    obtain⟨ξ,hL⟩:∃ξ:Int,ξ=(M.length:Nat):=⟨_,rfl⟩;have hlen:aT [.ref N] (d++[Cell.lst [],.lst (bA M)])=.ok (.int ξ) (d++[.lst [],.lst (bA M)]):=by
     have:=Mf [];rw[QX]at this;unfold aT;dsimp only;rw[this,hL];simp[bA]
    simp[bE,aW,hlen];refine CI Mf (by split<;>omega) hM (by split<;>omega) (by split<;>omega) λl hl=>?_
    exact .of (hI _ _ ⟨_,_,l,d,_,rfl,rfl,by split<;>omega,by split<;>omega,hl,.inr rfl,rfl,P⟩)
  by_cases e2:way<4
  ·simp(disch:=omega) [e0,e1,e2,bE,aW];refine o5 P2 (by split<;>omega) (by split<;>omega) λu d u0 u1 P=>?_
   have hu:1+u<=most/\1+u<=4:=by split at u1<;>omega
   have hh:1<=1+u:=∅
   simp[aW]
   generalize 1+u=h at hu hh
   have hv1:1<=most/h:=(V8 ∅).mpr ∅
   have hv2:∀v,v<=most/h->v*h<=most:=λv hv=>(V8 ∅).mp hv
   simp(disch:=omega) [aW,qe]
   generalize most/h=hd at hv1 hv2
   refine o5 P (by split<;>omega) (by split<;>omega) λv d v0 v1 P=>?_
   have hw:1<=1+v/\1+v<=hd/\1+v<=4:=by split at v1<;>omega
   simp[aW]
   generalize 1+v=wd at hw
   have DG:=hv2 wd hw.2.1;have Ml:0<wd*h:=Int.mul_pos ∅ ∅
   rw[Int.mul_comm]at DG Ml;simp(disch:=omega) [aW,yy]
   generalize h*wd=q at DG Ml
   have fin:∀e l,PR q l->e[3]? = U (U (.int q))->e[4]? = U (U (.lst l))->I e (d++[.lst []]):=λe l hl e3 e4=>hI _ _ ⟨q,_,l,d,_,e3,e4,∅,DG,hl,.inr rfl,rfl,P⟩
   refine eX ∅ (aW.mpr (eX (by simp[gp];omega) (bE.mpr (xq (E:=[U (.int wd)]) (λb=>.lst ([b/wd].map D.int)) (λb _ _=>by simp(disch:=omega) [qe,h1']) ?_))))
   obtain⟨σ,hZ⟩:∃σ,σ=(θ (q-0).toNat).map λi:Nat=>D.lst ([(0+(i:Int))/wd].map D.int):=⟨_,rfl⟩
   rw[aW,<-hZ]
   by_cases NC:way=2
   ·rw[if_pos NC];simp[bE,aW];refine eX ∅ (aW.mpr (eX (by simp[gp];omega) (bE.mpr (xq (E:=[U (.int wd)]) (λb=>.lst ([b/wd,10+b % wd].map D.int)) (λb _ _=>by simp(disch:=omega) [qe,mJ,h2]) ?_))))
    obtain⟨Y,hY⟩:∃Y,Y=(θ (q-0).toNat).map λi:Nat=>D.lst ([(0+(i:Int))/wd,10+(0+(i:Int)) % wd].map D.int):=⟨_,rfl⟩
    rw[aW,<-hY];refine CI (M:=(θ (q-0).toNat).map λi:Nat=>[(0+(i:Int))/wd,10+(0+(i:Int)) % wd]) (λt=>by rw[hY];simp[fH,bA,RN]) (by simp;omega) (λr hr=>by obtain⟨k,-,rfl⟩:=K1.mp hr;simp) ∅ ∅ λl hl=>.of (fin _ l hl rfl rfl)
   ·rw[if_neg NC];simp[bE,aW];refine CI (M:=(θ (q-0).toNat).map λi:Nat=>[(0+(i:Int))/wd]) (λt=>by rw[hZ];simp[fH,bA,RN]) (by simp;omega) (λr hr=>by obtain⟨k,-,rfl⟩:=K1.mp hr;simp) ∅ ∅ λl hl=>.of (fin _ l hl rfl rfl)
  by_cases e4:way=4
  ·simp(disch:=omega) [e4,bE,aW,h2];refine o5 P2 ⋯ ⋯ λu d u0 u1 P=>?_
   obtain⟨v,hv,hu⟩:∃v:Int,5<=v/\∀c,aG (.lst [.int 5,.int 13]) (.int u) c=.ok (.int v) c:=by
    rcases(by omega:u=0\/u=1)with rfl|rfl
    ·exact⟨5,∅,λ_=>rfl⟩
    ·exact⟨13,∅,λ_=>rfl⟩
   simp[hu,aW];obtain⟨q,hq,q0,q1⟩:∃q,(if v<most then v else most)=q/\1<=q/\q<=most:=⟨_,rfl,by split<;>omega,by split<;>omega⟩
   rw[hq];refine eX ∅ (aW.mpr (eX (by simp[gp];omega) (bE.mpr (xq (E:=[U (.int q)]) (λb=>.int (b*b % q)) (λb _ _=>by simp(disch:=omega) [yy,mJ]) ?_))))
   rw[aW];refine eX ∅ (aW.mpr ?_)
   obtain⟨Θ,hS⟩:∃Θ:List Int,((θ (q-1).toNat).map λi:Nat=>D.int ((1+(i:Int))*(1+i) % q))=Θ.map D.int:=⟨(θ (q-1).toNat).map λi:Nat=>(1+(i:Int))*(1+i) % q,by simp⟩
   rw[hS];refine MO (E:=[U (.lst (Θ.map D.int)),U (.int q)]) P.1 ∅ ∅ (λa b c=>?_) (λa=>rfl) λl v9 hl _=>.of (hI _ _ ⟨q,.ref n,l,d,_,rfl,rfl,q0,q1,hl,.inl ⟨n,rfl,by rw[<-P.1];simp⟩,rfl,P⟩)
   obtain⟨x,hx⟩:=LW Θ ((b-a) % q) c;exact⟨x,by simp(disch:=omega) [mJ,hx]⟩
  ·simp(disch:=omega) [e0,e1,e2,e4,bE,aW];obtain⟨q,hq,q0,q1⟩:∃q,(if most<8 then most else 8)=q/\1<=q/\q<=most:=⟨_,rfl,by split<;>omega,by split<;>omega⟩
   rw[hq];have h3:(3:Nat)<=Ω:=∅
   refine eX ∅ (aW.mpr (MO (E:=[]) P2.1 ∅ ∅ (λa b c=>?_) (λa=>rfl) λl v9 hl yX=>?_))
   ·exact⟨[PyData.int 1,.int 2,.int 4].any λz=>z.eqv (.int (b-a)),by simp[h3,inD,fC,eF,eN,PyData.depth]⟩
   ·simp[bE,aW,hd];obtain⟨z,hz,e⟩:=Bq (c:=c2++[.lst l]) (st:=λc=>c[n]? = U (.lst l)) (t:=(aI (av bH (av wk (ak 0) (ak 1)) (ak 0)))) (hd l) (λa b=>⟨decide (Builtin.bitAnd a b=a),by simp[wk]⟩) l O O [] hl (PR.nil q)
    exact eX ∅ (bE.mpr ⟨z,_,e,aW.mpr (.of (hI _ _ ⟨q,_,z,c2,_,rfl,rfl,q0,q1,hz,.inr rfl,rfl,P2⟩))⟩)
 ·rintro f c' ⟨e,rfl,q,X,l,d,t,e3,e4,q0,q1,hl,hX,rfl,P⟩
  simp[e3,e4,bE,aW];refine GH ∅ ∅ hl hX λm ps hm hp=>?_
  simp[aW,El];rw[V9 (by rw[P.1,hn];exact AP _),RQ (by rw[P.1,hn];exact AP _)]
  exact hQ m ps d ∅ ∅ hp P
def Tb(m:Nat)(T:D):Prop:=∃f,T=bh m f/\g8 f
theorem Tb.about(h:Tb m T)(hm:m<1000):∃T',Tb m T'/\∀c,rL [T] c=.ok T' c:=by
 obtain⟨f,rfl,hf⟩:=h;exact⟨_,⟨_,rfl,acZ hf⟩,λc=>acY f hm c⟩
theorem Tb.agN{m:Nat}{a b M:Int}(h:Tb m T)(hm:m<1000)(hM:M=m)(a0:0<=a)(a1:a<M)(b0:0<=b)(b1:b<M)(hne:a≠b)(c:aa):∃T',Tb m T'/\uP [T,.int a,.int b] c=.ok T' c:=by
 obtain⟨f,rfl,hf⟩:=h;obtain⟨i,rfl⟩:=jj a0;obtain⟨k,rfl⟩:=jj b0;exact⟨_,⟨_,rfl,agM hf ∅⟩,aa6 ∅ ∅ hm f c⟩
theorem Tb.len{m:Nat}{M:Int}(h:Tb m T)(hM:M=m)(c:aa):aT [T] c=.ok (.int M) c:=by
 obtain⟨f,rfl,hf⟩:=h;rw[hM,len_tab]
theorem afz{j n m:Nat}{M:Int}{Q:D->aa->Prop}(h:Tb m T)(hP:ck j n c)(hm:m<1000)(hM:M=m)(hQ:∀f c',g8 f->ck j n c'->Q (bh m f) c'):W (nX [.ref j,.int M] c) λo c=>W (rH [T,o] c) Q:=by
 obtain⟨f,rfl,hf⟩:=h;obtain⟨os,c',hp,P,e⟩:=JK hP hm;rw[hM];exact⟨_,_,e,_,_,KN hp hm f c',hQ _ _ (KL hf (by have:=hp.length_eq;simpa using this)) P⟩
def afb(j n m:Nat)(most M:Int):Ev->aa->Prop:=λe c=>∃T v,e=[U (.ref j),U (.int most),U T,U (.int M),v]/\Tb m T/\ck j n c
theorem acG{most:Int}{Q:D->aa->Prop}(hP:ck j n c)(h0:0<most)(h6:most<60)(hQ:∀(m:Nat) f c',1<=m->(m:Int)<=most->g8 f->ck j n c'->Q (bh m f) c'):W (rK [.ref j,.int most] c) Q:=by
 have hn:=hP.1;simp[rK,AD,bE,aW];refine l8 hP ⋯ ⋯ λx c1 x0 x1 P1=>?_
 simp[aW];refine W.imp (Q:=Nx λe c=>∃(m:Nat) (T:D),e=[U (.ref j),U (.int most),U T,O,O]/\Tb m T/\1<=m/\(m:Int)<=most/\ck j n c) ?_ ?_
 ·have go:∀(m:Nat) ps c',1<=m->(m:Int)<=most->nu m ps->ck j n c'->W _ (Nx λe c=>∃(m:Nat) (T:D),e=[U (.ref j),U (.int most),U T,O,O]/\Tb m T/\1<=m/\(m:Int)<=most/\ck j n c):=λm ps c' m1 m2 hp P=>aW.mpr (.of ⟨m,_,rfl,⟨_,rfl,Yu hp⟩,m1,m2,P⟩)
  by_cases h:x<2
  ·rw[if_pos h,bE];exact agE P1 h0 h6 go
  ·rw[if_neg h,bE];exact ahT P1 h0 h6 go
 rintro f c2 ⟨e,rfl,m,T,rfl,hT,m1,m2,P2⟩
 obtain⟨M,hM⟩:∃M:Int,M=m:=⟨_,rfl⟩;simp[bE,aW,hT.len hM];refine l8 P2 ⋯ ⋯ λy c3 y0 y1 P3=>?_
 simp[aW];refine W.imp (Q:=Nx λe c=>∃T,e=[U (.ref j),U (.int most),U T,U (.int M),O]/\Tb m T/\ck j n c) ?_ ?_
 ·obtain⟨T',DY,ha⟩:=hT.about ∅
  by_cases h:y=0
  ·simp only[h,if_true,ha,R.aH,aW];exact .of ⟨_,rfl,DY,P3⟩
  ·rw[if_neg h,aW];exact .of ⟨_,rfl,hT,P3⟩
 rintro f c4 ⟨e,rfl,T,rfl,hT,P4⟩
 simp[bE,aW];refine W.imp (Q:=fun(a:Bool) c=>(a=J->1<M)/\ck j n c) ?_ ?_
 ·by_cases h:1<M
  ·rw[if_pos h];simp only[bE];refine l8 P4 ⋯ ⋯ λz c z0 z1 P=>?_
   simp only[wY,aW];exact⟨λ_=>h,P⟩
  ·rw[if_neg h,aW];exact⟨(λh=>by cases h),P4⟩
 rintro a c5 ⟨ha,P5⟩
 refine W.imp (Q:=Nx (afb j n m most M)) ?_ ?_
 ·cases a with
  |false =>
   simp only[Py,if_false,aW];exact .of ⟨_,_,rfl,hT,P5⟩
  |true =>
   have hM1:=ha rfl;simp only[if_true,bE];refine l8 P5 ∅ ∅ λa c6 a0 a1 P6=>?_
   simp[bE,aW];refine l8 P6 ∅ ∅ λb c7 b0 b1 aag=>?_
   have hne:=HR (q:=M) (s:=1+b) (k:=a) ∅ ∅ a0 a1
   rw[<-Int.add_assoc]at hne;obtain⟨T',DY,ht⟩:=hT.agN (b:=(a+1+b) % M) ∅ hM a0 a1 (Rb _ ∅) (Ra _ ∅) hne c7
   simp(disch:=omega) [bE,aW,mJ,ht];exact .of ⟨_,_,rfl,DY,aag⟩
 rintro f c6 ⟨e,rfl,T,v,rfl,hT,P6⟩
 simp[bE,aW];refine(afz hT P6 ∅ hM λf c' hf P=>?_).imp λo c h=>h
 rw[El,aW,RQ (by rw[P.1,hn];exact AP _)]
 exact hQ m f c' m1 m2 hf P
theorem acH{most:Int}(hP:ck j n c)(h0:0<most)(h6:most<60):∃(m:Nat) (f:Nat->Nat->Bool) (c':aa),1<=m/\(m:Int)<=most/\g8 f/\ck j n c'/\rK [.ref j,.int most] c=.ok (bh m f) c':=by
 obtain⟨d,c',e,m,f,rfl,h⟩:=acG (Q:=λd c'=>∃(m:Nat) (f:Nat->Nat->Bool),d=bh m f/\1<=m/\(m:Int)<=most/\g8 f/\ck j n c') hP h0 h6 λm f c' a b h p=>⟨m,f,rfl,a,b,h,p⟩
 exact⟨m,f,c',h.1,h.2.1,h.2.2.1,h.2.2.2,e⟩
def aP(rows:List (List Nat)):D:=.tup (rows.map λr=>.tup (nD r))
theorem xm(rows:List (List Nat)):noRef (aP rows)=J:=by
 refine gS.mpr λd hd=>?_
 obtain⟨r,_,rfl⟩:=K1.mp hd;exact mE r
theorem nM(n:Nat):aR 0 (n:Int)=nD (θ n):=by
 apply Tw;intro i
 by_cases h:i<n
 ·have h1:i<(aR 0 n).length:=by rw[fX];omega
  have:=j5 (O1 h1);rw[O1 h1,this.2];simp[nD,h]
 ·rw[Qj (by rw[fX];omega),Qj (by simp;omega)]
theorem kI{α:Type}(g F:α->D)(b:α->Bool):∀(l:List α) (v:Option D) (acc:List D),(∀x∈l,t (U (g x)::E) c=.ok (b x) c)->(∀x∈l,b x=J->a (U (g x)::E) c=.ok (F x) c)->bR (λ_=>True) (aA 0) t a (l.map g) (v::E) acc c=.ok (acc++(l.filter b).map F) c
 |[],v,acc,_,_=>by simp
 |x::l,v,acc,h1,h2=>by
  have e1:aA 0 _ (v::E) c=.ok (U (g x)::E) c:=rfl;rw[O6,m9,e1,R.aH,h1 x (.head _),R.aH];cases hb:b x with
  |true =>
   rw[if_pos rfl,h2 x (.head _) hb,R.aH,kI g F b l _ _ (λz hz=>h1 z (.tail _ hz)) (λz hz=>h2 z (.tail _ hz)),Rg hb,QS]
   rfl
  |false =>
   rw[if_neg ⋯,kI g F b l _ _ (λz hz=>h1 z (.tail _ hz)) (λz hz=>h2 z (.tail _ hz)),Sd (by simp[hb])]
theorem vM:∀l:List Nat,eN (nD l)=U (l.map λn:Nat=>PyData.int (n:Int))
 |[]=>rfl
 |n::ns=>by
  show(match eF _,eN _ with|some a,U r=>U _|_,_=>O)=_
  rw[vM ns];rfl
theorem AM(l:List Nat)(k:Nat):((l.map λn:Nat=>PyData.int (n:Int)).any λz=>z.eqv ↥k)=decide (k∈l):=by
 rw[List.any_map,QI,Qx,decide_eq_true_eq];refine⟨fun⟨x,hx,e⟩=>?_,λh=>⟨k,h,?_⟩⟩
 ·have:x=(k:Int):=by simpa[PyData.eqv]using e
  have:x=k:=∅
  exact this▸hx
 ·simp[PyData.eqv]
theorem We(l:List Nat)(k:Nat)(c:aa):iH ↥k (.tup (nD l)) c=.ok (.bl (!decide (k∈l))) c:=by
 have h1:fC c (.int k)=U _:=rfl;have h2:fC c (.tup (nD l))=U (.tuple (l.map λn:Nat=>PyData.int (n:Int))):=by
  show(match eN _ with|some r=>U _|none=>O)=_
  rw[vM]
 unfold iH;rw[h1,h2];dsimp only;rw[if_pos (by simp[PyData.depth]),AM]
theorem YV(l:List Nat)(k:Nat)(c:aa):inD ↥k (.tup (nD l)) c=.ok (.bl (decide (k∈l))) c:=by
 have h1:fC c ↥k=U ↥k:=rfl;have h2:fC c (.tup (nD l))=U (.tuple (l.map λn:Nat=>PyData.int (n:Int))):=by
  show(match eN (nD l)with|some r=>U (PyData.tuple r)|none=>O)=_
  rw[vM]
 unfold inD;rw[h1,h2];dsimp only;rw[if_pos (by simp[PyData.depth]),AM]
theorem mP(w:List (List Nat))(c:aa):aT [aP w] c=.ok (.int (w.length:Nat)) c:=by
 unfold aP;rw[Gz,O2]
theorem rW{i:Nat}(h:w[i]? = U r)(c:aa):aG (aP w) ↥i c=.ok (.tup (nD r)) c:=by
 unfold aP;rw[Bm,kP (v:=.tup (nD r)) (by rw[PK,h];rfl)]
theorem ql{m:List D->aa->R D}(h1:d1 e c=.ok x c)(h2:d2 e c=.ok y c)(h3:d3 e c=.ok z c)(h:m [x,y,z] c=.ok v c):aD 3 m (ao d1 (ao d2 (ao d3 aq))) e c=.ok v c:=by
 simp only[x_call,cY,h1,h2,h3,cQ,R.aH];rw[if_pos (by rfl)];exact h
theorem fU{m:List D->aa->R D}(h1:d1 e c=.ok x c)(h2:d2 e c=.ok y c)(h:m [x,y] c=.ok v c):aD 2 m (ao d1 (ao d2 aq)) e c=.ok v c:=by
 simp only[x_call,cY,h1,h2,cQ,R.aH];rw[if_pos (by rfl)];exact h
theorem gc{m:List D->aa->R D}(h1:d1 e c=.ok x c)(h:m [x] c=.ok v c):aD 1 m (ao d1 aq) e c=.ok v c:=by
 simp only[x_call,cY,h1,cQ,R.aH];rw[if_pos (by rfl)];exact h
theorem gi{xs:List D}(h:b (bW n xs) c=.ok (.rt v) c)(hv:noRef v=J)(hr:∀k,v≠.ref k):bJ n Δ b xs c=.ok v c:=by
 rw[iT,h];simp only[R.aH];cases v<;>first|exact absurd rfl (hr _)|(unfold cH;dsimp only;rw[if_pos hv,Q3])
theorem YX{a s:Nat}(h1:d1 e c=.ok ↥a c)(h2:d2 e c=.ok ↥s c):bC (aI (av fL d1 d2)) t u e c=if a≠s then t e c else u e c:=by
 by_cases q:a=s
 ·subst q;simp[h1,h2]
 ·have q':¬((a:Int)=s):=∅
  simp[h1,h2,q,q']
theorem agx(h1:d1 e c=.ok x c)(h2:d2 e c=.ok y c)(h3:d3 e c=.ok z c):bZ (ao d1 (ao d2 (ao d3 aq))) e c=.ok (.tup [x,y,z]) c:=by
 have:(3:Nat)<=Ω:=cN ⋯
 simp only[wX,cY,h1,h2,h3,cQ,R.aH];rw[if_pos (by exact this)]
theorem xu(h1:d1 e c=.ok x c)(h2:d2 e c=.ok y c):bZ (ao d1 (ao d2 aq)) e c=.ok (.tup [x,y]) c:=by
 have:(2:Nat)<=Ω:=cN ⋯
 simp only[wX,cY,h1,h2,cQ,R.aH];rw[if_pos (by exact this)]
theorem d8{f:List D->aa->R D}(h1:d1 e c=.ok x c)(h:f [x] c=.ok v c):aK f (ao d1 aq) e c=.ok v c:=by
 simp only[qH,cY,h1,cQ,R.aH];exact h
theorem dj(h:d e c=.ok v c):aE i d e c=.ok (.nx (e.set i (U v))) c:=by rw[qE,h];rfl
theorem eY(h:d e c=.ok v c):aS d e c=.ok (.rt v) c:=by rw[qF,h];rfl
theorem Jb(a m:Nat):aR ((a:Int)+1) (m:Int)=nD (List.range' (a+1) (m-(a+1))):=by
 apply Tw;intro i
 by_cases h:i<m-(a+1)
 ·have h1:i<(aR ((a:Int)+1) (m:Int)).length:=by rw[fX];omega
  have:=j5 (O1 h1);rw[O1 h1,this.2];simp[nD,List.getElem?_range' h]
 ·rw[Qj (by rw[fX];omega),Qj (by simp[nD];omega)]
theorem EA(h:d e c=.ok v c'):fh d e c=.ok (.nx e) c':=by rw[wZ,h];rfl
theorem lO{sr:Ev->aa->R Src}(h1:sr e c=.ok ⟨l,λ_=>True⟩ c)(h2:bU (λ_=>True) g s l e c=r):bL sr g s e c=r:=by
 rw[nC,h1];exact h2
theorem jG(h:d e c=.ok (.int q) c)(bq:-4611686018427387904<=q/\q<4611686018427387904):bu (ao d aq) e c=.ok ⟨aR 0 q,λ_=>True⟩ c:=by
 simp only[o4,cY,h,cQ,R.aH];rw[if_pos ∅]
theorem bw{f:D->D->aa->R D}(h1:d1 e c=.ok x c)(h2:d2 e c=.ok y c)(h:f x y c=r):av f d1 d2 e c=r:=by
 rw[fV,h1];simp only[R.aH];rw[h2];exact h
theorem Jd(h1:d1 e c=.ok (.int p) c)(h2:d2 e c=.ok (.int q) c)(bp:-4611686018427387904<=p/\p<4611686018427387904)(bq:-4611686018427387904<=q/\q<4611686018427387904):gv (ao d1 (ao d2 aq)) e c=.ok ⟨aR p q,λ_=>True⟩ c:=by
 simp only[Gy,cY,h1,h2,cQ,R.aH];rw[if_pos ⟨∅,∅,∅,∅⟩]
theorem acV(c:aa)(l:List D)(f:D->Bool):oW [.lst (l.map λx=>.bl (f x))] c=.ok (.bl (l.all f)) c:=by
 have e:(l.map λx=>D.bl (f x))=(l.map f).map D.bl:=by simp
 unfold oW pD;dsimp only;rw[e,ER];simp[List.all_map]
theorem Ht(f:Nat->Nat->Bool)(h:i<m)(c:aa):aG (bh m f) ↥i c=.ok (.lst (bT m f i)) c:=by unfold bh;rw[iE,Bx f h]
theorem aii(f:Nat->Nat->Bool)(i:Nat)(h:k<m)(c:aa):aG (.lst (bT m f i)) ↥k c=.ok (.bl (f i k)) c:=by rw[iE,uc f i h]
def wF(m:Nat)(f:Nat->Nat->Bool):List (List Nat):=(θ m).map (cg m f)
theorem ail(m:Nat)(f:Nat->Nat->Bool):qS m f=aP (wF m f):=by
 unfold qS aP wF;rw[PV];rfl
theorem jd(m:Nat)(f:Nat->Nat->Bool):(wF m f).length=m:=by simp[wF]
theorem tF(f:Nat->Nat->Bool)(h:i<m):(wF m f).getD i []=cg m f i:=by
 rw[I8];simp[wF,h]
theorem xN(h:d e c=.ok (.lst l) c):dF d e c=.ok ⟨l,λ_=>True⟩ c:=by
 unfold dF;rw[h];rfl
theorem iQ{sr:Ev->aa->R Src}{pick:List (Option Nat)}{items:List D}(h1:sr e c=.ok ⟨items,λ_=>True⟩ c)(hl:items.length<Ω)(h2:bR (λ_=>True) g t a items (fj pick e) [] c=.ok l c):aX sr pick g t a e c=.ok (.lst l) c:=by
 rw[nE,h1];simp only[R.aH];rw[if_pos hl,h2];rfl
theorem k7(h:d e c=.ok v c'):aE i d e c=.ok (.nx (e.set i (U v))) c':=by rw[qE,h];rfl
theorem abb(l:List D)(c d:aa)(h:bD l=J):cH Δ c.length (.tup l) (c++d)=.ok (.tup l) c:=by
 have h':noRef (.tup l)=J:=by unfold noRef;exact h
 unfold cH;dsimp only;rw[if_pos h',Tn]
theorem aaQ{xs:List D}(h:b (bW n xs) c=.ok (.rt (.tup l)) (c++d))(nr:bD l=J):bJ n Δ b xs c=.ok (.tup l) c:=by
 rw[iT,h];exact abb l c d nr
theorem eO(h:d e c=.ok (.bl b) c):aI d e c=.ok b c:=by rw[xg,h];rfl
theorem Ep{α:Type}[DecidableEq α]{F:α->Qn}(h:∀a b,(F a).eqv (F b)=decide (a=b)):∀l l':List α,PyData.eqvAll (l.map F) (l'.map F)=decide (l=l')
 |[],[]=>rfl
 |[],_::_=>by simp[PyData.eqvAll]
 |_::_,[]=>by simp[PyData.eqvAll]
 |a::l,b::l'=>by
  rw[O6,O6,PyData.eqvAll,h a b,Ep h l l']
  by_cases e:a=b
  ·subst e;by_cases e':l=l'<;>simp[e']
  ·simp[e]
theorem YY(ht:t e c=.ok b c)(h1:d1 e c=.ok x c)(h2:d2 e c=.ok y c):sF t d1 d2 e c=.ok (if b=J then x else y) c:=by
 rw[GA,ht];simp only[R.aH];cases b
 ·rw[if_neg ⋯,if_neg ⋯];exact h2
 ·rw[if_pos rfl,if_pos rfl];exact h1
structure Wk (w:List (List Nat)):Prop where
 len:w.length<64
 row:∀r∈w,Up r/\∀x∈r,x<w.length
theorem aa7(h1:dO e c=.ok (.ref k) c)(h2:da e c=.ok (.lst l) c)(hk:c[k]? = U (.lst acc))(hl:acc.length+l.length<=1000000)(nr:bD l=J):gG dO da e c=.ok .aF (c.set k (.lst (acc++l))):=by
 have hs:1000000<=Ω:=⋯
 unfold gG;rw[h1];simp only[R.aH];rw[h2];simp only[R.aH];rw[hk];dsimp only;rw[if_pos ⟨∅,nr⟩]
theorem acR(h1:dO e c=.ok (.ref k) c)(h2:da e c=.ok v c)(hk:c[k]? = U (.lst acc))(hl:acc.length+1<=1000000)(nr:noRef v=J):lT dO da e c=.ok .aF (c.set k (.lst (acc++[v]))):=by
 have hs:1000000<=Ω:=⋯
 unfold lT;rw[h1];simp;rw[h2];simp;rw[hk];dsimp only;rw[if_pos ⟨∅,nr⟩]
theorem afB(f:Nat->Nat->Bool)(hm:m<60):Wk (wF m f):=by
 refine⟨by rw[jd];omega,λr hr=>?_⟩
 obtain⟨i,_,rfl⟩:=K1.mp hr;rw[jd];exact⟨Tj _ UI,λx hx=>dg.mp (Pw.mp hx).1⟩
theorem any_map{α:Type}(l:List α)(p:α->Bool):(l.map p).any id=l.any p:=by
 induction l with
 |nil=>rfl
 |cons x l ih=>simp
structure Mv (m:Nat) (Z:Nat->Nat) (f g:Nat->Nat->Bool):Prop where
 lt:∀a,a<m->Z a<m
 pm:((θ m).map Z).Perm (θ m)
 eq:∀a b,a<m->b<m->g a b=f (Z a) (Z b)
theorem WM{os:List Nat}(hp:os.Perm (θ m)){f f0:Nat->Nat->Bool}(he:∀a b,a<m->b<m->f a b=f0 a b):Mv m (λa=>os.idxOf a) f0 (dS os f m 0):=by
 have hn:os.Nodup:=hp.nodup_iff.mpr QY;have hl:os.length=m:=by have:=hp.length_eq;simpa using this
 have lt:∀a,a<m->os.idxOf a<m:=λa ha=>by
  have:a∈os:=hp.mem_iff.mpr (dg.mpr ha);have:=RO.mpr this;omega
 refine⟨lt,?_,λa b ha hb=>?_⟩
 ·have e:os.map (λa=>os.idxOf a)=θ m:=by
   refine Q4 (by simp[hl]) λi h1 h2=>?_
   rw[S8,SA];exact yT hn (by simpa using h1)
  have:=(hp.map (λa=>os.idxOf a)).symm
  rw[e]at this;exact this
 ·have h1:=lt a ha;have h2:=lt b hb;unfold dS;rw[if_pos (.inl h1),if_pos ∅]
  exact he _ _ h1 h2
theorem sJ{m:List D->aa->R D}(h1:d1 e c=.ok x c1)(h2:d2 e c1=.ok y c2)(h:m [x,y] c2=.ok v c3):aD 2 m (ao d1 (ao d2 aq)) e c=.ok v c3:=by
 simp only[x_call,cY,h1,h2,cQ,R.aH];rw[if_pos (by rfl)];exact h
theorem Of{m:List D->aa->R D}(h1:d1 e c=.ok x c1)(h:m [x] c1=.ok v c2):aD 1 m (ao d1 aq) e c=.ok v c2:=by
 simp only[x_call,cY,h1,cQ,R.aH];rw[if_pos (by rfl)];exact h
theorem Oj(h:d e c=.ok (.bl b) c'):aI d e c=.ok b c':=by rw[xg,h];rfl
theorem rq(h:t e c=.ok b c'):gw t e c=.ok (!b) c':=by
 unfold gw;rw[h];rfl
theorem tV{m:Nat}(hm:m<60):(aR 0 (m:Int)).length<Ω:=by
 have:=cN (n:=1000) ⋯
 rw[fX];omega
theorem ag9{i m:Nat}(hm:m<60):(aR ((i:Int)+1) (m:Int)).length<Ω:=by
 have:=cN (n:=1000) ⋯
 rw[fX];omega
theorem NW{α:Type}{st:aa->Prop}(hst:st c)(g F:α->D):∀(l:List α) (v:Option D) (acc:List D),(∀x∈l,t (U (g x)::E) c=.ok J c)->(∀x∈l,a (U (g x)::E) c=.ok (F x) c)->bR st (aA 0) t a (l.map g) (v::E) acc c=.ok (acc++l.map F) c
 |[],v,acc,_,_=>by unfold bR;simp[hst]
 |x::l,v,acc,h1,h2=>by
  have e1:aA 0 _ (v::E) c=.ok (U (g x)::E) c:=rfl;rw[O6];unfold bR;rw[if_pos hst,e1,R.aH,h1 x (by simp),R.aH,if_pos rfl,h2 x (by simp),R.aH,NW hst g F l _ _ (λy hy=>h1 y (by simp[hy])) (λy hy=>h2 y (by simp[hy])),QS]
  rfl
theorem JM(h1:t e c=.ok Δ c1)(h2:u e c1=.ok Δ c2):kM t u e c=.ok Δ c2:=by
 unfold kM;rw[h1]
 first
  |exact h2
  |(rw[if_neg ⋯];exact h2)
  |(simp;exact h2)
def pC:ai:=(kN (aI (av fL (ak 0) (ak 1))) (aI (qj 2 2 lams (1⊂0))))
def Br(n:Nat)(f:Nat->Nat->Bool)(i:Nat):List Nat:=(θ n).filter λj=>decide (j≠i)&&f i j
def qI(n:Nat)(f:Nat->Nat->Bool):List (List Nat):=(θ n).map (Br n f)
section
variable {k n:Nat}{E:μ}{ns:List Str}{l:List D}{m:List D->aa->R D}{c:aa}{f:Nat->Nat->Bool}
theorem aik{one:Nat}(hk:lams[k]? = U (E,ns,m))(hl:fK l=J)(hm:j≠one->m ([.int one,.int j]++l) c=.ok (.bl (f one j)) c):
  pC [U (.int j),U (.int one),U (.lam k E ns l)] c=.ok (decide (j≠one)&&f one j) c:=by
 unfold pC
 by_cases h:j=one
 ·subst h;simp
 ·have h':¬((j:Int)=one):=∅
  have hc:qj 2 2 lams (1⊂0) [U (.int j),U (.int one),U (.lam k E ns l)] c=.ok (.bl (f one j)) c:=by
   rw[afP 2 2 lams _ _ c (k:=k) (Ex:=E) (ns:=ns) (l:=l) rfl hk];simp only[cY,cX,gz,gs,cQ,R.aH];rw[if_pos ⟨rfl,rfl,hl⟩];exact hm h
  simp[h,h',hc]
theorem aih{one:D}(bq:-4611686018427387904<=q/\q<4611686018427387904)(hlen:(aR 0 q).length<Ω)(hc:bR (λ_=>True) (aA 0) pC (ak 0) (aR 0 q) [O,U one,U ξ] [] c=.ok r c)(nr:noRef (.tup r)=J):jN [.int q,one,ξ] c=.ok (.tup r) c:=by
 have hb:Am=aS (aK fc (ao (aX (bu ⇑0) [O,U 1,U 2] (aA 0) pC (ak 0)) aq)):=rfl;rw[jN,iT,hb];have es:bW 3 [D.int q,one,ξ]=[U (.int q),U one,U ξ]:=rfl;rw[es];simp only[qF,qH,cY,nE,o4,cX,gz,gs,cQ,R.aH];rw[if_pos ∅]
 simp only[R.aH];rw[if_pos hlen];have ep:fj [O,U 1,U 2] [U (D.int q),U one,U ξ]=[O,U one,U ξ]:=rfl;rw[ep,hc];simp only[R.aH];show cH Δ c.length (.tup r) c=_;unfold cH;dsimp only;rw[if_pos nr,Q3]
theorem afN(bq:-4611686018427387904<=q/\q<4611686018427387904)(hlen:(aR 0 q).length<Ω)(hc:bR (λ_=>True) (aA 0) aY (aD 3 jN (ao (ak 1) (0⊂2))) (aR 0 q) [O,U (.int q),U ξ] [] c=.ok r c)(nr:noRef (.tup r)=J):rF [.int q,ξ] c=.ok (.tup r) c:=by
 have hb:Ai=aS (aK fc (ao (aX _ [O,U 0,U 1] (aA 0) aY _) aq)):=rfl;rw[rF,iT,hb];have es:bW 2 [D.int q,ξ]=[U _,U ξ]:=rfl;simp;rw[if_pos ∅]
 simp;rw[if_pos hlen];have ep:fj [O,U 0,U 1] [U (D.int q),U ξ]=[O,U (.int q),U ξ]:=rfl;rw[ep,hc];show cH Δ c.length (.tup r) c=_;unfold cH;dsimp only;rw[if_pos nr,Q3]
theorem Wr(h:bD l=J):noRef (.tup l)=J:=by unfold noRef;exact h
theorem Lq(hn:n<1000):(aR 0 (n:Int)).length<Ω:=by
 have hs:=cN (n:=1000) ⋯
 rw[fX];omega
theorem Ja(hn:n<1000):-4611686018427387904<=(n:Int)/\(n:Int)<4611686018427387904:=∅
theorem aie{one:Nat}{r:List Nat}(hc:bR (λ_=>True) (aA 0) pC (ak 0) ((θ n).map λj:Nat=>D.int (j:Int)) [O,U (.int one),U ξ] [] c=.ok (r.map λj:Nat=>D.int (j:Int)) c):bR (λ_=>True) (aA 0) pC (ak 0) (aR 0 (n:Int)) [O,U (.int one),U ξ] [] c=.ok (nD r) c:=by rw[nM];exact hc
theorem aif{one:Nat}{r:List Nat}(hn:n<1000)(hc:bR (λ_=>True) (aA 0) pC (ak 0) ((θ n).map λj:Nat=>D.int (j:Int)) [O,U (.int one),U ξ] [] c=.ok (r.map λj:Nat=>D.int (j:Int)) c):
  jN [.int n,.int one,ξ] c=.ok (.tup (nD r)) c:=aih (Ja hn) (Lq hn) (aie hc) (Wr (mE _))
theorem aij{one:Nat}(hk:lams[k]? = U (E,ns,m))(hl:fK l=J)(hn:n<1000)(hm:∀j,j<n->j≠one->m ([.int one,.int j]++l) c=.ok (.bl (f one j)) c) :
  jN [.int n,.int one,.lam k E ns l] c=.ok (.tup (nD (Br n f one))) c:=by
 exact aif hn (kI (a:=ak 0) (c:=c) _ _ _ _ O [] (λj hj=>aik hk hl (hm j (dg.mp hj))) (λj _ _=>rfl))
theorem acB{m:List D->aa->R D}(h:m [x,y,z] c=r):(if[x,y,z].length=3 then m [x,y,z] c else .bad)=r:=by
 rw[if_pos (by rfl)];exact h
theorem afw{w:List (List Nat)}(hn:n<1000)(hc:bR (λ_=>True) (aA 0) aY (aD 3 jN (ao (ak 1) (0⊂2))) (aR 0 (n:Int)) [O,U (.int n),U ξ] [] c=.ok (w.map λr=>.tup (nD r)) c):rF [.int n,ξ] c=.ok (aP w) c:=afN (Ja hn) (Lq hn) hc (xm _)
theorem acn{m:List D->aa->R D}(h:m [y,x,z] c=r):aD 3 m (ao (ak 1) (0⊂2)) [U x,U y,U z] c=r:=by
 exact acB h
theorem afW(h:jN [.int n,.int i,ξ] c=.ok (.tup (nD r)) c):aD 3 jN (ao (ak 1) (0⊂2)) [U (.int i),U (.int n),U ξ] c=.ok (.tup (nD r)) c:=acn h
theorem afv{g:Nat->List Nat}(h:∀i,i<n->jN [.int n,.int i,ξ] c=.ok (.tup (nD (g i))) c):bR (λ_=>True) (aA 0) aY (aD 3 jN (ao (ak 1) (0⊂2))) (aR 0 (n:Int)) [O,U (.int n),U ξ] [] c=.ok (((θ n).map g).map λr=>.tup (nD r)) c:=by
 have hc:=kI (t:=aY) (c:=c) _ _ _ _ O [] (λj hj=>rfl) (λi hi _=>afW (h i (dg.mp hi)))
 have ft:(θ n).filter (λ_=>J)=θ n:=by simp
 rw[Pe,ft]at hc
 rwa[PV,nM]
theorem afV(hk:lams[k]? = U (E,ns,m))(hl:fK l=J)(hn:n<1000)(hm:∀i j,i<n->j<n->j≠i->m ([.int i,.int j]++l) c=.ok (.bl (f i j)) c) :
  rF [.int n,.lam k E ns l] c=.ok (aP (qI n f)) c:=afw hn (afv λi hi=>aij hk hl hn λj hj hne=>hm i j hi hj hne)
end
theorem acA{m:List D->aa->R D}{ns:List Str}(h1:d1 e c=.ok x c)(hg:getAll e js=U l)(h2:m [x,.lam kk E ns l] c=.ok v c)(hv:noRef v=J):z7 kk m d1 E ns js e c=.ok v c:=by
 unfold z7;rw[h1];simp;rw[hg];dsimp only;rw[h2];simp only[R.aH];rw[if_pos hv]
theorem Kq:∀l:List Nat,fK (nD l)=J
 |[]=>rfl
 |n::l=>by
  show(fm _&&fK _)=J;rw[Kq l];rfl
theorem Ws(w:List (List Nat)):fm (aP w)=J:=by
 show fK _=J
 induction w with
 |nil=>rfl
 |cons r w ih =>
  show(fm _&&fK _)=J;rw[ih,Bool.and_true];exact Kq r
theorem agy(h1:d1 e c=.ok x c)(h2:d2 e c=.ok y c)(h3:d3 e c=.ok z c)(h4:d4 e c=.ok u c):bZ (ao d1 (ao d2 (ao d3 (ao d4 aq)))) e c=.ok (.tup [x,y,z,u]) c:=by
 have:4<=Ω:=cN ⋯
 simp only[wX,cY,h1,h2,h3,h4,cQ,R.aH];rw[if_pos (by exact this)]
def uv(w:List (List Nat))(i j:Nat):Bool:=!decide (j∈w.getD i [])
def gQ(w:List (List Nat)):List (List Nat):=qI w.length (uv w)
theorem aiL{w:List (List Nat)}(hn:w.length<1000)(c:aa):yG [aP w] c=.ok (aP (gQ w)) c:=by
 have hw:=afV (k:=0) (l:=[aP w]) (f:=uv w) rfl (by show(fm _&&fK [])=J;rw[Ws];rfl) hn λi j hi hj hne=>by
  have e:uv w i j = !decide (j∈w[i]):=by unfold uv;rw[I8,O1 hi];rfl
  rw[e];show pR [U (.int i),U (.int j),U (aP w)] c=_;unfold pR;simp only[fV,cX,gz,gs,R.aH,(rW (O1 hi) c)];exact(We w[i] j c)
 rw[yG,iT];unfold Ao;have es:bW 1 [aP w]=[U _]:=rfl;rw[es,qF,(acA (d1:=aK aT ⇑0) (js:=[0]) (e:=[U _]) (by simp only[qH,cY,cX,gz,cQ,R.aH];exact mP w c) rfl hw (xm _))]
 show cH Δ c.length (aP (gQ w)) c=_;have nr:=xm (gQ w);unfold aP at nr ⊢;unfold cH;dsimp only;rw[if_pos nr,Q3]
def je(i:Nat)(r:List Nat):List (Nat×Nat):=(r.filter λj=>decide (i<j)).map λj=>(i,j)
def dZ(w:List (List Nat)):List (Nat×Nat):=(w.mapIdx je).flatten
theorem agG(i:Nat)(r:List Nat)(v:Option D)(c:aa):bR (λ_=>True) (aA 0) (aI (av kB (ak 1) (ak 0))) (bZ (1⊂0)) (nD r) [v,U (.int i)] [] c=.ok ((je i r).map aV) c:=by
 have h2:2<=Ω:=cN ⋯
 have:=kI (E:=[U (.int i)]) (t:=(aI (av kB (ak 1) (ak 0)))) (a:=(bZ (1⊂0))) (c:=c) (λj:Nat=>D.int j) (λj=>aV (i,j)) (λj=>decide (i<j)) r v [] (λj _=>by
  by_cases h:i<j
  ·have h':i<j:=∅
   simp[h,h']
  ·simp) (λj _ _=>by simp[h2,aV])
 unfold je
 rwa[PV]
def tQ:ah:=(fh (gG (ak 1) (aX (g6 (ak 3)) [O,U 2] (aA 0) (aI (av kB (ak 1) (ak 0))) (bZ (1⊂0)))))
theorem agI{i:Nat}{r:List Nat}{acc:List (Nat×Nat)}{c:aa}(a0:Option D)(hr:r.length<1000)(ha:acc.length+1000<1000000) :
  tQ [a0,U (.ref c.length),U (.int i),U (.tup (nD r))] (c++[.lst (acc.map aV)])=.ok (.nx [a0,U (.ref c.length),U (.int i),U (.tup (nD r))]) (c++[.lst ((acc++je i r).map aV)]):=by
 have hs:1000000<=Ω:=⋯
 have hc:=agG i r O (c++[.lst (acc.map aV)]);have hl:(je i r).length<=r.length:=by unfold je;rw[O2];exact RM _ _
 have hd:aX (g6 (ak 3)) [O,U 2] (aA 0) (aI (av kB (ak 1) (ak 0))) (bZ (1⊂0)) [a0,U (.ref c.length),U (.int i),U (.tup (nD r))] (c++[.lst (acc.map aV)])=.ok (.lst ((je i r).map aV)) (c++[.lst (acc.map aV)]):=by
  simp only[nE,afG,cX,gz,gs,R.aH];rw[if_pos (by simp[nD];omega)]
  have ep:fj [O,U 2] [a0,U (D.ref c.length),U (.int i),U (.tup (nD r))]=[O,U (.int i)]:=rfl;rw[ep,hc];rfl
 have hx:gG (ak 1) (aX (g6 (ak 3)) [O,U 2] (aA 0) (aI (av kB (ak 1) (ak 0))) (bZ (1⊂0))) [a0,U (.ref c.length),U (.int i),U (.tup (nD r))] (c++[.lst (acc.map aV)])=.ok .aF (c++[.lst ((acc++je i r).map aV)]):=by
  unfold gG;simp only[cX,gz,gs,R.aH,hd];have hg:(c++[Cell.lst (acc.map aV)])[c.length]? = U (.lst (acc.map aV)):=by simp
  rw[hg];dsimp only;rw[if_pos ⟨by simp;omega,Wm _⟩]
  simp
 unfold tQ;rw[wZ,hx];rfl
theorem agJ(w:List (List Nat))(h:i<w.length):dZ (w.take i)++je i w[i]=dZ (w.take (i+1)):=by
 unfold dZ;rw[So h,List.mapIdx_append,List.flatten_append];simp[Nat.min_eq_left (R4 h)]
theorem HE:∀{l:List Nat},(∀x∈l,x<=m)->l.sum<=l.length*m
 |[],_=>by simp
 |x::l,h=>by
  have h1:=h x (.head _);have h2:=HE λy hy=>h y (.tail _ hy)
  rw[List.sum_cons,PB,SO];omega
theorem agK(w:List (List Nat))(m:Nat)(h:∀r∈w,r.length<=m):(dZ w).length<=w.length*m:=by
 unfold dZ;have:∀x∈(w.mapIdx je).map List.length,x<=m:=λx hx=>by
  obtain⟨l,hl,rfl⟩:=K1.mp hx;obtain⟨i,hi,rfl⟩:=V7.mp hl;refine PJ ?_ (h _ (PX hi));unfold je;rw[O2];exact RM _ _
 have:=HE this
 simpa using this
theorem Hg{w:List (List Nat)}(hw:w.length<64)(hr:∀r∈w,r.length<=64)(c:aa):uK [aP w] c=.ok (.lst ((dZ w).map aV)) c:=by
 have hf:=zm (st:=λ_=>True) (g:=fy 2 (b9 (aA 2) (b9 (aA 3) fB))) (s:=tQ) _ (λ_ v=>[U (aP w),U (.ref c.length),v.1,v.2]) ((w.map λr=>D.tup (nD r)).mapIdx λi x=>.tup [.int i,x]) 0 (O,O) (λ_ _=>trivial) (λi x hx v=>by
  rw[O9];have hi:i<w.length:=by have:=(OX.mp hx).1;simpa using this
  have ex:x=.tup [.int i,.tup (nD w[i])]:=by
   rw[Tv,PK,O1 hi]at hx;cases hx;rfl
  subst ex;have hl:=agK (w.take i) 64 λr h=>hr r (Pc h)
  have h3:(w.take i).length*64<=64*64:=Qq (by rw[S3];omega) (AP _)
  have hs:=agI (i:=i) (r:=w[i]) (acc:=dZ (w.take i)) (c:=c) (U (aP w)) (by have:=hr _ (PX hi);omega) ∅
  rw[agJ w hi]at hs;exact⟨_,by simp,(U (.int i),U (.tup (nD w[i]))),hs⟩)
 obtain⟨v',hf⟩:=hf;have DO:((w.map λr=>D.tup (nD r)).mapIdx λi x=>D.tup [.int i,x]).length=w.length:=by simp
 rw[O9,DO,Q3]at hf;have hb:Aj=aB (aE 1 (fN aq)) (aB (bL _ _ tQ) _):=rfl;rw[uK,iT,hb];have es:bW 4 [aP w]=[U (aP w),O,O,O]:=rfl;have e1:aE 1 (fN aq) [U (aP w),O,O,O] c=.ok (.nx [U (aP w),U (.ref c.length),O,O]) (c++[.lst []]):=by simp
 have e2:bL (qi ⇑0) (fy 2 (b9 (aA 2) (b9 (aA 3) fB))) tQ [U (aP w),U (.ref c.length),O,O] (c++[.lst []])=.ok (.nx [U (aP w),U (.ref c.length),v'.1,v'.2]) (c++[.lst ((dZ w).map aV)]):=by
  exact hf
 rw[es,gM e1,gM e2];simp[cH]
theorem Wk.short(h:Wk w)(hr:r∈w):r.length<=w.length:=GR (h.row r hr).1 (h.row r hr).2
def iA(w:List (List Nat))(p:Nat×Nat):Nat:=oV (w.getD p.1 []) (w.getD p.2 [])
theorem KG(h:Wk w)(hr:r∈w)(c:aa):mH c (.tup (nD r))=U r:=by
 obtain⟨h1,h2⟩:=h.row r hr;have hl:=h.len;have:=GR (xr r) (λx hx=>h2 x (yC.mp hx))
 exact WK ∅ λx hx=>by have:=h2 x hx;omega
theorem Xu{ns:List Nat}(ha:a e c=.ok [x] c)(hb:b e c=.ok [y] c)(hx:mH c x=U ns)(hy:mH c y=U ms):sE a b e c=.ok (.int (oV ns ms:Nat)) c:=by
 unfold sE;rw[ha];simp;rw[hx,hb];simp;rw[hy]
theorem N2(h:Wk w)(ha:a<w.length)(hb:b<w.length)(c:aa):nZ [aP w,.int a,.int b] c=.ok (.int (iA w (a,b):Nat)) c:=by
 have h2:=rW (O1 hb) c;have e:sE (ao (av aG (ak 0) (ak 1)) aq) (ao (av aG (ak 0) (ak 2)) aq) [U (aP w),U (.int a),U (.int b)] c=.ok _ c :=
  Xu (by simp only[cY,fV,cX,gz,gs,cQ,R.aH,(rW (O1 ha) c)]) (by simp only[cY,fV,cX,gz,gs,cQ,R.aH,h2]) (KG h (PX ha) c) (KG h (PX hb) c)
 have e2:iA w (a,b)=oV w[a] w[b]:=by
  unfold iA;rw[I8,I8,O1 ha,O1 hb];rfl
 rw[nZ,iT];unfold AK;have es:bW 3 [aP w,.int a,.int b]=[U _,U _,U _]:=rfl;rw[es,qF,e,e2];simp[cH,noRef]
def nQ(w:List (List Nat)):Option Nat:=w.findIdx? λr=>decide (r.length≠(w.getD 0 []).length)
def j8:Option Nat->D
 |some i=>.int (i:Nat)
 |none=>.aF
def uf:ah:=(bC (aI (av fL (aK aT ⇑2) (aK aT (ao (av aG (ak 0) (dC (.int 0))) aq)))) (aS (ak 1)) bQ)
theorem ahR{W:D}{i:Nat}(h0:aG W (.int 0) c=.ok (.tup (nD r0)) c):uf [U W,U (.int i),U (.tup (nD r))] c=if r.length≠r0.length then .ok (.rt (.int i)) c else .ok (.nx [U W,U (.int i),U (.tup (nD r))]) c:=by
 have l1:(nD r).length=r.length:=by simp[nD]
 have l0:(nD r0).length=r0.length:=by simp[nD]
 unfold uf
 by_cases e:r.length=r0.length
 ·simp[h0,l1,l0,e]
 ·have e':¬((r.length:Int)=(r0.length:Int)):=∅
  simp[h0,l1,l0,e,e']
theorem Jt{W:D}{r0:List Nat}{c:aa}(h0:aG W (.int 0) c=.ok (.tup (nD r0)) c):∀(w:List (List Nat)) (k:Nat) (v1 v2:Option D),∃u1 u2,bU (λ_=>True) (fy 2 (b9 (aA 1) (b9 (aA 2) fB))) uf ((w.map λr=>D.tup (nD r)).mapIdx λi x=>.tup [.int ((k+i:Nat):Int),x]) [U W,v1,v2] c =
  (match w.findIdx? λr=>decide (r.length≠r0.length)with|some i=>.ok (.rt (.int ((k+i:Nat):Int))) c|none=>.ok (.nx [U W,u1,u2]) c)
 |[],k,v1,v2=>⟨v1,v2,by simp⟩
 |r::w,k,v1,v2=>by
  have hg:fy 2 (b9 (aA 1) (b9 (aA 2) fB)) (.tup [.int ((k+0:Nat):Int),.tup (nD r)]) [U W,v1,v2] c=.ok [U W,U (.int ((k+0:Nat):Int)),U (.tup _)] c:=rfl;have hs:=ahR (i:=k+0) (r:=r) h0;rw[O6,List.mapIdx_cons,iL,hg,R.aH,hs,V6]
  by_cases e:r.length=r0.length
  ·obtain⟨u1,u2,ih⟩:=Jt h0 w _ (U (.int ((k+0:Nat):Int))) (U (.tup _));refine⟨u1,u2,?_⟩;rw[if_neg (by simp[e])]
   simp only[R.aH];have e1:((w.map λr=>D.tup (nD r)).mapIdx λi x=>D.tup [.int ((k+(i+1):Nat)),x])=((w.map λr=>D.tup (nD r)).mapIdx λi x=>D.tup [.int ((k+1+i:Nat):Int),x]):=by
    congr 1;funext i x;congr 4;omega
   rw[e1,ih];simp only[e,ne_eq,not_true_eq_false,decide_false];cases w.findIdx? λr=>decide (r.length≠r0.length)with
   |none=>rfl
   |some i =>
    simp only[Option.map_some]
    congr 4;omega
  ·refine⟨O,O,?_⟩;rw[if_pos (by simpa using e)]
   simp only[R.aH];simp[e]
theorem ue{w:List (List Nat)}(h0:0<w.length)(c:aa):uR [aP w] c=.ok (j8 (nQ w)) c:=by
 have hi:aG (aP w) (.int 0) c=.ok (.tup (nD (w.getD 0 []))) c:=by
  have:=rW (O1 h0) c
  rwa[I8,O1 h0]
 obtain⟨u1,u2,hf⟩:=Jt hi w 0 O O;simp only[O9]at hf;have e2:bL (qi ⇑0) (fy 2 (b9 (aA 1) (b9 (aA 2) fB))) uf [U (aP w),O,O] c=(match nQ w with|some i=>.ok (.rt (.int i)) c|none=>.ok (.nx [U (aP w),u1,u2]) c):=by
  unfold qi;exact hf
 have hb:AF=aB (bL (qi _) (fy 2 (b9 _ _)) uf) _:=rfl;rw[uR,iT,hb];have es:bW 3 [aP w]=[U _,O,O]:=rfl;rw[es,ic,e2];cases nQ w with
 |none=>simp[j8,cH,noRef]
 |some i=>simp[j8,cH,noRef]
def mj(w:List (List Nat)):List (Nat×Nat)->Option Nat
 |[]=>O
 |p::_=>U (iA w p)
def sO(w:List (List Nat))(ps:List (Nat×Nat)):Prop:=∀p∈ps,p.1<w.length/\p.2<w.length
theorem JO(o:Option Nat):noRef (j8 o)=J/\∀k,j8 o≠.ref k:=by
 cases o<;>exact⟨rfl,λk h=>by cases h⟩
theorem Dr(p:Nat×Nat)(c:aa):aG (aV p) (.int 0) c=.ok (.int p.1) c:=rfl
theorem Dq(p:Nat×Nat)(c:aa):aG (aV p) (.int 1) c=.ok (.int p.2) c:=rfl
theorem BH(h:Wk w)(hp:sO w ps)(c:aa):lE [aP w,.lst (ps.map aV)] c=.ok (j8 (mj w ps)) c:=by
 rw[lE];refine gi ?_ (JO _).1 (JO _).2;have es:bW 2 [aP w,.lst (ps.map aV)]=[U (aP w),U _]:=rfl;rw[es];unfold Ak;cases ps with
 |nil=>simp[qM,eV,fH,mj,j8]
 |cons p ps =>
  have h1:aG (.lst ((p::ps).map aV)) (.int 0) c=.ok (aV p) c:=by
   have:=kP (xs:=(p::ps).map aV) (j:=0) (v:=aV p) rfl;rw[iE];exact(by rw[show((0:Int))=((0:Nat):Int)from rfl,this])
  obtain⟨p1,p2⟩:=hp p (.head _);have ht:z6 (ak 1) [U (aP w),U (.lst ((p::ps).map aV))] c=.ok J c:=by simp[qM,eV,fH]
  rw[qF,GA,ht];simp only[R.aH];rw[if_pos trivial,(ql (m:=nZ) (d1:=ak 0) (d2:=av aG (av aG (ak 1) (dC (.int 0))) (dC (.int 0))) (d3:=av aG (av aG (ak 1) (dC (.int 0))) (dC (.int 1))) (e:=[U (aP w),U (.lst ((p::ps).map aV))]) (c:=c) rfl (by simp only[fV,cX,jB,gz,gs,R.aH,h1,Dr]) (by simp only[fV,cX,jB,gz,gs,R.aH,h1,Dq]) (N2 h p1 p2 c))]
  rfl
def tK:ah:=(bC (aI (av fL (aD 3 nZ (ao (ak 0) (ao (av aG (ak 3) (dC (.int 0))) (ao (av aG (ak 3) (dC (.int 1))) aq)))) (ak 2))) (aS (ak 3)) bQ)
def kY(w:List (List Nat))(s:Nat)(ps:List (Nat×Nat)):Option (Nat×Nat):=ps.find? λp=>decide (iA w p≠s)
theorem afD(h:Wk w){p:Nat×Nat}(hp:p.1<w.length/\p.2<w.length){s:Nat}(a1:Option D)(c:aa):tK [U (aP w),a1,U (.int s),U (aV p)] c=if iA w p≠s then .ok (.rt (aV p)) c else .ok (.nx [U (aP w),a1,U (.int s),U (aV p)]) c:=by
 have hc:=ql (m:=nZ) (d1:=ak 0) (d2:=av aG (ak 3) (dC (.int 0))) (d3:=av aG (ak 3) (dC (.int 1))) (e:=[U (aP w),a1,U (.int s),U (aV p)]) (c:=c) rfl (by simp only[fV,cX,jB,gz,gs,R.aH,Dr]) (by simp only[fV,cX,jB,gz,gs,R.aH,Dq]) (N2 h hp.1 hp.2 c)
 unfold tK;rw[YX hc rfl];rfl
theorem GQ{w:List (List Nat)}(h:Wk w){s:Nat}{a1:Option D}{c:aa}:∀(ps:List (Nat×Nat)) (v:Option D),sO w ps->∃u,bU (λ_=>True) (aA 3) tK (ps.map aV) [U (aP w),a1,U (.int s),v] c=(match kY w s ps with|some p=>.ok (.rt (aV p)) c|none=>.ok (.nx [U (aP w),a1,U (.int s),u]) c)
 |[],v,_=>⟨v,by simp[kY]⟩
 |p::ps,v,hp=>by
  obtain⟨u,ih⟩:=GQ (a1:=a1) h ps (U (aV p)) λq hq=>hp q (.tail _ hq)
  have hs:=afD h (hp p (.head _)) (s:=s) a1 c;have hg:aA 3 (aV p) [U (aP w),a1,U (.int s),v] c=.ok [U (aP w),a1,U (.int s),U (aV p)] c:=rfl
  by_cases e:iA w p=s
  ·refine⟨u,?_⟩;rw[O6,iL,hg,R.aH,hs,if_neg (by simp[e])]
   simp only[R.aH];rw[ih];unfold kY;rw[Ti (by simp[e])]
  ·refine⟨u,?_⟩;rw[O6,iL,hg,R.aH,hs,if_pos (by simpa using e)]
   unfold kY;rw[Th (by simpa using e)]
   rfl
def pairD:Option (Nat×Nat)->D
 |some p=>aV p
 |none=>.aF
def jC(w:List (List Nat))(ps:List (Nat×Nat)):Option (Nat×Nat):=match ps with
 |[]=>O
 |p::ps=>kY w (iA w p) (p::ps)
theorem JH(o:Option (Nat×Nat)):noRef (pairD o)=J/\∀k,pairD o≠.ref k:=by
 cases o<;>exact⟨rfl,λk h=>by cases h⟩
theorem aaf(h:Wk w)(hp:sO w ps)(c:aa):uS [aP w,.lst (ps.map aV)] c=.ok (pairD (jC w ps)) c:=by
 have e0:aE 2 (aD 2 lE (0⊂1)) [U (aP w),U (.lst (ps.map aV)),O,O] c=.ok (.nx [U (aP w),U (.lst (ps.map aV)),U (j8 (mj w ps)),O]) c:=by
  rw[qE,(fU (m:=lE) (d1:=ak 0) (d2:=ak 1) (e:=[U (aP w),U _,O,O]) (c:=c) rfl rfl (BH h hp c))];rfl
 have hb:AG=aB _ (aB (bL _ (aA 3) tK) _):=rfl;refine gi ?_ (JH _).1 (JH _).2;have es:bW 4 [aP w,.lst (ps.map aV)]=[U (aP w),U _,O,O]:=rfl;rw[es,hb,gM e0];cases ps with
 |nil =>
  simp[jC,pairD]
 |cons p ps =>
  obtain⟨u,hf⟩:=GQ h (c:=c) (p::ps) O hp;have e1:bL (dF (ak 1)) (aA 3) tK [U (aP w),U (.lst ((p::ps).map aV)),U (j8 (mj w (p::ps))),O] c=(match kY w (iA w p) (p::ps)with|some p=>.ok (.rt (aV p)) c|none=>.ok (.nx [U (aP w),U (.lst ((p::ps).map aV)),U (.int (iA w p:Nat)),u]) c):=by
   unfold dF;exact hf
  have eu:jC w (p::ps)=kY w (iA w p) (p::ps):=rfl;rw[ic,e1,eu];cases kY w (iA w p) (p::ps)with
  |none=>simp[pairD]
  |some p=>simp[pairD]
def zZ:ah:=(aB (aE 6 (aD 2 uS (0⊂5))) (bC (aI (av iJ (ak 6) (dC .aF))) (aS (bZ (ao (ak 4) (ao (av aG (ak 6) (dC (.int 0))) (ao (av aG (ak 6) (dC (.int 1))) aq))))) bQ))
theorem Nv{w:List (List Nat)}(h:Wk w){ps:List (Nat×Nat)}(hp:sO w ps){c:aa}(a1 a2 a3 a6:Option D)(word:Str):∃u,zZ [U (aP w),a1,a2,a3,U (.str word),U (.lst (ps.map aV)),a6] c=(match jC w ps with
  |some p=>.ok (.rt (.tup [.str word,.int p.1,.int p.2])) c
  |none=>.ok (.nx [U (aP w),a1,a2,a3,U (.str word),U (.lst (ps.map aV)),u]) c):=by
 have hs:=fU (d1:=ak 0) (d2:=ak 5) (e:=[U (aP w),a1,a2,a3,U (.str word),U (.lst (ps.map aV)),a6]) rfl rfl (aaf h hp c);have e0:aE 6 (aD 2 uS (0⊂5)) [U (aP w),a1,a2,a3,U (.str word),U (.lst (ps.map aV)),a6] c=.ok (.nx [U (aP w),a1,a2,a3,U (.str word),U (.lst (ps.map aV)),U (pairD (jC w ps))]) c:=by
  rw[qE,hs];rfl
 refine⟨U (pairD (jC w ps)),?_⟩;unfold zZ;rw[gM e0];cases jC w ps with
 |none=>simp[pairD,fM]
 |some p =>
  have h3:=agx (x:=.str word) (y:=.int p.1) (z:=.int p.2) (d1:=ak 4) (d2:=av aG (ak 6) (dC (.int 0))) (d3:=av aG (ak 6) (dC (.int 1))) (e:=[U (aP w),a1,a2,a3,U _,U (.lst (ps.map aV)),U (aV p)]) (c:=c) rfl (by simp only[fV,cX,jB,gz,gs,R.aH,Dr]) (by simp only[fV,cX,jB,gz,gs,R.aH,Dq])
  have hn:aI (av iJ (ak 6) (dC .aF)) [U (aP w),a1,a2,a3,U (.str word),U (.lst (ps.map aV)),U (aV p)] c=.ok J c:=rfl;show bC _ _ _ [U (aP w),a1,a2,a3,U _,U _,U (aV p)] c=_;rfl
def zY(w:List (List Nat)):D:=match nQ w with
 |some i=>.tup [.str "place",.int (i:Nat)]
 |none=>match jC w (dZ w)with
  |some p=>.tup [.str "tied",.int p.1,.int p.2]
  |none=>match jC w (dZ (gQ w))with
   |some p=>.tup [.str "apart",.int p.1,.int p.2]
   |none=>.tup [.str "even",.tup [.int (w.length:Nat),.int ((w.getD 0 []).length:Nat),j8 (mj w (dZ w)),j8 (mj w (dZ (gQ w)))]]
theorem Hh{w:List (List Nat)}(hl:w.length<=m)(h:∀r∈w,∀x∈r,x<m):∀p∈dZ w,p.1<m/\p.2<m:=λp hp=>by
 obtain⟨l,hl',hp⟩:=List.mem_flatten.mp hp;obtain⟨i,hi,rfl⟩:=V7.mp hl';obtain⟨j,hj,rfl⟩:=K1.mp hp;exact⟨by simp only;omega,h _ (PX hi) j (Pw.mp hj).1⟩
theorem GK(n:Nat)(f:Nat->Nat->Bool):∀r∈qI n f,r.length<=n/\∀x∈r,x<n:=λr hr=>by
 obtain⟨i,_,rfl⟩:=K1.mp hr;refine⟨?_,λx hx=>dg.mp (Pw.mp hx).1⟩
 have:=RM (λj=>decide (j≠i)&&f i j) (θ n)
 rwa[Qt]at this
theorem afA(n:Nat)(f:Nat->Nat->Bool):(qI n f).length=n:=by simp[qI]
theorem M8{xs:List D}(hg:g x e c=.ok e' c)(hs:s e' c=.ok (.rt v) c):bU (λ_=>True) g s (x::xs) e c=.ok (.rt v) c:=by
 rw[iL,hg,R.aH,hs];rfl
theorem Eg{xs:List D}(hg:g x e c=.ok e' c)(hs:s e' c=.ok (.nx e'') c)(h:bU (λ_=>True) g s xs e'' c=r):bU (λ_=>True) g s (x::xs) e c=r:=by
 rwa[iL,hg,R.aH,hs]
theorem tU(h:s e c=.ok (.nx e') c)(h2:t e' c=r):aB s t e c=r:=by
 rw[ic,h];exact h2
theorem ahg(h:s e c=.ok (.rt v) c):aB s t e c=.ok (.rt v) c:=by
 rw[ic,h];rfl
def evR:ah:=aS (bZ (ao (dC (.str "even")) (ao (bZ (ao (aK aT ⇑0) (ao (aK aT (ao (av aG (ak 0) (dC (.int 0))) aq)) (ao (aD 2 lE (0⊂2)) (ao (aD 2 lE (0⊂3)) aq))))) aq)))
theorem abe(h:Wk w)(h0:0<w.length)(c:aa):rO [aP w] c=.ok (zY w) c:=by
 have hl:=h.len;have hn:=Hg (w:=w) hl (λr hr=>by have:=h.short hr;omega) c
 have gY:(gQ w).length=w.length:=afA _ _;have hf:=Hg (w:=gQ w) ∅ (λr hr=>by have:=(GK _ _ r hr).1;omega) c
 have ho:=aiL (w:=w) ∅ c
 have p1:sO w (dZ w):=Hh (AP _) λr hr x hx=>(h.row r hr).2 x hx
 have p2:sO w (dZ (gQ w)):=Hh (R1 gY) λr hr x hx=>(GK _ _ r hr).2 x hx
 have hi:aG (aP w) (.int 0) c=.ok (.tup (nD (w.getD 0 []))) c:=by
  rw[I8,O1 h0];exact rW (O1 h0) c
 have hp:=ue h0 c;have hw:=mP w c;have s1:=BH h p1 c;have s2:=BH h p2 c;obtain⟨u1,f1⟩:=Nv h p1 (c:=c) (U .aF) (U (.lst ((dZ w).map aV))) (U (.lst ((dZ (gQ w)).map aV))) O "tied"
 obtain⟨u2,f2⟩:=Nv h p2 (c:=c) (U .aF) (U (.lst ((dZ w).map aV))) (U (.lst ((dZ (gQ w)).map aV))) u1 "apart"
 have lr:aT [.tup (nD (w.getD 0 []))] c=.ok (.int ((w.getD 0 []).length:Nat)) c:=by rw[Gz];simp[nD]
 unfold zY
 generalize aP (gQ w)=V at ho hf
 generalize D.lst ((dZ w).map aV)=A at hn s1 f1 f2
 generalize D.lst ((dZ (gQ w)).map aV)=B at hf s2 f1 f2
 generalize D.tup (nD (w.getD 0 []))=σ at hi lr
 generalize aP w=W at hn ho hi hp hw s1 s2 f1 f2 ⊢
 have key:∀v,noRef v=J->(∀k,v≠.ref k)->AJ [U W,O,O,O,O,O,O] c=.ok (.rt v) c->rO [W] c=.ok v c:=λv h2 h3 h1=>gi h1 h2 h3
 have e0:=λx hp=>dj (i:=1) (e:=[U W,O,O,O,O,O,O]) (gc (m:=uR) (d1:=ak 0) (x:=W) (v:=x) (c:=c) rfl hp)
 cases q:nQ w with
 |some i =>
  rw[q]at hp;exact key _ rfl (by simp) (tU (e0 _ hp) (ahg (eY (d:=bZ (ao (dC (.str "place")) ⇑1)) (e:=[U W,U (.int (i:Nat)),O,O,O,O,O]) (xu (x:=.str "place") (y:=.int (i:Nat)) rfl rfl))))
 |none =>
  rw[q]at hp;have pre:∀r,bU (λ_=>True) (fy 2 (b9 (aA 4) (b9 (aA 5) fB))) zZ [.tup [.str "tied",A],.tup [.str "apart",B]] [U W,U .aF,U A,U B,O,O,O] c=r->∀v,noRef v=J->(∀k,v≠.ref k)->(r.bind λfl c=>match fl with|.nx e=>evR e c|r=>.ok r c)=.ok (.rt v) c->rO [W] c=.ok v c:=λr hr v h2 h3 hv=>by
   refine key v h2 h3 (tU (e0 _ hp) (tU (e':=[U W,U .aF,O,O,O,O,O]) rfl (tU (dj (e:=[U W,U .aF,O,O,O,O,O]) (gc (x:=W) rfl hn)) (tU (dj (e:=[U W,U .aF,U A,O,O,O,O]) (gc (gc (x:=W) rfl ho) hf)) ?_))));have DC:g6 (bZ (ao (bZ (ao (dC (.str "tied")) ⇑2)) (ao (bZ (ao (dC (.str "apart")) ⇑3)) aq))) [U W,U .aF,U A,U B,O,O,O] c=.ok ⟨[.tup [.str "tied",A],.tup [.str "apart",B]],λ_=>True⟩ c:=by
    rfl
   rw[ic];show((bL _ _ zZ [U W,U .aF,U A,U B,O,O,O] c).bind _)=_;rw[nC,DC];simp only[R.aH];rw[hr];exact hv
  cases q:jC w (dZ w)with
  |some p =>
   rw[q]at f1;exact pre _ (M8 rfl f1) _ rfl (by simp) rfl
  |none =>
   rw[q]at f1;cases q:jC w (dZ (gQ w))with
   |some p =>
    rw[q]at f2;exact pre _ (Eg rfl f1 (M8 rfl f2)) _ rfl (by simp) rfl
   |none =>
    rw[q]at f2;refine pre (.ok (.nx [U W,U .aF,U A,U B,U (.str "apart"),U B,u2]) c) (Eg rfl f1 (Eg rfl f2 (by simp))) _ ?_ (by simp) (eY (xu (x:=.str "even") rfl (agy (d8 (x:=W) rfl hw) (d8 (bw (x:=W) (y:=.int 0) rfl rfl hi) lr) (fU (x:=W) (y:=A) rfl rfl s1) (fU (x:=W) (y:=B) rfl rfl s2))))
    cases mj w (dZ w)<;>cases mj w (dZ (gQ w))<;>rfl
def iP(m:Nat)(f:Nat->Nat->Bool)(p q:Nat):Nat:=((θ m).filter λk=>f p k&&f q k).length
theorem acK(f:Nat->Nat->Bool):oV (cg m f p) (cg m f q)=iP m f p q:=by
 refine(Oi (rs:=(θ m).filter λk=>f p k&&f q k) (QY.filter _) λx=>?_).symm
 unfold cg;simp only[Pw,dg,PF];exact⟨fun⟨a,b,c⟩=>⟨⟨a,b⟩,a,c⟩,fun⟨⟨a,b⟩,_,c⟩=>⟨a,b,c⟩⟩
def iN(m:Nat)(f:Nat->Nat->Bool)(i:Nat):Nat:=((θ m).map (f i)).countP id
theorem N3(f:Nat->Nat->Bool){p:Nat×Nat}(h1:p.1<m)(h2:p.2<m):iA (wF m f) p=iP m f p.1 p.2:=by
 unfold iA;rw[tF f h1,tF f h2,acK]
def ji(m:Nat)(q:Nat->Nat->Bool)(i:Nat):List (Nat×Nat):=((List.range' (i+1) (m-(i+1))).filter (q i)).map λj=>(i,j)
def dz(m:Nat)(q:Nat->Nat->Bool):List (Nat×Nat):=(θ m).flatMap (ji m q)
theorem aib(h:i<m):θ m=θ (i+1)++List.range' (i+1) (m-(i+1)):=by
 have e:m=(i+1)+(m-(i+1)):=∅
 rw[SW,SW]
 conv=>lhs;rw[e]
 rw[<-List.range'_append_1,O9]
theorem Wz(f:Nat->Nat->Bool)(h:i<m):je i (cg m f i)=ji m f i:=by
 unfold je ji cg
 congr 1
 rw[Tg,aib h,V5];have e1:(θ (i+1)).filter (λa=>decide (i<a)&&f i a)=[]:=by
  rw[Tf];intro a ha;have:=dg.mp ha;simp;omega
 rw[e1,Pe];refine RZ λa ha=>?_
 have:=RL.mp ha;have:i<a:=∅
 simp[this]
theorem Hi(m:Nat)(f:Nat->Nat->Bool):dZ (wF m f)=dz m f:=by
 unfold dZ dz wF;rw[Te]
 congr 1
 apply Q4
 ·simp
 ·intro i h1 h2;have hi:i<m:=by simpa using h1
  simp only[V3,S8,SA];exact Wz f hi
def pI(f:Nat->Nat->Bool):Nat->Nat->Bool:=λi j=>!f i j
theorem aiO{q r:Nat->Nat->Bool}(h:∀i j,i<j->j<m->q i j=r i j):dz m q=dz m r:=by
 unfold dz;rw[Te,Te]
 congr 1
 refine Pk λi hi=>?_
 unfold ji
 congr 1
 refine RZ λj hj=>?_
 have:=RL.mp hj;exact h i j ∅ ∅
theorem aa5(m:Nat)(f:Nat->Nat->Bool):dZ (gQ (wF m f))=dz m (pI f):=by
 have e:gQ (wF m f)=wF m (λi j=>decide (j≠i) && !f i j):=by
  unfold gQ qI wF;rw[O2,Qt];refine Pk λi hi=>?_
  have hi:=dg.mp hi;have e2:cg m (λi j=>decide (j≠i) && !f i j) i=(θ m).filter λj=>decide (j≠i) && !f i j:=rfl
  rw[e2];unfold Br;refine RZ λj hj=>?_
  have hj:=dg.mp hj;have:=tF f hi;unfold wF at this;unfold uv;rw[this];unfold cg
  congr 2
  cases hf:f i j<;>simp[Pw,hj,hf]
 rw[e,Hi];refine aiO λi j hij _=>?_
 have:j≠i:=∅
 simp[pI,this]
theorem ya{q:Nat->Nat->Bool}:∀p∈dz m q,p.1<m/\p.2<m:=λp hp=>by
 obtain⟨i,hi,hp⟩:=Td.mp hp;obtain⟨j,hj,rfl⟩:=K1.mp hp;have:=RL.mp (Pw.mp hj).1;have:=dg.mp hi;exact⟨by simp only;omega,by simp only;omega⟩
theorem Nk(P:List Nat->Bool)(g:Nat->List Nat):∀(n a:Nat),((List.range' a n).map g).findIdx? P=((List.range' a n).find? λi=>P (g i)).map λi=>i-a
 |0,a=>rfl
 |n+1,a=>by
  rw[V0,O6,V6];cases h:P (g a)with
  |true=>rw[Th (by exact h)];simp
  |false =>
   rw[Ti (by simp[h]),Nk P g n (a+1)]
   cases hf:(List.range' (a+1) n).find? λi=>P (g i)with
   |none=>simp
   |some i =>
    have:=RL.mp (UD hf);simp;omega
theorem EB(m:Nat)(f:Nat->Nat->Bool)(i:Nat):(cg m f i).length=iN m f i:=by
 unfold iN cg;rw[Qm,SV];rfl
theorem ahS(f:Nat->Nat->Bool)(h0:0<m):nQ (wF m f)=(θ m).find? λi=>decide (iN m f i≠iN m f 0):=by
 unfold nQ;rw[tF f h0,EB];unfold wF;rw[SW,Nk];have e:(λi=>decide ((cg m f i).length≠iN m f 0))=λi=>decide (iN m f i≠iN m f 0):=by
  funext i
  rw[EB]
 rw[e];cases(List.range' 0 m).find? λi=>decide (iN m f i≠iN m f 0)<;>simp
theorem nT{q:Nat->Nat->Bool}:p∈dz m q↔p.1<p.2/\p.2<m/\q p.1 p.2=J:=by
 unfold dz ji;rw[Td]
 constructor
 ·rintro ⟨i,hi,hp⟩
  rw[K1]at hp;obtain⟨j,hj,rfl⟩:=hp;rw[Pw,RL]at hj;exact⟨by show i<j;omega,by show j<m;omega,hj.2⟩
 ·rintro ⟨h1,h2,h3⟩
  refine⟨p.1,dg.mpr ∅,?_⟩
  rw[K1];refine⟨p.2,?_,rfl⟩;rw[Pw,RL];exact⟨∅,h3⟩
structure wJ (m:Nat) (f:Nat->Nat->Bool) (k a b:Nat):Prop where
 vL:∀p,p<m->iN m f p=k
 EH:∀p q,p<m->q<m->p≠q->iP m f p q=cond (f p q) a b
 hn:∃p q,p<m/\q<m/\p≠q/\f p q=J
 hf:∃p q,p<m/\q<m/\p≠q/\f p q=Δ
theorem abG{f:Nat->Nat->Bool}(h:∀p,p<m->iN m f p=k)(h0:0<m):nQ (wF m f)=O:=by
 rw[ahS f h0,SK];intro i hi;rw[dg]at hi;rw[h i hi,h 0 h0];simp
theorem GX{f q:Nat->Nat->Bool}(h:∀p∈dz m q,iP m f p.1 p.2=a):jC (wF m f) (dz m q)=O:=by
 have hc:∀p∈dz m q,iA _ p=a:=λp hp=>by
  rw[N3 f (ya p hp).1 (ya p hp).2];exact h p hp
 cases hp:dz m q with
 |nil=>rfl
 |cons p ps =>
  rw[hp]at hc;show kY _ _ _=O;unfold kY;rw[SK];intro x hx;rw[hc x hx,hc p (by simp)]
  simp
theorem HU{f q:Nat->Nat->Bool}(h:∀p∈dz m q,iP m f p.1 p.2=a)(hn:dz m q≠[]):mj (wF m f) (dz m q)=U a:=by
 have hc:∀p∈dz m q,iA _ p=a:=λp hp=>by
  rw[N3 f (ya p hp).1 (ya p hp).2];exact h p hp
 cases hp:dz m q with
 |nil=>exact absurd hp hn
 |cons p ps =>
  rw[hp]at hc;show U _=_;rw[hc p (by simp)]
theorem JJ{q:Nat->Nat->Bool}(hs:∀i k,q i k=q k i)(h:∃i k,i<m/\k<m/\i≠k/\q i k=J):dz m q≠[]:=by
 obtain⟨i,k,hi,hk,hne,hq⟩:=h
 rcases Uz hne with q'|q'
 ·have:=(nT (p:=(i,k))).mpr ⟨q',hk,hq⟩;intro e;rw[e]at this;cases this
 ·have:=(nT (p:=(k,i))).mpr ⟨q',hi,by show q k i=J;rw[hs];exact hq⟩
  intro e;rw[e]at this;cases this
theorem abh{f:Nat->Nat->Bool}(h:wJ m f k a b)(hw:g8 f):zY (wF m f)=.tup [.str "even",.tup [.int (m:Nat),.int (k:Nat),.int (a:Nat),.int (b:Nat)]]:=by
 obtain⟨p0,q0,hp0,_⟩:=h.hn;have h0:0<m:=∅
 have hA:∀p∈dz m f,iP m f p.1 p.2=a:=λp hp=>by
  obtain⟨h1,h2,h3⟩:=nT.mp hp;rw[h.EH p.1 p.2 ∅ h2 ∅,h3];rfl
 have hB:∀p∈dz m (pI f),iP m f p.1 p.2=b:=λp hp=>by
  obtain⟨h1,h2,h3⟩:=nT.mp hp;have h3':f p.1 p.2=Δ:=by unfold pI at h3;simpa using h3
  rw[h.EH p.1 p.2 ∅ h2 ∅,h3'];rfl
 have nA:dz m f≠[]:=JJ hw.2 h.hn;have nB:dz m (pI f)≠[]:=JJ (λi k=>by unfold pI;rw[hw.2]) (by
  obtain⟨p,q,h1,h2,h3,h4⟩:=h.hf;exact⟨p,q,h1,h2,h3,by unfold pI;rw[h4];rfl⟩)
 unfold zY;rw[abG h.vL h0,Hi,aa5,GX hA,GX hB,HU hA nA,HU hB nB,jd,tF f h0,EB,h.vL 0 h0];rfl
theorem EE(m:Nat)(f:Nat->Nat->Bool)(p q:Nat):iP m f p q=(θ m).countP λk=>f p k&&f q k:=by
 unfold iP;rw[SV]
theorem EC(m:Nat)(f:Nat->Nat->Bool)(p:Nat):iN m f p=(θ m).countP (f p):=by
 unfold iN;rw[Qm];rfl
section
variable {m:Nat}{Z:Nat->Nat}{f g:Nat->Nat->Bool}
theorem Mv.yf(h:Mv m Z f g)(hp:p<m):∃a,a<m/\Z a=p:=by
 have:=h.pm.mem_iff.mpr (dg.mpr hp);rw[K1]at this;obtain⟨a,ha,e⟩:=this;exact⟨a,dg.mp ha,e⟩
theorem Mv.inj(h:Mv m Z f g)(ha:a<m)(hb:b<m)(e:Z a=Z b):a=b:=by
 have h1:((θ m).map Z)[a]'(by simpa using ha)=((θ m).map Z)[b]'(by simpa using hb):=by simpa using e
 exact(Qf (h.pm.nodup_iff.mpr QY)).mp h1
theorem Mv.vL(h:Mv m Z f g)(hp:p<m):iN m g p=iN m f (Z p):=by
 rw[EC,EC,<-h.pm.countP_eq (f _),Qm];refine QB λx hx=>?_
 rw[dg]at hx;show g p x=J↔f _ _=J;rw[h.eq p x hp hx]
theorem Mv.cs(h:Mv m Z f g)(hp:p<m)(hq:q<m):iP m g p q=iP m f (Z p) (Z q):=by
 rw[EE,EE,<-h.pm.countP_eq (λk=>f _ k&&f _ k),Qm]
 refine QB λx hx=>?_
 rw[dg]at hx;show _=J↔(f _ _&&f _ _)=J;rw[h.eq p x hp hx,h.eq q x hq hx]
theorem Mv.ev(h:Mv m Z f g)(H:wJ m f k a b):wJ m g k a b:=by
 refine⟨λp hp=>?_,λp q hp hq hne=>?_,?_,?_⟩
 ·rw[h.vL hp];exact H.vL _ (h.lt p hp)
 ·rw[h.cs hp hq,h.eq p q hp hq];exact H.EH _ _ (h.lt p hp) (h.lt q hq) λe=>hne (h.inj hp hq e)
 ·obtain⟨p,q,hp,hq,hne,e⟩:=H.hn;obtain⟨a,ha,rfl⟩:=h.yf hp;obtain⟨b,hb,rfl⟩:=h.yf hq;exact⟨a,b,ha,hb,λz=>hne (by rw[z]),by rw[h.eq a b ha hb];exact e⟩
 ·obtain⟨p,q,hp,hq,hne,e⟩:=H.hf;obtain⟨a,ha,rfl⟩:=h.yf hp;obtain⟨b,hb,rfl⟩:=h.yf hq;exact⟨a,b,ha,hb,λz=>hne (by rw[z]),by rw[h.eq a b ha hb];exact e⟩
end
def AtL(c:aa)(X:D)(ξ:List D):Prop:=X=.lst ξ\/∃k,X=.ref k/\c[k]? = U (.lst ξ)
theorem aaG{sr:Ev->aa->R Src}{st:aa->Prop}(h1:sr e c=.ok ⟨l,st⟩ c')(h2:bU st g s l e c'=r):bL sr g s e c=r:=by
 rw[nC,h1];exact h2
theorem agS:1000000<Ω:=⋯
theorem Ky{α:Type}[DecidableEq α]:∀(D ξ:List α),D.Nodup->(∀x∈D,x∈ξ)->ξ.length<=D.length->ξ.Perm D
 |[],ξ,_,_,h=>by
  have:ξ=[]:=U1.mp (by simpa using h)
  rw[this]
 |d::D,ξ,hn,hs,hl=>by
  have hd:=hs d (by simp)
  have hn:=QV.mp hn;have hle:(ξ.erase d).length<=D.length:=by
   rw[TJ hd];simp at hl;omega
  exact(List.perm_cons_erase hd).trans ((Ky D _ hn.2 (λx hx=>(TL (λe=>hn.1 (by rw[<-e];exact hx))).mpr (hs x (by simp[hx]))) hle).cons d)
theorem CM{α:Type}[DecidableEq α]:∀(D ξ:List α),D.Nodup->(∀x∈D,x∈ξ)->D.length<=ξ.length
 |[],ξ,_,_=>Pd _
 |d::D,ξ,hn,hs=>by
  have hd:=hs d (by simp)
  have hn:=QV.mp hn;have:=CM D (ξ.erase d) hn.2 λx hx=>(TL (λe=>hn.1 (by rw[<-e];exact hx))).mpr (hs x (by simp[hx]))
  rw[TJ hd]at this;have:0<ξ.length:=UL hd;simp;omega
theorem xZ{l:List Nat}(hn:l.Nodup)(hl:l.length=m)(hm:∀x∈l,x<m):l.Perm (θ m) :=
 (Ky l _ hn (λx hx=>dg.mpr (hm x hx)) (by simp[hl])).symm
def aC(os:List Nat)(i:Nat):Nat:=os.getD i 0
section
variable {m:Nat}{os:List Nat}
theorem fY(h:os.Perm (θ m)):os.length=m:=by have:=h.length_eq;simpa using this
theorem eU(h:os.Perm (θ m))(hi:i<m):aC os i<m:=by
 have hl:=fY h;have:os[i]'∅∈os:=PX _
 have:=dg.mp (h.mem_iff.mp this)
 simpa[aC,I8,show i<os.length by omega]using this
theorem j6(h:os.Perm (θ m))(hi:i<m)(hj:j<m)(e:aC os i=aC os j):i=j:=by
 have hl:=fY h;have:os[i]'∅=os[j]'∅:=by simpa[aC,I8,show i<os.length by omega,show j<os.length by omega]using e
 exact(Qf (h.nodup_iff.mpr QY)).mp this
theorem Cb(h:os.Perm (θ m)):(θ m).map (aC os)=os:=by
 refine Q4 (by simp[(fY h)]) λi h1 h2=>?_
 simp[aC,I8,h2]
theorem ajy(h:os.Perm (θ m))(hx:x<m):∃i,i<m/\aC os i=x:=by
 have:x∈(θ m).map (aC os):=by rw[Cb h];exact h.mem_iff.mpr (dg.mpr hx)
 obtain⟨i,hi,e⟩:=K1.mp this;exact⟨i,dg.mp hi,e⟩
theorem ud(h:os.Perm (θ m))(p:Nat->Bool):(θ m).countP (λi=>p (aC os i))=(θ m).countP p:=by
 have e:(θ m).countP (λi=>p (aC os i))=((θ m).map (aC os)).countP p:=by rw[Qm];rfl
 rw[e,Cb h];exact h.countP_eq p
end
def jn:List Nat->List Nat->Bool
 |[],[]=>Δ
 |[],_::_=>J
 |_::_,[]=>Δ
 |a::as,b::bs=>if a=b then jn as bs else decide (a<b)
theorem Lm:∀l:List Nat,jn l l=Δ
 |[]=>rfl
 |a::l=>by simp[jn,Lm l]
theorem Lo:∀{l k:List Nat},jn l k=J->jn k l=Δ
 |[],[],h=>by cases h
 |[],_::_,_=>rfl
 |_::_,[],h=>by cases h
 |a::l,b::k,h=>by
  unfold jn at h ⊢
  by_cases e:a=b
  ·subst e;rw[if_pos rfl]at h ⊢;exact Lo h
  ·rw[if_neg e]at h;rw[if_neg (λz=>e z.symm)]
   have:=of_decide_eq_true h;exact decide_eq_false ∅
theorem C7:∀{l k:List Nat}{d:Nat},l.length=k.length->d<l.length->(∀i,i<d->aC l i=aC k i)->aC l d<aC k d->jn l k=J
 |[],_,_,_,h,_,_=>by simp at h
 |_::_,[],_,h,_,_,_=>by simp at h
 |a::l,b::k,0,hl,hd,_,hlt=>by
  have hlt:a<b:=hlt;unfold jn;rw[if_neg ∅]
  exact decide_eq_true hlt
 |a::l,b::k,d+1,hl,hd,he,hlt=>by
  have e:a=b:=he 0 ∅
  unfold jn;rw[if_pos e];exact C7 (d:=d) (by simpa using hl) (by simpa using hd) (λi hi=>he (i+1) ∅) hlt
theorem Ln:∀{l k:List Nat},l.length=k.length->l≠k->∃d,d<l.length/\(∀i,i<d->aC l i=aC k i)/\aC l d≠aC k d
 |[],[],_,h=>absurd rfl h
 |[],_::_,h,_=>by simp at h
 |_::_,[],h,_=>by simp at h
 |a::l,b::k,hl,hne=>by
  by_cases e:a=b
  ·subst e;obtain⟨d,h1,h2,h3⟩:=Ln (l:=l) (k:=k) (by simpa using hl) λq=>hne (by rw[q])
   refine⟨d+1,by simpa using h1,λi hi=>?_,h3⟩
   cases i with
   |zero=>rfl
   |succ i=>exact h2 i ∅
  ·exact⟨0,by simp,λi hi=>∅,e⟩
def ny(m:Nat)(P:List Nat->Prop)(os:List Nat):Prop:=P os/\∀ts,P ts->ts.length=m->jn ts os=Δ
theorem ny.congr{P Q:List Nat->Prop}(h:∀os,P os↔Q os){os:List Nat}(x:ny m P os):ny m Q os:=⟨(h os).mp x.1,λts ht=>x.2 ts ((h ts).mpr ht)⟩
def F2(m:Nat)(f f':Nat->Nat->Bool):Nat->Nat->Bool:=λu v=>if u<m then decide (v<m)&&f u v else decide (m<=v)&&f' (u-m) (v-m)
def g7(n:Nat)(F:Nat->Nat->Bool)(c:Nat->Nat)(u d:Nat):Nat:=(θ n).countP λv=>F u v&&decide (c v=d)
structure eS (m:Nat) (f f':Nat->Nat->Bool) (os:List Nat):Prop where
 pm:os.Perm (θ m)
 eq:∀i j,i<m->j<m->f i j=f' (aC os i) (aC os j)
def fE(m:Nat)(c:Nat->Nat)(os:List Nat):Prop:=∀i,i<m->c i=c (m+aC os i)
def wI(n:Nat)(F:Nat->Nat->Bool)(c c':Nat->Nat):Prop:=∀u v,u<n->v<n->(c' u=c' v↔c u=c v/\∀d,g7 n F c u d=g7 n F c v d)
def qu(m:Nat)(c:Nat->Nat):Prop:=∀d,(θ m).countP (λi=>decide (c i=d))=(θ m).countP λi=>decide (c (m+i)=d)
section
variable {m:Nat}{f f':Nat->Nat->Bool}{c c':Nat->Nat}{os:List Nat}
theorem Jj(m:Nat)(p:Nat->Bool):(θ (2*m)).countP p=(θ m).countP p+(θ m).countP λi=>p (m+i):=by
 have e:θ (2*m)=θ m++(θ m).map (m + ·):=by
  rw[show 2*m=m+m by omega,RY]
 rw[e,S7,Qm];rfl
theorem Ae{α:Type}{p:α->Bool}{l:List α}(h:∀x∈l,p x=Δ):l.countP p=0:=Uy.mpr λx hx=>by simp[h x hx]
theorem N8(hi:i<m):g7 (2*m) (F2 m f f') c i d=(θ m).countP λj=>f i j&&decide (c j=d):=by
 unfold g7;rw[Jj,Ae (p:=λj=>F2 m f f' i (m+j)&&decide (c (m+j)=d)) λj hj=>by
  unfold F2;rw[if_pos hi];have:¬m+j<m:=∅
  simp[this]]
 refine QB λj hj=>?_
 unfold F2;rw[if_pos hi];simp[dg.mp hj]
theorem N7:g7 (2*m) (F2 m f f') c (m+i) d=(θ m).countP λj=>f' i j&&decide (c (m+j)=d):=by
 unfold g7;have hi:¬m+i<m:=∅
 rw[Jj,Ae (l:=θ m) (p:=λj=>F2 m f f' (m+i) j&&decide (c j=d)) λj hj=>by
  unfold F2;rw[if_neg hi];have:¬m<=j:=by have:=dg.mp hj;omega
  simp[this]]
 rw[O9];refine QB λj hj=>?_
 unfold F2;rw[if_neg hi];simp
theorem fE.cn(h:eS m f f' os)(r:fE m c os)(hi:i<m)(d:Nat):g7 (2*m) (F2 m f f') c i d=Ev.g7 (2*m) (F2 m f f') c (m+aC os i) d:=by
 rw[N8 hi,N7,<-ud h.pm λj=>f' (aC os i) j&&decide (c (m+j)=d)]
 refine QB λj hj=>?_
 have hj:=dg.mp hj;rw[h.eq i j hi hj,r j hj]
theorem fE.aaW(h:eS m f f' os)(r:fE m c os)(F:wI (2*m) (F2 m f f') c c'):fE m c' os:=λi hi=>by
 have:=eU h.pm hi;exact(F i (m+aC os i) ∅ ∅).mpr ⟨r i hi,λd=>fE.cn h r hi d⟩
theorem fE.ab6(h:os.Perm (θ m))(r:fE m c' os)(F:wI (2*m) (F2 m f f') c c'):fE m c os:=λi hi=>by
 have:=eU h hi;exact((F i _ ∅ ∅).mp (r i hi)).1
theorem fE.shr(h:os.Perm (θ m))(r:fE m c os):qu m c:=λd=>by
 rw[<-ud h λj=>decide (c (m+j)=d)]
 refine QB λj hj=>?_
 rw[r j (dg.mp hj)]
def wK(n:Nat)(F:Nat->Nat->Bool)(c:Nat->Nat):Prop:=∀u v,u<n->v<n->c u=c v->∀d,g7 n F c u d=g7 n F c v d
theorem abp{F:Nat->Nat->Bool}(h:wI n F c c')(hs:∀u v,u<n->v<n->c u=c v->c' u=c' v):wK n F c':=λu v hu hv e d=>by
 by_cases q:∃w,w<n/\c' w=d
 ·obtain⟨w,hw,rfl⟩:=q;have key:∀x,g7 n F c' x (c' w)=g7 n F c x (c w):=λx=>QB λy hy=>by
   have hy:=dg.mp hy;have:_↔(c y=c w):=⟨λz=>((h y w hy hw).mp z).1,hs y w hy hw⟩
   simp[this]
  rw[key,key,((h u v hu hv).mp e).2]
 ·have z:∀x,g7 n F c' x d=0:=λx=>Ae λy hy=>by
   have:¬c' y=d:=λe=>q ⟨y,dg.mp hy,e⟩
   simp[this]
  rw[z,z]
def twinO(m:Nat)(f:Nat->Nat->Bool)(p q:Nat):Prop:=∀x,x<m->x≠p->x≠q->f p x=f q x
structure fD (f:Nat->Nat->Bool):Prop where
 ir:∀i,f i i=Δ
 sy:∀i j,f i j=f j i
theorem twinO.trans(hw:fD f)(hp:p<m)(hq:q<m)(hr:r<m)(h1:twinO m f p q)(h2:twinO m f p r):twinO m f q r:=λx hx Mb Ma=>by
 by_cases e:x=p
 ·subst e
  by_cases e2:q=r
  ·rw[e2]
  ·-- f q x and f r x,x=p: by Hj twins p,q seen from r,and p,r seen from q
   have a:=h1 r hr (λz=>Ma z.symm) (λz=>e2 z.symm)
   have b:=h2 q hq (λz=>Mb z.symm) e2
   rw[hw.sy q x,hw.sy r x,b,a,hw.sy q r]
 ·rw[<-h1 x hx e Mb,h2 x hx e Ma]
def gy(os:List Nat)(d e:Nat):List Nat:=(os.set d (aC os e)).set e (aC os d)
theorem kZ(os:List Nat)(d e:Nat):(gy os d e).length=os.length:=by simp[gy]
theorem l9(hd:d<os.length)(he:e<os.length):aC (gy os d e) i=if i=e then aC os d else if i=d then aC os e else aC os i:=by
 unfold gy aC;rw[I8,T8]
 by_cases h1:e=i
 ·subst h1;simp[he]
 ·rw[if_neg h1,if_neg (λz=>h1 z.symm),T8]
  by_cases h2:d=i
  ·subst h2;simp[hd]
  ·rw[if_neg h2,if_neg (λz=>h2 z.symm),I8]
theorem ahq(h:os.Perm (θ m))(hd:d<m)(he:e<m):(gy os d e).Perm (θ m):=by
 have hl:=fY h;refine xZ ?_ (by rw[kZ,hl]) λx hx=>?_
 ·rw[Qp,Qw];intro i j hi hj hij hne;rw[kZ]at hi hj;have e1:aC (gy os d e) i=aC (gy os d e) j:=by
   simpa[aC,I8,kZ,hi,hj]using hne
  rw[l9 ∅ ∅,l9 ∅ ∅]at e1
  have inj:=fun{x y:Nat}(hx:x<m) (hy:y<m) z=>j6 h hx hy z
  split at e1<;>split at e1<;>(try split at e1)<;>(try split at e1)<;>have:=inj ∅ ∅ e1<;>omega
 ·obtain⟨i,hi,rfl⟩:=QF hx;rw[kZ]at hi;have:(gy os d e)[i]'(by rw[kZ];exact hi)=aC (gy os d e) i:=by simp[aC,I8,kZ,hi]
  rw[this,l9 ∅ ∅]
  split
  ·exact eU h hd
  ·split
   ·exact eU h he
   ·exact eU h ∅
end
theorem Ad{α:Type}{p q:α->Bool}:∀{l:List α},(∀x∈l,p x=J->q x=J)->(∃x∈l,q x=J/\p x=Δ)->l.countP p<l.countP q
 |[],_,h=>by obtain⟨x,hx,_⟩:=h;simp at hx
 |a::l,hi,h=>by
  have hle:l.countP p<=l.countP q:=Ux λx hx=>hi x (by simp[hx])
  rw[Uw,Uw];obtain⟨x,hx,hq,hp⟩:=h
  rcases Bt.mp hx with rfl|hx
  ·simp only[hq,hp];simp;omega
  ·have:=Ad (λy hy=>hi y (by simp[hy])) ⟨x,hx,hq,hp⟩
   cases e:p a<;>cases e2:q a<;>simp_all<;>omega
theorem N6{α:Type}{p q:α->Bool}{l:List α}(hi:∀x∈l,p x=J->q x=J)(h:l.countP q<=l.countP p):∀x∈l,q x=J->p x=J:=λx hx hq=>Q5 λhp=>by
 have:=Ad hi ⟨x,hx,hq,by simpa using hp⟩
 omega
def gW(c:Nat->Nat)(i:Nat):Bool:=decide (∀j,j<i->c j≠c i)
def eE(n:Nat)(c:Nat->Nat):Nat:=(θ n).countP (gW c)
theorem i7{c:Nat->Nat}:gW c i=J↔∀j,j<i->c j≠c i:=by simp[gW]
theorem Ef{c:Nat->Nat}:∀(u:Nat),∃w,w<=u/\c w=c u/\gW c w=J:=by
 intro u
 induction u using Nat.strongRecOn with
 |_ u ih =>
  by_cases h:∃j,j<u/\c j=c u
  ·obtain⟨j,hj,e⟩:=h;obtain⟨w,h1,h2,h3⟩:=ih j hj;exact⟨w,∅,by rw[h2,e],h3⟩
  ·exact⟨u,∅,rfl,i7.mpr λj hj e=>h ⟨j,hj,e⟩⟩
theorem LP{c:Nat->Nat}(hu:gW c u=J)(hv:gW c v=J)(e:c u=c v):u=v:=by
 rcases R8 u v with h|h|h
 ·exact absurd e (i7.mp hv u h)
 ·exact h
 ·exact absurd e.symm (i7.mp hu v h)
def AX(n:Nat)(c c':Nat->Nat):Prop:=∀u v,u<n->v<n->c' u=c' v->c u=c v
theorem WH{c c':Nat->Nat}(h:AX n c c'):eE n c<=eE n c' :=
 Ux λi hi q=>i7.mpr λj hj e=>i7.mp q j hj (h j i (by have:=dg.mp hi;omega) (dg.mp hi) e)
theorem WG{c c':Nat->Nat}(h:AX n c c')(hle:eE n c'<=eE n c):∀u v,u<n->v<n->c u=c v->c' u=c' v:=λu v hu hv e=>by
 have key:=N6 (l:=θ n) (λi hi q=>i7.mpr λj hj e=>i7.mp q j hj (h j i (by have:=dg.mp hi;omega) (dg.mp hi) e)) hle
 obtain⟨u',a1,a2,a3⟩:=Ef u;obtain⟨v',b1,b2,b3⟩:=Ef v;have y1:=h u' u ∅ hu a2
 have y2:=h v' v ∅ hv b2
 have:u'=v':=LP (key u' (dg.mpr ∅) a3) (key v' (dg.mpr ∅) b3) (by rw[y1,y2,e])
 rw[<-a2,<-b2,this]
theorem Kz(n:Nat)(c:Nat->Nat):eE n c<=n:=by
 have:=List.countP_le_length (p:=gW c) (l:=θ n)
 simpa[eE]using this
def c8(c:Nat->Nat)(z one other:Nat):Nat->Nat:=λi=>if i=one\/i=other then z else c i
theorem WI{c:Nat->Nat}{one other:Nat}(hz:∀i,i<m->c i≠z)(h1:one<m)(h2:m<=other)(hq:q<m)(hne:q≠one)(e:c q=c one):eE m c<eE m (c8 c z one other):=by
 have ni:∀i,i<m->i≠one->c8 c z one other i=c i:=λi hi hn=>by
  unfold c8;rw[if_neg ∅]
 have at2:c8 c z one other one=z:=by unfold c8;simp
 have inc:∀i∈θ m,gW c i=J->gW (c8 c z one other) i=J:=λi hi h=>i7.mpr λj hj e'=>by
  have hi:=dg.mp hi
  by_cases e1:i=one
  ·subst e1;rw[at2,ni j ∅ ∅]at e'
   exact hz j ∅ e'
  ·rw[ni i hi e1]at e'
   by_cases e2:j=one
   ·subst e2;rw[at2]at e';exact hz i hi e'.symm
   ·rw[ni j ∅ e2]at e'
    exact i7.mp h j hj e'
 refine Ad inc ?_
 by_cases hf:gW c one=J
 ·-- Hj second of Hj ae0
  obtain⟨w,a1,a2,a3⟩:=Ef (c:=λi=>c8 c z one other (if i<m then i else q)) q
  simp only[hq,if_true]at a2;have hw:w<m:=∅
  simp only[hw,if_true]at a2;rw[ni q hq hne]at a2;have hw1:w≠one:=λx=>by
   subst x;rw[at2]at a2;exact hz q hq a2.symm
  rw[ni w hw hw1]at a2;refine⟨w,dg.mpr hw,i7.mpr λj hj e'=>?_,?_⟩
  ·have:=i7.mp a3 j hj;simp only[hw,show j<m by omega,if_true]at this
   exact this e'
  ·cases hx:gW c w with
   |false=>rfl
   |true=>exact absurd (LP hx hf (by rw[a2,e])) hw1
 ·refine⟨one,dg.mpr h1,i7.mpr λj hj e'=>?_,by simpa using hf⟩
  rw[at2,ni j ∅ ∅]at e'
  exact hz j ∅ e'
section
variable {m:Nat}{f f':Nat->Nat->Bool}{c c':Nat->Nat}{os:List Nat}
theorem YL(hw:fD f)(i8:fD f')(pm:os.Perm (θ m))(r:fE m c os)(he:wK (2*m) (F2 m f f') c)(ht:∀p q,p<m->q<m->c p=c q->twinO m f p q):eS m f f' os:=⟨pm,λi j hi hj=>by
 by_cases Ez:i=j
 ·subst Ez;rw[hw.ir,i8.ir]
 have DJ:=eU pm hi;have Mp:=eU pm hj;have hc:=he i (m+aC os i) ∅ ∅ (r i hi) (c j)
 rw[N8 hi,N7]at hc;have same:∀x,x<m->x≠i->c x=c j->f i x=f i j:=λx hx hxi ex=>by
  by_cases exj:x=j
  ·rw[exj]
  ·rw[hw.sy i x,hw.sy i j];exact ht x j hx hj ex i hi (λz=>hxi z.symm) Ez
 cases e:f i j with
 |false =>
  have z:((θ m).countP λx=>f i x&&decide (c x=c j))=0:=Ae λx hx=>by
   have hx:=dg.mp hx
   by_cases ex:c x=c j
   ·by_cases sC:x=i
    ·subst sC;simp[hw.ir]
    ·simp[same x hx sC ex,e]
   ·simp[ex]
  rw[z]at hc;have:=Uy.mp hc.symm (aC os j) (dg.mpr Mp);rw[<-r j hj]at this;simp at this;exact this.symm
 |true =>
  have z:((θ m).countP λx=>f i x&&decide (c x=c j))=(θ m).countP λx=>decide (x≠i)&&decide (c x=c j):=QB λx hx=>by
   have hx:=dg.mp hx
   by_cases ex:c x=c j
   ·by_cases sC:x=i
    ·subst sC;simp[hw.ir]
    ·simp[same x hx sC ex,e,sC]
   ·simp[ex]
  have z2:((θ m).countP λx=>decide (x≠i)&&decide (c x=c j))=(θ m).countP λy=>decide (y≠aC os i)&&decide (c (m+y)=c j):=by
   rw[<-ud pm λy=>decide (y≠aC os i)&&decide (c (m+y)=c j)]
   refine QB λx hx=>?_
   have hx:=dg.mp hx;have:aC os x=aC os i↔x=i:=⟨λz=>j6 pm hx hi z,λz=>by rw[z]⟩
   rw[r x hx];simp[this]
  rw[z,z2]at hc;have key:=N6 (l:=θ m) (p:=λy=>f' (aC os i) y&&decide (c (m+y)=c j)) (q:=λy=>decide (y≠aC os i)&&decide (c (m+y)=c j)) (λy hy h=>by
   simp at h ⊢;refine⟨λz=>?_,h.2⟩
   rw[z,i8.ir]at h;cases h.1) ∅ (aC os j) (dg.mpr Mp) (by
    have:¬aC os j=aC os i:=λz=>Ez (j6 pm hj hi z).symm
    simp[this,<-r j hj])
  simp at key;exact key.1.symm⟩
theorem YK(hw:fD f)(i8:fD f')(h:eS m f f' os)(hd:d<m)(he:e<m)(t:twinO m f d e):eS m f f' (gy os d e):=by
 have hl:=fY h.pm
 by_cases ZO:d=e
 ·subst ZO;have:gy os d d=os:=by
   refine Q4 (by rw[kZ]) λi h1 h2=>?_
   have q:=l9 (os:=os) (d:=d) (e:=d) (i:=i) ∅ ∅
   have z1:(gy os d d)[i]=aC (gy os d d) i:=by simp[aC,I8,h1]
   have z2:os[i]=aC os i:=by simp[aC,I8,h2]
   rw[z1,z2,q];split
   ·rename_i x;rw[x]
   ·rfl
  rw[this];exact h
 refine⟨ahq h.pm hd he,λi j hi hj=>?_⟩
 have ch:∀i,aC (gy os d e) i=aC os (if i=e then d else if i=d then e else i):=λi=>by
  rw[l9 ∅ ∅]
  split
  ·rfl
  ·split<;>rfl
 have lt:∀i,i<m->(if i=e then d else if i=d then e else i)<m:=λi hi=>by split;exact hd;split;exact he;exact hi
 rw[ch i,ch j,<-h.eq _ _ (lt i hi) (lt j hj)];have tt:∀x,x<m->x≠d->x≠e->f d x=f e x:=t
 by_cases i1:i=e
 ·subst i1
  by_cases j1:j=i
  ·subst j1;simp[hw.ir]
  ·by_cases j2:j=d
   ·subst j2;simp[j1,hw.sy]
   ·simp[j1,j2];exact(tt j hj j2 j1).symm
 ·by_cases i2:i=d
  ·subst i2
   by_cases j1:j=e
   ·subst j1;simp[i1,hw.sy]
   ·by_cases j2:j=i
    ·subst j2;simp[i1,hw.ir]
    ·simp[i1,j1,j2];exact tt j hj j2 j1
  ·by_cases j1:j=e
   ·subst j1;simp[i1,i2];rw[hw.sy i j,hw.sy i d];exact(tt i hi i2 i1).symm
   ·by_cases j2:j=d
    ·subst j2;simp[i1,i2,j1];rw[hw.sy i j,hw.sy i e];exact tt i hi i2 i1
    ·simp[i1,i2,j1,j2]
theorem ain(hl:os.length=m)(r:fE m c os)(hd:d<m)(he:e<m)(hc:c d=c e):fE m c (gy os d e):=λi hi=>by
 rw[l9 ∅ ∅]
 split
 ·rename_i x;subst x;rw[<-hc];exact r d hd
 ·split
  ·rename_i x;subst x;rw[hc];exact r e he
  ·exact r i hi
theorem Ll{l k:List Nat}(hl:l.length=k.length)(h:jn l k=J):∃d,d<l.length/\(∀i,i<d->aC l i=aC k i)/\aC l d<aC k d:=by
 obtain⟨d,h1,h2,h3⟩:=Ln hl (λz=>by rw[z,Lm]at h;cases h)
 refine⟨d,h1,h2,?_⟩
 rcases Qk (aC l d) (aC k d)with q|q
 ·exact q
 ·have:=Lo (C7 hl.symm ∅ (λi hi=>(h2 i hi).symm) (show aC k d<aC l d by omega))
  rw[this]at h;cases h
def g9(m:Nat)(f f':Nat->Nat->Bool)(c:Nat->Nat)(os:List Nat):Prop:=eS m f f' os/\fE m c os
theorem g9.len(h:g9 m f f' c os):os.length=m:=fY h.1.pm
structure jx (m:Nat) (c:Nat->Nat) (k:Nat) (os:List Nat):Prop where
 len:os.length=k
 lt:∀i,i<k->aC os i<m
 un:∀i j,i<j->j<k->aC os i≠aC os j
 rs:∀i,i<k->c i=c (m+aC os i)
 mn:∀i o,i<k->o<m->c (m+o)=c i->(∀j,j<i->aC os j≠o)->aC os i<=o
theorem jx.perm(h:jx m c m os):os.Perm (θ m):=by
 have hl:=h.len;have g:∀i (hi:i<os.length),os[i]=aC os i:=λi hi=>by simp[aC,I8,hi]
 refine xZ ?_ hl λx hx=>?_
 ·rw[Qp,Qw];intro i j hi hj hij;rw[g i hi,g j hj];exact h.un i j hij ∅
 ·obtain⟨i,hi,rfl⟩:=QF hx;rw[g i hi];exact h.lt i ∅
theorem jx.first(hw:fD f)(i8:fD f')(h:jx m c m os)(he:wK (2*m) (F2 m f f') c)(ht:∀p q,p<m->q<m->c p=c q->twinO m f p q):ny m (g9 m f f' c) os :=
 ⟨⟨YL hw i8 h.perm h.rs he ht,h.rs⟩,λts hts tl=>by
  cases e:jn ts os with
  |false=>rfl
  |true =>
   obtain⟨d,h1,h2,h3⟩:=Ll (by rw[tl,h.len]) e
   have hd:d<m:=∅
   have:=h.mn d (aC ts d) hd (eU hts.1.pm hd) (hts.2 d hd).symm λj hj z=>by
    rw[<-h2 j hj]at z;have:=j6 hts.1.pm ∅ hd z
    omega
   omega⟩
theorem D6{l:List Nat}(h:i<l.length):aC (l++k) i=aC l i:=by
 simp[aC,I8,Pn h]
theorem D7{l:List Nat}(h:i=l.length):aC (l++[a]) i=a:=by
 subst h;simp[aC,I8]
theorem jx.more(h:jx m c k os)(ha:a<m)(hc:c (m+a)=c k)(hn:∀j,j<k->aC os j≠a)(hm:∀o,o<m->c (m+o)=c k->(∀j,j<k->aC os j≠o)->a<=o):jx m c (k+1) (os++[a]):=by
 have lo:∀i,i<k->aC (os++[a]) i=aC os i:=λi hi=>D6 (by rw[h.len];exact hi)
 have hi:aC (os++[a]) k=a:=D7 h.len.symm;refine⟨by simp[h.len],λi q=>?_,λi j hij q=>?_,λi q=>?_,λi o q ho hco hno=>?_⟩
 ·by_cases e:i=k
  ·rw[e,hi];exact ha
  ·rw[lo i ∅];exact h.lt i ∅
 ·rw[lo i ∅]
  by_cases e:j=k
  ·rw[e,hi];exact hn i ∅
  ·rw[lo j ∅];exact h.un i j hij ∅
 ·by_cases e:i=k
  ·rw[e,hi,hc]
  ·rw[lo i ∅];exact h.rs i ∅
 ·by_cases e:i=k
  ·subst e;rw[hi];exact hm o ho hco λj hj=>by rw[<-lo j hj];exact hno j hj
  ·rw[lo i ∅]
   exact h.mn i o ∅ ho hco λj hj=>by rw[<-lo j ∅];exact hno j hj
theorem jx.ex(h:jx m c k os)(hs:qu m c)(hk:k<m):∃o,o<m/\c (m+o)=c k/\∀j,j<k->aC os j≠o:=Q5 λhno=>by
 have hall:∀o,o<m->c (m+o)=c k->∃j,j<k/\aC os j=o:=λo ho hc=>Q5 λq=>hno ⟨o,ho,hc,λj hj z=>q ⟨j,hj,z⟩⟩
 have A:((θ m).filter λo=>decide (c (m+o)=c k)).length<=(((θ k).filter λj=>decide (c j=c k)).map (aC os)).length:=by
  refine CM _ _ (Tj _ QY) λo ho=>?_
  simp at ho;obtain⟨j,hj,e⟩:=hall o ho.1 ho.2;refine K1.mpr ⟨j,?_,e⟩;simp[hj];rw[h.rs j hj,e,ho.2]
 rw[O2,<-SV,<-SV,<-hs (c k)]at A;have B:((θ k).countP λj=>decide (c j=c k))<(θ m).countP λj=>decide (c j=c k):=by
  have e:θ m=θ k++(θ (m-k)).map (k + ·):=by
   rw[show m=k+(m-k) by omega,RY]
   simp
  rw[e,S7];have:0<((θ (m-k)).map (k + ·)).countP λj=>decide (c j=c k):=by
   rw[List.countP_pos_iff];exact⟨k,K1.mpr ⟨0,dg.mpr ∅,by simp⟩,by simp⟩
  omega
 omega
theorem E7{one:Nat}(hz:∀i,i<2*m->c i≠z)(h1:one<m)(hb:b<m)(pm:os.Perm (θ m))(hc:c (m+b)=c one):fE m (c8 c z one (m+b)) os↔fE m c os/\aC os one=b:=by
 constructor
 ·intro r;have key:aC os one=b:=by
   have:=r one h1;unfold c8 at this;rw[if_pos (Or.inl rfl)]at this
   by_cases q:m+aC os one=m+b
   ·omega
   ·rw[if_neg ∅]at this
    have hl:=eU pm h1;exact absurd this.symm (hz _ ∅)
  refine⟨λi hi=>?_,key⟩
  by_cases e:i=one
  ·rw[e,key,hc]
  ·have:=r i hi;unfold c8 at this;rw[if_neg ∅,if_neg ?_]at this
   ·exact this
   ·rintro (q|q)
    ·omega
    ·exact e (j6 pm hi h1 ∅)
 ·rintro ⟨r,key⟩ i hi
  unfold c8
  by_cases e:i=one
  ·rw[if_pos (Or.inl e),e,key,if_pos (Or.inr rfl)]
  ·rw[if_neg ∅,if_neg ?_]
   ·exact r i hi
   ·rintro (q|q)
    ·omega
    ·exact e (j6 pm hi h1 ∅)
theorem ahl(hw:fD f)(i8:fD f'){one:Nat}(h1:one<m)(hb:b<m)(hcl:∀p q,p<one->q<m->c q=c p->twinO m f p q)(hop:∃q,q<m/\c q=c one/\¬twinO m f one q)(hno:∀ts,g9 m f f' c ts->¬aC ts one<b)(h:ny m (λts=>g9 m f f' c ts/\aC ts one=b) os):ny m (g9 m f f' c) os:=⟨h.1.1,λts hts tl=>by
 cases e:jn ts os with
 |false=>rfl
 |true =>
  exfalso;have hl:=h.1.1.len;obtain⟨d,q1,q2,q3⟩:=Ll (by rw[tl,hl]) e
  have hd:d<m:=∅
  rcases R8 d one with hlt|heq|hgt
  ·obtain⟨i,hi,ei⟩:=ajy h.1.1.1.pm (eU hts.1.pm hd);have hdi:d<i:=by
    rcases R8 i d with x|x|x
    ·rw[<-q2 i x]at ei;have:=j6 hts.1.pm hi hd ei;omega
    ·subst x;omega
    ·exact x
   have DT:c i=c d:=by rw[h.1.1.2 i hi,ei,<-hts.2 d hd]
   have tw:=hcl d i hlt hi DT;have hne:i≠one:=λx=>by
    subst x;obtain⟨q,a1,a2,a3⟩:=hop;exact a3 (twinO.trans hw hd hi a1 tw (hcl d q hlt a1 (by rw[a2,DT])))
   have sw:g9 m f f' c (gy os d i):=⟨YK hw i8 h.1.1.1 hd hi tw,ain hl h.1.1.2 hd hi DT.symm⟩;have ni:aC (gy os d i) one=b:=by
    rw[l9 ∅ ∅,if_neg (λz=>hne z.symm),if_neg ∅]
    exact h.1.2
   have:=C7 (l:=gy os d i) (k:=os) (d:=d) (kZ _ _ _) (by rw[kZ];omega) (λj hj=>by rw[l9 ∅ ∅,if_neg ∅,if_neg ∅]) (by
    rw[l9 ∅ ∅,if_neg ∅,if_pos rfl,ei]
    exact q3)
   rw[h.2 _ ⟨sw,ni⟩ (by rw[kZ,hl])]at this
   cases this
  ·subst heq;rw[h.1.2]at q3;exact hno ts hts q3
  ·have:=h.2 ts ⟨hts,by rw[q2 one hgt];exact h.1.2⟩ tl
   rw[this]at e;cases e⟩
structure sN (m:Nat) (f f':Nat->Nat->Bool) (k:Nat) (is:List Nat):Prop where
 len:is.length=k
 lt:∀i,i<k->aC is i<m
 un:∀i j,i<j->j<k->aC is i≠aC is j
 eq:∀i j,i<j->j<k->f j i=f' (aC is j) (aC is i)
def l6(m:Nat)(f f':Nat->Nat->Bool)(k:Nat)(is os:List Nat):Prop:=eS m f f' os/\∀i,i<k->aC os i=aC is i
theorem sN.iso(hw:fD f)(i8:fD f'){is:List Nat}(h:sN m f f' m is):eS m f f' is:=by
 have hl:=h.len;have g:∀i (hi:i<is.length),is[i]=aC is i:=λi hi=>by simp[aC,I8,hi]
 refine⟨xZ ?_ hl λx hx=>?_,λi j hi hj=>?_⟩
 ·rw[Qp,Qw];intro i j hi hj hij;rw[g i hi,g j hj];exact h.un i j hij ∅
 ·obtain⟨i,hi,rfl⟩:=QF hx;rw[g i hi];exact h.lt i ∅
 ·rcases R8 i j with x|x|x
  ·rw[hw.sy,i8.sy];exact h.eq i j x hj
  ·subst x;rw[hw.ir,i8.ir]
  ·exact h.eq j i x hi
theorem uV{l k:List Nat}(hl:l.length=k.length)(h:∀i,i<l.length->aC l i=aC k i):l=k:=by
 refine Q4 hl λi h1 h2=>?_
 have:=h i h1
 simpa[aC,I8,h1,h2]using this
structure adh (m:Nat) (f f':Nat->Nat->Bool) (k:Nat) (is:List Nat) (a:Nat):Prop where
 un:∀i,i<k->aC is i≠a
 ae9:(θ m).countP (f k)=(θ m).countP (f' a)
 eq:∀i,i<k->f' a (aC is i)=f k i
theorem l6.good{is:List Nat}(hk:k<m)(h:l6 m f f' k is os):adh m f f' k is (aC os k) :=
 ⟨λi hi e=>by
  rw[<-h.2 i hi]at e;have:=j6 h.1.pm ∅ hk e
  omega,by
  rw[<-ud h.1.pm (f' (aC os k))];exact QB λj hj=>by rw[h.1.eq k j hk (dg.mp hj)],λi hi=>by
  rw[<-h.2 i hi,<-h.1.eq k i hk ∅]⟩
theorem l6.more{is:List Nat}(hl:is.length=k):l6 m f f' (k+1) (is++[a]) os↔l6 m f f' k is os/\aC os k=a:=by
 have lo:∀i,i<k->aC (is++[a]) i=aC is i:=λi hi=>D6 (by rw[hl];exact hi)
 have hi:aC (is++[a]) k=a:=D7 hl.symm
 constructor
 ·rintro ⟨h1,h2⟩
  exact⟨⟨h1,λi q=>by rw[<-lo i q];exact h2 i ∅⟩,by rw[<-hi];exact h2 k ∅⟩
 ·rintro ⟨⟨h1,h2⟩,h3⟩
  refine⟨h1,λi q=>?_⟩
  by_cases e:i=k
  ·rw[e,hi,h3]
  ·rw[lo i ∅];exact h2 i ∅
end
def aL(n:Nat)(c:Nat->Nat):D:=.lst (nD ((θ n).map c))
theorem CT(l:List Nat):nD l=(l.map λn:Nat=>(n:Int)).map D.int:=by simp[nD]
theorem yQ(l:List Nat):iw (nD l)=U (l.map λn:Nat=>(n:Int)):=by rw[CT,yR]
theorem EI(n:Nat)(c:Nat->Nat):noRef (aL n c)=J:=by
 unfold aL noRef;exact mE _
theorem lV(c:Nat->Nat)(h:u<n)(cc:aa):aG (aL n c) ↥u cc=.ok (.int (c u:Nat)) cc:=by
 unfold aL;rw[iE,kP (v:=.int (c u:Nat)) (by grind)]
theorem N4(n:Nat)(c:Nat->Nat)(cc:aa):aT [aL n c] cc=.ok (.int (n:Nat)) cc:=by
 unfold aL
 simp_all
theorem YS(l m:List Int):PyData.eqvAll (l.map PyData.int) (m.map PyData.int)=decide (l=m) :=
 Ep (λa b=>by rfl) l m
theorem NP:∀l:List Int,eN (l.map D.int)=U (l.map PyData.int)
 |[]=>rfl
 |n::ns=>by
  show(match eF _,eN _ with|some a,U r=>U (a::r)|_,_=>O)=_
  rw[NP ns];rfl
theorem NH(l:List Int):(PyData.list (l.map PyData.int)).depth<=2:=by
 have:∀l:List Int,PyData.depthAll (l.map PyData.int)<=1:=λl=>by
  induction l with
  |nil=>simp[PyData.depthAll]
  |cons a l ih=>simp[PyData.depthAll,PyData.depth];omega
 have:=this l;simp[PyData.depth];omega
theorem Ny(l m:List Int)(cc:aa):kL (.lst (l.map D.int)) (.lst (m.map D.int)) cc=.ok (.bl (decide (l=m))) cc:=by
 have h1:∀l:List Int,fC cc (.lst (l.map D.int))=U (.list (l.map PyData.int)):=λl=>by
  show(match eN (l.map D.int)with|some r=>U (PyData.list r)|none=>O)=_
  rw[NP]
 unfold kL;rw[h1 l,h1 m];have a:=NH l;have b:=NH m;dsimp only;rw[if_pos ⟨∅,∅⟩,PyData.eqv,YS]
theorem up_eq:i6 l=i6 m↔l.Perm m :=
 ⟨λe=>(pW l).symm.trans ((VO e).trans (pW m)),λh=>BF ((pW l).trans (h.trans (pW m).symm)) (yO _) (yO _)⟩
theorem Ac(l:List Nat)(d:Nat):(l.map λn:Nat=>(n:Int)).count (d:Int)=l.count d:=by
 rw[List.count,List.count,Qm];refine QB λx _=>?_
 simp;omega
theorem NV{l:List Nat}(h:a<0):(l.map λn:Nat=>(n:Int)).count a=0:=by
 rw[List.count_eq_zero];intro q;obtain⟨x,_,e⟩:=K1.mp q;omega
theorem JA{l m:List Nat}:((l.map λn:Nat=>(n:Int)).Perm (m.map λn:Nat=>(n:Int)))↔∀d:Nat,l.count d=m.count d:=by
 rw[List.perm_iff_count]
 constructor
 ·intro h d;have:=h (d:Int)
  rwa[Ac,Ac]at this
 ·intro h a
  rcases Int.lt_or_le a 0 with q|q
  ·rw[NV q,NV q]
  ·obtain⟨d,rfl⟩:=Int.eq_ofNat_of_zero_le q;rw[Ac,Ac,h]
theorem ab2(n:Nat)(c:Nat->Nat)(d:Nat):((θ n).map c).count d=(θ n).countP λi=>decide (c i=d):=by
 rw[List.count,Qm];refine QB λx _=>?_
 simp
theorem nU{α:Type}(g F:α->D)(l:List α)(h:∀x∈l,a (U (g x)::E) c=.ok (F x) c):bR (λ_=>True) (aA 0) aY a (l.map g) (O::E) [] c=.ok (l.map F) c :=
 NW (st:=λ_=>True) trivial g F l O [] (λ_ _=>rfl) h
theorem WZ(r:List Nat)(m:Nat)(hr:r.length<1000)(cc:aa):uN [.tup (nD r),.int (m:Int)] cc=.ok (.tup (nD (r.map (m + ·)))) cc:=by
 have hs:=cN (n:=1000) ⋯
 refine gi (eY (d8 (iQ (items:=nD r) (l:=nD (r.map (m + ·))) rfl (by simp[nD];omega) ?_) rfl)) (by unfold noRef;exact mE _) (by simp)
 have h:=nU (E:=[U ↥m]) (a:=av aZ (ak 1) (ak 0)) (c:=cc) (λn:Nat=>D.int (n:Int)) (λn:Nat=>D.int ((m+n:Nat):Int)) r (λx _=>by simp)
 have e:fj [O,U 1] (bW 2 [.tup (nD r),.int (m:Int)])=[O,U ↥m]:=rfl;rw[e];have e2:(r.map λn:Nat=>D.int (n:Int))=nD r:=rfl
 rw[e2]at h;rw[h];simp[nD,RN]
theorem CK(f f':Nat->Nat->Bool)(hi:i<m):cg (2*m) (F2 m f f') i=cg m f i:=by
 unfold cg;have e:θ (2*m)=θ m++(θ m).map (m + ·):=by rw[show 2*m=m+m by omega,RY]
 have a:(θ m).filter (λk=>F2 m f f' i k)=(θ m).filter λk=>f i k:=RZ λk hk=>by
  unfold F2;rw[if_pos hi];simp[dg.mp hk]
 have b:((θ m).map (m + ·)).filter (λk=>F2 m f f' i k)=[]:=by
  rw[Tf];intro k hk;obtain⟨j,_,rfl⟩:=K1.mp hk;unfold F2;rw[if_pos hi];simp;omega
 grind
theorem WA(f f':Nat->Nat->Bool)(i:Nat):cg (2*m) (F2 m f f') (m+i)=(cg m f' i).map (m + ·):=by
 unfold cg;have e:θ (2*m)=θ m++(θ m).map (m + ·):=by rw[show 2*m=m+m by omega,RY]
 have hi:¬m+i<m:=∅
 rw[e,V5,VA];have a:(θ m).filter (λk=>F2 m f f' (m+i) k)=[]:=by
  rw[Tf];intro k hk;have:=dg.mp hk;unfold F2;rw[if_neg hi];simp;omega
 have b:(θ m).filter ((λk=>F2 m f f' (m+i) k) ∘ (m + ·))=(θ m).filter λk=>f' i k:=RZ λk hk=>by
  simp only[Function.comp];unfold F2;rw[if_neg hi];simp
 rw[a,b,Pe]
theorem agQ(m:Nat)(f f':Nat->Nat->Bool):wF (2*m) (F2 m f f')=wF m f++(wF m f').map λr=>r.map (m + ·):=by
 unfold wF;have e:θ (2*m)=θ m++(θ m).map (m + ·):=by rw[show 2*m=m+m by omega,RY]
 rw[e,QO,PV,PV]
 congr 1
 ·exact Pk λi hi=>CK f f' (dg.mp hi)
 ·exact Pk λi _=>WA f f' i
theorem CJ(m:Nat)(f:Nat->Nat->Bool)(i:Nat):(cg m f i).length<=m:=by
 have:=RM (λk=>f i k) (θ m)
 simpa[cg]using this
theorem agP(f f':Nat->Nat->Bool)(hm:m<60)(cc:aa):uL [aP (wF m f),aP (wF m f')] cc=.ok (aP (wF (2*m) (F2 m f f'))) cc:=by
 have hs:=cN (n:=1000) ⋯
 have h:=nU (E:=[U (aP (wF m f))]) (a:=aD 2 uN (ao (ak 0) (ao (aK aT ⇑1) aq))) (c:=cc) (λr:List Nat=>D.tup (nD r)) (λr:List Nat=>D.tup (nD _)) (wF m f') (λr hr=>by
  obtain⟨i,_,rfl⟩:=K1.mp hr;have:=CJ m f' i;refine fU rfl (d8 rfl (mP _ _)) ?_;rw[jd];exact WZ _ _ ∅ cc)
 have e2:((wF m f').map λr:List Nat=>D.tup (nD r)).length<Ω:=by rw[O2,jd];omega
 have hd:av Ag (ak 0) (aK fc (ao (aX (g6 (ak 1)) [O,U 0] (aA 0) aY (aD 2 uN (ao (ak 0) (ao (aK aT ⇑1) aq)))) aq)) [U (aP (wF m f)),U (aP (wF m f'))] cc=.ok (aP (wF (2*m) (F2 m f f'))) cc:=by
  refine bw (x:=aP (wF m f)) (y:=.tup ((wF m f').map λr:List Nat=>D.tup (nD _))) rfl (d8 (iQ (items:=(wF m f').map λr:List Nat=>D.tup (nD r)) (l:=(wF m f').map λr:List Nat=>D.tup (nD (r.map (m + ·)))) rfl e2 ?_) rfl) ?_
  ·have e:fj [O,U 0] [U (aP (wF m f)),U (aP (wF m f'))]=[O,U (aP (wF m f))]:=rfl;rw[e,h]
  ·show(if _ then _ else _)=_
   rw[if_pos (by simp[jd];omega),agQ]
   unfold aP;rw[QO,PV];rfl
 exact gi (eY hd) (xm _) (by unfold aP;simp)
def oh(n:Nat)(F:Nat->Nat->Bool)(c:Nat->Nat)(u:Nat):Lk:=((c u:Int),i6 (((cg n F u).map c).map λn:Nat=>(n:Int)))
theorem Bp(F:Nat->Nat->Bool)(h:i<n)(cc:aa):aG (aP (wF n F)) ↥i cc=.ok (.tup (nD (cg n F i))) cc :=
 rW (by simp[wF,h]) cc
theorem WC{F:Nat->Nat->Bool}(h:v∈cg n F i):v<n:=dg.mp (Pw.mp h).1
theorem Xr(k:Lk):noRef (gm k)=J:=by
 have:bD (k.2.map D.int)=J:=gS.mpr λd hd=>by obtain⟨i,_,rfl⟩:=K1.mp hd;rfl
 unfold gm
 simp_all
theorem Xo(F:Nat->Nat->Bool)(c:Nat->Nat)(hn:n<60)(hu:u<n)(cc:aa):uO [aP (wF n F),aL n c,.int (u:Int)] cc=.ok (gm (oh n F c u)) cc:=by
 have hs:=cN (n:=1000) ⋯
 have hl:=CJ n F u;have h:=nU (E:=[U (aL n c)]) (a:=av aG (ak 1) (ak 0)) (c:=cc) (λv:Nat=>D.int (v:Int)) (λv:Nat=>D.int ((c v:Nat):Int)) (cg n F u) (λv hv=>bw rfl rfl (lV c (WC hv) cc))
 have e2:((cg n F u).map λv:Nat=>D.int (v:Int))=nD (cg n F u):=rfl
 rw[e2]at h;refine gi (eY (xu (bw rfl rfl (lV c hu cc)) (d8 (d8 (iQ (items:=nD (cg n F u)) (l:=nD ((cg n F u).map c)) ?_ (by simp[nD];omega) ?_) (v:=.lst ((i6 (((cg n F u).map c).map λn:Nat=>(n:Int))).map D.int)) ?_) rfl))) ?_ (by unfold gm;simp)
 ·unfold g6;rw[bw (x:=aP (wF n F)) (y:=.int (u:Int)) rfl rfl (Bp F hu cc)];rfl
 ·have e:fj [O,U 1] (bW 3 [aP (wF n F),aL n c,.int (u:Int)])=[O,U (aL n c)]:=rfl;rw[e,h];simp[nD,RN]
 ·unfold nK eV;dsimp only;rw[yQ];dsimp only;rw[if_pos (by simp;omega)]
 ·exact Xr _
theorem Xp{F:Nat->Nat->Bool}{c:Nat->Nat}:oh n F c u=oh n F c v↔c u=c v/\∀d,g7 n F c u d=g7 n F c v d:=by
 have key:∀w d,((cg n F w).map c).count d=g7 n F c w d:=λw d=>by
  unfold cg g7;rw[List.count,Qm,List.countP_filter];refine QB λx _=>?_
  simp[and_comm]
 unfold oh;rw[U6,up_eq,JA];simp only[key]
 constructor
 ·rintro ⟨a,b⟩;exact⟨∅,b⟩
 ·rintro ⟨a,b⟩;exact⟨∅,b⟩
def jm(n:Nat)(F:Nat->Nat->Bool)(c:Nat->Nat):List Lk:=(θ n).map (oh n F c)
def gr(n:Nat)(F:Nat->Nat->Bool)(c:Nat->Nat):Nat->Nat:=λu=>(ff (jm n F c)).idxOf (oh n F c u)
theorem C6{F:Nat->Nat->Bool}{c:Nat->Nat}(h:u<n):oh n F c u∈ff (jm n F c):=uI.mpr (K1.mpr ⟨u,dg.mpr h,rfl⟩)
theorem zp(n:Nat)(F:Nat->Nat->Bool)(c:Nat->Nat):wI n F c (gr n F c):=λu v hu hv=>by
 rw[<-Xp]
 constructor
 ·intro e;have h1:=RO.mpr (C6 (F:=F) (c:=c) hu);have h2:=RO.mpr (C6 (F:=F) (c:=c) hv);have a:=SX h1;have b:=SX h2;rw[<-a,<-b]
  congr 1
 ·intro e;unfold gr;rw[e]
theorem Nf:∀(xs ns:List Lk),(xs.foldl fF ns).length<=ns.length+xs.length
 |[],ns=>by simp
 |x::xs,ns=>by
  have:=Nf xs (fF ns x);have h2:(fF ns x).length<=ns.length+1:=by
   unfold fF
   grind
  grind
theorem ahi(l:List Lk):(ff l).Nodup:=(tG l).imp fun{a b} h e=>by subst e;rw[pK]at h;cases h
theorem YF{ks:List Lk}(hn:ks.Nodup)(hk:k∈ks)(cc:aa):pT (.gb (gC ks)) (gm k) cc=.ok (.int (ks.idxOf k:Nat)) cc:=by
 have hl:=RO.mpr hk;have hf:(gC ks).find? (λkv=>decide (kv.1=k))=U (k,((ks.idxOf k:Nat):Int)):=by
  rw[VW];refine⟨by simp,ks.idxOf k,by rw[Lx];exact hl,?_,λj hj=>?_⟩
  ·unfold gC;rw[V3,SX hl]
  ·unfold gC
   grind
 unfold pT;rw[Lg];dsimp only;rw[hf];dsimp only;rw[if_pos (by rw[uX];exact hn)]
theorem Nj(F:Nat->Nat->Bool)(c:Nat->Nat)(hn:n<60)(cc:aa):pJ [aP (wF n F),aL n c] cc=.ok (aL n (gr n F c)) cc:=by
 have hs:=cN (n:=1000) ⋯
 have h1:=nU (E:=[U (aP (wF n F)),U (aL n c)]) (a:=aD 3 uO (ao (ak 1) (2⊂0))) (c:=cc) _ _ (θ n) (λv hv=>ql rfl rfl rfl (Xo F c hn (dg.mp hv) cc))
 have e1:((θ n).map λv:Nat=>D.int (v:Int))=aR 0 (n:Int):=(nM n).symm
 have e3:((θ n).map λv:Nat=>gm (oh n F c v))=(jm n F c).map gm:=by unfold jm;rw[PV];rfl
 rw[e1,e3]at h1;have s1:aE 2 (aX (bu (ao (aK aT ⇑0) aq)) [O,U 0,U 1] (aA 0) aY (aD 3 uO (ao (ak 1) (2⊂0)))) (bW 6 [aP (wF n F),aL n c]) cc=.ok (.nx [U (aP (wF n F)),U (aL n c),U (.lst ((jm n F c).map gm)),O,O,O]) cc:=by
  refine dj (iQ (jG (d8 rfl (by rw[mP,jd])) ∅) (tV ∅) h1)
 have s2:t7 [U (aP (wF n F)),U (aL n c),U (.lst ((jm n F c).map gm)),O,O,O] cc=.ok (.nx [U (aP (wF n F)),U (aL n c),U (.lst ((jm n F c).map gm)),U (.gb (gC (ff (jm n F c)))),O,O]) cc:=by
  unfold t7;simp only[List.getElem?_cons_succ,List.getElem?_cons_zero];rw[Lc];dsimp only;rw[if_pos ⟨by have:=Nf (jm n F c) [];unfold dI;simp[jm]at this ⊢;omega,rfl⟩]
  rfl
 have h2:=nU (E:=[U _]) (a:=av pT (ak 1) (ak 0)) (c:=cc) _ (λv:Nat=>D.int (gr n F c v:Nat)) (θ n) (λv hv=>bw rfl rfl (YF (ahi _) (C6 (dg.mp hv)) cc))
 rw[e3]at h2;have s3:aS (aX (dF (ak 2)) [O,U 3] (aA 0) aY (av pT (ak 1) (ak 0))) [U (aP (wF n F)),U (aL n c),U (.lst ((jm n F c).map gm)),U (.gb (gC (ff (jm n F c)))),O,O] cc=.ok (.rt (aL n (gr n F c))) cc:=by
  refine eY ?_;unfold aL;refine iQ (xN rfl) (by simp[jm];omega) (h2.trans ?_)
  simp[nD,RN]
 refine gi ?_ (EI _ _) (by unfold aL;simp)
 unfold AI;rw[ic,s1];simp only[R.aH]
 simp_all
def mO(m:Nat)(c:Nat->Nat):List Int:=((θ m).map c).map λn:Nat=>(n:Int)
def nO(m:Nat)(c:Nat->Nat):List Int:=((θ m).map λi=>c (m+i)).map λn:Nat=>(n:Int)
def jF(m:Nat)(c:Nat->Nat):Bool:=decide (i6 (mO m c)=i6 (nO m c))
theorem BI{c:Nat->Nat}:jF m c=J↔qu m c:=by
 unfold jF mO nO qu;rw[decide_eq_true_eq,up_eq,JA];simp only[ab2]
theorem two_rng(m:Nat)(c:Nat->Nat):nD ((θ (2*m)).map c)=(mO m c).map D.int++(nO m c).map D.int:=by
 have e:θ (2*m)=θ m++(θ m).map (m + ·):=by rw[show 2*m=m+m by omega,RY]
 rw[e];simp[mO,nO,RN]
theorem rU(m:Nat)(c:Nat->Nat):(mO m c).length=m:=by simp[mO]
theorem xU(m:Nat)(c:Nat->Nat):(nO m c).length=m:=by simp[nO]
theorem zb{m:Nat}(h:d e cc=.ok (.int ((2*m:Nat):Int)) cc):av dX d (dC (.int 2)) e cc=.ok ↥m cc:=by
 refine bw h rfl ?_;rw[GC];simp
theorem HP{l:List Int}(h:l.length<64)(cc:aa):nK [.lst (l.map D.int)] cc=.ok (.lst ((i6 l).map D.int)) cc:=by
 unfold nK eV;dsimp only;rw[yR]
 grind
theorem ag7(c:Nat->Nat)(hm:m<30)(cc:aa):lG [aL (2*m) c] cc=.ok (.bl (jF m c)) cc:=by
 have s1:aE 1 (av dX (aK aT ⇑0) (dC _)) (bW 2 [aL (2*m) c]) cc=.ok _ cc :=
  dj (zb (d8 rfl (N4 _ _ _)))
 have c1:cutD (nD ((θ (2*m)).map c)) O (U (m:Int))=(mO m c).map D.int:=by
  unfold cutD;rw[two_rng];simp only[HT.BV,HT.BW,Pf,O2,rU,xU];rw[show min m _-0=((mO m c).map D.int).length by simp[rU],List.drop_zero,Tn]
 have c2:cutD (nD ((θ (2*m)).map c)) (U m) O=(nO m c).map D.int:=by
  unfold cutD;rw[two_rng];simp only[HT.BV,HT.BW,Pf,O2,rU,xU];rw[show min m _=((mO m c).map D.int).length by simp[rU],List.drop_left]
  exact RQ (by simp[rU,xU])
 refine gi ?_ rfl (by simp)
 unfold AL;rw[ic,s1];simp only[R.aH];refine eY (bw (d8 ?_ (HP (by rw[rU];omega) cc)) (d8 (x:=.lst ((nO m c).map D.int)) ?_ (HP (by rw[xU];omega) cc)) (Ny _ _ cc))
 ·rw[<-c1];rfl
 ·rw[<-c2];rfl
theorem abB(n:Nat)(c:Nat->Nat):mZ (((θ n).map c).map λn:Nat=>(n:Int))=eE n c:=by
 have key:∀k,k<=n->(PyProof.Rows.firstMet (λi=>(((θ n).map c).map λn:Nat=>(n:Int)).getD i 0) k).length=(θ k).countP (gW c):=by
  intro k
  induction k with
  |zero=>intro _;rfl
  |succ k ih =>
   intro hk;have ih:=ih ∅
   have val:∀j,j<n->(((θ n).map c).map λn:Nat=>(n:Int)).getD j 0=(c j:Int):=λj hj=>by
    rw[I8];simp[hj]
   rw[PyProof.Rows.firstMet_succ,QC,S7,<-ih];unfold PyProof.Rows.step_dedup;rw[PyProof.Rows.firstMet_any];have e:(((θ k).map λi=>(((θ n).map c).map λn:Nat=>(n:Int)).getD i 0).any (· == (((θ n).map c).map λn:Nat=>(n:Int)).getD k 0)) = !gW c k:=by
    rw[QI,Qx]
    constructor
    ·rintro ⟨x,hx,e⟩
     obtain⟨j,hj,rfl⟩:=K1.mp hx;have hj:=dg.mp hj;rw[val j ∅,val k ∅]at e
     have e2:(c j:Int)=(c k:Int):=by simpa using e
     have e:c j=c k:=∅
     have:gW c k=Δ:=by
      cases q:gW c k with
      |false=>rfl
      |true=>exact absurd e (i7.mp q j hj)
     simp[this]
    ·intro q;have q:¬gW c k=J:=by simpa using q
     rw[i7]at q;have:∃j,j<k/\c j=c k:=Q5 λz=>q λj hj e=>z ⟨j,hj,e⟩
     obtain⟨j,hj,e⟩:=this;refine⟨_,K1.mpr ⟨j,dg.mpr hj,rfl⟩,?_⟩;rw[val j ∅,val k ∅,e]
     simp
   rw[e];cases q:gW c k<;>simp[q]
 have:=key n (AP n);unfold mZ eE;rw[<-this];simp
theorem Lp(c:Nat->Nat)(hn:n<60)(h:d e cc=.ok (aL n c) cc):lS (ao d aq) e cc=.ok (.int (eE n c:Nat)) cc:=by
 unfold lS;simp only[cY,h,cQ,R.aH];unfold aL eV;dsimp only;rw[yQ];dsimp only;rw[if_pos (by grind),abB]
section
variable {m:Nat}{f f':Nat->Nat->Bool}
theorem Ng{F:Nat->Nat->Bool}{c c':Nat->Nat}(h:wI n F c c'):AX n c c':=λu v hu hv e=>((h u v hu hv).mp e).1
structure Ref (m:Nat) (f f':Nat->Nat->Bool) (c c':Nat->Nat):Prop where
 xR:∀os,eS m f f' os->(fE m c os↔fE m c' os)
 fin:AX (2*m) c c'
theorem Ref.refl(c:Nat->Nat):Ref m f f' c c:=⟨λ_ _=>Iff.rfl,λ_ _ _ _ e=>e⟩
theorem Ref.trans{a b c:Nat->Nat}(h:Ref m f f' a b)(g:Ref m f f' b c):Ref m f f' a c :=
 ⟨λos i=>(h.xR os i).trans (g.xR os i),λu v hu hv e=>h.fin u v hu hv (g.fin u v hu hv e)⟩
theorem Ref.step(c:Nat->Nat):Ref m f f' c (gr (2*m) (F2 m f f') c) :=
 ⟨λos i=>⟨λr=>fE.aaW i r (zp _ _ _),λr=>fE.ab6 i.pm r (zp _ _ _)⟩,Ng (zp _ _ _)⟩
end
def zv:ai:=(kN (aI (aD 1 lG ⇑3)) (aI (av jR (lS ⇑3) (lS ⇑2))))
def zw:ah:=(aB (aE 2 (ak 3)) (aE 3 (aD 2 pJ (0⊂2))))
theorem xM(hn:n=2*m)(c:Nat->Nat)(hm:m<30)(cc:aa):lG [aL n c] cc=.ok (.bl (jF m c)) cc:=by subst hn;exact ag7 c hm cc
theorem Ni(hn:n=2*m)(c c':Nat->Nat)(hm:m<30)(a b:Option D)(cc:aa):zv [a,b,U (aL n c),U (aL n c')] cc=.ok (jF m c'&&decide (eE n c<eE n c')) cc:=by
 unfold zv;have h2:aI (av jR (lS ⇑3) (lS ⇑2)) [a,b,U (aL n c),U (aL n c')] cc=.ok (decide _) cc:=eO (bw (Lp c' ∅ rfl) (Lp c ∅ rfl) rfl)
 have h3:decide ((eE n c':Int)>(eE n c:Int))=decide (eE n c<eE n c'):=decide_eq_decide.mpr ∅
 rw[xj,(eO (gc rfl (xM hn c' hm cc)))];simp only[R.aH];rw[h2,h3];cases jF m c'<;>rfl
theorem aaR{W:D}(F:Nat->Nat->Bool)(hW:W=aP (wF n F))(c c':Nat->Nat)(hn:n<60)(b:Option D)(cc:aa):zw [U W,b,U (aL n c),U (aL n c')] cc=.ok (.nx [U W,b,U (aL n c'),U (aL n (gr n F c'))]) cc:=by
 unfold zw;rw[ic,(dj rfl)];exact(dj (fU rfl rfl (by rw[hW];exact Nj F c' hn cc)))
theorem aaP{W:D}{f f' F:Nat->Nat->Bool}(hW:W=aP (wF n F))(hn:n=2*m)(hF:F=F2 m f f')(hm:m<30)(b:Option D)(cc:aa):∀(k:Nat) (c:Nat->Nat),n<k+eE n c->∃c1,Ref m f f' c c1/\¬(jF m (gr n F c1)=J/\eE n c1<eE n (gr n F c1)) /\
  l7 zv zw k [U W,b,U (aL n c),U (aL n (gr n F c))] cc=.ok (.nx [U W,b,U (aL n c1),U (aL n (gr n F c1))]) cc:=by
 intro k
 induction k with
 |zero=>intro c h;have:=Kz n c;omega
 |succ k ih =>
  intro c h
  by_cases q:jF m (gr n F c)=J/\eE n c<eE n (gr n F c)
  ·obtain⟨c1,h1,h2,h3⟩:=ih (gr n F c) (by have:=q.2;omega)
   refine⟨c1,Ref.trans (by subst hn;subst hF;exact Ref.step c) h1,h2,?_⟩
   unfold l7;rw[Ni hn c _ hm];simp only[R.aH];rw[if_pos (by simp[q.1,q.2]),aaR F hW c _ ∅]
   simp only[R.aH];exact h3
  ·refine⟨c,Ref.refl c,q,?_⟩;unfold l7;rw[Ni hn c _ hm];simp only[R.aH];rw[if_neg];intro z;rw[PF,decide_eq_true_eq]at z;exact q z
theorem aaV{W:D}{f f' F:Nat->Nat->Bool}(hW:W=aP (wF n F))(hn:n=2*m)(hF:F=F2 m f f')(hm:m<18)(c:Nat->Nat)(cc:aa):∃c',Ref m f f' c c'/\(qu m c'->wK n F c')/\mK [W,aL n c] cc=.ok (aL n c') cc:=by
 obtain⟨c1,h1,h2,h3⟩:=aaP hW hn hF ∅ (U (aL n c)) cc 40 c ∅
 refine⟨gr n F c1,h1.trans (by subst hn;subst hF;exact Ref.step c1),λhs=>?_,?_⟩
 ·have hf:=zp n F c1;refine abp hf (WG (Ng hf) ?_)
  rcases Qk (eE n c1) (eE n (gr n F c1))with q|q
  ·exact absurd ⟨BI.mpr hs,q⟩ h2
  ·exact q
 ·have s1:aE 2 (ak 1) (bW 4 [W,aL n c]) cc=.ok (.nx [U W,U _,U (aL n c),O]) cc:=dj rfl;have s2:aE 3 (aD 2 pJ (0⊂2)) [U W,U (aL n c),U (aL n c),O] cc=.ok (.nx [U W,U (aL n c),U _,U (aL n (gr n F c))]) cc:=dj (fU rfl rfl (by rw[hW];exact Nj F c ∅ cc))
  have hb:AH=aB (aE 2 _) (aB (aE 3 (aD 2 pJ (ao _ (ao _ aq)))) (aB (l7 zv zw 40) (aS _))):=rfl;have s4:aS (ak 3) [U W,U (aL n c),U (aL n c1),U (aL n (gr n F c1))] cc=.ok (.rt (aL n (gr n F c1))) cc:=rfl;refine gi ?_ (EI _ _) (by unfold aL;simp)
  rw[hb,ic,s1];simp only[R.aH];rw[ic,s2];simp only[R.aH];rw[ic,h3];simp only[R.aH];exact s4
theorem KZ:∀(l:List Int) (a:Int),a<=gT a l/\∀x∈l,x<=gT a l
 |[],a=>⟨by simp[gT],by simp⟩
 |b::l,a=>by
  unfold gT;have h:=KZ l (if b>a then b else a)
  refine⟨?_,λx hx=>?_⟩
  ·have:=h.1;split at this<;>split<;>omega
  ·rcases Bt.mp hx with rfl|hx
   ·have:=h.1;split at this<;>split<;>omega
   ·exact h.2 x hx
theorem KY:∀(l:List Int) (a:Int),gT a l∈a::l
 |[],a=>by simp[gT]
 |b::l,a=>by
  unfold gT;have h:=KY l (if b>a then b else a)
  rcases Bt.mp h with e|h
  ·rw[e];split<;>simp
  ·simp[h]
theorem KS:∀(l:List Int) (a:Int),fZ a l<=a/\∀x∈l,fZ a l<=x
 |[],a=>⟨by simp[fZ],by simp⟩
 |b::l,a=>by
  unfold fZ;have h:=KS l (if b<a then b else a)
  refine⟨?_,λx hx=>?_⟩
  ·have:=h.1;split at this<;>split<;>omega
  ·rcases Bt.mp hx with rfl|hx
   ·have:=h.1;split at this<;>split<;>omega
   ·exact h.2 x hx
theorem KR:∀(l:List Int) (a:Int),fZ a l∈a::l
 |[],a=>by simp[fZ]
 |b::l,a=>by
  unfold fZ;have h:=KR l (if b<a then b else a)
  rcases Bt.mp h with e|h
  ·rw[e];split<;>simp
  ·simp[h]
theorem Xe(h:l≠[])(cc:aa):∃z:Nat,(∀x∈l,x<=z)/\uJ [.lst (nD l)] cc=.ok ↥z cc:=by
 cases l with
 |nil=>exact absurd rfl h
 |cons a l =>
  have hm:=KY (l.map λn:Nat=>(n:Int)) (a:Int)
  have hg:=KZ (l.map λn:Nat=>(n:Int)) (a:Int)
  have:∃z:Nat,gT (a:Int) (l.map λn:Nat=>(n:Int))=(z:Int):=by
   rcases Bt.mp hm with e|e
   ·exact⟨a,e⟩
   ·obtain⟨x,_,e⟩:=K1.mp e;exact⟨x,e.symm⟩
  obtain⟨z,hz⟩:=this;refine⟨z,λx hx=>?_,?_⟩
  ·rcases Bt.mp hx with rfl|hx
   ·have:=hg.1;omega
   ·have:=hg.2 x (K1.mpr ⟨x,hx,rfl⟩);omega
  ·show(match iw _ with|some (a::r)=>R.ok _ cc|_=>R.bad)=_
   rw[yQ];show R.ok _ cc=_;rw[hz]
theorem W9(h:l≠[])(cc:aa):∃z:Nat,z∈l/\(∀x∈l,z<=x)/\uH [.lst (nD l)] cc=.ok ↥z cc:=by
 cases l with
 |nil=>exact absurd rfl h
 |cons a l =>
  have hm:=KR (l.map λn:Nat=>(n:Int)) (a:Int)
  have hg:=KS (l.map λn:Nat=>(n:Int)) (a:Int)
  have:∃z:Nat,z∈a::l/\fZ (a:Int) (l.map λn:Nat=>(n:Int))=(z:Int):=by
   rcases Bt.mp hm with e|e
   ·exact⟨a,by simp,e⟩
   ·obtain⟨x,hx,e⟩:=K1.mp e;exact⟨x,by simp[hx],e.symm⟩
  obtain⟨z,hz1,hz⟩:=this;rw[hz]at hg;refine⟨z,hz1,λx hx=>?_,?_⟩
  ·rcases Bt.mp hx with rfl|hx
   ·have:=hg.1;omega
   ·have:=hg.2 (x:Int) (K1.mpr ⟨x,hx,rfl⟩);omega
  ·show(match iw (nD (a::l))with|some (a::r)=>R.ok (D.int (fZ a r)) cc|_=>R.bad)=_
   rw[yQ];show R.ok (D.int (fZ (a:Int) (l.map λn:Nat=>(n:Int)))) cc=_
   rw[hz]
theorem JI(g h F:Nat->D):∀(l:List Nat) (v w:Option D) (acc:List D),(∀i∈l,a (U (g i)::U (h i)::E) cc=.ok (F i) cc)->bR (λ_=>True) (fy 2 (b9 (aA 0) (b9 (aA 1) fB))) aY a (l.map λi=>.tup [g i,h i]) (v::w::E) acc cc=.ok (acc++l.map F) cc
 |[],v,w,acc,_=>by simp
 |i::l,v,w,acc,hh=>by
  have e1:fy 2 (b9 (aA 0) (b9 (aA 1) fB)) (.tup [g i,h i]) (v::w::E) cc=.ok (U (g i)::U (h i)::E) cc:=rfl;rw[O6,m9,e1,R.aH,qD,R.aH,if_pos rfl,hh i (by simp),R.aH,JI g h F l _ _ _ (λj hj=>hh j (by simp[hj])),QS]
  rfl
theorem OC(c:Nat->Nat)(h0:0<n)(hn:n<60)(cc:aa):∃z,(∀i,i<n->c i≠z)/\∀one other:Nat,ko [aL n c,.int (one:Int),.int (other:Int)] cc=.ok (aL n (c8 c z one other)) cc:=by
 have hs:=cN (n:=1000) ⋯
 obtain⟨z,hz,hm⟩:=Xe (l:=(θ n).map c) (by intro e;have:=congrArg List.length e;simp at this;omega) cc
 refine⟨z+1,λi hi e=>?_,λone other=>?_⟩
 ·have:=hz (c i) (K1.mpr ⟨i,dg.mpr hi,rfl⟩);omega
 have s1:aE 3 (av aZ (aK uJ ⇑0) (dC (.int 1))) (bW 4 [aL n c,.int (one:Int),.int (other:Int)]) cc=.ok (.nx [U (aL n c),U _,U _,U (.int ((z+1:Nat):Int))]) cc :=
  dj (bw (d8 (x:=aL n c) rfl hm) rfl (by rw[sZ];congr 2))
 have en:(nD ((θ n).map c)).mapIdx (λi x=>D.tup [.int i,x])=(θ n).map λi:Nat=>D.tup [.int (i:Int),.int (c i:Nat)]:=by
  refine Q4 (by simp[nD]) λi h1 h2=>?_
  simp[nD]
 have h:=JI (a:=sF (aI (av inD (ak 0) _)) (ak 2) (ak 1)) (cc:=cc) _ (λi=>D.int (c i:Nat)) (λi=>D.int (c8 c (z+1) one other i:Nat)) (θ n) O O [] (λi _=>by
  have hb:aI (av inD (ak 0) (bZ (3⊂4))) [U (D.int (i:Int)),U (D.int (c i:Nat)),U (.int ((z+1:Nat):Int)),U ↥one,U ↥other] cc=.ok (decide (i∈[one,other])) cc:=eO (bw rfl (xu rfl rfl) (YV [one,other] i cc));refine(YY hb (x:=.int ((z+1:Nat):Int)) (y:=.int (c i:Nat)) rfl rfl).trans ?_;unfold c8
  by_cases q:i=one\/i=other
  ·rw[if_pos (by simpa using q),if_pos q]
  ·rw[if_neg (by simpa using q),if_neg q])
 refine gi ?_ (EI _ _) (by unfold aL;simp)
 unfold Al;rw[ic,s1];refine eY ?_;unfold aL;refine iQ ?_ (by simp;omega) (h.trans ?_)
 ·unfold ED;rw[<-en];rfl
 ·simp[nD]
theorem acS{one other:Nat}(c:Nat->Nat)(h0:0<n)(hn:n<60)(cc:aa):∃z,(∀i,i<n->c i≠z)/\ko [aL n c,.int (one:Int),.int (other:Int)] cc=.ok (aL n (c8 c z one other)) cc:=by
 obtain⟨z,h1,h2⟩:=OC c h0 hn cc;exact⟨z,h1,h2 one other⟩
theorem aaY{p q:Nat->Bool}:(θ m).filter p=(θ m).filter q↔∀x,x<m->p x=q x:=by
 constructor
 ·intro h x hx;have a:x∈(θ m).filter p↔x∈(θ m).filter q:=by rw[h]
  simp[hx]at a
  first|exact a|(rw[QI];exact a)
 ·intro h;exact RZ λx hx=>h x (dg.mp hx)
def twB(m:Nat)(f:Nat->Nat->Bool)(a b:Nat):Bool:=decide ((cg m f a).filter (λx=>!decide (x=b))=(cg m f b).filter λx=>!decide (x=a))
theorem twB_iff{f:Nat->Nat->Bool}(hw:fD f):twB m f a b=J↔twinO m f a b:=by
 unfold twB cg twinO;rw[decide_eq_true_eq,Tg,Tg,aaY]
 constructor
 ·intro h x hx h1 h2;have:=h x hx
  simpa[h1,h2]using this
 ·intro h x hx
  by_cases h1:x=a
  ·subst h1;simp[hw.ir]
  ·by_cases h2:x=b
   ·subst h2;simp[hw.ir]
   ·simp[h1,h2,h x hx h1 h2]
theorem abn(l k:List Nat)(cc:aa):kL (.lst (nD l)) (.lst (nD k)) cc=.ok (.bl (decide (l=k))) cc:=by
 rw[CT,CT,Ny]
 congr 2
 exact decide_eq_decide.mpr ⟨λh=>(List.map_inj_right (λx y e=>∅) |>.mp h),λh=>by rw[h]⟩
theorem tw_filt{n a b:Nat}{F:Nat->Nat->Bool}{i:Nat}(hn:n<60)(h1:d e cc=.ok (.tup (nD (cg n F a))) cc)(hp:fj [O,U i] e=[O,U ↥b]):aX (g6 d) [O,U i] (aA 0) (aI (av fL (ak 0) (ak 1))) (ak 0) e cc=.ok (.lst (nD ((cg n F a).filter λx=>!decide (x=b)))) cc:=by
 have hs:=cN (n:=1000) ⋯
 have hl:=CJ n F a;refine iQ (by unfold g6;rw[h1];rfl) (by simp;omega) ?_
 rw[hp];have h:=kI (E:=[U ↥b]) (t:=aI (av fL (ak 0) (ak 1))) (a:=ak 0) (c:=cc) _ (λv:Nat=>D.int v) (λx=>!decide _) (cg n F a) O [] (λx _=>by
  have:(!decide (x=(b:Int))) = !decide (x=b):=by rw[decide_eq_decide.mpr (show _↔x=b by omega)]
  rw[<-this];exact eO (bw rfl rfl rfl)) (λx _ _=>rfl)
 exact h
theorem twins_ok{W:D}(F:Nat->Nat->Bool)(hW:W=aP (wF n F))(hn:n<60)(ha:a<n)(hb:b<n)(cc:aa):rP [W,.int (a:Int),.int (b:Int)] cc=.ok (.bl (twB n F a b)) cc:=by
 refine gi (eY (bw (x:=.lst (nD ((cg n F a).filter λx=>!decide (x=b)))) (y:=.lst (nD ((cg n F b).filter λx=>!decide (x=a)))) (tw_filt hn (bw (x:=W) (y:=.int (a:Int)) rfl rfl (by rw[hW];exact Bp F ha cc)) rfl) (tw_filt hn (bw (x:=W) (y:=.int (b:Int)) rfl rfl (by rw[hW];exact Bp F hb cc)) rfl) (abn _ _ cc))) rfl (by simp)
theorem zo{α:Type}{env:Option D->Ev}(vc:∀v x,(env v).set i (U x)=env (U x))(g:α->D)(P:α->Bool)(V:α->D):∀(l:List α) (v:Option D),(∀x∈l,P x=J->s (env (U (g x))) cc=.ok (.rt (V x)) cc)->(∀x∈l,P x=Δ->s (env (U (g x))) cc=.ok (.nx (env (U (g x)))) cc) ->
  (∀x,l.find? P=U x->bU (λ_=>True) (aA i) s (l.map g) (env v) cc=.ok (.rt (V x)) cc)/\(l.find? P=O->∃v',bU (λ_=>True) (aA i) s (l.map g) (env v) cc=.ok (.nx (env v')) cc)
 |[],v,_,_=>⟨λx h=>by simp at h,λ_=>⟨v,by simp⟩⟩
 |x::l,v,h1,h2=>by
  have e:aA i (g x) (env v) cc=.ok (env (U (g x))) cc:=by rw[GB,vc]
  rw[O6,iL,e,R.aH];cases hp:P x with
  |true =>
   rw[h1 x (by simp) hp,R.aH,Th hp]
   exact⟨λy hy=>by cases hy;rfl,λq=>by cases q⟩
  |false =>
   rw[h2 x (by simp) hp,R.aH,Ti (by simp[hp])]
   exact zo vc g P V l _ (λy hy=>h1 y (by simp[hy])) (λy hy=>h2 y (by simp[hy]))
def lX(m n:Nat)(F:Nat->Nat->Bool)(c:Nat->Nat)(p:Nat):Bool:=((θ m).filter λq=>decide (c q=c p)).all λq=>twB n F p q
def vo:ah:=(bC (gw (aI (aK oW (ao (aX (bu ⇑2) [O,U 0,U 3,U 1] (aA 0) (aI (av bH (av aG (ak 3) (ak 0)) (av aG (ak 3) (ak 2)))) (aD 3 rP (ao (ak 1) (2⊂0)))) aq)))) (aS (ak 3)) bQ)
theorem qd(x y:Nat)(cc:aa):bH ↥x ↥y cc=.ok (.bl (decide (x=y))) cc:=by
 rw[wY,decide_eq_decide.mpr (show((x:Int)=(y:Int))↔x=y by omega)]
theorem foT{W:D}(F:Nat->Nat->Bool)(hW:W=aP (wF n F))(hn:n=2*m)(hm:m<30)(c:Nat->Nat)(hp:p<m)(cc:aa):(gw (aI (aK oW (ao (aX (bu ⇑2) [O,U 0,U 3,U 1] (aA 0) (aI (av bH (av aG (ak 3) (ak 0)) (av aG (ak 3) (ak 2)))) (aD 3 rP (ao (ak 1) (2⊂0)))) aq)))) [U W,U (aL n c),U ↥m,U ↥p] cc=.ok (!lX m n F c p) cc:=by
 have h:=kI (E:=[U W,U _,U (aL n c)]) (t:=aI (av bH (av aG (ak 3) (ak 0)) (av aG (ak 3) (ak 2)))) (a:=aD 3 rP (ao (ak 1) (2⊂0))) (c:=cc) (λv:Nat=>D.int v) (λq:Nat=>D.bl (twB n F p q)) (λq=>decide (c q=c p)) (θ m) O [] (λq hq=>eO (bw (bw rfl rfl (lV c (by have:=dg.mp hq;omega) cc)) (bw rfl rfl (lV c ∅ cc)) (qd _ _ cc))) (λq hq _=>ql rfl rfl rfl (twins_ok F hW ∅ ∅ (by have:=dg.mp hq;omega) cc))
 have e1:((θ m).map λv:Nat=>D.int v)=aR 0 m:=(nM m).symm
 rw[e1,Pe]at h;refine rq (eO (d8 (iQ (jG rfl ∅) (tV ∅) h) ?_))
 have e2:((θ m).filter λq=>decide (c q=c p)).map (λq:Nat=>D.bl (twB n F p q))=(((θ m).filter λq=>decide (c q=c p)).map λq:Nat=>D.int q).map λd=>D.bl (match d with|.int i=>twB n F p i.toNat|_=>J):=by
  rw[PV];refine Pk λq _=>?_
  simp
 rw[e2,acV];unfold lX;rw[List.all_map];rfl
theorem Co{f f' F:Nat->Nat->Bool}(hn:n=2*m)(hF:F=F2 m f f')(hw:fD f)(c:Nat->Nat)(hp:p<m):lX m n F c p=J↔∀q,q<m->c q=c p->twinO m f p q:=by
 have tw:∀q,q<m->(twB n F p q=J↔twinO m f p q):=λq hq=>by
  rw[<-twB_iff hw];unfold twB;rw[hn,hF,CK f f' hp,CK f f' hq]
 unfold lX;rw[Ph]
 constructor
 ·intro h q hq e;exact(tw q hq).mp (h q (Pw.mpr ⟨dg.mpr hq,by simpa using e⟩))
 ·intro h q hq;have hq:=Pw.mp hq;have hq1:=dg.mp hq.1;exact(tw q hq1).mpr (h q hq1 (by simpa using hq.2))
theorem aiD{W:D}(F:Nat->Nat->Bool)(hW:W=aP (wF n F))(hn:n=2*m)(cc:aa):aE 2 (av dX (aK aT ⇑0) (dC (.int 2))) (bW 4 [W,C]) cc=.ok (.nx [U W,U C,U ↥m,O]) cc :=
 dj (zb (d8 rfl (by rw[hW,mP,jd,hn])))
def mC(W C M:D)(v:Option D):Ev:=[U W,U C,U M,v]
theorem JQ{W:D}(F:Nat->Nat->Bool)(hW:W=aP (wF n F))(hn:n=2*m)(hm:m<30)(c:Nat->Nat)(hC:C=aL n c)(hp:p<m)(cc:aa):vo (mC W C ↥m (U ↥p)) cc=.ok (if lX m n F c p=J then .nx (mC W C ↥m (U ↥p))else .rt ↥p) cc:=by
 subst hC;unfold vo mC;rw[sX,(foT F hW hn hm c hp cc)];cases lX m n F c p<;>rfl
theorem bP(h:s e c=.ok (.nx e') c')(h2:t e' c'=r):aB s t e c=r:=by
 rw[ic,h];exact h2
theorem nL(h:s e c=.ok (.rt v) c'):aB s t e c=.ok (.rt v) c':=by
 rw[ic,h];simp only[R.aH]
theorem JP{m:Nat}{W:D}(hm:m<30):bu ⇑2 (mC W C ↥m O) cc=.ok ⟨aR 0 (m:Int),λ_=>True⟩ cc:=jG rfl ∅
theorem aje{m:Nat}{W:D}(h1:aE 2 (av dX (aK aT ⇑0) (dC (.int 2))) (bW 4 [W,C]) cc=.ok (.nx (mC W C ↥m O)) cc)(hm:m<30)(h2:bU (λ_=>True) (aA 3) vo (aR 0 (m:Int)) (mC W C ↥m O) cc=.ok (.rt v) cc)(nr:noRef v=J)(nf:∀k,v≠.ref k):ku [W,C] cc=.ok v cc:=by
 refine gi ?_ nr nf;exact bP h1 (nL (lO (JP hm) h2))
theorem ajd{m:Nat}{W:D}(h1:aE 2 (av dX (aK aT ⇑0) (dC (.int 2))) (bW 4 [W,C]) cc=.ok (.nx (mC W C ↥m O)) cc)(hm:m<30)(h2:bU (λ_=>True) (aA 3) vo (aR 0 (m:Int)) (mC W C ↥m O) cc=.ok (.nx e) cc):ku [W,C] cc=.ok .aF cc:=by
 refine gi ?_ rfl (by simp)
 exact bP h1 (bP (lO (JP hm) h2) (eY rfl))
theorem ajf{W:D}{f f' F:Nat->Nat->Bool}(hW:W=aP (wF n F))(hn:n=2*m)(hF:F=F2 m f f')(hm:m<30)(hw:fD f)(c:Nat->Nat)(hC:C=aL n c)(cc:aa):
  (ku [W,C] cc=.ok .aF cc/\∀p q,p<m->q<m->c p=c q->twinO m f p q)\/(∃one,one<m/\ku [W,C] cc=.ok ↥one cc/\(∀p q,p<one->q<m->c q=c p->twinO m f p q)/\∃q,q<m/\c q=c one/\¬twinO m f one q):=by
 have hf:=zo (i:=3) (s:=vo) (cc:=cc) (env:=mC W C ↥m) (λv x=>rfl) (λv:Nat=>D.int (v:Int)) (λp=>!lX m n F c p) (λv:Nat=>D.int (v:Int)) (θ m) O (λp hp h=>by
  rw[JQ F hW hn hm c hC (dg.mp hp),if_neg (by simpa using h)]) (λp hp h=>by
  rw[JQ F hW hn hm c hC (dg.mp hp),if_pos (by simpa using h)])
 have e1:((θ m).map λv:Nat=>D.int (v:Int))=aR 0 (m:Int):=(nM m).symm
 rw[e1]at hf;have s1:=aiD (C:=C) F hW hn cc;cases q:(θ m).find? (λp=>!lX m n F c p)with
 |none =>
  left
  obtain⟨v',h2⟩:=hf.2 q;have hall:=SK.mp q;refine⟨ajd s1 hm h2,λp r hp hr e=>?_⟩
  have:=hall p (dg.mpr hp);simp at this;exact(Co hn hF hw c hp).mp this r hr e.symm
 |some one =>
  right
  have h2:=hf.1 one q;obtain⟨h3,⟨as,bs,h4,h5⟩⟩:=List.find?_eq_some_iff_append.mp q;have hone:one<m:=dg.mp (by rw[h4];simp)
  refine⟨one,hone,aje s1 hm h2 rfl (by simp),λp r hp hr e=>?_,?_⟩
  ·have p7:p∈as:=by
    have a1:as.length=one:=by
     have h6:(θ m)[as.length]? = U one:=by rw[h4];simp
     rw[SS (by
      have:=congrArg List.length h4;simp at this;omega)]at h6
     simpa using h6
    have h7:(θ m)[p]? = U p:=SS ∅
    rw[h4,Pn ∅]at h7
    exact P8 h7
   have:=h5 p p7;have this:lX m n F c p=J:=by simpa using this
   exact(Co hn hF hw c ∅).mp this r hr e
  ·have:¬lX m n F c one=J:=by simpa using h3
   rw[Co hn hF hw c hone]at this;exact Q5 λz=>this λr hr e=>Q5 λy=>z ⟨r,hr,e,y⟩
theorem Wb(h:cc[k]? = U (.lst (nD l)))(x:Nat):iH ↥x (.ref k) cc=.ok (.bl (!decide (x∈l))) cc:=by
 have h1:fC cc (.int x)=U _:=rfl;have h2:fC cc (.ref k)=U (.list (l.map λn:Nat=>PyData.int n)):=by
  unfold fC;simp only[h];rw[vM]
 unfold iH;rw[h1,h2];dsimp only;rw[if_pos (by simp[PyData.depth]),AM]
theorem KW:o∈l↔∃j,j<l.length/\aC l j=o:=by
 constructor
 ·intro h;obtain⟨i,hi,e⟩:=QF h;exact⟨i,hi,by simpa[aC,I8,hi]using e⟩
 ·rintro ⟨j,hj,rfl⟩
  have:aC l j=l[j]:=by simp[aC,I8,hj]
  rw[this];exact PX _
def yj:ah:=(aB (aE 4 (aX (bu ⇑1) [O,U 0,U 3,U 1] (aA 0) (aI (av bH (av aG (ak 1) (av aZ (ak 3) (ak 0))) (av aG (ak 1) (ak 2)))) (ak 0))) (fh (lT (ak 2) (aK uH (ao (aX (dF (ak 4)) [O,U 2] (aA 0) (aI (av iH (ak 0) (ak 1))) (ak 0)) aq)))))
theorem aku{os:List Nat}{c:Nat->Nat}(hn:n=2*m)(hm:m<30)(hp:p<m)(hs:qu m c)(ho:jx m c p os)(hk:cc[k]? = U (.lst (nD os))):
  ∃a w',jx m c (p+1) (os++[a])/\yj [U (aL n c),U ↥m,U (.ref k),U ↥p,w] cc=.ok (.nx [U (aL n c),U ↥m,U (.ref k),U ↥p,w']) (cc.set k (.lst (nD (os++[a])))):=by
 have hsl:=cN (n:=1000) ⋯
 have h:=kI (E:=[U (aL n c),U ↥p,U ↥m]) (t:=aI (av bH (av aG (ak 1) (av aZ (ak 3) (ak 0))) (av aG (ak 1) (ak 2)))) (a:=ak 0) (c:=cc) (λv:Nat=>D.int (v:Int)) (λv:Nat=>D.int (v:Int)) (λo=>decide (c (m+o)=c p)) (θ m) O [] (λq hq=>eO (bw (bw (y:=.int ((m+q:Nat):Int)) rfl (bw rfl rfl (by rw[sZ];congr 2)) (lV c (by have:=dg.mp hq;omega) cc)) (bw rfl rfl (lV c ∅ cc)) (qd _ _ cc))) (λ_ _ _=>rfl)
 have e1:((θ m).map λv:Nat=>D.int (v:Int))=aR 0 (m:Int):=(nM m).symm
 rw[e1,Pe]at h;have s1:aE 4 (aX (bu ⇑1) [O,U 0,U 3,U 1] (aA 0) _ (ak 0)) [U (aL n c),U ↥m,U (.ref k),U ↥p,w] cc=.ok _ cc :=
  dj (iQ (jG rfl ∅) (tV ∅) h)
 have h2:=kI (E:=[U (.ref k)]) (t:=aI (av iH (ak 0) (ak 1))) (a:=ak 0) (c:=cc) (λv:Nat=>D.int (v:Int)) (λv:Nat=>D.int (v:Int)) (λo=>!decide (o∈os)) ((θ m).filter λo=>decide (c (m+o)=c p)) O [] (λq hq=>eO (bw rfl rfl (Wb hk q))) (λ_ _ _=>rfl)
 rw[Pe]at h2;obtain⟨o,o1,o2,o3⟩:=ho.ex hs hp;have Cr:∀x,x∈((θ m).filter λo=>decide (c (m+o)=c p)).filter (λo=>!decide (o∈os))↔x<m/\c (m+x)=c p/\∀j,j<p->aC os j≠x:=λx=>by
  rw[Pw,Pw,dg];have:(!decide (x∈os))=J↔∀j,j<p->aC os j≠x:=by
   rw[Uv,decide_eq_false_iff_not,KW,ho.len];exact⟨λz j hj e=>z ⟨j,hj,e⟩,λz ⟨j,hj,e⟩=>z j hj e⟩
  rw[this,decide_eq_true_eq,and_assoc]
 obtain⟨a,a1,a2,a3⟩:=W9 (l:=((θ m).filter λo=>decide (c (m+o)=c p)).filter λo=>!decide (o∈os)) (λe=>by
  have:=(Cr o).mpr ⟨o1,o2,o3⟩;rw[e]at this;simp at this) cc
 have am:=(Cr a).mp a1;refine⟨a,U (.lst (nD ((θ m).filter λo=>decide (c (m+o)=c p)))),ho.more am.1 am.2.1 am.2.2 λx h1 h2 h3=>a2 x ((Cr x).mpr ⟨h1,h2,h3⟩),?_⟩
 unfold yj;refine bP s1 ?_;have hl:(((θ m).filter λo=>decide (c (m+o)=c p)).map λv:Nat=>D.int (v:Int)).length<Ω:=by
  have:=RM (λo=>decide (c (m+o)=c p)) (θ m)
  simp at this ⊢;omega
 have e3:nD (os++[a])=nD os++[.int (a:Int)]:=by simp[nD]
 rw[e3];refine EA (acR rfl (d8 (iQ (xN rfl) hl h2) a3) hk (by have:=ho.len;simp[nD];omega) rfl)
theorem acE{c:Nat->Nat}(hn:n=2*m)(hm:m<30)(hs:qu m c)(cc:aa):∃os,jx m c m os/\uM [aL n c] cc=.ok (.tup (nD os)) cc:=by
 have s1:aE 1 (av dX (aK aT ⇑0) (dC (.int 2))) (bW 5 [aL n c]) cc=.ok (.nx [U (aL n c),U ↥m,O,O,O]) cc :=
  dj (zb (d8 (x:=aL n c) rfl (by rw[N4,hn])))
 have s2:aE 2 (fN aq) [U (aL n c),U ↥m,O,O,O] cc=.ok (.nx [U (aL n c),U ↥m,U (.ref cc.length),O,O]) (cc++[.lst []]):=rfl;have hrl:(aR 0 (m:Int)).length=m:=by rw[fX];omega
 obtain⟨e',c3,⟨os,v,w,rfl,rfl,ho⟩,hf⟩:=oJ (g:=aA 3) (s:=yj) (λk e c'=>∃os v w,e=[U (aL n c),U ↥m,U (.ref cc.length),v,w]/\c'=cc++[.lst (nD os)]/\jx m c k os)
  (aR 0 (m:Int)) 0 [U (aL n c),U ↥m,U (.ref cc.length),O,O] (cc++[.lst []]) ⟨[],O,O,rfl,rfl,⟨rfl,λi h=>∅,λi j h1 h2=>∅,λi h=>∅,λi o h=>∅⟩⟩ (λi x hx e c' ⟨os,v,w,he,hc,ho⟩=>by
   subst he;subst hc;obtain⟨hi,hx⟩:=j5 hx;subst hx;have hi:i<m:=∅
   rw[O9]at ho ⊢;obtain⟨a,w',h1,h2⟩:=aku (w:=w) (cc:=cc++[.lst (nD os)]) (k:=cc.length) hn hm hi hs ho (by simp)
   have e0:((0:Int)+(i:Int))=(i:Int):=∅
   rw[e0];exact⟨_,_,_,_,rfl,h2,os++[a],U ↥i,w',rfl,by simp,h1⟩)
 rw[hrl,O9]at ho;refine⟨os,ho,?_⟩;have hb:Aq=aB (aE 1 (av dX (aK aT ⇑0) (dC (.int 2)))) (aB (aE 2 (fN aq)) (aB (bL (bu ⇑1) (aA 3) yj) (aS (aK fc ⇑2)))):=rfl;have hr:bu ⇑1 [U (aL n c),U ↥m,U (.ref cc.length),O,O] (cc++[.lst []])=.ok ⟨aR 0 (m:Int),λ_=>True⟩ (cc++[.lst []]):=jG rfl ∅
 have s4:aS (aK fc ⇑2) [U (aL n c),U ↥m,U (.ref cc.length),v,w] (cc++[.lst (nD os)])=.ok (.rt (.tup (nD os))) (cc++[.lst (nD os)]):=by
  refine eY (d8 rfl ?_);unfold fc fH;simp
 refine aaQ (d:=[.lst (nD os)]) ?_ (mE os);rw[hb];exact bP s1 (bP s2 (bP (lO hr hf) s4))
theorem aia(h:θ m=l1++b::l2):b<m/\∀a,a<b->a∈l1:=by
 have hb:b<m:=dg.mp (by rw[h];simp)
 refine⟨hb,λa ha=>?_⟩
 have a1:l1.length=b:=by
  have h6:(θ m)[l1.length]? = U b:=by rw[h];simp
  rw[SS (by have:=congrArg List.length h;simp at this;omega)]at h6
  simpa using h6
 have h7:(θ m)[a]? = U a:=SS ∅
 rw[h,Pn ∅]at h7
 exact P8 h7
theorem M7{α β:Type}{env:Option D->β->Ev}(vc:∀v w x,(env v w).set i (U x)=env (U x) w)(g:α->D)(N:α->Prop)(H:α->D->Prop):∀(l:List α) (v:Option D) (w:β),
  (∀b∈l,∀w,(∃w',s (env (U (g b)) w) cc=.ok (.nx (env (U (g b)) w')) cc/\N b)\/(∃x,s (env (U (g b)) w) cc=.ok (.rt x) cc/\H b x)) ->
  ((∀b∈l,N b)/\∃v' w',bU (λ_=>True) (aA i) s (l.map g) (env v w) cc=.ok (.nx (env v' w')) cc)\/(∃l1 b l2 x,l=l1++b::l2/\(∀a∈l1,N a)/\H b x/\bU (λ_=>True) (aA i) s (l.map g) (env v w) cc=.ok (.rt x) cc)
 |[],v,w,_=>.inl ⟨λb hb=>by simp at hb,v,w,by simp⟩
 |b::l,v,w,h=>by
  have e:aA i (g b) (env v w) cc=.ok (env (U (g b)) w) cc:=by rw[GB,vc]
  rw[O6,iL,e,R.aH]
  rcases h b (by simp) w with⟨w',h1,h2⟩|⟨x,h1,h2⟩
  ·rw[h1,R.aH]
   rcases M7 vc g N H l (U _) w' λa ha=>h a (by simp[ha])with⟨h3,v',w'',h4⟩|⟨l1,a,l2,x,h3,h4,h5,h6⟩
   ·exact .inl ⟨λa ha=>by
     rcases Bt.mp ha with rfl|ha
     ·exact h2
     ·exact h3 a ha,v',w'',h4⟩
   ·refine .inr ⟨b::l1,a,l2,x,by rw[h3];rfl,λy hy=>?_,h5,h6⟩
    rcases Bt.mp hy with rfl|hy
    ·exact h2
    ·exact h4 y hy
  ·rw[h1,R.aH];exact .inr ⟨[],b,l,x,rfl,λy hy=>by simp at hy,h2,rfl⟩
def jt(W C F η:D)(v w:Option D):Ev:=[U W,U C,U F,U η,v,w]
def vq(M:List D->aa->R D):ah:=(bC (aI (av bH (av aG (ak 2) (ak 4)) (av aG (ak 2) (ak 3)))) (aB (aE 5 (aD 2 M (ao (ak 0) (ao (aD 3 ko (ao (ak 2) (3⊂4))) aq)))) (bC (aI (av iJ (ak 5) (dC .aF))) (aS (ak 5)) bQ)) bQ)
theorem Ej(M:List D->aa->R D):nh M=aB (aE 2 (aD 2 mK (0⊂1))) (aB (bC (gw (aI (aD 1 lG ⇑2))) (aS (dC .aF)) bQ) (aB (aE 3 (aD 2 ku (0⊂2))) (aB (bC (aI (av mU (ak 3) (dC .aF))) (aS (aD 1 uM ⇑2)) bQ) (aB (bL (gv (ao (av dX (aK aT ⇑0) (dC (.int 2))) (ao (aK aT ⇑0) aq))) (aA 4) (vq M)) (aS (dC .aF)))))):=rfl
theorem lH(h:t e c=.ok J c')(h2:s e c'=r):bC t s u e c=r:=by
 rw[sX,h];simp only[R.aH];rw[if_pos trivial];exact h2
theorem gX(h:t e c=.ok Δ c')(h2:u e c'=r):bC t s u e c=r:=by
 rw[sX,h];simp only[R.aH];rw[if_neg ⋯];exact h2
theorem aaZ{M:List D->aa->R D}{W:D}{one:Nat}{c:Nat->Nat}(hF:Fc=aL n c)(h1:one<n)(ho:o<n)(hne:c o≠c one)(w:Option D)(cc:aa):vq M (jt W C Fc ↥one (U ↥o) w) cc=.ok (.nx (jt W C Fc ↥one (U ↥o) w)) cc:=by
 have ht:aI (av bH (av aG (ak 2) (ak 4)) (av aG (ak 2) (ak 3))) (jt W C Fc _ (U _) w) cc=.ok _ cc :=
  eO (bw (bw (x:=Fc) rfl rfl (by rw[hF];exact lV c ho cc)) (bw (x:=Fc) rfl rfl (by rw[hF];exact lV c h1 cc)) (qd _ _ cc))
 rw[decide_eq_false hne]at ht;exact gX ht rfl
theorem Nq{M:List D->aa->R D}{W:D}{one:Nat}{c:Nat->Nat}(hF:Fc=aL n c)(h1:one<n)(ho:o<n)(he:c o=c one)(w:Option D)(cc:aa)(ha:ko [Fc,.int (one:Int),.int (o:Int)] cc=.ok A cc)(hM:M [W,A] cc=.ok x cc):vq M (jt W C Fc ↥one (U ↥o) w) cc=.ok (if fM x=J then .nx (jt W C Fc ↥one (U ↥o) (U x))else .rt x) cc:=by
 have ht:aI (av bH (av aG (ak 2) (ak 4)) (av aG (ak 2) (ak 3))) (jt W C Fc ↥one (U ↥o) w) cc=.ok _ cc :=
  eO (bw (bw (x:=Fc) (y:=.int (o:Int)) rfl rfl (by rw[hF];exact lV c ho cc)) (bw (x:=Fc) rfl rfl (by rw[hF];exact lV c h1 cc)) (qd _ _ cc))
 rw[decide_eq_true he]at ht;have s1:aE 5 (aD 2 M (ao (ak 0) (ao (aD 3 ko (ao (ak 2) (3⊂4))) aq))) (jt W C Fc ↥one (U ↥o) w) cc=.ok _ cc :=
  dj (fU (x:=W) (y:=A) rfl (ql (x:=Fc) (z:=.int (o:Int)) rfl rfl rfl ha) hM)
 have s2:aI (av iJ (ak 5) (dC .aF)) (jt W C Fc ↥one (U ↥o) (U x)) cc=.ok (!fM x) cc:=eO (bw (x:=x) rfl rfl rfl);refine lH ht (bP s1 ?_);cases hx:fM x with
 |true =>
  rw[hx]at s2;exact gX s2 rfl
 |false =>
  rw[hx]at s2;exact lH s2 (eY rfl)
section
variable {n m:Nat}{W:D}{f f' F:Nat->Nat->Bool}
theorem aa0{M:List D->aa->R D}{c':Nat->Nat}(hn:n=2*m)(hm:m<18)(h1:mK [W,C] cc=.ok (aL n c') cc)(hs:jF m c'=Δ):bJ 6 Δ (nh M) [W,C] cc=.ok .aF cc:=by
 have s2:gw (aI (aD 1 lG ⇑2)) [U W,U C,U (aL n c'),O,O,O] cc=.ok (!false) cc:=rq (eO (gc (x:=aL n c') rfl (by rw[<-hs];exact xM hn c' ∅ cc)))
 refine gi ?_ rfl (by simp)
 rw[Ej];exact bP (dj (fU (x:=W) (y:=C) rfl rfl h1)) (nL (lH s2 (eY rfl)))
theorem aa1{M:List D->aa->R D}{c':Nat->Nat}{os:List Nat}(hn:n=2*m)(hm:m<18)(h1:mK [W,C] cc=.ok (aL n c') cc)(hs:jF m c'=J)(h2:ku [W,aL n c'] cc=.ok .aF cc)(h3:uM [aL n c'] cc=.ok (.tup (nD os)) cc):bJ 6 Δ (nh M) [W,C] cc=.ok (.tup (nD os)) cc:=by
 have s1:aE 2 (aD 2 mK (0⊂1)) (bW 6 [W,C]) cc=.ok (.nx [U W,U C,U (aL n c'),O,O,O]) cc:=dj (fU (x:=W) (y:=C) rfl rfl h1);have s2:gw (aI (aD 1 lG ⇑2)) [U W,U C,U (aL n c'),O,O,O] cc=.ok (!true) cc:=rq (eO (gc (x:=aL n c') rfl (by rw[<-hs];exact xM hn c' ∅ cc)))
 have s3:aE 3 (aD 2 ku (0⊂2)) [U W,U C,U (aL n c'),O,O,O] cc=.ok (.nx [U W,U C,U (aL n c'),U .aF,O,O]) cc:=dj (fU (x:=W) (y:=aL n c') rfl rfl h2);have s4:aI (av mU (ak 3) (dC .aF)) [U W,U C,U (aL n c'),U .aF,O,O] cc=.ok J cc:=eO (bw (x:=.aF) rfl rfl rfl);refine gi ?_ (by unfold noRef;exact mE os) (by simp)
 rw[Ej];exact bP s1 (bP (gX s2 rfl) (bP s3 (nL (lH s4 (eY (gc (x:=aL n c') rfl h3))))))
theorem Np{M:List D->aa->R D}{c':Nat->Nat}{one:Nat}(F:Nat->Nat->Bool)(hW:W=aP (wF n F))(hn:n=2*m)(hm:m<18)(h1:mK [W,C] cc=.ok (aL n c') cc)(hs:jF m c'=J)(h2:ku [W,aL n c'] cc=.ok ↥one cc)(h3:bU (λ_=>True) (aA 4) (vq M) ((θ m).map λb:Nat=>D.int ((m+b:Nat):Int)) (jt W C (aL n c') ↥one O O) cc=r)(hr:r=.ok (.rt x) cc\/(x=.aF/\∃e,r=.ok (.nx e) cc))(nr:noRef x=J)(nf:∀k,x≠.ref k):bJ 6 Δ (nh M) [W,C] cc=.ok x cc:=by
 have s1:aE 2 (aD 2 mK (0⊂1)) (bW 6 [W,C]) cc=.ok (.nx [U W,U C,U (aL n c'),O,O,O]) cc:=dj (fU (x:=W) (y:=C) rfl rfl h1);have s2:gw (aI (aD 1 lG ⇑2)) [U W,U C,U (aL n c'),O,O,O] cc=.ok (!true) cc:=rq (eO (gc (x:=aL n c') rfl (by rw[<-hs];exact xM hn c' ∅ cc)))
 have s3:aE 3 (aD 2 ku (0⊂2)) [U W,U C,U (aL n c'),O,O,O] cc=.ok (.nx (jt W C (aL n c') ↥one O O)) cc:=dj (fU (x:=W) (y:=aL n c') rfl rfl h2);have s4:aI (av mU (ak 3) (dC .aF)) (jt W C (aL n c') ↥one O O) cc=.ok Δ cc:=eO (bw (x:=.int (one:Int)) rfl rfl rfl);have hl:∀e:Ev,e[0]? = U (U W)->aK aT ⇑0 e cc=.ok (.int ((2*m:Nat):Int)) cc:=λe he=>d8 (x:=W) (by rw[cX,he]) (by rw[hW,mP,jd,hn])
 have er:aR (m:Int) ((2*m:Nat):Int)=(θ m).map λb:Nat=>D.int ((m+b:Nat):Int):=by
  unfold aR;rw[show(((2*m:Nat):Int)-(m:Int)).toNat=m by omega]
  exact Pk λb _=>by congr 1
 have s5:gv (ao (av dX (aK aT ⇑0) (dC (.int 2))) (ao (aK aT ⇑0) aq)) (jt W C (aL n c') ↥one O O) cc=.ok ⟨(θ m).map λb:Nat=>D.int ((m+b:Nat):Int),λ_=>True⟩ cc:=by
  rw[<-er];exact Jd (zb (hl _ rfl)) (hl _ rfl) ∅ ∅
 refine gi ?_ nr nf;rw[Ej];refine bP s1 (bP (gX s2 rfl) (bP s3 (bP (gX s4 rfl) ?_)))
 rcases hr with e|⟨e1,e,e2⟩
 ·exact nL (lO s5 (h3.trans e))
 ·rw[e1];exact bP (lO s5 (h3.trans e2)) (eY rfl)
theorem aaU(hW:W=aP (wF n F))(hn:n=2*m)(hF:F=F2 m f f')(h0:0<m)(hm:m<18)(hw:fD f)(i8:fD f')(cc:aa):∀(k:Nat) (c:Nat->Nat),m+1<=k+eE m c ->
  (iu k [W,aL n c] cc=.ok .aF cc/\∀os,¬g9 m f f' c os)\/(∃os,iu k [W,aL n c] cc=.ok (.tup (nD os)) cc/\ny m (g9 m f f' c) os):=by
 intro k
 induction k with
 |zero=>intro c h;have:=Kz m c;omega
 |succ k ih =>
  intro c h;show(bJ 6 Δ (nh (iu k)) [W,aL n c] cc=.ok .aF cc/\_)\/(∃os,bJ 6 Δ (nh (iu k)) [W,aL n c] cc=.ok (.tup (nD os)) cc/\_);obtain⟨c',ref,eqt,se⟩:=aaV hW hn hF hm c cc;have yY:∀os,g9 m f f' c' os↔g9 m f f' c os:=λos=>⟨λx=>⟨x.1,(ref.xR os x.1).mpr x.2⟩,λx=>⟨x.1,(ref.xR os x.1).mp x.2⟩⟩
  cases hs:jF m c' with
  |false =>
   refine .inl ⟨aa0 hn hm se hs,λos ho=>?_⟩
   have:=BI.mpr (fE.shr ho.1.pm ((yY os).mpr ho).2);rw[hs]at this;cases this
  |true =>
   have hsh:=BI.mp hs;have hq:wK (2*m) (F2 m f f') c':=by rw[<-hn,<-hF];exact eqt hsh
   rcases ajf hW hn hF ∅ hw c' rfl cc with⟨ho,ht⟩|⟨one,h1,ho,hcl,hop⟩
   ·obtain⟨os,hob,ZS⟩:=acE hn ∅ hsh cc
    exact .inr ⟨os,aa1 hn hm se hs ho ZS,(hob.first hw i8 hq ht).congr yY⟩
   ·have agw:=M7 (i:=4) (s:=vq (iu k)) (cc:=cc) (env:=jt W (aL n c) (aL n c') ↥one) (λv w x=>rfl) (λb:Nat=>D.int ((m+b:Nat):Int)) (λb=>∀ts,g9 m f f' c' ts->aC ts one≠b) (λb x=>∃os,x=.tup (nD os)/\ny m (λts=>g9 m f f' c' ts/\aC ts one=b) os) (θ m) O O (λb hb w=>by
     have hb:=dg.mp hb
     by_cases he:c' (m+b)=c' one
     ·obtain⟨z,hz,ha⟩:=acS (one:=one) (other:=m+b) c' (show 0<n by omega) ∅ cc
      have hz':∀i,i<2*m->c' i≠z:=λi hi=>hz i ∅
      have hap:∀ts,g9 m f f' (c8 c' z one (m+b)) ts↔g9 m f f' c' ts/\aC ts one=b:=λts=>⟨λx=>by
        have:=(E7 hz' h1 hb x.1.pm he).mp x.2;exact⟨⟨x.1,this.1⟩,this.2⟩,λx=>⟨x.1.1,(E7 hz' h1 hb x.1.1.pm he).mpr ⟨x.1.2,x.2⟩⟩⟩
      obtain⟨q,q1,q2,q3⟩:=hop;have hqn:q≠one:=λe=>q3 (by subst e;exact λx _ _ _=>rfl)
      have n1:=WI (z:=z) (other:=m+b) (λi hi=>hz i ∅) h1 ∅ q1 hqn q2
      have n2:eE m c<=eE m c':=WH λu v hu hv e=>ref.fin u v ∅ ∅ e
      rcases ih (c8 c' z one (m+b)) ∅with⟨r1,r2⟩|⟨os,r1,r2⟩
      ·refine .inl ⟨U .aF,?_,λts ht e=>r2 ts ((hap ts).mpr ⟨ht,e⟩)⟩
       exact Nq rfl ∅ ∅ he w cc ha r1
      ·refine .inr ⟨.tup (nD os),?_,os,rfl,r2.congr hap⟩;exact Nq rfl ∅ ∅ he w cc ha r1
     ·exact .inl ⟨w,aaZ rfl ∅ ∅ he w cc,λts ht e=>he (by rw[<-e];exact(ht.2 one h1).symm)⟩)
    rcases agw with⟨hno,v',w',hf⟩|⟨l1,b,l2,x,hl,hno,⟨os,rfl,hmin⟩,hf⟩
    ·refine .inl ⟨Np F hW hn hm se hs ho hf (.inr ⟨rfl,_,rfl⟩) rfl (by simp),λos ho=>?_⟩
     have ho:=(yY os).mpr ho;exact hno _ (dg.mpr (eU ho.1.pm h1)) os ho rfl
    ·obtain⟨hb,DV⟩:=aia hl;refine .inr ⟨os,Np F hW hn hm se hs ho hf (.inl rfl) (by unfold noRef;exact mE os) (by simp),ny.congr yY ?_⟩
     exact ahl hw i8 h1 hb hcl hop (λts ht hlt=>hno _ (DV _ hlt) ts ht rfl) hmin
end
theorem abf(h:rO [w] cc=.ok (.tup (.str v::l)) cc):rM [w] cc=.ok (.bl (decide (v="even"))) cc :=
 gi (eY (bw (x:=.str v) (y:=.str "even") (bw (x:=.tup (.str v::l)) (y:=.int 0) (gc (x:=w) rfl h) rfl (by simp)) rfl (afQ _ v _))) rfl (by simp)
theorem Nr{m:Nat}(hl:aT [w] cc=.ok ↥m cc)(hm:m<=16):aI (av jR (aK aT ⇑0) (ak 2)) [U w,U (.int 10),U (.int 16)] cc=.ok Δ cc/\aI (av jR (aK aT ⇑0) (ak 1)) [U w,U (.int 10),U (.int 16)] cc=.ok (decide ((m:Int)>10)) cc:=by
 have t1:aI (av jR (aK aT ⇑0) (ak 2)) [U w,U (.int 10),U (.int 16)] cc=.ok (decide ((m:Int)>16)) cc:=eO (bw (d8 (x:=w) rfl hl) rfl rfl);rw[decide_eq_false ∅]at t1
 exact⟨t1,eO (bw (d8 (x:=w) rfl hl) rfl rfl)⟩
theorem Nt(h:kM (aI (av jR (aK aT ⇑0) (ak 2))) (kN (aI (av jR (aK aT ⇑0) (ak 1))) (gw (aI (aD 1 rM ⇑0)))) [U w,U (.int 10),U (.int 16)] cc=.ok Δ cc):jl [w,.int 10,.int 16] cc=.ok .aF cc:=by
 have hb:An [U w,U (.int 10),U (.int 16)] cc=.ok (.nx [U w,U (.int 10),U (.int 16)]) cc:=gX h rfl;rw[jl,iT];have es:bW 3 [w,.int 10,.int 16]=[U w,U (.int 10),U (.int 16)]:=rfl;rw[es,hb];simp[cH,noRef]
theorem aa2{m:Nat}(hl:aT [w] cc=.ok ↥m cc)(hm:m<=10):jl [w,.int 10,.int 16] cc=.ok .aF cc:=by
 obtain⟨t1,t2⟩:=Nr hl ∅
 rw[decide_eq_false ∅]at t2
 exact Nt (JM t1 (by rw[xj,t2];rfl))
theorem aa3{m:Nat}(hl:aT [w] cc=.ok ↥m cc)(hm:m<=16)(he:rM [w] cc=.ok (.bl J) cc):jl [w,.int 10,.int 16] cc=.ok .aF cc:=by
 obtain⟨t1,t2⟩:=Nr hl hm;have t4:gw (aI (aD 1 rM ⇑0)) [U w,U (.int 10),U (.int 16)] cc=.ok Δ cc:=by rw[afU,eO (gc (x:=w) rfl he)];rfl
 refine Nt (JM t1 ?_);rw[xj,t2,R.aH];split
 ·exact t4
 ·rfl
theorem ahV(n:Nat):(ο n [D.int 0]).flatten=nD ((θ n).map λ_=>0):=by
 refine Q4 (by simp) λi h1 h2=>?_
 simp[nD,List.flatten_replicate_singleton]
def eW(t s:List Nat):List Nat:=s.map (aC t)
def gE(m:Nat)(t:List Nat):List Nat:=(θ m).map λx=>t.idxOf x
section
variable {m:Nat}{f g h:Nat->Nat->Bool}{s t:List Nat}
theorem lW(hi:i<s.length):aC (eW t s) i=aC t (aC s i):=by
 simp[aC,eW,I8,hi]
theorem zg(hi:i<m):aC (θ m) i=i:=by simp[aC,I8,hi]
theorem ab7(hs:s.Perm (θ m))(ht:t.Perm (θ m)):(eW t s).Perm (θ m):=by
 have h1:=hs.map (aC t);rw[Cb ht]at h1;exact h1.trans ht
theorem rX(hs:eS m f g s)(ht:eS m g h t):eS m f h (eW t s):=⟨ab7 hs.pm ht.pm,λi j hi hj=>by
 have hl:=fY hs.pm;rw[lW ∅,lW ∅,hs.eq i j hi hj,ht.eq _ _ (eU hs.pm hi) (eU hs.pm hj)]⟩
theorem Dw(ht:t.Perm (θ m))(hx:x<m):aC (gE m t) x=t.idxOf x:=by
 simp[aC,gE,I8,hx]
theorem LS(ht:t.Perm (θ m))(hx:x<m):t.idxOf x<m:=by
 have h1:=RO.mpr (ht.mem_iff.mpr (dg.mpr hx))
 rwa[fY ht]at h1
theorem rY(ht:t.Perm (θ m))(hx:x<m):aC t (aC (gE m t) x)=x:=by
 rw[Dw ht hx]
 simpa[aC,I8,(RO.mpr (ht.mem_iff.mpr (dg.mpr hx)))]using this
theorem Dv(ht:t.Perm (θ m))(hi:i<m):aC (gE m t) (aC t i)=i:=by
 have h1:=eU ht hi;have h2:=rY ht h1;rw[Dw ht h1]at h2 ⊢;exact j6 ht (LS ht h1) hi h2
theorem Du(ht:t.Perm (θ m)):(gE m t).Perm (θ m):=by
 have hl:(gE m t).length=m:=by simp[gE]
 have gg:∀i _,(gE m t)[i]=aC (gE m t) i:=λi hi=>by simp[aC,I8,hi]
 refine xZ ?_ hl λx hx=>?_
 ·rw[Qp,Qw];intro i j hi hj hij e;rw[gg i hi,gg j hj]at e;have:=congrArg (aC t) e;rw[rY ht ∅,rY ht ∅]at this
  omega
 ·obtain⟨i,hi,rfl⟩:=QF hx;rw[gg i hi,Dw ht ∅]
  exact LS ht ∅
theorem Ds(ht:eS m f g t):eS m g f (gE m t):=⟨Du ht.pm,λi j hi hj=>by
 have h1:=ht.eq _ _ (eU (Du ht.pm) hi) (eU (Du ht.pm) hj);rw[rY ht.pm hi,rY ht.pm hj]at h1;exact h1.symm⟩
theorem YM(m:Nat)(f:Nat->Nat->Bool):eS m f f (θ m):=⟨.refl _,λi j hi hj=>by rw[zg hi,zg hj]⟩
theorem ab8(ht:t.Perm (θ m))(hs:s.Perm (θ m)):eW t (eW (gE m t) s)=s:=by
 have hl:=fY hs;refine uV (by simp[eW]) λi hi=>?_
 have hi:i<m:=by simpa[eW,hl]using hi
 rw[lW (by simp[eW];omega),lW ∅,rY ht (eU hs hi)]
theorem N9{a b:List Nat}(ht:t.Perm (θ m))(ha:a.Perm (θ m))(hb:b.Perm (θ m))(e:eW t a=eW t b):a=b:=by
 have h1:=fY ha;have h2:=fY hb;refine uV ∅ λi hi=>?_
 have:aC (eW t a) i=aC (eW t b) i:=congrArg (λl=>aC l i) e
 rw[lW ∅,lW ∅]at this
 exact j6 ht (eU ha ∅) (eU hb ∅) this
end
def gf(P:List Nat->Prop)(ξ:List (List Nat)):Prop:=ξ.Nodup/\∀os,os∈ξ↔P os
theorem Ew{P Q:List Nat->Prop}(hL:gf P ξ)(hK:gf Q K)(φ:List Nat->List Nat)(h:∀s,P s->Q (φ s))(inj:∀s t,P s->P t->φ s=φ t->s=t):ξ.length<=K.length:=by
 have nd:(ξ.map φ).Nodup:=by
  rw[Qp,SJ];have:=Qp.mp hL.1;refine Tc ?_ this;intro a b ha hb hne e;exact hne (inj a b ((hL.2 a).mp ha) ((hL.2 b).mp hb) e)
 have:=CM (ξ.map φ) K nd λx hx=>by
  obtain⟨s,hs,rfl⟩:=K1.mp hx;exact(hK.2 _).mpr (h s ((hL.2 s).mp hs))
 simpa using this
theorem abv{P:List Nat->Prop}(hL:gf P ξ)(hK:gf P K):ξ.length=K.length :=
 VP (Ew hL hK id (λ_ h=>h) λ_ _ _ _ e=>e) (Ew hK hL id (λ_ h=>h) λ_ _ _ _ e=>e)
theorem abu{f g:Nat->Nat->Bool}(ht:eS m f g t)(hL:gf (eS m f f) ξ)(hK:gf (eS m g g) K):ξ.length=K.length:=by
 have one:∀{f g:Nat->Nat->Bool}{t:List Nat}{ξ K:List (List Nat)},eS m f g t->gf (eS m f f) ξ->gf (eS m g g) K->ξ.length<=K.length:=fun{f g t ξ K} ht hL hK =>
  Ew hL hK (λs=>eW (eW t s) (gE m t)) (λs hs=>rX (Ds ht) (rX hs ht)) λa b ha hb e=>by
   have pa:=(rX ha ht).pm;have pb:=(rX hb ht).pm;have e2:eW t a=eW t b:=by
    refine uV (by rw[fY pa,fY pb]) λi hi=>?_
    have hi:i<m:=by rw[fY pa]at hi;exact hi
    have:aC (eW (eW t a) (gE m t)) (aC t i)=aC (eW (eW t b) (gE m t)) (aC t i):=congrArg (λl=>aC l (aC t i)) e
    have hti:=eU ht.pm hi;have hil:(gE m t).length=m:=by simp[gE]
    have q:∀s,aC (eW s (gE m t)) (aC t i)=aC s i:=λs=>by rw[lW ∅,Dv ht.pm hi]
    rw[q,q]at this;exact this
   exact N9 ht.pm ha.pm hb.pm e2
 exact VP (one ht hL hK) (one (Ds ht) hK hL)
def Fx(m:Nat)(f:Nat->Nat->Bool)(k:Nat)(os:List Nat):Prop:=eS m f f os/\∀i,i<k->aC os i=i
theorem aax{f:Nat->Nat->Bool}:gf (Fx m f m) [θ m]:=⟨by simp,λos=>by
 simp only[Pa]
 constructor
 ·rintro rfl
  exact⟨YM m f,λi hi=>zg hi⟩
 ·intro h;have hl:=fY h.1.pm;exact uV (by simp[hl]) λi hi=>by rw[h.2 i ∅,zg ∅]⟩
theorem MY{f:Nat->Nat->Bool}(hk:k<m)(hL:gf (Fx m f (k+1)) ξ):∀(B:List Nat),B.Nodup->(∀b∈B,∃t,Fx m f k t/\aC t k=b) ->
  ∃K,gf (λos=>Fx m f k os/\aC os k∈B) K/\K.length=B.length*ξ.length
 |[],_,_=>⟨[],⟨by simp,λos=>by simp⟩,by simp⟩
 |b::B,hn,ht=>by
  have hn:=QV.mp hn;obtain⟨K,hK,hl⟩:=MY hk hL B hn.2 λx hx=>ht x (by simp[hx])
  obtain⟨t,t1,t2⟩:=ht b (by simp)
  have key:∀os,os∈ξ.map (eW t)↔Fx m f k os/\aC os k=b:=λos=>by
   constructor
   ·intro h;obtain⟨s,hs,rfl⟩:=K1.mp h;have hs:=(hL.2 s).mp hs;have hsl:=fY hs.1.pm;refine⟨⟨rX hs.1 t1.1,λi hi=>?_⟩,?_⟩
    ·rw[lW ∅,hs.2 i ∅,t1.2 i hi]
    ·rw[lW ∅,hs.2 k ∅,t2]
   ·rintro ⟨h1,h2⟩
    refine K1.mpr ⟨eW (gE m t) os,(hL.2 _).mpr ⟨rX h1.1 (Ds t1.1),λi hi=>?_⟩,ab8 t1.1.pm h1.1.pm⟩
    have gY:=fY h1.1.pm;rw[lW ∅]
    by_cases e:i=k
    ·rw[e,h2,<-t2,Dv t1.1.pm hk]
    ·have hi':i<k:=∅
     have:=Dv t1.1.pm (show i<m by omega)
     rw[t1.2 i hi']at this;rw[h1.2 i hi',this]
  have nd:(ξ.map (eW t)).Nodup:=by
   rw[Qp,SJ];refine Tc ?_ (Qp.mp hL.1);intro a c ha hc hne e;exact hne (N9 t1.1.pm ((hL.2 a).mp ha).1.pm ((hL.2 c).mp hc).1.pm e)
  refine⟨ξ.map _++K,⟨Rh.mpr ⟨nd,hK.1,λx hx y hy e=>?_⟩,λos=>?_⟩,?_⟩
  ·subst e;have h1:=(key x).mp hx;have h2:=((hK.2 x).mp hy).2;rw[h1.2]at h2;exact hn.1 h2
  ·rw[PY,key,hK.2];show(Fx m f k os/\aC os k=b)\/(Fx m f k os/\aC os k∈B)↔Fx m f k os/\aC os k∈b::B;rw[Bt]
   constructor
   ·rintro (⟨h1,h2⟩|⟨h1,h2⟩)
    ·exact⟨h1,.inl h2⟩
    ·exact⟨h1,.inr h2⟩
   ·rintro ⟨h1,h2|h2⟩
    ·exact .inl ⟨h1,h2⟩
    ·exact .inr ⟨h1,h2⟩
  ·rw[Pf,hl,O2,PB,SO];omega
structure Kp (m:Nat) (f:Nat->Nat->Bool) (k:Nat) (c:Nat->Nat):Prop where
 two:∀i,i<m->c (m+i)=c i
 ir:∀os,g9 m f f c os↔Fx m f k os
theorem XT(m:Nat)(f:Nat->Nat->Bool):Kp m f 0 (λ_=>0):=⟨λ_ _=>rfl,λos=>⟨λh=>⟨h.1,λi hi=>∅⟩,λh=>⟨h.1,λ_ _=>rfl⟩⟩⟩
theorem Dh{f:Nat->Nat->Bool}{c:Nat->Nat}(h:Kp m f k c)(hk:k<m)(hb:b<m)(hz:∀i,i<2*m->c i≠z)(os:List Nat):g9 m f f (c8 c z k (m+b)) os↔Fx m f k os/\aC os k=b:=by
 constructor
 ·intro x;have pm:=x.1.pm;have key:aC os k=b:=by
   have:=x.2 k hk;unfold c8 at this;rw[if_pos (Or.inl rfl)]at this
   by_cases q:m+aC os k=m+b
   ·omega
   ·rw[if_neg ∅]at this
    have hl:=eU pm hk;exact absurd this.symm (hz _ ∅)
  have rest:∀i,i<m->i≠k->c i=c (aC os i):=λi hi hne=>by
   have:=x.2 i hi;have hl:=eU pm hi;unfold c8 at this;rw[if_neg ∅,if_neg ?_]at this
   ·rw[this,h.two _ hl]
   ·rintro (q|q)
    ·omega
    ·exact hne (j6 pm hi hk ∅)
  have hck:c (aC os k)=c k:=Q5 λhne=>by
   have e1:=ud pm λy=>decide (c y=c k)
   have e2:=Ad (l:=θ m) (p:=λi=>decide (c (aC os i)=c k)) (q:=λi=>decide (c i=c k)) (λi hi q=>by
    have hi:=dg.mp hi
    by_cases e:i=k
    ·subst e;simp at q ⊢
    ·rw[rest i hi e];exact q) ⟨k,dg.mpr hk,by simp,by simp[hne]⟩
   omega
  have r:fE m c os:=λi hi=>by
   rw[h.two _ (eU pm hi)]
   by_cases e:i=k
   ·rw[e,hck]
   ·exact rest i hi e
  exact⟨(h.ir os).mp ⟨x.1,r⟩,key⟩
 ·rintro ⟨x,e⟩
  have y:=(h.ir os).mpr x;have hc:c (m+b)=c k:=by rw[<-e];exact(y.2 k hk).symm
  exact⟨x.1,(E7 hz hk hb x.1.pm hc).mpr ⟨y.2,e⟩⟩
theorem XU{f:Nat->Nat->Bool}{c:Nat->Nat}(h:Kp m f k c)(hk:k<m)(hz:∀i,i<2*m->c i≠z):Kp m f (k+1) (c8 c z k (m+k)):=by
 refine⟨λi hi=>?_,λos=>?_⟩
 ·unfold c8
  by_cases e:i=k
  ·rw[if_pos (Or.inr ∅),if_pos (Or.inl e)]
  ·rw[if_neg ∅,if_neg ∅]
   exact h.two i hi
 ·rw[Dh h hk hk hz]
  constructor
  ·rintro ⟨x,e⟩
   refine⟨x.1,λi hi=>?_⟩
   by_cases q:i=k
   ·rw[q,e]
   ·exact x.2 i ∅
  ·intro x;exact⟨⟨x.1,λi hi=>x.2 i ∅⟩,x.2 k ∅⟩
theorem aaw{f:Nat->Nat->Bool}(hk:k<m)(hL:gf (Fx m f (k+1)) ξ){B:List Nat}(hB:B.Nodup)(hm:∀b,b∈B↔∃t,Fx m f k t/\aC t k=b):∃K,gf (Fx m f k) K/\K.length=B.length*ξ.length:=by
 obtain⟨K,hK,hl⟩:=MY hk hL B hB λb hb=>(hm b).mp hb
 exact⟨K,⟨hK.1,λos=>(hK.2 os).trans ⟨λh=>h.1,λh=>⟨h,(hm _).mpr ⟨os,h,rfl⟩⟩⟩⟩,hl⟩
def ki(W M B C P:D)(v w:Option D):Ev:=[U W,U M,U B,U C,U P,v,w]
def yz:ah:=(aB (aE 6 (aX (bu ⇑1) [O,U 3,U 5,U 1] (aA 0) aY (aD 3 ko (ao (ak 1) (ao (ak 2) (ao (av aZ (ak 3) (ak 0)) aq)))))) (aB (aE 4 (av bY (ak 4) (aK aT (ao (aX (dF (ak 6)) [O,U 2] (aA 0) (aI (av iJ (aD 2 (iu 18) (1⊂0)) (dC .aF))) (ak 0)) aq)))) (aE 3 (av aG (ak 6) (ak 5)))))
theorem W8:Ar=aB (fh (aD 3 jl (ao (ak 0) (ao (dC (.int 10)) (ao (dC (.int 16)) aq))))) (aB (aE 1 (aK aT ⇑0)) (aB (aE 2 (aD 2 uL (0⊂0))) (aB (aE 3 (av qV (bV (ao (dC (.int 0)) aq)) (av bY (dC (.int 2)) (ak 1)))) (aB (aE 4 (dC (.int 1))) (aB (bL (bu ⇑1) (aA 5) yz) (aS (ak 4))))))):=rfl
structure Mo (m:Nat) (f:Nat->Nat->Bool) (k:Nat) (c:Nat->Nat) (P:Nat):Prop where
 kp:Kp m f k c
 pr:∀ξ,gf (Fx m f k) ξ->∃K,gf (Fx m f 0) K/\K.length=P*ξ.length
 le:P<=16^k
theorem aj0{W:D}{f F:Nat->Nat->Bool}{c:Nat->Nat}(hB:B=aP (wF n F))(hn:n=2*m)(hF:F=F2 m f f)(hm:m<=16)(hw:fD f)(hk:k<m)(h:Mo m f k c P)(cc:aa):
  ∃c' P' w',Mo m f (k+1) c' P'/\yz (ki W ↥m B (aL n c) ↥P (U ↥k) w) cc=.ok (.nx (ki W ↥m B (aL n c') ↥P' (U ↥k) w')) cc:=by
 have hs:=cN (n:=1000) ⋯
 obtain⟨z,hz,ha⟩:=OC c (show 0<n by omega) ∅ cc
 have hz':∀i,i<2*m->c i≠z:=λi hi=>hz i ∅
 have fo:∀b,b<m->∃x,iu 18 [B,aL n (c8 c z k (m+b))] cc=.ok x cc/\(fM x=Δ↔∃t,Fx m f k t/\aC t k=b):=λb hb=>by
  rcases aaU (f:=f) (f':=f) hB hn hF ∅ ∅ hw hw cc 18 (c8 c z k (m+b)) ∅with⟨r1,r2⟩|⟨os,r1,r2⟩
  ·refine⟨.aF,r1,⟨λq=>by exact absurd q ⋯,?_⟩⟩
   rintro ⟨t,t1,t2⟩
   exact absurd ((Dh h.kp hk hb hz' t).mpr ⟨t1,t2⟩) (r2 t)
  ·refine⟨_,r1,⟨λ_=>?_,λ_=>rfl⟩⟩
   have:=(Dh h.kp hk hb hz' os).mp r2.1;exact⟨os,this.1,this.2⟩
 have fo2:∃g:Nat->Bool,(∀b,b<m->aI (av iJ (aD 2 (iu 18) (1⊂0)) (dC .aF)) [U (aL n (c8 c z k (m+b))),U B] cc=.ok (g b) cc)/\∀b,b<m->(g b=J↔∃t,Fx m f k t/\aC t k=b):=by
  refine⟨λb=>@decide (∃t,Fx m f k t/\aC t k=b) (Classical.propDecidable _),λb hb=>?_,λb hb=>by simp⟩
  obtain⟨x,h1,h2⟩:=fo b hb;have e:(!fM x)=@decide (∃t,Fx m f k t/\aC t k=b) (Classical.propDecidable _):=by
   by_cases q:∃t,Fx m f k t/\aC t k=b
   ·rw[h2.mpr q];simp[q]
   ·cases hx:fM x with
    |true=>simp[q]
    |false=>exact absurd (h2.mp hx) q
  show _=R.ok (@decide (∃t,Fx m f k t/\aC t k=b) (Classical.propDecidable _)) cc;rw[<-e];exact eO (bw (x:=x) (fU (x:=B) (y:=aL n (c8 c z k (m+b))) rfl rfl h1) rfl rfl)
 obtain⟨g,g1,g2⟩:=fo2;have h1:=nU (E:=[U (aL n c),U ↥k,U ↥m]) (a:=aD 3 ko (ao (ak 1) (ao (ak 2) (ao (av aZ (ak 3) (ak 0)) aq)))) (c:=cc) (λv:Nat=>D.int (v:Int)) (λb:Nat=>aL n (c8 c z k (m+b))) (θ m) (λb hb=>ql (x:=aL n c) (y:=.int (k:Int)) (z:=.int ((m+b:Nat):Int)) rfl rfl (bw rfl rfl (by rw[sZ];congr 2)) (ha k (m+b)))
 have e1:((θ m).map λv:Nat=>D.int (v:Int))=aR 0 (m:Int):=(nM m).symm
 rw[e1]at h1
 generalize hT:((θ m).map λb:Nat=>aL n (c8 c z k (m+b)))=T at h1
 have s1:aE 6 (aX (bu ⇑1) [O,U 3,U 5,U 1] (aA 0) aY (aD 3 ko (ao (ak 1) (ao (ak 2) (ao (av aZ (ak 3) (ak 0)) aq))))) (ki W ↥m B (aL n c) ↥P (U ↥k) w) cc=.ok (.nx (ki W ↥m B (aL n c) ↥P (U ↥k) (U (.lst T)))) cc :=
  dj (iQ (jG rfl ∅) (tV ∅) h1)
 have h2:=kI (E:=[U B]) (t:=aI (av iJ (aD 2 (iu 18) (1⊂0)) (dC .aF))) (a:=ak 0) (c:=cc) (λb:Nat=>aL n (c8 c z k (m+b))) (λb:Nat=>aL n (c8 c z k (m+b))) g (θ m) O [] (λb hb=>g1 b (dg.mp hb)) (λ_ _ _=>rfl)
 rw[hT,Pe]at h2;have hBl:((θ m).filter g).length<=16:=by
  have:=RM g (θ m);simp at this;omega
 have hP:P<2^64:=by
  have:16^k<=16^15:=Ud ⋯ ∅
  have:=h.le;omega
 have s2:aE 4 (av bY (ak 4) (aK aT (ao (aX (dF (ak 6)) [O,U 2] (aA 0) (aI (av iJ (aD 2 (iu 18) (1⊂0)) (dC .aF))) (ak 0)) aq))) (ki W ↥m B (aL n c) ↥P (U ↥k) (U (.lst T))) cc=.ok (.nx (ki W ↥m B (aL n c) (.int ((P*((θ m).filter g).length:Nat):Int)) (U ↥k) (U (.lst T)))) cc:=by
  refine dj (bw (x:=.int (P:Int)) rfl (d8 (iQ (xN rfl) (by rw[<-hT];simp;omega) h2) (Bl (c:=cc) _)) ?_)
  rw[jZ,if_pos (.inl ∅),O2,RX]
 have s3:aE 3 (av aG (ak 6) (ak 5)) (ki W ↥m B (aL n c) (.int ((P*((θ m).filter g).length:Nat):Int)) (U ↥k) (U (.lst T))) cc=.ok (.nx (ki W ↥m B (aL n (c8 c z k (m+k))) (.int ((P*((θ m).filter g).length:Nat):Int)) (U ↥k) (U (.lst T)))) cc:=by
  refine dj (bw (x:=.lst T) (y:=.int (k:Int)) rfl rfl ?_);rw[iE,kP (v:=aL n (c8 c z k (m+k))) (by rw[<-hT];simp[hk])]
 refine⟨c8 c z k (m+k),P*((θ m).filter g).length,U (.lst T),⟨XU h.kp hk hz',λξ hL=>?_,?_⟩,?_⟩
 ·obtain⟨afg,Z8,l1⟩:=aaw hk hL (B:=(θ m).filter g) (Tj _ QY) λb=>by
   rw[Pw,dg]
   constructor
   ·rintro ⟨hb,q⟩;exact(g2 b hb).mp q
   ·rintro ⟨t,t1,t2⟩
    have hb:b<m:=by rw[<-t2];exact eU t1.1.pm hk
    exact⟨hb,(g2 b hb).mpr ⟨t,t1,t2⟩⟩
  obtain⟨K,hK,l2⟩:=h.pr afg Z8;exact⟨K,hK,by rw[l2,l1,Nat.mul_assoc]⟩
 ·rw[Ue];exact Qq h.le hBl
 ·unfold yz;exact bP s1 (bP s2 s3)
theorem Xg{f:Nat->Nat->Bool}(h0:0<m)(hm:m<=16)(hw:fD f)(h1:jl [aP (wF m f),.int 10,.int 16] cc=.ok .aF cc):∃K,gf (eS m f f) K/\jO [aP (wF m f)] cc=.ok (.int (K.length:Nat)) cc:=by
 have hs:=cN (n:=1000) ⋯
 have h3:=agP f f (show m<60 by omega) cc
 have h4:aT [aP (wF m f)] cc=.ok ↥m cc:=by rw[mP,jd]
 generalize aP (wF m f)=W at h1 h3 h4 ⊢
 generalize hB:aP (wF (2*m) (F2 m f f))=B at h3
 have s1:fh (aD 3 jl (ao (ak 0) (ao (dC (.int 10)) (ao (dC (.int 16)) aq)))) [U W,O,O,O,O,O,O] cc=.ok (.nx [U W,O,O,O,O,O,O]) cc:=EA (ql (x:=W) rfl rfl rfl h1);have s2:aE 1 (aK aT ⇑0) [U W,O,O,O,O,O,O] cc=.ok (.nx [U W,U ↥m,O,O,O,O,O]) cc:=dj (d8 (x:=W) rfl h4);have s3:aE 2 (aD 2 uL (0⊂0)) [U W,U ↥m,O,O,O,O,O] cc=.ok (.nx [U W,U ↥m,U B,O,O,O,O]) cc:=dj (fU (x:=W) (y:=W) rfl rfl h3);have s4:aE 3 (av qV (bV (ao (dC (.int 0)) aq)) (av bY (dC (.int 2)) (ak 1))) [U W,U ↥m,U B,O,O,O,O] cc=.ok (.nx [U W,U ↥m,U B,U (aL (2*m) λ_=>0),O,O,O]) cc:=by
  have l1:bV (ao (dC (.int 0)) aq) [U W,U ↥m,U B,O,O,O,O] cc=.ok (.lst [.int 0]) cc:=by
   rw[qG];simp only[cY,jB,cQ,R.aH];rw[if_pos (by show 1<=Ω;omega)]
  have l2:av bY (dC (.int 2)) (ak 1) [U W,U ↥m,U B,O,O,O,O] cc=.ok (.int ((2*m:Nat):Int)) cc:=by
   refine bw (y:=.int (m:Int)) rfl rfl ?_;rw[jZ,if_pos (.inl ∅)]
   rfl
  refine dj (bw l1 l2 ?_);rw[afJ,if_pos (by simp;omega),RD,ahV]
  rfl
 have hrl:(aR 0 (m:Int)).length=m:=by rw[fX];omega
 obtain⟨e',c3,⟨c,P,v,w,rfl,hc3,hM⟩,hf⟩:=oJ (g:=aA 5) (s:=yz) (λk e c'=>∃(c:Nat->Nat) (P:Nat) (v w:Option D),e=ki W ↥m B (aL (2*m) c) ↥P v w/\c'=cc/\Mo m f k c P)
  (aR 0 (m:Int)) 0 (ki W ↥m B (aL (2*m) λ_=>0) (.int ((1:Nat):Int)) O O) cc ⟨λ_=>0,1,O,O,rfl,rfl,⟨XT m f,λξ hL=>⟨ξ,hL,∅⟩,⋯⟩⟩ (λi x hx e c' ⟨c,P,v,w,he,hc,hM⟩=>by
   subst he;subst hc;obtain⟨hi,hx⟩:=j5 hx;subst hx;have hi:i<m:=∅
   rw[O9]at hM ⊢;obtain⟨c1,P1,w1,h1,h2⟩:=aj0 (W:=W) (w:=w) hB.symm rfl rfl ∅ hw hi hM c'
   have e0:((0:Int)+(i:Int))=(i:Int):=∅
   rw[e0];exact⟨_,_,_,_,rfl,h2,c1,P1,_,w1,rfl,rfl,h1⟩)
 rw[hrl,O9]at hM;rw[hc3]at hf;obtain⟨K,hK,hl⟩:=hM.pr _ aax;have hl:P=K.length:=by rw[hl];simp
 have hr:bu ⇑1 (ki W ↥m B (aL (2*m) λ_=>0) (.int ((1:Nat):Int)) O O) cc=.ok ⟨aR 0 (m:Int),λ_=>True⟩ cc:=jG rfl ∅
 refine⟨K,⟨hK.1,λos=>(hK.2 os).trans ⟨λh=>h.1,λh=>⟨h,λi hi=>∅⟩⟩⟩,?_⟩
 refine gi ?_ rfl (by simp)
 rw[W8,<-hl];exact bP s1 (bP s2 (bP s3 (bP s4 (bP (dj rfl) (bP (lO hr hf) (eY rfl))))))
def iz(f:Nat->Nat->Bool)(k:Nat)(is:List Nat)(a:Nat):Bool:=!decide (a∈is)&&decide (is.map (f a)=(θ k).map (f k))
def eL(m:Nat)(f:Nat->Nat->Bool):Nat->Nat->List Nat->List (List Nat)
 |0,_,is=>[is]
 |n+1,k,is=>(θ m).flatMap λa=>if iz f k is a=J then eL m f n (k+1) (is++[a])else[]
theorem MR{f:Nat->Nat->Bool}{is:List Nat}(hl:is.length=k):iz f k is a=J↔(∀i,i<k->aC is i≠a)/\∀i,i<k->f a (aC is i)=f k i:=by
 have e1:a∉is↔∀i,i<k->aC is i≠a:=by
  rw[KW,hl];exact⟨λz j hj e=>z ⟨j,hj,e⟩,λz ⟨j,hj,e⟩=>z j hj e⟩
 have e2:is.map (f a)=(θ k).map (f k)↔∀i,i<k->f a (aC is i)=f k i:=by
  constructor
  ·intro h i hi;have:=congrArg (λl=>l[i]?) h
   simp[hi,hl]at this;have g:aC is i=is[i]'∅:=by simp[aC,I8,hl,hi]
   rw[g];exact this
  ·intro h;refine Q4 (by simp[hl]) λi h1 h2=>?_
   have hi:i<k:=by simpa using h2
   have g:aC is i=is[i]'∅:=by simp[aC,I8,hl,hi]
   have:=h i hi;rw[g]at this
   simpa using this
 unfold iz;rw[PF,Uv,decide_eq_false_iff_not,decide_eq_true_eq,e1,e2]
theorem sN.aj2{f:Nat->Nat->Bool}{is:List Nat}(h:sN m f f k is)(ha:a<m)(un:∀i,i<k->aC is i≠a)(eq:∀i,i<k->f a (aC is i)=f k i):sN m f f (k+1) (is++[a]):=by
 have lo:∀i,i<k->aC (is++[a]) i=aC is i:=λi hi=>D6 (by rw[h.len];exact hi)
 have hi:aC (is++[a]) k=a:=D7 h.len.symm;refine⟨by simp[h.len],λi q=>?_,λi j hij q=>?_,λi j hij q=>?_⟩
 ·by_cases e:i=k
  ·rw[e,hi];exact ha
  ·rw[lo i ∅];exact h.lt i ∅
 ·rw[lo i ∅]
  by_cases e:j=k
  ·rw[e,hi];exact un i ∅
  ·rw[lo j ∅];exact h.un i j hij ∅
 ·rw[lo i ∅]
  by_cases e:j=k
  ·subst e;rw[hi];exact(eq i hij).symm
  ·rw[lo j ∅];exact h.eq i j hij ∅
theorem NB{f:Nat->Nat->Bool}(hw:fD f):∀(n k:Nat) (is:List Nat),k+n=m->sN m f f k is->gf (l6 m f f k is) (eL m f n k is)
 |0,k,is,hk,hp=>by
  have e:k=m:=∅
  subst e;refine⟨by simp[eL],λos=>?_⟩
  show os∈[is]↔_;rw[Pa]
  constructor
  ·rintro rfl
   exact⟨hp.iso hw hw,λ_ _=>rfl⟩
  ·intro h;have hl:=fY h.1.pm;exact uV (by rw[hl,hp.len]) λi hi=>h.2 i ∅
 |n+1,k,is,hk,hp=>by
  have ih:∀a,a<m->iz f k is a=J->gf (l6 m f f (k+1) (is++[a])) (eL m f n (k+1) (is++[a])):=λa ha hg=>by
   obtain⟨g1,g2⟩:=(MR hp.len).mp hg;exact NB hw n (k+1) (is++[a]) ∅ (hp.aj2 ha g1 g2)
  have at':∀a,a<m->∀os∈(if iz f k is a=J then eL m f n (k+1) (is++[a])else[]),l6 m f f k is os/\aC os k=a:=λa ha os ho=>by
   by_cases hg:iz f k is a=J
   ·rw[if_pos hg]at ho;exact(l6.more hp.len).mp (((ih a ha hg).2 os).mp ho)
   ·rw[if_neg hg]at ho;cases ho
  refine⟨?_,λos=>?_⟩
  ·show((θ m).flatMap _).Nodup;refine List.pairwise_flatMap.mpr ⟨λa ha=>?_,Tc (fun{a b} ha hb hne x hx y hy e=>?_) (QY (n:=m))⟩
   ·by_cases hg:iz f k is a=J
    ·rw[if_pos hg];exact(ih a (dg.mp ha) hg).1
    ·rw[if_neg hg];exact List.Pairwise.nil
   ·have h1:=(at' a (dg.mp ha) x hx).2;have h2:=(at' b (dg.mp hb) y hy).2;rw[e,h2]at h1;exact hne h1.symm
  ·show os∈(θ m).flatMap _↔_;rw[Td]
   constructor
   ·rintro ⟨a,ha,ho⟩
    exact(at' a (dg.mp ha) os ho).1
   ·intro h;have ha:=eU h.1.pm (show k<m by omega)
    have hg:=h.good (show k<m by omega)
    have hc:=(MR (f:=f) hp.len).mpr ⟨hg.un,hg.eq⟩;refine⟨aC os k,dg.mpr ha,?_⟩;rw[if_pos hc];exact((ih _ ha hc).2 os).mpr ((l6.more hp.len).mpr ⟨h,rfl⟩)
theorem z5{f:Nat->Nat->Bool}(hw:fD f):gf (eS m f f) (eL m f m 0 []):=by
 have h:=NB (m:=m) hw m 0 [] ∅ ⟨rfl,λi h=>∅,λi j h1 h2=>∅,λi j h1 h2=>∅⟩
 exact⟨h.1,λos=>(h.2 os).trans ⟨λx=>x.1,λx=>⟨x,λi hi=>∅⟩⟩⟩
theorem Wa(l:List Nat)(x:Nat)(cc:aa):iH ↥x (.lst (nD l)) cc=.ok (.bl (!decide (x∈l))) cc:=by
 have h1:fC cc ↥x=U ↥x:=rfl;have h2:fC cc (.lst (nD l))=U (.list (l.map λn:Nat=>PyData.int (n:Int))):=by
  show(match eN (nD l)with|some r=>U (PyData.list r)|none=>O)=_
  rw[vM]
 unfold iH;rw[h1,h2];dsimp only;rw[if_pos (by simp[PyData.depth]),AM]
theorem NQ:∀l:List Bool,eN (l.map D.bl)=U (l.map PyData.bool)
 |[]=>rfl
 |n::ns=>by
  show(match eF (.bl n),eN (ns.map D.bl)with|some a,U r=>U (a::r)|_,_=>O)=_
  rw[NQ ns];rfl
theorem NI(l:List Bool):(PyData.list (l.map PyData.bool)).depth<=2:=by
 have:∀l:List Bool,PyData.depthAll (l.map PyData.bool)<=1:=λl=>by
  induction l with
  |nil=>simp[PyData.depthAll]
  |cons a l ih=>simp[PyData.depthAll,PyData.depth];omega
 have:=this l;simp[PyData.depth];omega
theorem abo(l m:List Bool)(cc:aa):kL (.lst (l.map D.bl)) (.lst (m.map D.bl)) cc=.ok (.bl (decide (l=m))) cc:=by
 have h1:∀l:List Bool,fC cc (.lst (l.map D.bl))=U (.list (l.map PyData.bool)):=λl=>by
  show(match eN (l.map D.bl)with|some r=>U (PyData.list r)|none=>O)=_
  rw[NQ]
 unfold kL;rw[h1 l,h1 m];have a:=NI l;have b:=NI m;dsimp only;rw[if_pos ⟨∅,∅⟩,PyData.eqv,Ep (F:=PyData.bool) (λa b=>by cases a<;>cases b<;>simp[PyData.eqv])]
def Dc:ai:=(kN (aI (av iH (ak 4) (ak 1))) (aI (av kL (aX (dF (ak 1)) [O,U 0,U 4] (aA 0) aY (av aG (av aG (ak 1) (ak 2)) (ak 0))) (qg (av aG (ak 0) (ak 2)) qh (oO (ak 2))))))
def Ls(M:List D->aa->R D):ah:=(bC Dc (aE 3 (av aZ (ak 3) (aD 2 M (ao (ak 0) (ao (av sI (ak 1) (bV ⇑4)) aq))))) bQ)
theorem Xx(M:List D->aa->R D):vZ M=aB (aE 2 (aK aT ⇑1)) (aB (bC (aI (av bH (ak 2) (aK aT ⇑0))) (aS (dC (.int 1))) bQ) (aB (aE 3 (dC (.int 0))) (aB (bL (bu (ao (aK aT ⇑0) aq)) (aA 4) (Ls M)) (aS (ak 3))))):=rfl
def kC(A I K:D)(P:Int)(v:Option D):Ev:=[U A,U I,U K,U (.int P),v]
section
variable {m k a:Nat}{f:Nat->Nat->Bool}{is:List Nat}{A:D}
theorem Xy(hA:A=bh m f)(hl:is.length=k)(hk:k<m)(hm:m<60)(hlt:∀x∈is,x<m)(ha:a<m)(P:Int)(cc:aa):Dc (kC A (.lst (nD is)) ↥k P (U ↥a)) cc=.ok (iz f k is a) cc:=by
 have hs:=cN (n:=1000) ⋯
 have t1:aI (av iH (ak 4) (ak 1)) (kC A (.lst (nD is)) ↥k P (U ↥a)) cc=.ok (!decide (a∈is)) cc:=eO (bw (x:=.int (a:Int)) (y:=.lst (nD is)) rfl rfl (Wa is a cc));have hc:=nU (E:=[U A,U ↥a]) (a:=av aG (av aG (ak 1) (ak 2)) (ak 0)) (c:=cc) (λx:Nat=>D.int (x:Int)) (λx:Nat=>D.bl (f a x)) is (λx hx=>bw (x:=.lst (bT m f a)) (y:=.int (x:Int)) (bw (x:=A) (y:=.int (a:Int)) rfl rfl (by rw[hA];exact Ht f ha cc)) rfl (aii f a (hlt x hx) cc))
 have e1:is.map (λx:Nat=>D.bl (f a x))=(is.map (f a)).map D.bl:=by rw[PV];rfl
 rw[e1]at hc;have h1:aX (dF (ak 1)) [O,U 0,U 4] (aA 0) aY (av aG (av aG (ak 1) (ak 2)) (ak 0)) (kC A (.lst (nD is)) ↥k P (U ↥a)) cc=.ok (.lst ((is.map (f a)).map D.bl)) cc :=
  iQ (items:=nD is) (xN rfl) (by simp[nD];omega) hc
 have h2:qg (av aG (ak 0) (ak 2)) qh (oO (ak 2)) (kC A (.lst (nD is)) ↥k P (U ↥a)) cc=.ok (.lst (((θ k).map (f k)).map D.bl)) cc:=by
  have r:av aG (ak 0) (ak 2) (kC A (.lst (nD is)) ↥k P (U ↥a)) cc=.ok (.lst (bT m f k)) cc:=bw (x:=A) (y:=.int (k:Int)) rfl rfl (by rw[hA];exact Ht f hk cc)
  have p:oO (ak 2) (kC A (.lst (nD is)) ↥k P (U ↥a)) cc=.ok (U (k:Int)) cc:=rfl;have cu:cutD (bT m f k) O (U (k:Int))=((θ k).map (f k)).map D.bl:=by
   unfold cutD;rw[HT.BV,HT.BW,List.drop_zero];have hrl:(bT m f k).length=m:=by simp[bT]
   rw[hrl,show min k m-0=k by omega]
   refine Q4 (by simp[bT];omega) λi h1 h2=>?_
   simp[bT]
  rw[afH,r];simp only[R.aH,afT];rw[p];simp only[R.aH];unfold eV;dsimp only;rw[cu]
 have h3:=eO (bw h1 h2 (abo _ _ cc));unfold Dc iz;rw[xj,t1];simp only[R.aH];rw[h3];cases decide (a∈is)<;>rfl
end
theorem Xw{f:Nat->Nat->Bool}(hA:A=bh m f)(hm:m<60)(cc:aa):∀(q n k:Nat) (is:List Nat),n<q->k+n=m->is.length=k->(∀x∈is,x<m) ->
  lF q [A,.lst (nD is)] cc=.ok (.int ((eL m f n k is).length:Nat)) cc:=by
 intro q
 induction q with
 |zero=>intro n k is h;omega
 |succ q ih =>
  intro n k is h hk hl hlt;have hs:=cN (n:=1000) ⋯
  show bJ 5 Δ (vZ (lF q)) [A,.lst (nD is)] cc=_;have s1:aE 2 (aK aT ⇑1) (bW 5 [A,.lst (nD is)]) cc=.ok (.nx [U A,U (.lst (nD is)),U ↥k,O,O]) cc:=dj (d8 (x:=.lst (nD is)) rfl (by rw[Bl];simp[nD,hl]))
  have hlen:aT [A] cc=.ok ↥m cc:=by rw[hA];exact len_tab m f cc
  have s2:aI (av bH (ak 2) (aK aT ⇑0)) [U A,U (.lst (nD is)),U ↥k,O,O] cc=.ok (decide (k=m)) cc:=eO (bw (x:=.int (k:Int)) rfl (d8 (x:=A) rfl hlen) (qd _ _ cc));refine gi ?_ rfl (by simp)
  rw[Xx];refine bP s1 ?_;cases n with
  |zero =>
   rw[decide_eq_true ∅]at s2
   exact nL (lH s2 (eY rfl))
  |succ n =>
   rw[decide_eq_false ∅]at s2
   refine bP (gX s2 rfl) (bP (dj rfl) ?_);have hrl:(aR 0 (m:Int)).length=m:=by rw[fX];omega
   obtain⟨e',c',⟨v,rfl,rfl⟩,hf⟩:=oJ (g:=aA 4) (s:=Ls (lF q)) (λi e c'=>∃v,e=kC A (.lst (nD is)) ↥k (((θ i).flatMap λa=>if iz f k is a=J then eL m f n (k+1) (is++[a])else[]).length:Nat) v/\c'=cc)
    (aR 0 (m:Int)) 0 (kC A (.lst (nD is)) ↥k 0 O) cc ⟨O,rfl,rfl⟩ (λi x hx e c' ⟨v,he,hc⟩=>by
     subst he;subst hc;obtain⟨hi,hx⟩:=j5 hx;subst hx;have e0:((0:Int)+(i:Int))=(i:Int):=∅
     rw[e0,O9];have hi:i<m:=∅
     generalize hP:((θ i).flatMap λa=>if iz f k is a=J then eL m f n (k+1) (is++[a])else[]).length=P
     have ht:=Xy (a:=i) hA hl ∅ hm hlt hi (P:Int) c'
     have en:((θ (i+1)).flatMap λa=>if iz f k is a=J then eL m f n (k+1) (is++[a])else[]).length=P+(if iz f k is i=J then eL m f n (k+1) (is++[i])else[]).length:=by
      rw[QC,RW,Pf,hP];simp
     rw[en];refine⟨_,_,_,_,rfl,?_,U ↥i,rfl,rfl⟩
     by_cases hg:iz f k is i=J
     ·rw[hg]at ht;rw[if_pos hg];have cat:av sI (ak 1) (bV ⇑4) (kC A (.lst (nD is)) ↥k P (U ↥i)) c'=.ok (.lst (nD (is++[i]))) c':=by
       have l1:bV ⇑4 (kC A (.lst (nD is)) ↥k P (U ↥i)) c'=.ok (.lst [.int (i:Int)]) c':=by
        have v:ak 4 (kC A (.lst (nD is)) ↥k P (U ↥i)) c'=.ok ↥i c':=rfl;rw[qG];simp only[cY,v,cQ,R.aH];rw[if_pos (by show 1<=Ω;omega)]
       refine bw (x:=.lst (nD is)) rfl l1 ?_;unfold sI eV;dsimp only;rw[if_pos (by simp[nD];omega)]
       simp[nD]
      have hM:=ih n (k+1) (is++[i]) ∅ ∅ (by simp[hl]) (λx hx=>by
       rcases PY.mp hx with q|q
       ·exact hlt x q
       ·rw[Pa.mp q];exact hi)
      exact lH ht (dj (bw (x:=.int (P:Int)) rfl (fU (x:=A) rfl cat hM) rfl))
     ·rw[Bool.not_eq_true]at hg;rw[hg]at ht;rw[if_neg (by rw[hg];decide)]
      exact gX ht rfl)
   rw[hrl,O9]at hf;exact bP (lO (jG (q:=(m:Int)) (d8 (x:=A) rfl hlen) ∅) hf) (eY rfl)
def j9(g:Nat->Nat->Bool)(a k:Nat):Nat->List Nat->Bool
 |_,[]=>J
 |i,x::xs=>cond (Nat.beq x a) Δ (cond (g a x==g k i) (j9 g a k (i+1) xs) Δ)
def nI(F:Nat->Nat):Nat->Nat
 |0=>0
 |k+1=>nI F k+F k
def iI(g:Nat->Nat->Bool)(m:Nat):Nat->Nat->List Nat->Nat
 |0=>λ_ _=>1
 |n+1=>λk is=>nI (λa=>cond (j9 g a k 0 is) (iI g m n (k+1) (is++[a])) 0) m
theorem J4(g:Nat->Nat->Bool)(a k:Nat):∀(is:List Nat) (i:Nat),j9 g a k i is=(!decide (a∈is)&&decide (is.map (g a)=(List.range' i is.length).map (g k)))
 |[],i=>by simp[j9]
 |x::xs,i=>by
  have ih:=J4 g a k xs (i+1);unfold j9;rw[ih];cases h:Nat.beq x a with
  |true =>
   have e:=W7 h;subst e;simp
  |false =>
   have e:¬a=x:=λe=>by rw[e,Nat.beq_refl]at h;cases h
   simp only[cond_false,PB,V0,O6,Bt,e,false_or];cases hb:(g a x==g k i)with
   |true =>
    have hb:g a x=g k i:=by simpa using hb
    simp[hb]
   |false =>
    have hb:¬g a x=g k i:=by simpa using hb
    simp[hb]
theorem ajZ{g:Nat->Nat->Bool}{is:List Nat}(hl:is.length=k):j9 g a k 0 is=iz g k is a:=by
 rw[J4,hl,<-SW];rfl
theorem HF{F:Nat->List (List Nat)}:∀m:Nat,((θ m).flatMap F).length=nI (λa=>(F a).length) m
 |0=>rfl
 |m+1=>by rw[QC,RW,Pf,HF m];simp[nI]
theorem LG(g:Nat->Nat->Bool)(m:Nat):∀(n k:Nat) (is:List Nat),is.length=k->(eL m g n k is).length=iI g m n k is
 |0,_,_,_=>rfl
 |n+1,k,is,hl=>by
  show((θ m).flatMap _).length=nI _ m;rw[HF]
  congr 1
  funext a
  rw[ajZ hl];cases hg:iz g k is a with
  |true=>rw[if_pos rfl];exact LG g m n (k+1) (is++[a]) (by simp[hl])
  |false=>rw[if_neg ⋯];rfl
def tB(T w i j:Nat):Bool:=Nat.testBit T (i*w+j)
theorem acC:iI (tB 54519077200550552251575643949481295995136999315052060529169113832975636435230 16) 16 16 0 []=1152:=by decide +kernel
theorem KP{M:List (List Int)}(h:i<M.length):dY (bA M) (i:Int)=U (.lst (M[i].map D.int)):=kP (by simp[bA,h])
def yo:af:=(av inD (ak 0) (av aG (ak 1) (ak 2)))
def yp:af:=(aX (dF (av aG (ak 1) (ak 3))) [O,U 1,U 4] (aA 0) aY (av inD (ak 0) (av aG (ak 1) (ak 2))))
def rm:ah:=bC (aI (aK nj (ao yp aq))) (fh (lT (ak 2) (bZ (3⊂4)))) bQ
def pH:ah:=bL (gv (ao (av aZ (ak 3) (dC (.int 1))) ⇑0)) (aA 4) rm
theorem ako(ba:-4611686018427387904<=a+1/\a+1<4611686018427387904)(bq:-4611686018427387904<=q/\q<4611686018427387904)(h:bU (λ_=>True) (aA 4) rm (aR (a+1) q) [U (.int q),X,v2,U (.int a),v4] c=.ok (.nx [U (.int q),X,v2,U (.int a),v]) c'):
  pH [U (.int q),X,v2,U (.int a),v4] c=.ok (.nx [U (.int q),X,v2,U (.int a),v]) c':=by
 unfold pH;simp only[nC,Gy,cY,fV,cX,jB,gz,gs,cQ,R.aH,sZ];rw[if_pos ⟨∅,∅,∅,∅⟩]
 exact h
theorem akp{q:Int}{X:D}{c c3:aa}{u v:Option D}{l:List D}(b:-4611686018427387904<=q/\q<4611686018427387904)(hf:bU (λ_=>True) (aA 3) pH (aR 0 q) [U (.int q),U X,U (.ref c.length),O,O] (c++[.lst []])=.ok (.nx [U (.int q),U X,U (.ref c.length),u,v]) (c++[.lst l])) :
  kr [.int q,X] c=.ok (.lst l) c:=by
 have hb':vX=aB (aE 2 (fN aq)) (aB (bL (bu ⇑0) (aA 3) pH) (aS (ak 2))):=rfl;have e0:(aE 2 (fN aq)) [U (.int q),U X,O,O,O] c=.ok (.nx [U (.int q),U X,U (.ref c.length),O,O]) (c++[.lst []]):=by simp
 have e1:(bL (bu ⇑0) (aA 3) pH) [U (.int q),U X,U (.ref c.length),O,O] (c++[.lst []])=.ok (.nx [U (.int q),U X,U (.ref c.length),u,v]) (c++[.lst l]):=by
  simp only[nC,o4,cY,cX,gz,gs,cQ,R.aH];rw[if_pos ∅]
  exact hf
 rw[kr,iT,hb'];have es:bW 5 [D.int q,X]=[U (.int q),U X,O,O,O]:=rfl;rw[es,gM e0,gM e1];simp[cH]
def shr(M:List (List Int))(a b:Nat):Bool:=(M.getD a []).any λx=>decide (x∈M.getD b [])
theorem YW(l:List Int)(y:Int)(c:aa):inD (.int y) (.lst (l.map D.int)) c=.ok (.bl (decide (y∈l))) c:=by
 have hd:∀l:List Int,eN (l.map D.int)=U (l.map PyData.int):=λl=>by
  induction l with
  |nil=>rfl
  |cons n ns ih=>simp[eN,eF,ih]
 have h1:fC c (.int y)=U (.int y):=rfl;have h2:fC c (.lst (l.map D.int))=U (.list (l.map PyData.int)):=by
  show(match eN (l.map D.int)with|some r=>U (PyData.list r)|none=>O)=_
  rw[hd]
 have h3:((l.map PyData.int).any λz=>z.eqv (.int y))=decide (y∈l):=by
  induction l with
  |nil=>simp
  |cons n ns ih =>
   have ih':=ih (by show(match eN (ns.map D.int)with|some r=>U (PyData.list r)|none=>O)=_;rw[hd])
   rw[O6,List.any_cons,ih'];have:(PyData.int n).eqv (.int y)=decide (n=y):=by
    show decide _=decide _;rfl
   rw[this]
   by_cases q:n=y
   ·subst q;simp
   ·have q':¬y=n:=λe=>q e.symm
    simp[q,q']
 unfold inD;rw[h1,h2];dsimp only;rw[if_pos (by simp[PyData.depth]),h3]
theorem aiP(m:Nat)(q:Nat->Nat->Bool)(i:Nat):(ji m q i).length<=m:=by
 unfold ji;rw[O2];refine PJ (RM _ _) ?_;rw[SR];omega
theorem aaT(m:Nat)(q:Nat->Nat->Bool)(k:Nat):((θ k).flatMap (ji m q)).length<=k*m:=by
 induction k with
 |zero=>simp
 |succ k ih =>
  rw[QC,RW,Pf,SO];have:=aiP m q k;have h2:([k].flatMap (ji m q)).length=(ji m q k).length:=by simp
  omega
def dQ(q:Nat->Nat->Bool):Nat->Nat->Bool:=λi k=>(Nat.blt i k&&q i k)||(Nat.blt k i&&q k i)
theorem Yv{q:Nat->Nat->Bool}(hi:i<m)(hk:k<m):gU (dz m q) i k=dQ q i k:=by
 rw[QI];unfold gU dQ;rw[Qx];simp only[R0,PF,beq_iff_eq,Nat.blt_eq]
 constructor
 ·rintro ⟨p,hp,h⟩
  rw[nT]at hp;obtain⟨a,b⟩:=p
  rcases h with⟨rfl,rfl⟩|⟨rfl,rfl⟩
  ·exact .inl ⟨hp.1,hp.2.2⟩
  ·exact .inr ⟨hp.1,hp.2.2⟩
 ·rintro (⟨h1,h2⟩|⟨h1,h2⟩)
  ·exact⟨(i,k),nT.mpr ⟨h1,hk,h2⟩,.inl ⟨rfl,rfl⟩⟩
  ·exact⟨(k,i),nT.mpr ⟨h1,hi,h2⟩,.inr ⟨rfl,rfl⟩⟩
theorem abK(m:Nat)(f:Nat->Nat->Bool)(p q:Nat):iP m f p q=iP m f q p:=by
 unfold iP
 congr 2
 funext k
 rw[Bool.and_comm]
def dU(m:Nat)(N:Nat->List Nat):List (List Int):=(θ m).map λk=>(N k).map λx:Nat=>(x:Int)
def eB(N:Nat->List Nat)(a b:Nat):Bool:=(N a).any λx=>(N b).any λy=>Nat.beq x y
theorem HQ(N:Nat->List Nat)(ha:a<m)(hb:b<m):shr (dU m N) a b=eB N a b:=by
 have e:∀i,i<m->(dU m N).getD i []=(N i).map λx:Nat=>(x:Int):=λi hi=>by
  unfold dU;simp[I8,hi]
 unfold shr eB;rw[e a ha,e b hb,List.any_map]
 congr 1
 funext x
 rw[QI,Qx];simp only[Function.comp,decide_eq_true_eq,K1,TZ]
 constructor
 ·rintro ⟨y,hy,e⟩
  exact⟨y,hy,∅⟩
 ·rintro ⟨y,hy,rfl⟩
  exact⟨x,hy,rfl⟩
theorem acJ(q:Nat->Nat->Bool):g8 (dQ q):=by
 refine⟨λi=>?_,λi k=>?_⟩
 ·unfold dQ;have:Nat.blt i i=Δ:=by
   cases h:Nat.blt i i with
   |false=>rfl
   |true=>rw[Nat.blt_eq]at h;omega
  rw[this];rfl
 ·unfold dQ;rw[Bool.or_comm]
def cC(f g:Nat->Bool):Nat->Nat->Nat
 |0,s=>s
 |k+1,s=>cC f g k (cond (f k) (cond (g k) (Nat.succ s) s) s)
def z8(f:Nat->Bool):Nat->Nat->Nat
 |0,s=>s
 |k+1,s=>z8 f k (cond (f k) (Nat.succ s) s)
theorem Og(f g:Nat->Bool):∀m s,cC f g m s=s+(θ m).countP λk=>f k&&g k
 |0,s=>rfl
 |m+1,s=>by
  rw[QC,S7,cC,Og f g m];cases hf:f m<;>cases hg:g m<;>simp[hf,hg]<;>omega
theorem NR(f:Nat->Bool):∀m s,z8 f m s=s+(θ m).countP f
 |0,s=>rfl
 |m+1,s=>by
  rw[QC,S7,z8,NR f m];cases hf:f m<;>simp[hf]<;>omega
def qp(P:Nat->Bool):Nat->Bool
 |0=>J
 |k+1=>cond (P k) (qp P k) Δ
theorem sL{P:Nat->Bool}:∀{m:Nat},qp P m=J->∀k,k<m->P k=J
 |0,_,k,hk=>∅
 |m+1,h,k,hk=>by
  rw[qp]at h;cases hP:P m with
  |false=>rw[hP]at h;cases h
  |true =>
   rw[hP]at h
   rcases Qk k m with q|q
   ·exact sL h k q
   ·have:k=m:=∅
    rw[this];exact hP
def wj(P:Nat->Bool):Nat->Bool
 |0=>Δ
 |k+1=>cond (P k) J (wj P k)
theorem AN{P:Nat->Bool}:∀{m:Nat},wj P m=J->∃k,k<m/\P k=J
 |0,h=>by cases h
 |m+1,h=>by
  rw[wj]at h;cases hP:P m with
  |true=>exact⟨m,∅,hP⟩
  |false =>
   rw[hP]at h;obtain⟨k,hk,h'⟩:=AN (m:=m) h;exact⟨k,∅,h'⟩
def Eo(m:Nat)(f:Nat->Nat->Bool)(k a b:Nat):Bool:=qp (λp=>Nat.beq (z8 (f p) m 0) k&&qp (λq=>Nat.beq (cC (f p) (f q) m 0) (cond (f p q) a b)) p) m&&(wj (f 0) m&&wj (λq=>!Nat.beq 0 q && !f 0 q) m)
theorem abj{f:Nat->Nat->Bool}(hw:g8 f)(h:Eo m f k a b=J):wJ m f k a b:=by
 unfold Eo at h;rw[PF,PF]at h;obtain⟨h1,h2,h3⟩:=h;have h0:0<m:=by
  obtain⟨q,hq,_⟩:=AN h2;omega
 have hc:∀p q,p<m->q<p->iP m f p q=cond (f p q) a b:=λp q hp hq=>by
  have:=sL h1 p hp;rw[PF]at this;have:=sL this.2 q hq;rw[TZ,Og,O9]at this;rw[EE];exact this
 refine⟨λp hp=>?_,λp q hp hq hne=>?_,?_,?_⟩
 ·have:=sL h1 p hp;rw[PF,TZ,NR,O9]at this;rw[EC];exact this.1
 ·rcases Uz hne with z|z
  ·rw[abK,hw.2];exact hc q p hq z
  ·exact hc p q hp z
 ·obtain⟨q,hq,h⟩:=AN h2;refine⟨0,q,h0,hq,λe=>?_,h⟩
  rw[<-e,hw.1]at h;cases h
 ·obtain⟨q,hq,h⟩:=AN h3;rw[PF]at h;refine⟨0,q,h0,hq,λe=>?_,?_⟩
  ·rw[<-e]at h;simp at h
  ·simpa using h.2
def gN(w k:Nat):List Nat:=[k/w,10+k % w]
def PL(t:Nat):List (List Nat):=(θ t).flatMap λa=>(List.range' (a+1) (t-(a+1))).map λb=>[a,b]
def pN(t k:Nat):List Nat:=(PL t).getD k []
theorem WB(m:Nat)(q:Nat->Nat->Bool):nu m (dz m q):=λp hp=>by
 obtain⟨h1,h2,_⟩:=nT.mp hp;exact⟨∅,h2,∅⟩
theorem KQ(m:Nat)(N:Nat->List Nat):(dU m N).length=m:=by simp[dU]
theorem Yw(N:Nat->List Nat):∀a b,a<m->b<m->gU (dz m (shr (dU m N))) a b=dQ (eB N) a b:=λa b ha hb=>by
 rw[Yv ha hb];unfold dQ;rw[HQ N ha hb,HQ N hb ha]
theorem Ka{M:List (List Int)}(hX:∀o,o<M.length->aG X ↥o c=.ok (.lst ((M.getD o []).map D.int)) c)(ho:o<M.length):∀(l:List Int) (v:Option D) (acc:List D),bR (λ_=>True) (aA 0) aY yo (l.map D.int) [v,U X,U ↥o] acc c=.ok (acc++(l.map λy=>decide (y∈M.getD o [])).map D.bl) c
 |[],v,acc=>by simp
 |y::l,v,acc=>by
  have h2:yo [U (.int y),U X,U ↥o] c=.ok (.bl (decide (y∈M.getD o []))) c:=by
   unfold yo;simp only[fV,cX,gz,gs,R.aH,hX _ ho,YW]
  have h1:aA 0 (.int y) [v,U X,U ↥o] c=.ok [U (.int y),U X,U ↥o] c:=rfl;have h:=Ka (c:=c) hX ho l (U (.int y)) (acc++[.bl (decide (y∈M.getD o []))]);rw[O6,m9,h1,R.aH,qD,R.aH,if_pos rfl,h2,R.aH,h,QS];rfl
theorem aks{M:List (List Int)}(hX:∀o,o<M.length->aG X ↥o c=.ok (.lst ((M.getD o []).map D.int)) c)(ha:a<M.length)(hb:b<M.length)(hs:∀l∈M,l.length<1000)(v0 v2:Option D):(aI (aK nj (ao yp aq))) [v0,U X,v2,U ↥a,U ↥b] c=.ok (shr M a b) c:=by
 have hsz:=cN (n:=1000) ⋯
 have h:=Ka (c:=c) hX hb (M.getD a []) O [];rw[Pe]at h;have hl:(M.getD a []).length<1000:=by
  rw[I8,O1 ha];exact hs _ (PX ha)
 generalize hB:((M.getD a []).map λy=>decide (y∈M.getD b []))=bs at h
 have hc:yp [v0,U X,v2,U ↥a,U ↥b] c=.ok (.lst (bs.map D.bl)) c:=by
  unfold yo at h;unfold yp;rw[nE];unfold dF;simp only[fV,cX,gz,gs,R.aH,hX _ ha];rw[if_pos (by rw[O2];omega)]
  have:fj [O,U 1,U 4] [v0,U X,v2,U (D.int (a:Int)),U ↥b]=[O,U X,U ↥b]:=rfl;rw[this,h];rfl
 have hany:nj [.lst (bs.map D.bl)] c=.ok (.bl (bs.any id)) c:=by
  unfold nj pD;dsimp only;rw[ER]
 have hsh:shr M a b=bs.any id:=by rw[<-hB,any_map];rfl
 rw[hsh];simp only[xg,qH,cY,hc,cQ,R.aH,hany]
theorem akr{M:List (List Int)}{ps:List (Nat×Nat)}(hX:∀(l:List D) (o:Nat),o<M.length->aG X ↥o (c++[.lst l])=.ok (.lst ((M.getD o []).map D.int)) (c++[.lst l]))(ha:a<M.length)(hb:b<M.length)(hs:∀l∈M,l.length<1000)(hl:ps.length<100000)(v0:Option D):
  rm [v0,U X,U (.ref c.length),U ↥a,U ↥b] (c++[.lst (ps.map aV)])=.ok (.nx [v0,U X,U (.ref c.length),U ↥a,U ↥b]) (c++[.lst ((ps++if shr M a b then[(a,b)]else[]).map aV)]):=by
 have h2:(2:Nat)<=Ω:=cN ⋯
 have ht:=aks (c:=c++[.lst (ps.map aV)]) (hX _) ha hb hs v0 (U (.ref c.length));cases hS:shr M a b with
 |false =>
  rw[hS]at ht;unfold rm;rw[sX,ht];simp
 |true =>
  rw[hS]at ht;have ha:=acQ (c:=c) (acc:=ps.map aV) (y:=aV (a,b)) (dO:=ak 2) (da:=bZ (3⊂4)) (e:=[v0,U X,U (.ref c.length),U ↥a,U ↥b]) (by simp) (by
   simp only[wX,cY,cX,gz,gs,cQ,R.aH,PB,Rn];rw[if_pos h2];rfl) rfl (by rw[O2];omega)
  unfold rm;rw[sX,ht];simp only[R.aH,if_true];rw[wZ,ha,QO];rfl
theorem J9{M:List (List Int)}(hX:∀(l:List D) (o:Nat),o<M.length->aG X ↥o (c++[.lst l])=.ok (.lst ((M.getD o []).map D.int)) (c++[.lst l]))(hM:m<=M.length)(ZZ:a<m)(hs:∀l∈M,l.length<1000)(v0:Option D):∀(bs:List Nat) (ps:List (Nat×Nat)) (v4:Option D),(∀b∈bs,b<m)->ps.length+bs.length<100000 ->
  ∃v,bU (λ_=>True) (aA 4) rm (nD bs) [v0,U X,U (.ref c.length),U ↥a,v4] (c++[.lst (ps.map aV)])=.ok (.nx [v0,U X,U (.ref c.length),U ↥a,v]) (c++[.lst ((ps++(bs.filter (shr M a)).map λb=>(a,b)).map aV)])
 |[],ps,v4,_,_=>⟨v4,by simp[nD]⟩
 |b::bs,ps,v4,hb,hl=>by
  have hb1:=hb b (by simp)
  simp only[PB]at hl;have h1:=akr (c:=c) (ps:=ps) (a:=a) (b:=b) hX ∅ ∅ hs ∅ v0
  obtain⟨v,h⟩:=J9 hX hM ZZ hs v0 bs (ps++if shr M a b then[(a,b)]else[]) (U ↥b) (λx hx=>hb x (by simp[hx])) (by split<;>simp<;>omega)
  refine⟨v,?_⟩;have hg:aA 4 ↥b [v0,U X,U (.ref c.length),U ↥a,v4] (c++[.lst (ps.map aV)])=.ok [v0,U X,U (.ref c.length),U ↥a,U ↥b] (c++[.lst (ps.map aV)]):=rfl;have hn:nD (b::bs)=.int (b:Int)::nD bs:=rfl;rw[hn,iL,hg,R.aH,h1];simp only[R.aH];rw[h];cases hS:shr M a b<;>simp[hS]
theorem akq{M:List (List Int)}(hX:∀(l:List D) (o:Nat),o<M.length->aG X ↥o (c++[.lst l])=.ok (.lst ((M.getD o []).map D.int)) (c++[.lst l]))(hM:m<=M.length)(hs:∀l∈M,l.length<1000)(hm:m<64):
  ∃u v,bU (λ_=>True) (aA 3) pH (aR 0 (m:Int)) [U ↥m,U X,U (.ref c.length),O,O] (c++[.lst []])=.ok (.nx [U ↥m,U X,U (.ref c.length),u,v]) (c++[.lst ((dz m (shr M)).map aV)]):=by
 have hlen:(aR 0 (m:Int)).length=m:=by rw[fX];omega
 obtain⟨e',c',⟨u,v,rfl,rfl⟩,hf⟩:=oJ (g:=aA 3) (s:=pH) (λk e c'=>∃u v,e=[U ↥m,U X,U (.ref c.length),u,v]/\c'=c++[.lst (((θ k).flatMap (ji m (shr M))).map aV)])
  (aR 0 (m:Int)) 0 [U ↥m,U X,U (.ref c.length),O,O] (c++[.lst []]) ⟨O,O,rfl,rfl⟩ (λi x hx e c' ⟨u,v,he,hc⟩=>by
   subst he;subst hc;have hi:i<(aR 0 (m:Int)).length:=(OX.mp hx).1;obtain⟨hlt,rfl⟩:=j5 hx;rw[Sa,O9];have hb:i*m<=64*64:=Qq ∅ ∅
   have hfl:=aaT m (shr M) i;obtain⟨w,h2⟩:=J9 (c:=c) (a:=i) hX hM ∅ hs (U ↥m) (List.range' (i+1) (m-(i+1))) ((θ i).flatMap (ji m (shr M))) v (λb hb=>by rw[RL]at hb;omega) (by rw[SR];omega)
   rw[<-Jb]at h2;refine⟨_,_,_,_,rfl,ako ∅ ∅ h2,_,_,rfl,?_⟩
   rw[QC,RW];simp[ji])
 refine⟨u,v,?_⟩;rw[hf,hlen,O9];rfl
theorem WD{M:List (List Int)}(hX:∀(l:List D) (o:Nat),o<M.length->aG X ↥o (c++[.lst l])=.ok (.lst ((M.getD o []).map D.int)) (c++[.lst l]))(hM:m<=M.length)(hs:∀l∈M,l.length<1000)(hm:m<64):kr [.int (m:Int),X] c=.ok (.lst ((dz m (shr M)).map aV)) c:=by
 obtain⟨u,v,hf⟩:=akq hX hM hs hm;exact akp (c3:=c) ∅ hf
def g4:Nat->Nat->Bool:=dQ (eB (gN 4))
theorem YE(h:AtL c X (bA M))(ho:o<M.length):aG X ↥o c=.ok (.lst ((M.getD o []).map D.int)) c:=by
 have e:M.getD o []=M[o]:=by simp[I8,ho]
 rw[e]
 rcases h with rfl|⟨k,rfl,hk⟩
 ·rw[iE,KP ho]
 ·unfold aG fH;simp only[hk,KP ho]
def B4(q k:Nat):List Nat:=[k,(k+1) % q]
def yM(e k:Nat):List Nat:=[k/e]
theorem two_lst(h1:d1 e c=.ok ↥x c)(h2:d2 e c=.ok ↥y c):bV (ao d1 (ao d2 aq)) e c=.ok (.lst ((([x,y]:List Nat).map λn:Nat=>(n:Int)).map D.int)) c:=by
 have hs:=cN (n:=1000) ⋯
 simp only[qG,cY,h1,h2,cQ,R.aH];rw[if_pos (by show 2<=Ω;omega)]
 rfl
theorem ajE(h1:d1 e c=.ok ↥x c):bV (ao d1 aq) e c=.ok (.lst ((([x]:List Nat).map λn:Nat=>(n:Int)).map D.int)) c:=by
 have hs:=cN (n:=1000) ⋯
 simp only[qG,cY,h1,cQ,R.aH];rw[if_pos (by show 1<=Ω;omega)]
 rfl
theorem C0{N:Nat->List Nat}{pick:List (Option Nat)}(hm:m<60)(hd:d e c=.ok ↥m c)(hp:fj pick e=O::E)(h:∀k,k<m->a (U ↥k::E) c=.ok (.lst (((N k).map λn:Nat=>(n:Int)).map D.int)) c):aX (bu (ao d aq)) pick (aA 0) aY a e c=.ok (.lst (bA (dU m N))) c:=by
 have hc:=nU (E:=E) (a:=a) (c:=c) (λq:Nat=>D.int (q:Int)) (λk:Nat=>D.lst (((N k).map λn:Nat=>(n:Int)).map D.int)) (θ m) (λk hk=>h k (dg.mp hk))
 rw[show((θ m).map λq:Nat=>D.int (q:Int))=aR 0 (m:Int)from(nM m).symm]at hc
 have e1:((θ m).map λk:Nat=>D.lst (((N k).map λx:Nat=>(x:Int)).map D.int))=bA (dU m N):=by
  unfold bA dU;rw[PV];rfl
 rw[e1]at hc;refine iQ (jG (q:=(m:Int)) hd ∅) (tV hm) ?_
 rw[hp];exact hc
theorem KO(k q:Nat)(c:aa)(h:0<q)(h2:q<1000):fq ↥k ↥q c=.ok (.int ((k % q:Nat):Int)) c:=by
 rw[mJ c ∅]
 rfl
theorem NF(k q:Nat)(c:aa)(h:0<q)(h2:q<1000):dX ↥k ↥q c=.ok (.int ((k/q:Nat):Int)) c:=by
 rw[qe c ∅ ∅]
 rfl
def cV:Nat->Nat
 |0=>1
 |n+1=>cV n*(n+1)
theorem xy{n:Nat}(hn:n<=8)(c:aa):gB [.int (n:Int)] c=.ok (.int (cV n:Nat)) c:=by
 have key:∀n:Nat,n<=8->n=0\/n=1\/n=2\/n=3\/n=4\/n=5\/n=6\/n=7\/n=8:=λn h=>∅
 rcases key n hn with rfl|rfl|rfl|rfl|rfl|rfl|rfl|rfl|rfl<;>simp(disch:=omega) [gB,Av,cV,aR,QC,yy]
structure Kn (m:Nat) (N:Nat->List Nat) (q:Nat):Prop where
 pos:1<=m
 few:m<=10\/(m=16/\N=gN 4)
 len:∀k,k<m->(N k).length<1000
 cnt:iI (dQ (eB N)) m m 0 []=q
theorem LH{g h:Nat->Nat->Bool}(e:∀i j,i<m->j<m->g i j=h i j):∀(n k:Nat) (is:List Nat),k+n<=m->is.length<=k->(∀x∈is,x<m)->iI g m n k is=iI h m n k is
 |0,_,_,_,_,_=>rfl
 |n+1,k,is,hk,hl,hi=>by
  have ok:∀a,a<m->∀(l:List Nat) (i:Nat),i+l.length<=k->(∀x∈l,x<m)->j9 g a k i l=j9 h a k i l:=λa ha l=>by
   induction l with
   |nil=>intro i _ _;rfl
   |cons x xs ih =>
    intro i h1 h2;simp only[PB]at h1;unfold j9;rw[e a x ha (h2 x (by simp)),e k i ∅ ∅,ih (i+1) ∅ λy hy=>h2 y (by simp[hy])]
  have sm:∀b,b<=m->nI (λa=>cond (j9 g a k 0 is) (iI g m n (k+1) (is++[a])) 0) b=nI (λa=>cond (j9 h a k 0 is) (iI h m n (k+1) (is++[a])) 0) b:=λb=>by
   induction b with
   |zero=>intro _;rfl
   |succ b ih =>
    intro hb;unfold nI;rw[ih ∅,ok b ∅ is 0 ∅ hi,LH e n (k+1) (is++[b]) ∅ (by simp;omega) λx hx=>by
     rcases PY.mp hx with q|q
     ·exact hi x q
     ·rw[Pa.mp q];omega]
  exact sm m (AP _)
theorem XZ:∀q,q<11->4<=q->iI (dQ (eB (B4 q))) q q 0 []=2*q:=by decide +kernel
theorem LA:iI (dQ (eB (gN 2))) 4 4 0 []=8/\iI (dQ (eB (gN 3))) 9 9 0 []=72:=by decide +kernel
theorem agF:qp (λi=>qp (λj=>dQ (eB (gN 4)) i j==tB 54519077200550552251575643949481295995136999315052060529169113832975636435230 16 i j) 16) 16=J:=by decide +kernel
theorem Lz:iI (dQ (eB (pN 4))) 6 6 0 []=48/\iI (dQ (eB (pN 5))) 10 10 0 []=120:=by decide +kernel
def rQ(l e:Nat):Nat:=if e=1\/l=1 then cV (l*e)else cV l*cV e^l
theorem X7:∀l,l<5->1<=l->∀e,e<3->1<=e->iI (dQ (eB (yM e))) (l*e) (l*e) 0 []=rQ l e:=by decide +kernel
theorem Yb:iI (dQ (eB (gN 4))) 16 16 0 []=1152:=by
 rw[LH (h:=tB 54519077200550552251575643949481295995136999315052060529169113832975636435230 16) (λi j hi hj=>by have:=sL (sL agF i hi) j hj;simpa using this) 16 0 [] ⋯ ⋯ (λx hx=>nomatch hx)]
 exact acC
theorem Wn(M:List (List Int)):bD (bA M)=J:=gS.mpr λd hd=>by
 obtain⟨l,_,rfl⟩:=K1.mp hd;unfold noRef;refine gS.mpr λd hd=>?_
 obtain⟨i,_,rfl⟩:=K1.mp hd;rfl
theorem CV(M:List (List Int)):(bA M).length=M.length:=by simp[bA]
theorem uT(h1:d1 e c=.ok x c)(h2:d2 e c=.ok y c):bV (ao d1 (ao d2 aq)) e c=.ok (.lst [x,y]) c:=by
 have:(2:Nat)<=Ω:=cN ⋯
 simp only[qG,cY,h1,h2,cQ,R.aH];rw[if_pos (by exact this)]
def kT(t k:Nat):List (List Nat):=(θ k).flatMap λa=>(List.range' (a+1) (t-(a+1))).map λb=>[a,b]
def iV(ξ:List (List Nat)):List (List Int):=ξ.map λl=>l.map λx:Nat=>(x:Int)
theorem agL(t:Nat):iV (PL t)=dU (PL t).length (pN t):=by
 unfold iV dU pN;refine Q4 (by simp) λi h1 h2=>?_
 have hi:i<(PL t).length:=by simpa using h1
 simp[I8,O1 hi]
theorem OO(t:Nat):∀k,(kT t k).length<=k*t
 |0=>by simp[kT]
 |k+1=>by
  have ih:=OO t k;have e:kT t (k+1)=kT t k++(List.range' (k+1) (t-(k+1))).map λb=>[k,b]:=by
   unfold kT;rw[QC,RW];simp
  rw[e,Pf,SO,O2,SR];omega
def Ca:af:=(bV (1⊂0))
theorem aba(a:Nat)(bs:List Nat)(c:aa):bR (λ_=>True) (aA 0) aY Ca (nD bs) [O,U ↥a] [] c=.ok (bA (iV (bs.map λb=>[a,b]))) c:=by
 have:=kI (E:=[U ↥a]) (t:=aY) (a:=Ca) (c:=c) (λo:Nat=>D.int (o:Int)) (λo=>.lst [.int (a:Int),.int (o:Int)]) (λ_=>J) bs O [] (λx _=>rfl) (λo ho _=>uT rfl rfl)
 rw[List.filter_eq_self.mpr (λ_ _=>rfl),Pe]at this
 refine this.trans ?_
 congr 1
 simp[bA,iV]
theorem Hr(c:aa)(n:Nat):∀l:List Int,ie c n (l.map D.int)=U (l.map D.int)
 |[]=>by simp[ie]
 |i::l=>by rw[O6];unfold ie;rw[Hr c n l];simp[eg]
theorem Hq(c:aa)(n:Nat):∀M:List (List Int),ie c n (bA M)=U (bA M)
 |[]=>by simp[bA,ie]
 |l::M=>by
  have ih:=Hq c n M;unfold bA at ih ⊢;rw[O6];unfold ie;rw[ih];unfold eg;rw[Hr]
theorem Di(h:b (bW 11 [X]) c=.ok (.rt (.lst [.lst (bA M),.int q])) c')(hl:c'.length=c.length):jV 11 b [X] c=.ok (.lst [.lst (bA M),.int q]) c':=by
 rw[sY,h];simp only[R.aH];unfold jW;have e:eg c' c.length (.lst [.lst (bA M),.int q])=U (.lst [.lst (bA M),.int q]):=by
  simp[eg,ie,Hq]
 rw[e,<-hl,Q3]
theorem XX(h:b (bW 11 [X]) c=.ok (.rt (.lst [.ref c.length,.int q])) (c'++[.lst (bA M)]))(hl:c'.length=c.length):jV 11 b [X] c=.ok (.lst [.lst (bA M),.int q]) c':=by
 rw[sY,h];simp only[R.aH];unfold jW;have hg:(c'++[Cell.lst (bA M)])[c.length]? = U (.lst (bA M)):=by rw[<-hl];simp
 have e:eg (c'++[.lst (bA M)]) c.length (.lst [.ref c.length,.int q])=U (.lst [.lst (bA M),.int q]):=by
  simp[eg,ie,hg]
 rw[e,<-hl,Tn]
def Dm:ah:=(aB (aE 2 (av aZ (dC (.int 4)) (aD 2 b8 (ao (ak 0) (ao (dC (.int 7)) aq))))) (aS (bV (ao (aX (bu ⇑2) [O,U 2] (aA 0) aY (bV (ao (ak 0) (ao (av fq (av aZ (ak 0) (dC (.int 1))) (ak 1)) aq)))) (ao (av bY (dC (.int 2)) (ak 2)) aq)))))
def Dl:ah:=(aB (aE 3 (av aZ (dC (.int 2)) (aD 2 b8 (ao (ak 0) (ao (dC (.int 3)) aq))))) (aS (bV (ao (aX (bu (ao (av bY (ak 3) (ak 3)) aq)) [O,U 3] (aA 0) aY (bV (ao (av dX (ak 0) (ak 1)) (ao (av aZ (dC (.int 10)) (av fq (ak 0) (ak 1))) aq)))) (ao (av bY (av bY (dC (.int 2)) (aD 1 gB ⇑3)) (aD 1 gB ⇑3)) aq)))))
def Dn:ah:=(fh (gG (ak 5) (aX (gv (ao (av aZ (ak 6) (dC (.int 1))) ⇑4)) [O,U 6] (aA 0) aY Ca)))
def Dk:ah:=(aB (aE 4 (av aZ (dC (.int 4)) (aD 2 b8 (ao (ak 0) (ao (dC (.int 2)) aq))))) (aB (aE 5 (fN aq)) (aB (bL (bu ⇑4) (aA 6) Dn) (aS (bV (ao (ak 5) (ao (av aG (bV (ao (dC (.int 48)) (ao (dC (.int 120)) aq))) (av k6 (ak 4) (dC (.int 4)))) aq)))))))
def Dj:ah:=(aB (aE 7 (av aZ (dC (.int 1)) (aD 2 b8 (ao (ak 0) (ao (dC (.int 4)) aq))))) (aB (aE 8 (av aZ (dC (.int 1)) (aD 2 b8 (ao (ak 0) (ao (dC (.int 2)) aq))))) (aB (aE 9 (aD 1 gB ⇑7)) (aB (bL (bu ⇑7) (aA 10) (aE 9 (av bY (ak 9) (aD 1 gB ⇑8)))) (aB (bC (kM (aI (av bH (ak 8) (dC (.int 1)))) (aI (av bH (ak 7) (dC (.int 1))))) (aE 9 (aD 1 gB (ao (av bY (ak 7) (ak 8)) aq))) bQ) (aS (bV (ao (aX (bu (ao (av bY (ak 7) (ak 8)) aq)) [O,U 8] (aA 0) aY (bV (ao (av dX (ak 0) (ak 1)) aq))) ⇑9))))))))
theorem X8:vY=aB (aE 1 (aD 2 b8 (ao (ak 0) (ao (dC (.int 5)) aq)))) (aB (bC (aI (av bH (ak 1) (dC (.int 0)))) Dm bQ) (aB (bC (aI (av bH (ak 1) (dC (.int 1)))) Dl bQ) (aB (bC (aI (av bH (ak 1) (dC (.int 2)))) Dk bQ) Dj))):=rfl
theorem wm(h0:e[0]? = U (U (.ref j)))(t:b8 [.ref j,.int b] c=.ok (.int x) c'):av aZ (dC (.int a)) (aD 2 b8 (ao (ak 0) (ao (dC (.int b)) aq))) e c=.ok (.int (a+x)) c':=by
 rw[fV,jB,R.aH,sJ (x:=.ref j) (y:=.int b) (v:=.int x) (by rw[cX,h0]) rfl t]
 rfl
section
variable {j n:Nat}{w:D}{c:aa}
def cA(j:Nat)(w:D)(v2 v3 v4 v5 v6 v7 v8 v9 v10:Option D):Ev:=[U (.ref j),U w,v2,v3,v4,v5,v6,v7,v8,v9,v10]
theorem Yg(hP:ck j n c):∃m N q c',Kn m N q/\ck j n c'/\Dm (cA j w O O O O O O O O O) c=.ok (.rt (.lst [.lst (bA (dU m N)),.int (q:Int)])) c':=by
 obtain⟨x,c1,x0,x1,P1,t1⟩:=qP (cJ:=7) hP ⋯ ⋯
 obtain⟨y,rfl⟩:=jj x0;refine⟨4+y,B4 (4+y),2*(4+y),c1,⟨∅,.inl ∅,λk _=>(by decide:(2:Nat)<1000),XZ _ ∅ ∅⟩,P1,?_⟩
 have s1:aE 2 (av aZ (dC (.int 4)) (aD 2 b8 (ao (ak 0) (ao (dC (.int 7)) aq)))) (cA j w O O O O O O O O O) c=.ok (.nx (cA j w (U (.int ((4+y:Nat):Int))) O O O O O O O O)) c1:=k7 (wm (j:=j) rfl t1);have mk:=C0 (m:=4+y) (N:=B4 (4+y)) (a:=(bV (ao (ak 0) (ao (av fq (av aZ (ak 0) (dC (.int 1))) (ak 1)) aq)))) (E:=[U (.int ((4+y:Nat):Int))]) (pick:=[O,U 2]) (e:=cA j w (U (.int ((4+y:Nat):Int))) O O O O O O O O) (d:=ak 2) (c:=c1) ∅ rfl rfl (λk hk=>two_lst (y:=(k+1) % (4+y)) rfl (bw (x:=.int ((k+1:Nat):Int)) (y:=.int ((4+y:Nat):Int)) rfl rfl (KO (k+1) (4+y) c1 ∅ ∅)))
 exact bP s1 (eY (uT mk (bw (x:=.int 2) (y:=.int ((4+y:Nat):Int)) rfl rfl (by rw[jZ,if_pos (.inl ⋯)];rfl))))
theorem aap(h:y<3):Kn ((2+y)*(2+y)) (gN (2+y)) (2*cV (2+y)*cV (2+y)):=by
 have:y=0\/y=1\/y=2:=∅
 rcases this with rfl|rfl|rfl
 ·exact⟨⋯,.inl ⋯,λk _=>(by decide:(2:Nat)<1000),LA.1⟩
 ·exact⟨⋯,.inl ⋯,λk _=>(by decide:(2:Nat)<1000),LA.2⟩
 ·exact⟨⋯,.inr ⟨⋯,rfl⟩,λk _=>(by decide:(2:Nat)<1000),Yb⟩
theorem Ye(hP:ck j n c):∃m N q c',Kn m N q/\ck j n c'/\Dl (cA j w O O O O O O O O O) c=.ok (.rt (.lst [.lst (bA (dU m N)),.int (q:Int)])) c':=by
 obtain⟨x,c1,x0,x1,P1,t1⟩:=qP (cJ:=3) hP ⋯ ⋯
 obtain⟨y,rfl⟩:=jj x0;have hy:(2+y)*(2+y)<=16:=Qq (show 2+y<=4 by omega) (show 2+y<=4 by omega)
 refine⟨(2+y)*(2+y),gN (2+y),2*cV (2+y)*cV (2+y),c1,aap ∅,P1,?_⟩
 have s1:aE 3 (av aZ (dC (.int 2)) (aD 2 b8 (ao (ak 0) (ao (dC (.int 3)) aq)))) (cA j w O O O O O O O O O) c=.ok (.nx (cA j w O (U (.int ((2+y:Nat):Int))) O O O O O O O)) c1:=k7 (wm (j:=j) rfl t1);have tm:=xy (n:=2+y) ∅ c1
 have hm:av bY (ak 3) (ak 3) (cA j w O (U (.int ((2+y:Nat):Int))) O O O O O O O) c1=.ok (.int (((2+y)*(2+y):Nat):Int)) c1:=bw (x:=.int ((2+y:Nat):Int)) (y:=.int ((2+y:Nat):Int)) rfl rfl (by rw[jZ,if_pos (.inl ∅),RX])
 have mk:=C0 (m:=(2+y)*(2+y)) (N:=gN (2+y)) (a:=(bV (ao (av dX (ak 0) (ak 1)) (ao (av aZ (dC (.int 10)) (av fq (ak 0) (ak 1))) aq)))) (E:=[U (.int ((2+y:Nat):Int))]) (pick:=[O,U 3]) (e:=cA j w O (U (.int ((2+y:Nat):Int))) O O O O O O O) (c:=c1) ∅ hm rfl (λk hk=>two_lst (x:=k/(2+y)) (y:=10+k % (2+y)) (bw (x:=.int (k:Int)) (y:=.int ((2+y:Nat):Int)) rfl rfl (NF k (2+y) c1 ∅ ∅)) (bw (x:=.int 10) (y:=.int ((k % (2+y):Nat):Int)) rfl (bw (x:=.int (k:Int)) (y:=.int ((2+y:Nat):Int)) rfl rfl (KO k (2+y) c1 ∅ ∅)) rfl))
 have hF:cV (2+y)<=1000:=by
  have:y=0\/y=1\/y=2:=∅
  rcases this with rfl|rfl|rfl<;>decide
 generalize cV (2+y)=F at tm hF
 have G9:aD 1 gB ⇑3 (cA j w O (U (.int ((2+y:Nat):Int))) O O O O O O O) c1=.ok ↥F c1:=gc (x:=.int ((2+y:Nat):Int)) rfl tm;have m1:bY (.int 2) ↥F c1=.ok (.int ((2*F:Nat):Int)) c1:=by rw[jZ,if_pos (.inl ⋯)];rfl
 have m2:bY (.int ((2*F:Nat):Int)) ↥F c1=.ok (.int ((2*F*F:Nat):Int)) c1:=by rw[jZ,if_pos (.inr ∅),<-RX]
 exact bP s1 (eY (uT mk (bw (bw rfl G9 m1) G9 m2)))
theorem Yo{t a:Nat}{M:List (List Int)}{c:aa}(ht:t<8)(ha:a<t)(hl:M.length<10000)(v7 v8 v9 v10:Option D) :
  Dn (cA j w O O (U ↥t) (U (.ref c.length)) (U ↥a) v7 v8 v9 v10) (c++[.lst (bA M)])=.ok (.nx (cA j w O O (U ↥t) (U (.ref c.length)) (U ↥a) v7 v8 v9 v10)) (c++[.lst (bA (M++iV ((List.range' (a+1) (t-(a+1))).map λb=>[a,b])))]):=by
 have k2:=aba a (List.range' (a+1) (t-(a+1))) (c++[.lst (bA M)]);rw[<-Jb]at k2;have hadd:av aZ (ak 6) (dC (.int 1)) (cA j w O O (U ↥t) (U (.ref c.length)) (U ↥a) v7 v8 v9 v10) (c++[.lst (bA M)])=.ok (.int ((a:Int)+1)) (c++[.lst (bA M)]):=rfl;have k3:=iQ (pick:=[O,U 6]) (e:=cA j w O O (U ↥t) (U (.ref c.length)) (U ↥a) v7 v8 v9 v10) (Jd (d2:=ak 4) (q:=(t:Int)) hadd rfl ∅ ∅) (ag9 ∅) k2
 have hb:(bA (iV ((List.range' (a+1) (t-(a+1))).map λb=>[a,b]))).length<=60:=by
  rw[CV,iV,O2,O2,SR];omega
 have hs:=agS;have k4:=EA (aa7 (dO:=ak 5) (k:=c.length) (acc:=bA M) rfl k3 (by simp) (by rw[CV];omega) (Wn _))
 refine k4.trans ?_;rw[To _ _ (AP _)];simp[bA]
theorem Yd(hP:ck j n c):∃m N q c',Kn m N q/\ck j n c'/\Dk (cA j w O O O O O O O O O) c=.ok (.rt (.lst [.ref n,.int (q:Int)])) (c'++[.lst (bA (dU m N))]):=by
 obtain⟨x,c1,x0,x1,P1,t1⟩:=qP (cJ:=2) hP ⋯ ⋯
 obtain⟨y,rfl⟩:=jj x0;have hl1:=P1.1
 generalize ht:4+y=t
 have s1:aE 4 (av aZ (dC (.int 4)) (aD 2 b8 (ao (ak 0) (ao (dC (.int 2)) aq)))) (cA j w O O O O O O O O O) c=.ok (.nx (cA j w O O (U ↥t) O O O O O O)) c1:=by
  rw[<-ht];exact k7 (wm (j:=j) rfl t1)
 have s2:aE 5 (fN aq) (cA j w O O (U ↥t) O O O O O O) c1=.ok (.nx (cA j w O O (U ↥t) (U (.ref c1.length)) O O O O O)) (c1++[.lst []]):=k7 (by
  unfold fN;rw[cQ];simp only[R.aH];rw[if_pos ⟨by show 0<=Ω;omega,rfl⟩])
 have hlen:(aR 0 (t:Int)).length=t:=by rw[fX];omega
 obtain⟨e',c',⟨v,rfl,rfl⟩,hf⟩:=oJ (g:=aA 6) (s:=Dn) (λk e c'=>∃v,e=cA j w O O (U ↥t) (U (.ref c1.length)) v O O O O/\c'=c1++[.lst (bA (iV (kT t k)))])
  (aR 0 (t:Int)) 0 (cA j w O O (U ↥t) (U (.ref c1.length)) O O O O O) (c1++[.lst []]) ⟨O,rfl,rfl⟩ (λi z hz e c' ⟨v,he,hc⟩=>by
   subst he;subst hc;have hi:i<(aR 0 (t:Int)).length:=(OX.mp hz).1;obtain⟨hlt,rfl⟩:=j5 hz;rw[Sa,O9];have hfl:=OO t i;have hb:i*t<=8*8:=Qq ∅ ∅
   have h2:=Yo (j:=j) (w:=w) (c:=c1) (t:=t) (a:=i) (M:=iV (kT t i)) ∅ ∅ (by rw[iV,O2];omega) O O O O
   refine⟨_,_,_,_,rfl,h2,_,rfl,?_⟩;have e:iV (kT t (i+1))=iV (kT t i)++iV ((List.range' (i+1) (t-(i+1))).map λb=>[i,b]):=by
    unfold kT;rw[QC,RW];simp[iV]
   rw[e])
 rw[hlen,O9]at hf;have Z4:kT t t=PL t:=rfl;rw[Z4,agL]at hf;have hq:Kn (PL t).length (pN t) (if t=4 then 48 else 120):=by
  have:t=4\/t=5:=∅
  rcases this with rfl|rfl
  ·exact⟨⋯,.inl ⋯,⋯,Lz.1⟩
  ·exact⟨⋯,.inl ⋯,⋯,Lz.2⟩
 have hi:av aG (bV (ao (dC (.int 48)) (ao (dC (.int 120)) aq))) (av k6 (ak 4) (dC (.int 4))) (cA j w O O (U ↥t) (U (.ref c1.length)) v O O O O) (c1++[.lst (bA (dU (PL t).length (pN t)))])=.ok (.int ((if t=4 then 48 else 120:Nat):Int)) (c1++[.lst (bA (dU (PL t).length (pN t)))]):=by
  have hs:=cN (n:=1000) ⋯
  have k2:(2:Nat)<=Ω:=∅
  generalize c1++[.lst (bA (dU (PL t).length (pN t)))]=C
  have:t=4\/t=5:=∅
  rcases this with rfl|rfl
  ·refine bw (x:=.lst [.int 48,.int 120]) (y:=.int 0) (by simp[k2]) rfl rfl
  ·refine bw (x:=.lst [.int 48,.int 120]) (y:=.int 1) (by simp[k2]) rfl rfl
 subst hl1;exact⟨(PL t).length,pN t,_,c1,hq,P1,bP s1 (bP s2 (bP (lO (jG (q:=(t:Int)) rfl ∅) hf) (eY (uT rfl hi))))⟩
end
theorem Xn(h1:1<=l)(h2:l<5)(h3:1<=e)(h4:e<3):Kn (l*e) (yM e) (rQ l e):=by
 have hm:l*e<=4*2:=Qq ∅ ∅
 have hp:1*1<=l*e:=Qq h1 h3;exact⟨∅,.inl ∅,λk _=>(by decide:(1:Nat)<1000),X7 l h2 h1 e h4 h3⟩
section
variable {j n:Nat}{w:D}{c:aa}
theorem Yc(hP:ck j n c):∃m N q c',Kn m N q/\ck j n c'/\Dj (cA j w O O O O O O O O O) c=.ok (.rt (.lst [.lst (bA (dU m N)),.int (q:Int)])) c':=by
 obtain⟨x,c1,x0,x1,P1,t1⟩:=qP (cJ:=4) hP ⋯ ⋯
 obtain⟨x,rfl⟩:=jj x0;obtain⟨y,c2,y0,y1,P2,t2⟩:=qP (cJ:=2) P1 ⋯ ⋯
 obtain⟨y,rfl⟩:=jj y0;have s1:aE 7 (av aZ (dC (.int 1)) (aD 2 b8 (ao (ak 0) (ao (dC (.int 4)) aq)))) (cA j w O O O O O O O O O) c=.ok (.nx (cA j w O O O O O (U (.int ((1+x:Nat):Int))) O O O)) c1:=k7 (wm (j:=j) rfl t1);have s2:aE 8 (av aZ (dC (.int 1)) (aD 2 b8 (ao (ak 0) (ao (dC (.int 2)) aq)))) (cA j w O O O O O (U (.int ((1+x:Nat):Int))) O O O) c1=.ok (.nx (cA j w O O O O O (U (.int ((1+x:Nat):Int))) (U (.int ((1+y:Nat):Int))) O O)) c2:=k7 (wm (j:=j) rfl t2)
 generalize hl:1+x=l at s1 s2
 generalize he:1+y=e at s2
 have tl:=xy (n:=l) ∅ c2
 have te:=xy (n:=e) ∅ c2
 have hm:l*e<=4*2:=Qq ∅ ∅
 have tm:=xy (n:=l*e) ∅ c2
 have s3:aE 9 (aD 1 gB ⇑7) (cA j w O O O O O (U ↥l) (U ↥e) O O) c2=.ok (.nx (cA j w O O O O O (U ↥l) (U ↥e) (U (.int (cV l:Nat))) O)) c2:=dj (gc (x:=.int (l:Int)) rfl tl);have hF:cV l<=24/\cV e<=2:=by
  have h1:l=1\/l=2\/l=3\/l=4:=∅
  have h2:e=1\/e=2:=∅
  constructor
  ·rcases h1 with rfl|rfl|rfl|rfl<;>decide
  ·rcases h2 with rfl|rfl<;>decide
 have hlen:(aR 0 (l:Int)).length=l:=by rw[fX];omega
 obtain⟨e',c',⟨v,hE,hC⟩,hf⟩:=oJ (g:=aA 10) (s:=aE 9 (av bY (ak 9) (aD 1 gB ⇑8))) (λi E c'=>∃v,E=cA j w O O O O O (U ↥l) (U ↥e) (U (.int ((cV l*cV e^i:Nat):Int))) v/\c'=c2)
  (aR 0 (l:Int)) 0 (cA j w O O O O O (U ↥l) (U ↥e) (U (.int (cV l:Nat))) O) c2 ⟨O,by simp,rfl⟩ (λi z hz E c' ⟨v,hE,hc⟩=>by
   subst hE;subst hc;rw[O9];have hs:aE 9 (av bY (ak 9) (aD 1 gB ⇑8)) (cA j w O O O O O (U ↥l) (U ↥e) (U (.int ((cV l*cV e^i:Nat):Int))) (U z)) c'=.ok (.nx (cA j w O O O O O (U ↥l) (U ↥e) (U (.int ((cV l*cV e^i*cV e:Nat):Int))) (U z))) c':=dj (bw (x:=.int ((cV l*cV e^i:Nat):Int)) (y:=.int (cV e:Nat)) rfl (gc (x:=.int (e:Int)) rfl te) (by rw[jZ,if_pos (.inr ∅),<-RX]))
   rw[Nat.mul_assoc,<-Ue]at hs;exact⟨_,_,_,_,rfl,hs,U z,rfl,rfl⟩)
 rw[hE,hC,hlen,O9]at hf;have s5:bC (kM (aI (av bH (ak 8) (dC (.int 1)))) (aI (av bH (ak 7) (dC (.int 1))))) (aE 9 (aD 1 gB (ao (av bY (ak 7) (ak 8)) aq))) bQ (cA j w O O O O O (U ↥l) (U ↥e) (U (.int ((cV l*cV e^l:Nat):Int))) v) c2=.ok (.nx (cA j w O O O O O (U ↥l) (U ↥e) (U (.int ((rQ l e:Nat):Int))) v)) c2:=by
  have a1:aI (av bH (ak 8) (dC (.int 1))) (cA j w O O O O O (U ↥l) (U ↥e) (U (.int ((cV l*cV e^l:Nat):Int))) v) c2=.ok (decide (e=1)) c2:=eO (bw (x:=.int (e:Int)) (y:=.int ((1:Nat):Int)) rfl rfl (qd e 1 c2));have a2:aI (av bH (ak 7) (dC (.int 1))) (cA j w O O O O O (U ↥l) (U ↥e) (U (.int ((cV l*cV e^l:Nat):Int))) v) c2=.ok (decide (l=1)) c2:=eO (bw (x:=.int (l:Int)) (y:=.int ((1:Nat):Int)) rfl rfl (qd l 1 c2));have a3:kM (aI (av bH (ak 8) (dC (.int 1)))) (aI (av bH (ak 7) (dC (.int 1)))) (cA j w O O O O O (U ↥l) (U ↥e) (U (.int ((cV l*cV e^l:Nat):Int))) v) c2=.ok (decide (e=1\/l=1)) c2:=by
   rw[afM,a1,R.aH]
   by_cases q:e=1
   ·simp[q]
   ·rw[if_neg (by simp[q]),a2];simp[q]
  unfold rQ
  by_cases q:e=1\/l=1
  ·rw[decide_eq_true q]at a3;rw[if_pos q];exact lH a3 (dj (gc (x:=.int ((l*e:Nat):Int)) (bw (x:=.int (l:Int)) (y:=.int (e:Int)) rfl rfl (by rw[jZ,if_pos (.inl ∅),<-RX])) tm))
  ·rw[decide_eq_false q]at a3;rw[if_neg q];exact gX a3 rfl
 have hmul:av bY (ak 7) (ak 8) (cA j w O O O O O (U ↥l) (U ↥e) (U (.int ((rQ l e:Nat):Int))) v) c2=.ok (.int ((l*e:Nat):Int)) c2:=bw (x:=.int (l:Int)) (y:=.int (e:Int)) rfl rfl (by rw[jZ,if_pos (.inl ∅),<-RX])
 have mk:=C0 (m:=l*e) (N:=yM e) (a:=(bV (ao (av dX (ak 0) (ak 1)) aq))) (E:=[U ↥e]) (pick:=[O,U 8]) (c:=c2) ∅ hmul rfl (λk hk=>ajE (x:=k/e) (bw (x:=.int (k:Int)) (y:=.int (e:Int)) rfl rfl (NF k e c2 ∅ ∅)))
 exact⟨l*e,yM e,rQ l e,c2,Xn ∅ ∅ ∅ ∅,P2,bP s1 (bP s2 (bP s3 (bP (lO (jG (q:=(l:Int)) rfl ∅) hf) (bP s5 (eY (uT mk rfl))))))⟩
theorem XW(hP:ck j n c)(hn:n=c.length):∃m N q c',Kn m N q/\ck j n c'/\yK [.ref j] c=.ok (.lst [.lst (bA (dU m N)),.int (q:Int)]) c':=by
 obtain⟨x,c1,x0,x1,P1,t1⟩:=qP (cJ:=5) hP ⋯ ⋯
 have hl1:c1.length=c.length:=by rw[P1.1,hP.1]
 have s1:aE 1 (aD 2 b8 (ao (ak 0) (ao (dC (.int 5)) aq))) (bW 11 [.ref j]) c=.ok (.nx (cA j (.int x) O O O O O O O O O)) c1:=k7 (sJ (x:=.ref j) (y:=.int 5) rfl rfl t1);have tq:∀k:Int,aI (av bH (ak 1) (dC (.int k))) (cA j (.int x) O O O O O O O O O) c1=.ok (decide (x=k)) c1:=λk=>eO (bw (x:=.int x) (y:=.int k) rfl rfl (wY _ _ _))
 have key:∀{r:R Fl},aB (bC (aI (av bH (ak 1) (dC (.int 0)))) Dm bQ) (aB (bC (aI (av bH (ak 1) (dC (.int 1)))) Dl bQ) (aB (bC (aI (av bH (ak 1) (dC (.int 2)))) Dk bQ) Dj)) (cA j (.int x) O O O O O O O O O) c1=r->vY (bW 11 [.ref j]) c=r:=λh=>by
  rw[X8];exact bP s1 h
 have t0:=tq 0;have t1':=tq 1;have t2:=tq 2
 by_cases q0:x=0
 ·obtain⟨m,N,q,c',h1,h2,h3⟩:=Yg (w:=.int x) P1;rw[decide_eq_true q0]at t0;exact⟨m,N,q,c',h1,h2,Di (key (nL (lH t0 h3))) (by rw[h2.1,hP.1])⟩
 rw[decide_eq_false q0]at t0
 by_cases q1:x=1
 ·obtain⟨m,N,q,c',h1,h2,h3⟩:=Ye (w:=.int x) P1;rw[decide_eq_true q1]at t1';exact⟨m,N,q,c',h1,h2,Di (key (bP (gX t0 rfl) (nL (lH t1' h3)))) (by rw[h2.1,hP.1])⟩
 rw[decide_eq_false q1]at t1'
 by_cases q2:x=2
 ·obtain⟨m,N,q,c',h1,h2,h3⟩:=Yd (w:=.int x) P1;rw[decide_eq_true q2]at t2;subst hn;exact⟨m,N,q,c',h1,h2,XX (key (bP (gX t0 rfl) (bP (gX t1' rfl) (nL (lH t2 h3))))) h2.1⟩
 rw[decide_eq_false q2]at t2;obtain⟨m,N,q,c',h1,h2,h3⟩:=Yc (w:=.int x) P1;exact⟨m,N,q,c',h1,h2,Di (key (bP (gX t0 rfl) (bP (gX t1' rfl) (bP (gX t2 rfl) h3)))) (by rw[h2.1,hP.1])⟩
end
theorem Xh(i:Int)(c:aa):yH [.int i] c=.ok (.bl J) c:=by simp[yH,As]
theorem same_int(i:Int)(k:Nat)(c:aa):kq (k+1) [.int i,.int i] c=.ok (.bl J) c:=by simp[kq,Ax,Xh]
theorem tu{f:Nat->Nat->Bool}(h:g8 f):fD f:=⟨h.1,h.2⟩
theorem WO{os:List Nat}(hp:os.Perm (θ m))(f:Nat->Nat->Bool):eS m f (dS os f m 0) os:=⟨hp,λi j hi hj=>by
 have hl:=fY hp;have hn:os.Nodup:=hp.nodup_iff.mpr QY;have g:∀i,i<m->os.idxOf (aC os i)=i:=λi hi=>by
  have e:aC os i=os[i]'∅:=by simp[aC,I8,hl,hi]
  rw[e];exact yT hn ∅
 unfold dS;rw[g i hi,g j hj,if_pos (.inl hi),if_pos ∅]⟩
theorem I0(f:Nat->Nat->Bool)(hm:m<60)(c:aa):nW [bh m f] c=.ok (aP (wF m f)) c:=by rw[aim f ∅ c,ail]
theorem agf{f g:Nat->Nat->Bool}(h:∀i j,i<m->j<m->f i j=g i j):bh m f=bh m g:=by
 unfold bh
 congr 1
 refine Pk λi hi=>?_
 unfold bT
 congr 1
 exact Pk λk hk=>by rw[h i k (dg.mp hi) (dg.mp hk)]
theorem CU{f:Nat->Nat->Bool}(h0:0<m)(hm:m<=16)(hw:fD f)(h1:jl [aP (wF m f),.int 10,.int 16] cc=.ok .aF cc)(hL:gf (eS m f f) ξ):jO [aP (wF m f)] cc=.ok (.int (ξ.length:Nat)) cc:=by
 obtain⟨K,hK,h⟩:=Xg h0 hm hw h1;rw[h,abv hK hL]
theorem Ek(f:Nat->Nat->Bool)(hm:m<=10)(cc:aa):jl [aP (wF m f),.int 10,.int 16] cc=.ok .aF cc:=aa2 (m:=m) (by rw[mP,jd]) hm
theorem aa4{f:Nat->Nat->Bool}(hf:g8 f)(h:wJ 16 f 6 2 2)(cc:aa):jl [aP (wF 16 f),.int 10,.int 16] cc=.ok .aF cc:=by
 have hev:=abe (afB (m:=16) f ⋯) (by rw[jd];decide) cc
 rw[abh h hf]at hev;exact aa3 (m:=16) (by rw[mP,jd]) ⋯ (abf hev)
theorem abg:Eo 16 (dQ (eB (gN 4))) 6 2 2=J:=by decide +kernel
theorem X0{N:Nat->List Nat}{os:List Nat}(h:Kn m N q)(hp:os.Perm (θ m))(cc:aa):jO [aP (wF m (dS os (dQ (eB N)) m 0))] cc=.ok ↥q cc:=by
 have w0:=acJ (eB N);have w1:=KL w0 (fY hp);have i1:=WO hp (dQ (eB N));have hm:m<=16:=by rcases h.few with q|q<;>omega
 have hq:(eL m (dQ (eB N)) m 0 []).length=q:=(LG _ m m 0 [] rfl).trans h.cnt;have hfew:jl [aP (wF m (dS os (dQ (eB N)) m 0)),.int 10,.int 16] cc=.ok .aF cc:=by
  rcases h.few with a|⟨a,b⟩
  ·exact Ek _ a cc
  ·subst a;subst b;exact aa4 w1 ((WM hp (f:=dQ (eB (gN 4))) (λ_ _ _ _=>rfl)).ev (abj w0 abg)) cc
 have hE:=z5 (m:=m) (tu w1);rw[CU h.pos hm (tu w1) hfew hE,<-abu i1 (z5 (tu w0)) hE,hq]
theorem XY{N:Nat->List Nat}(h:Kn m N q)(c:aa):kr [.int (m:Int),.lst (bA (dU m N))] c=.ok (.lst ((dz m (shr (dU m N))).map aV)) c/\nY [.int (m:Int),.lst ((dz m (shr (dU m N))).map aV)] c=.ok (bh m (dQ (eB N))) c:=by
 have hm:m<=16:=by rcases h.few with q|q<;>omega
 refine⟨WD (c:=c) (X:=.lst (bA (dU m N))) (M:=dU m N) (m:=m) (λl o ho=>YE (.inl rfl) ho) (by rw[KQ];exact AP _) (λl hl=>?_) ∅,?_⟩
 ·unfold dU at hl;rw[K1]at hl;obtain⟨i,hi,rfl⟩:=hl;rw[O2];exact h.len i (dg.mp hi)
 ·have hj:=LK (m:=m) (X:=.lst ((dz m (shr (dU m N))).map aV)) (c:=c) (WB m _).isIn ∅ (.inr rfl)
  rwa[agf (g:=dQ (eB N)) λi j hi hj=>Yw (m:=m) N i j hi hj]at hj
def p1:ah:=(aE 2 (aD 1 rG (ao (aD 2 rJ (0⊂1)) aq)))
def p2:ah:=(aE 3 (aD 2 rK (ao (ak 2) (ao (dC (.int 6)) aq))))
def p3:ah:=(bC (gw (aI (aD 2 (kq 3) (ao (aD 1 jO (ao (aD 1 nW ⇑3) aq)) (ao (aD 2 (lF 8) (ao (ak 3) (ao (bV aq) aq))) aq))))) (aS (dC (.bl Δ))) bQ)
def p4:ah:=(iW (aD 1 yK ⇑2) (zj 2 (b9 (aA 4) (b9 (aA 5) fB))))
def p5:ah:=(aE 3 (aD 2 rH (ao (aD 2 nY (ao (aK aT ⇑4) (ao (aD 2 kr (ao (aK aT ⇑4) ⇑4)) aq))) (ao (aD 2 nX (ao (ak 2) (ao (aK aT ⇑4) aq))) aq))))
def p6:ah:=(bC (gw (aI (aD 2 (kq 3) (ao (aD 1 jO (ao (aD 1 nW ⇑3) aq)) ⇑5)))) (aS (dC (.bl Δ))) bQ)
def yc:ah:=aB p1 (aB p2 (aB p3 (aB p4 (aB p5 (bL (bu (ao (dC (.int 2)) aq)) (aA 6) p6)))))
theorem XH:we=aB (bL (bu (ao (aK rE (ao (dC (.int 1)) (ao (aK kj (ao (aK aT ⇑0) (ao (dC (.int 6)) aq))) aq))) aq)) (aA 1) yc) (aS (av bH (aD 1 jO (ao (bZ (ao (bZ aq) aq)) aq)) (dC (.int 1)))):=rfl
theorem aiM{ns:List Int}(i0:0<=i)(c:aa)(v2 v3 v4 v5 v6:Option D):∃w2 w3 w4 w5 w6 c',yc [U (.bK ns),U (.int i),v2,v3,v4,v5,v6] c=.ok (.nx [U (.bK ns),U (.int i),w2,w3,w4,w5,w6]) c':=by
 obtain⟨y,hy⟩:=acd ns i i0 c;obtain⟨p0,hp⟩:=ah2 y c;have afs:ck c.length (c.length+1) (c++[.lst [.int p0]]):=⟨by simp,∅,p0,by simp⟩
 obtain⟨m,f,c1,h1,h2,hw,P1,t1⟩:=acH (most:=6) afs ⋯ ⋯
 have r1:=I0 f (show m<60 by omega) c1
 have n1:=CU (show 0<m by omega) ∅ (tu hw) (Ek f ∅ c1) (z5 (tu hw))
 have n2:=Xw (f:=f) (m:=m) rfl ∅ c1 8 m 0 [] ∅ ∅ rfl (λx hx=>nomatch hx)
 obtain⟨k,N,q,c2,hK,P2,t2⟩:=XW P1 P1.1.symm;have k16:k<=16:=by rcases hK.few with a|a<;>omega
 obtain⟨os,c3,mW,P3,t3⟩:=JK (m:=k) P2 ∅
 obtain⟨t4,t5⟩:=XY hK c2;have t6:=KN mW ∅ (dQ (eB N)) c3
 have r2:=I0 (dS os (dQ (eB N)) k 0) (show k<60 by omega) c3
 have n3:=X0 hK mW c3;have lM:∀cc,aT [.lst (bA (dU k N))] cc=.ok ↥k cc:=λcc=>by rw[Bl,CV,KQ]
 generalize aP (wF m f)=W at r1 n1
 generalize aP (wF k (dS os (dQ (eB N)) k 0))=V at r2 n3
 generalize bh m f=A at t1 r1 n2
 generalize bh k (dS os (dQ (eB N)) k 0)=B at t6 r2
 generalize bh k (dQ (eB N))=T at t5 t6
 generalize D.lst ((dz k (shr (dU k N))).map aV)=X at t4 t5
 generalize D.lst (bA (dU k N))=M at t2 t4 lM
 generalize D.tup (nD os)=η at t3 t6
 generalize (((eL m f m 0 []).length:Nat):Int)=a at n1 n2
 have s1:p1 [U (.bK ns),U (.int i),v2,v3,v4,v5,v6] c=.ok (.nx [U (.bK ns),U (.int i),U (.ref c.length),v3,v4,v5,v6]) (c++[.lst [.int p0]]):=k7 (Of (sJ (x:=.bK ns) (y:=.int i) rfl rfl hy) hp);have s2:p2 [U (.bK ns),U (.int i),U (.ref c.length),v3,v4,v5,v6] (c++[.lst [.int p0]])=.ok (.nx [U (.bK ns),U (.int i),U (.ref c.length),U A,v4,v5,v6]) c1:=k7 (sJ (x:=.ref c.length) rfl rfl t1);have s3:p3 [U (.bK ns),U (.int i),U (.ref c.length),U A,v4,v5,v6] c1=.ok (.nx [U (.bK ns),U (.int i),U (.ref c.length),U A,v4,v5,v6]) c1:=gX (rq (b:=J) (Oj (fU (gc (gc (x:=A) rfl r1) n1) (fU (x:=A) (y:=.lst (nD [])) rfl (by simp[nD]) n2) (same_int a 2 c1)))) rfl
 have s4:p4 [U (.bK ns),U (.int i),U (.ref c.length),U A,v4,v5,v6] c1=.ok (.nx [U (.bK ns),U (.int i),U (.ref c.length),U A,U M,U ↥q,v6]) c2:=by
  unfold p4;rw[xh,Of (x:=.ref c.length) rfl t2];rfl
 have s5:p5 [U (.bK ns),U (.int i),U (.ref c.length),U A,U M,U ↥q,v6] c2=.ok (.nx [U (.bK ns),U (.int i),U (.ref c.length),U B,U M,U ↥q,v6]) c3 :=
  k7 (sJ (x:=T) (y:=η) (fU (x:=.int (k:Int)) (y:=X) (d8 (x:=M) rfl (lM c2)) (fU (x:=.int (k:Int)) (y:=M) (d8 (x:=M) rfl (lM c2)) rfl t4) t5) (sJ (x:=.ref c.length) (y:=.int (k:Int)) rfl (d8 (x:=M) rfl (lM c2)) t3) t6)
 have s6:∀v,p6 [U (.bK ns),U (.int i),U (.ref c.length),U B,U M,U ↥q,v] c3=.ok (.nx [U (.bK ns),U (.int i),U (.ref c.length),U B,U M,U ↥q,v]) c3:=λv=>gX (rq (b:=J) (Oj (fU (y:=.int (q:Int)) (gc (gc (x:=B) rfl r2) n3) rfl (same_int q 2 c3)))) rfl
 have s7:bL (bu (ao (dC (.int 2)) aq)) (aA 6) p6 [U (.bK ns),U (.int i),U (.ref c.length),U B,U M,U ↥q,v6] c3=.ok (.nx [U (.bK ns),U (.int i),U (.ref c.length),U B,U M,U ↥q,U (.int 1)]) c3:=by
  refine aaG (st:=λ_=>True) (l:=[.int 0,.int 1]) (jG (q:=2) rfl ⋯) ?_
  rw[iL,show aA 6 (.int 0) [U (.bK ns),U (.int i),U (.ref c.length),U B,U M,U ↥q,v6] c3=.ok [U (.bK ns),U (.int i),U (.ref c.length),U B,U M,U ↥q,U (.int 0)] c3 from rfl,R.aH,s6]
  simp only[R.aH];rw[iL,show aA 6 (.int 1) [U (.bK ns),U (.int i),U (.ref c.length),U B,U M,U ↥q,U (.int 0)] c3=.ok [U (.bK ns),U (.int i),U (.ref c.length),U B,U M,U ↥q,U (.int 1)] c3 from rfl,R.aH,s6]
  simp
 exact⟨_,_,_,_,_,c3,bP s1 (bP s2 (bP s3 (bP s4 (bP s5 s7))))⟩
theorem ajF(cc:aa):jO [.tup [.tup []]] cc=.ok (.int 1) cc:=by
 have hw:fD λ_ _=>Δ:=⟨λ_=>rfl,λ_ _=>rfl⟩
 have h:=CU (m:=1) ⋯ ⋯ hw (Ek _ ⋯ cc) (z5 hw)
 exact h
theorem XG(ns:List Int)(_:ns.length<=63):∃c',uQ [.bK ns] []=.ok (.bl J) c':=by
 have hsz:=cN (n:=1000) ⋯
 have k1:(1:Nat)<=Ω:=∅
 generalize hm:(if(if(6:Int)<ns.length then(6:Int)else ns.length)>1 then(if(6:Int)<ns.length then(6:Int)else ns.length)else 1)=m
 have hb:-4611686018427387904<=m/\m<4611686018427387904:=by
  rw[<-hm];split<;>(try split)<;>omega
 obtain⟨e',c',⟨w1,w2,w3,w4,w5,w6,rfl⟩,hf⟩:=Nb (g:=aA 1) (s:=yc)
  (λe=>∃w1 w2 w3 w4 w5 w6,e=[U (.bK ns),w1,w2,w3,w4,w5,w6]) (aR 0 m) [U (.bK ns),O,O,O,O,O,O] [] ⟨_,_,_,_,_,_,rfl⟩ (λt ht e c ⟨w1,w2,w3,w4,w5,w6,he⟩=>by
   subst he;obtain⟨i,rfl,i0,i1⟩:=jk ht;obtain⟨x2,x3,x4,x5,aaa,c',ho⟩:=aiM (ns:=ns) i0 c w2 w3 w4 w5 w6;exact⟨_,_,_,c',rfl,ho,⟨_,_,_,_,_,_,rfl⟩⟩)
 have Zg:(bu (ao (aK rE (ao (dC (.int 1)) (ao (aK kj (ao (aK aT ⇑0) (ao (dC (.int 6)) aq))) aq))) aq)) [U (.bK ns),O,O,O,O,O,O] []=.ok ⟨aR 0 m,λ_=>True⟩ []:=by
  simp;simp only[gt_iff_lt]at hm;rw[hm,if_pos ∅]
 have e1:=lO (g:=aA 1) (s:=yc) Zg hf;have e2:aS (av bH (aD 1 jO (ao (bZ (ao (bZ aq) aq)) aq)) (dC (.int 1))) [U (.bK ns),w1,w2,w3,w4,w5,w6] c'=.ok (.rt (.bl J)) c':=eY (bw (x:=.int 1) (y:=.int 1) (gc (x:=.tup [.tup []]) (by simp[k1]) (ajF c')) rfl (by rw[wY];simp))
 have hall:we [U (.bK ns),O,O,O,O,O,O] []=.ok (.rt (.bl J)) c':=by
  rw[XH];exact bP e1 e2
 refine⟨[],?_⟩;rw[uQ,iT,show bW 7 [D.bK ns]=[U (.bK ns),O,O,O,O,O,O]from rfl,hall]
 simp[cH,noRef]
open PyProof.Rows
theorem all_mk{l:Us}{w:τ}{K:Ξ}{h:π}{mg:Str->Option L}{fa:S}{zA vt zx sA zV zR zz zS zU zQ zC zy zE zT vJ vI vz zW vH vA lQ zB zD zN zJ zG zL vF zH zM zK vD vC zP zO zI vB kJ lP zF vE vG:S}(X:K.In h)(G:h.Ns ι mg)(DR:mg "law"=U (.ref fa))
  (Fi:FA K "row_where" Ik zA)
  (Fb:FA K "web_where" Ie vt)
  (Fd:FA K "ties" Ig zx)
  (Fo:FA K "other_web" xQ sA)
  (F8:FA K "common" IV zV)
  (F0:FA K "first_unlike_place" IL zR)
  (Ff:FA K "shared_by_all" Ii zz)
  (F1:FA K "first_unlike_pair" IM zS)
  (F7:FA K "evenness" IU zU)
  (FZ:FA K "is_even" IK zQ)
  (Fq:FA K "moved_on" Io zC)
  (Fe:FA K "side_by_side" Ih zy)
  (Fv:FA K "look_of" Iq zE)
  (F6:FA K "finer_colours" IS zT)
  (Ga:FA K "are_shared" IX vJ)
  (F5:FA K "finest_colours" IQ vI)
  (Fg:FA K "set_apart" Ij vz)
  (F9:FA K "are_twins" IW zW)
  (F4:FA K "first_open" IP vH)
  (Fp:FA K "order_by" Im vA)
  (F3:FA K "first_order" BU lQ)
  (Fj:FA K "require_few" Il zB)
  (Ft:FA K "many_orders" Ip zD)
  (FT:FA K "_law_cell_at" IF zN)
  (FH:FA K "_law_pot" IB zJ)
  (FD:FA K "_law_take" Iw zG)
  (FJ:FA K "_law_order" ID zL)
  (FP:FA K "_law_joined" BR vF)
  (FE:FA K "_law_scattered" Iz zH)
  (FL:FA K "_law_near" IE zM)
  (FI:FA K "_law_plain" IC zK)
  (FN:FA K "_law_moved" BP vD)
  (Fy:FA K "_law_toggled" BN vC)
  (FW:FA K "_law_about" II zP)
  (FU:FA K "_law_built" IG zO)
  (FG:FA K "_law_rows" IA zI)
  (Fw:FA K "_law_whole" Ir vB)
  (FF:FA K "_law_same" BO kJ)
  (FQ:FA K "_law_counted" BS lP)
  (Fz:FA K "_law_times" Iu zF)
  (FO:FA K "_law_known" BQ vE)
  (FY:FA K "law" IJ vG)
  (Be:υ K ι "all"=U O)
  (Bd:υ K ι "any"=U O)
  (Bc:υ K ι "bool"=U O)
  (Bb:υ K ι "enumerate"=U O)
  (Ba:υ K ι "int"=U O)
  (A9:υ K ι "isinstance"=U O)
  (A8:υ K ι "len"=U O)
  (A7:υ K ι "list"=U O)
  (A6:υ K ι "max"=U O)
  (A5:υ K ι "min"=U O)
  (A4:υ K ι "range"=U O)
  (A3:υ K ι "set"=U O)
  (A2:υ K ι "sorted"=U O)
  (A1:υ K ι "str"=U O)
  (A0:υ K ι "tuple"=U O)
  (AZ:υ K ι "zip"=U O)
  {tO:Tok}(Bf:υ K ι "MOST_EVEN_COUNTED"=U (U (.int 16 tO)))
  {tP:Tok}(Bg:υ K ι "MOST_COUNTED"=U (U (.int 10 tP)))
  {nH nG:S}(o8:PySem.W.tabIn K "other_web"=U (nH,nG)) (qN:PySem.W.codeHdIn K nH nG=J)
  (qO:tR K=J)
  : ∃fd:PU,(∀(s:Ψ) (v:L),RU s fd ⟨[v],[]⟩ [("script",v)])/\∀base:π,K.In base->base.Ns ι mg->d9 l.prog w K mg base c9 24 fa fd ["script"] (fG K 1 uQ):=by
 let T:Tx K mg:={
  zA:=cz X G Fi,
  vt:=cz X G Fb,
  zx:=cz X G Fd,
  sA:=cz X G Fo,
  zV:=cz X G F8,
  zR:=cz X G F0,
  zz:=cz X G Ff,
  zS:=cz X G F1,
  zU:=cz X G F7,
  zQ:=cz X G FZ,
  zC:=cz X G Fq,
  zy:=cz X G Fe,
  zE:=cz X G Fv,
  zT:=cz X G F6,
  vJ:=cz X G Ga,
  vI:=cz X G F5,
  vz:=cz X G Fg,
  zW:=cz X G F9,
  vH:=cz X G F4,
  vA:=cz X G Fp,
  lQ:=cz X G F3,
  zB:=cz X G Fj,
  zD:=cz X G Ft,
  zN:=cz X G FT,
  zJ:=cz X G FH,
  zG:=cz X G FD,
  zL:=cz X G FJ,
  vF:=cz X G FP,
  zH:=cz X G FE,
  zM:=cz X G FL,
  zK:=cz X G FI,
  vD:=cz X G FN,
  vC:=cz X G Fy,
  zP:=cz X G FW,
  zO:=cz X G FU,
  zI:=cz X G FG,
  vB:=cz X G Fw,
  kJ:=cz X G FF,
  lP:=cz X G FQ,
  zF:=cz X G Fz,
  vE:=cz X G FO,
  vG:=cz X G FY,
  CS:=Px X G Be,
  KD:=Px X G Bd,
  yx:=Px X G Bc,
  uF:=Px X G Bb,
  CQ:=Px X G Ba,
  jM:=Px X G A9,
  cP:=Px X G A8,
  yw:=Px X G A7,
  CP:=Px X G A6,
  nS:=Px X G A5,
  b7:=Px X G A4,
  uE:=Px X G A3,
  uD:=Px X G A2,
  CO:=Px X G A1,
  jL:=Px X G A0,
  KC:=Px X G AZ,
  tO:=tO,MS:=Tq X G Bf,
  tP:=tP,MT:=Tq X G Bg,
  nH:=nH,nG:=nG,o8:=o8,qN:=qN,
  qO:=qO}
 exact XF T.vG DR λbase=>akh T
theorem walk{l:Us}{q:ν}{loose:List Str}{XP:(Str->Option L)->π->Prop}{YP:τ->π->Prop}{d:DefRec}{K:Params->Ξ}{ts:List (S×S)}(hn:l.most=U 63)(hdf:d.params.defaults=[])
  (hY:∀(w:τ) (h:π),YP w h->(K w.params).In h/\∀q∈ts,h.get? q.2=U (PySem.W.tabObj #[]))
  (hK:∀p,(ts.all λq=>PySem.W.codeHdIn (K p) q.1 q.2)=J/\PySem.W.noTabs (K p)=J/\Bw (K p) ts=J)
  (F:∀(w:τ) (mg:Str->Option L) (fa:S) (h:π),(K w.params).In h->h.Ns ι mg->mg d.name=U (.ref fa) ->
   ∃fd:PU,(∀(s:Ψ) (u:L),RU s fd ⟨[u],[]⟩ [("script",u)])/\∀base:π,(K w.params).In base->base.Ns ι mg->d9 l.prog w (K w.params) mg base c9 24 fa fd ["script"] (fG (K w.params) 1 uQ)) :
  PySem.W.WalkO q loose XP YP l.row.toRowW d [] (λf vs=>PySem.call f vs) :=
 L2.afx (n:=63) (k:=24) (x:="script") hn ⋯ hdf ⟨rfl,⋯,⋯⟩ hY hK F XG
end Ev
namespace PySem.W.Fast
def tw10132115369086550056:=0
def tw13486039579619971250:=0
def tw14050296460191908343:=0
def tw13346398301208154027:=0
def tw1432095814319543246:=0
def tw14325006509194730341:=0
def tw2644492099009135744:=0
def tw4973904351690295414:=0
def tw16744860993389843369:=0
def tw15715225896411691039:=0
def tw13879225650017544296:=0
def tw7666994692852650990:=0
def tw17668947080908848101:=0
def tw6499624655120919835:=0
def tw13490142416085859234:=0
def tw15899694460295787685:=0
def tw10194322502772967421:=0
def tw5203697704916118901:=0
def tw3976442529888401462:=0
def tw6020231461872504770:=0
def tw11262097964709288999:=0
def tw14310612085387375857:=0
def tw17072041168146568543:=0
def tw884888599750124233:=0
def tw5925725099511101402:=0
def tw687832612601881244:=0
def tw13599523652513182306:=0
def tw1836432917046450710:=0
def tw15390585744370560643:=0
def tw8533440585614087987:=0
def tw11935975019704158034:=0
def tw13614329138950071996:=0
def tw6820346446869025531:=0
def tw7256721345511244753:=0
def tw14893243245517430012:=0
def tw10405636675990140475:=0
def tw10797459007847240103:=0
def tw10700207845856787993:=0
def tw16406952779002123929:=0
def tw110060991459320653:=0
def tw8562462156818952612:=0
def tw5054929930892817453:=0
def tw26286218538783113:=0
def tw2727710354068175004:=0
def tw15861494587370820101:=0
def tw7199548572424223560:=0
def tw12160422376314103115:=0
def tw1651129540940248308:=0
def tw18218643360899174145:=0
def tw3422416050458617:=0
def tw12421873615770467577:=0
def tw8835562475425024143:=0
def tw7740520538823651755:=0
def tw6649427207340533892:=0
def tw13931832145428144231:=0
def tw15917196809945133284:=0
def tw4838207992349291724:=0
def tw13119483977118544166:=0
def tw5003699499657631475:=0
def tw5095716405267920865:=0
def tw15957540453909229275:=0
def tw6845137342658173447:=0
def tw7199071736439069856:=0
def tw13882145320421712286:=0
def tw9883104165123955971:=0
def tw10758998254917932240:=0
def tw11235743001761006759:=0
def tw17628073506929318470:=0
def tw12011481954016459665:=0
def tw8427429468156789658:=0
def tw13760070155119009565:=0
def tw744387683340159854:=0
def tw1312086525004991427:=0
def tw9820675516574963134:=0
def tw12698695295374287079:=0
def tw7068736727914255533:=0
def tw13211390369291591066:=0
def tw15237149672964050944:=0
def tw5879731121346153565:=0
def tw4215780268377334230:=0
def tw8000414586706654606:=0
def tw13229776030792374012:=0
def tw5410740439146515009:=0
def tw5474932181992522811:=0
def tw17423879070719192933:=0
def tw4463509699786256186:=0
end PySem.W.Fast
open PySem PySem.W PyProof.Rows
set_option maxRecDepth 100000 in
set_option maxHeartbeats 0 in
theorem PySem.Challenge.cw_evenwebs_k63_orders_counted_holds : PySem.Challenge.rw_evenwebs_k63_orders_counted.Holds := by
  w_on; o_law; k_head; (case hw => w_witness2)
  k_fill
  refine Ev.walk (l := PySem.Challenge.rw_evenwebs_k63_orders_counted) (ts := [(60, 56)]) rfl rfl (fun w h Y => ⟨PySem.W.km_in_of Y, List.forall_mem_cons.mpr ⟨PySem.W.km_tabs_of Y _ (by first | k_mem | decide), fun _ h => nomatch h⟩⟩) (fun p => ⟨by kernel_rfl, by kernel_rfl, by kernel_rfl⟩) ?F
  case F =>
    intro w mg fa h KX G hmg
    refine' Ev.all_mk (nH := 60) (nG := 56) KX G hmg ?Fi ?Fb ?Fd ?Fo ?F8 ?F0 ?Ff ?F1 ?F7 ?FZ ?Fq ?Fe ?Fv ?F6 ?Ga ?F5 ?Fg ?F9 ?F4 ?Fp ?F3 ?Fj ?Ft ?FT ?FH ?FD ?FJ ?FP ?FE ?FL ?FI ?FN ?Fy ?FW ?FU ?FG ?Fw ?FF ?FQ ?Fz ?FO ?FY ?Be ?Bd ?Bc ?Bb ?Ba ?A9 ?A8 ?A7 ?A6 ?A5 ?A4 ?A3 ?A2 ?A1 ?A0 ?AZ ?Bf ?Bg ?o8 ?qN ?qO
    case Fi | Fb | Fd | Fo | F8 | F0 | Ff | F1 | F7 | FZ | Fq | Fe | Fv | F6 | Ga | F5 | Fg | F9 | F4 | Fp | F3 | Fj | Ft | FT | FH | FD | FJ | FP | FE | FL | FI | FN | Fy | FW | FU | FG | Fw | FF | FQ | Fz | FO | FY =>
      apply L2.FA.mk
      k_is; k_is; k_is; k_is
    case Be|Bd|Bc|Bb|Ba|A9|A8|A7|A6|A5|A4|A3|A2|A1|A0|AZ|Bf|Bg=>k_is
    (case o8 => kernel_rfl)
    (case qN => kernel_rfl)
    (case qO => kernel_rfl)
