import PyProof.Rows.All
import Wide.All
import OpenK.AllK
import Wide.FinOn
import Lean
import PyProof.EqAt
import PyProof.EqKinds
import PyProof.TupleCall
import PySem.Challenge.RW_evenwebs_k66_whole_orders_put_together
import PyProof.SetScanFacts
import PyProof.SetKind
import PyProof.DictKinds
import PyProof.Rows.SetFrom
import PyProof.Walks
import PyProof.DictValues
import PyProof.FactsAll.set_1
import PyProof.DictWalks
import KE.KDictSum
import KE.KSortTup
import PyProof.FactsAll.tuple_2
import PyProof.P3In
import PyProof.EqLayable
import PyProof.SumAny
import PyProof.NoPylong
import PyProof.FitsBits
import PyProof.Rows.SeqMore
import PyProof.DictRoads
import PyProof.Rows.FactsT2
import KE.KRevIter
import PyProof.SetRoads
import PyProof.MeetsSeq2
import PyProof.WalksMore
import PyProof.AutoSeq1
import PyProof.ListRange
import PyProof.Rows.SortShell
import PyProof.TupleOfSeq
import KE.KLam
import KE.KMinKey
import PyProof.Rows.CallKwBuiltin
import PyProof.DictRoadsH
import PyProof.FactsAll.tuple_1
set_option Elab.async false
set_option linter.all false
set_option maxHeartbeats 4000000
set_option maxRecDepth 100000
set_option bootstrap.genMatcherCode false
set_option genSizeOfSpec false
set_option genSizeOf false
open PySem renaming wpAny_bind→Rc,wpAny_pure→ZA,boot_len→Q5,wpAny_mono→RQ,wpAny_holding→RU,codeAny_mono→S1,wpAny_call_entry→Rz,wpAny_setState_of→Rw,sizeLine_eq→SJ,mem_of_lookup→SH,wpAny_seqItems→SA,codeAny_builtin→S7,wpAny_specialOf→SO,wpAny_truthy_bool→Sg,wpAny_pyIter_list→Sf,wpAny_askSetting→SY,wpAny_isInstance→SX,wpAny_passesOwn→TY,wpAny_call→TX,wpAny_of_eq→TQ,plainId_quiet→TF,wpAny_Call_Name_kw→Tg,call_meets→Td,wpAny_rule→U4,wpAny_tupleItemsOf→Tu,wpAny_tryCatch→Tn,wpAny_pyIter_tuple→UJ,wpAny_setField→UC,sub_set_self→UQ,wpAny_setEntries_of→UP,wpAny_execs_nil→Ut,wpAny_newObj_type→Uo,wpAny_callSpecial?_slot→Um,wpAny_field→Uk,wpAny_storeSet_of→UY,codeAny_of_tree→VF,wpAny_forIn_list→VC,isSubtype_tuple_tuple→VA,isSubtype_type→V9,wpAny_letGo→V5,wpAny_standAt→WI,wpAny_pyNext_list_item→WH,concat_meets→WD,noFill_tuple_add→WC,seq_tuple_add→WB,pushCells_keeps→WO,wpAny_pyIter_enum→WK,weight_type_call_type→Va,codeAny_call_builtin→VY,check_set_init_1→VW,wpAny_runValue→VU,entryFor_alias→VR,wpAny_setEpoch_of→VO,wpAny_newList→VN,call_len_set→W6,wpAny_updateSeq→Vz,wpAny_pyNext_list_end→Xi,list_append→Xs,wpAny_comprehension_free→Xp,filterMap_getElem?_range→Wu,hashByValue_scannable→Wr,wpAny_callSpecialIfBoundUnlessNone?_slot→Wl,wpAny_richCompare_same_room→Wj,builtinLookup_eq_fast→Wh
open List renaming mem_range→dD,mem_map→AP,mem_cons→Bt,getElem?_eq_getElem→H8,getD_eq_getElem?_getD→Iv,length_map→P0,size_toArray→Q3,map_cons→Q8,getElem?_eq_some_iff→Q9,mem_filter→R0,map_map→R3,mem_of_getElem?→R7,getElem?_map→RB,getElem_mem→RA,nil_append→RC,mem_append→RI,length_cons→RG,mem_singleton→RE,mem_append_right→RP,mem_of_mem_take→RN,all_eq_true→RW,map_congr_left→RV,getElem?_append_left→RY,lookup_cons→RX,mem_cons_self→Rf,mem_cons_of_mem→Rb,not_mem_nil→RZ,pairwise_cons→Ri,take_length→Rg,length_append→Rq,nodup_range→Ru,nodup_cons→S0,ext_getElem→Rx,countP_congr→Rv,append_nil→SI,getElem?_append_right→SG,append_assoc→SE,getElem_of_mem→S9,map_append→S8,getElem_inj→SS,length_filter_le→SM,countP_map→SK,mem_iff_getElem→Se,pairwise_iff_getElem→Sd,length_range→Sb,pairwise_map→Sa,filter_congr→Si,mem_range'_1→Sh,getElem?_set_self→Su,take_append_drop→Sm,replicate_succ→TV,foldl_cons→TU,find?_eq_none→TL,getElem?_eq_none→TJ,take_of_length_le→T7,nodup_iff_pairwise_ne→T3,getElem?_set_ne→Th,length_take→Tf,flatten_cons→Te,any_eq_true→U3,length_nil→Tz,nodup_append→Tt,perm_ext_iff_of_nodup→Tr,filter_cons_of_pos→Tq,take_add_one→To,idxOf_lt_length_iff→Tj,range_add→Ti,mem_filterMap→UH,of_mem_zip→UG,getElem_take→UB,pairwise_lt_range→UA,range_eq_range'→UO,cons_append→UM,mem_flatMap→U9,countP_eq_length_filter→U8,getElem?_range→U7,filterMap_cons→Uu,take_sublist→Uq,mem_erase_of_ne→Ug,length_erase_of_mem→Ue,range_succ→Uc,perm_append_singleton→Ub,getElem?_set→UZ,take_succ_eq_append_getElem→UX,foldl_append→UW,filter_cons_of_neg→V8,getElem?_take→V7,getElem_range→V6,getElem_map→V3,range_succ_eq_map→V0,getElem_idxOf→Uz,filter_filter→Ux,filter_eq_nil_iff→Uw,getElem?_zip_eq_some→WN,mem_of_mem_drop→Vl,length_pos_of_mem→Vk,map_filterMap→Vh,zip_cons_cons→Vf,mem_of_find?_eq_some→Ve,perm_middle→VS,drop_eq_getElem_cons→VQ,length_eq_zero_iff→VP,getElem?_mapIdx→VL,take_left→Vx,sum_cons→Vw,find?_cons_of_neg→Vu,find?_cons_of_pos→Vt,filter_append→Vs,flatMap_def→Vr,countP_append→Vq,countP_eq_zero→Vp,countP_cons→Vo,countP_filter→Vn,mem_append_left→Xk,any_eq_false→Xh,getElem?_replicate→Xe,getElem?_take_of_lt→Xd,forIn_cons→Xq,pairwise_append→Xl,find?_some→Wx,zip_append→Wt,find?_eq_some_iff_getElem→Ws,filter_cons→Wb,pairwise_singleton→WZ,ext_getElem?→WY,length_mapIdx→Xb,drop_eq_nil_of_le→Xa,reverse_cons→XU,mem_map_of_mem→XT,set_append_right→XR,getElem_set→XQ,filter_map→XO,take_append_of_le_length→XM,mem_mapIdx→XI,findIdx?_cons→XH,range'_append_1→XG,getElem_mapIdx→XF,flatMap_cons→XD,length_flatMap→XC,flatMap_append→XA,countP_mono_left→X8,forall_mem_cons→X7
open Nat renaming le_refl→x6,ne_of_lt→K1,lt_of_lt_of_le→P7,zero_add→R6,le_trans→R9,zero_le→RM,lt_irrefl→RS,ne_of_gt→Rn,lt_succ_of_lt→Rp,lt_succ_self→Rt,lt_or_ge→SQ,le_of_lt→Sv,le_of_eq→So,testBit_two_pow_sub_one→Sn,le_succ→TR,lt_trichotomy→TM,lt_trans→U1,mod_lt→Tw,sub_self→Tp,lt_of_le_of_lt→UD,add_zero→UT,le_add_right→Uj,not_lt_zero→Ui,pow_le_pow_right→VE,two_pow_pos→VD,succ_mul→WQ,testBit_or→Vj,lt_of_succ_lt→W8,le_antisymm→Vm,le_of_not_lt→Xr,eq_zero_or_pos→Xm,one_shiftLeft→Wz,testBit_shiftLeft→Wy,lt_or_gt_of_ne→XE
open PySem.Heap renaming lt_size→I8,get?_push_of_some→J',get?_push_size→Q4,size_push→RL,get?_update_other→SR,get?_update_self→UE,size_update→VM
open Option.some renaming inj→R4,injEq→Wi
open Array renaming length_toList→R8,getElem?_toList→Rj,getElem?_eq_getElem→T9,forIn_toList→Tv,toList_setIfInBounds→Ud,toList_push→Ua,mem_toList_iff→WG,getD_eq_getD_getElem?→WJ,toList_filterMap→Vg,foldl_toList→Ww,getElem?_eq_none→Wg,perm_iff_toList_perm→We,toArray_toList→XY,toList_append→XW
open PySem.F renaming called_set→RD,slot_tuple_hash→SN,plain_max_loop→T6,slot_tuple_iterator_next→Ul,slot_tuple_eq→VB,slot_tuple_add→WA,entry_tuple_add→WT,args_tuple_add_2→WS,entry_type_call→Vc,typeCall_set_1→VZ,entry_set_init→VX,plainAttrs_list→W7,entry_max_loop→W0,entry_tuple_iterator_next→Xo,args_tuple_iterator_next_1→Xn,plain_set_new→Wq,sub_list_set→Wo,sub_list_frozenset→Wn,slot_set_iter→Wf,slot_set_and→XZ
open Bool renaming false_ne_true→RH,and_eq_true→RT,false_eq_true→Ra,eq_iff_iff→S5,or_eq_true→SD,not_false→US,and_comm→Uy,and_false→WR,or_eq_false_iff→Wm
open PyProof.Rows renaming vals1→RO,boot_tuple→S6,get?_update_seq→T8,boot_min→T4,callWith_type1→UI
open Classical renaming byContradiction→Rh
open Ne renaming symm→Rr
open PySem.W renaming mg_none_of→Ro,kia_one→S2,mg_of→T5,cellsFrom_some→Us,kitx_dict→WE,kitx_list→Xg,callWith_K→Xf,codeHd_of_K→XX,km_tabs_of→X0
open PySem.Heap.SameBut renaming update→Ry
open Int renaming toNat_natCast→Ss,le_refl→UN,emod_nonneg→UL,emod_lt_of_pos→UK,emod_eq_of_lt→Vi,toNat_of_nonneg→Vy,le_ediv_iff_mul_le→XJ
open Function renaming comp_def→Sl
open List.Pairwise renaming filter→Sk,imp_of_mem→Uv,filterMap→Wv
open PySem.Value renaming isInt_shape→TZ
open PySem.Walks renaming list→TN
open PySem.Around renaming under_plainId→TH,under_plain→Vb
open PySem.Obj renaming data_mapFields→U5,isFreed_of_fields→WM,cls_mapFields→WL
open PySem.SetTable renaming insertAt_perm→U0,toList_insertAt→Uh
open PyProof.Rows.F renaming plain_set_update_loop→UR,entry_set_update_loop→UU
open Option renaming isSome_iff_exists→Ur,getD_none→Xv
open PySem.Code renaming quiet_builtin→Vd
open Prod.mk renaming injEq→VT
open PySem.PassesOwn renaming never→W9
open PySem.Calls renaming Name_function_global→Xj
open PySem.IsL renaming update→Xu
open List.Perm renaming of_eq→Wa,length_eq→XS
open Option renaming some→O,none→U
open List renaming range→η,replicate→ο,Nodup→ψ,Pairwise→WV
open Bool renaming false→ξ,true→J
open PySem renaming Value→Δ,Addr→L,Shared→Ψ,sizeLine→Ω,starEach→ε,mainGlobals→ι,Expr→μ,Program→ν,World→τ,Heap→υ,Around→χ,SetTable→ω,Stmt→dg,backTo→Q6,FuncData→RK,NameKind→RJ,cLine→Q7,Scope→R5,IsTupleKey→SV,keywordEach→Sy,Keyword→S3,Arguments→Sx,backToKw→Sw,attributeBase→VJ,PyData→SW,GenState→U6,BindsTo→Tc,PassesOwn→VH,TriplesOk→VG,Fin→WU
open PySem.W renaming Frag→Ξ,nsIn→π,OpenLaw→WX
open PySem.Heap renaming SameBut→Sz
open PyProof.Rows renaming IntsAre→S4,AllBare→Sj
open PySem.Shared renaming TypeIs→VI
open PySem.SetTable renaming Probe→WW
noncomputable section
local macro_rules|`(tactic|omega)=>`(tactic|first|lia|omega (config:={}))
local macro_rules|`(∅)=>`(by omega)
local macro_rules|`(⋯)=>`(by decide)
namespace L2
open PySem PySem.Spec PyProof.Rows
abbrev Key:=Sum Int Str
def Nt:Key->Δ->Bool
 |.inl k,v=>Value.isInt k v
 |.inr x,v=>Value.isStrOf x v
def ZW(w:τ):Key->Int
 |.inl k=>hashInt k
 |.inr x=>hashStr w x
theorem mY:∀{k:Key}{v:Δ},Nt k v=J->(∃i t,k=Sum.inl i/\v=Value.int i t)\/(∃x t,k=Sum.inr x/\v=Value.str x t)
 |.inl i,v,h=>by
  obtain⟨t,e⟩:=TZ (v:=v) h;exact .inl ⟨i,t,rfl,e⟩
 |.inr x,v,h=>by
  obtain⟨t,e⟩:=Value.isStrOf_shape (x:=x) (v:=v) h;exact .inr ⟨x,t,rfl,e⟩
theorem ZU(a b:Int):decide ((Sum.inl a:Key)=Sum.inl b)=(a==b):=by
 by_cases e:a=b
 ·subst e;simp
 ·have h:¬(Sum.inl a:Key)=Sum.inl b:=λq=>e (Sum.inl.inj q)
  rw[decide_eq_false h];exact(beq_eq_false_iff_ne.mpr e).symm
theorem ZR(a b:Str):decide ((Sum.inr a:Key)=Sum.inr b)=decide (a=b):=by
 by_cases e:a=b
 ·subst e;simp
 ·have h:¬(Sum.inr a:Key)=Sum.inr b:=λq=>e (Sum.inr.inj q)
  rw[decide_eq_false h,decide_eq_false e]
theorem ZT(a:Int)(b:Str):decide ((Sum.inl a:Key)=Sum.inr b)=ξ:=decide_eq_false (λq=>nomatch q)
theorem ZS(a:Str)(b:Int):decide ((Sum.inr a:Key)=Sum.inl b)=ξ:=decide_eq_false (λq=>nomatch q)
def DS(prog:ν)(w:τ):PySem.KeyKind prog w Key where
 is:=Nt
 hash:=ZW w
 inj:=λv a b ha hb=>by
  rcases mY ha with⟨i,t,rfl,rfl⟩|⟨x,t,rfl,rfl⟩
  ·rcases mY hb with⟨j,u,rfl,e⟩|⟨y,u,rfl,e⟩
   ·injection e with e1 _;rw[e1]
   ·exact nomatch e
  ·rcases mY hb with⟨j,u,rfl,e⟩|⟨y,u,rfl,e⟩
   ·exact nomatch e
   ·injection e with e1 _;rw[e1]
 byValue:=λk v h=>by
  rcases mY h with⟨i,t,rfl,rfl⟩|⟨x,t,rfl,rfl⟩<;>rfl
 pyHash:=λhv h=>by
  rcases mY hv with⟨i,t,rfl,rfl⟩|⟨x,t,rfl,rfl⟩
  ·exact wpAny_pyHash_int h
  ·exact wpAny_pyHash_str h
 eqBool:=λhu hv h=>by
  rcases mY hu with⟨i,t,rfl,rfl⟩|⟨x,t,rfl,rfl⟩
  ·rcases mY hv with⟨j,u,rfl,rfl⟩|⟨y,u,rfl,rfl⟩
   ·rw[ZU]at h;exact wpAny_eqBool_int h
   ·rw[ZT]at h;exact SeqAt.EqAt.int_str i t y u _ _ _ _ h
  ·rcases mY hv with⟨j,u,rfl,rfl⟩|⟨y,u,rfl,rfl⟩
   ·rw[ZS]at h;exact SeqAt.EqAt.str_int x t j u _ _ _ _ h
   ·rw[ZR]at h;exact wpAny_eqBool_str h
 «strs»:=λk x t v h=>by
  rcases mY h with⟨i,u,rfl,e⟩|⟨y,u,rfl,e⟩
  ·exact nomatch e
  ·injection e with e1 _
   subst e1;cases v<;>rfl
inductive V where
 |aF|bl (b:Bool)|int (i:Int)|str (x:Str)|i8 (b:Array UInt8)|oW (b:UInt64)|ref (a:L)|ty (n:String)
 deriving DecidableEq
def RelV:V->Δ->Prop
 |.aF,u=>u=Value.none
 |.bl b,u=>u=Value.bool b
 |.int i,u=>∃t,u=Value.int i t
 |.str x,u=>∃t,u=Value.str x t
 |.i8 b,u=>∃t,u=Value.bytes b t
 |.oW b,u=>∃t,u=Value.float b t
 |.ref a,u=>u=Value.ref a
 |.ty n,u=>u=Value.type n
abbrev Vals:List V->List Δ->Prop:=Paired RelV
theorem Vals.length{xs:List V}(r:Vals xs us):xs.length=us.length:=Paired.length r
theorem Vals.get:∀{xs:List V}{us:List Δ}{i:Nat}{x:V},Vals xs us->xs[i]? = O x->∃u,us[i]? = O u/\RelV x u
 |_,_,_,_,.nil,e=>by simp at e
 |_,_,0,_,.cons r _,e=>by simp at e;subst e;exact⟨_,rfl,r⟩
 |_,_,i+1,x,.cons _ t,e=>by
  obtain⟨u,h1,h2⟩:=Vals.get t (by simpa using e)
  exact⟨u,by simpa using h1,h2⟩
theorem Vals.set(r:RelV x u):∀{xs:List V}{us:List Δ}(i:Nat),Vals xs us->Vals (xs.set i x) (us.set i u)
 |_,_,_,.nil=>.nil
 |_,_,0,.cons _ t=>.cons r t
 |_,_,i+1,.cons q t=>.cons q (Vals.set r i t)
theorem Vals.append:∀{xs ys:List V}{us ws:List Δ},Vals xs us->Vals ys ws->Vals (xs++ys) (us++ws)
 |_,_,_,_,.nil,s=>s
 |_,_,_,_,.cons r t,s=>.cons r (Vals.append t s)
theorem Vals.take:∀{xs:List V}{us:List Δ}(n:Nat),Vals xs us->Vals (xs.take n) (us.take n)
 |_,_,0,_=>.nil
 |_,_,_+1,.nil=>.nil
 |_,_,n+1,.cons r t=>.cons r (Vals.take n t)
theorem Vals.drop:∀{xs:List V}{us:List Δ}(n:Nat),Vals xs us->Vals (xs.drop n) (us.drop n)
 |_,_,0,r=>r
 |_,_,_+1,.nil=>.nil
 |_,_,n+1,.cons _ t=>Vals.drop n t
def HE:Option V->Option Δ->Prop
 |some v,O u=>RelV v u
 |none,U=>True
 |_,_=>False
def KV{κ:Type}:List (κ×V)->List (κ×Δ)->Prop:=Paired fun(p:κ×V) (q:κ×Δ)=>p.1=q.1/\RelV p.2 q.2
def kV:Key->V
 |.inl i=>.int i
 |.inr x=>.str x
inductive HO where
 |lst (xs:List V)
 |tup (xs:List V)
 |dK (kvs:List (Key×V))|dT (kvs:List (List Key×V))
 |set (S:Int->Bool) (n:Nat)
 |ins (C dx:L) (fs:List (Str×V))
 |own (x:L)
 |xd (fs:List (Str×V))
 |met (f x:L)
 |uR (lo hi:Int)
 |cM (o:Obj) (u:HO)
 |cI (ps:Array Δ)
 |ext (φ:υ->Prop)
abbrev Hp:=L->Option HO
def upd(H:Hp)(a:L)(o:HO):Hp:=λb=>if b=a then O o else H b
theorem eS:upd H a o a=O o:=by unfold upd;rw[if_pos rfl]
theorem bD(h:b≠a):upd H a o b=H b:=by unfold upd;rw[if_neg h]
theorem Ml{H:Hp}{a b:L}{o u:HO}(h:H a=O o)(h':H b=O u)(d:o≠u):a≠b:=by
 intro e;subst e;rw[h]at h';exact d (R4 h')
theorem dz{H:Hp}{a b:L}{o:HO}(h:H a=O o)(h':H b=U):a≠b:=by
 intro e;subst e;rw[h]at h';cases h'
def ny(h:υ)(a:L)(items:Array Δ):Prop:=∃o,h.get? a=O o/\o.cls=.type "tuple"/\(∃n,o.data=.seq items n)/\o.dict=U
theorem ny.tup{items:Array Δ}:ny h a items->IsTup h a items:=fun⟨o,e,c,d,_⟩=>⟨o,e,c,d⟩
theorem ny.new(h:υ)(items:Array Δ):ny (h.push {cls:=.type "tuple",data:=.seq items}) h.objs.size items:=⟨_,Q4 _ rfl,rfl,⟨_,rfl⟩,rfl⟩
section
variable (P:ν) (w:τ)
def ff(H:Hp)(h:υ)(a:L):HO->Prop
 |.lst xs=>xs.length<=Ω/\∃(its:List Δ) (n:Nat),Vals xs its/\h.get? a=O {cls:=.type "list",data:=.seq its.toArray n}
 |.tup xs=>xs.length<=Ω/\∃its:List Δ,Vals xs its/\ny h a its.toArray
 |.dK kvs=>kvs.length<=Ω/\(a==sysModules)=ξ/\∃vs,KV kvs vs/\h.DictOf (DS P w) a vs
 |.dT kvs=>kvs.length<=Ω/\(a==sysModules)=ξ/\∃xs:List (List Key×L×Δ),
   Paired (fun(p:List Key×V) (q:List Key×L×Δ)=>p.1=q.1/\H q.2.1=O (.tup (p.1.map kV))/\RelV p.2 q.2.2) kvs xs /\
   ∃o es ep,h.get? a=O o/\o.ExactDict/\o.data=.dict es ep/\es.toList=xs.map (entryOfKey (tupleKind (DS P w)))/\(xs.map (·.1)).Nodup
 |.set S n=>h.SetOf (intKind P w) a S n
 |.ins C dx fs=>H dx=O (.own a)/\fs.length<=1000/\dx≠a/\h.get? a=O (PySem.W.instObj C dx) /\
   ∃mA,h.Ns1 dx mA/\(∀f,HE (fs.lookup f) (mA f))/\PySem.Within mA (fs.map (·.1))
 |.own _=>∃o,h.get? a=O o
 |.xd fs=>∃mA,h.Ns1 a mA/\∀f,HE (fs.lookup f) (mA f)
 |.uR lo hi=>∃t u v,h.get? a=O {cls:=.type "range",data:=.fields #[.int lo t,.int hi u,.int 1 v]}
 |.cM o u=>h.get? a=O o/\ff H h a u
 |.cI ps=>h.get? a=O {cls:=.none,data:=.fields ps}
 |.met f x=>h.get? a=O (PySem.W.methodObj (.ref f) (.ref x))
 |.ext φ=>φ h/\(∃o,h.get? a=O o)/\∀h1 h2:υ,φ h1->(∀o,h1.get? a=O o->h2.get? a=O o)->φ h2
def cT(H:Hp)(h:υ):Prop:=∀a o,H a=O o->ff P w H h a o
end
section
variable {P:ν}{w:τ}{H H':Hp}{h h':υ}{a:L}{o:HO}
theorem ff.lt(x:ff P w H h a o):a<h.objs.size:=by
 cases o with
 |lst xs=>obtain⟨_,_,_,_,e⟩:=x;exact I8 e
 |tup xs=>obtain⟨_,_,_,p⟩:=x;exact p.tup.lt
 |dK kvs=>obtain⟨_,_,_,_,o,_,_,e,_⟩:=x;exact I8 e
 |dT kvs=>obtain⟨_,_,_,_,o,_,_,e,_⟩:=x;exact I8 e
 |set S n=>obtain⟨o,_,_,_,e,_⟩:=x;exact I8 e
 |ins C dx fs=>obtain⟨_,_,_,e,_⟩:=x;exact I8 e
 |own y=>obtain⟨_,e⟩:=x;exact I8 e
 |xd fs=>obtain⟨_,⟨_,_,_,e,_⟩,_⟩:=x;exact I8 e
 |uR lo hi=>obtain⟨_,_,_,e⟩:=x;exact I8 e
 |cM ob u=>obtain⟨e,_⟩:=x;exact I8 e
 |cI ps=>exact I8 (show h.get? a=O _ from x)
 |met f y=>exact I8 (show h.get? a=O _ from x)
 |ext φ=>obtain⟨_,⟨_,e⟩,_⟩:=x;exact I8 e
theorem Paired.MK{α β:Type}{F G:α->β->Prop}:∀{l₁:List α}{l₂:List β},Paired F l₁ l₂->(∀a b,F a b->G a b)->Paired G l₁ l₂
 |_,_,.nil,_=>.nil
 |_,_,.cons r t,f=>.cons (f _ _ r) (Paired.MK t f)
theorem ff.stay(x:ff P w H h a o)(k:∀b u,(b=a\/H b=O (.own a))->h.get? b=O u->h'.get? b=O u)
  (ho:∀b,H b=O (.own a)->H' b=O (.own a)) (ht:∀b xs,H b=O (.tup xs)->H' b=O (.tup xs)):ff P w H' h' a o:=by
 induction o with
 |lst xs=>obtain⟨z,its,n,r,e⟩:=x;exact⟨z,its,n,r,k _ _ (.inl rfl) e⟩
 |tup xs=>obtain⟨z,its,r,ob,e,c⟩:=x;exact⟨z,its,r,ob,k _ _ (.inl rfl) e,c⟩
 |dK kvs=>obtain⟨z,y,vs,r,ob,es,ep,e,c⟩:=x;exact⟨z,y,vs,r,ob,es,ep,k _ _ (.inl rfl) e,c⟩
 |dT kvs =>
  obtain⟨z,y,xs,r,ob,es,ep,e,c⟩:=x;exact⟨z,y,xs,Paired.MK r λp q z=>⟨z.1,ht _ _ z.2.1,z.2.2⟩,ob,es,ep,k _ _ (.inl rfl) e,c⟩
 |set S n=>obtain⟨ob,es,ep,t,e,c⟩:=x;exact⟨ob,es,ep,t,k _ _ (.inl rfl) e,c⟩
 |ins C dx fs =>
  obtain⟨d,z,ne,e,mA,⟨od,es,ep,e2,c⟩,r⟩:=x;exact⟨ho _ d,z,ne,k _ _ (.inl rfl) e,mA,⟨od,es,ep,k _ _ (.inr d) e2,c⟩,r⟩
 |own y=>obtain⟨ob,e⟩:=x;exact⟨ob,k _ _ (.inl rfl) e⟩
 |xd fs=>obtain⟨mA,⟨od,es,ep,e,c⟩,r⟩:=x;exact⟨mA,⟨od,es,ep,k _ _ (.inl rfl) e,c⟩,r⟩
 |uR lo hi=>obtain⟨t,u,v,e⟩:=x;exact⟨t,u,v,k _ _ (.inl rfl) e⟩
 |cM ob u ih=>obtain⟨e,q⟩:=x;exact⟨k _ _ (.inl rfl) e,ih q⟩
 |cI ps =>
  have e:h.get? a=O {cls:=.none,data:=.fields ps}:=x;exact k a _ (.inl rfl) e
 |met f y =>
  have e:h.get? a=O _:=x;exact k a _ (.inl rfl) e
 |ext φ=>obtain⟨p,⟨o,e⟩,st⟩:=x;exact⟨st _ _ p λo q=>k _ _ (.inl rfl) q,⟨o,k _ _ (.inl rfl) e⟩,st⟩
theorem cT.lt(x:cT P w H h)(e:H a=O o):a<h.objs.size:=(x a o e).lt
theorem cT.fresh(x:cT P w H h)(e:h.objs.size<=a):H a=U:=by
 cases q:H a with
 |none=>rfl
 |some u=>exact absurd (P7 (x.lt q) e) (RS _)
theorem cT.kept(x:cT P w H h)(k:∀b u,h.get? b=O u->h'.get? b=O u):cT P w H h':=λa o e =>
 (x a o e).stay (λb u _ q=>k b u q) (λ_ q=>q) λ_ _ q=>q
theorem cT.laid(x:cT P w H h)(k:∀b u,h.get? b=O u->h'.get? b=O u)(hp:h.objs.size<=a)(new:ff P w (upd H a o) h' a o):cT P w (upd H a o) h':=λb u e=>by
 have hn:=x.fresh hp
 by_cases hb:b=a
 ·subst hb;rw[eS]at e;cases e;exact new
 ·rw[bD hb]at e;exact(x b u e).stay (λc v _ q=>k c v q) (λc q=>by rw[bD (dz q hn)];exact q) λc xs q=>by rw[bD (dz q hn)];exact q
end
def Rd(H:Hp)(a:L)(u:HO):Prop:=H a=O u\/∃o,H a=O (.cM o u)
theorem Rd.ok(r:Rd H a u)(x:cT P w H h):ff P w H h a u:=by
 rcases r with r|⟨o,r⟩
 ·exact x a u r
 ·obtain⟨_,q⟩:=x a _ r;exact q
def xF:Option HO->Prop
 |some (.lst _)=>True
 |some (.dK _)=>True
 |some (.dT _)=>True
 |some (.set _ _)=>True
 |some (.ins _ _ _)=>True
 |some (.ext _)=>True
 |_=>False
section
variable {P:ν}{w:τ}{H:Hp}{h h':υ}{x e:L}{o':HO}
theorem cT.write(ok:cT P w H h)(mu:xF (H x))(he:e=x\/H e=O (.own x))(k:∀b u,b≠e->h.get? b=O u->h'.get? b=O u)(tE:∃u,h'.get? e=O u)
  (new:ff P w (upd H x o') h' x o'):cT P w (upd H x o') h':=λb u q=>by
 have L4:∀c y,H c=O (.own y)->c≠x:=λc y r z=>by subst z;rw[r]at mu;exact mu
 have Yc:∀c xs,H c=O (.tup xs)->c≠x:=λc xs r z=>by subst z;rw[r]at mu;exact mu
 by_cases hb:b=x
 ·subst hb;rw[eS]at q;cases q;exact new
 ·rw[bD hb]at q
  by_cases qx:b=e
  ·have q':H b=O (.own x):=by
    rcases he with z|z
    ·exact absurd (qx.trans z) hb
    ·rw[qx];exact z
   rw[q]at q';cases q';obtain⟨v,hv⟩:=tE;exact⟨v,by rw[qx];exact hv⟩
  ·refine(ok b u q).stay (λc v hc r=>k c v ?_ r) (λc r=>by rw[bD (L4 c b r)];exact r) λc xs r=>by rw[bD (Yc c xs r)];exact r
   rcases hc with rfl|hc
   ·exact qx
   ·rintro rfl
    rcases he with z|z
    ·exact L4 c b hc z
    ·rw[hc]at z;cases z;exact hb rfl
end
structure Un (fs ex:List L) (H H':Hp) (h h':υ):Prop where
 keep:∀b o,h.get? b=O o->H b=U->b∉fs->b∉ex->h'.get? b=O o
 slot:∀b o,h.get? b=O o->H b=U->b∈fs->b∉ex->∃sl,h'.get? b=O {o with slots:=sl}
 free:∀b o,h.get? b=O o->H b=U->b∉ex->H' b=U
 there:∀b o,h.get? b=O o->b∉ex->∃o',h'.get? b=O o'
 tups:∀b xs,H b=O (.tup xs)->H' b=O (.tup xs)
 jD:∀b o u,H b=O (.cM o u)->H' b=O (.cM o u)
 jX:∀b ps,H b=O (.cI ps)->∃more,H' b=O (.cI (ps++more))
section
variable {fs fs' ex ex':List L}{H H1 H2:Hp}{h h1 h2 h':υ}{a x e:L}{o:HO}
theorem Un.any(u:Un fs ex H H1 h h1)(q:h.get? b=O ob)(n:H b=U)(hx:b∉ex):∃sl,h1.get? b=O {ob with slots:=sl}:=by
 by_cases hb:b∈fs
 ·exact u.slot b ob q n hb hx
 ·exact⟨ob.slots,u.keep b ob q n hb hx⟩
theorem Un.kept(k:∀b u,h.get? b=O u->h'.get? b=O u):Un fs ex H H h h' :=
 ⟨λb ob q _ _ _=>k b ob q,λb ob q _ _ _=>⟨ob.slots,k b ob q⟩,λ_ _ _ n _=>n,λb ob q _=>⟨ob,k b ob q⟩,λ_ _ q=>q,λ_ _ _ q=>q,λ_ ps q=>⟨#[],by rw[q];simp⟩⟩
theorem Un.refl:Un fs ex H H h h:=Un.kept λ_ _ q=>q
theorem Un.laid(k:∀b u,h.get? b=O u->h'.get? b=O u)(hp:h.objs.size<=a)(hn:H a=U):Un fs ex H (upd H a o) h h' where
 keep:=λb u q _ _ _=>k b u q
 slot:=λb u q _ _ _=>⟨u.slots,k b u q⟩
 free:=λb u q n _=>by rw[bD (K1 (P7 (I8 q) hp))];exact n
 there:=λb u q _=>⟨u,k b u q⟩
 tups:=λb xs q=>by rw[bD (dz q hn)];exact q
 jD:=λb u xs q=>by rw[bD (dz q hn)];exact q
 jX:=λb ps q=>⟨#[],by rw[bD (dz q hn),q];simp⟩
theorem Un.write(mu:xF (H x))(he:e=x\/H e=O (.own x))(k:∀b u,b≠e->h.get? b=O u->h'.get? b=O u)(tE:∃u,h'.get? e=O u):Un fs ex H (upd H x o) h h':=by
 have hx:∀b,H b=U->b≠x:=λb n z=>by subst z;rw[n]at mu;exact mu
 have hb:∀b,H b=U->b≠e:=λb n z=>by
  subst z
  rcases he with r|r
  ·exact hx b n r
  ·rw[n]at r;cases r
 have hm:∀b u,H b=O u->¬xF (O u)->b≠x:=λb u q nm z=>by subst z;rw[q]at mu;exact nm mu
 refine⟨λb u q n _ _=>k b u (hb b n) q,λb u q n _ _=>⟨u.slots,k b u (hb b n) q⟩,λb u q n _=>by rw[bD (hx b n)];exact n,λb u q _=>?_,
  λb xs q=>by rw[bD (hm b _ q λz=>z)];exact q,λb u xs q=>by rw[bD (hm b _ q λz=>z)];exact q,λb ps q=>⟨#[],by rw[bD (hm b _ q λz=>z),q];simp⟩⟩
 by_cases qx:b=e
 ·subst qx;exact tE
 ·exact⟨u,k b u qx q⟩
end
def yc(h:υ)(H:Hp):List L:=(η h.objs.size).filter λa=>(H a).isSome
def m8(h:υ)(H:Hp):υ:=PySem.W.hideAll h (yc h H)
theorem aaX(h:υ)(H:Hp):(m8 h H).objs.size=h.objs.size:=PySem.W.hideAll_size _ _
theorem aaY{h:υ}(e:h.get? b=O o)(n:H b=U):(m8 h H).get? b=O o :=
 PySem.W.hideAll_get _ e λhm=>by
  have q:(H b).isSome=J:=(R0.mp hm).2;rw[n]at q;simp at q
theorem alD(e:(m8 h H).get? b=O o):h.get? b=O o/\H b=U:=by
 have e':h.get? b=O o:=PySem.W.of_hideAll (yc h H) e;refine⟨e',?_⟩;cases q:H b with
 |none=>rfl
 |some x =>
  have hm:b∈yc h H:=R0.mpr ⟨dD.mpr (I8 e'),by simp[q]⟩
  have z:(m8 h H).get? b=U:=PySem.W.hideAll_none (yc h H) hm;rw[z]at e;cases e
structure Mod (K:Ξ) (mg:Str->Option Δ) (base:υ):Prop where
 mX:K.In base
 glob:base.Ns ι mg
 blt:∃mb,base.Ns builtinsNs mb/\∀x:Str,x≠"__name__"->mb x=bootBuiltins x
 nolimit:base.NoLimit
 bmod:∃bm ob,mg "__builtins__"=O (.ref bm)/\bm≠builtinsNs/\base.get? bm=O ob/\ob.cls=.type "module"/\ob.dict=O builtinsNs/\ob.data=.plain
structure Cx where
 prog:ν
 w:τ
 K:Ξ
 mg:Str->Option Δ
 base:υ
 A:χ
 N:List Str
 s₀:Ψ
 H₀:Hp
 env:Env
 outer:List Env
 stack:List Env
 ex:List L
 fn:Str->Bool
 calm:Bool
 pn:List (L×Obj)
 xe:Δ->Ψ->Prop
def frs(l:List Env):List L:=l.filterMap (·.frame)
abbrev Cx.fs(X:Cx):List L:=frs X.outer
def xE(sc:R5)(x:Str):Prop:=sc.names.lookup x=O .local\/sc.names.lookup x=O .cell\/sc.names.lookup x=O .free
def Loc(sc:R5)(x:Str):Prop:=sc.names.lookup x=O .local\/sc.names.lookup x=O .cell
def Look(env:Env)(h:υ)(m:Str->Option Δ)(x:Str)(u:Δ):Prop :=
 (env.kindOf x=O .local/\m x=O u)\/((env.kindOf x=O .cell\/env.kindOf x=O .free)/\∃c,env.cells.lookup x=O c/\h.IsCell c (O u))
structure Cx.Ok (X:Cx):Prop where
 mod:Mod X.K X.mg X.base
 kind:X.env.scope.kind=.function
 glob:X.env.globals=ι
 blt:X.env.builtins=builtinsNs
 above:X.s₀.heap.objs.size<=X.env.locals
 inj:∀x y c,X.env.cells.lookup x=O c->X.env.cells.lookup y=O c->x=y
 has:∀x,(X.env.kindOf x=O .cell\/X.env.kindOf x=O .free)->∃c,X.env.cells.lookup x=O c
 nt:∀x c,X.fn x=J->X.env.cells.lookup x=O c->X.s₀.heap.objs.size<=c
 hd:X.calm=J->X.A.handled=U
 frames:X.A.frames=O X.stack
 stk:X.stack=X.outer\/(X.stack=X.env::X.outer/\X.env.frame=O X.env.locals)
 wJ:∀b∈X.ex,b≠X.env.locals/\∀x c,X.env.cells.lookup x=O c->c≠b
 bs:∀b o,X.base.get? b=O o->X.s₀.heap.get? b=O o/\X.H₀ b=U
 i9:X.base.objs.size<=X.s₀.heap.objs.size
 mT:∀b o,X.base.get? b=O o->b∉X.ex
 tQ:∀b∈X.ex,b∉X.fs
 iG:X.s₀.heap.FunFrames X.base X.outer
 lU:∀b∈X.fs,X.H₀ b=U
structure Inv (X:Cx) (pins:List (L×Obj)) (Z:List (Option V)) (H:Hp) (s:Ψ):Prop where
 ok:X.Ok
 os:s.os=X.s₀.os
 bare:Sj s.gens
 base:Un X.fs X.ex X.H₀ H X.s₀.heap s.heap
 loc:∃m,s.heap.Ns X.env.locals m/\∀(i:Nat) (x:Str) (v:V),X.N[i]? = O x->Z[i]? = O (O v)->xE X.env.scope x->∃u,RelV v u/\Look X.env s.heap m x u
 cell:∀x c,X.env.cells.lookup x=O c->∃v,s.heap.IsCell c v
 free:H X.env.locals=U
 jj:∀x c,X.env.cells.lookup x=O c->H c=U
 pin:∀p∈X.pn++pins,s.heap.get? p.1=O p.2/\H p.1=U/\p.1≠X.env.locals/\p.1∉X.fs/\∀v,p.2.data≠.cell v
 hok:cT X.prog X.w H s.heap
 len:Z.length=X.N.length
section
variable {X:Cx}{pins:List (L×Obj)}{Z:List (Option V)}{H H':Hp}{s:Ψ}{h':υ}
theorem Cx.Ok.Yi(ok:X.Ok)(e:X.base.get? b=O o):b∉X.fs:=λhb=>by
 have:=(ok.iG.mem hb).1;rw[e]at this;cases this
theorem Inv.bs(I:Inv X pins Z H s):∀b o,X.base.get? b=O o->s.heap.get? b=O o/\H b=U:=λb o e =>
 ⟨I.base.keep b o (I.ok.bs b o e).1 (I.ok.bs b o e).2 (I.ok.Yi e) (I.ok.mT b o e),I.base.free b o (I.ok.bs b o e).1 (I.ok.bs b o e).2 (I.ok.mT b o e)⟩
theorem Inv.bk(I:Inv X pins Z H s):∀b o,X.base.get? b=O o->s.heap.get? b=O o:=λb o e=>(I.bs b o e).1
theorem Inv.mod(I:Inv X pins Z H s):Mod X.K X.mg X.base:=I.ok.mod
theorem Inv.fY(I:Inv X pins Z H s):X.K.In s.heap:=I.ok.mod.mX.keeps I.bk
theorem Inv.lt(I:Inv X pins Z H s):X.env.locals<s.heap.objs.size:=let⟨_,hn,_⟩:=I.loc;hn.lt
theorem Inv.sz(I:Inv X pins Z H s):X.s₀.heap.objs.size<=s.heap.objs.size:=R9 I.ok.above (Sv I.lt)
theorem Inv.DB(I:Inv X pins Z H s)(h:s.heap.objs.size<=a):a∉X.fs:=λhb=>by
 obtain⟨_,o,ho,_⟩:=I.ok.iG.mem hb;exact absurd (P7 (I8 ho) (R9 I.sz h)) (RS _)
theorem Inv.nk(I:Inv X pins Z H s):∀x c,X.env.cells.lookup x=O c->c≠X.env.locals:=λx c e z=>by
 obtain⟨v,o,ho,hd⟩:=I.cell x c e;obtain⟨m,⟨o',es,ep,ho',hd',_⟩,_⟩:=I.loc;rw[z,ho']at ho;cases ho;rw[hd']at hd;cases hd
theorem Inv.iG(I:Inv X pins Z H s):s.heap.FunFrames X.base X.outer:=by
 have all:∀(l:List Env),(∀b∈frs l,b∈X.fs)->X.s₀.heap.FunFrames X.base l->s.heap.FunFrames X.base l:=by
  intro l
  induction l with
  |nil=>intro _ _;trivial
  |cons env r ih =>
   intro hs hl;obtain⟨hk,⟨Θ,o,hf,hn,ho,hd⟩,hr⟩:=hl;have hL:Θ∈X.fs:=hs Θ (by unfold frs;rw[Uu,hf];exact Rf)
   obtain⟨sl,e⟩:=I.base.slot Θ o ho (I.ok.lU Θ hL) hL λz=>I.ok.tQ Θ z hL
   exact⟨hk,⟨Θ,_,hf,hn,e,hd⟩,ih (λb hb=>hs b (by unfold frs;rw[Uu,hf];exact Rb _ hb)) hr⟩
 exact all X.outer (λ_ hb=>hb) I.ok.iG
theorem Inv.stack(I:Inv X pins Z H s):s.heap.FunFrames X.base X.stack:=by
 rcases I.ok.stk with e|⟨e,hf⟩
 ·rw[e];exact I.iG
 ·rw[e];obtain⟨m,hn,_⟩:=I.loc;refine .cons (by rw[I.ok.kind];decide) hf hn ?_ I.iG
  exact Heap.get?_none_of_le (R9 I.ok.i9 I.ok.above)
theorem Inv.nM(I:Inv X pins Z H s):∀b∈frs X.stack,b∈X.env.locals::X.fs:=λb hb=>by
 rcases I.ok.stk with e|⟨e,hf⟩
 ·rw[e]at hb;exact Rb _ hb
 ·rw[e]at hb;unfold frs at hb;rw[Uu,hf]at hb;exact hb
theorem Inv.ym(I:Inv X pins Z H s):∀b∈frs X.stack,H b=U:=λb hb=>by
 rcases Bt.mp (I.nM b hb)with e|hb
 ·rw[e];exact I.free
 ·obtain⟨_,o,ho,_⟩:=I.ok.iG.mem hb;exact I.base.free b o ho (I.ok.lU b hb) λz=>I.ok.tQ b z hb
theorem Inv.step{g':Array U6}{d':Drawn}{ch:List L}(I:Inv X pins Z H s)(hch:∀b∈ch,(b∈X.ex\/X.s₀.heap.objs.size<=b)/\b≠X.env.locals/\(∀x c,X.env.cells.lookup x=O c->c≠b)/\∀p∈X.pn++pins,p.1≠b)(keep:∀b o,b≠X.env.locals->b∉X.fs->b∉ch->s.heap.get? b=O o->H b=U->h'.get? b=O o)(slot:∀b o,b≠X.env.locals->b∈X.fs->b∉ch->s.heap.get? b=O o->H b=U->∃sl,h'.get? b=O {o with slots:=sl})(free:∀b o,b∉ch->s.heap.get? b=O o->H b=U->H' b=U)(there:∀b o,b∉ch->s.heap.get? b=O o->∃o',h'.get? b=O o')(tups:∀b xs,H b=O (.tup xs)->H' b=O (.tup xs))(jD:∀b o u,H b=O (.cM o u)->H' b=O (.cM o u))(jX:∀b ps,H b=O (.cI ps)->∃more,H' b=O (.cI (ps++more)))(ns:∀m,s.heap.Ns X.env.locals m->h'.Ns X.env.locals m)(hok:cT X.prog X.w H' h')(hg:Sj g'):
  Inv X pins Z H' {s with heap:=h',gens:=g',drawn:=d',toks:=t'}:=by
 have Mm:∀b o,X.s₀.heap.get? b=O o->b≠X.env.locals:=λb o e=>K1 (P7 (I8 e) I.ok.above)
 have zb:∀b o,X.s₀.heap.get? b=O o->b∉X.ex->b∉ch:=λb o e hx hb=>by
  rcases(hch b hb).1 with z|z
  ·exact hx z
  ·exact absurd (P7 (I8 e) z) (RS _)
 have cellK:∀x c,X.env.cells.lookup x=O c->∀v,s.heap.IsCell c v->h'.IsCell c v:=λx c e v ⟨o,ho,hd⟩=>by
  have kJ:c∉ch:=λz=>(hch c z).2.2.1 x c e rfl
  by_cases hc:c∈X.fs
  ·obtain⟨sl,q⟩:=slot c o (I.nk x c e) hc kJ ho (I.jj x c e);exact⟨_,q,hd⟩
  ·exact⟨o,keep c o (I.nk x c e) hc kJ ho (I.jj x c e),hd⟩
 refine⟨I.ok,I.os,hg,⟨λb o e n hb hx=>?_,λb o e n hb hx=>?_,λb o e n hx=>?_,λb o e hx=>?_,λb xs e=>tups b xs (I.base.tups b xs e),λb o xs e=>jD b o xs (I.base.jD b o xs e),λb ps e=>?_⟩,?_,λx c e=>?_,?_,λx c e=>?_,λp hp=>?_,hok,I.len⟩
 ·exact keep b o (Mm b o e) hb (zb b o e hx) (I.base.keep b o e n hb hx) (I.base.free b o e n hx)
 ·obtain⟨sl,e1⟩:=I.base.slot b o e n hb hx;obtain⟨ail,e2⟩:=slot b _ (Mm b o e) hb (zb b o e hx) e1 (I.base.free b o e n hx);exact⟨ail,e2⟩
 ·obtain⟨o',e1⟩:=I.base.there b o e hx;exact free b o' (zb b o e hx) e1 (I.base.free b o e n hx)
 ·obtain⟨o',e1⟩:=I.base.there b o e hx;exact there b o' (zb b o e hx) e1
 ·obtain⟨m1,e1⟩:=I.base.jX b ps e;obtain⟨m2,e2⟩:=jX b _ e1;exact⟨m1++m2,by rw[e2,Array.append_assoc]⟩
 ·obtain⟨m,hn,hl⟩:=I.loc;refine⟨m,ns m hn,λi x v e1 e2 e3=>?_⟩
  obtain⟨u,r,l⟩:=hl i x v e1 e2 e3;refine⟨u,r,?_⟩
  rcases l with l|⟨k,c,e,z⟩
  ·exact .inl l
  ·exact .inr ⟨k,c,e,cellK x c e _ z⟩
 ·obtain⟨v,z⟩:=I.cell x c e;exact⟨v,cellK x c e v z⟩
 ·obtain⟨m,⟨o,_,_,ho,_⟩,_⟩:=I.loc;exact free _ o (λz=>(hch _ z).2.1 rfl) ho I.free
 ·obtain⟨v,o,ho,hd⟩:=I.cell x c e;exact free c o (λz=>(hch c z).2.2.1 x c e rfl) ho (I.jj x c e)
 ·obtain⟨e,n,ne,nf,d⟩:=I.pin p hp;have kJ:=λz=>(hch p.1 z).2.2.2 p hp rfl
  exact⟨keep p.1 p.2 ne nf kJ e n,free p.1 p.2 kJ e n,ne,nf,d⟩
theorem Inv.un(I:Inv X pins Z H s)(u:Un X.fs [] H H' s.heap h')(hok:cT X.prog X.w H' h'):Inv X pins Z H' {s with heap:=h',toks:=t'}:=by
 obtain⟨m,⟨o,es,ep,ho,r⟩,_⟩:=id I.loc;obtain⟨sl,hL⟩:=u.any ho I.free (by simp)
 exact I.step (ch:=[]) (λ_ z=>nomatch z) (λb o _ hb _ e n=>u.keep b o e n hb (by simp)) (λb o _ hb _ e n=>u.slot b o e n hb (by simp)) (λb o _ e n=>u.free b o e n (by simp)) (λb o _ e=>u.there b o e (by simp)) u.tups u.jD u.jX (λm' hm=>by
  obtain⟨o',es',FF,ho',r'⟩:=hm;rw[ho]at ho';cases ho';exact⟨_,es',FF,hL,r'⟩) hok I.bare
theorem Inv.call(I:Inv X pins Z H s)(u:Un (frs X.stack) ch H H' s.heap h')(hok:cT X.prog X.w H' h')(hg:Sj g')(hch:∀b∈ch,(b∈X.ex\/X.s₀.heap.objs.size<=b)/\b≠X.env.locals/\(∀x c,X.env.cells.lookup x=O c->c≠b)/\∀p∈X.pn++pins,p.1≠b):
  Inv X pins Z H' {s with heap:=h',gens:=g',drawn:=d',toks:=t'}:=by
 obtain⟨m,⟨o,es,ep,ho,r⟩,_⟩:=id I.loc;obtain⟨sl,hL⟩:=u.any ho I.free λz=>(hch _ z).2.1 rfl
 exact I.step hch (λb o hL hb hc e n=>u.keep b o e n (λz=>(Bt.mp (I.nM b z)).elim hL hb) hc) (λb o _ _ hc e n=>u.any e n hc) (λb o hc e n=>u.free b o e n hc) (λb o hc e=>u.there b o e hc) u.tups u.jD u.jX (λm' hm=>by
  obtain⟨o',es',FF,ho',r'⟩:=hm;rw[ho]at ho';cases ho';exact⟨_,es',FF,hL,r'⟩) hok hg
theorem Inv.turned(I:Inv X pins Z H s)(k:∀b o,b≠it->s.heap.get? b=O o->h'.get? b=O o)(hn:H it=U)(hL:it≠X.env.locals)(h1:it∈X.ex\/X.s₀.heap.objs.size<=it)(h2:∀x c,X.env.cells.lookup x=O c->c≠it)(h3:∀p∈X.pn++pins,p.1≠it):Inv X pins Z H {s with heap:=h',toks:=t'}:=by
 have Mi:∀b u,H b=O u->b≠it:=λb u e z=>by rw[z,hn]at e;cases e
 refine I.step (g':=s.gens) (d':=s.drawn) (ch:=[it]) (λb hb=>?_) (λb o _ _ hc e _=>k b o (λz=>hc (by simp[z])) e) (λb o _ _ hc e _=>⟨o.slots,k b o (λz=>hc (by simp[z])) e⟩) (λ_ _ _ _ n=>n)
  (λb o hc e=>⟨o,k b o (λz=>hc (by simp[z])) e⟩) (λ_ _ e=>e) (λ_ _ _ e=>e) (λb ps e=>⟨#[],by rw[e];simp⟩) (λm hm=>?_) (λb u e=>?_) I.bare
 ·have e:b=it:=by simpa using hb
  subst e;exact⟨h1,hL,h2,h3⟩
 ·obtain⟨o,es,ep,ho,r⟩:=hm;exact⟨o,es,ep,k _ o (Rr hL) ho,r⟩
 ·refine(I.hok b u e).stay (λc v hc q=>k c v ?_ q) (λ_ q=>q) λ_ _ q=>q
  rcases hc with z|z
  ·rw[z];exact Mi b u e
  ·exact Mi c _ z
theorem Inv.tok(I:Inv X pins Z H s)(t:Nat):Inv X pins Z H {s with toks:=t}:=I.un (h':=s.heap) (t':=t) Un.refl I.hok
theorem Inv.kept(I:Inv X pins Z H s)(k:∀b u,s.heap.get? b=O u->h'.get? b=O u):Inv X pins Z H {s with heap:=h',toks:=t'}:=I.un (Un.kept k) (I.hok.kept k)
theorem Inv.laid(I:Inv X pins Z H s)(k:∀b u,s.heap.get? b=O u->h'.get? b=O u)(hp:s.heap.objs.size<=a)(new:ff X.prog X.w (upd H a o) h' a o):
  Inv X pins Z (upd H a o) {s with heap:=h',toks:=t'}:=I.un (Un.laid k hp (I.hok.fresh hp)) (I.hok.laid k hp new)
theorem Inv.write(I:Inv X pins Z H s)(mu:xF (H x))(he:e=x\/H e=O (.own x))(k:∀b u,b≠e->s.heap.get? b=O u->h'.get? b=O u)(tE:∃u,h'.get? e=O u)(new:ff X.prog X.w (upd H x o) h' x o):Inv X pins Z (upd H x o) {s with heap:=h',toks:=t'}:=I.un (Un.write mu he k tE) (I.hok.write mu he k tE new)
theorem Inv.uU(I:Inv X pins Z H s)(h:∀p∈C7,s.heap.get? p.1=O p.2/\H p.1=U/\p.1≠X.env.locals/\p.1∉X.fs/\∀v,p.2.data≠.cell v):Inv X C7 Z H s :=
 ⟨I.ok,I.os,I.bare,I.base,I.loc,I.cell,I.free,I.jj,λp hp=>(RI.mp hp).elim (λz=>I.pin p (Xk _ z)) (h p),I.hok,I.len⟩
theorem Ma{N:List Str}(hN:N.Nodup){i j:Nat}(a:N[i]? = O x)(b:N[j]? = O x):i=j:=by
 obtain⟨h1,e1⟩:=Q9.mp a;obtain⟨h2,e2⟩:=Q9.mp b;exact(SS hN).mp (e1.trans e2.symm)
theorem Jp{E:Δ->Ψ->Prop}{Q:Unit->Ψ->Prop}(I:Inv X pins Z H s)(hN:X.N.Nodup)(hi:X.N[i]? = O x)(hx:Loc X.env.scope x)(r:RelV v u)(h:∀s',Inv X pins (Z.set i (O v)) H s'->(∃a,Sz a s.heap s'.heap/\(a=X.env.locals\/X.env.cells.lookup x=O a))->Q () s')(hf:X.fn x=J\/X.env.scope.names.lookup x=O .local:=by first|exact .inl rfl|exact .inr rfl|assumption):wpAny M A (storeName X.env x u) Q E s:=by
 obtain⟨m,hn,hl⟩:=id I.loc;have hcls:(X.env.scope.kind == .class||(X.env.scope.kind == .module&&X.env.locals != X.env.globals))=ξ:=by rw[I.ok.kind];rfl
 have Oe:i<Z.length:=by rw[I.len];exact(Q9.mp hi).1
 have nk:=I.nk;have tracked:∀{a:L}{h':υ},(∃o,s.heap.get? a=O o/\H a=U)->Sz a s.heap h'->cT X.prog X.w H h':=fun{a h'} ha hs b ob e=>by
  obtain⟨_,_,hfree⟩:=ha;refine(I.hok b ob e).stay (λc w' hc q=>(hs.2 c ?_).trans q) (λ_ q=>q) λ_ _ q=>q
  rintro rfl
  rcases hc with rfl|hc
  ·rw[hfree]at e;cases e
  ·rw[hfree]at hc;cases hc
 rcases hx with hk|hk
 ·refine wpAny_storeName_local hk hn (λh' hn' hs=>?_) hcls
  obtain⟨oL,_,_,qv,_⟩:=id hn;refine h _ ⟨I.ok,I.os,I.bare,⟨λb o e n hb hx=>?_,λb o e n hb hx=>?_,I.base.free,λb o e hx=>?_,I.base.tups,I.base.jD,I.base.jX⟩,⟨_,hn',λj y v' e1 e2 e3=>?_⟩,λy c e=>?_,I.free,I.jj,λp hp=>?_,tracked ⟨oL,qv,I.free⟩ hs,by simpa using I.len⟩ ⟨_,hs,.inl rfl⟩
  ·exact(hs.2 b (K1 (P7 (I8 e) I.ok.above))).trans (I.base.keep b o e n hb hx)
  ·obtain⟨sl,e1⟩:=I.base.slot b o e n hb hx;exact⟨sl,(hs.2 b (K1 (P7 (I8 e) I.ok.above))).trans e1⟩
  ·obtain⟨o',e1⟩:=I.base.there b o e hx;exact⟨o',(hs.2 b (K1 (P7 (I8 e) I.ok.above))).trans e1⟩
  ·by_cases hj:j=i
   ·subst hj;rw[hi]at e1;cases e1;rw[Su Oe]at e2;cases e2;exact⟨u,r,.inl ⟨hk,by simp⟩⟩
   ·rw[Th (Rr hj)]at e2;obtain⟨u',r',q⟩:=hl j y v' e1 e2 e3;refine⟨u',r',?_⟩
    rcases q with⟨k,e⟩|⟨k,c,e,z⟩
    ·refine .inl ⟨k,?_⟩;have:y≠x:=λe=>hj (Ma hN e1 (e▸hi))
     simp[this,e]
    ·exact .inr ⟨k,c,e,z.sameBut hs (nk y c e)⟩
  ·obtain⟨w',z⟩:=I.cell y c e;exact⟨w',z.sameBut hs (nk y c e)⟩
  ·obtain⟨e,n,ne,nf,d⟩:=I.pin p hp;exact⟨(hs.2 p.1 ne).trans e,n,ne,nf,d⟩
 ·have hfn:X.fn x=J:=by
   rcases hf with z|z
   ·exact z
   ·rw[z]at hk;cases hk
  obtain⟨c,hc⟩:=I.ok.has x (.inl hk);obtain⟨w',z⟩:=I.cell x c hc;refine wpAny_storeName_cell I.ok.kind hk hc z (λh' hc' hs=>?_)
  obtain⟨oc,hoc,aaJ⟩:=id z;refine h {s with heap:=h'} ⟨I.ok,I.os,I.bare,⟨λb o e n hb hx=>?_,λb o e n hb hx=>?_,I.base.free,λb o e hx=>?_,I.base.tups,I.base.jD,I.base.jX⟩,⟨m,hn.sameBut hs (Rr (nk x c hc)),λj y v' e1 e2 e3=>?_⟩,λy c' e=>?_,I.free,I.jj,λp hp=>?_,tracked ⟨oc,hoc,I.jj x c hc⟩ hs,by simpa using I.len⟩ ⟨c,hs,.inr hc⟩
  ·exact(hs.2 b (K1 (P7 (I8 e) (I.ok.nt x c hfn hc)))).trans (I.base.keep b o e n hb hx)
  ·obtain⟨sl,e1⟩:=I.base.slot b o e n hb hx;exact⟨sl,(hs.2 b (K1 (P7 (I8 e) (I.ok.nt x c hfn hc)))).trans e1⟩
  ·obtain⟨o',e1⟩:=I.base.there b o e hx;exact⟨o',(hs.2 b (K1 (P7 (I8 e) (I.ok.nt x c hfn hc)))).trans e1⟩
  ·by_cases hj:j=i
   ·subst hj;rw[hi]at e1;cases e1;rw[Su Oe]at e2;cases e2;exact⟨u,r,.inr ⟨.inl hk,c,hc,hc'⟩⟩
   ·rw[Th (Rr hj)]at e2;obtain⟨u',r',q⟩:=hl j y v' e1 e2 e3;refine⟨u',r',?_⟩
    rcases q with q|⟨k,c',e,z'⟩
    ·exact .inl q
    ·refine .inr ⟨k,c',e,z'.sameBut hs ?_⟩
     rintro rfl
     exact hj (Ma hN e1 (I.ok.inj _ _ _ e hc▸hi))
  ·by_cases hcc:c'=c
   ·subst hcc;exact⟨_,hc'⟩
   ·obtain⟨w2,z2⟩:=I.cell y c' e;exact⟨w2,z2.sameBut hs hcc⟩
  ·obtain⟨e,n,ne,nf,d⟩:=I.pin p hp;refine⟨(hs.2 p.1 ?_).trans e,n,ne,nf,d⟩;intro q;rw[q,hoc]at e;have q':oc=p.2:=R4 e;exact d w' (by rw[<-q'];exact aaJ)
theorem Jq{E:Δ->Ψ->Prop}{Q:Unit->Ψ->Prop}(I:Inv X pins Z H s)(hN:X.N.Nodup)(hi:X.N[i]? = O x)(hx:Loc X.env.scope x)(r:RelV v u)(h:∀s',Inv X pins (Z.set i (O v)) H s'->Q () s')(hf:X.fn x=J\/X.env.scope.names.lookup x=O .local:=by first|exact .inl rfl|exact .inr rfl|assumption):wpAny M A (storeName X.env x u) Q E s :=
 Jp I hN hi hx r (λs' I' _=>h s' I') hf
theorem Inv.F9{s':Ψ}(I:Inv X pins Z H s)(ho:s'.os=s.os)(u:Un (frs X.stack) ch H H' s.heap s'.heap)(hok:cT X.prog X.w H' s'.heap)(hg:Sj s'.gens)(hch:∀b∈ch,(b∈X.ex\/X.s₀.heap.objs.size<=b)/\b≠X.env.locals/\(∀x c,X.env.cells.lookup x=O c->c≠b)/\∀p∈X.pn++pins,p.1≠b):Inv X pins Z H' s':=by
 obtain⟨h',g',d',t',o'⟩:=s';have e:o'=s.os:=ho;subst e;exact I.call (g':=g') (t':=t') (d':=d') u hok hg hch
end
abbrev XK:=Δ->Option L->Hp->Prop
abbrev St:=List (Option V)
abbrev VK:=V->Hp->Prop
abbrev TE:=St->Hp->VK->Prop
abbrev TT:=St->Hp->(Bool->Hp->Prop)->Prop
abbrev TA:=St->Hp->(List V->Hp->Prop)->Prop
structure Ends where
 nx:St->Hp->Prop
 rt:VK
 bk:St->Hp->Prop:=λ_ _=>False
 ct:St->Hp->Prop:=λ_ _=>False
abbrev TS:=Ends->St->Hp->Prop
def EP(X:Cx)(pins:List (L×Obj))(Z:St)(Q:VK)(u:Δ)(s':Ψ):Prop:=∃v H',Inv X pins Z H' s'/\RelV v u/\Q v H'
def TP(X:Cx)(pins:List (L×Obj))(Z:St)(Q:Bool->Hp->Prop)(b:Bool)(s':Ψ):Prop:=∃H',Inv X pins Z H' s'/\Q b H'
def agw(X:Cx)(pins:List (L×Obj))(Z:St)(Q:List V->Hp->Prop)(us:List Δ)(s':Ψ):Prop:=∃vs H',Inv X pins Z H' s'/\Vals vs us/\Q vs H'
def SP(X:Cx)(pins:List (L×Obj))(D:Ends)(f:Flow)(s':Ψ):Prop :=
 match f with
 |.next=>∃σ' H',Inv X pins σ' H' s'/\D.nx σ' H'
 |.brk=>∃σ' H',Inv X pins σ' H' s'/\D.bk σ' H'
 |.cont=>∃σ' H',Inv X pins σ' H' s'/\D.ct σ' H'
 |.ret u=>∃v σ' H',Inv X pins σ' H' s'/\RelV v u/\D.rt v H'
def PE(X:Cx)(e:μ)(t:TE):Prop :=
 ∀(pins:List (L×Obj)) (s:Ψ) (Z:St) (H:Hp) (Q:VK),Inv X pins Z H s->t Z H Q->wpAny (model X.prog X.w) X.A (eval e X.env) (EP X pins Z Q) X.xe s
def PT(X:Cx)(e:μ)(t:TT):Prop :=
 ∀(pins:List (L×Obj)) (s:Ψ) (Z:St) (H:Hp) (Q:Bool->Hp->Prop),Inv X pins Z H s->t Z H Q->wpAny (model X.prog X.w) X.A (isTrue e X.env (eval e X.env)) (TP X pins Z Q) X.xe s
def PW(X:Cx)(e:μ)(t:TT):Prop :=
 ∀(whole:Sem Δ) (pins:List (L×Obj)) (s:Ψ) (Z:St) (H:Hp) (Q:Bool->Hp->Prop),Inv X pins Z H s->t Z H Q->wpAny (model X.prog X.w) X.A (isTrue e X.env whole) (TP X pins Z Q) X.xe s
theorem PW.pt(h:PW X e t):PT X e t:=h _
def PA(X:Cx)(es:List μ)(t:TA):Prop :=
 ∀(pos:Pos) (pins:List (L×Obj)) (s:Ψ) (Z:St) (H:Hp) (Q:List V->Hp->Prop),Inv X pins Z H s->t Z H Q->wpAny (model X.prog X.w) X.A (spliced (Q6 pos (ε es X.env))) (agw X pins Z Q) X.xe s
def PS(X:Cx)(st:dg)(t:TS):Prop :=
 ∀(pins:List (L×Obj)) (s:Ψ) (Z:St) (H:Hp) (D:Ends),Inv X pins Z H s->t D Z H->wpAny (model X.prog X.w) X.A (exec st X.env) (SP X pins D) X.xe s
def gV(X:Cx)(st:List dg)(t:TS):Prop :=
 ∀(pins:List (L×Obj)) (s:Ψ) (Z:St) (H:Hp) (D:Ends),Inv X pins Z H s->t D Z H->wpAny (model X.prog X.w) X.A (execs st X.env) (SP X pins D) X.xe s
theorem bg{α:Type}{t:Sem α}{Q Q':α->Ψ->Prop}{M:Model}{E:Δ->Ψ->Prop}{s:Ψ}(h:wpAny M A t Q E s)(hQ:∀a s,Q a s->Q' a s):wpAny M A t Q' E s:=RQ h hQ λ_ _ x=>x
section
variable {X:Cx}
def rJ(i:Nat):TE:=λZ H Q=>∃v,Z[i]? = O (O v)/\Q v H
def tC(v:V):TE:=λ_ H Q=>Q v H
theorem Df{pos:Pos}(hN:X.N[i]? = O x)(hv:xE X.env.scope x)(hd:(x==("__debug__":Str))=ξ:=by decide)(hcd:(x==("__classdict__":Str))=ξ:=by decide):PE X (.Name x pos) (rJ i):=by
 intro pins s Z H Q I h;obtain⟨v,e,h⟩:=h;obtain⟨m,hn,hl⟩:=I.loc;obtain⟨u,r,l⟩:=hl i x v hN e hv;have fin:EP X pins Z Q u s:=⟨v,H,I,r,h⟩
 rcases l with⟨hk,hm⟩|⟨hk,c,hc,hcell⟩
 ·exact wpAny_Name (wpAny_loadName_local I.ok.kind hk hn hm fin) hd
 ·rcases hk with hk|hk
  ·exact wpAny_Name (wpAny_loadName_cell I.ok.kind hk hc hcell fin) hd
  ·exact wpAny_Name (wpAny_loadName_free I.ok.kind hk hc hcell fin hcd) hd
theorem alr{i j pos}:PE X (.Constant (.int i) j pos) (tC (.int i)):=λ_ _ _ H _ I h=>wpAny_Constant_int ⟨.int i,H,I.tok _,⟨_,rfl⟩,h⟩
theorem alf{b j pos}:PE X (.Constant (.bool b) j pos) (tC (.bl b)):=λ_ _ _ H _ I h=>Constant_bool ⟨.bl b,H,I,rfl,h⟩
theorem alu{j pos}:PE X (.Constant .none j pos) (tC .aF):=λ_ _ _ H _ I h=>Constant_none ⟨.aF,H,I,rfl,h⟩
theorem ajG{x j pos}:PE X (.Constant (.str x) j pos) (tC (.str x)):=λ_ _ _ H _ I h=>Calls.Constant_str ⟨.str x,H,I.tok _,⟨_,rfl⟩,h⟩
def Gl(X:Cx)(x:Str):Prop:=X.env.kindOf x=O .globalImplicit
theorem Ea{E:Δ->Ψ->Prop}{pos:Pos}{Q:Δ->Ψ->Prop}(I:Inv X pins Z H s)(hg:Gl X x)(hm:X.mg x=O u)(h:Q u s)(hd:(x==("__debug__":Str))=ξ:=by decide):wpAny (model X.prog X.w) X.A (eval (.Name x pos) X.env) Q E s :=
 Xj I.ok.kind hg (Calls.loadGlobal_global (by rw[I.ok.glob];exact I.mod.glob.keeps I.bk) hm h) hd
theorem oi{E:Δ->Ψ->Prop}{pos:Pos}{Q:Δ->Ψ->Prop}(I:Inv X pins Z H s)(hg:Gl X x)(hm:X.mg x=U)(hv:bootBuiltins x=O u)(h:Q u s)(hn:x≠"__name__":=by decide)(hd:(x==("__debug__":Str))=ξ:=by decide):wpAny (model X.prog X.w) X.A (eval (.Name x pos) X.env) Q E s:=by
 obtain⟨mb,h1,h2⟩:=I.mod.blt;exact Xj I.ok.kind hg (Calls.loadGlobal_builtin (by rw[I.ok.glob];exact I.mod.glob.keeps I.bk) hm (by rw[I.ok.blt];exact h1.keeps I.bk) ((h2 x hn).trans hv) h) hd
theorem alp{pos:Pos}(hg:Gl X x)(hm:X.mg x=O u)(r:RelV v u)(hd:(x==("__debug__":Str))=ξ:=by decide):PE X (.Name x pos) (tC v) :=
 λ_ _ _ H _ I h=>Ea I hg hm ⟨v,H,I,r,h⟩ hd
theorem alg{pos:Pos}(hg:Gl X x)(hm:X.mg x=U)(hv:bootBuiltins x=O u)(r:RelV v u)(hn:x≠"__name__":=by decide)(hd:(x==("__debug__":Str))=ξ:=by decide):PE X (.Name x pos) (tC v) :=
 λ_ _ _ H _ I h=>oi I hg hm hv ⟨v,H,I,r,h⟩ hn hd
variable {a b:μ}{ta tb:TE}{pos:Pos}
def tB(t:TE):TT:=λZ H Q=>t Z H λx H1=>∃c,x=.bl c/\Q c H1
theorem akK(h:PE X e t)(he:∀whole,isTrue e X.env whole=(do let v <-whole;standAt e.pos;holding [v] (truthy v)):=by intro _;rfl):PT X e (tB t):=by
 intro pins s Z H Q I hw;refine isTrue_plain (bg (h pins s Z H _ I hw) λv s1 ⟨x,H1,I1,r1,q1⟩=>?_) (he _)
 obtain⟨d,rfl,q⟩:=q1;cases r1;exact Sg ⟨H1,I1,q⟩
variable {tA yk:TT}{rest:List μ}
def ahK(t u:TT):TT:=λZ H Q=>t Z H λc H1=>if c=J then u Z H1 Q else Q ξ H1
def ahP(t u:TT):TT:=λZ H Q=>t Z H λc H1=>if c=J then Q J H1 else u Z H1 Q
def ahN(t:TT):TT:=λZ H Q=>t Z H λc H1=>Q (!c) H1
theorem akO(ha:PT X a tA):PW X (.BoolOp .And [a] pos) tA:=by
 intro wh pins s Z H Q I h;refine isTrue_and (bg (ha pins s Z H Q I h) λc s1 e=>?_)
 cases c with
 |true=>exact isTrue_and_nil e
 |false=>exact e
theorem akQ(ha:PT X a tA):PW X (.BoolOp .Or [a] pos) tA:=by
 intro wh pins s Z H Q I h;refine isTrue_or (bg (ha pins s Z H Q I h) λc s1 e=>?_)
 cases c with
 |false=>exact isTrue_or_nil e
 |true=>exact e
theorem akN(ha:PT X a tA)(hb:PW X (.BoolOp .And (b::rest) pos) yk):PW X (.BoolOp .And (a::b::rest) pos) (ahK tA yk):=by
 intro wh pins s Z H Q I h;refine isTrue_and (bg (ha pins s Z H _ I h) λc s1 ⟨H1,I1,q1⟩=>?_)
 cases c with
 |true=>exact hb wh pins s1 Z H1 Q I1 q1
 |false=>exact⟨H1,I1,q1⟩
theorem akP(ha:PT X a tA)(hb:PW X (.BoolOp .Or (b::rest) pos) yk):PW X (.BoolOp .Or (a::b::rest) pos) (ahP tA yk):=by
 intro wh pins s Z H Q I h;refine isTrue_or (bg (ha pins s Z H _ I h) λc s1 ⟨H1,I1,q1⟩=>?_)
 cases c with
 |true=>exact⟨H1,I1,q1⟩
 |false=>exact hb wh pins s1 Z H1 Q I1 q1
theorem akI(ha:PT X a tA):PT X (.UnaryOp .Not a pos) (ahN tA):=by
 intro pins s Z H Q I h;exact isTrue_not (ha pins s Z H (λc H1=>Q (!c) H1) I h)
def ahz(ta tb:TE):TE:=λZ H Q=>ta Z H λx H1=>∃c,x=.bl c/\if c=J then tb Z H1 Q else Q (.bl ξ) H1
def ahO(ta:TE):TE:=λZ H Q=>ta Z H λx H1=>∃c,x=.bl c/\Q (.bl (!c)) H1
theorem alw{op}(h:PE X a t):PE X (.BoolOp op [a] pos) t:=λpins s Z H Q I hw=>BoolOp_one (h pins s Z H Q I hw)
theorem ale(ha:PE X a ta)(hb:PE X (.BoolOp .And (b::rest) pos) tb):PE X (.BoolOp .And (a::b::rest) pos) (ahz ta tb):=by
 intro pins s Z H Q I h;refine BoolOp_and (bg (ha pins s Z H _ I h) λv s1 ⟨x,H1,I1,r1,q1⟩=>?_)
 obtain⟨c,rfl,q1⟩:=q1;cases r1;refine Sg ?_;cases c with
 |true=>exact hb pins s1 Z H1 Q I1 q1
 |false=>exact⟨.bl ξ,H1,I1,rfl,q1⟩
theorem alv(ha:PE X a ta):PE X (.UnaryOp .Not a pos) (ahO ta):=by
 intro pins s Z H Q I h;refine UnaryOp_ (bg (ha pins s Z H _ I h) λv s1 ⟨x,H1,I1,r1,q1⟩=>?_)
 obtain⟨c,rfl,q1⟩:=q1;cases r1;exact not_of (Sg ⟨.bl (!c),H1,I1,rfl,q1⟩)
def ahY(t:TT)(ta tb:TE):TE:=λZ H Q=>t Z H λc H1=>if c=J then ta Z H1 Q else tb Z H1 Q
theorem alq(hc:PT X c tA)(ha:PE X a ta)(hb:PE X b tb):PE X (.IfExp c a b pos) (ahY tA ta tb):=by
 intro pins s Z H Q I h;refine wpAny_IfExp (bg (hc pins s Z H _ I h) λd s1 ⟨H1,I1,q1⟩=>?_)
 cases d with
 |true=>exact ha pins s1 Z H1 Q I1 q1
 |false=>exact hb pins s1 Z H1 Q I1 q1
end
def bw(K:Ξ)(H:Hp)(a:L)(xs:List V):Prop :=
 Rd H a (.lst xs) \/
  ∃(o:Obj) (its:Array Δ) (n:Nat),K.lookup a=O o/\o.cls=.type "list"/\o.dict=U/\o.data=.seq its n/\its.size<=Ω/\Vals xs its.toList
def bZ(K:Ξ)(H:Hp)(a:L)(xs:List V):Prop :=
 Rd H a (.tup xs) \/
  ∃(o:Obj) (its:Array Δ) (n:Nat),K.lookup a=O o/\o.cls=.type "tuple"/\o.data=.seq its n/\its.size<=Ω/\Vals xs its.toList
def aei:Δ->Option V
 |.none=>O .aF
 |.bool b=>O (.bl b)
 |.int i _=>O (.int i)
 |.str x _=>O (.str x)
 |.bytes b _=>O (.i8 b)
 |.float b _=>O (.oW b)
 |.ref a=>O (.ref a)
 |.type n=>O (.ty n)
 |_=>U
theorem RelV.abs(r:RelV x u):aei u=O x:=by
 cases x with
 |aF=>cases r;rfl
 |bl _=>cases r;rfl
 |int _=>obtain⟨t,rfl⟩:=r;rfl
 |str _=>obtain⟨t,rfl⟩:=r;rfl
 |i8 _=>obtain⟨t,rfl⟩:=r;rfl
 |oW _=>obtain⟨t,rfl⟩:=r;rfl
 |ref _=>cases r;rfl
 |ty _=>cases r;rfl
theorem RelV.inj(r:RelV x u)(q:RelV y u):x=y:=R4 (r.abs.symm.trans q.abs)
theorem Vals.inj:∀{xs ys:List V}{us:List Δ},Vals xs us->Vals ys us->xs=ys
 |_,_,_,.nil,.nil=>rfl
 |_,_,_,.cons r t,.cons r' t'=>by rw[r.inj r',Vals.inj t t']
section
variable {X:Cx}{pins:List (L×Obj)}{Z:St}{H:Hp}{s:Ψ}{a:L}{xs ys:List V}
theorem bw.of{K:Ξ}(h:H a=O (.lst xs)):bw K H a xs:=.inl (.inl h)
theorem bZ.of{K:Ξ}(h:H a=O (.tup xs)):bZ K H a xs:=.inl (.inl h)
theorem Inv.list(I:Inv X pins Z H s)(h:bw X.K H a xs):∃its:List Δ,Vals xs its/\PlainL s.heap a its.toArray/\xs.length<=Ω:=by
 rcases h with h|⟨o,its,n,hk,hc,hd,hs,hz,r⟩
 ·obtain⟨z,its,n,r,e⟩:=h.ok I.hok;exact⟨its,r,⟨_,n,e,rfl,rfl,rfl⟩,z⟩
 ·refine⟨its.toList,r,⟨o,n,I.fY a o hk,hc,hd,by simpa using hs⟩,?_⟩
  have e:=r.length;simp only[R8]at e;omega
theorem Inv.tuple(I:Inv X pins Z H s)(h:bZ X.K H a xs):∃its:List Δ,Vals xs its/\IsTup s.heap a its.toArray/\xs.length<=Ω:=by
 rcases h with h|⟨o,its,n,hk,hc,hs,hz,r⟩
 ·obtain⟨z,its,r,p⟩:=h.ok I.hok;exact⟨its,r,p.tup,z⟩
 ·refine⟨its.toList,r,⟨o,I.fY a o hk,hc,n,by simpa using hs⟩,?_⟩
  have e:=r.length;simp only[R8]at e;omega
theorem Inv.MZ(I:Inv X pins Z H s)(h:bw X.K H a xs)(h':bw X.K H a ys):xs=ys:=by
 obtain⟨its,r,⟨o,n,e,_,_,d⟩,_⟩:=I.list h;obtain⟨its',r',⟨o',n',e',_,_,d'⟩,_⟩:=I.list h';rw[e]at e';cases e';rw[d]at d'
 injection d' with d1 _
 have:its=its':=by simpa using congrArg Array.toList d1
 subst this;exact r.inj r'
theorem Inv.IP(I:Inv X pins Z H s)(h:bZ X.K H a xs)(h':bZ X.K H a ys):xs=ys:=by
 obtain⟨its,r,⟨o,e,_,n,d⟩,_⟩:=I.tuple h;obtain⟨its',r',⟨o',e',_,n',d'⟩,_⟩:=I.tuple h';rw[e]at e';cases e';rw[d]at d'
 injection d' with d1 _
 have:its=its':=by simpa using congrArg Array.toList d1
 subst this;exact r.inj r'
end
abbrev Cx.k8(X:Cx)(E:Δ->Ψ->Prop):Cx:={X with xe:=E}
abbrev Cx.lG(X:Cx):Cx:=X.k8 λ_ _=>False
theorem Cx.Ok.k8{X:Cx}(ok:X.Ok)(E:Δ->Ψ->Prop):(X.k8 E).Ok :=
 ⟨ok.mod,ok.kind,ok.glob,ok.blt,ok.above,ok.inj,ok.has,ok.nt,ok.hd,ok.frames,ok.stk,ok.wJ,ok.bs,ok.i9,ok.mT,ok.tQ,ok.iG,ok.lU⟩
theorem Cx.Ok.nE{X:Cx}{E:Δ->Ψ->Prop}(ok:(X.k8 E).Ok):X.Ok :=
 ⟨ok.mod,ok.kind,ok.glob,ok.blt,ok.above,ok.inj,ok.has,ok.nt,ok.hd,ok.frames,ok.stk,ok.wJ,ok.bs,ok.i9,ok.mT,ok.tQ,ok.iG,ok.lU⟩
section
variable {X:Cx}{pins:List (L×Obj)}{Z:St}{H:Hp}{s:Ψ}{E:Δ->Ψ->Prop}
theorem Inv.k8(I:Inv X pins Z H s)(E:Δ->Ψ->Prop):Inv (X.k8 E) pins Z H s:=⟨I.ok.k8 E,I.os,I.bare,I.base,I.loc,I.cell,I.free,I.jj,I.pin,I.hok,I.len⟩
theorem Inv.nE(I:Inv (X.k8 E) pins Z H s):Inv X pins Z H s:=⟨I.ok.nE,I.os,I.bare,I.base,I.loc,I.cell,I.free,I.jj,I.pin,I.hok,I.len⟩
theorem SP.nE{D:Ends}(h:SP (X.k8 E) pins D f s'):SP X pins D f s':=by
 cases f with
 |next=>obtain⟨σ',H',I,q⟩:=h;exact⟨σ',H',I.nE,q⟩
 |brk=>obtain⟨σ',H',I,q⟩:=h;exact⟨σ',H',I.nE,q⟩
 |cont=>obtain⟨σ',H',I,q⟩:=h;exact⟨σ',H',I.nE,q⟩
 |ret u=>obtain⟨v,σ',H',I,r,q⟩:=h;exact⟨v,σ',H',I.nE,r,q⟩
theorem gV.lG{st:List dg}(h:gV X.lG st t):gV X st t:=λpins s Z H D I hw =>
 RQ (h pins s Z H D (I.k8 _) hw) (λ_ _ q=>q.nE) λ_ _ z=>False.elim z
end
section
variable {X:Cx}{st:dg}{rest:List dg}{t u:TS}{e:μ}{te:TE}{pos:Pos}
def ahL:TS:=λD Z H=>D.nx Z H
def ahA(t u:TS):TS:=λD Z H=>t {D with nx:=u D} Z H
theorem akG:gV X [] ahL:=λ_ _ Z H _ I h=>Ut ⟨Z,H,I,h⟩
theorem C5(h1:PS X st t)(h2:gV X rest u):gV X (st::rest) (ahA t u):=by
 intro pins s Z H D I h;refine wpAny_execs_cons (bg (h1 pins s Z H {D with nx:=u D} I h) λf s1 q=>?_)
 cases f with
 |next =>
  obtain⟨σ',H',I',q⟩:=q;exact h2 pins s1 σ' H' D I' q
 |ret v=>exact q
 |brk=>exact q
 |cont=>exact q
theorem K6(h1:PS X st t):gV X [st] t:=by
 intro pins s Z H D I h;refine wpAny_execs_cons (bg (h1 pins s Z H D I h) λf s1 q=>?_)
 cases f with
 |next=>exact Ut q
 |ret v=>exact q
 |brk=>exact q
 |cont=>exact q
theorem Inv.quiet(I:Inv X pins Z H s):interactive X.env=ξ:=by simp[interactive,I.ok.kind]
def ahs(te:TE):TS:=λD Z H=>te Z H λ_ H1=>D.nx Z H1
theorem ajC(he:PE X e te)(hs:swapsWith e U pos.line X.env=pure ξ:=by rfl):PS X (.Expr e pos) (ahs te):=by
 intro pins s Z H D I h;exact wpAny_Expr_any (bg (he pins s Z H _ I h) λv s1 ⟨x,H1,I1,r1,q1⟩=>⟨Z,H1,I1,q1⟩) I.quiet hs
def ahR(te:TE):TS:=λD Z H=>te Z H D.rt
theorem ajE(he:PE X e te):PS X (.Return (O e) pos) (ahR te):=by
 intro pins s Z H D I h;exact wpAny_Return_some (bg (he pins s Z H _ I h) λv s1 ⟨x,H1,I1,r1,q1⟩=>⟨x,Z,H1,I1,r1,q1⟩)
def ahZ(c:TT)(t u:TS):TS:=λD Z H=>c Z H λb H1=>if b=J then t D Z H1 else u D Z H1
theorem ajD(hc:PT X c tc)(ha:gV X a t)(hb:gV X b u):PS X (.If c a b pos) (ahZ tc t u):=by
 intro pins s Z H D I h;refine wpAny_If (bg (hc pins s Z H _ I h) λd s1 ⟨H1,I1,q1⟩=>?_)
 cases d with
 |true=>exact ha pins s1 Z H1 D I1 q1
 |false=>exact hb pins s1 Z H1 D I1 q1
end
abbrev TG:=V->St->Hp->(St->Hp->Prop)->Prop
abbrev nA:=List V->St->Hp->(St->Hp->Prop)->Prop
def PG(X:Cx)(target:μ)(t:TG):Prop :=
 ∀(pins:List (L×Obj)) (s:Ψ) (Z:St) (H:Hp) (v:V) (u:Δ) (Q:St->Hp->Prop),Inv X pins Z H s->RelV v u->t v Z H Q ->
  wpAny (model X.prog X.w) X.A (assign target X.env u) (λ_ s'=>∃σ' H',Inv X pins σ' H' s'/\Q σ' H') X.xe s
def pH(X:Cx)(ts:List μ)(t:nA):Prop :=
 ∀(pins:List (L×Obj)) (s:Ψ) (Z:St) (H:Hp) (vs:List V) (us:List Δ) (Q:St->Hp->Prop),Inv X pins Z H s->Vals vs us->t vs Z H Q ->
  wpAny (model X.prog X.w) X.A (assignInOrder ((assignEach ts X.env).map (·.2)) us) (λ_ s'=>∃σ' H',Inv X pins σ' H' s'/\Q σ' H') X.xe s
abbrev HC:=V->V->V->Hp->(Hp->Prop)->Prop
def QU(X:Cx)(t:HC):Prop :=
 ∀(pins:List (L×Obj)) (s:Ψ) (Z:St) (H:Hp) (o i v:V) (ov iv u:Δ) (Q:Hp->Prop),Inv X pins Z H s->RelV o ov->RelV i iv->RelV v u->t o i v H Q ->
  wpAny (model X.prog X.w) X.A (setItem ov iv u) (λ_ s'=>∃H',Inv X pins Z H' s'/\Q H') X.xe s
section
variable {X:Cx}{pos:Pos}
def we(i:Nat):TG:=λv Z H Q=>Q (Z.set i (O v)) H
theorem Dc(hN:X.N.Nodup)(hi:X.N[i]? = O x)(hx:Loc X.env.scope x)(hf:X.fn x=J\/X.env.scope.names.lookup x=O .local:=by first|exact .inl rfl|exact .inr rfl|assumption):PG X (.Name x pos) (we i):=by
 intro pins s Z H v u Q I r h;exact wpAny_assign_Name (Jq I hN hi hx r (λs' I'=>⟨_,H,I',h⟩) hf)
def OM:nA:=λvs Z H Q=>vs=[]/\Q Z H
def Ff(t:TG)(u:nA):nA:=λvs Z H Q=>∃v r,vs=v::r/\t v Z H λσ' H'=>u r σ' H' Q
theorem Li:pH X [] OM:=by
 intro pins s Z H vs us Q I r h;obtain⟨e,h⟩:=h;subst e;cases r;exact assignInOrder_nil ⟨Z,H,I,h⟩
theorem C9(h1:PG X e t)(h2:pH X es u)(hs:(assignEach (e::es) X.env).map (·.2)=assign e X.env::(assignEach es X.env).map (·.2):=by rfl):pH X (e::es) (Ff t u):=by
 intro pins s Z H vs us Q I r h;obtain⟨v,vr,e1,h⟩:=h;subst e1;cases r with
 |cons r rr =>
  rw[hs];refine assignInOrder_cons (bg (h1 pins s Z H _ _ _ I r h) λ_ s1 ⟨σ1,H1,I1,q1⟩=>?_)
  exact h2 pins s1 σ1 H1 _ _ Q I1 rr q1
def OL(K:Ξ)(n:Nat)(t:nA):TG:=λv Z H Q=>∃a xs,v=.ref a/\bZ K H a xs/\xs.length=n/\t xs Z H Q
theorem Lj(hc:X.calm=J)(h:pH X es t)(hn:(assignEach es X.env).length=n:=by rfl)(hst:(assignEach es X.env).findIdx? (·.1)=U:=by rfl):PG X (.Tuple es k pos) (OL X.K n t):=by
 intro pins s Z H v u Q I r hw;obtain⟨a,xs,e1,hq,hl,hw⟩:=hw;subst e1;cases r;obtain⟨its,rv,ht,hz⟩:=I.tuple hq;refine assign_Tuple_tuple (I.ok.hd hc) ht (by simp[hn,<-hl,rv.length]) hst λh' hx=>?_
 have I1:Inv X pins Z H {s with heap:=h'}:=I.kept (t':=s.toks) λb o e=>hx b o (K1 (I8 e)) e
 exact h pins _ Z H xs _ Q I1 (by simpa using rv) hw
def abP(to ti:TE)(t:HC):TG:=λv Z H Q=>to Z H λo H1=>ti Z H1 λi H2=>t o i v H2 λH3=>Q Z H3
theorem ajJ(ho:PE X o to)(hi:PE X i ti)(hs:QU X t)(ha:∀v,assign (.Subscript o i pos) X.env v=(do
   let ov <-holding [v] (eval o X.env)
   let iv <-holding [v,ov] (eval i X.env)
   standAt pos
   holding [v,ov,iv] (setItem ov iv v)
   release [v,ov,iv] []):=by intro _;rfl):PG X (.Subscript o i pos) (abP to ti t):=by
 intro pins s Z H v u Q I r h;rw[ha];refine Rc (RU (bg (ho pins s Z H _ I h) λov s1 ⟨x,H1,I1,r1,q1⟩=>?_))
 refine Rc (RU (bg (hi pins s1 Z H1 _ I1 q1) λiv s2 ⟨y,H2,I2,r2,q2⟩=>?_))
 refine Rc (WI (Rc (RU (bg (hs pins s2 Z H2 x y v ov iv u _ I2 r1 r2 r q2) λ_ s3 ⟨H3,I3,q3⟩=>?_))))
 exact wpAny_release ⟨Z,H3,I3,q3⟩
def CF(te:TE)(g:TG):TS:=λD Z H=>te Z H λx H1=>g x Z H1 D.nx
theorem ajA(he:PE X e te)(hg:PG X tg g)(hs:swapsWithSole [tg] e pos.line X.env=pure ξ:=by rfl)(hw:swappedStores [tg] e X.env=pure U:=by rfl)(h1:(assignEach [tg] X.env).map (·.2)=[assign tg X.env]:=by rfl):PS X (.Assign [tg] e pos) (CF te g):=by
 intro pins s Z H D I h;refine wpAny_Assign_stores (bg (he pins s Z H _ I h) λv s1 ⟨x,H1,I1,r1,q1⟩=>?_) hs hw
 rw[h1];exact bg (hg pins s1 Z H1 x v _ I1 r1 q1) λ_ s2 q=>q
theorem K7{pos':Pos}(hN:X.N.Nodup)(hi:X.N[i]? = O x)(hx:Loc X.env.scope x)(he:PE X e te)(hs:swapsWith e (O (.Name x pos')) pos.line X.env=pure ξ:=by rfl)(hf:X.fn x=J\/X.env.scope.names.lookup x=O .local:=by first|exact .inl rfl|exact .inr rfl|assumption):
  PS X (.Assign [.Name x pos'] e pos) (CF te (we i)):=by
 intro pins s Z H D I h;refine wpAny_Assign_Name (bg (he pins s Z H _ I h) λv s1 ⟨y,H1,I1,r1,q1⟩=>?_) hs
 exact Jq I1 hN hi hx r1 (λs2 I2=>⟨_,H1,I2,q1⟩) hf
end
section
variable {X:Cx}{pos:Pos}
def ahG(c:TT)(tb:TS):TS:=λD Z H=>∃W:Nat->St->Hp->Prop,(∃m,W m Z H)/\∀m Z H,W m Z H ->
 c Z H λb H1=>if b=J then ∃N:St->Hp->Prop,(∀σ' H',N σ' H'->∃m',m'<m/\W m' σ' H')/\tb {D with nx:=N,ct:=N,bk:=D.nx} Z H1 else D.nx Z H1
theorem akF{body:List dg}(hp:VH (model X.prog X.w) X.A X.env X.xe)(hc:PT X c tc)(hb:gV X body tb):PS X (.While c body [] pos) (ahG tc tb):=by
 intro pins s Z H D I h;obtain⟨W,⟨m0,w0⟩,turn⟩:=h;refine wpAny_While (codeAny_whileLoop (λn s'=>∃σ' H',Inv X pins σ' H' s'/\W n σ' H') ?_ m0 ⟨Z,H,I,w0⟩)
 rintro n s1 ⟨σ1,H1,I1,w1⟩
 refine TY hp (bg (hc pins s1 σ1 H1 _ I1 (turn n σ1 H1 w1)) λb s2 ⟨H2,I2,q2⟩=>?_)
 cases b with
 |true =>
  obtain⟨N,hN,q2⟩:=q2;rw[if_pos rfl];refine TY hp (bg (hb pins s2 σ1 H2 _ I2 q2) λf s3 q3=>?_)
  cases f with
  |next =>
   obtain⟨σ3,H3,I3,n3⟩:=q3;obtain⟨m',hm,w3⟩:=hN σ3 H3 n3;exact⟨m',hm,σ3,H3,I3,w3⟩
  |cont =>
   obtain⟨σ3,H3,I3,n3⟩:=q3;obtain⟨m',hm,w3⟩:=hN σ3 H3 n3;exact⟨m',hm,σ3,H3,I3,w3⟩
  |brk=>exact q3
  |ret v=>exact q3
 |false =>
  rw[if_neg RH];exact Ut ⟨σ1,H2,I2,q2⟩
end
structure It where
 go:Nat->Hp->Prop
 qX:Nat->Hp->V->Hp->Prop
 stop:Nat->Hp->Prop
def eN(X:Cx)(pins:List (L×Obj))(H:Hp)(b:L):Prop :=
 H b=U/\b≠X.env.locals/\b∉X.fs/\(b∈X.ex\/X.s₀.heap.objs.size<=b)/\(∀x c,X.env.cells.lookup x=O c->c≠b)/\∀p∈X.pn++pins,p.1≠b
theorem Inv.tM(I:Inv X pins Z H s)(hb:s.heap.objs.size<=b)(hn:H' b=U):eN X pins H' b:=by
 refine⟨hn,Rn (P7 I.lt hb),I.DB hb,.inr (R9 I.sz hb),λx c e z=>?_,λp hp z=>?_⟩
 ·obtain⟨v,q⟩:=I.cell x c e;exact absurd (P7 q.lt (by rw[z];exact hb)) (RS _)
 ·exact absurd (P7 (I8 (I.pin p hp).1) (by rw[z];exact hb)) (RS _)
structure Turn (P:ν) (w:τ) (K:Ξ) (tg:μ) (Γ:It) (fp:List L) (it:L) (tn:Nat->υ->Prop):Prop where
 mem:it∈fp
 obj:∀i h,tn i h->∀b∈fp,∃o,h.get? b=O o/\∀v,o.data≠.cell v
 keep:∀i h h',tn i h->(∀b∈fp,∀o,h.get? b=O o->h'.get? b=O o)->tn i h'
 item:∀(X:Cx),X.prog=P->X.w=w->X.K=K->X.calm=J->∀(i:Nat) (pins:List (L×Obj)) (s:Ψ) (Z:St) (H:Hp) (E:Δ->Ψ->Prop),Inv X pins Z H s->(∀b∈fp,eN X pins H b)->tn i s.heap->Γ.go i H ->
  wpAny (model P w) X.A (pyNext (.ref it)) (λr s1=>∃u,r=O u /\
   wpAny (model P w) X.A (letOwnedTupleGo tg (.ref it) u) (λ_ s2=>∃x H',Inv X pins Z H' s2/\RelV x u/\Γ.qX i H x H'/\tn (i+1) s2.heap/\∀b∈fp,H' b=U) E s1) E s
 done:∀(X:Cx),X.prog=P->X.w=w->X.K=K->X.calm=J->∀(i:Nat) (pins:List (L×Obj)) (s:Ψ) (Z:St) (H:Hp) (E:Δ->Ψ->Prop),Inv X pins Z H s->(∀b∈fp,eN X pins H b)->tn i s.heap->Γ.stop i H ->
  wpAny (model P w) X.A (pyNext (.ref it)) (λr s1=>r=U/\Inv X pins Z H s1) E s
 self:∀(A:χ) (i:Nat) (s:Ψ) (Q:Δ->Ψ->Prop) (E:Δ->Ψ->Prop),tn i s.heap->Q (.ref it) s->wpAny (model P w) A (pyIter (.ref it)) Q E s
abbrev TI:=St->Hp->(It->Hp->Prop)->Prop
def QV(X:Cx)(pins:List (L×Obj))(Z:St)(tg:μ)(R:It->Hp->Prop)(itv:Δ)(s2:Ψ):Prop :=
 ∃(it:L) (fp:List L) (tn:Nat->υ->Prop) (Γ:It) (H':Hp),itv=.ref it/\Inv X pins Z H' s2/\Turn X.prog X.w X.K tg Γ fp it tn/\tn 0 s2.heap/\(∀b∈fp,eN X pins H' b)/\R Γ H'
def PI(X:Cx)(tg iter:μ)(wi:TI):Prop :=
 ∀(pins:List (L×Obj)) (s:Ψ) (Z:St) (H:Hp) (R:It->Hp->Prop),Inv X pins Z H s->wi Z H R ->
  wpAny (model X.prog X.w) X.A (eval iter X.env) (λv s1=>wpAny (model X.prog X.w) X.A (pyIter v) (QV X pins Z tg R) X.xe s1) X.xe s
theorem E8{E:Δ->Ψ->Prop}{s:Ψ}{Q:Unit->Ψ->Prop}(ho:s.heap.get? it=O o)(hc:o.cls=.type n)(hd:o.data=.fields vs)(hn:["enumerate","zip","dict_itemiterator","dict_reverseitemiterator","odict_iterator","itertools.zip_longest","itertools.pairwise"].contains n=ξ)(hQ:Q () s):wpAny M A (letOwnedTupleGo tg (.ref it) u) Q E s:=by
  cases tg<;>first
    | exact ZA hQ
    | (cases u<;>first
        | exact ZA hQ
        | (refine Rc (wpAny_load ho ?_)
           rw[hc,hd];show wpAny M A (if _=J then _ else _) Q E s
           rw[if_neg (by intro h;rw[hn,Bool.false_and]at h;cases h)]
           exact ZA hQ))
def HN(K:Ξ)(a:L):It :=
 ⟨λi H=>∃xs x,bw K H a xs/\xs[i]? = O x,λi H x H'=>H'=H/\∀xs,bw K H a xs->xs[i]? = O x,λi H=>∃xs,bw K H a xs/\xs.length<=i⟩
def HM(K:Ξ)(a:L):It :=
 ⟨λi H=>∃xs x,bZ K H a xs/\xs[i]? = O x,λi H x H'=>H'=H/\∀xs,bZ K H a xs->xs[i]? = O x,λi H=>∃xs,bZ K H a xs/\xs.length<=i⟩
def xH(lo:Int)(n:Nat):It:=⟨λi _=>i<n,λi H x H'=>H'=H/\x=.int (lo+i),λi _=>n<=i⟩
theorem agP{w:τ}{K:Ξ}{tg:μ}(a it:L):Turn P w K tg (HN K a) [it] it (λi h=>h.IsListIter it a i) where
 mem:=by simp
 obj:=λi h st b hb=>by
  have e:b=it:=by simpa using hb
  subst e;obtain⟨o,e,c,d⟩:=st;exact⟨o,e,λv z=>by rw[d]at z;cases z⟩
 keep:=λi h h' st k=>st.at λo e=>k it (by simp) o e
 item:=by
  intro X hP hw hK hc i pins s Z H E I hf st hg;subst hP hw hK;obtain⟨xs,x,hq,hx⟩:=hg;obtain⟨its,rv,p,hz⟩:=I.list hq;obtain⟨u,hu,ru⟩:=rv.get hx;obtain⟨f0,f1,f2,f3,f4,f5⟩:=hf it (by simp)
  refine WH st p.isList (by simpa using hu) λh' st' sb=>?_
  have I1:Inv X pins Z H {s with heap:=h'}:=I.turned (λb o hb e=>(sb.2 b hb).trans e) f0 f1 f3 f4 f5
  obtain⟨o,e,c,d⟩:=id st';exact⟨u,rfl,E8 e c d ⋯ ⟨x,H,I1,ru,⟨rfl,λys hy=>by rw[I.MZ hy hq];exact hx⟩,st',λb hb=>(hf b hb).1⟩⟩
 done:=by
  intro X hP hw hK hc i pins s Z H E I hf st hg;subst hP hw hK;obtain⟨xs,hq,hx⟩:=hg;obtain⟨its,rv,p,hz⟩:=I.list hq;obtain⟨f0,f1,f2,f3,f4,f5⟩:=hf it (by simp)
  have hl:=rv.length;exact Xi (I.ok.hd hc) st p.isList (by simp;omega) λh' eb=>⟨rfl,I.turned (λb o hb e=>eb b o hb e) f0 f1 f3 f4 f5⟩
 self:=λ_ _ _ _ _ st h=>wpAny_pyIter_listiter st h
theorem agN{w:τ}{K:Ξ}{tg:μ}(a it:L):Turn P w K tg (HM K a) [it] it (λi h=>h.IsTupleIter it a i) where
 mem:=by simp
 obj:=λi h st b hb=>by
  have e:b=it:=by simpa using hb
  subst e;obtain⟨o,e,c,d⟩:=st;exact⟨o,e,λv z=>by rw[d]at z;cases z⟩
 keep:=λi h h' st k=>st.at λo e=>k it (by simp) o e
 item:=by
  intro X hP hw hK hc i pins s Z H E I hf st hg;subst hP hw hK;obtain⟨xs,x,hq,hx⟩:=hg;obtain⟨its,rv,p,hz⟩:=I.tuple hq;obtain⟨u,hu,ru⟩:=rv.get hx;obtain⟨f0,f1,f2,f3,f4,f5⟩:=hf it (by simp)
  refine wpAny_pyNext_tuple_item st (show s.heap.IsTuple a its.toArray from p) (x:=u) (by simpa using hu) λh' st' sb=>?_
  have I1:Inv X pins Z H {s with heap:=h'}:=I.turned (t':=s.toks) (λb o hb e=>(sb.2 b hb).trans e) f0 f1 f3 f4 f5
  obtain⟨o,e,c,d⟩:=id st';exact⟨u,rfl,E8 (s:={s with heap:=h'}) e c d ⋯ ⟨x,H,I1,ru,⟨rfl,λys hy=>by rw[I.IP hy hq];exact hx⟩,st',λb hb=>(hf b hb).1⟩⟩
 done:=by
  intro X hP hw hK hc i pins s Z H E I hf st hg;subst hP hw hK;obtain⟨xs,hq,hx⟩:=hg;obtain⟨its,rv,p,hz⟩:=I.tuple hq;obtain⟨f0,f1,f2,f3,f4,f5⟩:=hf it (by simp)
  have hl:=rv.length;exact wpAny_pyNext_tuple_end (I.ok.hd hc) st (show s.heap.IsTuple a its.toArray from p) (by simp;omega) λh' eb=>⟨rfl,I.turned (t':=s.toks) (λb o hb e=>eb b o hb e) f0 f1 f3 f4 f5⟩
 self:=λ_ _ _ _ _ st h=>wpAny_pyIter_tupleiter st h
theorem agQ{w:τ}{K:Ξ}{tg:μ}(it:L)(lo:Int)(n:Nat):Turn P w K tg (xH lo n) [it] it (λi h=>IsRangeIter h it (lo+(i:Nat)*1) ((n:Int)-(i:Nat)) 1) where
 mem:=by simp
 obj:=λi h st b hb=>by
  have e:b=it:=by simpa using hb
  subst e;exact⟨_,st,λv z=>by
   have z':Data.fields _=Data.cell v:=z;cases z'⟩
 keep:=λi h h' st k=>k it (by simp) _ st
 item:=by
  intro X hP hw hK hc i pins s Z H E I hf st hg;subst hP hw hK;obtain⟨f0,f1,f2,f3,f4,f5⟩:=hf it (by simp)
  have W:=Walks.range (prog:=X.prog) (w:=X.w) (I.ok.hd hc) it lo 1 n;refine W.item i s _ _ hg st λv h' tk hv st' kk=>?_
  obtain⟨t,rfl⟩:=hv;have I1:Inv X pins Z H {s with heap:=h',toks:=tk}:=I.turned (λb o hb e=>kk b o (by simpa using hb) e) f0 f1 f3 f4 f5
  refine⟨_,rfl,E8 (s:={s with heap:=h',toks:=tk}) (n:="range_iterator") st' rfl rfl ⋯ ⟨.int (lo+i),H,I1,⟨t,?_⟩,⟨rfl,rfl⟩,st',λb hb=>(hf b hb).1⟩⟩
  rw[Int.mul_one]
 done:=by
  intro X hP hw hK hc i pins s Z H E I hf st hg;subst hP hw hK;obtain⟨f0,f1,f2,f3,f4,f5⟩:=hf it (by simp)
  exact wpAny_pyNext_range_end (I.ok.hd hc) st (by have:n<=i:=hg;omega) λh' eb=>⟨rfl,I.turned (t':=s.toks) (λb o hb e=>eb b o hb e) f0 f1 f3 f4 f5⟩
 self:=λ_ _ _ _ _ st h=>wpAny_pyIter_rangeiter st h
section
variable {X:Cx}{tg:μ}
def aat(K:Ξ)(tl:TE):TI:=λZ H R=>tl Z H λx H1=>∃a,x=.ref a/\(∃xs,bw K H1 a xs)/\R (HN K a) H1
def aaq(K:Ξ)(tl:TE):TI:=λZ H R=>tl Z H λx H1=>∃a,x=.ref a/\(∃xs,bZ K H1 a xs)/\R (HM K a) H1
theorem ajM(hl:PE X l tl):PI X tg l (aat X.K tl):=by
 intro pins s Z H R I h;refine bg (hl pins s Z H _ I h) λv s1 ⟨x,H1,I1,r1,q1⟩=>?_
 obtain⟨a,e,⟨xs,hq⟩,q⟩:=q1;subst e;cases r1;obtain⟨its,rv,p,hz⟩:=I1.list hq;refine Sf p.isList ?_;refine⟨s1.heap.objs.size,[s1.heap.objs.size],_,_,H1,rfl,I1.kept (t':=s1.toks) λb o e=>J' _ e,agP a _,⟨_,Q4 _ rfl,rfl,rfl⟩,λb hb=>?_,q⟩
 have e:b=s1.heap.objs.size:=by simpa using hb
 subst e;exact I1.tM (x6 _) (I1.hok.fresh (x6 _))
theorem ako(hl:PE X l tl):PI X tg l (aaq X.K tl):=by
 intro pins s Z H R I h;refine bg (hl pins s Z H _ I h) λv s1 ⟨x,H1,I1,r1,q1⟩=>?_
 obtain⟨a,e,⟨xs,hq⟩,q⟩:=q1;subst e;cases r1;obtain⟨its,rv,p,hz⟩:=I1.tuple hq;refine UJ (show s1.heap.IsTuple a its.toArray from p) ?_
 refine⟨s1.heap.objs.size,[s1.heap.objs.size],_,_,H1,rfl,I1.kept (t':=s1.toks) λb o e=>J' _ e,agN a _,⟨_,Q4 _ rfl,rfl,rfl⟩,λb hb=>?_,q⟩
 have e:b=s1.heap.objs.size:=by simpa using hb
 subst e;exact I1.tM (x6 _) (I1.hok.fresh (x6 _))
theorem K0{R:It->Hp->Prop}{E:Δ->Ψ->Prop}{lo:Int}(I:Inv X pins Z H s)(h1:-(2^62)<=lo)(h2:lo<2^62)(h3:-(2^62)<=hi)(h4:hi<2^62)(q:R (xH lo (hi-lo).toNat) H):wpAny (model X.prog X.w) X.A (pyIter (.ref s.heap.objs.size)) (QV X pins Z tg R) E {s with heap:=s.heap.push {cls:=.type "range",data:=.fields #[.int lo t,.int hi u,.int 1 v]},toks:=tk}:=by
 refine wpAny_pyIter_range (IsRange.new ..) (small_one h1 h2 h3 h4) ?_;have I1:Inv X pins Z H {s with heap:=s.heap.push {cls:=.type "range",data:=.fields #[.int lo t,.int hi u,.int 1 v]},toks:=tk}:=I.kept λb o e=>J' _ e
 refine⟨(s.heap.push {cls:=.type "range",data:=.fields #[.int lo t,.int hi u,.int 1 v]}).objs.size,[(s.heap.push {cls:=.type "range",data:=.fields #[.int lo t,.int hi u,.int 1 v]}).objs.size],_,_,H,rfl,
  I1.kept (t':=tk) λb o e=>J' _ e,agQ _ lo (hi-lo).toNat,?_,λb hb=>?_,q⟩
 ·have e1:lo+((0:Nat):Int)*1=lo:=by simp
  have e2:(((hi-lo).toNat:Nat):Int)-((0:Nat):Int)=Builtin.Range.rangeSize lo hi 1:=by rw[rangeSize_one];split<;>omega
  show IsRangeIter _ _ (lo+((0:Nat):Int)*1) ((((hi-lo).toNat:Nat):Int)-((0:Nat):Int)) 1;rw[e1,e2];exact Q4 _ rfl
 ·have e:b=(s.heap.push {cls:=.type "range",data:=.fields #[.int lo t,.int hi u,.int 1 v]}).objs.size:=by simpa using hb
  subst e;exact I1.tM (x6 _) (I1.hok.fresh (x6 _))
def aas(ta:TA):TI:=λZ H R=>ta Z H λvs H1=>∃j:Int,vs=[.int j]/\-(2^62)<=j/\j<2^62/\R (xH 0 j.toNat) H1
def aar(ta:TA):TI:=λZ H R=>ta Z H λvs H1=>∃i j:Int,vs=[.int i,.int j]/\(-(2^62)<=i/\i<2^62/\-(2^62)<=j/\j<2^62)/\R (xH i (j-i).toNat) H1
theorem akm{pos:Pos}(hg:Gl X "range")(hm:X.mg "range"=U)(ha:PA X [a] ta)(hs:ε [a] X.env=[(ξ,eval a X.env)]:=by rfl):PI X tg (.Call (.Name "range" p) [a] [] pos) (aas ta):=by
 intro pins s Z H R I h;refine Call_ (oi I hg hm boot_range (UI (bg (ha pos pins s Z H _ I h) λus s1 ⟨vs,H1,I1,r1,q1⟩=>?_) hs rfl))
 obtain⟨j,e,q1,q2,q⟩:=q1;subst e;cases r1 with
 |cons r rr =>
  cases rr;obtain⟨t,rfl⟩:=r;exact call_range_1 (K0 I1 ∅ ∅ q1 q2 (by simpa using q))
theorem akn{pos:Pos}(hg:Gl X "range")(hm:X.mg "range"=U)(ha:PA X [a,b] ta)(hs:ε [a,b] X.env=[(ξ,eval a X.env),(ξ,eval b X.env)]:=by rfl)(hs2:ε [b] X.env=[(ξ,eval b X.env)]:=by rfl):
  PI X tg (.Call (.Name "range" p) [a,b] [] pos) (aar ta):=by
 intro pins s Z H R I h;refine Call_ (oi I hg hm boot_range (UI (bg (ha pos pins s Z H _ I h) λus s1 ⟨vs,H1,I1,r1,q1⟩=>?_) (by rw[hs,hs2]) (by rw[hs2];rfl)))
 obtain⟨i,j,e,⟨q1,q2,q3,q4⟩,q⟩:=q1;subst e;cases r1 with
 |cons r rr =>
  cases rr with
  |cons r' rr =>
   cases rr;obtain⟨t,rfl⟩:=r;obtain⟨t',rfl⟩:=r';exact call_range_2 (K0 I1 q1 q2 q3 q4 q)
def Jg(wi:TI)(g:TG)(tb:TS):TS:=λD Z H=>wi Z H λΓ H1=>∃W:Nat->Nat->St->Hp->Prop,(∃m,W 0 m Z H1)/\∀i m Z H,W i m Z H ->
 (Γ.stop i H/\D.nx Z H)\/(Γ.go i H/\∃N:St->Hp->Prop,(∀σ' H',N σ' H'->∃m',m'<m/\W (i+1) m' σ' H')/\∀x H',Γ.qX i H x H'->g x Z H' λσ2 H2=>tb {D with nx:=N,ct:=N,bk:=D.nx} σ2 H2)
def uV(fp:List L)(h:υ):List (L×Obj):=fp.filterMap λb=>(h.get? b).map λo=>(b,o)
theorem zk{h:υ}(hb:b∈fp)(e:h.get? b=O o):(b,o)∈uV fp h:=UH.mpr ⟨b,hb,by rw[e];rfl⟩
theorem alE(hp:p∈uV fp h):p.1∈fp/\h.get? p.1=O p.2:=by
 obtain⟨b,hb,e⟩:=UH.mp hp;cases q:h.get? b with
 |none=>rw[q]at e;cases e
 |some o =>
  rw[q]at e;have e':(b,o)=p:=R4 e;subst e';exact⟨hb,q⟩
theorem Inv.pinned(I:Inv X pins Z H s)(hf:∀b∈fp,eN X pins H b)(ho:∀b∈fp,∃o,s.heap.get? b=O o/\∀v,o.data≠.cell v):Inv X (pins++uV fp s.heap) Z H s :=
 I.uU λp hp=>(RI.mp hp).elim (λz=>I.pin p (RP _ z)) λz=>by
  obtain⟨hb,e⟩:=alE z;obtain⟨f0,f1,f2,_⟩:=hf p.1 hb;obtain⟨o,e',d⟩:=ho p.1 hb;rw[e]at e';cases e';exact⟨e,f0,f1,f2,d⟩
theorem Inv.pN(I:Inv X (pins++pl) Z H s):Inv X pins Z H s:=I.uU λp hp=>I.pin p (RP _ (Xk _ hp))
theorem K8{iter:μ}{body:List dg}{pos:Pos}(hp:VH (model X.prog X.w) X.A X.env X.xe)(hc:X.calm=J)(hi:PI X tg iter wi)(hg:PG X tg g)(hb:gV X body tb)(hs:∀x,foldedSetIterable iter X.env x=pure x:=by intro _;rfl):PS X (.For tg iter body [] pos) (Jg wi g tb):=by
 intro pins s Z H D I h;refine wpAny_For (bg (hi pins s Z H _ I h) λv s1 h1=>bg h1 λitv s2 h2=>?_) hs
 obtain⟨it,fp,tn,Γ,H2,e,I2,T,st2,f2,W,⟨m0,w0⟩,turn⟩:=h2;subst e;have pT:∀{H':Hp},(∀b∈fp,H' b=U)->∀b∈fp,eN X pins H' b:=λhn b hb=>⟨hn b hb,(f2 b hb).2⟩
 refine codeAny_forLoop_any (λn s'=>∃i σ' H',Inv X pins σ' H' s'/\tn i s'.heap/\(∀b∈fp,H' b=U)/\W i n σ' H') ?_ m0 ⟨0,Z,H2,I2,st2,λb hb=>(f2 b hb).1,w0⟩
 rintro n s3 ⟨i,σ3,H3,I3,st3,OU,w3⟩
 rcases turn i n σ3 H3 w3 with⟨stop,qn⟩|⟨go,N,hN,step⟩
 ·refine TY hp (bg (T.done X rfl rfl rfl hc i pins s3 σ3 H3 X.xe I3 (pT OU) st3 stop) λr s4 ⟨hr,I4⟩=>?_)
  subst hr;exact Ut ⟨σ3,H3,I4,qn⟩
 ·refine TY hp (bg (T.item X rfl rfl rfl hc i pins s3 σ3 H3 X.xe I3 (pT OU) st3 go) λr s4 ⟨u,hr,h4⟩=>?_)
  subst hr;refine TY hp (bg h4 λ_ s5 ⟨x,H5,I5,r5,y5,pV,zS⟩=>?_)
  have I5':=I5.pinned (pT zS) (T.obj _ _ pV);refine TY hp (bg (hg _ s5 σ3 H5 x u _ I5' r5 (step x H5 y5)) λ_ s6 ⟨agG,H6,I6,q6⟩=>?_)
  refine TY hp (bg (hb _ s6 agG H6 _ I6 q6) λf s7 q7=>?_)
  have again:∀{kD:St}{H7:Hp},Inv X (pins++uV fp s5.heap) kD H7 s7->N kD H7->∃m,m<n/\∃i σ' H',Inv X pins σ' H' s7/\tn i s7.heap/\(∀b∈fp,H' b=U)/\W i m σ' H':=fun{kD H7} I7 n7=>by
   obtain⟨m',hm,w7⟩:=hN kD H7 n7;refine⟨m',hm,i+1,kD,H7,I7.pN,T.keep _ _ _ pV λb hb o e=>(I7.pin (b,o) (RP _ (RP _ (zk hb e)))).1,λb hb=>?_,w7⟩
   obtain⟨o,e,d⟩:=T.obj _ _ pV b hb;exact(I7.pin (b,o) (RP _ (RP _ (zk hb e)))).2.1
  cases f with
  |next=>obtain⟨kD,H7,I7,n7⟩:=q7;exact again I7 n7
  |cont=>obtain⟨kD,H7,I7,n7⟩:=q7;exact again I7 n7
  |brk=>obtain⟨kD,H7,I7,q7⟩:=q7;exact⟨kD,H7,I7.pN,q7⟩
  |ret v=>obtain⟨x7,kD,H7,I7,r7,q7⟩:=q7;exact⟨x7,kD,H7,I7.pN,r7,q7⟩
end
abbrev R2:=V->V->Hp->VK->Prop
def bL(X:Cx)(f:Δ->Δ->Sem Δ)(r:R2):Prop :=
 ∀(pins:List (L×Obj)) (s:Ψ) (Z:St) (H:Hp) (x y:V) (v u:Δ) (Q:VK),Inv X pins Z H s->RelV x v->RelV y u->r x y H Q ->
  wpAny (model X.prog X.w) X.A (f v u) (EP X pins Z Q) X.xe s
def cK(X:Cx)(f:Δ)(r:List V->Hp->VK->Prop):Prop :=
 ∀(pins:List (L×Obj)) (s:Ψ) (Z:St) (H:Hp) (xs:List V) (us:List Δ) (Q:VK),Inv X pins Z H s->Vals xs us->r xs H Q ->
  wpAny (model X.prog X.w) X.A (call f us) (EP X pins Z Q) X.xe s
def aeq(X:Cx)(r:V->Hp->(Bool->Hp->Prop)->Prop):Prop :=
 ∀(pins:List (L×Obj)) (s:Ψ) (Z:St) (H:Hp) (x:V) (v:Δ) (Q:Bool->Hp->Prop),Inv X pins Z H s->RelV x v->r x H Q ->
  wpAny (model X.prog X.w) X.A (truthy v) (TP X pins Z Q) X.xe s
def yf(r:R2)(ta tb:TE):TE:=λZ H Q=>ta Z H λx H1=>tb Z H1 λy H2=>r x y H2 Q
def rI(C:Int->Int->Prop)(g:Int->Int->V):R2:=λx y H Q=>∃i j,x=.int i/\y=.int j/\C i j/\Q (g i j) H
def lq(g:Int->Int->V):R2:=λx y H Q=>∃i j,x=.int i/\y=.int j/\Q (g i j) H
section
variable {X:Cx}{a b c:μ}{ta tb tc:TE}{pos:Pos}
theorem Gf(ha:PE X a ta)(hb:PE X b tb){R:V->V->Hp->Prop}(I:Inv X pins Z H s)(h:ta Z H λx H1=>tb Z H1 λy H2=>R x y H2){Q:Δ->Ψ->Prop}{f:Δ->Δ->Sem Δ}(hf:∀v u s2 x y H2,Inv X pins Z H2 s2->RelV x v->RelV y u->R x y H2->wpAny (model X.prog X.w) X.A (f v u) Q X.xe s2):
  wpAny (model X.prog X.w) X.A (eval a X.env) (λv s₁=>wpAny (model X.prog X.w) X.A (eval b X.env) (λu s₂=>wpAny (model X.prog X.w) X.A (f v u) Q X.xe s₂) X.xe s₁) X.xe s:=by
 refine bg (ha pins s Z H _ I h) λv s1 ⟨x,H1,I1,r1,q1⟩=>?_
 refine bg (hb pins s1 Z H1 _ I1 q1) λu s2 ⟨y,H2,I2,r2,q2⟩=>?_
 exact hf v u s2 x y H2 I2 r1 r2 q2
theorem Ln(ho:bL X (binaryOp op) r)(ha:PE X a ta)(hb:PE X b tb):PE X (.BinOp a op b pos) (yf r ta tb):=by
 intro pins s Z H Q I h;exact wpAny_BinOp (Gf ha hb I h λv u s2 x y H2 I2 rx ry q=>ho pins s2 Z H2 x y v u Q I2 rx ry q)
theorem yN{f:Δ->Δ->Sem Δ}{C:Int->Int->Prop}{g:Int->Int->Int}
  (rule:∀(i j:Int) (t u:Tok) (s:Ψ) (Q:Δ->Ψ->Prop) (E:Δ->Ψ->Prop),C i j->Q (.int (g i j) s.toks) {s with toks:=s.toks+1}->wpAny (model X.prog X.w) X.A (f (.int i t) (.int j u)) Q E s) :
  bL X f (rI C λi j=>.int (g i j)):=by
 intro pins s Z H x y v u Q I rx ry h;obtain⟨i,j,rfl,rfl,hc,q⟩:=h;obtain⟨t,rfl⟩:=rx;obtain⟨t',rfl⟩:=ry;exact rule i j t t' s _ _ hc ⟨.int (g i j),H,I.tok _,⟨_,rfl⟩,q⟩
theorem Dn{f:Δ->Δ->Sem Δ}{g:Int->Int->Int}
  (rule:∀(i j:Int) (t u:Tok) (s:Ψ) (Q:Δ->Ψ->Prop) (E:Δ->Ψ->Prop),Q (.int (g i j) s.toks) {s with toks:=s.toks+1}->wpAny (model X.prog X.w) X.A (f (.int i t) (.int j u)) Q E s) :
  bL X f (lq λi j=>.int (g i j)):=by
 intro pins s Z H x y v u Q I rx ry h;obtain⟨i,j,rfl,rfl,q⟩:=h;obtain⟨t,rfl⟩:=rx;obtain⟨t',rfl⟩:=ry;exact rule i j t t' s _ _ ⟨.int (g i j),H,I.tok _,⟨_,rfl⟩,q⟩
theorem yO{f:Δ->Δ->Sem Δ}{g:Int->Int->Bool}
  (rule:∀(i j:Int) (t u:Tok) (s:Ψ) (Q:Δ->Ψ->Prop) (E:Δ->Ψ->Prop),Q (.bool (g i j)) s->wpAny (model X.prog X.w) X.A (f (.int i t) (.int j u)) Q E s) :
  bL X f (lq λi j=>.bl (g i j)):=by
 intro pins s Z H x y v u Q I rx ry h;obtain⟨i,j,rfl,rfl,q⟩:=h;obtain⟨t,rfl⟩:=rx;obtain⟨t',rfl⟩:=ry;exact rule i j t t' s _ _ ⟨.bl (g i j),H,I,rfl,q⟩
def aeC(i j:Int):Prop:=0<j/\j<1073741824
def aeB(i j:Int):Prop:=0<=j/\j<=1000000/\i.natAbs<2^64
def HW(i j:Int):Prop:=(-(2^64)<i/\i<2^64)\/(-(2^64)<j/\j<2^64)
theorem HW.ok(h:HW i j):IntMulOk i j:=by
 rcases h with⟨h1,h2⟩|⟨h1,h2⟩
 ·exact .of_left (intBits_le_64 h1 h2)
 ·exact .of_right (intBits_le_64 h1 h2)
theorem ak9:bL X (binaryOp .Add) (lq λi j=>.int (i+j)):=Dn λ_ _ _ _ _ _ _ q=>add_int q
theorem aa4:bL X (binaryOp .Sub) (lq λi j=>.int (i-j)):=Dn λ_ _ _ _ _ _ _ q=>sub_int q
theorem akC:bL X (binaryOp .Mult) (rI HW λi j=>.int (i*j)):=yN λ_ _ _ _ _ _ _ hc q=>mul_int q hc.ok
theorem akX:bL X (binaryOp .FloorDiv) (rI aeC λi j=>.int (i/j)):=yN λi j _ _ _ _ _ hc q=>by
 have h1:(0:Int)<j:=hc.1;have h2:j<1073741824:=hc.2;exact floordiv_int ∅ (by rw[Int.fdiv_eq_ediv_of_nonneg i ∅];exact q) (.inl (PyProof.noPylong_small ∅))
theorem akB:bL X (binaryOp .Mod) (rI (λ_ j=>0<j) λi j=>.int (i % j)):=yN λi j _ _ _ _ _ hc q=>by
 have h1:(0:Int)<j:=hc;exact mod_int' ∅ (by rw[Int.fmod_eq_emod_of_nonneg i ∅];exact q)
theorem alz:bL X (binaryOp .Pow) (rI aeB λi j=>.int (i^j.toNat)):=yN λ_ _ _ _ _ _ _ hc q=>pow_int_small hc.1 hc.2.1 hc.2.2 q
theorem akT:bL X (binaryOp .BitAnd) (lq λi j=>.int (Builtin.bitAnd i j)):=Dn λ_ _ _ _ _ _ _ q=>and_int q
end
def CS:V->V->Bool
 |.aF,.aF=>J|.aF,.int _=>J|.int _,.aF=>J|.aF,.bl _=>J|.bl _,.aF=>J|.aF,.str _=>J|.str _,.aF=>J
 |.int _,.int _=>J|.bl _,.bl _=>J|.str _,.str _=>J|.i8 _,.i8 _=>J
 |.int _,.str _=>J|.str _,.int _=>J|.bl _,.str _=>J|.str _,.bl _=>J
 |_,_=>ξ
def akk:R2:=λx y H Q=>CS x y=J/\Q (.bl (decide (x=y))) H
def aiD:R2:=λx y H Q=>CS x y=J/\Q (.bl (!decide (x=y))) H
theorem PD:decide (V.int i=V.int j)=(i==j):=by
 rw[S5];simp
theorem PJ:decide (V.bl i=V.bl j)=(i==j):=by
 rw[S5];simp
theorem PC:decide (V.str i=V.str j)=(i==j):=by
 rw[S5];simp
theorem PF:decide (V.i8 i=V.i8 j)=(i.toList==j.toList):=by
 rw[S5];cases i;cases j;simp
section
variable {X:Cx}{a b c:μ}{ta tb tc:TE}{pos:Pos}
theorem c9(I:Inv X pins Z H s)(q:Q (.bl k) H)(e:k=k'):EP X pins Z Q (.bool k') s:=by
 subst e;exact⟨.bl k,H,I,rfl,q⟩
theorem akW:bL X (compareOp .Eq) akk:=by
 intro pins s Z H x y v u Q I rx ry h;obtain⟨hs,q⟩:=h;cases x with
 |aF =>
  cases rx;cases y with
  |aF=>cases ry;exact PySem.EqNone.eq_none_none (c9 I q (by simp))
  |bl j=>cases ry;exact PySem.EqNone.eq_none_bool (c9 I q (by simp))
  |int j=>obtain⟨t',rfl⟩:=ry;exact PySem.EqNone.eq_none_int (c9 I q (by simp))
  |str j=>obtain⟨t',rfl⟩:=ry;exact PySem.EqNone.eq_none_str (c9 I q (by simp))
  |_=>exact absurd (show ξ=J from hs) RH
 |bl i =>
  cases rx;cases y with
  |aF=>cases ry;exact PySem.EqNone.eq_bool_none (c9 I q (by simp))
  |bl j=>cases ry;exact eq_bool (c9 I q PJ)
  |str j=>obtain⟨t',rfl⟩:=ry;exact PySem.EqMixed.eq_bool_str (c9 I q (by simp))
  |_=>exact absurd (show ξ=J from hs) RH
 |int i =>
  obtain⟨t,rfl⟩:=rx;cases y with
  |aF=>cases ry;exact PySem.EqNone.eq_int_none (c9 I q (by simp))
  |int j=>obtain⟨t',rfl⟩:=ry;exact eq_int (c9 I q PD)
  |str j=>obtain⟨t',rfl⟩:=ry;exact PySem.EqMixed.eq_int_str (c9 I q (by simp))
  |_=>exact absurd (show ξ=J from hs) RH
 |str i =>
  obtain⟨t,rfl⟩:=rx;cases y with
  |aF=>cases ry;exact PySem.EqNone.eq_str_none (c9 I q (by simp))
  |bl j=>cases ry;exact PySem.EqMixed.eq_str_bool (c9 I q (by simp))
  |int j=>obtain⟨t',rfl⟩:=ry;exact PySem.EqMixed.eq_str_int (c9 I q (by simp))
  |str j=>obtain⟨t',rfl⟩:=ry;exact eq_str (c9 I q PC)
  |_=>exact absurd (show ξ=J from hs) RH
 |i8 i =>
  obtain⟨t,rfl⟩:=rx;cases y with
  |i8 j=>obtain⟨t',rfl⟩:=ry;exact PySem.W.eq_bytes (c9 I q PF)
  |_=>exact absurd (show ξ=J from hs) RH
 |_=>cases y<;>exact absurd (show ξ=J from hs) RH
theorem akE:bL X (compareOp .NotEq) aiD:=by
 intro pins s Z H x y v u Q I rx ry h;obtain⟨hs,q⟩:=h;cases x with
 |aF =>
  cases rx;cases y with
  |aF=>cases ry;exact PySem.EqNone.ne_none_none (c9 I q (by simp))
  |bl j=>cases ry;exact PySem.EqNone.ne_none_bool (c9 I q (by simp))
  |int j=>obtain⟨t',rfl⟩:=ry;exact PySem.EqNone.ne_none_int (c9 I q (by simp))
  |str j=>obtain⟨t',rfl⟩:=ry;exact PySem.EqNone.ne_none_str (c9 I q (by simp))
  |_=>exact absurd (show ξ=J from hs) RH
 |bl i =>
  cases rx;cases y with
  |aF=>cases ry;exact PySem.EqNone.ne_bool_none (c9 I q (by simp))
  |bl j=>cases ry;exact ne_bool (c9 I q (congrArg not PJ))
  |str j=>obtain⟨t',rfl⟩:=ry;exact PySem.EqMixed.ne_bool_str (c9 I q (by simp))
  |_=>exact absurd (show ξ=J from hs) RH
 |int i =>
  obtain⟨t,rfl⟩:=rx;cases y with
  |aF=>cases ry;exact PySem.EqNone.ne_int_none (c9 I q (by simp))
  |int j=>obtain⟨t',rfl⟩:=ry;exact ne_int (c9 I q (congrArg not PD))
  |str j=>obtain⟨t',rfl⟩:=ry;exact PySem.EqMixed.ne_int_str (c9 I q (by simp))
  |_=>exact absurd (show ξ=J from hs) RH
 |str i =>
  obtain⟨t,rfl⟩:=rx;cases y with
  |aF=>cases ry;exact PySem.EqNone.ne_str_none (c9 I q (by simp))
  |bl j=>cases ry;exact PySem.EqMixed.ne_str_bool (c9 I q (by simp))
  |int j=>obtain⟨t',rfl⟩:=ry;exact PySem.EqMixed.ne_str_int (c9 I q (by simp))
  |str j=>obtain⟨t',rfl⟩:=ry;exact ne_str (c9 I q (congrArg not PC))
  |_=>exact absurd (show ξ=J from hs) RH
 |i8 i =>
  obtain⟨t,rfl⟩:=rx;cases y with
  |i8 j=>obtain⟨t',rfl⟩:=ry;exact PySem.W.ne_bytes (c9 I q (congrArg not PF))
  |_=>exact absurd (show ξ=J from hs) RH
 |_=>cases y<;>exact absurd (show ξ=J from hs) RH
theorem akA:bL X (compareOp .Lt) (lq λi j=>.bl (decide (i<j))):=yO λ_ _ _ _ _ _ _ q=>lt_int q
theorem alB:bL X (compareOp .LtE) (lq λi j=>.bl (decide (i<=j))):=yO λ_ _ _ _ _ _ _ q=>le_int q
theorem akZ:bL X (compareOp .Gt) (lq λi j=>.bl (decide (j<i))):=yO λ_ _ _ _ _ _ _ q=>gt_int q
theorem akY:bL X (compareOp .GtE) (lq λi j=>.bl (decide (j<=i))):=yO λ_ _ _ _ _ _ _ q=>ge_int q
theorem alA:bL X (compareOp .Is) (λx y H Q=>y=.aF/\Q (.bl (decide (x=.aF))) H):=by
 intro pins s Z H x y v u Q I rx ry h;obtain⟨rfl,q⟩:=h;cases ry;refine is_none_gen (c9 I q ?_);cases x<;>first
  |(cases rx;rfl)
  |(obtain⟨t,rfl⟩:=rx;rfl)
theorem aly:bL X (compareOp .IsNot) (λx y H Q=>y=.aF/\Q (.bl (!decide (x=.aF))) H):=by
 intro pins s Z H x y v u Q I rx ry h;obtain⟨rfl,q⟩:=h;cases ry;refine isnot_none_gen (c9 I q ?_);cases x<;>first
  |(cases rx;rfl)
  |(obtain⟨t,rfl⟩:=rx;rfl)
theorem L8(b:μ)(h:op≠.In:=by decide)(h2:op≠.NotIn:=by decide):behindInMarks op b=ξ:=by
 have e1:(op==CmpOp.In)=ξ:=by cases op<;>first|rfl|exact absurd rfl h
 have e2:(op==CmpOp.NotIn)=ξ:=by cases op<;>first|rfl|exact absurd rfl h2
 cases b<;>simp[behindInMarks,e1,e2]
theorem alk(ho:bL X (compareOp op) r)(ha:PE X a ta)(hb:PE X b tb)(hm:behindInMarks op b=ξ):PE X (.Compare a [op] [b] pos) (yf r ta tb):=by
 intro pins s Z H Q I h;exact wpAny_Compare1 (Gf ha hb I h λv u s2 x y H2 I2 rx ry q=>ho pins s2 Z H2 x y v u Q I2 rx ry q) hm
def ahE(t:TE):TT:=λZ H Q=>t Z H λx H'=>∃k,x=.bl k/\Q k H'
theorem akH(ho:bL X (compareOp op) r)(ha:PE X a ta)(hb:PE X b tb)(hm:behindInMarks op b=ξ):PT X (.Compare a [op] [b] pos) (ahE (yf r ta tb)):=by
 intro pins s Z H Q I h;refine wpAny_isTrue_Compare1 (bg (ha pins s Z H _ I h) λv s1 ⟨x,H1,I1,r1,q1⟩=>bg (hb pins s1 Z H1 _ I1 q1) λu s2 ⟨y,H2,I2,r2,q2⟩ =>
  bg (ho pins s2 Z H2 x y v u _ I2 r1 r2 q2) λc s3 ⟨z,H3,I3,r3,k,e,q3⟩=>?_) hm
 subst e;cases r3;exact Sg ⟨H3,I3,q3⟩
def ahr(r r':R2)(ta tb tc:TE):TE:=λZ H Q=>ta Z H λx H1=>tb Z H1 λy H2=>r x y H2 λz H3=>∃k,z=.bl k /\
 (if k=J then tc Z H3 λw' H4=>r' y w' H4 Q else Q (.bl ξ) H3)
theorem alj(ho:bL X (compareOp op) r)(ho':bL X (compareOp op') r')(ha:PE X a ta)(hb:PE X b tb)(hc:PE X c tc)(hm:lastMarks [op,op'] [b,c]=ξ:=by with_unfolding_all rfl):PE X (.Compare a [op,op'] [b,c] pos) (ahr r r' ta tb tc):=by
 intro pins s Z H Q I h;refine Compare_chain (bg (ha pins s Z H _ I h) λv s1 ⟨x,H1,I1,r1,q1⟩=>chain_link (bg (hb pins s1 Z H1 _ I1 q1) λu s2 ⟨y,H2,I2,r2,q2⟩ =>
  bg (ho pins s2 Z H2 x y v u _ I2 r1 r2 q2) λd s3 ⟨z,H3,I3,r3,k,e,q3⟩=>?_)) hm
 subst e;cases r3;refine Sg ?_;cases k with
 |false=>exact ite_ff ⟨.bl ξ,H3,I3,rfl,q3⟩
 |true=>exact ite_tt (chain_last (bg (hc pins s3 Z H3 _ I3 q3) λw' s4 ⟨z',H4,I4,r4,q4⟩=>ho' pins s4 Z H4 y z' u w' Q I4 r2 r4 q4))
def HB(K:Ξ)(x:V)(H:Hp)(k:Bool):Prop :=
 match x with
 |.aF=>k=ξ
 |.bl b=>k=b
 |.int i=>k=(i != 0)
 |.str y=>y.length<=Ω/\k=((y.length:Int) != 0)
 |.i8 y=>y.size<=Ω/\k=((y.size:Int) != 0)
 |.ref p=>(∃xs,bw K H p xs/\k = !xs.isEmpty)\/(∃xs,bZ K H p xs/\k = !xs.isEmpty)\/∃kvs,H p=O (.dK kvs)/\k = !kvs.isEmpty
 |_=>False
theorem aai{κ:Type}{kvs:List (κ×V)}{vs:List (κ×Δ)}(r:KV kvs vs):(!vs.isEmpty) = !kvs.isEmpty:=by
 cases r<;>rfl
theorem NJ{xs:List V}(r:Vals xs its):(!its.toArray.isEmpty) = !xs.isEmpty:=by
 cases r<;>simp
theorem sQ:(Ω:Nat)<2^63:=by rw[SJ];decide
theorem ahT:aeq X (λx H Q=>∃k,HB X.K x H k/\Q k H):=by
 intro pins s Z H x v Q I rx h;obtain⟨k,e,q⟩:=h;have hl:=sQ;have hs:Ω=16777216:=SJ;cases x with
 |aF =>
  cases rx;have e':k=ξ:=e;subst e';exact truthy_none ⟨H,I,q⟩
 |bl b =>
  cases rx;have e':=e;subst e';exact Sg ⟨H,I,q⟩
 |int i =>
  obtain⟨t,rfl⟩:=rx;have e':k=_:=e;subst e';exact PySem.P.truthy_int ⟨H,I,q⟩
 |str y =>
  obtain⟨t,rfl⟩:=rx;obtain⟨hy,e'⟩:y.length<=Ω/\k=((y.length:Int) != 0):=e;subst e';exact PySem.P.truthy_str ∅ ⟨H,I.tok _,q⟩
 |i8 y =>
  obtain⟨t,rfl⟩:=rx;obtain⟨hy,e'⟩:y.size<=Ω/\k=((y.size:Int) != 0):=e;subst e';exact PySem.W.truthy_bytes ∅ ⟨H,I.tok _,q⟩
 |ref p =>
  cases rx;have e':(∃xs,bw X.K H p xs/\k = !xs.isEmpty)\/(∃xs,bZ X.K H p xs/\k = !xs.isEmpty)\/∃kvs,H p=O (.dK kvs)/\k = !kvs.isEmpty:=e
  rcases e' with⟨xs,hx,e'⟩|⟨xs,hx,e'⟩|⟨kvs,hx,e'⟩
  ·subst e';obtain⟨its,r,pl,hz⟩:=I.list hx;have hlen:=r.length;exact wpAny_truthy_list pl.isList (by simp only[Q3];omega) ⟨H,I.tok _,by rw[NJ r];exact q⟩
  ·subst e';obtain⟨its,r,pl,hz⟩:=I.tuple hx;have hlen:=r.length;exact truthy_tuple pl (by simp only[Q3];omega) ⟨H,I.tok _,by rw[NJ r];exact q⟩
  ·subst e';obtain⟨hz,hS,vs,r,m⟩:kvs.length<=Ω/\(p==sysModules)=ξ/\∃vs,KV kvs vs/\s.heap.DictOf (DS X.prog X.w) p vs:=I.hok p _ hx;have hlen:kvs.length=vs.length:=Paired.length r;exact wpAny_truthy_dict hS m ∅ ⟨H,I.tok _,by rw[aai r];exact q⟩
 |_=>exact(show False from e).elim
theorem akJ(ha:PE X a ta)(he:∀whole,isTrue a X.env whole=(do let v <-whole;standAt a.pos;holding [v] (truthy v))) :
  PT X a (λZ H Q=>ta Z H λx H'=>∃k,HB X.K x H' k/\Q k H'):=by
 intro pins s Z H Q I h;exact isTrue_plain (bg (ha pins s Z H _ I h) λv s1 ⟨x,H1,I1,r1,q1⟩=>ahT pins s1 Z H1 x v Q I1 r1 q1) (he _)
theorem akS:bL X (binaryOp .Add) (λx y H Q=>∃i j,x=.str i/\y=.str j/\i.length+j.length<=Ω/\Q (.str (i++j)) H):=by
 intro pins s Z H x y v u Q I rx ry h;obtain⟨i,j,rfl,rfl,hz,q⟩:=h;obtain⟨t,rfl⟩:=rx;obtain⟨t',rfl⟩:=ry;exact add_str (λt' tk=>⟨.str (i++j),H,I.tok _,⟨_,rfl⟩,q⟩) hz
theorem RO(r:Vals [x] us):∃u,us=[u]/\RelV x u:=by
 cases r with
 |cons r1 r2=>cases r2;exact⟨_,rfl,r1⟩
theorem vals2(r:Vals [x,y] us):∃u w',us=[u,w']/\RelV x u/\RelV y w':=by
 cases r with
 |cons r1 r2 =>
  cases r2 with
  |cons r3 r4=>cases r4;exact⟨_,_,rfl,r1,r3⟩
theorem adK(hc:X.calm=J):cK X (.builtin "max") (λxs H Q=>∃i j,xs=[.int i,.int j]/\Q (.int (if j>i then j else i)) H):=by
 intro pins s Z H xs us Q I r h;obtain⟨i,j,rfl,q⟩:=h;obtain⟨u,w',rfl,⟨t,rfl⟩,⟨t',rfl⟩⟩:=vals2 r;refine max_two_ints (I.ok.hd hc) λh' tk k=>⟨_,H,I.kept k,?_,q⟩
 by_cases hj:j>i
 ·rw[if_pos hj,if_pos hj];exact⟨_,rfl⟩
 ·rw[if_neg hj,if_neg hj];exact⟨_,rfl⟩
theorem adJ(hc:X.calm=J):cK X (.builtin "min") (λxs H Q=>∃i j,xs=[.int i,.int j]/\Q (.int (if j<i then j else i)) H):=by
 intro pins s Z H xs us Q I r h;obtain⟨i,j,rfl,q⟩:=h;obtain⟨u,w',rfl,⟨t,rfl⟩,⟨t',rfl⟩⟩:=vals2 r;refine min_two_ints (I.ok.hd hc) λh' tk k=>⟨_,H,I.kept k,?_,q⟩
 by_cases hj:j<i
 ·rw[if_pos hj,if_pos hj];exact⟨_,rfl⟩
 ·rw[if_neg hj,if_neg hj];exact⟨_,rfl⟩
end
structure HH (h:υ) (x dx C:L) (mA:Str->Option Δ):Prop where
 obj:h.get? x=O (PySem.W.instObj C dx)
 ns:h.Ns1 dx mA
 ne:dx≠x
theorem Zl{h:υ}{mA:Str->Option Δ}(n:h.Ns1 dx mA):∃od,h.get? dx=O od/\∀name,PySem.W.lookIn name od=O (mA name):=by
 obtain⟨o,es,ep,ho,hd,hk,_,hm⟩:=n;refine⟨o,ho,λname=>?_⟩
 have e:=hm name;unfold nsFind findBy at e;rw[<-Array.find?_toList]at e;unfold PySem.W.lookIn;rw[hd];dsimp only;split
 ·rename_i y q;rw[q]at e;exact congrArg O e
 ·rename_i q;rw[q]at e;have a:es.toList.any (·.refKey)=ξ:=by
   rw[Xh];intro y hy;obtain⟨z,t,hkey⟩:=hk y (WG.mp hy);simp[DictEntry.refKey,hkey]
  rw[if_neg (by rw[a];exact RH)]
  exact congrArg O e
theorem HH.look{mA:Str->Option Δ}(I:HH h x dx C mA):∃od,PySem.W.InstAt h x (PySem.W.instObj C dx) C (O od)/\∀name,PySem.W.lookIn name od=O (mA name) :=
 let⟨od,ho,hl⟩:=Zl I.ns
 ⟨od,⟨I.obj,rfl,rfl,ho⟩,hl⟩
section
variable {P:ν}{w:τ}{H H':Hp}{h h':υ}{a C dx:L}{fs fs':List (Str×V)}
theorem aam(hok:cT P w H h)(e:H a=O (.ins C dx fs)):∃mA,HH h a dx C mA/\(∀f,HE (fs.lookup f) (mA f))/\PySem.Within mA (fs.map (·.1))/\fs.length<=1000/\H dx=O (.own a):=by
 obtain⟨d,z,ne,ob,mA,n,r,q⟩:=(show ff P w H h a _ from hok a _ e)
 exact⟨mA,⟨ob,n,ne⟩,r,q,z,d⟩
end
structure HU (K:Ξ) (C:L):Prop where
 pg:PySem.W.plainGet K C Str.empty=J
 hd:PySem.W.hasDictIn K C=J
 po:PySem.W.plainOver K C=J
 sa:PySem.W.findIn K (.ref C) "__setattr__"=O (O (.builtin "object.__setattr__"))
theorem HU.get{K:Ξ}{C:L}(c:HU K C)(f:Str):PySem.W.plainGet K C f=J:=c.pg
section
variable {X:Cx}{pins:List (L×Obj)}{Z:St}{H:Hp}{s:Ψ}{A:χ}{E:Δ->Ψ->Prop}{Q:Δ->Ψ->Prop}{c:Δ}{b:Bool}
inductive jL (K:Ξ) (H:Hp):V->Δ->Prop where
 |aF:jL K H .aF (.type "NoneType")
 |bl (x:Bool):jL K H (.bl x) (.type "bool")
 |int (i:Int):jL K H (.int i) (.type "int")
 |str (x:Str):jL K H (.str x) (.type "str")
 |oW (x:UInt64):jL K H (.oW x) (.type "float")
 |lst {a:L}{xs:List V}(e:H a=O (.lst xs)):jL K H (.ref a) (.type "list")
 |cM {a:L}{o:Obj}{xs:List V}(e:H a=O (.cM o (.lst xs))):jL K H (.ref a) (.type "list")
 |tup {a:L}{xs:List V}(e:H a=O (.tup xs)):jL K H (.ref a) (.type "tuple")
 |dK {a:L}{kvs:List (Key×V)}(e:H a=O (.dK kvs)):jL K H (.ref a) (.type "dict")
 |dT {a:L}{kvs:List (List Key×V)}(e:H a=O (.dT kvs)):jL K H (.ref a) (.type "dict")
 |ins {a C dx:L}{fs:List (Str×V)}(e:H a=O (.ins C dx fs)) (cl:HU K C) (ha:PySem.W.findIn K (.ref C) "__class__"=O (O (.builtin "object.__class__")))
   (hn:PySem.W.specialIn K (.builtin "object.__class__") "__get__"=O (O (.builtin "getset_descriptor.__get__"))) (htk:PySem.W.takesIn K (.builtin "object.__class__")=O J)
   (hm:PySem.W.mroIn K C (.type "object")=O J):jL K H (.ref a) (.ref C)
theorem aah(I:Inv X pins Z H s)(rx:RelV x u)(ty:jL X.K H x t)(e:PySem.W.kitOne X.K t c=O b)(h:∀tk,Q (.bool b) {s with toks:=tk}):
  wpAny (model X.prog X.w) A (call (.builtin "isinstance") [u,c]) Q E s:=by
 cases ty with
 |aF=>cases(show u=Value.none from rx);exact S2 PySem.W.kitx_none I.fY True.intro e (λz=>nomatch z) h
 |bl y=>cases(show u=Value.bool y from rx);exact S2 PySem.W.kitx_bool I.fY True.intro e (λz=>nomatch z) h
 |int i=>obtain⟨t,q⟩:=(show ∃t,u=Value.int i t from rx);cases q;exact S2 PySem.W.kitx_int I.fY True.intro e (λz=>nomatch z) h
 |str y=>obtain⟨t,q⟩:=(show ∃t,u=Value.str y t from rx);cases q;exact S2 PySem.W.kitx_str I.fY True.intro e (λz=>nomatch z) h
 |oW y=>obtain⟨t,q⟩:=(show ∃t,u=Value.float y t from rx);cases q;exact S2 PySem.W.kitx_float I.fY True.intro e (λz=>nomatch z) h
 | @lst a xs ea =>
  cases(show u=Value.ref a from rx)
  obtain⟨_,_,n,_,h1⟩:=(show ff X.prog X.w H s.heap a _ from I.hok a _ ea)
  exact S2 Xg I.fY ⟨_,h1,rfl⟩ e (λz=>nomatch z) h
 | @cM a ob xs ea =>
  cases(show u=Value.ref a from rx)
  obtain⟨_,_,_,n,_,h1⟩:=(show ff X.prog X.w H s.heap a _ from I.hok a _ ea)
  exact S2 Xg I.fY ⟨_,h1,rfl⟩ e (λz=>nomatch z) h
 | @tup a xs ea =>
  cases(show u=Value.ref a from rx)
  obtain⟨_,_,_,p⟩:=(show ff X.prog X.w H s.heap a _ from I.hok a _ ea)
  obtain⟨o,h1,h2,_⟩:=p;exact S2 PySem.W.kitx_tuple I.fY ⟨o,h1,h2⟩ e (λz=>nomatch z) h
 | @dK a kvs ea =>
  cases(show u=Value.ref a from rx)
  obtain⟨_,_,vs,_,p⟩:=(show ff X.prog X.w H s.heap a _ from I.hok a _ ea)
  obtain⟨o,es,ep,h1,h2,_⟩:=p;exact S2 WE I.fY ⟨o,h1,h2.1⟩ e (λz=>nomatch z) h
 | @dT a kvs ea =>
  cases(show u=Value.ref a from rx)
  obtain⟨_,_,xs,_,o,es,ep,h1,h2,_⟩:=(show ff X.prog X.w H s.heap a _ from I.hok a _ ea)
  exact S2 WE I.fY ⟨o,h1,h2.1⟩ e (λz=>nomatch z) h
 | @ins a C dx fs ea cl ha hn htk hm =>
  cases(show u=Value.ref a from rx)
  obtain⟨mA,ζ,_⟩:=aam I.hok ea;obtain⟨od,Γ,_⟩:=ζ.look;exact S2 (PySem.W.kitx_own (cl.get _) cl.hd ha hn htk hm) I.fY Γ e (λz=>nomatch z) h
end
structure cu (k:Nat) (A:χ):Prop where
 hd:A.handled=U
 dp:A.depth+3*k+5<recursionLimit
 un:A.units+16*k+200<Q7
theorem cu.mono(r:cu k A)(h:j<=k):cu j A:=⟨r.hd,by have:=r.dp;omega,by have:=r.un;omega⟩
theorem cu.deeper(r:cu (k+1) A)(env:Env):cu k (A.deeper env) :=
 ⟨r.hd,by have:=r.dp;show A.depth+1+3*k+5<_;omega,by have:=r.un;show A.units+3+16*k+200<_;omega⟩
theorem cu.in1(r:cu (k+1) A):cu k A.in1 :=
 ⟨r.hd,by have:=r.dp;show A.depth+3*k+5<_;omega,by have:=r.un;show A.units+1+16*k+200<_;omega⟩
theorem cu.depth(r:cu k A):A.depth<recursionLimit:=by have:=r.dp;omega
theorem cu.units(r:cu k A):A.units+64<Q7:=by have:=r.un;omega
def yg:TA:=λ_ H Q=>Q [] H
def yi(ta:TE)(tr:TA):TA:=λZ H Q=>ta Z H λx H1=>tr Z H1 λxs H2=>Q (x::xs) H2
section
variable {X:Cx}{e:μ}{es:List μ}{te:TE}{t:TA}{pos:Pos}
theorem jv:PA X [] yg:=λ_ _ _ _ H Q I h=>Calls.spliced_nil ⟨[],H,I,.nil,h⟩
theorem iS(ha:PE X e te)(hr:PA X es t)(hs:ε (e::es) X.env=(ξ,eval e X.env)::ε es X.env:=by rfl):PA X (e::es) (yi te t):=by
 intro pos pins s Z H Q I h;rw[hs];show wpAny _ _ (spliced ((ξ,eval e X.env)::Q6 pos (ε es X.env))) _ _ s;refine Calls.spliced_cons (bg (ha pins s Z H _ I h) λu s1 ⟨x,H1,I1,r1,q1⟩=>?_)
 exact bg (hr pos pins s1 Z H1 _ I1 q1) λus s2 ⟨xs,H2,I2,r2,q2⟩=>⟨x::xs,H2,I2,.cons r1 r2,q2⟩
def ahF(t:TA):TE:=λZ H Q=>t Z H λxs H1=>xs.length<=Ω/\∀p,H1 p=U->Q (.ref p) (upd H1 p (.tup xs))
def aaL(t:TA):TE:=λZ H Q=>t Z H λxs H1=>xs.length<=Ω/\∀p,H1 p=U->Q (.ref p) (upd H1 p (.lst xs))
theorem ajH{x1}(h:PA X es t):PE X (.Tuple es x1 pos) (ahF t):=by
 intro pins s Z H Q I hq;refine wpAny_Tuple_spliced (bg (h pos pins s Z H _ I hq) λus s1 ⟨xs,H1,I1,r,z,q⟩=>⟨by rw[<-r.length];exact z,?_⟩)
 have hf:H1 s1.heap.objs.size=U:=I1.hok.fresh (x6 _);refine⟨.ref s1.heap.objs.size,upd H1 s1.heap.objs.size (.tup xs),I1.laid (t':=s1.toks) (λb u e=>J' _ e) (x6 _) ?_,rfl,q _ hf⟩
 exact⟨z,us,r,⟨_,Q4 _ rfl,rfl,⟨_,rfl⟩,rfl⟩⟩
theorem Lo(h:PA X es t):PE X (.List es pos) (aaL t):=by
 intro pins s Z H Q I hq;refine wpAny_List_spliced (bg (h pos pins s Z H _ I hq) λus s1 ⟨xs,H1,I1,r,z,q⟩=>⟨by rw[<-r.length];exact z,?_⟩)
 have hf:H1 s1.heap.objs.size=U:=I1.hok.fresh (x6 _);refine⟨.ref s1.heap.objs.size,upd H1 s1.heap.objs.size (.lst xs),I1.laid (t':=s1.toks) (λb u e=>J' _ e) (x6 _) ?_,rfl,q _ hf⟩
 exact⟨z,us,0,r,Q4 _ rfl⟩
end
abbrev Sp:=List V->Hp->VK->XK->Prop
abbrev pK:=List Env->Hp->Ψ->XK->Δ->Ψ->Prop
structure qR (P:ν) (w:τ) (K:Ξ) (mg:Str->Option Δ) (base:υ) (A:χ) (outer:List Env) (s:Ψ) (H:Hp):Prop where
 frames:A.frames=O outer
 mod:Mod K mg base
 bs:∀b o,base.get? b=O o->s.heap.get? b=O o/\H b=U
 i9:base.objs.size<=s.heap.objs.size
 iG:s.heap.FunFrames base outer
 lU:∀b∈frs outer,H b=U
 hok:cT P w H s.heap
 bare:Sj s.gens
def CE(outer:List Env)(P:ν)(w:τ)(H:Hp)(s:Ψ)(Q:VK)(u:Δ)(s':Ψ):Prop :=
 ∃v H',s'.os=s.os/\Sj s'.gens/\Un (frs outer) [] H H' s.heap s'.heap/\cT P w H' s'.heap/\RelV v u/\Q v H'
def CR(CX:pK)(outer:List Env)(P:ν)(w:τ)(H:Hp)(s:Ψ)(Q:VK)(E:XK)(r:Result)(s':Ψ):Prop :=
 match r with
 |.ok (.ret u)=>CE outer P w H s Q u s'
 |.ok _=>False
 |.error e=>CX outer H s E e s'
structure eO (P:ν) (w:τ) (K:Ξ) (mg:Str->Option Δ) (base:υ) (CX:pK) (k:Nat) (f:L) (fd:RK) (ps:List Str) (sp:Sp):Prop where
 len:∀vs H Q E,sp vs H Q E->vs.length=ps.length
 run:∀(A:χ) (outer:List Env) (s:Ψ) (H:Hp) (args:Args) (us:List Δ) (vs:List V) (Q:VK) (E:XK),cu k A->qR P w K mg base A outer s H->Tc s fd args (ps.zip us)->Vals vs us->sp vs H Q E ->
  codeAny (model P w) A (.call (.ref f) args) (CR CX outer P w H s Q E) s
section
variable {X:Cx}{pins:List (L×Obj)}{Z:St}{H:Hp}{s s':Ψ}
theorem Inv.FG(I:Inv X pins Z H s):qR X.prog X.w X.K X.mg X.base X.A X.stack s H :=
 ⟨I.ok.frames,I.ok.mod,I.bs,R9 I.ok.i9 I.sz,I.stack,I.ym,I.hok,I.bare⟩
theorem Inv.after(I:Inv X pins Z H s)(h:CE X.stack X.prog X.w H s Q u s'):EP X pins Z Q u s':=by
 obtain⟨v,H',os,bare,un,hok,r,q⟩:=h;obtain⟨hh,g,d,t,os'⟩:=s';obtain rfl:os'=s.os:=os;exact⟨v,H',I.call (h':=hh) (g':=g) (d':=d) (t':=t) (ch:=[]) un hok bare (λb z=>absurd z (by simp)),r,q⟩
end
def Ji(sp:Sp)(oY:List V)(E:XK)(t:TA):TE:=λZ H Q=>t Z H λvs H1=>sp (vs++oY) H1 Q E
def Binds(K:Ξ)(fd:RK)(ps:List Str)(ds:List Δ):Prop :=
 ∀(s:Ψ) (us:List Δ),K.In s.heap->(us++ds).length=ps.length->Tc s fd ⟨us,[]⟩ (ps.zip (us++ds))
theorem Binds.all{K:Ξ}{fd:RK}{ps:List Str}(h:∀us:List Δ,us.length=ps.length->bindArgs fd ⟨us,[]⟩=pure (ps.zip us)):Binds K fd ps []:=λs us _ hl=>by
 rw[SI]at hl ⊢;exact .of_eq (h us hl)
def Passes(CX:pK)(X:Cx)(E:XK):Prop:=∀(pins:List (L×Obj)) (Z:St) (H:Hp) (s:Ψ) (e:Δ) (s':Ψ),Inv X pins Z H s->CX X.stack H s E e s'->X.xe e s'
section
variable {X:Cx}{CX:pK}{k:Nat}{f C:L}{fd:RK}{ps:List Str}{sp:Sp}{oY:List V}{ds:List Δ}{E:XK}{x m:Str}{p pos apos:Pos}{e o:μ}{es:List μ}{ta:TE}{t:TA}
theorem ajj(F:eO X.prog X.w X.K X.mg X.base CX k f fd ps sp)(hr:cu k X.A)(hb:Binds X.K fd ps ds)(hd:Vals oY ds)(hx:Passes CX X E)(I:Inv X pins Z H s)(r:Vals vs us)(h:sp (vs++oY) H Q E):wpAny (model X.prog X.w) X.A (call (.ref f) us) (EP X pins Z Q) X.xe s:=by
 have r2:Vals (vs++oY) (us++ds):=r.append hd;have hl:(us++ds).length=ps.length:=by rw[<-r2.length];exact F.len _ _ _ _ h
 refine TX (S1 (F.run X.A X.stack s H ⟨us,[]⟩ (us++ds) (vs++oY) Q E hr I.FG (hb s us I.fY hl) r2 h) λr s' hq=>?_)
 cases r with
 |error e=>exact hx pins Z H s e s' I hq
 |ok fl =>
  cases fl with
  |ret u=>exact I.after hq
  |next=>exact False.elim hq
  |brk=>exact False.elim hq
  |cont=>exact False.elim hq
theorem alh(F:eO X.prog X.w X.K X.mg X.base CX k f fd ps sp)(hr:cu k X.A)(hg:Gl X x)(hm:X.mg x=O (.ref f))(hk:PySem.W.keepIn X.K (.ref f)=J)(hb:Binds X.K fd ps ds)(hd:Vals oY ds)(hx:Passes CX X E)
  (ha:PA X (e::es) t) (hdb:(x==("__debug__":Str))=ξ:=by decide) (he:ε (e::es) X.env=(ξ,eval e X.env)::ε es X.env:=by rfl) (hpl:(Q6 pos (ε es X.env)).any (·.1)=ξ:=by rfl) :
  PE X (.Call (.Name x p) (e::es) [] pos) (Ji sp oY E t):=by
 intro pins s Z H Q I h;refine Tg (Ea I hg hm ?_ hdb);refine Xf (h₀:=X.base) I.ok.mod.mX hk (bg (ha pos pins s Z H _ I h) λus s1 ⟨vs,H1,I1,r,q⟩=>⟨I1.fY,?_⟩) he hpl
 exact ajj F hr hb hd hx I1 r q
end
structure jQ (N P:List Str) (sc:R5):Prop where
 kind:sc.kind=.function
 co:sc.isCoroutine=ξ
 gen:sc.isGenerator=ξ
 nd:N.Nodup
 pre:N.take P.length=P
 par:∀x∈P,sc.names.lookup x=O .local\/sc.names.lookup x=O .cell
 Yh:∀y∈sc.names,y.2≠.free
theorem Qs{kindOf:Str->Option RJ}:∀{binds:List (Str×Δ)}{m:Str->Option Δ},(∀v,(x,v)∉binds)->bindL kindOf binds m x=m x
 |[],_,_=>rfl
 |(n,v)::r,m,h=>by
  unfold bindL;rw[Qs λw hw=>h w (Rb _ hw)]
  split
  ·have:x≠n:=by rintro rfl;exact h v Rf
   simp[this]
  ·rfl
theorem Qu{kindOf:Str->Option RJ}:∀{binds:List (Str×Δ)}{m:Str->Option Δ},(∀v,(x,v)∉binds)->bindC kindOf binds m x=m x
 |[],_,_=>rfl
 |(n,v)::r,m,h=>by
  unfold bindC;rw[Qu λw hw=>h w (Rb _ hw)]
  split
  ·rfl
  ·have:x≠n:=by rintro rfl;exact h v Rf
   simp[this]
theorem Qt{kindOf:Str->Option RJ}:∀{P:List Str}{vs:List Δ}{i:Nat}{m:Str->Option Δ},P.Nodup->P[i]? = O x->vs[i]? = O v->kindOf x=O .local ->
  bindL kindOf (P.zip vs) m x=O v
 |[],_,_,_,_,h,_,_=>by simp at h
 |_::_,[],_,_,_,_,h,_=>by simp at h
 |p::P,w::vs,0,m,nd,h1,h2,hk=>by
  simp at h1 h2;subst h1;subst h2;show bindL kindOf ((p,w)::P.zip vs) m p=_;unfold bindL;rw[Qs λv hv=>(S0.mp nd).1 (UG hv).1,if_pos hk]
  simp
 |p::P,w::vs,i+1,m,nd,h1,h2,hk=>by
  show bindL kindOf ((p,w)::P.zip vs) m x=_;unfold bindL;exact Qt (i:=i) (S0.mp nd).2 (by simpa using h1) (by simpa using h2) hk
theorem Qw{kindOf:Str->Option RJ}:∀{P:List Str}{vs:List Δ}{i:Nat}{m:Str->Option Δ},P.Nodup->P[i]? = O x->vs[i]? = O v->kindOf x≠O .local ->
  bindC kindOf (P.zip vs) m x=O v
 |[],_,_,_,_,h,_,_=>by simp at h
 |_::_,[],_,_,_,_,h,_=>by simp at h
 |p::P,w::vs,0,m,nd,h1,h2,hk=>by
  simp at h1 h2;subst h1;subst h2;show bindC kindOf ((p,w)::P.zip vs) m p=_;unfold bindC;rw[Qu λv hv=>(S0.mp nd).1 (UG hv).1,if_neg hk]
  simp
 |p::P,w::vs,i+1,m,nd,h1,h2,hk=>by
  show bindC kindOf ((p,w)::P.zip vs) m x=_;unfold bindC;exact Qw (i:=i) (S0.mp nd).2 (by simpa using h1) (by simpa using h2) hk
def start(N:List Str)(vs:List V):St:=vs.map O++ο (N.length-vs.length) U
def lY(CX:pK)(P:ν)(w:τ)(K:Ξ)(mg:Str->Option Δ)(base:υ)(N:List Str)(qual:Str)(scope:R5)(f:L)(cd:Δ)(A:χ)(outer:List Env)(s:Ψ)(H:Hp)(E:XK):Cx where
 prog:=P
 w:=w
 K:=K
 mg:=mg
 base:=base
 A:=A.deeper (envOfC qual scope s.heap.objs.size f cd)
 N:=N
 s₀:=s
 H₀:=H
 env:=envOfC qual scope s.heap.objs.size f cd
 outer:=outer
 stack:=envOfC qual scope s.heap.objs.size f cd::outer
 ex:=[]
 calm:=J
 fn:=λ_=>J
 pn:=[]
 xe:=λe s'=>wpAny (model P w) (A.deeper (envOfC qual scope s.heap.objs.size f cd)) (leaving (envOfC qual scope s.heap.objs.size f cd) e) (λ_ s''=>CX outer H s E e s'') (λe' s''=>CX outer H s E e' s'') s'
theorem Qi{sc:R5}(h:sc.names.lookup x=O .cell):∃c,(cellsFrom n sc.names []).lookup x=O c:=by
 have q:=Us sc.names n [] (.inl h);exact Ur.mp q
theorem aaj{CX:pK}{w:τ}{K:Ξ}{mg:Str->Option Δ}{base:υ}{qual:Str}{scope:R5}{f:L}{A:χ}{s s1:Ψ}{H:Hp}{E:XK}{vs:List V}(S:jQ N ps scope)(hd:A.handled=U)(e0:qR P w K mg base A outer s H)(hl:vs.length=ps.length)(r:Vals vs us)(x:InCallC s s.heap.objs.size (bindL (envOfC qual scope s.heap.objs.size f cd).kindOf (ps.zip us) λ_=>U) (cellsFrom (s.heap.objs.size+1) scope.names []) (bindC (envOfC qual scope s.heap.objs.size f cd).kindOf (ps.zip us) λ_=>U) s1):
  Inv (lY CX P w K mg base N qual scope f cd A outer s H E) [] (start N vs) H s1:=by
 have hpl:ps.length<=N.length:=by have:=congrArg List.length S.pre;rw[Tf]at this;omega
 obtain⟨h1,tk,rfl,hk⟩:=x.done;have mU:∀b:L,b∉(lY CX P w K mg base N qual scope f cd A outer s H E).ex:=λb z=>absurd (show b∈([]:List L)from z) (by simp)
 refine⟨⟨e0.mod,S.kind,rfl,rfl,x6 _,λy z c h1 h2=>?_,λy hy=>?_,λy c _ h=>?_,λ_=>hd,Around.frames_deeper e0.frames,.inr ⟨rfl,rfl⟩,λb z=>absurd z (mU b),e0.bs,e0.i9,λb _ _=>mU b,λb z=>absurd z (mU b),e0.iG,e0.lU⟩,
  rfl,e0.bare,Un.kept hk,⟨_,x.toInCall.ns,λi y v h1 h2 h3=>?_⟩,λy c h=>⟨_,x.cell y c h⟩,e0.hok.fresh (x6 _),λy c h=>?_,λp hp=>absurd (show p∈([]:List (L×Obj))from hp) (by simp),e0.hok.kept hk,?_⟩
 ·exact name_of_addr x.apart (SH h1) (SH h2)
 ·have hy:scope.names.lookup y=O .cell\/scope.names.lookup y=O .free:=hy
  rcases hy with hy|hy
  ·exact Qi hy
  ·exact absurd rfl (S.Yh _ (SH hy))
 ·exact Sv (x.above y c (SH h))
 ·have hi:i<vs.length:=by
   unfold start at h2
   by_cases hi:i<vs.length
   ·exact hi
   ·rw[SG (by simpa using hi)]at h2
    rw[Xe]at h2;split at h2<;>cases h2
  have ha:vs[i]? = O v:=by
   unfold start at h2;rw[RY (by simpa using hi),RB]at h2
   cases e:vs[i]? with
   |none=>rw[e]at h2;cases h2
   |some a=>rw[e]at h2;cases h2;rfl
  obtain⟨u,hu,rv⟩:=r.get ha;have hp:ps[i]? = O y:=by
   rw[<-S.pre,Xd ∅];exact h1
  have Mr:ps.Nodup:=by rw[<-S.pre];exact S.nd.sublist (Uq _ _)
  refine⟨u,rv,?_⟩
  rcases S.par y (R7 hp)with k|k
  ·exact .inl ⟨k,Qt Mr hp hu k⟩
  ·obtain⟨c,e⟩:=Qi (n:=s.heap.objs.size+1) k;refine .inr ⟨.inl k,c,e,?_⟩;have q:=x.cell y c e;rw[Qw Mr hp hu (by show scope.names.lookup y≠_;rw[k];decide)]at q
   exact q
 ·exact e0.hok.fresh (Sv (x.above y c (SH h)))
 ·unfold start;show _=N.length;rw[Rq,P0,List.length_replicate];omega
theorem O7{K:Ξ}{mg:Str->Option Δ}{base:υ}{name qual:Str}{params:Sx}{body:List dg}{scope:R5}{kV doc:Δ}(lk:K.lookup f=O ⟨oc,od,.func (PySem.W.fnOf name qual params body scope dV kV doc pm an cdv ct),osl⟩)(hcd:PySem.W.codeIn K cdv qual=J)(S:jQ N ps scope)(len:∀vs H Q E,sp vs H Q E->vs.length=ps.length)(hbody:∀(A:χ) (outer:List Env) (s:Ψ) (H:Hp) (vs:List V) (Q:VK) (E:XK),cu k (A.deeper (envOfC qual scope s.heap.objs.size f cdv))->sp vs H Q E ->
   ∃t,gV (lY CX P w K mg base N qual scope f cdv A outer s H E) body t/\t {nx:=λ_ H'=>Q .aF H',rt:=Q} (start N vs) H):
  eO P w K mg base CX (k+1) f (PySem.W.fnOf name qual params body scope dV kV doc pm an cdv ct) ps sp:=by
 refine⟨len,λA outer s H args us vs Q E hr e0 hb r oN=>?_⟩
 have hl:=len _ _ _ _ oN;have KX:=e0.mod.mX.keeps λb o e=>(e0.bs b o e).1
 have hkind:∀y∈ps.zip us,scope.names.lookup y.1=O .local\/(scope.names.lookup y.1=O .cell/\((cellsFrom (s.heap.objs.size+1) scope.names []).lookup y.1).isSome=J):=fun⟨n,v⟩ hy=>by
  rcases S.par n (UG hy).1 with q|q
  ·exact .inl q
  ·exact .inr ⟨q,Us _ _ _ (.inl q)⟩
 refine codeAny_call_function hr.depth (KX _ _ lk) rfl S.co S.gen rfl (PySem.W.codeRec_of KX hcd) (hb _ _ _ _ ?_);refine wpAny_newFunctionEnv_cells S.kind hkind λenv he s1 x=>?_
 subst he;refine⟨(e0.mod.nolimit.keeps λb o e=>(e0.bs b o e).1).keeps x.toInCall.keep,codeAny_func ?_⟩
 obtain⟨t,ht,hq⟩:=hbody A outer s H vs Q E (hr.deeper _) oN;refine RQ (ht [] s1 (start N vs) H _ (aaj S hr.hd e0 hl r x) hq) (λfl s' hs=>?_) λe s' hs=>hs
 have fin:∀{σ':St}{H':Hp}{v:V}{u:Δ},Inv (lY CX P w K mg base N qual scope f cdv A outer s H E) [] σ' H' s'->RelV v u->Q v H'->CE outer P w H s Q u s' :=
  fun{σ' H' v u} Γ rv q=>⟨v,H',Γ.os,Γ.bare,Γ.base,Γ.hok,rv,q⟩
 cases fl with
 |ret u =>
  obtain⟨v,σ',H',Γ,rv,q⟩:=hs;exact fin Γ rv q
 |next =>
  obtain⟨σ',H',Γ,q⟩:=hs;exact fin (v:=V.aF) Γ rfl q
 |brk =>
  obtain⟨_,_,_,q⟩:=hs;exact False.elim q
 |cont =>
  obtain⟨_,_,_,q⟩:=hs;exact False.elim q
section
variable {X:Cx}{x:Str}{p pos:Pos}{e:μ}{es:List μ}{t:TA}{id T:String}{r:List V->Hp->VK->Prop}
def yj(r:List V->Hp->VK->Prop)(t:TA):TE:=λZ H Q=>t Z H λvs H1=>r vs H1 Q
theorem uW(hc:cK X (.builtin id) r)(hg:Gl X x)(hm:X.mg x=U)(hv:bootBuiltins x=O (.builtin id))(ha:PA X (e::es) t)(hn:x≠"__name__":=by decide)(hdb:(x==("__debug__":Str))=ξ:=by decide)
  (he:ε (e::es) X.env=(ξ,eval e X.env)::ε es X.env:=by rfl) (hpl:(Q6 pos (ε es X.env)).any (·.1)=ξ:=by rfl):PE X (.Call (.Name x p) (e::es) [] pos) (yj r t):=by
 intro pins s Z H Q I h;exact Tg (oi I hg hm hv (PyProof.Rows.callWith_builtin1 (bg (ha pos pins s Z H _ I h) λus s1 ⟨vs,H1,I1,r1,q1⟩=>hc pins s1 Z H1 vs us Q I1 r1 q1) he hpl) hn hdb)
theorem nT(hc:cK X (.type T) r)(hg:Gl X x)(hm:X.mg x=U)(hv:bootBuiltins x=O (.type T))(ha:PA X (e::es) t)(hn:x≠"__name__":=by decide)(hdb:(x==("__debug__":Str))=ξ:=by decide)
  (he:ε (e::es) X.env=(ξ,eval e X.env)::ε es X.env:=by rfl) (hpl:(Q6 pos (ε es X.env)).any (·.1)=ξ:=by rfl):PE X (.Call (.Name x p) (e::es) [] pos) (yj r t):=by
 intro pins s Z H Q I h;refine Tg (oi I hg hm hv ?_ hn hdb);exact UI (bg (ha pos pins s Z H _ I h) λus s1 ⟨vs,H1,I1,r1,q1⟩=>hc pins s1 Z H1 vs us Q I1 r1 q1) he hpl
end
end L2
namespace HT
open PySem PyProof.Rows
section
variable {prog:ν}{w:τ}{A:χ}{E:Δ->Ψ->Prop}{s:Ψ}
theorem adF{vs ws:List Δ}{Q:Δ->Ψ->Prop}(ht:IsTup s.heap t vs.toArray)(hb:IsTup s.heap b ws.toArray)(hv:vs≠[])(h1:ws=[]->Q (.ref t) s)(h2:ws≠[]->Q (.ref s.heap.objs.size) {s with heap:=s.heap.push {cls:=.type "tuple",data:=.seq (vs++ws).toArray} })(hsz:vs.length+ws.length<=Ω):wpAny (model prog w) A (binaryOp .Add (.ref t) (.ref b)) Q E s:=by
 obtain⟨⟨cls,dd,data,sl⟩,ho,hc,n,hd⟩:=id ht;obtain⟨⟨adw,dd2,data2,sl2⟩,ho2,hc2,n2,hd2⟩:=id hb;simp only at hc hd hc2 hd2;subst hc hd hc2 hd2;have e:vs.toArray++ws.toArray=(vs++ws).toArray:=by simp
 by_cases hw:ws=[]
 ·exact WD ⟨_,ho,rfl⟩ ⟨_,ho2,rfl⟩ WC WB WA WT (WS _ _)
   (tuple_addW1 t b vs.toArray ws.toArray n n2 dd dd2 sl sl2 (by simpa using hv) (by simp[hw])) ⟨ho,ho2,h1 hw⟩
 ·refine WD ⟨_,ho,rfl⟩ ⟨_,ho2,rfl⟩ WC WB WA WT (WS _ _)
   (tuple_addW2 t b vs.toArray ws.toArray n n2 dd dd2 sl sl2 (by simpa using hv) (by simpa using hw) (by rw[Q3,Q3];exact hsz)) ⟨ho,ho2,?_⟩
  rw[e];exact h2 hw
def iz(n d:Nat):Option Int->Nat
 |none=>d
 |some v=>if v<0 then(v+(n:Int)).toNat else min v.toNat n
theorem KI(n d k:Nat):iz n d (O (k:Int))=min k n:=by
 show(if(k:Int)<0 then((k:Int)+(n:Int)).toNat else min (k:Int).toNat n)=min k n
 rw[if_neg ∅,Ss]
theorem ajp(n d:Nat):iz n d none=d:=rfl
end
end HT
namespace L2
open PySem PySem.Spec PyProof.Rows
abbrev TO:=St->Hp->(Option Int->Hp->Prop)->Prop
def PO(X:Cx)(e:Option μ)(t:TO):Prop :=
 ∀(pins:List (L×Obj)) (s:Ψ) (Z:St) (H:Hp) (Q:Option Int->Hp->Prop),Inv X pins Z H s->t Z H Q ->
  wpAny (model X.prog X.w) X.A (evalPart e X.env) (λu s'=>∃o H',Inv X pins Z H' s'/\IsPart u o/\Q o H') X.xe s
def ahM:TO:=λ_ H Q=>Q U H
def ahQ(t:TE):TO:=λZ H Q=>t Z H λx H1=>∃i,x=.int i/\Q (O i) H1
theorem intsAre_of{ns:List Int}:∀{us:List Δ},Vals (ns.map V.int) us->S4 us ns:=by
 induction ns with
 |nil=>intro us r;rw[List.map_nil]at r;cases r;exact .nil
 |cons n ns ih =>
  intro us r;rw[Q8]at r;cases r with
  |cons r1 r2 =>
   obtain⟨t,e⟩:=r1;subst e;exact .cons n t (ih r2)
section
variable {X:Cx}{e:μ}{te:TE}{lo hi:Option μ}{tl th:TO}{pos p2:Pos}
theorem akv:PO X U ahM:=by
 intro pins s Z H Q I h;rw[evalPart_none];exact ZA ⟨U,H,I,.none,h⟩
theorem akw(h:PE X e te):PO X (O e) (ahQ te):=by
 intro pins s Z H Q I hw;rw[evalPart_some];refine bg (h pins s Z H _ I hw) λu s1 ⟨x,H1,I1,r1,q1⟩=>?_
 obtain⟨i,rfl,q⟩:=q1;obtain⟨t,rfl⟩:=r1;exact⟨O i,H1,I1,.int i t,q⟩
def QS(X:Cx)(r:V->Option Int->Option Int->Hp->VK->Prop):Prop :=
 ∀(pins:List (L×Obj)) (s:Ψ) (Z:St) (H:Hp) (x:V) (v vl vu:Δ) (lo hi:Option Int) (sl:L) (Q:VK),Inv X pins Z H s->RelV x v->s.heap.IsSliceOf sl vl vu .none->IsPart vl lo->IsPart vu hi->r x lo hi H Q ->
  ∃T id,typeLookup (.type T) "__getitem__"=pure (O (.builtin id))/\s.TypeIs v T/\wpAny (model X.prog X.w) X.A (getItem v (.ref sl)) (EP X pins Z Q) X.xe s
def ahC(r:V->Option Int->Option Int->Hp->VK->Prop)(te:TE)(tl th:TO):TE:=λZ H Q=>te Z H λx H1=>tl Z H1 λl H2=>th Z H2 λu H3=>r x l u H3 Q
theorem alx{r:V->Option Int->Option Int->Hp->VK->Prop}(hr:QS X r)(he:PE X e te)(hl:PO X lo tl)(hu:PO X hi th):PE X (.Subscript e (.Slice lo hi U p2) pos) (ahC r te tl th):=by
 intro pins s Z H Q I h;refine Subscript_ (bg (he pins s Z H _ I h) λv s1 ⟨x,H1,I1,r1,q1⟩=>?_)
 refine wpAny_Slice (bg (hl pins s1 Z H1 _ I1 q1) λvl s2 ⟨l,H2,I2,pl,q2⟩=>bg (hu pins s2 Z H2 _ I2 q2) λvu s3 ⟨u,H3,I3,pu,q3⟩=>?_)
 rw[evalPart_none];refine ZA ?_;have I4:Inv X pins Z H3 {s3 with heap:=s3.heap.push {cls:=.type "slice",data:=.fields #[vl,vu,.none]} }:=I3.kept (t':=s3.toks) λb ob q=>J' _ q
 obtain⟨T,id,hT,ht,hg⟩:=hr pins {s3 with heap:=s3.heap.push {cls:=.type "slice",data:=.fields #[vl,vu,.none]} } Z H3 x v vl vu l u s3.heap.objs.size Q I4 r1 (Heap.IsSliceOf.new ..) pl pu q3
 show wpAny (model X.prog X.w) X.A (subscriptTail e (.Slice lo hi U p2) v (.ref s3.heap.objs.size)) (EP X pins Z Q) X.xe {s3 with heap:=s3.heap.push {cls:=.type "slice",data:=.fields #[vl,vu,.none]} }
 exact tail_any (ops:=[.ref s3.heap.objs.size,v]) ht hT hg (by with_unfolding_all rfl)
def wQ(xs:List V)(lo hi:Option Int):List V:=(xs.drop (HT.iz xs.length 0 lo)).take (HT.iz xs.length xs.length hi-HT.iz xs.length 0 lo)
theorem acZ(xs:List V)(lo hi:Option Int):(wQ xs lo hi).length<=xs.length:=by
 unfold wQ;rw[Tf,List.length_drop];omega
def akj(K:Ξ):R2:=λx y H Q=>∃a b xs ys,x=.ref a/\y=.ref b/\bZ K H a xs/\bZ K H b ys/\xs≠[]/\xs.length+ys.length<=Ω /\
 (ys=[]->Q (.ref a) H)/\(ys≠[]->∀p,H p=U->Q (.ref p) (upd H p (.tup (xs++ys))))
theorem Vals.DE{xs:List V}(r:Vals xs us):us=[]↔xs=[]:=by
 cases r with
 |nil=>simp
 |cons _ _=>simp
theorem LH:bL X (binaryOp .Add) (akj X.K):=by
 intro pins s Z H x y v u Q I rx ry h;obtain⟨a,b,xs,ys,rfl,rfl,ha,hb,hx,hz,q1,q2⟩:=h;cases rx;cases ry;obtain⟨its,r1,p1,_⟩:=I.tuple ha;obtain⟨its2,r2,p2,_⟩:=I.tuple hb;refine HT.adF p1 p2 (λz=>hx (r1.DE.mp z)) (λz=>⟨.ref a,H,I,rfl,q1 (r2.DE.mp z)⟩) (λz=>?_) (by rw[<-r1.length,<-r2.length];exact hz)
 refine⟨.ref s.heap.objs.size,_,I.laid (t':=s.toks) (o:=.tup (xs++ys)) (λb ob q=>J' _ q) (x6 _) ?_,rfl,q2 (λw=>z (r2.DE.mpr w)) _ (I.hok.fresh (x6 _))⟩
 exact⟨by rw[Rq];exact hz,_,r1.append r2,ny.new _ _⟩
end
def iF(n:Nat)(i:Int):Option Nat:=if 0<=i then(if i<n then O i.toNat else U)else if -(n:Int)<=i then O (i+n).toNat else U
def d8{α:Type}(xs:List α)(i:Int):Option α:=(iF xs.length i).bind λj=>xs[j]?
theorem NC(h:iF n i=O j):seqIndex? i n=O j/\j<n/\-(n:Int)<=i/\i<n:=by
 unfold iF at h
 by_cases h0:0<=i
 ·rw[if_pos h0]at h
  by_cases h1:i<n
  ·rw[if_pos h1]at h;have e:i.toNat=j:=R4 h;exact⟨by rw[seqIndex_of h0 h1,e],∅,∅,h1⟩
  ·rw[if_neg h1]at h;cases h
 ·rw[if_neg h0]at h
  by_cases h1:-(n:Int)<=i
  ·rw[if_pos h1]at h;have e:(i+n).toNat=j:=R4 h;exact⟨by rw[seqIndex_neg ∅ h1,e],∅,h1,∅⟩
  ·rw[if_neg h1]at h;cases h
theorem QE{α:Type}{xs:List α}{i:Int}{v:α}(h:d8 xs i=O v):∃j,seqIndex? i xs.length=O j/\xs[j]? = O v/\j<xs.length/\-(xs.length:Int)<=i/\i<xs.length:=by
 unfold d8 at h;cases e:iF xs.length i with
 |none=>rw[e]at h;cases h
 |some j =>
  rw[e]at h;obtain⟨h1,h2,h3,h4⟩:=NC e;exact⟨j,h1,h,h2,h3,h4⟩
theorem ku{α:Type}{xs:List α}{j:Nat}{v:α}(h:xs[j]? = O v):d8 xs (j:Int)=O v:=by
 have hj:j<xs.length:=(Q9.mp h).1;have e:iF xs.length (j:Int)=O j:=by
  unfold iF;rw[if_pos ∅,if_pos ∅];simp
 unfold d8;rw[e];exact h
def QT(b:μ):Prop:=∀o i,subscripted b ξ o i=operate [o,i] (getItem o i)
def t8(X:Cx)(r:R2):Prop :=
 ∀(value slice:μ) (pins:List (L×Obj)) (s:Ψ) (Z:St) (H:Hp) (x y:V) (v u:Δ) (Q:VK),Inv X pins Z H s->RelV x v->RelV y u->r x y H Q ->
  subscripted slice ξ v u=operate [v,u] (getItem v u)->wpAny (model X.prog X.w) X.A (subscriptTail value slice v u) (EP X pins Z Q) X.xe s
def MtR(X:Cx)(id:String)(r:V->List V->Hp->VK->Prop):Prop :=
 ∀(pins:List (L×Obj)) (s:Ψ) (Z:St) (H:Hp) (x:V) (xs:List V) (v:Δ) (us:List Δ) (Q:VK),Inv X pins Z H s->RelV x v->Vals xs us->r x xs H Q ->
  wpAny (model X.prog X.w) X.A (call (.builtin id) (v::us)) (EP X pins Z Q) X.xe s
section
variable {X:Cx}{a b:μ}{ta tb:TE}{pos:Pos}
theorem als(hr:t8 X r)(ha:PE X a ta)(hb:PE X b tb)(hs:QT b):PE X (.Subscript a b pos) (yf r ta tb):=by
 intro pins s Z H Q I h;exact Subscript_ (Gf ha hb I h λv u s2 x y H2 I2 rx ry q=>hr a b pins s2 Z H2 x y v u Q I2 rx ry q (hs _ _))
def ajb(K:Ξ):R2:=λx y H Q=>∃p xs i v,x=.ref p/\y=.int i/\bw K H p xs/\d8 xs i=O v/\Q v H
def ajc(K:Ξ):R2:=λx y H Q=>∃p xs i v,x=.ref p/\y=.int i/\bZ K H p xs/\d8 xs i=O v/\Q v H
theorem Z7:t8 X (ajb X.K):=by
 intro value slice pins s Z H x y v u Q I rx ry h hs;obtain⟨p,xs,i,z,rfl,rfl,hq,he,q⟩:=h;cases rx;obtain⟨t,rfl⟩:=ry;obtain⟨its,r,pl,hz⟩:=I.list hq;obtain⟨j,h1,h2,h3,h4,h5⟩:=QE he;obtain⟨w,ew,rw'⟩:=r.get h2;have hl:=r.length;have hn:=sQ;have fin:EP X pins Z Q w s:=⟨z,H,I,rw',q⟩
 by_cases h0:0<=i
 ·have hj:i.toNat=j:=by
   rw[seqIndex_of h0 h5]at h1;exact R4 h1
  exact item_listR pl.isList h0 ∅ (by rw[hj];simpa using ew) fin hs
 ·have hj:(i+(its.toArray.size:Int)).toNat=j:=by
   rw[seqIndex_neg ∅ h4]at h1
   rw[Q3,<-hl];exact R4 h1
  exact subscriptTail_builtinR (x:=w) pl.isList.typeIs slot_list_getitem.lookup
   (wpAny_getItem_list_neg (Q:=λr s'=>r=w/\EP X pins Z Q r s') pl.isList ∅ (by rw[Q3]<;>omega) ∅ (by rw[hj];simpa using ew) ⟨rfl,fin⟩) hs
theorem Z6:t8 X (ajc X.K):=by
 intro value slice pins s Z H x y v u Q I rx ry h hs;obtain⟨p,xs,i,z,rfl,rfl,hq,he,q⟩:=h;cases rx;obtain⟨t,rfl⟩:=ry;obtain⟨its,r,pl,hz⟩:=I.tuple hq;obtain⟨j,h1,h2,h3,h4,h5⟩:=QE he;obtain⟨w,ew,rw'⟩:=r.get h2;have hl:=r.length;have hn:=sQ;have fin:EP X pins Z Q w s:=⟨z,H,I,rw',q⟩;exact subscriptTail_builtinR (x:=w) pl.typeIs slot_tuple_getitem.lookup
  (getItem_tuple (j:=j) (Q:=λr s'=>r=w/\EP X pins Z Q r s') pl ∅ ∅ (by rw[Q3,<-hl];exact h1) (by simpa using ew) ⟨rfl,fin⟩) hs
theorem Y9(its:List Δ)(n j:Nat)(u:Δ):Obj.mapSeq (·.setIfInBounds j u) {cls:=.type "list",data:=.seq its.toArray n}={cls:=.type "list",data:=.seq (its.set j u).toArray n}:=by
 simp[Obj.mapSeq]
theorem Inv.lst{xs:List V}(I:Inv X pins Z H s)(h:H p=O (.lst xs)):
  ∃(its:List Δ) (n:Nat),Vals xs its/\s.heap.get? p=O {cls:=.type "list",data:=.seq its.toArray n}/\xs.length<=Ω:=by
 obtain⟨z,its,n,r,e⟩:=I.hok p _ h;exact⟨its,n,r,e,z⟩
theorem Inv.Zg{xs:List V}{its its':List Δ}{f:Obj->Obj}(I:Inv X pins Z H s)(h:H p=O (.lst xs))(ho:s.heap.get? p=O {cls:=.type "list",data:=.seq its.toArray n})(hf:f {cls:=.type "list",data:=.seq its.toArray n}={cls:=.type "list",data:=.seq its'.toArray n'})(r:Vals ys its')(hz:ys.length<=Ω)(t:Nat):
  Inv X pins Z (upd H p (.lst ys)) {s with heap:=s.heap.update p f,toks:=t}:=by
 have e:(s.heap.update p f).get? p=O {cls:=.type "list",data:=.seq its'.toArray n'}:=by
  rw[UE f ho (by rw[hf]<;>rfl),hf]
 refine I.write (x:=p) (e:=p) (by rw[h];trivial) (.inl rfl) (λb u hb q=>(SR _ _ (Rr hb)).trans q) ⟨_,e⟩ ?_
 exact⟨hz,its',n',r,e⟩
def ajy:V->V->V->Hp->(Hp->Prop)->Prop:=λo i v H Q=>∃p xs k j,o=.ref p/\i=.int k/\H p=O (.lst xs)/\iF xs.length k=O j/\Q (upd H p (.lst (xs.set j v)))
theorem set_list:QU X ajy:=by
 intro pins s Z H o i v ov iv u Q I ro ri rv h;obtain⟨p,xs,k,j,rfl,rfl,hp,hj,q⟩:=h;cases ro;obtain⟨t,rfl⟩:=ri;obtain⟨its,n,r,ho,hz⟩:=I.lst hp;obtain⟨h1,h2,h3,h4⟩:=NC hj;have hl:=r.length;have hn:=sQ;have I':Inv X pins Z (upd H p (.lst (xs.set j v))) {s with heap:=s.heap.update p (Obj.mapSeq (·.setIfInBounds j u))} :=
  I.Zg hp ho (Y9 its n j u) (r.set rv j) (by rw[List.length_set];exact hz) s.toks
 by_cases h0:0<=k
 ·have hk:k.toNat=j:=by
   rw[seqIndex_of h0 h4]at h1;exact R4 h1
  exact PySem.W.ki_setAt ho h0 ∅ (by rw[Q3,<-hl];exact h4) (by rw[hk];exact⟨_,I',q⟩)
 ·have hk:(k+(its.toArray.size:Int)).toNat=j:=by
   rw[seqIndex_neg ∅ h3]at h1
   rw[Q3,<-hl];exact R4 h1
  exact PySem.W.ki_setBack ho ∅ (by rw[Q3,<-hl];exact h3) ∅ (by rw[hk];exact⟨_,I',q⟩)
theorem aiF(lo hi:Option Int)(n:Nat):(sliceBounds lo hi U n).1=((HT.iz n 0 lo:Nat):Int)/\(sliceBounds lo hi U n).2.1=((HT.iz n n hi:Nat):Int)/\(sliceBounds lo hi U n).2.2=1:=by
 refine⟨?_,?_,rfl⟩
 ·cases lo with
  |none=>simp[sliceBounds,HT.iz]
  |some i =>
   simp only[sliceBounds,HT.iz,Xv,show(1:Int)>0 by decide,if_true]
   by_cases h:i<0
   ·simp only[h,if_true]<;>omega
   ·simp only[h,if_false]<;>omega
 ·cases hi with
  |none=>simp[sliceBounds,HT.iz]
  |some i =>
   simp only[sliceBounds,HT.iz,Xv,show(1:Int)>0 by decide,if_true]
   by_cases h:i<0
   ·simp only[h,if_true]<;>omega
   ·simp only[h,if_false]<;>omega
theorem ain(its:List Δ)(lo hi:Option Int):slicePick its.toArray lo hi U=((its.drop (HT.iz its.length 0 lo)).take (HT.iz its.length its.length hi-HT.iz its.length 0 lo)).toArray:=by
 obtain⟨h1,h2,h3⟩:=aiF lo hi its.toArray.size;unfold slicePick;rw[h1,h2,h3];simp only[sliceRange_one,pick_run,Q3]<;>rfl
def ai0(K:Ξ):V->Option Int->Option Int->Hp->VK->Prop:=λx lo hi H Q=>∃a xs,x=.ref a/\bw K H a xs/\∀p,H p=U->Q (.ref p) (upd H p (.lst (wQ xs lo hi)))
theorem aim:QS X (ai0 X.K):=by
 intro pins s Z H x v vl vu lo hi sl Q I rx hs pl pu h;obtain⟨a,xs,rfl,hx,q⟩:=h;cases rx;obtain⟨its,r,ht,hz⟩:=I.list hx;have hlen:=r.length;refine⟨"list",_,slot_list_getitem.lookup,ht.isList.typeIs,?_⟩;refine wpAny_getItem_list_slice ht.isList hs pl pu .none (by simp) ?_ (by rw[Q3]<;>omega)
 rw[ain,<-hlen];refine⟨.ref s.heap.objs.size,_,I.laid (λb ob q=>J' _ q) (x6 _) ?_,rfl,q _ (I.hok.fresh (x6 _))⟩
 exact⟨R9 (acZ xs lo hi) hz,_,0,(r.drop _).take _,Q4 _ rfl⟩
theorem adM:cK X (.builtin "len") (λxs H Q=>∃p ys,xs=[.ref p]/\(bw X.K H p ys\/bZ X.K H p ys)/\Q (.int ys.length) H):=by
 intro pins s Z H xs us Q I r h;obtain⟨p,ys,rfl,hq,q⟩:=h;obtain⟨u,rfl,rx⟩:=RO r;cases rx;have hn:=sQ
 rcases hq with hq|hq
 ·obtain⟨its,r',pl,hz⟩:=I.list hq;have hlen:=r'.length;exact Calls.call_len_list pl.isList (by simp<;>omega) ⟨.int ys.length,H,I.tok _,⟨s.toks+1,by rw[Q3,hlen]⟩,q⟩
 ·obtain⟨its,r',pl,hz⟩:=I.tuple hq;have hlen:=r'.length;exact len_tuple pl (by simp<;>omega) ⟨.int ys.length,H,I.tok _,⟨s.toks+1,by rw[Q3,hlen]⟩,q⟩
theorem adL:cK X (.builtin "len") (λxs H Q=>∃z,xs=[.str z]/\z.length<=Ω/\Q (.int z.length) H):=by
 intro pins s Z H xs us Q I r h;obtain⟨z,rfl,hz,q⟩:=h;obtain⟨u,rfl,t,rfl⟩:=RO r;have hn:=sQ;exact len_str ∅ ⟨.int z.length,H,I.tok _,⟨_,rfl⟩,q⟩
theorem Qm:cK X (.type "list") (λxs H Q=>∃p ys,xs=[.ref p]/\(bw X.K H p ys\/bZ X.K H p ys)/\∀l,H l=U->Q (.ref l) (upd H l (.lst ys))):=by
 intro pins s Z H xs us Q I r h;obtain⟨p,ys,rfl,hq,q⟩:=h;obtain⟨u,rfl,rx⟩:=RO r;cases rx;have fin:∀(its:List Δ),Vals ys its->ys.length<=Ω->∀(h':υ) (c':Nat),_ ->
   h'.get? s.heap.objs.size=O {cls:=.type "list",dict:=U,data:=.seq its.toArray c',slots:=#[]}->EP X pins Z Q (.ref s.heap.objs.size) {s with heap:=h'}:=λits r' hz h' c' kp e =>
  ⟨.ref s.heap.objs.size,_,I.laid (t':=s.toks) kp (x6 _) (show ff X.prog X.w _ h' _ (.lst ys)from⟨hz,its,c',r',e⟩),rfl,q _ (I.hok.fresh (x6 _))⟩
 rcases hq with hq|hq
 ·obtain⟨its,r',pl,hz⟩:=I.list hq;have hlen:=r'.length;obtain⟨o,ho,hc,n,hd⟩:=pl.isList;exact call_list_seq p (.inl rfl) ho hc hd (λh' c' kp e=>fin its r' hz h' c' kp e) (by simp only[Q3]<;>omega)
 ·obtain⟨its,r',pl,hz⟩:=I.tuple hq;have hlen:=r'.length;obtain⟨o,ho,hc,n,hd⟩:=pl;exact call_list_seq p (.inr rfl) ho hc hd (λh' c' kp e=>fin its r' hz h' c' kp e) (by simp only[Q3]<;>omega)
theorem adG:cK X (.type "tuple") (λxs H Q=>∃p ys,xs=[.ref p]/\((bw X.K H p ys/\∀l,H l=U->Q (.ref l) (upd H l (.tup ys)))\/(bZ X.K H p ys/\Q (.ref p) H))):=by
 intro pins s Z H xs us Q I r h;obtain⟨p,ys,rfl,h⟩:=h;obtain⟨u,rfl,rx⟩:=RO r;cases rx
 rcases h with⟨hq,q⟩|⟨hq,q⟩
 ·obtain⟨its,r',pl,hz⟩:=I.list hq;have hlen:=r'.length;refine call_tuple_list pl.isList (λh' kp=>?_) (by simp only[Q3]<;>omega)
  have I1:Inv X pins Z H {s with heap:=h'}:=I.kept (t':=s.toks) kp
  have I2:Inv X pins Z (upd H h'.objs.size (.tup ys)) {s with heap:=h'.push {cls:=.type "tuple",data:=.seq its.toArray} } :=
   I1.laid (t':=s.toks) (λb o e=>J' _ e) (x6 _) (show ff X.prog X.w _ _ _ (.tup ys)from⟨hz,its,r',ny.new _ _⟩)
  exact⟨.ref h'.objs.size,_,I2,rfl,q _ (I1.hok.fresh (x6 _))⟩
 ·obtain⟨its,r',pl,hz⟩:=I.tuple hq;exact call_tuple_same pl ⟨.ref p,H,I,rfl,q⟩
def IJ(K:Ξ)(T:String)(x:V)(H:Hp):Prop:=match x with
 |.str _=>T="str"
 |.int _=>T="int"
 |.ref p=>(T="list"/\∃xs,bw K H p xs)\/(T="tuple"/\((∃xs,H p=O (.tup xs))\/∃o,K.lookup p=O o/\o.cls=.type "tuple"/\o.dict=U)) \/
   (T="dict"/\((∃kvs,H p=O (.dK kvs))\/∃kvs,H p=O (.dT kvs)))\/(T="set"/\∃S n,H p=O (.set S n))
 |_=>False
theorem ahf(I:Inv X pins Z H s)(r:RelV x v)(ty:IJ X.K T x H):
  s.TypeIs v T/\∀a,v=.ref a->∃ob,s.heap.get? a=O ob/\ob.dict=U:=by
 cases x with
 |str z =>
  obtain⟨t,rfl⟩:=r;cases(show T="str" from ty)
  exact⟨typeIs_str s z t,λ_ e=>nomatch e⟩
 |int i =>
  obtain⟨t,rfl⟩:=r;cases(show T="int" from ty)
  exact⟨typeIs_int s i t,λ_ e=>nomatch e⟩
 |ref p =>
  cases r
  rcases ty with⟨rfl,xs,hq⟩|⟨rfl,⟨xs,hk⟩|⟨o,hk,hc,hd⟩⟩|⟨rfl,hk⟩|⟨rfl,S,n,hk⟩
  ·obtain⟨its,_,pl,_⟩:=I.list hq;refine⟨pl.isList.typeIs,λa e=>?_⟩
   cases e;obtain⟨o,n,e,c,hd,_⟩:=pl;exact⟨o,e,hd⟩
  ·obtain⟨_,its,_,o,e,c,_,hd⟩:=(show ff X.prog X.w H s.heap p (.tup xs)from I.hok p _ hk)
   refine⟨⟨o,e,c⟩,λa e2=>?_⟩
   cases e2;exact⟨o,e,hd⟩
  ·refine⟨⟨o,I.fY p o hk,hc⟩,λa e=>?_⟩
   cases e;exact⟨o,I.fY _ o hk,hd⟩
  ·have z:∃o,s.heap.get? p=O o/\o.ExactDict:=by
    rcases hk with⟨kvs,hk⟩|⟨kvs,hk⟩
    ·obtain⟨_,_,_,_,o,_,_,e,ex,_⟩:=I.hok p _ hk;exact⟨o,e,ex⟩
    ·obtain⟨_,_,_,_,o,_,_,e,ex,_⟩:=I.hok p _ hk;exact⟨o,e,ex⟩
   obtain⟨o,e,ex⟩:=z;refine⟨⟨o,e,ex.1⟩,λa e2=>?_⟩
   cases e2;exact⟨o,e,ex.2.1⟩
  ·obtain⟨o,_,_,_,e,ex,_⟩:=I.hok p _ hk;refine⟨⟨o,e,ex.1⟩,λa e2=>?_⟩
   cases e2;exact⟨o,e,ex.2.1⟩
 |_=>exact False.elim ty
def aaN(K:Ξ)(T:String)(r:V->List V->Hp->VK->Prop)(to:TE)(t:TA):TE:=λZ H Q=>to Z H λx H1=>IJ K T x H1/\t Z H1 λxs H2=>r x xs H2 Q
variable {o e:μ}{es:List μ}{to:TE}{t:TA}{name:Str}{apos cpos:Pos}{T id:String}{r:V->List V->Hp->VK->Prop}
theorem Dg(pa:PlainAttrs T)(slot:Slot T name id)(hty:typeOf (.builtin id)=pure (.type "method_descriptor"))(hm:MtR X id r)(ho:PE X o to)(ha:PA X (e::es) t)
  (hbase:VJ o name X.env (eval o X.env)=eval o X.env:=by rfl)
  (hfew:((Q6 cpos (ε (e::es) X.env)).all (λx=>!x.1)&&(Sw cpos (Sy [] X.env)).all (λx=>x.1.isSome)
   && decide ((e::es).length+([]:List S3).length+(if([]:List S3).isEmpty then 0 else 1)<30))=J:=by rfl)
  (hline:(apos.endLine==cpos.line)=J:=by rfl) (hs:ε (e::es) X.env=(ξ,eval e X.env)::ε es X.env:=by rfl) (hplain:(Q6 cpos (ε es X.env)).any (·.1)=ξ:=by rfl) :
  PE X (.Call (.Attribute o name apos) (e::es) [] cpos) (aaN X.K T r to t):=by
 intro pins s Z H Q I h;refine wpAny_Call_method_late hbase hfew hline rfl (bg (ho pins s Z H _ I h) λv s1 ⟨x,H1,I1,r1,ty,q1⟩=>?_)
 obtain⟨h1,h2⟩:=ahf I1 r1 ty;refine⟨T,id,pa,slot,hty,h1,h2,?_⟩;have hA:=ha cpos pins s1 Z H1 _ I1 q1;rw[hs]at hA ⊢;refine Calls.callWith_builtin (by show(ξ||(Q6 cpos (ε es X.env)).any (·.1))=ξ;rw[hplain]<;>rfl) (Calls.evalArgs_plain ?_)
 exact bg hA λus s2 ⟨vs,H2,I2,r2,q2⟩=>hm pins s2 Z H2 x vs v us Q I2 r1 r2 q2
end
def HJ(X:Cx)(id:String)(r:V->List V->Hp->VK->Prop):Prop :=
 ∀(pins:List (L×Obj)) (s:Ψ) (Z:St) (H:Hp) (x:V) (xs:List V) (v:Δ) (us:List Δ) (Q:VK),Inv X pins Z H s->RelV x v->Vals xs us->r x xs H Q ->
  wpAny (model X.prog X.w) X.A (call (.builtin id) (v::us)) (EP X pins Z Q) X.xe s
theorem Vals.one:∀{x:V}{us:List Δ},Vals [x] us->∃u,us=[u]/\RelV x u
 |_,_,.cons r .nil=>⟨_,rfl,r⟩
theorem Vals.two:∀{x y:V}{us:List Δ},Vals [x,y] us->∃u v,us=[u,v]/\RelV x u/\RelV y v
 |_,_,_,.cons r (.cons q .nil)=>⟨_,_,rfl,r,q⟩
theorem Vals.rep{xs:List V}(h:Vals xs us):∀k:Nat,Vals (ο k xs).flatten (ο k us).flatten
 |0=>.nil
 |k+1=>by
  rw[TV,TV,Te,Te];exact Vals.append h (Vals.rep h k)
theorem foldl_rep(its:List Δ):∀(k:Nat) (acc:List Δ),
  List.foldl (λx1 x2=>x1++x2) acc.toArray (ο k its.toArray)=(acc++(ο k its).flatten).toArray
 |0,acc=>by simp
 |k+1,acc=>by
  have e:acc.toArray++its.toArray=(acc++its).toArray:=by simp
  have e2:(acc++its)++(ο k its).flatten=acc++(ο (k+1) its).flatten:=by
   rw[TV,Te,SE]
  rw[<-e2,<-foldl_rep its k (acc++its),<-e,TV,TU]
section
variable {X:Cx}{pins:List (L×Obj)}{Z:St}{H:Hp}{s:Ψ}{l b:L}{xs ys zs:List V}
theorem Inv.DZ{its its':List Δ}{f:Array Δ->Array Δ}(I:Inv X pins Z H s)(hH:H l=O (.lst xs))(e:s.heap.get? l=O {cls:=.type "list",data:=.seq its.toArray n})(hf:f its.toArray=its'.toArray)(hv:Vals ys its')(hz:ys.length<=Ω):
  Inv X pins Z (upd H l (.lst ys)) {s with heap:=s.heap.update l (Obj.mapSeq f),toks:=t'}:=by
 have q:=Xu e f;rw[hf]at q;refine I.write (x:=l) (e:=l) (by rw[hH];exact trivial) (.inl rfl) (λb' u hb hu=>(SR s.heap (Obj.mapSeq f) (Rr hb)).trans hu) ⟨_,q⟩ ?_
 exact⟨hz,its',_,hv,q⟩
theorem Inv.Zm(I:Inv X pins Z H s)(hv:Vals ys its)(hz:ys.length<=Ω):
  Inv X pins Z (upd H s.heap.objs.size (.lst ys)) {s with heap:=s.heap.push {cls:=.type "list",data:=.seq its.toArray},toks:=t'} :=
 I.laid (λ_ _ q=>J' _ q) (x6 _) ⟨hz,its,0,hv,Q4 _ rfl⟩
theorem Inv.fresh(I:Inv X pins Z H s):H s.heap.objs.size=U:=I.hok.fresh (x6 _)
theorem Inv.vG(I:Inv X pins Z H s)(hH:H l=O (.lst xs)):xs.length<=Ω/\∃(its:List Δ) (n:Nat),Vals xs its/\xs.length=its.length/\s.heap.get? l=O {cls:=.type "list",data:=.seq its.toArray n}:=by
 obtain⟨z,its,n,r,e⟩:=I.hok l _ hH;exact⟨z,its,n,r,r.length,e⟩
theorem L7(h:n<=Ω):Builtin.List.listTooLong n=ξ:=by
 unfold Builtin.List.listTooLong;exact decide_eq_false ∅
end
section
variable {X:Cx}
def aki:V->List V->Hp->VK->Prop:=λx vs H Q=>∃l xs y,x=.ref l/\vs=[y]/\H l=O (.lst xs)/\xs.length<Ω/\Q .aF (upd H l (.lst (xs++[y])))
theorem YT:HJ X "list.append" aki:=by
 intro pins s Z H x vs v us Q I rx rv h;obtain⟨l,xs,y,rfl,rfl,hH,hz,q⟩:=h;cases rx;obtain⟨u,rfl,ru⟩:=rv.one;obtain⟨z,its,n,r,hl,e⟩:=I.vG hH;refine Td F.slot_list_append ⟨_,e,rfl⟩ F.entry_list_append (F.args_list_append_2 _ _) (Xs l its.toArray n u (by rw[Q3];omega)) ⟨e,?_⟩
 refine⟨.aF,_,I.DZ (its':=its++[u]) hH e (by simp) (r.append (.cons ru .nil)) ?_,rfl,q⟩
 rw[Rq,List.length_singleton];omega
def akl:V->List V->Hp->VK->Prop:=λx vs H Q=>∃l b xs zs,x=.ref l/\vs=[.ref b]/\H l=O (.lst xs)/\H b=O (.lst zs)/\xs.length+zs.length<=Ω/\Q .aF (upd H l (.lst (xs++zs)))
theorem YS:HJ X "list.extend" akl:=by
 intro pins s Z H x vs v us Q I rx rv h;obtain⟨l,b,xs,zs,rfl,rfl,hH,hB,hz,q⟩:=h;cases rx;obtain⟨u,rfl,ru⟩:=rv.one;cases ru;obtain⟨z,its,n,r,hl,e⟩:=I.vG hH;obtain⟨z2,its2,n2,r2,hl2,e2⟩:=I.vG hB;have hsz:its.toArray.size+its2.toArray.size<=Ω:=by rw[Q3,Q3];omega
 have EK:¬(!its.toArray.isEmpty&&Builtin.List.listTooLong (its.toArray.size+its2.toArray.size))=J:=by
  rw[L7 hsz,WR];exact RH
 refine Td F.slot_list_extend ⟨_,e,rfl⟩ F.entry_list_extend (F.args_list_extend_2 _ _)
  (AutoSeq1.list_extend_list_list_0 l its.toArray n b its2.toArray n2 EK (by rw[Q3];omega) ∅) ⟨e,e2,?_⟩
 refine⟨.aF,_,I.DZ (its':=its++its2) hH e (by simp) (r.append r2) ?_,rfl,q⟩
 rw[Rq];omega
def aiE:R2:=λx y H Q=>∃l k xs,x=.ref l/\y=.int k/\H l=O (.lst xs)/\-(2^63)<=k/\k<2^63/\xs.length*k.toNat<=Ω /\
 ∀p,H p=U->Q (.ref p) (upd H p (.lst (ο k.toNat xs).flatten))
theorem len_rep{α:Type}(xs:List α)(k:Nat):(ο k xs).flatten.length=k*xs.length:=by
 induction k with
 |zero=>simp
 |succ k ih=>rw[TV,Te,Rq,ih,WQ,Nat.add_comm]
theorem LG:bL X (binaryOp .Mult) aiE:=by
 intro pins s Z H x y v u Q I rx ry h;obtain⟨l,k,xs,rfl,rfl,hH,h1,h2,hz,q⟩:=h;cases rx;obtain⟨t,rfl⟩:=ry;obtain⟨z,its,n,r,hl,e⟩:=I.vG hH;have hlen:its.toArray.size*k.toNat<=Ω:=by rw[Q3,<-hl];exact hz
 have hcap:¬its.toArray.size*k.toNat>(2^63-1)/8:=by
  have:Ω<=(2^63-1)/8:=⋯
  omega
 have hfit:¬(!Builtin.List.listFitsIndex k)=J:=by
  rw[fitsIndex_both h1 h2];exact RH
 have EK:¬Builtin.List.listTooLong (its.toArray.size*k.toNat)=J:=by
  rw[L7 hlen];exact RH
 have hnew:List.foldl (λx1 x2=>x1++x2) #[] (ο (if its.toArray.isEmpty=J then 0 else k.toNat) its.toArray)=(ο k.toNat its).flatten.toArray:=by
  have f0:∀m:Nat,List.foldl _ #[] _=(ο m its).flatten.toArray:=λm=>by
   have:=foldl_rep its m [];exact this
  rw[f0];cases its with
  |nil=>simp
  |cons a r'=>rw[if_neg (by simp)]
 refine wpAny_binaryOp_repeat_ref ⋯ ⟨_,e,rfl⟩ (λs'=>typeIs_int s' k t) noFill_list_mul F.fills_int_mul F.slot_int_rmul repeat_list F.slot_int_index.lookup
  (Td F.slot_int_rmul (typeIs_int s k t) F.entry_int_rmul (F.args_int_rmul_2 _ _) (int___rmul___int_list k t l its.toArray n)
   ⟨e,rfl,⟨_,e,rfl⟩,Td F.slot_list_mul ⟨_,e,rfl⟩ F.entry_list_mul (F.args_list_mul_2 _ _) (AutoListH.list___mul___list_int_3 l its.toArray n k t hfit hcap EK) ⟨e,?_⟩⟩)
 rw[hnew];exact⟨.ref _,_,I.Zm (r.rep k.toNat) (by rw[len_rep,Nat.mul_comm];exact hz),rfl,q _ I.fresh⟩
end
section
variable {prog:ν}{w:τ}{A:χ}{E:Δ->Ψ->Prop}{s:Ψ}
set_option maxRecDepth 100000 in
end
end L2
namespace Q2
open PySem PySem.W PySem.Calls PyProof.Rows
theorem aak:∀(ns:List Int) (vs:List Δ),WellAll P h vs (ns.map WData.int)->S4 vs ns:=by
 intro ns
 induction ns with
 |nil =>
  intro vs w;cases w;exact .nil
 |cons n ns ih =>
  intro vs w;cases w with
  |cons a b =>
   cases a;exact .cons _ _ (ih _ b)
theorem ajs{l:OpenLaw}(hn:l.most=O n){args:List WData}{vals:List Δ}(hpre:l.row.toRowW.claim.pre args=J)(hwl:WellAll P h vals args):
  ∃a vs ns,vals=[Value.ref a]/\args=[WData.list (ns.map WData.int)]/\h.get? a=O {cls:=.type "list",data:=.seq vs.toArray}/\S4 vs ns/\ns.length<=n:=by
 have hc:l.pre.holds [] {args:=args}=J:=(pre_splitW hpre).2;obtain⟨d,r,rfl,h1,h2⟩:=hasAllW_cons ((pre_splitW hpre).1);obtain rfl:=hasAllW_nil h2;obtain⟨xs,rfl,h3⟩:=hasW_list h1;obtain⟨ns,rfl⟩:=items_int h3;have hlen:ns.length<=n:=by
  unfold OpenLaw.pre at hc;have h4:(WTm.not (.lt (.lit (.int (n:Int))) (.len (.arg 0)))).holds [] {args:=[.list (ns.map .int)]}=J:=by
   have h4:=(holds_andW hc).1;rw[hn]at h4;exact h4
  have h5:=condW_of h4 (w_not (w_lt w_lit (w_len_list (w_arg rfl))));rw[P0]at h5;refine Xr λq=>?_
  first
   |(rw[decide_eq_true q']at h5;exact absurd h5 ⋯)
   |(simp at h5;omega)
 cases hwl with
 |cons w1 w2 =>
  cases w2;cases w1 with
  |list ho hall=>exact⟨_,_,ns,rfl,rfl,ho,aak ns _ hall,hlen⟩
theorem aky(l:OpenLaw)(args:List WData):l.row.toRowW.claim.post args (.bool J) args=J :=
 postW_of (r:=l.row.toRowW) (X:=(J==J))
  (show WShape.has [] (.bool J) .bool=J by first|rfl|decide|simp[WShape.has,WShape.arms,WShape.armsAll])
  (show(WTm.eq .res (.lit (.bool J))).value [] {args:=args,res:=O (.bool J),after:=args}=O (.bool (J==J))from w_eq_bool (w_res rfl) w_lit) rfl
theorem ad6{l:OpenLaw}{loose:List Str}{XP:(Str->Option Δ)->υ->Prop}{YP:τ->υ->Prop}{d:DefRec}(hn:l.most=O n)(hdf:d.params.defaults=[])(call:∀(w:τ) (s₀ s₁:Ψ) (mg mb:Str->Option Δ) (fa:L) (o:Obj) (pm cd doc:Δ) (a:L) (vs:List Δ) (ns:List Int),
   Ground q loose [] XP w s₀ mg mb s₁.heap->YP w s₁.heap ->
   s₁.heap.get? fa=O o->o.data=.func (docDef d.name d.params d.body d.scope pm cd doc)->s₁.heap.CodeRec cd d.name->mg d.name=O (.ref fa) ->
   s₁.heap.get? a=O {cls:=.type "list",data:=.seq vs.toArray}->S4 vs ns->ns.length<=n->s₁.gens=#[] ->
   codeAny (model l.prog w) callerA (.call (.ref fa) ⟨[.ref a],[]⟩) (λr s'=>r=.ok (.ret (.bool J))/\OldK s₁.heap s'.heap/\s'.os=s₁.os/\Sj s'.gens) s₁):
  WalkO q loose XP YP l.row.toRowW d [] (λf vs=>PySem.call f vs):=by
 intro w s₀ s₁ mg mb G Y fa o pm cd doc dV kV ho hd hcd hD hmg hg args vals as hpre hlay hrd hwl hlo;obtain rfl:dV=.none:=Dflts.none hD hdf;obtain rfl:kV=.none:=Dflts.noKw hD;obtain⟨a,vs,ns,rfl,rfl,hobj,hints,hlen⟩:=ajs hn hpre hwl;refine enter_call (S1 (call w s₀ s₁ mg mb fa o pm cd doc a vs ns G Y ho (fd_plain hd) hcd hmg hobj hints hlen hg) λr s' hq=>?_)
 obtain⟨rfl,h2,h3,h4⟩:=hq;exact⟨.inl ⟨.bool J,.bool J,[],rfl,λ_=>rfl,.bool J,aky l _,λ_=>⟨List.Pairwise.nil,λ_ hm=>(nomatch hm)⟩⟩,h2,h3,h4⟩
end Q2
namespace L2
open PySem PySem.Spec PyProof.Rows
theorem Iw:∀{vs:List Δ}{ns:List Int},S4 vs ns->Vals (ns.map V.int) vs
 |_,_,.nil=>.nil
 |_,_,.cons n t h=>.cons ⟨t,rfl⟩ (Iw h)
def oZ(s:dg):Sx:=match s with
 |.FunctionDef _ a _ _ _ _ _ _ _ _=>a
 |_=>{posonlyargs:=[],args:=[],vararg:=U,kwonlyargs:=[],kw_defaults:=[],kwarg:=U,defaults:=[]}
def iH(s:dg):List dg:=match s with
 |.FunctionDef _ _ b _ _ _ _ _ _ _=>b
 |_=>[]
def dG(s:dg):R5:=match s with
 |.FunctionDef _ _ _ _ _ _ sc _ _ _=>sc
 |_=>{kind:=.function,names:=[],isGenerator:=ξ,isCoroutine:=ξ}
abbrev dJ:pK:=λ_ _ _ _ _ _=>False
abbrev E0:XK:=λ_ _ _=>False
theorem ajV:Passes dJ X E0:=λ_ _ _ _ _ _ _ h=>h.elim
structure mq (K:Ξ) (x qual:Str) (st:dg) (f:L) (fd:RK):Prop where
 ex:∃(oc:Δ) (od:Option L) (kV doc pm:Δ) (an:Option L) (cdv ct:Δ) (osl:Array (Option Δ)),
  fd=PySem.W.fnOf x qual (oZ st) (iH st) (dG st) .none kV doc pm an cdv ct/\K.lookup f=O ⟨oc,od,.func fd,osl⟩/\PySem.W.codeIn K cdv qual=J
 kp:PySem.W.keepIn K (.ref f)=J
section
variable {P:ν}{w:τ}{K:Ξ}{mg:Str->Option Δ}{base:υ}
theorem mq.ok{qual:Str}{st:dg}(F:mq K x qual st f fd)(S:jQ N ps (dG st))(len:∀vs H Q E,sp vs H Q E->vs.length=ps.length)(hbody:∀(cdv:Δ) (A:χ) (outer:List Env) (s:Ψ) (H:Hp) (vs:List V) (Q:VK) (E:XK),cu k (A.deeper (envOfC qual (dG st) s.heap.objs.size f cdv))->sp vs H Q E ->
   ∃t,gV (lY dJ P w K mg base N qual (dG st) f cdv A outer s H E).lG (iH st) t/\t {nx:=λ_ H'=>Q .aF H',rt:=Q} (start N vs) H):eO P w K mg base dJ (k+1) f fd ps sp:=by
 obtain⟨oc,od,kV,doc,pm,an,cdv,ct,osl,rfl,lk,hcd⟩:=F.ex;refine O7 lk hcd S len λA outer s H vs Q E hr oN=>?_
 obtain⟨t,h,q⟩:=hbody cdv A outer s H vs Q E hr oN;exact⟨t,h.lG,q⟩
theorem mq.binds{qual:Str}{st:dg}{ps:List Str}(F:mq K x qual st f fd)(h:∀(kV doc pm:Δ) (an:Option L) (cdv ct:Δ) (us:List Δ),us.length=ps.length->bindArgs (PySem.W.fnOf x qual (oZ st) (iH st) (dG st) .none kV doc pm an cdv ct) ⟨us,[]⟩=pure (ps.zip us)):Binds K fd ps []:=by
 obtain⟨oc,od,kV,doc,pm,an,cdv,ct,osl,rfl,lk,hcd⟩:=F.ex;exact .all (h kV doc pm an cdv ct)
theorem abU{qual:Str}{st:dg}{kV doc:Δ}(l:K.lookup f=O ⟨oc,od,.func (PySem.W.fnOf x qual (oZ st) (iH st) (dG st) .none kV doc pm an cdv ct),osl⟩)(c:PySem.W.codeIn K cdv qual=J)(k:PySem.W.keepIn K (.ref f)=J):mq K x qual st f (PySem.W.fnOf x qual (oZ st) (iH st) (dG st) .none kV doc pm an cdv ct):=⟨⟨oc,od,kV,doc,pm,an,cdv,ct,osl,rfl,l,c⟩,k⟩
end
theorem aay(hr:cu k A):A.units+1<Q7:=UD (Nat.add_le_add_left (by decide:1<=64) _) hr.units
section
variable {X:Cx}
theorem pv(i:Nat){pos:Pos}(hN:X.N[i]? = O x:=by rfl)(hv:xE X.env.scope x:=by first|exact Or.inl rfl|exact Or.inr (Or.inl rfl)|exact Or.inr (Or.inr rfl))(hd:(x==("__debug__":Str))=ξ:=by decide)(hcd:(x==("__classdict__":Str))=ξ:=by decide):PE X (.Name x pos) (rJ i):=Df hN hv hd hcd
end
theorem oA{A B:Prop}(h:B):if ξ=J then A else B:=by
 rw[if_neg RH];exact h
theorem oz{A B:Prop}(h:A):if J=J then A else B:=by
 rw[if_pos rfl];exact h
def fO(X:Cx)(N':List Str)(scope:R5)(cl:List (Str×L))(C:L)(s₀:Ψ)(H₀:Hp)(ex:List L)(pn:List (L×Obj)):Cx where
 prog:=X.prog
 w:=X.w
 K:=X.K
 mg:=X.mg
 base:=X.base
 A:=X.A
 N:=N'
 s₀:=s₀
 H₀:=H₀
 env:=compEnvC scope cl C X.env
 outer:=X.stack
 stack:=X.stack
 ex:=ex
 fn:=λx=>scope.names.lookup x==O NameKind.cell
 calm:=X.calm
 pn:=pn
 xe:=λ_ _=>False
structure cH (X:Cx) (N':List Str) (pick:List (Option Nat)) (scope:R5):Prop where
 kind:scope.kind=.function
 nd:N'.Nodup
 names:∀x∈scope.names,x.2=.local->scope.names.lookup x.1=O .local
 uniq:(scope.names.map (·.1)).Nodup
 len:pick.length=N'.length
 got:∀(i j:Nat) (x:Str),pick[i]? = O (O j)->N'[i]? = O x->scope.names.lookup x=O .free/\X.N[j]? = O x
 free:∀x∈scope.names,x.2=.free->X.env.kindOf x.1=O .cell\/X.env.kindOf x.1=O .free
def mE(pick:List (Option Nat))(Z:St):St:=pick.map λo=>o.bind λj=>(Z[j]?).bind id
def qM(X:Cx)(ifs:List μ)(t:TT):Prop :=
 ∀(pins:List (L×Obj)) (s:Ψ) (Z:St) (H:Hp) (Q:Bool->Hp->Prop),Inv X pins Z H s->t Z H Q ->
  wpAny (model X.prog X.w) X.A (forIn ifs J λc r=>if r=J then do let ok <-isTrue c X.env (eval c X.env);pure (ForInStep.yield ok)else pure (ForInStep.yield r)) (TP X pins Z Q) X.xe s
def aaE:TT:=λ_ H Q=>Q J H
theorem akp:qM X [] aaE:=λpins s Z H Q I h=>wpAny_tests_nil ⟨H,I,h⟩
theorem akq(h:PT X c t):qM X [c] t:=λpins s Z H Q I q=>wpAny_tests_one (h pins s Z H Q I q)
def Q0(Γ:It)(g:TG)(tt:TT)(te:TE)(Q:VK)(Z:St)(H:Hp):Prop:=∃W:Nat->Nat->St->List V->Hp->Prop,(∃m,W 0 m Z [] H) /\
  ∀i m σ' ys H,W i m σ' ys H->ys.length<Ω /\
    ((Γ.stop i H/\∀p,H p=U->Q (.ref p) (upd H p (.lst ys))) \/
     (Γ.go i H/\∃N:St->List V->Hp->Prop,(∀σ2 zs H2,N σ2 zs H2->∃m',m'<m/\W (i+1) m' σ2 zs H2)/\∀x H',Γ.qX i H x H'->g x σ' H' λσ2 H2=>tt σ2 H2 λb H3 =>
        if b=J then te σ2 H3 λy H4=>N σ2 (ys++[y]) H4 else N σ2 ys H3))
def CD(wi:TI)(pick:List (Option Nat))(g:TG)(tt:TT)(te:TE):TE:=λZ H Q=>wi Z H λΓ H1=>Q0 Γ g tt te Q (mE pick Z) H1
def gT(env:Env):List (Str×RJ)->List (Str×L)->List (Str×L)
 |[],acc=>acc
 |(n,k)::r,acc=>gT env r (if(k==NameKind.free)=J then(n,(env.cells.lookup n).getD 0)::acc else acc)
theorem BH{env:Env}:∀(names:List (Str×RJ)) (acc:List (Str×L)),(∀x∈names,x.2=.free->∃c,env.cells.lookup x.1=O c) ->
  (forIn names acc fun(x:Str×RJ) cs=>(if(x.2==NameKind.free)=J then do let a <-cellOf env x.1;pure (ForInStep.yield ((x.1,a)::cs))else pure (ForInStep.yield cs):Sem (ForInStep (List (Str×L)))))=pure (gT env names acc)
 |[],acc,_=>rfl
 |(n,k)::r,acc,h=>by
  rw[Xq]
  by_cases hk:(k==NameKind.free)=J
  ·obtain⟨c,hc⟩:=h (n,k) Rf (by simpa using hk)
   have e1:cellOf env n=pure c:=by unfold cellOf;rw[show env.cells.lookup n=O c from hc]
   simp only[hk,if_true,e1,pure_bind];rw[BH r _ λx hx=>h x (Rb _ hx)]
   show _=pure (gT env r _);rw[if_pos hk,show env.cells.lookup n=O c from hc]
   rfl
  ·simp only[hk,Ra,if_false,pure_bind];rw[BH r _ λx hx=>h x (Rb _ hx)]
   show _=pure (gT env r _);rw[if_neg hk]
theorem Gx{env:Env}:∀(names:List (Str×RJ)) (acc:List (Str×L)),(gT env names acc).lookup x=O c ->
  ((x,NameKind.free)∈names/\c=(env.cells.lookup x).getD 0)\/acc.lookup x=O c
 |[],acc,h=>.inr h
 |(n,k)::r,acc,h=>by
  rcases Gx r _ h with⟨a,b⟩|q
  ·exact .inl ⟨Rb _ a,b⟩
  ·by_cases hk:(k==NameKind.free)=J
   ·rw[if_pos hk,RX]at q;cases hx:x==n with
    |true =>
     rw[hx]at q;have e1:x=n:=by simpa using hx
     have e2:k=.free:=by simpa using hk
     subst e1;subst e2;exact .inl ⟨Rf,(R4 q).symm⟩
    |false=>rw[hx]at q;exact .inr q
   ·rw[if_neg hk]at q;exact .inr q
theorem Gy{env:Env}:∀(names:List (Str×RJ)) (acc:List (Str×L)),(acc.lookup x).isSome=J\/(x,NameKind.free)∈names->((gT env names acc).lookup x).isSome=J
 |[],acc,h=>h.elim id λz=>by cases z
 |(n,k)::r,acc,h=>by
  refine Gy r _ ?_
  by_cases hk:(k==NameKind.free)=J
  ·rw[if_pos hk,RX];cases hx:x==n with
   |true=>exact .inl rfl
   |false =>
    refine h.imp id λz=>?_
    rcases Bt.mp z with e|z
    ·exact absurd (show(x==n)=J by cases e;simp) (by rw[hx];simp)
    ·exact z
  ·rw[if_neg hk];refine h.imp id λz=>?_
   rcases Bt.mp z with e|z
   ·exact absurd (show _=J by cases e;rfl) hk
   ·exact z
theorem F4:∀(names:List (Str×RJ)) (n:Nat) (acc:List (Str×L)),(cellsFrom n names acc).lookup x=O c->(n<=c/\(x,NameKind.cell)∈names)\/acc.lookup x=O c
 |[],_,_,h=>.inr h
 |(y,k)::r,n,acc,h=>by
  unfold cellsFrom at h
  by_cases hk:(k==NameKind.cell)=J
  ·rw[if_pos hk]at h
   rcases F4 r _ _ h with⟨a,b⟩|q
   ·exact .inl ⟨R9 (TR _) a,Rb _ b⟩
   ·rw[RX]at q;cases hx:x==y with
    |true =>
     rw[hx]at q;have e1:x=y:=by simpa using hx
     have e2:k=.cell:=by simpa using hk
     subst e1;subst e2;exact .inl ⟨So (R4 q),Rf⟩
    |false=>rw[hx]at q;exact .inr q
  ·rw[if_neg hk]at h
   rcases F4 r _ _ h with⟨a,b⟩|q
   ·exact .inl ⟨a,Rb _ b⟩
   ·exact .inr q
theorem F3:∀(names:List (Str×RJ)) (n:Nat) (acc:List (Str×L)),(∀x y c,acc.lookup x=O c->acc.lookup y=O c->x=y)->(∀x c,acc.lookup x=O c->c<n) ->
  ∀x y c,(cellsFrom n names acc).lookup x=O c->(cellsFrom n names acc).lookup y=O c->x=y
 |[],_,_,hi,_,x,y,c,h1,h2=>hi x y c h1 h2
 |(z,k)::r,n,acc,hi,hl,x,y,c,h1,h2=>by
  unfold cellsFrom at h1 h2
  by_cases hk:(k==NameKind.cell)=J
  ·rw[if_pos hk]at h1 h2;refine F3 r (n+1) ((z,n)::acc) (λx y c e1 e2=>?_) (λx c e=>?_) x y c h1 h2
   ·rw[RX]at e1 e2;cases hx:x==z with
    |true =>
     rw[hx]at e1;cases hy:y==z with
     |true=>exact(by simpa using hx:x=z).trans (by simpa using hy:y=z).symm
     |false =>
      rw[hy]at e2;have e3:n=c:=R4 e1;exact absurd (e3▸hl y c e2) (RS _)
    |false =>
     rw[hx]at e1;cases hy:y==z with
     |true =>
      rw[hy]at e2;have e3:n=c:=R4 e2;exact absurd (e3▸hl x c e1) (RS _)
     |false=>rw[hy]at e2;exact hi x y c e1 e2
   ·rw[RX]at e;cases hx:x==z with
    |true=>rw[hx]at e;have e3:n=c:=R4 e;exact e3▸Rt n
    |false=>rw[hx]at e;exact Rp (hl x c e)
  ·rw[if_neg hk]at h1 h2;exact F3 r n acc hi hl x y c h1 h2
theorem F5:∀(names:List (Str×RJ)) (h:υ) (acc:List (Str×L)),(cellsFrom h.objs.size names acc).lookup x=O c->acc.lookup x=O c\/(h.objs.size<=c/\(pushCells h names).IsCell c U)
 |[],_,_,e=>.inl e
 |(y,k)::r,h,acc,e=>by
  unfold cellsFrom at e;unfold pushCells
  by_cases hk:(k==NameKind.cell)=J
  ·rw[if_pos hk]at e ⊢;have e':=e;rw[show h.objs.size+1=(h.push {cls:=.type "cell",data:=.cell U}).objs.size from(RL ..).symm]at e'
   rcases F5 r _ _ e' with q|⟨a,q⟩
   ·rw[RX]at q;cases hx:x==y with
    |true =>
     rw[hx]at q;have e3:h.objs.size=c:=R4 q;subst e3;exact .inr ⟨x6 _,_,WO _ _ _ _ (Q4 _ rfl),rfl⟩
    |false=>rw[hx]at q;exact .inl q
   ·refine .inr ⟨?_,q⟩;rw[RL]at a;omega
  ·rw[if_neg hk]at e ⊢;exact F5 r h acc e
theorem agR{E:Δ->Ψ->Prop}{s:Ψ}{scope:R5}{cl:List (Str×L)}{qual:Str}{env:Env}{Q:Env->Ψ->Prop}(hQ:∀h',(∀b o,s.heap.get? b=O o->h'.get? b=O o)->h'.Ns s.heap.objs.size (λ_=>U) ->
   (∀x c,(cellsFrom (s.heap.objs.size+1) scope.names cl).lookup x=O c->cl.lookup x=O c\/(s.heap.objs.size<c/\h'.IsCell c U)) ->
   Q {scope,locals:=s.heap.objs.size,globals,cells:=cellsFrom (s.heap.objs.size+1) scope.names cl,qual,func:=U,code:=env.code,frame:=env.frame,builtins:=env.builtins} {s with heap:=h'}):
  wpAny M A (newFunctionEnv scope globals cl [] qual U .none (O env)) Q E s:=by
 simp only[newFunctionEnv,Option.isSome_some,if_true];refine Rc (wpAny_alloc ?_);refine Rc (wpAny_layCells _ (λname kind cells=>by cases hkc:kind==NameKind.cell<;>simp[hkc]) _ _ _ _ ?_)
 rw[show({s with heap:=s.heap.push {cls:=.type "dict",data:=.dict #[]} }:Ψ).heap.objs.size=s.heap.objs.size+1 from RL ..]
 refine Rc (ZA (ZA ?_));refine hQ _ (λb o e=>WO _ _ b o (J' _ e)) ((Heap.Ns.new s.heap (.type "dict")).keeps (WO _ _)) λx c e=>?_
 have e':=e;rw[show s.heap.objs.size+1=(s.heap.push {cls:=.type "dict",data:=.dict #[]}).objs.size from(RL ..).symm]at e'
 rcases F5 scope.names (s.heap.push {cls:=.type "dict",data:=.dict #[]}) cl e' with q|⟨a,q⟩
 ·exact .inl q
 ·refine .inr ⟨?_,q⟩;rw[RL]at a;omega
theorem yz{env:Env}:∀{names:List (Str×RJ)},(names.map fun(n,k)=>if(k==NameKind.free&&env.scope.kind == .function&&env.kindOf n==O .cell)then(n,NameKind.cell)else(n,k)).lookup x=O k' ->
  ∃k,names.lookup x=O k/\(k'=k\/(k=.free/\k'=.cell))
 |[],h=>by cases h
 |(n,k)::r,h=>by
  rw[Q8]at h
  by_cases hc:(k==NameKind.free&&env.scope.kind == .function&&env.kindOf n==O .cell)=J
  ·have e:(match((n,k))with|(n,k)=>if(k==NameKind.free&&env.scope.kind == .function&&env.kindOf n==O .cell)then _ else(n,k))=(n,NameKind.cell):=if_pos hc
   rw[e,RX]at h;rw[RX];cases hx:x==n with
   |true =>
    rw[hx]at h;have hk:k=.free:=by
     simp at hc
     simpa using hc.1.1
    exact⟨k,rfl,.inr ⟨hk,(R4 h).symm⟩⟩
   |false=>rw[hx]at h;exact yz h
  ·have e:(match((n,k))with|(n,k)=>if(k==NameKind.free&&env.scope.kind == .function&&env.kindOf n==O .cell)then(n,NameKind.cell)else _)=(n,k):=if_neg hc
   rw[e,RX]at h;rw[RX];cases hx:x==n with
   |true=>rw[hx]at h;exact⟨k,rfl,.inl (R4 h).symm⟩
   |false=>rw[hx]at h;exact yz h
theorem C2{env:Env}:∀{names:List (Str×RJ)},names.lookup x=O k ->
  ∃k',(names.map fun(n,k)=>if(k==NameKind.free&&env.scope.kind == .function&&env.kindOf n==O .cell)then(n,NameKind.cell)else(n,k)).lookup x=O k'/\(k'=k\/(k=.free/\k'=.cell))
 |[],h=>by cases h
 |(n,j)::r,h=>by
  rw[Q8];rw[RX]at h
  by_cases hc:(j==NameKind.free&&env.scope.kind == .function&&env.kindOf n==O .cell)=J
  ·have e:(match((n,j))with|(n,k)=>if(k==NameKind.free&&env.scope.kind == .function&&env.kindOf n==O .cell)then _ else(n,k))=(n,NameKind.cell):=if_pos hc
   rw[e,RX];cases hx:x==n with
   |true =>
    rw[hx]at h;have hk:j=.free:=by
     simp at hc
     simpa using hc.1.1
    exact⟨.cell,rfl,.inr ⟨(R4 h).symm.trans hk,rfl⟩⟩
   |false=>rw[hx]at h;exact C2 h
  ·have e:(match((n,j))with|(n,k)=>if(k==NameKind.free&&env.scope.kind == .function&&env.kindOf n==O .cell)then(n,NameKind.cell)else _)=(n,j):=if_neg hc
   rw[e,RX];cases hx:x==n with
   |true=>rw[hx]at h;exact⟨j,rfl,.inl (R4 h)⟩
   |false=>rw[hx]at h;exact C2 h
theorem D4:∀{names:List (Str×RJ)},(names.map (·.1)).Nodup->(x,k)∈names->names.lookup x=O k
 |[],_,h=>by cases h
 |(n,j)::r,nd,h=>by
  obtain⟨n1,n2⟩:=S0.mp nd;rw[RX]
  rcases Bt.mp h with e|h2
  ·cases e;simp
  ·have hx:(x==n)=ξ:=by
    have:x≠n:=by
     intro e;exact n1 (AP.mpr ⟨_,h2,e⟩)
    simpa using this
   rw[hx];exact D4 n2 h2
theorem adq{prog:ν}{R:Result->Ψ->Prop}{elt target iter:μ}{ifs:List μ}{scope:R5}{pos:Pos}{env:Env}(I:Nat->Ψ->Prop)(turn:∀n s,I n s->wpAny (model prog w) A (pyNext it) (λr s₁=>match r with
   |none=>R (.ok .next) s₁
   |some v=>wpAny (model prog w) A (letOwnedTupleGo target it v) (λ_ s₁'=>wpAny (model prog w) A (assign target env v) (λ_ s₂ =>
     wpAny (model prog w) A (forIn ifs J λc r=>if r=J then do let ok <-isTrue c env (eval c env);pure (ForInStep.yield ok)else pure (ForInStep.yield r)) (λok s₃ =>
      if ok=J then wpAny (model prog w) A (eval elt env) (λx s₄ =>
       wpAny (model prog w) A (call (.builtin "list.append") [acc,x]) (λ_ s₅=>∃m,m<n/\I m s₅) (λ_ _=>False) s₄) (λ_ _=>False) s₃
      else ∃m,m<n/\I m s₃) (λ_ _=>False) s₂) (λ_ _=>False) s₁') (λ_ _=>False) s₁) (λ_ _=>False) s)(n:Nat)(h:I n s):
  codeAny (model prog w) A (.compLoop (.ListComp elt [⟨target,iter,ifs,0⟩] scope pos) 0 it acc env) R s:=by
 refine codeAny_loop rfl I (λn s hI=>?_) n h
 refine wpAny_noted ?_;rw[compTurn_list];refine Rc (WI (Rc (RQ (turn n s hI) (λr s₁ h₁=>?_) λ_ _ h'=>h'.elim)))
 cases r with
 |none=>exact ZA h₁
 |some v =>
  refine Rc (RQ h₁ (λ_ s₁' h₁'=>?_) λ_ _ h'=>h'.elim)
  refine Rc (RQ h₁' (λ_ s₂ h₂=>Rc (RQ h₂ (λok s₃ h₃=>?_) λ_ _ h'=>h'.elim)) λ_ _ h'=>h'.elim)
  cases ok with
  |false=>exact ZA ⟨rfl,h₃⟩
  |true =>
   exact Rc (Rc (RQ h₃ (λx s₄ h₄=>Rc (RQ h₄ (λ_ s₅ h₅=>ZA (ZA ⟨rfl,h₅⟩)) λ_ _ h'=>h'.elim)) λ_ _ h'=>h'.elim))
section
variable {X:Cx}{N':List Str}{pick:List (Option Nat)}{scope:R5}{pins:List (L×Obj)}{Z:St}{H₂:Hp}{s₂:Ψ}{tg:μ}{Γ:It}{fp:List L}{it:L}{tn:Nat->υ->Prop}
theorem Qg(S:cH X N' pick scope)(I:Inv X pins Z H₂ s₂):closureFor scope X.env=pure (gT X.env scope.names []):=by
 have e:=BH (env:=X.env) scope.names [] λx hx hk=>I.ok.has x.1 (S.free x hx hk)
 show((forIn scope.names ([]:List (Str×L)) fun(x:Str×RJ) cs=>(if(x.2==NameKind.free)=J then do let a <-cellOf X.env x.1;pure (ForInStep.yield ((x.1,a)::cs))else pure (ForInStep.yield cs):Sem (ForInStep (List (Str×L))))) >>= λcs=>pure cs)=_
 rw[e,pure_bind]
theorem wX(S:cH X N' pick scope)(I:Inv X pins Z H₂ s₂)(h:(gT X.env scope.names []).lookup x=O c):(x,NameKind.free)∈scope.names/\X.env.cells.lookup x=O c:=by
 rcases Gx _ _ h with⟨a,b⟩|q
 ·refine⟨a,?_⟩;obtain⟨c',hc⟩:=I.ok.has x (S.free _ a rfl);rw[hc]at b ⊢;rw[b];rfl
 ·cases q
theorem wW(S:cH X N' pick scope)(I:Inv X pins Z H₂ s₂)(h:(cellsFrom n scope.names (gT X.env scope.names [])).lookup x=O c):
  (n<=c/\scope.names.lookup x=O .cell)\/(scope.names.lookup x=O .free/\X.env.cells.lookup x=O c):=by
 rcases F4 _ _ _ h with⟨a,b⟩|q
 ·exact .inl ⟨a,D4 S.uniq b⟩
 ·obtain⟨a,b⟩:=wX S I q;exact .inr ⟨D4 S.uniq a,b⟩
theorem Qh(S:cH X N' pick scope)(I:Inv X pins Z H₂ s₂)(hx:scope.names.lookup x=O .free)(hc:X.env.cells.lookup x=O c):
  (cellsFrom n scope.names (gT X.env scope.names [])).lookup x=O c:=by
 have h1:((gT X.env scope.names []).lookup x).isSome=J:=Gy _ _ (.inr (SH hx));obtain⟨c',h2⟩:=Ur.mp (Us scope.names n _ (.inr h1))
 rcases wW S I h2 with⟨_,z⟩|⟨_,z⟩
 ·rw[hx]at z;cases z
 ·rw[hc]at z;cases z;exact h2
theorem abW(I:Inv X pins Z H₂ s₂)(hb:b∈frs X.stack):b<s₂.heap.objs.size:=by
 rcases Bt.mp (I.nM b hb)with e|hb
 ·rw[e];exact I.lt
 ·by_cases q:b<s₂.heap.objs.size
  ·exact q
  ·exact absurd hb (I.DB (Nat.not_lt.mp q))
theorem adn(S:cH X N' pick scope)(I:Inv X pins Z H₂ s₂)(hf:∀b∈fp,eN X pins H₂ b)(hfo:∀b∈fp,b<s₂.heap.objs.size){s₄:Ψ}(hn:s₂.heap.objs.size<=n)(hC:s₂.heap.objs.size<=C)(hCn:C<n)(hos:s₄.os=s₂.os)(hge:s₄.gens=s₂.gens)(kp:∀b o,s₂.heap.get? b=O o->s₄.heap.get? b=O o)(ns:s₄.heap.Ns C λ_=>U)(ce:∀x c,(cellsFrom n scope.names (gT X.env scope.names [])).lookup x=O c->(gT X.env scope.names []).lookup x=O c\/(n<=c/\s₄.heap.IsCell c U)):
  Inv (fO X N' scope (cellsFrom n scope.names (gT X.env scope.names [])) C s₂ H₂ fp (X.pn++pins)) [] (mE pick Z) H₂ s₄:=by
 have fr:∀{a:L},s₂.heap.objs.size<=a->H₂ a=U:=λh=>I.hok.fresh h
 have old:∀{x:Str}{c:L},X.env.cells.lookup x=O c->c<s₂.heap.objs.size:=fun{x c} e=>let⟨v,z⟩:=I.cell x c e;z.lt
 have akx:∀p∈X.pn++pins,p.1<s₂.heap.objs.size:=λp hp=>I8 (I.pin p hp).1
 refine⟨⟨I.ok.mod,S.kind,I.ok.glob,I.ok.blt,hC,?inj,?has,?nt,I.ok.hd,I.ok.frames,.inl rfl,?wJ,I.bs,R9 I.ok.i9 I.sz,?mT,?tQ,I.stack,I.ym⟩,
  hos,by rw[hge];exact I.bare,Un.kept kp,⟨_,ns,?loc⟩,?cell,fr hC,?jj,?pin,I.hok.kept kp,?len⟩
 case inj =>
  refine F3 _ _ _ (λx y c h1 h2=>?_) λx c h=>?_
  ·exact I.ok.inj x y c (wX S I h1).2 (wX S I h2).2
  ·exact P7 (old (wX S I h).2) hn
 case has =>
  intro x hx;have hx:(relabel scope X.env).names.lookup x=O .cell\/(relabel scope X.env).names.lookup x=O .free:=hx;have go:∀k,scope.names.lookup x=O k->k=.cell\/k=.free->∃c,(cellsFrom n scope.names (gT X.env scope.names [])).lookup x=O c:=λk hk hq=>by
   rcases hq with rfl|rfl
   ·exact Ur.mp (Us _ _ _ (.inl hk))
   ·obtain⟨c,hc⟩:=I.ok.has x (S.free _ (SH hk) rfl);exact⟨c,Qh S I hk hc⟩
  rcases hx with hx|hx
  ·obtain⟨k,hk,e|⟨e,_⟩⟩:=yz hx
   ·exact go k hk (.inl e.symm)
   ·exact go k hk (.inr e)
  ·obtain⟨k,hk,e|⟨_,e⟩⟩:=yz hx
   ·exact go k hk (.inr e.symm)
   ·cases e
 case nt =>
  intro x c hx hc;have hx:scope.names.lookup x=O .cell:=by simpa[fO]using hx
  rcases wW S I hc with⟨a,_⟩|⟨a,_⟩
  ·exact R9 hn a
  ·rw[hx]at a;cases a
 case wJ =>
  intro b hb;refine⟨K1 (P7 (hfo b hb) hC),λx c hc=>?_⟩
  rcases wW S I hc with⟨a,_⟩|⟨_,a⟩
  ·exact Rn (P7 (hfo b hb) (R9 hn a))
  ·exact(hf b hb).2.2.2.2.1 x c a
 case mT =>
  intro b o e hb
  rcases(hf b hb).2.2.2.1 with z|z
  ·exact I.ok.mT b o e z
  ·exact absurd (P7 (I8 e) (R9 I.ok.i9 z)) (RS _)
 case tQ =>
  intro b hb hs
  rcases Bt.mp (I.nM b hs)with e|e
  ·exact(hf b hb).2.1 e
  ·exact(hf b hb).2.2.1 e
 case loc =>
  intro i x v h1 h2 h3;have h1:N'[i]? = O x:=h1;have hp:∃j,pick[i]? = O (O j)/\Z[j]? = O (O v):=by
   unfold mE at h2;rw[RB]at h2;cases e:pick[i]? with
   |none=>rw[e]at h2;cases h2
   |some o =>
    rw[e]at h2;cases o with
    |none=>cases h2
    |some j =>
     refine⟨j,rfl,?_⟩;have h2':(Z[j]?).bind id=O v:=R4 h2;cases e2:Z[j]? with
     |none=>rw[e2]at h2';cases h2'
     |some q=>rw[e2]at h2';exact congrArg O h2'
  obtain⟨j,hj,hv⟩:=hp;obtain⟨hfr,hN⟩:=S.got i j x hj h1;have hk:=S.free _ (SH hfr) rfl;obtain⟨m,hm,hl⟩:=I.loc;obtain⟨u,ru,lk⟩:=hl j x v hN hv (.inr hk);refine⟨u,ru,?_⟩
  rcases lk with⟨z,_⟩|⟨_,c,hc,hcell⟩
  ·rcases hk with q|q<;>(rw[show X.env.kindOf x=_ from z]at q;cases q)
  ·refine .inr ⟨?_,c,Qh S I hfr hc,hcell.keeps kp⟩;show(relabel scope X.env).names.lookup x=O .cell\/(relabel scope X.env).names.lookup x=O .free;obtain⟨k',hk',e|⟨_,e⟩⟩:=C2 hfr
   ·exact .inr (by rw[<-e];exact hk')
   ·exact .inl (by rw[<-e];exact hk')
 case cell =>
  intro x c hc
  rcases ce x c hc with z|⟨_,z⟩
  ·obtain⟨v,q⟩:=I.cell x c (wX S I z).2;exact⟨v,q.keeps kp⟩
  ·exact⟨U,z⟩
 case jj =>
  intro x c hc
  rcases wW S I hc with⟨a,_⟩|⟨_,a⟩
  ·exact fr (R9 hn a)
  ·exact I.jj x c a
 case pin =>
  intro p hp;have hp:p∈X.pn++pins:=by simpa[fO]using hp
  obtain⟨e,n0,ne,nf,d⟩:=I.pin p hp;refine⟨kp _ _ e,n0,K1 (P7 (akx p hp) hC),λz=>?_,d⟩
  rcases Bt.mp (I.nM _ z)with e|e
  ·exact ne e
  ·exact nf e
 case len =>
  unfold mE;rw[P0];exact S.len
end
section
variable {X:Cx}{N':List Str}{pick:List (Option Nat)}{scope:R5}{pins:List (L×Obj)}{Z:St}{H₂:Hp}{s₂:Ψ}{tg:μ}{Γ:It}{fp:List L}{it:L}{tn:Nat->υ->Prop}
 {elt iter:μ}{ifs:List μ}{pos:Pos}{g:TG}{tt:TT}{te:TE}
theorem PX{E:Δ->Ψ->Prop}{RR:Δ->L->Result->Ψ->Prop}{Qv:V->Hp->Prop}(S:cH X N' pick scope)(hc:X.calm=J)(jP:Inv X pins Z H₂ s₂)(T:Turn X.prog X.w X.K tg Γ fp it tn)(st:tn 0 s₂.heap)(hf:∀b∈fp,eN X pins H₂ b)(hg:∀cl C s₀ H₀ ex pn,PG (fO X N' scope cl C s₀ H₀ ex pn) tg g)(hi:∀cl C s₀ H₀ ex pn,qM (fO X N' scope cl C s₀ H₀ ex pn) ifs tt)(he:∀cl C s₀ H₀ ex pn,PE (fO X N' scope cl C s₀ H₀ ex pn) elt te){W:Nat->Nat->St->List V->Hp->Prop}(h0:W 0 m0 (mE pick Z) [] H₂)(turn:∀i m σ' ys H,W i m σ' ys H->ys.length<Ω /\
      ((Γ.stop i H/\∀p,H p=U->Qv (.ref p) (upd H p (.lst ys))) \/
       (Γ.go i H/\∃N:St->List V->Hp->Prop,(∀σ2 zs H2,N σ2 zs H2->∃m',m'<m/\W (i+1) m' σ2 zs H2)/\∀x H',Γ.qX i H x H'->g x σ' H' λσ2 H2=>tt σ2 H2 λb H3 =>
          if b=J then te σ2 H3 λy H4=>N σ2 (ys++[y]) H4 else N σ2 ys H3)))(fin:∀(D C:L) (H':Hp) (s':Ψ) (m:Str->Option Δ),Inv X pins Z H' s'->eN X pins H' C->s'.heap.Ns C m->Qv (.ref D) H'->RR (.ref D) C (.ok .next) s'):
    wpAny (model X.prog X.w) X.A (newList []) (λacc s₃=>wpAny (model X.prog X.w) X.A (newFunctionEnv scope X.env.globals (gT X.env scope.names []) [] X.env.qual U .none (O X.env)) (λcenv s₄ =>
      codeAny (model X.prog X.w) X.A (.compStart (.ListComp elt [⟨tg,iter,ifs,0⟩] scope pos) 0 (.ref it) acc {cenv with scope:=relabel scope X.env}) (RR acc cenv.locals) s₄) E s₃) E s₂:=by
  have hfo:∀b∈fp,b<s₂.heap.objs.size:=λb hb=>let⟨o,e,_⟩:=T.obj 0 _ st b hb;I8 e
  refine Uo (agR λh₄ kp ns ce=>?_)
  generalize E4:s₂.heap.push {cls:=.type "list",dict:=U,data:=.seq ([]:List Δ).toArray}=H3 at kp ns ce ⊢
  have hC:H3.objs.size=s₂.heap.objs.size+1:=by rw[<-E4,RL]
  have sS:∀b o,s₂.heap.get? b=O o->h₄.get? b=O o:=λb o e=>kp b o (E4▸J' _ e)
  have hD:h₄.get? s₂.heap.objs.size=O {cls:=.type "list",data:=.seq ([]:List Δ).toArray}:=kp _ _ (E4▸Q4 _ rfl);have oR:s₂.heap.objs.size<=H3.objs.size:=by rw[hC];exact TR _
  have hDC:s₂.heap.objs.size≠H3.objs.size:=by rw[hC];exact K1 (Rt _)
  generalize hcl:cellsFrom (H3.objs.size+1) scope.names (gT X.env scope.names [])=cl at ce
  have HL:Inv (fO X N' scope cl H3.objs.size s₂ H₂ fp (X.pn++pins)) [] (mE pick Z) H₂ {s₂ with heap:=h₄}:=by
    subst hcl;exact adn S jP hf hfo (n:=H3.objs.size+1) (R9 oR (TR _)) oR (Rt _) rfl rfl sS ns λx c e=>ce x c e
  have ET:∀x c,cl.lookup x=O c->c≠s₂.heap.objs.size:=λx c e=>by
    subst hcl
    rcases wW S jP e with⟨a,_⟩|⟨_,a⟩
    · refine Rn (P7 ?_ a)
      rw[hC];exact Rp (Rt _)
    · obtain⟨v,z⟩:=jP.cell x c a
      exact K1 z.lt
  have aa6:∀x c,X.env.cells.lookup x=O c->c≠H3.objs.size:=λx c e=>by
    obtain⟨v,z⟩:=jP.cell x c e;exact K1 (P7 z.lt oR)
  generalize ic:fO X N' scope cl H3.objs.size s₂ H₂ fp (X.pn++pins)=X' at HL
  have xQ:X'.prog=X.prog:=by subst ic;rfl
  have xw:X'.w=X.w:=by subst ic;rfl
  have xK:X'.K=X.K:=by subst ic;rfl
  have xA:X'.A=X.A:=by subst ic;rfl
  have Ia:X'.calm=J:=by subst ic;exact hc
  have xR:X'.env.locals=H3.objs.size:=by subst ic;rfl
  have ahj:X'.env.cells=cl:=by subst ic;rfl
  have ahk:X'.env=compEnvC scope cl H3.objs.size X.env:=by subst ic;rfl
  have Cg:X'.fs=frs X.stack:=by subst ic;rfl
  have Ci:X'.ex=fp:=by subst ic;rfl
  have Cf:X'.s₀=s₂:=by subst ic;rfl
  have HZ:X'.pn=X.pn++pins:=by subst ic;rfl
  have ahd:X'.xe=λ_ _=>False:=by subst ic;rfl
  have ahv:X'.H₀=H₂:=by subst ic;rfl
  have hg':PG X' tg g:=by subst ic;exact hg _ _ _ _ _ _
  have hi':qM X' ifs tt:=by subst ic;exact hi _ _ _ _ _ _
  have he':PE X' elt te:=by subst ic;exact he _ _ _ _ _ _
  have pT:∀{H':Hp}{pl:List (L×Obj)},(∀b∈fp,H' b=U)->(∀p∈pl,s₂.heap.objs.size<=p.1)->∀b∈fp,eN X' pl H' b:=fun{H' pl} hn hp b hb=>by
    have hlt:=hfo b hb;obtain⟨_,f1,f2,f3,f4,f5⟩:=hf b hb;refine⟨hn b hb,by rw[xR];exact K1 (P7 hlt oR),?_,.inl (by rw[Ci];exact hb),λx c e=>?_,λp qu=>?_⟩
    · rw[Cg]
      intro z
      rcases Bt.mp (jP.nM b z)with e|e
      · exact f1 e
      · exact f2 e
    · have:=HL.ok.wJ b (by rw[Ci];exact hb)
      exact this.2 x c e
    · rcases RI.mp qu with z|z
      · rw[HZ]at z;exact f5 p z
      · exact Rn (P7 hlt (hp p z))
  have Le:∀{H':Hp}{s':Ψ}{σ':St}{o:Obj},Inv X' [] σ' H' s'->s'.heap.get? s₂.heap.objs.size=O o->H' s₂.heap.objs.size=U->(∀v,o.data≠.cell v)->Inv X' [(s₂.heap.objs.size,o)] σ' H' s':=fun{H' s' σ' o} I e hn hnc =>
    I.uU λp hp=>by
      obtain rfl:p=(s₂.heap.objs.size,o):=by simpa using hp
      refine⟨e,hn,by rw[xR];exact hDC,?_,hnc⟩
      rw[Cg];intro z;exact absurd (abW jP z) (RS _)
  have BO:H₂ s₂.heap.objs.size=U:=jP.hok.fresh (x6 _)
  let agA:Nat->Ψ->Prop:=λn s'=>∃(i:Nat) (σ':St) (ys:List V) (H':Hp) (its:List Δ) (k:Nat),Inv X' [(s₂.heap.objs.size,{cls:=.type "list",data:=.seq its.toArray k})] σ' H' s'/\Vals ys its/\tn i s'.heap/\(∀b∈fp,H' b=U)/\W i n σ' ys H'
  have loop:codeAny (model X.prog X.w) X.A (.compLoop (.ListComp elt [⟨tg,iter,ifs,0⟩] scope pos) 0 (.ref it) (.ref s₂.heap.objs.size) X'.env) (RR (.ref s₂.heap.objs.size) H3.objs.size) {s₂ with heap:=h₄}:=by
    refine adq agA ?_ m0 ⟨0,_,[],H₂,[],_,Le HL hD BO (λv q=>nomatch q),.nil,T.keep _ _ _ st λb _ o e=>sS b o e,λb hb=>(hf b hb).1,h0⟩
    rintro n s5 ⟨i,xP,ys,H5,its,k,I5,rv,pV,zS,w5⟩
    obtain⟨hlen,tr⟩:=turn i n xP ys H5 w5;have p5:∀{o:Obj},∀p∈[(s₂.heap.objs.size,o)],s₂.heap.objs.size<=p.1:=fun{o} p hp=>by
      obtain rfl:p=(s₂.heap.objs.size,o):=by simpa using hp
      exact x6 _
    rw[<-xA]
    rcases tr with⟨stop,qf⟩|⟨go,N,hN,step⟩
    · have dn:=T.done X' xQ xw xK Ia i _ s5 xP H5 (λ_ _=>False) I5 (pT zS p5) pV stop
      rw[xA]at dn ⊢;refine RQ dn (λr s6 h6=>?_) λ_ _ z=>z
      obtain⟨rfl,I6⟩:=h6;show RR (.ref s₂.heap.objs.size) H3.objs.size (.ok .next) s6;obtain⟨eD,nD,_⟩:=I6.pin _ (RP _ Rf);have pO:Un (frs X.stack) fp H₂ H5 s₂.heap s6.heap:=by
        have:=I6.base;rw[Cg,Ci,Cf,ahv]at this;exact this
      have lt:∀{b:L}{o:Obj},s₂.heap.get? b=O o->b≠s₂.heap.objs.size:=λe=>K1 (I8 e)
      have aha:Un (frs X.stack) fp H₂ (upd H5 s₂.heap.objs.size (.lst ys)) s₂.heap s6.heap :=
        ⟨pO.keep,pO.slot,λb o e n hx=>by rw[bD (lt e)];exact pO.free b o e n hx,pO.there,λb xs e=>by rw[bD (dz e BO)];exact pO.tups b xs e,
          λb o u e=>by rw[bD (dz e BO)];exact pO.jD b o u e,λb ps e=>by rw[bD (dz e BO)];exact pO.jX b ps e⟩
      have aaI:cT X.prog X.w (upd H5 s₂.heap.objs.size (.lst ys)) s6.heap:=λb u e=>by
        by_cases hb:b=s₂.heap.objs.size
        · subst hb
          rw[eS]at e;cases e;exact⟨Sv hlen,its,k,rv,eD⟩
        · rw[bD hb]at e
          have:=I6.hok b u e;rw[xQ,xw]at this;exact this.stay (λ_ _ _ q=>q) (λc q=>by rw[bD (dz q nD)];exact q) λc xs q=>by rw[bD (dz q nD)];exact q
      have I7:Inv X pins Z (upd H5 s₂.heap.objs.size (.lst ys)) s6:=by
        refine jP.F9 (ch:=fp) ?_ aha aaI I6.bare λb hb=>?_
        · have:=I6.os;rw[Cf]at this;exact this
        · obtain⟨_,f1,f2,f3,f4,f5⟩:=hf b hb
          exact⟨f3,f1,f4,f5⟩
      obtain⟨m6,n6,_⟩:=I6.loc;rw[xR]at n6;have hC6:H5 H3.objs.size=U:=by have:=I6.free;rw[xR]at this;exact this
      refine fin _ _ _ s6 m6 I7 ⟨by rw[bD (Rr hDC)];exact hC6,?_,?_,.inr (R9 jP.sz oR),aa6,λp hp=>?_⟩ n6 (qf _ nD)
      · exact Rn (P7 jP.lt oR)
      · intro z
        exact absurd z (jP.DB oR)
      · exact K1 (P7 (I8 (jP.pin p hp).1) oR)
    · have itm:=T.item X' xQ xw xK Ia i _ s5 xP H5 (λ_ _=>False) I5 (pT zS p5) pV go
      refine RQ itm (λr s6 h6=>?_) λ_ _ z=>z
      obtain⟨u,rfl,h6⟩:=h6;refine RQ h6 (λ_ s7 h7=>?_) λ_ _ z=>z
      obtain⟨x,H7,I7,rx,y7,CH,fr7⟩:=h7;have I7':=I7.pinned (pT fr7 p5) (T.obj _ _ CH);have mp:∀{α:Type}{t:Sem α}{Q:α->Ψ->Prop}{s:Ψ},wpAny (model X'.prog X'.w) X'.A t Q X'.xe s->wpAny (model X.prog X.w) X'.A t Q (λ_ _=>False) s:=fun{α t Q s} h=>by
        rw[xQ,xw,ahd]at h;exact h
      refine RQ (mp (hg' _ s7 xP H7 x u _ I7' rx (step x H7 y7))) (λ_ s8 h8=>?_) λ_ _ z=>z
      obtain⟨uc,agy,agz,q8⟩:=h8;refine RQ (mp (hi' _ s8 uc agy _ agz q8)) (λok s9 h9=>?_) λ_ _ z=>z
      obtain⟨H9,I9,q9⟩:=h9;have Nu:∀{σ':St}{H':Hp}{s':Ψ},Inv X' ([(s₂.heap.objs.size,{cls:=.type "list",data:=.seq its.toArray k})]++uV fp s7.heap) σ' H' s'->tn (i+1) s'.heap/\∀b∈fp,H' b=U:=fun{σ' H' s'} I=>by
        refine⟨T.keep _ _ _ CH λb hb o e=>(I.pin (b,o) (RP _ (RP _ (zk hb e)))).1,λb hb=>?_⟩
        obtain⟨o,e,d⟩:=T.obj _ _ CH b hb;exact(I.pin (b,o) (RP _ (RP _ (zk hb e)))).2.1
      cases ok with
      | false =>
        rw[if_neg RH]at q9 ⊢;obtain⟨m',hm,w9⟩:=hN _ _ _ q9;obtain⟨t9,f9⟩:=Nu I9;exact⟨m',hm,i+1,uc,ys,H9,its,k,I9.pN,rv,t9,f9,w9⟩
      | true =>
        rw[if_pos rfl]at q9 ⊢;refine RQ (mp (he' _ s9 uc H9 _ I9 q9)) (λv uO h10=>?_) λ_ _ z=>z
        obtain⟨y,QZ,QY,ry,YH⟩:=h10;obtain⟨m',hm,ag5⟩:=hN _ _ _ YH;obtain⟨ahJ,f10⟩:=Nu QY;have QX:=QY.pN;obtain⟨eD,nD,cz,nfD,agu⟩:=QX.pin _ (RP _ Rf);have hl:=rv.length;refine Td F.slot_list_append ⟨_,eD,rfl⟩ F.entry_list_append (F.args_list_append_2 _ _) (Xs s₂.heap.objs.size its.toArray k v (by rw[Q3];omega)) ⟨eD,?_⟩
        have q:=Xu eD (·.push v);have I11:Inv X' [] uc QZ {uO with heap:=uO.heap.update s₂.heap.objs.size (Obj.mapSeq (·.push v))}:=by
          refine(QX.uU (C7:=[]) λp hp=>by cases hp).turned (t':=uO.toks) (it:=s₂.heap.objs.size) (λb o hb e=>(SR uO.heap (Obj.mapSeq (·.push v)) (Rr hb)).trans e) nD cz (.inr (by rw[Cf];exact x6 _)) (λx c hc=>ET x c (by rw[<-ahj];exact hc)) λp hp=>?_
          have hp:p∈X.pn++pins:=by rw[SI,HZ]at hp;exact hp
          exact K1 (I8 (jP.pin p hp).1)
        rw[show its.toArray.push v=(its++[v]).toArray by simp]at q
        refine⟨m',hm,i+1,uc,ys++[y],QZ,its++[v],_,Le I11 q nD (λv q=>nomatch q),rv.append (.cons ry .nil),?_,f10,ag5⟩
        refine T.keep _ _ _ ahJ λb hb o e=>(SR uO.heap (Obj.mapSeq (·.push v)) ?_).trans e
        exact Rn (hfo b hb)
  have e4:({scope:=relabel scope X.env,locals:=H3.objs.size,globals:=X.env.globals,cells:=cl,qual:=X.env.qual,func:=U,code:=X.env.code,frame:=X.env.frame,builtins:=X.env.builtins}:Env)=X'.env:=by rw[ahk];rfl
  have Ju:tn 0 h₄:=T.keep _ _ _ st λb _ o e=>sS b o e
  have goal:codeAny (model X.prog X.w) X.A (.compStart (.ListComp elt [⟨tg,iter,ifs,0⟩] scope pos) 0 (.ref it) (.ref s₂.heap.objs.size) X'.env) (RR (.ref s₂.heap.objs.size) H3.objs.size) {s₂ with heap:=h₄} :=
    codeAny_compStart_list loop (T.self _ 0 _ _ _ Ju loop)
  rw[<-e4]at goal;exact goal
theorem Inv.gone(I:Inv X pins Z H' s')(f:eN X pins H' C)(hs:Sz C s'.heap h'):Inv X pins Z H' {s' with heap:=h'}:=by
 obtain⟨f0,f1,f2,f3,f4,f5⟩:=f;exact I.turned (λb o hb e=>(hs.2 b hb).trans e) f0 f1 f3 f4 f5
theorem alm(S:cH X N' pick scope)(hc:X.calm=J)(hit:PI X tg iter wi)(hg:∀cl C s₀ H₀ ex pn,PG (fO X N' scope cl C s₀ H₀ ex pn) tg g)(hi:∀cl C s₀ H₀ ex pn,qM (fO X N' scope cl C s₀ H₀ ex pn) ifs tt)(he:∀cl C s₀ H₀ ex pn,PE (fO X N' scope cl C s₀ H₀ ex pn) elt te)(hs:∀x,foldedSetIterable iter X.env x=pure x:=by intro _;rfl):
  PE X (.ListComp elt [⟨tg,iter,ifs,0⟩] scope pos) (CD wi pick g tt te):=by
 intro pins s Z H Q I h;rw[eval_ListComp];refine Xp rfl hs (Qg S I) S.kind S.names (bg (hit pins s Z H _ I h) λv s1 h1=>bg h1 λitv s2 h2=>?_)
 obtain⟨it,fp,tn,Γ,H2,rfl,I2,T,st2,f2,W,⟨m0,w0⟩,turn⟩:=h2;refine PX S hc I2 T st2 f2 hg hi he w0 turn ?_;intro D C H' s' m I' f' n' q';exact⟨m,n',λh' hs'=>⟨.ref D,H',I'.gone f' hs',rfl,q'⟩⟩
def ahB(i:Nat)(t:TE):TS:=λD Z H=>t Z H λv H1=>D.nx (Z.set i (O v)) H1
theorem ajF{spos:Pos}(hsw:swapsWith (.ListComp elt [⟨tg,iter,ifs,0⟩] scope pos) (O (.Name y py)) spos.line X.env=pure J)(hN:X.N.Nodup)(hy:X.N[i]? = O y)(hl:X.env.scope.names.lookup y=O .local)(S:cH X N' pick scope)(hc:X.calm=J)(hit:PI X tg iter wi)(hg:∀cl C s₀ H₀ ex pn,PG (fO X N' scope cl C s₀ H₀ ex pn) tg g)(hi:∀cl C s₀ H₀ ex pn,qM (fO X N' scope cl C s₀ H₀ ex pn) ifs tt)(he:∀cl C s₀ H₀ ex pn,PE (fO X N' scope cl C s₀ H₀ ex pn) elt te)(hs:∀x,foldedSetIterable iter X.env x=pure x:=by intro _;rfl):
  PS X (.Assign [.Name y py] (.ListComp elt [⟨tg,iter,ifs,0⟩] scope pos) spos) (ahB i (CD wi pick g tt te)):=by
 intro pins s Z H D I h;rw[exec_Assign_Name_used _ _ _ _ hsw];refine Rc (WI (Rc ?_));refine Rc (RQ (Xp rfl hs (Qg S I) S.kind S.names
  (bg (hit pins s Z H _ I h) λv s1 h1=>bg h1 λitv s2 h2=>?_)) (λ_ s' hq=>ZA (ZA hq)) λ_ _ e=>e)
 obtain⟨it,fp,tn,Γ,H2,rfl,I2,T,st2,f2,W,⟨m0,w0⟩,turn⟩:=h2;refine PX (Qv:=λv H1=>D.nx (Z.set i (O v)) H1) S hc I2 T st2 f2 hg hi he w0 turn ?_
 intro Da C H' s' m I' f' n' q';refine wpAny_assign_Name (Jp I' hN hy (.inl hl) (v:=.ref Da) rfl (λs'' xJ ⟨a,sb,ha⟩=>?_) (.inr hl))
 have hCa:C≠a:=by
  rcases ha with e|e
  ·rw[e];exact f'.2.1
  ·exact Rr (f'.2.2.2.2.1 _ _ e)
 exact⟨m,n'.sameBut sb hCa,λh' hs'=>⟨_,H',xJ.gone f' hs',q'⟩⟩
end
def PZ(XN:List Str)(xn:List (Str×RJ))(N':List Str)(pick:List (Option Nat))(names:List (Str×RJ)):Bool :=
 decide N'.Nodup&&names.all (λx=>decide (names.lookup x.1=O x.2))&&decide ((names.map (·.1)).Nodup)&&(pick.length==N'.length) &&
 (pick.zip N').all (λq=>match q.1 with|none=>J|some j=>decide (names.lookup q.2=O NameKind.free)&&decide (XN[j]? = O q.2)) &&
 names.all (λx=>decide (x.2≠NameKind.free)||(decide (xn.lookup x.1=O NameKind.cell)||decide (xn.lookup x.1=O NameKind.free)))
theorem cH.of{X:Cx}{pick:List (Option Nat)}{scope:R5}(hk:scope.kind=.function)(h:PZ X.N X.env.scope.names N' pick scope.names=J):cH X N' pick scope:=by
 unfold PZ at h;simp only[RT,RW,decide_eq_true_eq,beq_iff_eq,SD]at h;obtain⟨⟨⟨⟨⟨h1,h2⟩,h3⟩,h4⟩,h5⟩,h6⟩:=h;refine⟨hk,h1,λx hx e=>by rw[<-e];exact h2 x hx,h3,h4,λi j x hp hN=>?_,λx hx e=>?_⟩
 ·have hm:(O j,x)∈pick.zip N':=by
   have:(pick.zip N')[i]? = O (O j,x):=by rw[WN];exact⟨hp,hN⟩
   exact R7 this
  exact h5 _ hm |> λz=>by simpa using z
 ·rcases h6 x hx with z|z|z
  ·exact absurd e z
  ·exact .inl z
  ·exact .inr z
end L2
namespace PySem
open Sem (wp)
section
variable {prog:ν}{w:τ}{A:χ}{E:Δ->Ψ->Prop}{s:Ψ}
theorem Yt{items:Array Δ}{Q:Δ->Ψ->Prop}(hit:s.heap.IsTupleIter it l i)(hl:s.heap.IsTuple l items)(hx:items[i]? = O x)(hQ:∀h',h'.IsTupleIter it l (i+1)->Sz it s.heap h'->Q x {s with heap:=h'}):
  wpAny (model prog w) A (Builtin.SmallTypes.nextOf (.ref it)) Q E s:=by
 obtain⟨o,ho,hc,hd⟩:=id hit;obtain⟨ol,ia,_,nl,hdl⟩:=hl;refine Rc (Um hit.typeIs Ul
  (Rz Ul hit.typeIs Xo ?_ (Xn _)))
 show wpAny _ _ (field _ 0 >>= _) _ _ s;refine Rc (Uk ho hd rfl ?_);refine Rc (Uk ho hd rfl ?_);refine Rc (SA ia hdl ?_);simp only[Ss,hx];refine Rc (UC ho hd (by simp) (ZA ⟨x,rfl,ZA (hQ _ ?_ (Ry ..))⟩))
 exact⟨_,UE _ ho (WM (U5 hd _)),(WL ..).trans hc,by
  rw[U5 hd];simp[rawInt]⟩
theorem Yu{items:Array Δ}{Q:Δ->Ψ->Prop}(hh:A.handled=U)(hit:s.heap.IsTupleIter it l i)(hl:s.heap.IsTuple l items)(hx:items[i]? = U)(hE:∀h' e,Heap.ExtBut it s.heap h'->(∃o,h'.get? e=O o/\o.cls=.type "StopIteration")->E (.ref e) {s with heap:=h'}):
  wpAny (model prog w) A (Builtin.SmallTypes.nextOf (.ref it)) Q E s:=by
 obtain⟨o,ho,hc,hd⟩:=id hit;obtain⟨ol,ia,_,nl,hdl⟩:=hl;refine Rc (Um hit.typeIs Ul
  (Rz Ul hit.typeIs Xo ?_ (Xn _)))
 show wpAny _ _ (field (.ref it) 0 >>= _) _ _ s;refine Rc (Uk ho hd (x:=.ref l) rfl ?_);refine Rc (Uk ho hd rfl ?_);refine Rc (SA ia hdl ?_);simp only[Ss,hx];refine Rc (U4 (Rc (UC ho hd (by simp) ?_)))
 refine Rc ?_;refine Rc (m:=firstArgMember _ _) (TQ (a:=Value.none) (by first|rfl|(simp;rfl)) ?_)
 refine Uo ?_ (by size_fits)
 refine Rc (wpAny_handled ?_)
 first|rw[show A.in1.handled=U from hh]|rw[hh]
 refine Rc (ZA (wpAny_throw ?_));exact hE _ _ (((Ry ..).extBut.push _).push _) ⟨_,Q4 _ rfl,rfl⟩
theorem Draws.tuple{prog:ν}{A:χ}(hh:A.handled=U)(it l:L)(hne:l≠it)(items:Array Δ):
  Draws prog w A it [it,l] items.size (λi v=>items[i]? = O v) (λi h=>h.IsTupleIter it l i/\h.IsTuple l items) where
 live:=λ_ _ st=>let⟨o,ho,_⟩:=st.1;⟨o,ho⟩
 frame:=λ_ _ _ st hk=>⟨st.1.at λo e=>hk it (by simp) o e,let⟨o,e,r⟩:=st.2;⟨o,hk l (by simp) o e,r⟩⟩
 item:=λi s Q E hi st hQ=>Yt st.1 st.2 (x:=items[i]) (by simp) λh' vU hs'=>hQ _ h' s.toks (by simp) ⟨vU,let⟨o,e,r⟩:=st.2;⟨o,hs'.extBut _ _ hne e,r⟩⟩ hs'
 done:=λs Q E st hE=>Yu hh st.1 st.2 (by simp) hE
structure agt (z TI TO i1 i2:L) (f1 f2:List L):Prop where
 TIz:TI≠z
 TOz:TO≠z
 TITO:TI≠TO
 TIi1:TI≠i1
 TIi2:TI≠i2
 m1:i1∈f1
 m2:i2∈f2
 z1:z∉f1
 z2:z∉f2
 o1:TO∉f1
 o2:TO∉f2
 x1:i1∉f2
 x2:i2∉f1
open AutoSeq1 (wpAny_loadPart')
theorem Y6(l:L)(items:Array Δ)(n:Nat)(dct:Option L)(sl:Array (Option Δ)) :
  Meets (Builtin.«enumerate.__new__» ⟨[.type "enumerate",.ref l],[]⟩) (λ_ R s=>s.heap.get? l=O {cls:=.type "tuple",dict:=dct,data:=.seq items n,slots:=sl} /\
   R (.ok (.ret (.ref (s.heap.push {cls:=.type "tuple_iterator",data:=.fields #[.ref l,.int 0 0]}).objs.size)))
    {s with heap:=(s.heap.push {cls:=.type "tuple_iterator",data:=.fields #[.ref l,.int 0 0]}).push {cls:=.type "enumerate",data:=.fields #[.none,.bool ξ,.ref s.heap.objs.size,rawInt 0,.none,.none]} }) :=
 .of_wp λprog w A R s h=>by
  obtain⟨hp,g,d,tk,os⟩:=s;obtain⟨hl,h⟩:=h;have hsub:=sub_enumerate;have hL:Heap.IsTuple (Shared.heap ⟨hp,g,d,tk,os⟩) l items:=⟨_,hl,rfl,n,rfl⟩
  wp_walk using wpAny_loadPart' hl
  refine wpAny_stack_any λst=>ZA ?_
  split
  ·rename_i c _ _ _ _ _;cases(c==Value.type "enumerate")
   ·wp_walk using wpAny_loadPart' hl,UJ hL
    exact⟨_,rfl,h⟩
   ·wp_walk using wpAny_loadPart' hl,UJ hL
    exact⟨_,rfl,h⟩
  ·wp_walk using wpAny_loadPart' hl,UJ hL
   exact⟨_,rfl,h⟩
theorem adO{items:Array Δ}{Q:Δ->Ψ->Prop}(hL:s.heap.IsTuple l items)(h:∀h',IsEnum h' (s.heap.objs.size+1) s.heap.objs.size 0 .none->h'.IsTupleIter s.heap.objs.size l 0->h'.objs.size=s.heap.objs.size+2 ->
   (∀b o,s.heap.get? b=O o->h'.get? b=O o)->Q (.ref (s.heap.objs.size+1)) {s with heap:=h'}):
  wpAny (model prog w) A (call (.type "enumerate") [.ref l]) Q E s:=by
 obtain⟨⟨c,dct,dt,sl⟩,hl,hc,n,hd⟩:=hL
 replace hc:c=.type "tuple":=hc
 subst hc hd;refine callType_new F.called_enumerate ⋯ (F.typeCall_enumerate_1 _) (F.newCall_enumerate_1 _) (λobj=>F.args_object_init_2 obj _) F.entry_enumerate_new
  (Y6 l items n dct sl) ⟨hl,?_⟩
 have hz:(s.heap.push {cls:=.type "tuple_iterator",data:=.fields #[.ref l,.int 0 0]}).objs.size=s.heap.objs.size+1:=RL ..;rw[hz];have he:IsEnum ((s.heap.push {cls:=.type "tuple_iterator",data:=.fields #[.ref l,.int 0 0]}).push
   {cls:=.type "enumerate",data:=.fields #[.none,.bool ξ,.ref s.heap.objs.size,rawInt 0,.none,.none]}) (s.heap.objs.size+1) s.heap.objs.size 0 .none:=by
  have:=Q4 (s.heap.push {cls:=.type "tuple_iterator",data:=.fields #[.ref l,.int 0 0]})
   (o:={cls:=.type "enumerate",data:=.fields #[.none,.bool ξ,.ref s.heap.objs.size,rawInt 0,.none,.none]}) rfl
  rw[hz]at this;exact this
 refine⟨⟨_,he,rfl⟩,h _ he ⟨_,J' _ (Q4 _ rfl),rfl,rfl⟩ (by rw[RL,hz]) λb o x=>J' _ (J' _ x)⟩
end
end PySem
namespace L2
open PySem PySem.Spec PyProof.Rows
section
variable {X:Cx}{pins:List (L×Obj)}{Z:St}{H:Hp}{s:Ψ}{K:Ξ}
theorem abZ{xs:List V}(I:Inv X pins Z H s)(f:eN X pins H b)(q:bZ X.K H a xs):a≠b:=by
 rintro rfl
 rcases q with(q|⟨o,q⟩)|⟨o,its,n,q,_⟩
 ·rw[f.1]at q;cases q
 ·rw[f.1]at q;cases q
 ·have e:=I.ok.mod.mX a o q
  rcases f.2.2.2.1 with z|z
  ·exact I.ok.mT _ _ e z
  ·exact absurd (P7 (I8 e) (R9 I.ok.i9 z)) (RS _)
theorem ab0{xs:List V}(I:Inv X pins Z H s)(f:eN X pins H b)(q:bw X.K H a xs):a≠b:=by
 rintro rfl
 rcases q with(q|⟨o,q⟩)|⟨o,its,n,q,_⟩
 ·rw[f.1]at q;cases q
 ·rw[f.1]at q;cases q
 ·have e:=I.ok.mod.mX a o q
  rcases f.2.2.2.1 with z|z
  ·exact I.ok.mT _ _ e z
  ·exact absurd (P7 (I8 e) (R9 I.ok.i9 z)) (RS _)
theorem Inv.aaC{h':υ}{ch:List L}{T:L}{vs:List V}{us:List Δ}(I:Inv X pins Z H s)(hf:∀b∈ch,eN X pins H b)(k:∀b o,b∉ch->s.heap.get? b=O o->h'.get? b=O o)(hT:s.heap.objs.size<=T)(th:∀b∈ch,∃o,h'.get? b=O o)(rv:Vals vs us)(hz:vs.length<=Ω)(tup:ny h' T us.toArray):Inv X pins Z (upd H T (.tup vs)) {s with heap:=h',toks:=t'}:=by
 have hn:H T=U:=I.hok.fresh hT;have kJ:∀b u,H b=O u->b∉ch:=λb u e z=>by rw[(hf b z).1]at e;cases e
 refine I.step (g':=s.gens) (d':=s.drawn) (ch:=ch) (λb hb=>?_) (λb o _ _ hc e _=>k b o hc e) (λb o _ _ hc e _=>⟨o.slots,k b o hc e⟩) (λb o _ e n=>?_)
  (λb o hc e=>⟨o,k b o hc e⟩) (λb xs e=>by rw[bD (dz e hn)];exact e) (λb o u e=>by rw[bD (dz e hn)];exact e) (λb ps e=>⟨#[],by rw[bD (dz e hn),e];simp⟩) (λm hm=>?_) (λb u e=>?_) I.bare
 ·obtain⟨f0,f1,f2,f3,f4,f5⟩:=hf b hb;exact⟨f3,f1,f4,f5⟩
 ·rw[bD (K1 (P7 (I8 e) hT))];exact n
 ·obtain⟨o,es,ep,ho,r⟩:=hm;exact⟨o,es,ep,k _ o (λz=>(hf _ z).2.1 rfl) ho,r⟩
 ·by_cases hb:b=T
  ·subst hb;rw[eS]at e;cases e;exact⟨hz,us,rv,tup⟩
  ·rw[bD hb]at e;refine(I.hok b u e).stay (λc v hc q=>k c v ?_ q) (λc q=>by rw[bD (dz q hn)];exact q) λc xs q=>by rw[bD (dz q hn)];exact q
   rcases hc with z|z
   ·rw[z];exact kJ b u e
   ·exact kJ c _ z
theorem Inv.agO{h':υ}{ch:List L}(I:Inv X pins Z H s)(hf:∀b∈ch,eN X pins H b)(k:∀b o,b∉ch->s.heap.get? b=O o->h'.get? b=O o):Inv X pins Z H {s with heap:=h',toks:=t'}:=by
 have kJ:∀b u,H b=O u->b∉ch:=λb u e z=>by rw[(hf b z).1]at e;cases e
 refine I.step (ch:=ch) (λb hb=>?_) (λb o _ _ hc e _=>k b o hc e) (λb o _ _ hc e _=>⟨o.slots,k b o hc e⟩) (λb o _ e n=>n)
  (λb o hc e=>⟨o,k b o hc e⟩) (λb xs e=>e) (λb o u e=>e) (λb ps e=>⟨#[],by rw[e];simp⟩) (λm hm=>?_) (λb u e=>?_) I.bare
 ·obtain⟨f0,f1,f2,f3,f4,f5⟩:=hf b hb;exact⟨f3,f1,f4,f5⟩
 ·obtain⟨o,es,ep,ho,r⟩:=hm;exact⟨o,es,ep,k _ o (λz=>(hf _ z).2.1 rfl) ho,r⟩
 ·refine(I.hok b u e).stay (λc v hc q=>k c v ?_ q) (λc q=>q) λc xs q=>q
  rcases hc with z|z
  ·rw[z];exact kJ b u e
  ·exact kJ c _ z
end
structure HD (P:ν) (w:τ) (K:Ξ) (Sq:Hp->L->List V->Prop) (qQ:υ->L->L->Nat->Prop) (BN:υ->L->Array Δ->Prop):Prop where
 get:∀{X:Cx}{pins:List (L×Obj)}{Z:St}{H:Hp}{s:Ψ}{a:L}{xs:List V},X.K=K->Inv X pins Z H s->Sq H a xs->∃its:List Δ,Vals xs its/\BN s.heap a its.toArray/\xs.length<=Ω
 inj:∀{X:Cx}{pins:List (L×Obj)}{Z:St}{H:Hp}{s:Ψ}{a:L}{xs ys:List V},X.K=K->Inv X pins Z H s->Sq H a xs->Sq H a ys->xs=ys
 ne:∀{X:Cx}{pins:List (L×Obj)}{Z:St}{H:Hp}{s:Ψ}{a b:L}{xs:List V},X.K=K->Inv X pins Z H s->eN X pins H b->Sq H a xs->a≠b
 wK:∀(A:χ) (it l:L) (items:Array Δ),A.handled=U->l≠it->Draws P w A it [it,l] items.size (λi v=>items[i]? = O v) (λi h=>qQ h it l i/\BN h l items)
 obj:∀{h:υ}{it l:L}{i:Nat},qQ h it l i->∃o,h.get? it=O o/\∀v,o.data≠.cell v
 at':∀{h h':υ}{it l:L}{i:Nat},qQ h it l i->(∀o,h.get? it=O o->h'.get? it=O o)->qQ h' it l i
theorem aip{w:τ}{K:Ξ}:HD P w K (bZ K) (λh it l i=>h.IsTupleIter it l i) (λh a xs=>h.IsTuple a xs) where
 get:=λe I q=>by subst e;obtain⟨its,r,p,z⟩:=I.tuple q;exact⟨its,r,p,z⟩
 inj:=λe I q q'=>by subst e;exact I.IP q q'
 ne:=λe I f q=>by subst e;exact abZ I f q
 wK:=λA it l items hh hne=>Draws.tuple hh it l hne items
 obj:=λst=>by obtain⟨o,e,c,d⟩:=st;exact⟨o,e,λv z=>by rw[d]at z;cases z⟩
 at':=λst k=>st.at k
theorem aio{w:τ}{K:Ξ}:HD P w K (bw K) (λh it l i=>h.IsListIter it l i) (λh a xs=>h.IsList a xs) where
 get:=λe I q=>by subst e;obtain⟨its,r,p,z⟩:=I.list q;exact⟨its,r,p.isList,z⟩
 inj:=λe I q q'=>by subst e;exact I.MZ q q'
 ne:=λe I f q=>by subst e;exact ab0 I f q
 wK:=λA it l items hh hne=>Draws.list hh it l hne items
 obj:=λst=>by obtain⟨o,e,c,d⟩:=st;exact⟨o,e,λv z=>by rw[d]at z;cases z⟩
 at':=λst k=>st.at k
def qP(Sq:Hp->L->List V->Prop)(a:L):It :=
  ⟨λi H=>∃xs x,Sq H a xs/\xs[i]? = O x,
   λi H v H'=>∃t x,v=.ref t/\H t=U/\H'=upd H t (.tup [.int i,x])/\∀xs,Sq H a xs->xs[i]? = O x,
   λi H=>∃xs,Sq H a xs/\i=xs.length⟩
theorem x9{xs:List V}{i:Nat}(r:Vals xs us)(h:us.toArray[i]? = O u):∃x,xs[i]? = O x/\RelV x u:=by
 have h':us[i]? = O u:=by simpa using h
 have hi:i<xs.length:=by rw[r.length];exact(Q9.mp h').1
 obtain⟨u',e,q⟩:=r.get (H8 hi);rw[h']at e;cases e;exact⟨xs[i],H8 hi,q⟩
theorem IL{w:τ}{K:Ξ}{Sq:Hp->L->List V->Prop}{qQ:υ->L->L->Nat->Prop}{BN:υ->L->Array Δ->Prop}(S:HD P w K Sq qQ BN){k:Nat}{pt:Pos}(a e it:L)(n1:e≠it):
  Turn P w K (.Tuple es k pt) (qP Sq a) [e,it] e (λi h=>(∃old,IsEnum h e it i old)/\qQ h it a i) where
 mem:=by simp
 obj:=λi h st b hb=>by
  obtain⟨⟨old,hz⟩,h1⟩:=st;simp only[Bt,RZ,or_false]at hb
  rcases hb with rfl|rfl
  ·exact⟨_,hz,λv q=>nomatch q⟩
  ·exact S.obj h1
 keep:=λi h h' st kp=>by
  obtain⟨⟨old,hz⟩,h1⟩:=st;exact⟨⟨old,kp _ (by simp) _ hz⟩,S.at' h1 λo e=>kp _ (by simp) o e⟩
 item:=by
  intro X hP hw hK hc i pins s Z H E I hf st hg;subst hP hw;obtain⟨xs,x,q1,hx⟩:=hg;obtain⟨⟨old,hz⟩,h1⟩:=st;obtain⟨us,r1,p1,l1⟩:=S.get hK I q1;have ne1:∀{b:L},b∈[e,it]->a≠b:=λhb=>S.ne hK I (hf _ hb) q1
  have hx':i<us.toArray.size:=by have:=(Q9.mp hx).1;have:=r1.length;simp;omega
  have W:=WalksT.enumerateD (A:=X.A) (S.wK X.A.in1 it a us.toArray (I.ok.hd hc) (ne1 (by simp))) e n1 (by simp only[Bt,RZ,or_false,not_or];exact⟨n1,(ne1 (by simp)).symm⟩) (by simp)
  refine wpAny_pyNext_enum_itemD (S.wK X.A.in1 it a us.toArray (I.ok.hd hc) (ne1 (by simp))) hz ⟨h1,p1⟩ hx' n1 (by simp only[Bt,RZ,or_false,not_or];exact⟨n1,(ne1 (by simp)).symm⟩) λu0 h' tk0 akL ho0 hs0 hT0 hsz0 hk0=>?_
  have hilt:it<s.heap.objs.size:=by obtain⟨o,e3,_⟩:=S.obj h1;exact I8 e3
  have hT:s.heap.objs.size<=s.heap.objs.size:=x6 _;have mid:(∃x,IsEnumOut h' e it ((i:Int)+1) x s.heap.objs.size)/\_/\s.heap.objs.size≠e/\s.heap.objs.size≠it:=⟨⟨_,ho0⟩,hs0,Rn (I8 hz),Rn hilt⟩;have kp:∀b o,b∉[e,it]->s.heap.get? b=O o->h'.get? b=O o:=λb o hb y=>hk0 b o (λe'=>hb (by simp[e'])) (λe'=>hb (by simp[e'])) y
  refine⟨_,rfl,?_⟩;refine W.go es k pt i s.heap.objs.size {s with heap:=h',toks:=tk0+1} _ _ mid λh'' st'' Ni=>?_
  obtain⟨x',ex,rx⟩:=x9 r1 akL;have lt:∀{c:L}{o:Obj},s.heap.get? c=O o->c≠s.heap.objs.size:=λq=>K1 (I8 q)
  have hT2:ny h'' s.heap.objs.size [.int i tk0,u0].toArray:=⟨_,Ni _ _ (W.apart _ _ _ mid) hT0,rfl,⟨_,rfl⟩,rfl⟩;have I2:Inv X pins Z (upd H s.heap.objs.size (.tup [.int i,x'])) {s with heap:=h'',toks:=tk0+1}:=by
   refine I.aaC (ch:=[e,it]) (us:=[.int i tk0,u0]) hf (λc o hcn e1=>Ni _ _ hcn (kp c o hcn e1)) hT (λb hb=>?_) (.cons ⟨tk0,rfl⟩ (.cons rx .nil)) (by show 2<=Ω;decide) hT2
   simp only[Bt,RZ,or_false]at hb
   rcases hb with rfl|rfl
   ·obtain⟨⟨o2,e2⟩,_⟩:=st'';exact⟨_,e2⟩
   ·obtain⟨_,e2,_⟩:=st'';obtain⟨o,e3,_⟩:=S.obj e2;exact⟨o,e3⟩
  refine⟨.ref s.heap.objs.size,_,I2,rfl,⟨_,x',rfl,I.hok.fresh hT,rfl,λxs' w1=>?_⟩,⟨?_,st''.2.1⟩,λb hb=>?_⟩
  ·rw[S.inj hK I w1 q1];exact ex
  ·obtain⟨⟨o2,e2⟩,_⟩:=st'';exact⟨o2,by simpa using e2⟩
  ·have hb':b≠s.heap.objs.size:=by
    simp only[Bt,RZ,or_false]at hb
    rcases hb with rfl|rfl
    ·exact lt hz
    ·obtain⟨o,e3,_⟩:=S.obj h1;exact lt e3
   rw[bD hb'];exact(hf b hb).1
 done:=by
  intro X hP hw hK hc i pins s Z H E I hf st hg;subst hP hw;obtain⟨xs,q1,hend⟩:=hg;obtain⟨⟨old,hz⟩,h1⟩:=st;obtain⟨us,r1,p1,l1⟩:=S.get hK I q1;have ne1:∀{b:L},b∈[e,it]->a≠b:=λhb=>S.ne hK I (hf _ hb) q1
  have W:=WalksT.enumerateD (A:=X.A) (S.wK X.A.in1 it a us.toArray (I.ok.hd hc) (ne1 (by simp))) e n1 (by simp only[Bt,RZ,or_false,not_or];exact⟨n1,(ne1 (by simp)).symm⟩) (by simp)
  have ei:i=us.toArray.size:=by rw[Q3,<-r1.length];exact hend
  subst ei;refine W.done s _ _ ⟨⟨old,hz⟩,h1,p1⟩ λh' tk kp=>⟨rfl,I.agO (ch:=[e,it]) hf kp⟩
 self:=λA i s Q E st h=>by
  obtain⟨⟨old,hz⟩,h1⟩:=st;exact WK hz h
section
variable {X:Cx}{es':List μ}{kt:Nat}{pt:Pos}
def Ew(Sq:Hp->L->List V->Prop)(ta:TA):TI:=λZ H R=>ta Z H λvs H1=>∃a,vs=[.ref a]/\(∃xs,Sq H1 a xs)/\R (qP Sq a) H1
theorem HY(I:Inv X pins Z H s)(hn:s.heap.objs.size=n):∀b∈[n+4,n+2,n+3,n,n+1],eN X pins H b:=λb hb=>by
 have:s.heap.objs.size<=b:=by
  simp only[Bt,RZ,or_false]at hb
  rcases hb with rfl|rfl|rfl|rfl|rfl<;>rw[hn]
  ·exact Uj _ _
  ·exact Uj _ _
  ·exact Uj _ _
  ·exact x6 _
  ·exact Uj _ _
 exact I.tM this (I.hok.fresh this)
theorem ajK{pos:Pos}(hg:Gl X "enumerate")(hm:X.mg "enumerate"=U)(ha:PA X [a] ta)(hs:ε [a] X.env=[(ξ,eval a X.env)]:=by rfl):
  PI X (.Tuple es' kt pt) (.Call (.Name "enumerate" p) [a] [] pos) (Ew (bZ X.K) ta):=by
 intro pins s Z H R I h;refine Call_ (oi I hg hm boot_enumerate (UI (bg (ha pos pins s Z H _ I h) λus s1 ⟨vs,H1,I1,r1,q1⟩=>?_) hs rfl))
 obtain⟨a1,e,⟨xs,q1⟩,q⟩:=q1;subst e;cases r1 with
 |cons r rr =>
  cases rr;cases r;obtain⟨us,ru,pu,lu⟩:=I1.tuple q1;refine adO pu λh' hz t1 _ kp=>WK hz ?_
  generalize hn:s1.heap.objs.size=n at hz t1
  refine⟨n+1,_,_,_,H1,rfl,I1.kept (t':=s1.toks) kp,IL aip a1 (n+1) n (Rn (Rt _)),⟨⟨_,hz⟩,t1⟩,λb hb=>?_,q⟩
  refine HY I1 hn b ?_;simp only[Bt,RZ,or_false]at hb
  rcases hb with rfl|rfl<;>simp
end
section
variable {X:Cx}
theorem IS{bs:List Bool}(r:Vals (bs.map V.bl) its):TruthOf X.prog X.w A (λi v=>its.toArray[i]? = O v) (λi=>bs.getD i ξ):=by
 intro i v s Q E hP hQ;obtain⟨x,ex,rx⟩:=x9 r hP;rw[RB]at ex;cases e:bs[i]? with
 |none=>rw[e]at ex;cases ex
 |some b =>
  rw[e]at ex;cases ex;cases rx;refine Sg ?_;have:bs.getD i ξ=b:=by rw[Iv,e];rfl
  have hQ:Q (bs.getD i ξ) s:=hQ
  rwa[this]at hQ
theorem range_all(bs:List Bool):((η bs.length).all λi=>bs.getD i ξ)=bs.all id:=by
 rw[S5,RW,RW]
 constructor
 ·intro h b hb;obtain⟨i,hi,e⟩:=Se.mp hb;have:=h i (dD.mpr hi);rw[Iv,H8 hi]at this;rw[<-e];exact this
 ·intro h i hi;have hi:=dD.mp hi;rw[Iv,H8 hi];exact h _ (RA hi)
theorem range_any(bs:List Bool):((η bs.length).any λi=>bs.getD i ξ)=bs.any id:=by
 rw[S5,U3,U3]
 constructor
 ·rintro ⟨i,hi,h⟩
  have hi:=dD.mp hi;rw[Iv,H8 hi]at h;exact⟨_,RA hi,h⟩
 ·rintro ⟨b,hb,h⟩
  obtain⟨i,hi,e⟩:=Se.mp hb;refine⟨i,dD.mpr hi,?_⟩;rw[Iv,H8 hi,e];exact h
theorem xC{h':υ}(I:Inv X pins Z H s)(kp:∀b q,b∉[s.heap.objs.size]->(s.heap.push o).get? b=O q->h'.get? b=O q):Inv X pins Z H {s with heap:=h',toks:=tk} :=
 I.kept λb q e=>kp b q (by simp;exact K1 (I8 e)) (J' _ e)
theorem adQ(hc:X.calm=J):cK X (.builtin "all") (λxs H Q=>∃(p:L) (bs:List Bool),xs=[.ref p]/\bw X.K H p (bs.map V.bl)/\Q (.bl (bs.all id)) H):=by
 intro pins s Z H xs us Q I r h;obtain⟨p,bs,rfl,hp,q⟩:=h;obtain⟨u,rfl,ru⟩:=RO r;cases ru;obtain⟨its,rv,pl,hz⟩:=I.list hp;have hL:=pl.isList;refine call_all_walk (Sf hL ⟨s.heap.objs.size,_,_,its.toArray.size,_,_,λi=>bs.getD i ξ,rfl,TN (A:=X.A.in1) (I.ok.hd hc) s.heap.objs.size p (by obtain⟨o,e,_⟩:=hL;exact K1 (I8 e)) its.toArray,⟨⟨_,Q4 _ rfl,rfl,rfl⟩,hL.push _⟩,IS rv,λh' tk kp=>?_⟩)
 have hl:=rv.length;rw[P0]at hl;have I1:Inv X pins Z H {s with heap:=h',toks:=tk}:=xC I kp
 refine⟨.bl (bs.all id),H,I1,?_,q⟩;show Value.bool _=Value.bool _;rw[Q3,<-hl,range_all]
theorem adP(hc:X.calm=J):cK X (.builtin "any") (λxs H Q=>∃(p:L) (bs:List Bool),xs=[.ref p]/\bw X.K H p (bs.map V.bl)/\Q (.bl (bs.any id)) H):=by
 intro pins s Z H xs us Q I r h;obtain⟨p,bs,rfl,hp,q⟩:=h;obtain⟨u,rfl,ru⟩:=RO r;cases ru;obtain⟨its,rv,pl,hz⟩:=I.list hp;have hL:=pl.isList;have vR:p≠s.heap.objs.size:=by obtain⟨o,e,_⟩:=hL;exact K1 (I8 e)
 refine call_any_walk (Sf hL ⟨s.heap.objs.size,_,_,its.toArray.size,_,_,λi=>bs.getD i ξ,rfl,TN (A:=X.A.in1) (I.ok.hd hc) s.heap.objs.size p vR its.toArray,⟨⟨_,Q4 _ rfl,rfl,rfl⟩,hL.push _⟩,IS rv,λh' tk kp=>?_⟩)
 have hl:=rv.length;rw[P0]at hl;have I1:Inv X pins Z H {s with heap:=h',toks:=tk}:=xC I kp
 refine⟨.bl (bs.any id),H,I1,?_,q⟩;show Value.bool _=Value.bool _;rw[Q3,<-hl,range_any]
def tyName(H:Hp):V->String->Prop
 |.aF,n=>n="NoneType"
 |.bl _,n=>n="bool"
 |.int _,n=>n="int"
 |.str _,n=>n="str"
 |.ref a,n=>(n="list"/\((∃xs,H a=O (.lst xs))\/∃o xs,H a=O (.cM o (.lst xs))))\/(n="tuple"/\∃xs,H a=O (.tup xs))\/(n="dict"/\((∃k,H a=O (.dK k))\/∃k,H a=O (.dT k)))
 |_,_=>False
theorem agK{K:Ξ}{H:Hp}{x:V}{n:String}(h:tyName H x n):jL K H x (.type n):=by
 cases x with
 |aF=>cases(show n="NoneType" from h);exact .aF
 |bl b=>cases(show n="bool" from h);exact .bl b
 |int b=>cases(show n="int" from h);exact .int b
 |str b=>cases(show n="str" from h);exact .str b
 |ref a =>
  rcases h with⟨rfl,⟨xs,e⟩|⟨o,xs,e⟩⟩|⟨rfl,xs,e⟩|⟨rfl,⟨k,e⟩|⟨k,e⟩⟩
  ·exact .lst e
  ·exact .cM e
  ·exact .tup e
  ·exact .dK e
  ·exact .dT e
 |_=>exact False.elim h
def uH(n T:String):Bool:=n==T||(n=="bool"&&T=="int")
def ZP(n T:String):Option Bool:=if(Value.type n==Value.type T)=J then O J else if PySem.W.kitMeta T=J then(fastBuiltinMro n).map (·.contains (Value.type T))else U
theorem Np{K:Ξ}{n T:String}(hn:n∈["NoneType","bool","int","str","list","tuple","dict"])(hT:T∈["bool","int","str","list","tuple","dict"]):PySem.W.kitOne K (.type n) (.type T)=O (uH n T):=by
 show ZP n T=O (uH n T);simp only[Bt,RZ,or_false]at hn hT
 rcases hn with rfl|rfl|rfl|rfl|rfl|rfl|rfl<;>rcases hT with rfl|rfl|rfl|rfl|rfl|rfl<;>decide +kernel
theorem agM(h:tyName H x n):n∈["NoneType","bool","int","str","list","tuple","dict"]:=by
 cases x with
 |aF=>cases(show n="NoneType" from h);simp
 |bl b=>cases(show n="bool" from h);simp
 |int b=>cases(show n="int" from h);simp
 |str b=>cases(show n="str" from h);simp
 |ref a=>rcases h with⟨rfl,_⟩|⟨rfl,_⟩|⟨rfl,_⟩<;>simp
 |_=>exact False.elim h
theorem adN:cK X (.builtin "isinstance") (λxs H Q=>∃x n T,xs=[x,.ty T]/\tyName H x n/\T∈["bool","int","str","list","tuple","dict"]/\Q (.bl (uH n T)) H):=by
 intro pins s Z H xs us Q I r h;obtain⟨x,n,T,rfl,hx,hT,q⟩:=h;obtain⟨u,v,rfl,ru,rv⟩:=Vals.two r;cases(show v=Value.type T from rv)
 exact aah I ru (agK hx) (Np (agM hx) hT) λtk=>⟨.bl _,H,I.tok tk,rfl,q⟩
end
def acz(ea C:L):υ->Prop:=λh=>∃o,h.get? ea=O o/\o.cls=.ref C
def acV(a:L):υ->Prop:=PySem.W.KitAt a "dict"
structure Def (K:Ξ) (mg:Str->Option Δ) (x:Str) (st:dg) (ps:List Str) (f:L) (fd:RK):Prop where
 fn:mq K x x st f fd
 at':mg x=O (.ref f)
 bd:Binds K fd ps []
section
variable {X:Cx}
theorem alo{st:dg}{pos:Pos}(D:Def X.K X.mg x st ps f fd)(G:eO X.prog X.w X.K X.mg X.base dJ k f fd ps sp)(hr:cu k X.A)(ha:PA X (e::es) t)(hg:Gl X x:=by rfl)(hdb:(x==("__debug__":Str))=ξ:=by decide)(he:ε (e::es) X.env=(ξ,eval e X.env)::ε es X.env:=by rfl)(hpl:(Q6 pos (ε es X.env)).any (·.1)=ξ:=by rfl):
  PE X (.Call (.Name x p) (e::es) [] pos) (Ji sp [] E0 t):=alh G hr hg D.at' D.fn.kp D.bd .nil ajV ha hdb he hpl
theorem ajI{pos:Pos}(hg:Gl X x)(hm:X.mg x=U)(hv:bootBuiltins x=O (.type n))(hn:x≠"__name__":=by decide)(hd:(x==("__debug__":Str))=ξ:=by decide):PE X (.Name x pos) (tC (.ty n)):=alg hg hm hv rfl hn hd
end
abbrev Up(l:List Nat):Prop:=l.Pairwise (· < ·)
theorem getD_list(xs:Array Nat)(i d:Nat):xs.getD i d=xs.toList.getD i d:=by
 simp[WJ,Iv]
theorem ur(h:Up l)(hik:i<k)(hk:k<l.length):l.getD i 0<l.getD k 0:=by
 have:=Sd.mp h i k ∅ hk hik
 simpa[Iv,H8 hk,H8 (show i<l.length by omega)]using this
def Parts(l:List Nat)(j p:Nat):Prop:=p<=l.length/\(∀i,i<p->l.getD i 0<j)/\∀i,p<=i->i<l.length->j<=l.getD i 0
theorem Gh{xs:Array Nat}(h:Up xs.toList):∀fuel lo hi,lo<=hi->hi<=xs.toList.length->hi-lo<=fuel->(∀i,i<lo->xs.toList.getD i 0<j)->(∀i,hi<=i->i<xs.toList.length->j<=xs.toList.getD i 0) ->
  Parts xs.toList j (SetTable.below.go xs j fuel lo hi)
 |0,lo,hi,h1,h2,h3,h4,h5=>⟨by unfold SetTable.below.go;omega,λi hi'=>h4 i (by unfold SetTable.below.go at hi';exact hi'),λi hi'=>h5 i (by unfold SetTable.below.go at hi';omega)⟩
 |fuel+1,lo,hi,h1,h2,h3,h4,h5=>by
  unfold SetTable.below.go
  by_cases hl:lo<hi
  ·rw[if_pos hl];dsimp only;have hm:(lo+hi)/2<xs.toList.length:=∅
   have he:xs.getD ((lo+hi)/2) j=xs.toList.getD ((lo+hi)/2) 0:=by
    rw[getD_list];simp[Iv,H8 hm]
   rw[he]
   by_cases hc:xs.toList.getD ((lo+hi)/2) 0<j
   ·rw[if_pos hc];refine Gh h fuel _ _ ∅ h2 ∅ (λi hi'=>?_) h5
    by_cases hq:i=(lo+hi)/2
    ·rw[hq];exact hc
    ·exact U1 (ur h (show i<(lo+hi)/2 by omega) hm) hc
   ·rw[if_neg hc];refine Gh h fuel _ _ ∅ ∅ ∅ h4 (λi hi' hl'=>?_)
    by_cases hq:i=(lo+hi)/2
    ·rw[hq];omega
    ·exact R9 ∅ (Sv (ur h (show(lo+hi)/2<i by omega) hl'))
  ·rw[if_neg hl];exact⟨∅,h4,λi hi'=>h5 i ∅⟩
theorem A4{xs:Array Nat}(h:Up xs.toList)(j:Nat):Parts xs.toList j (SetTable.below xs j):=by
 exact Gh h _ _ _ (RM _) (by simp) (by simp) (λi hi=>absurd hi (Ui _)) (λi h1 h2=>by simp at h2;omega)
theorem ad4{xs:Array Nat}(h:Up xs.toList):SetTable.below xs 0=0:=by
 obtain⟨_,h2,_⟩:=A4 h 0
 rcases Xm _ with e|e
 ·exact e
 ·exact absurd (h2 0 e) (Ui _)
theorem ad5{xs:Array Nat}(h:Up xs.toList)(hi:i<xs.toList.length):SetTable.below xs (xs.toList.getD i 0+1)=i+1:=by
 obtain⟨h1,h2,h3⟩:=A4 h (xs.toList.getD i 0+1)
 rcases TM (SetTable.below xs (xs.toList.getD i 0+1)) (i+1)with e|e|e
 ·have:=h3 i ∅ hi;omega
 ·exact e
 ·have a:=h2 _ e;have b:=ur h (show i<i+1 by omega) (show i+1<xs.toList.length by omega)
  omega
theorem Gg{xs:Array Nat}(h:Up xs.toList)(hj:j∈xs.toList):xs[SetTable.below xs j]? = O j:=by
 obtain⟨i,hi,e⟩:=S9 hj;obtain⟨h1,h2,h3⟩:=A4 h j;have e':xs.toList.getD i 0=j:=by rw[Iv,H8 hi];exact e
 have hp:SetTable.below xs j=i:=by
  rcases TM (SetTable.below xs j) i with q|q|q
  ·have a:=h3 _ (x6 _) ∅
   have b:=ur h q hi;omega
  ·exact q
  ·have a:=h2 i q;omega
 rw[hp,<-Rj,H8 hi,e]
theorem IB{xs:Array Nat}(h:Up xs.toList)(hj:j∉xs.toList):Up (SetTable.insertAt xs (SetTable.below xs j) j).toList:=by
 rw[Uh];obtain⟨h1,h2,h3⟩:=A4 h j
 generalize SetTable.below xs j=p at h1 h2 h3
 have ht:∀a∈xs.toList.take p,a<j:=by
  intro a ha;obtain⟨i,hi,e⟩:=S9 ha;have hi':i<p/\i<xs.toList.length:=by simp at hi ⊢;omega
  have:=h2 i hi'.1;rw[UB]at e;rw[Iv,H8 hi'.2]at this
  simpa[<-e]using this
 have hd:∀a∈xs.toList.drop p,j<a:=by
  intro a ha;have hm:a∈xs.toList:=Vl ha;obtain⟨i,hi,e⟩:=S9 ha;have hi':p+i<xs.toList.length:=by simp at hi ⊢;omega
  have:=h3 (p+i) ∅ hi'
  rw[List.getElem_drop]at e;rw[Iv,H8 hi']at this;have hle:j<=a:=by simpa[<-e]using this
  exact Nat.lt_of_le_of_ne hle λq=>hj (q▸hm)
 refine Xl.mpr ⟨h.sublist (Uq _ _),Ri.mpr ⟨hd,h.sublist (List.drop_sublist _ _)⟩,λa ha b hb=>?_⟩
 rcases Bt.mp hb with rfl|hb
 ·exact ht a ha
 ·exact U1 (ht a ha) (hd b hb)
theorem C8:∀(n:Nat) (l:List Nat),(∀j,j<n->j∈l)->n<=l.length
 |0,_,_=>RM _
 |n+1,l,h=>by
  have hn:=h n (Rt _);have:=C8 n (l.erase n) λj hj=>(Ug ∅).mpr (h j ∅)
  rw[Ue hn]at this;have:=Vk hn;omega
def jl(mask:Nat):Nat->Nat->Nat->Nat->Nat->Nat->Bool
 |0,_,_,_,_,_=>ξ
 |n+1,j,more,i,q,acc =>
  if acc |||(1 <<< j)=2^(mask+1)-1 then J
  else if more>0 then jl mask n (j+1) (more-1) i q (acc |||(1 <<< j))
  else jl mask n ((i*5+1+q/32) % (mask+1)) (SetTable.runEnd mask ((i*5+1+q/32) % (mask+1))-(i*5+1+q/32) % (mask+1)) ((i*5+1+q/32) % (mask+1)) (q/32) (acc |||(1 <<< j))
def AX(mask:Nat):Bool:=(η 128).all λh=>jl mask (10*(mask+15)) (h % (mask+1)) (SetTable.runEnd mask (h % (mask+1))-h % (mask+1)) (h % (mask+1)) h 0
def nj(mask:Nat):Nat->Nat->Nat->Nat->Bool
 |0,_,_,_=>ξ
 |n+1,i,q,acc =>
  if acc |||((2^(SetTable.runEnd mask i+1-i)-1) <<< i)=2^(mask+1)-1 then J
  else nj mask n ((i*5+1+q/32) % (mask+1)) (q/32) (acc |||((2^(SetTable.runEnd mask i+1-i)-1) <<< i))
def FQ(mask:Nat):Bool:=(η 128).all λh=>nj mask (mask+15) (h % (mask+1)) h 0
theorem adi:AX 7=J:=by decide +kernel
theorem adj:AX 31=J:=by decide +kernel
theorem adk:AX 127=J:=by decide +kernel
theorem adf:FQ 31=J:=by decide +kernel
theorem adg:FQ 127=J:=by decide +kernel
theorem wY(acc j k:Nat):(acc |||(1 <<< j)).testBit k=(acc.testBit k||decide (k=j)):=by
 rw[Vj,Wz,Nat.testBit_two_pow]
 by_cases h:j=k
 ·subst h;simp
 ·simp[h,Rr h]
theorem AW{mask:Nat}:∀n j more i q acc,jl mask n j more i q acc=J->∀k,acc.testBit k=J->k<=mask
 |0,_,_,_,_,_,h,_,_=>by cases h
 |n+1,j,more,i,q,acc,h,k,hk=>by
  have hk':(acc |||(1 <<< j)).testBit k=J:=by rw[wY,hk];rfl
  unfold jl at h;split at h
  ·rename_i e;rw[e,Sn]at hk';have:=of_decide_eq_true hk';omega
  ·split at h
   ·exact AW _ _ _ _ _ _ h k hk'
   ·exact AW _ _ _ _ _ _ h k hk'
theorem CJ{t:ω}(hd:t.dummies=#[])(j:Nat):t.slot j=.empty\/∃i,t.slot j=.live i:=by
 unfold SetTable.slot;dsimp only;split
 ·exact .inr ⟨_,rfl⟩
 ·rw[hd];exact .inl rfl
theorem E9{t:ω}(hd:t.dummies=#[]):∀n (p:WW) acc fuel,jl t.mask n p.j p.more p.i p.perturb acc=J->p.dummy=U->n<=fuel ->
  (∀k,acc.testBit k=J->t.slot k≠.empty)->(∃j,j<=t.mask/\t.slot j=.empty) ->
  ∃j,SetTable.probe.go t (λ_=>h+1) h fuel p=O (.empty j U)/\t.slot j=.empty/\j<=t.mask
 |0,_,_,_,h,_,_,_,_=>by simp[jl]at h
 |n+1,p,acc,0,_,_,h,_,_=>∅
 |n+1,p,acc,fuel+1,hc,hn,hf,ha,hj=>by
  have hle:p.j<=t.mask:=by
   have hk':(acc |||(1 <<< p.j)).testBit p.j=J:=by rw[wY];simp
   unfold jl at hc;split at hc
   ·rename_i e;rw[e,Sn]at hk';have:=of_decide_eq_true hk';omega
   ·split at hc
    ·exact AW _ _ _ _ _ _ hc _ hk'
    ·exact AW _ _ _ _ _ _ hc _ hk'
  unfold SetTable.probe.go
  rcases CJ hd p.j with e|⟨i,e⟩
  ·rw[e];exact⟨p.j,by rw[hn],e,hle⟩
  ·rw[e];have hne:(h+1==h)=ξ:=by simp;omega
   rw[hne];have ha':∀k,(acc |||(1 <<< p.j)).testBit k=J->t.slot k≠.empty:=by
    intro k hk;rw[wY,SD,decide_eq_true_eq]at hk
    rcases hk with hk|rfl
    ·exact ha k hk
    ·rw[e];intro q;cases q
   unfold jl at hc;split at hc
   ·rename_i ef;obtain⟨j0,h0,e0⟩:=hj;exact absurd e0 (ha' j0 (by rw[ef,Sn];exact decide_eq_true ∅))
   ·split at hc
    ·rename_i hm;have EU:t.advance p={p with j:=p.j+1,more:=p.more-1}:=by unfold SetTable.advance;rw[if_pos hm]
     rw[EU];exact E9 hd n _ _ fuel hc hn ∅ ha' hj
    ·rename_i hm;have EU:t.advance p={p with j:=(p.i*5+1+p.perturb/32) % (t.mask+1),more:=SetTable.runEnd t.mask ((p.i*5+1+p.perturb/32) % (t.mask+1))-(p.i*5+1+p.perturb/32) % (t.mask+1),i:=(p.i*5+1+p.perturb/32) % (t.mask+1),perturb:=p.perturb/32}:=by
      unfold SetTable.advance;rw[if_neg hm];rfl
     rw[EU];exact E9 hd n _ _ fuel hc hn ∅ ha' hj
theorem Qq{n:Nat}(h:n<128):SetTable.bits (n:Int)=n:=by
 unfold SetTable.bits;have:((n:Int) % (2^64:Int))=n:=Vi ∅ ∅
 rw[this];rfl
def lD(m:Nat):Prop:=m=7\/m=31\/m=127
theorem adb(h:lD m)(hn:n<128):jl m (10*(m+15)) (n % (m+1)) (SetTable.runEnd m (n % (m+1))-n % (m+1)) (n % (m+1)) n 0=J:=by
 have:AX m=J:=h.elim (λe=>e▸adi) λh=>h.elim (λe=>e▸adj) λe=>e▸adk
 exact RW.mp this n (dD.mpr hn)
theorem abX{t:ω}{n:Nat}(hd:t.dummies=#[])(hm:lD t.mask)(hn:n<128)(hs:t.place.toList.length<=t.mask)(hu:Up t.place.toList) :
  ∃j,t.freeSlot (n:Int)=O (j,ξ)/\j∉t.place.toList/\j<=t.mask:=by
 have hmem:∀j,t.slot j=.empty->j∉t.place.toList:=by
  intro j e hj;unfold SetTable.slot at e;dsimp only at e;rw[Gg hu hj]at e;simp at e
 have aa2:∀j,j∉t.place.toList->t.slot j=.empty:=by
  intro j hj
  rcases CJ hd j with e|⟨i,e⟩
  ·exact e
  ·unfold SetTable.slot at e;dsimp only at e;split at e
   ·rename_i q;have:=eq_of_beq q;rw[<-Rj]at this;exact absurd (R7 this) hj
   ·split at e<;>cases e
 have hex:∃j,j<=t.mask/\t.slot j=.empty:=by
  by_cases q:∃j,j<=t.mask/\j∉t.place.toList
  ·obtain⟨j,a,b⟩:=q;exact⟨j,a,aa2 j b⟩
  ·have:=C8 (t.mask+1) t.place.toList λj hj=>Rh λx=>q ⟨j,∅,x⟩
   omega
 have hb:=Qq hn;obtain⟨j,e,e1,e2⟩:=E9 (t:=t) (h:=(n:Int)) hd (10*(t.mask+15)) (t.probeStart n) 0 (10*SetTable.turns t.mask)
  (by show jl _ _ (SetTable.bits n % _) (SetTable.runEnd t.mask (SetTable.bits n % (t.mask+1))-SetTable.bits n % (t.mask+1)) (SetTable.bits n % _) (SetTable.bits n) _=J;rw[hb];exact adb hm hn) rfl (x6 _) (λk hk=>by simp at hk) hex
 refine⟨j,?_,hmem j e1,e2⟩;unfold SetTable.freeSlot SetTable.probe;rw[e];rfl
theorem ajh(c i k:Nat):((2^c-1) <<< i).testBit k=decide (i<=k/\k<i+c):=by
 rw[Wy,Sn]
 by_cases h:i<=k
 ·simp only[ge_iff_le,h,decide_true,Bool.true_and,true_and];exact decide_eq_decide.mpr ∅
 ·simp[h]
theorem Eb{mask:Nat}{owner:Array (Option Nat)}:∀n i q acc fuel,nj mask n i q acc=J->n<=fuel->(∀k,k<=mask->acc.testBit k=J->owner.getD k (O 0)≠U) ->
  (∃j,j<=mask/\owner.getD j (O 0)=U)->∃j,SetTable.layClean.free mask owner fuel i q=O j/\owner.getD j (O 0)=U
 |0,_,_,_,_,h,_,_,_=>by simp[nj]at h
 |n+1,i,q,acc,0,_,h,_,_=>∅
 |n+1,i,q,acc,fuel+1,hc,hf,ha,hj=>by
  unfold SetTable.layClean.free;cases hr:(η _).find? _ with
  |some k =>
   have:=Wx hr;exact⟨i+k,rfl,by simpa using this⟩
  |none =>
   have ha':∀k,k<=mask->(acc |||((2^(SetTable.runEnd mask i+1-i)-1) <<< i)).testBit k=J->owner.getD k (O 0)≠U:=by
    intro k hk hb;rw[Vj,ajh,SD,decide_eq_true_eq]at hb
    rcases hb with hb|hb
    ·exact ha k hk hb
    ·intro e;have:=(TL.mp hr) (k-i) (dD.mpr ∅)
     rw[show i+_=k by omega,e]at this
     exact this rfl
   unfold nj at hc;split at hc
   ·rename_i ef;obtain⟨j0,h0,e0⟩:=hj;exact absurd e0 (ha' j0 h0 (by rw[ef,Sn];exact decide_eq_true ∅))
   ·exact Eb n _ _ _ fuel hc ∅ ha' hj
def j6(m:Nat):Prop:=m=31\/m=127
theorem ade(h:j6 m)(hn:n<128):nj m (m+15) (n % (m+1)) n 0=J:=by
 have:FQ m=J:=h.elim (λe=>e▸adf) λe=>e▸adg
 exact RW.mp this n (dD.mpr hn)
theorem Fo:∀(l:List (Option Nat)) (j k:Nat),j<l.length->l.getD j (O 0)=U->((l.set j (O k)).filterMap id).Perm (k::l.filterMap id)
 |[],_,_,h,_=>absurd h (Ui _)
 |x::l,0,k,_,e=>by
  have:x=U:=by simpa using e
  subst this;simp
 |x::l,j+1,k,h,e=>by
  have ih:=Fo l j k (by simpa using h) (by simpa using e)
  cases x with
  |none=>simpa using ih
  |some a =>
   exact(ih.cons a).trans (List.Perm.swap _ _ _)
theorem Fp:∀(l:List (Option Nat)),(∀j,j<l.length->l.getD j (O 0)≠U)->(l.filterMap id).length=l.length
 |[],_=>rfl
 |x::l,h=>by
  cases x with
  |none=>exact absurd rfl (h 0 (by simp))
  |some a =>
   have:=Fp l λj hj=>by simpa using h (j+1) (by simpa using hj)
   simp[this]
def qN(mask:Nat)(owner:Array (Option Nat))(k:Nat):Prop:=owner.toList.length=mask+1/\(owner.toList.filterMap id).Perm (η k)
theorem ki(xs:Array (Option Nat))(i:Nat)(d:Option Nat):xs.getD i d=xs.toList.getD i d:=by
 simp[WJ,Iv]
theorem Zu{mask:Nat}{owner:Array (Option Nat)}{k n:Nat}(hm:j6 mask)(hn:n<128)(I:qN mask owner k)(hk:k<=mask) :
  ∃j,SetTable.layClean.free mask owner (SetTable.turns mask) (SetTable.bits n % (mask+1)) (SetTable.bits n)=O j/\qN mask (owner.setIfInBounds j (O k)) (k+1):=by
 obtain⟨h1,h2⟩:=I;have hex:∃j,j<=mask/\owner.getD j (O 0)=U:=by
  by_cases q:∃j,j<=mask/\owner.getD j (O 0)=U
  ·exact q
  ·have:=Fp owner.toList λj hj e=>q ⟨j,∅,by rw[ki];exact e⟩
   have h3:=h2.length_eq;rw[Sb]at h3;omega
 obtain⟨j,e,e1⟩:=Eb _ _ _ 0 _ (ade hm hn) (x6 _) (λk _ hb=>by simp at hb) hex
 refine⟨j,by rw[Qq hn];exact e,by simpa using h1,?_⟩
 rw[ki]at e1;have hj:j<owner.toList.length:=by
  rcases SQ j owner.toList.length with q|q
  ·exact q
  ·rw[Iv,TJ q]at e1;cases e1
 rw[Ud];refine(Fo _ j k hj e1).trans ?_;rw[Uc];exact(h2.cons k).trans (Ub k _).symm
theorem Nb{mask:Nat}(hm:j6 mask):∀(hs:List Int) (owner:Array (Option Nat)) (k:Nat),(∀h∈hs,∃n:Nat,h=n/\n<128)->qN mask owner k->k+hs.length<=mask ->
  ∃ow,hs.foldl (λacc h=>(do
   let(owner,k) <-acc
   let j <-SetTable.layClean.free mask owner (SetTable.turns mask) (SetTable.bits h % (mask+1)) (SetTable.bits h)
   pure (owner.setIfInBounds j (O k),k+1):Option (Array (Option Nat)×Nat))) (O (owner,k))=O (ow,k+hs.length)/\qN mask ow (k+hs.length)
 |[],owner,k,_,I,_=>⟨owner,rfl,I⟩
 |h::hs,owner,k,hh,I,hl=>by
  obtain⟨n,e,hn⟩:=hh h (.head _);subst e;simp only[RG]at hl;obtain⟨j,e,I'⟩:=Zu hm hn I ∅
  obtain⟨ow,e',xJ⟩:=Nb hm hs _ (k+1) (λh x=>hh h (.tail _ x)) I' ∅
  refine⟨ow,?_,by rw[RG,show k+(hs.length+1)=k+1+hs.length by omega];exact xJ⟩
  rw[TU,RG,show k+(hs.length+1)=k+1+hs.length by omega,<-e']
  congr 1
  show(do let j <-SetTable.layClean.free mask owner (SetTable.turns mask) (SetTable.bits n % (mask+1)) (SetTable.bits n);pure (owner.setIfInBounds j (O k),k+1):Option (Array (Option Nat)×Nat))=_
  rw[e];rfl
theorem Zw{mask:Nat}(hm:j6 mask)(hs:Array Int)(hh:∀h∈hs.toList,∃n:Nat,h=n/\n<128)(hl:hs.toList.length<=mask) :
  ∃ow,SetTable.layClean mask hs=O ow/\qN mask ow hs.toList.length:=by
 obtain⟨ow,e,I⟩:=Nb hm hs.toList (Array.replicate (mask+1) U) 0 hh ⟨by simp,by simp⟩ ∅
 rw[R6]at e I;refine⟨ow,?_,I⟩;unfold SetTable.layClean;rw[<-Ww];exact congrArg (Option.map (λx:Array (Option Nat)×Nat=>x.1)) e
theorem C3(l:List (Option Nat)):(η l.length).filterMap (λj=>l.getD j U)=l.filterMap id:=by
 have:l=(η l.length).map (λj=>l.getD j U):=by
  apply Rx
  ·simp
  ·intro i h1 h2;simp[Iv,H8 h1]
 conv=>rhs;rw[this]
 rw[List.filterMap_map];rfl
theorem ZK{mask:Nat}(hm:j6 mask)(f mv:Nat)(led plain:Bool)(hs:Array Int)(hh:∀h∈hs.toList,∃n:Nat,h=n/\n<128)(hl:hs.toList.length<=mask) :
  ∃place order,SetTable.laid mask f mv led plain hs=O ({mask:=mask,place:=place,dummies:=#[],finger:=f,led:=led,moves:=mv,plain:=plain},order)/\Up place.toList/\(∀j∈place.toList,j<=mask)/\place.size=hs.size/\order.toList.Perm (η hs.size):=by
 obtain⟨ow,e,h1,h2⟩:=Zw hm hs hh hl;refine⟨(((η (mask+1)).filterMap λj=>(ow.getD j U).map (j,·)).map (·.1)).toArray,(((η (mask+1)).filterMap λj=>(ow.getD j U).map (j,·)).map (·.2)).toArray,?_,?_,?_,?_,?_⟩
 ·unfold SetTable.laid;rw[e];rfl
 ·show Up ((((η (mask+1)).filterMap λj=>(ow.getD j U).map (j,·)).map (·.1)).toArray).toList
  show WV _ _;rw[Sa];refine Wv _ (λa a' hlt b hb b' hb'=>?_) UA
  cases ha:ow.getD a U<;>rw[ha]at hb<;>simp at hb
  cases ha':ow.getD a' U<;>rw[ha']at hb'<;>simp at hb'
  rw[<-hb,<-hb'];exact hlt
 ·intro j hj;simp only[AP,UH,dD]at hj;obtain⟨⟨a,b⟩,⟨c,hc,hq⟩,rfl⟩:=hj;cases ha:ow.getD c U<;>rw[ha]at hq<;>simp at hq
  obtain⟨rfl,_⟩:=hq;omega
 ·have:((η (mask+1)).filterMap λj=>(ow.getD j U).map (j,·)).length=(ow.toList.filterMap id).length:=by
   rw[<-C3,h1,<-P0 (f:=Prod.snd),Vh]
   congr 1
   congr 1
   funext j
   rw[ki];cases ow.toList.getD j U<;>rfl
  rw[Q3,P0,this,h2.length_eq,Sb];simp
 ·show(((η (mask+1)).filterMap λj=>(ow.getD j U).map (j,·)).map (·.2)).Perm _
  have:(((η (mask+1)).filterMap λj=>(ow.getD j U).map (j,·)).map (·.2))=ow.toList.filterMap id:=by
   rw[<-C3,h1,Vh]
   congr 1
   funext j
   rw[ki];cases ow.toList.getD j U<;>rfl
  rw[this]
  simpa using h2
structure pD (t:ω) (n:Nat):Prop where
 size:t.place.size=n
 up:Up t.place.toList
 le:∀j∈t.place.toList,j<=t.mask
 dm:t.dummies=#[]
 mask:(t.mask=7/\n<=4)\/(t.mask=31/\n<=18)\/(t.mask=127/\n<=76)
 plain:t.plain=J
theorem pD.fits(h:pD t n):t.fits n=J:=by
 have:=h.mask;simp only[SetTable.fits,SetTable.fill,h.size,h.dm,RT,beq_self_eq_true,true_and,decide_eq_true_eq];simp;omega
theorem ah5(led:Bool):pD (.fresh 0 0 led) 0:=⟨rfl,.nil,λj h=>by simp[SetTable.fresh]at h,rfl,.inl ⟨rfl,∅⟩,rfl⟩
def HS(es:List (Int×Δ)):Prop:=∀e∈es,∃n:Nat,e.1=n/\n<128
theorem Zv{es:Array (Int×Δ)}{m:Nat}(I:pD t es.size)(hm:m<128)(hn:es.size<64):
  ∃es1 t1,layNew t es (m:Int) x=(es1,t1,ξ,ξ)/\es1.size=es.size+1/\t1.led=t.led/\t1.plain=J/\t1.place.size=es1.size/\Up t1.place.toList/\(∀j∈t1.place.toList,j<=t1.mask)/\t1.dummies=#[]/\t1.mask=t.mask/\t1.fits es1.size=J:=by
 have hk:=I.mask;have hsz:=I.size;obtain⟨j,e,h1,h2⟩:=abX I.dm (by unfold lD;omega) hm (by simp;omega) I.up
 have hnd:(if SetTable.has t.dummies j then SetTable.eraseAt t.dummies (SetTable.below t.dummies j)else t.dummies)=#[]:=by
  rw[I.dm];rfl
 have hs1:(SetTable.insertAt es (SetTable.below t.place j) (m,x)).size=es.size+1:=by
  rw[<-R8,(U0 ..).length_eq];simp
 have hs2:(SetTable.insertAt t.place (SetTable.below t.place j) j).size=es.size+1:=by
  rw[<-R8,(U0 ..).length_eq];simp[hsz]
 have hfit:(t.put j).1.fits (es.size+1)=J:=by
  simp only[SetTable.put,SetTable.fits,SetTable.fill,hnd,hs2,RT,beq_self_eq_true,true_and,decide_eq_true_eq];simp;omega
 refine⟨SetTable.insertAt es _ _,(t.put j).1,?_,hs1,rfl,I.plain,?_,?_,?_,hnd,rfl,?_⟩
 ·unfold layNew;rw[e];dsimp only;have hp:(t.put j).2=SetTable.below t.place j:=rfl;rw[hp,hs1];unfold SetTable.orStandIn;rw[hfit];rfl
 ·rw[hs1];exact hs2
 ·exact IB I.up h1
 ·intro k hk';have:k∈(t.place.push j).toList:=(U0 t.place _ j).mem_iff.mp hk';rw[Ua,RI,RE]at this
  rcases this with q|rfl
  ·exact I.le k q
  ·exact h2
 ·rw[hs1];exact hfit
theorem ai7{t:ω}{es:Array (Int×Δ)}(hp:t.plain=J)(hh:HS es.toList)(hm:(t.mask=7/\es.size=5)\/(t.mask=31/\es.size=19)) :
  ∃k6 t2,relayAll t es (SetTable.grown es.size)=(k6,t2,ξ)/\k6.size=es.size/\pD t2 k6.size/\t2.led=t.led:=by
 have hw:∃m,SetTable.sizeAbove (SetTable.grown es.size)-1=m/\((m=31/\es.size=5)\/(m=127/\es.size=19)):=by
  rcases hm with⟨_,e⟩|⟨_,e⟩
  ·rw[e];exact⟨31,⋯,.inl ⟨rfl,rfl⟩⟩
  ·rw[e];exact⟨127,⋯,.inr ⟨rfl,rfl⟩⟩
 obtain⟨m,ew,hq⟩:=hw;have hs:(es.map (·.1)).toList=es.toList.map (·.1):=by simp
 obtain⟨place,order,e,u1,u2,u3,u4⟩:=ZK (mask:=m) (by unfold j6;omega) t.finger (t.movedTo m) t.led t.plain (es.map (·.1)) (λh hx=>by
  rw[hs,AP]at hx;obtain⟨y,hy,rfl⟩:=hx;exact hh y hy) (by rw[hs,P0,R8];omega)
 rw[Array.size_map]at u3 u4;have hes:(order.filterMap (es[·]?)).size=es.size:=by
  rw[<-R8,Vg];exact((u4.filterMap _).trans (by rw[Wu])).length_eq
 have hfit:SetTable.fits {mask:=m,place:=place,dummies:=#[],finger:=t.finger,led:=t.led,moves:=t.movedTo m,plain:=t.plain} es.size=J:=by
  simp only[SetTable.fits,SetTable.fill,u3,RT,beq_self_eq_true,true_and,decide_eq_true_eq];simp only[Q3,Tz];omega
 refine⟨order.filterMap (es[·]?),{mask:=m,place:=place,dummies:=#[],finger:=t.finger,led:=t.led,moves:=t.movedTo m,plain:=t.plain},?_,hes,?_,?_⟩
 rotate_left
 ·rw[hes];exact⟨u3,u1,u2,rfl,.inr (by show(m=31/\_)\/(m=127/\_);omega),hp⟩
 ·rfl
 ·unfold relayAll SetTable.relaid;rw[ew,e];dsimp only;rw[hes,hfit];have hc:coversAll order es.size=J:=by unfold coversAll;exact List.isPerm_iff.mpr u4
  rw[hc];rfl
theorem abV{t1:ω}(I:pD t n)(hm:t1.mask=t.mask)(hs:t1.place.size=n+1)(hd:t1.dummies=#[])(hn:n<64):
  (t1.tooFull=J->(t1.mask=7/\n+1=5)\/(t1.mask=31/\n+1=19))/\(t1.tooFull=ξ->((t1.mask=7/\n+1<=4)\/(t1.mask=31/\n+1<=18)\/(t1.mask=127/\n+1<=76))):=by
 have hk:=I.mask;have hz:(#[]:Array Nat).size=0:=rfl;simp only[SetTable.tooFull,SetTable.fill,hs,hd,hm,hz,decide_eq_true_eq,decide_eq_false_iff_not];omega
abbrev Pb:=WW
def iI(m:Nat)(p:Pb):Pb:=if p.more>0 then{p with j:=p.j+1,more:=p.more-1}else{p with j:=(p.i*5+1+p.perturb/32) % (m+1),more:=SetTable.runEnd m ((p.i*5+1+p.perturb/32) % (m+1))-(p.i*5+1+p.perturb/32) % (m+1),i:=(p.i*5+1+p.perturb/32) % (m+1),perturb:=p.perturb/32}
theorem QM(t:ω)(p:Pb):t.advance p=iI t.mask p:=by
 unfold SetTable.advance iI;split<;>rfl
def dP(m:Nat):Nat->Pb->Pb
 |0,p=>p
 |n+1,p=>dP m n (iI m p)
theorem mZ(m:Nat):∀(a b:Nat) (p:Pb),dP m (a+b) p=dP m b (dP m a p)
 |0,b,p=>by rw[R6];rfl
 |a+1,b,p=>by
  rw[show a+1+b=(a+b)+1 by omega]
  exact mZ m a b _
theorem aeh(m:Nat)(p:Pb):(iI m p).dummy=p.dummy:=by unfold iI;split<;>rfl
theorem NG(m:Nat):∀(n:Nat) (p:Pb),(dP m n p).dummy=p.dummy
 |0,_=>rfl
 |n+1,p=>(NG m n _).trans (aeh m p)
def ly(m i q:Nat):Pb:=⟨i,SetTable.runEnd m i-i,i,q,U⟩
def kF(m:Nat)(h:Int):Pb:=ly m (SetTable.bits h % (m+1)) (SetTable.bits h)
def cG(m:Nat)(h:Int)(n:Nat):Nat:=(dP m n (kF m h)).j
def Reach(m:Nat)(P:Nat->Prop)(h:Int)(j:Nat):Prop:=∃n,n<10*(m+15)/\cG m h n=j/\∀k,k<n->P (cG m h k)
theorem Reach.mono{P Q:Nat->Prop}(r:Reach m P h j)(i:∀k,P k->Q k):Reach m Q h j :=
 let⟨n,h1,h2,h3⟩:=r;⟨n,h1,h2,λk hk=>i _ (h3 k hk)⟩
theorem yq{t:ω}(hu:Up t.place.toList)(hj:j∈t.place.toList):∃i,t.slot j=.live i/\t.place[i]? = O j:=by
 refine⟨SetTable.below t.place j,?_,Gg hu hj⟩;unfold SetTable.slot;dsimp only;rw[Gg hu hj];simp
theorem aiH{t:ω}(hd:t.dummies=#[])(hj:j∉t.place.toList):t.slot j=.empty:=by
 rcases CJ hd j with e|⟨i,e⟩
 ·exact e
 ·unfold SetTable.slot at e;dsimp only at e;split at e
  ·rename_i q;have:=eq_of_beq q;rw[<-Rj]at this;exact absurd (R7 this) hj
  ·split at e<;>cases e
theorem E7{t:ω}{hashAt:Nat->Int}:∀(n fuel:Nat) (p:Pb),n<=fuel->(∀k,k<n->∃i,t.slot (dP t.mask k p).j=.live i/\(hashAt i==h)=ξ) ->
  SetTable.probe.go t hashAt h fuel p=SetTable.probe.go t hashAt h (fuel-n) (dP t.mask n p)
 |0,fuel,p,_,_=>rfl
 |n+1,0,p,hf,_=>absurd hf ∅
 |n+1,fuel+1,p,hf,hk=>by
  obtain⟨i,e,hne⟩:=hk 0 ∅
  have e:t.slot p.j=.live i:=e;rw[show fuel+1-_=fuel-n by omega]
  show SetTable.probe.go t hashAt h _ p=SetTable.probe.go t hashAt h _ (dP t.mask n _);rw[<-(E7 (h:=h) n fuel _ ∅ λk hk'=>hk (k+1) ∅)]
  conv=>lhs;unfold SetTable.probe.go
  rw[e];dsimp only;rw[hne,QM];simp only[Ra,if_false]
theorem least{P:Nat->Prop}:∀(n:Nat),P n->∃k,k<=n/\P k/\∀i,i<k->¬P i:=λn=>by
 induction n using Nat.strongRecOn with
 |_ n ih =>
  intro h
  by_cases q:∃i,i<n/\P i
  ·obtain⟨i,hi,hp⟩:=q;obtain⟨k,h1,h2,h3⟩:=ih i hi hp;exact⟨k,∅,h2,h3⟩
  ·exact⟨n,x6 _,h,λi hi hp=>q ⟨i,hi,hp⟩⟩
structure qT (h:Int):Prop where
 go:∀m,lD m->jl m (10*(m+15)) (SetTable.bits h % (m+1)) (SetTable.runEnd m (SetTable.bits h % (m+1))-SetTable.bits h % (m+1)) (SetTable.bits h % (m+1)) (SetTable.bits h) 0=J
 lay:∀m,j6 m->nj m (m+15) (SetTable.bits h % (m+1)) (SetTable.bits h) 0=J
def kW(es:Array (Int×Δ))(i:Nat):Int:=(Option.map (λx:Int×Δ=>x.fst) es[i]?).getD 0
structure k7 (t:ω) (es:Array (Int×Δ)):Prop where
 size:t.place.size=es.size
 up:Up t.place.toList
 le:∀j∈t.place.toList,j<=t.mask
 dm:t.dummies=#[]
 mask:(t.mask=7/\es.size<=4)\/(t.mask=31/\es.size<=18)\/(t.mask=127/\es.size<=76)
 reach:∀q∈t.place.toList.zip es.toList,Reach t.mask (·∈t.place.toList) q.2.1 q.1
theorem k7.ok(I:k7 t es):lD t.mask:=by
 have:=I.mask;unfold lD;omega
theorem k7.fits(h:k7 t es):t.fits es.size=J:=by
 have:=h.mask;simp only[SetTable.fits,SetTable.fill,h.size,h.dm,RT,beq_self_eq_true,true_and,decide_eq_true_eq];simp;omega
theorem agI{l:List Nat}{r:List (Int×Δ)}{i j:Nat}{e:Int×Δ}(h1:l[i]? = O j)(h2:r[i]? = O e):(j,e)∈l.zip r:=by
 have:(l.zip r)[i]? = O (j,e):=by rw[WN];exact⟨h1,h2⟩
 exact R7 this
theorem ag7(h:Up l){i k j:Nat}(h1:l[i]? = O j)(h2:l[k]? = O j):i=k:=by
 obtain⟨a1,b1⟩:=Q9.mp h1;obtain⟨a2,b2⟩:=Q9.mp h2
 rcases TM i k with q|q|q
 ·have:=Sd.mp h i k a1 a2 q;omega
 ·exact q
 ·have:=Sd.mp h k i a2 a1 q;omega
theorem QL{p:Pb}(h:p.j+p.more<=m):(iI m p).j+(iI m p).more<=m:=by
 unfold iI;split
 ·dsimp only;omega
 ·dsimp only;have:(p.i*5+1+p.perturb/32) % _<m+1:=Tw _ ∅
  unfold SetTable.runEnd;split<;>omega
theorem ND:∀(n:Nat) {p:Pb},p.j+p.more<=m->(dP m n p).j+(dP m n p).more<=m
 |0,_,h=>h
 |n+1,_,h=>ND n (QL h)
theorem Jt(m:Nat)(h:Int):(kF m h).j+(kF m h).more<=m:=by
 have:SetTable.bits h % (m+1)<m+1:=Tw _ ∅
 unfold kF ly;dsimp only
 generalize SetTable.bits h % (m+1)=i at this
 unfold SetTable.runEnd;split<;>omega
theorem QD(m:Nat)(h:Int)(n:Nat):cG m h n<=m:=by
 have:=ND n (Jt m h);unfold cG;omega
theorem aaA{l:Array Nat}{r:Array (Int×Δ)}(hs:l.size=r.size):∀q∈(SetTable.insertAt l p j).toList.zip (SetTable.insertAt r p e).toList,q=(j,e)\/q∈l.toList.zip r.toList:=by
 intro q hq;rw[Uh,Uh]at hq;have hl:(l.toList.take p).length=(r.toList.take p).length:=by simp[hs]
 rw[Wt hl,Vf,RI,Bt]at hq;have hz:l.toList.zip r.toList=(l.toList.take p).zip (r.toList.take p)++(l.toList.drop p).zip (r.toList.drop p):=by
  rw[<-Wt hl,Sm,Sm]
 rw[hz,RI]
 rcases hq with q|q|q
 ·exact .inr (.inl q)
 ·exact .inl q
 ·exact .inr (.inr q)
theorem akM(I:k7 t es)(hj:j∉t.place.toList)(hle:j<=t.mask)(hr:Reach t.mask (·∈t.place.toList) h j):
  (SetTable.insertAt es (SetTable.below t.place j) (h,x)).size=es.size+1/\(t.put j).1.place.size=es.size+1/\Up (t.put j).1.place.toList/\(∀k∈(t.put j).1.place.toList,k<=t.mask)/\(t.put j).1.dummies=#[] /\
   (∀q∈(t.put j).1.place.toList.zip (SetTable.insertAt es (SetTable.below t.place j) (h,x)).toList,Reach t.mask (·∈(t.put j).1.place.toList) q.2.1 q.1):=by
 have hsz:=I.size;have hnd:(if SetTable.has t.dummies j then SetTable.eraseAt t.dummies (SetTable.below t.dummies j)else t.dummies)=#[]:=by
  rw[I.dm];rfl
 have hmem:∀k,k∈(SetTable.insertAt t.place (SetTable.below t.place j) j).toList↔k∈t.place.toList\/k=j:=λk=>by
  rw[(U0 t.place (SetTable.below t.place j) j).mem_iff,Ua,RI,RE]
 refine⟨?_,?_,IB I.up hj,λk hk=>?_,hnd,λq hq=>?_⟩
 ·rw[<-R8,(U0 ..).length_eq];simp
 ·show(SetTable.insertAt t.place (SetTable.below t.place j) j).size=_;rw[<-R8,(U0 ..).length_eq];simp[hsz]
 ·rcases(hmem k).mp hk with q|rfl
  ·exact I.le k q
  ·exact hle
 ·rcases aaA hsz q hq with rfl|q'
  ·exact hr.mono λk hk=>(hmem k).mpr (.inl hk)
  ·exact(I.reach q q').mono λk hk=>(hmem k).mpr (.inl hk)
theorem uP(m:Nat):∀(k:Nat) (p:Pb),k<=p.more->dP m k p={p with j:=p.j+k,more:=p.more-k}
 |0,p,_=>rfl
 |k+1,p,h=>by
  have ha:iI m p={p with j:=p.j+1,more:=p.more-1}:=by unfold iI;rw[if_pos ∅]
  show dP m k (iI m p)=_;rw[ha,uP m k _ (by dsimp only;omega)]
  dsimp only
  congr 1<;>omega
theorem D8(m i q:Nat):dP m (SetTable.runEnd m i-i+1) (ly m i q)=ly m ((i*5+1+q/32) % (m+1)) (q/32):=by
 rw[mZ m _ 1,uP m (SetTable.runEnd m i-i) (ly m i q) (x6 _)];show iI m _=_;unfold iI ly;dsimp only;rw[if_neg ∅]
theorem KL(m i:Nat):SetTable.runEnd m i-i<=9:=by unfold SetTable.runEnd;split<;>omega
theorem CZ(m i:Nat):i<=SetTable.runEnd m i:=by unfold SetTable.runEnd;split<;>omega
theorem OT{mask:Nat}{owner:Array (Option Nat)}:∀(fuel i q j:Nat),SetTable.layClean.free mask owner fuel i q=O j ->
  ∃n,n<10*fuel/\(dP mask n (ly mask i q)).j=j/\∀k,k<n->owner.getD (dP mask k (ly mask i q)).j (O 0)≠U
 |0,i,q,j,h=>by cases h
 |fuel+1,i,q,j,h=>by
  have h9:=KL mask i;have hg:=CZ mask i;unfold SetTable.layClean.free at h;cases hr:(η (SetTable.runEnd mask i+1-i)).find? (λk=>(owner.getD (i+k) (O 0)).isNone)with
  |some k =>
   rw[hr]at h;dsimp only at h;cases h;have hk:=dD.mp (Ve hr);refine⟨k,∅,?_,λk' hk'=>?_⟩
   ·rw[uP mask k _ (by show k<=SetTable.runEnd mask i-i;omega)]
    rfl
   ·rw[uP mask k' _ (by show k'<=SetTable.runEnd mask i-i;omega)]
    show owner.getD (i+k') (O 0)≠U;intro e;have hb:=Ws.mp hr;obtain⟨_,n,hn,en,abb⟩:=hb;have en':n=k:=by simpa using en
    have:=abb k' ∅
    simp[e]at this
  |none =>
   rw[hr]at h;dsimp only at h;have h:SetTable.layClean.free mask owner fuel ((i*5+1+q/32) % (mask+1)) (q/32)=O j:=h;obtain⟨n,hn,ej,hl⟩:=OT fuel _ _ j h;have hno:=TL.mp hr;refine⟨SetTable.runEnd mask i-i+1+n,∅,?_,λk hk=>?_⟩
   ·rw[mZ,D8];exact ej
   ·by_cases hk2:k<=SetTable.runEnd mask i-i
    ·rw[uP mask k _ hk2];show owner.getD (i+k) (O 0)≠U;intro e;have:=hno k (dD.mpr ∅)
     simp[e]at this
    ·rw[show k=SetTable.runEnd mask i-i+1+(k-(SetTable.runEnd mask i-i+1)) by omega,mZ,D8]
     exact hl _ ∅
structure xG (mask:Nat) (owner:Array (Option Nat)) (hs:List Int) (k:Nat):Prop where
 lay:qN mask owner k
 way:∀j i,owner.toList.getD j U=O i->∃h,hs[i]? = O h/\Reach mask (λs=>owner.getD s (O 0)≠U) h j
theorem ajT{mask:Nat}{owner:Array (Option Nat)}(I:qN mask owner k)(h:s<=mask):(owner.getD s (O 0)≠U)↔(owner.toList.getD s U≠U):=by
 have h1:=I.1;rw[ki];have hs:s<owner.toList.length:=∅
 rw[Iv,Iv,H8 hs];rfl
theorem Zx{mask:Nat}{owner:Array (Option Nat)}{hs:List Int}(hm:j6 mask)(hc:qT h)(I:xG mask owner hs k)(hk:k<=mask)(hh:hs[k]? = O h):
  ∃j,SetTable.layClean.free mask owner (SetTable.turns mask) (SetTable.bits h % (mask+1)) (SetTable.bits h)=O j/\xG mask (owner.setIfInBounds j (O k)) hs (k+1):=by
 obtain⟨h1,h2⟩:=I.lay;have hex:∃j,j<=mask/\owner.getD j (O 0)=U:=by
  by_cases q:∃j,j<=mask/\owner.getD j (O 0)=U
  ·exact q
  ·have:=Fp owner.toList λj hj e=>q ⟨j,∅,by rw[ki];exact e⟩
   have h3:=h2.length_eq;rw[Sb]at h3;omega
 obtain⟨j,e,e1⟩:=Eb (mask+15) _ _ 0 (SetTable.turns mask) (hc.lay mask hm) (x6 _) (λk _ hb=>by simp at hb) hex
 obtain⟨n,hn,ej,hl⟩:=OT _ _ _ _ e;rw[ki]at e1;have hj:j<owner.toList.length:=by
  rcases SQ j owner.toList.length with q|q
  ·exact q
  ·rw[Iv,TJ q]at e1;cases e1
 have grow:∀s,owner.getD s (O 0)≠U->(owner.setIfInBounds j (O k)).getD s (O 0)≠U:=λs hs=>by
  rw[ki,Ud,Iv,UZ];split
  ·first|(split<;>simp)|simp
  ·rw[ki,Iv]at hs;exact hs
 refine⟨j,e,⟨⟨by simpa using h1,?_⟩,λs i hs=>?_⟩⟩
 ·rw[Ud];refine(Fo _ j k hj e1).trans ?_;rw[Uc];exact(h2.cons k).trans (Ub k _).symm
 ·rw[Ud,Iv,UZ]at hs
  by_cases q:j=s
  ·subst q;rw[if_pos rfl,if_pos hj]at hs;have:k=i:=by simpa using hs
   subst this;exact⟨h,hh,n,by unfold SetTable.turns at hn;exact hn,ej,λk' hk'=>grow _ (hl k' hk')⟩
  ·rw[if_neg q]at hs;obtain⟨h',q1,q2⟩:=I.way s i (by rw[Iv];exact hs)
   exact⟨h',q1,q2.mono grow⟩
theorem Nc{mask:Nat}(hm:j6 mask)(all:List Int):∀(hs:List Int) (owner:Array (Option Nat)) (k:Nat),(∀h∈hs,qT h)->xG mask owner all k->k+hs.length<=mask->(∀i,hs[i]? = all[k+i]?\/hs.length<=i) ->
  ∃ow,hs.foldl (λacc h=>(do
   let(owner,k) <-acc
   let j <-SetTable.layClean.free mask owner (SetTable.turns mask) (SetTable.bits h % (mask+1)) (SetTable.bits h)
   pure (owner.setIfInBounds j (O k),k+1):Option (Array (Option Nat)×Nat))) (O (owner,k))=O (ow,k+hs.length)/\xG mask ow all (k+hs.length)
 |[],owner,k,_,I,_,_=>⟨owner,rfl,I⟩
 |h::hs,owner,k,hh,I,hl,hat=>by
  simp only[RG]at hl;have h0:all[k]? = O h:=by
   rcases hat 0 with q|q
   ·rw[UT]at q;rw[<-q];rfl
   ·simp at q
  obtain⟨j,e,I'⟩:=Zx hm (hh h (.head _)) I ∅ h0
  obtain⟨ow,e',xJ⟩:=Nc hm all hs _ (k+1) (λh x=>hh h (.tail _ x)) I' ∅ λi=>by
   rcases hat (i+1)with q|q
   ·left;rw[show k+1+i=k+(i+1) by omega,<-q];rfl
   ·right;simpa using q
  refine⟨ow,?_,by rw[RG,show k+(hs.length+1)=k+1+hs.length by omega];exact xJ⟩
  rw[TU,RG,show k+(hs.length+1)=k+1+hs.length by omega,<-e']
  congr 1
  show(do let j <-SetTable.layClean.free mask owner (SetTable.turns mask) (SetTable.bits h % (mask+1)) (SetTable.bits h);pure (owner.setIfInBounds j (O k),k+1):Option (Array (Option Nat)×Nat))=_
  rw[e];rfl
theorem Zy{mask:Nat}(hm:j6 mask)(hs:Array Int)(hh:∀h∈hs.toList,qT h)(hl:hs.toList.length<=mask) :
  ∃ow,SetTable.layClean mask hs=O ow/\xG mask ow hs.toList hs.toList.length:=by
 obtain⟨ow,e,I⟩:=Nc hm hs.toList hs.toList (Array.replicate (mask+1) U) 0 hh ⟨⟨by simp,by simp⟩,λj i h=>by
  rw[Array.toList_replicate,Iv,Xe]at h;split at h<;>cases h⟩ ∅ λi=>.inl (by rw[R6])
 rw[R6]at e I;refine⟨ow,?_,I⟩;unfold SetTable.layClean;rw[<-Ww];exact congrArg (Option.map (λx:Array (Option Nat)×Nat=>x.1)) e
theorem ai6{t:ω}{es:Array (Int×Δ)}(hh:∀e∈es.toList,qT e.1)(hm:es.size=5\/es.size=19) :
  ∃t2 order,t.relaid (es.map (·.1)) (SetTable.grown es.size)=O (t2,order)/\(order.filterMap (es[·]?)).size=es.size/\k7 t2 (order.filterMap (es[·]?))/\t2.led=t.led/\(order.filterMap (es[·]?)).toList.Perm es.toList:=by
 have hw:∃m,SetTable.sizeAbove (SetTable.grown es.size)-1=m/\((m=31/\es.size=5)\/(m=127/\es.size=19)):=by
  rcases hm with e|e
  ·rw[e];exact⟨31,⋯,.inl ⟨rfl,rfl⟩⟩
  ·rw[e];exact⟨127,⋯,.inr ⟨rfl,rfl⟩⟩
 obtain⟨m,ew,hq⟩:=hw;have hs:(es.map (·.1)).toList=es.toList.map (·.1):=by simp
 have hok:j6 m:=by unfold j6;omega
 have ER:∀h∈(es.map (·.1)).toList,qT h:=λh hx=>by
  rw[hs,AP]at hx;obtain⟨y,hy,rfl⟩:=hx;exact hh y hy
 have EL:(es.map (·.1)).toList.length<=m:=by rw[hs,P0,R8];omega
 obtain⟨ow,e,⟨h1,h2⟩,aax⟩:=Zy hok (es.map (·.1)) ER EL;rw[hs,P0,R8]at h2
 let live:List (Nat×Nat):=(η (m+1)).filterMap λj=>(ow.getD j U).map (j,·)
 have hlive:∀q:Nat×Nat,q∈live↔q.1<=m/\ow.toList.getD q.1 U=O q.2:=λq=>by
  simp only[live,UH,dD]
  constructor
  ·rintro ⟨c,hc,e⟩
   cases ha:ow.getD c U<;>rw[ha]at e<;>simp at e
   subst e;exact⟨by show c<=m;omega,by rw[<-ki];exact ha⟩
  ·rintro ⟨h1,h2⟩
   exact⟨q.1,∅,by rw[ki,h2];rfl⟩
 have hord:(live.map (·.2)).Perm (η es.size):=by
  have:live.map (·.2)=ow.toList.filterMap id:=by
   simp only[live];rw[<-C3,h1,Vh]
   congr 1
   funext j
   rw[ki];cases ow.toList.getD j U<;>rfl
  rw[this];exact h2
 have hup:Up (live.map (·.1)):=by
  show WV _ _;rw[Sa];refine Wv _ (λa a' hlt b hb b' hb'=>?_) UA
  cases ha:ow.getD a U<;>rw[ha]at hb<;>simp at hb
  cases ha':ow.getD a' U<;>rw[ha']at hb'<;>simp at hb'
  rw[<-hb,<-hb'];exact hlt
 have hlen:live.length=es.size:=by
  have:=hord.length_eq
  simpa using this
 have hes:(((live.map (·.2)).toArray).filterMap (es[·]?)).toList.Perm es.toList:=by
  rw[Vg];exact(hord.filterMap _).trans (by rw[Wu])
 have vV:(((live.map (·.2)).toArray).filterMap (es[·]?)).size=es.size:=by
  rw[<-R8,hes.length_eq,R8]
 have hlt:∀q∈live,q.2<es.size:=λq hq=>dD.mp (hord.mem_iff.mp (AP.mpr ⟨q,hq,rfl⟩))
 have hfm:∀(l:List (Nat×Nat)),(∀q∈l,q.2<es.size)->(l.map (·.2)).filterMap (es[·]?)=l.map λq=>es.toList.getD q.2 (0,.none):=by
  intro l
  induction l with
  |nil=>intro _;rfl
  |cons q l ih =>
   intro hq;have N5:q.2<es.size:=hq q (.head _);rw[Q8,Uu,Q8,ih λy hy=>hq y (.tail _ hy)]
   have:es[q.2]? = O (es.toList.getD q.2 (0,.none)):=by
    rw[<-Rj,Iv,H8 (by simpa using N5)]
    rfl
   rw[this]
 refine⟨{mask:=m,place:=(live.map (·.1)).toArray,dummies:=#[],finger:=t.finger,led:=t.led,moves:=t.movedTo m,plain:=t.plain},(live.map (·.2)).toArray,?_,vV,⟨?_,?_,?_,rfl,?_,?_⟩,rfl,hes⟩
 ·unfold SetTable.relaid SetTable.laid;rw[ew,e];rfl
 ·show((live.map (·.1)).toArray).size=_;rw[vV,Q3,P0,hlen]
 ·exact hup
 ·intro j hj;have hj:j∈live.map (·.1):=hj;obtain⟨q,hq,rfl⟩:=AP.mp hj;exact((hlive q).mp hq).1
 ·rw[vV];exact .inr (by show(m=31/\_)\/(m=127/\_);omega)
 ·intro q hq;have hq:q∈(live.map (·.1)).zip (((live.map (·.2)).toArray).filterMap (es[·]?)).toList:=hq;rw[Vg]at hq;have hq:q∈(live.map (·.1)).zip ((live.map (·.2)).filterMap (es[·]?)):=hq;rw[hfm live hlt,List.zip_map',AP]at hq;obtain⟨⟨j,i⟩,hji,rfl⟩:=hq;obtain⟨sZ,hjo⟩:=(hlive (j,i)).mp hji;obtain⟨h,hi,hr⟩:=aax j i hjo;have hil:=hlt (j,i) hji;have:h=(es.toList.getD i (0,.none)).1:=by
   rw[hs,RB,H8 (by simpa using hil)]at hi
   rw[Iv,H8 (by simpa using hil)]
   simpa using hi.symm
  subst this;obtain⟨n,hn,ej,hl⟩:=hr;refine⟨n,hn,ej,λk hk=>?_⟩
  have hle:=QD m (es.toList.getD i (0,.none)).1 k;have:=(ajT (k:=es.size) ⟨h1,h2⟩ hle).mp (hl k hk);show cG m _ k∈live.map (·.1);cases ho:ow.toList.getD (cG m (es.toList.getD i (0,.none)).1 k) U with
  |none=>exact absurd ho this
  |some i'=>exact AP.mpr ⟨(_,i'),(hlive (_,i')).mpr ⟨hle,ho⟩,rfl⟩
theorem zL{n:Nat}(h:n<128):hashInt (n:Int)=n:=by
 have:((η 128).all λn=>hashInt n==n)=J:=by decide +kernel
 exact eq_of_beq (RW.mp this n (dD.mpr h))
def fc(w:τ):Bool:=w.params.followText "set-order"
def gw(ns:List Nat)(x:Nat):List Nat:=if x∈ns then ns else ns++[x]
def iJ(l:List (Int×Δ))(ns:List Nat):Prop:=(l.map (·.1)).Perm (ns.map λn:Nat=>(n:Int))/\∀e∈l,∃(n:Nat) (tk:Tok),e=((n:Int),.int n tk)/\n<128
def dH(w:τ)(h:υ)(a:L)(ns:List Nat):Prop:=∃o es ep t,h.get? a=O o/\o.ExactSet/\o.data=.set es ep t/\pD t es.size/\t.led = !fc w/\iJ es.toList ns
theorem iJ.hs{ns:List Nat}(h:iJ l ns):HS l:=λe he=>by
 obtain⟨n,tk,rfl,hn⟩:=h.2 e he;exact⟨n,rfl,hn⟩
theorem iJ.len{ns:List Nat}(h:iJ l ns):l.length=ns.length:=by
 have:=h.1.length_eq;simpa using this
theorem iJ.mem{ns:List Nat}(h:iJ l ns)(n:Nat):n∈ns↔∃e∈l,e.1=(n:Int):=by
 constructor
 ·intro hn;have:_∈l.map (·.1):=h.1.mem_iff.mpr (AP.mpr ⟨n,hn,rfl⟩);obtain⟨e,he,q⟩:=AP.mp this;exact⟨e,he,q⟩
 ·rintro ⟨e,he,q⟩
  have:_∈ns.map _:=h.1.mem_iff.mp (AP.mpr ⟨e,he,q⟩);obtain⟨m,hm,r⟩:=AP.mp this;have:m=n:=∅
  exact this▸hm
theorem iJ.perm{l':List (Int×Δ)}{ns:List Nat}(h:iJ l ns)(p:l'.Perm l):iJ l' ns:=⟨(p.map _).trans h.1,λe he=>h.2 e (p.mem_iff.mp he)⟩
theorem iJ.push{ns:List Nat}(h:iJ l ns){m:Nat}(hm:m<128)(tk:Tok):iJ (l++[((m:Int),.int m tk)]) (ns++[m]):=by
 refine⟨?_,λe he=>?_⟩
 ·rw[S8,S8];exact h.1.append_right _
 ·rcases RI.mp he with he|he
  ·exact h.2 e he
  ·rw[RE]at he;exact⟨m,tk,he,hm⟩
section
variable {prog:ν}{w:τ}{A:χ}{E:Δ->Ψ->Prop}{s:Ψ}
theorem iJ.els{ns:List Nat}(h:iJ l ns):ElemsOf (intKind prog w) l:=λe he=>by
 obtain⟨n,tk,rfl,hn⟩:=h.2 e he;exact⟨⟨n,by simp[intKind,Value.isInt],(zL hn).symm⟩,rfl⟩
theorem yG{h:υ}(ho:h.get? a=O o)(hd:o.data=.set es ep t):
  (h.update a (Obj.putSet es' t')).get? a=O {o with data:=.set es' (ep+1) t'}:=by
 have:=UE (Obj.putSet es' t') ho (by rw[putSet_of es' t' hd];rfl)
 rwa[putSet_of es' t' hd]at this
theorem JE{ns:List Nat}{Q:Bool->Ψ->Prop}(hm:m<128)(hS:dH w s.heap a ns)(hn:ns.length<64)(h:∀b h',Sz a s.heap h'->dH w h' a (gw ns m)->Q b {s with heap:=h'}):wpAny (model prog w) A (setAddHashed a (.int m tk) (hashInt m)) Q E s:=by
 obtain⟨o,es,ep,t,ho,hex,hd,hI,hl,hs⟩:=hS;have hsz:es.size=ns.length:=by rw[<-R8];exact hs.len
 have hel:ElemsOf (intKind prog w) es.toList:=hs.els;have hkey:(intKind prog w).is (m:Int) (.int m tk)=J:=by simp[intKind,Value.isInt]
 refine RU (Rc (Rw ho hd hI.fits ?_));dsimp only;rw[byScan_of rfl (by unfold scanBound;omega) hel]
 simp only[↓reduceIte];refine Rc (Rc (U4 (Rc (wpAny_setScan_of hkey ho hd hI.fits hel ?_))));have hfind:∀e∈es.toList,(intKind prog w).is (m:Int) e.2=J->e.1=(m:Int):=λe he q=>by
  obtain⟨n,tk',rfl,_⟩:=hs.2 e he;obtain⟨t',q⟩:=TZ (show Value.isInt (m:Int) (.int (n:Int) tk')=J from q)
  injection q
 cases hr:es.toList.findIdx? (λe=>(intKind prog w).is (m:Int) e.2)with
 |some j =>
  dsimp only;obtain⟨hj,hpj,_⟩:=List.findIdx?_eq_some_iff_getElem.mp hr;have hmem:m∈ns:=(hs.mem m).mpr ⟨_,RA hj,hfind _ (RA hj) hpj⟩;refine ZA (ZA ?_);exact h ξ s.heap (Heap.SameBut.refl a s.heap) (by unfold gw;rw[if_pos hmem];exact⟨o,es,ep,t,ho,hex,hd,hI,hl,hs⟩)
 |none =>
  dsimp only;have hmem:m∉ns:=λhq=>by
   obtain⟨e,he,q⟩:=(hs.mem m).mp hq;have:=List.findIdx?_eq_none_iff.mp hr e he;obtain⟨n,tk',rfl,_⟩:=hs.2 e he;have e:n=m:=by dsimp only at q;omega
   subst e;simp[intKind,Value.isInt]at this
  have hst:gw ns m=ns++[m]:=by unfold gw;rw[if_neg hmem]
  rw[hst]at h;rw[zL hm];have sX:=layNew_perm t es (m:Int) (.int m tk);obtain⟨es1,t1,e1,q1,q2,q3,q4,q5,q6,q7,q8,q9⟩:=Zv hI hm ∅
  rw[e1]at sX ⊢;dsimp only at sX ⊢;rw[Ua]at sX;have hs1:=(hs.push hm tk).perm sX;refine Rc (ZA ?_);rw[q3];refine Rc ?_;rw[Wr 8 rfl];refine ZA ?_;dsimp only[plainKind];simp;refine Rc (UY ho hd ?_ (fits_of_scanBound (by unfold scanBound;omega)))
  have kU:=yG (es':=es1) (t':=t1) ho hd;have gk:=Ry s.heap a (Obj.putSet es1 t1);have hcs:=abV hI q8 (q4.trans q1) q7 ∅
  cases hf:t1.tooFull with
  |false =>
   simp only[US,WR,Ra,↓reduceIte];refine ZA (ZA (h J _ gk ⟨_,es1,ep+1,t1,kU,hex,rfl,⟨q4,q5,q6,q7,?_,q3⟩,q2.trans hl,hs1⟩));rw[q1];exact hcs.2 hf
  |true =>
   simp only[US,Bool.and_self,↓reduceIte];have hp2:=relayAll_perm t1 es1 (SetTable.grown es1.size);obtain⟨k6,t2,e2,r1,r2,r3⟩:=ai7 q3 hs1.hs (by rw[q1];exact hcs.1 hf)
   rw[e2]at hp2 ⊢;dsimp only at hp2 ⊢;refine Rc (ZA ?_);refine Rc (UY kU rfl ?_ (fits_of_scanBound (by unfold scanBound;omega)))
   exact ZA (ZA (h J _ (gk.trans (Ry _ a _)) ⟨_,k6,ep+1+1,t2,yG kU rfl,hex,rfl,r2,r3.trans (q2.trans hl),hs1.perm hp2⟩))
end
def fZ(xs:List Nat):List Nat:=xs.foldl gw []
theorem ab4{xs:List Nat}(h:i<xs.length):fZ (xs.take (i+1))=gw (fZ (xs.take i)) xs[i]:=by
 unfold fZ;rw[UX h,UW];rfl
theorem O1:∀(xs ns:List Nat),ns.length<=(xs.foldl gw ns).length
 |[],ns=>x6 _
 |x::xs,ns=>by
  have:=O1 xs (gw ns x);have h:ns.length<=(gw ns x).length:=by unfold gw;split<;>simp
  rw[TU];omega
theorem ab5(xs:List Nat)(i:Nat):(fZ (xs.take i)).length<=(fZ xs).length:=by
 have:fZ xs=(xs.drop i).foldl gw (fZ (xs.take i)):=by
  unfold fZ;rw[<-UW,Sm]
 rw[this];exact O1 _ _
theorem dH.at{h':υ}{ns:List Nat}(x:dH w h a ns)(k:∀o,h.get? a=O o->h'.get? a=O o):dH w h' a ns :=
 let⟨o,es,ep,t,ho,r⟩:=x;⟨o,es,ep,t,k o ho,r⟩
section
variable {prog:ν}{w:τ}{A:χ}{s:Ψ}{E:Δ->Ψ->Prop}
theorem JD{R:Result->Ψ->Prop}{wr:List L}{G:Array U6->Array U6->Prop}{P:Nat->Δ->Prop}{St:Nat->Ψ->Prop}{xs:List Nat}(W:WalksS prog w A.in1 I fp wr G xs.length P St)(S:L)(hSf:S∉fp)(hval:∀(i:Nat) v,(hi:i<xs.length)->P i v->∃t,v=Value.int (xs[i]:Nat) t)(hx:∀x∈xs,x<128)(h64:(fZ xs).length<64):
  ∀(k i:Nat) (s:Ψ),xs.length-i=k->i<=xs.length->St i s->dH w s.heap S (fZ (xs.take i)) ->
   (∀s',Moved (S::wr) G s s'->dH w s'.heap S (fZ xs)->R (.ok (.ret .none)) s') ->
   codeAny (model prog w) A (.builtin "set.update.loop" ⟨[.ref S,.ref I],[]⟩) R s:=by
 have zO:=λh=>hSf (W.sub _ h)
 have hup:∀b∈wr,b∈S::wr:=λb hb=>.tail _ hb
 intro k
 induction k with
 |zero =>
  intro i s hk hi st hS hR;cases(show i=xs.length by omega)
  refine S7 UU ?_;refine Rc (W.done s _ _ st λs' hm=>?_)
  rw[Rg]at hS;exact ZA (hR s' (hm.mono hup) (hS.at λo e=>hm.heap S _ zO e))
 |succ k ih =>
  intro i s hk hi st hS hR;have hlt:i<xs.length:=∅
  refine S7 UU ?_;rw[TH UR _];refine Rc (W.item i s _ _ hlt st λv s' hP st' hm=>?_)
  obtain⟨t,rfl⟩:=hval i v hlt hP;refine Rc (RU ?_);unfold setAdd;refine RU (Rc ((intKind prog w).pyHash (k:=(xs[i]:Nat)) (by simp[intKind,Value.isInt]) ?_))
  refine JE (s:={s' with toks:=s'.toks+1}) (hx _ (RA hlt)) (hS.at λo e=>hm.heap S _ zO e) (UD (ab5 xs i) h64) λb h' gk jC=>?_
  rw[<-ab4 hlt]at jC;refine ZA ⟨TF UR _,ih (i+1) _ ∅ hlt (W.frame _ s' _ _ st' (TR _) λb hb o e=>?_) jC λs'' EI EX=>?_⟩
  ·rw[gk.2 b (λq:b=S=>hSf (q▸hb))];exact e
  ·refine hR s'' (Moved.trans W.gtrans ((hm.mono hup).then_heap (TR _) λb o hb e=>?_) EI) EX
   rw[gk.2 b (λq:b=S=>hb (q▸.head _))];exact e
def cF(w:τ):Obj:={cls:=.type "set",dict:=U,data:=.set #[] 0 (.fresh 0 0 (!fc w))}
theorem FI(w:τ){h:υ}(e:h.get? a=O (cF w)):dH w h a [] :=
 ⟨_,#[],0,_,e,⟨rfl,rfl,rfl⟩,rfl,ah5 _,rfl,.refl _,λe he=>by cases he⟩
theorem CO(a:Δ){Q₁:Δ->Ψ->Prop}(h:Q₁ (.ref s.heap.objs.size) {s with heap:=s.heap.push (cF w)}) :
  codeAny (model prog w) A (.call (.builtin "set.__new__") ⟨[.type "set",a],[]⟩) (wants Q₁ E) s:=by
 refine VF (show wpAny _ A.in1 _ _ _ s from ?_)
 refine Rc (TQ (PySem.F.newCall_set_1 a) (ZA ⟨TF Wq _,S7 PySem.F.entry_set_new ?_⟩));rw[TH Wq _];unfold Builtin.«set.__new__» Builtin.Frozenset.newClass;have hsub:=UQ;obtain⟨hp,g,d,tk,os⟩:=s;dsimp only;wp_walk;refine SY (ZA ?_);dsimp only;simp only[newObj];exact Rc (wpAny_alloc (ZA (ZA h)))
set_option maxHeartbeats 3200000 in
theorem aib{l:L}{items:Array Δ}{xs:List Nat}{Q:Δ->Ψ->Prop}(hh:A.handled=U)(hl:s.heap.IsList l items)(hi:S4 items.toList (xs.map λn:Nat=>(n:Int)))(hx:∀x∈xs,x<128)(h64:(fZ xs).length<64)
  (h:∀(h':υ) (tk:Nat),dH w h' s.heap.objs.size (fZ xs)->(∀b o,b<s.heap.objs.size->s.heap.get? b=O o->h'.get? b=O o)->Q (.ref s.heap.objs.size) {s with heap:=h',toks:=tk}) :
  wpAny (model prog w) A (call (.type "set") [.ref l]) Q E s:=by
 obtain⟨c,tl,N9⟩:=RD.mro;have hmade:=RD.made;have hsub:=RD.sub;refine TX (VF (show wpAny _ _ (callAny (.type "set") _) _ _ _ from ?_))
 refine ZA ⟨Vd _ (by decide +kernel),S7 Vc ?_⟩
 rw[Vb (Va "set" [.ref l] []) rfl];have h1:=RD.notType;have h2:=RD.canCreate;have hct:=VZ (.ref l)
 repeat any_goals (first|assumption|wp_step)
 refine S1 (CO (.ref l) (E:=E) (Q₁:=λobj s₁=>obj=.ref s.heap.objs.size/\s₁={s with heap:=s.heap.push (cF w)}) ⟨rfl,rfl⟩) λr s₁ hr=>?_
 cases r with
 |error e=>exact hr
 |ok fl =>
  cases fl with
  |ret obj =>
   obtain⟨rfl,rfl⟩:=hr;have hS:(s.heap.push (cF w)).get? s.heap.objs.size=O (cF w):=Q4 _ rfl;have hT:VI {s with heap:=s.heap.push (cF w)} (.ref s.heap.objs.size) "set":=⟨_,hS,rfl⟩
   have hli:=RD.init.lookup;have hbi:=RD.init.bind (.ref s.heap.objs.size)
   repeat any_goals (first|assumption|wp_step)
   refine S1 (VY (R:=wants (λr s₂=>r=.none/\∃h' tk,s₂={s with heap:=h',toks:=tk}/\dH w h' s.heap.objs.size (fZ xs) /\
     (∀b o,b<s.heap.objs.size->s.heap.get? b=O o->h'.get? b=O o)) E) RD.init.plain VX (VW hT ?_)) λr₂ s₂ kT=>?_
   ·obtain⟨ol,ia,hcl,nl,hdl⟩:=hl;obtain⟨LZ,u7,LU,uZ⟩:=ol;simp only at hcl hdl;subst hcl;subst hdl;have oO:(s.heap.push (cF w)).get? l=O {cls:=.type "list",dict:=u7,data:=.seq items nl,slots:=uZ}:=J' _ ia;have NY:=Wo;have NZ:=Wn;have hne:(Value.type "list"==Value.type "dict")=ξ:=⋯
    have hl1:(s.heap.push (cF w)).IsList l items:=⟨_,oO,rfl,nl,rfl⟩;unfold cF at hS hT oO ⊢;unfold Builtin.«set.__init__» noKeywords Builtin.Frozenset.updateFrom
    generalize wc:pyIter=PI
    wp_walk
    subst wc;refine Sf hl1 (Rc (VU ?_));have hlS:l<s.heap.objs.size:=I8 ia;have hlen:items.size=xs.length:=by have:=hi.length;simpa using this
    have vS:l≠(s.heap.push (cF w)).objs.size:=by rw[RL];exact K1 (Rp hlS)
    have hSf:s.heap.objs.size∉[(s.heap.push (cF w)).objs.size,l]:=by
     rw[RL];simp only[Bt,RZ,or_false,not_or];exact⟨K1 (Rt _),Rn hlS⟩
    have W:=(TN (prog:=prog) (w:=w) (A:=A.in1.in1.in1) (by simp[hh]) (s.heap.push (cF w)).objs.size l vS items).toS
    rw[hlen]at W;refine JD (xs:=xs) W s.heap.objs.size hSf (λi v hi' hv=>?_) hx h64 xs.length 0 _ ∅ (RM _) ⟨⟨_,Q4 _ rfl,rfl,rfl⟩,hl1.push _⟩ (FI w (J' _ hS)) λs' hm hS'=>?_
    ·obtain⟨t,e⟩:=IntsAre.int_at hi i v (by rw[Rj];exact hv)
     exact⟨t,by rw[e];simp[Iv,H8 hi']⟩
    ·obtain⟨h',g',d',tk',os'⟩:=s';cases(show g'=s.gens from hm.gens)
     cases(show d'=s.drawn from hm.drawn)
     cases(show os'=s.os from hm.os)
     refine ZA (ZA ⟨rfl,h',tk',rfl,hS',λb o hb e=>?_⟩)
     exact hm.heap b o (by rw[RL];simp only[Bt,RZ,or_false,not_or];exact⟨K1 hb,K1 (Rp hb)⟩) (J' _ (J' _ e))
   ·cases r₂ with
    |error e=>exact kT
    |ok wj =>
     cases wj with
     |ret r =>
      obtain⟨rfl,h',tk,rfl,hS',hk'⟩:=kT
      repeat any_goals (first|assumption|wp_step)
      exact h _ _ hS' hk'
     |_=>exact kT.elim
  |_=>exact hr.elim
end
section
variable {X:Cx}{pins:List (L×Obj)}{Z:St}{H:Hp}{s:Ψ}{a:L}{y v:V}{u r:Δ}{o:Option V}{A:χ}{E:Δ->Ψ->Prop}
theorem acX(I:Inv X pins Z H s)(mu:xF (H a))(hs:Sz a s.heap h')(he:∃q,h'.get? a=O q)(new:ff X.prog X.w (upd H a ob) h' a ob):
  Inv X pins Z (upd H a ob) {s with heap:=h',toks:=t'} :=
 I.write mu (.inl rfl) (λb q hb z=>(hs.2 b hb).trans z) he new
end
def hT(ks:List Int):Int:=reduceHash (Builtin.Tuple.tupleHashOf (ks.map hashInt))
def hP(n:Nat):Int:=hT [((n/8:Nat):Int),((n % 8:Nat):Int)]
def lp(m:Nat)(p:Nat×Nat):Nat×Nat:=((p.1*5+1+p.2/32) % (m+1),p.2/32)
def gB(m:Nat):Nat->Nat×Nat->Nat×Nat
 |0,p=>p
 |n+1,p=>gB m n (lp m p)
theorem D3(m:Nat):∀(a b:Nat) (p:Nat×Nat),gB m (a+b) p=gB m b (gB m a p)
 |0,b,p=>by rw[R6];rfl
 |a+1,b,p=>by
  rw[show a+1+b=(a+b)+1 by omega]
  exact D3 m a b _
theorem MN(m:Nat):∀(n:Nat) (p:Nat×Nat),(gB m n p).2=p.2/32^n
 |0,p=>by simp[gB]
 |n+1,p=>by
  show(gB m n _).2=_;rw[MN m n];show p.2/32/32^n=_;rw[Nat.div_div_eq_div_mul,Nat.pow_succ,Nat.mul_comm]
theorem Zi(m:Nat)(hn:0<n)(p:Nat×Nat):(gB m n p).1<=m:=by
 cases n with
 |zero=>omega
 |succ n =>
  rw[D3 m n 1];have:(((gB m n p).1*5+1+(gB m n p).2/32) % _)<m+1:=Tw _ ∅
  show _ % _<=m;omega
theorem MM(m:Nat):∀(n i q:Nat),∃K,K<=10*n/\dP m K (ly m i q)=ly m (gB m n (i,q)).1 (gB m n (i,q)).2
 |0,i,q=>⟨0,∅,rfl⟩
 |n+1,i,q=>by
  obtain⟨K,hK,e⟩:=MM m n _ _;have h9:=KL m i;refine⟨SetTable.runEnd m i-i+1+K,∅,?_⟩
  rw[mZ,D8,e];rfl
def Dl(m:Nat):Nat->Nat->Nat->Nat
 |0,_,acc=>acc
 |n+1,i,acc=>Dl m n ((i*5+1) % (m+1)) (acc |||(1 <<< i))
theorem LA(m:Nat):∀(n i acc s:Nat),(Dl m n i acc).testBit s=J->acc.testBit s=J\/∃t,t<n/\(gB m t (i,0)).1=s
 |0,i,acc,s,h=>.inl h
 |n+1,i,acc,s,h=>by
  rcases LA m n _ _ s h with h|⟨t,ht,e⟩
  ·rw[wY]at h
   rcases SD _ _▸h with h|h
   ·exact .inl h
   ·exact .inr ⟨0,∅,(of_decide_eq_true h).symm⟩
  ·refine .inr ⟨t+1,∅,?_⟩
   show(gB m t _).1=s;rw[<-e];have:lp m (i,0)=((i*5+1) % (m+1),0):=by simp[lp]
   rw[this]
def yM(m:Nat):Bool:=(η (m+1)).all λi=>Nat.beq (Dl m (m+1) i 0) (2^(m+1)-1)
theorem aj5:yM 7=J:=by decide +kernel
theorem aj4:yM 31=J:=by decide +kernel
theorem aj3:yM 127=J:=by decide +kernel
theorem aj6(h:lD m)(hi:i<=m)(hs:s<=m):∃t,t<m+1/\(gB m t (i,0)).1=s:=by
 have ha:yM m=J:=by
  rcases h with rfl|rfl|rfl
  ·exact aj5
  ·exact aj4
  ·exact aj3
 have:=RW.mp ha i (dD.mpr ∅)
 rcases LA m _ i 0 s (by rw[(Nat.eq_of_beq_eq_true this),Sn];exact decide_eq_true ∅)with h|h
 ·simp at h
 ·exact h
theorem ad3(h:Int):SetTable.bits h<2^64:=by
 unfold SetTable.bits;omega
theorem QK(hm:lD m)(h:Int)(hs:s<=m):∃t,t<m+15/\(gB m t (SetTable.bits h % (m+1),SetTable.bits h)).1=s:=by
 have h13:(gB m 13 (SetTable.bits h % (m+1),SetTable.bits h)).2=0:=by
  rw[MN];exact Nat.div_eq_of_lt (by show SetTable.bits h<32^13;exact P7 (ad3 h) ⋯)
 obtain⟨t,ht,e⟩:=aj6 hm (Zi m (n:=13) ⋯ _) hs
 refine⟨13+t,∅,?_⟩
 rw[D3,<-e,<-h13]
theorem QJ(hm:lD m)(h:Int)(hs:s<=m):∃k,k<10*(m+15)/\cG m h k=s:=by
 obtain⟨t,ht,e⟩:=QK hm h hs;obtain⟨K,hK,eK⟩:=MM m t (SetTable.bits h % (m+1)) (SetTable.bits h);refine⟨K,∅,?_⟩
 unfold cG kF;rw[eK];exact e
theorem OQ(ha:a<2^(m+1))(h:∀s,s<=m->a.testBit s=J):a=2^(m+1)-1:=by
 apply Nat.eq_of_testBit_eq;intro s;rw[Sn]
 by_cases q:s<m+1
 ·rw[h s ∅,decide_eq_true q]
 ·rw[decide_eq_false q];exact Nat.testBit_lt_two_pow (P7 ha (VE ⋯ ∅))
theorem LB(ha:a<2^m)(hb:b<2^m):a |||b<2^m:=Nat.or_lt_two_pow ha hb
theorem aii(h:j<=m):1 <<< j<2^(m+1):=by
 rw[Wz];exact Nat.pow_lt_pow_right ⋯ ∅
theorem PM:∀(n:Nat) (p:Pb) (acc:Nat),1<=n->p.j+p.more<=m->acc<2^(m+1)->(∀s,s<=m->acc.testBit s=ξ->∃k,k<n/\(dP m k p).j=s)->jl m n p.j p.more p.i p.perturb acc=J
 |0,_,_,h,_,_,_=>∅
 |n+1,p,acc,_,hp,ha,hh=>by
  have ha':acc |||(1 <<< p.j)<2^(m+1):=LB ha (aii ∅)
  unfold jl
  by_cases e:acc |||(1 <<< p.j)=2^(m+1)-1
  ·rw[if_pos e]
  ·rw[if_neg e];have hx:∃s,s<=m/\(acc |||(1 <<< p.j)).testBit s=ξ:=Rh λq=>e (OQ ha' λs hs=>by
    cases hb:(acc |||(1 <<< p.j)).testBit s with
    |true=>rfl
    |false=>exact absurd ⟨s,hs,hb⟩ q)
   have key:∀s,s<=m->(acc |||(1 <<< p.j)).testBit s=ξ->∃k,k<n/\(dP m k (iI m p)).j=s:=λs hs hb=>by
    rw[wY]at hb;have hb':=Wm.mp hb;obtain⟨k,hk,ek⟩:=hh s hs hb'.1;cases k with
    |zero =>
     have:s=p.j:=ek.symm;have h2:=hb'.2;rw[this]at h2;simp at h2
    |succ k=>exact⟨k,∅,ek⟩
   obtain⟨s0,hs0,hb0⟩:=hx;obtain⟨k0,hk0,_⟩:=key s0 hs0 hb0;have ih:=PM n (iI m p) (acc |||(1 <<< p.j)) ∅ (QL hp) ha' key
   unfold iI at ih
   by_cases hm:p.more>0
   ·rw[if_pos hm]at ih ⊢;exact ih
   ·rw[if_neg hm]at ih ⊢;exact ih
theorem aji(m i:Nat):((2^(SetTable.runEnd m i+1-i)-1) <<< i).testBit i=J:=by
 have:=CZ m i;rw[Wy,Sn];simp;omega
theorem ajm(hi:i<=m):(2^(SetTable.runEnd m i+1-i)-1) <<< i<2^(m+1):=by
 have hr:SetTable.runEnd m i<=m:=by unfold SetTable.runEnd;split<;>omega
 have hg:=CZ m i;rw[Nat.shiftLeft_eq];have h1:(2^(SetTable.runEnd m i+1-i)-1)*2^i<2^(SetTable.runEnd m i+1-i)*2^i:=Nat.mul_lt_mul_of_pos_right (Nat.sub_lt (VD _) ⋯) (VD i)
 rw[<-Nat.pow_add]at h1;exact P7 h1 (VE ⋯ ∅)
theorem PN:∀(n i q acc:Nat),1<=n->i<=m->acc<2^(m+1)->(∀s,s<=m->acc.testBit s=ξ->∃t,t<n/\(gB m t (i,q)).1=s)->nj m n i q acc=J
 |0,_,_,_,h,_,_,_=>∅
 |n+1,i,q,acc,_,hi,ha,hh=>by
  have ha':=LB ha (ajm hi);unfold nj
  by_cases e:acc |||((2^(SetTable.runEnd m i+1-i)-1) <<< i)=2^(m+1)-1
  ·rw[if_pos e]
  ·rw[if_neg e];have hx:∃s,s<=m/\(acc |||_).testBit s=ξ:=Rh λq=>e (OQ ha' λs hs=>by
    cases hb:(acc |||_).testBit s with
    |true=>rfl
    |false=>exact absurd ⟨s,hs,hb⟩ q)
   have key:∀s,s<=m->(acc |||((2^(SetTable.runEnd m i+1-i)-1) <<< i)).testBit s=ξ->∃t,t<n/\(gB m t _).1=s:=λs hs hb=>by
    rw[Vj]at hb;have hb':=Wm.mp hb;obtain⟨k,hk,ek⟩:=hh s hs hb'.1;cases k with
    |zero =>
     have:s=i:=ek.symm;have h2:=hb'.2;rw[this,aji]at h2;cases h2
    |succ k=>exact⟨k,∅,ek⟩
   obtain⟨s0,hs0,hb0⟩:=hx;obtain⟨k0,hk0,_⟩:=key s0 hs0 hb0;exact PN n _ _ _ ∅ (by have:=Tw (i*5+1+q/32) (show 0<m+1 by omega);omega) ha' key
theorem adh(h:Int):qT h where
 go:=λm hm=>PM (10*(m+15)) (kF m h) 0 ∅ (Jt m h) (VD _) λs hs _=>QJ hm h hs
 lay:=λm hm=>by
  have hm':lD m:=hm.elim (λe=>.inr (.inl e)) λe=>.inr (.inr e)
  exact PN (m+15) _ _ 0 ∅ (by have:=Tw (SetTable.bits h) (show 0<m+1 by omega);omega) (VD _) λs hs _=>QK hm' h hs
abbrev Lk:=Int×List Int
def cy(P:ν)(w:τ)(Y:L->Prop)(h:υ)(k:Lk)(x:L):Prop:=∃o n t y,Y x/\Y y/\h.get? x=O o/\o.cls=.type "tuple"/\o.data=.seq #[.int k.1 t,.ref y] n/\SV (intKind P w) h k.2 y
def hL(k:Lk):Int:=reduceHash (Builtin.Tuple.tupleHashOf [hashInt k.1,hT k.2])
section
variable {prog:ν}{w:τ}{A:χ}{E:Δ->Ψ->Prop}{s:Ψ}{Y:L->Prop}
theorem aep.at{h':υ}(x:SV (intKind prog w) h k y)(e:∀o,h.get? y=O o->h'.get? y=O o):SV (intKind prog w) h' k y :=
 let⟨o,it,n,h1,r⟩:=x;⟨o,it,n,e o h1,r⟩
theorem cy.at{h':υ}(z:cy prog w Y h k x)(e:∀b,Y b->∀o,h.get? b=O o->h'.get? b=O o):cy prog w Y h' k x :=
 let⟨o,n,t,y,y1,y2,h1,h2,h3,h4⟩:=z
 ⟨o,n,t,y,y1,y2,e x y1 o h1,h2,h3,aep.at h4 (e y y2)⟩
theorem cy.typeIs(z:cy prog w Y s.heap k x):s.TypeIs (.ref x) "tuple":=let⟨o,_,_,_,_,_,h1,h2,_⟩:=z;⟨o,h1,h2⟩
theorem cy.inj(a:cy prog w Y h k x)(b:cy prog w Y h k' x):k=k':=by
 obtain⟨o,n,t,y,_,_,h1,_,h3,h4⟩:=a;obtain⟨o',n',t',y',_,_,g1,_,g3,g4⟩:=b;rw[h1]at g1;cases g1;rw[h3]at g3
 injection g3 with e _
 simp at e;obtain⟨⟨e1,_⟩,e2⟩:=e;subst e2;exact Prod.ext e1 (h4.inj g4)
theorem ints_of(h:ItemsAre (intKind prog w) ks vs):∀v∈vs,∃i t,v=.int i t:=by
 induction h with
 |nil=>intro v hv;cases hv
 |cons q _ ih =>
  intro v hv
  rcases Bt.mp hv with rfl|hv
  ·obtain⟨t,e⟩:=TZ q;exact⟨_,t,e⟩
  ·exact ih v hv
theorem adX{Q:Bool->Ψ->Prop}(hx:SV (intKind prog w) s.heap ks x)(h:Q J s):wpAny (model prog w) A (hashByValue (n+1) (.ref x)) Q E s:=by
 obtain⟨o,items,m,h1,h2,h3,h4⟩:=hx;refine Rc (SO ⟨o,h1,h2⟩ SN.lookup ?_);refine Rc (SA h1 h3 ?_);dsimp only[Option.getD];refine Rc ?_;rw[<-Tv];refine VC _ (λrest r s'=>r.1=U/\s'=s/\∀v∈rest,∃i t,v=.int i t) _ ?_ ?_ _ _ ⟨rfl,rfl,ints_of h4⟩
 ·rintro v rest r s' ⟨hr,rfl,hall⟩
  obtain⟨i,t,rfl⟩:=hall v Rf;simp only[Wr n (x:=.int i t) rfl,plainKind];exact ZA ⟨rfl,rfl,λu vQ=>hall u (Rb _ vQ)⟩
 ·rintro ⟨r1,r2⟩ s' ⟨hr,rfl,_⟩
  simp only at hr;subst hr;exact ZA h
theorem adV{Q:Bool->Ψ->Prop}(hx:cy prog w Y s.heap k x)(h:Q J s):wpAny (model prog w) A (hashByValue 8 (.ref x)) Q E s:=by
 obtain⟨o,n,t,y,_,_,h1,h2,h3,h4⟩:=hx;refine Rc (SO ⟨o,h1,h2⟩ SN.lookup ?_);dsimp only;refine Rc (SA h1 h3 ?_);dsimp only[Option.getD];refine Rc ?_;rw[<-Tv];refine Rc (Rc (ZA ?_));refine ZA ?_;refine Rc (Rc (adX h4 ?_));refine ZA ?_;exact ZA (ZA h)
theorem Yj{Q:Bool->Ψ->Prop}(hx:SV (intKind prog w) s.heap ks x)(h:Q ξ s):wpAny (model prog w) A (ofAClassStatement (n+1) (.ref x)) Q E s:=by
 obtain⟨o,items,m,h1,h2,h3,h4⟩:=hx;rw[ofAClassStatement.eq_def];refine Rc (wpAny_typeOf_ref h1 ?_);rw[h2];simp only;refine Rc (ZA ?_);simp only[Bool.not_true,Ra,if_false];refine Rc (SA h1 h3 ?_);refine Rc ?_;rw[<-Tv];refine VC _ (λrest r s'=>r.1=U/\s'=s/\∀v∈rest,∃i t,v=.int i t) _ ?_ ?_ _ _ ⟨rfl,rfl,ints_of h4⟩
 ·rintro v rest r s' ⟨hr,rfl,hall⟩
  obtain⟨i,t,rfl⟩:=hall v Rf;have e1:ofAClassStatement n (.int i t)=pure ξ:=by rw[ofAClassStatement.eq_def]
  rw[e1];exact Rc (ZA (ZA ⟨rfl,rfl,λu vQ=>hall u (Rb _ vQ)⟩))
 ·rintro ⟨r1,r2⟩ s' ⟨hr,rfl,_⟩
  simp only at hr;subst hr;exact ZA h
theorem Mc{Q:Bool->Ψ->Prop}(hx:cy prog w Y s.heap k x)(h:Q ξ s):wpAny (model prog w) A (ofAClassStatement 8 (.ref x)) Q E s:=by
 obtain⟨o,n,t,y,_,_,h1,h2,h3,h4⟩:=hx;rw[ofAClassStatement.eq_def];refine Rc (wpAny_typeOf_ref h1 ?_);rw[h2];refine Rc (ZA ?_);refine Rc (SA h1 h3 ?_);refine Rc ?_;rw[<-Tv];have e1:ofAClassStatement 7 (.int k.1 t)=pure ξ:=by rw[ofAClassStatement.eq_def]
 refine Rc (Rc (ZA ?_));refine ZA ?_;exact Rc (Rc (Yj h4 (ZA (ZA (ZA h)))))
theorem aka{Q:Bool->Ψ->Prop}(hk:SV (intKind prog w) s.heap ks a)(h:Q J s):wpAny (model prog w) A (eqIsQuiet (n+1) (.ref a)) Q E s:=by
 have hT:=hk.typeIs;obtain⟨o,items,m,ho,_,hd,hi⟩:=hk;unfold eqIsQuiet;refine Rc (SO hT VB.lookup ?_);refine Rc (SX hT VA ?_);refine Rc (SA ho hd ?_);refine Rc ?_;rw[<-Tv];refine VC _ (λrest r s'=>r.1=U/\s'=s/\∀v∈rest,carriedByValue v=J) _ ?_ ?_ _ _ ⟨rfl,rfl,hi.byValue⟩
 ·rintro v rest r s' ⟨hr,rfl,hall⟩
  rw[eqIsQuiet_byValue _ (hall v Rf)];exact ZA ⟨rfl,rfl,λu vQ=>hall u (Rb _ vQ)⟩
 ·rintro ⟨r1,r2⟩ s' ⟨hr,rfl,_⟩
  subst hr;exact ZA h
theorem C4{Q:Bool->Ψ->Prop}(hx:cy prog w Y s.heap k x)(h:Q J s):wpAny (model prog w) A (eqIsQuiet 8 (.ref x)) Q E s:=by
 have hT:=hx.typeIs;obtain⟨o,n,t,y,_,_,h1,h2,h3,h4⟩:=hx;unfold eqIsQuiet;refine Rc (SO hT VB.lookup ?_);refine Rc (SX hT VA ?_);refine Rc (SA h1 h3 ?_);refine Rc ?_;show wpAny _ _ (forIn #[Value.int k.1 t,Value.ref y] _ _) _ _ s;rw[<-Tv];refine Rc (Rc (ZA ?_));refine ZA ?_;dsimp only;refine Rc (Rc (aka (n:=6) h4 ?_));refine ZA ?_;exact ZA (ZA h)
theorem abg{Q:Int->Ψ->Prop}(hu:A.units+8<Q7)(hx:cy prog w Y s.heap k x)(h:∀tk,s.toks<=tk->Q (hL k) {s with toks:=tk}):wpAny (model prog w) A (pyHash (.ref x)) Q E s:=by
 have hTy:=hx.typeIs;obtain⟨o,n,t,y,_,_,h1,h2,h3,h4⟩:=hx
 first|unfold pyHashByItsType|skip
 first|refine Rc (wpAny_cRoomFor_or (.inr ∅) ?_)|skip
 refine Rc (SO hTy SN.lookup ?_);show wpAny _ _ (if(O (Value.builtin "tuple.__hash__")==O Value.none)=J then _ else _) Q E s
 rw[if_neg (by rw[beq_builtin_none];exact RH)]
 refine Rc (SO hTy SN.lookup ?_);show wpAny _ _ _ Q E s;refine Rc (Wl hTy SN (Rz SN hTy F.entry_tuple_hash ?_ (F.args_tuple_hash_1 _)));show wpAny _ _ (Builtin.Tuple.tupleItemsOf (.ref x) >>= _) _ _ s;refine Rc (Tu h1 h3 ?_);refine Rc ?_;refine Rc (Rc ((intKind prog w).pyHash (k:=k.1) (by simp[intKind,Value.isInt]) ?_))
 first
  |refine ZA ?_
  |refine Rc _
 refine Rc (Rc ((tupleKind (intKind prog w)).pyHash (k:=k.2) (by show A.units+1<Q7;omega) h4 ?_))
 first
  |refine ZA ?_
  |refine Rc (ZA (ZA ?_))
 refine ZA ?_;show wpAny _ _ (retInt (Builtin.Tuple.tupleHashOf [hashInt k.1,L2.hT k.2])) _ _ _;refine wpAny_ret_mkInt ?_;show wpAny _ _ (if(decide (-(2:Int)^63<=Builtin.Tuple.tupleHashOf [hashInt k.1,L2.hT k.2])&&decide _)=J then _ else _) Q E _
 unfold hL reduceHash at h
 by_cases hr:(decide (-(2:Int)^63<=Builtin.Tuple.tupleHashOf [hashInt k.1,L2.hT k.2])&&decide (Builtin.Tuple.tupleHashOf [hashInt k.1,L2.hT k.2]<2^63))=J
 ·rw[if_pos hr];rw[if_pos hr]at h;exact ZA (h _ (by simp;omega))
 ·rw[if_neg hr];rw[if_neg hr]at h;exact Rc (U4 (ZA (h _ (by simp;omega))))
theorem acK{P:WU->Ψ->Prop}(hu:A.units+4<Q7)(hx:cy prog w Y s.heap j a)(hy:cy prog w Y s.heap k b)(h:P (.done (.ret (.bool (decide (j=k))))) s):
  wpAny (model prog w) A (Builtin.«tuple.__eq__» ⟨[.ref a,.ref b],[]⟩) P E s:=by
 have hTb:=hy.typeIs;obtain⟨o,n,t,y,_,_,h1,h2,h3,h4⟩:=hx;obtain⟨o',n',t',y',_,_,g1,g2,g3,g4⟩:=hy;show wpAny _ _ (isInstance _ _ >>= _) _ _ s;refine Rc (SX hTb VA ?_);refine Rc (Tu h1 h3 ?_);refine Rc (Tu g1 g3 ?_);refine Rc ?_;refine Rc (Rc ((intKind prog w).eqBool (a:=j.1) (b:=k.1) (by simp[intKind,Value.isInt]) (by simp[intKind,Value.isInt]) ?_))
 by_cases e1:j.1=k.1
 ·rw[decide_eq_true e1];refine ZA ?_;refine Rc (Rc ((tupleKind _).eqBool (by show A.units<Q7;omega) h4 g4 ?_))
  by_cases e2:j.2=k.2
  ·rw[decide_eq_true e2];refine ZA (ZA ?_);rw[decide_eq_true (Prod.ext e1 e2)]at h;exact ZA h
  ·rw[decide_eq_false e2];rw[decide_eq_false (λz=>e2 (by rw[z]))]at h
   exact Rc (ZA (ZA (ZA (ZA h))))
 ·rw[decide_eq_false e1];rw[decide_eq_false (λz=>e1 (by rw[z]))]at h
  exact Rc (ZA (ZA (ZA (ZA h))))
theorem FE{Q:Bool->Ψ->Prop}(hu:A.units+8<Q7)(hx:cy prog w Y s.heap j a)(hy:cy prog w Y s.heap k b)(h:Q (decide (j=k)) s):wpAny (model prog w) A (eqBool (.ref a) (.ref b)) Q E s:=by
 unfold eqBool
 try with_reducible refine RU ?_
 show wpAny _ _ (if(Value.ref a==Value.ref b)=J then _ else _) Q E s
 by_cases hab:(Value.ref a==Value.ref b)=J
 ·rw[if_pos hab];have e:a=b:=by have:=eq_of_beq hab;injection this
  subst e;obtain rfl:=hx.inj hy;exact Rc (U4 (ZA (by simpa using h)))
 ·rw[if_neg hab];exact Rc (Wj (op:=.Eq) hx.typeIs hy.typeIs VB
   (Rz VB hx.typeIs F.entry_tuple_eq (acK (by show A.units+1+4<Q7;omega) hx hy ⟨_,rfl,(λe=>nomatch e),Sg h⟩) (F.args_tuple_eq_2 _ _)) ∅)
end
theorem Ll{α β:Type}{f:α->β}:∀{l:List β}{r:List α},l.Perm (r.map f)->∃l2:List α,l=l2.map f/\l2.Perm r:=by
 intro l r h
 generalize hm:r.map f=m at h
 induction h generalizing r with
 |nil =>
  cases r with
  |nil=>exact⟨[],rfl,.refl _⟩
  |cons a r=>cases hm
 |cons x _ ih =>
  cases r with
  |nil=>cases hm
  |cons a r =>
   injection hm with h1 h2
   obtain⟨l2,e,p⟩:=ih h2;exact⟨a::l2,by rw[Q8,h1,e],p.cons a⟩
 |swap x y l =>
  cases r with
  |nil=>cases hm
  |cons a r =>
   cases r with
   |nil=>simp at hm
   |cons b r =>
    injection hm with h1 h2
    injection h2 with h3 h4
    exact⟨b::a::r,by simp only[Q8];rw[h1,h3,h4],.swap a b r⟩
 |trans _ _ ih1 ih2 =>
  obtain⟨l2,e,p⟩:=ih2 hm;obtain⟨l3,e3,p3⟩:=ih1 e.symm;exact⟨l3,e3,p3.trans p⟩
def fF(ks:List Lk)(k:Lk):List Lk:=if k∈ks then ks else ks++[k]
abbrev lW(f:Lk->Int)(q:Lk×L):Int×Δ:=(f q.1,.ref q.2)
def jM(P:ν)(w:τ)(f:Lk->Int)(Y:L->Prop)(h:υ)(a:L)(ks:List Lk):Prop:=∃o es ep t,∃Θ:List (Lk×L),h.get? a=O o/\o.ExactSet/\o.data=.set es ep t/\k7 t es/\t.plain=J/\t.led = !fc w/\es.toList=Θ.map (lW f)/\(∀q∈Θ,cy P w Y h q.1 q.2)/\(Θ.map (·.1)).Perm ks
section
variable {prog:ν}{w:τ}{A:χ}{E:Δ->Ψ->Prop}{s:Ψ}{Y:L->Prop}
theorem Yg{Q:Bool->Ψ->Prop}(hx:cy prog w Y s.heap ks x)(l:List Δ)(hl:∀v∈l,∃k y,v=.ref y/\cy prog w Y s.heap k y)(h:Q ξ s):wpAny (model prog w) A (searchCouldBeSeen (.ref x) l) Q E s:=by
 refine Rc ?_;have go:∀(l:List Δ),(∀v∈l,∃k y,v=.ref y/\cy prog w Y s.heap k y)->∀{R:Option Bool×Unit->Ψ->Prop},R (U,()) s->wpAny (model prog w) A (forIn l (U,()) λy __s =>
    have ag4 :=
     match(Value.ref x),y with
     |Value.ref a,Value.ref b=>a==b
     |x,x_1=>ξ;
    if(ag4||carriedByValue (.ref x)&&carriedByValue y)=J then pure (ForInStep.yield (U,()))
    else do
     let __do_lift <-eqIsQuiet 8 (.ref x)
     if(!__do_lift)=J then pure (ForInStep.done (O J,()))
      else do
       let __do_lift <-eqIsQuiet 8 y
       if(!__do_lift)=J then pure (ForInStep.done (O J,()))
        else do
         let __do_lift <-ofAClassStatement 8 (.ref x)
         if __do_lift=J then pure (ForInStep.done (O J,()))
          else do
           let __do_lift <-ofAClassStatement 8 y
           if __do_lift=J then pure (ForInStep.done (O J,()))
            else pure (ForInStep.yield (U,()))) R E s:=by
  intro l
  induction l with
  |nil=>intro _ R hR;exact ZA hR
  |cons v l ih =>
   intro hl R hR;obtain⟨k,y,rfl,hy⟩:=hl _ (.head _);have ih:=ih (λv hv=>hl v (.tail _ hv)) (R:=R)
   rw[Xq];refine Rc ?_
   by_cases q:(x==y||carriedByValue (.ref x)&&carriedByValue (.ref y))=J
   ·rw[if_pos q];exact ZA (ih hR)
   ·rw[if_neg q];refine Rc (C4 hx ?_);refine Rc (C4 hy ?_);refine Rc (Mc hx ?_);exact Rc (Mc hy (ZA (ih hR)))
 exact go l hl (ZA h)
theorem NF(m n n':Nat)(p:Pb)(h:n<=n'):dP m (n'-n) (dP m n p)=dP m n' p:=by
 rw[<-mZ]
 congr 1
 omega
theorem abj{t:ω}(hn:n<=n')(hf:n'-n<10*(t.mask+15))(hlive:∀k,n<=k->k<n'->∃i,t.slot (cG t.mask h k)=.live i/\(kW es i==h)=ξ)(s1:t.slot (cG t.mask h n')=.live i)(s2:kW es i=h):
  t.probe (kW es) h (dP t.mask n (kF t.mask h))=O (.candidate (cG t.mask h n') i (dP t.mask (n'+1) (kF t.mask h))):=by
 have EA:=E7 (n'-n) (10*SetTable.turns t.mask) _ (by unfold SetTable.turns;omega) λk hk=>by
  have:=hlive (n+k) ∅ ∅
  unfold cG at this
  rwa[mZ]at this
 obtain⟨f,hf'⟩:∃f,10*SetTable.turns t.mask-(n'-n)=f+1:=⟨10*SetTable.turns t.mask-(n'-n)-1,by unfold SetTable.turns;omega⟩
 show SetTable.probe.go t _ h _ _=_;rw[EA,hf',NF _ _ _ _ hn];unfold SetTable.probe.go;have s1:t.slot (dP t.mask n' _).j=.live i:=s1;rw[s1];dsimp only;rw[s2,QM];simp only[beq_self_eq_true,if_true];rw[mZ _ n' 1];rfl
theorem abi{t:ω}(hn:n<=n')(hf:n'-n<10*(t.mask+15))(hlive:∀k,n<=k->k<n'->∃i,t.slot (cG t.mask h k)=.live i/\(kW es i==h)=ξ)(s1:t.slot (cG t.mask h n')=.empty):
  t.probe (kW es) h (dP t.mask n (kF t.mask h))=O (.empty (cG t.mask h n') U):=by
 have EA:=E7 (n'-n) (10*SetTable.turns t.mask) _ (by unfold SetTable.turns;omega) λk hk=>by
  have:=hlive (n+k) ∅ ∅
  unfold cG at this
  rwa[mZ]at this
 obtain⟨f,hf'⟩:∃f,10*SetTable.turns t.mask-(n'-n)=f+1:=⟨10*SetTable.turns t.mask-(n'-n)-1,by unfold SetTable.turns;omega⟩
 show SetTable.probe.go t _ h _ _=_;rw[EA,hf',NF _ _ _ _ hn];unfold SetTable.probe.go;have s1:t.slot (dP t.mask n' _).j=.empty:=s1;rw[s1];rw[NG];rfl
theorem aiG(I:k7 t es)(s1:t.slot j=.live i):∃e,es[i]? = O e/\kW es i=e.1/\t.place[i]? = O j:=by
 have hpl:t.place[i]? = O j:=by
  unfold SetTable.slot at s1;dsimp only at s1;split at s1
  ·rename_i q;cases s1;exact eq_of_beq q
  ·split at s1<;>cases s1
 have hlt:i<t.place.size:=by
  rw[<-Rj]at hpl
  simpa using(Q9.mp hpl).1
 have EJ:i<es.size:=by rw[<-I.size];exact hlt
 refine⟨es[i],T9 EJ,?_,hpl⟩;unfold kW;rw[T9 EJ];rfl
theorem Zs{P:Nat->Prop}(hab:a<=b)(hb:P b):∃n,a<=n/\n<=b/\P n/\∀k,a<=k->k<n->¬P k:=by
 obtain⟨k,h1,h2,h3⟩:=least (P:=λd=>P (a+d)) _ (by rw[show a+(b-a)=b by omega];exact hb)
 exact⟨a+k,∅,∅,h2,λi hi hk hp=>h3 (i-a) ∅ (by rw[show a+_=i by omega];exact hp)⟩
theorem abO(I:k7 t es):t.gaveWay=ξ:=by
 unfold SetTable.gaveWay
 rcases I.ok with e|e|e<;>rw[e]<;>rfl
theorem JH{f:Lk->Int}{Θ:List (Lk×L)}{Q:SetFound->Ψ->Prop}(hr:A.units+8<Q7)(ho:s.heap.get? a=O o)(hd:o.data=.set es ep t)(I:k7 t es)(hL':es.toList=Θ.map (lW f))(hu:∀q∈Θ,cy prog w Y s.heap q.1 q.2)(hx:cy prog w Y s.heap k x)(hN:N<10*(t.mask+15))(hb:∀m,m<N->cG t.mask (f k) m∈t.place.toList)(h1:cG t.mask (f k) N∉t.place.toList->Q (.free (cG t.mask (f k) N) ξ) s)(h2:cG t.mask (f k) N∈t.place.toList->(∃i y,t.slot (cG t.mask (f k) N)=.live i/\es[i]? = O (f k,.ref y)/\cy prog w Y s.heap k y))(h3:∀y,cy prog w Y s.heap k y->(k,y)∈Θ->Q (.there U) s):
  ∀(d n fuel:Nat) (stand:Option WW),N-n=d->n<=N->d<fuel->stand.getD (t.probeStart (f k))=dP t.mask n (kF t.mask (f k))->wpAny (model prog w) A (setSearchFrom a (.ref x) (f k) J fuel stand) Q E s:=by
 intro d
 induction d using Nat.strongRecOn with
 |_ d ih =>
  intro n fuel stand hdn hnN hfu hst;obtain⟨fuel,rfl⟩:∃f,fuel=f+1:=⟨fuel-1,∅⟩
  unfold setSearchFrom;refine Rc (Rw ho hd I.fits ?_);dsimp only;rw[abO I];simp only[Ra,if_false];rw[hst];obtain⟨n',hn1,hn2,hp,hmin⟩:=Zs (P:=λm=>t.slot (cG t.mask (f k) m)=.empty\/∃i,t.slot (cG t.mask (f k) m)=.live i/\kW es i=f k) hnN (by
   by_cases q:cG t.mask (f k) N∈t.place.toList
   ·obtain⟨i,y,s1,s2,_⟩:=h2 q;refine .inr ⟨i,s1,?_⟩;unfold kW;rw[s2];rfl
   ·exact .inl (aiH I.dm q))
  have hlive:∀m,n<=m->m<n'->∃i,t.slot (cG t.mask (f k) m)=.live i/\(kW es i==f k)=ξ:=λm hm1 hm2=>by
   obtain⟨i,q1,_⟩:=yq I.up (hb m ∅)
   refine⟨i,q1,?_⟩;cases hq:kW es i==f k with
   |false=>rfl
   |true=>exact absurd (.inr ⟨i,q1,eq_of_beq hq⟩) (hmin m hm1 hm2)
  rcases hp with hp|⟨i,s1,s2⟩
  ·have kh:=abi hn1 ∅ hlive hp
   have hNn:n'=N:=Rh λq=>by
    obtain⟨i,q1,_⟩:=yq I.up (hb n' ∅)
    rw[hp]at q1;cases q1
   subst hNn;have hnp:cG t.mask (f k) n'∉t.place.toList:=λq=>by
    obtain⟨i,q1,_⟩:=yq I.up q;rw[hp]at q1;cases q1
   split
   ·rename_i met heq;have hm:met=.empty (cG t.mask (f k) n') U:=by
     have:=heq.symm.trans kh;cases this;rfl
    subst hm;dsimp only;exact ZA (h1 hnp)
   ·rename_i hne;exact absurd kh (hne _)
  ·have kh:=abj hn1 ∅ hlive s1 s2
   obtain⟨e,he,hae,hpl⟩:=aiG I s1;have hem:e∈Θ.map (lW f):=by rw[<-hL'];exact R7 (by rw[Rj];exact he)
   obtain⟨q,hq,rfl⟩:=AP.mp hem;have hy:=hu q hq;split
   ·rename_i met heq;have hm:met=.candidate (cG t.mask (f k) n') i (dP t.mask (n'+1) (kF t.mask (f k))):=by
     have:=heq.symm.trans kh;cases this;rfl
    subst hm;dsimp only;simp only[he];cases hl:t.led with
    |false =>
     simp only[US,if_true];refine Rc (Yg hx _ (λv hv=>?_) ?_)
     ·obtain⟨e,he,rfl⟩:=AP.mp hv;have he:e∈es.toList:=by
       have:=Array.mem_filter.mp (WG.mp he);exact WG.mpr this.1
      rw[hL']at he;obtain⟨q',hq',rfl⟩:=AP.mp he;exact⟨q'.1,q'.2,rfl,hu q' hq'⟩
     ·simp only[Ra,if_false];refine Rc (RU (FE hr hy hx ?_));refine Rc (Rw ho hd I.fits ?_)
      by_cases ek:q.1=k
      ·rw[decide_eq_true ek];rw[if_pos (by simp)]
       refine ZA (h3 q.2 (ek▸hy) ?_);rw[<-ek];exact hq
      ·rw[decide_eq_false ek];have hsm:t.sameMemory t.moves t.mask=O J:=by unfold SetTable.sameMemory;rw[if_pos (by simp)]
       have hlt:n'<N:=by
        rcases SQ n' N with z|z
        ·exact z
        ·exfalso;have:n'=N:=∅
         subst this;have hin:cG t.mask (f k) n'∈t.place.toList:=by
          rw[<-Rj]at hpl;exact R7 hpl
         obtain⟨i2,y2,r1,r2,r3⟩:=h2 hin;rw[s1]at r1;cases r1;rw[he]at r2;simp only[Wi,VT,Value.ref.injEq]at r2;rw[<-r2.2]at r3;exact ek (hy.inj r3)
       have hsame:isSame (.ref q.2) (.ref q.2)=pure J:=by
        unfold isSame;dsimp only;rw[if_pos (by simp)]
       simp only[hsm,if_true,s1,he,hsame,pure_bind];exact ih (N-(n'+1)) ∅ (n'+1) fuel _ rfl ∅ ∅ rfl
    |true =>
     refine Rc (RU (FE hr hy hx ?_));refine Rc (Rw ho hd I.fits ?_)
     by_cases ek:q.1=k
     ·rw[decide_eq_true ek];rw[if_pos (by simp)]
      refine ZA (h3 q.2 (ek▸hy) ?_);rw[<-ek];exact hq
     ·rw[decide_eq_false ek];have hsm:t.sameMemory t.moves t.mask=O J:=by unfold SetTable.sameMemory;rw[if_pos (by simp)]
      have hlt:n'<N:=by
       rcases SQ n' N with z|z
       ·exact z
       ·exfalso;have:n'=N:=∅
        subst this;have hin:cG t.mask (f k) n'∈t.place.toList:=by
         rw[<-Rj]at hpl;exact R7 hpl
        obtain⟨i2,y2,r1,r2,r3⟩:=h2 hin;rw[s1]at r1;cases r1;rw[he]at r2;simp only[Wi,VT,Value.ref.injEq]at r2;rw[<-r2.2]at r3;exact ek (hy.inj r3)
      have hsame:isSame (.ref q.2) (.ref q.2)=pure J:=by
       unfold isSame;dsimp only;rw[if_pos (by simp)]
      simp only[hsm,if_true,s1,he,hsame,pure_bind];exact ih (N-(n'+1)) ∅ (n'+1) fuel _ rfl ∅ ∅ rfl
   ·rename_i hne;exact absurd kh (hne _)
end
theorem ai5{t:ω}{hs:Array Int}(h:t.relaid hs n=O (t2,o)):t2.plain=t.plain:=by
 unfold SetTable.relaid SetTable.laid at h;cases hc:SetTable.layClean _ hs with
 |none=>rw[hc]at h;cases h
 |some ow =>
  rw[hc]at h;simp at h;rw[<-h.1]
section
variable {prog:ν}{w:τ}{A:χ}{E:Δ->Ψ->Prop}{s:Ψ}{Y:L->Prop}
theorem aiq{f:Lk->Int}{Q:Bool->Ψ->Prop}(hr:A.units+8<Q7)(hx:cy prog w Y s.heap k x)(Ot:¬Y a)(hS:jM prog w f Y s.heap a ks)(hn:ks.length<64)(h:∀b h',Sz a s.heap h'->jM prog w f Y h' a (fF ks k)->Q b {s with heap:=h'}):wpAny (model prog w) A (setAddHashed a (.ref x) (f k)) Q E s:=by
 have hS0:=hS;obtain⟨o,es,ep,t,Θ,ho,hex,hd,I,aaD,lS,hL,hu,hp⟩:=hS;have hsz:es.size=ks.length:=by
  have:=congrArg List.length hL;rw[P0,R8]at this;rw[this,<-hp.length_eq,P0]
 unfold setAddHashed setAddHashedIn;refine RU (Rc (Rw ho hd I.fits ?_));dsimp only;rw[show byScan (.ref x) es=ξ from rfl]
 simp only[Ra,if_false]
 by_cases hk2:k∈ks
 ·have hkL:k∈Θ.map (·.1):=hp.mem_iff.mpr hk2;obtain⟨q,hq,rfl⟩:=AP.mp hkL;have he:lW f q∈es.toList:=by rw[hL];exact AP.mpr ⟨q,hq,rfl⟩
  obtain⟨i0,hi0,ee⟩:=S9 he;have e1:es.toList[i0]? = O (lW f q):=by rw[H8 hi0,ee]
  have hsz2:t.place.toList.length=es.toList.length:=by simp[I.size]
  obtain⟨j0,hj0⟩:∃j0,t.place.toList[i0]? = O j0:=⟨_,H8 ∅⟩
  obtain⟨N,hN,ha0,EM⟩:=I.reach (j0,lW f q) (agI hj0 e1);have hm0:j0∈t.place.toList:=R7 hj0;have ha0:cG t.mask (f q.1) N=j0:=ha0;have hst:fF ks q.1=ks:=by unfold fF;rw[if_pos hk2]
  rw[hst]at h;unfold setSearch;refine Rc (JH (f:=f) (N:=N) hr ho hd I hL hu hx hN EM (λz=>absurd (ha0▸hm0) z) (λ_=>?_) (λy hy _=>?_) N 0 100000 U ∅ (RM _) ?_ rfl)
  ·obtain⟨i,s1,s2⟩:=yq I.up hm0;rw[<-Rj]at s2;have:=ag7 I.up s2 hj0;subst this;exact⟨i,q.2,by rw[ha0];exact s1,by rw[<-Rj];exact e1,hu q hq⟩
  ·exact ZA (h ξ s.heap (Heap.SameBut.refl a s.heap) hS0)
  ·have:=I.mask;omega
 ·have hsz2:t.place.toList.length=es.toList.length:=by simp[I.size]
  have hM:=I.mask;have hes:es.toList.length=es.size:=by simp
  have aa0:∃j,j<=t.mask/\j∉t.place.toList:=Rh λq=>by
   have:=C8 (t.mask+1) t.place.toList λj hj=>Rh λx=>q ⟨j,∅,x⟩
   omega
  obtain⟨js,hjs,hjn⟩:=aa0;obtain⟨k0,hk0,ek0⟩:=QJ I.ok (f k) hjs;obtain⟨N,hN,hs,hmin⟩:=least (P:=λn=>cG t.mask (f k) n∉t.place.toList) k0 (by rw[ek0];exact hjn)
  have hin:∀m,m<N->cG t.mask (f k) m∈t.place.toList:=λm hm=>Rh λx=>hmin m hm x
  have hst:fF ks k=ks++[k]:=by unfold fF;rw[if_neg hk2]
  rw[hst]at h;unfold setSearch;refine Rc (JH (f:=f) (N:=N) hr ho hd I hL hu hx ∅ hin (λhj=>?_) (λz=>absurd z hs) (λy hy hm=>absurd (hp.mem_iff.mp (AP.mpr ⟨(k,y),hm,rfl⟩)) hk2) N 0 100000 U ∅ (RM _) ∅ rfl)
  have sZ:=QD t.mask (f k) N;have N3:Reach t.mask (·∈t.place.toList) (f k) (cG t.mask (f k) N):=⟨N,∅,rfl,hin⟩
  generalize cG t.mask (f k) N=j at hj sZ N3
  dsimp only;refine Rc (Rw ho hd I.fits ?_);dsimp only;obtain⟨p1,p2,p3,p4,p5,p6⟩:=akM I (x:=.ref x) hj sZ N3;have ah2:∀t1:ω,t1.mask=t.mask->t1.place=(t.put j).1.place->t1.dummies=(t.put j).1.dummies->t1.plain=J->t1.led = !fc w->wpAny (model prog w) A (do
    storeSet a (SetTable.insertAt es (t.put j).snd (f k,Value.ref x)) t1
    if(!false&&t1.tooFull)=J then do
     setRelay a (SetTable.grown (es.size+1))
     pure J
    else pure J) Q E s:=λt1 m1 m2 m3 m4 m5=>by
   have hsn:(t.put j).snd=SetTable.below t.place j:=rfl;rw[hsn]
   generalize aa1:SetTable.insertAt es (SetTable.below t.place j) (f k,Value.ref x)=es1 at p1 p6
   rw[<-m2,<-m1]at p6;rw[<-m2]at p2 p3 p4;rw[<-m1]at p4;rw[<-m3]at p5;have E2:es1.toList=(Θ.take (SetTable.below t.place j)++(k,x)::Θ.drop (SetTable.below t.place j)).map (lW f):=by
    rw[<-aa1,Uh,hL,S8,Q8,List.map_take,List.map_drop]
   have EZ:((Θ.take (SetTable.below t.place j)++(k,x)::Θ.drop (SetTable.below t.place j)).map (·.1)).Perm (ks++[k]):=by
    refine((VS (a:=(k,x)) (l₁:=Θ.take (SetTable.below t.place j)) (l₂:=Θ.drop (SetTable.below t.place j))).map (·.1)).trans ?_;rw[Sm,Q8];exact(hp.cons k).trans (Ub k ks).symm
   have hu1:∀q∈(Θ.take (SetTable.below t.place j)++(k,x)::Θ.drop (SetTable.below t.place j)),cy prog w Y s.heap q.1 q.2:=λq hq=>by
    rw[RI,Bt]at hq
    rcases hq with q1|rfl|q1
    ·exact hu q (RN q1)
    ·exact hx
    ·exact hu q (Vl q1)
   generalize Θ.take (SetTable.below t.place j)++(k,x)::Θ.drop (SetTable.below t.place j)=L1 at E2 EZ hu1
   have hM:=I.mask;have hz0:(#[]:Array Nat).size=0:=rfl;have hfit:t1.fits es1.size=J:=by
    simp only[SetTable.fits,SetTable.fill,p2,p5,p1,hz0,m1,RT,beq_self_eq_true,true_and,decide_eq_true_eq];omega
   have sl:100<Ω:=⋯
   refine Rc (UY ho hd ?_ ∅)
   have kU:=yG (es':=es1) (t':=t1) ho hd;have gk:=Ry s.heap a (Obj.putSet es1 t1);cases hf:t1.tooFull with
   |false =>
    simp only[US,WR,Ra,if_false];have hf2:((t1.mask=7/\es1.size<=4)\/(t1.mask=31/\es1.size<=18)\/(t1.mask=127/\es1.size<=76)):=by
     simp only[SetTable.tooFull,SetTable.fill,p2,p5,hz0,m1,decide_eq_false_iff_not]at hf;rw[m1];omega
    exact ZA (h J _ gk ⟨_,es1,ep+1,t1,L1,kU,hex,rfl,⟨by rw[p2,p1],p3,p4,p5,hf2,p6⟩,m4,m5,E2,(λq hq=>(hu1 q hq).at λb yb o e=>by rw[gk.2 b (λz=>Ot (z▸yb))];exact e),EZ⟩)
   |true =>
    simp only[US,Bool.and_self,if_true];have hf2:es1.size=5\/es1.size=19:=by
     simp only[SetTable.tooFull,SetTable.fill,p2,p5,hz0,m1,decide_eq_true_eq]at hf;omega
    have ER:∀e∈es1.toList,qT e.1:=λe he=>adh e.1
    obtain⟨t2,order,r1,r2,r3,r4,r5⟩:=ai6 (t:=t1) ER hf2;have r6:=ai5 r1
    generalize vV:order.filterMap (es1[·]?)=k6 at r2 r3 r5
    refine Rc ?_;unfold setRelay;refine Rc (Rw kU rfl hfit ?_);dsimp only;have hw:¬SetTable.sizeAbove (SetTable.grown (es.size+1))>Ω:=by
     rw[<-p1]
     rcases hf2 with e|e<;>rw[e]<;>decide
    rw[if_neg hw,<-p1,r1];refine Rc (TQ (show _=pure (k6,t2)from ?_) ?_)
    ·show(if((order.filterMap (es1[·]?)).size != es1.size)=J then _ else pure (order.filterMap (es1[·]?),t2))=_
     rw[vV,r2];simp
    ·dsimp only;refine UY kU rfl ?_ ∅
     have aaB:=Ry (s.heap.update a (Obj.putSet es1 t1)) a (Obj.putSet k6 t2);have N1:=gk.trans aaB;have ho2:=yG (es':=k6) (t':=t2) kU rfl;obtain⟨L2,E1,lT⟩:∃L2:List (Lk×L),k6.toList=L2.map (lW f)/\L2.Perm L1:=by
      rw[E2]at r5;exact Ll r5
     refine ZA (h J _ N1 ⟨_,k6,ep+1+1,t2,L2,ho2,hex,rfl,r3,r6.trans m4,r4.trans m5,E1,λq hq=>?_,(lT.map _).trans EZ⟩)
     have hq1:=lT.mem_iff.mp hq;exact(hu1 q hq1).at λb yb o e=>by rw[N1.2 b (λz=>Ot (z▸yb))];exact e
  have mk:(t.put j).1.mask=t.mask:=rfl;have hpl:(t.put j).fst.plain=J:=aaD;rw[if_pos hpl];refine Rc (adV hx ?_);exact ah2 _ rfl rfl rfl hpl lS
end
def dF(xs:List Lk):List Lk:=xs.foldl fF []
theorem ab6{xs:List Lk}(h:i<xs.length):dF (xs.take (i+1))=fF (dF (xs.take i)) xs[i]:=by
 unfold dF;rw[UX h,UW];rfl
theorem O2:∀(xs ns:List Lk),ns.length<=(xs.foldl fF ns).length
 |[],ns=>x6 _
 |x::xs,ns=>by
  have:=O2 xs (fF ns x);have h:ns.length<=(fF ns x).length:=by unfold fF;split<;>simp
  rw[TU];omega
theorem ab7(xs:List Lk)(i:Nat):(dF (xs.take i)).length<=(dF xs).length:=by
 have:dF xs=(xs.drop i).foldl fF (dF (xs.take i)):=by
  unfold dF;rw[<-UW,Sm]
 rw[this];exact O2 _ _
section
variable {prog:ν}{w:τ}{A:χ}{s:Ψ}{E:Δ->Ψ->Prop}
theorem jM.at{f:Lk->Int}{Y:L->Prop}{h':υ}(x:jM prog w f Y h a ks)(k:∀b,(b=a\/Y b)->∀o,h.get? b=O o->h'.get? b=O o):jM prog w f Y h' a ks :=
 let⟨o,es,ep,t,Θ,ho,h1,h2,h3,p,l,h4,h5,h6⟩:=x
 ⟨o,es,ep,t,Θ,k a (.inl rfl) o ho,h1,h2,h3,p,l,h4,λq hq=>(h5 q hq).at λb yb=>k b (.inr yb),h6⟩
theorem aia{R:Result->Ψ->Prop}{wr:List L}{G:Array U6->Array U6->Prop}{P:Nat->Δ->Prop}{St:Nat->Ψ->Prop}{Y:L->Prop}{xs:List Lk}{ys:List L}(hys:ys.length=xs.length)(W:WalksS prog w A.in1 I fp wr G xs.length P St)(S:L)(hSf:S∉fp)(hval:∀(i:Nat) v,(hi:i<xs.length)->P i v->v=Value.ref (ys[i]'∅))(zG:∀b,Y b->b≠S/\b∉wr)(h64:(dF xs).length<64)(hr:A.in1.units+8<Q7):
  ∀(k i:Nat) (s:Ψ),xs.length-i=k->i<=xs.length->St i s->jM prog w hL Y s.heap S (dF (xs.take i))->(∀j,(hj:j<xs.length)->cy prog w Y s.heap xs[j] (ys[j]'∅)) ->
   (∀s',Moved (S::wr) G s s'->jM prog w hL Y s'.heap S (dF xs)->R (.ok (.ret .none)) s') ->
   codeAny (model prog w) A (.builtin "set.update.loop" ⟨[.ref S,.ref I],[]⟩) R s:=by
 have zO:S∉wr:=λh=>hSf (W.sub _ h)
 have hup:∀b∈wr,b∈S::wr:=λb hb=>.tail _ hb
 have Oq:∀b,(b=S\/Y b)->b∉wr:=λb hb=>hb.elim (λe=>e▸zO) λm=>(zG b m).2
 intro k
 induction k with
 |zero =>
  intro i s hk hi st hS hK hR;cases(show i=xs.length by omega)
  refine S7 UU ?_;rw[TH UR _];show wpAny _ A.in1 (pyNext (.ref I) >>= _) _ _ s;refine Rc (W.done s _ _ st λs' hm=>?_)
  rw[Rg]at hS;exact ZA (hR s' (hm.mono hup) (hS.at λb hb o e=>hm.heap b _ (Oq b hb) e))
 |succ k ih =>
  intro i s hk hi st hS hK hR;have hlt:i<xs.length:=∅
  have EJ:i<ys.length:=∅
  refine S7 UU ?_;rw[TH UR _];show wpAny _ A.in1 (pyNext (.ref I) >>= _) _ _ s;refine Rc (W.item i s _ _ hlt st λv s' hP st' hm=>?_)
  cases hval i v hlt hP;have hS':jM prog w hL Y s'.heap S (dF (xs.take i)):=hS.at λb hb o e=>hm.heap b _ (Oq b hb) e
  have E3:∀j,(hj:j<xs.length)->cy prog w Y s'.heap xs[j] (ys[j]'∅):=λj hj=>(hK j hj).at λb yb o e=>hm.heap b _ (zG b yb).2 e
  show wpAny _ A.in1 (holding [Value.ref ys[i]] (setAdd S (.ref ys[i])) >>= _) _ _ s';refine Rc (RU ?_);unfold setAdd;refine RU (Rc (abg (k:=xs[i]) hr (E3 i hlt) λtk htk=>?_))
  have hl:(dF (xs.take i)).length<64:=UD (ab7 xs i) h64;refine aiq (Y:=Y) (f:=hL) (s:={s' with toks:=tk}) (k:=xs[i]) hr (E3 i hlt) (λz=>(zG S z).1 rfl) hS' hl λb h' gk jC=>?_
  rw[<-ab6 hlt]at jC;refine ZA ⟨TF UR _,ih (i+1) _ ∅ hlt (W.frame _ s' _ _ st' htk λb hb o e=>?_) jC (λj hj=>?_) λs'' EI EX=>?_⟩
  ·rw[gk.2 b (λq:b=S=>hSf (q▸hb))];exact e
  ·exact(E3 j hj).at λb yb o e=>by
    show h'.get? _=O o;rw[gk.2 _ (zG b yb).1];exact e
  ·refine hR s'' (Moved.trans W.gtrans ((hm.mono hup).then_heap htk λb o hb e=>?_) EI) EX
   rw[gk.2 b (λq:b=S=>hb (q▸.head _))];exact e
theorem acO(f:Lk->Int)(Y:L->Prop){h:υ}(e:h.get? a=O (cF w)):jM prog w f Y h a [] :=
 ⟨_,#[],0,_,[],e,⟨rfl,rfl,rfl⟩,rfl,⟨rfl,.nil,λj h=>by simp[SetTable.fresh]at h,rfl,.inl ⟨rfl,by simp⟩,λq hq=>by simp[SetTable.fresh]at hq⟩,rfl,rfl,rfl,λq hq=>(by cases hq),.refl _⟩
set_option maxHeartbeats 3200000 in
theorem aic{l:L}{items:Array Δ}{Y:L->Prop}{xs:List Lk}{ys:List L}{Q:Δ->Ψ->Prop}(hys:ys.length=xs.length)(hh:A.handled=U)(hl:s.heap.IsList l items)(hi:items.toList=ys.map Value.ref)(hK:∀j,(hj:j<xs.length)->cy prog w Y s.heap xs[j] (ys[j]'∅))(vY:∀b,Y b->b<s.heap.objs.size/\b≠l)(h64:(dF xs).length<64)(hr:A.in1.in1.in1.units+8<Q7)
  (h:∀(h':υ) (tk:Nat),jM prog w hL Y h' s.heap.objs.size (dF xs)->(∀b o,b<s.heap.objs.size->s.heap.get? b=O o->h'.get? b=O o)->Q (.ref s.heap.objs.size) {s with heap:=h',toks:=tk}) :
  wpAny (model prog w) A (call (.type "set") [.ref l]) Q E s:=by
 obtain⟨c,tl,N9⟩:=RD.mro;have hmade:=RD.made;have hsub:=RD.sub;refine TX (VF (show wpAny _ _ (callAny (.type "set") _) _ _ _ from ?_))
 refine ZA ⟨Vd _ (by decide +kernel),S7 Vc ?_⟩
 rw[Vb (Va "set" [.ref l] []) rfl];have h1:=RD.notType;have h2:=RD.canCreate;have hct:=VZ (.ref l)
 repeat any_goals (first|assumption|wp_step)
 refine S1 (CO (.ref l) (E:=E) (Q₁:=λobj s₁=>obj=.ref s.heap.objs.size/\s₁={s with heap:=s.heap.push (cF w)}) ⟨rfl,rfl⟩) λr s₁ hr=>?_
 cases r with
 |error e=>exact hr
 |ok fl =>
  cases fl with
  |ret obj =>
   obtain⟨rfl,rfl⟩:=hr;have hS:(s.heap.push (cF w)).get? s.heap.objs.size=O (cF w):=Q4 _ rfl;have hT:VI {s with heap:=s.heap.push (cF w)} (.ref s.heap.objs.size) "set":=⟨_,hS,rfl⟩
   have hli:=RD.init.lookup;have hbi:=RD.init.bind (.ref s.heap.objs.size)
   repeat any_goals (first|assumption|wp_step)
   refine S1 (VY (R:=wants (λr s₂=>r=.none/\∃h' tk,s₂={s with heap:=h',toks:=tk}/\jM prog w hL Y h' s.heap.objs.size (dF xs) /\
     (∀b o,b<s.heap.objs.size->s.heap.get? b=O o->h'.get? b=O o)) E) RD.init.plain VX (VW hT ?_)) λr₂ s₂ kT=>?_
   ·obtain⟨ol,ia,hcl,nl,hdl⟩:=hl;obtain⟨LZ,u7,LU,uZ⟩:=ol;simp only at hcl hdl;subst hcl;subst hdl;have oO:(s.heap.push (cF w)).get? l=O {cls:=.type "list",dict:=u7,data:=.seq items nl,slots:=uZ}:=J' _ ia;have NY:=Wo;have NZ:=Wn;have hne:(Value.type "list"==Value.type "dict")=ξ:=⋯
    have hl1:(s.heap.push (cF w)).IsList l items:=⟨_,oO,rfl,nl,rfl⟩;unfold cF at hS hT oO ⊢;unfold Builtin.«set.__init__» noKeywords Builtin.Frozenset.updateFrom
    generalize wc:pyIter=PI
    wp_walk
    subst wc;refine Sf hl1 (Rc (VU ?_));have hlS:l<s.heap.objs.size:=I8 ia;have hlen:items.size=xs.length:=by
     have:=congrArg List.length hi;rw[P0,R8]at this;omega
    have vS:l≠(s.heap.push (cF w)).objs.size:=by rw[RL];exact K1 (Rp hlS)
    have hSf:s.heap.objs.size∉[(s.heap.push (cF w)).objs.size,l]:=by
     rw[RL];simp only[Bt,RZ,or_false,not_or];exact⟨K1 (Rt _),Rn hlS⟩
    have W:=(TN (prog:=prog) (w:=w) (A:=A.in1.in1.in1) (by simp[hh]) (s.heap.push (cF w)).objs.size l vS items).toS
    rw[hlen]at W;refine aia (xs:=xs) (ys:=ys) hys W s.heap.objs.size hSf (λi v hi' hv=>?_) (λy hy=>?_) h64 hr xs.length 0 _ ∅ (RM _) ⟨⟨_,Q4 _ rfl,rfl,rfl⟩,hl1.push _⟩ (acO _ _ (J' _ hS)) (λj hj=>(hK j hj).at λb yb o e=>J' _ (J' _ e)) λs' hm hS'=>?_
    ·have hv:items[i]? = O v:=hv;rw[<-Rj,hi,RB,H8 ∅]at hv
     simpa using hv.symm
    ·have:=vY y hy;rw[RL];simp only[Bt,RZ,or_false];exact⟨K1 this.1,λz=>by first|exact absurd z (K1 (Rp this.1))|exact z.elim (λz=>absurd z (K1 (Rp this.1))) this.2⟩
    ·obtain⟨h',g',d',tk',os'⟩:=s';cases(show g'=s.gens from hm.gens)
     cases(show d'=s.drawn from hm.drawn)
     cases(show os'=s.os from hm.os)
     refine ZA (ZA ⟨rfl,h',tk',rfl,hS',λb o hb e=>?_⟩)
     exact hm.heap b o (by rw[RL];simp only[Bt,RZ,or_false,not_or];exact⟨K1 hb,K1 (Rp hb)⟩) (J' _ (J' _ e))
   ·cases r₂ with
    |error e=>exact kT
    |ok wj =>
     cases wj with
     |ret r =>
      obtain⟨rfl,h',tk,rfl,hS',hk'⟩:=kT
      repeat any_goals (first|assumption|wp_step)
      exact h _ _ hS' hk'
     |_=>exact kT.elim
  |_=>exact hr.elim
end
theorem rK:Slot "set_iterator" "__next__" "set_iterator.__next__" :=
 .of (owner:="set_iterator") (n:="__next__") (by rw[typeLookup_type,Wh];kernel_rfl) (by decide +kernel) (by decide +kernel)
  (by decide +kernel) (by first|exact .inl (by decide +kernel)|exact .inr (by decide +kernel)) (by rw[V9];kernel_rfl)
theorem Jj:Slot "set_iterator" "__iter__" "set_iterator.__iter__" :=
 .of (owner:="set_iterator") (n:="__iter__") (by rw[typeLookup_type,Wh];kernel_rfl) (by decide +kernel) (by decide +kernel)
  (by decide +kernel) (by first|exact .inl (by decide +kernel)|exact .inr (by decide +kernel)) (by rw[V9];kernel_rfl)
theorem Jl:entryFor table "set_iterator.__next__"=O Builtin.«set_iterator.__next__»:=entryFor_of_tree (by kernel_rfl)
theorem abd:entryFor table "set_iterator.__iter__"=O Builtin.«dict_keyiterator.__iter__» :=
 VR (id':="dict_keyiterator.__iter__") (by kernel_rfl) rfl (by decide +kernel) (by kernel_rfl)
theorem ahH:entryFor table "set.__iter__"=O Builtin.«frozenset.__iter__» :=
 VR (id':="frozenset.__iter__") (by kernel_rfl) rfl (by decide +kernel) (by kernel_rfl)
theorem Jk:Manifest.owners.lookup (String.ofList ['r','o','t','a','r','e','t','i','_','t','e','s'].reverse)=O Manifest.sig_set_iterator:=by kernel_rfl
theorem Jm(a:Δ):argsOk "set_iterator.__next__" ⟨[a],[]⟩:=by
 unfold argsOk;rw[signature?_of (n:=['_','_','t','x','e','n','_','_']) (by kernel_rfl) Jk];kernel_rfl
theorem aiy(a:Δ):argsOk "set_iterator.__iter__" ⟨[a],[]⟩:=by
 unfold argsOk;rw[signature?_of (n:=['_','_','r','e','t','i','_','_']) (by kernel_rfl) Jk];kernel_rfl
theorem acG{α:Type}{l:List α}(h:i<l.length):([l[i]]++l.eraseIdx i).Perm l:=by
 rw[List.eraseIdx_eq_take_drop_succ];have e:l=l.take i++l[i]::l.drop (i+1):=by rw[<-VQ h,Sm]
 conv=>rhs;rw[e]
 exact(VS (l₁:=l.take i)).symm
theorem Lg{α:Type}(next:Nat->Nat):∀(fuel k:Nat) (left:List α) (out:Array α),fuel=left.length->(pickOrder.go next fuel k left out).toList.Perm (out.toList++left)
 |0,k,left,out,h=>by
  have:left=[]:=VP.mp h.symm;subst this;unfold pickOrder.go;simp
 |fuel+1,k,left,out,h=>by
  unfold pickOrder.go;have hlt:next k % left.length<left.length:=Tw _ ∅
  rw[H8 hlt];refine(Lg next fuel _ _ _ (by rw[List.length_eraseIdx_of_lt hlt];omega)).trans ?_
  rw[Ua,SE];exact(acG hlt).append_left _
def iT(w:τ)(a:L)(ep:Nat)(es:Array (Int×Δ)):Array (Int×Δ):=if fc w then pickOrder (w.params.setOrder a ep) es else es
theorem u5(w:τ)(a:L)(ep:Nat)(es:Array (Int×Δ)):(iT w a ep es).toList.Perm es.toList:=by
 unfold iT;split
 ·unfold pickOrder
  simpa using Lg _ es.size 0 es.toList #[] (by simp)
 ·exact .rfl
def jq(b:Bool)(place:Array Nat):Nat->Nat
 |0=>0
 |i+1=>if b then 0 else place.toList.getD i 0+1
def mj(h:υ)(it a:L)(sl i n ep:Nat):Prop:=∃o,h.get? it=O o/\o.cls=.type "set_iterator"/\o.data=.fields #[.int sl 0,.int i 0,.ref a,.int n 0,.int ep 0]
theorem mj.typeIs{s:Ψ}(h:mj s.heap it a sl i n ep):s.TypeIs (.ref it) "set_iterator":=let⟨o,ho,hc,_⟩:=h;⟨o,ho,hc⟩
theorem mj.at{h':υ}(x:mj h it a sl i n ep)(k:∀o,h.get? it=O o->h'.get? it=O o):mj h' it a sl i n ep:=let⟨o,ho,r⟩:=x;⟨o,k o ho,r⟩
def iK(w:τ)(h:υ)(a:L)(es:Array (Int×Δ))(ep:Nat)(t:ω):Prop:=∃o,h.get? a=O o/\o.ExactSet/\o.data=.set es ep t/\pD t es.size/\t.led = !fc w
theorem iK.at{h':υ}(x:iK w h a es ep t)(k:∀o,h.get? a=O o->h'.get? a=O o):iK w h' a es ep t:=let⟨o,ho,r⟩:=x;⟨o,k o ho,r⟩
section
variable {prog:ν}{w:τ}{A:χ}{E:Δ->Ψ->Prop}{s:Ψ}
theorem JC{Q:Option (Δ×Nat)->Ψ->Prop}(hS:iK w s.heap a es ep t)(hi:i<=es.size)(h:Q ((iT w a ep es)[i]?.map λe=>(e.2,jq (fc w) t.place (i+1))) s):wpAny (model prog w) A (setNext a (jq (fc w) t.place i) i ep) Q E s:=by
 obtain⟨o,ho,hex,hd,hI,hl⟩:=hS;refine Rc (Rw ho hd hI.fits ?_);refine Rc ?_;refine Rc (SY (ZA ?_));show wpAny _ _ (if fc w=J then _ else _) _ _ _
 unfold iT at h;cases hb:fc w with
 |true =>
  rw[hb]at h;simp at h ⊢;refine Rc ?_;unfold setWalk;refine Rc (Rw ho hd hI.fits ?_);refine Rc ?_;unfold setsByText;refine Rc (SY (ZA ?_));show wpAny _ _ (if fc w=J then _ else _) _ _ _
  rw[hb];refine Rc (SY (ZA (ZA ?_)));have e:jq J t.place (i+1)=jq J t.place i:=by cases i<;>rfl
  rw[e]at h;exact h
 |false =>
  rw[hb]at h hl;simp at h ⊢;show wpAny _ _ (if(!t.plain&&decide (es.size>1))=J then _ else _) _ _ _
  rw[hI.plain];refine Rc (TQ (a:=()) ?_ ?_)
  ·show(if(!t.led && !es.isEmpty)=J then _ else _)=_
   rw[hl];rfl
  have qw:SetTable.below t.place (jq ξ t.place i)=i:=by
   cases i with
   |zero=>exact ad4 hI.up
   |succ i=>exact ad5 hI.up (by rw[R8,hI.size];omega)
  rw[qw];refine ZA ?_
  rcases SQ i es.size with hlt|hge
  ·have hp:i<t.place.size:=by rw[hI.size];exact hlt
   rw[T9 hlt]at h ⊢;rw[T9 hp];have e:jq ξ t.place (i+1)=t.place[i]+1:=by
    simp[jq,Iv,H8 (show i<t.place.toList.length by simpa using hp)]
   rw[e]at h;exact h
  ·rw[Wg hge]at h ⊢;exact h
end
section
variable {prog:ν}{w:τ}{A:χ}{E:Δ->Ψ->Prop}{s:Ψ}
theorem aac{es:Array (Int×Δ)}{t:ω}{Q:Option Δ->Ψ->Prop}(hit:mj s.heap it a (jq (fc w) t.place i) i es.size ep)(hS:iK w s.heap a es ep t)(hi:i<es.size)(hv:(iT w a ep es)[i]? = O v)(hQ:∀h',mj h' it a (jq (fc w) t.place (i+1)) (i+1) es.size ep->Sz it s.heap h'->Q (O v.2) {s with heap:=h'}):
  wpAny (model prog w) A (pyNext (.ref it)) Q E s:=by
 obtain⟨o,ho,hc,hd⟩:=id hit;obtain⟨oS,hoS,Og,hdS,hI,hl⟩:=id hS;refine Rc (wpAny_attempt (Um hit.typeIs rK (Rz rK hit.typeIs Jl ?_ (Jm _))));refine Rc (ZA ?_);refine Rc (wpAny_fieldsOf ho hd ?_);refine Rc (UP hoS hdS hI.fits ?_);rw[if_neg (by simp)]
 refine Rc (JC (ep:=ep) hS (Sv hi) ?_);rw[hv];refine Rc (UC ho hd (by simp) ?_)
 have g1:=UE (Obj.mapFields (·.setIfInBounds 0 (rawInt ((jq (fc w) t.place (i+1)))))) ho (WM (U5 hd _));have d1:=U5 hd (·.setIfInBounds 0 (rawInt ((jq (fc w) t.place (i+1)))));refine Rc (UC g1 d1 (by simp) ?_)
 refine ZA ⟨_,rfl,ZA (hQ _ ⟨_,(UE (Obj.mapFields (·.setIfInBounds 1 (rawInt (i+1)))) g1 (WM (U5 d1 _))),?_,?_⟩ ((Ry ..).trans (Ry ..)))⟩
 ·exact(WL ..).trans ((WL ..).trans hc)
 ·rw[(U5 d1 (·.setIfInBounds 1 _))];simp[rawInt]
theorem aad{es:Array (Int×Δ)}{t:ω}{Q:Option Δ->Ψ->Prop}(hh:A.handled=U)(hit:mj s.heap it a (jq (fc w) t.place es.size) es.size es.size ep)(hS:iK w s.heap a es ep t)(hQ:∀h',Heap.ExtBut it s.heap h'->Q U {s with heap:=h'}):wpAny (model prog w) A (pyNext (.ref it)) Q E s:=by
 obtain⟨o,ho,hc,hd⟩:=id hit;obtain⟨oS,hoS,Og,hdS,hI,hl⟩:=id hS;refine Rc (wpAny_attempt (Um hit.typeIs rK (Rz rK hit.typeIs Jl ?_ (Jm _))));refine Rc (ZA ?_);refine Rc (wpAny_fieldsOf ho hd ?_);refine Rc (UP hoS hdS hI.fits ?_);rw[if_neg (by simp)]
 refine Rc (JC (ep:=ep) hS (x6 _) ?_);have hv:(iT w a ep es)[es.size]? = U:=by
  have:=(u5 w a ep es).length_eq;rw[R8,R8]at this;exact Wg ∅
 rw[hv];refine Rc (UC ho hd (by simp) ?_)
 refine Rc ?_;refine Rc (m:=firstArgMember _ _) (TQ (by first|rfl|(simp;rfl)) (Uo ?_ (by size_fits)))
 refine Rc (wpAny_handled ?_);rw[show A.in1.handled=U from hh]
 refine Rc (ZA (wpAny_throw ?_));refine Rc (SX (b:=J) ⟨_,Q4 _ rfl,rfl⟩ isSubtype_stop ?_);exact ZA (hQ _ (((Ry ..).extBut.push _).push _))
theorem aab{Q:Δ->Ψ->Prop}(hit:mj s.heap it a sl i n ep)(h:Q (.ref it) s):wpAny (model prog w) A (pyIter (.ref it)) Q E s:=by
 exact wpAny_pyIter_slot hit.typeIs Jj (Rz Jj hit.typeIs abd (show wpAny _ _ _ _ _ s from(ZA ⟨_,rfl,"set_iterator",_,hit.typeIs,rK.lookup,h⟩)) (aiy _))
theorem aie(hh:A.handled=U)(I a:L)(hne:a≠I)(es:Array (Int×Δ))(ep:Nat)(t:ω) :
  Walks prog w A I [I,a] [I] es.size (λi v=>(iT w a ep es)[i]?.map (·.2)=O v) (λi h=>mj h I a (jq (fc w) t.place i) i es.size ep/\iK w h a es ep t) where
 sub:=λb hb=>by simp at hb;simp[hb]
 frame:=λ_ _ _ st hk=>⟨st.1.at λo e=>hk I (by simp) o e,st.2.at λo e=>hk a (by simp) o e⟩
 item:=λi s Q E hi st hQ=>by
  have hl:=(u5 w a ep es).length_eq;rw[R8,R8]at hl;have hv:_[i]? = O (iT w a ep es)[i]:=T9 ∅
  exact aac st.1 st.2 hi hv λh' vU hs'=>hQ _ h' s.toks (by rw[hv];rfl) ⟨vU,st.2.at λo e=>hs'.extBut a o hne e⟩ λb o hb e=>hs'.extBut b o (λh=>hb (by simp[h])) e
 done:=λs Q E st hQ=>aad hh st.1 st.2 λh' he'=>hQ h' s.toks λb o hb e=>he' b o (λh=>hb (by simp[h])) e
 self:=λ_ _ _ _ st hQ=>aab st.1 hQ
theorem iK.typeIs(h:iK w s.heap a es ep t):s.TypeIs (.ref a) "set":=let⟨o,ho,hx,_⟩:=h;⟨o,ho,hx.1⟩
theorem aiu{Q:Δ->Ψ->Prop}(hS:iK w s.heap a es ep t)(hQ:Q (.ref s.heap.objs.size) {s with heap:=s.heap.push {cls:=.type "set_iterator",data:=.fields #[.int 0 0,.int 0 0,.ref a,.int es.size 0,.int ep 0]} }):wpAny (model prog w) A (pyIter (.ref a)) Q E s:=by
 obtain⟨oS,hoS,Og,hdS,hI,hl⟩:=id hS;refine wpAny_pyIter_slot hS.typeIs Wf (Rz Wf hS.typeIs ahH ?_ (PySem.F.args_set_iter_1 _));refine Rc (Rc (ZA (ZA ?_)));refine Rc (Rc (UP hoS hdS hI.fits (ZA ?_)));refine Rc ?_;refine Rc (Rw hoS hdS hI.fits ?_);refine Rc ?_;refine Rc (SY (ZA (ZA ?_)));have e:(!fc w&&(!t.plain&&decide (es.size>1)))=ξ:=by rw[hI.plain];simp
 show wpAny _ _ (if(!fc w&&(!t.plain&&decide _))=J then _ else _) _ _ _
 rw[e];refine Rc (ZA ?_);refine Rc (VO hoS hdS hI.fits ?_);refine Rc ?_;refine Uo (ZA ⟨_,rfl,"set_iterator",_,⟨_,Q4 _ rfl,rfl⟩,rK.lookup,?_⟩);exact hQ
end
open PySem.W
def oJ(x:Nat):List Nat->List Nat
 |[]=>[x]
 |y::l=>if x<y then x::y::l else if x=y then y::l else y::oJ x l
def fh:List Nat->List Nat
 |[]=>[]
 |x::l=>oJ x (fh l)
theorem DT:∀{l:List Nat},y∈oJ x l↔y=x\/y∈l
 |[]=>by simp[oJ]
 |z::l=>by
  unfold oJ;split
  ·simp
  ·split
   ·rename_i h;subst h;simp
   ·simp only[Bt,DT]
    constructor
    ·rintro (h|h|h)<;>simp[h]
    ·rintro (h|h|h)<;>simp[h]
theorem IE:∀{l:List Nat},Up l->Up (oJ x l)
 |[],_=>by simp[oJ]
 |z::l,h=>by
  obtain⟨h1,h2⟩:=Ri.mp h;unfold oJ;split
  ·rename_i hx;exact Ri.mpr ⟨λb hb=>by
    rcases Bt.mp hb with rfl|hb
    ·exact hx
    ·exact U1 hx (h1 b hb),h⟩
  ·split
   ·exact h
   ·refine Ri.mpr ⟨λb hb=>?_,IE h2⟩
    rcases DT.mp hb with rfl|hb
    ·omega
    ·exact h1 b hb
theorem rC:∀l:List Nat,Up (fh l)
 |[]=>.nil
 |x::l=>IE (rC l)
theorem sD:∀{l:List Nat},y∈fh l↔y∈l
 |[]=>by simp[fh]
 |x::l=>by simp[fh,DT,sD]
theorem MF{ns:List Nat}:y∈gw ns x↔y∈ns\/y=x:=by
 unfold gw;split
 ·rename_i h;exact⟨.inl,λq=>q.elim id λe=>e▸h⟩
 ·simp
theorem Mn{ns:List Nat}(h:ns.Nodup):(gw ns x).Nodup:=by
 unfold gw;split
 ·exact h
 ·rename_i hx;refine Tt.mpr ⟨h,by simp,λa ha b hb=>?_⟩
  rw[RE]at hb;subst hb;exact λe=>hx (e▸ha)
theorem zm:∀{xs ns:List Nat}{y:Nat},y∈xs.foldl gw ns↔y∈ns\/y∈xs
 |[],ns,y=>by simp
 |x::xs,ns,y=>by
  rw[TU,zm,MF,Bt,or_assoc]
theorem zf:∀{xs ns:List Nat},ns.Nodup->(xs.foldl gw ns).Nodup
 |[],_,h=>h
 |x::xs,_,h=>zf (xs:=xs) (Mn h)
theorem zc:∀{l:List Nat},Up l->l.Nodup:=fun{l} h=>h.imp fun{a b} h=>K1 h
theorem yo(xs:List Nat):(fh xs).length=(fZ xs).length:=by
 have hp:(fh xs).Perm (fZ xs):=by
  refine(Tr (zc (rC xs)) (zf .nil)).mpr λx=>?_
  rw[sD,zm];simp
 exact hp.length_eq
theorem IG(h:Up l):∀i,i<l.length->i<=l.getD i 0
 |0,_=>RM _
 |i+1,hi=>by
  have a:=IG h i ∅
  have b:=ur h (show i<i+1 by omega) hi
  omega
theorem ID(h:Up l)(hm:∀x∈l,x<m):l.length<=m:=by
 rcases Xm l.length with e|e
 ·omega
 ·have a:=IG h (l.length-1) ∅
  have hi:l.length-1<l.length:=∅
  have b:l.getD (l.length-1) 0<m:=hm _ (by rw[Iv,H8 hi];exact RA hi)
  omega
section
variable {prog:ν}{w:τ}{A:χ}{E:Δ->Ψ->Prop}{s:Ψ}
theorem aaW{Q:Bool->Ψ->Prop}(hT:s.TypeIs (.ref r) "set")(h:Q ξ s):wpAny (model prog w) A (Builtin.List.listLengthHint (.ref r)) Q E s:=by
 unfold Builtin.List.listLengthHint;refine Rc (SO hT PySem.F.slot_set_len.lookup ?_)
 generalize hid:("set.__len__":String)=id0
 wp_delta
 rw[show splitId id0=O ("set","__len__")from by subst hid;decide +kernel]
 subst hid;refine Rc (SX (T:="set") (b:=J) hT UQ ?_);refine wpAny_ite_split (λq=>absurd q ⋯) λ_=>wpAny_ite_split (λ_=>?_) λq=>absurd (by decide +kernel) q
 exact Rc (wpAny_typeOf hT (ZA h))
theorem iK.lt(x:iK w h a es ep t):a<h.objs.size:=let⟨_,ho,_⟩:=x;I8 ho
theorem aiP{es:Array (Int×Δ)}:KdlSrc prog w "set" a a es.size (λi v=>(iT w a ep es)[i]?.map (·.2)=O v) (λh=>iK w h a es ep t) where
 type:=λ_ h=>h.typeIs
 there:=λ_ h=>⟨h.lt,h.lt⟩
 keep:=λ_ _ h k=>h.at λo e=>k a (.inl rfl) o e
 notList:=⋯
 notTuple:=⋯
 hint:=λ_ _ _ _ h q=>aaW h.typeIs q
 iter:=λ_ s hh h=>⟨_,_,(λ_ _ q=>aiu h q),aie hh _ a (K1 h.lt) es ep t,⟨⟨_,Q4 _ rfl,rfl,rfl⟩,h.at λo e=>J' _ e⟩⟩
end
def eL{α:Type}(lt:Nat->Nat->Bool):KasT α->α
 |.ret a=>a
 |.ask i j k=>eL lt (k (lt i j))
def gE{α:Type}(P:Nat->Prop)(lt:Nat->Nat->Bool):KasT α->Prop
 |.ret _=>True
 |.ask i j k=>P i/\P j/\gE P lt (k (lt i j))
theorem sU{α β:Type}{lt:Nat->Nat->Bool}{f:α->KasT β}:∀t:KasT α,eL lt (t.bind f)=eL lt (f (eL lt t))
 |.ret _=>rfl
 |.ask i j k=>sU (k _)
theorem qm{α β:Type}{P:Nat->Prop}{lt:Nat->Nat->Bool}{f:α->KasT β}:∀t:KasT α,gE P lt t->gE P lt (f (eL lt t))->gE P lt (t.bind f)
 |.ret _,_,h=>h
 |.ask i j k,h,g=>⟨h.1,h.2.1,qm _ h.2.2 g⟩
theorem Ny{α:Type}{P:Nat->Prop}{lt:Nat->Nat->Bool}{cmp:Nat->Nat->(Bool->Ψ->Prop)->Ψ->Prop}{Q:α->Ψ->Prop}(hc:∀i j C,P i->P j->C (lt i j) s->cmp i j C s):∀t:KasT α,gE P lt t->Q (eL lt t) s->t.kasWp cmp Q s
 |.ret _,_,h=>h
 |.ask i j k,a,h=>hc i j _ a.1 a.2.1 (Ny hc _ a.2.2 h)
section
variable {n:Nat}{r:Nat->Nat}
abbrev fB(r:Nat->Nat):Nat->Nat->Bool:=λi j=>decide (r i<r j)
structure Pm (n:Nat) (p:Array Nat):Prop where
 pm:p.toList.Perm (η n)
theorem Pm.size(h:Pm n p):p.size=n:=by have:=h.pm.length_eq;simpa using this
theorem Pm.lt(h:Pm n p)(h0:0<n)(i:Nat):p.getD i 0<n:=by
 by_cases q:i<p.size
 ·have:p[i]∈p.toList:=by simp
  have:=dD.mp (h.pm.mem_iff.mp this)
  simpa[Array.getD,q]using this
 ·simpa[Array.getD,q]using h0
theorem Pm.inj(h:Pm n p)(hi:i<n)(hj:j<n)(e:p.getD i 0=p.getD j 0):i=j:=by
 have hs:=h.size;have e1:p.toList[i]'(by simp;omega)=p.toList[j]'(by simp;omega):=by
  have a1:p.getD i 0=p[i]'∅:=by simp[Array.getD,show i<p.size by omega]
  have a2:p.getD j 0=p[j]'∅:=by simp[Array.getD,show j<p.size by omega]
  rw[a1,a2]at e
  simpa using e
 exact(SS (h.pm.nodup_iff.mpr Ru)).mp e1
theorem Pm.rev(h:Pm n p)(i j:Nat):Pm n (kas_rev p i j):=⟨(We.mp (mirror_perm p i j _)).trans h.pm⟩
theorem Pm.bub(h:Pm n p)(i j:Nat):Pm n (bubble p i j):=⟨(We.mp (bubble_perm p i j)).trans h.pm⟩
def jR(r:Nat->Nat)(p:Array Nat)(m:Nat):Prop:=∀i j,i<j->j<m->r (p.getD i 0)<r (p.getD j 0)
theorem jR.snoc(h:jR r p m)(hl:0<m->r (p.getD (m-1) 0)<r (p.getD m 0)):jR r p (m+1):=λi j hij hj=>by
 by_cases e:j=m
 ·subst e;have h0:=hl ∅
  by_cases q:i=j-1
  ·rw[q];exact h0
  ·exact U1 (h i _ ∅ ∅) h0
 ·exact h i j hij ∅
variable (inj:∀i j,i<n->j<n->r i=r j->i=j)
include inj in
theorem DL{p:Array Nat}(h:Pm n p){i j:Nat}(hi:i<n)(hj:j<n)(hne:i≠j):r (p.getD i 0)≠r (p.getD j 0):=λe=>hne (h.inj hi hj (inj _ _ (h.lt ∅ i) (h.lt ∅ j) e))
include inj in
theorem Gs{p:Array Nat}(h:Pm n p):∀(f m:Nat),1<=m->m+f<=n->jR r p m->m<=eL (fB r) (kas_asc p f m)/\eL (fB r) (kas_asc p f m)<=m+f/\jR r p (eL (fB r) (kas_asc p f m))/\gE (· < n) (fB r) (kas_asc p f m)/\(eL (fB r) (kas_asc p f m)<m+f->r (p.getD (eL (fB r) (kas_asc p f m)) 0)<r (p.getD (eL (fB r) (kas_asc p f m)-1) 0))
 |0,m,h1,h2,ha=>⟨x6 _,x6 _,ha,trivial,λq=>absurd q (RS m)⟩
 |f+1,m,h1,h2,ha=>by
  have a1:=h.lt ∅ m
  have a2:=h.lt ∅ (m-1)
  unfold kas_asc;simp only[eL,gE]
  by_cases q:r (p.getD m 0)<r (p.getD (m-1) 0)
  ·simp only[decide_eq_true q,if_true,eL,gE];exact⟨x6 _,∅,ha,⟨a1,a2,trivial⟩,λ_=>q⟩
  ·have e:decide _=ξ:=decide_eq_false q;simp only[e,Ra,if_false];have hne:=DL inj h (i:=m) (j:=m-1) ∅ ∅ ∅
   obtain⟨b1,b2,b3,b4,b5⟩:=Gs h f (m+1) ∅ ∅ (ha.snoc λ_=>∅)
   exact⟨∅,∅,b3,⟨a1,a2,b4⟩,λz=>b5 ∅⟩
def qS(r:Nat->Nat)(p:Array Nat)(m:Nat):Prop:=∀i j,i<j->j<m->r (p.getD j 0)<r (p.getD i 0)
theorem qS.snoc(h:qS r p m)(hl:0<m->r (p.getD m 0)<r (p.getD (m-1) 0)):qS r p (m+1):=λi j hij hj=>by
 by_cases e:j=m
 ·subst e;have h0:=hl ∅
  by_cases q:i=j-1
  ·rw[q];exact h0
  ·exact U1 h0 (h i (j-1) ∅ ∅)
 ·exact h i j hij ∅
include inj in
theorem Pz{p:Array Nat}(h:Pm n p):∀(f m:Nat),1<=m->m+f<=n->qS r p m->∃m',eL (fB r) (kas_desc f p m 0)=(p,m',0)/\m<=m'/\m'<=m+f/\qS r p m'/\gE (· < n) (fB r) (kas_desc f p m 0)
 |0,m,h1,h2,ha=>⟨m,rfl,x6 _,x6 _,ha,trivial⟩
 |f+1,m,h1,h2,ha=>by
  have a1:=h.lt ∅ m
  have a2:=h.lt ∅ (m-1)
  unfold kas_desc;simp only[eL,gE]
  by_cases q:r (p.getD m 0)<r (p.getD (m-1) 0)
  ·simp only[decide_eq_true q,if_true,gt_iff_lt,RS,if_false];obtain⟨m',b1,b2,b3,b4,b5⟩:=Pz h f _ ∅ ∅ (ha.snoc λ_=>q)
   exact⟨m',b1,∅,∅,b4,a1,a2,b5⟩
  ·have e:decide _=ξ:=decide_eq_false q;have hne:=DL inj h (i:=m) (j:=m-1) ∅ ∅ ∅
   have q2:r (p.getD (m-1) 0)<r (p.getD m 0):=∅
   simp only[e,Ra,if_false,eL,gE,decide_eq_true q2,if_true];exact⟨m,rfl,x6 _,∅,ha,a1,a2,a2,a1,trivial⟩
theorem gD(p:Array Nat)(i:Nat):p.getD i 0=(p[i]?).getD 0:=by
 rw[WJ]
theorem KR{p:Array Nat}(hm:m<=p.size):(kas_rev p 0 m).getD k 0=if k<m then p.getD (m-1-k) 0 else p.getD k 0:=by
 unfold kas_rev;rw[gD,(getElem?_mirror (i:=0) (j:=m) hm _ ∅ k)]
 simp only[Nat.sub_zero,R6,RM,true_and]
 by_cases q:k<m
 ·rw[if_pos q]
  by_cases z:k<m/2\/m-m/2<=k/\k<m
  ·rw[if_pos z,gD]
  ·have e:m-1-k=k:=∅
   rw[if_neg z,e,gD]
 ·rw[if_neg q,if_neg ∅,gD]
include inj in
theorem aaS{p:Array Nat}(h:Pm n p){m:Nat}(h1:1<=m)(h2:m<=n)(hd:qS r p m):∃m' p',eL (fB r) (kas_tail3 m n p)=(m',p')/\Pm n p'/\1<=m'/\m'<=n/\jR r p' m'/\gE (· < n) (fB r) (kas_tail3 m n p):=by
 have ha:jR r (kas_rev p 0 m) m:=λi j hij hj=>by
  have hs:=h.size;rw[KR ∅,KR ∅,if_pos ∅,if_pos hj]
  exact hd _ _ ∅ ∅
 obtain⟨b1,b2,b3,b4,_⟩:=Gs inj (h.rev 0 m) (n-m) m h1 ∅ ha
 unfold kas_tail3;refine⟨_,_,by rw[sU];rfl,h.rev 0 m,∅,∅,b3,qm _ b4 trivial⟩
include inj in
theorem adl{p:Array Nat}(h:Pm n p)(h2:2<=n):∃m p',eL (fB r) (kas_count n p)=(m,p')/\Pm n p'/\1<=m/\m<=n/\jR r p' m/\gE (· < n) (fB r) (kas_count n p):=by
 obtain⟨b1,b2,b3,b4,b5⟩:=Gs inj h (n-1) 1 ∅ ∅ (λi j hij hj=>∅)
 unfold kas_count;rw[sU];have hk:=fun{α:Type}{f:Nat->KasT α}=>qm (P:=(· < n)) (lt:=fB r) (f:=f) (kas_asc p _ 1) b4
 generalize eL (fB r) (kas_asc p _ 1)=m at b1 b2 b3 b5 hk
 by_cases e:m=n
 ·refine⟨m,p,?_,h,b1,∅,b3,hk ?_⟩<;>rw[if_pos (by simp[e])]
  ·rfl
  ·trivial
 ·have ne:¬(m==n)=J:=by simp[e]
  by_cases q:m>1
  ·have lt:=b3 0 (m-1) ∅ ∅
   refine⟨m,p,?_,h,b1,∅,b3,hk ?_⟩<;>rw[if_neg ne,if_pos q]
   ·simp only[eL,decide_eq_true lt,if_true]
   ·simp only[gE,decide_eq_true lt,if_true];exact⟨h.lt ∅ _,h.lt ∅ _,trivial⟩
  ·have e1:m=1:=∅
   subst e1;have d1:qS r p 2:=λi j hij hj=>by
    have:i=0:=∅
    have:j=1:=∅
    subst_vars
    exact b5 ∅
   obtain⟨m',c1,c2,c3,c4,c5⟩:=Pz inj h (n-2) 2 ∅ ∅ d1
   obtain⟨m2,p2,t1,t2,t3,t4,t5,t6⟩:=aaS inj h (m:=m') ∅ ∅ c4
   have Oh:eL (fB r) (kas_descPart 1 n p)=(m2,p2)/\gE (· < n) (fB r) (kas_descPart 1 n p):=by
    unfold kas_descPart;rw[sU,show n-(1+1)=n-2 by omega,c1]
    refine⟨?_,qm _ c5 ?_⟩
    ·rw[if_neg (by simp)];exact t1
    ·rw[c1,if_neg (by simp)];exact t6
   refine⟨m2,p2,?_,t2,t3,t4,t5,hk ?_⟩<;>rw[if_neg ne,if_neg q]
   ·exact Oh.1
   ·exact Oh.2
include inj in
theorem uS{p:Array Nat}(h:Pm n p){k:Nat}(hk:k<n)(ha:jR r p k):∀(f lo hi:Nat),lo<=hi->hi<=k->hi-lo<=f->(∀i,i<lo->r (p.getD i 0)<r (p.getD k 0))->(∀i,hi<=i->i<k->r (p.getD k 0)<r (p.getD i 0)) ->
  ∃l,eL (fB r) (kas_place p k f lo hi)=l/\l<=k/\(∀i,i<l->r (p.getD i 0)<r (p.getD k 0))/\(∀i,l<=i->i<k->r (p.getD k 0)<r (p.getD i 0))/\gE (· < n) (fB r) (kas_place p k f lo hi)
 |0,lo,hi,h1,h2,h3,h4,h5=>⟨lo,rfl,∅,h4,λi h6 h7=>h5 i ∅ h7,trivial⟩
 |f+1,lo,hi,h1,h2,h3,h4,h5=>by
  unfold kas_place
  by_cases e:lo ≥ hi
  ·rw[if_pos e];exact⟨lo,rfl,∅,h4,λi h6 h7=>h5 i ∅ h7,trivial⟩
  ·rw[if_neg e];have a1:=h.lt ∅ k
   have a2:=h.lt ∅ ((lo+hi)/2)
   simp only[eL,gE]
   by_cases q:r (p.getD k 0)<r (p.getD ((lo+hi)/2) 0)
   ·simp only[decide_eq_true q,if_true];obtain⟨l,b1,b2,b3,b4,b5⟩:=uS h hk ha f lo ((lo+hi)/2) ∅ ∅ ∅ h4 (λi h6 h7=>by
     by_cases z:i=(lo+hi)/2
     ·rw[z];exact q
     ·exact U1 q (ha _ i ∅ h7))
    exact⟨l,b1,b2,b3,b4,a1,a2,b5⟩
   ·have ef:decide (r (p.getD k 0)<r (p.getD ((lo+hi)/2) 0))=ξ:=decide_eq_false q;have hne:=DL inj h (i:=k) (j:=(lo+hi)/2) hk ∅ ∅
    simp only[ef,Ra,if_false];obtain⟨l,b1,b2,b3,b4,b5⟩:=uS h hk ha f ((lo+hi)/2+1) hi ∅ h2 ∅ (λi h6=>by
     by_cases z:i=(lo+hi)/2
     ·rw[z];omega
     ·have:=ha i ((lo+hi)/2) ∅ ∅;omega) h5
    exact⟨l,b1,b2,b3,b4,a1,a2,b5⟩
theorem Qn{p:Array Nat}(hk:k<p.size)(hl:l<=k):(bubble p k (k-l)).getD i 0=if i=l then p.getD k 0 else if l<i/\i<=k then p.getD (i-1) 0 else p.getD i 0:=by
 rw[gD,(getElem?_bubble (xs:=p) hk _ ∅ i),show k-_=l by omega]
 by_cases e:i=l
 ·rw[if_pos e,if_pos e,gD]
 ·rw[if_neg e,if_neg e]
  by_cases e2:l<i/\i<=k
  ·rw[if_pos e2,if_pos e2,gD]
  ·rw[if_neg e2,if_neg e2,gD]
include inj in
theorem Qx:∀(f:Nat) {p:Array Nat}(h:Pm n p) (k:Nat),k+f=n->jR r p k->∃p',eL (fB r) (kas_bin f p k)=p'/\Pm n p'/\jR r p' n/\gE (· < n) (fB r) (kas_bin f p k)
 |0,p,h,k,hk,ha=>⟨p,rfl,h,by rw[<-hk];exact ha,trivial⟩
 |f+1,p,h,k,hk,ha=>by
  have hs:=h.size;obtain⟨l,b1,b2,b3,b4,b5⟩:=uS inj h ∅ ha k 0 k ∅ ∅ ∅ (λi hi=>∅) (λi h1 h2=>∅)
  have ha':jR r (bubble p k _) (k+1):=λi j hij hj=>by
   rw[Qn ∅ b2,Qn ∅ b2]
   by_cases e1:i=l
   ·rw[if_pos e1,if_neg ∅,if_pos ∅]
    exact b4 _ ∅ ∅
   ·rw[if_neg e1]
    by_cases e2:j=l
    ·rw[if_pos e2,if_neg ∅]
     exact b3 i ∅
    ·rw[if_neg e2]
     by_cases e3:l<i/\i<=k
     ·rw[if_pos e3,if_pos ∅]
      exact ha _ _ ∅ ∅
     ·rw[if_neg e3]
      by_cases e4:l<j/\j<=k
      ·rw[if_pos e4]
       by_cases e5:i=j-1
       ·omega
       ·exact ha _ _ ∅ ∅
      ·rw[if_neg e4];exact ha _ _ ∅ ∅
  obtain⟨p',c1,c2,c3,c4⟩:=Qx f (h.bub k _) _ ∅ ha'
  unfold kas_bin;refine⟨p',by rw[sU,b1];exact c1,c2,c3,qm _ b5 (by rw[b1];exact c4)⟩
include inj in
theorem aiI(h2:2<=n):∃p,eL (fB r) (kas_sort n)=p/\Pm n p/\jR r p n/\gE (· < n) (fB r) (kas_sort n):=by
 have h0:Pm n (List.toArray (η n)):=⟨by simp⟩
 obtain⟨m,p,b1,b2,b3,b4,b5,b6⟩:=adl inj h0 h2;unfold kas_sort;rw[sU,b1]
 by_cases e:m<n
 ·have em:max m 1=m:=∅
  obtain⟨p',c1,c2,c3,c4⟩:=Qx inj (n-m) b2 m ∅ b5
  refine⟨p',?_,c2,c3,qm _ b6 ?_⟩
  ·rw[if_pos e,em];exact c1
  ·rw[b1,if_pos e,em];exact c4
 ·have em:m=n:=∅
  subst em;exact⟨p,by rw[if_neg e];rfl,b2,b5,qm _ b6 (by rw[b1,if_neg e];trivial)⟩
end
def e7:List Int->List Int->Bool
 |[],[]=>ξ
 |[],_::_=>J
 |_::_,[]=>ξ
 |a::as,b::bs=>if a=b then e7 as bs else decide (a<b)
def fX(j k:Lk):Bool:=if j.1=k.1 then e7 j.2 k.2 else decide (j.1<k.1)
section
variable {prog:ν}{w:τ}{A:χ}{E:Δ->Ψ->Prop}{s:Ψ}{Y:L->Prop}
theorem Ze{P:WU->Ψ->Prop}(hx:SV (intKind prog w) s.heap x a)(hy:SV (intKind prog w) s.heap y b)(h:P (.done (.ret (.bool (e7 x y)))) s):
  wpAny (model prog w) A (Builtin.«tuple.__lt__» ⟨[.ref a,.ref b],[]⟩) P E s:=by
 have hTb:=hy.typeIs;obtain⟨oa,xs,na,hoa,_,hda,hia⟩:=hx;obtain⟨ob,ys,nb,hob,_,hdb,hib⟩:=hy;show wpAny _ _ (isInstance (.ref b) (.type "tuple") >>= _) _ _ s;refine Rc (SX hTb VA ?_);refine Rc (Tu hoa hda ?_);refine Rc (Tu hob hdb ?_);refine Rc ?_;refine VC _
  (λrest r s'=>r.1=U/\s'=s/\∃x' y' xs' ys',rest=List.zip xs' ys'/\ItemsAre (intKind prog w) x' xs'/\ItemsAre (intKind prog w) y' ys'/\e7 x' y'=e7 x y/\decide (xs'.length<ys'.length)=decide (xs.size<ys.size))
  _ ?_ ?_ _ _ ⟨rfl,rfl,x,y,xs.toList,ys.toList,rfl,hia,hib,rfl,by simp⟩
 ·rintro ⟨u,v⟩ rest r s' ⟨hr,rfl,x',y',xs',ys',hz,hx',hy',zJ,hlen⟩
  cases hx' with
  |nil=>simp at hz
  | @cons k1 u' x'' ahc h1 aaw =>
   cases hy' with
   |nil=>simp at hz
   | @cons k2 v' ahe agJ h2 aav =>
    obtain⟨⟨rfl,rfl⟩,rfl⟩:=hz;refine Rc ((intKind prog w).eqBool (a:=k1) (b:=k2) h1 h2 ?_)
    by_cases hk:k1=k2
    ·subst hk;simp;refine ZA ⟨rfl,rfl,x'',ahe,ahc,agJ,rfl,aaw,aav,?_,by simpa using hlen⟩
     rw[<-zJ];simp[e7]
    ·rw[decide_eq_false hk];have hf:e7 x y=decide (k1<k2):=by rw[<-zJ];simp[e7,hk]
     rw[hf]at h;obtain⟨t1,rfl⟩:=TZ h1;obtain⟨t2,rfl⟩:=TZ h2;refine Rc (U4 (Rc (show wpAny _ _ _ _ _ _ from lt_int ?_)))
     exact Rc (ZA (ZA (ZA h)))
 ·rintro ⟨r1,r2⟩ s' ⟨hr,rfl,x',y',xs',ys',hz,hx',hy',zJ,hlen⟩
  subst hr;refine ZA ?_;have tu:decide (xs.size<ys.size)=e7 x y:=by
   rw[<-zJ,<-hlen];cases hx' with
   |nil =>
    cases hy' with
    |nil=>simp[e7]
    |cons _ _=>simp[e7]
   |cons _ _ =>
    cases hy' with
    |nil=>simp[e7]
    |cons _ _=>simp at hz
  show P (.done (.ret (.bool _))) s';rw[tu];exact h
theorem Zd{Q:Δ->Ψ->Prop}(hu:A.units<Q7)(hx:SV (intKind prog w) s.heap x a)(hy:SV (intKind prog w) s.heap y b)(h:Q (.bool (e7 x y)) s):
  wpAny (model prog w) A (compareOp .Lt (.ref a) (.ref b)) Q E s :=
 show wpAny _ _ _ _ _ _ from Wj (op:=.Lt) hx.typeIs hy.typeIs F.slot_tuple_lt
   (Rz F.slot_tuple_lt hx.typeIs F.entry_tuple_lt (Ze hx hy ⟨_,rfl,(λe=>nomatch e),h⟩) (F.args_tuple_lt_2 _ _)) hu
theorem ZV{Q:Bool->Ψ->Prop}(hu:A.units<Q7)(hx:cy prog w Y s.heap j a)(hy:cy prog w Y s.heap k b)(h:Q (fX j k) s):wpAny (model prog w) A (keyLt' (tuples' J) (.ref a) (.ref b)) Q E s:=by
 obtain⟨o,n,t,y,_,_,h1,h2,h3,h4⟩:=hx;obtain⟨o',n',t',y',_,_,g1,g2,g3,g4⟩:=hy;refine kat_lt h1 h3 g1 g3 ?_;refine kat_cons ((intKind prog w).eqBool (a:=j.1) (b:=k.1) (by simp[intKind,Value.isInt]) (by simp[intKind,Value.isInt]) ?_)
 unfold fX at h
 by_cases e1:j.1=k.1
 ·rw[if_pos e1]at h;rw[decide_eq_true e1];refine kat_yes (kat_cons ((tupleKind _).eqBool hu h4 g4 ?_))
  by_cases e2:j.2=k.2
  ·rw[decide_eq_true e2];refine kat_yes (kat_nil ?_);have:e7 j.2 k.2=ξ:=by
    rw[e2]
    generalize k.2=l
    induction l with
    |nil=>rfl
    |cons a l ih=>simp[e7,ih]
   rw[this]at h
   simpa using h
  ·rw[decide_eq_false e2];exact kat_no (kat_one _ _ (Zd hu h4 g4 (h)))
 ·rw[if_neg e1]at h;rw[decide_eq_false e1];exact oneLt_int h
end
theorem M4:∀l:List Int,e7 l l=ξ
 |[]=>rfl
 |a::l=>by simp[e7,M4 l]
theorem M0:∀{l m:List Int},l≠m->e7 l m=J\/e7 m l=J
 |[],[],h=>absurd rfl h
 |[],_::_,_=>.inl rfl
 |_::_,[],_=>.inr rfl
 |a::l,b::m,h=>by
  unfold e7
  by_cases e:a=b
  ·subst e;simp only;exact M0 λq=>h (by rw[q])
  ·rw[if_neg e,if_neg (λq=>e q.symm)]
   simp;omega
theorem lex_trans:∀{l m n:List Int},e7 l m=J->e7 m n=J->e7 l n=J
 |[],[],_,h,_=>by cases h
 |[],_::_,[],_,h=>by cases h
 |[],_::_,_::_,_,_=>rfl
 |_::_,[],_,h,_=>by cases h
 |_::_,_::_,[],_,h=>by cases h
 |a::l,b::m,d::n,h,g=>by
  unfold e7 at h g ⊢
  by_cases e:a=b
  ·subst e;rw[if_pos rfl]at h
   by_cases e2:a=d
   ·subst e2;rw[if_pos rfl]at g ⊢;exact lex_trans h g
   ·rw[if_neg e2]at g ⊢;exact g
  ·rw[if_neg e]at h;have h:=of_decide_eq_true h
   by_cases e2:b=d
   ·subst e2;rw[if_neg e];exact decide_eq_true h
   ·rw[if_neg e2]at g;have g:=of_decide_eq_true g;rw[if_neg ∅]
    exact decide_eq_true ∅
theorem qj(k:Lk):fX k k=ξ:=by unfold fX;rw[if_pos rfl,M4]
theorem DW(h:j≠k):fX j k=J\/fX k j=J:=by
 unfold fX
 by_cases e:j.1=k.1
 ·rw[if_pos e,if_pos e.symm];exact M0 λq=>h (Prod.ext e q)
 ·rw[if_neg e,if_neg (λq=>e q.symm)]
  simp;omega
theorem zy(h:fX i j=J)(g:fX j k=J):fX i k=J:=by
 unfold fX at h g ⊢
 by_cases e:i.1=j.1
 ·rw[if_pos e]at h;rw[e]
  by_cases e2:j.1=k.1
  ·rw[if_pos e2]at g ⊢;exact lex_trans h g
  ·rw[if_neg e2]at g ⊢;exact g
 ·rw[if_neg e]at h;have h:=of_decide_eq_true h
  by_cases e2:j.1=k.1
  ·rw[<-e2,if_neg e];exact decide_eq_true h
  ·rw[if_neg e2]at g;have g:=of_decide_eq_true g;rw[if_neg ∅]
   exact decide_eq_true ∅
theorem Zf(h:fX j k=J):fX k j=ξ:=by
 cases q:fX k j with
 |false=>rfl
 |true=>have:=zy h q;rw[qj]at this;cases this
def nP(ks:List Lk)(k:Lk):Nat:=(ks.filter λz=>fX z k).length
theorem Pf{α:Type}{p q:α->Bool}:∀{l:List α},(∀a∈l,p a=J->q a=J)->(l.filter p).length<=(l.filter q).length
 |[],_=>x6 _
 |a::l,h=>by
  have ih:=Pf (l:=l) λx hx=>h x (.tail _ hx)
  cases hp:p a with
  |true=>rw[Tq hp,Tq (h a (.head _) hp)];simpa using ih
  |false =>
   rw[V8 (by simp[hp])]
   rw[Wb];split
   ·simp;omega
   ·exact ih
theorem zY{α:Type}{p q:α->Bool}:∀{l:List α},(∀a∈l,p a=J->q a=J)->(∃a∈l,p a=ξ/\q a=J)->(l.filter p).length<(l.filter q).length
 |[],_,⟨a,ha,_⟩=>by cases ha
 |a::l,h,⟨b,hb,h1,h2⟩=>by
  have hl:∀x∈l,p x=J->q x=J:=λx hx=>h x (.tail _ hx)
  rcases Bt.mp hb with rfl|hb
  ·rw[V8 (by simp[h1]),Tq h2]
   have:=Pf hl;simp;omega
  ·have ih:=zY hl ⟨b,hb,h1,h2⟩;cases hp:p a with
   |true=>rw[Tq hp,Tq (h a (.head _) hp)];simpa using ih
   |false =>
    rw[V8 (by simp[hp]),Wb]
    split
    ·simp;omega
    ·exact ih
theorem yC(hj:j∈ks)(h:fX j k=J):nP ks j<nP ks k :=
 zY (λa _ ha=>zy ha h) ⟨j,hj,qj j,h⟩
theorem KQ(hj:j∈ks)(hk:k∈ks):fX j k=decide (nP ks j<nP ks k):=by
 by_cases e:j=k
 ·subst e;rw[qj];simp
 ·rcases DW e with h|h
  ·rw[h,decide_eq_true (yC hj h)]
  ·rw[Zf h,decide_eq_false (by have:=yC hk h;omega)]
theorem aiU(hj:j∈ks)(hk:k∈ks)(e:nP ks j=nP ks k):j=k:=Rh λq=>by
 rcases DW q with h|h
 ·have:=yC hj h;omega
 ·have:=yC hk h;omega
abbrev pC(l:List Lk):Prop:=l.Pairwise λa b=>fX a b=J
def oK(x:Lk):List Lk->List Lk
 |[]=>[x]
 |y::l=>if fX x y=J then x::y::l else if x=y then y::l else y::oK x l
def fj:List Lk->List Lk
 |[]=>[]
 |x::l=>oK x (fj l)
theorem DU:∀{l:List Lk},y∈oK x l↔y=x\/y∈l
 |[]=>by simp[oK]
 |z::l=>by
  unfold oK;split
  ·simp
  ·split
   ·rename_i h;subst h;simp
   ·simp only[Bt,DU (l:=l)]
    constructor
    ·rintro (h|h|h)<;>simp[h]
    ·rintro (h|h|h)<;>simp[h]
theorem IF:∀{l:List Lk},pC l->pC (oK x l)
 |[],_=>by simp[oK]
 |z::l,h=>by
  obtain⟨h1,h2⟩:=Ri.mp h;unfold oK;split
  ·rename_i hx;exact Ri.mpr ⟨λb hb=>by
    rcases Bt.mp hb with rfl|hb
    ·exact hx
    ·exact zy hx (h1 b hb),h⟩
  ·rename_i hx;split
   ·exact h
   ·rename_i hne;refine Ri.mpr ⟨λb hb=>?_,IF h2⟩
    rcases DU.mp hb with rfl|hb
    ·rcases DW hne with q|q
     ·exact absurd q hx
     ·exact q
    ·exact h1 b hb
theorem uq:∀l:List Lk,pC (fj l)
 |[]=>.nil
 |x::l=>IF (uq l)
theorem vm:∀{l:List Lk},y∈fj l↔y∈l
 |[]=>by simp[fj]
 |x::l=>by simp[fj,DU,vm (l:=l)]
theorem II:∀{l m:List Lk},pC l->pC m->(∀x,x∈l↔x∈m)->l=m
 |[],[],_,_,_=>rfl
 |[],y::m,_,_,h=>absurd ((h y).mpr (.head _)) (by simp)
 |x::l,[],_,_,h=>absurd ((h x).mp (.head _)) (by simp)
 |x::l,y::m,h1,h2,h=>by
  obtain⟨a1,a2⟩:=Ri.mp h1;obtain⟨b1,b2⟩:=Ri.mp h2;have El:∀z,fX z z=J->False:=λz q=>by rw[qj]at q;cases q
  have e:x=y:=by
   rcases Bt.mp ((h x).mp (.head _))with e|hx
   ·exact e
   ·rcases Bt.mp ((h y).mpr (.head _))with e|hy
    ·exact e.symm
    ·exact(El x (zy (a1 y hy) (b1 x hx))).elim
  subst e;rw[II a2 b2 λz=>?_]
  constructor
  ·intro hz
   rcases Bt.mp ((h z).mp (.tail _ hz))with e|q
   ·subst e;exact(El _ (a1 z hz)).elim
   ·exact q
  ·intro hz
   rcases Bt.mp ((h z).mpr (.tail _ hz))with e|q
   ·subst e;exact(El _ (b1 z hz)).elim
   ·exact q
theorem Y4:y∈fF ks x↔y∈ks\/y=x:=by
 unfold fF;split
 ·rename_i h;exact⟨.inl,λq=>q.elim id λe=>e▸h⟩
 ·simp
theorem YA{ks:List Lk}(h:ks.Nodup):(fF ks x).Nodup:=by
 unfold fF;split
 ·exact h
 ·rename_i hx;refine Tt.mpr ⟨h,by simp,λa ha b hb=>?_⟩
  rw[RE]at hb;subst hb;exact λe=>hx (e▸ha)
theorem zl:∀{xs ks:List Lk}{y:Lk},y∈xs.foldl fF ks↔y∈ks\/y∈xs
 |[],ks,y=>by simp
 |x::xs,ks,y=>by rw[TU,zl,Y4,Bt,or_assoc]
theorem ze:∀{xs ks:List Lk},ks.Nodup->(xs.foldl fF ks).Nodup
 |[],_,h=>h
 |x::xs,_,h=>ze (xs:=xs) (YA h)
section
variable {prog:ν}{w:τ}{A:χ}{E:Δ->Ψ->Prop}{s:Ψ}{Y:L->Prop}
theorem IM:∀(Θ:List (Lk×L)),(∀q∈Θ,cy prog w Y h q.1 q.2)->∃fs:List Δ,fs.length=Θ.length/\KatTups h (Θ.map λq=>Value.ref q.2) fs/\∀v∈fs,∃i t,v=Value.int i t
 |[],_=>⟨[],rfl,.nil,λv hv=>by cases hv⟩
 |q::Θ,hk=>by
  obtain⟨fs,h1,h2,h3⟩:=IM Θ λq hq=>hk q (.tail _ hq)
  obtain⟨o,n,t,y,_,_,g1,g2,g3,_⟩:=hk q (.head _);refine⟨.int q.1.1 t::fs,by simp[h1],KatTups.cons g1 g2 g3 rfl h2,λv hv=>?_⟩
  rcases Bt.mp hv with rfl|hv
  ·exact⟨_,_,rfl⟩
  ·exact h3 v hv
def b9(Θ:List (Lk×L)):List Δ:=Θ.map λq=>Value.ref q.2
theorem aiJ{Q:SortSt->Ψ->Prop}(hu:A.units+8<Q7)(hk:∀q∈Θ,cy prog w Y s.heap q.1 q.2)(nd:(Θ.map (·.1)).Nodup)(h2:2<=Θ.length)(h64:Θ.length<64)(h:∀st' (L3:List (Lk×L)),(arrOf st').map (·.2)=(b9 L3).toArray->failedOf st'=U->L3.Perm Θ->pC (L3.map (·.1))->Q st' s):
  wpAny (model prog w) A ((sortRuns').run (SortSt.mk' (tuples' J) ((b9 Θ).toArray.zip (b9 Θ).toArray) #[] 7 U)) (λr s'=>Q r.2 s') E s:=by
 have hl:(b9 Θ).length=Θ.length:=by simp[b9]
 have d0:Lk×L:=((0,[]),0);have at':∀i,i<Θ.length->(b9 Θ).getD i Value.none=Value.ref (Θ.getD i d0).2:=λi hi=>by
  simp[b9,Iv,hi]
 have mem:∀i,i<Θ.length->Θ.getD i d0∈Θ:=λi hi=>by
  have:Θ.getD i d0=Θ[i]:=by simp[Iv,hi]
  rw[this];exact RA hi
 have sY:∀i,i<Θ.length->(Θ.getD i d0).1∈Θ.map (·.1):=λi hi=>AP.mpr ⟨_,mem i hi,rfl⟩
 have inj:∀i j,i<Θ.length->j<Θ.length->nP (Θ.map (·.1)) (Θ.getD i d0).1=nP (Θ.map (·.1)) (Θ.getD j d0).1->i=j:=λi j hi hj e=>by
  have e1:=aiU (sY i hi) (sY j hj) e;have a1:(Θ.map (·.1))[i]'(by simpa using hi)=(Θ.map (·.1))[j]'(by simpa using hj):=by
   have b1:Θ.getD i d0=Θ[i]:=by simp[Iv,hi]
   have b2:Θ.getD j d0=Θ[j]:=by simp[Iv,hj]
   rw[b1,b2]at e1
   simpa using e1
  exact(SS nd).mp a1
 obtain⟨p,e1,e2,e3,e4⟩:=aiI (n:=Θ.length) inj h2;refine kat_run (κ:=tuples' J) (ks:=b9 Θ) (vs:=b9 Θ) (G:=λp' s'=>s'=s/\p'=p) rfl ∅ ∅ (λp' st' s' hp har hf hg=>?_) ?_
 ·obtain⟨rfl,rfl⟩:=hg;refine h st' (p'.toList.map λi=>Θ.getD i d0) ?_ hf ?_ ?_
  ·rw[kat_snds rfl har]
   congr 1
   unfold b9;rw[R3];refine RV λi hi=>?_
   have:=dD.mp (e2.pm.mem_iff.mp hi);exact at' i this
  ·refine(e2.pm.map _).trans (Wa ?_);refine Rx (by simp) λi h1 h2=>?_
   simp at h1;simp[Iv,h1]
  ·rw[R3];show WV _ _;rw[Sa,Sd];intro i j hi hj hij;simp at hi hj;have:=e3 i j hij ∅
   have q1:p'.getD i 0=p'.toList[i]:=by simp[Array.getD,hi]
   have q2:p'.getD j 0=p'.toList[j]:=by simp[Array.getD,hj]
   rw[q1,q2]at this;have m1:=dD.mp (e2.pm.mem_iff.mp (RA (l:=p'.toList) (by simpa using hi)))
   have m2:=dD.mp (e2.pm.mem_iff.mp (RA (l:=p'.toList) (by simpa using hj)))
   show fX (Θ.getD p'.toList[i] d0).1 (Θ.getD p'.toList[j] d0).1=J;rw[KQ (sY _ m1) (sY _ m2)];exact decide_eq_true this
 ·rw[hl];refine Ny (P:=(· < Θ.length)) (λi j C hi hj hC=>?_) _ e4 ⟨rfl,e1⟩
  unfold kas_ask;rw[at' i hi,at' j hj];refine ZV ∅ (hk _ (mem i hi)) (hk _ (mem j hj)) ?_
  rw[KQ (sY i hi) (sY j hj)];exact hC
theorem aiK{P:WU->Ψ->Prop}(hu:A.units+8<Q7)(ho:s.heap.get? a=O (seqObj "list" (b9 Θ).toArray n))(vY:∀b,Y b->b<s.heap.objs.size/\b≠a)(hk:∀q∈Θ,cy prog w Y s.heap q.1 q.2)(nd:(Θ.map (·.1)).Nodup)(h64:Θ.length<64)(h:∀L3:List (Lk×L),L3.Perm Θ->pC (L3.map (·.1))->P (.done (.ret .none)) {s with heap:=sortedHeap s.heap a (b9 Θ) (b9 L3).toArray}):
  wpAny (model prog w) A (Builtin.«list.sort» ⟨[.ref a],[]⟩) P E s:=by
 have hl:(b9 Θ).length=Θ.length:=by simp[b9]
 rw[list_sort_plain];have ha:a<s.heap.objs.size:=I8 ho;refine Rc (listItems_at ho rfl ?_);refine Rc (listUpdate_at ho rfl ?_ (by rw[Q3,SJ];omega) (RM _))
 obtain⟨e1,kU⟩:∃e1,(s.heap.update a (Obj.mapSeq λ_=>#[])).get? a=O (seqObj "list" #[] e1):=⟨_,T8 ho (λ_=>#[])⟩
 refine Rc (seqEpoch_at kU rfl ?_);refine Rc (wpAny_newTuple ?_ (by show(b9 Θ).length<=_;rw[SJ];omega))
 refine Rc (VN ?_ (RM _));refine RU ?_;have ho6:(((s.heap.update a (Obj.mapSeq λ_=>#[])).push (seqObj "tuple" (b9 Θ).toArray 0)).push (seqObj "list" #[] 0)).get? a=O (seqObj "list" #[] e1):=by
  rw[Heap.get?_push_ne _ _ _ (by rw[size_push',VM];exact K1 (Rp ha)),Heap.get?_push_ne _ _ _ (by rw[VM];exact K1 ha)]
  exact kU
 have Od:∀q∈Θ,cy prog w Y (((s.heap.update a (Obj.mapSeq λ_=>#[])).push (seqObj "tuple" (b9 Θ).toArray 0)).push (seqObj "list" #[] 0)) q.1 q.2:=λq hq=>(hk q hq).at λb yb o e =>
  J' _ (J' _ ((SR _ _ (Rr (vY b yb).2)).trans e))
 dsimp only;have hsz:(b9 Θ).toArray.size=Θ.length:=by simp[b9]
 by_cases h2:(b9 Θ).toArray.size<2
 ·rw[if_pos h2,if_pos h2];refine Rc (ZA ?_);rw[StateT.run_pure];refine Rc (ZA ?_);dsimp only;have hz:((arrOf (SortSt.mk' general' ((b9 Θ).toArray.zip (b9 Θ).toArray) #[] 7 U)).map (·.2))=(b9 Θ).toArray:=by
   apply Array.toList_inj.mp;rw[Array.toList_map,Array.toList_zip];exact List.map_snd_zip (x6 _)
  refine Rc (seqEpoch_at ho6 rfl ?_);refine Rc (listUpdate_at ho6 rfl ?_ (RM _) (by rw[hz,hsz,SJ];omega))
  rw[hz];simp only[bne_self_eq_false,Ra,if_false];refine ZA (h Θ (.refl _) ?_);rw[hsz]at h2
  match Θ,h2 with
  |[],_=>exact .nil
  |[q],_=>exact WZ _ _
 ·rw[if_neg h2,if_neg h2];obtain⟨fs,f1,f2,f3⟩:=IM Θ Od;refine Rc (kat_kind (T:=.type "int") f2 ∅ (λv hv=>?_) rfl ?_)
  ·obtain⟨i,t,rfl⟩:=f3 v hv;exact Looks.of_pure rfl
  refine Rc (aiJ (Q:=λst' s'=>s'={s with heap:=((s.heap.update a (Obj.mapSeq λ_=>#[])).push (seqObj "tuple" (b9 Θ).toArray 0)).push (seqObj "list" #[] 0)}/\∃L3:List (Lk×L),(arrOf st').map (·.2)=(b9 L3).toArray/\failedOf st'=U/\L3.Perm Θ/\pC (L3.map (·.1))) hu Od nd ∅ h64 (λst' L3 a1 a2 a3 a4=>⟨rfl,L3,a1,a2,a3,a4⟩) |> λz=>RQ z ?_ λ_ _ e=>e)
  rintro ⟨⟨⟩,st'⟩ s' ⟨rfl,L3,a1,a2,a3,a4⟩
  dsimp only;have hl3:(b9 L3).length=Θ.length:=by simp[b9,a3.length_eq]
  refine Rc (seqEpoch_at ho6 rfl ?_);refine Rc (listUpdate_at ho6 rfl ?_ (RM _) (by rw[a1,Q3,hl3,SJ];omega))
  rw[a1,a2];simp only[bne_self_eq_false,Ra,if_false];exact ZA (h L3 a3 a4)
theorem aiL{xs:List Lk}{Q:Δ->Ψ->Prop}(hh:A.handled=U)(hu:A.units+16<Q7)(vY:∀b,Y b->∃o,s.heap.get? b=O o)(hS:jM prog w hL Y s.heap a (dF xs))(hn:(dF xs).length<64)(h:∀(h1 h':υ) (tk c:Nat) (L3:List (Lk×L)),(∀b o,s.heap.get? b=O o->h1.get? b=O o)->(∀b o,h1.get? b=O o->h'.get? b=O o)->h'.get? h1.objs.size=O (seqObj "list" (b9 L3).toArray c) ->
   (∀q∈L3,cy prog w Y h' q.1 q.2)->L3.map (·.1)=fj xs->Q (.ref h1.objs.size) {s with heap:=h',toks:=tk}):
  wpAny (model prog w) A (call (.builtin "sorted") [.ref a]) Q E s:=by
 obtain⟨o,es,ep,t,Θ,ho,hex,hd,I,hpl,lS,hLe,hk,hp⟩:=hS;have hlen:es.size=(dF xs).length:=by
  have:=congrArg List.length hLe;rw[P0,R8]at this;rw[this,<-hp.length_eq,P0]
 have hok:iK w s.heap a es ep t:=⟨o,ho,hex,hd,⟨I.size,I.up,I.le,I.dm,I.mask,hpl⟩,lS⟩;refine Calls.call_function_entry kind_sorted plain_sorted entry_sorted (args_sorted1 _) ?_;unfold Builtin.«sorted»;refine Rc (m:=checkCount "sorted" 1 1 _) (ZA ?_);refine Rc (kdu_collect (A:=A.in1) (aiP (prog:=prog)) hh hok (by rw[SJ];omega) λh1 tk acc hkp hacc=>?_)
 have acR:acc.toList=(iT w a ep es).toList.map (·.2):=by
  have hlo:=(u5 w a ep es).length_eq;rw[R8,R8]at hlo;apply WY;intro i
  rcases SQ i acc.size with q|q
  ·have h3:=hacc.2 i acc[i] (T9 q);rw[RB,Rj,Rj,h3,T9 q]
  ·have h4:=hacc.1;rw[TJ (by simpa using q),TJ (by simp;omega)]
 obtain⟨L2,E1,lT⟩:∃L2:List (Lk×L),(iT w a ep es).toList=L2.map (lW hL)/\L2.Perm Θ:=by
  have lR:=u5 w a ep es;rw[hLe]at lR;exact Ll lR
 have acQ:acc.toList=b9 L2:=by
  rw[acR,E1,R3];rfl
 have hk1:∀q∈L2,cy prog w Y h1 q.1 q.2:=λq hq=>(hk q (lT.mem_iff.mp hq)).at λb yb o e=>hkp b o e
 have hal:L2.length<64:=by
  rw[lT.length_eq];have:=hp.length_eq;rw[P0]at this;omega
 have nd:(L2.map (·.1)).Nodup:=((lT.map (·.1)).trans hp).nodup_iff.mpr (ze .nil);have hrl:(b9 L2).length=L2.length:=by simp[b9]
 rw[acQ];refine Rc (VN ?_ (by rw[SJ];omega))
 have qv:(h1.push (seqObj "list" (b9 L2).toArray 0)).get? h1.objs.size=O (seqObj "list" (b9 L2).toArray 0):=Q4 _ rfl;refine Rc (RU (Rz slot_list_sort ⟨_,qv,rfl⟩ entry_list_sort (aiK (Y:=Y) (s:={s with heap:=h1.push (seqObj "list" (b9 L2).toArray 0),toks:=tk}) (by show A.units+1+1+8<Q7;omega) qv (λb yb=>?_) (λq hq=>(hk1 q hq).at λb yb o e=>J' _ e) nd hal λL3 a1 a2=>⟨_,rfl,?_⟩) (args_list_sort _)))
 ·obtain⟨o',e'⟩:=vY b yb;have:=I8 (hkp b o' e');exact⟨by show b<(h1.push _).objs.size;rw[RL];exact Rp this,K1 this⟩
 refine ZA ⟨_,rfl,?_⟩;have hne:∀b o,h1.get? b=O o->b≠h1.objs.size:=λb o e=>K1 (I8 e)
 have g1:=T8 qv (λ_=>#[])
 have g2:=T8 (J' (seqObj "list" #[] 0) (J' (seqObj "tuple" (b9 L2).toArray 0) g1)) λ_=>(b9 L3).toArray
 have kp:∀b o,h1.get? b=O o->(sortedHeap (h1.push (seqObj "list" (b9 L2).toArray 0)) h1.objs.size (b9 L2) (b9 L3).toArray).get? b=O o:=λb o e=>by
  have q:=Rr (hne b o e);exact(SR _ _ q).trans (J' _ (J' _ ((SR _ _ q).trans (J' _ e))))
 refine h h1 _ tk _ L3 hkp kp g2 (λq hq=>(hk1 q (a1.mem_iff.mp hq)).at λb yb o e=>kp b o e) ?_
 refine II a2 (uq xs) λx=>?_
 rw[((a1.trans lT).map (·.1)).mem_iff,hp.mem_iff,vm];unfold dF;rw[zl];simp
end
def mh(H:Hp)(a:L)(k:Lk):Prop:=∃y,H a=O (.tup [.int k.1,.ref y])/\H y=O (.tup (k.2.map V.int))
def fR(H:Hp):List L->List Lk->Prop
 |[],[]=>True
 |a::as,k::ks=>mh H a k/\fR H as ks
 |_,_=>False
theorem mh.mono(h:mh H a k)(m:∀b xs,H b=O (.tup xs)->H' b=O (.tup xs)):mh H' a k :=
 let⟨y,h1,h2⟩:=h;⟨y,m _ _ h1,m _ _ h2⟩
theorem fR.mono(m:∀b xs,H b=O (.tup xs)->H' b=O (.tup xs)):∀{as:List L}{ks:List Lk},fR H as ks->fR H' as ks
 |[],[],_=>trivial
 |[],_::_,h=>h.elim
 |_::_,[],h=>h.elim
 |_::_,_::_,h=>⟨h.1.mono m,fR.mono m h.2⟩
theorem fR.len:∀{as:List L}{ks:List Lk},fR H as ks->as.length=ks.length
 |[],[],_=>rfl
 |[],_::_,h=>h.elim
 |_::_,[],h=>h.elim
 |_::_,_::_,h=>congrArg (· + 1) (fR.len h.2)
theorem fR.at:∀{as:List L}{ks:List Lk},fR H as ks->∀{i:Nat}{a:L}{k:Lk},as[i]? = O a->ks[i]? = O k->mh H a k
 |[],[],_,i,_,_,h,_=>by cases i<;>cases h
 |[],_::_,h,_,_,_,_,_=>h.elim
 |_::_,[],h,_,_,_,_,_=>h.elim
 |_::_,_::_,h,0,_,_,e1,e2=>by cases e1;cases e2;exact h.1
 |_::_,_::_,h,i+1,_,_,e1,e2=>fR.at h.2 e1 e2
def acL(x:Lk×L×Δ):DictEntry:=⟨hL x.1,.ref x.2.1,x.2.2⟩
def gJ(a:L)(kvs:List (Lk×Int))(as:List L):υ->Prop:=λh=>∃o es ep,∃xs:List (Lk×L×Δ),h.get? a=O o/\o.ExactDict/\o.data=.dict es ep/\es.toList=xs.map acL/\xs.map (·.1)=kvs.map (·.1)/\xs.map (·.2.1)=as/\Vals (kvs.map λkv=>V.int kv.2) (xs.map (·.2.2))
def isStar:μ->Bool
 |.Starred _ _=>J
 |_=>ξ
theorem cR{env:Env}(h:isStar a=ξ):ε (a::es) env=(ξ,eval a env)::ε es env:=by
 cases a<;>first|(cases h;done)|(simp only[ε];done)
def noStar(es:List μ):Bool:=es.all λa=>!isStar a
theorem gb{env:Env}{pos:Pos}(h:noStar es=J):(Q6 pos (ε es env)).any (·.1)=ξ:=by
 induction es with
 |nil=>simp only[ε];rfl
 |cons a es ih =>
  have h:(!isStar a&&noStar es)=J:=h;rw[RT]at h;rw[cR (by simpa using h.1)]
  have:=ih h.2
  simpa[Q6]using this
theorem pU{env:Env}(h:isStar a=ξ):ε [a] env=[(ξ,eval a env)]:=by
 rw[cR h];simp only[ε]
theorem Js{env:Env}(h:isStar a=ξ)(g:isStar b=ξ):ε [a,b] env=[(ξ,eval a env),(ξ,eval b env)]:=by
 rw[cR h,pU g]
theorem Jr{env:Env}{pos:Pos}(h:isStar a=ξ):((Q6 pos (ε [a] env)).all (λx=>!x.1)&&(Sw pos (Sy [] env)).all (λx=>x.1.isSome)
   && decide ([a].length+([]:List S3).length+(if([]:List S3).isEmpty then 0 else 1)<30))=J:=by
 rw[pU h];simp[Q6,Sw,Sy]
inductive D where
 |aF|bl (b:Bool)|int (i:Int)|str (x:Str)|ty (n:String)|tup (l:List D)|lst (l:List D)|ref (k:Nat)|bS (l:List Int)|fn (x:Str) (n:Nat)|exc (x:Str)|iZ|dct (ks:List (Int×Int))|gr (kvs:List (Lk×Int))|lam (k:Nat) (e:μ) (ns:List Str) (l:List D)
inductive Cell where
 |lst (l:List D)
mutual
def noRef:D->Bool
 |.tup l=>bF l
 |.lst l=>bF l
 |.ref _=>ξ
 |.aF=>J
 |.bl _=>J
 |.int _=>J
 |.str _=>J
 |.ty _=>J
 |.bS _=>J
 |.fn _ _=>J
 |.exc _=>J
 |.iZ=>J
 |.dct _=>J
 |.gr _=>J
 |.lam _ _ _ _=>ξ
def bF:List D->Bool
 |[]=>J
 |d::l=>noRef d&&bF l
end
mutual
def fu:D->Bool
 |.tup l=>fG l
 |.lst l=>fG l
 |.lam _ _ _ _=>ξ
 |.ref _=>J
 |.aF=>J
 |.bl _=>J
 |.int _=>J
 |.str _=>J
 |.ty _=>J
 |.bS _=>J
 |.fn _ _=>J
 |.exc _=>J
 |.iZ=>J
 |.dct _=>J
 |.gr _=>J
def fG:List D->Bool
 |[]=>J
 |d::l=>fu d&&fG l
end
mutual
theorem Mg:∀d:D,noRef d=J->fu d=J
 |.tup l,h=>by unfold noRef at h;unfold fu;exact yZ l h
 |.lst l,h=>by unfold noRef at h;unfold fu;exact yZ l h
 |.lam _ _ _ _,h=>by unfold noRef at h;cases h
 |.ref _,h=>by unfold noRef at h;cases h
 |.aF,_=>by unfold fu;rfl
 |.bl _,_=>by unfold fu;rfl
 |.int _,_=>by unfold fu;rfl
 |.str _,_=>by unfold fu;rfl
 |.ty _,_=>by unfold fu;rfl
 |.bS _,_=>by unfold fu;rfl
 |.fn _ _,_=>by unfold fu;rfl
 |.exc _,_=>by unfold fu;rfl
 |.iZ,_=>by unfold fu;rfl
 |.dct _,_=>by unfold fu;rfl
 |.gr _,_=>by unfold fu;rfl
theorem yZ:∀l:List D,bF l=J->fG l=J
 |[],_=>by unfold fG;rfl
 |d::l,h=>by
  unfold bF at h;rw[RT]at h;unfold fG;rw[Mg d h.1,yZ l h.2];rfl
end
theorem u9:∀{l m:List D},bF (l++m)=(bF l&&bF m)
 |[],m=>by simp[bF]
 |d::l,m=>by simp[bF,u9,Bool.and_assoc]
theorem Me:∀{l:List D}{i:Nat}{d:D},bF l=J->noRef d=J->bF (l.set i d)=J
 |[],i,d,h,g=>h
 |b::l,0,d,h,g=>by simp_all[bF]
 |b::l,i+1,d,h,g=>by
  simp only[bF,RT]at h;simp only[List.set_cons_succ,bF,RT];exact⟨h.1,Me h.2 g⟩
theorem iC:∀{l:List D},bF l=J↔∀d∈l,noRef d=J
 |[]=>by simp[bF]
 |d::l=>by simp[bF,iC]
theorem Yn{l:List Int}:bF (l.map D.int)=J:=iC.mpr λd h=>by
 obtain⟨i,_,rfl⟩:=AP.mp h;rfl
inductive R (α:Type) where
 |ok (a:α) (c:List Cell)
 |bad
def R.bind{α β:Type}(r:R α)(f:α->List Cell->R β):R β:=match r with
 |.ok a c=>f a c
 |.bad=>.bad
@[simp] theorem R.aN{α β:Type}{a:α}{f:α->List Cell->R β}:(R.ok a c).bind f=f a c:=rfl
@[simp] theorem R.agl{α β:Type}{f:α->List Cell->R β}:(R.bad:R α).bind f=.bad:=rfl
def om:List Str:=["greatest_among","web_of","other_web","turned_at","pairs_web","field_web","net_web"]
def oj(x:Str):Str:=x++".<locals>."++"<lambda>"
def l5(c:L)(q:Str):υ->Prop:=λh=>h.CodeRec (.ref c) q
def lN(a:L)(o:Obj):υ->Prop:=λh=>h.get? a=O o
def qO(e:μ)(o:Obj)(q:Str)(c:L)(cl:List (Str×L)):Prop:=match e with
 |.Lambda params body scope _=>∃pm ctv,o=PySem.W.kla_obj "<lambda>" q params body scope cl pm c ctv
 |_=>False
def vM:HO->Bool
 |.cI _=>J
 |_=>ξ
def jm(H:Hp)(cl:List (Str×L)):List Str->List V->Prop
 |[],xs=>xs=[]
 |x::ns,xs=>∃v r c oc u,xs=v::r/\cl.lookup x=O c/\H c=O (.cM oc (.own 0))/\oc.data=.cell (O u)/\RelV v u/\jm H cl ns r
def xO(cl:List (Str×L))(ns:List Str):Prop:=(∀x y c,cl.lookup x=O c->cl.lookup y=O c->x=y)/\∀x c,cl.lookup x=O c->x∈ns
def TabAt(H:Hp)(P:L)(q:Str):Prop:=∃ps,H P=O (.cI ps)/\VG ps.toList/\∀pos cv,codeAmong pos ps.toList=O cv->∃c,cv=.ref c/\H c=O (.ext (l5 c q))
def pF(K:Ξ)(H:Hp):Prop:=∀x∈om,∀c P,PySem.W.tabIn K x=O (c,P)->TabAt H P (oj x)
theorem jm.mono{cl:List (Str×L)}:∀{ns:List Str}{xs:List V},(∀c o,H c=O (.cM o (.own 0))->H' c=O (.cM o (.own 0)))->jm H cl ns xs->jm H' cl ns xs
 |[],_,_,h=>h
 |x::ns,xs,k,h=>by
  obtain⟨v,r,c,oc,u,e,h0,h1,h2,h3,h4⟩:=h;exact⟨v,r,c,oc,u,e,h0,k _ _ h1,h2,h3,jm.mono k h4⟩
theorem jm.get{cl:List (Str×L)}:∀{ns:List Str}{xs:List V}{i:Nat}{x:Str},jm H cl ns xs->ns[i]? = O x->∃v c oc u,xs[i]? = O v/\cl.lookup x=O c/\H c=O (.cM oc (.own 0))/\oc.data=.cell (O u)/\RelV v u
 |[],_,_,_,_,e=>by cases e
 |_::ns,xs,0,_,h,e=>by
  obtain⟨v,r,c,oc,u,rfl,h0,h1,h2,h3,h4⟩:=h;cases e;exact⟨v,c,oc,u,rfl,h0,h1,h2,h3⟩
 |_::ns,xs,i+1,x,h,e=>by
  obtain⟨v,r,c,oc,u,rfl,h0,h1,h2,h3,h4⟩:=h;exact jm.get (i:=i) h4 e
theorem jm.length{cl:List (Str×L)}:∀{ns:List Str}{xs:List V},jm H cl ns xs->xs.length=ns.length
 |[],xs,h=>by cases(show xs=[]from h);rfl
 |_::ns,xs,h=>by
  obtain⟨v,r,c,oc,u,rfl,h0,h1,h2,h3,h4⟩:=h;simp[jm.length h4]
theorem TabAt.mono(h:TabAt H P q)(k1:∀ps,H P=O (.cI ps)->H' P=O (.cI ps))(k2:∀c φ,H c=O (.ext φ)->H' c=O (.ext φ)):TabAt H' P q:=by
 obtain⟨ps,h1,h2,h3⟩:=h;exact⟨ps,k1 ps h1,h2,λpos cv e=>let⟨c,e1,e2⟩:=h3 pos cv e;⟨c,e1,k2 _ _ e2⟩⟩
theorem pF.mono{K:Ξ}{H H':Hp}(h:pF K H)(k1:∀P ps,H P=O (.cI ps)->H' P=O (.cI ps))(k2:∀c φ,H c=O (.ext φ)->H' c=O (.ext φ)):pF K H':=λx hx c P e=>(h x hx c P e).mono (k1 P) k2
def qJ(K:Ξ)(ρ:List L)(H:Hp)(a:L)(xs:List V):Prop:=(Rd H a (.lst xs)/\a∉ρ)\/bw K (λ_=>U) a xs
mutual
def Rel(K:Ξ)(ρ:List L)(H:Hp):D->V->Prop
 |.aF,v=>v=.aF
 |.bl b,v=>v=.bl b
 |.int i,v=>v=.int i
 |.str x,v=>v=.str x
 |.ty n,v=>v=.ty n
 |.tup l,v=>∃a xs,v=.ref a/\H a=O (.tup xs)/\aL K ρ H l xs
 |.lst l,v=>∃a xs,v=.ref a/\(H a=O (.lst xs)/\a∉ρ)/\aL K ρ H l xs
 |.ref k,v=>∃a,v=.ref a/\ρ[k]? = O a
 |.bS l,v=>∃a,v=.ref a/\qJ K ρ H a (l.map V.int)
 |.fn x n,v=>∃a,v=.ref a/\π K ι x=O (O (.ref a))
 |.iZ,v=>∃a,v=.ref a/\H a=O (.ext (acV a))
 |.dct ks,v=>∃a kvs,v=.ref a/\H a=O (.dT kvs)/\∀p:Int×Int,((kvs.any λkv=>decide (kv.1=[Sum.inl p.1,Sum.inl p.2]))=decide (p∈ks))
 |.gr kvs,v=>∃a as,v=.ref a/\H a=O (.ext (gJ a kvs as))/\fR H as (kvs.map (·.1))
 |.exc x,v=>∃a C,v=.ref a/\π K ι x=O (O (.ref C))/\H a=O (.ext (acz a C))
 |.lam _ e ns l,v=>∃a o q c cl xs,v=.ref a/\H a=O (.ext (lN a o))/\qO e o q c cl/\H c=O (.ext (l5 c q))/\xO cl ns/\jm H cl ns xs/\aL K ρ H l xs
def aL(K:Ξ)(ρ:List L)(H:Hp):List D->List V->Prop
 |[],xs=>xs=[]
 |d::l,xs=>∃x r,xs=x::r/\Rel K ρ H d x/\aL K ρ H l r
end
theorem qJ.sql{K:Ξ}{H:Hp}{a:L}{xs:List V}(h:qJ K ρ H a xs):bw K H a xs:=by
 rcases h with⟨h,_⟩|(h|h)
 ·exact .inl h
 ·rcases h with h|⟨o,h⟩<;>cases h
 ·exact .inr h
def aeA(K:Ξ)(ρ:List L)(H:Hp)(a:L):Cell->Prop
 |.lst l=>bF l=J/\∃xs,H a=O (.lst xs)/\aL K ρ H l xs
structure Wd (K:Ξ) (ρ:List L) (H:Hp) (c:List Cell):Prop where
 nd:ρ.Nodup
 len:ρ.length=c.length
 fP:∀(k:Nat) (a:L) (cl:Cell),ρ[k]? = O a->c[k]? = O cl->aeA K ρ H a cl
 tab:pF K H
structure Ext (ρ:List L) (H:Hp) (ρ':List L) (H':Hp):Prop where
 pre:∀(k:Nat) (a:L),ρ[k]? = O a->ρ'[k]? = O a
 keep:∀a o,H a=O o->a∉ρ->vM o=ξ->H' a=O o/\a∉ρ'
theorem Ext.refl:Ext ρ H ρ H:=⟨λ_ _ h=>h,λ_ _ h n _=>⟨h,n⟩⟩
theorem Ext.trans(x:Ext ρ H aK H1)(y:Ext aK H1 cX H2):Ext ρ H cX H2 :=
 ⟨λk a h=>y.pre k a (x.pre k a h),λa o h n t=>let⟨h1,n1⟩:=x.keep a o h n t;y.keep a o h1 n1 t⟩
section
variable {K:Ξ}{ρ ρ':List L}{H H':Hp}{c c':List Cell}
theorem Wd.at'(W:Wd K ρ H c)(h:a∈ρ):∃xs,H a=O (.lst xs):=by
 obtain⟨k,hk,e⟩:=Se.mp h;have hc:k<c.length:=by rw[<-W.len];exact hk
 have q:=W.fP k a c[k] (by rw[H8 hk,e]) (H8 hc)
 cases hcl:c[k]with
 |lst l=>rw[hcl]at q;obtain⟨_,xs,h,_⟩:=q;exact⟨xs,h⟩
theorem Wd.Yk(W:Wd K ρ H c){xs:List V}(h:H a=O (.tup xs)):a∉ρ:=λm=>by
 obtain⟨ys,e⟩:=W.at' m;rw[e]at h;cases h
theorem Wd.nil(W:Wd K ρ H c)(h:H a=U):a∉ρ:=λm=>by
 obtain⟨ys,e⟩:=W.at' m;rw[e]at h;cases h
theorem ya(W:Wd K ρ H c)(x:Ext ρ H ρ' H'){xs:List V}(h:H a=O (.tup xs)):H' a=O (.tup xs):=(x.keep a _ h (W.Yk h) rfl).1
theorem DX(x:Ext ρ H ρ' H'){xs:List V}(h:H a=O (.lst xs)/\a∉ρ):H' a=O (.lst xs)/\a∉ρ':=x.keep a _ h.1 h.2 rfl
theorem Jw(x:Ext ρ H ρ' H'){xs:List V}(h:qJ K ρ H a xs):qJ K ρ' H' a xs:=by
 rcases h with⟨h,n⟩|h
 ·rcases h with h|⟨o,h⟩
  ·exact .inl ⟨.inl (x.keep a _ h n rfl).1,(x.keep a _ h n rfl).2⟩
  ·exact .inl ⟨.inr ⟨o,(x.keep a _ h n rfl).1⟩,(x.keep a _ h n rfl).2⟩
 ·exact .inr h
mutual
theorem Rel.mono(W:Wd K ρ H c)(x:Ext ρ H ρ' H'):∀(d:D) (v:V),Rel K ρ H d v->Rel K ρ' H' d v
 |.aF,v,h=>h
 |.bl b,v,h=>h
 |.int i,v,h=>h
 |.str y,v,h=>h
 |.ty n,v,h=>h
 |.tup l,v,h=>by
  obtain⟨a,xs,e,s,r⟩:=h;exact⟨a,xs,e,ya W x s,aL.mono W x l xs r⟩
 |.lst l,v,h=>by
  obtain⟨a,xs,e,s,r⟩:=h;exact⟨a,xs,e,DX x s,aL.mono W x l xs r⟩
 |.ref k,v,h=>by
  obtain⟨a,e,s⟩:=h;exact⟨a,e,x.pre k a s⟩
 |.bS l,v,h=>by
  obtain⟨a,e,s⟩:=h;exact⟨a,e,Jw x s⟩
 |.fn a n,v,h=>h
 |.iZ,v,h=>by
  obtain⟨a,e,q⟩:=h;exact⟨a,e,(x.keep a _ q (λm=>by obtain⟨ys,z⟩:=W.at' m;rw[z]at q;cases q) rfl).1⟩
 |.dct ks,v,h=>by
  obtain⟨a,kvs,e,q,z⟩:=h;exact⟨a,kvs,e,(x.keep a _ q (λm=>by obtain⟨ys,z⟩:=W.at' m;rw[z]at q;cases q) rfl).1,z⟩
 |.gr kvs,v,h=>by
  obtain⟨a,as,e,q,z⟩:=h;exact⟨a,as,e,(x.keep a _ q (λm=>by obtain⟨ys,z⟩:=W.at' m;rw[z]at q;cases q) rfl).1,z.mono λb xs=>ya W x⟩
 |.exc y,v,h=>by
  obtain⟨a,C,e,n,q⟩:=h;exact⟨a,C,e,n,(x.keep a _ q (λm=>by obtain⟨ys,z⟩:=W.at' m;rw[z]at q;cases q) rfl).1⟩
 |.lam _ y ns l,v,h=>by
  obtain⟨a,o,q,c,cl,xs,e,h1,h2,h3,h4,h5,h6⟩:=h;have nr:∀(b:L) (u:HO),H b=O u->(∀ys,u≠.lst ys)->b∉ρ:=λb u q n m=>by obtain⟨ys,z⟩:=W.at' m;rw[z]at q;exact n ys (R4 q).symm
  exact⟨a,o,q,c,cl,xs,e,(x.keep a _ h1 (nr a _ h1 λ_ z=>nomatch z) rfl).1,h2,(x.keep c _ h3 (nr c _ h3 λ_ z=>nomatch z) rfl).1,h4,h5.mono (λb o z=>(x.keep b _ z (nr b _ z λ_ z=>nomatch z) rfl).1),aL.mono W x l xs h6⟩
theorem aL.mono(W:Wd K ρ H c)(x:Ext ρ H ρ' H'):∀(l:List D) (xs:List V),aL K ρ H l xs->aL K ρ' H' l xs
 |[],xs,h=>h
 |d::l,xs,h=>by
  obtain⟨y,r,e,h1,h2⟩:=h;exact⟨y,r,e,Rel.mono W x d y h1,aL.mono W x l r h2⟩
end
theorem aL.length:∀{l:List D}{xs:List V},aL K ρ H l xs->xs.length=l.length
 |[],xs,h=>by cases(show xs=[]from h);rfl
 |d::l,xs,h=>by
  obtain⟨y,r,rfl,h1,h2⟩:=h;simp only[RG,aL.length h2]
theorem aL.get:∀{l:List D}{xs:List V}{i:Nat}{d:D},aL K ρ H l xs->l[i]? = O d->∃x,xs[i]? = O x/\Rel K ρ H d x
 |[],_,_,_,_,e=>by cases e
 |_::l,_,0,_,h,e=>by
  obtain⟨y,r,rfl,h1,h2⟩:=h;cases e;exact⟨y,rfl,h1⟩
 |_::l,_,i+1,_,h,e=>by
  obtain⟨y,r,rfl,h1,h2⟩:=h;exact aL.get (i:=i) h2 e
theorem aL.append:∀{l m:List D}{xs ys:List V},aL K ρ H l xs->aL K ρ H m ys->aL K ρ H (l++m) (xs++ys)
 |[],m,xs,ys,h,g=>by cases(show xs=[]from h);exact g
 |d::l,m,xs,ys,h,g=>by
  obtain⟨y,r,rfl,h1,h2⟩:=h;exact⟨y,r++ys,rfl,h1,aL.append h2 g⟩
theorem aL.set:∀{l:List D}{xs:List V}{d:D}{x:V}(i:Nat),aL K ρ H l xs->Rel K ρ H d x->aL K ρ H (l.set i d) (xs.set i x)
 |[],xs,d,x,i,h,g=>by cases(show xs=[]from h);exact rfl
 |b::l,xs,d,x,0,h,g=>by
  obtain⟨y,r,rfl,h1,h2⟩:=h;exact⟨x,r,rfl,g,h2⟩
 |b::l,xs,d,x,i+1,h,g=>by
  obtain⟨y,r,rfl,h1,h2⟩:=h;exact⟨y,r.set i x,rfl,h1,aL.set i h2 g⟩
theorem aL.take:∀{l:List D}{xs:List V}(n:Nat),aL K ρ H l xs->aL K ρ H (l.take n) (xs.take n)
 |l,xs,0,h=>by simp only[List.take_zero];exact rfl
 |[],xs,n+1,h=>by cases(show xs=[]from h);exact rfl
 |d::l,xs,n+1,h=>by
  obtain⟨y,r,rfl,h1,h2⟩:=h;exact⟨y,r.take n,rfl,h1,aL.take n h2⟩
theorem aL.drop:∀{l:List D}{xs:List V}(n:Nat),aL K ρ H l xs->aL K ρ H (l.drop n) (xs.drop n)
 |l,xs,0,h=>h
 |[],xs,n+1,h=>by cases(show xs=[]from h);exact rfl
 |d::l,xs,n+1,h=>by
  obtain⟨y,r,rfl,h1,h2⟩:=h;exact aL.drop n h2
theorem aL.ints{l:List Int}:aL K ρ H (l.map D.int) (l.map V.int):=by
 induction l with
 |nil=>exact rfl
 |cons a l ih=>exact⟨_,_,rfl,rfl,ih⟩
theorem aL.oG:∀{l:List Int}{xs:List V},aL K ρ H (l.map D.int) xs->xs=l.map V.int
 |[],xs,h=>h
 |a::l,xs,h=>by
  obtain⟨y,r,rfl,h1,h2⟩:=h;cases(show y=V.int a from h1)
  rw[aL.oG h2];rfl
theorem aL.Ga:∀{l:List Bool}{xs:List V},aL K ρ H (l.map D.bl) xs->xs=l.map V.bl
 |[],xs,h=>h
 |a::l,xs,h=>by
  obtain⟨y,r,rfl,h1,h2⟩:=h;cases(show y=V.bl a from h1)
  rw[aL.Ga h2];rfl
theorem Ext.fresh(W:Wd K ρ H c)(h:H p=U):Ext ρ H ρ (upd H p o) :=
 ⟨λ_ _ e=>e,λa u e n _=>⟨by rw[bD (dz e h)];exact e,n⟩⟩
theorem Wd.fresh(W:Wd K ρ H c)(h:H p=U):Wd K ρ (upd H p o) c :=
 ⟨W.nd,W.len,λk a cl e1 e2=>by
  have q:=W.fP k a cl e1 e2;cases cl with
  |lst l =>
   obtain⟨nr,xs,e,r⟩:=q;exact⟨nr,xs,by rw[bD (dz e h)];exact e,aL.mono W (Ext.fresh W h) l xs r⟩,
  W.tab.mono (λP ps e=>by rw[bD (dz e h)];exact e) (λb φ e=>by rw[bD (dz e h)];exact e)⟩
theorem Ext.cell(W:Wd K ρ H c)(h:H p=U):Ext ρ H (ρ++[p]) (upd H p o) :=
 ⟨λk a e=>by rw[RY (Q9.mp e).1];exact e,λa u e n _=>⟨by rw[bD (dz e h)];exact e,by
  rw[RI]
  rintro (z|z)
  ·exact n z
  ·exact dz e h (by simpa using z)⟩⟩
theorem Wd.cell{xs:List V}(W:Wd K ρ H c)(h:H p=U)(nr:bF l=J)(r:aL K ρ H l xs):Wd K (ρ++[p]) (upd H p (.lst xs)) (c++[.lst l]):=by
 have X:=Ext.cell (o:=.lst xs) W h;refine⟨?_,by simp[W.len],λk a cl e1 e2=>?_,W.tab.mono (λP ps e=>by rw[bD (dz e h)];exact e) (λb φ e=>by rw[bD (dz e h)];exact e)⟩
 ·rw[Tt];refine⟨W.nd,by simp,?_⟩
  intro a ha b hb;rw[RE]at hb;subst hb;exact λz=>W.nil h (z▸ha)
 ·by_cases hk:k<c.length
  ·rw[RY hk]at e2;rw[RY (by rw[W.len];exact hk)]at e1
   have q:=W.fP k a cl e1 e2;cases cl with
   |lst l' =>
    obtain⟨lF,ys,e,r'⟩:=q;exact⟨lF,ys,by rw[bD (dz e h)];exact e,aL.mono W X l' ys r'⟩
  ·have hk':k=c.length:=by
    have:=(Q9.mp e2).1;simp at this;omega
   subst hk';rw[SG (x6 _),Tp]at e2;rw[SG (by rw[W.len];exact x6 _),W.len,Tp]at e1
   cases e1;cases e2;exact⟨nr,xs,eS,aL.mono W X l xs r⟩
theorem Ext.write{k:Nat}(h:ρ[k]? = O p):Ext ρ H ρ (upd H p o) :=
 ⟨λ_ _ e=>e,λa u e n _=>⟨by rw[bD (λz=>n (by rw[z];exact R7 h))];exact e,n⟩⟩
theorem Wd.write{xs:List V}(W:Wd K ρ H c)(h:ρ[k]? = O p)(nr:bF l=J)(r:aL K ρ H l xs):Wd K ρ (upd H p (.lst xs)) (c.set k (.lst l)):=by
 have X:=Ext.write (H:=H) (o:=.lst xs) h;obtain⟨ys,hy⟩:=W.at' (R7 h);refine⟨W.nd,by simp[W.len],λj a cl e1 e2=>?_,W.tab.mono (λP ps e=>by rw[bD (Ml e hy λz=>nomatch z)];exact e) (λb φ e=>by rw[bD (Ml e hy λz=>nomatch z)];exact e)⟩
 by_cases hj:j=k
 ·subst hj;rw[h]at e1;cases e1;have hl:j<c.length:=by rw[<-W.len];exact(Q9.mp h).1
  rw[Su hl]at e2;cases e2;exact⟨nr,xs,eS,aL.mono W X l xs r⟩
 ·rw[Th (Rr hj)]at e2;have q:=W.fP j a cl e1 e2;have hap:a≠p:=by
   intro e;subst e;have h1:=(Q9.mp h);have h2:=(Q9.mp e1);exact hj ((SS W.nd (h₀:=h2.1) (h₁:=h1.1)).mp (h2.2.trans h1.2.symm))
  cases cl with
  |lst l' =>
   obtain⟨lF,ys,e,r'⟩:=q;exact⟨lF,ys,by rw[bD hap];exact e,aL.mono W X l' ys r'⟩
mutual
theorem Rel.low(h:∀a,a∈ρ'->a∈ρ):∀(d:D) (v:V),noRef d=J->Rel K ρ H d v->Rel K ρ' H d v
 |.aF,v,_,r=>r
 |.bl b,v,_,r=>r
 |.int i,v,_,r=>r
 |.str y,v,_,r=>r
 |.ty n,v,_,r=>r
 |.tup l,v,n,r=>by
  obtain⟨a,xs,e,s,r⟩:=r;exact⟨a,xs,e,s,aL.low h l xs n r⟩
 |.lst l,v,n,r=>by
  obtain⟨a,xs,e,s,r⟩:=r;exact⟨a,xs,e,⟨s.1,λq=>s.2 (h a q)⟩,aL.low h l xs n r⟩
 |.ref k,v,n,r=>by cases n
 |.bS l,v,n,r=>by
  obtain⟨a,e,s⟩:=r;refine⟨a,e,?_⟩
  rcases s with⟨s,z⟩|s
  ·exact .inl ⟨s,λq=>z (h a q)⟩
  ·exact .inr s
 |.fn a m,v,n,r=>r
 |.exc y,v,n,r=>r
 |.iZ,v,n,r=>r
 |.dct _,v,n,r=>r
 |.gr _,v,n,r=>r
 |.lam _ _ _ _,v,n,r=>by cases n
theorem aL.low(h:∀a,a∈ρ'->a∈ρ):∀(l:List D) (xs:List V),bF l=J->aL K ρ H l xs->aL K ρ' H l xs
 |[],xs,_,r=>r
 |d::l,xs,n,r=>by
  obtain⟨y,ys,e,h1,h2⟩:=r;have n:(noRef d&&bF l)=J:=n;rw[RT]at n;exact⟨y,ys,e,Rel.low h d y n.1 h1,aL.low h l ys n.2 h2⟩
end
theorem Wd.cut(W:Wd K ρ H c)(hn:n<=c.length):Wd K (ρ.take n) H (c.take n):=by
 refine⟨W.nd.sublist (Uq _ _),by simp[W.len],λk a cl e1 e2=>?_,W.tab⟩
 rw[V7]at e1 e2;split at e1
 ·rename_i hk;rw[if_pos hk]at e2;have q:=W.fP k a cl e1 e2;cases cl with
  |lst l =>
   obtain⟨nr,xs,e,r⟩:=q;exact⟨nr,xs,e,aL.low (λa h=>RN h) l xs nr r⟩
 ·cases e1
theorem Ext.cut(x:Ext ρ H ρ' H')(hn:ρ.length<=n):Ext ρ H (ρ'.take n) H' :=
 ⟨λk a e=>by rw[V7,if_pos (P7 (Q9.mp e).1 hn)];exact x.pre k a e,λa o e z t=>let⟨h1,h2⟩:=x.keep a o e z t;⟨h1,λq=>h2 (RN q)⟩⟩
theorem Ext.len(W:Wd K ρ H c)(W':Wd K ρ' H' c')(x:Ext ρ H ρ' H'):c.length<=c'.length:=by
 rw[<-W.len,<-W'.len]
 by_cases h:ρ.length<=ρ'.length
 ·exact h
 ·exfalso;have e:=x.pre ρ'.length ρ[ρ'.length] (H8 _);rw[TJ (x6 _)]at e;cases e
end
abbrev Ev:=List (Option D)
def post{α β:Type}(K:Ξ)(Rl:List L->Hp->α->β->Prop)(r:R α)(ρ:List L)(H:Hp)(Q:β->Hp->Prop):Prop:=match r with
 |.ok a c=>∀ρ' H' b,Wd K ρ' H' c->Ext ρ H ρ' H'->Rl ρ' H' a b->Q b H'
 |.bad=>False
structure cW (K:Ξ) (ρ:List L) (H:Hp) (e:Ev) (Z:St):Prop where
 get:∀(i:Nat) (d:D),e[i]? = O (O d)->∃v,Z[i]? = O (O v)/\Rel K ρ H d v
 len:e.length=Z.length
def tD{α β:Type}(K:Ξ)(Rl:List L->Hp->α->β->Prop)(d:Ev->List Cell->R α):St->Hp->(β->Hp->Prop)->Prop :=
 λZ H Q=>∃ρ e c,Wd K ρ H c/\cW K ρ H e Z/\post K Rl (d e c) ρ H Q
section
variable {α β γ δ:Type}{K:Ξ}{ρ ρ':List L}{H H':Hp}{c:List Cell}{e:Ev}{Z:St}{Rl:List L->Hp->α->β->Prop}{Rm:List L->Hp->γ->δ->Prop}
theorem cW.mono(V:cW K ρ H e Z)(W:Wd K ρ H c)(x:Ext ρ H ρ' H'):cW K ρ' H' e Z :=
 ⟨λi d h=>let⟨v,h1,h2⟩:=V.get i d h;⟨v,h1,Rel.mono W x d v h2⟩,V.len⟩
theorem cW.set(V:cW K ρ H e Z)(r:Rel K ρ H d v)(i:Nat):cW K ρ H (e.set i (O d)) (Z.set i (O v)):=by
 refine⟨λj b h=>?_,by simp[V.len]⟩
 by_cases hj:j=i
 ·subst hj;have hl:j<e.length:=by
   have:=(Q9.mp h).1
   simpa using this
  rw[Su hl]at h;cases h;exact⟨v,by rw[Su (by rw[<-V.len];exact hl)],r⟩
 ·rw[Th (Rr hj)]at h ⊢;exact V.get j b h
theorem post.ext{Q:β->Hp->Prop}(p:post K Rl r ρ H Q)(x:Ext ρ H ρ' H'):post K Rl r ρ' H' Q:=by
 cases r with
 |ok a c=>exact λcX H2 b W y r=>p cX H2 b W (x.trans y) r
 |bad=>exact p
theorem post.bind{r:R α}{f:α->List Cell->R γ}{Q:δ->Hp->Prop}{S:β->Hp->Prop}(p:post K Rm (r.bind f) ρ H Q)
  (h:∀a c1 ρ' H' b,r=.ok a c1->Wd K ρ' H' c1->Ext ρ H ρ' H'->Rl ρ' H' a b->post K Rm (f a c1) ρ' H' Q->S b H'):post K Rl r ρ H S:=by
 cases r with
 |ok a c1=>exact λρ' H' b W x r=>h a c1 ρ' H' b rfl W x r (post.ext p x)
 |bad=>exact p
theorem post.here{Q:β->Hp->Prop}(p:post K Rl (.ok a c) ρ H Q)(W:Wd K ρ H c)(r:Rl ρ H a b):Q b H:=p ρ H b W Ext.refl r
end
abbrev aX(X:Cx)(e:μ)(d:Ev->List Cell->R D):Prop:=PE X e (tD X.K (Rel X.K) d)
abbrev jN(X:Cx)(e:μ)(d:Ev->List Cell->R Bool):Prop:=PT X e (tD X.K (λ_ _ a b=>a=b) d)
abbrev tZ(X:Cx)(e:μ)(d:Ev->List Cell->R Bool):Prop:=PW X e (tD X.K (λ_ _ a b=>a=b) d)
abbrev gv(X:Cx)(es:List μ)(d:Ev->List Cell->R (List D)):Prop:=PA X es (tD X.K (aL X.K) d)
section
variable {X:Cx}{e:μ}{es:List μ}{st:dg}{sts:List dg}
theorem PE.imp(h:PE X e t)(i:∀Z H Q,t' Z H Q->t Z H Q):PE X e t':=λpins s Z H Q I q=>h pins s Z H Q I (i _ _ _ q)
theorem PT.imp(h:PT X e t)(i:∀Z H Q,t' Z H Q->t Z H Q):PT X e t':=λpins s Z H Q I q=>h pins s Z H Q I (i _ _ _ q)
theorem PW.imp(h:PW X e t)(i:∀Z H Q,t' Z H Q->t Z H Q):PW X e t':=λwh pins s Z H Q I q=>h wh pins s Z H Q I (i _ _ _ q)
theorem PA.imp(h:PA X es t)(i:∀Z H Q,t' Z H Q->t Z H Q):PA X es t':=λpos pins s Z H Q I q=>h pos pins s Z H Q I (i _ _ _ q)
theorem PS.imp(h:PS X st t)(i:∀D Z H,t' D Z H->t D Z H):PS X st t':=λpins s Z H D I q=>h pins s Z H D I (i _ _ _ q)
theorem gV.imp(h:gV X sts t)(i:∀D Z H,t' D Z H->t D Z H):gV X sts t':=λpins s Z H D I q=>h pins s Z H D I (i _ _ _ q)
end
def ak(i:Nat):Ev->List Cell->R D:=λe c=>match e[i]? with
 |some (O d)=>.ok d c
 |_=>.bad
def dC(d:D):Ev->List Cell->R D:=λ_ c=>.ok d c
section
variable {X:Cx}
theorem au(i:Nat){pos:Pos}(hN:X.N[i]? = O x:=by rfl)(hv:xE X.env.scope x:=by first|exact Or.inl rfl|exact Or.inr (Or.inl rfl)|exact Or.inr (Or.inr rfl))(hd:(x==("__debug__":Str))=ξ:=by decide)(hcd:(x==("__classdict__":Str))=ξ:=by decide):aX X (.Name x pos) (ak i):=(Df hN hv hd hcd).imp λZ H Q h=>by
 obtain⟨ρ,e,c,W,V,p⟩:=h;unfold ak at p;cases q:e[i]? with
 |none=>rw[q]at p;exact p.elim
 |some o =>
  rw[q]at p;cases o with
  |none=>exact p.elim
  |some d =>
   obtain⟨v,hv,r⟩:=V.get i d q;exact⟨v,hv,p.here W r⟩
theorem rV(h:PE X e (tC v))(r:∀ρ H,Rel X.K ρ H d v):aX X e (dC d):=h.imp λZ H Q h=>by
 obtain⟨ρ,e,c,W,V,p⟩:=h;exact post.here (r:=r ρ H) p W
theorem aS{i j pos}:aX X (.Constant (.int i) j pos) (dC (.int i)):=rV alr λ_ _=>rfl
theorem iR{b j pos}:aX X (.Constant (.bool b) j pos) (dC (.bl b)):=rV alf λ_ _=>rfl
theorem iP{j pos}:aX X (.Constant .none j pos) (dC .aF):=rV alu λ_ _=>rfl
theorem kH{x j pos}:aX X (.Constant (.str x) j pos) (dC (.str x)):=rV ajG λ_ _=>rfl
theorem Dh{pos:Pos}(hg:Gl X x)(hm:X.mg x=U)(hv:bootBuiltins x=O (.type n))(hn:x≠"__name__":=by decide)(hd:(x==("__debug__":Str))=ξ:=by decide):aX X (.Name x pos) (dC (.ty n)):=rV (ajI hg hm hv hn hd) λ_ _=>rfl
theorem nW{pos:Pos}(hg:Gl X x)(hm:X.mg x=O (.int i t))(hd:(x==("__debug__":Str))=ξ:=by decide):aX X (.Name x pos) (dC (.int i)):=rV (alp (v:=.int i) hg hm ⟨t,rfl⟩ hd) λ_ _=>rfl
end
end L2
namespace L2
open PySem PySem.Spec PyProof.Rows
def av(f:D->D->List Cell->R D)(a b:Ev->List Cell->R D):Ev->List Cell->R D:=λe c=>(a e c).bind λx c=>(b e c).bind λy c=>f x y c
def r2(K:Ξ)(f:D->D->List Cell->R D):R2:=λv u H Q=>∃ρ x y c,Wd K ρ H c/\Rel K ρ H x v/\Rel K ρ H y u/\post K (Rel K) (f x y c) ρ H Q
def r1(K:Ξ)(f:D->List Cell->R D):V->Hp->VK->Prop:=λv H Q=>∃ρ x c,Wd K ρ H c/\Rel K ρ H x v/\post K (Rel K) (f x c) ρ H Q
def rN(K:Ξ)(f:List D->List Cell->R D):List V->Hp->VK->Prop:=λvs H Q=>∃ρ xs c,Wd K ρ H c/\aL K ρ H xs vs/\post K (Rel K) (f xs c) ρ H Q
def aJ(f:List D->List Cell->R D)(a:Ev->List Cell->R (List D)):Ev->List Cell->R D:=λe c=>(a e c).bind λxs c=>f xs c
section
variable {X:Cx}{a b:μ}{da db dd:Ev->List Cell->R D}{pos:Pos}{K:Ξ}{Z:St}{H:Hp}{Q:VK}{f:D->D->List Cell->R D}
theorem ye(h:tD K (Rel K) (av f da db) Z H Q):tD K (Rel K) da Z H λv H1=>tD K (Rel K) db Z H1 λu H2=>r2 K f v u H2 Q:=by
 obtain⟨ρ,e,c,W,V,p⟩:=h;refine⟨ρ,e,c,W,V,post.bind p λx c1 aK H1 v _ W1 X1 r1 p1=>⟨aK,e,c1,W1,V.mono W X1,post.bind p1 λy c2 cX H2 u _ W2 X2 r2 p2=>⟨cX,x,y,c2,W2,Rel.mono W1 X2 _ _ r1,r2,p2⟩⟩⟩
theorem Jd{g:List D->List Cell->R D}{ds:Ev->List Cell->R (List D)}(h:tD K (Rel K) (aJ g ds) Z H Q):tD K (aL K) ds Z H λvs H1=>rN K g vs H1 Q:=by
 obtain⟨ρ,e,c,W,V,p⟩:=h;exact⟨ρ,e,c,W,V,post.bind p λx c1 aK H1 v _ W1 X1 r1 p1=>⟨aK,x,c1,W1,r1,p1⟩⟩
theorem br(ho:bL X (binaryOp op) (r2 X.K f))(ha:aX X a da)(hb:aX X b db):aX X (.BinOp a op b pos) (av f da db):=(Ln ho ha hb).imp λZ H Q h=>ye h
theorem lC(ho:bL X (compareOp op) (r2 X.K f))(ha:aX X a da)(hb:aX X b db)(hm:behindInMarks op b=ξ:=by first|exact L8 _|rfl):aX X (.Compare a [op] [b] pos) (av f da db):=(alk ho ha hb hm).imp λZ H Q h=>ye h
theorem bE(hr:t8 X (r2 X.K f))(ha:aX X a da)(hb:aX X b db)(hs:QT b:=by exact λ_ _=>rfl):aX X (.Subscript a b pos) (av f da db):=(als hr ha hb hs).imp λZ H Q h=>ye h
def FO(f g:D->D->List Cell->R D)(a b d:Ev->List Cell->R D):Ev->List Cell->R D:=λe c=>(a e c).bind λx c=>(b e c).bind λy c=>(f x y c).bind λz c=>match z with
 |.bl J=>(d e c).bind λu c=>g y u c
 |.bl ξ=>.ok (.bl ξ) c
 |_=>.bad
end
def aq:Ev->List Cell->R (List D):=λ_ c=>.ok [] c
def ao(a:Ev->List Cell->R D)(r:Ev->List Cell->R (List D)):Ev->List Cell->R (List D):=λe c=>(a e c).bind λx c=>(r e c).bind λxs c=>.ok (x::xs) c
def bX(a:Ev->List Cell->R (List D)):Ev->List Cell->R D:=λe c=>(a e c).bind λxs c=>if xs.length<=Ω then .ok (.tup xs) c else .bad
def eW(a:Ev->List Cell->R (List D)):Ev->List Cell->R D:=λe c=>(a e c).bind λxs c=>if xs.length<=Ω then .ok (.lst xs) c else .bad
def gu(a:Ev->List Cell->R (List D)):Ev->List Cell->R D:=λe c=>(a e c).bind λxs c=>if xs.length<=Ω/\bF xs=J then .ok (.ref c.length) (c++[.lst xs])else .bad
section
variable {X:Cx}{a:μ}{es:List μ}{da:Ev->List Cell->R D}{ds:Ev->List Cell->R (List D)}{pos:Pos}{K:Ξ}{ρ:List L}{H:Hp}{c:List Cell}{Q:VK}{xs:List D}{vs:List V}
theorem az:gv X [] aq:=jv.imp λZ H Q h=>by
 obtain⟨ρ,e,c,W,V,p⟩:=h;exact post.here p W rfl
theorem ay(ha:aX X a da)(hr:gv X es ds)(hs:ε (a::es) X.env=(ξ,eval a X.env)::ε es X.env:=by exact cR rfl):gv X (a::es) (ao da ds):=(iS ha hr hs).imp λZ H Q h=>by
 obtain⟨ρ,e,c,W,V,p⟩:=h;exact⟨ρ,e,c,W,V,post.bind p λx c1 aK H1 v _ W1 X1 r1 p1=>⟨aK,e,c1,W1,V.mono W X1,post.bind p1 λy c2 cX H2 u _ W2 X2 r2 p2=>p2.here W2 ⟨v,u,rfl,Rel.mono W1 X2 _ _ r1,r2⟩⟩⟩
theorem y9(W:Wd K ρ H c)(r:aL K ρ H xs vs)(p:post K (Rel K) (.ok (.tup xs) c) ρ H Q):∀q,H q=U->Q (.ref q) (upd H q (.tup vs)):=λq hq =>
 p ρ _ _ (W.fresh hq) (Ext.fresh W hq) ⟨q,vs,rfl,eS,aL.mono W (Ext.fresh W hq) _ _ r⟩
theorem qd(W:Wd K ρ H c)(r:aL K ρ H xs vs)(p:post K (Rel K) (.ok (.lst xs) c) ρ H Q):∀q,H q=U->Q (.ref q) (upd H q (.lst vs)):=λq hq =>
 p ρ _ _ (W.fresh hq) (Ext.fresh W hq) ⟨q,vs,rfl,⟨eS,W.nil hq⟩,aL.mono W (Ext.fresh W hq) _ _ r⟩
theorem DF(W:Wd K ρ H c)(nr:bF xs=J)(r:aL K ρ H xs vs)(p:post K (Rel K) (.ok (.ref c.length) (c++[.lst xs])) ρ H Q):∀q,H q=U->Q (.ref q) (upd H q (.lst vs)):=λq hq =>
 p _ _ _ (W.cell hq nr r) (Ext.cell W hq) ⟨q,rfl,by rw[SG (by rw[W.len];exact x6 _),W.len,Tp];rfl⟩
theorem gh{x1}(h:gv X es ds):aX X (.Tuple es x1 pos) (bX ds):=(ajH h).imp λZ H Q h=>by
 obtain⟨ρ,e,c,W,V,p⟩:=h;refine⟨ρ,e,c,W,V,post.bind p λx c1 aK H1 v _ W1 X1 r1 p1=>?_⟩
 split at p1
 ·rename_i hl;exact⟨by rw[r1.length];exact hl,y9 W1 r1 p1⟩
 ·exact p1.elim
theorem lB(h:gv X es ds):aX X (.List es pos) (eW ds):=(Lo h).imp λZ H Q h=>by
 obtain⟨ρ,e,c,W,V,p⟩:=h;refine⟨ρ,e,c,W,V,post.bind p λx c1 aK H1 v _ W1 X1 r1 p1=>?_⟩
 split at p1
 ·rename_i hl;exact⟨by rw[r1.length];exact hl,qd W1 r1 p1⟩
 ·exact p1.elim
theorem lz(h:gv X es ds):aX X (.List es pos) (gu ds):=(Lo h).imp λZ H Q h=>by
 obtain⟨ρ,e,c,W,V,p⟩:=h;refine⟨ρ,e,c,W,V,post.bind p λx c1 aK H1 v _ W1 X1 r1 p1=>?_⟩
 split at p1
 ·rename_i hl;exact⟨by rw[r1.length];exact hl.1,DF W1 hl.2 r1 p1⟩
 ·exact p1.elim
end
def bR:D->D->List Cell->R D:=λx y c=>match x,y with
 |.int i,.int j=>.ok (.int (i+j)) c
 |.str a,.str b=>if a.length+b.length<=Ω then .ok (.str (a++b)) c else .bad
 |.tup l,.tup m=>if l.length≠0/\l.length+m.length<=Ω then .ok (.tup (l++m)) c else .bad
 |_,_=>.bad
def kE:D->D->List Cell->R D:=λx y c=>match x,y with
 |.int i,.int j=>.ok (.int (i-j)) c
 |_,_=>.bad
def dZ:D->D->List Cell->R D:=λx y c=>match x,y with
 |.int i,.int j=>if(-(2^64)<i/\i<2^64)\/(-(2^64)<j/\j<2^64)then .ok (.int (i*j)) c else .bad
 |_,_=>.bad
def fL:D->D->List Cell->R D:=λx y c=>match x,y with
 |.int i,.int j=>if 0<j/\j<1073741824 then .ok (.int (i/j)) c else .bad
 |_,_=>.bad
def iD:D->D->List Cell->R D:=λx y c=>match x,y with
 |.int i,.int j=>if 0<j then .ok (.int (i % j)) c else .bad
 |_,_=>.bad
def rT:D->D->List Cell->R D:=λx y c=>match x,y with
 |.int i,.int j=>if 0<=j/\j<=1000000/\i.natAbs<2^64 then .ok (.int (i^j.toNat)) c else .bad
 |_,_=>.bad
def qE(p:Int->Int->Bool):D->D->List Cell->R D:=λx y c=>match x,y with
 |.int i,.int j=>.ok (.bl (p i j)) c
 |_,_=>.bad
section
variable {X:Cx}
theorem ez:bL X (binaryOp .Add) (r2 X.K bR):=by
 intro pins s Z H v u vv uu Q I rv ru h;obtain⟨ρ,x,y,c,W,rx,ry,p⟩:=h;unfold bR at p;split at p
 ·cases rx;cases ry;exact ak9 pins s Z H _ _ vv uu Q I rv ru ⟨_,_,rfl,rfl,p.here W rfl⟩
 ·split at p
  ·rename_i hl;cases rx;cases ry;exact akS pins s Z H _ _ vv uu Q I rv ru ⟨_,_,rfl,rfl,hl,p.here W rfl⟩
  ·exact p.elim
 ·split at p
  ·rename_i hl;obtain⟨a,xs,rfl,sa,ra⟩:=rx;obtain⟨b,ys,rfl,sb,rb⟩:=ry;refine LH pins s Z H _ _ vv uu Q I rv ru ⟨a,b,xs,ys,rfl,rfl,bZ.of sa,bZ.of sb,λz=>hl.1 ?_,by rw[ra.length,rb.length];exact hl.2,λz=>?_,λ_=>y9 W (ra.append rb) p⟩
   ·rw[<-ra.length,z];rfl
   ·refine p.here W ⟨a,xs++ys,rfl,by rw[z,SI];exact sa,ra.append rb⟩
  ·exact p.elim
 ·exact p.elim
theorem r8:bL X (binaryOp .Sub) (r2 X.K kE):=by
 intro pins s Z H v u vv uu Q I rv ru h;obtain⟨ρ,x,y,c,W,rx,ry,p⟩:=h;unfold kE at p;split at p
 ·cases rx;cases ry;exact aa4 pins s Z H _ _ vv uu Q I rv ru ⟨_,_,rfl,rfl,p.here W rfl⟩
 ·exact p.elim
theorem lE:bL X (binaryOp .Mult) (r2 X.K dZ):=by
 intro pins s Z H v u vv uu Q I rv ru h;obtain⟨ρ,x,y,c,W,rx,ry,p⟩:=h;unfold dZ at p;split at p
 ·split at p
  ·rename_i hl;cases rx;cases ry;exact akC pins s Z H _ _ vv uu Q I rv ru ⟨_,_,rfl,rfl,hl,p.here W rfl⟩
  ·exact p.elim
 ·exact p.elim
theorem mR:bL X (binaryOp .FloorDiv) (r2 X.K fL):=by
 intro pins s Z H v u vv uu Q I rv ru h;obtain⟨ρ,x,y,c,W,rx,ry,p⟩:=h;unfold fL at p;split at p
 ·split at p
  ·rename_i hl;cases rx;cases ry;exact akX pins s Z H _ _ vv uu Q I rv ru ⟨_,_,rfl,rfl,hl,p.here W rfl⟩
  ·exact p.elim
 ·exact p.elim
theorem mQ:bL X (binaryOp .Mod) (r2 X.K iD):=by
 intro pins s Z H v u vv uu Q I rv ru h;obtain⟨ρ,x,y,c,W,rx,ry,p⟩:=h;unfold iD at p;split at p
 ·split at p
  ·rename_i hl;cases rx;cases ry;exact akB pins s Z H _ _ vv uu Q I rv ru ⟨_,_,rfl,rfl,hl,p.here W rfl⟩
  ·exact p.elim
 ·exact p.elim
theorem LX:bL X (binaryOp .Pow) (r2 X.K rT):=by
 intro pins s Z H v u vv uu Q I rv ru h;obtain⟨ρ,x,y,c,W,rx,ry,p⟩:=h;unfold rT at p;split at p
 ·split at p
  ·rename_i hl;cases rx;cases ry;exact alz pins s Z H _ _ vv uu Q I rv ru ⟨_,_,rfl,rfl,hl,p.here W rfl⟩
  ·exact p.elim
 ·exact p.elim
theorem yW{f:Δ->Δ->Sem Δ}{q:Int->Int->Bool}(h:bL X f (lq λi j=>.bl (q i j))):bL X f (r2 X.K (qE q)):=by
 intro pins s Z H v u vv uu Q I rv ru hh;obtain⟨ρ,x,y,c,W,rx,ry,p⟩:=hh;unfold qE at p;split at p
 ·cases rx;cases ry;exact h pins s Z H _ _ vv uu Q I rv ru ⟨_,_,rfl,rfl,p.here W rfl⟩
 ·exact p.elim
abbrev je:=qE λi j=>decide (i<j)
abbrev D9:=qE λi j=>decide (i<=j)
abbrev gm:=qE λi j=>decide (j<i)
abbrev OD:=qE λi j=>decide (j<=i)
theorem r9:bL X (compareOp .Lt) (r2 X.K je):=yW akA
theorem LY:bL X (compareOp .LtE) (r2 X.K D9):=yW alB
theorem se:bL X (compareOp .Gt) (r2 X.K gm):=yW akZ
theorem alC:bL X (compareOp .GtE) (r2 X.K OD):=yW akY
end
def FD:D->D->Option Bool
 |.aF,.aF=>O J|.aF,.int _=>O ξ|.int _,.aF=>O ξ|.aF,.bl _=>O ξ|.bl _,.aF=>O ξ|.aF,.str _=>O ξ|.str _,.aF=>O ξ
 |.int i,.int j=>O (decide (i=j))|.bl a,.bl b=>O (decide (a=b))|.str x,.str y=>O (decide (x=y))
 |.int _,.str _=>O ξ|.str _,.int _=>O ξ|.bl _,.str _=>O ξ|.str _,.bl _=>O ξ
 |_,_=>U
def cE:D->D->List Cell->R D:=λx y c=>match FD x y with
 |some b=>.ok (.bl b) c
 |none=>.bad
def cz:D->D->List Cell->R D:=λx y c=>match FD x y with
 |some b=>.ok (.bl (!b)) c
 |none=>.bad
def fJ:D->Bool
 |.aF=>J
 |_=>ξ
def g7:D->D->List Cell->R D:=λx y c=>match y with
 |.aF=>.ok (.bl (fJ x)) c
 |_=>.bad
def iX:D->D->List Cell->R D:=λx y c=>match y with
 |.aF=>.ok (.bl (!fJ x)) c
 |_=>.bad
section
variable {X:Cx}{K:Ξ}{ρ:List L}{H:Hp}{c:List Cell}
theorem Pw(rx:Rel K ρ H x v)(ry:Rel K ρ H y u)(h:FD x y=O b):CS v u=J/\decide (v=u)=b:=by
 cases x<;>cases y<;>first
  |(cases rx;cases ry;cases h;refine⟨rfl,?_⟩;simp;done)
  |(cases h;done)
theorem iB:bL X (compareOp .Eq) (r2 X.K cE):=by
 intro pins s Z H v u vv uu Q I rv ru h;obtain⟨ρ,x,y,c,W,rx,ry,p⟩:=h;unfold cE at p;split at p
 ·rename_i b hb;obtain⟨h1,h2⟩:=Pw rx ry hb;exact akW pins s Z H _ _ vv uu Q I rv ru ⟨h1,by rw[h2];exact p.here W rfl⟩
 ·exact p.elim
theorem jb:bL X (compareOp .NotEq) (r2 X.K cz):=by
 intro pins s Z H v u vv uu Q I rv ru h;obtain⟨ρ,x,y,c,W,rx,ry,p⟩:=h;unfold cz at p;split at p
 ·rename_i b hb;obtain⟨h1,h2⟩:=Pw rx ry hb;exact akE pins s Z H _ _ vv uu Q I rv ru ⟨h1,by rw[h2];exact p.here W rfl⟩
 ·exact p.elim
theorem NI(rx:Rel K ρ H x v):decide (v=.aF)=fJ x:=by
 cases x<;>first
  |(cases rx;rfl;done)
  |(cases rx;simp[fJ];done)
  |(obtain⟨a,xs,rfl,_⟩:=rx;simp[fJ];done)
  |(obtain⟨a,rfl,_⟩:=rx;simp[fJ];done)
  |(obtain⟨a,o,q,c,cl,xs,rfl,_⟩:=rx;simp[fJ];done)
theorem yV:bL X (compareOp .Is) (r2 X.K g7):=by
 intro pins s Z H v u vv uu Q I rv ru h;obtain⟨ρ,x,y,c,W,rx,ry,p⟩:=h;unfold g7 at p;split at p
 ·cases ry;exact alA pins s Z H _ _ vv uu Q I rv ru ⟨rfl,by rw[NI rx];exact p.here W rfl⟩
 ·exact p.elim
theorem yU:bL X (compareOp .IsNot) (r2 X.K iX):=by
 intro pins s Z H v u vv uu Q I rv ru h;obtain⟨ρ,x,y,c,W,rx,ry,p⟩:=h;unfold iX at p;split at p
 ·cases ry;exact aly pins s Z H _ _ vv uu Q I rv ru ⟨rfl,by rw[NI rx];exact p.here W rfl⟩
 ·exact p.elim
theorem ajY{da db dd:Ev->List Cell->R D}{pos:Pos}{f g:D->D->List Cell->R D}(ho:bL X (compareOp op) (r2 X.K f))(ho':bL X (compareOp op') (r2 X.K g))(ha:aX X a da)(hb:aX X b db)(hd:aX X d dd)(h1:lastMarks [op,op'] [b,d]=ξ:=by with_unfolding_all rfl):
  aX X (.Compare a [op,op'] [b,d] pos) (FO f g da db dd):=(alj ho ho' ha hb hd h1).imp λZ H Q h=>by
 obtain⟨ρ,e,c,W,V,p⟩:=h;refine⟨ρ,e,c,W,V,post.bind p λx c1 aK H1 v _ W1 X1 r1 p1=>⟨aK,e,c1,W1,V.mono W X1,post.bind p1 λy c2 cX H2 u _ W2 X2 r2 p2=>⟨cX,x,y,c2,W2,Rel.mono W1 X2 _ _ r1,r2,post.bind p2 λz c3 mw H3 w _ W3 X3 r3 p3=>?_⟩⟩⟩
 have ajL:=(V.mono W X1).mono W1 (X2.trans X3);cases z with
 |bl k =>
  cases r3;refine⟨k,rfl,?_⟩;cases k with
  |true =>
   refine oz ⟨mw,e,c3,W3,ajL,post.bind p3 λt c4 ud H4 w4 _ W4 X4 r4 p4=>⟨ud,y,t,c4,W4,Rel.mono W2 (X3.trans X4) _ _ r2,r4,p4⟩⟩
  |false=>exact oA (p3.here W3 rfl)
 |_=>exact p3.elim
end
def fV(c:List Cell):D->Option (List D)
 |.tup l=>O l
 |.lst l=>O l
 |.bS l=>O (l.map D.int)
 |.ref k=>match c[k]? with
  |some (.lst l)=>O l
  |none=>U
 |_=>U
def aH:D->D->List Cell->R D:=λx y c=>match y with
 |.int i=>match fV c x with
  |some l=>match d8 l i with
   |some d=>.ok d c
   |none=>.bad
  |none=>.bad
 |_=>.bad
section
variable {X:Cx}{K:Ξ}{ρ:List L}{H:Hp}{c:List Cell}
theorem uK(W:Wd K ρ H c)(rx:Rel K ρ H x v)(h:fV c x=O l):∃a xs,v=.ref a/\(bw K H a xs\/bZ K H a xs)/\aL K ρ H l xs:=by
 cases x with
 |tup m =>
  cases h;obtain⟨a,xs,e,s,r⟩:=rx;exact⟨a,xs,e,.inr (bZ.of s),r⟩
 |lst m =>
  cases h;obtain⟨a,xs,e,s,r⟩:=rx;exact⟨a,xs,e,.inl (bw.of s.1),r⟩
 |bS m =>
  cases h;obtain⟨a,e,s⟩:=rx;exact⟨a,_,e,.inl s.sql,aL.ints⟩
 |ref k =>
  obtain⟨a,e,s⟩:=rx;unfold fV at h;dsimp only at h;cases hc:c[k]? with
  |none=>rw[hc]at h;cases h
  |some cl =>
   cases cl with
   |lst m =>
    rw[hc]at h;cases h;obtain⟨_,xs,hx,r⟩:=W.fP k a _ s hc;exact⟨a,xs,e,.inl (bw.of hx),r⟩
 |_=>cases h
theorem ad7{xs:List V}(r:aL K ρ H l xs)(h:d8 l i=O d):∃v,d8 xs i=O v/\Rel K ρ H d v:=by
 unfold d8 at h ⊢;rw[r.length];cases e:iF l.length i with
 |none=>rw[e]at h;cases h
 |some j =>
  rw[e]at h;exact r.get h
theorem bG:t8 X (r2 X.K aH):=by
 intro value slice pins s Z H v u vv uu Q I rv ru h hs;obtain⟨ρ,x,y,c,W,rx,ry,p⟩:=h;unfold aH at p;split at p
 ·split at p
  ·rename_i l hl;split at p
   ·rename_i d hd;cases ry;obtain⟨a,xs,rfl,sq,r⟩:=uK W rx hl;obtain⟨w,hw,rw'⟩:=ad7 r hd
    rcases sq with sq|sq
    ·exact Z7 value slice pins s Z H _ _ vv uu Q I rv ru ⟨a,xs,_,w,rfl,rfl,sq,hw,p.here W rw'⟩ hs
    ·exact Z6 value slice pins s Z H _ _ vv uu Q I rv ru ⟨a,xs,_,w,rfl,rfl,sq,hw,p.here W rw'⟩ hs
   ·exact p.elim
  ·exact p.elim
 ·exact p.elim
end
def rE(c:List Cell):D->Option Bool
 |.aF=>O ξ
 |.bl b=>O b
 |.int i=>O (i != 0)
 |.tup l=>O (!l.isEmpty)
 |.lst l=>O (!l.isEmpty)
 |.ref k=>match c[k]? with
  |some (.lst l)=>O (!l.isEmpty)
  |none=>U
 |_=>U
def o8(a:Ev->List Cell->R D):Ev->List Cell->R Bool:=λe c=>(a e c).bind λx c=>match rE c x with
 |some b=>.ok b c
 |none=>.bad
def aG(a:Ev->List Cell->R D):Ev->List Cell->R Bool:=λe c=>(a e c).bind λx c=>match x with
 |.bl b=>.ok b c
 |_=>.bad
def i6(a b:Ev->List Cell->R Bool):Ev->List Cell->R Bool:=λe c=>(a e c).bind λx c=>if x=J then b e c else .ok ξ c
def jH(a b:Ev->List Cell->R Bool):Ev->List Cell->R Bool:=λe c=>(a e c).bind λx c=>if x=J then .ok J c else b e c
def eF(a:Ev->List Cell->R Bool):Ev->List Cell->R Bool:=λe c=>(a e c).bind λx c=>.ok (!x) c
def pe(a b:Ev->List Cell->R D):Ev->List Cell->R D:=λe c=>(a e c).bind λx c=>match x with
 |.bl k=>if k=J then b e c else .ok (.bl ξ) c
 |_=>.bad
def o9(a:Ev->List Cell->R D):Ev->List Cell->R D:=λe c=>(a e c).bind λx c=>match x with
 |.bl k=>.ok (.bl (!k)) c
 |_=>.bad
def ni(t:Ev->List Cell->R Bool)(a b:Ev->List Cell->R D):Ev->List Cell->R D:=λe c=>(t e c).bind λx c=>if x=J then a e c else b e c
section
variable {X:Cx}{a b c':μ}{da db:Ev->List Cell->R D}{ta tb:Ev->List Cell->R Bool}{pos:Pos}{rest:List μ}
theorem ahU{K:Ξ}{H:Hp}{v:V}{k:Bool}(W:Wd K ρ H c)(rx:Rel K ρ H x v)(h:rE c x=O k):HB K v H k:=by
 have emp:∀{l:List D}{xs:List V},aL K ρ H l xs->l.isEmpty=xs.isEmpty:=fun{l xs} r=>by
  have:=r.length;cases l<;>cases xs<;>simp_all
 cases x with
 |aF=>cases rx;cases h;exact rfl
 |bl b=>cases rx;cases h;exact rfl
 |int i=>cases rx;cases h;exact rfl
 |tup l =>
  obtain⟨a,xs,rfl,s,r⟩:=rx;cases h;exact .inr (.inl ⟨xs,bZ.of s,by rw[emp r]⟩)
 |lst l =>
  obtain⟨a,xs,rfl,s,r⟩:=rx;cases h;exact .inl ⟨xs,bw.of s.1,by rw[emp r]⟩
 |ref j =>
  obtain⟨a,rfl,s⟩:=rx;unfold rE at h;dsimp only at h;cases hc:c[j]? with
  |none=>rw[hc]at h;cases h
  |some cl =>
   cases cl with
   |lst m =>
    rw[hc]at h;cases h;obtain⟨_,xs,hx,r⟩:=W.fP j a _ s hc;exact .inl ⟨xs,bw.of hx,by rw[emp r]⟩
 |_=>cases h
theorem Lq(ha:aX X a da)(he:∀whole,isTrue a X.env whole=(do let v <-whole;standAt a.pos;holding [v] (truthy v)):=by intro _;rfl):jN X a (o8 da):=(akJ ha he).imp λZ H Q h=>by
 obtain⟨ρ,e,c,W,V,p⟩:=h;refine⟨ρ,e,c,W,V,post.bind p λx c1 aK H1 v _ W1 X1 r1 p1=>?_⟩
 split at p1
 ·rename_i k hk;exact⟨k,ahU W1 r1 hk,p1.here W1 rfl⟩
 ·exact p1.elim
theorem Qp(h:tD X.K (λ_ _ a b=>a=b) (aG da) Z H Q):tD X.K (Rel X.K) da Z H λx H'=>∃k,x=.bl k/\Q k H':=by
 obtain⟨ρ,e,c,W,V,p⟩:=h;refine⟨ρ,e,c,W,V,post.bind p λx c1 aK H1 v _ W1 X1 r1 p1=>?_⟩
 cases x with
 |bl k=>cases r1;exact⟨k,rfl,p1.here W1 rfl⟩
 |_=>exact p1.elim
theorem kI(ha:aX X a da)(he:∀whole,isTrue a X.env whole=(do let v <-whole;standAt a.pos;holding [v] (truthy v)):=by intro _;rfl):jN X a (aG da):=(akK ha he).imp λZ H Q h=>Qp h
theorem bM{f:D->D->List Cell->R D}(ho:bL X (compareOp op) (r2 X.K f))(ha:aX X a da)(hb:aX X b db)(hm:behindInMarks op b=ξ:=by first|exact L8 _|rfl):jN X (.Compare a [op] [b] pos) (aG (av f da db)) :=
 (akH ho ha hb hm).imp λZ H Q h=>ye (Qp h)
theorem rX(ha:jN X a ta):tZ X (.BoolOp .And [a] pos) ta:=akO ha
theorem uX(ha:jN X a ta):tZ X (.BoolOp .Or [a] pos) ta:=akQ ha
theorem rW(ha:jN X a ta)(hb:tZ X (.BoolOp .And (b::rest) pos) tb):tZ X (.BoolOp .And (a::b::rest) pos) (i6 ta tb):=(akN ha hb).imp λZ H Q h=>by
 obtain⟨ρ,e,c,W,V,p⟩:=h;refine⟨ρ,e,c,W,V,post.bind p λx c1 aK H1 v _ W1 X1 r1 p1=>?_⟩
 cases r1;cases x with
 |true=>exact oz ⟨aK,e,c1,W1,V.mono W X1,p1⟩
 |false=>exact oA (post.here p1 W1 rfl)
theorem rU(ha:jN X a ta)(hb:tZ X (.BoolOp .Or (b::rest) pos) tb):tZ X (.BoolOp .Or (a::b::rest) pos) (jH ta tb):=(akP ha hb).imp λZ H Q h=>by
 obtain⟨ρ,e,c,W,V,p⟩:=h;refine⟨ρ,e,c,W,V,post.bind p λx c1 aK H1 v _ W1 X1 r1 p1=>?_⟩
 cases r1;cases x with
 |true=>exact oz (post.here p1 W1 rfl)
 |false=>exact oA ⟨aK,e,c1,W1,V.mono W X1,p1⟩
theorem nU(ha:jN X a ta):jN X (.UnaryOp .Not a pos) (eF ta):=(akI ha).imp λZ H Q h=>by
 obtain⟨ρ,e,c,W,V,p⟩:=h;refine⟨ρ,e,c,W,V,post.bind p λx c1 aK H1 v _ W1 X1 r1 p1=>?_⟩
 cases r1;exact p1.here W1 rfl
theorem yI{op}(h:aX X a da):aX X (.BoolOp op [a] pos) da:=alw h
theorem yK(ha:aX X a da)(hb:aX X (.BoolOp .And (b::rest) pos) db):aX X (.BoolOp .And (a::b::rest) pos) (pe da db):=(ale ha hb).imp λZ H Q h=>by
 obtain⟨ρ,e,c,W,V,p⟩:=h;refine⟨ρ,e,c,W,V,post.bind p λx c1 aK H1 v _ W1 X1 r1 p1=>?_⟩
 cases x with
 |bl k =>
  cases r1;refine⟨k,rfl,?_⟩;cases k with
  |true=>exact oz ⟨aK,e,c1,W1,V.mono W X1,p1⟩
  |false=>exact oA (post.here p1 W1 rfl)
 |_=>exact p1.elim
theorem yJ(ha:aX X a da):aX X (.UnaryOp .Not a pos) (o9 da):=(alv ha).imp λZ H Q h=>by
 obtain⟨ρ,e,c,W,V,p⟩:=h;refine⟨ρ,e,c,W,V,post.bind p λx c1 aK H1 v _ W1 X1 r1 p1=>?_⟩
 cases x with
 |bl k=>cases r1;exact⟨k,rfl,p1.here W1 rfl⟩
 |_=>exact p1.elim
theorem Di(ht:jN X c' ta)(ha:aX X a da)(hb:aX X b db):aX X (.IfExp c' a b pos) (ni ta da db):=(alq ht ha hb).imp λZ H Q h=>by
 obtain⟨ρ,e,c,W,V,p⟩:=h;refine⟨ρ,e,c,W,V,post.bind p λx c1 aK H1 v _ W1 X1 r1 p1=>?_⟩
 cases r1;cases x with
 |true=>exact oz ⟨aK,e,c1,W1,V.mono W X1,p1⟩
 |false=>exact oA ⟨aK,e,c1,W1,V.mono W X1,p1⟩
end
inductive Fl where
 |nx (e:Ev)|rt (d:D)|bk (e:Ev)|ct (e:Ev)
abbrev aa:=List Cell
abbrev af:=Ev->List Cell->R D
abbrev ah:=Ev->List Cell->R Fl
abbrev ai:=Ev->List Cell->R Bool
abbrev aj:=Ev->List Cell->R (List D)
inductive FV where
 |nx (Z:St)|rt (v:V)|bk (Z:St)|ct (Z:St)
def qL(K:Ξ)(ρ:List L)(H:Hp):Fl->FV->Prop
 |.nx e,f=>∃Z,f=.nx Z/\cW K ρ H e Z
 |.rt d,f=>∃v,f=.rt v/\Rel K ρ H d v
 |.bk e,f=>∃Z,f=.bk Z/\cW K ρ H e Z
 |.ct e,f=>∃Z,f=.ct Z/\cW K ρ H e Z
def En(σ:Ends):FV->Hp->Prop
 |.nx Z,H=>σ.nx Z H
 |.rt v,H=>σ.rt v H
 |.bk Z,H=>σ.bk Z H
 |.ct Z,H=>σ.ct Z H
def Je(K:Ξ)(d:ah):TS:=λσ Z H=>tD K (qL K) d Z H (En σ)
abbrev kC(X:Cx)(st:dg)(d:ah):Prop:=PS X st (Je X.K d)
abbrev bB(X:Cx)(st:List dg)(d:ah):Prop:=gV X st (Je X.K d)
def bJ:ah:=λe c=>.ok (.nx e) c
def aD(a b:ah):ah:=λe c=>(a e c).bind λf c=>match f with
 |.nx e=>b e c
 |f=>.ok f c
def aP(a:af):ah:=λe c=>(a e c).bind λx c=>.ok (.rt x) c
def d9(a:af):ah:=λe c=>(a e c).bind λ_ c=>.ok (.nx e) c
def bx(t:ai)(a b:ah):ah:=λe c=>(t e c).bind λx c=>if x=J then a e c else b e c
def aI(i:Nat)(a:af):ah:=λe c=>(a e c).bind λx c=>.ok (.nx (e.set i (O x))) c
def rP:ah:=λ_ _=>.bad
section
variable {X:Cx}{st:dg}{rest:List dg}{t u:ah}{e:μ}{da:af}{pos:Pos}
theorem dw:bB X [] bJ:=akG.imp λσ Z H h=>by
 obtain⟨ρ,e,c,W,V,p⟩:=h;exact p.here W ⟨Z,rfl,V⟩
theorem aO(h1:kC X st t)(h2:bB X rest u):bB X (st::rest) (aD t u):=(C5 h1 h2).imp λσ Z H h=>by
 obtain⟨ρ,e,c,W,V,p⟩:=h;refine⟨ρ,e,c,W,V,post.bind p λf c1 aK H1 b _ W1 X1 r1 p1=>?_⟩
 cases f with
 |nx e1=>obtain⟨σ1,rfl,V1⟩:=r1;exact⟨aK,e1,c1,W1,V1,p1⟩
 |rt d=>obtain⟨v,rfl,V1⟩:=r1;exact post.here (Q:=En σ) (show post X.K _ (.ok _ c1) aK H1 _ from p1) W1 ⟨_,rfl,V1⟩
 |bk e1=>obtain⟨σ1,rfl,V1⟩:=r1;exact post.here (Q:=En σ) (show post X.K (qL X.K) _ aK H1 _ from p1) W1 ⟨_,rfl,V1⟩
 |ct e1=>obtain⟨σ1,rfl,V1⟩:=r1;exact post.here (Q:=En σ) (show post X.K (qL X.K) _ aK H1 _ from p1) W1 ⟨_,rfl,V1⟩
theorem aQ(h1:kC X st t):bB X [st] t:=K6 h1
theorem JI:kC X st rP:=λ_ _ _ _ _ _ h=>by
 obtain⟨ρ,e,c,W,V,p⟩:=h;exact p.elim
theorem bf(he:aX X e da):kC X (.Return (O e) pos) (aP da):=(ajE he).imp λσ Z H h=>by
 obtain⟨ρ,e,c,W,V,p⟩:=h;refine⟨ρ,e,c,W,V,post.bind p λx c1 aK H1 v _ W1 X1 r1 p1=>p1.here W1 ⟨v,rfl,r1⟩⟩
theorem jr(he:aX X e da)(hs:swapsWith e U pos.line X.env=pure ξ:=by rfl):kC X (.Expr e pos) (d9 da):=(ajC he hs).imp λσ Z H h=>by
 obtain⟨ρ,e,c,W,V,p⟩:=h;refine⟨ρ,e,c,W,V,post.bind p λx c1 aK H1 v _ W1 X1 r1 p1=>p1.here W1 ⟨Z,rfl,V.mono W X1⟩⟩
theorem cP(hc:jN X c' tc)(ha:bB X a t)(hb:bB X b u):kC X (.If c' a b pos) (bx tc t u):=(ajD hc ha hb).imp λσ Z H h=>by
 obtain⟨ρ,e,c,W,V,p⟩:=h;refine⟨ρ,e,c,W,V,post.bind p λx c1 aK H1 v _ W1 X1 r1 p1=>?_⟩
 cases r1;cases x with
 |true=>exact oz ⟨aK,e,c1,W1,V.mono W X1,p1⟩
 |false=>exact oA ⟨aK,e,c1,W1,V.mono W X1,p1⟩
theorem rM{pos':Pos}(he:aX X e da)(hN:X.N.Nodup:=by decide +kernel)(hi:X.N[i]? = O x:=by rfl)(hx:Loc X.env.scope x:=by first|exact Or.inl rfl|exact Or.inr rfl)(hs:swapsWith e (O (.Name x pos')) pos.line X.env=pure ξ:=by rfl)(hf:X.fn x=J\/X.env.scope.names.lookup x=O .local:=by first|exact .inl rfl|exact .inr rfl):kC X (.Assign [.Name x pos'] e pos) (aI i da):=(K7 hN hi hx he hs).imp λσ Z H h=>by
 obtain⟨ρ,e,c,W,V,p⟩:=h;refine⟨ρ,e,c,W,V,post.bind p λx c1 aK H1 v _ W1 X1 r1 p1=>p1.here W1 ⟨_,rfl,(V.mono W X1).set r1 i⟩⟩
end
abbrev Gd:=D->Ev->aa->R Ev
def yh(K:Ξ)(g:Gd):TG:=λv Z H Q=>∃ρ x e c,Wd K ρ H c/\cW K ρ H e Z/\Rel K ρ H x v/\post K (λρ H e Z=>cW K ρ H e Z) (g x e c) ρ H Q
def aht(K:Ξ)(g:List D->Ev->aa->R Ev):nA:=λvs Z H Q=>∃ρ xs e c,Wd K ρ H c/\cW K ρ H e Z/\aL K ρ H xs vs/\post K (λρ H e Z=>cW K ρ H e Z) (g xs e c) ρ H Q
abbrev l9(X:Cx)(e:μ)(g:Gd):Prop:=PG X e (yh X.K g)
abbrev BL(X:Cx)(es:List μ)(g:List D->Ev->aa->R Ev):Prop:=pH X es (aht X.K g)
def aC(i:Nat):Gd:=λx e c=>.ok (e.set i (O x)) c
def gn:List D->Ev->aa->R Ev:=λxs e c=>match xs with
 |[]=>.ok e c
 |_=>.bad
def cC(g:Gd)(r:List D->Ev->aa->R Ev):List D->Ev->aa->R Ev:=λxs e c=>match xs with
 |x::xs=>(g x e c).bind λe c=>r xs e c
 |_=>.bad
def fK(n:Nat)(g:List D->Ev->aa->R Ev):Gd:=λx e c=>match x with
 |.tup l=>if l.length=n then g l e c else .bad
 |_=>.bad
theorem PG.imp(h:PG X e t)(i:∀v Z H Q,t' v Z H Q->t v Z H Q):PG X e t':=λpins s Z H x u Q I r q=>h pins s Z H x u Q I r (i _ _ _ _ q)
theorem pH.imp(h:pH X es t)(i:∀v Z H Q,t' v Z H Q->t v Z H Q):pH X es t':=λpins s Z H x u Q I r q=>h pins s Z H x u Q I r (i _ _ _ _ q)
section
variable {X:Cx}{pos:Pos}
theorem cS(hN:X.N.Nodup:=by decide +kernel)(hi:X.N[i]? = O x:=by rfl)(hx:Loc X.env.scope x:=by first|exact Or.inl rfl|exact Or.inr rfl)(hf:X.fn x=J\/X.env.scope.names.lookup x=O .local:=by first|exact .inl rfl|exact .inr rfl):l9 X (.Name x pos) (aC i) :=
 (Dc hN hi hx hf).imp λv Z H Q h=>by
  obtain⟨ρ,x,e,c,W,V,r,p⟩:=h;exact p.here W (V.set r i)
theorem tH:BL X [] gn:=Li.imp λv Z H Q h=>by
 obtain⟨ρ,xs,e,c,W,V,r,p⟩:=h;cases xs with
 |nil=>exact⟨r,p.here W V⟩
 |cons x xs=>exact p.elim
theorem kj{u:List D->Ev->aa->R Ev}(h1:l9 X e g)(h2:BL X es u)(hs:(assignEach (e::es) X.env).map (·.2)=assign e X.env::(assignEach es X.env).map (·.2):=by rfl):BL X (e::es) (cC g u) :=
 (C9 h1 h2 hs).imp λv Z H Q h=>by
  obtain⟨ρ,xs,e,c,W,V,r,p⟩:=h;cases xs with
  |nil=>exact p.elim
  |cons x xs =>
   obtain⟨y,ys,rfl,rx,rs⟩:=r;exact⟨y,ys,rfl,ρ,x,e,c,W,V,rx,post.bind p λe1 c1 aK H1 σ1 _ W1 X1 V1 p1=>⟨aK,xs,e1,c1,W1,V1,aL.mono W X1 _ _ rs,p1⟩⟩
theorem tK{g:List D->Ev->aa->R Ev}(h:BL X es g)(hc:X.calm=J:=by rfl)(hn:(assignEach es X.env).length=n:=by rfl)(hst:(assignEach es X.env).findIdx? (·.1)=U:=by rfl):l9 X (.Tuple es k pos) (fK n g) :=
 (Lj hc h hn hst).imp λv Z H Q h=>by
  obtain⟨ρ,x,e,c,W,V,r,p⟩:=h;cases x with
  |tup l =>
   obtain⟨a,xs,rfl,s,rs⟩:=r;unfold fK at p;dsimp only at p;split at p
   ·rename_i hl;exact⟨a,xs,rfl,bZ.of s,rs.length.trans hl,ρ,l,e,c,W,V,rs,p⟩
   ·exact p.elim
  |_=>exact p.elim
def jZ(a:af)(g:Gd):ah:=λe c=>(a e c).bind λx c=>(g x e c).bind λe c=>.ok (.nx e) c
theorem rO(he:aX X e da)(hg:l9 X tg g)(hs:swapsWithSole [tg] e pos.line X.env=pure ξ:=by rfl)(hw:swappedStores [tg] e X.env=pure U:=by rfl)(h1:(assignEach [tg] X.env).map (·.2)=[assign tg X.env]:=by rfl):kC X (.Assign [tg] e pos) (jZ da g):=(ajA he hg hs hw h1).imp λσ Z H h=>by
 obtain⟨ρ,e,c,W,V,p⟩:=h;refine⟨ρ,e,c,W,V,post.bind p λx c1 aK H1 v _ W1 X1 r1 p1=>⟨aK,x,e,c1,W1,V.mono W X1,r1,post.bind p1 λe2 c2 cX H2 σ2 _ W2 X2 V2 p2=>p2.here W2 ⟨σ2,rfl,V2⟩⟩⟩
def pX:D->D->D->aa->R Unit:=λo i v c=>match o,i with
 |.ref k,.int i=>match c[k]? with
  |some (.lst l)=>match iF l.length i with
   |some j=>if noRef v=J then .ok () (c.set k (.lst (l.set j v)))else .bad
   |none=>.bad
  |none=>.bad
 |_,_=>.bad
def ko(o i:af):Gd:=λx e c=>(o e c).bind λo c=>(i e c).bind λi c=>(pX o i x c).bind λ_ c=>.ok e c
theorem tL(ho:aX X o dO)(hi:aX X i di)(ha:∀v,assign (.Subscript o i pos) X.env v=(do
   let ov <-holding [v] (eval o X.env)
   let iv <-holding [v,ov] (eval i X.env)
   standAt pos
   holding [v,ov,iv] (setItem ov iv v)
   release [v,ov,iv] []):=by intro _;rfl):l9 X (.Subscript o i pos) (ko dO di):=(ajJ ho hi set_list ha).imp λv Z H Q h=>by
 obtain⟨ρ,x,e,c,W,V,rx,p⟩:=h;refine⟨ρ,e,c,W,V,post.bind p λo c1 aK H1 ov _ W1 X1 r1 p1=>⟨aK,e,c1,W1,V.mono W X1,post.bind p1 λi c2 cX H2 iv _ W2 X2 r2 p2=>?_⟩⟩
 have V2:=(V.mono W X1).mono W1 X2;have ajo:=Rel.mono W (X1.trans X2) _ _ rx;have ro:=Rel.mono W1 X2 _ _ r1;unfold pX at p2;split at p2
 ·rename_i k i _ _;split at p2
  ·rename_i l hl;split at p2
   ·rename_i j hj;split at p2
    ·rename_i hv;obtain⟨a,rfl,ha⟩:=ro;cases r2;obtain⟨nr,ys,hy,rl⟩:=W2.fP k a _ ha hl;refine⟨a,ys,i,j,rfl,rfl,hy,by rw[rl.length];exact hj,?_⟩
     exact p2 cX _ Z (W2.write ha (Me nr hv) (rl.set j ajo)) (Ext.write ha) (V2.mono W2 (Ext.write ha))
    ·exact p2.elim
   ·exact p2.elim
  ·exact p2.elim
 ·exact p2.elim
end
structure Src where
 items:List D
 stays:aa->Prop
def JS(K:Ξ)(ρ:List L)(H:Hp)(s:Src)(Γ:It):Prop :=
 ∀ρ' H' c',Wd K ρ' H' c'->Ext ρ H ρ' H'->s.stays c'->∀i:Nat,
  (∀d,s.items[i]? = O d->Γ.go i H'/\∀x H2,Γ.qX i H' x H2->Wd K ρ' H2 c'/\Ext ρ' H' ρ' H2/\Rel K ρ' H2 d x)/\(i=s.items.length->Γ.stop i H')
def Jf(K:Ξ)(d:Ev->aa->R Src):TI:=tD K (JS K) d
abbrev PId(X:Cx)(tg iter:μ)(d:Ev->aa->R Src):Prop:=PI X tg iter (Jf X.K d)
theorem PI.imp{iter:μ}(h:PI X tg iter t)(i:∀Z H Q,t' Z H Q->t Z H Q):PI X tg iter t':=λpins s Z H Q I q=>h pins s Z H Q I (i _ _ _ q)
def cj(a:af):Ev->aa->R Src:=λe c=>(a e c).bind λx c=>match x with
 |.lst l=>.ok ⟨l,λ_=>True⟩ c
 |.bS l=>.ok ⟨l.map D.int,λ_=>True⟩ c
 |.ref k=>match c[k]? with
  |some (.lst l)=>.ok ⟨l,λc=>c[k]? = O (.lst l)⟩ c
  |none=>.bad
 |_=>.bad
def e9(a:af):Ev->aa->R Src:=λe c=>(a e c).bind λx c=>match x with
 |.tup l=>.ok ⟨l,λ_=>True⟩ c
 |_=>.bad
def aV(lo hi:Int):List D:=(η (hi-lo).toNat).map fun(i:Nat)=>D.int (lo+(i:Int))
def bK(a:aj):Ev->aa->R Src:=λe c=>(a e c).bind λxs c=>match xs with
 |[.int j]=>if -(2^62)<=j/\j<2^62 then .ok ⟨aV 0 j,λ_=>True⟩ c else .bad
 |_=>.bad
def fM(a:aj):Ev->aa->R Src:=λe c=>(a e c).bind λxs c=>match xs with
 |[.int i,.int j]=>if -(2^62)<=i/\i<2^62/\-(2^62)<=j/\j<2^62 then .ok ⟨aV i j,λ_=>True⟩ c else .bad
 |_=>.bad
def qB(a:aj):Ev->aa->R Src:=λe c=>(a e c).bind λxs c=>match xs with
 |[.tup l]=>.ok ⟨l.mapIdx λi x=>.tup [.int i,x],λ_=>True⟩ c
 |_=>.bad
section
variable {X:Cx}{tg:μ}{K:Ξ}{ρ:List L}{H:Hp}
theorem Eh{st:aa->Prop}(h:∀ρ' H' c',Wd K ρ' H' c'->Ext ρ H ρ' H'->st c'->∃xs,bw K H' a xs/\aL K ρ' H' l xs):JS K ρ H ⟨l,st⟩ (HN K a):=by
 intro ρ' H' c' W E s i;obtain⟨xs,q,r⟩:=h ρ' H' c' W E s;refine⟨λd hd=>?_,λe=>⟨xs,q,by rw[r.length];exact So e.symm⟩⟩
 obtain⟨x,hx,rx⟩:=r.get hd;refine⟨⟨xs,x,q,hx⟩,λy H2 hy=>?_⟩
 obtain⟨rfl,hy⟩:=hy;have:=hy xs q;rw[hx]at this;cases this;exact⟨W,Ext.refl,rx⟩
theorem ZX{st:aa->Prop}(h:∀ρ' H' c',Wd K ρ' H' c'->Ext ρ H ρ' H'->st c'->∃xs,bZ K H' a xs/\aL K ρ' H' l xs):JS K ρ H ⟨l,st⟩ (HM K a):=by
 intro ρ' H' c' W E s i;obtain⟨xs,q,r⟩:=h ρ' H' c' W E s;refine⟨λd hd=>?_,λe=>⟨xs,q,by rw[r.length];exact So e.symm⟩⟩
 obtain⟨x,hx,rx⟩:=r.get hd;refine⟨⟨xs,x,q,hx⟩,λy H2 hy=>?_⟩
 obtain⟨rfl,hy⟩:=hy;have:=hy xs q;rw[hx]at this;cases this;exact⟨W,Ext.refl,rx⟩
theorem nO{lo:Int}(h:(aV lo hi)[i]? = O d):i<(hi-lo).toNat/\d=.int (lo+i):=by
 unfold aV at h;rw[RB]at h;cases q:(η (hi-lo).toNat)[i]? with
 |none=>rw[q]at h;cases h
 |some j =>
  rw[q]at h;obtain⟨h2,h3⟩:=((Q9.mp q));rw[V6]at h3;subst h3;cases h;exact⟨by simpa using h2,rfl⟩
theorem Nz{lo:Int}{st:aa->Prop}:JS K ρ H ⟨aV lo hi,st⟩ (xH lo (hi-lo).toNat):=by
 intro ρ' H' c' W E s i;refine⟨λd hd=>?_,λe=>?_⟩
 ·obtain⟨h1,rfl⟩:=nO hd;refine⟨h1,λx H2 hy=>?_⟩
  obtain⟨rfl,rfl⟩:=hy;exact⟨W,Ext.refl,rfl⟩
 ·have:(aV lo hi).length=(hi-lo).toNat:=by simp[aV]
  rw[e];exact So this.symm
theorem g9{dl:af}(hl:aX X l dl):PId X tg l (cj dl):=(ajM hl).imp λZ H Q h=>by
 obtain⟨ρ,e,c,W,V,p⟩:=h;refine⟨ρ,e,c,W,V,post.bind p λx c1 aK H1 v _ W1 X1 r1 p1=>?_⟩
 cases x with
 |lst l =>
  obtain⟨a,xs,rfl,s,rs⟩:=r1;exact⟨a,rfl,⟨xs,bw.of s.1⟩,p1.here W1 (Eh λρ' H' c' W' E _=>⟨xs,bw.of (DX E s).1,aL.mono W1 E _ _ rs⟩)⟩
 |bS l =>
  obtain⟨a,rfl,s⟩:=r1;exact⟨a,rfl,⟨_,s.sql⟩,p1.here W1 (Eh λρ' H' c' W' E _=>⟨_,(Jw E s).sql,aL.ints⟩)⟩
 |ref k =>
  obtain⟨a,rfl,ha⟩:=r1;dsimp only at p1;split at p1
  ·rename_i l hl;obtain⟨_,xs,hx,rs⟩:=W1.fP k a _ ha hl;refine⟨a,rfl,⟨xs,bw.of hx⟩,p1.here W1 (Eh λρ' H' c' W' E st=>?_)⟩
   obtain⟨_,ys,hy,rs'⟩:=W'.fP k a _ (E.pre k a ha) st;exact⟨ys,bw.of hy,rs'⟩
  ·exact p1.elim
 |_=>exact p1.elim
theorem lQ{dl:af}(hl:aX X l dl):PId X tg l (e9 dl):=(ako hl).imp λZ H Q h=>by
 obtain⟨ρ,e,c,W,V,p⟩:=h;refine⟨ρ,e,c,W,V,post.bind p λx c1 aK H1 v _ W1 X1 r1 p1=>?_⟩
 cases x with
 |tup l =>
  obtain⟨a,xs,rfl,s,rs⟩:=r1;exact⟨a,rfl,⟨xs,bZ.of s⟩,p1.here W1 (ZX λρ' H' c' W' E _=>⟨xs,bZ.of (ya W1 E s),aL.mono W1 E _ _ rs⟩)⟩
 |_=>exact p1.elim
theorem dQ{pos:Pos}(ha:gv X [a] da)(hm:X.mg "range"=U)(hg:Gl X "range":=by rfl)(hs:ε [a] X.env=[(ξ,eval a X.env)]:=by exact pU rfl):PId X tg (.Call (.Name "range" p) [a] [] pos) (bK da) :=
 (akm hg hm ha hs).imp λZ H Q h=>by
  obtain⟨ρ,e,c,W,V,p⟩:=h;refine⟨ρ,e,c,W,V,post.bind p λx c1 aK H1 v _ W1 X1 r1 p1=>?_⟩
  split at p1
  ·rename_i j _;split at p1
   ·rename_i hj;obtain⟨y,ys,rfl,ry,rs⟩:=r1;cases ry;cases rs;refine⟨j,rfl,hj.1,hj.2,p1.here W1 ?_⟩;have:=Nz (K:=X.K) (ρ:=aK) (H:=H1) (lo:=0) (hi:=j) (st:=λ_=>True)
    rw[Int.sub_zero]at this;exact this
   ·exact p1.elim
  ·exact p1.elim
theorem kR{pos:Pos}(ha:gv X [a,b] da)(hm:X.mg "range"=U)(hg:Gl X "range":=by rfl)(hs:ε [a,b] X.env=[(ξ,eval a X.env),(ξ,eval b X.env)]:=by exact Js rfl rfl)(hs2:ε [b] X.env=[(ξ,eval b X.env)]:=by exact pU rfl):PId X tg (.Call (.Name "range" p) [a,b] [] pos) (fM da) :=
 (akn hg hm ha hs hs2).imp λZ H Q h=>by
  obtain⟨ρ,e,c,W,V,p⟩:=h;refine⟨ρ,e,c,W,V,post.bind p λx c1 aK H1 v _ W1 X1 r1 p1=>?_⟩
  split at p1
  ·rename_i i j _;split at p1
   ·rename_i hj;obtain⟨y,ys,rfl,ry,z,zs,rfl,rz,rs⟩:=r1;cases ry;cases rz;cases rs;exact⟨i,j,rfl,hj,p1.here W1 Nz⟩
   ·exact p1.elim
  ·exact p1.elim
theorem ZZ{st:aa->Prop}(h:∀ρ' H' c',Wd K ρ' H' c'->Ext ρ H ρ' H'->st c'->∃xs,bZ K H' a xs/\aL K ρ' H' l xs):JS K ρ H ⟨l.mapIdx λi x=>.tup [.int i,x],st⟩ (qP (bZ K) a):=by
 intro ρ' H' c' W E s i;obtain⟨xs,q,r⟩:=h ρ' H' c' W E s;refine⟨λd hd=>?_,λe=>⟨xs,q,?_⟩⟩
 ·have hd:(l.mapIdx λi x=>D.tup [.int i,x])[i]? = O d:=hd
  rw[VL]at hd;cases e1:l[i]? with
  |none=>rw[e1]at hd;cases hd
  |some x =>
   rw[e1]at hd;cases hd;obtain⟨v,hv,rv⟩:=r.get e1;refine⟨⟨xs,v,q,hv⟩,λz H2 hz=>?_⟩
   obtain⟨t,v',rfl,ht,rfl,hz⟩:=hz;have z1:=hz xs q;rw[hv]at z1;cases z1;exact⟨W.fresh ht,Ext.fresh W ht,t,[.int i,v],rfl,eS,.int i,[v],rfl,rfl,v,[],rfl,Rel.mono W (Ext.fresh W ht) _ _ rv,rfl⟩
 ·have e:i=(l.mapIdx λi x=>D.tup [.int i,x]).length:=e
  rw[Xb]at e;rw[r.length];exact e
theorem NT{pt:Pos}{pos:Pos}(ha:gv X [a] da)(hm:X.mg "enumerate"=U)(hg:Gl X "enumerate":=by rfl)(hs:ε [a] X.env=[(ξ,eval a X.env)]:=by exact pU rfl):
  PId X (.Tuple es k pt) (.Call (.Name "enumerate" p) [a] [] pos) (qB da):=(ajK hg hm ha hs).imp λZ H Q h=>by
 obtain⟨ρ,e,c,W,V,p⟩:=h;refine⟨ρ,e,c,W,V,post.bind p λx c1 aK H1 v _ W1 X1 r1 p1=>?_⟩
 split at p1
 ·obtain⟨y,ys,rfl,ry,rs⟩:=r1;cases rs;obtain⟨a1,xs,rfl,s1,t1⟩:=ry;exact⟨a1,rfl,⟨xs,bZ.of s1⟩,p1.here W1 (ZZ λρ' H' c' W' E _=>⟨xs,bZ.of (ya W1 E s1),aL.mono W1 E _ _ t1⟩)⟩
 ·exact p1.elim
open Classical in
def bU(st:aa->Prop)(g:Gd)(b:ah):List D->ah
 |[],e,c=>if st c then .ok (.nx e) c else .bad
 |x::xs,e,c=>if st c then(g x e c).bind λe c=>(b e c).bind λf c=>match f with
   |.nx e=>bU st g b xs e c
   |.ct e=>bU st g b xs e c
   |.bk e=>.ok (.nx e) c
   |.rt d=>.ok (.rt d) c
  else .bad
def bT(s:Ev->aa->R Src)(g:Gd)(b:ah):ah:=λe c=>(s e c).bind λs c=>bU s.stays g b s.items e c
theorem eY{iter:μ}{body:List dg}{ds:Ev->aa->R Src}{pos:Pos}(hi:PId X tg iter ds)(hg:l9 X tg g)(hb:bB X body db)(hp:VH (model X.prog X.w) X.A X.env X.xe:=by exact W9)(hc:X.calm=J:=by rfl)(hs:∀x,foldedSetIterable iter X.env x=pure x:=by intro _;rfl):kC X (.For tg iter body [] pos) (bT ds g db):=(K8 hp hc hi hg hb hs).imp λσ Z H h=>by
 obtain⟨ρ,e,c,W,V,p⟩:=h;refine⟨ρ,e,c,W,V,post.bind p λs c1 aK H1 Γ _ W1 X1 j1 p1=>?_⟩
 refine⟨λi m Z H=>∃ρ e c,Wd X.K ρ H c/\Ext aK H1 ρ H/\cW X.K ρ H e Z/\i<=s.items.length/\m=s.items.length-i/\post X.K (qL X.K) (bU s.stays g db (s.items.drop i) e c) ρ H (En σ),
  ⟨_,aK,e,c1,W1,Ext.refl,V.mono W X1,RM _,rfl,p1⟩,?_⟩
 rintro i m σ2 H2 ⟨cX,e2,c2,W2,X2,V2,hi2,rfl,p2⟩
 by_cases hl:i<s.items.length
 ·rw[VQ hl]at p2;unfold bU at p2;split at p2
  ·rename_i hst;obtain⟨go,yl⟩:=(j1 cX H2 c2 W2 X2 hst i).1 _ (H8 hl);refine .inr ⟨go,λσ' H'=>∃ρ e c,Wd X.K ρ H' c/\Ext aK H1 ρ H'/\cW X.K ρ H' e σ'/\i+1<=s.items.length/\post X.K (qL X.K) (bU s.stays g db (s.items.drop (i+1)) e c) ρ H' (En σ),?_,λx H3 hy=>?_⟩
   ·rintro σ' H' ⟨ρ,e,c,w,x,v,l,q⟩
    exact⟨s.items.length-(i+1),∅,ρ,e,c,w,x,v,l,rfl,q⟩
   ·obtain⟨W3,X3,r3⟩:=yl x H3 hy;refine⟨cX,_,e2,c2,W3,V2.mono W2 X3,r3,post.bind (post.ext p2 X3) λe4 c4 ud H4 agF _ W4 X4 V4 p4=>?_⟩
    refine⟨ud,e4,c4,W4,V4,post.bind p4 λf c5 jS H5 b _ W5 X5 r5 p5=>?_⟩
    have xD:=((X2.trans X3).trans X4).trans X5;cases f with
    |nx e1=>obtain⟨σ1,rfl,V1⟩:=r5;exact⟨jS,e1,c5,W5,xD,V1,hl,p5⟩
    |ct e1=>obtain⟨σ1,rfl,V1⟩:=r5;exact⟨jS,e1,c5,W5,xD,V1,hl,p5⟩
    |bk e1=>obtain⟨σ1,rfl,V1⟩:=r5;exact post.here (Q:=En σ) (show post X.K (qL X.K) (.ok (Fl.nx e1) c5) jS H5 (En σ)from p5) W5 ⟨_,rfl,V1⟩
    |rt d=>obtain⟨v,rfl,V1⟩:=r5;exact post.here (Q:=En σ) (show post X.K (qL X.K) (.ok (Fl.rt d) c5) jS H5 (En σ)from p5) W5 ⟨_,rfl,V1⟩
  ·exact p2.elim
 ·obtain rfl:i=s.items.length:=∅
  rw[Xa (x6 _)]at p2;unfold bU at p2;split at p2
  ·rename_i hst;exact .inl ⟨(j1 cX H2 c2 W2 X2 hst _).2 rfl,post.here (Q:=En σ) p2 W2 ⟨σ2,rfl,V2⟩⟩
  ·exact p2.elim
def mz(t:ai)(b:ah):Nat->ah
 |0,_,_=>.bad
 |n+1,e,c=>(t e c).bind λk c=>if k=J then(b e c).bind λf c=>match f with
   |.nx e=>mz t b n e c
   |.ct e=>mz t b n e c
   |.bk e=>.ok (.nx e) c
   |.rt d=>.ok (.rt d) c
  else .ok (.nx e) c
theorem aju{body:List dg}{pos:Pos}(ht:jN X c' dt)(hb:bB X body db)(hp:VH (model X.prog X.w) X.A X.env X.xe:=by exact W9):kC X (.While c' body [] pos) (mz dt db n):=(akF hp ht hb).imp λσ Z H h=>by
 obtain⟨ρ,e,c,W,V,p⟩:=h;refine⟨λm Z H=>∃ρ e c,Wd X.K ρ H c/\cW X.K ρ H e Z/\post X.K _ (mz dt db m e c) ρ H (En σ),⟨n,ρ,e,c,W,V,p⟩,?_⟩
 rintro m σ2 H2 ⟨cX,e2,c2,W2,V2,p2⟩
 cases m with
 |zero=>exact p2.elim
 |succ m =>
  refine⟨cX,e2,c2,W2,V2,post.bind p2 λk c3 mw H3 b _ W3 X3 r3 p3=>?_⟩
  cases r3;cases k with
  |true =>
   refine oz ⟨λZ H=>∃ρ e c,Wd X.K ρ H c/\cW X.K ρ H e Z/\post X.K _ _ ρ H (En σ),λσ' H' q=>⟨m,Rt _,q⟩,?_⟩
   refine⟨mw,e2,c3,W3,V2.mono W2 X3,post.bind p3 λf c5 jS H5 b _ W5 X5 r5 p5=>?_⟩
   cases f with
   |nx e1=>obtain⟨σ1,rfl,V1⟩:=r5;exact⟨jS,e1,c5,W5,V1,p5⟩
   |ct e1=>obtain⟨σ1,rfl,V1⟩:=r5;exact⟨jS,e1,c5,W5,V1,p5⟩
   |bk e1=>obtain⟨σ1,rfl,V1⟩:=r5;exact post.here (Q:=En σ) (show post X.K _ _ jS H5 (En σ)from p5) W5 ⟨_,rfl,V1⟩
   |rt d=>obtain⟨v,rfl,V1⟩:=r5;exact post.here (Q:=En σ) (show post X.K _ _ jS H5 (En σ)from p5) W5 ⟨_,rfl,V1⟩
  |false=>exact oA (post.here (Q:=En σ) (show post X.K _ _ mw H3 (En σ)from p3) W3 ⟨_,rfl,V2.mono W2 X3⟩)
end
def fq(pick:List (Option Nat))(e:Ev):Ev:=pick.map λo=>o.bind λj=>(e[j]?).bind id
open Classical in
def bN(st:aa->Prop)(g:Gd)(t:ai)(el:af):List D->Ev->List D->aa->R (List D)
 |[],e,acc,c=>if st c then .ok acc c else .bad
 |x::xs,e,acc,c=>if st c then(g x e c).bind λe c=>(t e c).bind λk c=>if k=J then(el e c).bind λy c=>bN st g t el xs e (acc++[y]) c else bN st g t el xs e acc c else .bad
def aU(s:Ev->aa->R Src)(pick:List (Option Nat))(g:Gd)(t:ai)(el:af):af:=λe c=>(s e c).bind λs c =>
 if s.items.length<Ω then(bN s.stays g t el s.items (fq pick e) [] c).bind λl c=>.ok (.lst l) c else .bad
def aY:ai:=λ_ c=>.ok J c
abbrev BK(X:Cx)(ifs:List μ)(t:ai):Prop:=qM X ifs (tD X.K (λ_ _ a b=>a=b) t)
section
variable {X:Cx}{N':List Str}{pick:List (Option Nat)}{scope:R5}{tg elt iter:μ}{ifs:List μ}{pos:Pos}{ds:Ev->aa->R Src}{g:Gd}{dt:ai}{de:af}
theorem mO:BK X [] aY:=λpins s Z H Q I h=>by
 obtain⟨ρ,e,c,W,V,p⟩:=h;exact akp pins s Z H Q I (post.here p W rfl)
theorem gX(h:jN X c' dt):BK X [c'] dt:=akq h
theorem cW.picked{K:Ξ}{H:Hp}{Z:St}(V:cW K ρ H e Z):cW K ρ H (fq pick e) (mE pick Z):=by
 refine⟨λi d h=>?_,by simp[fq,mE]⟩
 unfold fq at h;unfold mE;rw[RB]at h ⊢;cases q:pick[i]? with
 |none=>rw[q]at h;cases h
 |some o =>
  rw[q]at h;cases o with
  |none=>cases h
  |some j =>
   have h':(e[j]?).bind id=O d:=R4 h;cases q2:e[j]? with
   |none=>rw[q2]at h';cases h'
   |some z =>
    rw[q2]at h';subst h';obtain⟨v,hv,r⟩:=V.get j d q2;exact⟨v,by simp[hv],r⟩
theorem adp{K:Ξ}{H1:Hp}{Z:St}{s:Src}{Γ:It}{Q:VK}(W1:Wd K aK H1 c1)(V1:cW K aK H1 e Z)(j1:JS K aK H1 s Γ)(hn:s.items.length<Ω)(p1:post K (Rel K) ((bN s.stays g dt de s.items e [] c1).bind λl c=>.ok (.lst l) c) aK H1 Q):Q0 Γ (yh K g) (tD K (λ_ _ a b=>a=b) dt) (tD K (Rel K) de) Q Z H1:=by
 refine⟨λi m Z ys H=>∃ρ e acc c,Wd K ρ H c/\Ext aK H1 ρ H/\cW K ρ H e Z/\aL K ρ H acc ys/\acc.length<=i/\i<=s.items.length/\m=s.items.length-i/\post K (Rel K) ((bN s.stays g dt de (s.items.drop i) e acc c).bind λl c=>.ok (.lst l) c) ρ H Q,
  ⟨_,aK,e,[],c1,W1,Ext.refl,V1,rfl,x6 _,RM _,rfl,p1⟩,?_⟩
 rintro i m σ2 ys H2 ⟨cX,e2,acc,c2,W2,X2,V2,r2,ha,hi2,rfl,p2⟩
 refine⟨by rw[r2.length];omega,?_⟩
 by_cases hl:i<s.items.length
 ·rw[VQ hl]at p2;unfold bN at p2;split at p2
  ·rename_i hst;obtain⟨go,yl⟩:=(j1 cX H2 c2 W2 X2 hst i).1 _ (H8 hl);refine .inr ⟨go,λσ' ys' H'=>∃ρ e acc c,Wd K ρ H' c/\Ext aK H1 ρ H'/\cW K ρ H' e σ'/\aL K ρ H' acc ys'/\acc.length<=i+1/\i+1<=s.items.length/\post K (Rel K) ((bN s.stays g dt de (s.items.drop (i+1)) e acc c).bind λl c=>.ok (.lst l) c) ρ H' Q,?_,λx H3 hy=>?_⟩
   ·rintro σ' ys' H' ⟨ρ,e,acc,c,w,x,v,r,a,l,q⟩
    exact⟨s.items.length-(i+1),∅,ρ,e,acc,c,w,x,v,r,a,l,rfl,q⟩
   ·obtain⟨W3,X3,r3⟩:=yl x H3 hy;have assoc:∀{α β γ:Type}(r:R α) f (g:β->aa->R γ),(r.bind f).bind g=r.bind λa c=>(f a c).bind g:=λr f g=>by cases r<;>rfl
    rw[assoc]at p2;refine⟨cX,_,e2,c2,W3,V2.mono W2 X3,r3,post.bind (post.ext p2 X3) λe4 c4 ud H4 agF _ W4 X4 V4 p4=>?_⟩
    rw[assoc]at p4;refine⟨ud,e4,c4,W4,V4,post.bind p4 λk c5 jS H5 b _ W5 X5 r5 p5=>?_⟩
    cases r5;have xD:=((X2.trans X3).trans X4).trans X5;have K5:=aL.mono W2 ((X3.trans X4).trans X5) _ _ r2;cases k with
    |true =>
     refine oz ?_;rw[if_pos rfl,assoc]at p5;refine⟨jS,e4,c5,W5,V4.mono W4 X5,post.bind p5 λy c6 agH H6 v _ akD X6 r6 p6=>?_⟩
     refine⟨agH,e4,acc++[y],c6,akD,xD.trans X6,(V4.mono W4 X5).mono W5 X6,(aL.mono W5 X6 _ _ K5).append ⟨v,[],rfl,r6,rfl⟩,by simp;exact ha,hl,p6⟩
    |false =>
     refine oA ?_;exact⟨jS,e4,acc,c5,W5,xD,V4.mono W4 X5,K5,Nat.le_succ_of_le ha,hl,p5⟩
  ·exact p2.elim
 ·obtain rfl:i=s.items.length:=∅
  rw[Xa (x6 _)]at p2;unfold bN at p2;split at p2
  ·rename_i hst;exact .inl ⟨(j1 cX H2 c2 W2 X2 hst _).2 rfl,qd W2 r2 p2⟩
  ·exact p2.elim
theorem PY{Z:St}{H:Hp}{Q:VK}{K:Ξ}(h:tD K (Rel K) (aU ds pick g dt de) Z H Q):CD (Jf K ds) pick (yh K g) (tD K (λ_ _ a b=>a=b) dt) (tD K (Rel K) de) Z H Q:=by
 obtain⟨ρ,e,c,W,V,p⟩:=h;refine⟨ρ,e,c,W,V,post.bind p λs c1 aK H1 Γ _ W1 X1 j1 p1=>?_⟩
 split at p1
 ·rename_i hn;exact adp W1 (V.mono W X1).picked j1 hn p1
 ·exact p1.elim
theorem iQ(S:cH X N' pick scope)(hit:PId X tg iter ds)
  (hg:∀cl C s₀ H₀ ex pn,l9 (fO X N' scope cl C s₀ H₀ ex pn) tg g) (hi:∀cl C s₀ H₀ ex pn,BK (fO X N' scope cl C s₀ H₀ ex pn) ifs dt) (he:∀cl C s₀ H₀ ex pn,aX (fO X N' scope cl C s₀ H₀ ex pn) elt de)
  (hc:X.calm=J:=by rfl) (hs:∀x,foldedSetIterable iter X.env x=pure x:=by intro _;rfl) :
  aX X (.ListComp elt [⟨tg,iter,ifs,0⟩] scope pos) (aU ds pick g dt de):=(alm S hc hit hg hi he hs).imp λZ H Q h=>PY h
theorem kG{spos:Pos}(S:cH X N' pick scope)(hit:PId X tg iter ds)(hg:∀cl C s₀ H₀ ex pn,l9 (fO X N' scope cl C s₀ H₀ ex pn) tg g)(hi:∀cl C s₀ H₀ ex pn,BK (fO X N' scope cl C s₀ H₀ ex pn) ifs dt)(he:∀cl C s₀ H₀ ex pn,aX (fO X N' scope cl C s₀ H₀ ex pn) elt de)(hsw:swapsWith (.ListComp elt [⟨tg,iter,ifs,0⟩] scope pos) (O (.Name y py)) spos.line X.env=pure J:=by rfl)(hN:X.N.Nodup:=by decide +kernel)(hy:X.N[i]? = O y:=by rfl)(hl:X.env.scope.names.lookup y=O .local:=by rfl)(hc:X.calm=J:=by rfl)(hs:∀x,foldedSetIterable iter X.env x=pure x:=by intro _;rfl):
  kC X (.Assign [.Name y py] (.ListComp elt [⟨tg,iter,ifs,0⟩] scope pos) spos) (aI i (aU ds pick g dt de)):=(ajF (g:=yh X.K g) (tt:=tD X.K (λ_ _ a b=>a=b) dt) (te:=tD X.K (Rel X.K) de) hsw hN hy hl S hc hit hg hi he hs).imp λσ Z H h=>by
 refine PY (g:=g) (dt:=dt) (de:=de) ?_;obtain⟨ρ,e,c,W,V,p⟩:=h;refine⟨ρ,e,c,W,V,post.bind p λx c1 aK H1 v _ W1 X1 r1 p1=>p1.here W1 ⟨_,rfl,(V.mono W X1).set r1 i⟩⟩
end
def fk(K:Ξ)(n:Nat)(m:List D->aa->R D):Sp:=λvs H Q _=>∃ρ xs c,Wd K ρ H c/\aL K ρ H xs vs/\xs.length=n/\post K (Rel K) (m xs c) ρ H Q
def aB(n:Nat)(m:List D->aa->R D)(a:aj):af:=λe c=>(a e c).bind λxs c=>if xs.length=n then m xs c else .bad
def bW(n:Nat)(xs:List D):Ev:=xs.map O++ο (n-xs.length) U
def cD(own:Bool)(n:Nat)(v:D)(c:aa):R D:=match v with
 |.ref k=>match c[k]? with
  |some (.lst l)=>if n<=k then(if own=J then .ok (.ref n) (c.take n++[.lst l])else .ok (.lst l) (c.take n))else .bad
  |none=>.bad
 |v=>if noRef v=J then .ok v (c.take n)else .bad
def bA(n:Nat)(own:Bool)(d:ah):List D->aa->R D:=λxs c=>(d (bW n xs) c).bind λf c'=>match f with
 |.rt v=>cD own c.length v c'
 |.nx _=>cD own c.length .aF c'
 |_=>.bad
section
variable {P:ν}{w:τ}{K:Ξ}{mg:Str->Option Δ}{base:υ}
theorem AH{own:Bool}(W:Wd K ρ H c)(W1:Wd K aK H1 c1)(X1:Ext ρ H aK H1)(r:Rel K aK H1 v x)(p:post K (Rel K) (cD own c.length v c1) ρ H Q):Q x H1:=by
 have hn:=Ext.len W W1 X1;have Wc:=W1.cut hn;have Xc:=X1.cut (n:=c.length) (So W.len);unfold cD at p;split at p
 ·rename_i k;split at p
  ·rename_i l hl;split at p
   ·rename_i hk;obtain⟨a,rfl,ha⟩:=r;obtain⟨nr,xs,hx,rl⟩:=W1.fP k a _ ha hl;have na:a∉aK.take c.length:=by
     intro h;obtain⟨j,hj,e⟩:=Se.mp h;have hj2:j<c.length:=by simp at hj;omega
     rw[UB]at e;have hk1:=Q9.mp ha;have:=(SS W1.nd (h₀:=(by simp at hj;omega)) (h₁:=hk1.1)).mp (e.trans hk1.2.symm)
     omega
    have sub:∀b,b∈aK.take c.length->b∈aK:=λb h=>RN h
    split at p
    ·have lr:(aK.take c.length).length=c.length:=by simp[W1.len];omega
     refine p (aK.take c.length++[a]) H1 (.ref a) ?_ ?_ ⟨a,rfl,?_⟩
     ·refine⟨?_,by simp[W1.len],λj b cl e1 e2=>?_,W1.tab⟩
      ·rw[Tt];refine⟨Wc.nd,by simp,?_⟩
       intro y hy z hz;rw[RE]at hz;subst hz;exact λq=>na (q▸hy)
      ·by_cases hj:j<c.length
       ·rw[RY (by rw[lr];exact hj)]at e1
        rw[RY (by simp;omega)]at e2
        have q:=Wc.fP j b cl e1 e2;cases cl with
        |lst l' =>
         obtain⟨lF,ys,hy,r'⟩:=q;refine⟨lF,ys,hy,aL.low (ρ:=aK) (λz hz=>?_) l' ys lF ?_⟩
         ·rcases RI.mp hz with hz|hz
          ·exact sub z hz
          ·rw[RE]at hz;subst hz;exact R7 ha
         ·have e1':aK[j]? = O b:=by rw[V7,if_pos hj]at e1;exact e1
          obtain⟨_,zs,hz,rz⟩:=W1.fP j b _ e1' (by rw[V7,if_pos hj]at e2;exact e2)
          rw[hy]at hz;cases hz;exact rz
       ·have hj':j=c.length:=by
         have:=(Q9.mp e1).1;rw[Rq,lr]at this;simp at this;omega
        subst hj';rw[SG (by rw[lr];exact x6 _),lr,Tp]at e1
        rw[SG (by simp;omega),show c.length-(List.take c.length c1).length=0 by simp;omega]at e2
        cases e1;cases e2;refine⟨nr,xs,hx,aL.low (ρ:=aK) (λz hz=>?_) l xs nr rl⟩
        rcases RI.mp hz with hz|hz
        ·exact sub z hz
        ·rw[RE]at hz;subst hz;exact R7 ha
     ·refine⟨λj b e=>?_,λb o e z t=>?_⟩
      ·have q:=Xc.pre j b e;rw[RY (Q9.mp q).1];exact q
      ·obtain⟨h1,h2⟩:=X1.keep b o e z t;refine⟨h1,λq=>h2 ?_⟩
       rcases RI.mp q with q|q
       ·exact sub b q
       ·rw[RE]at q;subst q;exact R7 ha
     ·rw[SG (by rw[lr];exact x6 _),lr,Tp];rfl
    ·exact p (aK.take c.length) H1 (.ref a) Wc Xc ⟨a,xs,rfl,⟨hx,na⟩,aL.low sub l xs nr rl⟩
   ·exact p.elim
  ·exact p.elim
 ·split at p
  ·rename_i hv;exact p _ H1 x Wc Xc (Rel.low (λb h=>RN h) _ _ hv r)
  ·exact p.elim
theorem cW.start{xs:List D}{N:List Str}(r:aL K ρ H xs vs):cW K ρ H (bW N.length xs) (start N vs):=by
 have hl:=r.length;refine⟨λi d h=>?_,by simp[bW,L2.start,hl]⟩
 unfold bW at h;unfold L2.start
 by_cases hi:i<xs.length
 ·rw[RY (by simpa using hi),RB]at h
  cases q:xs[i]? with
  |none=>rw[q]at h;cases h
  |some x =>
   rw[q]at h;cases h;obtain⟨v,hv,rv⟩:=r.get q;exact⟨v,by rw[RY (by simp[hl];exact hi),RB,hv];rfl,rv⟩
 ·rw[SG (by simpa using Xr hi)]at h
  have:=R7 h;rw[List.mem_replicate]at this;cases this.2
theorem O6{qual:Str}{st:dg}{own:Bool}(F:mq K x qual st f fd)(S:jQ N ps (dG st))(hN:N.length=n)(hm:ps.length=m)(hb:∀(cdv:Δ) (A:χ) (outer:List Env) (s:Ψ) (H:Hp) (E:XK),cu k (A.deeper (envOfC qual (dG st) s.heap.objs.size f cdv))->bB (lY dJ P w K mg base N qual (dG st) f cdv A outer s H E).lG (iH st) d):
  eO P w K mg base dJ (k+1) f fd ps (fk K m (bA n own d)):=by
 subst hN;subst hm;refine F.ok S (λvs H Q E h=>?_) (λcdv A outer s H vs Q E hr h=>⟨_,hb cdv A outer s H E hr,?_⟩)
 ·obtain⟨ρ,xs,c,W,r,hl,p⟩:=h;exact r.length.trans hl
 ·obtain⟨ρ,xs,c,W,r,hl,p⟩:=h;refine⟨ρ,bW N.length xs,c,W,cW.start r,post.bind p λfl c1 aK H1 b _ W1 X1 r1 p1=>?_⟩
  cases fl with
  |nx e1 =>
   obtain⟨σ1,rfl,V1⟩:=r1;exact AH (v:=.aF) (x:=.aF) (H1:=H1) W W1 X1 rfl (by
    unfold bA at p;exact id (α:=post K (Rel K) (cD own c.length .aF c1) ρ H Q) (by
     rename_i he;rw[he]at p;exact p))
  |rt d =>
   obtain⟨v,rfl,V1⟩:=r1;exact AH (v:=d) (x:=v) (H1:=H1) W W1 X1 V1 (by
    unfold bA at p;rename_i he;rw[he]at p;exact p)
  |bk e1=>exact p1.elim
  |ct e1=>exact p1.elim
end
section
variable {X:Cx}
theorem j4{st:dg}{m:List D->aa->R D}{pos:Pos}(D:Def X.K X.mg x st ps f fd)(G:eO X.prog X.w X.K X.mg X.base dJ k f fd ps (fk X.K n m))(hr:cu k X.A)(ha:gv X (e::es) da)(hg:Gl X x:=by rfl)(hdb:(x==("__debug__":Str))=ξ:=by decide)(he:ε (e::es) X.env=(ξ,eval e X.env)::ε es X.env:=by exact cR rfl)(hpl:(Q6 pos (ε es X.env)).any (·.1)=ξ:=by exact gb rfl):
  aX X (.Call (.Name x p) (e::es) [] pos) (aB n m da):=(alo D G hr ha hg hdb he hpl).imp λZ H Q h=>by
 obtain⟨ρ,e,c,W,V,q⟩:=h;refine⟨ρ,e,c,W,V,post.bind q λxs c1 aK H1 vs _ W1 X1 r1 p1=>?_⟩
 split at p1
 ·rename_i hl;exact⟨aK,xs,c1,W1,by rw[SI];exact r1,hl,p1⟩
 ·exact p1.elim
theorem bH{id:String}{pos:Pos}{f:List D->aa->R D}(hc:cK X (.builtin id) (rN X.K f))(hm:X.mg x=U)(hv:bootBuiltins x=O (.builtin id))(ha:gv X (e::es) da)(hg:Gl X x:=by rfl)(hn:x≠"__name__":=by decide)(hdb:(x==("__debug__":Str))=ξ:=by decide)(he:ε (e::es) X.env=(ξ,eval e X.env)::ε es X.env:=by exact cR rfl)(hpl:(Q6 pos (ε es X.env)).any (·.1)=ξ:=by exact gb rfl):aX X (.Call (.Name x p) (e::es) [] pos) (aJ f da):=(uW hc hg hm hv ha hn hdb he hpl).imp λZ H Q h=>Jd h
theorem j5{pos:Pos}{f:List D->aa->R D}(hc:cK X (.type T) (rN X.K f))(hm:X.mg x=U)(hv:bootBuiltins x=O (.type T))(ha:gv X (e::es) da)(hg:Gl X x:=by rfl)(hn:x≠"__name__":=by decide)(hdb:(x==("__debug__":Str))=ξ:=by decide)(he:ε (e::es) X.env=(ξ,eval e X.env)::ε es X.env:=by exact cR rfl)(hpl:(Q6 pos (ε es X.env)).any (·.1)=ξ:=by exact gb rfl):aX X (.Call (.Name x p) (e::es) [] pos) (aJ f da):=(nT hc hg hm hv ha hn hdb he hpl).imp λZ H Q h=>Jd h
end
def aR:List D->aa->R D:=λxs c=>match xs with
 |[x]=>match fV c x with
  |some l=>.ok (.int l.length) c
  |none=>match x with
   |.str z=>if z.length<=Ω then .ok (.int z.length) c else .bad
   |_=>.bad
 |_=>.bad
def IK:D->Option String
 |.aF=>O "NoneType"
 |.bl _=>O "bool"
 |.int _=>O "int"
 |.str _=>O "str"
 |.tup _=>O "tuple"
 |.lst _=>O "list"
 |.ref _=>O "list"
 |_=>U
def cL:List D->aa->R D:=λxs c=>match xs with
 |[.iZ,.ty T]=>if T∈["bool","int","str","list","tuple","dict"]then .ok (.bl (uH "dict" T)) c else .bad
 |[x,.ty T]=>match IK x with
  |some n=>if T∈["bool","int","str","list","tuple","dict"]then .ok (.bl (uH n T)) c else .bad
  |none=>.bad
 |_=>.bad
def qF:List D->Option (List Bool)
 |[]=>O []
 |.bl b::l=>(qF l).map (b :: ·)
 |_=>U
def g8:List D->Option (List Int)
 |[]=>O []
 |.int i::l=>(g8 l).map (i :: ·)
 |_=>U
theorem Gb(l:List Bool):qF (l.map D.bl)=O l:=by
 induction l with
 |nil=>rfl
 |cons a l ih=>simp[qF,ih]
theorem qq(l:List Int):g8 (l.map D.int)=O l:=by
 induction l with
 |nil=>rfl
 |cons a l ih=>simp[g8,ih]
theorem Ge:∀{l:List D}{bs:List Bool},qF l=O bs->l=bs.map D.bl
 |[],bs,h=>by cases h;rfl
 |d::l,bs,h=>by
  cases d with
  |bl b =>
   unfold qF at h;cases q:qF l with
   |none=>rw[q]at h;cases h
   |some r=>rw[q]at h;cases h;rw[Ge q];rfl
  |_=>cases h
theorem oH:∀{l:List D}{bs:List Int},g8 l=O bs->l=bs.map D.int
 |[],bs,h=>by cases h;rfl
 |d::l,bs,h=>by
  cases d with
  |int b =>
   unfold g8 at h;cases q:g8 l with
   |none=>rw[q]at h;cases h
   |some r=>rw[q]at h;cases h;rw[oH q];rfl
  |_=>cases h
def p7(f:List Bool->Bool):List D->aa->R D:=λxs c=>match xs with
 |[.lst l]=>match qF l with
  |some bs=>.ok (.bl (f bs)) c
  |none=>.bad
 |_=>.bad
def kB:=p7 λbs=>bs.all id
def xy:=p7 λbs=>bs.any id
def sE:List D->aa->R D:=λxs c=>match xs with
 |[.int i,.int j]=>.ok (.int (if j>i then j else i)) c
 |_=>.bad
def kM:List D->aa->R D:=λxs c=>match xs with
 |[.int i,.int j]=>.ok (.int (if j<i then j else i)) c
 |_=>.bad
def gi:Int->List Int->Int
 |a,[]=>a
 |a,b::l=>gi (if b<a then b else a) l
def eT:List D->aa->R D:=λxs c=>match xs with
 |[x]=>match fV c x with
  |some l=>.ok (.tup l) c
  |none=>.bad
 |_=>.bad
def D6:List D->aa->R D:=λxs c=>match xs with
 |[x]=>match fV c x with
  |some l=>.ok (.lst l) c
  |none=>.bad
 |_=>.bad
section
variable {X:Cx}{K:Ξ}{ρ:List L}{H:Hp}{c:aa}
theorem cN:cK X (.builtin "len") (rN X.K aR):=by
 intro pins s Z H vs us Q I rv h;obtain⟨ρ,xs,c,W,rx,p⟩:=h;unfold aR at p;split at p
 ·obtain⟨v,r,rfl,hx,hr⟩:=rx;cases hr;split at p
  ·rename_i l hl;obtain⟨a,ys,rfl,sq,r⟩:=uK W hx hl;exact adM pins s Z H _ us Q I rv ⟨a,ys,rfl,sq,by rw[r.length];exact p.here W rfl⟩
  ·split at p
   ·split at p
    ·rename_i hz;cases hx;exact adL pins s Z H _ us Q I rv ⟨_,rfl,hz,p.here W rfl⟩
    ·exact p.elim
   ·exact p.elim
 ·exact p.elim
theorem agL(W:Wd K ρ H c)(rx:Rel K ρ H x v)(h:IK x=O n):tyName H v n:=by
 cases x with
 |aF=>cases rx;cases h;exact rfl
 |bl b=>cases rx;cases h;exact rfl
 |int b=>cases rx;cases h;exact rfl
 |str b=>cases rx;cases h;exact rfl
 |tup l=>obtain⟨a,xs,rfl,s,r⟩:=rx;cases h;exact .inr (.inl ⟨rfl,xs,s⟩)
 |lst l=>obtain⟨a,xs,rfl,s,r⟩:=rx;cases h;exact .inl ⟨rfl,.inl ⟨xs,s.1⟩⟩
 |ref k =>
  obtain⟨a,rfl,s⟩:=rx;cases h;obtain⟨xs,e⟩:=W.at' (R7 s);exact .inl ⟨rfl,.inl ⟨xs,e⟩⟩
 |_=>cases h
theorem F6:cK X (.builtin "isinstance") (rN X.K cL):=by
 intro pins s Z H vs us Q I rv h;obtain⟨ρ,xs,c,W,rx,p⟩:=h;unfold cL at p;split at p
 ·split at p
  ·rename_i hT;obtain⟨v,r,rfl,⟨a,rfl,hH⟩,u,r',rfl,hu,hr⟩:=rx;cases hr;cases hu;obtain⟨u1,u2,rfl,r1,r2⟩:=Vals.two rv;cases r1;cases r2;obtain⟨hp,_,_⟩:=I.hok a _ hH;exact S2 WE I.fY hp (Np (n:="dict") (by simp) hT) (λz=>nomatch z) λtk=>⟨.bl _,H,I.tok _,rfl,p.here W rfl⟩
  ·exact p.elim
 ·split at p
  ·rename_i n hn;split at p
   ·rename_i hT;obtain⟨v,r,rfl,hx,u,r',rfl,hu,hr⟩:=rx;cases hr;cases hu;exact adN pins s Z H _ us Q I rv ⟨v,n,_,rfl,agL W hx hn,hT,p.here W rfl⟩
   ·exact p.elim
  ·exact p.elim
 ·exact p.elim
theorem F7(hc:X.calm=J:=by rfl):cK X (.builtin "all") (rN X.K kB):=by
 intro pins s Z H vs us Q I rv h;obtain⟨ρ,xs,c,W,rx,p⟩:=h;unfold kB p7 at p;split at p
 ·split at p
  ·rename_i bs hb;obtain⟨v,r,rfl,⟨a,ys,rfl,s1,r1⟩,hr⟩:=rx;cases hr;rw[Ge hb]at r1;cases r1.Ga;exact adQ hc pins s Z H _ us Q I rv ⟨a,bs,rfl,bw.of s1.1,p.here W rfl⟩
  ·exact p.elim
 ·exact p.elim
theorem adE(hc:X.calm=J:=by rfl):cK X (.builtin "any") (rN X.K xy):=by
 intro pins s Z H vs us Q I rv h;obtain⟨ρ,xs,c,W,rx,p⟩:=h;unfold xy p7 at p;split at p
 ·split at p
  ·rename_i bs hb;obtain⟨v,r,rfl,⟨a,ys,rfl,s1,r1⟩,hr⟩:=rx;cases hr;rw[Ge hb]at r1;cases r1.Ga;exact adP hc pins s Z H _ us Q I rv ⟨a,bs,rfl,bw.of s1.1,p.here W rfl⟩
  ·exact p.elim
 ·exact p.elim
theorem adB(hc:X.calm=J:=by rfl):cK X (.builtin "max") (rN X.K sE):=by
 intro pins s Z H vs us Q I rv h;obtain⟨ρ,xs,c,W,rx,p⟩:=h;unfold sE at p;split at p
 ·obtain⟨v,r,rfl,hx,u,r',rfl,hu,hr⟩:=rx;cases hr;cases hx;cases hu;exact adK hc pins s Z H _ us Q I rv ⟨_,_,rfl,p.here W rfl⟩
 ·exact p.elim
theorem tU(hc:X.calm=J:=by rfl):cK X (.builtin "min") (rN X.K kM):=by
 intro pins s Z H vs us Q I rv h;obtain⟨ρ,xs,c,W,rx,p⟩:=h;unfold kM at p;split at p
 ·obtain⟨v,r,rfl,hx,u,r',rfl,hu,hr⟩:=rx;cases hr;cases hx;cases hu;exact adJ hc pins s Z H _ us Q I rv ⟨_,_,rfl,p.here W rfl⟩
 ·exact p.elim
theorem l8:cK X (.type "tuple") (rN X.K eT):=by
 intro pins s Z H vs us Q I rv h;obtain⟨ρ,xs,c,W,rx,p⟩:=h;unfold eT at p;split at p
 ·rename_i x;obtain⟨v,r,rfl,hx,hr⟩:=rx;cases hr;split at p
  ·rename_i l hl;obtain⟨a,ys,rfl,sq,r⟩:=uK W hx hl;refine adG pins s Z H _ us Q I rv ⟨a,ys,rfl,?_⟩
   rcases sq with sq|sq
   ·exact .inl ⟨sq,y9 W r p⟩
   ·refine .inr ⟨sq,?_⟩;cases x with
    |tup m=>cases hl;exact p.here W hx
    |lst m =>
     obtain⟨b,zs,e,s1,_⟩:=hx;cases e;exfalso
     rcases sq with sq|⟨o,its,n,hk,hcl,_⟩
     ·rcases sq with sq|⟨o,sq⟩<;>(rw[s1.1]at sq;cases sq)
     ·have:=I.bs a o (I.ok.mod.mX a o hk);rw[s1.1]at this;cases this.2
    |bS m =>
     exfalso;obtain⟨b,e,s1⟩:=hx;cases e;obtain⟨i1,_,pl,_⟩:=I.list s1.sql;obtain⟨i2,_,pt,_⟩:=I.tuple sq;obtain⟨o1,e1,c1,_⟩:=pl.isList;obtain⟨o2,e2,c2,_⟩:=pt;rw[e1]at e2;cases e2;rw[c1]at c2;exact absurd c2 ⋯
    |ref k =>
     exfalso;obtain⟨b,e,s1⟩:=hx;cases e;obtain⟨zs,hz⟩:=W.at' (R7 s1)
     rcases sq with sq|⟨o,its,n,hk,hcl,_⟩
     ·rcases sq with sq|⟨o,sq⟩<;>(rw[hz]at sq;cases sq)
     ·have:=I.bs a o (I.ok.mod.mX a o hk);rw[hz]at this;cases this.2
    |_=>cases hl
  ·exact p.elim
 ·exact p.elim
theorem adD:cK X (.type "list") (rN X.K D6):=by
 intro pins s Z H vs us Q I rv h;obtain⟨ρ,xs,c,W,rx,p⟩:=h;unfold D6 at p;split at p
 ·obtain⟨v,r,rfl,hx,hr⟩:=rx;cases hr;split at p
  ·rename_i l hl;obtain⟨a,ys,rfl,sq,r⟩:=uK W hx hl;exact Qm pins s Z H _ us Q I rv ⟨a,ys,rfl,sq,qd W r p⟩
  ·exact p.elim
 ·exact p.elim
theorem Qy(l:List Int)(a:Int):∀k,k<(a::l).length->(a::l).getD (argBest (λi j=>decide ((a::l).getD i 0<(a::l).getD j 0)) k) 0=gi a (l.take k)
 |0,_=>rfl
 |k+1,h=>by
  have ih:=Qy l a k (W8 h);have hk:k<l.length:=by simpa using h
  have step:∀(l:List Int) k (a:Int) _,gi a (l.take (k+1))=if l[k]<gi a (l.take k)then l[k]else gi a (l.take k):=by
   intro l
   induction l with
   |nil=>intro k a hk;cases hk
   |cons b l ihl =>
    intro k a hk;cases k with
    |zero=>simp[gi]
    |succ k =>
     have:=ihl k (if b<a then b else a) (by simpa using hk)
     simpa[gi]using this
  rw[step l k a hk];unfold argBest;rw[ih];have e:(a::l).getD (k+1) 0=l[k]:=by simp[List.getD,hk]
  rw[e]
  by_cases hc:l[k]<gi a (l.take k)
  ·rw[if_pos (by simpa using hc),if_pos hc,e]
  ·rw[if_neg (by simpa using hc),if_neg hc,ih]
end
def qD(o a:af):af:=λe c=>(o e c).bind λx c=>match x with
 |.ref k=>(a e c).bind λy c=>match c[k]? with
  |some (.lst l)=>if l.length<Ω/\noRef y=J then .ok .aF (c.set k (.lst (l++[y])))else .bad
  |none=>.bad
 |_=>.bad
theorem Lv{apos:Pos}(ho:aX X o dO)(ha:aX X e da)(hbase:VJ o "append" X.env (eval o X.env)=eval o X.env:=by rfl)(hfew:((Q6 cpos (ε [e] X.env)).all (λx=>!x.1)&&(Sw cpos (Sy [] X.env)).all (λx=>x.1.isSome)
   && decide ([e].length+([]:List S3).length+(if([]:List S3).isEmpty then 0 else 1)<30))=J:=by exact Jr rfl)(hline:(apos.endLine==cpos.line)=J:=by rfl)(hs:ε [e] X.env=(ξ,eval e X.env)::ε [] X.env:=by exact cR rfl)(hplain:(Q6 cpos (ε [] X.env)).any (·.1)=ξ:=by exact gb rfl):
  aX X (.Call (.Attribute o "append" apos) [e] [] cpos) (qD dO da) :=
 (Dg W7 PySem.F.slot_list_append PySem.F.type_list_append YT ho (iS ha jv hs) hbase hfew hline hs hplain).imp λZ H Q h=>by
  obtain⟨ρ,e,c,W,V,p⟩:=h;refine⟨ρ,e,c,W,V,post.bind p λx c1 aK H1 v _ W1 X1 r1 p1=>?_⟩
  cases x with
  |ref k =>
   obtain⟨a,rfl,ha⟩:=r1;obtain⟨xs,hx⟩:=W1.at' (R7 ha);refine⟨.inl ⟨rfl,xs,bw.of hx⟩,aK,e,c1,W1,V.mono W X1,post.bind p1 λy c2 cX H2 u _ W2 X2 r2 p2=>?_⟩
   split at p2
   ·rename_i l hl;split at p2
    ·rename_i hh;obtain⟨nr,ys,hy,rl⟩:=W2.fP k a _ (X2.pre k a ha) hl;refine⟨a,ys,u,rfl,rfl,hy,by rw[rl.length];exact hh.1,?_⟩
     refine p2 cX _ .aF (W2.write (X2.pre k a ha) (by rw[u9,nr];simp[bF,hh.2]) (rl.append ⟨u,[],rfl,r2,rfl⟩)) (Ext.write (X2.pre k a ha)) rfl
    ·exact p2.elim
   ·exact p2.elim
  |_=>exact p1.elim
section
variable (e:Ev) (c:aa) (a b d:af) (ta tb:ai) (s t:ah) (l:aj) (g:Gd) (gs:List D->Ev->aa->R Ev)
@[simp] theorem dj(i:Nat):ak i e c=match e[i]? with|some (O d)=>.ok d c|_=>.bad:=rfl
@[simp] theorem jU(d:D):dC d e c=.ok d c:=rfl
@[simp] theorem iw(f:D->D->aa->R D):av f a b e c=(a e c).bind λx c=>(b e c).bind λy c=>f x y c:=rfl
@[simp] theorem rq(f:List D->aa->R D):aJ f l e c=(l e c).bind λxs c=>f xs c:=rfl
@[simp] theorem ae1(f g:D->D->aa->R D):FO f g a b d e c=(a e c).bind λx c=>(b e c).bind λy c=>(f x y c).bind λz c=>match z with
 |.bl J=>(d e c).bind λu c=>g y u c
 |.bl ξ=>.ok (.bl ξ) c
 |_=>.bad:=rfl
@[simp] theorem cU:aq e c=.ok [] c:=rfl
@[simp] theorem cY:ao a l e c=(a e c).bind λx c=>(l e c).bind λxs c=>.ok (x::xs) c:=rfl
@[simp] theorem Cj:bX l e c=(l e c).bind λxs c=>if xs.length<=Ω then .ok (.tup xs) c else .bad:=rfl
@[simp] theorem xT:eW l e c=(l e c).bind λxs c=>if xs.length<=Ω then .ok (.lst xs) c else .bad:=rfl
@[simp] theorem aeQ:gu l e c=(l e c).bind λxs c=>if xs.length<=Ω/\bF xs=J then .ok (.ref c.length) (c++[.lst xs])else .bad:=rfl
@[simp] theorem Cq:aG a e c=(a e c).bind λx c=>match x with|.bl b=>.ok b c|_=>.bad:=rfl
@[simp] theorem aeD:o8 a e c=(a e c).bind λx c=>match rE c x with|some b=>.ok b c|none=>.bad:=rfl
@[simp] theorem ug:i6 ta tb e c=(ta e c).bind λx c=>if x=J then tb e c else .ok ξ c:=rfl
@[simp] theorem aeJ:jH ta tb e c=(ta e c).bind λx c=>if x=J then .ok J c else tb e c:=rfl
@[simp] theorem aeK:eF ta e c=(ta e c).bind λx c=>.ok (!x) c:=rfl
@[simp] theorem ahw:pe a b e c=(a e c).bind λx c=>match x with|.bl k=>if k=J then b e c else .ok (.bl ξ) c|_=>.bad:=rfl
@[simp] theorem aho:o9 a e c=(a e c).bind λx c=>match x with|.bl k=>.ok (.bl (!k)) c|_=>.bad:=rfl
@[simp] theorem Cm:ni ta a b e c=(ta e c).bind λx c=>if x=J then a e c else b e c:=rfl
@[simp] theorem x_call(n:Nat)(m:List D->aa->R D):aB n m l e c=(l e c).bind λxs c=>if xs.length=n then m xs c else .bad:=rfl
@[simp] theorem aeM:bJ e c=.ok (.nx e) c:=rfl
@[simp] theorem ae2:rP e c=.bad:=rfl
@[simp] theorem iu:aD s t e c=(s e c).bind λf c=>match f with|.nx e=>t e c|f=>.ok f c:=rfl
@[simp] theorem rj:aP a e c=(a e c).bind λx c=>.ok (.rt x) c:=rfl
@[simp] theorem Cp:d9 a e c=(a e c).bind λ_ c=>.ok (.nx e) c:=rfl
@[simp] theorem xU:bx ta s t e c=(ta e c).bind λx c=>if x=J then s e c else t e c:=rfl
@[simp] theorem qY(i:Nat):aI i a e c=(a e c).bind λx c=>.ok (.nx (e.set i (O x))) c:=rfl
@[simp] theorem Cr:jZ a g e c=(a e c).bind λx c=>(g x e c).bind λe c=>.ok (.nx e) c:=rfl
@[simp] theorem Ig(i:Nat)(x:D):aC i x e c=.ok (e.set i (O x)) c:=rfl
@[simp] theorem aeX:gn [] e c=.ok e c:=rfl
@[simp] theorem aeY(x:D)(xs:List D):cC g gs (x::xs) e c=(g x e c).bind λe c=>gs xs e c:=rfl
@[simp] theorem aeW(n:Nat)(xs:List D):fK n gs (.tup xs) e c=if xs.length=n then gs xs e c else .bad:=rfl
@[simp] theorem Cn(x:D):ko a b x e c=(a e c).bind λo c=>(b e c).bind λi c=>(pX o i x c).bind λ_ c=>.ok e c:=rfl
@[simp] theorem rm(sr:Ev->aa->R Src):bT sr g s e c=(sr e c).bind λq c=>bU q.stays g s q.items e c:=rfl
@[simp] theorem iN(n:Nat)(own:Bool)(xs:List D):bA n own s xs c=(s (bW n xs) c).bind λf c'=>match f with
 |.rt v=>cD own c.length v c'
 |.nx _=>cD own c.length .aF c'
 |_=>.bad:=rfl
@[simp] theorem aeF(n:Nat)(xs:List D):bW n xs=xs.map O++ο (n-xs.length) U:=rfl
@[simp] theorem nC(sr:Ev->aa->R Src)(pick:List (Option Nat)):aU sr pick g ta a e c=(sr e c).bind λq c =>
 if q.items.length<Ω then(bN q.stays g ta a q.items (fq pick e) [] c).bind λl c=>.ok (.lst l) c else .bad:=rfl
@[simp] theorem ue:aY e c=.ok J c:=rfl
@[simp] theorem xW(i j:Int):bR (.int i) (.int j) c=.ok (.int (i+j)) c:=rfl
@[simp] theorem ae3(x y:List D):bR (.tup x) (.tup y) c=if x.length≠0/\x.length+y.length<=Ω then .ok (.tup (x++y)) c else .bad:=rfl
@[simp] theorem aeE(i j:Int):kE (.int i) (.int j) c=.ok (.int (i-j)) c:=rfl
theorem xS(i j:Int):dZ (.int i) (.int j) c=if(-(2^64)<i/\i<2^64)\/(-(2^64)<j/\j<2^64)then .ok (.int (i*j)) c else .bad:=rfl
theorem Ih(i j:Int):fL (.int i) (.int j) c=if 0<j/\j<1073741824 then .ok (.int (i/j)) c else .bad:=rfl
theorem ahm(i j:Int):iD (.int i) (.int j) c=if 0<j then .ok (.int (i % j)) c else .bad:=rfl
theorem ahg(i j:Int):rT (.int i) (.int j) c=if 0<=j/\j<=1000000/\i.natAbs<2^64 then .ok (.int (i^j.toNat)) c else .bad:=rfl
@[simp] theorem ae0(p:Int->Int->Bool)(i j:Int):qE p (.int i) (.int j) c=.ok (.bl (p i j)) c:=rfl
@[simp] theorem xV(i j:Int):cE (.int i) (.int j) c=.ok (.bl (decide (i=j))) c:=rfl
@[simp] theorem Ck(i j:Int):cz (.int i) (.int j) c=.ok (.bl (!decide (i=j))) c:=rfl
@[simp] theorem aeZ(i j:Bool):cE (.bl i) (.bl j) c=.ok (.bl (decide (i=j))) c:=rfl
@[simp] theorem ahn(i j:Bool):cz (.bl i) (.bl j) c=.ok (.bl (!decide (i=j))) c:=rfl
@[simp] theorem ahy(i j:Str):cE (.str i) (.str j) c=.ok (.bl (decide (i=j))) c:=rfl
@[simp] theorem aeN(i j:Str):cz (.str i) (.str j) c=.ok (.bl (!decide (i=j))) c:=rfl
@[simp] theorem x_is(x:D):g7 x .aF c=.ok (.bl (fJ x)) c:=rfl
@[simp] theorem aeU(x:D):iX x .aF c=.ok (.bl (!fJ x)) c:=rfl
@[simp] theorem afu:fJ .aF=J:=rfl
@[simp] theorem n_bl(b:Bool):fJ (.bl b)=ξ:=rfl
@[simp] theorem afw(b:Int):fJ (.int b)=ξ:=rfl
@[simp] theorem aft(b:Str):fJ (.str b)=ξ:=rfl
@[simp] theorem afs(b:List D):fJ (.tup b)=ξ:=rfl
@[simp] theorem afv(b:List D):fJ (.lst b)=ξ:=rfl
@[simp] theorem uf(xs:List D)(i:Int):aH (.tup xs) (.int i) c=match d8 xs i with|some d=>.ok d c|none=>.bad:=rfl
@[simp] theorem jT(xs:List D)(i:Int):aH (.lst xs) (.int i) c=match d8 xs i with|some d=>.ok d c|none=>.bad:=rfl
@[simp] theorem Ie(xs:List D):aR [.tup xs] c=.ok (.int xs.length) c:=rfl
@[simp] theorem ahp(xs:List D):aR [.lst xs] c=.ok (.int xs.length) c:=rfl
@[simp] theorem aeT(xs:List Int):aR [.bS xs] c=.ok (.int xs.length) c:=by
 show R.ok _ c=_;rw[P0]
@[simp] theorem aeP(i j:Int):sE [.int i,.int j] c=.ok (.int (if j>i then j else i)) c:=rfl
@[simp] theorem aeO(i j:Int):kM [.int i,.int j] c=.ok (.int (if j<i then j else i)) c:=rfl
@[simp] theorem afe:noRef .aF=J:=rfl
@[simp] theorem r_bl(b:Bool):noRef (.bl b)=J:=rfl
@[simp] theorem afh(b:Int):noRef (.int b)=J:=rfl
@[simp] theorem afd(b:Str):noRef (.str b)=J:=rfl
@[simp] theorem ai3(b:List D):noRef (.tup b)=bF b:=by simp[noRef]
@[simp] theorem ai2(b:List D):noRef (.lst b)=bF b:=by simp[noRef]
@[simp] theorem afg:bF []=J:=by simp[bF]
@[simp] theorem afi(d:D)(b:List D):bF (d::b)=(noRef d&&bF b):=by simp[bF]
@[simp] theorem q_bl(own:Bool)(n:Nat)(b:Bool):cD own n (.bl b) c=.ok (.bl b) (c.take n):=rfl
@[simp] theorem afn(own:Bool)(n:Nat):cD own n .aF c=.ok .aF (c.take n):=rfl
@[simp] theorem afp(own:Bool)(n:Nat)(b:Int):cD own n (.int b) c=.ok (.int b) (c.take n):=rfl
@[simp] theorem afm(own:Bool)(n:Nat)(b:Str):cD own n (.str b) c=.ok (.str b) (c.take n):=rfl
@[simp] theorem afl(own:Bool)(n:Nat)(b:List D):cD own n (.tup b) c=if bF b=J then .ok (.tup b) (c.take n)else .bad:=by
 show(if noRef (.tup b)=J then R.ok (D.tup b) (c.take n)else R.bad)=_
 rw[ai3]
@[simp] theorem afo(own:Bool)(n:Nat)(b:List D):cD own n (.lst b) c=if bF b=J then .ok (.lst b) (c.take n)else .bad:=by
 show(if noRef (.lst b)=J then R.ok (D.lst b) (c.take n)else R.bad)=_
 rw[ai2]
@[simp] theorem qZ:bK l e c=(l e c).bind λxs c=>match xs with
 |[.int j]=>if -(2^62)<=j/\j<2^62 then .ok ⟨aV 0 j,λ_=>True⟩ c else .bad
 |_=>.bad:=rfl
@[simp] theorem ahi:fM l e c=(l e c).bind λxs c=>match xs with
 |[.int i,.int j]=>if -(2^62)<=i/\i<2^62/\-(2^62)<=j/\j<2^62 then .ok ⟨aV i j,λ_=>True⟩ c else .bad
 |_=>.bad:=rfl
@[simp] theorem aeH:cj a e c=(a e c).bind λx c=>match x with
 |.lst l=>.ok ⟨l,λ_=>True⟩ c
 |.bS l=>.ok ⟨l.map D.int,λ_=>True⟩ c
 |.ref k=>match c[k]? with
  |some (.lst l)=>.ok ⟨l,λc=>c[k]? = O (.lst l)⟩ c
  |none=>.bad
 |_=>.bad:=rfl
@[simp] theorem Ib:e9 a e c=(a e c).bind λx c=>match x with
 |.tup l=>.ok ⟨l,λ_=>True⟩ c
 |_=>.bad:=rfl
end
section
variable (g:Gd) (s:ah) (t:ai) (a:af) (e:Ev) (c:aa)
@[simp] theorem ab1:bU (λ_=>True) g s [] e c=.ok (.nx e) c:=by simp[bU]
@[simp] theorem kr(x:D)(xs:List D):bU (λ_=>True) g s (x::xs) e c=(g x e c).bind λe c=>(s e c).bind λf c=>match f with
   |.nx e=>bU (λ_=>True) g s xs e c
   |.ct e=>bU (λ_=>True) g s xs e c
   |.bk e=>.ok (.nx e) c
   |.rt d=>.ok (.rt d) c:=by
 exact if_pos trivial
@[simp] theorem agg(acc:List D):bN (λ_=>True) g t a [] e acc c=.ok acc c:=by simp[bN]
@[simp] theorem pq(x:D)(xs acc:List D):bN (λ_=>True) g t a (x::xs) e acc c=(g x e c).bind λe c=>(t e c).bind λk c=>if k=J then(a e c).bind λy c=>bN (λ_=>True) g t a xs e (acc++[y]) c else bN (λ_=>True) g t a xs e acc c:=by
 exact if_pos trivial
end
@[simp] theorem gz{α:Type}(a:α)(l:List α):(a::l)[0]? = O a:=rfl
@[simp] theorem gs{α:Type}(a:α)(l:List α)(n:Nat):(a::l)[n+1]? = l[n]?:=rfl
@[simp] theorem qG{α:Type}(a:α)(l:List α):d8 (a::l) 0=O a:=by simp[d8,iF]
@[simp] theorem nv{α:Type}(a b:α)(l:List α):d8 (a::b::l) 1=O b:=by
 unfold d8 iF;rw[if_pos ⋯,if_pos (by simp;omega)]
 rfl
@[simp] theorem at2{α:Type}(a b d:α)(l:List α):d8 (a::b::d::l) 2=O d:=by
 unfold d8 iF;rw[if_pos ⋯,if_pos (by simp;omega)]
 rfl
@[simp] theorem at3{α:Type}(a b d f:α)(l:List α):d8 (a::b::d::f::l) 3=O f:=by
 unfold d8 iF;rw[if_pos ⋯,if_pos (by simp;omega)]
 rfl
@[simp] theorem at4{α:Type}(a b d f h:α)(l:List α):d8 (a::b::d::f::h::l) 4=O h:=by
 unfold d8 iF;rw[if_pos ⋯,if_pos (by simp;omega)]
 rfl
theorem cZ(h:n<=1000):n<=Ω:=R9 h ⋯
@[simp] theorem sl0:(0:Nat)<=Ω:=RM _
@[simp] theorem sl1:(1:Nat)<=Ω:=⋯
@[simp] theorem sl2:(2:Nat)<=Ω:=⋯
@[simp] theorem sl3:(3:Nat)<=Ω:=⋯
@[simp] theorem sl4:(4:Nat)<=Ω:=⋯
@[simp] theorem sl5:(5:Nat)<=Ω:=⋯
@[simp] theorem sl6:(6:Nat)<=Ω:=⋯
@[simp] theorem st0:(0:Nat)<Ω:=⋯
@[simp] theorem st1:(1:Nat)<Ω:=⋯
@[simp] theorem st2:(2:Nat)<Ω:=⋯
@[simp] theorem st3:(3:Nat)<Ω:=⋯
@[simp] theorem Ju:(4:Nat)<Ω:=⋯
@[simp] theorem pV:(5:Nat)<Ω:=⋯
@[simp] theorem afX(i:Int)(c:aa):cL [.int i,.ty "int"] c=.ok (.bl J) c:=rfl
@[simp] theorem afY(i:Int)(c:aa):cL [.int i,.ty "bool"] c=.ok (.bl ξ) c:=rfl
@[simp] theorem afV(i:Int)(c:aa):cL [.int i,.ty "str"] c=.ok (.bl ξ) c:=rfl
@[simp] theorem afU(i:Int)(c:aa):cL [.int i,.ty "tuple"] c=.ok (.bl ξ) c:=rfl
@[simp] theorem afW(i:Int)(c:aa):cL [.int i,.ty "list"] c=.ok (.bl ξ) c:=rfl
@[simp] theorem af2(i:Bool)(c:aa):cL [.bl i,.ty "int"] c=.ok (.bl J) c:=rfl
@[simp] theorem af3(i:Bool)(c:aa):cL [.bl i,.ty "bool"] c=.ok (.bl J) c:=rfl
@[simp] theorem af0(i:Bool)(c:aa):cL [.bl i,.ty "str"] c=.ok (.bl ξ) c:=rfl
@[simp] theorem afZ(i:Bool)(c:aa):cL [.bl i,.ty "tuple"] c=.ok (.bl ξ) c:=rfl
@[simp] theorem af1(i:Bool)(c:aa):cL [.bl i,.ty "list"] c=.ok (.bl ξ) c:=rfl
@[simp] theorem afI(i:Str)(c:aa):cL [.str i,.ty "int"] c=.ok (.bl ξ) c:=rfl
@[simp] theorem afJ(i:Str)(c:aa):cL [.str i,.ty "bool"] c=.ok (.bl ξ) c:=rfl
@[simp] theorem afG(i:Str)(c:aa):cL [.str i,.ty "str"] c=.ok (.bl J) c:=rfl
@[simp] theorem afF(i:Str)(c:aa):cL [.str i,.ty "tuple"] c=.ok (.bl ξ) c:=rfl
@[simp] theorem afH(i:Str)(c:aa):cL [.str i,.ty "list"] c=.ok (.bl ξ) c:=rfl
@[simp] theorem afN(c:aa):cL [.aF,.ty "int"] c=.ok (.bl ξ) c:=rfl
@[simp] theorem afO(c:aa):cL [.aF,.ty "bool"] c=.ok (.bl ξ) c:=rfl
@[simp] theorem afL(c:aa):cL [.aF,.ty "str"] c=.ok (.bl ξ) c:=rfl
@[simp] theorem afK(c:aa):cL [.aF,.ty "tuple"] c=.ok (.bl ξ) c:=rfl
@[simp] theorem afM(c:aa):cL [.aF,.ty "list"] c=.ok (.bl ξ) c:=rfl
@[simp] theorem afD(i:List D)(c:aa):cL [.tup i,.ty "int"] c=.ok (.bl ξ) c:=rfl
@[simp] theorem afE(i:List D)(c:aa):cL [.tup i,.ty "bool"] c=.ok (.bl ξ) c:=rfl
@[simp] theorem afB(i:List D)(c:aa):cL [.tup i,.ty "str"] c=.ok (.bl ξ) c:=rfl
@[simp] theorem afA(i:List D)(c:aa):cL [.tup i,.ty "tuple"] c=.ok (.bl J) c:=rfl
@[simp] theorem afC(i:List D)(c:aa):cL [.tup i,.ty "list"] c=.ok (.bl ξ) c:=rfl
@[simp] theorem afS(i:List D)(c:aa):cL [.lst i,.ty "int"] c=.ok (.bl ξ) c:=rfl
@[simp] theorem afT(i:List D)(c:aa):cL [.lst i,.ty "bool"] c=.ok (.bl ξ) c:=rfl
@[simp] theorem afQ(i:List D)(c:aa):cL [.lst i,.ty "str"] c=.ok (.bl ξ) c:=rfl
@[simp] theorem afP(i:List D)(c:aa):cL [.lst i,.ty "tuple"] c=.ok (.bl ξ) c:=rfl
@[simp] theorem afR(i:List D)(c:aa):cL [.lst i,.ty "list"] c=.ok (.bl J) c:=rfl
section
variable (c:aa) {i j:Int}
theorem DP(h1:-18446744073709551616<i)(h2:i<18446744073709551616):dZ (.int i) (.int j) c=.ok (.int (i*j)) c:=by
 rw[xS,if_pos];exact .inl ⟨∅,∅⟩
theorem mul_r(h1:-18446744073709551616<j)(h2:j<18446744073709551616):dZ (.int i) (.int j) c=.ok (.int (i*j)) c:=by
 rw[xS,if_pos];exact .inr ⟨∅,∅⟩
theorem wM(h1:0<j)(h2:j<1073741824):fL (.int i) (.int j) c=.ok (.int (i/j)) c:=by
 rw[Ih,if_pos ⟨h1,h2⟩]
theorem qe(h1:0<j):iD (.int i) (.int j) c=.ok (.int (i % j)) c:=by
 rw[ahm,if_pos h1]
theorem K9(h1:0<=j)(h2:j<=1000000)(h3:i.natAbs<18446744073709551616):rT (.int i) (.int j) c=.ok (.int (i^j.toNat)) c:=by
 rw[ahg,if_pos ⟨h1,h2,h3⟩]
end
section
variable {g:Gd}{s:ah}{t:ai}{a:af}
theorem wU(inv:Ev->Prop)(F:D->Bool)(G:D->D):∀(items:List D) (e:Ev) (acc:List D),inv e ->
  (∀x∈items,∀e,inv e->∃e',g x e c=.ok e' c/\inv e'/\t e' c=.ok (F x) c/\(F x=J->a e' c=.ok (G x) c)) ->
  bN (λ_=>True) g t a items e acc c=.ok (acc++(items.filter F).map G) c
 |[],e,acc,_,_=>by simp
 |x::xs,e,acc,hi,h=>by
  obtain⟨e',h1,h2,h3,h4⟩:=h x Rf e hi;rw[pq,h1,R.aN,h3,R.aN];cases hF:F x with
  |true =>
   rw[if_pos rfl,h4 hF,R.aN,wU inv F G xs e' _ h2 λy hy=>h y (Rb _ hy)]
   simp[hF]
  |false =>
   rw[if_neg RH,wU inv F G xs e' _ h2 λy hy=>h y (Rb _ hy)]
   simp[hF]
theorem zU{c:aa}(inv:Ev->Prop)(P:D->Option D):∀(items:List D) (e:Ev),inv e ->
  (∀x∈items,∀e,inv e->∃e' e'',g x e c=.ok e' c/\inv e''/\s e' c=match P x with|none=>.ok (.nx e'') c|some v=>.ok (.rt v) c) ->
  match items.findSome? P with|none=>∃e',inv e'/\bU (λ_=>True) g s items e c=.ok (.nx e') c|some v=>bU (λ_=>True) g s items e c=.ok (.rt v) c
 |[],e,hi,_=>⟨e,hi,by simp⟩
 |x::xs,e,hi,h=>by
  obtain⟨e',e'',h1,h2,h3⟩:=h x Rf e hi;have ih:=zU inv P xs e'' h2 λy hy=>h y (Rb _ hy)
  rw[List.findSome?_cons,kr,h1,R.aN,h3];cases hP:P x with
  |some v=>simp
  |none=>simpa using ih
theorem O0(inv:Ev->Prop):∀(items:List D) (e:Ev) (c:aa),inv e ->
  (∀x∈items,∀e c,inv e->∃e' e'' c' c'',g x e c=.ok e' c'/\s e' c'=.ok (.nx e'') c''/\inv e'') ->
  ∃e' c',inv e'/\bU (λ_=>True) g s items e c=.ok (.nx e') c'
 |[],e,c,hi,_=>⟨e,c,hi,by simp⟩
 |x::xs,e,c,hi,h=>by
  obtain⟨e',e'',c',c'',h1,h2,h3⟩:=h x Rf e c hi;obtain⟨e3,c3,i3,h4⟩:=O0 inv xs e'' c'' h3 λy hy=>h y (Rb _ hy)
  exact⟨e3,c3,i3,by rw[kr,h1,R.aN,h2];exact h4⟩
theorem OZ(inv:Ev->aa->Prop):∀(items:List D) (e:Ev) (c:aa),inv e c ->
  (∀x∈items,∀e c,inv e c->∃e' e'' c' c'',g x e c=.ok e' c'/\s e' c'=.ok (.nx e'') c''/\inv e'' c'') ->
  ∃e' c',inv e' c'/\bU (λ_=>True) g s items e c=.ok (.nx e') c'
 |[],e,c,hi,_=>⟨e,c,hi,by simp⟩
 |x::xs,e,c,hi,h=>by
  obtain⟨e',e'',c',c'',h1,h2,h3⟩:=h x Rf e c hi;obtain⟨e3,c3,i3,h4⟩:=OZ inv xs e'' c'' h3 λy hy=>h y (Rb _ hy)
  exact⟨e3,c3,i3,by rw[kr,h1,R.aN,h2];exact h4⟩
end
theorem jw{lo:Int}(h:d∈aV lo hi):∃i:Int,d=.int i/\lo<=i/\i<hi:=by
 obtain⟨k,hk,rfl⟩:=AP.mp h;have:=dD.mp hk;exact⟨lo+k,rfl,∅,∅⟩
theorem jt{lo:Int}:(aV lo hi).length=(hi-lo).toNat:=by simp[aV]
def jg(c:aa):D->Option (List D)
 |.lst l=>O l
 |.ref k=>match c[k]? with
  |some (.lst l)=>O l
  |none=>U
 |_=>U
def cutD(xs:List D)(lo hi:Option Int):List D:=(xs.drop (HT.iz xs.length 0 lo)).take (HT.iz xs.length xs.length hi-HT.iz xs.length 0 lo)
def AO(a:af)(lo hi:Ev->aa->R (Option Int)):af:=λe c=>(a e c).bind λx c=>(lo e c).bind λl c=>(hi e c).bind λu c=>match jg c x with
 |some xs=>.ok (.lst (cutD xs l u)) c
 |none=>.bad
def AR:Ev->aa->R (Option Int):=λ_ c=>.ok U c
def AQ(a:af):Ev->aa->R (Option Int):=λe c=>(a e c).bind λx c=>match x with
 |.int i=>.ok (O i) c
 |_=>.bad
section
variable {X:Cx}{K:Ξ}{ρ ρ':List L}{H H':Hp}{c c':aa}
theorem zz(W:Wd K ρ H c)(rx:Rel K ρ H x v)(h:jg c x=O l):∃a xs,v=.ref a/\H a=O (.lst xs)/\aL K ρ H l xs:=by
 cases x with
 |lst m =>
  cases h;obtain⟨a,xs,e,s,r⟩:=rx;exact⟨a,xs,e,s.1,r⟩
 |ref k =>
  obtain⟨a,e,s⟩:=rx;unfold jg at h;dsimp only at h;cases hc:c[k]? with
  |none=>rw[hc]at h;cases h
  |some cl =>
   cases cl with
   |lst m =>
    rw[hc]at h;cases h;obtain⟨_,xs,hx,r⟩:=W.fP k a _ s hc;exact⟨a,xs,e,hx,r⟩
 |_=>cases h
abbrev BJ(X:Cx)(e:Option μ)(d:Ev->aa->R (Option Int)):Prop:=PO X e (tD X.K (λ_ _ a b=>a=b) d)
theorem PO.imp(h:PO X e t)(i:∀Z H Q,t' Z H Q->t Z H Q):PO X e t':=λpins s Z H Q I q=>h pins s Z H Q I (i _ _ _ q)
theorem Lb:BJ X U AR:=akv.imp λZ H Q h=>by
 obtain⟨ρ,e,c,W,Vv,p⟩:=h;exact p.here W rfl
theorem La(h:aX X e d):BJ X (O e) (AQ d):=(akw h).imp λZ H Q h=>by
 obtain⟨ρ,e,c,W,Vv,p⟩:=h;refine⟨ρ,e,c,W,Vv,post.bind p λx c1 aK H1 v _ W1 X1 r1 p1=>?_⟩
 cases x with
 |int i=>cases r1;exact⟨i,rfl,p1.here W1 rfl⟩
 |_=>exact p1.elim
theorem acY{xs:List V}{lo:Option Int}(r:aL K ρ H l xs):aL K ρ H (cutD l lo hi) (wQ xs lo hi):=by
 unfold cutD wQ;rw[r.length];exact(r.drop _).take _
theorem Lr{lo:Option μ}{pos:Pos}{dl dh:Ev->aa->R (Option Int)}(he:aX X e da)(hl:BJ X lo dl)(hh:BJ X hi dh):aX X (.Subscript e (.Slice lo hi U p2) pos) (AO da dl dh) :=
 (alx aim he hl hh).imp λZ H Q h=>by
  obtain⟨ρ,e,c,W,Vv,p⟩:=h;refine⟨ρ,e,c,W,Vv,post.bind p λx c1 aK H1 v _ W1 X1 r1 p1=>⟨aK,e,c1,W1,Vv.mono W X1,post.bind p1 λl c2 cX H2 l' _ W2 X2 r2 p2=>⟨cX,e,c2,W2,(Vv.mono W X1).mono W1 X2,post.bind p2 λu c3 mw H3 u' _ W3 X3 r3 p3=>?_⟩⟩⟩
  cases r2;cases r3;split at p3
  ·rename_i xs hs;obtain⟨a,ys,rfl,ha,r⟩:=zz W3 (Rel.mono W1 (X2.trans X3) _ _ r1) hs;exact⟨a,ys,rfl,bw.of ha,qd W3 (acY r) p3⟩
  ·exact p3.elim
end
section
variable (e:Ev) (c:aa) (a:af) (lo hi:Ev->aa->R (Option Int)) (l:aj)
@[simp] theorem x_sl:AO a lo hi e c=(a e c).bind λx c=>(lo e c).bind λl c=>(hi e c).bind λu c=>match jg c x with
 |some xs=>.ok (.lst (cutD xs l u)) c
 |none=>.bad:=rfl
@[simp] theorem aeL:AR e c=.ok U c:=rfl
@[simp] theorem aeI:AQ a e c=(a e c).bind λx c=>match x with
 |.int i=>.ok (O i) c
 |_=>.bad:=rfl
@[simp] theorem afy(x:List D):jg c (.lst x)=O x:=rfl
end
mutual
def dM:D->Option SW
 |.aF=>O .none
 |.bl b=>O (.bool b)
 |.int i=>O (.int i)
 |.str x=>if PyData.strOk x=J then O (.str x)else U
 |.tup l=>match f6 l with
  |some r=>O (.tuple r)
  |none=>U
 |.lst l=>match f6 l with
  |some r=>O (.list r)
  |none=>U
 |.ty _=>U
 |.ref _=>U
 |.bS _=>U
 |.fn _ _=>U
 |.exc _=>U
 |.iZ=>U
 |.dct _=>U
 |.gr _=>U
 |.lam _ _ _ _=>U
def f6:List D->Option (List SW)
 |[]=>O []
 |d::l=>match dM d,f6 l with
  |some a,O r=>O (a::r)
  |_,_=>U
end
def e8(c:aa):D->Option SW
 |.ref k=>match c[k]? with
  |some (.lst l)=>match f6 l with
   |some r=>O (.list r)
   |none=>U
  |none=>U
 |d=>dM d
def oX:D->D->aa->R D:=λx y c=>match e8 c x,e8 c y with
 |some p,O q=>if p.depth<=64/\q.depth<=64 then .ok (.bl (p.eqv q)) c else .bad
 |_,_=>.bad
def jc:D->D->aa->R D:=λx y c=>match e8 c x,e8 c y with
 |some p,O q=>if p.depth<=64/\q.depth<=64 then .ok (.bl (!p.eqv q)) c else .bad
 |_,_=>.bad
def inD:D->D->aa->R D:=λx y c=>match e8 c x,e8 c y with
 |some p,O (.list ys)=>if p.depth<=62 then .ok (.bl (ys.any λz=>z.eqv p)) c else .bad
 |some p,O (.tuple ys)=>if p.depth<=62 then .ok (.bl (ys.any λz=>z.eqv p)) c else .bad
 |_,_=>.bad
def iU:D->D->aa->R D:=λx y c=>match e8 c x,e8 c y with
 |some p,O (.list ys)=>if p.depth<=62 then .ok (.bl (!ys.any λz=>z.eqv p)) c else .bad
 |some p,O (.tuple ys)=>if p.depth<=62 then .ok (.bl (!ys.any λz=>z.eqv p)) c else .bad
 |_,_=>.bad
section
variable {X:Cx}{pins:List (L×Obj)}{Z:St}{ρ:List L}{H:Hp}{s:Ψ}{c:aa}
mutual
theorem iO(I:Inv X pins Z H s):∀(d:D) (v:V) (u:Δ) (p:SW),Rel X.K ρ H d v->RelV v u->dM d=O p->(∃as,Reads s.heap u p as)/\p.canLay0=J
 |.aF,v,u,p,r,ru,e=>by
  cases r;cases ru;cases e;exact⟨⟨_,.none⟩,by simp[PyData.canLay0]⟩
 |.bl b,v,u,p,r,ru,e=>by
  cases r;cases ru;cases e;exact⟨⟨_,.bool b⟩,by simp[PyData.canLay0]⟩
 |.int i,v,u,p,r,ru,e=>by
  cases r;obtain⟨t,rfl⟩:=ru;cases e;exact⟨⟨_,.int i t⟩,by simp[PyData.canLay0]⟩
 |.str x,v,u,p,r,ru,e=>by
  cases r;obtain⟨t,rfl⟩:=ru;unfold dM at e;split at e
  ·rename_i hx;cases e;exact⟨⟨_,.str x t⟩,by simpa[PyData.canLay0]using hx⟩
  ·cases e
 |.tup l,v,u,p,r,ru,e=>by
  obtain⟨a,xs,rfl,ha,rs⟩:=r;cases ru;unfold dM at e;split at e
  ·rename_i q hq;cases e;obtain⟨its,vs,⟨o,h1,h2,n,h3⟩,_⟩:=I.tuple (bZ.of ha);obtain⟨⟨as,ra⟩,hc⟩:=yE I l xs its q rs vs hq;exact⟨⟨_,.tuple h1 h2 h3 (by simpa using ra)⟩,by simpa[PyData.canLay0]using hc⟩
  ·cases e
 |.lst l,v,u,p,r,ru,e=>by
  obtain⟨a,xs,rfl,ha,rs⟩:=r;cases ru;unfold dM at e;split at e
  ·rename_i q hq;cases e;obtain⟨its,vs,pl,_⟩:=I.list (bw.of ha.1);obtain⟨o,h1,h2,n,h3⟩:=pl.isList;obtain⟨⟨as,ra⟩,hc⟩:=yE I l xs its q rs vs hq;exact⟨⟨_,.list h1 h2 h3 (by simpa using ra)⟩,by simpa[PyData.canLay0]using hc⟩
  ·cases e
 |.ty _,v,u,p,r,ru,e=>by simp[dM]at e
 |.ref _,v,u,p,r,ru,e=>by simp[dM]at e
 |.bS _,v,u,p,r,ru,e=>by simp[dM]at e
 |.fn _ _,v,u,p,r,ru,e=>by simp[dM]at e
 |.exc _,v,u,p,r,ru,e=>by simp[dM]at e
 |.iZ,v,u,p,r,ru,e=>by simp[dM]at e
 |.dct _,v,u,p,r,ru,e=>by simp[dM]at e
 |.gr _,v,u,p,r,ru,e=>by simp[dM]at e
 |.lam _ _ _ _,v,u,p,r,ru,e=>by simp[dM]at e
theorem yE(I:Inv X pins Z H s):∀(l:List D) (vs:List V) (us:List Δ) (ps:List SW),aL X.K ρ H l vs->Vals vs us->f6 l=O ps->(∃as,ReadsAll s.heap us ps as)/\PyData.canLayAll0 ps=J
 |[],vs,us,ps,r,ru,e=>by
  cases r;cases ru;cases e;exact⟨⟨_,.nil⟩,by simp[PyData.canLayAll0]⟩
 |d::l,vs,us,ps,r,ru,e=>by
  obtain⟨x,xs,rfl,r1,r2⟩:=r;cases ru with
  |cons q1 q2 =>
   unfold f6 at e;split at e
   ·rename_i a r e1 e2;cases e;obtain⟨⟨as,ra⟩,ca⟩:=iO I d x _ a r1 q1 e1;obtain⟨⟨bs,rb⟩,cb⟩:=yE I l xs _ r r2 q2 e2;exact⟨⟨_,.cons ra rb⟩,by simp[PyData.canLayAll0,ca,cb]⟩
   ·cases e
end
theorem j3(I:Inv X pins Z H s)(W:Wd X.K ρ H c)(r:Rel X.K ρ H d v)(ru:RelV v u)(e:e8 c d=O p):(∃as,Reads s.heap u p as)/\p.canLay0=J:=by
 cases d with
 |ref k =>
  unfold e8 at e;dsimp only at e;cases hc:c[k]? with
  |none=>rw[hc]at e;cases e
  |some cl =>
   cases cl with
   |lst l =>
    rw[hc]at e;dsimp only at e;split at e
    ·rename_i q hq;cases e;obtain⟨a,rfl,s1⟩:=r;cases ru;obtain⟨_,xs,hx,rs⟩:=W.fP k a _ s1 hc;obtain⟨its,vs,pl,_⟩:=I.list (bw.of hx);obtain⟨o,h1,h2,n,h3⟩:=pl.isList;obtain⟨⟨as,ra⟩,hc⟩:=yE I l xs its q rs vs hq;exact⟨⟨_,.list h1 h2 h3 (by simpa using ra)⟩,by simpa[PyData.canLay0]using hc⟩
    ·cases e
 |aF=>exact iO I _ v u p r ru e
 |bl b=>exact iO I _ v u p r ru e
 |int b=>exact iO I _ v u p r ru e
 |str b=>exact iO I _ v u p r ru e
 |tup b=>exact iO I _ v u p r ru e
 |lst b=>exact iO I _ v u p r ru e
 |ty b=>exact iO I _ v u p r ru e
 |bS b=>exact iO I _ v u p r ru e
 |fn b n=>exact iO I _ v u p r ru e
 |exc b=>exact iO I _ v u p r ru e
 |dct b=>exact iO I _ v u p r ru e
 |gr b=>exact iO I _ v u p r ru e
 |iZ=>exact iO I _ v u p r ru e
 |lam k y ns l=>exact iO I _ v u p r ru e
theorem Dz(hu:X.A.units+64<Q7):bL X (compareOp .Eq) (r2 X.K oX):=by
 intro pins s Z H v u vv uu Q I rv ru h;obtain⟨ρ,x,y,c,W,rx,ry,p⟩:=h;unfold oX at p;split at p
 ·rename_i a b ha hb;split at p
  ·rename_i hd;obtain⟨⟨as,ra⟩,ca⟩:=j3 I W rx rv ha;obtain⟨⟨bs,rb⟩,cb⟩:=j3 I W ry ru hb;exact PySem.SeqAt.compareEq_shaped ra rb (by simp[PySem.SeqAt.shaped,ca,hd.1]) (by simp[PySem.SeqAt.shaped,cb,hd.2]) hu ⟨.bl _,H,I,rfl,p.here W rfl⟩
  ·exact p.elim
 ·exact p.elim
theorem Dy(hu:X.A.units+64<Q7):bL X (compareOp .NotEq) (r2 X.K jc):=by
 intro pins s Z H v u vv uu Q I rv ru h;obtain⟨ρ,x,y,c,W,rx,ry,p⟩:=h;unfold jc at p;split at p
 ·rename_i a b ha hb;split at p
  ·rename_i hd;obtain⟨⟨as,ra⟩,ca⟩:=j3 I W rx rv ha;obtain⟨⟨bs,rb⟩,cb⟩:=j3 I W ry ru hb;exact PySem.SeqAt.compareNe_shaped ra rb (by simp[PySem.SeqAt.shaped,ca,hd.1]) (by simp[PySem.SeqAt.shaped,cb,hd.2]) hu ⟨.bl _,H,I,rfl,p.here W rfl⟩
  ·exact p.elim
 ·exact p.elim
theorem zF{A:χ}{p:SW}(hu:A.units+64<Q7)(hd:p.depth<=62):A.units+1+min (PyData.depthAll ys) p.depth<Q7:=by
 omega
theorem sd(hu:X.A.units+64<Q7):bL X (compareOp .In) (r2 X.K inD):=by
 intro pins s Z H v u vv uu Q I rv ru h;obtain⟨ρ,x,y,c,W,rx,ry,p⟩:=h;unfold inD at p;split at p
 ·rename_i a ys ha hb;split at p
  ·rename_i hd;obtain⟨⟨as,ra⟩,ca⟩:=j3 I W rx rv ha;obtain⟨⟨bs,rb⟩,cb⟩:=j3 I W ry ru hb;exact PySem.SeqAt.in_list_reads rb ra (by simpa[PyData.canLay0]using cb) ca (zF hu hd) ⟨.bl _,H,I,rfl,p.here W rfl⟩
  ·exact p.elim
 ·rename_i a ys ha hb;split at p
  ·rename_i hd;obtain⟨⟨as,ra⟩,ca⟩:=j3 I W rx rv ha;obtain⟨⟨bs,rb⟩,cb⟩:=j3 I W ry ru hb;exact PySem.SeqAt.in_tuple_reads rb ra (by simpa[PyData.canLay0]using cb) ca (zF hu hd) ⟨.bl _,H,I,rfl,p.here W rfl⟩
  ·exact p.elim
 ·exact p.elim
theorem Dw(hu:X.A.units+64<Q7):bL X (compareOp .NotIn) (r2 X.K iU):=by
 intro pins s Z H v u vv uu Q I rv ru h;obtain⟨ρ,x,y,c,W,rx,ry,p⟩:=h;unfold iU at p;split at p
 ·rename_i a ys ha hb;split at p
  ·rename_i hd;obtain⟨⟨as,ra⟩,ca⟩:=j3 I W rx rv ha;obtain⟨⟨bs,rb⟩,cb⟩:=j3 I W ry ru hb;exact PySem.SeqAt.notIn_list_reads rb ra (by simpa[PyData.canLay0]using cb) ca (zF hu hd) ⟨.bl _,H,I,rfl,p.here W rfl⟩
  ·exact p.elim
 ·rename_i a ys ha hb;split at p
  ·rename_i hd;obtain⟨⟨as,ra⟩,ca⟩:=j3 I W rx rv ha;obtain⟨⟨bs,rb⟩,cb⟩:=j3 I W ry ru hb;exact PySem.SeqAt.notIn_tuple_reads rb ra (by simpa[PyData.canLay0]using cb) ca (zF hu hd) ⟨.bl _,H,I,rfl,p.here W rfl⟩
  ·exact p.elim
 ·exact p.elim
end
theorem gG(hr:cu k A):A.units+64<Q7:=by have:=hr.un;omega
section
variable (c:aa)
@[simp] theorem agd:dM .aF=O .none:=by simp only[dM]
@[simp] theorem agf(b:Bool):dM (.bl b)=O (.bool b):=by simp only[dM]
@[simp] theorem age(i:Int):dM (.int i)=O (.int i):=by simp only[dM]
@[simp] theorem agc:f6 []=O []:=by simp only[f6]
end
end L2
namespace L2
open PySem PySem.Spec PyProof.Rows
section
variable {X:Cx}
theorem aaZ:∀(is:List Int),preSum (λi=>is.getD i 0) is.length=is.sum
 |is=>by
  have key:∀j,j<=is.length->preSum (λi=>is.getD i 0) j=(is.take j).sum:=by
   intro j
   induction j with
   |zero=>intro _;simp[preSum]
   |succ j ih =>
    intro hj;rw[preSum,ih ∅,To]
    have:is[j]? = O (is.getD j 0):=by
     rw[Iv,H8 ∅];rfl
    rw[this];simp
  rw[key is.length (x6 _),Rg]
theorem ag2{is:List Int}(h:Vals (is.map V.int) its)(i:Nat)(v:Δ)(hv:its.toArray[i]? = O v):∃t,v=.int (is.getD i 0) t:=by
 have hl:=h.length;rw[P0]at hl;have hi:i<is.length:=by
  have:=(Array.getElem?_eq_some_iff.mp hv).1;simp at this;omega
 obtain⟨u,e,r⟩:=h.get (i:=i) (x:=V.int is[i]) (by simp)
 rw[List.getElem?_toArray]at hv;rw[hv]at e;cases e;obtain⟨t,rfl⟩:=r;exact⟨t,by rw[Iv,H8 hi];rfl⟩
theorem adH(hc:X.calm=J):cK X (.builtin "sum") (λxs H Q=>∃(p:L) (is:List Int),xs=[.ref p]/\bw X.K H p (is.map V.int)/\Q (.int is.sum) H):=by
 intro pins s Z H xs us Q I r h;obtain⟨p,is,rfl,hp,q⟩:=h;obtain⟨u,rfl,ru⟩:=RO r;cases ru;obtain⟨its,rv,pl,hz⟩:=I.list hp;have hL:=pl.isList;have hl:=rv.length;rw[P0]at hl;refine call_sum_walkAnyS (Sf hL ⟨s.heap.objs.size,_,_,_,its.toArray.size,_,_,λi=>is.getD i 0,rfl,(TN (A:=X.A.in1) (I.ok.hd hc) s.heap.objs.size p (by obtain⟨o,e,_⟩:=hL;exact K1 (I8 e)) its.toArray).toS,⟨⟨_,Q4 _ rfl,rfl,rfl⟩,hL.push _⟩,λb hb=>?_,λi v hv=>ag2 rv i v hv,λs' t' hm=>?_⟩)
 ·obtain⟨o,e,_⟩:=hL
  rcases Bt.mp hb with rfl|hb
  ·exact I8 (Q4 _ rfl)
  ·obtain rfl:=RE.mp hb;exact I8 (J' _ e)
 ·obtain⟨h',g',d',tk',os'⟩:=s';have e1:=hm.gens;have e2:=hm.drawn;have e3:os'=s.os:=hm.os;subst e1 e2 e3;have I1:Inv X pins Z H {s with heap:=h',toks:=tk'}:=xC I λb o hb e=>hm.heap b o hb e
  refine⟨.int is.sum,H,I1,?_,q⟩;refine⟨t',?_⟩;rw[Q3,<-hl,aaZ]
end
def nL:List D->aa->R D:=λxs c=>match xs with
 |[.lst l]=>match g8 l with
  |some is=>.ok (.int is.sum) c
  |none=>.bad
 |_=>.bad
theorem adz{X:Cx}(hc:X.calm=J:=by rfl):cK X (.builtin "sum") (rN X.K nL):=by
 intro pins s Z H vs us Q I rv h;obtain⟨ρ,xs,c,W,rx,p⟩:=h;unfold nL at p;split at p
 ·split at p
  ·rename_i is hb;obtain⟨v,r,rfl,⟨a,ys,rfl,s1,r1⟩,hr⟩:=rx;cases hr;rw[oH hb]at r1;cases r1.oG;exact adH hc pins s Z H _ us Q I rv ⟨a,is,rfl,bw.of s1.1,p.here W rfl⟩
  ·exact p.elim
 ·exact p.elim
def xB:D->D->aa->R D:=λx y c=>match x,y with
 |.int i,.int j=>.ok (.int (Builtin.bitAnd i j)) c
 |_,_=>.bad
section
variable {X:Cx}
theorem alY:bL X (binaryOp .BitAnd) (r2 X.K xB):=by
 intro pins s Z H v u vv uu Q I rv ru h;obtain⟨ρ,x,y,c,W,rx,ry,p⟩:=h;unfold xB at p;split at p
 ·cases rx;cases ry;exact akT pins s Z H _ _ vv uu Q I rv ru ⟨_,_,rfl,rfl,p.here W rfl⟩
 ·exact p.elim
end
section
variable (c:aa)
@[simp] theorem sum_ints(l:List Int):nL [.lst (l.map D.int)] c=.ok (.int l.sum) c:=by
 unfold nL;simp[qq]
end
def A3:D->D->aa->R D:=λx y c=>match x,y with
 |.tup l,.tup m=>if l.length+m.length<=Ω then .ok (.tup (l++m)) c else .bad
 |_,_=>.bad
section
variable {X:Cx}
theorem akV:bL X (binaryOp .Add) (λx y H Q=>∃a b ys,x=.ref a/\y=.ref b/\bZ X.K H a []/\bZ X.K H b ys/\Q (.ref b) H):=by
 intro pins s Z H x y v u Q I rx ry h;obtain⟨a,b,ys,rfl,rfl,ha,hb,q⟩:=h;cases rx;cases ry;obtain⟨its,r1,p1,_⟩:=I.tuple ha;obtain⟨its2,r2,p2,_⟩:=I.tuple hb;cases r1;obtain⟨⟨cls,dd,data,sl⟩,ho,hc,n,hd⟩:=id p1;obtain⟨⟨adw,dd2,data2,sl2⟩,ho2,hc2,n2,hd2⟩:=id p2;subst hc hd hc2 hd2;exact WD ⟨_,ho,rfl⟩ ⟨_,ho2,rfl⟩ WC WB WA WT (WS _ _)
   (tuple_addW0 a b [].toArray its2.toArray n n2 dd dd2 sl sl2 rfl) ⟨ho,ho2,⟨.ref b,H,I,rfl,q⟩⟩
theorem alZ:bL X (binaryOp .Add) (r2 X.K A3):=by
 intro pins s Z H v u vv uu Q I rv ru h;obtain⟨ρ,x,y,c,W,rx,ry,p⟩:=h;unfold A3 at p;split at p
 ·rename_i l m;split at p
  ·rename_i hl;obtain⟨a,xs,rfl,sa,ra⟩:=rx;obtain⟨b,ys,rfl,sb,rb⟩:=ry
   by_cases hz:xs=[]
   ·subst hz;have:l=[]:=by have:=ra.length;exact VP.mp (by simpa using this.symm)
    subst this;exact akV pins s Z H _ _ vv uu Q I rv ru ⟨a,b,ys,rfl,rfl,bZ.of sa,bZ.of sb,p.here W ⟨b,ys,rfl,sb,rb⟩⟩
   ·refine LH pins s Z H _ _ vv uu Q I rv ru ⟨a,b,xs,ys,rfl,rfl,bZ.of sa,bZ.of sb,hz,by rw[ra.length,rb.length];exact hl,λz=>?_,λ_=>y9 W (ra.append rb) p⟩
    refine p.here W ⟨a,xs++ys,rfl,by rw[z,SI];exact sa,ra.append rb⟩
  ·exact p.elim
 ·exact p.elim
end
def mK:D->D->aa->R D:=λx y c=>match x,y with
 |.lst l,.int k=>if -(2^63)<=k/\k<2^63/\l.length*k.toNat<=Ω then .ok (.lst (ο k.toNat l).flatten) c else .bad
 |_,_=>.bad
theorem aL.rep{K:Ξ}{H:Hp}{xs:List V}(r:aL K ρ H l xs):∀n:Nat,aL K ρ H (ο n l).flatten (ο n xs).flatten
 |0=>rfl
 |n+1=>aL.append r (aL.rep r n)
theorem LW:bL X (binaryOp .Mult) (r2 X.K mK):=by
 intro pins s Z H v u vv uu Q I rv ru h;obtain⟨ρ,x,y,c,W,rx,ry,p⟩:=h;unfold mK at p;split at p
 ·split at p
  ·rename_i hl;obtain⟨a,xs,rfl,sa,ra⟩:=rx;cases ry;exact LG pins s Z H _ _ vv uu Q I rv ru ⟨a,_,xs,rfl,rfl,sa.1,hl.1,hl.2.1,by rw[ra.length];exact hl.2.2,qd W (aL.rep ra _) p⟩
  ·exact p.elim
 ·exact p.elim
section
variable (e:Ev) (c:aa) (l:aj)
@[simp] theorem Ic(m:List D)(k:Int):mK (.lst m) (.int k) c=if -(2^63)<=k/\k<2^63/\m.length*k.toNat<=Ω then .ok (.lst (ο k.toNat m).flatten) c else .bad:=rfl
end
def nR:D->D->aa->R D:=λx y c=>match x,y with
 |.lst l,.int k=>if -(2^63)<=k/\k<2^63/\l.length*k.toNat<=Ω/\bF l=J then .ok (.ref c.length) (c++[.lst (ο k.toNat l).flatten])else .bad
 |_,_=>.bad
theorem Mf(h:bF l=J):∀n:Nat,bF (ο n l).flatten=J
 |0=>by simp
 |n+1=>by rw[TV,Te,u9,h,Mf h n];rfl
theorem LV:bL X (binaryOp .Mult) (r2 X.K nR):=by
 intro pins s Z H v u vv uu Q I rv ru h;obtain⟨ρ,x,y,c,W,rx,ry,p⟩:=h;unfold nR at p;split at p
 ·split at p
  ·rename_i hl;obtain⟨a,xs,rfl,sa,ra⟩:=rx;cases ry;exact LG pins s Z H _ _ vv uu Q I rv ru ⟨a,_,xs,rfl,rfl,sa.1,hl.1,hl.2.1,by rw[ra.length];exact hl.2.2.1,DF W (Mf hl.2.2.2 _) (aL.rep ra _) p⟩
  ·exact p.elim
 ·exact p.elim
def gR(o a:af):af:=λe c=>(o e c).bind λx c=>match x with
 |.ref k=>(a e c).bind λy c=>match y with
  |.lst m=>match c[k]? with
   |some (.lst l)=>if l.length+m.length<=Ω/\bF m=J then .ok .aF (c.set k (.lst (l++m)))else .bad
   |none=>.bad
  |_=>.bad
 |_=>.bad
theorem p8{apos:Pos}(ho:aX X o dO)(ha:aX X e da)(hbase:VJ o "extend" X.env (eval o X.env)=eval o X.env:=by rfl)(hfew:((Q6 cpos (ε [e] X.env)).all (λx=>!x.1)&&(Sw cpos (Sy [] X.env)).all (λx=>x.1.isSome)
   && decide ([e].length+([]:List S3).length+(if([]:List S3).isEmpty then 0 else 1)<30))=J:=by exact Jr rfl)(hline:(apos.endLine==cpos.line)=J:=by rfl)(hs:ε [e] X.env=(ξ,eval e X.env)::ε [] X.env:=by exact cR rfl)(hplain:(Q6 cpos (ε [] X.env)).any (·.1)=ξ:=by exact gb rfl):
  aX X (.Call (.Attribute o "extend" apos) [e] [] cpos) (gR dO da) :=
 (Dg W7 PySem.F.slot_list_extend PySem.F.type_list_extend YS ho (iS ha jv hs) hbase hfew hline hs hplain).imp λZ H Q h=>by
  obtain⟨ρ,e,c,W,V,p⟩:=h;refine⟨ρ,e,c,W,V,post.bind p λx c1 aK H1 v _ W1 X1 r1 p1=>?_⟩
  cases x with
  |ref k =>
   obtain⟨a,rfl,ha⟩:=r1;obtain⟨xs,hx⟩:=W1.at' (R7 ha);refine⟨.inl ⟨rfl,xs,bw.of hx⟩,aK,e,c1,W1,V.mono W X1,post.bind p1 λy c2 cX H2 u _ W2 X2 r2 p2=>?_⟩
   cases y with
   |lst m =>
    obtain⟨b,zs,rfl,sb,rb⟩:=r2;dsimp only at p2;split at p2
    ·rename_i l hl;split at p2
     ·rename_i hh;obtain⟨nr,ys,hy,rl⟩:=W2.fP k a _ (X2.pre k a ha) hl;refine⟨a,b,ys,zs,rfl,rfl,hy,sb.1,by rw[rl.length,rb.length];exact hh.1,?_⟩
      refine p2 cX _ .aF (W2.write (X2.pre k a ha) (by rw[u9,nr,hh.2];rfl) (rl.append rb)) (Ext.write (X2.pre k a ha)) rfl
     ·exact p2.elim
    ·exact p2.elim
   |_=>exact p2.elim
  |_=>exact p1.elim
section
variable (e:Ev) (c:aa) (o a:af)
@[simp] theorem ahh(m:List D)(k:Int):nR (.lst m) (.int k) c=if -(2^63)<=k/\k<2^63/\m.length*k.toNat<=Ω/\bF m=J then .ok (.ref c.length) (c++[.lst (ο k.toNat m).flatten])else .bad:=rfl
end
theorem zT{α:Type}{st:aa->Prop}(C:Nat->aa)(E:Nat->α->Ev):∀(items:List D) (k:Nat) (v:α),(∀i,i<=items.length->st (C (k+i))) ->
  (∀i x,items[i]? = O x->∀v,∃e',g x (E (k+i) v) (C (k+i))=.ok e' (C (k+i))/\∃v',s e' (C (k+i))=.ok (.nx (E (k+i+1) v')) (C (k+i+1))) ->
  ∃v',bU st g s items (E k v) (C k)=.ok (.nx (E (k+items.length) v')) (C (k+items.length))
 |[],k,v,hst,_=>⟨v,by
   have:=hst 0 (x6 _);rw[UT]at this;unfold bU;rw[if_pos this];rfl⟩
 |x::xs,k,v,hst,h=>by
  obtain⟨e',h1,v',h2⟩:=h 0 x rfl v;obtain⟨v2,h3⟩:=zT C E xs (k+1) v' (λi hi=>by
   have:=hst (i+1) (by simp only[RG];omega)
   rwa[show k+(i+1)=k+1+i by omega]at this) (λi y hy v=>by
   have:=h (i+1) y (by simpa using hy) v
   rwa[show k+(i+1)=k+1+i by omega]at this)
  refine⟨v2,?_⟩;unfold bU;rw[if_pos (by have:=hst 0 (RM _);exact this)]
  rw[UT]at h1 h2;rw[h1,R.aN,h2];simp only[R.aN];rw[h3,RG,show k+(xs.length+1)=k+1+xs.length by omega]
theorem OX{α:Type}(C:Nat->aa)(E:Nat->α->Ev){N:Int}{n:Nat}(hN:N=n)(v:α)(h:∀i,i<n->∀v,∃e',g (.int (i:Nat)) (E i v) (C i)=.ok e' (C i)/\∃v',s e' (C i)=.ok (.nx (E (i+1) v')) (C (i+1))):
  ∃v',bU (λ_=>True) g s (aV 0 N) (E 0 v) (C 0)=.ok (.nx (E n v')) (C n):=by
 have hl:(aV 0 N).length=n:=by rw[jt];omega
 have:=zT (st:=λ_=>True) C E (aV 0 N) 0 v (λ_ _=>trivial) (λi x hx v=>by
  obtain⟨h1,rfl⟩:=nO hx;rw[R6,Int.zero_add];exact h i ∅ v)
 rwa[hl,R6]at this
abbrev nV(ns:List Nat):List V:=ns.map λn:Nat=>V.int n
abbrev nD(ns:List Nat):List D:=ns.map λn:Nat=>D.int n
def rL(w:τ)(a:L)(ns:List Nat):υ->Prop:=λh=>dH w h a (fZ ns)
theorem Cy:∀{ns:List Nat}{us:List Δ},Vals (nV ns) us->S4 us (ns.map λn:Nat=>(n:Int))
 |[],_,.nil=>.nil
 |n::ns,_,.cons ⟨t,e⟩ r=>by subst e;exact .cons _ _ (Cy r)
section
variable {X:Cx}
def ajz(X:Cx):List V->Hp->VK->Prop:=λxs H Q=>∃a ns,xs=[.ref a]/\bw X.K H a (nV ns)/\(fh ns).length<64/\(∀x∈ns,x<128)/\∀p,H p=U->Q (.ref p) (upd H p (.ext (rL X.w p ns)))
theorem ac3(hc:X.calm=J:=by rfl):cK X (.type "set") (ajz X):=by
 intro pins s Z H xs us Q I rv h;obtain⟨a,ns,rfl,sq,hb,hx,q⟩:=h;obtain⟨u,rfl,ru⟩:=RO rv;cases ru;obtain⟨its,ri,pl,hz⟩:=I.list sq;refine aib (xs:=ns) (I.ok.hd hc) pl.isList (by simpa using Cy ri) hx (by rw[<-yo];exact hb) λh' tk hS kp=>?_
 have jC:=hS;obtain⟨o,es,ep,t,ho,_⟩:=jC;refine⟨.ref s.heap.objs.size,upd H s.heap.objs.size _,I.laid (t':=tk) (λb u e=>kp b u (I8 e) e) (x6 _) ?_,rfl,q _ (I.hok.fresh (x6 _))⟩
 exact⟨hS,⟨o,ho⟩,λh1 h2 x k=>x.at k⟩
def sA(l:List D):Option (List Nat):=match g8 l with
 |some ns=>if ns.all (λn=>decide (0<=n/\n<128))=J/\(fh (ns.map Int.toNat)).length<64 then O (ns.map Int.toNat)else U
 |none=>U
theorem My{ns:List Nat}(h:sA l=O ns):l=nD ns/\(fh ns).length<64/\∀x∈ns,x<128:=by
 unfold sA at h;split at h
 ·rename_i zs hz;split at h
  ·rename_i hc;cases h;refine⟨?_,hc.2,λx hx=>?_⟩
   ·rw[oH hz];unfold nD;rw[R3];refine RV λz hq=>?_
    have:=of_decide_eq_true (RW.mp hc.1 z hq)
    congr 1;omega
   ·obtain⟨z,hq,rfl⟩:=AP.mp hx;have:=of_decide_eq_true (RW.mp hc.1 z hq);omega
  ·cases h
 ·cases h
theorem Mz{ns:List Nat}(h:(fh ns).length<64)(hx:∀x∈ns,x<128):sA (nD ns)=O ns:=by
 unfold sA;have e:nD ns=(ns.map λn:Nat=>(n:Int)).map D.int:=by simp[nD]
 rw[e,qq];dsimp only;have e:(ns.map λn:Nat=>(n:Int)).map Int.toNat=ns:=by
  rw[R3];have:(Int.toNat ∘ λn:Nat=>(n:Int))=id:=by funext n;simp
  rw[this,List.map_id]
 rw[e,if_pos ⟨RW.mpr λz hz=>by
  obtain⟨n,hn,rfl⟩:=AP.mp hz;have:=hx n hn;exact decide_eq_true ∅,h⟩]
theorem KU{K:Ξ}{H:Hp}{ns:List Nat}{xs:List V}(h:aL K ρ H (nD ns) xs):xs=nV ns:=by
 have e:nD ns=(ns.map λn:Nat=>(n:Int)).map D.int:=by simp[nD]
 rw[e]at h;rw[aL.oG h];simp[nV]
theorem j7(ns:List Nat):bF (nD ns)=J:=by
 have e:nD ns=(ns.map λn:Nat=>(n:Int)).map D.int:=by simp[nD]
 rw[e];exact Yn
end
section
variable {prog:ν}{w:τ}{A:χ}{E:Δ->Ψ->Prop}{s:Ψ}
theorem ais{ns:List Nat}{Q:Option Nat->Ψ->Prop}(hm:m<128)(hS:dH w s.heap a ns)(hn:ns.length<64)(h:∀r:Option Nat,r.isSome=decide (m∈ns)->Q r s):wpAny (model prog w) A (setFind a (.int m tk) (m:Int)) Q E s:=by
 obtain⟨o,es,ep,t,ho,hex,hd,hI,hl,hs⟩:=hS;have hsz:es.size=ns.length:=by rw[<-R8];exact hs.len
 have hkey:(intKind prog w).is (m:Int) (.int m tk)=J:=by simp[intKind,Value.isInt]
 have:=wpAny_setFind_of (A:=A) (E:=E) (Q:=Q) hkey rfl (⟨o,es,ep,t,ho,hex,hd,hs.els,λk=>by rw[U3],by unfold scanBound;omega,hI.fits,rfl⟩) λr hr=>h r (by
  rw[hr,S5,U3,decide_eq_true_eq,hs.mem m]
  constructor
  ·rintro ⟨e,he,q⟩
   obtain⟨n,tk',rfl,_⟩:=hs.2 e he;obtain⟨t',q⟩:=TZ (show Value.isInt (m:Int) (.int (n:Int) tk')=J from q)
   exact⟨_,he,by injection q⟩
  ·rintro ⟨e,he,q⟩
   obtain⟨n,tk',rfl,_⟩:=hs.2 e he;have e:n=m:=by dsimp only at q;omega
   subst e;exact⟨_,he,by simp[intKind,Value.isInt]⟩)
 have e:(intKind prog w).hash (m:Int)=(m:Int):=zL hm
 rwa[e]at this
theorem agW{others:List L}{Q:Array (Int×Δ)->Ψ->Prop}(hS:iK w s.heap a es ep t)(h:Q (iT w a ep es) s):wpAny (model prog w) A (setWalkUnseen a others (O r)) Q E s:=by
 obtain⟨o,ho,hex,hd,hI,hl⟩:=hS;have key:wpAny (model prog w) A (setWalk a) Q E s:=by
  refine Rc (Rw ho hd hI.fits ?_);refine Rc ?_;refine Rc (SY (ZA ?_));show wpAny _ _ (if fc w=J then _ else _) _ _ _
  unfold iT at h;cases hb:fc w with
  |true =>
   rw[hb]at h;exact Rc (SY (ZA h))
  |false =>
   rw[hb]at h hl;show wpAny _ _ (if(!t.plain&&decide (es.size>1))=J then _ else _) _ _ _
   rw[hI.plain];refine Rc (TQ (a:=()) ?_ (ZA h));show(if _=J then _ else _)=_
   rw[hl];rfl
 refine Rc (Rw ho hd hI.fits ?_);dsimp only;refine Rc ?_;refine Rc (SY (ZA ?_));show wpAny _ _ (if(fc w||(t.led&&t.plain)||decide (es.size<=1))=J then _ else _) _ _ _
 rw[if_pos (by rw[hl,hI.plain];cases fc w<;>simp)]
 first|exact key|exact Rc key
theorem zd:∀{l m:List Nat},l.Nodup->(∀x∈l,x∈m)->l.length<=m.length
 |[],m,_,_=>RM _
 |x::l,m,h,hs=>by
  obtain⟨h1,h2⟩:=S0.mp h;have hx:=hs x (.head _);have:=zd h2 λy hy=>(Ug (λe:y=x=>h1 (by rw[<-e];exact hy))).mpr (hs y (.tail _ hy))
  rw[Ue hx]at this;have:=Vk hx;rw[RG];omega
theorem aea{asked walked:L}{ns:List Nat}{Q:Unit->Ψ->Prop}(id:String)(hra:asked≠r)(hrw:walked≠r)(ha:dH w s.heap asked ns)(hw:iK w s.heap walked es ep t)(hs:iJ es.toList ms)(hr:dH w s.heap r [])(hn:ns.length<64)(h:∀(h':υ) (rs:List Nat),dH w h' r rs->rs.Nodup->(∀x,x∈rs↔x∈ns/\x∈ms)->(∀b o,b≠r->s.heap.get? b=O o->h'.get? b=O o)->Q () {s with heap:=h'}):
  wpAny (model prog w) A (forIn (iT w walked ep es) PUnit.unit fun(p:Int×Δ) (_:PUnit)=>do
   holding [p.2] (do if(<-setFind asked p.2 p.1).isSome=J then(do let _ <-setAddHashed r p.2 p.1;pure PUnit.unit)else pure PUnit.unit)
   Builtin.Frozenset.unchanged id walked ep
   pure (ForInStep.yield PUnit.unit)) Q E s:=by
 have hp:=u5 w walked ep es;refine PySem.MeetsSeq2.wpAny_forIn_array _ (λrest _ s'=>∃(h':υ) (rs:List Nat) (done:List (Int×Δ)),s'={s with heap:=h'}/\(iT w walked ep es).toList=done++rest/\dH w h' r rs/\rs.Nodup/\(∀x:Nat,x∈rs↔x∈ns/\∃e∈done,e.1=(x:Int))/\(∀b o,b≠r->s.heap.get? b=O o->h'.get? b=O o)) _ ?_ ?_ _ _
  ⟨s.heap,[],[],rfl,rfl,hr,.nil,λx=>by simp,λ_ _ _ e=>e⟩
 ·rintro ⟨hx,x⟩ rest u s' ⟨h',rs,done,rfl,hl,hR,hnd,hmem,hk⟩
  have hin:(hx,x)∈es.toList:=hp.mem_iff.mp (by rw[hl];simp)
  obtain⟨n,tk,e,EH⟩:=hs.2 _ hin;cases e;have ha':dH w h' asked ns:=ha.at λo e=>hk asked o hra e
  have gQ:=hw.at λo e=>hk walked o hrw e
  have hrl:rs.length<64:=UD (zd hnd λx hx=>((hmem x).mp hx).1) hn
  have tail:∀Q' (h2:υ),(∀b o,b≠r->s.heap.get? b=O o->h2.get? b=O o)->Q' (.yield PUnit.unit) {s with heap:=h2} ->
    wpAny (model prog w) A (Builtin.Frozenset.unchanged id walked ep >>= λ_=>pure (ForInStep.yield PUnit.unit)) Q' E {s with heap:=h2}:=by
   intro Q' h2 q4 q;obtain⟨o,ho,_,hd,hI,_⟩:=hw.at λo e=>q4 walked o hrw e
   unfold Builtin.Frozenset.unchanged;refine Rc (Rc (VO ho hd hI.fits ?_));rw[if_neg (by simp)]
   exact ZA (ZA q)
  dsimp only;refine Rc (RU (Rc (ais (s:={s with heap:=h'}) EH ha' hn λres hres=>?_)))
  by_cases hq:n∈ns
  ·have EB:res.isSome=J:=by rw[hres];exact decide_eq_true hq
   rw[if_pos EB];have key:=JE (prog:=prog) (A:=A) (E:=E) (s:={s with heap:=h'}) (tk:=tk) (Q:=λ_ s'=>∃h2,s'={s with heap:=h2}/\dH w h2 r (gw rs n)/\∀b o,b≠r->s.heap.get? b=O o->h2.get? b=O o) EH hR hrl
    λbb h2 gk jC=>⟨h2,rfl,jC,λb o hb e=>by rw[gk.2 b hb];exact hk b o hb e⟩
   rw[(zL EH)]at key;refine Rc (RQ key (λbb s2 q=>?_) λ_ _ q=>q)
   obtain⟨h2,rfl,jC,hk2⟩:=q;refine ZA (tail _ h2 hk2 ⟨h2,gw rs n,done++[((n:Int),Value.int n tk)],rfl,by rw[hl];simp,jC,Mn hnd,λx=>?_,hk2⟩)
   rw[MF,hmem x]
   constructor
   ·rintro (⟨a1,e,he,q⟩|rfl)
    ·exact⟨a1,e,by simp[he],q⟩
    ·exact⟨hq,((x:Int),Value.int x tk),by simp,rfl⟩
   ·rintro ⟨a1,e,he,q⟩
    rcases RI.mp he with he|he
    ·exact .inl ⟨a1,e,he,q⟩
    ·rw[RE]at he;subst he
     right
     dsimp only at q;omega
  ·have EB:¬(res.isSome=J):=by rw[hres];simpa using hq
   rw[if_neg EB];refine ZA (tail _ h' hk ⟨h',rs,done++[((n:Int),Value.int n tk)],rfl,by rw[hl];simp,hR,hnd,λx=>?_,hk⟩)
   rw[hmem x]
   constructor
   ·rintro ⟨a1,e,he,q⟩
    exact⟨a1,e,by simp[he],q⟩
   ·rintro ⟨a1,e,he,q⟩
    rcases RI.mp he with he|he
    ·exact⟨a1,e,he,q⟩
    ·rw[RE]at he;subst he;have e2:x=n:=by dsimp only at q;omega
     exact absurd (e2▸a1) hq
 ·rintro u s' ⟨h',rs,done,rfl,hl,hR,hnd,hmem,hk⟩
  rw[SI]at hl;refine h h' rs hR hnd (λx=>?_) hk
  rw[hmem x,hs.mem x,<-hl]
  constructor
  ·rintro ⟨a1,e,he,q⟩;exact⟨a1,e,hp.mem_iff.mp he,q⟩
  ·rintro ⟨a1,e,he,q⟩;exact⟨a1,e,hp.mem_iff.mpr he,q⟩
theorem aeb(id:String){ns:List Nat}{Q:Δ->Ψ->Prop}(hne:(Value.ref b==Value.ref a)=ξ)(ha:dH w s.heap a ns)(hb:dH w s.heap b ms)(hn:ns.length<64)(hm:ms.length<64)(hnd:ns.Nodup)(hmd:ms.Nodup)(h:∀(h':υ) (rs:List Nat),dH w h' s.heap.objs.size rs->rs.Nodup->(∀x,x∈rs↔x∈ns/\x∈ms)->(∀b o,s.heap.get? b=O o->h'.get? b=O o)->Q (.ref s.heap.objs.size) {s with heap:=h'}):
  wpAny (model prog w) A (Builtin.Frozenset.intersection id a (.ref b)) Q E s:=by
 unfold Builtin.Frozenset.intersection;rw[if_neg (by rw[hne];exact RH)]
 refine Rc ?_;unfold Builtin.Frozenset.baseOf;refine Rc (SX (by obtain⟨o,_,_,_,ho,hx,_⟩:=ha;exact⟨o,ho,hx.1⟩) UQ (ZA ?_))
 simp only[if_true];refine Rc ?_;unfold newSet setsByText;refine Rc (Rc (SY (ZA ?_)));dsimp only;simp only[newObj];refine Rc (wpAny_alloc (ZA ?_));refine Rc (ZA ?_);have abh:VI {s with heap:=s.heap.push (cF w)} (.ref b) "set":=by obtain⟨o,_,_,_,ho,hx,_⟩:=hb;exact⟨o,J' _ ho,hx.1⟩
 refine Rc (RU (Rc ?_));unfold Builtin.Frozenset.isAnySet;refine Rc (SX (T:="set") (b:=J) abh UQ ?_);refine ZA ?_;rw[if_pos rfl];refine Rc (ZA ?_);have ha1:dH w (s.heap.push (cF w)) a ns:=ha.at λo e=>J' _ e
 have hb1:dH w (s.heap.push (cF w)) b ms:=hb.at λo e=>J' _ e
 have Oo:a≠s.heap.objs.size:=by obtain⟨o,_,_,_,ho,_⟩:=ha;exact K1 (I8 ho)
 have Om:b≠s.heap.objs.size:=by obtain⟨o,_,_,_,ho,_⟩:=hb;exact K1 (I8 ho)
 have go:∀(asked walked:L) (ns' ms':List Nat),asked≠s.heap.objs.size->walked≠s.heap.objs.size->dH w (s.heap.push (cF w)) asked ns'->dH w (s.heap.push (cF w)) walked ms'->ns'.length<64->(∀x,(x∈ns'/\x∈ms')↔(x∈ns/\x∈ms)) ->
   wpAny (model prog w) A (do
    let was <-setEpoch walked
    let arr <-setWalkUnseen walked [asked,s.heap.objs.size] (O s.heap.objs.size)
    forIn arr PUnit.unit fun(p:Int×Δ) (_:PUnit)=>do
     holding [p.2] (do if(<-setFind asked p.2 p.1).isSome=J then(do let _ <-setAddHashed s.heap.objs.size p.2 p.1;pure PUnit.unit)else pure PUnit.unit)
     Builtin.Frozenset.unchanged id walked was
     pure (ForInStep.yield PUnit.unit)
    pure ()) (λ_ s'=>wpAny (model prog w) A (pure (Value.ref s.heap.objs.size)) Q E s') E {s with heap:=s.heap.push (cF w)}:=by
  intro asked walked ns' ms' n1 n2 h1 h2 hl hmm;obtain⟨o,es,ep,t,ho,hex,hd,hI,lS,hs⟩:=h2;refine Rc (VO ho hd hI.fits ?_);refine Rc (agW (es:=es) (ep:=ep) (t:=t) ⟨o,ho,hex,hd,hI,lS⟩ ?_);refine Rc (aea id n1 n2 h1 ⟨o,ho,hex,hd,hI,lS⟩ hs (FI w (Q4 _ rfl)) hl λh' rs q1 q2 q3 q4=>?_)
  refine ZA (ZA (h h' rs q1 q2 (λx=>(q3 x).trans (hmm x)) λb' o' e=>q4 b' o' (K1 (I8 e)) (J' _ e)))
 obtain⟨oa,esa,epa,ta,hoa,_,hda,hIa,_,_⟩:=_root_.id ha1;obtain⟨ob,esb,epb,tb,hob,_,hdb,hIb,_,_⟩:=_root_.id hb1;unfold Builtin.Frozenset.sizeOf;refine Rc (Rc (UP hob hdb hIb.fits (ZA ?_)));refine Rc (Rc (UP hoa hda hIa.fits (ZA ?_)))
 by_cases hsz:esb.size>esa.size
 ·simp only[if_pos hsz];exact go b a ms ns Om Oo hb1 ha1 hm λx=>⟨fun⟨u,v⟩=>⟨v,u⟩,fun⟨u,v⟩=>⟨v,u⟩⟩
 ·simp only[if_neg hsz];exact go a b ns ms Oo Om ha1 hb1 hn λx=>Iff.rfl
theorem aiz:entryFor table "set.__and__"=O Builtin.«frozenset.__and__» :=
 VR (id':="frozenset.__and__") (by kernel_rfl) rfl (by decide +kernel) (by kernel_rfl)
theorem QG{Q:Bool->Ψ->Prop}(hT:s.TypeIs v "set")(h:Q J s):wpAny (model prog w) A (Builtin.Frozenset.isAnySet v) Q E s:=by
 exact Rc (SX (b:=J) hT UQ (ZA h))
theorem air{ns:List Nat}{Q:Δ->Ψ->Prop}(hab:a≠b)(ha:dH w s.heap a ns)(hb:dH w s.heap b ms)(hn:ns.length<64)(hm:ms.length<64)(hnd:ns.Nodup)(hmd:ms.Nodup)(h:∀(h':υ) (rs:List Nat),dH w h' s.heap.objs.size rs->rs.Nodup->(∀x,x∈rs↔x∈ns/\x∈ms)->(∀b o,s.heap.get? b=O o->h'.get? b=O o)->Q (.ref s.heap.objs.size) {s with heap:=h'}):
  wpAny (model prog w) A (binaryOp .BitAnd (.ref a) (.ref b)) Q E s:=by
 have hTa:s.TypeIs (.ref a) "set":=by obtain⟨o,_,_,_,ho,hx,_⟩:=ha;exact⟨o,ho,hx.1⟩
 have hTb:s.TypeIs (.ref b) "set":=by obtain⟨o,_,_,_,ho,hx,_⟩:=hb;exact⟨o,ho,hx.1⟩
 refine wpAny_binaryOp_same hTa hTb PySem.F.fills_set_and XZ (Rz XZ hTa aiz ?_ (PySem.F.args_set_and_2 _ _));unfold Builtin.«frozenset.__and__»;show wpAny _ _ (Builtin.Frozenset.slot1 "__and__" ⟨[.ref a,.ref b],[]⟩ >>= _) _ _ _;refine Rc (Rc (ZA (ZA ?_)));dsimp only;simp only[Ra,if_false];refine Rc (Rc (QG hTa ?_));refine QG hTb ?_;simp only[Bool.not_true,Ra,if_false];refine Rc (ZA ?_);refine Rc (aeb _ (by simpa using Rr hab) ha hb hn hm hnd hmd λh' rs q1 q2 q3 q4=>?_)
 exact ZA ⟨_,rfl,(λe=>by cases e),h h' rs q1 q2 q3 q4⟩
end
theorem sub_tuple_set:isSubtype (.type "tuple") (.type "set")=pure ξ:=by rw[V9];kernel_rfl
theorem sub_tuple_frozenset:isSubtype (.type "tuple") (.type "frozenset")=pure ξ:=by rw[V9];kernel_rfl
section
variable {prog:ν}{w:τ}{A:χ}{s:Ψ}{E:Δ->Ψ->Prop}
set_option maxHeartbeats 3200000 in
theorem aid{l:L}{items:Array Δ}{xs:List Nat}{Q:Δ->Ψ->Prop}(hh:A.handled=U)(hl:s.heap.IsTuple l items)(hi:S4 items.toList (xs.map λn:Nat=>(n:Int)))(hx:∀x∈xs,x<128)(h64:(fZ xs).length<64)
  (h:∀(h':υ) (tk:Nat),dH w h' s.heap.objs.size (fZ xs)->(∀b o,b<s.heap.objs.size->s.heap.get? b=O o->h'.get? b=O o)->Q (.ref s.heap.objs.size) {s with heap:=h',toks:=tk}) :
  wpAny (model prog w) A (call (.type "set") [.ref l]) Q E s:=by
 obtain⟨c,tl,N9⟩:=RD.mro;have hmade:=RD.made;have hsub:=RD.sub;refine TX (VF (show wpAny _ _ (callAny (.type "set") _) _ _ _ from ?_))
 refine ZA ⟨Vd _ (by decide +kernel),S7 Vc ?_⟩
 rw[Vb (Va "set" [.ref l] []) rfl];have h1:=RD.notType;have h2:=RD.canCreate;have hct:=VZ (.ref l)
 repeat any_goals (first|assumption|wp_step)
 refine S1 (CO (.ref l) (E:=E) (Q₁:=λobj s₁=>obj=.ref s.heap.objs.size/\s₁={s with heap:=s.heap.push (cF w)}) ⟨rfl,rfl⟩) λr s₁ hr=>?_
 cases r with
 |error e=>exact hr
 |ok fl =>
  cases fl with
  |ret obj =>
   obtain⟨rfl,rfl⟩:=hr;have hS:(s.heap.push (cF w)).get? s.heap.objs.size=O (cF w):=Q4 _ rfl;have hT:VI {s with heap:=s.heap.push (cF w)} (.ref s.heap.objs.size) "set":=⟨_,hS,rfl⟩
   have hli:=RD.init.lookup;have hbi:=RD.init.bind (.ref s.heap.objs.size)
   repeat any_goals (first|assumption|wp_step)
   refine S1 (VY (R:=wants (λr s₂=>r=.none/\∃h' tk,s₂={s with heap:=h',toks:=tk}/\dH w h' s.heap.objs.size (fZ xs) /\
     (∀b o,b<s.heap.objs.size->s.heap.get? b=O o->h'.get? b=O o)) E) RD.init.plain VX (VW hT ?_)) λr₂ s₂ kT=>?_
   ·obtain⟨ol,ia,hcl,nl,hdl⟩:=hl;obtain⟨LZ,u7,LU,uZ⟩:=ol;simp only at hcl hdl;subst hcl;subst hdl;have oO:(s.heap.push (cF w)).get? l=O {cls:=.type "tuple",dict:=u7,data:=.seq items nl,slots:=uZ}:=J' _ ia;have NY:=sub_tuple_set;have NZ:=sub_tuple_frozenset;have hne:(Value.type "tuple"==Value.type "dict")=ξ:=⋯
    have hl1:(s.heap.push (cF w)).IsTuple l items:=⟨_,oO,rfl,nl,rfl⟩;unfold cF at hS hT oO ⊢;unfold Builtin.«set.__init__» noKeywords Builtin.Frozenset.updateFrom
    generalize wc:pyIter=PI
    wp_walk
    subst wc;refine UJ hl1 (Rc (VU ?_));have hlS:l<s.heap.objs.size:=I8 ia;have hlen:items.size=xs.length:=by have:=hi.length;simpa using this
    have vS:l≠(s.heap.push (cF w)).objs.size:=by rw[RL];exact K1 (Rp hlS)
    have hSf:s.heap.objs.size∉[(s.heap.push (cF w)).objs.size,l]:=by
     rw[RL];simp only[Bt,RZ,or_false,not_or];exact⟨K1 (Rt _),Rn hlS⟩
    have W:=(Walks.tuple (prog:=prog) (w:=w) (A:=A.in1.in1.in1) (by simp[hh]) (s.heap.push (cF w)).objs.size l vS items).toS
    rw[hlen]at W;refine JD (xs:=xs) W s.heap.objs.size hSf (λi v hi' hv=>?_) hx h64 xs.length 0 _ ∅ (RM _) ⟨⟨_,Q4 _ rfl,rfl,rfl⟩,hl1.at λo e=>J' _ e⟩ (FI w (J' _ hS)) λs' hm hS'=>?_
    ·obtain⟨t,e⟩:=IntsAre.int_at hi i v (by rw[Rj];exact hv)
     exact⟨t,by rw[e];simp[Iv,H8 hi']⟩
    ·obtain⟨h',g',d',tk',os'⟩:=s';cases(show g'=s.gens from hm.gens)
     cases(show d'=s.drawn from hm.drawn)
     cases(show os'=s.os from hm.os)
     refine ZA (ZA ⟨rfl,h',tk',rfl,hS',λb o hb e=>?_⟩)
     exact hm.heap b o (by rw[RL];simp only[Bt,RZ,or_false,not_or];exact⟨K1 hb,K1 (Rp hb)⟩) (J' _ (J' _ e))
   ·cases r₂ with
    |error e=>exact kT
    |ok wj =>
     cases wj with
     |ret r =>
      obtain⟨rfl,h',tk,rfl,hS',hk'⟩:=kT
      repeat any_goals (first|assumption|wp_step)
      exact h _ _ hS' hk'
     |_=>exact kT.elim
  |_=>exact hr.elim
end
def CP(w:τ)(a:L)(rs:List Nat):υ->Prop:=λh=>dH w h a rs
def pA(ns ms:List Nat):Nat:=((fh ns).filter λx=>decide (x∈ms)).length
theorem Qo{ns rs:List Nat}(hn:rs.Nodup)(h:∀x,x∈rs↔x∈ns/\x∈ms):rs.length=pA ns ms:=by
 have hp:rs.Perm ((fh ns).filter λx=>decide (x∈ms)):=by
  refine(Tr hn ((zc (rC ns)).filter _)).mpr λx=>?_
  rw[h x,R0,sD,decide_eq_true_eq]
 exact hp.length_eq
section
variable {X:Cx}
def ajx(X:Cx):List V->Hp->VK->Prop:=λxs H Q=>∃a ns,xs=[.ref a]/\(bw X.K H a (nV ns)\/bZ X.K H a (nV ns))/\(fh ns).length<64/\(∀x∈ns,x<128)/\∀p,H p=U->Q (.ref p) (upd H p (.ext (rL X.w p ns)))
theorem FP(hc:X.calm=J:=by rfl):cK X (.type "set") (ajx X):=by
 intro pins s Z H xs us Q I rv h;obtain⟨a,ns,rfl,sq,hb,hx,q⟩:=h
 rcases sq with sq|sq
 ·exact ac3 hc pins s Z H _ us Q I rv ⟨a,ns,rfl,sq,hb,hx,q⟩
 ·obtain⟨u,rfl,ru⟩:=RO rv;cases ru;obtain⟨its,ri,pl,hz⟩:=I.tuple sq;refine aid (xs:=ns) (I.ok.hd hc) (show s.heap.IsTuple a its.toArray from pl) (by simpa using Cy ri) hx (by rw[<-yo];exact hb) λh' tk hS kp=>?_
  have jC:=hS;obtain⟨o,es,ep,t,ho,_⟩:=jC;refine⟨.ref s.heap.objs.size,upd H s.heap.objs.size _,I.laid (t':=tk) (λb u e=>kp b u (I8 e) e) (x6 _) ?_,rfl,q _ (I.hok.fresh (x6 _))⟩
  exact⟨hS,⟨o,ho⟩,λh1 h2 x k=>x.at k⟩
def akh(X:Cx):R2:=λx y H Q=>∃a b ns ms,x=.ref a/\y=.ref b/\a≠b/\H a=O (.ext (rL X.w a ns))/\H b=O (.ext (rL X.w b ms))/\(fh ns).length<64/\(fh ms).length<64 /\
 ∀p rs,H p=U->rs.length=pA ns ms->rs.length<64->Q (.ref p) (upd H p (.ext (CP X.w p rs)))
theorem akU:bL X (binaryOp .BitAnd) (akh X):=by
 intro pins s Z H x y v u Q I rx ry h;obtain⟨a,b,ns,ms,rfl,rfl,hab,ha,hb,h1,h2,q⟩:=h;cases rx;cases ry;obtain⟨hA,_,_⟩:=I.hok a _ ha;obtain⟨hB,_,_⟩:=I.hok b _ hb;rw[yo]at h1 h2;refine air hab hA hB h1 h2 (zf .nil) (zf .nil) λh' rs q1 q2 q3 q4=>?_
 have hmem:∀x,x∈rs↔x∈ns/\x∈ms:=λx=>by
  rw[q3 x];unfold fZ;rw[zm,zm];simp
 have akR:=q1;obtain⟨o,es,ep,t,ho,_⟩:=akR;refine⟨.ref s.heap.objs.size,upd H s.heap.objs.size (.ext (CP X.w s.heap.objs.size rs)),I.laid (t':=s.toks) q4 (x6 _) ⟨q1,⟨o,ho⟩,λh1 h2 x k=>x.at k⟩,rfl,q _ rs (I.hok.fresh (x6 _)) (Qo q2 hmem) (UD (zd q2 λx hx=>((q3 x).mp hx).1) h1)⟩
def aiB(X:Cx):List V->Hp->VK->Prop:=λxs H Q=>∃a rs,xs=[.ref a]/\H a=O (.ext (CP X.w a rs))/\rs.length<64/\Q (.int (rs.length:Nat)) H
theorem ac9:cK X (.builtin "len") (aiB X):=by
 intro pins s Z H xs us Q I rv h;obtain⟨a,rs,rfl,hH,hn,q⟩:=h;obtain⟨u,rfl,ru⟩:=RO rv;cases ru;obtain⟨hS,_,_⟩:=I.hok a _ hH;obtain⟨o,es,ep,t,ho,hex,hd,hI,hl,hs⟩:=hS;have he:es.size=rs.length:=by rw[<-R8];exact hs.len
 refine W6 ho hex hd hI.fits (by rw[he];omega) ⟨.int _,H,I.tok _,⟨_,by rw[he]⟩,q⟩
def kK(c:aa):D->Option (List Nat)
 |.tup l=>sA l
 |x=>match jg c x with
  |some l=>sA l
  |none=>U
theorem DN{K:Ξ}{H:Hp}{v:V}{ns:List Nat}(W:Wd K ρ H c)(r:Rel K ρ H x v)(h:kK c x=O ns):∃a,v=.ref a/\(bw K H a (nV ns)\/bZ K H a (nV ns))/\(fh ns).length<64/\∀x∈ns,x<128:=by
 unfold kK at h;split at h
 ·obtain⟨rfl,h64,hx⟩:=My h;obtain⟨a,xs,rfl,ha,rl⟩:=r;cases KU rl;exact⟨a,rfl,.inr (bZ.of ha),h64,hx⟩
 ·split at h
  ·rename_i l hl;obtain⟨rfl,h64,hx⟩:=My h;obtain⟨a,ys,rfl,ha,rl⟩:=zz W r hl;cases KU rl;exact⟨a,rfl,.inl (bw.of ha),h64,hx⟩
  ·cases h
def tT(a b:aj):af:=λe c=>(a e c).bind λxs c=>match xs with
 |[x]=>match kK c x with
  |some ns=>(b e c).bind λys c=>match ys with
   |[y]=>match kK c y with
    |some ms=>.ok (.int (pA ns ms:Nat)) c
    |none=>.bad
   |_=>.bad
  |none=>.bad
 |_=>.bad
theorem ala(ha:gv X [a] da)(hb:gv X [b] db)(hm:X.mg "len"=U)(hm2:X.mg "set"=U)(hg:Gl X "len":=by rfl)(oQ:Gl X "set":=by rfl)(hc:X.calm=J:=by rfl)(he:ε [a] X.env=(ξ,eval a X.env)::ε [] X.env:=by exact cR rfl)(he2:ε [b] X.env=(ξ,eval b X.env)::ε [] X.env:=by exact cR rfl):
  aX X (.Call (.Name "len" p0) [.BinOp (.Call (.Name "set" p1) [a] [] q1) .BitAnd (.Call (.Name "set" p2) [b] [] q2) q3] [] q0) (tT da db):=by
 have h1:PE X (.Call (.Name "set" p1) [a] [] q1) _:=nT (FP hc) oQ hm2 (by decide +kernel) ha ⋯ ⋯ he (by exact gb rfl)
 have h2:PE X (.Call (.Name "set" p2) [b] [] q2) _:=nT (FP hc) oQ hm2 (by decide +kernel) hb ⋯ ⋯ he2 (by exact gb rfl)
 refine(uW ac9 hg hm (by decide +kernel) (iS (Ln akU h1 h2) jv (cR rfl)) ⋯ ⋯ (by exact cR rfl) (by exact gb rfl)).imp λZ H Q h=>?_
 obtain⟨ρ,e,c,W,V,p⟩:=h;refine⟨ρ,e,c,W,V,post.bind p λxs c1 aK H1 vs ex W1 X1 r1 p1=>?_⟩
 clear ex;split at p1
 ·rename_i x;obtain⟨v,r,rfl,hx,hr⟩:=r1;cases hr;split at p1
  ·rename_i ns hn;obtain⟨ad,rfl,sq,h64,hx'⟩:=DN W1 hx hn;refine⟨ad,ns,rfl,sq,h64,hx',λpa hpa=>?_⟩
   refine⟨aK,e,c1,W1.fresh hpa,(V.mono W X1).mono W1 (Ext.fresh W1 hpa),post.bind (post.ext p1 (Ext.fresh W1 hpa)) λys c2 cX H2 vs2 ex2 W2 X2 r2 p2=>?_⟩
   clear ex2;split at p2
   ·rename_i y;obtain⟨v2,r',rfl,hy,hr'⟩:=r2;cases hr';split at p2
    ·rename_i ms hm';obtain⟨bd,rfl,aiM,OA,hy'⟩:=DN W2 hy hm';refine⟨bd,ms,rfl,aiM,OA,hy',λpb EE=>?_⟩
     have aaF:pa∉aK:=W1.nil hpa;have E5:=(X2.keep pa _ eS aaF rfl).1;have hne:pa≠pb:=λz=>by rw[z,EE]at E5;cases E5
     refine⟨pa,pb,ns,ms,rfl,rfl,hne,by rw[bD hne];exact E5,eS,h64,OA,λpr rs kh hl aaR=>?_⟩
     refine⟨pr,rs,rfl,eS,aaR,?_⟩;rw[hl];have W3:=W2.fresh (o:=.ext (rL X.w pb ms)) EE;exact p2 cX _ _ (W3.fresh kh) ((Ext.fresh W2 EE).trans (Ext.fresh W3 kh)) rfl
    ·exact p2.elim
   ·exact p2.elim
  ·exact p1.elim
 ·exact p1.elim
end
@[simp] theorem aeS(a b:aj)(e:Ev)(c:aa):tT a b e c=(a e c).bind λxs c=>match xs with
 |[x]=>match kK c x with
  |some ns=>(b e c).bind λys c=>match ys with
   |[y]=>match kK c y with
    |some ms=>.ok (.int (pA ns ms:Nat)) c
    |none=>.bad
   |_=>.bad
  |none=>.bad
 |_=>.bad:=rfl
theorem aiw{env:Env}{pos:Pos}(h:isStar a=ξ)(g:isStar b=ξ):((Q6 pos (ε [a,b] env)).all (λx=>!x.1)&&(Sw pos (Sy [] env)).all (λx=>x.1.isSome)
   && decide ([a,b].length+([]:List S3).length+(if([]:List S3).isEmpty then 0 else 1)<30))=J:=by
 rw[Js h g];simp[Q6,Sw,Sy]
section
variable {X:Cx}
def aja:V->List V->Hp->VK->Prop:=λx vs H Q=>∃l xs y,∃i:Int,x=.ref l/\vs=[.int i,y]/\H l=O (.lst xs)/\(0<=i/\i<=xs.length)/\xs.length<Ω/\Q .aF (upd H l (.lst (xs.take i.toNat++y::xs.drop i.toNat)))
theorem YR:HJ X "list.insert" aja:=by
 intro pins s Z H x vs v us Q I rx rv h;obtain⟨l,xs,y,i,rfl,rfl,hH,hi,hz,q⟩:=h;cases rx;cases rv with
 |cons r0 rr =>
  cases rr with
  |cons ru rr =>
   cases rr;obtain⟨t,rfl⟩:=r0;rename_i u;obtain⟨z,its,n,r,hl,e⟩:=I.vG hH;have hsl:Ω<2^62:=⋯
   have hfit:¬(!Builtin.List.listFitsIndex i)=J:=by
    have:Builtin.List.listFitsIndex i=J:=by
     unfold Builtin.List.listFitsIndex;simp;omega
    rw[this];decide
   refine Td F.slot_list_insert ⟨_,e,rfl⟩ F.entry_list_insert (F.args_list_insert_3 _ _ _) (AutoSeq1.list_insert_list_int_val_1 l its.toArray n i t u hfit (by rw[Q3];omega)) ⟨e,?_⟩
   refine⟨.aF,_,I.DZ hH e ?_ ((r.take i.toNat).append (.cons ru (r.drop i.toNat))) ?_,rfl,q⟩
   ·have hk:(if i<0 then(i+(its.toArray.size:Int)).toNat else min i.toNat its.toArray.size)=i.toNat:=by
     rw[if_neg ∅,Q3];omega
    rw[hk];simp[List.extract_eq_take_drop,T7]
   ·simp;omega
def wO(o a b:af):af:=λe c=>(o e c).bind λx c=>match x with
 |.ref k=>(a e c).bind λi c=>(b e c).bind λy c=>match i,c[k]? with
  |.int i,O (.lst l)=>if(0<=i/\i<=l.length)/\l.length<Ω/\noRef y=J then .ok .aF (c.set k (.lst (l.take i.toNat++y::l.drop i.toNat)))else .bad
  |_,_=>.bad
 |_=>.bad
theorem Yl(h:bF l=J)(n:Nat):bF (l.take n)=J:=iC.mpr λd hd=>iC.mp h d (RN hd)
theorem Yo(h:bF l=J)(n:Nat):bF (l.drop n)=J:=iC.mpr λd hd=>iC.mp h d (Vl hd)
theorem ajZ{apos:Pos}(ho:aX X o dO)(ha:aX X a da)(hb:aX X b db)(hbase:VJ o "insert" X.env (eval o X.env)=eval o X.env:=by rfl)(hfew:((Q6 cpos (ε [a,b] X.env)).all (λx=>!x.1)&&(Sw cpos (Sy [] X.env)).all (λx=>x.1.isSome)
   && decide ([a,b].length+([]:List S3).length+(if([]:List S3).isEmpty then 0 else 1)<30))=J:=by exact aiw rfl rfl)(hline:(apos.endLine==cpos.line)=J:=by rfl)(hs:ε [a,b] X.env=(ξ,eval a X.env)::ε [b] X.env:=by exact cR rfl)(hs2:ε [b] X.env=(ξ,eval b X.env)::ε [] X.env:=by exact cR rfl)(hplain:(Q6 cpos (ε [b] X.env)).any (·.1)=ξ:=by exact gb rfl):
  aX X (.Call (.Attribute o "insert" apos) [a,b] [] cpos) (wO dO da db) :=
 (Dg W7 PySem.F.slot_list_insert PySem.F.type_list_insert YR ho (iS ha (iS hb jv hs2) hs) hbase hfew hline hs hplain).imp λZ H Q h=>by
  obtain⟨ρ,e,c,W,V,p⟩:=h;refine⟨ρ,e,c,W,V,post.bind p λx c1 aK H1 v _ W1 X1 r1 p1=>?_⟩
  cases x with
  |ref k =>
   obtain⟨ad,rfl,hk⟩:=r1;obtain⟨xs,hx⟩:=W1.at' (R7 hk);refine⟨.inl ⟨rfl,xs,bw.of hx⟩,aK,e,c1,W1,V.mono W X1,post.bind p1 λi c2 cX H2 ui _ W2 X2 r2 p2=>⟨cX,e,c2,W2,(V.mono W X1).mono W1 X2,post.bind p2 λy c3 mw H3 u _ W3 X3 r3 p3=>?_⟩⟩
   split at p3
   ·rename_i i' l hl _;split at p3
    ·rename_i hh;cases r2;obtain⟨nr,ys,hy,rl⟩:=W3.fP k ad _ (X3.pre k ad (X2.pre k ad hk)) hl;refine⟨ad,ys,u,i',rfl,rfl,hy,by rw[rl.length];exact hh.1,by rw[rl.length];exact hh.2.1,?_⟩
     refine p3 mw _ .aF (W3.write (X3.pre k ad (X2.pre k ad hk)) ?_ ((rl.take _).append ⟨u,_,rfl,r3,rl.drop _⟩)) (Ext.write (X3.pre k ad (X2.pre k ad hk))) rfl;rw[u9,Yl nr];simp[bF,hh.2.2,Yo nr]
    ·exact p3.elim
   ·exact p3.elim
  |_=>exact p1.elim
def sP:List D->aa->R D:=λxs c=>match xs with
 |[x]=>match fV c x with
  |some l=>if bF l=J then .ok (.ref c.length) (c++[.lst l])else .bad
  |none=>.bad
 |_=>.bad
theorem adC:cK X (.type "list") (rN X.K sP):=by
 intro pins s Z H vs us Q I rv h;obtain⟨ρ,xs,c,W,rx,p⟩:=h;unfold sP at p;split at p
 ·rename_i x;obtain⟨v,r,rfl,hx,hr⟩:=rx;cases hr;split at p
  ·rename_i l hl;split at p
   ·rename_i nr;obtain⟨a,ys,rfl,sq,r⟩:=uK W hx hl;exact Qm pins s Z H _ us Q I rv ⟨a,ys,rfl,sq,DF W nr r p⟩
   ·exact p.elim
  ·exact p.elim
 ·exact p.elim
end
@[simp] theorem ahq(o a b:af)(e:Ev)(c:aa):wO o a b e c=(o e c).bind λx c=>match x with
 |.ref k=>(a e c).bind λi c=>(b e c).bind λy c=>match i,c[k]? with
  |.int i,O (.lst l)=>if(0<=i/\i<=l.length)/\l.length<Ω/\noRef y=J then .ok .aF (c.set k (.lst (l.take i.toNat++y::l.drop i.toNat)))else .bad
  |_,_=>.bad
 |_=>.bad:=rfl
mutual
def fU(c:aa)(n:Nat):D->Option D
 |.ref k=>match c[k]? with
  |some (.lst l)=>if n<=k then O (.lst l)else U
  |none=>U
 |.lst l=>match nH c n l with
  |some m=>O (.lst m)
  |none=>U
 |.tup l=>match nH c n l with
  |some m=>O (.tup m)
  |none=>U
 |.aF=>O .aF
 |.bl b=>O (.bl b)
 |.int i=>O (.int i)
 |.str x=>O (.str x)
 |.ty x=>O (.ty x)
 |.bS x=>O (.bS x)
 |.fn x m=>O (.fn x m)
 |.exc x=>O (.exc x)
 |.iZ=>O .iZ
 |.dct ks=>O (.dct ks)
 |.gr ks=>O (.gr ks)
 |.lam _ _ _ _=>U
def nH(c:aa)(n:Nat):List D->Option (List D)
 |[]=>O []
 |d::l=>match fU c n d,nH c n l with
  |some a,O m=>O (a::m)
  |_,_=>U
end
section
variable {K:Ξ}{aK:List L}{H1:Hp}{c1:aa}{n:Nat}
mutual
theorem I0(W1:Wd K aK H1 c1):∀(d:D) (v:V) (d':D),Rel K aK H1 d v->fU c1 n d=O d'->Rel K (aK.take n) H1 d' v
 |.ref k,v,d',r,h=>by
  unfold fU at h;split at h
  ·rename_i l hl;split at h
   ·rename_i hk;cases h;obtain⟨a,rfl,ha⟩:=r;obtain⟨nr,xs,hx,rl⟩:=W1.fP k a _ ha hl;refine⟨a,xs,rfl,⟨hx,λq=>?_⟩,aL.low (λb h=>RN h) l xs nr rl⟩
    obtain⟨j,hj,e⟩:=Se.mp q;rw[UB]at e;have hk1:=Q9.mp ha;have hjl:j<aK.length:=by simp at hj;omega
    have:=(SS W1.nd (h₀:=hjl) (h₁:=hk1.1)).mp (e.trans hk1.2.symm);simp at hj;omega
   ·cases h
  ·cases h
 |.lst l,v,d',r,h=>by
  unfold fU at h;split at h
  ·rename_i m hm;cases h;obtain⟨a,xs,rfl,s,rl⟩:=r;exact⟨a,xs,rfl,⟨s.1,λq=>s.2 (RN q)⟩,CA W1 l xs m rl hm⟩
  ·cases h
 |.tup l,v,d',r,h=>by
  unfold fU at h;split at h
  ·rename_i m hm;cases h;obtain⟨a,xs,rfl,s,rl⟩:=r;exact⟨a,xs,rfl,s,CA W1 l xs m rl hm⟩
  ·cases h
 |.aF,v,d',r,h=>by unfold fU at h;cases h;exact Rel.low (λb h=>RN h) _ _ rfl r
 |.bl b,v,d',r,h=>by unfold fU at h;cases h;exact Rel.low (λb h=>RN h) _ _ rfl r
 |.int i,v,d',r,h=>by unfold fU at h;cases h;exact Rel.low (λb h=>RN h) _ _ rfl r
 |.str x,v,d',r,h=>by unfold fU at h;cases h;exact Rel.low (λb h=>RN h) _ _ rfl r
 |.ty x,v,d',r,h=>by unfold fU at h;cases h;exact Rel.low (λb h=>RN h) _ _ rfl r
 |.bS x,v,d',r,h=>by unfold fU at h;cases h;exact Rel.low (λb h=>RN h) _ _ rfl r
 |.fn x m,v,d',r,h=>by unfold fU at h;cases h;exact Rel.low (λb h=>RN h) _ _ rfl r
 |.exc x,v,d',r,h=>by unfold fU at h;cases h;exact Rel.low (λb h=>RN h) _ _ rfl r
 |.iZ,v,d',r,h=>by unfold fU at h;cases h;exact Rel.low (λb h=>RN h) _ _ rfl r
 |.dct ks,v,d',r,h=>by unfold fU at h;cases h;exact Rel.low (λb h=>RN h) _ _ rfl r
 |.gr ks,v,d',r,h=>by unfold fU at h;cases h;exact Rel.low (λb h=>RN h) _ _ rfl r
 |.lam _ _ _ _,v,d',r,h=>by unfold fU at h;cases h
theorem CA(W1:Wd K aK H1 c1):∀(l:List D) (xs:List V) (m:List D),aL K aK H1 l xs->nH c1 n l=O m->aL K (aK.take n) H1 m xs
 |[],xs,m,r,h=>by unfold nH at h;cases h;exact r
 |d::l,xs,m,r,h=>by
  unfold nH at h;split at h
  ·rename_i a m' ha hm;cases h;obtain⟨y,ys,rfl,r1,r2⟩:=r;exact⟨y,ys,rfl,I0 W1 d y a r1 ha,CA W1 l ys m' r2 hm⟩
  ·cases h
end
end
def lV(n:Nat)(v:D)(c:aa):R D:=match fU c n v with
 |some d=>.ok d (c.take n)
 |none=>.bad
def nc(n:Nat)(d:ah):List D->aa->R D:=λxs c=>(d (bW n xs) c).bind λf c'=>match f with
 |.rt v=>lV c.length v c'
 |.nx _=>lV c.length .aF c'
 |_=>.bad
theorem Pn{K:Ξ}{H H1:Hp}{x:V}{Q:VK}(W:Wd K ρ H c)(W1:Wd K aK H1 c1)(X1:Ext ρ H aK H1)(r:Rel K aK H1 v x)(p:post K (Rel K) (lV c.length v c1) ρ H Q):Q x H1:=by
 have Xc:=X1.cut (n:=c.length) (So W.len);unfold lV at p;split at p
 ·rename_i d hd;exact p _ H1 x (W1.cut (Ext.len W W1 X1)) Xc (I0 W1 v x d r hd)
 ·exact p.elim
section
variable {P:ν}{w:τ}{K:Ξ}{mg:Str->Option Δ}{base:υ}
theorem Fj{qual:Str}{st:dg}(F:mq K x qual st f fd)(S:jQ N ps (dG st))(hN:N.length=n)(hm:ps.length=m)(hb:∀(cdv:Δ) (A:χ) (outer:List Env) (s:Ψ) (H:Hp) (E:XK),cu k (A.deeper (envOfC qual (dG st) s.heap.objs.size f cdv))->bB (lY dJ P w K mg base N qual (dG st) f cdv A outer s H E).lG (iH st) d):
  eO P w K mg base dJ (k+1) f fd ps (fk K m (nc n d)):=by
 subst hN;subst hm;refine F.ok S (λvs H Q E h=>?_) (λcdv A outer s H vs Q E hr h=>⟨_,hb cdv A outer s H E hr,?_⟩)
 ·obtain⟨ρ,xs,c,W,r,hl,p⟩:=h;exact r.length.trans hl
 ·obtain⟨ρ,xs,c,W,r,hl,p⟩:=h;refine⟨ρ,bW N.length xs,c,W,cW.start r,post.bind p λfl c1 aK H1 b _ W1 X1 r1 p1=>?_⟩
  cases fl with
  |nx e1 =>
   obtain⟨σ1,rfl,V1⟩:=r1;exact Pn (v:=.aF) W W1 X1 rfl (by unfold nc at p;rename_i he;rw[he]at p;exact p)
  |rt d =>
   obtain⟨v,rfl,V1⟩:=r1;exact Pn (v:=d) (x:=v) W W1 X1 V1 (by unfold nc at p;rename_i he;rw[he]at p;exact p)
  |bk e1=>exact p1.elim
  |ct e1=>exact p1.elim
end
@[simp] theorem Co(n:Nat)(d:ah)(xs:List D)(c:aa):nc n d xs c=(d (bW n xs) c).bind λf c'=>match f with
 |.rt v=>lV c.length v c'
 |.nx _=>lV c.length .aF c'
 |_=>.bad:=rfl
end L2
namespace L2
open PySem PySem.Spec PyProof.Rows
section
variable {X:Cx}{e sx:μ}{te:TE}{lo hi:Option μ}{tl th ts:TO}{pos p2:Pos}
def insI(x:Int):List Int->List Int
 |[]=>[x]
 |y::l=>if x<=y then x::y::l else y::insI x l
def iW:List Int->List Int
 |[]=>[]
 |x::l=>insI x (iW l)
theorem Es(x:Int):∀l,(insI x l).Perm (x::l)
 |[]=>.refl _
 |y::l=>by
  unfold insI;split
  ·exact .refl _
  ·exact((Es x l).cons y).trans (List.Perm.swap _ _ _)
theorem oB:∀l,(iW l).Perm l
 |[]=>.refl _
 |x::l=>(Es x _).trans ((oB l).cons x)
theorem NN(x:Int):∀{l:List Int},l.Pairwise (·<=·)->(insI x l).Pairwise (·<=·)
 |[],_=>by simp[insI]
 |y::l,h=>by
  obtain⟨h1,h2⟩:=Ri.mp h;unfold insI;split
  ·rename_i hx;exact Ri.mpr ⟨λb hb=>by
    rcases Bt.mp hb with rfl|hb
    ·exact hx
    ·exact Int.le_trans hx (h1 b hb),h⟩
  ·refine Ri.mpr ⟨λb hb=>?_,NN x h2⟩
   rcases Bt.mp ((Es x l).mem_iff.mp hb)with rfl|hb
   ·omega
   ·exact h1 b hb
theorem vL:∀l:List Int,(iW l).Pairwise (·<=·)
 |[]=>.nil
 |x::l=>NN x (vL l)
theorem yp:∀{l m:List Int},l.Perm m->l.Pairwise (·<=·)->m.Pairwise (·<=·)->l=m
 |[],m,p,_,_=>by have:=p.length_eq;cases m with|nil=>rfl|cons a m=>simp at this
 |x::l,[],p,_,_=>by have:=p.length_eq;simp at this
 |x::l,y::m,p,h1,h2=>by
  obtain⟨a1,a2⟩:=Ri.mp h1;obtain⟨b1,b2⟩:=Ri.mp h2;have e:x=y:=by
   have u:x<=y:=by
    rcases Bt.mp (p.mem_iff.mpr (Rf (a:=y) (l:=m)))with e|q
    ·omega
    ·exact a1 y q
   have v:y<=x:=by
    rcases Bt.mp (p.mem_iff.mp (Rf (a:=x) (l:=l)))with e|q
    ·omega
    ·exact b1 x q
   omega
  subst e;rw[yp ((List.perm_cons _).mp p) a2 b2]
def ai1(X:Cx):List V->Hp->VK->Prop:=λxs H Q=>∃a ns,xs=[.ref a]/\bw X.K H a (ns.map V.int)/\ns.length<64/\∀p,H p=U->Q (.ref p) (upd H p (.lst ((iW ns).map V.int)))
theorem QW:∀{ns:List Int}{us:List Δ},S4 us ns->Vals (ns.map V.int) us
 |[],_,.nil=>.nil
 |n::ns,_,.cons _ t r=>.cons ⟨t,rfl⟩ (QW r)
theorem ac1:cK X (.builtin "sorted") (ai1 X):=by
 intro pins s Z H xs us Q I rv h;obtain⟨a,ns,rfl,sq,hn,q⟩:=h;obtain⟨u,rfl,ru⟩:=RO rv;cases ru;obtain⟨its,ri,pl,hz⟩:=I.list sq;have hl:=ri.length;have hIA:S4 its ns:=intsAre_of ri;refine sorted_ints pl.isList hIA (by rw[<-hl];simpa using hn) λout zs i1 i2 i3=>?_
 have hzs:zs=iW ns:=yp (i2.trans (oB ns).symm) i3 (vL ns);subst hzs;have hf:H _=U:=I.hok.fresh (TR _);have hne:∀b o,s.heap.get? b=O o->s.heap.objs.size≠b/\s.heap.objs.size+1≠b:=λb o e=>⟨Rn (I8 e),Rn (Rp (I8 e))⟩
 have hsz:((s.heap.push (seqObj "list" #[] 0)).update s.heap.objs.size (Obj.mapSeq (· ++ its.toArray))).objs.size=s.heap.objs.size+1:=by rw[VM,RL]
 have qv:(((s.heap.push (seqObj "list" #[] 0)).update s.heap.objs.size (Obj.mapSeq (· ++ its.toArray))).push (seqObj "list" its.toArray 0)).get? (s.heap.objs.size+1)=O (seqObj "list" its.toArray 0):=by
  rw[<-hsz];exact Q4 _ rfl
 have g1:=T8 qv (λ_=>#[])
 have g2:=T8 (J' (seqObj "list" #[] 0) (J' (seqObj "tuple" its.toArray 0) g1)) λ_=>out
 refine⟨.ref _,upd H (s.heap.objs.size+1) (.lst ((iW ns).map V.int)),I.laid (t':=s.toks) (λb o e=>?_) (TR _) ⟨?_,out.toList,_,QW i1,by rw[XY];exact g2⟩,rfl,q _ hf⟩
 ·obtain⟨n1,n2⟩:=hne b o e;exact(SR _ _ n2).trans (J' _ (J' _ ((SR _ _ n2).trans (J' _ ((SR _ _ n1).trans (J' _ e))))))
 ·have:=(oB ns).length_eq;rw[P0,this,SJ];omega
def mF:List D->aa->R D:=λxs c=>match xs with
 |[x]=>match jg c x with
  |some l=>match g8 l with
   |some ns=>if ns.length<64 then .ok (.lst ((iW ns).map D.int)) c else .bad
   |none=>.bad
  |none=>.bad
 |_=>.bad
theorem A2:cK X (.builtin "sorted") (rN X.K mF):=by
 intro pins s Z H vs us Q I rv h;obtain⟨ρ,xs,c,W,rx,p⟩:=h;unfold mF at p;split at p
 ·obtain⟨v,r',rfl,hx,hr⟩:=rx;cases hr;split at p
  ·rename_i l hl;split at p
   ·rename_i ns hn;split at p
    ·rename_i hb;obtain⟨a,ys,rfl,ha',rl⟩:=zz W hx hl;rw[oH hn]at rl;cases rl.oG;exact ac1 pins s Z H _ us Q I rv ⟨a,ns,rfl,bw.of ha',hb,qd W aL.ints p⟩
    ·exact p.elim
   ·exact p.elim
  ·exact p.elim
 ·exact p.elim
def uQ(i j:Int):List Int:=(η (j-i).toNat).map λk:Nat=>i+(k:Int)
theorem ag3{f:Nat->Int}(h:ItemsOf (λk v=>∃t,v=.int (f k) t) acc n):Vals (((η n).map f).map V.int) acc.toList:=by
 have hl:acc.toList.length=n:=by rw[R8];exact h.1
 have key:∀us o,(∀k (u:Δ),us[k]? = O u->∃t,u=.int (f (o+k)) t)->Vals (((List.range' o us.length).map f).map V.int) us:=by
  intro us
  induction us with
  |nil=>intro o _;exact .nil
  |cons u us ih =>
   intro o hu;obtain⟨t,e⟩:=hu 0 u rfl;refine .cons ⟨t,e⟩ (ih _ λk v hv=>?_)
   have:=hu (k+1) v (by simpa using hv)
   rwa[show o+_=o+1+k by omega]at this
 have:=key acc.toList 0 λk u hu=>by
  have:=h.2 k u (by rw[<-Rj];exact hu)
  rwa[R6]
 rwa[hl,<-UO]at this
def aba(X:Cx):List V->Hp->VK->Prop:=λxs H Q=>∃p i j,xs=[.ref p]/\H p=O (.uR i j)/\(0<=i/\i<j/\j<1000)/\∀l,H l=U->Q (.ref l) (upd H l (.lst ((uQ i j).map V.int)))
theorem ac7(hc:X.calm=J:=by rfl):cK X (.type "list") (aba X):=by
 intro pins s Z H xs us Q I rv h;obtain⟨p,i,j,rfl,hH,hb,q⟩:=h;obtain⟨u,rfl,ru⟩:=RO rv;cases ru;obtain⟨t,u,v,hr⟩:=I.hok p _ hH;have hn:Builtin.Range.rangeSize i j 1=((j-i).toNat:Nat):=by
  unfold Builtin.Range.rangeSize;omega
 refine call_list_range (I.ok.hd hc) hr (small_one ∅ ∅ ∅ ∅) hn ∅ λh' tk acc c' kp hg hit=>?_
 have vU:ItemsOf _ acc (j-i).toNat:=⟨hit.1,λk v hv=>by
  have:=hit.2 k v hv
  simpa using this⟩
 refine⟨.ref s.heap.objs.size,upd H s.heap.objs.size (.lst _),I.laid kp (x6 _) ⟨?_,acc.toList,c',ag3 vU,by rw[XY];exact hg⟩,rfl,q _ (I.hok.fresh (x6 _))⟩
 simp only[uQ,P0,Sb];rw[SJ];omega
end
open PySem.SeqAt
open AutoSeq1 (wpAny_loadPart')
section
variable {X:Cx}
def ajv:List V->Hp->VK->Prop:=λxs H Q=>∃j,xs=[.int j]/\∀p,H p=U->Q (.ref p) (upd H p (.uR 0 j))
theorem ac6:cK X (.type "range") ajv:=by
 intro pins s Z H xs us Q I rv h;obtain⟨j,rfl,q⟩:=h;obtain⟨u,rfl,ru⟩:=RO rv;obtain⟨t,rfl⟩:=ru;refine call_range_1 ⟨.ref s.heap.objs.size,upd H s.heap.objs.size _,I.laid (λb o e=>J' _ e) (x6 _) ?_,rfl,q _ (I.hok.fresh (x6 _))⟩
 exact⟨_,_,_,Q4 _ rfl⟩
def qA(a:aj):af:=λe c=>(a e c).bind λxs c=>match xs with
 |[.int j]=>if 0<j/\j<1000 then .ok (.lst ((uQ 0 j).map D.int)) c else .bad
 |_=>.bad
theorem Ls(ha:gv X [a] da)(hm:X.mg "list"=U)(hm2:X.mg "range"=U)(hg:Gl X "list":=by rfl)(oQ:Gl X "range":=by rfl)(hc:X.calm=J:=by rfl)(he:ε [a] X.env=(ξ,eval a X.env)::ε [] X.env:=by exact cR rfl)(hb:(Q6 q2 (ε [] X.env)).any (·.1)=ξ:=by exact gb rfl):aX X (.Call (.Name "list" p1) [.Call (.Name "range" p2) [a] [] q2] [] q1) (qA da):=by
 refine(nT (ac7 hc) hg hm (by decide +kernel) (iS (nT ac6 oQ hm2 (by decide +kernel) ha ⋯ ⋯ he hb) jv (cR rfl)) ⋯ ⋯ (cR rfl) (gb rfl)).imp λZ H Q h=>?_
 obtain⟨ρ,e,c,W,V,p⟩:=h;refine⟨ρ,e,c,W,V,post.bind p λxs c1 aK H1 vs ex W1 X1 r1 p1=>?_⟩
 split at p1
 ·rename_i j;obtain⟨v,r,rfl,hx,hr2⟩:=r1;cases hr2;cases hx;split at p1
  ·rename_i hb;exact⟨j,rfl,λp hp=>⟨p,0,j,rfl,eS,⟨UN _,hb.1,hb.2⟩,λl hl=>qd (W1.fresh hp) aL.ints (post.ext p1 (Ext.fresh W1 hp)) l hl⟩⟩
  ·exact p1.elim
 ·exact p1.elim
def aiA(X:Cx):List V->Hp->VK->Prop:=λxs H Q=>∃a ns,xs=[.ref a]/\H a=O (.ext (rL X.w a ns))/\(fh ns).length<64/\Q (.int ((fh ns).length:Nat)) H
theorem ada:cK X (.builtin "len") (aiA X):=by
 intro pins s Z H xs us Q I rv h;obtain⟨a,ns,rfl,hH,hn,q⟩:=h;obtain⟨u,rfl,ru⟩:=RO rv;cases ru;obtain⟨hS,_,_⟩:=I.hok a _ hH;obtain⟨o,es,ep,t,ho,hex,hd,hI,hl,hs⟩:=hS;have he:es.size=(fh ns).length:=by rw[<-R8,yo];exact hs.len
 refine W6 ho hex hd hI.fits (by rw[he];omega) ⟨.int _,H,I.tok _,⟨_,by rw[he]⟩,q⟩
def tS(a:aj):af:=λe c=>(a e c).bind λxs c=>match xs with
 |[x]=>match kK c x with
  |some ns=>.ok (.int ((fh ns).length:Nat)) c
  |none=>.bad
 |_=>.bad
theorem alb(ha:gv X [a] da)(hm:X.mg "len"=U)(hm2:X.mg "set"=U)(hg:Gl X "len":=by rfl)(oQ:Gl X "set":=by rfl)(hc:X.calm=J:=by rfl)(he:ε [a] X.env=(ξ,eval a X.env)::ε [] X.env:=by exact cR rfl):
  aX X (.Call (.Name "len" p0) [.Call (.Name "set" p1) [a] [] q1] [] q0) (tS da):=by
 refine(uW ada hg hm (by decide +kernel) (iS (nT (FP hc) oQ hm2 (by decide +kernel) ha ⋯ ⋯ he (by exact gb rfl)) jv (cR rfl)) ⋯ ⋯ (by exact cR rfl) (gb rfl)).imp λZ H Q h=>?_
 obtain⟨ρ,e,c,W,V,p⟩:=h;refine⟨ρ,e,c,W,V,post.bind p λxs c1 aK H1 vs ex W1 X1 r1 p1=>?_⟩
 split at p1
 ·obtain⟨v,r,rfl,hx,hr⟩:=r1;cases hr;split at p1
  ·rename_i ns hn;obtain⟨ad,rfl,sq,h64,hx'⟩:=DN W1 hx hn;exact⟨ad,ns,rfl,sq,h64,hx',λpa hpa=>⟨pa,ns,rfl,eS,h64,(post.ext p1 (Ext.fresh W1 hpa)).here (W1.fresh hpa) rfl⟩⟩
  ·exact p1.elim
 ·exact p1.elim
end
section
variable (o a:af) (b:aj) (e:Ev) (c:aa)
@[simp] theorem ahl:qA b e c=(b e c).bind λxs c=>match xs with
 |[.int j]=>if 0<j/\j<1000 then .ok (.lst ((uQ 0 j).map D.int)) c else .bad
 |_=>.bad:=rfl
end
theorem IU:∀(xs:List Δ),VG xs->VG (xs++[.int l t,.int c u,v])
 |[],_=>trivial
 |.int _ _ :: .int _ _::_::rest,h=>IU (c:=c) rest h
theorem QH{pos:Pos}:∀(xs:List Δ),VG xs->codeAmong p (xs++[rawInt pos.line,rawInt pos.col,v])=O cv->codeAmong p xs=O cv\/cv=v
 |[],_,h=>by
  simp only[RC,rawInt,codeAmong]at h;split at h
  ·exact .inr (R4 h).symm
  ·cases h
 |.int a _ :: .int b _::x::rest,ht,h=>by
  simp only[UM,codeAmong]at h ⊢;split at h
  ·rename_i hc;rw[if_pos hc];exact .inl h
  ·rename_i hc;rw[if_neg hc];exact QH rest ht h
structure aev (H H':Hp) (n:Nat) (P:L) (q:Str) (e:μ) (cl:List (Str×L)) (a:L):Prop where
 at':∃o c,H' a=O (.ext (lN a o))/\qO e o q c cl/\H' c=O (.ext (l5 c q))
 keep:∀b u,H b=O u->vM u=ξ->H' b=O u
 new:∀b,b<n->H b=U->H' b=U
 tabs:∀b ps,b≠P->H b=O (.cI ps)->H' b=O (.cI ps)
 tab:TabAt H' P q
section
variable {X:Cx}{pins:List (L×Obj)}{Z:St}{H:Hp}{s:Ψ}
theorem Qa{h1 h2:υ}(x:h1.CodeRec (.ref c) q)(k:∀o,h1.get? c=O o->h2.get? c=O o):h2.CodeRec (.ref c) q:=by
 obtain⟨c',oc,vs,t,e,h,r⟩:=x;cases e;exact⟨_,oc,vs,t,rfl,k _ h,r⟩
theorem ZH{params:Sx}{body:μ}{scope:R5}{pos:Pos}{clos:List (Str×L)}{Q:Δ->Ψ->Prop}(I:Inv X pins Z H s)(hcode:X.env.code=.ref c)(hq:X.env.qual++"<lambda>"=q)(hC:PySem.W.codeHdIn X.K c P=J)(hT:TabAt H P q)(hcl:closureFor scope X.env=pure clos)(hdef:defaultsOf params X.env=([],[]))(h:∀a H' s',Inv X pins Z H' s'->s.heap.objs.size<=a->aev H H' s.heap.objs.size P q (.Lambda params body scope pos) clos a->Q (.ref a) s'):
  wpAny (model X.prog X.w) X.A (eval (.Lambda params body scope pos) X.env) Q X.xe s:=by
 obtain⟨ps,hP,ht,hcs⟩:=hT;have vZ:s.heap.get? P=O (PySem.W.tabObj ps):=I.hok P _ hP;have hns:s.heap.Ns ι X.mg:=I.mod.glob.keeps I.bk;obtain⟨bm,ob,b1,b2,b3,b4,b5,b6⟩:=I.mod.bmod;have xx:=I.bk _ _ b3;have hgP:ι≠P:=λz=>by
  obtain⟨o,es,ep,e,hd,_⟩:=hns;rw[z,vZ]at e;cases e;cases hd
 have hbP:bm≠P:=λz=>by rw[z,vZ]at xx;cases xx;cases b4
 have hbG:bm≠ι:=λz=>by
  obtain⟨o,es,ep,e,hd,_⟩:=hns;rw[z,e]at xx;cases xx;rw[hd]at b6;cases b6
 have hB:s.heap.BuiltinsAt X.mg P:=⟨bm,ob,b1,b2,hbG,hbP,xx,b4,b5,b6⟩;have C:PySem.W.CodeHd s.heap c P:=XX I.fY hC;refine PySem.W.kla_eval hdef ?_;rw[hq];have Ou:P<s.heap.objs.size:=I8 vZ;cases hf:codeAmong pos ps.toList with
 |some cv =>
  obtain⟨c',rfl,hc'⟩:=hcs pos cv hf;refine PySem.W.kla_makeFunctionHit hcl I.ok.glob hns hcode C vZ ht hf hB λctv h' tk hk hsz=>?_
  generalize ho:({cls:=.type "function",data:=.func (PySem.W.kla_fn "<lambda>" q params body scope clos ((X.mg "__name__").getD .none) (.ref c') ctv)}:Obj)=o
  have hof:o.isFreed=ξ:=by rw[<-ho];rfl
  have hn:H h'.objs.size=U:=I.hok.fresh hsz;have nb:∀b u,H b=O u->b≠h'.objs.size:=λb u e=>dz e hn
  refine h h'.objs.size (upd H h'.objs.size (.ext (lN h'.objs.size o))) _ (I.laid (t':=tk) (λb u e=>J' _ (hk b u e)) hsz ?_) hsz ⟨⟨o,c',eS,⟨_,ctv,ho.symm⟩,by rw[bD (nb _ _ hc')];exact hc'⟩,λb u e _=>by rw[bD (nb b u e)];exact e,λb hb e=>by rw[bD (K1 (P7 hb hsz))];exact e,λb ps' _ e=>by rw[bD (nb b _ e)];exact e,⟨ps,by rw[bD (nb _ _ hP)];exact hP,ht,λp v e=>let⟨d,e1,e2⟩:=hcs p v e;⟨d,e1,by rw[bD (nb _ _ e2)];exact e2⟩⟩⟩
  exact⟨Q4 _ hof,⟨_,Q4 _ hof⟩,λh1 h2 e k=>k _ e⟩
 |none =>
  refine PySem.W.kla_makeFunction hcl I.ok.glob hns hcode C vZ ht hf hgP hB λc' ctv h' tk hx hge hlt hrec htb=>?_
  generalize ho:PySem.W.kla_obj "<lambda>" q params body scope clos ((X.mg "__name__").getD .none) c' ctv=o
  have hsz:s.heap.objs.size<=h'.objs.size:=R9 hge (Sv hlt);have hof:o.isFreed=ξ:=by rw[<-ho];rfl
  have hnc:H c'=U:=I.hok.fresh hge;have hna:H h'.objs.size=U:=I.hok.fresh hsz;have hca:c'≠h'.objs.size:=K1 hlt;have v8:P≠c':=K1 (P7 Ou hge);have hPa:P≠h'.objs.size:=K1 (P7 Ou hsz)
  generalize hps:ps ++ #[rawInt pos.line,rawInt pos.col,.ref c']=ps' at htb
  let H':Hp:=upd (upd (upd H P (.cI ps')) c' (.ext (l5 c' q))) h'.objs.size (.ext (lN h'.objs.size o))
  have qG:∀b,b≠P->b≠c'->b≠h'.objs.size->H' b=H b:=λb n1 n2 n3=>by
   show upd (upd (upd H P (.cI ps')) c' _) h'.objs.size _ b=_;rw[bD n3,bD n2,bD n1]
  have cG:H' P=O (.cI ps'):=by
   show upd (upd (upd H P (.cI ps')) c' _) h'.objs.size _ P=_;rw[bD hPa,bD v8,eS]
  have Gr:H' c'=O (.ext (l5 c' q)):=by
   show upd (upd (upd H P (.cI ps')) c' _) h'.objs.size _ c'=_;rw[bD hca,eS]
  have QC:H' h'.objs.size=O (.ext (lN h'.objs.size o)):=eS;have old:∀b u,H b=O u->vM u=ξ->H' b=O u:=λb u e t=>by
   rw[qG b (λz=>by rw[z,hP]at e;cases e;cases t) (dz e hnc) (dz e hna)];exact e
  have kp:∀b ob,b≠P->s.heap.get? b=O ob->(h'.push o).get? b=O ob:=λb ob n e=>J' _ (hx b ob n e)
  have aaG:cT X.prog X.w H' (h'.push o):=λb u e=>by
   by_cases h1:b=h'.objs.size
   ·subst h1;rw[QC]at e;cases e;exact⟨Q4 _ hof,⟨_,Q4 _ hof⟩,λh1 h2 e k=>k _ e⟩
   ·by_cases h2:b=c'
    ·subst h2;rw[Gr]at e;cases e;obtain⟨d,oc,vs,t,e0,e1,e2⟩:=id hrec;cases e0;refine⟨Qa hrec λo e=>J' _ e,⟨oc,J' _ e1⟩,λh1 h2 x k=>Qa x k⟩
    ·by_cases h3:b=P
     ·subst h3;rw[cG]at e;cases e;exact J' _ htb
     ·rw[qG b h3 h2 h1]at e;refine(I.hok b u e).stay (λd w hd z=>kp d w ?_ z) (λd z=>?_) λd xs z=>?_
      ·rcases hd with hd|hd
       ·rw[hd];exact h3
       ·intro z2;rw[z2,hP]at hd;cases hd
      ·exact old d _ z rfl
      ·exact old d _ z rfl
  have I':Inv X pins Z H' {s with heap:=h'.push o,toks:=tk}:=by
   refine I.step (g':=s.gens) (d':=s.drawn) (ch:=[]) (λ_ z=>nomatch z) (λb ob _ _ _ e n=>kp b ob (λz=>by rw[z,hP]at n;cases n) e) (λb ob _ _ _ e n=>⟨ob.slots,kp b ob (λz=>by rw[z,hP]at n;cases n) e⟩) (λb ob _ e n=>?_) (λb ob _ e=>?_) (λb xs e=>old b _ e rfl) (λb o' u e=>old b _ e rfl) (λb ps2 e=>?_) (λm hm=>?_) aaG I.bare
   ·have hb:=I8 e;rw[qG b (λz=>by rw[z,hP]at n;cases n) (K1 (P7 hb hge)) (K1 (P7 hb hsz))]
    exact n
   ·by_cases hb:b=P
    ·subst hb;exact⟨_,J' _ htb⟩
    ·exact⟨ob,kp b ob hb e⟩
   ·by_cases hb:b=P
    ·subst hb;rw[hP]at e;cases e;exact⟨#[rawInt pos.line,rawInt pos.col,.ref c'],by rw[cG,hps]⟩
    ·refine⟨#[],?_⟩;rw[qG b hb (dz e hnc) (dz e hna),e];simp
   ·have hLP:X.env.locals≠P:=λz=>by have:=I.free;rw[z,hP]at this;cases this
    obtain⟨ol,es,ep,e,r⟩:=hm;exact⟨ol,es,ep,kp _ _ hLP e,r⟩
  refine h h'.objs.size H' _ I' hsz ⟨⟨o,c',QC,⟨_,ctv,ho.symm⟩,Gr⟩,old,λb hb e=>?_,λb ps2 nb e=>?_,⟨ps',cG,?_,λp v e=>?_⟩⟩
  ·rw[qG b (λz=>by rw[z,hP]at e;cases e) (K1 (P7 hb hge)) (K1 (P7 hb hsz))];exact e
  ·rw[qG b nb (dz e hnc) (dz e hna)];exact e
  ·rw[<-hps,XW];exact IU _ ht
  ·rw[<-hps,XW]at e
   rcases QH ps.toList ht e with e|e
   ·obtain⟨d,e1,e2⟩:=hcs p v e;exact⟨d,e1,old d _ e2 rfl⟩
   ·exact⟨c',e,Gr⟩
end
def gp(H:Hp)(F:L->Option Obj):Hp:=λb=>match F b with
 |some o=>O (.cM o (.own 0))
 |none=>H b
def cQ(H:Hp)(F:L->Option Obj):Hp:=λb=>match F b with
 |some _=>U
 |none=>H b
section
variable {H H':Hp}{F:L->Option Obj}{b:L}{o:Obj}{u:HO}
theorem oV(h:F b=O o):gp H F b=O (.cM o (.own 0)):=by unfold gp;rw[h]
theorem kq(h:F b=U):gp H F b=H b:=by unfold gp;rw[h]
theorem rD(h:F b=O o):cQ H F b=U:=by unfold cQ;rw[h]
theorem jW(h:F b=U):cQ H F b=H b:=by unfold cQ;rw[h]
theorem HQ(hF:∀b o,F b=O o->H b=U)(h:H b=O u):F b=U:=by
 cases e:F b with
 |none=>rfl
 |some o=>rw[hF b o e]at h;cases h
theorem kX(hF:∀b o,F b=O o->H b=U)(h:H b=O u):gp H F b=O u:=by rw[kq (HQ hF h)];exact h
end
section
variable {X:Cx}{pins:List (L×Obj)}{Z:St}{H H':Hp}{s s':Ψ}{F:L->Option Obj}
structure HP (X:Cx) (H:Hp) (s:Ψ) (F:L->Option Obj):Prop where
 heap:∀b o,F b=O o->s.heap.get? b=O o
 free:∀b o,F b=O o->H b=U
 high:∀b o,F b=O o->X.s₀.heap.objs.size<=b
 loc:∀b o,F b=O o->b≠X.env.locals
theorem OR(hok:cT P w H h)(hF:∀b o,F b=O o->H b=U)(hh:∀b o,F b=O o->h.get? b=O o):cT P w (gp H F) h:=λb u e=>by
 cases hb:F b with
 |some o =>
  rw[oV hb]at e;cases e;exact⟨hh b o hb,o,hh b o hb⟩
 |none =>
  rw[kq hb]at e;exact(hok b u e).stay (λ_ _ _ z=>z) (λc z=>kX hF z) λc xs z=>kX hF z
theorem OS(I:Inv X pins Z H s)(σ:HP X H s F):qR X.prog X.w X.K X.mg X.base X.A X.stack s (gp H F):=by
 have e:=I.FG;have sz:X.base.objs.size<=X.s₀.heap.objs.size:=I.ok.i9;refine⟨e.frames,e.mod,λb o h=>?_,e.i9,e.iG,λb hb=>?_,OR I.hok σ.free σ.heap,e.bare⟩
 ·obtain⟨h1,h2⟩:=e.bs b o h;refine⟨h1,?_⟩;cases hb:F b with
  |none=>rw[kq hb];exact h2
  |some ob=>exact absurd (P7 (I8 h) (R9 sz (σ.high b ob hb))) (RS _)
 ·cases hF:F b with
  |none=>rw[kq hF];exact e.lU b hb
  |some ob =>
   exfalso
   rcases Bt.mp (I.nM b hb)with z|z
   ·exact σ.loc b ob hF z
   ·obtain⟨_,o2,ho,_⟩:=I.ok.iG.mem z;exact absurd (P7 (I8 ho) (σ.high b ob hF)) (RS _)
theorem ag8{fs:List L}{h:υ}(hF:∀b o,F b=O o->H b=U)(hh:∀b o,F b=O o->h.get? b=O o)(hfs:∀b o,F b=O o->b∉fs)(un:Un fs [] (gp H F) H' h h')(hok:cT P w H' h'):Un fs [] H (cQ H' F) h h'/\cT P w (cQ H' F) h':=by
 have fz:∀b o,F b=O o->H' b=O (.cM o (.own 0)):=λb o e=>un.jD b o _ (oV e)
 have nn:∀{b:L}{u:HO},H b=O u->F b=U:=λe=>HQ hF e
 refine⟨⟨λb o e n hb hx=>?_,λb o e n hb hx=>?_,λb o e n hx=>?_,un.there,λb xs e=>?_,λb o u e=>?_,λb ps e=>?_⟩,λb u e=>?_⟩
 ·cases hb':F b with
  |none=>exact un.keep b o e (by rw[kq hb'];exact n) hb hx
  |some ob =>
   have e1:=hh b ob hb';rw[e]at e1;cases e1;exact(hok b _ (fz b o hb')).1
 ·cases hb':F b with
  |none=>exact un.slot b o e (by rw[kq hb'];exact n) hb hx
  |some ob=>exact absurd hb (hfs b ob hb')
 ·cases hb':F b with
  |none=>rw[jW hb'];exact un.free b o e (by rw[kq hb'];exact n) hx
  |some ob=>exact rD hb'
 ·rw[jW (nn e)];exact un.tups b xs (kX hF e)
 ·rw[jW (nn e)];exact un.jD b o u (kX hF e)
 ·obtain⟨more,z⟩:=un.jX b ps (kX hF e);exact⟨more,by rw[jW (nn e)];exact z⟩
 ·cases hb:F b with
  |some ob=>rw[rD hb]at e;cases e
  |none =>
   rw[jW hb]at e;have st:∀{c:L}{v:HO},H' c=O v->(∀o,v≠.cM o (.own 0))->cQ H' F c=O v:=fun{c v} z n=>by
    cases hc:F c with
    |none=>rw[jW hc];exact z
    |some oc=>rw[fz c oc hc]at z;exact absurd (R4 z).symm (n oc)
   exact(hok b u e).stay (λ_ _ _ z=>z) (λc z=>st z λ_ q=>nomatch q) λc xs z=>st z λ_ q=>nomatch q
theorem ajk(G:eO X.prog X.w X.K X.mg X.base dJ k f fd ps sp)(hr:cu k X.A)(hb:Binds X.K fd ps [])(I:Inv X pins Z H s)(σ:HP X H s F)(r:Vals vs us)(h:sp vs (gp H F) (λv H'=>Q v (cQ H' F)) E0):wpAny (model X.prog X.w) X.A (call (.ref f) us) (EP X pins Z Q) X.xe s:=by
 have hl:us.length=ps.length:=by rw[<-r.length];exact G.len _ _ _ _ h
 have hb':=hb s us I.fY (by rw[SI];exact hl)
 rw[SI]at hb';refine TX (S1 (G.run X.A X.stack s (gp H F) ⟨us,[]⟩ us vs _ E0 hr (OS I σ) hb' r h) λr s' hq=>?_)
 cases r with
 |error e=>exact False.elim hq
 |ok fl =>
  cases fl with
  |ret u =>
   obtain⟨v,H',os,bare,un,hok,rv,q⟩:=hq;obtain⟨Cz,aaH⟩:=ag8 σ.free σ.heap (λb o e hb=>by
    have:=(OS I σ).lU b hb;rw[oV e]at this;cases this) un hok
   exact⟨v,cQ H' F,I.F9 os Cz aaH bare λb z=>absurd z (by simp),rv,q⟩
  |next=>exact False.elim hq
  |brk=>exact False.elim hq
  |cont=>exact False.elim hq
end
section
variable {K:Ξ}{ρ ρ':List L}{H H':Hp}{c c':aa}{F:L->Option Obj}
theorem Cu(W:Wd K ρ H c)(k:∀b u,H b=O u->vM u=ξ->H' b=O u)(t:pF K H'):Ext ρ H ρ H'/\Wd K ρ H' c:=by
 have X:Ext ρ H ρ H':=⟨λ_ _ e=>e,λa o e n z=>⟨k a o e z,n⟩⟩
 refine⟨X,W.nd,W.len,λj a cl e1 e2=>?_,t⟩
 have q:=W.fP j a cl e1 e2;cases cl with
 |lst l =>
  obtain⟨nr,xs,e,r⟩:=q;exact⟨nr,xs,k _ _ e rfl,aL.mono W X l xs r⟩
theorem Il(W:Wd K ρ H c)(hF:∀b o,F b=O o->H b=U):Ext ρ H ρ (gp H F)/\Wd K ρ (gp H F) c :=
 Cu W (λb u e _=>kX hF e) (W.tab.mono (λ_ _ e=>kX hF e) λ_ _ e=>kX hF e)
theorem ja(hF:∀b o,F b=O o->H b=O (.cM o (.own 0)))(e:H b=O u)(n:∀o,u≠.cM o (.own 0)):cQ H F b=O u:=by
 cases hc:F b with
 |none=>rw[jW hc];exact e
 |some oc=>rw[hF b oc hc]at e;exact absurd (R4 e).symm (n oc)
mutual
theorem Rel.cQ(hF:∀b o,F b=O o->H b=O (.cM o (.own 0))):∀(d:D) (v:V),fu d=J->Rel K ρ H d v->Rel K ρ (cQ H F) d v
 |.aF,v,_,h=>h
 |.bl b,v,_,h=>h
 |.int i,v,_,h=>h
 |.str y,v,_,h=>h
 |.ty n,v,_,h=>h
 |.tup l,v,n,h=>by
  obtain⟨a,xs,e,s,r⟩:=h;exact⟨a,xs,e,ja hF s (λ_ z=>nomatch z),aL.cQ hF l xs (by unfold fu at n;exact n) r⟩
 |.lst l,v,n,h=>by
  obtain⟨a,xs,e,s,r⟩:=h;exact⟨a,xs,e,⟨ja hF s.1 (λ_ z=>nomatch z),s.2⟩,aL.cQ hF l xs (by unfold fu at n;exact n) r⟩
 |.ref k,v,_,h=>h
 |.bS l,v,_,h=>by
  obtain⟨a,e,s⟩:=h;refine⟨a,e,?_⟩
  rcases s with⟨s,z⟩|s
  ·rcases s with s|⟨o,s⟩
   ·exact .inl ⟨.inl (ja hF s (λ_ z=>nomatch z)),z⟩
   ·exact .inl ⟨.inr ⟨o,ja hF s (λ_ z=>nomatch z)⟩,z⟩
  ·exact .inr s
 |.fn a n,v,_,h=>h
 |.iZ,v,_,h=>by
  obtain⟨a,e,q⟩:=h;exact⟨a,e,ja hF q (λ_ z=>nomatch z)⟩
 |.dct ks,v,_,h=>by
  obtain⟨a,kvs,e,q,z⟩:=h;exact⟨a,kvs,e,ja hF q (λ_ z=>nomatch z),z⟩
 |.gr ks,v,_,h=>by
  obtain⟨a,as,e,q,z⟩:=h;exact⟨a,as,e,ja hF q (λ_ z=>nomatch z),z.mono λb xs q=>ja hF q (λ_ z=>nomatch z)⟩
 |.exc y,v,_,h=>by
  obtain⟨a,C,e,n,q⟩:=h;exact⟨a,C,e,n,ja hF q (λ_ z=>nomatch z)⟩
 |.lam _ _ _ _,v,n,h=>by unfold fu at n;cases n
theorem aL.cQ(hF:∀b o,F b=O o->H b=O (.cM o (.own 0))):∀(l:List D) (xs:List V),fG l=J->aL K ρ H l xs->aL K ρ (cQ H F) l xs
 |[],xs,_,h=>h
 |d::l,xs,n,h=>by
  obtain⟨y,r,e,h1,h2⟩:=h;unfold fG at n;rw[RT]at n;exact⟨y,r,e,Rel.cQ hF d y n.1 h1,aL.cQ hF l r n.2 h2⟩
end
theorem Ik(W:Wd K ρ H c)(hF:∀b o,F b=O o->H b=O (.cM o (.own 0))):Wd K ρ (cQ H F) c:=by
 refine⟨W.nd,W.len,λj a cl e1 e2=>?_,W.tab.mono (λ_ _ e=>ja hF e (λ_ z=>nomatch z)) λ_ _ e=>ja hF e (λ_ z=>nomatch z)⟩
 have q:=W.fP j a cl e1 e2;cases cl with
 |lst l =>
  obtain⟨nr,xs,e,r⟩:=q;exact⟨nr,xs,ja hF e (λ_ z=>nomatch z),aL.cQ hF l xs (yZ l nr) r⟩
theorem acu(x:Ext ρ (gp H F) ρ' H')(hF:∀b o,F b=O o->H b=U):Ext ρ H ρ' (cQ H' F) :=
 ⟨x.pre,λa o e n t=>by
  obtain⟨h1,h2⟩:=x.keep a o (kX hF e) n t;exact⟨by rw[jW (HQ hF e)];exact h1,h2⟩⟩
theorem acv(x:Ext ρ (cQ H F) ρ' H')(W':Wd K ρ' H' c')(hF:∀b o,F b=O o->H b=O (.cM o (.own 0)))(hn:∀b o,F b=O o->H' b=U):Ext ρ H ρ' (gp H' F) :=
 ⟨x.pre,λa o e n t=>by
  cases hc:F a with
  |some oc =>
   have:=hF a oc hc;rw[e]at this;cases this;exact⟨oV hc,W'.nil (hn a oc hc)⟩
  |none =>
   obtain⟨h1,h2⟩:=x.keep a o (by rw[jW hc];exact e) n t
   exact⟨by rw[kq hc];exact h1,h2⟩⟩
end
end L2
namespace L2
open PySem PySem.Spec PyProof.Rows
structure f7 (X:Cx) (ns:List Str) (js:List Nat) (scope:R5):Prop where
 names:∀x∈scope.names,x.2=.free->X.env.kindOf x.1=O .cell\/X.env.kindOf x.1=O .free
 got:∀(i j:Nat) (x:Str),js[i]? = O j->ns[i]? = O x->(x,NameKind.free)∈scope.names/\X.N[j]? = O x/\(X.env.kindOf x=O .cell\/X.env.kindOf x=O .free)
 all:∀x,(x,NameKind.free)∈scope.names->x∈ns
def Nf(XN:List Str)(xn:List (Str×RJ))(ns:List Str)(js:List Nat)(names:List (Str×RJ)):Bool :=
 names.all (λx=>decide (x.2≠NameKind.free)||((decide (xn.lookup x.1=O NameKind.cell)||decide (xn.lookup x.1=O NameKind.free))&&decide (x.1∈ns))) &&
 (js.zip ns).all (λq=>decide ((q.2,NameKind.free)∈names)&&decide (XN[q.1]? = O q.2)&&(decide (xn.lookup q.2=O NameKind.cell)||decide (xn.lookup q.2=O NameKind.free)))
theorem f7.of{X:Cx}{ns:List Str}{scope:R5}(h:Nf X.N X.env.scope.names ns js scope.names=J):f7 X ns js scope:=by
 unfold Nf at h;simp only[RT,RW,decide_eq_true_eq,SD]at h;obtain⟨h1,h2⟩:=h;refine⟨λx hx e=>?_,λi j x hj hx=>?_,λx hx=>?_⟩
 ·rcases h1 x hx with z|z
  ·exact absurd e z
  ·exact z.1
 ·have hm:(j,x)∈js.zip ns:=by
   have:(js.zip ns)[i]? = O (j,x):=by rw[WN];exact⟨hj,hx⟩
   exact R7 this
  obtain⟨⟨a,b⟩,d⟩:=h2 _ hm;exact⟨a,b,d⟩
 ·rcases h1 _ hx with z|z
  ·exact absurd rfl z
  ·exact z.2
section
variable {X:Cx}{pins:List (L×Obj)}{Z:St}{H:Hp}{s:Ψ}{ns:List Str}{js:List Nat}{scope:R5}
abbrev jJ(X:Cx)(scope:R5):List (Str×L):=gT X.env scope.names []
theorem f7.clos(S:f7 X ns js scope)(I:Inv X pins Z H s):closureFor scope X.env=pure (jJ X scope):=by
 show(_ >>= λcs=>pure cs)=_
 rw[(BH (env:=X.env) scope.names [] λx hx hk=>I.ok.has x.1 (S.names x hx hk)),pure_bind]
theorem f7.cap(S:f7 X ns js scope)(I:Inv X pins Z H s)(h:(jJ X scope).lookup x=O c):(x,NameKind.free)∈scope.names/\X.env.cells.lookup x=O c:=by
 rcases Gx _ _ h with⟨a,b⟩|q
 ·refine⟨a,?_⟩;obtain⟨c',hc⟩:=I.ok.has x (S.names _ a rfl);rw[hc]at b ⊢;rw[b];rfl
 ·cases q
theorem f7.has(S:f7 X ns js scope)(I:Inv X pins Z H s)(h:(x,NameKind.free)∈scope.names):∃c,(jJ X scope).lookup x=O c:=Ur.mp (Gy _ _ (.inr h))
theorem f7.cl(S:f7 X ns js scope)(I:Inv X pins Z H s):xO (jJ X scope) ns:=⟨λx y c h1 h2=>I.ok.inj x y c (S.cap I h1).2 (S.cap I h2).2,λx c h=>S.all x (S.cap I h).1⟩
open Classical in
def oU(cl:List (Str×L))(h:υ):L->Option Obj:=λb=>if ∃x,cl.lookup x=O b then h.get? b else U
theorem zR{cl:List (Str×L)}(e:oU cl h b=O o):(∃x,cl.lookup x=O b)/\h.get? b=O o:=by
 unfold oU at e;split at e
 ·rename_i z;exact⟨z,e⟩
 ·cases e
theorem OO{cl:List (Str×L)}{h:υ}(e:cl.lookup x=O b)(g:h.get? b=O o):oU cl h b=O o:=by
 unfold oU;rw[if_pos ⟨x,e⟩,g]
theorem f7.fz(S:f7 X ns js scope)(I:Inv X pins Z H s)(hfn:∀x,X.fn x=J):HP X H s (oU (jJ X scope) s.heap):=by
 refine⟨λb o e=>(zR e).2,λb o e=>?_,λb o e=>?_,λb o e=>?_⟩
 all_goals
  obtain⟨⟨x,hx⟩,_⟩:=zR e;have hc:=(S.cap I hx).2
 ·exact I.jj x b hc
 ·exact I.ok.nt x b (hfn x) hc
 ·exact I.nk x b hc
theorem f7.cells(S:f7 X ns js scope)(I:Inv X pins Z H s)(i j:Nat)(x:Str)(v:V)(hj:js[i]? = O j)(hx:ns[i]? = O x)(hv:Z[j]? = O (O v)):∃c oc u,(jJ X scope).lookup x=O c/\oU (jJ X scope) s.heap c=O oc/\oc.data=.cell (O u)/\RelV v u:=by
 obtain⟨h1,h2,h3⟩:=S.got i j x hj hx;obtain⟨c,hc⟩:=S.has I h1;obtain⟨m,hm,hl⟩:=I.loc;obtain⟨u,ru,lk⟩:=hl j x v h2 hv (h3.elim (λz=>.inr (.inl z)) λz=>.inr (.inr z))
 rcases lk with⟨k,_⟩|⟨_,c',hc',oc,ho,hd⟩
 ·rcases h3 with z|z<;>(rw[z]at k;cases k)
 ·rw[((S.cap I hc).2)]at hc';cases hc';exact⟨c,oc,u,hc,OO hc ho,hd,ru⟩
structure aeu (H H':Hp) (P:L) (q:Str) (e:μ) (cl:List (Str×L)) (a:L):Prop where
 at':∃o c,H' a=O (.ext (lN a o))/\qO e o q c cl/\H' c=O (.ext (l5 c q))
 keep:∀b u,H b=O u->vM u=ξ->H' b=O u
 tabs:∀b ps,b≠P->H b=O (.cI ps)->H' b=O (.cI ps)
 tab:TabAt H' P q
def aa3(P:L)(q:Str)(e:μ)(cl:List (Str×L)):TE:=λ_ H Q=>TabAt H P q/\∀a H',aeu H H' P q e cl a->Q (.ref a) H'
theorem Lp{params:Sx}{body:μ}{pos:Pos}(S:f7 X ns js scope)(hcode:X.env.code=.ref c)(hq:X.env.qual++"<lambda>"=q)(hC:PySem.W.codeHdIn X.K c P=J)(hdef:defaultsOf params X.env=([],[])):
  PE X (.Lambda params body scope pos) (aa3 P q (.Lambda params body scope pos) (jJ X scope)):=λpins s Z H Q I h =>
 ZH I hcode hq hC h.1 (S.clos I) hdef λa H' s' I' hge N=>⟨.ref a,H',I',rfl,h.2 a H' ⟨N.at',N.keep,N.tabs,N.tab⟩⟩
def aaO(cl:List (Str×L))(ns:List Str)(js:List Nat)(sp:Sp)(t:TA):TE:=λZ H Q=>t Z H λvs H1=>xO cl ns->∀F:L->Option Obj,(∀b o,F b=O o->H1 b=U) ->
 (∀(i j:Nat) (x:Str) (v:V),js[i]? = O j->ns[i]? = O x->Z[j]? = O (O v)->∃c oc u,cl.lookup x=O c/\F c=O oc/\oc.data=.cell (O u)/\RelV v u)->sp vs (gp H1 F) (λv H'=>Q v (cQ H' F)) E0
theorem ali{st:dg}{pos:Pos}(D:Def X.K X.mg x st ps f fd)(G:eO X.prog X.w X.K X.mg X.base dJ k f fd ps sp)(hr:cu k X.A)(S:f7 X ns js scope)(hfn:∀x,X.fn x=J)(ha:PA X (e::es) t)(hg:Gl X x:=by rfl)(hdb:(x==("__debug__":Str))=ξ:=by decide)(he:ε (e::es) X.env=(ξ,eval e X.env)::ε es X.env:=by rfl)(hpl:(Q6 pos (ε es X.env)).any (·.1)=ξ:=by rfl):
  PE X (.Call (.Name x p) (e::es) [] pos) (aaO (jJ X scope) ns js sp t):=by
 intro pins s Z H Q I h;refine Tg (Ea I hg D.at' ?_ hdb);refine Xf (h₀:=X.base) I.ok.mod.mX D.fn.kp (bg (ha pos pins s Z H _ I h) λus s1 ⟨vs,H1,I1,r,q⟩=>⟨I1.fY,?_⟩) he hpl
 exact ajk G hr D.bd I1 (S.fz I1 hfn) r (q (S.cl I1) _ (λb o e=>(S.fz I1 hfn).free b o e) λi j x v h1 h2 h3=>S.cells I1 i j x v h1 h2 h3)
end
def getAll(e:Ev):List Nat->Option (List D)
 |[]=>O []
 |j::js=>match e[j]?,getAll e js with
  |some (O d),O l=>O (d::l)
  |_,_=>U
def AS(k:Nat)(m:List D->aa->R D)(d1:af)(E:μ)(ns:List Str)(js:List Nat):af:=λe c=>(d1 e c).bind λx c=>match getAll e js with
 |some l=>(m [x,.lam k E ns l] c).bind λv c=>if noRef v=J then .ok v c else .bad
 |none=>.bad
section
variable {X:Cx}{K:Ξ}{ρ:List L}{H Hf:Hp}{Z:St}
theorem Ql{cl:List (Str×L)}{F:L->Option Obj}(Vv:cW K ρ H e Z)(hV:∀d v,Rel K ρ H d v->Rel K ρ Hf d v)(hf:∀c o,F c=O o->Hf c=O (.cM o (.own 0))):∀(js:List Nat) (ns:List Str) (l:List D),js.length=ns.length->getAll e js=O l ->
  (∀(i j:Nat) (x:Str) (v:V),js[i]? = O j->ns[i]? = O x->Z[j]? = O (O v)->∃c oc u,cl.lookup x=O c/\F c=O oc/\oc.data=.cell (O u)/\RelV v u)->∃xs,jm Hf cl ns xs/\aL K ρ Hf l xs
 |[],[],l,_,h,_=>by
  unfold getAll at h;cases h;exact⟨[],rfl,rfl⟩
 |j::js,x::ns,l,hl,h,hc=>by
  unfold getAll at h;split at h
  ·rename_i d r hd hr;cases h;obtain⟨v,hv,rv⟩:=Vv.get j d hd;obtain⟨c,oc,u,h1,h2,h3,h4⟩:=hc 0 j x v rfl rfl hv;obtain⟨xs,h5,h6⟩:=Ql Vv hV hf js ns r (Nat.succ.inj hl) hr λi j x v a b d=>hc (i+1) j x v a b d
   exact⟨v::xs,⟨v,xs,c,oc,u,rfl,h1,hf c oc h2,h3,h4,h5⟩,v,xs,rfl,hV d v rv,h6⟩
  ·cases h
 |[],_::_,_,hl,_,_=>by cases hl
 |_::_,[],_,hl,_,_=>by cases hl
def Ec(K:Ξ):List (Str×L):=om.filterMap λx=>(PySem.W.tabIn K x).map λq=>(x,q.2)
def rH(K:Ξ):Bool:=(Ec K).all λa=>(Ec K).all λb=>!(a.2==b.2)||(a.1==b.1)
theorem Jb(h:rH K=J)(hx:x∈om)(hy:y∈om)(tx:PySem.W.tabIn K x=O (c,P))(ty:PySem.W.tabIn K y=O (d,P)):x=y:=by
 unfold rH at h;have m:∀{z:Str}{c:L},z∈om->PySem.W.tabIn K z=O (c,P)->(z,P)∈Ec K:=fun{z c} hz tz=>UH.mpr ⟨z,hz,by rw[tz];rfl⟩
 have:=RW.mp (RW.mp h _ (m hx tx)) _ (m hy ty)
 simpa using this
theorem Wd.Ys(W:Wd K ρ H c)(h:H a=O (.cM o u)):a∉ρ:=λm=>by
 obtain⟨ys,e⟩:=W.at' m;rw[e]at h;cases h
theorem ajX{st:dg}{m:List D->aa->R D}{body:μ}{params:Sx}{scope:R5}{ns:List Str}{pos:Pos}(D:Def X.K X.mg x st ps f fd)(G:eO X.prog X.w X.K X.mg X.base dJ k f fd ps (fk X.K 2 m))(hr:cu k X.A)(EO:aX X e1 d1)(S:f7 X ns js scope)(hjn:js.length=ns.length)(hfn:∀x,X.fn x=J)(hy:y∈om)(ht:PySem.W.tabIn X.K y=O (c,P))(hap:rH X.K=J)(hcode:X.env.code=.ref c)(hq:X.env.qual++"<lambda>"=oj y)(hC:PySem.W.codeHdIn X.K c P=J)(hdef:defaultsOf params X.env=([],[]):=by rfl)(hg:Gl X x:=by rfl)(hdb:(x==("__debug__":Str))=ξ:=by decide)(hs1:ε [e1,.Lambda params body scope kQ] X.env=(ξ,eval e1 X.env)::ε [.Lambda params body scope kQ] X.env:=by exact cR rfl)(hs2:ε [.Lambda params body scope kQ] X.env=(ξ,eval (.Lambda params body scope kQ) X.env)::ε [] X.env:=by exact cR rfl)(hpl:(Q6 pos (ε [.Lambda params body scope kQ] X.env)).any (·.1)=ξ:=by exact gb rfl):
  aX X (.Call (.Name x p) [e1,.Lambda params body scope kQ] [] pos) (AS kk m d1 (.Lambda params body scope kQ) ns js) :=
 PE.imp (ali D G hr S hfn (iS EO (iS (Lp (c:=c) (P:=P) (q:=oj y) S hcode hq hC hdef) jv hs2) hs1) hg hdb hs1 hpl) λZ H Q h=>by
  obtain⟨ρ,e,c0,W,V,pp⟩:=h;refine⟨ρ,e,c0,W,V,post.bind pp λx1 c1 aK H1 v _ W1 X1 r1 p1=>?_⟩
  have V1:=V.mono W X1;refine⟨W1.tab y hy c P ht,λa H' N=>?_⟩
  have CC:pF X.K H':=λz hz d P' tz=>by
   by_cases hP:P'=P
   ·subst hP;rw[Jb hap hz hy tz ht];exact N.tab
   ·exact(W1.tab z hz d P' tz).mono (λps e=>N.tabs P' ps hP e) λc φ e=>N.keep c _ e rfl
  obtain⟨X2,W2⟩:=Cu W1 N.keep CC;intro hcl F hF ET;obtain⟨X3,W3⟩:=Il W2 hF;have QN:=X2.trans X3;split at p1
  ·rename_i l hl;obtain⟨xs,hxs,hrs⟩:=Ql (Hf:=gp H' F) V1 (λd v r=>Rel.mono W1 QN d v r) (λc o e=>oV e) js ns l hjn hl ET
   obtain⟨o,cc,ha,hobj,hcc⟩:=N.at';refine⟨aK,[x1,.lam kk _ ns l],c1,W3,⟨v,[.ref a],rfl,Rel.mono W1 QN x1 v r1,.ref a,[],rfl,⟨a,o,oj y,cc,_,xs,rfl,kX hF ha,hobj,kX hF hcc,hcl,hxs,hrs⟩,rfl⟩,rfl,?_⟩;cases hm:m [x1,.lam kk _ ns l] c1 with
   |bad=>rw[hm]at p1;exact p1.elim
   |ok d c2 =>
    rw[hm,R.aN]at p1;split at p1
    ·rename_i hn;intro ρ' H4 b W4 X4 r4;have fz:∀b o,F b=O o->H4 b=O (.cM o (.own 0)):=λb o e=>(X4.keep b _ (oV e) (W3.Ys (oV e)) rfl).1
     exact p1 ρ' (cQ H4 F) b (Ik W4 fz) (X2.trans (acu X4 hF)) (Rel.cQ fz d b (Mg d hn) r4)
    ·exact p1.elim
  ·exact p1.elim
end
def HV(s:Ψ)(H:Hp)(outer:List Env)(cl:List (Str×L))(ns:List Str)(cs:List V):Prop :=
 cs.length=ns.length/\∀(i:Nat) (x:Str),ns[i]? = O x->∃v c u,cs[i]? = O v/\cl.lookup x=O c/\s.heap.IsCell c (O u)/\RelV v u/\H c=U/\c∉frs outer
def nB(P:ν)(w:τ)(K:Ξ)(mg:Str->Option Δ)(base:υ)(k:Nat)(E:μ)(ns:List Str)(n:Nat)(sp:Sp):Prop :=
 ∀(A:χ) (outer:List Env) (s:Ψ) (H:Hp) (a:L) (o:Obj) (q:Str) (cc:L) (cl:List (Str×L)) (us:List Δ) (vs cs:List V) (Q:VK),cu k A->qR P w K mg base A outer s H->s.heap.get? a=O o->qO E o q cc cl->s.heap.CodeRec (.ref cc) q->xO cl ns ->
  HV s H outer cl ns cs->Vals vs us->vs.length=n->sp (vs++cs) H Q E0->codeAny (model P w) A (.call (.ref a) ⟨us,[]⟩) (CR dJ outer P w H s Q E0) s
def vI(P:ν)(w:τ)(K:Ξ)(mg:Str->Option Δ)(base:υ)(N:List Str)(qual:Str)(scope:R5)(f:L)(cd:Δ)(cl:List (Str×L))(A:χ)(outer:List Env)(s:Ψ)(H:Hp):Cx where
 prog:=P
 w:=w
 K:=K
 mg:=mg
 base:=base
 A:=A.deeper (PySem.W.envX qual scope s.heap.objs.size f cd cl)
 N:=N
 s₀:=s
 H₀:=H
 env:=PySem.W.envX qual scope s.heap.objs.size f cd cl
 outer:=outer
 stack:=PySem.W.envX qual scope s.heap.objs.size f cd cl::outer
 ex:=[]
 calm:=J
 fn:=λ_=>ξ
 pn:=[]
 xe:=λ_ _=>False
structure t7 (ps ns:List Str) (scope:R5):Prop where
 kind:scope.kind=.function
 co:scope.isCoroutine=ξ
 gen:scope.isGenerator=ξ
 nd:(ps++ns).Nodup
 par:∀x∈ps,scope.names.lookup x=O .local
 cap:∀x∈ns,scope.names.lookup x=O .free
 Mb:∀y∈scope.names,y.2≠.cell
 free:∀y∈scope.names,y.2=.free->y.1∈ns
theorem t7.of{ns:List Str}{scope:R5}(h1:scope.kind=.function)(h2:scope.isCoroutine=ξ)(h3:scope.isGenerator=ξ)(h:(decide (ps++ns).Nodup&&ps.all (λx=>decide (scope.names.lookup x=O NameKind.local))&&ns.all (λx=>decide (scope.names.lookup x=O NameKind.free))&&scope.names.all (λy=>decide (y.2≠NameKind.cell)&&(decide (y.2≠NameKind.free)||decide (y.1∈ns))))=J):t7 ps ns scope:=by
 simp only[RT,RW,decide_eq_true_eq,SD]at h;obtain⟨⟨⟨a,b⟩,c⟩,d⟩:=h;exact⟨h1,h2,h3,a,b,c,λy hy=>(d y hy).1,λy hy e=>(d y hy).2.elim (λz=>absurd e z) id⟩
theorem aap:∀{ps:List Str}{us:List Δ},x∉ps->(ps.zip us).reverse.lookup x=U:=fun{ps us} h=>by
 cases e:(ps.zip us).reverse.lookup x with
 |none=>rfl
 |some v=>exact absurd (UG (List.mem_reverse.mp (SH e))).1 h
theorem MP{x:Str}{v:Δ}:∀{l m:List (Str×Δ)},l.lookup x=U->(l++m).lookup x=m.lookup x
 |[],_,_=>rfl
 |(y,u)::l,m,h=>by
  rw[RX]at h;rw[UM,RX];cases hb:x==y with
  |true=>rw[hb]at h;cases h
  |false=>rw[hb]at h;exact MP (v:=v) h
theorem MO:∀{l m:List (Str×Δ)},l.lookup x=O v->(l++m).lookup x=O v
 |(y,u)::l,m,h=>by
  rw[RX]at h;rw[UM,RX];cases hb:x==y with
  |true=>rw[hb]at h;exact h
  |false=>rw[hb]at h;exact MO h
theorem HX:∀{ps:List Str}{us:List Δ}{i:Nat},ps.Nodup->ps[i]? = O x->us[i]? = O v->(ps.zip us).reverse.lookup x=O v
 |p::ps,u::us,0,nd,h1,h2=>by
  cases h1;cases h2;rw[Vf,XU,MP (v:=v) (aap (S0.mp nd).1)];simp
 |p::ps,u::us,i+1,nd,h1,h2=>by
  rw[Vf,XU];exact MO (HX (S0.mp nd).2 (by simpa using h1) (by simpa using h2))
 |[],_,_,_,h1,_=>by simp at h1
 |_::_,[],_,_,_,h2=>by simp at h2
theorem ZG{w:τ}{K:Ξ}{mg:Str->Option Δ}{base:υ}{k:Nat}{params:Sx}{body:μ}{scope:R5}{pos:Pos}{ns:List Str}{sp:Sp}(S:t7 ps ns scope)(hbind:∀(q:Str) (cl:List (Str×L)) (pm cdv ct:Δ) (us:List Δ),us.length=ps.length->bindArgs (PySem.W.kla_fn "<lambda>" q params body scope cl pm cdv ct) ⟨us,[]⟩=pure (ps.zip us))(hb:∀(q:Str) (f:L) (cd:Δ) (cl:List (Str×L)) (A:χ) (outer:List Env) (s:Ψ) (H:Hp) (vs:List V) (Q:VK),cu k (A.deeper (PySem.W.envX q scope s.heap.objs.size f cd cl))->sp vs H Q E0->∃t,PE (vI P w K mg base (ps++ns) q scope f cd cl A outer s H) body t/\t (vs.map O) H Q):
  nB P w K mg base (k+1) (.Lambda params body scope pos) ns ps.length sp:=by
 intro A outer s H a o q cc cl us vs cs Q hr e0 ho hobj hcd hcl hcap rv hlen oN;obtain⟨pm,ctv,rfl⟩:=hobj;have KX:K.In s.heap:=e0.mod.mX.keeps λb o e=>(e0.bs b o e).1
 have lim:s.heap.NoLimit:=e0.mod.nolimit.keeps λb o e=>(e0.bs b o e).1
 refine PySem.W.kla_callFunE hr.depth ho rfl S.co S.gen rfl hcd ?_;rw[hbind q cl pm (.ref cc) ctv us (by rw[<-rv.length];exact hlen)]
 refine ZA (wpAny_newFunctionEnv S.Mb (λy hy=>S.par y.1 (UG hy).1) (λh₁ hns gk=>⟨lim.fresh _ gk,?_⟩) S.kind)
 show codeAny _ _ (.expr body (PySem.W.envX q scope s.heap.objs.size a (.ref cc) cl)) _ _;have hk₁:∀b ob,s.heap.get? b=O ob->h₁.get? b=O ob:=λb ob e=>gk.extBut b ob (K1 (I8 e)) (J' _ e)
 obtain⟨t,ht,hq⟩:=hb q a (.ref cc) cl A outer s H (vs++cs) Q (hr.deeper _) oN;have mU:∀b:L,b∉(vI P w K mg base (ps++ns) q scope a (.ref cc) cl A outer s H).ex:=λb z=>absurd (show b∈([]:List L)from z) (by simp)
 have OC:∀x c,cl.lookup x=O c->∃v u,s.heap.IsCell c (O u)/\RelV v u/\H c=U:=λx c e=>by
  obtain⟨i,hi,ei⟩:=Se.mp (hcl.2 x c e);obtain⟨v,c',u,_,h2,h3,h4,h5,_⟩:=hcap.2 i x (by rw[H8 hi,ei])
  rw[e]at h2;cases h2;exact⟨v,u,h3,h4,h5⟩
 have Nv:∀{c:L}{u:Option Δ},s.heap.IsCell c u->h₁.IsCell c u:=fun{c u} ⟨o,e,d⟩=>⟨o,hk₁ c o e,d⟩
 have I:Inv (vI P w K mg base (ps++ns) q scope a (.ref cc) cl A outer s H) [] ((vs++cs).map O) H {s with heap:=h₁,toks:=s.toks+(ps.zip us).length}:=by
  refine⟨⟨e0.mod,S.kind,rfl,rfl,x6 _,hcl.1,λx hx=>?_,λx c h=>absurd h (by simp[vI]),λ_=>hr.hd,Around.frames_deeper e0.frames,.inr ⟨rfl,rfl⟩,λb z=>absurd z (mU b),e0.bs,e0.i9,λb _ _=>mU b,λb z=>absurd z (mU b),e0.iG,e0.lU⟩,
   rfl,e0.bare,Un.kept hk₁,⟨_,hns,λi x v h1 h2 h3=>?_⟩,λx c h=>?_,e0.hok.fresh (x6 _),λx c h=>?_,λp hp=>absurd (show p∈([]:List (L×Obj))from hp) (by simp),e0.hok.kept hk₁,?_⟩
  ·have hx:scope.names.lookup x=O .cell\/scope.names.lookup x=O .free:=hx
   rcases hx with hx|hx
   ·exact absurd rfl (S.Mb _ (SH hx))
   ·have hm:=S.free _ (SH hx) rfl;obtain⟨i,hi,ei⟩:=Se.mp hm;obtain⟨v,c',u,_,h2,_⟩:=hcap.2 i x (by rw[H8 hi,ei])
    exact⟨c',h2⟩
  ·have h1:(ps++ns)[i]? = O x:=h1;have h2':(vs++cs)[i]? = O v:=by
    rw[RB]at h2;cases e:(vs++cs)[i]? with
    |none=>rw[e]at h2;cases h2
    |some b=>rw[e]at h2;cases h2;rfl
   by_cases hi:i<ps.length
   ·rw[RY hi]at h1;rw[RY ∅]at h2'
    obtain⟨u,hu,ru⟩:=rv.get h2';refine⟨u,ru,.inl ⟨S.par x (R7 h1),?_⟩⟩;exact HX ((Tt.mp S.nd).1) h1 hu
   ·rw[SG ∅]at h1
    rw[SG ∅,hlen]at h2'
    obtain⟨v',c,u,e1,e2,e3,e4,_⟩:=hcap.2 _ x h1;rw[h2']at e1;cases e1;exact⟨u,e4,.inr ⟨.inr (S.cap x (R7 h1)),c,e2,Nv e3⟩⟩
  ·obtain⟨v,u,h3,_⟩:=OC x c h;exact⟨_,Nv h3⟩
  ·obtain⟨v,u,_,_,h5⟩:=OC x c h;exact h5
  ·show((vs++cs).map O).length=(ps++ns).length;rw[P0,Rq,Rq,hlen,hcap.1]
 refine PySem.W.kla_codeExpr (RQ (ht [] _ _ H Q I hq) (λu s' hs=>?_) λe s' hs=>False.elim hs)
 obtain⟨v,H',Γ,ru,q⟩:=hs;exact⟨v,H',Γ.os,Γ.bare,Γ.base,Γ.hok,ru,q⟩
section
variable {M:Model}{A:χ}{E:Δ->Ψ->Prop}{s:Ψ}{env:Env}{pos:Pos}{Q:Δ->Ψ->Prop}
theorem adR{o:Obj}{rest:List μ}(hd:o.data=.func fd)(h:wpAny M A (spliced (Q6 pos (ε (e::rest) env))) (λvs s₁=>s₁.heap.get? a=O o/\wpAny M A (call (.ref a) ([]++vs)) Q E s₁) E s)(he:ε (e::rest) env=(ξ,eval e env)::ε rest env)(hplain:(Q6 pos (ε rest env)).any (·.1)=ξ):
  wpAny M A (callWith pos (.ref a) [] (Q6 pos (ε (e::rest) env)) []) Q E s:=by
 rw[he]at h ⊢;refine PySem.W.callWith_of (P:=λh=>h.get? a=O o) (by show((ξ||(Q6 pos _).any (·.1))||false)=ξ;rw[hplain];rfl) (λh e=>⟨.frame,.inl rfl,?_⟩) (PySem.Calls.evalArgs_plain h)
 obtain⟨oc,od,dt,sl⟩:=o;cases hd;exact(PySem.W.Looks.ld e).andThen PySem.W.Looks.now
end
section
variable {X:Cx}{pins:List (L×Obj)}{Z:St}{H H':Hp}{s s':Ψ}{F:L->Option Obj}
theorem ahb(hok:cT P w H h)(hF:∀b o,F b=O o->H b=O (.cM o (.own 0))):cT P w (cQ H F) h:=λb u e=>by
 cases hb:F b with
 |some o=>rw[rD hb]at e;cases e
 |none =>
  rw[jW hb]at e;exact(hok b u e).stay (λ_ _ _ z=>z) (λc z=>ja hF z λ_ q=>nomatch q) λc xs z=>ja hF z λ_ q=>nomatch q
theorem uw(h:H b=U):cQ H F b=U:=by
 unfold cQ;split<;>first|rfl|exact h
theorem ajl{Ex:μ}{ns:List Str}{cl:List (Str×L)}{cs:List V}(G:nB X.prog X.w X.K X.mg X.base k Ex ns n sp)(hr:cu k X.A)(I:Inv X pins Z H s)(ha:H a=O (.ext (lN a o)))(hobj:qO Ex o q cc cl)(hcc:H cc=O (.ext (l5 cc q)))(hcl:xO cl ns)(hcs:jm H cl ns cs)(r:Vals vs us)(hn:vs.length=n)(h:∀F:L->Option Obj,(∀b o,F b=O o->H b=O (.cM o (.own 0)))->sp (vs++cs) (cQ H F) (λv H'=>(∀b o,F b=O o->H' b=U)->Q v (gp H' F)) E0):
  wpAny (model X.prog X.w) X.A (call (.ref a) us) (EP X pins Z Q) X.xe s:=by
 have hF:∀b ob,oU cl s.heap b=O ob->H b=O (.cM ob (.own 0)):=λb ob e=>by
  obtain⟨⟨x,hx⟩,hg⟩:=zR e;obtain⟨i,hi,ei⟩:=Se.mp (hcl.2 x b hx);obtain⟨v,c,oc,u,_,h2,h3,_⟩:=hcs.get (i:=i) (x:=x) (by rw[H8 hi,ei])
  rw[hx]at h2;cases h2;have:=(I.hok b _ h3).1;rw[hg]at this;cases this;exact h3
 generalize hFd:oU cl s.heap=F at hF
 have e:=I.FG;have nf:∀b ob,F b=O ob->b∉frs X.stack:=λb ob z hb=>by
  have:=I.ym b hb;rw[hF b ob z]at this;cases this
 have cap:HV s (cQ H F) X.stack cl ns cs:=by
  refine⟨hcs.length,λi x hx=>?_⟩
  obtain⟨v,c,oc,u,h1,h2,h3,h4,h5⟩:=hcs.get hx;have hg:=(I.hok c _ h3).1;have hf:F c=O oc:=by rw[<-hFd];exact OO h2 hg
  exact⟨v,c,u,h1,h2,⟨oc,hg,h4⟩,h5,rD hf,nf c oc hf⟩
 refine TX (S1 (G X.A X.stack s (cQ H F) a o q cc cl us vs cs _ hr (⟨e.frames,e.mod,λb o h=>⟨(e.bs b o h).1,uw (e.bs b o h).2⟩,e.i9,e.iG,λb hb=>uw (e.lU b hb),ahb I.hok hF,e.bare⟩) (I.hok a _ ha).1 hobj (I.hok cc _ hcc).1 hcl cap r hn (h F hF)) λrr s' hq=>?_)
 cases rr with
 |error e=>exact False.elim hq
 |ok fl =>
  cases fl with
  |next=>exact False.elim hq
  |brk=>exact False.elim hq
  |cont=>exact False.elim hq
  |ret u =>
   obtain⟨v,H',os,bare,un,hok,rv,q⟩:=hq;have gF:=λb ob z=>(I.hok b _ (hF b ob z)).1
   have hn':=λb ob z=>un.free b ob (gF b ob z) (rD z) (by simp)
   have Fn:∀{b:L},H b=U->F b=U:=fun{b} z=>by
    cases e:F b with
    |none=>rfl
    |some ob=>rw[hF b ob e]at z;cases z
   have old:∀{b:L}{u:HO},H b=O u->(∀o,u≠.cM o (.own 0))->F b=U/\cQ H F b=O u:=fun{b u} z nq=>by
    cases e:F b with
    |none=>exact⟨rfl,by rw[jW e];exact z⟩
    |some ob=>rw[hF b ob e]at z;exact absurd (R4 z).symm (nq ob)
   have Cz:Un (frs X.stack) [] H (gp H' F) s.heap s'.heap:=by
    refine⟨λb o e n hb hx=>un.keep b o e (uw n) hb hx,λb o e n hb hx=>un.slot b o e (uw n) hb hx,λb o e n hx=>?_,un.there,λb xs e=>?_,λb o u e=>?_,λb ps e=>?_⟩
    ·rw[kq (Fn n)];exact un.free b o e (uw n) hx
    ·obtain⟨h1,h2⟩:=old e λ_ z=>nomatch z
     rw[kq h1];exact un.tups b xs h2
    ·cases z:F b with
     |some ob =>
      have:=hF b ob z;rw[e]at this;cases this;exact oV z
     |none=>rw[kq z];exact un.jD b o u (by rw[jW z];exact e)
    ·obtain⟨h1,h2⟩:=old e λ_ z=>nomatch z
     rw[kq h1];exact un.jX b ps h2
   exact⟨v,gp H' F,I.F9 os Cz (OR hok hn' (λb ob z=>un.keep b ob (gF b ob z) (rD z) (nf b ob z) (by simp))) bare λb z=>absurd z (by simp),rv,q hn'⟩
end
open Classical in
def qC(i n:Nat)(cI:List (μ×List Str×(List D->aa->R D)))(a:aj):af:=λe c=>match e[i]? with
 |some (O (.lam k E ns l))=>match cI[k]? with
  |some t=>if E=t.1/\ns=t.2.1 then(a e c).bind λxs c=>if xs.length=n/\fG xs=J/\fG l=J then t.2.2 (xs++l) c else .bad else .bad
  |none=>.bad
 |_=>.bad
theorem ajW{X:Cx}(i:Nat){cI:List (μ×List Str×(List D->aa->R D))}{pos:Pos}(hT:∀t∈cI,∃k,nB X.prog X.w X.K X.mg X.base k t.1 t.2.1 n (fk X.K (n+t.2.1.length) t.2.2)/\cu k X.A)(ha:gv X (e::es) da)(hN:X.N[i]? = O x:=by rfl)(hv:xE X.env.scope x:=by first|exact Or.inl rfl|exact Or.inr (Or.inl rfl)|exact Or.inr (Or.inr rfl))(hd:(x==("__debug__":Str))=ξ:=by decide)(hcd:(x==("__classdict__":Str))=ξ:=by decide)(he:ε (e::es) X.env=(ξ,eval e X.env)::ε es X.env:=by exact cR rfl)(hpl:(Q6 pos (ε es X.env)).any (·.1)=ξ:=by exact gb rfl):
  aX X (.Call (.Name x p) (e::es) [] pos) (qC i n cI da):=by
 intro pins s Z H Q I h;obtain⟨ρ,ev,c,W,Vv,q⟩:=h;unfold qC at q;split at q
 ·rename_i kk Ex ns l hf;obtain⟨v,hσ,rl⟩:=Vv.get i _ hf;obtain⟨a,o,qn,cc,cl,cs,rfl,ha1,hobj,hcc,hcl,hcs,hrs⟩:=id rl;split at q
  ·rename_i t ht;split at q
   ·rename_i hzy;obtain⟨rfl,rfl⟩:=hzy;obtain⟨k,G,hr⟩:=hT _ (R7 ht);refine Tg (bg (Df hN hv hd hcd pins s Z H (λv H1=>v=.ref a/\H1=H) I ⟨_,hσ,rfl,rfl⟩) λu s1 ⟨v,H1,I1,r1,q1⟩=>?_)
    obtain⟨rfl,rfl⟩:=q1;cases r1;have hdata:∃fd,o.data=.func fd:=by
     cases hE:t.1 with
     |Lambda params body scope lp =>
      rw[hE]at hobj;obtain⟨pm,ctv,rfl⟩:=hobj;exact⟨_,rfl⟩
     |_=>rw[hE]at hobj;exact hobj.elim
    obtain⟨fd,hdata⟩:=hdata;refine adR hdata (bg (ha pos pins s1 Z H1 (λvs H2=>∃aK xs c1,Wd X.K aK H2 c1/\Ext ρ H1 aK H2/\aL X.K aK H2 xs vs/\xs.length=n/\fG xs=J/\fG l=J/\post X.K (Rel X.K) (t.2.2 (xs++l) c1) aK H2 Q) I1 ⟨ρ,ev,c,W,Vv,post.bind q λxs c1 aK H2 vs _ W1 X1 r1 p1=>?_⟩) λus s2 ⟨vs,H2,I2,r2,aK,xs,c1,W1,X1,rx,hl,n1,n2,p1⟩=>?_) he hpl
    ·split at p1
     ·rename_i hc;exact⟨aK,xs,c1,W1,X1,r1,hc.1,hc.2.1,hc.2.2,p1⟩
     ·exact p1.elim
    ·obtain⟨a',o',qn',cc',cl',cs',ea,ha2,aaK,aa8,aa5,Oi,N2⟩:=Rel.mono W X1 _ _ rl;cases ea;have eo:o=o':=by
      have g1:=(I2.hok a _ ((X1.keep a _ ha1 (λm=>by obtain⟨ys,z⟩:=W.at' m;rw[z]at ha1;cases ha1) rfl).1)).1
      have g1':=g1;have ON:s2.heap.get? a=O o':=((I2.hok a _ ha2).1);rw[g1']at ON;exact R4 ON
     subst eo;refine⟨(I2.hok a _ ha2).1,?_⟩;refine ajl (cs:=cs') G hr I2 ha2 aaK aa8 aa5 Oi r2 (by rw[rx.length];exact hl) λF hF=>?_
     refine⟨aK,xs++l,c1,Ik W1 hF,aL.append (aL.cQ hF xs vs n1 rx) (aL.cQ hF l cs' n2 N2),by rw[Rq,hl,<-N2.length,Oi.length],?_⟩
     cases hm:t.2.2 (xs++l) c1 with
     |bad=>rw[hm]at p1;exact p1.elim
     |ok d c2 =>
      rw[hm]at p1;intro ρ' H4 b W4 X4 r4 N8;obtain⟨X5,W5⟩:=Il W4 N8;exact p1 ρ' (gp H4 F) b W5 (acv X4 W4 hF N8) (Rel.mono W4 X5 d b r4)
   ·exact q.elim
  ·exact q.elim
 ·exact q.elim
@[simp] theorem ahx(i n:Nat)(cI:List (μ×List Str×(List D->aa->R D)))(a:aj)(e:Ev)(c:aa){Ex:μ}{ns:List Str}{m:List D->aa->R D}(h:e[i]? = O (O (.lam k Ex ns l)))(ht:cI[k]? = O (Ex,ns,m)):qC i n cI a e c=(a e c).bind λxs c=>if xs.length=n/\fG xs=J/\fG l=J then m (xs++l) c else .bad:=by
 unfold qC;rw[h];dsimp only;rw[ht];dsimp only;rw[if_pos ⟨rfl,rfl⟩]
def oq(d:af):List D->aa->R D:=λxs c=>d (xs.map O) c
theorem ai8{K:Ξ}{H:Hp}{xs:List D}(r:aL K ρ H xs vs):cW K ρ H (xs.map O) (vs.map O):=by
 refine⟨λi d h=>?_,by rw[P0,P0,r.length]⟩
 rw[RB]at h;cases e:xs[i]? with
 |none=>rw[e]at h;cases h
 |some y =>
  rw[e]at h;cases h;obtain⟨v,hv,rv⟩:=r.get e;exact⟨v,by rw[RB,hv];rfl,rv⟩
theorem Nd{w:τ}{K:Ξ}{mg:Str->Option Δ}{base:υ}{k:Nat}{params:Sx}{body:μ}{scope:R5}{pos:Pos}{ns:List Str}(S:t7 ps ns scope)(hbind:∀(q:Str) (cl:List (Str×L)) (pm cdv ct:Δ) (us:List Δ),us.length=ps.length->bindArgs (PySem.W.kla_fn "<lambda>" q params body scope cl pm cdv ct) ⟨us,[]⟩=pure (ps.zip us))(hb:∀(q:Str) (f:L) (cd:Δ) (cl:List (Str×L)) (A:χ) (outer:List Env) (s:Ψ) (H:Hp),cu k (A.deeper (PySem.W.envX q scope s.heap.objs.size f cd cl))->aX (vI P w K mg base (ps++ns) q scope f cd cl A outer s H) body d):
  nB P w K mg base (k+1) (.Lambda params body scope pos) ns ps.length (fk K (ps.length+ns.length) (oq d)) :=
 ZG S hbind λq f cd cl A outer s H vs Q hr h=>⟨_,hb q f cd cl A outer s H hr,by
  obtain⟨ρ,xs,c,W,r,hl,p⟩:=h;exact⟨ρ,xs.map O,c,W,ai8 r,p⟩⟩
section
variable {P:ν}{w:τ}{K:Ξ}{mg:Str->Option Δ}{base:υ}
theorem O5{st:dg}{own:Bool}(F:mq K x x st f fd)(hn:π K ι x=O (O (.ref f)))(S:jQ N ps (dG st))(hN:N.length=n)(hm:ps.length=m)(hb:∀(cdv:Δ) (A:χ) (outer:List Env) (s:Ψ) (H:Hp) (E:XK),(∀c P,PySem.W.tabIn K x=O (c,P)->cdv=.ref c)->cu k (A.deeper (envOfC x (dG st) s.heap.objs.size f cdv))->bB (lY dJ P w K mg base N x (dG st) f cdv A outer s H E).lG (iH st) d):
  eO P w K mg base dJ (k+1) f fd ps (fk K m (bA n own d)):=by
 obtain⟨oc,od,kV,doc,pm,an,A1,ct,osl,hfd,lk,hcd⟩:=F.ex;have key:∀(cdv:Δ),(∀(A:χ) (outer:List Env) (s:Ψ) H E,cu k (A.deeper (envOfC x (dG st) s.heap.objs.size f cdv))->bB (lY dJ P w K mg base N x (dG st) f cdv A outer s H E).lG (iH st) d)->cdv=A1->eO P w K mg base dJ (k+1) f fd ps (fk K m (bA n own d)):=by
  intro cdv hb' e;subst e;subst hN;subst hm;subst hfd;refine O7 lk hcd S (λvs H Q E h=>?_) λA outer s H vs Q E hr h=>⟨_,gV.lG (hb' A outer s H E hr),?_⟩
  ·obtain⟨ρ,xs,c,W,r,hl,p⟩:=h;exact r.length.trans hl
  ·obtain⟨ρ,xs,c,W,r,hl,p⟩:=h;refine⟨ρ,bW N.length xs,c,W,cW.start r,post.bind p λfl c1 aK H1 b _ W1 X1 r1 p1=>?_⟩
   cases fl with
   |nx e1 =>
    obtain⟨σ1,rfl,V1⟩:=r1;exact AH (v:=.aF) (x:=.aF) (H1:=H1) W W1 X1 rfl (by
     unfold bA at p;exact id (α:=post K _ (cD own c.length .aF c1) ρ H Q) (by
      rename_i he;rw[he]at p;exact p))
   |rt d =>
    obtain⟨v,rfl,V1⟩:=r1;exact AH (x:=v) (H1:=H1) W W1 X1 V1 (by
     unfold bA at p;rename_i he;rw[he]at p;exact p)
   |bk e1=>exact p1.elim
   |ct e1=>exact p1.elim
 refine key A1 (λA outer s H E hr=>hb A1 A outer s H E (λc P' ht=>?_) hr) rfl
 unfold PySem.W.tabIn at ht;rw[hn]at ht;dsimp only at ht;rw[lk,hfd]at ht;dsimp only at ht;cases A1 with
 |ref c' =>
  dsimp only at ht;split at ht
  ·split at ht
   ·cases ht;rfl
   ·cases ht
  ·cases ht
 |_=>cases ht
end
def aes(H:Hp)(ts:List L):Prop:=∀b,H b=U\/(∃o xs,H b=O (.cM o (.lst xs)))\/(b∈ts/\H b=O (.cI #[]))
theorem ZE{P:ν}{w:τ}{K:Ξ}{mg mb:Str->Option Δ}{fa a:L}{fd:RK}{x:Str}{sp:Sp}{s₁:Ψ}{vs:List Δ}{ns:List Int}{ts:List (L×L)}(KX:K.In s₁.heap)(hns:s₁.heap.Ns ι mg)(hb:s₁.heap.Ns builtinsNs mb)(hbb:∀x:Str,x≠"__name__"->mb x=bootBuiltins x)(hlim:s₁.heap.NoLimit)(hbm:∃bm ob,mg "__builtins__"=O (.ref bm)/\bm≠builtinsNs/\s₁.heap.get? bm=O ob/\ob.cls=.type "module"/\ob.dict=O builtinsNs/\ob.data=.plain)(hg:s₁.gens=#[])(ha:s₁.heap.get? a=O {cls:=.type "list",data:=.seq vs.toArray})(hi:S4 vs ns)(hl:ns.length<=Ω)(hr:cu k callerA)(EV:∀q∈ts,PySem.W.codeHdIn K q.1 q.2=J/\s₁.heap.get? q.2=O (PySem.W.tabObj #[]))(hKt:PySem.W.noTabs K=J)(F:∀base:υ,K.In base->base.Ns ι mg->eO P w K mg base dJ k fa fd [x] sp)(hbind:∀(s:Ψ) (u:Δ),Tc s fd ⟨[u],[]⟩ [(x,u)])(oN:∀H:Hp,(∀q∈ts,H q.2=O (.cI #[]))->bw K H a (ns.map V.int)->sp [.ref a] H (λv _=>v=.bl J) λ_ _ _=>False):
  codeAny (model P w) callerA (.call (.ref fa) ⟨[.ref a],[]⟩) (λr s'=>r=.ok (.ret (.bool J))/\OldK s₁.heap s'.heap/\s'.os=s₁.os/\Sj s'.gens) s₁:=by
 have rv:=Iw hi;have Zo:=hi.length;have oM:∀b,b∈ts.map (·.2)->s₁.heap.get? b=O (PySem.W.tabObj #[]):=λb h=>by
  obtain⟨q,hq,rfl⟩:=AP.mp h;exact(EV q hq).2
 have nat:a∉ts.map (·.2):=λh=>by have:=oM a h;rw[ha]at this;cases this
 have core:∀H:Hp,aes H (ts.map (·.2))->(∀q∈ts,H q.2=O (.cI #[]))->bw K H a (ns.map V.int)->cT P w H s₁.heap->(∀b,H b≠U->b=a\/b∈ts.map (·.2))->(H a≠U->K.lookup a=U) ->
   codeAny (model P w) callerA (.call (.ref fa) ⟨[.ref a],[]⟩) (λr s'=>r=.ok (.ret (.bool J))/\OldK s₁.heap s'.heap/\s'.os=s₁.os/\Sj s'.gens) s₁:=by
  intro H hO hT hS hok hA hK;have Gi:∀{b:L}{o:Obj},s₁.heap.get? b=O o->H b=U->(m8 s₁.heap H).get? b=O o:=λe n=>aaY e n
  have Yr:∀{b:L}{o:Obj},s₁.heap.get? b=O o->o.cls≠.type "list"->o.cls≠.none->H b=U:=fun{b o} e d1 d2=>by
   cases q:H b with
   |none=>rfl
   |some u =>
    rcases hA b (by rw[q];simp)with e'|e'
    ·subst e';rw[ha]at e;cases e;exact absurd rfl d1
    ·rw[oM b e']at e;cases e;exact absurd rfl d2
  have mU:∀{b:L}{o:Obj}{es:Array DictEntry}{ep:Nat},s₁.heap.get? b=O o->o.data=.dict es ep->H b=U:=fun{b o es ep} e d=>by
   cases q:H b with
   |none=>rfl
   |some u =>
    rcases hA b (by rw[q];simp)with e'|e'
    ·subst e';rw[ha]at e;cases e;have d':Data.seq vs.toArray _=Data.dict es ep:=d;cases d'
    ·rw[oM b e']at e;cases e;have d':Data.fields #[]=Data.dict es ep:=d;cases d'
  have yY:∀{b:L}{m:Str->Option Δ},s₁.heap.Ns b m->(m8 s₁.heap H).Ns b m:=fun{b m} ⟨o,es,ep,e,d,r⟩=>⟨o,es,ep,Gi e (mU e d),d,r⟩
  have Oz:K.In (m8 s₁.heap H):=λb o e=>Gi (KX b o e) (by
   cases q:H b with
   |none=>rfl
   |some u =>
    rcases hA b (by rw[q];simp)with e'|e'
    ·subst e';rw[hK (by rw[q];simp)]at e;cases e
    ·have h1:=KX b o e;rw[oM b e']at h1;cases h1;have h2:=RW.mp hKt (b,_) (PySem.W.mem_of_lookupK e);exact absurd (show ξ=J from h2) RH)
  have hM:Mod K mg (m8 s₁.heap H):=⟨Oz,yY hns,⟨mb,yY hb,hbb⟩,let⟨mc,h1,h2⟩:=hlim;⟨mc,yY h1,h2⟩,let⟨bm,ob,b1,b2,b3,b4,b5⟩:=hbm;⟨bm,ob,b1,b2,Gi b3 (Yr b3 (by rw[b4];simp) (by rw[b4];simp)),b4,b5⟩⟩
  have e0:qR P w K mg (m8 s₁.heap H) callerA [] s₁ H:=⟨rfl,hM,λb o e=>alD e,So (aaX _ _),trivial,λb hb=>absurd (show b∈([]:List L)from hb) (by simp),hok,.of_eq hg⟩
  refine S1 ((F _ Oz (yY hns)).run callerA [] s₁ H ⟨[.ref a],[]⟩ [.ref a] [.ref a] _ _ hr e0 (hbind s₁ (.ref a)) (.cons rfl .nil) (oN H hT hS)) λr s' h=>?_
  cases r with
  |error e=>exact False.elim h
  |ok fl =>
   cases fl with
   |next=>exact False.elim h
   |brk=>exact False.elim h
   |cont=>exact False.elim h
   |ret u =>
    obtain⟨v,H',os,bare,un,N6,r',q⟩:=h;have q':v=.bl J:=q;subst q';obtain rfl:u=Value.bool J:=r';have main:∀b o,s₁.heap.get? b=O o->s'.heap.get? b=O o\/(b∈ts.map (·.2)/\o=PySem.W.tabObj #[]/\∃ps,s'.heap.get? b=O (PySem.W.tabObj ps)):=λb o e=>by
     rcases hO b with z|⟨ob,xs,z⟩|⟨hm,z⟩
     ·exact .inl (un.keep b o e z (by intro z;exact absurd (show b∈([]:List L)from z) (by simp)) (by simp))
     ·have z2:=un.jD b ob _ z;obtain⟨e1,_⟩:=hok b _ z;obtain⟨e2,_⟩:=N6 b _ z2;rw[e]at e1;cases e1;exact .inl e2
     ·obtain⟨more,z2⟩:=un.jX b _ z;have e2:s'.heap.get? b=O (PySem.W.tabObj (#[]++more)):=N6 b _ z2;have e1:=oM b hm;rw[e]at e1;cases e1;exact .inr ⟨hm,rfl,_,e2⟩
    refine⟨rfl,⟨λb o e=>?_,λb o e=>?_⟩,os,bare⟩
    ·rcases main b o e with z|⟨hm,rfl,ps,z⟩
     ·exact .inl z
     ·obtain⟨q,hq,rfl⟩:=AP.mp hm;have hC:=XX KX (EV q hq).1;exact .inr (.inl ⟨(hC.tab (EV q hq).2).isCodeTable,rfl,#[],ps,rfl,by rw[Array.empty_append];exact z⟩)
    ·rcases main b o e with z|⟨_,_,ps,z⟩
     ·exact⟨o,z⟩
     ·exact⟨_,z⟩
 have ae5:∀(H:Hp) b,H b=O (.cI #[])->b∈ts.map (·.2)->ff P w H s₁.heap b (.cI #[]):=λH b _ h=>oM b h
 cases hk:K.lookup a with
 |some o =>
  have e:=KX a o hk;rw[ha]at e;cases e
  let H:Hp:=λb=>if b∈ts.map (·.2)then O (.cI #[])else U
  refine core H (λb=>?_) (λq hq=>if_pos (XT hq)) (.inr ⟨_,vs.toArray,_,hk,rfl,rfl,rfl,by rw[Q3,Zo];exact hl,by simpa using rv⟩) (λb u z=>?_) (λb z=>?_) λz=>absurd (if_neg nat) z
  ·by_cases hb:b∈ts.map (·.2)
   ·exact .inr (.inr ⟨hb,if_pos hb⟩)
   ·exact .inl (if_neg hb)
  ·by_cases hb:b∈ts.map (·.2)
   ·have z':=(if_pos hb).symm.trans z;cases z';exact oM b hb
   ·have z':=(if_neg hb).symm.trans z;cases z'
  ·by_cases hb:b∈ts.map (·.2)
   ·exact .inr hb
   ·exact absurd (if_neg hb) z
 |none =>
  let H:Hp:=λb=>if b∈ts.map (·.2)then O (.cI #[])else if b=a then O (.cM {cls:=.type "list",data:=.seq vs.toArray} (.lst (ns.map V.int)))else U
  have Ha:H a=O _:=(if_neg nat).trans (if_pos rfl);refine core H (λb=>?_) (λq hq=>if_pos (XT hq)) (.inl (.inr ⟨_,Ha⟩)) (λb u z=>?_) (λb z=>?_) λ_=>hk
  ·by_cases hb:b∈ts.map (·.2)
   ·exact .inr (.inr ⟨hb,if_pos hb⟩)
   ·by_cases hb2:b=a
    ·exact .inr (.inl ⟨_,_,(if_neg hb).trans (if_pos hb2)⟩)
    ·exact .inl ((if_neg hb).trans (if_neg hb2))
  ·by_cases hb:b∈ts.map (·.2)
   ·have z':=(if_pos hb).symm.trans z;cases z';exact oM b hb
   ·by_cases hb2:b=a
    ·have z':=((if_neg hb).trans (if_pos hb2)).symm.trans z;cases z';subst hb2;exact⟨ha,by rw[P0];exact hl,vs,_,rv,ha⟩
    ·have z':=((if_neg hb).trans (if_neg hb2)).symm.trans z;cases z'
  ·by_cases hb:b∈ts.map (·.2)
   ·exact .inr hb
   ·by_cases hb2:b=a
    ·exact .inl hb2
    ·exact absurd ((if_neg hb).trans (if_neg hb2)) z
def CB(K:Ξ)(ts:List (L×L)):Bool:=om.all λx=>match PySem.W.tabIn K x with
 |some q=>decide (q∈ts)
 |none=>J
theorem aaM{K:Ξ}{H:Hp}(h:CB K ts=J)(hT:∀q∈ts,H q.2=O (.cI #[])):pF K H:=λx hx c P e=>by
 have:=RW.mp h x hx;rw[e]at this;exact⟨#[],hT _ (of_decide_eq_true this),trivial,λpos cv z=>by cases z⟩
theorem agV{l:WX}{loose:List Str}{XP:(Str->Option Δ)->υ->Prop}{YP:τ->υ->Prop}{d:DefRec}{K:Params->Ξ}{m:List D->aa->R D}(hn:l.most=O n)(hn2:n<=Ω)(hdf:d.params.defaults=[])(hr:cu k callerA)(hY:∀(w:τ) (h:υ),YP w h->(K w.params).In h/\∀q∈ts,h.get? q.2=O (PySem.W.tabObj #[]))(hK:∀p,(ts.all λq=>PySem.W.codeHdIn (K p) q.1 q.2)=J/\PySem.W.noTabs (K p)=J/\CB (K p) ts=J)(F:∀(w:τ) (mg:Str->Option Δ) (fa:L) (h:υ),(K w.params).In h->h.Ns ι mg->mg d.name=O (.ref fa) ->
   ∃fd:RK,(∀(s:Ψ) (u:Δ),Tc s fd ⟨[u],[]⟩ [(x,u)]) /\
    ∀base:υ,(K w.params).In base->base.Ns ι mg->eO l.prog w (K w.params) mg base dJ k fa fd [x] (fk (K w.params) 1 m))(hm:∀ns:List Int,ns.length<=n->∃c,m [.bS ns] []=.ok (.bl J) c):
  PySem.W.WalkO q loose XP YP l.row.toRowW d [] (λf vs=>PySem.call f vs):=by
 refine Q2.ad6 hn hdf λw s₀ s₁ mg mb fa o pm cd doc a vs ns G Y ho hd hcd hmg hobj hints hlen hg=>?_
 obtain⟨KX,hT⟩:=hY w _ Y;obtain⟨fd,hb,hF⟩:=F w mg fa _ KX G.T.g hmg;obtain⟨k1,k2,k3⟩:=hK w.params;refine ZE KX G.T.g G.T.b G.T.builtins G.T.nolimit G.T.bmain hg hobj hints (R9 hlen hn2) hr (λq hq=>⟨RW.mp k1 q hq,hT q hq⟩) k2 hF hb λH h1 h2=>?_
 obtain⟨c,hc⟩:=hm ns hlen;refine⟨[],[.bS ns],[],⟨.nil,rfl,λk a cl e=>(by cases e),aaM k3 h1⟩,⟨.ref a,[],rfl,⟨a,rfl,?_⟩,rfl⟩,rfl,?_⟩
 ·rcases h2 with hS|hS
  ·exact .inl ⟨hS,by simp⟩
  ·exact .inr (.inr hS)
 ·rw[hc];exact λρ' H' b _ _ r=>r
structure GdN (Θ:Nat) (l:List (Nat×Int)):Prop where
 nd:(l.map (·.1)).Nodup
 lt:∀p∈l,p.1<Θ
def zD:HO->Bool
 |.dK _=>J
 |.cM _ (.dK _)=>J
 |_=>ξ
section
variable {K:Ξ}{ρ:List L}{H H':Hp}{c:aa}
theorem aiN(k:∀a o,H a=O o->zD o=ξ->H' a=O o){xs:List V}(h:qJ K ρ H a xs):qJ K ρ H' a xs:=by
 rcases h with⟨h,n⟩|h
 ·rcases h with h|⟨o,h⟩
  ·exact .inl ⟨.inl (k a _ h rfl),n⟩
  ·exact .inl ⟨.inr ⟨o,k a _ h rfl⟩,n⟩
 ·exact .inr h
mutual
theorem Rel.nd(k:∀a o,H a=O o->zD o=ξ->H' a=O o):∀(d:D) (v:V),Rel K ρ H d v->Rel K ρ H' d v
 |.aF,v,h=>h
 |.bl b,v,h=>h
 |.int i,v,h=>h
 |.str y,v,h=>h
 |.ty n,v,h=>h
 |.tup l,v,h=>by
  obtain⟨a,xs,e,s,r⟩:=h;exact⟨a,xs,e,k a _ s rfl,aL.nd k l xs r⟩
 |.lst l,v,h=>by
  obtain⟨a,xs,e,s,r⟩:=h;exact⟨a,xs,e,⟨k a _ s.1 rfl,s.2⟩,aL.nd k l xs r⟩
 |.ref _,v,h=>h
 |.bS l,v,h=>by
  obtain⟨a,e,s⟩:=h;exact⟨a,e,aiN k s⟩
 |.fn a n,v,h=>h
 |.iZ,v,h=>by
  obtain⟨a,e,q⟩:=h;exact⟨a,e,k a _ q rfl⟩
 |.dct ks,v,h=>by
  obtain⟨a,kvs,e,q,z⟩:=h;exact⟨a,kvs,e,k a _ q rfl,z⟩
 |.gr ks,v,h=>by
  obtain⟨a,as,e,q,z⟩:=h;exact⟨a,as,e,k a _ q rfl,z.mono λb xs q=>k b _ q rfl⟩
 |.exc y,v,h=>by
  obtain⟨a,C,e,n,q⟩:=h;exact⟨a,C,e,n,k a _ q rfl⟩
 |.lam _ y ns l,v,h=>by
  obtain⟨a,o,q,c,cl,xs,e,h1,h2,h3,h4,h5,h6⟩:=h;exact⟨a,o,q,c,cl,xs,e,k a _ h1 rfl,h2,k c _ h3 rfl,h4,h5.mono (λb o z=>k b _ z rfl),aL.nd k l xs h6⟩
theorem aL.nd(k:∀a o,H a=O o->zD o=ξ->H' a=O o):∀(l:List D) (xs:List V),aL K ρ H l xs->aL K ρ H' l xs
 |[],xs,h=>h
 |d::l,xs,h=>by
  obtain⟨y,r,e,h1,h2⟩:=h;exact⟨y,r,e,Rel.nd k d y h1,aL.nd k l r h2⟩
end
theorem Wd.YG(W:Wd K ρ H c)(k:∀a o,H a=O o->zD o=ξ->H' a=O o):Wd K ρ H' c :=
 ⟨W.nd,W.len,λi a cl e1 e2=>by
  have q:=W.fP i a cl e1 e2;cases cl with
  |lst l =>
   obtain⟨nr,xs,h,r⟩:=q;exact⟨nr,xs,k a _ h rfl,aL.nd k l xs r⟩,W.tab.mono (λP ps e=>k P _ e rfl) λc φ e=>k c _ e rfl⟩
end
end L2
namespace L2
open PySem PySem.Spec PyProof.Rows
theorem akz{α β:Type}{K:Ξ}{Rl:List L->Hp->α->β->Prop}{r:R α}{H H1:Hp}{Q:β->Hp->Prop}(x:Ext ρ H aK H1)(p:post K Rl r ρ H Q):post K Rl r aK H1 Q:=by
 cases r with
 |ok a c=>exact λρ' H' b W X R=>p ρ' H' b W (x.trans X) R
 |bad=>exact p
theorem aik:10000<Ω:=⋯
section
variable {X:Cx}{pins:List (L×Obj)}{Z:St}{H:Hp}{s:Ψ}
theorem Inv.Lf(Γ:Inv X pins Z H s)(hS:s.heap.get? S=O oS)(hI:s.heap.get? I=O oI)(fS:eN X pins H S)(fI:eN X pins H I)(nS:∀v,oS.data≠.cell v)(nI:∀v,oI.data≠.cell v):Inv X (pins++[(S,oS),(I,oI)]) Z H s :=
 Γ.uU λp hp=>by
  rcases RI.mp hp with hp|hp
  ·exact Γ.pin p (RP _ hp)
  ·rcases Bt.mp hp with rfl|hp
   ·exact⟨hS,fS.1,fS.2.1,fS.2.2.1,nS⟩
   ·rw[RE.mp hp];exact⟨hI,fI.1,fI.2.1,fI.2.2.1,nI⟩
def HK(X:Cx)(Z:St)(xs:List V)(q:L)(kf:Nat->Int)(Rk:Hp->Prop):Prop :=
 ∀(i:Nat) (x:V) (u:Δ),xs[i]? = O x->RelV x u->∀(pins:List (L×Obj)) (H:Hp) (s:Ψ),Rk H->Inv X pins Z H s ->
  wpAny (model X.prog X.w) X.A.in1 (call (.ref q) [u]) (λr s'=>∃t H',r=.int (kf i) t/\Rk H'/\Inv X pins Z H' s') (λ_ _=>False) s
theorem eN.at'(f:eN X pins H b)(h:H' b=U):eN X pins H' b:=⟨h,f.2⟩
theorem Y0{xs:List V}{R:Result->Ψ->Prop}(kf:Nat->Int)(Rk:Hp->Prop)(hh:X.A.handled=U)(jB:∀H,Rk H->bw X.K H l xs)(hSI:S≠I)(turn:HK X Z xs q kf Rk)(hR:∀(i:Nat) (x:V) (u:Δ) (H:Hp) (s:Ψ),xs[i]? = O x->RelV x u->(∀j,j<xs.length->kf i ≥ kf j/\(j<i->kf i>kf j))->Rk H->Inv X pins Z H s->R (.ok (.ret u)) s):
  ∀(r j i:Nat) (H:Hp) (s:Ψ) (xb:V) (vb:Δ) (tb:Tok) (c:Nat),xs.length-(j+1)=r->j+1<=xs.length->Rk H->Inv X pins Z H s->s.heap.get? S=O (seqObj "list" #[vb,.int (kf i) tb] c)->s.heap.IsListIter I l (j+1)->eN X pins H S->eN X pins H I ->
   xs[i]? = O xb->RelV xb vb->i<=j->(∀j',j'<=j->kf i ≥ kf j'/\(j'<i->kf i>kf j')) ->
   codeAny (model X.prog X.w) X.A (.builtin "max.loop" ⟨[.ref I,.ref q,.ref S],[]⟩) R s:=by
 have hname:(toString "max"++toString ".loop":String)="max.loop":=⋯
 intro r
 induction r with
 |zero =>
  intro j i H s xb vb tb c hr hj hk Γ hS hit fS fI hxb rb hij tG;have hin:j+1=xs.length:=∅
  obtain⟨its,rv,p,hz⟩:=Γ.list (jB H hk);have hl:=rv.length;refine S7 W0 ?_;rw[TH T6 _];refine Rc (SA hS rfl ?_);refine Rc (Tn (Xi hh hit p.isList (by simp;omega) λh' eb=>?_))
  have hS':=eb S _ hSI hS;have J1:Inv X pins Z H {s with heap:=h'}:=Γ.turned (t':=s.toks) (λb o hb e=>eb b o hb e) fI.1 fI.2.1 fI.2.2.2.1 fI.2.2.2.2.1 fI.2.2.2.2.2
  have s1:=Ry h' S (Obj.mapSeq λ_=>(#[]:Array Δ))
  refine Rc ?_;refine Vz hS' rfl (Rc (V5 (ZA ?_)));refine hR i xb vb H _ hxb rb (λj' hj'=>tG j' ∅) hk ?_
  exact J1.turned (t':=s.toks) (λb o hb e=>(s1.2 b hb).trans e) fS.1 fS.2.1 fS.2.2.2.1 fS.2.2.2.2.1 fS.2.2.2.2.2
 |succ r ih =>
  intro j i H s xb vb tb c hr hj hk Γ hS hit fS fI hxb rb hij tG;have hlt:j+1<xs.length:=∅
  obtain⟨its,rv,p,hz⟩:=Γ.list (jB H hk);have hl:=rv.length;obtain⟨u,hu,ru⟩:=rv.get (H8 hlt);refine S7 W0 ?_;rw[TH T6 _];refine Rc (SA hS rfl ?_);refine Rc (Tn (WH hit p.isList (x:=u) (by simpa using hu) λh' st' sb=>?_))
  have J1:Inv X pins Z H {s with heap:=h'}:=Γ.turned (t':=s.toks) (λb o hb e=>(sb.2 b hb).trans e) fI.1 fI.2.1 fI.2.2.2.1 fI.2.2.2.2.1 fI.2.2.2.2.2
  have hS':h'.get? S=O (seqObj "list" #[vb,.int (kf i) tb] c):=(sb.2 S hSI).trans hS;obtain⟨sf,EG,hoc,hod⟩:=id st';have J2:=J1.Lf hS' EG fS fI (λv z=>by cases z) (λv z=>by rw[hod]at z;cases z)
  refine Rc (Tn (RU (RQ (turn (j+1) _ u (H8 hlt) ru _ H _ hk J2) (λx s'' he=>?_) λ_ _ hF=>hF.elim)))
  obtain⟨t2,H2,rfl,hk2,J3⟩:=he;have pS:=J3.pin (S,seqObj "list" #[vb,.int (kf i) tb] c) (RP _ (RP _ (.head _)));have pI:=J3.pin (I,sf) (RP _ (RP _ (.tail _ (.head _))));have J4:Inv X pins Z H2 s'':=J3.pN;have jk:=fS.at' pS.2.1;have AG:=fI.at' pI.2.1;have aaV:s''.heap.IsListIter I l (j+1+1):=⟨sf,pI.1,hoc,hod⟩;refine Rc (Tn (RU (Rc (CmpOf.ints_gt (prog:=X.prog) (w:=X.w) (A:=X.A.in1) kf (λi v h=>h) (j+1) i _ _ _ _ _ ⟨t2,rfl⟩ ⟨tb,rfl⟩ ?_))))
  refine Rc (RU (Sg ?_));refine Rc (V5 (ZA ?_))
  by_cases hb':kf (j+1)>kf i
  ·have s1:=Ry s''.heap S (Obj.mapSeq λ_=>#[u,.int (kf (j+1)) t2])
   obtain⟨c2,hc2⟩:∃c2,(s''.heap.update S _).get? S=O (seqObj "list" #[u,.int (kf (j+1)) t2] c2):=⟨_,T8 pS.1 λ_=>#[u,.int (kf (j+1)) t2]⟩
   simp only[hb',decide_true,if_true];refine Rc ?_;refine Vz pS.1 rfl (Rc (V5 ?_));rw[hname];refine ZA ⟨TF T6 _,ih (j+1) (j+1) H2 _ _ u t2 c2 ∅ hlt hk2 (J4.turned (t':=s''.toks) (λb o hb e=>(s1.2 b hb).trans e) jk.1 jk.2.1 jk.2.2.2.1 jk.2.2.2.2.1 jk.2.2.2.2.2) hc2 ⟨sf,(s1.2 I hSI.symm).trans pI.1,hoc,hod⟩ jk AG (H8 hlt) ru (x6 _) λj' hj'=>?_⟩
   by_cases e:j'=j+1
   ·subst e;exact⟨∅,λ_=>∅⟩
   ·have hb1:=tG j' ∅
    have hb2:=hb1.1;exact⟨∅,λ_=>∅⟩
  ·simp only[hb',decide_false,Ra,if_false];refine Rc (V5 ?_);rw[hname];refine ZA ⟨TF T6 _,ih (j+1) i H2 s'' xb vb tb c ∅ hlt hk2 J4 pS.1 aaV jk AG hxb rb ∅ λj' hj'=>?_⟩
   by_cases e:j'=j+1
   ·subst e;exact⟨∅,λ_=>∅⟩
   ·exact tG j' ∅
theorem YZ{xs:List V}{Q:Δ->Ψ->Prop}{E:Δ->Ψ->Prop}(kf:Nat->Int)(Rk:Hp->Prop)(hh:X.A.handled=U)(jB:∀H,Rk H->bw X.K H l xs)(turn:HK X Z xs q kf Rk)(hne:0<xs.length)(hk:Rk H)(Γ:Inv X pins Z H s)(hQ:∀(i:Nat) (x:V) (u:Δ) (H:Hp) (s:Ψ),xs[i]? = O x->RelV x u->(∀j,j<xs.length->kf i ≥ kf j/\(j<i->kf i>kf j))->Rk H->Inv X pins Z H s->Q u s):
  wpAny (model X.prog X.w) X.A (call (.builtin "max") [.ref l] [(Str.ofString "key",.ref q)]) Q E s:=by
 have hname:(toString "max"++toString ".loop":String)="max.loop":=⋯
 obtain⟨its,rv,p,hz⟩:=Γ.list (jB H hk);have hls:=p.isList;have hl:=rv.length;have hlt:0<xs.length:=hne;refine kmk_tree PySem.F.kind_max PySem.F.plain_max PySem.F.entry_max (kmk_max_key _ _) ?_;refine Rc (TQ (show Builtin.Builtins.bindParams "max" ["key","default"] 0 ⟨[],[(Str.ofString "key",.ref q)]⟩=pure [O (.ref q),U]from rfl) ?_)
 refine Rc (ZA ?_);refine Rc (Sf hls ?_);refine Rc (VN ?_ (RM _));rw[hname];have hS:(s.heap.push {cls:=.type "list_iterator",data:=.fields #[.ref l,.int 0 0]}).objs.size=s.heap.objs.size+1:=size_push' ..;refine ZA ⟨TF T6 _,?_⟩;have gI:((s.heap.push {cls:=.type "list_iterator",data:=.fields #[.ref l,.int 0 0]}).push (seqObj "list" #[] 0)).get? s.heap.objs.size=O {cls:=.type "list_iterator",data:=.fields #[.ref l,.int 0 0]} :=
  J' _ (Q4 _ rfl)
 have gS:((s.heap.push {cls:=.type "list_iterator",data:=.fields #[.ref l,.int 0 0]}).push (seqObj "list" #[] 0)).get? (s.heap.push {cls:=.type "list_iterator",data:=.fields #[.ref l,.int 0 0]}).objs.size=O (seqObj "list" #[] 0):=Q4 _ rfl;have J0:Inv X pins Z H {s with heap:=(s.heap.push {cls:=.type "list_iterator",data:=.fields #[.ref l,.int 0 0]}).push (seqObj "list" #[] 0)}:=Γ.kept (t':=s.toks) λb o e=>J' _ (J' _ e)
 have fI:eN X pins H s.heap.objs.size:=Γ.tM (x6 _) (Γ.hok.fresh (x6 _));have fS:eN X pins H (s.heap.push {cls:=.type "list_iterator",data:=.fields #[.ref l,.int 0 0]}).objs.size:=Γ.tM (by rw[hS];omega) (Γ.hok.fresh (by rw[hS];omega))
 have hSI:(s.heap.push {cls:=.type "list_iterator",data:=.fields #[.ref l,.int 0 0]}).objs.size≠s.heap.objs.size:=by rw[hS];exact Rn (Rt _)
 generalize (s.heap.push {cls:=.type "list_iterator",data:=.fields #[.ref l,.int 0 0]}).objs.size=S at gS fS hSI
 generalize hI:s.heap.objs.size=I at gI fI hSI
 refine S7 W0 ?_;rw[TH T6 _];refine Rc (SA gS rfl ?_);obtain⟨its2,ajn,p2,hz2⟩:=J0.list (jB H hk);obtain⟨u,hu,ru⟩:=ajn.get (H8 hlt);refine Rc (Tn (WH ⟨_,gI,rfl,rfl⟩ p2.isList (x:=u) (by simpa using hu) λh' st' sb=>?_))
 have J1:Inv X pins Z H {s with heap:=h'}:=J0.turned (t':=s.toks) (λb o hb e=>(sb.2 b hb).trans e) fI.1 fI.2.1 fI.2.2.2.1 fI.2.2.2.2.1 fI.2.2.2.2.2
 obtain⟨sf,EG,hoc,hod⟩:=id st';have J2:=J1.Lf ((sb.2 S hSI).trans gS) EG fS fI (λv z=>by cases z) (λv z=>by rw[hod]at z;cases z)
 refine Rc (Tn (RU (RQ (turn 0 _ u (H8 hlt) ru _ H _ hk J2) (λx s'' he=>?_) λ_ _ hF=>hF.elim)))
 obtain⟨t2,H2,rfl,hk2,J3⟩:=he;have pS:=J3.pin (S,seqObj "list" #[] 0) (RP _ (RP _ (.head _)));have pI:=J3.pin (I,sf) (RP _ (RP _ (.tail _ (.head _))));have J4:Inv X pins Z H2 s'':=J3.pN;have jk:=fS.at' pS.2.1;have AG:=fI.at' pI.2.1;have s1:=Ry s''.heap S (Obj.mapSeq λ_=>#[u,.int (kf 0) t2])
 obtain⟨c2,hc2⟩:∃c2,(s''.heap.update S (Obj.mapSeq λ_=>#[u,.int (kf 0) t2])).get? S=O (seqObj "list" #[u,.int (kf 0) t2] c2):=⟨_,T8 pS.1 λ_=>#[u,.int (kf 0) t2]⟩
 refine Rc ?_;refine Vz pS.1 rfl ?_;rw[hname];refine ZA ⟨TF T6 _,Y0 kf Rk hh jB hSI turn hQ _ 0 0 H2 _ _ u t2 c2 rfl hne hk2 (J4.turned (t':=s''.toks) (λb o hb e=>(s1.2 b hb).trans e) jk.1 jk.2.1 jk.2.2.2.1 jk.2.2.2.2.1 jk.2.2.2.2.2) hc2 ⟨sf,(s1.2 I hSI.symm).trans pI.1,hoc,hod⟩ jk AG (H8 hlt) ru (x6 _) λj' hj'=>?_⟩
 have e:j'=0:=∅
 subst e;exact⟨UN _,λz=>absurd z (RS _)⟩
end
section
variable {X:Cx}{ns:List Str}{js:List Nat}{scope:R5}
theorem Qk{K:Ξ}{H:Hp}{Z:St}(Vv:cW K ρ H e Z):∀(js:List Nat) (l:List D),getAll e js=O l->∃cs,aL K ρ H l cs/\cs.length=js.length/\∀(i j:Nat),js[i]? = O j->∃v,cs[i]? = O v/\Z[j]? = O (O v)
 |[],l,h=>by
  unfold getAll at h;cases h;exact⟨[],rfl,rfl,λi j z=>by simp at z⟩
 |j::js,l,h=>by
  unfold getAll at h;split at h
  ·rename_i d r hd hr;cases h;obtain⟨v,hv,rv⟩:=Vv.get j d hd;obtain⟨cs,h1,h2,h3⟩:=Qk Vv js r hr;refine⟨v::cs,⟨v,cs,rfl,rv,h1⟩,by simp[h2],λi k z=>?_⟩
   cases i with
   |zero=>cases z;exact⟨v,rfl,hv⟩
   |succ i=>exact h3 i k z
  ·cases h
theorem ZQ{K:Ξ}(hK:X.K=K){Z:St}{H0:Hp}{xs:List V}{m:List D->aa->R D}{k:Nat}{Ex:μ}{a cc:L}{o:Obj}{kf:Nat->Int}(G:nB X.prog X.w X.K X.mg X.base k Ex ns 1 (fk X.K (1+ns.length) m))(hr:cu (k+1) X.A)(S:f7 X ns js scope)(hjn:js.length=ns.length)(hfn:∀x,X.fn x=J)(W:Wd X.K qW H0 c)(V:cW X.K qW H0 e Z)(hl:getAll e js=O l)(rx:aL X.K qW H0 jn xs)(ha:H0 a=O (.ext (lN a o)))(hobj:qO Ex o q cc (jJ X scope))(hcc:H0 cc=O (.ext (l5 cc q)))(hkey:∀i d,jn[i]? = O d->m ([d]++l) c=.ok (.int (kf i)) c):
  HK X Z xs a kf (λH=>∃aK,Wd X.K aK H c/\Ext qW H0 aK H):=by
 intro i x u hx ru pins H s hRk Γ;obtain⟨aK,W1,X1⟩:=hRk;obtain⟨cs,h1,h2,h3⟩:=Qk V js l hl;have hi:i<jn.length:=by rw[<-rx.length];exact(Q9.mp hx).1
 obtain⟨x',hx',rd⟩:=aL.get rx (i:=i) (d:=jn[i]) (H8 hi);rw[hx]at hx';cases hx';have Mj:∀{b:L}{φ:υ->Prop},H0 b=O (.ext φ)->b∉qW:=fun{b φ} z mm=>by
  obtain⟨ys,z2⟩:=W.at' mm;rw[z2]at z;cases z
 have ha':H a=O (.ext (lN a o)):=(X1.keep a _ ha (Mj ha) rfl).1;have aa9:H cc=O (.ext (l5 cc q)):=(X1.keep cc _ hcc (Mj hcc) rfl).1;have cap:HV s H X.stack (jJ X scope) ns cs:=by
  refine⟨by rw[h2,hjn],λn y hy=>?_⟩
  have hn:n<js.length:=by rw[hjn];exact(Q9.mp hy).1
  obtain⟨v,hv1,hv2⟩:=h3 n js[n] (H8 hn);obtain⟨cl,oc,w,e1,e2,e3,e4⟩:=S.cells Γ n js[n] y v (H8 hn) hy hv2;have hc:=(S.cap Γ e1).2;refine⟨v,cl,w,hv1,e1,⟨oc,(zR e2).2,e3⟩,e4,Γ.jj y cl hc,λhb=>?_⟩
  rcases Bt.mp (Γ.nM cl hb)with z|z
  ·exact Γ.nk y cl hc z
  ·obtain⟨_,o2,ho,_⟩:=Γ.ok.iG.mem z;exact absurd (P7 (I8 ho) (Γ.ok.nt y cl (hfn y) hc)) (RS _)
 have e0:qR X.prog X.w X.K X.mg X.base X.A.in1 X.stack s H:=⟨Γ.ok.frames,Γ.ok.mod,Γ.bs,R9 Γ.ok.i9 Γ.sz,Γ.stack,Γ.ym,Γ.hok,Γ.bare⟩;have rl:aL X.K aK H ([jn[i]]++l) ([x]++cs):=⟨x,cs,rfl,Rel.mono W X1 _ _ rd,aL.mono W X1 _ _ h1⟩;refine TX (S1 (G X.A.in1 X.stack s H a o q cc (jJ X scope) [u] [x] cs (λv H'=>v=.int (kf i)/\∃aK,Wd X.K aK H' c/\Ext qW H0 aK H') hr.in1 e0 (Γ.hok a _ ha').1 hobj (Γ.hok cc _ aa9).1 (S.cl Γ) cap (.cons ru .nil) rfl ⟨aK,[jn[i]]++l,c,W1,rl,by
   have:=h1.length;simp;omega,?_⟩) λrr s' hq=>?_)
 ·rw[hkey i _ (H8 hi)];intro ρ' H' b W' X' r';exact⟨r',ρ',W',X1.trans X'⟩
 ·cases rr with
  |error e=>exact False.elim hq
  |ok fl =>
   cases fl with
   |next=>exact False.elim hq
   |brk=>exact False.elim hq
   |cont=>exact False.elim hq
   |ret u' =>
    obtain⟨v,H',agB,rv,hv,hk⟩:=Γ.after hq;subst hv;obtain⟨t,rfl⟩:=rv;exact⟨t,H',rfl,hk,agB⟩
open Classical in
def lP(m:List D->aa->R D)(l:List D)(c:aa):List D->Option (List Int)
 |[]=>O []
 |x::xs=>match m ([x]++l) c with
  |.ok (.int k) c'=>if c'=c then(lP m l c xs).map (k :: ·)else U
  |_=>U
theorem Nr{m:List D->aa->R D}:∀{xs:List D}{ks:List Int},lP m l c xs=O ks->ks.length=xs.length/\∀i d,xs[i]? = O d->m ([d]++l) c=.ok (.int (ks.getD i 0)) c
 |[],ks,h=>by
  unfold lP at h;cases h;exact⟨rfl,λi d z=>by simp at z⟩
 |x::xs,ks,h=>by
  unfold lP at h;split at h
  ·rename_i k c' hm;split at h
   ·rename_i hc;subst hc;cases hr:lP m l c' xs with
    |none=>rw[hr]at h;cases h
    |some ks' =>
     rw[hr]at h;cases h;obtain⟨h1,h2⟩:=Nr hr;refine⟨by simp[h1],λi d z=>?_⟩
     cases i with
     |zero=>cases z;exact hm
     |succ i=>exact h2 i d z
   ·cases h
  ·cases h
def qU(ks:List Int)(n i:Nat):Prop:=i<n/\∀j,j<n->ks.getD i 0 ≥ ks.getD j 0/\(j<i->ks.getD i 0>ks.getD j 0)
theorem qU.one(h:qU ks n i)(h':qU ks n j):i=j:=by
 rcases TM i j with z|z|z
 ·have:=(h'.2 i h.1).2 z;have:=(h.2 j h'.1).1;omega
 ·exact z
 ·have:=(h.2 j h'.1).2 z;have:=(h'.2 i h.1).1;omega
open Classical in
def bestOf(xs:List D)(ks:List Int):Option D:=if h:∃i,qU ks xs.length i then xs[Classical.choose h]? else U
theorem QB{xs:List D}(h:qU ks xs.length i)(hd:xs[i]? = O d):bestOf xs ks=O d:=by
 have hx:∃i,qU ks xs.length i:=⟨i,h⟩;unfold bestOf
 rwa[dif_pos hx,(Classical.choose_spec hx).one h]
def wN(m:List D->aa->R D)(d1:af)(js:List Nat):af:=λe c=>(d1 e c).bind λx c=>match x,getAll e js with
 |.lst xs,O l=>if 0<xs.length then(match lP m l c xs with
   |some ks=>(match bestOf xs ks with
    |some d=>.ok d c
    |none=>.bad)
   |none=>.bad)else .bad
 |_,_=>.bad
theorem ad2:bootBuiltins "max"=O (.builtin "max"):=by decide +kernel
theorem alc{m:List D->aa->R D}{body:μ}{params:Sx}{pos:Pos}(hm:X.mg "max"=U)(EO:aX X e1 d1)(G:nB X.prog X.w X.K X.mg X.base k (.Lambda params body scope kQ) ns 1 (fk X.K (1+ns.length) m))(hr:cu (k+1) X.A)(S:f7 X ns js scope)(hjn:js.length=ns.length)(hfn:∀x,X.fn x=J)(hy:y∈om)(ht:PySem.W.tabIn X.K y=O (c,P))(hap:rH X.K=J)(hcode:X.env.code=.ref c)(hq:X.env.qual++"<lambda>"=oj y)(hC:PySem.W.codeHdIn X.K c P=J)(hdef:defaultsOf params X.env=([],[]):=by rfl)(hg:Gl X "max":=by rfl)(hs1:ε [e1] X.env=(ξ,eval e1 X.env)::ε [] X.env:=by exact cR rfl)(he:Q6 pos (ε [e1] X.env)=(ξ,eval e1 X.env)::Q6 pos (ε [] X.env):=by rfl)(hplain:(Q6 pos (ε [e1] X.env)).any (·.1)=ξ:=by rfl):
  aX X (.Call (.Name "max" p) [e1] [⟨O "key",.Lambda params body scope kQ,kp⟩] pos) (wN m d1 js):=by
 intro pins s Z H Q I h;obtain⟨ρ,e,c0,W,V,pp⟩:=h;refine Tg (oi I hg hm ad2 ?_);refine callWith_kw (bg (iS EO jv hs1 pos pins s Z H (λvs H1=>∃v x1 c1 aK,vs=[v]/\Wd X.K aK H1 c1/\Ext ρ H aK H1/\Rel X.K aK H1 x1 v/\post X.K (Rel X.K) (match x1,getAll e js with
 |.lst xs,O l=>if 0<xs.length then(match lP m l c1 xs with
   |some ks=>(match bestOf xs ks with
    |some d=>.ok d c1
    |none=>.bad)
   |none=>.bad)else .bad
 |_,_=>.bad) aK H1 Q) I ⟨ρ,e,c0,W,V,post.bind pp λx1 c1 aK H1 v _ W1 X1 r1 p1=>⟨v,x1,c1,aK,rfl,W1,X1,r1,p1⟩⟩) λus s1 ⟨vs,H1,I1,r1,v,x1,c1,aK,ev,W1,X1,rv,p1⟩=>?_) he hplain
 subst ev;have V1:=V.mono W X1;cases x1 with
 |lst jn =>
  obtain⟨a,xs,rfl,⟨hxs,hna⟩,rl⟩:=rv;obtain⟨u1,rfl,ajg⟩:=r1.one;cases ajg;cases hl:getAll e js with
  |none=>rw[hl]at p1;exact p1.elim
  |some l =>
   rw[hl]at p1;dsimp only at p1
   by_cases hpos:0<jn.length
   ·rw[if_pos hpos]at p1;cases hk:lP m l c1 jn with
    |none=>rw[hk]at p1;exact p1.elim
    |some ks =>
     rw[hk]at p1;dsimp only at p1;obtain⟨Ob,hkey⟩:=Nr hk;refine kws_cons (bg (Lp (c:=c) (P:=P) (q:=oj y) S hcode hq hC hdef pins s1 Z H1 (λv2 H2=>∃b o cc,v2=.ref b/\Wd X.K aK H2 c1/\Ext aK H1 aK H2/\H2 b=O (.ext (lN b o))/\qO (.Lambda params body scope kQ) o (oj y) cc (jJ X scope)/\H2 cc=O (.ext (l5 cc (oj y)))) I1 ⟨W1.tab y hy c P ht,λb H' N=>?_⟩) λu2 s2 ⟨v2,H2,I2,r2,b,o,cc,ev2,W2,X2,hb,hobj,hcc⟩=>kws_nil ?_)
     ·have CC:pF X.K H':=λz hz d P' tz=>by
       by_cases hP:P'=P
       ·subst hP;rw[Jb hap hz hy tz ht];exact N.tab
       ·exact(W1.tab z hz d P' tz).mono (λps e=>N.tabs P' ps hP e) λc φ e=>N.keep c _ e rfl
      obtain⟨X2,W2⟩:=Cu W1 N.keep CC;obtain⟨o,cc,h1,h2,h3⟩:=N.at';exact⟨b,o,cc,rfl,W2,X2,h1,h2,h3⟩
     ·subst ev2;cases r2;have vP:xs.length=jn.length:=rl.length;have NV:=X2.keep a _ hxs hna rfl;refine YZ (xs:=xs) (λi=>ks.getD i 0) _ hr.hd (λH ⟨ρ',W',X'⟩=>bw.of (X'.keep a _ NV.1 NV.2 rfl).1) (ZQ rfl G hr S hjn hfn W2 (V1.mono W1 X2) hl (aL.mono W1 X2 _ _ rl) hb hobj hcc hkey) (by rw[vP];exact hpos) ⟨aK,W2,Ext.refl⟩ I2 λi x u H3 s3 hx ru tG ⟨mw,W3,X3⟩ I3=>?_
      have hi:i<jn.length:=by rw[<-vP];exact(Q9.mp hx).1
      rw[QB (i:=i) (d:=jn[i]) ⟨hi,λj hj=>tG j (by rw[vP];exact hj)⟩ (H8 hi)]at p1
      obtain⟨x',hx',rd⟩:=aL.get rl (i:=i) (d:=jn[i]) (H8 hi);rw[hx]at hx';cases hx';have QO:=X2.trans X3;exact⟨x,H3,I3,ru,p1 mw H3 x W3 QO (Rel.mono W1 QO _ _ rd)⟩
   ·rw[if_neg hpos]at p1;exact p1.elim
 |_=>exact p1.elim
end
def eV:Int->List Int->Int
 |a,[]=>a
 |a,b::l=>eV (if b>a then b else a) l
theorem Qz(l:List Int)(a:Int):∀k,k<(a::l).length->(a::l).getD (argBest (λi j=>decide ((a::l).getD i 0>(a::l).getD j 0)) k) 0=eV a (l.take k)
 |0,_=>rfl
 |k+1,h=>by
  have ih:=Qz l a k (W8 h);have hk:k<l.length:=by simpa using h
  have step:∀(l:List Int) k a _,eV a (l.take (k+1))=if l[k]>eV a (l.take k)then l[k]else eV a (l.take k):=by
   intro l
   induction l with
   |nil=>intro k a hk;cases hk
   |cons b l ihl =>
    intro k a hk;cases k with
    |zero=>simp[eV]
    |succ k =>
     have:=ihl k (if b>a then b else a) (by simpa using hk)
     simpa[eV]using this
  rw[step l k a hk];unfold argBest;rw[ih];have e:(a::l).getD (k+1) 0=l[k]:=by simp[List.getD,hk]
  rw[e]
  by_cases hc:l[k]>eV a (l.take k)
  ·rw[if_pos (by simpa using hc),if_pos hc,e]
  ·rw[if_neg (by simpa using hc),if_neg hc,ih]
def lI:List D->aa->R D:=λxs c=>match xs with
 |[.lst l]=>match g8 l with
  |some (a::r)=>.ok (.int (eV a r)) c
  |_=>.bad
 |_=>.bad
section
variable {X:Cx}
theorem Qj(hc:X.calm=J:=by rfl):cK X (.builtin "max") (rN X.K lI):=by
 intro pins s Z H vs us Q I rv h;obtain⟨ρ,xs,c,W,rx,p⟩:=h;unfold lI at p;split at p
 ·split at p
  ·rename_i a r hb;obtain⟨v,r',rfl,⟨b,ys,rfl,s1,r1⟩,hr⟩:=rx;cases hr;rw[oH hb]at r1;cases r1.oG;obtain⟨u,rfl,ru⟩:=RO rv;cases ru;obtain⟨its,ri,pt,hz⟩:=I.list (bw.of s1.1);have hl:=ri.length;have val:∀i v,its.toArray[i]? = O v->∃t,v=Value.int ((a::r).getD i 0) t:=λi v hv=>by
    obtain⟨x,hx,rx⟩:=x9 ri hv;rw[RB]at hx;cases q:(a::r)[i]? with
    |none=>rw[q]at hx;cases hx
    |some z =>
     rw[q]at hx;cases hx;obtain⟨t,rfl⟩:=rx;exact⟨t,by rw[Iv,q];rfl⟩
   refine call_max_walk (Sf pt.isList ⟨s.heap.objs.size,_,_,its.toArray.size,_,_,_,rfl,TN (A:=X.A.in1) (I.ok.hd hc) s.heap.objs.size b (by obtain⟨o,e,_⟩:=pt.isList;exact K1 (I8 e)) its.toArray,⟨⟨_,Q4 _ rfl,rfl,rfl⟩,?_⟩,λd hd=>?_,?_,CmpOf.ints_gt _ val,λv h' tk hP kp=>?_⟩)
   ·obtain⟨o,e,q⟩:=pt.isList;exact⟨o,J' _ e,q⟩
   ·rw[RL]
    rcases Bt.mp hd with rfl|hd
    ·exact Rt _
    ·rw[RE]at hd;subst hd;obtain⟨o,e,_⟩:=pt.isList;exact Rp (I8 e)
   ·rw[Q3,<-hl];simp
   ·have I1:Inv X pins Z H {s with heap:=h',toks:=tk}:=xC I kp
    obtain⟨t,rfl⟩:=val _ _ hP;have hs:its.toArray.size-1=r.length:=by rw[Q3,<-hl];simp
    rw[hs,Qz r a r.length (by simp),Rg]
    exact⟨.int _,H,I1,⟨t,rfl⟩,p.here W rfl⟩
  ·exact p.elim
 ·exact p.elim
end
def JF(P:ν)(w:τ)(a:L)(n:Nat):υ->Prop:=λh=>∃o S,h.get? a=O o/\o.SetObjOf (intKind P w) S n
def nh(ns:List Int):Nat:=(firstMet (λi=>ns.getD i 0) ns.length).length
theorem Iz:∀{ns:List Int}{us:List Δ},Vals (ns.map V.int) us->S4 us ns
 |[],_,.nil=>.nil
 |n::ns,_,.cons ⟨t,e⟩ r=>by subst e;exact .cons _ _ (Iz r)
section
variable {X:Cx}
def ajw(X:Cx):List V->Hp->VK->Prop:=λxs H Q=>∃a ns,xs=[.ref a]/\bw X.K H a (ns.map V.int)/\ns.length+1<scanBound/\∀p,H p=U->Q (.ref p) (upd H p (.ext (JF X.prog X.w p (nh ns))))
theorem ac5(hc:X.calm=J:=by rfl):cK X (.type "set") (ajw X):=by
 intro pins s Z H xs us Q I rv h;obtain⟨a,ns,rfl,sq,hb,q⟩:=h;obtain⟨u,rfl,ru⟩:=RO rv;cases ru;obtain⟨its,ri,pl,hz⟩:=I.list sq;have hl:its.length=ns.length:=by have:=ri.length;simpa using this.symm
 refine call_set_list (I.ok.hd hc) pl.isList (Iz (by simpa using ri)) (by simpa[hl]using hb) λh' tk hS kp=>?_
 have hn:(firstMet (λi=>ns.getD i 0) its.toArray.size).length=nh ns:=by unfold nh;rw[Q3,hl]
 obtain⟨o,ho,hso⟩:=hS.objOf;rw[hn]at hso;refine⟨.ref s.heap.objs.size,upd H s.heap.objs.size _,I.laid (t':=tk) (λb u e=>kp b u (I8 e) e) (x6 _) ?_,rfl,q _ (I.hok.fresh (x6 _))⟩
 exact⟨⟨o,_,ho,hso⟩,⟨o,ho⟩,λh1 h2 ⟨o,S,ho,hs⟩ k=>⟨o,S,k o ho,hs⟩⟩
def aiC(X:Cx):List V->Hp->VK->Prop:=λxs H Q=>∃a n,xs=[.ref a]/\H a=O (.ext (JF X.prog X.w a n))/\(n:Int)<2^63/\Q (.int (n:Nat)) H
theorem ac8:cK X (.builtin "len") (aiC X):=by
 intro pins s Z H xs us Q I rv h;obtain⟨a,n,rfl,hH,hn,q⟩:=h;obtain⟨u,rfl,ru⟩:=RO rv;cases ru;obtain⟨⟨o,S,ho,hso⟩,_,_⟩:=I.hok a _ hH;obtain⟨hex,es,ep,t,hd,_,_,he,hf⟩:=hso;subst he;exact W6 ho hex hd hf hn ⟨.int _,H,I.tok _,⟨_,rfl⟩,q⟩
def lX(a:aj):af:=λe c=>(a e c).bind λxs c=>match xs with
 |[x]=>match jg c x with
  |some l=>match g8 l with
   |some ns=>if ns.length<1000 then .ok (.int (nh ns)) c else .bad
   |none=>.bad
  |none=>.bad
 |_=>.bad
theorem acU(ns:List Int):nh ns<=ns.length:=firstMet_length_le _ _
theorem Lu(ha:gv X [e] da)(hm:X.mg "len"=U)(hm2:X.mg "set"=U)(hg:Gl X "len":=by rfl)(oQ:Gl X "set":=by rfl)(hc:X.calm=J:=by rfl)(he:ε [e] X.env=(ξ,eval e X.env)::ε [] X.env:=by exact cR rfl):aX X (.Call (.Name "len" p1) [.Call (.Name "set" p2) [e] [] q2] [] q1) (lX da):=by
 refine(uW ac8 hg hm (by decide +kernel) (iS (nT (ac5 hc) oQ hm2 (by decide +kernel) ha ⋯ ⋯ he (by exact gb rfl)) jv (cR rfl)) ⋯ ⋯ (by exact cR rfl) (by exact gb rfl)).imp λZ H Q h=>?_
 obtain⟨ρ,e,c,W,V,p⟩:=h;refine⟨ρ,e,c,W,V,post.bind p λxs c1 aK H1 vs ex W1 X1 r1 p1=>?_⟩
 clear ex;split at p1
 ·rename_i x;obtain⟨v,r,rfl,hx,hr⟩:=r1;cases hr;split at p1
  ·rename_i l hl;split at p1
   ·rename_i ns hn;split at p1
    ·rename_i hb;obtain⟨a,ys,rfl,ha',rl⟩:=zz W1 hx hl;rw[oH hn]at rl;cases rl.oG;refine⟨a,ns,rfl,bw.of ha',by unfold scanBound;omega,λq hq=>?_⟩
     refine⟨q,nh ns,rfl,eS,?_,?_⟩
     ·have:=acU ns;omega
     ·exact p1 aK _ _ (W1.fresh hq) (Ext.fresh W1 hq) rfl
    ·exact p1.elim
   ·exact p1.elim
  ·exact p1.elim
 ·exact p1.elim
def vj:List D->aa->R D:=λxs c=>match xs with
 |[.lst l]=>match g8 l with
  |some (a::r)=>.ok (.int (gi a r)) c
  |_=>.bad
 |_=>.bad
theorem adA(hc:X.calm=J:=by rfl):cK X (.builtin "min") (rN X.K vj):=by
 intro pins s Z H vs us Q I rv h;obtain⟨ρ,xs,c,W,rx,p⟩:=h;unfold vj at p;split at p
 ·split at p
  ·rename_i a r hb;obtain⟨v,r',rfl,⟨b,ys,rfl,s1,r1⟩,hr⟩:=rx;cases hr;rw[oH hb]at r1;cases r1.oG;obtain⟨u,rfl,ru⟩:=RO rv;cases ru;obtain⟨its,ri,pt,hz⟩:=I.list (bw.of s1.1);have vR:b≠s.heap.objs.size:=by obtain⟨o,e,_⟩:=pt.isList;exact K1 (I8 e)
   have hl:=ri.length;have val:∀i v,its.toArray[i]? = O v->∃t,v=Value.int ((a::r).getD i 0) t:=λi v hv=>by
    obtain⟨x,hx,rx⟩:=x9 ri hv;rw[RB]at hx;cases q:(a::r)[i]? with
    |none=>rw[q]at hx;cases hx
    |some z =>
     rw[q]at hx;cases hx;obtain⟨t,rfl⟩:=rx;exact⟨t,by rw[Iv,q];rfl⟩
   refine call_min_walk (Sf pt.isList ⟨s.heap.objs.size,_,_,its.toArray.size,_,_,_,rfl,TN (A:=X.A.in1) (I.ok.hd hc) s.heap.objs.size b vR its.toArray,⟨⟨_,Q4 _ rfl,rfl,rfl⟩,?_⟩,λd hd=>?_,?_,CmpOf.ints_lt (λi=>(a::r).getD i 0) val,λv h' tk hP kp=>?_⟩)
   ·obtain⟨o,e,q⟩:=pt.isList;exact⟨o,J' _ e,q⟩
   ·rw[RL]
    rcases Bt.mp hd with rfl|hd
    ·exact Rt _
    ·rw[RE]at hd;subst hd;obtain⟨o,e,_⟩:=pt.isList;exact Rp (I8 e)
   ·rw[Q3,<-hl];simp
   ·have I1:Inv X pins Z H {s with heap:=h',toks:=tk}:=xC I kp
    obtain⟨t,rfl⟩:=val _ _ hP;have hs:its.toArray.size-1=r.length:=by rw[Q3,<-hl];simp
    rw[hs,Qy r a r.length (by simp),Rg]
    exact⟨.int (gi a r),H,I1,⟨t,rfl⟩,p.here W rfl⟩
  ·exact p.elim
 ·exact p.elim
end
@[simp] theorem aeR(a:aj)(e:Ev)(c:aa):lX a e c=(a e c).bind λxs c=>match xs with
 |[x]=>match jg c x with
  |some l=>match g8 l with
   |some ns=>if ns.length<1000 then .ok (.int (nh ns)) c else .bad
   |none=>.bad
  |none=>.bad
 |_=>.bad:=rfl
section
variable {prog:ν}{w:τ}{A:χ}{s:Ψ}{E:Δ->Ψ->Prop}
set_option maxHeartbeats 3200000 in
end
def bh:D->Option (List Int)
 |.tup [.int i,.int j]=>if 0<=i/\i<8/\0<=j/\j<8 then O [i,j]else U
 |_=>U
section
variable {X:Cx}
theorem Iu:∀{ys:List L}{us:List Δ},Vals (ys.map V.ref) us->us=ys.map Value.ref
 |[],_,.nil=>rfl
 |y::ys,_,.cons e r=>by cases e;rw[Iu r];rfl
end
section
variable {X:Cx}{es':List μ}{kt:Nat}{pt:Pos}
theorem Lh{pos:Pos}(hg:Gl X "enumerate")(hm:X.mg "enumerate"=U)(ha:PA X [a] ta)(hs:ε [a] X.env=[(ξ,eval a X.env)]:=by rfl):
  PI X (.Tuple es' kt pt) (.Call (.Name "enumerate" p) [a] [] pos) (Ew (bw X.K) ta):=by
 intro pins s Z H R I h;refine Call_ (oi I hg hm boot_enumerate (UI (bg (ha pos pins s Z H _ I h) λus s1 ⟨vs,H1,I1,r1,q1⟩=>?_) hs rfl))
 obtain⟨a1,e,⟨xs,q1⟩,q⟩:=q1;subst e;cases r1 with
 |cons r rr =>
  cases rr;cases r;obtain⟨us,ru,pu,lu⟩:=I1.list q1;refine call_enumerate_list pu.isList λh' hz t1 _ kp=>WK hz ?_
  generalize hn:s1.heap.objs.size=n at hz t1
  refine⟨n+1,_,_,_,H1,rfl,I1.kept kp,IL aio a1 _ n (Rn (Rt _)),⟨⟨_,hz⟩,t1⟩,λb hb=>?_,q⟩
  refine HY I1 hn b ?_;simp at hb
  rcases hb with rfl|rfl<;>simp
end
def FN(a:aj):Ev->aa->R Src:=λe c=>(a e c).bind λxs c=>match xs with
 |[.lst l]=>.ok ⟨l.mapIdx λi x=>.tup [.int i,x],λ_=>True⟩ c
 |_=>.bad
section
variable {X:Cx}{K:Ξ}{ρ:List L}{H:Hp}
theorem ZY{st:aa->Prop}(h:∀ρ' H' c',Wd K ρ' H' c'->Ext ρ H ρ' H'->st c'->∃xs,bw K H' a xs/\aL K ρ' H' l xs):JS K ρ H ⟨l.mapIdx λi x=>.tup [.int i,x],st⟩ (qP (bw K) a):=by
 intro ρ' H' c' W E s i;obtain⟨xs,q,r⟩:=h ρ' H' c' W E s;refine⟨λd hd=>?_,λe=>⟨xs,q,?_⟩⟩
 ·rw[VL]at hd;cases e1:l[i]? with
  |none=>rw[e1]at hd;cases hd
  |some x =>
   rw[e1]at hd;cases hd;obtain⟨v,hv,rv⟩:=r.get e1;refine⟨⟨xs,v,q,hv⟩,λz H2 hz=>?_⟩
   obtain⟨t,v',rfl,ht,rfl,hz⟩:=hz;have z1:=hz xs q;rw[hv]at z1;cases z1;exact⟨W.fresh ht,Ext.fresh W ht,t,[.int i,v],rfl,eS,.int i,[v],rfl,rfl,v,[],rfl,Rel.mono W (Ext.fresh W ht) _ _ rv,rfl⟩
 ·rw[Xb]at e;rw[r.length];exact e
theorem aao{pt:Pos}{pos:Pos}(ha:gv X [a] da)(hm:X.mg "enumerate"=U)(hg:Gl X "enumerate":=by rfl)(hs:ε [a] X.env=[(ξ,eval a X.env)]:=by exact pU rfl):
  PId X (.Tuple es k pt) (.Call (.Name "enumerate" p) [a] [] pos) (FN da):=(Lh hg hm ha hs).imp λZ H Q h=>by
 obtain⟨ρ,e,c,W,V,p⟩:=h;refine⟨ρ,e,c,W,V,post.bind p λx c1 aK H1 v _ W1 X1 r1 p1=>?_⟩
 split at p1
 ·obtain⟨y,ys,rfl,ry,rs⟩:=r1;cases rs;obtain⟨a1,xs,rfl,s1,t1⟩:=ry;exact⟨a1,rfl,⟨xs,bw.of s1.1⟩,p1.here W1 (ZY λρ' H' c' W' E _=>⟨xs,bw.of (DX E s1).1,aL.mono W1 E _ _ t1⟩)⟩
 ·exact p1.elim
end
section
variable {prog:ν}{w:τ}{A:χ}{E:Δ->Ψ->Prop}{s:Ψ}
theorem abf{Y:L->Prop}{Q:Int->Ψ->Prop}(hu:A.units+8<Q7)(hx:cy prog w Y s.heap k x)(h:Q (hL k) {s with toks:=s.toks+(k.2.length+3)}):wpAny (model prog w) A (pyHash (.ref x)) Q E s:=by
 have hTy:=hx.typeIs;obtain⟨o,n,t,y,_,_,h1,h2,h3,h4⟩:=hx
 first|refine Rc (wpAny_cRoomFor_or (.inr ∅) ?_)|skip
 refine Rc (SO hTy SN.lookup ?_);refine Rc (SO hTy SN.lookup ?_);refine Rc (Wl hTy SN (Rz SN hTy F.entry_tuple_hash ?_ (F.args_tuple_hash_1 _)));show wpAny _ _ (Builtin.Tuple.tupleItemsOf _ >>= _) _ _ s;refine Rc (Tu h1 h3 ?_);refine Rc ?_;refine Rc (Rc ((intKind prog w).pyHash (k:=k.1) (by simp[intKind,Value.isInt]) ?_))
 first
  |refine ZA ?_
  |refine Rc _
 refine Rc (Rc ((tupleKind _).pyHash (by show A.units+1<Q7;omega) h4 ?_))
 first
  |refine ZA ?_
  |refine Rc _
 refine ZA ?_;show wpAny _ _ (retInt (Builtin.Tuple.tupleHashOf [hashInt k.1,L2.hT k.2])) _ _ _;refine wpAny_ret_mkInt ?_;show wpAny _ _ (if _=J then _ else _) Q E _
 have et:s.toks+(k.2.length+3)=s.toks+1+(k.2.length+1)+1:=∅
 rw[et]at h;unfold hL reduceHash at h
 by_cases hr:(decide (-(2:Int)^63<=Builtin.Tuple.tupleHashOf [hashInt k.1,L2.hT k.2])&&decide (Builtin.Tuple.tupleHashOf [hashInt k.1,L2.hT k.2]<2^63))=J
 ·rw[if_pos hr];rw[if_pos hr]at h;exact ZA h
 ·rw[if_neg hr];rw[if_neg hr]at h;exact Rc (U4 (ZA h))
end
def MQ(P:ν)(w:τ):HeapKind P w Lk where
 is:=cy P w (λ_=>True)
 hash:=hL
 draws:=λk=>k.2.length+3
 room:=λA=>A.units+8<Q7
 inj:=λa b=>a.inj b
 keeps:=fun{h h'}{k}{a d}{o es ep} x ho hd hs=>by
  obtain⟨o',n,t,y,_,_,h1,h2,h3,h4⟩:=x;have hne:a≠d:=by
   rintro rfl
   obtain rfl:o'=o:=R4 (h1.symm.trans ho);rw[hd]at h3;exact nomatch h3
  exact⟨o',n,t,y,trivial,trivial,(hs.2 a hne).trans h1,h2,h3,h4.keeps ho hd hs⟩
 pyHash:=λhu hk h=>abf hu hk h
 eqBool:=λhu hx hy h=>FE hu hx hy h
 quiet:=λhk h=>C4 hk h
section
variable {X:Cx}{pins:List (L×Obj)}{Z:St}{H:Hp}{s:Ψ}{a:L}{k:Lk}
theorem KW(h:RelV v (.int i t)):v=.int i:=by
 cases v with
 |int j=>obtain⟨t2,e⟩:=(show ∃t2,Value.int i t=Value.int j t2 from h);cases e;rfl
 |aF=>exact nomatch (show Value.int i t=Value.none from h)
 |bl b=>exact nomatch (show Value.int i t=Value.bool b from h)
 |str x=>obtain⟨t2,e⟩:=(show ∃t2,Value.int i t=Value.str x t2 from h);cases e
 |i8 x=>obtain⟨t2,e⟩:=(show ∃t2,Value.int i t=Value.bytes x t2 from h);cases e
 |oW x=>obtain⟨t2,e⟩:=(show ∃t2,Value.int i t=Value.float x t2 from h);cases e
 |ref a=>exact nomatch (show Value.int i t=Value.ref a from h)
 |ty n=>exact nomatch (show Value.int i t=Value.type n from h)
theorem ai4(h:RelV v (.ref y)):v=.ref y:=by
 cases v with
 |ref a=>cases(show Value.ref y=Value.ref a from h);rfl
 |aF=>exact nomatch (show Value.ref y=Value.none from h)
 |bl b=>exact nomatch (show Value.ref y=Value.bool b from h)
 |int x=>obtain⟨t2,e⟩:=(show ∃t2,Value.ref y=Value.int x t2 from h);cases e
 |str x=>obtain⟨t2,e⟩:=(show ∃t2,Value.ref y=Value.str x t2 from h);cases e
 |i8 x=>obtain⟨t2,e⟩:=(show ∃t2,Value.ref y=Value.bytes x t2 from h);cases e
 |oW x=>obtain⟨t2,e⟩:=(show ∃t2,Value.ref y=Value.float x t2 from h);cases e
 |ty n=>exact nomatch (show Value.ref y=Value.type n from h)
theorem items_int:∀{ks:List Int}{us:List Δ},Vals (ks.map V.int) us->ItemsAre (intKind P w) ks us
 |[],_,r=>by rw[List.map_nil]at r;cases r;exact .nil
 |k::ks,_,r=>by
  cases r with
  |cons h t =>
   obtain⟨t',rfl⟩:=h;exact .cons (by simp[intKind,Value.isInt]) (items_int t)
theorem NL:∀{xs:List V}{ks:List Int}{us:List Δ},Vals xs us->ItemsAre (intKind P w) ks us->xs=ks.map V.int
 |_,_,_,.nil,.nil=>rfl
 |_,_,_,.cons h t,.cons q r=>by
  obtain⟨t',rfl⟩:=TZ q;rw[NL t r,KW h];rfl
theorem vH{Y:L->Prop}(ok:cT X.prog X.w H s.heap)(hY:∀b xs,H b=O (.tup xs)->Y b)(h:mh H a k):cy X.prog X.w Y s.heap k a:=by
 obtain⟨y,h1,h2⟩:=h;obtain⟨_,its,hv,o,g1,g2,⟨n,g3⟩,_⟩:=ok a _ h1;obtain⟨_,its2,hv2,o2,k1,k2,⟨n2,k3⟩,_⟩:=ok y _ h2;cases hv with
 |cons r1 r2 =>
  cases r2 with
  |cons r3 r4 =>
   cases r4;obtain⟨t,rfl⟩:=r1;cases r3;exact⟨o,n,t,y,hY _ _ h1,hY _ _ h2,g1,g2,g3,o2,its2.toArray,n2,k1,k2,k3,by simpa using items_int hv2⟩
theorem MW(ok:cT X.prog X.w H h)(z:cy X.prog X.w (λb=>∃xs,H b=O (.tup xs)) h k a):mh H a k:=by
 obtain⟨o,n,t,y,⟨xs,y1⟩,⟨ys,y2⟩,h1,h2,h3,o2,it2,n2,g1,g2,g3,g4⟩:=z;obtain⟨_,its,hv,o',q1,_,⟨n',q3⟩,_⟩:=ok a _ y1;rw[h1]at q1;cases q1;rw[h3]at q3
 injection q3 with e _
 have e:=congrArg Array.toList e;simp only at e;subst e;obtain⟨_,its2,hv2,o3,r1,_,⟨n3,r3⟩,_⟩:=ok y _ y2;rw[g1]at r1;cases r1;rw[g3]at r3
 injection r3 with e2 _
 subst e2;have hy:=NL hv2 (by simpa using g4)
 subst hy;refine⟨y,?_,y2⟩;rw[y1];cases hv with
 |cons a1 b1 =>
  cases b1 with
  |cons a2 b2 =>
   cases b2;rw[KW a1,ai4 a2]
end
def mG(w:τ)(a:L)(L0:List (Lk×L)):υ->Prop:=λh=>∃o es ep t,∃Θ:List (Lk×L),h.get? a=O o/\o.ExactSet/\o.data=.set es ep t/\k7 t es/\t.plain=J/\t.led = !fc w/\es.toList=Θ.map (lW hL)/\Θ.Perm L0
def HG(H:Hp)(L0:List (Lk×L)):Prop:=∀q∈L0,mh H q.2 q.1
section
variable {X:Cx}
def K3(X:Cx):List V->Hp->VK->Prop:=λxs H Q=>∃a ys ks,xs=[.ref a]/\bw X.K H a (ys.map V.ref)/\H a≠U/\(∀zs,H a≠O (.tup zs))/\fR H ys ks/\(dF ks).length<64/\∀p L0,H p=U->HG H L0->(L0.map (·.1)).Perm (dF ks)->Q (.ref p) (upd H p (.ext (mG X.w p L0)))
theorem ac4(hu:X.A.units+64<Q7)(hc:X.calm=J:=by rfl):cK X (.type "set") (K3 X):=by
 intro pins s Z H xs us Q I rv h;obtain⟨a,ys,ks,rfl,sq,hne,hnt,hp,h64,q⟩:=h;obtain⟨u,rfl,ru⟩:=RO rv;cases ru;obtain⟨its,ri,pl,hz⟩:=I.list sq;have hl:=hp.len;refine aic (Y:=λb=>∃xs,H b=O (.tup xs)) (ys:=ys) hl (I.ok.hd hc) pl.isList (by simpa using Iu ri) (λj hj=>?_) (λb hb=>?_) h64 (by grind) λh' tk hS kp=>?_
 ·exact vH I.hok (λb xs e=>⟨xs,e⟩) (hp.at (H8 ∅) (H8 hj))
 ·obtain⟨xs,e⟩:=hb;obtain⟨_,its,hv,o,g1,_⟩:=I.hok b _ e;exact⟨I8 g1,λz=>hnt xs (z▸e)⟩
 ·have hf:H s.heap.objs.size=U:=I.hok.fresh (x6 _);obtain⟨o,es,ep,t,Θ,ho,hex,hd,IT,hpl,lS,hL',hk,sX⟩:=hS;have sS:=λb u e=>kp b u (I8 e) e
  have I2:Inv X pins Z H {s with heap:=h',toks:=tk}:=I.kept sS
  refine⟨.ref s.heap.objs.size,upd H s.heap.objs.size _,I.laid sS (x6 _) ?_,rfl,q _ Θ hf (λz hz=>MW I2.hok (hk z hz)) sX⟩
  exact⟨⟨o,es,ep,t,Θ,ho,hex,hd,IT,hpl,lS,hL',.refl _⟩,⟨o,ho⟩,λh1 h2 ⟨o,es,ep,t,Θ,ho,r⟩ k=>⟨o,es,ep,t,Θ,k o ho,r⟩⟩
def K2(X:Cx):List V->Hp->VK->Prop:=λxs H Q=>∃a L0 ks,xs=[.ref a]/\H a=O (.ext (mG X.w a L0))/\HG H L0/\(L0.map (·.1)).Perm (dF ks)/\(dF ks).length<64/\∀p ys,H p=U->fR H ys (fj ks)->Q (.ref p) (upd H p (.lst (ys.map V.ref)))
theorem KY:∀ys:List L,Vals (ys.map V.ref) (ys.map Value.ref)
 |[]=>.nil
 |y::ys=>.cons rfl (KY ys)
theorem MS:∀(Θ:List (Lk×L)),HG H Θ->fR H (Θ.map (·.2)) (Θ.map (·.1))
 |[],_=>trivial
 |q::Θ,h=>⟨h q (.head _),MS Θ λz hz=>h z (.tail _ hz)⟩
theorem ac2(hu:X.A.units+64<Q7)(hc:X.calm=J:=by rfl):cK X (.builtin "sorted") (K2 X):=by
 intro pins s Z H xs us Q I rv h;obtain⟨a,L0,ks,rfl,hH,kh,lR,h64,q⟩:=h;obtain⟨u,rfl,ru⟩:=RO rv;cases ru;obtain⟨⟨o,es,ep,t,Θ,ho,hex,hd,IT,hpl,lS,hL',lT⟩,_,_⟩:=I.hok a _ hH;have hS:jM X.prog X.w hL (λb=>∃xs,H b=O (.tup xs)) s.heap a (dF ks):=⟨o,es,ep,t,Θ,ho,hex,hd,IT,hpl,lS,hL',λz hz=>vH (s:=s) I.hok (λb xs e=>⟨xs,e⟩) (kh z (lT.mem_iff.mp hz)),(lT.map _).trans lR⟩
 refine aiL (xs:=ks) (I.ok.hd hc) ∅ (λb hb=>?_) hS h64 λh1 h' tk c L3 k1 k2 hp hk hs=>?_
 ·obtain⟨xs,e⟩:=hb;obtain⟨_,its,hv,o,g1,_⟩:=I.hok b _ e;exact⟨o,g1⟩
 ·have I1:Inv X pins Z H {s with heap:=h1,toks:=tk}:=I.kept k1
  have I2:Inv X pins Z H {s with heap:=h',toks:=tk}:=I.kept λb o e=>k2 b o (k1 b o e)
  have hf:H h1.objs.size=U:=I1.hok.fresh (x6 _);have hl3:=MS L3 λz hz=>MW I2.hok (hk z hz)
  rw[hs]at hl3;have hlen:L3.length<64:=by
   have e1:=congrArg List.length hs;rw[P0]at e1;have:(fj ks).length=(dF ks).length:=by
    refine XS ((Tr ?_ (ze .nil)).mpr λx=>?_)
    ·exact(uq ks).imp fun{a b} h e=>by subst e;rw[qj]at h;cases h
    ·rw[vm]
     first|unfold dF|skip
     rw[zl];simp
   omega
  refine⟨.ref h1.objs.size,upd H h1.objs.size (.lst ((L3.map (·.2)).map V.ref)),I1.laid (t':=tk) k2 (x6 _) ⟨?_,b9 L3,c,?_,hp⟩,rfl,q _ _ hf hl3⟩
  ·simp only[P0];rw[SJ];omega
  ·have:=KY (L3.map (·.2));rw[R3]at this ⊢;unfold b9;rw[R3]at this;exact this
def gy(k:Lk):D:=.tup [.int k.1,.tup (k.2.map D.int)]
def sO:D->Option Lk
 |.tup [.int c,.tup l]=>match g8 l with
  |some ns=>O (c,ns)
  |none=>U
 |_=>U
def qk:List D->Option (List Lk)
 |[]=>O []
 |d::l=>match sO d,qk l with
  |some k,O ks=>O (k::ks)
  |_,_=>U
theorem MX(h:sO d=O k):d=gy k:=by
 unfold sO at h;split at h
 ·split at h
  ·rename_i c l ns hn;cases h;rw[oH hn];rfl
  ·cases h
 ·cases h
theorem MY(k:Lk):sO (gy k)=O k:=by
 unfold gy sO;dsimp only;rw[qq]
theorem MT:∀{l:List D}{ks:List Lk},qk l=O ks->l=ks.map gy
 |[],ks,h=>by cases h;rfl
 |d::l,ks,h=>by
  unfold qk at h;split at h
  ·rename_i k rk h1 h2;cases h;rw[MX h1,MT h2];rfl
  ·grind
theorem MU:∀ks:List Lk,qk (ks.map gy)=O ks
 |[]=>rfl
 |k::ks=>by
  rw[Q8];unfold qk;rw[MY,MU ks]
theorem MV{K:Ξ}{H:Hp}{k:Lk}{v:V}(r:Rel K ρ H (gy k) v):∃a,v=.ref a/\mh H a k:=by
 obtain⟨a,xs,rfl,ha,rl⟩:=r;obtain⟨x1,r1,rfl,e1,rl⟩:=rl;obtain⟨x2,r2,rfl,e2,rl⟩:=rl;cases(show x1=V.int k.1 from e1)
 cases(show r2=[]from rl)
 obtain⟨y,ys,rfl,hy,ry⟩:=e2;have:=aL.oG ry;subst this;exact⟨a,rfl,y,ha,hy⟩
theorem MR{K:Ξ}{H:Hp}:∀{ks:List Lk}{vs:List V},aL K ρ H (ks.map gy) vs->∃ys:List L,vs=ys.map V.ref/\fR H ys ks
 |[],vs,r=>⟨[],r,trivial⟩
 |k::ks,vs,r=>by
  rw[Q8]at r;obtain⟨x,r',rfl,e,rl⟩:=r;obtain⟨a,rfl,ha⟩:=MV e;obtain⟨ys,rfl,hy⟩:=MR rl;exact⟨a::ys,rfl,ha,hy⟩
theorem Py(I:Inv X pins Z H s)(h:H a=O (.ext (gJ a kvs as)))(hk:fR H as (kvs.map (·.1)))(nd:(kvs.map (·.1)).Nodup):
  ∃xs:List (Lk×L×Δ),s.heap.DictOfH (MQ X.prog X.w) a xs/\xs.map (·.1)=kvs.map (·.1)/\xs.map (·.2.1)=as/\Vals (kvs.map λkv=>V.int kv.2) (xs.map (·.2.2)):=by
 obtain⟨⟨o,es,ep,xs,ho,hex,hd,he,e1,e2,hv⟩,_,_⟩:=I.hok a _ h;refine⟨xs,⟨o,es,ep,ho,hex,hd,he,λx hx=>?_,by rw[e1];exact nd⟩,e1,e2,hv⟩
 obtain⟨i,hi,rfl⟩:=S9 hx;refine vH (s:=s) I.hok (λ_ _ _=>trivial) (hk.at (i:=i) ?_ ?_)
 ·rw[<-e2,RB,H8 hi];rfl
 ·rw[<-e1,RB,H8 hi];rfl
def Jh:TE:=λ_ H Q=>∀p,H p=U->Q (.ref p) (upd H p (.ext (gJ p [] [])))
theorem aln{pos:Pos}:PE X (.Dict [] [] pos) Jh:=λpins s Z H Q I h =>
 wpAny_Dict_empty ⟨.ref s.heap.objs.size,_,I.laid (a:=s.heap.objs.size) (o:=.ext (gJ s.heap.objs.size [] [])) (t':=s.toks) (λ_ _ q=>J' _ q) (x6 _)
  ⟨⟨_,#[],0,[],Q4 _ rfl,⟨rfl,rfl,rfl⟩,rfl,rfl,rfl,rfl,.nil⟩,⟨_,Q4 _ rfl⟩,λh1 h2 ⟨o,es,ep,xs,ho,r⟩ k=>⟨o,es,ep,xs,k o ho,r⟩⟩,rfl,h _ (I.hok.fresh (x6 _))⟩
def KJ(td ty tv:TE):TS:=λD Z H=>tv Z H λv H1=>td Z H1 λx H2=>ty Z H2 λy H3=>∃a kvs as b k n,x=.ref a/\v=.int n/\y=.ref b/\H3 a=O (.ext (gJ a kvs as))/\fR H3 as (kvs.map (·.1))/\(kvs.map (·.1)).Nodup/\k∉kvs.map (·.1)/\kvs.length<1000/\mh H3 b k/\D.nx Z (upd H3 a (.ext (gJ a (kvs++[(k,n)]) (as++[b]))))
theorem ajB{value:μ}{pos pos':Pos}(hu:X.A.units+64<Q7)(ho:PE X o td)(hi:PE X i ty)(hv:PE X value tv)(hs:swapsWith value (O (.Subscript o i pos')) pos.line X.env=pure ξ):
  PS X (.Assign [.Subscript o i pos'] value pos) (KJ td ty tv):=by
 intro pins s Z H D I h;refine wpAny_Assign_Subscript (bg (hv pins s Z H _ I h) λr s1 ⟨v,H1,I1,rv,q1⟩=>bg (ho pins s1 Z H1 _ I1 q1) λu s2 ⟨x,H2,I2,rx,q2⟩=>bg (hi pins s2 Z H2 _ I2 q2) λiv s3 ⟨y,H3,I3,ry,a,kvs,as,b,k,n,ex,ev,ey,ha,hk,nd,hnk,hl,hb,q3⟩=>?_) hs
 subst ex ev ey;obtain rfl:u=Value.ref a:=rx;obtain rfl:iv=Value.ref b:=ry;obtain⟨t,rfl⟩:=rv;obtain⟨xs,dd,e1,e2,vv⟩:=Py I3 ha hk nd;have vP:xs.length=kvs.length:=by have:=congrArg List.length e1;simpa using this
 have sl:10000<Ω:=aik;have hno:atKey xs k=U:=by
  refine atKey_none_of_get λj p hj=>hnk ?_
  grind
 refine wpAny_setItem_heap (knd:=MQ X.prog X.w) (k:=k) (by show X.A.units+1+8<Q7;omega) (vH (s:=s3) I3.hok (λ_ _ _=>trivial) hb) dd (λh' PK gk=>?_) ∅
 rw[storedH_new hno]at PK;obtain⟨o',es,ep,ho',hex,hd',he',_,_⟩:=PK;have new:ff X.prog X.w (upd H3 a (.ext (gJ a (kvs++[(k,n)]) (as++[b])))) h' a (.ext (gJ a (kvs++[(k,n)]) (as++[b]))):=⟨⟨o',es,ep,xs++[(k,b,Value.int n t)],ho',hex,hd',he',?_,?_,?_⟩,⟨_,ho'⟩,λh1 h2 ⟨o,es,ep,xs,ho,r⟩ k=>⟨o,es,ep,xs,k o ho,r⟩⟩
 ·exact⟨Z,_,acX I3 (by rw[ha];exact True.intro) gk ⟨_,ho'⟩ new,q3⟩
 ·rw[S8,S8,e1];rfl
 ·rw[S8,e2];rfl
 ·rw[S8,S8];exact Paired.snoc vv (show ∃t',Value.int n t=Value.int n t' from⟨t,rfl⟩)
end
def qo:D->D->aa->R D:=λx y c=>match x,sO y with
 |.gr kvs,O k=>match kvs.find? (λkv=>decide (kv.1=k))with
  |some kv=>if(kvs.map (·.1)).Nodup then .ok (.int kv.2) c else .bad
  |none=>.bad
 |_,_=>.bad
section
variable {X:Cx}
theorem ack{kvs:List (Lk×Int)}{kv:Lk×Int}(nd:(kvs.map (·.1)).Nodup)(h:kvs.find? (λkv=>decide (kv.1=k))=O kv){xs:List (Lk×L×Δ)}(e1:xs.map (·.1)=kvs.map (·.1))(vv:Vals (kvs.map λkv=>V.int kv.2) (xs.map (·.2.2))):∃p t,atKey xs k=O p/\p.2=.int kv.2 t:=by
 have hm:=Ve h;have hk:kv.1=k:=by have:=Wx h;simpa using this
 obtain⟨i,hi,e⟩:=S9 hm;have vP:xs.length=kvs.length:=by have:=congrArg List.length e1;simpa using this
 have hx:xs[i]? = O (k,(xs[i]'∅).2):=by
  rw[H8 ∅]
  have q:(xs.map (·.1))[i]'(by simp;omega)=(kvs.map (·.1))[i]'(by simpa using hi):=by simp only[e1]
  simp only[V3]at q;rw[e,hk]at q;rw[<-q]
 obtain⟨u,hu,ru⟩:=Vals.get vv (i:=i) (x:=V.int kv.2) (by rw[RB,H8 hi,e];rfl)
 rw[RB,hx]at hu;cases hu;obtain⟨t,et⟩:=ru;exact⟨_,t,atKey_of_get (by rw[e1];exact nd) hx,et⟩
theorem Z8(hu:X.A.units+64<Q7):t8 X (r2 X.K qo):=by
 intro value slice pins s Z H v u vv uu Q I rv ru h hs;obtain⟨ρ,x,y,c,W,rx,ry,p⟩:=h;unfold qo at p;split at p
 ·rename_i kvs k hk;split at p
  ·rename_i kv hf;split at p
   ·rename_i nd;have ey:=MX hk;subst ey;obtain⟨a,as,rfl,ha,hl⟩:=rx;obtain⟨b,rfl,hb⟩:=MV ry;cases rv;cases ru;obtain⟨xs,dd,e1,e2,vs⟩:=Py I ha hl nd;obtain⟨pr,t,hp,et⟩:=ack nd hf e1 vs;have hT:=dd.typeIs;have fin:wpAny (model X.prog X.w) X.A (subscripted slice ξ (.ref a) (.ref b)) (λr s₃=>wpAny (model X.prog X.w) X.A (letTemporaryGo value (.ref a) r >>= λ_=>pure r) (EP X pins Z Q) X.xe s₃) X.xe s:=by
     rw[hs];refine wpAny_operating (wpAny_getItem_heap (by show X.A.units+1+8<Q7;omega) (vH I.hok (λ_ _ _=>trivial) hb) dd hp ?_)
     rw[et];exact Rc (wpAny_letTemporaryGo (ZA ⟨.int kv.2,H,I.tok _,⟨t,rfl⟩,p ρ H _ W Ext.refl rfl⟩))
    refine Rc ?_;refine Rc (SO hT PySem.F.slot_dict_getitem.lookup ?_)
    first
     |exact ZA (Rc fin)
     |exact Rc _
     |exact Rc fin
   ·exact p.elim
  ·exact p.elim
 ·exact p.elim
end
theorem ab3{Sq:Hp->L->List V->Prop}{a:L}{xs:List V}{g:TG}{tb:TS}{D:Ends}{Z:St}{H:Hp}(Pv:Nat->St->Hp->Prop)(h0:Pv 0 Z H)(hl:∀i Z H,i<=xs.length->Pv i Z H->Sq H a xs)
  (hs:∀i x t Z H,xs[i]? = O x->Pv i Z H->H t=U->g (.ref t) Z (upd H t (.tup [.int i,x])) λσ2 H2=>tb {D with nx:=Pv (i+1),ct:=Pv (i+1),bk:=D.nx} σ2 H2) (hd:∀Z H,Pv xs.length Z H->D.nx Z H) :
  ∃W:Nat->Nat->St->Hp->Prop,(∃m,W 0 m Z H)/\∀i m Z H,W i m Z H ->
   ((qP Sq a).stop i H/\D.nx Z H)\/((qP Sq a).go i H/\∃N:St->Hp->Prop,(∀σ' H',N σ' H'->∃m',m'<m/\W (i+1) m' σ' H')/\∀x H',(qP Sq a).qX i H x H'->g x Z H' λσ2 H2=>tb {D with nx:=N,ct:=N,bk:=D.nx} σ2 H2):=by
 refine⟨λi m Z H=>m=xs.length-i/\i<=xs.length/\Pv i Z H,⟨xs.length,by simp,RM _,h0⟩,?_⟩
 rintro i m Z H ⟨rfl,hi,p⟩
 have q:=hl i Z H hi p
 by_cases hlt:i<xs.length
 ·refine .inr ⟨⟨xs,xs[i],q,by simp⟩,Pv _,λσ' H' p'=>⟨xs.length-_,∅,rfl,hlt,p'⟩,λx H' y=>?_⟩
  obtain⟨t,x',rfl,ht,rfl,hx⟩:=y;exact hs i x' t Z H (hx xs q) p ht
 ·have e:i=xs.length:=∅
  subst e;exact .inl ⟨⟨xs,q,rfl⟩,hd Z H p⟩
def gO(ks:List Lk):List (Lk×Int):=ks.mapIdx λi k=>(k,(i:Int))
theorem vJ(ks:List Lk):(gO ks).map (·.1)=ks:=by
 unfold gO;refine Rx (by simp) λi h1 h2=>?_
 simp
theorem Nh(ks:List Lk):(gO ks).length=ks.length:=by simp[gO]
theorem ZL{ks:List Lk}{k:Lk}(h:ks[i]? = O k):gO (ks.take (i+1))=gO (ks.take i)++[(k,(i:Int))]:=by
 have hi:=(Q9.mp h).1;rw[To,h];simp[gO];omega
def uN:ah:=λe c=>match e[2]? with
 |some (O (D.lst l))=>match qk l with
  |some ks=>if(dF ks).length<64/\e.length=6 then .ok (.nx [e.getD 0 U,e.getD 1 U,e.getD 2 U,O (.gr (gO (fj ks))),U,U]) c else .bad
  |none=>.bad
 |_=>.bad
def RkP(H0:Hp)(a:L)(s0 s1 s2:Option V)(ks:List Lk)(ys:List L)(i:Nat)(Z:St)(H:Hp):Prop :=
 ∃x y,(∀b o,H0 b=O o->b≠a->H b=O o)/\Z=[s0,s1,s2,O (.ref a),x,y]/\H a=O (.ext (gJ a (gO (ks.take i)) (ys.take i)))
theorem Na{α:Type}{l:List α}(h:l.length=6):∃a b d f g k,l=[a,b,d,f,g,k]:=by
 match l,h with
 |[a,b,d,f,g,k],_=>exact⟨a,b,d,f,g,k,rfl⟩
theorem fR.take:∀{as:List L}{ks:List Lk}(n:Nat),fR H as ks->fR H (as.take n) (ks.take n)
 |[],[],n,_=>by simp;exact trivial
 |[],_::_,_,h=>h.elim
 |_::_,[],_,h=>h.elim
 |_::_,_::_,0,_=>trivial
 |_::_,_::_,n+1,h=>⟨h.1,fR.take n h.2⟩
theorem Jv(ks:List Lk):(fj ks).Nodup:=(uq ks).imp fun{a b} h e=>by subst e;rw[qj]at h;cases h
theorem aiv(ks:List Lk):(fj ks).length=(dF ks).length :=
 XS ((Tr (Jv ks) (ze .nil)).mpr λx=>by
  rw[vm,zl];simp)
abbrev ahD(X:Cx):TE:=yj (K2 X) (yi (yj (K3 X) (yi (rJ 2) yg)) yg)
theorem ajt{rest:List dg}(hA:PS X A (CF Jh (we 3)))(hB:PS X B (Jg (Ew (bw X.K) (yi (ahD X) yg)) (OL X.K 2 (Ff (we 4) (Ff (we 5) OM))) (KJ (rJ 3) (rJ 5) (rJ 4))))(hr:bB X rest dr):bB X (A::B::rest) (aD uN dr) :=
 (C5 hA (C5 hB hr)).imp λσ Z H h=>by
  obtain⟨ρ,e,c,W,VV,p⟩:=h;unfold aD uN at p;cases he:e[2]? with
  |none=>rw[he]at p;exact p.elim
  |some od =>
   cases od with
   |none=>rw[he]at p;exact p.elim
   |some d =>
    cases d with
    |lst l =>
     rw[he]at p;dsimp only at p;cases hk:qk l with
     |none=>rw[hk]at p;exact p.elim
     |some ks =>
      rw[hk]at p;dsimp only at p
      by_cases tF:(dF ks).length<64/\e.length=6
      ·rw[if_pos tF]at p;have el:=MT hk;subst el;obtain⟨v2,hv2,rd⟩:=VV.get 2 _ he;obtain⟨e0,e1,e2,e3,e4,e5,rfl⟩:=Na tF.2;obtain⟨s0,s1,s2,s3,s4,s5,rfl⟩:=Na (VV.len.symm.trans tF.2);cases he;cases hv2;obtain⟨b,ws,rfl,hb,rl⟩:=id rd;obtain⟨zs,rfl,hz⟩:=MR rl;intro a ha;have M1:∀u o,H u=O o->upd H a (.ext (gJ a [] [])) u=O o:=λu o z=>by rw[bD (λy=>by rw[y,ha]at z;cases z)];exact z
       refine⟨.ref b,rfl,b,zs,ks,rfl,bw.of (M1 b _ hb.1),by rw[M1 b _ hb.1];simp,λxs z=>(by rw[M1 b _ hb.1]at z;cases z),hz.mono λu xs z=>M1 u _ z,tF.1,λq L0 hq kh lR=>?_⟩
       have M2:∀u o,upd H a (.ext (gJ a [] [])) u=O o->upd (upd H a (.ext (gJ a [] []))) q (.ext (mG X.w q L0)) u=O o:=λu o z=>by rw[bD (λy=>by rw[y,hq]at z;cases z)];exact z
       refine⟨q,L0,ks,rfl,eS,λz hz=>(kh z hz).mono λu xs z=>M2 u _ z,lR,tF.1,λr ys hr' hp=>?_⟩
       have M3:∀u o,upd (upd H a (.ext (gJ a [] []))) q (.ext (mG X.w q L0)) u=O o->upd (upd (upd H a (.ext (gJ a [] []))) q (.ext (mG X.w q L0))) r (.lst (ys.map V.ref)) u=O o:=λu o z=>by rw[bD (λy=>by rw[y,hr']at z;cases z)];exact z
       have vX:upd (upd (upd H a (.ext (gJ a [] []))) q (.ext (mG X.w q L0))) r (.lst (ys.map V.ref)) r=O (.lst (ys.map V.ref)):=eS;have zN:upd (upd (upd H a (.ext (gJ a [] []))) q (.ext (mG X.w q L0))) r (.lst (ys.map V.ref)) a=O (.ext (gJ a [] [])):=M3 _ _ (M2 _ _ eS);have hp3:=hp.mono λu xs z=>M3 u _ z
       have hM:∀u o,H u=O o->upd (upd (upd H a (.ext (gJ a [] []))) q (.ext (mG X.w q L0))) r (.lst (ys.map V.ref)) u=O o:=λu o z=>M3 u o (M2 u o (M1 u o z))
       generalize upd (upd (upd H a (.ext (gJ a [] []))) q (.ext (mG X.w q L0))) r (.lst (ys.map V.ref))=H2 at vX zN hp3 hM
       have hyl:=hp3.len;have hba:r≠a:=λz=>by rw[z,zN]at vX;cases vX
       have IQ:∀{y:L}{xs:List V},H2 y=O (.tup xs)->y≠a:=fun{y xs} hy z=>by rw[z,zN]at hy;cases hy
       have hnd:=Jv ks;have hsl:=aiv ks;refine⟨r,rfl,⟨_,bw.of vX⟩,ab3 (xs:=ys.map V.ref) (RkP H2 a s0 s1 (O (.ref b)) (fj ks) ys) ⟨s4,s5,λb o h _=>h,rfl,?_⟩ (λi Z H' _ q=>?_) (λi x t Z H' hxi q ht=>?_) (λZ H' q=>?_)⟩
       ·simpa[gO]using zN
       ·obtain⟨_,_,M,_⟩:=q;exact bw.of (M r _ vX hba)
       ·obtain⟨x4,x5,M,rfl,hd⟩:=q;rw[RB]at hxi;cases vO:ys[i]? with
        |none=>rw[vO]at hxi;cases hxi
        |some y =>
         rw[vO]at hxi;cases hxi;have hi:i<(fj ks).length:=by rw[<-hyl];exact(Q9.mp vO).1
         have hki:(fj ks)[i]? = O (fj ks)[i]:=H8 hi;have hlk:=hp3.at vO hki;have tm:∀z xs,H2 z=O (.tup xs)->upd H' t (.tup [.int i,.ref y]) z=O (.tup xs):=λz xs hz=>by
          have h':=M z _ hz (IQ hz);rw[bD (λw=>by rw[w,ht]at h';cases h')]
          exact h'
         have hat:a≠t:=λw=>by rw[<-w,hd]at ht;cases ht
         refine⟨t,[.int i,.ref y],rfl,bZ.of eS,rfl,.int i,[.ref y],rfl,.ref y,[],rfl,rfl,?_⟩;refine⟨.int i,rfl,.ref a,rfl,.ref y,rfl,a,gO ((fj ks).take i),ys.take i,y,(fj ks)[i],i,rfl,rfl,rfl,by rw[bD hat];exact hd,?_,?_,?_,?_,hlk.mono tm,?_⟩
         ·rw[vJ];exact(hp3.take i).mono tm
         ·rw[vJ];exact hnd.sublist (Uq _ _)
         ·rw[vJ];intro hm;obtain⟨j,hj,ej⟩:=S9 hm;simp at hj;rw[UB]at ej;have:=(SS hnd).mp ej;omega
         ·rw[Nh,Tf];omega
         ·refine⟨_,_,λz o hz NU=>?_,rfl,?_⟩
          ·have h':=M z o hz NU;rw[bD NU,bD (λw=>by rw[w,ht]at h';cases h')]
           exact h'
          ·rw[eS,ZL hki,To,vO];rfl
       ·obtain⟨x4,x5,M,rfl,hd⟩:=q;rw[P0,hyl,Rg,<-hyl,Rg]at hd;have Ow:∀u o,H u=O o->H' u=O o:=λu o z=>M u o (hM u o z) (λw=>by rw[w,ha]at z;cases z)
        have E:Ext ρ H ρ H':=⟨λ_ _ z=>z,λu o z n _=>⟨Ow u o z,n⟩⟩
        refine⟨ρ,[e0,e1,O (.lst (ks.map gy)),O (.gr (gO (fj ks))),U,U],c,W.YG (λu o z _=>Ow u o z),⟨λi g hg=>?_,rfl⟩,akz E p⟩
        match i,hg with
        |0,hg =>
         obtain⟨v,hv,r⟩:=VV.get 0 g hg;exact⟨v,hv,Rel.mono W E _ _ r⟩
        |1,hg =>
         obtain⟨v,hv,r⟩:=VV.get 1 g hg;exact⟨v,hv,Rel.mono W E _ _ r⟩
        |2,hg =>
         cases hg;exact⟨.ref b,rfl,Rel.mono W E _ _ rd⟩
        |3,hg =>
         cases hg;refine⟨.ref a,rfl,a,ys,rfl,hd,?_⟩;rw[vJ];exact hp3.mono λz xs hz=>M z _ hz (IQ hz)
        |4,hg=>cases hg
        |5,hg=>cases hg
        |(n+6),hg=>simp at hg
      ·rw[if_neg tF]at p;exact p.elim
    |_=>rw[he]at p;exact p.elim
def AU:af:=λ_ _=>.bad
theorem ald:aX X e AU:=by
 intro pins s Z H Q I h;obtain⟨ρ,e,c,W,V,p⟩:=h;exact p.elim
end L2
local macro_rules|`(⇑$x)=>`(L2.ao (L2.ak $x) L2.aq)
local macro_rules|`($x⊂$y)=>`(L2.ao (L2.ak $x) (L2.ao (L2.ak $y) L2.aq))
local macro_rules|`(↥$x)=>`(.int ($x :Int))
namespace Ev
open PySem L2 PyProof.Rows
def top(i:Nat):dg:=PySem.Challenge.pw_evenwebs_k66_whole_orders_put_together.main.body.getD i (.Pass ⟨0,0,0,0⟩)
abbrev JM:dg:=top 6
abbrev Kl:dg:=top 7
abbrev JX:dg:=top 8
abbrev yx:dg:=top 9
abbrev Ks:dg:=top 10
abbrev Kn:dg:=top 12
abbrev Km:dg:=top 13
abbrev Ko:dg:=top 15
abbrev JQ:dg:=top 16
abbrev JK:dg:=top 17
abbrev JL:dg:=top 18
abbrev yw:dg:=top 19
abbrev KC:dg:=top 21
abbrev Ku:dg:=top 22
abbrev JO:dg:=top 23
abbrev Kv:dg:=top 24
abbrev KA:dg:=top 25
abbrev Kq:dg:=top 32
abbrev Kr:dg:=top 33
abbrev JZ:dg:=top 34
abbrev JV:dg:=top 35
abbrev JN:dg:=top 36
abbrev JY:dg:=top 37
abbrev Kz:dg:=top 38
abbrev KG:dg:=top 39
abbrev Ky:dg:=top 40
abbrev JP:dg:=top 41
abbrev KD:dg:=top 42
abbrev Kw:dg:=top 43
abbrev JU:dg:=top 44
abbrev CY:dg:=top 45
abbrev JR:dg:=top 46
abbrev JT:dg:=top 47
abbrev JW:dg:=top 48
abbrev KH:dg:=top 49
abbrev Ke:dg:=top 51
abbrev J9:dg:=top 52
abbrev J5:dg:=top 53
abbrev Kc:dg:=top 54
abbrev CW:dg:=top 55
abbrev J6:dg:=top 56
abbrev Kd:dg:=top 57
abbrev Ka:dg:=top 58
abbrev CV:dg:=top 59
abbrev CU:dg:=top 60
abbrev Kg:dg:=top 61
abbrev Kf:dg:=top 62
abbrev J7:dg:=top 63
abbrev J8:dg:=top 64
abbrev Kh:dg:=top 65
def ZJ(st:dg):μ:=match(iH st).getLast? with
 |some (.Return (O (.Call _ [_,e] _ _)) _)=>e
 |_=>.Name "" ⟨0,0,0,0⟩
def ZI(st:dg):μ:=match(iH st).drop 1 with
 |(.Assign _ (.Call _ _ [k] _) _)::_=>k.value
 |_=>.Name "" ⟨0,0,0,0⟩
def aez:μ:=ZI yx
def HR:μ:=ZJ yw
def A7:ah :=
 (aP (aU (cj (ak 2)) [U,O 0,O 1] (aC 0) (aG (av inD (ak 0) (av aH (ak 1) (ak 2)))) (ak 0)))
def n5:List D->aa->R D:=bA 3 ξ A7
def Bs:ah :=
 (aP (aU (cj (ak 2)) [U,O 1,O 0] (aC 0) (i6 (aG (av gm (ak 0) (ak 1))) (aG (av inD (ak 0) (av aH (ak 2) (ak 1))))) (ak 0)))
def vD:List D->aa->R D:=bA 3 ξ Bs
def xg:ah :=
 (aD (aI 2 (eW (ao (qA (ao (aJ aR ⇑0) aq)) aq))) (aD (bT (bK (ao (av kE (ak 1) (dC (.int 1))) aq)) (aC 3) (aD (aI 4 (gu aq)) (aD (bT (cj (ak 2)) (aC 5) (d9 (gR (ak 4) (aU (cj (ak 5)) [U,O 0,O 5] (aC 0) aY (aB 3 vD (ao (ak 1) (0⊂2))))))) (aI 2 (ak 4))))) (aP (aJ nL (ao (aU (cj (ak 2)) [U] (aC 0) aY (aJ aR ⇑0)) aq)))))
def g5:List D->aa->R D:=bA 6 ξ xg
def lO:af :=
 (aJ aR (ao (aB 3 n5 (ao (ak 1) (0⊂2))) aq))
def xr(m:List D->aa->R D):ah :=
 (aD (bx (eF (o8 (ak 1))) (aP (dC (.int 0))) bJ) (aD (aI 2 (wN (oq lO) (ak 1) [0,1])) (aD (aI 3 (aU (cj (ak 1)) [U,O 0,O 2] (aC 0) (aG (av iU (ak 0) (av aH (ak 1) (ak 2)))) (ak 0))) (aP (av bR (dC (.int 1)) (aJ lI (ao (aU (cj (ak 3)) [U,O 0,O 1] (aC 0) aY (aB 2 m (ao (ak 1) (ao (aB 3 n5 (ao (ak 1) (0⊂2))) aq)))) aq)))))))
def kg:Nat->List D->aa->R D
 |0=>λ_ _=>.bad
 |k+1=>bA 4 ξ (xr (kg k))
def xq:ah :=
 (aD (bx (aG (av gm (aJ aR ⇑0) (dC (.int 25)))) rP bJ) (aP (aB 2 (kg 18) (ao (ak 0) (ao (qA (ao (aJ aR ⇑0) aq)) aq)))))
def kc:List D->aa->R D:=bA 1 ξ xq
def Bv:ah :=
 (aP (pe (aJ cL (ao (ak 0) (ao (dC (.ty "int")) aq))) (o9 (aJ cL (ao (ak 0) (ao (dC (.ty "bool")) aq))))))
def zv:List D->aa->R D:=bA 1 ξ Bv
def Bu:ah :=
 (aP (pe (aB 1 zv ⇑0) (FO D9 D9 (ak 1) (ak 0) (ak 2))))
def DV:List D->aa->R D:=bA 3 ξ Bu
def Bw:ah :=
 (aP (aB 3 DV (ao (ak 0) (ao (dC (.int 0)) (ao (av kE (ak 1) (dC (.int 1))) aq)))))
def sL:List D->aa->R D:=bA 2 ξ Bw
def ql:af :=
 (av iU (ak 1) (av aH (ak 2) (ak 0)))
def lams:List (μ×List Str×(List D->aa->R D)):=[(HR,["web"],oq ql)]
def Ba:ah :=
 (aP (aJ eT (ao (aU (bK ⇑0) [U,O 1,O 2] (aC 0) (i6 (aG (av cz (ak 0) (ak 1))) (aG (qC 2 2 lams (1⊂0)))) (ak 0)) aq)))
def j9:List D->aa->R D:=bA 3 ξ Ba
def A5:ah :=
 (aP (aJ eT (ao (aU (bK ⇑0) [U,O 0,O 1] (aC 0) aY (aB 3 j9 (ao (ak 1) (0⊂2)))) aq)))
def sF:List D->aa->R D:=bA 2 ξ A5
def A6:ah :=
 (aD (aI 1 (gu aq)) (aD (bT (qB ⇑0) (fK 2 (cC (aC 2) (cC (aC 3) gn))) (d9 (gR (ak 1) (aU (e9 (ak 3)) [U,O 2] (aC 0) (aG (av je (ak 1) (ak 0))) (bX (1⊂0)))))) (aP (ak 1))))
def vo:List D->aa->R D:=bA 4 ξ A6
def Bb:ah :=
 (aP (AS 0 sF (aJ aR ⇑0) HR ["web"] [0]))
def jd:List D->aa->R D:=bA 1 ξ Bb
def BF:ah :=
 (aP (tT (ao (av aH (ak 0) (ak 1)) aq) (ao (av aH (ak 0) (ak 2)) aq)))
def n9:List D->aa->R D:=bA 3 ξ BF
def BA:ah :=
 (aD (bT (qB ⇑0) (fK 2 (cC (aC 1) (cC (aC 2) gn))) (bx (aG (av cz (aJ aR ⇑2) (aJ aR (ao (av aH (ak 0) (dC (.int 0))) aq)))) (aP (ak 1)) bJ)) (aP (dC .aF)))
def vE:List D->aa->R D:=bA 3 ξ BA
def A8:ah :=
 (aP (ni (o8 (ak 1)) (aB 3 n9 (ao (ak 0) (ao (av aH (av aH (ak 1) (dC (.int 0))) (dC (.int 0))) (ao (av aH (av aH (ak 1) (dC (.int 0))) (dC (.int 1))) aq)))) (dC .aF)))
def lJ:List D->aa->R D:=bA 2 ξ A8
def BB:ah :=
 (aD (aI 2 (aB 2 lJ (0⊂1))) (aD (bT (cj (ak 1)) (aC 3) (bx (aG (av cz (aB 3 n9 (ao (ak 0) (ao (av aH (ak 3) (dC (.int 0))) (ao (av aH (ak 3) (dC (.int 1))) aq)))) (ak 2))) (aP (ak 3)) bJ)) (aP (dC .aF))))
def vF:List D->aa->R D:=bA 4 ξ BB
def BE:ah :=
 (aD (aI 1 (aB 1 vE ⇑0)) (aD (bx (aG (av iX (ak 1) (dC .aF))) (aP (bX (ao (dC (.str "place")) ⇑1))) bJ) (aD (aI 2 (aB 1 vo ⇑0)) (aD (aI 3 (aB 1 vo (ao (aB 1 jd ⇑0) aq))) (aD (bT (e9 (bX (ao (bX (ao (dC (.str "tied")) ⇑2)) (ao (bX (ao (dC (.str "apart")) ⇑3)) aq)))) (fK 2 (cC (aC 4) (cC (aC 5) gn))) (aD (aI 6 (aB 2 vF (0⊂5))) (bx (aG (av iX (ak 6) (dC .aF))) (aP (bX (ao (ak 4) (ao (av aH (ak 6) (dC (.int 0))) (ao (av aH (ak 6) (dC (.int 1))) aq))))) bJ))) (aP (bX (ao (dC (.str "even")) (ao (bX (ao (aJ aR ⇑0) (ao (aJ aR (ao (av aH (ak 0) (dC (.int 0))) aq)) (ao (aB 2 lJ (0⊂2)) (ao (aB 2 lJ (0⊂3)) aq))))) aq)))))))))
def fH:List D->aa->R D:=bA 7 ξ BE
def Bx:ah :=
 (aD (bx (jH (eF (aG (aJ cL (ao (ak 0) (ao (dC (.ty "tuple")) aq))))) (aG (av cz (aJ aR ⇑0) (ak 1)))) (aP (dC (.bl ξ))) bJ) (aP (pe (aJ kB (ao (aU (e9 (ak 0)) [U,O 1] (aC 0) aY (aB 2 sL (0⊂1))) aq)) (av cE (tS ⇑0) (ak 1)))))
def zw:List D->aa->R D:=bA 2 ξ Bx
def By:ah :=
 (aP (av oX (aJ mF (ao (aU (e9 (av aH (ak 0) (ak 3))) [U,O 2] (aC 0) aY (av aH (ak 1) (ak 0))) aq)) (aJ D6 (ao (av aH (ak 1) (av aH (ak 2) (ak 3))) aq))))
def zx:List D->aa->R D:=bA 4 ξ By
def Bf:ah :=
 (aD (bx (jH (aG (av cz (aJ aR ⇑0) (aJ aR ⇑1))) (eF (aG (aB 2 zw (ao (ak 2) (ao (aJ aR ⇑0) aq)))))) (aP (dC (.bl ξ))) bJ) (aP (aJ kB (ao (aU (bK (ao (aJ aR ⇑0) aq)) [U,O 0,O 1,O 2] (aC 0) aY (aB 4 zx (ao (ak 1) (ao (ak 2) (3⊂0))))) aq))))
def zo:List D->aa->R D:=bA 3 ξ Bf
def Gk:ah :=
 (aP (aJ eT (ao (aU (e9 (ak 0)) [U,O 1] (aC 0) aY (av bR (ak 1) (ak 0))) aq)))
def vq:List D->aa->R D:=bA 2 ξ Gk
def Gj:ah :=
 (aP (av A3 (ak 0) (aJ eT (ao (aU (e9 (ak 1)) [U,O 0] (aC 0) aY (aB 2 vq (ao (ak 0) (ao (aJ aR ⇑1) aq)))) aq))))
def qh:List D->aa->R D:=bA 2 ξ Gj
def Gm:ah :=
 (aP (bX (ao (av aH (ak 1) (ak 2)) (ao (aJ eT (ao (aJ mF (ao (aU (e9 (av aH (ak 0) (ak 2))) [U,O 1] (aC 0) aY (av aH (ak 1) (ak 0))) aq)) aq)) aq))))
def vt:List D->aa->R D:=bA 3 ξ Gm
def BD:ah :=
 (aD (aI 2 (aU (bK (ao (aJ aR ⇑0) aq)) [U,O 0,O 1] (aC 0) aY (aB 3 vt (ao (ak 1) (2⊂0))))) (aD uN (aP (aU (cj (ak 2)) [U,O 3] (aC 0) aY (av qo (ak 1) (ak 0))))))
def qi:List D->aa->R D:=bA 6 ξ BD
def BG:ah :=
 (aD (aI 1 (av fL (aJ aR ⇑0) (dC (.int 2)))) (aP (av oX (aJ mF (ao (AO (ak 0) AR (AQ (ak 1))) aq)) (aJ mF (ao (AO (ak 0) (AQ (ak 1)) AR) aq)))))
def lM:List D->aa->R D:=bA 2 ξ BG
def BC:ah :=
 (aD (aI 2 (ak 1)) (aD (aI 3 (aB 2 qi (0⊂2))) (aD (mz (i6 (aG (aB 1 lM ⇑3)) (aG (av gm (lX ⇑3) (lX ⇑2)))) (aD (aI 2 (ak 3)) (aI 3 (aB 2 qi (0⊂2)))) 40) (aP (ak 3)))))
def mV:List D->aa->R D:=bA 4 ξ BC
def A9:ah :=
 (aD (aI 3 (av bR (aJ lI ⇑0) (dC (.int 1)))) (aP (aU (FN ⇑0) [U,U,O 3,O 1,O 2] (fK 2 (cC (aC 0) (cC (aC 1) gn))) aY (ni (aG (av inD (ak 0) (bX (3⊂4)))) (ak 2) (ak 1)))))
def kO:List D->aa->R D:=bA 4 ξ A9
def Gq:ah :=
 (aP (av oX (aU (e9 (av aH (ak 0) (ak 1))) [U,O 2] (aC 0) (aG (av cz (ak 0) (ak 1))) (ak 0)) (aU (e9 (av aH (ak 0) (ak 2))) [U,O 1] (aC 0) (aG (av cz (ak 0) (ak 1))) (ak 0))))
def sM:List D->aa->R D:=bA 3 ξ Gq
def Gp:ah :=
 (aD (aI 2 (av fL (aJ aR ⇑0) (dC (.int 2)))) (aD (bT (bK ⇑2) (aC 3) (bx (eF (aG (aJ kB (ao (aU (bK ⇑2) [U,O 0,O 3,O 1] (aC 0) (aG (av cE (av aH (ak 3) (ak 0)) (av aH (ak 3) (ak 2)))) (aB 3 sM (ao (ak 1) (2⊂0)))) aq)))) (aP (ak 3)) bJ)) (aP (dC .aF))))
def kP:List D->aa->R D:=bA 4 ξ Gp
def Bd:ah :=
 (aD (aI 1 (av fL (aJ aR ⇑0) (dC (.int 2)))) (aD (aI 2 (gu aq)) (aD (bT (bK ⇑1) (aC 3) (aD (aI 4 (aU (bK ⇑1) [U,O 0,O 3,O 1] (aC 0) (aG (av cE (av aH (ak 1) (av bR (ak 3) (ak 0))) (av aH (ak 1) (ak 2)))) (ak 0))) (d9 (qD (ak 2) (aJ vj (ao (aU (cj (ak 4)) [U,O 2] (aC 0) (aG (av iU (ak 0) (ak 1))) (ak 0)) aq)))))) (aP (aJ eT ⇑2)))))
def vp:List D->aa->R D:=bA 5 ξ Bd
def nu(m:List D->aa->R D):ah :=
 (aD (aI 2 (aB 2 mV (0⊂1))) (aD (bx (eF (aG (aB 1 lM ⇑2))) (aP (dC .aF)) bJ) (aD (aI 3 (aB 2 kP (0⊂2))) (aD (bx (aG (av g7 (ak 3) (dC .aF))) (aP (aB 1 vp ⇑2)) bJ) (aD (bT (fM (ao (av fL (aJ aR ⇑0) (dC (.int 2))) (ao (aJ aR ⇑0) aq))) (aC 4) (bx (aG (av cE (av aH (ak 2) (ak 4)) (av aH (ak 2) (ak 3)))) (aD (aI 5 (aB 2 m (ao (ak 0) (ao (aB 3 kO (ao (ak 2) (3⊂4))) aq)))) (bx (aG (av iX (ak 5) (dC .aF))) (aP (ak 5)) bJ)) bJ)) (aP (dC .aF)))))))
def gA:Nat->List D->aa->R D
 |0=>λ_ _=>.bad
 |k+1=>bA 6 ξ (nu (gA k))
def wZ:ah :=
 (bx (jH (aG (av gm (aJ aR ⇑0) (ak 2))) (i6 (aG (av gm (aJ aR ⇑0) (ak 1))) (eF (aG AU)))) rP bJ)
def jx:List D->aa->R D:=bA 3 ξ wZ
def Bc:ah :=
 (aD (d9 (aB 3 jx (ao (ak 0) (ao (dC (.int 12)) (ao (dC (.int 28)) aq))))) (aD (d9 (aB 3 jx (ao (ak 1) (ao (dC (.int 12)) (ao (dC (.int 28)) aq))))) (aD (bx (aG (av cz (aJ aR ⇑0) (aJ aR ⇑1))) (aP (dC .aF)) bJ) (aP (aB 2 (gA 14) (ao (aB 2 qh (0⊂1)) (ao (av mK (eW (ao (dC (.int 0)) aq)) (av dZ (dC (.int 2)) (aJ aR ⇑0))) aq)))))))
def iE:List D->aa->R D:=bA 2 ξ Bc
def Be:ah :=
 (aD (d9 (aB 3 jx (ao (ak 0) (ao (dC (.int 10)) (ao (dC (.int 16)) aq))))) (aD (aI 1 (aJ aR ⇑0)) (aD (aI 2 (aB 2 qh (0⊂0))) (aD (aI 3 (av mK (eW (ao (dC (.int 0)) aq)) (av dZ (dC (.int 2)) (ak 1)))) (aD (aI 4 (dC (.int 1))) (aD (bT (bK ⇑1) (aC 5) (aD (aI 6 (aU (bK ⇑1) [U,O 3,O 5,O 1] (aC 0) aY (aB 3 kO (ao (ak 1) (ao (ak 2) (ao (av bR (ak 3) (ak 0)) aq)))))) (aD (aI 4 (av dZ (ak 4) (aJ aR (ao (aU (cj (ak 6)) [U,O 2] (aC 0) (aG (av iX (aB 2 (gA 14) (1⊂0)) (dC .aF))) (ak 0)) aq)))) (aI 3 (av aH (ak 6) (ak 5)))))) (aP (ak 4))))))))
def gZ:List D->aa->R D:=bA 7 ξ Be
def xu:ah :=
 (aD (bT (fM (ao (dC (.int 1)) (ao (av bR (dC (.int 4)) (dC (.int 1))) aq))) (aC 2) (aD (aI 3 (aB 2 g5 (0⊂2))) (aD (aI 4 (aB 2 g5 (1⊂2))) (bx (aG (av cz (ak 3) (ak 4))) (aP (bX (ao (dC (.str "knots")) (ao (ak 2) (3⊂4))))) bJ)))) (aD (aI 5 (aB 2 iE (0⊂1))) (aP (ni (aG (av g7 (ak 5) (dC .aF))) (bX (ao (dC (.str "none")) aq)) (bX (ao (dC (.str "order")) ⇑5))))))
def sN:List D->aa->R D:=bA 6 ξ xu
def xm:ah :=
 (aD (bx (aG (av je (ak 1) (aJ aR ⇑0))) (aP (av aH (ak 0) (ak 1))) bJ) (aP (dC (.int 0))))
def sH:List D->aa->R D:=bA 2 ξ xm
def xj:ah :=
 (aD (bx (aG (av OD (ak 0) (av rT (dC (.int 10)) (dC (.int 18))))) (aP (gu (ao (av kE (ak 0) (av rT (dC (.int 10)) (dC (.int 18)))) aq))) bJ) (aD (aI 1 (dC (.int 0))) (aD (bT (bK (ao (dC (.int 64)) aq)) (aC 2) (aD (aI 3 (av iD (av dZ (av bR (av bR (av iD (ak 0) (dC (.int 2147483629))) (av dZ (dC (.int 7919)) (ak 2))) (dC (.int 1))) (dC (.int 48271))) (dC (.int 2147483647)))) (aD (aI 3 (av iD (av bR (av bR (av dZ (ak 3) (ak 3)) (av dZ (dC (.int 69621)) (ak 2))) (dC (.int 7))) (dC (.int 2147483587)))) (aI 1 (av bR (av dZ (ak 1) (dC (.int 2147483587))) (ak 3)))))) (aP (gu ⇑1)))))
def sG:List D->aa->R D:=bA 4 J xj
def Bh:ah :=
 (aD (aI 2 (av iD (av aH (ak 0) (dC (.int 0))) (ak 1))) (aD (jZ (av fL (av aH (ak 0) (dC (.int 0))) (ak 1)) (ko (ak 0) (dC (.int 0)))) (aP (ak 2))))
def fy:List D->aa->R D:=bA 3 ξ Bh
def Bm:ah :=
 (aD (aI 2 (gu aq)) (aD (bT (bK ⇑1) (aC 3) (d9 (wO (ak 2) (aB 2 fy (ao (ak 0) (ao (av bR (ak 3) (dC (.int 1))) aq))) (ak 3)))) (aP (aJ eT ⇑2))))
def lK:List D->aa->R D:=bA 4 ξ Bm
def Gn:ah :=
 (aD (aI 2 (aU (bK ⇑0) [U,O 0] (aC 0) aY (av nR (eW (ao (dC (.bl ξ)) aq)) (ak 1)))) (aD (bT (cj (ak 1)) (fK 2 (cC (aC 3) (cC (aC 4) gn))) (aD (jZ (dC (.bl J)) (ko (av aH (ak 2) (ak 3)) (ak 4))) (jZ (dC (.bl J)) (ko (av aH (ak 2) (ak 4)) (ak 3))))) (aP (ak 2))))
def vB:List D->aa->R D:=nc 5 Gn
def Bj:ah :=
 (aD (aI 2 (av bR (dC (.int 1)) (aB 2 fy (0⊂1)))) (aD (aI 3 (av bR (dC (.int 1)) (aB 2 fy (ao (ak 0) (ao (dC (.int 5)) aq))))) (aD (aI 4 (gu aq)) (aD (bT (bK ⇑2) (aC 5) (d9 (gR (ak 4) (aU (fM (ao (av bR (ak 5) (dC (.int 1))) ⇑2)) [U,O 5,O 3,O 0] (aC 0) (aG (av je (aB 2 fy (ao (ak 3) (ao (dC (.int 6)) aq))) (ak 2))) (bX (1⊂0)))))) (aP (aB 2 vB (2⊂4)))))))
def zp:List D->aa->R D:=bA 6 ξ Bj
def Bo:ah :=
 (aD (aI 2 (gu aq)) (aD (bT (bK ⇑0) (aC 3) (bT (fM (ao (av bR (ak 3) (dC (.int 1))) ⇑0)) (aC 4) (bx (aG (aJ xy (ao (aU (cj (av aH (ak 1) (ak 3))) [U,O 1,O 4] (aC 0) aY (av inD (ak 0) (av aH (ak 1) (ak 2)))) aq))) (d9 (qD (ak 2) (bX (3⊂4)))) bJ))) (aP (ak 2))))
def vA:List D->aa->R D:=bA 5 ξ Bo
def Bl:ah :=
 (aD (aI 2 (aB 2 fy (ao (ak 0) (ao (dC (.int 6)) aq)))) (aD (aI 3 (av bR (dC (.int 1)) (aB 2 fy (0⊂1)))) (aD (aI 4 (gu aq)) (aD (bx (aG (av cE (ak 2) (dC (.int 0)))) (aD (aI 5 (aU (fM (ao (dC (.int 1)) (ao (av bR (av fL (ak 3) (dC (.int 2))) (dC (.int 1))) aq))) [U,O 0] (aC 0) (aG (av cE (aB 2 fy (ao (ak 1) (ao (dC (.int 2)) aq))) (dC (.int 1)))) (ak 0))) (bT (cj (ak 5)) (aC 6) (d9 (gR (ak 4) (aU (bK ⇑3) [U,O 3,O 6] (aC 0) aY (bX (ao (ak 0) (ao (av iD (av bR (ak 0) (ak 2)) (ak 1)) aq)))))))) (bx (aG (av cE (ak 2) (dC (.int 1)))) (aD (aI 7 (av aH (eW (ao (dC (.int 2)) (ao (dC (.int 3)) (ao (dC (.int 4)) (ao (dC (.int 5)) aq))))) (aB 2 fy (ao (ak 0) (ao (dC (.int 4)) aq))))) (aD (aI 8 (gu aq)) (aD (bT (bK ⇑7) (aC 9) (d9 (gR (ak 8) (aU (fM (ao (av bR (ak 9) (dC (.int 1))) ⇑7)) [U,O 9] (aC 0) aY (eW (1⊂0)))))) (aD (aI 3 (aJ kM (ao (aJ aR ⇑8) ⇑1))) (aI 4 (aB 2 vA (3⊂8))))))) (bx (aG (av je (ak 2) (dC (.int 4)))) (aD (aI 10 (av bR (dC (.int 1)) (aB 2 fy (ao (ak 0) (ao (aJ kM (ao (dC (.int 4)) ⇑1)) aq))))) (aD (aI 11 (av bR (dC (.int 1)) (aB 2 fy (ao (ak 0) (ao (aJ kM (ao (dC (.int 4)) (ao (av fL (ak 1) (ak 10)) aq))) aq))))) (aD (aI 3 (av dZ (ak 10) (ak 11))) (aD (aI 8 (aU (bK ⇑3) [U,O 11] (aC 0) aY (eW (ao (av fL (ak 0) (ak 1)) aq)))) (aD (bx (aG (av cE (ak 2) (dC (.int 2)))) (aI 8 (aU (bK ⇑3) [U,O 11] (aC 0) aY (eW (ao (av fL (ak 0) (ak 1)) (ao (av bR (dC (.int 10)) (av iD (ak 0) (ak 1))) aq))))) bJ) (aI 4 (aB 2 vA (3⊂8)))))))) (bx (aG (av cE (ak 2) (dC (.int 4)))) (aD (aI 3 (aJ kM (ao (ak 1) (ao (av aH (eW (ao (dC (.int 5)) (ao (dC (.int 13)) aq))) (aB 2 fy (ao (ak 0) (ao (dC (.int 2)) aq)))) aq)))) (aD (aI 12 (aU (fM (ao (dC (.int 1)) ⇑3)) [U,O 3] (aC 0) aY (av iD (av dZ (ak 0) (ak 0)) (ak 1)))) (bT (bK ⇑3) (aC 9) (d9 (gR (ak 4) (aU (fM (ao (av bR (ak 9) (dC (.int 1))) ⇑3)) [U,O 9,O 12,O 3] (aC 0) (aG (av inD (av iD (av kE (ak 0) (ak 1)) (ak 3)) (ak 2))) (bX (1⊂0)))))))) (aD (aI 3 (aJ kM (ao (dC (.int 8)) ⇑1))) (aD (bT (bK ⇑3) (aC 9) (d9 (gR (ak 4) (aU (fM (ao (av bR (ak 9) (dC (.int 1))) ⇑3)) [U,O 9] (aC 0) (aG (av inD (av kE (ak 0) (ak 1)) (bX (ao (dC (.int 1)) (ao (dC (.int 2)) (ao (dC (.int 4)) aq)))))) (bX (1⊂0)))))) (aI 4 (aU (cj (ak 4)) [U,U] (fK 2 (cC (aC 0) (cC (aC 1) gn))) (aG (av cE (av xB (ak 0) (ak 1)) (ak 0))) (bX (0⊂1)))))))))) (aP (aB 2 vB (3⊂4)))))))
def zu:List D->aa->R D:=bA 13 ξ Bl
def Bp:ah :=
 (aD (aI 2 (aJ aR ⇑0)) (aD (aI 3 (aU (bK ⇑2) [U,O 2] (aC 0) aY (av nR (eW (ao (dC (.bl ξ)) aq)) (ak 1)))) (aD (bT (bK ⇑2) (aC 4) (bT (bK ⇑2) (aC 5) (jZ (av aH (av aH (ak 0) (ak 4)) (ak 5)) (ko (av aH (ak 3) (av aH (ak 1) (ak 4))) (av aH (ak 1) (ak 5)))))) (aP (ak 3)))))
def n8:List D->aa->R D:=nc 6 Bp
def Bg:ah :=
 (aD (aI 3 (aU (cj (ak 0)) [U] (aC 0) aY (aJ sP ⇑0))) (aD (jZ (o9 (av aH (av aH (ak 3) (ak 1)) (ak 2))) (ko (av aH (ak 3) (ak 1)) (ak 2))) (aD (jZ (o9 (av aH (av aH (ak 3) (ak 2)) (ak 1))) (ko (av aH (ak 3) (ak 2)) (ak 1))) (aP (ak 3)))))
def vz:List D->aa->R D:=nc 4 Bg
def Br:ah :=
 (aD (aI 1 (aJ aR ⇑0)) (aP (aU (bK ⇑1) [U,O 1,O 0] (aC 0) aY (aU (bK ⇑1) [U,O 0,O 2] (aC 0) aY (pe (av cz (ak 1) (ak 0)) (o9 (av aH (av aH (ak 2) (ak 1)) (ak 0))))))))
def sJ:List D->aa->R D:=bA 2 ξ Br
def Bq:ah :=
 (aD (bx (aG (av je (aB 2 fy (ao (ak 0) (ao (dC (.int 5)) aq))) (dC (.int 2)))) (aI 2 (aB 2 zp (0⊂1))) (aI 2 (aB 2 zu (0⊂1)))) (aD (aI 3 (aJ aR ⇑2)) (aD (bx (aG (av cE (aB 2 fy (ao (ak 0) (ao (dC (.int 3)) aq))) (dC (.int 0)))) (aI 2 (aB 1 sJ ⇑2)) bJ) (aD (bx (i6 (aG (av gm (ak 3) (dC (.int 1)))) (aG (av cE (aB 2 fy (ao (ak 0) (ao (dC (.int 4)) aq))) (dC (.int 0))))) (aD (aI 4 (aB 2 fy (0⊂3))) (aI 2 (aB 3 vz (ao (ak 2) (ao (ak 4) (ao (av iD (av bR (av bR (ak 4) (dC (.int 1))) (aB 2 fy (ao (ak 0) (ao (av kE (ak 3) (dC (.int 1))) aq)))) (ak 3)) aq)))))) bJ) (aP (aB 2 n8 (ao (ak 2) (ao (aB 2 lK (0⊂3)) aq))))))))
def sI:List D->aa->R D:=bA 5 ξ Bq
def Bk:ah :=
 (aP (aJ eT (ao (aU (cj (ak 0)) [U,O 0] (aC 0) aY (aJ eT (ao (aU (bK (ao (aJ aR ⇑1) aq)) [U,O 0] (aC 0) (aG (av aH (ak 1) (ak 0))) (ak 0)) aq))) aq)))
def jy:List D->aa->R D:=bA 1 ξ Bk
def xh:ah :=
 (aD (aI 3 (aB 2 iE (0⊂1))) (aD (aI 4 (aB 2 iE (1⊂2))) (aD (bx (jH (aG (av g7 (ak 3) (dC .aF))) (jH (aG (av g7 (ak 4) (dC .aF))) (aG (av cz (av aH (aB 2 sN (0⊂2)) (dC (.int 0))) (dC (.str "order")))))) (aP (dC (.bl ξ))) bJ) (aD (bx (eF (aG (aB 3 zo (ao (ak 0) (ao (ak 2) (ao (aJ eT (ao (aU (e9 (ak 3)) [U,O 4] (aC 0) aY (av aH (ak 1) (ak 0))) aq)) aq)))))) (aP (dC (.bl ξ))) bJ) (aD (bx (aG (av jc (aB 2 iE (ao (aB 1 jd ⇑0) (ao (aB 1 jd ⇑1) aq))) (ak 3))) (aP (dC (.bl ξ))) bJ) (aD (bx (aG (av cz (av cE (av aH (aB 1 fH ⇑0) (dC (.int 0))) (dC (.str "even"))) (av cE (av aH (aB 1 fH ⇑2) (dC (.int 0))) (dC (.str "even"))))) (aP (dC (.bl ξ))) bJ) (aD (bx (i6 (aG (av cE (av aH (aB 1 fH ⇑0) (dC (.int 0))) (dC (.str "even")))) (aG (av jc (aB 1 fH ⇑0) (aB 1 fH ⇑1)))) (aP (dC (.bl ξ))) bJ) (aD (bx (aG (av jc (aU (fM (ao (dC (.int 1)) (ao (dC (.int 5)) aq))) [U,O 0] (aC 0) aY (aB 2 g5 (1⊂0))) (aU (fM (ao (dC (.int 1)) (ao (dC (.int 5)) aq))) [U,O 2] (aC 0) aY (aB 2 g5 (1⊂0))))) (aP (dC (.bl ξ))) bJ) (aP (av cE (aB 1 kc ⇑0) (aB 1 kc ⇑1)))))))))))
def zq:List D->aa->R D:=bA 5 ξ xh
def xo:ah :=
 (aD (bT (bK (ao (aJ sE (ao (dC (.int 1)) (ao (aJ kM (ao (aJ aR ⇑0) (ao (dC (.int 6)) aq))) aq))) aq)) (aC 1) (aD (aI 2 (aB 1 sG (ao (aB 2 sH (0⊂1)) aq))) (aD (aI 3 (aB 2 sI (ao (ak 2) (ao (dC (.int 10)) aq)))) (aD (aI 4 (aJ aR ⇑3)) (aD (aI 5 (aB 2 n8 (ao (ak 3) (ao (aB 2 lK (2⊂4)) aq)))) (aD (aI 6 (aB 1 jy ⇑3)) (aD (bx (eF (aG (aB 3 zq (ao (ak 6) (ao (aB 1 jy ⇑5) (ao (aB 1 jy (ao (aB 2 n8 (ao (ak 5) (ao (aB 2 lK (2⊂4)) aq))) aq)) aq)))))) (aP (dC (.bl ξ))) bJ) (bx (aG (av je (ak 4) (dC (.int 9)))) (aD (aI 7 (aB 1 gZ ⇑6)) (bx (jH (aG (av cz (aB 1 gZ (ao (aB 1 jd ⇑6) aq)) (ak 7))) (aG (av cz (aB 1 gZ (ao (aB 1 jy ⇑5) aq)) (ak 7)))) (aP (dC (.bl ξ))) bJ)) bJ)))))))) (aP (dC (.bl J))))
def vC:List D->aa->R D:=bA 8 ξ xo
end Ev
namespace L2
open PySem PySem.Spec PyProof.Rows
structure Dd (K:Ξ) (mg:Str->Option Δ) (x:Str) (st:dg) (ps:List Str) where
 a:L
 fd:RK
 d:Def K mg x st ps a fd
 n:π K ι x=O (O (.ref a))
section
variable {K:Ξ}{mg:Str->Option Δ}{x:Str}{st:dg}{ps:List Str}{f:L}{h:υ}
def FA(K:Ξ)(x:Str)(st:dg)(f:L):Prop:=π K ι x=O (O (.ref f))/\∃(oc:Δ) (od:Option L) (kV dc pm:Δ) (an:Option L) (cd ct:Δ) (sl:Array (Option Δ)),K.lookup f=O ⟨oc,od,.func (PySem.W.fnOf x x (oZ st) (iH st) (dG st) .none kV dc pm an cd ct),sl⟩/\PySem.W.codeIn K cd x=J/\PySem.W.keepIn K (.ref f)=J
theorem FA.mk{kV:Δ}(a:π K ι x=O (O (.ref f)))(l:K.lookup f=O ⟨oc,od,.func (PySem.W.fnOf x x (oZ st) (iH st) (dG st) .none kV dc pm an cd ct),sl⟩)(c:PySem.W.codeIn K cd x=J)(k:PySem.W.keepIn K (.ref f)=J):FA K x st f:=⟨a,_,_,_,_,_,_,_,_,_,l,c,k⟩
theorem FA.fn(A:FA K x st f):∃fd,mq K x x st f fd:=by
 obtain⟨_,oc,od,kV,dc,pm,an,cd,ct,sl,l,c,k⟩:=A;exact⟨_,abU l c k⟩
def bQ(X:K.In h)(G:h.Ns ι mg)(A:FA K x st f)(hb:∀(kV doc pm:Δ) (an:Option L) (cdv ct:Δ) (us:List Δ),us.length=ps.length->bindArgs (PySem.W.fnOf x x (oZ st) (iH st) (dG st) .none kV doc pm an cdv ct) ⟨us,[]⟩=pure (ps.zip us):=by
  intro _ _ _ _ _ _ us hl
  rcases us with _|⟨_,_|⟨_,_|⟨_,_|⟨_,_|⟨_,_⟩⟩⟩⟩⟩<;>first|(simp at hl;done)|rfl):Dd K mg x st ps :=
 ⟨f,A.fn.choose,⟨A.fn.choose_spec,T5 X G A.1,A.fn.choose_spec.binds hb⟩,A.1⟩
theorem Zz(D:Dd K mg x st [p])(EN:mg x=O (.ref f))(ok:∀base:υ,eO P w K mg base dJ k D.a D.fd [p] sp)(hb:∀(kV doc pm:Δ) (an:Option L) (cdv ct v:Δ),bindArgs (PySem.W.fnOf x x (oZ st) (iH st) (dG st) .none kV doc pm an cdv ct) ⟨[v],[]⟩=pure [(p,v)]:=by exact λ_ _ _ _ _ _ _=>rfl):
  ∃fd:RK,(∀(s:Ψ) (v:Δ),Tc s fd ⟨[v],[]⟩ [(p,v)])/\∀base:υ,K.In base->base.Ns ι mg->eO P w K mg base dJ k f fd [p] sp:=by
 cases(EN.symm.trans D.d.at');obtain⟨oc,od,kV,doc,pm,an,cdv,ct,osl,hfd,lk,hcd⟩:=D.d.fn.ex;exact⟨D.fd,λs v=>.of_eq (by rw[hfd];exact hb kV doc pm an cdv ct v),λbase _ _=>ok base⟩
end
abbrev bV(P:ν)(w:τ){K:Ξ}{mg:Str->Option Δ}{x:Str}{st:dg}{ps:List Str}(base:υ)(k:Nat)(F:Dd K mg x st ps)(n:Nat)(m:List D->aa->R D):Prop:=eO P w K mg base dJ k F.a F.fd ps (fk K n m)
section
variable {X:Cx}{N':List Str}{pick:List (Option Nat)}{scope:R5}{tg elt iter:μ}{ifs:List μ}{pos:Pos}{ds:Ev->aa->R Src}{g:Gd}{dt:ai}{de:af}
theorem aT{st:dg}{D:Dd X.K X.mg x st ps}{m:List L2.D->aa->R L2.D}{da:Ev->aa->R (List L2.D)}{pos:Pos}(G:eO X.prog X.w X.K X.mg X.base dJ k D.a D.fd ps (fk X.K n m))(hr:cu j X.A)(ha:gv X (e::es) da)(hk:k<=j:=by decide)(hg:Gl X x:=by rfl)(hdb:(x==("__debug__":Str))=ξ:=by decide)(he:ε (e::es) X.env=(ξ,eval e X.env)::ε es X.env:=by exact cR rfl)(hpl:(Q6 pos (ε es X.env)).any (·.1)=ξ:=by exact gb rfl):
  aX X (.Call (.Name x p) (e::es) [] pos) (aB n m da):=j4 D.d G (hr.mono hk) ha hg hdb he hpl
theorem fW(hit:PId X (.Name x p) iter ds)(he:∀cl C s₀ H₀ ex pn,aX (fO X N' scope cl C s₀ H₀ ex pn) elt de)(S:cH X N' pick scope:=by exact cH.of rfl rfl)(hN:N'.Nodup:=by decide +kernel)(hg:N'.Nodup->∀cl C s₀ H₀ ex pn,l9 (fO X N' scope cl C s₀ H₀ ex pn) (.Name x p) (aC 0):=by exact λh _ _ _ _ _ _=>cS (i:=0) (hN:=h))(hc:X.calm=J:=by rfl)(hs:∀x,foldedSetIterable iter X.env x=pure x:=by intro _;rfl):
  aX X (.ListComp elt [⟨.Name x p,iter,[],0⟩] scope pos) (aU ds pick (aC 0) aY de):=iQ S hit (hg hN) (λ_ _ _ _ _ _=>mO) he hc hs
end
section
variable {X:Cx}{st:dg}{rest:List dg}{t u:ah}{e:μ}{da:af}{pos:Pos}
theorem bz(i:Nat){pos':Pos}(he:aX X e da)(hN:X.N.Nodup:=by assumption)(hi:X.N[i]? = O x:=by rfl)(hx:Loc X.env.scope x:=by first|exact Or.inl rfl|exact Or.inr rfl)(hs:swapsWith e (O (.Name x pos')) pos.line X.env=pure ξ:=by rfl)(hf:X.fn x=J\/X.env.scope.names.lookup x=O .local:=by first|exact .inl rfl|exact .inr rfl):kC X (.Assign [.Name x pos'] e pos) (aI i da):=rM he hN hi hx hs hf
theorem fC(i:Nat)(hN:X.N.Nodup:=by assumption)(hi:X.N[i]? = O x:=by rfl)(hx:Loc X.env.scope x:=by first|exact Or.inl rfl|exact Or.inr rfl)(hf:X.fn x=J\/X.env.scope.names.lookup x=O .local:=by first|exact .inl rfl|exact .inr rfl):l9 X (.Name x pos) (aC i):=cS hN hi hx hf
end
theorem b7{w:τ}{K:Ξ}{mg:Str->Option Δ}{base:υ}{st:dg}{D:Dd K mg x st ps}(N:List Str){k n m:Nat}{own:Bool}{d:ah}(hb:N.Nodup->∀(cdv:Δ) (A:χ) (outer:List Env) (s:Ψ) (H:Hp) (E:XK),cu k (A.deeper (envOfC x (dG st) s.heap.objs.size D.a cdv))->bB (lY dJ P w K mg base N x (dG st) D.a cdv A outer s H E).lG (iH st) d)(S:jQ N ps (dG st):=by exact⟨rfl,rfl,rfl,by decide +kernel,rfl,by decide +kernel,by decide +kernel⟩)(hN:N.length=n:=by rfl)(hm:ps.length=m:=by rfl):eO P w K mg base dJ (k+1) D.a D.fd ps (fk K m (bA n own d)) :=
 O6 D.d.fn S hN hm (hb S.nd)
end L2
namespace Ev
open PySem L2 PyProof.Rows
set_option genInjectivity false in
set_option genSizeOfSpec false in
structure Tx (K:Ξ) (mg:Str->Option Δ) where
 wo:Dd K mg "tied_to" JM ["web","place","some"]
 Aq:Dd K mg "later_tied_to" Kl ["web","place","some"]
 Ab:Dd K mg "many_knots" JX ["web","size"]
 kY:Dd K mg "greatest_among" yx ["web","some"]
 Ax:Dd K mg "greatest_knot" Ks ["web"]
 As:Dd K mg "is_whole" Kn ["thing"]
 Ar:Dd K mg "is_whole_within" Km ["thing","least","most"]
 Au:Dd K mg "is_place" Ko ["thing","many"]
 z5:Dd K mg "row_where" JQ ["many","one","are_tied"]
 wm:Dd K mg "web_where" JK ["many","are_tied"]
 zZ:Dd K mg "ties" JL ["web"]
 tO:Dd K mg "other_web" yw ["web"]
 AD:Dd K mg "common" KC ["web","one","other"]
 Ay:Dd K mg "first_unlike_place" Ku ["web"]
 z4:Dd K mg "shared_by_all" JO ["web","pairs"]
 Az:Dd K mg "first_unlike_pair" Kv ["web","pairs"]
 AB:Dd K mg "evenness" KA ["web"]
 Av:Dd K mg "is_order" Kq ["thing","many"]
 Aw:Dd K mg "is_led" Kr ["one","other","order","place"]
 Ad:Dd K mg "leads" JZ ["one","other","thing"]
 z8:Dd K mg "moved_on" JV ["row","many"]
 z3:Dd K mg "side_by_side" JN ["one","other"]
 Ac:Dd K mg "look_of" JY ["both","colours","place"]
 AA:Dd K mg "finer_colours" Kz ["both","colours"]
 wI:Dd K mg "are_shared" KG ["colours"]
 wH:Dd K mg "finest_colours" Ky ["both","colours"]
 wu:Dd K mg "set_apart" JP ["colours","one","other"]
 AE:Dd K mg "are_twins" KD ["web","one","other"]
 wG:Dd K mg "first_open" Kw ["both","colours"]
 wz:Dd K mg "order_by" JU ["colours"]
 kZ:Dd K mg "first_order" CY ["both","colours"]
 z6:Dd K mg "require_few" JR ["web","most","most_even"]
 z7:Dd K mg "order_to" JT ["one","other"]
 Aa:Dd K mg "many_orders" JW ["web"]
 AF:Dd K mg "alike" KH ["one","other"]
 Am:Dd K mg "_law_cell_at" Ke ["script","k"]
 Ai:Dd K mg "_law_pot" J9 ["cell"]
 Ae:Dd K mg "_law_take" J5 ["pot","far"]
 Ak:Dd K mg "_law_order" Kc ["pot","wide"]
 wC:Dd K mg "_law_joined" CW ["many","wanted"]
 Af:Dd K mg "_law_scattered" J6 ["pot","most"]
 Al:Dd K mg "_law_near" Kd ["many","marks"]
 Aj:Dd K mg "_law_plain" Ka ["pot","most"]
 wB:Dd K mg "_law_moved" CV ["table","order"]
 wA:Dd K mg "_law_toggled" CU ["table","one","other"]
 Ao:Dd K mg "_law_about" Kg ["table"]
 An:Dd K mg "_law_built" Kf ["pot","most"]
 Ag:Dd K mg "_law_rows" J7 ["table"]
 Ah:Dd K mg "_law_right" J8 ["one","other","third"]
 wD:Dd K mg "law" Kh ["script"]
 zh:mg "all"=U
 Mw:mg "any"=U
 Mu:mg "bool"=U
 ve:mg "enumerate"=U
 Mt:mg "int"=U
 zg:mg "isinstance"=U
 cg:mg "len"=U
 vd:mg "list"=U
 vc:mg "max"=U
 nY:mg "min"=U
 b8:mg "range"=U
 su:mg "set"=U
 sj:mg "sorted"=U
 Ms:mg "sum"=U
 j8:mg "tuple"=U
 nK:L
 nG:L
 pQ:PySem.W.tabIn K "greatest_among"=O (nK,nG)
 rG:PySem.W.codeHdIn K nK nG=J
 nJ:L
 nF:L
 pP:PySem.W.tabIn K "other_web"=O (nJ,nF)
 rF:PySem.W.codeHdIn K nJ nF=J
 pR:rH K=J
 uF:Tok
 OJ:mg "GREATEST_SIZE"=O (.int 4 uF)
 uE:Tok
 OI:mg "MOST_COUNTED"=O (.int 10 uE)
 uD:Tok
 OH:mg "MOST_EVEN_COUNTED"=O (.int 16 uD)
 uC:Tok
 Fe:mg "MOST_EVEN_LED"=O (.int 28 uC)
 uB:Tok
 Fd:mg "MOST_LED"=O (.int 12 uB)
 uA:Tok
 OG:mg "MOST_SEARCHED"=O (.int 25 uA)
section
variable {P:ν}{w:τ}{K:Ξ}{mg:Str->Option Δ}{base:υ}
theorem LJ(T:Tx K mg):bV P w base 1 T.wo 3 n5 :=
 b7 ["web","place","some"] λhN _ _ _ _ _ _ hr=>by
  show bB _ _ A7;unfold A7;exact(aQ (bf (iQ (N':=["other","web","place"]) (pick:=[U,O 0,O 1]) (cH.of rfl rfl) (g9 (au 2)) (λ_ _ _ _ _ _=>(cS (i:=0) (hN:=(by decide +kernel:ψ (["other","web","place"]:List Str))))) (λ_ _ _ _ _ _=>(gX (bM (sd (gG hr)) (au 0) (bE bG (au 1) (au 2))))) (λ_ _ _ _ _ _=>(au 0)))))
theorem alU(T:Tx K mg):bV P w base 1 T.Aq 3 vD :=
 b7 ["web","place","some"] λhN _ _ _ _ _ _ hr=>by
  show bB _ _ Bs;unfold Bs;exact(aQ (bf (iQ (N':=["other","place","web"]) (pick:=[U,O 1,O 0]) (cH.of rfl rfl) (g9 (au 2)) (λ_ _ _ _ _ _=>(cS (i:=0) (hN:=(by decide +kernel:ψ (["other","place","web"]:List Str))))) (λ_ _ _ _ _ _=>(gX (PW.pt (rW (bM se (au 0) (au 1)) (rX (bM (sd (gG hr)) (au 0) (bE bG (au 2) (au 1)))))))) (λ_ _ _ _ _ _=>(au 0)))))
theorem yS(T:Tx K mg):bV P w base 2 T.Ab 2 g5 :=
 b7 ["web","size","ways_on","step","longer","some"] λhN _ _ _ _ _ _ hr=>by
  show bB _ _ xg;unfold xg;refine aO (bz 2 (lB (ay (Ls (ay (bH cN T.cg Q5 (ay (au 0) az)) az) T.vd T.b8) az))) ?_;refine aO (eY (dQ (ay (br r8 (au 1) aS) az) T.b8) (fC 3) (aO (bz 4 (lz az)) (aO (eY (g9 (au 2)) (fC 5) (aQ (jr (p8 (au 4) (fW (N':=["place","web","some"]) (pick:=[U,O 0,O 5]) (g9 (au 5)) (λ_ _ _ _ _ _=>(aT (alU T) hr (ay (au 1) (ay (au 0) (ay (au 2) az)))))))))) (aQ (bz 2 (au 4)))))) ?_
  exact(aQ (bf (bH adz T.Ms boot_sum (ay (fW (N':=["some"]) (pick:=[U]) (g9 (au 2)) (λ_ _ _ _ _ _=>(bH cN T.cg Q5 (ay (au 0) az)))) az))))
theorem alQ(T:Tx K mg):nB P w K mg base 2 aez ["web","some"] 1 (fk K (1+2) (oq lO)):=by
 with_unfolding_all refine Nd (k:=1) (ps:=["place"]) (ns:=["web","some"]) (d:=lO) (t7.of rfl rfl rfl (by decide +kernel)) (λq cl pm cdv ct us hl=>match us,hl with|[_],_=>rfl) λq f cd cl A outer s H hr=>?_
 show aX _ _ lO;unfold lO;exact(bH cN T.cg Q5 (ay (aT (LJ T) hr (ay (au 1) (ay (au 0) (ay (au 2) az)))) az))
theorem CT:jQ ["web","some","busiest","tried"] ["web","some"] (dG yx):=⟨rfl,rfl,rfl,by decide +kernel,rfl,by decide +kernel,by decide +kernel⟩
theorem LP(T:Tx K mg):∀j:Nat,eO P w K mg base dJ (3+j) T.kY.a T.kY.fd ["web","some"] (fk K 2 (kg j))
 |0=>⟨λvs H Q E h=>by obtain⟨_,_,_,_,_,_,p⟩:=h;exact p.elim,λA outer s H args us vs Q E hr he hb hv h=>by obtain⟨_,_,_,_,_,_,p⟩:=h;exact p.elim⟩
 |j+1=>O5 (k:=3+j) T.kY.d.fn T.kY.n CT rfl rfl λcdv A outer s H E hcd hr=>by
  have ih:eO P w K mg base dJ (3+j) T.kY.a T.kY.fd ["web","some"] (fk K 2 (kg j)):=LP T j;show bB _ _ (xr (kg j));unfold xr
  generalize kg j=m at ih ⊢
  refine aO (cP (nU (Lq (au 1))) (aQ (bf aS)) dw) ?_;refine aO (rM (i:=2) (alc (ns:=["web","some"]) (m:=oq lO) T.vc (au 1) (alQ T) (hr.mono ∅) (f7.of (by kernel_rfl)) rfl (λ_=>rfl) (y:="greatest_among") (by decide +kernel) T.pQ T.pR (hcd _ _ T.pQ) rfl T.rG) (hN:=CT.nd)) ?_
  refine aO (kG (i:=3) (hN:=CT.nd) (N':=["place","web","busiest"]) (pick:=[U,O 0,O 2]) (cH.of rfl rfl) (g9 (au 1)) (λ_ _ _ _ _ _=>(cS (i:=0) (hN:=(by decide +kernel:ψ (["place","web","busiest"]:List Str))))) (λ_ _ _ _ _ _=>(gX (bM (Dw (gG hr)) (au 0) (bE bG (au 1) (au 2))))) (λ_ _ _ _ _ _=>(au 0))) ?_
  exact(aQ (bf (br ez aS (bH Qj T.vc boot_max (ay (fW (N':=["place","web","some"]) (pick:=[U,O 0,O 1]) (g9 (au 3)) (λ_ _ _ _ _ _=>(j4 T.kY.d ih (hr.mono ∅) (ay (au 1) (ay (j4 T.wo.d (LJ T) (hr.mono ∅) (ay (au 1) (ay (au 0) (ay (au 2) az)))) az))))) az)))))
theorem LO(T:Tx K mg):bV P w base 22 T.Ax 1 kc :=
 b7 ["web"] λhN _ _ _ _ _ _ hr=>by
  show bB _ _ xq;unfold xq;refine aO (cP (bM se (bH cN T.cg Q5 (ay (au 0) az)) (nW rfl T.OG)) (aQ JI) dw) ?_;exact(aQ (bf (j4 T.kY.d (LP T 18) (hr.mono ⋯) (ay (au 0) (ay (Ls (ay (bH cN T.cg Q5 (ay (au 0) az)) az) T.vd T.b8) az)))))
theorem alO(T:Tx K mg):bV P w base 1 T.As 1 zv :=
 b7 ["thing"] λhN _ _ _ _ _ _ _=>by
  show bB _ _ Bv;unfold Bv;exact(aQ (bf (yK (bH F6 T.zg boot_isinstance (ay (au 0) (ay (Dh rfl T.Mt boot_int) az))) (yI (yJ (bH F6 T.zg boot_isinstance (ay (au 0) (ay (Dh rfl T.Mu boot_bool) az))))))))
theorem alP(T:Tx K mg):bV P w base 2 T.Ar 3 DV :=
 b7 ["thing","least","most"] λhN _ _ _ _ _ _ hr=>by
  show bB _ _ Bu;unfold Bu;exact(aQ (bf (yK (aT (alO T) hr (ay (au 0) az)) (yI (ajY LY LY (au 1) (au 0) (au 2))))))
theorem alN(T:Tx K mg):bV P w base 3 T.Au 2 sL :=
 b7 ["thing","many"] λhN _ _ _ _ _ _ hr=>by
  show bB _ _ Bw;unfold Bw;exact(aQ (bf (aT (alP T) hr (ay (au 0) (ay aS (ay (br r8 (au 1) aS) az))))))
theorem alR(T:Tx K mg):nB P w K mg base 1 HR ["web"] 2 (fk K (2+1) (oq ql)):=by
 with_unfolding_all refine Nd (k:=0) (ps:=["one","other"]) (ns:=["web"]) (d:=ql) (t7.of rfl rfl rfl (by decide +kernel)) (λq cl pm cdv ct us hl=>match us,hl with|[_,_],_=>rfl) λq f cd cl A outer s H hr=>?_
 show aX _ _ ql;unfold ql;exact(lC (Dw (gG hr)) (au 1) (bE bG (au 2) (au 0)))
theorem alT(T:Tx K mg)(hr:cu 1 A):∀t∈lams,∃k,nB P w K mg base k t.1 t.2.1 2 (fk K (2+t.2.1.length) t.2.2)/\cu k A:=by
 intro t ht;unfold lams at ht;simp only[Bt,RZ,or_false]at ht
 rcases ht with rfl
 ·exact⟨_,alR T,hr.mono ⋯⟩
theorem ak7(T:Tx K mg):bV P w base 2 T.z5 3 j9 :=
 b7 ["many","one","are_tied"] λhN _ _ _ _ _ _ hr=>by
  show bB _ _ Ba;unfold Ba;exact(aQ (bf (j5 l8 T.j8 S6 (ay (iQ (N':=["other","one","are_tied"]) (pick:=[U,O 1,O 2]) (cH.of rfl rfl) (dQ (ay (au 0) az) T.b8) (λ_ _ _ _ _ _=>(cS (i:=0) (hN:=(by decide +kernel:ψ (["other","one","are_tied"]:List Str))))) (λ_ _ _ _ _ _=>(gX (PW.pt (rW (bM jb (au 0) (au 1)) (rX (kI (ajW 2 (alT T (hr.mono ⋯)) (ay (au 1) (ay (au 0) az))))))))) (λ_ _ _ _ _ _=>(au 0))) az))))
theorem ak8(T:Tx K mg):bV P w base 3 T.wm 2 sF :=
 b7 ["many","are_tied"] λhN _ _ _ _ _ _ hr=>by
  show bB _ _ A5;unfold A5;exact(aQ (bf (j5 l8 T.j8 S6 (ay (fW (N':=["one","many","are_tied"]) (pick:=[U,O 0,O 1]) (dQ (ay (au 0) az) T.b8) (λ_ _ _ _ _ _=>(aT (ak7 T) hr (ay (au 1) (ay (au 0) (ay (au 2) az)))))) az))))
theorem LI(T:Tx K mg):bV P w base 1 T.zZ 1 vo :=
 b7 ["web","told","one","row"] λhN _ _ _ _ _ _ _=>by
  show bB _ _ A6;unfold A6;refine aO (bz 1 (lz az)) ?_;refine aO (eY (NT (ay (au 0) az) T.ve) (tK (n:=2) (kj (fC 2) (kj (fC 3) tH))) (aQ (jr (p8 (au 1) (iQ (N':=["other","one"]) (pick:=[U,O 2]) (cH.of rfl rfl) (lQ (au 3)) (λ_ _ _ _ _ _=>(cS (i:=0) (hN:=(by decide +kernel:ψ (["other","one"]:List Str))))) (λ_ _ _ _ _ _=>(gX (bM r9 (au 1) (au 0)))) (λ_ _ _ _ _ _=>(gh (ay (au 1) (ay (au 0) az))))))))) ?_
  exact(aQ (bf (au 1)))
theorem ajq:jQ ["web"] ["web"] (dG yw):=⟨rfl,rfl,rfl,by decide +kernel,rfl,by decide +kernel,by decide +kernel⟩
theorem yQ(T:Tx K mg):bV P w base 4 T.tO 1 jd :=
 O5 (k:=3) T.tO.d.fn T.tO.n ajq rfl rfl λcdv A outer s H E hcd hr=>by
  show bB _ _ Bb;unfold Bb;exact(aQ (bf (ajX (kk:=0) T.wm.d (ak8 T) (hr.mono ⋯) (bH cN T.cg Q5 (ay (au 0) az)) (f7.of (by kernel_rfl)) rfl (λ_=>rfl) (y:="other_web") (by decide +kernel) T.pP T.pR (hcd _ _ T.pP) rfl T.rF)))
theorem LR(T:Tx K mg):bV P w base 1 T.AD 3 n9 :=
 b7 ["web","one","other"] λhN _ _ _ _ _ _ _=>by
  show bB _ _ BF;unfold BF;exact(aQ (bf (ala (ay (bE bG (au 0) (au 1)) az) (ay (bE bG (au 0) (au 2)) az) T.cg T.su)))
theorem alK(T:Tx K mg):bV P w base 1 T.Ay 1 vE :=
 b7 ["web","place","row"] λhN _ _ _ _ _ _ _=>by
  show bB _ _ BA;unfold BA;refine aO (eY (NT (ay (au 0) az) T.ve) (tK (n:=2) (kj (fC 1) (kj (fC 2) tH))) (aQ (cP (bM jb (bH cN T.cg Q5 (ay (au 2) az)) (bH cN T.cg Q5 (ay (bE bG (au 0) aS) az))) (aQ (bf (au 1))) dw))) ?_;exact(aQ (bf iP))
theorem Dq(T:Tx K mg):bV P w base 2 T.z4 2 lJ :=
 b7 ["web","pairs"] λhN _ _ _ _ _ _ hr=>by
  show bB _ _ A8;unfold A8;exact(aQ (bf (Di (Lq (au 1)) (aT (LR T) hr (ay (au 0) (ay (bE bG (bE bG (au 1) aS) aS) (ay (bE bG (bE bG (au 1) aS) aS) az)))) iP)))
theorem alJ(T:Tx K mg):bV P w base 3 T.Az 2 vF :=
 b7 ["web","pairs","shared","pair"] λhN _ _ _ _ _ _ hr=>by
  show bB _ _ BB;unfold BB;refine aO (bz 2 (aT (Dq T) hr (ay (au 0) (ay (au 1) az)))) ?_;refine aO (eY (g9 (au 1)) (fC 3) (aQ (cP (bM jb (aT (LR T) hr (ay (au 0) (ay (bE bG (au 3) aS) (ay (bE bG (au 3) aS) az)))) (au 2)) (aQ (bf (au 3))) dw))) ?_;exact(aQ (bf iP))
theorem u6(T:Tx K mg):bV P w base 5 T.AB 1 fH :=
 b7 ["web","place","near","far","word","pairs","pair"] λhN _ _ _ _ _ _ hr=>by
  show bB _ _ BE;unfold BE;refine aO (bz 1 (aT (alK T) hr (ay (au 0) az))) ?_;refine aO (cP (bM yU (au 1) iP) (aQ (bf (gh (ay kH (ay (au 1) az))))) dw) ?_;refine aO (bz 2 (aT (LI T) hr (ay (au 0) az))) ?_;refine aO (bz 3 (aT (LI T) hr (ay (aT (yQ T) hr (ay (au 0) az)) az))) ?_;refine aO (eY (lQ (gh (ay (gh (ay kH (ay (au 2) az))) (ay (gh (ay kH (ay (au 3) az))) az)))) (tK (n:=2) (kj (fC 4) (kj (fC 5) tH))) (aO (bz 6 (aT (alJ T) hr (ay (au 0) (ay (au 5) az)))) (aQ (cP (bM yU (au 6) iP) (aQ (bf (gh (ay (au 4) (ay (bE bG (au 6) aS) (ay (bE bG (au 6) aS) az)))))) dw)))) ?_;exact(aQ (bf (gh (ay kH (ay (gh (ay (bH cN T.cg Q5 (ay (au 0) az)) (ay (bH cN T.cg Q5 (ay (bE bG (au 0) aS) az)) (ay (aT (Dq T) hr (ay (au 0) (ay (au 2) az))) (ay (aT (Dq T) hr (ay (au 0) (ay (au 3) az))) az))))) az)))))
theorem alM(T:Tx K mg):bV P w base 4 T.Av 2 zw :=
 b7 ["thing","many"] λhN _ _ _ _ _ _ hr=>by
  show bB _ _ Bx;unfold Bx;refine aO (cP (PW.pt (rU (nU (kI (bH F6 T.zg boot_isinstance (ay (au 0) (ay (Dh rfl T.j8 S6) az))))) (uX (bM jb (bH cN T.cg Q5 (ay (au 0) az)) (au 1))))) (aQ (bf iR)) dw) ?_;exact(aQ (bf (yK (bH F7 T.zh boot_all (ay (fW (N':=["place","many"]) (pick:=[U,O 1]) (lQ (au 0)) (λ_ _ _ _ _ _=>(aT (alN T) hr (ay (au 0) (ay (au 1) az))))) az)) (yI (lC iB (alb (ay (au 0) az) T.cg T.su) (au 1))))))
theorem alL(T:Tx K mg):bV P w base 1 T.Aw 4 zx :=
 b7 ["one","other","order","place"] λhN _ _ _ _ _ _ hr=>by
  show bB _ _ By;unfold By;exact(aQ (bf (lC (Dz (gG hr)) (bH A2 T.sj (by decide +kernel) (ay (fW (N':=["near","order"]) (pick:=[U,O 2]) (lQ (bE bG (au 0) (au 3))) (λ_ _ _ _ _ _=>(bE bG (au 1) (au 0)))) az)) (j5 adD T.vd boot_list (ay (bE bG (au 1) (bE bG (au 2) (au 3))) az)))))
theorem ak3(T:Tx K mg):bV P w base 5 T.Ad 3 zo :=
 b7 ["one","other","thing"] λhN _ _ _ _ _ _ hr=>by
  show bB _ _ Bf;unfold Bf;refine aO (cP (PW.pt (rU (bM jb (bH cN T.cg Q5 (ay (au 0) az)) (bH cN T.cg Q5 (ay (au 1) az))) (uX (nU (kI (aT (alM T) hr (ay (au 2) (ay (bH cN T.cg Q5 (ay (au 0) az)) az)))))))) (aQ (bf iR)) dw) ?_;exact(aQ (bf (bH F7 T.zh boot_all (ay (fW (N':=["place","one","other","thing"]) (pick:=[U,O 0,O 1,O 2]) (dQ (ay (bH cN T.cg Q5 (ay (au 0) az)) az) T.b8) (λ_ _ _ _ _ _=>(aT (alL T) hr (ay (au 1) (ay (au 2) (ay (au 3) (ay (au 0) az))))))) az))))
theorem ak5(T:Tx K mg):bV P w base 1 T.z8 2 vq :=
 b7 ["row","many"] λhN _ _ _ _ _ _ _=>by
  show bB _ _ Gk;unfold Gk;exact(aQ (bf (j5 l8 T.j8 S6 (ay (fW (N':=["place","many"]) (pick:=[U,O 1]) (lQ (au 0)) (λ_ _ _ _ _ _=>(br ez (au 1) (au 0)))) az))))
theorem LK(T:Tx K mg):bV P w base 2 T.z3 2 qh :=
 b7 ["one","other"] λhN _ _ _ _ _ _ hr=>by
  show bB _ _ Gj;unfold Gj;exact(aQ (bf (br alZ (au 0) (j5 l8 T.j8 S6 (ay (fW (N':=["row","one"]) (pick:=[U,O 0]) (lQ (au 1)) (λ_ _ _ _ _ _=>(aT (ak5 T) hr (ay (au 0) (ay (bH cN T.cg Q5 (ay (au 1) az)) az))))) az)))))
theorem ak4(T:Tx K mg):bV P w base 1 T.Ac 3 vt :=
 b7 ["both","colours","place"] λhN _ _ _ _ _ _ _=>by
  show bB _ _ Gm;unfold Gm;exact(aQ (bf (gh (ay (bE bG (au 1) (au 2)) (ay (j5 l8 T.j8 S6 (ay (bH A2 T.sj (by decide +kernel) (ay (fW (N':=["near","colours"]) (pick:=[U,O 1]) (lQ (bE bG (au 0) (au 2))) (λ_ _ _ _ _ _=>(bE bG (au 1) (au 0)))) az)) az)) az)))))
theorem LQ(T:Tx K mg):bV P w base 2 T.AA 2 qi :=
 b7 ["both","colours","looks","numbered","number","look"] λhN _ _ _ _ _ _ hr=>by
  have hu:=W8 (aay hr);show bB _ _ BD;unfold BD;refine aO (kG (i:=2) (hN:=hN) (N':=["place","both","colours"]) (pick:=[U,O 0,O 1]) (cH.of rfl rfl) (dQ (ay (bH cN T.cg Q5 (ay (au 0) az)) az) T.b8) (λ_ _ _ _ _ _=>(cS (i:=0) (hN:=(by decide +kernel:ψ (["place","both","colours"]:List Str))))) (λ_ _ _ _ _ _=>mO) (λ_ _ _ _ _ _=>(aT (ak4 T) hr (ay (au 1) (ay (au 2) (ay (au 0) az)))))) ?_
  exact(ajt (K7 (i:=3) hN rfl (by first|exact Or.inl rfl|exact Or.inr rfl) aln) (K8 W9 rfl (Lh rfl T.ve (iS (uW (ac2 (gG hr)) rfl T.sj (by decide +kernel) (iS (nT (ac4 (gG hr)) rfl T.su (by decide +kernel) (iS (pv 2) jv (cR rfl)) ⋯ ⋯ (cR rfl) (gb rfl)) jv (cR rfl)) ⋯ ⋯ (cR rfl) (gb rfl)) jv (cR rfl)) (pU rfl)) (Lj rfl (C9 (Dc (i:=4) hN rfl (by first|exact Or.inl rfl|exact Or.inr rfl)) (C9 (Dc (i:=5) hN rfl (by first|exact Or.inl rfl|exact Or.inr rfl)) Li))) (K6 (ajB (gG hr) (pv 3) (pv 5) (pv 4) rfl))) (aQ (bf (fW (N':=["look","numbered"]) (pick:=[U,O 3]) (g9 (au 2)) (λ_ _ _ _ _ _=>(bE (Z8 (gG hr)) (au 1) (au 0)))))))
theorem LS(T:Tx K mg):bV P w base 1 T.wI 1 lM :=
 b7 ["colours","many"] λhN _ _ _ _ _ _ hr=>by
  show bB _ _ BG;unfold BG;refine aO (bz 1 (br mR (bH cN T.cg Q5 (ay (au 0) az)) aS)) ?_;exact(aQ (bf (lC (Dz (gG hr)) (bH A2 T.sj (by decide +kernel) (ay (Lr (au 0) Lb (La (au 1))) az)) (bH A2 T.sj (by decide +kernel) (ay (Lr (au 0) (La (au 1)) Lb) az)))))
theorem alH(T:Tx K mg):bV P w base 3 T.wH 2 mV :=
 b7 ["both","colours","coarse","fine"] λhN _ _ _ _ _ _ hr=>by
  show bB _ _ BC;unfold BC;refine aO (bz 2 (au 1)) ?_;refine aO (bz 3 (aT (LQ T) hr (ay (au 0) (ay (au 2) az)))) ?_;refine aO (aju (n:=40) (PW.pt (rW (kI (aT (LS T) hr (ay (au 3) az))) (rX (bM se (Lu (ay (au 3) az) T.cg T.su) (Lu (ay (au 2) az) T.cg T.su))))) (aO (bz 2 (au 3)) (aQ (bz 3 (aT (LQ T) hr (ay (au 0) (ay (au 2) az))))))) ?_;exact(aQ (bf (au 3)))
theorem LL(T:Tx K mg):bV P w base 1 T.wu 3 kO :=
 b7 ["colours","one","other","fresh"] λhN _ _ _ _ _ _ hr=>by
  show bB _ _ A9;unfold A9;refine aO (bz 3 (br ez (bH Qj T.vc boot_max (ay (au 0) az)) aS)) ?_;exact(aQ (bf (iQ (N':=["place","colour","fresh","one","other"]) (pick:=[U,U,O 3,O 1,O 2]) (cH.of rfl rfl) (aao (ay (au 0) az) T.ve) (λ_ _ _ _ _ _=>(tK (n:=2) (kj (cS (i:=0) (hN:=(by decide +kernel:ψ (["place","colour","fresh","one","other"]:List Str)))) (kj (cS (i:=1) (hN:=(by decide +kernel:ψ (["place","colour","fresh","one","other"]:List Str)))) tH)))) (λ_ _ _ _ _ _=>mO) (λ_ _ _ _ _ _=>(Di (bM (sd (gG hr)) (au 0) (gh (ay (au 3) (ay (au 4) az)))) (au 2) (au 1))))))
theorem alG(T:Tx K mg):bV P w base 1 T.AE 3 sM :=
 b7 ["web","one","other"] λhN _ _ _ _ _ _ hr=>by
  show bB _ _ Gq;unfold Gq;exact(aQ (bf (lC (Dz (gG hr)) (iQ (N':=["near","other"]) (pick:=[U,O 2]) (cH.of rfl rfl) (lQ (bE bG (au 0) (au 1))) (λ_ _ _ _ _ _=>(cS (i:=0) (hN:=(by decide +kernel:ψ (["near","other"]:List Str))))) (λ_ _ _ _ _ _=>(gX (bM jb (au 0) (au 1)))) (λ_ _ _ _ _ _=>(au 0))) (iQ (N':=["near","one"]) (pick:=[U,O 1]) (cH.of rfl rfl) (lQ (bE bG (au 0) (au 2))) (λ_ _ _ _ _ _=>(cS (i:=0) (hN:=(by decide +kernel:ψ (["near","one"]:List Str))))) (λ_ _ _ _ _ _=>(gX (bM jb (au 0) (au 1)))) (λ_ _ _ _ _ _=>(au 0))))))
theorem alI(T:Tx K mg):bV P w base 2 T.wG 2 kP :=
 b7 ["both","colours","many","one"] λhN _ _ _ _ _ _ hr=>by
  show bB _ _ Gp;unfold Gp;refine aO (bz 2 (br mR (bH cN T.cg Q5 (ay (au 0) az)) aS)) ?_;refine aO (eY (dQ (ay (au 2) az) T.b8) (fC 3) (aQ (cP (nU (kI (bH F7 T.zh boot_all (ay (iQ (N':=["other","both","one","colours"]) (pick:=[U,O 0,O 3,O 1]) (cH.of rfl rfl) (dQ (ay (au 2) az) T.b8) (λ_ _ _ _ _ _=>(cS (i:=0) (hN:=(by decide +kernel:ψ (["other","both","one","colours"]:List Str))))) (λ_ _ _ _ _ _=>(gX (bM iB (bE bG (au 3) (au 0)) (bE bG (au 3) (au 2))))) (λ_ _ _ _ _ _=>(aT (alG T) hr (ay (au 1) (ay (au 2) (ay (au 0) az)))))) az)))) (aQ (bf (au 3))) dw))) ?_
  exact(aQ (bf iP))
theorem ak6(T:Tx K mg):bV P w base 1 T.wz 1 vp :=
 b7 ["colours","many","order","place","there"] λhN _ _ _ _ _ _ hr=>by
  show bB _ _ Bd;unfold Bd;refine aO (bz 1 (br mR (bH cN T.cg Q5 (ay (au 0) az)) aS)) ?_;refine aO (bz 2 (lz az)) ?_;refine aO (eY (dQ (ay (au 1) az) T.b8) (fC 3) (aO (kG (i:=4) (hN:=hN) (N':=["other","colours","place","many"]) (pick:=[U,O 0,O 3,O 1]) (cH.of rfl rfl) (dQ (ay (au 1) az) T.b8) (λ_ _ _ _ _ _=>(cS (i:=0) (hN:=(by decide +kernel:ψ (["other","colours","place","many"]:List Str))))) (λ_ _ _ _ _ _=>(gX (bM iB (bE bG (au 1) (br ez (au 3) (au 0))) (bE bG (au 1) (au 2))))) (λ_ _ _ _ _ _=>(au 0))) (aQ (jr (Lv (au 2) (bH adA T.nY T4 (ay (iQ (N':=["other","order"]) (pick:=[U,O 2]) (cH.of rfl rfl) (g9 (au 4)) (λ_ _ _ _ _ _=>(cS (i:=0) (hN:=(by decide +kernel:ψ (["other","order"]:List Str))))) (λ_ _ _ _ _ _=>(gX (bM (Dw (gG hr)) (au 0) (au 1)))) (λ_ _ _ _ _ _=>(au 0))) az))))))) ?_
  exact(aQ (bf (j5 l8 T.j8 S6 (ay (au 2) az))))
theorem uM:jQ ["both","colours","fine","one","other","order"] ["both","colours"] (dG CY):=⟨rfl,rfl,rfl,by decide +kernel,rfl,by decide +kernel,by decide +kernel⟩
theorem Dv(T:Tx K mg):∀j:Nat,eO P w K mg base dJ (4+j) T.kZ.a T.kZ.fd ["both","colours"] (fk K 2 (gA j))
 |0=>⟨λvs H Q E h=>by obtain⟨_,_,_,_,_,_,p⟩:=h;exact p.elim,λA outer s H args us vs Q E hr he hb hv h=>by obtain⟨_,_,_,_,_,_,p⟩:=h;exact p.elim⟩
 |j+1=>O6 (k:=4+j) T.kZ.d.fn uM rfl rfl λcdv A outer s H E hr=>by
  have ih:eO P w K mg base dJ (4+j) T.kZ.a T.kZ.fd ["both","colours"] (fk K 2 (gA j)):=Dv T j;show bB _ _ (nu (gA j));unfold nu
  generalize gA j=m at ih ⊢
  refine aO (rM (i:=2) (j4 T.wH.d (alH T) (hr.mono ∅) (ay (au 0) (ay (au 1) az))) (hN:=uM.nd)) ?_
  refine aO (cP (nU (kI (j4 T.wI.d (LS T) (hr.mono ∅) (ay (au 2) az)))) (aQ (bf iP)) dw) ?_
  refine aO (rM (i:=3) (j4 T.wG.d (alI T) (hr.mono ∅) (ay (au 0) (ay (au 2) az))) (hN:=uM.nd)) ?_
  refine aO (cP (bM yV (au 3) iP) (aQ (bf (j4 T.wz.d (ak6 T) (hr.mono ∅) (ay (au 2) az)))) dw) ?_
  refine aO (eY (kR (ay (br mR (bH cN T.cg Q5 (ay (au 0) az)) aS) (ay (bH cN T.cg Q5 (ay (au 0) az)) az)) T.b8) (cS (i:=4) (hN:=uM.nd)) (aQ (cP (bM iB (bE bG (au 2) (au 4)) (bE bG (au 2) (au 3))) (aO (rM (i:=5) (j4 T.kZ.d ih (hr.mono ∅) (ay (au 0) (ay (j4 T.wu.d (LL T) (hr.mono ∅) (ay (au 2) (ay (au 3) (ay (au 4) az)))) az))) (hN:=uM.nd)) (aQ (cP (bM yU (au 5) iP) (aQ (bf (au 5))) dw))) dw))) ?_
  exact(aQ (bf iP))
theorem Dr(T:Tx K mg):bV P w base 1 T.z6 3 jx :=
 b7 ["web","most","most_even"] λhN _ _ _ _ _ _ _=>by
  show bB _ _ wZ;unfold wZ;exact(aQ (cP (PW.pt (rU (bM se (bH cN T.cg Q5 (ay (au 0) az)) (au 2)) (uX (PW.pt (rW (bM se (bH cN T.cg Q5 (ay (au 0) az)) (au 1)) (rX (nU (kI ald)))))))) (aQ JI) dw))
theorem yR(T:Tx K mg):bV P w base 19 T.z7 2 iE :=
 b7 ["one","other"] λhN _ _ _ _ _ _ hr=>by
  show bB _ _ Bc;unfold Bc;refine aO (jr (aT (Dr T) hr (ay (au 0) (ay (nW rfl T.Fd) (ay (nW rfl T.Fe) az))))) ?_;refine aO (jr (aT (Dr T) hr (ay (au 1) (ay (nW rfl T.Fd) (ay (nW rfl T.Fe) az))))) ?_;refine aO (cP (bM jb (bH cN T.cg Q5 (ay (au 0) az)) (bH cN T.cg Q5 (ay (au 1) az))) (aQ (bf iP)) dw) ?_;exact(aQ (bf (j4 T.kZ.d (Dv T 14) (hr.mono ⋯) (ay (aT (LK T) hr (ay (au 0) (ay (au 1) az))) (ay (br LW (lB (ay aS az)) (br lE aS (bH cN T.cg Q5 (ay (au 0) az)))) az)))))
theorem Ds(T:Tx K mg):bV P w base 19 T.Aa 1 gZ :=
 b7 ["web","many","both","colours","product","place","tried"] λhN _ _ _ _ _ _ hr=>by
  show bB _ _ Be;unfold Be;refine aO (jr (aT (Dr T) hr (ay (au 0) (ay (nW rfl T.OI) (ay (nW rfl T.OH) az))))) ?_;refine aO (bz 1 (bH cN T.cg Q5 (ay (au 0) az))) ?_;refine aO (bz 2 (aT (LK T) hr (ay (au 0) (ay (au 0) az)))) ?_;refine aO (bz 3 (br LW (lB (ay aS az)) (br lE aS (au 1)))) ?_;refine aO (bz 4 aS) ?_;refine aO (eY (dQ (ay (au 1) az) T.b8) (fC 5) (aO (kG (i:=6) (hN:=hN) (N':=["there","colours","place","many"]) (pick:=[U,O 3,O 5,O 1]) (cH.of rfl rfl) (dQ (ay (au 1) az) T.b8) (λ_ _ _ _ _ _=>(cS (i:=0) (hN:=(by decide +kernel:ψ (["there","colours","place","many"]:List Str))))) (λ_ _ _ _ _ _=>mO) (λ_ _ _ _ _ _=>(aT (LL T) hr (ay (au 1) (ay (au 2) (ay (br ez (au 3) (au 0)) az)))))) (aO (bz 4 (br lE (au 4) (bH cN T.cg Q5 (ay (iQ (N':=["each","both"]) (pick:=[U,O 2]) (cH.of rfl rfl) (g9 (au 6)) (λ_ _ _ _ _ _=>(cS (i:=0) (hN:=(by decide +kernel:ψ (["each","both"]:List Str))))) (λ_ _ _ _ _ _=>(gX (bM yU (j4 T.kZ.d (Dv T 14) (hr.mono ⋯) (ay (au 1) (ay (au 0) az))) iP))) (λ_ _ _ _ _ _=>(au 0))) az)))) (aQ (bz 3 (bE bG (au 6) (au 5))))))) ?_
  exact(aQ (bf (au 4)))
theorem alF(T:Tx K mg):bV P w base 20 T.AF 2 sN :=
 b7 ["one","other","size","mine","theirs","order"] λhN _ _ _ _ _ _ hr=>by
  show bB _ _ xu;unfold xu;refine aO (eY (kR (ay aS (ay (br ez (nW rfl T.OJ) aS) az)) T.b8) (fC 2) (aO (bz 3 (aT (yS T) hr (ay (au 0) (ay (au 2) az)))) (aO (bz 4 (aT (yS T) hr (ay (au 1) (ay (au 2) az)))) (aQ (cP (bM jb (au 3) (au 4)) (aQ (bf (gh (ay kH (ay (au 2) (ay (au 3) (ay (au 4) az))))))) dw))))) ?_;refine aO (bz 5 (aT (yR T) hr (ay (au 0) (ay (au 1) az)))) ?_;exact(aQ (bf (Di (bM yV (au 5) iP) (gh (ay kH az)) (gh (ay kH (ay (au 5) az))))))
theorem Xy(T:Tx K mg):bV P w base 1 T.Am 2 sH :=
 b7 ["script","k"] λhN _ _ _ _ _ _ _=>by
  show bB _ _ xm;unfold xm;refine aO (cP (bM r9 (au 1) (bH cN T.cg Q5 (ay (au 0) az))) (aQ (bf (bE bG (au 0) (au 1)))) dw) ?_;exact(aQ (bf aS))
theorem Xw(T:Tx K mg):bV P w base 1 T.Ai 1 sG :=
 b7 ["cell","number","j","more"] λhN _ _ _ _ _ _ _=>by
  show bB _ _ xj;unfold xj;refine aO (cP (bM alC (au 0) (br LX aS aS)) (aQ (bf (lz (ay (br r8 (au 0) (br LX aS aS)) az)))) dw) ?_;refine aO (bz 1 aS) ?_;refine aO (eY (dQ (ay aS az) T.b8) (fC 2) (aO (bz 3 (br mQ (br lE (br ez (br ez (br mQ (au 0) aS) (br lE aS (au 2))) aS) aS) aS)) (aO (bz 3 (br mQ (br ez (br ez (br lE (au 3) (au 3)) (br lE aS (au 2))) aS) aS)) (aQ (bz 1 (br ez (br lE (au 1) aS) (au 3))))))) ?_;exact(aQ (bf (lz (ay (au 1) az))))
theorem iA(T:Tx K mg):bV P w base 1 T.Ae 2 fy :=
 b7 ["pot","far","found"] λhN _ _ _ _ _ _ _=>by
  show bB _ _ Bh;unfold Bh;refine aO (bz 2 (br mQ (bE bG (au 0) aS) (au 1))) ?_;refine aO (rO (br mR (bE bG (au 0) aS) (au 1)) (tL (au 0) aS)) ?_;exact(aQ (bf (au 2)))
theorem Dt(T:Tx K mg):bV P w base 2 T.Ak 2 lK :=
 b7 ["pot","wide","found","k"] λhN _ _ _ _ _ _ hr=>by
  show bB _ _ Bm;unfold Bm;refine aO (bz 2 (lz az)) ?_;refine aO (eY (dQ (ay (au 1) az) T.b8) (fC 3) (aQ (jr (ajZ (au 2) (aT (iA T) hr (ay (au 0) (ay (br ez (au 3) aS) az))) (au 3))))) ?_;exact(aQ (bf (j5 l8 T.j8 S6 (ay (au 2) az))))
theorem yv:jQ ["many","wanted","found","one","other"] ["many","wanted"] (dG CW):=⟨rfl,rfl,rfl,by decide +kernel,rfl,by decide +kernel,by decide +kernel⟩
theorem LN(T:Tx K mg):bV P w base 1 T.wC 2 vB :=
 Fj (k:=0) T.wC.d.fn yv rfl rfl λcdv A outer s H E hr=>by
  show bB _ _ Gn;unfold Gn;refine aO (kG (i:=2) (hN:=yv.nd) (N':=["place","many"]) (pick:=[U,O 0]) (cH.of rfl rfl) (dQ (ay (au 0) az) T.b8) (λ_ _ _ _ _ _=>(cS (i:=0) (hN:=(by decide +kernel:ψ (["place","many"]:List Str))))) (λ_ _ _ _ _ _=>mO) (λ_ _ _ _ _ _=>(br LV (lB (ay iR az)) (au 1)))) ?_
  refine aO (eY (g9 (au 1)) (tK (n:=2) (kj (cS (i:=3) (hN:=yv.nd)) (kj (cS (i:=4) (hN:=yv.nd)) tH))) (aO (rO iR (tL (bE bG (au 2) (au 3)) (au 4))) (aQ (rO iR (tL (bE bG (au 2) (au 4)) (au 3)))))) ?_;exact(aQ (bf (au 2)))
theorem ak1(T:Tx K mg):bV P w base 2 T.Af 2 zp :=
 b7 ["pot","most","many","dense","wanted","one"] λhN _ _ _ _ _ _ hr=>by
  show bB _ _ Bj;unfold Bj;refine aO (bz 2 (br ez aS (aT (iA T) hr (ay (au 0) (ay (au 1) az))))) ?_;refine aO (bz 3 (br ez aS (aT (iA T) hr (ay (au 0) (ay aS az))))) ?_;refine aO (bz 4 (lz az)) ?_;refine aO (eY (dQ (ay (au 2) az) T.b8) (fC 5) (aQ (jr (p8 (au 4) (iQ (N':=["other","one","dense","pot"]) (pick:=[U,O 5,O 3,O 0]) (cH.of rfl rfl) (kR (ay (br ez (au 5) aS) (ay (au 2) az)) T.b8) (λ_ _ _ _ _ _=>(cS (i:=0) (hN:=(by decide +kernel:ψ (["other","one","dense","pot"]:List Str))))) (λ_ _ _ _ _ _=>(gX (bM r9 (aT (iA T) hr (ay (au 3) (ay aS az))) (au 2)))) (λ_ _ _ _ _ _=>(gh (ay (au 1) (ay (au 0) az))))))))) ?_
  exact(aQ (bf (aT (LN T) hr (ay (au 2) (ay (au 4) az)))))
theorem LM(T:Tx K mg):bV P w base 1 T.Al 2 vA :=
 b7 ["many","marks","found","one","other"] λhN _ _ _ _ _ _ hr=>by
  show bB _ _ Bo;unfold Bo;refine aO (bz 2 (lz az)) ?_;refine aO (eY (dQ (ay (au 0) az) T.b8) (fC 3) (aQ (eY (kR (ay (br ez (au 3) aS) (ay (au 0) az)) T.b8) (fC 4) (aQ (cP (kI (bH adE T.Mw boot_any (ay (fW (N':=["mark","marks","other"]) (pick:=[U,O 1,O 4]) (g9 (bE bG (au 1) (au 3))) (λ_ _ _ _ _ _=>(lC (sd (gG hr)) (au 0) (bE bG (au 1) (au 2))))) az))) (aQ (jr (Lv (au 2) (gh (ay (au 3) (ay (au 4) az)))))) dw))))) ?_
  exact(aQ (bf (au 2)))
theorem Xx(T:Tx K mg):bV P w base 2 T.Aj 2 zu :=
 b7 ["pot","most","way","many","wanted","steps","step","things","marks","one","high","wide","squares"] λhN _ _ _ _ _ _ hr=>by
  show bB _ _ Bl;unfold Bl;refine aO (bz 2 (aT (iA T) hr (ay (au 0) (ay aS az)))) ?_;refine aO (bz 3 (br ez aS (aT (iA T) hr (ay (au 0) (ay (au 1) az))))) ?_;refine aO (bz 4 (lz az)) ?_;refine aO (cP (bM iB (au 2) aS) (aO (kG (i:=5) (hN:=hN) (N':=["step","pot"]) (pick:=[U,O 0]) (cH.of rfl rfl) (kR (ay aS (ay (br ez (br mR (au 3) aS) aS) az)) T.b8) (λ_ _ _ _ _ _=>(cS (i:=0) (hN:=(by decide +kernel:ψ (["step","pot"]:List Str))))) (λ_ _ _ _ _ _=>(gX (bM iB (aT (iA T) hr (ay (au 1) (ay aS az))) aS))) (λ_ _ _ _ _ _=>(au 0))) (aQ (eY (g9 (au 5)) (fC 6) (aQ (jr (p8 (au 4) (fW (N':=["k","many","step"]) (pick:=[U,O 3,O 6]) (dQ (ay (au 3) az) T.b8) (λ_ _ _ _ _ _=>(gh (ay (au 0) (ay (br mQ (br ez (au 0) (au 2)) (au 1)) az))))))))))) (aQ (cP (bM iB (au 2) aS) (aO (bz 7 (bE bG (lB (ay aS (ay aS (ay aS (ay aS az))))) (aT (iA T) hr (ay (au 0) (ay aS az))))) (aO (bz 8 (lz az)) (aO (eY (dQ (ay (au 7) az) T.b8) (fC 9) (aQ (jr (p8 (au 8) (fW (N':=["other","one"]) (pick:=[U,O 9]) (kR (ay (br ez (au 9) aS) (ay (au 7) az)) T.b8) (λ_ _ _ _ _ _=>(lB (ay (au 1) (ay (au 0) az))))))))) (aO (bz 3 (bH tU T.nY T4 (ay (bH cN T.cg Q5 (ay (au 8) az)) (ay (au 1) az)))) (aQ (bz 4 (aT (LM T) hr (ay (au 3) (ay (au 8) az))))))))) (aQ (cP (bM r9 (au 2) aS) (aO (bz 10 (br ez aS (aT (iA T) hr (ay (au 0) (ay (bH tU T.nY T4 (ay aS (ay (au 1) az))) az))))) (aO (bz 11 (br ez aS (aT (iA T) hr (ay (au 0) (ay (bH tU T.nY T4 (ay aS (ay (br mR (au 1) (au 10)) az))) az))))) (aO (bz 3 (br lE (au 10) (au 11))) (aO (kG (i:=8) (hN:=hN) (N':=["k","wide"]) (pick:=[U,O 11]) (cH.of rfl rfl) (dQ (ay (au 3) az) T.b8) (λ_ _ _ _ _ _=>(cS (i:=0) (hN:=(by decide +kernel:ψ (["k","wide"]:List Str))))) (λ_ _ _ _ _ _=>mO) (λ_ _ _ _ _ _=>(lB (ay (br mR (au 0) (au 1)) az)))) (aO (cP (bM iB (au 2) aS) (aQ (kG (i:=8) (hN:=hN) (N':=["k","wide"]) (pick:=[U,O 11]) (cH.of rfl rfl) (dQ (ay (au 3) az) T.b8) (λ_ _ _ _ _ _=>(cS (i:=0) (hN:=(by decide +kernel:ψ (["k","wide"]:List Str))))) (λ_ _ _ _ _ _=>mO) (λ_ _ _ _ _ _=>(lB (ay (br mR (au 0) (au 1)) (ay (br ez aS (br mQ (au 0) (au 1))) az)))))) dw) (aQ (bz 4 (aT (LM T) hr (ay (au 3) (ay (au 8) az)))))))))) (aQ (cP (bM iB (au 2) aS) (aO (bz 3 (bH tU T.nY T4 (ay (au 1) (ay (bE bG (lB (ay aS (ay aS az))) (aT (iA T) hr (ay (au 0) (ay aS az)))) az)))) (aO (bz 12 (fW (N':=["k","many"]) (pick:=[U,O 3]) (kR (ay aS (ay (au 3) az)) T.b8) (λ_ _ _ _ _ _=>(br mQ (br lE (au 0) (au 0)) (au 1))))) (aQ (eY (dQ (ay (au 3) az) T.b8) (fC 9) (aQ (jr (p8 (au 4) (iQ (N':=["other","one","squares","many"]) (pick:=[U,O 9,O 12,O 3]) (cH.of rfl rfl) (kR (ay (br ez (au 9) aS) (ay (au 3) az)) T.b8) (λ_ _ _ _ _ _=>(cS (i:=0) (hN:=(by decide +kernel:ψ (["other","one","squares","many"]:List Str))))) (λ_ _ _ _ _ _=>(gX (bM (sd (gG hr)) (br mQ (br r8 (au 0) (au 1)) (au 3)) (au 2)))) (λ_ _ _ _ _ _=>(gh (ay (au 1) (ay (au 0) az)))))))))))) (aO (bz 3 (bH tU T.nY T4 (ay aS (ay (au 1) az)))) (aO (eY (dQ (ay (au 3) az) T.b8) (fC 9) (aQ (jr (p8 (au 4) (iQ (N':=["other","one"]) (pick:=[U,O 9]) (cH.of rfl rfl) (kR (ay (br ez (au 9) aS) (ay (au 3) az)) T.b8) (λ_ _ _ _ _ _=>(cS (i:=0) (hN:=(by decide +kernel:ψ (["other","one"]:List Str))))) (λ_ _ _ _ _ _=>(gX (bM (sd (gG hr)) (br r8 (au 0) (au 1)) (gh (ay aS (ay aS (ay aS az))))))) (λ_ _ _ _ _ _=>(gh (ay (au 1) (ay (au 0) az))))))))) (aQ (kG (i:=4) (hN:=hN) (N':=["one","other"]) (pick:=[U,U]) (cH.of rfl rfl) (g9 (au 4)) (λ_ _ _ _ _ _=>(tK (n:=2) (kj (cS (i:=0) (hN:=(by decide +kernel:ψ (["one","other"]:List Str)))) (kj (cS (i:=1) (hN:=(by decide +kernel:ψ (["one","other"]:List Str)))) tH)))) (λ_ _ _ _ _ _=>(gX (bM iB (br alY (au 0) (au 1)) (au 0)))) (λ_ _ _ _ _ _=>(gh (ay (au 0) (ay (au 1) az))))))))))))))) ?_
  exact(aQ (bf (aT (LN T) hr (ay (au 3) (ay (au 4) az)))))
theorem uL:jQ ["table","order","many","found","one","other"] ["table","order"] (dG CV):=⟨rfl,rfl,rfl,by decide +kernel,rfl,by decide +kernel,by decide +kernel⟩
theorem Du(T:Tx K mg):bV P w base 1 T.wB 2 n8 :=
 Fj (k:=0) T.wB.d.fn uL rfl rfl λcdv A outer s H E hr=>by
  show bB _ _ Bp;unfold Bp;refine aO (rM (i:=2) (bH cN T.cg Q5 (ay (au 0) az)) (hN:=uL.nd)) ?_;refine aO (kG (i:=3) (hN:=uL.nd) (N':=["place","many"]) (pick:=[U,O 2]) (cH.of rfl rfl) (dQ (ay (au 2) az) T.b8) (λ_ _ _ _ _ _=>(cS (i:=0) (hN:=(by decide +kernel:ψ (["place","many"]:List Str))))) (λ_ _ _ _ _ _=>mO) (λ_ _ _ _ _ _=>(br LV (lB (ay iR az)) (au 1)))) ?_
  refine aO (eY (dQ (ay (au 2) az) T.b8) (cS (i:=4) (hN:=uL.nd)) (aQ (eY (dQ (ay (au 2) az) T.b8) (cS (i:=5) (hN:=uL.nd)) (aQ (rO (bE bG (bE bG (au 0) (au 4)) (au 5)) (tL (bE bG (au 3) (bE bG (au 1) (au 4))) (bE bG (au 1) (au 5)))))))) ?_;exact(aQ (bf (au 3)))
theorem JJ:jQ ["table","one","other","found"] ["table","one","other"] (dG CU):=⟨rfl,rfl,rfl,by decide +kernel,rfl,by decide +kernel,by decide +kernel⟩
theorem ak2(T:Tx K mg):bV P w base 1 T.wA 3 vz :=
 Fj (k:=0) T.wA.d.fn JJ rfl rfl λcdv A outer s H E hr=>by
  show bB _ _ Bg;unfold Bg;refine aO (kG (i:=3) (hN:=JJ.nd) (N':=["row"]) (pick:=[U]) (cH.of rfl rfl) (g9 (au 0)) (λ_ _ _ _ _ _=>(cS (i:=0) (hN:=(by decide +kernel:ψ (["row"]:List Str))))) (λ_ _ _ _ _ _=>mO) (λ_ _ _ _ _ _=>(j5 adC T.vd boot_list (ay (au 0) az)))) ?_
  refine aO (rO (yJ (bE bG (bE bG (au 3) (au 1)) (au 2))) (tL (bE bG (au 3) (au 1)) (au 2))) ?_;refine aO (rO (yJ (bE bG (bE bG (au 3) (au 2)) (au 1))) (tL (bE bG (au 3) (au 2)) (au 1))) ?_;exact(aQ (bf (au 3)))
theorem alW(T:Tx K mg):bV P w base 1 T.Ao 1 sJ :=
 b7 ["table","many"] λhN _ _ _ _ _ _ _=>by
  show bB _ _ Br;unfold Br;refine aO (bz 1 (bH cN T.cg Q5 (ay (au 0) az))) ?_;exact(aQ (bf (fW (N':=["one","many","table"]) (pick:=[U,O 1,O 0]) (dQ (ay (au 1) az) T.b8) (λ_ _ _ _ _ _=>(fW (N':=["other","one","table"]) (pick:=[U,O 0,O 2]) (dQ (ay (au 1) az) T.b8) (λ_ _ _ _ _ _=>(yK (lC jb (au 1) (au 0)) (yI (yJ (bE bG (bE bG (au 2) (au 1)) (au 0)))))))))))
theorem Xz(T:Tx K mg):bV P w base 3 T.An 2 sI :=
 b7 ["pot","most","found","many","one"] λhN _ _ _ _ _ _ hr=>by
  show bB _ _ Bq;unfold Bq;refine aO (cP (bM r9 (aT (iA T) hr (ay (au 0) (ay aS az))) aS) (aQ (bz 2 (aT (ak1 T) hr (ay (au 0) (ay (au 1) az))))) (aQ (bz 2 (aT (Xx T) hr (ay (au 0) (ay (au 1) az)))))) ?_;refine aO (bz 3 (bH cN T.cg Q5 (ay (au 2) az))) ?_;refine aO (cP (bM iB (aT (iA T) hr (ay (au 0) (ay aS az))) aS) (aQ (bz 2 (aT (alW T) hr (ay (au 2) az)))) dw) ?_;refine aO (cP (PW.pt (rW (bM se (au 3) aS) (rX (bM iB (aT (iA T) hr (ay (au 0) (ay aS az))) aS)))) (aO (bz 4 (aT (iA T) hr (ay (au 0) (ay (au 3) az)))) (aQ (bz 2 (aT (ak2 T) hr (ay (au 2) (ay (au 4) (ay (br mQ (br ez (br ez (au 4) aS) (aT (iA T) hr (ay (au 0) (ay (br r8 (au 3) aS) az)))) (au 3)) az))))))) dw) ?_;exact(aQ (bf (aT (Du T) hr (ay (au 2) (ay (aT (Dt T) hr (ay (au 0) (ay (au 3) az))) az)))))
theorem yT(T:Tx K mg):bV P w base 1 T.Ag 1 jy :=
 b7 ["table"] λhN _ _ _ _ _ _ _=>by
  show bB _ _ Bk;unfold Bk;exact(aQ (bf (j5 l8 T.j8 S6 (ay (fW (N':=["row","table"]) (pick:=[U,O 0]) (g9 (au 0)) (λ_ _ _ _ _ _=>(j5 l8 T.j8 S6 (ay (iQ (N':=["k","row"]) (pick:=[U,O 0]) (cH.of rfl rfl) (dQ (ay (bH cN T.cg Q5 (ay (au 1) az)) az) T.b8) (λ_ _ _ _ _ _=>(cS (i:=0) (hN:=(by decide +kernel:ψ (["k","row"]:List Str))))) (λ_ _ _ _ _ _=>(gX (kI (bE bG (au 1) (au 0))))) (λ_ _ _ _ _ _=>(au 0))) az)))) az))))
theorem ak0(T:Tx K mg):bV P w base 23 T.Ah 3 zq :=
 b7 ["one","other","third","first","second"] λhN _ _ _ _ _ _ hr=>by
  show bB _ _ xh;unfold xh;refine aO (bz 3 (aT (yR T) hr (ay (au 0) (ay (au 1) az)))) ?_;refine aO (bz 4 (aT (yR T) hr (ay (au 1) (ay (au 2) az)))) ?_;refine aO (cP (PW.pt (rU (bM yV (au 3) iP) (rU (bM yV (au 4) iP) (uX (bM jb (bE bG (aT (alF T) hr (ay (au 0) (ay (au 2) az))) aS) kH))))) (aQ (bf iR)) dw) ?_;refine aO (cP (nU (kI (aT (ak3 T) hr (ay (au 0) (ay (au 2) (ay (j5 l8 T.j8 S6 (ay (fW (N':=["place","second"]) (pick:=[U,O 4]) (lQ (au 3)) (λ_ _ _ _ _ _=>(bE bG (au 1) (au 0)))) az)) az)))))) (aQ (bf iR)) dw) ?_
  refine aO (cP (bM (Dy (gG hr)) (aT (yR T) hr (ay (aT (yQ T) hr (ay (au 0) az)) (ay (aT (yQ T) hr (ay (au 1) az)) az))) (au 3)) (aQ (bf iR)) dw) ?_;refine aO (cP (bM jb (lC iB (bE bG (aT (u6 T) hr (ay (au 0) az)) aS) kH) (lC iB (bE bG (aT (u6 T) hr (ay (au 2) az)) aS) kH)) (aQ (bf iR)) dw) ?_;refine aO (cP (PW.pt (rW (bM iB (bE bG (aT (u6 T) hr (ay (au 0) az)) aS) kH) (rX (bM (Dy (gG hr)) (aT (u6 T) hr (ay (au 0) az)) (aT (u6 T) hr (ay (au 1) az)))))) (aQ (bf iR)) dw) ?_;refine aO (cP (bM (Dy (gG hr)) (fW (N':=["size","one"]) (pick:=[U,O 0]) (kR (ay aS (ay aS az)) T.b8) (λ_ _ _ _ _ _=>(aT (yS T) hr (ay (au 1) (ay (au 0) az))))) (fW (N':=["size","third"]) (pick:=[U,O 2]) (kR (ay aS (ay aS az)) T.b8) (λ_ _ _ _ _ _=>(aT (yS T) hr (ay (au 1) (ay (au 0) az)))))) (aQ (bf iR)) dw) ?_
  exact(aQ (bf (lC iB (aT (LO T) hr (ay (au 0) az)) (aT (LO T) hr (ay (au 1) az)))))
theorem alV(T:Tx K mg):bV P w base 24 T.wD 1 vC :=
 b7 ["script","k","pot","table","many","later","one","mine"] λhN _ _ _ _ _ _ hr=>by
  show bB _ _ xo;unfold xo;refine aO (eY (dQ (ay (bH adB T.vc boot_max (ay aS (ay (bH tU T.nY T4 (ay (bH cN T.cg Q5 (ay (au 0) az)) (ay aS az))) az))) az) T.b8) (fC 1) (aO (bz 2 (aT (Xw T) hr (ay (aT (Xy T) hr (ay (au 0) (ay (au 1) az))) az))) (aO (bz 3 (aT (Xz T) hr (ay (au 2) (ay aS az)))) (aO (bz 4 (bH cN T.cg Q5 (ay (au 3) az))) (aO (bz 5 (aT (Du T) hr (ay (au 3) (ay (aT (Dt T) hr (ay (au 2) (ay (au 4) az))) az)))) (aO (bz 6 (aT (yT T) hr (ay (au 3) az))) (aO (cP (nU (kI (aT (ak0 T) hr (ay (au 6) (ay (aT (yT T) hr (ay (au 5) az)) (ay (aT (yT T) hr (ay (aT (Du T) hr (ay (au 5) (ay (aT (Dt T) hr (ay (au 2) (ay (au 4) az))) az))) az)) az)))))) (aQ (bf iR)) dw) (aQ (cP (bM r9 (au 4) aS) (aO (bz 7 (aT (Ds T) hr (ay (au 6) az))) (aQ (cP (PW.pt (rU (bM jb (aT (Ds T) hr (ay (aT (yQ T) hr (ay (au 6) az)) az)) (au 7)) (uX (bM jb (aT (Ds T) hr (ay (aT (yT T) hr (ay (au 5) az)) az)) (au 7))))) (aQ (bf iR)) dw))) dw))))))))) ?_;exact(aQ (bf iR))
end
end Ev
namespace Ev
open PySem L2
theorem fm(h:s e c=.ok (.nx e') c'):aD s t e c=t e' c':=by rw[iu,h];rfl
theorem nZ{i:Int}(h:0<=i):∃n:Nat,i=n:=⟨i.toNat,∅⟩
theorem tN(inv:Nat->Ev->aa->Prop):∀(items:List D) (k:Nat) (e:Ev) (c:aa),inv k e c ->
  (∀i x,items[i]? = O x->∀e c,inv (k+i) e c->∃e' e'' c' c'',g x e c=.ok e' c'/\s e' c'=.ok (.nx e'') c''/\inv (k+i+1) e'' c'') ->
  ∃e' c',inv (k+items.length) e' c'/\bU (λ_=>True) g s items e c=.ok (.nx e') c'
 |[],k,e,c,hi,_=>⟨e,c,hi,by simp⟩
 |x::xs,k,e,c,hi,h=>by
  obtain⟨e',e'',c',c'',h1,h2,h3⟩:=h 0 x rfl e c hi;obtain⟨e3,c3,i3,h4⟩:=tN inv xs _ e'' c'' h3 λi y hy e c hi=>by
   have:=h (i+1) y (by simpa using hy) e c (by rwa[show k+(i+1)=k+1+i by omega])
   rwa[show k+_+1=k+1+i+1 by omega]at this
  exact⟨e3,c3,by rwa[RG,show k+_=k+1+xs.length by omega],by rw[kr,h1,R.aN,h2];exact h4⟩
def dI(j:Nat)(n:Nat)(c:aa):Prop:=c.length=n/\j<n/\∃p:Int,c[j]? = O (.lst [.int p])
theorem dI.set(h:dI j n c)(p:Int):dI j n (c.set j (.lst [.int p])):=by
 obtain⟨h1,h2,_⟩:=h;exact⟨by simp[h1],h2,p,by rw[Su ∅]⟩
theorem aaU(cell:Int)(c:aa):∃p:Int,sG [.int cell] c=.ok (.ref c.length) (c++[.lst [.int p]]):=by
 by_cases h:10^18<=cell
 ·simp(disch:=omega) [sG,xj,K9,h];rw[if_pos (by simpa using h)]
  simp[cD]
 ·obtain⟨e',c',⟨⟨q,v1,v2,rfl⟩,rfl⟩,hf⟩:=OZ (g:=aC 2) (s:=(aD (aI 3 (av iD (av dZ (av bR (av bR (av iD (ak 0) (dC (.int 2147483629))) (av dZ (dC (.int 7919)) (ak 2))) (dC (.int 1))) (dC (.int 48271))) (dC (.int 2147483647)))) (aD (aI 3 (av iD (av bR (av bR (av dZ (ak 3) (ak 3)) (av dZ (dC (.int 69621)) (ak 2))) (dC (.int 7))) (dC (.int 2147483587)))) (aI 1 (av bR (av dZ (ak 1) (dC (.int 2147483587))) (ak 3))))))
   (λe c'=>(∃q v1 v2,e=[O (.int cell),O (.int q),v1,v2])/\c'=c) (aV 0 64) [O (.int cell),O (.int 0),U,U] c ⟨⟨0,U,U,rfl⟩,rfl⟩ (λx hx e c' ⟨⟨q,v1,v2,he⟩,hc⟩=>by
    obtain⟨i,rfl,i0,i1⟩:=jw hx;subst he;subst hc;have b0:0<=(cell % 2147483629+7919*i+1)*48271 % 2147483647:=UL _ ⋯
    have b1:(cell % 2147483629+7919*i+1)*48271 % 2147483647<2147483647:=UK _ ⋯
    generalize hm:(cell % 2147483629+7919*i+1)*48271 % 2147483647=m at b0 b1
    refine⟨_,[O (.int cell),O (.int (q*2147483587+(m*m+69621*i+7) % 2147483587)),O (.int i),O (.int ((m*m+69621*i+7) % 2147483587))],_,_,rfl,by simp(disch:=omega) [qe,DP,mul_r,hm],⟨⟨_,_,_,rfl⟩,rfl⟩⟩)
  have hh:¬(1000000000000000000<=cell):=by simpa using h
  simp(disch:=omega) [sG,xj,K9,hh];rw[hf];simp[cD]
theorem ady(ns:List Int)(k:Int)(h:0<=k)(c:aa):∃x:Int,sH [.bS ns,.int k] c=.ok (.int x) c:=by
 by_cases q:k<ns.length
 ·have e:aH (.bS ns) (.int k) c=.ok (.int ns[k.toNat]) c:=by
   show(match d8 (ns.map D.int) k with|some d=>R.ok d c|none=>R.bad)=_
   have:d8 (ns.map D.int) k=O (.int ns[k.toNat]):=by
    have:=ku (xs:=ns.map D.int) (j:=k.toNat) (v:=.int ns[k.toNat]) (by simp)
    rwa[Vy h]at this
   rw[this]
  simp[sH,xm,q,e]
 ·exact⟨0,by simp[sH,xm,q]⟩
theorem take2(hp:c[j]? = O (.lst [.int p]))(h0:0<gq)(h1:gq<1073741824):fy [.ref j,.int gq] c=.ok (.int (p % gq)) (c.set j (.lst [.int (p/gq)])):=by
 have e1:aH (.ref j) (.int 0) c=.ok (.int p) c:=by
  simp[aH,fV,hp]
 have e2:pX (.ref j) (.int 0) (.int (p/gq)) c=.ok () (c.set j (.lst [.int (p/gq)])):=by
  simp[pX,hp,iF]
 have e3:(c.set j (.lst [.int (p/gq)])).take c.length=c.set j (.lst [.int (p/gq)]):=by
  rw[T7];simp
 simp(disch:=omega) [fy,Bh,e1,qe,wM,e2,e3]
def PO(j n:Nat)(os:List Nat)(c:aa):Prop:=c.length=n+1/\j<n/\(∃p:Int,c[j]? = O (.lst [.int p]))/\c[n]? = O (.lst (nD os))
theorem aal(os:List Nat)(i k:Nat):(os.take i++k::os.drop i).Perm (k::os):=by
 refine VS.trans ?_;rw[Sm]
def rZ:ah:=(d9 (wO (ak 2) (aB 2 fy (ao (ak 0) (ao (av bR (ak 3) (dC (.int 1))) aq))) (ak 3)))
theorem aj2{os:List Nat}(hP:PO j n os c)(hk:os.length=k)(hk':k<1000)(a1:Option D):
  ∃os' c',PO j n os' c'/\os'.Perm (k::os)/\rZ [O (.ref j),a1,O (.ref n),O (.int k)] c=.ok (.nx [O (.ref j),a1,O (.ref n),O (.int k)]) c':=by
 obtain⟨h1,h2,⟨p,h3⟩,h4⟩:=hP;have hs:=cZ (n:=1000) ⋯
 have ht:=take2 (gq:=k+1) h3 ∅ ∅
 have x0:=UL p (show(k:Int)+1≠0 by omega)
 have x1:=UK p (show(0:Int)<k+1 by omega)
 generalize p % _=x at ht x0 x1
 obtain⟨i,rfl⟩:=nZ x0
 generalize hc1:c.set j (.lst [.int _])=c1 at ht
 have l1:c1.length=n+1:=by rw[<-hc1];simp[h1]
 have q1:c1[n]? = O (.lst (nD os)):=by rw[<-hc1,Th ∅];exact h4
 refine⟨os.take i++k::os.drop i,c1.set n (.lst (nD (os.take i++k::os.drop i))),⟨by simp[l1],h2,⟨_,by rw[Th ∅];exact(by rw[<-hc1,Su ∅])⟩,by rw[Su ∅]⟩,aal os i k,?_⟩
 have e:nD (os.take i++k::os.drop i)=(nD os).take i ++ .int k::(nD os).drop i:=by simp
 have hin:wO (ak 2) (aB 2 fy (ao (ak 0) (ao (av bR (ak 3) (dC (.int 1))) aq))) (ak 3) [O (.ref j),a1,O (.ref n),O (.int k)] c=.ok .aF (c1.set n (.lst (nD (os.take i++k::os.drop i)))):=by
  rw[ahq];simp only[dj,gz,gs,R.aN,x_call,cY,iw,jU,cU,xW,RG,Tz,if_pos,ht,q1];rw[if_pos ⟨⟨∅,by rw[P0];omega⟩,by rw[P0];omega,rfl⟩,Ss,e]
 unfold rZ;rw[Cp,hin];rfl
theorem aj1{c:aa}(hn:c.length=n)(b:-4611686018427387904<=q/\q<4611686018427387904)(hf:bU (λ_=>True) (aC 3) rZ (aV 0 q) [O (.ref j),O (.int q),O (.ref n),U] (c++[.lst []])=.ok (.nx [O (.ref j),O (.int q),O (.ref n),v]) c3)(ht:eT [.ref n] c3=.ok (.tup l) c3)(nr:bF l=J):lK [.ref j,.int q] c=.ok (.tup l) (c3.take n):=by
 have hb:Bm=aD _ (aD (bT _ (aC 3) rZ) _):=rfl;have e0:(aI 2 (gu aq)) [O (.ref j),O (.int q),U,U] c=.ok (.nx [O (.ref j),O (.int q),O (.ref n),U]) (c++[.lst []]):=by simp[hn]
 have e1:(bT (bK ⇑1) (aC 3) rZ) [O (.ref j),O (.int q),O (.ref n),U] (c++[.lst []])=.ok (.nx [O (.ref j),O (.int q),O (.ref n),v]) c3:=by
  simp
  rwa[if_pos ∅]
 have e2:(aP (aJ eT ⇑2)) [O (.ref j),O (.int q),O (.ref n),v] c3=.ok (.rt (.tup l)) c3:=by simp[ht]
 rw[lK,iN,hb];have es:bW 4 [D.ref j,.int q]=[O (.ref j),O (.int q),U,U]:=rfl;rw[es,fm e0,fm e1,e2];have lF:noRef (.tup l)=J:=nr;simp only[R.aN];unfold cD;dsimp only;rw[if_pos lF,hn]
theorem Dk{j n m:Nat}(hP:dI j n c)(hm:m<1000):∃os c',os.Perm (η m)/\dI j n c'/\lK [.ref j,.int (m:Int)] c=.ok (.tup (nD os)) c':=by
 obtain⟨hl,hj,p,hp⟩:=hP;have hlen:(aV 0 (m:Int)).length=m:=by rw[jt];omega
 obtain⟨e',c3,⟨os,v,rfl,P3,hp3⟩,hf⟩:=tN (g:=aC 3) (s:=rZ) (λk e c=>∃os v,e=[O (.ref j),O ↥m,O (.ref n),v]/\PO j n os c/\os.Perm (η k))
  (aV 0 (m:Int)) 0 [O (.ref j),O ↥m,O (.ref n),U] (c++[.lst []]) ⟨[],U,rfl,⟨by simp[hl],hj,⟨p,by rw[RY ∅];exact hp⟩,by rw[SG ∅,hl];simp⟩,.refl _⟩ (λi x hx e c ⟨os,v,he,P1,hp1⟩=>by
   subst he;have hi:i<(aV 0 (m:Int)).length:=(Q9.mp hx).1;obtain⟨hlt,rfl⟩:=nO hx;rw[Int.zero_add];rw[R6]at hp1 ⊢;have ia:os.length=i:=by have:=hp1.length_eq;simpa using this
   obtain⟨aj8,c2,P2,hp2,h2⟩:=aj2 P1 ia ∅ (O ↥m)
   refine⟨_,_,_,_,rfl,h2,aj8,_,rfl,P2,?_⟩;rw[Uc];exact hp2.trans ((hp1.cons i).trans (Ub i _).symm))
 rw[hlen,R6]at hp3;obtain⟨l3,_,⟨p3,q3⟩,q4⟩:=P3;refine⟨os,c3.take n,hp3,⟨by rw[Tf];omega,hj,p3,by rw[Xd hj];exact q3⟩,?_⟩
 exact aj1 hl ∅ hf (by unfold eT;dsimp only;rw[show fV c3 (.ref n)=O (nD os) by unfold fV;dsimp only;rw[q4]]) (j7 os)
def c8(n m:Nat):List D:=(η m).map λr=>.ref (n+r)
theorem yF(h:r<m):d8 (c8 n m) (r:Int)=O (.ref (n+r)):=ku (by simp[c8,h])
def cA(m:Nat)(f:Nat->Nat->Bool)(i:Nat):List D:=(η m).map λk=>.bl (f i k)
def d7(m:Nat)(f:Nat->Nat->Bool):aa:=(η m).map λi=>.lst (cA m f i)
def bC(m:Nat)(f:Nat->Nat->Bool):D:=.lst ((η m).map λi=>.lst (cA m f i))
def gf(f:Nat->Nat->Bool)(a b:Nat)(v:Bool):Nat->Nat->Bool:=λi k=>if i=a/\k=b then v else f i k
theorem ajN(m:Nat)(f:Nat->Nat->Bool)(i:Nat):(cA m f i).length=m:=by simp[cA]
theorem aiZ(f:Nat->Nat->Bool)(i:Nat)(h:k<m):(cA m f i)[k]? = O (.bl (f i k)):=by simp[cA,h]
theorem C1(m:Nat)(f:Nat->Nat->Bool)(i:Nat):bF (cA m f i)=J:=iC.mpr λd hd=>by
 obtain⟨k,_,rfl⟩:=AP.mp hd;rfl
theorem E6(f:Nat->Nat->Bool)(c:aa)(h:i<m):(c++d7 m f)[c.length+i]? = O (.lst (cA m f i)):=by
 simp[d7,h]
theorem abG(f:Nat->Nat->Bool)(v:Bool)(c:aa)(ha:a<m):(c++d7 m f).set (c.length+a) (.lst ((cA m f a).set b (.bl v)))=c++d7 m (gf f a b v):=by
 rw[XR _ _ ∅]
 congr 1
 rw[Nat.add_sub_cancel_left];apply Rx
 ·simp[d7]
 ·intro i h1 h2;rw[XQ];simp only[d7,V3,V6]
  by_cases e:a=i
  ·subst e;rw[if_pos rfl]
   congr 1
   apply Rx
   ·simp[cA]
   ·intro k h3 h4;rw[XQ];simp only[cA,V3,V6,gf]
    by_cases e2:b=k
    ·subst e2;simp
    ·rw[if_neg e2,if_neg (λz=>e2 z.2.symm)]
  ·rw[if_neg e]
   congr 1
   refine RV λk _=>?_
   unfold gf;rw[if_neg (λz=>e z.1.symm)]
theorem zQ(f:Nat->Nat->Bool)(v:Bool)(c:aa)(ha:a<m)(hb:b<m):pX (.ref (c.length+a)) ↥b (.bl v) (c++d7 m f)=.ok () (c++d7 m (gf f a b v)):=by
 have p:=abG (b:=b) f v c ha;unfold pX;simp[(E6 f c ha),iF,(ajN m f a),hb,noRef,p]
theorem ach(n:Nat):(ο n [D.bl ξ]).flatten=(η n).map λ_=>D.bl ξ:=by
 induction n with
 |zero=>rfl
 |succ n ih=>rw[TV,Te,ih,V0,Q8,R3];rfl
def qz:af:=(av nR (eW (ao (dC (.bl ξ)) aq)) (ak 1))
theorem abN{q:Int}{m:Nat}(hq:q=m)(hm:m<1000)(v:Option D)(c:aa):qz [v,O (.int q)] c=.ok (.ref c.length) (c++[.lst ((η m).map λ_=>.bl ξ)]):=by
 have hs:=cZ (n:=1000) ⋯
 have e:(ο q.toNat [D.bl ξ]).flatten=(η m).map λ_=>D.bl ξ:=by rw[ach,hq,Ss]
 unfold qz;simp only[iw,xT,cY,jU,cU,R.aN,dj,gz,gs,RG,Tz];rw[if_pos (cZ ⋯)]
 simp only[R.aN,ahh,e];rw[if_pos ⟨∅,∅,by simp;omega,rfl⟩]
theorem FT{q:Int}{m:Nat}(hq:q=m)(hm:m<1000):∀(items:List D) (v:Option D) (acc:List D) (c:aa),bN (λ_=>True) (aC 0) aY qz items [v,O (.int q)] acc c=.ok (acc++c8 c.length items.length) (c++(η items.length).map λ_=>.lst ((η m).map λ_=>.bl ξ))
 |[],v,acc,c=>by simp[c8]
 |x::xs,v,acc,c=>by
  rw[pq];have h1:aC 0 x [v,O (.int q)] c=.ok [O x,O (.int q)] c:=rfl;rw[h1,R.aN,ue,R.aN,if_pos rfl,abN hq hm,R.aN,FT hq hm xs];have e1:acc++[D.ref c.length]++c8 (c++[Cell.lst ((η m).map λ_=>.bl ξ)]).length xs.length=acc++c8 c.length (x::xs).length:=by
   rw[SE,Rq,RG,Tz]
   congr 1
   unfold c8;rw[RG,V0,Q8,R3];simp only[UM,RC,UT]
   congr 1
   refine RV λr _=>?_
   simp only[Function.comp]
   congr 1;omega
  have e2:c++[Cell.lst ((η m).map λ_=>D.bl ξ)]++(η xs.length).map (λ_=>Cell.lst ((η m).map λ_=>D.bl ξ))=c++(η (x::xs).length).map (λ_=>Cell.lst ((η m).map λ_=>D.bl ξ)):=by
   rw[SE]
   congr 1
   rw[RG,V0,Q8,R3];rfl
  rw[e1,e2]
theorem IZ(c:aa)(n m:Nat)(f:Nat->Nat->Bool):∀l:List Nat,(∀i∈l,c[n+i]? = O (.lst (cA m f i)))->nH c n (l.map λi=>.ref (n+i))=O (l.map λi=>.lst (cA m f i))
 |[],_=>rfl
 |i::l,h=>by
  have ih:=IZ c n m f l λk hk=>h k (.tail _ hk)
  rw[Q8,Q8,nH,ih];have:fU c n (.ref (n+i))=O (.lst (cA m f i)):=by
   unfold fU;rw[h i (.head _)];dsimp only;rw[if_pos ∅]
  rw[this]
theorem Fv(c:aa)(m:Nat)(f:Nat->Nat->Bool):lV c.length (.lst (c8 c.length m)) (c++d7 m f)=.ok (bC m f) c:=by
 unfold lV fU c8;rw[IZ _ _ m f (η m) λi hi=>E6 f c (dD.mp hi)]
 simp[bC]
def gY(M:List (List Int)):List D:=M.map λl=>.lst (l.map D.int)
def bh(p:Nat×Nat):D:=.tup [.int p.1,.int p.2]
def HF(m:Nat)(ps:List (Nat×Nat)):Prop:=∀p∈ps,p.1<m/\p.2<m
def jh(ps:List (Nat×Nat)):Nat->Nat->Bool:=λi k=>ps.any λp=>(p.1==i&&p.2==k)||(p.2==i&&p.1==k)
theorem join_snoc(ps:List (Nat×Nat))(p:Nat×Nat):jh (ps++[p])=gf (gf (jh ps) p.1 p.2 J) p.2 p.1 J:=by
 funext i k
 unfold jh gf;rw[List.any_append]
 by_cases h1:i=p.2/\k=p.1
 ·rw[if_pos h1];simp[h1.1,h1.2]
 ·rw[if_neg h1]
  by_cases h2:i=p.1/\k=p.2
  ·rw[if_pos h2];simp[h2.1,h2.2]
  ·rw[if_neg h2];have e1:(p.1==i&&p.2==k)=ξ:=by
    cases q:(p.1==i&&p.2==k)with
    |false=>rfl
    |true=>simp at q;exact absurd ⟨q.1.symm,q.2.symm⟩ h2
   have e2:(p.2==i&&p.1==k)=ξ:=by
    cases q:(p.2==i&&p.1==k)with
    |false=>rfl
    |true=>simp at q;exact absurd ⟨q.1.symm,q.2.symm⟩ h1
   simp[e1,e2]
def vK:ah:=(aD (jZ (dC (.bl J)) (ko (av aH (ak 2) (ak 3)) (ak 4))) (jZ (dC (.bl J)) (ko (av aH (ak 2) (ak 4)) (ak 3))))
theorem Z2{f:Nat->Nat->Bool}{c:aa}(a0 a1:Option D)(ha:a<m)(hb:b<m):
  vK [a0,a1,O (.lst (c8 c.length m)),O (.int a),O (.int b)] (c++d7 m f)=.ok (.nx [a0,a1,O (.lst (c8 c.length m)),O (.int a),O (.int b)]) (c++d7 m (gf (gf f a b J) b a J)):=by
 have h1:∀c',aH (.lst (c8 c.length m)) _ c'=.ok _ c':=λc'=>by rw[jT,yF ha]
 have h2:∀c',aH (.lst _) _ c'=.ok (.ref (c.length+b)) c':=λc'=>by rw[jT,yF hb]
 have s2:=zQ (gf f a b J) J c hb ha;unfold vK;simp only[iu,Cr,jU,R.aN,Cn,iw,dj,gz,gs,h1,h2,(zQ f J c ha hb),s2]
theorem Z3(hp:HF m ps)(st:aa->Prop)(hst:∀R:aa,st (c++R))(a0 a1:Option D):
  ∃v w,bU st (fK 2 (cC (aC 3) (cC (aC 4) gn))) vK (ps.map bh) [a0,a1,O (.lst (c8 c.length m)),U,U] (c++d7 m λ_ _=>ξ)=.ok (.nx [a0,a1,O (.lst (c8 c.length m)),v,w]) (c++d7 m (jh ps)):=by
 obtain⟨v',hf⟩:=zT (g:=(fK 2 (cC (aC 3) (cC (aC 4) gn)))) (s:=vK) _ (λ_ v=>[a0,a1,O _,v.1,v.2]) (ps.map bh) 0 (U,U) (λi _=>hst _) (λi x hx v=>by
  rw[R6];have hi:i<ps.length:=by have:=(Q9.mp hx).1;simpa using this
  have ex:x=bh ps[i]:=by
   rw[RB,H8 hi]at hx;cases hx;rfl
  subst ex;have hq:=hp _ (RA hi);have hs:=Z2 (f:=jh (ps.take i)) (c:=c) a0 a1 hq.1 hq.2;rw[<-join_snoc,<-UX hi]at hs;refine⟨[a0,a1,O _,O _,O _],?_,(O _,O _),hs⟩;simp[bh])
 have e0:jh (ps.take 0)=λ_ _=>ξ:=by funext i k;rfl
 rw[R6,P0,Rg,e0]at hf;exact⟨v'.1,v'.2,hf⟩
theorem Z4(a1:Option D)(b1:-4611686018427387904<=q/\q<4611686018427387904)(hl:(aV 0 q).length<Ω)(hc:bN (λ_=>True) (aC 0) aY qz (aV 0 q) [U,O (.int q)] [] c=.ok l c'):
  (aI 2 (aU (bK ⇑0) [U,O 0] (aC 0) aY (av nR (eW (ao (dC (.bl ξ)) aq)) (ak 1)))) [O (.int q),a1,U,U,U] c=.ok (.nx [O (.int q),a1,O (.lst l),U,U]) c':=by
 unfold qz at hc;simp;rw[if_pos ∅]
 simp;rw[if_pos hl];have:fq [U,O 0] [O (D.int q),a1,U,U,U]=[U,O (.int q)]:=rfl;rw[this,hc];rfl
theorem Z5{W:D}{s1 s2:ah}(e0:s0 [O (.int q),O X,U,U,U] c=.ok (.nx [O (.int q),O X,O (.lst l),U,U]) c1)(e1:s1 [O (.int q),O X,O (.lst l),U,U] c1=.ok (.nx [O (.int q),O X,O (.lst l),v,w]) c2)(e2:s2 [O (.int q),O X,O (.lst l),v,w] c2=.ok (.rt (.lst l)) c2)(hx:lV c.length (.lst l) c2=.ok W c):
  nc 5 (aD s0 (aD s1 s2)) [.int q,X] c=.ok W c:=by
 rw[Co];have e3:bW 5 [D.int q,X]=[O _,O X,U,U,U]:=rfl
 rwa[e3,fm e0,fm e1,e2]
theorem Z0(hp:HF m ps)(hm:m<1000)(hX:(∃k,X=.ref k/\c[k]? = O (.lst (ps.map bh)))\/X=.lst (ps.map bh)):vB [.int (m:Int),X] c=.ok (bC m (jh ps)) c:=by
 have hs:=cZ (n:=1000) ⋯
 have hrl:(aV 0 m).length=m:=by rw[jt];omega
 have hc:=FT rfl hm (aV 0 m) U [] c;rw[hrl,RC]at hc;have hg:(η m).map (λ_=>Cell.lst _)=d7 m λ_ _=>ξ:=rfl
 have Ez:∃st:aa->Prop,(∀R:aa,st (c++R))/\∀(a0 a2:Option D) R,cj (ak 1) [a0,O X,a2,U,U] (c++R)=.ok ⟨ps.map bh,st⟩ (c++R):=by
  rcases hX with⟨k,rfl,hk⟩|rfl
  ·have Ob:k<c.length:=(Q9.mp hk).1;have Oc:∀R:aa,(c++R)[k]? = O _:=λR=>by rw[RY Ob];exact hk
   refine⟨λc'=>c'[k]? = O _,Oc,λa0 a2 ags=>?_⟩
   unfold cj;simp only[dj,gz,gs,R.aN,Oc]
  ·exact⟨λ_=>True,λ_=>trivial,λa0 a2 R=>rfl⟩
 obtain⟨st,hst,hd⟩:=Ez;obtain⟨v,w,hf⟩:=Z3 (m:=m) hp st hst _ (O X);have e1:(bT (cj (ak 1)) (fK 2 (cC (aC 3) (cC (aC 4) gn))) vK) [O (.int m),O X,O (.lst (c8 c.length m)),U,U] (c++d7 m λ_ _=>ξ)=.ok (.nx [O (.int m),O X,O (.lst (c8 c.length m)),v,w]) (c++d7 m (jh ps)):=by
  rwa[rm,hd]
 exact Z5 (Z4 (O X) ∅ (by rw[hrl];omega) hc) e1 rfl (Fv c m _)
theorem Jc(f:Nat->Nat->Bool)(h:i<m):d8 ((η m).map λi=>D.lst (cA m f i)) (i:Int)=O (.lst (cA m f i)):=ku (by simp[h])
theorem yy(f:Nat->Nat->Bool)(i:Nat)(h:k<m):d8 (cA m f i) (k:Int)=O (.bl (f i k)):=ku (aiZ f i h)
theorem MA{os:List Nat}(h:i<os.length):d8 (nD os) (i:Int)=O (.int (os[i]:Nat)):=ku (by simp[nD,h])
theorem Et{os:List Nat}(h:os.idxOf a<os.length):os[os.idxOf a]=a:=by
 exact Uz h
theorem Eu{os:List Nat}(hn:os.Nodup)(h:i<os.length):os.idxOf os[i]=i:=by
 exact(SS hn).mp (Et (Tj.mpr (RA h)))
def eZ(os:List Nat)(f:Nat->Nat->Bool)(i k:Nat):Nat->Nat->Bool:=λa b=>if os.idxOf a<i\/(os.idxOf a=i/\os.idxOf b<k)then(if os.idxOf b<os.length then f (os.idxOf a) (os.idxOf b)else ξ)else ξ
theorem YI{os:List Nat}(hn:os.Nodup)(f:Nat->Nat->Bool)(hi:i<os.length)(hk:k<os.length):gf (eZ os f i k) os[i] os[k] (f i k)=eZ os f i (k+1):=by
 funext a b
 unfold gf eZ
 by_cases h:a=os[i]/\b=os[k]
 ·rw[if_pos h,h.1,h.2,Eu hn hi,Eu hn hk];rw[if_pos ∅,if_pos hk]
 ·rw[if_neg h]
  by_cases ha:os.idxOf a=i
  ·by_cases hb:os.idxOf b=k
   ·have ea:os[i]=a:=by
     have:=Et (os:=os) (a:=a) ∅
     simpa[ha]using this
    have eb:os[k]=b:=by
     have:=Et (os:=os) (a:=b) ∅
     simpa[hb]using this
    exact absurd ⟨ea.symm,eb.symm⟩ h
   ·have e:(os.idxOf a<i\/(os.idxOf a=i/\os.idxOf b<k))↔(os.idxOf a<i\/(os.idxOf a=i/\os.idxOf b<k+1)):=∅
    simp only[e]
  ·have e:(os.idxOf a<i\/(os.idxOf a=i/\os.idxOf b<k))↔(os.idxOf a<i\/(os.idxOf a=i/\os.idxOf b<k+1)):=∅
   simp only[e]
theorem YJ{os:List Nat}(f:Nat->Nat->Bool)(i:Nat):∀a b,eZ os f i os.length a b=eZ os f (i+1) 0 a b:=λa b=>by
 unfold eZ
 by_cases hb:os.idxOf b<os.length
 ·have e:(os.idxOf a<i\/(os.idxOf a=i/\os.idxOf b<os.length))↔(os.idxOf a<i+1\/(os.idxOf a=i+1/\os.idxOf b<0)):=∅
  simp only[e]
 ·simp only[if_neg hb,ite_self]
def vg:ah:=(jZ (av aH (av aH (ak 0) (ak 4)) (ak 5)) (ko (av aH (ak 3) (av aH (ak 1) (ak 4))) (av aH (ak 1) (ak 5))))
theorem YQ{os:List Nat}(hn:os.Nodup)(hm:os.length=m)(f:Nat->Nat->Bool){c:aa}(hlt:∀x∈os,x<m)(hi:i<m)(hk:k<m)(a2:Option D):
  vg [O (bC m f),O (.tup (nD os)),a2,O (.lst (c8 c.length m)),O (.int i),O (.int k)] (c++d7 m (eZ os f i k))=.ok (.nx [O (bC m f),O (.tup (nD os)),a2,O (.lst (c8 c.length m)),O (.int i),O (.int k)]) (c++d7 m (eZ os f i (k+1))):=by
 have EF:os[i]<m:=hlt _ (RA ∅)
 have hok:os[k]<m:=hlt _ (RA ∅)
 have h1:∀c',aH (bC m f) ↥i c'=.ok (.lst (cA m f i)) c':=λc'=>by unfold bC;rw[jT,Jc f hi]
 have h2:∀c',aH (.lst (cA m f i)) ↥k c'=.ok (.bl (f i k)) c':=λc'=>by rw[jT,yy f i hk]
 have h3:∀c',aH (.tup (nD os)) ↥i c'=.ok (.int (os[i])) c':=λc'=>by rw[uf,MA ∅]
 have h4:∀c',aH (.tup (nD os)) ↥k c'=.ok (.int (os[k])) c':=λc'=>by rw[uf,MA ∅]
 have h5:∀c',aH (.lst (c8 c.length m)) (.int (os[i])) c'=.ok (.ref (c.length+os[i])) c':=λc'=>by rw[jT,yF EF]
 have s1:=zQ (eZ os f i k) (f i k) c EF hok;rw[YI hn f ∅ ∅]at s1
 unfold vg;simp only[Cr,R.aN,Cn,iw,dj,gz,gs,h1,h2,h3,h4,h5,s1]
def sC:ah:=bT (bK ⇑2) (aC 5) vg
theorem YO(b:-4611686018427387904<=q/\q<4611686018427387904)(h:bU (λ_=>True) (aC 5) vg (aV 0 q) [O T,O ζ,O (.int q),O (.lst l),a4,v] c=.ok (.nx [O T,O ζ,O (.int q),O (.lst l),a4,v']) c'):
  sC [O T,O ζ,O (.int q),O (.lst l),a4,v] c=.ok (.nx [O T,O ζ,O (.int q),O (.lst l),a4,v']) c':=by
 unfold sC;simp only[rm,qZ,cY,dj,gz,gs,cU,R.aN];rw[if_pos ∅]
 exact h
theorem YN{os:List Nat}(hn:os.Nodup)(hm:os.length=m)(hm':m<1000)(f:Nat->Nat->Bool){c:aa}(hlt:∀x∈os,x<m)(hi:i<m)(v:Option D):
  ∃v',sC [O (bC m f),O (.tup (nD os)),O ↥m,O (.lst (c8 c.length m)),O (.int i),v] (c++d7 m (eZ os f i 0))=.ok (.nx [O (bC m f),O (.tup (nD os)),O ↥m,O (.lst (c8 c.length m)),O (.int i),v']) (c++d7 m (eZ os f (i+1) 0)):=by
 obtain⟨v',hf⟩:=OX (g:=aC 5) (s:=vg) (λk=>c++d7 m (eZ os f i k)) (λ_ v=>[O (bC m f),O (.tup (nD os)),O ↥m,O (.lst (c8 c.length m)),O (.int i),v]) (N:=(m:Int)) (n:=m) rfl v (λk hk v=>by
  exact⟨_,rfl,O (.int k),YQ hn hm f hlt hi hk (O ↥m)⟩)
 have e:eZ os f i m=eZ os f (i+1) 0:=by
  funext a b
  rw[<-hm];exact YJ f i a b
 rw[e]at hf;exact⟨v',YO ∅ hf⟩
theorem len_tab(m:Nat)(f:Nat->Nat->Bool)(c:aa):aR [bC m f] c=.ok ↥m c:=by
 unfold aR bC;simp[fV]
theorem YM{W:D}{s1 s2:ah}(e0:s0 [O T,O ζ,U,U,U,U] c=.ok (.nx [O T,O ζ,O (.int q),U,U,U]) c)(e1:s1 [O T,O ζ,O (.int q),U,U,U] c=.ok (.nx [O T,O ζ,O (.int q),O (.lst l),U,U]) c1)(e2:s2 [O T,O ζ,O (.int q),O (.lst l),U,U] c1=.ok (.nx [O T,O ζ,O (.int q),O (.lst l),v,w]) c2)(e3:s3 [O T,O ζ,O (.int q),O (.lst l),v,w] c2=.ok (.rt (.lst l)) c2)(hx:lV c.length (.lst l) c2=.ok W c):
  nc 6 (aD s0 (aD s1 (aD s2 s3))) [T,ζ] c=.ok W c:=by
 rw[Co];have es:bW 6 [T,ζ]=[O T,O ζ,U,U,U,U]:=rfl;rw[es,fm e0,fm e1,fm e2,e3];exact hx
theorem YK(b1:-4611686018427387904<=q/\q<4611686018427387904)(hl:(aV 0 q).length<Ω)(hc:bN (λ_=>True) (aC 0) aY qz (aV 0 q) [U,O (.int q)] [] c=.ok l c'):
  (aI 3 (aU (bK ⇑2) [U,O 2] (aC 0) aY (av nR (eW (ao (dC (.bl ξ)) aq)) (ak 1)))) [O T,O ζ,O (.int q),U,U,U] c=.ok (.nx [O T,O ζ,O (.int q),O (.lst l),U,U]) c':=by
 unfold qz at hc;simp only[qY,nC,qZ,cY,dj,gz,gs,cU,R.aN];rw[if_pos ∅]
 simp only[R.aN];rw[if_pos hl];have:fq [U,O 2] [O T,O ζ,O (D.int q),U,U,U]=[U,O (.int q)]:=rfl;rw[this,hc];rfl
theorem YL(b:-4611686018427387904<=q/\q<4611686018427387904)(h:bU (λ_=>True) (aC 4) sC (aV 0 q) [O T,O ζ,O (.int q),O (.lst l),U,U] c=.ok (.nx [O T,O ζ,O (.int q),O (.lst l),u,v]) c'):
  (bT (bK ⇑2) (aC 4) sC) [O T,O ζ,O (.int q),O (.lst l),U,U] c=.ok (.nx [O T,O ζ,O (.int q),O (.lst l),u,v]) c':=by
 simp only[rm,qZ,cY,dj,gz,gs,cU,R.aN];rw[if_pos ∅]
 exact h
theorem DQ{os:List Nat}(hp:os.Perm (η m))(hm:m<1000)(f:Nat->Nat->Bool)(c:aa):n8 [bC m f,.tup (nD os)] c=.ok (bC m (eZ os f m 0)) c:=by
 have hs:=cZ (n:=1000) ⋯
 have hn:os.Nodup:=hp.nodup_iff.mpr Ru;have hl:os.length=m:=by have:=hp.length_eq;simpa using this
 have hrl:(aV 0 (m:Int)).length=m:=by rw[jt];omega
 have hc:=FT (q:=(m:Int)) (m:=m) rfl hm (aV 0 (m:Int)) U [] c;rw[hrl,RC]at hc;have hg:(η m).map (λ_=>Cell.lst ((η m).map λ_=>D.bl ξ))=d7 m (eZ os f 0 0):=by
  unfold d7 cA;refine RV λi _=>?_
  congr 1
  refine RV λk _=>?_
  simp[eZ]
 rw[hg]at hc;obtain⟨v',hf⟩:=OX (α:=Option D×Option D) (g:=aC 4) (s:=sC) _ (λ_ v=>[O (bC m f),O (.tup (nD os)),O ↥m,O (.lst (c8 c.length m)),v.1,v.2]) (N:=(m:Int)) (n:=m) rfl (U,U) (λi hi v=>by
  obtain⟨w,hw⟩:=YN hn hl hm f (λx hx=>dD.mp (hp.mem_iff.mp hx)) hi v.2 (c:=c)
  exact⟨_,rfl,(O (.int i),w),hw⟩)
 have e0:(aI 2 (aJ aR ⇑0)) [O (bC m f),O (.tup (nD os)),U,U,U,U] c=.ok (.nx [O (bC m f),O (.tup (nD os)),O ↥m,U,U,U]) c:=by
  have:=len_tab m f c;simp[this]
 have hb:Bp=aD _ (aD _ _):=rfl;exact YM e0 (YK ∅ (by rw[hrl];omega) hc) (YL ∅ hf) rfl (Fv c m _)
def AV:af:=(aJ sP ⇑0)
theorem PV(m:Nat)(f:Nat->Nat->Bool):∀(l:List Nat) (v:Option D) (acc:List D) (c:aa),bN (λ_=>True) (aC 0) aY AV (l.map λi=>.lst (cA m f i)) [v] acc c=.ok (acc++c8 c.length l.length) (c++l.map λi=>.lst (cA m f i))
 |[],v,acc,c=>by simp[c8]
 |i::l,v,acc,c=>by
  rw[Q8,pq];have h1:aC 0 _ [v] c=.ok [O (.lst (cA m f i))] c:=rfl;have h2:AV [O (.lst (cA m f i))] c=.ok (.ref c.length) (c++[.lst (cA m f i)]):=by
   unfold AV;simp;unfold sP;dsimp only[fV];rw[if_pos (C1 m f i)]
  rw[h1,R.aN,ue,R.aN,if_pos rfl,h2,R.aN,PV m f l];have e1:acc++[D.ref c.length]++c8 (c++[Cell.lst (cA m f i)]).length l.length=acc++c8 c.length (i::l).length:=by
   rw[SE,Rq,RG,Tz]
   congr 1
   unfold c8;rw[RG,V0,Q8,R3];simp only[UM,RC,UT]
   congr 1
   refine RV λr _=>?_
   congr 1;omega
  rw[e1,SE];rfl
def uy(f:Nat->Nat->Bool)(a b:Nat):Nat->Nat->Bool:=gf (gf f a b (!f a b)) b a (!gf f a b (!f a b) b a)
theorem abH(f:Nat->Nat->Bool)(c:aa)(ha:a<m)(hb:b<m):aH (.ref (c.length+a)) ↥b (c++d7 m f)=.ok (.bl (f a b)) (c++d7 m f):=by
 unfold aH fV;dsimp only;rw[E6 f c ha];dsimp only;rw[yy f a hb]
theorem Ja{m a b:Nat}(f:Nat->Nat->Bool){c:aa}{i j:Nat}{a0:Option D}{e:Ev}(he:e[3]? = O (O (.lst (c8 c.length m))))(hi:e[i]? = O (O ↥a))(hj:e[j]? = O (O ↥b))(ha:a<m)(hb:b<m) :
  jZ (o9 (av aH (av aH (ak 3) (ak i)) (ak j))) (ko (av aH (ak 3) (ak i)) (ak j)) e (c++d7 m f)=.ok (.nx e) (c++d7 m (gf f a b (!f a b))):=by
 have h1:∀c',aH _ _ c'=.ok (.ref (c.length+a)) c':=λc'=>by rw[jT,yF ha]
 simp only[Cr,aho,iw,dj,he,hi,hj,R.aN,h1,(abH f c ha hb),Cn,(zQ f (!f a b) c ha hb)]
theorem ahS(ha:a<m)(hb:b<m)(hm:m<1000)(f:Nat->Nat->Bool)(c:aa):vz [bC m f,.int (a:Int),.int (b:Int)] c=.ok (bC m (uy f a b)) c:=by
 have hs:=cZ (n:=1000) ⋯
 have hc:=PV m f (η m) U [] c;rw[Sb,RC]at hc;have hb':Bg=aD _ _:=rfl;have e0:(aI 3 (aU (cj (ak 0)) [U] (aC 0) aY (aJ sP ⇑0))) [O (bC m f),O ↥a,O ↥b,U] c=.ok (.nx [O (bC m f),O ↥a,O ↥b,O (.lst (c8 c.length m))]) (c++d7 m f):=by
  unfold AV at hc;rw[qY,nC];unfold cj bC;simp only[dj,gz,R.aN];rw[if_pos (by rw[P0,Sb];omega)]
  have:∀T A B:Option D,fq [U] [T,A,B,U]=[U]:=λ_ _ _=>rfl
  rw[this,hc];rfl
 have e1:=Ja f (c:=c) (m:=m) (i:=1) (j:=2) (a0:=U) (e:=[O (bC m f),O ↥a,O ↥b,O (.lst (c8 c.length m))]) rfl rfl rfl ha hb;have e2:=Ja (gf f a b (!f a b)) (c:=c) (m:=m) (i:=2) (j:=1) (a0:=U) (e:=[O (bC m f),O ↥a,O ↥b,O (.lst (c8 c.length m))]) rfl rfl rfl hb ha;rw[vz,hb',Co];have es:bW 4 [bC m f,.int (a:Int),.int (b:Int)]=[O (bC m f),O ↥a,O ↥b,U]:=rfl;rw[es,fm e0,fm e1,fm e2];exact Fv c m (uy f a b)
def fD(f:Nat->Nat->Bool):Nat->Nat->Bool:=λi k=>!decide (i=k) && !f i k
def tW:af:=(pe (av cz (ak 1) (ak 0)) (o9 (av aH (av aH (ak 2) (ak 1)) (ak 0))))
def qI:af:=aU (bK ⇑1) [U,O 0,O 2] (aC 0) aY tW
theorem Pe(l:List D):l.filter (λ_=>J)=l:=by simp
theorem KP{β:Type}(m:Nat)(F:D->β):(aV 0 (m:Int)).map F=(η m).map λi:Nat=>F ↥i:=by
 unfold aV;rw[R3,show((m:Int)-0).toNat=m by omega]
 refine RV λi _=>?_
 simp
theorem aem{m i:Nat}(f:Nat->Nat->Bool)(hi:i<m)(c:aa):bN (λ_=>True) (aC 0) aY tW (aV 0 (m:Int)) [U,O ↥i,O (bC m f)] [] c=.ok (cA m (fD f) i) c:=by
 have h1:∀c',aH (bC m f) (.int _) c'=.ok (.lst (cA m f i)) c':=λc'=>by unfold bC;rw[jT,Jc f hi]
 have:=wU (c:=c) (g:=aC 0) (t:=aY) (a:=tW) (λe=>∃v,e=[v,O (.int i),O (bC m f)]) (λ_=>J) (λd=>match d with|.int k=>.bl (fD f i k.toNat)|d=>d) (aV 0 m) [U,O (.int i),O (bC m f)] [] ⟨_,rfl⟩ (λd hd e ⟨v,he⟩=>by
  subst he;obtain⟨k',rfl,k0,k1⟩:=jw hd;obtain⟨k,rfl⟩:=nZ k0;have h2:∀c',aH (.lst (cA m f i)) (.int k) c'=.ok (.bl (f i k)) c':=λc'=>by rw[jT,yy f i ∅]
  refine⟨_,rfl,⟨_,rfl⟩,rfl,λ_=>?_⟩
  show tW [O (.int k),O (.int i),O (bC m f)] c=_
  generalize bC m f=T at *
  unfold tW
  by_cases e:i=k
  ·subst e;simp[fD]
  ·have e':¬(i:Int)=k:=∅
   simp[e',fD,e,h1,h2])
 rw[this,RC,Pe,KP]
 congr 1
theorem aeo{q i:Int}{T a0:Option D}{c:aa}{l:List D}(b:-4611686018427387904<=q/\q<4611686018427387904)(hl:(aV 0 q).length<Ω)(h:bN (λ_=>True) (aC 0) aY tW (aV 0 q) [U,O (.int i),T] [] c=.ok l c):qI [O (.int i),O (.int q),T] c=.ok (.lst l) c:=by
 unfold qI;simp;rw[if_pos ∅]
 simp;rw[if_pos hl];have:fq [U,O 0,O 2] [O (D.int i),O (.int q),T]=[U,O (.int i),T]:=by cases T<;>rfl
 rw[this,h];rfl
theorem ael{m:Nat}(f:Nat->Nat->Bool)(hm:m<1000)(c:aa):bN (λ_=>True) (aC 0) aY qI (aV 0 (m:Int)) [U,O ↥m,O (bC m f)] [] c=.ok ((η m).map λi=>.lst (cA m (fD f) i)) c:=by
 have hs:=cZ (n:=1000) ⋯
 have:=wU (g:=aC 0) (t:=aY) (a:=qI) (λe=>∃v,e=[v,O _,O (bC m f)]) (λ_=>J) (λd=>match d with|.int k=>.lst (cA m _ k.toNat)|d=>d) (aV 0 m) [U,O ↥m,O _] [] ⟨_,rfl⟩ (λd hd e ⟨v,he⟩=>by
  subst he;obtain⟨k',rfl,k0,k1⟩:=jw hd;obtain⟨k,rfl⟩:=nZ k0;refine⟨_,rfl,⟨_,rfl⟩,rfl,λ_=>?_⟩
  exact aeo (a0:=U) ∅ (by rw[jt];omega) (aem f ∅ c))
 rw[this,RC,Pe,KP]
 congr 1
theorem aen(b:-4611686018427387904<=q/\q<4611686018427387904)(hl:(aV 0 q).length<Ω)(hn:aR [T] c=.ok (.int q) c)(h:bN (λ_=>True) (aC 0) aY qI (aV 0 q) [U,O (.int q),O T] [] c=.ok l c)(nr:bF l=J):sJ [T] c=.ok (.lst l) c:=by
 have hb:Br=aD _ (aP (aU _ [U,O 1,O 0] _ aY qI)):=rfl;have e1:(aP (aU (bK ⇑1) [U,O 1,O 0] (aC 0) aY qI)) [O T,O (.int q)] c=.ok (.rt (.lst l)) c:=by
  simp;rw[if_pos ∅]
  simp;rw[if_pos hl];have:fq [U,O 1,O 0] [O T,O _]=[U,O (.int q),O T]:=rfl;rw[this,h];rfl
 have e0:(aI 1 (aJ aR ⇑0)) [O T,U] c=.ok (.nx [O T,O (.int q)]) c:=by simp[hn]
 rw[sJ,iN,hb];have es:bW 2 [T]=[O T,U]:=rfl;rw[es,fm e0,e1];have lF:noRef (.lst l)=J:=nr;simp only[R.aN];unfold cD;dsimp only;rw[if_pos lF,Rg]
theorem aej(f:Nat->Nat->Bool)(hm:m<1000)(c:aa):sJ [bC m f] c=.ok (bC m (fD f)) c:=by
 have hs:=cZ (n:=1000) ⋯
 refine aen ∅ (by rw[jt];omega) (len_tab m f c) (ael f hm c) (iC.mpr λd hd=>?_)
 obtain⟨i,_,rfl⟩:=AP.mp hd;exact C1 m _ i
def bu(m:Nat)(f:Nat->Nat->Bool)(i:Nat):List Nat:=(η m).filter λk=>f i k
def rQ(m:Nat)(f:Nat->Nat->Bool):D:=.tup ((η m).map λi=>.tup (nD (bu m f i)))
def rR:ai:=(aG (av aH (ak 1) (ak 0)))
theorem aiS{m i:Nat}(f:Nat->Nat->Bool)(c:aa):bN (λ_=>True) (aC 0) rR (ak 0) (aV 0 (m:Int)) [U,O (.lst (cA m f i))] [] c=.ok (nD (bu m f i)) c:=by
 have:=wU (c:=c) (g:=aC 0) (t:=rR) (a:=ak 0) (λe=>∃v,e=[v,O (.lst (cA m f i))]) (λd=>match d with|.int k=>f i k.toNat|_=>ξ) id (aV 0 (m:Int)) [U,O (.lst (cA m f i))] [] ⟨_,rfl⟩ (λd hd e ⟨v,he⟩=>by
  subst he;obtain⟨k',rfl,k0,k1⟩:=jw hd;obtain⟨k,rfl⟩:=nZ k0;have h2:aH (.lst (cA m f i)) ↥k c=.ok (.bl (f i k)) c:=by rw[jT,yy f i ∅]
  refine⟨_,rfl,⟨_,rfl⟩,?_,λ_=>rfl⟩
  show rR [O ↥k,O (.lst (cA m f i))] c=_;unfold rR;simp only[Cq,iw,dj,gz,gs,R.aN,h2,Ss])
 rw[this,RC,List.map_id]
 congr 1
 unfold aV bu nD;rw[XO,show((m:Int)-0).toNat=m by omega]
 have e:((λd:D=>match d with|.int k=>f i k.toNat|_=>ξ) ∘ λk:Nat=>D.int (0+(k:Int)))=λk=>f i k:=by
  funext k
  simp
 rw[e];refine RV λk _=>?_
 simp
def rS:af:=(aJ eT (ao (aU (bK (ao (aJ aR ⇑1) aq)) [U,O 0] (aC 0) (aG (av aH (ak 1) (ak 0))) (ak 0)) aq))
theorem aiT(hn:aR [T] c=.ok (.int q) c)(b:-4611686018427387904<=q/\q<4611686018427387904)(hl:(aV 0 q).length<Ω)(h:bN (λ_=>True) (aC 0) rR (ak 0) (aV 0 q) [U,O (.lst r)] [] c=.ok l c):
  rS [O (.lst r),O T] c=.ok (.tup l) c:=by
 unfold rR at h;unfold rS;simp only[rq,cY,nC,qZ,dj,gz,gs,cU,R.aN,hn];rw[if_pos ∅]
 simp only[R.aN];rw[if_pos hl];have:fq [U,O 0] [O (D.lst r),O T]=[U,O (.lst r)]:=rfl;rw[this,h];rfl
theorem aiV(f:Nat->Nat->Bool)(hm:m<1000)(c:aa):bN (λ_=>True) (aC 0) aY rS ((η m).map λi=>.lst (cA m f i)) [U,O (bC m f)] [] c=.ok ((η m).map λi=>.tup (nD (bu m f i))) c:=by
 have hs:=cZ (n:=1000) ⋯
 have hlen:=len_tab m f c;have key:∀(l:List Nat) (v:Option D) (acc:List D),bN (λ_=>True) (aC 0) aY rS (l.map λi=>.lst (cA m f i)) [v,O (bC m f)] acc c=.ok (acc++l.map λi=>.tup (nD (bu m f i))) c:=by
  intro l
  induction l with
  |nil=>intro v acc;simp
  |cons i l ih =>
   intro v acc;have h1:aC 0 _ [v,O (bC m f)] c=.ok [O (.lst (cA m f i)),O (bC m f)] c:=rfl;rw[Q8,pq,h1,R.aN,ue,R.aN,if_pos rfl,(aiT hlen ∅ (by rw[jt];omega) (aiS f c)),R.aN,ih,SE]
   rfl
 have:=key (η m) U []
 rwa[RC]at this
theorem C0(f:Nat->Nat->Bool)(hm:m<1000)(c:aa):jy [bC m f] c=.ok (rQ m f) c:=by
 have hs:=cZ (n:=1000) ⋯
 have h:=aiV f hm c;have hb:Bk=aP (aJ eT (ao (aU _ [U,O 0] (aC 0) aY rS) aq)):=rfl;rw[jy,iN,hb];have es:bW 1 [bC m f]=[O (bC m f)]:=rfl;have nr:noRef (rQ m f)=J:=by
  refine iC.mpr λd hd=>?_
  obtain⟨i,_,rfl⟩:=AP.mp hd;exact j7 _
 have e1:(aP (aJ eT (ao (aU (cj (ak 0)) [U,O 0] (aC 0) aY rS) aq))) [O (bC m f)] c=.ok (.rt (rQ m f)) c:=by
  have hd:cj (ak 0) [O (bC m f)] c=.ok ⟨(η m).map λi=>.lst _,λ_=>True⟩ c:=rfl
  have hp:fq [U,O 0] [O (bC m f)]=[U,O (bC m f)]:=rfl;simp only[rj,rq,cY,nC,hd,cU,R.aN];rw[if_pos (by rw[P0,Sb];omega),hp,h]
  rfl
 rw[es,e1];simp;unfold rQ at nr ⊢;unfold cD;dsimp only;rw[if_pos nr,Rg]
def pG(m:Nat)(ps:List (Nat×Nat)):Prop:=∀p∈ps,p.1<m/\p.2<m/\p.1≠p.2
def gU(f:Nat->Nat->Bool):Prop:=(∀i,f i i=ξ)/\∀i k,f i k=f k i
theorem Z1(h:pG m ps):gU (jh ps):=by
 refine⟨λi=>?_,λi k=>?_⟩
 ·unfold jh;rw[Xh];intro p hp;have:=(h p hp).2.2;simp only[SD,RT,beq_iff_eq];omega
 ·unfold jh
  congr 1
  funext p
  rw[Bool.or_comm]
  congr 1<;>rw[Uy]
theorem aek{f:Nat->Nat->Bool}(h:gU f):gU (fD f):=by
 refine⟨λi=>by simp[fD],λi k=>?_⟩
 unfold fD;rw[h.2 i k]
 congr 2
 exact decide_eq_decide.mpr ⟨Eq.symm,Eq.symm⟩
theorem ah0{f:Nat->Nat->Bool}(h:gU f)(hab:a≠b):gU (uy f a b):=by
 have e:∀i k,uy f a b i k=if(i=b/\k=a)\/(i=a/\k=b)then !f a b else f i k:=λi k=>by
  unfold uy;have e1:gf f a b (!f a b) b a=f a b:=by
   unfold gf;rw[if_neg (λz=>hab z.2),h.2 b a]
  rw[e1];unfold gf
  by_cases h1:i=b/\k=a
  ·rw[if_pos h1,if_pos (.inl h1)]
  ·rw[if_neg h1]
   by_cases h2:i=a/\k=b
   ·rw[if_pos h2,if_pos (.inr h2)]
   ·rw[if_neg h2,if_neg (λz=>z.elim h1 h2)]
 refine⟨λi=>?_,λi k=>?_⟩
 ·rw[e,if_neg ∅,h.1 i]
 ·rw[e,e,h.2 i k]
  by_cases h1:(i=b/\k=a)\/(i=a/\k=b)
  ·rw[if_pos h1,if_pos ∅]
  ·rw[if_neg h1,if_neg ∅]
theorem DO{f:Nat->Nat->Bool}(h:gU f){os:List Nat}(hm:os.length=m):gU (eZ os f m 0):=by
 have e:∀a b,eZ os f m 0 a b=if os.idxOf a<m/\os.idxOf b<m then f (os.idxOf a) (os.idxOf b)else ξ:=λa b=>by
  unfold eZ;rw[hm]
  by_cases h1:os.idxOf a<m
  ·rw[if_pos (.inl h1)]
   by_cases h2:os.idxOf b<m
   ·rw[if_pos h2,if_pos ⟨h1,h2⟩]
   ·rw[if_neg h2,if_neg (λz=>h2 z.2)]
  ·rw[if_neg ∅,if_neg (λz=>h1 z.1)]
 refine⟨λi=>?_,λi k=>?_⟩
 ·rw[e,h.1];simp
 ·rw[e,e,h.2]
  by_cases h1:os.idxOf i<m/\os.idxOf k<m
  ·rw[if_pos h1,if_pos ⟨h1.2,h1.1⟩]
  ·rw[if_neg h1,if_neg (λz=>h1 ⟨z.2,z.1⟩)]
theorem Ym(ps:List (Nat×Nat)):bF (ps.map bh)=J:=iC.mpr λd hd=>by
 obtain⟨p,_,rfl⟩:=AP.mp hd;rfl
def W{α:Type}(r:R α)(Q:α->aa->Prop):Prop:=∃a c,r=.ok a c/\Q a c
theorem aW{α:Type}{a:α}{Q:α->aa->Prop}:W (.ok a c) Q↔Q a c:=Iff.intro (λh=>by obtain⟨_,_,e,q⟩:=h;cases e;exact q) λq=>⟨a,c,rfl,q⟩
theorem bI{α β:Type}{r:R α}{f:α->aa->R β}{Q:β->aa->Prop}:W (r.bind f) Q↔W r λa c=>W (f a c) Q:=by
 cases r with
 |ok a c=>rw[R.aN,aW]
 |bad=>exact Iff.intro (λh=>by obtain⟨_,_,e,_⟩:=h;cases e) λh=>by obtain⟨_,_,e,_⟩:=h;cases e
theorem W.imp{α:Type}{r:R α}{Q Q':α->aa->Prop}(h:W r Q)(k:∀a c,Q a c->Q' a c):W r Q':=let⟨a,c,e,q⟩:=h;⟨a,c,e,k a c q⟩
theorem eX{α:Type}{p:Prop}[Decidable p]{r s:R α}{Q:α->aa->Prop}(h:p)(q:W r Q):W (if p then r else s) Q:=by rw[if_pos h];exact q
def Nx(I:Ev->aa->Prop):Fl->aa->Prop:=λf c=>∃e,f=.nx e/\I e c
theorem Nx.of{I:Ev->aa->Prop}(h:I e c):Nx I (.nx e) c:=⟨e,rfl,h⟩
theorem Ip(inv:Nat->Ev->aa->Prop){Q:Fl->aa->Prop}:∀(items:List D) (k:Nat) {e:Ev}{c:aa},inv k e c ->
  (∀i x e c,items[i]? = O x->inv (k+i) e c->W (g x e c) λe c=>W (s e c) (Nx (inv (k+i+1))))->(∀e c,inv (k+items.length) e c->Q (.nx e) c)->W (bU (λ_=>True) g s items e c) Q
 |[],k,e,c,h,_,q=>by rw[ab1,aW];exact q e c h
 |x::xs,k,e,c,h,st,q=>by
  rw[kr,bI];refine(st 0 x e c rfl h).imp λe c h=>?_
  rw[bI];refine h.imp λf c ⟨e',hf,h⟩=>?_
  subst hf;refine Ip inv xs _ h (λi y e c hy=>?_) λe c h=>q e c (by rw[RG,show k+_=k+1+xs.length by omega];exact h)
  rw[show k+1+i=k+(i+1) by omega]
  exact st (i+1) y e c hy
theorem Io(inv:Nat->Ev->aa->Prop){Q:Fl->aa->Prop}{items:List D}(h:inv 0 e c)(st:∀(I:Ev->aa->Prop) i x e c,items[i]? = O x->inv i e c->(∀e c,inv (i+1) e c->I e c)->W (g x e c) λe c=>W (s e c) (Nx I))(q:∀e c,inv items.length e c->Q (.nx e) c):W (bU (λ_=>True) g s items e c) Q :=
 Ip inv items 0 h (λi x e c hx h=>by rw[R6]at h ⊢;exact st _ i x e c hx h λ_ _ h=>h) (by rw[R6];exact q)
theorem uo(inv:Nat->Ev->aa->Prop){Q:Fl->aa->Prop}{items:List D}(h:inv 0 e c)(st:∀(I:Ev->aa->Prop) i x e c,i<items.length->x∈items->inv i e c->(∀e c,inv (i+1) e c->I e c)->W (g x e c) λe c=>W (s e c) (Nx I))(q:∀e c,inv items.length e c->Q (.nx e) c):W (bU (λ_=>True) g s items e c) Q :=
 Io inv h (λI i x e c hx=>st I i x e c (Q9.mp hx).1 (R7 hx)) q
theorem pM(inv:List D->aa->Prop){Q:List D->aa->Prop}:∀{items:List D}{v:Option D}{acc:List D}{c:aa},inv acc c ->
  (∀(Γ:List D->aa->Prop) x acc c,x∈items->inv acc c->(∀l c,inv l c->Γ l c)->W (t (O x::E) c) λb c=>if b=J then W (a (O x::E) c) λd c=>Γ (acc++[d]) c else Γ acc c)->(∀l c,inv l c->l.length<=acc.length+items.length->Q l c)->W (bN (λ_=>True) (aC 0) t a items (v::E) acc c) Q
 |[],v,acc,c,h,_,q=>by
  unfold bN;rw[if_pos trivial,aW];exact q acc c h (x6 _)
 |x::xs,v,acc,c,h,st,q=>by
  rw[pq,show aC 0 x _ c=.ok _ c from rfl,R.aN,bI]
  refine(st inv x acc c (.head _) h λ_ _ h=>h).imp λb c h=>?_
  cases b with
  |true =>
   rw[if_pos rfl]at h ⊢;rw[bI];exact h.imp λd c h=>pM inv h (λΓ y acc c hy=>st Γ y acc c (.tail _ hy)) λl c hl hn=>q l c hl (by simp at hn ⊢;omega)
  |false =>
   exact pM inv h (λΓ y acc c hy=>st Γ y acc c (.tail _ hy)) λl c hl hn=>q l c hl (by simp at hn ⊢;omega)
theorem pL{Q:D->aa->Prop}(h:dI j n c)(h0:0<gq)(h1:gq<1073741824)(q:∀x c',0<=x->x<gq->dI j n c'->Q (.int x) (c'++t)):W (fy [.ref j,.int gq] (c++t)) Q:=by
 obtain⟨hl,hj,p,hp⟩:=id h;refine⟨_,_,take2 (by rw[RY ∅];exact hp) h0 h1,?_⟩
 rw[List.set_append_left _ _ ∅]
 exact q _ _ (UL _ ∅) (UK _ h0) (h.set _)
def PR(m:Int)(l:List D):Prop:=∀d∈l,∃a b:Int,d=.tup [.int a,.int b]/\0<=a/\a<m/\0<=b/\b<m/\a≠b
theorem PR.nil(m:Int):PR m []:=λd h=>by cases h
theorem PR.app(h:PR m l)(k:PR m r):PR m (l++r):=λd hd=>(RI.mp hd).elim (h d) (k d)
theorem PR.snoc(h:PR m l)(h1:0<=a)(h2:a<m)(h3:0<=b)(h4:b<m)(h5:a≠b):PR m (l++[.tup [.int a,.int b]]):=h.app λd hd=>by
 rw[RE]at hd;exact⟨a,b,hd,h1,h2,h3,h4,h5⟩
theorem PR.DA(h:PR m l):bF l=J:=iC.mpr λd hd=>by
 obtain⟨a,b,rfl,_⟩:=h d hd;rfl
theorem PR.nat{m:Nat}:∀{l:List D},PR m l->∃ps,l=ps.map bh/\pG m ps
 |[],_=>⟨[],rfl,λp h=>by cases h⟩
 |d::l,h=>by
  obtain⟨ps,rfl,hp⟩:=PR.nat λx hx=>h x (.tail _ hx)
  obtain⟨a,b,rfl,h1,h2,h3,h4,h5⟩:=h d (.head _);refine⟨(a.toNat,b.toNat)::ps,by simp[bh,Vy h1,Vy h3],λp qu=>?_⟩
  rcases Bt.mp qu with rfl|qu
  ·exact⟨∅,∅,∅⟩
  ·exact hp p qu
theorem w_any(h:∀d∈l,∃b,d=.bl b)(c:aa):∃b,xy [.lst l] c=.ok (.bl b) c:=by
 obtain⟨bs,rfl⟩:∃bs:List Bool,l=bs.map D.bl:=by
  induction l with
  |nil=>exact⟨[],rfl⟩
  |cons d l ih =>
   obtain⟨bs,hb⟩:=ih λx hx=>h x (.tail _ hx)
   obtain⟨b,rfl⟩:=h d (.head _);exact⟨b::bs,by rw[hb];rfl⟩
 refine⟨bs.any id,?_⟩;unfold xy p7;dsimp only;rw[Gb]
theorem NP(l:List Int)(y:Int)(c:aa):∃b,inD (.int y) (.lst (l.map D.int)) c=.ok (.bl b) c:=by
 have hd:∀l:List Int,f6 (l.map D.int)=O (l.map PyData.int):=λl=>by
  induction l with
  |nil=>rfl
  |cons a l ih=>rw[Q8];unfold f6;rw[ih];rfl
 refine⟨(l.map PyData.int).any λz=>z.eqv (.int y),?_⟩
 unfold inD e8 dM;simp[hd,PyData.depth]
theorem gC(a b:Int):(aV a b).length=(b-a).toNat:=by simp[aV]
theorem pW:1000000<Ω:=⋯
theorem DH{q:Int}{Q:D->aa->Prop}(hX:∀t,fV (c++t) X=O (gY M))(hM:q<=M.length)(hs:∀l∈M,l.length<1000)(hm:q<64)(N5:0<=q)(hQ:∀l,PR q l->Q (.lst l) c):W (vA [.int q,X] c) Q:=by
 have sz:=pW;have hix:∀(i:Int) (t:aa),0<=i->i<q->∃l:List Int,l.length<1000/\aH X (.int i) (c++t)=.ok (.lst (l.map D.int)) (c++t):=λi t i0 i1=>by
  obtain⟨k,rfl⟩:=nZ i0;have hk:k<M.length:=∅
  refine⟨M[k],hs _ (RA hk),?_⟩;unfold aH;dsimp only;rw[hX t];dsimp only;rw[ku (j:=k) (v:=.lst (M[k].map D.int)) (by simp[gY,hk])]
 simp[vA,Bo,bI,aW];refine eX ∅ (aW.mpr (uo (λi e c'=>∃l v3 v4,e=[O (.int q),O X,O (.ref c.length),v3,v4]/\c'=c++[.lst l]/\PR q l/\l.length<=64*i) ⟨[],U,U,rfl,rfl,PR.nil q,by simp⟩ ?_ ?_))
 ·rintro I i x e c' hi hx ⟨l,v3,v4,rfl,rfl,hl,hn⟩ hI
  obtain⟨a,rfl,a0,a1⟩:=jw hx;simp[bI,aW,gC]at hi ⊢;refine eX ∅ (aW.mpr (uo (λk e c'=>∃l v4,e=[O (.int q),O X,O (.ref c.length),O (.int a),v4]/\c'=c++[.lst l]/\PR q l/\l.length<=64*i+k) ⟨l,v4,rfl,rfl,hl,∅⟩ ?_ ?_))
  ·rintro Γ k y e c' hk hy ⟨l,v4,rfl,rfl,hl,hn⟩ hJ
   obtain⟨b,rfl,b0,b1⟩:=jw hy;obtain⟨ra,ha1,ha⟩:=hix a [.lst l] a0 a1;obtain⟨rb,hb1,hb⟩:=hix b [.lst l] ∅ b1
   simp[bI,aW,ha,gC]at hk ⊢;refine eX ∅ ?_
   rw[bI];refine pM (λz c'=>c'=c++[.lst l]/\∀d∈z,∃b,d=.bl b) ⟨rfl,λd h=>by cases h⟩ ?_ ?_
   ·rintro K x z c' hx ⟨rfl,hz⟩ hK
    obtain⟨y,-,rfl⟩:=AP.mp hx;obtain⟨u,hu⟩:=NP rb y (c++[.lst l]);simp[bI,aW,hb,hu];exact hK _ _ ⟨rfl,λd hd=>(RI.mp hd).elim (hz d) λh=>⟨u,RE.mp h⟩⟩
   ·rintro z c' ⟨rfl,hz⟩ -
    obtain⟨u,hu⟩:=w_any hz (c++[.lst l]);have h3:l.length<Ω:=∅
    cases u<;>simp[bI,aW,hu,qD,∅,h3]
    ·exact .of (hJ _ _ ⟨l,_,rfl,rfl,hl,∅⟩)
    ·exact .of (hJ _ _ ⟨_,_,rfl,rfl,hl.snoc a0 a1 ∅ b1 ∅,by simp;omega⟩)
  ·rintro e c' ⟨l,v4,rfl,rfl,hl,hn⟩
   exact .of (hI _ _ ⟨l,_,v4,rfl,rfl,hl,by simp[gC]at hn;omega⟩)
 ·rintro e c' ⟨l,v3,v4,rfl,rfl,hl,hn⟩
  simp[aW,cD];exact hQ l hl
theorem aaQ(m:Nat)(f:Nat->Nat->Bool):noRef (bC m f)=J:=by
 refine iC.mpr λd hd=>?_
 obtain⟨i,_,rfl⟩:=AP.mp hd;exact C1 m f i
theorem Ft(m:Nat)(f:Nat->Nat->Bool)(n:Nat)(c:aa):cD ξ n (bC m f) c=.ok (bC m f) (c.take n):=by
 have nr:=aaQ m f;unfold bC at nr ⊢;unfold cD;dsimp only;rw[if_pos nr]
theorem pG.isIn(h:pG m ps):HF m ps:=λp hp=>⟨(h p hp).1,(h p hp).2.1⟩
theorem Im{Q:D->aa->Prop}(h0:0<=q)(h1:q<1000)(hl:PR q l)(hX:(∃k,X=.ref k/\c[k]? = O (.lst l))\/X=.lst l)(hQ:∀(m:Nat) ps,q=m->pG m ps->Q (bC m (jh ps)) c):W (vB [.int q,X] c) Q:=by
 obtain⟨m,rfl⟩:=nZ h0;obtain⟨ps,rfl,hp⟩:=hl.nat;exact⟨_,_,Z0 hp.isIn ∅ hX,hQ m ps rfl hp⟩
theorem mC{Q:D->aa->Prop}(h:dI j n c)(h0:0<gq)(h1:gq<1073741824)(q:∀x c',0<=x->x<gq->dI j n c'->Q (.int x) c'):W (fy [.ref j,.int gq] c) Q:=by
 have:=pL h h0 h1 λx c' a b p=>by rw[SI];exact q x c' a b p
 rwa[SI]at this
def Ex(n:Nat)(Q:D->aa->Prop):D->aa->Prop:=λv c=>∃z d l,v=.lst z/\c=d++[.lst l]/\d.length=n/\l.length+z.length<=1000000/\bF z=J/\Q .aF (d++[.lst (l++z)])
theorem xY{Q:D->aa->Prop}(h1:dO e c=.ok (.ref n) c)(h:W (da e c) (Ex n Q)):W (gR dO da e c) Q:=by
 have sz:=pW;unfold gR;rw[h1];simp;rw[bI];refine h.imp λv c' hh=>?_
 obtain⟨z,d,l,rfl,rfl,hn,hl,nr,q⟩:=hh;have e1:(d++[Cell.lst l])[n]? = O (.lst l):=by rw[<-hn];simp
 rw[e1];dsimp only;rw[if_pos ⟨∅,nr⟩,aW,<-hn,XR _ _ (x6 _),Tp]
 exact q
theorem ajr{most:Int}{Q:D->aa->Prop}(hP:dI j n c)(h0:0<most)(h1:most<60)(hQ:∀(m:Nat) ps c',1<=m->(m:Int)<=most->pG m ps->dI j n c'->Q (bC m (jh ps)) c'):W (zp [.ref j,.int most] c) Q:=by
 have sz:=pW;have hn:=hP.1;simp[zp,Bj,bI,aW];refine mC hP h0 ∅ λy c1 y0 y1 P1=>?_
 simp[bI,aW];refine mC P1 ⋯ ⋯ λz c2 z0 z1 P2=>?_
 simp[bI,aW];refine eX ∅ (aW.mpr (uo (λi e c'=>∃l d v5,e=[O (.ref j),O (.int most),O (.int (1+y)),O (.int (1+z)),O (.ref c2.length),v5]/\c'=d++[.lst l]/\dI j n d/\PR (1+y) l/\l.length<=60*i) ⟨[],c2,U,rfl,rfl,P2,PR.nil _,by simp⟩ ?_ ?_))
 ·rintro I i x e c' hi hx ⟨l,d,v5,rfl,rfl,P,hl,zH⟩ hI
  obtain⟨a,rfl,a0,a1⟩:=jw hx;simp[gC]at hi;simp[bI,aW];refine xY (n:=c2.length) rfl ?_;simp[bI];refine eX ∅ (aW.mpr (eX (by simp[gC];omega) (bI.mpr (pM (E:=[O (.int a),O (.int (1+z)),O (.ref j)]) (λz c'=>PR (1+y) z/\∃d,c'=d++[.lst l]/\dI j n d) ⟨PR.nil _,d,rfl,P⟩ ?_ ?_))))
  ·rintro Γ x z' c' hx ⟨hz,d,rfl,P⟩ hJ
   obtain⟨b,rfl,b0,b1⟩:=jw hx;have h2:(2:Nat)<=Ω:=∅
   simp[bI,aW];refine pL P ⋯ ⋯ λx d x0 x1 P=>?_
   simp[bI,aW,h2];split
   ·exact hJ _ _ ⟨hz.snoc a0 a1 ∅ b1 ∅,d,rfl,P⟩
   ·exact hJ _ _ ⟨hz,d,rfl,P⟩
  ·rintro z' c' ⟨hz,d,rfl,P⟩ sW
   simp[gC]at sW;rw[aW];exact⟨z',d,l,rfl,rfl,by rw[P.1,P2.1],∅,hz.DA,.of (hI _ _ ⟨_,d,_,rfl,rfl,P,hl.app hz,by simp;omega⟩)⟩
 ·rintro e c' ⟨l,d,v5,rfl,rfl,P,hl,zH⟩
  simp[bI,aW];refine Im ∅ ∅ hl (.inl ⟨_,rfl,by rw[P2.1,<-P.1];simp⟩) λm ps hm hp=>?_
  simp[aW,Ft];rw[XM (by rw[P.1,hn];exact x6 _),T7 (by rw[P.1,hn];exact x6 _)]
  exact hQ m ps d ∅ ∅ hp P
theorem PR.comp{Q:List D->aa->Prop}(a0:0<=a)(a1:a<q)(ht:∀b,∃u,t (O (.int b)::O (.int a)::E) c=.ok u c)(hQ:∀l,PR q l->l.length<=(q-(a+1)).toNat->Q l c):
  W (bN (λ_=>True) (aC 0) t (bX (1⊂0)) (aV (a+1) q) (U::O (.int a)::E) [] c) Q:=by
 refine pM (λz c'=>PR q z/\c'=c) ⟨PR.nil _,rfl⟩ ?_ ?_
 ·rintro Γ x z c' hx ⟨hz,rfl⟩ hJ
  obtain⟨b,rfl,b0,b1⟩:=jw hx;obtain⟨u,hu⟩:=ht b;cases u<;>simp[aW,hu,∅]
  ·exact hJ _ _ ⟨hz,rfl⟩
  ·exact hJ _ _ ⟨hz.snoc a0 a1 ∅ b1 ∅,rfl⟩
 ·rintro z c' ⟨hz,rfl⟩ hn
  exact hQ z hz (by simpa[gC]using hn)
theorem OB{d:aa}{pick:List (Option Nat)}{Q:Fl->aa->Prop}(hn:d.length=n)(q0:0<=q)(q1:q<64)(ht:∀a b c,∃u,t (O (.int b)::O (.int a)::E) c=.ok u c)(hp:∀a,fq pick [v0,v1,v2,O (.int q),O (.ref n),U,U,U,U,O (.int a),U,U,σ]=U::O (.int a)::E)(hQ:∀l v9,PR q l->l.length<=4096->Q (.nx [v0,v1,v2,O (.int q),O (.ref n),U,U,U,U,v9,U,U,σ]) (d++[.lst l])):
  W (bU (λ_=>True) (aC 9) (d9 (gR (ak 4) (aU (fM (ao (av bR (ak 9) (dC (.int 1))) ⇑3)) pick (aC 0) t (bX (1⊂0))))) (aV 0 q) [v0,v1,v2,O (.int q),O (.ref n),U,U,U,U,U,U,U,σ] (d++[.lst []])) Q:=by
 have sz:=pW;refine uo (λi e c=>∃l v9,e=[v0,v1,v2,O _,O _,U,U,U,U,v9,U,U,σ]/\c=d++[.lst l]/\PR q l/\l.length<=64*i) ⟨[],U,rfl,rfl,PR.nil _,by simp⟩ ?_ ?_
 ·rintro I i x e c hi hx ⟨l,v9,rfl,rfl,hl,zH⟩ hI
  obtain⟨a,rfl,a0,a1⟩:=jw hx;simp[gC]at hi;simp[bI,aW];refine xY rfl ?_;simp[bI,hp];refine eX ∅ (aW.mpr (eX (by simp[gC];omega) (bI.mpr (PR.comp a0 a1 (λb=>ht a b _) λz hz sW=>?_))))
  rw[aW];exact⟨z,d,l,rfl,rfl,hn,∅,hz.DA,.of (hI _ _ ⟨_,_,rfl,rfl,hl.app hz,by simp;omega⟩)⟩
 ·rintro e c ⟨l,v9,rfl,rfl,hl,hn⟩
  exact hQ l v9 hl (by simp[gC]at hn;omega)
theorem Jy{q s k:Int}(h1:1<=s)(h2:s<q)(k0:0<=k)(k1:k<q):k≠(k+s) % q:=λe=>by
 by_cases h:k+s<q
 ·rw[Vi ∅ h]at e;omega
 ·have:(k+s) % q=k+s-q:=by
   rw[<-Int.sub_emod_right,Vi ∅ ∅]
  omega
theorem comp_map{f g:Nat->D}:∀(l:List Nat) (v:Option D) (acc:List D),(∀i∈l,a (O (f i)::E) c=.ok (g i) c)->bN (λ_=>True) (aC 0) aY a (l.map f) (v::E) acc c=.ok (acc++l.map g) c
 |[],v,acc,_=>by simp
 |i::l,v,acc,h=>by
  rw[Q8,pq,show aC 0 _ _ c=.ok (O _::E) c from rfl,R.aN,ue,R.aN,if_pos rfl,h i (.head _),R.aN,comp_map l _ _ λk hk=>h k (.tail _ hk)]
  simp
theorem xZ{lo:Int}{Q:List D->aa->Prop}(G:Int->D)(h:∀b,lo<=b->b<hi->a (O (.int b)::E) c=.ok (G b) c)(q:Q ((η (hi-lo).toNat).map λi:Nat=>G (lo+i)) c):W (bN (λ_=>True) (aC 0) aY a (aV lo hi) (v::E) [] c) Q :=
 ⟨_,_,comp_map _ v [] λi hi=>h _ ∅ (by have:=dD.mp hi;omega),q⟩
theorem Cw{st:aa->Prop}(hst:st c)(ht:∀a b:Int,∃x,t [O (.int a),O (.int b)] c=.ok x c):∀(l:List D) (v w:Option D) (acc:List D),PR q l->PR q acc->∃z,PR q z/\bN st (fK 2 (cC (aC 0) (cC (aC 1) gn))) t (bX (0⊂1)) l [v,w] acc c=.ok z c
 |[],v,w,acc,_,ha=>⟨acc,ha,by unfold bN;rw[if_pos hst]⟩
 |d::l,v,w,acc,hl,ha=>by
  have h2:(2:Nat)<=Ω:=by have:=pW;omega
  obtain⟨a,b,rfl,r⟩:=hl d (.head _);obtain⟨u,hu⟩:=ht a b;have hl':PR q l:=λx hx=>hl x (.tail _ hx)
  unfold bN;rw[if_pos hst];cases u with
  |true =>
   obtain⟨z,hz,e⟩:=Cw hst ht l (O (.int a)) (O (.int b)) (acc++[.tup [.int a,.int b]]) hl' (ha.snoc r.1 r.2.1 r.2.2.1 r.2.2.2.1 r.2.2.2.2);exact⟨z,hz,by simp[hu,h2];exact e⟩
  |false =>
   obtain⟨z,hz,e⟩:=Cw hst ht l (O (.int a)) (O (.int b)) acc hl' ha;exact⟨z,hz,by simp[hu];exact e⟩
theorem ag0{most:Int}{d:aa}{K:Ev->aa->Prop}(hN:d.length+1=N)(a0:0<=a)(t1:th<=5)(t0:0<=th)(hM:∀r∈M,r.length<1000)(Ov:M.length<=64)(hK:∀M',(∀r∈M',r.length<1000)->M'.length=M.length+(th-(a+1)).toNat->K [O (.ref j),O (.int most),O (.int 1),O (.int q),O (.ref n),U,U,O (.int th),O (.ref N),O (.int a),U,U,U] (d++[.lst [],.lst (gY M')]))(a9:a<5):
  W (d9 (gR (ak 8) (aU (fM (ao (av bR (ak 9) (dC (.int 1))) ⇑7)) [U,O 9] (aC 0) aY (eW (1⊂0)))) [O (.ref j),O (.int most),O (.int 1),O (.int q),O (.ref n),U,U,O (.int th),O (.ref N),O (.int a),U,U,U] (d++[.lst [],.lst (gY M)])) (Nx K):=by
 have sz:=pW;have h2:(2:Nat)<=Ω:=∅
 simp[bI,aW];refine xY (n:=N) rfl ?_;simp[bI];refine eX ∅ (aW.mpr (eX (by simp[gC];omega) (bI.mpr (xZ (E:=[O (.int a)]) (λb=>.lst ([a,b].map D.int)) (λb _ _=>by simp[h2]) ?_))))
 rw[aW];refine⟨_,d++[.lst []],gY M,rfl,by simp,by simp[hN],by simp[gY];omega,iC.mpr λy hy=>?_,.of ?_⟩
 ·obtain⟨k,-,rfl⟩:=AP.mp hy;rfl
 ·have e:d++[.lst []]++[Cell.lst (gY M++(η (th-(a+1)).toNat).map λi:Nat=>D.lst ([a,a+1+i].map D.int))]=d++[.lst [],.lst (gY (M++(η (th-(a+1)).toNat).map λi:Nat=>[a,a+1+(i:Int)]))]:=by simp[gY,Sl]
  rw[e];refine hK _ (λr hr=>?_) (by simp)
  rcases RI.mp hr with h|h
  ·exact hM r h
  ·obtain⟨k,-,rfl⟩:=AP.mp h;simp
def Way(j n:Nat)(most:Int)(e:Ev)(c:aa):Prop:=∃(q:Int) (X:D) (l:List D) (d t:aa),e[3]? = O (O (.int q))/\e[4]? = O (O X)/\1<=q/\q<=most/\PR q l/\((∃k,X=.ref k/\c[k]? = O (.lst l))\/X=.lst l)/\c=d++t/\dI j n d
theorem akt{most:Int}{Q:D->aa->Prop}(hP:dI j n c)(h0:0<most)(h1:most<60)(hQ:∀(m:Nat) ps c',1<=m->(m:Int)<=most->pG m ps->dI j n c'->Q (bC m (jh ps)) c'):W (zu [.ref j,.int most] c) Q:=by
 have sz:=pW;have hn:=hP.1;simp[zu,Bl,bI,aW];refine mC hP ⋯ ⋯ λway c1 w0 w1 P1=>?_
 simp[bI,aW];refine mC P1 h0 ∅ λx c2 x0 x1 P2=>?_
 simp[bI,aW];have hl2:=P2.1;refine W.imp (Q:=Nx (Way j n most)) ?_ ?_
 ·generalize hW:Way j n most=I
  have hI:∀e c,Way j n most e c->I e c:=λe c h=>hW▸h
  clear hW hQ
  generalize hq:1+x=q
  have hq1:1<=q:=∅
  have hq2:q<=most:=∅
  clear hq x0 x1;have hd:∀l,(c2++[Cell.lst l])[n]? = O (.lst l):=λl=>by rw[<-hl2];simp
  have h2:(2:Nat)<=Ω:=∅
  have h1':(1:Nat)<=Ω:=∅
  have h4':(4:Nat)<=Ω:=∅
  rw[hl2]
  by_cases e0:way=0
  ·simp(disch:=omega) [e0,bI,aW,wM];refine eX ∅ (aW.mpr (eX (by simp[gC];omega) (bI.mpr (pM (E:=[O (.ref j)]) (λz c'=>(∀y∈z,∃s:Int,y=.int s/\1<=s/\s<q)/\∃d,c'=d++[.lst []]/\dI j n d) ⟨(λy h=>by cases h),c2,rfl,P2⟩ ?_ ?_))))
   ·rintro Γ x z c' hx ⟨hz,d,rfl,P⟩ hJ
    obtain⟨s,rfl,s0,s1⟩:=jw hx;simp[bI,aW];refine pL P ⋯ ⋯ λu d u0 u1 P=>?_
    simp[aW];split
    ·exact hJ _ _ ⟨λy hy=>(RI.mp hy).elim (hz y) λh=>⟨s,RE.mp h,∅,∅⟩,d,rfl,P⟩
    ·exact hJ _ _ ⟨hz,d,rfl,P⟩
   ·rintro z c' ⟨hz,d,rfl,P⟩ sW
    simp[gC]at sW;simp[aW];refine uo (λi e c=>∃l v6,e=[O (.ref j),O (.int most),O (.int 0),O (.int q),O (.ref n),O (.lst z),v6,U,U,U,U,U,U]/\c=d++[.lst l]/\PR q l/\l.length<=64*i) ⟨[],U,rfl,rfl,PR.nil _,by simp⟩ ?_ ?_
    ·rintro K i x e c hi hx ⟨l,v6,rfl,rfl,hl,zH⟩ hK
     obtain⟨s,rfl,s0,s1⟩:=hz x hx;simp[bI,aW];refine xY (n:=n) rfl ?_;simp[bI];refine eX ∅ (aW.mpr (eX (by simp[gC];omega) (bI.mpr (pM (E:=[O (.int q),O (.int s)]) (λz c'=>PR q z/\c'=d++[.lst l]) ⟨PR.nil _,rfl⟩ ?_ ?_))))
     ·rintro Γ x z c' hx ⟨hz,rfl⟩ hJ
      obtain⟨k,rfl,k0,k1⟩:=jw hx;simp(disch:=omega) [aW,qe,h2];exact hJ _ _ ⟨hz.snoc k0 k1 (UL _ ∅) (UK _ ∅) (Jy s0 s1 k0 k1),rfl⟩
     ·rintro z c' ⟨hz,rfl⟩ sW
      simp[gC]at sW;rw[aW];exact⟨z,d,l,rfl,rfl,P.1,∅,hz.DA,.of (hK _ _ ⟨_,_,rfl,rfl,hl.app hz,by simp;omega⟩)⟩
    ·rintro e c ⟨l,v6,rfl,rfl,hl,-⟩
     exact .of (hI _ _ ⟨q,.ref n,l,d,[.lst l],rfl,rfl,hq1,hq2,hl,.inl ⟨n,rfl,by rw[<-P.1];simp⟩,rfl,P⟩)
  by_cases e1:way=1
  ·simp(disch:=omega) [e1,bI,aW,h4'];refine pL P2 ⋯ ⋯ λu d u0 u1 P=>?_
   have hu:∀c,aH (.lst [.int 2,.int 3,.int 4,.int 5]) (.int u) c=.ok (.int (u+2)) c:=λc=>by
    rcases(by omega:u=0\/u=1\/u=2\/u=3)with rfl|rfl|rfl|rfl<;>rfl
   have hdl:=P.1;have ht:2<=u+2/\u+2<=5:=∅
   generalize u+2=th at hu ht
   have t0:2<=th/\th<=5:=ht;simp[hu,aW];obtain⟨N,hN⟩:∃N,d.length+1=N:=⟨_,rfl⟩;rw[hN];refine eX ∅ (aW.mpr (Io (λi e c=>∃M v9,e=[O (.ref j),O (.int most),O (.int 1),O (.int q),O (.ref n),U,U,O (.int th),O (.ref N),v9,U,U,U]/\c=d++[.lst [],.lst (gY M)]/\(∀r∈M,r.length<1000)/\M.length<=8*i/\(0<i->0<M.length)) ⟨[],U,rfl,rfl,(λr h=>by cases h),by simp,λh=>absurd h (RS 0)⟩ ?_ ?_))
   ·rintro K i x e c hx ⟨M,v9,rfl,rfl,hM,Ov,Ox⟩ hK
    obtain⟨hi,rfl⟩:=nO hx;exact aW.mpr (ag0 hN ∅ t0.2 ∅ hM ∅ (λM' h1 h2=>hK _ _ ⟨M',_,rfl,rfl,h1,∅,λ_=>∅⟩) ∅)
   ·rintro e c ⟨M,v9,rfl,rfl,hM,Ov,Ox⟩
    have hm0:0<M.length:=Ox (by simp[gC];omega)
    have jB:∀t,fV (d++[Cell.lst [],.lst (gY M)]++t) (.ref N)=O (gY M):=λt=>by rw[<-hN];simp[fV]
    obtain⟨Θ,hL⟩:∃Θ:Int,Θ=(M.length:Nat):=⟨_,rfl⟩;have hlen:aR [.ref N] (d++[Cell.lst [],.lst (gY M)])=.ok (.int Θ) (d++[.lst [],.lst (gY M)]):=by
     have:=jB [];rw[SI]at this;unfold aR;dsimp only;rw[this,hL];simp[gY]
    simp[bI,aW,hlen];refine DH jB (by split<;>omega) hM (by split<;>omega) (by split<;>omega) λl hl=>?_
    exact .of (hI _ _ ⟨_,_,l,d,_,rfl,rfl,by split<;>omega,by split<;>omega,hl,.inr rfl,rfl,P⟩)
  by_cases e2:way<4
  ·simp(disch:=omega) [e0,e1,e2,bI,aW];refine pL P2 (by split<;>omega) (by split<;>omega) λu d u0 u1 P=>?_
   have hu:1+u<=most/\1+u<=4:=by split at u1<;>omega
   have hh:1<=1+u:=∅
   simp[aW]
   generalize 1+u=h at hu hh
   have hv1:1<=most/h:=(XJ ∅).mpr ∅
   have hv2:∀v,v<=most/h->v*h<=most:=λv hv=>(XJ ∅).mp hv
   simp(disch:=omega) [aW,wM]
   generalize most/h=hd at hv1 hv2
   refine pL P (by split<;>omega) (by split<;>omega) λv d v0 v1 P=>?_
   have hw:1<=1+v/\1+v<=hd/\1+v<=4:=by split at v1<;>omega
   simp[aW]
   generalize 1+v=wd at hw
   have EC:=hv2 wd hw.2.1;have N4:0<wd*h:=Int.mul_pos ∅ ∅
   rw[Int.mul_comm]at EC N4;simp(disch:=omega) [aW,DP]
   generalize h*wd=q at EC N4
   have fin:∀e l,PR q l->e[3]? = O (O (.int q))->e[4]? = O (O (.lst l))->I e (d++[.lst []]):=λe l hl e3 e4=>hI _ _ ⟨q,_,l,d,_,e3,e4,∅,EC,hl,.inr rfl,rfl,P⟩
   refine eX ∅ (aW.mpr (eX (by simp[gC];omega) (bI.mpr (xZ (E:=[O (.int wd)]) (λb=>.lst ([b/wd].map D.int)) (λb _ _=>by simp(disch:=omega) [wM,h1']) ?_))))
   obtain⟨σ,hZ⟩:∃σ,σ=(η (q-0).toNat).map λi:Nat=>D.lst ([(0+(i:Int))/wd].map D.int):=⟨_,rfl⟩
   rw[aW,<-hZ]
   by_cases Px:way=2
   ·rw[if_pos Px];simp[bI,aW];refine eX ∅ (aW.mpr (eX (by simp[gC];omega) (bI.mpr (xZ (E:=[O (.int wd)]) (λb=>.lst ([b/wd,10+b % wd].map D.int)) (λb _ _=>by simp(disch:=omega) [wM,qe,h2]) ?_))))
    obtain⟨Y,hY⟩:∃Y,Y=(η (q-0).toNat).map λi:Nat=>D.lst ([(0+(i:Int))/wd,10+(0+(i:Int)) % wd].map D.int):=⟨_,rfl⟩
    rw[aW,<-hY];refine DH (M:=(η (q-0).toNat).map λi:Nat=>[(0+(i:Int))/wd,10+(0+(i:Int)) % wd]) (λt=>by rw[hY];simp[fV,gY,Sl]) (by simp;omega) (λr hr=>by obtain⟨k,-,rfl⟩:=AP.mp hr;simp) ∅ ∅ λl hl=>.of (fin _ l hl rfl rfl)
   ·rw[if_neg Px];simp[bI,aW];refine DH (M:=(η (q-0).toNat).map λi:Nat=>[(0+(i:Int))/wd]) (λt=>by rw[hZ];simp[fV,gY,Sl]) (by simp;omega) (λr hr=>by obtain⟨k,-,rfl⟩:=AP.mp hr;simp) ∅ ∅ λl hl=>.of (fin _ l hl rfl rfl)
  by_cases e4:way=4
  ·simp(disch:=omega) [e4,bI,aW,h2];refine pL P2 ⋯ ⋯ λu d u0 u1 P=>?_
   obtain⟨v,hv,hu⟩:∃v:Int,5<=v/\∀c,aH (.lst [.int 5,.int 13]) (.int u) c=.ok (.int v) c:=by
    rcases(by omega:u=0\/u=1)with rfl|rfl
    ·exact⟨5,∅,λ_=>rfl⟩
    ·exact⟨13,∅,λ_=>rfl⟩
   simp[hu,aW];obtain⟨q,hq,q0,q1⟩:∃q,(if v<most then v else most)=q/\1<=q/\q<=most:=⟨_,rfl,by split<;>omega,by split<;>omega⟩
   rw[hq];refine eX ∅ (aW.mpr (eX (by simp[gC];omega) (bI.mpr (xZ (E:=[O (.int q)]) (λb=>.int (b*b % q)) (λb _ _=>by simp(disch:=omega) [DP,qe]) ?_))))
   rw[aW];refine eX ∅ (aW.mpr ?_)
   obtain⟨S,hS⟩:∃S:List Int,((η (q-1).toNat).map λi:Nat=>D.int ((1+(i:Int))*(1+i) % q))=S.map D.int:=⟨(η (q-1).toNat).map λi:Nat=>(1+(i:Int))*(1+i) % q,by simp⟩
   rw[hS];refine OB (E:=[O (.lst (S.map D.int)),O (.int q)]) P.1 ∅ ∅ (λa b c=>?_) (λa=>rfl) λl v9 hl _=>.of (hI _ _ ⟨q,.ref n,l,d,_,rfl,rfl,q0,q1,hl,.inl ⟨n,rfl,by rw[<-P.1];simp⟩,rfl,P⟩)
   obtain⟨x,hx⟩:=NP S ((b-a) % q) c;exact⟨x,by simp(disch:=omega) [qe,hx]⟩
  ·simp(disch:=omega) [e0,e1,e2,e4,bI,aW];obtain⟨q,hq,q0,q1⟩:∃q,(if most<8 then most else 8)=q/\1<=q/\q<=most:=⟨_,rfl,by split<;>omega,by split<;>omega⟩
   rw[hq];have h3:(3:Nat)<=Ω:=∅
   refine eX ∅ (aW.mpr (OB (E:=[]) P2.1 ∅ ∅ (λa b c=>?_) (λa=>rfl) λl v9 hl zH=>?_))
   ·exact⟨[PyData.int 1,.int 2,.int 4].any λz=>z.eqv (.int (b-a)),by simp[h3,inD,e8,dM,f6,PyData.depth]⟩
   ·simp[bI,aW,hd];obtain⟨z,hz,e⟩:=Cw (c:=c2++[.lst l]) (st:=λc=>c[n]? = O (.lst l)) (t:=(aG (av cE (av xB (ak 0) (ak 1)) (ak 0)))) (hd l) (λa b=>⟨decide (Builtin.bitAnd a b=a),by simp[xB]⟩) l U U [] hl (PR.nil q)
    exact eX ∅ (bI.mpr ⟨z,_,e,aW.mpr (.of (hI _ _ ⟨q,_,z,c2,_,rfl,rfl,q0,q1,hz,.inr rfl,rfl,P2⟩))⟩)
 ·rintro f c' ⟨e,rfl,q,X,l,d,t,e3,e4,q0,q1,hl,hX,rfl,P⟩
  simp[e3,e4,bI,aW];refine Im ∅ ∅ hl hX λm ps hm hp=>?_
  simp[aW,Ft];rw[XM (by rw[P.1,hn];exact x6 _),T7 (by rw[P.1,hn];exact x6 _)]
  exact hQ m ps d ∅ ∅ hp P
def Tb(m:Nat)(T:D):Prop:=∃f,T=bC m f/\gU f
theorem Tb.about(h:Tb m T)(hm:m<1000):∃T',Tb m T'/\∀c,sJ [T] c=.ok T' c:=by
 obtain⟨f,rfl,hf⟩:=h;exact⟨_,⟨_,rfl,aek hf⟩,λc=>aej f hm c⟩
theorem Tb.ah1{m:Nat}{a b M:Int}(h:Tb m T)(hm:m<1000)(hM:M=m)(a0:0<=a)(a1:a<M)(b0:0<=b)(b1:b<M)(hne:a≠b)(c:aa):∃T',Tb m T'/\vz [T,.int a,.int b] c=.ok T' c:=by
 obtain⟨f,rfl,hf⟩:=h;obtain⟨i,rfl⟩:=nZ a0;obtain⟨k,rfl⟩:=nZ b0;exact⟨_,⟨_,rfl,ah0 hf ∅⟩,ahS ∅ ∅ hm f c⟩
theorem Tb.len{m:Nat}{M:Int}(h:Tb m T)(hM:M=m)(c:aa):aR [T] c=.ok (.int M) c:=by
 obtain⟨f,rfl,hf⟩:=h;rw[hM,len_tab]
theorem aaz{j n m:Nat}{M:Int}{Q:D->aa->Prop}(h:Tb m T)(hP:dI j n c)(hm:m<1000)(hM:M=m)(hQ:∀f c',gU f->dI j n c'->Q (bC m f) c'):W (lK [.ref j,.int M] c) λo c=>W (n8 [T,o] c) Q:=by
 obtain⟨f,rfl,hf⟩:=h;obtain⟨os,c',hp,P,e⟩:=Dk hP hm;rw[hM];exact⟨_,_,e,_,_,DQ hp hm f c',hQ _ _ (DO hf (by have:=hp.length_eq;simpa using this)) P⟩
def agx(j n m:Nat)(most M:Int):Ev->aa->Prop:=λe c=>∃T v,e=[O (.ref j),O (.int most),O T,O (.int M),v]/\Tb m T/\dI j n c
theorem adY{most:Int}{Q:D->aa->Prop}(hP:dI j n c)(h0:0<most)(h6:most<60)(hQ:∀(m:Nat) f c',1<=m->(m:Int)<=most->gU f->dI j n c'->Q (bC m f) c'):W (sI [.ref j,.int most] c) Q:=by
 have hn:=hP.1;simp[sI,Bq,bI,aW];refine mC hP ⋯ ⋯ λx c1 x0 x1 P1=>?_
 simp[aW];refine W.imp (Q:=Nx λe c=>∃(m:Nat) (T:D),e=[O (.ref j),O (.int most),O T,U,U]/\Tb m T/\1<=m/\(m:Int)<=most/\dI j n c) ?_ ?_
 ·have go:∀(m:Nat) ps c',1<=m->(m:Int)<=most->pG m ps->dI j n c'->W _ (Nx λe c=>∃(m:Nat) (T:D),e=[O (.ref j),O (.int most),O T,U,U]/\Tb m T/\1<=m/\(m:Int)<=most/\dI j n c):=λm ps c' m1 m2 hp P=>aW.mpr (.of ⟨m,_,rfl,⟨_,rfl,Z1 hp⟩,m1,m2,P⟩)
  by_cases h:x<2
  ·rw[if_pos h,bI];exact ajr P1 h0 h6 go
  ·rw[if_neg h,bI];exact akt P1 h0 h6 go
 rintro f c2 ⟨e,rfl,m,T,rfl,hT,m1,m2,P2⟩
 obtain⟨M,hM⟩:∃M:Int,M=m:=⟨_,rfl⟩;simp[bI,aW,hT.len hM];refine mC P2 ⋯ ⋯ λy c3 y0 y1 P3=>?_
 simp[aW];refine W.imp (Q:=Nx λe c=>∃T,e=[O (.ref j),O (.int most),O T,O (.int M),U]/\Tb m T/\dI j n c) ?_ ?_
 ·obtain⟨T',EW,ha⟩:=hT.about ∅
  by_cases h:y=0
  ·simp only[h,if_true,ha,R.aN,aW];exact .of ⟨_,rfl,EW,P3⟩
  ·rw[if_neg h,aW];exact .of ⟨_,rfl,hT,P3⟩
 rintro f c4 ⟨e,rfl,T,rfl,hT,P4⟩
 simp[bI,aW];refine W.imp (Q:=fun(a:Bool) c=>(a=J->1<M)/\dI j n c) ?_ ?_
 ·by_cases h:1<M
  ·rw[if_pos h];simp only[bI];refine mC P4 ⋯ ⋯ λz c z0 z1 P=>?_
   simp only[xV,aW];exact⟨λ_=>h,P⟩
  ·rw[if_neg h,aW];exact⟨(λh=>by cases h),P4⟩
 rintro a c5 ⟨ha,P5⟩
 refine W.imp (Q:=Nx (agx j n m most M)) ?_ ?_
 ·cases a with
  |false =>
   simp only[Ra,if_false,aW];exact .of ⟨_,_,rfl,hT,P5⟩
  |true =>
   have hM1:=ha rfl;simp only[if_true,bI];refine mC P5 ∅ ∅ λa c6 a0 a1 P6=>?_
   simp[bI,aW];refine mC P6 ∅ ∅ λb c7 b0 b1 agE=>?_
   have hne:=Jy (q:=M) (s:=1+b) (k:=a) ∅ ∅ a0 a1
   rw[<-Int.add_assoc]at hne;obtain⟨T',EW,ht⟩:=hT.ah1 (b:=(a+1+b) % M) ∅ hM a0 a1 (UL _ ∅) (UK _ ∅) hne c7
   simp(disch:=omega) [bI,aW,qe,ht];exact .of ⟨_,_,rfl,EW,agE⟩
 rintro f c6 ⟨e,rfl,T,v,rfl,hT,P6⟩
 simp[bI,aW];refine(aaz hT P6 ∅ hM λf c' hf P=>?_).imp λo c h=>h
 rw[Ft,aW,T7 (by rw[P.1,hn];exact x6 _)]
 exact hQ m f c' m1 m2 hf P
theorem adZ{most:Int}(hP:dI j n c)(h0:0<most)(h6:most<60):∃(m:Nat) (f:Nat->Nat->Bool) (c':aa),1<=m/\(m:Int)<=most/\gU f/\dI j n c'/\sI [.ref j,.int most] c=.ok (bC m f) c':=by
 obtain⟨d,c',e,m,f,rfl,h⟩:=adY (Q:=λd c'=>∃(m:Nat) (f:Nat->Nat->Bool),d=bC m f/\1<=m/\(m:Int)<=most/\gU f/\dI j n c') hP h0 h6 λm f c' a b h p=>⟨m,f,rfl,a,b,h,p⟩
 exact⟨m,f,c',h.1,h.2.1,h.2.2.1,h.2.2.2,e⟩
def aA(rows:List (List Nat)):D:=.tup (rows.map λr=>.tup (nD r))
theorem xX(rows:List (List Nat)):noRef (aA rows)=J:=by
 refine iC.mpr λd hd=>?_
 obtain⟨r,_,rfl⟩:=AP.mp hd;exact j7 r
theorem mH(n:Nat):aV 0 (n:Int)=nD (η n):=by
 apply WY;intro i
 by_cases h:i<n
 ·have h1:i<(aV 0 n).length:=by rw[jt];omega
  have:=nO (H8 h1);rw[H8 h1,this.2];simp[nD,h]
 ·rw[TJ (by rw[jt];omega),TJ (by simp;omega)]
theorem jF{α:Type}(g F:α->D)(b:α->Bool):∀(l:List α) (v:Option D) (acc:List D),(∀x∈l,t (O (g x)::E) c=.ok (b x) c)->(∀x∈l,b x=J->a (O (g x)::E) c=.ok (F x) c)->bN (λ_=>True) (aC 0) t a (l.map g) (v::E) acc c=.ok (acc++(l.filter b).map F) c
 |[],v,acc,_,_=>by simp
 |x::l,v,acc,h1,h2=>by
  have e1:aC 0 _ (v::E) c=.ok (O (g x)::E) c:=rfl;rw[Q8,pq,e1,R.aN,h1 x (.head _),R.aN];cases hb:b x with
  |true =>
   rw[if_pos rfl,h2 x (.head _) hb,R.aN,jF g F b l _ _ (λz hz=>h1 z (.tail _ hz)) (λz hz=>h2 z (.tail _ hz)),Tq hb,SE]
   rfl
  |false =>
   rw[if_neg ⋯,jF g F b l _ _ (λz hz=>h1 z (.tail _ hz)) (λz hz=>h2 z (.tail _ hz)),V8 (by simp[hb])]
theorem AM:∀l:List Nat,f6 (nD l)=O (l.map λn:Nat=>PyData.int (n:Int))
 |[]=>rfl
 |n::ns=>by
  show(match dM _,f6 _ with|some a,O r=>O _|_,_=>U)=_
  rw[AM ns];rfl
theorem Gv(l:List Nat)(k:Nat):((l.map λn:Nat=>PyData.int (n:Int)).any λz=>z.eqv ↥k)=decide (k∈l):=by
 rw[List.any_map,S5,U3,decide_eq_true_eq];refine⟨fun⟨x,hx,e⟩=>?_,λh=>⟨k,h,?_⟩⟩
 ·have:x=(k:Int):=by simpa[PyData.eqv]using e
  have:x=k:=∅
  exact this▸hx
 ·simp[PyData.eqv]
theorem L5(l:List Nat)(k:Nat)(c:aa):iU ↥k (.tup (nD l)) c=.ok (.bl (!decide (k∈l))) c:=by
 have h1:e8 c (.int k)=O _:=rfl;have h2:e8 c (.tup (nD l))=O (.tuple (l.map λn:Nat=>PyData.int (n:Int))):=by
  show(match f6 _ with|some r=>O _|none=>U)=_
  rw[AM]
 unfold iU;rw[h1,h2];dsimp only;rw[if_pos (by simp[PyData.depth]),Gv]
theorem NQ(l:List Nat)(k:Nat)(c:aa):inD ↥k (.tup (nD l)) c=.ok (.bl (decide (k∈l))) c:=by
 have h1:e8 c ↥k=O ↥k:=rfl;have h2:e8 c (.tup (nD l))=O (.tuple (l.map λn:Nat=>PyData.int (n:Int))):=by
  show(match f6 (nD l)with|some r=>O (PyData.tuple r)|none=>U)=_
  rw[AM]
 unfold inD;rw[h1,h2];dsimp only;rw[if_pos (by simp[PyData.depth]),Gv]
theorem iV(w:List (List Nat))(c:aa):aR [aA w] c=.ok (.int (w.length:Nat)) c:=by
 unfold aA;rw[Ie,P0]
theorem ou{i:Nat}(h:w[i]? = O r)(c:aa):aH (aA w) ↥i c=.ok (.tup (nD r)) c:=by
 unfold aA;rw[uf,ku (v:=.tup (nD r)) (by rw[RB,h];rfl)]
theorem jK{m:List D->aa->R D}(h1:d1 e c=.ok x c)(h2:d2 e c=.ok y c)(h3:d3 e c=.ok z c)(h:m [x,y,z] c=.ok v c):aB 3 m (ao d1 (ao d2 (ao d3 aq))) e c=.ok v c:=by
 simp only[x_call,cY,h1,h2,h3,cU,R.aN];rw[if_pos (by rfl)];exact h
theorem dR{m:List D->aa->R D}(h1:d1 e c=.ok x c)(h2:d2 e c=.ok y c)(h:m [x,y] c=.ok v c):aB 2 m (ao d1 (ao d2 aq)) e c=.ok v c:=by
 simp only[x_call,cY,h1,h2,cU,R.aN];rw[if_pos (by rfl)];exact h
theorem fQ{m:List D->aa->R D}(h1:d1 e c=.ok x c)(h:m [x] c=.ok v c):aB 1 m (ao d1 aq) e c=.ok v c:=by
 simp only[x_call,cY,h1,cU,R.aN];rw[if_pos (by rfl)];exact h
theorem dW{xs:List D}(h:b (bW n xs) c=.ok (.rt v) c)(hv:noRef v=J)(hr:∀k,v≠.ref k):bA n ξ b xs c=.ok v c:=by
 rw[iN,h];simp only[R.aN];cases v<;>first|exact absurd rfl (hr _)|(unfold cD;dsimp only;rw[if_pos hv,Rg])
theorem NS{a s:Nat}(h1:d1 e c=.ok ↥a c)(h2:d2 e c=.ok ↥s c):bx (aG (av cz d1 d2)) t u e c=if a≠s then t e c else u e c:=by
 by_cases q:a=s
 ·subst q;simp[h1,h2]
 ·have q':¬((a:Int)=s):=∅
  simp[h1,h2,q,q']
theorem ahW(h1:d1 e c=.ok x c)(h2:d2 e c=.ok y c)(h3:d3 e c=.ok z c):bX (ao d1 (ao d2 (ao d3 aq))) e c=.ok (.tup [x,y,z]) c:=by
 have:(3:Nat)<=Ω:=cZ ⋯
 simp only[Cj,cY,h1,h2,h3,cU,R.aN];rw[if_pos (by exact this)]
theorem ux(h1:d1 e c=.ok x c)(h2:d2 e c=.ok y c):bX (ao d1 (ao d2 aq)) e c=.ok (.tup [x,y]) c:=by
 have:(2:Nat)<=Ω:=cZ ⋯
 simp only[Cj,cY,h1,h2,cU,R.aN];rw[if_pos (by exact this)]
theorem ck{f:List D->aa->R D}(h1:d1 e c=.ok x c)(h:f [x] c=.ok v c):aJ f (ao d1 aq) e c=.ok v c:=by
 simp only[rq,cY,h1,cU,R.aN];exact h
theorem cJ(h:d e c=.ok v c):aI i d e c=.ok (.nx (e.set i (O v))) c:=by rw[qY,h];rfl
theorem dU(h:d e c=.ok v c):aP d e c=.ok (.rt v) c:=by rw[rj,h];rfl
theorem wL(h:d e c=.ok v c'):d9 d e c=.ok (.nx e) c':=by rw[Cp,h];rfl
theorem m9{sr:Ev->aa->R Src}(h1:sr e c=.ok ⟨l,λ_=>True⟩ c)(h2:bU (λ_=>True) g s l e c=r):bT sr g s e c=r:=by
 rw[rm,h1];exact h2
theorem mJ(h:d e c=.ok (.int q) c)(bq:-4611686018427387904<=q/\q<4611686018427387904):bK (ao d aq) e c=.ok ⟨aV 0 q,λ_=>True⟩ c:=by
 simp only[qZ,cY,h,cU,R.aN];rw[if_pos ∅]
theorem aZ{f:D->D->aa->R D}(h1:d1 e c=.ok x c)(h2:d2 e c=.ok y c)(h:f x y c=r):av f d1 d2 e c=r:=by
 rw[iw,h1];simp only[R.aN];rw[h2];exact h
theorem aiW(h1:d1 e c=.ok (.int p) c)(h2:d2 e c=.ok (.int q) c)(bp:-4611686018427387904<=p/\p<4611686018427387904)(bq:-4611686018427387904<=q/\q<4611686018427387904):fM (ao d1 (ao d2 aq)) e c=.ok ⟨aV p q,λ_=>True⟩ c:=by
 simp only[ahi,cY,h1,h2,cU,R.aN];rw[if_pos ⟨∅,∅,∅,∅⟩]
theorem aec(c:aa)(l:List D)(f:D->Bool):kB [.lst (l.map λx=>.bl (f x))] c=.ok (.bl (l.all f)) c:=by
 have e:(l.map λx=>D.bl (f x))=(l.map f).map D.bl:=by simp
 unfold kB p7;dsimp only;rw[e,Gb];simp[List.all_map]
def wF(m:Nat)(f:Nat->Nat->Bool):List (List Nat):=(η m).map (bu m f)
theorem KN(m:Nat)(f:Nat->Nat->Bool):rQ m f=aA (wF m f):=by
 unfold rQ aA wF;rw[R3];rfl
theorem fT(m:Nat)(f:Nat->Nat->Bool):(wF m f).length=m:=by simp[wF]
theorem rA(f:Nat->Nat->Bool)(h:i<m):(wF m f).getD i []=bu m f i:=by
 rw[Iv];simp[wF,h]
theorem nN(h:d e c=.ok (.lst l) c):cj d e c=.ok ⟨l,λ_=>True⟩ c:=by
 unfold cj;rw[h];rfl
theorem fN{sr:Ev->aa->R Src}{pick:List (Option Nat)}{items:List D}(h1:sr e c=.ok ⟨items,λ_=>True⟩ c)(hl:items.length<Ω)(h2:bN (λ_=>True) g t a items (fq pick e) [] c=.ok l c):aU sr pick g t a e c=.ok (.lst l) c:=by
 rw[nC,h1];simp only[R.aN];rw[if_pos hl,h2];rfl
theorem yt(h:d e c=.ok v c'):aI i d e c=.ok (.nx (e.set i (O v))) c':=by rw[qY,h];rfl
theorem acy(l:List D)(c d:aa)(h:bF l=J):cD ξ c.length (.tup l) (c++d)=.ok (.tup l) c:=by
 have h':noRef (.tup l)=J:=by unfold noRef;exact h
 unfold cD;dsimp only;rw[if_pos h',Vx]
theorem ace{xs:List D}(h:b (bW n xs) c=.ok (.rt (.tup l)) (c++d))(nr:bF l=J):bA n ξ b xs c=.ok (.tup l) c:=by
 rw[iN,h];exact acy l c d nr
theorem cO(h:d e c=.ok (.bl b) c):aG d e c=.ok b c:=by rw[Cq,h];rfl
theorem Pu{α:Type}[DecidableEq α]{F:α->SW}(h:∀a b,(F a).eqv (F b)=decide (a=b)):∀l l':List α,PyData.eqvAll (l.map F) (l'.map F)=decide (l=l')
 |[],[]=>rfl
 |[],_::_=>by simp[PyData.eqvAll]
 |_::_,[]=>by simp[PyData.eqvAll]
 |a::l,b::l'=>by
  rw[Q8,Q8,PyData.eqvAll,h a b,Pu h l l']
  by_cases e:a=b
  ·subst e;by_cases e':l=l'<;>simp[e']
  ·simp[e]
theorem aan(ht:t e c=.ok b c)(h1:d1 e c=.ok x c)(h2:d2 e c=.ok y c):ni t d1 d2 e c=.ok (if b=J then x else y) c:=by
 rw[Cm,ht];simp only[R.aN];cases b
 ·rw[if_neg ⋯,if_neg ⋯];exact h2
 ·rw[if_pos rfl,if_pos rfl];exact h1
structure Wk (w:List (List Nat)):Prop where
 len:w.length<64
 row:∀r∈w,Up r/\∀x∈r,x<w.length
theorem acs(h1:dO e c=.ok (.ref k) c)(h2:da e c=.ok (.lst l) c)(hk:c[k]? = O (.lst acc))(hl:acc.length+l.length<=1000000)(nr:bF l=J):gR dO da e c=.ok .aF (c.set k (.lst (acc++l))):=by
 have hs:1000000<=Ω:=⋯
 unfold gR;rw[h1];simp only[R.aN];rw[h2];simp only[R.aN];rw[hk];dsimp only;rw[if_pos ⟨∅,nr⟩]
theorem ad8(h1:dO e c=.ok (.ref k) c)(h2:da e c=.ok v c)(hk:c[k]? = O (.lst acc))(hl:acc.length+1<=1000000)(nr:noRef v=J):qD dO da e c=.ok .aF (c.set k (.lst (acc++[v]))):=by
 have hs:1000000<=Ω:=⋯
 unfold qD;rw[h1];simp;rw[h2];simp;rw[hk];dsimp only;rw[if_pos ⟨∅,nr⟩]
theorem aau(f:Nat->Nat->Bool)(hm:m<60):Wk (wF m f):=by
 refine⟨by rw[fT];omega,λr hr=>?_⟩
 obtain⟨i,_,rfl⟩:=AP.mp hr;rw[fT];exact⟨Sk _ UA,λx hx=>dD.mp (R0.mp hx).1⟩
structure Mv (m:Nat) (Z:Nat->Nat) (f g:Nat->Nat->Bool):Prop where
 lt:∀a,a<m->Z a<m
 pm:((η m).map Z).Perm (η m)
 eq:∀a b,a<m->b<m->g a b=f (Z a) (Z b)
theorem tV{m:List D->aa->R D}(h1:d1 e c=.ok x c1)(h2:d2 e c1=.ok y c2)(h:m [x,y] c2=.ok v c3):aB 2 m (ao d1 (ao d2 aq)) e c=.ok v c3:=by
 simp only[x_call,cY,h1,h2,cU,R.aN];rw[if_pos (by rfl)];exact h
theorem F8{m:List D->aa->R D}(h1:d1 e c=.ok x c1)(h:m [x] c1=.ok v c2):aB 1 m (ao d1 aq) e c=.ok v c2:=by
 simp only[x_call,cY,h1,cU,R.aN];rw[if_pos (by rfl)];exact h
theorem adT{m:List D->aa->R D}(h1:d1 e c=.ok x c1)(h2:d2 e c1=.ok y c2)(h3:d3 e c2=.ok z c3)(h:m [x,y,z] c3=.ok v c4):aB 3 m (ao d1 (ao d2 (ao d3 aq))) e c=.ok v c4:=by
 simp only[x_call,cY,h1,h2,h3,cU,R.aN];rw[if_pos (by rfl)];exact h
theorem ai9{xs:List D}(h:b (bW n xs) c=.ok (.rt v) c')(hv:noRef v=J)(hr:∀k,v≠.ref k):bA n ξ b xs c=.ok v (c'.take c.length):=by
 rw[iN,h];simp;cases v<;>first|exact absurd rfl (hr _)|(unfold cD;dsimp only;rw[if_pos hv])
theorem NR(h:t e c=.ok ξ c'):bx t s bJ e c=.ok (.nx e) c':=by
 rw[xU,h];rfl
theorem pB(h:d e c=.ok (.bl b) c'):aG d e c=.ok b c':=by rw[Cq,h];rfl
theorem mS(h:t e c=.ok b c'):eF t e c=.ok (!b) c':=by
 unfold eF;rw[h];rfl
theorem uJ{m:Nat}(hm:m<60):(aV 0 (m:Int)).length<Ω:=by
 have:=cZ (n:=1000) ⋯
 rw[jt];omega
theorem wR{α:Type}{st:aa->Prop}(hst:st c)(g F:α->D):∀(l:List α) (v:Option D) (acc:List D),(∀x∈l,t (O (g x)::E) c=.ok J c)->(∀x∈l,a (O (g x)::E) c=.ok (F x) c)->bN st (aC 0) t a (l.map g) (v::E) acc c=.ok (acc++l.map F) c
 |[],v,acc,_,_=>by unfold bN;simp[hst]
 |x::l,v,acc,h1,h2=>by
  have e1:aC 0 _ (v::E) c=.ok (O (g x)::E) c:=rfl;rw[Q8];unfold bN;rw[if_pos hst,e1,R.aN,h1 x (by simp),R.aN,if_pos rfl,h2 x (by simp),R.aN,wR hst g F l _ _ (λy hy=>h1 y (by simp[hy])) (λy hy=>h2 y (by simp[hy])),SE]
  rfl
theorem qb(h1:t e c=.ok ξ c1)(h2:u e c1=.ok ξ c2):jH t u e c=.ok ξ c2:=by
 unfold jH;rw[h1]
 first
  |exact h2
  |(rw[if_neg ⋯];exact h2)
  |(simp;exact h2)
def pY:ai:=(i6 (aG (av cz (ak 0) (ak 1))) (aG (qC 2 2 lams (1⊂0))))
def x8(n:Nat)(f:Nat->Nat->Bool)(i:Nat):List Nat:=(η n).filter λj=>decide (j≠i)&&f i j
def rB(n:Nat)(f:Nat->Nat->Bool):List (List Nat):=(η n).map (x8 n f)
section
variable {k n:Nat}{E:μ}{ns:List Str}{l:List D}{m:List D->aa->R D}{c:aa}{f:Nat->Nat->Bool}
theorem ajd{one:Nat}(hk:lams[k]? = O (E,ns,m))(hl:fG l=J)(hm:j≠one->m ([.int one,.int j]++l) c=.ok (.bl (f one j)) c):
  pY [O (.int j),O (.int one),O (.lam k E ns l)] c=.ok (decide (j≠one)&&f one j) c:=by
 unfold pY
 by_cases h:j=one
 ·subst h;simp
 ·have h':¬((j:Int)=one):=∅
  have hc:qC 2 2 lams (1⊂0) [O (.int j),O (.int one),O (.lam k E ns l)] c=.ok (.bl (f one j)) c:=by
   rw[ahx 2 2 lams _ _ c (k:=k) (Ex:=E) (ns:=ns) (l:=l) rfl hk];simp only[cY,dj,gz,gs,cU,R.aN];rw[if_pos ⟨rfl,rfl,hl⟩];exact hm h
  simp[h,h',hc]
theorem ajQ{one:D}(bq:-4611686018427387904<=q/\q<4611686018427387904)(hlen:(aV 0 q).length<Ω)(hc:bN (λ_=>True) (aC 0) pY (ak 0) (aV 0 q) [U,O one,O Θ] [] c=.ok r c)(nr:noRef (.tup r)=J):j9 [.int q,one,Θ] c=.ok (.tup r) c:=by
 have hb:Ba=aP (aJ eT (ao (aU (bK ⇑0) [U,O 1,O 2] (aC 0) pY (ak 0)) aq)):=rfl;rw[j9,iN,hb];have es:bW 3 [D.int q,one,Θ]=[O (.int q),O one,O Θ]:=rfl;rw[es];simp only[rj,rq,cY,nC,qZ,dj,gz,gs,cU,R.aN];rw[if_pos ∅]
 simp only[R.aN];rw[if_pos hlen];have ep:fq [U,O 1,O 2] [O (D.int q),O one,O Θ]=[U,O one,O Θ]:=rfl;rw[ep,hc];simp only[R.aN];show cD ξ c.length (.tup r) c=_;unfold cD;dsimp only;rw[if_pos nr,Rg]
theorem agS(bq:-4611686018427387904<=q/\q<4611686018427387904)(hlen:(aV 0 q).length<Ω)(hc:bN (λ_=>True) (aC 0) aY (aB 3 j9 (ao (ak 1) (0⊂2))) (aV 0 q) [U,O (.int q),O Θ] [] c=.ok r c)(nr:noRef (.tup r)=J):sF [.int q,Θ] c=.ok (.tup r) c:=by
 have hb:A5=aP (aJ eT (ao (aU _ [U,O 0,O 1] (aC 0) aY _) aq)):=rfl;rw[sF,iN,hb];have es:bW 2 [D.int q,Θ]=[O _,O Θ]:=rfl;simp;rw[if_pos ∅]
 simp;rw[if_pos hlen];have ep:fq [U,O 0,O 1] [O (D.int q),O Θ]=[U,O (.int q),O Θ]:=rfl;rw[ep,hc];show cD ξ c.length (.tup r) c=_;unfold cD;dsimp only;rw[if_pos nr,Rg]
theorem Yp(h:bF l=J):noRef (.tup l)=J:=by unfold noRef;exact h
theorem M9(hn:n<1000):(aV 0 (n:Int)).length<Ω:=by
 have hs:=cZ (n:=1000) ⋯
 rw[jt];omega
theorem KO(hn:n<1000):-4611686018427387904<=(n:Int)/\(n:Int)<4611686018427387904:=∅
theorem ajO{one:Nat}{r:List Nat}(hc:bN (λ_=>True) (aC 0) pY (ak 0) ((η n).map λj:Nat=>D.int (j:Int)) [U,O (.int one),O Θ] [] c=.ok (r.map λj:Nat=>D.int (j:Int)) c):bN (λ_=>True) (aC 0) pY (ak 0) (aV 0 (n:Int)) [U,O (.int one),O Θ] [] c=.ok (nD r) c:=by rw[mH];exact hc
theorem ajP{one:Nat}{r:List Nat}(hn:n<1000)(hc:bN (λ_=>True) (aC 0) pY (ak 0) ((η n).map λj:Nat=>D.int (j:Int)) [U,O (.int one),O Θ] [] c=.ok (r.map λj:Nat=>D.int (j:Int)) c):
  j9 [.int n,.int one,Θ] c=.ok (.tup (nD r)) c:=ajQ (KO hn) (M9 hn) (ajO hc) (Yp (j7 _))
theorem ajR{one:Nat}(hk:lams[k]? = O (E,ns,m))(hl:fG l=J)(hn:n<1000)(hm:∀j,j<n->j≠one->m ([.int one,.int j]++l) c=.ok (.bl (f one j)) c) :
  j9 [.int n,.int one,.lam k E ns l] c=.ok (.tup (nD (x8 n f one))) c:=by
 exact ajP hn (jF (a:=ak 0) (c:=c) _ _ _ _ U [] (λj hj=>ajd hk hl (hm j (dD.mp hj))) (λj _ _=>rfl))
theorem adU{m:List D->aa->R D}(h:m [x,y,z] c=r):(if[x,y,z].length=3 then m [x,y,z] c else .bad)=r:=by
 rw[if_pos (by rfl)];exact h
theorem agY{w:List (List Nat)}(hn:n<1000)(hc:bN (λ_=>True) (aC 0) aY (aB 3 j9 (ao (ak 1) (0⊂2))) (aV 0 (n:Int)) [U,O (.int n),O Θ] [] c=.ok (w.map λr=>.tup (nD r)) c):sF [.int n,Θ] c=.ok (aA w) c:=agS (KO hn) (M9 hn) hc (xX _)
theorem adI{m:List D->aa->R D}(h:m [y,x,z] c=r):aB 3 m (ao (ak 1) (0⊂2)) [O x,O y,O z] c=r:=by
 exact adU h
theorem agU(h:j9 [.int n,.int i,Θ] c=.ok (.tup (nD r)) c):aB 3 j9 (ao (ak 1) (0⊂2)) [O (.int i),O (.int n),O Θ] c=.ok (.tup (nD r)) c:=adI h
theorem agX{g:Nat->List Nat}(h:∀i,i<n->j9 [.int n,.int i,Θ] c=.ok (.tup (nD (g i))) c):bN (λ_=>True) (aC 0) aY (aB 3 j9 (ao (ak 1) (0⊂2))) (aV 0 (n:Int)) [U,O (.int n),O Θ] [] c=.ok (((η n).map g).map λr=>.tup (nD r)) c:=by
 have hc:=jF (t:=aY) (c:=c) _ _ _ _ U [] (λj hj=>rfl) (λi hi _=>agU (h i (dD.mp hi)))
 have ft:(η n).filter (λ_=>J)=η n:=by simp
 rw[RC,ft]at hc
 rwa[R3,mH]
theorem agT(hk:lams[k]? = O (E,ns,m))(hl:fG l=J)(hn:n<1000)(hm:∀i j,i<n->j<n->j≠i->m ([.int i,.int j]++l) c=.ok (.bl (f i j)) c) :
  sF [.int n,.lam k E ns l] c=.ok (aA (rB n f)) c:=agY hn (agX λi hi=>ajR hk hl hn λj hj hne=>hm i j hi hj hne)
end
theorem adS{m:List D->aa->R D}{ns:List Str}(h1:d1 e c=.ok x c)(hg:getAll e js=O l)(h2:m [x,.lam kk E ns l] c=.ok v c)(hv:noRef v=J):AS kk m d1 E ns js e c=.ok v c:=by
 unfold AS;rw[h1];simp;rw[hg];dsimp only;rw[h2];simp only[R.aN];rw[if_pos hv]
theorem Mh:∀l:List Nat,fG (nD l)=J
 |[]=>rfl
 |n::l=>by
  show(fu _&&fG _)=J;rw[Mh l];rfl
theorem Yq(w:List (List Nat)):fu (aA w)=J:=by
 show fG _=J
 induction w with
 |nil=>rfl
 |cons r w ih =>
  show(fu _&&fG _)=J;rw[ih,Bool.and_true];exact Mh r
theorem ahX(h1:d1 e c=.ok x c)(h2:d2 e c=.ok y c)(h3:d3 e c=.ok z c)(h4:d4 e c=.ok u c):bX (ao d1 (ao d2 (ao d3 (ao d4 aq)))) e c=.ok (.tup [x,y,z,u]) c:=by
 have:4<=Ω:=cZ ⋯
 simp only[Cj,cY,h1,h2,h3,h4,cU,R.aN];rw[if_pos (by exact this)]
def p9(w:List (List Nat))(i j:Nat):Bool:=!decide (j∈w.getD i [])
def gx(w:List (List Nat)):List (List Nat):=rB w.length (p9 w)
theorem Lz{w:List (List Nat)}(hn:w.length<1000)(c:aa):jd [aA w] c=.ok (aA (gx w)) c:=by
 have hw:=agT (k:=0) (l:=[aA w]) (f:=p9 w) rfl (by show(fu _&&fG [])=J;rw[Yq];rfl) hn λi j hi hj hne=>by
  have e:p9 w i j = !decide (j∈w[i]):=by unfold p9;rw[Iv,H8 hi];rfl
  rw[e];show ql [O (.int i),O (.int j),O (aA w)] c=_;unfold ql;simp only[iw,dj,gz,gs,R.aN,(ou (H8 hi) c)];exact(L5 w[i] j c)
 rw[jd,iN];unfold Bb;have es:bW 1 [aA w]=[O _]:=rfl;rw[es,rj,(adS (d1:=aJ aR ⇑0) (js:=[0]) (e:=[O _]) (by simp only[rq,cY,dj,gz,cU,R.aN];exact iV w c) rfl hw (xX _))]
 show cD ξ c.length (aA (gx w)) c=_;have nr:=xX (gx w);unfold aA at nr ⊢;unfold cD;dsimp only;rw[if_pos nr,Rg]
def jo(i:Nat)(r:List Nat):List (Nat×Nat):=(r.filter λj=>decide (i<j)).map λj=>(i,j)
def dS(w:List (List Nat)):List (Nat×Nat):=(w.mapIdx jo).flatten
theorem ah4(i:Nat)(r:List Nat)(v:Option D)(c:aa):bN (λ_=>True) (aC 0) (aG (av je (ak 1) (ak 0))) (bX (1⊂0)) (nD r) [v,O (.int i)] [] c=.ok ((jo i r).map bh) c:=by
 have h2:2<=Ω:=cZ ⋯
 have:=jF (E:=[O (.int i)]) (t:=(aG (av je (ak 1) (ak 0)))) (a:=(bX (1⊂0))) (c:=c) (λj:Nat=>D.int j) (λj=>bh (i,j)) (λj=>decide (i<j)) r v [] (λj _=>by
  by_cases h:i<j
  ·have h':i<j:=∅
   simp[h,h']
  ·simp) (λj _ _=>by simp[h2,bh])
 unfold jo
 rwa[R3]
def uG:ah:=(d9 (gR (ak 1) (aU (e9 (ak 3)) [U,O 2] (aC 0) (aG (av je (ak 1) (ak 0))) (bX (1⊂0)))))
theorem ah6{i:Nat}{r:List Nat}{acc:List (Nat×Nat)}{c:aa}(a0:Option D)(hr:r.length<1000)(ha:acc.length+1000<1000000) :
  uG [a0,O (.ref c.length),O (.int i),O (.tup (nD r))] (c++[.lst (acc.map bh)])=.ok (.nx [a0,O (.ref c.length),O (.int i),O (.tup (nD r))]) (c++[.lst ((acc++jo i r).map bh)]):=by
 have hs:1000000<=Ω:=⋯
 have hc:=ah4 i r U (c++[.lst (acc.map bh)]);have hl:(jo i r).length<=r.length:=by unfold jo;rw[P0];exact SM _ _
 have hd:aU (e9 (ak 3)) [U,O 2] (aC 0) (aG (av je (ak 1) (ak 0))) (bX (1⊂0)) [a0,O (.ref c.length),O (.int i),O (.tup (nD r))] (c++[.lst (acc.map bh)])=.ok (.lst ((jo i r).map bh)) (c++[.lst (acc.map bh)]):=by
  simp only[nC,Ib,dj,gz,gs,R.aN];rw[if_pos (by simp[nD];omega)]
  have ep:fq [U,O 2] [a0,O (D.ref c.length),O (.int i),O (.tup (nD r))]=[U,O (.int i)]:=rfl;rw[ep,hc];rfl
 have hx:gR (ak 1) (aU (e9 (ak 3)) [U,O 2] (aC 0) (aG (av je (ak 1) (ak 0))) (bX (1⊂0))) [a0,O (.ref c.length),O (.int i),O (.tup (nD r))] (c++[.lst (acc.map bh)])=.ok .aF (c++[.lst ((acc++jo i r).map bh)]):=by
  unfold gR;simp only[dj,gz,gs,R.aN,hd];have hg:(c++[Cell.lst (acc.map bh)])[c.length]? = O (.lst (acc.map bh)):=by simp
  rw[hg];dsimp only;rw[if_pos ⟨by simp;omega,Ym _⟩]
  simp
 unfold uG;rw[Cp,hx];rfl
theorem ah7(w:List (List Nat))(h:i<w.length):dS (w.take i)++jo i w[i]=dS (w.take (i+1)):=by
 unfold dS;rw[UX h,List.mapIdx_append,List.flatten_append];simp[Nat.min_eq_left (Sv h)]
theorem CG:∀{l:List Nat},(∀x∈l,x<=m)->l.sum<=l.length*m
 |[],_=>by simp
 |x::l,h=>by
  have h1:=h x (.head _);have h2:=CG λy hy=>h y (.tail _ hy)
  rw[Vw,RG,WQ];omega
theorem ah8(w:List (List Nat))(m:Nat)(h:∀r∈w,r.length<=m):(dS w).length<=w.length*m:=by
 unfold dS;have:∀x∈(w.mapIdx jo).map List.length,x<=m:=λx hx=>by
  obtain⟨l,hl,rfl⟩:=AP.mp hx;obtain⟨i,hi,rfl⟩:=XI.mp hl;refine R9 ?_ (h _ (RA hi));unfold jo;rw[P0];exact SM _ _
 have:=CG this
 simpa using this
theorem IV{w:List (List Nat)}(hw:w.length<64)(hr:∀r∈w,r.length<=64)(c:aa):vo [aA w] c=.ok (.lst ((dS w).map bh)) c:=by
 have hf:=zT (st:=λ_=>True) (g:=fK 2 (cC (aC 2) (cC (aC 3) gn))) (s:=uG) _ (λ_ v=>[O (aA w),O (.ref c.length),v.1,v.2]) ((w.map λr=>D.tup (nD r)).mapIdx λi x=>.tup [.int i,x]) 0 (U,U) (λ_ _=>trivial) (λi x hx v=>by
  rw[R6];have hi:i<w.length:=by have:=(Q9.mp hx).1;simpa using this
  have ex:x=.tup [.int i,.tup (nD w[i])]:=by
   rw[VL,RB,H8 hi]at hx;cases hx;rfl
  subst ex;have hl:=ah8 (w.take i) 64 λr h=>hr r (RN h)
  have h3:(w.take i).length*64<=64*64:=Nat.mul_le_mul (by rw[Tf];omega) (x6 _)
  have hs:=ah6 (i:=i) (r:=w[i]) (acc:=dS (w.take i)) (c:=c) (O (aA w)) (by have:=hr _ (RA hi);omega) ∅
  rw[ah7 w hi]at hs;exact⟨_,by simp,(O (.int i),O (.tup (nD w[i]))),hs⟩)
 obtain⟨v',hf⟩:=hf;have EL:((w.map λr=>D.tup (nD r)).mapIdx λi x=>D.tup [.int i,x]).length=w.length:=by simp
 rw[R6,EL,Rg]at hf;have hb:A6=aD (aI 1 (gu aq)) (aD (bT _ _ uG) _):=rfl;rw[vo,iN,hb];have es:bW 4 [aA w]=[O (aA w),U,U,U]:=rfl;have e1:aI 1 (gu aq) [O (aA w),U,U,U] c=.ok (.nx [O (aA w),O (.ref c.length),U,U]) (c++[.lst []]):=by simp
 have e2:bT (qB ⇑0) (fK 2 (cC (aC 2) (cC (aC 3) gn))) uG [O (aA w),O (.ref c.length),U,U] (c++[.lst []])=.ok (.nx [O (aA w),O (.ref c.length),v'.1,v'.2]) (c++[.lst ((dS w).map bh)]):=by
  exact hf
 rw[es,fm e1,fm e2];simp[cD]
theorem Wk.short(h:Wk w)(hr:r∈w):r.length<=w.length:=ID (h.row r hr).1 (h.row r hr).2
def gK(w:List (List Nat))(p:Nat×Nat):Nat:=pA (w.getD p.1 []) (w.getD p.2 [])
theorem Mx(h:Wk w)(hr:r∈w)(c:aa):kK c (.tup (nD r))=O r:=by
 obtain⟨h1,h2⟩:=h.row r hr;have hl:=h.len;have:=ID (rC r) (λx hx=>h2 x (sD.mp hx))
 exact Mz ∅ λx hx=>by have:=h2 x hx;omega
theorem Zp{ns:List Nat}(ha:a e c=.ok [x] c)(hb:b e c=.ok [y] c)(hx:kK c x=O ns)(hy:kK c y=O ms):tT a b e c=.ok (.int (pA ns ms:Nat)) c:=by
 unfold tT;rw[ha];simp;rw[hx,hb];simp;rw[hy]
theorem P8(h:Wk w)(ha:a<w.length)(hb:b<w.length)(c:aa):n9 [aA w,.int a,.int b] c=.ok (.int (gK w (a,b):Nat)) c:=by
 have h2:=ou (H8 hb) c;have e:tT (ao (av aH (ak 0) (ak 1)) aq) (ao (av aH (ak 0) (ak 2)) aq) [O (aA w),O (.int a),O (.int b)] c=.ok _ c :=
  Zp (by simp only[cY,iw,dj,gz,gs,cU,R.aN,(ou (H8 ha) c)]) (by simp only[cY,iw,dj,gz,gs,cU,R.aN,h2]) (Mx h (RA ha) c) (Mx h (RA hb) c)
 have e2:gK w (a,b)=pA w[a] w[b]:=by
  unfold gK;rw[Iv,Iv,H8 ha,H8 hb];rfl
 rw[n9,iN];unfold BF;have es:bW 3 [aA w,.int a,.int b]=[O _,O _,O _]:=rfl;rw[es,rj,e,e2];simp[cD,noRef]
def mL(w:List (List Nat)):Option Nat:=w.findIdx? λr=>decide (r.length≠(w.getD 0 []).length)
def dY:Option Nat->D
 |some i=>.int (i:Nat)
 |none=>.aF
def uT:ah:=(bx (aG (av cz (aJ aR ⇑2) (aJ aR (ao (av aH (ak 0) (dC (.int 0))) aq)))) (aP (ak 1)) bJ)
theorem aks{W:D}{i:Nat}(h0:aH W (.int 0) c=.ok (.tup (nD r0)) c):uT [O W,O (.int i),O (.tup (nD r))] c=if r.length≠r0.length then .ok (.rt (.int i)) c else .ok (.nx [O W,O (.int i),O (.tup (nD r))]) c:=by
 have l1:(nD r).length=r.length:=by simp[nD]
 have l0:(nD r0).length=r0.length:=by simp[nD]
 unfold uT
 by_cases e:r.length=r0.length
 ·simp[h0,l1,l0,e]
 ·have e':¬((r.length:Int)=(r0.length:Int)):=∅
  simp[h0,l1,l0,e,e']
theorem Ld{W:D}{r0:List Nat}{c:aa}(h0:aH W (.int 0) c=.ok (.tup (nD r0)) c):∀(w:List (List Nat)) (k:Nat) (v1 v2:Option D),∃u1 u2,bU (λ_=>True) (fK 2 (cC (aC 1) (cC (aC 2) gn))) uT ((w.map λr=>D.tup (nD r)).mapIdx λi x=>.tup [.int ((k+i:Nat):Int),x]) [O W,v1,v2] c =
  (match w.findIdx? λr=>decide (r.length≠r0.length)with|some i=>.ok (.rt (.int ((k+i:Nat):Int))) c|none=>.ok (.nx [O W,u1,u2]) c)
 |[],k,v1,v2=>⟨v1,v2,by simp⟩
 |r::w,k,v1,v2=>by
  have hg:fK 2 (cC (aC 1) (cC (aC 2) gn)) (.tup [.int ((k+0:Nat):Int),.tup (nD r)]) [O W,v1,v2] c=.ok [O W,O (.int ((k+0:Nat):Int)),O (.tup _)] c:=rfl;have hs:=aks (i:=k+0) (r:=r) h0;rw[Q8,List.mapIdx_cons,kr,hg,R.aN,hs,XH]
  by_cases e:r.length=r0.length
  ·obtain⟨u1,u2,ih⟩:=Ld h0 w _ (O (.int ((k+0:Nat):Int))) (O (.tup _));refine⟨u1,u2,?_⟩;rw[if_neg (by simp[e])]
   simp only[R.aN];have e1:((w.map λr=>D.tup (nD r)).mapIdx λi x=>D.tup [.int ((k+(i+1):Nat)),x])=((w.map λr=>D.tup (nD r)).mapIdx λi x=>D.tup [.int ((k+1+i:Nat):Int),x]):=by
    congr 1;funext i x;congr 4;omega
   rw[e1,ih];simp only[e,ne_eq,not_true_eq_false,decide_false];cases w.findIdx? λr=>decide (r.length≠r0.length)with
   |none=>rfl
   |some i =>
    simp only[Option.map_some]
    congr 4;omega
  ·refine⟨U,U,?_⟩;rw[if_pos (by simpa using e)]
   simp only[R.aN];simp[e]
theorem uS{w:List (List Nat)}(h0:0<w.length)(c:aa):vE [aA w] c=.ok (dY (mL w)) c:=by
 have hi:aH (aA w) (.int 0) c=.ok (.tup (nD (w.getD 0 []))) c:=by
  have:=ou (H8 h0) c
  rwa[Iv,H8 h0]
 obtain⟨u1,u2,hf⟩:=Ld hi w 0 U U;simp only[R6]at hf;have e2:bT (qB ⇑0) (fK 2 (cC (aC 1) (cC (aC 2) gn))) uT [O (aA w),U,U] c=(match mL w with|some i=>.ok (.rt (.int i)) c|none=>.ok (.nx [O (aA w),u1,u2]) c):=by
  unfold qB;exact hf
 have hb:BA=aD (bT (qB _) (fK 2 (cC _ _)) uT) _:=rfl;rw[vE,iN,hb];have es:bW 3 [aA w]=[O _,U,U]:=rfl;rw[es,iu,e2];cases mL w with
 |none=>simp[dY,cD,noRef]
 |some i=>simp[dY,cD,noRef]
def lg(w:List (List Nat)):List (Nat×Nat)->Option Nat
 |[]=>U
 |p::_=>O (gK w p)
def tY(w:List (List Nat))(ps:List (Nat×Nat)):Prop:=∀p∈ps,p.1<w.length/\p.2<w.length
theorem LC(o:Option Nat):noRef (dY o)=J/\∀k,dY o≠.ref k:=by
 cases o<;>exact⟨rfl,λk h=>by cases h⟩
theorem Ej(p:Nat×Nat)(c:aa):aH (bh p) (.int 0) c=.ok (.int p.1) c:=rfl
theorem Ei(p:Nat×Nat)(c:aa):aH (bh p) (.int 1) c=.ok (.int p.2) c:=rfl
theorem CM(h:Wk w)(hp:tY w ps)(c:aa):lJ [aA w,.lst (ps.map bh)] c=.ok (dY (lg w ps)) c:=by
 rw[lJ];refine dW ?_ (LC _).1 (LC _).2;have es:bW 2 [aA w,.lst (ps.map bh)]=[O (aA w),O _]:=rfl;rw[es];unfold A8;cases ps with
 |nil=>simp[rE,jg,fV,lg,dY]
 |cons p ps =>
  have h1:aH (.lst ((p::ps).map bh)) (.int 0) c=.ok (bh p) c:=by
   have:=ku (xs:=(p::ps).map bh) (j:=0) (v:=bh p) rfl;rw[jT];exact(by rw[show((0:Int))=((0:Nat):Int)from rfl,this])
  obtain⟨p1,p2⟩:=hp p (.head _);have ht:o8 (ak 1) [O (aA w),O (.lst ((p::ps).map bh))] c=.ok J c:=by simp[rE,jg,fV]
  rw[rj,Cm,ht];simp only[R.aN];rw[if_pos trivial,(jK (m:=n9) (d1:=ak 0) (d2:=av aH (av aH (ak 1) (dC (.int 0))) (dC (.int 0))) (d3:=av aH (av aH (ak 1) (dC (.int 0))) (dC (.int 1))) (e:=[O (aA w),O (.lst ((p::ps).map bh))]) (c:=c) rfl (by simp only[iw,dj,jU,gz,gs,R.aN,h1,Ej]) (by simp only[iw,dj,jU,gz,gs,R.aN,h1,Ei]) (P8 h p1 p2 c))]
  rfl
def uv:ah:=(bx (aG (av cz (aB 3 n9 (ao (ak 0) (ao (av aH (ak 3) (dC (.int 0))) (ao (av aH (ak 3) (dC (.int 1))) aq)))) (ak 2))) (aP (ak 3)) bJ)
def jV(w:List (List Nat))(s:Nat)(ps:List (Nat×Nat)):Option (Nat×Nat):=ps.find? λp=>decide (gK w p≠s)
theorem ag1(h:Wk w){p:Nat×Nat}(hp:p.1<w.length/\p.2<w.length){s:Nat}(a1:Option D)(c:aa):uv [O (aA w),a1,O (.int s),O (bh p)] c=if gK w p≠s then .ok (.rt (bh p)) c else .ok (.nx [O (aA w),a1,O (.int s),O (bh p)]) c:=by
 have hc:=jK (m:=n9) (d1:=ak 0) (d2:=av aH (ak 3) (dC (.int 0))) (d3:=av aH (ak 3) (dC (.int 1))) (e:=[O (aA w),a1,O (.int s),O (bh p)]) (c:=c) rfl (by simp only[iw,dj,jU,gz,gs,R.aN,Ej]) (by simp only[iw,dj,jU,gz,gs,R.aN,Ei]) (P8 h hp.1 hp.2 c)
 unfold uv;rw[NS hc rfl];rfl
theorem IC{w:List (List Nat)}(h:Wk w){s:Nat}{a1:Option D}{c:aa}:∀(ps:List (Nat×Nat)) (v:Option D),tY w ps->∃u,bU (λ_=>True) (aC 3) uv (ps.map bh) [O (aA w),a1,O (.int s),v] c=(match jV w s ps with|some p=>.ok (.rt (bh p)) c|none=>.ok (.nx [O (aA w),a1,O (.int s),u]) c)
 |[],v,_=>⟨v,by simp[jV]⟩
 |p::ps,v,hp=>by
  obtain⟨u,ih⟩:=IC (a1:=a1) h ps (O (bh p)) λq hq=>hp q (.tail _ hq)
  have hs:=ag1 h (hp p (.head _)) (s:=s) a1 c;have hg:aC 3 (bh p) [O (aA w),a1,O (.int s),v] c=.ok [O (aA w),a1,O (.int s),O (bh p)] c:=rfl
  by_cases e:gK w p=s
  ·refine⟨u,?_⟩;rw[Q8,kr,hg,R.aN,hs,if_neg (by simp[e])]
   simp only[R.aN];rw[ih];unfold jV;rw[Vu (by simp[e])]
  ·refine⟨u,?_⟩;rw[Q8,kr,hg,R.aN,hs,if_pos (by simpa using e)]
   unfold jV;rw[Vt (by simpa using e)]
   rfl
def pairD:Option (Nat×Nat)->D
 |some p=>bh p
 |none=>.aF
def iy(w:List (List Nat))(ps:List (Nat×Nat)):Option (Nat×Nat):=match ps with
 |[]=>U
 |p::ps=>jV w (gK w p) (p::ps)
theorem Lw(o:Option (Nat×Nat)):noRef (pairD o)=J/\∀k,pairD o≠.ref k:=by
 cases o<;>exact⟨rfl,λk h=>by cases h⟩
theorem ag6(h:Wk w)(hp:tY w ps)(c:aa):vF [aA w,.lst (ps.map bh)] c=.ok (pairD (iy w ps)) c:=by
 have e0:aI 2 (aB 2 lJ (0⊂1)) [O (aA w),O (.lst (ps.map bh)),U,U] c=.ok (.nx [O (aA w),O (.lst (ps.map bh)),O (dY (lg w ps)),U]) c:=by
  rw[qY,(dR (m:=lJ) (d1:=ak 0) (d2:=ak 1) (e:=[O (aA w),O _,U,U]) (c:=c) rfl rfl (CM h hp c))];rfl
 have hb:BB=aD _ (aD (bT _ (aC 3) uv) _):=rfl;refine dW ?_ (Lw _).1 (Lw _).2;have es:bW 4 [aA w,.lst (ps.map bh)]=[O (aA w),O _,U,U]:=rfl;rw[es,hb,fm e0];cases ps with
 |nil =>
  simp[iy,pairD]
 |cons p ps =>
  obtain⟨u,hf⟩:=IC h (c:=c) (p::ps) U hp;have e1:bT (cj (ak 1)) (aC 3) uv [O (aA w),O (.lst ((p::ps).map bh)),O (dY (lg w (p::ps))),U] c=(match jV w (gK w p) (p::ps)with|some p=>.ok (.rt (bh p)) c|none=>.ok (.nx [O (aA w),O (.lst ((p::ps).map bh)),O (.int (gK w p:Nat)),u]) c):=by
   unfold cj;exact hf
  have eu:iy w (p::ps)=jV w (gK w p) (p::ps):=rfl;rw[iu,e1,eu];cases jV w (gK w p) (p::ps)with
  |none=>simp[pairD]
  |some p=>simp[pairD]
def AJ:ah:=(aD (aI 6 (aB 2 vF (0⊂5))) (bx (aG (av iX (ak 6) (dC .aF))) (aP (bX (ao (ak 4) (ao (av aH (ak 6) (dC (.int 0))) (ao (av aH (ak 6) (dC (.int 1))) aq))))) bJ))
theorem Pr{w:List (List Nat)}(h:Wk w){ps:List (Nat×Nat)}(hp:tY w ps){c:aa}(a1 a2 a3 a6:Option D)(word:Str):∃u,AJ [O (aA w),a1,a2,a3,O (.str word),O (.lst (ps.map bh)),a6] c=(match iy w ps with
  |some p=>.ok (.rt (.tup [.str word,.int p.1,.int p.2])) c
  |none=>.ok (.nx [O (aA w),a1,a2,a3,O (.str word),O (.lst (ps.map bh)),u]) c):=by
 have hs:=dR (d1:=ak 0) (d2:=ak 5) (e:=[O (aA w),a1,a2,a3,O (.str word),O (.lst (ps.map bh)),a6]) rfl rfl (ag6 h hp c);have e0:aI 6 (aB 2 vF (0⊂5)) [O (aA w),a1,a2,a3,O (.str word),O (.lst (ps.map bh)),a6] c=.ok (.nx [O (aA w),a1,a2,a3,O (.str word),O (.lst (ps.map bh)),O (pairD (iy w ps))]) c:=by
  rw[qY,hs];rfl
 refine⟨O (pairD (iy w ps)),?_⟩;unfold AJ;rw[fm e0];cases iy w ps with
 |none=>simp[pairD,fJ]
 |some p =>
  have h3:=ahW (x:=.str word) (y:=.int p.1) (z:=.int p.2) (d1:=ak 4) (d2:=av aH (ak 6) (dC (.int 0))) (d3:=av aH (ak 6) (dC (.int 1))) (e:=[O (aA w),a1,a2,a3,O _,O (.lst (ps.map bh)),O (bh p)]) (c:=c) rfl (by simp only[iw,dj,jU,gz,gs,R.aN,Ej]) (by simp only[iw,dj,jU,gz,gs,R.aN,Ei])
  have hn:aG (av iX (ak 6) (dC .aF)) [O (aA w),a1,a2,a3,O (.str word),O (.lst (ps.map bh)),O (bh p)] c=.ok J c:=rfl;show bx _ _ _ [O (aA w),a1,a2,a3,O _,O _,O (bh p)] c=_;rfl
def jG(w:List (List Nat)):D:=match mL w with
 |some i=>.tup [.str "place",.int (i:Nat)]
 |none=>match iy w (dS w)with
  |some p=>.tup [.str "tied",.int p.1,.int p.2]
  |none=>match iy w (dS (gx w))with
   |some p=>.tup [.str "apart",.int p.1,.int p.2]
   |none=>.tup [.str "even",.tup [.int (w.length:Nat),.int ((w.getD 0 []).length:Nat),dY (lg w (dS w)),dY (lg w (dS (gx w)))]]
theorem IW{w:List (List Nat)}(hl:w.length<=m)(h:∀r∈w,∀x∈r,x<m):∀p∈dS w,p.1<m/\p.2<m:=λp hp=>by
 obtain⟨l,hl',hp⟩:=List.mem_flatten.mp hp;obtain⟨i,hi,rfl⟩:=XI.mp hl';obtain⟨j,hj,rfl⟩:=AP.mp hp;exact⟨by simp only;omega,h _ (RA hi) j (R0.mp hj).1⟩
theorem Ir(n:Nat)(f:Nat->Nat->Bool):∀r∈rB n f,r.length<=n/\∀x∈r,x<n:=λr hr=>by
 obtain⟨i,_,rfl⟩:=AP.mp hr;refine⟨?_,λx hx=>dD.mp (R0.mp hx).1⟩
 have:=SM (λj=>decide (j≠i)&&f i j) (η n)
 rwa[Sb]at this
theorem agZ(n:Nat)(f:Nat->Nat->Bool):(rB n f).length=n:=by simp[rB]
theorem OW{xs:List D}(hg:g x e c=.ok e' c)(hs:s e' c=.ok (.rt v) c):bU (λ_=>True) g s (x::xs) e c=.ok (.rt v) c:=by
 rw[kr,hg,R.aN,hs];rfl
theorem Fi{xs:List D}(hg:g x e c=.ok e' c)(hs:s e' c=.ok (.nx e'') c)(h:bU (λ_=>True) g s xs e'' c=r):bU (λ_=>True) g s (x::xs) e c=r:=by
 rwa[kr,hg,R.aN,hs]
theorem uI(h:s e c=.ok (.nx e') c)(h2:t e' c=r):aD s t e c=r:=by
 rw[iu,h];exact h2
theorem aiO(h:s e c=.ok (.rt v) c):aD s t e c=.ok (.rt v) c:=by
 rw[iu,h];rfl
def evR:ah:=aP (bX (ao (dC (.str "even")) (ao (bX (ao (aJ aR ⇑0) (ao (aJ aR (ao (av aH (ak 0) (dC (.int 0))) aq)) (ao (aB 2 lJ (0⊂2)) (ao (aB 2 lJ (0⊂3)) aq))))) aq)))
theorem acB(h:Wk w)(h0:0<w.length)(c:aa):fH [aA w] c=.ok (jG w) c:=by
 have hl:=h.len;have hn:=IV (w:=w) hl (λr hr=>by have:=h.short hr;omega) c
 have ia:(gx w).length=w.length:=agZ _ _;have hf:=IV (w:=gx w) ∅ (λr hr=>by have:=(Ir _ _ r hr).1;omega) c
 have ho:=Lz (w:=w) ∅ c
 have p1:tY w (dS w):=IW (x6 _) λr hr x hx=>(h.row r hr).2 x hx
 have p2:tY w (dS (gx w)):=IW (So ia) λr hr x hx=>(Ir _ _ r hr).2 x hx
 have hi:aH (aA w) (.int 0) c=.ok (.tup (nD (w.getD 0 []))) c:=by
  rw[Iv,H8 h0];exact ou (H8 h0) c
 have hp:=uS h0 c;have hw:=iV w c;have s1:=CM h p1 c;have s2:=CM h p2 c;obtain⟨u1,f1⟩:=Pr h p1 (c:=c) (O .aF) (O (.lst ((dS w).map bh))) (O (.lst ((dS (gx w)).map bh))) U "tied"
 obtain⟨u2,f2⟩:=Pr h p2 (c:=c) (O .aF) (O (.lst ((dS w).map bh))) (O (.lst ((dS (gx w)).map bh))) u1 "apart"
 have lr:aR [.tup (nD (w.getD 0 []))] c=.ok (.int ((w.getD 0 []).length:Nat)) c:=by rw[Ie];simp[nD]
 unfold jG
 generalize aA (gx w)=V at ho hf
 generalize D.lst ((dS w).map bh)=A at hn s1 f1 f2
 generalize D.lst ((dS (gx w)).map bh)=B at hf s2 f1 f2
 generalize D.tup (nD (w.getD 0 []))=σ at hi lr
 generalize aA w=W at hn ho hi hp hw s1 s2 f1 f2 ⊢
 have key:∀v,noRef v=J->(∀k,v≠.ref k)->BE [O W,U,U,U,U,U,U] c=.ok (.rt v) c->fH [W] c=.ok v c:=λv h2 h3 h1=>dW h1 h2 h3
 have e0:=λx hp=>cJ (i:=1) (e:=[O W,U,U,U,U,U,U]) (fQ (m:=vE) (d1:=ak 0) (x:=W) (v:=x) (c:=c) rfl hp)
 cases q:mL w with
 |some i =>
  rw[q]at hp;exact key _ rfl (by simp) (uI (e0 _ hp) (aiO (dU (d:=bX (ao (dC (.str "place")) ⇑1)) (e:=[O W,O (.int (i:Nat)),U,U,U,U,U]) (ux (x:=.str "place") (y:=.int (i:Nat)) rfl rfl))))
 |none =>
  rw[q]at hp;have pre:∀r,bU (λ_=>True) (fK 2 (cC (aC 4) (cC (aC 5) gn))) AJ [.tup [.str "tied",A],.tup [.str "apart",B]] [O W,O .aF,O A,O B,U,U,U] c=r->∀v,noRef v=J->(∀k,v≠.ref k)->(r.bind λfl c=>match fl with|.nx e=>evR e c|r=>.ok r c)=.ok (.rt v) c->fH [W] c=.ok v c:=λr hr v h2 h3 hv=>by
   refine key v h2 h3 (uI (e0 _ hp) (uI (e':=[O W,O .aF,U,U,U,U,U]) rfl (uI (cJ (e:=[O W,O .aF,U,U,U,U,U]) (fQ (x:=W) rfl hn)) (uI (cJ (e:=[O W,O .aF,O A,U,U,U,U]) (fQ (fQ (x:=W) rfl ho) hf)) ?_))));have Ez:e9 (bX (ao (bX (ao (dC (.str "tied")) ⇑2)) (ao (bX (ao (dC (.str "apart")) ⇑3)) aq))) [O W,O .aF,O A,O B,U,U,U] c=.ok ⟨[.tup [.str "tied",A],.tup [.str "apart",B]],λ_=>True⟩ c:=by
    rfl
   rw[iu];show((bT _ _ AJ [O W,O .aF,O A,O B,U,U,U] c).bind _)=_;rw[rm,Ez];simp only[R.aN];rw[hr];exact hv
  cases q:iy w (dS w)with
  |some p =>
   rw[q]at f1;exact pre _ (OW rfl f1) _ rfl (by simp) rfl
  |none =>
   rw[q]at f1;cases q:iy w (dS (gx w))with
   |some p =>
    rw[q]at f2;exact pre _ (Fi rfl f1 (OW rfl f2)) _ rfl (by simp) rfl
   |none =>
    rw[q]at f2;refine pre (.ok (.nx [O W,O .aF,O A,O B,O (.str "apart"),O B,u2]) c) (Fi rfl f1 (Fi rfl f2 (by simp))) _ ?_ (by simp) (dU (ux (x:=.str "even") rfl (ahX (ck (x:=W) rfl hw) (ck (aZ (x:=W) (y:=.int 0) rfl rfl hi) lr) (dR (x:=W) (y:=A) rfl rfl s1) (dR (x:=W) (y:=B) rfl rfl s2))))
    cases lg w (dS w)<;>cases lg w (dS (gx w))<;>rfl
def i7(m:Nat)(f:Nat->Nat->Bool)(p q:Nat):Nat:=((η m).filter λk=>f p k&&f q k).length
theorem ad1(f:Nat->Nat->Bool):pA (bu m f p) (bu m f q)=i7 m f p q:=by
 refine(Qo (rs:=(η m).filter λk=>f p k&&f q k) (Ru.filter _) λx=>?_).symm
 unfold bu;simp only[R0,dD,RT];exact⟨fun⟨a,b,c⟩=>⟨⟨a,b⟩,a,c⟩,fun⟨⟨a,b⟩,_,c⟩=>⟨a,b,c⟩⟩
def ie(m:Nat)(f:Nat->Nat->Bool)(i:Nat):Nat:=((η m).map (f i)).countP id
theorem FU(f:Nat->Nat->Bool){p:Nat×Nat}(h1:p.1<m)(h2:p.2<m):gK (wF m f) p=i7 m f p.1 p.2:=by
 unfold gK;rw[rA f h1,rA f h2,ad1]
def uY(m:Nat)(q:Nat->Nat->Bool)(i:Nat):List (Nat×Nat):=((List.range' (i+1) (m-(i+1))).filter (q i)).map λj=>(i,j)
def dX(m:Nat)(q:Nat->Nat->Bool):List (Nat×Nat):=(η m).flatMap (uY m q)
theorem aiY(h:i<m):η m=η (i+1)++List.range' (i+1) (m-(i+1)):=by
 have e:m=(i+1)+(m-(i+1)):=∅
 rw[UO,UO]
 conv=>lhs;rw[e]
 rw[<-XG,R6]
theorem Yy(f:Nat->Nat->Bool)(h:i<m):jo i (bu m f i)=uY m f i:=by
 unfold jo uY bu
 congr 1
 rw[Ux,aiY h,Vs];have e1:(η (i+1)).filter (λa=>decide (i<a)&&f i a)=[]:=by
  rw[Uw];intro a ha;have:=dD.mp ha;simp;omega
 rw[e1,RC];refine Si λa ha=>?_
 have:=Sh.mp ha;have:i<a:=∅
 simp[this]
theorem yd(m:Nat)(f:Nat->Nat->Bool):dS (wF m f)=dX m f:=by
 unfold dS dX wF;rw[Vr]
 congr 1
 apply Rx
 ·simp
 ·intro i h1 h2;have hi:i<m:=by simpa using h1
  simp only[XF,V3,V6];exact Yy f hi
def nX(f:Nat->Nat->Bool):Nat->Nat->Bool:=λi j=>!f i j
theorem ajU{q r:Nat->Nat->Bool}(h:∀i j,i<j->j<m->q i j=r i j):dX m q=dX m r:=by
 unfold dX;rw[Vr,Vr]
 congr 1
 refine RV λi hi=>?_
 unfold uY
 congr 1
 refine Si λj hj=>?_
 have:=Sh.mp hj;exact h i j ∅ ∅
theorem Pk(m:Nat)(f:Nat->Nat->Bool):dS (gx (wF m f))=dX m (nX f):=by
 have e:gx (wF m f)=wF m (λi j=>decide (j≠i) && !f i j):=by
  unfold gx rB wF;rw[P0,Sb];refine RV λi hi=>?_
  have hi:=dD.mp hi;have e2:bu m (λi j=>decide (j≠i) && !f i j) i=(η m).filter λj=>decide (j≠i) && !f i j:=rfl
  rw[e2];unfold x8;refine Si λj hj=>?_
  have hj:=dD.mp hj;have:=rA f hi;unfold wF at this;unfold p9;rw[this];unfold bu
  congr 2
  cases hf:f i j<;>simp[R0,hj,hf]
 rw[e,yd];refine ajU λi j hij _=>?_
 have:j≠i:=∅
 simp[nX,this]
theorem rY{q:Nat->Nat->Bool}:∀p∈dX m q,p.1<m/\p.2<m:=λp hp=>by
 obtain⟨i,hi,hp⟩:=U9.mp hp;obtain⟨j,hj,rfl⟩:=AP.mp hp;have:=Sh.mp (R0.mp hj).1;have:=dD.mp hi;exact⟨by simp only;omega,by simp only;omega⟩
theorem Pd(P:List Nat->Bool)(g:Nat->List Nat):∀(n a:Nat),((List.range' a n).map g).findIdx? P=((List.range' a n).find? λi=>P (g i)).map λi=>i-a
 |0,a=>rfl
 |n+1,a=>by
  rw[List.range'_succ,Q8,XH];cases h:P (g a)with
  |true=>rw[Vt (by exact h)];simp
  |false =>
   rw[Vu (by simp[h]),Pd P g n (a+1)]
   cases hf:(List.range' (a+1) n).find? λi=>P (g i)with
   |none=>simp
   |some i =>
    have:=Sh.mp (Ve hf);simp;omega
theorem FL(m:Nat)(f:Nat->Nat->Bool)(i:Nat):(bu m f i).length=ie m f i:=by
 unfold ie bu;rw[SK,U8];rfl
theorem Lc(f:Nat->Nat->Bool)(h0:0<m):mL (wF m f)=(η m).find? λi=>decide (ie m f i≠ie m f 0):=by
 unfold mL;rw[rA f h0,FL];unfold wF;rw[UO,Pd];have e:(λi=>decide ((bu m f i).length≠ie m f 0))=λi=>decide (ie m f i≠ie m f 0):=by
  funext i
  rw[FL]
 rw[e];cases(List.range' 0 m).find? λi=>decide (ie m f i≠ie m f 0)<;>simp
theorem qg{q:Nat->Nat->Bool}:p∈dX m q↔p.1<p.2/\p.2<m/\q p.1 p.2=J:=by
 unfold dX uY;rw[U9]
 constructor
 ·rintro ⟨i,hi,hp⟩
  rw[AP]at hp;obtain⟨j,hj,rfl⟩:=hp;rw[R0,Sh]at hj;exact⟨by show i<j;omega,by show j<m;omega,hj.2⟩
 ·rintro ⟨h1,h2,h3⟩
  refine⟨p.1,dD.mpr ∅,?_⟩
  rw[AP];refine⟨p.2,?_,rfl⟩;rw[R0,Sh];exact⟨∅,h3⟩
structure Evn (m:Nat) (f:Nat->Nat->Bool) (k a b:Nat):Prop where
 tR:∀p,p<m->ie m f p=k
 com:∀p q,p<m->q<m->p≠q->i7 m f p q=cond (f p q) a b
 hn:∃p q,p<m/\q<m/\p≠q/\f p q=J
 hf:∃p q,p<m/\q<m/\p≠q/\f p q=ξ
theorem acW{f:Nat->Nat->Bool}(h:∀p,p<m->ie m f p=k)(h0:0<m):mL (wF m f)=U:=by
 rw[Lc f h0,TL];intro i hi;rw[dD]at hi;rw[h i hi,h 0 h0];simp
theorem ag9{f q:Nat->Nat->Bool}(h:∀p∈dX m q,i7 m f p.1 p.2=a):iy (wF m f) (dX m q)=U:=by
 have hc:∀p∈dX m q,gK _ p=a:=λp hp=>by
  rw[FU f (rY p hp).1 (rY p hp).2];exact h p hp
 cases hp:dX m q with
 |nil=>rfl
 |cons p ps =>
  rw[hp]at hc;show jV _ _ _=U;unfold jV;rw[TL];intro x hx;rw[hc x hx,hc p (by simp)]
  simp
theorem aif{f q:Nat->Nat->Bool}(h:∀p∈dX m q,i7 m f p.1 p.2=a)(hn:dX m q≠[]):lg (wF m f) (dX m q)=O a:=by
 have hc:∀p∈dX m q,gK _ p=a:=λp hp=>by
  rw[FU f (rY p hp).1 (rY p hp).2];exact h p hp
 cases hp:dX m q with
 |nil=>exact absurd hp hn
 |cons p ps =>
  rw[hp]at hc;show O _=_;rw[hc p (by simp)]
theorem Ly{q:Nat->Nat->Bool}(hs:∀i k,q i k=q k i)(h:∃i k,i<m/\k<m/\i≠k/\q i k=J):dX m q≠[]:=by
 obtain⟨i,k,hi,hk,hne,hq⟩:=h
 rcases XE hne with q'|q'
 ·have:=(qg (p:=(i,k))).mpr ⟨q',hk,hq⟩;intro e;rw[e]at this;cases this
 ·have:=(qg (p:=(k,i))).mpr ⟨q',hi,by show q k i=J;rw[hs];exact hq⟩
  intro e;rw[e]at this;cases this
theorem PL(m:Nat)(f:Nat->Nat->Bool)(p q:Nat):i7 m f p q=(η m).countP λk=>f p k&&f q k:=by
 unfold i7;rw[U8]
theorem PB(m:Nat)(f:Nat->Nat->Bool)(p:Nat):ie m f p=(η m).countP (f p):=by
 unfold ie;rw[SK];rfl
section
variable {m:Nat}{Z:Nat->Nat}{f g:Nat->Nat->Bool}
theorem Mv.yP(h:Mv m Z f g)(hp:p<m):∃a,a<m/\Z a=p:=by
 have:=h.pm.mem_iff.mpr (dD.mpr hp);rw[AP]at this;obtain⟨a,ha,e⟩:=this;exact⟨a,dD.mp ha,e⟩
theorem Mv.inj(h:Mv m Z f g)(ha:a<m)(hb:b<m)(e:Z a=Z b):a=b:=by
 have h1:((η m).map Z)[a]'(by simpa using ha)=((η m).map Z)[b]'(by simpa using hb):=by simpa using e
 exact(SS (h.pm.nodup_iff.mpr Ru)).mp h1
theorem Mv.tR(h:Mv m Z f g)(hp:p<m):ie m g p=ie m f (Z p):=by
 rw[PB,PB,<-h.pm.countP_eq (f _),SK];refine Rv λx hx=>?_
 rw[dD]at hx;show g p x=J↔f _ _=J;rw[h.eq p x hp hx]
theorem Mv.cs(h:Mv m Z f g)(hp:p<m)(hq:q<m):i7 m g p q=i7 m f (Z p) (Z q):=by
 rw[PL,PL,<-h.pm.countP_eq (λk=>f _ k&&f _ k),SK]
 refine Rv λx hx=>?_
 rw[dD]at hx;show _=J↔(f _ _&&f _ _)=J;rw[h.eq p x hp hx,h.eq q x hq hx]
end
theorem CL:10000<Ω:=⋯
def jf:List Nat->Nat
 |[]=>0
 |[a]=>a+1
 |_::b::l=>jf (b::l)
theorem DY(K:List Nat)(k:Nat):jf (K++[k])=k+1:=by
 induction K with
 |nil=>rfl
 |cons a K ih =>
  cases K with
  |nil=>rfl
  |cons b K=>exact ih
def jI(m:Nat)(g:Nat->Nat->Bool)(K:List Nat):List Nat:=(List.range' (jf K) (m-jf K)).filter λk=>K.all λj=>g k j
def ng(m:Nat)(g:Nat->Nat->Bool)(K:List Nat):List (List Nat):=(jI m g K).map λk=>K++[k]
def dB(m:Nat)(g:Nat->Nat->Bool):Nat->List (List Nat)
 |0=>[[]]
 |s+1=>(dB m g s).flatMap (ng m g)
theorem wV{g:Nat->Nat->Bool}:k∈jI m g K↔jf K<=k/\k<m/\∀j∈K,g k j=J:=by
 unfold jI;rw[R0,Sh,RW]
 constructor
 ·rintro ⟨⟨h1,h2⟩,h3⟩
  exact⟨h1,∅,h3⟩
 ·rintro ⟨h1,h2,h3⟩
  exact⟨⟨h1,∅⟩,h3⟩
def dN(m:Nat)(g:Nat->Nat->Bool):Nat->List (List Nat)
 |0=>[η m]
 |s+1=>(dN m g s).flatMap λsome=>some.map λp=>some.filter λo=>decide (o>p)&&g p o
theorem O9{α β:Type}{f h:α->List β}:∀{l:List α},(∀a∈l,f a=h a)->l.flatMap f=l.flatMap h
 |[],_=>rfl
 |a::l,q=>by rw[XD,XD,q a (by simp),O9 λb hb=>q b (by simp[hb])]
theorem Ct{g:Nat->Nat->Bool}(hs:∀i k,g i k=g k i):∀s,dN m g s=(dB m g s).map (jI m g)
 |0=>by
  have e:jI m g []=η m:=by
   have e0:jI m g []=List.range' 0 (m-0):=List.filter_eq_self.mpr (λa _=>rfl)
   rw[e0,UO];rfl
  show[η m]=[jI m g []];rw[e]
 |s+1=>by
  show(dN m g s).flatMap _=((dB m g s).flatMap (ng m g)).map _;rw[Ct hs s,List.flatMap_map,List.map_flatMap];refine O9 λK hK=>?_
  unfold ng;rw[R3];refine RV λp hp=>?_
  obtain⟨p1,p2,p3⟩:=wV.mp hp;show(jI m g K).filter _=jI m g (K++[p]);unfold jI;rw[DY,Ux];have e:List.range' (jf K) (m-jf K)=List.range' (jf K) (p+1-jf K)++List.range' (p+1) (m-(p+1)):=by
   have:m-jf K=(p+1-jf K)+(m-(p+1)):=∅
   rw[this,<-XG]
   congr 2
   omega
  rw[e,Vs];have e1:(List.range' (jf K) (p+1-jf K)).filter (λo=>(decide (o>p)&&g p o)&&K.all λj=>g o j)=[]:=by
   rw[Uw];intro o ho;rw[Sh]at ho;have:decide (o>p)=ξ:=by rw[decide_eq_false_iff_not];omega
   rw[this];simp
  rw[e1,RC];refine Si λo ho=>?_
  rw[Sh]at ho;have:decide (o>p)=J:=by rw[decide_eq_true_eq];omega
  rw[this,List.all_append];simp[hs p o,Uy]
theorem ahu{g:Nat->Nat->Bool}(hs:∀i k,g i k=g k i)(s:Nat):((dN m g s).map List.length).sum=(dB m g (s+1)).length:=by
 rw[Ct hs,R3];show _=((dB m g s).flatMap (ng m g)).length;rw[XC]
 congr 1
 refine RV λK _=>?_
 show(jI m g K).length=(ng m g K).length;unfold ng;rw[P0]
def cB(l:List Nat):D:=.lst (nD l)
theorem D0(l:List Nat):noRef (cB l)=J:=by
 unfold cB noRef;exact j7 l
theorem DJ(g:Nat->Nat->Bool)(hk:k<m):decide (k∈bu m g i)=g i k:=by
 rw[S5,decide_eq_true_eq];unfold bu;rw[R0,dD];simp[hk]
theorem Iq(g:Nat->Nat->Bool)(hi:i<m):(wF m g)[i]? = O (bu m g i):=by
 unfold wF;rw[RB,U7 hi];rfl
theorem NO(g:Nat->Nat->Bool)(hp:p<m)(ho:o<m)(h1:d1 e c=.ok ↥o c)(h2:d2 e c=.ok (aA (wF m g)) c)(h3:d3 e c=.ok ↥p c):aG (av inD d1 (av aH d2 d3)) e c=.ok (g p o) c:=by
 have:=pB (aZ (f:=inD) (x:=.int (o:Int)) (y:=.tup (nD (bu m g p))) h1 (aZ (x:=aA (wF m g)) (y:=.int (p:Int)) h2 h3 (ou (Iq g hp) c)) (NQ (bu m g p) o c));rw[DJ g ho]at this;exact this
theorem lH(l:List Nat):(nD l).length=l.length:=by simp[nD]
def Ng:ai:=(i6 (aG (av gm (ak 0) (ak 1))) (aG (av inD (ak 0) (av aH (ak 2) (ak 1)))))
theorem ZF(g:Nat->Nat->Bool)(hp:p<m)(hl:∀x∈l,x<m)(hn:l.length<1000)(c:aa):vD [aA (wF m g),.int (p:Int),cB l] c=.ok (cB (l.filter λo=>decide (o>p)&&g p o)) c:=by
 have sz:=CL;have iY:=jF (E:=[O (.int p),O (aA (wF m g))]) (t:=Ng) (a:=ak 0) (c:=c) (λo:Nat=>D.int o) (λo:Nat=>D.int o) (λo=>decide _&&g p o) l U [] (λo ho=>by
  have h1:aG (av gm (ak 0) (ak 1)) [O (.int o),O (.int p),O (aA (wF m g))] c=.ok (decide (o>p)) c:=by
   refine pB (aZ (x:=.int o) (y:=.int p) rfl rfl ?_);show R.ok (D.bl (decide (_>_))) c=_;have:decide ((o:Int)>(p:Int))=decide (o>p):=by rw[decide_eq_decide];omega
   rw[this]
  have h2:aG (av inD (ak 0) (av aH (ak 2) (ak 1))) [O (.int o),O (.int p),O (aA _)] c=.ok _ c:=NO g hp (hl o ho) rfl rfl rfl;unfold Ng i6;rw[h1,R.aN];cases decide (o>p)with
  |true=>rw[if_pos rfl,h2];rfl
  |false=>rw[if_neg ⋯];rfl) (λo _ _=>rfl)
 rw[RC]at iY;have hcc:=fN (pick:=[U,O 1,O 0]) (e:=[O (aA _),O (.int p),O _]) (nN (d:=ak 2) (l:=nD l) rfl) (by rw[lH];omega) iY
 exact dW (b:=Bs) (dU hcc) (D0 _) (λk h=>by cases h)
theorem ML(h:d e c=.ok ↥m c)(h1:0<m)(h2:m<1000):qA (ao d aq) e c=.ok (cB (η m)) c:=by
 simp only[ahl,cY,h,cU,R.aN];rw[if_pos ⟨∅,∅⟩]
 unfold uQ cB nD;simp[R3,Sl]
def eE(Θ:List (List Nat)):List D:=Θ.map cB
def qV(c:aa)(X:D)(Θ:List D):Prop:=X=.lst Θ\/∃k,X=.ref k/\c[k]? = O (.lst Θ)
theorem qV.app(h:qV c X Θ)(cs:aa):qV (c++cs) X Θ:=by
 rcases h with h|⟨k,h1,h2⟩
 ·exact .inl h
 ·exact .inr ⟨k,h1,by rw[RY (Q9.mp h2).1];exact h2⟩
theorem OY{st:aa->Prop}(inv:Nat->Ev->aa->Prop)(hst:∀k e c,inv k e c->st c):∀(items:List D) (k:Nat) (e:Ev) (c:aa),inv k e c ->
  (∀i x,items[i]? = O x->∀e c,inv (k+i) e c->∃e' e'' c' c'',g x e c=.ok e' c'/\s e' c'=.ok (.nx e'') c''/\inv (k+i+1) e'' c'') ->
  ∃e' c',inv (k+items.length) e' c'/\bU st g s items e c=.ok (.nx e') c'
 |[],k,e,c,hi,_=>⟨e,c,hi,by unfold bU;rw[if_pos (hst _ _ _ hi)]⟩
 |x::xs,k,e,c,hi,h=>by
  obtain⟨e',e'',c',c'',h1,h2,h3⟩:=h 0 x rfl e c hi;obtain⟨e3,c3,i3,h4⟩:=OY inv hst xs (k+1) e'' c'' h3 λi y hy e c hi=>by
   have e1:k+1+i=k+(i+1):=∅
   rw[e1]at hi ⊢;exact h (i+1) y hy e c hi
  refine⟨e3,c3,?_,?_⟩
  ·rw[RG,show k+(xs.length+1)=k+1+xs.length by omega];exact i3
  ·unfold bU;rw[if_pos (hst _ _ _ hi),h1,R.aN,h2,R.aN];exact h4
theorem JG(h:qV c X Θ)(hd:d e c=.ok X c):∃st:aa->Prop,cj d e c=.ok ⟨Θ,st⟩ c/\∀c',qV c' X Θ->st c':=by
 rcases h with rfl|⟨k,rfl,hk⟩
 ·exact⟨λ_=>True,by unfold cj;rw[hd];rfl,λ_ _=>trivial⟩
 ·refine⟨λc'=>c'[k]? = O (.lst Θ),?_,λc' h=>?_⟩
  ·unfold cj;rw[hd];simp only[R.aN,hk]
  ·rcases h with h|⟨k',h1,h2⟩
   ·cases h
   ·cases h1;exact h2
theorem ado{sr:Ev->aa->R Src}{st:aa->Prop}{pick:List (Option Nat)}{items:List D}(h1:sr e c=.ok ⟨items,st⟩ c)(hl:items.length<Ω)(h2:bN st g t a items (fq pick e) [] c=.ok l c'):aU sr pick g t a e c=.ok (.lst l) c':=by
 rw[nC,h1];simp;rw[if_pos hl,h2];rfl
theorem ab2{sr:Ev->aa->R Src}{st:aa->Prop}(h1:sr e c=.ok ⟨l,st⟩ c')(h2:bU st g s l e c'=r):bT sr g s e c=r:=by
 rw[rm,h1];exact h2
def stp(g:Nat->Nat->Bool)(l:List Nat):List (List Nat):=l.map λp=>l.filter λo=>decide (o>p)&&g p o
theorem Cs(m:Nat)(g:Nat->Nat->Bool)(s:Nat):dN m g (s+1)=(dN m g s).flatMap (stp g):=rfl
theorem adt(m:Nat)(g:Nat->Nat->Bool)(K:List Nat):(jI m g K).length<=m:=by
 refine R9 (SM _ _) ?_;rw[List.length_range'];omega
theorem Ii{g:Nat->Nat->Bool}(hs:∀i k,g i k=g k i)(h:l∈dN m g s):(∀x∈l,x<m)/\l.length<=m:=by
 rw[Ct hs]at h;obtain⟨K,_,rfl⟩:=AP.mp h;exact⟨λx hx=>(wV.mp hx).2.1,adt m g K⟩
theorem acg{α β:Type}(f:α->List β)(Θ:List α)(i:Nat):((Θ.take i).flatMap f).length<=(Θ.flatMap f).length:=by
 have e:Θ.flatMap f=(Θ.take i).flatMap f++(Θ.drop i).flatMap f:=by rw[<-XA,Sm]
 rw[e,Rq];omega
theorem Zh(Θ:List (List Nat)):bF (eE Θ)=J:=iC.mpr λd hd=>by
 obtain⟨l,_,rfl⟩:=AP.mp hd;exact D0 l
theorem ait(c:aa)(x y:Cell):(c++[x]).set c.length y=c++[y]:=by
 simp
def MC:af:=(aB 3 vD (ao (ak 1) (0⊂2)))
def DR:ah:=(d9 (gR (ak 4) (aU (cj (ak 5)) [U,O 0,O 5] (aC 0) aY MC)))
def vh:ah:=aD (aI 4 (gu aq)) (aD (bT (cj (ak 2)) (aC 5) DR) (aI 2 (ak 4)))
theorem CK:1000000<Ω:=⋯
theorem YY{g:Nat->Nat->Bool}{acc:List (List Nat)}{c:aa}(a1 a2 a3:Option D)(hl:∀x∈l,x<m)(hn:l.length<=32)(ha:acc.length<=65536):
  DR [O (aA (wF m g)),a1,a2,a3,O (.ref c.length),O (cB l)] (c++[.lst (eE acc)])=.ok (.nx [O (aA (wF m g)),a1,a2,a3,O (.ref c.length),O (cB l)]) (c++[.lst (eE (acc++stp g l))]):=by
 have sz:=CK
 generalize hC:c++[Cell.lst (eE acc)]=C
 have iY:=wR (c:=C) (st:=λ_=>True) (E:=[O _,O (cB l)]) (t:=aY) (a:=MC) trivial _ _ l U [] (λ_ _=>rfl) (λp hp=>jK (m:=vD) (d2:=ak 0) (d3:=ak 2) rfl rfl rfl (ZF g (hl p hp) hl ∅ C))
 rw[RC]at iY;have hcc:=fN (pick:=[U,O 0,O 5]) (e:=[O (aA (wF m g)),a1,a2,a3,O (.ref c.length),O (cB l)]) (nN (d:=ak 5) (l:=nD l) rfl) (by rw[lH];omega) iY
 have el:(l.map λp=>cB (l.filter λo=>decide (o>p)&&g p o))=eE (stp g l):=by unfold eE stp;rw[R3];rfl
 rw[el]at hcc;have hsl:(stp g l).length=l.length:=by unfold stp;rw[P0]
 have h:=wL (acs (dO:=ak 4) (k:=c.length) (acc:=eE acc) rfl hcc (by rw[<-hC];simp) (by unfold eE;rw[P0,P0];omega) (Zh _))
 rw[<-hC,ait]at h;have e2:eE acc++eE (stp g l)=eE (acc++stp g l):=by unfold eE;rw[S8]
 rw[e2]at h;rw[<-hC];exact h
theorem YX{g:Nat->Nat->Bool}(hg:gU g)(hm:m<=32)(hwl:(dN m g (k+1)).length<=65536)(hX:qV c X (eE (dN m g k)))(a1 a3 a4 a5:Option D):
  ∃w5,vh [O (aA (wF m g)),a1,O X,a3,a4,a5] c=.ok (.nx [O (aA (wF m g)),a1,O (.ref c.length),a3,O (.ref c.length),w5]) (c++[.lst (eE (dN m g (k+1)))]):=by
 have sz:=CK;have e1:aI 4 (gu aq) [O (aA (wF m g)),a1,O X,a3,a4,a5] c=.ok (.nx [O (aA (wF m g)),a1,O X,a3,O (.ref c.length),a5]) (c++[.lst (eE [])]):=yt (by
  unfold gu;rw[cU];simp only[R.aN];rw[if_pos ⟨by show 0<=Ω;omega,rfl⟩]
  rfl)
 obtain⟨st,jB,hst⟩:=JG (d:=ak 2) (e:=[O (aA (wF m g)),a1,O X,a3,O (.ref c.length),a5]) (hX.app [.lst (eE [])]) rfl;obtain⟨e',c',⟨w5,rfl,rfl⟩,hf⟩:=OY (st:=st) (g:=aC 5) (s:=DR) (λi e c'=>∃w5,e=[O (aA (wF m g)),a1,O X,a3,O (.ref c.length),w5]/\c'=c++[.lst (eE (((dN m g k).take i).flatMap (stp g)))])
  (λi e c' ⟨_,_,h⟩=>by rw[h];exact hst _ (hX.app _)) (eE (dN m g k)) 0 [O (aA (wF m g)),a1,O X,a3,O (.ref c.length),a5] (c++[.lst _]) ⟨_,rfl,rfl⟩ (λi x hx e c' ⟨w5,he,hc⟩=>by
   subst he;subst hc;unfold eE at hx;rw[RB]at hx;cases hq:(dN m g k)[i]? with
   |none=>rw[hq]at hx;cases hx
   |some l =>
    rw[hq]at hx;cases hx;have hlm:=R7 hq;obtain⟨h1,h2⟩:=Ii hg.2 hlm;rw[R6];have hfl:=acg (stp g) (dN m g k) i;rw[<-Cs]at hfl;refine⟨_,_,_,_,rfl,YY a1 _ a3 h1 ∅ ∅,_,rfl,?_⟩
    rw[To,hq,XA];simp)
 have hlen:(eE (dN m g k)).length=(dN m g k).length:=by unfold eE;rw[P0]
 rw[R6,hlen,Rg,<-Cs]at hf;refine⟨w5,?_⟩;unfold vh;rw[fm e1,fm (ab2 jB hf)];exact cJ rfl
theorem Jo:∀l:List Nat,(l.map λn:Nat=>(n:Int)).sum=((l.sum:Nat):Int)
 |[]=>rfl
 |a::l=>by rw[Q8,Vw,Vw,Jo l];omega
theorem ZO{g:Nat->Nat->Bool}(hg:gU g)(h1:1<=m)(hm:m<=32)(hB:∀k,k<=s->(dN m g k).length<=65536)(s1:s<1000)(c:aa):g5 [aA (wF m g),.int ((s+1:Nat):Int)] c=.ok (.int ((dB m g (s+1)).length:Nat)) c:=by
 have sz:=CK;have hlen:aJ aR ⇑0 [O (aA (wF m g)),O (.int ((s+1:Nat):Int)),U,U,U,U] c=.ok ↥m c:=ck (x:=aA (wF m g)) rfl (by rw[iV,fT])
 have EM:eW (ao (qA (ao (aJ aR ⇑0) aq)) aq) [O (aA (wF m g)),O (.int ((s+1:Nat):Int)),U,U,U,U] c=.ok (.lst (eE (dN m g 0))) c:=by
  have:=ML hlen ∅ ∅
  simp only[xT,cY,this,cU,R.aN];rfl
 have e1:aI 2 (eW (ao _ aq)) [O (aA (wF m g)),O (.int ((s+1:Nat):Int)),U,U,U,U] c=.ok (.nx [O (aA (wF m g)),O (.int ((s+1:Nat):Int)),O _,U,U,U]) c:=cJ (i:=2) EM;have hrl:(aV 0 (s:Int)).length=s:=by rw[mH,lH];simp
 obtain⟨e',c',⟨X,w3,w4,w5,rfl,hX,ht⟩,hf⟩:=tN (g:=aC 3) (s:=vh) (λi e c'=>∃X w3 w4 w5,e=[O (aA (wF m g)),O (.int ((s+1:Nat):Int)),O X,w3,w4,w5]/\qV c' X (eE (dN m g i))/\∃cs,c'=c++cs)
  (aV 0 (s:Int)) 0 [O (aA (wF m g)),O (.int ((s+1:Nat):Int)),O _,U,U,U] c ⟨_,_,_,_,rfl,.inl rfl,[],by simp⟩ (λi x hx e c' ⟨X,w3,w4,w5,he,hX,cs,hc⟩=>by
   subst he;obtain⟨w,h⟩:=YX hg hm (hB (0+i+1) (by have:=(Q9.mp hx).1;omega)) hX _ (O x) w4 w5
   rw[R6]at h ⊢;exact⟨_,_,_,_,rfl,h,_,_,_,_,rfl,.inr ⟨_,rfl,by simp⟩,cs++[.lst (eE (dN m g (i+1)))],by rw[hc,SE]⟩)
 rw[hrl,R6]at hX;obtain⟨cs,rfl⟩:=ht;have hsub:av kE (ak 1) (dC (.int 1)) [O (aA (wF m g)),O (.int ((s+1:Nat):Int)),O (.lst (eE (dN m g 0))),U,U,U] c=.ok ↥s c:=by
  refine aZ (f:=kE) (y:=.int 1) rfl rfl ?_;show R.ok _ c=_;exact congrArg (λz=>R.ok (D.int z) c) ∅
 have e2:bT (bK _) (aC 3) vh [O (aA (wF m g)),O (.int ((s+1:Nat):Int)),O (.lst (eE (dN m g 0))),U,U,U] c=_:=m9 (mJ hsub ∅) hf
 obtain⟨st,jB,hst⟩:=JG (d:=ak 2) (e:=[O (aA (wF m g)),O (.int ((s+1:Nat):Int)),O X,w3,w4,w5]) hX rfl;have iY:=wR (c:=c++cs) (st:=st) (E:=[]) (t:=aY) (a:=aJ aR ⇑0) (hst _ hX) cB _ (dN m g s) U [] (λ_ _=>rfl) (λl _=>ck (f:=aR) (x:=cB l) rfl (by
  show R.ok (D.int ((nD l).length:Nat)) (c++cs)=_;rw[lH]))
 rw[RC]at iY;have hwl:=hB s (x6 _);have hcc:=ado (pick:=[U]) (e:=[O (aA (wF m g)),O (.int ((s+1:Nat):Int)),O X,w3,w4,w5]) jB (by unfold eE;rw[P0];omega) iY
 have hsum:nL [.lst ((dN m g s).map λl=>D.int ((l.length:Nat):Int))] (c++cs)=.ok (.int ((dB m g (s+1)).length:Nat)) (c++cs):=by
  have ei:((dN m g s).map λl=>D.int ((l.length:Nat):Int))=(((dN m g s).map List.length).map λn:Nat=>(n:Int)).map D.int:=by rw[R3,R3];rfl
  unfold nL;dsimp only;rw[ei,qq];dsimp only;rw[Jo,ahu hg.2]
 have hb:xg=aD (aI 2 (eW (ao _ aq))) (aD (bT (bK _) (aC 3) vh) (aP (aJ nL (ao (aU (cj (ak 2)) [U] (aC 0) aY _) aq)))):=rfl;have es:bW 6 [aA (wF m g),.int ((s+1:Nat):Int)]=[O (aA (wF m g)),O (.int ((s+1:Nat):Int)),U,U,U,U]:=rfl;have hr:=ai9 (n:=6) (b:=xg) (xs:=[aA (wF m g),.int ((s+1:Nat):Int)]) (c:=c) (c':=c++cs) (by
  rw[es,hb,fm e1,fm e2];exact dU (ck hcc hsum)) rfl (λk h=>by cases h)
 rw[Vx]at hr;exact hr
theorem Mp{α:Type}[DecidableEq α]:∀(D Θ:List α),D.Nodup->(∀x∈D,x∈Θ)->Θ.length<=D.length->Θ.Perm D
 |[],Θ,_,_,h=>by
  have:Θ=[]:=VP.mp (by simpa using h)
  rw[this]
 |d::D,Θ,hn,hs,hl=>by
  have hd:=hs d (by simp)
  have hn:=S0.mp hn;have hle:(Θ.erase d).length<=D.length:=by
   rw[Ue hd];simp at hl;omega
  exact(List.perm_cons_erase hd).trans ((Mp D _ hn.2 (λx hx=>(Ug (λe=>hn.1 (by rw[<-e];exact hx))).mpr (hs x (by simp[hx]))) hle).cons d)
theorem DM{α:Type}[DecidableEq α]:∀(D Θ:List α),D.Nodup->(∀x∈D,x∈Θ)->D.length<=Θ.length
 |[],Θ,_,_=>RM _
 |d::D,Θ,hn,hs=>by
  have hd:=hs d (by simp)
  have hn:=S0.mp hn;have:=DM D (Θ.erase d) hn.2 λx hx=>(Ug (λe=>hn.1 (by rw[<-e];exact hx))).mpr (hs x (by simp[hx]))
  rw[Ue hd]at this;have:0<Θ.length:=Vk hd;simp;omega
theorem De{l:List Nat}(hn:l.Nodup)(hl:l.length=m)(hm:∀x∈l,x<m):l.Perm (η m) :=
 (Mp l _ hn (λx hx=>dD.mpr (hm x hx)) (by simp[hl])).symm
def aE(os:List Nat)(i:Nat):Nat:=os.getD i 0
section
variable {m:Nat}{os:List Nat}
theorem eU(h:os.Perm (η m)):os.length=m:=by have:=h.length_eq;simpa using this
theorem eH(h:os.Perm (η m))(hi:i<m):aE os i<m:=by
 have hl:=eU h;have:os[i]'∅∈os:=RA _
 have:=dD.mp (h.mem_iff.mp this)
 simpa[aE,Iv,show i<os.length by omega]using this
theorem ju(h:os.Perm (η m))(hi:i<m)(hj:j<m)(e:aE os i=aE os j):i=j:=by
 have hl:=eU h;have:os[i]'∅=os[j]'∅:=by simpa[aE,Iv,show i<os.length by omega,show j<os.length by omega]using e
 exact(SS (h.nodup_iff.mpr Ru)).mp this
theorem C6(h:os.Perm (η m)):(η m).map (aE os)=os:=by
 refine Rx (by simp[(eU h)]) λi h1 h2=>?_
 simp[aE,Iv,h2]
theorem aku(h:os.Perm (η m))(hx:x<m):∃i,i<m/\aE os i=x:=by
 have:x∈(η m).map (aE os):=by rw[C6 h];exact h.mem_iff.mpr (dD.mpr hx)
 obtain⟨i,hi,e⟩:=AP.mp this;exact⟨i,dD.mp hi,e⟩
theorem yH(h:os.Perm (η m))(p:Nat->Bool):(η m).countP (λi=>p (aE os i))=(η m).countP p:=by
 have e:(η m).countP (λi=>p (aE os i))=((η m).map (aE os)).countP p:=by rw[SK];rfl
 rw[e,C6 h];exact h.countP_eq p
end
def jA:List Nat->List Nat->Bool
 |[],[]=>ξ
 |[],_::_=>J
 |_::_,[]=>ξ
 |a::as,b::bs=>if a=b then jA as bs else decide (a<b)
theorem M6:∀l:List Nat,jA l l=ξ
 |[]=>rfl
 |a::l=>by simp[jA,M6 l]
theorem M7:∀{l k:List Nat},jA l k=J->jA k l=ξ
 |[],[],h=>by cases h
 |[],_::_,_=>rfl
 |_::_,[],h=>by cases h
 |a::l,b::k,h=>by
  unfold jA at h ⊢
  by_cases e:a=b
  ·subst e;rw[if_pos rfl]at h ⊢;exact M7 h
  ·rw[if_neg e]at h;rw[if_neg (λz=>e z.symm)]
   have:=of_decide_eq_true h;exact decide_eq_false ∅
theorem zB:∀{l k:List Nat}{d:Nat},l.length=k.length->d<l.length->(∀i,i<d->aE l i=aE k i)->aE l d<aE k d->jA l k=J
 |[],_,_,_,h,_,_=>by simp at h
 |_::_,[],_,h,_,_,_=>by simp at h
 |a::l,b::k,0,hl,hd,_,hlt=>by
  have hlt:a<b:=hlt;unfold jA;rw[if_neg ∅]
  exact decide_eq_true hlt
 |a::l,b::k,d+1,hl,hd,he,hlt=>by
  have e:a=b:=he 0 ∅
  unfold jA;rw[if_pos e];exact zB (d:=d) (by simpa using hl) (by simpa using hd) (λi hi=>he (i+1) ∅) hlt
theorem D7:∀{l k:List Nat},l.length=k.length->l≠k->∃d,d<l.length/\(∀i,i<d->aE l i=aE k i)/\aE l d≠aE k d
 |[],[],_,h=>absurd rfl h
 |[],_::_,h,_=>by simp at h
 |_::_,[],h,_=>by simp at h
 |a::l,b::k,hl,hne=>by
  by_cases e:a=b
  ·subst e;obtain⟨d,h1,h2,h3⟩:=D7 (l:=l) (k:=k) (by simpa using hl) λq=>hne (by rw[q])
   refine⟨d+1,by simpa using h1,λi hi=>?_,h3⟩
   cases i with
   |zero=>rfl
   |succ i=>exact h2 i ∅
  ·exact⟨0,by simp,λi hi=>∅,e⟩
def iL(m:Nat)(P:List Nat->Prop)(os:List Nat):Prop:=P os/\∀ts,P ts->ts.length=m->jA ts os=ξ
theorem iL.le{P:List Nat->Prop}{os:List Nat}(hl:os.length=m)(h:iL m P os)(ht:P ts)(tl:ts.length=m)(hd:d<m)(he:∀i,i<d->aE ts i=aE os i):aE os d<=aE ts d:=by
 rcases SQ (aE ts d) (aE os d)with q|q
 ·have:=zB (by rw[tl,hl]) ∅ he q
  rw[h.2 ts ht tl]at this;cases this
 ·exact q
theorem iL.one{P:List Nat->Prop}(hP:∀os,P os->os.length=m){os:List Nat}(h:iL m P os)(g:iL m P ts):os=ts:=Rh λhne=>by
 have l1:=hP _ h.1;have l2:=hP _ g.1;obtain⟨d,h1,h2,h3⟩:=D7 (by rw[l1,l2]) hne
 have a:=h.le l1 g.1 l2 (d:=d) ∅ λi hi=>(h2 i hi).symm
 have b:=g.le l2 h.1 l1 (d:=d) ∅ h2
 omega
theorem iL.congr{P Q:List Nat->Prop}(h:∀os,P os↔Q os){os:List Nat}(x:iL m P os):iL m Q os:=⟨(h os).mp x.1,λts ht=>x.2 ts ((h ts).mpr ht)⟩
def F2(m:Nat)(f f':Nat->Nat->Bool):Nat->Nat->Bool:=λu v=>if u<m then decide (v<m)&&f u v else decide (m<=v)&&f' (u-m) (v-m)
def ig(n:Nat)(F:Nat->Nat->Bool)(c:Nat->Nat)(u d:Nat):Nat:=(η n).countP λv=>F u v&&decide (c v=d)
structure bY (m:Nat) (f f':Nat->Nat->Bool) (os:List Nat):Prop where
 pm:os.Perm (η m)
 eq:∀i j,i<m->j<m->f i j=f' (aE os i) (aE os j)
def fE(m:Nat)(c:Nat->Nat)(os:List Nat):Prop:=∀i,i<m->c i=c (m+aE os i)
def xM(n:Nat)(F:Nat->Nat->Bool)(c c':Nat->Nat):Prop:=∀u v,u<n->v<n->(c' u=c' v↔c u=c v/\∀d,ig n F c u d=ig n F c v d)
def qK(m:Nat)(c:Nat->Nat):Prop:=∀d,(η m).countP (λi=>decide (c i=d))=(η m).countP λi=>decide (c (m+i)=d)
section
variable {m:Nat}{f f':Nat->Nat->Bool}{c c':Nat->Nat}{os:List Nat}
theorem KZ(m:Nat)(p:Nat->Bool):(η (2*m)).countP p=(η m).countP p+(η m).countP λi=>p (m+i):=by
 have e:η (2*m)=η m++(η m).map (m + ·):=by
  rw[show 2*m=m+m by omega,Ti]
 rw[e,Vq,SK];rfl
theorem A0{α:Type}{p:α->Bool}{l:List α}(h:∀x∈l,p x=ξ):l.countP p=0:=Vp.mpr λx hx=>by simp[h x hx]
theorem Qe(hi:i<m):ig (2*m) (F2 m f f') c i d=(η m).countP λj=>f i j&&decide (c j=d):=by
 unfold ig;rw[KZ,A0 (p:=λj=>F2 m f f' i (m+j)&&decide (c (m+j)=d)) λj hj=>by
  unfold F2;rw[if_pos hi];have:¬m+j<m:=∅
  simp[this]]
 refine Rv λj hj=>?_
 unfold F2;rw[if_pos hi];simp[dD.mp hj]
theorem Qd:ig (2*m) (F2 m f f') c (m+i) d=(η m).countP λj=>f' i j&&decide (c (m+j)=d):=by
 unfold ig;have hi:¬m+i<m:=∅
 rw[KZ,A0 (l:=η m) (p:=λj=>F2 m f f' (m+i) j&&decide (c j=d)) λj hj=>by
  unfold F2;rw[if_neg hi];have:¬m<=j:=by have:=dD.mp hj;omega
  simp[this]]
 rw[R6];refine Rv λj hj=>?_
 unfold F2;rw[if_neg hi];simp
theorem fE.cn(h:bY m f f' os)(r:fE m c os)(hi:i<m)(d:Nat):ig (2*m) (F2 m f f') c i d=Ev.ig (2*m) (F2 m f f') c (m+aE os i) d:=by
 rw[Qe hi,Qd,<-yH h.pm λj=>f' (aE os i) j&&decide (c (m+j)=d)]
 refine Rv λj hj=>?_
 have hj:=dD.mp hj;rw[h.eq i j hi hj,r j hj]
theorem fE.acj(h:bY m f f' os)(r:fE m c os)(F:xM (2*m) (F2 m f f') c c'):fE m c' os:=λi hi=>by
 have:=eH h.pm hi;exact(F i (m+aE os i) ∅ ∅).mpr ⟨r i hi,λd=>fE.cn h r hi d⟩
theorem fE.ads(h:os.Perm (η m))(r:fE m c' os)(F:xM (2*m) (F2 m f f') c c'):fE m c os:=λi hi=>by
 have:=eH h hi;exact((F i _ ∅ ∅).mp (r i hi)).1
theorem fE.shr(h:os.Perm (η m))(r:fE m c os):qK m c:=λd=>by
 rw[<-yH h λj=>decide (c (m+j)=d)]
 refine Rv λj hj=>?_
 rw[r j (dD.mp hj)]
def xN(n:Nat)(F:Nat->Nat->Bool)(c:Nat->Nat):Prop:=∀u v,u<n->v<n->c u=c v->∀d,ig n F c u d=ig n F c v d
theorem acI{F:Nat->Nat->Bool}(h:xM n F c c')(hs:∀u v,u<n->v<n->c u=c v->c' u=c' v):xN n F c':=λu v hu hv e d=>by
 by_cases q:∃w,w<n/\c' w=d
 ·obtain⟨w,hw,rfl⟩:=q;have key:∀x,ig n F c' x (c' w)=ig n F c x (c w):=λx=>Rv λy hy=>by
   have hy:=dD.mp hy;have:_↔(c y=c w):=⟨λz=>((h y w hy hw).mp z).1,hs y w hy hw⟩
   simp[this]
  rw[key,key,((h u v hu hv).mp e).2]
 ·have z:∀x,ig n F c' x d=0:=λx=>A0 λy hy=>by
   have:¬c' y=d:=λe=>q ⟨y,dD.mp hy,e⟩
   simp[this]
  rw[z,z]
def twinO(m:Nat)(f:Nat->Nat->Bool)(p q:Nat):Prop:=∀x,x<m->x≠p->x≠q->f p x=f q x
structure bO (f:Nat->Nat->Bool):Prop where
 ir:∀i,f i i=ξ
 sy:∀i j,f i j=f j i
theorem twinO.trans(hw:bO f)(hp:p<m)(hq:q<m)(hr:r<m)(h1:twinO m f p q)(h2:twinO m f p r):twinO m f q r:=λx hx NX NW=>by
 by_cases e:x=p
 ·subst e
  by_cases e2:q=r
  ·rw[e2]
  ·-- f q x and f r x,x=p: by IY twins p,q seen from r,and p,r seen from q
   have a:=h1 r hr (λz=>NW z.symm) (λz=>e2 z.symm)
   have b:=h2 q hq (λz=>NX z.symm) e2
   rw[hw.sy q x,hw.sy r x,b,a,hw.sy q r]
 ·rw[<-h1 x hx e NX,h2 x hx e NW]
def gM(os:List Nat)(d e:Nat):List Nat:=(os.set d (aE os e)).set e (aE os d)
theorem k9(os:List Nat)(d e:Nat):(gM os d e).length=os.length:=by simp[gM]
theorem mD(hd:d<os.length)(he:e<os.length):aE (gM os d e) i=if i=e then aE os d else if i=d then aE os e else aE os i:=by
 unfold gM aE;rw[Iv,UZ]
 by_cases h1:e=i
 ·subst h1;simp[he]
 ·rw[if_neg h1,if_neg (λz=>h1 z.symm),UZ]
  by_cases h2:d=i
  ·subst h2;simp[hd]
  ·rw[if_neg h2,if_neg (λz=>h2 z.symm),Iv]
theorem ahI(h:os.Perm (η m))(hd:d<m)(he:e<m):(gM os d e).Perm (η m):=by
 have hl:=eU h;refine De ?_ (by rw[k9,hl]) λx hx=>?_
 ·rw[T3,Sd];intro i j hi hj hij hne;rw[k9]at hi hj;have e1:aE (gM os d e) i=aE (gM os d e) j:=by
   simpa[aE,Iv,k9,hi,hj]using hne
  rw[mD ∅ ∅,mD ∅ ∅]at e1
  have inj:=fun{x y:Nat}(hx:x<m) (hy:y<m) z=>ju h hx hy z
  split at e1<;>split at e1<;>(try split at e1)<;>(try split at e1)<;>have:=inj ∅ ∅ e1<;>omega
 ·obtain⟨i,hi,rfl⟩:=S9 hx;rw[k9]at hi;have:(gM os d e)[i]'(by rw[k9];exact hi)=aE (gM os d e) i:=by simp[aE,Iv,k9,hi]
  rw[this,mD ∅ ∅]
  split
  ·exact eH h hd
  ·split
   ·exact eH h he
   ·exact eH h ∅
end
theorem AZ{α:Type}{p q:α->Bool}:∀{l:List α},(∀x∈l,p x=J->q x=J)->(∃x∈l,q x=J/\p x=ξ)->l.countP p<l.countP q
 |[],_,h=>by obtain⟨x,hx,_⟩:=h;simp at hx
 |a::l,hi,h=>by
  have hle:l.countP p<=l.countP q:=X8 λx hx=>hi x (by simp[hx])
  rw[Vo,Vo];obtain⟨x,hx,hq,hp⟩:=h
  rcases Bt.mp hx with rfl|hx
  ·simp only[hq,hp];simp;omega
  ·have:=AZ (λy hy=>hi y (by simp[hy])) ⟨x,hx,hq,hp⟩
   cases e:p a<;>cases e2:q a<;>simp_all<;>omega
theorem Qc{α:Type}{p q:α->Bool}{l:List α}(hi:∀x∈l,p x=J->q x=J)(h:l.countP q<=l.countP p):∀x∈l,q x=J->p x=J:=λx hx hq=>Rh λhp=>by
 have:=AZ hi ⟨x,hx,hq,by simpa using hp⟩
 omega
def g6(c:Nat->Nat)(i:Nat):Bool:=decide (∀j,j<i->c j≠c i)
def eB(n:Nat)(c:Nat->Nat):Nat:=(η n).countP (g6 c)
theorem ji{c:Nat->Nat}:g6 c i=J↔∀j,j<i->c j≠c i:=by simp[g6]
theorem Fg{c:Nat->Nat}:∀(u:Nat),∃w,w<=u/\c w=c u/\g6 c w=J:=by
 intro u
 induction u using Nat.strongRecOn with
 |_ u ih =>
  by_cases h:∃j,j<u/\c j=c u
  ·obtain⟨j,hj,e⟩:=h;obtain⟨w,h1,h2,h3⟩:=ih j hj;exact⟨w,∅,by rw[h2,e],h3⟩
  ·exact⟨u,∅,rfl,ji.mpr λj hj e=>h ⟨j,hj,e⟩⟩
theorem NH{c:Nat->Nat}(hu:g6 c u=J)(hv:g6 c v=J)(e:c u=c v):u=v:=by
 rcases TM u v with h|h|h
 ·exact absurd e (ji.mp hv u h)
 ·exact h
 ·exact absurd e.symm (ji.mp hu v h)
def BP(n:Nat)(c c':Nat->Nat):Prop:=∀u v,u<n->v<n->c' u=c' v->c u=c v
theorem YC{c c':Nat->Nat}(h:BP n c c'):eB n c<=eB n c' :=
 X8 λi hi q=>ji.mpr λj hj e=>ji.mp q j hj (h j i (by have:=dD.mp hi;omega) (dD.mp hi) e)
theorem YB{c c':Nat->Nat}(h:BP n c c')(hle:eB n c'<=eB n c):∀u v,u<n->v<n->c u=c v->c' u=c' v:=λu v hu hv e=>by
 have key:=Qc (l:=η n) (λi hi q=>ji.mpr λj hj e=>ji.mp q j hj (h j i (by have:=dD.mp hi;omega) (dD.mp hi) e)) hle
 obtain⟨u',a1,a2,a3⟩:=Fg u;obtain⟨v',b1,b2,b3⟩:=Fg v;have y1:=h u' u ∅ hu a2
 have y2:=h v' v ∅ hv b2
 have:u'=v':=NH (key u' (dD.mpr ∅) a3) (key v' (dD.mpr ∅) b3) (by rw[y1,y2,e])
 rw[<-a2,<-b2,this]
theorem Mq(n:Nat)(c:Nat->Nat):eB n c<=n:=by
 have:=List.countP_le_length (p:=g6 c) (l:=η n)
 simpa[eB]using this
def cV(c:Nat->Nat)(z one other:Nat):Nat->Nat:=λi=>if i=one\/i=other then z else c i
theorem YD{c:Nat->Nat}{one other:Nat}(hz:∀i,i<m->c i≠z)(h1:one<m)(h2:m<=other)(hq:q<m)(hne:q≠one)(e:c q=c one):eB m c<eB m (cV c z one other):=by
 have nv:∀i,i<m->i≠one->cV c z one other i=c i:=λi hi hn=>by
  unfold cV;rw[if_neg ∅]
 have at2:cV c z one other one=z:=by unfold cV;simp
 have inc:∀i∈η m,g6 c i=J->g6 (cV c z one other) i=J:=λi hi h=>ji.mpr λj hj e'=>by
  have hi:=dD.mp hi
  by_cases e1:i=one
  ·subst e1;rw[at2,nv j ∅ ∅]at e'
   exact hz j ∅ e'
  ·rw[nv i hi e1]at e'
   by_cases e2:j=one
   ·subst e2;rw[at2]at e';exact hz i hi e'.symm
   ·rw[nv j ∅ e2]at e'
    exact ji.mp h j hj e'
 refine AZ inc ?_
 by_cases hf:g6 c one=J
 ·-- IY second of IY agi
  obtain⟨w,a1,a2,a3⟩:=Fg (c:=λi=>cV c z one other (if i<m then i else q)) q
  simp only[hq,if_true]at a2;have hw:w<m:=∅
  simp only[hw,if_true]at a2;rw[nv q hq hne]at a2;have hw1:w≠one:=λx=>by
   subst x;rw[at2]at a2;exact hz q hq a2.symm
  rw[nv w hw hw1]at a2;refine⟨w,dD.mpr hw,ji.mpr λj hj e'=>?_,?_⟩
  ·have:=ji.mp a3 j hj;simp only[hw,show j<m by omega,if_true]at this
   exact this e'
  ·cases hx:g6 c w with
   |false=>rfl
   |true=>exact absurd (NH hx hf (by rw[a2,e])) hw1
 ·refine⟨one,dD.mpr h1,ji.mpr λj hj e'=>?_,by simpa using hf⟩
  rw[at2,nv j ∅ ∅]at e'
  exact hz j ∅ e'
section
variable {m:Nat}{f f':Nat->Nat->Bool}{c c':Nat->Nat}{os:List Nat}
theorem aaf(hw:bO f)(gQ:bO f')(pm:os.Perm (η m))(r:fE m c os)(he:xN (2*m) (F2 m f f') c)(ht:∀p q,p<m->q<m->c p=c q->twinO m f p q):bY m f f' os:=⟨pm,λi j hi hj=>by
 by_cases FJ:i=j
 ·subst FJ;rw[hw.ir,gQ.ir]
 have EF:=eH pm hi;have N7:=eH pm hj;have hc:=he i (m+aE os i) ∅ ∅ (r i hi) (c j)
 rw[Qe hi,Qd]at hc;have same:∀x,x<m->x≠i->c x=c j->f i x=f i j:=λx hx hxi ex=>by
  by_cases exj:x=j
  ·rw[exj]
  ·rw[hw.sy i x,hw.sy i j];exact ht x j hx hj ex i hi (λz=>hxi z.symm) FJ
 cases e:f i j with
 |false =>
  have z:((η m).countP λx=>f i x&&decide (c x=c j))=0:=A0 λx hx=>by
   have hx:=dD.mp hx
   by_cases ex:c x=c j
   ·by_cases tP:x=i
    ·subst tP;simp[hw.ir]
    ·simp[same x hx tP ex,e]
   ·simp[ex]
  rw[z]at hc;have:=Vp.mp hc.symm (aE os j) (dD.mpr N7);rw[<-r j hj]at this;simp at this;exact this.symm
 |true =>
  have z:((η m).countP λx=>f i x&&decide (c x=c j))=(η m).countP λx=>decide (x≠i)&&decide (c x=c j):=Rv λx hx=>by
   have hx:=dD.mp hx
   by_cases ex:c x=c j
   ·by_cases tP:x=i
    ·subst tP;simp[hw.ir]
    ·simp[same x hx tP ex,e,tP]
   ·simp[ex]
  have z2:((η m).countP λx=>decide (x≠i)&&decide (c x=c j))=(η m).countP λy=>decide (y≠aE os i)&&decide (c (m+y)=c j):=by
   rw[<-yH pm λy=>decide (y≠aE os i)&&decide (c (m+y)=c j)]
   refine Rv λx hx=>?_
   have hx:=dD.mp hx;have:aE os x=aE os i↔x=i:=⟨λz=>ju pm hx hi z,λz=>by rw[z]⟩
   rw[r x hx];simp[this]
  rw[z,z2]at hc;have key:=Qc (l:=η m) (p:=λy=>f' (aE os i) y&&decide (c (m+y)=c j)) (q:=λy=>decide (y≠aE os i)&&decide (c (m+y)=c j)) (λy hy h=>by
   simp at h ⊢;refine⟨λz=>?_,h.2⟩
   rw[z,gQ.ir]at h;cases h.1) ∅ (aE os j) (dD.mpr N7) (by
    have:¬aE os j=aE os i:=λz=>FJ (ju pm hj hi z).symm
    simp[this,<-r j hj])
  simp at key;exact key.1.symm⟩
theorem aae(hw:bO f)(gQ:bO f')(h:bY m f f' os)(hd:d<m)(he:e<m)(t:twinO m f d e):bY m f f' (gM os d e):=by
 have hl:=eU h.pm
 by_cases hde:d=e
 ·subst hde;have:gM os d d=os:=by
   refine Rx (by rw[k9]) λi h1 h2=>?_
   have q:=mD (os:=os) (d:=d) (e:=d) (i:=i) ∅ ∅
   have z1:(gM os d d)[i]=aE (gM os d d) i:=by simp[aE,Iv,h1]
   have z2:os[i]=aE os i:=by simp[aE,Iv,h2]
   rw[z1,z2,q];split
   ·rename_i x;rw[x]
   ·rfl
  rw[this];exact h
 refine⟨ahI h.pm hd he,λi j hi hj=>?_⟩
 have ch:∀i,aE (gM os d e) i=aE os (if i=e then d else if i=d then e else i):=λi=>by
  rw[mD ∅ ∅]
  split
  ·rfl
  ·split<;>rfl
 have lt:∀i,i<m->(if i=e then d else if i=d then e else i)<m:=λi hi=>by split;exact hd;split;exact he;exact hi
 rw[ch i,ch j,<-h.eq _ _ (lt i hi) (lt j hj)];have tt:∀x,x<m->x≠d->x≠e->f d x=f e x:=t
 by_cases i1:i=e
 ·subst i1
  by_cases j1:j=i
  ·subst j1;simp[hw.ir]
  ·by_cases j2:j=d
   ·subst j2;simp[j1,hw.sy]
   ·simp[j1,j2];exact(tt j hj j2 j1).symm
 ·by_cases i2:i=d
  ·subst i2
   by_cases j1:j=e
   ·subst j1;simp[i1,hw.sy]
   ·by_cases j2:j=i
    ·subst j2;simp[i1,hw.ir]
    ·simp[i1,j1,j2];exact tt j hj j2 j1
  ·by_cases j1:j=e
   ·subst j1;simp[i1,i2];rw[hw.sy i j,hw.sy i d];exact(tt i hi i2 i1).symm
   ·by_cases j2:j=d
    ·subst j2;simp[i1,i2,j1];rw[hw.sy i j,hw.sy i e];exact tt i hi i2 i1
    ·simp[i1,i2,j1,j2]
theorem aje(hl:os.length=m)(r:fE m c os)(hd:d<m)(he:e<m)(hc:c d=c e):fE m c (gM os d e):=λi hi=>by
 rw[mD ∅ ∅]
 split
 ·rename_i x;subst x;rw[<-hc];exact r d hd
 ·split
  ·rename_i x;subst x;rw[hc];exact r e he
  ·exact r i hi
theorem M5{l k:List Nat}(hl:l.length=k.length)(h:jA l k=J):∃d,d<l.length/\(∀i,i<d->aE l i=aE k i)/\aE l d<aE k d:=by
 obtain⟨d,h1,h2,h3⟩:=D7 hl (λz=>by rw[z,M6]at h;cases h)
 refine⟨d,h1,h2,?_⟩
 rcases SQ (aE l d) (aE k d)with q|q
 ·exact q
 ·have:=M7 (zB hl.symm ∅ (λi hi=>(h2 i hi).symm) (show aE k d<aE l d by omega))
  rw[this]at h;cases h
def gW(m:Nat)(f f':Nat->Nat->Bool)(c:Nat->Nat)(os:List Nat):Prop:=bY m f f' os/\fE m c os
theorem gW.len(h:gW m f f' c os):os.length=m:=eU h.1.pm
structure jO (m:Nat) (c:Nat->Nat) (k:Nat) (os:List Nat):Prop where
 len:os.length=k
 lt:∀i,i<k->aE os i<m
 un:∀i j,i<j->j<k->aE os i≠aE os j
 rs:∀i,i<k->c i=c (m+aE os i)
 mn:∀i o,i<k->o<m->c (m+o)=c i->(∀j,j<i->aE os j≠o)->aE os i<=o
theorem jO.perm(h:jO m c m os):os.Perm (η m):=by
 have hl:=h.len;have g:∀i (hi:i<os.length),os[i]=aE os i:=λi hi=>by simp[aE,Iv,hi]
 refine De ?_ hl λx hx=>?_
 ·rw[T3,Sd];intro i j hi hj hij;rw[g i hi,g j hj];exact h.un i j hij ∅
 ·obtain⟨i,hi,rfl⟩:=S9 hx;rw[g i hi];exact h.lt i ∅
theorem jO.first(hw:bO f)(gQ:bO f')(h:jO m c m os)(he:xN (2*m) (F2 m f f') c)(ht:∀p q,p<m->q<m->c p=c q->twinO m f p q):iL m (gW m f f' c) os :=
 ⟨⟨aaf hw gQ h.perm h.rs he ht,h.rs⟩,λts hts tl=>by
  cases e:jA ts os with
  |false=>rfl
  |true =>
   obtain⟨d,h1,h2,h3⟩:=M5 (by rw[tl,h.len]) e
   have hd:d<m:=∅
   have:=h.mn d (aE ts d) hd (eH hts.1.pm hd) (hts.2 d hd).symm λj hj z=>by
    rw[<-h2 j hj]at z;have:=ju hts.1.pm ∅ hd z
    omega
   omega⟩
theorem abC{l:List Nat}(h:i<l.length):aE (l++k) i=aE l i:=by
 simp[aE,Iv,RY h]
theorem abD{l:List Nat}(h:i=l.length):aE (l++[a]) i=a:=by
 subst h;simp[aE,Iv]
theorem jO.more(h:jO m c k os)(ha:a<m)(hc:c (m+a)=c k)(hn:∀j,j<k->aE os j≠a)(hm:∀o,o<m->c (m+o)=c k->(∀j,j<k->aE os j≠o)->a<=o):jO m c (k+1) (os++[a]):=by
 have lo:∀i,i<k->aE (os++[a]) i=aE os i:=λi hi=>abC (by rw[h.len];exact hi)
 have hi:aE (os++[a]) k=a:=abD h.len.symm;refine⟨by simp[h.len],λi q=>?_,λi j hij q=>?_,λi q=>?_,λi o q ho hco hno=>?_⟩
 ·by_cases e:i=k
  ·rw[e,hi];exact ha
  ·rw[lo i ∅];exact h.lt i ∅
 ·rw[lo i ∅]
  by_cases e:j=k
  ·rw[e,hi];exact hn i ∅
  ·rw[lo j ∅];exact h.un i j hij ∅
 ·by_cases e:i=k
  ·rw[e,hi,hc]
  ·rw[lo i ∅];exact h.rs i ∅
 ·by_cases e:i=k
  ·subst e;rw[hi];exact hm o ho hco λj hj=>by rw[<-lo j hj];exact hno j hj
  ·rw[lo i ∅]
   exact h.mn i o ∅ ho hco λj hj=>by rw[<-lo j ∅];exact hno j hj
theorem jO.ex(h:jO m c k os)(hs:qK m c)(hk:k<m):∃o,o<m/\c (m+o)=c k/\∀j,j<k->aE os j≠o:=Rh λhno=>by
 have hall:∀o,o<m->c (m+o)=c k->∃j,j<k/\aE os j=o:=λo ho hc=>Rh λq=>hno ⟨o,ho,hc,λj hj z=>q ⟨j,hj,z⟩⟩
 have A:((η m).filter λo=>decide (c (m+o)=c k)).length<=(((η k).filter λj=>decide (c j=c k)).map (aE os)).length:=by
  refine DM _ _ (Sk _ Ru) λo ho=>?_
  simp at ho;obtain⟨j,hj,e⟩:=hall o ho.1 ho.2;refine AP.mpr ⟨j,?_,e⟩;simp[hj];rw[h.rs j hj,e,ho.2]
 rw[P0,<-U8,<-U8,<-hs (c k)]at A;have B:((η k).countP λj=>decide (c j=c k))<(η m).countP λj=>decide (c j=c k):=by
  have e:η m=η k++(η (m-k)).map (k + ·):=by
   rw[show m=k+(m-k) by omega,Ti]
   simp
  rw[e,Vq];have:0<((η (m-k)).map (k + ·)).countP λj=>decide (c j=c k):=by
   rw[List.countP_pos_iff];exact⟨k,AP.mpr ⟨0,dD.mpr ∅,by simp⟩,by simp⟩
  omega
 omega
theorem Gu{one:Nat}(hz:∀i,i<2*m->c i≠z)(h1:one<m)(hb:b<m)(pm:os.Perm (η m))(hc:c (m+b)=c one):fE m (cV c z one (m+b)) os↔fE m c os/\aE os one=b:=by
 constructor
 ·intro r;have key:aE os one=b:=by
   have:=r one h1;unfold cV at this;rw[if_pos (Or.inl rfl)]at this
   by_cases q:m+aE os one=m+b
   ·omega
   ·rw[if_neg ∅]at this
    have hl:=eH pm h1;exact absurd this.symm (hz _ ∅)
  refine⟨λi hi=>?_,key⟩
  by_cases e:i=one
  ·rw[e,key,hc]
  ·have:=r i hi;unfold cV at this;rw[if_neg ∅,if_neg ?_]at this
   ·exact this
   ·rintro (q|q)
    ·omega
    ·exact e (ju pm hi h1 ∅)
 ·rintro ⟨r,key⟩ i hi
  unfold cV
  by_cases e:i=one
  ·rw[if_pos (Or.inl e),e,key,if_pos (Or.inr rfl)]
  ·rw[if_neg ∅,if_neg ?_]
   ·exact r i hi
   ·rintro (q|q)
    ·omega
    ·exact e (ju pm hi h1 ∅)
theorem aix(hw:bO f)(gQ:bO f'){one:Nat}(h1:one<m)(hb:b<m)(hcl:∀p q,p<one->q<m->c q=c p->twinO m f p q)(hop:∃q,q<m/\c q=c one/\¬twinO m f one q)(hno:∀ts,gW m f f' c ts->¬aE ts one<b)(h:iL m (λts=>gW m f f' c ts/\aE ts one=b) os):iL m (gW m f f' c) os:=⟨h.1.1,λts hts tl=>by
 cases e:jA ts os with
 |false=>rfl
 |true =>
  exfalso;have hl:=h.1.1.len;obtain⟨d,q1,q2,q3⟩:=M5 (by rw[tl,hl]) e
  have hd:d<m:=∅
  rcases TM d one with hlt|heq|hgt
  ·obtain⟨i,hi,ei⟩:=aku h.1.1.1.pm (eH hts.1.pm hd);have hdi:d<i:=by
    rcases TM i d with x|x|x
    ·rw[<-q2 i x]at ei;have:=ju hts.1.pm hi hd ei;omega
    ·subst x;omega
    ·exact x
   have ES:c i=c d:=by rw[h.1.1.2 i hi,ei,<-hts.2 d hd]
   have tw:=hcl d i hlt hi ES;have hne:i≠one:=λx=>by
    subst x;obtain⟨q,a1,a2,a3⟩:=hop;exact a3 (twinO.trans hw hd hi a1 tw (hcl d q hlt a1 (by rw[a2,ES])))
   have sw:gW m f f' c (gM os d i):=⟨aae hw gQ h.1.1.1 hd hi tw,aje hl h.1.1.2 hd hi ES.symm⟩;have nv:aE (gM os d i) one=b:=by
    rw[mD ∅ ∅,if_neg (λz=>hne z.symm),if_neg ∅]
    exact h.1.2
   have:=zB (l:=gM os d i) (k:=os) (d:=d) (k9 _ _ _) (by rw[k9];omega) (λj hj=>by rw[mD ∅ ∅,if_neg ∅,if_neg ∅]) (by
    rw[mD ∅ ∅,if_neg ∅,if_pos rfl,ei]
    exact q3)
   rw[h.2 _ ⟨sw,nv⟩ (by rw[k9,hl])]at this
   cases this
  ·subst heq;rw[h.1.2]at q3;exact hno ts hts q3
  ·have:=h.2 ts ⟨hts,by rw[q2 one hgt];exact h.1.2⟩ tl
   rw[this]at e;cases e⟩
structure PreO (m:Nat) (f f':Nat->Nat->Bool) (k:Nat) (is:List Nat):Prop where
 len:is.length=k
 lt:∀i,i<k->aE is i<m
 un:∀i j,i<j->j<k->aE is i≠aE is j
 eq:∀i j,i<j->j<k->f j i=f' (aE is j) (aE is i)
theorem zA{l k:List Nat}(hl:l.length=k.length)(h:∀i,i<l.length->aE l i=aE k i):l=k:=by
 refine Rx hl λi h1 h2=>?_
 have:=h i h1
 simpa[aE,Iv,h1,h2]using this
structure agp (m:Nat) (f f':Nat->Nat->Bool) (k:Nat) (is:List Nat) (a:Nat):Prop where
 un:∀i,i<k->aE is i≠a
 aaa:(η m).countP (f k)=(η m).countP (f' a)
 eq:∀i,i<k->f' a (aE is i)=f k i
end
def aM(n:Nat)(c:Nat->Nat):D:=.lst (nD ((η n).map c))
theorem vf(l:List Nat):nD l=(l.map λn:Nat=>(n:Int)).map D.int:=by simp[nD]
theorem zE(l:List Nat):g8 (nD l)=O (l.map λn:Nat=>(n:Int)):=by rw[vf,qq]
theorem FW(n:Nat)(c:Nat->Nat):noRef (aM n c)=J:=by
 unfold aM noRef;exact j7 _
theorem lZ(c:Nat->Nat)(h:u<n)(cc:aa):aH (aM n c) ↥u cc=.ok (.int (c u:Nat)) cc:=by
 unfold aM;rw[jT,ku (v:=.int (c u:Nat)) (by grind)]
theorem P9(n:Nat)(c:Nat->Nat)(cc:aa):aR [aM n c] cc=.ok (.int (n:Nat)) cc:=by
 unfold aM
 simp_all
theorem Er(l m:List Int):PyData.eqvAll (l.map PyData.int) (m.map PyData.int)=decide (l=m) :=
 Pu (λa b=>by rfl) l m
theorem AN:∀l:List Int,f6 (l.map D.int)=O (l.map PyData.int)
 |[]=>rfl
 |n::ns=>by
  show(match dM _,f6 _ with|some a,O r=>O (a::r)|_,_=>U)=_
  rw[AN ns];rfl
theorem AL(l:List Int):(PyData.list (l.map PyData.int)).depth<=2:=by
 have:∀l:List Int,PyData.depthAll (l.map PyData.int)<=1:=λl=>by
  induction l with
  |nil=>simp[PyData.depthAll]
  |cons a l ih=>simp[PyData.depthAll,PyData.depth];omega
 have:=this l;simp[PyData.depth];omega
theorem Fz(l m:List Int)(cc:aa):oX (.lst (l.map D.int)) (.lst (m.map D.int)) cc=.ok (.bl (decide (l=m))) cc:=by
 have h1:∀l:List Int,e8 cc (.lst (l.map D.int))=O (.list (l.map PyData.int)):=λl=>by
  show(match f6 (l.map D.int)with|some r=>O (PyData.list r)|none=>U)=_
  rw[AN]
 unfold oX;rw[h1 l,h1 m];have a:=AL l;have b:=AL m;dsimp only;rw[if_pos ⟨∅,∅⟩,PyData.eqv,Er]
theorem up_eq:iW l=iW m↔l.Perm m :=
 ⟨λe=>(oB l).symm.trans ((Wa e).trans (oB m)),λh=>yp ((oB l).trans (h.trans (oB m).symm)) (vL _) (vL _)⟩
theorem AY(l:List Nat)(d:Nat):(l.map λn:Nat=>(n:Int)).count (d:Int)=l.count d:=by
 rw[List.count,List.count,SK];refine Rv λx _=>?_
 simp;omega
theorem PU{l:List Nat}(h:a<0):(l.map λn:Nat=>(n:Int)).count a=0:=by
 rw[List.count_eq_zero];intro q;obtain⟨x,_,e⟩:=AP.mp q;omega
theorem Lm{l m:List Nat}:((l.map λn:Nat=>(n:Int)).Perm (m.map λn:Nat=>(n:Int)))↔∀d:Nat,l.count d=m.count d:=by
 rw[List.perm_iff_count]
 constructor
 ·intro h d;have:=h (d:Int)
  rwa[AY,AY]at this
 ·intro h a
  rcases Int.lt_or_le a 0 with q|q
  ·rw[PU q,PU q]
  ·obtain⟨d,rfl⟩:=Int.eq_ofNat_of_zero_le q;rw[AY,AY,h]
theorem adm(n:Nat)(c:Nat->Nat)(d:Nat):((η n).map c).count d=(η n).countP λi=>decide (c i=d):=by
 rw[List.count,SK];refine Rv λx _=>?_
 simp
theorem kN{α:Type}(g F:α->D)(l:List α)(h:∀x∈l,a (O (g x)::E) c=.ok (F x) c):bN (λ_=>True) (aC 0) aY a (l.map g) (U::E) [] c=.ok (l.map F) c :=
 wR (st:=λ_=>True) trivial g F l U [] (λ_ _=>rfl) h
theorem YU(r:List Nat)(m:Nat)(hr:r.length<1000)(cc:aa):vq [.tup (nD r),.int (m:Int)] cc=.ok (.tup (nD (r.map (m + ·)))) cc:=by
 have hs:=cZ (n:=1000) ⋯
 refine dW (dU (ck (fN (items:=nD r) (l:=nD (r.map (m + ·))) rfl (by simp[nD];omega) ?_) rfl)) (by unfold noRef;exact j7 _) (by simp)
 have h:=kN (E:=[O ↥m]) (a:=av bR (ak 1) (ak 0)) (c:=cc) (λn:Nat=>D.int (n:Int)) (λn:Nat=>D.int ((m+n:Nat):Int)) r (λx _=>by simp)
 have e:fq [U,O 1] (bW 2 [.tup (nD r),.int (m:Int)])=[U,O ↥m]:=rfl;rw[e];have e2:(r.map λn:Nat=>D.int (n:Int))=nD r:=rfl
 rw[e2]at h;rw[h];simp[nD,Sl]
theorem DI(f f':Nat->Nat->Bool)(hi:i<m):bu (2*m) (F2 m f f') i=bu m f i:=by
 unfold bu;have e:η (2*m)=η m++(η m).map (m + ·):=by rw[show 2*m=m+m by omega,Ti]
 have a:(η m).filter (λk=>F2 m f f' i k)=(η m).filter λk=>f i k:=Si λk hk=>by
  unfold F2;rw[if_pos hi];simp[dD.mp hk]
 have b:((η m).map (m + ·)).filter (λk=>F2 m f f' i k)=[]:=by
  rw[Uw];intro k hk;obtain⟨j,_,rfl⟩:=AP.mp hk;unfold F2;rw[if_pos hi];simp;omega
 grind
theorem Yz(f f':Nat->Nat->Bool)(i:Nat):bu (2*m) (F2 m f f') (m+i)=(bu m f' i).map (m + ·):=by
 unfold bu;have e:η (2*m)=η m++(η m).map (m + ·):=by rw[show 2*m=m+m by omega,Ti]
 have hi:¬m+i<m:=∅
 rw[e,Vs,XO];have a:(η m).filter (λk=>F2 m f f' (m+i) k)=[]:=by
  rw[Uw];intro k hk;have:=dD.mp hk;unfold F2;rw[if_neg hi];simp;omega
 have b:(η m).filter ((λk=>F2 m f f' (m+i) k) ∘ (m + ·))=(η m).filter λk=>f' i k:=Si λk hk=>by
  simp only[Function.comp];unfold F2;rw[if_neg hi];simp
 rw[a,b,RC]
theorem aij(m:Nat)(f f':Nat->Nat->Bool):wF (2*m) (F2 m f f')=wF m f++(wF m f').map λr=>r.map (m + ·):=by
 unfold wF;have e:η (2*m)=η m++(η m).map (m + ·):=by rw[show 2*m=m+m by omega,Ti]
 rw[e,S8,R3,R3]
 congr 1
 ·exact RV λi hi=>DI f f' (dD.mp hi)
 ·exact RV λi _=>Yz f f' i
theorem za(m:Nat)(f:Nat->Nat->Bool)(i:Nat):(bu m f i).length<=m:=by
 have:=SM (λk=>f i k) (η m)
 simpa[bu]using this
theorem Jx(f f':Nat->Nat->Bool)(hm:m<60)(cc:aa):qh [aA (wF m f),aA (wF m f')] cc=.ok (aA (wF (2*m) (F2 m f f'))) cc:=by
 have hs:=cZ (n:=1000) ⋯
 have h:=kN (E:=[O (aA (wF m f))]) (a:=aB 2 vq (ao (ak 0) (ao (aJ aR ⇑1) aq))) (c:=cc) (λr:List Nat=>D.tup (nD r)) (λr:List Nat=>D.tup (nD _)) (wF m f') (λr hr=>by
  obtain⟨i,_,rfl⟩:=AP.mp hr;have:=za m f' i;refine dR rfl (ck rfl (iV _ _)) ?_;rw[fT];exact YU _ _ ∅ cc)
 have e2:((wF m f').map λr:List Nat=>D.tup (nD r)).length<Ω:=by rw[P0,fT];omega
 have hd:av A3 (ak 0) (aJ eT (ao (aU (e9 (ak 1)) [U,O 0] (aC 0) aY (aB 2 vq (ao (ak 0) (ao (aJ aR ⇑1) aq)))) aq)) [O (aA (wF m f)),O (aA (wF m f'))] cc=.ok (aA (wF (2*m) (F2 m f f'))) cc:=by
  refine aZ (x:=aA (wF m f)) (y:=.tup ((wF m f').map λr:List Nat=>D.tup (nD _))) rfl (ck (fN (items:=(wF m f').map λr:List Nat=>D.tup (nD r)) (l:=(wF m f').map λr:List Nat=>D.tup (nD (r.map (m + ·)))) rfl e2 ?_) rfl) ?_
  ·have e:fq [U,O 0] [O (aA (wF m f)),O (aA (wF m f'))]=[U,O (aA (wF m f))]:=rfl;rw[e,h]
  ·show(if _ then _ else _)=_
   rw[if_pos (by simp[fT];omega),aij]
   unfold aA;rw[S8,R3];rfl
 exact dW (dU hd) (xX _) (by unfold aA;simp)
def oh(n:Nat)(F:Nat->Nat->Bool)(c:Nat->Nat)(u:Nat):Lk:=((c u:Int),iW (((bu n F u).map c).map λn:Nat=>(n:Int)))
theorem um(F:Nat->Nat->Bool)(h:i<n)(cc:aa):aH (aA (wF n F)) ↥i cc=.ok (.tup (nD (bu n F i))) cc :=
 ou (by simp[wF,h]) cc
theorem Mk{F:Nat->Nat->Bool}(h:v∈bu n F i):v<n:=dD.mp (R0.mp h).1
theorem Zn(k:Lk):noRef (gy k)=J:=by
 have:bF (k.2.map D.int)=J:=iC.mpr λd hd=>by obtain⟨i,_,rfl⟩:=AP.mp hd;rfl
 unfold gy
 simp_all
theorem Zj(F:Nat->Nat->Bool)(c:Nat->Nat)(hn:n<60)(hu:u<n)(cc:aa):vt [aA (wF n F),aM n c,.int (u:Int)] cc=.ok (gy (oh n F c u)) cc:=by
 have hs:=cZ (n:=1000) ⋯
 have hl:=za n F u;have h:=kN (E:=[O (aM n c)]) (a:=av aH (ak 1) (ak 0)) (c:=cc) (λv:Nat=>D.int (v:Int)) (λv:Nat=>D.int ((c v:Nat):Int)) (bu n F u) (λv hv=>aZ rfl rfl (lZ c (Mk hv) cc))
 have e2:((bu n F u).map λv:Nat=>D.int (v:Int))=nD (bu n F u):=rfl
 rw[e2]at h;refine dW (dU (ux (aZ rfl rfl (lZ c hu cc)) (ck (ck (fN (items:=nD (bu n F u)) (l:=nD ((bu n F u).map c)) ?_ (by simp[nD];omega) ?_) (v:=.lst ((iW (((bu n F u).map c).map λn:Nat=>(n:Int))).map D.int)) ?_) rfl))) ?_ (by unfold gy;simp)
 ·unfold e9;rw[aZ (x:=aA (wF n F)) (y:=.int (u:Int)) rfl rfl (um F hu cc)];rfl
 ·have e:fq [U,O 1] (bW 3 [aA (wF n F),aM n c,.int (u:Int)])=[U,O (aM n c)]:=rfl;rw[e,h];simp[nD,Sl]
 ·unfold mF jg;dsimp only;rw[zE];dsimp only;rw[if_pos (by simp;omega)]
 ·exact Zn _
theorem Zk{F:Nat->Nat->Bool}{c:Nat->Nat}:oh n F c u=oh n F c v↔c u=c v/\∀d,ig n F c u d=ig n F c v d:=by
 have key:∀w d,((bu n F w).map c).count d=ig n F c w d:=λw d=>by
  unfold bu ig;rw[List.count,SK,Vn];refine Rv λx _=>?_
  simp[and_comm]
 unfold oh;rw[VT,up_eq,Lm];simp only[key]
 constructor
 ·rintro ⟨a,b⟩;exact⟨∅,b⟩
 ·rintro ⟨a,b⟩;exact⟨∅,b⟩
def jz(n:Nat)(F:Nat->Nat->Bool)(c:Nat->Nat):List Lk:=(η n).map (oh n F c)
def gH(n:Nat)(F:Nat->Nat->Bool)(c:Nat->Nat):Nat->Nat:=λu=>(fj (jz n F c)).idxOf (oh n F c u)
theorem D5{F:Nat->Nat->Bool}{c:Nat->Nat}(h:u<n):oh n F c u∈fj (jz n F c):=vm.mpr (AP.mpr ⟨u,dD.mpr h,rfl⟩)
theorem zV(n:Nat)(F:Nat->Nat->Bool)(c:Nat->Nat):xM n F c (gH n F c):=λu v hu hv=>by
 rw[<-Zk]
 constructor
 ·intro e;have h1:=Tj.mpr (D5 (F:=F) (c:=c) hu);have h2:=Tj.mpr (D5 (F:=F) (c:=c) hv);have a:=Uz h1;have b:=Uz h2;rw[<-a,<-b]
  congr 1
 ·intro e;unfold gH;rw[e]
theorem O3:∀(xs ns:List Lk),(xs.foldl fF ns).length<=ns.length+xs.length
 |[],ns=>by simp
 |x::xs,ns=>by
  have:=O3 xs (fF ns x);have h2:(fF ns x).length<=ns.length+1:=by
   unfold fF
   grind
  grind
theorem aiQ(l:List Lk):(fj l).Nodup:=(uq l).imp fun{a b} h e=>by subst e;rw[qj]at h;cases h
theorem Z9{ks:List Lk}(hn:ks.Nodup)(hk:k∈ks)(cc:aa):qo (.gr (gO ks)) (gy k) cc=.ok (.int (ks.idxOf k:Nat)) cc:=by
 have hl:=Tj.mpr hk;have hf:(gO ks).find? (λkv=>decide (kv.1=k))=O (k,((ks.idxOf k:Nat):Int)):=by
  rw[Ws];refine⟨by simp,ks.idxOf k,by rw[Nh];exact hl,?_,λj hj=>?_⟩
  ·unfold gO;rw[XF,Uz hl]
  ·unfold gO
   grind
 unfold qo;rw[MY];dsimp only;rw[hf];dsimp only;rw[if_pos (by rw[vJ];exact hn)]
theorem Pc(F:Nat->Nat->Bool)(c:Nat->Nat)(hn:n<60)(cc:aa):qi [aA (wF n F),aM n c] cc=.ok (aM n (gH n F c)) cc:=by
 have hs:=cZ (n:=1000) ⋯
 have h1:=kN (E:=[O (aA (wF n F)),O (aM n c)]) (a:=aB 3 vt (ao (ak 1) (2⊂0))) (c:=cc) _ _ (η n) (λv hv=>jK rfl rfl rfl (Zj F c hn (dD.mp hv) cc))
 have e1:((η n).map λv:Nat=>D.int (v:Int))=aV 0 (n:Int):=(mH n).symm
 have e3:((η n).map λv:Nat=>gy (oh n F c v))=(jz n F c).map gy:=by unfold jz;rw[R3];rfl
 rw[e1,e3]at h1;have s1:aI 2 (aU (bK (ao (aJ aR ⇑0) aq)) [U,O 0,O 1] (aC 0) aY (aB 3 vt (ao (ak 1) (2⊂0)))) (bW 6 [aA (wF n F),aM n c]) cc=.ok (.nx [O (aA (wF n F)),O (aM n c),O (.lst ((jz n F c).map gy)),U,U,U]) cc:=by
  refine cJ (fN (mJ (ck rfl (by rw[iV,fT])) ∅) (uJ ∅) h1)
 have s2:uN [O (aA (wF n F)),O (aM n c),O (.lst ((jz n F c).map gy)),U,U,U] cc=.ok (.nx [O (aA (wF n F)),O (aM n c),O (.lst ((jz n F c).map gy)),O (.gr (gO (fj (jz n F c)))),U,U]) cc:=by
  unfold uN;simp only[List.getElem?_cons_succ,List.getElem?_cons_zero];rw[MU];dsimp only;rw[if_pos ⟨by have:=O3 (jz n F c) [];unfold dF;simp[jz]at this ⊢;omega,rfl⟩]
  rfl
 have h2:=kN (E:=[O _]) (a:=av qo (ak 1) (ak 0)) (c:=cc) _ (λv:Nat=>D.int (gH n F c v:Nat)) (η n) (λv hv=>aZ rfl rfl (Z9 (aiQ _) (D5 (dD.mp hv)) cc))
 rw[e3]at h2;have s3:aP (aU (cj (ak 2)) [U,O 3] (aC 0) aY (av qo (ak 1) (ak 0))) [O (aA (wF n F)),O (aM n c),O (.lst ((jz n F c).map gy)),O (.gr (gO (fj (jz n F c)))),U,U] cc=.ok (.rt (aM n (gH n F c))) cc:=by
  refine dU ?_;unfold aM;refine fN (nN rfl) (by simp[jz];omega) (h2.trans ?_)
  simp[nD,Sl]
 refine dW ?_ (FW _ _) (by unfold aM;simp)
 unfold BD;rw[iu,s1];simp only[R.aN]
 simp_all
def mW(m:Nat)(c:Nat->Nat):List Int:=((η m).map c).map λn:Nat=>(n:Int)
def nQ(m:Nat)(c:Nat->Nat):List Int:=((η m).map λi=>c (m+i)).map λn:Nat=>(n:Int)
def jY(m:Nat)(c:Nat->Nat):Bool:=decide (iW (mW m c)=iW (nQ m c))
theorem CN{c:Nat->Nat}:jY m c=J↔qK m c:=by
 unfold jY mW nQ qK;rw[decide_eq_true_eq,up_eq,Lm];simp only[adm]
theorem two_rng(m:Nat)(c:Nat->Nat):nD ((η (2*m)).map c)=(mW m c).map D.int++(nQ m c).map D.int:=by
 have e:η (2*m)=η m++(η m).map (m + ·):=by rw[show 2*m=m+m by omega,Ti]
 rw[e];simp[mW,nQ,Sl]
theorem sR(m:Nat)(c:Nat->Nat):(mW m c).length=m:=by simp[mW]
theorem yD(m:Nat)(c:Nat->Nat):(nQ m c).length=m:=by simp[nQ]
theorem zM{m:Nat}(h:d e cc=.ok (.int ((2*m:Nat):Int)) cc):av fL d (dC (.int 2)) e cc=.ok ↥m cc:=by
 refine aZ h rfl ?_;rw[Ih];simp
theorem CI{l:List Int}(h:l.length<64)(cc:aa):mF [.lst (l.map D.int)] cc=.ok (.lst ((iW l).map D.int)) cc:=by
 unfold mF jg;dsimp only;rw[qq]
 grind
theorem aih(c:Nat->Nat)(hm:m<30)(cc:aa):lM [aM (2*m) c] cc=.ok (.bl (jY m c)) cc:=by
 have s1:aI 1 (av fL (aJ aR ⇑0) (dC _)) (bW 2 [aM (2*m) c]) cc=.ok _ cc :=
  cJ (zM (ck rfl (P9 _ _ _)))
 have c1:cutD (nD ((η (2*m)).map c)) U (O (m:Int))=(mW m c).map D.int:=by
  unfold cutD;rw[two_rng];simp only[HT.ajp,HT.KI,Rq,P0,sR,yD];rw[show min m _-0=((mW m c).map D.int).length by simp[sR],List.drop_zero,Vx]
 have c2:cutD (nD ((η (2*m)).map c)) (O m) U=(nQ m c).map D.int:=by
  unfold cutD;rw[two_rng];simp only[HT.ajp,HT.KI,Rq,P0,sR,yD];rw[show min m _=((mW m c).map D.int).length by simp[sR],List.drop_left]
  exact T7 (by simp[sR,yD])
 refine dW ?_ rfl (by simp)
 unfold BG;rw[iu,s1];simp only[R.aN];refine dU (aZ (ck ?_ (CI (by rw[sR];omega) cc)) (ck (x:=.lst ((nQ m c).map D.int)) ?_ (CI (by rw[yD];omega) cc)) (Fz _ _ cc))
 ·rw[<-c1];rfl
 ·rw[<-c2];rfl
theorem acT(n:Nat)(c:Nat->Nat):nh (((η n).map c).map λn:Nat=>(n:Int))=eB n c:=by
 have key:∀k,k<=n->(PyProof.Rows.firstMet (λi=>(((η n).map c).map λn:Nat=>(n:Int)).getD i 0) k).length=(η k).countP (g6 c):=by
  intro k
  induction k with
  |zero=>intro _;rfl
  |succ k ih =>
   intro hk;have ih:=ih ∅
   have val:∀j,j<n->(((η n).map c).map λn:Nat=>(n:Int)).getD j 0=(c j:Int):=λj hj=>by
    rw[Iv];simp[hj]
   rw[PyProof.Rows.firstMet_succ,Uc,Vq,<-ih];unfold PyProof.Rows.step_dedup;rw[PyProof.Rows.firstMet_any];have e:(((η k).map λi=>(((η n).map c).map λn:Nat=>(n:Int)).getD i 0).any (· == (((η n).map c).map λn:Nat=>(n:Int)).getD k 0)) = !g6 c k:=by
    rw[S5,U3]
    constructor
    ·rintro ⟨x,hx,e⟩
     obtain⟨j,hj,rfl⟩:=AP.mp hx;have hj:=dD.mp hj;rw[val j ∅,val k ∅]at e
     have e2:(c j:Int)=(c k:Int):=by simpa using e
     have e:c j=c k:=∅
     have:g6 c k=ξ:=by
      cases q:g6 c k with
      |false=>rfl
      |true=>exact absurd e (ji.mp q j hj)
     simp[this]
    ·intro q;have q:¬g6 c k=J:=by simpa using q
     rw[ji]at q;have:∃j,j<k/\c j=c k:=Rh λz=>q λj hj e=>z ⟨j,hj,e⟩
     obtain⟨j,hj,e⟩:=this;refine⟨_,AP.mpr ⟨j,dD.mpr hj,rfl⟩,?_⟩;rw[val j ∅,val k ∅,e]
     simp
   rw[e];cases q:g6 c k<;>simp[q]
 have:=key n (x6 n);unfold nh eB;rw[<-this];simp
theorem M8(c:Nat->Nat)(hn:n<60)(h:d e cc=.ok (aM n c) cc):lX (ao d aq) e cc=.ok (.int (eB n c:Nat)) cc:=by
 unfold lX;simp only[cY,h,cU,R.aN];unfold aM jg;dsimp only;rw[zE];dsimp only;rw[if_pos (by grind),acT]
section
variable {m:Nat}{f f':Nat->Nat->Bool}
theorem O4{F:Nat->Nat->Bool}{c c':Nat->Nat}(h:xM n F c c'):BP n c c':=λu v hu hv e=>((h u v hu hv).mp e).1
structure Ref (m:Nat) (f f':Nat->Nat->Bool) (c c':Nat->Nat):Prop where
 pZ:∀os,bY m f f' os->(fE m c os↔fE m c' os)
 fin:BP (2*m) c c'
theorem Ref.refl(c:Nat->Nat):Ref m f f' c c:=⟨λ_ _=>Iff.rfl,λ_ _ _ _ e=>e⟩
theorem Ref.trans{a b c:Nat->Nat}(h:Ref m f f' a b)(g:Ref m f f' b c):Ref m f f' a c :=
 ⟨λos i=>(h.pZ os i).trans (g.pZ os i),λu v hu hv e=>h.fin u v hu hv (g.fin u v hu hv e)⟩
theorem Ref.step(c:Nat->Nat):Ref m f f' c (gH (2*m) (F2 m f f') c) :=
 ⟨λos i=>⟨λr=>fE.acj i r (zV _ _ _),λr=>fE.ads i.pm r (zV _ _ _)⟩,O4 (zV _ _ _)⟩
end
def zW:ai:=(i6 (aG (aB 1 lM ⇑3)) (aG (av gm (lX ⇑3) (lX ⇑2))))
def zX:ah:=(aD (aI 2 (ak 3)) (aI 3 (aB 2 qi (0⊂2))))
theorem yr(hn:n=2*m)(c:Nat->Nat)(hm:m<30)(cc:aa):lM [aM n c] cc=.ok (.bl (jY m c)) cc:=by subst hn;exact aih c hm cc
theorem O8(hn:n=2*m)(c c':Nat->Nat)(hm:m<30)(a b:Option D)(cc:aa):zW [a,b,O (aM n c),O (aM n c')] cc=.ok (jY m c'&&decide (eB n c<eB n c')) cc:=by
 unfold zW;have h2:aG (av gm (lX ⇑3) (lX ⇑2)) [a,b,O (aM n c),O (aM n c')] cc=.ok (decide _) cc:=cO (aZ (M8 c' ∅ rfl) (M8 c ∅ rfl) rfl)
 have h3:decide ((eB n c':Int)>(eB n c:Int))=decide (eB n c<eB n c'):=decide_eq_decide.mpr ∅
 rw[ug,(cO (fQ rfl (yr hn c' hm cc)))];simp only[R.aN];rw[h2,h3];cases jY m c'<;>rfl
theorem acf{W:D}(F:Nat->Nat->Bool)(hW:W=aA (wF n F))(c c':Nat->Nat)(hn:n<60)(b:Option D)(cc:aa):zX [O W,b,O (aM n c),O (aM n c')] cc=.ok (.nx [O W,b,O (aM n c'),O (aM n (gH n F c'))]) cc:=by
 unfold zX;rw[iu,(cJ rfl)];exact(cJ (dR rfl rfl (by rw[hW];exact Pc F c' hn cc)))
theorem acd{W:D}{f f' F:Nat->Nat->Bool}(hW:W=aA (wF n F))(hn:n=2*m)(hF:F=F2 m f f')(hm:m<30)(b:Option D)(cc:aa):∀(k:Nat) (c:Nat->Nat),n<k+eB n c->∃c1,Ref m f f' c c1/\¬(jY m (gH n F c1)=J/\eB n c1<eB n (gH n F c1)) /\
  mz zW zX k [O W,b,O (aM n c),O (aM n (gH n F c))] cc=.ok (.nx [O W,b,O (aM n c1),O (aM n (gH n F c1))]) cc:=by
 intro k
 induction k with
 |zero=>intro c h;have:=Mq n c;omega
 |succ k ih =>
  intro c h
  by_cases q:jY m (gH n F c)=J/\eB n c<eB n (gH n F c)
  ·obtain⟨c1,h1,h2,h3⟩:=ih (gH n F c) (by have:=q.2;omega)
   refine⟨c1,Ref.trans (by subst hn;subst hF;exact Ref.step c) h1,h2,?_⟩
   unfold mz;rw[O8 hn c _ hm];simp only[R.aN];rw[if_pos (by simp[q.1,q.2]),acf F hW c _ ∅]
   simp only[R.aN];exact h3
  ·refine⟨c,Ref.refl c,q,?_⟩;unfold mz;rw[O8 hn c _ hm];simp only[R.aN];rw[if_neg];intro z;rw[RT,decide_eq_true_eq]at z;exact q z
theorem aci{W:D}{f f' F:Nat->Nat->Bool}(hW:W=aA (wF n F))(hn:n=2*m)(hF:F=F2 m f f')(hm:m<18)(c:Nat->Nat)(cc:aa):∃c',Ref m f f' c c'/\(qK m c'->xN n F c')/\mV [W,aM n c] cc=.ok (aM n c') cc:=by
 obtain⟨c1,h1,h2,h3⟩:=acd hW hn hF ∅ (O (aM n c)) cc 40 c ∅
 refine⟨gH n F c1,h1.trans (by subst hn;subst hF;exact Ref.step c1),λhs=>?_,?_⟩
 ·have hf:=zV n F c1;refine acI hf (YB (O4 hf) ?_)
  rcases SQ (eB n c1) (eB n (gH n F c1))with q|q
  ·exact absurd ⟨CN.mpr hs,q⟩ h2
  ·exact q
 ·have s1:aI 2 (ak 1) (bW 4 [W,aM n c]) cc=.ok (.nx [O W,O _,O (aM n c),U]) cc:=cJ rfl;have s2:aI 3 (aB 2 qi (0⊂2)) [O W,O (aM n c),O (aM n c),U] cc=.ok (.nx [O W,O (aM n c),O _,O (aM n (gH n F c))]) cc:=cJ (dR rfl rfl (by rw[hW];exact Pc F c ∅ cc))
  have hb:BC=aD (aI 2 _) (aD (aI 3 (aB 2 qi (ao _ (ao _ aq)))) (aD (mz zW zX 40) (aP _))):=rfl;have s4:aP (ak 3) [O W,O (aM n c),O (aM n c1),O (aM n (gH n F c1))] cc=.ok (.rt (aM n (gH n F c1))) cc:=rfl;refine dW ?_ (FW _ _) (by unfold aM;simp)
  rw[hb,iu,s1];simp only[R.aN];rw[iu,s2];simp only[R.aN];rw[iu,h3];simp only[R.aN];exact s4
theorem MI:∀(l:List Int) (a:Int),a<=eV a l/\∀x∈l,x<=eV a l
 |[],a=>⟨by simp[eV],by simp⟩
 |b::l,a=>by
  unfold eV;have h:=MI l (if b>a then b else a)
  refine⟨?_,λx hx=>?_⟩
  ·have:=h.1;split at this<;>split<;>omega
  ·rcases Bt.mp hx with rfl|hx
   ·have:=h.1;split at this<;>split<;>omega
   ·exact h.2 x hx
theorem MG:∀(l:List Int) (a:Int),eV a l∈a::l
 |[],a=>by simp[eV]
 |b::l,a=>by
  unfold eV;have h:=MG l (if b>a then b else a)
  rcases Bt.mp h with e|h
  ·rw[e];split<;>simp
  ·simp[h]
theorem ME:∀(l:List Int) (a:Int),gi a l<=a/\∀x∈l,gi a l<=x
 |[],a=>⟨by simp[gi],by simp⟩
 |b::l,a=>by
  unfold gi;have h:=ME l (if b<a then b else a)
  refine⟨?_,λx hx=>?_⟩
  ·have:=h.1;split at this<;>split<;>omega
  ·rcases Bt.mp hx with rfl|hx
   ·have:=h.1;split at this<;>split<;>omega
   ·exact h.2 x hx
theorem MD:∀(l:List Int) (a:Int),gi a l∈a::l
 |[],a=>by simp[gi]
 |b::l,a=>by
  unfold gi;have h:=MD l (if b<a then b else a)
  rcases Bt.mp h with e|h
  ·rw[e];split<;>simp
  ·simp[h]
theorem Y7(h:l≠[])(cc:aa):∃z:Nat,(∀x∈l,x<=z)/\lI [.lst (nD l)] cc=.ok ↥z cc:=by
 cases l with
 |nil=>exact absurd rfl h
 |cons a l =>
  have hm:=MG (l.map λn:Nat=>(n:Int)) (a:Int)
  have hg:=MI (l.map λn:Nat=>(n:Int)) (a:Int)
  have:∃z:Nat,eV (a:Int) (l.map λn:Nat=>(n:Int))=(z:Int):=by
   rcases Bt.mp hm with e|e
   ·exact⟨a,e⟩
   ·obtain⟨x,_,e⟩:=AP.mp e;exact⟨x,e.symm⟩
  obtain⟨z,hz⟩:=this;refine⟨z,λx hx=>?_,?_⟩
  ·rcases Bt.mp hx with rfl|hx
   ·have:=hg.1;omega
   ·have:=hg.2 x (AP.mpr ⟨x,hx,rfl⟩);omega
  ·show(match g8 _ with|some (a::r)=>R.ok _ cc|_=>R.bad)=_
   rw[zE];show R.ok _ cc=_;rw[hz]
theorem Y3(h:l≠[])(cc:aa):∃z:Nat,z∈l/\(∀x∈l,z<=x)/\vj [.lst (nD l)] cc=.ok ↥z cc:=by
 cases l with
 |nil=>exact absurd rfl h
 |cons a l =>
  have hm:=MD (l.map λn:Nat=>(n:Int)) (a:Int)
  have hg:=ME (l.map λn:Nat=>(n:Int)) (a:Int)
  have:∃z:Nat,z∈a::l/\gi (a:Int) (l.map λn:Nat=>(n:Int))=(z:Int):=by
   rcases Bt.mp hm with e|e
   ·exact⟨a,by simp,e⟩
   ·obtain⟨x,hx,e⟩:=AP.mp e;exact⟨x,by simp[hx],e.symm⟩
  obtain⟨z,hz1,hz⟩:=this;rw[hz]at hg;refine⟨z,hz1,λx hx=>?_,?_⟩
  ·rcases Bt.mp hx with rfl|hx
   ·have:=hg.1;omega
   ·have:=hg.2 (x:Int) (AP.mpr ⟨x,hx,rfl⟩);omega
  ·show(match g8 (nD (a::l))with|some (a::r)=>R.ok (D.int (gi a r)) cc|_=>R.bad)=_
   rw[zE];show R.ok (D.int (gi (a:Int) (l.map λn:Nat=>(n:Int)))) cc=_
   rw[hz]
theorem Lx(g h F:Nat->D):∀(l:List Nat) (v w:Option D) (acc:List D),(∀i∈l,a (O (g i)::O (h i)::E) cc=.ok (F i) cc)->bN (λ_=>True) (fK 2 (cC (aC 0) (cC (aC 1) gn))) aY a (l.map λi=>.tup [g i,h i]) (v::w::E) acc cc=.ok (acc++l.map F) cc
 |[],v,w,acc,_=>by simp
 |i::l,v,w,acc,hh=>by
  have e1:fK 2 (cC (aC 0) (cC (aC 1) gn)) (.tup [g i,h i]) (v::w::E) cc=.ok (O (g i)::O (h i)::E) cc:=rfl;rw[Q8,pq,e1,R.aN,ue,R.aN,if_pos rfl,hh i (by simp),R.aN,Lx g h F l _ _ _ (λj hj=>hh j (by simp[hj])),SE]
  rfl
theorem QF(c:Nat->Nat)(h0:0<n)(hn:n<60)(cc:aa):∃z,(∀i,i<n->c i≠z)/\∀one other:Nat,kO [aM n c,.int (one:Int),.int (other:Int)] cc=.ok (aM n (cV c z one other)) cc:=by
 have hs:=cZ (n:=1000) ⋯
 obtain⟨z,hz,hm⟩:=Y7 (l:=(η n).map c) (by intro e;have:=congrArg List.length e;simp at this;omega) cc
 refine⟨z+1,λi hi e=>?_,λone other=>?_⟩
 ·have:=hz (c i) (AP.mpr ⟨i,dD.mpr hi,rfl⟩);omega
 have s1:aI 3 (av bR (aJ lI ⇑0) (dC (.int 1))) (bW 4 [aM n c,.int (one:Int),.int (other:Int)]) cc=.ok (.nx [O (aM n c),O _,O _,O (.int ((z+1:Nat):Int))]) cc :=
  cJ (aZ (ck (x:=aM n c) rfl hm) rfl (by rw[xW];congr 2))
 have en:(nD ((η n).map c)).mapIdx (λi x=>D.tup [.int i,x])=(η n).map λi:Nat=>D.tup [.int (i:Int),.int (c i:Nat)]:=by
  refine Rx (by simp[nD]) λi h1 h2=>?_
  simp[nD]
 have h:=Lx (a:=ni (aG (av inD (ak 0) _)) (ak 2) (ak 1)) (cc:=cc) _ (λi=>D.int (c i:Nat)) (λi=>D.int (cV c (z+1) one other i:Nat)) (η n) U U [] (λi _=>by
  have hb:aG (av inD (ak 0) (bX (3⊂4))) [O (D.int (i:Int)),O (D.int (c i:Nat)),O (.int ((z+1:Nat):Int)),O ↥one,O ↥other] cc=.ok (decide (i∈[one,other])) cc:=cO (aZ rfl (ux rfl rfl) (NQ [one,other] i cc));refine(aan hb (x:=.int ((z+1:Nat):Int)) (y:=.int (c i:Nat)) rfl rfl).trans ?_;unfold cV
  by_cases q:i=one\/i=other
  ·rw[if_pos (by simpa using q),if_pos q]
  ·rw[if_neg (by simpa using q),if_neg q])
 refine dW ?_ (FW _ _) (by unfold aM;simp)
 unfold A9;rw[iu,s1];refine dU ?_;unfold aM;refine fN ?_ (by simp;omega) (h.trans ?_)
 ·unfold FN;rw[<-en];rfl
 ·simp[nD]
theorem ad9{one other:Nat}(c:Nat->Nat)(h0:0<n)(hn:n<60)(cc:aa):∃z,(∀i,i<n->c i≠z)/\kO [aM n c,.int (one:Int),.int (other:Int)] cc=.ok (aM n (cV c z one other)) cc:=by
 obtain⟨z,h1,h2⟩:=QF c h0 hn cc;exact⟨z,h1,h2 one other⟩
theorem acm{p q:Nat->Bool}:(η m).filter p=(η m).filter q↔∀x,x<m->p x=q x:=by
 constructor
 ·intro h x hx;have a:x∈(η m).filter p↔x∈(η m).filter q:=by rw[h]
  simp[hx]at a
  first|exact a|(rw[S5];exact a)
 ·intro h;exact Si λx hx=>h x (dD.mp hx)
def twB(m:Nat)(f:Nat->Nat->Bool)(a b:Nat):Bool:=decide ((bu m f a).filter (λx=>!decide (x=b))=(bu m f b).filter λx=>!decide (x=a))
theorem twB_iff{f:Nat->Nat->Bool}(hw:bO f):twB m f a b=J↔twinO m f a b:=by
 unfold twB bu twinO;rw[decide_eq_true_eq,Ux,Ux,acm]
 constructor
 ·intro h x hx h1 h2;have:=h x hx
  simpa[h1,h2]using this
 ·intro h x hx
  by_cases h1:x=a
  ·subst h1;simp[hw.ir]
  ·by_cases h2:x=b
   ·subst h2;simp[hw.ir]
   ·simp[h1,h2,h x hx h1 h2]
theorem acH(l k:List Nat)(cc:aa):oX (.lst (nD l)) (.lst (nD k)) cc=.ok (.bl (decide (l=k))) cc:=by
 rw[vf,vf,Fz]
 congr 2
 exact decide_eq_decide.mpr ⟨λh=>(List.map_inj_right (λx y e=>∅) |>.mp h),λh=>by rw[h]⟩
theorem tw_filt{n a b:Nat}{F:Nat->Nat->Bool}{i:Nat}(hn:n<60)(h1:d e cc=.ok (.tup (nD (bu n F a))) cc)(hp:fq [U,O i] e=[U,O ↥b]):aU (e9 d) [U,O i] (aC 0) (aG (av cz (ak 0) (ak 1))) (ak 0) e cc=.ok (.lst (nD ((bu n F a).filter λx=>!decide (x=b)))) cc:=by
 have hs:=cZ (n:=1000) ⋯
 have hl:=za n F a;refine fN (by unfold e9;rw[h1];rfl) (by simp;omega) ?_
 rw[hp];have h:=jF (E:=[O ↥b]) (t:=aG (av cz (ak 0) (ak 1))) (a:=ak 0) (c:=cc) _ (λv:Nat=>D.int v) (λx=>!decide _) (bu n F a) U [] (λx _=>by
  have:(!decide (x=(b:Int))) = !decide (x=b):=by rw[decide_eq_decide.mpr (show _↔x=b by omega)]
  rw[<-this];exact cO (aZ rfl rfl rfl)) (λx _ _=>rfl)
 exact h
theorem twins_ok{W:D}(F:Nat->Nat->Bool)(hW:W=aA (wF n F))(hn:n<60)(ha:a<n)(hb:b<n)(cc:aa):sM [W,.int (a:Int),.int (b:Int)] cc=.ok (.bl (twB n F a b)) cc:=by
 refine dW (dU (aZ (x:=.lst (nD ((bu n F a).filter λx=>!decide (x=b)))) (y:=.lst (nD ((bu n F b).filter λx=>!decide (x=a)))) (tw_filt hn (aZ (x:=W) (y:=.int (a:Int)) rfl rfl (by rw[hW];exact um F ha cc)) rfl) (tw_filt hn (aZ (x:=W) (y:=.int (b:Int)) rfl rfl (by rw[hW];exact um F hb cc)) rfl) (acH _ _ cc))) rfl (by simp)
theorem zU{α:Type}{env:Option D->Ev}(vW:∀v x,(env v).set i (O x)=env (O x))(g:α->D)(P:α->Bool)(V:α->D):∀(l:List α) (v:Option D),(∀x∈l,P x=J->s (env (O (g x))) cc=.ok (.rt (V x)) cc)->(∀x∈l,P x=ξ->s (env (O (g x))) cc=.ok (.nx (env (O (g x)))) cc) ->
  (∀x,l.find? P=O x->bU (λ_=>True) (aC i) s (l.map g) (env v) cc=.ok (.rt (V x)) cc)/\(l.find? P=U->∃v',bU (λ_=>True) (aC i) s (l.map g) (env v) cc=.ok (.nx (env v')) cc)
 |[],v,_,_=>⟨λx h=>by simp at h,λ_=>⟨v,by simp⟩⟩
 |x::l,v,h1,h2=>by
  have e:aC i (g x) (env v) cc=.ok (env (O (g x))) cc:=by rw[Ig,vW]
  rw[Q8,kr,e,R.aN];cases hp:P x with
  |true =>
   rw[h1 x (by simp) hp,R.aN,Vt hp]
   exact⟨λy hy=>by cases hy;rfl,λq=>by cases q⟩
  |false =>
   rw[h2 x (by simp) hp,R.aN,Vu (by simp[hp])]
   exact zU vW g P V l _ (λy hy=>h1 y (by simp[hy])) (λy hy=>h2 y (by simp[hy]))
def l7(m n:Nat)(F:Nat->Nat->Bool)(c:Nat->Nat)(p:Nat):Bool:=((η m).filter λq=>decide (c q=c p)).all λq=>twB n F p q
def wg:ah:=(bx (eF (aG (aJ kB (ao (aU (bK ⇑2) [U,O 0,O 3,O 1] (aC 0) (aG (av cE (av aH (ak 3) (ak 0)) (av aH (ak 3) (ak 2)))) (aB 3 sM (ao (ak 1) (2⊂0)))) aq)))) (aP (ak 3)) bJ)
theorem AK(x y:Nat)(cc:aa):cE ↥x ↥y cc=.ok (.bl (decide (x=y))) cc:=by
 rw[xV,decide_eq_decide.mpr (show((x:Int)=(y:Int))↔x=y by omega)]
theorem foT{W:D}(F:Nat->Nat->Bool)(hW:W=aA (wF n F))(hn:n=2*m)(hm:m<30)(c:Nat->Nat)(hp:p<m)(cc:aa):(eF (aG (aJ kB (ao (aU (bK ⇑2) [U,O 0,O 3,O 1] (aC 0) (aG (av cE (av aH (ak 3) (ak 0)) (av aH (ak 3) (ak 2)))) (aB 3 sM (ao (ak 1) (2⊂0)))) aq)))) [O W,O (aM n c),O ↥m,O ↥p] cc=.ok (!l7 m n F c p) cc:=by
 have h:=jF (E:=[O W,O _,O (aM n c)]) (t:=aG (av cE (av aH (ak 3) (ak 0)) (av aH (ak 3) (ak 2)))) (a:=aB 3 sM (ao (ak 1) (2⊂0))) (c:=cc) (λv:Nat=>D.int v) (λq:Nat=>D.bl (twB n F p q)) (λq=>decide (c q=c p)) (η m) U [] (λq hq=>cO (aZ (aZ rfl rfl (lZ c (by have:=dD.mp hq;omega) cc)) (aZ rfl rfl (lZ c ∅ cc)) (AK _ _ cc))) (λq hq _=>jK rfl rfl rfl (twins_ok F hW ∅ ∅ (by have:=dD.mp hq;omega) cc))
 have e1:((η m).map λv:Nat=>D.int v)=aV 0 m:=(mH m).symm
 rw[e1,RC]at h;refine mS (cO (ck (fN (mJ rfl ∅) (uJ ∅) h) ?_))
 have e2:((η m).filter λq=>decide (c q=c p)).map (λq:Nat=>D.bl (twB n F p q))=(((η m).filter λq=>decide (c q=c p)).map λq:Nat=>D.int q).map λd=>D.bl (match d with|.int i=>twB n F p i.toNat|_=>J):=by
  rw[R3];refine RV λq _=>?_
  simp
 rw[e2,aec];unfold l7;rw[List.all_map];rfl
theorem Dm{f f' F:Nat->Nat->Bool}(hn:n=2*m)(hF:F=F2 m f f')(hw:bO f)(c:Nat->Nat)(hp:p<m):l7 m n F c p=J↔∀q,q<m->c q=c p->twinO m f p q:=by
 have tw:∀q,q<m->(twB n F p q=J↔twinO m f p q):=λq hq=>by
  rw[<-twB_iff hw];unfold twB;rw[hn,hF,DI f f' hp,DI f f' hq]
 unfold l7;rw[RW]
 constructor
 ·intro h q hq e;exact(tw q hq).mp (h q (R0.mpr ⟨dD.mpr hq,by simpa using e⟩))
 ·intro h q hq;have hq:=R0.mp hq;have hq1:=dD.mp hq.1;exact(tw q hq1).mpr (h q hq1 (by simpa using hq.2))
theorem aj0{W:D}(F:Nat->Nat->Bool)(hW:W=aA (wF n F))(hn:n=2*m)(cc:aa):aI 2 (av fL (aJ aR ⇑0) (dC (.int 2))) (bW 4 [W,C]) cc=.ok (.nx [O W,O C,O ↥m,U]) cc :=
 cJ (zM (ck rfl (by rw[hW,iV,fT,hn])))
def mP(W C M:D)(v:Option D):Ev:=[O W,O C,O M,v]
theorem LF{W:D}(F:Nat->Nat->Bool)(hW:W=aA (wF n F))(hn:n=2*m)(hm:m<30)(c:Nat->Nat)(hC:C=aM n c)(hp:p<m)(cc:aa):wg (mP W C ↥m (O ↥p)) cc=.ok (if l7 m n F c p=J then .nx (mP W C ↥m (O ↥p))else .rt ↥p) cc:=by
 subst hC;unfold wg mP;rw[xU,(foT F hW hn hm c hp cc)];cases l7 m n F c p<;>rfl
theorem bP(h:s e c=.ok (.nx e') c')(h2:t e' c'=r):aD s t e c=r:=by
 rw[iu,h];exact h2
theorem yu(h:s e c=.ok (.rt v) c'):aD s t e c=.ok (.rt v) c':=by
 rw[iu,h];simp only[R.aN]
theorem LD{m:Nat}{W:D}(hm:m<30):bK ⇑2 (mP W C ↥m U) cc=.ok ⟨aV 0 (m:Int),λ_=>True⟩ cc:=mJ rfl ∅
theorem abe{m:Nat}{W:D}(h1:aI 2 (av fL (aJ aR ⇑0) (dC (.int 2))) (bW 4 [W,C]) cc=.ok (.nx (mP W C ↥m U)) cc)(hm:m<30)(h2:bU (λ_=>True) (aC 3) wg (aV 0 (m:Int)) (mP W C ↥m U) cc=.ok (.rt v) cc)(nr:noRef v=J)(nf:∀k,v≠.ref k):kP [W,C] cc=.ok v cc:=by
 refine dW ?_ nr nf;exact bP h1 (yu (m9 (LD hm) h2))
theorem abc{m:Nat}{W:D}(h1:aI 2 (av fL (aJ aR ⇑0) (dC (.int 2))) (bW 4 [W,C]) cc=.ok (.nx (mP W C ↥m U)) cc)(hm:m<30)(h2:bU (λ_=>True) (aC 3) wg (aV 0 (m:Int)) (mP W C ↥m U) cc=.ok (.nx e) cc):kP [W,C] cc=.ok .aF cc:=by
 refine dW ?_ rfl (by simp)
 exact bP h1 (bP (m9 (LD hm) h2) (dU rfl))
theorem abk{W:D}{f f' F:Nat->Nat->Bool}(hW:W=aA (wF n F))(hn:n=2*m)(hF:F=F2 m f f')(hm:m<30)(hw:bO f)(c:Nat->Nat)(hC:C=aM n c)(cc:aa):
  (kP [W,C] cc=.ok .aF cc/\∀p q,p<m->q<m->c p=c q->twinO m f p q)\/(∃one,one<m/\kP [W,C] cc=.ok ↥one cc/\(∀p q,p<one->q<m->c q=c p->twinO m f p q)/\∃q,q<m/\c q=c one/\¬twinO m f one q):=by
 have hf:=zU (i:=3) (s:=wg) (cc:=cc) (env:=mP W C ↥m) (λv x=>rfl) (λv:Nat=>D.int (v:Int)) (λp=>!l7 m n F c p) (λv:Nat=>D.int (v:Int)) (η m) U (λp hp h=>by
  rw[LF F hW hn hm c hC (dD.mp hp),if_neg (by simpa using h)]) (λp hp h=>by
  rw[LF F hW hn hm c hC (dD.mp hp),if_pos (by simpa using h)])
 have e1:((η m).map λv:Nat=>D.int (v:Int))=aV 0 (m:Int):=(mH m).symm
 rw[e1]at hf;have s1:=aj0 (C:=C) F hW hn cc;cases q:(η m).find? (λp=>!l7 m n F c p)with
 |none =>
  left
  obtain⟨v',h2⟩:=hf.2 q;have hall:=TL.mp q;refine⟨abc s1 hm h2,λp r hp hr e=>?_⟩
  have:=hall p (dD.mpr hp);simp at this;exact(Dm hn hF hw c hp).mp this r hr e.symm
 |some one =>
  right
  have h2:=hf.1 one q;obtain⟨h3,⟨as,bs,h4,h5⟩⟩:=List.find?_eq_some_iff_append.mp q;have hone:one<m:=dD.mp (by rw[h4];simp)
  refine⟨one,hone,abe s1 hm h2 rfl (by simp),λp r hp hr e=>?_,?_⟩
  ·have qu:p∈as:=by
    have a1:as.length=one:=by
     have h6:(η m)[as.length]? = O one:=by rw[h4];simp
     rw[U7 (by
      have:=congrArg List.length h4;simp at this;omega)]at h6
     simpa using h6
    have h7:(η m)[p]? = O p:=U7 ∅
    rw[h4,RY ∅]at h7
    exact R7 h7
   have:=h5 p qu;have this:l7 m n F c p=J:=by simpa using this
   exact(Dm hn hF hw c ∅).mp this r hr e
  ·have:¬l7 m n F c one=J:=by simpa using h3
   rw[Dm hn hF hw c hone]at this;exact Rh λz=>this λr hr e=>Rh λy=>z ⟨r,hr,e,y⟩
theorem Ye(h:cc[k]? = O (.lst (nD l)))(x:Nat):iU ↥x (.ref k) cc=.ok (.bl (!decide (x∈l))) cc:=by
 have h1:e8 cc (.int x)=O _:=rfl;have h2:e8 cc (.ref k)=O (.list (l.map λn:Nat=>PyData.int n)):=by
  unfold e8;simp only[h];rw[AM]
 unfold iU;rw[h1,h2];dsimp only;rw[if_pos (by simp[PyData.depth]),Gv]
theorem Y5:o∈l↔∃j,j<l.length/\aE l j=o:=by
 constructor
 ·intro h;obtain⟨i,hi,e⟩:=S9 h;exact⟨i,hi,by simpa[aE,Iv,hi]using e⟩
 ·rintro ⟨j,hj,rfl⟩
  have:aE l j=l[j]:=by simp[aE,Iv,hj]
  rw[this];exact RA _
def yX:ah:=(aD (aI 4 (aU (bK ⇑1) [U,O 0,O 3,O 1] (aC 0) (aG (av cE (av aH (ak 1) (av bR (ak 3) (ak 0))) (av aH (ak 1) (ak 2)))) (ak 0))) (d9 (qD (ak 2) (aJ vj (ao (aU (cj (ak 4)) [U,O 2] (aC 0) (aG (av iU (ak 0) (ak 1))) (ak 0)) aq)))))
theorem alX{os:List Nat}{c:Nat->Nat}(hn:n=2*m)(hm:m<30)(hp:p<m)(hs:qK m c)(ho:jO m c p os)(hk:cc[k]? = O (.lst (nD os))):
  ∃a w',jO m c (p+1) (os++[a])/\yX [O (aM n c),O ↥m,O (.ref k),O ↥p,w] cc=.ok (.nx [O (aM n c),O ↥m,O (.ref k),O ↥p,w']) (cc.set k (.lst (nD (os++[a])))):=by
 have hsl:=cZ (n:=1000) ⋯
 have h:=jF (E:=[O (aM n c),O ↥p,O ↥m]) (t:=aG (av cE (av aH (ak 1) (av bR (ak 3) (ak 0))) (av aH (ak 1) (ak 2)))) (a:=ak 0) (c:=cc) (λv:Nat=>D.int (v:Int)) (λv:Nat=>D.int (v:Int)) (λo=>decide (c (m+o)=c p)) (η m) U [] (λq hq=>cO (aZ (aZ (y:=.int ((m+q:Nat):Int)) rfl (aZ rfl rfl (by rw[xW];congr 2)) (lZ c (by have:=dD.mp hq;omega) cc)) (aZ rfl rfl (lZ c ∅ cc)) (AK _ _ cc))) (λ_ _ _=>rfl)
 have e1:((η m).map λv:Nat=>D.int (v:Int))=aV 0 (m:Int):=(mH m).symm
 rw[e1,RC]at h;have s1:aI 4 (aU (bK ⇑1) [U,O 0,O 3,O 1] (aC 0) _ (ak 0)) [O (aM n c),O ↥m,O (.ref k),O ↥p,w] cc=.ok _ cc :=
  cJ (fN (mJ rfl ∅) (uJ ∅) h)
 have h2:=jF (E:=[O (.ref k)]) (t:=aG (av iU (ak 0) (ak 1))) (a:=ak 0) (c:=cc) (λv:Nat=>D.int (v:Int)) (λv:Nat=>D.int (v:Int)) (λo=>!decide (o∈os)) ((η m).filter λo=>decide (c (m+o)=c p)) U [] (λq hq=>cO (aZ rfl rfl (Ye hk q))) (λ_ _ _=>rfl)
 rw[RC]at h2;obtain⟨o,o1,o2,o3⟩:=ho.ex hs hp;have Dp:∀x,x∈((η m).filter λo=>decide (c (m+o)=c p)).filter (λo=>!decide (o∈os))↔x<m/\c (m+x)=c p/\∀j,j<p->aE os j≠x:=λx=>by
  rw[R0,R0,dD];have:(!decide (x∈os))=J↔∀j,j<p->aE os j≠x:=by
   rw[Bool.not_eq_true',decide_eq_false_iff_not,Y5,ho.len];exact⟨λz j hj e=>z ⟨j,hj,e⟩,λz ⟨j,hj,e⟩=>z j hj e⟩
  rw[this,decide_eq_true_eq,and_assoc]
 obtain⟨a,a1,a2,a3⟩:=Y3 (l:=((η m).filter λo=>decide (c (m+o)=c p)).filter λo=>!decide (o∈os)) (λe=>by
  have:=(Dp o).mpr ⟨o1,o2,o3⟩;rw[e]at this;simp at this) cc
 have am:=(Dp a).mp a1;refine⟨a,O (.lst (nD ((η m).filter λo=>decide (c (m+o)=c p)))),ho.more am.1 am.2.1 am.2.2 λx h1 h2 h3=>a2 x ((Dp x).mpr ⟨h1,h2,h3⟩),?_⟩
 unfold yX;refine bP s1 ?_;have hl:(((η m).filter λo=>decide (c (m+o)=c p)).map λv:Nat=>D.int (v:Int)).length<Ω:=by
  have:=SM (λo=>decide (c (m+o)=c p)) (η m)
  simp at this ⊢;omega
 have e3:nD (os++[a])=nD os++[.int (a:Int)]:=by simp[nD]
 rw[e3];refine wL (ad8 rfl (ck (fN (nN rfl) hl h2) a3) hk (by have:=ho.len;simp[nD];omega) rfl)
theorem adW{c:Nat->Nat}(hn:n=2*m)(hm:m<30)(hs:qK m c)(cc:aa):∃os,jO m c m os/\vp [aM n c] cc=.ok (.tup (nD os)) cc:=by
 have s1:aI 1 (av fL (aJ aR ⇑0) (dC (.int 2))) (bW 5 [aM n c]) cc=.ok (.nx [O (aM n c),O ↥m,U,U,U]) cc :=
  cJ (zM (ck (x:=aM n c) rfl (by rw[P9,hn])))
 have s2:aI 2 (gu aq) [O (aM n c),O ↥m,U,U,U] cc=.ok (.nx [O (aM n c),O ↥m,O (.ref cc.length),U,U]) (cc++[.lst []]):=rfl;have hrl:(aV 0 (m:Int)).length=m:=by rw[jt];omega
 obtain⟨e',c3,⟨os,v,w,rfl,rfl,ho⟩,hf⟩:=tN (g:=aC 3) (s:=yX) (λk e c'=>∃os v w,e=[O (aM n c),O ↥m,O (.ref cc.length),v,w]/\c'=cc++[.lst (nD os)]/\jO m c k os)
  (aV 0 (m:Int)) 0 [O (aM n c),O ↥m,O (.ref cc.length),U,U] (cc++[.lst []]) ⟨[],U,U,rfl,rfl,⟨rfl,λi h=>∅,λi j h1 h2=>∅,λi h=>∅,λi o h=>∅⟩⟩ (λi x hx e c' ⟨os,v,w,he,hc,ho⟩=>by
   subst he;subst hc;obtain⟨hi,hx⟩:=nO hx;subst hx;have hi:i<m:=∅
   rw[R6]at ho ⊢;obtain⟨a,w',h1,h2⟩:=alX (w:=w) (cc:=cc++[.lst (nD os)]) (k:=cc.length) hn hm hi hs ho (by simp)
   have e0:((0:Int)+(i:Int))=(i:Int):=∅
   rw[e0];exact⟨_,_,_,_,rfl,h2,os++[a],O ↥i,w',rfl,by simp,h1⟩)
 rw[hrl,R6]at ho;refine⟨os,ho,?_⟩;have hb:Bd=aD (aI 1 (av fL (aJ aR ⇑0) (dC (.int 2)))) (aD (aI 2 (gu aq)) (aD (bT (bK ⇑1) (aC 3) yX) (aP (aJ eT ⇑2)))):=rfl;have hr:bK ⇑1 [O (aM n c),O ↥m,O (.ref cc.length),U,U] (cc++[.lst []])=.ok ⟨aV 0 (m:Int),λ_=>True⟩ (cc++[.lst []]):=mJ rfl ∅
 have s4:aP (aJ eT ⇑2) [O (aM n c),O ↥m,O (.ref cc.length),v,w] (cc++[.lst (nD os)])=.ok (.rt (.tup (nD os))) (cc++[.lst (nD os)]):=by
  refine dU (ck rfl ?_);unfold eT fV;simp
 refine ace (d:=[.lst (nD os)]) ?_ (j7 os);rw[hb];exact bP s1 (bP s2 (bP (m9 hr hf) s4))
theorem aiX(h:η m=l1++b::l2):b<m/\∀a,a<b->a∈l1:=by
 have hb:b<m:=dD.mp (by rw[h];simp)
 refine⟨hb,λa ha=>?_⟩
 have a1:l1.length=b:=by
  have h6:(η m)[l1.length]? = O b:=by rw[h];simp
  rw[U7 (by have:=congrArg List.length h;simp at this;omega)]at h6
  simpa using h6
 have h7:(η m)[a]? = O a:=U7 ∅
 rw[h,RY ∅]at h7
 exact R7 h7
theorem OV{α β:Type}{env:Option D->β->Ev}(vW:∀v w x,(env v w).set i (O x)=env (O x) w)(g:α->D)(N:α->Prop)(H:α->D->Prop):∀(l:List α) (v:Option D) (w:β),
  (∀b∈l,∀w,(∃w',s (env (O (g b)) w) cc=.ok (.nx (env (O (g b)) w')) cc/\N b)\/(∃x,s (env (O (g b)) w) cc=.ok (.rt x) cc/\H b x)) ->
  ((∀b∈l,N b)/\∃v' w',bU (λ_=>True) (aC i) s (l.map g) (env v w) cc=.ok (.nx (env v' w')) cc)\/(∃l1 b l2 x,l=l1++b::l2/\(∀a∈l1,N a)/\H b x/\bU (λ_=>True) (aC i) s (l.map g) (env v w) cc=.ok (.rt x) cc)
 |[],v,w,_=>.inl ⟨λb hb=>by simp at hb,v,w,by simp⟩
 |b::l,v,w,h=>by
  have e:aC i (g b) (env v w) cc=.ok (env (O (g b)) w) cc:=by rw[Ig,vW]
  rw[Q8,kr,e,R.aN]
  rcases h b (by simp) w with⟨w',h1,h2⟩|⟨x,h1,h2⟩
  ·rw[h1,R.aN]
   rcases OV vW g N H l (O _) w' λa ha=>h a (by simp[ha])with⟨h3,v',w'',h4⟩|⟨l1,a,l2,x,h3,h4,h5,h6⟩
   ·exact .inl ⟨λa ha=>by
     rcases Bt.mp ha with rfl|ha
     ·exact h2
     ·exact h3 a ha,v',w'',h4⟩
   ·refine .inr ⟨b::l1,a,l2,x,by rw[h3];rfl,λy hy=>?_,h5,h6⟩
    rcases Bt.mp hy with rfl|hy
    ·exact h2
    ·exact h4 y hy
  ·rw[h1,R.aN];exact .inr ⟨[],b,l,x,rfl,λy hy=>by simp at hy,h2,rfl⟩
def jE(W C F ζ:D)(v w:Option D):Ev:=[O W,O C,O F,O ζ,v,w]
def wk(M:List D->aa->R D):ah:=(bx (aG (av cE (av aH (ak 2) (ak 4)) (av aH (ak 2) (ak 3)))) (aD (aI 5 (aB 2 M (ao (ak 0) (ao (aB 3 kO (ao (ak 2) (3⊂4))) aq)))) (bx (aG (av iX (ak 5) (dC .aF))) (aP (ak 5)) bJ)) bJ)
theorem Fq(M:List D->aa->R D):nu M=aD (aI 2 (aB 2 mV (0⊂1))) (aD (bx (eF (aG (aB 1 lM ⇑2))) (aP (dC .aF)) bJ) (aD (aI 3 (aB 2 kP (0⊂2))) (aD (bx (aG (av g7 (ak 3) (dC .aF))) (aP (aB 1 vp ⇑2)) bJ) (aD (bT (fM (ao (av fL (aJ aR ⇑0) (dC (.int 2))) (ao (aJ aR ⇑0) aq))) (aC 4) (wk M)) (aP (dC .aF)))))):=rfl
theorem vN(h:t e c=.ok J c')(h2:s e c'=r):bx t s u e c=r:=by
 rw[xU,h];simp only[R.aN];rw[if_pos trivial];exact h2
theorem gj(h:t e c=.ok ξ c')(h2:u e c'=r):bx t s u e c=r:=by
 rw[xU,h];simp only[R.aN];rw[if_neg ⋯];exact h2
theorem acn{M:List D->aa->R D}{W:D}{one:Nat}{c:Nat->Nat}(hF:Fc=aM n c)(h1:one<n)(ho:o<n)(hne:c o≠c one)(w:Option D)(cc:aa):wk M (jE W C Fc ↥one (O ↥o) w) cc=.ok (.nx (jE W C Fc ↥one (O ↥o) w)) cc:=by
 have ht:aG (av cE (av aH (ak 2) (ak 4)) (av aH (ak 2) (ak 3))) (jE W C Fc _ (O _) w) cc=.ok _ cc :=
  cO (aZ (aZ (x:=Fc) rfl rfl (by rw[hF];exact lZ c ho cc)) (aZ (x:=Fc) rfl rfl (by rw[hF];exact lZ c h1 cc)) (AK _ _ cc))
 rw[decide_eq_false hne]at ht;exact gj ht rfl
theorem Ph{M:List D->aa->R D}{W:D}{one:Nat}{c:Nat->Nat}(hF:Fc=aM n c)(h1:one<n)(ho:o<n)(he:c o=c one)(w:Option D)(cc:aa)(ha:kO [Fc,.int (one:Int),.int (o:Int)] cc=.ok A cc)(hM:M [W,A] cc=.ok x cc):wk M (jE W C Fc ↥one (O ↥o) w) cc=.ok (if fJ x=J then .nx (jE W C Fc ↥one (O ↥o) (O x))else .rt x) cc:=by
 have ht:aG (av cE (av aH (ak 2) (ak 4)) (av aH (ak 2) (ak 3))) (jE W C Fc ↥one (O ↥o) w) cc=.ok _ cc :=
  cO (aZ (aZ (x:=Fc) (y:=.int (o:Int)) rfl rfl (by rw[hF];exact lZ c ho cc)) (aZ (x:=Fc) rfl rfl (by rw[hF];exact lZ c h1 cc)) (AK _ _ cc))
 rw[decide_eq_true he]at ht;have s1:aI 5 (aB 2 M (ao (ak 0) (ao (aB 3 kO (ao (ak 2) (3⊂4))) aq))) (jE W C Fc ↥one (O ↥o) w) cc=.ok _ cc :=
  cJ (dR (x:=W) (y:=A) rfl (jK (x:=Fc) (z:=.int (o:Int)) rfl rfl rfl ha) hM)
 have s2:aG (av iX (ak 5) (dC .aF)) (jE W C Fc ↥one (O ↥o) (O x)) cc=.ok (!fJ x) cc:=cO (aZ (x:=x) rfl rfl rfl);refine vN ht (bP s1 ?_);cases hx:fJ x with
 |true =>
  rw[hx]at s2;exact gj s2 rfl
 |false =>
  rw[hx]at s2;exact vN s2 (dU rfl)
section
variable {n m:Nat}{W:D}{f f' F:Nat->Nat->Bool}
theorem aco{M:List D->aa->R D}{c':Nat->Nat}(hn:n=2*m)(hm:m<18)(h1:mV [W,C] cc=.ok (aM n c') cc)(hs:jY m c'=ξ):bA 6 ξ (nu M) [W,C] cc=.ok .aF cc:=by
 have s2:eF (aG (aB 1 lM ⇑2)) [O W,O C,O (aM n c'),U,U,U] cc=.ok (!false) cc:=mS (cO (fQ (x:=aM n c') rfl (by rw[<-hs];exact yr hn c' ∅ cc)))
 refine dW ?_ rfl (by simp)
 rw[Fq];exact bP (cJ (dR (x:=W) (y:=C) rfl rfl h1)) (yu (vN s2 (dU rfl)))
theorem acp{M:List D->aa->R D}{c':Nat->Nat}{os:List Nat}(hn:n=2*m)(hm:m<18)(h1:mV [W,C] cc=.ok (aM n c') cc)(hs:jY m c'=J)(h2:kP [W,aM n c'] cc=.ok .aF cc)(h3:vp [aM n c'] cc=.ok (.tup (nD os)) cc):bA 6 ξ (nu M) [W,C] cc=.ok (.tup (nD os)) cc:=by
 have s1:aI 2 (aB 2 mV (0⊂1)) (bW 6 [W,C]) cc=.ok (.nx [O W,O C,O (aM n c'),U,U,U]) cc:=cJ (dR (x:=W) (y:=C) rfl rfl h1);have s2:eF (aG (aB 1 lM ⇑2)) [O W,O C,O (aM n c'),U,U,U] cc=.ok (!true) cc:=mS (cO (fQ (x:=aM n c') rfl (by rw[<-hs];exact yr hn c' ∅ cc)))
 have s3:aI 3 (aB 2 kP (0⊂2)) [O W,O C,O (aM n c'),U,U,U] cc=.ok (.nx [O W,O C,O (aM n c'),O .aF,U,U]) cc:=cJ (dR (x:=W) (y:=aM n c') rfl rfl h2);have s4:aG (av g7 (ak 3) (dC .aF)) [O W,O C,O (aM n c'),O .aF,U,U] cc=.ok J cc:=cO (aZ (x:=.aF) rfl rfl rfl);refine dW ?_ (by unfold noRef;exact j7 os) (by simp)
 rw[Fq];exact bP s1 (bP (gj s2 rfl) (bP s3 (yu (vN s4 (dU (fQ (x:=aM n c') rfl h3))))))
theorem Pg{M:List D->aa->R D}{c':Nat->Nat}{one:Nat}(F:Nat->Nat->Bool)(hW:W=aA (wF n F))(hn:n=2*m)(hm:m<18)(h1:mV [W,C] cc=.ok (aM n c') cc)(hs:jY m c'=J)(h2:kP [W,aM n c'] cc=.ok ↥one cc)(h3:bU (λ_=>True) (aC 4) (wk M) ((η m).map λb:Nat=>D.int ((m+b:Nat):Int)) (jE W C (aM n c') ↥one U U) cc=r)(hr:r=.ok (.rt x) cc\/(x=.aF/\∃e,r=.ok (.nx e) cc))(nr:noRef x=J)(nf:∀k,x≠.ref k):bA 6 ξ (nu M) [W,C] cc=.ok x cc:=by
 have s1:aI 2 (aB 2 mV (0⊂1)) (bW 6 [W,C]) cc=.ok (.nx [O W,O C,O (aM n c'),U,U,U]) cc:=cJ (dR (x:=W) (y:=C) rfl rfl h1);have s2:eF (aG (aB 1 lM ⇑2)) [O W,O C,O (aM n c'),U,U,U] cc=.ok (!true) cc:=mS (cO (fQ (x:=aM n c') rfl (by rw[<-hs];exact yr hn c' ∅ cc)))
 have s3:aI 3 (aB 2 kP (0⊂2)) [O W,O C,O (aM n c'),U,U,U] cc=.ok (.nx (jE W C (aM n c') ↥one U U)) cc:=cJ (dR (x:=W) (y:=aM n c') rfl rfl h2);have s4:aG (av g7 (ak 3) (dC .aF)) (jE W C (aM n c') ↥one U U) cc=.ok ξ cc:=cO (aZ (x:=.int (one:Int)) rfl rfl rfl);have hl:∀e:Ev,e[0]? = O (O W)->aJ aR ⇑0 e cc=.ok (.int ((2*m:Nat):Int)) cc:=λe he=>ck (x:=W) (by rw[dj,he]) (by rw[hW,iV,fT,hn])
 have er:aV (m:Int) ((2*m:Nat):Int)=(η m).map λb:Nat=>D.int ((m+b:Nat):Int):=by
  unfold aV;rw[show(((2*m:Nat):Int)-(m:Int)).toNat=m by omega]
  exact RV λb _=>by congr 1
 have s5:fM (ao (av fL (aJ aR ⇑0) (dC (.int 2))) (ao (aJ aR ⇑0) aq)) (jE W C (aM n c') ↥one U U) cc=.ok ⟨(η m).map λb:Nat=>D.int ((m+b:Nat):Int),λ_=>True⟩ cc:=by
  rw[<-er];exact aiW (zM (hl _ rfl)) (hl _ rfl) ∅ ∅
 refine dW ?_ nr nf;rw[Fq];refine bP s1 (bP (gj s2 rfl) (bP s3 (bP (gj s4 rfl) ?_)))
 rcases hr with e|⟨e1,e,e2⟩
 ·exact yu (m9 s5 (h3.trans e))
 ·rw[e1];exact bP (m9 s5 (h3.trans e2)) (dU rfl)
theorem Pa(hW:W=aA (wF n F))(hn:n=2*m)(hF:F=F2 m f f')(h0:0<m)(hm:m<18)(hw:bO f)(gQ:bO f')(cc:aa):∀(k:Nat) (c:Nat->Nat),m+1<=k+eB m c ->
  (gA k [W,aM n c] cc=.ok .aF cc/\∀os,¬gW m f f' c os)\/(∃os,gA k [W,aM n c] cc=.ok (.tup (nD os)) cc/\iL m (gW m f f' c) os):=by
 intro k
 induction k with
 |zero=>intro c h;have:=Mq m c;omega
 |succ k ih =>
  intro c h;show(bA 6 ξ (nu (gA k)) [W,aM n c] cc=.ok .aF cc/\_)\/(∃os,bA 6 ξ (nu (gA k)) [W,aM n c] cc=.ok (.tup (nD os)) cc/\_);obtain⟨c',ref,eqt,tu⟩:=aci hW hn hF hm c cc;have zI:∀os,gW m f f' c' os↔gW m f f' c os:=λos=>⟨λx=>⟨x.1,(ref.pZ os x.1).mpr x.2⟩,λx=>⟨x.1,(ref.pZ os x.1).mp x.2⟩⟩
  cases hs:jY m c' with
  |false =>
   refine .inl ⟨aco hn hm tu hs,λos ho=>?_⟩
   have:=CN.mpr (fE.shr ho.1.pm ((zI os).mpr ho).2);rw[hs]at this;cases this
  |true =>
   have hsh:=CN.mp hs;have hq:xN (2*m) (F2 m f f') c':=by rw[<-hn,<-hF];exact eqt hsh
   rcases abk hW hn hF ∅ hw c' rfl cc with⟨ho,ht⟩|⟨one,h1,ho,hcl,hop⟩
   ·obtain⟨os,hob,hby⟩:=adW hn ∅ hsh cc
    exact .inr ⟨os,acp hn hm tu hs ho hby,(hob.first hw gQ hq ht).congr zI⟩
   ·have ahV:=OV (i:=4) (s:=wk (gA k)) (cc:=cc) (env:=jE W (aM n c) (aM n c') ↥one) (λv w x=>rfl) (λb:Nat=>D.int ((m+b:Nat):Int)) (λb=>∀ts,gW m f f' c' ts->aE ts one≠b) (λb x=>∃os,x=.tup (nD os)/\iL m (λts=>gW m f f' c' ts/\aE ts one=b) os) (η m) U U (λb hb w=>by
     have hb:=dD.mp hb
     by_cases he:c' (m+b)=c' one
     ·obtain⟨z,hz,ha⟩:=ad9 (one:=one) (other:=m+b) c' (show 0<n by omega) ∅ cc
      have hz':∀i,i<2*m->c' i≠z:=λi hi=>hz i ∅
      have hap:∀ts,gW m f f' (cV c' z one (m+b)) ts↔gW m f f' c' ts/\aE ts one=b:=λts=>⟨λx=>by
        have:=(Gu hz' h1 hb x.1.pm he).mp x.2;exact⟨⟨x.1,this.1⟩,this.2⟩,λx=>⟨x.1.1,(Gu hz' h1 hb x.1.1.pm he).mpr ⟨x.1.2,x.2⟩⟩⟩
      obtain⟨q,q1,q2,q3⟩:=hop;have hqn:q≠one:=λe=>q3 (by subst e;exact λx _ _ _=>rfl)
      have n1:=YD (z:=z) (other:=m+b) (λi hi=>hz i ∅) h1 ∅ q1 hqn q2
      have n2:eB m c<=eB m c':=YC λu v hu hv e=>ref.fin u v ∅ ∅ e
      rcases ih (cV c' z one (m+b)) ∅with⟨r1,r2⟩|⟨os,r1,r2⟩
      ·refine .inl ⟨O .aF,?_,λts ht e=>r2 ts ((hap ts).mpr ⟨ht,e⟩)⟩
       exact Ph rfl ∅ ∅ he w cc ha r1
      ·refine .inr ⟨.tup (nD os),?_,os,rfl,r2.congr hap⟩;exact Ph rfl ∅ ∅ he w cc ha r1
     ·exact .inl ⟨w,acn rfl ∅ ∅ he w cc,λts ht e=>he (by rw[<-e];exact(ht.2 one h1).symm)⟩)
    rcases ahV with⟨hno,v',w',hf⟩|⟨l1,b,l2,x,hl,hno,⟨os,rfl,hmin⟩,hf⟩
    ·refine .inl ⟨Pg F hW hn hm tu hs ho hf (.inr ⟨rfl,_,rfl⟩) rfl (by simp),λos ho=>?_⟩
     have ho:=(zI os).mpr ho;exact hno _ (dD.mpr (eH ho.1.pm h1)) os ho rfl
    ·obtain⟨hb,qw⟩:=aiX hl;refine .inr ⟨os,Pg F hW hn hm tu hs ho hf (.inl rfl) (by unfold noRef;exact j7 os) (by simp),iL.congr zI ?_⟩
     exact aix hw gQ h1 hb hcl hop (λts ht hlt=>hno _ (qw _ hlt) ts ht rfl) hmin
end
theorem Pj(w:List (List Nat))(hl:w.length=m)(hm:m<=12)(cc:aa):jx [aA w,.int 12,.int 28] cc=.ok .aF cc:=by
 have hlen:∀e:Ev,e[0]? = O (O (aA w))->aJ aR ⇑0 e cc=.ok ↥m cc:=λe he=>ck (x:=aA w) (by rw[dj,he]) (by rw[iV,hl])
 have t1:aG (av gm (aJ aR ⇑0) (ak 2)) [O (aA w),O (.int 12),O (.int 28)] cc=.ok (decide ((m:Int)>28)) cc:=cO (aZ (hlen _ rfl) rfl rfl);have t2:aG (av gm (aJ aR ⇑0) (ak 1)) [O (aA w),O (.int 12),O (.int 28)] cc=.ok (decide ((m:Int)>12)) cc:=cO (aZ (hlen _ rfl) rfl rfl);rw[decide_eq_false ∅]at t1 t2
 have t3:i6 (aG (av gm (aJ aR ⇑0) (ak 1))) (eF (aG AU)) [O (aA w),O (.int 12),O (.int 28)] cc=.ok ξ cc:=by
  rw[ug,t2];simp only[R.aN];rw[if_neg ⋯]
 have hb:wZ [O (aA w),O (.int 12),O _] cc=.ok (.nx [O (aA w),O _,O _]) cc:=gj (qb t1 t3) rfl;rw[jx,iN];have es:bW 3 [aA w,.int 12,.int 28]=[O (aA w),O _,O _]:=rfl;rw[es,hb];simp[cD,noRef]
theorem aaT:Bc=aD (d9 (aB 3 jx (ao (ak 0) (ao (dC (.int 12)) (ao (dC (.int 28)) aq))))) (aD (d9 (aB 3 jx (ao (ak 1) (ao (dC (.int 12)) (ao (dC (.int 28)) aq))))) (aD (bx (aG (av cz (aJ aR ⇑0) (aJ aR ⇑1))) (aP (dC .aF)) bJ) (aP (aB 2 (gA 14) (ao (aB 2 qh (0⊂1)) (ao (av mK (eW (ao (dC (.int 0)) aq)) (av dZ (dC (.int 2)) (aJ aR ⇑0))) aq)))))):=rfl
theorem KS(n:Nat):(ο n [D.int 0]).flatten=nD ((η n).map λ_=>0):=by
 refine Rx (by simp) λi h1 h2=>?_
 simp[nD,List.flatten_replicate_singleton]
theorem uz{f f':Nat->Nat->Bool}(h0:0<m)(hm:m<=12)(hw:bO f)(gQ:bO f')(cc:aa):
  (iE [aA (wF m f),aA (wF m f')] cc=.ok .aF cc/\∀os,¬bY m f f' os)\/(∃os,iE [aA (wF m f),aA (wF m f')] cc=.ok (.tup (nD os)) cc/\iL m (bY m f f') os):=by
 have key:∀x,gA 14 [aA (wF (2*m) (F2 m f f')),aM (2*m) λ_=>0] cc=.ok x cc->noRef x=J->(∀k,x≠.ref k)->iE [aA (wF m f),aA (wF m f')] cc=.ok x cc:=λx hx nr nf=>by
  have ew:=λg=>fT m g
  have h1:=Pj (wF m f) (ew f) hm cc;have h2:=Pj (wF m f') (ew f') hm cc;have h3:=Jx f f' (show m<60 by omega) cc
  have h4:aR [aA (wF m f)] cc=.ok ↥m cc:=by rw[iV,fT]
  have h5:aR [aA (wF m f')] cc=.ok ↥m cc:=by rw[iV,fT]
  generalize aA (wF m f)=A at h1 h3 h4 ⊢
  generalize aA (wF m f')=B at h2 h3 h5 ⊢
  have hs:=cZ (n:=1000) ⋯
  have s2:d9 (aB 3 jx (ao (ak 1) (ao (dC (.int 12)) (ao (dC (.int 28)) aq)))) [O A,O B] cc=.ok (.nx [O A,O B]) cc:=wL (jK (x:=B) rfl rfl rfl h2);have s3:bx (aG (av cz (aJ aR ⇑0) (aJ aR ⇑1))) (aP (dC .aF)) bJ [O A,O B] cc=.ok (.nx [O A,O B]) cc:=by
   rw[NS (ck (x:=A) rfl h4) (ck (x:=B) rfl h5),if_neg ∅]
   rfl
  have s4:av mK (eW (ao (dC (.int 0)) aq)) (av dZ (dC (.int 2)) (aJ aR ⇑0)) [O A,O B] cc=.ok (aM (2*m) λ_=>0) cc:=by
   have l1:eW (ao (dC (.int 0)) aq) [O A,O B] cc=.ok (.lst [.int 0]) cc:=by
    rw[xT];simp only[cY,jU,cU,R.aN];rw[if_pos (by show 1<=Ω;omega)]
   have l2:av dZ (dC (.int 2)) (aJ aR ⇑0) [O A,O B] cc=.ok (.int ((2*m:Nat):Int)) cc:=by
    refine aZ rfl (ck (x:=A) rfl h4) ?_;rfl
   refine aZ l1 l2 ?_;rw[Ic,if_pos (by simp;omega),Ss,KS]
   rfl
  refine dW ?_ nr nf;rw[aaT];exact bP (wL (jK (x:=A) rfl rfl rfl h1)) (bP s2 (bP s3 (dU (dR (dR (x:=A) (y:=B) rfl rfl h3) s4 hx))))
 have pZ:∀os,gW m f f' (λ_=>0) os↔bY m f f' os:=λos=>⟨λx=>x.1,λx=>⟨x,λ_ _=>rfl⟩⟩
 rcases Pa rfl rfl rfl h0 ∅ hw gQ cc 14 (λ_=>0) ∅with⟨h1,h2⟩|⟨os,h1,h2⟩
 ·exact .inl ⟨key _ h1 rfl (by simp),λos ho=>h2 os ((pZ os).mpr ho)⟩
 ·exact .inr ⟨os,key _ h1 (by unfold noRef;exact j7 os) (by simp),h2.congr pZ⟩
def eG(t s:List Nat):List Nat:=s.map (aE t)
def gP(m:Nat)(t:List Nat):List Nat:=(η m).map λx=>t.idxOf x
section
variable {m:Nat}{f g h:Nat->Nat->Bool}{s t:List Nat}
theorem l6(hi:i<s.length):aE (eG t s) i=aE t (aE s i):=by
 simp[aE,eG,Iv,hi]
theorem zP(hi:i<m):aE (η m) i=i:=by simp[aE,Iv,hi]
theorem adu(hs:s.Perm (η m))(ht:t.Perm (η m)):(eG t s).Perm (η m):=by
 have h1:=hs.map (aE t);rw[C6 ht]at h1;exact h1.trans ht
theorem oF(hs:bY m f g s)(ht:bY m g h t):bY m f h (eG t s):=⟨adu hs.pm ht.pm,λi j hi hj=>by
 have hl:=eU hs.pm;rw[l6 ∅,l6 ∅,hs.eq i j hi hj,ht.eq _ _ (eH hs.pm hi) (eH hs.pm hj)]⟩
theorem Ep(ht:t.Perm (η m))(hx:x<m):aE (gP m t) x=t.idxOf x:=by
 simp[aE,gP,Iv,hx]
theorem NK(ht:t.Perm (η m))(hx:x<m):t.idxOf x<m:=by
 have h1:=Tj.mpr (ht.mem_iff.mpr (dD.mpr hx))
 rwa[eU ht]at h1
theorem sV(ht:t.Perm (η m))(hx:x<m):aE t (aE (gP m t) x)=x:=by
 rw[Ep ht hx]
 simpa[aE,Iv,(Tj.mpr (ht.mem_iff.mpr (dD.mpr hx)))]using this
theorem Eo(ht:t.Perm (η m))(hi:i<m):aE (gP m t) (aE t i)=i:=by
 have h1:=eH ht hi;have h2:=sV ht h1;rw[Ep ht h1]at h2 ⊢;exact ju ht (NK ht h1) hi h2
theorem Em(ht:t.Perm (η m)):(gP m t).Perm (η m):=by
 have hl:(gP m t).length=m:=by simp[gP]
 have gg:∀i _,(gP m t)[i]=aE (gP m t) i:=λi hi=>by simp[aE,Iv,hi]
 refine De ?_ hl λx hx=>?_
 ·rw[T3,Sd];intro i j hi hj hij e;rw[gg i hi,gg j hj]at e;have:=congrArg (aE t) e;rw[sV ht ∅,sV ht ∅]at this
  omega
 ·obtain⟨i,hi,rfl⟩:=S9 hx;rw[gg i hi,Ep ht ∅]
  exact NK ht ∅
theorem qp(ht:bY m f g t):bY m g f (gP m t):=⟨Em ht.pm,λi j hi hj=>by
 have h1:=ht.eq _ _ (eH (Em ht.pm) hi) (eH (Em ht.pm) hj);rw[sV ht.pm hi,sV ht.pm hj]at h1;exact h1.symm⟩
theorem aag(m:Nat)(f:Nat->Nat->Bool):bY m f f (η m):=⟨.refl _,λi j hi hj=>by rw[zP hi,zP hj]⟩
theorem adv(ht:t.Perm (η m))(hs:s.Perm (η m)):eG t (eG (gP m t) s)=s:=by
 have hl:=eU hs;refine zA (by simp[eG]) λi hi=>?_
 have hi:i<m:=by simpa[eG,hl]using hi
 rw[l6 (by simp[eG];omega),l6 ∅,sV ht (eH hs hi)]
theorem Qf{a b:List Nat}(ht:t.Perm (η m))(ha:a.Perm (η m))(hb:b.Perm (η m))(e:eG t a=eG t b):a=b:=by
 have h1:=eU ha;have h2:=eU hb;refine zA ∅ λi hi=>?_
 have:aE (eG t a) i=aE (eG t b) i:=congrArg (λl=>aE l i) e
 rw[l6 ∅,l6 ∅]at this
 exact ju ht (eH ha ∅) (eH hb ∅) this
end
def iM(P:List Nat->Prop)(Θ:List (List Nat)):Prop:=Θ.Nodup/\∀os,os∈Θ↔P os
theorem FH{P Q:List Nat->Prop}(hL:iM P Θ)(hK:iM Q K)(φ:List Nat->List Nat)(h:∀s,P s->Q (φ s))(inj:∀s t,P s->P t->φ s=φ t->s=t):Θ.length<=K.length:=by
 have nd:(Θ.map φ).Nodup:=by
  rw[T3,Sa];have:=T3.mp hL.1;refine Uv ?_ this;intro a b ha hb hne e;exact hne (inj a b ((hL.2 a).mp ha) ((hL.2 b).mp hb) e)
 have:=DM (Θ.map φ) K nd λx hx=>by
  obtain⟨s,hs,rfl⟩:=AP.mp hx;exact(hK.2 _).mpr (h s ((hL.2 s).mp hs))
 simpa using this
theorem acN{P:List Nat->Prop}(hL:iM P Θ)(hK:iM P K):Θ.length=K.length :=
 Vm (FH hL hK id (λ_ h=>h) λ_ _ _ _ e=>e) (FH hK hL id (λ_ h=>h) λ_ _ _ _ e=>e)
theorem acM{f g:Nat->Nat->Bool}(ht:bY m f g t)(hL:iM (bY m f f) Θ)(hK:iM (bY m g g) K):Θ.length=K.length:=by
 have one:∀{f g:Nat->Nat->Bool}{t:List Nat}{Θ K:List (List Nat)},bY m f g t->iM (bY m f f) Θ->iM (bY m g g) K->Θ.length<=K.length:=fun{f g t Θ K} ht hL hK =>
  FH hL hK (λs=>eG (eG t s) (gP m t)) (λs hs=>oF (qp ht) (oF hs ht)) λa b ha hb e=>by
   have pa:=(oF ha ht).pm;have pb:=(oF hb ht).pm;have e2:eG t a=eG t b:=by
    refine zA (by rw[eU pa,eU pb]) λi hi=>?_
    have hi:i<m:=by rw[eU pa]at hi;exact hi
    have:aE (eG (eG t a) (gP m t)) (aE t i)=aE (eG (eG t b) (gP m t)) (aE t i):=congrArg (λl=>aE l (aE t i)) e
    have hti:=eH ht.pm hi;have hil:(gP m t).length=m:=by simp[gP]
    have q:∀s,aE (eG s (gP m t)) (aE t i)=aE s i:=λs=>by rw[l6 ∅,Eo ht.pm hi]
    rw[q,q]at this;exact this
   exact Qf ht.pm ha.pm hb.pm e2
 exact Vm (one ht hL hK) (one (qp ht) hK hL)
def Fx(m:Nat)(f:Nat->Nat->Bool)(k:Nat)(os:List Nat):Prop:=bY m f f os/\∀i,i<k->aE os i=i
theorem abT{f:Nat->Nat->Bool}:iM (Fx m f m) [η m]:=⟨by simp,λos=>by
 simp only[RE]
 constructor
 ·rintro rfl
  exact⟨aag m f,λi hi=>zP hi⟩
 ·intro h;have hl:=eU h.1.pm;exact zA (by simp[hl]) λi hi=>by rw[h.2 i ∅,zP ∅]⟩
theorem OP{f:Nat->Nat->Bool}(hk:k<m)(hL:iM (Fx m f (k+1)) Θ):∀(B:List Nat),B.Nodup->(∀b∈B,∃t,Fx m f k t/\aE t k=b) ->
  ∃K,iM (λos=>Fx m f k os/\aE os k∈B) K/\K.length=B.length*Θ.length
 |[],_,_=>⟨[],⟨by simp,λos=>by simp⟩,by simp⟩
 |b::B,hn,ht=>by
  have hn:=S0.mp hn;obtain⟨K,hK,hl⟩:=OP hk hL B hn.2 λx hx=>ht x (by simp[hx])
  obtain⟨t,t1,t2⟩:=ht b (by simp)
  have key:∀os,os∈Θ.map (eG t)↔Fx m f k os/\aE os k=b:=λos=>by
   constructor
   ·intro h;obtain⟨s,hs,rfl⟩:=AP.mp h;have hs:=(hL.2 s).mp hs;have hsl:=eU hs.1.pm;refine⟨⟨oF hs.1 t1.1,λi hi=>?_⟩,?_⟩
    ·rw[l6 ∅,hs.2 i ∅,t1.2 i hi]
    ·rw[l6 ∅,hs.2 k ∅,t2]
   ·rintro ⟨h1,h2⟩
    refine AP.mpr ⟨eG (gP m t) os,(hL.2 _).mpr ⟨oF h1.1 (qp t1.1),λi hi=>?_⟩,adv t1.1.pm h1.1.pm⟩
    have ia:=eU h1.1.pm;rw[l6 ∅]
    by_cases e:i=k
    ·rw[e,h2,<-t2,Eo t1.1.pm hk]
    ·have hi':i<k:=∅
     have:=Eo t1.1.pm (show i<m by omega)
     rw[t1.2 i hi']at this;rw[h1.2 i hi',this]
  have nd:(Θ.map (eG t)).Nodup:=by
   rw[T3,Sa];refine Uv ?_ (T3.mp hL.1);intro a c ha hc hne e;exact hne (Qf t1.1.pm ((hL.2 a).mp ha).1.pm ((hL.2 c).mp hc).1.pm e)
  refine⟨Θ.map _++K,⟨Tt.mpr ⟨nd,hK.1,λx hx y hy e=>?_⟩,λos=>?_⟩,?_⟩
  ·subst e;have h1:=(key x).mp hx;have h2:=((hK.2 x).mp hy).2;rw[h1.2]at h2;exact hn.1 h2
  ·rw[RI,key,hK.2];show(Fx m f k os/\aE os k=b)\/(Fx m f k os/\aE os k∈B)↔Fx m f k os/\aE os k∈b::B;rw[Bt]
   constructor
   ·rintro (⟨h1,h2⟩|⟨h1,h2⟩)
    ·exact⟨h1,.inl h2⟩
    ·exact⟨h1,.inr h2⟩
   ·rintro ⟨h1,h2|h2⟩
    ·exact .inl ⟨h1,h2⟩
    ·exact .inr ⟨h1,h2⟩
  ·rw[Rq,hl,P0,RG,WQ];omega
structure Kp (m:Nat) (f:Nat->Nat->Bool) (k:Nat) (c:Nat->Nat):Prop where
 two:∀i,i<m->c (m+i)=c i
 ir:∀os,gW m f f c os↔Fx m f k os
theorem ZM(m:Nat)(f:Nat->Nat->Bool):Kp m f 0 (λ_=>0):=⟨λ_ _=>rfl,λos=>⟨λh=>⟨h.1,λi hi=>∅⟩,λh=>⟨h.1,λ_ _=>rfl⟩⟩⟩
theorem Ed{f:Nat->Nat->Bool}{c:Nat->Nat}(h:Kp m f k c)(hk:k<m)(hb:b<m)(hz:∀i,i<2*m->c i≠z)(os:List Nat):gW m f f (cV c z k (m+b)) os↔Fx m f k os/\aE os k=b:=by
 constructor
 ·intro x;have pm:=x.1.pm;have key:aE os k=b:=by
   have:=x.2 k hk;unfold cV at this;rw[if_pos (Or.inl rfl)]at this
   by_cases q:m+aE os k=m+b
   ·omega
   ·rw[if_neg ∅]at this
    have hl:=eH pm hk;exact absurd this.symm (hz _ ∅)
  have rest:∀i,i<m->i≠k->c i=c (aE os i):=λi hi hne=>by
   have:=x.2 i hi;have hl:=eH pm hi;unfold cV at this;rw[if_neg ∅,if_neg ?_]at this
   ·rw[this,h.two _ hl]
   ·rintro (q|q)
    ·omega
    ·exact hne (ju pm hi hk ∅)
  have hck:c (aE os k)=c k:=Rh λhne=>by
   have e1:=yH pm λy=>decide (c y=c k)
   have e2:=AZ (l:=η m) (p:=λi=>decide (c (aE os i)=c k)) (q:=λi=>decide (c i=c k)) (λi hi q=>by
    have hi:=dD.mp hi
    by_cases e:i=k
    ·subst e;simp at q ⊢
    ·rw[rest i hi e];exact q) ⟨k,dD.mpr hk,by simp,by simp[hne]⟩
   omega
  have r:fE m c os:=λi hi=>by
   rw[h.two _ (eH pm hi)]
   by_cases e:i=k
   ·rw[e,hck]
   ·exact rest i hi e
  exact⟨(h.ir os).mp ⟨x.1,r⟩,key⟩
 ·rintro ⟨x,e⟩
  have y:=(h.ir os).mpr x;have hc:c (m+b)=c k:=by rw[<-e];exact(y.2 k hk).symm
  exact⟨x.1,(Gu hz hk hb x.1.pm hc).mpr ⟨y.2,e⟩⟩
theorem ZN{f:Nat->Nat->Bool}{c:Nat->Nat}(h:Kp m f k c)(hk:k<m)(hz:∀i,i<2*m->c i≠z):Kp m f (k+1) (cV c z k (m+k)):=by
 refine⟨λi hi=>?_,λos=>?_⟩
 ·unfold cV
  by_cases e:i=k
  ·rw[if_pos (Or.inr ∅),if_pos (Or.inl e)]
  ·rw[if_neg ∅,if_neg ∅]
   exact h.two i hi
 ·rw[Ed h hk hk hz]
  constructor
  ·rintro ⟨x,e⟩
   refine⟨x.1,λi hi=>?_⟩
   by_cases q:i=k
   ·rw[q,e]
   ·exact x.2 i ∅
  ·intro x;exact⟨⟨x.1,λi hi=>x.2 i ∅⟩,x.2 k ∅⟩
theorem abS{f:Nat->Nat->Bool}(hk:k<m)(hL:iM (Fx m f (k+1)) Θ){B:List Nat}(hB:B.Nodup)(hm:∀b,b∈B↔∃t,Fx m f k t/\aE t k=b):∃K,iM (Fx m f k) K/\K.length=B.length*Θ.length:=by
 obtain⟨K,hK,hl⟩:=OP hk hL B hB λb hb=>(hm b).mp hb
 exact⟨K,⟨hK.1,λos=>(hK.2 os).trans ⟨λh=>h.1,λh=>⟨h,(hm _).mpr ⟨os,h,rfl⟩⟩⟩⟩,hl⟩
def kL(W M B C P:D)(v w:Option D):Ev:=[O W,O M,O B,O C,O P,v,w]
def zj:ah:=(aD (aI 6 (aU (bK ⇑1) [U,O 3,O 5,O 1] (aC 0) aY (aB 3 kO (ao (ak 1) (ao (ak 2) (ao (av bR (ak 3) (ak 0)) aq)))))) (aD (aI 4 (av dZ (ak 4) (aJ aR (ao (aU (cj (ak 6)) [U,O 2] (aC 0) (aG (av iX (aB 2 (gA 14) (1⊂0)) (dC .aF))) (ak 0)) aq)))) (aI 3 (av aH (ak 6) (ak 5)))))
theorem YW:Be=aD (d9 (aB 3 jx (ao (ak 0) (ao (dC (.int 10)) (ao (dC (.int 16)) aq))))) (aD (aI 1 (aJ aR ⇑0)) (aD (aI 2 (aB 2 qh (0⊂0))) (aD (aI 3 (av mK (eW (ao (dC (.int 0)) aq)) (av dZ (dC (.int 2)) (ak 1)))) (aD (aI 4 (dC (.int 1))) (aD (bT (bK ⇑1) (aC 5) zj) (aP (ak 4))))))):=rfl
structure Mo (m:Nat) (f:Nat->Nat->Bool) (k:Nat) (c:Nat->Nat) (P:Nat):Prop where
 kp:Kp m f k c
 pr:∀Θ,iM (Fx m f k) Θ->∃K,iM (Fx m f 0) K/\K.length=P*Θ.length
 le:P<=12^k
theorem YV{W:D}{f F:Nat->Nat->Bool}{c:Nat->Nat}(hB:B=aA (wF n F))(hn:n=2*m)(hF:F=F2 m f f)(hm:m<=12)(hw:bO f)(hk:k<m)(h:Mo m f k c P)(cc:aa):
  ∃c' P' w',Mo m f (k+1) c' P'/\zj (kL W ↥m B (aM n c) ↥P (O ↥k) w) cc=.ok (.nx (kL W ↥m B (aM n c') ↥P' (O ↥k) w')) cc:=by
 have hs:=cZ (n:=1000) ⋯
 obtain⟨z,hz,ha⟩:=QF c (show 0<n by omega) ∅ cc
 have hz':∀i,i<2*m->c i≠z:=λi hi=>hz i ∅
 have fo:∀b,b<m->∃x,gA 14 [B,aM n (cV c z k (m+b))] cc=.ok x cc/\(fJ x=ξ↔∃t,Fx m f k t/\aE t k=b):=λb hb=>by
  rcases Pa (f:=f) (f':=f) hB hn hF ∅ ∅ hw hw cc 14 (cV c z k (m+b)) ∅with⟨r1,r2⟩|⟨os,r1,r2⟩
  ·refine⟨.aF,r1,⟨λq=>by exact absurd q ⋯,?_⟩⟩
   rintro ⟨t,t1,t2⟩
   exact absurd ((Ed h.kp hk hb hz' t).mpr ⟨t1,t2⟩) (r2 t)
  ·refine⟨_,r1,⟨λ_=>?_,λ_=>rfl⟩⟩
   have:=(Ed h.kp hk hb hz' os).mp r2.1;exact⟨os,this.1,this.2⟩
 have fo2:∃g:Nat->Bool,(∀b,b<m->aG (av iX (aB 2 (gA 14) (1⊂0)) (dC .aF)) [O (aM n (cV c z k (m+b))),O B] cc=.ok (g b) cc)/\∀b,b<m->(g b=J↔∃t,Fx m f k t/\aE t k=b):=by
  refine⟨λb=>@decide (∃t,Fx m f k t/\aE t k=b) (Classical.propDecidable _),λb hb=>?_,λb hb=>by simp⟩
  obtain⟨x,h1,h2⟩:=fo b hb;have e:(!fJ x)=@decide (∃t,Fx m f k t/\aE t k=b) (Classical.propDecidable _):=by
   by_cases q:∃t,Fx m f k t/\aE t k=b
   ·rw[h2.mpr q];simp[q]
   ·cases hx:fJ x with
    |true=>simp[q]
    |false=>exact absurd (h2.mp hx) q
  show _=R.ok (@decide (∃t,Fx m f k t/\aE t k=b) (Classical.propDecidable _)) cc;rw[<-e];exact cO (aZ (x:=x) (dR (x:=B) (y:=aM n (cV c z k (m+b))) rfl rfl h1) rfl rfl)
 obtain⟨g,g1,g2⟩:=fo2;have h1:=kN (E:=[O (aM n c),O ↥k,O ↥m]) (a:=aB 3 kO (ao (ak 1) (ao (ak 2) (ao (av bR (ak 3) (ak 0)) aq)))) (c:=cc) (λv:Nat=>D.int (v:Int)) (λb:Nat=>aM n (cV c z k (m+b))) (η m) (λb hb=>jK (x:=aM n c) (y:=.int (k:Int)) (z:=.int ((m+b:Nat):Int)) rfl rfl (aZ rfl rfl (by rw[xW];congr 2)) (ha k (m+b)))
 have e1:((η m).map λv:Nat=>D.int (v:Int))=aV 0 (m:Int):=(mH m).symm
 rw[e1]at h1
 generalize hT:((η m).map λb:Nat=>aM n (cV c z k (m+b)))=T at h1
 have s1:aI 6 (aU (bK ⇑1) [U,O 3,O 5,O 1] (aC 0) aY (aB 3 kO (ao (ak 1) (ao (ak 2) (ao (av bR (ak 3) (ak 0)) aq))))) (kL W ↥m B (aM n c) ↥P (O ↥k) w) cc=.ok (.nx (kL W ↥m B (aM n c) ↥P (O ↥k) (O (.lst T)))) cc :=
  cJ (fN (mJ rfl ∅) (uJ ∅) h1)
 have h2:=jF (E:=[O B]) (t:=aG (av iX (aB 2 (gA 14) (1⊂0)) (dC .aF))) (a:=ak 0) (c:=cc) (λb:Nat=>aM n (cV c z k (m+b))) (λb:Nat=>aM n (cV c z k (m+b))) g (η m) U [] (λb hb=>g1 b (dD.mp hb)) (λ_ _ _=>rfl)
 rw[hT,RC]at h2;have hBl:((η m).filter g).length<=12:=by
  have:=SM g (η m);simp at this;omega
 have hP:P<2^64:=by
  have:12^k<=12^12:=VE ⋯ ∅
  have:=h.le;omega
 have s2:aI 4 (av dZ (ak 4) (aJ aR (ao (aU (cj (ak 6)) [U,O 2] (aC 0) (aG (av iX (aB 2 (gA 14) (1⊂0)) (dC .aF))) (ak 0)) aq))) (kL W ↥m B (aM n c) ↥P (O ↥k) (O (.lst T))) cc=.ok (.nx (kL W ↥m B (aM n c) (.int ((P*((η m).filter g).length:Nat):Int)) (O ↥k) (O (.lst T)))) cc:=by
  refine cJ (aZ (x:=.int (P:Int)) rfl (ck (fN (nN rfl) (by rw[<-hT];simp;omega) h2) (ahp (c:=cc) _)) ?_)
  rw[xS,if_pos (.inl ∅),P0,Int.natCast_mul]
 have s3:aI 3 (av aH (ak 6) (ak 5)) (kL W ↥m B (aM n c) (.int ((P*((η m).filter g).length:Nat):Int)) (O ↥k) (O (.lst T))) cc=.ok (.nx (kL W ↥m B (aM n (cV c z k (m+k))) (.int ((P*((η m).filter g).length:Nat):Int)) (O ↥k) (O (.lst T)))) cc:=by
  refine cJ (aZ (x:=.lst T) (y:=.int (k:Int)) rfl rfl ?_);rw[jT,ku (v:=aM n (cV c z k (m+k))) (by rw[<-hT];simp[hk])]
 refine⟨cV c z k (m+k),P*((η m).filter g).length,O (.lst T),⟨ZN h.kp hk hz',λΘ hL=>?_,?_⟩,?_⟩
 ·obtain⟨agC,hK1,l1⟩:=abS hk hL (B:=(η m).filter g) (Sk _ Ru) λb=>by
   rw[R0,dD]
   constructor
   ·rintro ⟨hb,q⟩;exact(g2 b hb).mp q
   ·rintro ⟨t,t1,t2⟩
    have hb:b<m:=by rw[<-t2];exact eH t1.1.pm hk
    exact⟨hb,(g2 b hb).mpr ⟨t,t1,t2⟩⟩
  obtain⟨K,hK,l2⟩:=h.pr agC hK1;exact⟨K,hK,by rw[l2,l1,Nat.mul_assoc]⟩
 ·rw[Nat.pow_succ];exact Nat.mul_le_mul h.le hBl
 ·unfold zj;exact bP s1 (bP s2 s3)
theorem acq(w:List (List Nat))(hl:w.length=m)(hm:m<=10)(cc:aa):jx [aA w,.int 10,.int 16] cc=.ok .aF cc:=by
 have hlen:∀e:Ev,e[0]? = O (O _)->aJ aR ⇑0 e cc=.ok _ cc:=λe he=>ck (by rw[dj,he]) (by rw[iV,hl])
 have t1:aG (av gm _ (ak 2)) [O (aA w),O (.int 10),O (.int 16)] cc=.ok (decide _) cc:=cO (aZ (hlen _ rfl) rfl rfl);have t2:aG (av gm _ (ak 1)) [O _,O (.int 10),O (.int 16)] cc=.ok (decide _) cc:=cO (aZ (hlen _ rfl) rfl rfl);rw[decide_eq_false ∅]at t1 t2
 have t3:i6 (aG (av gm (aJ aR ⇑0) (ak 1))) (eF (aG AU)) [O (aA w),O (.int 10),O (.int 16)] cc=.ok ξ cc:=by
  rw[ug,t2];simp only[R.aN];rw[if_neg ⋯]
 have hb:wZ [O _,O _,O _] cc=.ok _ cc:=gj (qb t1 t3) rfl;rw[jx,iN];have es:bW 3 [aA w,.int 10,.int 16]=[O _,O _,O _]:=rfl;rw[es,hb];simp[cD,noRef]
theorem vn{f:Nat->Nat->Bool}(h0:0<m)(hm:m<=10)(hw:bO f)(cc:aa):∃K,iM (bY m f f) K/\gZ [aA (wF m f)] cc=.ok (.int (K.length:Nat)) cc:=by
 have hs:=cZ (n:=1000) ⋯
 have h1:=acq (wF m f) (fT m f) hm cc;have h3:=Jx f f (show m<60 by omega) cc
 have h4:aR [aA (wF m f)] cc=.ok ↥m cc:=by rw[iV,fT]
 generalize aA (wF m f)=W at h1 h3 h4 ⊢
 generalize hB:aA (wF (2*m) (F2 m f f))=B at h3
 have s1:d9 (aB 3 jx (ao (ak 0) (ao (dC (.int 10)) (ao (dC (.int 16)) aq)))) [O W,U,U,U,U,U,U] cc=.ok (.nx [O W,U,U,U,U,U,U]) cc:=wL (jK (x:=W) rfl rfl rfl h1);have s2:aI 1 (aJ aR ⇑0) [O W,U,U,U,U,U,U] cc=.ok (.nx [O W,O ↥m,U,U,U,U,U]) cc:=cJ (ck (x:=W) rfl h4);have s3:aI 2 (aB 2 qh (0⊂0)) [O W,O ↥m,U,U,U,U,U] cc=.ok (.nx [O W,O ↥m,O B,U,U,U,U]) cc:=cJ (dR (x:=W) (y:=W) rfl rfl h3);have s4:aI 3 (av mK (eW (ao (dC (.int 0)) aq)) (av dZ (dC (.int 2)) (ak 1))) [O W,O ↥m,O B,U,U,U,U] cc=.ok (.nx [O W,O ↥m,O B,O (aM (2*m) λ_=>0),U,U,U]) cc:=by
  have l1:eW (ao (dC (.int 0)) aq) [O W,O ↥m,O B,U,U,U,U] cc=.ok (.lst [.int 0]) cc:=by
   rw[xT];simp only[cY,jU,cU,R.aN];rw[if_pos (by show 1<=Ω;omega)]
  have l2:av dZ (dC (.int 2)) (ak 1) [O W,O ↥m,O B,U,U,U,U] cc=.ok (.int ((2*m:Nat):Int)) cc:=by
   refine aZ (y:=.int (m:Int)) rfl rfl ?_;rw[xS,if_pos (.inl ∅)]
   rfl
  refine cJ (aZ l1 l2 ?_);rw[Ic,if_pos (by simp;omega),Ss,KS]
  rfl
 have hrl:(aV 0 (m:Int)).length=m:=by rw[jt];omega
 obtain⟨e',c3,⟨c,P,v,w,rfl,hc3,hM⟩,hf⟩:=tN (g:=aC 5) (s:=zj) (λk e c'=>∃(c:Nat->Nat) (P:Nat) (v w:Option D),e=kL W ↥m B (aM (2*m) c) ↥P v w/\c'=cc/\Mo m f k c P)
  (aV 0 (m:Int)) 0 (kL W ↥m B (aM (2*m) λ_=>0) (.int ((1:Nat):Int)) U U) cc ⟨λ_=>0,1,U,U,rfl,rfl,⟨ZM m f,λΘ hL=>⟨Θ,hL,∅⟩,⋯⟩⟩ (λi x hx e c' ⟨c,P,v,w,he,hc,hM⟩=>by
   subst he;subst hc;obtain⟨hi,hx⟩:=nO hx;subst hx;have hi:i<m:=∅
   rw[R6]at hM ⊢;obtain⟨c1,P1,w1,h1,h2⟩:=YV (W:=W) (w:=w) hB.symm rfl rfl ∅ hw hi hM c'
   have e0:((0:Int)+(i:Int))=(i:Int):=∅
   rw[e0];exact⟨_,_,_,_,rfl,h2,c1,P1,_,w1,rfl,rfl,h1⟩)
 rw[hrl,R6]at hM;rw[hc3]at hf;obtain⟨K,hK,hl⟩:=hM.pr _ abT;have hl:P=K.length:=by rw[hl];simp
 have hr:bK ⇑1 (kL W ↥m B (aM (2*m) λ_=>0) (.int ((1:Nat):Int)) U U) cc=.ok ⟨aV 0 (m:Int),λ_=>True⟩ cc:=mJ rfl ∅
 refine⟨K,⟨hK.1,λos=>(hK.2 os).trans ⟨λh=>h.1,λh=>⟨h,λi hi=>∅⟩⟩⟩,?_⟩
 refine dW ?_ rfl (by simp)
 rw[YW,<-hl];exact bP s1 (bP s2 (bP s3 (bP s4 (bP (cJ rfl) (bP (m9 hr hf) (dU rfl))))))
theorem Zb{f g:Nat->Nat->Bool}(h0:0<m)(hm:m<=10)(hf:bO f)(hg:bO g)(ht:bY m f g t)(cc:aa):gZ [aA (wF m f)] cc=gZ [aA (wF m g)] cc:=by
 obtain⟨K,hK,h1⟩:=vn h0 hm hf cc;obtain⟨Θ,hL,h2⟩:=vn h0 hm hg cc;rw[h1,h2,acM ht hK hL]
theorem Zc{f g:Nat->Nat->Bool}(h0:0<m)(hm:m<=10)(hf:bO f)(hg:bO g)(hx:∀os,bY m f f os↔bY m g g os)(cc:aa):gZ [aA (wF m f)] cc=gZ [aA (wF m g)] cc:=by
 obtain⟨K,hK,h1⟩:=vn h0 hm hf cc;obtain⟨Θ,hL,h2⟩:=vn h0 hm hg cc;rw[h1,h2,acN hK ⟨hL.1,λos=>(hL.2 os).trans (hx os).symm⟩]
theorem qH{f:Nat->Nat->Bool}:fD f i j=(decide (i≠j) && !f i j):=by
 unfold fD
 by_cases e:i=j<;>simp
theorem BI{f g:Nat->Nat->Bool}(hf:bO f)(hg:bO g)(os:List Nat):bY m (fD f) (fD g) os↔bY m f g os:=by
 constructor
 ·rintro ⟨pm,h⟩
  refine⟨pm,λi j hi hj=>?_⟩
  by_cases e:i=j
  ·subst e;rw[hf.ir,hg.ir]
  ·have q:aE os i≠aE os j:=λz=>e (ju pm hi hj z)
   have:=h i j hi hj;rw[qH,qH]at this
   simpa[e,q]using this
 ·rintro ⟨pm,h⟩
  refine⟨pm,λi j hi hj=>?_⟩
  rw[qH,qH,h i j hi hj];have:(i≠j)↔_:=⟨λe z=>e (ju pm hi hj z),λe z=>e (by rw[z])⟩
  rw[decide_eq_decide.mpr this]
theorem Gz{f:Nat->Nat->Bool}(hf:bO f):bO (fD f):=⟨λi=>by rw[qH];simp,λi j=>by
 rw[qH,qH,hf.sy i j]
 congr 1
 exact decide_eq_decide.mpr ⟨λh e=>h e.symm,λh e=>h e.symm⟩⟩
theorem ah9{f g:Nat->Nat->Bool}(h0:0<m)(hm:m<=12)(hf:bO f)(hg:bO g)(cc:aa):iE [aA (wF m (fD f)),aA (wF m (fD g))] cc=iE [aA (wF m f),aA (wF m g)] cc:=by
 rcases uz h0 hm hf hg cc with⟨a1,a2⟩|⟨os,a1,a2⟩<;>rcases uz h0 hm (Gz hf) (Gz hg) cc with⟨b1,b2⟩|⟨ts,b1,b2⟩
 ·rw[a1,b1]
 ·exact absurd ((BI hf hg ts).mp b2.1) (a2 ts)
 ·exact absurd ((BI hf hg os).mpr a2.1) (b2 os)
 ·have:os=ts:=iL.one (λos ho=>eU ho.pm) a2 (b2.congr (BI hf hg))
  rw[a1,b1,this]
theorem Za{f:Nat->Nat->Bool}(h0:0<m)(hm:m<=10)(hf:bO f)(cc:aa):gZ [aA (wF m (fD f))] cc=gZ [aA (wF m f)] cc :=
 Zc h0 hm (Gz hf) hf (λos=>BI hf hf os) cc
theorem FY{α:Type}(p q:α->Bool):∀l:List α,(∀x∈l,¬(p x=J/\q x=J))->l.countP (λx=>p x||q x)=l.countP p+l.countP q
 |[],_=>rfl
 |x::l,h=>by
  have ih:=FY p q l λy hy=>h y (by simp[hy])
  have hx:=h x (by simp)
  cases hp:p x<;>cases hq:q x<;>simp[hp,hq]at hx ⊢<;>omega
theorem F0{α:Type}(p q:α->Bool):∀l:List α,(∀x∈l,p x=J->q x=J)->l.countP p<=l.countP q
 |[],_=>x6 _
 |x::l,h=>by
  have ih:=F0 p q l λy hy=>h y (by simp[hy])
  have hx:=h x (by simp)
  cases hp:p x<;>cases hq:q x<;>simp[hp,hq]at hx ⊢<;>omega
theorem FZ:∀l:List Nat,l.Nodup->a∈l->l.countP (λx=>x==a)=1
 |[],_,h=>by cases h
 |x::l,nd,h=>by
  rw[S0]at nd;rw[Vo]
  by_cases e:x=a
  ·subst e;have:l.countP (λy=>y==x)=0:=by
    rw[Vp];intro y hy hyx;rw[beq_iff_eq]at hyx;subst hyx;exact nd.1 hy
   rw[this];simp
  ·have hm:a∈l:=by
    rcases Bt.mp h with z|z
    ·exact absurd z.symm e
    ·exact z
   rw[FZ l nd.2 hm];simp[e]
def ua(g:Nat->Nat->Bool)(ws:List Nat)(P:Nat->Bool):Prop:=∀a∈ws,∀b∈ws,P a=J->P b=J->a≠b->g a b=J
structure pJ (g:Nat->Nat->Bool) (ws:List Nat) (n:Nat):Prop where
 has:∃P,ua g ws P/\ws.countP P=n
 top:∀P,ua g ws P->ws.countP P<=n
theorem abK(g:Nat->Nat->Bool):pJ g [] 0:=⟨⟨λ_=>ξ,λa ha=>(by cases ha),rfl⟩,λP _=>x6 _⟩
theorem abI{g:Nat->Nat->Bool}(h0:∀i,g i i=ξ)(hs:∀i k,g i k=g k i){ws:List Nat}(nd:ws.Nodup)(hb:b∈ws)(n:Nat->Nat)(hn:∀p∈ws,g b p=ξ->pJ g (ws.filter (g p)) (n p))(hM:∃p∈ws,g b p=ξ/\n p=M)(hT:∀p∈ws,g b p=ξ->n p<=M):pJ g ws (1+M):=by
 have grow:∀p (Q:Nat->Bool),p∈ws->ws.countP (λx=>x==p||(g p x&&Q x))=1+(ws.filter (g p)).countP Q:=λp Q hp=>by
  rw[FY (λx=>x==p) (λx=>g p x&&Q x) ws (λx _ ⟨h1,h2⟩=>by
   rw[beq_iff_eq]at h1;subst h1;rw[h0]at h2;cases h2),FZ ws nd hp,Vn]
  congr 1
  congr 1
  funext x
  rw[Uy]
 constructor
 ·obtain⟨p,hp,zK,e⟩:=hM;obtain⟨Q,hQ,eQ⟩:=(hn p hp zK).has;refine⟨λx=>x==p||(g p x&&Q x),?_,by rw[grow p Q hp,eQ,e]⟩
  intro a ha c hc hPa v8 hne;rw[SD,beq_iff_eq,RT]at hPa v8
  rcases hPa with rfl|⟨ga,qa⟩
  ·rcases v8 with rfl|⟨gc,qc⟩
   ·exact absurd rfl hne
   ·exact gc
  ·rcases v8 with rfl|⟨gc,qc⟩
   ·rw[hs];exact ga
   ·exact hQ a (R0.mpr ⟨ha,ga⟩) c (R0.mpr ⟨hc,gc⟩) qa qc hne
 ·intro P hP
  by_cases hx:∃p∈ws,P p=J/\g b p=ξ
  ·obtain⟨p,hp,hPp,zK⟩:=hx;have h1:ws.countP P<=ws.countP (λx=>x==p||(g p x&&P x)):=F0 _ _ ws λx hx qy=>by
    by_cases e:x=p
    ·simp[e]
    ·rw[SD,RT]
     right
     exact⟨hP p hp x hx hPp qy (λz=>e z.symm),qy⟩
   rw[grow p P hp]at h1;have h2:=(hn p hp zK).top P λa ha c hc=>hP a (R0.mp ha).1 c (R0.mp hc).1
   have h3:=hT p hp zK;omega
  ·have hall:∀x∈ws,P x=J->g b x=J:=λx hx' qy=>by
    cases e:g b x with
    |true=>rfl
    |false=>exact absurd ⟨x,hx',qy,e⟩ hx
   have h1:ws.countP P<=(ws.filter (g b)).countP P:=by
    rw[Vn];exact F0 _ _ ws λx hx' qy=>by rw[RT];exact⟨qy,hall x hx' qy⟩
   have h2:=(hn b hb (h0 b)).top P λa ha c hc=>hP a (R0.mp ha).1 c (R0.mp hc).1
   have h3:=hT b hb (h0 b);omega
theorem zC{g:Nat->Nat->Bool}(hs:∀i k,g i k=g k i):∀(s:Nat) (K:List Nat),K∈dB m g s->(∀j∈K,j<jf K/\j<m)/\∃P,ua g (η m) P/\(η m).countP P=s/\∀x,P x=J↔x∈K
 |0,K,h=>by
  have:K=[]:=by simpa[dB]using h
  subst this;exact⟨λj hj=>(by cases hj),λ_=>ξ,λa _ b _ h=>(by cases h),(by simp),λx=>by simp⟩
 |s+1,K',h=>by
  obtain⟨K,hK,h2⟩:=U9.mp h;obtain⟨k,hk,rfl⟩:=AP.mp h2;obtain⟨hlt,P,hP,hc,hm⟩:=zC hs s K hK;obtain⟨k1,k2,k3⟩:=wV.mp hk;have hkK:k∉K:=λz=>by have:=(hlt k z).1;omega
  refine⟨λj hj=>?_,λx=>x==k||P x,?_,?_,λx=>?_⟩
  ·rw[DY]
   rcases RI.mp hj with z|z
   ·have:=hlt j z;omega
   ·rw[RE]at z;omega
  ·intro a ha b hb hPa EY hne;rw[SD,beq_iff_eq,hm]at hPa EY
   rcases hPa with rfl|pa
   ·rcases EY with rfl|pb
    ·exact absurd rfl hne
    ·exact k3 b pb
   ·rcases EY with rfl|pb
    ·rw[hs];exact k3 a pa
    ·exact hP a ha b hb ((hm a).mpr pa) ((hm b).mpr pb) hne
  ·rw[FY _ P _ (λx _ q=>hkK (by
    have q1:=beq_iff_eq.mp q.1;rw[<-q1];exact(hm x).mp q.2)),FZ _ Ru (dD.mpr k2),hc,Nat.add_comm]
  ·rw[SD,beq_iff_eq,hm,RI,RE,Or.comm]
theorem adx{g:Nat->Nat->Bool}{P:Nat->Bool}(hP:ua g (η m) P):∀i,i<=((η m).filter P).length->((η m).filter P).take i∈dB m g i:=by
 intro i;have sorted:((η m).filter P).Pairwise (· < ·):=Sk _ UA;have mem:∀x∈(η m).filter P,x<m/\P x=J:=λx hx=>by
  rw[R0,dD]at hx;exact hx
 generalize (η m).filter P=Q at sorted mem
 induction i with
 |zero=>intro _;simp[dB]
 |succ i ih =>
  intro hi;have h1:=ih ∅
  have hq:Q.take (i+1)=Q.take i++[Q[i]]:=by rw[To,H8 ∅];rfl
  rw[hq];refine U9.mpr ⟨Q.take i,h1,AP.mpr ⟨Q[i],wV.mpr ⟨?_,(mem _ (RA _)).1,λj hj=>?_⟩,rfl⟩⟩
  ·cases i with
   |zero=>exact RM _
   |succ i =>
    have hq2:Q.take (i+1)=Q.take i++[Q[i]]:=by rw[To,H8 ∅];rfl
    rw[hq2,DY];have:=Sd.mp sorted i (i+1) ∅ ∅ ∅
    omega
  ·obtain⟨n,hn,e⟩:=Se.mp hj;rw[Tf]at hn;rw[UB]at e;have hlt:=Sd.mp sorted n i ∅ ∅ ∅
   have sZ:=mem j (RN hj);have Of:=mem Q[i] (RA _);exact hP _ (dD.mpr Of.1) _ (dD.mpr sZ.1) Of.2 sZ.2 ∅
theorem Yd(g:Nat->Nat->Bool)(hp:p<m)(ho:o<m)(h1:d1 e c=.ok ↥o c)(h2:d2 e c=.ok (aA (wF m g)) c)(h3:d3 e c=.ok ↥p c):aG (av iU d1 (av aH d2 d3)) e c=.ok (!g p o) c:=by
 have:=pB (aZ (f:=iU) (x:=.int (o:Int)) h1 (aZ (y:=.int (p:Int)) h2 h3 (ou (Iq g hp) c)) (L5 (bu m g p) o c));rw[DJ g ho]at this;exact this
def ah3:ai:=(aG (av inD (ak 0) (av aH (ak 1) (ak 2))))
theorem IX(g:Nat->Nat->Bool)(hp:p<m)(hl:∀x∈l,x<m)(hn:l.length<1000)(c:aa):n5 [aA (wF m g),.int (p:Int),cB l] c=.ok (cB (l.filter (g p))) c:=by
 have sz:=CL;have iY:=jF (E:=[O (aA (wF m g)),O ↥p]) (t:=ah3) (a:=ak 0) (c:=c) (λo:Nat=>D.int (o:Int)) (λo:Nat=>D.int (o:Int)) (g p) l U [] (λo ho=>NO g hp (hl o ho) rfl rfl rfl) (λo _ _=>rfl)
 rw[RC]at iY;have hcc:=fN (pick:=[U,O 0,O 1]) (e:=[O (aA (wF m g)),O ↥p,O (cB l)]) (nN (d:=ak 2) (l:=nD l) rfl) (by rw[lH];omega) iY
 exact dW (n:=3) (b:=A7) (dU hcc) (D0 _) (λk h=>by cases h)
theorem QA(ks:List Int):∀n,0<n->∃i,qU ks n i
 |0,h=>absurd h (RS _)
 |1,_=>⟨0,∅,λj hj=>by
  have:j=0:=∅
  subst this;exact⟨UN _,λh=>absurd h (RS _)⟩⟩
 |n+2,_=>by
  obtain⟨i,hi,hb⟩:=QA ks (n+1) ∅
  by_cases h:ks.getD (n+1) 0>ks.getD i 0
  ·refine⟨n+1,∅,λj hj=>?_⟩
   by_cases e:j=n+1
   ·subst e;exact⟨UN _,λh=>absurd h (RS _)⟩
   ·have:=(hb j ∅).1
    exact⟨∅,λ_=>∅⟩
  ·refine⟨i,∅,λj hj=>?_⟩
   by_cases e:j=n+1
   ·subst e;exact⟨∅,λh=>absurd h ∅⟩
   ·exact hb j ∅
theorem Nq{M:List D->aa->R D}:∀xs:List D,(∀x∈xs,∃k,M ([x]++l) c=.ok (.int k) c)->∃ks,lP M l c xs=O ks
 |[],_=>⟨[],rfl⟩
 |x::xs,h=>by
  obtain⟨k,hk⟩:=h x (by simp)
  obtain⟨ks,hks⟩:=Nq xs λy hy=>h y (by simp[hy])
  refine⟨k::ks,?_⟩;unfold lP;rw[hk];dsimp only;rw[if_pos rfl,hks];rfl
theorem Y8{M:List D->aa->R D}{xs:List D}(h1:d1 e c=.ok (.lst xs) c)(hg:getAll e js=O l)(hp:0<xs.length)(hk:∀x∈xs,∃k,M ([x]++l) c=.ok (.int k) c):∃d∈xs,wN M d1 js e c=.ok d c:=by
 obtain⟨ks,hks⟩:=Nq xs hk;obtain⟨i,hi⟩:=QA ks xs.length hp;have hb:=QB hi (H8 hi.1);refine⟨xs[i]'hi.1,RA _,?_⟩;unfold wN;rw[h1];simp only[R.aN];rw[hg];dsimp only;rw[if_pos hp,hks];dsimp only;rw[hb]
theorem MJ:∀(l:List Int) (a:Int),a<=eV a l/\∀x∈l,x<=eV a l
 |[],a=>⟨UN _,λx hx=>by cases hx⟩
 |b::l,a=>by
  obtain⟨h1,h2⟩:=MJ l (if b>a then b else a)
  show a<=eV (if b>a then b else a) l/\∀x∈b::l,x<=eV (if b>a then b else a) l
  have h3:a<=(if b>a then b else a)/\b<=(if b>a then b else a):=by split<;>omega
  refine⟨∅,λx hx=>?_⟩
  rcases Bt.mp hx with rfl|hx
  ·omega
  ·exact h2 x hx
theorem MH:∀(l:List Int) (a:Int),eV a l∈a::l
 |[],a=>by simp[eV]
 |b::l,a=>by
  have h:=MH l (if b>a then b else a)
  show eV (if b>a then b else a) l∈a::b::l
  rcases Bt.mp h with h|h
  ·rw[h];split<;>simp
  ·simp[h]
def OF(M:List D->aa->R D):af:=(aU (cj (ak 3)) [U,O 0,O 1] (aC 0) aY (aB 2 M (ao (ak 1) (ao (aB 3 n5 (ao (ak 1) (0⊂2))) aq))))
def Fb:af:=(aU (cj (ak 1)) [U,O 0,O 2] (aC 0) (aG (av iU (ak 0) (av aH (ak 1) (ak 2)))) (ak 0))
theorem zY{g:Nat->Nat->Bool}(h0:∀i,g i i=ξ){l:List Nat}(hp:p∈l):(l.filter (g p)).length<l.length:=by
 have h1:=SM (g p) l
 rcases SQ (l.filter (g p)).length l.length with h|h
 ·exact h
 ·have e:(l.filter (g p)).length=l.length:=∅
  have:=List.length_filter_eq_length_iff.mp e p hp;rw[h0]at this;cases this
theorem OE{g:Nat->Nat->Bool}(hg:gU g)(hm:m<=900)(c:aa):∀(j:Nat) (l:List Nat),l.length<j->(∀x∈l,x<m)->l.Nodup->l.length<1000->∃n:Nat,pJ g l n/\kg j [aA (wF m g),cB l] c=.ok ↥n c
 |0,l,h,_,_,_=>absurd h (Ui _)
 |j+1,l,hj,hl,nd,hlen=>by
  have sz:=CL;have ih:=OE hg hm c j
  generalize hM:kg j=M at ih
  have hfn:kg (j+1)=bA 4 ξ (xr (kg j)):=rfl;rw[hfn,hM];have es:bW 4 [aA (wF m g),cB l]=[O (aA (wF m g)),O (cB l),U,U]:=rfl;have hb:xr M=aD (bx (eF (o8 (ak 1))) (aP (dC (.int 0))) bJ) (aD _ (aD (aI 3 Fb) (aP (av bR (dC (.int 1)) (aJ lI (ao (OF M) aq)))))):=rfl;cases hle:l with
  |nil =>
   refine⟨0,abK g,dW ?_ rfl (λk h=>by cases h)⟩
   have es':bW 4 [aA (wF m g),cB []]=[O (aA (wF m g)),O (cB []),U,U]:=rfl;rw[es',hb];rfl
  |cons a r =>
   rw[<-hle];have hpos:0<l.length:=by rw[hle];simp
   have t0:eF (o8 (ak 1)) [O (aA (wF m g)),O (cB l),U,U] c=.ok ξ c:=by
    refine mS (b:=J) ?_;rw[hle];rfl
   have e0:bx (eF (o8 (ak 1))) (aP (dC (.int 0))) bJ [O (aA (wF m g)),O (cB l),U,U] c=.ok (.nx [O (aA (wF m g)),O (cB l),U,U]) c:=NR t0;obtain⟨d,hd,aaP⟩:=Y8 (M:=oq lO) (d1:=ak 1) (js:=[0,1]) (e:=[O (aA (wF m g)),O (cB l),U,U]) (c:=c) (xs:=nD l) (l:=[aA (wF m g),cB l]) rfl rfl (by rw[lH];exact hpos) (λx hx=>by
    obtain⟨p,hp,rfl⟩:=AP.mp hx;have ht:=IX g (hl p hp) hl hlen c;refine⟨((l.filter (g p)).length:Nat),?_⟩;show lO [O ↥p,O (aA (wF m g)),O (cB l)] c=_;unfold lO;refine ck (f:=aR) (jK (m:=n5) (d1:=ak 1) (d2:=ak 0) (d3:=ak 2) rfl rfl rfl ht) ?_;show R.ok _ c=_;rw[lH])
   obtain⟨b,qw,rfl⟩:=AP.mp hd;have hbm:=hl b qw;have e1:aI 2 (wN (oq lO) (ak 1) [0,1]) [O (aA (wF m g)),O (cB l),U,U] c=.ok (.nx [O (aA (wF m g)),O (cB l),O ↥b,U]) c:=cJ (i:=2) aaP;have iY:=jF (E:=[O (aA (wF m g)),O ↥b]) (t:=(aG (av iU (ak 0) (av aH (ak 1) (ak 2))))) (a:=ak 0) (c:=c) (λo:Nat=>D.int (o:Int)) (λo:Nat=>D.int (o:Int)) (λo=>!g b o) l U [] (λo ho=>Yd g hbm (hl o ho) rfl rfl rfl) (λo _ _=>rfl)
   rw[RC]at iY
   generalize htr:l.filter (λo=>!g b o)=tr at iY
   have qt:∀p,p∈tr↔p∈l/\g b p=ξ:=λp=>by rw[<-htr,R0];simp
   have hcc:Fb [O (aA (wF m g)),O (cB l),O ↥b,U] c=.ok (cB tr) c:=fN (pick:=[U,O 0,O 2]) (nN (d:=ak 1) (l:=nD l) rfl) (by rw[lH];omega) iY
   have e2:aI 3 Fb [O (aA (wF m g)),O (cB l),O ↥b,U] c=.ok (.nx [O (aA (wF m g)),O (cB l),O ↥b,O (cB tr)]) c:=cJ (i:=3) hcc;have hex:∀p,∃n:Nat,p∈tr->pJ g (l.filter (g p)) n/\M [aA (wF m g),cB (l.filter (g p))] c=.ok ↥n c:=λp=>by
    by_cases hp:p∈tr
    ·have hpl:=((qt p).mp hp).1;obtain⟨n,h1,h2⟩:=ih (l.filter (g p)) (by have:=zY hg.1 hpl;omega) (λx hx=>hl x (R0.mp hx).1) (nd.filter _) (by have:=SM (g p) l;omega)
     exact⟨n,λ_=>⟨h1,h2⟩⟩
    ·exact⟨0,λh=>absurd h hp⟩
   obtain⟨n,hn⟩:=Classical.axiomOfChoice hex;have Oj:=wR (c:=c) (st:=λ_=>True) (E:=[O (aA (wF m g)),O (cB l)]) (t:=aY) (a:=(aB 2 M (ao (ak 1) (ao (aB 3 n5 (ao (ak 1) _)) aq)))) trivial (λo:Nat=>D.int (o:Int)) _ tr U [] (λ_ _=>rfl) (λp hp=>by
    have hpl:=((qt p).mp hp).1;exact dR (m:=M) (d1:=ak 1) rfl (jK (m:=n5) (d1:=ak 1) (d2:=ak 0) (d3:=ak 2) rfl rfl rfl (IX g (hl p hpl) hl hlen c)) (hn p hp).2)
   rw[RC]at Oj;have htl:tr.length<=l.length:=by rw[<-htr];exact SM _ _
   have aa7:OF M [O (aA (wF m g)),O (cB l),O ↥b,O (cB tr)] c=.ok (.lst _) c:=fN (pick:=[U,O 0,O 1]) (nN (d:=ak 3) (l:=nD tr) rfl) (by rw[lH];omega) Oj
   have Ol:b∈tr:=(qt b).mpr ⟨qw,hg.1 b⟩;have hmx:∃mx:Nat,(∃p∈tr,n p=mx)/\(∀p∈tr,n p<=mx)/\lI [.lst (tr.map λo:Nat=>D.int ((n o:Nat):Int))] c=.ok ↥mx c:=by
    have ei:(tr.map λo:Nat=>D.int ((n o:Nat):Int))=(tr.map λo:Nat=>((n o:Nat):Int)).map D.int:=by rw[R3];rfl
    cases htc:tr with
    |nil=>rw[htc]at Ol;cases Ol
    |cons q qs =>
     rw[htc]at ei;have hge:=MJ (qs.map λo:Nat=>((n o:Nat):Int)) ((n q:Nat):Int)
     have Oa:=MH (qs.map λo:Nat=>((n o:Nat):Int)) ((n q:Nat):Int)
     rw[<-Q8 (f:=λo:Nat=>((n o:Nat):Int))]at Oa
     obtain⟨p,hp,e⟩:=AP.mp Oa;refine⟨n p,⟨p,hp,rfl⟩,λx hx=>?_,?_⟩
     ·rcases Bt.mp hx with rfl|hx
      ·have:=hge.1;omega
      ·have:=hge.2 ((n x:Nat):Int) (AP.mpr ⟨x,hx,rfl⟩);omega
     ·unfold lI;dsimp only;rw[ei,qq];show R.ok (D.int (eV ((n q:Nat):Int) _)) c=_;rw[<-e]
   obtain⟨mx,⟨p,hp,vR⟩,hall,hml⟩:=hmx;refine⟨1+mx,abI hg.1 hg.2 nd qw n (λp hp hb=>(hn p ((qt p).mpr ⟨hp,hb⟩)).1) ⟨p,((qt p).mp hp).1,((qt p).mp hp).2,vR⟩ (λp hp hb=>hall p ((qt p).mpr ⟨hp,hb⟩)),?_⟩
   refine dW ?_ rfl (λk h=>by cases h)
   rw[es,hb,fm e0,fm e1,fm e2];refine dU (aZ (f:=bR) (x:=.int 1) (y:=.int (mx:Int)) rfl (ck (f:=lI) aa7 hml) ?_);show R.ok (D.int (1+(mx:Int))) c=R.ok (D.int ((1+mx:Nat):Int)) c;exact congrArg (λz=>R.ok (D.int z) c) ∅
theorem Nj{g:Nat->Nat->Bool}(hg:gU g)(h1:1<=m)(hm:m<=16)(c:aa):∃n:Nat,pJ g (η m) n/\kc [aA (wF m g)] c=.ok ↥n c:=by
 obtain⟨n,hn,h⟩:=OE hg ∅ c 18 (η m) (by simp;omega) (λx hx=>dD.mp hx) Ru (by simp;omega)
 refine⟨n,hn,?_⟩;have hlen:aJ aR ⇑0 [O (aA (wF m g))] c=.ok (.int m) c:=ck (x:=aA (wF m g)) rfl (by rw[iV,fT])
 have e0:bx (aG (av gm (aJ aR ⇑0) (dC (.int 25)))) rP bJ [O (aA (wF m g))] c=.ok (.nx [O (aA (wF m g))]) c:=by
  refine NR (pB (aZ (f:=gm) (x:=.int m) (y:=.int 25) hlen rfl ?_));show R.ok (D.bl (decide ((m:Int)>25))) c=_;rw[decide_eq_false ∅]
 have hb:xq=aD (bx (aG (av gm (aJ aR (ao _ aq)) (dC _))) rP bJ) (aP (aB 2 (kg 18) (ao _ (ao (qA (ao (aJ aR (ao _ aq)) aq)) aq)))):=rfl;have es:bW 1 [aA (wF m g)]=[O (aA _)]:=rfl;refine dW (b:=xq) ?_ rfl (λk h=>by cases h)
 rw[es,hb,fm e0];exact dU (dR (m:=kg 18) (d1:=ak 0) rfl (ML hlen ∅ ∅) h)
theorem m7{f g:Nat->Nat->Bool}(h:bY m f g t):Mv m (aE t) g f where
 lt:=λa ha=>by
  have hl:t.length=m:=by have:=h.pm.length_eq;simpa using this
  have:t[a]'∅∈t:=RA _
  have:=dD.mp (h.pm.mem_iff.mp this)
  simpa[aE,Iv,show a<t.length by omega]using this
 pm:=by
  have e:(η m).map (aE t)=t:=by
   refine Rx (by simp[(by have:=h.pm.length_eq;simpa using this)]) λi h1 h2=>?_
   simp[aE,Iv,h2]
  rw[e];exact h.pm
 eq:=h.eq
theorem Mv.cnt{Z:Nat->Nat}{f g:Nat->Nat->Bool}(h:Mv m Z f g)(P:Nat->Bool):(η m).countP (λx=>P (Z x))=(η m).countP P:=by
 have:=h.pm.countP_eq P
 rwa[SK]at this
theorem Mv.F1{Z:Nat->Nat}{f g:Nat->Nat->Bool}(h:Mv m Z f g){P:Nat->Bool}(hP:ua f (η m) P):ua g (η m) λx=>P (Z x):=λa ha b hb pa pb hne=>by
 have ha:=dD.mp ha;have hb:=dD.mp hb;rw[h.eq a b ha hb];exact hP _ (dD.mpr (h.lt a ha)) _ (dD.mpr (h.lt b hb)) pa pb λe=>hne (h.inj ha hb e)
theorem abJ{f g:Nat->Nat->Bool}(h:bY m f g t)(hn:pJ f (η m) n)(hk:pJ g (η m) k):n=k:=by
 obtain⟨P,hP,e⟩:=hn.has;obtain⟨Q,hQ,e'⟩:=hk.has;have h1:=hk.top _ ((m7 (qp h)).F1 hP);have h2:=hn.top _ ((m7 h).F1 hQ);rw[Mv.cnt (m7 (qp h))]at h1;rw[Mv.cnt (m7 h)]at h2;omega
theorem Ef{g:Nat->Nat->Bool}(hs:∀i k,g i k=g k i):∀(s:Nat) (K:List Nat),K∈dB m g s->Up K/\K.length=s
 |0,K,h=>by
  have:K=[]:=by simpa[dB]using h
  subst this;exact⟨.nil,rfl⟩
 |s+1,K,h=>by
  obtain⟨K',h1,h2⟩:=U9.mp (show K∈(dB m g s).flatMap (ng m g)from h)
  obtain⟨k,h3,rfl⟩:=AP.mp h2;obtain⟨u,l⟩:=Ef hs s K' h1;refine⟨Xl.mpr ⟨u,WZ _ _,λa ha b hb=>?_⟩,by simp[l]⟩
  rw[RE.mp hb];exact P7 (((zC hs s K' h1).1) a ha).1 ((wV.mp h3).1)
theorem IA:∀{a b:List Nat},Up a->Up b->(∀x,x∈a↔x∈b)->a=b
 |[],[],_,_,_=>rfl
 |[],y::b,_,_,h=>by have:=(h y).mpr (.head _);cases this
 |x::a,[],_,_,h=>by have:=(h x).mp (.head _);cases this
 |x::a,y::b,ha,hb,h=>by
  obtain⟨a1,a2⟩:=Ri.mp ha;obtain⟨b1,b2⟩:=Ri.mp hb;have e:x=y:=by
   rcases Bt.mp ((h x).mp (.head _))with e|q
   ·exact e
   ·rcases Bt.mp ((h y).mpr (.head _))with e|r
    ·exact e.symm
    ·have:=b1 x q;have:=a1 y r;omega
  subst e;rw[IA a2 b2 λz=>⟨λhz=>?_,λhz=>?_⟩]
  ·rcases Bt.mp ((h z).mp (.tail _ hz))with e|q
   ·have:=a1 z hz;omega
   ·exact q
  ·rcases Bt.mp ((h z).mpr (.tail _ hz))with e|q
   ·have:=b1 z hz;omega
   ·exact q
theorem Nl(m:Nat)(g:Nat->Nat->Bool):∀s,(dB m g s).Nodup
 |0=>by simp[dB]
 |s+1=>by
  show((dB m g s).flatMap (ng m g)).Nodup;refine List.pairwise_flatMap.mpr ⟨λK _=>?_,(Nl m g s).imp fun{K Θ} hne x hx y hy e=>?_⟩
  ·unfold ng jI;refine Sa.mpr ((Sk _ (List.nodup_range' (step:=1))).imp fun{a b} h e=>h ?_)
   simpa using e
  ·obtain⟨a,_,rfl⟩:=AP.mp hx;obtain⟨b,_,rfl⟩:=AP.mp hy;exact hne (List.append_inj' e rfl).1
theorem Nm{Z:Nat->Nat}{f g:Nat->Nat->Bool}(h:Mv m Z f g)(hf:∀i k,f i k=f k i)(hg:∀i k,g i k=g k i)(s:Nat):(dB m f s).length<=(dB m g s).length:=by
 have key:∀K∈dB m f s,(η m).filter _∈dB m g s:=λK hK=>by
  obtain⟨-,P,c1,c2,c3⟩:=zC hf s K hK;have e:(η m).filter (λx=>decide _)=(η m).filter λx=>P _:=Si λx _=>by
   by_cases q:Z x∈K
   ·rw[decide_eq_true q,(c3 _).mpr q]
   ·rw[decide_eq_false q];cases hp:P _ with
    |false=>rfl
    |true=>exact absurd ((c3 _).mp hp) q
  have hl:((η m).filter λx=>P (Z x)).length=s:=by rw[<-U8,h.cnt,c2]
  have:=adx (h.F1 c1) s ∅
  rw[T7 ∅]at this
  rwa[e]
 have nd:((dB m f s).map λK=>(η m).filter λx=>decide (Z x∈K)).Nodup:=by
  refine Sa.mpr (Uv (fun{K Θ} hK hL hne e=>hne ?_) (Nl m f s))
  refine IA (Ef hf s K hK).1 (Ef hf s Θ hL).1 λy=>?_
  have lt:∀K∈dB m f s,∀y∈K,y<m:=λK hK y hy=>((zC hf s K hK).1 y hy).2
  have one:∀K Θ:List Nat,(η m).filter (λx=>decide (Z x∈K))=(η m).filter (λx=>decide (Z x∈Θ))->y<m->y∈K->y∈Θ:=λK Θ e hy hK=>by
   obtain⟨a,ha,rfl⟩:=h.yP hy;have:a∈(η m).filter λx=>decide (Z x∈K):=R0.mpr ⟨dD.mpr ha,by simpa using hK⟩
   rw[e]at this
   simpa using(R0.mp this).2
  exact⟨λhy=>one K Θ e (lt K hK y hy) hy,λhy=>one Θ K e.symm (lt Θ hL y hy) hy⟩
 have:=nd.length_le_of_subset λx hx=>by
  obtain⟨K,hK,rfl⟩:=AP.mp hx;exact key K hK
 simpa using this
theorem Nk{f g:Nat->Nat->Bool}(h:bY m f g t)(hf:bO f)(hg:bO g)(s:Nat):(dB m f s).length=(dB m g s).length :=
 Vm (Nm (m7 (qp h)) hf.sy hg.sy s) (Nm (m7 h) hg.sy hf.sy s)
theorem Cv{f:Nat->Nat->Bool}(h:bO f):gU f:=⟨h.ir,h.sy⟩
theorem Ij{g:Nat->Nat->Bool}(hs:∀i k,g i k=g k i)(hm:m<=12):∀k,(dN m g k).length<=12^k
 |0=>by simp[dN]
 |k+1=>by
  rw[Cs,XC];have h1:=CG (l:=(dN m g k).map λl=>(stp g l).length) (m:=12) λx hx=>by
   obtain⟨l,hl,rfl⟩:=AP.mp hx;have:=(Ii hs hl).2;simp[stp];omega
  rw[P0]at h1;exact R9 h1 (Nat.mul_le_mul_right 12 (Ij hs hm k))
theorem Eg{f:Nat->Nat->Bool}(hf:bO f)(h1:1<=m)(hm:m<=12)(s1:s<4)(c:aa):g5 [aA (wF m f),.int ((s+1:Nat):Int)] c=.ok (.int ((dB m f (s+1)).length:Nat)) c :=
 ZO (Cv hf) h1 ∅ (λk hk=>R9 (Ij hf.sy hm k) (R9 (VE ⋯ (show k<=3 by omega)) ⋯)) ∅ c
theorem abL{f g:Nat->Nat->Bool}(h:bY m f g t)(hf:bO f)(hg:bO g)(h1:1<=m)(hm:m<=12)(c:aa):∃n:Nat,kc [aA (wF m f)] c=.ok ↥n c/\kc [aA (wF m g)] c=.ok ↥n c:=by
 obtain⟨n,a1,a2⟩:=Nj (Cv hf) h1 ∅ c
 obtain⟨k,b1,b2⟩:=Nj (Cv hg) h1 ∅ c
 rw[<-abJ h a1 b1]at b2;exact⟨n,a2,b2⟩
def tX(m:Nat)(f q:Nat->Nat->Bool):Option Nat->Prop
 |none=>∀i j,i<m->j<m->i≠j->q i j=ξ
 |some n=>(∃i j,i<m/\j<m/\i≠j/\q i j=J)/\∀i j,i<m->j<m->i≠j->q i j=J->i7 m f i j=n
structure BQ (m:Nat) (f:Nat->Nat->Bool) (k:Nat) (a b:Option Nat):Prop where
 tR:∀p,p<m->ie m f p=k
 nr:tX m f f a
 fr:tX m f (nX f) b
theorem Mv.JB{Z:Nat->Nat}{f g q r:Nat->Nat->Bool}(h:Mv m Z f g)(hq:∀i j,i<m->j<m->r i j=q (Z i) (Z j)):∀{o:Option Nat},tX m f q o->tX m g r o
 |none,H=>λi j hi hj hne=>by rw[hq i j hi hj];exact H _ _ (h.lt i hi) (h.lt j hj) λe=>hne (h.inj hi hj e)
 |some n,⟨⟨p,q',hp,hq',hne,e⟩,H⟩=>by
  refine⟨?_,λi j hi hj hne e=>?_⟩
  ·obtain⟨a,ha,rfl⟩:=h.yP hp;obtain⟨b,hb,rfl⟩:=h.yP hq';exact⟨a,b,ha,hb,λz=>hne (by rw[z]),by rw[hq a b ha hb];exact e⟩
  ·rw[h.cs hi hj];exact H _ _ (h.lt i hi) (h.lt j hj) (λe=>hne (h.inj hi hj e)) (by rw[<-hq i j hi hj];exact e)
theorem Mv.Po{Z:Nat->Nat}{f g:Nat->Nat->Bool}(h:Mv m Z f g)(H:BQ m f k a b):BQ m g k a b :=
 ⟨λp hp=>by rw[h.tR hp];exact H.tR _ (h.lt p hp),h.JB h.eq H.nr,h.JB (λi j hi hj=>by unfold nX;rw[h.eq i j hi hj]) H.fr⟩
theorem Jz{f q:Nat->Nat->Bool}(hs:∀i k,q i k=q k i):∀{o:Option Nat},tX m f q o->iy (wF m f) (dX m q)=U/\lg (wF m f) (dX m q)=o
 |none,H=>by
  have e:dX m q=[]:=List.eq_nil_iff_forall_not_mem.mpr λp hp=>by
   obtain⟨h1,h2,h3⟩:=qg.mp hp;rw[H p.1 p.2 ∅ h2 ∅]at h3
   cases h3
  rw[e];exact⟨rfl,rfl⟩
 |some n,⟨hn,H⟩=>by
  have hA:∀p∈dX m q,i7 m f p.1 p.2=n:=λp hp=>by
   obtain⟨h1,h2,h3⟩:=qg.mp hp;exact H p.1 p.2 ∅ h2 ∅ h3
  exact⟨ag9 hA,aif hA (Ly hs hn)⟩
theorem ac0(m:Nat)(f:Nat->Nat->Bool)(i j:Nat):i7 m f i j=i7 m f j i:=by
 unfold i7
 congr 2
 funext k
 exact Uy _ _
theorem JA{f q:Nat->Nat->Bool}(hs:∀i k,q i k=q k i)(h:iy (wF m f) (dX m q)=U):∃o,tX m f q o:=by
 cases hp:dX m q with
 |nil =>
  refine⟨U,λi j hi hj hne=>?_⟩
  cases e:q i j with
  |false=>rfl
  |true=>exact absurd hp (Ly hs ⟨i,j,hi,hj,hne,e⟩)
 |cons p ps =>
  rw[hp]at h;have h:jV _ (gK _ p) (p::ps)=U:=h;unfold jV at h;rw[TL]at h;have hc:∀x∈dX m q,i7 m f x.1 x.2=gK _ p:=λx hx=>by
   have:=h x (by rw[<-hp];exact hx)
   rw[<-FU f (rY x hx).1 (rY x hx).2]
   simpa using this
  obtain⟨a1,a2,a3⟩:=qg.mp (by rw[hp];exact .head _)
  refine⟨O (gK (wF m f) p),⟨p.1,p.2,∅,a2,∅,a3⟩,λi j hi hj hne e=>?_⟩
  rcases XE hne with r|r
  ·exact hc (i,j) (qg.mpr ⟨r,hj,e⟩)
  ·rw[ac0];exact hc (j,i) (qg.mpr ⟨r,hi,by show q j i=J;rw[hs];exact e⟩)
theorem L6{f:Nat->Nat->Bool}(hs:∀i k,f i k=f k i)(i k:Nat):nX f i k=nX f k i:=by unfold nX;rw[hs]
theorem Fw{f:Nat->Nat->Bool}(hs:∀i k,f i k=f k i)(h0:0<m)(h:BQ m f k a b):jG (wF m f)=.tup [.str "even",.tup [.int (m:Nat),.int (k:Nat),dY a,dY b]]:=by
 obtain⟨u1,u2⟩:=Jz hs h.nr;obtain⟨v1,v2⟩:=Jz (L6 hs) h.fr;unfold jG;rw[acW h.tR h0,yd,Pk,u1,u2,v1,v2,fT,rA f h0,FL,h.tR 0 h0]
theorem Pq{f:Nat->Nat->Bool}(hs:∀i k,f i k=f k i)(h0:0<m):(∃k a b,BQ m f k a b)\/∃(w:Str) (Θ:List D),jG (wF m f)=.tup (.str w::Θ)/\(w="place"\/w="tied"\/w="apart"):=by
 cases hp:mL (wF m f)with
 |some i=>exact .inr ⟨"place",_,by unfold jG;rw[hp],.inl rfl⟩
 |none =>
  cases hn:iy (wF m f) (dX m f)with
  |some p=>exact .inr ⟨"tied",_,by unfold jG;rw[hp,yd,hn],.inr (.inl rfl)⟩
  |none =>
   cases hf:iy (wF m f) (dX m (nX f))with
   |some p=>exact .inr ⟨"apart",_,by unfold jG;rw[hp,yd,Pk,hn,hf],.inr (.inr rfl)⟩
   |none =>
    obtain⟨a,ha⟩:=JA hs hn;obtain⟨b,hb⟩:=JA (L6 hs) hf;rw[Lc f h0,TL]at hp;exact .inl ⟨ie m f 0,a,b,λp h=>by simpa using hp p (dD.mpr h),ha,hb⟩
theorem Pp{f g:Nat->Nat->Bool}(h:bY m f g t)(hf:bO f)(hg:bO g)(h0:0<m):(∃(k:Nat) (a b:Option Nat),jG (wF m f)=.tup [.str "even",.tup [.int (m:Nat),.int (k:Nat),dY a,dY b]]/\jG (wF m g)=.tup [.str "even",.tup [.int (m:Nat),.int (k:Nat),dY a,dY b]]) \/
  ∃(v w:Str) (Θ K:List D),jG (wF m f)=.tup (.str v::Θ)/\jG (wF m g)=.tup (.str w::K)/\(v="place"\/v="tied"\/v="apart")/\(w="place"\/w="tied"\/w="apart"):=by
 rcases Pq hf.sy h0 with⟨k,a,b,H⟩|⟨v,Θ,e1,e2⟩
 ·exact .inl ⟨k,a,b,Fw hf.sy h0 H,Fw hg.sy h0 ((m7 (qp h)).Po H)⟩
 ·rcases Pq hg.sy h0 with⟨k,a,b,H⟩|⟨w,K,e3,e4⟩
  ·have:=Fw hf.sy h0 ((m7 h).Po H);rw[e1]at this
   injection this with e
   injection e with e _
   injection e with e
   subst e
   rcases e2 with e2|e2|e2<;>exact absurd e2 ⋯
  ·exact .inr ⟨v,w,Θ,K,e1,e3,e2,e4⟩
theorem akr(h0:0<=i)(h1:i<=q-1)(c:aa):sL [.int i,.int q] c=.ok (.bl J) c:=by
 have hw:zv [.int i] c=.ok (.bl J) c:=by simp[zv,Bv]
 simp[sL,Bw,DV,Bu,hw,h0,h1]
theorem QI{α:Type}(l:List α)(cc:aa):kB [.lst (l.map λ_=>D.bl J)] cc=.ok (.bl J) cc:=by
 have:(l.map λ_=>D.bl J)=(l.map λ_=>J).map D.bl:=by rw[R3];rfl
 unfold kB p7;dsimp only;rw[this,Gb];simp
theorem CQ(h:d e c=.ok (.tup l) c):e9 d e c=.ok ⟨l,λ_=>True⟩ c:=by
 rw[Ib,h];rfl
theorem aj7{os:List Nat}(h:os.Perm (η m))(hm:m<60)(cc:aa):zw [.tup (nD os),.int (m:Int)] cc=.ok (.bl J) cc:=by
 have hs:=cZ (n:=1000) ⋯
 have hl:=eU h;have lt:∀x∈os,x<m:=λx hx=>dD.mp (h.mem_iff.mp hx)
 have hn:kK cc (.tup (nD os))=O os:=Mz (by
  have:=zd (zc (rC os)) (λx hx=>sD.mp hx)
  omega) λx hx=>by have:=lt x hx;omega
 have hk:(fh os).length=m:=by
  have h1:os.Perm (fh os):=(Tr (h.nodup_iff.mpr Ru) (zc (rC os))).mpr λx=>sD.symm
  rw[<-h1.length_eq,hl]
 have hc:=kN (E:=[O ↥m]) (a:=aB 2 sL (0⊂1)) (c:=cc) (λx:Nat=>D.int (x:Int)) (λ_:Nat=>D.bl J) os (λx hx=>by
  have:=lt x hx;exact dR (x:=.int (x:Int)) (y:=.int (m:Int)) rfl rfl (akr ∅ ∅ cc))
 have hN:(nD os).length=m:=by simp[nD,hl]
 have hL:aR [.tup (nD os)] cc=.ok ↥m cc:=by rw[<-hN];rfl
 have hi:cL [.tup (nD os),.ty "tuple"] cc=.ok (.bl J) cc:=rfl;rw[show(os.map λx:Nat=>D.int (x:Int))=nD os from rfl]at hc
 have hq:e9 (ak 0) [O (.tup (nD os)),O ↥m] cc=.ok ⟨nD os,λ_=>True⟩ cc:=CQ rfl
 have hv:tS ⇑0 [O (.tup (nD os)),O ↥m] cc=.ok ↥m cc:=by
  unfold tS;simp only[cY,dj,gz,cU,R.aN,hn,hk]
 generalize nD os=xs at *
 generalize hX:D.tup xs=X at hL hi hq hv ⊢
 have t1:eF (aG (aJ cL (ao (ak 0) (ao (dC (.ty "tuple")) aq)))) [O X,O ↥m] cc=.ok (!true) cc:=by
  refine mS (pB ?_);have v:ak 0 [O X,O ↥m] cc=.ok X cc:=rfl;rw[rq];simp only[cY,v,jU,cU,R.aN];exact hi
 have t2:aG (av cz (aJ aR ⇑0) (ak 1)) [O X,O ↥m] cc=.ok ξ cc:=by
  refine cO (aZ (ck (x:=X) rfl hL) (y:=.int (m:Int)) rfl ?_);rw[Ck];simp
 have t3:aP (pe (aJ kB (ao (aU (e9 (ak 0)) [U,O 1] (aC 0) aY (aB 2 sL (0⊂1))) aq)) (av cE (tS ⇑0) (ak 1))) [O X,O ↥m] cc=.ok (.rt (.bl J)) cc:=by
  refine dU ?_;have a2:av cE (tS ⇑0) (ak 1) [O X,O ↥m] cc=.ok (.bl J) cc:=by
   refine aZ hv (y:=.int (m:Int)) rfl ?_;rw[xV];simp
  rw[ahw,(ck (fN hq ∅ hc) (QI os cc))]
  simp only[R.aN];rw[if_pos trivial,a2]
 refine dW (c:=cc) (n:=2) (b:=Bx) (xs:=[X,.int (m:Int)]) ?_ rfl (by simp)
 exact bP (gj (qb t1 t2) rfl) t3
theorem Zq{f g:Nat->Nat->Bool}{os:List Nat}(h:bY m f g os)(hp:p<m):iW (((bu m f p).map (aE os)).map λn:Nat=>(n:Int))=(bu m g (aE os p)).map λn:Nat=>(n:Int):=by
 have mn:∀{f:Nat->Nat->Bool}{p k:Nat},k∈bu m f p↔k<m/\f p k=J:=fun{f p k}=>by unfold bu;rw[R0,dD]
 have YF:((bu m f p).map (aE os)).Nodup:=by
  unfold ψ;rw[Sa];refine Uv (fun{a b} ha hb hab e=>hab ?_) (Sk (λk=>f p k) Ru)
  exact ju h.pm (mn.mp ha).1 (mn.mp hb).1 e
 have YE:(bu m g (aE os p)).Nodup:=Sk _ Ru;have pm:((bu m f p).map (aE os)).Perm (bu m g (aE os p)):=(Tr YF YE).mpr λr=>by
  rw[AP,mn]
  constructor
  ·rintro ⟨a,ha,rfl⟩
   obtain⟨a1,a2⟩:=mn.mp ha;exact⟨eH h.pm a1,by rw[<-h.eq p a hp a1];exact a2⟩
  ·rintro ⟨h1,h2⟩
   obtain⟨k,hk,rfl⟩:=(m7 h).yP h1;exact⟨k,mn.mpr ⟨hk,by rw[h.eq p k hp hk];exact h2⟩,rfl⟩
 refine yp ((oB _).trans (pm.map _)) (vL _) ?_;rw[Sa];exact(Sk _ UA).imp fun{a b} h=>∅
theorem Ek{os:List Nat}(h:i<os.length)(cc:aa):aH (.tup (nD os)) ↥i cc=.ok (.int (aE os i:Nat)) cc:=by
 rw[uf,ku (v:=.int (aE os i:Nat)) (by simp[nD,aE,Iv,h])]
theorem Zr{f g:Nat->Nat->Bool}{os:List Nat}{W:D}(hW:W=aA (wF m f))(hW':W'=aA (wF m g))(hT:T=.tup (nD os))(h:bY m f g os)(hm:m<60)(hp:p<m)(cc:aa):zx [W,W',T,.int (p:Int)] cc=.ok (.bl J) cc:=by
 have hs:=cZ (n:=1000) ⋯
 have hl:=eU h.pm;have hn:=za m f p;have i1:aH W ↥p cc=.ok (.tup (nD (bu m f p))) cc:=by rw[hW];exact um f hp cc
 have i2:aH T ↥p cc=.ok (.int (aE os p:Nat)) cc:=by rw[hT];exact Ek ∅ cc
 have i3:aH W' (.int (aE os p:Nat)) cc=.ok (.tup (nD (bu m g (aE os p)))) cc:=by rw[hW'];exact um g (eH h.pm hp) cc
 have hc:=kN (E:=[O T]) (a:=av aH (ak 1) (ak 0)) (c:=cc) (λx:Nat=>D.int (x:Int)) (λa:Nat=>D.int (aE os a:Nat)) (bu m f p) (λa ha=>aZ (x:=T) (y:=.int (a:Int)) rfl rfl (by rw[hT];exact Ek (by have:=Mk ha;omega) cc))
 have e1:((bu m f p).map λa:Nat=>D.int (aE os a:Nat))=(((bu m f p).map (aE os)).map λn:Nat=>(n:Int)).map D.int:=by simp
 rw[e1]at hc;have hz:(nD (bu m f p)).length<Ω:=by rw[lH];omega
 have hq:=CI (l:=((bu m f p).map (aE os)).map λn:Nat=>(n:Int)) (by simp;omega) cc
 rw[Zq h hp]at hq
 generalize (((bu m f p).map (aE os)).map λn:Nat=>(n:Int)).map D.int=L1 at hc hq
 rw[vf]at i3
 generalize hr:((bu m g (aE os p)).map λn:Nat=>(n:Int))=ms at hq i3
 generalize ((aE os p:Nat):Int)=r at i2 i3
 refine dW (c:=cc) (n:=4) (b:=By) (xs:=[W,W',T,.int (p:Int)]) ?_ rfl (by simp)
 refine dU (aZ (x:=.lst (ms.map D.int)) (y:=.lst (ms.map D.int)) (ck (fN (CQ (aZ (x:=W) (y:=.int (p:Int)) rfl rfl i1)) hz hc) hq) (ck (aZ (x:=W') (y:=.int r) rfl (aZ (x:=T) (y:=.int (p:Int)) rfl rfl i2) i3) rfl) ?_);rw[Fz];simp
theorem Zt{f g:Nat->Nat->Bool}{os:List Nat}{W:D}(hW:W=aA (wF m f))(hW':W'=aA (wF m g))(hT:T=.tup (nD os))(h:bY m f g os)(hm:m<60)(cc:aa):zo [W,W',T] cc=.ok (.bl J) cc:=by
 have l1:aR [W] cc=.ok ↥m cc:=by rw[hW,iV,fT]
 have l2:aR [W'] cc=.ok ↥m cc:=by rw[hW',iV,fT]
 have t1:aG (av cz (aJ aR ⇑0) (aJ aR ⇑1)) [O W,O W',O T] cc=.ok ξ cc:=by
  refine cO (aZ (ck (x:=W) rfl l1) (ck (x:=W') rfl l2) ?_);rw[Ck];simp
 have t2:eF (aG (aB 2 zw (ao (ak 2) (ao (aJ aR ⇑0) aq)))) [O W,O W',O T] cc=.ok (!true) cc:=mS (pB (dR (x:=T) rfl (ck (x:=W) rfl l1) (by rw[hT];exact aj7 h.pm hm cc)))
 have hc:=kN (E:=[O W,O W',O T]) (a:=aB 4 zx (ao (ak 1) (ao (ak 2) (3⊂0)))) (c:=cc) (λx:Nat=>D.int (x:Int)) (λ_:Nat=>D.bl J) (η m) (λp hp=>by
  have:=Zr hW hW' hT h hm (dD.mp hp) cc;simp only[x_call,cY,dj,gz,gs,cU,R.aN,RG,Tz,if_pos,this])
 rw[show((η m).map λx:Nat=>D.int (x:Int))=aV 0 (m:Int)from(mH m).symm]at hc
 refine dW (c:=cc) (n:=3) (b:=Bf) (xs:=[W,W',T]) ?_ rfl (by simp)
 exact bP (gj (qb t1 t2) rfl) (dU (ck (fN (mJ (ck (x:=W) rfl l1) ∅) (uJ hm) hc) (QI _ cc)))
theorem DK(i:Int)(cc:aa):cz (.int i) (.int i) cc=.ok (.bl ξ) cc:=by rw[Ck];simp
def Gw:ah:=(aD (aI 3 (aB 2 g5 (0⊂2))) (aD (aI 4 (aB 2 g5 (1⊂2))) (bx (aG (av cz (ak 3) (ak 4))) (aP (bX (ao (dC (.str "knots")) (ao (ak 2) (3⊂4))))) bJ)))
theorem aef:xu=aD (bT (fM (ao (dC (.int 1)) (ao (av bR (dC (.int 4)) (dC (.int 1))) aq))) (aC 2) Gw) (aD (aI 5 (aB 2 iE (0⊂1))) (aP (ni (aG (av g7 (ak 5) (dC .aF))) (bX (ao (dC (.str "none")) aq)) (bX (ao (dC (.str "order")) ⇑5))))):=rfl
theorem aee{W V:D}(h1:g5 [W,x] cc=.ok (.int a) cc)(h2:g5 [V,x] cc=.ok (.int a) cc)(v3 v4 v5:Option D):Gw [O W,O V,O x,v3,v4,v5] cc=.ok (.nx [O W,O V,O x,O (.int a),O (.int a),v5]) cc :=
 bP (cJ (dR (y:=x) rfl rfl h1)) (bP (cJ (dR (x:=V) rfl rfl h2)) (gj (cO (aZ rfl rfl (DK a cc))) rfl))
theorem aeg{W V:D}{os:List Nat}(hk:∀i:Nat,i<4->∃a:Int,g5 [W,.int (1+(i:Int))] cc=.ok (.int a) cc/\g5 [V,.int (1+(i:Int))] cc=.ok (.int a) cc)(ho:iE [W,V] cc=.ok (.tup (nD os)) cc):sN [W,V] cc=.ok (.tup [.str "order",.tup (nD os)]) cc:=by
 have hs:=cZ (n:=1000) ⋯
 obtain⟨e',c3,⟨v2,v3,v4,rfl,rfl⟩,hf⟩:=tN (g:=aC 2) (s:=Gw) (λk e c'=>∃v2 v3 v4,e=[O W,O V,v2,v3,v4,U]/\c'=cc) (aV 1 5) 0 [O W,O V,U,U,U,U] cc ⟨U,U,U,rfl,rfl⟩ (λi x hx e c' ⟨v2,v3,v4,he,hc⟩=>by
  subst he;subst hc;obtain⟨hi,hx⟩:=nO hx;subst hx;obtain⟨a,h1,h2⟩:=hk i ∅
  exact⟨_,_,_,_,rfl,aee h1 h2 v3 v4 U,_,_,_,rfl,rfl⟩)
 have nr:noRef (.tup (nD os))=J:=by unfold noRef;exact j7 os
 generalize hT:D.tup (nD os)=T at ho nr ⊢
 have t1:aG (av g7 (ak 5) (dC .aF)) [O W,O V,v2,v3,v4,O T] c3=.ok ξ c3:=cO (aZ (x:=T) (y:=.aF) rfl rfl (by rw[<-hT];rfl))
 have s2:aP (ni (aG (av g7 (ak 5) (dC .aF))) (bX (ao (dC (.str "none")) aq)) (bX (ao (dC (.str "order")) ⇑5))) [O W,O V,v2,v3,v4,O T] c3=.ok (.rt (.tup [.str "order",T])) c3:=by
  refine dU ?_;rw[Cm,t1];simp only[R.aN];rw[if_neg ⋯]
  exact ux rfl rfl
 refine dW (c:=c3) (n:=6) (b:=xu) (xs:=[W,V]) ?_ ?_ (by simp)
 ·rw[aef];exact bP (m9 rfl hf) (bP (cJ (dR (x:=W) (y:=V) rfl rfl ho)) s2)
 ·show(noRef (.str "order")&&(noRef T&&J))=J;rw[nr];rfl
theorem aed{f g:Nat->Nat->Bool}(h:bY m f g t)(hf:bO f)(hg:bO g)(h0:0<m)(hm:m<=12)(cc:aa):∃os,sN [aA (wF m f),aA (wF m g)] cc=.ok (.tup [.str "order",.tup (nD os)]) cc:=by
 rcases uz h0 hm hf hg cc with⟨_,h2⟩|⟨os,h1,_⟩
 ·exact absurd h (h2 t)
 ·refine⟨os,aeg (λi hi=>⟨((dB m f (i+1)).length:Nat),?_,?_⟩) h1⟩
  ·rw[show(1+(i:Int))=((i+1:Nat):Int) by omega]
   exact Eg hf h0 hm hi cc
  ·rw[show(1+(i:Int))=((i+1:Nat):Int) by omega,Nk h hf hg]
   exact Eg hg h0 hm hi cc
theorem aj9(f:Nat->Nat->Bool):gx (wF m f)=wF m (fD f):=by
 unfold gx;rw[fT];refine RV λi hi=>?_
 have hi:=dD.mp hi;unfold x8 bu;refine Si λj hj=>?_
 have hj:=dD.mp hj;have e:p9 (wF m f) i j = !f i j:=by
  unfold p9;rw[rA f hi,DJ f hj]
 rw[e];unfold fD
 congr 1
 by_cases q:i=j
 ·simp[q]
 ·simp[q,show ¬j=i from λz=>q z.symm]
theorem Dj(f:Nat->Nat->Bool)(hm:m<=12)(cc:aa):jd [aA (wF m f)] cc=.ok (aA (wF m (fD f))) cc:=by
 rw[<-aj9];exact Lz (by rw[fT];omega) cc
theorem DG(h:e8 cc x=O d)(hd:d.depth<=64)(he:PyData.eqv d d=J):jc x x cc=.ok (.bl ξ) cc:=by
 unfold jc;rw[h];dsimp only
 grind
theorem Yv(os:List Nat)(cc:aa):jc (.tup (nD os)) (.tup (nD os)) cc=.ok (.bl ξ) cc:=by
 have h:e8 cc (.tup (nD os))=O (.tuple ((os.map λn:Nat=>(n:Int)).map PyData.int)):=by
  rw[vf];show(match f6 _ with|some r=>O _|none=>U)=_
  rw[AN]
 refine DG h ?_ ?_
 ·have:=AL (os.map λn:Nat=>n)
  simp only[PyData.depth]at this ⊢;omega
 ·rw[PyData.eqv,Er];simp
theorem Yw(l:List Int)(cc:aa):jc (.lst (l.map D.int)) (.lst (l.map D.int)) cc=.ok (.bl ξ) cc:=by
 have h:e8 cc (.lst (l.map D.int))=O (.list (l.map PyData.int)):=by
  show(match f6 (l.map D.int)with|some r=>O (PyData.list r)|none=>U)=_
  rw[AN]
 have:=AL l;exact DG h ∅ (by rw[PyData.eqv,Er];simp)
theorem Yx(m k:Int)(a b:Option Nat)(cc:aa):jc (.tup [.str "even",.tup [.int m,.int k,dY a,dY b]]) (.tup [.str "even",.tup [.int m,.int k,dY a,dY b]]) cc=.ok (.bl ξ) cc:=by
 have key:∀x d,dM x=O d->d.depth<=1->PyData.eqv d d=J->∀y e,dM y=O e->e.depth<=1->PyData.eqv e e=J->jc (.tup [.str "even",.tup [.int m,.int k,x,y]]) (.tup [.str "even",.tup [.int m,.int k,x,y]]) cc=.ok (.bl ξ) cc:=λx d h1 h2 h3 y e h4 h5 h6=>by
  have h:e8 cc (.tup [.str "even",.tup [.int m,.int k,x,y]])=O (.tuple [.str "even",.tuple [.int m,.int k,d,e]]):=by
   show dM (.tup [.str "even",.tup [.int m,.int k,x,y]])=_;have so:PyData.strOk (Str.ofString "even")=J:=by decide +kernel
   simp[dM,f6,h1,h4,so]
  refine DG h ?_ ?_
  ·simp[PyData.depth,PyData.depthAll];omega
  ·simp[PyData.eqv,PyData.eqvAll,h3,h6]
 have o:∀a:Option Nat,∃d,dM (dY a)=O d/\d.depth<=1/\PyData.eqv d d=J:=λa=>by
  cases a with
  |none=>exact⟨_,rfl,by simp[PyData.depth],by simp[PyData.eqv]⟩
  |some n=>exact⟨_,rfl,by simp[PyData.depth],by simp[PyData.eqv]⟩
 obtain⟨d,d1,d2,d3⟩:=o a;obtain⟨e,e1,e2,e3⟩:=o b;exact key _ d d1 d2 d3 _ e e1 e2 e3
theorem abM{f g:Nat->Nat->Bool}{W V:D}(hW:W=aA (wF m f))(hV:V=aA (wF m g))(h:bY m f g t)(hf:bO f)(hg:bO g)(h0:0<m)(hm:m<=12)(cc:aa):∃n:Int,kc [W] cc=.ok (.int n) cc/\kc [V] cc=.ok (.int n) cc:=by
 subst hW;subst hV;obtain⟨n,h1,h2⟩:=abL h hf hg h0 hm cc;exact⟨n,h1,h2⟩
theorem Nn{f:Nat->Nat->Bool}{W:D}(hW:W=aA (wF m f))(hf:bO f)(h0:0<m)(hm:m<=12)(hp:fq [U,O i] e=[U,O W])(cc:aa):aU (fM (ao (dC (.int 1)) (ao (dC (.int 5)) aq))) [U,O i] (aC 0) aY (aB 2 g5 (1⊂0)) e cc=.ok (.lst (((η 4).map λs=>((dB m f (s+1)).length:Int)).map D.int)) cc:=by
 have hs:=cZ (n:=1000) ⋯
 have hc:=kN (E:=[O W]) (a:=aB 2 g5 (1⊂0)) (c:=cc) (λs:Nat=>D.int ((s+1:Nat):Int)) (λs:Nat=>D.int ((dB m f (s+1)).length:Int)) (η 4) (λs h=>by
  refine dR (x:=W) (y:=.int ((s+1:Nat):Int)) rfl rfl ?_;rw[hW];exact Eg hf h0 hm (dD.mp h) cc)
 rw[<-hp]at hc;rw[R3];exact fN (items:=aV 1 5) rfl (by show 4<Ω;omega) hc
theorem NB(x:D)(Θ:List D)(cc:aa):aH (.tup (x::Θ)) (.int 0) cc=.ok x cc:=by
 rw[uf,show(0:Int)=((0:Nat):Int)from rfl,ku (v:=x) rfl]
theorem AI{W:D}(hd:d e cc=.ok W cc)(h:fH [W] cc=.ok (.tup (.str w::Θ)) cc):av cE (av aH (aB 1 fH (ao d aq)) (dC (.int 0))) (dC (.str "even")) e cc=.ok (.bl (decide (w="even"))) cc :=
 aZ (x:=.str w) (y:=.str "even") (aZ (x:=.tup (.str w::Θ)) (y:=.int 0) (fQ hd h) rfl (NB _ _ cc)) rfl (ahy _ w _)
def eg(W V θ:D)(v w:Option D):Ev:=[O W,O V,O θ,v,w]
def r2:ah:=bx (jH (aG (av g7 (ak 3) (dC .aF))) (jH (aG (av g7 (ak 4) (dC .aF))) (aG (av cz (av aH (aB 2 sN (0⊂2)) (dC (.int 0))) (dC (.str "order")))))) (aP (dC (.bl ξ))) bJ
def r3:ah:=bx (eF (aG (aB 3 zo (ao (ak 0) (ao (ak 2) (ao (aJ eT (ao (aU (e9 (ak 3)) [U,O 4] (aC 0) aY (av aH (ak 1) (ak 0))) aq)) aq)))))) (aP (dC (.bl ξ))) bJ
def r4:ah:=bx (aG (av jc (aB 2 iE (ao (aB 1 jd ⇑0) (ao (aB 1 jd ⇑1) aq))) (ak 3))) (aP (dC (.bl ξ))) bJ
def r5:ah:=bx (aG (av cz (av cE (av aH (aB 1 fH ⇑0) (dC (.int 0))) (dC (.str "even"))) (av cE (av aH (aB 1 fH ⇑2) (dC (.int 0))) (dC (.str "even"))))) (aP (dC (.bl ξ))) bJ
def r6:ah:=bx (i6 (aG (av cE (av aH (aB 1 fH ⇑0) (dC (.int 0))) (dC (.str "even")))) (aG (av jc (aB 1 fH ⇑0) (aB 1 fH ⇑1)))) (aP (dC (.bl ξ))) bJ
def r7:ah:=bx (aG (av jc (aU (fM (ao (dC (.int 1)) (ao (dC (.int 5)) aq))) [U,O 0] (aC 0) aY (aB 2 g5 (1⊂0))) (aU (fM (ao (dC (.int 1)) (ao (dC (.int 5)) aq))) [U,O 2] (aC 0) aY (aB 2 g5 (1⊂0))))) (aP (dC (.bl ξ))) bJ
theorem ajf:xh=aD (aI 3 (aB 2 iE (0⊂1))) (aD (aI 4 (aB 2 iE (1⊂2))) (aD r2 (aD r3 (aD r4 (aD r5 (aD r6 (aD r7 (aP (av cE (aB 1 kc ⇑0) (aB 1 kc ⇑1)))))))))):=rfl
section
variable {m:Nat}{f g h:Nat->Nat->Bool}{W V θ T S:D}{os ts:List Nat}{cc:aa}
theorem akb(hS:S=.tup (nD os))(hT:T=.tup (nD ts))(ha:sN [W,θ] cc=.ok (.tup (.str "order"::a)) cc):r2 (eg W V θ (O S) (O T)) cc=.ok (.nx (eg W V θ (O S) (O T))) cc:=by
 have t1:aG (av g7 (ak 3) (dC .aF)) (eg W V θ (O S) (O T)) cc=.ok ξ cc:=cO (aZ (x:=S) (y:=.aF) rfl rfl (by simp_all))
 have t2:aG (av g7 (ak 4) (dC .aF)) (eg W V θ (O S) (O T)) cc=.ok ξ cc:=cO (aZ (x:=T) (y:=.aF) rfl rfl (by simp_all))
 exact gj (qb t1 (qb t2 (cO (aZ (x:=.str "order") (y:=.str "order") (aZ (x:=.tup (.str "order"::a)) (y:=.int 0) (dR (x:=W) (y:=θ) rfl rfl ha) rfl (NB _ _ cc)) rfl (by simp_all))))) rfl
theorem akc(hW:W=aA (wF m f))(hU:θ=aA (wF m h))(hS:S=.tup (nD os))(hT:T=.tup (nD ts))(i1:bY m f g os)(i2:bY m g h ts)(hm:m<60):r3 (eg W V θ (O S) (O T)) cc=.ok (.nx (eg W V θ (O S) (O T))) cc:=by
 have hs:=cZ (n:=1000) (by simp)
 have l1:=eU i1.pm;have l2:=eU i2.pm;have hc:=kN (E:=[O T]) (a:=av aH (ak 1) (ak 0)) (λx:Nat=>D.int x) _ os (λa ha=>aZ (y:=.int a) rfl rfl (by
  have:=dD.mp (i1.pm.mem_iff.mp ha);rw[hT];exact Ek ∅ cc))
 have e1:(os.map λa:Nat=>D.int (aE ts a:Nat))=nD (eG ts os):=by simp[eG]
 rw[e1]at hc;have hz:(nD os).length<Ω:=by grind
 have hl:=Zt hW hU rfl (oF i1 i2) hm cc
 generalize nD _=Θ at hc hl
 exact gj (mS (pB (jK (y:=θ) rfl rfl (ck (fN (CQ (by rw[hS];rfl)) hz hc) rfl) hl))) rfl
theorem akd(hS:S=.tup (nD os))(h1:jd [W] cc=.ok A cc)(h2:jd [V] cc=.ok B cc)(ho:iE [A,B] cc=.ok S cc):r4 (eg W V θ (O S) (O T)) cc=.ok (.nx (eg W V θ (O S) (O T))) cc :=
 gj (cO (aZ (y:=S) (dR (fQ (x:=W) rfl h1) (fQ (x:=V) rfl h2) ho) rfl (by rw[hS];exact Yv os cc))) rfl
theorem K4(h1:fH [W] cc=.ok (.tup (.str v::Θ)) cc)(h2:fH [θ] cc=.ok (.tup (.str w::K)) cc)(e:decide (v="even")=decide (w="even")):r5 (eg W V θ (O S) (O T)) cc=.ok (.nx (eg W V θ (O S) (O T))) cc:=by
 have a1:=AI (d:=ak 0) (e:=eg W V θ (O S) (O T)) rfl h1;have a2:=AI (d:=ak 2) (e:=eg W V θ (O S) (O T)) rfl h2;refine gj (cO (aZ a1 a2 ?_)) rfl;rw[e,ahn];simp
theorem ake(h1:fH [W] cc=.ok (.tup (.str v::Θ)) cc)(e:decide (v="even")=ξ):r6 (eg W V θ (O S) (O T)) cc=.ok (.nx (eg W V θ (O S) (O T))) cc:=by
 have a1:=AI (d:=ak 0) (e:=eg W V θ (O S) (O T)) rfl h1;rw[e]at a1;refine gj (c':=cc) ?_ rfl;rw[ug,cO a1];rfl
theorem akf{m k:Int}(h1:fH [W] cc=.ok (.tup [.str "even",.tup [.int m,.int k,dY a,dY b]]) cc)(h2:fH [V] cc=.ok (.tup [.str "even",.tup [.int m,.int k,dY a,dY b]]) cc):r6 (eg W V θ (O S) (O T)) cc=.ok (.nx (eg W V θ (O S) (O T))) cc:=by
 have a1:=AI (d:=ak 0) (e:=eg W V θ (O S) (O T)) rfl h1;have a3:=Yx m k a b cc
 generalize D.tup [.int m,.int k,dY a,dY b]=X at h1 h2 a3
 refine gj (c':=cc) ?_ rfl;rw[ug,cO a1];exact cO (aZ (fQ (x:=W) rfl h1) (fQ (x:=V) rfl h2) a3)
theorem akg(hW:W=aA (wF m f))(hU:θ=aA (wF m h))(i:bY m f h os)(hf:bO f)(hh:bO h)(h0:0<m)(hm:m<=12):r7 (eg W V θ (O S) (O T)) cc=.ok (.nx (eg W V θ (O S) (O T))) cc:=by
 have a1:=Nn hW hf h0 hm (i:=0) (e:=eg W V θ (O S) (O T)) rfl cc;have a2:=Nn hU hh h0 hm (i:=2) (e:=eg W V θ (O S) (O T)) rfl cc;rw[show((η 4).map λs=>((dB m h (s+1)).length:Int))=(η 4).map λs=>((dB m f (s+1)).length:Int)from RV λs _=>by rw[Nk i hf hh]]at a2
 exact gj (cO (aZ a1 a2 (Yw _ cc))) rfl
end
theorem Fy{f:Nat->Nat->Bool}(hf:bO f)(h0:0<m)(hm:m<=12)(cc:aa):fH [aA (wF m f)] cc=.ok (jG (wF m f)) cc:=acB (aau f ∅) (by rw[fT];exact h0) cc
theorem DC{v:Str}(h:v="place"\/v="tied"\/v="apart"):decide (v="even")=ξ:=by
 rcases h with rfl|rfl|rfl<;>decide
theorem aiR{f g h:Nat->Nat->Bool}(i1:bY m f g s)(i2:bY m g h t)(hf:bO f)(hg:bO g)(hh:bO h)(h0:0<m)(hm:m<=12){W V:D}(hW:W=aA (wF m f))(hV:V=aA (wF m g))(hU:θ=aA (wF m h))(cc:aa):zq [W,V,θ] cc=.ok (.bl J) cc:=by
 have i3:=oF i1 i2
 rcases uz h0 hm hf hg cc with⟨_,no⟩|⟨os,a1,a2⟩
 ·exact absurd i1 (no s)
 rcases uz h0 hm hg hh cc with⟨_,no⟩|⟨ts,b1,b2⟩
 ·exact absurd i2 (no t)
 obtain⟨as,ha⟩:=aed i3 hf hh h0 hm cc;have o1:=Dj f hm cc;have o2:=Dj g hm cc;have o3:=ah9 h0 hm hf hg cc;rw[a1]at o3;obtain⟨n,g1,g2⟩:=abM hW hV i1 hf hg h0 hm cc;have e1:=Fy hf h0 hm cc;have e2:=Fy hg h0 hm cc;have e3:=Fy hh h0 hm cc;have s1:=Pp i1 hf hg h0;have s3:=Pp i3 hf hh h0;rw[<-hW]at a1 ha o1 e1;rw[<-hV]at a1 b1 o2 e2;rw[<-hU]at b1 ha e3
 generalize aA (wF m (fD f))=A at o1 o3
 generalize aA (wF m (fD g))=B at o2 o3
 generalize hS:D.tup (nD os)=S at a1 o3
 generalize hT:D.tup (nD ts)=T at b1
 have q5:r5 (eg W V θ (O S) (O T)) cc=.ok (.nx (eg W V θ (O S) (O T))) cc:=by
  rcases s3 with⟨k,a,b,x1,x2⟩|⟨v,w,Θ,K,x1,x2,x3,x4⟩
  ·rw[x1]at e1;rw[x2]at e3;exact K4 e1 e3 rfl
  ·rw[x1]at e1;rw[x2]at e3;exact K4 e1 e3 (by rw[DC x3,DC x4])
 have q6:r6 (eg W V θ (O S) (O T)) cc=.ok (.nx (eg W V θ (O S) (O T))) cc:=by
  rcases s1 with⟨k,a,b,x1,x2⟩|⟨v,w,Θ,K,x1,x2,x3,x4⟩
  ·rw[x1]at e1;rw[x2]at e2;exact akf e1 e2
  ·rw[x1]at e1;exact ake e1 (DC x3)
 have z9:aP (av cE (aB 1 kc ⇑0) (aB 1 kc ⇑1)) (eg W V θ (O S) (O T)) cc=.ok (.rt (.bl J)) cc:=by
  refine dU (aZ (fQ (x:=W) rfl g1) (fQ (x:=V) rfl g2) ?_);rw[xV];simp
 refine dW (c:=cc) (n:=5) (b:=xh) (xs:=[W,V,θ]) ?_ rfl (by simp)
 rw[ajf];exact bP (cJ (dR (x:=W) (y:=V) rfl rfl a1)) (bP (cJ (dR (x:=V) (y:=θ) rfl rfl b1)) (bP (akb hS.symm hT.symm ha) (bP (akc hW hU hS.symm hT.symm a2.1 b2.1 ∅) (bP (akd hS.symm o1 o2 o3) (bP q5 (bP q6 (bP (akg hW hU i3 hf hh h0 hm) z9)))))))
theorem uh{f:Nat->Nat->Bool}(h:gU f):bO f:=⟨h.1,h.2⟩
theorem MB{os:List Nat}(hp:os.Perm (η m))(f:Nat->Nat->Bool):bY m f (eZ os f m 0) os:=⟨hp,λi j hi hj=>by
 have hl:=eU hp;have hn:os.Nodup:=hp.nodup_iff.mpr Ru;have g:∀i,i<m->os.idxOf (aE os i)=i:=λi hi=>by
  have e:aE os i=os[i]'∅:=by simp[aE,Iv,hl,hi]
  rw[e];exact Eu hn ∅
 unfold eZ;rw[g i hi,g j hj,if_pos (.inl hi),if_pos ∅]⟩
def o1:ah:=aI 2 (aB 1 sG (ao (aB 2 sH (0⊂1)) aq))
def o2:ah:=aI 3 (aB 2 sI (ao (ak 2) (ao (dC (.int 10)) aq)))
def o3:ah:=aI 4 (aJ aR ⇑3)
def o4:ah:=aI 5 (aB 2 n8 (ao (ak 3) (ao (aB 2 lK (2⊂4)) aq)))
def o5:ah:=aI 6 (aB 1 jy ⇑3)
def o6:ah:=bx (eF (aG (aB 3 zq (ao (ak 6) (ao (aB 1 jy ⇑5) (ao (aB 1 jy (ao (aB 2 n8 (ao (ak 5) (ao (aB 2 lK (2⊂4)) aq))) aq)) aq)))))) (aP (dC (.bl ξ))) bJ
def o7:ah:=bx (aG (av je (ak 4) (dC (.int 9)))) (aD (aI 7 (aB 1 gZ ⇑6)) (bx (jH (aG (av cz (aB 1 gZ (ao (aB 1 jd ⇑6) aq)) (ak 7))) (aG (av cz (aB 1 gZ (ao (aB 1 jy ⇑5) aq)) (ak 7)))) (aP (dC (.bl ξ))) bJ)) bJ
def yL:ah:=aD o1 (aD o2 (aD o3 (aD o4 (aD o5 (aD o6 o7)))))
theorem ZD:xo=aD (bT (bK (ao (aJ sE (ao (dC (.int 1)) (ao (aJ kM (ao (aJ aR ⇑0) (ao (dC (.int 6)) aq))) aq))) aq)) (aC 1) yL) (aP (dC (.bl J))):=rfl
def oE(S K:D)(v2 v3 v4 v5 v6 v7:Option D):Ev:=[O S,O K,v2,v3,v4,v5,v6,v7]
theorem Yb{m:Nat}{f g:Nat->Nat->Bool}{S K P A B R1 R2 X:D}{t:List Nat}(hi:bY m f g t)(hf:bO f)(hg:bO g)(h0:0<m)(hm:m<=10)(e1:R1=aA (wF m f))(e2:R2=aA (wF m g))(v7:Option D){c:aa}(hr:jy [B] c=.ok R2 c):∃w,o7 (oE S K (O P) (O A) (O ↥m) (O B) (O R1) v7) c=.ok (.nx (oE S K (O P) (O A) (O ↥m) (O B) (O R1) w)) c:=by
 have ht:aG (av je (ak 4) (dC (.int 9))) (oE S K (O P) (O A) (O ↥m) (O B) (O R1) v7) c=.ok (decide ((m:Int)<9)) c:=cO (aZ (x:=.int (m:Int)) rfl rfl rfl)
 by_cases q:(m:Int)<9
 ·rw[decide_eq_true q]at ht;obtain⟨Θ,_,a1⟩:=vn h0 hm hf c;have a2:=Za h0 hm hf c;have a3:=Zb h0 hm hf hg hi c;have a4:=Dj f (show m<=12 by omega) c
  rw[a1]at a2 a3;rw[<-e1]at a1 a4;rw[<-e2]at a3
  generalize aA (wF m (fD f))=C at a2 a4
  generalize ((Θ.length:Nat):Int)=n at a1 a2 a3
  have s1:aI 7 (aB 1 gZ ⇑6) (oE S K (O P) (O A) (O ↥m) (O B) (O R1) v7) c=.ok (.nx (oE S K (O P) (O A) (O ↥m) (O B) (O R1) (O (.int n)))) c:=cJ (fQ (x:=R1) rfl a1);have t1:aG (av cz (aB 1 gZ (ao (aB 1 jd ⇑6) aq)) (ak 7)) (oE S K (O P) (O A) (O ↥m) (O B) (O R1) (O (.int n))) c=.ok ξ c:=cO (aZ (y:=.int n) (fQ (fQ (x:=R1) rfl a4) a2) rfl (DK n c));have t2:aG (av cz (aB 1 gZ (ao (aB 1 jy ⇑5) aq)) (ak 7)) (oE S K (O P) (O A) (O ↥m) (O B) (O R1) (O (.int n))) c=.ok ξ c:=cO (aZ (y:=.int n) (fQ (fQ (x:=B) rfl hr) a3.symm) rfl (DK n c));exact⟨_,vN ht (bP s1 (gj (qb t1 t2) rfl))⟩
 ·rw[decide_eq_false q]at ht;exact⟨v7,gj ht rfl⟩
theorem ajS{ns:List Int}(i0:0<=i)(c:aa)(v2 v3 v4 v5 v6 v7:Option D):∃w2 w3 w4 w5 w6 w7 c',yL (oE (.bS ns) (.int i) v2 v3 v4 v5 v6 v7) c=.ok (.nx (oE (.bS ns) (.int i) w2 w3 w4 w5 w6 w7)) c':=by
 obtain⟨y,hy⟩:=ady ns i i0 c;obtain⟨p0,hp⟩:=aaU y c;have agD:dI c.length (c.length+1) (c++[.lst [.int p0]]):=⟨by simp,∅,p0,by simp⟩
 obtain⟨m,f,c1,h1,h2,hw,P1,t1⟩:=adZ (most:=10) agD ⋯ ⋯
 obtain⟨os,c2,lR,P2,t2⟩:=Dk (m:=m) P1 ∅
 obtain⟨ts,c3,ED,P3,t3⟩:=Dk (m:=m) P2 ∅
 have gQ:=DO hw (eU lR);have Ey:=DO gQ (eU ED);have m1:=DQ lR ∅ f c2
 have i1:=MB lR f
 generalize eZ os f m 0=g at gQ Ey m1 i1
 have m2:=DQ ED ∅ g c3
 have i2:=MB ED g
 generalize eZ ts g m 0=h at Ey m2 i2
 have r1:=C0 f (show m<1000 by omega) c2
 have r2:=λcc=>C0 g (show m<1000 by omega) cc
 have r3:=C0 h (show m<1000 by omega) c3
 rw[KN]at r1 r3;simp only[KN]at r2;have lA:aR [bC m f] c1=.ok ↥m c1:=len_tab m f c1
 generalize hW:aA (wF m f)=W at r1
 generalize hV:aA (wF m g)=V at r2
 generalize hU:aA (wF m h)=θ at r3
 have hR:=aiR i1 i2 (uh hw) (uh gQ) (uh Ey) ∅ ∅ hW.symm hV.symm hU.symm c3
 generalize bC m f=A at t1 m1 r1 lA
 generalize bC m g=B at m1 m2 r2
 generalize bC m h=C at m2 r3
 generalize D.tup (nD os)=ζ at t2 m1
 generalize D.tup (nD ts)=T at t3 m2
 have s1:o1 (oE (.bS ns) (.int i) v2 v3 v4 v5 v6 v7) c=.ok (.nx (oE (.bS ns) (.int i) (O (.ref c.length)) v3 v4 v5 v6 v7)) (c++[.lst [.int p0]]):=yt (F8 (tV (x:=.bS ns) (y:=.int i) rfl rfl hy) hp);have s2:o2 (oE (.bS ns) (.int i) (O (.ref c.length)) v3 v4 v5 v6 v7) (c++[.lst [.int p0]])=.ok (.nx (oE (.bS ns) (.int i) (O (.ref c.length)) (O A) v4 v5 v6 v7)) c1:=yt (tV (x:=.ref c.length) rfl rfl t1);have s3:o3 (oE (.bS ns) (.int i) (O (.ref c.length)) (O A) v4 v5 v6 v7) c1=.ok (.nx (oE (.bS ns) (.int i) (O (.ref c.length)) (O A) (O ↥m) v5 v6 v7)) c1:=cJ (ck (x:=A) rfl lA);have s4:o4 (oE (.bS ns) (.int i) (O (.ref c.length)) (O A) (O ↥m) v5 v6 v7) c1=.ok (.nx (oE (.bS ns) (.int i) (O (.ref c.length)) (O A) (O ↥m) (O B) v6 v7)) c2:=yt (tV (x:=A) (y:=ζ) rfl (tV (x:=.ref c.length) rfl rfl t2) m1);have s5:o5 (oE (.bS ns) (.int i) (O (.ref c.length)) (O A) (O ↥m) (O B) v6 v7) c2=.ok (.nx (oE (.bS ns) (.int i) (O (.ref c.length)) (O A) (O ↥m) (O B) (O W) v7)) c2:=cJ (fQ (x:=A) rfl r1);have s6:o6 (oE (.bS ns) (.int i) (O (.ref c.length)) (O A) (O ↥m) (O B) (O W) v7) c2=.ok (.nx (oE (.bS ns) (.int i) (O (.ref c.length)) (O A) (O ↥m) (O B) (O W) v7)) c3 :=
  gj (mS (b:=J) (pB (adT (x:=W) (y:=V) (z:=θ) rfl (F8 (x:=B) rfl (r2 c2)) (F8 (x:=C) (tV (x:=B) (y:=T) rfl (tV (x:=.ref c.length) rfl rfl t3) m2) r3) hR))) rfl
 obtain⟨w,s7⟩:=Yb (S:=.bS ns) (K:=.int i) (P:=.ref c.length) (A:=A) (B:=B) (X:=W) i1 (uh hw) (uh gQ) ∅ ∅ hW.symm hV.symm v7 (r2 c3)
 exact⟨_,_,_,_,_,_,c3,bP s1 (bP s2 (bP s3 (bP s4 (bP s5 (bP s6 s7)))))⟩
theorem ZC(ns:List Int)(_:ns.length<=63):∃c',vC [.bS ns] []=.ok (.bl J) c':=by
 have hsz:=cZ (n:=1000) ⋯
 generalize hm:(if(if(6:Int)<ns.length then(6:Int)else ns.length)>1 then(if(6:Int)<ns.length then(6:Int)else ns.length)else 1)=m
 have hb:-4611686018427387904<=m/\m<4611686018427387904:=by
  rw[<-hm];split<;>(try split)<;>omega
 obtain⟨e',c',⟨w1,w2,w3,w4,w5,w6,w7,rfl⟩,hf⟩:=O0 (g:=aC 1) (s:=yL)
  (λe=>∃w1 w2 w3 w4 w5 w6 w7,e=[O (.bS ns),w1,w2,w3,w4,w5,w6,w7]) (aV 0 m) [O (.bS ns),U,U,U,U,U,U,U] [] ⟨_,_,_,_,_,_,_,rfl⟩ (λt ht e c ⟨w1,w2,w3,w4,w5,w6,w7,he⟩=>by
   subst he;obtain⟨i,rfl,i0,i1⟩:=jw ht;obtain⟨x2,x3,x4,x5,agv,x7,c',ho⟩:=ajS (ns:=ns) i0 c w2 w3 w4 w5 w6 w7;exact⟨_,_,_,c',rfl,ho,⟨_,_,_,_,_,_,_,rfl⟩⟩)
 have hsr:(bK (ao (aJ sE (ao (dC (.int 1)) (ao (aJ kM (ao (aJ aR ⇑0) (ao (dC (.int 6)) aq))) aq))) aq)) [O (.bS ns),U,U,U,U,U,U,U] []=.ok ⟨aV 0 m,λ_=>True⟩ []:=by
  simp;simp only[gt_iff_lt]at hm;rw[hm,if_pos ∅]
 have e1:=m9 (g:=aC 1) (s:=yL) hsr hf;have es:bW 8 [D.bS ns]=[O (.bS ns),U,U,U,U,U,U,U]:=rfl;have hall:xo [O (.bS ns),U,U,U,U,U,U,U] []=.ok (.rt (.bl J)) c':=by
  rw[ZD];exact bP e1 (dU rfl)
 refine⟨[],?_⟩;rw[vC,iN,es,hall];simp[cD,noRef]
open PyProof.Rows
theorem all_mk{l:WX}{w:τ}{K:Ξ}{h:υ}{mg:Str->Option Δ}{fa:L}{wo Aq Ab kY Ax As Ar Au z5 wm zZ tO AD Ay z4 Az AB Av Aw Ad z8 z3 Ac AA wI wH wu AE wG wz kZ z6 z7 Aa AF Am Ai Ae Ak wC Af Al Aj wB wA Ao An Ag Ah wD:L}(X:K.In h)(G:h.Ns ι mg)(EN:mg "law"=O (.ref fa))
  (GC:FA K "tied_to" JM wo)
  (G8:FA K "later_tied_to" Kl Aq)
  (GP:FA K "many_knots" JX Ab)
  (Ho:FA K "greatest_among" yx kY)
  (Hl:FA K "greatest_knot" Ks Ax)
  (Hg:FA K "is_whole" Kn As)
  (G9:FA K "is_whole_within" Km Ar)
  (Hh:FA K "is_place" Ko Au)
  (GH:FA K "row_where" JQ z5)
  (GA:FA K "web_where" JK wm)
  (GB:FA K "ties" JL zZ)
  (GJ:FA K "other_web" yw tO)
  (Hx:FA K "common" KC AD)
  (Hq:FA K "first_unlike_place" Ku Ay)
  (GF:FA K "shared_by_all" JO z4)
  (Hr:FA K "first_unlike_pair" Kv Az)
  (Hw:FA K "evenness" KA AB)
  (Hi:FA K "is_order" Kq Av)
  (Hj:FA K "is_led" Kr Aw)
  (GR:FA K "leads" JZ Ad)
  (GN:FA K "moved_on" JV z8)
  (GD:FA K "side_by_side" JN z3)
  (GQ:FA K "look_of" JY Ac)
  (Hv:FA K "finer_colours" Kz AA)
  (Hz:FA K "are_shared" KG wI)
  (Hu:FA K "finest_colours" Ky wH)
  (GG:FA K "set_apart" JP wu)
  (Hy:FA K "are_twins" KD AE)
  (Ht:FA K "first_open" Kw wG)
  (GL:FA K "order_by" JU wz)
  (Hs:FA K "first_order" CY kZ)
  (GI:FA K "require_few" JR z6)
  (GK:FA K "order_to" JT z7)
  (GO:FA K "many_orders" JW Aa)
  (HA:FA K "alike" KH AF)
  (G4:FA K "_law_cell_at" Ke Am)
  (GY:FA K "_law_pot" J9 Ai)
  (GU:FA K "_law_take" J5 Ae)
  (G0:FA K "_law_order" Kc Ak)
  (G3:FA K "_law_joined" CW wC)
  (GV:FA K "_law_scattered" J6 Af)
  (G1:FA K "_law_near" Kd Al)
  (GZ:FA K "_law_plain" Ka Aj)
  (G2:FA K "_law_moved" CV wB)
  (GS:FA K "_law_toggled" CU wA)
  (G6:FA K "_law_about" Kg Ao)
  (G5:FA K "_law_built" Kf An)
  (GW:FA K "_law_rows" J7 Ag)
  (GX:FA K "_law_right" J8 Ah)
  (G7:FA K "law" Kh wD)
  (B8:π K ι "all"=O U)
  (B7:π K ι "any"=O U)
  (B6:π K ι "bool"=O U)
  (B5:π K ι "enumerate"=O U)
  (B4:π K ι "int"=O U)
  (B3:π K ι "isinstance"=O U)
  (B0:π K ι "len"=O U)
  (BZ:π K ι "list"=O U)
  (BY:π K ι "max"=O U)
  (BX:π K ι "min"=O U)
  (BW:π K ι "range"=O U)
  (BV:π K ι "set"=O U)
  (BU:π K ι "sorted"=O U)
  (BS:π K ι "sum"=O U)
  (BR:π K ι "tuple"=O U)
  {uC:Tok}(Cb:π K ι "MOST_EVEN_LED"=O (O (.int 28 uC)))
  {uF:Tok}(Ce:π K ι "GREATEST_SIZE"=O (O (.int 4 uF)))
  {uA:Tok}(B9:π K ι "MOST_SEARCHED"=O (O (.int 25 uA)))
  {uB:Tok}(Ca:π K ι "MOST_LED"=O (O (.int 12 uB)))
  {uE:Tok}(Cd:π K ι "MOST_COUNTED"=O (O (.int 10 uE)))
  {uD:Tok}(Cc:π K ι "MOST_EVEN_COUNTED"=O (O (.int 16 uD)))
  {nK nG:L}(pQ:PySem.W.tabIn K "greatest_among"=O (nK,nG)) (rG:PySem.W.codeHdIn K nK nG=J)
  {nJ nF:L}(pP:PySem.W.tabIn K "other_web"=O (nJ,nF)) (rF:PySem.W.codeHdIn K nJ nF=J)
  (pR:rH K=J)
  : ∃fd:RK,(∀(s:Ψ) (v:Δ),Tc s fd ⟨[v],[]⟩ [("script",v)])/\∀base:υ,K.In base->base.Ns ι mg->eO l.prog w K mg base dJ 24 fa fd ["script"] (fk K 1 vC):=by
 let T:Tx K mg:={
  wo:=bQ X G GC,
  Aq:=bQ X G G8,
  Ab:=bQ X G GP,
  kY:=bQ X G Ho,
  Ax:=bQ X G Hl,
  As:=bQ X G Hg,
  Ar:=bQ X G G9,
  Au:=bQ X G Hh,
  z5:=bQ X G GH,
  wm:=bQ X G GA,
  zZ:=bQ X G GB,
  tO:=bQ X G GJ,
  AD:=bQ X G Hx,
  Ay:=bQ X G Hq,
  z4:=bQ X G GF,
  Az:=bQ X G Hr,
  AB:=bQ X G Hw,
  Av:=bQ X G Hi,
  Aw:=bQ X G Hj,
  Ad:=bQ X G GR,
  z8:=bQ X G GN,
  z3:=bQ X G GD,
  Ac:=bQ X G GQ,
  AA:=bQ X G Hv,
  wI:=bQ X G Hz,
  wH:=bQ X G Hu,
  wu:=bQ X G GG,
  AE:=bQ X G Hy,
  wG:=bQ X G Ht,
  wz:=bQ X G GL,
  kZ:=bQ X G Hs,
  z6:=bQ X G GI,
  z7:=bQ X G GK,
  Aa:=bQ X G GO,
  AF:=bQ X G HA,
  Am:=bQ X G G4,
  Ai:=bQ X G GY,
  Ae:=bQ X G GU,
  Ak:=bQ X G G0,
  wC:=bQ X G G3,
  Af:=bQ X G GV,
  Al:=bQ X G G1,
  Aj:=bQ X G GZ,
  wB:=bQ X G G2,
  wA:=bQ X G GS,
  Ao:=bQ X G G6,
  An:=bQ X G G5,
  Ag:=bQ X G GW,
  Ah:=bQ X G GX,
  wD:=bQ X G G7,
  zh:=Ro X G B8,
  Mw:=Ro X G B7,
  Mu:=Ro X G B6,
  ve:=Ro X G B5,
  Mt:=Ro X G B4,
  zg:=Ro X G B3,
  cg:=Ro X G B0,
  vd:=Ro X G BZ,
  vc:=Ro X G BY,
  nY:=Ro X G BX,
  b8:=Ro X G BW,
  su:=Ro X G BV,
  sj:=Ro X G BU,
  Ms:=Ro X G BS,
  j8:=Ro X G BR,
  uC:=uC,Fe:=T5 X G Cb,
  uF:=uF,OJ:=T5 X G Ce,
  uA:=uA,OG:=T5 X G B9,
  uB:=uB,Fd:=T5 X G Ca,
  uE:=uE,OI:=T5 X G Cd,
  uD:=uD,OH:=T5 X G Cc,
  nK:=nK,nG:=nG,pQ:=pQ,rG:=rG,
  nJ:=nJ,nF:=nF,pP:=pP,rF:=rF,
  pR:=pR}
 exact Zz T.wD EN λbase=>alV T
theorem walk{l:WX}{q:ν}{loose:List Str}{XP:(Str->Option Δ)->υ->Prop}{YP:τ->υ->Prop}{d:DefRec}{K:Params->Ξ}{ts:List (L×L)}(hn:l.most=O 63)(hdf:d.params.defaults=[])
  (hY:∀(w:τ) (h:υ),YP w h->(K w.params).In h/\∀q∈ts,h.get? q.2=O (PySem.W.tabObj #[]))
  (hK:∀p,(ts.all λq=>PySem.W.codeHdIn (K p) q.1 q.2)=J/\PySem.W.noTabs (K p)=J/\CB (K p) ts=J)
  (F:∀(w:τ) (mg:Str->Option Δ) (fa:L) (h:υ),(K w.params).In h->h.Ns ι mg->mg d.name=O (.ref fa) ->
   ∃fd:RK,(∀(s:Ψ) (u:Δ),Tc s fd ⟨[u],[]⟩ [("script",u)])/\∀base:υ,(K w.params).In base->base.Ns ι mg->eO l.prog w (K w.params) mg base dJ 24 fa fd ["script"] (fk (K w.params) 1 vC)) :
  PySem.W.WalkO q loose XP YP l.row.toRowW d [] (λf vs=>PySem.call f vs) :=
 L2.agV (n:=63) (k:=24) (x:="script") hn ⋯ hdf ⟨rfl,⋯,⋯⟩ hY hK F ZC
end Ev
namespace PySem.W.Fast
def tw7258257096629242587:=0
def tw5312629104791608747:=0
def tw10777523181771707127:=0
def tw3854025035183195942:=0
def tw17919967539048405163:=0
def tw15507744054237645255:=0
def tw10205882953439215374:=0
def tw17173171455045732134:=0
def tw13307850676327277047:=0
def tw4731981620393003999:=0
def tw17864991436316004247:=0
def tw3961069048169423124:=0
def tw12979196008741121588:=0
def tw16002397709513880569:=0
def tw14975610582319539911:=0
def tw17369247908050734919:=0
def tw2322269602413735745:=0
def tw7674290609832436347:=0
def tw4460150151850408618:=0
def tw6466546380925071559:=0
def tw6188160608000529578:=0
def tw7683435188053604902:=0
def tw5047106276331477009:=0
def tw11276578852242626523:=0
def tw18434816212468177802:=0
def tw9017131818275911371:=0
def tw1976814303190428863:=0
def tw11200693073187854327:=0
def tw135050684630426578:=0
def tw16753181035470801007:=0
def tw17230673367333634176:=0
def tw1390491867919780763:=0
def tw13843548710573272653:=0
def tw18437067227698965697:=0
def tw11272382072332701540:=0
def tw6081312715927558391:=0
def tw15304056174156548700:=0
def tw12104539796007986838:=0
def tw11772326763211529527:=0
def tw1207288593509578797:=0
def tw10690300588198272447:=0
def tw6957177113461067617:=0
def tw16160368313671380615:=0
def tw17172392037038184346:=0
def tw16908753088661676136:=0
def tw13004765151207678486:=0
def tw12547582667732681153:=0
def tw5724151798192820493:=0
def tw3061595462403341355:=0
def tw11257942184811444899:=0
def tw8480788068984739708:=0
def tw9592424096624927104:=0
def tw1092499340105149960:=0
def tw1586340179713009459:=0
def tw17448123108072725256:=0
def tw1550490425376113942:=0
def tw2590757640098011343:=0
def tw16123711430829489654:=0
def tw8913762246809244612:=0
def tw7320039435013569604:=0
def tw18305113625679482161:=0
def tw5493490811967709698:=0
def tw11231171253519795426:=0
def tw16483014310277211460:=0
def tw1040383843445603516:=0
def tw3496599927082625768:=0
def tw12155143432372826824:=0
def tw664492586517612919:=0
def tw5962648099965100351:=0
def tw450153326088049271:=0
def tw1334652558264849845:=0
def tw12809224928680778510:=0
def tw1947112907385413253:=0
def tw7586135914728404039:=0
def tw9862574525915838108:=0
def tw11964431076571709408:=0
def tw4392943328949418738:=0
def tw17683753400673374094:=0
def tw11305693861290108952:=0
def tw18043722168732309415:=0
def tw15808756147728928617:=0
def tw13721929354342013412:=0
def tw2259658007715076390:=0
def tw6607050670391313727:=0
def tw10613543489622858400:=0
def tw10319792858875866096:=0
def tw15255685309400506824:=0
def tw6248131038093856237:=0
def tw13635177026920913334:=0
def tw13987145176320148598:=0
def tw14392658571508090680:=0
def tw9061937672805158528:=0
def tw15957196733418218237:=0
def tw15931233009509241004:=0
def tw2422147778874850482:=0
def tw7925515176113389959:=0
def tw7498631761604351510:=0
def tw16936908088856065110:=0
def tw1940671776245964536:=0
def tw15074440751984998410:=0
def tw9565306599585294629:=0
def tw9043538087929142810:=0
def tw13930586472293978842:=0
def tw11460186435924336822:=0
def tw6840502187552071242:=0
def tw294771740525439255:=0
def tw3246240967349234605:=0
def tw3378729671068518239:=0
def tw14604113748238397997:=0
end PySem.W.Fast
open PySem PySem.W PyProof.Rows
set_option maxRecDepth 100000 in
set_option maxHeartbeats 0 in
theorem PySem.Challenge.cw_evenwebs_k66_whole_orders_put_together_holds : PySem.Challenge.rw_evenwebs_k66_whole_orders_put_together.Holds := by
  w_on; o_law; k_head; (case hw => w_witness2)
  k_fill
  refine Ev.walk (l := PySem.Challenge.rw_evenwebs_k66_whole_orders_put_together) (ts := [(58, 56), (108, 104)]) rfl rfl (fun w h Y => ⟨PySem.W.km_in_of Y, X7.mpr ⟨X0 Y _ (by first | k_mem | decide), X7.mpr ⟨X0 Y _ (by first | k_mem | decide), fun _ h => nomatch h⟩⟩⟩) (fun p => ⟨by kernel_rfl, by kernel_rfl, by kernel_rfl⟩) ?F
  case F =>
    intro w mg fa h KX G hmg
    refine' Ev.all_mk (nK := 58) (nG := 56) (nJ := 108) (nF := 104) KX G hmg ?GC ?G8 ?GP ?Ho ?Hl ?Hg ?G9 ?Hh ?GH ?GA ?GB ?GJ ?Hx ?Hq ?GF ?Hr ?Hw ?Hi ?Hj ?GR ?GN ?GD ?GQ ?Hv ?Hz ?Hu ?GG ?Hy ?Ht ?GL ?Hs ?GI ?GK ?GO ?HA ?G4 ?GY ?GU ?G0 ?G3 ?GV ?G1 ?GZ ?G2 ?GS ?G6 ?G5 ?GW ?GX ?G7 ?B8 ?B7 ?B6 ?B5 ?B4 ?B3 ?B0 ?BZ ?BY ?BX ?BW ?BV ?BU ?BS ?BR ?Cb ?Ce ?B9 ?Ca ?Cd ?Cc ?pQ ?rG ?pP ?rF ?pR
    case GC | G8 | GP | Ho | Hl | Hg | G9 | Hh | GH | GA | GB | GJ | Hx | Hq | GF | Hr | Hw | Hi | Hj | GR | GN | GD | GQ | Hv | Hz | Hu | GG | Hy | Ht | GL | Hs | GI | GK | GO | HA | G4 | GY | GU | G0 | G3 | GV | G1 | GZ | G2 | GS | G6 | G5 | GW | GX | G7 =>
      apply L2.FA.mk
      k_is; k_is; k_is; k_is
    case B8|B7|B6|B5|B4|B3|B0|BZ|BY|BX|BW|BV|BU|BS|BR|Cb|Ce|B9|Ca|Cd|Cc=>k_is
    (case pQ => kernel_rfl)
    (case rG => kernel_rfl)
    (case pP => kernel_rfl)
    (case rF => kernel_rfl)
    (case pR => kernel_rfl)
