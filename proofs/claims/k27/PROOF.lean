import PyProof.Rows.All
import Wide.All
import OpenK.AllK
import Wide.FinOn
import Lean
import PyProof.EqAt
import PyProof.EqKinds
import PyProof.TupleCall
import PySem.Challenge.RW_evenwebs_k27_whole_webs_are_not_barred
import PyProof.P3In
import PyProof.EqLayable
import PyProof.SumAny
import PyProof.NoPylong
import PyProof.FitsBits
import PyProof.Rows.Range3
import PyProof.DictRoads
import PyProof.DictKinds
import PyProof.Rows.FactsT2
import KE.KRevIter
import PyProof.SetScanFacts
import PyProof.SetKind
import PyProof.Rows.SetFrom
import PyProof.Walks
import PyProof.DictValues
import PyProof.FactsAll.set_1
import PyProof.DictWalks
import KE.KDictSum
import PyProof.SetRoads
import PyProof.MeetsSeq2
import PyProof.WalksMore
import PyProof.AutoSeq1
import PyProof.ListRange
import PyProof.Rows.SortShell
import PyProof.TupleOfSeq
import KE.KLam
set_option Elab.async false
set_option linter.all false
set_option maxHeartbeats 4000000
set_option maxRecDepth 100000
set_option bootstrap.genMatcherCode false
set_option genSizeOfSpec false
set_option genSizeOf false
set_option compiler.extract_closed false
open PySem renaming wpAny_bind→bf,wpAny_pure→bg,boot_len→U5,wpAny_mono→UW,wpAny_holding→Ur,wpAny_field→Ut,codeAny_mono→V5,mem_of_lookup→VA,wpAny_setState_of→V8,wpAny_call_entry→VF,wpAny_seqItems→VE,wpAny_truthy_bool→VW,wpAny_askSetting→VP,codeAny_builtin→Vd,wpAny_passesOwn→W0,wpAny_pyIter_tuple→Vz,wpAny_pyIter_list→WK,sizeLine_eq→WJ,wpAny_call→WI,wpAny_Call_Name_kw→WH,call_meets→WC,wpAny_callSpecial?_slot→WB,wpAny_of_eq→W9,wpAny_setField_rec→W8,wpAny_isInstance→WX,wpAny_setField→Wq,sub_set_self→XF,wpAny_setEntries_of→XD,wpAny_execs_nil→Xe,wpAny_newObj_type→XY,wpAny_rule→XW,wpAny_onRaise→XU,wpAny_attempt→XT,wpAny_storeSet_of→Xv,codeAny_of_tree→Xq,isSubtype_type→Xp,wpAny_standAt→Z9,pushCells_keeps→ZG,wpAny_updateSeq_pair→Yb,wpAny_pyIter_zip→YZ,wpAny_pyIter_enum→YY,hashByValue_scannable→YH,plainId_quiet→YG,weight_type_call_type→YC,codeAny_call_builtin→YA,check_set_init_1→Z1,wpAny_runValue→Z0,entryFor_alias→Yz,wpAny_setEpoch_of→Yw,call_len_set→Yt,wpAny_pyNext_range_end→s8,wpAny_pyIter_rangeiter→r7,list_append→Zh,wpAny_comprehension_free→Zf,filterMap_getElem?_range→ZP,builtinLookup_eq_fast→ir
open Nat renaming le_refl→dD,ne_of_lt→T3,lt_of_lt_of_le→TY,le_trans→UK,zero_add→UM,lt_irrefl→Ui,ne_of_gt→Uh,succ_mul→Uv,lt_succ_self→Uu,zero_le→V9,mod_lt→V7,lt_of_le_of_lt→VH,lt_succ_of_lt→VG,le_of_lt→VX,le_of_eq→VU,sub_self→Vg,add_zero→Vu,le_succ→WD,le_add_right→WV,testBit_two_pow_sub_one→WT,div_lt_of_lt_mul→WM,add_comm→Wt,mul_comm→Ws,mul_le_mul_right→XC,mul_le_mul→X8,mul_one→X0,mul_pos→Wf,add_left_cancel→XR,not_lt_zero→XI,lt_trichotomy→XH,lt_or_ge→Y0,min_eq_left→Xl,div_add_mod→Xk,lt_trans→YQ,eq_zero_or_pos→YO,mul_add_div→Yg,div_eq_of_lt→Ye,mul_add→Yd,add_mul→Yc,le_of_not_lt→Zg,eq_of_beq_eq_true→Zt,le_of_ble_eq_true→Zs,pow_le_pow_right→Zq,lt_or_gt_of_ne→Zo,add_sub_cancel→o7
open List renaming mem_range→gq,mem_cons→AP,mem_map→H8,getElem?_eq_getElem→I8,all_eq_true→Iv,length_map→T6,getD_eq_getElem?_getD→T7,map_cons→T8,not_mem_nil→TZ,size_toArray→U1,length_cons→U0,getElem?_eq_some_iff→U3,getElem_mem→U6,getElem?_map→U7,map_map→UB,mem_of_getElem?→UD,nil_append→UG,mem_cons_of_mem→UP,mem_of_mem_take→UO,mem_append→US,length_append→UR,lookup_cons→UU,mem_singleton→UT,mem_cons_self→Ub,getElem?_append_left→UZ,append_assoc→UY,getElem?_set_ne→Ue,mem_append_right→Ud,length_nil→Uc,getElem?_append_right→Um,length_range→Ul,mem_filter→Uy,getElem?_set_self→Ux,take_length→Us,nodup_cons→VB,append_nil→VI,map_congr_left→VD,getElem?_range→VC,set_cons_succ→VS,getElem?_eq_none→VR,range_succ→VQ,length_take→Vb,replicate_succ→Va,foldl_cons→Vj,mem_iff_getElem→Vi,any_eq_true→Vh,pairwise_cons→Vf,map_append→Ve,set_cons_zero→Vc,flatten_cons→Vx,pairwise_iff_getElem→Vt,getElem_of_mem→Vs,take_append_drop→Vq,eraseIdx_eq_take_drop_succ→Vp,zip_cons_cons→Vo,nodup_range→Vm,mem_append_left→WL,nodup_append→WU,pairwise_map→WS,map_take→WO,take_of_length_le→WN,mem_filterMap→Ww,of_mem_zip→Wv,forIn_cons→Wr,getElem?_take→Wn,find?_eq_none→Wl,take_succ_eq_append_getElem→Wi,foldl_append→Wh,any_cons→XA,mem_mapIdx→X7,filter_sublist→Wy,filterMap_cons→Xg,getElem_inj→Xf,getElem?_take_of_lt→Xa,length_replicate→XZ,take_zero→XQ,drop_eq_getElem_cons→XO,getElem_take→XM,zipWith_cons_cons→XJ,mem_of_mem_drop→Y4,find?_some→Y3,perm_append_singleton→Xy,pairwise_lt_range→Xx,map_id→Xo,any_map→Xj,forall_mem_cons→Xi,any_eq_false→Z8,take_sublist→ZK,length_set→ZI,getElem?_zip_eq_some→ZF,forIn_nil→ZC,getElem_range→YX,length_zipWith→YW,getElem?_mapIdx→YV,length_reverse→YS,mem_erase_of_ne→YN,length_erase_of_mem→YM,ext_getElem→YL,map_filterMap→YK,findIdx?_eq_none_iff→YI,perm_middle→Yy,length_eq_zero_iff→Yx,perm_ext_iff_of_nodup→Yv,ext_getElem?→Yu,cons_append→Yr,map_drop→Yq,filter_cons→Yo,foldl_reverse→Ym,foldr_cons→Yl,flatMap_cons→Yk,flatMap_append→Yj,mem_flatMap→Yi,length_filter_le→Z5,getElem?_replicate→o9,getElem?_zipWith→Zc,length_mapIdx→Zb,drop_eq_nil_of_le→Za,mapIdx_cons→ZZ,find?_cons_of_pos→ZX,find?_cons_of_neg→ZW,getElem?_concat_length→ZV,length_pos_of_mem→ZT,length_eraseIdx_of_lt→ie,mem_reverse→eo,reverse_cons→ee,mem_map_of_mem→c6,zip_append→Zz,mem_of_find?_eq_some→Zy,getElem?_set→Zx,filter_eq_self→Zr,mem_flatten→o8,map_reverse→o6,filter_congr→o5
open PySem.Heap renaming get?_push_of_some→jn,lt_size→IT,get?_push_size→T9,size_push→UJ,get?_update_other→WE,get?_update_self→Wu
open Bool renaming and_eq_true→T5,false_ne_true→UC,false_eq_true→Ug,eq_iff_iff→V6,or_eq_true→Vw,not_true→WQ,true_and→Wm,not_false→Wj,false_and→Xd,and_self→Xu,and_false→ZH,false_or→Yh,toNat_false→Z4,toNat_true→Z3
open Option.some renaming inj→U9
open Array renaming length_toList→U8,getElem?_toList→UQ,getElem?_eq_getElem→XE,toList_setIfInBounds→Xz,toList_push→Xw,mem_toList_iff→Z7,toList_filterMap→YJ,find?_toList→qf,getD_eq_getD_getElem?→ZU,foldl_toList→ZR,getElem?_eq_none→ic,toList_append→eu,forIn_toList→Zw
open PySem.F renaming called_set→UE,slot_tuple_iterator_next→XX,slot_zip_next→XS,plainAttrs_list→YU,entry_type_call→YE,typeCall_set_1→YB,entry_set_init→Z2,slot_tuple_add→Zm,entry_tuple_add→Zl,args_tuple_add_2→Zk,entry_tuple_iterator_next→Ze,args_tuple_iterator_next_1→Zd,plain_set_new→ZO,sub_list_set→m6,sub_list_frozenset→ku,slot_set_iter→ia,slot_set_and→g6
open PyProof.Rows renaming vals1→Ua,boot_tuple→Uk,callWith_type1→VV,boot_isinstance→Vn,subscriptTail_builtinR→ZJ
open PySem.W renaming mg_none_of→UX,kia_one→Uw,mg_of→VO,cellsFrom_some→Xb,km_tabs_of→Xh,kitx_dict→Z6,callWith_K→ZL,rangeSize_down→YT,kitx_list→pg,codeHd_of_K→f9
open Ne renaming symm→Uo
open PySem.Heap.SameBut renaming update→VT
open Int renaming emod_nonneg→VN,emod_lt_of_pos→VM,toNat_natCast→WG,mul_le_mul→We,mul_nonneg→Xn,le_of_lt→Xm,zero_add→YR,le_refl→Ys,pow_succ→Yp,mul_le_mul_of_nonneg_left→Yn,emod_eq_of_lt→ZS,natCast_emod→Zv,natCast_add→Zu,mul_lt_mul_of_pos_right→nq
open Option renaming isSome_iff_exists→Vy,getD_none→Zj,map_eq_some_iff→ZY,map_some→Zn
open Classical renaming byContradiction→Vr
open PySem.Obj renaming data_mapFields→WA,isFreed_of_fields→ZE,cls_mapFields→ZD
open PySem.SetTable renaming insertAt_perm→WR,toList_insertAt→XG
open PySem.Value renaming isInt_shape→Wx
open PySem.Walks renaming list→Wo
open PyProof.Rows.F renaming plain_set_update_loop→Wg,entry_set_update_loop→Xs
open List.Pairwise renaming sublist→Wz,filterMap→ZQ,imp_of_mem→Zp
open PySem.Around renaming under_plainId→Xr,under_plain→YD
open PySem.Code renaming quiet_builtin→YF
open PySem.Calls renaming Name_function_global→s9
open PyProof renaming noPylong_small→r6
open PySem.IsL renaming update→Zi
open List.Perm renaming of_eq→g7
open Option renaming some→O,none→Z
open List renaming range→θ,replicate→ο,Nodup→V0
open Bool renaming false→ξ,true→G
open PySem.W renaming Frag→Γ,nsIn→μ,OpenLaw→ZM
open PySem renaming Value→Δ,Addr→Ξ,Shared→Ψ,sizeLine→Ω,starEach→ε,mainGlobals→ι,Expr→ν,Program→π,Heap→τ,World→υ,Stmt→χ,SetTable→ψ,Around→ω,IsTupleKey→UN,backTo→U4,FuncData→UH,NameKind→UI,IsPair→UL,Scope→UA,keywordEach→Wb,Keyword→VL,Arguments→W7,cLine→Uj,attributeBase→Y7,IsZip→Uq,DictEntry→Wa,Paired→VY,GenState→WZ,IsRangeIter→Y5,backToKw→WY,BindsTo→W6,PyData→Vk,Draws→VJ,PassesOwn→Y9,TriplesOk→Y8
open PySem.Heap renaming SameBut→Vl,IsTuple→ZN
open PyProof.Rows renaming IntsAre→Uz,AllBare→VZ
open PySem.Shared renaming TypeIs→Y6
noncomputable section
local macro_rules|`(tactic|omega)=>`(tactic|first|lia|omega (config:={}))
local macro_rules|`(∅)=>`(by omega)
local macro_rules|`(⋯)=>`(by decide)
namespace L2
open PySem PySem.Spec PyProof.Rows
abbrev Key:=Sum Int Str
def Qg:Key->Δ->Bool
 |.inl k,v=>Value.isInt k v
 |.inr x,v=>Value.isStrOf x v
def ado(w:υ):Key->Int
 |.inl k=>hashInt k
 |.inr x=>hashStr w x
theorem nF:∀{k:Key}{v:Δ},Qg k v=G->(∃i t,k=Sum.inl i/\v=Value.int i t)\/(∃x t,k=Sum.inr x/\v=Value.str x t)
 |.inl i,v,h=>by
  obtain⟨t,e⟩:=Wx (k:=i) (v:=v) h;exact .inl ⟨i,t,rfl,e⟩
 |.inr x,v,h=>by
  obtain⟨t,e⟩:=Value.isStrOf_shape (x:=x) (v:=v) h;exact .inr ⟨x,t,rfl,e⟩
theorem adm(a b:Int):decide ((Sum.inl a:Key)=Sum.inl b)=(a==b):=by
 by_cases e:a=b
 ·subst e;simp
 ·have h:¬(Sum.inl a:Key)=Sum.inl b:=λq=>e (Sum.inl.inj q)
  rw[decide_eq_false h];exact(beq_eq_false_iff_ne.mpr e).symm
theorem adj(a b:Str):decide ((Sum.inr a:Key)=Sum.inr b)=decide (a=b):=by
 by_cases e:a=b
 ·subst e;simp
 ·have h:¬(Sum.inr a:Key)=Sum.inr b:=λq=>e (Sum.inr.inj q)
  rw[decide_eq_false h,decide_eq_false e]
theorem adl(a:Int)(b:Str):decide ((Sum.inl a:Key)=Sum.inr b)=ξ:=decide_eq_false (λq=>nomatch q)
theorem adk(a:Str)(b:Int):decide ((Sum.inr a:Key)=Sum.inl b)=ξ:=decide_eq_false (λq=>nomatch q)
def GA(prog:π)(w:υ):PySem.KeyKind prog w Key where
 is:=Qg
 hash:=ado w
 inj:=λv a b ha hb=>by
  rcases nF ha with⟨i,t,rfl,rfl⟩|⟨x,t,rfl,rfl⟩
  ·rcases nF hb with⟨j,u,rfl,e⟩|⟨y,u,rfl,e⟩
   ·injection e with e1 _;rw[e1]
   ·exact nomatch e
  ·rcases nF hb with⟨j,u,rfl,e⟩|⟨y,u,rfl,e⟩
   ·exact nomatch e
   ·injection e with e1 _;rw[e1]
 byValue:=λk v h=>by
  rcases nF h with⟨i,t,rfl,rfl⟩|⟨x,t,rfl,rfl⟩<;>rfl
 pyHash:=λhv h=>by
  rcases nF hv with⟨i,t,rfl,rfl⟩|⟨x,t,rfl,rfl⟩
  ·exact wpAny_pyHash_int h
  ·exact wpAny_pyHash_str h
 eqBool:=λhu hv h=>by
  rcases nF hu with⟨i,t,rfl,rfl⟩|⟨x,t,rfl,rfl⟩
  ·rcases nF hv with⟨j,u,rfl,rfl⟩|⟨y,u,rfl,rfl⟩
   ·rw[adm]at h;exact wpAny_eqBool_int h
   ·rw[adl]at h;exact SeqAt.EqAt.int_str i t y u _ _ _ _ h
  ·rcases nF hv with⟨j,u,rfl,rfl⟩|⟨y,u,rfl,rfl⟩
   ·rw[adk]at h;exact SeqAt.EqAt.str_int x t j u _ _ _ _ h
   ·rw[adj]at h;exact wpAny_eqBool_str h
 «strs»:=λk x t v h=>by
  rcases nF h with⟨i,u,rfl,e⟩|⟨y,u,rfl,e⟩
  ·exact nomatch e
  ·injection e with e1 _
   subst e1;cases v<;>rfl
inductive V where
 |aJ|bl (b:Bool)|int (i:Int)|str (x:Str)|jE (b:Array UInt8)|uP (b:UInt64)|ref (a:Ξ)|ty (n:String)
 deriving DecidableEq
def RelV:V->Δ->Prop
 |.aJ,u=>u=Value.none
 |.bl b,u=>u=Value.bool b
 |.int i,u=>∃t,u=Value.int i t
 |.str x,u=>∃t,u=Value.str x t
 |.jE b,u=>∃t,u=Value.bytes b t
 |.uP b,u=>∃t,u=Value.float b t
 |.ref a,u=>u=Value.ref a
 |.ty n,u=>u=Value.type n
abbrev Vals:List V->List Δ->Prop:=VY RelV
theorem Vals.length{xs:List V}(r:Vals xs us):xs.length=us.length:=Paired.length r
theorem Vals.get:∀{xs:List V}{us:List Δ}{i:Nat}{x:V},Vals xs us->xs[i]? = O x->∃u,us[i]? = O u/\RelV x u
 |_,_,_,_,.nil,e=>by simp at e
 |_,_,0,_,.cons r _,e=>by simp at e;subst e;exact⟨_,rfl,r⟩
 |_,_,i+1,x,.cons _ t,e=>by
  obtain⟨u,h1,h2⟩:=Vals.get (i:=i) (x:=x) t (by simpa using e)
  exact⟨u,by simpa using h1,h2⟩
theorem Vals.set(r:RelV x u):∀{xs:List V}{us:List Δ}(i:Nat),Vals xs us->Vals (xs.set i x) (us.set i u)
 |_,_,_,.nil=>.nil
 |_,_,0,.cons _ t=>.cons r t
 |_,_,i+1,.cons q t=>.cons q (Vals.set r i t)
theorem Vals.append:∀{xs ys:List V}{us ws:List Δ},Vals xs us->Vals ys ws->Vals (xs++ys) (us++ws)
 |_,_,_,_,.nil,s=>s
 |_,_,_,_,.cons r t,s=>.cons r (Vals.append t s)
theorem Vals.take:∀{xs:List V}{us:List Δ}(n:Nat),Vals xs us->Vals (xs.take n) (us.take n)
 |_,_,0,_=>.nil
 |_,_,_+1,.nil=>.nil
 |_,_,n+1,.cons r t=>.cons r (Vals.take n t)
theorem Vals.drop:∀{xs:List V}{us:List Δ}(n:Nat),Vals xs us->Vals (xs.drop n) (us.drop n)
 |_,_,0,r=>r
 |_,_,_+1,.nil=>.nil
 |_,_,n+1,.cons _ t=>Vals.drop n t
def J8:Option V->Option Δ->Prop
 |some v,O u=>RelV v u
 |none,Z=>True
 |_,_=>False
def KV{κ:Type}:List (κ×V)->List (κ×Δ)->Prop:=VY fun(p:κ×V) (q:κ×Δ)=>p.1=q.1/\RelV p.2 q.2
def kV:Key->V
 |.inl i=>.int i
 |.inr x=>.str x
inductive HO where
 |lst (xs:List V)
 |tup (xs:List V)
 |dK (kvs:List (Key×V))|dT (kvs:List (List Key×V))
 |set (S:Int->Bool) (n:Nat)
 |ins (C dx:Ξ) (fs:List (Str×V))
 |own (x:Ξ)
 |xd (fs:List (Str×V))
 |met (f x:Ξ)
 |wu (lo hi:Int)
 |dz (o:Obj) (u:HO)
 |cJ (ps:Array Δ)
 |ext (φ:τ->Prop)
abbrev Hp:=Ξ->Option HO
def upd(H:Hp)(a:Ξ)(o:HO):Hp:=λb=>if b=a then O o else H b
theorem fG:upd H a o a=O o:=by unfold upd;rw[if_pos rfl]
theorem b8(h:b≠a):upd H a o b=H b:=by unfold upd;rw[if_neg h]
theorem Pe{H:Hp}{a b:Ξ}{o u:HO}(h:H a=O o)(h':H b=O u)(d:o≠u):a≠b:=by
 intro e;subst e;rw[h]at h';exact d (U9 h')
theorem eH{H:Hp}{a b:Ξ}{o:HO}(h:H a=O o)(h':H b=Z):a≠b:=by
 intro e;subst e;rw[h]at h';cases h'
def nX(h:τ)(a:Ξ)(items:Array Δ):Prop:=∃o,h.get? a=O o/\o.cls=.type "tuple"/\(∃n,o.data=.seq items n)/\o.dict=Z
theorem nX.tup{items:Array Δ}:nX h a items->IsTup h a items:=fun⟨o,e,c,d,_⟩=>⟨o,e,c,d⟩
theorem nX.new(h:τ)(items:Array Δ):nX (h.push {cls:=.type "tuple",data:=.seq items}) h.objs.size items:=⟨_,T9 _ rfl,rfl,⟨_,rfl⟩,rfl⟩
section
variable (P:π) (w:υ)
def gk(H:Hp)(h:τ)(a:Ξ):HO->Prop
 |.lst xs=>xs.length<=Ω/\∃(its:List Δ) (n:Nat),Vals xs its/\h.get? a=O {cls:=.type "list",data:=.seq its.toArray n}
 |.tup xs=>xs.length<=Ω/\∃its:List Δ,Vals xs its/\nX h a its.toArray
 |.dK kvs=>kvs.length<=Ω/\(a==sysModules)=ξ/\∃vs,KV kvs vs/\h.DictOf (GA P w) a vs
 |.dT kvs=>kvs.length<=Ω/\(a==sysModules)=ξ/\∃xs:List (List Key×Ξ×Δ),
   VY (fun(p:List Key×V) (q:List Key×Ξ×Δ)=>p.1=q.1/\H q.2.1=O (.tup (p.1.map kV))/\RelV p.2 q.2.2) kvs xs /\
   ∃o es ep,h.get? a=O o/\o.ExactDict/\o.data=.dict es ep/\es.toList=xs.map (entryOfKey (tupleKind (GA P w)))/\(xs.map (·.1)).Nodup
 |.set S n=>h.SetOf (intKind P w) a S n
 |.ins C dx fs=>H dx=O (.own a)/\fs.length<=1000/\dx≠a/\h.get? a=O (PySem.W.instObj C dx) /\
   ∃mA,h.Ns1 dx mA/\(∀f,J8 (fs.lookup f) (mA f))/\PySem.Within mA (fs.map (·.1))
 |.own _=>∃o,h.get? a=O o
 |.xd fs=>∃mA,h.Ns1 a mA/\∀f,J8 (fs.lookup f) (mA f)
 |.wu lo hi=>∃t u v,h.get? a=O {cls:=.type "range",data:=.fields #[.int lo t,.int hi u,.int 1 v]}
 |.dz o u=>h.get? a=O o/\gk H h a u
 |.cJ ps=>h.get? a=O {cls:=.none,data:=.fields ps}
 |.met f x=>h.get? a=O (PySem.W.methodObj (.ref f) (.ref x))
 |.ext φ=>φ h/\(∃o,h.get? a=O o)/\∀h1 h2:τ,φ h1->(∀o,h1.get? a=O o->h2.get? a=O o)->φ h2
def eG(H:Hp)(h:τ):Prop:=∀a o,H a=O o->gk P w H h a o
end
section
variable {P:π}{w:υ}{H H':Hp}{h h':τ}{a:Ξ}{o:HO}
theorem gk.lt(x:gk P w H h a o):a<h.objs.size:=by
 cases o with
 |lst xs=>obtain⟨_,_,_,_,e⟩:=x;exact IT e
 |tup xs=>obtain⟨_,_,_,p⟩:=x;exact p.tup.lt
 |dK kvs=>obtain⟨_,_,_,_,o,_,_,e,_⟩:=x;exact IT e
 |dT kvs=>obtain⟨_,_,_,_,o,_,_,e,_⟩:=x;exact IT e
 |set S n=>obtain⟨o,_,_,_,e,_⟩:=x;exact IT e
 |ins C dx fs=>obtain⟨_,_,_,e,_⟩:=x;exact IT e
 |own y=>obtain⟨_,e⟩:=x;exact IT e
 |xd fs=>obtain⟨_,⟨_,_,_,e,_⟩,_⟩:=x;exact IT e
 |wu lo hi=>obtain⟨_,_,_,e⟩:=x;exact IT e
 |dz ob u=>obtain⟨e,_⟩:=x;exact IT e
 |cJ ps=>exact IT (show h.get? a=O _ from x)
 |met f y=>exact IT (show h.get? a=O _ from x)
 |ext φ=>obtain⟨_,⟨_,e⟩,_⟩:=x;exact IT e
theorem Paired.PC{α β:Type}{F Θ:α->β->Prop}:∀{l₁:List α}{l₂:List β},VY F l₁ l₂->(∀a b,F a b->Θ a b)->VY Θ l₁ l₂
 |_,_,.nil,_=>.nil
 |_,_,.cons r t,f=>.cons (f _ _ r) (Paired.PC t f)
theorem gk.stay(x:gk P w H h a o)(k:∀b u,(b=a\/H b=O (.own a))->h.get? b=O u->h'.get? b=O u)
  (ho:∀b,H b=O (.own a)->H' b=O (.own a)) (ht:∀b xs,H b=O (.tup xs)->H' b=O (.tup xs)):gk P w H' h' a o:=by
 induction o with
 |lst xs=>obtain⟨z,its,n,r,e⟩:=x;exact⟨z,its,n,r,k _ _ (.inl rfl) e⟩
 |tup xs=>obtain⟨z,its,r,ob,e,c⟩:=x;exact⟨z,its,r,ob,k _ _ (.inl rfl) e,c⟩
 |dK kvs=>obtain⟨z,y,vs,r,ob,es,ep,e,c⟩:=x;exact⟨z,y,vs,r,ob,es,ep,k _ _ (.inl rfl) e,c⟩
 |dT kvs =>
  obtain⟨z,y,xs,r,ob,es,ep,e,c⟩:=x;exact⟨z,y,xs,Paired.PC r λp q z=>⟨z.1,ht _ _ z.2.1,z.2.2⟩,ob,es,ep,k _ _ (.inl rfl) e,c⟩
 |set S n=>obtain⟨ob,es,ep,t,e,c⟩:=x;exact⟨ob,es,ep,t,k _ _ (.inl rfl) e,c⟩
 |ins C dx fs =>
  obtain⟨d,z,ne,e,mA,⟨od,es,ep,e2,c⟩,r⟩:=x;exact⟨ho _ d,z,ne,k _ _ (.inl rfl) e,mA,⟨od,es,ep,k _ _ (.inr d) e2,c⟩,r⟩
 |own y=>obtain⟨ob,e⟩:=x;exact⟨ob,k _ _ (.inl rfl) e⟩
 |xd fs=>obtain⟨mA,⟨od,es,ep,e,c⟩,r⟩:=x;exact⟨mA,⟨od,es,ep,k _ _ (.inl rfl) e,c⟩,r⟩
 |wu lo hi=>obtain⟨t,u,v,e⟩:=x;exact⟨t,u,v,k _ _ (.inl rfl) e⟩
 |dz ob u ih=>obtain⟨e,q⟩:=x;exact⟨k _ _ (.inl rfl) e,ih q⟩
 |cJ ps =>
  have e:h.get? a=O {cls:=.none,data:=.fields ps}:=x;show h'.get? a=O {cls:=.none,data:=.fields ps};exact k a _ (.inl rfl) e
 |met f y =>
  have e:h.get? a=O (PySem.W.methodObj (.ref f) (.ref y)):=x;show h'.get? a=O (PySem.W.methodObj (.ref f) (.ref y));exact k a _ (.inl rfl) e
 |ext φ=>obtain⟨p,⟨o,e⟩,st⟩:=x;exact⟨st _ _ p λo q=>k _ _ (.inl rfl) q,⟨o,k _ _ (.inl rfl) e⟩,st⟩
theorem eG.lt(x:eG P w H h)(e:H a=O o):a<h.objs.size:=(x a o e).lt
theorem eG.fresh(x:eG P w H h)(e:h.objs.size<=a):H a=Z:=by
 cases q:H a with
 |none=>rfl
 |some u=>exact absurd (TY (x.lt q) e) (Ui _)
theorem eG.kept(x:eG P w H h)(k:∀b u,h.get? b=O u->h'.get? b=O u):eG P w H h':=λa o e =>
 (x a o e).stay (λb u _ q=>k b u q) (λ_ q=>q) λ_ _ q=>q
theorem eG.laid(x:eG P w H h)(k:∀b u,h.get? b=O u->h'.get? b=O u)(hp:h.objs.size<=a)(new:gk P w (upd H a o) h' a o):eG P w (upd H a o) h':=λb u e=>by
 have hn:=x.fresh hp
 by_cases hb:b=a
 ·subst hb;rw[fG]at e;cases e;exact new
 ·rw[b8 hb]at e;exact(x b u e).stay (λc v _ q=>k c v q) (λc q=>by rw[b8 (eH q hn)];exact q) λc xs q=>by rw[b8 (eH q hn)];exact q
end
def Rd(H:Hp)(a:Ξ)(u:HO):Prop:=H a=O u\/∃o,H a=O (.dz o u)
theorem Rd.ok{P:π}(r:Rd H a u)(x:eG P w H h):gk P w H h a u:=by
 rcases r with r|⟨o,r⟩
 ·exact x a u r
 ·obtain⟨_,q⟩:=x a _ r;exact q
def D5:Option HO->Prop
 |some (.lst _)=>True
 |some (.dK _)=>True
 |some (.dT _)=>True
 |some (.set _ _)=>True
 |some (.ins _ _ _)=>True
 |some (.ext _)=>True
 |_=>False
section
variable {P:π}{w:υ}{H:Hp}{h h':τ}{x e:Ξ}{o':HO}
theorem eG.write(ok:eG P w H h)(mu:D5 (H x))(he:e=x\/H e=O (.own x))(k:∀b u,b≠e->h.get? b=O u->h'.get? b=O u)(uH:∃u,h'.get? e=O u)
  (new:gk P w (upd H x o') h' x o'):eG P w (upd H x o') h':=λb u q=>by
 have OZ:∀c y,H c=O (.own y)->c≠x:=λc y r z=>by subst z;rw[r]at mu;exact mu
 have abY:∀c xs,H c=O (.tup xs)->c≠x:=λc xs r z=>by subst z;rw[r]at mu;exact mu
 by_cases hb:b=x
 ·subst hb;rw[fG]at q;cases q;exact new
 ·rw[b8 hb]at q
  by_cases rS:b=e
  ·have q':H b=O (.own x):=by
    rcases he with z|z
    ·exact absurd (rS.trans z) hb
    ·rw[rS];exact z
   rw[q]at q';cases q';obtain⟨v,hv⟩:=uH;exact⟨v,by rw[rS];exact hv⟩
  ·refine(ok b u q).stay (λc v hc r=>k c v ?_ r) (λc r=>by rw[b8 (OZ c b r)];exact r) λc xs r=>by rw[b8 (abY c xs r)];exact r
   rcases hc with rfl|hc
   ·exact rS
   ·rintro rfl
    rcases he with z|z
    ·exact OZ c b hc z
    ·rw[hc]at z;cases z;exact hb rfl
end
structure Un (fs ex:List Ξ) (H H':Hp) (h h':τ):Prop where
 keep:∀b o,h.get? b=O o->H b=Z->b∉fs->b∉ex->h'.get? b=O o
 slot:∀b o,h.get? b=O o->H b=Z->b∈fs->b∉ex->∃sl,h'.get? b=O {o with slots:=sl}
 free:∀b o,h.get? b=O o->H b=Z->b∉ex->H' b=Z
 there:∀b o,h.get? b=O o->b∉ex->∃o',h'.get? b=O o'
 tups:∀b xs,H b=O (.tup xs)->H' b=O (.tup xs)
 jC:∀b o u,H b=O (.dz o u)->H' b=O (.dz o u)
 jO:∀b ps,H b=O (.cJ ps)->∃more,H' b=O (.cJ (ps++more))
section
variable {fs fs' ex ex':List Ξ}{H H1 H2:Hp}{h h1 h2 h':τ}{a x e:Ξ}{o:HO}
theorem Un.any(u:Un fs ex H H1 h h1)(q:h.get? b=O ob)(n:H b=Z)(hx:b∉ex):∃sl,h1.get? b=O {ob with slots:=sl}:=by
 by_cases hb:b∈fs
 ·exact u.slot b ob q n hb hx
 ·exact⟨ob.slots,u.keep b ob q n hb hx⟩
theorem Un.kept(k:∀b u,h.get? b=O u->h'.get? b=O u):Un fs ex H H h h' :=
 ⟨λb ob q _ _ _=>k b ob q,λb ob q _ _ _=>⟨ob.slots,k b ob q⟩,λ_ _ _ n _=>n,λb ob q _=>⟨ob,k b ob q⟩,λ_ _ q=>q,λ_ _ _ q=>q,λ_ ps q=>⟨#[],by rw[q];simp⟩⟩
theorem Un.refl:Un fs ex H H h h:=Un.kept λ_ _ q=>q
theorem Un.laid(k:∀b u,h.get? b=O u->h'.get? b=O u)(hp:h.objs.size<=a)(hn:H a=Z):Un fs ex H (upd H a o) h h' where
 keep:=λb u q _ _ _=>k b u q
 slot:=λb u q _ _ _=>⟨u.slots,k b u q⟩
 free:=λb u q n _=>by rw[b8 (T3 (TY (IT q) hp))];exact n
 there:=λb u q _=>⟨u,k b u q⟩
 tups:=λb xs q=>by rw[b8 (eH q hn)];exact q
 jC:=λb u xs q=>by rw[b8 (eH q hn)];exact q
 jO:=λb ps q=>⟨#[],by rw[b8 (eH q hn),q];simp⟩
theorem Un.write(mu:D5 (H x))(he:e=x\/H e=O (.own x))(k:∀b u,b≠e->h.get? b=O u->h'.get? b=O u)(uH:∃u,h'.get? e=O u):Un fs ex H (upd H x o) h h':=by
 have hx:∀b,H b=Z->b≠x:=λb n z=>by subst z;rw[n]at mu;exact mu
 have hb:∀b,H b=Z->b≠e:=λb n z=>by
  subst z
  rcases he with r|r
  ·exact hx b n r
  ·rw[n]at r;cases r
 have hm:∀b u,H b=O u->¬D5 (O u)->b≠x:=λb u q nm z=>by subst z;rw[q]at mu;exact nm mu
 refine⟨λb u q n _ _=>k b u (hb b n) q,λb u q n _ _=>⟨u.slots,k b u (hb b n) q⟩,λb u q n _=>by rw[b8 (hx b n)];exact n,λb u q _=>?_,
  λb xs q=>by rw[b8 (hm b _ q λz=>z)];exact q,λb u xs q=>by rw[b8 (hm b _ q λz=>z)];exact q,λb ps q=>⟨#[],by rw[b8 (hm b _ q λz=>z),q];simp⟩⟩
 by_cases rS:b=e
 ·subst rS;exact uH
 ·exact⟨u,k b u rS q⟩
end
def zE(h:τ)(H:Hp):List Ξ:=(θ h.objs.size).filter λa=>(H a).isSome
def nK(h:τ)(H:Hp):τ:=PySem.W.hideAll h (zE h H)
theorem aeH(h:τ)(H:Hp):(nK h H).objs.size=h.objs.size:=PySem.W.hideAll_size _ _
theorem aeI{h:τ}(e:h.get? b=O o)(n:H b=Z):(nK h H).get? b=O o :=
 PySem.W.hideAll_get _ e λhm=>by
  have q:(H b).isSome=G:=(Uy.mp hm).2;rw[n]at q;simp at q
theorem abN(e:(nK h H).get? b=O o):h.get? b=O o/\H b=Z:=by
 have e':h.get? b=O o:=PySem.W.of_hideAll (zE h H) e;refine⟨e',?_⟩;cases q:H b with
 |none=>rfl
 |some x =>
  have hm:b∈zE h H:=Uy.mpr ⟨gq.mpr (IT e'),by simp[q]⟩
  have z:(nK h H).get? b=Z:=PySem.W.hideAll_none (zE h H) hm;rw[z]at e;cases e
structure Mod (K:Γ) (mg:Str->Option Δ) (base:τ):Prop where
 l9:K.In base
 glob:base.Ns ι mg
 blt:∃mb,base.Ns builtinsNs mb/\∀x:Str,x≠"__name__"->mb x=bootBuiltins x
 nolimit:base.NoLimit
 bmod:∃bm ob,mg "__builtins__"=O (.ref bm)/\bm≠builtinsNs/\base.get? bm=O ob/\ob.cls=.type "module"/\ob.dict=O builtinsNs/\ob.data=.plain
structure Cx where
 prog:π
 w:υ
 K:Γ
 mg:Str->Option Δ
 base:τ
 A:ω
 N:List Str
 s₀:Ψ
 H₀:Hp
 env:Env
 outer:List Env
 stack:List Env
 ex:List Ξ
 fn:Str->Bool
 calm:Bool
 pn:List (Ξ×Obj)
 xe:Δ->Ψ->Prop
def frs(l:List Env):List Ξ:=l.filterMap (·.frame)
abbrev Cx.fs(X:Cx):List Ξ:=frs X.outer
def yY(sc:UA)(x:Str):Prop:=sc.names.lookup x=O .local\/sc.names.lookup x=O .cell\/sc.names.lookup x=O .free
def Loc(sc:UA)(x:Str):Prop:=sc.names.lookup x=O .local\/sc.names.lookup x=O .cell
def Look(env:Env)(h:τ)(m:Str->Option Δ)(x:Str)(u:Δ):Prop :=
 (env.kindOf x=O .local/\m x=O u)\/((env.kindOf x=O .cell\/env.kindOf x=O .free)/\∃c,env.cells.lookup x=O c/\h.IsCell c (O u))
structure Cx.Ok (X:Cx):Prop where
 mod:Mod X.K X.mg X.base
 kind:X.env.scope.kind=.function
 glob:X.env.globals=ι
 blt:X.env.builtins=builtinsNs
 above:X.s₀.heap.objs.size<=X.env.locals
 inj:∀x y c,X.env.cells.lookup x=O c->X.env.cells.lookup y=O c->x=y
 has:∀x,(X.env.kindOf x=O .cell\/X.env.kindOf x=O .free)->∃c,X.env.cells.lookup x=O c
 qh:∀x c,X.fn x=G->X.env.cells.lookup x=O c->X.s₀.heap.objs.size<=c
 hd:X.calm=G->X.A.handled=Z
 frames:X.A.frames=O X.stack
 stk:X.stack=X.outer\/(X.stack=X.env::X.outer/\X.env.frame=O X.env.locals)
 yk:∀b∈X.ex,b≠X.env.locals/\∀x c,X.env.cells.lookup x=O c->c≠b
 bs:∀b o,X.base.get? b=O o->X.s₀.heap.get? b=O o/\X.H₀ b=Z
 ji:X.base.objs.size<=X.s₀.heap.objs.size
 nt:∀b o,X.base.get? b=O o->b∉X.ex
 uV:∀b∈X.ex,b∉X.fs
 iZ:X.s₀.heap.FunFrames X.base X.outer
 mz:∀b∈X.fs,X.H₀ b=Z
structure Inv (X:Cx) (pins:List (Ξ×Obj)) (J:List (Option V)) (H:Hp) (s:Ψ):Prop where
 ok:X.Ok
 os:s.os=X.s₀.os
 bare:VZ s.gens
 base:Un X.fs X.ex X.H₀ H X.s₀.heap s.heap
 loc:∃m,s.heap.Ns X.env.locals m/\∀(i:Nat) (x:Str) (v:V),X.N[i]? = O x->J[i]? = O (O v)->yY X.env.scope x->∃u,RelV v u/\Look X.env s.heap m x u
 cell:∀x c,X.env.cells.lookup x=O c->∃v,s.heap.IsCell c v
 free:H X.env.locals=Z
 jD:∀x c,X.env.cells.lookup x=O c->H c=Z
 pin:∀p∈X.pn++pins,s.heap.get? p.1=O p.2/\H p.1=Z/\p.1≠X.env.locals/\p.1∉X.fs/\∀v,p.2.data≠.cell v
 hok:eG X.prog X.w H s.heap
 len:J.length=X.N.length
section
variable {X:Cx}{pins:List (Ξ×Obj)}{J:List (Option V)}{H H':Hp}{s:Ψ}{h':τ}
theorem Cx.Ok.ab4(ok:X.Ok)(e:X.base.get? b=O o):b∉X.fs:=λhb=>by
 have:=(ok.iZ.mem hb).1;rw[e]at this;cases this
theorem Inv.bs(I:Inv X pins J H s):∀b o,X.base.get? b=O o->s.heap.get? b=O o/\H b=Z:=λb o e =>
 ⟨I.base.keep b o (I.ok.bs b o e).1 (I.ok.bs b o e).2 (I.ok.ab4 e) (I.ok.nt b o e),I.base.free b o (I.ok.bs b o e).1 (I.ok.bs b o e).2 (I.ok.nt b o e)⟩
theorem Inv.bk(I:Inv X pins J H s):∀b o,X.base.get? b=O o->s.heap.get? b=O o:=λb o e=>(I.bs b o e).1
theorem Inv.mod(I:Inv X pins J H s):Mod X.K X.mg X.base:=I.ok.mod
theorem Inv.fK(I:Inv X pins J H s):X.K.In s.heap:=I.ok.mod.l9.keeps I.bk
theorem Inv.lt(I:Inv X pins J H s):X.env.locals<s.heap.objs.size:=let⟨_,hn,_⟩:=I.loc;hn.lt
theorem Inv.sz(I:Inv X pins J H s):X.s₀.heap.objs.size<=s.heap.objs.size:=UK I.ok.above (VX I.lt)
theorem Inv.Gg(I:Inv X pins J H s)(h:s.heap.objs.size<=a):a∉X.fs:=λhb=>by
 obtain⟨_,o,ho,_⟩:=I.ok.iZ.mem hb;exact absurd (TY (IT ho) (UK I.sz h)) (Ui _)
theorem Inv.qg(I:Inv X pins J H s):∀x c,X.env.cells.lookup x=O c->c≠X.env.locals:=λx c e z=>by
 obtain⟨v,o,ho,hd⟩:=I.cell x c e;obtain⟨m,⟨o',es,ep,ho',hd',_⟩,_⟩:=I.loc;rw[z,ho']at ho;cases ho;rw[hd']at hd;cases hd
theorem Inv.iZ(I:Inv X pins J H s):s.heap.FunFrames X.base X.outer:=by
 have all:∀(l:List Env),(∀b∈frs l,b∈X.fs)->X.s₀.heap.FunFrames X.base l->s.heap.FunFrames X.base l:=by
  intro l
  induction l with
  |nil=>intro _ _;trivial
  |cons env r ih =>
   intro hs hl;obtain⟨hk,⟨L,o,hf,hn,ho,hd⟩,hr⟩:=hl;have hL:L∈X.fs:=hs L (by unfold frs;rw[Xg,hf];exact Ub)
   obtain⟨sl,e⟩:=I.base.slot L o ho (I.ok.mz L hL) hL λz=>I.ok.uV L z hL
   exact⟨hk,⟨L,_,hf,hn,e,hd⟩,ih (λb hb=>hs b (by unfold frs;rw[Xg,hf];exact UP _ hb)) hr⟩
 exact all X.outer (λ_ hb=>hb) I.ok.iZ
theorem Inv.stack(I:Inv X pins J H s):s.heap.FunFrames X.base X.stack:=by
 rcases I.ok.stk with e|⟨e,hf⟩
 ·rw[e];exact I.iZ
 ·rw[e];obtain⟨m,hn,_⟩:=I.loc;refine .cons (by rw[I.ok.kind];decide) hf hn ?_ I.iZ
  exact Heap.get?_none_of_le (UK I.ok.ji I.ok.above)
theorem Inv.qH(I:Inv X pins J H s):∀b∈frs X.stack,b∈X.env.locals::X.fs:=λb hb=>by
 rcases I.ok.stk with e|⟨e,hf⟩
 ·rw[e]at hb;exact UP _ hb
 ·rw[e]at hb;unfold frs at hb;rw[Xg,hf]at hb;exact hb
theorem Inv.E2(I:Inv X pins J H s):∀b∈frs X.stack,H b=Z:=λb hb=>by
 rcases AP.mp (I.qH b hb)with e|hb
 ·rw[e];exact I.free
 ·obtain⟨_,o,ho,_⟩:=I.ok.iZ.mem hb;exact I.base.free b o ho (I.ok.mz b hb) λz=>I.ok.uV b z hb
theorem Inv.step{g':Array WZ}{d':Drawn}{ch:List Ξ}(I:Inv X pins J H s)(hch:∀b∈ch,(b∈X.ex\/X.s₀.heap.objs.size<=b)/\b≠X.env.locals/\(∀x c,X.env.cells.lookup x=O c->c≠b)/\∀p∈X.pn++pins,p.1≠b)(keep:∀b o,b≠X.env.locals->b∉X.fs->b∉ch->s.heap.get? b=O o->H b=Z->h'.get? b=O o)(slot:∀b o,b≠X.env.locals->b∈X.fs->b∉ch->s.heap.get? b=O o->H b=Z->∃sl,h'.get? b=O {o with slots:=sl})(free:∀b o,b∉ch->s.heap.get? b=O o->H b=Z->H' b=Z)(there:∀b o,b∉ch->s.heap.get? b=O o->∃o',h'.get? b=O o')(tups:∀b xs,H b=O (.tup xs)->H' b=O (.tup xs))(jC:∀b o u,H b=O (.dz o u)->H' b=O (.dz o u))(jO:∀b ps,H b=O (.cJ ps)->∃more,H' b=O (.cJ (ps++more)))(ns:∀m,s.heap.Ns X.env.locals m->h'.Ns X.env.locals m)(hok:eG X.prog X.w H' h')(hg:VZ g'):
  Inv X pins J H' {s with heap:=h',gens:=g',drawn:=d',toks:=t'}:=by
 have Pf:∀b o,X.s₀.heap.get? b=O o->b≠X.env.locals:=λb o e=>T3 (TY (IT e) I.ok.above)
 have AJ:∀b o,X.s₀.heap.get? b=O o->b∉X.ex->b∉ch:=λb o e hx hb=>by
  rcases(hch b hb).1 with z|z
  ·exact hx z
  ·exact absurd (TY (IT e) z) (Ui _)
 have cellK:∀x c,X.env.cells.lookup x=O c->∀v,s.heap.IsCell c v->h'.IsCell c v:=λx c e v ⟨o,ho,hd⟩=>by
  have kL:c∉ch:=λz=>(hch c z).2.2.1 x c e rfl
  by_cases hc:c∈X.fs
  ·obtain⟨sl,q⟩:=slot c o (I.qg x c e) hc kL ho (I.jD x c e);exact⟨_,q,hd⟩
  ·exact⟨o,keep c o (I.qg x c e) hc kL ho (I.jD x c e),hd⟩
 refine⟨I.ok,I.os,hg,⟨λb o e n hb hx=>?_,λb o e n hb hx=>?_,λb o e n hx=>?_,λb o e hx=>?_,λb xs e=>tups b xs (I.base.tups b xs e),λb o xs e=>jC b o xs (I.base.jC b o xs e),λb ps e=>?_⟩,?_,λx c e=>?_,?_,λx c e=>?_,λp hp=>?_,hok,I.len⟩
 ·exact keep b o (Pf b o e) hb (AJ b o e hx) (I.base.keep b o e n hb hx) (I.base.free b o e n hx)
 ·obtain⟨sl,e1⟩:=I.base.slot b o e n hb hx;obtain⟨ane,e2⟩:=slot b _ (Pf b o e) hb (AJ b o e hx) e1 (I.base.free b o e n hx);exact⟨ane,e2⟩
 ·obtain⟨o',e1⟩:=I.base.there b o e hx;exact free b o' (AJ b o e hx) e1 (I.base.free b o e n hx)
 ·obtain⟨o',e1⟩:=I.base.there b o e hx;exact there b o' (AJ b o e hx) e1
 ·obtain⟨m1,e1⟩:=I.base.jO b ps e;obtain⟨m2,e2⟩:=jO b _ e1;exact⟨m1++m2,by rw[e2,Array.append_assoc]⟩
 ·obtain⟨m,hn,hl⟩:=I.loc;refine⟨m,ns m hn,λi x v e1 e2 e3=>?_⟩
  obtain⟨u,r,l⟩:=hl i x v e1 e2 e3;refine⟨u,r,?_⟩
  rcases l with l|⟨k,c,e,z⟩
  ·exact .inl l
  ·exact .inr ⟨k,c,e,cellK x c e _ z⟩
 ·obtain⟨v,z⟩:=I.cell x c e;exact⟨v,cellK x c e v z⟩
 ·obtain⟨m,⟨o,_,_,ho,_⟩,_⟩:=I.loc;exact free _ o (λz=>(hch _ z).2.1 rfl) ho I.free
 ·obtain⟨v,o,ho,hd⟩:=I.cell x c e;exact free c o (λz=>(hch c z).2.2.1 x c e rfl) ho (I.jD x c e)
 ·obtain⟨e,n,ne,nf,d⟩:=I.pin p hp;have kL:p.1∉ch:=λz=>(hch p.1 z).2.2.2 p hp rfl
  exact⟨keep p.1 p.2 ne nf kL e n,free p.1 p.2 kL e n,ne,nf,d⟩
theorem Inv.un(I:Inv X pins J H s)(u:Un X.fs [] H H' s.heap h')(hok:eG X.prog X.w H' h'):Inv X pins J H' {s with heap:=h',toks:=t'}:=by
 obtain⟨m,⟨o,es,ep,ho,r⟩,_⟩:=id I.loc;obtain⟨sl,hL⟩:=u.any ho I.free (by simp)
 exact I.step (g':=s.gens) (d':=s.drawn) (ch:=[]) (λ_ z=>nomatch z) (λb o _ hb _ e n=>u.keep b o e n hb (by simp)) (λb o _ hb _ e n=>u.slot b o e n hb (by simp)) (λb o _ e n=>u.free b o e n (by simp)) (λb o _ e=>u.there b o e (by simp)) u.tups u.jC u.jO (λm' hm=>by
  obtain⟨o',es',HP,ho',r'⟩:=hm;rw[ho]at ho';cases ho';exact⟨_,es',HP,hL,r'⟩) hok I.bare
theorem Inv.call(I:Inv X pins J H s)(u:Un (frs X.stack) ch H H' s.heap h')(hok:eG X.prog X.w H' h')(hg:VZ g')(hch:∀b∈ch,(b∈X.ex\/X.s₀.heap.objs.size<=b)/\b≠X.env.locals/\(∀x c,X.env.cells.lookup x=O c->c≠b)/\∀p∈X.pn++pins,p.1≠b):
  Inv X pins J H' {s with heap:=h',gens:=g',drawn:=d',toks:=t'}:=by
 obtain⟨m,⟨o,es,ep,ho,r⟩,_⟩:=id I.loc;obtain⟨sl,hL⟩:=u.any ho I.free λz=>(hch _ z).2.1 rfl
 exact I.step (ch:=ch) hch (λb o hL hb hc e n=>u.keep b o e n (λz=>(AP.mp (I.qH b z)).elim hL hb) hc) (λb o _ _ hc e n=>u.any e n hc) (λb o hc e n=>u.free b o e n hc) (λb o hc e=>u.there b o e hc) u.tups u.jC u.jO (λm' hm=>by
  obtain⟨o',es',HP,ho',r'⟩:=hm;rw[ho]at ho';cases ho';exact⟨_,es',HP,hL,r'⟩) hok hg
theorem Inv.turned(I:Inv X pins J H s)(k:∀b o,b≠it->s.heap.get? b=O o->h'.get? b=O o)(hn:H it=Z)(hL:it≠X.env.locals)(h1:it∈X.ex\/X.s₀.heap.objs.size<=it)(h2:∀x c,X.env.cells.lookup x=O c->c≠it)(h3:∀p∈X.pn++pins,p.1≠it):Inv X pins J H {s with heap:=h',toks:=t'}:=by
 have Pd:∀b u,H b=O u->b≠it:=λb u e z=>by rw[z,hn]at e;cases e
 refine I.step (g':=s.gens) (d':=s.drawn) (ch:=[it]) (λb hb=>?_) (λb o _ _ hc e _=>k b o (λz=>hc (by simp[z])) e) (λb o _ _ hc e _=>⟨o.slots,k b o (λz=>hc (by simp[z])) e⟩) (λ_ _ _ _ n=>n)
  (λb o hc e=>⟨o,k b o (λz=>hc (by simp[z])) e⟩) (λ_ _ e=>e) (λ_ _ _ e=>e) (λb ps e=>⟨#[],by rw[e];simp⟩) (λm hm=>?_) (λb u e=>?_) I.bare
 ·have e:b=it:=by simpa using hb
  subst e;exact⟨h1,hL,h2,h3⟩
 ·obtain⟨o,es,ep,ho,r⟩:=hm;exact⟨o,es,ep,k _ o (Uo hL) ho,r⟩
 ·refine(I.hok b u e).stay (λc v hc q=>k c v ?_ q) (λ_ q=>q) λ_ _ q=>q
  rcases hc with z|z
  ·rw[z];exact Pd b u e
  ·exact Pd c _ z
theorem Inv.tok(I:Inv X pins J H s)(t:Nat):Inv X pins J H {s with toks:=t}:=I.un (h':=s.heap) (t':=t) Un.refl I.hok
theorem Inv.kept(I:Inv X pins J H s)(k:∀b u,s.heap.get? b=O u->h'.get? b=O u):Inv X pins J H {s with heap:=h',toks:=t'}:=I.un (Un.kept k) (I.hok.kept k)
theorem Inv.laid(I:Inv X pins J H s)(k:∀b u,s.heap.get? b=O u->h'.get? b=O u)(hp:s.heap.objs.size<=a)(new:gk X.prog X.w (upd H a o) h' a o):
  Inv X pins J (upd H a o) {s with heap:=h',toks:=t'}:=I.un (Un.laid k hp (I.hok.fresh hp)) (I.hok.laid k hp new)
theorem Inv.write(I:Inv X pins J H s)(mu:D5 (H x))(he:e=x\/H e=O (.own x))(k:∀b u,b≠e->s.heap.get? b=O u->h'.get? b=O u)(uH:∃u,h'.get? e=O u)(new:gk X.prog X.w (upd H x o) h' x o):Inv X pins J (upd H x o) {s with heap:=h',toks:=t'}:=I.un (Un.write mu he k uH) (I.hok.write mu he k uH new)
theorem Inv.Ab(I:Inv X pins J H s)(h:∀p∈FQ,s.heap.get? p.1=O p.2/\H p.1=Z/\p.1≠X.env.locals/\p.1∉X.fs/\∀v,p.2.data≠.cell v):Inv X FQ J H s :=
 ⟨I.ok,I.os,I.bare,I.base,I.loc,I.cell,I.free,I.jD,λp hp=>(US.mp hp).elim (λz=>I.pin p (WL _ z)) (h p),I.hok,I.len⟩
theorem O4{N:List Str}(hN:N.Nodup){i j:Nat}(a:N[i]? = O x)(b:N[j]? = O x):i=j:=by
 obtain⟨h1,e1⟩:=U3.mp a;obtain⟨h2,e2⟩:=U3.mp b;exact(Xf hN).mp (e1.trans e2.symm)
theorem LK{M:Model}{A:ω}{E:Δ->Ψ->Prop}{Q:Unit->Ψ->Prop}(I:Inv X pins J H s)(hN:X.N.Nodup)(hi:X.N[i]? = O x)(hx:Loc X.env.scope x)(r:RelV v u)(h:∀s',Inv X pins (J.set i (O v)) H s'->(∃a,Vl a s.heap s'.heap/\(a=X.env.locals\/X.env.cells.lookup x=O a))->Q () s')(hf:X.fn x=G\/X.env.scope.names.lookup x=O .local:=by first|exact .inl rfl|exact .inr rfl|assumption):wpAny M A (storeName X.env x u) Q E s:=by
 obtain⟨m,hn,hl⟩:=id I.loc;have hcls:(X.env.scope.kind == .class||(X.env.scope.kind == .module&&X.env.locals != X.env.globals))=ξ:=by rw[I.ok.kind];rfl
 have Q2:i<J.length:=by rw[I.len];exact(U3.mp hi).1
 have qg:=I.qg;have tracked:∀{a:Ξ}{h':τ},(∃o,s.heap.get? a=O o/\H a=Z)->Vl a s.heap h'->eG X.prog X.w H h':=fun{a h'} ha hs b ob e=>by
  obtain⟨_,_,hfree⟩:=ha;refine(I.hok b ob e).stay (λc w' hc q=>(hs.2 c ?_).trans q) (λ_ q=>q) λ_ _ q=>q
  rintro rfl
  rcases hc with rfl|hc
  ·rw[hfree]at e;cases e
  ·rw[hfree]at hc;cases hc
 rcases hx with hk|hk
 ·refine wpAny_storeName_local hk hn (λh' hn' hs=>?_) hcls
  obtain⟨oL,_,_,xY,_⟩:=id hn;refine h _ ⟨I.ok,I.os,I.bare,⟨λb o e n hb hx=>?_,λb o e n hb hx=>?_,I.base.free,λb o e hx=>?_,I.base.tups,I.base.jC,I.base.jO⟩,⟨_,hn',λj y v' e1 e2 e3=>?_⟩,λy c e=>?_,I.free,I.jD,λp hp=>?_,tracked ⟨oL,xY,I.free⟩ hs,by simpa using I.len⟩ ⟨_,hs,.inl rfl⟩
  ·exact(hs.2 b (T3 (TY (IT e) I.ok.above))).trans (I.base.keep b o e n hb hx)
  ·obtain⟨sl,e1⟩:=I.base.slot b o e n hb hx;exact⟨sl,(hs.2 b (T3 (TY (IT e) I.ok.above))).trans e1⟩
  ·obtain⟨o',e1⟩:=I.base.there b o e hx;exact⟨o',(hs.2 b (T3 (TY (IT e) I.ok.above))).trans e1⟩
  ·by_cases hj:j=i
   ·subst hj;rw[hi]at e1;cases e1;rw[Ux Q2]at e2;cases e2;exact⟨u,r,.inl ⟨hk,by simp⟩⟩
   ·rw[Ue (Uo hj)]at e2;obtain⟨u',r',q⟩:=hl j y v' e1 e2 e3;refine⟨u',r',?_⟩
    rcases q with⟨k,e⟩|⟨k,c,e,z⟩
    ·refine .inl ⟨k,?_⟩;have:y≠x:=λe=>hj (O4 hN e1 (e▸hi))
     simp[this,e]
    ·exact .inr ⟨k,c,e,z.sameBut hs (qg y c e)⟩
  ·obtain⟨w',z⟩:=I.cell y c e;exact⟨w',z.sameBut hs (qg y c e)⟩
  ·obtain⟨e,n,ne,nf,d⟩:=I.pin p hp;exact⟨(hs.2 p.1 ne).trans e,n,ne,nf,d⟩
 ·have hfn:X.fn x=G:=by
   rcases hf with z|z
   ·exact z
   ·rw[z]at hk;cases hk
  obtain⟨c,hc⟩:=I.ok.has x (.inl hk);obtain⟨w',z⟩:=I.cell x c hc;refine wpAny_storeName_cell I.ok.kind hk hc z (λh' hc' hs=>?_)
  obtain⟨oc,hoc,aeq⟩:=id z;refine h {s with heap:=h'} ⟨I.ok,I.os,I.bare,⟨λb o e n hb hx=>?_,λb o e n hb hx=>?_,I.base.free,λb o e hx=>?_,I.base.tups,I.base.jC,I.base.jO⟩,⟨m,hn.sameBut hs (Uo (qg x c hc)),λj y v' e1 e2 e3=>?_⟩,λy c' e=>?_,I.free,I.jD,λp hp=>?_,tracked ⟨oc,hoc,I.jD x c hc⟩ hs,by simpa using I.len⟩ ⟨c,hs,.inr hc⟩
  ·exact(hs.2 b (T3 (TY (IT e) (I.ok.qh x c hfn hc)))).trans (I.base.keep b o e n hb hx)
  ·obtain⟨sl,e1⟩:=I.base.slot b o e n hb hx;exact⟨sl,(hs.2 b (T3 (TY (IT e) (I.ok.qh x c hfn hc)))).trans e1⟩
  ·obtain⟨o',e1⟩:=I.base.there b o e hx;exact⟨o',(hs.2 b (T3 (TY (IT e) (I.ok.qh x c hfn hc)))).trans e1⟩
  ·by_cases hj:j=i
   ·subst hj;rw[hi]at e1;cases e1;rw[Ux Q2]at e2;cases e2;exact⟨u,r,.inr ⟨.inl hk,c,hc,hc'⟩⟩
   ·rw[Ue (Uo hj)]at e2;obtain⟨u',r',q⟩:=hl j y v' e1 e2 e3;refine⟨u',r',?_⟩
    rcases q with q|⟨k,c',e,z'⟩
    ·exact .inl q
    ·refine .inr ⟨k,c',e,z'.sameBut hs ?_⟩
     rintro rfl
     exact hj (O4 hN e1 (I.ok.inj _ _ _ e hc▸hi))
  ·by_cases hcc:c'=c
   ·subst hcc;exact⟨_,hc'⟩
   ·obtain⟨w2,z2⟩:=I.cell y c' e;exact⟨w2,z2.sameBut hs hcc⟩
  ·obtain⟨e,n,ne,nf,d⟩:=I.pin p hp;refine⟨(hs.2 p.1 ?_).trans e,n,ne,nf,d⟩;intro q;rw[q,hoc]at e;have q':oc=p.2:=U9 e;exact d w' (by rw[<-q'];exact aeq)
theorem LL{M:Model}{A:ω}{E:Δ->Ψ->Prop}{Q:Unit->Ψ->Prop}(I:Inv X pins J H s)(hN:X.N.Nodup)(hi:X.N[i]? = O x)(hx:Loc X.env.scope x)(r:RelV v u)(h:∀s',Inv X pins (J.set i (O v)) H s'->Q () s')(hf:X.fn x=G\/X.env.scope.names.lookup x=O .local:=by first|exact .inl rfl|exact .inr rfl|assumption):wpAny M A (storeName X.env x u) Q E s :=
 LK I hN hi hx r (λs' I' _=>h s' I') hf
theorem Inv.Ih{s':Ψ}(I:Inv X pins J H s)(ho:s'.os=s.os)(u:Un (frs X.stack) ch H H' s.heap s'.heap)(hok:eG X.prog X.w H' s'.heap)(hg:VZ s'.gens)(hch:∀b∈ch,(b∈X.ex\/X.s₀.heap.objs.size<=b)/\b≠X.env.locals/\(∀x c,X.env.cells.lookup x=O c->c≠b)/\∀p∈X.pn++pins,p.1≠b):Inv X pins J H' s':=by
 obtain⟨h',g',d',t',o'⟩:=s';have e:o'=s.os:=ho;subst e;exact I.call (g':=g') (t':=t') (d':=d') u hok hg hch
end
abbrev XK:=Δ->Option Ξ->Hp->Prop
abbrev St:=List (Option V)
abbrev VK:=V->Hp->Prop
abbrev TE:=St->Hp->VK->Prop
abbrev TT:=St->Hp->(Bool->Hp->Prop)->Prop
abbrev TA:=St->Hp->(List V->Hp->Prop)->Prop
structure Ends where
 nx:St->Hp->Prop
 rt:VK
 bk:St->Hp->Prop:=λ_ _=>False
 ct:St->Hp->Prop:=λ_ _=>False
abbrev TS:=Ends->St->Hp->Prop
def EP(X:Cx)(pins:List (Ξ×Obj))(J:St)(Q:VK)(u:Δ)(s':Ψ):Prop:=∃v H',Inv X pins J H' s'/\RelV v u/\Q v H'
def TP(X:Cx)(pins:List (Ξ×Obj))(J:St)(Q:Bool->Hp->Prop)(b:Bool)(s':Ψ):Prop:=∃H',Inv X pins J H' s'/\Q b H'
def akx(X:Cx)(pins:List (Ξ×Obj))(J:St)(Q:List V->Hp->Prop)(us:List Δ)(s':Ψ):Prop:=∃vs H',Inv X pins J H' s'/\Vals vs us/\Q vs H'
def SP(X:Cx)(pins:List (Ξ×Obj))(D:Ends)(f:Flow)(s':Ψ):Prop :=
 match f with
 |.next=>∃σ' H',Inv X pins σ' H' s'/\D.nx σ' H'
 |.brk=>∃σ' H',Inv X pins σ' H' s'/\D.bk σ' H'
 |.cont=>∃σ' H',Inv X pins σ' H' s'/\D.ct σ' H'
 |.ret u=>∃v σ' H',Inv X pins σ' H' s'/\RelV v u/\D.rt v H'
def PE(X:Cx)(e:ν)(t:TE):Prop :=
 ∀(pins:List (Ξ×Obj)) (s:Ψ) (J:St) (H:Hp) (Q:VK),Inv X pins J H s->t J H Q->wpAny (model X.prog X.w) X.A (eval e X.env) (EP X pins J Q) X.xe s
def PT(X:Cx)(e:ν)(t:TT):Prop :=
 ∀(pins:List (Ξ×Obj)) (s:Ψ) (J:St) (H:Hp) (Q:Bool->Hp->Prop),Inv X pins J H s->t J H Q->wpAny (model X.prog X.w) X.A (isTrue e X.env (eval e X.env)) (TP X pins J Q) X.xe s
def PW(X:Cx)(e:ν)(t:TT):Prop :=
 ∀(whole:Sem Δ) (pins:List (Ξ×Obj)) (s:Ψ) (J:St) (H:Hp) (Q:Bool->Hp->Prop),Inv X pins J H s->t J H Q->wpAny (model X.prog X.w) X.A (isTrue e X.env whole) (TP X pins J Q) X.xe s
theorem PW.pt(h:PW X e t):PT X e t:=h _
def PA(X:Cx)(es:List ν)(t:TA):Prop :=
 ∀(pos:Pos) (pins:List (Ξ×Obj)) (s:Ψ) (J:St) (H:Hp) (Q:List V->Hp->Prop),Inv X pins J H s->t J H Q->wpAny (model X.prog X.w) X.A (spliced (U4 pos (ε es X.env))) (akx X pins J Q) X.xe s
def PS(X:Cx)(st:χ)(t:TS):Prop :=
 ∀(pins:List (Ξ×Obj)) (s:Ψ) (J:St) (H:Hp) (D:Ends),Inv X pins J H s->t D J H->wpAny (model X.prog X.w) X.A (exec st X.env) (SP X pins D) X.xe s
def gX(X:Cx)(st:List χ)(t:TS):Prop :=
 ∀(pins:List (Ξ×Obj)) (s:Ψ) (J:St) (H:Hp) (D:Ends),Inv X pins J H s->t D J H->wpAny (model X.prog X.w) X.A (execs st X.env) (SP X pins D) X.xe s
theorem bJ{α:Type}{t:Sem α}{Q Q':α->Ψ->Prop}{M:Model}{A:ω}{E:Δ->Ψ->Prop}{s:Ψ}(h:wpAny M A t Q E s)(hQ:∀a s,Q a s->Q' a s):wpAny M A t Q' E s:=UW h hQ λ_ _ x=>x
section
variable {X:Cx}
def alG(i:Nat):TE:=λJ H Q=>∃v,J[i]? = O (O v)/\Q v H
def tC(v:V):TE:=λ_ H Q=>Q v H
theorem FW{pos:Pos}(hN:X.N[i]? = O x)(hv:yY X.env.scope x)(hd:(x==("__debug__":Str))=ξ:=by decide)(hcd:(x==("__classdict__":Str))=ξ:=by decide):PE X (.Name x pos) (alG i):=by
 intro pins s J H Q I h;obtain⟨v,e,h⟩:=h;obtain⟨m,hn,hl⟩:=I.loc;obtain⟨u,r,l⟩:=hl i x v hN e hv;have fin:EP X pins J Q u s:=⟨v,H,I,r,h⟩
 rcases l with⟨hk,hm⟩|⟨hk,c,hc,hcell⟩
 ·exact wpAny_Name (wpAny_loadName_local I.ok.kind hk hn hm fin) hd
 ·rcases hk with hk|hk
  ·exact wpAny_Name (wpAny_loadName_cell I.ok.kind hk hc hcell fin) hd
  ·exact wpAny_Name (wpAny_loadName_free I.ok.kind hk hc hcell fin hcd) hd
theorem NW{i j pos}:PE X (.Constant (.int i) j pos) (tC (.int i)):=λ_ _ _ H _ I h=>wpAny_Constant_int ⟨.int i,H,I.tok _,⟨_,rfl⟩,h⟩
theorem anZ{b j pos}:PE X (.Constant (.bool b) j pos) (tC (.bl b)):=λ_ _ _ H _ I h=>Constant_bool ⟨.bl b,H,I,rfl,h⟩
theorem apr{j pos}:PE X (.Constant .none j pos) (tC .aJ):=λ_ _ _ H _ I h=>Constant_none ⟨.aJ,H,I,rfl,h⟩
theorem apw{x j pos}:PE X (.Constant (.str x) j pos) (tC (.str x)):=λ_ _ _ H _ I h=>Calls.Constant_str ⟨.str x,H,I.tok _,⟨_,rfl⟩,h⟩
def Gl(X:Cx)(x:Str):Prop:=X.env.kindOf x=O .globalImplicit
theorem GO{E:Δ->Ψ->Prop}{pos:Pos}{Q:Δ->Ψ->Prop}(I:Inv X pins J H s)(hg:Gl X x)(hm:X.mg x=O u)(h:Q u s)(hd:(x==("__debug__":Str))=ξ:=by decide):wpAny (model X.prog X.w) X.A (eval (.Name x pos) X.env) Q E s :=
 s9 I.ok.kind hg (Calls.loadGlobal_global (by rw[I.ok.glob];exact I.mod.glob.keeps I.bk) hm h) hd
theorem kO{E:Δ->Ψ->Prop}{pos:Pos}{Q:Δ->Ψ->Prop}(I:Inv X pins J H s)(hg:Gl X x)(hm:X.mg x=Z)(hv:bootBuiltins x=O u)(h:Q u s)(hn:x≠"__name__":=by decide)(hd:(x==("__debug__":Str))=ξ:=by decide):wpAny (model X.prog X.w) X.A (eval (.Name x pos) X.env) Q E s:=by
 obtain⟨mb,h1,h2⟩:=I.mod.blt;exact s9 I.ok.kind hg (Calls.loadGlobal_builtin (by rw[I.ok.glob];exact I.mod.glob.keeps I.bk) hm (by rw[I.ok.blt];exact h1.keeps I.bk) ((h2 x hn).trans hv) h) hd
theorem Ad{pos:Pos}(hg:Gl X x)(hm:X.mg x=O u)(r:RelV v u)(hd:(x==("__debug__":Str))=ξ:=by decide):PE X (.Name x pos) (tC v) :=
 λ_ _ _ H _ I h=>GO I hg hm ⟨v,H,I,r,h⟩ hd
theorem ao0{pos:Pos}(hg:Gl X x)(hm:X.mg x=Z)(hv:bootBuiltins x=O u)(r:RelV v u)(hn:x≠"__name__":=by decide)(hd:(x==("__debug__":Str))=ξ:=by decide):PE X (.Name x pos) (tC v) :=
 λ_ _ _ H _ I h=>kO I hg hm hv ⟨v,H,I,r,h⟩ hn hd
variable {a b:ν}{ta tb:TE}{pos:Pos}
def tB(t:TE):TT:=λJ H Q=>t J H λx H1=>∃c,x=.bl c/\Q c H1
theorem aoi(h:PE X e t)(he:∀whole,isTrue e X.env whole=(do let v <-whole;standAt e.pos;holding [v] (truthy v)):=by intro _;rfl):PT X e (tB t):=by
 intro pins s J H Q I hw;refine isTrue_plain (bJ (h pins s J H _ I hw) λv s1 ⟨x,H1,I1,r1,q1⟩=>?_) (he _)
 obtain⟨d,rfl,q⟩:=q1;cases r1;exact VW ⟨H1,I1,q⟩
variable {tA zL:TT}{rest:List ν}
def adV(t u:TT):TT:=λJ H Q=>t J H λc H1=>if c=G then u J H1 Q else Q ξ H1
def alT(t u:TT):TT:=λJ H Q=>t J H λc H1=>if c=G then Q G H1 else u J H1 Q
def alR(t:TT):TT:=λJ H Q=>t J H λc H1=>Q (!c) H1
theorem aom(ha:PT X a tA):PW X (.BoolOp .And [a] pos) tA:=by
 intro wh pins s J H Q I h;refine isTrue_and (bJ (ha pins s J H Q I h) λc s1 e=>?_)
 cases c with
 |true=>exact isTrue_and_nil e
 |false=>exact e
theorem aoo(ha:PT X a tA):PW X (.BoolOp .Or [a] pos) tA:=by
 intro wh pins s J H Q I h;refine isTrue_or (bJ (ha pins s J H Q I h) λc s1 e=>?_)
 cases c with
 |false=>exact isTrue_or_nil e
 |true=>exact e
theorem aol(ha:PT X a tA)(hb:PW X (.BoolOp .And (b::rest) pos) zL):PW X (.BoolOp .And (a::b::rest) pos) (adV tA zL):=by
 intro wh pins s J H Q I h;refine isTrue_and (bJ (ha pins s J H _ I h) λc s1 ⟨H1,I1,q1⟩=>?_)
 cases c with
 |true=>exact hb wh pins s1 J H1 Q I1 q1
 |false=>exact⟨H1,I1,q1⟩
theorem aon(ha:PT X a tA)(hb:PW X (.BoolOp .Or (b::rest) pos) zL):PW X (.BoolOp .Or (a::b::rest) pos) (alT tA zL):=by
 intro wh pins s J H Q I h;refine isTrue_or (bJ (ha pins s J H _ I h) λc s1 ⟨H1,I1,q1⟩=>?_)
 cases c with
 |true=>exact⟨H1,I1,q1⟩
 |false=>exact hb wh pins s1 J H1 Q I1 q1
theorem aog(ha:PT X a tA):PT X (.UnaryOp .Not a pos) (alR tA):=by
 intro pins s J H Q I h;exact isTrue_not (ha pins s J H (λc H1=>Q (!c) H1) I h)
def aeg(ta tb:TE):TE:=λJ H Q=>ta J H λx H1=>∃c,x=.bl c/\if c=G then tb J H1 Q else Q (.bl ξ) H1
def alS(ta:TE):TE:=λJ H Q=>ta J H λx H1=>∃c,x=.bl c/\Q (.bl (!c)) H1
theorem apt{op}(h:PE X a t):PE X (.BoolOp op [a] pos) t:=λpins s J H Q I hw=>BoolOp_one (h pins s J H Q I hw)
theorem anY(ha:PE X a ta)(hb:PE X (.BoolOp .And (b::rest) pos) tb):PE X (.BoolOp .And (a::b::rest) pos) (aeg ta tb):=by
 intro pins s J H Q I h;refine BoolOp_and (bJ (ha pins s J H _ I h) λv s1 ⟨x,H1,I1,r1,q1⟩=>?_)
 obtain⟨c,rfl,q1⟩:=q1;cases r1;refine VW ?_;cases c with
 |true=>exact hb pins s1 J H1 Q I1 q1
 |false=>exact⟨.bl ξ,H1,I1,rfl,q1⟩
theorem aps(ha:PE X a ta):PE X (.UnaryOp .Not a pos) (alS ta):=by
 intro pins s J H Q I h;refine UnaryOp_ (bJ (ha pins s J H _ I h) λv s1 ⟨x,H1,I1,r1,q1⟩=>?_)
 obtain⟨c,rfl,q1⟩:=q1;cases r1;exact not_of (VW ⟨.bl (!c),H1,I1,rfl,q1⟩)
def aea(t:TT)(ta tb:TE):TE:=λJ H Q=>t J H λc H1=>if c=G then ta J H1 Q else tb J H1 Q
theorem apo(hc:PT X c tA)(ha:PE X a ta)(hb:PE X b tb):PE X (.IfExp c a b pos) (aea tA ta tb):=by
 intro pins s J H Q I h;refine wpAny_IfExp (bJ (hc pins s J H _ I h) λd s1 ⟨H1,I1,q1⟩=>?_)
 cases d with
 |true=>exact ha pins s1 J H1 Q I1 q1
 |false=>exact hb pins s1 J H1 Q I1 q1
end
def bQ(K:Γ)(H:Hp)(a:Ξ)(xs:List V):Prop :=
 Rd H a (.lst xs) \/
  ∃(o:Obj) (its:Array Δ) (n:Nat),K.lookup a=O o/\o.cls=.type "list"/\o.dict=Z/\o.data=.seq its n/\its.size<=Ω/\Vals xs its.toList
def cF(K:Γ)(H:Hp)(a:Ξ)(xs:List V):Prop :=
 Rd H a (.tup xs) \/
  ∃(o:Obj) (its:Array Δ) (n:Nat),K.lookup a=O o/\o.cls=.type "tuple"/\o.data=.seq its n/\its.size<=Ω/\Vals xs its.toList
def aib:Δ->Option V
 |.none=>O .aJ
 |.bool b=>O (.bl b)
 |.int i _=>O (.int i)
 |.str x _=>O (.str x)
 |.bytes b _=>O (.jE b)
 |.float b _=>O (.uP b)
 |.ref a=>O (.ref a)
 |.type n=>O (.ty n)
 |_=>Z
theorem RelV.abs(r:RelV x u):aib u=O x:=by
 cases x with
 |aJ=>cases r;rfl
 |bl _=>cases r;rfl
 |int _=>obtain⟨t,rfl⟩:=r;rfl
 |str _=>obtain⟨t,rfl⟩:=r;rfl
 |jE _=>obtain⟨t,rfl⟩:=r;rfl
 |uP _=>obtain⟨t,rfl⟩:=r;rfl
 |ref _=>cases r;rfl
 |ty _=>cases r;rfl
theorem RelV.inj(r:RelV x u)(q:RelV y u):x=y:=U9 (r.abs.symm.trans q.abs)
theorem Vals.inj:∀{xs ys:List V}{us:List Δ},Vals xs us->Vals ys us->xs=ys
 |_,_,_,.nil,.nil=>rfl
 |_,_,_,.cons r t,.cons r' t'=>by rw[r.inj r',Vals.inj t t']
section
variable {X:Cx}{pins:List (Ξ×Obj)}{J:St}{H:Hp}{s:Ψ}{a:Ξ}{xs ys:List V}
theorem bQ.of{K:Γ}(h:H a=O (.lst xs)):bQ K H a xs:=.inl (.inl h)
theorem cF.of{K:Γ}(h:H a=O (.tup xs)):cF K H a xs:=.inl (.inl h)
theorem Inv.list(I:Inv X pins J H s)(h:bQ X.K H a xs):∃its:List Δ,Vals xs its/\PlainL s.heap a its.toArray/\xs.length<=Ω:=by
 rcases h with h|⟨o,its,n,hk,hc,hd,hs,hz,r⟩
 ·obtain⟨z,its,n,r,e⟩:=h.ok I.hok;exact⟨its,r,⟨_,n,e,rfl,rfl,rfl⟩,z⟩
 ·refine⟨its.toList,r,⟨o,n,I.fK a o hk,hc,hd,by simpa using hs⟩,?_⟩
  have e:=r.length;simp only[U8]at e;omega
theorem Inv.tuple(I:Inv X pins J H s)(h:cF X.K H a xs):∃its:List Δ,Vals xs its/\IsTup s.heap a its.toArray/\xs.length<=Ω:=by
 rcases h with h|⟨o,its,n,hk,hc,hs,hz,r⟩
 ·obtain⟨z,its,r,p⟩:=h.ok I.hok;exact⟨its,r,p.tup,z⟩
 ·refine⟨its.toList,r,⟨o,I.fK a o hk,hc,n,by simpa using hs⟩,?_⟩
  have e:=r.length;simp only[U8]at e;omega
theorem Inv.GN(I:Inv X pins J H s)(h:bQ X.K H a xs)(h':bQ X.K H a ys):xs=ys:=by
 obtain⟨its,r,⟨o,n,e,_,_,d⟩,_⟩:=I.list h;obtain⟨its',r',⟨o',n',e',_,_,d'⟩,_⟩:=I.list h';rw[e]at e';cases e';rw[d]at d'
 injection d' with d1 _
 have:its=its':=by simpa using congrArg Array.toList d1
 subst this;exact r.inj r'
theorem Inv.Ld(I:Inv X pins J H s)(h:cF X.K H a xs)(h':cF X.K H a ys):xs=ys:=by
 obtain⟨its,r,⟨o,e,_,n,d⟩,_⟩:=I.tuple h;obtain⟨its',r',⟨o',e',_,n',d'⟩,_⟩:=I.tuple h';rw[e]at e';cases e';rw[d]at d'
 injection d' with d1 _
 have:its=its':=by simpa using congrArg Array.toList d1
 subst this;exact r.inj r'
end
abbrev Cx.lG(X:Cx)(E:Δ->Ψ->Prop):Cx:={X with xe:=E}
abbrev Cx.lY(X:Cx):Cx:=X.lG λ_ _=>False
theorem Cx.Ok.lG{X:Cx}(ok:X.Ok)(E:Δ->Ψ->Prop):(X.lG E).Ok :=
 ⟨ok.mod,ok.kind,ok.glob,ok.blt,ok.above,ok.inj,ok.has,ok.qh,ok.hd,ok.frames,ok.stk,ok.yk,ok.bs,ok.ji,ok.nt,ok.uV,ok.iZ,ok.mz⟩
theorem Cx.Ok.ou{X:Cx}{E:Δ->Ψ->Prop}(ok:(X.lG E).Ok):X.Ok :=
 ⟨ok.mod,ok.kind,ok.glob,ok.blt,ok.above,ok.inj,ok.has,ok.qh,ok.hd,ok.frames,ok.stk,ok.yk,ok.bs,ok.ji,ok.nt,ok.uV,ok.iZ,ok.mz⟩
section
variable {X:Cx}{pins:List (Ξ×Obj)}{J:St}{H:Hp}{s:Ψ}{E:Δ->Ψ->Prop}
theorem Inv.lG(I:Inv X pins J H s)(E:Δ->Ψ->Prop):Inv (X.lG E) pins J H s:=⟨I.ok.lG E,I.os,I.bare,I.base,I.loc,I.cell,I.free,I.jD,I.pin,I.hok,I.len⟩
theorem Inv.ou(I:Inv (X.lG E) pins J H s):Inv X pins J H s:=⟨I.ok.ou,I.os,I.bare,I.base,I.loc,I.cell,I.free,I.jD,I.pin,I.hok,I.len⟩
theorem SP.ou{D:Ends}(h:SP (X.lG E) pins D f s'):SP X pins D f s':=by
 cases f with
 |next=>obtain⟨σ',H',I,q⟩:=h;exact⟨σ',H',I.ou,q⟩
 |brk=>obtain⟨σ',H',I,q⟩:=h;exact⟨σ',H',I.ou,q⟩
 |cont=>obtain⟨σ',H',I,q⟩:=h;exact⟨σ',H',I.ou,q⟩
 |ret u=>obtain⟨v,σ',H',I,r,q⟩:=h;exact⟨v,σ',H',I.ou,r,q⟩
theorem gX.lY{st:List χ}(h:gX X.lY st t):gX X st t:=λpins s J H D I hw =>
 UW (h pins s J H D (I.lG _) hw) (λ_ _ q=>q.ou) λ_ _ z=>False.elim z
end
section
variable {X:Cx}{st:χ}{rest:List χ}{t u:TS}{e:ν}{te:TE}{pos:Pos}
def alO:TS:=λD J H=>D.nx J H
def alW(t u:TS):TS:=λD J H=>t {D with nx:=u D} J H
theorem aoc:gX X [] alO:=λ_ _ J H _ I h=>Xe ⟨J,H,I,h⟩
theorem aob(h1:PS X st t)(h2:gX X rest u):gX X (st::rest) (alW t u):=by
 intro pins s J H D I h;refine wpAny_execs_cons (bJ (h1 pins s J H {D with nx:=u D} I h) λf s1 q=>?_)
 cases f with
 |next =>
  obtain⟨σ',H',I',q⟩:=q;exact h2 pins s1 σ' H' D I' q
 |ret v=>exact q
 |brk=>exact q
 |cont=>exact q
theorem aod(h1:PS X st t):gX X [st] t:=by
 intro pins s J H D I h;refine wpAny_execs_cons (bJ (h1 pins s J H D I h) λf s1 q=>?_)
 cases f with
 |next=>exact Xe q
 |ret v=>exact q
 |brk=>exact q
 |cont=>exact q
theorem Inv.quiet(I:Inv X pins J H s):interactive X.env=ξ:=by simp[interactive,I.ok.kind]
def aly(te:TE):TS:=λD J H=>te J H λ_ H1=>D.nx J H1
theorem aeE(he:PE X e te)(hs:swapsWith e Z pos.line X.env=pure ξ:=by rfl):PS X (.Expr e pos) (aly te):=by
 intro pins s J H D I h;exact wpAny_Expr_any (bJ (he pins s J H _ I h) λv s1 ⟨x,H1,I1,r1,q1⟩=>⟨J,H1,I1,q1⟩) I.quiet hs
def alV(te:TE):TS:=λD J H=>te J H D.rt
theorem aeu(he:PE X e te):PS X (.Return (O e) pos) (alV te):=by
 intro pins s J H D I h;exact wpAny_Return_some (bJ (he pins s J H _ I h) λv s1 ⟨x,H1,I1,r1,q1⟩=>⟨x,J,H1,I1,r1,q1⟩)
def aek(c:TT)(t u:TS):TS:=λD J H=>c J H λb H1=>if b=G then t D J H1 else u D J H1
theorem aee(hc:PT X c tc)(ha:gX X a t)(hb:gX X b u):PS X (.If c a b pos) (aek tc t u):=by
 intro pins s J H D I h;refine wpAny_If (bJ (hc pins s J H _ I h) λd s1 ⟨H1,I1,q1⟩=>?_)
 cases d with
 |true=>exact ha pins s1 J H1 D I1 q1
 |false=>exact hb pins s1 J H1 D I1 q1
end
abbrev TG:=V->St->Hp->(St->Hp->Prop)->Prop
abbrev nY:=List V->St->Hp->(St->Hp->Prop)->Prop
def PG(X:Cx)(target:ν)(t:TG):Prop :=
 ∀(pins:List (Ξ×Obj)) (s:Ψ) (J:St) (H:Hp) (v:V) (u:Δ) (Q:St->Hp->Prop),Inv X pins J H s->RelV v u->t v J H Q ->
  wpAny (model X.prog X.w) X.A (assign target X.env u) (λ_ s'=>∃σ' H',Inv X pins σ' H' s'/\Q σ' H') X.xe s
def qq(X:Cx)(ts:List ν)(t:nY):Prop :=
 ∀(pins:List (Ξ×Obj)) (s:Ψ) (J:St) (H:Hp) (vs:List V) (us:List Δ) (Q:St->Hp->Prop),Inv X pins J H s->Vals vs us->t vs J H Q ->
  wpAny (model X.prog X.w) X.A (assignInOrder ((assignEach ts X.env).map (·.2)) us) (λ_ s'=>∃σ' H',Inv X pins σ' H' s'/\Q σ' H') X.xe s
abbrev J7:=V->V->V->Hp->(Hp->Prop)->Prop
def Tz(X:Cx)(t:J7):Prop :=
 ∀(pins:List (Ξ×Obj)) (s:Ψ) (J:St) (H:Hp) (o i v:V) (ov iv u:Δ) (Q:Hp->Prop),Inv X pins J H s->RelV o ov->RelV i iv->RelV v u->t o i v H Q ->
  wpAny (model X.prog X.w) X.A (setItem ov iv u) (λ_ s'=>∃H',Inv X pins J H' s'/\Q H') X.xe s
section
variable {X:Cx}{pos:Pos}
def RB(i:Nat):TG:=λv J H Q=>Q (J.set i (O v)) H
theorem aej(hN:X.N.Nodup)(hi:X.N[i]? = O x)(hx:Loc X.env.scope x)(hf:X.fn x=G\/X.env.scope.names.lookup x=O .local:=by first|exact .inl rfl|exact .inr rfl|assumption):PG X (.Name x pos) (RB i):=by
 intro pins s J H v u Q I r h;exact wpAny_assign_Name (LL I hN hi hx r (λs' I'=>⟨_,H,I',h⟩) hf)
def afm:nY:=λvs J H Q=>vs=[]/\Q J H
def afn(t:TG)(u:nY):nY:=λvs J H Q=>∃v r,vs=v::r/\t v J H λσ' H'=>u r σ' H' Q
theorem an3:qq X [] afm:=by
 intro pins s J H vs us Q I r h;obtain⟨e,h⟩:=h;subst e;cases r;exact assignInOrder_nil ⟨J,H,I,h⟩
theorem an2(h1:PG X e t)(h2:qq X es u)(hs:(assignEach (e::es) X.env).map (·.2)=assign e X.env::(assignEach es X.env).map (·.2):=by rfl):qq X (e::es) (afn t u):=by
 intro pins s J H vs us Q I r h;obtain⟨v,vr,e1,h⟩:=h;subst e1;cases r with
 |cons r rr =>
  rw[hs];refine assignInOrder_cons (bJ (h1 pins s J H _ _ _ I r h) λ_ s1 ⟨σ1,H1,I1,q1⟩=>?_)
  exact h2 pins s1 σ1 H1 _ _ Q I1 rr q1
def afk(K:Γ)(n:Nat)(t:nY):TG:=λv J H Q=>∃a xs,v=.ref a/\cF K H a xs/\xs.length=n/\t xs J H Q
theorem an1(hc:X.calm=G)(h:qq X es t)(hn:(assignEach es X.env).length=n:=by rfl)(hst:(assignEach es X.env).findIdx? (·.1)=Z:=by rfl):PG X (.Tuple es k pos) (afk X.K n t):=by
 intro pins s J H v u Q I r hw;obtain⟨a,xs,e1,hq,hl,hw⟩:=hw;subst e1;cases r;obtain⟨its,rv,ht,hz⟩:=I.tuple hq;refine assign_Tuple_tuple (I.ok.hd hc) ht (by simp[hn,<-hl,rv.length]) hst λh' hx=>?_
 have I1:Inv X pins J H {s with heap:=h'}:=I.kept (t':=s.toks) λb o e=>hx b o (T3 (IT e)) e
 exact h pins _ J H xs _ Q I1 (by simpa using rv) hw
def afl(to ti:TE)(t:J7):TG:=λv J H Q=>to J H λo H1=>ti J H1 λi H2=>t o i v H2 λH3=>Q J H3
theorem an0(ho:PE X o to)(hi:PE X i ti)(hs:Tz X t)(ha:∀v,assign (.Subscript o i pos) X.env v=(do
   let ov <-holding [v] (eval o X.env)
   let iv <-holding [v,ov] (eval i X.env)
   standAt pos
   holding [v,ov,iv] (setItem ov iv v)
   release [v,ov,iv] []):=by intro _;rfl):PG X (.Subscript o i pos) (afl to ti t):=by
 intro pins s J H v u Q I r h;rw[ha];refine bf (Ur (bJ (ho pins s J H _ I h) λov s1 ⟨x,H1,I1,r1,q1⟩=>?_))
 refine bf (Ur (bJ (hi pins s1 J H1 _ I1 q1) λiv s2 ⟨y,H2,I2,r2,q2⟩=>?_))
 refine bf (Z9 (bf (Ur (bJ (hs pins s2 J H2 x y v ov iv u _ I2 r1 r2 r q2) λ_ s3 ⟨H3,I3,q3⟩=>?_))))
 exact wpAny_release ⟨J,H3,I3,q3⟩
def Lz(te:TE)(g:TG):TS:=λD J H=>te J H λx H1=>g x J H1 D.nx
theorem aeD(he:PE X e te)(hg:PG X tg g)(hs:swapsWithSole [tg] e pos.line X.env=pure ξ:=by rfl)(hw:swappedStores [tg] e X.env=pure Z:=by rfl)(h1:(assignEach [tg] X.env).map (·.2)=[assign tg X.env]:=by rfl):PS X (.Assign [tg] e pos) (Lz te g):=by
 intro pins s J H D I h;refine wpAny_Assign_stores (bJ (he pins s J H _ I h) λv s1 ⟨x,H1,I1,r1,q1⟩=>?_) hs hw
 rw[h1];exact bJ (hg pins s1 J H1 x v _ I1 r1 q1) λ_ s2 q=>q
theorem anA{pos':Pos}(hN:X.N.Nodup)(hi:X.N[i]? = O x)(hx:Loc X.env.scope x)(he:PE X e te)(hs:swapsWith e (O (.Name x pos')) pos.line X.env=pure ξ:=by rfl)(hf:X.fn x=G\/X.env.scope.names.lookup x=O .local:=by first|exact .inl rfl|exact .inr rfl|assumption):
  PS X (.Assign [.Name x pos'] e pos) (Lz te (RB i)):=by
 intro pins s J H D I h;refine wpAny_Assign_Name (bJ (he pins s J H _ I h) λv s1 ⟨y,H1,I1,r1,q1⟩=>?_) hs
 exact LL I1 hN hi hx r1 (λs2 I2=>⟨_,H1,I2,q1⟩) hf
end
section
variable {X:Cx}{pos:Pos}
def alH(c:TT)(tb:TS):TS:=λD J H=>∃W:Nat->St->Hp->Prop,(∃m,W m J H)/\∀m J H,W m J H ->
 c J H λb H1=>if b=G then ∃N:St->Hp->Prop,(∀σ' H',N σ' H'->∃m',m'<m/\W m' σ' H')/\tb {D with nx:=N,ct:=N,bk:=D.nx} J H1 else D.nx J H1
theorem anC{body:List χ}(hp:Y9 (model X.prog X.w) X.A X.env X.xe)(hc:PT X c tc)(hb:gX X body tb):PS X (.While c body [] pos) (alH tc tb):=by
 intro pins s J H D I h;obtain⟨W,⟨m0,w0⟩,turn⟩:=h;refine wpAny_While (codeAny_whileLoop (λn s'=>∃σ' H',Inv X pins σ' H' s'/\W n σ' H') ?_ m0 ⟨J,H,I,w0⟩)
 rintro n s1 ⟨σ1,H1,I1,w1⟩
 refine W0 hp (bJ (hc pins s1 σ1 H1 _ I1 (turn n σ1 H1 w1)) λb s2 ⟨H2,I2,q2⟩=>?_)
 cases b with
 |true =>
  obtain⟨N,hN,q2⟩:=q2;rw[if_pos rfl];refine W0 hp (bJ (hb pins s2 σ1 H2 _ I2 q2) λf s3 q3=>?_)
  cases f with
  |next =>
   obtain⟨σ3,H3,I3,n3⟩:=q3;obtain⟨m',hm,w3⟩:=hN σ3 H3 n3;exact⟨m',hm,σ3,H3,I3,w3⟩
  |cont =>
   obtain⟨σ3,H3,I3,n3⟩:=q3;obtain⟨m',hm,w3⟩:=hN σ3 H3 n3;exact⟨m',hm,σ3,H3,I3,w3⟩
  |brk=>exact q3
  |ret v=>exact q3
 |false =>
  rw[if_neg UC];exact Xe ⟨σ1,H2,I2,q2⟩
end
structure It where
 go:Nat->Hp->Prop
 vD:Nat->Hp->V->Hp->Prop
 stop:Nat->Hp->Prop
def iz(X:Cx)(pins:List (Ξ×Obj))(H:Hp)(b:Ξ):Prop :=
 H b=Z/\b≠X.env.locals/\b∉X.fs/\(b∈X.ex\/X.s₀.heap.objs.size<=b)/\(∀x c,X.env.cells.lookup x=O c->c≠b)/\∀p∈X.pn++pins,p.1≠b
theorem Inv.uN(I:Inv X pins J H s)(hb:s.heap.objs.size<=b)(hn:H' b=Z):iz X pins H' b:=by
 refine⟨hn,Uh (TY I.lt hb),I.Gg hb,.inr (UK I.sz hb),λx c e z=>?_,λp hp z=>?_⟩
 ·obtain⟨v,q⟩:=I.cell x c e;exact absurd (TY q.lt (by rw[z];exact hb)) (Ui _)
 ·exact absurd (TY (IT (I.pin p hp).1) (by rw[z];exact hb)) (Ui _)
structure Turn (P:π) (w:υ) (K:Γ) (tg:ν) (σ:It) (fp:List Ξ) (it:Ξ) (tn:Nat->τ->Prop):Prop where
 mem:it∈fp
 obj:∀i h,tn i h->∀b∈fp,∃o,h.get? b=O o/\∀v,o.data≠.cell v
 keep:∀i h h',tn i h->(∀b∈fp,∀o,h.get? b=O o->h'.get? b=O o)->tn i h'
 item:∀(X:Cx),X.prog=P->X.w=w->X.K=K->X.calm=G->∀(i:Nat) (pins:List (Ξ×Obj)) (s:Ψ) (J:St) (H:Hp) (E:Δ->Ψ->Prop),Inv X pins J H s->(∀b∈fp,iz X pins H b)->tn i s.heap->σ.go i H ->
  wpAny (model P w) X.A (pyNext (.ref it)) (λr s1=>∃u,r=O u /\
   wpAny (model P w) X.A (letOwnedTupleGo tg (.ref it) u) (λ_ s2=>∃x H',Inv X pins J H' s2/\RelV x u/\σ.vD i H x H'/\tn (i+1) s2.heap/\∀b∈fp,H' b=Z) E s1) E s
 done:∀(X:Cx),X.prog=P->X.w=w->X.K=K->X.calm=G->∀(i:Nat) (pins:List (Ξ×Obj)) (s:Ψ) (J:St) (H:Hp) (E:Δ->Ψ->Prop),Inv X pins J H s->(∀b∈fp,iz X pins H b)->tn i s.heap->σ.stop i H ->
  wpAny (model P w) X.A (pyNext (.ref it)) (λr s1=>r=Z/\Inv X pins J H s1) E s
 self:∀(A:ω) (i:Nat) (s:Ψ) (Q:Δ->Ψ->Prop) (E:Δ->Ψ->Prop),tn i s.heap->Q (.ref it) s->wpAny (model P w) A (pyIter (.ref it)) Q E s
abbrev TI:=St->Hp->(It->Hp->Prop)->Prop
def Kc(X:Cx)(pins:List (Ξ×Obj))(J:St)(tg:ν)(R:It->Hp->Prop)(itv:Δ)(s2:Ψ):Prop :=
 ∃(it:Ξ) (fp:List Ξ) (tn:Nat->τ->Prop) (σ:It) (H':Hp),itv=.ref it/\Inv X pins J H' s2/\Turn X.prog X.w X.K tg σ fp it tn/\tn 0 s2.heap/\(∀b∈fp,iz X pins H' b)/\R σ H'
def PI(X:Cx)(tg iter:ν)(wi:TI):Prop :=
 ∀(pins:List (Ξ×Obj)) (s:Ψ) (J:St) (H:Hp) (R:It->Hp->Prop),Inv X pins J H s->wi J H R ->
  wpAny (model X.prog X.w) X.A (eval iter X.env) (λv s1=>wpAny (model X.prog X.w) X.A (pyIter v) (Kc X pins J tg R) X.xe s1) X.xe s
theorem ye{M:Model}{A:ω}{E:Δ->Ψ->Prop}{s:Ψ}{Q:Unit->Ψ->Prop}(ho:s.heap.get? it=O o)(hc:o.cls=.type n)(hd:o.data=.fields vs)(hn:["enumerate","zip","dict_itemiterator","dict_reverseitemiterator","odict_iterator","itertools.zip_longest","itertools.pairwise"].contains n=ξ)(hQ:Q () s):wpAny M A (letOwnedTupleGo tg (.ref it) u) Q E s:=by
  unfold letOwnedTupleGo;cases tg<;>first
    | exact bg hQ
    | (cases u<;>first
        | exact bg hQ
        | (refine bf (wpAny_load ho ?_)
           rw[hc,hd];show wpAny M A (if(["enumerate","zip","dict_itemiterator","dict_reverseitemiterator","odict_iterator","itertools.zip_longest","itertools.pairwise"].contains n&&vs[0]? == O (rawInt _))=G then _ else _) Q E s
           rw[if_neg (by intro h;rw[hn,Xd]at h;cases h)]
           exact bg hQ))
def Kl(K:Γ)(a:Ξ):It :=
 ⟨λi H=>∃xs x,bQ K H a xs/\xs[i]? = O x,λi H x H'=>H'=H/\∀xs,bQ K H a xs->xs[i]? = O x,λi H=>∃xs,bQ K H a xs/\xs.length<=i⟩
def Kh(K:Γ)(a:Ξ):It :=
 ⟨λi H=>∃xs x,cF K H a xs/\xs[i]? = O x,λi H x H'=>H'=H/\∀xs,cF K H a xs->xs[i]? = O x,λi H=>∃xs,cF K H a xs/\xs.length<=i⟩
def zd(lo:Int)(n:Nat):It:=⟨λi _=>i<n,λi H x H'=>H'=H/\x=.int (lo+i),λi _=>n<=i⟩
theorem al7{P:π}{w:υ}{K:Γ}(a it:Ξ):Turn P w K tg (Kl K a) [it] it (λi h=>h.IsListIter it a i) where
 mem:=by simp
 obj:=λi h st b hb=>by
  have e:b=it:=by simpa using hb
  subst e;obtain⟨o,e,c,d⟩:=st;exact⟨o,e,λv z=>by rw[d]at z;cases z⟩
 keep:=λi h h' st k=>st.at λo e=>k it (by simp) o e
 item:=by
  intro X hP hw hK hc i pins s J H E I hf st hg;subst hP hw hK;obtain⟨xs,x,hq,hx⟩:=hg;obtain⟨its,rv,p,hz⟩:=I.list hq;obtain⟨u,hu,ru⟩:=rv.get hx;obtain⟨f0,f1,f2,f3,f4,f5⟩:=hf it (by simp)
  refine wpAny_pyNext_list_item st p.isList (x:=u) (by simpa using hu) λh' st' sb=>?_
  have I1:Inv X pins J H {s with heap:=h'}:=I.turned (t':=s.toks) (λb o hb e=>(sb.2 b hb).trans e) f0 f1 f3 f4 f5
  obtain⟨o,e,c,d⟩:=id st';exact⟨u,rfl,ye (s:={s with heap:=h'}) e c d ⋯ ⟨x,H,I1,ru,⟨rfl,λys hy=>by rw[I.GN hy hq];exact hx⟩,st',λb hb=>(hf b hb).1⟩⟩
 done:=by
  intro X hP hw hK hc i pins s J H E I hf st hg;subst hP hw hK;obtain⟨xs,hq,hx⟩:=hg;obtain⟨its,rv,p,hz⟩:=I.list hq;obtain⟨f0,f1,f2,f3,f4,f5⟩:=hf it (by simp)
  have hl:=rv.length;exact wpAny_pyNext_list_end (I.ok.hd hc) st p.isList (by simp;omega) λh' eb=>⟨rfl,I.turned (t':=s.toks) (λb o hb e=>eb b o hb e) f0 f1 f3 f4 f5⟩
 self:=λ_ _ _ _ _ st h=>wpAny_pyIter_listiter st h
theorem akR{P:π}{w:υ}{K:Γ}(a it:Ξ):Turn P w K tg (Kh K a) [it] it (λi h=>h.IsTupleIter it a i) where
 mem:=by simp
 obj:=λi h st b hb=>by
  have e:b=it:=by simpa using hb
  subst e;obtain⟨o,e,c,d⟩:=st;exact⟨o,e,λv z=>by rw[d]at z;cases z⟩
 keep:=λi h h' st k=>st.at λo e=>k it (by simp) o e
 item:=by
  intro X hP hw hK hc i pins s J H E I hf st hg;subst hP hw hK;obtain⟨xs,x,hq,hx⟩:=hg;obtain⟨its,rv,p,hz⟩:=I.tuple hq;obtain⟨u,hu,ru⟩:=rv.get hx;obtain⟨f0,f1,f2,f3,f4,f5⟩:=hf it (by simp)
  refine wpAny_pyNext_tuple_item st (show s.heap.IsTuple a its.toArray from p) (x:=u) (by simpa using hu) λh' st' sb=>?_
  have I1:Inv X pins J H {s with heap:=h'}:=I.turned (t':=s.toks) (λb o hb e=>(sb.2 b hb).trans e) f0 f1 f3 f4 f5
  obtain⟨o,e,c,d⟩:=id st';exact⟨u,rfl,ye (s:={s with heap:=h'}) e c d ⋯ ⟨x,H,I1,ru,⟨rfl,λys hy=>by rw[I.Ld hy hq];exact hx⟩,st',λb hb=>(hf b hb).1⟩⟩
 done:=by
  intro X hP hw hK hc i pins s J H E I hf st hg;subst hP hw hK;obtain⟨xs,hq,hx⟩:=hg;obtain⟨its,rv,p,hz⟩:=I.tuple hq;obtain⟨f0,f1,f2,f3,f4,f5⟩:=hf it (by simp)
  have hl:=rv.length;exact wpAny_pyNext_tuple_end (I.ok.hd hc) st (show s.heap.IsTuple a its.toArray from p) (by simp;omega) λh' eb=>⟨rfl,I.turned (t':=s.toks) (λb o hb e=>eb b o hb e) f0 f1 f3 f4 f5⟩
 self:=λ_ _ _ _ _ st h=>wpAny_pyIter_tupleiter st h
theorem alY{P:π}{w:υ}{K:Γ}(it:Ξ)(lo:Int)(n:Nat):Turn P w K tg (zd lo n) [it] it (λi h=>Y5 h it (lo+(i:Nat)*1) ((n:Int)-(i:Nat)) 1) where
 mem:=by simp
 obj:=λi h st b hb=>by
  have e:b=it:=by simpa using hb
  subst e;exact⟨_,st,λv z=>by
   have z':Data.fields _=Data.cell v:=z;cases z'⟩
 keep:=λi h h' st k=>k it (by simp) _ st
 item:=by
  intro X hP hw hK hc i pins s J H E I hf st hg;subst hP hw hK;obtain⟨f0,f1,f2,f3,f4,f5⟩:=hf it (by simp)
  have W:=Walks.range (prog:=X.prog) (w:=X.w) (I.ok.hd hc) it lo 1 n;refine W.item i s _ _ hg st λv h' tk hv st' kk=>?_
  obtain⟨t,rfl⟩:=hv;have I1:Inv X pins J H {s with heap:=h',toks:=tk}:=I.turned (λb o hb e=>kk b o (by simpa using hb) e) f0 f1 f3 f4 f5
  refine⟨_,rfl,ye (s:={s with heap:=h',toks:=tk}) (n:="range_iterator") st' rfl rfl ⋯ ⟨.int (lo+i),H,I1,⟨t,?_⟩,⟨rfl,rfl⟩,st',λb hb=>(hf b hb).1⟩⟩
  rw[Int.mul_one]
 done:=by
  intro X hP hw hK hc i pins s J H E I hf st hg;subst hP hw hK;obtain⟨f0,f1,f2,f3,f4,f5⟩:=hf it (by simp)
  exact s8 (I.ok.hd hc) st (by have:n<=i:=hg;omega) λh' eb=>⟨rfl,I.turned (t':=s.toks) (λb o hb e=>eb b o hb e) f0 f1 f3 f4 f5⟩
 self:=λ_ _ _ _ _ st h=>r7 st h
section
variable {X:Cx}{tg:ν}
def ad1(K:Γ)(tl:TE):TI:=λJ H R=>tl J H λx H1=>∃a,x=.ref a/\(∃xs,bQ K H1 a xs)/\R (Kl K a) H1
def adW(K:Γ)(tl:TE):TI:=λJ H R=>tl J H λx H1=>∃a,x=.ref a/\(∃xs,cF K H1 a xs)/\R (Kh K a) H1
theorem an6(hl:PE X l tl):PI X tg l (ad1 X.K tl):=by
 intro pins s J H R I h;refine bJ (hl pins s J H _ I h) λv s1 ⟨x,H1,I1,r1,q1⟩=>?_
 obtain⟨a,e,⟨xs,hq⟩,q⟩:=q1;subst e;cases r1;obtain⟨its,rv,p,hz⟩:=I1.list hq;refine WK p.isList ?_;refine⟨s1.heap.objs.size,[s1.heap.objs.size],_,_,H1,rfl,I1.kept (t':=s1.toks) λb o e=>jn _ e,al7 a _,⟨_,T9 _ rfl,rfl,rfl⟩,λb hb=>?_,q⟩
 have e:b=s1.heap.objs.size:=by simpa using hb
 subst e;exact I1.uN (dD _) (I1.hok.fresh (dD _))
theorem NT(hl:PE X l tl):PI X tg l (adW X.K tl):=by
 intro pins s J H R I h;refine bJ (hl pins s J H _ I h) λv s1 ⟨x,H1,I1,r1,q1⟩=>?_
 obtain⟨a,e,⟨xs,hq⟩,q⟩:=q1;subst e;cases r1;obtain⟨its,rv,p,hz⟩:=I1.tuple hq;refine Vz (show s1.heap.IsTuple a its.toArray from p) ?_
 refine⟨s1.heap.objs.size,[s1.heap.objs.size],_,_,H1,rfl,I1.kept (t':=s1.toks) λb o e=>jn _ e,akR a _,⟨_,T9 _ rfl,rfl,rfl⟩,λb hb=>?_,q⟩
 have e:b=s1.heap.objs.size:=by simpa using hb
 subst e;exact I1.uN (dD _) (I1.hok.fresh (dD _))
theorem ND{R:It->Hp->Prop}{E:Δ->Ψ->Prop}{lo:Int}(I:Inv X pins J H s)(h1:-(2^62)<=lo)(h2:lo<2^62)(h3:-(2^62)<=hi)(h4:hi<2^62)(q:R (zd lo (hi-lo).toNat) H):wpAny (model X.prog X.w) X.A (pyIter (.ref s.heap.objs.size)) (Kc X pins J tg R) E {s with heap:=s.heap.push {cls:=.type "range",data:=.fields #[.int lo t,.int hi u,.int 1 v]},toks:=tk}:=by
 refine wpAny_pyIter_range (IsRange.new ..) (small_one h1 h2 h3 h4) ?_;have I1:Inv X pins J H {s with heap:=s.heap.push {cls:=.type "range",data:=.fields #[.int lo t,.int hi u,.int 1 v]},toks:=tk}:=I.kept λb o e=>jn _ e
 refine⟨(s.heap.push {cls:=.type "range",data:=.fields #[.int lo t,.int hi u,.int 1 v]}).objs.size,[(s.heap.push {cls:=.type "range",data:=.fields #[.int lo t,.int hi u,.int 1 v]}).objs.size],_,_,H,rfl,
  I1.kept (t':=tk) λb o e=>jn _ e,alY _ lo (hi-lo).toNat,?_,λb hb=>?_,q⟩
 ·have e1:lo+((0:Nat):Int)*1=lo:=by simp
  have e2:(((hi-lo).toNat:Nat):Int)-((0:Nat):Int)=Builtin.Range.rangeSize lo hi 1:=by rw[rangeSize_one];split<;>omega
  show Y5 _ _ (lo+((0:Nat):Int)*1) ((((hi-lo).toNat:Nat):Int)-((0:Nat):Int)) 1;rw[e1,e2];exact T9 _ rfl
 ·have e:b=(s.heap.push {cls:=.type "range",data:=.fields #[.int lo t,.int hi u,.int 1 v]}).objs.size:=by simpa using hb
  subst e;exact I1.uN (dD _) (I1.hok.fresh (dD _))
def adZ(ta:TA):TI:=λJ H R=>ta J H λvs H1=>∃j:Int,vs=[.int j]/\-(2^62)<=j/\j<2^62/\R (zd 0 j.toNat) H1
def adY(ta:TA):TI:=λJ H R=>ta J H λvs H1=>∃i j:Int,vs=[.int i,.int j]/\(-(2^62)<=i/\i<2^62/\-(2^62)<=j/\j<2^62)/\R (zd i (j-i).toNat) H1
theorem an7{pos:Pos}(hg:Gl X "range")(hm:X.mg "range"=Z)(ha:PA X [a] ta)(hs:ε [a] X.env=[(ξ,eval a X.env)]:=by rfl):PI X tg (.Call (.Name "range" p) [a] [] pos) (adZ ta):=by
 intro pins s J H R I h;refine Call_ (kO I hg hm boot_range (VV (bJ (ha pos pins s J H _ I h) λus s1 ⟨vs,H1,I1,r1,q1⟩=>?_) hs rfl))
 obtain⟨j,e,q1,q2,q⟩:=q1;subst e;cases r1 with
 |cons r rr =>
  cases rr;obtain⟨t,rfl⟩:=r;exact call_range_1 (ND I1 ∅ ∅ q1 q2 (by simpa using q))
theorem an8{pos:Pos}(hg:Gl X "range")(hm:X.mg "range"=Z)(ha:PA X [a,b] ta)(hs:ε [a,b] X.env=[(ξ,eval a X.env),(ξ,eval b X.env)]:=by rfl)(hs2:ε [b] X.env=[(ξ,eval b X.env)]:=by rfl):
  PI X tg (.Call (.Name "range" p) [a,b] [] pos) (adY ta):=by
 intro pins s J H R I h;refine Call_ (kO I hg hm boot_range (VV (bJ (ha pos pins s J H _ I h) λus s1 ⟨vs,H1,I1,r1,q1⟩=>?_) (by rw[hs,hs2]) (by rw[hs2];rfl)))
 obtain⟨i,j,e,⟨q1,q2,q3,q4⟩,q⟩:=q1;subst e;cases r1 with
 |cons r rr =>
  cases rr with
  |cons r' rr =>
   cases rr;obtain⟨t,rfl⟩:=r;obtain⟨t',rfl⟩:=r';exact call_range_2 (ND I1 q1 q2 q3 q4 q)
def alz(wi:TI)(g:TG)(tb:TS):TS:=λD J H=>wi J H λσ H1=>∃W:Nat->Nat->St->Hp->Prop,(∃m,W 0 m J H1)/\∀i m J H,W i m J H ->
 (σ.stop i H/\D.nx J H)\/(σ.go i H/\∃N:St->Hp->Prop,(∀σ' H',N σ' H'->∃m',m'<m/\W (i+1) m' σ' H')/\∀x H',σ.vD i H x H'->g x J H' λσ2 H2=>tb {D with nx:=N,ct:=N,bk:=D.nx} σ2 H2)
def wC(fp:List Ξ)(h:τ):List (Ξ×Obj):=fp.filterMap λb=>(h.get? b).map λo=>(b,o)
theorem AN{h:τ}(hb:b∈fp)(e:h.get? b=O o):(b,o)∈wC fp h:=Ww.mpr ⟨b,hb,by rw[e];rfl⟩
theorem abM(hp:p∈wC fp h):p.1∈fp/\h.get? p.1=O p.2:=by
 obtain⟨b,hb,e⟩:=Ww.mp hp;cases q:h.get? b with
 |none=>rw[q]at e;cases e
 |some o =>
  rw[q]at e;have e':(b,o)=p:=U9 e;subst e';exact⟨hb,q⟩
theorem Inv.pinned(I:Inv X pins J H s)(hf:∀b∈fp,iz X pins H b)(ho:∀b∈fp,∃o,s.heap.get? b=O o/\∀v,o.data≠.cell v):Inv X (pins++wC fp s.heap) J H s :=
 I.Ab λp hp=>(US.mp hp).elim (λz=>I.pin p (Ud _ z)) λz=>by
  obtain⟨hb,e⟩:=abM z;obtain⟨f0,f1,f2,_⟩:=hf p.1 hb;obtain⟨o,e',d⟩:=ho p.1 hb;rw[e]at e';cases e';exact⟨e,f0,f1,f2,d⟩
theorem Inv.vG(I:Inv X (pins++pl) J H s):Inv X pins J H s:=I.Ab λp hp=>I.pin p (Ud _ (WL _ hp))
theorem aec{iter:ν}{body:List χ}{pos:Pos}(hp:Y9 (model X.prog X.w) X.A X.env X.xe)(hc:X.calm=G)(hi:PI X tg iter wi)(hg:PG X tg g)(hb:gX X body tb)(hs:∀x,foldedSetIterable iter X.env x=pure x:=by intro _;rfl):PS X (.For tg iter body [] pos) (alz wi g tb):=by
 intro pins s J H D I h;refine wpAny_For (bJ (hi pins s J H _ I h) λv s1 h1=>bJ h1 λitv s2 h2=>?_) hs
 obtain⟨it,fp,tn,σ,H2,e,I2,T,st2,f2,W,⟨m0,w0⟩,turn⟩:=h2;subst e;have qI:∀{H':Hp},(∀b∈fp,H' b=Z)->∀b∈fp,iz X pins H' b:=λhn b hb=>⟨hn b hb,(f2 b hb).2⟩
 refine codeAny_forLoop_any (λn s'=>∃i σ' H',Inv X pins σ' H' s'/\tn i s'.heap/\(∀b∈fp,H' b=Z)/\W i n σ' H') ?_ m0 ⟨0,J,H2,I2,st2,λb hb=>(f2 b hb).1,w0⟩
 rintro n s3 ⟨i,σ3,H3,I3,st3,RK,w3⟩
 rcases turn i n σ3 H3 w3 with⟨stop,qn⟩|⟨go,N,hN,step⟩
 ·refine W0 hp (bJ (T.done X rfl rfl rfl hc i pins s3 σ3 H3 X.xe I3 (qI RK) st3 stop) λr s4 ⟨hr,I4⟩=>?_)
  subst hr;exact Xe ⟨σ3,H3,I4,qn⟩
 ·refine W0 hp (bJ (T.item X rfl rfl rfl hc i pins s3 σ3 H3 X.xe I3 (qI RK) st3 go) λr s4 ⟨u,hr,h4⟩=>?_)
  subst hr;refine W0 hp (bJ h4 λ_ s5 ⟨x,H5,I5,r5,y5,qJ,Bw⟩=>?_)
  have I5':=I5.pinned (qI Bw) (T.obj _ _ qJ);refine W0 hp (bJ (hg _ s5 σ3 H5 x u _ I5' r5 (step x H5 y5)) λ_ s6 ⟨akJ,H6,I6,q6⟩=>?_)
  refine W0 hp (bJ (hb _ s6 akJ H6 _ I6 q6) λf s7 q7=>?_)
  have again:∀{kB:St}{H7:Hp},Inv X (pins++wC fp s5.heap) kB H7 s7->N kB H7->∃m,m<n/\∃i σ' H',Inv X pins σ' H' s7/\tn i s7.heap/\(∀b∈fp,H' b=Z)/\W i m σ' H':=fun{kB H7} I7 n7=>by
   obtain⟨m',hm,w7⟩:=hN kB H7 n7;refine⟨m',hm,i+1,kB,H7,I7.vG,T.keep _ _ _ qJ λb hb o e=>(I7.pin (b,o) (Ud _ (Ud _ (AN hb e)))).1,λb hb=>?_,w7⟩
   obtain⟨o,e,d⟩:=T.obj _ _ qJ b hb;exact(I7.pin (b,o) (Ud _ (Ud _ (AN hb e)))).2.1
  cases f with
  |next=>obtain⟨kB,H7,I7,n7⟩:=q7;exact again I7 n7
  |cont=>obtain⟨kB,H7,I7,n7⟩:=q7;exact again I7 n7
  |brk=>obtain⟨kB,H7,I7,q7⟩:=q7;exact⟨kB,H7,I7.vG,q7⟩
  |ret v=>obtain⟨x7,kB,H7,I7,ao5,q7⟩:=q7;exact⟨x7,kB,H7,I7.vG,ao5,q7⟩
end
abbrev R2:=V->V->Hp->VK->Prop
def bX(X:Cx)(f:Δ->Δ->Sem Δ)(r:R2):Prop :=
 ∀(pins:List (Ξ×Obj)) (s:Ψ) (J:St) (H:Hp) (x y:V) (v u:Δ) (Q:VK),Inv X pins J H s->RelV x v->RelV y u->r x y H Q ->
  wpAny (model X.prog X.w) X.A (f v u) (EP X pins J Q) X.xe s
def yZ(X:Cx)(f:Δ->Sem Δ)(r:V->Hp->VK->Prop):Prop :=
 ∀(pins:List (Ξ×Obj)) (s:Ψ) (J:St) (H:Hp) (x:V) (v:Δ) (Q:VK),Inv X pins J H s->RelV x v->r x H Q ->
  wpAny (model X.prog X.w) X.A (f v) (EP X pins J Q) X.xe s
def eU(X:Cx)(f:Δ)(r:List V->Hp->VK->Prop):Prop :=
 ∀(pins:List (Ξ×Obj)) (s:Ψ) (J:St) (H:Hp) (xs:List V) (us:List Δ) (Q:VK),Inv X pins J H s->Vals xs us->r xs H Q ->
  wpAny (model X.prog X.w) X.A (call f us) (EP X pins J Q) X.xe s
def aid(X:Cx)(r:V->Hp->(Bool->Hp->Prop)->Prop):Prop :=
 ∀(pins:List (Ξ×Obj)) (s:Ψ) (J:St) (H:Hp) (x:V) (v:Δ) (Q:Bool->Hp->Prop),Inv X pins J H s->RelV x v->r x H Q ->
  wpAny (model X.prog X.w) X.A (truthy v) (TP X pins J Q) X.xe s
def zJ(r:R2)(ta tb:TE):TE:=λJ H Q=>ta J H λx H1=>tb J H1 λy H2=>r x y H2 Q
def alF(r:V->Hp->VK->Prop)(ta:TE):TE:=λJ H Q=>ta J H λx H1=>r x H1 Q
def rI(C:Int->Int->Prop)(g:Int->Int->V):R2:=λx y H Q=>∃i j,x=.int i/\y=.int j/\C i j/\Q (g i j) H
def lU(g:Int->Int->V):R2:=λx y H Q=>∃i j,x=.int i/\y=.int j/\Q (g i j) H
def rU(g:Int->V):V->Hp->VK->Prop:=λx H Q=>∃i,x=.int i/\Q (g i) H
section
variable {X:Cx}{a b c:ν}{ta tb tc:TE}{pos:Pos}
theorem Im(ha:PE X a ta)(hb:PE X b tb){R:V->V->Hp->Prop}(I:Inv X pins J H s)(h:ta J H λx H1=>tb J H1 λy H2=>R x y H2){Q:Δ->Ψ->Prop}{f:Δ->Δ->Sem Δ}(hf:∀v u s2 x y H2,Inv X pins J H2 s2->RelV x v->RelV y u->R x y H2->wpAny (model X.prog X.w) X.A (f v u) Q X.xe s2):
  wpAny (model X.prog X.w) X.A (eval a X.env) (λv s₁=>wpAny (model X.prog X.w) X.A (eval b X.env) (λu s₂=>wpAny (model X.prog X.w) X.A (f v u) Q X.xe s₂) X.xe s₁) X.xe s:=by
 refine bJ (ha pins s J H _ I h) λv s1 ⟨x,H1,I1,r1,q1⟩=>?_
 refine bJ (hb pins s1 J H1 _ I1 q1) λu s2 ⟨y,H2,I2,r2,q2⟩=>?_
 exact hf v u s2 x y H2 I2 r1 r2 q2
theorem NU(ho:bX X (binaryOp op) r)(ha:PE X a ta)(hb:PE X b tb):PE X (.BinOp a op b pos) (zJ r ta tb):=by
 intro pins s J H Q I h;exact wpAny_BinOp (Im ha hb I h λv u s2 x y H2 I2 rx ry q=>ho pins s2 J H2 x y v u Q I2 rx ry q)
theorem apz{r:V->Hp->VK->Prop}(ho:yZ X (unaryOp op) r)(ha:PE X a ta):PE X (.UnaryOp op a pos) (alF r ta):=by
 intro pins s J H Q I h;exact UnaryOp_ (bJ (ha pins s J H _ I h) λv s1 ⟨x,H1,I1,r1,q1⟩=>ho pins s1 J H1 x v Q I1 r1 q1)
theorem Ar{f:Δ->Δ->Sem Δ}{C:Int->Int->Prop}{g:Int->Int->Int}
  (rule:∀(i j:Int) (t u:Tok) (s:Ψ) (Q:Δ->Ψ->Prop) (E:Δ->Ψ->Prop),C i j->Q (.int (g i j) s.toks) {s with toks:=s.toks+1}->wpAny (model X.prog X.w) X.A (f (.int i t) (.int j u)) Q E s) :
  bX X f (rI C λi j=>.int (g i j)):=by
 intro pins s J H x y v u Q I rx ry h;obtain⟨i,j,rfl,rfl,hc,q⟩:=h;obtain⟨t,rfl⟩:=rx;obtain⟨t',rfl⟩:=ry;exact rule i j t t' s _ _ hc ⟨.int (g i j),H,I.tok _,⟨_,rfl⟩,q⟩
theorem F5{f:Δ->Δ->Sem Δ}{g:Int->Int->Int}
  (rule:∀(i j:Int) (t u:Tok) (s:Ψ) (Q:Δ->Ψ->Prop) (E:Δ->Ψ->Prop),Q (.int (g i j) s.toks) {s with toks:=s.toks+1}->wpAny (model X.prog X.w) X.A (f (.int i t) (.int j u)) Q E s) :
  bX X f (lU λi j=>.int (g i j)):=by
 intro pins s J H x y v u Q I rx ry h;obtain⟨i,j,rfl,rfl,q⟩:=h;obtain⟨t,rfl⟩:=rx;obtain⟨t',rfl⟩:=ry;exact rule i j t t' s _ _ ⟨.int (g i j),H,I.tok _,⟨_,rfl⟩,q⟩
theorem As{f:Δ->Δ->Sem Δ}{g:Int->Int->Bool}
  (rule:∀(i j:Int) (t u:Tok) (s:Ψ) (Q:Δ->Ψ->Prop) (E:Δ->Ψ->Prop),Q (.bool (g i j)) s->wpAny (model X.prog X.w) X.A (f (.int i t) (.int j u)) Q E s) :
  bX X f (lU λi j=>.bl (g i j)):=by
 intro pins s J H x y v u Q I rx ry h;obtain⟨i,j,rfl,rfl,q⟩:=h;obtain⟨t,rfl⟩:=rx;obtain⟨t',rfl⟩:=ry;exact rule i j t t' s _ _ ⟨.bl (g i j),H,I,rfl,q⟩
def aiu(i j:Int):Prop:=0<j/\j<1073741824
def ait(i j:Int):Prop:=0<=j/\j<=1000000/\i.natAbs<2^64
def Kq(i j:Int):Prop:=(-(2^64)<i/\i<2^64)\/(-(2^64)<j/\j<2^64)
theorem Kq.ok(h:Kq i j):IntMulOk i j:=by
 rcases h with⟨h1,h2⟩|⟨h1,h2⟩
 ·exact .of_left (intBits_le_64 h1 h2)
 ·exact .of_right (intBits_le_64 h1 h2)
theorem aaP:bX X (binaryOp .Add) (lU λi j=>.int (i+j)):=F5 λ_ _ _ _ _ _ _ q=>add_int q
theorem aax:bX X (binaryOp .Sub) (lU λi j=>.int (i-j)):=F5 λ_ _ _ _ _ _ _ q=>sub_int q
theorem aaC:bX X (binaryOp .Mult) (rI Kq λi j=>.int (i*j)):=Ar λ_ _ _ _ _ _ _ hc q=>mul_int q hc.ok
theorem aaJ:bX X (binaryOp .FloorDiv) (rI aiu λi j=>.int (i/j)):=Ar λi j _ _ _ _ _ hc q=>by
 have h1:(0:Int)<j:=hc.1;have h2:j<1073741824:=hc.2;exact floordiv_int ∅ (by rw[Int.fdiv_eq_ediv_of_nonneg i ∅];exact q) (.inl (r6 ∅))
theorem aaD:bX X (binaryOp .Mod) (rI (λ_ j=>0<j) λi j=>.int (i % j)):=Ar λi j _ _ _ _ _ hc q=>by
 have h1:(0:Int)<j:=hc;exact mod_int' ∅ (by rw[Int.fmod_eq_emod_of_nonneg i ∅];exact q)
theorem aaz:bX X (binaryOp .Pow) (rI ait λi j=>.int (i^j.toNat)):=Ar λ_ _ _ _ _ _ _ hc q=>pow_int_small hc.1 hc.2.1 hc.2.2 q
theorem aaw:bX X (binaryOp .BitXor) (lU λi j=>.int (Builtin.bitXor i j)):=F5 λ_ _ _ _ _ _ _ q=>xor_int q
theorem akL{f:Δ->Sem Δ}{g:Int->Int}
  (rule:∀(i:Int) (t:Tok) (s:Ψ) (Q:Δ->Ψ->Prop) (E:Δ->Ψ->Prop),Q (.int (g i) s.toks) {s with toks:=s.toks+1}->wpAny (model X.prog X.w) X.A (f (.int i t)) Q E s) :
  yZ X f (rU λi=>.int (g i)):=by
 intro pins s J H x v Q I rx h;obtain⟨i,rfl,q⟩:=h;obtain⟨t,rfl⟩:=rx;exact rule i t s _ _ ⟨.int (g i),H,I.tok _,⟨_,rfl⟩,q⟩
theorem akM:yZ X (unaryOp .USub) (rU λi=>.int (-i)):=akL λ_ _ _ _ _ q=>neg_int q
end
def Fo:V->V->Bool
 |.aJ,.aJ=>G|.aJ,.int _=>G|.int _,.aJ=>G|.aJ,.bl _=>G|.bl _,.aJ=>G|.aJ,.str _=>G|.str _,.aJ=>G
 |.int _,.int _=>G|.bl _,.bl _=>G|.str _,.str _=>G|.jE _,.jE _=>G
 |.int _,.str _=>G|.str _,.int _=>G|.bl _,.str _=>G|.str _,.bl _=>G
 |_,_=>ξ
def aox:R2:=λx y H Q=>Fo x y=G/\Q (.bl (decide (x=y))) H
def aoI:R2:=λx y H Q=>Fo x y=G/\Q (.bl (!decide (x=y))) H
theorem Si:decide (V.int i=V.int j)=(i==j):=by
 rw[V6];simp
theorem Sk:decide (V.bl i=V.bl j)=(i==j):=by
 rw[V6];simp
theorem Sh:decide (V.str i=V.str j)=(i==j):=by
 rw[V6];simp
theorem Sj:decide (V.jE i=V.jE j)=(i.toList==j.toList):=by
 rw[V6];cases i;cases j;simp
section
variable {X:Cx}{a b c:ν}{ta tb tc:TE}{pos:Pos}
theorem eE(I:Inv X pins J H s)(q:Q (.bl k) H)(e:k=k'):EP X pins J Q (.bool k') s:=by
 subst e;exact⟨.bl k,H,I,rfl,q⟩
theorem aaK:bX X (compareOp .Eq) aox:=by
 intro pins s J H x y v u Q I rx ry h;obtain⟨hs,q⟩:=h;cases x with
 |aJ =>
  cases rx;cases y with
  |aJ=>cases ry;exact PySem.EqNone.eq_none_none (eE I q (by simp))
  |bl j=>cases ry;exact PySem.EqNone.eq_none_bool (eE I q (by simp))
  |int j=>obtain⟨t',rfl⟩:=ry;exact PySem.EqNone.eq_none_int (eE I q (by simp))
  |str j=>obtain⟨t',rfl⟩:=ry;exact PySem.EqNone.eq_none_str (eE I q (by simp))
  |_=>exact absurd (show ξ=G from hs) UC
 |bl i =>
  cases rx;cases y with
  |aJ=>cases ry;exact PySem.EqNone.eq_bool_none (eE I q (by simp))
  |bl j=>cases ry;exact eq_bool (eE I q Sk)
  |str j=>obtain⟨t',rfl⟩:=ry;exact PySem.EqMixed.eq_bool_str (eE I q (by simp))
  |_=>exact absurd (show ξ=G from hs) UC
 |int i =>
  obtain⟨t,rfl⟩:=rx;cases y with
  |aJ=>cases ry;exact PySem.EqNone.eq_int_none (eE I q (by simp))
  |int j=>obtain⟨t',rfl⟩:=ry;exact eq_int (eE I q Si)
  |str j=>obtain⟨t',rfl⟩:=ry;exact PySem.EqMixed.eq_int_str (eE I q (by simp))
  |_=>exact absurd (show ξ=G from hs) UC
 |str i =>
  obtain⟨t,rfl⟩:=rx;cases y with
  |aJ=>cases ry;exact PySem.EqNone.eq_str_none (eE I q (by simp))
  |bl j=>cases ry;exact PySem.EqMixed.eq_str_bool (eE I q (by simp))
  |int j=>obtain⟨t',rfl⟩:=ry;exact PySem.EqMixed.eq_str_int (eE I q (by simp))
  |str j=>obtain⟨t',rfl⟩:=ry;exact eq_str (eE I q Sh)
  |_=>exact absurd (show ξ=G from hs) UC
 |jE i =>
  obtain⟨t,rfl⟩:=rx;cases y with
  |jE j=>obtain⟨t',rfl⟩:=ry;exact PySem.W.eq_bytes (eE I q Sj)
  |_=>exact absurd (show ξ=G from hs) UC
 |_=>cases y<;>exact absurd (show ξ=G from hs) UC
theorem aaB:bX X (compareOp .NotEq) aoI:=by
 intro pins s J H x y v u Q I rx ry h;obtain⟨hs,q⟩:=h;cases x with
 |aJ =>
  cases rx;cases y with
  |aJ=>cases ry;exact PySem.EqNone.ne_none_none (eE I q (by simp))
  |bl j=>cases ry;exact PySem.EqNone.ne_none_bool (eE I q (by simp))
  |int j=>obtain⟨t',rfl⟩:=ry;exact PySem.EqNone.ne_none_int (eE I q (by simp))
  |str j=>obtain⟨t',rfl⟩:=ry;exact PySem.EqNone.ne_none_str (eE I q (by simp))
  |_=>exact absurd (show ξ=G from hs) UC
 |bl i =>
  cases rx;cases y with
  |aJ=>cases ry;exact PySem.EqNone.ne_bool_none (eE I q (by simp))
  |bl j=>cases ry;exact ne_bool (eE I q (congrArg not Sk))
  |str j=>obtain⟨t',rfl⟩:=ry;exact PySem.EqMixed.ne_bool_str (eE I q (by simp))
  |_=>exact absurd (show ξ=G from hs) UC
 |int i =>
  obtain⟨t,rfl⟩:=rx;cases y with
  |aJ=>cases ry;exact PySem.EqNone.ne_int_none (eE I q (by simp))
  |int j=>obtain⟨t',rfl⟩:=ry;exact ne_int (eE I q (congrArg not Si))
  |str j=>obtain⟨t',rfl⟩:=ry;exact PySem.EqMixed.ne_int_str (eE I q (by simp))
  |_=>exact absurd (show ξ=G from hs) UC
 |str i =>
  obtain⟨t,rfl⟩:=rx;cases y with
  |aJ=>cases ry;exact PySem.EqNone.ne_str_none (eE I q (by simp))
  |bl j=>cases ry;exact PySem.EqMixed.ne_str_bool (eE I q (by simp))
  |int j=>obtain⟨t',rfl⟩:=ry;exact PySem.EqMixed.ne_str_int (eE I q (by simp))
  |str j=>obtain⟨t',rfl⟩:=ry;exact ne_str (eE I q (congrArg not Sh))
  |_=>exact absurd (show ξ=G from hs) UC
 |jE i =>
  obtain⟨t,rfl⟩:=rx;cases y with
  |jE j=>obtain⟨t',rfl⟩:=ry;exact PySem.W.ne_bytes (eE I q (congrArg not Sj))
  |_=>exact absurd (show ξ=G from hs) UC
 |_=>cases y<;>exact absurd (show ξ=G from hs) UC
theorem aaE:bX X (compareOp .Lt) (lU λi j=>.bl (decide (i<j))):=As λ_ _ _ _ _ _ _ q=>lt_int q
theorem aaF:bX X (compareOp .LtE) (lU λi j=>.bl (decide (i<=j))):=As λ_ _ _ _ _ _ _ q=>le_int q
theorem aaH:bX X (compareOp .Gt) (lU λi j=>.bl (decide (j<i))):=As λ_ _ _ _ _ _ _ q=>gt_int q
theorem aaI:bX X (compareOp .GtE) (lU λi j=>.bl (decide (j<=i))):=As λ_ _ _ _ _ _ _ q=>ge_int q
theorem aaG:bX X (compareOp .Is) (λx y H Q=>y=.aJ/\Q (.bl (decide (x=.aJ))) H):=by
 intro pins s J H x y v u Q I rx ry h;obtain⟨rfl,q⟩:=h;cases ry;refine is_none_gen (eE I q ?_);cases x<;>first
  |(cases rx;rfl)
  |(obtain⟨t,rfl⟩:=rx;rfl)
theorem aaA:bX X (compareOp .IsNot) (λx y H Q=>y=.aJ/\Q (.bl (!decide (x=.aJ))) H):=by
 intro pins s J H x y v u Q I rx ry h;obtain⟨rfl,q⟩:=h;cases ry;refine isnot_none_gen (eE I q ?_);cases x<;>first
  |(cases rx;rfl)
  |(obtain⟨t,rfl⟩:=rx;rfl)
theorem O1(b:ν)(h:op≠.In:=by decide)(h2:op≠.NotIn:=by decide):behindInMarks op b=ξ:=by
 have e1:(op==CmpOp.In)=ξ:=by cases op<;>first|rfl|exact absurd rfl h
 have e2:(op==CmpOp.NotIn)=ξ:=by cases op<;>first|rfl|exact absurd rfl h2
 cases b<;>simp[behindInMarks,e1,e2]
theorem aoB(ho:bX X (compareOp op) r)(ha:PE X a ta)(hb:PE X b tb)(hm:behindInMarks op b=ξ):PE X (.Compare a [op] [b] pos) (zJ r ta tb):=by
 intro pins s J H Q I h;exact wpAny_Compare1 (Im ha hb I h λv u s2 x y H2 I2 rx ry q=>ho pins s2 J H2 x y v u Q I2 rx ry q) hm
def Ls(t:TE):TT:=λJ H Q=>t J H λx H'=>∃k,x=.bl k/\Q k H'
theorem aof(ho:bX X (compareOp op) r)(ha:PE X a ta)(hb:PE X b tb)(hm:behindInMarks op b=ξ):PT X (.Compare a [op] [b] pos) (Ls (zJ r ta tb)):=by
 intro pins s J H Q I h;refine wpAny_isTrue_Compare1 (bJ (ha pins s J H _ I h) λv s1 ⟨x,H1,I1,r1,q1⟩=>bJ (hb pins s1 J H1 _ I1 q1) λu s2 ⟨y,H2,I2,r2,q2⟩ =>
  bJ (ho pins s2 J H2 x y v u _ I2 r1 r2 q2) λc s3 ⟨z,H3,I3,r3,k,e,q3⟩=>?_) hm
 subst e;cases r3;exact VW ⟨H3,I3,q3⟩
def Lw(r r':R2)(ta tb tc:TE):TE:=λJ H Q=>ta J H λx H1=>tb J H1 λy H2=>r x y H2 λz H3=>∃k,z=.bl k /\
 (if k=G then tc J H3 λw' H4=>r' y w' H4 Q else Q (.bl ξ) H3)
theorem aoA(ho:bX X (compareOp op) r)(ho':bX X (compareOp op') r')(ha:PE X a ta)(hb:PE X b tb)(hc:PE X c tc)(hm:lastMarks [op,op'] [b,c]=ξ:=by with_unfolding_all rfl):PE X (.Compare a [op,op'] [b,c] pos) (Lw r r' ta tb tc):=by
 intro pins s J H Q I h;refine Compare_chain (bJ (ha pins s J H _ I h) λv s1 ⟨x,H1,I1,r1,q1⟩=>chain_link (bJ (hb pins s1 J H1 _ I1 q1) λu s2 ⟨y,H2,I2,r2,q2⟩ =>
  bJ (ho pins s2 J H2 x y v u _ I2 r1 r2 q2) λd s3 ⟨z,H3,I3,r3,k,e,q3⟩=>?_)) hm
 subst e;cases r3;refine VW ?_;cases k with
 |false=>exact ite_ff ⟨.bl ξ,H3,I3,rfl,q3⟩
 |true=>exact ite_tt (chain_last (bJ (hc pins s3 J H3 _ I3 q3) λw' s4 ⟨z',H4,I4,r4,q4⟩=>ho' pins s4 J H4 y z' u w' Q I4 r2 r4 q4))
theorem aoe(ho:bX X (compareOp op) r)(ho':bX X (compareOp op') r')(ha:PE X a ta)(hb:PE X b tb)(hc:PE X c tc)(hm:lastMarks [op,op'] [b,c]=ξ:=by with_unfolding_all rfl):PT X (.Compare a [op,op'] [b,c] pos) (Ls (Lw r r' ta tb tc)):=by
 intro pins s J H Q I h;refine isTrue_chain (bJ (ha pins s J H _ I h) λv s1 ⟨x,H1,I1,r1,q1⟩=>test_link (bJ (hb pins s1 J H1 _ I1 q1) λu s2 ⟨y,H2,I2,r2,q2⟩ =>
  bJ (ho pins s2 J H2 x y v u _ I2 r1 r2 q2) λd s3 ⟨z,H3,I3,r3,k,e,q3⟩=>?_)) hm
 subst e;cases r3;refine VW ?_;cases k with
 |false =>
  obtain⟨k',e',q'⟩:=q3;cases e';exact ite_ff ⟨H3,I3,q'⟩
 |true =>
  refine ite_tt (test_last (bJ (hc pins s3 J H3 _ I3 q3) λw' s4 ⟨z',H4,I4,r4,q4⟩=>bJ (ho' pins s4 J H4 y z' u w' _ I4 r2 r4 q4) λd' s5 ⟨z2,H5,I5,r5,k2,e2,q5⟩=>?_))
  subst e2;cases r5;exact VW ⟨H5,I5,q5⟩
def J4(K:Γ)(x:V)(H:Hp)(k:Bool):Prop :=
 match x with
 |.aJ=>k=ξ
 |.bl b=>k=b
 |.int i=>k=(i != 0)
 |.str y=>y.length<=Ω/\k=((y.length:Int) != 0)
 |.jE y=>y.size<=Ω/\k=((y.size:Int) != 0)
 |.ref p=>(∃xs,bQ K H p xs/\k = !xs.isEmpty)\/(∃xs,cF K H p xs/\k = !xs.isEmpty)\/∃kvs,H p=O (.dK kvs)/\k = !kvs.isEmpty
 |_=>False
theorem adJ{κ:Type}{kvs:List (κ×V)}{vs:List (κ×Δ)}(r:KV kvs vs):(!vs.isEmpty) = !kvs.isEmpty:=by
 cases r<;>rfl
theorem Qx{xs:List V}(r:Vals xs its):(!its.toArray.isEmpty) = !xs.isEmpty:=by
 cases r<;>simp
theorem uC:(Ω:Nat)<2^63:=by rw[WJ];decide
theorem al0:aid X (λx H Q=>∃k,J4 X.K x H k/\Q k H):=by
 intro pins s J H x v Q I rx h;obtain⟨k,e,q⟩:=h;have hl:=uC;have hs:Ω=16777216:=WJ;cases x with
 |aJ =>
  cases rx;have e':k=ξ:=e;subst e';exact truthy_none ⟨H,I,q⟩
 |bl b =>
  cases rx;have e':k=b:=e;subst e';exact VW ⟨H,I,q⟩
 |int i =>
  obtain⟨t,rfl⟩:=rx;have e':k=(i != 0):=e;subst e';exact PySem.P.truthy_int ⟨H,I,q⟩
 |str y =>
  obtain⟨t,rfl⟩:=rx;obtain⟨hy,e'⟩:y.length<=Ω/\k=((y.length:Int) != 0):=e;subst e';exact PySem.P.truthy_str ∅ ⟨H,I.tok _,q⟩
 |jE y =>
  obtain⟨t,rfl⟩:=rx;obtain⟨hy,e'⟩:y.size<=Ω/\k=((y.size:Int) != 0):=e;subst e';exact PySem.W.truthy_bytes ∅ ⟨H,I.tok _,q⟩
 |ref p =>
  cases rx;have e':(∃xs,bQ X.K H p xs/\k = !xs.isEmpty)\/(∃xs,cF X.K H p xs/\k = !xs.isEmpty)\/∃kvs,H p=O (.dK kvs)/\k = !kvs.isEmpty:=e
  rcases e' with⟨xs,hx,e'⟩|⟨xs,hx,e'⟩|⟨kvs,hx,e'⟩
  ·subst e';obtain⟨its,r,pl,hz⟩:=I.list hx;have hlen:=r.length;exact wpAny_truthy_list pl.isList (by simp only[U1];omega) ⟨H,I.tok _,by rw[Qx r];exact q⟩
  ·subst e';obtain⟨its,r,pl,hz⟩:=I.tuple hx;have hlen:=r.length;exact truthy_tuple pl (by simp only[U1];omega) ⟨H,I.tok _,by rw[Qx r];exact q⟩
  ·subst e';obtain⟨hz,hS,vs,r,m⟩:kvs.length<=Ω/\(p==sysModules)=ξ/\∃vs,KV kvs vs/\s.heap.DictOf (GA X.prog X.w) p vs:=I.hok p _ hx;have hlen:kvs.length=vs.length:=Paired.length r;exact wpAny_truthy_dict hS m ∅ ⟨H,I.tok _,by rw[adJ r];exact q⟩
 |_=>exact(show False from e).elim
theorem aoh(ha:PE X a ta)(he:∀whole,isTrue a X.env whole=(do let v <-whole;standAt a.pos;holding [v] (truthy v))) :
  PT X a (λJ H Q=>ta J H λx H'=>∃k,J4 X.K x H' k/\Q k H'):=by
 intro pins s J H Q I h;exact isTrue_plain (bJ (ha pins s J H _ I h) λv s1 ⟨x,H1,I1,r1,q1⟩=>al0 pins s1 J H1 x v Q I1 r1 q1) (he _)
theorem aaO:bX X (binaryOp .Add) (λx y H Q=>∃i j,x=.str i/\y=.str j/\i.length+j.length<=Ω/\Q (.str (i++j)) H):=by
 intro pins s J H x y v u Q I rx ry h;obtain⟨i,j,rfl,rfl,hz,q⟩:=h;obtain⟨t,rfl⟩:=rx;obtain⟨t',rfl⟩:=ry;exact add_str (λt' tk=>⟨.str (i++j),H,I.tok _,⟨_,rfl⟩,q⟩) hz
theorem Ua(r:Vals [x] us):∃u,us=[u]/\RelV x u:=by
 cases r with
 |cons r1 r2=>cases r2;exact⟨_,rfl,r1⟩
theorem vals2(r:Vals [x,y] us):∃u w',us=[u,w']/\RelV x u/\RelV y w':=by
 cases r with
 |cons r1 r2 =>
  cases r2 with
  |cons r3 r4=>cases r4;exact⟨_,_,rfl,r1,r3⟩
theorem aho:eU X (.builtin "abs") (λxs H Q=>∃i,xs=[.int i]/\Q (.int (if i<0 then -i else i)) H):=by
 intro pins s J H xs us Q I r h;obtain⟨i,rfl,q⟩:=h;obtain⟨u,rfl,t,rfl⟩:=Ua r;exact call_abs_int λu tk=>⟨.int (if i<0 then -i else i),H,I.tok _,⟨_,rfl⟩,q⟩
theorem ahh(hc:X.calm=G):eU X (.builtin "max") (λxs H Q=>∃i j,xs=[.int i,.int j]/\Q (.int (if j>i then j else i)) H):=by
 intro pins s J H xs us Q I r h;obtain⟨i,j,rfl,q⟩:=h;obtain⟨u,w',rfl,⟨t,rfl⟩,⟨t',rfl⟩⟩:=vals2 r;refine max_two_ints (I.ok.hd hc) λh' tk k=>⟨_,H,I.kept k,?_,q⟩
 by_cases hj:j>i
 ·rw[if_pos hj,if_pos hj];exact⟨_,rfl⟩
 ·rw[if_neg hj,if_neg hj];exact⟨_,rfl⟩
end
structure Kd (h:τ) (x dx C:Ξ) (mA:Str->Option Δ):Prop where
 obj:h.get? x=O (PySem.W.instObj C dx)
 ns:h.Ns1 dx mA
 ne:dx≠x
theorem acS{h:τ}{mA:Str->Option Δ}(n:h.Ns1 dx mA):∃od,h.get? dx=O od/\∀name,PySem.W.lookIn name od=O (mA name):=by
 obtain⟨o,es,ep,ho,hd,hk,_,hm⟩:=n;refine⟨o,ho,λname=>?_⟩
 have e:=hm name;unfold nsFind findBy at e;rw[<-qf]at e;unfold PySem.W.lookIn;rw[hd];dsimp only;split
 ·rename_i y q;rw[q]at e;exact congrArg O e
 ·rename_i q;rw[q]at e;have a:es.toList.any (·.refKey)=ξ:=by
   rw[Z8];intro y hy;obtain⟨z,t,hkey⟩:=hk y (Z7.mp hy);simp[DictEntry.refKey,hkey]
  have a':¬es.toList.any (·.refKey)=G:=by rw[a];exact UC
  rw[if_neg a'];exact congrArg O e
theorem Kd.look{mA:Str->Option Δ}(I:Kd h x dx C mA):∃od,PySem.W.InstAt h x (PySem.W.instObj C dx) C (O od)/\∀name,PySem.W.lookIn name od=O (mA name) :=
 let⟨od,ho,hl⟩:=acS I.ns
 ⟨od,⟨I.obj,rfl,rfl,ho⟩,hl⟩
section
variable {P:π}{w:υ}{H H':Hp}{h h':τ}{a C dx:Ξ}{fs fs':List (Str×V)}
theorem adO(hok:eG P w H h)(e:H a=O (.ins C dx fs)):∃mA,Kd h a dx C mA/\(∀f,J8 (fs.lookup f) (mA f))/\PySem.Within mA (fs.map (·.1))/\fs.length<=1000/\H dx=O (.own a):=by
 obtain⟨d,z,ne,ob,mA,n,r,q⟩:=(show gk P w H h a (.ins C dx fs)from hok a _ e)
 exact⟨mA,⟨ob,n,ne⟩,r,q,z,d⟩
end
structure Kp (K:Γ) (C:Ξ):Prop where
 ao8:PySem.W.plainGet K C Str.empty=G
 hd:PySem.W.hasDictIn K C=G
 po:PySem.W.plainOver K C=G
 sa:PySem.W.findIn K (.ref C) "__setattr__"=O (O (.builtin "object.__setattr__"))
theorem Kp.get{K:Γ}{C:Ξ}(c:Kp K C)(f:Str):PySem.W.plainGet K C f=G:=c.ao8
section
variable {X:Cx}{pins:List (Ξ×Obj)}{J:St}{H:Hp}{s:Ψ}{A:ω}{E:Δ->Ψ->Prop}{Q:Δ->Ψ->Prop}{c:Δ}{b:Bool}
inductive jF (K:Γ) (H:Hp):V->Δ->Prop where
 |aJ:jF K H .aJ (.type "NoneType")
 |bl (x:Bool):jF K H (.bl x) (.type "bool")
 |int (i:Int):jF K H (.int i) (.type "int")
 |str (x:Str):jF K H (.str x) (.type "str")
 |uP (x:UInt64):jF K H (.uP x) (.type "float")
 |lst {a:Ξ}{xs:List V}(e:H a=O (.lst xs)):jF K H (.ref a) (.type "list")
 |dz {a:Ξ}{o:Obj}{xs:List V}(e:H a=O (.dz o (.lst xs))):jF K H (.ref a) (.type "list")
 |tup {a:Ξ}{xs:List V}(e:H a=O (.tup xs)):jF K H (.ref a) (.type "tuple")
 |dK {a:Ξ}{kvs:List (Key×V)}(e:H a=O (.dK kvs)):jF K H (.ref a) (.type "dict")
 |dT {a:Ξ}{kvs:List (List Key×V)}(e:H a=O (.dT kvs)):jF K H (.ref a) (.type "dict")
 |ins {a C dx:Ξ}{fs:List (Str×V)}(e:H a=O (.ins C dx fs)) (cl:Kp K C) (ha:PySem.W.findIn K (.ref C) "__class__"=O (O (.builtin "object.__class__")))
   (hn:PySem.W.specialIn K (.builtin "object.__class__") "__get__"=O (O (.builtin "getset_descriptor.__get__"))) (htk:PySem.W.takesIn K (.builtin "object.__class__")=O G)
   (hm:PySem.W.mroIn K C (.type "object")=O G):jF K H (.ref a) (.ref C)
theorem adC(I:Inv X pins J H s)(rx:RelV x u)(ty:jF X.K H x t)(e:PySem.W.kitOne X.K t c=O b)(h:∀tk,Q (.bool b) {s with toks:=tk}):
  wpAny (model X.prog X.w) A (call (.builtin "isinstance") [u,c]) Q E s:=by
 cases ty with
 |aJ=>cases(show u=Value.none from rx);exact Uw PySem.W.kitx_none I.fK True.intro e (λz=>nomatch z) h
 |bl y=>cases(show u=Value.bool y from rx);exact Uw PySem.W.kitx_bool I.fK True.intro e (λz=>nomatch z) h
 |int i=>obtain⟨t,q⟩:=(show ∃t,u=Value.int i t from rx);cases q;exact Uw PySem.W.kitx_int I.fK True.intro e (λz=>nomatch z) h
 |str y=>obtain⟨t,q⟩:=(show ∃t,u=Value.str y t from rx);cases q;exact Uw PySem.W.kitx_str I.fK True.intro e (λz=>nomatch z) h
 |uP y=>obtain⟨t,q⟩:=(show ∃t,u=Value.float y t from rx);cases q;exact Uw PySem.W.kitx_float I.fK True.intro e (λz=>nomatch z) h
 | @lst a xs ea =>
  cases(show u=Value.ref a from rx)
  obtain⟨_,_,n,_,h1⟩:=(show gk X.prog X.w H s.heap a (.lst xs)from I.hok a _ ea)
  exact Uw pg I.fK ⟨_,h1,rfl⟩ e (λz=>nomatch z) h
 | @dz a ob xs ea =>
  cases(show u=Value.ref a from rx)
  obtain⟨_,_,_,n,_,h1⟩:=(show gk X.prog X.w H s.heap a (.dz ob (.lst xs))from I.hok a _ ea)
  exact Uw pg I.fK ⟨_,h1,rfl⟩ e (λz=>nomatch z) h
 | @tup a xs ea =>
  cases(show u=Value.ref a from rx)
  obtain⟨_,_,_,p⟩:=(show gk X.prog X.w H s.heap a (.tup xs)from I.hok a _ ea)
  obtain⟨o,h1,h2,_⟩:=p;exact Uw PySem.W.kitx_tuple I.fK ⟨o,h1,h2⟩ e (λz=>nomatch z) h
 | @dK a kvs ea =>
  cases(show u=Value.ref a from rx)
  obtain⟨_,_,vs,_,p⟩:=(show gk X.prog X.w H s.heap a (.dK kvs)from I.hok a _ ea)
  obtain⟨o,es,ep,h1,h2,_⟩:=p;exact Uw Z6 I.fK ⟨o,h1,h2.1⟩ e (λz=>nomatch z) h
 | @dT a kvs ea =>
  cases(show u=Value.ref a from rx)
  obtain⟨_,_,xs,_,o,es,ep,h1,h2,_⟩:=(show gk X.prog X.w H s.heap a (.dT kvs)from I.hok a _ ea)
  exact Uw Z6 I.fK ⟨o,h1,h2.1⟩ e (λz=>nomatch z) h
 | @ins a C dx fs ea cl ha hn htk hm =>
  cases(show u=Value.ref a from rx)
  obtain⟨mA,ζ,_⟩:=adO I.hok ea;obtain⟨od,σ,_⟩:=ζ.look;exact Uw (PySem.W.kitx_own (cl.get _) cl.hd ha hn htk hm) I.fK σ e (λz=>nomatch z) h
end
structure c8 (k:Nat) (A:ω):Prop where
 hd:A.handled=Z
 dp:A.depth+3*k+5<recursionLimit
 un:A.units+16*k+200<Uj
theorem c8.mono{A:ω}(r:c8 k A)(h:j<=k):c8 j A:=⟨r.hd,by have:=r.dp;omega,by have:=r.un;omega⟩
theorem c8.deeper{A:ω}(r:c8 (k+1) A)(env:Env):c8 k (A.deeper env) :=
 ⟨r.hd,by have:=r.dp;show A.depth+1+3*k+5<_;omega,by have:=r.un;show A.units+3+16*k+200<_;omega⟩
theorem c8.depth{A:ω}(r:c8 k A):A.depth<recursionLimit:=by have:=r.dp;omega
theorem c8.units{A:ω}(r:c8 k A):A.units+64<Uj:=by have:=r.un;omega
def alP:TA:=λ_ H Q=>Q [] H
def alE(ta:TE)(tr:TA):TA:=λJ H Q=>ta J H λx H1=>tr J H1 λxs H2=>Q (x::xs) H2
section
variable {X:Cx}{e:ν}{es:List ν}{te:TE}{t:TA}{pos:Pos}
theorem kI:PA X [] alP:=λ_ _ _ _ H Q I h=>Calls.spliced_nil ⟨[],H,I,.nil,h⟩
theorem jU(ha:PE X e te)(hr:PA X es t)(hs:ε (e::es) X.env=(ξ,eval e X.env)::ε es X.env:=by rfl):PA X (e::es) (alE te t):=by
 intro pos pins s J H Q I h;rw[hs];show wpAny _ _ (spliced ((ξ,eval e X.env)::U4 pos (ε es X.env))) _ _ s;refine Calls.spliced_cons (bJ (ha pins s J H _ I h) λu s1 ⟨x,H1,I1,r1,q1⟩=>?_)
 exact bJ (hr pos pins s1 J H1 _ I1 q1) λus s2 ⟨xs,H2,I2,r2,q2⟩=>⟨x::xs,H2,I2,.cons r1 r2,q2⟩
def aeB(t:TA):TE:=λJ H Q=>t J H λxs H1=>xs.length<=Ω/\∀p,H1 p=Z->Q (.ref p) (upd H1 p (.tup xs))
def alN(t:TA):TE:=λJ H Q=>t J H λxs H1=>xs.length<=Ω/\∀p,H1 p=Z->Q (.ref p) (upd H1 p (.lst xs))
theorem apx{x1}(h:PA X es t):PE X (.Tuple es x1 pos) (aeB t):=by
 intro pins s J H Q I hq;refine wpAny_Tuple_spliced (bJ (h pos pins s J H _ I hq) λus s1 ⟨xs,H1,I1,r,z,q⟩=>⟨by rw[<-r.length];exact z,?_⟩)
 have hf:H1 s1.heap.objs.size=Z:=I1.hok.fresh (dD _);refine⟨.ref s1.heap.objs.size,upd H1 s1.heap.objs.size (.tup xs),I1.laid (t':=s1.toks) (λb u e=>jn _ e) (dD _) ?_,rfl,q _ hf⟩
 exact⟨z,us,r,⟨_,T9 _ rfl,rfl,⟨_,rfl⟩,rfl⟩⟩
theorem NV(h:PA X es t):PE X (.List es pos) (alN t):=by
 intro pins s J H Q I hq;refine wpAny_List_spliced (bJ (h pos pins s J H _ I hq) λus s1 ⟨xs,H1,I1,r,z,q⟩=>⟨by rw[<-r.length];exact z,?_⟩)
 have hf:H1 s1.heap.objs.size=Z:=I1.hok.fresh (dD _);refine⟨.ref s1.heap.objs.size,upd H1 s1.heap.objs.size (.lst xs),I1.laid (t':=s1.toks) (λb u e=>jn _ e) (dD _) ?_,rfl,q _ hf⟩
 exact⟨z,us,0,r,T9 _ rfl⟩
end
abbrev Sp:=List V->Hp->VK->XK->Prop
abbrev qv:=List Env->Hp->Ψ->XK->Δ->Ψ->Prop
structure vz (P:π) (w:υ) (K:Γ) (mg:Str->Option Δ) (base:τ) (A:ω) (outer:List Env) (s:Ψ) (H:Hp):Prop where
 frames:A.frames=O outer
 mod:Mod K mg base
 bs:∀b o,base.get? b=O o->s.heap.get? b=O o/\H b=Z
 ji:base.objs.size<=s.heap.objs.size
 iZ:s.heap.FunFrames base outer
 mz:∀b∈frs outer,H b=Z
 hok:eG P w H s.heap
 bare:VZ s.gens
def CE(outer:List Env)(P:π)(w:υ)(H:Hp)(s:Ψ)(Q:VK)(u:Δ)(s':Ψ):Prop :=
 ∃v H',s'.os=s.os/\VZ s'.gens/\Un (frs outer) [] H H' s.heap s'.heap/\eG P w H' s'.heap/\RelV v u/\Q v H'
def CR(CX:qv)(outer:List Env)(P:π)(w:υ)(H:Hp)(s:Ψ)(Q:VK)(E:XK)(r:Result)(s':Ψ):Prop :=
 match r with
 |.ok (.ret u)=>CE outer P w H s Q u s'
 |.ok _=>False
 |.error e=>CX outer H s E e s'
structure fS (P:π) (w:υ) (K:Γ) (mg:Str->Option Δ) (base:τ) (CX:qv) (k:Nat) (f:Ξ) (fd:UH) (ps:List Str) (sp:Sp):Prop where
 len:∀vs H Q E,sp vs H Q E->vs.length=ps.length
 run:∀(A:ω) (outer:List Env) (s:Ψ) (H:Hp) (args:Args) (us:List Δ) (vs:List V) (Q:VK) (E:XK),c8 k A->vz P w K mg base A outer s H->W6 s fd args (ps.zip us)->Vals vs us->sp vs H Q E ->
  codeAny (model P w) A (.call (.ref f) args) (CR CX outer P w H s Q E) s
section
variable {X:Cx}{pins:List (Ξ×Obj)}{J:St}{H:Hp}{s s':Ψ}
theorem Inv.HQ(I:Inv X pins J H s):vz X.prog X.w X.K X.mg X.base X.A X.stack s H :=
 ⟨I.ok.frames,I.ok.mod,I.bs,UK I.ok.ji I.sz,I.stack,I.E2,I.hok,I.bare⟩
theorem Inv.after(I:Inv X pins J H s)(h:CE X.stack X.prog X.w H s Q u s'):EP X pins J Q u s':=by
 obtain⟨v,H',os,bare,un,hok,r,q⟩:=h;obtain⟨hh,g,d,t,os'⟩:=s';obtain rfl:os'=s.os:=os;exact⟨v,H',I.call (h':=hh) (g':=g) (d':=d) (t':=t) (ch:=[]) un hok bare (λb z=>absurd z (by simp)),r,q⟩
end
def Lx(sp:Sp)(qa:List V)(E:XK)(t:TA):TE:=λJ H Q=>t J H λvs H1=>sp (vs++qa) H1 Q E
def Binds(K:Γ)(fd:UH)(ps:List Str)(ds:List Δ):Prop :=
 ∀(s:Ψ) (us:List Δ),K.In s.heap->(us++ds).length=ps.length->W6 s fd ⟨us,[]⟩ (ps.zip (us++ds))
theorem Binds.all{K:Γ}{fd:UH}{ps:List Str}(h:∀us:List Δ,us.length=ps.length->bindArgs fd ⟨us,[]⟩=pure (ps.zip us)):Binds K fd ps []:=λs us _ hl=>by
 rw[VI]at hl ⊢;exact .of_eq (h us hl)
def Passes(CX:qv)(X:Cx)(E:XK):Prop:=∀(pins:List (Ξ×Obj)) (J:St) (H:Hp) (s:Ψ) (e:Δ) (s':Ψ),Inv X pins J H s->CX X.stack H s E e s'->X.xe e s'
section
variable {X:Cx}{CX:qv}{k:Nat}{f C:Ξ}{fd:UH}{ps:List Str}{sp:Sp}{qa:List V}{ds:List Δ}{E:XK}{x m:Str}{p pos apos:Pos}{e o:ν}{es:List ν}{ta:TE}{t:TA}
theorem Np(F:fS X.prog X.w X.K X.mg X.base CX k f fd ps sp)(hr:c8 k X.A)(hb:Binds X.K fd ps ds)(hd:Vals qa ds)(hx:Passes CX X E)(I:Inv X pins J H s)(r:Vals vs us)(h:sp (vs++qa) H Q E):wpAny (model X.prog X.w) X.A (call (.ref f) us) (EP X pins J Q) X.xe s:=by
 have r2:Vals (vs++qa) (us++ds):=r.append hd;have hl:(us++ds).length=ps.length:=by rw[<-r2.length];exact F.len _ _ _ _ h
 refine WI (V5 (F.run X.A X.stack s H ⟨us,[]⟩ (us++ds) (vs++qa) Q E hr I.HQ (hb s us I.fK hl) r2 h) λr s' hq=>?_)
 cases r with
 |error e=>exact hx pins J H s e s' I hq
 |ok fl =>
  cases fl with
  |ret u=>exact I.after hq
  |next=>exact False.elim hq
  |brk=>exact False.elim hq
  |cont=>exact False.elim hq
theorem ao1(F:fS X.prog X.w X.K X.mg X.base CX k f fd ps sp)(hr:c8 k X.A)(hg:Gl X x)(hm:X.mg x=O (.ref f))(hk:PySem.W.keepIn X.K (.ref f)=G)(hb:Binds X.K fd ps ds)(hd:Vals qa ds)(hx:Passes CX X E)
  (ha:PA X (e::es) t) (hdb:(x==("__debug__":Str))=ξ:=by decide) (he:ε (e::es) X.env=(ξ,eval e X.env)::ε es X.env:=by rfl) (hpl:(U4 pos (ε es X.env)).any (·.1)=ξ:=by rfl) :
  PE X (.Call (.Name x p) (e::es) [] pos) (Lx sp qa E t):=by
 intro pins s J H Q I h;refine WH (GO I hg hm ?_ hdb);refine ZL (h₀:=X.base) I.ok.mod.l9 hk (bJ (ha pos pins s J H _ I h) λus s1 ⟨vs,H1,I1,r,q⟩=>⟨I1.fK,?_⟩) he hpl
 exact Np F hr hb hd hx I1 r q
end
structure jH (N P:List Str) (sc:UA):Prop where
 kind:sc.kind=.function
 co:sc.isCoroutine=ξ
 gen:sc.isGenerator=ξ
 nd:N.Nodup
 pre:N.take P.length=P
 par:∀x∈P,sc.names.lookup x=O .local\/sc.names.lookup x=O .cell
 ab3:∀y∈sc.names,y.2≠.free
theorem S5{kindOf:Str->Option UI}:∀{binds:List (Str×Δ)}{m:Str->Option Δ},(∀v,(x,v)∉binds)->bindL kindOf binds m x=m x
 |[],_,_=>rfl
 |(n,v)::r,m,h=>by
  unfold bindL;rw[S5 λw hw=>h w (UP _ hw)]
  split
  ·have:x≠n:=by rintro rfl;exact h v Ub
   simp[this]
  ·rfl
theorem S7{kindOf:Str->Option UI}:∀{binds:List (Str×Δ)}{m:Str->Option Δ},(∀v,(x,v)∉binds)->bindC kindOf binds m x=m x
 |[],_,_=>rfl
 |(n,v)::r,m,h=>by
  unfold bindC;rw[S7 λw hw=>h w (UP _ hw)]
  split
  ·rfl
  ·have:x≠n:=by rintro rfl;exact h v Ub
   simp[this]
theorem S6{kindOf:Str->Option UI}:∀{P:List Str}{vs:List Δ}{i:Nat}{m:Str->Option Δ},P.Nodup->P[i]? = O x->vs[i]? = O v->kindOf x=O .local ->
  bindL kindOf (P.zip vs) m x=O v
 |[],_,_,_,_,h,_,_=>by simp at h
 |_::_,[],_,_,_,_,h,_=>by simp at h
 |p::P,w::vs,0,m,nd,h1,h2,hk=>by
  simp at h1 h2;subst h1;subst h2;show bindL kindOf ((p,w)::P.zip vs) m p=_;unfold bindL;rw[S5 λv hv=>(VB.mp nd).1 (Wv hv).1,if_pos hk]
  simp
 |p::P,w::vs,i+1,m,nd,h1,h2,hk=>by
  show bindL kindOf ((p,w)::P.zip vs) m x=_;unfold bindL;exact S6 (i:=i) (VB.mp nd).2 (by simpa using h1) (by simpa using h2) hk
theorem S8{kindOf:Str->Option UI}:∀{P:List Str}{vs:List Δ}{i:Nat}{m:Str->Option Δ},P.Nodup->P[i]? = O x->vs[i]? = O v->kindOf x≠O .local ->
  bindC kindOf (P.zip vs) m x=O v
 |[],_,_,_,_,h,_,_=>by simp at h
 |_::_,[],_,_,_,_,h,_=>by simp at h
 |p::P,w::vs,0,m,nd,h1,h2,hk=>by
  simp at h1 h2;subst h1;subst h2;show bindC kindOf ((p,w)::P.zip vs) m p=_;unfold bindC;rw[S7 λv hv=>(VB.mp nd).1 (Wv hv).1,if_neg hk]
  simp
 |p::P,w::vs,i+1,m,nd,h1,h2,hk=>by
  show bindC kindOf ((p,w)::P.zip vs) m x=_;unfold bindC;exact S8 (i:=i) (VB.mp nd).2 (by simpa using h1) (by simpa using h2) hk
def start(N:List Str)(vs:List V):St:=vs.map O++ο (N.length-vs.length) Z
def lz(CX:qv)(P:π)(w:υ)(K:Γ)(mg:Str->Option Δ)(base:τ)(N:List Str)(qual:Str)(scope:UA)(f:Ξ)(cd:Δ)(A:ω)(outer:List Env)(s:Ψ)(H:Hp)(E:XK):Cx where
 prog:=P
 w:=w
 K:=K
 mg:=mg
 base:=base
 A:=A.deeper (envOfC qual scope s.heap.objs.size f cd)
 N:=N
 s₀:=s
 H₀:=H
 env:=envOfC qual scope s.heap.objs.size f cd
 outer:=outer
 stack:=envOfC qual scope s.heap.objs.size f cd::outer
 ex:=[]
 calm:=G
 fn:=λ_=>G
 pn:=[]
 xe:=λe s'=>wpAny (model P w) (A.deeper (envOfC qual scope s.heap.objs.size f cd)) (leaving (envOfC qual scope s.heap.objs.size f cd) e) (λ_ s''=>CX outer H s E e s'') (λe' s''=>CX outer H s E e' s'') s'
theorem SV{sc:UA}(h:sc.names.lookup x=O .cell):∃c,(cellsFrom n sc.names []).lookup x=O c:=by
 have q:=Xb sc.names n [] (.inl h);exact Vy.mp q
theorem adM{CX:qv}{P:π}{w:υ}{K:Γ}{mg:Str->Option Δ}{base:τ}{qual:Str}{scope:UA}{f:Ξ}{A:ω}{s s1:Ψ}{H:Hp}{E:XK}{vs:List V}(S:jH N ps scope)(hd:A.handled=Z)(e0:vz P w K mg base A outer s H)(hl:vs.length=ps.length)(r:Vals vs us)(x:InCallC s s.heap.objs.size (bindL (envOfC qual scope s.heap.objs.size f cd).kindOf (ps.zip us) λ_=>Z) (cellsFrom (s.heap.objs.size+1) scope.names []) (bindC (envOfC qual scope s.heap.objs.size f cd).kindOf (ps.zip us) λ_=>Z) s1):
  Inv (lz CX P w K mg base N qual scope f cd A outer s H E) [] (start N vs) H s1:=by
 have hpl:ps.length<=N.length:=by have:=congrArg List.length S.pre;rw[Vb]at this;omega
 obtain⟨h1,tk,rfl,hk⟩:=x.done;have nu:∀b:Ξ,b∉(lz CX P w K mg base N qual scope f cd A outer s H E).ex:=λb z=>absurd (show b∈([]:List Ξ)from z) (by simp)
 refine⟨⟨e0.mod,S.kind,rfl,rfl,dD _,λy z c h1 h2=>?_,λy hy=>?_,λy c _ h=>?_,λ_=>hd,Around.frames_deeper e0.frames,.inr ⟨rfl,rfl⟩,λb z=>absurd z (nu b),e0.bs,e0.ji,λb _ _=>nu b,λb z=>absurd z (nu b),e0.iZ,e0.mz⟩,
  rfl,e0.bare,Un.kept hk,⟨_,x.toInCall.ns,λi y v h1 h2 h3=>?_⟩,λy c h=>⟨_,x.cell y c h⟩,e0.hok.fresh (dD _),λy c h=>?_,λp hp=>absurd (show p∈([]:List (Ξ×Obj))from hp) (by simp),e0.hok.kept hk,?_⟩
 ·exact name_of_addr x.apart (VA h1) (VA h2)
 ·have hy:scope.names.lookup y=O .cell\/scope.names.lookup y=O .free:=hy
  rcases hy with hy|hy
  ·exact SV hy
  ·exact absurd rfl (S.ab3 _ (VA hy))
 ·exact VX (x.above y c (VA h))
 ·have hi:i<vs.length:=by
   unfold start at h2
   by_cases hi:i<vs.length
   ·exact hi
   ·rw[Um (by simpa using hi)]at h2
    rw[o9]at h2;split at h2<;>cases h2
  have ha:vs[i]? = O v:=by
   unfold start at h2;rw[UZ (by simpa using hi),U7]at h2
   cases e:vs[i]? with
   |none=>rw[e]at h2;cases h2
   |some a=>rw[e]at h2;cases h2;rfl
  obtain⟨u,hu,rv⟩:=r.get ha;have hp:ps[i]? = O y:=by
   rw[<-S.pre,Xa ∅];exact h1
  have Ph:ps.Nodup:=by rw[<-S.pre];exact S.nd.sublist (ZK _ _)
  refine⟨u,rv,?_⟩
  rcases S.par y (UD hp)with k|k
  ·exact .inl ⟨k,S6 Ph hp hu k⟩
  ·obtain⟨c,e⟩:=SV (n:=s.heap.objs.size+1) k;refine .inr ⟨.inl k,c,e,?_⟩;have q:=x.cell y c e;rw[S8 Ph hp hu (by show scope.names.lookup y≠_;rw[k];decide)]at q
   exact q
 ·exact e0.hok.fresh (VX (x.above y c (VA h)))
 ·unfold start;show _=N.length;rw[UR,T6,XZ];omega
theorem RQ{P:π}{K:Γ}{mg:Str->Option Δ}{base:τ}{name qual:Str}{params:W7}{body:List χ}{scope:UA}{kV doc:Δ}(lk:K.lookup f=O ⟨oc,od,.func (PySem.W.fnOf name qual params body scope dV kV doc pm an cdv ct),osl⟩)(hcd:PySem.W.codeIn K cdv qual=G)(S:jH N ps scope)(len:∀vs H Q E,sp vs H Q E->vs.length=ps.length)(hbody:∀(A:ω) (outer:List Env) (s:Ψ) (H:Hp) (vs:List V) (Q:VK) (E:XK),c8 k (A.deeper (envOfC qual scope s.heap.objs.size f cdv))->sp vs H Q E ->
   ∃t,gX (lz CX P w K mg base N qual scope f cdv A outer s H E) body t/\t {nx:=λ_ H'=>Q .aJ H',rt:=Q} (start N vs) H):
  fS P w K mg base CX (k+1) f (PySem.W.fnOf name qual params body scope dV kV doc pm an cdv ct) ps sp:=by
 refine⟨len,λA outer s H args us vs Q E hr e0 hb r mq=>?_⟩
 have hl:=len _ _ _ _ mq;have KX:K.In s.heap:=e0.mod.l9.keeps λb o e=>(e0.bs b o e).1
 have lim:s.heap.NoLimit:=e0.mod.nolimit.keeps λb o e=>(e0.bs b o e).1
 have hkind:∀y∈ps.zip us,scope.names.lookup y.1=O .local\/(scope.names.lookup y.1=O .cell/\((cellsFrom (s.heap.objs.size+1) scope.names []).lookup y.1).isSome=G):=fun⟨n,v⟩ hy=>by
  rcases S.par n (Wv hy).1 with q|q
  ·exact .inl q
  ·exact .inr ⟨q,Xb _ _ _ (.inl q)⟩
 refine codeAny_call_function hr.depth (KX _ _ lk) rfl S.co S.gen rfl (PySem.W.codeRec_of KX hcd) (hb _ _ _ _ ?_);refine wpAny_newFunctionEnv_cells S.kind hkind λenv he s1 x=>?_
 subst he;refine⟨lim.keeps x.toInCall.keep,codeAny_func ?_⟩;obtain⟨t,ht,hq⟩:=hbody A outer s H vs Q E (hr.deeper _) mq;have I:Inv (lz CX P w K mg base N qual scope f cdv A outer s H E) [] (start N vs) H s1:=adM S hr.hd e0 hl r x;refine UW (ht [] s1 (start N vs) H _ I hq) (λfl s' hs=>?_) λe s' hs=>hs
 have fin:∀{σ':St}{H':Hp}{v:V}{u:Δ},Inv (lz CX P w K mg base N qual scope f cdv A outer s H E) [] σ' H' s'->RelV v u->Q v H'->CE outer P w H s Q u s' :=
  fun{σ' H' v u} σ rv q=>⟨v,H',σ.os,σ.bare,σ.base,σ.hok,rv,q⟩
 cases fl with
 |ret u =>
  obtain⟨v,σ',H',σ,rv,q⟩:=hs;exact fin σ rv q
 |next =>
  obtain⟨σ',H',σ,q⟩:=hs;exact fin (v:=V.aJ) (u:=Value.none) σ rfl q
 |brk =>
  obtain⟨_,_,_,q⟩:=hs;exact False.elim q
 |cont =>
  obtain⟨_,_,_,q⟩:=hs;exact False.elim q
section
variable {X:Cx}{x:Str}{p pos:Pos}{e:ν}{es:List ν}{t:TA}{id T:String}{r:List V->Hp->VK->Prop}
def Ly(r:List V->Hp->VK->Prop)(t:TA):TE:=λJ H Q=>t J H λvs H1=>r vs H1 Q
theorem wG(hc:eU X (.builtin id) r)(hg:Gl X x)(hm:X.mg x=Z)(hv:bootBuiltins x=O (.builtin id))(ha:PA X (e::es) t)(hn:x≠"__name__":=by decide)(hdb:(x==("__debug__":Str))=ξ:=by decide)
  (he:ε (e::es) X.env=(ξ,eval e X.env)::ε es X.env:=by rfl) (hpl:(U4 pos (ε es X.env)).any (·.1)=ξ:=by rfl):PE X (.Call (.Name x p) (e::es) [] pos) (Ly r t):=by
 intro pins s J H Q I h;refine WH (kO I hg hm hv ?_ hn hdb);exact PyProof.Rows.callWith_builtin1 (bJ (ha pos pins s J H _ I h) λus s1 ⟨vs,H1,I1,r1,q1⟩=>hc pins s1 J H1 vs us Q I1 r1 q1) he hpl
theorem lV(hc:eU X (.type T) r)(hg:Gl X x)(hm:X.mg x=Z)(hv:bootBuiltins x=O (.type T))(ha:PA X (e::es) t)(hn:x≠"__name__":=by decide)(hdb:(x==("__debug__":Str))=ξ:=by decide)
  (he:ε (e::es) X.env=(ξ,eval e X.env)::ε es X.env:=by rfl) (hpl:(U4 pos (ε es X.env)).any (·.1)=ξ:=by rfl):PE X (.Call (.Name x p) (e::es) [] pos) (Ly r t):=by
 intro pins s J H Q I h;refine WH (kO I hg hm hv ?_ hn hdb);exact VV (bJ (ha pos pins s J H _ I h) λus s1 ⟨vs,H1,I1,r1,q1⟩=>hc pins s1 J H1 vs us Q I1 r1 q1) he hpl
end
end L2
namespace HT
open PySem PyProof.Rows
section
variable {prog:π}{w:υ}{A:ω}{E:Δ->Ψ->Prop}{s:Ψ}
theorem ahc{vs ws:List Δ}{Q:Δ->Ψ->Prop}(ht:IsTup s.heap t vs.toArray)(hb:IsTup s.heap b ws.toArray)(hv:vs≠[])(h1:ws=[]->Q (.ref t) s)(h2:ws≠[]->Q (.ref s.heap.objs.size) {s with heap:=s.heap.push {cls:=.type "tuple",data:=.seq (vs++ws).toArray} })(hsz:vs.length+ws.length<=Ω):wpAny (model prog w) A (binaryOp .Add (.ref t) (.ref b)) Q E s:=by
 obtain⟨⟨cls,dd,data,sl⟩,ho,hc,n,hd⟩:=id ht;obtain⟨⟨cls2,dd2,data2,sl2⟩,ho2,hc2,n2,hd2⟩:=id hb;simp only at hc hd hc2 hd2;subst hc hd hc2 hd2;have e:vs.toArray++ws.toArray=(vs++ws).toArray:=by simp
 by_cases hw:ws=[]
 ·exact concat_meets ⟨_,ho,rfl⟩ ⟨_,ho2,rfl⟩ noFill_tuple_add seq_tuple_add Zm Zl (Zk _ _)
   (tuple_addW1 t b vs.toArray ws.toArray n n2 dd dd2 sl sl2 (by simpa using hv) (by simp[hw])) ⟨ho,ho2,h1 hw⟩
 ·refine concat_meets ⟨_,ho,rfl⟩ ⟨_,ho2,rfl⟩ noFill_tuple_add seq_tuple_add Zm Zl (Zk _ _)
   (tuple_addW2 t b vs.toArray ws.toArray n n2 dd dd2 sl sl2 (by simpa using hv) (by simpa using hw) (by rw[U1,U1];exact hsz)) ⟨ho,ho2,?_⟩
  rw[e];exact h2 hw
def f7(n d:Nat):Option Int->Nat
 |none=>d
 |some v=>if v<0 then(v+(n:Int)).toNat else min v.toNat n
theorem anF(n d k:Nat):f7 n d (O (k:Int))=min k n:=by
 show(if(k:Int)<0 then((k:Int)+(n:Int)).toNat else min (k:Int).toNat n)=min k n
 rw[if_neg ∅,WG]
end
end HT
namespace L2
open PySem PySem.Spec PyProof.Rows
abbrev TO:=St->Hp->(Option Int->Hp->Prop)->Prop
def PO(X:Cx)(e:Option ν)(t:TO):Prop :=
 ∀(pins:List (Ξ×Obj)) (s:Ψ) (J:St) (H:Hp) (Q:Option Int->Hp->Prop),Inv X pins J H s->t J H Q ->
  wpAny (model X.prog X.w) X.A (evalPart e X.env) (λu s'=>∃o H',Inv X pins J H' s'/\IsPart u o/\Q o H') X.xe s
def alQ:TO:=λ_ H Q=>Q Z H
def alU(t:TE):TO:=λJ H Q=>t J H λx H1=>∃i,x=.int i/\Q (O i) H1
section
variable {X:Cx}{e:ν}{te:TE}{lo hi:Option ν}{tl th:TO}{pos p2:Pos}
theorem apV:PO X Z alQ:=by
 intro pins s J H Q I h;rw[evalPart_none];exact bg ⟨Z,H,I,.none,h⟩
theorem apW(h:PE X e te):PO X (O e) (alU te):=by
 intro pins s J H Q I hw;rw[evalPart_some];refine bJ (h pins s J H _ I hw) λu s1 ⟨x,H1,I1,r1,q1⟩=>?_
 obtain⟨i,rfl,q⟩:=q1;obtain⟨t,rfl⟩:=r1;exact⟨O i,H1,I1,.int i t,q⟩
def Tw(X:Cx)(r:V->Option Int->Option Int->Hp->VK->Prop):Prop :=
 ∀(pins:List (Ξ×Obj)) (s:Ψ) (J:St) (H:Hp) (x:V) (v vl vu:Δ) (lo hi:Option Int) (sl:Ξ) (Q:VK),Inv X pins J H s->RelV x v->s.heap.IsSliceOf sl vl vu .none->IsPart vl lo->IsPart vu hi->r x lo hi H Q ->
  ∃T id,typeLookup (.type T) "__getitem__"=pure (O (.builtin id))/\s.TypeIs v T/\wpAny (model X.prog X.w) X.A (getItem v (.ref sl)) (EP X pins J Q) X.xe s
def ad2(r:V->Option Int->Option Int->Hp->VK->Prop)(te:TE)(tl th:TO):TE:=λJ H Q=>te J H λx H1=>tl J H1 λl H2=>th J H2 λu H3=>r x l u H3 Q
theorem apu{r:V->Option Int->Option Int->Hp->VK->Prop}(hr:Tw X r)(he:PE X e te)(hl:PO X lo tl)(hu:PO X hi th):PE X (.Subscript e (.Slice lo hi Z p2) pos) (ad2 r te tl th):=by
 intro pins s J H Q I h;refine Subscript_ (bJ (he pins s J H _ I h) λv s1 ⟨x,H1,I1,r1,q1⟩=>?_)
 refine wpAny_Slice (bJ (hl pins s1 J H1 _ I1 q1) λvl s2 ⟨l,H2,I2,pl,q2⟩=>bJ (hu pins s2 J H2 _ I2 q2) λvu s3 ⟨u,H3,I3,pu,q3⟩=>?_)
 rw[evalPart_none];refine bg ?_;have I4:Inv X pins J H3 {s3 with heap:=s3.heap.push {cls:=.type "slice",data:=.fields #[vl,vu,.none]} }:=I3.kept (t':=s3.toks) λb ob q=>jn _ q
 obtain⟨T,id,hT,ht,hg⟩:=hr pins {s3 with heap:=s3.heap.push {cls:=.type "slice",data:=.fields #[vl,vu,.none]} } J H3 x v vl vu l u s3.heap.objs.size Q I4 r1 (Heap.IsSliceOf.new ..) pl pu q3
 show wpAny (model X.prog X.w) X.A (subscriptTail e (.Slice lo hi Z p2) v (.ref s3.heap.objs.size)) (EP X pins J Q) X.xe {s3 with heap:=s3.heap.push {cls:=.type "slice",data:=.fields #[vl,vu,.none]} }
 exact tail_any (ops:=[.ref s3.heap.objs.size,v]) ht hT hg (by with_unfolding_all rfl)
def vc(xs:List V)(lo hi:Option Int):List V:=(xs.drop (HT.f7 xs.length 0 lo)).take (HT.f7 xs.length xs.length hi-HT.f7 xs.length 0 lo)
theorem agz(xs:List V)(lo hi:Option Int):(vc xs lo hi).length<=xs.length:=by
 unfold vc;rw[Vb,List.length_drop];omega
def aov(K:Γ):R2:=λx y H Q=>∃a b xs ys,x=.ref a/\y=.ref b/\cF K H a xs/\cF K H b ys/\xs≠[]/\xs.length+ys.length<=Ω /\
 (ys=[]->Q (.ref a) H)/\(ys≠[]->∀p,H p=Z->Q (.ref p) (upd H p (.tup (xs++ys))))
theorem Vals.Gi{xs:List V}(r:Vals xs us):us=[]↔xs=[]:=by
 cases r with
 |nil=>simp
 |cons _ _=>simp
theorem aaL:bX X (binaryOp .Add) (aov X.K):=by
 intro pins s J H x y v u Q I rx ry h;obtain⟨a,b,xs,ys,rfl,rfl,ha,hb,hx,hz,q1,q2⟩:=h;cases rx;cases ry;obtain⟨its,r1,p1,_⟩:=I.tuple ha;obtain⟨its2,r2,p2,_⟩:=I.tuple hb;refine HT.ahc p1 p2 (λz=>hx (r1.Gi.mp z)) (λz=>⟨.ref a,H,I,rfl,q1 (r2.Gi.mp z)⟩) (λz=>?_) (by rw[<-r1.length,<-r2.length];exact hz)
 refine⟨.ref s.heap.objs.size,_,I.laid (t':=s.toks) (o:=.tup (xs++ys)) (λb ob q=>jn _ q) (dD _) ?_,rfl,q2 (λw=>z (r2.Gi.mpr w)) _ (I.hok.fresh (dD _))⟩
 exact⟨by rw[UR];exact hz,_,r1.append r2,nX.new _ _⟩
end
def gu(n:Nat)(i:Int):Option Nat:=if 0<=i then(if i<n then O i.toNat else Z)else if -(n:Int)<=i then O (i+n).toNat else Z
def dB{α:Type}(xs:List α)(i:Int):Option α:=(gu xs.length i).bind λj=>xs[j]?
theorem Qp(h:gu n i=O j):seqIndex? i n=O j/\j<n/\-(n:Int)<=i/\i<n:=by
 unfold gu at h
 by_cases h0:0<=i
 ·rw[if_pos h0]at h
  by_cases h1:i<n
  ·rw[if_pos h1]at h;have e:i.toNat=j:=U9 h;exact⟨by rw[seqIndex_of h0 h1,e],∅,∅,h1⟩
  ·rw[if_neg h1]at h;cases h
 ·rw[if_neg h0]at h
  by_cases h1:-(n:Int)<=i
  ·rw[if_pos h1]at h;have e:(i+n).toNat=j:=U9 h;exact⟨by rw[seqIndex_neg ∅ h1,e],∅,h1,∅⟩
  ·rw[if_neg h1]at h;cases h
theorem Tf{α:Type}{xs:List α}{i:Int}{v:α}(h:dB xs i=O v):∃j,seqIndex? i xs.length=O j/\xs[j]? = O v/\j<xs.length/\-(xs.length:Int)<=i/\i<xs.length:=by
 unfold dB at h;cases e:gu xs.length i with
 |none=>rw[e]at h;cases h
 |some j =>
  rw[e]at h;obtain⟨h1,h2,h3,h4⟩:=Qp e;exact⟨j,h1,h,h2,h3,h4⟩
theorem iy{α:Type}{xs:List α}{j:Nat}{v:α}(h:xs[j]? = O v):dB xs (j:Int)=O v:=by
 have hj:j<xs.length:=(U3.mp h).1;have e:gu xs.length (j:Int)=O j:=by
  unfold gu;rw[if_pos ∅,if_pos ∅];simp
 unfold dB;rw[e];exact h
def J9(b:ν):Prop:=∀o i,subscripted b ξ o i=operate [o,i] (getItem o i)
def vq(X:Cx)(r:R2):Prop :=
 ∀(value slice:ν) (pins:List (Ξ×Obj)) (s:Ψ) (J:St) (H:Hp) (x y:V) (v u:Δ) (Q:VK),Inv X pins J H s->RelV x v->RelV y u->r x y H Q ->
  subscripted slice ξ v u=operate [v,u] (getItem v u)->wpAny (model X.prog X.w) X.A (subscriptTail value slice v u) (EP X pins J Q) X.xe s
def MtR(X:Cx)(id:String)(r:V->List V->Hp->VK->Prop):Prop :=
 ∀(pins:List (Ξ×Obj)) (s:Ψ) (J:St) (H:Hp) (x:V) (xs:List V) (v:Δ) (us:List Δ) (Q:VK),Inv X pins J H s->RelV x v->Vals xs us->r x xs H Q ->
  wpAny (model X.prog X.w) X.A (call (.builtin id) (v::us)) (EP X pins J Q) X.xe s
section
variable {X:Cx}{a b:ν}{ta tb:TE}{pos:Pos}
theorem FY(hr:vq X r)(ha:PE X a ta)(hb:PE X b tb)(hs:J9 b):PE X (.Subscript a b pos) (zJ r ta tb):=by
 intro pins s J H Q I h;exact Subscript_ (Im ha hb I h λv u s2 x y H2 I2 rx ry q=>hr a b pins s2 J H2 x y v u Q I2 rx ry q (hs _ _))
def aoz(K:Γ):R2:=λx y H Q=>∃p xs i v,x=.ref p/\y=.int i/\bQ K H p xs/\dB xs i=O v/\Q v H
def aoD(K:Γ):R2:=λx y H Q=>∃p xs i v,x=.ref p/\y=.int i/\cF K H p xs/\dB xs i=O v/\Q v H
theorem adv:vq X (aoz X.K):=by
 intro value slice pins s J H x y v u Q I rx ry h hs;obtain⟨p,xs,i,z,rfl,rfl,hq,he,q⟩:=h;cases rx;obtain⟨t,rfl⟩:=ry;obtain⟨its,r,pl,hz⟩:=I.list hq;obtain⟨j,h1,h2,h3,h4,h5⟩:=Tf he;obtain⟨w,ew,rw'⟩:=r.get h2;have hl:=r.length;have hn:=uC;have fin:EP X pins J Q w s:=⟨z,H,I,rw',q⟩
 by_cases h0:0<=i
 ·have hj:i.toNat=j:=by
   rw[seqIndex_of h0 h5]at h1;exact U9 h1
  exact item_listR pl.isList h0 ∅ (by rw[hj];simpa using ew) fin hs
 ·have hj:(i+(its.toArray.size:Int)).toNat=j:=by
   rw[seqIndex_neg ∅ h4]at h1
   rw[U1,<-hl];exact U9 h1
  exact ZJ (x:=w) pl.isList.typeIs slot_list_getitem.lookup
   (wpAny_getItem_list_neg (Q:=λr s'=>r=w/\EP X pins J Q r s') pl.isList ∅ (by rw[U1]<;>omega) ∅ (by rw[hj];simpa using ew) ⟨rfl,fin⟩) hs
theorem Qm:vq X (aoD X.K):=by
 intro value slice pins s J H x y v u Q I rx ry h hs;obtain⟨p,xs,i,z,rfl,rfl,hq,he,q⟩:=h;cases rx;obtain⟨t,rfl⟩:=ry;obtain⟨its,r,pl,hz⟩:=I.tuple hq;obtain⟨j,h1,h2,h3,h4,h5⟩:=Tf he;obtain⟨w,ew,rw'⟩:=r.get h2;have hl:=r.length;have hn:=uC;have fin:EP X pins J Q w s:=⟨z,H,I,rw',q⟩;exact ZJ (x:=w) pl.typeIs slot_tuple_getitem.lookup
  (getItem_tuple (j:=j) (Q:=λr s'=>r=w/\EP X pins J Q r s') pl ∅ ∅ (by rw[U1,<-hl];exact h1) (by simpa using ew) ⟨rfl,fin⟩) hs
theorem acI(its:List Δ)(n j:Nat)(u:Δ):Obj.mapSeq (·.setIfInBounds j u) {cls:=.type "list",data:=.seq its.toArray n}={cls:=.type "list",data:=.seq (its.set j u).toArray n}:=by
 simp[Obj.mapSeq]
theorem Inv.lst{xs:List V}(I:Inv X pins J H s)(h:H p=O (.lst xs)):
  ∃(its:List Δ) (n:Nat),Vals xs its/\s.heap.get? p=O {cls:=.type "list",data:=.seq its.toArray n}/\xs.length<=Ω:=by
 obtain⟨z,its,n,r,e⟩:=I.hok p _ h;exact⟨its,n,r,e,z⟩
theorem Inv.acM{xs:List V}{its its':List Δ}{f:Obj->Obj}(I:Inv X pins J H s)(h:H p=O (.lst xs))(ho:s.heap.get? p=O {cls:=.type "list",data:=.seq its.toArray n})(hf:f {cls:=.type "list",data:=.seq its.toArray n}={cls:=.type "list",data:=.seq its'.toArray n'})(r:Vals ys its')(hz:ys.length<=Ω)(t:Nat):
  Inv X pins J (upd H p (.lst ys)) {s with heap:=s.heap.update p f,toks:=t}:=by
 have e:(s.heap.update p f).get? p=O {cls:=.type "list",data:=.seq its'.toArray n'}:=by
  rw[Wu f ho (by rw[hf]<;>rfl),hf]
 refine I.write (x:=p) (e:=p) (by rw[h];trivial) (.inl rfl) (λb u hb q=>(WE _ _ (Uo hb)).trans q) ⟨_,e⟩ ?_
 exact⟨hz,its',n',r,e⟩
def aoN:V->V->V->Hp->(Hp->Prop)->Prop:=λo i v H Q=>∃p xs k j,o=.ref p/\i=.int k/\H p=O (.lst xs)/\gu xs.length k=O j/\Q (upd H p (.lst (xs.set j v)))
theorem set_list:Tz X aoN:=by
 intro pins s J H o i v ov iv u Q I ro ri rv h;obtain⟨p,xs,k,j,rfl,rfl,hp,hj,q⟩:=h;cases ro;obtain⟨t,rfl⟩:=ri;obtain⟨its,n,r,ho,hz⟩:=I.lst hp;obtain⟨h1,h2,h3,h4⟩:=Qp hj;have hl:=r.length;have hn:=uC;have I':Inv X pins J (upd H p (.lst (xs.set j v))) {s with heap:=s.heap.update p (Obj.mapSeq (·.setIfInBounds j u))} :=
  I.acM hp ho (acI its n j u) (r.set rv j) (by rw[ZI];exact hz) s.toks
 by_cases h0:0<=k
 ·have hk:k.toNat=j:=by
   rw[seqIndex_of h0 h4]at h1;exact U9 h1
  exact PySem.W.ki_setAt ho h0 ∅ (by rw[U1,<-hl];exact h4) (by rw[hk];exact⟨_,I',q⟩)
 ·have hk:(k+(its.toArray.size:Int)).toNat=j:=by
   rw[seqIndex_neg ∅ h3]at h1
   rw[U1,<-hl];exact U9 h1
  exact PySem.W.ki_setBack ho ∅ (by rw[U1,<-hl];exact h3) ∅ (by rw[hk];exact⟨_,I',q⟩)
theorem amy(lo hi:Option Int)(n:Nat):(sliceBounds lo hi Z n).1=((HT.f7 n 0 lo:Nat):Int)/\(sliceBounds lo hi Z n).2.1=((HT.f7 n n hi:Nat):Int)/\(sliceBounds lo hi Z n).2.2=1:=by
 refine⟨?_,?_,rfl⟩
 ·cases lo with
  |none=>simp[sliceBounds,HT.f7]
  |some i =>
   simp only[sliceBounds,HT.f7,Zj,show(1:Int)>0 by decide,if_true]
   by_cases h:i<0
   ·simp only[h,if_true]<;>omega
   ·simp only[h,if_false]<;>omega
 ·cases hi with
  |none=>simp[sliceBounds,HT.f7]
  |some i =>
   simp only[sliceBounds,HT.f7,Zj,show(1:Int)>0 by decide,if_true]
   by_cases h:i<0
   ·simp only[h,if_true]<;>omega
   ·simp only[h,if_false]<;>omega
theorem ani(its:List Δ)(lo hi:Option Int):slicePick its.toArray lo hi Z=((its.drop (HT.f7 its.length 0 lo)).take (HT.f7 its.length its.length hi-HT.f7 its.length 0 lo)).toArray:=by
 obtain⟨h1,h2,h3⟩:=amy lo hi its.toArray.size;unfold slicePick;rw[h1,h2,h3];simp only[sliceRange_one,pick_run,U1]<;>rfl
def aoQ(K:Γ):V->Option Int->Option Int->Hp->VK->Prop:=λx lo hi H Q=>∃a xs,x=.ref a/\bQ K H a xs/\∀p,H p=Z->Q (.ref p) (upd H p (.lst (vc xs lo hi)))
theorem anh:Tw X (aoQ X.K):=by
 intro pins s J H x v vl vu lo hi sl Q I rx hs pl pu h;obtain⟨a,xs,rfl,hx,q⟩:=h;cases rx;obtain⟨its,r,ht,hz⟩:=I.list hx;have hlen:=r.length;refine⟨"list",_,slot_list_getitem.lookup,ht.isList.typeIs,?_⟩;refine wpAny_getItem_list_slice ht.isList hs pl pu .none (by simp) ?_ (by rw[U1]<;>omega)
 rw[ani,<-hlen];refine⟨.ref s.heap.objs.size,_,I.laid (t':=s.toks) (o:=.lst (vc xs lo hi)) (λb ob q=>jn _ q) (dD _) ?_,rfl,q _ (I.hok.fresh (dD _))⟩
 exact⟨UK (agz xs lo hi) hz,_,0,(r.drop (HT.f7 xs.length 0 lo)).take (HT.f7 xs.length xs.length hi-HT.f7 xs.length 0 lo),T9 _ rfl⟩
theorem ahj:eU X (.builtin "len") (λxs H Q=>∃p ys,xs=[.ref p]/\(bQ X.K H p ys\/cF X.K H p ys)/\Q (.int ys.length) H):=by
 intro pins s J H xs us Q I r h;obtain⟨p,ys,rfl,hq,q⟩:=h;obtain⟨u,rfl,rx⟩:=Ua r;cases rx;have hn:=uC
 rcases hq with hq|hq
 ·obtain⟨its,r',pl,hz⟩:=I.list hq;have hlen:=r'.length;exact Calls.call_len_list pl.isList (by simp only[U1]<;>omega) ⟨.int ys.length,H,I.tok _,⟨s.toks+1,by rw[U1,hlen]⟩,q⟩
 ·obtain⟨its,r',pl,hz⟩:=I.tuple hq;have hlen:=r'.length;exact len_tuple pl (by simp only[U1]<;>omega) ⟨.int ys.length,H,I.tok _,⟨s.toks+1,by rw[U1,hlen]⟩,q⟩
theorem ahi:eU X (.builtin "len") (λxs H Q=>∃z,xs=[.str z]/\z.length<=Ω/\Q (.int z.length) H):=by
 intro pins s J H xs us Q I r h;obtain⟨z,rfl,hz,q⟩:=h;obtain⟨u,rfl,t,rfl⟩:=Ua r;have hn:=uC;exact len_str ∅ ⟨.int z.length,H,I.tok _,⟨_,rfl⟩,q⟩
theorem ahe:eU X (.type "tuple") (λxs H Q=>∃p ys,xs=[.ref p]/\((bQ X.K H p ys/\∀l,H l=Z->Q (.ref l) (upd H l (.tup ys)))\/(cF X.K H p ys/\Q (.ref p) H))):=by
 intro pins s J H xs us Q I r h;obtain⟨p,ys,rfl,h⟩:=h;obtain⟨u,rfl,rx⟩:=Ua r;cases rx
 rcases h with⟨hq,q⟩|⟨hq,q⟩
 ·obtain⟨its,r',pl,hz⟩:=I.list hq;have hlen:=r'.length;refine call_tuple_list pl.isList (λh' kp=>?_) (by simp only[U1]<;>omega)
  have I1:Inv X pins J H {s with heap:=h'}:=I.kept (t':=s.toks) kp
  have I2:Inv X pins J (upd H h'.objs.size (.tup ys)) {s with heap:=h'.push {cls:=.type "tuple",data:=.seq its.toArray} } :=
   I1.laid (t':=s.toks) (λb o e=>jn _ e) (dD _) (show gk X.prog X.w _ _ _ (.tup ys)from⟨hz,its,r',nX.new _ _⟩)
  exact⟨.ref h'.objs.size,_,I2,rfl,q _ (I1.hok.fresh (dD _))⟩
 ·obtain⟨its,r',pl,hz⟩:=I.tuple hq;exact call_tuple_same pl ⟨.ref p,H,I,rfl,q⟩
def K7(K:Γ)(T:String)(x:V)(H:Hp):Prop:=match x with
 |.str _=>T="str"
 |.int _=>T="int"
 |.ref p=>(T="list"/\∃xs,bQ K H p xs)\/(T="tuple"/\((∃xs,H p=O (.tup xs))\/∃o,K.lookup p=O o/\o.cls=.type "tuple"/\o.dict=Z)) \/
   (T="dict"/\((∃kvs,H p=O (.dK kvs))\/∃kvs,H p=O (.dT kvs)))\/(T="set"/\∃S n,H p=O (.set S n))
 |_=>False
theorem akO(I:Inv X pins J H s)(r:RelV x v)(ty:K7 X.K T x H):
  s.TypeIs v T/\∀a,v=.ref a->∃ob,s.heap.get? a=O ob/\ob.dict=Z:=by
 cases x with
 |str z =>
  obtain⟨t,rfl⟩:=r;cases(show T="str" from ty)
  exact⟨typeIs_str s z t,λ_ e=>nomatch e⟩
 |int i =>
  obtain⟨t,rfl⟩:=r;cases(show T="int" from ty)
  exact⟨typeIs_int s i t,λ_ e=>nomatch e⟩
 |ref p =>
  cases r
  rcases ty with⟨rfl,xs,hq⟩|⟨rfl,⟨xs,hk⟩|⟨o,hk,hc,hd⟩⟩|⟨rfl,hk⟩|⟨rfl,S,n,hk⟩
  ·obtain⟨its,_,pl,_⟩:=I.list hq;refine⟨pl.isList.typeIs,λa e=>?_⟩
   cases e;obtain⟨o,n,e,c,hd,_⟩:=pl;exact⟨o,e,hd⟩
  ·obtain⟨_,its,_,o,e,c,_,hd⟩:=(show gk X.prog X.w H s.heap p (.tup xs)from I.hok p _ hk)
   refine⟨⟨o,e,c⟩,λa e2=>?_⟩
   cases e2;exact⟨o,e,hd⟩
  ·refine⟨⟨o,I.fK p o hk,hc⟩,λa e=>?_⟩
   cases e;exact⟨o,I.fK _ o hk,hd⟩
  ·have z:∃o,s.heap.get? p=O o/\o.ExactDict:=by
    rcases hk with⟨kvs,hk⟩|⟨kvs,hk⟩
    ·obtain⟨_,_,_,_,o,_,_,e,ex,_⟩:=I.hok p _ hk;exact⟨o,e,ex⟩
    ·obtain⟨_,_,_,_,o,_,_,e,ex,_⟩:=I.hok p _ hk;exact⟨o,e,ex⟩
   obtain⟨o,e,ex⟩:=z;refine⟨⟨o,e,ex.1⟩,λa e2=>?_⟩
   cases e2;exact⟨o,e,ex.2.1⟩
  ·obtain⟨o,_,_,_,e,ex,_⟩:=I.hok p _ hk;refine⟨⟨o,e,ex.1⟩,λa e2=>?_⟩
   cases e2;exact⟨o,e,ex.2.1⟩
 |_=>exact False.elim ty
def alC(K:Γ)(T:String)(r:V->List V->Hp->VK->Prop)(to:TE)(t:TA):TE:=λJ H Q=>to J H λx H1=>K7 K T x H1/\t J H1 λxs H2=>r x xs H2 Q
variable {o e:ν}{es:List ν}{to:TE}{t:TA}{name:Str}{apos cpos:Pos}{T id:String}{r:V->List V->Hp->VK->Prop}
theorem FZ(pa:PlainAttrs T)(slot:Slot T name id)(hty:typeOf (.builtin id)=pure (.type "method_descriptor"))(hm:MtR X id r)(ho:PE X o to)(ha:PA X (e::es) t)
  (hbase:Y7 o name X.env (eval o X.env)=eval o X.env:=by rfl)
  (hfew:((U4 cpos (ε (e::es) X.env)).all (λx=>!x.1)&&(WY cpos (Wb [] X.env)).all (λx=>x.1.isSome)
   && decide ((e::es).length+([]:List VL).length+(if([]:List VL).isEmpty then 0 else 1)<30))=G:=by rfl)
  (hline:(apos.endLine==cpos.line)=G:=by rfl) (hs:ε (e::es) X.env=(ξ,eval e X.env)::ε es X.env:=by rfl) (hplain:(U4 cpos (ε es X.env)).any (·.1)=ξ:=by rfl) :
  PE X (.Call (.Attribute o name apos) (e::es) [] cpos) (alC X.K T r to t):=by
 intro pins s J H Q I h;refine wpAny_Call_method_late hbase hfew hline rfl (bJ (ho pins s J H _ I h) λv s1 ⟨x,H1,I1,r1,ty,q1⟩=>?_)
 obtain⟨h1,h2⟩:=akO I1 r1 ty;refine⟨T,id,pa,slot,hty,h1,h2,?_⟩;have hA:=ha cpos pins s1 J H1 _ I1 q1;rw[hs]at hA ⊢;refine Calls.callWith_builtin (by show(ξ||(U4 cpos (ε es X.env)).any (·.1))=ξ;rw[hplain]<;>rfl) (Calls.evalArgs_plain ?_)
 exact bJ hA λus s2 ⟨vs,H2,I2,r2,q2⟩=>hm pins s2 J H2 x vs v us Q I2 r1 r2 q2
end
def Ke(X:Cx)(id:String)(r:V->List V->Hp->VK->Prop):Prop :=
 ∀(pins:List (Ξ×Obj)) (s:Ψ) (J:St) (H:Hp) (x:V) (xs:List V) (v:Δ) (us:List Δ) (Q:VK),Inv X pins J H s->RelV x v->Vals xs us->r x xs H Q ->
  wpAny (model X.prog X.w) X.A (call (.builtin id) (v::us)) (EP X pins J Q) X.xe s
theorem Vals.one:∀{x:V}{us:List Δ},Vals [x] us->∃u,us=[u]/\RelV x u
 |_,_,.cons r .nil=>⟨_,rfl,r⟩
theorem Vals.two:∀{x y:V}{us:List Δ},Vals [x,y] us->∃u v,us=[u,v]/\RelV x u/\RelV y v
 |_,_,_,.cons r (.cons q .nil)=>⟨_,_,rfl,r,q⟩
theorem Vals.eraseIdx:∀{xs:List V}{us:List Δ}(i:Nat),Vals xs us->Vals (xs.eraseIdx i) (us.eraseIdx i)
 |_,_,_,.nil=>.nil
 |_,_,0,.cons _ t=>t
 |_,_,i+1,.cons r t=>.cons r (Vals.eraseIdx i t)
theorem Vals.rep{xs:List V}(h:Vals xs us):∀k:Nat,Vals (ο k xs).flatten (ο k us).flatten
 |0=>.nil
 |k+1=>by
  rw[Va,Va,Vx,Vx];exact Vals.append h (Vals.rep h k)
theorem PZ{α:Type}:∀(l:List α) (i:Nat),(l.eraseIdx i).length<=l.length
 |[],_=>dD _
 |_::_,0=>WD _
 |_::r,i+1=>Nat.succ_le_succ (PZ r i)
theorem foldl_rep(its:List Δ):∀(k:Nat) (acc:List Δ),
  List.foldl (λx1 x2=>x1++x2) acc.toArray (ο k its.toArray)=(acc++(ο k its).flatten).toArray
 |0,acc=>by simp
 |k+1,acc=>by
  have e:acc.toArray++its.toArray=(acc++its).toArray:=by simp
  have e2:(acc++its)++(ο k its).flatten=acc++(ο (k+1) its).flatten:=by
   rw[Va,Vx,UY]
  rw[<-e2,<-foldl_rep its k (acc++its),<-e,Va,Vj]
section
variable {X:Cx}{pins:List (Ξ×Obj)}{J:St}{H:Hp}{s:Ψ}{l b:Ξ}{xs ys zs:List V}
theorem Inv.GI{its its':List Δ}{f:Array Δ->Array Δ}(I:Inv X pins J H s)(hH:H l=O (.lst xs))(e:s.heap.get? l=O {cls:=.type "list",data:=.seq its.toArray n})(hf:f its.toArray=its'.toArray)(hv:Vals ys its')(hz:ys.length<=Ω):
  Inv X pins J (upd H l (.lst ys)) {s with heap:=s.heap.update l (Obj.mapSeq f),toks:=t'}:=by
 have q:=Zi e f;rw[hf]at q;refine I.write (x:=l) (e:=l) (by rw[hH];exact trivial) (.inl rfl) (λb' u hb hu=>(WE s.heap (Obj.mapSeq f) (Uo hb)).trans hu) ⟨_,q⟩ ?_
 exact⟨hz,its',_,hv,q⟩
theorem Inv.PV(I:Inv X pins J H s)(hv:Vals ys its)(hz:ys.length<=Ω):
  Inv X pins J (upd H s.heap.objs.size (.lst ys)) {s with heap:=s.heap.push {cls:=.type "list",data:=.seq its.toArray},toks:=t'} :=
 I.laid (λ_ _ q=>jn _ q) (dD _) ⟨hz,its,0,hv,T9 _ rfl⟩
theorem Inv.fresh(I:Inv X pins J H s):H s.heap.objs.size=Z:=I.hok.fresh (dD _)
theorem Inv.rG(I:Inv X pins J H s)(hH:H l=O (.lst xs)):xs.length<=Ω/\∃(its:List Δ) (n:Nat),Vals xs its/\xs.length=its.length/\s.heap.get? l=O {cls:=.type "list",data:=.seq its.toArray n}:=by
 obtain⟨z,its,n,r,e⟩:=I.hok l _ hH;exact⟨z,its,n,r,r.length,e⟩
theorem O0(h:n<=Ω):Builtin.List.listTooLong n=ξ:=by
 unfold Builtin.List.listTooLong;exact decide_eq_false ∅
end
section
variable {X:Cx}
def aot:V->List V->Hp->VK->Prop:=λx vs H Q=>∃l xs y,x=.ref l/\vs=[y]/\H l=O (.lst xs)/\xs.length<Ω/\Q .aJ (upd H l (.lst (xs++[y])))
theorem acE:Ke X "list.append" aot:=by
 intro pins s J H x vs v us Q I rx rv h;obtain⟨l,xs,y,rfl,rfl,hH,hz,q⟩:=h;cases rx;obtain⟨u,rfl,ru⟩:=rv.one;obtain⟨z,its,n,r,hl,e⟩:=I.rG hH;refine WC F.slot_list_append ⟨_,e,rfl⟩ F.entry_list_append (F.args_list_append_2 _ _) (Zh l its.toArray n u (by rw[U1];omega)) ⟨e,?_⟩
 refine⟨.aJ,_,I.GI (its':=its++[u]) hH e (by simp) (r.append (.cons ru .nil)) ?_,rfl,q⟩
 rw[UR,List.length_singleton];omega
def aoy:V->List V->Hp->VK->Prop:=λx vs H Q=>∃l b xs zs,x=.ref l/\vs=[.ref b]/\H l=O (.lst xs)/\H b=O (.lst zs)/\xs.length+zs.length<=Ω/\Q .aJ (upd H l (.lst (xs++zs)))
theorem acD:Ke X "list.extend" aoy:=by
 intro pins s J H x vs v us Q I rx rv h;obtain⟨l,b,xs,zs,rfl,rfl,hH,hB,hz,q⟩:=h;cases rx;obtain⟨u,rfl,ru⟩:=rv.one;cases ru;obtain⟨z,its,n,r,hl,e⟩:=I.rG hH;obtain⟨z2,its2,n2,r2,hl2,e2⟩:=I.rG hB;have hsz:its.toArray.size+its2.toArray.size<=Ω:=by rw[U1,U1];omega
 have G9:¬(!its.toArray.isEmpty&&Builtin.List.listTooLong (its.toArray.size+its2.toArray.size))=G:=by
  rw[O0 hsz,ZH];exact UC
 refine WC F.slot_list_extend ⟨_,e,rfl⟩ F.entry_list_extend (F.args_list_extend_2 _ _)
  (AutoSeq1.list_extend_list_list_0 l its.toArray n b its2.toArray n2 G9 (by rw[U1];omega) ∅) ⟨e,e2,?_⟩
 refine⟨.aJ,_,I.GI (its':=its++its2) hH e (by simp) (r.append r2) ?_,rfl,q⟩
 rw[UR];omega
def aoJ:V->List V->Hp->VK->Prop:=λx vs H Q=>∃l xs i k y,x=.ref l/\vs=[.int i]/\H l=O (.lst xs)/\-(2^63)<=i/\i<2^63/\seqIndex? i xs.length=O k/\xs[k]? = O y/\Q y (upd H l (.lst (xs.eraseIdx k)))
theorem acC:Ke X "list.pop" aoJ:=by
 intro pins s J H x vs v us Q I rx rv h;obtain⟨l,xs,i,k,y,rfl,rfl,hH,h1,h2,hk,hy,q⟩:=h;cases rx;obtain⟨u,rfl,ru⟩:=rv.one;obtain⟨t,rfl⟩:=ru;obtain⟨z,its,n,r,hl,e⟩:=I.rG hH;obtain⟨w,hw,rw'⟩:=r.get hy;refine WC F.slot_list_pop ⟨_,e,rfl⟩ F.entry_list_pop (F.args_list_pop_2 _ _)
  (MeetsSeq.list_pop_at l its.toArray n i t k w (fitsIndex_both h1 h2) (by rw[U1,<-hl];exact hk) (by rw[<-UQ];exact hw) (by rw[U1];omega)) ⟨e,?_⟩
 refine⟨y,_,I.GI (its':=its.eraseIdx k) hH e ?_ (r.eraseIdx k) ?_,rw',q⟩
 ·show its.toArray.eraseIdxIfInBounds k=(its.eraseIdx k).toArray;rw[List.eraseIdxIfInBounds_toArray]
 ·have:=PZ xs k;omega
def aou:R2:=λx y H Q=>∃l b xs zs,x=.ref l/\y=.ref b/\H l=O (.lst xs)/\H b=O (.lst zs)/\xs.length+zs.length<=Ω/\∀p,H p=Z->Q (.ref p) (upd H p (.lst (xs++zs)))
theorem aaM:bX X (binaryOp .Add) aou:=by
 intro pins s J H x y v u Q I rx ry h;obtain⟨l,b,xs,zs,rfl,rfl,hH,hB,hz,q⟩:=h;cases rx;cases ry;obtain⟨z,its,n,r,hl,e⟩:=I.rG hH;obtain⟨z2,its2,n2,r2,hl2,e2⟩:=I.rG hB;refine PySem.P.add_list e e2 ?_ (by rw[U1,U1];omega)
 have ea:its.toArray++its2.toArray=(its++its2).toArray:=by simp
 rw[ea];exact⟨.ref _,_,I.PV (t':=s.toks) (r.append r2) (by rw[UR];omega),rfl,q _ I.fresh⟩
def aoK:R2:=λx y H Q=>∃l k xs,x=.ref l/\y=.int k/\H l=O (.lst xs)/\-(2^63)<=k/\k<2^63/\xs.length*k.toNat<=Ω /\
 ∀p,H p=Z->Q (.ref p) (upd H p (.lst (ο k.toNat xs).flatten))
theorem len_rep{α:Type}(xs:List α)(k:Nat):(ο k xs).flatten.length=k*xs.length:=by
 induction k with
 |zero=>simp
 |succ k ih=>rw[Va,Vx,UR,ih,Uv,Wt]
theorem Og:bX X (binaryOp .Mult) aoK:=by
 intro pins s J H x y v u Q I rx ry h;obtain⟨l,k,xs,rfl,rfl,hH,h1,h2,hz,q⟩:=h;cases rx;obtain⟨t,rfl⟩:=ry;obtain⟨z,its,n,r,hl,e⟩:=I.rG hH;have hlen:its.toArray.size*k.toNat<=Ω:=by rw[U1,<-hl];exact hz
 have hcap:¬its.toArray.size*k.toNat>(2^63-1)/8:=by
  have:(Ω:Nat)<=(2^63-1)/8:=⋯
  omega
 have hfit:¬(!Builtin.List.listFitsIndex k)=G:=by
  rw[fitsIndex_both h1 h2];exact UC
 have G9:¬Builtin.List.listTooLong (its.toArray.size*k.toNat)=G:=by
  rw[O0 hlen];exact UC
 have hnew:List.foldl (λx1 x2=>x1++x2) #[] (ο (if its.toArray.isEmpty=G then 0 else k.toNat) its.toArray)=(ο k.toNat its).flatten.toArray:=by
  have f0:∀m:Nat,List.foldl (λx1 x2=>x1++x2) #[] (ο m its.toArray)=(ο m its).flatten.toArray:=λm=>by
   have:=foldl_rep its m [];rw[UG]at this;exact this
  rw[f0];cases its with
  |nil=>simp
  |cons a r'=>rw[if_neg (by simp)]
 refine wpAny_binaryOp_repeat_ref (T:="list") (U:="int") ⋯ ⟨_,e,rfl⟩ (λs'=>typeIs_int s' k t) noFill_list_mul F.fills_int_mul F.slot_int_rmul repeat_list F.slot_int_index.lookup
  (WC F.slot_int_rmul (typeIs_int s k t) F.entry_int_rmul (F.args_int_rmul_2 _ _) (int___rmul___int_list k t l its.toArray n)
   ⟨e,rfl,⟨_,e,rfl⟩,WC F.slot_list_mul ⟨_,e,rfl⟩ F.entry_list_mul (F.args_list_mul_2 _ _) (AutoListH.list___mul___list_int_3 l its.toArray n k t hfit hcap G9) ⟨e,?_⟩⟩)
 rw[hnew];exact⟨.ref _,_,I.PV (t':=s.toks) (r.rep k.toNat) (by rw[len_rep,Ws];exact hz),rfl,q _ I.fresh⟩
end
section
variable {prog:π}{w:υ}{A:ω}{E:Δ->Ψ->Prop}{s:Ψ}
set_option maxRecDepth 100000 in
end
end L2
namespace TX
open PySem PySem.W PySem.Calls PyProof.Rows
theorem adN{P:Params}:∀(ns:List Int) (vs:List Δ),WellAll P h vs (ns.map WData.int)->Uz vs ns:=by
 intro ns
 induction ns with
 |nil =>
  intro vs w;rw[List.map_nil]at w;cases w;exact .nil
 |cons n ns ih =>
  intro vs w;rw[T8]at w;cases w with
  |cons a b =>
   cases a;exact .cons _ _ (ih _ b)
theorem anH{l:OpenLaw}(hn:l.most=O n){P:Params}{args:List WData}{vals:List Δ}(hpre:l.row.toRowW.claim.pre args=G)(hwl:WellAll P h vals args):
  ∃a vs ns,vals=[Value.ref a]/\args=[WData.list (ns.map WData.int)]/\h.get? a=O {cls:=.type "list",data:=.seq vs.toArray}/\Uz vs ns/\ns.length<=n:=by
 have hsh:WShape.hasAll [] args [.list .int]=G:=(pre_splitW hpre).1;have hc:l.pre.holds [] {args:=args}=G:=(pre_splitW hpre).2;obtain⟨d,r,rfl,h1,h2⟩:=hasAllW_cons hsh;obtain rfl:=hasAllW_nil h2;obtain⟨xs,rfl,h3⟩:=hasW_list h1;obtain⟨ns,rfl⟩:=items_int h3;have hlen:ns.length<=n:=by
  unfold OpenLaw.pre at hc;have h4:(WTm.not (.lt (.lit (.int (n:Int))) (.len (.arg 0)))).holds [] {args:=[.list (ns.map .int)]}=G:=by
   have h4:=(holds_andW hc).1;rw[hn]at h4;exact h4
  have h5:=condW_of h4 (w_not (w_lt w_lit (w_len_list (w_arg rfl))));rw[T6]at h5;refine Zg λq=>?_
  have q':(n:Int)<((ns.length:Nat):Int):=∅
  first
   |(rw[decide_eq_true q']at h5;exact absurd h5 ⋯)
   |(simp at h5;omega)
 cases hwl with
 |cons w1 w2 =>
  cases w2;cases w1 with
  |list ho hall=>exact⟨_,_,ns,rfl,rfl,ho,adN ns _ hall,hlen⟩
theorem apY(l:OpenLaw)(args:List WData):l.row.toRowW.claim.post args (.bool G) args=G :=
 postW_of (r:=l.row.toRowW) (X:=(G==G))
  (show WShape.has [] (.bool G) .bool=G by first|rfl|decide|simp[WShape.has,WShape.arms,WShape.armsAll])
  (show(WTm.eq .res (.lit (.bool G))).value [] {args:=args,res:=O (.bool G),after:=args}=O (.bool (G==G))from w_eq_bool (w_res rfl) w_lit) rfl
theorem ahF{l:OpenLaw}{loose:List Str}{XP:(Str->Option Δ)->τ->Prop}{YP:υ->τ->Prop}{d:DefRec}(hn:l.most=O n)(hdf:d.params.defaults=[])(call:∀(w:υ) (s₀ s₁:Ψ) (mg mb:Str->Option Δ) (fa:Ξ) (o:Obj) (pm cd doc:Δ) (a:Ξ) (vs:List Δ) (ns:List Int),
   Ground q loose [] XP w s₀ mg mb s₁.heap->YP w s₁.heap ->
   s₁.heap.get? fa=O o->o.data=.func (docDef d.name d.params d.body d.scope pm cd doc)->s₁.heap.CodeRec cd d.name->mg d.name=O (.ref fa) ->
   s₁.heap.get? a=O {cls:=.type "list",data:=.seq vs.toArray}->Uz vs ns->ns.length<=n->s₁.gens=#[] ->
   codeAny (model l.prog w) callerA (.call (.ref fa) ⟨[.ref a],[]⟩) (λr s'=>r=.ok (.ret (.bool G))/\OldK s₁.heap s'.heap/\s'.os=s₁.os/\VZ s'.gens) s₁):
  WalkO q loose XP YP l.row.toRowW d [] (λf vs=>PySem.call f vs):=by
 intro w s₀ s₁ mg mb Θ Y fa o pm cd doc dV kV ho hd hcd hD hmg hg args vals as hpre hlay hrd hwl hlo;obtain rfl:dV=.none:=Dflts.none hD hdf;obtain rfl:kV=.none:=Dflts.noKw hD;obtain⟨a,vs,ns,rfl,rfl,hobj,hints,hlen⟩:=anH hn hpre hwl;refine enter_call (V5 (call w s₀ s₁ mg mb fa o pm cd doc a vs ns Θ Y ho (fd_plain hd) hcd hmg hobj hints hlen hg) λr s' hq=>?_)
 obtain⟨rfl,h2,h3,h4⟩:=hq;exact⟨.inl ⟨.bool G,.bool G,[],rfl,λ_=>rfl,.bool G,apY l _,λ_=>⟨List.Pairwise.nil,λ_ hm=>(nomatch hm)⟩⟩,h2,h3,h4⟩
end TX
namespace L2
open PySem PySem.Spec PyProof.Rows
theorem K1:∀{vs:List Δ}{ns:List Int},Uz vs ns->Vals (ns.map V.int) vs
 |_,_,.nil=>.nil
 |_,_,.cons n t h=>.cons ⟨t,rfl⟩ (K1 h)
def qb(s:χ):W7:=match s with
 |.FunctionDef _ a _ _ _ _ _ _ _ _=>a
 |_=>{posonlyargs:=[],args:=[],vararg:=Z,kwonlyargs:=[],kw_defaults:=[],kwarg:=Z,defaults:=[]}
def i7(s:χ):List χ:=match s with
 |.FunctionDef _ _ b _ _ _ _ _ _ _=>b
 |_=>[]
def eK(s:χ):UA:=match s with
 |.FunctionDef _ _ _ _ _ _ sc _ _ _=>sc
 |_=>{kind:=.function,names:=[],isGenerator:=ξ,isCoroutine:=ξ}
abbrev e9:qv:=λ_ _ _ _ _ _=>False
abbrev E0:XK:=λ_ _ _=>False
theorem N4:Passes e9 X E0:=λ_ _ _ _ _ _ _ h=>h.elim
structure mS (K:Γ) (x qual:Str) (st:χ) (f:Ξ) (fd:UH):Prop where
 ex:∃(oc:Δ) (od:Option Ξ) (kV doc pm:Δ) (an:Option Ξ) (cdv ct:Δ) (osl:Array (Option Δ)),
  fd=PySem.W.fnOf x qual (qb st) (i7 st) (eK st) .none kV doc pm an cdv ct/\K.lookup f=O ⟨oc,od,.func fd,osl⟩/\PySem.W.codeIn K cdv qual=G
 kp:PySem.W.keepIn K (.ref f)=G
section
variable {P:π}{w:υ}{K:Γ}{mg:Str->Option Δ}{base:τ}
theorem mS.ok{qual:Str}{st:χ}(F:mS K x qual st f fd)(S:jH N ps (eK st))(len:∀vs H Q E,sp vs H Q E->vs.length=ps.length)(hbody:∀(cdv:Δ) (A:ω) (outer:List Env) (s:Ψ) (H:Hp) (vs:List V) (Q:VK) (E:XK),c8 k (A.deeper (envOfC qual (eK st) s.heap.objs.size f cdv))->sp vs H Q E ->
   ∃t,gX (lz e9 P w K mg base N qual (eK st) f cdv A outer s H E).lY (i7 st) t/\t {nx:=λ_ H'=>Q .aJ H',rt:=Q} (start N vs) H):fS P w K mg base e9 (k+1) f fd ps sp:=by
 obtain⟨oc,od,kV,doc,pm,an,cdv,ct,osl,rfl,lk,hcd⟩:=F.ex;refine RQ lk hcd S len λA outer s H vs Q E hr mq=>?_
 obtain⟨t,h,q⟩:=hbody cdv A outer s H vs Q E hr mq;exact⟨t,h.lY,q⟩
theorem mS.binds{qual:Str}{st:χ}{ps:List Str}(F:mS K x qual st f fd)(h:∀(kV doc pm:Δ) (an:Option Ξ) (cdv ct:Δ) (us:List Δ),us.length=ps.length->bindArgs (PySem.W.fnOf x qual (qb st) (i7 st) (eK st) .none kV doc pm an cdv ct) ⟨us,[]⟩=pure (ps.zip us)):Binds K fd ps []:=by
 obtain⟨oc,od,kV,doc,pm,an,cdv,ct,osl,rfl,lk,hcd⟩:=F.ex;exact .all (h kV doc pm an cdv ct)
theorem afq{qual:Str}{st:χ}{kV doc:Δ}(l:K.lookup f=O ⟨oc,od,.func (PySem.W.fnOf x qual (qb st) (i7 st) (eK st) .none kV doc pm an cdv ct),osl⟩)(c:PySem.W.codeIn K cdv qual=G)(k:PySem.W.keepIn K (.ref f)=G):mS K x qual st f (PySem.W.fnOf x qual (qb st) (i7 st) (eK st) .none kV doc pm an cdv ct):=⟨⟨oc,od,kV,doc,pm,an,cdv,ct,osl,rfl,l,c⟩,k⟩
end
theorem ad8{A:ω}(hr:c8 k A):A.units+1<Uj:=VH (Nat.add_le_add_left (by decide:1<=64) _) hr.units
theorem nH{A B:Prop}(h:B):if ξ=G then A else B:=by
 rw[if_neg UC];exact h
theorem nG{A B:Prop}(h:A):if G=G then A else B:=by
 rw[if_pos rfl];exact h
def fX(X:Cx)(N':List Str)(scope:UA)(cl:List (Str×Ξ))(C:Ξ)(s₀:Ψ)(H₀:Hp)(ex:List Ξ)(pn:List (Ξ×Obj)):Cx where
 prog:=X.prog
 w:=X.w
 K:=X.K
 mg:=X.mg
 base:=X.base
 A:=X.A
 N:=N'
 s₀:=s₀
 H₀:=H₀
 env:=compEnvC scope cl C X.env
 outer:=X.stack
 stack:=X.stack
 ex:=ex
 fn:=λx=>scope.names.lookup x==O NameKind.cell
 calm:=X.calm
 pn:=pn
 xe:=λ_ _=>False
structure gn (X:Cx) (N':List Str) (pick:List (Option Nat)) (scope:UA):Prop where
 kind:scope.kind=.function
 nd:N'.Nodup
 names:∀x∈scope.names,x.2=.local->scope.names.lookup x.1=O .local
 uniq:(scope.names.map (·.1)).Nodup
 len:pick.length=N'.length
 got:∀(i j:Nat) (x:Str),pick[i]? = O (O j)->N'[i]? = O x->scope.names.lookup x=O .free/\X.N[j]? = O x
 free:∀x∈scope.names,x.2=.free->X.env.kindOf x.1=O .cell\/X.env.kindOf x.1=O .free
def mX(pick:List (Option Nat))(J:St):St:=pick.map λo=>o.bind λj=>(J[j]?).bind id
def sJ(X:Cx)(ifs:List ν)(t:TT):Prop :=
 ∀(pins:List (Ξ×Obj)) (s:Ψ) (J:St) (H:Hp) (Q:Bool->Hp->Prop),Inv X pins J H s->t J H Q ->
  wpAny (model X.prog X.w) X.A (forIn ifs G λc r=>if r=G then do let ok <-isTrue c X.env (eval c X.env);pure (ForInStep.yield ok)else pure (ForInStep.yield r)) (TP X pins J Q) X.xe s
def alI:TT:=λ_ H Q=>Q G H
theorem apR:sJ X [] alI:=λpins s J H Q I h=>wpAny_tests_nil ⟨H,I,h⟩
theorem apS(h:PT X c t):sJ X [c] t:=λpins s J H Q I q=>wpAny_tests_one (h pins s J H Q I q)
def TU(σ:It)(g:TG)(tt:TT)(te:TE)(Q:VK)(J:St)(H:Hp):Prop:=∃W:Nat->Nat->St->List V->Hp->Prop,(∃m,W 0 m J [] H) /\
  ∀i m σ' ys H,W i m σ' ys H->ys.length<Ω /\
    ((σ.stop i H/\∀p,H p=Z->Q (.ref p) (upd H p (.lst ys))) \/
     (σ.go i H/\∃N:St->List V->Hp->Prop,(∀σ2 zs H2,N σ2 zs H2->∃m',m'<m/\W (i+1) m' σ2 zs H2)/\∀x H',σ.vD i H x H'->g x σ' H' λσ2 H2=>tt σ2 H2 λb H3 =>
        if b=G then te σ2 H3 λy H4=>N σ2 (ys++[y]) H4 else N σ2 ys H3))
def EZ(wi:TI)(pick:List (Option Nat))(g:TG)(tt:TT)(te:TE):TE:=λJ H Q=>wi J H λσ H1=>TU σ g tt te Q (mX pick J) H1
def gW(env:Env):List (Str×UI)->List (Str×Ξ)->List (Str×Ξ)
 |[],acc=>acc
 |(n,k)::r,acc=>gW env r (if(k==NameKind.free)=G then(n,(env.cells.lookup n).getD 0)::acc else acc)
theorem DR{env:Env}:∀(names:List (Str×UI)) (acc:List (Str×Ξ)),(∀x∈names,x.2=.free->∃c,env.cells.lookup x.1=O c) ->
  (forIn names acc fun(x:Str×UI) cs=>(if(x.2==NameKind.free)=G then do let a <-cellOf env x.1;pure (ForInStep.yield ((x.1,a)::cs))else pure (ForInStep.yield cs):Sem (ForInStep (List (Str×Ξ)))))=pure (gW env names acc)
 |[],acc,_=>rfl
 |(n,k)::r,acc,h=>by
  rw[Wr]
  by_cases hk:(k==NameKind.free)=G
  ·obtain⟨c,hc⟩:=h (n,k) Ub (by simpa using hk)
   have e1:cellOf env n=pure c:=by unfold cellOf;rw[show env.cells.lookup n=O c from hc]
   simp only[hk,if_true,e1,pure_bind];rw[DR r _ λx hx=>h x (UP _ hx)]
   show _=pure (gW env r _);rw[if_pos hk,show env.cells.lookup n=O c from hc]
   rfl
  ·simp only[hk,Ug,if_false,pure_bind];rw[DR r _ λx hx=>h x (UP _ hx)]
   show _=pure (gW env r _);rw[if_neg hk]
theorem IF{env:Env}:∀(names:List (Str×UI)) (acc:List (Str×Ξ)),(gW env names acc).lookup x=O c ->
  ((x,NameKind.free)∈names/\c=(env.cells.lookup x).getD 0)\/acc.lookup x=O c
 |[],acc,h=>.inr h
 |(n,k)::r,acc,h=>by
  rcases IF r _ h with⟨a,b⟩|q
  ·exact .inl ⟨UP _ a,b⟩
  ·by_cases hk:(k==NameKind.free)=G
   ·rw[if_pos hk,UU]at q;cases hx:x==n with
    |true =>
     rw[hx]at q;have e1:x=n:=by simpa using hx
     have e2:k=.free:=by simpa using hk
     subst e1;subst e2;exact .inl ⟨Ub,(U9 q).symm⟩
    |false=>rw[hx]at q;exact .inr q
   ·rw[if_neg hk]at q;exact .inr q
theorem IG{env:Env}:∀(names:List (Str×UI)) (acc:List (Str×Ξ)),(acc.lookup x).isSome=G\/(x,NameKind.free)∈names->((gW env names acc).lookup x).isSome=G
 |[],acc,h=>h.elim id λz=>by cases z
 |(n,k)::r,acc,h=>by
  refine IG r _ ?_
  by_cases hk:(k==NameKind.free)=G
  ·rw[if_pos hk,UU];cases hx:x==n with
   |true=>exact .inl rfl
   |false =>
    refine h.imp id λz=>?_
    rcases AP.mp z with e|z
    ·exact absurd (show(x==n)=G by cases e;simp) (by rw[hx];simp)
    ·exact z
  ·rw[if_neg hk];refine h.imp id λz=>?_
   rcases AP.mp z with e|z
   ·exact absurd (show _=G by cases e;rfl) hk
   ·exact z
theorem Ic:∀(names:List (Str×UI)) (n:Nat) (acc:List (Str×Ξ)),(cellsFrom n names acc).lookup x=O c->(n<=c/\(x,NameKind.cell)∈names)\/acc.lookup x=O c
 |[],_,_,h=>.inr h
 |(y,k)::r,n,acc,h=>by
  unfold cellsFrom at h
  by_cases hk:(k==NameKind.cell)=G
  ·rw[if_pos hk]at h
   rcases Ic r _ _ h with⟨a,b⟩|q
   ·exact .inl ⟨UK (WD _) a,UP _ b⟩
   ·rw[UU]at q;cases hx:x==y with
    |true =>
     rw[hx]at q;have e1:x=y:=by simpa using hx
     have e2:k=.cell:=by simpa using hk
     subst e1;subst e2;exact .inl ⟨VU (U9 q),Ub⟩
    |false=>rw[hx]at q;exact .inr q
  ·rw[if_neg hk]at h
   rcases Ic r _ _ h with⟨a,b⟩|q
   ·exact .inl ⟨a,UP _ b⟩
   ·exact .inr q
theorem Ib:∀(names:List (Str×UI)) (n:Nat) (acc:List (Str×Ξ)),(∀x y c,acc.lookup x=O c->acc.lookup y=O c->x=y)->(∀x c,acc.lookup x=O c->c<n) ->
  ∀x y c,(cellsFrom n names acc).lookup x=O c->(cellsFrom n names acc).lookup y=O c->x=y
 |[],_,_,hi,_,x,y,c,h1,h2=>hi x y c h1 h2
 |(z,k)::r,n,acc,hi,hl,x,y,c,h1,h2=>by
  unfold cellsFrom at h1 h2
  by_cases hk:(k==NameKind.cell)=G
  ·rw[if_pos hk]at h1 h2;refine Ib r (n+1) ((z,n)::acc) (λx y c e1 e2=>?_) (λx c e=>?_) x y c h1 h2
   ·rw[UU]at e1 e2;cases hx:x==z with
    |true =>
     rw[hx]at e1;cases hy:y==z with
     |true=>exact(by simpa using hx:x=z).trans (by simpa using hy:y=z).symm
     |false =>
      rw[hy]at e2;have e3:n=c:=U9 e1;exact absurd (e3▸hl y c e2) (Ui _)
    |false =>
     rw[hx]at e1;cases hy:y==z with
     |true =>
      rw[hy]at e2;have e3:n=c:=U9 e2;exact absurd (e3▸hl x c e1) (Ui _)
     |false=>rw[hy]at e2;exact hi x y c e1 e2
   ·rw[UU]at e;cases hx:x==z with
    |true=>rw[hx]at e;have e3:n=c:=U9 e;exact e3▸Uu n
    |false=>rw[hx]at e;exact VG (hl x c e)
  ·rw[if_neg hk]at h1 h2;exact Ib r n acc hi hl x y c h1 h2
theorem Ie:∀(names:List (Str×UI)) (h:τ) (acc:List (Str×Ξ)),(cellsFrom h.objs.size names acc).lookup x=O c->acc.lookup x=O c\/(h.objs.size<=c/\(pushCells h names).IsCell c Z)
 |[],_,_,e=>.inl e
 |(y,k)::r,h,acc,e=>by
  unfold cellsFrom at e;unfold pushCells
  by_cases hk:(k==NameKind.cell)=G
  ·rw[if_pos hk]at e ⊢;have e':=e;rw[show h.objs.size+1=(h.push {cls:=.type "cell",data:=.cell Z}).objs.size from(UJ ..).symm]at e'
   rcases Ie r _ _ e' with q|⟨a,q⟩
   ·rw[UU]at q;cases hx:x==y with
    |true =>
     rw[hx]at q;have e3:h.objs.size=c:=U9 q;subst e3;exact .inr ⟨dD _,_,ZG _ _ _ _ (T9 _ rfl),rfl⟩
    |false=>rw[hx]at q;exact .inl q
   ·refine .inr ⟨?_,q⟩;rw[UJ]at a;omega
  ·rw[if_neg hk]at e ⊢;exact Ie r h acc e
theorem akU{M:Model}{A:ω}{E:Δ->Ψ->Prop}{s:Ψ}{scope:UA}{cl:List (Str×Ξ)}{qual:Str}{env:Env}{Q:Env->Ψ->Prop}(hQ:∀h',(∀b o,s.heap.get? b=O o->h'.get? b=O o)->h'.Ns s.heap.objs.size (λ_=>Z) ->
   (∀x c,(cellsFrom (s.heap.objs.size+1) scope.names cl).lookup x=O c->cl.lookup x=O c\/(s.heap.objs.size<c/\h'.IsCell c Z)) ->
   Q {scope,locals:=s.heap.objs.size,globals,cells:=cellsFrom (s.heap.objs.size+1) scope.names cl,qual,func:=Z,code:=env.code,frame:=env.frame,builtins:=env.builtins} {s with heap:=h'}):
  wpAny M A (newFunctionEnv scope globals cl [] qual Z .none (O env)) Q E s:=by
 simp only[newFunctionEnv,Option.isSome_some,if_true];refine bf (wpAny_alloc ?_);refine bf (wpAny_layCells _ (λname kind cells=>by cases hkc:kind==NameKind.cell<;>simp[hkc]) _ _ _ _ ?_)
 rw[show({s with heap:=s.heap.push {cls:=.type "dict",data:=.dict #[]} }:Ψ).heap.objs.size=s.heap.objs.size+1 from UJ ..]
 refine bf (bg (bg ?_));refine hQ _ (λb o e=>ZG _ _ b o (jn _ e)) ((Heap.Ns.new s.heap (.type "dict")).keeps (ZG _ _)) λx c e=>?_
 have e':=e;rw[show s.heap.objs.size+1=(s.heap.push {cls:=.type "dict",data:=.dict #[]}).objs.size from(UJ ..).symm]at e'
 rcases Ie scope.names (s.heap.push {cls:=.type "dict",data:=.dict #[]}) cl e' with q|⟨a,q⟩
 ·exact .inl q
 ·refine .inr ⟨?_,q⟩;rw[UJ]at a;omega
theorem zY{env:Env}:∀{names:List (Str×UI)},(names.map fun(n,k)=>if(k==NameKind.free&&env.scope.kind == .function&&env.kindOf n==O .cell)then(n,NameKind.cell)else(n,k)).lookup x=O k' ->
  ∃k,names.lookup x=O k/\(k'=k\/(k=.free/\k'=.cell))
 |[],h=>by cases h
 |(n,k)::r,h=>by
  rw[T8]at h
  by_cases hc:(k==NameKind.free&&env.scope.kind == .function&&env.kindOf n==O .cell)=G
  ·have e:(match((n,k))with|(n,k)=>if(k==NameKind.free&&env.scope.kind == .function&&env.kindOf n==O .cell)then _ else(n,k))=(n,NameKind.cell):=if_pos hc
   rw[e,UU]at h;rw[UU];cases hx:x==n with
   |true =>
    rw[hx]at h;have hk:k=.free:=by
     simp at hc
     simpa using hc.1.1
    exact⟨k,rfl,.inr ⟨hk,(U9 h).symm⟩⟩
   |false=>rw[hx]at h;exact zY h
  ·have e:(match((n,k))with|(n,k)=>if(k==NameKind.free&&env.scope.kind == .function&&env.kindOf n==O .cell)then(n,NameKind.cell)else _)=(n,k):=if_neg hc
   rw[e,UU]at h;rw[UU];cases hx:x==n with
   |true=>rw[hx]at h;exact⟨k,rfl,.inl (U9 h).symm⟩
   |false=>rw[hx]at h;exact zY h
theorem FE{env:Env}:∀{names:List (Str×UI)},names.lookup x=O k ->
  ∃k',(names.map fun(n,k)=>if(k==NameKind.free&&env.scope.kind == .function&&env.kindOf n==O .cell)then(n,NameKind.cell)else(n,k)).lookup x=O k'/\(k'=k\/(k=.free/\k'=.cell))
 |[],h=>by cases h
 |(n,j)::r,h=>by
  rw[T8];rw[UU]at h
  by_cases hc:(j==NameKind.free&&env.scope.kind == .function&&env.kindOf n==O .cell)=G
  ·have e:(match((n,j))with|(n,k)=>if(k==NameKind.free&&env.scope.kind == .function&&env.kindOf n==O .cell)then _ else(n,k))=(n,NameKind.cell):=if_pos hc
   rw[e,UU];cases hx:x==n with
   |true =>
    rw[hx]at h;have hk:j=.free:=by
     simp at hc
     simpa using hc.1.1
    exact⟨.cell,rfl,.inr ⟨(U9 h).symm.trans hk,rfl⟩⟩
   |false=>rw[hx]at h;exact FE h
  ·have e:(match((n,j))with|(n,k)=>if(k==NameKind.free&&env.scope.kind == .function&&env.kindOf n==O .cell)then(n,NameKind.cell)else _)=(n,j):=if_neg hc
   rw[e,UU];cases hx:x==n with
   |true=>rw[hx]at h;exact⟨j,rfl,.inl (U9 h)⟩
   |false=>rw[hx]at h;exact FE h
theorem GJ:∀{names:List (Str×UI)},(names.map (·.1)).Nodup->(x,k)∈names->names.lookup x=O k
 |[],_,h=>by cases h
 |(n,j)::r,nd,h=>by
  obtain⟨n1,n2⟩:=VB.mp nd;rw[UU]
  rcases AP.mp h with e|h2
  ·cases e;simp
  ·have hx:(x==n)=ξ:=by
    have:x≠n:=by
     intro e;exact n1 (H8.mpr ⟨_,h2,e⟩)
    simpa using this
   rw[hx];exact GJ n2 h2
theorem agR{prog:π}{A:ω}{R:Result->Ψ->Prop}{elt target iter:ν}{ifs:List ν}{scope:UA}{pos:Pos}{env:Env}(I:Nat->Ψ->Prop)(turn:∀n s,I n s->wpAny (model prog w) A (pyNext it) (λr s₁=>match r with
   |none=>R (.ok .next) s₁
   |some v=>wpAny (model prog w) A (letOwnedTupleGo target it v) (λ_ s₁'=>wpAny (model prog w) A (assign target env v) (λ_ s₂ =>
     wpAny (model prog w) A (forIn ifs G λc r=>if r=G then do let ok <-isTrue c env (eval c env);pure (ForInStep.yield ok)else pure (ForInStep.yield r)) (λok s₃ =>
      if ok=G then wpAny (model prog w) A (eval elt env) (λx s₄ =>
       wpAny (model prog w) A (call (.builtin "list.append") [acc,x]) (λ_ s₅=>∃m,m<n/\I m s₅) (λ_ _=>False) s₄) (λ_ _=>False) s₃
      else ∃m,m<n/\I m s₃) (λ_ _=>False) s₂) (λ_ _=>False) s₁') (λ_ _=>False) s₁) (λ_ _=>False) s)(n:Nat)(h:I n s):
  codeAny (model prog w) A (.compLoop (.ListComp elt [⟨target,iter,ifs,0⟩] scope pos) 0 it acc env) R s:=by
 refine codeAny_loop rfl I (λn s hI=>?_) n h
 refine wpAny_noted ?_;rw[compTurn_list];refine bf (Z9 (bf (UW (turn n s hI) (λr s₁ h₁=>?_) λ_ _ h'=>h'.elim)))
 cases r with
 |none=>exact bg h₁
 |some v =>
  refine bf (UW h₁ (λ_ s₁' h₁'=>?_) λ_ _ h'=>h'.elim)
  refine bf (UW h₁' (λ_ s₂ h₂=>bf (UW h₂ (λok s₃ h₃=>?_) λ_ _ h'=>h'.elim)) λ_ _ h'=>h'.elim)
  cases ok with
  |false=>exact bg ⟨rfl,h₃⟩
  |true =>
   exact bf (bf (UW h₃ (λx s₄ h₄=>bf (UW h₄ (λ_ s₅ h₅=>bg (bg ⟨rfl,h₅⟩)) λ_ _ h'=>h'.elim)) λ_ _ h'=>h'.elim))
section
variable {X:Cx}{N':List Str}{pick:List (Option Nat)}{scope:UA}{pins:List (Ξ×Obj)}{J:St}{H₂:Hp}{s₂:Ψ}{tg:ν}{σ:It}{fp:List Ξ}{it:Ξ}{tn:Nat->τ->Prop}
theorem SN(S:gn X N' pick scope)(I:Inv X pins J H₂ s₂):closureFor scope X.env=pure (gW X.env scope.names []):=by
 have e:=DR (env:=X.env) scope.names [] λx hx hk=>I.ok.has x.1 (S.free x hx hk)
 show((forIn scope.names ([]:List (Str×Ξ)) fun(x:Str×UI) cs=>(if(x.2==NameKind.free)=G then do let a <-cellOf X.env x.1;pure (ForInStep.yield ((x.1,a)::cs))else pure (ForInStep.yield cs):Sem (ForInStep (List (Str×Ξ))))) >>= λcs=>pure cs)=_
 rw[e,pure_bind]
theorem yy(S:gn X N' pick scope)(I:Inv X pins J H₂ s₂)(h:(gW X.env scope.names []).lookup x=O c):(x,NameKind.free)∈scope.names/\X.env.cells.lookup x=O c:=by
 rcases IF _ _ h with⟨a,b⟩|q
 ·refine⟨a,?_⟩;obtain⟨c',hc⟩:=I.ok.has x (S.free _ a rfl);rw[hc]at b ⊢;rw[b];rfl
 ·cases q
theorem yv(S:gn X N' pick scope)(I:Inv X pins J H₂ s₂)(h:(cellsFrom n scope.names (gW X.env scope.names [])).lookup x=O c):
  (n<=c/\scope.names.lookup x=O .cell)\/(scope.names.lookup x=O .free/\X.env.cells.lookup x=O c):=by
 rcases Ic _ _ _ h with⟨a,b⟩|q
 ·exact .inl ⟨a,GJ S.uniq b⟩
 ·obtain⟨a,b⟩:=yy S I q;exact .inr ⟨GJ S.uniq a,b⟩
theorem SS(S:gn X N' pick scope)(I:Inv X pins J H₂ s₂)(hx:scope.names.lookup x=O .free)(hc:X.env.cells.lookup x=O c):
  (cellsFrom n scope.names (gW X.env scope.names [])).lookup x=O c:=by
 have h1:((gW X.env scope.names []).lookup x).isSome=G:=IG _ _ (.inr (VA hx));obtain⟨c',h2⟩:=Vy.mp (Xb scope.names n _ (.inr h1))
 rcases yv S I h2 with⟨_,z⟩|⟨_,z⟩
 ·rw[hx]at z;cases z
 ·rw[hc]at z;cases z;exact h2
theorem afv(I:Inv X pins J H₂ s₂)(hb:b∈frs X.stack):b<s₂.heap.objs.size:=by
 rcases AP.mp (I.qH b hb)with e|hb
 ·rw[e];exact I.lt
 ·by_cases q:b<s₂.heap.objs.size
  ·exact q
  ·exact absurd hb (I.Gg (Nat.not_lt.mp q))
theorem agN(S:gn X N' pick scope)(I:Inv X pins J H₂ s₂)(hf:∀b∈fp,iz X pins H₂ b)(hfo:∀b∈fp,b<s₂.heap.objs.size){s₄:Ψ}(hn:s₂.heap.objs.size<=n)(hC:s₂.heap.objs.size<=C)(hCn:C<n)(hos:s₄.os=s₂.os)(hge:s₄.gens=s₂.gens)(kp:∀b o,s₂.heap.get? b=O o->s₄.heap.get? b=O o)(ns:s₄.heap.Ns C λ_=>Z)(ce:∀x c,(cellsFrom n scope.names (gW X.env scope.names [])).lookup x=O c->(gW X.env scope.names []).lookup x=O c\/(n<=c/\s₄.heap.IsCell c Z)):
  Inv (fX X N' scope (cellsFrom n scope.names (gW X.env scope.names [])) C s₂ H₂ fp (X.pn++pins)) [] (mX pick J) H₂ s₄:=by
 have fr:∀{a:Ξ},s₂.heap.objs.size<=a->H₂ a=Z:=λh=>I.hok.fresh h
 have old:∀{x:Str}{c:Ξ},X.env.cells.lookup x=O c->c<s₂.heap.objs.size:=fun{x c} e=>let⟨v,z⟩:=I.cell x c e;z.lt
 have apX:∀p∈X.pn++pins,p.1<s₂.heap.objs.size:=λp hp=>IT (I.pin p hp).1
 refine⟨⟨I.ok.mod,S.kind,I.ok.glob,I.ok.blt,hC,?inj,?has,?qh,I.ok.hd,I.ok.frames,.inl rfl,?yk,I.bs,UK I.ok.ji I.sz,?nt,?uV,I.stack,I.E2⟩,
  hos,by rw[hge];exact I.bare,Un.kept kp,⟨_,ns,?loc⟩,?cell,fr hC,?jD,?pin,I.hok.kept kp,?len⟩
 case inj =>
  refine Ib _ _ _ (λx y c h1 h2=>?_) λx c h=>?_
  ·exact I.ok.inj x y c (yy S I h1).2 (yy S I h2).2
  ·exact TY (old (yy S I h).2) hn
 case has =>
  intro x hx;have hx:(relabel scope X.env).names.lookup x=O .cell\/(relabel scope X.env).names.lookup x=O .free:=hx;have go:∀k,scope.names.lookup x=O k->k=.cell\/k=.free->∃c,(cellsFrom n scope.names (gW X.env scope.names [])).lookup x=O c:=λk hk hq=>by
   rcases hq with rfl|rfl
   ·exact Vy.mp (Xb _ _ _ (.inl hk))
   ·obtain⟨c,hc⟩:=I.ok.has x (S.free _ (VA hk) rfl);exact⟨c,SS S I hk hc⟩
  rcases hx with hx|hx
  ·obtain⟨k,hk,e|⟨e,_⟩⟩:=zY hx
   ·exact go k hk (.inl e.symm)
   ·exact go k hk (.inr e)
  ·obtain⟨k,hk,e|⟨_,e⟩⟩:=zY hx
   ·exact go k hk (.inr e.symm)
   ·cases e
 case qh =>
  intro x c hx hc;have hx:scope.names.lookup x=O .cell:=by simpa[fX]using hx
  rcases yv S I hc with⟨a,_⟩|⟨a,_⟩
  ·exact UK hn a
  ·rw[hx]at a;cases a
 case yk =>
  intro b hb;refine⟨T3 (TY (hfo b hb) hC),λx c hc=>?_⟩
  rcases yv S I hc with⟨a,_⟩|⟨_,a⟩
  ·exact Uh (TY (hfo b hb) (UK hn a))
  ·exact(hf b hb).2.2.2.2.1 x c a
 case nt =>
  intro b o e hb
  rcases(hf b hb).2.2.2.1 with z|z
  ·exact I.ok.nt b o e z
  ·exact absurd (TY (IT e) (UK I.ok.ji z)) (Ui _)
 case uV =>
  intro b hb hs
  rcases AP.mp (I.qH b hs)with e|e
  ·exact(hf b hb).2.1 e
  ·exact(hf b hb).2.2.1 e
 case loc =>
  intro i x v h1 h2 h3;have h1:N'[i]? = O x:=h1;have hp:∃j,pick[i]? = O (O j)/\J[j]? = O (O v):=by
   unfold mX at h2;rw[U7]at h2;cases e:pick[i]? with
   |none=>rw[e]at h2;cases h2
   |some o =>
    rw[e]at h2;cases o with
    |none=>cases h2
    |some j =>
     refine⟨j,rfl,?_⟩;have h2':(J[j]?).bind id=O v:=U9 h2;cases e2:J[j]? with
     |none=>rw[e2]at h2';cases h2'
     |some q=>rw[e2]at h2';exact congrArg O h2'
  obtain⟨j,hj,hv⟩:=hp;obtain⟨hfr,hN⟩:=S.got i j x hj h1;have hk:=S.free _ (VA hfr) rfl;obtain⟨m,hm,hl⟩:=I.loc;obtain⟨u,ru,lk⟩:=hl j x v hN hv (.inr hk);refine⟨u,ru,?_⟩
  rcases lk with⟨z,_⟩|⟨_,c,hc,hcell⟩
  ·rcases hk with q|q<;>(rw[show X.env.kindOf x=_ from z]at q;cases q)
  ·refine .inr ⟨?_,c,SS S I hfr hc,hcell.keeps kp⟩;show(relabel scope X.env).names.lookup x=O .cell\/(relabel scope X.env).names.lookup x=O .free;obtain⟨k',hk',e|⟨_,e⟩⟩:=FE hfr
   ·exact .inr (by rw[<-e];exact hk')
   ·exact .inl (by rw[<-e];exact hk')
 case cell =>
  intro x c hc
  rcases ce x c hc with z|⟨_,z⟩
  ·obtain⟨v,q⟩:=I.cell x c (yy S I z).2;exact⟨v,q.keeps kp⟩
  ·exact⟨Z,z⟩
 case jD =>
  intro x c hc
  rcases yv S I hc with⟨a,_⟩|⟨_,a⟩
  ·exact fr (UK hn a)
  ·exact I.jD x c a
 case pin =>
  intro p hp;have hp:p∈X.pn++pins:=by simpa[fX]using hp
  obtain⟨e,n0,ne,nf,d⟩:=I.pin p hp;refine⟨kp _ _ e,n0,T3 (TY (apX p hp) hC),λz=>?_,d⟩
  rcases AP.mp (I.qH _ z)with e|e
  ·exact ne e
  ·exact nf e
 case len =>
  unfold mX;rw[T6];exact S.len
end
section
variable {X:Cx}{N':List Str}{pick:List (Option Nat)}{scope:UA}{pins:List (Ξ×Obj)}{J:St}{H₂:Hp}{s₂:Ψ}{tg:ν}{σ:It}{fp:List Ξ}{it:Ξ}{tn:Nat->τ->Prop}
 {elt iter:ν}{ifs:List ν}{pos:Pos}{g:TG}{tt:TT}{te:TE}
theorem Sz{E:Δ->Ψ->Prop}{RR:Δ->Ξ->Result->Ψ->Prop}{Qv:V->Hp->Prop}(S:gn X N' pick scope)(hc:X.calm=G)(jG:Inv X pins J H₂ s₂)(T:Turn X.prog X.w X.K tg σ fp it tn)(st:tn 0 s₂.heap)(hf:∀b∈fp,iz X pins H₂ b)(hg:∀cl C s₀ H₀ ex pn,PG (fX X N' scope cl C s₀ H₀ ex pn) tg g)(hi:∀cl C s₀ H₀ ex pn,sJ (fX X N' scope cl C s₀ H₀ ex pn) ifs tt)(he:∀cl C s₀ H₀ ex pn,PE (fX X N' scope cl C s₀ H₀ ex pn) elt te){W:Nat->Nat->St->List V->Hp->Prop}(h0:W 0 m0 (mX pick J) [] H₂)(turn:∀i m σ' ys H,W i m σ' ys H->ys.length<Ω /\
      ((σ.stop i H/\∀p,H p=Z->Qv (.ref p) (upd H p (.lst ys))) \/
       (σ.go i H/\∃N:St->List V->Hp->Prop,(∀σ2 zs H2,N σ2 zs H2->∃m',m'<m/\W (i+1) m' σ2 zs H2)/\∀x H',σ.vD i H x H'->g x σ' H' λσ2 H2=>tt σ2 H2 λb H3 =>
          if b=G then te σ2 H3 λy H4=>N σ2 (ys++[y]) H4 else N σ2 ys H3)))(fin:∀(D C:Ξ) (H':Hp) (s':Ψ) (m:Str->Option Δ),Inv X pins J H' s'->iz X pins H' C->s'.heap.Ns C m->Qv (.ref D) H'->RR (.ref D) C (.ok .next) s'):
    wpAny (model X.prog X.w) X.A (newList []) (λacc s₃=>wpAny (model X.prog X.w) X.A (newFunctionEnv scope X.env.globals (gW X.env scope.names []) [] X.env.qual Z .none (O X.env)) (λcenv s₄ =>
      codeAny (model X.prog X.w) X.A (.compStart (.ListComp elt [⟨tg,iter,ifs,0⟩] scope pos) 0 (.ref it) acc {cenv with scope:=relabel scope X.env}) (RR acc cenv.locals) s₄) E s₃) E s₂:=by
  have hfo:∀b∈fp,b<s₂.heap.objs.size:=λb hb=>let⟨o,e,_⟩:=T.obj 0 _ st b hb;IT e
  refine XY (akU λh₄ kp ns ce=>?_)
  generalize Ht:s₂.heap.push {cls:=.type "list",dict:=Z,data:=.seq ([]:List Δ).toArray}=H3 at kp ns ce ⊢
  have hC:H3.objs.size=s₂.heap.objs.size+1:=by rw[<-Ht,UJ]
  have xQ:∀b o,s₂.heap.get? b=O o->h₄.get? b=O o:=λb o e=>kp b o (Ht▸jn _ e)
  have hD:h₄.get? s₂.heap.objs.size=O {cls:=.type "list",data:=.seq ([]:List Δ).toArray}:=kp _ _ (Ht▸T9 _ rfl);have pX:s₂.heap.objs.size<=H3.objs.size:=by rw[hC];exact WD _
  have hDC:s₂.heap.objs.size≠H3.objs.size:=by rw[hC];exact T3 (Uu _)
  generalize hcl:cellsFrom (H3.objs.size+1) scope.names (gW X.env scope.names [])=cl at ce
  have Kg:Inv (fX X N' scope cl H3.objs.size s₂ H₂ fp (X.pn++pins)) [] (mX pick J) H₂ {s₂ with heap:=h₄}:=by
    subst hcl;exact agN S jG hf hfo (n:=H3.objs.size+1) (UK pX (WD _)) pX (Uu _) rfl rfl xQ ns λx c e=>ce x c e
  have Hi:∀x c,cl.lookup x=O c->c≠s₂.heap.objs.size:=λx c e=>by
    subst hcl
    rcases yv S jG e with⟨a,_⟩|⟨_,a⟩
    · refine Uh (TY ?_ a)
      rw[hC];exact VG (Uu _)
    · obtain⟨v,z⟩:=jG.cell x c a
      exact T3 z.lt
  have aeS:∀x c,X.env.cells.lookup x=O c->c≠H3.objs.size:=λx c e=>by
    obtain⟨v,z⟩:=jG.cell x c e;exact T3 (TY z.lt pX)
  generalize iu:fX X N' scope cl H3.objs.size s₂ H₂ fp (X.pn++pins)=X' at Kg
  have zp:X'.prog=X.prog:=by subst iu;rfl
  have xw:X'.w=X.w:=by subst iu;rfl
  have xK:X'.K=X.K:=by subst iu;rfl
  have xA:X'.A=X.A:=by subst iu;rfl
  have KA:X'.calm=G:=by subst iu;exact hc
  have zq:X'.env.locals=H3.objs.size:=by subst iu;rfl
  have ale:X'.env.cells=cl:=by subst iu;rfl
  have alf:X'.env=compEnvC scope cl H3.objs.size X.env:=by subst iu;rfl
  have EG:X'.fs=frs X.stack:=by subst iu;rfl
  have EH:X'.ex=fp:=by subst iu;rfl
  have EF:X'.s₀=s₂:=by subst iu;rfl
  have Kz:X'.pn=X.pn++pins:=by subst iu;rfl
  have ak9:X'.xe=λ_ _=>False:=by subst iu;rfl
  have acf:X'.H₀=H₂:=by subst iu;rfl
  have hg':PG X' tg g:=by subst iu;exact hg _ _ _ _ _ _
  have hi':sJ X' ifs tt:=by subst iu;exact hi _ _ _ _ _ _
  have he':PE X' elt te:=by subst iu;exact he _ _ _ _ _ _
  have qI:∀{H':Hp}{pl:List (Ξ×Obj)},(∀b∈fp,H' b=Z)->(∀p∈pl,s₂.heap.objs.size<=p.1)->∀b∈fp,iz X' pl H' b:=fun{H' pl} hn hp b hb=>by
    have hlt:=hfo b hb;obtain⟨_,f1,f2,f3,f4,f5⟩:=hf b hb;refine⟨hn b hb,by rw[zq];exact T3 (TY hlt pX),?_,.inl (by rw[EH];exact hb),λx c e=>?_,λp dQ=>?_⟩
    · rw[EG]
      intro z
      rcases AP.mp (jG.qH b z)with e|e
      · exact f1 e
      · exact f2 e
    · have:=Kg.ok.yk b (by rw[EH];exact hb)
      exact this.2 x c e
    · rcases US.mp dQ with z|z
      · rw[Kz]at z;exact f5 p z
      · exact Uh (TY hlt (hp p z))
  have NR:∀{H':Hp}{s':Ψ}{σ':St}{o:Obj},Inv X' [] σ' H' s'->s'.heap.get? s₂.heap.objs.size=O o->H' s₂.heap.objs.size=Z->(∀v,o.data≠.cell v)->Inv X' [(s₂.heap.objs.size,o)] σ' H' s':=fun{H' s' σ' o} I e hn hnc =>
    I.Ab λp hp=>by
      obtain rfl:p=(s₂.heap.objs.size,o):=by simpa using hp
      refine⟨e,hn,by rw[zq];exact hDC,?_,hnc⟩
      rw[EG];intro z;exact absurd (afv jG z) (Ui _)
  have D9:H₂ s₂.heap.objs.size=Z:=jG.hok.fresh (dD _)
  let akC:Nat->Ψ->Prop:=λn s'=>∃(i:Nat) (σ':St) (ys:List V) (H':Hp) (its:List Δ) (k:Nat),Inv X' [(s₂.heap.objs.size,{cls:=.type "list",data:=.seq its.toArray k})] σ' H' s'/\Vals ys its/\tn i s'.heap/\(∀b∈fp,H' b=Z)/\W i n σ' ys H'
  have loop:codeAny (model X.prog X.w) X.A (.compLoop (.ListComp elt [⟨tg,iter,ifs,0⟩] scope pos) 0 (.ref it) (.ref s₂.heap.objs.size) X'.env) (RR (.ref s₂.heap.objs.size) H3.objs.size) {s₂ with heap:=h₄}:=by
    refine agR akC ?_ m0 ⟨0,_,[],H₂,[],_,NR Kg hD D9 (λv q=>nomatch q),.nil,T.keep _ _ _ st λb _ o e=>xQ b o e,λb hb=>(hf b hb).1,h0⟩
    rintro n s5 ⟨i,zg,ys,H5,its,k,I5,rv,qJ,Bw,w5⟩
    obtain⟨hlen,tr⟩:=turn i n zg ys H5 w5;have p5:∀{o:Obj},∀p∈[(s₂.heap.objs.size,o)],s₂.heap.objs.size<=p.1:=fun{o} p hp=>by
      obtain rfl:p=(s₂.heap.objs.size,o):=by simpa using hp
      exact dD _
    rw[<-xA]
    rcases tr with⟨stop,ao7⟩|⟨go,N,hN,step⟩
    · have dn:=T.done X' zp xw xK KA i _ s5 zg H5 (λ_ _=>False) I5 (qI Bw p5) qJ stop
      rw[xA]at dn ⊢;refine UW dn (λr s6 h6=>?_) λ_ _ z=>z
      obtain⟨rfl,I6⟩:=h6;show RR (.ref s₂.heap.objs.size) H3.objs.size (.ok .next) s6;obtain⟨eD,nD,_⟩:=I6.pin _ (Ud _ Ub);have qz:Un (frs X.stack) fp H₂ H5 s₂.heap s6.heap:=by
        have:=I6.base;rw[EG,EH,EF,acf]at this;exact this
      have lt:∀{b:Ξ}{o:Obj},s₂.heap.get? b=O o->b≠s₂.heap.objs.size:=λe=>T3 (IT e)
      have akN:Un (frs X.stack) fp H₂ (upd H5 s₂.heap.objs.size (.lst ys)) s₂.heap s6.heap :=
        ⟨qz.keep,qz.slot,λb o e n hx=>by rw[b8 (lt e)];exact qz.free b o e n hx,qz.there,λb xs e=>by rw[b8 (eH e D9)];exact qz.tups b xs e,
          λb o u e=>by rw[b8 (eH e D9)];exact qz.jC b o u e,λb ps e=>by rw[b8 (eH e D9)];exact qz.jO b ps e⟩
      have aep:eG X.prog X.w (upd H5 s₂.heap.objs.size (.lst ys)) s6.heap:=λb u e=>by
        by_cases hb:b=s₂.heap.objs.size
        · subst hb
          rw[fG]at e;cases e;exact⟨VX hlen,its,k,rv,eD⟩
        · rw[b8 hb]at e
          have:=I6.hok b u e;rw[zp,xw]at this;exact this.stay (λ_ _ _ q=>q) (λc q=>by rw[b8 (eH q nD)];exact q) λc xs q=>by rw[b8 (eH q nD)];exact q
      have I7:Inv X pins J (upd H5 s₂.heap.objs.size (.lst ys)) s6:=by
        refine jG.Ih (ch:=fp) ?_ akN aep I6.bare λb hb=>?_
        · have:=I6.os;rw[EF]at this;exact this
        · obtain⟨_,f1,f2,f3,f4,f5⟩:=hf b hb
          exact⟨f3,f1,f4,f5⟩
      obtain⟨apA,n6,_⟩:=I6.loc;rw[zq]at n6;have hC6:H5 H3.objs.size=Z:=by have:=I6.free;rw[zq]at this;exact this
      refine fin _ _ _ s6 apA I7 ⟨by rw[b8 (Uo hDC)];exact hC6,?_,?_,.inr (UK jG.sz pX),aeS,λp hp=>?_⟩ n6 (ao7 _ nD)
      · exact Uh (TY jG.lt pX)
      · intro z
        exact absurd z (jG.Gg pX)
      · exact T3 (TY (IT (jG.pin p hp).1) pX)
    · have itm:=T.item X' zp xw xK KA i _ s5 zg H5 (λ_ _=>False) I5 (qI Bw p5) qJ go
      refine UW itm (λr s6 h6=>?_) λ_ _ z=>z
      obtain⟨u,rfl,h6⟩:=h6;refine UW h6 (λ_ s7 h7=>?_) λ_ _ z=>z
      obtain⟨x,H7,I7,rx,y7,E4,fr7⟩:=h7;have I7':=I7.pinned (qI fr7 p5) (T.obj _ _ E4);have mp:∀{α:Type}{t:Sem α}{Q:α->Ψ->Prop}{s:Ψ},wpAny (model X'.prog X'.w) X'.A t Q X'.xe s->wpAny (model X.prog X.w) X'.A t Q (λ_ _=>False) s:=fun{α t Q s} h=>by
        rw[zp,xw,ak9]at h;exact h
      refine UW (mp (hg' _ s7 zg H7 x u _ I7' rx (step x H7 y7))) (λ_ ao4 h8=>?_) λ_ _ z=>z
      obtain⟨vC,akz,akA,q8⟩:=h8;refine UW (mp (hi' _ ao4 vC akz _ akA q8)) (λok ao3 h9=>?_) λ_ _ z=>z
      obtain⟨H9,I9,q9⟩:=h9;have Qh:∀{σ':St}{H':Hp}{s':Ψ},Inv X' ([(s₂.heap.objs.size,{cls:=.type "list",data:=.seq its.toArray k})]++wC fp s7.heap) σ' H' s'->tn (i+1) s'.heap/\∀b∈fp,H' b=Z:=fun{σ' H' s'} I=>by
        refine⟨T.keep _ _ _ E4 λb hb o e=>(I.pin (b,o) (Ud _ (Ud _ (AN hb e)))).1,λb hb=>?_⟩
        obtain⟨o,e,d⟩:=T.obj _ _ E4 b hb;exact(I.pin (b,o) (Ud _ (Ud _ (AN hb e)))).2.1
      cases ok with
      | false =>
        rw[if_neg UC]at q9 ⊢;obtain⟨m',hm,w9⟩:=hN _ _ _ q9;obtain⟨t9,apI⟩:=Qh I9;exact⟨m',hm,i+1,vC,ys,H9,its,k,I9.vG,rv,t9,apI,w9⟩
      | true =>
        rw[if_pos rfl]at q9 ⊢;refine UW (mp (he' _ ao3 vC H9 _ I9 q9)) (λv wk Rr=>?_) λ_ _ z=>z
        obtain⟨y,TQ,TN,ry,uc⟩:=Rr;obtain⟨m',hm,om⟩:=hN _ _ _ uc;obtain⟨amZ,f10⟩:=Qh TN;have TM:=TN.vG;obtain⟨eD,nD,cS,nfD,akv⟩:=TM.pin _ (Ud _ Ub);have hl:=rv.length;refine WC F.slot_list_append ⟨_,eD,rfl⟩ F.entry_list_append (F.args_list_append_2 _ _) (Zh s₂.heap.objs.size its.toArray k v (by rw[U1];omega)) ⟨eD,?_⟩
        have q:=Zi eD (·.push v);have I11:Inv X' [] vC TQ {wk with heap:=wk.heap.update s₂.heap.objs.size (Obj.mapSeq (·.push v))}:=by
          refine(TM.Ab (FQ:=[]) λp hp=>by cases hp).turned (t':=wk.toks) (it:=s₂.heap.objs.size) (λb o hb e=>(WE wk.heap (Obj.mapSeq (·.push v)) (Uo hb)).trans e) nD cS (.inr (by rw[EF];exact dD _)) (λx c hc=>Hi x c (by rw[<-ale];exact hc)) λp hp=>?_
          have hp:p∈X.pn++pins:=by rw[VI,Kz]at hp;exact hp
          exact T3 (IT (jG.pin p hp).1)
        rw[show its.toArray.push v=(its++[v]).toArray by simp]at q
        refine⟨m',hm,i+1,vC,ys++[y],TQ,its++[v],_,NR I11 q nD (λv q=>nomatch q),rv.append (.cons ry .nil),?_,f10,om⟩
        refine T.keep _ _ _ amZ λb hb o e=>(WE wk.heap (Obj.mapSeq (·.push v)) ?_).trans e
        exact Uh (hfo b hb)
  have e4:({scope:=relabel scope X.env,locals:=H3.objs.size,globals:=X.env.globals,cells:=cl,qual:=X.env.qual,func:=Z,code:=X.env.code,frame:=X.env.frame,builtins:=X.env.builtins}:Env)=X'.env:=by rw[alf];rfl
  have LN:tn 0 h₄:=T.keep _ _ _ st λb _ o e=>xQ b o e
  have goal:codeAny (model X.prog X.w) X.A (.compStart (.ListComp elt [⟨tg,iter,ifs,0⟩] scope pos) 0 (.ref it) (.ref s₂.heap.objs.size) X'.env) (RR (.ref s₂.heap.objs.size) H3.objs.size) {s₂ with heap:=h₄} :=
    codeAny_compStart_list loop (T.self _ 0 _ _ _ LN loop)
  rw[<-e4]at goal;exact goal
theorem Inv.gone(I:Inv X pins J H' s')(f:iz X pins H' C)(hs:Vl C s'.heap h'):Inv X pins J H' {s' with heap:=h'}:=by
 obtain⟨f0,f1,f2,f3,f4,f5⟩:=f;exact I.turned (λb o hb e=>(hs.2 b hb).trans e) f0 f1 f3 f4 f5
theorem aoC(S:gn X N' pick scope)(hc:X.calm=G)(hit:PI X tg iter wi)(hg:∀cl C s₀ H₀ ex pn,PG (fX X N' scope cl C s₀ H₀ ex pn) tg g)(hi:∀cl C s₀ H₀ ex pn,sJ (fX X N' scope cl C s₀ H₀ ex pn) ifs tt)(he:∀cl C s₀ H₀ ex pn,PE (fX X N' scope cl C s₀ H₀ ex pn) elt te)(hs:∀x,foldedSetIterable iter X.env x=pure x:=by intro _;rfl):
  PE X (.ListComp elt [⟨tg,iter,ifs,0⟩] scope pos) (EZ wi pick g tt te):=by
 intro pins s J H Q I h;rw[eval_ListComp];refine Zf rfl hs (SN S I) S.kind S.names (bJ (hit pins s J H _ I h) λv s1 h1=>bJ h1 λitv s2 h2=>?_)
 obtain⟨it,fp,tn,σ,H2,rfl,I2,T,st2,f2,W,⟨m0,w0⟩,turn⟩:=h2;refine Sz S hc I2 T st2 f2 hg hi he w0 turn ?_;intro D C H' s' m I' f' n' q';exact⟨m,n',λh' hs'=>⟨.ref D,H',I'.gone f' hs',rfl,q'⟩⟩
def alX(i:Nat)(t:TE):TS:=λD J H=>t J H λv H1=>D.nx (J.set i (O v)) H1
theorem anB{spos:Pos}(hsw:swapsWith (.ListComp elt [⟨tg,iter,ifs,0⟩] scope pos) (O (.Name y py)) spos.line X.env=pure G)(hN:X.N.Nodup)(hy:X.N[i]? = O y)(hl:X.env.scope.names.lookup y=O .local)(S:gn X N' pick scope)(hc:X.calm=G)(hit:PI X tg iter wi)(hg:∀cl C s₀ H₀ ex pn,PG (fX X N' scope cl C s₀ H₀ ex pn) tg g)(hi:∀cl C s₀ H₀ ex pn,sJ (fX X N' scope cl C s₀ H₀ ex pn) ifs tt)(he:∀cl C s₀ H₀ ex pn,PE (fX X N' scope cl C s₀ H₀ ex pn) elt te)(hs:∀x,foldedSetIterable iter X.env x=pure x:=by intro _;rfl):
  PS X (.Assign [.Name y py] (.ListComp elt [⟨tg,iter,ifs,0⟩] scope pos) spos) (alX i (EZ wi pick g tt te)):=by
 intro pins s J H D I h;rw[exec_Assign_Name_used _ _ _ _ hsw];refine bf (Z9 (bf ?_));refine bf (UW (Zf rfl hs (SN S I) S.kind S.names
  (bJ (hit pins s J H _ I h) λv s1 h1=>bJ h1 λitv s2 h2=>?_)) (λ_ s' hq=>bg (bg hq)) λ_ _ e=>e)
 obtain⟨it,fp,tn,σ,H2,rfl,I2,T,st2,f2,W,⟨m0,w0⟩,turn⟩:=h2;refine Sz (Qv:=λv H1=>D.nx (J.set i (O v)) H1) S hc I2 T st2 f2 hg hi he w0 turn ?_
 intro Da C H' s' m I' f' n' q';refine wpAny_assign_Name (LK I' hN hy (.inl hl) (v:=.ref Da) rfl (λs'' ze ⟨a,sb,ha⟩=>?_) (.inr hl))
 have hCa:C≠a:=by
  rcases ha with e|e
  ·rw[e];exact f'.2.1
  ·exact Uo (f'.2.2.2.2.1 _ _ e)
 exact⟨m,n'.sameBut sb hCa,λh' hs'=>⟨_,H',ze.gone f' hs',q'⟩⟩
end
def SD(XN:List Str)(xn:List (Str×UI))(N':List Str)(pick:List (Option Nat))(names:List (Str×UI)):Bool :=
 decide N'.Nodup&&names.all (λx=>decide (names.lookup x.1=O x.2))&&decide ((names.map (·.1)).Nodup)&&(pick.length==N'.length) &&
 (pick.zip N').all (λq=>match q.1 with|none=>G|some j=>decide (names.lookup q.2=O NameKind.free)&&decide (XN[j]? = O q.2)) &&
 names.all (λx=>decide (x.2≠NameKind.free)||(decide (xn.lookup x.1=O NameKind.cell)||decide (xn.lookup x.1=O NameKind.free)))
theorem gn.of{X:Cx}{pick:List (Option Nat)}{scope:UA}(hk:scope.kind=.function)(h:SD X.N X.env.scope.names N' pick scope.names=G):gn X N' pick scope:=by
 unfold SD at h;simp only[T5,Iv,decide_eq_true_eq,beq_iff_eq,Vw]at h;obtain⟨⟨⟨⟨⟨h1,h2⟩,h3⟩,h4⟩,h5⟩,h6⟩:=h;refine⟨hk,h1,λx hx e=>by rw[<-e];exact h2 x hx,h3,h4,λi j x hp hN=>?_,λx hx e=>?_⟩
 ·have hm:(O j,x)∈pick.zip N':=by
   have:(pick.zip N')[i]? = O (O j,x):=by rw[ZF];exact⟨hp,hN⟩
   exact UD this
  exact h5 _ hm |> λz=>by simpa using z
 ·rcases h6 x hx with z|z|z
  ·exact absurd e z
  ·exact .inl z
  ·exact .inr z
end L2
namespace PySem
open Sem (wp)
section
variable {prog:π}{w:υ}{A:ω}{E:Δ->Ψ->Prop}{s:Ψ}
theorem aci{items:Array Δ}{Q:Δ->Ψ->Prop}(hit:s.heap.IsTupleIter it l i)(hl:s.heap.IsTuple l items)(hx:items[i]? = O x)(hQ:∀h',h'.IsTupleIter it l (i+1)->Vl it s.heap h'->Q x {s with heap:=h'}):
  wpAny (model prog w) A (Builtin.SmallTypes.nextOf (.ref it)) Q E s:=by
 obtain⟨o,ho,hc,hd⟩:=id hit;obtain⟨ol,iX,_,nl,hdl⟩:=hl;refine bf (WB hit.typeIs XX
  (VF XX hit.typeIs Ze ?_ (Zd _)))
 show wpAny _ _ (field _ 0 >>= _) _ _ s;refine bf (Ut ho hd rfl ?_);refine bf (Ut ho hd rfl ?_);refine bf (VE iX hdl ?_);simp only[WG,hx];refine bf (Wq ho hd (by simp) (bg ⟨x,rfl,bg (hQ _ ?_ (VT ..))⟩))
 exact⟨_,Wu _ ho (ZE (WA hd _)),(ZD ..).trans hc,by
  rw[WA hd];simp[rawInt]⟩
theorem acj{items:Array Δ}{Q:Δ->Ψ->Prop}(hh:A.handled=Z)(hit:s.heap.IsTupleIter it l i)(hl:s.heap.IsTuple l items)(hx:items[i]? = Z)(hE:∀h' e,Heap.ExtBut it s.heap h'->(∃o,h'.get? e=O o/\o.cls=.type "StopIteration")->E (.ref e) {s with heap:=h'}):
  wpAny (model prog w) A (Builtin.SmallTypes.nextOf (.ref it)) Q E s:=by
 obtain⟨o,ho,hc,hd⟩:=id hit;obtain⟨ol,iX,_,nl,hdl⟩:=hl;refine bf (WB hit.typeIs XX
  (VF XX hit.typeIs Ze ?_ (Zd _)))
 show wpAny _ _ (field (.ref it) 0 >>= _) _ _ s;refine bf (Ut ho hd (x:=.ref l) rfl ?_);refine bf (Ut ho hd rfl ?_);refine bf (VE iX hdl ?_);simp only[WG,hx];refine bf (XW (bf (Wq ho hd (by simp) ?_)))
 refine bf ?_;refine bf (m:=firstArgMember _ _) (W9 (a:=Value.none) (by first|rfl|(simp;rfl)) ?_)
 refine XY ?_ (by size_fits)
 refine bf (wpAny_handled ?_)
 first|rw[show A.in1.handled=Z from hh]|rw[hh]
 refine bf (bg (wpAny_throw ?_));exact hE _ _ (((VT ..).extBut.push _).push _) ⟨_,T9 _ rfl,rfl⟩
theorem Draws.tuple{prog:π}{A:ω}(hh:A.handled=Z)(it l:Ξ)(hne:l≠it)(items:Array Δ):
  VJ prog w A it [it,l] items.size (λi v=>items[i]? = O v) (λi h=>h.IsTupleIter it l i/\h.IsTuple l items) where
 live:=λ_ _ st=>let⟨o,ho,_⟩:=st.1;⟨o,ho⟩
 frame:=λ_ _ _ st hk=>⟨st.1.at λo e=>hk it (by simp) o e,let⟨o,e,r⟩:=st.2;⟨o,hk l (by simp) o e,r⟩⟩
 item:=λi s Q E hi st hQ=>aci st.1 st.2 (x:=items[i]) (by simp) λh' x6 hs'=>hQ _ h' s.toks (by simp) ⟨x6,let⟨o,e,r⟩:=st.2;⟨o,hs'.extBut _ _ hne e,r⟩⟩ hs'
 done:=λs Q E st hE=>acj hh st.1 st.2 (by simp) hE
structure ZA (z TI TO i1 i2:Ξ) (f1 f2:List Ξ):Prop where
 TIz:TI≠z
 TOz:TO≠z
 TITO:TI≠TO
 TIi1:TI≠i1
 TIi2:TI≠i2
 m1:i1∈f1
 m2:i2∈f2
 z1:z∉f1
 z2:z∉f2
 o1:TO∉f1
 o2:TO∉f2
 x1:i1∉f2
 x2:i2∉f1
theorem akH{TI TO:Ξ}{P1 P2:Nat->Δ->Prop}{S1 S2:Nat->τ->Prop}{Q:Δ->Ψ->Prop}(D:ZA z TI TO i1 i2 f1 f2)(D1:VJ prog w A i1 f1 n1 P1 S1)(D2:VJ prog w A i2 f2 n2 P2 S2)(hz:Uq s.heap z TI TO .none)(hTI:UL s.heap TI (.ref i1) (.ref i2))(hTO:UL s.heap TO a b)(h1:S1 k s.heap)(h2:S2 k s.heap)(hx:k<n1)(hy:k<n2)(hQ:∀x y h' tk,P1 k x->P2 k y->Uq h' z TI TO (rawInt s.heap.objs.size)->UL h' TO x y->S1 (k+1) h'->S2 (k+1) h'->UL h' s.heap.objs.size x y ->
   (∀c o,c≠z->c≠TO->c≠i1->c≠i2->s.heap.get? c=O o->h'.get? c=O o)->Q (.ref s.heap.objs.size) {s with heap:=h',toks:=tk}):
  wpAny (model prog w) A (Builtin.«zip.__next__» ⟨[.ref z],[]⟩) (λfin s'=>∃v,fin=.done (.ret v)/\Q v s') E s:=by
 have AB:i1≠z:=λe=>D.z1 (e▸D.m1)
 have Gf:i2≠z:=λe=>D.z2 (e▸D.m2)
 have no1:TO≠i1:=λe=>D.o1 (e▸D.m1)
 have no2:TO≠i2:=λe=>D.o2 (e▸D.m2)
 have n12:i1≠i2:=λe=>D.x1 (e▸D.m2)
 show wpAny _ _ (field (.ref z) 2 >>= _) _ _ _;refine bf (Ut hz rfl (x:=.bool ξ) rfl ?_);show wpAny _ _ (field (.ref z) 3 >>= _) _ _ _;refine bf (Ut hz rfl (x:=.ref TI) rfl ?_);refine bf (VE hTI rfl ?_);show wpAny _ _ (Builtin.SmallTypes.ownedTupleIsFree (.ref z) >>= _) _ _ _;refine bf ?_;unfold Builtin.SmallTypes.ownedTupleIsFree;refine bf (Ut hz rfl (x:=.none) rfl (bg ?_));simp only[if_true];refine bf (XW ?_);refine bf (Ut hz rfl (x:=.ref TO) rfl ?_);refine bf (W8 hz (by simp) λh₁ uF hs₁=>?_)
 replace uF:Uq h₁ z TI TO .ellipsis:=uF
 refine bf ?_;simp only[List.zipIdx_cons,List.zipIdx_nil,Wr,ZC];refine bf (bf (XU ?_));show wpAny _ _ (Builtin.SmallTypes.nextOf (.ref i1) >>= _) _ _ _;refine bf (D1.item k _ _ _ hx (D1.frame _ _ _ h1 λc hc o e=>hs₁.extBut _ _ (λq=>D.z1 (q▸hc)) e) λx h₂ tk₂ px Ro hs₂=>bg ?_)
 have yb:UL h₂ TO a b:=hs₂.extBut _ _ no1 (hs₁.extBut _ _ D.TOz hTO);refine bf (VE yb rfl ?_);refine bf (Yb yb λh₃ Bs j6=>?_)
 replace Bs:UL h₃ TO x b:=Bs
 refine bf (wpAny_letGo (bg ?_));refine bf (bf (XU ?_));show wpAny _ _ (Builtin.SmallTypes.nextOf (.ref i2) >>= _) _ _ _;refine bf (D2.item k _ _ _ hy (D2.frame _ _ _ h2 λc hc o e=>j6.extBut _ _ (λq=>D.o2 (q▸hc)) (hs₂.extBut _ _ (λq=>D.x1 (q▸hc)) (hs₁.extBut _ _ (λq=>D.z2 (q▸hc)) e))) λy h₄ tk₄ py afg pT=>bg ?_)
 have Rc:UL h₄ TO x b:=pT.extBut _ _ no2 Bs;refine bf (VE Rc rfl ?_);refine bf (Yb Rc λh₅ Br pS=>?_)
 replace Br:UL h₅ TO x y:=Br
 refine bf (wpAny_letGo (bg (bg ?_)));refine bf (VE Br rfl ?_);refine bf (wpAny_newTuple ?_);have hsz:h₅.objs.size=s.heap.objs.size:=by rw[pS.1,pT.1,j6.1,hs₂.1,hs₁.1]
 have QH:Uq h₅ z TI TO .ellipsis:=pS.extBut _ _ D.TOz.symm (pT.extBut _ _ Gf.symm (j6.extBut _ _ D.TOz.symm (hs₂.extBut _ _ AB.symm uF)));have aeA:∀c o,c≠z->c≠TO->c≠i1->c≠i2->s.heap.get? c=O o->h₅.get? c=O o:=λc o c1 c2 c3 c4 e =>
  pS.extBut _ _ c2 (pT.extBut _ _ c4 (j6.extBut _ _ c2 (hs₂.extBut _ _ c3 (hs₁.extBut _ _ c1 e))))
 have afh:S1 (k+1) h₅:=D1.frame _ _ _ Ro λc hc o e=>pS.extBut _ _ (λq=>D.o1 (q▸hc)) (pT.extBut _ _ (λq=>D.x2 (q▸hc)) (j6.extBut _ _ (λq=>D.o1 (q▸hc)) e))
 have afe:S2 (k+1) h₅:=D2.frame _ _ _ afg λc hc o e=>pS.extBut _ _ (λq=>D.o2 (q▸hc)) e
 have QK:z<h₅.objs.size:=IT QH;show wpAny _ _ (Builtin.SmallTypes.ownedTupleHandOut (.ref z) (.ref h₅.objs.size) >>= _) _ _ _;refine bf ?_;unfold Builtin.SmallTypes.ownedTupleHandOut;have ad4:Uq (h₅.push {cls:=.type "tuple",data:=.seq #[x,y]}) z TI TO .ellipsis:=jn _ QH;refine bf (W8 ad4 (by simp) λad3 G0 QO=>?_)
 replace G0:Uq ad3 z TI TO (rawInt h₅.objs.size):=G0
 refine W8 G0 (by simp) λBh Bj QN=>?_
 replace Bj:Uq Bh z TI TO (rawInt h₅.objs.size):=Bj
 have up:∀c o,c≠z->h₅.get? c=O o->Bh.get? c=O o:=λc o c1 e=>QN.extBut _ _ c1 (QO.extBut _ _ c1 (jn _ e))
 have Rb:UL Bh h₅.objs.size x y:=QN.extBut _ _ (Uh QK) (QO.extBut _ _ (Uh QK) (T9 _ rfl));rw[hsz]at Bj Rb;refine bg ⟨_,rfl,?_⟩;show Q (.ref h₅.objs.size) _;rw[hsz];exact hQ x y Bh _ px py Bj (up _ _ D.TOz Br) (D1.frame _ _ _ afh λc hc o e=>up c o (λq=>D.z1 (q▸hc)) e) (D2.frame _ _ _ afe λc hc o e=>up c o (λq=>D.z2 (q▸hc)) e) Rb λc o c1 c2 c3 c4 e=>up c o c1 (aeA c o c1 c2 c3 c4 e)
theorem ala{TI TO:Ξ}{P1 P2:Nat->Δ->Prop}{S1 S2:Nat->τ->Prop}{Q:Fin->Ψ->Prop}(D:ZA z TI TO i1 i2 f1 f2)(D1:VJ prog w A i1 f1 n1 P1 S1)(D2:VJ prog w A i2 f2 n2 P2 S2)(hz:Uq s.heap z TI TO .none)(hTI:UL s.heap TI (.ref i1) (.ref i2))(hTO:UL s.heap TO a b)(h1:S1 k s.heap)(h2:S2 k s.heap)(hend:k=n1\/(k<n1/\k=n2))(hE:∀h' tk e,(∀c o,c≠z->c≠TO->c≠i1->c≠i2->s.heap.get? c=O o->h'.get? c=O o)->(∃o,h'.get? e=O o/\o.cls=.type "StopIteration")->E (.ref e) {s with heap:=h',toks:=tk}):
  wpAny (model prog w) A (Builtin.«zip.__next__» ⟨[.ref z],[]⟩) Q E s:=by
 have AB:i1≠z:=λe=>D.z1 (e▸D.m1)
 have Gf:i2≠z:=λe=>D.z2 (e▸D.m2)
 show wpAny _ _ (field (.ref z) 2 >>= _) _ _ _;refine bf (Ut hz rfl (x:=.bool ξ) rfl ?_);refine bf (Ut hz rfl (x:=.ref TI) rfl ?_);refine bf (VE hTI rfl ?_);refine bf ?_;unfold Builtin.SmallTypes.ownedTupleIsFree;refine bf (Ut hz rfl (x:=.none) rfl (bg ?_));simp only[if_true];refine bf (XW ?_);refine bf (Ut hz rfl (x:=.ref TO) rfl ?_);refine bf (W8 hz (by simp) λh₁ uF hs₁=>?_)
 refine bf ?_;refine bf (bf (XU ?_));have Rq:S1 k h₁:=D1.frame _ _ _ h1 λc hc o e=>hs₁.extBut _ _ (λq=>D.z1 (q▸hc)) e
 rcases hend with rfl|⟨hlt,rfl⟩
 ·refine bf (D1.done _ _ _ Rq λh₂ e hs₂ he=>?_)
  obtain⟨oe,rP,hce⟩:=he;have QJ:Uq h₂ z TI TO .ellipsis:=hs₂ _ _ AB.symm uF;have hez:e≠z:=λx=>by subst x;rw[QJ]at rP;cases rP;simp at hce
  refine W8 QJ (by simp) λh₃ _ j6=>hE h₃ _ e (λc o c1 _ c3 _ x=>j6.extBut _ _ c1 (hs₂ _ _ c3 (hs₁.extBut _ _ c1 x))) ⟨oe,j6.extBut _ _ hez rP,hce⟩
 ·refine bf (D1.item k _ _ _ hlt Rq λx h₂ tk₂ px Ro hs₂=>bg ?_)
  have yb:UL h₂ TO a b:=hs₂.extBut _ _ (λe=>D.o1 (e▸D.m1)) (hs₁.extBut _ _ D.TOz hTO)
  refine bf (VE yb rfl ?_);refine bf (Yb yb λh₃ Bs j6=>?_)
  refine bf (wpAny_letGo (bg ?_));refine bf (bf (XU ?_));refine bf (D2.done _ _ _ (D2.frame _ _ _ h2 λc hc o e=>j6.extBut _ _ (λq=>D.o2 (q▸hc)) (hs₂.extBut _ _ (λq=>D.x1 (q▸hc)) (hs₁.extBut _ _ (λq=>D.z2 (q▸hc)) e))) λh₄ e pT he=>?_)
  obtain⟨oe,rP,hce⟩:=he;have QI:=pT _ _ Gf.symm (j6.extBut _ _ D.TOz.symm (hs₂.extBut _ _ AB.symm uF));refine W8 QI (by simp) λh₅ _ pS=>hE h₅ _ e (λc o c1 c2 c3 c4 x=>pS.extBut _ _ c1 (pT _ _ c4 (j6.extBut _ _ c2 (hs₂.extBut _ _ c3 (hs₁.extBut _ _ c1 x))))) ⟨oe,pS.extBut _ _ (λx=>by subst x;rw[QI]at rP;cases rP;simp at hce) rP,hce⟩
theorem aoq{TI TO:Ξ}{P1 P2:Nat->Δ->Prop}{S1 S2:Nat->τ->Prop}{Q:Option Δ->Ψ->Prop}(D:ZA z TI TO i1 i2 f1 f2)(D1:VJ prog w A.in1 i1 f1 n1 P1 S1)(D2:VJ prog w A.in1 i2 f2 n2 P2 S2)(hz:Uq s.heap z TI TO .none)(hTI:UL s.heap TI (.ref i1) (.ref i2))(hTO:UL s.heap TO a b)(h1:S1 k s.heap)(h2:S2 k s.heap)(hx:k<n1)(hy:k<n2)(hQ:∀x y h' tk,P1 k x->P2 k y->Uq h' z TI TO (rawInt s.heap.objs.size)->UL h' TO x y->S1 (k+1) h'->S2 (k+1) h'->UL h' s.heap.objs.size x y ->
   (∀c o,c≠z->c≠TO->c≠i1->c≠i2->s.heap.get? c=O o->h'.get? c=O o)->Q (O (.ref s.heap.objs.size)) {s with heap:=h',toks:=tk}):
  wpAny (model prog w) A (pyNext (.ref z)) Q E s:=by
 have hT:s.TypeIs (.ref z) "zip":=⟨_,hz,rfl⟩;unfold pyNext;exact bf (XT (WB (name:=Str.ofString "__next__") hT XS
  (VF XS hT F.entry_zip_next
   (akH D D1 D2 hz hTI hTO h1 h2 hx hy λx y h' tk a0 b0 a1 a2 a3 a4 a5 a7=>bg (hQ x y h' tk a0 b0 a1 a2 a3 a4 a5 a7)) (F.args_zip_next_1 _))))
theorem aop{TI TO:Ξ}{P1 P2:Nat->Δ->Prop}{S1 S2:Nat->τ->Prop}{Q:Option Δ->Ψ->Prop}(D:ZA z TI TO i1 i2 f1 f2)(D1:VJ prog w A.in1 i1 f1 n1 P1 S1)(D2:VJ prog w A.in1 i2 f2 n2 P2 S2)(hz:Uq s.heap z TI TO .none)(hTI:UL s.heap TI (.ref i1) (.ref i2))(hTO:UL s.heap TO a b)(h1:S1 k s.heap)(h2:S2 k s.heap)(hend:k=n1\/(k<n1/\k=n2))(hQ:∀h' tk,(∀c o,c≠z->c≠TO->c≠i1->c≠i2->s.heap.get? c=O o->h'.get? c=O o)->Q Z {s with heap:=h',toks:=tk}):wpAny (model prog w) A (pyNext (.ref z)) Q E s:=by
 have hT:s.TypeIs (.ref z) "zip":=⟨_,hz,rfl⟩;unfold pyNext;refine bf (XT (WB (name:=Str.ofString "__next__") hT XS
  (VF XS hT F.entry_zip_next (ala D D1 D2 hz hTI hTO h1 h2 hend λh' tk e hk he=>?_) (F.args_zip_next_1 _))))
 obtain⟨o,ho,hc⟩:=he;refine bf (WX (T:="StopIteration") (b:=G) ⟨o,ho,hc⟩ isSubtype_stop ?_);exact bg (hQ _ _ hk)
abbrev zm(h:τ)(l1:Ξ):τ:=h.push {cls:=.type "tuple_iterator",data:=.fields #[.ref l1,.int 0 0]}
abbrev zl(h:τ)(l1 l2:Ξ):τ:=(zm h l1).push {cls:=.type "tuple_iterator",data:=.fields #[.ref l2,.int 0 0]}
abbrev zk(h:τ)(l1 l2:Ξ):τ:=(zl h l1 l2).push {cls:=.type "tuple",data:=.seq #[.ref h.objs.size,.ref (zm h l1).objs.size]}
abbrev zj(h:τ)(l1 l2:Ξ):τ:=(zk h l1 l2).push {cls:=.type "tuple",data:=.seq #[.none,.none]}
abbrev sN(h:τ)(l1 l2:Ξ):τ:=(zj h l1 l2).push {cls:=.type "zip",data:=.fields #[.none,.bool ξ,.bool ξ,.ref (zl h l1 l2).objs.size,.ref (zk h l1 l2).objs.size]}
theorem ain{h:τ}{xs:Array Δ}(x:h.IsTuple a xs)(o:Obj):(h.push o).IsTuple a xs:=let⟨q,e,r⟩:=x;⟨q,jn _ e,r⟩
theorem acF(l1 l2:Ξ)(xs ys:Array Δ) :
  Meets (Builtin.«zip.__new__» ⟨[.type "zip",.ref l1,.ref l2],[]⟩) (λ_ R s=>s.heap.IsTuple l1 xs/\s.heap.IsTuple l2 ys /\
   R (.ok (.ret (.ref (zj s.heap l1 l2).objs.size))) {s with heap:=sN s.heap l1 l2}) :=
 .of_wp λprog w A R s h=>by
  obtain⟨hp,g,d,tk,os⟩:=s;obtain⟨hl1,hl2,h⟩:=h;have hsub:=sub_zip;have uK:ZN (Shared.heap ⟨hp,g,d,tk,os⟩) l1 xs:=hl1;have uJ:ZN (Shared.heap ⟨hp.push {cls:=.type "tuple_iterator",data:=.fields #[.ref l1,.int 0 0]},g,d,tk,os⟩) l2 ys:=ain hl2 _
  wp_walk using Vz uK,Vz uJ
  exact⟨_,rfl,h⟩
theorem ahd{l1 l2:Ξ}{xs:Array Δ}{Q:Δ->Ψ->Prop}(hl1:s.heap.IsTuple l1 xs)(hl2:s.heap.IsTuple l2 ys)(h:∀h',Uq h' (s.heap.objs.size+4) (s.heap.objs.size+2) (s.heap.objs.size+3) .none->UL h' (s.heap.objs.size+2) (.ref s.heap.objs.size) (.ref (s.heap.objs.size+1)) ->
   UL h' (s.heap.objs.size+3) .none .none->h'.IsTupleIter s.heap.objs.size l1 0->h'.IsTupleIter (s.heap.objs.size+1) l2 0 ->
   (∀c o,s.heap.get? c=O o->h'.get? c=O o)->Q (.ref (s.heap.objs.size+4)) {s with heap:=h'}):
  wpAny (model prog w) A (call (.type "zip") [.ref l1,.ref l2]) Q E s:=by
 refine callType_new F.called_zip ⋯ (F.typeCall_zip_2 _ _) (F.newCall_zip_2 _ _) (λobj=>F.args_object_init_3 obj _ _) F.entry_zip_new
  (acF l1 l2 xs ys) ⟨hl1,hl2,?_⟩
 have z1:(zm s.heap l1).objs.size=s.heap.objs.size+1:=UJ ..;have z2:(zl s.heap l1 l2).objs.size=s.heap.objs.size+2:=by rw[UJ,z1]
 have z3:(zk s.heap l1 l2).objs.size=s.heap.objs.size+3:=by rw[UJ,z2]
 have z4:(zj s.heap l1 l2).objs.size=s.heap.objs.size+4:=by rw[UJ,z3]
 have g5:(sN s.heap l1 l2).get? (zj s.heap l1 l2).objs.size=O _:=T9 _ rfl;have g4:(sN s.heap l1 l2).get? (zk s.heap l1 l2).objs.size=O _:=jn _ (T9 _ rfl);have g3:(sN s.heap l1 l2).get? (zl s.heap l1 l2).objs.size=O _:=jn _ (jn _ (T9 _ rfl));have g2:(sN s.heap l1 l2).get? (zm s.heap l1).objs.size=O _:=jn _ (jn _ (jn _ (T9 _ rfl)));have g1:(sN s.heap l1 l2).get? s.heap.objs.size=O _:=jn _ (jn _ (jn _ (jn _ (T9 _ rfl))));show _/\_;rw[z2,z3,z4]at g5;rw[z1,z2]at g3;rw[z3]at g4;rw[z1]at g2;rw[z4];exact⟨⟨_,g5,rfl⟩,h _ g5 g3 g4 ⟨_,g1,rfl,rfl⟩ ⟨_,g2,rfl,rfl⟩ λc o x =>
  jn _ (jn _ (jn _ (jn _ (jn _ x))))⟩
open AutoSeq1 (wpAny_loadPart')
theorem acG(l:Ξ)(items:Array Δ)(n:Nat)(dct:Option Ξ)(sl:Array (Option Δ)) :
  Meets (Builtin.«enumerate.__new__» ⟨[.type "enumerate",.ref l],[]⟩) (λ_ R s=>s.heap.get? l=O {cls:=.type "tuple",dict:=dct,data:=.seq items n,slots:=sl} /\
   R (.ok (.ret (.ref (s.heap.push {cls:=.type "tuple_iterator",data:=.fields #[.ref l,.int 0 0]}).objs.size)))
    {s with heap:=(s.heap.push {cls:=.type "tuple_iterator",data:=.fields #[.ref l,.int 0 0]}).push {cls:=.type "enumerate",data:=.fields #[.none,.bool ξ,.ref s.heap.objs.size,rawInt 0,.none,.none]} }) :=
 .of_wp λprog w A R s h=>by
  obtain⟨hp,g,d,tk,os⟩:=s;obtain⟨hl,h⟩:=h;have hsub:=sub_enumerate;have hL:ZN (Shared.heap ⟨hp,g,d,tk,os⟩) l items:=⟨_,hl,rfl,n,rfl⟩
  wp_walk using wpAny_loadPart' hl
  refine wpAny_stack_any λst=>bg ?_
  split
  ·rename_i c _ _ _ _ _;cases(c==Value.type "enumerate")
   ·wp_walk using wpAny_loadPart' hl,Vz hL
    exact⟨_,rfl,h⟩
   ·wp_walk using wpAny_loadPart' hl,Vz hL
    exact⟨_,rfl,h⟩
  ·wp_walk using wpAny_loadPart' hl,Vz hL
   exact⟨_,rfl,h⟩
theorem ahl{items:Array Δ}{Q:Δ->Ψ->Prop}(hL:s.heap.IsTuple l items)(h:∀h',IsEnum h' (s.heap.objs.size+1) s.heap.objs.size 0 .none->h'.IsTupleIter s.heap.objs.size l 0->h'.objs.size=s.heap.objs.size+2 ->
   (∀b o,s.heap.get? b=O o->h'.get? b=O o)->Q (.ref (s.heap.objs.size+1)) {s with heap:=h'}):
  wpAny (model prog w) A (call (.type "enumerate") [.ref l]) Q E s:=by
 obtain⟨⟨c,dct,dt,sl⟩,hl,hc,n,hd⟩:=hL
 replace hc:c=.type "tuple":=hc
 subst hc hd;refine callType_new F.called_enumerate ⋯ (F.typeCall_enumerate_1 _) (F.newCall_enumerate_1 _) (λobj=>F.args_object_init_2 obj _) F.entry_enumerate_new
  (acG l items n dct sl) ⟨hl,?_⟩
 have hz:(s.heap.push {cls:=.type "tuple_iterator",data:=.fields #[.ref l,.int 0 0]}).objs.size=s.heap.objs.size+1:=UJ ..;rw[hz];have he:IsEnum ((s.heap.push {cls:=.type "tuple_iterator",data:=.fields #[.ref l,.int 0 0]}).push
   {cls:=.type "enumerate",data:=.fields #[.none,.bool ξ,.ref s.heap.objs.size,rawInt 0,.none,.none]}) (s.heap.objs.size+1) s.heap.objs.size 0 .none:=by
  have:=T9 (s.heap.push {cls:=.type "tuple_iterator",data:=.fields #[.ref l,.int 0 0]})
   (o:={cls:=.type "enumerate",data:=.fields #[.none,.bool ξ,.ref s.heap.objs.size,rawInt 0,.none,.none]}) rfl
  rw[hz]at this;exact this
 refine⟨⟨_,he,rfl⟩,h _ he ⟨_,jn _ (T9 _ rfl),rfl,rfl⟩ (by rw[UJ,hz]) λb o x=>jn _ (jn _ x)⟩
end
end PySem
namespace L2
open PySem PySem.Spec PyProof.Rows
section
variable {X:Cx}{pins:List (Ξ×Obj)}{J:St}{H:Hp}{s:Ψ}{K:Γ}
theorem afz{xs:List V}(I:Inv X pins J H s)(f:iz X pins H b)(q:cF X.K H a xs):a≠b:=by
 rintro rfl
 rcases q with(q|⟨o,q⟩)|⟨o,its,n,q,_⟩
 ·rw[f.1]at q;cases q
 ·rw[f.1]at q;cases q
 ·have e:=I.ok.mod.l9 a o q
  rcases f.2.2.2.1 with z|z
  ·exact I.ok.nt _ _ e z
  ·exact absurd (TY (IT e) (UK I.ok.ji z)) (Ui _)
theorem afA{xs:List V}(I:Inv X pins J H s)(f:iz X pins H b)(q:bQ X.K H a xs):a≠b:=by
 rintro rfl
 rcases q with(q|⟨o,q⟩)|⟨o,its,n,q,_⟩
 ·rw[f.1]at q;cases q
 ·rw[f.1]at q;cases q
 ·have e:=I.ok.mod.l9 a o q
  rcases f.2.2.2.1 with z|z
  ·exact I.ok.nt _ _ e z
  ·exact absurd (TY (IT e) (UK I.ok.ji z)) (Ui _)
theorem Inv.K9{h':τ}{ch:List Ξ}{T:Ξ}{vs:List V}{us:List Δ}(I:Inv X pins J H s)(hf:∀b∈ch,iz X pins H b)(k:∀b o,b∉ch->s.heap.get? b=O o->h'.get? b=O o)(hT:s.heap.objs.size<=T)(th:∀b∈ch,∃o,h'.get? b=O o)(rv:Vals vs us)(hz:vs.length<=Ω)(tup:nX h' T us.toArray):Inv X pins J (upd H T (.tup vs)) {s with heap:=h',toks:=t'}:=by
 have hn:H T=Z:=I.hok.fresh hT;have kL:∀b u,H b=O u->b∉ch:=λb u e z=>by rw[(hf b z).1]at e;cases e
 refine I.step (g':=s.gens) (d':=s.drawn) (ch:=ch) (λb hb=>?_) (λb o _ _ hc e _=>k b o hc e) (λb o _ _ hc e _=>⟨o.slots,k b o hc e⟩) (λb o _ e n=>?_)
  (λb o hc e=>⟨o,k b o hc e⟩) (λb xs e=>by rw[b8 (eH e hn)];exact e) (λb o u e=>by rw[b8 (eH e hn)];exact e) (λb ps e=>⟨#[],by rw[b8 (eH e hn),e];simp⟩) (λm hm=>?_) (λb u e=>?_) I.bare
 ·obtain⟨f0,f1,f2,f3,f4,f5⟩:=hf b hb;exact⟨f3,f1,f4,f5⟩
 ·rw[b8 (T3 (TY (IT e) hT))];exact n
 ·obtain⟨o,es,ep,ho,r⟩:=hm;exact⟨o,es,ep,k _ o (λz=>(hf _ z).2.1 rfl) ho,r⟩
 ·by_cases hb:b=T
  ·subst hb;rw[fG]at e;cases e;exact⟨hz,us,rv,tup⟩
  ·rw[b8 hb]at e;refine(I.hok b u e).stay (λc v hc q=>k c v ?_ q) (λc q=>by rw[b8 (eH q hn)];exact q) λc xs q=>by rw[b8 (eH q hn)];exact q
   rcases hc with z|z
   ·rw[z];exact kL b u e
   ·exact kL c _ z
theorem Inv.La{h':τ}{ch:List Ξ}(I:Inv X pins J H s)(hf:∀b∈ch,iz X pins H b)(k:∀b o,b∉ch->s.heap.get? b=O o->h'.get? b=O o):Inv X pins J H {s with heap:=h',toks:=t'}:=by
 have kL:∀b u,H b=O u->b∉ch:=λb u e z=>by rw[(hf b z).1]at e;cases e
 refine I.step (ch:=ch) (λb hb=>?_) (λb o _ _ hc e _=>k b o hc e) (λb o _ _ hc e _=>⟨o.slots,k b o hc e⟩) (λb o _ e n=>n)
  (λb o hc e=>⟨o,k b o hc e⟩) (λb xs e=>e) (λb o u e=>e) (λb ps e=>⟨#[],by rw[e];simp⟩) (λm hm=>?_) (λb u e=>?_) I.bare
 ·obtain⟨f0,f1,f2,f3,f4,f5⟩:=hf b hb;exact⟨f3,f1,f4,f5⟩
 ·obtain⟨o,es,ep,ho,r⟩:=hm;exact⟨o,es,ep,k _ o (λz=>(hf _ z).2.1 rfl) ho,r⟩
 ·refine(I.hok b u e).stay (λc v hc q=>k c v ?_ q) (λc q=>q) λc xs q=>q
  rcases hc with z|z
  ·rw[z];exact kL b u e
  ·exact kL c _ z
end
structure DZ (P:π) (w:υ) (K:Γ) (Sq:Hp->Ξ->List V->Prop) (lD:τ->Ξ->Ξ->Nat->Prop) (vt:τ->Ξ->Array Δ->Prop):Prop where
 get:∀{X:Cx}{pins:List (Ξ×Obj)}{J:St}{H:Hp}{s:Ψ}{a:Ξ}{xs:List V},X.K=K->Inv X pins J H s->Sq H a xs->∃its:List Δ,Vals xs its/\vt s.heap a its.toArray/\xs.length<=Ω
 inj:∀{X:Cx}{pins:List (Ξ×Obj)}{J:St}{H:Hp}{s:Ψ}{a:Ξ}{xs ys:List V},X.K=K->Inv X pins J H s->Sq H a xs->Sq H a ys->xs=ys
 ne:∀{X:Cx}{pins:List (Ξ×Obj)}{J:St}{H:Hp}{s:Ψ}{a b:Ξ}{xs:List V},X.K=K->Inv X pins J H s->iz X pins H b->Sq H a xs->a≠b
 nQ:∀(A:ω) (it l:Ξ) (items:Array Δ),A.handled=Z->l≠it->VJ P w A it [it,l] items.size (λi v=>items[i]? = O v) (λi h=>lD h it l i/\vt h l items)
 obj:∀{h:τ}{it l:Ξ}{i:Nat},lD h it l i->∃o,h.get? it=O o/\∀v,o.data≠.cell v
 at':∀{h h':τ}{it l:Ξ}{i:Nat},lD h it l i->(∀o,h.get? it=O o->h'.get? it=O o)->lD h' it l i
theorem L7{P:π}{w:υ}{K:Γ}:DZ P w K (cF K) (λh it l i=>h.IsTupleIter it l i) (λh a xs=>h.IsTuple a xs) where
 get:=λe I q=>by subst e;obtain⟨its,r,p,z⟩:=I.tuple q;exact⟨its,r,p,z⟩
 inj:=λe I q q'=>by subst e;exact I.Ld q q'
 ne:=λe I f q=>by subst e;exact afz I f q
 nQ:=λA it l items hh hne=>Draws.tuple hh it l hne items
 obj:=λst=>by obtain⟨o,e,c,d⟩:=st;exact⟨o,e,λv z=>by rw[d]at z;cases z⟩
 at':=λst k=>st.at k
theorem L8{P:π}{w:υ}{K:Γ}:DZ P w K (bQ K) (λh it l i=>h.IsListIter it l i) (λh a xs=>h.IsList a xs) where
 get:=λe I q=>by subst e;obtain⟨its,r,p,z⟩:=I.list q;exact⟨its,r,p.isList,z⟩
 inj:=λe I q q'=>by subst e;exact I.GN q q'
 ne:=λe I f q=>by subst e;exact afA I f q
 nQ:=λA it l items hh hne=>Draws.list hh it l hne items
 obj:=λst=>by obtain⟨o,e,c,d⟩:=st;exact⟨o,e,λv z=>by rw[d]at z;cases z⟩
 at':=λst k=>st.at k
def D6(Sq:Hp->Ξ->List V->Prop)(a1 a2:Ξ):It :=
  ⟨λi H=>∃xs ys x y,Sq H a1 xs/\Sq H a2 ys/\xs[i]? = O x/\ys[i]? = O y,
   λi H v H'=>∃t x y,v=.ref t/\H t=Z/\H'=upd H t (.tup [x,y])/\∀xs ys,Sq H a1 xs->Sq H a2 ys->xs[i]? = O x/\ys[i]? = O y,
   λi H=>∃xs ys,Sq H a1 xs/\Sq H a2 ys/\(i=xs.length\/(i<xs.length/\i=ys.length))⟩
def D7(Sq:Hp->Ξ->List V->Prop)(a:Ξ):It :=
  ⟨λi H=>∃xs x,Sq H a xs/\xs[i]? = O x,
   λi H v H'=>∃t x,v=.ref t/\H t=Z/\H'=upd H t (.tup [.int i,x])/\∀xs,Sq H a xs->xs[i]? = O x,
   λi H=>∃xs,Sq H a xs/\i=xs.length⟩
theorem zC{xs:List V}{i:Nat}(r:Vals xs us)(h:us.toArray[i]? = O u):∃x,xs[i]? = O x/\RelV x u:=by
 have h':us[i]? = O u:=by simpa using h
 have hi:i<xs.length:=by rw[r.length];exact(U3.mp h').1
 obtain⟨u',e,q⟩:=r.get (I8 hi);rw[h']at e;cases e;exact⟨xs[i],I8 hi,q⟩
theorem Lb{P:π}{w:υ}{K:Γ}{Sq:Hp->Ξ->List V->Prop}{lD:τ->Ξ->Ξ->Nat->Prop}{vt:τ->Ξ->Array Δ->Prop}(S:DZ P w K Sq lD vt){k:Nat}{pt:Pos}(a1 a2 z TI TO i1 i2:Ξ)(n1:TI≠z)(n2:TO≠z)(n3:TI≠TO)(n4:TI≠i1)(n5:TI≠i2)(n6:TO≠i1)(n7:TO≠i2)(n8:i1≠z)(n9:i2≠z)(uc:i1≠i2):
  Turn P w K (.Tuple es k pt) (D6 Sq a1 a2) [z,TI,TO,i1,i2] z (λi h=>Uq h z TI TO .none/\UL h TI (.ref i1) (.ref i2)/\(∃a b,UL h TO a b)/\lD h i1 a1 i/\lD h i2 a2 i) where
 mem:=by simp
 obj:=λi h st b hb=>by
  obtain⟨hz,hTI,⟨a,b',hTO⟩,h1,h2⟩:=st;simp only[AP,TZ,or_false]at hb
  rcases hb with rfl|rfl|rfl|rfl|rfl
  ·exact⟨_,hz,λv q=>nomatch q⟩
  ·exact⟨_,hTI,λv q=>nomatch q⟩
  ·exact⟨_,hTO,λv q=>nomatch q⟩
  ·exact S.obj h1
  ·exact S.obj h2
 keep:=λi h h' st kp=>by
  obtain⟨hz,hTI,⟨a,b,hTO⟩,h1,h2⟩:=st;exact⟨kp _ (by simp) _ hz,kp _ (by simp) _ hTI,⟨a,b,kp _ (by simp) _ hTO⟩,S.at' h1 λo e=>kp _ (by simp) o e,S.at' h2 λo e=>kp _ (by simp) o e⟩
 item:=by
  intro X hP hw hK hc i pins s J H E I hf st hg;subst hP hw;obtain⟨xs,ys,x,y,q1,q2,hx,hy⟩:=hg;obtain⟨hz,hTI,⟨a,b,hTO⟩,h1,h2⟩:=st;obtain⟨us,r1,p1,l1⟩:=S.get hK I q1;obtain⟨vs,r2,p2,l2⟩:=S.get hK I q2;have ne1:∀{b:Ξ},b∈[z,TI,TO,i1,i2]->a1≠b:=λhb=>S.ne hK I (hf _ hb) q1
  have ne2:∀{b:Ξ},b∈[z,TI,TO,i1,i2]->a2≠b:=λhb=>S.ne hK I (hf _ hb) q2
  have hx':i<us.toArray.size:=by have:=(U3.mp hx).1;have:=r1.length;simp;omega
  have hy':i<vs.toArray.size:=by have:=(U3.mp hy).1;have:=r2.length;simp;omega
  have D:ZA z TI TO i1 i2 [i1,a1] [i2,a2]:=⟨n1,n2,n3,n4,n5,by simp,by simp,by simp only[AP,TZ,or_false,not_or];exact⟨n8.symm,(ne1 (by simp)).symm⟩,by simp only[AP,TZ,or_false,not_or];exact⟨n9.symm,(ne2 (by simp)).symm⟩,
   by simp only[AP,TZ,or_false,not_or];exact⟨n6,(ne1 (by simp)).symm⟩,by simp only[AP,TZ,or_false,not_or];exact⟨n7,(ne2 (by simp)).symm⟩,
   by simp only[AP,TZ,or_false,not_or];exact⟨uc,(ne2 (by simp)).symm⟩,by simp only[AP,TZ,or_false,not_or];exact⟨uc.symm,(ne1 (by simp)).symm⟩⟩
  refine aoq D (S.nQ X.A.in1 i1 a1 us.toArray (I.ok.hd hc) (ne1 (by simp))) (S.nQ X.A.in1 i2 a2 vs.toArray (I.ok.hd hc) (ne2 (by simp))) hz hTI hTO ⟨h1,p1⟩ ⟨h2,p2⟩ hx' hy' λu v h' tk pu pv hz' Rf s1 s2 hT kp=>?_
  refine⟨_,rfl,?_⟩;refine wpAny_letOwnedTupleGo_zip (s:={s with heap:=h',toks:=tk}) hz' λh'' QL nJ=>?_
  obtain⟨x',ex,rx⟩:=zC r1 pu;obtain⟨y',ey,ry⟩:=zC r2 pv;have lt:∀{c:Ξ}{o:Obj},s.heap.get? c=O o->c≠s.heap.objs.size:=λe=>T3 (IT e)
  have xQ:∀c o,c∉[z,TO,i1,i2]->s.heap.get? c=O o->h''.get? c=O o:=λc o hcn e=>by
   simp only[AP,TZ,or_false,not_or]at hcn;exact nJ.extBut _ _ hcn.1 (kp c o hcn.1 hcn.2.1 hcn.2.2.1 hcn.2.2.2 e)
  have I2:Inv X pins J (upd H s.heap.objs.size (.tup [x',y'])) {s with heap:=h'',toks:=tk}:=by
   refine I.K9 (ch:=[z,TO,i1,i2]) (us:=[u,v]) (λb hb=>hf b ?_) xQ (dD _) (λb hb=>?_) (.cons rx (.cons ry .nil)) (by show 2<=Ω;decide) (⟨_,nJ.extBut _ _ (lt hz).symm hT,rfl,⟨_,rfl⟩,rfl⟩)
   ·simp only[AP,TZ,or_false]at hb ⊢
    rcases hb with rfl|rfl|rfl|rfl<;>simp
   ·simp only[AP,TZ,or_false]at hb
    rcases hb with rfl|rfl|rfl|rfl
    ·exact⟨_,QL⟩
    ·exact⟨_,nJ.extBut _ _ n2 Rf⟩
    ·obtain⟨o,e,_⟩:=S.obj s1.1;exact⟨_,nJ.extBut _ _ n8 e⟩
    ·obtain⟨o,e,_⟩:=S.obj s2.1;exact⟨_,nJ.extBut _ _ n9 e⟩
  refine⟨.ref s.heap.objs.size,_,I2,rfl,⟨_,x',y',rfl,I.hok.fresh (dD _),rfl,λxs' ys' w1 w2=>?_⟩,⟨QL,?_,⟨_,_,nJ.extBut _ _ n2 Rf⟩,S.at' s1.1 λo e=>nJ.extBut _ _ n8 e,S.at' s2.1 λo e=>nJ.extBut _ _ n9 e⟩,λb hb=>?_⟩
  ·rw[S.inj hK I w1 q1,S.inj hK I w2 q2];exact⟨ex,ey⟩
  ·exact nJ.extBut _ _ n1 (kp _ _ n1 n3 n4 n5 hTI)
  ·have hb':b≠s.heap.objs.size:=by
    simp only[AP,TZ,or_false]at hb
    rcases hb with rfl|rfl|rfl|rfl|rfl
    ·exact lt hz
    ·exact lt hTI
    ·exact lt hTO
    ·obtain⟨o,e,_⟩:=S.obj h1;exact lt e
    ·obtain⟨o,e,_⟩:=S.obj h2;exact lt e
   rw[b8 hb'];exact(hf b hb).1
 done:=by
  intro X hP hw hK hc i pins s J H E I hf st hg;subst hP hw;obtain⟨xs,ys,q1,q2,hend⟩:=hg;obtain⟨hz,hTI,⟨a,b,hTO⟩,h1,h2⟩:=st;obtain⟨us,r1,p1,l1⟩:=S.get hK I q1;obtain⟨vs,r2,p2,l2⟩:=S.get hK I q2;have ne1:∀{b:Ξ},b∈[z,TI,TO,i1,i2]->a1≠b:=λhb=>S.ne hK I (hf _ hb) q1
  have ne2:∀{b:Ξ},b∈[z,TI,TO,i1,i2]->a2≠b:=λhb=>S.ne hK I (hf _ hb) q2
  have D:ZA z TI TO i1 i2 [i1,a1] [i2,a2]:=⟨n1,n2,n3,n4,n5,by simp,by simp,by simp only[AP,TZ,or_false,not_or];exact⟨n8.symm,(ne1 (by simp)).symm⟩,by simp only[AP,TZ,or_false,not_or];exact⟨n9.symm,(ne2 (by simp)).symm⟩,
   by simp only[AP,TZ,or_false,not_or];exact⟨n6,(ne1 (by simp)).symm⟩,by simp only[AP,TZ,or_false,not_or];exact⟨n7,(ne2 (by simp)).symm⟩,
   by simp only[AP,TZ,or_false,not_or];exact⟨uc,(ne2 (by simp)).symm⟩,by simp only[AP,TZ,or_false,not_or];exact⟨uc.symm,(ne1 (by simp)).symm⟩⟩
  have e1:=r1.length;have e2:=r2.length;refine aop D (S.nQ X.A.in1 i1 a1 us.toArray (I.ok.hd hc) (ne1 (by simp))) (S.nQ X.A.in1 i2 a2 vs.toArray (I.ok.hd hc) (ne2 (by simp))) hz hTI hTO (k:=i) ⟨h1,p1⟩ ⟨h2,p2⟩ (by simp only[U1];omega) λh' tk kp=>?_
  refine⟨rfl,I.La (ch:=[z,TO,i1,i2]) (λb hb=>hf b ?_) λc o hcn e=>?_⟩
  ·simp only[AP,TZ,or_false]at hb ⊢
   rcases hb with rfl|rfl|rfl|rfl<;>simp
  ·simp only[AP,TZ,or_false,not_or]at hcn;exact kp c o hcn.1 hcn.2.1 hcn.2.2.1 hcn.2.2.2 e
 self:=λA i s Q E st h=>YZ st.1 h
theorem Lc{P:π}{w:υ}{K:Γ}{Sq:Hp->Ξ->List V->Prop}{lD:τ->Ξ->Ξ->Nat->Prop}{vt:τ->Ξ->Array Δ->Prop}(S:DZ P w K Sq lD vt){k:Nat}{pt:Pos}(a e it:Ξ)(n1:e≠it):
  Turn P w K (.Tuple es k pt) (D7 Sq a) [e,it] e (λi h=>(∃old,IsEnum h e it i old)/\lD h it a i) where
 mem:=by simp
 obj:=λi h st b hb=>by
  obtain⟨⟨old,hz⟩,h1⟩:=st;simp only[AP,TZ,or_false]at hb
  rcases hb with rfl|rfl
  ·exact⟨_,hz,λv q=>nomatch q⟩
  ·exact S.obj h1
 keep:=λi h h' st kp=>by
  obtain⟨⟨old,hz⟩,h1⟩:=st;exact⟨⟨old,kp _ (by simp) _ hz⟩,S.at' h1 λo e=>kp _ (by simp) o e⟩
 item:=by
  intro X hP hw hK hc i pins s J H E I hf st hg;subst hP hw;obtain⟨xs,x,q1,hx⟩:=hg;obtain⟨⟨old,hz⟩,h1⟩:=st;obtain⟨us,r1,p1,l1⟩:=S.get hK I q1;have ne1:∀{b:Ξ},b∈[e,it]->a≠b:=λhb=>S.ne hK I (hf _ hb) q1
  have hx':i<us.toArray.size:=by have:=(U3.mp hx).1;have:=r1.length;simp;omega
  have W:=WalksT.enumerateD (A:=X.A) (S.nQ X.A.in1 it a us.toArray (I.ok.hd hc) (ne1 (by simp))) e n1 (by simp only[AP,TZ,or_false,not_or];exact⟨n1,(ne1 (by simp)).symm⟩) (by simp)
  refine wpAny_pyNext_enum_itemD (S.nQ X.A.in1 it a us.toArray (I.ok.hd hc) (ne1 (by simp))) hz ⟨h1,p1⟩ hx' n1 (by simp only[AP,TZ,or_false,not_or];exact⟨n1,(ne1 (by simp)).symm⟩) λu0 h' tk0 aoj ho0 hs0 hT0 hsz0 hk0=>?_
  have hilt:it<s.heap.objs.size:=by obtain⟨o,e3,_⟩:=S.obj h1;exact IT e3
  have hT:s.heap.objs.size<=s.heap.objs.size:=dD _;have mid:(∃x,IsEnumOut h' e it ((i:Int)+1) x s.heap.objs.size)/\_/\s.heap.objs.size≠e/\s.heap.objs.size≠it:=⟨⟨_,ho0⟩,hs0,Uh (IT hz),Uh hilt⟩;have kp:∀b o,b∉[e,it]->s.heap.get? b=O o->h'.get? b=O o:=λb o hb y=>hk0 b o (λe'=>hb (by simp[e'])) (λe'=>hb (by simp[e'])) y
  refine⟨_,rfl,?_⟩;refine W.go es k pt i s.heap.objs.size {s with heap:=h',toks:=tk0+1} _ _ mid λh'' st'' Qd=>?_
  obtain⟨x',ex,rx⟩:=zC r1 aoj;have lt:∀{c:Ξ}{o:Obj},s.heap.get? c=O o->c≠s.heap.objs.size:=λq=>T3 (IT q)
  have hT2:nX h'' s.heap.objs.size [.int i tk0,u0].toArray:=⟨_,Qd _ _ (W.apart _ _ _ mid) hT0,rfl,⟨_,rfl⟩,rfl⟩;have I2:Inv X pins J (upd H s.heap.objs.size (.tup [.int i,x'])) {s with heap:=h'',toks:=tk0+1}:=by
   refine I.K9 (ch:=[e,it]) (us:=[.int i tk0,u0]) hf (λc o hcn e1=>Qd _ _ hcn (kp c o hcn e1)) hT (λb hb=>?_) (.cons ⟨tk0,rfl⟩ (.cons rx .nil)) (by show 2<=Ω;decide) hT2
   simp only[AP,TZ,or_false]at hb
   rcases hb with rfl|rfl
   ·obtain⟨⟨o2,e2⟩,_⟩:=st'';exact⟨_,e2⟩
   ·obtain⟨_,e2,_⟩:=st'';obtain⟨o,e3,_⟩:=S.obj e2;exact⟨o,e3⟩
  refine⟨.ref s.heap.objs.size,_,I2,rfl,⟨_,x',rfl,I.hok.fresh hT,rfl,λxs' w1=>?_⟩,⟨?_,st''.2.1⟩,λb hb=>?_⟩
  ·rw[S.inj hK I w1 q1];exact ex
  ·obtain⟨⟨o2,e2⟩,_⟩:=st'';exact⟨o2,by simpa using e2⟩
  ·have hb':b≠s.heap.objs.size:=by
    simp only[AP,TZ,or_false]at hb
    rcases hb with rfl|rfl
    ·exact lt hz
    ·obtain⟨o,e3,_⟩:=S.obj h1;exact lt e3
   rw[b8 hb'];exact(hf b hb).1
 done:=by
  intro X hP hw hK hc i pins s J H E I hf st hg;subst hP hw;obtain⟨xs,q1,hend⟩:=hg;obtain⟨⟨old,hz⟩,h1⟩:=st;obtain⟨us,r1,p1,l1⟩:=S.get hK I q1;have ne1:∀{b:Ξ},b∈[e,it]->a≠b:=λhb=>S.ne hK I (hf _ hb) q1
  have W:=WalksT.enumerateD (A:=X.A) (S.nQ X.A.in1 it a us.toArray (I.ok.hd hc) (ne1 (by simp))) e n1 (by simp only[AP,TZ,or_false,not_or];exact⟨n1,(ne1 (by simp)).symm⟩) (by simp)
  have ei:i=us.toArray.size:=by rw[U1,<-r1.length];exact hend
  subst ei;refine W.done s _ _ ⟨⟨old,hz⟩,h1,p1⟩ λh' tk kp=>⟨rfl,I.La (ch:=[e,it]) hf kp⟩
 self:=λA i s Q E st h=>by
  obtain⟨⟨old,hz⟩,h1⟩:=st;exact YY hz h
section
variable {X:Cx}{es':List ν}{kt:Nat}{pt:Pos}
def QF(Sq:Hp->Ξ->List V->Prop)(ta:TA):TI:=λJ H R=>ta J H λvs H1=>∃a b,vs=[.ref a,.ref b]/\(∃xs ys,Sq H1 a xs/\Sq H1 b ys)/\R (D6 Sq a b) H1
def QG(Sq:Hp->Ξ->List V->Prop)(ta:TA):TI:=λJ H R=>ta J H λvs H1=>∃a,vs=[.ref a]/\(∃xs,Sq H1 a xs)/\R (D7 Sq a) H1
theorem zh(I:Inv X pins J H s)(hn:s.heap.objs.size=n):∀b∈[n+4,n+2,n+3,n,n+1],iz X pins H b:=λb hb=>by
 have:s.heap.objs.size<=b:=by
  simp only[AP,TZ,or_false]at hb
  rcases hb with rfl|rfl|rfl|rfl|rfl<;>rw[hn]
  ·exact WV _ _
  ·exact WV _ _
  ·exact WV _ _
  ·exact dD _
  ·exact WV _ _
 exact I.uN this (I.hok.fresh this)
theorem apP{pos:Pos}(hg:Gl X "zip")(hm:X.mg "zip"=Z)(ha:PA X [a,b] ta)(hs:ε [a,b] X.env=[(ξ,eval a X.env),(ξ,eval b X.env)]:=by rfl)(hs2:ε [b] X.env=[(ξ,eval b X.env)]:=by rfl):
  PI X (.Tuple es' kt pt) (.Call (.Name "zip" p) [a,b] [] pos) (QF (cF X.K) ta):=by
 intro pins s J H R I h;refine Call_ (kO I hg hm boot_zip (VV (bJ (ha pos pins s J H _ I h) λus s1 ⟨vs,H1,I1,r1,q1⟩=>?_) (by rw[hs,hs2]) (by rw[hs2];rfl)))
 obtain⟨a1,a2,e,⟨xs,ys,q1,q2⟩,q⟩:=q1;subst e;cases r1 with
 |cons r rr =>
  cases rr with
  |cons r' rr =>
   cases rr;cases r;cases r';obtain⟨us,ru,pu,lu⟩:=I1.tuple q1;obtain⟨vs,rv,pv,lv⟩:=I1.tuple q2;refine ahd pu pv λh' hz hTI hTO t1 t2 kp=>YZ hz ?_
   generalize hn:s1.heap.objs.size=n at hz hTI hTO t1 t2
   have ne:∀{i j:Nat},i≠j->n+i≠n+j:=λh e=>h (XR e)
   have ny:∀{i:Nat},i≠0->n+i≠n:=λh e=>h (XR (e.trans (Vu n).symm))
   refine⟨n+4,_,_,_,H1,rfl,I1.kept (t':=s1.toks) kp,Lb L7 a1 a2 (n+4) (n+2) (n+3) n (n+1) (ne ⋯) (ne ⋯) (ne ⋯) (ny ⋯) (ne ⋯) (ny ⋯) (ne ⋯) (ny ⋯).symm (ne ⋯) (ny ⋯).symm,⟨hz,hTI,⟨_,_,hTO⟩,t1,t2⟩,zh I1 hn,q⟩
theorem apO{pos:Pos}(hg:Gl X "zip")(hm:X.mg "zip"=Z)(ha:PA X [a,b] ta)(hs:ε [a,b] X.env=[(ξ,eval a X.env),(ξ,eval b X.env)]:=by rfl)(hs2:ε [b] X.env=[(ξ,eval b X.env)]:=by rfl):
  PI X (.Tuple es' kt pt) (.Call (.Name "zip" p) [a,b] [] pos) (QF (bQ X.K) ta):=by
 intro pins s J H R I h;refine Call_ (kO I hg hm boot_zip (VV (bJ (ha pos pins s J H _ I h) λus s1 ⟨vs,H1,I1,r1,q1⟩=>?_) (by rw[hs,hs2]) (by rw[hs2];rfl)))
 obtain⟨a1,a2,e,⟨xs,ys,q1,q2⟩,q⟩:=q1;subst e;cases r1 with
 |cons r rr =>
  cases rr with
  |cons r' rr =>
   cases rr;cases r;cases r';obtain⟨us,ru,pu,lu⟩:=I1.list q1;obtain⟨vs,rv,pv,lv⟩:=I1.list q2;refine call_zip_2 pu.isList pv.isList λh' hz hTI hTO t1 t2 _ kp=>YZ hz ?_
   generalize hn:s1.heap.objs.size=n at hz hTI hTO t1 t2
   have ne:∀{i j:Nat},i≠j->n+i≠n+j:=λh e=>h (XR e)
   have ny:∀{i:Nat},i≠0->n+i≠n:=λh e=>h (XR (e.trans (Vu n).symm))
   refine⟨n+4,_,_,_,H1,rfl,I1.kept (t':=s1.toks) kp,Lb L8 a1 a2 (n+4) (n+2) (n+3) n (n+1) (ne ⋯) (ne ⋯) (ne ⋯) (ny ⋯) (ne ⋯) (ny ⋯) (ne ⋯) (ny ⋯).symm (ne ⋯) (ny ⋯).symm,⟨hz,hTI,⟨_,_,hTO⟩,t1,t2⟩,zh I1 hn,q⟩
theorem an5{pos:Pos}(hg:Gl X "enumerate")(hm:X.mg "enumerate"=Z)(ha:PA X [a] ta)(hs:ε [a] X.env=[(ξ,eval a X.env)]:=by rfl):
  PI X (.Tuple es' kt pt) (.Call (.Name "enumerate" p) [a] [] pos) (QG (cF X.K) ta):=by
 intro pins s J H R I h;refine Call_ (kO I hg hm boot_enumerate (VV (bJ (ha pos pins s J H _ I h) λus s1 ⟨vs,H1,I1,r1,q1⟩=>?_) hs rfl))
 obtain⟨a1,e,⟨xs,q1⟩,q⟩:=q1;subst e;cases r1 with
 |cons r rr =>
  cases rr;cases r;obtain⟨us,ru,pu,lu⟩:=I1.tuple q1;refine ahl pu λh' hz t1 _ kp=>YY hz ?_
  generalize hn:s1.heap.objs.size=n at hz t1
  refine⟨n+1,_,_,_,H1,rfl,I1.kept (t':=s1.toks) kp,Lc L7 a1 (n+1) n (Uh (Uu _)),⟨⟨_,hz⟩,t1⟩,λb hb=>?_,q⟩
  refine zh I1 hn b ?_;simp only[AP,TZ,or_false]at hb
  rcases hb with rfl|rfl<;>simp
end
section
variable {X:Cx}
theorem Lf{A:ω}{bs:List Bool}(r:Vals (bs.map V.bl) its):TruthOf X.prog X.w A (λi v=>its.toArray[i]? = O v) (λi=>bs.getD i ξ):=by
 intro i v s Q E hP hQ;obtain⟨x,ex,rx⟩:=zC r hP;rw[U7]at ex;cases e:bs[i]? with
 |none=>rw[e]at ex;cases ex
 |some b =>
  rw[e]at ex;cases ex;cases rx;refine VW ?_;have:bs.getD i ξ=b:=by rw[T7,e];rfl
  have hQ:Q (bs.getD i ξ) s:=hQ
  rwa[this]at hQ
theorem range_all(bs:List Bool):((θ bs.length).all λi=>bs.getD i ξ)=bs.all id:=by
 rw[V6,Iv,Iv]
 constructor
 ·intro h b hb;obtain⟨i,hi,e⟩:=Vi.mp hb;have:=h i (gq.mpr hi);rw[T7,I8 hi]at this;rw[<-e];exact this
 ·intro h i hi;have hi:=gq.mp hi;rw[T7,I8 hi];exact h _ (U6 hi)
theorem range_any(bs:List Bool):((θ bs.length).any λi=>bs.getD i ξ)=bs.any id:=by
 rw[V6,Vh,Vh]
 constructor
 ·rintro ⟨i,hi,h⟩
  have hi:=gq.mp hi;rw[T7,I8 hi]at h;exact⟨_,U6 hi,h⟩
 ·rintro ⟨b,hb,h⟩
  obtain⟨i,hi,e⟩:=Vi.mp hb;refine⟨i,gq.mpr hi,?_⟩;rw[T7,I8 hi,e];exact h
theorem IE{h':τ}(I:Inv X pins J H s)(kp:∀b q,b∉[s.heap.objs.size]->(s.heap.push o).get? b=O q->h'.get? b=O q):Inv X pins J H {s with heap:=h',toks:=tk} :=
 I.kept λb q e=>kp b q (by simp;exact T3 (IT e)) (jn _ e)
theorem ahn(hc:X.calm=G):eU X (.builtin "all") (λxs H Q=>∃(p:Ξ) (bs:List Bool),xs=[.ref p]/\bQ X.K H p (bs.map V.bl)/\Q (.bl (bs.all id)) H):=by
 intro pins s J H xs us Q I r h;obtain⟨p,bs,rfl,hp,q⟩:=h;obtain⟨u,rfl,ru⟩:=Ua r;cases ru;obtain⟨its,rv,pl,hz⟩:=I.list hp;have hL:=pl.isList;refine call_all_walk (WK hL ⟨s.heap.objs.size,_,_,its.toArray.size,_,_,λi=>bs.getD i ξ,rfl,Wo (A:=X.A.in1) (I.ok.hd hc) s.heap.objs.size p (by obtain⟨o,e,_⟩:=hL;exact T3 (IT e)) its.toArray,⟨⟨_,T9 _ rfl,rfl,rfl⟩,hL.push _⟩,Lf rv,λh' tk kp=>?_⟩)
 have hl:=rv.length;rw[T6]at hl;have I1:Inv X pins J H {s with heap:=h',toks:=tk}:=IE I kp
 refine⟨.bl (bs.all id),H,I1,?_,q⟩;show Value.bool _=Value.bool _;rw[U1,<-hl,range_all]
theorem ahm(hc:X.calm=G):eU X (.builtin "any") (λxs H Q=>∃(p:Ξ) (bs:List Bool),xs=[.ref p]/\bQ X.K H p (bs.map V.bl)/\Q (.bl (bs.any id)) H):=by
 intro pins s J H xs us Q I r h;obtain⟨p,bs,rfl,hp,q⟩:=h;obtain⟨u,rfl,ru⟩:=Ua r;cases ru;obtain⟨its,rv,pl,hz⟩:=I.list hp;have hL:=pl.isList;have hpn:p≠s.heap.objs.size:=by obtain⟨o,e,_⟩:=hL;exact T3 (IT e)
 refine call_any_walk (WK hL ⟨s.heap.objs.size,_,_,its.toArray.size,_,_,λi=>bs.getD i ξ,rfl,Wo (A:=X.A.in1) (I.ok.hd hc) s.heap.objs.size p hpn its.toArray,⟨⟨_,T9 _ rfl,rfl,rfl⟩,hL.push _⟩,Lf rv,λh' tk kp=>?_⟩)
 have hl:=rv.length;rw[T6]at hl;have I1:Inv X pins J H {s with heap:=h',toks:=tk}:=IE I kp
 refine⟨.bl (bs.any id),H,I1,?_,q⟩;show Value.bool _=Value.bool _;rw[U1,<-hl,range_any]
def tyName(H:Hp):V->String->Prop
 |.aJ,n=>n="NoneType"
 |.bl _,n=>n="bool"
 |.int _,n=>n="int"
 |.str _,n=>n="str"
 |.ref a,n=>(n="list"/\((∃xs,H a=O (.lst xs))\/∃o xs,H a=O (.dz o (.lst xs))))\/(n="tuple"/\∃xs,H a=O (.tup xs))\/(n="dict"/\((∃k,H a=O (.dK k))\/∃k,H a=O (.dT k)))
 |_,_=>False
theorem akP{K:Γ}{H:Hp}{x:V}{n:String}(h:tyName H x n):jF K H x (.type n):=by
 cases x with
 |aJ=>cases(show n="NoneType" from h);exact .aJ
 |bl b=>cases(show n="bool" from h);exact .bl b
 |int b=>cases(show n="int" from h);exact .int b
 |str b=>cases(show n="str" from h);exact .str b
 |ref a =>
  rcases h with⟨rfl,⟨xs,e⟩|⟨o,xs,e⟩⟩|⟨rfl,xs,e⟩|⟨rfl,⟨k,e⟩|⟨k,e⟩⟩
  ·exact .lst e
  ·exact .dz e
  ·exact .tup e
  ·exact .dK e
  ·exact .dT e
 |_=>exact False.elim h
def vR(n T:String):Bool:=n==T||(n=="bool"&&T=="int")
def adi(n T:String):Option Bool:=if(Value.type n==Value.type T)=G then O G else if PySem.W.kitMeta T=G then(fastBuiltinMro n).map (·.contains (Value.type T))else Z
theorem Qe{K:Γ}{n T:String}(hn:n∈["NoneType","bool","int","str","list","tuple","dict"])(hT:T∈["bool","int","str","list","tuple","dict"]):PySem.W.kitOne K (.type n) (.type T)=O (vR n T):=by
 show adi n T=O (vR n T);simp only[AP,TZ,or_false]at hn hT
 rcases hn with rfl|rfl|rfl|rfl|rfl|rfl|rfl<;>rcases hT with rfl|rfl|rfl|rfl|rfl|rfl<;>decide +kernel
theorem akQ(h:tyName H x n):n∈["NoneType","bool","int","str","list","tuple","dict"]:=by
 cases x with
 |aJ=>cases(show n="NoneType" from h);simp
 |bl b=>cases(show n="bool" from h);simp
 |int b=>cases(show n="int" from h);simp
 |str b=>cases(show n="str" from h);simp
 |ref a=>rcases h with⟨rfl,_⟩|⟨rfl,_⟩|⟨rfl,_⟩<;>simp
 |_=>exact False.elim h
theorem ahk:eU X (.builtin "isinstance") (λxs H Q=>∃x n T,xs=[x,.ty T]/\tyName H x n/\T∈["bool","int","str","list","tuple","dict"]/\Q (.bl (vR n T)) H):=by
 intro pins s J H xs us Q I r h;obtain⟨x,n,T,rfl,hx,hT,q⟩:=h;obtain⟨u,v,rfl,ru,rv⟩:=Vals.two r;cases(show v=Value.type T from rv)
 exact adC I ru (akP hx) (Qe (akQ hx) hT) λtk=>⟨.bl _,H,I.tok tk,rfl,q⟩
end
def af1(ea C:Ξ):τ->Prop:=λh=>∃o,h.get? ea=O o/\o.cls=.ref C
def agh(a:Ξ):τ->Prop:=PySem.W.KitAt a "dict"
structure Def (K:Γ) (mg:Str->Option Δ) (x:Str) (st:χ) (ps:List Str) (f:Ξ) (fd:UH):Prop where
 fn:mS K x x st f fd
 at':mg x=O (.ref f)
 bd:Binds K fd ps []
section
variable {X:Cx}
theorem apn{st:χ}{pos:Pos}(D:Def X.K X.mg x st ps f fd)(Θ:fS X.prog X.w X.K X.mg X.base e9 k f fd ps sp)(hr:c8 k X.A)(ha:PA X (e::es) t)(hg:Gl X x:=by rfl)(hdb:(x==("__debug__":Str))=ξ:=by decide)(he:ε (e::es) X.env=(ξ,eval e X.env)::ε es X.env:=by rfl)(hpl:(U4 pos (ε es X.env)).any (·.1)=ξ:=by rfl):
  PE X (.Call (.Name x p) (e::es) [] pos) (Lx sp [] E0 t):=ao1 Θ hr hg D.at' D.fn.kp D.bd .nil N4 ha hdb he hpl
theorem apy{pos:Pos}(hg:Gl X x)(hm:X.mg x=Z)(hv:bootBuiltins x=O (.type n))(hn:x≠"__name__":=by decide)(hd:(x==("__debug__":Str))=ξ:=by decide):PE X (.Name x pos) (tC (.ty n)):=ao0 hg hm hv rfl hn hd
end
def isStar:ν->Bool
 |.Starred _ _=>G
 |_=>ξ
theorem cO{env:Env}(h:isStar a=ξ):ε (a::es) env=(ξ,eval a env)::ε es env:=by
 cases a<;>first|(cases h;done)|(simp only[ε];done)
def noStar(es:List ν):Bool:=es.all λa=>!isStar a
theorem fB{env:Env}{pos:Pos}(h:noStar es=G):(U4 pos (ε es env)).any (·.1)=ξ:=by
 induction es with
 |nil=>simp only[ε];rfl
 |cons a es ih =>
  have h:(!isStar a&&noStar es)=G:=h;rw[T5]at h;rw[cO (by simpa using h.1)]
  have:=ih h.2
  simpa[U4]using this
theorem oM{env:Env}(h:isStar a=ξ):ε [a] env=[(ξ,eval a env)]:=by
 rw[cO h];simp only[ε]
theorem LM{env:Env}(h:isStar a=ξ)(g:isStar b=ξ):ε [a,b] env=[(ξ,eval a env),(ξ,eval b env)]:=by
 rw[cO h,oM g]
theorem E3{env:Env}{pos:Pos}(h:isStar a=ξ):((U4 pos (ε [a] env)).all (λx=>!x.1)&&(WY pos (Wb [] env)).all (λx=>x.1.isSome)
   && decide ([a].length+([]:List VL).length+(if([]:List VL).isEmpty then 0 else 1)<30))=G:=by
 rw[oM h];simp[U4,WY,Wb]
inductive D where
 |aJ|bl (b:Bool)|int (i:Int)|str (x:Str)|ty (n:String)|tup (l:List D)|lst (l:List D)|ref (k:Nat)|cP (l:List Int)|fn (x:Str) (n:Nat)|exc (x:Str)|jg|dct (ks:List (Int×Int))|lam (k:Nat) (e:ν) (ns:List Str) (l:List D)
inductive Cell where
 |lst (l:List D)
mutual
def noRef:D->Bool
 |.tup l=>bW l
 |.lst l=>bW l
 |.ref _=>ξ
 |.aJ=>G
 |.bl _=>G
 |.int _=>G
 |.str _=>G
 |.ty _=>G
 |.cP _=>G
 |.fn _ _=>G
 |.exc _=>G
 |.jg=>G
 |.dct _=>G
 |.lam _ _ _ _=>ξ
def bW:List D->Bool
 |[]=>G
 |d::l=>noRef d&&bW l
end
mutual
def ff:D->Bool
 |.tup l=>eV l
 |.lst l=>eV l
 |.lam _ _ _ _=>ξ
 |.ref _=>G
 |.aJ=>G
 |.bl _=>G
 |.int _=>G
 |.str _=>G
 |.ty _=>G
 |.cP _=>G
 |.fn _ _=>G
 |.exc _=>G
 |.jg=>G
 |.dct _=>G
def eV:List D->Bool
 |[]=>G
 |d::l=>ff d&&eV l
end
mutual
theorem AG:∀d:D,noRef d=G->ff d=G
 |.tup l,h=>by unfold noRef at h;unfold ff;exact AF l h
 |.lst l,h=>by unfold noRef at h;unfold ff;exact AF l h
 |.lam _ _ _ _,h=>by unfold noRef at h;cases h
 |.ref _,h=>by unfold noRef at h;cases h
 |.aJ,_=>by unfold ff;rfl
 |.bl _,_=>by unfold ff;rfl
 |.int _,_=>by unfold ff;rfl
 |.str _,_=>by unfold ff;rfl
 |.ty _,_=>by unfold ff;rfl
 |.cP _,_=>by unfold ff;rfl
 |.fn _ _,_=>by unfold ff;rfl
 |.exc _,_=>by unfold ff;rfl
 |.jg,_=>by unfold ff;rfl
 |.dct _,_=>by unfold ff;rfl
theorem AF:∀l:List D,bW l=G->eV l=G
 |[],_=>by unfold eV;rfl
 |d::l,h=>by
  unfold bW at h;rw[T5]at h;unfold eV;rw[AG d h.1,AF l h.2];rfl
end
theorem wN:∀{l m:List D},bW (l++m)=(bW l&&bW m)
 |[],m=>by simp[bW]
 |d::l,m=>by simp[bW,wN,Bool.and_assoc]
theorem O7:∀{l:List D}{i:Nat}{d:D},bW l=G->noRef d=G->bW (l.set i d)=G
 |[],i,d,h,g=>h
 |b::l,0,d,h,g=>by simp_all[bW]
 |b::l,i+1,d,h,g=>by
  simp only[bW,T5]at h;simp only[VS,bW,T5];exact⟨h.1,O7 h.2 g⟩
theorem iU:∀{l:List D},bW l=G↔∀d∈l,noRef d=G
 |[]=>by simp[bW]
 |d::l=>by simp[bW,iU]
theorem t8{l:List Int}:bW (l.map D.int)=G:=iU.mpr λd h=>by
 obtain⟨i,_,rfl⟩:=H8.mp h;rfl
inductive R (α:Type) where
 |ok (a:α) (c:List Cell)
 |bad
def R.bind{α β:Type}(r:R α)(f:α->List Cell->R β):R β:=match r with
 |.ok a c=>f a c
 |.bad=>.bad
@[simp] theorem R.aF{α β:Type}{a:α}{f:α->List Cell->R β}:(R.ok a c).bind f=f a c:=rfl
@[simp] theorem R.ako{α β:Type}{f:α->List Cell->R β}:(R.bad:R α).bind f=.bad:=rfl
def rL:List Str:=["greatest_among","web_of","other_web","turned_at","pairs_web","field_web","net_web"]
def A5(x:Str):Str:=x++".<locals>."++"<lambda>"
def sd(c:Ξ)(q:Str):τ->Prop:=λh=>h.CodeRec (.ref c) q
def rK(a:Ξ)(o:Obj):τ->Prop:=λh=>h.get? a=O o
def zc(e:ν)(o:Obj)(q:Str)(c:Ξ)(cl:List (Str×Ξ)):Prop:=match e with
 |.Lambda params body scope _=>∃pm ctv,o=PySem.W.kla_obj "<lambda>" q params body scope cl pm c ctv
 |_=>False
def xT:HO->Bool
 |.cJ _=>G
 |_=>ξ
def jk(H:Hp)(cl:List (Str×Ξ)):List Str->List V->Prop
 |[],xs=>xs=[]
 |x::ns,xs=>∃v r c oc u,xs=v::r/\cl.lookup x=O c/\H c=O (.dz oc (.own 0))/\oc.data=.cell (O u)/\RelV v u/\jk H cl ns r
def zf(cl:List (Str×Ξ))(ns:List Str):Prop:=(∀x y c,cl.lookup x=O c->cl.lookup y=O c->x=y)/\∀x c,cl.lookup x=O c->x∈ns
def TabAt(H:Hp)(P:Ξ)(q:Str):Prop:=∃ps,H P=O (.cJ ps)/\Y8 ps.toList/\∀pos cv,codeAmong pos ps.toList=O cv->∃c,cv=.ref c/\H c=O (.ext (sd c q))
def sH(K:Γ)(H:Hp):Prop:=∀x∈rL,∀c P,PySem.W.tabIn K x=O (c,P)->TabAt H P (A5 x)
theorem jk.mono{cl:List (Str×Ξ)}:∀{ns:List Str}{xs:List V},(∀c o,H c=O (.dz o (.own 0))->H' c=O (.dz o (.own 0)))->jk H cl ns xs->jk H' cl ns xs
 |[],_,_,h=>h
 |x::ns,xs,k,h=>by
  obtain⟨v,r,c,oc,u,e,h0,h1,h2,h3,h4⟩:=h;exact⟨v,r,c,oc,u,e,h0,k _ _ h1,h2,h3,jk.mono k h4⟩
theorem jk.get{cl:List (Str×Ξ)}:∀{ns:List Str}{xs:List V}{i:Nat}{x:Str},jk H cl ns xs->ns[i]? = O x->∃v c oc u,xs[i]? = O v/\cl.lookup x=O c/\H c=O (.dz oc (.own 0))/\oc.data=.cell (O u)/\RelV v u
 |[],_,_,_,_,e=>by cases e
 |_::ns,xs,0,_,h,e=>by
  obtain⟨v,r,c,oc,u,rfl,h0,h1,h2,h3,h4⟩:=h;cases e;exact⟨v,c,oc,u,rfl,h0,h1,h2,h3⟩
 |_::ns,xs,i+1,x,h,e=>by
  obtain⟨v,r,c,oc,u,rfl,h0,h1,h2,h3,h4⟩:=h;exact jk.get (i:=i) h4 e
theorem jk.length{cl:List (Str×Ξ)}:∀{ns:List Str}{xs:List V},jk H cl ns xs->xs.length=ns.length
 |[],xs,h=>by cases(show xs=[]from h);rfl
 |_::ns,xs,h=>by
  obtain⟨v,r,c,oc,u,rfl,h0,h1,h2,h3,h4⟩:=h;simp[jk.length h4]
theorem TabAt.mono{P:Ξ}(h:TabAt H P q)(k1:∀ps,H P=O (.cJ ps)->H' P=O (.cJ ps))(k2:∀c φ,H c=O (.ext φ)->H' c=O (.ext φ)):TabAt H' P q:=by
 obtain⟨ps,h1,h2,h3⟩:=h;exact⟨ps,k1 ps h1,h2,λpos cv e=>let⟨c,e1,e2⟩:=h3 pos cv e;⟨c,e1,k2 _ _ e2⟩⟩
theorem sH.mono{K:Γ}{H H':Hp}(h:sH K H)(k1:∀P ps,H P=O (.cJ ps)->H' P=O (.cJ ps))(k2:∀c φ,H c=O (.ext φ)->H' c=O (.ext φ)):sH K H':=λx hx c P e=>(h x hx c P e).mono (k1 P) k2
def y9(K:Γ)(ρ:List Ξ)(H:Hp)(a:Ξ)(xs:List V):Prop:=(Rd H a (.lst xs)/\a∉ρ)\/bQ K (λ_=>Z) a xs
mutual
def Rel(K:Γ)(ρ:List Ξ)(H:Hp):D->V->Prop
 |.aJ,v=>v=.aJ
 |.bl b,v=>v=.bl b
 |.int i,v=>v=.int i
 |.str x,v=>v=.str x
 |.ty n,v=>v=.ty n
 |.tup l,v=>∃a xs,v=.ref a/\H a=O (.tup xs)/\aR K ρ H l xs
 |.lst l,v=>∃a xs,v=.ref a/\(H a=O (.lst xs)/\a∉ρ)/\aR K ρ H l xs
 |.ref k,v=>∃a,v=.ref a/\ρ[k]? = O a
 |.cP l,v=>∃a,v=.ref a/\y9 K ρ H a (l.map V.int)
 |.fn x n,v=>∃a,v=.ref a/\μ K ι x=O (O (.ref a))
 |.jg,v=>∃a,v=.ref a/\H a=O (.ext (agh a))
 |.dct ks,v=>∃a kvs,v=.ref a/\H a=O (.dT kvs)/\∀p:Int×Int,((kvs.any λkv=>decide (kv.1=[Sum.inl p.1,Sum.inl p.2]))=decide (p∈ks))
 |.exc x,v=>∃a C,v=.ref a/\μ K ι x=O (O (.ref C))/\H a=O (.ext (af1 a C))
 |.lam _ e ns l,v=>∃a o q c cl xs,v=.ref a/\H a=O (.ext (rK a o))/\zc e o q c cl/\H c=O (.ext (sd c q))/\zf cl ns/\jk H cl ns xs/\aR K ρ H l xs
def aR(K:Γ)(ρ:List Ξ)(H:Hp):List D->List V->Prop
 |[],xs=>xs=[]
 |d::l,xs=>∃x r,xs=x::r/\Rel K ρ H d x/\aR K ρ H l r
end
theorem y9.sql{K:Γ}{H:Hp}{a:Ξ}{xs:List V}(h:y9 K ρ H a xs):bQ K H a xs:=by
 rcases h with⟨h,_⟩|(h|h)
 ·exact .inl h
 ·rcases h with h|⟨o,h⟩<;>cases h
 ·exact .inr h
def ais(K:Γ)(ρ:List Ξ)(H:Hp)(a:Ξ):Cell->Prop
 |.lst l=>bW l=G/\∃xs,H a=O (.lst xs)/\aR K ρ H l xs
structure Wd (K:Γ) (ρ:List Ξ) (H:Hp) (c:List Cell):Prop where
 nd:ρ.Nodup
 len:ρ.length=c.length
 gi:∀(k:Nat) (a:Ξ) (cl:Cell),ρ[k]? = O a->c[k]? = O cl->ais K ρ H a cl
 tab:sH K H
structure Ext (ρ:List Ξ) (H:Hp) (ρ':List Ξ) (H':Hp):Prop where
 pre:∀(k:Nat) (a:Ξ),ρ[k]? = O a->ρ'[k]? = O a
 keep:∀a o,H a=O o->a∉ρ->xT o=ξ->H' a=O o/\a∉ρ'
theorem Ext.refl:Ext ρ H ρ H:=⟨λ_ _ h=>h,λ_ _ h n _=>⟨h,n⟩⟩
theorem Ext.trans(x:Ext ρ H aS H1)(y:Ext aS H1 dH H2):Ext ρ H dH H2 :=
 ⟨λk a h=>y.pre k a (x.pre k a h),λa o h n t=>let⟨h1,n1⟩:=x.keep a o h n t;y.keep a o h1 n1 t⟩
section
variable {K:Γ}{ρ ρ':List Ξ}{H H':Hp}{c c':List Cell}
theorem Wd.at'(W:Wd K ρ H c)(h:a∈ρ):∃xs,H a=O (.lst xs):=by
 obtain⟨k,hk,e⟩:=Vi.mp h;have hc:k<c.length:=by rw[<-W.len];exact hk
 have q:=W.gi k a c[k] (by rw[I8 hk,e]) (I8 hc)
 cases hcl:c[k]with
 |lst l=>rw[hcl]at q;obtain⟨_,xs,h,_⟩:=q;exact⟨xs,h⟩
theorem Wd.noT(W:Wd K ρ H c){xs:List V}(h:H a=O (.tup xs)):a∉ρ:=λm=>by
 obtain⟨ys,e⟩:=W.at' m;rw[e]at h;cases h
theorem Wd.nil(W:Wd K ρ H c)(h:H a=Z):a∉ρ:=λm=>by
 obtain⟨ys,e⟩:=W.at' m;rw[e]at h;cases h
theorem vI(W:Wd K ρ H c)(x:Ext ρ H ρ' H'){xs:List V}(h:H a=O (.tup xs)):H' a=O (.tup xs):=(x.keep a _ h (W.noT h) rfl).1
theorem A0(x:Ext ρ H ρ' H'){xs:List V}(h:H a=O (.lst xs)/\a∉ρ):H' a=O (.lst xs)/\a∉ρ':=x.keep a _ h.1 h.2 rfl
theorem LS(x:Ext ρ H ρ' H'){xs:List V}(h:y9 K ρ H a xs):y9 K ρ' H' a xs:=by
 rcases h with⟨h,n⟩|h
 ·rcases h with h|⟨o,h⟩
  ·exact .inl ⟨.inl (x.keep a _ h n rfl).1,(x.keep a _ h n rfl).2⟩
  ·exact .inl ⟨.inr ⟨o,(x.keep a _ h n rfl).1⟩,(x.keep a _ h n rfl).2⟩
 ·exact .inr h
mutual
theorem Rel.mono(W:Wd K ρ H c)(x:Ext ρ H ρ' H'):∀(d:D) (v:V),Rel K ρ H d v->Rel K ρ' H' d v
 |.aJ,v,h=>h
 |.bl b,v,h=>h
 |.int i,v,h=>h
 |.str y,v,h=>h
 |.ty n,v,h=>h
 |.tup l,v,h=>by
  obtain⟨a,xs,e,s,r⟩:=h;exact⟨a,xs,e,vI W x s,aR.mono W x l xs r⟩
 |.lst l,v,h=>by
  obtain⟨a,xs,e,s,r⟩:=h;exact⟨a,xs,e,A0 x s,aR.mono W x l xs r⟩
 |.ref k,v,h=>by
  obtain⟨a,e,s⟩:=h;exact⟨a,e,x.pre k a s⟩
 |.cP l,v,h=>by
  obtain⟨a,e,s⟩:=h;exact⟨a,e,LS x s⟩
 |.fn a n,v,h=>h
 |.jg,v,h=>by
  obtain⟨a,e,q⟩:=h;exact⟨a,e,(x.keep a _ q (λm=>by obtain⟨ys,z⟩:=W.at' m;rw[z]at q;cases q) rfl).1⟩
 |.dct ks,v,h=>by
  obtain⟨a,kvs,e,q,z⟩:=h;exact⟨a,kvs,e,(x.keep a _ q (λm=>by obtain⟨ys,z⟩:=W.at' m;rw[z]at q;cases q) rfl).1,z⟩
 |.exc y,v,h=>by
  obtain⟨a,C,e,n,q⟩:=h;exact⟨a,C,e,n,(x.keep a _ q (λm=>by obtain⟨ys,z⟩:=W.at' m;rw[z]at q;cases q) rfl).1⟩
 |.lam _ y ns l,v,h=>by
  obtain⟨a,o,q,c,cl,xs,e,h1,h2,h3,h4,h5,h6⟩:=h;have nr:∀(b:Ξ) (u:HO),H b=O u->(∀ys,u≠.lst ys)->b∉ρ:=λb u q n m=>by obtain⟨ys,z⟩:=W.at' m;rw[z]at q;exact n ys (U9 q).symm
  exact⟨a,o,q,c,cl,xs,e,(x.keep a _ h1 (nr a _ h1 λ_ z=>nomatch z) rfl).1,h2,(x.keep c _ h3 (nr c _ h3 λ_ z=>nomatch z) rfl).1,h4,h5.mono (λb o z=>(x.keep b _ z (nr b _ z λ_ z=>nomatch z) rfl).1),aR.mono W x l xs h6⟩
theorem aR.mono(W:Wd K ρ H c)(x:Ext ρ H ρ' H'):∀(l:List D) (xs:List V),aR K ρ H l xs->aR K ρ' H' l xs
 |[],xs,h=>h
 |d::l,xs,h=>by
  obtain⟨y,r,e,h1,h2⟩:=h;exact⟨y,r,e,Rel.mono W x d y h1,aR.mono W x l r h2⟩
end
theorem aR.length:∀{l:List D}{xs:List V},aR K ρ H l xs->xs.length=l.length
 |[],xs,h=>by cases(show xs=[]from h);rfl
 |d::l,xs,h=>by
  obtain⟨y,r,rfl,h1,h2⟩:=h;simp only[U0,aR.length h2]
theorem aR.get:∀{l:List D}{xs:List V}{i:Nat}{d:D},aR K ρ H l xs->l[i]? = O d->∃x,xs[i]? = O x/\Rel K ρ H d x
 |[],_,_,_,_,e=>by cases e
 |_::l,_,0,_,h,e=>by
  obtain⟨y,r,rfl,h1,h2⟩:=h;cases e;exact⟨y,rfl,h1⟩
 |_::l,_,i+1,_,h,e=>by
  obtain⟨y,r,rfl,h1,h2⟩:=h;exact aR.get (i:=i) h2 e
theorem aR.append:∀{l m:List D}{xs ys:List V},aR K ρ H l xs->aR K ρ H m ys->aR K ρ H (l++m) (xs++ys)
 |[],m,xs,ys,h,g=>by cases(show xs=[]from h);exact g
 |d::l,m,xs,ys,h,g=>by
  obtain⟨y,r,rfl,h1,h2⟩:=h;exact⟨y,r++ys,rfl,h1,aR.append h2 g⟩
theorem aR.set:∀{l:List D}{xs:List V}{d:D}{x:V}(i:Nat),aR K ρ H l xs->Rel K ρ H d x->aR K ρ H (l.set i d) (xs.set i x)
 |[],xs,d,x,i,h,g=>by cases(show xs=[]from h);exact rfl
 |b::l,xs,d,x,0,h,g=>by
  obtain⟨y,r,rfl,h1,h2⟩:=h;exact⟨x,r,rfl,g,h2⟩
 |b::l,xs,d,x,i+1,h,g=>by
  obtain⟨y,r,rfl,h1,h2⟩:=h;exact⟨y,r.set i x,rfl,h1,aR.set i h2 g⟩
theorem aR.take:∀{l:List D}{xs:List V}(n:Nat),aR K ρ H l xs->aR K ρ H (l.take n) (xs.take n)
 |l,xs,0,h=>by simp only[XQ];exact rfl
 |[],xs,n+1,h=>by cases(show xs=[]from h);exact rfl
 |d::l,xs,n+1,h=>by
  obtain⟨y,r,rfl,h1,h2⟩:=h;exact⟨y,r.take n,rfl,h1,aR.take n h2⟩
theorem aR.drop:∀{l:List D}{xs:List V}(n:Nat),aR K ρ H l xs->aR K ρ H (l.drop n) (xs.drop n)
 |l,xs,0,h=>h
 |[],xs,n+1,h=>by cases(show xs=[]from h);exact rfl
 |d::l,xs,n+1,h=>by
  obtain⟨y,r,rfl,h1,h2⟩:=h;exact aR.drop n h2
theorem aR.ints{l:List Int}:aR K ρ H (l.map D.int) (l.map V.int):=by
 induction l with
 |nil=>exact rfl
 |cons a l ih=>exact⟨_,_,rfl,rfl,ih⟩
theorem aR.GX:∀{l:List Int}{xs:List V},aR K ρ H (l.map D.int) xs->xs=l.map V.int
 |[],xs,h=>h
 |a::l,xs,h=>by
  obtain⟨y,r,rfl,h1,h2⟩:=h;cases(show y=V.int a from h1)
  rw[aR.GX h2];rfl
theorem aR.Ij:∀{l:List Bool}{xs:List V},aR K ρ H (l.map D.bl) xs->xs=l.map V.bl
 |[],xs,h=>h
 |a::l,xs,h=>by
  obtain⟨y,r,rfl,h1,h2⟩:=h;cases(show y=V.bl a from h1)
  rw[aR.Ij h2];rfl
theorem Ext.fresh(W:Wd K ρ H c)(h:H p=Z):Ext ρ H ρ (upd H p o) :=
 ⟨λ_ _ e=>e,λa u e n _=>⟨by rw[b8 (eH e h)];exact e,n⟩⟩
theorem Wd.fresh(W:Wd K ρ H c)(h:H p=Z):Wd K ρ (upd H p o) c :=
 ⟨W.nd,W.len,λk a cl e1 e2=>by
  have q:=W.gi k a cl e1 e2;cases cl with
  |lst l =>
   obtain⟨nr,xs,e,r⟩:=q;exact⟨nr,xs,by rw[b8 (eH e h)];exact e,aR.mono W (Ext.fresh W h) l xs r⟩,
  W.tab.mono (λP ps e=>by rw[b8 (eH e h)];exact e) (λb φ e=>by rw[b8 (eH e h)];exact e)⟩
theorem Ext.cell(W:Wd K ρ H c)(h:H p=Z):Ext ρ H (ρ++[p]) (upd H p o) :=
 ⟨λk a e=>by rw[UZ (U3.mp e).1];exact e,λa u e n _=>⟨by rw[b8 (eH e h)];exact e,by
  rw[US]
  rintro (z|z)
  ·exact n z
  ·exact eH e h (by simpa using z)⟩⟩
theorem Wd.cell{xs:List V}(W:Wd K ρ H c)(h:H p=Z)(nr:bW l=G)(r:aR K ρ H l xs):Wd K (ρ++[p]) (upd H p (.lst xs)) (c++[.lst l]):=by
 have X:=Ext.cell (o:=.lst xs) W h;refine⟨?_,by simp[W.len],λk a cl e1 e2=>?_,W.tab.mono (λP ps e=>by rw[b8 (eH e h)];exact e) (λb φ e=>by rw[b8 (eH e h)];exact e)⟩
 ·rw[WU];refine⟨W.nd,by simp,?_⟩
  intro a ha b hb;rw[UT]at hb;subst hb;exact λz=>W.nil h (z▸ha)
 ·by_cases hk:k<c.length
  ·rw[UZ hk]at e2;rw[UZ (by rw[W.len];exact hk)]at e1
   have q:=W.gi k a cl e1 e2;cases cl with
   |lst l' =>
    obtain⟨t7,ys,e,r'⟩:=q;exact⟨t7,ys,by rw[b8 (eH e h)];exact e,aR.mono W X l' ys r'⟩
  ·have hk':k=c.length:=by
    have:=(U3.mp e2).1;simp at this;omega
   subst hk';rw[Um (dD _),Vg]at e2;rw[Um (by rw[W.len];exact dD _),W.len,Vg]at e1
   cases e1;cases e2;exact⟨nr,xs,fG,aR.mono W X l xs r⟩
theorem Ext.write{k:Nat}(h:ρ[k]? = O p):Ext ρ H ρ (upd H p o) :=
 ⟨λ_ _ e=>e,λa u e n _=>⟨by rw[b8 (λz=>n (by rw[z];exact UD h))];exact e,n⟩⟩
theorem Wd.write{xs:List V}(W:Wd K ρ H c)(h:ρ[k]? = O p)(nr:bW l=G)(r:aR K ρ H l xs):Wd K ρ (upd H p (.lst xs)) (c.set k (.lst l)):=by
 have X:=Ext.write (H:=H) (o:=.lst xs) h;obtain⟨ys,hy⟩:=W.at' (UD h);refine⟨W.nd,by simp[W.len],λj a cl e1 e2=>?_,W.tab.mono (λP ps e=>by rw[b8 (Pe e hy λz=>nomatch z)];exact e) (λb φ e=>by rw[b8 (Pe e hy λz=>nomatch z)];exact e)⟩
 by_cases hj:j=k
 ·subst hj;rw[h]at e1;cases e1;have hl:j<c.length:=by rw[<-W.len];exact(U3.mp h).1
  rw[Ux hl]at e2;cases e2;exact⟨nr,xs,fG,aR.mono W X l xs r⟩
 ·rw[Ue (Uo hj)]at e2;have q:=W.gi j a cl e1 e2;have hap:a≠p:=by
   intro e;subst e;have h1:=(U3.mp h);have h2:=(U3.mp e1);exact hj ((Xf W.nd (h₀:=h2.1) (h₁:=h1.1)).mp (h2.2.trans h1.2.symm))
  cases cl with
  |lst l' =>
   obtain⟨t7,ys,e,r'⟩:=q;exact⟨t7,ys,by rw[b8 hap];exact e,aR.mono W X l' ys r'⟩
mutual
theorem Rel.low(h:∀a,a∈ρ'->a∈ρ):∀(d:D) (v:V),noRef d=G->Rel K ρ H d v->Rel K ρ' H d v
 |.aJ,v,_,r=>r
 |.bl b,v,_,r=>r
 |.int i,v,_,r=>r
 |.str y,v,_,r=>r
 |.ty n,v,_,r=>r
 |.tup l,v,n,r=>by
  obtain⟨a,xs,e,s,r⟩:=r;exact⟨a,xs,e,s,aR.low h l xs n r⟩
 |.lst l,v,n,r=>by
  obtain⟨a,xs,e,s,r⟩:=r;exact⟨a,xs,e,⟨s.1,λq=>s.2 (h a q)⟩,aR.low h l xs n r⟩
 |.ref k,v,n,r=>by cases n
 |.cP l,v,n,r=>by
  obtain⟨a,e,s⟩:=r;refine⟨a,e,?_⟩
  rcases s with⟨s,z⟩|s
  ·exact .inl ⟨s,λq=>z (h a q)⟩
  ·exact .inr s
 |.fn a m,v,n,r=>r
 |.exc y,v,n,r=>r
 |.jg,v,n,r=>r
 |.dct _,v,n,r=>r
 |.lam _ _ _ _,v,n,r=>by cases n
theorem aR.low(h:∀a,a∈ρ'->a∈ρ):∀(l:List D) (xs:List V),bW l=G->aR K ρ H l xs->aR K ρ' H l xs
 |[],xs,_,r=>r
 |d::l,xs,n,r=>by
  obtain⟨y,ys,e,h1,h2⟩:=r;have n:(noRef d&&bW l)=G:=n;rw[T5]at n;exact⟨y,ys,e,Rel.low h d y n.1 h1,aR.low h l ys n.2 h2⟩
end
theorem Wd.cut(W:Wd K ρ H c)(hn:n<=c.length):Wd K (ρ.take n) H (c.take n):=by
 refine⟨W.nd.sublist (ZK _ _),by simp[W.len],λk a cl e1 e2=>?_,W.tab⟩
 rw[Wn]at e1 e2;split at e1
 ·rename_i hk;rw[if_pos hk]at e2;have q:=W.gi k a cl e1 e2;cases cl with
  |lst l =>
   obtain⟨nr,xs,e,r⟩:=q;exact⟨nr,xs,e,aR.low (λa h=>UO h) l xs nr r⟩
 ·cases e1
theorem Ext.cut(x:Ext ρ H ρ' H')(hn:ρ.length<=n):Ext ρ H (ρ'.take n) H' :=
 ⟨λk a e=>by rw[Wn,if_pos (TY (U3.mp e).1 hn)];exact x.pre k a e,λa o e z t=>let⟨h1,h2⟩:=x.keep a o e z t;⟨h1,λq=>h2 (UO q)⟩⟩
theorem Ext.len(W:Wd K ρ H c)(W':Wd K ρ' H' c')(x:Ext ρ H ρ' H'):c.length<=c'.length:=by
 rw[<-W.len,<-W'.len]
 by_cases h:ρ.length<=ρ'.length
 ·exact h
 ·exfalso;have e:=x.pre ρ'.length ρ[ρ'.length] (I8 _);rw[VR (dD _)]at e;cases e
end
abbrev Ev:=List (Option D)
def post{α β:Type}(K:Γ)(Rl:List Ξ->Hp->α->β->Prop)(r:R α)(ρ:List Ξ)(H:Hp)(Q:β->Hp->Prop):Prop:=match r with
 |.ok a c=>∀ρ' H' b,Wd K ρ' H' c->Ext ρ H ρ' H'->Rl ρ' H' a b->Q b H'
 |.bad=>False
structure eL (K:Γ) (ρ:List Ξ) (H:Hp) (e:Ev) (J:St):Prop where
 get:∀(i:Nat) (d:D),e[i]? = O (O d)->∃v,J[i]? = O (O v)/\Rel K ρ H d v
 len:e.length=J.length
def tD{α β:Type}(K:Γ)(Rl:List Ξ->Hp->α->β->Prop)(d:Ev->List Cell->R α):St->Hp->(β->Hp->Prop)->Prop :=
 λJ H Q=>∃ρ e c,Wd K ρ H c/\eL K ρ H e J/\post K Rl (d e c) ρ H Q
section
variable {α β γ δ:Type}{K:Γ}{ρ ρ':List Ξ}{H H':Hp}{c:List Cell}{e:Ev}{J:St}{Rl:List Ξ->Hp->α->β->Prop}{Rm:List Ξ->Hp->γ->δ->Prop}
theorem eL.mono(V:eL K ρ H e J)(W:Wd K ρ H c)(x:Ext ρ H ρ' H'):eL K ρ' H' e J :=
 ⟨λi d h=>let⟨v,h1,h2⟩:=V.get i d h;⟨v,h1,Rel.mono W x d v h2⟩,V.len⟩
theorem eL.set(V:eL K ρ H e J)(r:Rel K ρ H d v)(i:Nat):eL K ρ H (e.set i (O d)) (J.set i (O v)):=by
 refine⟨λj b h=>?_,by simp[V.len]⟩
 by_cases hj:j=i
 ·subst hj;have hl:j<e.length:=by
   have:=(U3.mp h).1
   simpa using this
  rw[Ux hl]at h;cases h;exact⟨v,by rw[Ux (by rw[<-V.len];exact hl)],r⟩
 ·rw[Ue (Uo hj)]at h ⊢;exact V.get j b h
theorem post.ext{Q:β->Hp->Prop}(p:post K Rl r ρ H Q)(x:Ext ρ H ρ' H'):post K Rl r ρ' H' Q:=by
 cases r with
 |ok a c=>exact λdH H2 b W y r=>p dH H2 b W (x.trans y) r
 |bad=>exact p
theorem post.bind{r:R α}{f:α->List Cell->R γ}{Q:δ->Hp->Prop}{S:β->Hp->Prop}(p:post K Rm (r.bind f) ρ H Q)
  (h:∀a c1 ρ' H' b,r=.ok a c1->Wd K ρ' H' c1->Ext ρ H ρ' H'->Rl ρ' H' a b->post K Rm (f a c1) ρ' H' Q->S b H'):post K Rl r ρ H S:=by
 cases r with
 |ok a c1=>exact λρ' H' b W x r=>h a c1 ρ' H' b rfl W x r (post.ext p x)
 |bad=>exact p
theorem post.here{Q:β->Hp->Prop}(p:post K Rl (.ok a c) ρ H Q)(W:Wd K ρ H c)(r:Rl ρ H a b):Q b H:=p ρ H b W Ext.refl r
end
abbrev bu(X:Cx)(e:ν)(d:Ev->List Cell->R D):Prop:=PE X e (tD X.K (Rel X.K) d)
abbrev jj(X:Cx)(e:ν)(d:Ev->List Cell->R Bool):Prop:=PT X e (tD X.K (λ_ _ a b=>a=b) d)
abbrev vp(X:Cx)(e:ν)(d:Ev->List Cell->R Bool):Prop:=PW X e (tD X.K (λ_ _ a b=>a=b) d)
abbrev e7(X:Cx)(es:List ν)(d:Ev->List Cell->R (List D)):Prop:=PA X es (tD X.K (aR X.K) d)
section
variable {X:Cx}{e:ν}{es:List ν}{st:χ}{sts:List χ}
theorem PE.imp(h:PE X e t)(i:∀J H Q,t' J H Q->t J H Q):PE X e t':=λpins s J H Q I q=>h pins s J H Q I (i _ _ _ q)
theorem PT.imp(h:PT X e t)(i:∀J H Q,t' J H Q->t J H Q):PT X e t':=λpins s J H Q I q=>h pins s J H Q I (i _ _ _ q)
theorem PW.imp(h:PW X e t)(i:∀J H Q,t' J H Q->t J H Q):PW X e t':=λwh pins s J H Q I q=>h wh pins s J H Q I (i _ _ _ q)
theorem PA.imp(h:PA X es t)(i:∀J H Q,t' J H Q->t J H Q):PA X es t':=λpos pins s J H Q I q=>h pos pins s J H Q I (i _ _ _ q)
theorem PS.imp(h:PS X st t)(i:∀D J H,t' D J H->t D J H):PS X st t':=λpins s J H D I q=>h pins s J H D I (i _ _ _ q)
theorem gX.imp(h:gX X sts t)(i:∀D J H,t' D J H->t D J H):gX X sts t':=λpins s J H D I q=>h pins s J H D I (i _ _ _ q)
end
def ak(i:Nat):Ev->List Cell->R D:=λe c=>match e[i]? with
 |some (O d)=>.ok d c
 |_=>.bad
def dC(d:D):Ev->List Cell->R D:=λ_ c=>.ok d c
section
variable {X:Cx}
theorem aq(i:Nat){pos:Pos}(hN:X.N[i]? = O x:=by rfl)(hv:yY X.env.scope x:=by first|exact Or.inl rfl|exact Or.inr (Or.inl rfl)|exact Or.inr (Or.inr rfl))(hd:(x==("__debug__":Str))=ξ:=by decide)(hcd:(x==("__classdict__":Str))=ξ:=by decide):bu X (.Name x pos) (ak i):=(FW hN hv hd hcd).imp λJ H Q h=>by
 obtain⟨ρ,e,c,W,V,p⟩:=h;unfold ak at p;cases q:e[i]? with
 |none=>rw[q]at p;exact p.elim
 |some o =>
  rw[q]at p;cases o with
  |none=>exact p.elim
  |some d =>
   obtain⟨v,hv,r⟩:=V.get i d q;exact⟨v,hv,p.here W r⟩
theorem qS(h:PE X e (tC v))(r:∀ρ H,Rel X.K ρ H d v):bu X e (dC d):=h.imp λJ H Q h=>by
 obtain⟨ρ,e,c,W,V,p⟩:=h;exact post.here (r:=r ρ H) p W
theorem aE{i j pos}:bu X (.Constant (.int i) j pos) (dC (.int i)):=qS NW λ_ _=>rfl
theorem iE{b j pos}:bu X (.Constant (.bool b) j pos) (dC (.bl b)):=qS anZ λ_ _=>rfl
theorem er{j pos}:bu X (.Constant .none j pos) (dC .aJ):=qS apr λ_ _=>rfl
theorem iQ{x j pos}:bu X (.Constant (.str x) j pos) (dC (.str x)):=qS apw λ_ _=>rfl
theorem qR{pos:Pos}(hg:Gl X x)(hm:X.mg x=Z)(hv:bootBuiltins x=O (.type n))(hn:x≠"__name__":=by decide)(hd:(x==("__debug__":Str))=ξ:=by decide):bu X (.Name x pos) (dC (.ty n)):=qS (apy hg hm hv hn hd) λ_ _=>rfl
theorem pq{pos:Pos}(hg:Gl X x)(hm:X.mg x=O (.int i t))(hd:(x==("__debug__":Str))=ξ:=by decide):bu X (.Name x pos) (dC (.int i)):=qS (Ad (v:=.int i) hg hm ⟨t,rfl⟩ hd) λ_ _=>rfl
end
end L2
namespace L2
open PySem PySem.Spec PyProof.Rows
def au(f:D->D->List Cell->R D)(a b:Ev->List Cell->R D):Ev->List Cell->R D:=λe c=>(a e c).bind λx c=>(b e c).bind λy c=>f x y c
def mD(f:D->List Cell->R D)(a:Ev->List Cell->R D):Ev->List Cell->R D:=λe c=>(a e c).bind λx c=>f x c
def r2(K:Γ)(f:D->D->List Cell->R D):R2:=λv u H Q=>∃ρ x y c,Wd K ρ H c/\Rel K ρ H x v/\Rel K ρ H y u/\post K (Rel K) (f x y c) ρ H Q
def r1(K:Γ)(f:D->List Cell->R D):V->Hp->VK->Prop:=λv H Q=>∃ρ x c,Wd K ρ H c/\Rel K ρ H x v/\post K (Rel K) (f x c) ρ H Q
def rN(K:Γ)(f:List D->List Cell->R D):List V->Hp->VK->Prop:=λvs H Q=>∃ρ xs c,Wd K ρ H c/\aR K ρ H xs vs/\post K (Rel K) (f xs c) ρ H Q
def aO(f:List D->List Cell->R D)(a:Ev->List Cell->R (List D)):Ev->List Cell->R D:=λe c=>(a e c).bind λxs c=>f xs c
section
variable {X:Cx}{a b:ν}{da db dd:Ev->List Cell->R D}{pos:Pos}{K:Γ}{J:St}{H:Hp}{Q:VK}{f:D->D->List Cell->R D}
theorem zI(h:tD K (Rel K) (au f da db) J H Q):tD K (Rel K) da J H λv H1=>tD K (Rel K) db J H1 λu H2=>r2 K f v u H2 Q:=by
 obtain⟨ρ,e,c,W,V,p⟩:=h;refine⟨ρ,e,c,W,V,post.bind p λx c1 aS H1 v _ W1 X1 r1 p1=>⟨aS,e,c1,W1,V.mono W X1,post.bind p1 λy c2 dH H2 u _ W2 X2 r2 p2=>⟨dH,x,y,c2,W2,Rel.mono W1 X2 _ _ r1,r2,p2⟩⟩⟩
theorem alJ{g:D->List Cell->R D}(h:tD K (Rel K) (mD g da) J H Q):tD K (Rel K) da J H λv H1=>r1 K g v H1 Q:=by
 obtain⟨ρ,e,c,W,V,p⟩:=h;exact⟨ρ,e,c,W,V,post.bind p λx c1 aS H1 v _ W1 X1 r1 p1=>⟨aS,x,c1,W1,r1,p1⟩⟩
theorem Lr{g:List D->List Cell->R D}{ds:Ev->List Cell->R (List D)}(h:tD K (Rel K) (aO g ds) J H Q):tD K (aR K) ds J H λvs H1=>rN K g vs H1 Q:=by
 obtain⟨ρ,e,c,W,V,p⟩:=h;exact⟨ρ,e,c,W,V,post.bind p λx c1 aS H1 v _ W1 X1 r1 p1=>⟨aS,x,c1,W1,r1,p1⟩⟩
theorem aH(ho:bX X (binaryOp op) (r2 X.K f))(ha:bu X a da)(hb:bu X b db):bu X (.BinOp a op b pos) (au f da db):=(NU ho ha hb).imp λJ H Q h=>zI h
theorem iR(ho:bX X (compareOp op) (r2 X.K f))(ha:bu X a da)(hb:bu X b db)(hm:behindInMarks op b=ξ:=by first|exact O1 _|rfl):bu X (.Compare a [op] [b] pos) (au f da db):=(aoB ho ha hb hm).imp λJ H Q h=>zI h
theorem anW{g:D->List Cell->R D}(ho:yZ X (unaryOp op) (r1 X.K g))(ha:bu X a da):bu X (.UnaryOp op a pos) (mD g da):=(apz ho ha).imp λJ H Q h=>alJ h
theorem aV(hr:vq X (r2 X.K f))(ha:bu X a da)(hb:bu X b db)(hs:J9 b:=by exact λ_ _=>rfl):bu X (.Subscript a b pos) (au f da db):=(FY hr ha hb hs).imp λJ H Q h=>zI h
def r8(f g:D->D->List Cell->R D)(a b d:Ev->List Cell->R D):Ev->List Cell->R D:=λe c=>(a e c).bind λx c=>(b e c).bind λy c=>(f x y c).bind λz c=>match z with
 |.bl G=>(d e c).bind λu c=>g y u c
 |.bl ξ=>.ok (.bl ξ) c
 |_=>.bad
end
def av:Ev->List Cell->R (List D):=λ_ c=>.ok [] c
def ao(a:Ev->List Cell->R D)(r:Ev->List Cell->R (List D)):Ev->List Cell->R (List D):=λe c=>(a e c).bind λx c=>(r e c).bind λxs c=>.ok (x::xs) c
def ck(a:Ev->List Cell->R (List D)):Ev->List Cell->R D:=λe c=>(a e c).bind λxs c=>if xs.length<=Ω then .ok (.tup xs) c else .bad
def cE(a:Ev->List Cell->R (List D)):Ev->List Cell->R D:=λe c=>(a e c).bind λxs c=>if xs.length<=Ω then .ok (.lst xs) c else .bad
def fj(a:Ev->List Cell->R (List D)):Ev->List Cell->R D:=λe c=>(a e c).bind λxs c=>if xs.length<=Ω/\bW xs=G then .ok (.ref c.length) (c++[.lst xs])else .bad
section
variable {X:Cx}{a:ν}{es:List ν}{da:Ev->List Cell->R D}{ds:Ev->List Cell->R (List D)}{pos:Pos}{K:Γ}{ρ:List Ξ}{H:Hp}{c:List Cell}{Q:VK}{xs:List D}{vs:List V}
theorem az:e7 X [] av:=kI.imp λJ H Q h=>by
 obtain⟨ρ,e,c,W,V,p⟩:=h;exact post.here p W rfl
theorem ay(ha:bu X a da)(hr:e7 X es ds)(hs:ε (a::es) X.env=(ξ,eval a X.env)::ε es X.env:=by exact cO rfl):e7 X (a::es) (ao da ds):=(jU ha hr hs).imp λJ H Q h=>by
 obtain⟨ρ,e,c,W,V,p⟩:=h;exact⟨ρ,e,c,W,V,post.bind p λx c1 aS H1 v _ W1 X1 r1 p1=>⟨aS,e,c1,W1,V.mono W X1,post.bind p1 λy c2 dH H2 u _ W2 X2 r2 p2=>p2.here W2 ⟨v,u,rfl,Rel.mono W1 X2 _ _ r1,r2⟩⟩⟩
theorem Gj(W:Wd K ρ H c)(r:aR K ρ H xs vs)(p:post K (Rel K) (.ok (.tup xs) c) ρ H Q):∀q,H q=Z->Q (.ref q) (upd H q (.tup vs)):=λq hq =>
 p ρ _ _ (W.fresh hq) (Ext.fresh W hq) ⟨q,vs,rfl,fG,aR.mono W (Ext.fresh W hq) _ _ r⟩
theorem qW(W:Wd K ρ H c)(r:aR K ρ H xs vs)(p:post K (Rel K) (.ok (.lst xs) c) ρ H Q):∀q,H q=Z->Q (.ref q) (upd H q (.lst vs)):=λq hq =>
 p ρ _ _ (W.fresh hq) (Ext.fresh W hq) ⟨q,vs,rfl,⟨fG,W.nil hq⟩,aR.mono W (Ext.fresh W hq) _ _ r⟩
theorem Gk(W:Wd K ρ H c)(nr:bW xs=G)(r:aR K ρ H xs vs)(p:post K (Rel K) (.ok (.ref c.length) (c++[.lst xs])) ρ H Q):∀q,H q=Z->Q (.ref q) (upd H q (.lst vs)):=λq hq =>
 p _ _ _ (W.cell hq nr r) (Ext.cell W hq) ⟨q,rfl,by rw[Um (by rw[W.len];exact dD _),W.len,Vg];rfl⟩
theorem fc{x1}(h:e7 X es ds):bu X (.Tuple es x1 pos) (ck ds):=(apx h).imp λJ H Q h=>by
 obtain⟨ρ,e,c,W,V,p⟩:=h;refine⟨ρ,e,c,W,V,post.bind p λx c1 aS H1 v _ W1 X1 r1 p1=>?_⟩
 split at p1
 ·rename_i hl;exact⟨by rw[r1.length];exact hl,Gj W1 r1 p1⟩
 ·exact p1.elim
theorem fW(h:e7 X es ds):bu X (.List es pos) (cE ds):=(NV h).imp λJ H Q h=>by
 obtain⟨ρ,e,c,W,V,p⟩:=h;refine⟨ρ,e,c,W,V,post.bind p λx c1 aS H1 v _ W1 X1 r1 p1=>?_⟩
 split at p1
 ·rename_i hl;exact⟨by rw[r1.length];exact hl,qW W1 r1 p1⟩
 ·exact p1.elim
theorem jT(h:e7 X es ds):bu X (.List es pos) (fj ds):=(NV h).imp λJ H Q h=>by
 obtain⟨ρ,e,c,W,V,p⟩:=h;refine⟨ρ,e,c,W,V,post.bind p λx c1 aS H1 v _ W1 X1 r1 p1=>?_⟩
 split at p1
 ·rename_i hl;exact⟨by rw[r1.length];exact hl.1,Gk W1 hl.2 r1 p1⟩
 ·exact p1.elim
end
def aZ:D->D->List Cell->R D:=λx y c=>match x,y with
 |.int i,.int j=>.ok (.int (i+j)) c
 |.str a,.str b=>if a.length+b.length<=Ω then .ok (.str (a++b)) c else .bad
 |.tup l,.tup m=>if l.length≠0/\l.length+m.length<=Ω then .ok (.tup (l++m)) c else .bad
 |_,_=>.bad
def bO:D->D->List Cell->R D:=λx y c=>match x,y with
 |.int i,.int j=>.ok (.int (i-j)) c
 |_,_=>.bad
def aT:D->D->List Cell->R D:=λx y c=>match x,y with
 |.int i,.int j=>if(-(2^64)<i/\i<2^64)\/(-(2^64)<j/\j<2^64)then .ok (.int (i*j)) c else .bad
 |_,_=>.bad
def fu:D->D->List Cell->R D:=λx y c=>match x,y with
 |.int i,.int j=>if 0<j/\j<1073741824 then .ok (.int (i/j)) c else .bad
 |_,_=>.bad
def bZ:D->D->List Cell->R D:=λx y c=>match x,y with
 |.int i,.int j=>if 0<j then .ok (.int (i % j)) c else .bad
 |_,_=>.bad
def tQ:D->D->List Cell->R D:=λx y c=>match x,y with
 |.int i,.int j=>if 0<=j/\j<=1000000/\i.natAbs<2^64 then .ok (.int (i^j.toNat)) c else .bad
 |_,_=>.bad
def wO:D->List Cell->R D:=λx c=>match x with
 |.int i=>.ok (.int (-i)) c
 |_=>.bad
def se(p:Int->Int->Bool):D->D->List Cell->R D:=λx y c=>match x,y with
 |.int i,.int j=>.ok (.bl (p i j)) c
 |_,_=>.bad
section
variable {X:Cx}
theorem cG:bX X (binaryOp .Add) (r2 X.K aZ):=by
 intro pins s J H v u vv uu Q I rv ru h;obtain⟨ρ,x,y,c,W,rx,ry,p⟩:=h;unfold aZ at p;split at p
 ·cases rx;cases ry;exact aaP pins s J H _ _ vv uu Q I rv ru ⟨_,_,rfl,rfl,p.here W rfl⟩
 ·split at p
  ·rename_i hl;cases rx;cases ry;exact aaO pins s J H _ _ vv uu Q I rv ru ⟨_,_,rfl,rfl,hl,p.here W rfl⟩
  ·exact p.elim
 ·split at p
  ·rename_i hl;obtain⟨a,xs,rfl,sa,ra⟩:=rx;obtain⟨b,ys,rfl,sb,rb⟩:=ry;refine aaL pins s J H _ _ vv uu Q I rv ru ⟨a,b,xs,ys,rfl,rfl,cF.of sa,cF.of sb,λz=>hl.1 ?_,by rw[ra.length,rb.length];exact hl.2,λz=>?_,λ_=>Gj W (ra.append rb) p⟩
   ·rw[<-ra.length,z];rfl
   ·refine p.here W ⟨a,xs++ys,rfl,by rw[z,VI];exact sa,ra.append rb⟩
  ·exact p.elim
 ·exact p.elim
theorem cQ:bX X (binaryOp .Sub) (r2 X.K bO):=by
 intro pins s J H v u vv uu Q I rv ru h;obtain⟨ρ,x,y,c,W,rx,ry,p⟩:=h;unfold bO at p;split at p
 ·cases rx;cases ry;exact aax pins s J H _ _ vv uu Q I rv ru ⟨_,_,rfl,rfl,p.here W rfl⟩
 ·exact p.elim
theorem cH:bX X (binaryOp .Mult) (r2 X.K aT):=by
 intro pins s J H v u vv uu Q I rv ru h;obtain⟨ρ,x,y,c,W,rx,ry,p⟩:=h;unfold aT at p;split at p
 ·split at p
  ·rename_i hl;cases rx;cases ry;exact aaC pins s J H _ _ vv uu Q I rv ru ⟨_,_,rfl,rfl,hl,p.here W rfl⟩
  ·exact p.elim
 ·exact p.elim
theorem jX:bX X (binaryOp .FloorDiv) (r2 X.K fu):=by
 intro pins s J H v u vv uu Q I rv ru h;obtain⟨ρ,x,y,c,W,rx,ry,p⟩:=h;unfold fu at p;split at p
 ·split at p
  ·rename_i hl;cases rx;cases ry;exact aaJ pins s J H _ _ vv uu Q I rv ru ⟨_,_,rfl,rfl,hl,p.here W rfl⟩
  ·exact p.elim
 ·exact p.elim
theorem gD:bX X (binaryOp .Mod) (r2 X.K bZ):=by
 intro pins s J H v u vv uu Q I rv ru h;obtain⟨ρ,x,y,c,W,rx,ry,p⟩:=h;unfold bZ at p;split at p
 ·split at p
  ·rename_i hl;cases rx;cases ry;exact aaD pins s J H _ _ vv uu Q I rv ru ⟨_,_,rfl,rfl,hl,p.here W rfl⟩
  ·exact p.elim
 ·exact p.elim
theorem OJ:bX X (binaryOp .Pow) (r2 X.K tQ):=by
 intro pins s J H v u vv uu Q I rv ru h;obtain⟨ρ,x,y,c,W,rx,ry,p⟩:=h;unfold tQ at p;split at p
 ·split at p
  ·rename_i hl;cases rx;cases ry;exact aaz pins s J H _ _ vv uu Q I rv ru ⟨_,_,rfl,rfl,hl,p.here W rfl⟩
  ·exact p.elim
 ·exact p.elim
theorem abU:yZ X (unaryOp .USub) (r1 X.K wO):=by
 intro pins s J H v vv Q I rv h;obtain⟨ρ,x,c,W,rx,p⟩:=h;unfold wO at p;split at p
 ·cases rx;exact akM pins s J H _ vv Q I rv ⟨_,rfl,p.here W rfl⟩
 ·exact p.elim
theorem Az{f:Δ->Δ->Sem Δ}{q:Int->Int->Bool}(h:bX X f (lU λi j=>.bl (q i j))):bX X f (r2 X.K (se q)):=by
 intro pins s J H v u vv uu Q I rv ru hh;obtain⟨ρ,x,y,c,W,rx,ry,p⟩:=hh;unfold se at p;split at p
 ·cases rx;cases ry;exact h pins s J H _ _ vv uu Q I rv ru ⟨_,_,rfl,rfl,p.here W rfl⟩
 ·exact p.elim
abbrev jy:=se λi j=>decide (i<j)
abbrev rJ:=se λi j=>decide (i<=j)
abbrev jf:=se λi j=>decide (j<i)
abbrev Rv:=se λi j=>decide (j<=i)
theorem tX:bX X (compareOp .Lt) (r2 X.K jy):=Az aaE
theorem Ay:bX X (compareOp .LtE) (r2 X.K rJ):=Az aaF
theorem qU:bX X (compareOp .Gt) (r2 X.K jf):=Az aaH
theorem abS:bX X (compareOp .GtE) (r2 X.K Rv):=Az aaI
end
def HN:D->D->Option Bool
 |.aJ,.aJ=>O G|.aJ,.int _=>O ξ|.int _,.aJ=>O ξ|.aJ,.bl _=>O ξ|.bl _,.aJ=>O ξ|.aJ,.str _=>O ξ|.str _,.aJ=>O ξ
 |.int i,.int j=>O (decide (i=j))|.bl a,.bl b=>O (decide (a=b))|.str x,.str y=>O (decide (x=y))
 |.int _,.str _=>O ξ|.str _,.int _=>O ξ|.bl _,.str _=>O ξ|.str _,.bl _=>O ξ
 |_,_=>Z
def cB:D->D->List Cell->R D:=λx y c=>match HN x y with
 |some b=>.ok (.bl b) c
 |none=>.bad
def cS:D->D->List Cell->R D:=λx y c=>match HN x y with
 |some b=>.ok (.bl (!b)) c
 |none=>.bad
def fD:D->Bool
 |.aJ=>G
 |_=>ξ
def kP:D->D->List Cell->R D:=λx y c=>match y with
 |.aJ=>.ok (.bl (fD x)) c
 |_=>.bad
def jA:D->D->List Cell->R D:=λx y c=>match y with
 |.aJ=>.ok (.bl (!fD x)) c
 |_=>.bad
section
variable {X:Cx}{K:Γ}{ρ:List Ξ}{H:Hp}{c:List Cell}
theorem R6(rx:Rel K ρ H x v)(ry:Rel K ρ H y u)(h:HN x y=O b):Fo v u=G/\decide (v=u)=b:=by
 cases x<;>cases y<;>first
  |(cases rx;cases ry;cases h;refine⟨rfl,?_⟩;simp;done)
  |(cases h;done)
theorem gR:bX X (compareOp .Eq) (r2 X.K cB):=by
 intro pins s J H v u vv uu Q I rv ru h;obtain⟨ρ,x,y,c,W,rx,ry,p⟩:=h;unfold cB at p;split at p
 ·rename_i b hb;obtain⟨h1,h2⟩:=R6 rx ry hb;exact aaK pins s J H _ _ vv uu Q I rv ru ⟨h1,by rw[h2];exact p.here W rfl⟩
 ·exact p.elim
theorem gQ:bX X (compareOp .NotEq) (r2 X.K cS):=by
 intro pins s J H v u vv uu Q I rv ru h;obtain⟨ρ,x,y,c,W,rx,ry,p⟩:=h;unfold cS at p;split at p
 ·rename_i b hb;obtain⟨h1,h2⟩:=R6 rx ry hb;exact aaB pins s J H _ _ vv uu Q I rv ru ⟨h1,by rw[h2];exact p.here W rfl⟩
 ·exact p.elim
theorem Qw(rx:Rel K ρ H x v):decide (v=.aJ)=fD x:=by
 cases x<;>first
  |(cases rx;rfl;done)
  |(cases rx;simp[fD];done)
  |(obtain⟨a,xs,rfl,_⟩:=rx;simp[fD];done)
  |(obtain⟨a,rfl,_⟩:=rx;simp[fD];done)
  |(obtain⟨a,o,q,c,cl,xs,rfl,_⟩:=rx;simp[fD];done)
theorem pA:bX X (compareOp .Is) (r2 X.K kP):=by
 intro pins s J H v u vv uu Q I rv ru h;obtain⟨ρ,x,y,c,W,rx,ry,p⟩:=h;unfold kP at p;split at p
 ·cases ry;exact aaG pins s J H _ _ vv uu Q I rv ru ⟨rfl,by rw[Qw rx];exact p.here W rfl⟩
 ·exact p.elim
theorem tY:bX X (compareOp .IsNot) (r2 X.K jA):=by
 intro pins s J H v u vv uu Q I rv ru h;obtain⟨ρ,x,y,c,W,rx,ry,p⟩:=h;unfold jA at p;split at p
 ·cases ry;exact aaA pins s J H _ _ vv uu Q I rv ru ⟨rfl,by rw[Qw rx];exact p.here W rfl⟩
 ·exact p.elim
theorem aag{da db dd:Ev->List Cell->R D}{pos:Pos}{f g:D->D->List Cell->R D}(ho:bX X (compareOp op) (r2 X.K f))(ho':bX X (compareOp op') (r2 X.K g))(ha:bu X a da)(hb:bu X b db)(hd:bu X d dd)(h1:lastMarks [op,op'] [b,d]=ξ:=by with_unfolding_all rfl):
  bu X (.Compare a [op,op'] [b,d] pos) (r8 f g da db dd):=(aoA ho ho' ha hb hd h1).imp λJ H Q h=>by
 obtain⟨ρ,e,c,W,V,p⟩:=h;refine⟨ρ,e,c,W,V,post.bind p λx c1 aS H1 v _ W1 X1 r1 p1=>⟨aS,e,c1,W1,V.mono W X1,post.bind p1 λy c2 dH H2 u _ W2 X2 r2 p2=>⟨dH,x,y,c2,W2,Rel.mono W1 X2 _ _ r1,r2,post.bind p2 λz c3 qx H3 w _ W3 X3 r3 p3=>?_⟩⟩⟩
 have V3:=(V.mono W X1).mono W1 (X2.trans X3);cases z with
 |bl k =>
  cases r3;refine⟨k,rfl,?_⟩;cases k with
  |true =>
   refine nG ⟨qx,e,c3,W3,V3,post.bind p3 λt c4 qw H4 w4 _ W4 X4 r4 p4=>⟨qw,y,t,c4,W4,Rel.mono W2 (X3.trans X4) _ _ r2,r4,p4⟩⟩
  |false=>exact nH (p3.here W3 rfl)
 |_=>exact p3.elim
end
def fU(c:List Cell):D->Option (List D)
 |.tup l=>O l
 |.lst l=>O l
 |.cP l=>O (l.map D.int)
 |.ref k=>match c[k]? with
  |some (.lst l)=>O l
  |none=>Z
 |_=>Z
def aD:D->D->List Cell->R D:=λx y c=>match y with
 |.int i=>match fU c x with
  |some l=>match dB l i with
   |some d=>.ok d c
   |none=>.bad
  |none=>.bad
 |_=>.bad
section
variable {X:Cx}{K:Γ}{ρ:List Ξ}{H:Hp}{c:List Cell}
theorem Fi(W:Wd K ρ H c)(rx:Rel K ρ H x v)(h:fU c x=O l):∃a xs,v=.ref a/\(bQ K H a xs\/cF K H a xs)/\aR K ρ H l xs:=by
 cases x with
 |tup m =>
  cases h;obtain⟨a,xs,e,s,r⟩:=rx;exact⟨a,xs,e,.inr (cF.of s),r⟩
 |lst m =>
  cases h;obtain⟨a,xs,e,s,r⟩:=rx;exact⟨a,xs,e,.inl (bQ.of s.1),r⟩
 |cP m =>
  cases h;obtain⟨a,e,s⟩:=rx;exact⟨a,_,e,.inl s.sql,aR.ints⟩
 |ref k =>
  obtain⟨a,e,s⟩:=rx;unfold fU at h;dsimp only at h;cases hc:c[k]? with
  |none=>rw[hc]at h;cases h
  |some cl =>
   cases cl with
   |lst m =>
    rw[hc]at h;cases h;obtain⟨_,xs,hx,r⟩:=W.gi k a _ s hc;exact⟨a,xs,e,.inl (bQ.of hx),r⟩
 |_=>cases h
theorem ahH{xs:List V}(r:aR K ρ H l xs)(h:dB l i=O d):∃v,dB xs i=O v/\Rel K ρ H d v:=by
 unfold dB at h ⊢;rw[r.length];cases e:gu l.length i with
 |none=>rw[e]at h;cases h
 |some j =>
  rw[e]at h;exact r.get h
theorem aW:vq X (r2 X.K aD):=by
 intro value slice pins s J H v u vv uu Q I rv ru h hs;obtain⟨ρ,x,y,c,W,rx,ry,p⟩:=h;unfold aD at p;split at p
 ·split at p
  ·rename_i l hl;split at p
   ·rename_i d hd;cases ry;obtain⟨a,xs,rfl,sq,r⟩:=Fi W rx hl;obtain⟨w,hw,rw'⟩:=ahH r hd
    rcases sq with sq|sq
    ·exact adv value slice pins s J H _ _ vv uu Q I rv ru ⟨a,xs,_,w,rfl,rfl,sq,hw,p.here W rw'⟩ hs
    ·exact Qm value slice pins s J H _ _ vv uu Q I rv ru ⟨a,xs,_,w,rfl,rfl,sq,hw,p.here W rw'⟩ hs
   ·exact p.elim
  ·exact p.elim
 ·exact p.elim
end
def qA(c:List Cell):D->Option Bool
 |.aJ=>O ξ
 |.bl b=>O b
 |.int i=>O (i != 0)
 |.tup l=>O (!l.isEmpty)
 |.lst l=>O (!l.isEmpty)
 |.ref k=>match c[k]? with
  |some (.lst l)=>O (!l.isEmpty)
  |none=>Z
 |_=>Z
def yp(a:Ev->List Cell->R D):Ev->List Cell->R Bool:=λe c=>(a e c).bind λx c=>match qA c x with
 |some b=>.ok b c
 |none=>.bad
def aN(a:Ev->List Cell->R D):Ev->List Cell->R Bool:=λe c=>(a e c).bind λx c=>match x with
 |.bl b=>.ok b c
 |_=>.bad
def jh(a b:Ev->List Cell->R Bool):Ev->List Cell->R Bool:=λe c=>(a e c).bind λx c=>if x=G then b e c else .ok ξ c
def fy(a b:Ev->List Cell->R Bool):Ev->List Cell->R Bool:=λe c=>(a e c).bind λx c=>if x=G then .ok G c else b e c
def dG(a:Ev->List Cell->R Bool):Ev->List Cell->R Bool:=λe c=>(a e c).bind λx c=>.ok (!x) c
def gG(a b:Ev->List Cell->R D):Ev->List Cell->R D:=λe c=>(a e c).bind λx c=>match x with
 |.bl k=>if k=G then b e c else .ok (.bl ξ) c
 |_=>.bad
def HW(a:Ev->List Cell->R D):Ev->List Cell->R D:=λe c=>(a e c).bind λx c=>match x with
 |.bl k=>.ok (.bl (!k)) c
 |_=>.bad
def qc(t:Ev->List Cell->R Bool)(a b:Ev->List Cell->R D):Ev->List Cell->R D:=λe c=>(t e c).bind λx c=>if x=G then a e c else b e c
section
variable {X:Cx}{a b c':ν}{da db:Ev->List Cell->R D}{ta tb:Ev->List Cell->R Bool}{pos:Pos}{rest:List ν}
theorem al1{K:Γ}{H:Hp}{v:V}{k:Bool}(W:Wd K ρ H c)(rx:Rel K ρ H x v)(h:qA c x=O k):J4 K v H k:=by
 have emp:∀{l:List D}{xs:List V},aR K ρ H l xs->l.isEmpty=xs.isEmpty:=fun{l xs} r=>by
  have:=r.length;cases l<;>cases xs<;>simp_all
 cases x with
 |aJ=>cases rx;cases h;exact rfl
 |bl b=>cases rx;cases h;exact rfl
 |int i=>cases rx;cases h;exact rfl
 |tup l =>
  obtain⟨a,xs,rfl,s,r⟩:=rx;cases h;exact .inr (.inl ⟨xs,cF.of s,by rw[emp r]⟩)
 |lst l =>
  obtain⟨a,xs,rfl,s,r⟩:=rx;cases h;exact .inl ⟨xs,bQ.of s.1,by rw[emp r]⟩
 |ref j =>
  obtain⟨a,rfl,s⟩:=rx;unfold qA at h;dsimp only at h;cases hc:c[j]? with
  |none=>rw[hc]at h;cases h
  |some cl =>
   cases cl with
   |lst m =>
    rw[hc]at h;cases h;obtain⟨_,xs,hx,r⟩:=W.gi j a _ s hc;exact .inl ⟨xs,bQ.of hx,by rw[emp r]⟩
 |_=>cases h
theorem NX(ha:bu X a da)(he:∀whole,isTrue a X.env whole=(do let v <-whole;standAt a.pos;holding [v] (truthy v)):=by intro _;rfl):jj X a (yp da):=(aoh ha he).imp λJ H Q h=>by
 obtain⟨ρ,e,c,W,V,p⟩:=h;refine⟨ρ,e,c,W,V,post.bind p λx c1 aS H1 v _ W1 X1 r1 p1=>?_⟩
 split at p1
 ·rename_i k hk;exact⟨k,al1 W1 r1 hk,p1.here W1 rfl⟩
 ·exact p1.elim
theorem Il(h:tD X.K (λ_ _ a b=>a=b) (aN da) J H Q):tD X.K (Rel X.K) da J H λx H'=>∃k,x=.bl k/\Q k H':=by
 obtain⟨ρ,e,c,W,V,p⟩:=h;refine⟨ρ,e,c,W,V,post.bind p λx c1 aS H1 v _ W1 X1 r1 p1=>?_⟩
 cases x with
 |bl k=>cases r1;exact⟨k,rfl,p1.here W1 rfl⟩
 |_=>exact p1.elim
theorem fP(ha:bu X a da)(he:∀whole,isTrue a X.env whole=(do let v <-whole;standAt a.pos;holding [v] (truthy v)):=by intro _;rfl):jj X a (aN da):=(aoi ha he).imp λJ H Q h=>Il h
theorem cy{f:D->D->List Cell->R D}(ho:bX X (compareOp op) (r2 X.K f))(ha:bu X a da)(hb:bu X b db)(hm:behindInMarks op b=ξ:=by first|exact O1 _|rfl):jj X (.Compare a [op] [b] pos) (aN (au f da db)) :=
 (aof ho ha hb hm).imp λJ H Q h=>zI (Il h)
theorem N3{dd:Ev->List Cell->R D}{f g:D->D->List Cell->R D}(ho:bX X (compareOp op) (r2 X.K f))(ho':bX X (compareOp op') (r2 X.K g))(ha:bu X a da)(hb:bu X b db)(hd:bu X d dd)(h1:lastMarks [op,op'] [b,d]=ξ:=by with_unfolding_all rfl):jj X (.Compare a [op,op'] [b,d] pos) (aN (r8 f g da db dd)):=(aoe ho ho' ha hb hd h1).imp λJ H Q h=>by
 obtain⟨ρ,e,c,W,V,p⟩:=Il h;refine⟨ρ,e,c,W,V,post.bind p λx c1 aS H1 v _ W1 X1 r1 p1=>⟨aS,e,c1,W1,V.mono W X1,post.bind p1 λy c2 dH H2 u _ W2 X2 r2 p2=>⟨dH,x,y,c2,W2,Rel.mono W1 X2 _ _ r1,r2,post.bind p2 λz c3 qx H3 w _ W3 X3 r3 p3=>?_⟩⟩⟩
 have V3:=(V.mono W X1).mono W1 (X2.trans X3);cases z with
 |bl k =>
  cases r3;refine⟨k,rfl,?_⟩;cases k with
  |true =>
   refine nG ⟨qx,e,c3,W3,V3,post.bind p3 λt c4 qw H4 w4 _ W4 X4 r4 p4=>⟨qw,y,t,c4,W4,Rel.mono W2 (X3.trans X4) _ _ r2,r4,p4⟩⟩
  |false=>exact nH (p3.here W3 rfl)
 |_=>exact p3.elim
theorem Ai(ha:jj X a ta):vp X (.BoolOp .And [a] pos) ta:=aom ha
theorem lW(ha:jj X a ta):vp X (.BoolOp .Or [a] pos) ta:=aoo ha
theorem Ah(ha:jj X a ta)(hb:vp X (.BoolOp .And (b::rest) pos) tb):vp X (.BoolOp .And (a::b::rest) pos) (jh ta tb):=(aol ha hb).imp λJ H Q h=>by
 obtain⟨ρ,e,c,W,V,p⟩:=h;refine⟨ρ,e,c,W,V,post.bind p λx c1 aS H1 v _ W1 X1 r1 p1=>?_⟩
 cases r1;cases x with
 |true=>exact nG ⟨aS,e,c1,W1,V.mono W X1,p1⟩
 |false=>exact nH (post.here p1 W1 rfl)
theorem jv(ha:jj X a ta)(hb:vp X (.BoolOp .Or (b::rest) pos) tb):vp X (.BoolOp .Or (a::b::rest) pos) (fy ta tb):=(aon ha hb).imp λJ H Q h=>by
 obtain⟨ρ,e,c,W,V,p⟩:=h;refine⟨ρ,e,c,W,V,post.bind p λx c1 aS H1 v _ W1 X1 r1 p1=>?_⟩
 cases r1;cases x with
 |true=>exact nG (post.here p1 W1 rfl)
 |false=>exact nH ⟨aS,e,c1,W1,V.mono W X1,p1⟩
theorem fV(ha:jj X a ta):jj X (.UnaryOp .Not a pos) (dG ta):=(aog ha).imp λJ H Q h=>by
 obtain⟨ρ,e,c,W,V,p⟩:=h;refine⟨ρ,e,c,W,V,post.bind p λx c1 aS H1 v _ W1 X1 r1 p1=>?_⟩
 cases r1;exact p1.here W1 rfl
theorem ng{op}(h:bu X a da):bu X (.BoolOp op [a] pos) da:=apt h
theorem ni(ha:bu X a da)(hb:bu X (.BoolOp .And (b::rest) pos) db):bu X (.BoolOp .And (a::b::rest) pos) (gG da db):=(anY ha hb).imp λJ H Q h=>by
 obtain⟨ρ,e,c,W,V,p⟩:=h;refine⟨ρ,e,c,W,V,post.bind p λx c1 aS H1 v _ W1 X1 r1 p1=>?_⟩
 cases x with
 |bl k =>
  cases r1;refine⟨k,rfl,?_⟩;cases k with
  |true=>exact nG ⟨aS,e,c1,W1,V.mono W X1,p1⟩
  |false=>exact nH (post.here p1 W1 rfl)
 |_=>exact p1.elim
theorem anV(ha:bu X a da):bu X (.UnaryOp .Not a pos) (HW da):=(aps ha).imp λJ H Q h=>by
 obtain⟨ρ,e,c,W,V,p⟩:=h;refine⟨ρ,e,c,W,V,post.bind p λx c1 aS H1 v _ W1 X1 r1 p1=>?_⟩
 cases x with
 |bl k=>cases r1;exact⟨k,rfl,p1.here W1 rfl⟩
 |_=>exact p1.elim
theorem tS(ht:jj X c' ta)(ha:bu X a da)(hb:bu X b db):bu X (.IfExp c' a b pos) (qc ta da db):=(apo ht ha hb).imp λJ H Q h=>by
 obtain⟨ρ,e,c,W,V,p⟩:=h;refine⟨ρ,e,c,W,V,post.bind p λx c1 aS H1 v _ W1 X1 r1 p1=>?_⟩
 cases r1;cases x with
 |true=>exact nG ⟨aS,e,c1,W1,V.mono W X1,p1⟩
 |false=>exact nH ⟨aS,e,c1,W1,V.mono W X1,p1⟩
end
inductive Fl where
 |nx (e:Ev)|rt (d:D)|bk (e:Ev)|ct (e:Ev)
abbrev aa:=List Cell
abbrev af:=Ev->List Cell->R D
abbrev ah:=Ev->List Cell->R Fl
abbrev ai:=Ev->List Cell->R Bool
abbrev aj:=Ev->List Cell->R (List D)
inductive FV where
 |nx (J:St)|rt (v:V)|bk (J:St)|ct (J:St)
def sI(K:Γ)(ρ:List Ξ)(H:Hp):Fl->FV->Prop
 |.nx e,f=>∃J,f=.nx J/\eL K ρ H e J
 |.rt d,f=>∃v,f=.rt v/\Rel K ρ H d v
 |.bk e,f=>∃J,f=.bk J/\eL K ρ H e J
 |.ct e,f=>∃J,f=.ct J/\eL K ρ H e J
def En(η:Ends):FV->Hp->Prop
 |.nx J,H=>η.nx J H
 |.rt v,H=>η.rt v H
 |.bk J,H=>η.bk J H
 |.ct J,H=>η.ct J H
def Lu(K:Γ)(d:ah):TS:=λη J H=>tD K (sI K) d J H (En η)
abbrev kq(X:Cx)(st:χ)(d:ah):Prop:=PS X st (Lu X.K d)
abbrev bB(X:Cx)(st:List χ)(d:ah):Prop:=gX X st (Lu X.K d)
def bA:ah:=λe c=>.ok (.nx e) c
def aC(a b:ah):ah:=λe c=>(a e c).bind λf c=>match f with
 |.nx e=>b e c
 |f=>.ok f c
def aK(a:af):ah:=λe c=>(a e c).bind λx c=>.ok (.rt x) c
def dw(a:af):ah:=λe c=>(a e c).bind λ_ c=>.ok (.nx e) c
def bz(t:ai)(a b:ah):ah:=λe c=>(t e c).bind λx c=>if x=G then a e c else b e c
def aG(i:Nat)(a:af):ah:=λe c=>(a e c).bind λx c=>.ok (.nx (e.set i (O x))) c
def ja:ah:=λ_ _=>.bad
section
variable {X:Cx}{st:χ}{rest:List χ}{t u:ah}{e:ν}{da:af}{pos:Pos}
theorem cD:bB X [] bA:=aoc.imp λη J H h=>by
 obtain⟨ρ,e,c,W,V,p⟩:=h;exact p.here W ⟨J,rfl,V⟩
theorem aL(h1:kq X st t)(h2:bB X rest u):bB X (st::rest) (aC t u):=(aob h1 h2).imp λη J H h=>by
 obtain⟨ρ,e,c,W,V,p⟩:=h;refine⟨ρ,e,c,W,V,post.bind p λf c1 aS H1 b _ W1 X1 r1 p1=>?_⟩
 cases f with
 |nx e1=>obtain⟨σ1,rfl,V1⟩:=r1;exact⟨aS,e1,c1,W1,V1,p1⟩
 |rt d=>obtain⟨v,rfl,V1⟩:=r1;exact post.here (Q:=En η) (show post X.K _ (.ok _ c1) aS H1 _ from p1) W1 ⟨_,rfl,V1⟩
 |bk e1=>obtain⟨σ1,rfl,V1⟩:=r1;exact post.here (Q:=En η) (show post X.K (sI X.K) _ aS H1 _ from p1) W1 ⟨_,rfl,V1⟩
 |ct e1=>obtain⟨σ1,rfl,V1⟩:=r1;exact post.here (Q:=En η) (show post X.K (sI X.K) _ aS H1 _ from p1) W1 ⟨_,rfl,V1⟩
theorem aM(h1:kq X st t):bB X [st] t:=aod h1
theorem oQ:kq X st ja:=λ_ _ _ _ _ _ h=>by
 obtain⟨ρ,e,c,W,V,p⟩:=h;exact p.elim
theorem aU(he:bu X e da):kq X (.Return (O e) pos) (aK da):=(aeu he).imp λη J H h=>by
 obtain⟨ρ,e,c,W,V,p⟩:=h;refine⟨ρ,e,c,W,V,post.bind p λx c1 aS H1 v _ W1 X1 r1 p1=>p1.here W1 ⟨v,rfl,r1⟩⟩
theorem gZ(he:bu X e da)(hs:swapsWith e Z pos.line X.env=pure ξ:=by rfl):kq X (.Expr e pos) (dw da):=(aeE he hs).imp λη J H h=>by
 obtain⟨ρ,e,c,W,V,p⟩:=h;refine⟨ρ,e,c,W,V,post.bind p λx c1 aS H1 v _ W1 X1 r1 p1=>p1.here W1 ⟨J,rfl,V.mono W X1⟩⟩
theorem cz(hc:jj X c' tc)(ha:bB X a t)(hb:bB X b u):kq X (.If c' a b pos) (bz tc t u):=(aee hc ha hb).imp λη J H h=>by
 obtain⟨ρ,e,c,W,V,p⟩:=h;refine⟨ρ,e,c,W,V,post.bind p λx c1 aS H1 v _ W1 X1 r1 p1=>?_⟩
 cases r1;cases x with
 |true=>exact nG ⟨aS,e,c1,W1,V.mono W X1,p1⟩
 |false=>exact nH ⟨aS,e,c1,W1,V.mono W X1,p1⟩
theorem lS{pos':Pos}(he:bu X e da)(hN:X.N.Nodup:=by decide +kernel)(hi:X.N[i]? = O x:=by rfl)(hx:Loc X.env.scope x:=by first|exact Or.inl rfl|exact Or.inr rfl)(hs:swapsWith e (O (.Name x pos')) pos.line X.env=pure ξ:=by rfl)(hf:X.fn x=G\/X.env.scope.names.lookup x=O .local:=by first|exact .inl rfl|exact .inr rfl):kq X (.Assign [.Name x pos'] e pos) (aG i da):=(anA hN hi hx he hs).imp λη J H h=>by
 obtain⟨ρ,e,c,W,V,p⟩:=h;refine⟨ρ,e,c,W,V,post.bind p λx c1 aS H1 v _ W1 X1 r1 p1=>p1.here W1 ⟨_,rfl,(V.mono W X1).set r1 i⟩⟩
end
abbrev Gd:=D->Ev->aa->R Ev
def zK(K:Γ)(g:Gd):TG:=λv J H Q=>∃ρ x e c,Wd K ρ H c/\eL K ρ H e J/\Rel K ρ H x v/\post K (λρ H e J=>eL K ρ H e J) (g x e c) ρ H Q
def acd(K:Γ)(g:List D->Ev->aa->R Ev):nY:=λvs J H Q=>∃ρ xs e c,Wd K ρ H c/\eL K ρ H e J/\aR K ρ H xs vs/\post K (λρ H e J=>eL K ρ H e J) (g xs e c) ρ H Q
abbrev mP(X:Cx)(e:ν)(g:Gd):Prop:=PG X e (zK X.K g)
abbrev D4(X:Cx)(es:List ν)(g:List D->Ev->aa->R Ev):Prop:=qq X es (acd X.K g)
def aA(i:Nat):Gd:=λx e c=>.ok (e.set i (O x)) c
def eT:List D->Ev->aa->R Ev:=λxs e c=>match xs with
 |[]=>.ok e c
 |_=>.bad
def bR(g:Gd)(r:List D->Ev->aa->R Ev):List D->Ev->aa->R Ev:=λxs e c=>match xs with
 |x::xs=>(g x e c).bind λe c=>r xs e c
 |_=>.bad
def dU(n:Nat)(g:List D->Ev->aa->R Ev):Gd:=λx e c=>match x with
 |.tup l=>if l.length=n then g l e c else .bad
 |_=>.bad
theorem PG.imp(h:PG X e t)(i:∀v J H Q,t' v J H Q->t v J H Q):PG X e t':=λpins s J H x u Q I r q=>h pins s J H x u Q I r (i _ _ _ _ q)
theorem qq.imp(h:qq X es t)(i:∀v J H Q,t' v J H Q->t v J H Q):qq X es t':=λpins s J H x u Q I r q=>h pins s J H x u Q I r (i _ _ _ _ q)
section
variable {X:Cx}{pos:Pos}
theorem gE(hN:X.N.Nodup:=by decide +kernel)(hi:X.N[i]? = O x:=by rfl)(hx:Loc X.env.scope x:=by first|exact Or.inl rfl|exact Or.inr rfl)(hf:X.fn x=G\/X.env.scope.names.lookup x=O .local:=by first|exact .inl rfl|exact .inr rfl):mP X (.Name x pos) (aA i) :=
 (aej hN hi hx hf).imp λv J H Q h=>by
  obtain⟨ρ,x,e,c,W,V,r,p⟩:=h;exact p.here W (V.set r i)
theorem j8:D4 X [] eT:=an3.imp λv J H Q h=>by
 obtain⟨ρ,xs,e,c,W,V,r,p⟩:=h;cases xs with
 |nil=>exact⟨r,p.here W V⟩
 |cons x xs=>exact p.elim
theorem eW{u:List D->Ev->aa->R Ev}(h1:mP X e g)(h2:D4 X es u)(hs:(assignEach (e::es) X.env).map (·.2)=assign e X.env::(assignEach es X.env).map (·.2):=by rfl):D4 X (e::es) (bR g u) :=
 (an2 h1 h2 hs).imp λv J H Q h=>by
  obtain⟨ρ,xs,e,c,W,V,r,p⟩:=h;cases xs with
  |nil=>exact p.elim
  |cons x xs =>
   obtain⟨y,ys,rfl,rx,rs⟩:=r;exact⟨y,ys,rfl,ρ,x,e,c,W,V,rx,post.bind p λe1 c1 aS H1 σ1 _ W1 X1 V1 p1=>⟨aS,xs,e1,c1,W1,V1,aR.mono W X1 _ _ rs,p1⟩⟩
theorem j9{g:List D->Ev->aa->R Ev}(h:D4 X es g)(hc:X.calm=G:=by rfl)(hn:(assignEach es X.env).length=n:=by rfl)(hst:(assignEach es X.env).findIdx? (·.1)=Z:=by rfl):mP X (.Tuple es k pos) (dU n g) :=
 (an1 hc h hn hst).imp λv J H Q h=>by
  obtain⟨ρ,x,e,c,W,V,r,p⟩:=h;cases x with
  |tup l =>
   obtain⟨a,xs,rfl,s,rs⟩:=r;unfold dU at p;dsimp only at p;split at p
   ·rename_i hl;exact⟨a,xs,rfl,cF.of s,rs.length.trans hl,ρ,l,e,c,W,V,rs,p⟩
   ·exact p.elim
  |_=>exact p.elim
def g8(a:af)(g:Gd):ah:=λe c=>(a e c).bind λx c=>(g x e c).bind λe c=>.ok (.nx e) c
theorem oR(he:bu X e da)(hg:mP X tg g)(hs:swapsWithSole [tg] e pos.line X.env=pure ξ:=by rfl)(hw:swappedStores [tg] e X.env=pure Z:=by rfl)(h1:(assignEach [tg] X.env).map (·.2)=[assign tg X.env]:=by rfl):kq X (.Assign [tg] e pos) (g8 da g):=(aeD he hg hs hw h1).imp λη J H h=>by
 obtain⟨ρ,e,c,W,V,p⟩:=h;refine⟨ρ,e,c,W,V,post.bind p λx c1 aS H1 v _ W1 X1 r1 p1=>⟨aS,x,e,c1,W1,V.mono W X1,r1,post.bind p1 λe2 c2 dH H2 σ2 _ W2 X2 V2 p2=>p2.here W2 ⟨σ2,rfl,V2⟩⟩⟩
def m7:D->D->D->aa->R Unit:=λo i v c=>match o,i with
 |.ref k,.int i=>match c[k]? with
  |some (.lst l)=>match gu l.length i with
   |some j=>if noRef v=G then .ok () (c.set k (.lst (l.set j v)))else .bad
   |none=>.bad
  |none=>.bad
 |_,_=>.bad
def nL(o i:af):Gd:=λx e c=>(o e c).bind λo c=>(i e c).bind λi c=>(m7 o i x c).bind λ_ c=>.ok e c
theorem Bv(ho:bu X o dO)(hi:bu X i di)(ha:∀v,assign (.Subscript o i pos) X.env v=(do
   let ov <-holding [v] (eval o X.env)
   let iv <-holding [v,ov] (eval i X.env)
   standAt pos
   holding [v,ov,iv] (setItem ov iv v)
   release [v,ov,iv] []):=by intro _;rfl):mP X (.Subscript o i pos) (nL dO di):=(an0 ho hi set_list ha).imp λv J H Q h=>by
 obtain⟨ρ,x,e,c,W,V,rx,p⟩:=h;refine⟨ρ,e,c,W,V,post.bind p λo c1 aS H1 ov _ W1 X1 r1 p1=>⟨aS,e,c1,W1,V.mono W X1,post.bind p1 λi c2 dH H2 iv _ W2 X2 r2 p2=>?_⟩⟩
 have V2:=(V.mono W X1).mono W1 X2;have am4:=Rel.mono W (X1.trans X2) _ _ rx;have ro:=Rel.mono W1 X2 _ _ r1;unfold m7 at p2;split at p2
 ·rename_i k i _ _;split at p2
  ·rename_i l hl;split at p2
   ·rename_i j hj;split at p2
    ·rename_i hv;obtain⟨a,rfl,ha⟩:=ro;cases r2;obtain⟨nr,ys,hy,rl⟩:=W2.gi k a _ ha hl;refine⟨a,ys,i,j,rfl,rfl,hy,by rw[rl.length];exact hj,?_⟩
     exact p2 dH _ J (W2.write ha (O7 nr hv) (rl.set j am4)) (Ext.write ha) (V2.mono W2 (Ext.write ha))
    ·exact p2.elim
   ·exact p2.elim
  ·exact p2.elim
 ·exact p2.elim
end
structure Src where
 items:List D
 stays:aa->Prop
def JS(K:Γ)(ρ:List Ξ)(H:Hp)(s:Src)(σ:It):Prop :=
 ∀ρ' H' c',Wd K ρ' H' c'->Ext ρ H ρ' H'->s.stays c'->∀i:Nat,
  (∀d,s.items[i]? = O d->σ.go i H'/\∀x H2,σ.vD i H' x H2->Wd K ρ' H2 c'/\Ext ρ' H' ρ' H2/\Rel K ρ' H2 d x)/\(i=s.items.length->σ.stop i H')
def Lv(K:Γ)(d:Ev->aa->R Src):TI:=tD K (JS K) d
abbrev PId(X:Cx)(tg iter:ν)(d:Ev->aa->R Src):Prop:=PI X tg iter (Lv X.K d)
theorem PI.imp{iter:ν}(h:PI X tg iter t)(i:∀J H Q,t' J H Q->t J H Q):PI X tg iter t':=λpins s J H Q I q=>h pins s J H Q I (i _ _ _ q)
def eX(a:af):Ev->aa->R Src:=λe c=>(a e c).bind λx c=>match x with
 |.lst l=>.ok ⟨l,λ_=>True⟩ c
 |.cP l=>.ok ⟨l.map D.int,λ_=>True⟩ c
 |.ref k=>match c[k]? with
  |some (.lst l)=>.ok ⟨l,λc=>c[k]? = O (.lst l)⟩ c
  |none=>.bad
 |_=>.bad
def c9(a:af):Ev->aa->R Src:=λe c=>(a e c).bind λx c=>match x with
 |.tup l=>.ok ⟨l,λ_=>True⟩ c
 |_=>.bad
def aY(lo hi:Int):List D:=(θ (hi-lo).toNat).map fun(i:Nat)=>D.int (lo+(i:Int))
def bH(a:aj):Ev->aa->R Src:=λe c=>(a e c).bind λxs c=>match xs with
 |[.int j]=>if -(2^62)<=j/\j<2^62 then .ok ⟨aY 0 j,λ_=>True⟩ c else .bad
 |_=>.bad
def kj(a:aj):Ev->aa->R Src:=λe c=>(a e c).bind λxs c=>match xs with
 |[.int i,.int j]=>if -(2^62)<=i/\i<2^62/\-(2^62)<=j/\j<2^62 then .ok ⟨aY i j,λ_=>True⟩ c else .bad
 |_=>.bad
def rZ(a:aj):Ev->aa->R Src:=λe c=>(a e c).bind λxs c=>match xs with
 |[.tup l]=>.ok ⟨l.mapIdx λi x=>.tup [.int i,x],λ_=>True⟩ c
 |_=>.bad
section
variable {X:Cx}{tg:ν}{K:Γ}{ρ:List Ξ}{H:Hp}
theorem GR{st:aa->Prop}(h:∀ρ' H' c',Wd K ρ' H' c'->Ext ρ H ρ' H'->st c'->∃xs,bQ K H' a xs/\aR K ρ' H' l xs):JS K ρ H ⟨l,st⟩ (Kl K a):=by
 intro ρ' H' c' W E s i;obtain⟨xs,q,r⟩:=h ρ' H' c' W E s;refine⟨λd hd=>?_,λe=>⟨xs,q,by rw[r.length];exact VU e.symm⟩⟩
 obtain⟨x,hx,rx⟩:=r.get hd;refine⟨⟨xs,x,q,hx⟩,λy H2 hy=>?_⟩
 obtain⟨rfl,hy⟩:=hy;have:=hy xs q;rw[hx]at this;cases this;exact⟨W,Ext.refl,rx⟩
theorem Qk{st:aa->Prop}(h:∀ρ' H' c',Wd K ρ' H' c'->Ext ρ H ρ' H'->st c'->∃xs,cF K H' a xs/\aR K ρ' H' l xs):JS K ρ H ⟨l,st⟩ (Kh K a):=by
 intro ρ' H' c' W E s i;obtain⟨xs,q,r⟩:=h ρ' H' c' W E s;refine⟨λd hd=>?_,λe=>⟨xs,q,by rw[r.length];exact VU e.symm⟩⟩
 obtain⟨x,hx,rx⟩:=r.get hd;refine⟨⟨xs,x,q,hx⟩,λy H2 hy=>?_⟩
 obtain⟨rfl,hy⟩:=hy;have:=hy xs q;rw[hx]at this;cases this;exact⟨W,Ext.refl,rx⟩
theorem tF{lo:Int}(h:(aY lo hi)[i]? = O d):i<(hi-lo).toNat/\d=.int (lo+i):=by
 unfold aY at h;rw[U7]at h;cases q:(θ (hi-lo).toNat)[i]? with
 |none=>rw[q]at h;cases h
 |some j =>
  rw[q]at h;obtain⟨h2,h3⟩:=((U3.mp q));rw[YX]at h3;subst h3;cases h;exact⟨by simpa using h2,rfl⟩
theorem Ql{lo:Int}{st:aa->Prop}:JS K ρ H ⟨aY lo hi,st⟩ (zd lo (hi-lo).toNat):=by
 intro ρ' H' c' W E s i;refine⟨λd hd=>?_,λe=>?_⟩
 ·obtain⟨h1,rfl⟩:=tF hd;refine⟨h1,λx H2 hy=>?_⟩
  obtain⟨rfl,rfl⟩:=hy;exact⟨W,Ext.refl,rfl⟩
 ·have:(aY lo hi).length=(hi-lo).toNat:=by simp[aY]
  rw[e];exact VU this.symm
theorem mj{dl:af}(hl:bu X l dl):PId X tg l (eX dl):=(an6 hl).imp λJ H Q h=>by
 obtain⟨ρ,e,c,W,V,p⟩:=h;refine⟨ρ,e,c,W,V,post.bind p λx c1 aS H1 v _ W1 X1 r1 p1=>?_⟩
 cases x with
 |lst l =>
  obtain⟨a,xs,rfl,s,rs⟩:=r1;exact⟨a,rfl,⟨xs,bQ.of s.1⟩,p1.here W1 (GR λρ' H' c' W' E _=>⟨xs,bQ.of (A0 E s).1,aR.mono W1 E _ _ rs⟩)⟩
 |cP l =>
  obtain⟨a,rfl,s⟩:=r1;exact⟨a,rfl,⟨_,s.sql⟩,p1.here W1 (GR λρ' H' c' W' E _=>⟨_,(LS E s).sql,aR.ints⟩)⟩
 |ref k =>
  obtain⟨a,rfl,ha⟩:=r1;dsimp only at p1;split at p1
  ·rename_i l hl;obtain⟨_,xs,hx,rs⟩:=W1.gi k a _ ha hl;refine⟨a,rfl,⟨xs,bQ.of hx⟩,p1.here W1 (GR λρ' H' c' W' E st=>?_)⟩
   obtain⟨_,ys,hy,rs'⟩:=W'.gi k a _ (E.pre k a ha) st;exact⟨ys,bQ.of hy,rs'⟩
  ·exact p1.elim
 |_=>exact p1.elim
theorem j5{dl:af}(hl:bu X l dl):PId X tg l (c9 dl):=(NT hl).imp λJ H Q h=>by
 obtain⟨ρ,e,c,W,V,p⟩:=h;refine⟨ρ,e,c,W,V,post.bind p λx c1 aS H1 v _ W1 X1 r1 p1=>?_⟩
 cases x with
 |tup l =>
  obtain⟨a,xs,rfl,s,rs⟩:=r1;exact⟨a,rfl,⟨xs,cF.of s⟩,p1.here W1 (Qk λρ' H' c' W' E _=>⟨xs,cF.of (vI W1 E s),aR.mono W1 E _ _ rs⟩)⟩
 |_=>exact p1.elim
theorem eB{pos:Pos}(ha:e7 X [a] da)(hm:X.mg "range"=Z)(hg:Gl X "range":=by rfl)(hs:ε [a] X.env=[(ξ,eval a X.env)]:=by exact oM rfl):PId X tg (.Call (.Name "range" p) [a] [] pos) (bH da) :=
 (an7 hg hm ha hs).imp λJ H Q h=>by
  obtain⟨ρ,e,c,W,V,p⟩:=h;refine⟨ρ,e,c,W,V,post.bind p λx c1 aS H1 v _ W1 X1 r1 p1=>?_⟩
  split at p1
  ·rename_i j _;split at p1
   ·rename_i hj;obtain⟨y,ys,rfl,ry,rs⟩:=r1;cases ry;cases rs;refine⟨j,rfl,hj.1,hj.2,p1.here W1 ?_⟩;have:=Ql (K:=X.K) (ρ:=aS) (H:=H1) (lo:=0) (hi:=j) (st:=λ_=>True)
    rw[Int.sub_zero]at this;exact this
   ·exact p1.elim
  ·exact p1.elim
theorem Bg{pos:Pos}(ha:e7 X [a,b] da)(hm:X.mg "range"=Z)(hg:Gl X "range":=by rfl)(hs:ε [a,b] X.env=[(ξ,eval a X.env),(ξ,eval b X.env)]:=by exact LM rfl rfl)(hs2:ε [b] X.env=[(ξ,eval b X.env)]:=by exact oM rfl):PId X tg (.Call (.Name "range" p) [a,b] [] pos) (kj da) :=
 (an8 hg hm ha hs hs2).imp λJ H Q h=>by
  obtain⟨ρ,e,c,W,V,p⟩:=h;refine⟨ρ,e,c,W,V,post.bind p λx c1 aS H1 v _ W1 X1 r1 p1=>?_⟩
  split at p1
  ·rename_i i j _;split at p1
   ·rename_i hj;obtain⟨y,ys,rfl,ry,z,zs,rfl,rz,rs⟩:=r1;cases ry;cases rz;cases rs;exact⟨i,j,rfl,hj,p1.here W1 Ql⟩
   ·exact p1.elim
  ·exact p1.elim
theorem adq{st:aa->Prop}(h:∀ρ' H' c',Wd K ρ' H' c'->Ext ρ H ρ' H'->st c'->∃xs ys,cF K H' a xs/\cF K H' b ys/\aR K ρ' H' l xs/\aR K ρ' H' m ys):JS K ρ H ⟨List.zipWith (λx y=>.tup [x,y]) l m,st⟩ (D6 (cF K) a b):=by
 intro ρ' H' c' W E s i;obtain⟨xs,ys,q1,q2,r1,r2⟩:=h ρ' H' c' W E s;refine⟨λd hd=>?_,λe=>⟨xs,ys,q1,q2,?_⟩⟩
 ·have hd:(List.zipWith (λx y=>D.tup [x,y]) l m)[i]? = O d:=hd
  rw[Zc]at hd;cases e1:l[i]? with
  |none=>rw[e1]at hd;cases hd
  |some x =>
   cases e2:m[i]? with
   |none=>rw[e1,e2]at hd;cases hd
   |some y =>
    rw[e1,e2]at hd;cases hd;obtain⟨v,hv,rv⟩:=r1.get e1;obtain⟨u,hu,ru⟩:=r2.get e2;refine⟨⟨xs,ys,v,u,q1,q2,hv,hu⟩,λz H2 hz=>?_⟩
    obtain⟨t,v',u',rfl,ht,rfl,hz⟩:=hz;obtain⟨z1,z2⟩:=hz xs ys q1 q2;rw[hv]at z1;rw[hu]at z2;cases z1;cases z2;exact⟨W.fresh ht,Ext.fresh W ht,t,[v,u],rfl,fG,v,[u],rfl,Rel.mono W (Ext.fresh W ht) _ _ rv,u,[],rfl,Rel.mono W (Ext.fresh W ht) _ _ ru,rfl⟩
 ·have e:i=(List.zipWith (λx y=>D.tup [x,y]) l m).length:=e
  rw[YW]at e;rw[r1.length,r2.length];omega
theorem adt{st:aa->Prop}(h:∀ρ' H' c',Wd K ρ' H' c'->Ext ρ H ρ' H'->st c'->∃xs,cF K H' a xs/\aR K ρ' H' l xs):JS K ρ H ⟨l.mapIdx λi x=>.tup [.int i,x],st⟩ (D7 (cF K) a):=by
 intro ρ' H' c' W E s i;obtain⟨xs,q,r⟩:=h ρ' H' c' W E s;refine⟨λd hd=>?_,λe=>⟨xs,q,?_⟩⟩
 ·have hd:(l.mapIdx λi x=>D.tup [.int i,x])[i]? = O d:=hd
  rw[YV]at hd;cases e1:l[i]? with
  |none=>rw[e1]at hd;cases hd
  |some x =>
   rw[e1]at hd;cases hd;obtain⟨v,hv,rv⟩:=r.get e1;refine⟨⟨xs,v,q,hv⟩,λz H2 hz=>?_⟩
   obtain⟨t,v',rfl,ht,rfl,hz⟩:=hz;have z1:=hz xs q;rw[hv]at z1;cases z1;exact⟨W.fresh ht,Ext.fresh W ht,t,[.int i,v],rfl,fG,.int i,[v],rfl,rfl,v,[],rfl,Rel.mono W (Ext.fresh W ht) _ _ rv,rfl⟩
 ·have e:i=(l.mapIdx λi x=>D.tup [.int i,x]).length:=e
  rw[Zb]at e;rw[r.length];exact e
theorem QE{pt:Pos}{pos:Pos}(ha:e7 X [a] da)(hm:X.mg "enumerate"=Z)(hg:Gl X "enumerate":=by rfl)(hs:ε [a] X.env=[(ξ,eval a X.env)]:=by exact oM rfl):
  PId X (.Tuple es k pt) (.Call (.Name "enumerate" p) [a] [] pos) (rZ da):=(an5 hg hm ha hs).imp λJ H Q h=>by
 obtain⟨ρ,e,c,W,V,p⟩:=h;refine⟨ρ,e,c,W,V,post.bind p λx c1 aS H1 v _ W1 X1 r1 p1=>?_⟩
 split at p1
 ·obtain⟨y,ys,rfl,ry,rs⟩:=r1;cases rs;obtain⟨a1,xs,rfl,s1,t1⟩:=ry;exact⟨a1,rfl,⟨xs,cF.of s1⟩,p1.here W1 (adt λρ' H' c' W' E _=>⟨xs,cF.of (vI W1 E s1),aR.mono W1 E _ _ t1⟩)⟩
 ·exact p1.elim
open Classical in
def cZ(st:aa->Prop)(g:Gd)(b:ah):List D->ah
 |[],e,c=>if st c then .ok (.nx e) c else .bad
 |x::xs,e,c=>if st c then(g x e c).bind λe c=>(b e c).bind λf c=>match f with
   |.nx e=>cZ st g b xs e c
   |.ct e=>cZ st g b xs e c
   |.bk e=>.ok (.nx e) c
   |.rt d=>.ok (.rt d) c
  else .bad
def bY(s:Ev->aa->R Src)(g:Gd)(b:ah):ah:=λe c=>(s e c).bind λs c=>cZ s.stays g b s.items e c
theorem eS{iter:ν}{body:List χ}{ds:Ev->aa->R Src}{pos:Pos}(hi:PId X tg iter ds)(hg:mP X tg g)(hb:bB X body db)(hp:Y9 (model X.prog X.w) X.A X.env X.xe:=by exact PassesOwn.never)(hc:X.calm=G:=by rfl)(hs:∀x,foldedSetIterable iter X.env x=pure x:=by intro _;rfl):kq X (.For tg iter body [] pos) (bY ds g db):=(aec hp hc hi hg hb hs).imp λη J H h=>by
 obtain⟨ρ,e,c,W,V,p⟩:=h;refine⟨ρ,e,c,W,V,post.bind p λs c1 aS H1 σ _ W1 X1 j1 p1=>?_⟩
 refine⟨λi m J H=>∃ρ e c,Wd X.K ρ H c/\Ext aS H1 ρ H/\eL X.K ρ H e J/\i<=s.items.length/\m=s.items.length-i/\post X.K (sI X.K) (cZ s.stays g db (s.items.drop i) e c) ρ H (En η),
  ⟨_,aS,e,c1,W1,Ext.refl,V.mono W X1,V9 _,rfl,p1⟩,?_⟩
 rintro i m σ2 H2 ⟨dH,e2,c2,W2,X2,V2,hi2,rfl,p2⟩
 by_cases hl:i<s.items.length
 ·rw[XO hl]at p2;unfold cZ at p2;split at p2
  ·rename_i hst;obtain⟨go,yl⟩:=(j1 dH H2 c2 W2 X2 hst i).1 _ (I8 hl);refine .inr ⟨go,λσ' H'=>∃ρ e c,Wd X.K ρ H' c/\Ext aS H1 ρ H'/\eL X.K ρ H' e σ'/\i+1<=s.items.length/\post X.K (sI X.K) (cZ s.stays g db (s.items.drop (i+1)) e c) ρ H' (En η),?_,λx H3 hy=>?_⟩
   ·rintro σ' H' ⟨ρ,e,c,w,x,v,l,q⟩
    exact⟨s.items.length-(i+1),∅,ρ,e,c,w,x,v,l,rfl,q⟩
   ·obtain⟨W3,X3,r3⟩:=yl x H3 hy;refine⟨dH,_,e2,c2,W3,V2.mono W2 X3,r3,post.bind (post.ext p2 X3) λe4 c4 qw H4 akK _ W4 X4 V4 p4=>?_⟩
    refine⟨qw,e4,c4,W4,V4,post.bind p4 λf c5 jI H5 b _ W5 X5 r5 p5=>?_⟩
    have yX:=((X2.trans X3).trans X4).trans X5;cases f with
    |nx e1=>obtain⟨σ1,rfl,V1⟩:=r5;exact⟨jI,e1,c5,W5,yX,V1,hl,p5⟩
    |ct e1=>obtain⟨σ1,rfl,V1⟩:=r5;exact⟨jI,e1,c5,W5,yX,V1,hl,p5⟩
    |bk e1=>obtain⟨σ1,rfl,V1⟩:=r5;exact post.here (Q:=En η) (show post X.K (sI X.K) (.ok (Fl.nx e1) c5) jI H5 (En η)from p5) W5 ⟨_,rfl,V1⟩
    |rt d=>obtain⟨v,rfl,V1⟩:=r5;exact post.here (Q:=En η) (show post X.K (sI X.K) (.ok (Fl.rt d) c5) jI H5 (En η)from p5) W5 ⟨_,rfl,V1⟩
  ·exact p2.elim
 ·obtain rfl:i=s.items.length:=∅
  rw[Za (dD _)]at p2;unfold cZ at p2;split at p2
  ·rename_i hst;exact .inl ⟨(j1 dH H2 c2 W2 X2 hst _).2 rfl,post.here (Q:=En η) p2 W2 ⟨σ2,rfl,V2⟩⟩
  ·exact p2.elim
def gY(t:ai)(b:ah):Nat->ah
 |0,_,_=>.bad
 |n+1,e,c=>(t e c).bind λk c=>if k=G then(b e c).bind λf c=>match f with
   |.nx e=>gY t b n e c
   |.ct e=>gY t b n e c
   |.bk e=>.ok (.nx e) c
   |.rt d=>.ok (.rt d) c
  else .ok (.nx e) c
theorem Fj{body:List χ}{pos:Pos}(ht:jj X c' dt)(hb:bB X body db)(hp:Y9 (model X.prog X.w) X.A X.env X.xe:=by exact PassesOwn.never):kq X (.While c' body [] pos) (gY dt db n):=(anC hp ht hb).imp λη J H h=>by
 obtain⟨ρ,e,c,W,V,p⟩:=h;refine⟨λm J H=>∃ρ e c,Wd X.K ρ H c/\eL X.K ρ H e J/\post X.K _ (gY dt db m e c) ρ H (En η),⟨n,ρ,e,c,W,V,p⟩,?_⟩
 rintro m σ2 H2 ⟨dH,e2,c2,W2,V2,p2⟩
 cases m with
 |zero=>exact p2.elim
 |succ m =>
  refine⟨dH,e2,c2,W2,V2,post.bind p2 λk c3 qx H3 b _ W3 X3 r3 p3=>?_⟩
  cases r3;cases k with
  |true =>
   refine nG ⟨λJ H=>∃ρ e c,Wd X.K ρ H c/\eL X.K ρ H e J/\post X.K _ _ ρ H (En η),λσ' H' q=>⟨m,Uu _,q⟩,?_⟩
   refine⟨qx,e2,c3,W3,V2.mono W2 X3,post.bind p3 λf c5 jI H5 b _ W5 X5 r5 p5=>?_⟩
   cases f with
   |nx e1=>obtain⟨σ1,rfl,V1⟩:=r5;exact⟨jI,e1,c5,W5,V1,p5⟩
   |ct e1=>obtain⟨σ1,rfl,V1⟩:=r5;exact⟨jI,e1,c5,W5,V1,p5⟩
   |bk e1=>obtain⟨σ1,rfl,V1⟩:=r5;exact post.here (Q:=En η) (show post X.K _ _ jI H5 (En η)from p5) W5 ⟨_,rfl,V1⟩
   |rt d=>obtain⟨v,rfl,V1⟩:=r5;exact post.here (Q:=En η) (show post X.K _ _ jI H5 (En η)from p5) W5 ⟨_,rfl,V1⟩
  |false=>exact nH (post.here (Q:=En η) (show post X.K _ _ qx H3 (En η)from p3) W3 ⟨_,rfl,V2.mono W2 X3⟩)
end
def cX(pick:List (Option Nat))(e:Ev):Ev:=pick.map λo=>o.bind λj=>(e[j]?).bind id
open Classical in
def bT(st:aa->Prop)(g:Gd)(t:ai)(el:af):List D->Ev->List D->aa->R (List D)
 |[],e,acc,c=>if st c then .ok acc c else .bad
 |x::xs,e,acc,c=>if st c then(g x e c).bind λe c=>(t e c).bind λk c=>if k=G then(el e c).bind λy c=>bT st g t el xs e (acc++[y]) c else bT st g t el xs e acc c else .bad
def aX(s:Ev->aa->R Src)(pick:List (Option Nat))(g:Gd)(t:ai)(el:af):af:=λe c=>(s e c).bind λs c =>
 if s.items.length<Ω then(bT s.stays g t el s.items (cX pick e) [] c).bind λl c=>.ok (.lst l) c else .bad
def aP:ai:=λ_ c=>.ok G c
abbrev D3(X:Cx)(ifs:List ν)(t:ai):Prop:=sJ X ifs (tD X.K (λ_ _ a b=>a=b) t)
section
variable {X:Cx}{N':List Str}{pick:List (Option Nat)}{scope:UA}{tg elt iter:ν}{ifs:List ν}{pos:Pos}{ds:Ev->aa->R Src}{g:Gd}{dt:ai}{de:af}
theorem wD:D3 X [] aP:=λpins s J H Q I h=>by
 obtain⟨ρ,e,c,W,V,p⟩:=h;exact apR pins s J H Q I (post.here p W rfl)
theorem FU(h:jj X c' dt):D3 X [c'] dt:=apS h
theorem eL.picked{K:Γ}{H:Hp}{J:St}(V:eL K ρ H e J):eL K ρ H (cX pick e) (mX pick J):=by
 refine⟨λi d h=>?_,by simp[cX,mX]⟩
 unfold cX at h;unfold mX;rw[U7]at h ⊢;cases q:pick[i]? with
 |none=>rw[q]at h;cases h
 |some o =>
  rw[q]at h;cases o with
  |none=>cases h
  |some j =>
   have h':(e[j]?).bind id=O d:=U9 h;cases q2:e[j]? with
   |none=>rw[q2]at h';cases h'
   |some z =>
    rw[q2]at h';subst h';obtain⟨v,hv,r⟩:=V.get j d q2;exact⟨v,by simp[hv],r⟩
theorem agQ{K:Γ}{H1:Hp}{J:St}{s:Src}{σ:It}{Q:VK}(W1:Wd K aS H1 c1)(V1:eL K aS H1 e J)(j1:JS K aS H1 s σ)(hn:s.items.length<Ω)(p1:post K (Rel K) ((bT s.stays g dt de s.items e [] c1).bind λl c=>.ok (.lst l) c) aS H1 Q):TU σ (zK K g) (tD K (λ_ _ a b=>a=b) dt) (tD K (Rel K) de) Q J H1:=by
 refine⟨λi m J ys H=>∃ρ e acc c,Wd K ρ H c/\Ext aS H1 ρ H/\eL K ρ H e J/\aR K ρ H acc ys/\acc.length<=i/\i<=s.items.length/\m=s.items.length-i/\post K (Rel K) ((bT s.stays g dt de (s.items.drop i) e acc c).bind λl c=>.ok (.lst l) c) ρ H Q,
  ⟨_,aS,e,[],c1,W1,Ext.refl,V1,rfl,dD _,V9 _,rfl,p1⟩,?_⟩
 rintro i m σ2 ys H2 ⟨dH,e2,acc,c2,W2,X2,V2,r2,ha,hi2,rfl,p2⟩
 refine⟨by rw[r2.length];omega,?_⟩
 by_cases hl:i<s.items.length
 ·rw[XO hl]at p2;unfold bT at p2;split at p2
  ·rename_i hst;obtain⟨go,yl⟩:=(j1 dH H2 c2 W2 X2 hst i).1 _ (I8 hl);refine .inr ⟨go,λσ' ys' H'=>∃ρ e acc c,Wd K ρ H' c/\Ext aS H1 ρ H'/\eL K ρ H' e σ'/\aR K ρ H' acc ys'/\acc.length<=i+1/\i+1<=s.items.length/\post K (Rel K) ((bT s.stays g dt de (s.items.drop (i+1)) e acc c).bind λl c=>.ok (.lst l) c) ρ H' Q,?_,λx H3 hy=>?_⟩
   ·rintro σ' ys' H' ⟨ρ,e,acc,c,w,x,v,r,a,l,q⟩
    exact⟨s.items.length-(i+1),∅,ρ,e,acc,c,w,x,v,r,a,l,rfl,q⟩
   ·obtain⟨W3,X3,r3⟩:=yl x H3 hy;have assoc:∀{α β γ:Type}(r:R α) f (g:β->aa->R γ),(r.bind f).bind g=r.bind λa c=>(f a c).bind g:=λr f g=>by cases r<;>rfl
    rw[assoc]at p2;refine⟨dH,_,e2,c2,W3,V2.mono W2 X3,r3,post.bind (post.ext p2 X3) λe4 c4 qw H4 akK _ W4 X4 V4 p4=>?_⟩
    rw[assoc]at p4;refine⟨qw,e4,c4,W4,V4,post.bind p4 λk c5 jI H5 b _ W5 X5 r5 p5=>?_⟩
    cases r5;have yX:=((X2.trans X3).trans X4).trans X5;have NG:=aR.mono W2 ((X3.trans X4).trans X5) _ _ r2;cases k with
    |true =>
     refine nG ?_;rw[if_pos rfl,assoc]at p5;refine⟨jI,e4,c5,W5,V4.mono W4 X5,post.bind p5 λy apM akD H6 v _ aew X6 ao6 p6=>?_⟩
     refine⟨akD,e4,acc++[y],apM,aew,yX.trans X6,(V4.mono W4 X5).mono W5 X6,(aR.mono W5 X6 _ _ NG).append ⟨v,[],rfl,ao6,rfl⟩,by simp;exact ha,hl,p6⟩
    |false =>
     refine nH ?_;exact⟨jI,e4,acc,c5,W5,yX,V4.mono W4 X5,NG,Nat.le_succ_of_le ha,hl,p5⟩
  ·exact p2.elim
 ·obtain rfl:i=s.items.length:=∅
  rw[Za (dD _)]at p2;unfold bT at p2;split at p2
  ·rename_i hst;exact .inl ⟨(j1 dH H2 c2 W2 X2 hst _).2 rfl,qW W2 r2 p2⟩
  ·exact p2.elim
theorem SA{J:St}{H:Hp}{Q:VK}{K:Γ}(h:tD K (Rel K) (aX ds pick g dt de) J H Q):EZ (Lv K ds) pick (zK K g) (tD K (λ_ _ a b=>a=b) dt) (tD K (Rel K) de) J H Q:=by
 obtain⟨ρ,e,c,W,V,p⟩:=h;refine⟨ρ,e,c,W,V,post.bind p λs c1 aS H1 σ _ W1 X1 j1 p1=>?_⟩
 split at p1
 ·rename_i hn;exact agQ W1 (V.mono W X1).picked j1 hn p1
 ·exact p1.elim
theorem qT(S:gn X N' pick scope)(hit:PId X tg iter ds)
  (hg:∀cl C s₀ H₀ ex pn,mP (fX X N' scope cl C s₀ H₀ ex pn) tg g) (hi:∀cl C s₀ H₀ ex pn,D3 (fX X N' scope cl C s₀ H₀ ex pn) ifs dt) (he:∀cl C s₀ H₀ ex pn,bu (fX X N' scope cl C s₀ H₀ ex pn) elt de)
  (hc:X.calm=G:=by rfl) (hs:∀x,foldedSetIterable iter X.env x=pure x:=by intro _;rfl) :
  bu X (.ListComp elt [⟨tg,iter,ifs,0⟩] scope pos) (aX ds pick g dt de):=(aoC S hc hit hg hi he hs).imp λJ H Q h=>SA h
theorem anI{spos:Pos}(S:gn X N' pick scope)(hit:PId X tg iter ds)(hg:∀cl C s₀ H₀ ex pn,mP (fX X N' scope cl C s₀ H₀ ex pn) tg g)(hi:∀cl C s₀ H₀ ex pn,D3 (fX X N' scope cl C s₀ H₀ ex pn) ifs dt)(he:∀cl C s₀ H₀ ex pn,bu (fX X N' scope cl C s₀ H₀ ex pn) elt de)(hsw:swapsWith (.ListComp elt [⟨tg,iter,ifs,0⟩] scope pos) (O (.Name y py)) spos.line X.env=pure G:=by rfl)(hN:X.N.Nodup:=by decide +kernel)(hy:X.N[i]? = O y:=by rfl)(hl:X.env.scope.names.lookup y=O .local:=by rfl)(hc:X.calm=G:=by rfl)(hs:∀x,foldedSetIterable iter X.env x=pure x:=by intro _;rfl):
  kq X (.Assign [.Name y py] (.ListComp elt [⟨tg,iter,ifs,0⟩] scope pos) spos) (aG i (aX ds pick g dt de)):=(anB (g:=zK X.K g) (tt:=tD X.K (λ_ _ a b=>a=b) dt) (te:=tD X.K (Rel X.K) de) hsw hN hy hl S hc hit hg hi he hs).imp λη J H h=>by
 refine SA (g:=g) (dt:=dt) (de:=de) ?_;obtain⟨ρ,e,c,W,V,p⟩:=h;refine⟨ρ,e,c,W,V,post.bind p λx c1 aS H1 v _ W1 X1 r1 p1=>p1.here W1 ⟨_,rfl,(V.mono W X1).set r1 i⟩⟩
end
def fZ(K:Γ)(n:Nat)(m:List D->aa->R D):Sp:=λvs H Q _=>∃ρ xs c,Wd K ρ H c/\aR K ρ H xs vs/\xs.length=n/\post K (Rel K) (m xs c) ρ H Q
def aB(n:Nat)(m:List D->aa->R D)(a:aj):af:=λe c=>(a e c).bind λxs c=>if xs.length=n then m xs c else .bad
def cW(n:Nat)(xs:List D):Ev:=xs.map O++ο (n-xs.length) Z
def cU(own:Bool)(n:Nat)(v:D)(c:aa):R D:=match v with
 |.ref k=>match c[k]? with
  |some (.lst l)=>if n<=k then(if own=G then .ok (.ref n) (c.take n++[.lst l])else .ok (.lst l) (c.take n))else .bad
  |none=>.bad
 |v=>if noRef v=G then .ok v (c.take n)else .bad
def bh(n:Nat)(own:Bool)(d:ah):List D->aa->R D:=λxs c=>(d (cW n xs) c).bind λf c'=>match f with
 |.rt v=>cU own c.length v c'
 |.nx _=>cU own c.length .aJ c'
 |_=>.bad
section
variable {P:π}{w:υ}{K:Γ}{mg:Str->Option Δ}{base:τ}
theorem CH{own:Bool}(W:Wd K ρ H c)(W1:Wd K aS H1 c1)(X1:Ext ρ H aS H1)(r:Rel K aS H1 v x)(p:post K (Rel K) (cU own c.length v c1) ρ H Q):Q x H1:=by
 have hn:=Ext.len W W1 X1;have Wc:=W1.cut hn;have Xc:=X1.cut (n:=c.length) (VU W.len);unfold cU at p;split at p
 ·rename_i k;split at p
  ·rename_i l hl;split at p
   ·rename_i hk;obtain⟨a,rfl,ha⟩:=r;obtain⟨nr,xs,hx,rl⟩:=W1.gi k a _ ha hl;have na:a∉aS.take c.length:=by
     intro h;obtain⟨j,hj,e⟩:=Vi.mp h;have hj2:j<c.length:=by simp at hj;omega
     rw[XM]at e;have hk1:=U3.mp ha;have:=(Xf W1.nd (h₀:=(by simp at hj;omega)) (h₁:=hk1.1)).mp (e.trans hk1.2.symm)
     omega
    have sub:∀b,b∈aS.take c.length->b∈aS:=λb h=>UO h
    split at p
    ·have lr:(aS.take c.length).length=c.length:=by simp[W1.len];omega
     refine p (aS.take c.length++[a]) H1 (.ref a) ?_ ?_ ⟨a,rfl,?_⟩
     ·refine⟨?_,by simp[W1.len],λj b cl e1 e2=>?_,W1.tab⟩
      ·rw[WU];refine⟨Wc.nd,by simp,?_⟩
       intro y hy z hz;rw[UT]at hz;subst hz;exact λq=>na (q▸hy)
      ·by_cases hj:j<c.length
       ·rw[UZ (by rw[lr];exact hj)]at e1
        rw[UZ (by simp;omega)]at e2
        have q:=Wc.gi j b cl e1 e2;cases cl with
        |lst l' =>
         obtain⟨t7,ys,hy,r'⟩:=q;refine⟨t7,ys,hy,aR.low (ρ:=aS) (λz hz=>?_) l' ys t7 ?_⟩
         ·rcases US.mp hz with hz|hz
          ·exact sub z hz
          ·rw[UT]at hz;subst hz;exact UD ha
         ·have HU:aS[j]? = O b:=by rw[Wn,if_pos hj]at e1;exact e1
          obtain⟨_,zs,hz,rz⟩:=W1.gi j b _ HU (by rw[Wn,if_pos hj]at e2;exact e2)
          rw[hy]at hz;cases hz;exact rz
       ·have hj':j=c.length:=by
         have:=(U3.mp e1).1;rw[UR,lr]at this;simp at this;omega
        subst hj';rw[Um (by rw[lr];exact dD _),lr,Vg]at e1
        rw[Um (by simp;omega),show c.length-(List.take c.length c1).length=0 by simp;omega]at e2
        cases e1;cases e2;refine⟨nr,xs,hx,aR.low (ρ:=aS) (λz hz=>?_) l xs nr rl⟩
        rcases US.mp hz with hz|hz
        ·exact sub z hz
        ·rw[UT]at hz;subst hz;exact UD ha
     ·refine⟨λj b e=>?_,λb o e z t=>?_⟩
      ·have q:=Xc.pre j b e;rw[UZ (U3.mp q).1];exact q
      ·obtain⟨h1,h2⟩:=X1.keep b o e z t;refine⟨h1,λq=>h2 ?_⟩
       rcases US.mp q with q|q
       ·exact sub b q
       ·rw[UT]at q;subst q;exact UD ha
     ·rw[Um (by rw[lr];exact dD _),lr,Vg];rfl
    ·exact p (aS.take c.length) H1 (.ref a) Wc Xc ⟨a,xs,rfl,⟨hx,na⟩,aR.low sub l xs nr rl⟩
   ·exact p.elim
  ·exact p.elim
 ·split at p
  ·rename_i hv;exact p _ H1 x Wc Xc (Rel.low (λb h=>UO h) _ _ hv r)
  ·exact p.elim
theorem eL.start{xs:List D}{N:List Str}(r:aR K ρ H xs vs):eL K ρ H (cW N.length xs) (start N vs):=by
 have hl:=r.length;refine⟨λi d h=>?_,by simp[cW,L2.start,hl]⟩
 unfold cW at h;unfold L2.start
 by_cases hi:i<xs.length
 ·rw[UZ (by simpa using hi),U7]at h
  cases q:xs[i]? with
  |none=>rw[q]at h;cases h
  |some x =>
   rw[q]at h;cases h;obtain⟨v,hv,rv⟩:=r.get q;exact⟨v,by rw[UZ (by simp[hl];exact hi),U7,hv];rfl,rv⟩
 ·rw[Um (by simpa using Zg hi)]at h
  have:=UD h;rw[List.mem_replicate]at this;cases this.2
theorem HC{qual:Str}{st:χ}{own:Bool}(F:mS K x qual st f fd)(S:jH N ps (eK st))(hN:N.length=n)(hm:ps.length=m)(hb:∀(cdv:Δ) (A:ω) (outer:List Env) (s:Ψ) (H:Hp) (E:XK),c8 k (A.deeper (envOfC qual (eK st) s.heap.objs.size f cdv))->bB (lz e9 P w K mg base N qual (eK st) f cdv A outer s H E).lY (i7 st) d):
  fS P w K mg base e9 (k+1) f fd ps (fZ K m (bh n own d)):=by
 subst hN;subst hm;refine F.ok S (λvs H Q E h=>?_) (λcdv A outer s H vs Q E hr h=>⟨_,hb cdv A outer s H E hr,?_⟩)
 ·obtain⟨ρ,xs,c,W,r,hl,p⟩:=h;exact r.length.trans hl
 ·obtain⟨ρ,xs,c,W,r,hl,p⟩:=h;refine⟨ρ,cW N.length xs,c,W,eL.start r,post.bind p λfl c1 aS H1 b _ W1 X1 r1 p1=>?_⟩
  cases fl with
  |nx e1 =>
   obtain⟨σ1,rfl,V1⟩:=r1;exact CH (v:=.aJ) (x:=.aJ) (H1:=H1) W W1 X1 rfl (by
    unfold bh at p;exact id (α:=post K (Rel K) (cU own c.length .aJ c1) ρ H Q) (by
     rename_i he;rw[he]at p;exact p))
  |rt d =>
   obtain⟨v,rfl,V1⟩:=r1;exact CH (v:=d) (x:=v) (H1:=H1) W W1 X1 V1 (by
    unfold bh at p;rename_i he;rw[he]at p;exact p)
  |bk e1=>exact p1.elim
  |ct e1=>exact p1.elim
end
section
variable {X:Cx}
theorem N2{st:χ}{m:List D->aa->R D}{pos:Pos}(D:Def X.K X.mg x st ps f fd)(Θ:fS X.prog X.w X.K X.mg X.base e9 k f fd ps (fZ X.K n m))(hr:c8 k X.A)(ha:e7 X (e::es) da)(hg:Gl X x:=by rfl)(hdb:(x==("__debug__":Str))=ξ:=by decide)(he:ε (e::es) X.env=(ξ,eval e X.env)::ε es X.env:=by exact cO rfl)(hpl:(U4 pos (ε es X.env)).any (·.1)=ξ:=by exact fB rfl):
  bu X (.Call (.Name x p) (e::es) [] pos) (aB n m da):=(apn D Θ hr ha hg hdb he hpl).imp λJ H Q h=>by
 obtain⟨ρ,e,c,W,V,q⟩:=h;refine⟨ρ,e,c,W,V,post.bind q λxs c1 aS H1 vs _ W1 X1 r1 p1=>?_⟩
 split at p1
 ·rename_i hl;exact⟨aS,xs,c1,W1,by rw[VI];exact r1,hl,p1⟩
 ·exact p1.elim
theorem cA{id:String}{pos:Pos}{f:List D->aa->R D}(hc:eU X (.builtin id) (rN X.K f))(hm:X.mg x=Z)(hv:bootBuiltins x=O (.builtin id))(ha:e7 X (e::es) da)(hg:Gl X x:=by rfl)(hn:x≠"__name__":=by decide)(hdb:(x==("__debug__":Str))=ξ:=by decide)(he:ε (e::es) X.env=(ξ,eval e X.env)::ε es X.env:=by exact cO rfl)(hpl:(U4 pos (ε es X.env)).any (·.1)=ξ:=by exact fB rfl):bu X (.Call (.Name x p) (e::es) [] pos) (aO f da):=(wG hc hg hm hv ha hn hdb he hpl).imp λJ H Q h=>Lr h
theorem lX{pos:Pos}{f:List D->aa->R D}(hc:eU X (.type T) (rN X.K f))(hm:X.mg x=Z)(hv:bootBuiltins x=O (.type T))(ha:e7 X (e::es) da)(hg:Gl X x:=by rfl)(hn:x≠"__name__":=by decide)(hdb:(x==("__debug__":Str))=ξ:=by decide)(he:ε (e::es) X.env=(ξ,eval e X.env)::ε es X.env:=by exact cO rfl)(hpl:(U4 pos (ε es X.env)).any (·.1)=ξ:=by exact fB rfl):bu X (.Call (.Name x p) (e::es) [] pos) (aO f da):=(lV hc hg hm hv ha hn hdb he hpl).imp λJ H Q h=>Lr h
end
def bD:List D->aa->R D:=λxs c=>match xs with
 |[x]=>match fU c x with
  |some l=>.ok (.int l.length) c
  |none=>match x with
   |.str z=>if z.length<=Ω then .ok (.int z.length) c else .bad
   |_=>.bad
 |_=>.bad
def K8:D->Option String
 |.aJ=>O "NoneType"
 |.bl _=>O "bool"
 |.int _=>O "int"
 |.str _=>O "str"
 |.tup _=>O "tuple"
 |.lst _=>O "list"
 |.ref _=>O "list"
 |_=>Z
def cM:List D->aa->R D:=λxs c=>match xs with
 |[.jg,.ty T]=>if T∈["bool","int","str","list","tuple","dict"]then .ok (.bl (vR "dict" T)) c else .bad
 |[x,.ty T]=>match K8 x with
  |some n=>if T∈["bool","int","str","list","tuple","dict"]then .ok (.bl (vR n T)) c else .bad
  |none=>.bad
 |_=>.bad
def qj:List D->Option (List Bool)
 |[]=>O []
 |.bl b::l=>(qj l).map (b :: ·)
 |_=>Z
def nI:List D->Option (List Int)
 |[]=>O []
 |.int i::l=>(nI l).map (i :: ·)
 |_=>Z
theorem CZ(l:List Bool):qj (l.map D.bl)=O l:=by
 induction l with
 |nil=>rfl
 |cons a l ih=>simp[qj,ih]
theorem Ba(l:List Int):nI (l.map D.int)=O l:=by
 induction l with
 |nil=>rfl
 |cons a l ih=>simp[nI,ih]
theorem Ik:∀{l:List D}{bs:List Bool},qj l=O bs->l=bs.map D.bl
 |[],bs,h=>by cases h;rfl
 |d::l,bs,h=>by
  cases d with
  |bl b =>
   unfold qj at h;cases q:qj l with
   |none=>rw[q]at h;cases h
   |some r=>rw[q]at h;cases h;rw[Ik q];rfl
  |_=>cases h
theorem GY:∀{l:List D}{bs:List Int},nI l=O bs->l=bs.map D.int
 |[],bs,h=>by cases h;rfl
 |d::l,bs,h=>by
  cases d with
  |int b =>
   unfold nI at h;cases q:nI l with
   |none=>rw[q]at h;cases h
   |some r=>rw[q]at h;cases h;rw[GY q];rfl
  |_=>cases h
def oY(f:List Bool->Bool):List D->aa->R D:=λxs c=>match xs with
 |[.lst l]=>match qj l with
  |some bs=>.ok (.bl (f bs)) c
  |none=>.bad
 |_=>.bad
def gH:=oY λbs=>bs.all id
def ql:=oY λbs=>bs.any id
def uf:List D->aa->R D:=λxs c=>match xs with
 |[.int i,.int j]=>.ok (.int (if j>i then j else i)) c
 |_=>.bad
def DS:List D->aa->R D:=λxs c=>match xs with
 |[.int i]=>.ok (.int (if i<0 then -i else i)) c
 |_=>.bad
def dj:List D->aa->R D:=λxs c=>match xs with
 |[x]=>match fU c x with
  |some l=>.ok (.tup l) c
  |none=>.bad
 |_=>.bad
section
variable {X:Cx}{K:Γ}{ρ:List Ξ}{H:Hp}{c:aa}
theorem dR:eU X (.builtin "len") (rN X.K bD):=by
 intro pins s J H vs us Q I rv h;obtain⟨ρ,xs,c,W,rx,p⟩:=h;unfold bD at p;split at p
 ·obtain⟨v,r,rfl,hx,hr⟩:=rx;cases hr;split at p
  ·rename_i l hl;obtain⟨a,ys,rfl,sq,r⟩:=Fi W hx hl;exact ahj pins s J H _ us Q I rv ⟨a,ys,rfl,sq,by rw[r.length];exact p.here W rfl⟩
  ·split at p
   ·split at p
    ·rename_i hz;cases hx;exact ahi pins s J H _ us Q I rv ⟨_,rfl,hz,p.here W rfl⟩
    ·exact p.elim
   ·exact p.elim
 ·exact p.elim
theorem akS(W:Wd K ρ H c)(rx:Rel K ρ H x v)(h:K8 x=O n):tyName H v n:=by
 cases x with
 |aJ=>cases rx;cases h;exact rfl
 |bl b=>cases rx;cases h;exact rfl
 |int b=>cases rx;cases h;exact rfl
 |str b=>cases rx;cases h;exact rfl
 |tup l=>obtain⟨a,xs,rfl,s,r⟩:=rx;cases h;exact .inr (.inl ⟨rfl,xs,s⟩)
 |lst l=>obtain⟨a,xs,rfl,s,r⟩:=rx;cases h;exact .inl ⟨rfl,.inl ⟨xs,s.1⟩⟩
 |ref k =>
  obtain⟨a,rfl,s⟩:=rx;cases h;obtain⟨xs,e⟩:=W.at' (UD s);exact .inl ⟨rfl,.inl ⟨xs,e⟩⟩
 |_=>cases h
theorem sf:eU X (.builtin "isinstance") (rN X.K cM):=by
 intro pins s J H vs us Q I rv h;obtain⟨ρ,xs,c,W,rx,p⟩:=h;unfold cM at p;split at p
 ·split at p
  ·rename_i hT;obtain⟨v,r,rfl,⟨a,rfl,hH⟩,u,r',rfl,hu,hr⟩:=rx;cases hr;cases hu;obtain⟨u1,u2,rfl,r1,r2⟩:=Vals.two rv;cases r1;cases r2;obtain⟨hp,_,_⟩:=I.hok a _ hH;exact Uw Z6 I.fK hp (Qe (n:="dict") (by simp) hT) (λz=>nomatch z) λtk=>⟨.bl _,H,I.tok _,rfl,p.here W rfl⟩
  ·exact p.elim
 ·split at p
  ·rename_i n hn;split at p
   ·rename_i hT;obtain⟨v,r,rfl,hx,u,r',rfl,hu,hr⟩:=rx;cases hr;cases hu;exact ahk pins s J H _ us Q I rv ⟨v,n,_,rfl,akS W hx hn,hT,p.here W rfl⟩
   ·exact p.elim
  ·exact p.elim
 ·exact p.elim
theorem yw(hc:X.calm=G:=by rfl):eU X (.builtin "all") (rN X.K gH):=by
 intro pins s J H vs us Q I rv h;obtain⟨ρ,xs,c,W,rx,p⟩:=h;unfold gH oY at p;split at p
 ·split at p
  ·rename_i bs hb;obtain⟨v,r,rfl,⟨a,ys,rfl,s1,r1⟩,hr⟩:=rx;cases hr;rw[Ik hb]at r1;cases r1.Ij;exact ahn hc pins s J H _ us Q I rv ⟨a,bs,rfl,bQ.of s1.1,p.here W rfl⟩
  ·exact p.elim
 ·exact p.elim
theorem SX(hc:X.calm=G:=by rfl):eU X (.builtin "any") (rN X.K ql):=by
 intro pins s J H vs us Q I rv h;obtain⟨ρ,xs,c,W,rx,p⟩:=h;unfold ql oY at p;split at p
 ·split at p
  ·rename_i bs hb;obtain⟨v,r,rfl,⟨a,ys,rfl,s1,r1⟩,hr⟩:=rx;cases hr;rw[Ik hb]at r1;cases r1.Ij;exact ahm hc pins s J H _ us Q I rv ⟨a,bs,rfl,bQ.of s1.1,p.here W rfl⟩
  ·exact p.elim
 ·exact p.elim
theorem ag2(hc:X.calm=G:=by rfl):eU X (.builtin "max") (rN X.K uf):=by
 intro pins s J H vs us Q I rv h;obtain⟨ρ,xs,c,W,rx,p⟩:=h;unfold uf at p;split at p
 ·obtain⟨v,r,rfl,hx,u,r',rfl,hu,hr⟩:=rx;cases hr;cases hx;cases hu;exact ahh hc pins s J H _ us Q I rv ⟨_,_,rfl,p.here W rfl⟩
 ·exact p.elim
theorem ag3:eU X (.builtin "abs") (rN X.K DS):=by
 intro pins s J H vs us Q I rv h;obtain⟨ρ,xs,c,W,rx,p⟩:=h;unfold DS at p;split at p
 ·obtain⟨v,r,rfl,hx,hr⟩:=rx;cases hr;cases hx;exact aho pins s J H _ us Q I rv ⟨_,rfl,p.here W rfl⟩
 ·exact p.elim
theorem mF:eU X (.type "tuple") (rN X.K dj):=by
 intro pins s J H vs us Q I rv h;obtain⟨ρ,xs,c,W,rx,p⟩:=h;unfold dj at p;split at p
 ·rename_i x;obtain⟨v,r,rfl,hx,hr⟩:=rx;cases hr;split at p
  ·rename_i l hl;obtain⟨a,ys,rfl,sq,r⟩:=Fi W hx hl;refine ahe pins s J H _ us Q I rv ⟨a,ys,rfl,?_⟩
   rcases sq with sq|sq
   ·exact .inl ⟨sq,Gj W r p⟩
   ·refine .inr ⟨sq,?_⟩;cases x with
    |tup m=>cases hl;exact p.here W hx
    |lst m =>
     obtain⟨b,zs,e,s1,_⟩:=hx;cases e;exfalso
     rcases sq with sq|⟨o,its,n,hk,hcl,_⟩
     ·rcases sq with sq|⟨o,sq⟩<;>(rw[s1.1]at sq;cases sq)
     ·have:=I.bs a o (I.ok.mod.l9 a o hk);rw[s1.1]at this;cases this.2
    |cP m =>
     exfalso;obtain⟨b,e,s1⟩:=hx;cases e;obtain⟨i1,_,pl,_⟩:=I.list s1.sql;obtain⟨i2,_,pt,_⟩:=I.tuple sq;obtain⟨o1,e1,c1,_⟩:=pl.isList;obtain⟨o2,e2,c2,_⟩:=pt;rw[e1]at e2;cases e2;rw[c1]at c2;exact absurd c2 ⋯
    |ref k =>
     exfalso;obtain⟨b,e,s1⟩:=hx;cases e;obtain⟨zs,hz⟩:=W.at' (UD s1)
     rcases sq with sq|⟨o,its,n,hk,hcl,_⟩
     ·rcases sq with sq|⟨o,sq⟩<;>(rw[hz]at sq;cases sq)
     ·have:=I.bs a o (I.ok.mod.l9 a o hk);rw[hz]at this;cases this.2
    |_=>cases hl
  ·exact p.elim
 ·exact p.elim
end
def gx(o a:af):af:=λe c=>(o e c).bind λx c=>match x with
 |.ref k=>(a e c).bind λy c=>match c[k]? with
  |some (.lst l)=>if l.length<Ω/\noRef y=G then .ok .aJ (c.set k (.lst (l++[y])))else .bad
  |none=>.bad
 |_=>.bad
theorem tT{apos:Pos}(ho:bu X o dO)(ha:bu X e da)(hbase:Y7 o "append" X.env (eval o X.env)=eval o X.env:=by rfl)(hfew:((U4 cpos (ε [e] X.env)).all (λx=>!x.1)&&(WY cpos (Wb [] X.env)).all (λx=>x.1.isSome)
   && decide ([e].length+([]:List VL).length+(if([]:List VL).isEmpty then 0 else 1)<30))=G:=by exact E3 rfl)(hline:(apos.endLine==cpos.line)=G:=by rfl)(hs:ε [e] X.env=(ξ,eval e X.env)::ε [] X.env:=by exact cO rfl)(hplain:(U4 cpos (ε [] X.env)).any (·.1)=ξ:=by exact fB rfl):
  bu X (.Call (.Attribute o "append" apos) [e] [] cpos) (gx dO da) :=
 (FZ YU PySem.F.slot_list_append PySem.F.type_list_append acE ho (jU ha kI hs) hbase hfew hline hs hplain).imp λJ H Q h=>by
  obtain⟨ρ,e,c,W,V,p⟩:=h;refine⟨ρ,e,c,W,V,post.bind p λx c1 aS H1 v _ W1 X1 r1 p1=>?_⟩
  cases x with
  |ref k =>
   obtain⟨a,rfl,ha⟩:=r1;obtain⟨xs,hx⟩:=W1.at' (UD ha);refine⟨.inl ⟨rfl,xs,bQ.of hx⟩,aS,e,c1,W1,V.mono W X1,post.bind p1 λy c2 dH H2 u _ W2 X2 r2 p2=>?_⟩
   split at p2
   ·rename_i l hl;split at p2
    ·rename_i hh;obtain⟨nr,ys,hy,rl⟩:=W2.gi k a _ (X2.pre k a ha) hl;refine⟨a,ys,u,rfl,rfl,hy,by rw[rl.length];exact hh.1,?_⟩
     refine p2 dH _ .aJ (W2.write (X2.pre k a ha) (by rw[wN,nr];simp[bW,hh.2]) (rl.append ⟨u,[],rfl,r2,rfl⟩)) (Ext.write (X2.pre k a ha)) rfl
    ·exact p2.elim
   ·exact p2.elim
  |_=>exact p1.elim
def TR(P:π)(w:υ)(K:Γ)(mg:Str->Option Δ)(base:τ)(A:ω)(n:Nat)(m:List D->aa->R D)(f:Ξ):Prop :=
 ∃k fd ps,fS P w K mg base e9 k f fd ps (fZ K n m)/\c8 k A/\PySem.W.keepIn K (.ref f)=G/\Binds K fd ps []
abbrev FnV(X:Cx)(n:Nat)(m:List D->aa->R D)(f:Ξ):Prop:=TR X.prog X.w X.K X.mg X.base X.A n m f
def nN(xs:List Str):Ev->aa->R Src:=λ_ c=>.ok ⟨xs.mapIdx λi x=>.fn x i,λ_=>True⟩ c
def CO(i n:Nat)(cJ:List (Str×(List D->aa->R D)))(a:aj):af:=λe c=>match e[i]? with
 |some (O (.fn x j))=>match cJ[j]? with
  |some (y,m)=>if x=y then(a e c).bind λxs c=>if xs.length=n then m xs c else .bad else .bad
  |none=>.bad
 |_=>.bad
section
variable {X:Cx}{tg:ν}
theorem adT{pos:Pos}{xs:List Str}{fs:List Ξ}(hm:X.mg x=O (.ref a))(hq:cF X.K (λ_=>Z) a (fs.map V.ref))(hf:∀(i:Nat) (y:Str),xs[i]? = O y->∃f,fs[i]? = O f/\μ X.K ι y=O (O (.ref f)))(hl:xs.length=fs.length)(hg:Gl X x:=by rfl)(hd:(x==("__debug__":Str))=ξ:=by decide):PId X tg (.Name x pos) (nN xs) :=
 (NT (Ad (v:=.ref a) hg hm rfl hd)).imp λJ H Q h=>by
  obtain⟨ρ,e,c,W,Vv,p⟩:=h;have sq:∀H',cF X.K H' a (fs.map V.ref):=λH'=>by
   rcases hq with(q|⟨o,q⟩)|q
   ·cases q
   ·cases q
   ·exact .inr q
  have rel:∀ρ' H' (g:Nat->Nat) (xs:List Str) (fs:List Ξ),(∀(i:Nat) (y:Str),xs[i]? = O y->∃f,fs[i]? = O f/\μ X.K ι y=O (O (.ref f)))->xs.length=fs.length->aR X.K ρ' H' (xs.mapIdx λi f=>.fn f (g i)) (fs.map V.ref):=by
   intro ρ' H' g xs
   induction xs generalizing g with
   |nil=>intro fs _ hl;cases fs with|nil=>exact rfl|cons _ _=>cases hl
   |cons y xs ih =>
    intro fs hf hl;cases fs with
    |nil=>cases hl
    |cons f fs =>
     rw[ZZ];refine⟨_,_,rfl,?_,ih (λi=>g (i+1)) fs (λi z hz=>hf (i+1) z hz) (Nat.succ.inj hl)⟩
     obtain⟨f',e1,e2⟩:=hf 0 y rfl;cases e1;exact⟨f,rfl,e2⟩
  exact⟨a,rfl,⟨_,sq H⟩,p.here W (Qk λρ' H' c' W' E _=>⟨_,sq H',rel ρ' H' id xs fs hf hl⟩)⟩
theorem aah(i:Nat){cJ:List (Str×(List D->aa->R D))}{pos:Pos}(hT:∀t∈cJ,∃f,μ X.K ι t.1=O (O (.ref f))/\FnV X n t.2 f)(ha:e7 X (e::es) da)(hN:X.N[i]? = O x:=by rfl)(hv:yY X.env.scope x:=by first|exact Or.inl rfl|exact Or.inr (Or.inl rfl)|exact Or.inr (Or.inr rfl))(hd:(x==("__debug__":Str))=ξ:=by decide)(hcd:(x==("__classdict__":Str))=ξ:=by decide)(he:ε (e::es) X.env=(ξ,eval e X.env)::ε es X.env:=by exact cO rfl)(hpl:(U4 pos (ε es X.env)).any (·.1)=ξ:=by exact fB rfl):
  bu X (.Call (.Name x p) (e::es) [] pos) (CO i n cJ da):=by
 intro pins s J H Q I h;obtain⟨ρ,e,c,W,Vv,q⟩:=h;unfold CO at q;split at q
 ·rename_i z j hf;obtain⟨v,hσ,f,rfl,rf⟩:=Vv.get i _ hf;split at q
  ·rename_i y m hy;split at q
   ·rename_i G1;subst G1;obtain⟨f',e1,k,fd,ps,F,hr,hk,hb⟩:=hT _ (UD hy);have e1:μ X.K ι z=O (O (.ref f')):=e1;rw[rf]at e1;cases e1;refine WH (bJ (FW hN hv hd hcd pins s J H (λv H1=>v=.ref f/\H1=H) I ⟨_,hσ,rfl,rfl⟩) λu s1 ⟨v,H1,I1,r1,q1⟩=>?_)
    obtain⟨rfl,rfl⟩:=q1;cases r1;refine ZL (h₀:=X.base) I1.ok.mod.l9 hk (bJ (ha pos pins s1 J H1 (λvs H2=>fZ X.K n m (vs++[]) H2 Q E0) I1 ⟨ρ,e,c,W,Vv,post.bind q λxs c1 aS H2 vs _ W1 X1 r1 p1=>?_⟩) λus s2 ⟨vs,H2,I2,r2,q2⟩=>⟨I2.fK,Np F hr hb .nil N4 I2 r2 q2⟩) he hpl
    split at p1
    ·rename_i hl;exact⟨aS,xs,c1,W1,by rw[VI];exact r1,hl,p1⟩
    ·exact p1.elim
   ·exact q.elim
  ·exact q.elim
 ·exact q.elim
end
section
variable (e:Ev) (c:aa) (a b d:af) (ta tb:ai) (s t:ah) (l:aj) (g:Gd) (gs:List D->Ev->aa->R Ev)
@[simp] theorem cg(i:Nat):ak i e c=match e[i]? with|some (O d)=>.ok d c|_=>.bad:=rfl
@[simp] theorem jJ(d:D):dC d e c=.ok d c:=rfl
@[simp] theorem eO(f:D->D->aa->R D):au f a b e c=(a e c).bind λx c=>(b e c).bind λy c=>f x y c:=rfl
@[simp] theorem x_un(f:D->aa->R D):mD f a e c=(a e c).bind λx c=>f x c:=rfl
@[simp] theorem gM(f:List D->aa->R D):aO f l e c=(l e c).bind λxs c=>f xs c:=rfl
@[simp] theorem aiZ(f g:D->D->aa->R D):r8 f g a b d e c=(a e c).bind λx c=>(b e c).bind λy c=>(f x y c).bind λz c=>match z with
 |.bl G=>(d e c).bind λu c=>g y u c
 |.bl ξ=>.ok (.bl ξ) c
 |_=>.bad:=rfl
@[simp] theorem cj:av e c=.ok [] c:=rfl
@[simp] theorem b7:ao a l e c=(a e c).bind λx c=>(l e c).bind λxs c=>.ok (x::xs) c:=rfl
@[simp] theorem zu:ck l e c=(l e c).bind λxs c=>if xs.length<=Ω then .ok (.tup xs) c else .bad:=rfl
@[simp] theorem KJ:cE l e c=(l e c).bind λxs c=>if xs.length<=Ω then .ok (.lst xs) c else .bad:=rfl
@[simp] theorem alv:fj l e c=(l e c).bind λxs c=>if xs.length<=Ω/\bW xs=G then .ok (.ref c.length) (c++[.lst xs])else .bad:=rfl
@[simp] theorem zx:aN a e c=(a e c).bind λx c=>match x with|.bl b=>.ok b c|_=>.bad:=rfl
@[simp] theorem aiy:yp a e c=(a e c).bind λx c=>match qA c x with|some b=>.ok b c|none=>.bad:=rfl
@[simp] theorem ai2:jh ta tb e c=(ta e c).bind λx c=>if x=G then tb e c else .ok ξ c:=rfl
@[simp] theorem aiD:fy ta tb e c=(ta e c).bind λx c=>if x=G then .ok G c else tb e c:=rfl
@[simp] theorem KG:dG ta e c=(ta e c).bind λx c=>.ok (!x) c:=rfl
@[simp] theorem KP:gG a b e c=(a e c).bind λx c=>match x with|.bl k=>if k=G then b e c else .ok (.bl ξ) c|_=>.bad:=rfl
@[simp] theorem aiE:HW a e c=(a e c).bind λx c=>match x with|.bl k=>.ok (.bl (!k)) c|_=>.bad:=rfl
@[simp] theorem als:qc ta a b e c=(ta e c).bind λx c=>if x=G then a e c else b e c:=rfl
@[simp] theorem x_call(n:Nat)(m:List D->aa->R D):aB n m l e c=(l e c).bind λxs c=>if xs.length=n then m xs c else .bad:=rfl
@[simp] theorem aiF:bA e c=.ok (.nx e) c:=rfl
@[simp] theorem ai1:ja e c=.bad:=rfl
@[simp] theorem i8:aC s t e c=(s e c).bind λf c=>match f with|.nx e=>t e c|f=>.ok f c:=rfl
@[simp] theorem i9:aK a e c=(a e c).bind λx c=>.ok (.rt x) c:=rfl
@[simp] theorem kD:dw a e c=(a e c).bind λ_ c=>.ok (.nx e) c:=rfl
@[simp] theorem kC:bz ta s t e c=(ta e c).bind λx c=>if x=G then s e c else t e c:=rfl
@[simp] theorem iL(i:Nat):aG i a e c=(a e c).bind λx c=>.ok (.nx (e.set i (O x))) c:=rfl
@[simp] theorem zy:g8 a g e c=(a e c).bind λx c=>(g x e c).bind λe c=>.ok (.nx e) c:=rfl
@[simp] theorem KO(i:Nat)(x:D):aA i x e c=.ok (e.set i (O x)) c:=rfl
@[simp] theorem aiS:eT [] e c=.ok e c:=rfl
@[simp] theorem aiT(x:D)(xs:List D):bR g gs (x::xs) e c=(g x e c).bind λe c=>gs xs e c:=rfl
@[simp] theorem aiR(n:Nat)(xs:List D):dU n gs (.tup xs) e c=if xs.length=n then gs xs e c else .bad:=rfl
@[simp] theorem KN(x:D):nL a b x e c=(a e c).bind λo c=>(b e c).bind λi c=>(m7 o i x c).bind λ_ c=>.ok e c:=rfl
@[simp] theorem jl(sr:Ev->aa->R Src):bY sr g s e c=(sr e c).bind λq c=>cZ q.stays g s q.items e c:=rfl
@[simp] theorem fF(n:Nat)(own:Bool)(xs:List D):bh n own s xs c=(s (cW n xs) c).bind λf c'=>match f with
 |.rt v=>cU own c.length v c'
 |.nx _=>cU own c.length .aJ c'
 |_=>.bad:=rfl
@[simp] theorem aiz(n:Nat)(xs:List D):cW n xs=xs.map O++ο (n-xs.length) Z:=rfl
@[simp] theorem gy(sr:Ev->aa->R Src)(pick:List (Option Nat)):aX sr pick g ta a e c=(sr e c).bind λq c =>
 if q.items.length<Ω then(bT q.stays g ta a q.items (cX pick e) [] c).bind λl c=>.ok (.lst l) c else .bad:=rfl
@[simp] theorem oj:aP e c=.ok G c:=rfl
@[simp] theorem qy(i j:Int):aZ (.int i) (.int j) c=.ok (.int (i+j)) c:=rfl
@[simp] theorem ai3(x y:List D):aZ (.tup x) (.tup y) c=if x.length≠0/\x.length+y.length<=Ω then .ok (.tup (x++y)) c else .bad:=rfl
@[simp] theorem zv(i j:Int):bO (.int i) (.int j) c=.ok (.int (i-j)) c:=rfl
theorem KI(i j:Int):aT (.int i) (.int j) c=if(-(2^64)<i/\i<2^64)\/(-(2^64)<j/\j<2^64)then .ok (.int (i*j)) c else .bad:=rfl
theorem alq(i j:Int):fu (.int i) (.int j) c=if 0<j/\j<1073741824 then .ok (.int (i/j)) c else .bad:=rfl
theorem alx(i j:Int):bZ (.int i) (.int j) c=if 0<j then .ok (.int (i % j)) c else .bad:=rfl
theorem alm(i j:Int):tQ (.int i) (.int j) c=if 0<=j/\j<=1000000/\i.natAbs<2^64 then .ok (.int (i^j.toNat)) c else .bad:=rfl
@[simp] theorem aiI(i:Int):wO (.int i) c=.ok (.int (-i)) c:=rfl
@[simp] theorem aiY(p:Int->Int->Bool)(i j:Int):se p (.int i) (.int j) c=.ok (.bl (p i j)) c:=rfl
@[simp] theorem alr(i j:Int):cB (.int i) (.int j) c=.ok (.bl (decide (i=j))) c:=rfl
@[simp] theorem aiH(i j:Int):cS (.int i) (.int j) c=.ok (.bl (!decide (i=j))) c:=rfl
@[simp] theorem aiX(i j:Bool):cB (.bl i) (.bl j) c=.ok (.bl (decide (i=j))) c:=rfl
@[simp] theorem aiJ(i j:Bool):cS (.bl i) (.bl j) c=.ok (.bl (!decide (i=j))) c:=rfl
@[simp] theorem aiW(i j:Str):cB (.str i) (.str j) c=.ok (.bl (decide (i=j))) c:=rfl
@[simp] theorem aiG(i j:Str):cS (.str i) (.str j) c=.ok (.bl (!decide (i=j))) c:=rfl
@[simp] theorem x_is(x:D):kP x .aJ c=.ok (.bl (fD x)) c:=rfl
@[simp] theorem aiO(x:D):jA x .aJ c=.ok (.bl (!fD x)) c:=rfl
@[simp] theorem ajy:fD .aJ=G:=rfl
@[simp] theorem n_bl(b:Bool):fD (.bl b)=ξ:=rfl
@[simp] theorem ajA(b:Int):fD (.int b)=ξ:=rfl
@[simp] theorem ajx(b:Str):fD (.str b)=ξ:=rfl
@[simp] theorem ajw(b:List D):fD (.tup b)=ξ:=rfl
@[simp] theorem ajz(b:List D):fD (.lst b)=ξ:=rfl
@[simp] theorem EJ(xs:List D)(i:Int):aD (.tup xs) (.int i) c=match dB xs i with|some d=>.ok d c|none=>.bad:=rfl
@[simp] theorem sO(xs:List D)(i:Int):aD (.lst xs) (.int i) c=match dB xs i with|some d=>.ok d c|none=>.bad:=rfl
@[simp] theorem KL(xs:List D):bD [.tup xs] c=.ok (.int xs.length) c:=rfl
@[simp] theorem EI(xs:List D):bD [.lst xs] c=.ok (.int xs.length) c:=rfl
@[simp] theorem aiN(xs:List Int):bD [.cP xs] c=.ok (.int xs.length) c:=by
 show R.ok _ c=_;rw[T6]
@[simp] theorem alw(i j:Int):uf [.int i,.int j] c=.ok (.int (if j>i then j else i)) c:=rfl
@[simp] theorem ai4(i:Int):DS [.int i] c=.ok (.int (if i<0 then -i else i)) c:=rfl
@[simp] theorem aji:noRef .aJ=G:=rfl
@[simp] theorem r_bl(b:Bool):noRef (.bl b)=G:=rfl
@[simp] theorem ajk(b:Int):noRef (.int b)=G:=rfl
@[simp] theorem ajh(b:Str):noRef (.str b)=G:=rfl
@[simp] theorem aoS(b:List D):noRef (.tup b)=bW b:=by simp[noRef]
@[simp] theorem NF(b:List D):noRef (.lst b)=bW b:=by simp[noRef]
@[simp] theorem ajj:bW []=G:=by simp[bW]
@[simp] theorem ajl(d:D)(b:List D):bW (d::b)=(noRef d&&bW b):=by simp[bW]
@[simp] theorem q_bl(own:Bool)(n:Nat)(b:Bool):cU own n (.bl b) c=.ok (.bl b) (c.take n):=rfl
@[simp] theorem ajp(own:Bool)(n:Nat):cU own n .aJ c=.ok .aJ (c.take n):=rfl
@[simp] theorem ajr(own:Bool)(n:Nat)(b:Int):cU own n (.int b) c=.ok (.int b) (c.take n):=rfl
@[simp] theorem ajo(own:Bool)(n:Nat)(b:Str):cU own n (.str b) c=.ok (.str b) (c.take n):=rfl
@[simp] theorem wz(own:Bool)(n:Nat)(b:List D):cU own n (.tup b) c=if bW b=G then .ok (.tup b) (c.take n)else .bad:=by
 show(if noRef (.tup b)=G then R.ok (D.tup b) (c.take n)else R.bad)=_
 rw[aoS]
@[simp] theorem ajq(own:Bool)(n:Nat)(b:List D):cU own n (.lst b) c=if bW b=G then .ok (.lst b) (c.take n)else .bad:=by
 show(if noRef (.lst b)=G then R.ok (D.lst b) (c.take n)else R.bad)=_
 rw[NF]
@[simp] theorem mT:bH l e c=(l e c).bind λxs c=>match xs with
 |[.int j]=>if -(2^62)<=j/\j<2^62 then .ok ⟨aY 0 j,λ_=>True⟩ c else .bad
 |_=>.bad:=rfl
@[simp] theorem aiB:kj l e c=(l e c).bind λxs c=>match xs with
 |[.int i,.int j]=>if -(2^62)<=i/\i<2^62/\-(2^62)<=j/\j<2^62 then .ok ⟨aY i j,λ_=>True⟩ c else .bad
 |_=>.bad:=rfl
@[simp] theorem zw:eX a e c=(a e c).bind λx c=>match x with
 |.lst l=>.ok ⟨l,λ_=>True⟩ c
 |.cP l=>.ok ⟨l.map D.int,λ_=>True⟩ c
 |.ref k=>match c[k]? with
  |some (.lst l)=>.ok ⟨l,λc=>c[k]? = O (.lst l)⟩ c
  |none=>.bad
 |_=>.bad:=rfl
@[simp] theorem KD:c9 a e c=(a e c).bind λx c=>match x with
 |.tup l=>.ok ⟨l,λ_=>True⟩ c
 |_=>.bad:=rfl
@[simp] theorem ai0(i n:Nat)(cJ:List (Str×(List D->aa->R D))):CO i n cJ l e c=match e[i]? with
 |some (O (.fn x j))=>match cJ[j]? with
  |some (y,m)=>if x=y then(l e c).bind λxs c=>if xs.length=n then m xs c else .bad else .bad
  |none=>.bad
 |_=>.bad:=rfl
end
section
variable (g:Gd) (s:ah) (t:ai) (a:af) (e:Ev) (c:aa)
@[simp] theorem akc:cZ (λ_=>True) g s [] e c=.ok (.nx e) c:=by simp[cZ]
@[simp] theorem kg(x:D)(xs:List D):cZ (λ_=>True) g s (x::xs) e c=(g x e c).bind λe c=>(s e c).bind λf c=>match f with
   |.nx e=>cZ (λ_=>True) g s xs e c
   |.ct e=>cZ (λ_=>True) g s xs e c
   |.bk e=>.ok (.nx e) c
   |.rt d=>.ok (.rt d) c:=by
 exact if_pos trivial
@[simp] theorem akk(acc:List D):bT (λ_=>True) g t a [] e acc c=.ok acc c:=by simp[bT]
@[simp] theorem lA(x:D)(xs acc:List D):bT (λ_=>True) g t a (x::xs) e acc c=(g x e c).bind λe c=>(t e c).bind λk c=>if k=G then(a e c).bind λy c=>bT (λ_=>True) g t a xs e (acc++[y]) c else bT (λ_=>True) g t a xs e acc c:=by
 exact if_pos trivial
end
@[simp] theorem gz{α:Type}(a:α)(l:List α):(a::l)[0]? = O a:=rfl
@[simp] theorem gs{α:Type}(a:α)(l:List α)(n:Nat):(a::l)[n+1]? = l[n]?:=rfl
@[simp] theorem sE{α:Type}(a:α)(l:List α):dB (a::l) 0=O a:=by simp[dB,gu]
@[simp] theorem at1{α:Type}(a b:α)(l:List α):dB (a::b::l) 1=O b:=by
 unfold dB gu;rw[if_pos ⋯,if_pos (by simp;omega)]
 rfl
@[simp] theorem at2{α:Type}(a b d:α)(l:List α):dB (a::b::d::l) 2=O d:=by
 unfold dB gu;rw[if_pos ⋯,if_pos (by simp;omega)]
 rfl
@[simp] theorem at3{α:Type}(a b d f:α)(l:List α):dB (a::b::d::f::l) 3=O f:=by
 unfold dB gu;rw[if_pos ⋯,if_pos (by simp;omega)]
 rfl
@[simp] theorem at4{α:Type}(a b d f h:α)(l:List α):dB (a::b::d::f::h::l) 4=O h:=by
 unfold dB gu;rw[if_pos ⋯,if_pos (by simp;omega)]
 rfl
theorem dS(h:n<=1000):n<=Ω:=UK h ⋯
@[simp] theorem sl0:(0:Nat)<=Ω:=V9 _
@[simp] theorem sl1:(1:Nat)<=Ω:=⋯
@[simp] theorem sl2:(2:Nat)<=Ω:=⋯
@[simp] theorem sl3:(3:Nat)<=Ω:=⋯
@[simp] theorem sl4:(4:Nat)<=Ω:=⋯
@[simp] theorem sl5:(5:Nat)<=Ω:=⋯
@[simp] theorem sl6:(6:Nat)<=Ω:=⋯
@[simp] theorem st0:(0:Nat)<Ω:=⋯
@[simp] theorem st1:(1:Nat)<Ω:=⋯
@[simp] theorem st2:(2:Nat)<Ω:=⋯
@[simp] theorem st3:(3:Nat)<Ω:=⋯
@[simp] theorem LN:(4:Nat)<Ω:=⋯
@[simp] theorem qJ:(5:Nat)<Ω:=⋯
@[simp] theorem aj0(i:Int)(c:aa):cM [.int i,.ty "int"] c=.ok (.bl G) c:=rfl
@[simp] theorem aj1(i:Int)(c:aa):cM [.int i,.ty "bool"] c=.ok (.bl ξ) c:=rfl
@[simp] theorem ajY(i:Int)(c:aa):cM [.int i,.ty "str"] c=.ok (.bl ξ) c:=rfl
@[simp] theorem ajX(i:Int)(c:aa):cM [.int i,.ty "tuple"] c=.ok (.bl ξ) c:=rfl
@[simp] theorem ajZ(i:Int)(c:aa):cM [.int i,.ty "list"] c=.ok (.bl ξ) c:=rfl
@[simp] theorem aj5(i:Bool)(c:aa):cM [.bl i,.ty "int"] c=.ok (.bl G) c:=rfl
@[simp] theorem aj6(i:Bool)(c:aa):cM [.bl i,.ty "bool"] c=.ok (.bl G) c:=rfl
@[simp] theorem aj3(i:Bool)(c:aa):cM [.bl i,.ty "str"] c=.ok (.bl ξ) c:=rfl
@[simp] theorem aj2(i:Bool)(c:aa):cM [.bl i,.ty "tuple"] c=.ok (.bl ξ) c:=rfl
@[simp] theorem aj4(i:Bool)(c:aa):cM [.bl i,.ty "list"] c=.ok (.bl ξ) c:=rfl
@[simp] theorem ajL(i:Str)(c:aa):cM [.str i,.ty "int"] c=.ok (.bl ξ) c:=rfl
@[simp] theorem ajM(i:Str)(c:aa):cM [.str i,.ty "bool"] c=.ok (.bl ξ) c:=rfl
@[simp] theorem ajJ(i:Str)(c:aa):cM [.str i,.ty "str"] c=.ok (.bl G) c:=rfl
@[simp] theorem ajI(i:Str)(c:aa):cM [.str i,.ty "tuple"] c=.ok (.bl ξ) c:=rfl
@[simp] theorem ajK(i:Str)(c:aa):cM [.str i,.ty "list"] c=.ok (.bl ξ) c:=rfl
@[simp] theorem ajQ(c:aa):cM [.aJ,.ty "int"] c=.ok (.bl ξ) c:=rfl
@[simp] theorem ajR(c:aa):cM [.aJ,.ty "bool"] c=.ok (.bl ξ) c:=rfl
@[simp] theorem ajO(c:aa):cM [.aJ,.ty "str"] c=.ok (.bl ξ) c:=rfl
@[simp] theorem ajN(c:aa):cM [.aJ,.ty "tuple"] c=.ok (.bl ξ) c:=rfl
@[simp] theorem ajP(c:aa):cM [.aJ,.ty "list"] c=.ok (.bl ξ) c:=rfl
@[simp] theorem ajG(i:List D)(c:aa):cM [.tup i,.ty "int"] c=.ok (.bl ξ) c:=rfl
@[simp] theorem ajH(i:List D)(c:aa):cM [.tup i,.ty "bool"] c=.ok (.bl ξ) c:=rfl
@[simp] theorem ajE(i:List D)(c:aa):cM [.tup i,.ty "str"] c=.ok (.bl ξ) c:=rfl
@[simp] theorem ajD(i:List D)(c:aa):cM [.tup i,.ty "tuple"] c=.ok (.bl G) c:=rfl
@[simp] theorem ajF(i:List D)(c:aa):cM [.tup i,.ty "list"] c=.ok (.bl ξ) c:=rfl
@[simp] theorem ajV(i:List D)(c:aa):cM [.lst i,.ty "int"] c=.ok (.bl ξ) c:=rfl
@[simp] theorem ajW(i:List D)(c:aa):cM [.lst i,.ty "bool"] c=.ok (.bl ξ) c:=rfl
@[simp] theorem ajT(i:List D)(c:aa):cM [.lst i,.ty "str"] c=.ok (.bl ξ) c:=rfl
@[simp] theorem ajS(i:List D)(c:aa):cM [.lst i,.ty "tuple"] c=.ok (.bl ξ) c:=rfl
@[simp] theorem ajU(i:List D)(c:aa):cM [.lst i,.ty "list"] c=.ok (.bl G) c:=rfl
section
variable (c:aa) {i j:Int}
theorem gS(h1:-18446744073709551616<i)(h2:i<18446744073709551616):aT (.int i) (.int j) c=.ok (.int (i*j)) c:=by
 rw[KI,if_pos];exact .inl ⟨∅,∅⟩
theorem mul_r(h1:-18446744073709551616<j)(h2:j<18446744073709551616):aT (.int i) (.int j) c=.ok (.int (i*j)) c:=by
 rw[KI,if_pos];exact .inr ⟨∅,∅⟩
theorem i6(h1:0<j)(h2:j<1073741824):fu (.int i) (.int j) c=.ok (.int (i/j)) c:=by
 rw[alq,if_pos ⟨h1,h2⟩]
theorem gT(h1:0<j):bZ (.int i) (.int j) c=.ok (.int (i % j)) c:=by
 rw[alx,if_pos h1]
theorem NN(h1:0<=j)(h2:j<=1000000)(h3:i.natAbs<18446744073709551616):tQ (.int i) (.int j) c=.ok (.int (i^j.toNat)) c:=by
 rw[alm,if_pos ⟨h1,h2,h3⟩]
end
section
variable {g:Gd}{s:ah}{t:ai}{a:af}
theorem mE(inv:Ev->Prop)(F:D->Bool)(Θ:D->D):∀(items:List D) (e:Ev) (acc:List D),inv e ->
  (∀x∈items,∀e,inv e->∃e',g x e c=.ok e' c/\inv e'/\t e' c=.ok (F x) c/\(F x=G->a e' c=.ok (Θ x) c)) ->
  bT (λ_=>True) g t a items e acc c=.ok (acc++(items.filter F).map Θ) c
 |[],e,acc,_,_=>by simp
 |x::xs,e,acc,hi,h=>by
  obtain⟨e',h1,h2,h3,h4⟩:=h x Ub e hi;rw[lA,h1,R.aF,h3,R.aF];cases hF:F x with
  |true =>
   rw[if_pos rfl,h4 hF,R.aF,mE inv F Θ xs e' _ h2 λy hy=>h y (UP _ hy)]
   simp[hF]
  |false =>
   rw[if_neg UC,mE inv F Θ xs e' _ h2 λy hy=>h y (UP _ hy)]
   simp[hF]
theorem RM(inv:Ev->Prop):∀(items:List D) (e:Ev) (c:aa),inv e ->
  (∀x∈items,∀e c,inv e->∃e' e'' c' c'',g x e c=.ok e' c'/\s e' c'=.ok (.nx e'') c''/\inv e'') ->
  ∃e' c',inv e'/\cZ (λ_=>True) g s items e c=.ok (.nx e') c'
 |[],e,c,hi,_=>⟨e,c,hi,by simp⟩
 |x::xs,e,c,hi,h=>by
  obtain⟨e',e'',c',c'',h1,h2,h3⟩:=h x Ub e c hi;obtain⟨e3,c3,i3,h4⟩:=RM inv xs e'' c'' h3 λy hy=>h y (UP _ hy)
  exact⟨e3,c3,i3,by rw[kg,h1,R.aF,h2];exact h4⟩
theorem HB(inv:Ev->aa->Prop):∀(items:List D) (e:Ev) (c:aa),inv e c ->
  (∀x∈items,∀e c,inv e c->∃e' e'' c' c'',g x e c=.ok e' c'/\s e' c'=.ok (.nx e'') c''/\inv e'' c'') ->
  ∃e' c',inv e' c'/\cZ (λ_=>True) g s items e c=.ok (.nx e') c'
 |[],e,c,hi,_=>⟨e,c,hi,by simp⟩
 |x::xs,e,c,hi,h=>by
  obtain⟨e',e'',c',c'',h1,h2,h3⟩:=h x Ub e c hi;obtain⟨e3,c3,i3,h4⟩:=HB inv xs e'' c'' h3 λy hy=>h y (UP _ hy)
  exact⟨e3,c3,i3,by rw[kg,h1,R.aF,h2];exact h4⟩
end
theorem qZ{lo:Int}(h:d∈aY lo hi):∃i:Int,d=.int i/\lo<=i/\i<hi:=by
 obtain⟨k,hk,rfl⟩:=H8.mp h;have:=gq.mp hk;exact⟨lo+k,rfl,∅,∅⟩
theorem eY{lo:Int}:(aY lo hi).length=(hi-lo).toNat:=by simp[aY]
def eZ(c:aa):D->Option (List D)
 |.lst l=>O l
 |.ref k=>match c[k]? with
  |some (.lst l)=>O l
  |none=>Z
 |_=>Z
def jo(c:aa):D->aa->Prop
 |.ref k=>λc'=>c'[k]? = c[k]?
 |_=>λ_=>True
def fY:D->D->aa->R D:=λx y c=>match eZ c x,eZ c y with
 |some l,O m=>if l.length+m.length<=Ω then .ok (.lst (l++m)) c else .bad
 |_,_=>.bad
def cutD(xs:List D)(lo hi:Option Int):List D:=(xs.drop (HT.f7 xs.length 0 lo)).take (HT.f7 xs.length xs.length hi-HT.f7 xs.length 0 lo)
def k9(a:af)(lo hi:Ev->aa->R (Option Int)):af:=λe c=>(a e c).bind λx c=>(lo e c).bind λl c=>(hi e c).bind λu c=>match eZ c x with
 |some xs=>.ok (.lst (cutD xs l u)) c
 |none=>.bad
def ly:Ev->aa->R (Option Int):=λ_ c=>.ok Z c
def lq(a:af):Ev->aa->R (Option Int):=λe c=>(a e c).bind λx c=>match x with
 |.int i=>.ok (O i) c
 |_=>.bad
def ki(a:aj):Ev->aa->R Src:=λe c=>(a e c).bind λxs c=>match xs with
 |[.tup l,.tup m]=>.ok ⟨List.zipWith (λx y=>.tup [x,y]) l m,λ_=>True⟩ c
 |[x,y]=>match eZ c x,eZ c y with
  |some l,O m=>.ok ⟨List.zipWith (λx y=>.tup [x,y]) l m,λc'=>jo c x c'/\jo c y c'⟩ c
  |_,_=>.bad
 |_=>.bad
section
variable {X:Cx}{K:Γ}{ρ ρ':List Ξ}{H H':Hp}{c c':aa}
theorem nE(W:Wd K ρ H c)(rx:Rel K ρ H x v)(h:eZ c x=O l):∃a xs,v=.ref a/\H a=O (.lst xs)/\aR K ρ H l xs:=by
 cases x with
 |lst m =>
  cases h;obtain⟨a,xs,e,s,r⟩:=rx;exact⟨a,xs,e,s.1,r⟩
 |ref k =>
  obtain⟨a,e,s⟩:=rx;unfold eZ at h;dsimp only at h;cases hc:c[k]? with
  |none=>rw[hc]at h;cases h
  |some cl =>
   cases cl with
   |lst m =>
    rw[hc]at h;cases h;obtain⟨_,xs,hx,r⟩:=W.gi k a _ s hc;exact⟨a,xs,e,hx,r⟩
 |_=>cases h
theorem PJ(W:Wd K ρ H c)(W':Wd K ρ' H' c')(E:Ext ρ H ρ' H')(rx:Rel K ρ H x v)(h:eZ c x=O l)(st:jo c x c')(e:v=.ref a):∃xs,bQ K H' a xs/\aR K ρ' H' l xs:=by
 have am3:=Rel.mono W E x v rx;have h':eZ c' x=O l:=by
  cases x with
  |lst m=>exact h
  |ref k =>
   have st:c'[k]? = c[k]?:=st;unfold eZ at h ⊢;dsimp only at h ⊢;rw[st];exact h
  |_=>cases h
 obtain⟨b,xs,e2,hx,r⟩:=nE W' am3 h';rw[e]at e2;cases e2;exact⟨xs,bQ.of hx,r⟩
theorem tZ:bX X (binaryOp .Add) (r2 X.K fY):=by
 intro pins s J H v u vv uu Q I rv ru h;obtain⟨ρ,x,y,c,W,rx,ry,p⟩:=h;unfold fY at p;split at p
 ·rename_i l m hl hm;split at p
  ·rename_i hz;obtain⟨a,xs,rfl,ha,ra⟩:=nE W rx hl;obtain⟨b,ys,rfl,hb,rb⟩:=nE W ry hm;exact aaM pins s J H _ _ vv uu Q I rv ru ⟨a,b,xs,ys,rfl,rfl,ha,hb,by rw[ra.length,rb.length];exact hz,qW W (ra.append rb) p⟩
  ·exact p.elim
 ·exact p.elim
abbrev D0(X:Cx)(e:Option ν)(d:Ev->aa->R (Option Int)):Prop:=PO X e (tD X.K (λ_ _ a b=>a=b) d)
theorem PO.imp(h:PO X e t)(i:∀J H Q,t' J H Q->t J H Q):PO X e t':=λpins s J H Q I q=>h pins s J H Q I (i _ _ _ q)
theorem FP:D0 X Z ly:=apV.imp λJ H Q h=>by
 obtain⟨ρ,e,c,W,Vv,p⟩:=h;exact p.here W rfl
theorem FO(h:bu X e d):D0 X (O e) (lq d):=(apW h).imp λJ H Q h=>by
 obtain⟨ρ,e,c,W,Vv,p⟩:=h;refine⟨ρ,e,c,W,Vv,post.bind p λx c1 aS H1 v _ W1 X1 r1 p1=>?_⟩
 cases x with
 |int i=>cases r1;exact⟨i,rfl,p1.here W1 rfl⟩
 |_=>exact p1.elim
theorem agy{xs:List V}{lo:Option Int}(r:aR K ρ H l xs):aR K ρ H (cutD l lo hi) (vc xs lo hi):=by
 unfold cutD vc;rw[r.length];exact(r.drop _).take _
theorem F0{lo:Option ν}{pos:Pos}{dl dh:Ev->aa->R (Option Int)}(he:bu X e da)(hl:D0 X lo dl)(hh:D0 X hi dh):bu X (.Subscript e (.Slice lo hi Z p2) pos) (k9 da dl dh) :=
 (apu anh he hl hh).imp λJ H Q h=>by
  obtain⟨ρ,e,c,W,Vv,p⟩:=h;refine⟨ρ,e,c,W,Vv,post.bind p λx c1 aS H1 v _ W1 X1 r1 p1=>⟨aS,e,c1,W1,Vv.mono W X1,post.bind p1 λl c2 dH H2 l' _ W2 X2 r2 p2=>⟨dH,e,c2,W2,(Vv.mono W X1).mono W1 X2,post.bind p2 λu c3 qx H3 u' _ W3 X3 r3 p3=>?_⟩⟩⟩
  cases r2;cases r3;split at p3
  ·rename_i xs hs;obtain⟨a,ys,rfl,ha,r⟩:=nE W3 (Rel.mono W1 (X2.trans X3) _ _ r1) hs;exact⟨a,ys,rfl,bQ.of ha,qW W3 (agy r) p3⟩
  ·exact p3.elim
theorem PI.or{iter:ν}(h:PI X tg iter t)(h':PI X tg iter t'):PI X tg iter (λJ H R=>t J H R\/t' J H R):=λpins s J H R I q=>q.elim (h pins s J H R I) (h' pins s J H R I)
theorem adp{st:aa->Prop}(h:∀ρ' H' c',Wd K ρ' H' c'->Ext ρ H ρ' H'->st c'->∃xs ys,bQ K H' a xs/\bQ K H' b ys/\aR K ρ' H' l xs/\aR K ρ' H' m ys):JS K ρ H ⟨List.zipWith (λx y=>.tup [x,y]) l m,st⟩ (D6 (bQ K) a b):=by
 intro ρ' H' c' W E s i;obtain⟨xs,ys,q1,q2,r1,r2⟩:=h ρ' H' c' W E s;refine⟨λd hd=>?_,λe=>⟨xs,ys,q1,q2,?_⟩⟩
 ·have hd:(List.zipWith (λx y=>D.tup [x,y]) l m)[i]? = O d:=hd
  rw[Zc]at hd;cases e1:l[i]? with
  |none=>rw[e1]at hd;cases hd
  |some x =>
   cases e2:m[i]? with
   |none=>rw[e1,e2]at hd;cases hd
   |some y =>
    rw[e1,e2]at hd;cases hd;obtain⟨v,hv,rv⟩:=r1.get e1;obtain⟨u,hu,ru⟩:=r2.get e2;refine⟨⟨xs,ys,v,u,q1,q2,hv,hu⟩,λz H2 hz=>?_⟩
    obtain⟨t,v',u',rfl,ht,rfl,hz⟩:=hz;obtain⟨z1,z2⟩:=hz xs ys q1 q2;rw[hv]at z1;rw[hu]at z2;cases z1;cases z2;exact⟨W.fresh ht,Ext.fresh W ht,t,[v,u],rfl,fG,v,[u],rfl,Rel.mono W (Ext.fresh W ht) _ _ rv,u,[],rfl,Rel.mono W (Ext.fresh W ht) _ _ ru,rfl⟩
 ·have e:i=(List.zipWith (λx y=>D.tup [x,y]) l m).length:=e
  rw[YW]at e;rw[r1.length,r2.length];omega
theorem Bf{pt:Pos}{pos:Pos}(ha:e7 X [a,b] da)(hm:X.mg "zip"=Z)(hg:Gl X "zip":=by rfl)(hs:ε [a,b] X.env=[(ξ,eval a X.env),(ξ,eval b X.env)]:=by exact LM rfl rfl)(hs2:ε [b] X.env=[(ξ,eval b X.env)]:=by exact oM rfl):
  PId X (.Tuple es k pt) (.Call (.Name "zip" p) [a,b] [] pos) (ki da):=((apP hg hm ha hs hs2).or (apO hg hm ha hs hs2)).imp λJ H Q h=>by
 obtain⟨ρ,e,c,W,Vv,p⟩:=h;cases hd:da e c with
 |bad=>unfold ki at p;rw[hd]at p;exact p.elim
 |ok xs c1 =>
  have p0:=p;unfold ki at p0;rw[hd,R.aF]at p0;split at p0
  ·left
   refine⟨ρ,e,c,W,Vv,?_⟩;rw[hd];intro aS H1 vs W1 X1 r1;obtain⟨y,ys,rfl,ry,z,zs,rfl,rz,rs⟩:=r1;cases rs;obtain⟨a1,xs,rfl,s1,t1⟩:=ry;obtain⟨a2,ys,rfl,s2,t2⟩:=rz;exact⟨a1,a2,rfl,⟨xs,ys,cF.of s1,cF.of s2⟩,post.here (post.ext p0 X1) W1 (adq λρ' H' c' W' E _=>⟨xs,ys,cF.of (vI W1 E s1),cF.of (vI W1 E s2),aR.mono W1 E _ _ t1,aR.mono W1 E _ _ t2⟩)⟩
  ·rename_i x y _;split at p0
   ·rename_i l m hl hm'
    right
    refine⟨ρ,e,c,W,Vv,?_⟩;rw[hd];intro aS H1 vs W1 X1 r1;obtain⟨v,ys,rfl,ry,u,zs,rfl,rz,rs⟩:=r1;cases rs;obtain⟨a1,xs,rfl,s1,t1⟩:=nE W1 ry hl;obtain⟨a2,ys,rfl,s2,t2⟩:=nE W1 rz hm';refine⟨a1,a2,rfl,⟨xs,ys,bQ.of s1,bQ.of s2⟩,post.here (post.ext p0 X1) W1 (adp λρ' H' c' W' E st=>?_)⟩
    obtain⟨xs',q1,q2⟩:=PJ W1 W' E ry hl st.1 rfl;obtain⟨ys',q3,q4⟩:=PJ W1 W' E rz hm' st.2 rfl;exact⟨xs',ys',q1,q3,q2,q4⟩
   ·exact p0.elim
  ·exact p0.elim
end
section
variable (e:Ev) (c:aa) (a:af) (lo hi:Ev->aa->R (Option Int)) (l:aj)
@[simp] theorem aeb:k9 a lo hi e c=(a e c).bind λx c=>(lo e c).bind λl c=>(hi e c).bind λu c=>match eZ c x with
 |some xs=>.ok (.lst (cutD xs l u)) c
 |none=>.bad:=rfl
@[simp] theorem aef:ly e c=.ok Z c:=rfl
@[simp] theorem alk:lq a e c=(a e c).bind λx c=>match x with
 |.int i=>.ok (O i) c
 |_=>.bad:=rfl
@[simp] theorem aiw:ki l e c=(l e c).bind λxs c=>match xs with
 |[.tup l,.tup m]=>.ok ⟨List.zipWith (λx y=>.tup [x,y]) l m,λ_=>True⟩ c
 |[x,y]=>match eZ c x,eZ c y with
  |some l,O m=>.ok ⟨List.zipWith (λx y=>.tup [x,y]) l m,λc'=>jo c x c'/\jo c y c'⟩ c
  |_,_=>.bad
 |_=>.bad:=rfl
@[simp] theorem adh(x:List D):eZ c (.lst x)=O x:=rfl
end
section
variable {g:Gd}{s:ah}{t:ai}{a:af}
theorem Ia(st:aa->Prop)(hst:st c)(inv:Ev->Prop)(F:D->Bool)(Θ:D->D):∀(items:List D) (e:Ev) (acc:List D),inv e ->
  (∀x∈items,∀e,inv e->∃e',g x e c=.ok e' c/\inv e'/\t e' c=.ok (F x) c/\(F x=G->a e' c=.ok (Θ x) c)) ->
  bT st g t a items e acc c=.ok (acc++(items.filter F).map Θ) c
 |[],e,acc,_,_=>by
  unfold bT;rw[if_pos hst];simp
 |x::xs,e,acc,hi,h=>by
  obtain⟨e',h1,h2,h3,h4⟩:=h x Ub e hi;unfold bT;rw[if_pos hst,h1,R.aF,h3,R.aF];cases hF:F x with
  |true =>
   rw[if_pos rfl,h4 hF,R.aF,Ia st hst inv F Θ xs e' _ h2 λy hy=>h y (UP _ hy)]
   simp[hF]
  |false =>
   rw[if_neg UC,Ia st hst inv F Θ xs e' _ h2 λy hy=>h y (UP _ hy)]
   simp[hF]
theorem DQ(ho:dO e (c++[.lst acc])=.ok (.ref c.length) (c++[.lst acc]))(ha:da e (c++[.lst acc])=.ok y (c++[.lst acc]))(hy:noRef y=G)(hl:acc.length+1<=1000000):
  gx dO da e (c++[.lst acc])=.ok .aJ (c++[.lst (acc++[y])]):=by
 have h1:acc.length<Ω:=TY (by omega:acc.length<1000000) ⋯
 unfold gx;rw[ho,R.aF];dsimp only;rw[ha,R.aF];have e1:(c++[Cell.lst acc])[c.length]? = O (.lst acc):=by simp
 have e2:(c++[Cell.lst acc]).set c.length (.lst (acc++[y]))=c++[.lst (acc++[y])]:=by simp
 rw[e1];dsimp only;rw[if_pos ⟨h1,hy⟩,e2]
end
mutual
def fE:D->Option Vk
 |.aJ=>O .none
 |.bl b=>O (.bool b)
 |.int i=>O (.int i)
 |.str x=>if PyData.strOk x=G then O (.str x)else Z
 |.tup l=>match gh l with
  |some r=>O (.tuple r)
  |none=>Z
 |.lst l=>match gh l with
  |some r=>O (.list r)
  |none=>Z
 |.ty _=>Z
 |.ref _=>Z
 |.cP _=>Z
 |.fn _ _=>Z
 |.exc _=>Z
 |.jg=>Z
 |.dct _=>Z
 |.lam _ _ _ _=>Z
def gh:List D->Option (List Vk)
 |[]=>O []
 |d::l=>match fE d,gh l with
  |some a,O r=>O (a::r)
  |_,_=>Z
end
def gw(c:aa):D->Option Vk
 |.ref k=>match c[k]? with
  |some (.lst l)=>match gh l with
   |some r=>O (.list r)
   |none=>Z
  |none=>Z
 |d=>fE d
def R4:D->D->aa->R D:=λx y c=>match gw c x,gw c y with
 |some p,O q=>if p.depth<=64/\q.depth<=64 then .ok (.bl (p.eqv q)) c else .bad
 |_,_=>.bad
def nv:D->D->aa->R D:=λx y c=>match gw c x,gw c y with
 |some p,O q=>if p.depth<=64/\q.depth<=64 then .ok (.bl (!p.eqv q)) c else .bad
 |_,_=>.bad
def inD:D->D->aa->R D:=λx y c=>match gw c x,gw c y with
 |some p,O (.list ys)=>if p.depth<=62 then .ok (.bl (ys.any λz=>z.eqv p)) c else .bad
 |some p,O (.tuple ys)=>if p.depth<=62 then .ok (.bl (ys.any λz=>z.eqv p)) c else .bad
 |_,_=>.bad
def lZ:D->D->aa->R D:=λx y c=>match gw c x,gw c y with
 |some p,O (.list ys)=>if p.depth<=62 then .ok (.bl (!ys.any λz=>z.eqv p)) c else .bad
 |some p,O (.tuple ys)=>if p.depth<=62 then .ok (.bl (!ys.any λz=>z.eqv p)) c else .bad
 |_,_=>.bad
section
variable {X:Cx}{pins:List (Ξ×Obj)}{J:St}{ρ:List Ξ}{H:Hp}{s:Ψ}{c:aa}
mutual
theorem jb(I:Inv X pins J H s):∀(d:D) (v:V) (u:Δ) (p:Vk),Rel X.K ρ H d v->RelV v u->fE d=O p->(∃as,Reads s.heap u p as)/\p.canLay0=G
 |.aJ,v,u,p,r,ru,e=>by
  cases r;cases ru;cases e;exact⟨⟨_,.none⟩,by simp[PyData.canLay0]⟩
 |.bl b,v,u,p,r,ru,e=>by
  cases r;cases ru;cases e;exact⟨⟨_,.bool b⟩,by simp[PyData.canLay0]⟩
 |.int i,v,u,p,r,ru,e=>by
  cases r;obtain⟨t,rfl⟩:=ru;cases e;exact⟨⟨_,.int i t⟩,by simp[PyData.canLay0]⟩
 |.str x,v,u,p,r,ru,e=>by
  cases r;obtain⟨t,rfl⟩:=ru;unfold fE at e;split at e
  ·rename_i hx;cases e;exact⟨⟨_,.str x t⟩,by simpa[PyData.canLay0]using hx⟩
  ·cases e
 |.tup l,v,u,p,r,ru,e=>by
  obtain⟨a,xs,rfl,ha,rs⟩:=r;cases ru;unfold fE at e;split at e
  ·rename_i q hq;cases e;obtain⟨its,vs,⟨o,h1,h2,n,h3⟩,_⟩:=I.tuple (cF.of ha);obtain⟨⟨as,ra⟩,hc⟩:=zZ I l xs its q rs vs hq;exact⟨⟨_,.tuple h1 h2 h3 (by simpa using ra)⟩,by simpa[PyData.canLay0]using hc⟩
  ·cases e
 |.lst l,v,u,p,r,ru,e=>by
  obtain⟨a,xs,rfl,ha,rs⟩:=r;cases ru;unfold fE at e;split at e
  ·rename_i q hq;cases e;obtain⟨its,vs,pl,_⟩:=I.list (bQ.of ha.1);obtain⟨o,h1,h2,n,h3⟩:=pl.isList;obtain⟨⟨as,ra⟩,hc⟩:=zZ I l xs its q rs vs hq;exact⟨⟨_,.list h1 h2 h3 (by simpa using ra)⟩,by simpa[PyData.canLay0]using hc⟩
  ·cases e
 |.ty _,v,u,p,r,ru,e=>by simp[fE]at e
 |.ref _,v,u,p,r,ru,e=>by simp[fE]at e
 |.cP _,v,u,p,r,ru,e=>by simp[fE]at e
 |.fn _ _,v,u,p,r,ru,e=>by simp[fE]at e
 |.exc _,v,u,p,r,ru,e=>by simp[fE]at e
 |.jg,v,u,p,r,ru,e=>by simp[fE]at e
 |.dct _,v,u,p,r,ru,e=>by simp[fE]at e
 |.lam _ _ _ _,v,u,p,r,ru,e=>by simp[fE]at e
theorem zZ(I:Inv X pins J H s):∀(l:List D) (vs:List V) (us:List Δ) (ps:List Vk),aR X.K ρ H l vs->Vals vs us->gh l=O ps->(∃as,ReadsAll s.heap us ps as)/\PyData.canLayAll0 ps=G
 |[],vs,us,ps,r,ru,e=>by
  cases r;cases ru;cases e;exact⟨⟨_,.nil⟩,by simp[PyData.canLayAll0]⟩
 |d::l,vs,us,ps,r,ru,e=>by
  obtain⟨x,xs,rfl,r1,r2⟩:=r;cases ru with
  |cons q1 q2 =>
   unfold gh at e;split at e
   ·rename_i a r e1 e2;cases e;obtain⟨⟨as,ra⟩,ca⟩:=jb I d x _ a r1 q1 e1;obtain⟨⟨bs,rb⟩,cb⟩:=zZ I l xs _ r r2 q2 e2;exact⟨⟨_,.cons ra rb⟩,by simp[PyData.canLayAll0,ca,cb]⟩
   ·cases e
end
theorem lT(I:Inv X pins J H s)(W:Wd X.K ρ H c)(r:Rel X.K ρ H d v)(ru:RelV v u)(e:gw c d=O p):(∃as,Reads s.heap u p as)/\p.canLay0=G:=by
 cases d with
 |ref k =>
  unfold gw at e;dsimp only at e;cases hc:c[k]? with
  |none=>rw[hc]at e;cases e
  |some cl =>
   cases cl with
   |lst l =>
    rw[hc]at e;dsimp only at e;split at e
    ·rename_i q hq;cases e;obtain⟨a,rfl,s1⟩:=r;cases ru;obtain⟨_,xs,hx,rs⟩:=W.gi k a _ s1 hc;obtain⟨its,vs,pl,_⟩:=I.list (bQ.of hx);obtain⟨o,h1,h2,n,h3⟩:=pl.isList;obtain⟨⟨as,ra⟩,hc⟩:=zZ I l xs its q rs vs hq;exact⟨⟨_,.list h1 h2 h3 (by simpa using ra)⟩,by simpa[PyData.canLay0]using hc⟩
    ·cases e
 |aJ=>exact jb I _ v u p r ru e
 |bl b=>exact jb I _ v u p r ru e
 |int b=>exact jb I _ v u p r ru e
 |str b=>exact jb I _ v u p r ru e
 |tup b=>exact jb I _ v u p r ru e
 |lst b=>exact jb I _ v u p r ru e
 |ty b=>exact jb I _ v u p r ru e
 |cP b=>exact jb I _ v u p r ru e
 |fn b n=>exact jb I _ v u p r ru e
 |exc b=>exact jb I _ v u p r ru e
 |dct b=>exact jb I _ v u p r ru e
 |jg=>exact jb I _ v u p r ru e
 |lam k y ns l=>exact jb I _ v u p r ru e
theorem abQ(hu:X.A.units+64<Uj):bX X (compareOp .NotEq) (r2 X.K nv):=by
 intro pins s J H v u vv uu Q I rv ru h;obtain⟨ρ,x,y,c,W,rx,ry,p⟩:=h;unfold nv at p;split at p
 ·rename_i a b ha hb;split at p
  ·rename_i hd;obtain⟨⟨as,ra⟩,ca⟩:=lT I W rx rv ha;obtain⟨⟨bs,rb⟩,cb⟩:=lT I W ry ru hb;exact PySem.SeqAt.compareNe_shaped ra rb (by simp[PySem.SeqAt.shaped,ca,hd.1]) (by simp[PySem.SeqAt.shaped,cb,hd.2]) hu ⟨.bl _,H,I,rfl,p.here W rfl⟩
  ·exact p.elim
 ·exact p.elim
theorem Bd{A:ω}{p:Vk}(hu:A.units+64<Uj)(hd:p.depth<=62):A.units+1+min (PyData.depthAll ys) p.depth<Uj:=by
 omega
theorem OM(hu:X.A.units+64<Uj):bX X (compareOp .In) (r2 X.K inD):=by
 intro pins s J H v u vv uu Q I rv ru h;obtain⟨ρ,x,y,c,W,rx,ry,p⟩:=h;unfold inD at p;split at p
 ·rename_i a ys ha hb;split at p
  ·rename_i hd;obtain⟨⟨as,ra⟩,ca⟩:=lT I W rx rv ha;obtain⟨⟨bs,rb⟩,cb⟩:=lT I W ry ru hb;exact PySem.SeqAt.in_list_reads rb ra (by simpa[PyData.canLay0]using cb) ca (Bd hu hd) ⟨.bl _,H,I,rfl,p.here W rfl⟩
  ·exact p.elim
 ·rename_i a ys ha hb;split at p
  ·rename_i hd;obtain⟨⟨as,ra⟩,ca⟩:=lT I W rx rv ha;obtain⟨⟨bs,rb⟩,cb⟩:=lT I W ry ru hb;exact PySem.SeqAt.in_tuple_reads rb ra (by simpa[PyData.canLay0]using cb) ca (Bd hu hd) ⟨.bl _,H,I,rfl,p.here W rfl⟩
  ·exact p.elim
 ·exact p.elim
theorem OL(hu:X.A.units+64<Uj):bX X (compareOp .NotIn) (r2 X.K lZ):=by
 intro pins s J H v u vv uu Q I rv ru h;obtain⟨ρ,x,y,c,W,rx,ry,p⟩:=h;unfold lZ at p;split at p
 ·rename_i a ys ha hb;split at p
  ·rename_i hd;obtain⟨⟨as,ra⟩,ca⟩:=lT I W rx rv ha;obtain⟨⟨bs,rb⟩,cb⟩:=lT I W ry ru hb;exact PySem.SeqAt.notIn_list_reads rb ra (by simpa[PyData.canLay0]using cb) ca (Bd hu hd) ⟨.bl _,H,I,rfl,p.here W rfl⟩
  ·exact p.elim
 ·rename_i a ys ha hb;split at p
  ·rename_i hd;obtain⟨⟨as,ra⟩,ca⟩:=lT I W rx rv ha;obtain⟨⟨bs,rb⟩,cb⟩:=lT I W ry ru hb;exact PySem.SeqAt.notIn_tuple_reads rb ra (by simpa[PyData.canLay0]using cb) ca (Bd hu hd) ⟨.bl _,H,I,rfl,p.here W rfl⟩
  ·exact p.elim
 ·exact p.elim
end
theorem uG{A:ω}(hr:c8 k A):A.units+64<Uj:=by have:=hr.un;omega
section
variable (c:aa)
@[simp] theorem akh:fE .aJ=O .none:=by simp only[fE]
@[simp] theorem akj(b:Bool):fE (.bl b)=O (.bool b):=by simp only[fE]
@[simp] theorem aki(i:Int):fE (.int i)=O (.int i):=by simp only[fE]
@[simp] theorem akg:gh []=O []:=by simp only[gh]
theorem Sm(l:List Int):gh (l.map D.int)=O (l.map PyData.int):=by
 induction l with
 |nil=>simp
 |cons a l ih=>simp[gh,ih]
end
end L2
namespace L2
open PySem PySem.Spec PyProof.Rows
section
variable {X:Cx}
theorem apd:∀(is:List Int),preSum (λi=>is.getD i 0) is.length=is.sum
 |is=>by
  have key:∀j,j<=is.length->preSum (λi=>is.getD i 0) j=(is.take j).sum:=by
   intro j
   induction j with
   |zero=>intro _;simp[preSum]
   |succ j ih =>
    intro hj;rw[preSum,ih ∅,List.take_add_one]
    have:is[j]? = O (is.getD j 0):=by
     rw[T7,I8 ∅];rfl
    rw[this];simp
  rw[key is.length (dD _),Us]
theorem ak4{is:List Int}(h:Vals (is.map V.int) its)(i:Nat)(v:Δ)(hv:its.toArray[i]? = O v):∃t,v=.int (is.getD i 0) t:=by
 have hl:=h.length;rw[T6]at hl;have hi:i<is.length:=by
  have:=(Array.getElem?_eq_some_iff.mp hv).1;simp at this;omega
 obtain⟨u,e,r⟩:=h.get (i:=i) (x:=V.int is[i]) (by simp)
 rw[List.getElem?_toArray]at hv;rw[hv]at e;cases e;obtain⟨t,rfl⟩:=r;exact⟨t,by rw[T7,I8 hi];rfl⟩
theorem ahf(hc:X.calm=G):eU X (.builtin "sum") (λxs H Q=>∃(p:Ξ) (is:List Int),xs=[.ref p]/\bQ X.K H p (is.map V.int)/\Q (.int is.sum) H):=by
 intro pins s J H xs us Q I r h;obtain⟨p,is,rfl,hp,q⟩:=h;obtain⟨u,rfl,ru⟩:=Ua r;cases ru;obtain⟨its,rv,pl,hz⟩:=I.list hp;have hL:=pl.isList;have hl:=rv.length;rw[T6]at hl;refine call_sum_walkAnyS (WK hL ⟨s.heap.objs.size,_,_,_,its.toArray.size,_,_,λi=>is.getD i 0,rfl,(Wo (A:=X.A.in1) (I.ok.hd hc) s.heap.objs.size p (by obtain⟨o,e,_⟩:=hL;exact T3 (IT e)) its.toArray).toS,⟨⟨_,T9 _ rfl,rfl,rfl⟩,hL.push _⟩,λb hb=>?_,λi v hv=>ak4 rv i v hv,λs' t' hm=>?_⟩)
 ·obtain⟨o,e,_⟩:=hL
  rcases AP.mp hb with rfl|hb
  ·exact IT (T9 _ rfl)
  ·obtain rfl:=UT.mp hb;exact IT (jn _ e)
 ·obtain⟨h',g',d',tk',os'⟩:=s';have e1:=hm.gens;have e2:=hm.drawn;have e3:os'=s.os:=hm.os;subst e1 e2 e3;have I1:Inv X pins J H {s with heap:=h',toks:=tk'}:=IE I λb o hb e=>hm.heap b o hb e
  refine⟨.int is.sum,H,I1,?_,q⟩;refine⟨t',?_⟩;rw[U1,<-hl,apd]
end
def qG:List D->aa->R D:=λxs c=>match xs with
 |[.lst l]=>match nI l with
  |some is=>.ok (.int is.sum) c
  |none=>.bad
 |_=>.bad
theorem ag1{X:Cx}(hc:X.calm=G:=by rfl):eU X (.builtin "sum") (rN X.K qG):=by
 intro pins s J H vs us Q I rv h;obtain⟨ρ,xs,c,W,rx,p⟩:=h;unfold qG at p;split at p
 ·split at p
  ·rename_i is hb;obtain⟨v,r,rfl,⟨a,ys,rfl,s1,r1⟩,hr⟩:=rx;cases hr;rw[GY hb]at r1;cases r1.GX;exact ahf hc pins s J H _ us Q I rv ⟨a,is,rfl,bQ.of s1.1,p.here W rfl⟩
  ·exact p.elim
 ·exact p.elim
theorem vals3(h:Vals [a,b,c] us):∃u v w,us=[u,v,w]/\RelV a u/\RelV b v/\RelV c w:=by
 cases h with
 |cons h1 h =>
  cases h with
  |cons h2 h =>
   cases h with
   |cons h3 h=>cases h;exact⟨_,_,_,rfl,h1,h2,h3⟩
theorem aoV{K:Γ}{H:Hp}(h:aR K ρ H [a,b,c] vs):∃u v w,vs=[u,v,w]/\Rel K ρ H a u/\Rel K ρ H b v/\Rel K ρ H c w:=by
 obtain⟨u,r,rfl,h1,v,r',rfl,h2,w,r'',rfl,h3,h4⟩:=h;cases h4;exact⟨u,v,w,rfl,h1,h2,h3⟩
section
variable (c:aa)
@[simp] theorem sum_ints(l:List Int):qG [.lst (l.map D.int)] c=.ok (.int l.sum) c:=by
 unfold qG;simp[Ba]
end
def D8(hi:Int)(n:Nat):It:=⟨λi _=>i<n,λi H x H'=>H'=H/\x=.int (hi-i),λi _=>n<=i⟩
theorem al6{P:π}{w:υ}{K:Γ}(it:Ξ)(hi:Int)(n:Nat):Turn P w K tg (D8 hi n) [it] it (λi h=>Y5 h it (hi+(i:Nat)*(-1)) ((n:Int)-(i:Nat)) (-1)) where
 mem:=by simp
 obj:=λi h st b hb=>by
  have e:b=it:=by simpa using hb
  subst e;exact⟨_,st,λv z=>by
   have z':Data.fields _=Data.cell v:=z;cases z'⟩
 keep:=λi h h' st k=>k it (by simp) _ st
 item:=by
  intro X hP hw hK hc i pins s J H E I hf st hg;subst hP hw hK;obtain⟨f0,f1,f2,f3,f4,f5⟩:=hf it (by simp)
  have W:=Walks.range (prog:=X.prog) (w:=X.w) (I.ok.hd hc) it hi (-1) n;refine W.item i s _ _ hg st λv h' tk hv st' kk=>?_
  obtain⟨t,rfl⟩:=hv;have I1:Inv X pins J H {s with heap:=h',toks:=tk}:=I.turned (λb o hb e=>kk b o (by simpa using hb) e) f0 f1 f3 f4 f5
  refine⟨_,rfl,ye (s:={s with heap:=h',toks:=tk}) (n:="range_iterator") st' rfl rfl ⋯ ⟨.int (hi-i),H,I1,⟨t,?_⟩,⟨rfl,rfl⟩,st',λb hb=>(hf b hb).1⟩⟩
  congr 1
  omega
 done:=by
  intro X hP hw hK hc i pins s J H E I hf st hg;subst hP hw hK;obtain⟨f0,f1,f2,f3,f4,f5⟩:=hf it (by simp)
  exact s8 (I.ok.hd hc) st (by have:n<=i:=hg;omega) λh' eb=>⟨rfl,I.turned (t':=s.toks) (λb o hb e=>eb b o hb e) f0 f1 f3 f4 f5⟩
 self:=λ_ _ _ _ _ st h=>r7 st h
theorem YT(a b:Int):Builtin.Range.rangeSize a b (-1)=if b<a then a-b else 0:=by
 unfold Builtin.Range.rangeSize;rw[if_neg ⋯]
 simp only[show(-(-1):Int)=1 by decide,Int.ediv_one]
 split<;>omega
theorem small_down{lo:Int}(h1:-(2^62)<=lo)(h2:lo<2^62)(h3:-(2^62)<=hi)(h4:hi<2^62):Builtin.Range.small hi lo (-1)=G:=by
 unfold Builtin.Range.small;rw[YT];simp only[Builtin.Range.rangeFitsLong,T5,Vw,decide_eq_true_eq,beq_iff_eq,show ¬((-1:Int)>0) by decide,if_false]
 split<;>omega
def kh(hi lo:Int):List D:=(θ (hi-lo).toNat).map fun(i:Nat)=>D.int (hi-(i:Int))
def uY(a:aj):Ev->aa->R Src:=λe c=>(a e c).bind λxs c=>match xs with
 |[.int i,.int j,.int s]=>if s = -1/\-(2^62)<=i/\i<2^62/\-(2^62)<=j/\j<2^62 then .ok ⟨kh i j,λ_=>True⟩ c else .bad
 |_=>.bad
section
variable {X:Cx}{tg:ν}{K:Γ}{ρ:List Ξ}{H:Hp}
theorem agg{R:It->Hp->Prop}{E:Δ->Ψ->Prop}{lo:Int}(I:Inv X pins J H s)(h1:-(2^62)<=lo)(h2:lo<2^62)(h3:-(2^62)<=hi)(h4:hi<2^62)(q:R (D8 hi (hi-lo).toNat) H):wpAny (model X.prog X.w) X.A (pyIter (.ref s.heap.objs.size)) (Kc X pins J tg R) E {s with heap:=s.heap.push {cls:=.type "range",data:=.fields #[.int hi t,.int lo u,.int (-1) v]},toks:=tk}:=by
 refine wpAny_pyIter_range (IsRange.new ..) (small_down h1 h2 h3 h4) ?_;have I1:Inv X pins J H {s with heap:=s.heap.push {cls:=.type "range",data:=.fields #[.int hi t,.int lo u,.int (-1) v]},toks:=tk}:=I.kept λb o e=>jn _ e
 refine⟨(s.heap.push {cls:=.type "range",data:=.fields #[.int hi t,.int lo u,.int (-1) v]}).objs.size,[(s.heap.push {cls:=.type "range",data:=.fields #[.int hi t,.int lo u,.int (-1) v]}).objs.size],_,_,H,rfl,
  I1.kept (t':=tk) λb o e=>jn _ e,al6 _ hi (hi-lo).toNat,?_,λb hb=>?_,q⟩
 ·have e1:hi+((0:Nat):Int)*(-1)=hi:=by simp
  have e2:(((hi-lo).toNat:Nat):Int)-((0:Nat):Int)=Builtin.Range.rangeSize hi lo (-1):=by rw[YT];split<;>omega
  show Y5 _ _ (hi+((0:Nat):Int)*(-1)) ((((hi-lo).toNat:Nat):Int)-((0:Nat):Int)) (-1);rw[e1,e2];exact T9 _ rfl
 ·have e:b=(s.heap.push {cls:=.type "range",data:=.fields #[.int hi t,.int lo u,.int (-1) v]}).objs.size:=by simpa using hb
  subst e;exact I1.uN (dD _) (I1.hok.fresh (dD _))
theorem adu{lo:Int}{st:aa->Prop}:JS K ρ H ⟨kh hi lo,st⟩ (D8 hi (hi-lo).toNat):=by
 intro ρ' H' c' W E s i;refine⟨λd hd=>?_,λe=>?_⟩
 ·have hd:(kh hi lo)[i]? = O d:=hd;unfold kh at hd;rw[U7,ZY]at hd;obtain⟨k,hk,rfl⟩:=hd;obtain⟨h1,h2⟩:=U3.mp hk;rw[YX]at h2;subst h2;have h1:i<(hi-lo).toNat:=by simpa using h1
  refine⟨h1,λx H2 hy=>?_⟩
  obtain⟨rfl,rfl⟩:=hy;exact⟨W,Ext.refl,rfl⟩
 ·have:(kh hi lo).length=(hi-lo).toNat:=by simp[kh]
  show(hi-lo).toNat<=i;rw[e];exact VU this.symm
def adX(ta:TA):TI:=λJ H R=>ta J H λvs H1=>∃i j:Int,vs=[.int i,.int j,.int (-1)]/\(-(2^62)<=i/\i<2^62/\-(2^62)<=j/\j<2^62)/\R (D8 i (i-j).toNat) H1
theorem an9{pos:Pos}(hg:Gl X "range")(hm:X.mg "range"=Z)(ha:PA X [a,b,c] ta)(hs:ε [a,b,c] X.env=(ξ,eval a X.env)::ε [b,c] X.env:=by exact cO rfl)(hs2:(U4 pos (ε [b,c] X.env)).any (·.1)=ξ:=by exact fB rfl):
  PI X tg (.Call (.Name "range" p) [a,b,c] [] pos) (adX ta):=by
 intro pins s J H R I h;refine Call_ (kO I hg hm boot_range (VV (bJ (ha pos pins s J H _ I h) λus s1 ⟨vs,H1,I1,r1,q1⟩=>?_) hs hs2))
 obtain⟨i,j,e,⟨q1,q2,q3,q4⟩,q⟩:=q1;subst e;obtain⟨u,v,w,rfl,⟨t1,rfl⟩,⟨t2,rfl⟩,⟨t3,rfl⟩⟩:=vals3 r1;exact call_range_3 ⋯ (agg I1 q3 q4 q1 q2 q) (.inl (r6 ⋯))
theorem adS{pos:Pos}(ha:e7 X [a,b,c] da)(hm:X.mg "range"=Z)(hg:Gl X "range":=by rfl)(hs:ε [a,b,c] X.env=(ξ,eval a X.env)::ε [b,c] X.env:=by exact cO rfl)(hs2:(U4 pos (ε [b,c] X.env)).any (·.1)=ξ:=by exact fB rfl):PId X tg (.Call (.Name "range" p) [a,b,c] [] pos) (uY da) :=
 (an9 hg hm ha hs hs2).imp λJ H Q h=>by
  obtain⟨ρ,e,c,W,V,p⟩:=h;refine⟨ρ,e,c,W,V,post.bind p λx c1 aS H1 v _ W1 X1 r1 p1=>?_⟩
  split at p1
  ·rename_i i j s _;split at p1
   ·rename_i hj;obtain⟨rfl,hj⟩:=hj;obtain⟨u,v,w,rfl,ru,rv,rw'⟩:=aoV r1;cases ru;cases rv;cases rw';exact⟨i,j,rfl,hj,p1.here W1 adu⟩
   ·exact p1.elim
  ·exact p1.elim
end
section
variable (e:Ev) (c:aa) (l:aj)
@[simp] theorem aiA:uY l e c=(l e c).bind λxs c=>match xs with
 |[.int i,.int j,.int s]=>if s = -1/\-(2^62)<=i/\i<2^62/\-(2^62)<=j/\j<2^62 then .ok ⟨kh i j,λ_=>True⟩ c else .bad
 |_=>.bad:=rfl
end
def iC(t:List (Int×List Int))(k:Int):Option (List Int):=match t with
 |[]=>Z
 |p::r=>if k=p.1 then O p.2 else iC r k
def A9:List Δ->List Int->Bool
 |[],[]=>G
 |.int i _::vs,j::l=>(i==j)&&A9 vs l
 |_,_=>ξ
def sQ(K:Γ)(b:Ξ)(l:List Int):Bool:=match K.lookup b with
 |some ⟨c,_,.seq its _,_⟩=>(c == .type "tuple")&&A9 its.toList l&&decide (its.size<=Ω)
 |_=>ξ
def yo(K:Γ)(e:Wa)(k:Int)(l:List Int):Bool:=match e with
 |⟨h,.int i _,.ref b⟩=>(i==k)&&(h==hashInt k)&&sQ K b l
 |_=>ξ
def uW(K:Γ):List Wa->List (Int×List Int)->Bool
 |[],[]=>G
 |e::es,p::t=>yo K e p.1 p.2&&uW K es t
 |_,_=>ξ
def rW(K:Γ)(a:Ξ)(t:List (Int×List Int)):Bool:=!(a==sysModules)&&match K.lookup a with
 |some ⟨c,Z,.dict es _,sl⟩=>(c == .type "dict")&&sl.isEmpty&&uW K es.toList t
 |_=>ξ
theorem Qz:∀{vs:List Δ}{l:List Int},A9 vs l=G->Vals (l.map V.int) vs
 |[],[],_=>.nil
 |v::vs,[],h=>by cases v<;>cases h
 |[],j::l,h=>by cases h
 |v::vs,j::l,h=>by
  cases v with
  |int i t =>
   have h:((i==j)&&A9 vs l)=G:=h;rw[T5,beq_iff_eq]at h;obtain⟨rfl,h'⟩:=h;exact .cons ⟨t,rfl⟩ (Qz h')
  |_=>cases h
theorem al4{K:Γ}{H:Hp}{b:Ξ}(h:sQ K b l=G):cF K H b (l.map V.int):=by
 unfold sQ at h;split at h
 ·rename_i c d its n sl e;rw[T5,T5,beq_iff_eq,decide_eq_true_iff]at h;obtain⟨⟨rfl,h1⟩,h2⟩:=h;exact .inr ⟨_,its,n,e,rfl,rfl,h2,Qz h1⟩
 ·cases h
theorem R9{K:Γ}{e:Wa}{k:Int}(h:yo K e k l=G):∃t b,e=⟨hashInt k,.int k t,.ref b⟩/\sQ K b l=G:=by
 unfold yo at h;split at h
 ·rename_i hh i t b;rw[T5,T5,beq_iff_eq,beq_iff_eq]at h;obtain⟨⟨rfl,rfl⟩,h⟩:=h;exact⟨t,b,rfl,h⟩
 ·cases h
theorem R7{K:Γ}:∀{es:List Wa}{t:List (Int×List Int)},uW K es t=G->∀e∈es,∃k t,e.key=.int k t/\e.hash=hashInt k
 |[],_,_=>λe he=>by cases he
 |e::es,[],h=>by cases h
 |e::es,p::t,h=>λx hx=>by
  have h:(yo K e p.1 p.2&&uW K es t)=G:=h;rw[T5]at h
  rcases AP.mp hx with rfl|hx
  ·obtain⟨tk,b,rfl,_⟩:=R9 h.1;exact⟨_,tk,rfl,rfl⟩
  ·exact R7 h.2 x hx
theorem R8{K:Γ}(k:Int):∀{es:List Wa}{t:List (Int×List Int)},uW K es t=G->(match iC t k with
  |none=>es.find? (λe=>Value.isInt k e.key)=Z
  |some l=>∃e b,es.find? (λe=>Value.isInt k e.key)=O e/\e.val=.ref b/\sQ K b l=G)
 |[],[],_=>by unfold iC;rfl
 |[],p::t,h=>by cases h
 |e::es,[],h=>by cases h
 |e::es,p::t,h=>by
  have h:(yo K e p.1 p.2&&uW K es t)=G:=h;rw[T5]at h;obtain⟨tk,b,rfl,hb⟩:=R9 h.1;have ih:=R8 k h.2;unfold iC
  by_cases hk:k=p.1
  ·rw[if_pos hk];refine⟨⟨hashInt p.1,.int p.1 tk,.ref b⟩,b,?_,rfl,hb⟩;rw[ZX];subst hk;simp[Value.isInt]
  ·rw[if_neg hk,ZW]
   ·exact ih
   ·simp only[Value.isInt,beq_iff_eq];exact λz=>hk z.symm
theorem Sd{K:Γ}{h:τ}{a:Ξ}{t:List (Int×List Int)}{prog:π}{w:υ}(hk:K.In h)(hd:rW K a t=G):(a==sysModules)=ξ/\∃f,h.MapOf (intKind prog w) a f/\∀k,(match iC t k with
  |none=>f k=Z
  |some l=>∃b,f k=O (.ref b)/\sQ K b l=G):=by
 unfold rW at hd;rw[T5]at hd;obtain⟨h0,h1⟩:=hd;refine⟨by simpa using h0,?_⟩
 split at h1
 ·rename_i c es n sl e;rw[T5,T5,beq_iff_eq]at h1;obtain⟨⟨rfl,h2⟩,h3⟩:=h1;have hs:sl=#[]:=by simpa using h2
  refine⟨findBy Value.isInt es,Heap.IntMap.mapOf ⟨_,es,n,hk a _ e,rfl,rfl,λx hx=>R7 h3 x (by simpa using hx),λ_=>rfl⟩ (λo ho=>?_),λk=>?_⟩
  ·rw[hk a _ e]at ho;cases ho;exact⟨rfl,hs⟩
  ·have q:=R8 k h3;have ef:findBy Value.isInt es k=(es.toList.find? λe=>Value.isInt k e.key).map (·.val):=by unfold findBy;rw[qf]
   cases z:iC t k with
   |none =>
    rw[z]at q;show findBy Value.isInt es k=Z;rw[ef,q];rfl
   |some l =>
    rw[z]at q;obtain⟨e,b,q1,q2,q3⟩:=q;refine⟨b,?_,q3⟩;rw[ef,q1,<-q2];rfl
 ·cases h1
def rV(t:List (Int×List Int))(i:Int):D->aa->R D:=λx c=>match x with
 |.int k=>match iC t k with
  |some l=>match dB l i with
   |some z=>.ok (.int z) c
   |none=>.bad
  |none=>.bad
 |_=>.bad
def xV(x:Str)(t:List (Int×List Int)):D->D->aa->R D:=λa b c=>match a,b with
 |.int k,.fn y _=>if y=x then .ok (.bl (iC t k).isSome) c else .bad
 |_,_=>.bad
section
variable {X:Cx}{x:Str}{ad:Ξ}{t:List (Int×List Int)}
def aow(K:Γ)(ad:Ξ)(t:List (Int×List Int)):R2:=λx y H Q=>∃k l,x=.ref ad/\y=.int k/\iC t k=O l/\∀b,cF K H b (l.map V.int)->Q (.ref b) H
theorem adw(ht:rW X.K ad t=G):vq X (aow X.K ad t):=by
 intro value slice pins s J H x y v u Q I rx ry h hs;obtain⟨k,l,rfl,rfl,hl,q⟩:=h;cases rx;obtain⟨tk,rfl⟩:=ry;obtain⟨_,f,hm,hf⟩:=Sd (prog:=X.prog) (w:=X.w) I.fK ht;have hk:=hf k;rw[hl]at hk;obtain⟨b,hb,tb⟩:=hk;have fin:EP X pins J Q (.ref b) {s with toks:=s.toks+1}:=⟨.ref b,H,I.tok _,rfl,q b (al4 tb)⟩
 exact ZJ (x:=.ref b) hm.typeIs slot_dict_getitem.lookup (wpAny_getItem_of (key:=.int k tk) (by simp[intKind,Value.isInt]) hm hb ⟨rfl,fin⟩) hs
theorem Ae{j p1 p2 p3 p4}(hm:X.mg x=O (.ref ad))(ht:rW X.K ad t=G)(ha:bu X a da)(hg:Gl X x:=by rfl)(hd:(x==("__debug__":Str))=ξ:=by decide)(hs:J9 a:=by exact λ_ _=>rfl):
  bu X (.Subscript (.Subscript (.Name x p1) a p2) (.Constant (.int i) j p3) p4) (mD (rV t i) da) :=
 (FY Qm (FY (adw ht) (Ad (v:=.ref ad) hg hm rfl hd) ha hs) NW (λ_ _=>rfl)).imp λJ H Q h=>by
  obtain⟨ρ,e,c,W,V,p⟩:=h;refine⟨ρ,e,c,W,V,post.bind p λx c1 aS H1 v ex W1 X1 r1 p1=>?_⟩
  clear ex;unfold rV at p1;split at p1
  ·rename_i k;cases r1;split at p1
   ·rename_i l hl;split at p1
    ·rename_i z hz;refine⟨k,l,rfl,rfl,hl,λb hb=>⟨b,_,i,.int z,rfl,rfl,hb,?_,p1.here W1 rfl⟩⟩
     unfold dB at hz ⊢;rw[T6];cases e:gu l.length i with
     |none=>rw[e]at hz;cases hz
     |some j =>
      rw[e]at hz;have hz:l[j]? = O z:=hz;show(l.map L2.V.int)[j]? = _;rw[U7,hz];rfl
    ·exact p1.elim
   ·exact p1.elim
  ·exact p1.elim
theorem aae{pos:Pos}(hm:X.mg y=O (.ref C))(hn:μ X.K ι y=O (O (.ref C)))(hg:Gl X y:=by rfl)(hd:(y==("__debug__":Str))=ξ:=by decide):bu X (.Name y pos) (dC (.fn y 0)) :=
 qS (Ad (v:=.ref C) hg hm rfl hd) λ_ _=>⟨C,rfl,hn⟩
theorem abR(hn:μ X.K ι x=O (O (.ref ad)))(ht:rW X.K ad t=G):bX X (compareOp .In) (r2 X.K (xV x t)):=by
 intro pins s J H v u vv uu Q I rv ru h;obtain⟨ρ,a,b,c,W,rx,ry,p⟩:=h;unfold xV at p;split at p
 ·split at p
  ·rename_i k y n hy;subst hy;cases rx;obtain⟨a,rfl,hb⟩:=ry;rw[hn]at hb;cases hb;obtain⟨tk,rfl⟩:=rv;cases ru;obtain⟨h0,f,hm,hf⟩:=Sd (prog:=X.prog) (w:=X.w) I.fK ht;refine wpAny_in_of (key:=.int k tk) (k:=k) (by simp[intKind,Value.isInt]) h0 hm ?_
   have e:(f k).isSome=(iC t k).isSome:=by
    have:=hf k;cases z:iC t k with
    |none=>rw[z]at this;have this:f k=Z:=this;rw[this];rfl
    |some l=>rw[z]at this;obtain⟨b,hb,_⟩:=this;rw[hb];rfl
   rw[e];exact⟨.bl _,H,I.tok _,rfl,p.here W rfl⟩
  ·exact p.elim
 ·exact p.elim
end
def tG:D->D->aa->R D:=λx y c=>match x,y with
 |.lst l,.int k=>if -(2^63)<=k/\k<2^63/\l.length*k.toNat<=Ω then .ok (.lst (ο k.toNat l).flatten) c else .bad
 |_,_=>.bad
theorem aR.rep{K:Γ}{H:Hp}{xs:List V}(r:aR K ρ H l xs):∀n:Nat,aR K ρ H (ο n l).flatten (ο n xs).flatten
 |0=>rfl
 |n+1=>aR.append r (aR.rep r n)
theorem abP:bX X (binaryOp .Mult) (r2 X.K tG):=by
 intro pins s J H v u vv uu Q I rv ru h;obtain⟨ρ,x,y,c,W,rx,ry,p⟩:=h;unfold tG at p;split at p
 ·split at p
  ·rename_i hl;obtain⟨a,xs,rfl,sa,ra⟩:=rx;cases ry;exact Og pins s J H _ _ vv uu Q I rv ru ⟨a,_,xs,rfl,rfl,sa.1,hl.1,hl.2.1,by rw[ra.length];exact hl.2.2,qW W (aR.rep ra _) p⟩
  ·exact p.elim
 ·exact p.elim
def TJ(K:Γ)(a:Ξ)(n:Nat):It :=
 ⟨λi H=>i<n/\∃xs x,bQ K H a xs/\xs[n-1-i]? = O x,λi H x H'=>H'=H/\∀xs,bQ K H a xs->xs[n-1-i]? = O x,λi H=>i=n⟩
theorem alZ{P:π}{w:υ}{K:Γ}(a it:Ξ)(n:Nat):Turn P w K tg (TJ K a n) [it] it (λi h=>h.IsRevIter it a ((n:Int)-1-(i:Nat))) where
 mem:=by simp
 obj:=λi h st b hb=>by
  have e:b=it:=by simpa using hb
  subst e;obtain⟨o,e,c,d⟩:=st;exact⟨o,e,λv z=>by rw[d]at z;cases z⟩
 keep:=λi h h' st k=>st.at λo e=>k it (by simp) o e
 item:=by
  intro X hP hw hK hc i pins s J H E I hf st hg;subst hP hw hK;obtain⟨hi,xs,x,hq,hx⟩:=hg;obtain⟨its,rv,p,hz⟩:=I.list hq;obtain⟨u,hu,ru⟩:=rv.get hx;obtain⟨f0,f1,f2,f3,f4,f5⟩:=hf it (by simp)
  have e1:(n:Int)-1-(i:Nat)=((n-1-i:Nat):Int):=∅
  rw[e1]at st;refine wpAny_pyNext_rev_item st p.isList (x:=u) (by simpa using hu) λh' st' sb=>?_
  have e2:((n-1-i:Nat):Int)-1=(n:Int)-1-((i+1:Nat):Int):=∅
  rw[e2]at st';have I1:Inv X pins J H {s with heap:=h'}:=I.turned (t':=s.toks) (λb o hb e=>(sb.2 b hb).trans e) f0 f1 f3 f4 f5
  obtain⟨o,e,c,d⟩:=id st';exact⟨u,rfl,ye (s:={s with heap:=h'}) e c d ⋯ ⟨x,H,I1,ru,⟨rfl,λys hy=>by rw[I.GN hy hq];exact hx⟩,st',λb hb=>(hf b hb).1⟩⟩
 done:=by
  intro X hP hw hK hc i pins s J H E I hf st hg;subst hP hw hK;have hi:i=n:=hg;subst hi;obtain⟨f0,f1,f2,f3,f4,f5⟩:=hf it (by simp)
  have e1:(i:Int)-1-(i:Nat) = -1:=∅
  rw[e1]at st;exact wpAny_pyNext_rev_end (I.ok.hd hc) st λh' eb=>⟨rfl,I.turned (t':=s.toks) (λb o hb e=>eb b o hb e) f0 f1 f3 f4 f5⟩
 self:=λ_ _ _ _ _ st h=>wpAny_pyIter_revIter st h
section
variable {X:Cx}{tg:ν}
def ad0(K:Γ)(ta:TA):TI:=λJ H R=>ta J H λvs H1=>∃a xs,vs=[.ref a]/\bQ K H1 a xs/\R (TJ K a xs.length) H1
theorem apN{pos:Pos}(hg:Gl X "reversed")(hm:X.mg "reversed"=Z)(ha:PA X [a] ta)(hs:ε [a] X.env=[(ξ,eval a X.env)]:=by rfl):PI X tg (.Call (.Name "reversed" p) [a] [] pos) (ad0 X.K ta):=by
 intro pins s J H R I h;refine Call_ (kO I hg hm boot_reversed (VV (bJ (ha pos pins s J H _ I h) λus s1 ⟨vs,H1,I1,r1,q1⟩=>?_) hs rfl))
 obtain⟨b,xs,e,hq,q⟩:=q1;subst e;cases r1 with
 |cons r rr =>
  cases rr;cases r;obtain⟨its,rv,pl,hz⟩:=I1.list hq;refine call_reversed_list pl.isList ?_;have I2:Inv X pins J H1 {s1 with heap:=s1.heap.push (revObj b ((its.toArray.size:Int)-1))}:=I1.kept (t':=s1.toks) λb o e=>jn _ e
  have hl:=rv.length;have st:(s1.heap.push (revObj b ((its.toArray.size:Int)-1))).IsRevIter s1.heap.objs.size b ((xs.length:Int)-1-((0:Nat):Int)):=⟨_,T9 _ rfl,rfl,by
   have e:(xs.length:Int)-1-((0:Nat):Int)=(its.toArray.size:Int)-1:=by rw[U1,<-hl];omega
   rw[e];rfl⟩
  refine wpAny_pyIter_revIter st ?_;refine⟨s1.heap.objs.size,[s1.heap.objs.size],_,_,H1,rfl,I2,alZ b _ xs.length,st,λc hb=>?_,q⟩
  have e:c=s1.heap.objs.size:=by simpa using hb
  subst e;exact I1.uN (dD _) (I1.hok.fresh (dD _))
def yq(a:aj):Ev->aa->R Src:=λe c=>(a e c).bind λxs c=>match xs with
 |[.lst l]=>.ok ⟨l.reverse,λ_=>True⟩ c
 |_=>.bad
theorem QD{pos:Pos}(ha:e7 X [a] da)(hm:X.mg "reversed"=Z)(hg:Gl X "reversed":=by rfl)(hs:ε [a] X.env=[(ξ,eval a X.env)]:=by exact oM rfl):PId X tg (.Call (.Name "reversed" p) [a] [] pos) (yq da) :=
 (apN hg hm ha hs).imp λJ H Q h=>by
  obtain⟨ρ,e,c,W,V,p⟩:=h;refine⟨ρ,e,c,W,V,post.bind p λx c1 aS H1 v ex W1 X1 r1 p1=>?_⟩
  clear ex;split at p1
  ·rename_i l;obtain⟨y,ys,rfl,ry,rs⟩:=r1;cases rs;obtain⟨a,xs,rfl,s,rl⟩:=ry;refine⟨a,xs,rfl,bQ.of s.1,p1.here W1 ?_⟩;intro ρ' H' c' W' E _ i;have sq:bQ X.K H' a xs:=bQ.of (A0 E s).1;have am5:=aR.mono W1 E _ _ rl;have rR:=rl.length;refine⟨λd hd=>?_,λe=>?_⟩
   ·have hd:l.reverse[i]? = O d:=hd;have hi:i<l.length:=by
     have:=(U3.mp hd).1
     simpa using this
    rw[List.getElem?_reverse hi]at hd;obtain⟨x,hx,rx⟩:=am5.get hd;rw[<-rR]at hx;refine⟨⟨by rw[rR];exact hi,xs,x,sq,hx⟩,λy H2 hy=>?_⟩
    obtain⟨rfl,hy⟩:=hy;have:=hy xs sq;rw[hx]at this;cases this;exact⟨W',Ext.refl,rx⟩
   ·have e:i=l.reverse.length:=e;show i=xs.length;rw[e,YS,rR]
  ·exact p1.elim
end
section
variable (e:Ev) (c:aa) (l:aj)
@[simp] theorem aiC:yq l e c=(l e c).bind λxs c=>match xs with
 |[.lst l]=>.ok ⟨l.reverse,λ_=>True⟩ c
 |_=>.bad:=rfl
@[simp] theorem aiV(t:List (Int×List Int))(i k:Int):rV t i (.int k) c=match iC t k with
 |some l=>match dB l i with
  |some z=>.ok (.int z) c
  |none=>.bad
 |none=>.bad:=rfl
@[simp] theorem aiQ(x:Str)(t:List (Int×List Int))(k:Int)(n:Nat):xV x t (.int k) (.fn x n) c=.ok (.bl (iC t k).isSome) c:=by
 unfold xV;simp
@[simp] theorem aln(m:List D)(k:Int):tG (.lst m) (.int k) c=if -(2^63)<=k/\k<2^63/\m.length*k.toNat<=Ω then .ok (.lst (ο k.toNat m).flatten) c else .bad:=rfl
end
theorem CU{st:aa->Prop}(hst:st c)(h:Int->Int->Int)(rest:Ev):∀(rx ry:List Int) (v0 v1:Option D) (acc:List D),
  (∀x∈rx,∀y∈ry,a (O (.int x)::O (.int y)::rest) c=.ok (.int (h x y)) c) ->
  bT st (dU 2 (bR (aA 0) (bR (aA 1) eT))) aP a (List.zipWith (λx y=>D.tup [x,y]) (rx.map D.int) (ry.map D.int)) (v0::v1::rest) acc c=.ok (acc++(List.zipWith h rx ry).map D.int) c
 |[],ry,v0,v1,acc,_=>by simp[bT,hst]
 |x::rx,[],v0,v1,acc,_=>by simp[bT,hst]
 |x::rx,y::ry,v0,v1,acc,hb=>by
  have ih:=CU hst h rest rx ry (O (.int x)) (O (.int y)) (acc++[.int (h x y)]) λu hu v hv=>hb u (UP _ hu) v (UP _ hv)
  have hxy:=hb x Ub y Ub;simp only[T8,XJ];unfold bT;rw[if_pos hst];simp at ih;simp[hxy,ih]
def oX:D->D->aa->R D:=λx y c=>match x,y with
 |.lst l,.int k=>if -(2^63)<=k/\k<2^63/\l.length*k.toNat<=Ω/\bW l=G then .ok (.ref c.length) (c++[.lst (ο k.toNat l).flatten])else .bad
 |_,_=>.bad
theorem O8(h:bW l=G):∀n:Nat,bW (ο n l).flatten=G
 |0=>by simp
 |n+1=>by rw[Va,Vx,wN,h,O8 h n];rfl
theorem OI:bX X (binaryOp .Mult) (r2 X.K oX):=by
 intro pins s J H v u vv uu Q I rv ru h;obtain⟨ρ,x,y,c,W,rx,ry,p⟩:=h;unfold oX at p;split at p
 ·split at p
  ·rename_i hl;obtain⟨a,xs,rfl,sa,ra⟩:=rx;cases ry;exact Og pins s J H _ _ vv uu Q I rv ru ⟨a,_,xs,rfl,rfl,sa.1,hl.1,hl.2.1,by rw[ra.length];exact hl.2.2.1,Gk W (O8 hl.2.2.2 _) (aR.rep ra _) p⟩
  ·exact p.elim
 ·exact p.elim
def iw(o a:af):af:=λe c=>(o e c).bind λx c=>match x with
 |.ref k=>(a e c).bind λy c=>match y with
  |.lst m=>match c[k]? with
   |some (.lst l)=>if l.length+m.length<=Ω/\bW m=G then .ok .aJ (c.set k (.lst (l++m)))else .bad
   |none=>.bad
  |_=>.bad
 |_=>.bad
theorem Af{apos:Pos}(ho:bu X o dO)(ha:bu X e da)(hbase:Y7 o "extend" X.env (eval o X.env)=eval o X.env:=by rfl)(hfew:((U4 cpos (ε [e] X.env)).all (λx=>!x.1)&&(WY cpos (Wb [] X.env)).all (λx=>x.1.isSome)
   && decide ([e].length+([]:List VL).length+(if([]:List VL).isEmpty then 0 else 1)<30))=G:=by exact E3 rfl)(hline:(apos.endLine==cpos.line)=G:=by rfl)(hs:ε [e] X.env=(ξ,eval e X.env)::ε [] X.env:=by exact cO rfl)(hplain:(U4 cpos (ε [] X.env)).any (·.1)=ξ:=by exact fB rfl):
  bu X (.Call (.Attribute o "extend" apos) [e] [] cpos) (iw dO da) :=
 (FZ YU PySem.F.slot_list_extend PySem.F.type_list_extend acD ho (jU ha kI hs) hbase hfew hline hs hplain).imp λJ H Q h=>by
  obtain⟨ρ,e,c,W,V,p⟩:=h;refine⟨ρ,e,c,W,V,post.bind p λx c1 aS H1 v _ W1 X1 r1 p1=>?_⟩
  cases x with
  |ref k =>
   obtain⟨a,rfl,ha⟩:=r1;obtain⟨xs,hx⟩:=W1.at' (UD ha);refine⟨.inl ⟨rfl,xs,bQ.of hx⟩,aS,e,c1,W1,V.mono W X1,post.bind p1 λy c2 dH H2 u _ W2 X2 r2 p2=>?_⟩
   cases y with
   |lst m =>
    obtain⟨b,zs,rfl,sb,rb⟩:=r2;dsimp only at p2;split at p2
    ·rename_i l hl;split at p2
     ·rename_i hh;obtain⟨nr,ys,hy,rl⟩:=W2.gi k a _ (X2.pre k a ha) hl;refine⟨a,b,ys,zs,rfl,rfl,hy,sb.1,by rw[rl.length,rb.length];exact hh.1,?_⟩
      refine p2 dH _ .aJ (W2.write (X2.pre k a ha) (by rw[wN,nr,hh.2];rfl) (rl.append rb)) (Ext.write (X2.pre k a ha)) rfl
     ·exact p2.elim
    ·exact p2.elim
   |_=>exact p2.elim
  |_=>exact p1.elim
section
variable (e:Ev) (c:aa) (o a:af)
@[simp] theorem alo(m:List D)(k:Int):oX (.lst m) (.int k) c=if -(2^63)<=k/\k<2^63/\m.length*k.toNat<=Ω/\bW m=G then .ok (.ref c.length) (c++[.lst (ο k.toNat m).flatten])else .bad:=rfl
end
theorem nM{α:Type}{st:aa->Prop}(C:Nat->aa)(E:Nat->α->Ev):∀(items:List D) (k:Nat) (v:α),(∀i,i<=items.length->st (C (k+i))) ->
  (∀i x,items[i]? = O x->∀v,∃e',g x (E (k+i) v) (C (k+i))=.ok e' (C (k+i))/\∃v',s e' (C (k+i))=.ok (.nx (E (k+i+1) v')) (C (k+i+1))) ->
  ∃v',cZ st g s items (E k v) (C k)=.ok (.nx (E (k+items.length) v')) (C (k+items.length))
 |[],k,v,hst,_=>⟨v,by
   have:=hst 0 (dD _);rw[Vu]at this;unfold cZ;rw[if_pos this];rfl⟩
 |x::xs,k,v,hst,h=>by
  obtain⟨e',h1,v',h2⟩:=h 0 x rfl v;obtain⟨v2,h3⟩:=nM C E xs (k+1) v' (λi hi=>by
   have:=hst (i+1) (by simp only[U0];omega)
   rwa[show k+(i+1)=k+1+i by omega]at this) (λi y hy v=>by
   have:=h (i+1) y (by simpa using hy) v
   rwa[show k+(i+1)=k+1+i by omega]at this)
  refine⟨v2,?_⟩;unfold cZ;rw[if_pos (by have:=hst 0 (V9 _);exact this)]
  rw[Vu]at h1 h2;rw[h1,R.aF,h2];simp only[R.aF];rw[h3,U0,show k+(xs.length+1)=k+1+xs.length by omega]
theorem uO{α:Type}(C:Nat->aa)(E:Nat->α->Ev){N:Int}{n:Nat}(hN:N=n)(v:α)(h:∀i,i<n->∀v,∃e',g (.int (i:Nat)) (E i v) (C i)=.ok e' (C i)/\∃v',s e' (C i)=.ok (.nx (E (i+1) v')) (C (i+1))):
  ∃v',cZ (λ_=>True) g s (aY 0 N) (E 0 v) (C 0)=.ok (.nx (E n v')) (C n):=by
 have hl:(aY 0 N).length=n:=by rw[eY];omega
 have:=nM (st:=λ_=>True) C E (aY 0 N) 0 v (λ_ _=>trivial) (λi x hx v=>by
  obtain⟨h1,rfl⟩:=tF hx;rw[UM,YR];exact h i ∅ v)
 rwa[hl,UM]at this
theorem GV{c:aa}{i:Int}{j:Nat}(hi:i=j)(h:l[j]? = O d):aD (.ref c.length) (.int i) (c++[.lst l])=.ok d (c++[.lst l]):=by
 subst hi;unfold aD fU;simp only[ZV];have:=iy (xs:=l) (j:=j) (v:=d) h;rw[this]
theorem L5{c:aa}{l:List D}{i:Int}{j:Nat}(hi:i=j)(h:j<l.length)(hd:noRef d=G):m7 (.ref c.length) (.int i) d (c++[.lst l])=.ok () (c++[.lst (l.set j d)]):=by
 subst hi;unfold m7;simp[gu,h,hd]
def allInts:List ν->Option (List Int)
 |[]=>O []
 |e::r=>match e with
  |.Constant (.int i) _ _=>(allInts r).map (i :: ·)
  |_=>Z
def fL(l:List Int):aj:=λ_ c=>.ok (l.map D.int) c
theorem nh:∀{es:List ν}{l:List Int},allInts es=O l->e7 X es (fL l)
 |[],l,h=>by cases h;exact az
 |e::es,l,h=>by
  unfold allInts at h;split at h
  ·rename_i i j pos;cases q:allInts es with
   |none=>rw[q]at h;cases h
   |some r =>
    rw[q]at h;cases h;exact ay aE (nh q) (cO rfl)
  ·cases h
@[simp] theorem x_ints(l:List Int)(e:Ev)(c:aa):fL l e c=.ok (l.map D.int) c:=rfl
abbrev Up(l:List Nat):Prop:=l.Pairwise (· < ·)
theorem getD_list(xs:Array Nat)(i d:Nat):xs.getD i d=xs.toList.getD i d:=by
 simp[ZU,T7]
theorem vE(h:Up l)(hik:i<k)(hk:k<l.length):l.getD i 0<l.getD k 0:=by
 have:=Vt.mp h i k ∅ hk hik
 simpa[T7,I8 hk,I8 (show i<l.length by omega)]using this
def Parts(l:List Nat)(j p:Nat):Prop:=p<=l.length/\(∀i,i<p->l.getD i 0<j)/\∀i,p<=i->i<l.length->j<=l.getD i 0
theorem Ip{xs:Array Nat}(h:Up xs.toList):∀fuel lo hi,lo<=hi->hi<=xs.toList.length->hi-lo<=fuel->(∀i,i<lo->xs.toList.getD i 0<j)->(∀i,hi<=i->i<xs.toList.length->j<=xs.toList.getD i 0) ->
  Parts xs.toList j (SetTable.below.go xs j fuel lo hi)
 |0,lo,hi,h1,h2,h3,h4,h5=>⟨by unfold SetTable.below.go;omega,λi hi'=>h4 i (by unfold SetTable.below.go at hi';exact hi'),λi hi'=>h5 i (by unfold SetTable.below.go at hi';omega)⟩
 |fuel+1,lo,hi,h1,h2,h3,h4,h5=>by
  unfold SetTable.below.go
  by_cases hl:lo<hi
  ·rw[if_pos hl];dsimp only;have hm:(lo+hi)/2<xs.toList.length:=∅
   have he:xs.getD ((lo+hi)/2) j=xs.toList.getD ((lo+hi)/2) 0:=by
    rw[getD_list];simp[T7,I8 hm]
   rw[he]
   by_cases hc:xs.toList.getD ((lo+hi)/2) 0<j
   ·rw[if_pos hc];refine Ip h fuel _ _ ∅ h2 ∅ (λi hi'=>?_) h5
    by_cases hq:i=(lo+hi)/2
    ·rw[hq];exact hc
    ·exact YQ (vE h (show i<(lo+hi)/2 by omega) hm) hc
   ·rw[if_neg hc];refine Ip h fuel _ _ ∅ ∅ ∅ h4 (λi hi' hl'=>?_)
    by_cases hq:i=(lo+hi)/2
    ·rw[hq];omega
    ·exact UK ∅ (VX (vE h (show(lo+hi)/2<i by omega) hl'))
  ·rw[if_neg hl];exact⟨∅,h4,λi hi'=>h5 i ∅⟩
theorem C1{xs:Array Nat}(h:Up xs.toList)(j:Nat):Parts xs.toList j (SetTable.below xs j):=by
 exact Ip h _ _ _ (V9 _) (by simp) (by simp) (λi hi=>absurd hi (XI _)) (λi h1 h2=>by simp at h2;omega)
theorem ahy{xs:Array Nat}(h:Up xs.toList):SetTable.below xs 0=0:=by
 obtain⟨_,h2,_⟩:=C1 h 0
 rcases YO _ with e|e
 ·exact e
 ·exact absurd (h2 0 e) (XI _)
theorem ahz{xs:Array Nat}(h:Up xs.toList)(hi:i<xs.toList.length):SetTable.below xs (xs.toList.getD i 0+1)=i+1:=by
 obtain⟨h1,h2,h3⟩:=C1 h (xs.toList.getD i 0+1)
 rcases XH (SetTable.below xs (xs.toList.getD i 0+1)) (i+1)with e|e|e
 ·have:=h3 i ∅ hi;omega
 ·exact e
 ·have a:=h2 _ e;have b:=vE h (show i<i+1 by omega) (show i+1<xs.toList.length by omega)
  omega
theorem Io{xs:Array Nat}(h:Up xs.toList)(hj:j∈xs.toList):xs[SetTable.below xs j]? = O j:=by
 obtain⟨i,hi,e⟩:=Vs hj;obtain⟨h1,h2,h3⟩:=C1 h j;have e':xs.toList.getD i 0=j:=by rw[T7,I8 hi];exact e
 have hp:SetTable.below xs j=i:=by
  rcases XH (SetTable.below xs j) i with q|q|q
  ·have a:=h3 _ (dD _) ∅
   have b:=vE h q hi;omega
  ·exact q
  ·have a:=h2 i q;omega
 rw[hp,<-UQ,I8 hi,e]
theorem K2{xs:Array Nat}(h:Up xs.toList)(hj:j∉xs.toList):Up (SetTable.insertAt xs (SetTable.below xs j) j).toList:=by
 rw[XG];obtain⟨h1,h2,h3⟩:=C1 h j
 generalize SetTable.below xs j=p at h1 h2 h3
 have ht:∀a∈xs.toList.take p,a<j:=by
  intro a ha;obtain⟨i,hi,e⟩:=Vs ha;have hi':i<p/\i<xs.toList.length:=by simp at hi ⊢;omega
  have:=h2 i hi'.1;rw[XM]at e;rw[T7,I8 hi'.2]at this
  simpa[<-e]using this
 have hd:∀a∈xs.toList.drop p,j<a:=by
  intro a ha;have hm:a∈xs.toList:=Y4 ha;obtain⟨i,hi,e⟩:=Vs ha;have hi':p+i<xs.toList.length:=by simp at hi ⊢;omega
  have:=h3 (p+i) ∅ hi'
  rw[List.getElem_drop]at e;rw[T7,I8 hi']at this;have hle:j<=a:=by simpa[<-e]using this
  exact Nat.lt_of_le_of_ne hle λq=>hj (q▸hm)
 refine List.pairwise_append.mpr ⟨h.sublist (ZK _ _),Vf.mpr ⟨hd,h.sublist (List.drop_sublist _ _)⟩,λa ha b hb=>?_⟩
 rcases AP.mp hb with rfl|hb
 ·exact ht a ha
 ·exact YQ (ht a ha) (hd b hb)
theorem FT:∀(n:Nat) (l:List Nat),(∀j,j<n->j∈l)->n<=l.length
 |0,_,_=>V9 _
 |n+1,l,h=>by
  have hn:=h n (Uu _);have:=FT n (l.erase n) λj hj=>(YN ∅).mpr (h j ∅)
  rw[YM hn]at this;have:=ZT hn;omega
def gV(mask:Nat):Nat->Nat->Nat->Nat->Nat->Nat->Bool
 |0,_,_,_,_,_=>ξ
 |n+1,j,more,i,q,acc =>
  if acc |||(1 <<< j)=2^(mask+1)-1 then G
  else if more>0 then gV mask n (j+1) (more-1) i q (acc |||(1 <<< j))
  else gV mask n ((i*5+1+q/32) % (mask+1)) (SetTable.runEnd mask ((i*5+1+q/32) % (mask+1))-(i*5+1+q/32) % (mask+1)) ((i*5+1+q/32) % (mask+1)) (q/32) (acc |||(1 <<< j))
def CT(mask:Nat):Bool:=(θ 128).all λh=>gV mask (10*(mask+15)) (h % (mask+1)) (SetTable.runEnd mask (h % (mask+1))-h % (mask+1)) (h % (mask+1)) h 0
def qe(mask:Nat):Nat->Nat->Nat->Nat->Bool
 |0,_,_,_=>ξ
 |n+1,i,q,acc =>
  if acc |||((2^(SetTable.runEnd mask i+1-i)-1) <<< i)=2^(mask+1)-1 then G
  else qe mask n ((i*5+1+q/32) % (mask+1)) (q/32) (acc |||((2^(SetTable.runEnd mask i+1-i)-1) <<< i))
def HZ(mask:Nat):Bool:=(θ 128).all λh=>qe mask (mask+15) (h % (mask+1)) h 0
theorem agJ:CT 7=G:=by decide +kernel
theorem agK:CT 31=G:=by decide +kernel
theorem agL:CT 127=G:=by decide +kernel
theorem agH:HZ 31=G:=by decide +kernel
theorem agI:HZ 127=G:=by decide +kernel
theorem C0(acc j k:Nat):(acc |||(1 <<< j)).testBit k=(acc.testBit k||decide (k=j)):=by
 rw[Nat.testBit_or,Nat.one_shiftLeft,Nat.testBit_two_pow]
 by_cases h:j=k
 ·subst h;simp
 ·simp[h,Uo h]
theorem CS{mask:Nat}:∀n j more i q acc,gV mask n j more i q acc=G->∀k,acc.testBit k=G->k<=mask
 |0,_,_,_,_,_,h,_,_=>by cases h
 |n+1,j,more,i,q,acc,h,k,hk=>by
  have hk':(acc |||(1 <<< j)).testBit k=G:=by rw[C0,hk];rfl
  unfold gV at h;split at h
  ·rename_i e;rw[e,WT]at hk';have:=of_decide_eq_true hk';omega
  ·split at h
   ·exact CS _ _ _ _ _ _ h k hk'
   ·exact CS _ _ _ _ _ _ h k hk'
theorem E6{t:ψ}(hd:t.dummies=#[])(j:Nat):t.slot j=.empty\/∃i,t.slot j=.live i:=by
 unfold SetTable.slot;dsimp only;split
 ·exact .inr ⟨_,rfl⟩
 ·rw[hd];exact .inl rfl
theorem Hw{t:ψ}(hd:t.dummies=#[]):∀n (p:SetTable.Probe) acc fuel,gV t.mask n p.j p.more p.i p.perturb acc=G->p.dummy=Z->n<=fuel ->
  (∀k,acc.testBit k=G->t.slot k≠.empty)->(∃j,j<=t.mask/\t.slot j=.empty) ->
  ∃j,SetTable.probe.go t (λ_=>h+1) h fuel p=O (.empty j Z)/\t.slot j=.empty/\j<=t.mask
 |0,_,_,_,h,_,_,_,_=>by simp[gV]at h
 |n+1,p,acc,0,_,_,h,_,_=>∅
 |n+1,p,acc,fuel+1,hc,hn,hf,ha,hj=>by
  have hle:p.j<=t.mask:=by
   have hk':(acc |||(1 <<< p.j)).testBit p.j=G:=by rw[C0];simp
   unfold gV at hc;split at hc
   ·rename_i e;rw[e,WT]at hk';have:=of_decide_eq_true hk';omega
   ·split at hc
    ·exact CS _ _ _ _ _ _ hc _ hk'
    ·exact CS _ _ _ _ _ _ hc _ hk'
  unfold SetTable.probe.go
  rcases E6 hd p.j with e|⟨i,e⟩
  ·rw[e];exact⟨p.j,by rw[hn],e,hle⟩
  ·rw[e];have hne:(h+1==h)=ξ:=by simp;omega
   rw[hne];have ha':∀k,(acc |||(1 <<< p.j)).testBit k=G->t.slot k≠.empty:=by
    intro k hk;rw[C0,Vw,decide_eq_true_eq]at hk
    rcases hk with hk|rfl
    ·exact ha k hk
    ·rw[e];intro q;cases q
   unfold gV at hc;split at hc
   ·rename_i ef;obtain⟨j0,h0,e0⟩:=hj;exact absurd e0 (ha' j0 (by rw[ef,WT];exact decide_eq_true ∅))
   ·split at hc
    ·rename_i hm;have rT:t.advance p={p with j:=p.j+1,more:=p.more-1}:=by unfold SetTable.advance;rw[if_pos hm]
     rw[rT];exact Hw hd n _ _ fuel hc hn ∅ ha' hj
    ·rename_i hm;have rT:t.advance p={p with j:=(p.i*5+1+p.perturb/32) % (t.mask+1),more:=SetTable.runEnd t.mask ((p.i*5+1+p.perturb/32) % (t.mask+1))-(p.i*5+1+p.perturb/32) % (t.mask+1),i:=(p.i*5+1+p.perturb/32) % (t.mask+1),perturb:=p.perturb/32}:=by
      unfold SetTable.advance;rw[if_neg hm];rfl
     rw[rT];exact Hw hd n _ _ fuel hc hn ∅ ha' hj
theorem S4{n:Nat}(h:n<128):SetTable.bits (n:Int)=n:=by
 unfold SetTable.bits;have:((n:Int) % (2^64:Int))=n:=ZS ∅ ∅
 rw[this];rfl
def tW(m:Nat):Prop:=m=7\/m=31\/m=127
theorem agF(h:tW m)(hn:n<128):gV m (10*(m+15)) (n % (m+1)) (SetTable.runEnd m (n % (m+1))-n % (m+1)) (n % (m+1)) n 0=G:=by
 have:CT m=G:=h.elim (λe=>e▸agJ) λh=>h.elim (λe=>e▸agK) λe=>e▸agL
 exact Iv.mp this n (gq.mpr hn)
theorem afw{t:ψ}{n:Nat}(hd:t.dummies=#[])(hm:tW t.mask)(hn:n<128)(hs:t.place.toList.length<=t.mask)(hu:Up t.place.toList) :
  ∃j,t.freeSlot (n:Int)=O (j,ξ)/\j∉t.place.toList/\j<=t.mask:=by
 have hmem:∀j,t.slot j=.empty->j∉t.place.toList:=by
  intro j e hj;unfold SetTable.slot at e;dsimp only at e;rw[Io hu hj]at e;simp at e
 have aeM:∀j,j∉t.place.toList->t.slot j=.empty:=by
  intro j hj
  rcases E6 hd j with e|⟨i,e⟩
  ·exact e
  ·unfold SetTable.slot at e;dsimp only at e;split at e
   ·rename_i q;have:=eq_of_beq q;rw[<-UQ]at this;exact absurd (UD this) hj
   ·split at e<;>cases e
 have hex:∃j,j<=t.mask/\t.slot j=.empty:=by
  by_cases q:∃j,j<=t.mask/\j∉t.place.toList
  ·obtain⟨j,a,b⟩:=q;exact⟨j,a,aeM j b⟩
  ·have:=FT (t.mask+1) t.place.toList λj hj=>Vr λx=>q ⟨j,∅,x⟩
   omega
 have hb:=S4 hn;obtain⟨j,e,e1,e2⟩:=Hw (t:=t) (h:=(n:Int)) hd (10*(t.mask+15)) (t.probeStart n) 0 (10*SetTable.turns t.mask)
  (by show gV _ _ (SetTable.bits n % _) (SetTable.runEnd t.mask (SetTable.bits n % (t.mask+1))-SetTable.bits n % (t.mask+1)) (SetTable.bits n % _) (SetTable.bits n) _=G;rw[hb];exact agF hm hn) rfl (dD _) (λk hk=>by simp at hk) hex
 refine⟨j,?_,hmem j e1,e2⟩;unfold SetTable.freeSlot SetTable.probe;rw[e];rfl
theorem anx(c i k:Nat):((2^c-1) <<< i).testBit k=decide (i<=k/\k<i+c):=by
 rw[Nat.testBit_shiftLeft,WT]
 by_cases h:i<=k
 ·simp only[ge_iff_le,h,decide_true,Wm,true_and];exact decide_eq_decide.mpr ∅
 ·simp[h]
theorem GP{mask:Nat}{owner:Array (Option Nat)}:∀n i q acc fuel,qe mask n i q acc=G->n<=fuel->(∀k,k<=mask->acc.testBit k=G->owner.getD k (O 0)≠Z) ->
  (∃j,j<=mask/\owner.getD j (O 0)=Z)->∃j,SetTable.layClean.free mask owner fuel i q=O j/\owner.getD j (O 0)=Z
 |0,_,_,_,_,h,_,_,_=>by simp[qe]at h
 |n+1,i,q,acc,0,_,h,_,_=>∅
 |n+1,i,q,acc,fuel+1,hc,hf,ha,hj=>by
  unfold SetTable.layClean.free;cases hr:(θ _).find? _ with
  |some k =>
   have:=Y3 hr;exact⟨i+k,rfl,by simpa using this⟩
  |none =>
   have ha':∀k,k<=mask->(acc |||((2^(SetTable.runEnd mask i+1-i)-1) <<< i)).testBit k=G->owner.getD k (O 0)≠Z:=by
    intro k hk hb;rw[Nat.testBit_or,anx,Vw,decide_eq_true_eq]at hb
    rcases hb with hb|hb
    ·exact ha k hk hb
    ·intro e;have:=(Wl.mp hr) (k-i) (gq.mpr ∅)
     rw[show i+_=k by omega,e]at this
     exact this rfl
   unfold qe at hc;split at hc
   ·rename_i ef;obtain⟨j0,h0,e0⟩:=hj;exact absurd e0 (ha' j0 h0 (by rw[ef,WT];exact decide_eq_true ∅))
   ·exact GP n _ _ _ fuel hc ∅ ha' hj
def jW(m:Nat):Prop:=m=31\/m=127
theorem agG(h:jW m)(hn:n<128):qe m (m+15) (n % (m+1)) n 0=G:=by
 have:HZ m=G:=h.elim (λe=>e▸agH) λe=>e▸agI
 exact Iv.mp this n (gq.mpr hn)
theorem HJ:∀(l:List (Option Nat)) (j k:Nat),j<l.length->l.getD j (O 0)=Z->((l.set j (O k)).filterMap id).Perm (k::l.filterMap id)
 |[],_,_,h,_=>absurd h (XI _)
 |x::l,0,k,_,e=>by
  have:x=Z:=by simpa using e
  subst this;simp
 |x::l,j+1,k,h,e=>by
  have ih:=HJ l j k (by simpa using h) (by simpa using e)
  cases x with
  |none=>simpa using ih
  |some a =>
   exact(ih.cons a).trans (List.Perm.swap _ _ _)
theorem HK:∀(l:List (Option Nat)),(∀j,j<l.length->l.getD j (O 0)≠Z)->(l.filterMap id).length=l.length
 |[],_=>rfl
 |x::l,h=>by
  cases x with
  |none=>exact absurd rfl (h 0 (by simp))
  |some a =>
   have:=HK l λj hj=>by simpa using h (j+1) (by simpa using hj)
   simp[this]
def sL(mask:Nat)(owner:Array (Option Nat))(k:Nat):Prop:=owner.toList.length=mask+1/\(owner.toList.filterMap id).Perm (θ k)
theorem j7(xs:Array (Option Nat))(i:Nat)(d:Option Nat):xs.getD i d=xs.toList.getD i d:=by
 simp[ZU,T7]
theorem ac1{mask:Nat}{owner:Array (Option Nat)}{k n:Nat}(hm:jW mask)(hn:n<128)(I:sL mask owner k)(hk:k<=mask) :
  ∃j,SetTable.layClean.free mask owner (SetTable.turns mask) (SetTable.bits n % (mask+1)) (SetTable.bits n)=O j/\sL mask (owner.setIfInBounds j (O k)) (k+1):=by
 obtain⟨h1,h2⟩:=I;have hex:∃j,j<=mask/\owner.getD j (O 0)=Z:=by
  by_cases q:∃j,j<=mask/\owner.getD j (O 0)=Z
  ·exact q
  ·have:=HK owner.toList λj hj e=>q ⟨j,∅,by rw[j7];exact e⟩
   have h3:=h2.length_eq;rw[Ul]at h3;omega
 obtain⟨j,e,e1⟩:=GP _ _ _ 0 _ (agG hm hn) (dD _) (λk _ hb=>by simp at hb) hex
 refine⟨j,by rw[S4 hn];exact e,by simpa using h1,?_⟩
 rw[j7]at e1;have hj:j<owner.toList.length:=by
  rcases Y0 j owner.toList.length with q|q
  ·exact q
  ·rw[T7,VR q]at e1;cases e1
 rw[Xz];refine(HJ _ j k hj e1).trans ?_;rw[VQ];exact(h2.cons k).trans (Xy k _).symm
theorem P7{mask:Nat}(hm:jW mask):∀(hs:List Int) (owner:Array (Option Nat)) (k:Nat),(∀h∈hs,∃n:Nat,h=n/\n<128)->sL mask owner k->k+hs.length<=mask ->
  ∃ow,hs.foldl (λacc h=>(do
   let(owner,k) <-acc
   let j <-SetTable.layClean.free mask owner (SetTable.turns mask) (SetTable.bits h % (mask+1)) (SetTable.bits h)
   pure (owner.setIfInBounds j (O k),k+1):Option (Array (Option Nat)×Nat))) (O (owner,k))=O (ow,k+hs.length)/\sL mask ow (k+hs.length)
 |[],owner,k,_,I,_=>⟨owner,rfl,I⟩
 |h::hs,owner,k,hh,I,hl=>by
  obtain⟨n,e,hn⟩:=hh h (.head _);subst e;simp only[U0]at hl;obtain⟨j,e,I'⟩:=ac1 hm hn I ∅
  obtain⟨ow,e',ze⟩:=P7 hm hs _ (k+1) (λh x=>hh h (.tail _ x)) I' ∅
  refine⟨ow,?_,by rw[U0,show k+(hs.length+1)=k+1+hs.length by omega];exact ze⟩
  rw[Vj,U0,show k+(hs.length+1)=k+1+hs.length by omega,<-e']
  congr 1
  show(do let j <-SetTable.layClean.free mask owner (SetTable.turns mask) (SetTable.bits n % (mask+1)) (SetTable.bits n);pure (owner.setIfInBounds j (O k),k+1):Option (Array (Option Nat)×Nat))=_
  rw[e];rfl
theorem ac3{mask:Nat}(hm:jW mask)(hs:Array Int)(hh:∀h∈hs.toList,∃n:Nat,h=n/\n<128)(hl:hs.toList.length<=mask) :
  ∃ow,SetTable.layClean mask hs=O ow/\sL mask ow hs.toList.length:=by
 obtain⟨ow,e,I⟩:=P7 hm hs.toList (Array.replicate (mask+1) Z) 0 hh ⟨by simp,by simp⟩ ∅
 rw[UM]at e I;refine⟨ow,?_,I⟩;unfold SetTable.layClean;rw[<-ZR];exact congrArg (Option.map (λx:Array (Option Nat)×Nat=>x.1)) e
theorem FI(l:List (Option Nat)):(θ l.length).filterMap (λj=>l.getD j Z)=l.filterMap id:=by
 have:l=(θ l.length).map (λj=>l.getD j Z):=by
  apply YL
  ·simp
  ·intro i h1 h2;simp[T7,I8 h1]
 conv=>rhs;rw[this]
 rw[List.filterMap_map];rfl
theorem adg{mask:Nat}(hm:jW mask)(f mv:Nat)(led plain:Bool)(hs:Array Int)(hh:∀h∈hs.toList,∃n:Nat,h=n/\n<128)(hl:hs.toList.length<=mask) :
  ∃place order,SetTable.laid mask f mv led plain hs=O ({mask:=mask,place:=place,dummies:=#[],finger:=f,led:=led,moves:=mv,plain:=plain},order)/\Up place.toList/\(∀j∈place.toList,j<=mask)/\place.size=hs.size/\order.toList.Perm (θ hs.size):=by
 obtain⟨ow,e,h1,h2⟩:=ac3 hm hs hh hl;refine⟨(((θ (mask+1)).filterMap λj=>(ow.getD j Z).map (j,·)).map (·.1)).toArray,(((θ (mask+1)).filterMap λj=>(ow.getD j Z).map (j,·)).map (·.2)).toArray,?_,?_,?_,?_,?_⟩
 ·unfold SetTable.laid;rw[e];rfl
 ·show Up ((((θ (mask+1)).filterMap λj=>(ow.getD j Z).map (j,·)).map (·.1)).toArray).toList
  show List.Pairwise _ _;rw[WS];refine ZQ _ (λa a' hlt b hb b' hb'=>?_) Xx
  cases ha:ow.getD a Z<;>rw[ha]at hb<;>simp at hb
  cases ha':ow.getD a' Z<;>rw[ha']at hb'<;>simp at hb'
  rw[<-hb,<-hb'];exact hlt
 ·intro j hj;simp only[H8,Ww,gq]at hj;obtain⟨⟨a,b⟩,⟨c,hc,hq⟩,rfl⟩:=hj;cases ha:ow.getD c Z<;>rw[ha]at hq<;>simp at hq
  obtain⟨rfl,_⟩:=hq;omega
 ·have:((θ (mask+1)).filterMap λj=>(ow.getD j Z).map (j,·)).length=(ow.toList.filterMap id).length:=by
   rw[<-FI,h1,<-T6 (f:=Prod.snd),YK]
   congr 1
   congr 1
   funext j
   rw[j7];cases ow.toList.getD j Z<;>rfl
  rw[U1,T6,this,h2.length_eq,Ul];simp
 ·show(((θ (mask+1)).filterMap λj=>(ow.getD j Z).map (j,·)).map (·.2)).Perm _
  have:(((θ (mask+1)).filterMap λj=>(ow.getD j Z).map (j,·)).map (·.2))=ow.toList.filterMap id:=by
   rw[<-FI,h1,YK]
   congr 1
   funext j
   rw[j7];cases ow.toList.getD j Z<;>rfl
  rw[this]
  simpa using h2
structure qp (t:ψ) (n:Nat):Prop where
 size:t.place.size=n
 up:Up t.place.toList
 le:∀j∈t.place.toList,j<=t.mask
 dm:t.dummies=#[]
 mask:(t.mask=7/\n<=4)\/(t.mask=31/\n<=18)\/(t.mask=127/\n<=76)
 plain:t.plain=G
theorem qp.fits(h:qp t n):t.fits n=G:=by
 have:=h.mask;simp only[SetTable.fits,SetTable.fill,h.size,h.dm,T5,beq_self_eq_true,true_and,decide_eq_true_eq];simp;omega
theorem amf(led:Bool):qp (.fresh 0 0 led) 0:=⟨rfl,.nil,λj h=>by simp[SetTable.fresh]at h,rfl,.inl ⟨rfl,∅⟩,rfl⟩
def HS(es:List (Int×Δ)):Prop:=∀e∈es,∃n:Nat,e.1=n/\n<128
theorem ac2{es:Array (Int×Δ)}{m:Nat}(I:qp t es.size)(hm:m<128)(hn:es.size<64):
  ∃es1 t1,layNew t es (m:Int) x=(es1,t1,ξ,ξ)/\es1.size=es.size+1/\t1.led=t.led/\t1.plain=G/\t1.place.size=es1.size/\Up t1.place.toList/\(∀j∈t1.place.toList,j<=t1.mask)/\t1.dummies=#[]/\t1.mask=t.mask/\t1.fits es1.size=G:=by
 have hk:=I.mask;have hsz:=I.size;obtain⟨j,e,h1,h2⟩:=afw I.dm (by unfold tW;omega) hm (by simp;omega) I.up
 have hnd:(if SetTable.has t.dummies j then SetTable.eraseAt t.dummies (SetTable.below t.dummies j)else t.dummies)=#[]:=by
  rw[I.dm];rfl
 have hs1:(SetTable.insertAt es (SetTable.below t.place j) (m,x)).size=es.size+1:=by
  rw[<-U8,(WR ..).length_eq];simp
 have hs2:(SetTable.insertAt t.place (SetTable.below t.place j) j).size=es.size+1:=by
  rw[<-U8,(WR ..).length_eq];simp[hsz]
 have hfit:(t.put j).1.fits (es.size+1)=G:=by
  simp only[SetTable.put,SetTable.fits,SetTable.fill,hnd,hs2,T5,beq_self_eq_true,true_and,decide_eq_true_eq];simp;omega
 refine⟨SetTable.insertAt es _ _,(t.put j).1,?_,hs1,rfl,I.plain,?_,?_,?_,hnd,rfl,?_⟩
 ·unfold layNew;rw[e];dsimp only;have hp:(t.put j).2=SetTable.below t.place j:=rfl;rw[hp,hs1];unfold SetTable.orStandIn;rw[hfit];rfl
 ·rw[hs1];exact hs2
 ·exact K2 I.up h1
 ·intro k hk';have:k∈(t.place.push j).toList:=(WR t.place _ j).mem_iff.mp hk';rw[Xw,US,UT]at this
  rcases this with q|rfl
  ·exact I.le k q
  ·exact h2
 ·rw[hs1];exact hfit
theorem aoU{t:ψ}{es:Array (Int×Δ)}(hp:t.plain=G)(hh:HS es.toList)(hm:(t.mask=7/\es.size=5)\/(t.mask=31/\es.size=19)) :
  ∃k7 t2,relayAll t es (SetTable.grown es.size)=(k7,t2,ξ)/\k7.size=es.size/\qp t2 k7.size/\t2.led=t.led:=by
 have hw:∃m,SetTable.sizeAbove (SetTable.grown es.size)-1=m/\((m=31/\es.size=5)\/(m=127/\es.size=19)):=by
  rcases hm with⟨_,e⟩|⟨_,e⟩
  ·rw[e];exact⟨31,⋯,.inl ⟨rfl,rfl⟩⟩
  ·rw[e];exact⟨127,⋯,.inr ⟨rfl,rfl⟩⟩
 obtain⟨m,ew,hq⟩:=hw;have hs:(es.map (·.1)).toList=es.toList.map (·.1):=by simp
 obtain⟨place,order,e,u1,u2,u3,u4⟩:=adg (mask:=m) (by unfold jW;omega) t.finger (t.movedTo m) t.led t.plain (es.map (·.1)) (λh hx=>by
  rw[hs,H8]at hx;obtain⟨y,hy,rfl⟩:=hx;exact hh y hy) (by rw[hs,T6,U8];omega)
 rw[Array.size_map]at u3 u4;have hes:(order.filterMap (es[·]?)).size=es.size:=by
  rw[<-U8,YJ];exact((u4.filterMap _).trans (by rw[ZP])).length_eq
 have hfit:SetTable.fits {mask:=m,place:=place,dummies:=#[],finger:=t.finger,led:=t.led,moves:=t.movedTo m,plain:=t.plain} es.size=G:=by
  simp only[SetTable.fits,SetTable.fill,u3,T5,beq_self_eq_true,true_and,decide_eq_true_eq];simp only[U1,Uc];omega
 refine⟨order.filterMap (es[·]?),{mask:=m,place:=place,dummies:=#[],finger:=t.finger,led:=t.led,moves:=t.movedTo m,plain:=t.plain},?_,hes,?_,?_⟩
 rotate_left
 ·rw[hes];exact⟨u3,u1,u2,rfl,.inr (by show(m=31/\_)\/(m=127/\_);omega),hp⟩
 ·rfl
 ·unfold relayAll SetTable.relaid;rw[ew,e];dsimp only;rw[hes,hfit];have hc:coversAll order es.size=G:=by unfold coversAll;exact List.isPerm_iff.mpr u4
  rw[hc];rfl
theorem afr{t1:ψ}(I:qp t n)(hm:t1.mask=t.mask)(hs:t1.place.size=n+1)(hd:t1.dummies=#[])(hn:n<64):
  (t1.tooFull=G->(t1.mask=7/\n+1=5)\/(t1.mask=31/\n+1=19))/\(t1.tooFull=ξ->((t1.mask=7/\n+1<=4)\/(t1.mask=31/\n+1<=18)\/(t1.mask=127/\n+1<=76))):=by
 have hk:=I.mask;have hz:(#[]:Array Nat).size=0:=rfl;simp only[SetTable.tooFull,SetTable.fill,hs,hd,hm,hz,decide_eq_true_eq,decide_eq_false_iff_not];omega
theorem Bq{n:Nat}(h:n<128):hashInt (n:Int)=n:=by
 have:((θ 128).all λn=>hashInt n==n)=G:=by decide +kernel
 exact eq_of_beq (Iv.mp this n (gq.mpr h))
def gj(w:υ):Bool:=w.params.followText "set-order"
def gB(ns:List Nat)(x:Nat):List Nat:=if x∈ns then ns else ns++[x]
def iJ(l:List (Int×Δ))(ns:List Nat):Prop:=(l.map (·.1)).Perm (ns.map λn:Nat=>(n:Int))/\∀e∈l,∃(n:Nat) (tk:Tok),e=((n:Int),.int n tk)/\n<128
def eF(w:υ)(h:τ)(a:Ξ)(ns:List Nat):Prop:=∃o es ep t,h.get? a=O o/\o.ExactSet/\o.data=.set es ep t/\qp t es.size/\t.led = !gj w/\iJ es.toList ns
theorem iJ.hs{ns:List Nat}(h:iJ l ns):HS l:=λe he=>by
 obtain⟨n,tk,rfl,hn⟩:=h.2 e he;exact⟨n,rfl,hn⟩
theorem iJ.len{ns:List Nat}(h:iJ l ns):l.length=ns.length:=by
 have:=h.1.length_eq;simpa using this
theorem iJ.mem{ns:List Nat}(h:iJ l ns)(n:Nat):n∈ns↔∃e∈l,e.1=(n:Int):=by
 constructor
 ·intro hn;have:_∈l.map (·.1):=h.1.mem_iff.mpr (H8.mpr ⟨n,hn,rfl⟩);obtain⟨e,he,q⟩:=H8.mp this;exact⟨e,he,q⟩
 ·rintro ⟨e,he,q⟩
  have:_∈ns.map _:=h.1.mem_iff.mp (H8.mpr ⟨e,he,q⟩);obtain⟨m,hm,r⟩:=H8.mp this;have:m=n:=∅
  exact this▸hm
theorem iJ.perm{l':List (Int×Δ)}{ns:List Nat}(h:iJ l ns)(p:l'.Perm l):iJ l' ns:=⟨(p.map _).trans h.1,λe he=>h.2 e (p.mem_iff.mp he)⟩
theorem iJ.push{ns:List Nat}(h:iJ l ns){m:Nat}(hm:m<128)(tk:Tok):iJ (l++[((m:Int),.int m tk)]) (ns++[m]):=by
 refine⟨?_,λe he=>?_⟩
 ·rw[Ve,Ve];exact h.1.append_right _
 ·rcases US.mp he with he|he
  ·exact h.2 e he
  ·rw[UT]at he;exact⟨m,tk,he,hm⟩
section
variable {prog:π}{w:υ}{A:ω}{E:Δ->Ψ->Prop}{s:Ψ}
theorem iJ.els{ns:List Nat}(h:iJ l ns):ElemsOf (intKind prog w) l:=λe he=>by
 obtain⟨n,tk,rfl,hn⟩:=h.2 e he;exact⟨⟨n,by simp[intKind,Value.isInt],(Bq hn).symm⟩,rfl⟩
theorem z8{h:τ}(ho:h.get? a=O o)(hd:o.data=.set es ep t):
  (h.update a (Obj.putSet es' t')).get? a=O {o with data:=.set es' (ep+1) t'}:=by
 have:=Wu (Obj.putSet es' t') ho (by rw[putSet_of es' t' hd];rfl)
 rwa[putSet_of es' t' hd]at this
theorem L6{ns:List Nat}{Q:Bool->Ψ->Prop}(hm:m<128)(hS:eF w s.heap a ns)(hn:ns.length<64)(h:∀b h',Vl a s.heap h'->eF w h' a (gB ns m)->Q b {s with heap:=h'}):wpAny (model prog w) A (setAddHashed a (.int m tk) (hashInt m)) Q E s:=by
 obtain⟨o,es,ep,t,ho,hex,hd,hI,hl,hs⟩:=hS;have hsz:es.size=ns.length:=by rw[<-U8];exact hs.len
 have hel:ElemsOf (intKind prog w) es.toList:=hs.els;have hkey:(intKind prog w).is (m:Int) (.int m tk)=G:=by simp[intKind,Value.isInt]
 refine Ur (bf (V8 ho hd hI.fits ?_));dsimp only;rw[byScan_of rfl (by unfold scanBound;omega) hel]
 simp only[↓reduceIte];refine bf (bf (XW (bf (wpAny_setScan_of hkey ho hd hI.fits hel ?_))));have hfind:∀e∈es.toList,(intKind prog w).is (m:Int) e.2=G->e.1=(m:Int):=λe he q=>by
  obtain⟨n,tk',rfl,_⟩:=hs.2 e he;obtain⟨t',q⟩:=Wx (show Value.isInt (m:Int) (.int (n:Int) tk')=G from q)
  injection q
 cases hr:es.toList.findIdx? (λe=>(intKind prog w).is (m:Int) e.2)with
 |some j =>
  dsimp only;obtain⟨hj,hpj,_⟩:=List.findIdx?_eq_some_iff_getElem.mp hr;have hmem:m∈ns:=(hs.mem m).mpr ⟨_,U6 hj,hfind _ (U6 hj) hpj⟩;refine bg (bg ?_);exact h ξ s.heap (Heap.SameBut.refl a s.heap) (by unfold gB;rw[if_pos hmem];exact⟨o,es,ep,t,ho,hex,hd,hI,hl,hs⟩)
 |none =>
  dsimp only;have hmem:m∉ns:=λhq=>by
   obtain⟨e,he,q⟩:=(hs.mem m).mp hq;have:=YI.mp hr e he;obtain⟨n,tk',rfl,_⟩:=hs.2 e he;have e:n=m:=by dsimp only at q;omega
   subst e;simp[intKind,Value.isInt]at this
  have hst:gB ns m=ns++[m]:=by unfold gB;rw[if_neg hmem]
  rw[hst]at h;rw[Bq hm];have mw:=layNew_perm t es (m:Int) (.int m tk);obtain⟨es1,t1,e1,q1,q2,q3,q4,q5,q6,q7,q8,q9⟩:=ac2 hI hm ∅
  rw[e1]at mw ⊢;dsimp only at mw ⊢;rw[Xw]at mw;have hs1:=(hs.push hm tk).perm mw;refine bf (bg ?_);rw[q3];refine bf ?_;rw[YH 8 rfl];refine bg ?_;dsimp only[plainKind];simp;refine bf (Xv ho hd ?_ (fits_of_scanBound (by unfold scanBound;omega)))
  have pW:=z8 (es':=es1) (t':=t1) ho hd;have gU:=VT s.heap a (Obj.putSet es1 t1);have hcs:=afr hI q8 (q4.trans q1) q7 ∅
  cases hf:t1.tooFull with
  |false =>
   simp only[Wj,ZH,Ug,↓reduceIte];refine bg (bg (h G _ gU ⟨_,es1,ep+1,t1,pW,hex,rfl,⟨q4,q5,q6,q7,?_,q3⟩,q2.trans hl,hs1⟩));rw[q1];exact hcs.2 hf
  |true =>
   simp only[Wj,Xu,↓reduceIte];have hp2:=relayAll_perm t1 es1 (SetTable.grown es1.size);obtain⟨k7,t2,e2,r1,r2,r3⟩:=aoU q3 hs1.hs (by rw[q1];exact hcs.1 hf)
   rw[e2]at hp2 ⊢;dsimp only at hp2 ⊢;refine bf (bg ?_);refine bf (Xv pW rfl ?_ (fits_of_scanBound (by unfold scanBound;omega)))
   exact bg (bg (h G _ (gU.trans (VT _ a _)) ⟨_,k7,ep+1+1,t2,z8 pW rfl,hex,rfl,r2,r3.trans (q2.trans hl),hs1.perm hp2⟩))
end
def fh(xs:List Nat):List Nat:=xs.foldl gB []
theorem afG{xs:List Nat}(h:i<xs.length):fh (xs.take (i+1))=gB (fh (xs.take i)) xs[i]:=by
 unfold fh;rw[Wi h,Wh];rfl
theorem RN:∀(xs ns:List Nat),ns.length<=(xs.foldl gB ns).length
 |[],ns=>dD _
 |x::xs,ns=>by
  have:=RN xs (gB ns x);have h:ns.length<=(gB ns x).length:=by unfold gB;split<;>simp
  rw[Vj];omega
theorem afH(xs:List Nat)(i:Nat):(fh (xs.take i)).length<=(fh xs).length:=by
 have:fh xs=(xs.drop i).foldl gB (fh (xs.take i)):=by
  unfold fh;rw[<-Wh,Vq]
 rw[this];exact RN _ _
theorem eF.at{h':τ}{ns:List Nat}(x:eF w h a ns)(k:∀o,h.get? a=O o->h'.get? a=O o):eF w h' a ns :=
 let⟨o,es,ep,t,ho,r⟩:=x;⟨o,es,ep,t,k o ho,r⟩
section
variable {prog:π}{w:υ}{A:ω}{s:Ψ}{E:Δ->Ψ->Prop}
theorem L4{R:Result->Ψ->Prop}{wr:List Ξ}{Θ:Array WZ->Array WZ->Prop}{P:Nat->Δ->Prop}{St:Nat->Ψ->Prop}{xs:List Nat}(W:WalksS prog w A.in1 I fp wr Θ xs.length P St)(S:Ξ)(hSf:S∉fp)(hval:∀(i:Nat) v,(hi:i<xs.length)->P i v->∃t,v=Value.int (xs[i]:Nat) t)(hx:∀x∈xs,x<128)(h64:(fh xs).length<64):
  ∀(k i:Nat) (s:Ψ),xs.length-i=k->i<=xs.length->St i s->eF w s.heap S (fh (xs.take i)) ->
   (∀s',Moved (S::wr) Θ s s'->eF w s'.heap S (fh xs)->R (.ok (.ret .none)) s') ->
   codeAny (model prog w) A (.builtin "set.update.loop" ⟨[.ref S,.ref I],[]⟩) R s:=by
 have Bt:=λh=>hSf (W.sub _ h)
 have hup:∀b∈wr,b∈S::wr:=λb hb=>.tail _ hb
 intro k
 induction k with
 |zero =>
  intro i s hk hi st hS hR;cases(show i=xs.length by omega)
  refine Vd Xs ?_;refine bf (W.done s _ _ st λs' hm=>?_)
  rw[Us]at hS;exact bg (hR s' (hm.mono hup) (hS.at λo e=>hm.heap S _ Bt e))
 |succ k ih =>
  intro i s hk hi st hS hR;have hlt:i<xs.length:=∅
  refine Vd Xs ?_;rw[Xr Wg _];refine bf (W.item i s _ _ hlt st λv s' hP st' hm=>?_)
  obtain⟨t,rfl⟩:=hval i v hlt hP;refine bf (Ur ?_);unfold setAdd;refine Ur (bf ((intKind prog w).pyHash (k:=(xs[i]:Nat)) (by simp[intKind,Value.isInt]) ?_))
  refine L6 (s:={s' with toks:=s'.toks+1}) (hx _ (U6 hlt)) (hS.at λo e=>hm.heap S _ Bt e) (VH (afH xs i) h64) λb h' gU jB=>?_
  rw[<-afG hlt]at jB;refine bg ⟨YG Wg _,ih (i+1) _ ∅ hlt (W.frame _ s' _ _ st' (WD _) λb hb o e=>?_) jB λs'' G8 Ho=>?_⟩
  ·rw[gU.2 b (λq:b=S=>hSf (q▸hb))];exact e
  ·refine hR s'' (Moved.trans W.gtrans ((hm.mono hup).then_heap (WD _) λb o hb e=>?_) G8) Ho
   rw[gU.2 b (λq:b=S=>hb (q▸.head _))];exact e
def c7(w:υ):Obj:={cls:=.type "set",dict:=Z,data:=.set #[] 0 (.fresh 0 0 (!gj w))}
theorem HR(w:υ){h:τ}(e:h.get? a=O (c7 w)):eF w h a [] :=
 ⟨_,#[],0,_,e,⟨rfl,rfl,rfl⟩,rfl,amf _,rfl,.refl _,λe he=>by cases he⟩
theorem Fb(a:Δ){Q₁:Δ->Ψ->Prop}(h:Q₁ (.ref s.heap.objs.size) {s with heap:=s.heap.push (c7 w)}) :
  codeAny (model prog w) A (.call (.builtin "set.__new__") ⟨[.type "set",a],[]⟩) (wants Q₁ E) s:=by
 refine Xq (show wpAny _ A.in1 _ _ _ s from ?_)
 refine bf (W9 (PySem.F.newCall_set_1 a) (bg ⟨YG ZO _,Vd PySem.F.entry_set_new ?_⟩));rw[Xr ZO _];unfold Builtin.«set.__new__» Builtin.Frozenset.newClass;have hsub:=XF;obtain⟨hp,g,d,tk,os⟩:=s;dsimp only;wp_walk;refine VP (bg ?_);dsimp only;simp only[newObj];exact bf (wpAny_alloc (bg (bg h)))
set_option maxHeartbeats 3200000 in
theorem anP{l:Ξ}{items:Array Δ}{xs:List Nat}{Q:Δ->Ψ->Prop}(hh:A.handled=Z)(hl:s.heap.IsList l items)(hi:Uz items.toList (xs.map λn:Nat=>(n:Int)))(hx:∀x∈xs,x<128)(h64:(fh xs).length<64)
  (h:∀(h':τ) (tk:Nat),eF w h' s.heap.objs.size (fh xs)->(∀b o,b<s.heap.objs.size->s.heap.get? b=O o->h'.get? b=O o)->Q (.ref s.heap.objs.size) {s with heap:=h',toks:=tk}) :
  wpAny (model prog w) A (call (.type "set") [.ref l]) Q E s:=by
 obtain⟨c,tl,QZ⟩:=UE.mro;have hmade:=UE.made;have hsub:=UE.sub;refine WI (Xq (show wpAny _ _ (callAny (.type "set") _) _ _ _ from ?_))
 refine bg ⟨YF _ (by decide +kernel),Vd YE ?_⟩
 rw[YD (YC "set" [.ref l] []) rfl];have h1:=UE.notType;have h2:=UE.canCreate;have hct:=YB (.ref l)
 repeat any_goals (first|assumption|wp_step)
 refine V5 (Fb (.ref l) (E:=E) (Q₁:=λobj s₁=>obj=.ref s.heap.objs.size/\s₁={s with heap:=s.heap.push (c7 w)}) ⟨rfl,rfl⟩) λr s₁ hr=>?_
 cases r with
 |error e=>exact hr
 |ok fl =>
  cases fl with
  |ret obj =>
   obtain⟨rfl,rfl⟩:=hr;have hS:(s.heap.push (c7 w)).get? s.heap.objs.size=O (c7 w):=T9 _ rfl;have hT:Y6 {s with heap:=s.heap.push (c7 w)} (.ref s.heap.objs.size) "set":=⟨_,hS,rfl⟩
   have hli:=UE.init.lookup;have hbi:=UE.init.bind (.ref s.heap.objs.size)
   repeat any_goals (first|assumption|wp_step)
   refine V5 (YA (R:=wants (λr s₂=>r=.none/\∃h' tk,s₂={s with heap:=h',toks:=tk}/\eF w h' s.heap.objs.size (fh xs) /\
     (∀b o,b<s.heap.objs.size->s.heap.get? b=O o->h'.get? b=O o)) E) UE.init.plain Z2 (Z1 hT ?_)) λr₂ s₂ kR=>?_
   ·obtain⟨ol,iX,hcl,nl,hdl⟩:=hl;obtain⟨ON,wM,OH,wH⟩:=ol;simp only at hcl hdl;subst hcl;subst hdl;have pV:(s.heap.push (c7 w)).get? l=O {cls:=.type "list",dict:=wM,data:=.seq items nl,slots:=wH}:=jn _ iX;have QS:=m6;have QT:=ku;have hne:(Value.type "list"==Value.type "dict")=ξ:=⋯
    have hl1:(s.heap.push (c7 w)).IsList l items:=⟨_,pV,rfl,nl,rfl⟩;unfold c7 at hS hT pV ⊢;unfold Builtin.«set.__init__» noKeywords Builtin.Frozenset.updateFrom
    generalize yd:pyIter=PI
    wp_walk
    subst yd;refine WK hl1 (bf (Z0 ?_));have hlS:l<s.heap.objs.size:=IT iX;have hlen:items.size=xs.length:=by have:=hi.length;simpa using this
    have xZ:l≠(s.heap.push (c7 w)).objs.size:=by rw[UJ];exact T3 (VG hlS)
    have hSf:s.heap.objs.size∉[(s.heap.push (c7 w)).objs.size,l]:=by
     rw[UJ];simp only[AP,TZ,or_false,not_or];exact⟨T3 (Uu _),Uh hlS⟩
    have W:=(Wo (prog:=prog) (w:=w) (A:=A.in1.in1.in1) (by simp[hh]) (s.heap.push (c7 w)).objs.size l xZ items).toS
    rw[hlen]at W;refine L4 (xs:=xs) W s.heap.objs.size hSf (λi v hi' hv=>?_) hx h64 xs.length 0 _ ∅ (V9 _) ⟨⟨_,T9 _ rfl,rfl,rfl⟩,hl1.push _⟩ (HR w (jn _ hS)) λs' hm hS'=>?_
    ·obtain⟨t,e⟩:=IntsAre.int_at hi i v (by rw[UQ];exact hv)
     exact⟨t,by rw[e];simp[T7,I8 hi']⟩
    ·obtain⟨h',g',d',tk',os'⟩:=s';cases(show g'=s.gens from hm.gens)
     cases(show d'=s.drawn from hm.drawn)
     cases(show os'=s.os from hm.os)
     refine bg (bg ⟨rfl,h',tk',rfl,hS',λb o hb e=>?_⟩)
     exact hm.heap b o (by rw[UJ];simp only[AP,TZ,or_false,not_or];exact⟨T3 hb,T3 (VG hb)⟩) (jn _ (jn _ e))
   ·cases r₂ with
    |error e=>exact kR
    |ok yh =>
     cases yh with
     |ret r =>
      obtain⟨rfl,h',tk,rfl,hS',hk'⟩:=kR
      repeat any_goals (first|assumption|wp_step)
      exact h _ _ hS' hk'
     |_=>exact kR.elim
  |_=>exact hr.elim
end
theorem sY:Slot "set_iterator" "__next__" "set_iterator.__next__" :=
 .of (owner:="set_iterator") (n:="__next__") (by rw[typeLookup_type,ir];kernel_rfl) (by decide +kernel) (by decide +kernel)
  (by decide +kernel) (by first|exact .inl (by decide +kernel)|exact .inr (by decide +kernel)) (by rw[Xp];kernel_rfl)
theorem LA:Slot "set_iterator" "__iter__" "set_iterator.__iter__" :=
 .of (owner:="set_iterator") (n:="__iter__") (by rw[typeLookup_type,ir];kernel_rfl) (by decide +kernel) (by decide +kernel)
  (by decide +kernel) (by first|exact .inl (by decide +kernel)|exact .inr (by decide +kernel)) (by rw[Xp];kernel_rfl)
theorem LC:entryFor table "set_iterator.__next__"=O Builtin.«set_iterator.__next__»:=entryFor_of_tree (by kernel_rfl)
theorem amS:entryFor table "set_iterator.__iter__"=O Builtin.«dict_keyiterator.__iter__» :=
 Yz (id':="dict_keyiterator.__iter__") (by kernel_rfl) rfl (by decide +kernel) (by kernel_rfl)
theorem amT:entryFor table "set.__iter__"=O Builtin.«frozenset.__iter__» :=
 Yz (id':="frozenset.__iter__") (by kernel_rfl) rfl (by decide +kernel) (by kernel_rfl)
theorem LB:Manifest.owners.lookup (String.ofList ['r','o','t','a','r','e','t','i','_','t','e','s'].reverse)=O Manifest.sig_set_iterator:=by kernel_rfl
theorem LG(a:Δ):argsOk "set_iterator.__next__" ⟨[a],[]⟩:=by
 unfold argsOk;rw[signature?_of (n:=['_','_','t','x','e','n','_','_']) (by kernel_rfl) LB];kernel_rfl
theorem amQ(a:Δ):argsOk "set_iterator.__iter__" ⟨[a],[]⟩:=by
 unfold argsOk;rw[signature?_of (n:=['_','_','r','e','t','i','_','_']) (by kernel_rfl) LB];kernel_rfl
theorem CK{α:Type}{l:List α}(h:i<l.length):([l[i]]++l.eraseIdx i).Perm l:=by
 rw[Vp];have e:l=l.take i++l[i]::l.drop (i+1):=by rw[<-XO h,Vq]
 conv=>rhs;rw[e]
 exact(Yy (l₁:=l.take i)).symm
theorem NS{α:Type}(next:Nat->Nat):∀(fuel k:Nat) (left:List α) (out:Array α),fuel=left.length->(pickOrder.go next fuel k left out).toList.Perm (out.toList++left)
 |0,k,left,out,h=>by
  have:left=[]:=Yx.mp h.symm;subst this;unfold pickOrder.go;simp
 |fuel+1,k,left,out,h=>by
  unfold pickOrder.go;have hlt:next k % left.length<left.length:=V7 _ ∅
  rw[I8 hlt];refine(NS next fuel _ _ _ (by rw[ie hlt];omega)).trans ?_
  rw[Xw,UY];exact(CK hlt).append_left _
def iS(w:υ)(a:Ξ)(ep:Nat)(es:Array (Int×Δ)):Array (Int×Δ):=if gj w then pickOrder (w.params.setOrder a ep) es else es
theorem wI(w:υ)(a:Ξ)(ep:Nat)(es:Array (Int×Δ)):(iS w a ep es).toList.Perm es.toList:=by
 unfold iS;split
 ·unfold pickOrder
  simpa using NS _ es.size 0 es.toList #[] (by simp)
 ·exact .rfl
def jq(b:Bool)(place:Array Nat):Nat->Nat
 |0=>0
 |i+1=>if b then 0 else place.toList.getD i 0+1
def mR(h:τ)(it a:Ξ)(sl i n ep:Nat):Prop:=∃o,h.get? it=O o/\o.cls=.type "set_iterator"/\o.data=.fields #[.int sl 0,.int i 0,.ref a,.int n 0,.int ep 0]
theorem mR.typeIs{s:Ψ}(h:mR s.heap it a sl i n ep):s.TypeIs (.ref it) "set_iterator":=let⟨o,ho,hc,_⟩:=h;⟨o,ho,hc⟩
theorem mR.at{h':τ}(x:mR h it a sl i n ep)(k:∀o,h.get? it=O o->h'.get? it=O o):mR h' it a sl i n ep:=let⟨o,ho,r⟩:=x;⟨o,k o ho,r⟩
def iK(w:υ)(h:τ)(a:Ξ)(es:Array (Int×Δ))(ep:Nat)(t:ψ):Prop:=∃o,h.get? a=O o/\o.ExactSet/\o.data=.set es ep t/\qp t es.size/\t.led = !gj w
theorem iK.at{h':τ}(x:iK w h a es ep t)(k:∀o,h.get? a=O o->h'.get? a=O o):iK w h' a es ep t:=let⟨o,ho,r⟩:=x;⟨o,k o ho,r⟩
section
variable {prog:π}{w:υ}{A:ω}{E:Δ->Ψ->Prop}{s:Ψ}
theorem L3{Q:Option (Δ×Nat)->Ψ->Prop}(hS:iK w s.heap a es ep t)(hi:i<=es.size)(h:Q ((iS w a ep es)[i]?.map λe=>(e.2,jq (gj w) t.place (i+1))) s):wpAny (model prog w) A (setNext a (jq (gj w) t.place i) i ep) Q E s:=by
 obtain⟨o,ho,hex,hd,hI,hl⟩:=hS;refine bf (V8 ho hd hI.fits ?_);refine bf ?_;refine bf (VP (bg ?_));show wpAny _ _ (if gj w=G then _ else _) _ _ _
 unfold iS at h;cases hb:gj w with
 |true =>
  rw[hb]at h;simp at h ⊢;refine bf ?_;unfold setWalk;refine bf (V8 ho hd hI.fits ?_);refine bf ?_;unfold setsByText;refine bf (VP (bg ?_));show wpAny _ _ (if gj w=G then _ else _) _ _ _
  rw[hb];refine bf (VP (bg (bg ?_)));have e:jq G t.place (i+1)=jq G t.place i:=by cases i<;>rfl
  rw[e]at h;exact h
 |false =>
  rw[hb]at h hl;simp at h ⊢;show wpAny _ _ (if(!t.plain&&decide (es.size>1))=G then _ else _) _ _ _
  rw[hI.plain];refine bf (W9 (a:=()) ?_ ?_)
  ·show(if(!t.led && !es.isEmpty)=G then _ else _)=_
   rw[hl];rfl
  have hbl:SetTable.below t.place (jq ξ t.place i)=i:=by
   cases i with
   |zero=>exact ahy hI.up
   |succ i=>exact ahz hI.up (by rw[U8,hI.size];omega)
  rw[hbl];refine bg ?_
  rcases Y0 i es.size with hlt|hge
  ·have hp:i<t.place.size:=by rw[hI.size];exact hlt
   rw[XE hlt]at h ⊢;rw[XE hp];have e:jq ξ t.place (i+1)=t.place[i]+1:=by
    simp[jq,T7,I8 (show i<t.place.toList.length by simpa using hp)]
   rw[e]at h;exact h
  ·rw[ic hge]at h ⊢;exact h
end
section
variable {prog:π}{w:υ}{A:ω}{E:Δ->Ψ->Prop}{s:Ψ}
theorem adA{es:Array (Int×Δ)}{t:ψ}{Q:Option Δ->Ψ->Prop}(hit:mR s.heap it a (jq (gj w) t.place i) i es.size ep)(hS:iK w s.heap a es ep t)(hi:i<es.size)(hv:(iS w a ep es)[i]? = O v)(hQ:∀h',mR h' it a (jq (gj w) t.place (i+1)) (i+1) es.size ep->Vl it s.heap h'->Q (O v.2) {s with heap:=h'}):
  wpAny (model prog w) A (pyNext (.ref it)) Q E s:=by
 obtain⟨o,ho,hc,hd⟩:=id hit;obtain⟨oS,hoS,Q3,hdS,hI,hl⟩:=id hS;refine bf (XT (WB hit.typeIs sY (VF sY hit.typeIs LC ?_ (LG _))));refine bf (bg ?_);refine bf (wpAny_fieldsOf ho hd ?_);refine bf (XD hoS hdS hI.fits ?_);rw[if_neg (by simp)]
 refine bf (L3 (ep:=ep) hS (VX hi) ?_);rw[hv];refine bf (Wq ho hd (by simp) ?_)
 have g1:=Wu (Obj.mapFields (·.setIfInBounds 0 (rawInt ((jq (gj w) t.place (i+1)))))) ho (ZE (WA hd _));have d1:=WA hd (·.setIfInBounds 0 (rawInt ((jq (gj w) t.place (i+1)))));refine bf (Wq g1 d1 (by simp) ?_)
 refine bg ⟨_,rfl,bg (hQ _ ⟨_,(Wu (Obj.mapFields (·.setIfInBounds 1 (rawInt (i+1)))) g1 (ZE (WA d1 _))),?_,?_⟩ ((VT ..).trans (VT ..)))⟩
 ·exact(ZD ..).trans ((ZD ..).trans hc)
 ·rw[(WA d1 (·.setIfInBounds 1 _))];simp[rawInt]
theorem adB{es:Array (Int×Δ)}{t:ψ}{Q:Option Δ->Ψ->Prop}(hh:A.handled=Z)(hit:mR s.heap it a (jq (gj w) t.place es.size) es.size es.size ep)(hS:iK w s.heap a es ep t)(hQ:∀h',Heap.ExtBut it s.heap h'->Q Z {s with heap:=h'}):wpAny (model prog w) A (pyNext (.ref it)) Q E s:=by
 obtain⟨o,ho,hc,hd⟩:=id hit;obtain⟨oS,hoS,Q3,hdS,hI,hl⟩:=id hS;refine bf (XT (WB hit.typeIs sY (VF sY hit.typeIs LC ?_ (LG _))));refine bf (bg ?_);refine bf (wpAny_fieldsOf ho hd ?_);refine bf (XD hoS hdS hI.fits ?_);rw[if_neg (by simp)]
 refine bf (L3 (ep:=ep) hS (dD _) ?_);have hv:(iS w a ep es)[es.size]? = Z:=by
  have:=(wI w a ep es).length_eq;rw[U8,U8]at this;exact ic ∅
 rw[hv];refine bf (Wq ho hd (by simp) ?_)
 refine bf ?_;refine bf (m:=firstArgMember _ _) (W9 (by first|rfl|(simp;rfl)) (XY ?_ (by size_fits)))
 refine bf (wpAny_handled ?_);rw[show A.in1.handled=Z from hh]
 refine bf (bg (wpAny_throw ?_));refine bf (WX (b:=G) ⟨_,T9 _ rfl,rfl⟩ isSubtype_stop ?_);exact bg (hQ _ (((VT ..).extBut.push _).push _))
theorem ady{Q:Δ->Ψ->Prop}(hit:mR s.heap it a sl i n ep)(h:Q (.ref it) s):wpAny (model prog w) A (pyIter (.ref it)) Q E s:=by
 exact wpAny_pyIter_slot hit.typeIs LA (VF LA hit.typeIs amS (show wpAny _ _ _ _ _ s from(bg ⟨_,rfl,"set_iterator",_,hit.typeIs,sY.lookup,h⟩)) (amQ _))
theorem anS(hh:A.handled=Z)(I a:Ξ)(hne:a≠I)(es:Array (Int×Δ))(ep:Nat)(t:ψ) :
  Walks prog w A I [I,a] [I] es.size (λi v=>(iS w a ep es)[i]?.map (·.2)=O v) (λi h=>mR h I a (jq (gj w) t.place i) i es.size ep/\iK w h a es ep t) where
 sub:=λb hb=>by simp at hb;simp[hb]
 frame:=λ_ _ _ st hk=>⟨st.1.at λo e=>hk I (by simp) o e,st.2.at λo e=>hk a (by simp) o e⟩
 item:=λi s Q E hi st hQ=>by
  have hl:=(wI w a ep es).length_eq;rw[U8,U8]at hl;have hv:_[i]? = O (iS w a ep es)[i]:=XE ∅
  exact adA st.1 st.2 hi hv λh' x6 hs'=>hQ _ h' s.toks (by rw[hv];rfl) ⟨x6,st.2.at λo e=>hs'.extBut a o hne e⟩ λb o hb e=>hs'.extBut b o (λh=>hb (by simp[h])) e
 done:=λs Q E st hQ=>adB hh st.1 st.2 λh' he'=>hQ h' s.toks λb o hb e=>he' b o (λh=>hb (by simp[h])) e
 self:=λ_ _ _ _ st hQ=>ady st.1 hQ
theorem iK.typeIs(h:iK w s.heap a es ep t):s.TypeIs (.ref a) "set":=let⟨o,ho,hx,_⟩:=h;⟨o,ho,hx.1⟩
theorem anM{Q:Δ->Ψ->Prop}(hS:iK w s.heap a es ep t)(hQ:Q (.ref s.heap.objs.size) {s with heap:=s.heap.push {cls:=.type "set_iterator",data:=.fields #[.int 0 0,.int 0 0,.ref a,.int es.size 0,.int ep 0]} }):wpAny (model prog w) A (pyIter (.ref a)) Q E s:=by
 obtain⟨oS,hoS,Q3,hdS,hI,hl⟩:=id hS;refine wpAny_pyIter_slot hS.typeIs ia (VF ia hS.typeIs amT ?_ (PySem.F.args_set_iter_1 _));refine bf (bf (bg (bg ?_)));refine bf (bf (XD hoS hdS hI.fits (bg ?_)));refine bf ?_;refine bf (V8 hoS hdS hI.fits ?_);refine bf ?_;refine bf (VP (bg (bg ?_)));have e:(!gj w&&(!t.plain&&decide (es.size>1)))=ξ:=by rw[hI.plain];simp
 show wpAny _ _ (if(!gj w&&(!t.plain&&decide _))=G then _ else _) _ _ _
 rw[e];refine bf (bg ?_);refine bf (Yw hoS hdS hI.fits ?_);refine bf ?_;refine XY (bg ⟨_,rfl,"set_iterator",_,⟨_,T9 _ rfl,rfl⟩,sY.lookup,?_⟩);exact hQ
end
open PySem.W
def kQ(x:Nat):List Nat->List Nat
 |[]=>[x]
 |y::l=>if x<y then x::y::l else if x=y then y::l else y::kQ x l
def cC:List Nat->List Nat
 |[]=>[]
 |x::l=>kQ x (cC l)
theorem GB:∀{l:List Nat},y∈kQ x l↔y=x\/y∈l
 |[]=>by simp[kQ]
 |z::l=>by
  unfold kQ;split
  ·simp
  ·split
   ·rename_i h;subst h;simp
   ·simp only[AP,GB]
    constructor
    ·rintro (h|h|h)<;>simp[h]
    ·rintro (h|h|h)<;>simp[h]
theorem K5:∀{l:List Nat},Up l->Up (kQ x l)
 |[],_=>by simp[kQ]
 |z::l,h=>by
  obtain⟨h1,h2⟩:=Vf.mp h;unfold kQ;split
  ·rename_i hx;exact Vf.mpr ⟨λb hb=>by
    rcases AP.mp hb with rfl|hb
    ·exact hx
    ·exact YQ hx (h1 b hb),h⟩
  ·split
   ·exact h
   ·refine Vf.mpr ⟨λb hb=>?_,K5 h2⟩
    rcases GB.mp hb with rfl|hb
    ·omega
    ·exact h1 b hb
theorem oq:∀l:List Nat,Up (cC l)
 |[]=>.nil
 |x::l=>K5 (oq l)
theorem l7:∀{l:List Nat},y∈cC l↔y∈l
 |[]=>by simp[cC]
 |x::l=>by simp[cC,GB,l7]
theorem up_eq:∀{l m:List Nat},Up l->Up m->(∀x,x∈l↔x∈m)->l=m
 |[],[],_,_,_=>rfl
 |[],y::m,_,_,h=>absurd ((h y).mpr (.head _)) (by simp)
 |x::l,[],_,_,h=>absurd ((h x).mp (.head _)) (by simp)
 |x::l,y::m,h1,h2,h=>by
  obtain⟨a1,a2⟩:=Vf.mp h1;obtain⟨b1,b2⟩:=Vf.mp h2;have e:x=y:=by
   rcases AP.mp ((h x).mp (.head _))with e|hx
   ·exact e
   ·rcases AP.mp ((h y).mpr (.head _))with e|hy
    ·exact e.symm
    ·have:=a1 y hy;have:=b1 x hx;omega
  subst e;rw[up_eq a2 b2 λz=>?_]
  constructor
  ·intro hz
   rcases AP.mp ((h z).mp (.tail _ hz))with e|q
   ·subst e;exact absurd (a1 z hz) (Ui _)
   ·exact q
  ·intro hz
   rcases AP.mp ((h z).mpr (.tail _ hz))with e|q
   ·subst e;exact absurd (b1 z hz) (Ui _)
   ·exact q
theorem PB{ns:List Nat}:y∈gB ns x↔y∈ns\/y=x:=by
 unfold gB;split
 ·rename_i h;exact⟨.inl,λq=>q.elim id λe=>e▸h⟩
 ·simp
theorem Pg{ns:List Nat}(h:ns.Nodup):(gB ns x).Nodup:=by
 unfold gB;split
 ·exact h
 ·rename_i hx;refine WU.mpr ⟨h,by simp,λa ha b hb=>?_⟩
  rw[UT]at hb;subst hb;exact λe=>hx (e▸ha)
theorem wZ:∀{xs ns:List Nat}{y:Nat},y∈xs.foldl gB ns↔y∈ns\/y∈xs
 |[],ns,y=>by simp
 |x::xs,ns,y=>by
  rw[Vj,wZ,PB,AP,or_assoc]
theorem wU:∀{xs ns:List Nat},ns.Nodup->(xs.foldl gB ns).Nodup
 |[],_,h=>h
 |x::xs,_,h=>wU (xs:=xs) (Pg h)
theorem amF{xs:List Nat}{zs:List Int}(h1:zs.Perm ((fh xs).map λn:Nat=>(n:Int)))(h2:zs.Pairwise (·<=·)):zs=(cC xs).map λn:Nat=>(n:Int):=by
 have hz:∀z∈zs,∃n:Nat,z=n:=λz hz=>by
  obtain⟨n,_,e⟩:=H8.mp (h1.mem_iff.mp hz);exact⟨n,e.symm⟩
 have e:zs=(zs.map Int.toNat).map λn:Nat=>(n:Int):=by
  rw[UB]
  conv=>lhs;rw[<-Xo zs]
  refine VD λz hq=>?_
  obtain⟨n,rfl⟩:=hz z hq;simp
 have hp:(zs.map Int.toNat).Perm (fh xs):=by
  have:=h1.map Int.toNat;rw[UB]at this;refine this.trans (g7 ?_)
  conv=>rhs;rw[<-Xo (fh xs)]
  exact VD λn _=>by simp
 have hnd:(zs.map Int.toNat).Nodup:=hp.nodup_iff.mpr (wU .nil);have hup:Up (zs.map Int.toNat):=by
  have hle:(zs.map Int.toNat).Pairwise (·<=·):=by
   rw[WS];exact h2.imp fun{a b} h=>∅
  refine(hle.and hnd).imp fun{a b} h=>?_
  have h2:a≠b:=h.2;omega
 rw[e,up_eq hup (oq xs) λx=>by
  rw[hp.mem_iff,l7];unfold fh;rw[wZ];simp]
theorem wQ:∀{l:List Nat},Up l->l.Nodup:=fun{l} h=>h.imp fun{a b} h=>T3 h
theorem vU(xs:List Nat):(cC xs).length=(fh xs).length:=by
 have hp:(cC xs).Perm (fh xs):=by
  refine(Yv (wQ (oq xs)) (wU .nil)).mpr λx=>?_
  rw[l7,wZ];simp
 exact hp.length_eq
theorem K6(h:Up l):∀i,i<l.length->i<=l.getD i 0
 |0,_=>V9 _
 |i+1,hi=>by
  have a:=K6 h i ∅
  have b:=vE h (show i<i+1 by omega) hi
  omega
theorem K4(h:Up l)(hm:∀x∈l,x<m):l.length<=m:=by
 rcases YO l.length with e|e
 ·omega
 ·have a:=K6 h (l.length-1) ∅
  have hi:l.length-1<l.length:=∅
  have b:l.getD (l.length-1) 0<m:=hm _ (by rw[T7,I8 hi];exact U6 hi)
  omega
theorem QA:∀{l:List (Int×Δ)},(∀e∈l,∃(n:Nat) (tk:Tok),e=((n:Int),.int n tk)/\n<128)->Uz (l.map (·.2)) (l.map (·.1))
 |[],_=>.nil
 |e::l,h=>by
  obtain⟨n,tk,rfl,_⟩:=h e (.head _);exact .cons _ _ (QA λe he=>h e (.tail _ he))
section
variable {prog:π}{w:υ}{A:ω}{E:Δ->Ψ->Prop}{s:Ψ}
theorem aeG{Q:Bool->Ψ->Prop}(hT:s.TypeIs (.ref r) "set")(h:Q ξ s):wpAny (model prog w) A (Builtin.List.listLengthHint (.ref r)) Q E s:=by
 unfold Builtin.List.listLengthHint;refine bf (wpAny_specialOf hT PySem.F.slot_set_len.lookup ?_)
 generalize hid:("set.__len__":String)=id0
 wp_delta
 rw[show splitId id0=O ("set","__len__")from by subst hid;decide +kernel]
 subst hid;refine bf (WX (T:="set") (b:=G) hT XF ?_);refine wpAny_ite_split (λq=>absurd q ⋯) λ_=>wpAny_ite_split (λ_=>?_) λq=>absurd (by decide +kernel) q
 exact bf (wpAny_typeOf hT (bg h))
theorem iK.lt(x:iK w h a es ep t):a<h.objs.size:=let⟨_,ho,_⟩:=x;IT ho
theorem am9{es:Array (Int×Δ)}:KdlSrc prog w "set" a a es.size (λi v=>(iS w a ep es)[i]?.map (·.2)=O v) (λh=>iK w h a es ep t) where
 type:=λ_ h=>h.typeIs
 there:=λ_ h=>⟨h.lt,h.lt⟩
 keep:=λ_ _ h k=>h.at λo e=>k a (.inl rfl) o e
 notList:=⋯
 notTuple:=⋯
 hint:=λ_ _ _ _ h q=>aeG h.typeIs q
 iter:=λ_ s hh h=>⟨_,_,(λ_ _ q=>anM h q),anS hh _ a (T3 h.lt) es ep t,⟨⟨_,T9 _ rfl,rfl,rfl⟩,h.at λo e=>jn _ e⟩⟩
theorem amH{xs:List Nat}{Q:Δ->Ψ->Prop}(hh:A.handled=Z)(hS:eF w s.heap a (fh xs))(hn:(fh xs).length<64)(h:∀(h1 h':τ) (tk c:Nat) (out:Array Δ),(∀b o,s.heap.get? b=O o->h1.get? b=O o)->(∀b o,h1.get? b=O o->h'.get? b=O o)->h'.get? h1.objs.size=O (seqObj "list" out c) ->
   Uz out.toList ((cC xs).map λn:Nat=>(n:Int))->Q (.ref h1.objs.size) {s with heap:=h',toks:=tk}):
  wpAny (model prog w) A (call (.builtin "sorted") [.ref a]) Q E s:=by
 obtain⟨o,es,ep,t,ho,hex,hd,hI,hl,hs⟩:=hS;have hlen:es.size<64:=by
  have h1:=hs.len;rw[U8]at h1;omega
 have hok:iK w s.heap a es ep t:=⟨o,ho,hex,hd,hI,hl⟩;refine Calls.call_function_entry kind_sorted plain_sorted entry_sorted (args_sorted1 _) ?_;unfold Builtin.«sorted»;refine bf (m:=checkCount "sorted" 1 1 _) (bg ?_);refine bf (kdu_collect (A:=A.in1) (am9 (prog:=prog)) hh hok (by rw[WJ];omega) λh1 tk acc hk hacc=>?_)
 have agd:acc.toList=(iS w a ep es).toList.map (·.2):=by
  have hlo:=(wI w a ep es).length_eq;rw[U8,U8]at hlo;apply Yu;intro i
  rcases Y0 i acc.size with q|q
  ·have h3:=hacc.2 i acc[i] (XE q);rw[U7,UQ,UQ,h3,XE q]
  ·have h4:=hacc.1;rw[VR (by simpa using q),VR (by simp;omega)]
 have hp:=wI w a ep es;have hI2:Uz acc.toList ((iS w a ep es).toList.map (·.1)):=by
  rw[agd];exact QA λe he=>hs.2 e (hp.mem_iff.mp he)
 have hal:acc.toList.length<64:=by rw[U8,hacc.1];exact hlen
 refine bf (wpAny_newList ?_ (by rw[WJ];omega))
 have xY:(h1.push (seqObj "list" acc.toList.toArray 0)).get? h1.objs.size=O (seqObj "list" acc.toList.toArray 0):=T9 _ rfl;refine bf (Ur (VF slot_list_sort ⟨_,xY,rfl⟩ entry_list_sort (list_sort_tree (s:={s with heap:=h1.push (seqObj "list" acc.toList.toArray 0),toks:=tk}) xY hI2 hal λout zs a1 a2 a3=>⟨_,rfl,?_⟩) (args_list_sort _)))
 refine bg ⟨_,rfl,?_⟩;have hz:=amF (a2.trans ((hp.map _).trans hs.1)) a3;rw[hz]at a1;have hne:∀b o,h1.get? b=O o->b≠h1.objs.size:=λb o e=>T3 (IT e)
 have g1:=get?_update_seq xY (λ_=>#[])
 have g2:=get?_update_seq (jn (seqObj "list" #[] 0) (jn (seqObj "tuple" acc.toList.toArray 0) g1)) λ_=>out
 refine h h1 _ tk _ out hk (λb o e=>?_) g2 a1
 have q:=Uo (hne b o e);exact(WE _ _ q).trans (jn _ (jn _ ((WE _ _ q).trans (jn _ e))))
end
abbrev nV(ns:List Nat):List V:=ns.map λn:Nat=>V.int n
abbrev nD(ns:List Nat):List D:=ns.map λn:Nat=>D.int n
def m5(w:υ)(a:Ξ)(ns:List Nat):τ->Prop:=λh=>eF w h a (fh ns)
theorem EL:∀{ns:List Nat}{us:List Δ},Vals (nV ns) us->Uz us (ns.map λn:Nat=>(n:Int))
 |[],_,.nil=>.nil
 |n::ns,_,.cons ⟨t,e⟩ r=>by subst e;exact .cons _ _ (EL r)
theorem TL:∀{ns:List Nat}{us:List Δ},Uz us (ns.map λn:Nat=>(n:Int))->Vals (nV ns) us
 |[],_,.nil=>.nil
 |n::ns,_,.cons _ t r=>.cons ⟨t,rfl⟩ (TL r)
theorem LO(xs:List Nat):(cC xs).length<=xs.length:=by
 have h:∀(x:Nat) (l:List Nat),(kQ x l).length<=l.length+1:=by
  intro x l
  induction l with
  |nil=>simp[kQ]
  |cons y l ih =>
   unfold kQ;split
   ·simp
   ·split
    ·simp
    ·simp only[U0];omega
 induction xs with
 |nil=>exact dD _
 |cons x xs ih=>have:=h x (cC xs);simp only[cC,U0];omega
section
variable {X:Cx}
def aoO(X:Cx):List V->Hp->VK->Prop:=λxs H Q=>∃a ns,xs=[.ref a]/\bQ X.K H a (nV ns)/\(cC ns).length<64/\(∀x∈ns,x<128)/\∀p,H p=Z->Q (.ref p) (upd H p (.ext (m5 X.w p ns)))
theorem Sv(hc:X.calm=G:=by rfl):eU X (.type "set") (aoO X):=by
 intro pins s J H xs us Q I rv h;obtain⟨a,ns,rfl,sq,hb,hx,q⟩:=h;obtain⟨u,rfl,ru⟩:=Ua rv;cases ru;obtain⟨its,ri,pl,hz⟩:=I.list sq;refine anP (xs:=ns) (I.ok.hd hc) pl.isList (by simpa using EL ri) hx (by rw[<-vU];exact hb) λh' tk hS kp=>?_
 have jB:=hS;obtain⟨o,es,ep,t,ho,_⟩:=jB;refine⟨.ref s.heap.objs.size,upd H s.heap.objs.size _,I.laid (t':=tk) (λb u e=>kp b u (IT e) e) (dD _) ?_,rfl,q _ (I.hok.fresh (dD _))⟩
 exact⟨hS,⟨o,ho⟩,λh1 h2 x k=>x.at k⟩
def aoR(X:Cx):List V->Hp->VK->Prop:=λxs H Q=>∃a ns,xs=[.ref a]/\H a=O (.ext (m5 X.w a ns))/\(cC ns).length<64/\∀p,H p=Z->Q (.ref p) (upd H p (.lst (nV (cC ns))))
theorem agA(hc:X.calm=G:=by rfl):eU X (.builtin "sorted") (aoR X):=by
 intro pins s J H xs us Q I rv h;obtain⟨a,ns,rfl,hH,hn,q⟩:=h;obtain⟨u,rfl,ru⟩:=Ua rv;cases ru;obtain⟨hS,_,_⟩:=I.hok a _ hH;refine amH (I.ok.hd hc) hS (by rw[<-vU];exact hn) λh1 h' tk c out k1 k2 hp hI=>?_
 have I1:Inv X pins J H {s with heap:=h1,toks:=tk}:=I.kept k1
 have hf:H h1.objs.size=Z:=I1.hok.fresh (dD _);refine⟨.ref h1.objs.size,upd H h1.objs.size (.lst (nV (cC ns))),I1.laid (t':=tk) k2 (dD _) ⟨?_,out.toList,c,TL hI,by simpa using hp⟩,rfl,q _ hf⟩
 simp only[T6];rw[WJ];omega
def kM(l:List D):Option (List Nat):=match nI l with
 |some ns=>if ns.all (λn=>decide (0<=n/\n<128))=G/\(cC (ns.map Int.toNat)).length<64 then O (ns.map Int.toNat)else Z
 |none=>Z
theorem Gu{ns:List Nat}(h:kM l=O ns):l=nD ns/\(cC ns).length<64/\∀x∈ns,x<128:=by
 unfold kM at h;split at h
 ·rename_i zs hz;split at h
  ·rename_i hc;cases h;refine⟨?_,hc.2,λx hx=>?_⟩
   ·rw[GY hz];unfold nD;rw[UB];refine VD λz hq=>?_
    have:=of_decide_eq_true (Iv.mp hc.1 z hq)
    congr 1;omega
   ·obtain⟨z,hq,rfl⟩:=H8.mp hx;have:=of_decide_eq_true (Iv.mp hc.1 z hq);omega
  ·cases h
 ·cases h
theorem wW{ns:List Nat}(h:(cC ns).length<64)(hx:∀x∈ns,x<128):kM (nD ns)=O ns:=by
 unfold kM;have e:nD ns=(ns.map λn:Nat=>(n:Int)).map D.int:=by simp[nD]
 rw[e,Ba];dsimp only;have e:(ns.map λn:Nat=>(n:Int)).map Int.toNat=ns:=by
  rw[UB];have:(Int.toNat ∘ λn:Nat=>(n:Int))=id:=by funext n;simp
  rw[this,Xo]
 rw[e,if_pos ⟨Iv.mpr λz hz=>by
  obtain⟨n,hn,rfl⟩:=H8.mp hz;have:=hx n hn;exact decide_eq_true ∅,h⟩]
theorem FG{K:Γ}{H:Hp}{ns:List Nat}{xs:List V}(h:aR K ρ H (nD ns) xs):xs=nV ns:=by
 have e:nD ns=(ns.map λn:Nat=>(n:Int)).map D.int:=by simp[nD]
 rw[e]at h;rw[aR.GX h];simp[nV]
theorem aoW{K:Γ}{H:Hp}(ns:List Nat):aR K ρ H (nD ns) (nV ns):=by
 have e:nD ns=(ns.map λn:Nat=>(n:Int)).map D.int:=by simp[nD]
 have e':nV ns=(ns.map λn:Nat=>(n:Int)).map V.int:=by simp[nV]
 rw[e,e'];exact aR.ints
theorem qV(ns:List Nat):bW (nD ns)=G:=by
 have e:nD ns=(ns.map λn:Nat=>(n:Int)).map D.int:=by simp[nD]
 rw[e];exact t8
def nR(a:aj):af:=λe c=>(a e c).bind λxs c=>match xs with
 |[x]=>match eZ c x with
  |some l=>match kM l with
   |some ns=>.ok (.lst (nD (cC ns))) c
   |none=>.bad
  |none=>.bad
 |_=>.bad
theorem apv{f:List D->aa->R D}(ha:e7 X [e] da)(hm:X.mg "sorted"=Z)(hm2:X.mg "set"=Z)(hg:Gl X "sorted")(je:Gl X "set")(hc:X.calm=G)(he:ε [e] X.env=(ξ,eval e X.env)::ε [] X.env)(hf:∀xs c ρ H (Q:VK) vs,Wd X.K ρ H c->aR X.K ρ H xs vs->post X.K (Rel X.K) (f xs c) ρ H Q->∃a ns,vs=[.ref a]/\bQ X.K H a (nV ns)/\(cC ns).length<64/\(∀x∈ns,x<128) /\
   ∀p,H p=Z->∀q,upd H p (.ext (m5 X.w p ns)) q=Z->Q (.ref q) (upd (upd H p (.ext (m5 X.w p ns))) q (.lst (nV (cC ns))))):
  bu X (.Call (.Name "sorted" p1) [.Call (.Name "set" p2) [e] [] q2] [] q1) (aO f da):=by
 have xX:PE X (.Call (.Name "set" p2) [e] [] q2) _:=lV (Sv hc) je hm2 (by decide +kernel) ha ⋯ ⋯ he (by exact fB rfl)
 refine(wG (agA hc) hg hm (by decide +kernel) (jU xX kI (cO rfl)) ⋯ ⋯ (by exact cO rfl) (by exact fB rfl)).imp λJ H Q h=>?_
 obtain⟨ρ,e,c,W,V,p⟩:=h;refine⟨ρ,e,c,W,V,post.bind p λxs c1 aS H1 vs ex W1 X1 r1 p1=>?_⟩
 obtain⟨a,ns,rfl,sq,h64,hx,q⟩:=hf xs c1 aS H1 Q vs W1 r1 p1;exact⟨a,ns,rfl,sq,h64,hx,λp hp=>⟨p,ns,rfl,fG,h64,λq' hq=>q p hp q' hq⟩⟩
def LW:List D->aa->R D:=λxs c=>match xs with
 |[x]=>match eZ c x with
  |some l=>match kM l with
   |some ns=>.ok (.lst (nD (cC ns))) c
   |none=>.bad
  |none=>.bad
 |_=>.bad
theorem NY(ha:e7 X [e] da)(hm:X.mg "sorted"=Z)(hm2:X.mg "set"=Z)(hg:Gl X "sorted":=by rfl)(je:Gl X "set":=by rfl)(hc:X.calm=G:=by rfl)(he:ε [e] X.env=(ξ,eval e X.env)::ε [] X.env:=by exact cO rfl):bu X (.Call (.Name "sorted" p1) [.Call (.Name "set" p2) [e] [] q2] [] q1) (nR da) :=
 apv (f:=LW) ha hm hm2 hg je hc he λxs c ρ H Q vs W r p=>by
  unfold LW at p;split at p
  ·rename_i x;obtain⟨v,rr,rfl,hx,hr⟩:=r;cases hr;split at p
   ·rename_i l hl;split at p
    ·rename_i ns hn;obtain⟨rfl,h64,hx'⟩:=Gu hn;obtain⟨a,ys,rfl,ha',rl⟩:=nE W hx hl;cases FG rl;refine⟨a,ns,rfl,bQ.of ha',h64,hx',λq hq q' hq'=>?_⟩
     exact qW (W.fresh hq) (aoW _) (post.ext p (Ext.fresh W hq)) q' hq'
    ·exact p.elim
   ·exact p.elim
  ·exact p.elim
end
section
variable (a:aj) (e:Ev) (c:aa)
@[simp] theorem alh:nR a e c=(a e c).bind λxs c=>match xs with
 |[x]=>match eZ c x with
  |some l=>match kM l with
   |some ns=>.ok (.lst (nD (cC ns))) c
   |none=>.bad
  |none=>.bad
 |_=>.bad:=rfl
end
section
variable {prog:π}{w:υ}{A:ω}{E:Δ->Ψ->Prop}{s:Ψ}
theorem anL{ns:List Nat}{Q:Option Nat->Ψ->Prop}(hm:m<128)(hS:eF w s.heap a ns)(hn:ns.length<64)(h:∀r:Option Nat,r.isSome=decide (m∈ns)->Q r s):wpAny (model prog w) A (setFind a (.int m tk) (m:Int)) Q E s:=by
 obtain⟨o,es,ep,t,ho,hex,hd,hI,hl,hs⟩:=hS;have hsz:es.size=ns.length:=by rw[<-U8];exact hs.len
 have hkey:(intKind prog w).is (m:Int) (.int m tk)=G:=by simp[intKind,Value.isInt]
 have:=wpAny_setFind_of (A:=A) (E:=E) (Q:=Q) hkey rfl (⟨o,es,ep,t,ho,hex,hd,hs.els,λk=>by rw[Vh],by unfold scanBound;omega,hI.fits,rfl⟩) λr hr=>h r (by
  rw[hr,V6,Vh,decide_eq_true_eq,hs.mem m]
  constructor
  ·rintro ⟨e,he,q⟩
   obtain⟨n,tk',rfl,_⟩:=hs.2 e he;obtain⟨t',q⟩:=Wx (show Value.isInt (m:Int) (.int (n:Int) tk')=G from q)
   exact⟨_,he,by injection q⟩
  ·rintro ⟨e,he,q⟩
   obtain⟨n,tk',rfl,_⟩:=hs.2 e he;have e:n=m:=by dsimp only at q;omega
   subst e;exact⟨_,he,by simp[intKind,Value.isInt]⟩)
 have e:(intKind prog w).hash (m:Int)=(m:Int):=Bq hm
 rwa[e]at this
theorem ace{others:List Ξ}{Q:Array (Int×Δ)->Ψ->Prop}(hS:iK w s.heap a es ep t)(h:Q (iS w a ep es) s):wpAny (model prog w) A (setWalkUnseen a others (O r)) Q E s:=by
 obtain⟨o,ho,hex,hd,hI,hl⟩:=hS;have key:wpAny (model prog w) A (setWalk a) Q E s:=by
  refine bf (V8 ho hd hI.fits ?_);refine bf ?_;refine bf (VP (bg ?_));show wpAny _ _ (if gj w=G then _ else _) _ _ _
  unfold iS at h;cases hb:gj w with
  |true =>
   rw[hb]at h;exact bf (VP (bg h))
  |false =>
   rw[hb]at h hl;show wpAny _ _ (if(!t.plain&&decide (es.size>1))=G then _ else _) _ _ _
   rw[hI.plain];refine bf (W9 (a:=()) ?_ (bg h));show(if _=G then _ else _)=_
   rw[hl];rfl
 refine bf (V8 ho hd hI.fits ?_);dsimp only;refine bf ?_;refine bf (VP (bg ?_));show wpAny _ _ (if(gj w||(t.led&&t.plain)||decide (es.size<=1))=G then _ else _) _ _ _
 rw[if_pos (by rw[hl,hI.plain];cases gj w<;>simp)]
 first|exact key|exact bf key
theorem wR:∀{l m:List Nat},l.Nodup->(∀x∈l,x∈m)->l.length<=m.length
 |[],m,_,_=>V9 _
 |x::l,m,h,hs=>by
  obtain⟨h1,h2⟩:=VB.mp h;have hx:=hs x (.head _);have:=wR h2 λy hy=>(YN (λe:y=x=>h1 (by rw[<-e];exact hy))).mpr (hs y (.tail _ hy))
  rw[YM hx]at this;have:=ZT hx;rw[U0];omega
theorem ahQ{asked walked:Ξ}{ns:List Nat}{Q:Unit->Ψ->Prop}(id:String)(hra:asked≠r)(hrw:walked≠r)(ha:eF w s.heap asked ns)(hw:iK w s.heap walked es ep t)(hs:iJ es.toList ms)(hr:eF w s.heap r [])(hn:ns.length<64)(h:∀(h':τ) (rs:List Nat),eF w h' r rs->rs.Nodup->(∀x,x∈rs↔x∈ns/\x∈ms)->(∀b o,b≠r->s.heap.get? b=O o->h'.get? b=O o)->Q () {s with heap:=h'}):
  wpAny (model prog w) A (forIn (iS w walked ep es) PUnit.unit fun(p:Int×Δ) (_:PUnit)=>do
   holding [p.2] (do if(<-setFind asked p.2 p.1).isSome=G then(do let _ <-setAddHashed r p.2 p.1;pure PUnit.unit)else pure PUnit.unit)
   Builtin.Frozenset.unchanged id walked ep
   pure (ForInStep.yield PUnit.unit)) Q E s:=by
 have hp:=wI w walked ep es;refine PySem.MeetsSeq2.wpAny_forIn_array _ (λrest _ s'=>∃(h':τ) (rs:List Nat) (done:List (Int×Δ)),s'={s with heap:=h'}/\(iS w walked ep es).toList=done++rest/\eF w h' r rs/\rs.Nodup/\(∀x:Nat,x∈rs↔x∈ns/\∃e∈done,e.1=(x:Int))/\(∀b o,b≠r->s.heap.get? b=O o->h'.get? b=O o)) _ ?_ ?_ _ _
  ⟨s.heap,[],[],rfl,rfl,hr,.nil,λx=>by simp,λ_ _ _ e=>e⟩
 ·rintro ⟨hx,x⟩ rest u s' ⟨h',rs,done,rfl,hl,hR,hnd,hmem,hk⟩
  have hin:(hx,x)∈es.toList:=hp.mem_iff.mp (by rw[hl];simp)
  obtain⟨n,tk,e,G7⟩:=hs.2 _ hin;cases e;have ha':eF w h' asked ns:=ha.at λo e=>hk asked o hra e
  have hw':=hw.at λo e=>hk walked o hrw e
  have hrl:rs.length<64:=VH (wR hnd λx hx=>((hmem x).mp hx).1) hn
  have tail:∀Q' (h2:τ),(∀b o,b≠r->s.heap.get? b=O o->h2.get? b=O o)->Q' (.yield PUnit.unit) {s with heap:=h2} ->
    wpAny (model prog w) A (Builtin.Frozenset.unchanged id walked ep >>= λ_=>pure (ForInStep.yield PUnit.unit)) Q' E {s with heap:=h2}:=by
   intro Q' h2 q4 q;obtain⟨o,ho,_,hd,hI,_⟩:=hw.at λo e=>q4 walked o hrw e
   unfold Builtin.Frozenset.unchanged;refine bf (bf (Yw ho hd hI.fits ?_));rw[if_neg (by simp)]
   exact bg (bg q)
  dsimp only;refine bf (Ur (bf (anL (s:={s with heap:=h'}) G7 ha' hn λres hres=>?_)))
  by_cases hq:n∈ns
  ·have G5:res.isSome=G:=by rw[hres];exact decide_eq_true hq
   rw[if_pos G5];have key:=L6 (prog:=prog) (A:=A) (E:=E) (s:={s with heap:=h'}) (tk:=tk) (Q:=λ_ s'=>∃h2,s'={s with heap:=h2}/\eF w h2 r (gB rs n)/\∀b o,b≠r->s.heap.get? b=O o->h2.get? b=O o) G7 hR hrl
    λbb h2 gU jB=>⟨h2,rfl,jB,λb o hb e=>by rw[gU.2 b hb];exact hk b o hb e⟩
   rw[(Bq G7)]at key;refine bf (UW key (λbb s2 q=>?_) λ_ _ q=>q)
   obtain⟨h2,rfl,jB,hk2⟩:=q;refine bg (tail _ h2 hk2 ⟨h2,gB rs n,done++[((n:Int),Value.int n tk)],rfl,by rw[hl];simp,jB,Pg hnd,λx=>?_,hk2⟩)
   rw[PB,hmem x]
   constructor
   ·rintro (⟨a1,e,he,q⟩|rfl)
    ·exact⟨a1,e,by simp[he],q⟩
    ·exact⟨hq,((x:Int),Value.int x tk),by simp,rfl⟩
   ·rintro ⟨a1,e,he,q⟩
    rcases US.mp he with he|he
    ·exact .inl ⟨a1,e,he,q⟩
    ·rw[UT]at he;subst he
     right
     dsimp only at q;omega
  ·have G5:¬(res.isSome=G):=by rw[hres];simpa using hq
   rw[if_neg G5];refine bg (tail _ h' hk ⟨h',rs,done++[((n:Int),Value.int n tk)],rfl,by rw[hl];simp,hR,hnd,λx=>?_,hk⟩)
   rw[hmem x]
   constructor
   ·rintro ⟨a1,e,he,q⟩
    exact⟨a1,e,by simp[he],q⟩
   ·rintro ⟨a1,e,he,q⟩
    rcases US.mp he with he|he
    ·exact⟨a1,e,he,q⟩
    ·rw[UT]at he;subst he;have e2:x=n:=by dsimp only at q;omega
     exact absurd (e2▸a1) hq
 ·rintro u s' ⟨h',rs,done,rfl,hl,hR,hnd,hmem,hk⟩
  rw[VI]at hl;refine h h' rs hR hnd (λx=>?_) hk
  rw[hmem x,hs.mem x,<-hl]
  constructor
  ·rintro ⟨a1,e,he,q⟩;exact⟨a1,e,hp.mem_iff.mp he,q⟩
  ·rintro ⟨a1,e,he,q⟩;exact⟨a1,e,hp.mem_iff.mpr he,q⟩
theorem ahR(id:String){ns:List Nat}{Q:Δ->Ψ->Prop}(hne:(Value.ref b==Value.ref a)=ξ)(ha:eF w s.heap a ns)(hb:eF w s.heap b ms)(hn:ns.length<64)(hm:ms.length<64)(hnd:ns.Nodup)(hmd:ms.Nodup)(h:∀(h':τ) (rs:List Nat),eF w h' s.heap.objs.size rs->rs.Nodup->(∀x,x∈rs↔x∈ns/\x∈ms)->(∀b o,s.heap.get? b=O o->h'.get? b=O o)->Q (.ref s.heap.objs.size) {s with heap:=h'}):
  wpAny (model prog w) A (Builtin.Frozenset.intersection id a (.ref b)) Q E s:=by
 unfold Builtin.Frozenset.intersection;rw[if_neg (by rw[hne];exact UC)]
 refine bf ?_;unfold Builtin.Frozenset.baseOf;refine bf (WX (by obtain⟨o,_,_,_,ho,hx,_⟩:=ha;exact⟨o,ho,hx.1⟩) XF (bg ?_))
 simp only[if_true];refine bf ?_;unfold newSet setsByText;refine bf (bf (VP (bg ?_)));dsimp only;simp only[newObj];refine bf (wpAny_alloc (bg ?_));refine bf (bg ?_);have aeZ:Y6 {s with heap:=s.heap.push (c7 w)} (.ref b) "set":=by obtain⟨o,_,_,_,ho,hx,_⟩:=hb;exact⟨o,jn _ ho,hx.1⟩
 refine bf (Ur (bf ?_));unfold Builtin.Frozenset.isAnySet;refine bf (WX (T:="set") (b:=G) aeZ XF ?_);refine bg ?_;rw[if_pos rfl];refine bf (bg ?_);have ha1:eF w (s.heap.push (c7 w)) a ns:=ha.at λo e=>jn _ e
 have hb1:eF w (s.heap.push (c7 w)) b ms:=hb.at λo e=>jn _ e
 have Q9:a≠s.heap.objs.size:=by obtain⟨o,_,_,_,ho,_⟩:=ha;exact T3 (IT ho)
 have Q7:b≠s.heap.objs.size:=by obtain⟨o,_,_,_,ho,_⟩:=hb;exact T3 (IT ho)
 have go:∀(asked walked:Ξ) (ns' ms':List Nat),asked≠s.heap.objs.size->walked≠s.heap.objs.size->eF w (s.heap.push (c7 w)) asked ns'->eF w (s.heap.push (c7 w)) walked ms'->ns'.length<64->(∀x,(x∈ns'/\x∈ms')↔(x∈ns/\x∈ms)) ->
   wpAny (model prog w) A (do
    let was <-setEpoch walked
    let arr <-setWalkUnseen walked [asked,s.heap.objs.size] (O s.heap.objs.size)
    forIn arr PUnit.unit fun(p:Int×Δ) (_:PUnit)=>do
     holding [p.2] (do if(<-setFind asked p.2 p.1).isSome=G then(do let _ <-setAddHashed s.heap.objs.size p.2 p.1;pure PUnit.unit)else pure PUnit.unit)
     Builtin.Frozenset.unchanged id walked was
     pure (ForInStep.yield PUnit.unit)
    pure ()) (λ_ s'=>wpAny (model prog w) A (pure (Value.ref s.heap.objs.size)) Q E s') E {s with heap:=s.heap.push (c7 w)}:=by
  intro asked walked ns' ms' n1 n2 h1 h2 hl hmm;obtain⟨o,es,ep,t,ho,hex,hd,hI,Q0,hs⟩:=h2;refine bf (Yw ho hd hI.fits ?_);refine bf (ace (es:=es) (ep:=ep) (t:=t) ⟨o,ho,hex,hd,hI,Q0⟩ ?_);refine bf (ahQ id n1 n2 h1 ⟨o,ho,hex,hd,hI,Q0⟩ hs (HR w (T9 _ rfl)) hl λh' rs q1 q2 q3 q4=>?_)
  refine bg (bg (h h' rs q1 q2 (λx=>(q3 x).trans (hmm x)) λb' o' e=>q4 b' o' (T3 (IT e)) (jn _ e)))
 obtain⟨oa,esa,epa,ta,hoa,_,hda,hIa,_,_⟩:=_root_.id ha1;obtain⟨ob,esb,epb,tb,hob,_,hdb,hIb,_,_⟩:=_root_.id hb1;unfold Builtin.Frozenset.sizeOf;refine bf (bf (XD hob hdb hIb.fits (bg ?_)));refine bf (bf (XD hoa hda hIa.fits (bg ?_)))
 by_cases hsz:esb.size>esa.size
 ·simp only[if_pos hsz];exact go b a ms ns Q7 Q9 hb1 ha1 hm λx=>⟨fun⟨u,v⟩=>⟨v,u⟩,fun⟨u,v⟩=>⟨v,u⟩⟩
 ·simp only[if_neg hsz];exact go a b ns ms Q9 Q7 ha1 hb1 hn λx=>Iff.rfl
theorem amR:entryFor table "set.__and__"=O Builtin.«frozenset.__and__» :=
 Yz (id':="frozenset.__and__") (by kernel_rfl) rfl (by decide +kernel) (by kernel_rfl)
theorem Tg{Q:Bool->Ψ->Prop}(hT:s.TypeIs v "set")(h:Q G s):wpAny (model prog w) A (Builtin.Frozenset.isAnySet v) Q E s:=by
 exact bf (WX (b:=G) hT XF (bg h))
theorem anK{ns:List Nat}{Q:Δ->Ψ->Prop}(hab:a≠b)(ha:eF w s.heap a ns)(hb:eF w s.heap b ms)(hn:ns.length<64)(hm:ms.length<64)(hnd:ns.Nodup)(hmd:ms.Nodup)(h:∀(h':τ) (rs:List Nat),eF w h' s.heap.objs.size rs->rs.Nodup->(∀x,x∈rs↔x∈ns/\x∈ms)->(∀b o,s.heap.get? b=O o->h'.get? b=O o)->Q (.ref s.heap.objs.size) {s with heap:=h'}):
  wpAny (model prog w) A (binaryOp .BitAnd (.ref a) (.ref b)) Q E s:=by
 have hTa:s.TypeIs (.ref a) "set":=by obtain⟨o,_,_,_,ho,hx,_⟩:=ha;exact⟨o,ho,hx.1⟩
 have hTb:s.TypeIs (.ref b) "set":=by obtain⟨o,_,_,_,ho,hx,_⟩:=hb;exact⟨o,ho,hx.1⟩
 refine wpAny_binaryOp_same hTa hTb PySem.F.fills_set_and g6 (VF g6 hTa amR ?_ (PySem.F.args_set_and_2 _ _));unfold Builtin.«frozenset.__and__»;show wpAny _ _ (Builtin.Frozenset.slot1 "__and__" ⟨[.ref a,.ref b],[]⟩ >>= _) _ _ _;refine bf (bf (bg (bg ?_)));dsimp only;simp only[Ug,if_false];refine bf (bf (Tg hTa ?_));refine Tg hTb ?_;simp only[WQ,Ug,if_false];refine bf (bg ?_);refine bf (ahR _ (by simpa using Uo hab) ha hb hn hm hnd hmd λh' rs q1 q2 q3 q4=>?_)
 exact bg ⟨_,rfl,(λe=>by cases e),h h' rs q1 q2 q3 q4⟩
end
theorem sub_tuple_set:isSubtype (.type "tuple") (.type "set")=pure ξ:=by rw[Xp];kernel_rfl
theorem sub_tuple_frozenset:isSubtype (.type "tuple") (.type "frozenset")=pure ξ:=by rw[Xp];kernel_rfl
section
variable {prog:π}{w:υ}{A:ω}{s:Ψ}{E:Δ->Ψ->Prop}
set_option maxHeartbeats 3200000 in
theorem anR{l:Ξ}{items:Array Δ}{xs:List Nat}{Q:Δ->Ψ->Prop}(hh:A.handled=Z)(hl:s.heap.IsTuple l items)(hi:Uz items.toList (xs.map λn:Nat=>(n:Int)))(hx:∀x∈xs,x<128)(h64:(fh xs).length<64)
  (h:∀(h':τ) (tk:Nat),eF w h' s.heap.objs.size (fh xs)->(∀b o,b<s.heap.objs.size->s.heap.get? b=O o->h'.get? b=O o)->Q (.ref s.heap.objs.size) {s with heap:=h',toks:=tk}) :
  wpAny (model prog w) A (call (.type "set") [.ref l]) Q E s:=by
 obtain⟨c,tl,QZ⟩:=UE.mro;have hmade:=UE.made;have hsub:=UE.sub;refine WI (Xq (show wpAny _ _ (callAny (.type "set") _) _ _ _ from ?_))
 refine bg ⟨YF _ (by decide +kernel),Vd YE ?_⟩
 rw[YD (YC "set" [.ref l] []) rfl];have h1:=UE.notType;have h2:=UE.canCreate;have hct:=YB (.ref l)
 repeat any_goals (first|assumption|wp_step)
 refine V5 (Fb (.ref l) (E:=E) (Q₁:=λobj s₁=>obj=.ref s.heap.objs.size/\s₁={s with heap:=s.heap.push (c7 w)}) ⟨rfl,rfl⟩) λr s₁ hr=>?_
 cases r with
 |error e=>exact hr
 |ok fl =>
  cases fl with
  |ret obj =>
   obtain⟨rfl,rfl⟩:=hr;have hS:(s.heap.push (c7 w)).get? s.heap.objs.size=O (c7 w):=T9 _ rfl;have hT:Y6 {s with heap:=s.heap.push (c7 w)} (.ref s.heap.objs.size) "set":=⟨_,hS,rfl⟩
   have hli:=UE.init.lookup;have hbi:=UE.init.bind (.ref s.heap.objs.size)
   repeat any_goals (first|assumption|wp_step)
   refine V5 (YA (R:=wants (λr s₂=>r=.none/\∃h' tk,s₂={s with heap:=h',toks:=tk}/\eF w h' s.heap.objs.size (fh xs) /\
     (∀b o,b<s.heap.objs.size->s.heap.get? b=O o->h'.get? b=O o)) E) UE.init.plain Z2 (Z1 hT ?_)) λr₂ s₂ kR=>?_
   ·obtain⟨ol,iX,hcl,nl,hdl⟩:=hl;obtain⟨ON,wM,OH,wH⟩:=ol;simp only at hcl hdl;subst hcl;subst hdl;have pV:(s.heap.push (c7 w)).get? l=O {cls:=.type "tuple",dict:=wM,data:=.seq items nl,slots:=wH}:=jn _ iX;have QS:=sub_tuple_set;have QT:=sub_tuple_frozenset;have hne:(Value.type "tuple"==Value.type "dict")=ξ:=⋯
    have hl1:(s.heap.push (c7 w)).IsTuple l items:=⟨_,pV,rfl,nl,rfl⟩;unfold c7 at hS hT pV ⊢;unfold Builtin.«set.__init__» noKeywords Builtin.Frozenset.updateFrom
    generalize yd:pyIter=PI
    wp_walk
    subst yd;refine Vz hl1 (bf (Z0 ?_));have hlS:l<s.heap.objs.size:=IT iX;have hlen:items.size=xs.length:=by have:=hi.length;simpa using this
    have xZ:l≠(s.heap.push (c7 w)).objs.size:=by rw[UJ];exact T3 (VG hlS)
    have hSf:s.heap.objs.size∉[(s.heap.push (c7 w)).objs.size,l]:=by
     rw[UJ];simp only[AP,TZ,or_false,not_or];exact⟨T3 (Uu _),Uh hlS⟩
    have W:=(Walks.tuple (prog:=prog) (w:=w) (A:=A.in1.in1.in1) (by simp[hh]) (s.heap.push (c7 w)).objs.size l xZ items).toS
    rw[hlen]at W;refine L4 (xs:=xs) W s.heap.objs.size hSf (λi v hi' hv=>?_) hx h64 xs.length 0 _ ∅ (V9 _) ⟨⟨_,T9 _ rfl,rfl,rfl⟩,hl1.at λo e=>jn _ e⟩ (HR w (jn _ hS)) λs' hm hS'=>?_
    ·obtain⟨t,e⟩:=IntsAre.int_at hi i v (by rw[UQ];exact hv)
     exact⟨t,by rw[e];simp[T7,I8 hi']⟩
    ·obtain⟨h',g',d',tk',os'⟩:=s';cases(show g'=s.gens from hm.gens)
     cases(show d'=s.drawn from hm.drawn)
     cases(show os'=s.os from hm.os)
     refine bg (bg ⟨rfl,h',tk',rfl,hS',λb o hb e=>?_⟩)
     exact hm.heap b o (by rw[UJ];simp only[AP,TZ,or_false,not_or];exact⟨T3 hb,T3 (VG hb)⟩) (jn _ (jn _ e))
   ·cases r₂ with
    |error e=>exact kR
    |ok yh =>
     cases yh with
     |ret r =>
      obtain⟨rfl,h',tk,rfl,hS',hk'⟩:=kR
      repeat any_goals (first|assumption|wp_step)
      exact h _ _ hS' hk'
     |_=>exact kR.elim
  |_=>exact hr.elim
end
def Ff(w:υ)(a:Ξ)(rs:List Nat):τ->Prop:=λh=>eF w h a rs
def qi(ns ms:List Nat):Nat:=((cC ns).filter λx=>decide (x∈ms)).length
theorem Ii{ns rs:List Nat}(hn:rs.Nodup)(h:∀x,x∈rs↔x∈ns/\x∈ms):rs.length=qi ns ms:=by
 have hp:rs.Perm ((cC ns).filter λx=>decide (x∈ms)):=by
  refine(Yv hn ((wQ (oq ns)).filter _)).mpr λx=>?_
  rw[h x,Uy,l7,decide_eq_true_eq]
 exact hp.length_eq
section
variable {X:Cx}
def aoM(X:Cx):List V->Hp->VK->Prop:=λxs H Q=>∃a ns,xs=[.ref a]/\(bQ X.K H a (nV ns)\/cF X.K H a (nV ns))/\(cC ns).length<64/\(∀x∈ns,x<128)/\∀p,H p=Z->Q (.ref p) (upd H p (.ext (m5 X.w p ns)))
theorem HX(hc:X.calm=G:=by rfl):eU X (.type "set") (aoM X):=by
 intro pins s J H xs us Q I rv h;obtain⟨a,ns,rfl,sq,hb,hx,q⟩:=h
 rcases sq with sq|sq
 ·exact Sv hc pins s J H _ us Q I rv ⟨a,ns,rfl,sq,hb,hx,q⟩
 ·obtain⟨u,rfl,ru⟩:=Ua rv;cases ru;obtain⟨its,ri,pl,hz⟩:=I.tuple sq;refine anR (xs:=ns) (I.ok.hd hc) (show s.heap.IsTuple a its.toArray from pl) (by simpa using EL ri) hx (by rw[<-vU];exact hb) λh' tk hS kp=>?_
  have jB:=hS;obtain⟨o,es,ep,t,ho,_⟩:=jB;refine⟨.ref s.heap.objs.size,upd H s.heap.objs.size _,I.laid (t':=tk) (λb u e=>kp b u (IT e) e) (dD _) ?_,rfl,q _ (I.hok.fresh (dD _))⟩
  exact⟨hS,⟨o,ho⟩,λh1 h2 x k=>x.at k⟩
def aos(X:Cx):R2:=λx y H Q=>∃a b ns ms,x=.ref a/\y=.ref b/\a≠b/\H a=O (.ext (m5 X.w a ns))/\H b=O (.ext (m5 X.w b ms))/\(cC ns).length<64/\(cC ms).length<64 /\
 ∀p rs,H p=Z->rs.length=qi ns ms->rs.length<64->Q (.ref p) (upd H p (.ext (Ff X.w p rs)))
theorem aaN:bX X (binaryOp .BitAnd) (aos X):=by
 intro pins s J H x y v u Q I rx ry h;obtain⟨a,b,ns,ms,rfl,rfl,hab,ha,hb,h1,h2,q⟩:=h;cases rx;cases ry;obtain⟨hA,_,_⟩:=I.hok a _ ha;obtain⟨hB,_,_⟩:=I.hok b _ hb;rw[vU]at h1 h2;refine anK hab hA hB h1 h2 (wU .nil) (wU .nil) λh' rs q1 q2 q3 q4=>?_
 have hmem:∀x,x∈rs↔x∈ns/\x∈ms:=λx=>by
  rw[q3 x];unfold fh;rw[wZ,wZ];simp
 have aor:=q1;obtain⟨o,es,ep,t,ho,_⟩:=aor;refine⟨.ref s.heap.objs.size,upd H s.heap.objs.size (.ext (Ff X.w s.heap.objs.size rs)),I.laid (t':=s.toks) q4 (dD _) ⟨q1,⟨o,ho⟩,λh1 h2 x k=>x.at k⟩,rfl,q _ rs (I.hok.fresh (dD _)) (Ii q2 hmem) (VH (wR q2 λx hx=>((q3 x).mp hx).1) h1)⟩
def aoG(X:Cx):List V->Hp->VK->Prop:=λxs H Q=>∃a rs,xs=[.ref a]/\H a=O (.ext (Ff X.w a rs))/\rs.length<64/\Q (.int (rs.length:Nat)) H
theorem agD:eU X (.builtin "len") (aoG X):=by
 intro pins s J H xs us Q I rv h;obtain⟨a,rs,rfl,hH,hn,q⟩:=h;obtain⟨u,rfl,ru⟩:=Ua rv;cases ru;obtain⟨hS,_,_⟩:=I.hok a _ hH;obtain⟨o,es,ep,t,ho,hex,hd,hI,hl,hs⟩:=hS;have he:es.size=rs.length:=by rw[<-U8];exact hs.len
 refine Yt ho hex hd hI.fits (by rw[he];omega) ⟨.int _,H,I.tok _,⟨_,by rw[he]⟩,q⟩
def jY(c:aa):D->Option (List Nat)
 |.tup l=>kM l
 |x=>match eZ c x with
  |some l=>kM l
  |none=>Z
theorem Gv{K:Γ}{H:Hp}{v:V}{ns:List Nat}(W:Wd K ρ H c)(r:Rel K ρ H x v)(h:jY c x=O ns):∃a,v=.ref a/\(bQ K H a (nV ns)\/cF K H a (nV ns))/\(cC ns).length<64/\∀x∈ns,x<128:=by
 unfold jY at h;split at h
 ·obtain⟨rfl,h64,hx⟩:=Gu h;obtain⟨a,xs,rfl,ha,rl⟩:=r;cases FG rl;exact⟨a,rfl,.inr (cF.of ha),h64,hx⟩
 ·split at h
  ·rename_i l hl;obtain⟨rfl,h64,hx⟩:=Gu h;obtain⟨a,ys,rfl,ha,rl⟩:=nE W r hl;cases FG rl;exact⟨a,rfl,.inl (bQ.of ha),h64,hx⟩
  ·cases h
def rX(a b:aj):af:=λe c=>(a e c).bind λxs c=>match xs with
 |[x]=>match jY c x with
  |some ns=>(b e c).bind λys c=>match ys with
   |[y]=>match jY c y with
    |some ms=>.ok (.int (qi ns ms:Nat)) c
    |none=>.bad
   |_=>.bad
  |none=>.bad
 |_=>.bad
theorem N1(ha:e7 X [a] da)(hb:e7 X [b] db)(hm:X.mg "len"=Z)(hm2:X.mg "set"=Z)(hg:Gl X "len":=by rfl)(je:Gl X "set":=by rfl)(hc:X.calm=G:=by rfl)(he:ε [a] X.env=(ξ,eval a X.env)::ε [] X.env:=by exact cO rfl)(he2:ε [b] X.env=(ξ,eval b X.env)::ε [] X.env:=by exact cO rfl):
  bu X (.Call (.Name "len" p0) [.BinOp (.Call (.Name "set" p1) [a] [] q1) .BitAnd (.Call (.Name "set" p2) [b] [] q2) q3] [] q0) (rX da db):=by
 have h1:PE X (.Call (.Name "set" p1) [a] [] q1) _:=lV (HX hc) je hm2 (by decide +kernel) ha ⋯ ⋯ he (by exact fB rfl)
 have h2:PE X (.Call (.Name "set" p2) [b] [] q2) _:=lV (HX hc) je hm2 (by decide +kernel) hb ⋯ ⋯ he2 (by exact fB rfl)
 refine(wG agD hg hm (by decide +kernel) (jU (NU aaN h1 h2) kI (cO rfl)) ⋯ ⋯ (by exact cO rfl) (by exact fB rfl)).imp λJ H Q h=>?_
 obtain⟨ρ,e,c,W,V,p⟩:=h;refine⟨ρ,e,c,W,V,post.bind p λxs c1 aS H1 vs ex W1 X1 r1 p1=>?_⟩
 clear ex;split at p1
 ·rename_i x;obtain⟨v,r,rfl,hx,hr⟩:=r1;cases hr;split at p1
  ·rename_i ns hn;obtain⟨ad,rfl,sq,h64,hx'⟩:=Gv W1 hx hn;refine⟨ad,ns,rfl,sq,h64,hx',λpa hpa=>?_⟩
   refine⟨aS,e,c1,W1.fresh hpa,(V.mono W X1).mono W1 (Ext.fresh W1 hpa),post.bind (post.ext p1 (Ext.fresh W1 hpa)) λys c2 dH H2 vs2 ex2 W2 X2 r2 p2=>?_⟩
   clear ex2;split at p2
   ·rename_i y;obtain⟨v2,r',rfl,hy,hr'⟩:=r2;cases hr';split at p2
    ·rename_i ms hm';obtain⟨bd,rfl,amo,Rn,hy'⟩:=Gv W2 hy hm';refine⟨bd,ms,rfl,amo,Rn,hy',λpb G6=>?_⟩
     have ael:pa∉aS:=W1.nil hpa;have Hu:=(X2.keep pa _ fG ael rfl).1;have hne:pa≠pb:=λz=>by rw[z,G6]at Hu;cases Hu
     refine⟨pa,pb,ns,ms,rfl,rfl,hne,by rw[b8 hne];exact Hu,fG,h64,Rn,λpr rs pU hl aey=>?_⟩
     refine⟨pr,rs,rfl,fG,aey,?_⟩;rw[hl];have W3:=W2.fresh (o:=.ext (m5 X.w pb ms)) G6;exact p2 dH _ _ (W3.fresh pU) ((Ext.fresh W2 G6).trans (Ext.fresh W3 pU)) rfl
    ·exact p2.elim
   ·exact p2.elim
  ·exact p1.elim
 ·exact p1.elim
end
@[simp] theorem aiM(a b:aj)(e:Ev)(c:aa):rX a b e c=(a e c).bind λxs c=>match xs with
 |[x]=>match jY c x with
  |some ns=>(b e c).bind λys c=>match ys with
   |[y]=>match jY c y with
    |some ms=>.ok (.int (qi ns ms:Nat)) c
    |none=>.bad
   |_=>.bad
  |none=>.bad
 |_=>.bad:=rfl
section
variable {X:Cx}
theorem ab6(h:bW l=G)(n:Nat):bW (l.take n)=G:=iU.mpr λd hd=>iU.mp h d (UO hd)
theorem ab7(h:bW l=G)(n:Nat):bW (l.drop n)=G:=iU.mpr λd hd=>iU.mp h d (Y4 hd)
end
mutual
def fk(c:aa)(n:Nat):D->Option D
 |.ref k=>match c[k]? with
  |some (.lst l)=>if n<=k then O (.lst l)else Z
  |none=>Z
 |.lst l=>match iB c n l with
  |some m=>O (.lst m)
  |none=>Z
 |.tup l=>match iB c n l with
  |some m=>O (.tup m)
  |none=>Z
 |.aJ=>O .aJ
 |.bl b=>O (.bl b)
 |.int i=>O (.int i)
 |.str x=>O (.str x)
 |.ty x=>O (.ty x)
 |.cP x=>O (.cP x)
 |.fn x m=>O (.fn x m)
 |.exc x=>O (.exc x)
 |.jg=>O .jg
 |.dct ks=>O (.dct ks)
 |.lam _ _ _ _=>Z
def iB(c:aa)(n:Nat):List D->Option (List D)
 |[]=>O []
 |d::l=>match fk c n d,iB c n l with
  |some a,O m=>O (a::m)
  |_,_=>Z
end
section
variable {K:Γ}{aS:List Ξ}{H1:Hp}{c1:aa}{n:Nat}
mutual
theorem Ln(W1:Wd K aS H1 c1):∀(d:D) (v:V) (d':D),Rel K aS H1 d v->fk c1 n d=O d'->Rel K (aS.take n) H1 d' v
 |.ref k,v,d',r,h=>by
  unfold fk at h;split at h
  ·rename_i l hl;split at h
   ·rename_i hk;cases h;obtain⟨a,rfl,ha⟩:=r;obtain⟨nr,xs,hx,rl⟩:=W1.gi k a _ ha hl;refine⟨a,xs,rfl,⟨hx,λq=>?_⟩,aR.low (λb h=>UO h) l xs nr rl⟩
    obtain⟨j,hj,e⟩:=Vi.mp q;rw[XM]at e;have hk1:=U3.mp ha;have hjl:j<aS.length:=by simp at hj;omega
    have:=(Xf W1.nd (h₀:=hjl) (h₁:=hk1.1)).mp (e.trans hk1.2.symm);simp at hj;omega
   ·cases h
  ·cases h
 |.lst l,v,d',r,h=>by
  unfold fk at h;split at h
  ·rename_i m hm;cases h;obtain⟨a,xs,rfl,s,rl⟩:=r;exact⟨a,xs,rfl,⟨s.1,λq=>s.2 (UO q)⟩,EV W1 l xs m rl hm⟩
  ·cases h
 |.tup l,v,d',r,h=>by
  unfold fk at h;split at h
  ·rename_i m hm;cases h;obtain⟨a,xs,rfl,s,rl⟩:=r;exact⟨a,xs,rfl,s,EV W1 l xs m rl hm⟩
  ·cases h
 |.aJ,v,d',r,h=>by unfold fk at h;cases h;exact Rel.low (λb h=>UO h) _ _ rfl r
 |.bl b,v,d',r,h=>by unfold fk at h;cases h;exact Rel.low (λb h=>UO h) _ _ rfl r
 |.int i,v,d',r,h=>by unfold fk at h;cases h;exact Rel.low (λb h=>UO h) _ _ rfl r
 |.str x,v,d',r,h=>by unfold fk at h;cases h;exact Rel.low (λb h=>UO h) _ _ rfl r
 |.ty x,v,d',r,h=>by unfold fk at h;cases h;exact Rel.low (λb h=>UO h) _ _ rfl r
 |.cP x,v,d',r,h=>by unfold fk at h;cases h;exact Rel.low (λb h=>UO h) _ _ rfl r
 |.fn x m,v,d',r,h=>by unfold fk at h;cases h;exact Rel.low (λb h=>UO h) _ _ rfl r
 |.exc x,v,d',r,h=>by unfold fk at h;cases h;exact Rel.low (λb h=>UO h) _ _ rfl r
 |.jg,v,d',r,h=>by unfold fk at h;cases h;exact Rel.low (λb h=>UO h) _ _ rfl r
 |.dct ks,v,d',r,h=>by unfold fk at h;cases h;exact Rel.low (λb h=>UO h) _ _ rfl r
 |.lam _ _ _ _,v,d',r,h=>by unfold fk at h;cases h
theorem EV(W1:Wd K aS H1 c1):∀(l:List D) (xs:List V) (m:List D),aR K aS H1 l xs->iB c1 n l=O m->aR K (aS.take n) H1 m xs
 |[],xs,m,r,h=>by unfold iB at h;cases h;exact r
 |d::l,xs,m,r,h=>by
  unfold iB at h;split at h
  ·rename_i a m' ha hm;cases h;obtain⟨y,ys,rfl,r1,r2⟩:=r;exact⟨y,ys,rfl,Ln W1 d y a r1 ha,EV W1 l ys m' r2 hm⟩
  ·cases h
end
end
def p9(n:Nat)(v:D)(c:aa):R D:=match fk c n v with
 |some d=>.ok d (c.take n)
 |none=>.bad
def nO(n:Nat)(d:ah):List D->aa->R D:=λxs c=>(d (cW n xs) c).bind λf c'=>match f with
 |.rt v=>p9 c.length v c'
 |.nx _=>p9 c.length .aJ c'
 |_=>.bad
theorem RZ{K:Γ}{H H1:Hp}{x:V}{Q:VK}(W:Wd K ρ H c)(W1:Wd K aS H1 c1)(X1:Ext ρ H aS H1)(r:Rel K aS H1 v x)(p:post K (Rel K) (p9 c.length v c1) ρ H Q):Q x H1:=by
 have Xc:=X1.cut (n:=c.length) (VU W.len);unfold p9 at p;split at p
 ·rename_i d hd;exact p _ H1 x (W1.cut (Ext.len W W1 X1)) Xc (Ln W1 v x d r hd)
 ·exact p.elim
section
variable {P:π}{w:υ}{K:Γ}{mg:Str->Option Δ}{base:τ}
theorem afL{qual:Str}{st:χ}(F:mS K x qual st f fd)(S:jH N ps (eK st))(hN:N.length=n)(hm:ps.length=m)(hb:∀(cdv:Δ) (A:ω) (outer:List Env) (s:Ψ) (H:Hp) (E:XK),c8 k (A.deeper (envOfC qual (eK st) s.heap.objs.size f cdv))->bB (lz e9 P w K mg base N qual (eK st) f cdv A outer s H E).lY (i7 st) d):
  fS P w K mg base e9 (k+1) f fd ps (fZ K m (nO n d)):=by
 subst hN;subst hm;refine F.ok S (λvs H Q E h=>?_) (λcdv A outer s H vs Q E hr h=>⟨_,hb cdv A outer s H E hr,?_⟩)
 ·obtain⟨ρ,xs,c,W,r,hl,p⟩:=h;exact r.length.trans hl
 ·obtain⟨ρ,xs,c,W,r,hl,p⟩:=h;refine⟨ρ,cW N.length xs,c,W,eL.start r,post.bind p λfl c1 aS H1 b _ W1 X1 r1 p1=>?_⟩
  cases fl with
  |nx e1 =>
   obtain⟨σ1,rfl,V1⟩:=r1;exact RZ (v:=.aJ) W W1 X1 rfl (by unfold nO at p;rename_i he;rw[he]at p;exact p)
  |rt d =>
   obtain⟨v,rfl,V1⟩:=r1;exact RZ (v:=d) (x:=v) W W1 X1 V1 (by unfold nO at p;rename_i he;rw[he]at p;exact p)
  |bk e1=>exact p1.elim
  |ct e1=>exact p1.elim
end
@[simp] theorem aiU(n:Nat)(d:ah)(xs:List D)(c:aa):nO n d xs c=(d (cW n xs) c).bind λf c'=>match f with
 |.rt v=>p9 c.length v c'
 |.nx _=>p9 c.length .aJ c'
 |_=>.bad:=rfl
end L2
namespace L2
open PySem PySem.Spec PyProof.Rows
section
variable {X:Cx}{e sx:ν}{te:TE}{lo hi:Option ν}{tl th ts:TO}{pos p2:Pos}
def iP(i j:Int):List Int:=(θ (j-i).toNat).map λk:Nat=>i+(k:Int)
theorem ak5{f:Nat->Int}(h:ItemsOf (λk v=>∃t,v=.int (f k) t) acc n):Vals (((θ n).map f).map V.int) acc.toList:=by
 have hl:acc.toList.length=n:=by rw[U8];exact h.1
 have key:∀us o,(∀k (u:Δ),us[k]? = O u->∃t,u=.int (f (o+k)) t)->Vals (((List.range' o us.length).map f).map V.int) us:=by
  intro us
  induction us with
  |nil=>intro o _;exact .nil
  |cons u us ih =>
   intro o hu;obtain⟨t,e⟩:=hu 0 u rfl;refine .cons ⟨t,e⟩ (ih _ λk v hv=>?_)
   have:=hu (k+1) v (by simpa using hv)
   rwa[show o+_=o+1+k by omega]at this
 have:=key acc.toList 0 λk u hu=>by
  have:=h.2 k u (by rw[<-UQ];exact hu)
  rwa[UM]
 rwa[hl,<-List.range_eq_range']at this
def aoE(X:Cx):List V->Hp->VK->Prop:=λxs H Q=>∃p i j,xs=[.ref p]/\H p=O (.wu i j)/\(0<=i/\i<j/\j<1000)/\∀l,H l=Z->Q (.ref l) (upd H l (.lst ((iP i j).map V.int)))
theorem Sx(hc:X.calm=G:=by rfl):eU X (.type "list") (aoE X):=by
 intro pins s J H xs us Q I rv h;obtain⟨p,i,j,rfl,hH,hb,q⟩:=h;obtain⟨u,rfl,ru⟩:=Ua rv;cases ru;obtain⟨t,u,v,hr⟩:=I.hok p _ hH;have hn:Builtin.Range.rangeSize i j 1=((j-i).toNat:Nat):=by
  unfold Builtin.Range.rangeSize;omega
 refine call_list_range (I.ok.hd hc) hr (small_one ∅ ∅ ∅ ∅) hn ∅ λh' tk acc c' kp hg hit=>?_
 have x6:ItemsOf _ acc (j-i).toNat:=⟨hit.1,λk v hv=>by
  have:=hit.2 k v hv
  simpa using this⟩
 refine⟨.ref s.heap.objs.size,upd H s.heap.objs.size (.lst _),I.laid kp (dD _) ⟨?_,acc.toList,c',ak5 x6,by rw[Array.toArray_toList];exact hg⟩,rfl,q _ (I.hok.fresh (dD _))⟩
 simp only[iP,T6,Ul];rw[WJ];omega
end
open PySem.SeqAt
open AutoSeq1 (wpAny_loadPart')
section
variable {X:Cx}
def aoL:List V->Hp->VK->Prop:=λxs H Q=>∃j,xs=[.int j]/\∀p,H p=Z->Q (.ref p) (upd H p (.wu 0 j))
theorem Sw:eU X (.type "range") aoL:=by
 intro pins s J H xs us Q I rv h;obtain⟨j,rfl,q⟩:=h;obtain⟨u,rfl,ru⟩:=Ua rv;obtain⟨t,rfl⟩:=ru;refine call_range_1 ⟨.ref s.heap.objs.size,upd H s.heap.objs.size _,I.laid (λb o e=>jn _ e) (dD _) ?_,rfl,q _ (I.hok.fresh (dD _))⟩
 exact⟨_,_,_,T9 _ rfl⟩
def rY(a:aj):af:=λe c=>(a e c).bind λxs c=>match xs with
 |[.int j]=>if 0<j/\j<1000 then .ok (.lst ((iP 0 j).map D.int)) c else .bad
 |_=>.bad
theorem aab(ha:e7 X [a] da)(hm:X.mg "list"=Z)(hm2:X.mg "range"=Z)(hg:Gl X "list":=by rfl)(je:Gl X "range":=by rfl)(hc:X.calm=G:=by rfl)(he:ε [a] X.env=(ξ,eval a X.env)::ε [] X.env:=by exact cO rfl)(hb:(U4 q2 (ε [] X.env)).any (·.1)=ξ:=by exact fB rfl):bu X (.Call (.Name "list" p1) [.Call (.Name "range" p2) [a] [] q2] [] q1) (rY da):=by
 refine(lV (Sx hc) hg hm (by decide +kernel) (jU (lV Sw je hm2 (by decide +kernel) ha ⋯ ⋯ he hb) kI (cO rfl)) ⋯ ⋯ (cO rfl) (fB rfl)).imp λJ H Q h=>?_
 obtain⟨ρ,e,c,W,V,p⟩:=h;refine⟨ρ,e,c,W,V,post.bind p λxs c1 aS H1 vs ex W1 X1 r1 p1=>?_⟩
 split at p1
 ·rename_i j;obtain⟨v,r,rfl,hx,hr2⟩:=r1;cases hr2;cases hx;split at p1
  ·rename_i hb;exact⟨j,rfl,λp hp=>⟨p,0,j,rfl,fG,⟨Ys _,hb.1,hb.2⟩,λl hl=>qW (W1.fresh hp) aR.ints (post.ext p1 (Ext.fresh W1 hp)) l hl⟩⟩
  ·exact p1.elim
 ·exact p1.elim
def aoF(X:Cx):List V->Hp->VK->Prop:=λxs H Q=>∃a ns,xs=[.ref a]/\H a=O (.ext (m5 X.w a ns))/\(cC ns).length<64/\Q (.int ((cC ns).length:Nat)) H
theorem agE:eU X (.builtin "len") (aoF X):=by
 intro pins s J H xs us Q I rv h;obtain⟨a,ns,rfl,hH,hn,q⟩:=h;obtain⟨u,rfl,ru⟩:=Ua rv;cases ru;obtain⟨hS,_,_⟩:=I.hok a _ hH;obtain⟨o,es,ep,t,ho,hex,hd,hI,hl,hs⟩:=hS;have he:es.size=(cC ns).length:=by rw[<-U8,vU];exact hs.len
 refine Yt ho hex hd hI.fits (by rw[he];omega) ⟨.int _,H,I.tok _,⟨_,by rw[he]⟩,q⟩
def CN(a:aj):af:=λe c=>(a e c).bind λxs c=>match xs with
 |[x]=>match jY c x with
  |some ns=>.ok (.int ((cC ns).length:Nat)) c
  |none=>.bad
 |_=>.bad
theorem aad(ha:e7 X [a] da)(hm:X.mg "len"=Z)(hm2:X.mg "set"=Z)(hg:Gl X "len":=by rfl)(je:Gl X "set":=by rfl)(hc:X.calm=G:=by rfl)(he:ε [a] X.env=(ξ,eval a X.env)::ε [] X.env:=by exact cO rfl):
  bu X (.Call (.Name "len" p0) [.Call (.Name "set" p1) [a] [] q1] [] q0) (CN da):=by
 refine(wG agE hg hm (by decide +kernel) (jU (lV (HX hc) je hm2 (by decide +kernel) ha ⋯ ⋯ he (by exact fB rfl)) kI (cO rfl)) ⋯ ⋯ (by exact cO rfl) (fB rfl)).imp λJ H Q h=>?_
 obtain⟨ρ,e,c,W,V,p⟩:=h;refine⟨ρ,e,c,W,V,post.bind p λxs c1 aS H1 vs ex W1 X1 r1 p1=>?_⟩
 split at p1
 ·obtain⟨v,r,rfl,hx,hr⟩:=r1;cases hr;split at p1
  ·rename_i ns hn;obtain⟨ad,rfl,sq,h64,hx'⟩:=Gv W1 hx hn;exact⟨ad,ns,rfl,sq,h64,hx',λpa hpa=>⟨pa,ns,rfl,fG,h64,(post.ext p1 (Ext.fresh W1 hpa)).here (W1.fresh hpa) rfl⟩⟩
  ·exact p1.elim
 ·exact p1.elim
end
section
variable (o a:af) (b:aj) (e:Ev) (c:aa)
@[simp] theorem aiK:rY b e c=(b e c).bind λxs c=>match xs with
 |[.int j]=>if 0<j/\j<1000 then .ok (.lst ((iP 0 j).map D.int)) c else .bad
 |_=>.bad:=rfl
end
def oi:D->D->aa->R D:=λx y c=>match x,y with
 |.int i,.int j=>.ok (.int (Builtin.bitXor i j)) c
 |_,_=>.bad
def lg(o a:af):af:=λe c=>(o e c).bind λx c=>match x with
 |.ref k=>(a e c).bind λi c=>match i,c[k]? with
  |.int i,O (.lst l)=>if 0<=i/\i<l.length/\l.length<1000 then(match l[i.toNat]? with|some d=>.ok d (c.set k (.lst (l.eraseIdx i.toNat)))|none=>.bad)else .bad
  |_,_=>.bad
 |_=>.bad
def yr(a:aj):af:=λe c=>(a e c).bind λxs c=>match xs with
 |[.int j]=>if 0<j/\j<1000 then .ok (.ref c.length) (c++[.lst ((iP 0 j).map D.int)])else .bad
 |_=>.bad
section
variable {X:Cx}
theorem abO:bX X (binaryOp .BitXor) (r2 X.K oi):=by
 intro pins s J H v u vv uu Q I rv ru h;obtain⟨ρ,x,y,c,W,rx,ry,p⟩:=h;unfold oi at p;split at p
 ·cases rx;cases ry;exact aaw pins s J H _ _ vv uu Q I rv ru ⟨_,_,rfl,rfl,p.here W rfl⟩
 ·exact p.elim
theorem NZ{apos:Pos}(ho:bu X o dO)(ha:bu X a da)(hbase:Y7 o "pop" X.env (eval o X.env)=eval o X.env:=by rfl)(hfew:((U4 cpos (ε [a] X.env)).all (λx=>!x.1)&&(WY cpos (Wb [] X.env)).all (λx=>x.1.isSome)
   && decide ([a].length+([]:List VL).length+(if([]:List VL).isEmpty then 0 else 1)<30))=G:=by exact E3 rfl)(hline:(apos.endLine==cpos.line)=G:=by rfl)(hs:ε [a] X.env=(ξ,eval a X.env)::ε [] X.env:=by exact cO rfl)(hplain:(U4 cpos (ε [] X.env)).any (·.1)=ξ:=by exact fB rfl):
  bu X (.Call (.Attribute o "pop" apos) [a] [] cpos) (lg dO da) :=
 (FZ YU PySem.F.slot_list_pop PySem.F.type_list_pop acC ho (jU ha kI hs) hbase hfew hline hs hplain).imp λJ H Q h=>by
  obtain⟨ρ,e,c,W,V,p⟩:=h;refine⟨ρ,e,c,W,V,post.bind p λx c1 aS H1 v _ W1 X1 r1 p1=>?_⟩
  cases x with
  |ref k =>
   obtain⟨ad,rfl,hk⟩:=r1;obtain⟨xs,hx⟩:=W1.at' (UD hk);refine⟨.inl ⟨rfl,xs,bQ.of hx⟩,aS,e,c1,W1,V.mono W X1,post.bind p1 λi c2 dH H2 ui _ W2 X2 r2 p2=>?_⟩
   split at p2
   ·rename_i i' l hl _;split at p2
    ·rename_i hh;cases r2;have hk2:=X2.pre k ad hk;obtain⟨nr,ys,hy,rl⟩:=W2.gi k ad _ hk2 hl;split at p2
     ·rename_i d hd;obtain⟨y,hy1,ry⟩:=rl.get hd;have hlen:=rl.length;refine⟨ad,ys,i',i'.toNat,y,rfl,rfl,hy,∅,∅,?_,hy1,?_⟩
      ·have e0:(if i'<0 then i'+(ys.length:Int)else i')=i':=if_neg ∅
       unfold seqIndex?;simp only[e0];rw[if_pos (by simp only[T5,decide_eq_true_eq];omega)]
      ·rw[Vp]at p2 ⊢;refine p2 dH _ y (W2.write hk2 ?_ ((rl.take _).append (rl.drop _))) (Ext.write hk2) (Rel.mono W2 (Ext.write hk2) _ _ ry);rw[wN,ab6 nr,ab7 nr];rfl
     ·exact p2.elim
    ·exact p2.elim
   ·exact p2.elim
  |_=>exact p1.elim
theorem aaa(ha:e7 X [a] da)(hm:X.mg "list"=Z)(hm2:X.mg "range"=Z)(hg:Gl X "list":=by rfl)(je:Gl X "range":=by rfl)(hc:X.calm=G:=by rfl)(he:ε [a] X.env=(ξ,eval a X.env)::ε [] X.env:=by exact cO rfl)(hb:(U4 q2 (ε [] X.env)).any (·.1)=ξ:=by exact fB rfl):bu X (.Call (.Name "list" p1) [.Call (.Name "range" p2) [a] [] q2] [] q1) (yr da):=by
 have hr:PE X (.Call (.Name "range" p2) [a] [] q2) _:=lV Sw je hm2 (by decide +kernel) ha ⋯ ⋯ he hb
 refine(lV (Sx hc) hg hm (by decide +kernel) (jU hr kI (cO rfl)) ⋯ ⋯ (by exact cO rfl) (by exact fB rfl)).imp λJ H Q h=>?_
 obtain⟨ρ,e,c,W,V,p⟩:=h;refine⟨ρ,e,c,W,V,post.bind p λxs c1 aS H1 vs ex W1 X1 r1 p1=>?_⟩
 clear ex;split at p1
 ·rename_i j;obtain⟨v,r,rfl,hx,hr2⟩:=r1;cases hr2;cases hx;split at p1
  ·rename_i hb;refine⟨j,rfl,λp hp=>⟨p,0,j,rfl,fG,⟨Ys _,hb.1,hb.2⟩,λl hl=>?_⟩⟩
   have nr:bW ((iP 0 j).map D.int)=G:=iU.mpr λd hd=>by
    obtain⟨i,_,rfl⟩:=H8.mp hd;rfl
   exact Gk (W1.fresh hp) nr aR.ints (post.ext p1 (Ext.fresh W1 hp)) l hl
  ·exact p1.elim
 ·exact p1.elim
end
section
variable (o a:af) (b:aj) (e:Ev) (c:aa)
@[simp] theorem alj(i j:Int):oi (.int i) (.int j) c=.ok (.int (Builtin.bitXor i j)) c:=rfl
@[simp] theorem alu:yr b e c=(b e c).bind λxs c=>match xs with
 |[.int j]=>if 0<j/\j<1000 then .ok (.ref c.length) (c++[.lst ((iP 0 j).map D.int)])else .bad
 |_=>.bad:=rfl
end
theorem Lg:∀(xs:List Δ),Y8 xs->Y8 (xs++[.int l t,.int c u,v])
 |[],_=>trivial
 |.int _ _ :: .int _ _::_::rest,h=>Lg (c:=c) rest h
theorem Ti{pos:Pos}:∀(xs:List Δ),Y8 xs->codeAmong p (xs++[rawInt pos.line,rawInt pos.col,v])=O cv->codeAmong p xs=O cv\/cv=v
 |[],_,h=>by
  simp only[UG,rawInt,codeAmong]at h;split at h
  ·exact .inr (U9 h).symm
  ·cases h
 |.int a _ :: .int b _::x::rest,ht,h=>by
  simp only[Yr,codeAmong]at h ⊢;split at h
  ·rename_i hc;rw[if_pos hc];exact .inl h
  ·rename_i hc;rw[if_neg hc];exact Ti rest ht h
structure ail (H H':Hp) (n:Nat) (P:Ξ) (q:Str) (e:ν) (cl:List (Str×Ξ)) (a:Ξ):Prop where
 at':∃o c,H' a=O (.ext (rK a o))/\zc e o q c cl/\H' c=O (.ext (sd c q))
 keep:∀b u,H b=O u->xT u=ξ->H' b=O u
 new:∀b,b<n->H b=Z->H' b=Z
 tabs:∀b ps,b≠P->H b=O (.cJ ps)->H' b=O (.cJ ps)
 tab:TabAt H' P q
section
variable {X:Cx}{pins:List (Ξ×Obj)}{J:St}{H:Hp}{s:Ψ}
theorem SK{h1 h2:τ}(x:h1.CodeRec (.ref c) q)(k:∀o,h1.get? c=O o->h2.get? c=O o):h2.CodeRec (.ref c) q:=by
 obtain⟨c',oc,vs,t,e,h,r⟩:=x;cases e;exact⟨_,oc,vs,t,rfl,k _ h,r⟩
theorem adf{P:Ξ}{params:W7}{body:ν}{scope:UA}{pos:Pos}{clos:List (Str×Ξ)}{Q:Δ->Ψ->Prop}(I:Inv X pins J H s)(hcode:X.env.code=.ref c)(hq:X.env.qual++"<lambda>"=q)(hC:PySem.W.codeHdIn X.K c P=G)(hT:TabAt H P q)(hcl:closureFor scope X.env=pure clos)(hdef:defaultsOf params X.env=([],[]))(h:∀a H' s',Inv X pins J H' s'->s.heap.objs.size<=a->ail H H' s.heap.objs.size P q (.Lambda params body scope pos) clos a->Q (.ref a) s'):
  wpAny (model X.prog X.w) X.A (eval (.Lambda params body scope pos) X.env) Q X.xe s:=by
 obtain⟨ps,hP,ht,hcs⟩:=hT;have yc:s.heap.get? P=O (PySem.W.tabObj ps):=I.hok P _ hP;have hns:s.heap.Ns ι X.mg:=I.mod.glob.keeps I.bk;obtain⟨bm,ob,b1,b2,b3,b4,b5,b6⟩:=I.mod.bmod;have yU:=I.bk _ _ b3;have hgP:ι≠P:=λz=>by
  obtain⟨o,es,ep,e,hd,_⟩:=hns;rw[z,yc]at e;cases e;cases hd
 have hbP:bm≠P:=λz=>by rw[z,yc]at yU;cases yU;cases b4
 have hbG:bm≠ι:=λz=>by
  obtain⟨o,es,ep,e,hd,_⟩:=hns;rw[z,e]at yU;cases yU;rw[hd]at b6;cases b6
 have hB:s.heap.BuiltinsAt X.mg P:=⟨bm,ob,b1,b2,hbG,hbP,yU,b4,b5,b6⟩;have C:PySem.W.CodeHd s.heap c P:=f9 I.fK hC;refine PySem.W.kla_eval hdef ?_;rw[hq];have Rg:P<s.heap.objs.size:=IT yc;cases hf:codeAmong pos ps.toList with
 |some cv =>
  obtain⟨c',rfl,hc'⟩:=hcs pos cv hf;refine PySem.W.kla_makeFunctionHit hcl I.ok.glob hns hcode C yc ht hf hB λctv h' tk hk hsz=>?_
  generalize ho:({cls:=.type "function",data:=.func (PySem.W.kla_fn "<lambda>" q params body scope clos ((X.mg "__name__").getD .none) (.ref c') ctv)}:Obj)=o
  have hof:o.isFreed=ξ:=by rw[<-ho];rfl
  have hn:H h'.objs.size=Z:=I.hok.fresh hsz;have nb:∀b u,H b=O u->b≠h'.objs.size:=λb u e=>eH e hn
  refine h h'.objs.size (upd H h'.objs.size (.ext (rK h'.objs.size o))) _ (I.laid (t':=tk) (λb u e=>jn _ (hk b u e)) hsz ?_) hsz ⟨⟨o,c',fG,⟨_,ctv,ho.symm⟩,by rw[b8 (nb _ _ hc')];exact hc'⟩,λb u e _=>by rw[b8 (nb b u e)];exact e,λb hb e=>by rw[b8 (T3 (TY hb hsz))];exact e,λb ps' _ e=>by rw[b8 (nb b _ e)];exact e,⟨ps,by rw[b8 (nb _ _ hP)];exact hP,ht,λp v e=>let⟨d,e1,e2⟩:=hcs p v e;⟨d,e1,by rw[b8 (nb _ _ e2)];exact e2⟩⟩⟩
  exact⟨T9 _ hof,⟨_,T9 _ hof⟩,λh1 h2 e k=>k _ e⟩
 |none =>
  refine PySem.W.kla_makeFunction hcl I.ok.glob hns hcode C yc ht hf hgP hB λc' ctv h' tk hx hge hlt hrec htb=>?_
  generalize ho:PySem.W.kla_obj "<lambda>" q params body scope clos ((X.mg "__name__").getD .none) c' ctv=o
  have hsz:s.heap.objs.size<=h'.objs.size:=UK hge (VX hlt);have hof:o.isFreed=ξ:=by rw[<-ho];rfl
  have hnc:H c'=Z:=I.hok.fresh hge;have hna:H h'.objs.size=Z:=I.hok.fresh hsz;have hca:c'≠h'.objs.size:=T3 hlt;have hPc:P≠c':=T3 (TY Rg hge);have hPa:P≠h'.objs.size:=T3 (TY Rg hsz)
  generalize hps:ps ++ #[rawInt pos.line,rawInt pos.col,.ref c']=ps' at htb
  let H':Hp:=upd (upd (upd H P (.cJ ps')) c' (.ext (sd c' q))) h'.objs.size (.ext (rK h'.objs.size o))
  have sE:∀b,b≠P->b≠c'->b≠h'.objs.size->H' b=H b:=λb n1 n2 n3=>by
   show upd (upd (upd H P (.cJ ps')) c' _) h'.objs.size _ b=_;rw[b8 n3,b8 n2,b8 n1]
  have iI:H' P=O (.cJ ps'):=by
   show upd (upd (upd H P (.cJ ps')) c' _) h'.objs.size _ P=_;rw[b8 hPa,b8 hPc,fG]
  have IC:H' c'=O (.ext (sd c' q)):=by
   show upd (upd (upd H P (.cJ ps')) c' _) h'.objs.size _ c'=_;rw[b8 hca,fG]
  have Tc:H' h'.objs.size=O (.ext (rK h'.objs.size o)):=fG;have old:∀b u,H b=O u->xT u=ξ->H' b=O u:=λb u e t=>by
   rw[sE b (λz=>by rw[z,hP]at e;cases e;cases t) (eH e hnc) (eH e hna)];exact e
  have kp:∀b ob,b≠P->s.heap.get? b=O ob->(h'.push o).get? b=O ob:=λb ob n e=>jn _ (hx b ob n e)
  have aen:eG X.prog X.w H' (h'.push o):=λb u e=>by
   by_cases h1:b=h'.objs.size
   ·subst h1;rw[Tc]at e;cases e;exact⟨T9 _ hof,⟨_,T9 _ hof⟩,λh1 h2 e k=>k _ e⟩
   ·by_cases h2:b=c'
    ·subst h2;rw[IC]at e;cases e;obtain⟨d,oc,vs,t,e0,e1,e2⟩:=id hrec;cases e0;refine⟨SK hrec λo e=>jn _ e,⟨oc,jn _ e1⟩,λh1 h2 x k=>SK x k⟩
    ·by_cases h3:b=P
     ·subst h3;rw[iI]at e;cases e;exact jn _ htb
     ·rw[sE b h3 h2 h1]at e;refine(I.hok b u e).stay (λd w hd z=>kp d w ?_ z) (λd z=>?_) λd xs z=>?_
      ·rcases hd with hd|hd
       ·rw[hd];exact h3
       ·intro z2;rw[z2,hP]at hd;cases hd
      ·exact old d _ z rfl
      ·exact old d _ z rfl
  have I':Inv X pins J H' {s with heap:=h'.push o,toks:=tk}:=by
   refine I.step (g':=s.gens) (d':=s.drawn) (ch:=[]) (λ_ z=>nomatch z) (λb ob _ _ _ e n=>kp b ob (λz=>by rw[z,hP]at n;cases n) e) (λb ob _ _ _ e n=>⟨ob.slots,kp b ob (λz=>by rw[z,hP]at n;cases n) e⟩) (λb ob _ e n=>?_) (λb ob _ e=>?_) (λb xs e=>old b _ e rfl) (λb o' u e=>old b _ e rfl) (λb ps2 e=>?_) (λm hm=>?_) aen I.bare
   ·have hb:=IT e;rw[sE b (λz=>by rw[z,hP]at n;cases n) (T3 (TY hb hge)) (T3 (TY hb hsz))]
    exact n
   ·by_cases hb:b=P
    ·subst hb;exact⟨_,jn _ htb⟩
    ·exact⟨ob,kp b ob hb e⟩
   ·by_cases hb:b=P
    ·subst hb;rw[hP]at e;cases e;exact⟨#[rawInt pos.line,rawInt pos.col,.ref c'],by rw[iI,hps]⟩
    ·refine⟨#[],?_⟩;rw[sE b hb (eH e hnc) (eH e hna),e];simp
   ·have hLP:X.env.locals≠P:=λz=>by have:=I.free;rw[z,hP]at this;cases this
    obtain⟨ol,es,ep,e,r⟩:=hm;exact⟨ol,es,ep,kp _ _ hLP e,r⟩
  refine h h'.objs.size H' _ I' hsz ⟨⟨o,c',Tc,⟨_,ctv,ho.symm⟩,IC⟩,old,λb hb e=>?_,λb ps2 nb e=>?_,⟨ps',iI,?_,λp v e=>?_⟩⟩
  ·rw[sE b (λz=>by rw[z,hP]at e;cases e) (T3 (TY hb hge)) (T3 (TY hb hsz))];exact e
  ·rw[sE b nb (eH e hnc) (eH e hna)];exact e
  ·rw[<-hps,eu];exact Lg _ ht
  ·rw[<-hps,eu]at e
   rcases Ti ps.toList ht e with e|e
   ·obtain⟨d,e1,e2⟩:=hcs p v e;exact⟨d,e1,old d _ e2 rfl⟩
   ·exact⟨c',e,IC⟩
end
def gv(H:Hp)(F:Ξ->Option Obj):Hp:=λb=>match F b with
 |some o=>O (.dz o (.own 0))
 |none=>H b
def dJ(H:Hp)(F:Ξ->Option Obj):Hp:=λb=>match F b with
 |some _=>Z
 |none=>H b
section
variable {H H':Hp}{F:Ξ->Option Obj}{b:Ξ}{o:Obj}{u:HO}
theorem pZ(h:F b=O o):gv H F b=O (.dz o (.own 0)):=by unfold gv;rw[h]
theorem kc(h:F b=Z):gv H F b=H b:=by unfold gv;rw[h]
theorem sP(h:F b=O o):dJ H F b=Z:=by unfold dJ;rw[h]
theorem jM(h:F b=Z):dJ H F b=H b:=by unfold dJ;rw[h]
theorem Kn(hF:∀b o,F b=O o->H b=Z)(h:H b=O u):F b=Z:=by
 cases e:F b with
 |none=>rfl
 |some o=>rw[hF b o e]at h;cases h
theorem kT(hF:∀b o,F b=O o->H b=Z)(h:H b=O u):gv H F b=O u:=by rw[kc (Kn hF h)];exact h
end
section
variable {X:Cx}{pins:List (Ξ×Obj)}{J:St}{H H':Hp}{s s':Ψ}{F:Ξ->Option Obj}
structure Km (X:Cx) (H:Hp) (s:Ψ) (F:Ξ->Option Obj):Prop where
 heap:∀b o,F b=O o->s.heap.get? b=O o
 free:∀b o,F b=O o->H b=Z
 high:∀b o,F b=O o->X.s₀.heap.objs.size<=b
 loc:∀b o,F b=O o->b≠X.env.locals
theorem RG{P:π}(hok:eG P w H h)(hF:∀b o,F b=O o->H b=Z)(hh:∀b o,F b=O o->h.get? b=O o):eG P w (gv H F) h:=λb u e=>by
 cases hb:F b with
 |some o =>
  rw[pZ hb]at e;cases e;exact⟨hh b o hb,o,hh b o hb⟩
 |none =>
  rw[kc hb]at e;exact(hok b u e).stay (λ_ _ _ z=>z) (λc z=>kT hF z) λc xs z=>kT hF z
theorem RH(I:Inv X pins J H s)(η:Km X H s F):vz X.prog X.w X.K X.mg X.base X.A X.stack s (gv H F):=by
 have e:=I.HQ;have sz:X.base.objs.size<=X.s₀.heap.objs.size:=I.ok.ji;refine⟨e.frames,e.mod,λb o h=>?_,e.ji,e.iZ,λb hb=>?_,RG I.hok η.free η.heap,e.bare⟩
 ·obtain⟨h1,h2⟩:=e.bs b o h;refine⟨h1,?_⟩;cases hb:F b with
  |none=>rw[kc hb];exact h2
  |some ob=>exact absurd (TY (IT h) (UK sz (η.high b ob hb))) (Ui _)
 ·cases hF:F b with
  |none=>rw[kc hF];exact e.mz b hb
  |some ob =>
   exfalso
   rcases AP.mp (I.qH b hb)with z|z
   ·exact η.loc b ob hF z
   ·obtain⟨_,o2,ho,_⟩:=I.ok.iZ.mem z;exact absurd (TY (IT ho) (η.high b ob hF)) (Ui _)
theorem alc{fs:List Ξ}{h:τ}{P:π}(hF:∀b o,F b=O o->H b=Z)(hh:∀b o,F b=O o->h.get? b=O o)(hfs:∀b o,F b=O o->b∉fs)(un:Un fs [] (gv H F) H' h h')(hok:eG P w H' h'):Un fs [] H (dJ H' F) h h'/\eG P w (dJ H' F) h':=by
 have fz:∀b o,F b=O o->H' b=O (.dz o (.own 0)):=λb o e=>un.jC b o _ (pZ e)
 have nn:∀{b:Ξ}{u:HO},H b=O u->F b=Z:=λe=>Kn hF e
 refine⟨⟨λb o e n hb hx=>?_,λb o e n hb hx=>?_,λb o e n hx=>?_,un.there,λb xs e=>?_,λb o u e=>?_,λb ps e=>?_⟩,λb u e=>?_⟩
 ·cases hb':F b with
  |none=>exact un.keep b o e (by rw[kc hb'];exact n) hb hx
  |some ob =>
   have e1:=hh b ob hb';rw[e]at e1;cases e1;exact(hok b _ (fz b o hb')).1
 ·cases hb':F b with
  |none=>exact un.slot b o e (by rw[kc hb'];exact n) hb hx
  |some ob=>exact absurd hb (hfs b ob hb')
 ·cases hb':F b with
  |none=>rw[jM hb'];exact un.free b o e (by rw[kc hb'];exact n) hx
  |some ob=>exact sP hb'
 ·rw[jM (nn e)];exact un.tups b xs (kT hF e)
 ·rw[jM (nn e)];exact un.jC b o u (kT hF e)
 ·obtain⟨more,z⟩:=un.jO b ps (kT hF e);exact⟨more,by rw[jM (nn e)];exact z⟩
 ·cases hb:F b with
  |some ob=>rw[sP hb]at e;cases e
  |none =>
   rw[jM hb]at e;have st:∀{c:Ξ}{v:HO},H' c=O v->(∀o,v≠.dz o (.own 0))->dJ H' F c=O v:=fun{c v} z n=>by
    cases hc:F c with
    |none=>rw[jM hc];exact z
    |some oc=>rw[fz c oc hc]at z;exact absurd (U9 z).symm (n oc)
   exact(hok b u e).stay (λ_ _ _ z=>z) (λc z=>st z λ_ q=>nomatch q) λc xs z=>st z λ_ q=>nomatch q
theorem anz(Θ:fS X.prog X.w X.K X.mg X.base e9 k f fd ps sp)(hr:c8 k X.A)(hb:Binds X.K fd ps [])(I:Inv X pins J H s)(η:Km X H s F)(r:Vals vs us)(h:sp vs (gv H F) (λv H'=>Q v (dJ H' F)) E0):wpAny (model X.prog X.w) X.A (call (.ref f) us) (EP X pins J Q) X.xe s:=by
 have hl:us.length=ps.length:=by rw[<-r.length];exact Θ.len _ _ _ _ h
 have hb':=hb s us I.fK (by rw[VI];exact hl)
 rw[VI]at hb';refine WI (V5 (Θ.run X.A X.stack s (gv H F) ⟨us,[]⟩ us vs _ E0 hr (RH I η) hb' r h) λr s' hq=>?_)
 cases r with
 |error e=>exact False.elim hq
 |ok fl =>
  cases fl with
  |ret u =>
   obtain⟨v,H',os,bare,un,hok,rv,q⟩:=hq;obtain⟨EM,aeo⟩:=alc η.free η.heap (λb o e hb=>by
    have:=(RH I η).mz b hb;rw[pZ e]at this;cases this) un hok
   exact⟨v,dJ H' F,I.Ih os EM aeo bare λb z=>absurd z (by simp),rv,q⟩
  |next=>exact False.elim hq
  |brk=>exact False.elim hq
  |cont=>exact False.elim hq
end
section
variable {K:Γ}{ρ ρ':List Ξ}{H H':Hp}{c c':aa}{F:Ξ->Option Obj}
theorem KU(W:Wd K ρ H c)(k:∀b u,H b=O u->xT u=ξ->H' b=O u)(t:sH K H'):Ext ρ H ρ H'/\Wd K ρ H' c:=by
 have X:Ext ρ H ρ H':=⟨λ_ _ e=>e,λa o e n z=>⟨k a o e z,n⟩⟩
 refine⟨X,W.nd,W.len,λj a cl e1 e2=>?_,t⟩
 have q:=W.gi j a cl e1 e2;cases cl with
 |lst l =>
  obtain⟨nr,xs,e,r⟩:=q;exact⟨nr,xs,k _ _ e rfl,aR.mono W X l xs r⟩
theorem KW(W:Wd K ρ H c)(hF:∀b o,F b=O o->H b=Z):Ext ρ H ρ (gv H F)/\Wd K ρ (gv H F) c :=
 KU W (λb u e _=>kT hF e) (W.tab.mono (λ_ _ e=>kT hF e) λ_ _ e=>kT hF e)
theorem jL(hF:∀b o,F b=O o->H b=O (.dz o (.own 0)))(e:H b=O u)(n:∀o,u≠.dz o (.own 0)):dJ H F b=O u:=by
 cases hc:F b with
 |none=>rw[jM hc];exact e
 |some oc=>rw[hF b oc hc]at e;exact absurd (U9 e).symm (n oc)
mutual
theorem Rel.dJ(hF:∀b o,F b=O o->H b=O (.dz o (.own 0))):∀(d:D) (v:V),ff d=G->Rel K ρ H d v->Rel K ρ (dJ H F) d v
 |.aJ,v,_,h=>h
 |.bl b,v,_,h=>h
 |.int i,v,_,h=>h
 |.str y,v,_,h=>h
 |.ty n,v,_,h=>h
 |.tup l,v,n,h=>by
  obtain⟨a,xs,e,s,r⟩:=h;exact⟨a,xs,e,jL hF s (λ_ z=>nomatch z),aR.dJ hF l xs (by unfold ff at n;exact n) r⟩
 |.lst l,v,n,h=>by
  obtain⟨a,xs,e,s,r⟩:=h;exact⟨a,xs,e,⟨jL hF s.1 (λ_ z=>nomatch z),s.2⟩,aR.dJ hF l xs (by unfold ff at n;exact n) r⟩
 |.ref k,v,_,h=>h
 |.cP l,v,_,h=>by
  obtain⟨a,e,s⟩:=h;refine⟨a,e,?_⟩
  rcases s with⟨s,z⟩|s
  ·rcases s with s|⟨o,s⟩
   ·exact .inl ⟨.inl (jL hF s (λ_ z=>nomatch z)),z⟩
   ·exact .inl ⟨.inr ⟨o,jL hF s (λ_ z=>nomatch z)⟩,z⟩
  ·exact .inr s
 |.fn a n,v,_,h=>h
 |.jg,v,_,h=>by
  obtain⟨a,e,q⟩:=h;exact⟨a,e,jL hF q (λ_ z=>nomatch z)⟩
 |.dct ks,v,_,h=>by
  obtain⟨a,kvs,e,q,z⟩:=h;exact⟨a,kvs,e,jL hF q (λ_ z=>nomatch z),z⟩
 |.exc y,v,_,h=>by
  obtain⟨a,C,e,n,q⟩:=h;exact⟨a,C,e,n,jL hF q (λ_ z=>nomatch z)⟩
 |.lam _ _ _ _,v,n,h=>by unfold ff at n;cases n
theorem aR.dJ(hF:∀b o,F b=O o->H b=O (.dz o (.own 0))):∀(l:List D) (xs:List V),eV l=G->aR K ρ H l xs->aR K ρ (dJ H F) l xs
 |[],xs,_,h=>h
 |d::l,xs,n,h=>by
  obtain⟨y,r,e,h1,h2⟩:=h;unfold eV at n;rw[T5]at n;exact⟨y,r,e,Rel.dJ hF d y n.1 h1,aR.dJ hF l r n.2 h2⟩
end
theorem KS(W:Wd K ρ H c)(hF:∀b o,F b=O o->H b=O (.dz o (.own 0))):Wd K ρ (dJ H F) c:=by
 refine⟨W.nd,W.len,λj a cl e1 e2=>?_,W.tab.mono (λ_ _ e=>jL hF e (λ_ z=>nomatch z)) λ_ _ e=>jL hF e (λ_ z=>nomatch z)⟩
 have q:=W.gi j a cl e1 e2;cases cl with
 |lst l =>
  obtain⟨nr,xs,e,r⟩:=q;exact⟨nr,xs,jL hF e (λ_ z=>nomatch z),aR.dJ hF l xs (AF l nr) r⟩
theorem afY(x:Ext ρ (gv H F) ρ' H')(hF:∀b o,F b=O o->H b=Z):Ext ρ H ρ' (dJ H' F) :=
 ⟨x.pre,λa o e n t=>by
  obtain⟨h1,h2⟩:=x.keep a o (kT hF e) n t;exact⟨by rw[jM (Kn hF e)];exact h1,h2⟩⟩
theorem afZ(x:Ext ρ (dJ H F) ρ' H')(W':Wd K ρ' H' c')(hF:∀b o,F b=O o->H b=O (.dz o (.own 0)))(hn:∀b o,F b=O o->H' b=Z):Ext ρ H ρ' (gv H' F) :=
 ⟨x.pre,λa o e n t=>by
  cases hc:F a with
  |some oc =>
   have:=hF a oc hc;rw[e]at this;cases this;exact⟨pZ hc,W'.nil (hn a oc hc)⟩
  |none =>
   obtain⟨h1,h2⟩:=x.keep a o (by rw[jM hc];exact e) n t
   exact⟨by rw[kc hc];exact h1,h2⟩⟩
end
end L2
namespace L2
open PySem PySem.Spec PyProof.Rows
structure gm (X:Cx) (ns:List Str) (js:List Nat) (scope:UA):Prop where
 names:∀x∈scope.names,x.2=.free->X.env.kindOf x.1=O .cell\/X.env.kindOf x.1=O .free
 got:∀(i j:Nat) (x:Str),js[i]? = O j->ns[i]? = O x->(x,NameKind.free)∈scope.names/\X.N[j]? = O x/\(X.env.kindOf x=O .cell\/X.env.kindOf x=O .free)
 all:∀x,(x,NameKind.free)∈scope.names->x∈ns
def Qc(XN:List Str)(xn:List (Str×UI))(ns:List Str)(js:List Nat)(names:List (Str×UI)):Bool :=
 names.all (λx=>decide (x.2≠NameKind.free)||((decide (xn.lookup x.1=O NameKind.cell)||decide (xn.lookup x.1=O NameKind.free))&&decide (x.1∈ns))) &&
 (js.zip ns).all (λq=>decide ((q.2,NameKind.free)∈names)&&decide (XN[q.1]? = O q.2)&&(decide (xn.lookup q.2=O NameKind.cell)||decide (xn.lookup q.2=O NameKind.free)))
theorem gm.of{X:Cx}{ns:List Str}{scope:UA}(h:Qc X.N X.env.scope.names ns js scope.names=G):gm X ns js scope:=by
 unfold Qc at h;simp only[T5,Iv,decide_eq_true_eq,Vw]at h;obtain⟨h1,h2⟩:=h;refine⟨λx hx e=>?_,λi j x hj hx=>?_,λx hx=>?_⟩
 ·rcases h1 x hx with z|z
  ·exact absurd e z
  ·exact z.1
 ·have hm:(j,x)∈js.zip ns:=by
   have:(js.zip ns)[i]? = O (j,x):=by rw[ZF];exact⟨hj,hx⟩
   exact UD this
  obtain⟨⟨a,b⟩,d⟩:=h2 _ hm;exact⟨a,b,d⟩
 ·rcases h1 _ hx with z|z
  ·exact absurd rfl z
  ·exact z.2
section
variable {X:Cx}{pins:List (Ξ×Obj)}{J:St}{H:Hp}{s:Ψ}{ns:List Str}{js:List Nat}{scope:UA}
abbrev nU(X:Cx)(scope:UA):List (Str×Ξ):=gW X.env scope.names []
theorem gm.clos(S:gm X ns js scope)(I:Inv X pins J H s):closureFor scope X.env=pure (nU X scope):=by
 show(_ >>= λcs=>pure cs)=_
 rw[(DR (env:=X.env) scope.names [] λx hx hk=>I.ok.has x.1 (S.names x hx hk)),pure_bind]
theorem gm.cap(S:gm X ns js scope)(I:Inv X pins J H s)(h:(nU X scope).lookup x=O c):(x,NameKind.free)∈scope.names/\X.env.cells.lookup x=O c:=by
 rcases IF _ _ h with⟨a,b⟩|q
 ·refine⟨a,?_⟩;obtain⟨c',hc⟩:=I.ok.has x (S.names _ a rfl);rw[hc]at b ⊢;rw[b];rfl
 ·cases q
theorem gm.has(S:gm X ns js scope)(I:Inv X pins J H s)(h:(x,NameKind.free)∈scope.names):∃c,(nU X scope).lookup x=O c:=Vy.mp (IG _ _ (.inr h))
theorem gm.cl(S:gm X ns js scope)(I:Inv X pins J H s):zf (nU X scope) ns:=⟨λx y c h1 h2=>I.ok.inj x y c (S.cap I h1).2 (S.cap I h2).2,λx c h=>S.all x (S.cap I h).1⟩
open Classical in
def pY(cl:List (Str×Ξ))(h:τ):Ξ->Option Obj:=λb=>if ∃x,cl.lookup x=O b then h.get? b else Z
theorem Hz{cl:List (Str×Ξ)}(e:pY cl h b=O o):(∃x,cl.lookup x=O b)/\h.get? b=O o:=by
 unfold pY at e;split at e
 ·rename_i z;exact⟨z,e⟩
 ·cases e
theorem RE{cl:List (Str×Ξ)}{h:τ}(e:cl.lookup x=O b)(g:h.get? b=O o):pY cl h b=O o:=by
 unfold pY;rw[if_pos ⟨x,e⟩,g]
theorem gm.fz(S:gm X ns js scope)(I:Inv X pins J H s)(hfn:∀x,X.fn x=G):Km X H s (pY (nU X scope) s.heap):=by
 refine⟨λb o e=>(Hz e).2,λb o e=>?_,λb o e=>?_,λb o e=>?_⟩
 all_goals
  obtain⟨⟨x,hx⟩,_⟩:=Hz e;have hc:=(S.cap I hx).2
 ·exact I.jD x b hc
 ·exact I.ok.qh x b (hfn x) hc
 ·exact I.qg x b hc
theorem gm.cells(S:gm X ns js scope)(I:Inv X pins J H s)(i j:Nat)(x:Str)(v:V)(hj:js[i]? = O j)(hx:ns[i]? = O x)(hv:J[j]? = O (O v)):∃c oc u,(nU X scope).lookup x=O c/\pY (nU X scope) s.heap c=O oc/\oc.data=.cell (O u)/\RelV v u:=by
 obtain⟨h1,h2,h3⟩:=S.got i j x hj hx;obtain⟨c,hc⟩:=S.has I h1;obtain⟨m,hm,hl⟩:=I.loc;obtain⟨u,ru,lk⟩:=hl j x v h2 hv (h3.elim (λz=>.inr (.inl z)) λz=>.inr (.inr z))
 rcases lk with⟨k,_⟩|⟨_,c',hc',oc,ho,hd⟩
 ·rcases h3 with z|z<;>(rw[z]at k;cases k)
 ·rw[((S.cap I hc).2)]at hc';cases hc';exact⟨c,oc,u,hc,RE hc ho,hd,ru⟩
structure aik (H H':Hp) (P:Ξ) (q:Str) (e:ν) (cl:List (Str×Ξ)) (a:Ξ):Prop where
 at':∃o c,H' a=O (.ext (rK a o))/\zc e o q c cl/\H' c=O (.ext (sd c q))
 keep:∀b u,H b=O u->xT u=ξ->H' b=O u
 tabs:∀b ps,b≠P->H b=O (.cJ ps)->H' b=O (.cJ ps)
 tab:TabAt H' P q
def alM(P:Ξ)(q:Str)(e:ν)(cl:List (Str×Ξ)):TE:=λ_ H Q=>TabAt H P q/\∀a H',aik H H' P q e cl a->Q (.ref a) H'
theorem apq{P:Ξ}{params:W7}{body:ν}{pos:Pos}(S:gm X ns js scope)(hcode:X.env.code=.ref c)(hq:X.env.qual++"<lambda>"=q)(hC:PySem.W.codeHdIn X.K c P=G)(hdef:defaultsOf params X.env=([],[])):
  PE X (.Lambda params body scope pos) (alM P q (.Lambda params body scope pos) (nU X scope)):=λpins s J H Q I h =>
 adf I hcode hq hC h.1 (S.clos I) hdef λa H' s' I' hge N=>⟨.ref a,H',I',rfl,h.2 a H' ⟨N.at',N.keep,N.tabs,N.tab⟩⟩
def alD(cl:List (Str×Ξ))(ns:List Str)(js:List Nat)(sp:Sp)(t:TA):TE:=λJ H Q=>t J H λvs H1=>zf cl ns->∀F:Ξ->Option Obj,(∀b o,F b=O o->H1 b=Z) ->
 (∀(i j:Nat) (x:Str) (v:V),js[i]? = O j->ns[i]? = O x->J[j]? = O (O v)->∃c oc u,cl.lookup x=O c/\F c=O oc/\oc.data=.cell (O u)/\RelV v u)->sp vs (gv H1 F) (λv H'=>Q v (dJ H' F)) E0
theorem ao2{st:χ}{pos:Pos}(D:Def X.K X.mg x st ps f fd)(Θ:fS X.prog X.w X.K X.mg X.base e9 k f fd ps sp)(hr:c8 k X.A)(S:gm X ns js scope)(hfn:∀x,X.fn x=G)(ha:PA X (e::es) t)(hg:Gl X x:=by rfl)(hdb:(x==("__debug__":Str))=ξ:=by decide)(he:ε (e::es) X.env=(ξ,eval e X.env)::ε es X.env:=by rfl)(hpl:(U4 pos (ε es X.env)).any (·.1)=ξ:=by rfl):
  PE X (.Call (.Name x p) (e::es) [] pos) (alD (nU X scope) ns js sp t):=by
 intro pins s J H Q I h;refine WH (GO I hg D.at' ?_ hdb);refine ZL (h₀:=X.base) I.ok.mod.l9 D.fn.kp (bJ (ha pos pins s J H _ I h) λus s1 ⟨vs,H1,I1,r,q⟩=>⟨I1.fK,?_⟩) he hpl
 exact anz Θ hr D.bd I1 (S.fz I1 hfn) r (q (S.cl I1) _ (λb o e=>(S.fz I1 hfn).free b o e) λi j x v h1 h2 h3=>S.cells I1 i j x v h1 h2 h3)
end
def getAll(e:Ev):List Nat->Option (List D)
 |[]=>O []
 |j::js=>match e[j]?,getAll e js with
  |some (O d),O l=>O (d::l)
  |_,_=>Z
def nS(k:Nat)(m:List D->aa->R D)(d1:af)(E:ν)(ns:List Str)(js:List Nat):af:=λe c=>(d1 e c).bind λx c=>match getAll e js with
 |some l=>(m [x,.lam k E ns l] c).bind λv c=>if noRef v=G then .ok v c else .bad
 |none=>.bad
section
variable {X:Cx}{K:Γ}{ρ:List Ξ}{H Hf:Hp}{J:St}
theorem SY{cl:List (Str×Ξ)}{F:Ξ->Option Obj}(Vv:eL K ρ H e J)(hV:∀d v,Rel K ρ H d v->Rel K ρ Hf d v)(hf:∀c o,F c=O o->Hf c=O (.dz o (.own 0))):∀(js:List Nat) (ns:List Str) (l:List D),js.length=ns.length->getAll e js=O l ->
  (∀(i j:Nat) (x:Str) (v:V),js[i]? = O j->ns[i]? = O x->J[j]? = O (O v)->∃c oc u,cl.lookup x=O c/\F c=O oc/\oc.data=.cell (O u)/\RelV v u)->∃xs,jk Hf cl ns xs/\aR K ρ Hf l xs
 |[],[],l,_,h,_=>by
  unfold getAll at h;cases h;exact⟨[],rfl,rfl⟩
 |j::js,x::ns,l,hl,h,hc=>by
  unfold getAll at h;split at h
  ·rename_i d r hd hr;cases h;obtain⟨v,hv,rv⟩:=Vv.get j d hd;obtain⟨c,oc,u,h1,h2,h3,h4⟩:=hc 0 j x v rfl rfl hv;obtain⟨xs,h5,h6⟩:=SY Vv hV hf js ns r (Nat.succ.inj hl) hr λi j x v a b d=>hc (i+1) j x v a b d
   exact⟨v::xs,⟨v,xs,c,oc,u,rfl,h1,hf c oc h2,h3,h4,h5⟩,v,xs,rfl,hV d v rv,h6⟩
  ·cases h
 |[],_::_,_,hl,_,_=>by cases hl
 |_::_,[],_,hl,_,_=>by cases hl
def GQ(K:Γ):List (Str×Ξ):=rL.filterMap λx=>(PySem.W.tabIn K x).map λq=>(x,q.2)
def vQ(K:Γ):Bool:=(GQ K).all λa=>(GQ K).all λb=>!(a.2==b.2)||(a.1==b.1)
theorem alA(h:vQ K=G){P:Ξ}(hx:x∈rL)(hy:y∈rL)(tx:PySem.W.tabIn K x=O (c,P))(ty:PySem.W.tabIn K y=O (d,P)):x=y:=by
 unfold vQ at h;have m:∀{z:Str}{c:Ξ},z∈rL->PySem.W.tabIn K z=O (c,P)->(z,P)∈GQ K:=fun{z c} hz tz=>Ww.mpr ⟨z,hz,by rw[tz];rfl⟩
 have:=Iv.mp (Iv.mp h _ (m hx tx)) _ (m hy ty)
 simpa using this
theorem Wd.ach(W:Wd K ρ H c)(h:H a=O (.dz o u)):a∉ρ:=λm=>by
 obtain⟨ys,e⟩:=W.at' m;rw[e]at h;cases h
theorem Ag{st:χ}{P:Ξ}{m:List D->aa->R D}{body:ν}{params:W7}{scope:UA}{ns:List Str}{pos:Pos}(D:Def X.K X.mg x st ps f fd)(Θ:fS X.prog X.w X.K X.mg X.base e9 k f fd ps (fZ X.K 2 m))(hr:c8 k X.A)(he1:bu X e1 d1)(S:gm X ns js scope)(hjn:js.length=ns.length)(hfn:∀x,X.fn x=G)(hy:y∈rL)(ht:PySem.W.tabIn X.K y=O (c,P))(hap:vQ X.K=G)(hcode:X.env.code=.ref c)(hq:X.env.qual++"<lambda>"=A5 y)(hC:PySem.W.codeHdIn X.K c P=G)(hdef:defaultsOf params X.env=([],[]):=by rfl)(hg:Gl X x:=by rfl)(hdb:(x==("__debug__":Str))=ξ:=by decide)(hs1:ε [e1,.Lambda params body scope rH] X.env=(ξ,eval e1 X.env)::ε [.Lambda params body scope rH] X.env:=by exact cO rfl)(hs2:ε [.Lambda params body scope rH] X.env=(ξ,eval (.Lambda params body scope rH) X.env)::ε [] X.env:=by exact cO rfl)(hpl:(U4 pos (ε [.Lambda params body scope rH] X.env)).any (·.1)=ξ:=by exact fB rfl):
  bu X (.Call (.Name x p) [e1,.Lambda params body scope rH] [] pos) (nS kk m d1 (.Lambda params body scope rH) ns js) :=
 PE.imp (ao2 D Θ hr S hfn (jU he1 (jU (apq (c:=c) (P:=P) (q:=A5 y) S hcode hq hC hdef) kI hs2) hs1) hg hdb hs1 hpl) λJ H Q h=>by
  obtain⟨ρ,e,c0,W,V,pp⟩:=h;refine⟨ρ,e,c0,W,V,post.bind pp λx1 c1 aS H1 v _ W1 X1 r1 p1=>?_⟩
  have V1:=V.mono W X1;refine⟨W1.tab y hy c P ht,λa H' N=>?_⟩
  have alK:sH X.K H':=λz hz d P' tz=>by
   by_cases hP:P'=P
   ·subst hP;rw[alA hap hz hy tz ht];exact N.tab
   ·exact(W1.tab z hz d P' tz).mono (λps e=>N.tabs P' ps hP e) λc φ e=>N.keep c _ e rfl
  obtain⟨X2,W2⟩:=KU W1 N.keep alK;intro hcl F hF Hi;obtain⟨X3,W3⟩:=KW W2 hF;have Tv:=X2.trans X3;split at p1
  ·rename_i l hl;obtain⟨xs,hxs,hrs⟩:=SY (Hf:=gv H' F) V1 (λd v r=>Rel.mono W1 Tv d v r) (λc o e=>pZ e) js ns l hjn hl Hi
   obtain⟨o,cc,ha,hobj,hcc⟩:=N.at';refine⟨aS,[x1,.lam kk _ ns l],c1,W3,⟨v,[.ref a],rfl,Rel.mono W1 Tv x1 v r1,.ref a,[],rfl,⟨a,o,A5 y,cc,_,xs,rfl,kT hF ha,hobj,kT hF hcc,hcl,hxs,hrs⟩,rfl⟩,rfl,?_⟩;cases hm:m [x1,.lam kk _ ns l] c1 with
   |bad=>rw[hm]at p1;exact p1.elim
   |ok d c2 =>
    rw[hm,R.aF]at p1;split at p1
    ·rename_i hn;intro ρ' H4 b W4 X4 r4;have fz:∀b o,F b=O o->H4 b=O (.dz o (.own 0)):=λb o e=>(X4.keep b _ (pZ e) (W3.ach (pZ e)) rfl).1
     exact p1 ρ' (dJ H4 F) b (KS W4 fz) (X2.trans (afY X4 hF)) (Rel.dJ fz d b (AG d hn) r4)
    ·exact p1.elim
  ·exact p1.elim
end
def TV(s:Ψ)(H:Hp)(outer:List Env)(cl:List (Str×Ξ))(ns:List Str)(cs:List V):Prop :=
 cs.length=ns.length/\∀(i:Nat) (x:Str),ns[i]? = O x->∃v c u,cs[i]? = O v/\cl.lookup x=O c/\s.heap.IsCell c (O u)/\RelV v u/\H c=Z/\c∉frs outer
def nZ(P:π)(w:υ)(K:Γ)(mg:Str->Option Δ)(base:τ)(k:Nat)(E:ν)(ns:List Str)(n:Nat)(sp:Sp):Prop :=
 ∀(A:ω) (outer:List Env) (s:Ψ) (H:Hp) (a:Ξ) (o:Obj) (q:Str) (cc:Ξ) (cl:List (Str×Ξ)) (us:List Δ) (vs cs:List V) (Q:VK),c8 k A->vz P w K mg base A outer s H->s.heap.get? a=O o->zc E o q cc cl->s.heap.CodeRec (.ref cc) q->zf cl ns ->
  TV s H outer cl ns cs->Vals vs us->vs.length=n->sp (vs++cs) H Q E0->codeAny (model P w) A (.call (.ref a) ⟨us,[]⟩) (CR e9 outer P w H s Q E0) s
def xP(P:π)(w:υ)(K:Γ)(mg:Str->Option Δ)(base:τ)(N:List Str)(qual:Str)(scope:UA)(f:Ξ)(cd:Δ)(cl:List (Str×Ξ))(A:ω)(outer:List Env)(s:Ψ)(H:Hp):Cx where
 prog:=P
 w:=w
 K:=K
 mg:=mg
 base:=base
 A:=A.deeper (PySem.W.envX qual scope s.heap.objs.size f cd cl)
 N:=N
 s₀:=s
 H₀:=H
 env:=PySem.W.envX qual scope s.heap.objs.size f cd cl
 outer:=outer
 stack:=PySem.W.envX qual scope s.heap.objs.size f cd cl::outer
 ex:=[]
 calm:=G
 fn:=λ_=>ξ
 pn:=[]
 xe:=λ_ _=>False
structure qt (ps ns:List Str) (scope:UA):Prop where
 kind:scope.kind=.function
 co:scope.isCoroutine=ξ
 gen:scope.isGenerator=ξ
 nd:(ps++ns).Nodup
 par:∀x∈ps,scope.names.lookup x=O .local
 cap:∀x∈ns,scope.names.lookup x=O .free
 O5:∀y∈scope.names,y.2≠.cell
 free:∀y∈scope.names,y.2=.free->y.1∈ns
theorem qt.of{ns:List Str}{scope:UA}(h1:scope.kind=.function)(h2:scope.isCoroutine=ξ)(h3:scope.isGenerator=ξ)(h:(decide (ps++ns).Nodup&&ps.all (λx=>decide (scope.names.lookup x=O NameKind.local))&&ns.all (λx=>decide (scope.names.lookup x=O NameKind.free))&&scope.names.all (λy=>decide (y.2≠NameKind.cell)&&(decide (y.2≠NameKind.free)||decide (y.1∈ns))))=G):qt ps ns scope:=by
 simp only[T5,Iv,decide_eq_true_eq,Vw]at h;obtain⟨⟨⟨a,b⟩,c⟩,d⟩:=h;exact⟨h1,h2,h3,a,b,c,λy hy=>(d y hy).1,λy hy e=>(d y hy).2.elim (λz=>absurd e z) id⟩
theorem akF:∀{ps:List Str}{us:List Δ},x∉ps->(ps.zip us).reverse.lookup x=Z:=fun{ps us} h=>by
 cases e:(ps.zip us).reverse.lookup x with
 |none=>rfl
 |some v=>exact absurd (Wv (eo.mp (VA e))).1 h
theorem PN{x:Str}{v:Δ}:∀{l m:List (Str×Δ)},l.lookup x=Z->(l++m).lookup x=m.lookup x
 |[],_,_=>rfl
 |(y,u)::l,m,h=>by
  rw[UU]at h;rw[Yr,UU];cases hb:x==y with
  |true=>rw[hb]at h;cases h
  |false=>rw[hb]at h;exact PN (v:=v) h
theorem PM:∀{l m:List (Str×Δ)},l.lookup x=O v->(l++m).lookup x=O v
 |(y,u)::l,m,h=>by
  rw[UU]at h;rw[Yr,UU];cases hb:x==y with
  |true=>rw[hb]at h;exact h
  |false=>rw[hb]at h;exact PM h
theorem Kv:∀{ps:List Str}{us:List Δ}{i:Nat},ps.Nodup->ps[i]? = O x->us[i]? = O v->(ps.zip us).reverse.lookup x=O v
 |p::ps,u::us,0,nd,h1,h2=>by
  cases h1;cases h2;rw[Vo,ee,PN (v:=v) (akF (VB.mp nd).1)];simp
 |p::ps,u::us,i+1,nd,h1,h2=>by
  rw[Vo,ee];exact PM (Kv (VB.mp nd).2 (by simpa using h1) (by simpa using h2))
 |[],_,_,_,h1,_=>by simp at h1
 |_::_,[],_,_,_,h2=>by simp at h2
theorem ade{P:π}{w:υ}{K:Γ}{mg:Str->Option Δ}{base:τ}{k:Nat}{params:W7}{body:ν}{scope:UA}{pos:Pos}{ns:List Str}{sp:Sp}(S:qt ps ns scope)(hbind:∀(q:Str) (cl:List (Str×Ξ)) (pm cdv ct:Δ) (us:List Δ),us.length=ps.length->bindArgs (PySem.W.kla_fn "<lambda>" q params body scope cl pm cdv ct) ⟨us,[]⟩=pure (ps.zip us))(hb:∀(q:Str) (f:Ξ) (cd:Δ) (cl:List (Str×Ξ)) (A:ω) (outer:List Env) (s:Ψ) (H:Hp) (vs:List V) (Q:VK),c8 k (A.deeper (PySem.W.envX q scope s.heap.objs.size f cd cl))->sp vs H Q E0->∃t,PE (xP P w K mg base (ps++ns) q scope f cd cl A outer s H) body t/\t (vs.map O) H Q):
  nZ P w K mg base (k+1) (.Lambda params body scope pos) ns ps.length sp:=by
 intro A outer s H a o q cc cl us vs cs Q hr e0 ho hobj hcd hcl hcap rv hlen mq;obtain⟨pm,ctv,rfl⟩:=hobj;have KX:K.In s.heap:=e0.mod.l9.keeps λb o e=>(e0.bs b o e).1
 have lim:s.heap.NoLimit:=e0.mod.nolimit.keeps λb o e=>(e0.bs b o e).1
 refine PySem.W.kla_callFunE hr.depth ho rfl S.co S.gen rfl hcd ?_;rw[hbind q cl pm (.ref cc) ctv us (by rw[<-rv.length];exact hlen)]
 refine bg (wpAny_newFunctionEnv S.O5 (λy hy=>S.par y.1 (Wv hy).1) (λh₁ hns gU=>⟨lim.fresh _ gU,?_⟩) S.kind)
 show codeAny _ _ (.expr body (PySem.W.envX q scope s.heap.objs.size a (.ref cc) cl)) _ _;have hk₁:∀b ob,s.heap.get? b=O ob->h₁.get? b=O ob:=λb ob e=>gU.extBut b ob (T3 (IT e)) (jn _ e)
 obtain⟨t,ht,hq⟩:=hb q a (.ref cc) cl A outer s H (vs++cs) Q (hr.deeper _) mq;have nu:∀b:Ξ,b∉(xP P w K mg base (ps++ns) q scope a (.ref cc) cl A outer s H).ex:=λb z=>absurd (show b∈([]:List Ξ)from z) (by simp)
 have Ru:∀x c,cl.lookup x=O c->∃v u,s.heap.IsCell c (O u)/\RelV v u/\H c=Z:=λx c e=>by
  obtain⟨i,hi,ei⟩:=Vi.mp (hcl.2 x c e);obtain⟨v,c',u,_,h2,h3,h4,h5,_⟩:=hcap.2 i x (by rw[I8 hi,ei])
  rw[e]at h2;cases h2;exact⟨v,u,h3,h4,h5⟩
 have Qi:∀{c:Ξ}{u:Option Δ},s.heap.IsCell c u->h₁.IsCell c u:=fun{c u} ⟨o,e,d⟩=>⟨o,hk₁ c o e,d⟩
 have I:Inv (xP P w K mg base (ps++ns) q scope a (.ref cc) cl A outer s H) [] ((vs++cs).map O) H {s with heap:=h₁,toks:=s.toks+(ps.zip us).length}:=by
  refine⟨⟨e0.mod,S.kind,rfl,rfl,dD _,hcl.1,λx hx=>?_,λx c h=>absurd h (by simp[xP]),λ_=>hr.hd,Around.frames_deeper e0.frames,.inr ⟨rfl,rfl⟩,λb z=>absurd z (nu b),e0.bs,e0.ji,λb _ _=>nu b,λb z=>absurd z (nu b),e0.iZ,e0.mz⟩,
   rfl,e0.bare,Un.kept hk₁,⟨_,hns,λi x v h1 h2 h3=>?_⟩,λx c h=>?_,e0.hok.fresh (dD _),λx c h=>?_,λp hp=>absurd (show p∈([]:List (Ξ×Obj))from hp) (by simp),e0.hok.kept hk₁,?_⟩
  ·have hx:scope.names.lookup x=O .cell\/scope.names.lookup x=O .free:=hx
   rcases hx with hx|hx
   ·exact absurd rfl (S.O5 _ (VA hx))
   ·have hm:=S.free _ (VA hx) rfl;obtain⟨i,hi,ei⟩:=Vi.mp hm;obtain⟨v,c',u,_,h2,_⟩:=hcap.2 i x (by rw[I8 hi,ei])
    exact⟨c',h2⟩
  ·have h1:(ps++ns)[i]? = O x:=h1;have h2':(vs++cs)[i]? = O v:=by
    rw[U7]at h2;cases e:(vs++cs)[i]? with
    |none=>rw[e]at h2;cases h2
    |some b=>rw[e]at h2;cases h2;rfl
   by_cases hi:i<ps.length
   ·rw[UZ hi]at h1;rw[UZ ∅]at h2'
    obtain⟨u,hu,ru⟩:=rv.get h2';refine⟨u,ru,.inl ⟨S.par x (UD h1),?_⟩⟩;exact Kv ((WU.mp S.nd).1) h1 hu
   ·rw[Um ∅]at h1
    rw[Um ∅,hlen]at h2'
    obtain⟨v',c,u,e1,e2,e3,e4,_⟩:=hcap.2 _ x h1;rw[h2']at e1;cases e1;exact⟨u,e4,.inr ⟨.inr (S.cap x (UD h1)),c,e2,Qi e3⟩⟩
  ·obtain⟨v,u,h3,_⟩:=Ru x c h;exact⟨_,Qi h3⟩
  ·obtain⟨v,u,_,_,h5⟩:=Ru x c h;exact h5
  ·show((vs++cs).map O).length=(ps++ns).length;rw[T6,UR,UR,hlen,hcap.1]
 refine PySem.W.kla_codeExpr (UW (ht [] _ _ H Q I hq) (λu s' hs=>?_) λe s' hs=>False.elim hs)
 obtain⟨v,H',σ,ru,q⟩:=hs;exact⟨v,H',σ.os,σ.bare,σ.base,σ.hok,ru,q⟩
section
variable {M:Model}{A:ω}{E:Δ->Ψ->Prop}{s:Ψ}{env:Env}{pos:Pos}{Q:Δ->Ψ->Prop}
theorem ahp{o:Obj}{rest:List ν}(hd:o.data=.func fd)(h:wpAny M A (spliced (U4 pos (ε (e::rest) env))) (λvs s₁=>s₁.heap.get? a=O o/\wpAny M A (call (.ref a) ([]++vs)) Q E s₁) E s)(he:ε (e::rest) env=(ξ,eval e env)::ε rest env)(hplain:(U4 pos (ε rest env)).any (·.1)=ξ):
  wpAny M A (callWith pos (.ref a) [] (U4 pos (ε (e::rest) env)) []) Q E s:=by
 rw[he]at h ⊢;refine PySem.W.callWith_of (P:=λh=>h.get? a=O o) (by show((ξ||(U4 pos _).any (·.1))||false)=ξ;rw[hplain];rfl) (λh e=>⟨.frame,.inl rfl,?_⟩) (PySem.Calls.evalArgs_plain h)
 obtain⟨oc,od,dt,sl⟩:=o;cases hd;exact(PySem.W.Looks.ld e).andThen PySem.W.Looks.now
end
section
variable {X:Cx}{pins:List (Ξ×Obj)}{J:St}{H H':Hp}{s s':Ψ}{F:Ξ->Option Obj}
theorem alb{P:π}(hok:eG P w H h)(hF:∀b o,F b=O o->H b=O (.dz o (.own 0))):eG P w (dJ H F) h:=λb u e=>by
 cases hb:F b with
 |some o=>rw[sP hb]at e;cases e
 |none =>
  rw[jM hb]at e;exact(hok b u e).stay (λ_ _ _ z=>z) (λc z=>jL hF z λ_ q=>nomatch q) λc xs z=>jL hF z λ_ q=>nomatch q
theorem vH(h:H b=Z):dJ H F b=Z:=by
 unfold dJ;split<;>first|rfl|exact h
theorem am1{ns:List Str}{cl:List (Str×Ξ)}(Θ:nZ X.prog X.w X.K X.mg X.base k Ex ns n sp)(hr:c8 k X.A)(I:Inv X pins J H s)(ha:H a=O (.ext (rK a o)))(hobj:zc Ex o q cc cl)(hcc:H cc=O (.ext (sd cc q)))(hcl:zf cl ns)(hcs:jk H cl ns cs)(r:Vals vs us)(hn:vs.length=n)(h:∀F:Ξ->Option Obj,(∀b o,F b=O o->H b=O (.dz o (.own 0)))->sp (vs++cs) (dJ H F) (λv H'=>(∀b o,F b=O o->H' b=Z)->Q v (gv H' F)) E0):
  wpAny (model X.prog X.w) X.A (call (.ref a) us) (EP X pins J Q) X.xe s:=by
 have hF:∀b ob,pY cl s.heap b=O ob->H b=O (.dz ob (.own 0)):=λb ob e=>by
  obtain⟨⟨x,hx⟩,hg⟩:=Hz e;obtain⟨i,hi,ei⟩:=Vi.mp (hcl.2 x b hx);obtain⟨v,c,oc,u,_,h2,h3,_⟩:=hcs.get (i:=i) (x:=x) (by rw[I8 hi,ei])
  rw[hx]at h2;cases h2;have:=(I.hok b _ h3).1;rw[hg]at this;cases this;exact h3
 generalize hFd:pY cl s.heap=F at hF
 have e:=I.HQ;have nf:∀b ob,F b=O ob->b∉frs X.stack:=λb ob z hb=>by
  have:=I.E2 b hb;rw[hF b ob z]at this;cases this
 have cap:TV s (dJ H F) X.stack cl ns cs:=by
  refine⟨hcs.length,λi x hx=>?_⟩
  obtain⟨v,c,oc,u,h1,h2,h3,h4,h5⟩:=hcs.get hx;have hg:=(I.hok c _ h3).1;have hf:F c=O oc:=by rw[<-hFd];exact RE h2 hg
  exact⟨v,c,u,h1,h2,⟨oc,hg,h4⟩,h5,sP hf,nf c oc hf⟩
 refine WI (V5 (Θ X.A X.stack s (dJ H F) a o q cc cl us vs cs _ hr (⟨e.frames,e.mod,λb o h=>⟨(e.bs b o h).1,vH (e.bs b o h).2⟩,e.ji,e.iZ,λb hb=>vH (e.mz b hb),alb I.hok hF,e.bare⟩) (I.hok a _ ha).1 hobj (I.hok cc _ hcc).1 hcl cap r hn (h F hF)) λrr s' hq=>?_)
 cases rr with
 |error e=>exact False.elim hq
 |ok fl =>
  cases fl with
  |next=>exact False.elim hq
  |brk=>exact False.elim hq
  |cont=>exact False.elim hq
  |ret u =>
   obtain⟨v,H',os,bare,un,hok,rv,q⟩:=hq;have gF:=λb ob z=>(I.hok b _ (hF b ob z)).1
   have hn':=λb ob z=>un.free b ob (gF b ob z) (sP z) (by simp)
   have Fn:∀{b:Ξ},H b=Z->F b=Z:=fun{b} z=>by
    cases e:F b with
    |none=>rfl
    |some ob=>rw[hF b ob e]at z;cases z
   have old:∀{b:Ξ}{u:HO},H b=O u->(∀o,u≠.dz o (.own 0))->F b=Z/\dJ H F b=O u:=fun{b u} z ap4=>by
    cases e:F b with
    |none=>exact⟨rfl,by rw[jM e];exact z⟩
    |some ob=>rw[hF b ob e]at z;exact absurd (U9 z).symm (ap4 ob)
   have EM:Un (frs X.stack) [] H (gv H' F) s.heap s'.heap:=by
    refine⟨λb o e n hb hx=>un.keep b o e (vH n) hb hx,λb o e n hb hx=>un.slot b o e (vH n) hb hx,λb o e n hx=>?_,un.there,λb xs e=>?_,λb o u e=>?_,λb ps e=>?_⟩
    ·rw[kc (Fn n)];exact un.free b o e (vH n) hx
    ·obtain⟨h1,h2⟩:=old e λ_ z=>nomatch z
     rw[kc h1];exact un.tups b xs h2
    ·cases z:F b with
     |some ob =>
      have:=hF b ob z;rw[e]at this;cases this;exact pZ z
     |none=>rw[kc z];exact un.jC b o u (by rw[jM z];exact e)
    ·obtain⟨h1,h2⟩:=old e λ_ z=>nomatch z
     rw[kc h1];exact un.jO b ps h2
   exact⟨v,gv H' F,I.Ih os EM (RG hok hn' (λb ob z=>un.keep b ob (gF b ob z) (sP z) (nf b ob z) (by simp))) bare λb z=>absurd z (by simp),rv,q hn'⟩
end
open Classical in
def r9(i n:Nat)(cJ:List (ν×List Str×(List D->aa->R D)))(a:aj):af:=λe c=>match e[i]? with
 |some (O (.lam k E ns l))=>match cJ[k]? with
  |some t=>if E=t.1/\ns=t.2.1 then(a e c).bind λxs c=>if xs.length=n/\eV xs=G/\eV l=G then t.2.2 (xs++l) c else .bad else .bad
  |none=>.bad
 |_=>.bad
theorem aai{X:Cx}(i:Nat){cJ:List (ν×List Str×(List D->aa->R D))}{pos:Pos}(hT:∀t∈cJ,∃k,nZ X.prog X.w X.K X.mg X.base k t.1 t.2.1 n (fZ X.K (n+t.2.1.length) t.2.2)/\c8 k X.A)(ha:e7 X (e::es) da)(hN:X.N[i]? = O x:=by rfl)(hv:yY X.env.scope x:=by first|exact Or.inl rfl|exact Or.inr (Or.inl rfl)|exact Or.inr (Or.inr rfl))(hd:(x==("__debug__":Str))=ξ:=by decide)(hcd:(x==("__classdict__":Str))=ξ:=by decide)(he:ε (e::es) X.env=(ξ,eval e X.env)::ε es X.env:=by exact cO rfl)(hpl:(U4 pos (ε es X.env)).any (·.1)=ξ:=by exact fB rfl):
  bu X (.Call (.Name x p) (e::es) [] pos) (r9 i n cJ da):=by
 intro pins s J H Q I h;obtain⟨ρ,ev,c,W,Vv,q⟩:=h;unfold r9 at q;split at q
 ·rename_i kk Ex ns l hf;obtain⟨v,hσ,rl⟩:=Vv.get i _ hf;obtain⟨a,o,qn,cc,cl,cs,rfl,ha1,hobj,hcc,hcl,hcs,hrs⟩:=id rl;split at q
  ·rename_i t ht;split at q
   ·rename_i G1;obtain⟨rfl,rfl⟩:=G1;obtain⟨k,Θ,hr⟩:=hT _ (UD ht);refine WH (bJ (FW hN hv hd hcd pins s J H (λv H1=>v=.ref a/\H1=H) I ⟨_,hσ,rfl,rfl⟩) λu s1 ⟨v,H1,I1,r1,q1⟩=>?_)
    obtain⟨rfl,rfl⟩:=q1;cases r1;have hdata:∃fd,o.data=.func fd:=by
     cases hE:t.1 with
     |Lambda params body scope lp =>
      rw[hE]at hobj;obtain⟨pm,ctv,rfl⟩:=hobj;exact⟨_,rfl⟩
     |_=>rw[hE]at hobj;exact hobj.elim
    obtain⟨fd,hdata⟩:=hdata;refine ahp hdata (bJ (ha pos pins s1 J H1 (λvs H2=>∃aS xs c1,Wd X.K aS H2 c1/\Ext ρ H1 aS H2/\aR X.K aS H2 xs vs/\xs.length=n/\eV xs=G/\eV l=G/\post X.K (Rel X.K) (t.2.2 (xs++l) c1) aS H2 Q) I1 ⟨ρ,ev,c,W,Vv,post.bind q λxs c1 aS H2 vs _ W1 X1 r1 p1=>?_⟩) λus s2 ⟨vs,H2,I2,r2,aS,xs,c1,W1,X1,rx,hl,n1,n2,p1⟩=>?_) he hpl
    ·split at p1
     ·rename_i hc;exact⟨aS,xs,c1,W1,X1,r1,hc.1,hc.2.1,hc.2.2,p1⟩
     ·exact p1.elim
    ·obtain⟨a',o',qn',cc',cl',cs',ea,ha2,aer,aeT,aeR,Q6,QV⟩:=Rel.mono W X1 _ _ rl;cases ea;have apK:o=o':=by
      have g1:=(I2.hok a _ ((X1.keep a _ ha1 (λm=>by obtain⟨ys,z⟩:=W.at' m;rw[z]at ha1;cases ha1) rfl).1)).1
      have g1':=g1;have RD:s2.heap.get? a=O o':=((I2.hok a _ ha2).1);rw[g1']at RD;exact U9 RD
     subst apK;refine⟨(I2.hok a _ ha2).1,?_⟩;refine am1 (cs:=cs') Θ hr I2 ha2 aer aeT aeR Q6 r2 (by rw[rx.length];exact hl) λF hF=>?_
     refine⟨aS,xs++l,c1,KS W1 hF,aR.append (aR.dJ hF xs vs n1 rx) (aR.dJ hF l cs' n2 QV),by rw[UR,hl,<-QV.length,Q6.length],?_⟩
     cases hm:t.2.2 (xs++l) c1 with
     |bad=>rw[hm]at p1;exact p1.elim
     |ok d c2 =>
      rw[hm]at p1;intro ρ' H4 b W4 X4 r4 QY;obtain⟨X5,W5⟩:=KW W4 QY;exact p1 ρ' (gv H4 F) b W5 (afZ X4 W4 hF QY) (Rel.mono W4 X5 d b r4)
   ·exact q.elim
  ·exact q.elim
 ·exact q.elim
@[simp] theorem adx(i n:Nat)(cJ:List (ν×List Str×(List D->aa->R D)))(a:aj)(e:Ev)(c:aa){ns:List Str}{m:List D->aa->R D}(h:e[i]? = O (O (.lam k Ex ns l)))(ht:cJ[k]? = O (Ex,ns,m)):r9 i n cJ a e c=(a e c).bind λxs c=>if xs.length=n/\eV xs=G/\eV l=G then m (xs++l) c else .bad:=by
 unfold r9;rw[h];dsimp only;rw[ht];dsimp only;rw[if_pos ⟨rfl,rfl⟩]
def jz(d:af):List D->aa->R D:=λxs c=>d (xs.map O) c
theorem aoX{K:Γ}{H:Hp}{xs:List D}(r:aR K ρ H xs vs):eL K ρ H (xs.map O) (vs.map O):=by
 refine⟨λi d h=>?_,by rw[T6,T6,r.length]⟩
 rw[U7]at h;cases e:xs[i]? with
 |none=>rw[e]at h;cases h
 |some y =>
  rw[e]at h;cases h;obtain⟨v,hv,rv⟩:=r.get e;exact⟨v,by rw[U7,hv];rfl,rv⟩
theorem A7{P:π}{w:υ}{K:Γ}{mg:Str->Option Δ}{base:τ}{k:Nat}{params:W7}{body:ν}{scope:UA}{pos:Pos}{ns:List Str}(S:qt ps ns scope)(hbind:∀(q:Str) (cl:List (Str×Ξ)) (pm cdv ct:Δ) (us:List Δ),us.length=ps.length->bindArgs (PySem.W.kla_fn "<lambda>" q params body scope cl pm cdv ct) ⟨us,[]⟩=pure (ps.zip us))(hb:∀(q:Str) (f:Ξ) (cd:Δ) (cl:List (Str×Ξ)) (A:ω) (outer:List Env) (s:Ψ) (H:Hp),c8 k (A.deeper (PySem.W.envX q scope s.heap.objs.size f cd cl))->bu (xP P w K mg base (ps++ns) q scope f cd cl A outer s H) body d):
  nZ P w K mg base (k+1) (.Lambda params body scope pos) ns ps.length (fZ K (ps.length+ns.length) (jz d)) :=
 ade S hbind λq f cd cl A outer s H vs Q hr h=>⟨_,hb q f cd cl A outer s H hr,by
  obtain⟨ρ,xs,c,W,r,hl,p⟩:=h;exact⟨ρ,xs.map O,c,W,aoX r,p⟩⟩
section
variable {P:π}{w:υ}{K:Γ}{mg:Str->Option Δ}{base:τ}
theorem Bx{st:χ}{own:Bool}(F:mS K x x st f fd)(hn:μ K ι x=O (O (.ref f)))(S:jH N ps (eK st))(hN:N.length=n)(hm:ps.length=m)(hb:∀(cdv:Δ) (A:ω) (outer:List Env) (s:Ψ) (H:Hp) (E:XK),(∀c P,PySem.W.tabIn K x=O (c,P)->cdv=.ref c)->c8 k (A.deeper (envOfC x (eK st) s.heap.objs.size f cdv))->bB (lz e9 P w K mg base N x (eK st) f cdv A outer s H E).lY (i7 st) d):
  fS P w K mg base e9 (k+1) f fd ps (fZ K m (bh n own d)):=by
 obtain⟨oc,od,kV,doc,pm,an,CV,ct,osl,hfd,lk,hcd⟩:=F.ex;have key:∀(cdv:Δ),(∀(A:ω) (outer:List Env) (s:Ψ) H E,c8 k (A.deeper (envOfC x (eK st) s.heap.objs.size f cdv))->bB (lz e9 P w K mg base N x (eK st) f cdv A outer s H E).lY (i7 st) d)->cdv=CV->fS P w K mg base e9 (k+1) f fd ps (fZ K m (bh n own d)):=by
  intro cdv hb' e;subst e;subst hN;subst hm;subst hfd;refine RQ lk hcd S (λvs H Q E h=>?_) λA outer s H vs Q E hr h=>⟨_,gX.lY (hb' A outer s H E hr),?_⟩
  ·obtain⟨ρ,xs,c,W,r,hl,p⟩:=h;exact r.length.trans hl
  ·obtain⟨ρ,xs,c,W,r,hl,p⟩:=h;refine⟨ρ,cW N.length xs,c,W,eL.start r,post.bind p λfl c1 aS H1 b _ W1 X1 r1 p1=>?_⟩
   cases fl with
   |nx e1 =>
    obtain⟨σ1,rfl,V1⟩:=r1;exact CH (v:=.aJ) (x:=.aJ) (H1:=H1) W W1 X1 rfl (by
     unfold bh at p;exact id (α:=post K _ (cU own c.length .aJ c1) ρ H Q) (by
      rename_i he;rw[he]at p;exact p))
   |rt d =>
    obtain⟨v,rfl,V1⟩:=r1;exact CH (x:=v) (H1:=H1) W W1 X1 V1 (by
     unfold bh at p;rename_i he;rw[he]at p;exact p)
   |bk e1=>exact p1.elim
   |ct e1=>exact p1.elim
 refine key CV (λA outer s H E hr=>hb CV A outer s H E (λc P' ht=>?_) hr) rfl
 unfold PySem.W.tabIn at ht;rw[hn]at ht;dsimp only at ht;rw[lk,hfd]at ht;dsimp only at ht;cases CV with
 |ref c' =>
  dsimp only at ht;split at ht
  ·split at ht
   ·cases ht;rfl
   ·cases ht
  ·cases ht
 |_=>cases ht
end
def aih(H:Hp)(ts:List Ξ):Prop:=∀b,H b=Z\/(∃o xs,H b=O (.dz o (.lst xs)))\/(b∈ts/\H b=O (.cJ #[]))
theorem ac9{P:π}{w:υ}{K:Γ}{mg mb:Str->Option Δ}{fa a:Ξ}{fd:UH}{x:Str}{sp:Sp}{s₁:Ψ}{vs:List Δ}{ns:List Int}{ts:List (Ξ×Ξ)}(KX:K.In s₁.heap)(hns:s₁.heap.Ns ι mg)(hb:s₁.heap.Ns builtinsNs mb)(hbb:∀x:Str,x≠"__name__"->mb x=bootBuiltins x)(hlim:s₁.heap.NoLimit)(hbm:∃bm ob,mg "__builtins__"=O (.ref bm)/\bm≠builtinsNs/\s₁.heap.get? bm=O ob/\ob.cls=.type "module"/\ob.dict=O builtinsNs/\ob.data=.plain)(hg:s₁.gens=#[])(ha:s₁.heap.get? a=O {cls:=.type "list",data:=.seq vs.toArray})(hi:Uz vs ns)(hl:ns.length<=Ω)(hr:c8 k callerA)(Hl:∀q∈ts,PySem.W.codeHdIn K q.1 q.2=G/\s₁.heap.get? q.2=O (PySem.W.tabObj #[]))(hKt:PySem.W.noTabs K=G)(F:∀base:τ,K.In base->base.Ns ι mg->fS P w K mg base e9 k fa fd [x] sp)(hbind:∀(s:Ψ) (u:Δ),W6 s fd ⟨[u],[]⟩ [(x,u)])(mq:∀H:Hp,(∀q∈ts,H q.2=O (.cJ #[]))->bQ K H a (ns.map V.int)->sp [.ref a] H (λv _=>v=.bl G) λ_ _ _=>False):
  codeAny (model P w) callerA (.call (.ref fa) ⟨[.ref a],[]⟩) (λr s'=>r=.ok (.ret (.bool G))/\OldK s₁.heap s'.heap/\s'.os=s₁.os/\VZ s'.gens) s₁:=by
 have rv:=K1 hi;have ac0:=hi.length;have pR:∀b,b∈ts.map (·.2)->s₁.heap.get? b=O (PySem.W.tabObj #[]):=λb h=>by
  obtain⟨q,hq,rfl⟩:=H8.mp h;exact(Hl q hq).2
 have nat:a∉ts.map (·.2):=λh=>by have:=pR a h;rw[ha]at this;cases this
 have core:∀H:Hp,aih H (ts.map (·.2))->(∀q∈ts,H q.2=O (.cJ #[]))->bQ K H a (ns.map V.int)->eG P w H s₁.heap->(∀b,H b≠Z->b=a\/b∈ts.map (·.2))->(H a≠Z->K.lookup a=Z) ->
   codeAny (model P w) callerA (.call (.ref fa) ⟨[.ref a],[]⟩) (λr s'=>r=.ok (.ret (.bool G))/\OldK s₁.heap s'.heap/\s'.os=s₁.os/\VZ s'.gens) s₁:=by
  intro H hO hT hS hok hA hK;have Iq:∀{b:Ξ}{o:Obj},s₁.heap.get? b=O o->H b=Z->(nK s₁.heap H).get? b=O o:=λe n=>aeI e n
  have noB:∀{b:Ξ}{o:Obj},s₁.heap.get? b=O o->o.cls≠.type "list"->o.cls≠.none->H b=Z:=fun{b o} e d1 d2=>by
   cases q:H b with
   |none=>rfl
   |some u =>
    rcases hA b (by rw[q];simp)with e'|e'
    ·subst e';rw[ha]at e;cases e;exact absurd rfl d1
    ·rw[pR b e']at e;cases e;exact absurd rfl d2
  have nu:∀{b:Ξ}{o:Obj}{es:Array Wa}{ep:Nat},s₁.heap.get? b=O o->o.data=.dict es ep->H b=Z:=fun{b o es ep} e d=>by
   cases q:H b with
   |none=>rfl
   |some u =>
    rcases hA b (by rw[q];simp)with e'|e'
    ·subst e';rw[ha]at e;cases e;have d':Data.seq vs.toArray _=Data.dict es ep:=d;cases d'
    ·rw[pR b e']at e;cases e;have d':Data.fields #[]=Data.dict es ep:=d;cases d'
  have AE:∀{b:Ξ}{m:Str->Option Δ},s₁.heap.Ns b m->(nK s₁.heap H).Ns b m:=fun{b m} ⟨o,es,ep,e,d,r⟩=>⟨o,es,ep,Iq e (nu e d),d,r⟩
  have Rh:K.In (nK s₁.heap H):=λb o e=>Iq (KX b o e) (by
   cases q:H b with
   |none=>rfl
   |some u =>
    rcases hA b (by rw[q];simp)with e'|e'
    ·subst e';rw[hK (by rw[q];simp)]at e;cases e
    ·have h1:=KX b o e;rw[pR b e']at h1;cases h1;have h2:=Iv.mp hKt (b,_) (PySem.W.mem_of_lookupK e);exact absurd (show ξ=G from h2) UC)
  have hM:Mod K mg (nK s₁.heap H):=⟨Rh,AE hns,⟨mb,AE hb,hbb⟩,let⟨mc,h1,h2⟩:=hlim;⟨mc,AE h1,h2⟩,let⟨bm,ob,b1,b2,b3,b4,b5⟩:=hbm;⟨bm,ob,b1,b2,Iq b3 (noB b3 (by rw[b4];simp) (by rw[b4];simp)),b4,b5⟩⟩
  have e0:vz P w K mg (nK s₁.heap H) callerA [] s₁ H:=⟨rfl,hM,λb o e=>abN e,VU (aeH _ _),trivial,λb hb=>absurd (show b∈([]:List Ξ)from hb) (by simp),hok,.of_eq hg⟩
  refine V5 ((F _ Rh (AE hns)).run callerA [] s₁ H ⟨[.ref a],[]⟩ [.ref a] [.ref a] _ _ hr e0 (hbind s₁ (.ref a)) (.cons rfl .nil) (mq H hT hS)) λr s' h=>?_
  cases r with
  |error e=>exact False.elim h
  |ok fl =>
   cases fl with
   |next=>exact False.elim h
   |brk=>exact False.elim h
   |cont=>exact False.elim h
   |ret u =>
    obtain⟨v,H',os,bare,un,QX,r',q⟩:=h;have q':v=.bl G:=q;subst q';obtain rfl:u=Value.bool G:=r';have main:∀b o,s₁.heap.get? b=O o->s'.heap.get? b=O o\/(b∈ts.map (·.2)/\o=PySem.W.tabObj #[]/\∃ps,s'.heap.get? b=O (PySem.W.tabObj ps)):=λb o e=>by
     rcases hO b with z|⟨ob,xs,z⟩|⟨hm,z⟩
     ·exact .inl (un.keep b o e z (by intro z;exact absurd (show b∈([]:List Ξ)from z) (by simp)) (by simp))
     ·have z2:=un.jC b ob _ z;obtain⟨e1,_⟩:=hok b _ z;obtain⟨e2,_⟩:=QX b _ z2;rw[e]at e1;cases e1;exact .inl e2
     ·obtain⟨more,z2⟩:=un.jO b _ z;have e2:s'.heap.get? b=O (PySem.W.tabObj (#[]++more)):=QX b _ z2;have e1:=pR b hm;rw[e]at e1;cases e1;exact .inr ⟨hm,rfl,_,e2⟩
    refine⟨rfl,⟨λb o e=>?_,λb o e=>?_⟩,os,bare⟩
    ·rcases main b o e with z|⟨hm,rfl,ps,z⟩
     ·exact .inl z
     ·obtain⟨q,hq,rfl⟩:=H8.mp hm;have hC:=f9 KX (Hl q hq).1;exact .inr (.inl ⟨(hC.tab (Hl q hq).2).isCodeTable,rfl,#[],ps,rfl,by rw[Array.empty_append];exact z⟩)
    ·rcases main b o e with z|⟨_,_,ps,z⟩
     ·exact⟨o,z⟩
     ·exact⟨_,z⟩
 have ai8:∀(H:Hp) b,H b=O (.cJ #[])->b∈ts.map (·.2)->gk P w H s₁.heap b (.cJ #[]):=λH b _ h=>pR b h
 cases hk:K.lookup a with
 |some o =>
  have e:=KX a o hk;rw[ha]at e;cases e
  let H:Hp:=λb=>if b∈ts.map (·.2)then O (.cJ #[])else Z
  refine core H (λb=>?_) (λq hq=>if_pos (c6 hq)) (.inr ⟨_,vs.toArray,_,hk,rfl,rfl,rfl,by rw[U1,ac0];exact hl,by simpa using rv⟩) (λb u z=>?_) (λb z=>?_) λz=>absurd (if_neg nat) z
  ·by_cases hb:b∈ts.map (·.2)
   ·exact .inr (.inr ⟨hb,if_pos hb⟩)
   ·exact .inl (if_neg hb)
  ·by_cases hb:b∈ts.map (·.2)
   ·have z':=(if_pos hb).symm.trans z;cases z';exact pR b hb
   ·have z':=(if_neg hb).symm.trans z;cases z'
  ·by_cases hb:b∈ts.map (·.2)
   ·exact .inr hb
   ·exact absurd (if_neg hb) z
 |none =>
  let H:Hp:=λb=>if b∈ts.map (·.2)then O (.cJ #[])else if b=a then O (.dz {cls:=.type "list",data:=.seq vs.toArray} (.lst (ns.map V.int)))else Z
  have Ha:H a=O _:=(if_neg nat).trans (if_pos rfl);refine core H (λb=>?_) (λq hq=>if_pos (c6 hq)) (.inl (.inr ⟨_,Ha⟩)) (λb u z=>?_) (λb z=>?_) λ_=>hk
  ·by_cases hb:b∈ts.map (·.2)
   ·exact .inr (.inr ⟨hb,if_pos hb⟩)
   ·by_cases hb2:b=a
    ·exact .inr (.inl ⟨_,_,(if_neg hb).trans (if_pos hb2)⟩)
    ·exact .inl ((if_neg hb).trans (if_neg hb2))
  ·by_cases hb:b∈ts.map (·.2)
   ·have z':=(if_pos hb).symm.trans z;cases z';exact pR b hb
   ·by_cases hb2:b=a
    ·have z':=((if_neg hb).trans (if_pos hb2)).symm.trans z;cases z';subst hb2;exact⟨ha,by rw[T6];exact hl,vs,_,rv,ha⟩
    ·have z':=((if_neg hb).trans (if_neg hb2)).symm.trans z;cases z'
  ·by_cases hb:b∈ts.map (·.2)
   ·exact .inr hb
   ·by_cases hb2:b=a
    ·exact .inl hb2
    ·exact absurd ((if_neg hb).trans (if_neg hb2)) z
def EY(K:Γ)(ts:List (Ξ×Ξ)):Bool:=rL.all λx=>match PySem.W.tabIn K x with
 |some q=>decide (q∈ts)
 |none=>G
theorem alL{K:Γ}{H:Hp}(h:EY K ts=G)(hT:∀q∈ts,H q.2=O (.cJ #[])):sH K H:=λx hx c P e=>by
 have:=Iv.mp h x hx;rw[e]at this;exact⟨#[],hT _ (of_decide_eq_true this),trivial,λpos cv z=>by cases z⟩
theorem ak0{l:ZM}{loose:List Str}{XP:(Str->Option Δ)->τ->Prop}{YP:υ->τ->Prop}{d:DefRec}{K:Params->Γ}{m:List D->aa->R D}(hn:l.most=O n)(hn2:n<=Ω)(hdf:d.params.defaults=[])(hr:c8 k callerA)(hY:∀(w:υ) (h:τ),YP w h->(K w.params).In h/\∀q∈ts,h.get? q.2=O (PySem.W.tabObj #[]))(hK:∀p,(ts.all λq=>PySem.W.codeHdIn (K p) q.1 q.2)=G/\PySem.W.noTabs (K p)=G/\EY (K p) ts=G)(F:∀(w:υ) (mg:Str->Option Δ) (fa:Ξ) (h:τ),(K w.params).In h->h.Ns ι mg->mg d.name=O (.ref fa) ->
   ∃fd:UH,(∀(s:Ψ) (u:Δ),W6 s fd ⟨[u],[]⟩ [(x,u)]) /\
    ∀base:τ,(K w.params).In base->base.Ns ι mg->fS l.prog w (K w.params) mg base e9 k fa fd [x] (fZ (K w.params) 1 m))(hm:∀ns:List Int,ns.length<=n->∃c,m [.cP ns] []=.ok (.bl G) c):
  PySem.W.WalkO q loose XP YP l.row.toRowW d [] (λf vs=>PySem.call f vs):=by
 refine TX.ahF hn hdf λw s₀ s₁ mg mb fa o pm cd doc a vs ns Θ Y ho hd hcd hmg hobj hints hlen hg=>?_
 obtain⟨KX,hT⟩:=hY w _ Y;obtain⟨fd,hb,hF⟩:=F w mg fa _ KX Θ.T.g hmg;obtain⟨k1,k2,k3⟩:=hK w.params;refine ac9 KX Θ.T.g Θ.T.b Θ.T.builtins Θ.T.nolimit Θ.T.bmain hg hobj hints (UK hlen hn2) hr (λq hq=>⟨Iv.mp k1 q hq,hT q hq⟩) k2 hF hb λH h1 h2=>?_
 obtain⟨c,hc⟩:=hm ns hlen;refine⟨[],[.cP ns],[],⟨.nil,rfl,λk a cl e=>(by cases e),alL k3 h1⟩,⟨.ref a,[],rfl,⟨a,rfl,?_⟩,rfl⟩,rfl,?_⟩
 ·rcases h2 with hS|hS
  ·exact .inl ⟨hS,by simp⟩
  ·exact .inr (.inr hS)
 ·rw[hc];exact λρ' H' b _ _ r=>r
structure GdN (L:Nat) (l:List (Nat×Int)):Prop where
 nd:(l.map (·.1)).Nodup
 lt:∀p∈l,p.1<L
theorem O3:∀(L:Nat) (l:List Nat),l.Nodup->(∀x∈l,x<L)->l.length<=L
 |0,[],_,_=>dD _
 |0,x::l,_,h=>by have:=h x (by simp);omega
 |L+1,l,hn,h=>by
  have h1:=O3 L (l.erase L) (hn.erase L) λx hx=>by
   have h2:=h x (List.mem_of_mem_erase hx);have h3:x≠L:=λe=>by subst e;exact(hn.not_mem_erase) hx
   omega
  have:=@List.length_erase _ _ _ L l;rw[this]at h1;split at h1<;>omega
def qP(p:Int×Int):D:=.tup [.int p.1,.int p.2]
abbrev Pb:=SetTable.Probe
def gK(m:Nat)(p:Pb):Pb:=if p.more>0 then{p with j:=p.j+1,more:=p.more-1}else{p with j:=(p.i*5+1+p.perturb/32) % (m+1),more:=SetTable.runEnd m ((p.i*5+1+p.perturb/32) % (m+1))-(p.i*5+1+p.perturb/32) % (m+1),i:=(p.i*5+1+p.perturb/32) % (m+1),perturb:=p.perturb/32}
theorem ah6(t:ψ)(p:Pb):t.advance p=gK t.mask p:=by
 unfold SetTable.advance gK;split<;>rfl
def fR(m:Nat):Nat->Pb->Pb
 |0,p=>p
 |n+1,p=>fR m n (gK m p)
theorem A8(m:Nat):∀(a b:Nat) (p:Pb),fR m (a+b) p=fR m b (fR m a p)
 |0,b,p=>by rw[UM];rfl
 |a+1,b,p=>by
  rw[show a+1+b=(a+b)+1 by omega]
  exact A8 m a b _
theorem ah7(m:Nat)(p:Pb):(gK m p).dummy=p.dummy:=by unfold gK;split<;>rfl
theorem Qs(m:Nat):∀(n:Nat) (p:Pb),(fR m n p).dummy=p.dummy
 |0,_=>rfl
 |n+1,p=>(Qs m n _).trans (ah7 m p)
def oZ(m i q:Nat):Pb:=⟨i,SetTable.runEnd m i-i,i,q,Z⟩
def iO(m:Nat)(h:Int):Pb:=oZ m (SetTable.bits h % (m+1)) (SetTable.bits h)
def iI(m:Nat)(h:Int)(n:Nat):Nat:=(fR m n (iO m h)).j
def Reach(m:Nat)(P:Nat->Prop)(h:Int)(j:Nat):Prop:=∃n,n<10*(m+15)/\iI m h n=j/\∀k,k<n->P (iI m h k)
theorem Reach.mono{P Q:Nat->Prop}(r:Reach m P h j)(i:∀k,P k->Q k):Reach m Q h j :=
 let⟨n,h1,h2,h3⟩:=r;⟨n,h1,h2,λk hk=>i _ (h3 k hk)⟩
theorem E7{t:ψ}(hu:Up t.place.toList)(hj:j∈t.place.toList):∃i,t.slot j=.live i/\t.place[i]? = O j:=by
 refine⟨SetTable.below t.place j,?_,Io hu hj⟩;unfold SetTable.slot;dsimp only;rw[Io hu hj];simp
theorem amz{t:ψ}(hd:t.dummies=#[])(hj:j∉t.place.toList):t.slot j=.empty:=by
 rcases E6 hd j with e|⟨i,e⟩
 ·exact e
 ·unfold SetTable.slot at e;dsimp only at e;split at e
  ·rename_i q;have:=eq_of_beq q;rw[<-UQ]at this;exact absurd (UD this) hj
  ·split at e<;>cases e
theorem Hv{t:ψ}{hashAt:Nat->Int}:∀(n fuel:Nat) (p:Pb),n<=fuel->(∀k,k<n->∃i,t.slot (fR t.mask k p).j=.live i/\(hashAt i==h)=ξ) ->
  SetTable.probe.go t hashAt h fuel p=SetTable.probe.go t hashAt h (fuel-n) (fR t.mask n p)
 |0,fuel,p,_,_=>rfl
 |n+1,0,p,hf,_=>absurd hf ∅
 |n+1,fuel+1,p,hf,hk=>by
  obtain⟨i,e,hne⟩:=hk 0 ∅
  have e:t.slot p.j=.live i:=e;rw[show fuel+1-_=fuel-n by omega]
  show SetTable.probe.go t hashAt h _ p=SetTable.probe.go t hashAt h _ (fR t.mask n _);rw[<-(Hv (h:=h) n fuel _ ∅ λk hk'=>hk (k+1) ∅)]
  conv=>lhs;unfold SetTable.probe.go
  rw[e];dsimp only;rw[hne,ah6];simp only[Ug,if_false]
theorem HY{mask:Nat}:∀(n:Nat) (p:Pb) (acc:Nat),gV mask n p.j p.more p.i p.perturb acc=G->∀s,s<=mask->acc.testBit s=ξ->∃k,k<n/\(fR mask k p).j=s
 |0,_,_,h,_,_,_=>by cases h
 |n+1,p,acc,hc,s,hs,ha=>by
  by_cases e:p.j=s
  ·exact⟨0,∅,e⟩
  ·have ha':(acc |||(1 <<< p.j)).testBit s=ξ:=by
    rw[C0,ha];simp;exact λq=>e q.symm
   unfold gV at hc;split at hc
   ·rename_i ef;rw[ef,WT]at ha';have:=of_decide_eq_false ha';omega
   ·split at hc
    ·rename_i hm;have rT:gK mask p={p with j:=p.j+1,more:=p.more-1}:=by unfold gK;rw[if_pos hm]
     obtain⟨k,hk,ek⟩:=HY n (gK mask p) (acc |||(1 <<< p.j)) (by rw[rT];exact hc) s hs ha'
     exact⟨k+1,∅,ek⟩
    ·rename_i hm;have rT:gK mask p={p with j:=(p.i*5+1+p.perturb/32) % (mask+1),more:=SetTable.runEnd mask ((p.i*5+1+p.perturb/32) % (mask+1))-(p.i*5+1+p.perturb/32) % (mask+1),i:=(p.i*5+1+p.perturb/32) % (mask+1),perturb:=p.perturb/32}:=by
      unfold gK;rw[if_neg hm]
     obtain⟨k,hk,ek⟩:=HY n (gK mask p) (acc |||(1 <<< p.j)) (by rw[rT];exact hc) s hs ha'
     exact⟨k+1,∅,ek⟩
theorem least{P:Nat->Prop}:∀(n:Nat),P n->∃k,k<=n/\P k/\∀i,i<k->¬P i:=λn=>by
 induction n using Nat.strongRecOn with
 |_ n ih =>
  intro h
  by_cases q:∃i,i<n/\P i
  ·obtain⟨i,hi,hp⟩:=q;obtain⟨k,h1,h2,h3⟩:=ih i hi hp;exact⟨k,∅,h2,h3⟩
  ·exact⟨n,dD _,h,λi hi hp=>q ⟨i,hi,hp⟩⟩
structure qu (h:Int):Prop where
 go:∀m,tW m->gV m (10*(m+15)) (SetTable.bits h % (m+1)) (SetTable.runEnd m (SetTable.bits h % (m+1))-SetTable.bits h % (m+1)) (SetTable.bits h % (m+1)) (SetTable.bits h) 0=G
 lay:∀m,jW m->qe m (m+15) (SetTable.bits h % (m+1)) (SetTable.bits h) 0=G
def iY(es:Array (Int×Δ))(i:Nat):Int:=(Option.map (λx:Int×Δ=>x.fst) es[i]?).getD 0
structure mL (t:ψ) (es:Array (Int×Δ)):Prop where
 size:t.place.size=es.size
 up:Up t.place.toList
 le:∀j∈t.place.toList,j<=t.mask
 dm:t.dummies=#[]
 mask:(t.mask=7/\es.size<=4)\/(t.mask=31/\es.size<=18)\/(t.mask=127/\es.size<=76)
 reach:∀q∈t.place.toList.zip es.toList,Reach t.mask (·∈t.place.toList) q.2.1 q.1
theorem mL.ok(I:mL t es):tW t.mask:=by
 have:=I.mask;unfold tW;omega
theorem mL.fits(h:mL t es):t.fits es.size=G:=by
 have:=h.mask;simp only[SetTable.fits,SetTable.fill,h.size,h.dm,T5,beq_self_eq_true,true_and,decide_eq_true_eq];simp;omega
theorem akI{l:List Nat}{r:List (Int×Δ)}{i j:Nat}{e:Int×Δ}(h1:l[i]? = O j)(h2:r[i]? = O e):(j,e)∈l.zip r:=by
 have:(l.zip r)[i]? = O (j,e):=by rw[ZF];exact⟨h1,h2⟩
 exact UD this
theorem ak7(h:Up l){i k j:Nat}(h1:l[i]? = O j)(h2:l[k]? = O j):i=k:=by
 obtain⟨a1,b1⟩:=U3.mp h1;obtain⟨a2,b2⟩:=U3.mp h2
 rcases XH i k with q|q|q
 ·have:=Vt.mp h i k a1 a2 q;omega
 ·exact q
 ·have:=Vt.mp h k i a2 a1 q;omega
theorem afT(I:mL t es)(he:e∈es.toList):∃j i next e',t.probe (iY es) e.1 (t.probeStart e.1)=O (.candidate j i next)/\es[i]? = O e'/\e'.1=e.1:=by
 obtain⟨i0,hi0,apL⟩:=Vs he;have e1:es.toList[i0]? = O e:=by rw[I8 hi0,apL]
 have hsz:t.place.toList.length=es.toList.length:=by simp[I.size]
 obtain⟨j0,hj0⟩:∃j0,t.place.toList[i0]? = O j0:=⟨_,I8 ∅⟩
 obtain⟨n0,hn0,ha0,hl0⟩:=I.reach (j0,e) (akI hj0 e1);have hm0:j0∈t.place.toList:=UD hj0;have hA:∀i e',es[i]? = O e'->iY es i=e'.1:=λi e' q=>by unfold iY;rw[q];rfl
 have amM:∃i,t.slot (iI t.mask e.1 n0)=.live i/\iY es i=e.1:=by
  rw[ha0];obtain⟨i,s1,s2⟩:=E7 I.up hm0;rw[<-UQ]at s2;have:=ak7 I.up s2 hj0;subst this;exact⟨i,s1,hA i e (by rw[<-UQ];exact e1)⟩
 obtain⟨n,hn,⟨i,s1,s2⟩,hmin⟩:=least (P:=λn=>∃i,t.slot (iI t.mask e.1 n)=.live i/\iY es i=e.1) n0 amM
 have hlive:∀k,k<n->∃i,t.slot (fR t.mask k (iO t.mask e.1)).j=.live i/\(iY es i==e.1)=ξ:=λk hk=>by
  obtain⟨i',q1,_⟩:=E7 I.up (hl0 k ∅)
  refine⟨i',q1,?_⟩;cases hb:iY es i'==e.1 with
  |false=>rfl
  |true=>exact absurd ⟨i',q1,eq_of_beq hb⟩ (hmin k hk)
 have G3:=Hv (t:=t) (hashAt:=iY es) (h:=e.1) n (10*SetTable.turns t.mask) (iO t.mask e.1) (by unfold SetTable.turns;omega) hlive
 have hf:∃f,10*SetTable.turns t.mask-n=f+1:=⟨10*SetTable.turns t.mask-n-1,by unfold SetTable.turns;omega⟩
 obtain⟨f,hf⟩:=hf;have hi:∃e',es[i]? = O e'/\e'.1=e.1:=by
  have hpl:∃j,t.place[i]? = O j:=by
   unfold SetTable.slot at s1;dsimp only at s1;split at s1
   ·rename_i q;cases s1;exact⟨_,eq_of_beq q⟩
   ·split at s1<;>cases s1
  obtain⟨j,hj⟩:=hpl;rw[<-UQ]at hj;have hlt:=(U3.mp hj).1;have rQ:i<es.toList.length:=∅
  refine⟨es.toList[i],by rw[<-UQ,I8 rQ],?_⟩
  rw[<-s2,hA i es.toList[i] (by rw[<-UQ,I8 rQ])]
 obtain⟨e',h1,h2⟩:=hi;refine⟨iI t.mask e.1 n,i,t.advance (fR t.mask n (iO t.mask e.1)),e',?_,h1,h2⟩;show SetTable.probe.go t (iY es) e.1 (10*SetTable.turns t.mask) (iO t.mask e.1)=_;rw[G3,hf];unfold SetTable.probe.go;have s1:t.slot (fR t.mask n (iO t.mask e.1)).j=.live i:=s1;rw[s1];dsimp only;rw[s2];simp;rfl
theorem ah5{p:Pb}(h:p.j+p.more<=m):(gK m p).j+(gK m p).more<=m:=by
 unfold gK;split
 ·dsimp only;omega
 ·dsimp only;have:(p.i*5+1+p.perturb/32) % _<m+1:=V7 _ ∅
  unfold SetTable.runEnd;split<;>omega
theorem Qq:∀(n:Nat) {p:Pb},p.j+p.more<=m->(fR m n p).j+(fR m n p).more<=m
 |0,_,h=>h
 |n+1,_,h=>Qq n (ah5 h)
theorem amL(m:Nat)(h:Int):(iO m h).j+(iO m h).more<=m:=by
 have:SetTable.bits h % (m+1)<m+1:=V7 _ ∅
 unfold iO oZ;dsimp only
 generalize SetTable.bits h % (m+1)=i at this
 unfold SetTable.runEnd;split<;>omega
theorem Te(m:Nat)(h:Int)(n:Nat):iI m h n<=m:=by
 have:=Qq n (amL m h);unfold iI;omega
theorem afU(I:mL t es)(hc:qu h)(hno:∀e∈es.toList,e.1≠h):
  ∃j,t.probe (iY es) h (t.probeStart h)=O (.empty j Z)/\j∉t.place.toList/\j<=t.mask/\Reach t.mask (·∈t.place.toList) h j:=by
 have hsz:t.place.toList.length=es.toList.length:=by simp[I.size]
 have hM:=I.mask;have hes:es.toList.length=es.size:=by simp
 have hex:∃j,j<=t.mask/\j∉t.place.toList:=Vr λq=>by
  have:=FT (t.mask+1) t.place.toList λj hj=>Vr λx=>q ⟨j,∅,x⟩
  omega
 obtain⟨js,hjs,hjn⟩:=hex;obtain⟨k0,hk0,ek0⟩:=HY (10*(t.mask+15)) (iO t.mask h) 0 (hc.go t.mask I.ok) js hjs (by simp)
 obtain⟨n,hn,hs,hmin⟩:=least (P:=λn=>iI t.mask h n∉t.place.toList) k0 (by show(fR t.mask k0 (iO t.mask h)).j∉_;rw[ek0];exact hjn)
 have hin:∀k,k<n->iI t.mask h k∈t.place.toList:=λk hk=>Vr λx=>hmin k hk x
 have hA:∀i e',es[i]? = O e'->iY es i=e'.1:=λi e' q=>by unfold iY;rw[q];rfl
 have hlive:∀k,k<n->∃i,t.slot (fR t.mask k (iO t.mask h)).j=.live i/\(iY es i==h)=ξ:=λk hk=>by
  obtain⟨i,q1,q2⟩:=E7 I.up (hin k hk);refine⟨i,q1,?_⟩;rw[<-UQ]at q2;have hlt:=(U3.mp q2).1;have rQ:i<es.toList.length:=∅
  have hq:es[i]? = O es.toList[i]:=by rw[<-UQ,I8 rQ]
  rw[hA i _ hq];exact beq_false_of_ne (hno _ (U6 rQ))
 have G3:=Hv (t:=t) (hashAt:=iY es) (h:=h) n (10*SetTable.turns t.mask) (iO t.mask h) (by unfold SetTable.turns;omega) hlive
 obtain⟨f,hf⟩:∃f,10*SetTable.turns t.mask-n=f+1:=⟨10*SetTable.turns t.mask-n-1,by unfold SetTable.turns;omega⟩
 refine⟨iI t.mask h n,?_,hs,?_,n,∅,rfl,hin⟩
 ·show SetTable.probe.go t (iY es) h (10*SetTable.turns t.mask) (iO t.mask h)=_;rw[G3,hf];unfold SetTable.probe.go;have s1:t.slot (fR t.mask n (iO t.mask h)).j=.empty:=amz I.dm hs;rw[s1];dsimp only;rw[Qs];rfl
 ·exact Te _ h n
theorem akG{l:Array Nat}{r:Array (Int×Δ)}(hs:l.size=r.size):∀q∈(SetTable.insertAt l p j).toList.zip (SetTable.insertAt r p e).toList,q=(j,e)\/q∈l.toList.zip r.toList:=by
 intro q hq;rw[XG,XG]at hq;have hl:(l.toList.take p).length=(r.toList.take p).length:=by simp[hs]
 rw[Zz hl,Vo,US,AP]at hq;have hz:l.toList.zip r.toList=(l.toList.take p).zip (r.toList.take p)++(l.toList.drop p).zip (r.toList.drop p):=by
  rw[<-Zz hl,Vq,Vq]
 rw[hz,US]
 rcases hq with q|q|q
 ·exact .inr (.inl q)
 ·exact .inl q
 ·exact .inr (.inr q)
theorem aok(I:mL t es)(hj:j∉t.place.toList)(hle:j<=t.mask)(hr:Reach t.mask (·∈t.place.toList) h j):
  (SetTable.insertAt es (SetTable.below t.place j) (h,x)).size=es.size+1/\(t.put j).1.place.size=es.size+1/\Up (t.put j).1.place.toList/\(∀k∈(t.put j).1.place.toList,k<=t.mask)/\(t.put j).1.dummies=#[] /\
   (∀q∈(t.put j).1.place.toList.zip (SetTable.insertAt es (SetTable.below t.place j) (h,x)).toList,Reach t.mask (·∈(t.put j).1.place.toList) q.2.1 q.1):=by
 have hsz:=I.size;have hnd:(if SetTable.has t.dummies j then SetTable.eraseAt t.dummies (SetTable.below t.dummies j)else t.dummies)=#[]:=by
  rw[I.dm];rfl
 have hmem:∀k,k∈(SetTable.insertAt t.place (SetTable.below t.place j) j).toList↔k∈t.place.toList\/k=j:=λk=>by
  rw[(WR t.place (SetTable.below t.place j) j).mem_iff,Xw,US,UT]
 refine⟨?_,?_,K2 I.up hj,λk hk=>?_,hnd,λq hq=>?_⟩
 ·rw[<-U8,(WR ..).length_eq];simp
 ·show(SetTable.insertAt t.place (SetTable.below t.place j) j).size=_;rw[<-U8,(WR ..).length_eq];simp[hsz]
 ·rcases(hmem k).mp hk with q|rfl
  ·exact I.le k q
  ·exact hle
 ·rcases akG hsz q hq with rfl|q'
  ·exact hr.mono λk hk=>(hmem k).mpr (.inl hk)
  ·exact(I.reach q q').mono λk hk=>(hmem k).mpr (.inl hk)
theorem wm(m:Nat):∀(k:Nat) (p:Pb),k<=p.more->fR m k p={p with j:=p.j+k,more:=p.more-k}
 |0,p,_=>rfl
 |k+1,p,h=>by
  have ha:gK m p={p with j:=p.j+1,more:=p.more-1}:=by unfold gK;rw[if_pos ∅]
  show fR m k (gK m p)=_;rw[ha,wm m k _ (by dsimp only;omega)]
  dsimp only
  congr 1<;>omega
theorem P6(m i q:Nat):fR m (SetTable.runEnd m i-i+1) (oZ m i q)=oZ m ((i*5+1+q/32) % (m+1)) (q/32):=by
 rw[A8 m _ 1,wm m (SetTable.runEnd m i-i) (oZ m i q) (dD _)];show gK m _=_;unfold gK oZ;dsimp only;rw[if_neg ∅]
theorem am2(m i:Nat):SetTable.runEnd m i-i<=9:=by unfold SetTable.runEnd;split<;>omega
theorem am0(m i:Nat):i<=SetTable.runEnd m i:=by unfold SetTable.runEnd;split<;>omega
theorem RI{mask:Nat}{owner:Array (Option Nat)}:∀(fuel i q j:Nat),SetTable.layClean.free mask owner fuel i q=O j ->
  ∃n,n<10*fuel/\(fR mask n (oZ mask i q)).j=j/\∀k,k<n->owner.getD (fR mask k (oZ mask i q)).j (O 0)≠Z
 |0,i,q,j,h=>by cases h
 |fuel+1,i,q,j,h=>by
  have h9:=am2 mask i;have hg:=am0 mask i;unfold SetTable.layClean.free at h;cases hr:(θ (SetTable.runEnd mask i+1-i)).find? (λk=>(owner.getD (i+k) (O 0)).isNone)with
  |some k =>
   rw[hr]at h;dsimp only at h;cases h;have hk:=gq.mp (Zy hr);refine⟨k,∅,?_,λk' hk'=>?_⟩
   ·rw[wm mask k _ (by show k<=SetTable.runEnd mask i-i;omega)]
    rfl
   ·rw[wm mask k' _ (by show k'<=SetTable.runEnd mask i-i;omega)]
    show owner.getD (i+k') (O 0)≠Z;intro e;have hb:=List.find?_eq_some_iff_getElem.mp hr;obtain⟨_,n,hn,en,aeV⟩:=hb;have en':n=k:=by simpa using en
    have:=aeV k' ∅
    simp[e]at this
  |none =>
   rw[hr]at h;dsimp only at h;have h:SetTable.layClean.free mask owner fuel ((i*5+1+q/32) % (mask+1)) (q/32)=O j:=h;obtain⟨n,hn,ej,hl⟩:=RI fuel _ _ j h;have hno:=Wl.mp hr;refine⟨SetTable.runEnd mask i-i+1+n,∅,?_,λk hk=>?_⟩
   ·rw[A8,P6];exact ej
   ·by_cases hk2:k<=SetTable.runEnd mask i-i
    ·rw[wm mask k _ hk2];show owner.getD (i+k) (O 0)≠Z;intro e;have:=hno k (gq.mpr ∅)
     simp[e]at this
    ·rw[show k=SetTable.runEnd mask i-i+1+(k-(SetTable.runEnd mask i-i+1)) by omega,A8,P6]
     exact hl _ ∅
structure zb (mask:Nat) (owner:Array (Option Nat)) (hs:List Int) (k:Nat):Prop where
 lay:sL mask owner k
 way:∀j i,owner.toList.getD j Z=O i->∃h,hs[i]? = O h/\Reach mask (λs=>owner.getD s (O 0)≠Z) h j
theorem aar{mask:Nat}{owner:Array (Option Nat)}(I:sL mask owner k)(h:s<=mask):(owner.getD s (O 0)≠Z)↔(owner.toList.getD s Z≠Z):=by
 have h1:=I.1;rw[j7];have hs:s<owner.toList.length:=∅
 rw[T7,T7,I8 hs];rfl
theorem ac4{mask:Nat}{owner:Array (Option Nat)}{hs:List Int}(hm:jW mask)(hc:qu h)(I:zb mask owner hs k)(hk:k<=mask)(hh:hs[k]? = O h):
  ∃j,SetTable.layClean.free mask owner (SetTable.turns mask) (SetTable.bits h % (mask+1)) (SetTable.bits h)=O j/\zb mask (owner.setIfInBounds j (O k)) hs (k+1):=by
 obtain⟨h1,h2⟩:=I.lay;have hex:∃j,j<=mask/\owner.getD j (O 0)=Z:=by
  by_cases q:∃j,j<=mask/\owner.getD j (O 0)=Z
  ·exact q
  ·have:=HK owner.toList λj hj e=>q ⟨j,∅,by rw[j7];exact e⟩
   have h3:=h2.length_eq;rw[Ul]at h3;omega
 obtain⟨j,e,e1⟩:=GP (mask+15) _ _ 0 (SetTable.turns mask) (hc.lay mask hm) (dD _) (λk _ hb=>by simp at hb) hex
 obtain⟨n,hn,ej,hl⟩:=RI _ _ _ _ e;rw[j7]at e1;have hj:j<owner.toList.length:=by
  rcases Y0 j owner.toList.length with q|q
  ·exact q
  ·rw[T7,VR q]at e1;cases e1
 have grow:∀s,owner.getD s (O 0)≠Z->(owner.setIfInBounds j (O k)).getD s (O 0)≠Z:=λs hs=>by
  rw[j7,Xz,T7,Zx];split
  ·first|(split<;>simp)|simp
  ·rw[j7,T7]at hs;exact hs
 refine⟨j,e,⟨⟨by simpa using h1,?_⟩,λs i hs=>?_⟩⟩
 ·rw[Xz];refine(HJ _ j k hj e1).trans ?_;rw[VQ];exact(h2.cons k).trans (Xy k _).symm
 ·rw[Xz,T7,Zx]at hs
  by_cases q:j=s
  ·subst q;rw[if_pos rfl,if_pos hj]at hs;have:k=i:=by simpa using hs
   subst this;exact⟨h,hh,n,by unfold SetTable.turns at hn;exact hn,ej,λk' hk'=>grow _ (hl k' hk')⟩
  ·rw[if_neg q]at hs;obtain⟨h',q1,q2⟩:=I.way s i (by rw[T7];exact hs)
   exact⟨h',q1,q2.mono grow⟩
theorem P8{mask:Nat}(hm:jW mask)(all:List Int):∀(hs:List Int) (owner:Array (Option Nat)) (k:Nat),(∀h∈hs,qu h)->zb mask owner all k->k+hs.length<=mask->(∀i,hs[i]? = all[k+i]?\/hs.length<=i) ->
  ∃ow,hs.foldl (λacc h=>(do
   let(owner,k) <-acc
   let j <-SetTable.layClean.free mask owner (SetTable.turns mask) (SetTable.bits h % (mask+1)) (SetTable.bits h)
   pure (owner.setIfInBounds j (O k),k+1):Option (Array (Option Nat)×Nat))) (O (owner,k))=O (ow,k+hs.length)/\zb mask ow all (k+hs.length)
 |[],owner,k,_,I,_,_=>⟨owner,rfl,I⟩
 |h::hs,owner,k,hh,I,hl,hat=>by
  simp only[U0]at hl;have h0:all[k]? = O h:=by
   rcases hat 0 with q|q
   ·rw[Vu]at q;rw[<-q];rfl
   ·simp at q
  obtain⟨j,e,I'⟩:=ac4 hm (hh h (.head _)) I ∅ h0
  obtain⟨ow,e',ze⟩:=P8 hm all hs _ (k+1) (λh x=>hh h (.tail _ x)) I' ∅ λi=>by
   rcases hat (i+1)with q|q
   ·left;rw[show k+1+i=k+(i+1) by omega,<-q];rfl
   ·right;simpa using q
  refine⟨ow,?_,by rw[U0,show k+(hs.length+1)=k+1+hs.length by omega];exact ze⟩
  rw[Vj,U0,show k+(hs.length+1)=k+1+hs.length by omega,<-e']
  congr 1
  show(do let j <-SetTable.layClean.free mask owner (SetTable.turns mask) (SetTable.bits h % (mask+1)) (SetTable.bits h);pure (owner.setIfInBounds j (O k),k+1):Option (Array (Option Nat)×Nat))=_
  rw[e];rfl
theorem ac5{mask:Nat}(hm:jW mask)(hs:Array Int)(hh:∀h∈hs.toList,qu h)(hl:hs.toList.length<=mask) :
  ∃ow,SetTable.layClean mask hs=O ow/\zb mask ow hs.toList hs.toList.length:=by
 obtain⟨ow,e,I⟩:=P8 hm hs.toList hs.toList (Array.replicate (mask+1) Z) 0 hh ⟨⟨by simp,by simp⟩,λj i h=>by
  rw[Array.toList_replicate,T7,o9]at h;split at h<;>cases h⟩ ∅ λi=>.inl (by rw[UM])
 rw[UM]at e I;refine⟨ow,?_,I⟩;unfold SetTable.layClean;rw[<-ZR];exact congrArg (Option.map (λx:Array (Option Nat)×Nat=>x.1)) e
theorem aoT{t:ψ}{es:Array (Int×Δ)}(hh:∀e∈es.toList,qu e.1)(hm:es.size=5\/es.size=19) :
  ∃t2 order,t.relaid (es.map (·.1)) (SetTable.grown es.size)=O (t2,order)/\(order.filterMap (es[·]?)).size=es.size/\mL t2 (order.filterMap (es[·]?))/\t2.led=t.led/\(order.filterMap (es[·]?)).toList.Perm es.toList:=by
 have hw:∃m,SetTable.sizeAbove (SetTable.grown es.size)-1=m/\((m=31/\es.size=5)\/(m=127/\es.size=19)):=by
  rcases hm with e|e
  ·rw[e];exact⟨31,⋯,.inl ⟨rfl,rfl⟩⟩
  ·rw[e];exact⟨127,⋯,.inr ⟨rfl,rfl⟩⟩
 obtain⟨m,ew,hq⟩:=hw;have hs:(es.map (·.1)).toList=es.toList.map (·.1):=by simp
 have hok:jW m:=by unfold jW;omega
 have Hh:∀h∈(es.map (·.1)).toList,qu h:=λh hx=>by
  rw[hs,H8]at hx;obtain⟨y,hy,rfl⟩:=hx;exact hh y hy
 have rR:(es.map (·.1)).toList.length<=m:=by rw[hs,T6,U8];omega
 obtain⟨ow,e,⟨h1,h2⟩,ad7⟩:=ac5 hok (es.map (·.1)) Hh rR;rw[hs,T6,U8]at h2
 let live:List (Nat×Nat):=(θ (m+1)).filterMap λj=>(ow.getD j Z).map (j,·)
 have hlive:∀q:Nat×Nat,q∈live↔q.1<=m/\ow.toList.getD q.1 Z=O q.2:=λq=>by
  simp only[live,Ww,gq]
  constructor
  ·rintro ⟨c,hc,e⟩
   cases ha:ow.getD c Z<;>rw[ha]at e<;>simp at e
   subst e;exact⟨by show c<=m;omega,by rw[<-j7];exact ha⟩
  ·rintro ⟨h1,h2⟩
   exact⟨q.1,∅,by rw[j7,h2];rfl⟩
 have hord:(live.map (·.2)).Perm (θ es.size):=by
  have:live.map (·.2)=ow.toList.filterMap id:=by
   simp only[live];rw[<-FI,h1,YK]
   congr 1
   funext j
   rw[j7];cases ow.toList.getD j Z<;>rfl
  rw[this];exact h2
 have hup:Up (live.map (·.1)):=by
  show List.Pairwise _ _;rw[WS];refine ZQ _ (λa a' hlt b hb b' hb'=>?_) Xx
  cases ha:ow.getD a Z<;>rw[ha]at hb<;>simp at hb
  cases ha':ow.getD a' Z<;>rw[ha']at hb'<;>simp at hb'
  rw[<-hb,<-hb'];exact hlt
 have hlen:live.length=es.size:=by
  have:=hord.length_eq
  simpa using this
 have hes:(((live.map (·.2)).toArray).filterMap (es[·]?)).toList.Perm es.toList:=by
  rw[YJ];exact(hord.filterMap _).trans (by rw[ZP])
 have x8:(((live.map (·.2)).toArray).filterMap (es[·]?)).size=es.size:=by
  rw[<-U8,hes.length_eq,U8]
 have hlt:∀q∈live,q.2<es.size:=λq hq=>gq.mp (hord.mem_iff.mp (H8.mpr ⟨q,hq,rfl⟩))
 have hfm:∀(l:List (Nat×Nat)),(∀q∈l,q.2<es.size)->(l.map (·.2)).filterMap (es[·]?)=l.map λq=>es.toList.getD q.2 (0,.none):=by
  intro l
  induction l with
  |nil=>intro _;rfl
  |cons q l ih =>
   intro hq;have hq0:q.2<es.size:=hq q (.head _);rw[T8,Xg,T8,ih λy hy=>hq y (.tail _ hy)]
   have:es[q.2]? = O (es.toList.getD q.2 (0,.none)):=by
    rw[<-UQ,T7,I8 (by simpa using hq0)]
    rfl
   rw[this]
 refine⟨{mask:=m,place:=(live.map (·.1)).toArray,dummies:=#[],finger:=t.finger,led:=t.led,moves:=t.movedTo m,plain:=t.plain},(live.map (·.2)).toArray,?_,x8,⟨?_,?_,?_,rfl,?_,?_⟩,rfl,hes⟩
 ·unfold SetTable.relaid SetTable.laid;rw[ew,e];rfl
 ·show((live.map (·.1)).toArray).size=_;rw[x8,U1,T6,hlen]
 ·exact hup
 ·intro j hj;have hj:j∈live.map (·.1):=hj;obtain⟨q,hq,rfl⟩:=H8.mp hj;exact((hlive q).mp hq).1
 ·rw[x8];exact .inr (by show(m=31/\_)\/(m=127/\_);omega)
 ·intro q hq;have hq:q∈(live.map (·.1)).zip (((live.map (·.2)).toArray).filterMap (es[·]?)).toList:=hq;rw[YJ]at hq;have hq:q∈(live.map (·.1)).zip ((live.map (·.2)).filterMap (es[·]?)):=hq;rw[hfm live hlt,List.zip_map',H8]at hq;obtain⟨⟨j,i⟩,hji,rfl⟩:=hq;obtain⟨Bk,hjo⟩:=(hlive (j,i)).mp hji;obtain⟨h,hi,hr⟩:=ad7 j i hjo;have hil:=hlt (j,i) hji;have:h=(es.toList.getD i (0,.none)).1:=by
   rw[hs,U7,I8 (by simpa using hil)]at hi
   rw[T7,I8 (by simpa using hil)]
   simpa using hi.symm
  subst this;obtain⟨n,hn,ej,hl⟩:=hr;refine⟨n,hn,ej,λk hk=>?_⟩
  have hle:=Te m (es.toList.getD i (0,.none)).1 k;have:=(aar (k:=es.size) ⟨h1,h2⟩ hle).mp (hl k hk);show iI m _ k∈live.map (·.1);cases ho:ow.toList.getD (iI m (es.toList.getD i (0,.none)).1 k) Z with
  |none=>exact absurd ho this
  |some i'=>exact H8.mpr ⟨(_,i'),(hlive (_,i')).mpr ⟨hle,ho⟩,rfl⟩
def hT(ks:List Int):Int:=reduceHash (Builtin.Tuple.tupleHashOf (ks.map hashInt))
def fM(ks:List Int):Prop:=∃i j:Nat,i<8/\j<8/\ks=[(i:Int),(j:Int)]
def hP(n:Nat):Int:=hT [((n/8:Nat):Int),((n % 8:Nat):Int)]
def OE(h:Int):Bool:=([7,31,127].all λm=>gV m (10*(m+15)) (SetTable.bits h % (m+1)) (SetTable.runEnd m (SetTable.bits h % (m+1))-SetTable.bits h % (m+1)) (SetTable.bits h % (m+1)) (SetTable.bits h) 0) && [31,127].all λm=>qe m (m+15) (SetTable.bits h % (m+1)) (SetTable.bits h) 0
theorem ahS:((θ 64).all λn=>OE (hP n))=G:=by decide +kernel
def eqZ(a b:Int):Bool:=match a,b with
 |.ofNat x,.ofNat y=>Nat.beq x y
 |.negSucc x,.negSucc y=>Nat.beq x y
 |_,_=>ξ
def AH(l:List Int):Bool:=match l with
 |[]=>G
 |x::r=>r.all (λy=>!eqZ x y)&&AH r
theorem R5(a:Int):eqZ a a=G:=by cases a<;>exact Nat.beq_refl _
theorem ahU:AH ((θ 64).map hP)=G:=by decide +kernel
theorem Pc:∀{l:List Int},AH l=G->∀{i k:Nat}{x:Int},l[i]? = O x->l[k]? = O x->i=k
 |[],_,i,k,x,h,_=>by simp at h
 |y::r,h,i,k,x,h1,h2=>by
  unfold AH at h;rw[T5,Iv]at h;cases i with
  |zero =>
   cases k with
   |zero=>rfl
   |succ k =>
    have e:y=x:=by simpa using h1
    have:=h.1 x (UD (by simpa using h2))
    rw[e,R5]at this;cases this
  |succ i =>
   cases k with
   |zero =>
    have e:y=x:=by simpa using h2
    have:=h.1 x (UD (by simpa using h1))
    rw[e,R5]at this;cases this
   |succ k=>rw[Pc h.2 (i:=i) (k:=k) (by simpa using h1) (by simpa using h2)]
theorem fM.num(h:fM ks):∃n,n<64/\ks=[((n/8:Nat):Int),((n % 8:Nat):Int)]:=by
 obtain⟨i,j,hi,hj,rfl⟩:=h;refine⟨8*i+j,∅,?_⟩
 rw[show(8*i+j)/8=i by omega,show(8*i+j) % 8=j by omega]
theorem fM.gV(h:fM ks):qu (hT ks):=by
 obtain⟨n,hn,rfl⟩:=h.num;have:=Iv.mp ahS n (gq.mpr hn);unfold OE at this;rw[T5,Iv,Iv]at this;refine⟨λm hm=>this.1 m ?_,λm hm=>this.2 m ?_⟩
 ·rcases hm with rfl|rfl|rfl<;>decide
 ·rcases hm with rfl|rfl<;>decide
theorem fM.inj(ha:fM a)(hb:fM b)(h:hT a=hT b):a=b:=by
 obtain⟨n,hn,rfl⟩:=ha.num;obtain⟨k,hk,rfl⟩:=hb.num;have h1:((θ 64).map hP)[n]? = O (hP n):=by rw[U7,VC hn];rfl
 have h2:((θ 64).map hP)[k]? = O (hP n):=by
  rw[U7,VC hk];exact congrArg O h.symm
 rw[Pc ahU h1 h2]
section
variable {prog:π}{w:υ}{A:ω}{E:Δ->Ψ->Prop}{s:Ψ}
theorem Le(hu:fM ks)(hx:UN (intKind prog w) h ks x):∃o a b n,h.get? x=O o/\o.cls=.type "tuple"/\o.data=.seq #[a,b] n/\(∃i t,a=.int i t)/\∃i t,b=.int i t:=by
 obtain⟨i,j,_,_,rfl⟩:=hu;obtain⟨o,items,n,h1,h2,h3,h4⟩:=hx;cases hi:items.toList with
 |nil=>rw[hi]at h4;cases h4
 |cons a r =>
  rw[hi]at h4;cases h4 with
  |cons q1 q2 =>
   cases r with
   |nil=>cases q2
   |cons b r2 =>
    cases q2 with
    |cons q3 q4 =>
     cases q4;refine⟨o,a,b,n,h1,h2,?_,?_,?_⟩
     ·rw[h3];congr 1;apply Array.toList_inj.mp;rw[hi]
     ·obtain⟨t,e⟩:=Wx q1;exact⟨_,t,e⟩
     ·obtain⟨t,e⟩:=Wx q3;exact⟨_,t,e⟩
theorem ahv{Q:Bool->Ψ->Prop}(hu:fM ks)(hx:UN (intKind prog w) s.heap ks x)(h:∀b,Q b s):wpAny (model prog w) A (hashByValue 8 (.ref x)) Q E s:=by
 obtain⟨o,a,b,n,h1,h2,h3,⟨i,t,rfl⟩,j,u,rfl⟩:=Le hu hx;rw[hashByValue.eq_12];refine bf (wpAny_specialOf (T:="tuple") ⟨o,h1,h2⟩ F.slot_tuple_hash.lookup ?_);dsimp only;refine bf (VE h1 h3 ?_);dsimp only[Option.getD];refine bf ?_;rw[<-Zw];simp only[Wr,ZC];simp only[YH 7 (x:=.int i t) rfl,YH 7 (x:=.int j u) rfl,plainKind];refine bf (bf (bg ?_));refine bg ?_;refine bf (bf (bg ?_));refine bg ?_;exact bg (bg (h _))
theorem O6{Q:Bool->Ψ->Prop}(hu:fM ks)(hx:UN (intKind prog w) s.heap ks x)(h:Q ξ s):wpAny (model prog w) A (ofAClassStatement 8 (.ref x)) Q E s:=by
 obtain⟨o,a,b,n,h1,h2,h3,⟨i,t,rfl⟩,j,u,rfl⟩:=Le hu hx;rw[ofAClassStatement.eq_def];dsimp only;refine bf (wpAny_typeOf_ref h1 ?_);rw[h2];dsimp only;simp only[beq_self_eq_true,if_true];refine bf (bg ?_);simp only[WQ,Ug,if_false];refine bf (VE h1 h3 ?_);dsimp only;refine bf ?_;rw[<-Zw];simp only[Wr,ZC];have e1:ofAClassStatement 7 (.int i t)=pure ξ:=by rw[ofAClassStatement.eq_def]
 have e2:ofAClassStatement 7 (.int j u)=pure ξ:=by rw[ofAClassStatement.eq_def]
 rw[e1];refine bf (bf (bg ?_));refine bg ?_;dsimp only;rw[e2];refine bf (bf (bg ?_));refine bg ?_;exact bg (bg h)
theorem ab2{Q:Bool->Ψ->Prop}(hu:fM ks)(hx:UN (intKind prog w) s.heap ks x)(l:List Δ)(hl:∀v∈l,∃k y,v=.ref y/\fM k/\UN (intKind prog w) s.heap k y)(h:Q ξ s):wpAny (model prog w) A (searchCouldBeSeen (.ref x) l) Q E s:=by
 unfold searchCouldBeSeen;refine bf ?_;have go:∀(l:List Δ),(∀v∈l,∃k y,v=.ref y/\fM k/\UN (intKind prog w) s.heap k y)->∀{R:Option Bool×Unit->Ψ->Prop},R (Z,()) s->wpAny (model prog w) A (forIn l (Z,()) λy __s =>
    have __r:=__s;
    have ak1 :=
     match(Value.ref x),y with
     |Value.ref a,Value.ref b=>a==b
     |x,x_1=>ξ;
    if(ak1||carriedByValue (.ref x)&&carriedByValue y)=G then pure (ForInStep.yield (Z,()))
    else do
     let __do_lift <-eqIsQuiet 8 (.ref x)
     if(!__do_lift)=G then pure (ForInStep.done (O G,()))
      else do
       let __do_lift <-eqIsQuiet 8 y
       if(!__do_lift)=G then pure (ForInStep.done (O G,()))
        else do
         let __do_lift <-ofAClassStatement 8 (.ref x)
         if __do_lift=G then pure (ForInStep.done (O G,()))
          else do
           let __do_lift <-ofAClassStatement 8 y
           if __do_lift=G then pure (ForInStep.done (O G,()))
            else pure (ForInStep.yield (Z,()))) R E s:=by
  intro l
  induction l with
  |nil=>intro _ R hR;exact bg hR
  |cons v l ih =>
   intro hl R hR;obtain⟨k,y,rfl,apB,hy⟩:=hl _ (.head _);have ih:=ih (λv hv=>hl v (.tail _ hv)) (R:=R)
   rw[Wr];refine bf ?_;dsimp only
   by_cases q:(x==y||carriedByValue (.ref x)&&carriedByValue (.ref y))=G
   ·rw[if_pos q];exact bg (ih hR)
   ·rw[if_neg q];refine bf ((tupleKind (intKind prog w)).quiet hx ?_);simp only[WQ,Ug,if_false];refine bf ((tupleKind (intKind prog w)).quiet hy ?_);simp only[WQ,Ug,if_false];refine bf (O6 hu hx ?_);simp only[Ug,if_false];refine bf (O6 apB hy ?_);simp only[Ug,if_false];exact bg (ih hR)
 exact go l hl (bg h)
end
def iN(ks:List (List Int))(k:List Int):List (List Int):=if k∈ks then ks else ks++[k]
abbrev uX(q:List Int×Ξ):Int×Δ:=(hT q.1,.ref q.2)
def lC(P:π)(w:υ)(Y:Ξ->Prop)(h:τ)(a:Ξ)(ks:List (List Int)):Prop:=∃o es ep t,∃L:List (List Int×Ξ),h.get? a=O o/\o.ExactSet/\o.data=.set es ep t/\mL t es/\es.toList=L.map uX/\(∀q∈L,fM q.1/\UN (intKind P w) h q.1 q.2)/\(L.map (·.1)).Perm ks/\∀q∈L,Y q.2
theorem aeC{α β:Type}{f:α->β}:∀{l:List β}{r:List α},l.Perm (r.map f)->∃l2:List α,l=l2.map f/\l2.Perm r:=by
 intro l r h
 generalize hm:r.map f=m at h
 induction h generalizing r with
 |nil =>
  cases r with
  |nil=>exact⟨[],rfl,.refl _⟩
  |cons a r=>cases hm
 |cons x _ ih =>
  cases r with
  |nil=>cases hm
  |cons a r =>
   injection hm with h1 h2
   obtain⟨l2,e,p⟩:=ih h2;exact⟨a::l2,by rw[T8,h1,e],p.cons a⟩
 |swap x y l =>
  cases r with
  |nil=>cases hm
  |cons a r =>
   cases r with
   |nil=>simp at hm
   |cons b r =>
    injection hm with h1 h2
    injection h2 with h3 h4
    exact⟨b::a::r,by simp only[T8];rw[h1,h3,h4],.swap a b r⟩
 |trans _ _ ih1 ih2 =>
  obtain⟨l2,e,p⟩:=ih2 hm;obtain⟨l3,e3,p3⟩:=ih1 e.symm;exact⟨l3,e3,p3.trans p⟩
section
variable {prog:π}{w:υ}{A:ω}{E:Δ->Ψ->Prop}{s:Ψ}
theorem Qf(hx:UN (intKind prog w) h k x)(ho:h.get? a=O o)(hd:o.data=.set es ep t)(sb:Vl a h h'):UN (intKind prog w) h' k x:=by
 obtain⟨o',items,n,h1,h2,h3,h4⟩:=hx;have hne:x≠a:=λe=>by
  subst e;rw[ho]at h1;cases h1;rw[hd]at h3;cases h3
 exact⟨o',items,n,by rw[sb.2 x hne];exact h1,h2,h3,h4⟩
theorem afj(I:mL t es):t.gaveWay=ξ:=by
 unfold SetTable.gaveWay
 rcases I.ok with e|e|e<;>rw[e]<;>rfl
theorem find_key{ks:List (List Int)}{es:Array (Int×Δ)}{L:List (List Int×Ξ)}{k:List Int}{i:Nat}{e:Int×Δ}(hL:es.toList=L.map uX)(hu:∀q∈L,fM q.1/\UN (intKind prog w) s.heap q.1 q.2)(hk:fM k)(h1:es[i]? = O e)(h2:e.1=hT k) :
  ∃y,e=(hT k,.ref y)/\UN (intKind prog w) s.heap k y/\k∈L.map (·.1):=by
 have:e∈L.map uX:=by rw[<-hL];exact UD (by rw[UQ];exact h1)
 obtain⟨q,hq,rfl⟩:=H8.mp this;have e1:=(hu q hq).1.inj hk h2;refine⟨q.2,?_,?_,?_⟩
 ·show(hT q.1,_)=_;rw[e1]
 ·rw[<-e1];exact(hu q hq).2
 ·rw[<-e1];exact H8.mpr ⟨q,hq,rfl⟩
theorem anJ{Y:Ξ->Prop}{Q:Bool->Ψ->Prop}(hr:A.units<Uj)(hk:fM k)(hx:UN (intKind prog w) s.heap k x)(hY:Y x)(hS:lC prog w Y s.heap a ks)(hn:ks.length<64)(h:∀b h',Vl a s.heap h'->lC prog w Y h' a (iN ks k)->Q b {s with heap:=h'}):wpAny (model prog w) A (setAddHashed a (.ref x) (hT k)) Q E s:=by
 have hS0:=hS;obtain⟨o,es,ep,t,L,ho,hex,hd,I,hL,hu,hp,QM⟩:=hS;have hsz:es.size=ks.length:=by
  have:=congrArg List.length hL;rw[T6,U8]at this;rw[this,<-hp.length_eq,T6]
 unfold setAddHashed setAddHashedIn;refine Ur (bf (V8 ho hd I.fits ?_));dsimp only;rw[show byScan (.ref x) es=ξ from rfl]
 simp only[Ug,if_false];refine bf ?_;unfold setSearch setSearchFrom;refine bf (V8 ho hd I.fits ?_);dsimp only;rw[afj I];simp only[Ug,if_false]
 by_cases hk2:k∈ks
 ·have hkL:k∈L.map (·.1):=hp.mem_iff.mpr hk2;obtain⟨q,hq,rfl⟩:=H8.mp hkL;have he:uX q∈es.toList:=by rw[hL];exact H8.mpr ⟨q,hq,rfl⟩
  obtain⟨j,i,next,e',pU,h1,h2⟩:=afT I he;obtain⟨y,rfl,hy,_⟩:=find_key (ks:=ks) hL hu hk h1 h2;have hst:iN ks q.1=ks:=by unfold iN;rw[if_pos hk2]
  rw[hst]at h;have fin:∀(ai9:Unit),Q ξ s:=λ_=>h ξ s.heap (Heap.SameBut.refl a s.heap) hS0
  split
  ·rename_i met heq;have hm:met=.candidate j i next:=by
    have:=heq.symm.trans pU;cases this;rfl
   subst hm;dsimp only;simp only[h1];have tail:∀{R:SetFound->Ψ->Prop}{F:Bool->(Array (Int×Δ)×Nat×ψ)->Sem SetFound},R (.there Z) s->wpAny (model prog w) A (do
     let equal <-holding [Value.ref y] (eqBool (.ref y) (.ref x))
     let z <-setState a
     if(G&&equal)=G then pure (SetFound.there Z)else F equal z) R E s:=fun{R F} hR=>by
    refine bf (Ur ((tupleKind (intKind prog w)).eqBool hr hy hx ?_));refine bf (V8 ho hd I.fits ?_);rw[if_pos (by simp)]
    exact bg hR
   cases hl:t.led with
   |false =>
    simp only[Wj,if_true];refine bf (ab2 hk hx _ (λv hv=>?_) ?_)
    ·obtain⟨e,he,rfl⟩:=H8.mp hv;have he:e∈es.toList:=by
      have:=Array.mem_filter.mp (Z7.mp he);exact Z7.mpr this.1
     rw[hL]at he;obtain⟨q',hq',rfl⟩:=H8.mp he;exact⟨q'.1,q'.2,rfl,hu q' hq'⟩
    ·simp only[Ug,if_false];exact tail (bg (fin ()))
   |true =>
    simp only[WQ,Ug,if_false];exact tail (bg (fin ()))
  ·rename_i hne;exact absurd pU (hne _)
 ·have hno:∀e∈es.toList,e.1≠hT k:=λe he z=>by
   rw[hL]at he;obtain⟨q,hq,rfl⟩:=H8.mp he;have:=(hu q hq).1.inj hk z;exact hk2 (hp.mem_iff.mp (H8.mpr ⟨q,hq,this⟩))
  obtain⟨j,pU,hj,Bk,hre⟩:=afU I hk.gV hno;have hst:iN ks k=ks++[k]:=by unfold iN;rw[if_neg hk2]
  rw[hst]at h;split
  ·rename_i met heq;have hm:met=.empty j Z:=by
    have:=heq.symm.trans pU;cases this;rfl
   subst hm;dsimp only;refine bg ?_;dsimp only;refine bf (V8 ho hd I.fits ?_);dsimp only;obtain⟨p1,p2,p3,p4,p5,p6⟩:=aok I (x:=.ref x) hj Bk hre;have EX:∀t1:ψ,t1.mask=t.mask->t1.place=(t.put j).1.place->t1.dummies=(t.put j).1.dummies->wpAny (model prog w) A (do
     storeSet a (SetTable.insertAt es (t.put j).snd (hT k,Value.ref x)) t1
     if(!false&&t1.tooFull)=G then do
      setRelay a (SetTable.grown (es.size+1))
      pure G
     else pure G) Q E s:=λt1 m1 m2 m3=>by
    have hsn:(t.put j).snd=SetTable.below t.place j:=rfl;rw[hsn]
    generalize aeL:SetTable.insertAt es (SetTable.below t.place j) (hT k,Value.ref x)=es1 at p1 p6
    rw[<-m2,<-m1]at p6;rw[<-m2]at p2 p3 p4;rw[<-m1]at p4;rw[<-m3]at p5;have uK:es1.toList=(L.take (SetTable.below t.place j)++(k,x)::L.drop (SetTable.below t.place j)).map uX:=by
     rw[<-aeL,XG,hL,Ve,T8,WO,Yq]
    have Hq:((L.take (SetTable.below t.place j)++(k,x)::L.drop (SetTable.below t.place j)).map (·.1)).Perm (ks++[k]):=by
     refine((Yy (a:=(k,x)) (l₁:=L.take (SetTable.below t.place j)) (l₂:=L.drop (SetTable.below t.place j))).map (·.1)).trans ?_;rw[Vq,T8];exact(hp.cons k).trans (Xy k ks).symm
    have hu1:∀q∈(L.take (SetTable.below t.place j)++(k,x)::L.drop (SetTable.below t.place j)),fM q.1/\UN (intKind prog w) s.heap q.1 q.2:=λq hq=>by
     rw[US,AP]at hq
     rcases hq with q1|rfl|q1
     ·exact hu q (UO q1)
     ·exact⟨hk,hx⟩
     ·exact hu q (Y4 q1)
    have Hj:∀q∈(L.take (SetTable.below t.place j)++(k,x)::L.drop (SetTable.below t.place j)),Y q.2:=λq hq=>by
     rw[US,AP]at hq
     rcases hq with q1|rfl|q1
     ·exact QM q (UO q1)
     ·exact hY
     ·exact QM q (Y4 q1)
    generalize L.take (SetTable.below t.place j)++(k,x)::L.drop (SetTable.below t.place j)=L1 at uK Hq hu1 Hj
    have hM:=I.mask;have hz0:(#[]:Array Nat).size=0:=rfl;have hfit:t1.fits es1.size=G:=by
     simp only[SetTable.fits,SetTable.fill,p2,p5,p1,hz0,m1,T5,beq_self_eq_true,true_and,decide_eq_true_eq];omega
    have sl:100<Ω:=⋯
    refine bf (Xv ho hd ?_ ∅)
    have pW:=z8 (es':=es1) (t':=t1) ho hd;have gU:=VT s.heap a (Obj.putSet es1 t1);have hk1:∀q∈L1,fM q.1/\UN (intKind prog w) (s.heap.update a (Obj.putSet es1 t1)) q.1 q.2:=λq hq=>⟨(hu1 q hq).1,Qf (hu1 q hq).2 ho hd gU⟩
    cases hf:t1.tooFull with
    |false =>
     simp only[Wj,ZH,Ug,if_false];have hf2:((t1.mask=7/\es1.size<=4)\/(t1.mask=31/\es1.size<=18)\/(t1.mask=127/\es1.size<=76)):=by
      simp only[SetTable.tooFull,SetTable.fill,p2,p5,hz0,m1,decide_eq_false_iff_not]at hf;rw[m1];omega
     exact bg (h G _ gU ⟨_,es1,ep+1,t1,L1,pW,hex,rfl,⟨by rw[p2,p1],p3,p4,p5,hf2,p6⟩,uK,hk1,Hq,Hj⟩)
    |true =>
     simp only[Wj,Xu,if_true];have hf2:es1.size=5\/es1.size=19:=by
      simp only[SetTable.tooFull,SetTable.fill,p2,p5,hz0,m1,decide_eq_true_eq]at hf;omega
     have Hh:∀e∈es1.toList,qu e.1:=λe he=>by
      rw[uK]at he;obtain⟨q,hq,rfl⟩:=H8.mp he;exact(hu1 q hq).1.gV
     obtain⟨t2,order,r1,r2,r3,r4,r5⟩:=aoT (t:=t1) Hh hf2
     generalize x8:order.filterMap (es1[·]?)=k7 at r2 r3 r5
     refine bf ?_;unfold setRelay;refine bf (V8 pW rfl hfit ?_);dsimp only;have hw:¬SetTable.sizeAbove (SetTable.grown (es.size+1))>Ω:=by
      rw[<-p1]
      rcases hf2 with e|e<;>rw[e]<;>decide
     rw[if_neg hw,<-p1,r1];refine bf (W9 (show _=pure (k7,t2)from ?_) ?_)
     ·show(if((order.filterMap (es1[·]?)).size != es1.size)=G then(do let _ <-unsupported "internal:set-table-lost-an-element";pure (order.filterMap (es1[·]?),t2))else pure (order.filterMap (es1[·]?),t2))=_
      rw[x8,r2];simp
     ·dsimp only;refine Xv pW rfl ?_ ∅
      have aed:=VT (s.heap.update a (Obj.putSet es1 t1)) a (Obj.putSet k7 t2);have QU:=gU.trans aed;have ho2:=z8 (es':=k7) (t':=t2) pW rfl;obtain⟨L2,uJ,Hr⟩:∃L2:List (List Int×Ξ),k7.toList=L2.map uX/\L2.Perm L1:=by
       rw[uK]at r5;exact aeC r5
      refine bg (h G _ QU ⟨_,k7,ep+1+1,t2,L2,ho2,hex,rfl,r3,uJ,λq hq=>?_,(Hr.map _).trans Hq,λq hq=>Hj q (Hr.mem_iff.mp hq)⟩)
      have hq1:=Hr.mem_iff.mp hq;exact⟨(hu1 q hq1).1,Qf (hu1 q hq1).2 ho hd QU⟩
   have mk:(t.put j).1.mask=t.mask:=rfl
   by_cases hpl:(t.put j).fst.plain=G
   ·rw[if_pos hpl];refine bf (ahv hk hx λb=>?_)
    cases b with
    |true=>exact EX _ rfl rfl rfl
    |false=>exact EX _ rfl rfl rfl
   ·rw[if_neg hpl];refine bf (bg ?_);exact EX _ rfl rfl rfl
  ·rename_i hne;exact absurd pU (hne _)
end
def fq(xs:List (List Int)):List (List Int):=xs.foldl iN []
theorem afI{xs:List (List Int)}(h:i<xs.length):fq (xs.take (i+1))=iN (fq (xs.take i)) xs[i]:=by
 unfold fq;rw[Wi h,Wh];rfl
theorem RP:∀(xs ns:List (List Int)),ns.length<=(xs.foldl iN ns).length
 |[],ns=>dD _
 |x::xs,ns=>by
  have:=RP xs (iN ns x);have h:ns.length<=(iN ns x).length:=by unfold iN;split<;>simp
  rw[Vj];omega
theorem afJ(xs:List (List Int))(i:Nat):(fq (xs.take i)).length<=(fq xs).length:=by
 have:fq xs=(xs.drop i).foldl iN (fq (xs.take i)):=by
  unfold fq;rw[<-Wh,Vq]
 rw[this];exact RP _ _
section
variable {prog:π}{w:υ}{A:ω}{s:Ψ}{E:Δ->Ψ->Prop}
theorem IsTupleKey.at{h':τ}(x:UN (intKind prog w) h k y)(e:∀o,h.get? y=O o->h'.get? y=O o):UN (intKind prog w) h' k y :=
 let⟨o,it,n,h1,r⟩:=x;⟨o,it,n,e o h1,r⟩
theorem lC.at{Y:Ξ->Prop}{h':τ}(x:lC prog w Y h a ks)(k:∀b,(b=a\/Y b)->∀o,h.get? b=O o->h'.get? b=O o):lC prog w Y h' a ks :=
 let⟨o,es,ep,t,L,ho,h1,h2,h3,h4,h5,h6,h7⟩:=x
 ⟨o,es,ep,t,L,k a (.inl rfl) o ho,h1,h2,h3,h4,λq hq=>⟨(h5 q hq).1,IsTupleKey.at (h5 q hq).2 (k q.2 (.inr (h7 q hq)))⟩,h6,h7⟩
theorem anO{R:Result->Ψ->Prop}{wr:List Ξ}{Θ:Array WZ->Array WZ->Prop}{P:Nat->Δ->Prop}{St:Nat->Ψ->Prop}{xs:List (List Int)}{ys:List Ξ}(hys:ys.length=xs.length)(W:WalksS prog w A.in1 I fp wr Θ xs.length P St)(S:Ξ)(hSf:S∉fp)(hval:∀(i:Nat) v,(hi:i<xs.length)->P i v->v=Value.ref (ys[i]'∅))(hx:∀x∈xs,fM x)(G2:∀y∈ys,y≠S/\y∉wr)(h64:(fq xs).length<64)(hr:A.in1.units<Uj):
  ∀(k i:Nat) (s:Ψ),xs.length-i=k->i<=xs.length->St i s->lC prog w (·∈ys) s.heap S (fq (xs.take i))->(∀j,(hj:j<xs.length)->UN (intKind prog w) s.heap xs[j] (ys[j]'∅)) ->
   (∀s',Moved (S::wr) Θ s s'->lC prog w (·∈ys) s'.heap S (fq xs)->R (.ok (.ret .none)) s') ->
   codeAny (model prog w) A (.builtin "set.update.loop" ⟨[.ref S,.ref I],[]⟩) R s:=by
 have Bt:S∉wr:=λh=>hSf (W.sub _ h)
 have hup:∀b∈wr,b∈S::wr:=λb hb=>.tail _ hb
 have Ra:∀b,(b=S\/b∈ys)->b∉wr:=λb hb=>hb.elim (λe=>e▸Bt) λm=>(G2 b m).2
 intro k
 induction k with
 |zero =>
  intro i s hk hi st hS hK hR;cases(show i=xs.length by omega)
  refine Vd Xs ?_;rw[Xr Wg _];show wpAny _ A.in1 (pyNext (.ref I) >>= _) _ _ s;refine bf (W.done s _ _ st λs' hm=>?_)
  rw[Us]at hS;exact bg (hR s' (hm.mono hup) (hS.at λb hb o e=>hm.heap b _ (Ra b hb) e))
 |succ k ih =>
  intro i s hk hi st hS hK hR;have hlt:i<xs.length:=∅
  have rQ:i<ys.length:=∅
  refine Vd Xs ?_;rw[Xr Wg _];show wpAny _ A.in1 (pyNext (.ref I) >>= _) _ _ s;refine bf (W.item i s _ _ hlt st λv s' hP st' hm=>?_)
  cases hval i v hlt hP;have hS':lC prog w (·∈ys) s'.heap S (fq (xs.take i)):=hS.at λb hb o e=>hm.heap b _ (Ra b hb) e
  have Hs:∀j,(hj:j<xs.length)->UN (intKind prog w) s'.heap xs[j] (ys[j]'∅):=λj hj=>IsTupleKey.at (hK j hj) λo e=>hm.heap _ _ ((G2 _ (U6 ∅)).2) e
  show wpAny _ A.in1 (holding [Value.ref ys[i]] (setAdd S (.ref ys[i])) >>= _) _ _ s';refine bf (Ur ?_);unfold setAdd;refine Ur (bf ((tupleKind (intKind prog w)).pyHash (k:=xs[i]) hr (Hs i hlt) ?_));have hl:(fq (xs.take i)).length<64:=VH (afJ xs i) h64;refine anJ (Y:=(·∈ys)) (s:={s' with toks:=s'.toks+(tupleKind (intKind prog w)).draws xs[i]}) (k:=xs[i]) hr (hx _ (U6 hlt)) (Hs i hlt) (U6 rQ) hS' hl λb h' gU jB=>?_
  rw[<-afI hlt]at jB;refine bg ⟨YG Wg _,ih (i+1) _ ∅ hlt (W.frame _ s' _ _ st' (WV _ _) λb hb o e=>?_) jB (λj hj=>?_) λs'' G8 Ho=>?_⟩
  ·rw[gU.2 b (λq:b=S=>hSf (q▸hb))];exact e
  ·exact IsTupleKey.at (Hs j hj) λo e=>by
    show h'.get? _=O o;rw[gU.2 _ (G2 _ (U6 ∅)).1];exact e
  ·refine hR s'' (Moved.trans W.gtrans ((hm.mono hup).then_heap (WV _ _) λb o hb e=>?_) G8) Ho
   rw[gU.2 b (λq:b=S=>hb (q▸.head _))];exact e
theorem agb(Y:Ξ->Prop){h:τ}(e:h.get? a=O (c7 w)):lC prog w Y h a [] :=
 ⟨_,#[],0,_,[],e,⟨rfl,rfl,rfl⟩,rfl,⟨rfl,.nil,λj h=>by simp[SetTable.fresh]at h,rfl,.inl ⟨rfl,by simp⟩,λq hq=>by simp[SetTable.fresh]at hq⟩,rfl,λq hq=>(by cases hq),.refl _,λq hq=>(by cases hq)⟩
set_option maxHeartbeats 3200000 in
theorem anQ{l:Ξ}{items:Array Δ}{xs:List (List Int)}{ys:List Ξ}{Q:Δ->Ψ->Prop}(hys:ys.length=xs.length)(hh:A.handled=Z)(hl:s.heap.IsList l items)(hi:items.toList=ys.map Value.ref)(hK:∀j,(hj:j<xs.length)->UN (intKind prog w) s.heap xs[j] (ys[j]'∅))(hx:∀x∈xs,fM x)(h64:(fq xs).length<64)(hr:A.in1.in1.in1.units<Uj)
  (h:∀(h':τ) (tk:Nat),lC prog w (·∈ys) h' s.heap.objs.size (fq xs)->(∀b o,b<s.heap.objs.size->s.heap.get? b=O o->h'.get? b=O o)->Q (.ref s.heap.objs.size) {s with heap:=h',toks:=tk}) :
  wpAny (model prog w) A (call (.type "set") [.ref l]) Q E s:=by
 obtain⟨c,tl,QZ⟩:=UE.mro;have hmade:=UE.made;have hsub:=UE.sub;refine WI (Xq (show wpAny _ _ (callAny (.type "set") _) _ _ _ from ?_))
 refine bg ⟨YF _ (by decide +kernel),Vd YE ?_⟩
 rw[YD (YC "set" [.ref l] []) rfl];have h1:=UE.notType;have h2:=UE.canCreate;have hct:=YB (.ref l)
 repeat any_goals (first|assumption|wp_step)
 refine V5 (Fb (.ref l) (E:=E) (Q₁:=λobj s₁=>obj=.ref s.heap.objs.size/\s₁={s with heap:=s.heap.push (c7 w)}) ⟨rfl,rfl⟩) λr s₁ hr=>?_
 cases r with
 |error e=>exact hr
 |ok fl =>
  cases fl with
  |ret obj =>
   obtain⟨rfl,rfl⟩:=hr;have hS:(s.heap.push (c7 w)).get? s.heap.objs.size=O (c7 w):=T9 _ rfl;have hT:Y6 {s with heap:=s.heap.push (c7 w)} (.ref s.heap.objs.size) "set":=⟨_,hS,rfl⟩
   have hli:=UE.init.lookup;have hbi:=UE.init.bind (.ref s.heap.objs.size)
   repeat any_goals (first|assumption|wp_step)
   refine V5 (YA (R:=wants (λr s₂=>r=.none/\∃h' tk,s₂={s with heap:=h',toks:=tk}/\lC prog w (·∈ys) h' s.heap.objs.size (fq xs) /\
     (∀b o,b<s.heap.objs.size->s.heap.get? b=O o->h'.get? b=O o)) E) UE.init.plain Z2 (Z1 hT ?_)) λr₂ s₂ kR=>?_
   ·obtain⟨ol,iX,hcl,nl,hdl⟩:=hl;obtain⟨ON,wM,OH,wH⟩:=ol;simp only at hcl hdl;subst hcl;subst hdl;have pV:(s.heap.push (c7 w)).get? l=O {cls:=.type "list",dict:=wM,data:=.seq items nl,slots:=wH}:=jn _ iX;have QS:=m6;have QT:=ku;have hne:(Value.type "list"==Value.type "dict")=ξ:=⋯
    have hl1:(s.heap.push (c7 w)).IsList l items:=⟨_,pV,rfl,nl,rfl⟩;unfold c7 at hS hT pV ⊢;unfold Builtin.«set.__init__» noKeywords Builtin.Frozenset.updateFrom
    generalize yd:pyIter=PI
    wp_walk
    subst yd;refine WK hl1 (bf (Z0 ?_));have hlS:l<s.heap.objs.size:=IT iX;have hlen:items.size=xs.length:=by
     have:=congrArg List.length hi;rw[T6,U8]at this;omega
    have xZ:l≠(s.heap.push (c7 w)).objs.size:=by rw[UJ];exact T3 (VG hlS)
    have hSf:s.heap.objs.size∉[(s.heap.push (c7 w)).objs.size,l]:=by
     rw[UJ];simp only[AP,TZ,or_false,not_or];exact⟨T3 (Uu _),Uh hlS⟩
    have W:=(Wo (prog:=prog) (w:=w) (A:=A.in1.in1.in1) (by simp[hh]) (s.heap.push (c7 w)).objs.size l xZ items).toS
    rw[hlen]at W;have hyo:∀y∈ys,∃k,UN (intKind prog w) s.heap k y:=λy hy=>by
     obtain⟨j,hj,rfl⟩:=Vs hy;exact⟨_,hK j ∅⟩
    have hyl:∀y∈ys,y<s.heap.objs.size/\y≠l:=λy hy=>by
     obtain⟨k,o,it,n,q1,q2,q3,q4⟩:=hyo y hy;refine⟨IT q1,λe=>?_⟩
     subst e;rw[iX]at q1;cases q1
     injection q2 with z
     exact absurd z ⋯
    refine anO (xs:=xs) (ys:=ys) hys W s.heap.objs.size hSf (λi v hi' hv=>?_) hx (λy hy=>?_) h64 hr xs.length 0 _ ∅ (V9 _) ⟨⟨_,T9 _ rfl,rfl,rfl⟩,hl1.push _⟩ (agb _ (jn _ hS)) (λj hj=>IsTupleKey.at (hK j hj) λo e=>jn _ (jn _ e)) λs' hm hS'=>?_
    ·have hv:items[i]? = O v:=hv;rw[<-UQ,hi,U7,I8 ∅]at hv
     simpa using hv.symm
    ·have:=hyl y hy;rw[UJ];simp only[AP,TZ,or_false];exact⟨T3 this.1,λz=>by first|exact absurd z (T3 (VG this.1))|exact z.elim (λz=>absurd z (T3 (VG this.1))) this.2⟩
    ·obtain⟨h',g',d',tk',os'⟩:=s';cases(show g'=s.gens from hm.gens)
     cases(show d'=s.drawn from hm.drawn)
     cases(show os'=s.os from hm.os)
     refine bg (bg ⟨rfl,h',tk',rfl,hS',λb o hb e=>?_⟩)
     exact hm.heap b o (by rw[UJ];simp only[AP,TZ,or_false,not_or];exact⟨T3 hb,T3 (VG hb)⟩) (jn _ (jn _ e))
   ·cases r₂ with
    |error e=>exact kR
    |ok yh =>
     cases yh with
     |ret r =>
      obtain⟨rfl,h',tk,rfl,hS',hk'⟩:=kR
      repeat any_goals (first|assumption|wp_step)
      exact h _ _ hS' hk'
     |_=>exact kR.elim
  |_=>exact hr.elim
end
def Fe(P:π)(w:υ)(a:Ξ)(n:Nat):τ->Prop:=λh=>∃o es ep t,h.get? a=O o/\o.ExactSet/\o.data=.set es ep t/\t.fits es.size=G/\es.size=n
def bI:D->Option (List Int)
 |.tup [.int i,.int j]=>if 0<=i/\i<8/\0<=j/\j<8 then O [i,j]else Z
 |_=>Z
def qO:List D->Option (List (List Int))
 |[]=>O []
 |d::l=>match bI d,qO l with
  |some k,O r=>O (k::r)
  |_,_=>Z
theorem apb(h:bI d=O k):fM k/\∃i j,k=[i,j]/\d=.tup [.int i,.int j]:=by
 unfold bI at h;split at h
 ·rename_i i j;split at h
  ·rename_i hb;cases h;exact⟨⟨i.toNat,j.toNat,∅,∅,by rw[show((i.toNat:Nat):Int)=i by omega,show((j.toNat:Nat):Int)=j by omega]⟩,i,j,rfl,rfl⟩
  ·cases h
 ·cases h
section
variable {X:Cx}
def aoP(X:Cx):List V->Hp->VK->Prop:=λxs H Q=>∃a ys ks,xs=[.ref a]/\bQ X.K H a (ys.map V.ref)/\VY (fun(y:Ξ) (k:List Int)=>fM k/\H y=O (.tup (k.map V.int))) ys ks/\(fq ks).length<64/\∀p,H p=Z->Q (.ref p) (upd H p (.ext (Fe X.prog X.w p (fq ks).length)))
theorem N5{α β:Type}{R:α->β->Prop}:∀{l:List α}{r:List β},VY R l r->l.length=r.length
 |_,_,.nil=>rfl
 |_,_,.cons _ q=>congrArg (· + 1) (N5 q)
theorem F2{α β:Type}{R:α->β->Prop}:∀{l:List α}{r:List β},VY R l r->∀(j:Nat) (h1:j<l.length) (h2:j<r.length),R l[j] r[j]
 |_,_,.nil,_,h,_=>absurd h (XI _)
 |_,_,.cons p q,0,_,_=>p
 |_,_,.cons p q,j+1,h1,h2=>F2 q j (by simpa using h1) (by simpa using h2)
theorem adn(I:Inv X pins J H s)(h:H y=O (.tup [.int i,.int j])):UN (intKind X.prog X.w) s.heap [i,j] y:=by
 obtain⟨_,its,hv,o,h1,h2,⟨n,h3⟩,_⟩:=I.hok y _ h;cases hv with
 |cons r1 r2 =>
  cases r2 with
  |cons r3 r4 =>
   cases r4;obtain⟨t1,rfl⟩:=r1;obtain⟨t2,rfl⟩:=r3;exact⟨o,_,n,h1,h2,h3,.cons (by simp[intKind,Value.isInt]) (.cons (by simp[intKind,Value.isInt]) .nil)⟩
theorem K0:∀{ys:List Ξ}{us:List Δ},Vals (ys.map V.ref) us->us=ys.map Value.ref
 |[],_,.nil=>rfl
 |y::ys,_,.cons e r=>by cases e;rw[K0 r];rfl
theorem agB(hu:X.A.units+64<Uj)(hc:X.calm=G:=by rfl):eU X (.type "set") (aoP X):=by
 intro pins s J H xs us Q I rv h;obtain⟨a,ys,ks,rfl,sq,hp,h64,q⟩:=h;obtain⟨u,rfl,ru⟩:=Ua rv;cases ru;obtain⟨its,ri,pl,hz⟩:=I.list sq;have hl:=N5 hp;refine anQ (xs:=ks) (ys:=ys) hl (I.ok.hd hc) pl.isList (by simpa using K0 ri) (λj hj=>?_) (λx hx=>?_) h64 (by show X.A.units+1+1+1<Uj;omega) λh' tk hS kp=>?_
 ·obtain⟨⟨i',j',_,_,e⟩,hH⟩:=F2 hp j ∅ hj
  rw[e]at hH ⊢;exact adn I hH
 ·obtain⟨j,hj,rfl⟩:=Vs hx;exact(F2 hp j ∅ hj).1
 ·have hf:H s.heap.objs.size=Z:=I.hok.fresh (dD _);obtain⟨o,es,ep,t,L,ho,hex,hd,akB,hL,_,mw,_⟩:=hS;have hn:es.size=(fq ks).length:=by
   have:=congrArg List.length hL;rw[T6,U8]at this;rw[this,<-mw.length_eq,T6]
  refine⟨.ref s.heap.objs.size,upd H s.heap.objs.size (.ext (Fe X.prog X.w s.heap.objs.size (fq ks).length)),I.laid (t':=tk) (λb u e=>kp b u (IT e) e) (dD _) ?_,rfl,q _ hf⟩
  exact⟨⟨o,es,ep,t,ho,hex,hd,akB.fits,hn⟩,⟨o,ho⟩,λh1 h2 ⟨o,es,ep,t,ho,r⟩ k=>⟨o,es,ep,t,k o ho,r⟩⟩
def aoH(X:Cx):List V->Hp->VK->Prop:=λxs H Q=>∃a n,xs=[.ref a]/\H a=O (.ext (Fe X.prog X.w a n))/\(n:Int)<2^63/\Q (.int (n:Nat)) H
theorem agC:eU X (.builtin "len") (aoH X):=by
 intro pins s J H xs us Q I rv h;obtain⟨a,n,rfl,hH,hn,q⟩:=h;obtain⟨u,rfl,ru⟩:=Ua rv;cases ru;obtain⟨⟨o,es,ep,t,ho,hex,hd,hf,he⟩,_,_⟩:=I.hok a _ hH;subst he;exact Yt ho hex hd hf hn ⟨.int _,H,I.tok _,⟨_,rfl⟩,q⟩
def uZ(a:aj):af:=λe c=>(a e c).bind λxs c=>match xs with
 |[x]=>match eZ c x with
  |some l=>match qO l with
   |some ks=>if(fq ks).length<64 then .ok (.int (fq ks).length) c else .bad
   |none=>.bad
  |none=>.bad
 |_=>.bad
theorem NI{K:Γ}{H:Hp}:∀{l:List D}{vs:List V}{ks:List (List Int)},aR K ρ H l vs->qO l=O ks->∃ys:List Ξ,vs=ys.map V.ref/\VY (fun(y:Ξ) (k:List Int)=>fM k/\H y=O (.tup (k.map V.int))) ys ks
 |[],vs,ks,r,h=>by
  cases h;have:vs=[]:=by simpa[aR]using r
  exact⟨[],this,.nil⟩
 |d::l,vs,ks,r,h=>by
  unfold qO at h;split at h
  ·rename_i k rk h1 h2;cases h;obtain⟨v,vr,rfl,rd,rr⟩:=r;obtain⟨hu,i,j,rfl,rfl⟩:=apb h1;obtain⟨y,ws,rfl,hy,rw⟩:=rd;obtain⟨v1,r1,rfl,e1,rw⟩:=rw;obtain⟨v2,r2,rfl,e2,rw⟩:=rw;cases rw;cases e1;cases e2;obtain⟨ys,rfl,p⟩:=NI rr h2;exact⟨y::ys,rfl,.cons ⟨hu,hy⟩ p⟩
  ·cases h
theorem aac(hu:X.A.units+64<Uj)(ha:e7 X [e] da)(hm:X.mg "len"=Z)(hm2:X.mg "set"=Z)(hg:Gl X "len":=by rfl)(je:Gl X "set":=by rfl)(hc:X.calm=G:=by rfl)(he:ε [e] X.env=(ξ,eval e X.env)::ε [] X.env:=by exact cO rfl):bu X (.Call (.Name "len" p1) [.Call (.Name "set" p2) [e] [] q2] [] q1) (uZ da):=by
 have xX:PE X (.Call (.Name "set" p2) [e] [] q2) _:=lV (agB hu hc) je hm2 (by decide +kernel) ha ⋯ ⋯ he (by exact fB rfl)
 refine(wG agC hg hm (by decide +kernel) (jU xX kI (cO rfl)) ⋯ ⋯ (by exact cO rfl) (by exact fB rfl)).imp λJ H Q h=>?_
 obtain⟨ρ,e,c,W,V,p⟩:=h;refine⟨ρ,e,c,W,V,post.bind p λxs c1 aS H1 vs ex W1 X1 r1 p1=>?_⟩
 clear ex;split at p1
 ·rename_i x;obtain⟨v,r,rfl,hx,hr⟩:=r1;cases hr;split at p1
  ·rename_i l hl;split at p1
   ·rename_i ks hn;split at p1
    ·rename_i hb;obtain⟨a,vs,rfl,ha',rl⟩:=nE W1 hx hl;obtain⟨ys,rfl,hp⟩:=NI rl hn;refine⟨a,ys,ks,rfl,bQ.of ha',hp,hb,λq hq=>?_⟩
     refine⟨q,(fq ks).length,rfl,fG,?_,?_⟩
     ·omega
     ·exact p1 aS _ _ (W1.fresh hq) (Ext.fresh W1 hq) rfl
    ·exact p1.elim
   ·exact p1.elim
  ·exact p1.elim
 ·exact p1.elim
end
@[simp] theorem aiL(a:aj)(e:Ev)(c:aa):uZ a e c=(a e c).bind λxs c=>match xs with
 |[x]=>match eZ c x with
  |some l=>match qO l with
   |some ks=>if(fq ks).length<64 then .ok (.int (fq ks).length) c else .bad
   |none=>.bad
  |none=>.bad
 |_=>.bad:=rfl
section
variable {X:Cx}{es':List ν}{kt:Nat}{pt:Pos}
theorem an4{pos:Pos}(hg:Gl X "enumerate")(hm:X.mg "enumerate"=Z)(ha:PA X [a] ta)(hs:ε [a] X.env=[(ξ,eval a X.env)]:=by rfl):
  PI X (.Tuple es' kt pt) (.Call (.Name "enumerate" p) [a] [] pos) (QG (bQ X.K) ta):=by
 intro pins s J H R I h;refine Call_ (kO I hg hm boot_enumerate (VV (bJ (ha pos pins s J H _ I h) λus s1 ⟨vs,H1,I1,r1,q1⟩=>?_) hs rfl))
 obtain⟨a1,e,⟨xs,q1⟩,q⟩:=q1;subst e;cases r1 with
 |cons r rr =>
  cases rr;cases r;obtain⟨us,ru,pu,lu⟩:=I1.list q1;refine call_enumerate_list pu.isList λh' hz t1 _ kp=>YY hz ?_
  generalize hn:s1.heap.objs.size=n at hz t1
  refine⟨n+1,_,_,_,H1,rfl,I1.kept kp,Lc L8 a1 _ n (Uh (Uu _)),⟨⟨_,hz⟩,t1⟩,λb hb=>?_,q⟩
  refine zh I1 hn b ?_;simp at hb
  rcases hb with rfl|rfl<;>simp
end
def yt(a:aj):Ev->aa->R Src:=λe c=>(a e c).bind λxs c=>match xs with
 |[.lst l]=>.ok ⟨l.mapIdx λi x=>.tup [.int i,x],λ_=>True⟩ c
 |_=>.bad
section
variable {X:Cx}{K:Γ}{ρ:List Ξ}{H:Hp}
theorem ads{st:aa->Prop}(h:∀ρ' H' c',Wd K ρ' H' c'->Ext ρ H ρ' H'->st c'->∃xs,bQ K H' a xs/\aR K ρ' H' l xs):JS K ρ H ⟨l.mapIdx λi x=>.tup [.int i,x],st⟩ (D7 (bQ K) a):=by
 intro ρ' H' c' W E s i;obtain⟨xs,q,r⟩:=h ρ' H' c' W E s;refine⟨λd hd=>?_,λe=>⟨xs,q,?_⟩⟩
 ·rw[YV]at hd;cases e1:l[i]? with
  |none=>rw[e1]at hd;cases hd
  |some x =>
   rw[e1]at hd;cases hd;obtain⟨v,hv,rv⟩:=r.get e1;refine⟨⟨xs,v,q,hv⟩,λz H2 hz=>?_⟩
   obtain⟨t,v',rfl,ht,rfl,hz⟩:=hz;have z1:=hz xs q;rw[hv]at z1;cases z1;exact⟨W.fresh ht,Ext.fresh W ht,t,[.int i,v],rfl,fG,.int i,[v],rfl,rfl,v,[],rfl,Rel.mono W (Ext.fresh W ht) _ _ rv,rfl⟩
 ·rw[Zb]at e;rw[r.length];exact e
theorem adU{pt:Pos}{pos:Pos}(ha:e7 X [a] da)(hm:X.mg "enumerate"=Z)(hg:Gl X "enumerate":=by rfl)(hs:ε [a] X.env=[(ξ,eval a X.env)]:=by exact oM rfl):
  PId X (.Tuple es k pt) (.Call (.Name "enumerate" p) [a] [] pos) (yt da):=(an4 hg hm ha hs).imp λJ H Q h=>by
 obtain⟨ρ,e,c,W,V,p⟩:=h;refine⟨ρ,e,c,W,V,post.bind p λx c1 aS H1 v _ W1 X1 r1 p1=>?_⟩
 split at p1
 ·obtain⟨y,ys,rfl,ry,rs⟩:=r1;cases rs;obtain⟨a1,xs,rfl,s1,t1⟩:=ry;exact⟨a1,rfl,⟨xs,bQ.of s1.1⟩,p1.here W1 (ads λρ' H' c' W' E _=>⟨xs,bQ.of (A0 E s1).1,aR.mono W1 E _ _ t1⟩)⟩
 ·exact p1.elim
end
end L2
local macro_rules|`(⇑$x)=>`(L2.ao (L2.ak $x) L2.av)
local macro_rules|`($x⊂$y)=>`(L2.ao (L2.ak $x) (L2.ao (L2.ak $y) L2.av))
local macro_rules|`(↥$x)=>`(.int ($x :Int))
namespace Ev
open PySem L2 PyProof.Rows
def top(i:Nat):χ:=PySem.Challenge.pw_evenwebs_k27_whole_webs_are_not_barred.main.body.getD i (.Pass ⟨0,0,0,0⟩)
abbrev MX:χ:=top 7
abbrev MW:χ:=top 8
abbrev Mr:χ:=top 9
abbrev Nn:χ:=top 67
abbrev M5:χ:=top 47
abbrev Mv:χ:=top 48
abbrev Ms:χ:=top 49
abbrev Mq:χ:=top 50
abbrev Mx:χ:=top 51
abbrev Mj:χ:=top 52
abbrev Mp:χ:=top 11
abbrev Mf:χ:=top 12
abbrev Mi:χ:=top 13
abbrev zQ:χ:=top 14
abbrev Nc:χ:=top 17
abbrev M7:χ:=top 18
abbrev Mn:χ:=top 19
abbrev M8:χ:=top 20
abbrev M9:χ:=top 21
abbrev M1:χ:=top 22
abbrev Mz:χ:=top 23
abbrev Mw:χ:=top 24
abbrev MY:χ:=top 27
abbrev Mt:χ:=top 28
abbrev Nb:χ:=top 29
abbrev Na:χ:=top 30
abbrev MC:χ:=top 31
abbrev Mg:χ:=top 32
abbrev Me:χ:=top 33
abbrev Nj:χ:=top 34
abbrev Nl:χ:=top 35
abbrev Nh:χ:=top 36
abbrev M3:χ:=top 37
abbrev Nk:χ:=top 38
abbrev Ng:χ:=top 39
abbrev MZ:χ:=top 40
abbrev Ni:χ:=top 41
abbrev Nf:χ:=top 43
abbrev Mc:χ:=top 44
abbrev Mh:χ:=top 53
abbrev My:χ:=top 54
abbrev Ml:χ:=top 55
abbrev zS:χ:=top 56
abbrev M6:χ:=top 62
abbrev Nd:χ:=top 63
abbrev M0:χ:=top 64
abbrev Mm:χ:=top 65
abbrev MB:χ:=top 66
abbrev Nm:χ:=top 68
abbrev M4:χ:=top 69
abbrev Mu:χ:=top 70
abbrev MA:χ:=top 71
abbrev zR:χ:=top 72
abbrev zP:χ:=top 73
abbrev MU:χ:=top 75
abbrev ML:χ:=top 76
abbrev MD:χ:=top 77
abbrev MK:χ:=top 78
abbrev MS:χ:=top 79
abbrev MH:χ:=top 80
abbrev MN:χ:=top 81
abbrev Ft:χ:=top 82
abbrev MP:χ:=top 83
abbrev MQ:χ:=top 84
abbrev MJ:χ:=top 85
abbrev ME:χ:=top 86
abbrev MI:χ:=top 87
abbrev MM:χ:=top 88
abbrev MT:χ:=top 89
abbrev MG:χ:=top 90
abbrev MF:χ:=top 91
abbrev MR:χ:=top 92
abbrev Fv:χ:=top 93
abbrev MO:χ:=top 94
abbrev MV:χ:=top 95
def A6(st:χ):ν:=match(i7 st).getLast? with
 |some (.Return (O (.Call _ [_,e] _ _)) _)=>e
 |_=>.Name "" ⟨0,0,0,0⟩
def Ko:ν:=A6 zQ
def sM:ν:=A6 zS
def Eb:ν:=A6 zR
def vA:ν:=A6 zP
def lF:List (Int×List Int):=[(2,[2,1,0]),(3,[3,1,0]),(4,[2,2,3]),(5,[5,1,0]),(7,[7,1,0]),(8,[2,3,3]),(9,[3,2,1]),(11,[11,1,0]),(13,[13,1,0]),(16,[2,4,3]),(17,[17,1,0]),(19,[19,1,0]),(23,[23,1,0]),(25,[5,2,2]),(27,[3,3,7]),(29,[29,1,0]),(31,[31,1,0]),(32,[2,5,5]),(37,[37,1,0]),(41,[41,1,0]),(43,[43,1,0]),(47,[47,1,0]),(49,[7,2,1])]
def nW:ah :=
 (aK (gG (aO cM (ao (ak 0) (ao (dC (.ty "int")) av))) (HW (aO cM (ao (ak 0) (ao (dC (.ty "bool")) av))))))
def j3:List D->aa->R D:=bh 1 ξ nW
def mJ:ah :=
 (aK (gG (aB 1 j3 ⇑0) (r8 rJ rJ (ak 1) (ak 0) (ak 2))))
def dP:List D->aa->R D:=bh 3 ξ mJ
def ve:ah :=
 (aC (aG 1 (dC (.int 0))) (aC (gY (aN (au jy (au aT (ak 1) (ak 1)) (ak 0))) (aG 1 (au aZ (ak 1) (dC (.int 1)))) 1000) (aK (qc (aN (au cB (au aT (ak 1) (ak 1)) (ak 0))) (ak 1) (dC .aJ)))))
def pC:List D->aa->R D:=bh 2 ξ ve
def rO:af :=
 (au lZ (ak 1) (au aD (ak 2) (ak 0)))
def yR:ah :=
 (aK (aO ql (ao (aX (ki (0⊂1)) [Z,Z] (dU 2 (bR (aA 0) (bR (aA 1) eT))) aP (au cB (ak 0) (ak 1))) av)))
def AZ:List D->aa->R D:=bh 2 ξ yR
def rM:af :=
 (aB 2 AZ (ao (au aD (ak 2) (ak 0)) (ao (au aD (ak 2) (ak 1)) av)))
def pO:af :=
 (au jf (rX (ao (au aD (ak 2) (ak 0)) av) (ao (au aD (ak 2) (ak 1)) av)) (dC (.int 0)))
def DF:ah :=
 (aK (gG (aB 1 j3 ⇑0) (au (xV "FIELDS" lF) (ak 0) (dC (.fn "FIELDS" 0)))))
def AY:List D->aa->R D:=bh 1 ξ DF
def Dh:ah :=
 (bz (dG (aN (aB 1 AY ⇑0))) ja bA)
def nB:List D->aa->R D:=bh 1 ξ Dh
def De:ah :=
 (aC (dw (aB 1 nB ⇑0)) (bY (c9 (ak 1)) (aA 2) (bz (dG (aN (aB 3 dP (ao (ak 2) (ao (dC (.int 0)) (ao (au bO (ak 0) (dC (.int 1))) av)))))) ja bA)))
def rm:List D->aa->R D:=bh 3 ξ De
def Dc:ah :=
 (aC (aG 2 (mD (rV lF 0) (ak 0))) (aC (aG 3 (fj av)) (aC (aG 4 (ak 1)) (aC (bY (bH (ao (mD (rV lF 1) (ak 0)) av)) (aA 5) (aC (dw (gx (ak 3) (au bZ (ak 4) (ak 2)))) (aG 4 (au fu (ak 4) (ak 2))))) (aK (ak 3))))))
def jx:List D->aa->R D:=bh 6 ξ Dc
def Dl:ah :=
 (aC (aG 2 (mD (rV lF 0) (ak 0))) (aC (aG 3 (dC (.int 0))) (aC (bY (yq ⇑1) (aA 4) (aG 3 (au aZ (au aT (ak 3) (ak 2)) (au bZ (ak 4) (ak 2))))) (aK (ak 3)))))
def rq:List D->aa->R D:=bh 5 ξ Dl
def C6:ah :=
 (aC (dw (aB 2 rm (ao (ak 0) (ao (ck (1⊂2)) av)))) (aK (aB 2 rq (ao (ak 0) (ao (aX (ki (ao (aB 2 jx (0⊂1)) (ao (aB 2 jx (0⊂2)) av))) [Z,Z] (dU 2 (bR (aA 0) (bR (aA 1) eT))) aP (au bO (ak 0) (ak 1))) av)))))
def xm:List D->aa->R D:=bh 3 ξ C6
def pP:af :=
 (au inD (aB 3 xm (ao (ak 3) (0⊂1))) (ak 2))
def lams:List (ν×List Str×(List D->aa->R D)):=[(Ko,["web"],jz rO),(sM,["squares","q"],jz pP),(Eb,["lines"],jz rM),(vA,["pairs"],jz pO)]
def C9:ah :=
 (aK (aO dj (ao (aX (bH ⇑0) [Z,O 1,O 2] (aA 0) (jh (aN (au cS (ak 0) (ak 1))) (aN (r9 2 2 lams (1⊂0)))) (ak 0)) av)))
def jZ:List D->aa->R D:=bh 3 ξ C9
def C3:ah :=
 (aK (aO dj (ao (aX (bH ⇑0) [Z,O 0,O 1] (aA 0) aP (aB 3 jZ (ao (ak 1) (0⊂2)))) av)))
def jc:List D->aa->R D:=bh 2 ξ C3
def C5:ah :=
 (aC (aG 1 (fj av)) (aC (bY (rZ ⇑0) (dU 2 (bR (aA 2) (bR (aA 3) eT))) (dw (iw (ak 1) (aX (c9 (ak 3)) [Z,O 2] (aA 0) (aN (au jy (ak 1) (ak 0))) (ck (1⊂0)))))) (aK (ak 1))))
def xj:List D->aa->R D:=bh 4 ξ C5
def Dj:ah :=
 (aK (nS 0 jc (aO bD ⇑0) Ko ["web"] [0]))
def um:List D->aa->R D:=bh 1 ξ Dj
def DM:ah :=
 (aK (rX (ao (au aD (ak 0) (ak 1)) av) (ao (au aD (ak 0) (ak 2)) av)))
def pI:List D->aa->R D:=bh 3 ξ DM
def DH:ah :=
 (aC (bY (rZ ⇑0) (dU 2 (bR (aA 1) (bR (aA 2) eT))) (bz (aN (au cS (aO bD ⇑2) (aO bD (ao (au aD (ak 0) (dC (.int 0))) av)))) (aK (ak 1)) bA)) (aK (dC .aJ)))
def xD:List D->aa->R D:=bh 3 ξ DH
def C8:ah :=
 (aK (qc (yp (ak 1)) (aB 3 pI (ao (ak 0) (ao (au aD (au aD (ak 1) (dC (.int 0))) (dC (.int 0))) (ao (au aD (au aD (ak 1) (dC (.int 0))) (dC (.int 1))) av)))) (dC .aJ)))
def l8:List D->aa->R D:=bh 2 ξ C8
def DI:ah :=
 (aC (aG 2 (aB 2 l8 (0⊂1))) (aC (bY (eX (ak 1)) (aA 3) (bz (aN (au cS (aB 3 pI (ao (ak 0) (ao (au aD (ak 3) (dC (.int 0))) (ao (au aD (ak 3) (dC (.int 1))) av)))) (ak 2))) (aK (ak 3)) bA)) (aK (dC .aJ))))
def xE:List D->aa->R D:=bh 4 ξ DI
def DJ:ah :=
 (aC (aG 1 (aB 1 xD ⇑0)) (aC (bz (aN (au jA (ak 1) (dC .aJ))) (aK (ck (ao (dC (.str "place")) ⇑1))) bA) (aC (aG 2 (aB 1 xj ⇑0)) (aC (aG 3 (aB 1 xj (ao (aB 1 um ⇑0) av))) (aC (bY (c9 (ck (ao (ck (ao (dC (.str "tied")) ⇑2)) (ao (ck (ao (dC (.str "apart")) ⇑3)) av)))) (dU 2 (bR (aA 4) (bR (aA 5) eT))) (aC (aG 6 (aB 2 xE (0⊂5))) (bz (aN (au jA (ak 6) (dC .aJ))) (aK (ck (ao (ak 4) (ao (au aD (ak 6) (dC (.int 0))) (ao (au aD (ak 6) (dC (.int 1))) av))))) bA))) (aK (ck (ao (dC (.str "even")) (ao (ck (ao (aO bD ⇑0) (ao (aO bD (ao (au aD (ak 0) (dC (.int 0))) av)) (ao (aB 2 l8 (0⊂2)) (ao (aB 2 l8 (0⊂3)) av))))) av)))))))))
def uy:List D->aa->R D:=bh 7 ξ DJ
def DC:ah :=
 (aC (bz (dG (yp (ak 2))) (aK (au kP (ak 0) (dC .aJ))) bA) (aK (aB 3 dP (ao (ak 0) (ao (dC (.int 0)) ⇑1)))))
def AX:List D->aa->R D:=bh 3 ξ DC
def Dn:ah :=
 (aC (bz (fy (dG (aN (aO cM (ao (ak 0) (ao (dC (.ty "tuple")) av))))) (fy (aN (au cS (aO bD ⇑0) (dC (.int 4)))) (dG (aN (aB 3 dP (ao (au aD (ak 0) (dC (.int 0))) (ao (dC (.int 1)) (ao (dC (.int 100)) av)))))))) (aK (dC (.bl ξ))) bA) (aC (aG 1 (au bO (au aD (ak 0) (dC (.int 0))) (dC (.int 1)))) (aC (bz (dG (aN (aB 3 dP (ao (au aD (ak 0) (dC (.int 1))) (ao (dC (.int 0)) ⇑1))))) (aK (dC (.bl ξ))) bA) (aK (gG (aB 3 AX (ao (au aD (ak 0) (dC (.int 2))) (ao (au bO (au aD (ak 0) (dC (.int 1))) (dC (.int 1))) (ao (au cS (au aD (ak 0) (dC (.int 1))) (dC (.int 0))) av)))) (aB 3 AX (ao (au aD (ak 0) (dC (.int 3))) (ao (au aD (ak 0) (dC (.int 1))) (ao (au cS (au aD (ak 0) (dC (.int 1))) (ak 1)) av)))))))))
def AU:List D->aa->R D:=bh 2 ξ Dn
def Dk:ah :=
 (aC (bz (dG (aN (aB 1 AU ⇑0))) ja bA) (aC (aG 1 (au aD (ak 0) (dC (.int 0)))) (aC (aG 2 (au aD (ak 0) (dC (.int 1)))) (aC (aG 3 (qc (aN (au kP (au aD (ak 0) (dC (.int 3))) (dC .aJ))) (dC .aJ) (au aZ (au bO (au bO (ak 1) (au aT (dC (.int 2)) (ak 2))) (dC (.int 2))) (au aD (ak 0) (dC (.int 3)))))) (aC (aG 4 (qc (aN (au kP (au aD (ak 0) (dC (.int 2))) (dC .aJ))) (dC .aJ) (au aZ (au bO (ak 1) (au aT (dC (.int 2)) (ak 2))) (au aD (ak 0) (dC (.int 2)))))) (aK (ck (ao (ak 1) (ao (au bO (au bO (ak 1) (ak 2)) (dC (.int 1))) (3⊂4))))))))))
def AR:List D->aa->R D:=bh 5 ξ Dk
def vh:ah :=
 (aC (bz (fy (dG (aN (aO cM (ao (ak 0) (ao (dC (.ty "tuple")) av))))) (aN (au cS (aO bD ⇑0) (dC (.int 4))))) (aK (dC (.bl ξ))) bA) (aC (bz (fy (dG (aN (aB 3 dP (ao (au aD (ak 0) (dC (.int 0))) (ao (dC (.int 3)) (ao (dC (.int 100)) av)))))) (dG (aN (aB 3 dP (ao (au aD (ak 0) (dC (.int 1))) (ao (dC (.int 1)) (ao (au bO (au aD (ak 0) (dC (.int 0))) (dC (.int 2))) av))))))) (aK (dC (.bl ξ))) bA) (aK (gG (aB 3 dP (ao (au aD (ak 0) (dC (.int 2))) (ao (dC (.int 0)) (ao (au bO (au aD (ak 0) (dC (.int 1))) (dC (.int 1))) av)))) (aB 3 dP (ao (au aD (ak 0) (dC (.int 3))) (ao (dC (.int 0)) (ao (au aD (ak 0) (dC (.int 1))) av))))))))
def jd:List D->aa->R D:=bh 1 ξ vh
def Df:ah :=
 (bz (dG (aN (aB 1 jd ⇑0))) ja bA)
def AQ:List D->aa->R D:=bh 1 ξ Df
def DL:ah :=
 (aC (aG 1 (au bO (au aD (ak 0) (dC (.int 2))) (au aD (ak 0) (dC (.int 3))))) (aK (au aZ (au aT (ak 1) (ak 1)) (au aT (dC (.int 4)) (au bO (au aD (ak 0) (dC (.int 1))) (au aD (ak 0) (dC (.int 3))))))))
def pH:List D->aa->R D:=bh 2 ξ DL
def DK:ah :=
 (aK (au aZ (au aT (dC (.int 2)) (au aD (ak 0) (dC (.int 1)))) (au aT (au bO (au aD (ak 0) (dC (.int 0))) (dC (.int 1))) (au bO (au aD (ak 0) (dC (.int 2))) (au aD (ak 0) (dC (.int 3)))))))
def uz:List D->aa->R D:=bh 1 ξ DK
def sA:ah :=
 (aC (aG 1 (aB 1 uz ⇑0)) (aC (bz (aN (au cB (ak 1) (dC (.int 0)))) (aK (dC (.int 0))) bA) (aC (aG 2 (aB 1 pC (ao (aB 1 pH ⇑0) av))) (aC (bz (fy (aN (au kP (ak 2) (dC .aJ))) (aN (au cS (au bZ (ak 1) (ak 2)) (dC (.int 0))))) (aK (dC .aJ)) bA) (aK (au fu (ak 1) (ak 2)))))))
def rA:List D->aa->R D:=bh 3 ξ sA
def su:ah :=
 (aC (aG 1 (aB 1 rA ⇑0)) (aC (aG 2 (au bO (au aD (ak 0) (dC (.int 0))) (dC (.int 1)))) (aC (bz (fy (aN (au kP (ak 1) (dC .aJ))) (fy (aN (au cS (au bZ (au bO (ak 2) (ak 1)) (dC (.int 2))) (dC (.int 0)))) (aN (au jf (aO DS ⇑1) (ak 2))))) (aK (dC .aJ)) bA) (aK (ck (ao (au fu (au bO (ak 2) (ak 1)) (dC (.int 2))) (ao (au fu (au aZ (ak 2) (ak 1)) (dC (.int 2))) av)))))))
def nA:List D->aa->R D:=bh 3 ξ su
def C2:ah :=
 (aC (aG 2 (au bO (au aD (ak 0) (dC (.int 2))) (au aD (ak 0) (dC (.int 3))))) (aK (ck (ao (au fu (au aZ (ak 2) (ak 1)) (dC (.int 2))) (ao (au fu (au bO (ak 2) (ak 1)) (dC (.int 2))) av)))))
def xh:List D->aa->R D:=bh 3 ξ C2
def vm:ah :=
 (aC (aG 1 (aB 1 AR ⇑0)) (aC (bY (c9 (ck (ao (au aD (ak 1) (dC (.int 3))) (ao (au aD (ak 1) (dC (.int 2))) av)))) (aA 2) (bz (aN (au jy (ak 2) (dC (.int 0)))) (aK (ck (ao (dC (.str "room")) ⇑2))) bA)) (aK (dC .aJ))))
def uB:List D->aa->R D:=bh 3 ξ vm
def yQ:ah :=
 (aC (aG 1 (au aT (au aD (ak 0) (dC (.int 1))) (au bO (au bO (au aD (ak 0) (dC (.int 1))) (au aD (ak 0) (dC (.int 2)))) (dC (.int 1))))) (aC (aG 2 (au aT (au bO (au bO (au aD (ak 0) (dC (.int 0))) (au aD (ak 0) (dC (.int 1)))) (dC (.int 1))) (au aD (ak 0) (dC (.int 3))))) (aK (qc (aN (au cS (ak 1) (ak 2))) (ck (ao (dC (.str "counting")) (1⊂2))) (dC .aJ)))))
def xG:List D->aa->R D:=bh 3 ξ yQ
def yP:ah :=
 (aK (qc (aN (au kP (aB 1 nA ⇑0) (dC .aJ))) (ck (ao (dC (.str "sums")) (ao (aB 1 pH ⇑0) (ao (aB 1 uz ⇑0) av)))) (dC .aJ)))
def xF:List D->aa->R D:=bh 1 ξ yP
def DE:ah :=
 (aK (au jf (au aT (au aZ (ak 1) (dC (.int 1))) (au aZ (au aZ (ak 0) (ak 1)) (au aT (au aT (dC (.int 2)) (ak 1)) (ak 2)))) (au aT (au aT (au aZ (ak 0) (ak 1)) (au aZ (ak 2) (dC (.int 1)))) (au aZ (ak 2) (dC (.int 1))))))
def xC:List D->aa->R D:=bh 3 ξ DE
def sD:ah :=
 (aC (aG 1 (aB 1 pC (ao (aB 1 pH ⇑0) av))) (aC (bz (aN (au kP (ak 1) (dC .aJ))) (aK (dC .aJ)) bA) (aC (aG 2 (aB 2 xh (0⊂1))) (aC (bz (aN (aB 3 xC (ao (au aD (ak 0) (dC (.int 1))) (ao (au aD (ak 2) (dC (.int 0))) (ao (au aD (ak 2) (dC (.int 1))) av))))) (aK (ck (ao (dC (.str "products")) (ao (dC (.int 1)) av)))) bA) (aC (bz (aN (aB 3 xC (ao (au aD (ak 0) (dC (.int 1))) (ao (au aD (ak 2) (dC (.int 1))) (ao (au aD (ak 2) (dC (.int 0))) av))))) (aK (ck (ao (dC (.str "products")) (ao (dC (.int 2)) av)))) bA) (aK (dC .aJ)))))))
def rF:List D->aa->R D:=bh 3 ξ sD
def qk:ah :=
 (aC (bz (dG (aN (r8 jy jy (dC (.int 0)) (au aD (ak 0) (dC (.int 3))) (au aD (ak 0) (dC (.int 1)))))) (aK (dC .aJ)) bA) (aC (bY (c9 (aB 1 nA ⇑0)) (aA 1) (bz (aN (au jf (au aT (dC (.int 2)) (au aD (ak 0) (dC (.int 0)))) (au aT (ak 1) (au aZ (ak 1) (dC (.int 3)))))) (aK (ck (ao (dC (.str "threes")) ⇑1))) bA)) (aK (dC .aJ))))
def pK:List D->aa->R D:=bh 2 ξ qk
def DA:ah :=
 (aK (aO ql (ao (aX (bH (ao (au aZ (ak 0) (dC (.int 1))) av)) [Z,O 0] (aA 0) aP (au jA (aB 1 pC (ao (au bO (ak 1) (au aT (ak 0) (ak 0))) av)) (dC .aJ))) av)))
def AW:List D->aa->R D:=bh 1 ξ DA
def vj:ah :=
 (aC (bz (jh (aN (au cB (aB 1 uz ⇑0) (dC (.int 0)))) (dG (aN (aB 1 AW (ao (au aD (ak 0) (dC (.int 0))) av))))) (aK (ck (ao (dC (.str "squares")) (ao (au aD (ak 0) (dC (.int 0))) av)))) bA) (aK (dC .aJ)))
def uA:List D->aa->R D:=bh 1 ξ vj
def kE:List Str:=["bar_of_room","bar_of_counting","bar_of_sums","bar_of_products","bar_of_threes","bar_of_squares"]
def lR:List (Str×(List D->aa->R D)):=[("bar_of_room",uB),("bar_of_counting",xG),("bar_of_sums",xF),("bar_of_products",rF),("bar_of_threes",pK),("bar_of_squares",uA)]
def mK:ah :=
 (aC (dw (aB 1 AQ ⇑0)) (aC (bY (nN kE) (aA 1) (aC (aG 2 (CO 1 1 lR ⇑0)) (bz (aN (au jA (ak 2) (dC .aJ))) (aK (ak 2)) bA))) (aK (dC .aJ))))
def j4:List D->aa->R D:=bh 3 ξ mK
def yE:ah :=
 (aC (bz (aN (au jA (aB 1 j4 ⇑0) (dC .aJ))) ja bA) (aC (aG 1 (aB 1 nA ⇑0)) (aC (aG 2 (aB 1 pC (ao (aB 1 pH ⇑0) av))) (aC (bz (aN (au kP (ak 2) (dC .aJ))) (aK (ck (ao (dC (.str "root")) (ao (aB 1 pH ⇑0) (ao (au aD (ak 1) (dC (.int 0))) av))))) bA) (aC (aG 3 (aB 2 xh (0⊂2))) (aK (ck (ao (dC (.str "whole")) (ao (au aD (ak 3) (dC (.int 0))) (ao (au aD (ak 1) (dC (.int 0))) (ao (au aD (ak 3) (dC (.int 1))) (ao (au aD (ak 1) (dC (.int 1))) av))))))))))))
def rj:List D->aa->R D:=bh 4 ξ yE
def C4:ah :=
 (aC (aG 2 (aB 2 jx (ao (ak 0) (ao (mD (rV lF 2) (ak 0)) av)))) (aK (aX (ki (ao (au fY (cE (ao (dC (.int 0)) av)) (ak 1)) ⇑2)) [Z,Z,O 1] (dU 2 (bR (aA 0) (bR (aA 1) eT))) aP (au bO (ak 0) (au aT (au aD (ak 2) (mD wO (dC (.int 1)))) (ak 1))))))
def ug:List D->aa->R D:=bh 3 ξ C4
def Dm:ah :=
 (aC (dw (aB 2 rm (ao (ak 0) (ao (ck (1⊂2)) av)))) (aC (aG 3 (aB 2 jx (0⊂2))) (aC (aG 4 (au tG (cE (ao (dC (.int 0)) av)) (aO bD ⇑3))) (aC (bY (yq (ao (aB 2 jx (0⊂1)) av)) (aA 5) (aG 4 (aX (ki (ao (aB 2 ug (0⊂4)) ⇑3)) [Z,Z,O 5] (dU 2 (bR (aA 0) (bR (aA 1) eT))) aP (au aZ (ak 0) (au aT (ak 2) (ak 1)))))) (aK (aB 2 rq (0⊂4)))))))
def uo:List D->aa->R D:=bh 6 ξ Dm
def Iu:ah :=
 (aC (dw (aB 1 nB ⇑0)) (aK (nR (ao (aX (kj (ao (dC (.int 1)) ⇑0)) [Z,O 0] (aA 0) aP (aB 3 uo (ao (ak 1) (0⊂0)))) av))))
def AO:List D->aa->R D:=bh 1 ξ Iu
def yO:ah :=
 (aC (dw (aB 1 nB ⇑0)) (aC (bz (aN (au cS (au bZ (ak 0) (dC (.int 4))) (dC (.int 1)))) ja bA) (aC (aG 1 (aB 1 AO ⇑0)) (aK (nS 1 jc (ak 0) sM ["squares","q"] [1,0])))))
def GH:List D->aa->R D:=bh 2 ξ yO
def DG:ah :=
 (aC (bz (fy (dG (aN (aO cM (ao (ak 0) (ao (dC (.ty "tuple")) av))))) (aN (au cS (aO bD ⇑0) (ak 1)))) (aK (dC (.bl ξ))) bA) (aK (gG (aO gH (ao (aX (c9 (ak 0)) [Z,O 1] (aA 0) aP (aB 3 dP (ao (ak 0) (ao (dC (.int 0)) (ao (au bO (ak 1) (dC (.int 1))) av))))) av)) (au cB (CN ⇑0) (ak 1)))))
def iW:List D->aa->R D:=bh 2 ξ DG
def DN:ah :=
 (aK (aO dj (ao (aX (c9 (ak 0)) [Z,O 1] (aA 0) aP (au aD (ak 0) (ak 1))) av)))
def pJ:List D->aa->R D:=bh 2 ξ DN
def DB:ah :=
 (aC (bz (fy (dG (aN (aO cM (ao (ak 0) (ao (dC (.ty "tuple")) av))))) (dG (aN (r8 rJ rJ (dC (.int 1)) (aO bD ⇑0) (dC (.int 7)))))) (aK (dC (.bl ξ))) bA) (aC (aG 1 (aO bD ⇑0)) (aC (bz (dG (aN (aO gH (ao (aX (c9 (ak 0)) [Z,O 1] (aA 0) aP (aB 2 iW (0⊂1))) av)))) (aK (dC (.bl ξ))) bA) (aK (aO gH (ao (aX (bH ⇑1) [Z,O 1,O 0] (aA 0) aP (aB 2 iW (ao (aB 2 pJ (2⊂0)) ⇑1))) av))))))
def rE:List D->aa->R D:=bh 2 ξ DB
def C7:ah :=
 (aK (au aD (au aD (ak 0) (au fu (ak 1) (aO bD ⇑0))) (au bZ (ak 1) (aO bD ⇑0))))
def iF:List D->aa->R D:=bh 2 ξ C7
def yH:ah :=
 (aC (aG 2 (au aT (aO bD ⇑0) (aO bD ⇑0))) (aK (au cB (uZ (ao (aX (bH ⇑2) [Z,O 0,O 1] (aA 0) aP (ck (ao (aB 2 iF (1⊂0)) (ao (aB 2 iF (2⊂0)) av)))) av)) (ak 2))))
def xr:List D->aa->R D:=bh 3 ξ yH
def DO:ah :=
 (aC (bY (yt ⇑0) (dU 2 (bR (aA 1) (bR (aA 2) eT))) (bz (dG (aN (aO gH (ao (aX (eX (k9 (ak 0) ly (lq (ak 1)))) [Z,O 2] (aA 0) aP (aB 2 xr (1⊂0))) av)))) (aK (dC (.bl ξ))) bA)) (aK (dC (.bl G))))
def xH:List D->aa->R D:=bh 3 ξ DO
def yN:ah :=
 (aC (bz (fy (dG (aN (aB 3 dP (ao (ak 0) (ao (dC (.int 2)) (ao (dC (.int 7)) av)))))) (fy (dG (aN (aO cM (ao (ak 1) (ao (dC (.ty "list")) av))))) (aN (au jf (aO bD ⇑1) (au bO (ak 0) (dC (.int 1))))))) (aK (dC (.bl ξ))) bA) (aK (gG (aO gH (ao (aX (eX (ak 1)) [Z,O 0] (aA 0) aP (gG (aB 1 rE ⇑0) (au cB (aO bD ⇑0) (ak 1)))) av)) (aB 1 xH ⇑1))))
def GG:List D->aa->R D:=bh 2 ξ yN
def Dg:ah :=
 (bz (dG (aN (aB 2 GG (0⊂1)))) ja bA)
def uh:List D->aa->R D:=bh 2 ξ Dg
def yG:ah :=
 (aK (au fY (cE (ao (au fu (ak 2) (ak 0)) (ao (au bZ (ak 2) (ak 0)) av))) (aX (eX (ak 1)) [Z,O 2] (aA 0) aP (aB 2 iF (0⊂1)))))
def xq:List D->aa->R D:=bh 3 ξ yG
def yF:ah :=
 (aC (dw (aB 2 uh (0⊂1))) (aC (aG 2 (aX (bH (ao (au aT (ak 0) (ak 0)) av)) [Z,O 0,O 1] (aA 0) aP (aB 3 xq (ao (ak 1) (2⊂0))))) (aK (nS 2 jc (au aT (ak 0) (ak 0)) Eb ["lines"] [2]))))
def AS:List D->aa->R D:=bh 3 ξ yF
def Di:ah :=
 (aC (bz (dG (aN (aB 3 dP (ao (ak 0) (ao (dC (.int 3)) (ao (dC (.int 10)) av)))))) ja bA) (aC (aG 1 (fj av)) (aC (bY (bH ⇑0) (aA 2) (dw (iw (ak 1) (aX (kj (ao (au aZ (ak 2) (dC (.int 1))) ⇑0)) [Z,O 2] (aA 0) aP (ck (1⊂0)))))) (aK (nS 3 jc (aO bD ⇑1) vA ["pairs"] [1])))))
def xo:List D->aa->R D:=bh 3 ξ Di
def yM:ah :=
 (aC (bz (aN (au jy (ak 1) (aO bD ⇑0))) (aK (au aD (ak 0) (ak 1))) bA) (aK (dC (.int 0))))
def ux:List D->aa->R D:=bh 2 ξ yM
def yK:ah :=
 (aC (bz (aN (au Rv (ak 0) (au tQ (dC (.int 10)) (dC (.int 18))))) (aK (fj (ao (au bO (ak 0) (au tQ (dC (.int 10)) (dC (.int 18)))) av))) bA) (aC (aG 1 (dC (.int 0))) (aC (bY (bH (ao (dC (.int 64)) av)) (aA 2) (aC (aG 3 (au bZ (au aT (au aZ (au aZ (au bZ (ak 0) (dC (.int 2147483629))) (au aT (dC (.int 7919)) (ak 2))) (dC (.int 1))) (dC (.int 48271))) (dC (.int 2147483647)))) (aC (aG 3 (au bZ (au aZ (au aZ (au aT (ak 3) (ak 3)) (au aT (dC (.int 69621)) (ak 2))) (dC (.int 7))) (dC (.int 2147483587)))) (aG 1 (au aZ (au aT (ak 1) (dC (.int 2147483587))) (ak 3)))))) (aK (fj ⇑1)))))
def uv:List D->aa->R D:=bh 4 G yK
def yI:ah :=
 (aC (aG 2 (au bZ (au aD (ak 0) (dC (.int 0))) (ak 1))) (aC (g8 (au fu (au aD (ak 0) (dC (.int 0))) (ak 1)) (nL (ak 0) (dC (.int 0)))) (aK (ak 2))))
def cI:List D->aa->R D:=bh 3 ξ yI
def Dt:ah :=
 (aK (au aD (aX (eX (cE (fL [2,3,5,7,11,13,17,19,23,29,31,37,41,43,47]))) [Z,O 0] (aA 0) (aN (au cB (au bZ (ak 1) (ak 0)) (dC (.int 0)))) (ak 0)) (dC (.int 0))))
def g9:List D->aa->R D:=bh 1 ξ Dt
def IA:ah :=
 (aC (aG 1 (dC (.int 0))) (aC (gY (aN (au jf (ak 0) (dC (.int 1)))) (aC (aG 0 (au fu (ak 0) (aB 1 g9 ⇑0))) (aG 1 (au aZ (ak 1) (dC (.int 1))))) 10) (aK (ak 1))))
def nC:List D->aa->R D:=bh 2 ξ IA
def Dr:ah :=
 (aC (aG 3 (fj av)) (aC (bY (bH ⇑2) (aA 4) (aC (dw (gx (ak 3) (au bZ (ak 0) (ak 1)))) (aG 0 (au fu (ak 0) (ak 1))))) (aK (ak 3))))
def gr:List D->aa->R D:=bh 5 ξ Dr
def Dv:ah :=
 (aC (aG 2 (dC (.int 0))) (aC (bY (bH (ao (aO bD ⇑0) av)) (aA 3) (aG 2 (au aZ (au aT (ak 2) (ak 1)) (au aD (ak 0) (au bO (au bO (aO bD ⇑0) (dC (.int 1))) (ak 3)))))) (aK (ak 2))))
def uw:List D->aa->R D:=bh 4 ξ Dv
def sC:ah :=
 (aC (aG 3 (au oX (cE (ao (dC (.int 0)) av)) (au bO (au aZ (aO bD ⇑0) (aO bD ⇑1)) (dC (.int 1))))) (aC (bY (bH (ao (aO bD ⇑0) av)) (aA 4) (bY (bH (ao (aO bD ⇑1) av)) (aA 5) (g8 (au bZ (au aZ (au aD (ak 3) (au aZ (ak 4) (ak 5))) (au aT (au aD (ak 0) (ak 4)) (au aD (ak 1) (ak 5)))) (ak 2)) (nL (ak 3) (au aZ (ak 4) (ak 5)))))) (aK (ak 3))))
def rB:List D->aa->R D:=bh 6 ξ sC
def ud:List D->aa->R D:=bh 6 G sC
def vg:ah :=
 (aC (aG 2 (cE (ao (cE av) av))) (aC (bY (bH ⇑0) (aA 3) (aC (aG 4 (fj av)) (aC (bY (eX (ak 2)) (aA 5) (dw (iw (ak 4) (aX (bH ⇑1) [Z,O 5] (aA 0) aP (au fY (ak 1) (cE ⇑0)))))) (aG 2 (ak 4))))) (aK (aX (eX (ak 2)) [Z] (aA 0) aP (au fY (ak 0) (cE (ao (dC (.int 1)) av)))))))
def pG:List D->aa->R D:=bh 6 ξ vg
def Iz:ah :=
 (aC (aG 1 (aB 1 g9 ⇑0)) (aC (aG 2 (aB 1 nC ⇑0)) (aC (bz (aN (au cB (ak 2) (dC (.int 1)))) (aK (cE (ao (dC (.int 0)) (ao (dC (.int 1)) av)))) bA) (aC (aG 3 (fj av)) (aC (bY (kj (ao (dC (.int 1)) (ao (au aZ (au fu (ak 2) (dC (.int 2))) (dC (.int 1))) av))) (aA 4) (bY (eX (aB 2 pG (4⊂1))) (aA 5) (dw (iw (ak 3) (aX (eX (aB 2 pG (ao (au bO (ak 2) (ak 4)) ⇑1))) [Z,O 5,O 1] (aA 0) aP (aB 3 rB (ao (ak 1) (0⊂2)))))))) (aC (aG 6 (dC (.int 0))) (aC (gY (aN (au inD (au fY (aB 3 gr (ao (ak 6) (1⊂2))) (cE (ao (dC (.int 1)) av))) (ak 3))) (aG 6 (au aZ (ak 6) (dC (.int 1)))) 60) (aK (au fY (aB 3 gr (ao (ak 6) (1⊂2))) (cE (ao (dC (.int 1)) av)))))))))))
def xx:List D->aa->R D:=bh 7 ξ Iz
def Ds:ah :=
 (aC (aG 4 (aB 1 g9 ⇑0)) (aC (aG 5 (au bO (aO bD ⇑1) (dC (.int 1)))) (aC (aG 6 (aB 3 ud (ao (aB 3 gr (ao (ak 2) (4⊂5))) (ao (aB 3 gr (ao (ak 3) (4⊂5))) ⇑4)))) (aC (bY (uY (ao (au bO (aO bD ⇑6) (dC (.int 1))) (ao (au bO (ak 5) (dC (.int 1))) (ao (au bO (dC (.int 0)) (dC (.int 1))) av)))) (aA 7) (aC (aG 8 (au aD (ak 6) (ak 7))) (bY (bH (ao (au aZ (ak 5) (dC (.int 1))) av)) (aA 9) (aC (aG 10 (au aZ (au bO (ak 7) (ak 5)) (ak 9))) (g8 (au bZ (au bO (au aD (ak 6) (ak 10)) (au aT (ak 8) (au aD (ak 1) (ak 9)))) (ak 4)) (nL (ak 6) (ak 10))))))) (aK (aB 2 uw (ao (k9 (ak 6) ly (lq (ak 5))) ⇑4)))))))
def ur:List D->aa->R D:=bh 11 ξ Ds
def Iw:ah :=
 (aC (aG 4 (aB 1 g9 ⇑0)) (aC (aG 5 (aB 1 nC ⇑0)) (aC (aG 6 (cE (ao (aB 3 gr (ao (ak 1) (4⊂5))) (ao (aB 3 gr (ao (ak 2) (4⊂5))) av)))) (aK (aB 2 uw (ao (aX (bH ⇑5) [Z,O 4,O 3,O 6] (aA 0) aP (au bZ (au aZ (au aD (au aD (ak 3) (dC (.int 0))) (ak 0)) (au aT (ak 2) (au aD (au aD (ak 3) (dC (.int 1))) (ak 0)))) (ak 1))) ⇑4))))))
def rC:List D->aa->R D:=bh 7 ξ Iw
def yJ:ah :=
 (aC (aG 1 (aB 1 xx ⇑0)) (aK (aX (bH ⇑0) [Z,O 0,O 1] (aA 0) aP (aX (bH ⇑1) [Z,O 1,O 2,O 0] (aA 0) aP (aB 4 ur (ao (ak 1) (ao (ak 2) (3⊂0))))))))
def uq:List D->aa->R D:=bh 2 ξ yJ
def Du:ah :=
 (aC (aG 2 (yr ⇑1)) (aK (aO dj (ao (aX (bH ⇑1) [Z,O 2,O 0] (aA 0) aP (lg (ak 1) (aB 2 cI (ao (ak 2) (ao (aO bD ⇑1) av))))) av))))
def ig:List D->aa->R D:=bh 3 ξ Du
def Dy:ah :=
 (aC (bz (jh (aN (au cB (ak 1) (dC (.int 4)))) (aN (au cB (aB 2 cI (ao (ak 0) (ao (dC (.int 2)) av))) (dC (.int 0))))) (aG 2 (aX (bH ⇑1) [Z,O 1] (aA 0) aP (aX (bH ⇑1) [Z,O 0] (aA 0) aP (au oi (ak 1) (ak 0))))) (aC (aG 3 (au aZ (dC (.int 1)) (aB 2 cI (ao (ak 0) (ao (aO uf (ao (dC (.int 1)) (ao (au bO (ak 1) (dC (.int 1))) av))) av))))) (aC (aG 2 (aX (bH ⇑1) [Z,O 1,O 3] (aA 0) aP (aX (bH ⇑1) [Z,O 1,O 2,O 0] (aA 0) aP (au bZ (au aZ (au aT (ak 2) (ak 3)) (ak 0)) (ak 1))))) (bz (aN (au nv (nR (ao (aX (eX (ak 2)) [Z] (aA 0) aP (au aD (ak 0) (dC (.int 0)))) av)) (rY ⇑1))) (aG 2 (aX (bH ⇑1) [Z,O 1] (aA 0) aP (aX (bH ⇑1) [Z,O 1,O 0] (aA 0) aP (au bZ (au aZ (ak 2) (ak 0)) (ak 1))))) bA)))) (aC (aG 4 (aB 2 ig (0⊂1))) (aC (aG 5 (aB 2 ig (0⊂1))) (aC (aG 6 (aB 2 ig (0⊂1))) (aK (aO dj (ao (aX (c9 (ak 4)) [Z,O 5,O 6,O 2] (aA 0) aP (aO dj (ao (aX (c9 (ak 2)) [Z,O 1,O 3,O 0] (aA 0) aP (au aD (ak 1) (au aD (au aD (ak 2) (ak 3)) (ak 0)))) av))) av)))))))
def rD:List D->aa->R D:=bh 7 ξ Dy
def Dq:ah :=
 (aC (aG 1 (fj (ao (cE (fL [0,1,2,3,4,5])) (ao (cE (fL [1,0,3,2,5,4])) (ao (cE (fL [2,4,0,5,1,3])) (ao (cE (fL [3,5,1,4,0,2])) (ao (cE (fL [4,2,5,0,3,1])) av))))))) (aC (dw (gx (ak 1) (cE (fL [5,3,4,1,2,0])))) (aC (aG 2 (aB 2 ig (ao (ak 0) (ao (dC (.int 6)) av)))) (aK (aO dj (ao (aX (c9 (ak 2)) [Z,O 1] (aA 0) aP (aO dj (ao (au aD (ak 1) (ak 0)) av))) av))))))
def pF:List D->aa->R D:=bh 3 ξ Dq
def Dp:ah :=
 (aC (bz (jh (aN (au cB (ak 1) (dC (.int 6)))) (aN (au cB (aB 2 cI (ao (ak 0) (ao (dC (.int 2)) av))) (dC (.int 0))))) (aK (aB 1 pF ⇑0)) bA) (aK (aB 2 rD (0⊂1))))
def pD:List D->aa->R D:=bh 2 ξ Dp
def yL:ah :=
 (aC (aG 1 (aB 1 uq ⇑0)) (aC (aG 2 (fj av)) (aC (bY (kj (ao (dC (.int 1)) ⇑0)) (aA 3) (aC (aG 4 (fj av)) (aC (bY (bH ⇑0) (aA 5) (dw (gx (ak 4) (aO dj (ao (aX (bH ⇑0) [Z,O 0,O 5,O 1,O 3] (aA 0) aP (aB 4 rC (ao (ak 1) (ao (au aD (au aD (ak 3) (ak 4)) (ak 2)) (ao (ak 0) (ao (dC (.int 1)) av)))))) av))))) (dw (gx (ak 2) (aO dj ⇑4)))))) (aK (ak 2)))))
def xy:List D->aa->R D:=bh 6 G yL
def vf:ah :=
 (aC (aG 1 (au aZ (dC (.int 2)) (aB 2 cI (ao (ak 0) (ao (dC (.int 6)) av))))) (aC (bz (aN (au cB (ak 1) (dC (.int 6)))) (aK (ck (ao (ak 1) (ao (k9 (cE (ao (aB 2 pD (0⊂1)) av)) ly (lq (aB 2 cI (ao (ak 0) (ao (dC (.int 2)) av))))) av)))) bA) (aC (aG 2 (aB 1 xy ⇑1)) (aC (aG 3 (fj av)) (aC (bY (bH (ao (aB 2 cI (0⊂1)) av)) (aA 4) (dw (gx (ak 3) (lg (ak 2) (aB 2 cI (ao (ak 0) (ao (aO bD ⇑2) av))))))) (aK (ck (1⊂3))))))))
def AV:List D->aa->R D:=nO 5 vf
def Dw:ah :=
 (aC (aG 1 (aB 2 cI (ao (ak 0) (ao (dC (.int 3)) av)))) (aC (bz (aN (au cB (ak 1) (dC (.int 0)))) (aK (aB 1 GH (ao (au aD (cE (fL [5,9,13,17,25,29])) (aB 2 cI (ao (ak 0) (ao (dC (.int 6)) av)))) av))) bA) (aC (bz (aN (au cB (ak 1) (dC (.int 1)))) (aC (g8 (aB 1 AV ⇑0) (dU 2 (bR (aA 2) (bR (aA 3) eT)))) (aK (aB 2 AS (2⊂3)))) bA) (aK (aB 1 xo (ao (au aZ (dC (.int 3)) (aB 2 cI (ao (ak 0) (ao (dC (.int 6)) av)))) av))))))
def xu:List D->aa->R D:=bh 4 ξ Dw
def Dz:ah :=
 (aC (bY (bH (ao (dC (.int 4)) av)) (aA 1) (aC (aG 2 (aB 1 uv (ao (aB 2 ux (0⊂1)) av))) (aC (aG 3 (aB 1 xu ⇑2)) (aC (bz (aN (au cB (aB 2 cI (ao (ak 2) (ao (dC (.int 3)) av))) (dC (.int 0)))) (aG 3 (aB 1 um ⇑3)) bA) (aC (g8 (aB 1 uy ⇑3) (dU 2 (bR (aA 4) (bR (aA 5) eT)))) (aC (bz (fy (aN (au cS (ak 4) (dC (.str "even")))) (aN (au cS (aB 1 jd ⇑5) (gG (au lZ (dC .aJ) (ak 5)) (au jf (au aD (ak 5) (dC (.int 0))) (dC (.int 2))))))) (aK (dC (.bl ξ))) bA) (bz (aN (aB 1 jd ⇑5)) (aC (bz (aN (au jA (aB 1 j4 ⇑5) (dC .aJ))) (aK (dC (.bl ξ))) bA) (aC (aG 6 (aB 1 rj ⇑5)) (bz (aN (au cB (au aD (ak 6) (dC (.int 0))) (dC (.str "whole")))) (aC (g8 (ak 6) (dU 5 (bR (aA 7) (bR (aA 8) (bR (aA 9) (bR (aA 10) (bR (aA 11) eT))))))) (aC (g8 (ak 5) (dU 4 (bR (aA 12) (bR (aA 13) (bR (aA 14) (bR (aA 15) eT)))))) (aC (aG 16 (au aZ (au aT (au aT (au aT (ak 9) (ak 8)) (ak 8)) (ak 8)) (au aT (au aT (au aT (ak 11) (ak 10)) (ak 10)) (ak 10)))) (aC (bz (fy (aN (au cS (au aZ (au aZ (dC (.int 1)) (ak 9)) (ak 11)) (ak 12))) (aN (au cS (au aZ (au aZ (ak 13) (au aT (ak 9) (ak 8))) (au aT (ak 11) (ak 10))) (dC (.int 0))))) (aK (dC (.bl ξ))) bA) (aC (bz (aN (au cS (au aZ (au aT (au aT (ak 13) (ak 13)) (ak 13)) (ak 16)) (au aT (au aT (ak 12) (ak 13)) (ak 14)))) (aK (dC (.bl ξ))) bA) (bz (aN (au cS (aO qG (ao (aX (c9 (ak 3)) [Z] (aA 0) aP (aO bD ⇑0)) av)) (au aT (ak 12) (ak 13)))) (aK (dC (.bl ξ))) bA)))))) bA))) bA))))))) (aK (dC (.bl G))))
def xB:List D->aa->R D:=bh 17 ξ Dz
end Ev
namespace L2
open PySem PySem.Spec PyProof.Rows
structure Dd (K:Γ) (mg:Str->Option Δ) (x:Str) (st:χ) (ps:List Str) where
 a:Ξ
 fd:UH
 d:Def K mg x st ps a fd
 n:μ K ι x=O (O (.ref a))
section
variable {K:Γ}{mg:Str->Option Δ}{x:Str}{st:χ}{ps:List Str}{f:Ξ}{h:τ}
def FA(K:Γ)(x:Str)(st:χ)(f:Ξ):Prop:=μ K ι x=O (O (.ref f))/\∃(oc:Δ) (od:Option Ξ) (kV dc pm:Δ) (an:Option Ξ) (cd ct:Δ) (sl:Array (Option Δ)),K.lookup f=O ⟨oc,od,.func (PySem.W.fnOf x x (qb st) (i7 st) (eK st) .none kV dc pm an cd ct),sl⟩/\PySem.W.codeIn K cd x=G/\PySem.W.keepIn K (.ref f)=G
theorem FA.mk{kV:Δ}(a:μ K ι x=O (O (.ref f)))(l:K.lookup f=O ⟨oc,od,.func (PySem.W.fnOf x x (qb st) (i7 st) (eK st) .none kV dc pm an cd ct),sl⟩)(c:PySem.W.codeIn K cd x=G)(k:PySem.W.keepIn K (.ref f)=G):FA K x st f:=⟨a,_,_,_,_,_,_,_,_,_,l,c,k⟩
theorem FA.fn(A:FA K x st f):∃fd,mS K x x st f fd:=by
 obtain⟨_,oc,od,kV,dc,pm,an,cd,ct,sl,l,c,k⟩:=A;exact⟨_,afq l c k⟩
def bN(X:K.In h)(Θ:h.Ns ι mg)(A:FA K x st f)(hb:∀(kV doc pm:Δ) (an:Option Ξ) (cdv ct:Δ) (us:List Δ),us.length=ps.length->bindArgs (PySem.W.fnOf x x (qb st) (i7 st) (eK st) .none kV doc pm an cdv ct) ⟨us,[]⟩=pure (ps.zip us):=by
  intro _ _ _ _ _ _ us hl
  rcases us with _|⟨_,_|⟨_,_|⟨_,_|⟨_,_|⟨_,_⟩⟩⟩⟩⟩<;>first|(simp at hl;done)|rfl):Dd K mg x st ps :=
 ⟨f,A.fn.choose,⟨A.fn.choose_spec,VO X Θ A.1,A.fn.choose_spec.binds hb⟩,A.1⟩
theorem ac6{P:π}(D:Dd K mg x st [p])(Hg:mg x=O (.ref f))(ok:∀base:τ,fS P w K mg base e9 k D.a D.fd [p] sp)(hb:∀(kV doc pm:Δ) (an:Option Ξ) (cdv ct v:Δ),bindArgs (PySem.W.fnOf x x (qb st) (i7 st) (eK st) .none kV doc pm an cdv ct) ⟨[v],[]⟩=pure [(p,v)]:=by exact λ_ _ _ _ _ _ _=>rfl):
  ∃fd:UH,(∀(s:Ψ) (v:Δ),W6 s fd ⟨[v],[]⟩ [(p,v)])/\∀base:τ,K.In base->base.Ns ι mg->fS P w K mg base e9 k f fd [p] sp:=by
 cases(Hg.symm.trans D.d.at');obtain⟨oc,od,kV,doc,pm,an,cdv,ct,osl,hfd,lk,hcd⟩:=D.d.fn.ex;exact⟨D.fd,λs v=>.of_eq (by rw[hfd];exact hb kV doc pm an cdv ct v),λbase _ _=>ok base⟩
end
abbrev bL(P:π)(w:υ){K:Γ}{mg:Str->Option Δ}{x:Str}{st:χ}{ps:List Str}(base:τ)(k:Nat)(F:Dd K mg x st ps)(n:Nat)(m:List D->aa->R D):Prop:=fS P w K mg base e9 k F.a F.fd ps (fZ K n m)
section
variable {X:Cx}{N':List Str}{pick:List (Option Nat)}{scope:UA}{tg elt iter:ν}{ifs:List ν}{pos:Pos}{ds:Ev->aa->R Src}{g:Gd}{dt:ai}{de:af}
theorem aQ{st:χ}{D:Dd X.K X.mg x st ps}{m:List L2.D->aa->R L2.D}{da:Ev->aa->R (List L2.D)}{pos:Pos}(Θ:fS X.prog X.w X.K X.mg X.base e9 k D.a D.fd ps (fZ X.K n m))(hr:c8 j X.A)(ha:e7 X (e::es) da)(hk:k<=j:=by decide)(hg:Gl X x:=by rfl)(hdb:(x==("__debug__":Str))=ξ:=by decide)(he:ε (e::es) X.env=(ξ,eval e X.env)::ε es X.env:=by exact cO rfl)(hpl:(U4 pos (ε es X.env)).any (·.1)=ξ:=by exact fB rfl):
  bu X (.Call (.Name x p) (e::es) [] pos) (aB n m da):=N2 D.d Θ (hr.mono hk) ha hg hdb he hpl
theorem ez(hit:PId X (.Name x p) iter ds)(he:∀cl C s₀ H₀ ex pn,bu (fX X N' scope cl C s₀ H₀ ex pn) elt de)(S:gn X N' pick scope:=by exact gn.of rfl rfl)(hN:N'.Nodup:=by decide +kernel)(hg:N'.Nodup->∀cl C s₀ H₀ ex pn,mP (fX X N' scope cl C s₀ H₀ ex pn) (.Name x p) (aA 0):=by exact λh _ _ _ _ _ _=>gE (i:=0) (hN:=h))(hc:X.calm=G:=by rfl)(hs:∀x,foldedSetIterable iter X.env x=pure x:=by intro _;rfl):
  bu X (.ListComp elt [⟨.Name x p,iter,[],0⟩] scope pos) (aX ds pick (aA 0) aP de):=qT S hit (hg hN) (λ_ _ _ _ _ _=>wD) he hc hs
end
section
variable {X:Cx}{st:χ}{rest:List χ}{t u:ah}{e:ν}{da:af}{pos:Pos}
theorem bC(i:Nat){pos':Pos}(he:bu X e da)(hN:X.N.Nodup:=by assumption)(hi:X.N[i]? = O x:=by rfl)(hx:Loc X.env.scope x:=by first|exact Or.inl rfl|exact Or.inr rfl)(hs:swapsWith e (O (.Name x pos')) pos.line X.env=pure ξ:=by rfl)(hf:X.fn x=G\/X.env.scope.names.lookup x=O .local:=by first|exact .inl rfl|exact .inr rfl):kq X (.Assign [.Name x pos'] e pos) (aG i da):=lS he hN hi hx hs hf
theorem cR(i:Nat)(hN:X.N.Nodup:=by assumption)(hi:X.N[i]? = O x:=by rfl)(hx:Loc X.env.scope x:=by first|exact Or.inl rfl|exact Or.inr rfl)(hf:X.fn x=G\/X.env.scope.names.lookup x=O .local:=by first|exact .inl rfl|exact .inr rfl):mP X (.Name x pos) (aA i):=gE hN hi hx hf
end
theorem bS{P:π}{w:υ}{K:Γ}{mg:Str->Option Δ}{base:τ}{st:χ}{D:Dd K mg x st ps}(N:List Str){k n m:Nat}{own:Bool}{d:ah}(hb:N.Nodup->∀(cdv:Δ) (A:ω) (outer:List Env) (s:Ψ) (H:Hp) (E:XK),c8 k (A.deeper (envOfC x (eK st) s.heap.objs.size D.a cdv))->bB (lz e9 P w K mg base N x (eK st) D.a cdv A outer s H E).lY (i7 st) d)(S:jH N ps (eK st):=by exact⟨rfl,rfl,rfl,by decide +kernel,rfl,by decide +kernel,by decide +kernel⟩)(hN:N.length=n:=by rfl)(hm:ps.length=m:=by rfl):fS P w K mg base e9 (k+1) D.a D.fd ps (fZ K m (bh n own d)) :=
 HC D.d.fn S hN hm (hb S.nd)
end L2
namespace Ev
open PySem L2 PyProof.Rows
set_option genInjectivity false in
set_option genSizeOfSpec false in
structure Tx (K:Γ) (mg:Str->Option Δ) where
 Cm:Dd K mg "is_whole" MX ["thing"]
 Ck:Dd K mg "is_whole_within" MW ["thing","least","most"]
 BL:Dd K mg "root_of" Mr ["number"]
 CG:Dd K mg "agree_somewhere" Nn ["one","other"]
 Ct:Dd K mg "is_field" M5 ["thing"]
 BQ:Dd K mg "require_field" Mv ["thing"]
 BN:Dd K mg "require_things" Ms ["q","things"]
 BK:Dd K mg "row_of" Mq ["q","number"]
 BS:Dd K mg "number_of" Mx ["q","row"]
 BF:Dd K mg "taken" Mj ["q","one","other"]
 BJ:Dd K mg "row_where" Mp ["many","one","are_tied"]
 p7:Dd K mg "web_where" Mf ["many","are_tied"]
 BE:Dd K mg "ties" Mi ["web"]
 uS:Dd K mg "other_web" zQ ["web"]
 CB:Dd K mg "common" Nc ["web","one","other"]
 Cv:Dd K mg "first_unlike_place" M7 ["web"]
 BI:Dd K mg "shared_by_all" Mn ["web","pairs"]
 Cw:Dd K mg "first_unlike_pair" M8 ["web","pairs"]
 Cy:Dd K mg "evenness" M9 ["web"]
 Cq:Dd K mg "is_shared" M1 ["thing","most","has_pairs"]
 BV:Dd K mg "may_be_numbers" Mz ["thing"]
 BR:Dd K mg "other_numbers" Mw ["numbers"]
 Cn:Dd K mg "is_table" MY ["thing"]
 BO:Dd K mg "require_table" Mt ["thing"]
 CA:Dd K mg "d_of" Nb ["table"]
 Cz:Dd K mg "e_of" Na ["table"]
 BY:Dd K mg "leaning_of" MC ["table"]
 BC:Dd K mg "times_of" Mg ["table"]
 BB:Dd K mg "whole_worths" Me ["table","w"]
 kY:Dd K mg "bar_of_room" Nj ["table"]
 k6:Dd K mg "bar_of_counting" Nl ["table"]
 kW:Dd K mg "bar_of_sums" Nh ["table"]
 Cr:Dd K mg "is_product_above" M3 ["k","one","other"]
 kZ:Dd K mg "bar_of_products" Nk ["table"]
 kU:Dd K mg "bar_of_threes" Ng ["table"]
 Co:Dd K mg "is_sum_of_two_squares" MZ ["number"]
 kX:Dd K mg "bar_of_squares" Ni ["table"]
 CD:Dd K mg "barred" Nf ["table"]
 BA:Dd K mg "worths" Mc ["table"]
 BD:Dd K mg "times_letter" Mh ["q","row"]
 BU:Dd K mg "multiplied" My ["q","one","other"]
 BG:Dd K mg "squares_in" Ml ["q"]
 uU:Dd K mg "field_web" zS ["q"]
 Cu:Dd K mg "holds_each_once" M6 ["thing","many"]
 CC:Dd K mg "column_of" Nd ["rows","y"]
 Cp:Dd K mg "is_square" M0 ["thing"]
 BH:Dd K mg "sign_in" Mm ["square","cell"]
 BX:Dd K mg "lie_across" MB ["one","other"]
 CF:Dd K mg "are_each_two_across" Nm ["squares"]
 Cs:Dd K mg "is_net" M4 ["n","thing"]
 BP:Dd K mg "require_net" Mu ["n","thing"]
 BW:Dd K mg "lines_through" MA ["n","squares","cell"]
 uT:Dd K mg "net_web" zR ["n","squares"]
 uR:Dd K mg "pairs_web" zP ["m"]
 Cj:Dd K mg "_law_cell_at" MU ["script","k"]
 B9:Dd K mg "_law_pot" ML ["cell"]
 BZ:Dd K mg "_law_take" MD ["pot","far"]
 B8:Dd K mg "_law_prime" MK ["q"]
 Cg:Dd K mg "_law_degree" MS ["q"]
 B5:Dd K mg "_law_row" MH ["number","p","many"]
 Cb:Dd K mg "_law_number" MN ["row","p"]
 p8:Dd K mg "_law_sums_product" Ft ["one","other","p"]
 Cd:Dd K mg "_law_heads" MP ["many","p"]
 Ce:Dd K mg "_law_form" MQ ["q"]
 B7:Dd K mg "_law_product" MJ ["q","form","one","other"]
 B0:Dd K mg "_law_sum" ME ["q","one","other","sign"]
 B6:Dd K mg "_law_products_of" MI ["q"]
 Ca:Dd K mg "_law_order" MM ["pot","many"]
 Ci:Dd K mg "_law_cycled" MT ["pot","n"]
 B4:Dd K mg "_law_six" MG ["pot"]
 B3:Dd K mg "_law_square" MF ["pot","n"]
 Cf:Dd K mg "_law_field_squares" MR ["q"]
 yi:Dd K mg "_law_some_net" Fv ["pot"]
 Cc:Dd K mg "_law_made" MO ["pot"]
 yj:Dd K mg "law" MV ["script"]
 Pp:mg "abs"=Z
 ua:mg "all"=Z
 Gs:mg "any"=Z
 Po:mg "bool"=Z
 AL:mg "enumerate"=Z
 Pn:mg "int"=Z
 pB:mg "isinstance"=Z
 cY:mg "len"=Z
 AK:mg "list"=Z
 Pk:mg "max"=Z
 cT:mg "range"=Z
 Gr:mg "reversed"=Z
 qX:mg "set"=Z
 Gq:mg "sorted"=Z
 Pj:mg "sum"=Z
 iV:mg "tuple"=Z
 wV:mg "zip"=Z
 oJ:Ξ
 oE:Ξ
 qF:PySem.W.tabIn K "field_web"=O (oJ,oE)
 sW:PySem.W.codeHdIn K oJ oE=G
 oH:Ξ
 oB:Ξ
 qE:PySem.W.tabIn K "net_web"=O (oH,oB)
 sV:PySem.W.codeHdIn K oH oB=G
 oG:Ξ
 oA:Ξ
 qD:PySem.W.tabIn K "other_web"=O (oG,oA)
 sU:PySem.W.codeHdIn K oG oA=G
 oF:Ξ
 oz:Ξ
 qC:PySem.W.tabIn K "pairs_web"=O (oF,oz)
 sS:PySem.W.codeHdIn K oF oz=G
 mV:vQ K=G
 sG:Ξ
 RA:mg "BARS"=O (.ref sG)
 NH:cF K (λ_=>Z) sG (([kY.a,k6.a,kW.a,kZ.a,kU.a,kX.a]:List Ξ).map V.ref)
 RY:∀(i:Nat) (y:Str),kE[i]? = O y->∃f,([kY.a,k6.a,kW.a,kZ.a,kU.a,kX.a]:List Ξ)[i]? = O f/\μ K ι y=O (O (.ref f))
 vP:Tok
 Rz:mg "LEAST_IN_NET"=O (.int 2 vP)
 vO:Tok
 Ry:mg "LEAST_PAIRED"=O (.int 3 vO)
 vN:Tok
 Rx:mg "LEAST_PLACES"=O (.int 3 vN)
 vM:Tok
 Hy:mg "MOST_COUNTED"=O (.int 100 vM)
 vL:Tok
 Rw:mg "MOST_PAIRED"=O (.int 10 vL)
 vK:Tok
 Hx:mg "MOST_SIGNS"=O (.int 7 vK)
 qo:Ξ
 uL:mg "FIELDS"=O (.ref qo)
 Gw:μ K ι "FIELDS"=O (O (.ref qo))
 sX:rW K qo lF=G
section
variable {P:π}{w:υ}{K:Γ}{mg:Str->Option Δ}{base:τ}
theorem Ov(T:Tx K mg):bL P w base 1 T.Cm 1 j3 :=
 bS ["thing"] λhN _ _ _ _ _ _ _=>by
  show bB _ _ nW;unfold nW;exact(aM (aU (ni (cA sf T.pB Vn (ay (aq 0) (ay (qR rfl T.Pn boot_int) az))) (ng (anV (cA sf T.pB Vn (ay (aq 0) (ay (qR rfl T.Po boot_bool) az))))))))
theorem kJ(T:Tx K mg):bL P w base 2 T.Ck 3 dP :=
 bS ["thing","least","most"] λhN _ _ _ _ _ _ hr=>by
  show bB _ _ mJ;unfold mJ;exact(aM (aU (ni (aQ (Ov T) hr (ay (aq 0) az)) (ng (aag Ay Ay (aq 1) (aq 0) (aq 2))))))
theorem Av(T:Tx K mg):bL P w base 1 T.BL 1 pC :=
 bS ["number","root"] λhN _ _ _ _ _ _ _=>by
  show bB _ _ ve;unfold ve;refine aL (bC 1 aE) ?_;refine aL (Fj (n:=1000) (cy tX (aH cH (aq 1) (aq 1)) (aq 0)) (aM (bC 1 (aH cG (aq 1) aE)))) ?_;exact(aM (aU (tS (cy gR (aH cH (aq 1) (aq 1)) (aq 0)) (aq 1) er)))
theorem abo(T:Tx K mg):nZ P w K mg base 1 Ko ["web"] 2 (fZ K (2+1) (jz rO)):=by
 with_unfolding_all refine A7 (k:=0) (ps:=["one","other"]) (ns:=["web"]) (d:=rO) (qt.of rfl rfl rfl (by decide +kernel)) (λq cl pm cdv ct us hl=>match us,hl with|[_,_],_=>rfl) λq f cd cl A outer s H hr=>?_
 show bu _ _ rO;unfold rO;exact(iR (OL (uG hr)) (aq 1) (aV aW (aq 2) (aq 0)))
theorem abG(T:Tx K mg):bL P w base 1 T.CG 2 AZ :=
 bS ["one","other"] λhN _ _ _ _ _ _ _=>by
  show bB _ _ yR;unfold yR;exact(aM (aU (cA SX T.Gs boot_any (ay (qT (N':=["x","y"]) (pick:=[Z,Z]) (gn.of rfl rfl) (Bf (ay (aq 0) (ay (aq 1) az)) T.wV) (λ_ _ _ _ _ _=>(j9 (n:=2) (eW (gE (i:=0) (hN:=(by decide +kernel:V0 (["x","y"]:List Str)))) (eW (gE (i:=1) (hN:=(by decide +kernel:V0 (["x","y"]:List Str)))) j8)))) (λ_ _ _ _ _ _=>wD) (λ_ _ _ _ _ _=>(iR gR (aq 0) (aq 1)))) az))))
theorem abm(T:Tx K mg):nZ P w K mg base 2 Eb ["lines"] 2 (fZ K (2+1) (jz rM)):=by
 with_unfolding_all refine A7 (k:=1) (ps:=["one","other"]) (ns:=["lines"]) (d:=rM) (qt.of rfl rfl rfl (by decide +kernel)) (λq cl pm cdv ct us hl=>match us,hl with|[_,_],_=>rfl) λq f cd cl A outer s H hr=>?_
 show bu _ _ rM;unfold rM;exact(aQ (abG T) hr (ay (aV aW (aq 2) (aq 0)) (ay (aV aW (aq 2) (aq 1)) az)))
theorem abl(T:Tx K mg):nZ P w K mg base 1 vA ["pairs"] 2 (fZ K (2+1) (jz pO)):=by
 with_unfolding_all refine A7 (k:=0) (ps:=["one","other"]) (ns:=["pairs"]) (d:=pO) (qt.of rfl rfl rfl (by decide +kernel)) (λq cl pm cdv ct us hl=>match us,hl with|[_,_],_=>rfl) λq f cd cl A outer s H hr=>?_
 show bu _ _ pO;unfold pO;exact(iR qU (N1 (ay (aV aW (aq 2) (aq 0)) az) (ay (aV aW (aq 2) (aq 1)) az) T.cY T.qX) aE)
theorem abt(T:Tx K mg):bL P w base 2 T.Ct 1 AY :=
 bS ["thing"] λhN _ _ _ _ _ _ hr=>by
  show bB _ _ DF;unfold DF;exact(aM (aU (ni (aQ (Ov T) hr (ay (aq 0) az)) (ng (iR (abR T.Gw T.sX) (aq 0) (aae T.uL T.Gw))))))
theorem F9(T:Tx K mg):bL P w base 3 T.BQ 1 nB :=
 bS ["thing"] λhN _ _ _ _ _ _ hr=>by
  show bB _ _ Dh;unfold Dh;exact(aM (cz (fV (fP (aQ (abt T) hr (ay (aq 0) az)))) (aM oQ) cD))
theorem Ol(T:Tx K mg):bL P w base 4 T.BN 2 rm :=
 bS ["q","things","thing"] λhN _ _ _ _ _ _ hr=>by
  show bB _ _ De;unfold De;refine aL (gZ (aQ (F9 T) hr (ay (aq 0) az))) ?_;exact(aM (eS (j5 (aq 1)) (cR 2) (aM (cz (fV (fP (aQ (kJ T) hr (ay (aq 2) (ay aE (ay (aH cQ (aq 0) aE) az)))))) (aM oQ) cD))))
theorem wK(T:Tx K mg):bL P w base 1 T.BK 2 jx :=
 bS ["q","number","p","row","left","power"] λhN _ _ _ _ _ _ _=>by
  show bB _ _ Dc;unfold Dc;refine aL (bC 2 (Ae T.uL T.sX (aq 0))) ?_;refine aL (bC 3 (jT az)) ?_;refine aL (bC 4 (aq 1)) ?_;refine aL (eS (eB (ay (Ae T.uL T.sX (aq 0)) az) T.cT) (cR 5) (aL (gZ (tT (aq 3) (aH gD (aq 4) (aq 2)))) (aM (bC 4 (aH jX (aq 4) (aq 2)))))) ?_;exact(aM (aU (aq 3)))
theorem Oo(T:Tx K mg):bL P w base 1 T.BS 2 rq :=
 bS ["q","row","p","number","digit"] λhN _ _ _ _ _ _ _=>by
  show bB _ _ Dl;unfold Dl;refine aL (bC 2 (Ae T.uL T.sX (aq 0))) ?_;refine aL (bC 3 aE) ?_;refine aL (eS (QD (ay (aq 1) az) T.Gr) (cR 4) (aM (bC 3 (aH cG (aH cH (aq 3) (aq 2)) (aH gD (aq 4) (aq 2)))))) ?_;exact(aM (aU (aq 3)))
theorem aaT(T:Tx K mg):bL P w base 5 T.BF 3 xm :=
 bS ["q","one","other"] λhN _ _ _ _ _ _ hr=>by
  show bB _ _ C6;unfold C6;refine aL (gZ (aQ (Ol T) hr (ay (aq 0) (ay (fc (ay (aq 1) (ay (aq 2) az))) az)))) ?_;exact(aM (aU (aQ (Oo T) hr (ay (aq 0) (ay (qT (N':=["x","y"]) (pick:=[Z,Z]) (gn.of rfl rfl) (Bf (ay (aQ (wK T) hr (ay (aq 0) (ay (aq 1) az))) (ay (aQ (wK T) hr (ay (aq 0) (ay (aq 2) az))) az)) T.wV) (λ_ _ _ _ _ _=>(j9 (n:=2) (eW (gE (i:=0) (hN:=(by decide +kernel:V0 (["x","y"]:List Str)))) (eW (gE (i:=1) (hN:=(by decide +kernel:V0 (["x","y"]:List Str)))) j8)))) (λ_ _ _ _ _ _=>wD) (λ_ _ _ _ _ _=>(aH cQ (aq 0) (aq 1)))) az)))))
theorem abn(T:Tx K mg):nZ P w K mg base 6 sM ["squares","q"] 2 (fZ K (2+2) (jz pP)):=by
 with_unfolding_all refine A7 (k:=5) (ps:=["one","other"]) (ns:=["squares","q"]) (d:=pP) (qt.of rfl rfl rfl (by decide +kernel)) (λq cl pm cdv ct us hl=>match us,hl with|[_,_],_=>rfl) λq f cd cl A outer s H hr=>?_
 show bu _ _ pP;unfold pP;exact(iR (OM (uG hr)) (aQ (aaT T) hr (ay (aq 3) (ay (aq 0) (ay (aq 1) az)))) (aq 2))
theorem abk(T:Tx K mg){A:ω}(hr:c8 6 A):∀t∈lams,∃k,nZ P w K mg base k t.1 t.2.1 2 (fZ K (2+t.2.1.length) t.2.2)/\c8 k A:=by
 intro t ht;unfold lams at ht;simp only[AP,TZ,or_false]at ht
 rcases ht with rfl|rfl|rfl|rfl
 ·exact⟨_,abo T,hr.mono ⋯⟩
 ·exact⟨_,abn T,hr.mono ⋯⟩
 ·exact⟨_,abm T,hr.mono ⋯⟩
 ·exact⟨_,abl T,hr.mono ⋯⟩
theorem aaV(T:Tx K mg):bL P w base 7 T.BJ 3 jZ :=
 bS ["many","one","are_tied"] λhN _ _ _ _ _ _ hr=>by
  show bB _ _ C9;unfold C9;exact(aM (aU (lX mF T.iV Uk (ay (qT (N':=["other","one","are_tied"]) (pick:=[Z,O 1,O 2]) (gn.of rfl rfl) (eB (ay (aq 0) az) T.cT) (λ_ _ _ _ _ _=>(gE (i:=0) (hN:=(by decide +kernel:V0 (["other","one","are_tied"]:List Str))))) (λ_ _ _ _ _ _=>(FU (PW.pt (Ah (cy gQ (aq 0) (aq 1)) (Ai (fP (aai 2 (abk T (hr.mono ⋯)) (ay (aq 1) (ay (aq 0) az))))))))) (λ_ _ _ _ _ _=>(aq 0))) az))))
theorem Au(T:Tx K mg):bL P w base 8 T.p7 2 jc :=
 bS ["many","are_tied"] λhN _ _ _ _ _ _ hr=>by
  show bB _ _ C3;unfold C3;exact(aM (aU (lX mF T.iV Uk (ay (ez (N':=["one","many","are_tied"]) (pick:=[Z,O 0,O 1]) (eB (ay (aq 0) az) T.cT) (λ_ _ _ _ _ _=>(aQ (aaV T) hr (ay (aq 1) (ay (aq 0) (ay (aq 2) az)))))) az))))
theorem Oj(T:Tx K mg):bL P w base 1 T.BE 1 xj :=
 bS ["web","told","one","row"] λhN _ _ _ _ _ _ _=>by
  show bB _ _ C5;unfold C5;refine aL (bC 1 (jT az)) ?_;refine aL (eS (QE (ay (aq 0) az) T.AL) (j9 (n:=2) (eW (cR 2) (eW (cR 3) j8))) (aM (gZ (Af (aq 1) (qT (N':=["other","one"]) (pick:=[Z,O 2]) (gn.of rfl rfl) (j5 (aq 3)) (λ_ _ _ _ _ _=>(gE (i:=0) (hN:=(by decide +kernel:V0 (["other","one"]:List Str))))) (λ_ _ _ _ _ _=>(FU (cy tX (aq 1) (aq 0)))) (λ_ _ _ _ _ _=>(fc (ay (aq 1) (ay (aq 0) az))))))))) ?_
  exact(aM (aU (aq 1)))
theorem anG:jH ["web"] ["web"] (eK zQ):=⟨rfl,rfl,rfl,by decide +kernel,rfl,by decide +kernel,by decide +kernel⟩
theorem Om(T:Tx K mg):bL P w base 9 T.uS 1 um :=
 Bx (k:=8) T.uS.d.fn T.uS.n anG rfl rfl λcdv A outer s H E hcd hr=>by
  show bB _ _ Dj;unfold Dj;exact(aM (aU (Ag (kk:=0) T.p7.d (Au T) (hr.mono ⋯) (cA dR T.cY U5 (ay (aq 0) az)) (gm.of (by kernel_rfl)) rfl (λ_=>rfl) (y:="other_web") (by decide +kernel) T.qD T.mV (hcd _ _ T.qD) rfl T.sU)))
theorem OB(T:Tx K mg):bL P w base 1 T.CB 3 pI :=
 bS ["web","one","other"] λhN _ _ _ _ _ _ _=>by
  show bB _ _ DM;unfold DM;exact(aM (aU (N1 (ay (aV aW (aq 0) (aq 1)) az) (ay (aV aW (aq 0) (aq 2)) az) T.cY T.qX)))
theorem abu(T:Tx K mg):bL P w base 1 T.Cv 1 xD :=
 bS ["web","place","row"] λhN _ _ _ _ _ _ _=>by
  show bB _ _ DH;unfold DH;refine aL (eS (QE (ay (aq 0) az) T.AL) (j9 (n:=2) (eW (cR 1) (eW (cR 2) j8))) (aM (cz (cy gQ (cA dR T.cY U5 (ay (aq 2) az)) (cA dR T.cY U5 (ay (aV aW (aq 0) aE) az))) (aM (aU (aq 1))) cD))) ?_;exact(aM (aU er))
theorem F8(T:Tx K mg):bL P w base 2 T.BI 2 l8 :=
 bS ["web","pairs"] λhN _ _ _ _ _ _ hr=>by
  show bB _ _ C8;unfold C8;exact(aM (aU (tS (NX (aq 1)) (aQ (OB T) hr (ay (aq 0) (ay (aV aW (aV aW (aq 1) aE) aE) (ay (aV aW (aV aW (aq 1) aE) aE) az)))) er)))
theorem abv(T:Tx K mg):bL P w base 3 T.Cw 2 xE :=
 bS ["web","pairs","shared","pair"] λhN _ _ _ _ _ _ hr=>by
  show bB _ _ DI;unfold DI;refine aL (bC 2 (aQ (F8 T) hr (ay (aq 0) (ay (aq 1) az)))) ?_;refine aL (eS (mj (aq 1)) (cR 3) (aM (cz (cy gQ (aQ (OB T) hr (ay (aq 0) (ay (aV aW (aq 3) aE) (ay (aV aW (aq 3) aE) az)))) (aq 2)) (aM (aU (aq 3))) cD))) ?_;exact(aM (aU er))
theorem abx(T:Tx K mg):bL P w base 10 T.Cy 1 uy :=
 bS ["web","place","near","far","word","pairs","pair"] λhN _ _ _ _ _ _ hr=>by
  show bB _ _ DJ;unfold DJ;refine aL (bC 1 (aQ (abu T) hr (ay (aq 0) az))) ?_;refine aL (cz (cy tY (aq 1) er) (aM (aU (fc (ay iQ (ay (aq 1) az))))) cD) ?_;refine aL (bC 2 (aQ (Oj T) hr (ay (aq 0) az))) ?_;refine aL (bC 3 (aQ (Oj T) hr (ay (aQ (Om T) hr (ay (aq 0) az)) az))) ?_;refine aL (eS (j5 (fc (ay (fc (ay iQ (ay (aq 2) az))) (ay (fc (ay iQ (ay (aq 3) az))) az)))) (j9 (n:=2) (eW (cR 4) (eW (cR 5) j8))) (aL (bC 6 (aQ (abv T) hr (ay (aq 0) (ay (aq 5) az)))) (aM (cz (cy tY (aq 6) er) (aM (aU (fc (ay (aq 4) (ay (aV aW (aq 6) aE) (ay (aV aW (aq 6) aE) az)))))) cD)))) ?_;exact(aM (aU (fc (ay iQ (ay (fc (ay (cA dR T.cY U5 (ay (aq 0) az)) (ay (cA dR T.cY U5 (ay (aV aW (aq 0) aE) az)) (ay (aQ (F8 T) hr (ay (aq 0) (ay (aq 2) az))) (ay (aQ (F8 T) hr (ay (aq 0) (ay (aq 3) az))) az))))) az)))))
theorem Ow(T:Tx K mg):bL P w base 3 T.Cq 3 AX :=
 bS ["thing","most","has_pairs"] λhN _ _ _ _ _ _ hr=>by
  show bB _ _ DC;unfold DC;refine aL (cz (fV (NX (aq 2))) (aM (aU (iR pA (aq 0) er))) cD) ?_;exact(aM (aU (aQ (kJ T) hr (ay (aq 0) (ay aE (ay (aq 1) az))))))
theorem aa2(T:Tx K mg):bL P w base 4 T.BV 1 AU :=
 bS ["thing","most"] λhN _ _ _ _ _ _ hr=>by
  show bB _ _ Dn;unfold Dn;refine aL (cz (PW.pt (jv (fV (fP (cA sf T.pB Vn (ay (aq 0) (ay (qR rfl T.iV Uk) az))))) (jv (cy gQ (cA dR T.cY U5 (ay (aq 0) az)) aE) (lW (fV (fP (aQ (kJ T) hr (ay (aV aW (aq 0) aE) (ay aE (ay (pq rfl T.Hy) az)))))))))) (aM (aU iE)) cD) ?_;refine aL (bC 1 (aH cQ (aV aW (aq 0) aE) aE)) ?_;refine aL (cz (fV (fP (aQ (kJ T) hr (ay (aV aW (aq 0) aE) (ay aE (ay (aq 1) az)))))) (aM (aU iE)) cD) ?_;exact(aM (aU (ni (aQ (Ow T) hr (ay (aV aW (aq 0) aE) (ay (aH cQ (aV aW (aq 0) aE) aE) (ay (iR gQ (aV aW (aq 0) aE) aE) az)))) (ng (aQ (Ow T) hr (ay (aV aW (aq 0) aE) (ay (aV aW (aq 0) aE) (ay (iR gQ (aV aW (aq 0) aE) (aq 1)) az))))))))
theorem aaZ(T:Tx K mg):bL P w base 5 T.BR 1 AR :=
 bS ["numbers","n","k","near","far"] λhN _ _ _ _ _ _ hr=>by
  show bB _ _ Dk;unfold Dk;refine aL (cz (fV (fP (aQ (aa2 T) hr (ay (aq 0) az)))) (aM oQ) cD) ?_;refine aL (bC 1 (aV aW (aq 0) aE)) ?_;refine aL (bC 2 (aV aW (aq 0) aE)) ?_;refine aL (bC 3 (tS (cy pA (aV aW (aq 0) aE) er) er (aH cG (aH cQ (aH cQ (aq 1) (aH cH aE (aq 2))) aE) (aV aW (aq 0) aE)))) ?_;refine aL (bC 4 (tS (cy pA (aV aW (aq 0) aE) er) er (aH cG (aH cQ (aq 1) (aH cH aE (aq 2))) (aV aW (aq 0) aE)))) ?_;exact(aM (aU (fc (ay (aq 1) (ay (aH cQ (aH cQ (aq 1) (aq 2)) aE) (ay (aq 3) (ay (aq 4) az)))))))
theorem Ga(T:Tx K mg):bL P w base 3 T.Cn 1 jd :=
 bS ["thing"] λhN _ _ _ _ _ _ hr=>by
  show bB _ _ vh;unfold vh;refine aL (cz (PW.pt (jv (fV (fP (cA sf T.pB Vn (ay (aq 0) (ay (qR rfl T.iV Uk) az))))) (lW (cy gQ (cA dR T.cY U5 (ay (aq 0) az)) aE)))) (aM (aU iE)) cD) ?_;refine aL (cz (PW.pt (jv (fV (fP (aQ (kJ T) hr (ay (aV aW (aq 0) aE) (ay (pq rfl T.Rx) (ay (pq rfl T.Hy) az)))))) (lW (fV (fP (aQ (kJ T) hr (ay (aV aW (aq 0) aE) (ay aE (ay (aH cQ (aV aW (aq 0) aE) aE) az))))))))) (aM (aU iE)) cD) ?_;exact(aM (aU (ni (aQ (kJ T) hr (ay (aV aW (aq 0) aE) (ay aE (ay (aH cQ (aV aW (aq 0) aE) aE) az)))) (ng (aQ (kJ T) hr (ay (aV aW (aq 0) aE) (ay aE (ay (aV aW (aq 0) aE) az))))))))
theorem aaW(T:Tx K mg):bL P w base 4 T.BO 1 AQ :=
 bS ["thing"] λhN _ _ _ _ _ _ hr=>by
  show bB _ _ Df;unfold Df;exact(aM (cz (fV (fP (aQ (Ga T) hr (ay (aq 0) az)))) (aM oQ) cD))
theorem wL(T:Tx K mg):bL P w base 1 T.CA 1 pH :=
 bS ["table","leap"] λhN _ _ _ _ _ _ _=>by
  show bB _ _ DL;unfold DL;refine aL (bC 1 (aH cQ (aV aW (aq 0) aE) (aV aW (aq 0) aE))) ?_;exact(aM (aU (aH cG (aH cH (aq 1) (aq 1)) (aH cH aE (aH cQ (aV aW (aq 0) aE) (aV aW (aq 0) aE))))))
theorem Gb(T:Tx K mg):bL P w base 1 T.Cz 1 uz :=
 bS ["table"] λhN _ _ _ _ _ _ _=>by
  show bB _ _ DK;unfold DK;exact(aM (aU (aH cG (aH cH aE (aV aW (aq 0) aE)) (aH cH (aH cQ (aV aW (aq 0) aE) aE) (aH cQ (aV aW (aq 0) aE) (aV aW (aq 0) aE))))))
theorem aa5(T:Tx K mg):bL P w base 2 T.BY 1 rA :=
 bS ["table","e","w"] λhN _ _ _ _ _ _ hr=>by
  show bB _ _ sA;unfold sA;refine aL (bC 1 (aQ (Gb T) hr (ay (aq 0) az))) ?_;refine aL (cz (cy gR (aq 1) aE) (aM (aU aE)) cD) ?_;refine aL (bC 2 (aQ (Av T) hr (ay (aQ (wL T) hr (ay (aq 0) az)) az))) ?_;refine aL (cz (PW.pt (jv (cy pA (aq 2) er) (lW (cy gQ (aH gD (aq 1) (aq 2)) aE)))) (aM (aU er)) cD) ?_;exact(aM (aU (aH jX (aq 1) (aq 2))))
theorem F6(T:Tx K mg):bL P w base 3 T.BC 1 nA :=
 bS ["table","leaning","rest"] λhN _ _ _ _ _ _ hr=>by
  show bB _ _ su;unfold su;refine aL (bC 1 (aQ (aa5 T) hr (ay (aq 0) az))) ?_;refine aL (bC 2 (aH cQ (aV aW (aq 0) aE) aE)) ?_;refine aL (cz (PW.pt (jv (cy pA (aq 1) er) (jv (cy gQ (aH gD (aH cQ (aq 2) (aq 1)) aE) aE) (lW (cy qU (cA ag3 T.Pp boot_abs (ay (aq 1) az)) (aq 2)))))) (aM (aU er)) cD) ?_;exact(aM (aU (fc (ay (aH jX (aH cQ (aq 2) (aq 1)) aE) (ay (aH jX (aH cG (aq 2) (aq 1)) aE) az)))))
theorem Oi(T:Tx K mg):bL P w base 1 T.BB 2 xh :=
 bS ["table","w","leap"] λhN _ _ _ _ _ _ _=>by
  show bB _ _ C2;unfold C2;refine aL (bC 2 (aH cQ (aV aW (aq 0) aE) (aV aW (aq 0) aE))) ?_;exact(aM (aU (fc (ay (aH jX (aH cG (aq 2) (aq 1)) aE) (ay (aH jX (aH cQ (aq 2) (aq 1)) aE) az)))))
theorem abC(T:Tx K mg):bL P w base 6 T.kY 1 uB :=
 bS ["table","turned","left"] λhN _ _ _ _ _ _ hr=>by
  show bB _ _ vm;unfold vm;refine aL (bC 1 (aQ (aaZ T) hr (ay (aq 0) az))) ?_;refine aL (eS (j5 (fc (ay (aV aW (aq 1) aE) (ay (aV aW (aq 1) aE) az)))) (cR 2) (aM (cz (cy tX (aq 2) aE) (aM (aU (fc (ay iQ (ay (aq 2) az))))) cD))) ?_;exact(aM (aU er))
theorem abE(T:Tx K mg):bL P w base 1 T.k6 1 xG :=
 bS ["table","one","other"] λhN _ _ _ _ _ _ _=>by
  show bB _ _ yQ;unfold yQ;refine aL (bC 1 (aH cH (aV aW (aq 0) aE) (aH cQ (aH cQ (aV aW (aq 0) aE) (aV aW (aq 0) aE)) aE))) ?_;refine aL (bC 2 (aH cH (aH cQ (aH cQ (aV aW (aq 0) aE) (aV aW (aq 0) aE)) aE) (aV aW (aq 0) aE))) ?_;exact(aM (aU (tS (cy gQ (aq 1) (aq 2)) (fc (ay iQ (ay (aq 1) (ay (aq 2) az)))) er)))
theorem abA(T:Tx K mg):bL P w base 4 T.kW 1 xF :=
 bS ["table"] λhN _ _ _ _ _ _ hr=>by
  show bB _ _ yP;unfold yP;exact(aM (aU (tS (cy pA (aQ (F6 T) hr (ay (aq 0) az)) er) (fc (ay iQ (ay (aQ (wL T) hr (ay (aq 0) az)) (ay (aQ (Gb T) hr (ay (aq 0) az)) az)))) er)))
theorem Ox(T:Tx K mg):bL P w base 1 T.Cr 3 xC :=
 bS ["k","one","other"] λhN _ _ _ _ _ _ _=>by
  show bB _ _ DE;unfold DE;exact(aM (aU (iR qU (aH cH (aH cG (aq 1) aE) (aH cG (aH cG (aq 0) (aq 1)) (aH cH (aH cH aE (aq 1)) (aq 2)))) (aH cH (aH cH (aH cG (aq 0) (aq 1)) (aH cG (aq 2) aE)) (aH cG (aq 2) aE)))))
theorem abD(T:Tx K mg):bL P w base 2 T.kZ 1 rF :=
 bS ["table","w","found"] λhN _ _ _ _ _ _ hr=>by
  show bB _ _ sD;unfold sD;refine aL (bC 1 (aQ (Av T) hr (ay (aQ (wL T) hr (ay (aq 0) az)) az))) ?_;refine aL (cz (cy pA (aq 1) er) (aM (aU er)) cD) ?_;refine aL (bC 2 (aQ (Oi T) hr (ay (aq 0) (ay (aq 1) az)))) ?_;refine aL (cz (fP (aQ (Ox T) hr (ay (aV aW (aq 0) aE) (ay (aV aW (aq 2) aE) (ay (aV aW (aq 2) aE) az))))) (aM (aU (fc (ay iQ (ay aE az))))) cD) ?_;refine aL (cz (fP (aQ (Ox T) hr (ay (aV aW (aq 0) aE) (ay (aV aW (aq 2) aE) (ay (aV aW (aq 2) aE) az))))) (aM (aU (fc (ay iQ (ay aE az))))) cD) ?_;exact(aM (aU er))
theorem abz(T:Tx K mg):bL P w base 4 T.kU 1 pK :=
 bS ["table","times"] λhN _ _ _ _ _ _ hr=>by
  show bB _ _ qk;unfold qk;refine aL (cz (fV (N3 tX tX aE (aV aW (aq 0) aE) (aV aW (aq 0) aE))) (aM (aU er)) cD) ?_;refine aL (eS (j5 (aQ (F6 T) hr (ay (aq 0) az))) (cR 1) (aM (cz (cy qU (aH cH aE (aV aW (aq 0) aE)) (aH cH (aq 1) (aH cG (aq 1) aE))) (aM (aU (fc (ay iQ (ay (aq 1) az))))) cD))) ?_;exact(aM (aU er))
theorem abp(T:Tx K mg):bL P w base 2 T.Co 1 AW :=
 bS ["number"] λhN _ _ _ _ _ _ hr=>by
  show bB _ _ DA;unfold DA;exact(aM (aU (cA SX T.Gs boot_any (ay (ez (N':=["one","number"]) (pick:=[Z,O 0]) (eB (ay (aH cG (aq 0) aE) az) T.cT) (λ_ _ _ _ _ _=>(iR tY (aQ (Av T) hr (ay (aH cQ (aq 1) (aH cH (aq 0) (aq 0))) az)) er))) az))))
theorem abB(T:Tx K mg):bL P w base 3 T.kX 1 uA :=
 bS ["table"] λhN _ _ _ _ _ _ hr=>by
  show bB _ _ vj;unfold vj;refine aL (cz (PW.pt (Ah (cy gR (aQ (Gb T) hr (ay (aq 0) az)) aE) (Ai (fV (fP (aQ (abp T) hr (ay (aV aW (aq 0) aE) az))))))) (aM (aU (fc (ay iQ (ay (aV aW (aq 0) aE) az))))) cD) ?_;exact(aM (aU er))
theorem acr(T:Tx K mg){A:ω}(hr:c8 6 A):∀t∈lR,∃f,μ K ι t.1=O (O (.ref f))/\TR P w K mg base A 1 t.2 f:=by
 intro t ht;unfold lR at ht;simp only[AP,TZ,or_false]at ht
 rcases ht with rfl|rfl|rfl|rfl|rfl|rfl
 ·exact⟨_,T.kY.n,_,_,_,abC T,hr.mono ⋯,T.kY.d.fn.kp,T.kY.d.bd⟩
 ·exact⟨_,T.k6.n,_,_,_,abE T,hr.mono ⋯,T.k6.d.fn.kp,T.k6.d.bd⟩
 ·exact⟨_,T.kW.n,_,_,_,abA T,hr.mono ⋯,T.kW.d.fn.kp,T.kW.d.bd⟩
 ·exact⟨_,T.kZ.n,_,_,_,abD T,hr.mono ⋯,T.kZ.d.fn.kp,T.kZ.d.bd⟩
 ·exact⟨_,T.kU.n,_,_,_,abz T,hr.mono ⋯,T.kU.d.fn.kp,T.kU.d.bd⟩
 ·exact⟨_,T.kX.n,_,_,_,abB T,hr.mono ⋯,T.kX.d.fn.kp,T.kX.d.bd⟩
theorem OC(T:Tx K mg):bL P w base 7 T.CD 1 j4 :=
 bS ["table","bar","found"] λhN _ _ _ _ _ _ hr=>by
  show bB _ _ mK;unfold mK;refine aL (gZ (aQ (aaW T) hr (ay (aq 0) az))) ?_;refine aL (eS (adT T.RA T.NH T.RY rfl) (cR 1) (aL (bC 2 (aah 1 (acr T (hr.mono ⋯)) (ay (aq 0) az))) (aM (cz (cy tY (aq 2) er) (aM (aU (aq 2))) cD)))) ?_
  exact(aM (aU er))
theorem aaR(T:Tx K mg):bL P w base 8 T.BA 1 rj :=
 bS ["table","times","w","found"] λhN _ _ _ _ _ _ hr=>by
  show bB _ _ yE;unfold yE;refine aL (cz (cy tY (aQ (OC T) hr (ay (aq 0) az)) er) (aM oQ) cD) ?_;refine aL (bC 1 (aQ (F6 T) hr (ay (aq 0) az))) ?_;refine aL (bC 2 (aQ (Av T) hr (ay (aQ (wL T) hr (ay (aq 0) az)) az))) ?_;refine aL (cz (cy pA (aq 2) er) (aM (aU (fc (ay iQ (ay (aQ (wL T) hr (ay (aq 0) az)) (ay (aV aW (aq 1) aE) az)))))) cD) ?_;refine aL (bC 3 (aQ (Oi T) hr (ay (aq 0) (ay (aq 2) az)))) ?_;exact(aM (aU (fc (ay iQ (ay (aV aW (aq 3) aE) (ay (aV aW (aq 1) aE) (ay (aV aW (aq 3) aE) (ay (aV aW (aq 1) aE) az))))))))
theorem aaS(T:Tx K mg):bL P w base 2 T.BD 2 ug :=
 bS ["q","row","low"] λhN _ _ _ _ _ _ hr=>by
  show bB _ _ C4;unfold C4;refine aL (bC 2 (aQ (wK T) hr (ay (aq 0) (ay (Ae T.uL T.sX (aq 0)) az)))) ?_;exact(aM (aU (qT (N':=["below","digit","row"]) (pick:=[Z,Z,O 1]) (gn.of rfl rfl) (Bf (ay (aH tZ (fW (ay aE az)) (aq 1)) (ay (aq 2) az)) T.wV) (λ_ _ _ _ _ _=>(j9 (n:=2) (eW (gE (i:=0) (hN:=(by decide +kernel:V0 (["below","digit","row"]:List Str)))) (eW (gE (i:=1) (hN:=(by decide +kernel:V0 (["below","digit","row"]:List Str)))) j8)))) (λ_ _ _ _ _ _=>wD) (λ_ _ _ _ _ _=>(aH cQ (aq 0) (aH cH (aV aW (aq 2) (anW abU aE)) (aq 1)))))))
theorem aa1(T:Tx K mg):bL P w base 5 T.BU 3 uo :=
 bS ["q","one","other","row","product","digit"] λhN _ _ _ _ _ _ hr=>by
  show bB _ _ Dm;unfold Dm;refine aL (gZ (aQ (Ol T) hr (ay (aq 0) (ay (fc (ay (aq 1) (ay (aq 2) az))) az)))) ?_;refine aL (bC 3 (aQ (wK T) hr (ay (aq 0) (ay (aq 2) az)))) ?_;refine aL (bC 4 (aH abP (fW (ay aE az)) (cA dR T.cY U5 (ay (aq 3) az)))) ?_;refine aL (eS (QD (ay (aQ (wK T) hr (ay (aq 0) (ay (aq 1) az))) az) T.Gr) (cR 5) (aM (anI (i:=4) (hN:=hN) (N':=["x","y","digit"]) (pick:=[Z,Z,O 5]) (gn.of rfl rfl) (Bf (ay (aQ (aaS T) hr (ay (aq 0) (ay (aq 4) az))) (ay (aq 3) az)) T.wV) (λ_ _ _ _ _ _=>(j9 (n:=2) (eW (gE (i:=0) (hN:=(by decide +kernel:V0 (["x","y","digit"]:List Str)))) (eW (gE (i:=1) (hN:=(by decide +kernel:V0 (["x","y","digit"]:List Str)))) j8)))) (λ_ _ _ _ _ _=>wD) (λ_ _ _ _ _ _=>(aH cG (aq 0) (aH cH (aq 2) (aq 1))))))) ?_
  exact(aM (aU (aQ (Oo T) hr (ay (aq 0) (ay (aq 4) az)))))
theorem aaU(T:Tx K mg):bL P w base 6 T.BG 1 AO :=
 bS ["q"] λhN _ _ _ _ _ _ hr=>by
  show bB _ _ Iu;unfold Iu;refine aL (gZ (aQ (F9 T) hr (ay (aq 0) az))) ?_;exact(aM (aU (NY (ay (ez (N':=["thing","q"]) (pick:=[Z,O 0]) (Bg (ay aE (ay (aq 0) az)) T.cT) (λ_ _ _ _ _ _=>(aQ (aa1 T) hr (ay (aq 1) (ay (aq 0) (ay (aq 0) az)))))) az) T.Gq T.qX)))
theorem Mb:jH ["q","squares"] ["q"] (eK zS):=⟨rfl,rfl,rfl,by decide +kernel,rfl,by decide +kernel,by decide +kernel⟩
theorem abw(T:Tx K mg):bL P w base 9 T.uU 1 GH :=
 Bx (k:=8) T.uU.d.fn T.uU.n Mb rfl rfl λcdv A outer s H E hcd hr=>by
  show bB _ _ yO;unfold yO;refine aL (gZ (aQ (F9 T) hr (ay (aq 0) az))) ?_;refine aL (cz (cy gQ (aH gD (aq 0) aE) aE) (aM oQ) cD) ?_;refine aL (lS (i:=1) (aQ (aaU T) hr (ay (aq 0) az)) (hN:=Mb.nd)) ?_;exact(aM (aU (Ag (kk:=1) T.p7.d (Au T) (hr.mono ⋯) (aq 0) (gm.of (by kernel_rfl)) rfl (λ_=>rfl) (y:="field_web") (by decide +kernel) T.qF T.mV (hcd _ _ T.qF) rfl T.sW)))
theorem Oz(T:Tx K mg):bL P w base 3 T.Cu 2 iW :=
 bS ["thing","many"] λhN _ _ _ _ _ _ hr=>by
  show bB _ _ DG;unfold DG;refine aL (cz (PW.pt (jv (fV (fP (cA sf T.pB Vn (ay (aq 0) (ay (qR rfl T.iV Uk) az))))) (lW (cy gQ (cA dR T.cY U5 (ay (aq 0) az)) (aq 1))))) (aM (aU iE)) cD) ?_;exact(aM (aU (ni (cA yw T.ua boot_all (ay (ez (N':=["sign","many"]) (pick:=[Z,O 1]) (j5 (aq 0)) (λ_ _ _ _ _ _=>(aQ (kJ T) hr (ay (aq 0) (ay aE (ay (aH cQ (aq 1) aE) az)))))) az)) (ng (iR gR (aad (ay (aq 0) az) T.cY T.qX) (aq 1))))))
theorem aby(T:Tx K mg):bL P w base 1 T.CC 2 pJ :=
 bS ["rows","y"] λhN _ _ _ _ _ _ _=>by
  show bB _ _ DN;unfold DN;exact(aM (aU (lX mF T.iV Uk (ay (ez (N':=["row","y"]) (pick:=[Z,O 1]) (j5 (aq 0)) (λ_ _ _ _ _ _=>(aV aW (aq 0) (aq 1)))) az))))
theorem abq(T:Tx K mg):bL P w base 4 T.Cp 1 rE :=
 bS ["thing","many"] λhN _ _ _ _ _ _ hr=>by
  show bB _ _ DB;unfold DB;refine aL (cz (PW.pt (jv (fV (fP (cA sf T.pB Vn (ay (aq 0) (ay (qR rfl T.iV Uk) az))))) (lW (fV (N3 Ay Ay aE (cA dR T.cY U5 (ay (aq 0) az)) (pq rfl T.Hx)))))) (aM (aU iE)) cD) ?_;refine aL (bC 1 (cA dR T.cY U5 (ay (aq 0) az))) ?_;refine aL (cz (fV (fP (cA yw T.ua boot_all (ay (ez (N':=["row","many"]) (pick:=[Z,O 1]) (j5 (aq 0)) (λ_ _ _ _ _ _=>(aQ (Oz T) hr (ay (aq 0) (ay (aq 1) az))))) az)))) (aM (aU iE)) cD) ?_
  exact(aM (aU (cA yw T.ua boot_all (ay (ez (N':=["y","many","thing"]) (pick:=[Z,O 1,O 0]) (eB (ay (aq 1) az) T.cT) (λ_ _ _ _ _ _=>(aQ (Oz T) hr (ay (aQ (aby T) hr (ay (aq 2) (ay (aq 0) az))) (ay (aq 1) az))))) az))))
theorem F7(T:Tx K mg):bL P w base 1 T.BH 2 iF :=
 bS ["square","cell"] λhN _ _ _ _ _ _ _=>by
  show bB _ _ C7;unfold C7;exact(aM (aU (aV aW (aV aW (aq 0) (aH jX (aq 1) (cA dR T.cY U5 (ay (aq 0) az)))) (aH gD (aq 1) (cA dR T.cY U5 (ay (aq 0) az))))))
theorem aa4(T:Tx K mg):bL P w base 2 T.BX 2 xr :=
 bS ["one","other","cells"] λhN _ _ _ _ _ _ hr=>by
  have hu:=Nat.lt_of_succ_lt (ad8 hr);show bB _ _ yH;unfold yH;refine aL (bC 2 (aH cH (cA dR T.cY U5 (ay (aq 0) az)) (cA dR T.cY U5 (ay (aq 0) az)))) ?_;exact(aM (aU (iR gR (aac (uG hr) (ay (ez (N':=["cell","one","other"]) (pick:=[Z,O 0,O 1]) (eB (ay (aq 2) az) T.cT) (λ_ _ _ _ _ _=>(fc (ay (aQ (F7 T) hr (ay (aq 1) (ay (aq 0) az))) (ay (aQ (F7 T) hr (ay (aq 2) (ay (aq 0) az))) az))))) az) T.cY T.qX) (aq 2))))
theorem abF(T:Tx K mg):bL P w base 3 T.CF 1 xH :=
 bS ["squares","number","square"] λhN _ _ _ _ _ _ hr=>by
  show bB _ _ DO;unfold DO;refine aL (eS (adU (ay (aq 0) az) T.AL) (j9 (n:=2) (eW (cR 1) (eW (cR 2) j8))) (aM (cz (fV (fP (cA yw T.ua boot_all (ay (ez (N':=["other","square"]) (pick:=[Z,O 2]) (mj (F0 (aq 0) FP (FO (aq 1)))) (λ_ _ _ _ _ _=>(aQ (aa4 T) hr (ay (aq 1) (ay (aq 0) az))))) az)))) (aM (aU iE)) cD))) ?_
  exact(aM (aU iE))
theorem abr(T:Tx K mg):bL P w base 5 T.Cs 2 GG :=
 bS ["n","thing"] λhN _ _ _ _ _ _ hr=>by
  show bB _ _ yN;unfold yN;refine aL (cz (PW.pt (jv (fV (fP (aQ (kJ T) hr (ay (aq 0) (ay (pq rfl T.Rz) (ay (pq rfl T.Hx) az)))))) (jv (fV (fP (cA sf T.pB Vn (ay (aq 1) (ay (qR rfl T.AK boot_list) az))))) (lW (cy qU (cA dR T.cY U5 (ay (aq 1) az)) (aH cQ (aq 0) aE)))))) (aM (aU iE)) cD) ?_;exact(aM (aU (ni (cA yw T.ua boot_all (ay (ez (N':=["square","n"]) (pick:=[Z,O 0]) (mj (aq 1)) (λ_ _ _ _ _ _=>(ni (aQ (abq T) hr (ay (aq 0) az)) (ng (iR gR (cA dR T.cY U5 (ay (aq 0) az)) (aq 1)))))) az)) (ng (aQ (abF T) hr (ay (aq 1) az))))))
theorem aaX(T:Tx K mg):bL P w base 6 T.BP 2 uh :=
 bS ["n","thing"] λhN _ _ _ _ _ _ hr=>by
  show bB _ _ Dg;unfold Dg;exact(aM (cz (fV (fP (aQ (abr T) hr (ay (aq 0) (ay (aq 1) az))))) (aM oQ) cD))
theorem aa3(T:Tx K mg):bL P w base 2 T.BW 3 xq :=
 bS ["n","squares","cell"] λhN _ _ _ _ _ _ hr=>by
  show bB _ _ yG;unfold yG;exact(aM (aU (aH tZ (fW (ay (aH jX (aq 2) (aq 0)) (ay (aH gD (aq 2) (aq 0)) az))) (ez (N':=["square","cell"]) (pick:=[Z,O 2]) (mj (aq 1)) (λ_ _ _ _ _ _=>(aQ (F7 T) hr (ay (aq 0) (ay (aq 1) az))))))))
theorem Ma:jH ["n","squares","lines"] ["n","squares"] (eK zR):=⟨rfl,rfl,rfl,by decide +kernel,rfl,by decide +kernel,by decide +kernel⟩
theorem aa0(T:Tx K mg):bL P w base 9 T.uT 2 AS :=
 Bx (k:=8) T.uT.d.fn T.uT.n Ma rfl rfl λcdv A outer s H E hcd hr=>by
  show bB _ _ yF;unfold yF;refine aL (gZ (aQ (aaX T) hr (ay (aq 0) (ay (aq 1) az)))) ?_;refine aL (lS (i:=2) (ez (N':=["cell","n","squares"]) (pick:=[Z,O 0,O 1]) (eB (ay (aH cH (aq 0) (aq 0)) az) T.cT) (λ_ _ _ _ _ _=>(aQ (aa3 T) hr (ay (aq 1) (ay (aq 2) (ay (aq 0) az)))))) (hN:=Ma.nd)) ?_
  exact(aM (aU (Ag (kk:=2) T.p7.d (Au T) (hr.mono ⋯) (aH cH (aq 0) (aq 0)) (gm.of (by kernel_rfl)) rfl (λ_=>rfl) (y:="net_web") (by decide +kernel) T.qE T.mV (hcd _ _ T.qE) rfl T.sV)))
theorem Fp:jH ["m","pairs","x"] ["m"] (eK zP):=⟨rfl,rfl,rfl,by decide +kernel,rfl,by decide +kernel,by decide +kernel⟩
theorem aaY(T:Tx K mg):bL P w base 9 T.uR 1 xo :=
 Bx (k:=8) T.uR.d.fn T.uR.n Fp rfl rfl λcdv A outer s H E hcd hr=>by
  show bB _ _ Di;unfold Di;refine aL (cz (fV (fP (aQ (kJ T) hr (ay (aq 0) (ay (pq rfl T.Ry) (ay (pq rfl T.Rw) az)))))) (aM oQ) cD) ?_;refine aL (lS (i:=1) (jT az) (hN:=Fp.nd)) ?_;refine aL (eS (eB (ay (aq 0) az) T.cT) (gE (i:=2) (hN:=Fp.nd)) (aM (gZ (Af (aq 1) (ez (N':=["y","x"]) (pick:=[Z,O 2]) (Bg (ay (aH cG (aq 2) aE) (ay (aq 0) az)) T.cT) (λ_ _ _ _ _ _=>(fc (ay (aq 1) (ay (aq 0) az))))))))) ?_
  exact(aM (aU (Ag (kk:=3) T.p7.d (Au T) (hr.mono ⋯) (cA dR T.cY U5 (ay (aq 1) az)) (gm.of (by kernel_rfl)) rfl (λ_=>rfl) (y:="pairs_web") (by decide +kernel) T.qC T.mV (hcd _ _ T.qC) rfl T.sS)))
theorem abi(T:Tx K mg):bL P w base 1 T.Cj 2 ux :=
 bS ["script","k"] λhN _ _ _ _ _ _ _=>by
  show bB _ _ yM;unfold yM;refine aL (cz (cy tX (aq 1) (cA dR T.cY U5 (ay (aq 0) az))) (aM (aU (aV aW (aq 0) (aq 1)))) cD) ?_;exact(aM (aU aE))
theorem abd(T:Tx K mg):bL P w base 1 T.B9 1 uv :=
 bS ["cell","number","j","more"] λhN _ _ _ _ _ _ _=>by
  show bB _ _ yK;unfold yK;refine aL (cz (cy abS (aq 0) (aH OJ aE aE)) (aM (aU (jT (ay (aH cQ (aq 0) (aH OJ aE aE)) az)))) cD) ?_;refine aL (bC 1 aE) ?_;refine aL (eS (eB (ay aE az) T.cT) (cR 2) (aL (bC 3 (aH gD (aH cH (aH cG (aH cG (aH gD (aq 0) aE) (aH cH aE (aq 2))) aE) aE) aE)) (aL (bC 3 (aH gD (aH cG (aH cG (aH cH (aq 3) (aq 3)) (aH cH aE (aq 2))) aE) aE)) (aM (bC 1 (aH cG (aH cH (aq 1) aE) (aq 3))))))) ?_;exact(aM (aU (jT (ay (aq 1) az))))
theorem jV(T:Tx K mg):bL P w base 1 T.BZ 2 cI :=
 bS ["pot","far","found"] λhN _ _ _ _ _ _ _=>by
  show bB _ _ yI;unfold yI;refine aL (bC 2 (aH gD (aV aW (aq 0) aE) (aq 1))) ?_;refine aL (oR (aH jX (aV aW (aq 0) aE) (aq 1)) (Bv (aq 0) aE)) ?_;exact(aM (aU (aq 2)))
theorem Aw(T:Tx K mg):bL P w base 1 T.B8 1 g9 :=
 bS ["q"] λhN _ _ _ _ _ _ _=>by
  show bB _ _ Dt;unfold Dt;refine aM ?_
  with_reducible refine aU ?_
  with_reducible refine aV aW ?_ ?_ ?_
  ·with_reducible refine qT (N':=["p","q"]) (pick:=[Z,O 0]) ?_ ?_ ?_ ?_ ?_ ?_ ?_
   ·exact gn.of rfl rfl
   ·with_reducible refine mj ?_
    with_reducible refine fW ?_
    with_reducible refine nh ?_
    kernel_rfl
   ·exact λ_ _ _ _ _ _=>(gE (i:=0) (hN:=(by decide +kernel:V0 (["p","q"]:List Str))))
   ·exact λ_ _ _ _ _ _=>(FU (cy gR (aH gD (aq 1) (aq 0)) aE))
   ·exact λ_ _ _ _ _ _=>(aq 0)
   ·rfl
   ·intro _;rfl
  ·exact aE
  ·exact λ_ _=>rfl
theorem Ou(T:Tx K mg):bL P w base 2 T.Cg 1 nC :=
 bS ["q","found"] λhN _ _ _ _ _ _ hr=>by
  show bB _ _ IA;unfold IA;refine aL (bC 1 aE) ?_;refine aL (Fj (n:=10) (cy qU (aq 0) aE) (aL (bC 0 (aH jX (aq 0) (aQ (Aw T) hr (ay (aq 0) az)))) (aM (bC 1 (aH cG (aq 1) aE))))) ?_;exact(aM (aU (aq 1)))
theorem tV(T:Tx K mg):bL P w base 1 T.B5 3 gr :=
 bS ["number","p","many","found","k"] λhN _ _ _ _ _ _ _=>by
  show bB _ _ Dr;unfold Dr;refine aL (bC 3 (jT az)) ?_;refine aL (eS (eB (ay (aq 2) az) T.cT) (cR 4) (aL (gZ (tT (aq 3) (aH gD (aq 0) (aq 1)))) (aM (bC 0 (aH jX (aq 0) (aq 1)))))) ?_;exact(aM (aU (aq 3)))
theorem Oq(T:Tx K mg):bL P w base 1 T.Cb 2 uw :=
 bS ["row","p","found","k"] λhN _ _ _ _ _ _ _=>by
  show bB _ _ Dv;unfold Dv;refine aL (bC 2 aE) ?_;refine aL (eS (eB (ay (cA dR T.cY U5 (ay (aq 0) az)) az) T.cT) (cR 3) (aM (bC 2 (aH cG (aH cH (aq 2) (aq 1)) (aV aW (aq 0) (aH cQ (aH cQ (cA dR T.cY U5 (ay (aq 0) az)) aE) (aq 3))))))) ?_;exact(aM (aU (aq 2)))
theorem oU:jH ["one","other","p","found","k","j"] ["one","other","p"] (eK Ft):=⟨rfl,rfl,rfl,by decide +kernel,rfl,by decide +kernel,by decide +kernel⟩
theorem aa6(T:Tx K mg):bL P w base 1 T.p8 3 rB :=
 HC (k:=0) T.p8.d.fn oU rfl rfl λcdv A outer s H E hr=>by
  show bB _ _ sC;unfold sC;refine aL (lS (i:=3) (aH OI (fW (ay aE az)) (aH cQ (aH cG (cA dR T.cY U5 (ay (aq 0) az)) (cA dR T.cY U5 (ay (aq 1) az))) aE)) (hN:=oU.nd)) ?_;refine aL (eS (eB (ay (cA dR T.cY U5 (ay (aq 0) az)) az) T.cT) (gE (i:=4) (hN:=oU.nd)) (aM (eS (eB (ay (cA dR T.cY U5 (ay (aq 1) az)) az) T.cT) (gE (i:=5) (hN:=oU.nd)) (aM (oR (aH gD (aH cG (aV aW (aq 3) (aH cG (aq 4) (aq 5))) (aH cH (aV aW (aq 0) (aq 4)) (aV aW (aq 1) (aq 5)))) (aq 2)) (Bv (aq 3) (aH cG (aq 4) (aq 5)))))))) ?_;exact(aM (aU (aq 3)))
theorem aaQ(T:Tx K mg):bL P w base 1 T.p8 3 ud :=
 HC (k:=0) T.p8.d.fn oU rfl rfl λcdv A outer s H E hr=>by
  show bB _ _ sC;unfold sC;refine aL (lS (i:=3) (aH OI (fW (ay aE az)) (aH cQ (aH cG (cA dR T.cY U5 (ay (aq 0) az)) (cA dR T.cY U5 (ay (aq 1) az))) aE)) (hN:=oU.nd)) ?_;refine aL (eS (eB (ay (cA dR T.cY U5 (ay (aq 0) az)) az) T.cT) (gE (i:=4) (hN:=oU.nd)) (aM (eS (eB (ay (cA dR T.cY U5 (ay (aq 1) az)) az) T.cT) (gE (i:=5) (hN:=oU.nd)) (aM (oR (aH gD (aH cG (aV aW (aq 3) (aH cG (aq 4) (aq 5))) (aH cH (aV aW (aq 0) (aq 4)) (aV aW (aq 1) (aq 5)))) (aq 2)) (Bv (aq 3) (aH cG (aq 4) (aq 5)))))))) ?_;exact(aM (aU (aq 3)))
theorem Ot(T:Tx K mg):bL P w base 1 T.Cd 2 pG :=
 bS ["many","p","found","k","longer","row"] λhN _ _ _ _ _ _ _=>by
  show bB _ _ vg;unfold vg;refine aL (bC 2 (fW (ay (fW az) az))) ?_;refine aL (eS (eB (ay (aq 0) az) T.cT) (cR 3) (aL (bC 4 (jT az)) (aL (eS (mj (aq 2)) (cR 5) (aM (gZ (Af (aq 4) (ez (N':=["digit","row"]) (pick:=[Z,O 5]) (eB (ay (aq 1) az) T.cT) (λ_ _ _ _ _ _=>(aH tZ (aq 1) (fW (ay (aq 0) az))))))))) (aM (bC 2 (aq 4)))))) ?_
  exact(aM (aU (ez (N':=["row"]) (pick:=[Z]) (mj (aq 2)) (λ_ _ _ _ _ _=>(aH tZ (aq 0) (fW (ay aE az)))))))
theorem abf(T:Tx K mg):bL P w base 3 T.Ce 1 xx :=
 bS ["q","p","many","products","less","one","number"] λhN _ _ _ _ _ _ hr=>by
  show bB _ _ Iz;unfold Iz;refine aL (bC 1 (aQ (Aw T) hr (ay (aq 0) az))) ?_;refine aL (bC 2 (aQ (Ou T) hr (ay (aq 0) az))) ?_;refine aL (cz (cy gR (aq 2) aE) (aM (aU (fW (ay aE (ay aE az))))) cD) ?_;refine aL (bC 3 (jT az)) ?_;refine aL (eS (Bg (ay aE (ay (aH cG (aH jX (aq 2) aE) aE) az)) T.cT) (cR 4) (aM (eS (mj (aQ (Ot T) hr (ay (aq 4) (ay (aq 1) az)))) (cR 5) (aM (gZ (Af (aq 3) (ez (N':=["other","one","p"]) (pick:=[Z,O 5,O 1]) (mj (aQ (Ot T) hr (ay (aH cQ (aq 2) (aq 4)) (ay (aq 1) az)))) (λ_ _ _ _ _ _=>(aQ (aa6 T) hr (ay (aq 1) (ay (aq 0) (ay (aq 2) az)))))))))))) ?_
  refine aL (bC 6 aE) ?_;refine aL (Fj (n:=60) (cy (OM (uG hr)) (aH tZ (aQ (tV T) hr (ay (aq 6) (ay (aq 1) (ay (aq 2) az)))) (fW (ay aE az))) (aq 3)) (aM (bC 6 (aH cG (aq 6) aE)))) ?_;exact(aM (aU (aH tZ (aQ (tV T) hr (ay (aq 6) (ay (aq 1) (ay (aq 2) az)))) (fW (ay aE az)))))
theorem abc(T:Tx K mg):bL P w base 2 T.B7 4 ur :=
 bS ["q","form","one","other","p","many","row","place","often","k","at"] λhN _ _ _ _ _ _ hr=>by
  show bB _ _ Ds;unfold Ds;refine aL (bC 4 (aQ (Aw T) hr (ay (aq 0) az))) ?_;refine aL (bC 5 (aH cQ (cA dR T.cY U5 (ay (aq 1) az)) aE)) ?_;refine aL (bC 6 (N2 T.p8.d (aaQ T) (hr.mono ⋯) (ay (aQ (tV T) hr (ay (aq 2) (ay (aq 4) (ay (aq 5) az)))) (ay (aQ (tV T) hr (ay (aq 3) (ay (aq 4) (ay (aq 5) az)))) (ay (aq 4) az))))) ?_
  refine aL (eS (adS (ay (aH cQ (cA dR T.cY U5 (ay (aq 6) az)) aE) (ay (aH cQ (aq 5) aE) (ay (aH cQ aE aE) az))) T.cT) (cR 7) (aL (bC 8 (aV aW (aq 6) (aq 7))) (aM (eS (eB (ay (aH cG (aq 5) aE) az) T.cT) (cR 9) (aL (bC 10 (aH cG (aH cQ (aq 7) (aq 5)) (aq 9))) (aM (oR (aH gD (aH cQ (aV aW (aq 6) (aq 10)) (aH cH (aq 8) (aV aW (aq 1) (aq 9)))) (aq 4)) (Bv (aq 6) (aq 10))))))))) ?_;exact(aM (aU (aQ (Oq T) hr (ay (F0 (aq 6) FP (FO (aq 5))) (ay (aq 4) az)))))
theorem aa7(T:Tx K mg):bL P w base 3 T.B0 4 rC :=
 bS ["q","one","other","sign","p","many","rows"] λhN _ _ _ _ _ _ hr=>by
  show bB _ _ Iw;unfold Iw;refine aL (bC 4 (aQ (Aw T) hr (ay (aq 0) az))) ?_;refine aL (bC 5 (aQ (Ou T) hr (ay (aq 0) az))) ?_;refine aL (bC 6 (fW (ay (aQ (tV T) hr (ay (aq 1) (ay (aq 4) (ay (aq 5) az)))) (ay (aQ (tV T) hr (ay (aq 2) (ay (aq 4) (ay (aq 5) az)))) az)))) ?_;exact(aM (aU (aQ (Oq T) hr (ay (ez (N':=["k","p","sign","rows"]) (pick:=[Z,O 4,O 3,O 6]) (eB (ay (aq 5) az) T.cT) (λ_ _ _ _ _ _=>(aH gD (aH cG (aV aW (aV aW (aq 3) aE) (aq 0)) (aH cH (aq 2) (aV aW (aV aW (aq 3) aE) (aq 0)))) (aq 1)))) (ay (aq 4) az)))))
theorem abb(T:Tx K mg):bL P w base 4 T.B6 1 uq :=
 bS ["q","form"] λhN _ _ _ _ _ _ hr=>by
  show bB _ _ yJ;unfold yJ;refine aL (bC 1 (aQ (abf T) hr (ay (aq 0) az))) ?_;exact(aM (aU (ez (N':=["one","q","form"]) (pick:=[Z,O 0,O 1]) (eB (ay (aq 0) az) T.cT) (λ_ _ _ _ _ _=>(ez (N':=["other","q","form","one"]) (pick:=[Z,O 1,O 2,O 0]) (eB (ay (aq 1) az) T.cT) (λ_ _ _ _ _ _=>(aQ (abc T) hr (ay (aq 1) (ay (aq 2) (ay (aq 3) (ay (aq 0) az)))))))))))
theorem Ax(T:Tx K mg):bL P w base 2 T.Ca 2 ig :=
 bS ["pot","many","left"] λhN _ _ _ _ _ _ hr=>by
  show bB _ _ Du;unfold Du;refine aL (bC 2 (aaa (ay (aq 1) az) T.AK T.cT)) ?_;exact(aM (aU (lX mF T.iV Uk (ay (ez (N':=["k","left","pot"]) (pick:=[Z,O 2,O 0]) (eB (ay (aq 1) az) T.cT) (λ_ _ _ _ _ _=>(NZ (aq 1) (aQ (jV T) hr (ay (aq 2) (ay (cA dR T.cY U5 (ay (aq 1) az)) az)))))) az))))
theorem abh(T:Tx K mg):bL P w base 3 T.Ci 2 rD :=
 bS ["pot","n","rows","by","order","names","columns"] λhN _ _ _ _ _ _ hr=>by
  show bB _ _ Dy;unfold Dy;refine aL (cz (PW.pt (Ah (cy gR (aq 1) aE) (Ai (cy gR (aQ (jV T) hr (ay (aq 0) (ay aE az))) aE)))) (aM (bC 2 (ez (N':=["row","n"]) (pick:=[Z,O 1]) (eB (ay (aq 1) az) T.cT) (λ_ _ _ _ _ _=>(ez (N':=["column","row"]) (pick:=[Z,O 0]) (eB (ay (aq 1) az) T.cT) (λ_ _ _ _ _ _=>(aH abO (aq 1) (aq 0)))))))) (aL (bC 3 (aH cG aE (aQ (jV T) hr (ay (aq 0) (ay (cA ag2 T.Pk boot_max (ay aE (ay (aH cQ (aq 1) aE) az))) az))))) (aL (bC 2 (ez (N':=["row","n","by"]) (pick:=[Z,O 1,O 3]) (eB (ay (aq 1) az) T.cT) (λ_ _ _ _ _ _=>(ez (N':=["column","n","by","row"]) (pick:=[Z,O 1,O 2,O 0]) (eB (ay (aq 1) az) T.cT) (λ_ _ _ _ _ _=>(aH gD (aH cG (aH cH (aq 2) (aq 3)) (aq 0)) (aq 1))))))) (aM (cz (cy (abQ (uG hr)) (NY (ay (ez (N':=["row"]) (pick:=[Z]) (mj (aq 2)) (λ_ _ _ _ _ _=>(aV aW (aq 0) aE))) az) T.Gq T.qX) (aab (ay (aq 1) az) T.AK T.cT)) (aM (bC 2 (ez (N':=["row","n"]) (pick:=[Z,O 1]) (eB (ay (aq 1) az) T.cT) (λ_ _ _ _ _ _=>(ez (N':=["column","n","row"]) (pick:=[Z,O 1,O 0]) (eB (ay (aq 1) az) T.cT) (λ_ _ _ _ _ _=>(aH gD (aH cG (aq 2) (aq 0)) (aq 1)))))))) cD))))) ?_
  refine aL (bC 4 (aQ (Ax T) hr (ay (aq 0) (ay (aq 1) az)))) ?_;refine aL (bC 5 (aQ (Ax T) hr (ay (aq 0) (ay (aq 1) az)))) ?_;refine aL (bC 6 (aQ (Ax T) hr (ay (aq 0) (ay (aq 1) az)))) ?_;exact(aM (aU (lX mF T.iV Uk (ay (ez (N':=["row","names","columns","rows"]) (pick:=[Z,O 5,O 6,O 2]) (j5 (aq 4)) (λ_ _ _ _ _ _=>(lX mF T.iV Uk (ay (ez (N':=["column","names","rows","row"]) (pick:=[Z,O 1,O 3,O 0]) (j5 (aq 2)) (λ_ _ _ _ _ _=>(aV aW (aq 1) (aV aW (aV aW (aq 2) (aq 3)) (aq 0))))) az)))) az))))
theorem aba(T:Tx K mg):bL P w base 3 T.B4 1 pF :=
 bS ["pot","rows","order"] λhN _ _ _ _ _ _ hr=>by
  show bB _ _ Dq;unfold Dq;refine aL ?_ ?_
  ·with_reducible refine lS (i:=1) ?_ ?_ ?_ ?_ ?_ ?_
   ·with_reducible refine jT ?_
    with_reducible refine ay ?_ ?_ ?_
    ·with_reducible refine fW ?_
     with_reducible refine nh ?_
     kernel_rfl
    ·skip
     with_reducible refine ay ?_ ?_ ?_
     ·with_reducible refine fW ?_
      with_reducible refine nh ?_
      kernel_rfl
     ·skip
      with_reducible refine ay ?_ ?_ ?_
      ·with_reducible refine fW ?_
       with_reducible refine nh ?_
       kernel_rfl
      ·skip
       with_reducible refine ay ?_ ?_ ?_
       ·with_reducible refine fW ?_
        with_reducible refine nh ?_
        kernel_rfl
       ·skip
        with_reducible refine ay ?_ ?_ ?_
        ·with_reducible refine fW ?_
         with_reducible refine nh ?_
         kernel_rfl
        ·skip
         with_reducible exact az
        ·exact cO rfl
       ·exact cO rfl
      ·exact cO rfl
     ·exact cO rfl
    ·exact cO rfl
   ·exact hN
   ·rfl
   ·first|exact Or.inl rfl|exact Or.inr rfl
   ·rfl
   ·first|exact .inl rfl|exact .inr rfl
  ·skip
   refine aL (gZ (tT (aq 1) (fW (nh (by kernel_rfl))))) ?_
   refine aL (bC 2 (aQ (Ax T) hr (ay (aq 0) (ay aE az)))) ?_;exact(aM (aU (lX mF T.iV Uk (ay (ez (N':=["row","rows"]) (pick:=[Z,O 1]) (j5 (aq 2)) (λ_ _ _ _ _ _=>(lX mF T.iV Uk (ay (aV aW (aq 1) (aq 0)) az)))) az))))
theorem aa8(T:Tx K mg):bL P w base 4 T.B3 2 pD :=
 bS ["pot","n"] λhN _ _ _ _ _ _ hr=>by
  show bB _ _ Dp;unfold Dp;refine aL (cz (PW.pt (Ah (cy gR (aq 1) aE) (Ai (cy gR (aQ (jV T) hr (ay (aq 0) (ay aE az))) aE)))) (aM (aU (aQ (aba T) hr (ay (aq 0) az)))) cD) ?_;exact(aM (aU (aQ (abh T) hr (ay (aq 0) (ay (aq 1) az)))))
theorem abg(T:Tx K mg):bL P w base 5 T.Cf 1 xy :=
 bS ["q","products","found","often","rows","row"] λhN _ _ _ _ _ _ hr=>by
  show bB _ _ yL;unfold yL;refine aL (bC 1 (aQ (abb T) hr (ay (aq 0) az))) ?_;refine aL (bC 2 (jT az)) ?_;refine aL (eS (Bg (ay aE (ay (aq 0) az)) T.cT) (cR 3) (aL (bC 4 (jT az)) (aL (eS (eB (ay (aq 0) az) T.cT) (cR 5) (aM (gZ (tT (aq 4) (lX mF T.iV Uk (ay (ez (N':=["column","q","row","products","often"]) (pick:=[Z,O 0,O 5,O 1,O 3]) (eB (ay (aq 0) az) T.cT) (λ_ _ _ _ _ _=>(aQ (aa7 T) hr (ay (aq 1) (ay (aV aW (aV aW (aq 3) (aq 4)) (aq 2)) (ay (aq 0) (ay aE az))))))) az)))))) (aM (gZ (tT (aq 2) (lX mF T.iV Uk (ay (aq 4) az)))))))) ?_
  exact(aM (aU (aq 2)))
theorem wj:jH ["pot","n","left","found","k"] ["pot"] (eK Fv):=⟨rfl,rfl,rfl,by decide +kernel,rfl,by decide +kernel,by decide +kernel⟩
theorem aa9(T:Tx K mg):bL P w base 6 T.yi 1 AV :=
 afL (k:=5) T.yi.d.fn wj rfl rfl λcdv A outer s H E hr=>by
  show bB _ _ vf;unfold vf;refine aL (lS (i:=1) (aH cG aE (aQ (jV T) hr (ay (aq 0) (ay aE az)))) (hN:=wj.nd)) ?_;refine aL (cz (cy gR (aq 1) aE) (aM (aU (fc (ay (aq 1) (ay (F0 (fW (ay (aQ (aa8 T) hr (ay (aq 0) (ay (aq 1) az))) az)) FP (FO (aQ (jV T) hr (ay (aq 0) (ay aE az))))) az))))) cD) ?_;refine aL (lS (i:=2) (aQ (abg T) hr (ay (aq 1) az)) (hN:=wj.nd)) ?_;refine aL (lS (i:=3) (jT az) (hN:=wj.nd)) ?_;refine aL (eS (eB (ay (aQ (jV T) hr (ay (aq 0) (ay (aq 1) az))) az) T.cT) (gE (i:=4) (hN:=wj.nd)) (aM (gZ (tT (aq 3) (NZ (aq 2) (aQ (jV T) hr (ay (aq 0) (ay (cA dR T.cY U5 (ay (aq 2) az)) az)))))))) ?_;exact(aM (aU (fc (ay (aq 1) (ay (aq 3) az)))))
theorem abe(T:Tx K mg):bL P w base 10 T.Cc 1 xu :=
 bS ["pot","way","n","squares"] λhN _ _ _ _ _ _ hr=>by
  show bB _ _ Dw;unfold Dw;refine aL (bC 1 (aQ (jV T) hr (ay (aq 0) (ay aE az)))) ?_;refine aL (cz (cy gR (aq 1) aE) (aM (aU (aQ (abw T) hr (ay (aV aW (fW (nh (by kernel_rfl))) (aQ (jV T) hr (ay (aq 0) (ay aE az)))) az)))) cD) ?_
  refine aL (cz (cy gR (aq 1) aE) (aL (oR (aQ (aa9 T) hr (ay (aq 0) az)) (j9 (n:=2) (eW (cR 2) (eW (cR 3) j8)))) (aM (aU (aQ (aa0 T) hr (ay (aq 2) (ay (aq 3) az)))))) cD) ?_;exact(aM (aU (aQ (aaY T) hr (ay (aH cG aE (aQ (jV T) hr (ay (aq 0) (ay aE az)))) az))))
theorem abj(T:Tx K mg):bL P w base 11 T.yj 1 xB :=
 bS ["script","k","pot","web","word","table","found","rest","r","f","s","g","n","own","a","b","cubes"] λhN _ _ _ _ _ _ hr=>by
  show bB _ _ Dz;unfold Dz;refine aL (eS (eB (ay aE az) T.cT) (cR 1) (aL (bC 2 (aQ (abd T) hr (ay (aQ (abi T) hr (ay (aq 0) (ay (aq 1) az))) az))) (aL (bC 3 (aQ (abe T) hr (ay (aq 2) az))) (aL (cz (cy gR (aQ (jV T) hr (ay (aq 2) (ay aE az))) aE) (aM (bC 3 (aQ (Om T) hr (ay (aq 3) az)))) cD) (aL (oR (aQ (abx T) hr (ay (aq 3) az)) (j9 (n:=2) (eW (cR 4) (eW (cR 5) j8)))) (aL (cz (PW.pt (jv (cy gQ (aq 4) iQ) (lW (cy gQ (aQ (Ga T) hr (ay (aq 5) az)) (ni (iR (OL (uG hr)) er (aq 5)) (ng (iR qU (aV aW (aq 5) aE) aE))))))) (aM (aU iE)) cD) (aM (cz (fP (aQ (Ga T) hr (ay (aq 5) az))) (aL (cz (cy tY (aQ (OC T) hr (ay (aq 5) az)) er) (aM (aU iE)) cD) (aL (bC 6 (aQ (aaR T) hr (ay (aq 5) az))) (aM (cz (cy gR (aV aW (aq 6) aE) iQ) (aL (oR (aq 6) (j9 (n:=5) (eW (cR 7) (eW (cR 8) (eW (cR 9) (eW (cR 10) (eW (cR 11) j8))))))) (aL (oR (aq 5) (j9 (n:=4) (eW (cR 12) (eW (cR 13) (eW (cR 14) (eW (cR 15) j8)))))) (aL (bC 16 (aH cG (aH cH (aH cH (aH cH (aq 9) (aq 8)) (aq 8)) (aq 8)) (aH cH (aH cH (aH cH (aq 11) (aq 10)) (aq 10)) (aq 10)))) (aL (cz (PW.pt (jv (cy gQ (aH cG (aH cG aE (aq 9)) (aq 11)) (aq 12)) (lW (cy gQ (aH cG (aH cG (aq 13) (aH cH (aq 9) (aq 8))) (aH cH (aq 11) (aq 10))) aE)))) (aM (aU iE)) cD) (aL (cz (cy gQ (aH cG (aH cH (aH cH (aq 13) (aq 13)) (aq 13)) (aq 16)) (aH cH (aH cH (aq 12) (aq 13)) (aq 14))) (aM (aU iE)) cD) (aM (cz (cy gQ (cA ag1 T.Pj boot_sum (ay (ez (N':=["row"]) (pick:=[Z]) (j5 (aq 3)) (λ_ _ _ _ _ _=>(cA dR T.cY U5 (ay (aq 0) az)))) az)) (aH cH (aq 12) (aq 13))) (aM (aU iE)) cD))))))) cD)))) cD)))))))) ?_
  exact(aM (aU iE))
end
end Ev
namespace Ev
open PySem L2
theorem cK(h:s e c=.ok (.nx e') c'):aC s t e c=t e' c':=by rw[i8,h];rfl
theorem qY{i:Int}(h:0<=i):∃n:Nat,i=n:=⟨i.toNat,∅⟩
def dX(j:Nat)(n:Nat)(c:aa):Prop:=c.length=n/\j<n/\∃p:Int,c[j]? = O (.lst [.int p])
theorem dX.set(h:dX j n c)(p:Int):dX j n (c.set j (.lst [.int p])):=by
 obtain⟨h1,h2,_⟩:=h;exact⟨by simp[h1],h2,p,by rw[Ux ∅]⟩
theorem mW{cL:Int}(h:dX j n c)(h0:0<cL)(h1:cL<1073741824):
  ∃(x:Int) (c':aa),0<=x/\x<cL/\dX j n c'/\cI [.ref j,.int cL] c=.ok (.int x) c':=by
 obtain⟨hl,hj,p,hp⟩:=id h;refine⟨p % cL,c.set j (.lst [.int (p/cL)]),VN _ ∅,VM _ h0,h.set _,?_⟩
 have e1:aD (.ref j) (.int 0) c=.ok (.int p) c:=by
  simp[aD,fU,hp]
 have e2:m7 (.ref j) (.int 0) (.int (p/cL)) c=.ok () (c.set j (.lst [.int (p/cL)])):=by
  simp[m7,hp,gu]
 have e3:(c.set j (.lst [.int (p/cL)])).take c.length=c.set j (.lst [.int (p/cL)]):=by
  rw[WN];simp
 simp(disch:=omega) [cI,yI,e1,gT,i6,e2,e3]
theorem apa(cell:Int)(c:aa):∃p:Int,uv [.int cell] c=.ok (.ref c.length) (c++[.lst [.int p]]):=by
 by_cases h:10^18<=cell
 ·simp[uv,yK,NN,h];rw[if_pos (by simpa using h)]
  simp[cU]
 ·obtain⟨e',c',⟨⟨q,v1,v2,rfl⟩,rfl⟩,hf⟩:=HB (g:=aA 2) (s:=(aC (aG 3 (au bZ (au aT (au aZ (au aZ (au bZ (ak 0) (dC (.int 2147483629))) (au aT (dC (.int 7919)) (ak 2))) (dC (.int 1))) (dC (.int 48271))) (dC (.int 2147483647)))) (aC (aG 3 (au bZ (au aZ (au aZ (au aT (ak 3) (ak 3)) (au aT (dC (.int 69621)) (ak 2))) (dC (.int 7))) (dC (.int 2147483587)))) (aG 1 (au aZ (au aT (ak 1) (dC (.int 2147483587))) (ak 3))))))
   (λe c'=>(∃q v1 v2,e=[O (.int cell),O (.int q),v1,v2])/\c'=c) (aY 0 64) [O _,O _,Z,Z] c ⟨⟨0,Z,Z,rfl⟩,rfl⟩ (λx hx e c' ⟨⟨q,v1,v2,he⟩,hc⟩=>by
    obtain⟨i,rfl,i0,i1⟩:=qZ hx;subst he;subst hc;have b0:0<=(cell % 2147483629+7919*i+1)*48271 % 2147483647:=VN _ ⋯
    have b1:(cell % 2147483629+7919*i+1)*48271 % 2147483647<2147483647:=VM _ ⋯
    generalize hm:(cell % 2147483629+7919*i+1)*48271 % 2147483647=m at b0 b1
    refine⟨_,[O _,O (.int (q*2147483587+(m*m+69621*i+7) % 2147483587)),O (.int i),O (.int ((m*m+69621*i+7) % 2147483587))],_,_,rfl,by simp(disch:=omega) [gT,gS,mul_r,hm],⟨⟨_,_,_,rfl⟩,rfl⟩⟩)
  have hh:¬(1000000000000000000<=cell):=by simpa using h
  simp(disch:=omega) [uv,yK,NN,hh];rw[hf];simp[cU]
theorem ag0(ns:List Int)(k:Int)(h:0<=k)(c:aa):∃x:Int,ux [.cP ns,.int k] c=.ok (.int x) c:=by
 by_cases q:k<ns.length
 ·have e:aD (.cP ns) (.int k) c=.ok (.int ns[k.toNat]) c:=by
   show(match dB (ns.map D.int) k with|some d=>R.ok d c|none=>R.bad)=_
   have:dB (ns.map D.int) k=O (.int ns[k.toNat]):=by
    have:=iy (xs:=ns.map D.int) (j:=k.toNat) (v:=.int ns[k.toNat]) (by simp)
    rwa[Int.toNat_of_nonneg h]at this
   rw[this]
  simp[ux,yM,q,e]
 ·exact⟨0,by simp[ux,yM,q]⟩
theorem take2{cL:Int}(hp:c[j]? = O (.lst [.int p]))(h0:0<cL)(h1:cL<1073741824):cI [.ref j,.int cL] c=.ok (.int (p % cL)) (c.set j (.lst [.int (p/cL)])):=by
 have e1:aD (.ref j) (.int 0) c=.ok (.int p) c:=by
  simp[aD,fU,hp]
 have e2:m7 (.ref j) (.int 0) (.int (p/cL)) c=.ok () (c.set j (.lst [.int (p/cL)])):=by
  simp[m7,hp,gu]
 have e3:(c.set j (.lst [.int (p/cL)])).take c.length=c.set j (.lst [.int (p/cL)]):=by
  rw[WN];simp
 simp(disch:=omega) [cI,yI,e1,gT,i6,e2,e3]
theorem HH(l:List D):l.filter (λ_=>G)=l:=by simp
theorem Nz{β:Type}(m:Nat)(F:D->β):(aY 0 (m:Int)).map F=(θ m).map λi:Nat=>F ↥i:=by
 unfold aY;rw[UB,show((m:Int)-0).toNat=m by omega]
 simp
def PO(j n:Nat)(os:List Nat)(c:aa):Prop:=c.length=n+1/\j<n/\(∃p:Int,c[j]? = O (.lst [.int p]))/\c[n]? = O (.lst (nD os))
def wJ:af:=(lg (ak 1) (aB 2 cI (ao (ak 2) (ao (aO bD ⇑1) av))))
theorem acs(l:List Nat)(i:Nat):(nD l).eraseIdx i=nD (l.eraseIdx i):=by
 rw[Vp,Vp];simp[nD,WO,Yq]
theorem CK{l:List Nat}(h:i<l.length):l.Perm (l[i]::l.eraseIdx i):=by
 have e:l.take i++l[i]::l.drop (i+1)=l:=by rw[<-XO h,Vq]
 rw[Vp];have p:(l.take i++l[i]::l.drop (i+1)).Perm (l[i]::(l.take i++l.drop (i+1))):=Yy
 rwa[e]at p
theorem aay{left:List Nat}(hP:PO j n left c)(h1:0<left.length)(h2:left.length<1000):
  ∃(x:Nat) (rest:List Nat) (c':aa),left.Perm (x::rest)/\PO j n rest c'/\(∀k,k≠j->k<n->c'[k]? = c[k]?)/\wJ [v,O (.ref n),O (.ref j)] c=.ok ↥x c':=by
 obtain⟨g1,g2,⟨p,g3⟩,g4⟩:=hP;have ht:=take2 (cL:=(left.length:Int)) g3 ∅ ∅
 have x0:=VN p (show(left.length:Int)≠0 by omega)
 have x1:=VM p (show(0:Int)<(left.length:Int) by omega)
 generalize p % (left.length:Int)=x at ht x0 x1
 obtain⟨i,rfl⟩:=qY x0
 generalize hc1:c.set j _=c1 at ht
 have l1:c1.length=n+1:=by rw[<-hc1];simp[g1]
 have q1:c1[n]? = O (.lst (nD left)):=by rw[<-hc1,Ue ∅];exact g4
 have q0:c1[j]? = O (.lst [.int (p/(left.length:Int))]):=by rw[<-hc1,Ux ∅]
 have hi:i<left.length:=∅
 have hlen:bD [.ref n] c=.ok (.int (left.length:Int)) c:=by
  unfold bD;dsimp only[fU];rw[g4];simp[nD]
 have hget:(nD left)[i]? = O (.int (left[i]:Nat)):=by simp[nD,hi]
 refine⟨left[i],left.eraseIdx i,c1.set n (.lst _),CK hi,⟨by simp[l1],g2,⟨_,by rw[Ue ∅];exact q0⟩,by rw[Ux ∅]⟩,λk k1 k2=>by rw[Ue ∅,<-hc1,Ue ∅],?_⟩
 unfold wJ lg;simp only[cg,gz,gs,R.aF,x_call,b7,gM,cj,hlen,U0,Uc,if_pos,ht,q1];rw[if_pos ⟨∅,by rw[show(nD left).length=left.length by simp[nD]];omega,by rw[show(nD left).length=left.length by simp[nD]];omega⟩,WG,hget]
 rw[acs]
theorem Oh:∀(ks:List D) (v:Option D) (acc:List D) (left:List Nat) (c:aa),left.length=ks.length->left.length<1000->PO j n left c ->
  ∃(os:List Nat) (c':aa),os.Perm left/\PO j n [] c'/\(∀k,k≠j->k<n->c'[k]? = c[k]?)/\bT (λ_=>True) (aA 0) aP wJ ks [v,O (.ref n),O (.ref j)] acc c=.ok (acc++nD os) c'
 |[],v,acc,left,c,hl,_,hP=>by
  have:left=[]:=Yx.mp (by simpa using hl)
  subst this;exact⟨[],c,.refl _,hP,λ_ _ _=>rfl,by simp[nD]⟩
 |k::ks,v,acc,left,c,hl,h2,hP=>by
  rw[U0]at hl;obtain⟨x,rest,c1,hp,P1,f1,h1⟩:=aay (v:=O k) hP ∅ h2
  have hr:rest.length+1=left.length:=by have:=hp.length_eq;simpa using this.symm
  obtain⟨os,c2,hp2,P2,f2,h⟩:=Oh ks (O k) _ rest c1 ∅ ∅ P1
  refine⟨x::os,c2,(hp2.cons x).trans hp.symm,P2,λk k1 k2=>(f2 k k1 k2).trans (f1 k k1 k2),?_⟩
  have e1:aA 0 k [v,O (.ref n),O (.ref j)] c=.ok [O k,O (.ref n),O (.ref j)] c:=rfl;rw[lA,e1,R.aF,oj,R.aF,if_pos rfl,h1,R.aF,h,UY];rfl
theorem aav(b:0<q/\q<1000):(aG 2 (yr ⇑1)) [O (.ref j),O (.int q),Z] c=.ok (.nx [O (.ref j),O (.int q),O (.ref c.length)]) (c++[.lst ((iP 0 q).map D.int)]):=by
 simp only[iL,alu,b7,cg,gz,gs,cj,R.aF];rw[if_pos b];rfl
theorem aau(b:-4611686018427387904<=q/\q<4611686018427387904)(hl:(aY 0 q).length<Ω)(hc:bT (λ_=>True) (aA 0) aP wJ (aY 0 q) [Z,O (.ref n),O (.ref j)] [] c=.ok l c'):(aK (aO dj (ao (aX (bH ⇑1) [Z,O 2,O 0] (aA 0) aP (lg (ak 1) (aB 2 cI (ao (ak 2) (ao (aO bD ⇑1) av))))) av))) [O (.ref j),O (.int q),O (.ref n)] c=.ok (.rt (.tup l)) c':=by
 have hp:cX [Z,O 2,O 0] [O (.ref j),O (.int q),O (.ref n)]=[Z,O (.ref n),O (.ref j)]:=rfl;unfold wJ at hc;simp only[i9,gM,b7,gy,mT,cg,gz,gs,cj,R.aF];rw[if_pos ∅]
 simp only[R.aF];rw[if_pos hl,hp,hc];rfl
theorem NB(m:Nat):iP 0 (m:Int)=(θ m).map λk:Nat=>(k:Int):=by
 unfold iP;rw[show((m:Int)-0).toNat=m by omega]
 refine VD λk _=>?_
 omega
theorem Od{j n m:Nat}(hP:dX j n c)(h1:1<=m)(hm:m<1000):∃os c',os.Perm (θ m)/\dX j n c'/\(∀k,k≠j->k<n->c'[k]? = c[k]?)/\ig [.ref j,.int (m:Int)] c=.ok (.tup (nD os)) c':=by
 have hs:=dS (n:=1000) ⋯
 obtain⟨hl,hj,p,hp⟩:=hP;have e0:=aav (j:=j) (q:=(m:Int)) (c:=c) ∅
 have hr:(iP 0 m).map D.int=nD (θ m):=by rw[NB];simp[nD]
 rw[hr]at e0;have P0:PO j n (θ m) (c++[.lst (nD (θ m))]):=⟨by simp[hl],hj,⟨p,by rw[UZ ∅];exact hp⟩,by rw[Um ∅,hl];simp⟩
 obtain⟨os,c2,ho,P2,f2,hc⟩:=Oh (aY 0 m) Z [] (θ m) _ (by rw[eY,Ul];omega) (by rw[Ul];omega) P0
 rw[UG]at hc;have e1:=aau (q:=(m:Int)) ∅ (by rw[eY];omega) hc
 have hb:Du=aC (aG 2 (yr ⇑1)) (aK (aO dj (ao (aX (bH ⇑1) [Z,O 2,O 0] (aA 0) aP (lg (ak 1) (aB 2 cI (ao (ak 2) (ao (aO bD ⇑1) av))))) av))):=rfl;have es:cW 3 [D.ref j,.int m]=[O (.ref j),O (.int m),Z]:=rfl;obtain⟨l3,_,⟨p3,q3⟩,_⟩:=P2;refine⟨os,c2.take n,ho,⟨by rw[Vb];omega,hj,p3,by rw[Xa hj];exact q3⟩,λk k1 k2=>by rw[Xa k2,f2 k k1 k2,UZ ∅],?_⟩
 rw[hl]at e0;rw[ig,fF,hb,es,cK e0,e1];simp only[R.aF];rw[wz,if_pos (qV os),hl]
theorem F4{j n m:Nat}(hP:dX j n c)(h1:1<=m)(hm:m<1000):∃os c',os.Perm (θ m)/\dX j n c'/\ig [.ref j,.int (m:Int)] c=.ok (.tup (nD os)) c' :=
 let⟨os,c',h1,h2,_,h3⟩:=Od hP h1 hm
 ⟨os,c',h1,h2,h3⟩
theorem Fg(h:s e c=.ok (.rt d) c'):aC s t e c=.ok (.rt d) c':=by
 rw[i8,h];rfl
def It(d:D):Prop:=(∃i:Int,d=.int i)\/d=.bl G\/d=.aJ\/(∃z,d=.str z)\/∃l,d=.tup l
def ju(q:Int):D->Bool
 |.int i=>decide (0<=i)&&decide (i<=q-1)
 |_=>ξ
def xU:D->Bool
 |.int _=>G
 |_=>ξ
theorem abV(h:It d)(c:aa):j3 [d] c=.ok (.bl (xU d)) c:=by
 rcases h with⟨i,rfl⟩|rfl|rfl|⟨z,rfl⟩|⟨l,rfl⟩<;>simp[j3,nW,xU,(λ_=>rfl)]
theorem adI(h:xU d=ξ)(q:Int):ju q d=ξ:=by
 cases d<;>first|(cases h;done)|rfl
theorem adH(h:xU d=G):∃i,d=.int i:=by
 cases d<;>first|(cases h;done)|exact⟨_,rfl⟩
theorem akX(h:It d)(q:Int)(c:aa):dP [d,.int 0,.int (q-1)] c=.ok (.bl (ju q d)) c:=by
 have hw:=abV h c;cases hi:xU d with
 |false =>
  rw[hi]at hw;rw[adI hi];simp[dP,mJ,hw]
 |true =>
  obtain⟨i,rfl⟩:=adH hi;rw[hi]at hw
  by_cases q0:0<=i<;>simp[dP,mJ,hw,ju,q0]
theorem Tp(ha:∀d,It d->a [O d,O T] c=.ok (.bl (ju q d)) c):∀(l:List D) (v:Option D) (acc:List D),(∀d∈l,It d)->bT (λ_=>True) (aA 0) aP a l [v,O T] acc c=.ok (acc++(l.map (ju q)).map D.bl) c
 |[],v,acc,_=>by simp
 |d::l,v,acc,h=>by
  have h1:aA 0 d [v,O T] c=.ok [O d,O T] c:=rfl;rw[lA,h1,R.aF,oj,R.aF,if_pos rfl,ha d (h d (.head _)),R.aF,Tp ha l _ _ (λz hz=>h z (.tail _ hz)),UY]
  rfl
theorem ID(l:List Bool)(c:aa):gH [.lst (l.map D.bl)] c=.ok (.bl (l.all id)) c:=by
 unfold gH oY;dsimp only;rw[CZ]
theorem tR:∀{A B:List Nat},A.Nodup->(∀x∈A,x∈B)->A.length=B.length->A.Perm B
 |[],B,_,_,hl=>by
  have:B=[]:=Yx.mp (by simpa using hl.symm)
  subst this;exact .refl _
 |a::A,B,hn,hs,hl=>by
  obtain⟨h1,h2⟩:=VB.mp hn;have ha:=hs a (.head _);have hp:=List.perm_cons_erase ha;have ih:=tR (A:=A) (B:=B.erase a) h2 (λx hx=>(YN (λe:x=a=>h1 (by rw[<-e];exact hx))).mpr (hs x (.tail _ hx))) (by rw[(YM ha)];rw[U0]at hl;omega)
  exact(ih.cons a).trans hp.symm
theorem amK{ps:List Nat}(hl:ps.length=m)(hm:∀p∈ps,p<m):(cC ps).length=m↔ps.Perm (θ m):=by
 have hn:=wQ (oq ps)
 constructor
 ·intro h;have h1:(cC ps).Perm ps:=tR hn (λx hx=>l7.mp hx) ∅
  exact h1.symm.trans (tR hn (λx hx=>gq.mpr (hm x (l7.mp hx))) (by rw[Ul];exact h))
 ·intro h;have hd:ps.Nodup:=h.nodup_iff.mpr Vm;rw[<-((Yv hd hn).mpr λx=>l7.symm).length_eq,hl]
theorem Gy(ps:List Nat):nD ps=(ps.map λk:Nat=>(k:Int)).map D.int:=by simp[nD]
theorem Ig:∀{ps qs:List Nat},ps.map (λk:Nat=>(k:Int))=qs.map (λk:Nat=>(k:Int))->ps=qs
 |[],[],_=>rfl
 |[],q::qs,h=>by simp at h
 |p::ps,[],h=>by simp at h
 |p::ps,q::qs,h=>by
  rw[T8,T8]at h;obtain⟨h1,h2⟩:=List.cons.inj h;rw[Ig h2,show p=q by omega]
theorem QB:∀{a b:List Int},a.map D.int=b.map D.int->a=b
 |[],[],_=>rfl
 |[],y::b,h=>by simp at h
 |x::a,[],h=>by simp at h
 |x::a,y::b,h=>by
  rw[T8,T8]at h;obtain⟨h1,h2⟩:=List.cons.inj h;cases h1;rw[QB h2]
theorem acq(h:nD ps=nD qs):ps=qs:=by
 rw[Gy,Gy]at h;exact Ig (QB h)
theorem To{m:Nat}:∀{xs:List D},(xs.map (ju (m:Int))).all id=G->∃ps:List Nat,xs=nD ps/\∀p∈ps,p<m
 |[],_=>⟨[],rfl,λp hp=>(by cases hp)⟩
 |d::xs,h=>by
  rw[T8,List.all_cons,T5]at h;obtain⟨ps,rfl,hp⟩:=To h.2;have hd:ju (m:Int) d=G:=h.1;cases d with
  |int i =>
   simp only[ju,T5,decide_eq_true_eq]at hd;obtain⟨k,rfl⟩:=qY hd.1;exact⟨k::ps,rfl,λp dQ=>by
    rcases AP.mp dQ with rfl|h'
    ·omega
    ·exact hp p h'⟩
  |_=>cases hd
theorem NQ:∀{ps:List Nat},(∀p∈ps,p<m)->((nD ps).map (ju (m:Int))).all id=G
 |[],_=>rfl
 |p::ps,h=>by
  have h1:=NQ (ps:=ps) λq hq=>h q (.tail _ hq)
  have h2:=h p (.head _);show(ju (m:Int) ↥p&&((nD ps).map (ju (m:Int))).all id)=G;rw[h1];simp[ju];omega
def aif(m:Nat)(xs:List D):Prop:=∃ps:List Nat,xs=nD ps/\ps.Perm (θ m)
theorem adL{xs:List D}(h:¬(xs.length:Int)=q)(c:aa):(bz (fy (dG (aN (aO cM (ao (ak 0) (ao (dC (.ty "tuple")) av))))) (aN (au cS (aO bD ⇑0) (ak 1)))) (aK (dC (.bl ξ))) bA) [O (.tup xs),O (.int q)] c=.ok (.rt (.bl ξ)) c:=by
 simp[h]
theorem adK{xs:List D}(h:(xs.length:Int)=q)(c:aa):(bz (fy (dG (aN (aO cM (ao (ak 0) (ao (dC (.ty "tuple")) av))))) (aN (au cS (aO bD ⇑0) (ak 1)))) (aK (dC (.bl ξ))) bA) [O (.tup xs),O (.int q)] c=.ok (.nx [O (.tup xs),O (.int q)]) c:=by
 simp[h]
theorem Qy{xs:List D}{l:List Bool}(hl:xs.length<Ω)(hc:bT (λ_=>True) (aA 0) aP (aB 3 dP (ao (ak 0) (ao (dC (.int 0)) (ao (au bO (ak 1) (dC (.int 1))) av)))) xs [Z,O (.int q)] [] c=.ok (l.map D.bl) c)(hs:l.all id=G->jY c (.tup xs)=O ps)(hn:((cC ps).length:Int)=n):
  (aK (gG (aO gH (ao (aX (c9 (ak 0)) [Z,O 1] (aA 0) aP (aB 3 dP (ao (ak 0) (ao (dC (.int 0)) (ao (au bO (ak 1) (dC (.int 1))) av))))) av)) (au cB (CN ⇑0) (ak 1)))) [O (.tup xs),O (.int q)] c=.ok (.rt (.bl (l.all id&&decide (n=q)))) c:=by
 have hp:cX [Z,O 1] [O (D.tup xs),O (.int q)]=[Z,O (.int q)]:=rfl;simp only[i9,KP,gM,b7,gy,KD,cg,gz,gs,cj,R.aF];rw[if_pos hl,hp,hc];simp only[R.aF,ID];cases hA:l.all id with
 |false=>simp
 |true =>
  have h2:=hs hA;simp only[if_true,eO,R.aF,cg,gz,gs];unfold CN;simp only[b7,cg,gz,cj,R.aF,h2,hn,alr,Wm]
theorem aem{m:Nat}(hm:m<60){xs:List D}(hx:∀d∈xs,It d)(hl:xs.length<=20)(c:aa):∃b,iW [.tup xs,.int (m:Int)] c=.ok (.bl b) c/\(b=G↔aif m xs):=by
 have hs:=dS (n:=1000) ⋯
 have hb:DG=aC (bz (fy _ _) (aK (dC (.bl ξ))) bA) (aK (gG (aO gH (ao (aX (c9 (ak 0)) [Z,O 1] (aA 0) aP (aB 3 dP (ao (ak 0) (ao (dC (.int 0)) _)))) av)) _)):=rfl;have es:∀q:Int,cW 2 [.tup xs,.int q]=[O (.tup xs),O (.int q)]:=λ_=>rfl
 by_cases h1:(xs.length:Int)=(m:Int)
 ·have hc:=Tp (a:=(aB 3 dP (ao (ak 0) (ao (dC (.int 0)) (ao (au bO (ak 1) (dC (.int 1))) av))))) (T:=.int (m:Int)) (q:=(m:Int)) (c:=c) (λd h=>by
   have:=akX h (m:Int) c
   generalize (m:Int)=q at *
   simp[this]) xs Z [] hx
  rw[UG]at hc;have Bl:∀{l:List Bool}{n:Int},(aK (gG (aO gH (ao (aX (c9 (ak 0)) [Z,O 1] (aA 0) aP (aB 3 dP (ao (ak 0) _))) av)) _)) [O (.tup xs),O ↥m] c=.ok (.rt (.bl (l.all id&&decide (n=(m:Int))))) c->iW [.tup xs,.int (m:Int)] c=.ok (.bl (l.all id&&decide (n=(m:Int)))) c:=fun{l n} h=>by
   rw[iW,fF,hb,es,cK (adK h1 c),h];simp
  cases hA:(xs.map (ju (m:Int))).all id with
  |false =>
   have h:=Bl (Qy (ps:=[]) (n:=0) ∅ hc (λh=>by rw[hA]at h;cases h) rfl)
   refine⟨_,h,?_⟩;rw[hA,Xd];refine⟨λh=>(by cases h),fun⟨ps,e,hp⟩=>?_⟩
   subst e;rw[NQ λp dQ=>gq.mp (hp.mem_iff.mp dQ)]at hA
   exact hA.symm
  |true =>
   obtain⟨ps,rfl,hp⟩:=To hA;have hpl:ps.length=m:=by
    have:(nD ps).length=ps.length:=by simp[nD]
    omega
   have h64:(cC ps).length<64:=by
    have:=wR (wQ (oq ps)) (λx hx=>l7.mp hx)
    omega
   have h:=Bl (Qy (ps:=ps) (n:=((cC ps).length:Int)) ∅ hc (λ_=>(wW h64 λx hx=>by have:=hp x hx;omega)) rfl)
   refine⟨_,h,?_⟩;rw[hA,Wm,decide_eq_true_eq];have hk:=amK hpl hp;refine⟨λh=>⟨ps,rfl,hk.mp ∅⟩,fun⟨qs,e,hq⟩=>?_⟩
   cases acq e;have:=hk.mpr hq;omega
 ·refine⟨ξ,?_,λh=>(by cases h),fun⟨ps,e,hp⟩=>?_⟩
  ·rw[iW,fF,hb,es,Fg (adL h1 c)];simp
  ·subst e;have:=hp.length_eq;rw[Ul]at this;exact absurd (by simp[nD,this]) h1
def bE(n:Nat)(s:Nat->Nat->Nat):D:=.tup ((θ n).map λi=>.tup (nD ((θ n).map (s i))))
structure e8 (n:Nat) (s:Nat->Nat->Nat):Prop where
 row:∀i,i<n->((θ n).map (s i)).Perm (θ n)
 col:∀k,k<n->((θ n).map λi=>s i k).Perm (θ n)
theorem adz:∀d∈nD ps,It d:=λd hd=>by
 obtain⟨k,_,rfl⟩:=H8.mp hd;exact .inl ⟨_,rfl⟩
theorem QW(hn:n<18){ps:List Nat}(hp:ps.Perm (θ n))(c:aa):iW [.tup (nD ps),.int (n:Int)] c=.ok (.bl G) c:=by
 obtain⟨b,h,i⟩:=aem (m:=n) ∅ (xs:=nD ps) adz (by simp[nD,(by have:=hp.length_eq;simpa using this)];omega) c
 have:b=G:=i.mpr ⟨ps,rfl,hp⟩
 rwa[this]at h
theorem SJ(s:Nat->Nat->Nat)(hk:k<n)(c:aa):∀(l:List Nat) (v:Option D) (acc:List D),bT (λ_=>True) (aA 0) aP (au aD (ak 0) (ak 1)) (l.map λi=>.tup (nD ((θ n).map (s i)))) [v,O ↥k] acc c=.ok (acc++nD (l.map λi=>s i k)) c
 |[],v,acc=>by simp[nD]
 |i::l,v,acc=>by
  have h1:aA 0 _ [v,O ↥k] c=.ok [O (.tup (nD ((θ n).map (s i)))),O ↥k] c:=rfl;have h2:aD (.tup (nD ((θ n).map (s i)))) ↥k c=.ok (.int (s i k:Nat)) c:=by
   rw[EJ,iy (v:=.int (s i k:Nat)) (by simp[nD,hk])]
  have hE:(au aD (ak 0) (ak 1)) [O (.tup (nD ((θ n).map (s i)))),O ↥k] c=.ok (.int (s i k:Nat)) c:=by
   simp only[eO,cg,gz,gs,R.aF,h2]
  rw[T8,lA,h1,R.aF,oj,R.aF,if_pos rfl,hE,R.aF,SJ s hk c l,UY];rfl
theorem agT(s:Nat->Nat->Nat)(hn:n<100)(hk:k<n)(c:aa):pJ [bE n s,.int (k:Int)] c=.ok (.tup (nD ((θ n).map λi=>s i k))) c:=by
 have hs:=dS (n:=1000) ⋯
 have hc:=SJ s hk c (θ n) Z [];rw[UG]at hc;have e:(aK (aO dj (ao (aX (c9 (ak 0)) [Z,O 1] (aA 0) aP (au aD (ak 0) (ak 1))) av))) [O (bE n s),O ↥k] c=.ok (.rt (.tup (nD ((θ n).map λi=>s i k)))) c:=by
  have hp:cX [Z,O 1] [O (bE n s),O ↥k]=[Z,O ↥k]:=rfl;have hd:c9 (ak 0) [O (bE n s),O ↥k] c=.ok ⟨(θ n).map λi=>.tup (nD ((θ n).map (s i))),λ_=>True⟩ c:=rfl
  simp only[i9,gM,b7,gy,hd,cj,R.aF];rw[if_pos (by rw[T6,Ul];omega),hp,hc]
  rfl
 have hb:DN=(aK (aO dj (ao (aX (c9 (ak 0)) [Z,O 1] (aA 0) aP (au aD (ak 0) (ak 1))) av))):=rfl;rw[pJ,fF,hb];have es:cW 2 [bE n s,.int (k:Int)]=[O (bE n s),O ↥k]:=rfl;rw[es,e];simp only[R.aF];rw[wz,if_pos (qV _),Us]
theorem Nq{n:Nat}{a:af}{c:aa}{q:Int}(f:Nat->D):∀(l:List Nat) (v:Option D) (acc:List D),(∀i∈l,a [O (f i),O (.int q)] c=.ok (.bl G) c)->bT (λ_=>True) (aA 0) aP a (l.map f) [v,O (.int q)] acc c=.ok (acc++(l.map λ_=>G).map D.bl) c
 |[],v,acc,_=>by simp
 |i::l,v,acc,h=>by
  have h1:aA 0 (f i) [v,O (.int q)] c=.ok [O (f i),O (.int q)] c:=rfl;rw[T8,lA,h1,R.aF,oj,R.aF,if_pos rfl,h i (.head _),R.aF,Nq (n:=n) f l _ _ (λz hz=>h z (.tail _ hz)),UY]
  rfl
theorem all_true{α:Type}(l:List α):(l.map λ_=>G).all id=G:=by
 induction l with
 |nil=>rfl
 |cons a l ih=>exact ih
theorem ams{xs:List D}{l1 l2:List Bool}(hS:S=.tup xs)(hq:(xs.length:Int)=q)(b:1<=q/\q<=7)(hl:xs.length<Ω)(hlr:(aY 0 q).length<Ω)(h1:bT (λ_=>True) (aA 0) aP (aB 2 iW (0⊂1)) xs [Z,O (.int q)] [] c=.ok (l1.map D.bl) c)(a1:l1.all id=G)(h2:bT (λ_=>True) (aA 0) aP (aB 2 iW (ao (aB 2 pJ (2⊂0)) ⇑1)) (aY 0 q) [Z,O (.int q),O S] [] c=.ok (l2.map D.bl) c)(a2:l2.all id=G):rE [S] c=.ok (.bl G) c:=by
 subst hS;have hb:DB=aC (bz (fy _ _) (aK (dC (.bl ξ))) bA) (aC (aG 1 (aO bD ⇑0)) (aC (bz (dG (aN _)) (aK (dC (.bl ξ))) bA) (aK (aO gH (ao (aX (bH ⇑1) [Z,O 1,O 0] (aA 0) aP _) av))))):=rfl;have es:cW 2 [D.tup xs]=[O (.tup xs),Z]:=rfl;have e0:(bz (fy (dG (aN (aO cM (ao (ak 0) (ao (dC (.ty "tuple")) av))))) (dG (aN (r8 rJ rJ (dC (.int 1)) (aO bD ⇑0) (dC (.int 7)))))) (aK (dC (.bl ξ))) bA) [O (.tup xs),Z] c=.ok (.nx [O (.tup xs),Z]) c:=by
  simp[hq,b.1,b.2]
 have e1:(aG 1 (aO bD ⇑0)) [O (.tup xs),Z] c=.ok (.nx [O (.tup xs),O (.int q)]) c:=by simp[hq]
 have e2:(bz (dG (aN (aO gH (ao (aX (c9 (ak 0)) [Z,O 1] (aA 0) aP (aB 2 iW (0⊂1))) av)))) (aK (dC (.bl ξ))) bA) [O (.tup xs),O (.int q)] c=.ok (.nx [O (.tup xs),O (.int q)]) c:=by
  have hp:cX [Z,O 1] [O (.tup xs),O (.int q)]=[Z,O (.int q)]:=rfl;simp;rw[if_pos hl,hp,h1];simp only[R.aF,ID,a1];simp
 have e3:(aK (aO gH (ao (aX (bH ⇑1) [Z,O 1,O 0] (aA 0) aP (aB 2 iW (ao (aB 2 pJ (2⊂0)) ⇑1))) av))) [O (.tup xs),O (.int q)] c=.ok (.rt (.bl G)) c:=by
  have hp:cX [Z,O 1,O 0] [O (.tup xs),O (.int q)]=[Z,O (.int q),O (.tup xs)]:=rfl;simp only[i9,gM,b7,gy,mT,cg,gz,gs,cj,R.aF];rw[if_pos ∅]
  simp only[R.aF];rw[if_pos hlr,hp,h2];simp only[R.aF,ID,a2]
 rw[rE,fF,hb,es,cK e0,cK e1,cK e2,e3];simp
theorem amx{s:Nat->Nat->Nat}(h:e8 n s)(h1:1<=n)(h7:n<=7)(c:aa):rE [bE n s] c=.ok (.bl G) c:=by
 have hs:=dS (n:=1000) ⋯
 have c1:=Nq (n:=n) (a:=(aB 2 iW (0⊂1))) (c:=c) (q:=(n:Int)) (λi=>.tup _) (θ n) Z [] (λi hi=>by
  have:=QW ∅ (h.row i (gq.mp hi)) c
  generalize D.tup _=T at *
  simp[this])
 have c2:bT (λ_=>True) (aA 0) aP (aB 2 iW (ao (aB 2 pJ (2⊂0)) ⇑1)) (aY 0 (n:Int)) [Z,O ↥n,O (bE n s)] [] c=.ok (((θ n).map λ_=>G).map D.bl) c:=by
  have:=mE (c:=c) (g:=aA 0) (t:=aP) (a:=(aB 2 iW (ao (aB 2 pJ (2⊂0)) ⇑1))) (λe=>∃v,e=[v,O ↥n,O (bE n s)]) (λ_=>G) (λ_=>.bl G) (aY 0 (n:Int)) [Z,O ↥n,O (bE n s)] [] ⟨_,rfl⟩ (λd hd e ⟨v,he⟩=>by
   subst he;obtain⟨k',rfl,k0,k1⟩:=qZ hd;obtain⟨k,rfl⟩:=qY k0;refine⟨_,rfl,⟨_,rfl⟩,rfl,λ_=>?_⟩
   have g1:=agT s ∅ (show k<n by omega) c
   have g2:=QW ∅ (h.col k ∅) c
   generalize bE n s=S at *
   generalize D.tup (nD ((θ n).map λi=>s i k))=T at *
   simp[g1,g2])
  rw[this,UG,HH,Nz,UB];rfl
 exact ams rfl (by simp) ∅ (by simp;omega) (by rw[eY];omega) c1 (all_true _) c2 (all_true _)
theorem tL(F:Nat->D)(h:∀k:Nat,k<n->a (O ↥k::E) c=.ok (F k) c):bT (λ_=>True) (aA 0) aP a (aY 0 (n:Int)) (Z::E) [] c=.ok ((θ n).map F) c:=by
 have:=mE (g:=aA 0) (t:=aP) (λe=>∃v,e=v::E) (λ_=>G) (λd=>match d with|.int k=>F k.toNat|d=>d) (aY 0 n) (Z::E) [] ⟨_,rfl⟩ (λd hd e ⟨v,he⟩=>by
  subst he;obtain⟨k',rfl,k0,k1⟩:=qZ hd;obtain⟨k,rfl⟩:=qY k0;exact⟨_,rfl,⟨_,rfl⟩,rfl,λ_=>h k ∅⟩)
 rw[this,UG,HH,Nz]
 congr 1
def fO(n:Nat)(r:Nat->Nat->Nat)(i:Nat):List Nat:=(θ n).map (r i)
def lQ(n:Nat)(r:Nat->Nat->Nat):D:=.lst ((θ n).map λi=>.lst (nD (fO n r i)))
theorem Fy(n:Nat)(r:Nat->Nat->Nat)(i:Nat):((θ n).map λk=>D.int (r i k:Nat))=nD (fO n r i):=by simp[nD,fO]
theorem adb:∀n,n<8->∀b,b<7->cC ((θ n).map λi=>(b*i+0) % n)=θ n->(∀i,i<n->((θ n).map λk=>(b*i+k) % n).Perm (θ n))/\(∀k,k<n->((θ n).map λi=>(b*i+k) % n).Perm (θ n)):=by decide +kernel
theorem ada:∀n,n<8->(∀i,i<n->((θ n).map λk=>(i+k) % n).Perm (θ n))/\(∀k,k<n->((θ n).map λi=>(i+k) % n).Perm (θ n)):=by decide +kernel
def oh(i k:Nat):Nat:=(Builtin.bitXor (i:Int) (k:Int)).toNat
theorem Qa:(∀i,i<4->((θ 4).map (oh i)).Perm (θ 4))/\(∀k,k<4->((θ 4).map λi=>oh i k).Perm (θ 4)):=by decide +kernel
theorem alg:∀i:Nat,i<4->∀k:Nat,k<4->Builtin.bitXor (i:Int) (k:Int)=((oh i k:Nat):Int):=by decide +kernel
def six:List (List Nat):=[[0,1,2,3,4,5],[1,0,3,2,5,4],[2,4,0,5,1,3],[3,5,1,4,0,2],[4,2,5,0,3,1],[5,3,4,1,2,0]]
def jQ(i k:Nat):Nat:=(six.getD i []).getD k 0
theorem P9:(∀i,i<6->((θ 6).map (jQ i)).Perm (θ 6))/\(∀k,k<6->((θ 6).map λi=>jQ i k).Perm (θ 6)):=by decide +kernel
theorem ahu(b:-4611686018427387904<=q/\q<4611686018427387904)(hl:(aY 0 q).length<Ω)(h:bT (λ_=>True) (aA 0) aP (au oi (ak 1) (ak 0)) (aY 0 q) [Z,O (.int i)] [] c=.ok l c):(aX (bH ⇑1) [Z,O 0] (aA 0) aP (au oi (ak 1) (ak 0))) [O (.int i),O (.int q)] c=.ok (.lst l) c:=by
 have hp:cX [Z,O 0] [O _,O (.int q)]=[Z,O (.int i)]:=rfl;simp;rw[if_pos ∅]
 simp;rw[if_pos hl,hp,h];rfl
theorem ahb(b:-4611686018427387904<=q/\q<4611686018427387904)(hl:(aY 0 q).length<Ω)(h:bT (λ_=>True) (aA 0) aP (au bZ (au aZ (au aT (ak 2) (ak 3)) (ak 0)) (ak 1)) (aY 0 q) [Z,O (.int q),O (.int b'),O (.int i)] [] c=.ok l c):(aX (bH ⇑1) [Z,O 1,O 2,O 0] (aA 0) aP (au bZ (au aZ (au aT (ak 2) (ak 3)) (ak 0)) (ak 1))) [O (.int i),O (.int q),O (.int b')] c=.ok (.lst l) c:=by
 have hp:cX [Z,O 1,O 2,O 0] [O (.int i),O (.int q),O (.int b')]=[Z,O (.int q),O (.int b'),O (.int i)]:=rfl;simp;rw[if_pos ∅]
 simp;rw[if_pos hl,hp,h];rfl
def yx:af:=(aX (bH ⇑1) [Z,O 1,O 2,O 0] (aA 0) aP (au bZ (au aZ (au aT (ak 2) (ak 3)) (ak 0)) (ak 1)))
def yD:af:=(aX (bH ⇑1) [Z,O 0] (aA 0) aP (au oi (ak 1) (ak 0)))
def sj:af:=(aX (bH ⇑1) [Z,O 1,O 0] (aA 0) aP (au bZ (au aZ (ak 2) (ak 0)) (ak 1)))
theorem aht(b:-4611686018427387904<=q/\q<4611686018427387904)(hl:(aY 0 q).length<Ω)(h:bT (λ_=>True) (aA 0) aP yD (aY 0 q) [Z,O (.int q)] [] c=.ok l c):(aG 2 (aX (bH ⇑1) [Z,O 1] (aA 0) aP yD)) [a0,O (.int q),a2,a3,a4,a5,a6] c=.ok (.nx [a0,O (.int q),O (.lst l),a3,a4,a5,a6]) c:=by
 have hp:cX [Z,O 1] [a0,O (.int q),a2,a3,a4,a5,a6]=[Z,O (.int q)]:=rfl;simp;rw[if_pos ∅]
 simp;rw[if_pos hl,hp,h];rfl
theorem ag6(b:-4611686018427387904<=q/\q<4611686018427387904)(hl:(aY 0 q).length<Ω)(h:bT (λ_=>True) (aA 0) aP sj (aY 0 q) [Z,O (.int q)] [] c=.ok l c):(aG 2 (aX (bH ⇑1) [Z,O 1] (aA 0) aP sj)) [a0,O (.int q),a2,a3,a4,a5,a6] c=.ok (.nx [a0,O (.int q),O (.lst l),a3,a4,a5,a6]) c:=by
 have hp:cX [Z,O 1] [a0,O (.int q),a2,a3,a4,a5,a6]=[Z,O (.int q)]:=rfl;simp;rw[if_pos ∅]
 simp;rw[if_pos hl,hp,h];rfl
theorem aha(b:-4611686018427387904<=q/\q<4611686018427387904)(hl:(aY 0 q).length<Ω)(h:bT (λ_=>True) (aA 0) aP yx (aY 0 q) [Z,O (.int q),O (.int b')] [] c=.ok l c):(aG 2 (aX (bH ⇑1) [Z,O 1,O 3] (aA 0) aP yx)) [a0,O (.int q),a2,O (.int b'),a4,a5,a6] c=.ok (.nx [a0,O (.int q),O (.lst l),O (.int b'),a4,a5,a6]) c:=by
 have hp:cX [Z,O 1,O 3] [a0,O (.int q),a2,O _,a4,a5,a6]=[Z,O (.int q),O (.int b')]:=rfl;simp;rw[if_pos ∅]
 simp;rw[if_pos hl,hp,h];rfl
theorem ag7(b:-4611686018427387904<=q/\q<4611686018427387904)(hl:(aY 0 q).length<Ω)(h:bT (λ_=>True) (aA 0) aP (au bZ (au aZ (ak 2) (ak 0)) (ak 1)) (aY 0 q) [Z,O (.int q),O (.int i)] [] c=.ok l c):sj [O (.int i),O (.int q)] c=.ok (.lst l) c:=by
 have hp:cX [Z,O 1,O 0] [O _,O (.int q)]=[Z,O (.int q),O (.int i)]:=rfl;unfold sj;simp;rw[if_pos ∅]
 simp;rw[if_pos hl,hp,h];rfl
theorem ag8(m1:aT (.int b') (.int i) c=.ok (.int z) c)(m2:bZ (.int (z+k)) (.int q) c=.ok (.int w) c):(au bZ (au aZ (au aT (ak 2) (ak 3)) (ak 0)) (ak 1)) [O (.int k),O (.int q),O (.int b'),O (.int i)] c=.ok (.int w) c:=by
 simp only[eO,cg,gz,gs,R.aF,m1,qy,m2]
theorem ag4(m2:bZ (.int (i+k)) (.int q) c=.ok (.int w) c):(au bZ (au aZ (ak 2) (ak 0)) (ak 1)) [O (.int k),O (.int q),O (.int i)] c=.ok (.int w) c:=by
 simp only[eO,cg,gz,gs,R.aF,qy,m2]
theorem Pz(c:aa)(hq:0<q)(h:x % q=w):bZ (.int x) (.int q) c=.ok (.int w) c:=by
 rw[gT c hq,h]
theorem acA(c:aa)(h1:-1000<x)(h2:x<1000)(h:x*y=w):aT (.int x) (.int y) c=.ok (.int w) c:=by
 rw[gS c ∅ ∅,h]
theorem ag9{n:Nat}(h1:1<=n)(h8:n<8)(c:aa)(b i:Nat)(hb:b<7):yx [O ↥i,O ↥n,O ↥b] c=.ok (.lst (nD (fO n (λi k=>(b*i+k) % n) i))) c:=by
 have hs:=dS (n:=1000) ⋯
 have hc:=tL (E:=[O ↥n,O ↥b,O ↥i]) (a:=(au bZ (au aZ (au aT (ak 2) (ak 3)) (ak 0)) (ak 1))) (n:=n) (c:=c) (λk=>.int ((b*i+k) % n:Nat)) (λk hk =>
  ag8 (z:=(b:Int)*(i:Int)) (acA c ∅ ∅ rfl) (Pz c ∅ (by rw[Zv,Zu,Int.natCast_mul])))
 rw[Fy n (λi k=>(b*i+k) % n)]at hc
 exact ahb ∅ (by rw[eY];omega) hc
theorem ag5{n:Nat}(h1:1<=n)(h8:n<8)(c:aa)(i:Nat):sj [O ↥i,O ↥n] c=.ok (.lst (nD (fO n (λi k=>(i+k) % n) i))) c:=by
 have hs:=dS (n:=1000) ⋯
 have hc:=tL (E:=[O ↥n,O ↥i]) (a:=(au bZ (au aZ (ak 2) (ak 0)) (ak 1))) (n:=n) (c:=c) (λk=>.int ((i+k) % n:Nat)) (λk hk =>
  ag4 (Pz c ∅ (by rw[Zv,Zu])))
 rw[Fy n (λi k=>(i+k) % n)]at hc
 exact ag7 ∅ (by rw[eY];omega) hc
theorem ahs(i:Nat)(hi:i<4)(c:aa):yD [O ↥i,O (.int ((4:Nat):Int))] c=.ok (.lst (nD (fO 4 oh i))) c:=by
 have hs:=dS (n:=1000) ⋯
 have hc:=tL (E:=[O ↥i]) (a:=(au oi (ak 1) (ak 0))) (n:=4) (c:=c) (λk=>.int (oh i k:Nat)) (λk hk=>by
  have:=alg i hi k hk;simp only[eO,cg,gz,gs,R.aF,alj,this])
 rw[Fy 4 oh]at hc;exact ahu ∅ (by rw[eY];omega) hc
theorem HM:∀a b:List Int,PyData.eqvAll (a.map PyData.int) (b.map PyData.int)=decide (a=b)
 |[],[]=>by simp[PyData.eqvAll]
 |[],b::bs=>by simp[PyData.eqvAll]
 |a::as,[]=>by simp[PyData.eqvAll]
 |a::as,b::bs=>by
  rw[T8,T8,PyData.eqvAll,HM as bs,PyData.eqv]
  by_cases h:a=b
  ·subst h;simp
  ·simp[h]
theorem agi(a:List Int):PyData.depthAll (a.map PyData.int)=0:=by
 induction a with
 |nil=>simp[PyData.depthAll]
 |cons x a ih=>simp[PyData.depthAll,PyData.depth,ih]
theorem Sn:∀ns:List Int,gh (ns.map D.int)=O (ns.map PyData.int)
 |[]=>rfl
 |n::ns=>by
  have:=Sn ns;simp[gh,fE,this]
theorem af9(as bs:List Int)(c:aa):R4 (.lst (as.map D.int)) (.lst (bs.map D.int)) c=.ok (.bl (decide (as=bs))) c/\nv (.lst (as.map D.int)) (.lst (bs.map D.int)) c=.ok (.bl (!decide (as=bs))) c:=by
 have h:∀l:List Int,gw c (.lst (l.map D.int))=O _:=λl=>by
  show(match gh _ with|some r=>O _|none=>Z)=_
  rw[Sn]
 have dp:∀l:List Int,(PyData.list (l.map PyData.int)).depth<=64:=λl=>by simp[PyData.depth,agi]
 refine⟨?_,?_⟩
 ·unfold R4;rw[h,h];dsimp only;rw[if_pos ⟨dp as,dp bs⟩,PyData.eqv,HM]
 ·unfold nv;rw[h,h];dsimp only;rw[if_pos ⟨dp as,dp bs⟩,PyData.eqv,HM]
def CW(l:List Nat):List Int:=l.map λk:Nat=>(k:Int)
theorem acu(l:List Nat):nD l=(CW l).map D.int:=Gy l
theorem RX(h1:1<=n)(r:Nat->Nat->Nat)(c:aa):∀(l:List Nat) (v:Option D) (acc:List D),bT (λ_=>True) (aA 0) aP (au aD (ak 0) (dC (.int 0))) (l.map λi=>.lst (nD (fO n r i))) [v] acc c=.ok (acc++nD (l.map λi=>r i 0)) c
 |[],v,acc=>by simp[nD]
 |i::l,v,acc=>by
  have g1:aA 0 _ [v] c=.ok [O (.lst (nD (fO n r i)))] c:=rfl;have g2:aD (.lst (nD (fO n r i))) (.int 0) c=.ok (.int (r i 0:Nat)) c:=by
   rw[sO,show(0:Int)=((0:Nat):Int)from rfl,iy (v:=.int (r i 0:Nat)) (by simp[nD,fO,VC (show 0<n by omega)])]
  have hE:(au aD (ak 0) (dC (.int 0))) [O (.lst (nD (fO n r i)))] c=.ok (.int (r i 0:Nat)) c:=by
   simp only[eO,cg,jJ,gz,R.aF,g2]
  rw[T8,lA,g1,R.aF,oj,R.aF,if_pos rfl,hE,R.aF,RX h1 r c l,UY];rfl
theorem agl{rows:List D}{ns:List Nat}(b:0<q/\q<1000)(hl:rows.length<Ω)(hc:bT (λ_=>True) (aA 0) aP (au aD (ak 0) (dC (.int 0))) rows [Z] [] c=.ok (nD ns) c)(hN:kM (nD ns)=O ns)(hq:nv (.lst (nD (cC ns))) (.lst ((iP 0 q).map D.int)) c=.ok (.bl z) c):
  (aN (au nv (nR (ao (aX (eX (ak 2)) [Z] (aA 0) aP (au aD (ak 0) (dC (.int 0)))) av)) (rY ⇑1))) [a0,O (.int q),O (.lst rows),a3,a4,a5,a6] c=.ok z c:=by
 have hp:cX [Z] [a0,O (.int q),O (.lst rows),a3,a4,a5,a6]=[Z]:=rfl;have hd:eX (ak 2) [a0,O (.int q),O (.lst rows),a3,a4,a5,a6] c=.ok ⟨rows,λ_=>True⟩ c:=rfl
 have hS:nR (ao (aX (eX (ak 2)) [Z] (aA 0) aP (au aD (ak 0) (dC (.int 0)))) av) [a0,O (.int q),O (.lst rows),a3,a4,a5,a6] c=.ok (.lst (nD (cC ns))) c:=by
  unfold nR;simp only[b7,gy,hd,cj,R.aF];rw[if_pos hl,hp,hc];simp only[R.aF,eZ,hN]
 have hR:rY ⇑1 [a0,O (.int q),O (.lst rows),a3,a4,a5,a6] c=.ok (.lst ((iP 0 q).map D.int)) c:=by
  unfold rY;simp only[b7,cg,gz,gs,cj,R.aF];rw[if_pos b]
 simp only[zx,eO,hS,hR,R.aF,hq]
theorem cast_inj(h:CW a=CW b):a=b:=Ig h
theorem anj(n:Nat):iP 0 (n:Int)=CW (θ n):=NB n
theorem ack(A:List Nat)(n:Nat)(c:aa):nv (.lst (nD A)) (.lst ((iP 0 (n:Int)).map D.int)) c=.ok (.bl (!decide (A=θ n))) c:=by
 rw[acu,(af9 _ _ c).2,anj]
 congr 3
 exact decide_eq_decide.mpr ⟨cast_inj,λh=>by rw[h]⟩
theorem agx(hf:(if q-1>1 then q-1 else 1)=f)(t:cI [.ref j,.int f] c=.ok (.int x) c1):(aG 3 (au aZ (dC (.int 1)) (aB 2 cI (ao (ak 0) (ao (aO uf (ao (dC (.int 1)) (ao (au bO (ak 1) (dC (.int 1))) av))) av))))) [O (.ref j),O (.int q),a2,a3,a4,a5,a6] c=.ok (.nx [O (.ref j),O (.int q),a2,O (.int (1+x)),a4,a5,a6]) c1:=by
 simp only[iL,eO,jJ,x_call,gM,b7,cg,gz,gs,cj,R.aF,zv,alw,hf,U0,Uc,if_pos,t,qy];rfl
def CP:ah:=aC (aG 3 (au aZ (dC (.int 1)) (aB 2 cI (ao (ak 0) (ao (aO uf (ao (dC (.int 1)) (ao (au bO (ak 1) (dC (.int 1))) av))) av))))) (aC (aG 2 (aX (bH ⇑1) [Z,O 1,O 3] (aA 0) aP yx)) (bz (aN (au nv (nR (ao (aX (eX (ak 2)) [Z] (aA 0) aP (au aD (ak 0) (dC (.int 0)))) av)) (rY ⇑1))) (aG 2 (aX (bH ⇑1) [Z,O 1] (aA 0) aP sj)) bA))
theorem Ss(hP:dX j m c)(h1:1<=n)(h8:n<8):∃r v3 c',e8 n r/\dX j m c'/\CP [O (.ref j),O ↥n,Z,Z,Z,Z,Z] c=.ok (.nx [O (.ref j),O ↥n,O (lQ n r),v3,Z,Z,Z]) c':=by
 have hs:=dS (n:=1000) ⋯
 obtain⟨f,hf⟩:∃f:Int,(if(n:Int)-1>1 then(n:Int)-1 else 1)=f:=⟨_,rfl⟩
 have hf':0<f/\f<=6:=by split at hf<;>omega
 obtain⟨x,c1,x0,x1,P1,t1⟩:=mW (cL:=f) hP hf'.1 ∅
 obtain⟨b,hb⟩:=qY (i:=1+x) ∅
 have e1:=agx (a2:=Z) (a3:=Z) (a4:=Z) (a5:=Z) (a6:=Z) hf t1;rw[hb]at e1;have c2:=tL (E:=[O ↥n,O ↥b]) (a:=yx) (n:=n) (c:=c1) _ (λi _=>ag9 h1 h8 c1 b i ∅)
 have e2:=aha (a0:=O (.ref j)) (a2:=Z) (a4:=Z) (a5:=Z) (a6:=Z) ∅ (by rw[eY];omega) c2
 have hfc:=RX h1 (λi k=>(b*i+k) % n) c1 (θ n) Z []
 rw[UG]at hfc;have hN:kM (nD ((θ n).map λi=>(b*i+0) % n))=O ((θ n).map λi=>(b*i+0) % n):=wW (by
  have:=wR (wQ (oq ((θ n).map λi=>(b*i+0) % n))) (λx hx=>l7.mp hx)
  rw[T6,Ul]at this;omega) (λx hx=>by
  obtain⟨i,_,rfl⟩:=H8.mp hx;have:=V7 (b*i+0) (show 0<n by omega)
  omega)
 have hu:=agl (a0:=O (.ref j)) (a3:=O ↥b) (a4:=Z) (a5:=Z) (a6:=Z) ∅ (by rw[T6,Ul];omega) hfc hN (ack _ n c1)
 by_cases hk:cC ((θ n).map λi=>(b*i+0) % n)=θ n
 ·have hL:=adb n h8 b ∅ hk
  refine⟨λi k=>(b*i+k) % n,O ↥b,c1,⟨hL.1,hL.2⟩,P1,?_⟩
  unfold CP;rw[cK e1,cK e2,kC,hu,R.aF,decide_eq_true hk];rfl
 ·have hL:=ada n h8;have c3:=tL (E:=[O ↥n]) (a:=sj) (n:=n) (c:=c1) _ (λi _=>ag5 h1 h8 c1 i)
  have e3:=ag6 (a0:=O (.ref j)) (a2:=O (.lst ((θ n).map λi=>.lst (nD (fO n (λi k=>(b*i+k) % n) i))))) (a3:=O ↥b) (a4:=Z) (a5:=Z) (a6:=Z) ∅ (by rw[eY];omega) c3
  refine⟨λi k=>(i+k) % n,O ↥b,c1,⟨hL.1,hL.2⟩,P1,?_⟩
  unfold CP;rw[cK e1,cK e2,kC,hu,R.aF,decide_eq_false hk,if_pos ⋯]
  exact e3
def yu:ah:=bz (jh (aN (au cB (ak 1) (dC (.int 4)))) (aN (au cB (aB 2 cI (ao (ak 0) (ao (dC (.int 2)) av))) (dC (.int 0))))) (aG 2 (aX (bH ⇑1) [Z,O 1] (aA 0) aP yD)) CP
theorem agn(h:¬q=4):(jh (aN (au cB (ak 1) (dC (.int 4)))) (aN (au cB (aB 2 cI (ao (ak 0) (ao (dC (.int 2)) av))) (dC (.int 0))))) [a0,O (.int q),a2,a3,a4,a5,a6] c=.ok ξ c:=by simp[h]
theorem agm(t:cI [.ref j,.int 2] c=.ok (.int x) c1):(jh (aN (au cB (ak 1) (dC (.int 4)))) (aN (au cB (aB 2 cI (ao (ak 0) (ao (dC (.int 2)) av))) (dC (.int 0))))) [O (.ref j),O (.int 4),a2,a3,a4,a5,a6] c=.ok (decide (x=0)) c1:=by simp[t]
theorem ags(hP:dX j m c)(h1:1<=n)(h8:n<8):∃r v3 c',e8 n r/\dX j m c'/\yu [O (.ref j),O ↥n,Z,Z,Z,Z,Z] c=.ok (.nx [O (.ref j),O ↥n,O (lQ n r),v3,Z,Z,Z]) c':=by
 have hs:=dS (n:=1000) ⋯
 by_cases h4:(n:Int)=4
 ·have:n=4:=∅
  subst this;obtain⟨x,c1,x0,x1,P1,t1⟩:=mW (cL:=2) hP ⋯ ⋯
  have ht:=agm (a2:=Z) (a3:=Z) (a4:=Z) (a5:=Z) (a6:=Z) t1
  by_cases hx:x=0
  ·have c2:=tL (E:=[O (.int ((4:Nat):Int))]) (a:=yD) (n:=4) (c:=c1) (λi=>.lst (nD (fO 4 oh i))) (λi hi=>ahs i hi c1)
   have e2:=aht (a0:=O (.ref j)) (a2:=Z) (a3:=Z) (a4:=Z) (a5:=Z) (a6:=Z) ∅ (by rw[eY];omega) c2
   refine⟨oh,Z,c1,⟨Qa.1,Qa.2⟩,P1,?_⟩;unfold yu;rw[kC,show((4:Nat):Int)=4 from rfl,ht,R.aF,decide_eq_true hx,if_pos rfl]
   exact e2
  ·obtain⟨r,v3,c',hL,P',h⟩:=Ss P1 h1 h8;refine⟨r,v3,c',hL,P',?_⟩;unfold yu;rw[kC,show((4:Nat):Int)=4 from rfl,ht,R.aF,decide_eq_false hx,if_neg ⋯]
   exact h
 ·obtain⟨r,v3,c',hL,P',h⟩:=Ss hP h1 h8;refine⟨r,v3,c',hL,P',?_⟩;unfold yu;rw[kC,agn h4,R.aF,if_neg ⋯]
  exact h
theorem pL{α:Type}(g F:α->D):∀(l:List α) (v:Option D) (acc:List D),(∀x∈l,a (O (g x)::E) c=.ok (F x) c)->bT (λ_=>True) (aA 0) aP a (l.map g) (v::E) acc c=.ok (acc++l.map F) c
 |[],v,acc,_=>by simp
 |x::l,v,acc,h=>by
  have h1:aA 0 _ (v::E) c=.ok (O (g x)::E) c:=rfl;rw[T8,lA,h1,R.aF,oj,R.aF,if_pos rfl,h x (.head _),R.aF,pL g F l _ _ (λz hz=>h z (.tail _ hz)),UY]
  rfl
theorem wX(l:List Nat):nD l=l.map λk:Nat=>D.int (k:Int):=by simp
theorem wF{os:List Nat}(h:os.Perm (θ n))(hx:x∈os):x<n:=gq.mp (h.mem_iff.mp hx)
theorem nc{os:List Nat}(h:os.Perm (θ n)):os.length=n:=by have:=h.length_eq;simpa using this
theorem GD{α:Type}(os:List Nat)(f:Nat->α):os.map f=(θ os.length).map λi=>f (os.getD i 0):=by
 refine YL (by simp) λi h1 h2=>?_
 simp;rw[I8 (by simpa using h1)]
 rfl
theorem Ac{os:List Nat}(h:os.Perm (θ n)):((θ n).map λi=>os.getD i 0).Perm (θ n):=by
 have:=GD os id;rw[Xo,nc h]at this;exact(g7 this.symm).trans h
theorem Nu{os:List Nat}(h:os.Perm (θ n))(hi:i<n):os.getD i 0<n:=by
 have:=nc h;rw[T7,I8 ∅]
 exact wF h (U6 _)
theorem e8.lt{r:Nat->Nat->Nat}(h:e8 n r)(hi:i<n)(hk:k<n):r i k<n:=wF (h.row i hi) (H8.mpr ⟨k,gq.mpr hk,rfl⟩)
theorem e8.rows{r:Nat->Nat->Nat}(h:e8 n r){os:List Nat}(ho:os.Perm (θ n)):e8 n λi k=>r (os.getD i 0) k:=by
 refine⟨λi hi=>h.row _ (Nu ho hi),λk hk=>?_⟩
 have:=(Ac ho).map λi=>r i k
 rw[UB]at this;exact this.trans (h.col k hk)
theorem e8.cols{r:Nat->Nat->Nat}(h:e8 n r){os:List Nat}(ho:os.Perm (θ n)):e8 n λi k=>r i (os.getD k 0):=by
 refine⟨λi hi=>?_,λk hk=>h.col _ (Nu ho hk)⟩
 have:=(Ac ho).map λk=>r i k
 rw[UB]at this;exact this.trans (h.row i hi)
theorem e8.names{r:Nat->Nat->Nat}(h:e8 n r){os:List Nat}(ho:os.Perm (θ n)):e8 n λi k=>os.getD (r i k) 0:=by
 refine⟨λi hi=>?_,λk hk=>?_⟩
 ·have:=(h.row i hi).map λi=>os.getD i 0
  rw[UB]at this;exact this.trans (Ac ho)
 ·have:=(h.col k hk).map λi=>os.getD i 0
  rw[UB]at this;exact this.trans (Ac ho)
theorem Gh(n:Nat)(s:Nat->Nat->Nat):bW ((θ n).map λi=>D.tup (nD ((θ n).map (s i))))=G:=iU.mpr λd hd=>by
 obtain⟨i,_,rfl⟩:=H8.mp hd;exact qV _
theorem LR{os:List Nat}{f:Nat->Nat->Nat}(ho:os.length=n):D.tup (os.map λi=>D.tup (nD ((θ n).map (f i))))=bE n λi k=>f (os.getD i 0) k:=by
 unfold bE;rw[GD,ho]
theorem ago{A:D}{row col:Int}(h1:aD B (.int row) c=.ok r c)(h2:aD r (.int col) c=.ok (.int k) c)(h3:aD A (.int k) c=.ok (.int v) c):(au aD (ak 1) (au aD (au aD (ak 2) (ak 3)) (ak 0))) [O (.int col),O A,O B,O (.int row)] c=.ok (.int v) c:=by
 simp only[eO,cg,gz,gs,R.aF,h1,h2,h3]
theorem agp{A:D}{cs:List D}{row:Int}(hl:cs.length<Ω)(h:bT (λ_=>True) (aA 0) aP (au aD (ak 1) (au aD (au aD (ak 2) (ak 3)) (ak 0))) cs [Z,O A,O B,O (.int row)] [] c=.ok l c):(aO dj (ao (aX (c9 (ak 2)) [Z,O 1,O 3,O 0] (aA 0) aP (au aD (ak 1) (au aD (au aD (ak 2) (ak 3)) (ak 0)))) av)) [O (.int row),O A,O (.tup cs),O B] c=.ok (.tup l) c:=by
 have hp:cX [Z,O 1,O 3,O 0] [O _,O A,O (.tup cs),O B]=[Z,O A,O B,O (.int row)]:=rfl;have hd:c9 (ak 2) [O (.int row),O A,O (.tup cs),O B] c=.ok ⟨cs,λ_=>True⟩ c:=rfl
 simp only[gM,b7,gy,hd,cj,R.aF];rw[if_pos hl,hp,h];rfl
def CQ:af:=(aO dj (ao (aX (c9 (ak 2)) [Z,O 1,O 3,O 0] (aA 0) aP (au aD (ak 1) (au aD (au aD (ak 2) (ak 3)) (ak 0)))) av))
theorem agt{A:D}{os:List D}(hl:os.length<Ω)(h:bT (λ_=>True) (aA 0) aP CQ os [Z,O A,O C,O B] [] c=.ok l c):(aK (aO dj (ao (aX (c9 (ak 4)) [Z,O 5,O 6,O 2] (aA 0) aP (aO dj (ao (aX (c9 (ak 2)) [Z,O 1,O 3,O 0] (aA 0) aP (au aD (ak 1) (au aD (au aD (ak 2) (ak 3)) (ak 0)))) av))) av))) [a0,a1,O B,a3,O (.tup os),O A,O C] c=.ok (.rt (.tup l)) c:=by
 have hp:cX [Z,O 5,O 6,O 2] [a0,a1,O B,a3,O (.tup os),O A,O C]=[Z,O A,O C,O B]:=rfl;have hd:c9 (ak 4) [a0,a1,O B,a3,O (.tup os),O A,O C] c=.ok ⟨os,λ_=>True⟩ c:=rfl
 unfold CQ at h;simp only[i9,gM,b7,gy,hd,cj,R.aF];rw[if_pos hl,hp,h];rfl
section
variable {j:Nat}{q:Int}{T:D}{c c':aa}(a2 a3 a4 a5 a6:Option D)
theorem agw(h:ig [.ref j,.int q] c=.ok T c'):(aG 4 (aB 2 ig (0⊂1))) [O (.ref j),O (.int q),a2,a3,a4,a5,a6] c=.ok (.nx [O (.ref j),O (.int q),a2,a3,O T,a5,a6]) c':=by
 simp only[iL,x_call,b7,cg,gz,gs,cj,R.aF,U0,Uc,if_pos,h];rfl
theorem agv(h:ig [.ref j,.int q] c=.ok T c'):(aG 5 (aB 2 ig (0⊂1))) [O (.ref j),O (.int q),a2,a3,a4,a5,a6] c=.ok (.nx [O (.ref j),O (.int q),a2,a3,a4,O T,a6]) c':=by
 simp only[iL,x_call,b7,cg,gz,gs,cj,R.aF,U0,Uc,if_pos,h];rfl
theorem agu(h:ig [.ref j,.int q] c=.ok T c'):(aG 6 (aB 2 ig (0⊂1))) [O (.ref j),O (.int q),a2,a3,a4,a5,a6] c=.ok (.nx [O (.ref j),O (.int q),a2,a3,a4,a5,O T]) c':=by
 simp only[iL,x_call,b7,cg,gz,gs,cj,R.aF,U0,Uc,if_pos,h];rfl
end
theorem al9(r:Nat->Nat->Nat)(hi:i<n)(c:aa):aD (lQ n r) ↥i c=.ok (.lst (nD (fO n r i))) c:=by
 unfold lQ;rw[sO,iy (v:=.lst (nD (fO n r i))) (by simp[hi])]
theorem anr(r:Nat->Nat->Nat)(i:Nat)(hk:k<n)(c:aa):aD (.lst (nD (fO n r i))) ↥k c=.ok (.int (r i k:Nat)) c:=by
 rw[sO,iy (v:=.int (r i k:Nat)) (by simp[nD,fO,hk])]
theorem aat{os:List Nat}(hk:k<os.length)(c:aa):aD (.tup (nD os)) ↥k c=.ok (.int (os.getD k 0:Nat)) c:=by
 rw[EJ,iy (v:=.int (os.getD k 0:Nat)) (by simp[nD,hk,T7])]
theorem agq{r:Nat->Nat->Nat}(hL:e8 n r)(h8:n<8){os ns cs:List Nat}(ho:os.Perm (θ n))(hn:ns.Perm (θ n))(hc:cs.Perm (θ n))(c:aa):
  bT (λ_=>True) (aA 0) aP CQ (nD os) [Z,O (.tup (nD ns)),O (.tup (nD cs)),O (lQ n r)] [] c=.ok (os.map λi=>D.tup (nD ((θ n).map λk=>ns.getD (r i (cs.getD k 0)) 0))) c:=by
 have hs:=dS (n:=1000) ⋯
 have:=pL (E:=[O _,O (.tup (nD cs)),O (lQ n r)]) (a:=CQ) (c:=c) _ (λi=>D.tup (nD ((θ n).map λk=>ns.getD (r i (cs.getD k 0)) 0))) os Z [] (λi hi=>by
  have hin:=wF ho hi;have h2:=pL (E:=[O (.tup (nD ns)),O (lQ n r),O ↥i]) (a:=(au aD (ak 1) (au aD _ (ak 0)))) (c:=c) _ _ cs Z [] (λk hk=>by
   have hkn:=wF hc hk;exact ago (al9 r hin c) (anr r i hkn c) (aat (by rw[nc hn];exact(hL.lt hin hkn)) c))
  have e:(cs.map λk=>D.int (ns.getD (r i k) 0:Nat))=nD ((θ n).map λk=>ns.getD (r i (cs.getD k 0)) 0):=by
   rw[GD,nc hc,wX,UB];rfl
  rw[e]at h2;exact agp (by rw[wX,T6,nc hc];omega) h2)
 exact this
theorem So(hP:dX j m c)(h1:1<=n)(h8:n<8):∃s c',e8 n s/\dX j m c'/\rD [.ref j,.int (n:Int)] c=.ok (bE n s) c':=by
 have hs:=dS (n:=1000) ⋯
 obtain⟨r,v3,c1,hL,P1,e1⟩:=ags hP h1 h8;obtain⟨os,c2,ho,P2,o2⟩:=F4 P1 h1 (show n<1000 by omega)
 obtain⟨ns,c3,hn,P3,o3⟩:=F4 P2 h1 (show n<1000 by omega)
 obtain⟨cs,c4,hc,P4,o4⟩:=F4 P3 h1 (show n<1000 by omega)
 have e2:=agw (O (lQ n r)) v3 Z Z Z o2;have e3:=agv (O (lQ n r)) v3 (O (.tup (nD os))) Z Z o3;have e4:=agu (O (lQ n r)) v3 (O (.tup (nD os))) (O (.tup (nD ns))) Z o4;have e5:=agt (a0:=O (.ref j)) (a1:=O ↥n) (a3:=v3) (by rw[wX,T6,nc ho];omega) (agq hL h8 ho hn hc c4)
 refine⟨λi k=>ns.getD _ 0,c4,((hL.rows ho).cols hc).names hn,P4,?_⟩
 have hb:Dy=aC yu (aC _ _):=rfl;have es:cW 7 [D.ref j,.int (n:Int)]=[O (.ref j),O ↥n,Z,Z,Z,Z,Z]:=rfl;rw[rD,fF,hb,es,cK e1,cK e2,cK e3,cK e4,e5,(LR (f:=λi k=>ns.getD (r i (cs.getD k 0)) 0) (nc ho))]
 simp only[R.aF];unfold bE;rw[wz,if_pos (Gh n _),WN (by rw[P4.1,hP.1];exact dD _)]
theorem amU:(aG 1 (fj (ao (cE (fL [0,1,2,3,4,5])) (ao (cE (fL [1,0,3,2,5,4])) (ao (cE (fL [2,4,0,5,1,3])) (ao (cE (fL [3,5,1,4,0,2])) (ao (cE (fL [4,2,5,0,3,1])) av))))))) [a0,Z,a2] c=.ok (.nx [a0,O (.ref c.length),a2]) (c++[.lst ((six.take 5).map λl=>D.lst (nD l))]):=by
 simp[six,nD]
theorem amV{c:aa}:(dw (gx (ak 1) (cE (fL [5,3,4,1,2,0])))) [a0,O (.ref c.length),a2] (c++[.lst ((six.take 5).map λl=>D.lst (nD l))])=.ok (.nx [a0,O (.ref c.length),a2]) (c++[.lst ((six.take 5).map (λl=>D.lst (nD l))++[D.lst (nD [5,3,4,1,2,0])])]):=by
 have h:=DQ (dO:=ak 1) (da:=cE (fL [5,3,4,1,2,0])) (e:=[a0,O (.ref c.length),a2]) (c:=c) (acc:=(six.take 5).map λl=>D.lst (nD l)) (y:=D.lst (nD [5,3,4,1,2,0])) (by simp) (by simp[nD]) (by simp[nD]) (by simp[six])
 simp only[kD,h,R.aF]
theorem anc:(six.take 5).map (λl=>D.lst (nD l))++[D.lst (nD [5,3,4,1,2,0])]=(θ 6).map λi=>D.lst (nD (fO 6 jQ i)):=by
 simp[six,fO,jQ,nD,VQ]
theorem amW(h:ig [.ref j,.int 6] c=.ok T c'):(aG 2 (aB 2 ig (ao (ak 0) (ao (dC (.int 6)) av)))) [O (.ref j),a1,a2] c=.ok (.nx [O (.ref j),a1,O T]) c':=by
 simp only[iL,x_call,b7,cg,jJ,gz,gs,cj,R.aF,U0,Uc,if_pos,h];rfl
theorem amY(hk:c[k]? = O (.lst l))(hi:dB l i=O (.lst r)):(aO dj (ao (au aD (ak 1) (ak 0)) av)) [O (.int i),O (.ref k)] c=.ok (.tup r) c:=by
 have:aD (.ref k) (.int i) c=.ok (.lst r) c:=by
  unfold aD;dsimp only[fU];rw[hk];dsimp only;rw[hi]
 simp only[gM,b7,eO,cg,gz,gs,cj,R.aF,this];rfl
theorem amX{os:List D}(hl:os.length<Ω)(h:bT (λ_=>True) (aA 0) aP (aO dj (ao (au aD (ak 1) (ak 0)) av)) os [Z,O (.ref k)] [] c=.ok l c):(aK (aO dj (ao (aX (c9 (ak 2)) [Z,O 1] (aA 0) aP (aO dj (ao (au aD (ak 1) (ak 0)) av))) av))) [a0,O (.ref k),O (.tup os)] c=.ok (.rt (.tup l)) c:=by
 have hp:cX [Z,O 1] [a0,O (.ref k),O (.tup os)]=[Z,O (.ref k)]:=rfl;have hd:c9 (ak 2) [a0,O (.ref k),O (.tup os)] c=.ok ⟨os,λ_=>True⟩ c:=rfl
 simp only[i9,gM,b7,gy,hd,cj,R.aF];rw[if_pos hl,hp,h];rfl
theorem anT(hP:dX j m c):∃s c',e8 6 s/\dX j m c'/\pF [.ref j] c=.ok (bE 6 s) c':=by
 have hs:=dS (n:=1000) ⋯
 obtain⟨hl,hj,p,hp⟩:=id hP;have e0:=amU (a0:=O (.ref j)) (a2:=Z) (c:=c);have e1:=amV (a0:=O (.ref j)) (a2:=Z) (c:=c);rw[anc]at e1;have P0:dX j (c.length+1) (c++[.lst ((θ 6).map λi=>D.lst (nD (fO 6 jQ i)))]):=⟨by simp,∅,p,by rw[UZ ∅];exact hp⟩
 obtain⟨os,c2,ho,P2,f2,o2⟩:=Od P0 ⋯ (show 6<1000 by decide)
 have g4:c2[c.length]? = O (.lst ((θ 6).map λi=>D.lst (nD (fO 6 jQ i)))):=by rw[f2 c.length ∅ ∅];simp
 have e2:=amW (a1:=O (.ref c.length)) (a2:=Z) o2;have hc:=pL (E:=[O (.ref c.length)]) (a:=(aO dj (ao (au aD (ak 1) (ak 0)) av))) (c:=c2) (λk:Nat=>D.int (k:Int)) (λi=>D.tup (nD (fO 6 jQ i))) os Z [] (λi hi=>amY g4 (iy (by simp[wF ho hi])))
 rw[UG,<-wX]at hc;have e3:=amX (a0:=O (.ref j)) (by rw[wX,T6,nc ho];omega) hc
 have hL:e8 6 jQ:=⟨P9.1,P9.2⟩;obtain⟨g1,g2,p2,g3⟩:=P2;refine⟨λi k=>jQ (os.getD i 0) k,c2.take c.length,hL.rows ho,⟨by rw[Vb];omega,hj,p2,by rw[Xa ∅];exact g3⟩,?_⟩
 have hb:Dq=aC (aG 1 (fj (ao (cE (fL [0,1,2,3,4,5])) (ao (cE (fL [1,0,3,2,5,4])) (ao (cE (fL [2,4,0,5,1,3])) (ao (cE (fL [3,5,1,4,0,2])) (ao (cE (fL [4,2,5,0,3,1])) av))))))) (aC (dw (gx (ak 1) (cE (fL [5,3,4,1,2,0])))) (aC (aG 2 (aB 2 ig (ao (ak 0) (ao (dC (.int 6)) av)))) (aK (aO dj (ao (aX (c9 (ak 2)) [Z,O 1] (aA 0) aP (aO dj (ao (au aD (ak 1) (ak 0)) av))) av))))):=rfl;have es:cW 3 [D.ref j]=[O (.ref j),Z,Z]:=rfl;have hq:D.tup (os.map λi=>D.tup (nD (fO 6 jQ i)))=bE 6 λi k=>jQ (os.getD i 0) k:=LR (f:=jQ) (nc ho)
 rw[pF,fF,hb,es,cK e0,cK e1,cK e2,e3,hq];simp only[R.aF];unfold bE;rw[wz,if_pos (Gh 6 _)]
theorem acN{j:Nat}{T:D}{a0:Option D}{c c1 c2:aa}(t:cI [.ref j,.int 2] c=.ok (.int 0) c1)(h:pF [.ref j] c1=.ok T c2):(bz (jh (aN (au cB (ak 1) (dC (.int 6)))) (aN (au cB (aB 2 cI (ao (ak 0) (ao (dC (.int 2)) av))) (dC (.int 0))))) (aK (aB 1 pF ⇑0)) bA) [O (.ref j),O (.int 6)] c=.ok (.rt T) c2:=by
 simp[t,h]
theorem acO(t:cI [.ref j,.int 2] c=.ok (.int x) c1)(hx:¬x=0):(bz (jh (aN (au cB (ak 1) (dC (.int 6)))) (aN (au cB (aB 2 cI (ao (ak 0) (ao (dC (.int 2)) av))) (dC (.int 0))))) (aK (aB 1 pF ⇑0)) bA) [O (.ref j),O (.int 6)] c=.ok (.nx [O (.ref j),O (.int 6)]) c1:=by
 simp[t,hx]
theorem acP(hq:¬q=6):(bz (jh (aN (au cB (ak 1) (dC (.int 6)))) (aN (au cB (aB 2 cI (ao (ak 0) (ao (dC (.int 2)) av))) (dC (.int 0))))) (aK (aB 1 pF ⇑0)) bA) [O (.ref j),O (.int q)] c=.ok (.nx [O (.ref j),O (.int q)]) c:=by
 simp[hq]
theorem PK(h:rD [.ref j,.int q] c=.ok T c'):(aK (aB 2 rD (0⊂1))) [O (.ref j),O (.int q)] c=.ok (.rt T) c':=by
 simp[h]
theorem agf(hP:dX j m c)(h1:1<=n)(h8:n<8):∃s c',e8 n s/\dX j m c'/\pD [.ref j,.int (n:Int)] c=.ok (bE n s) c':=by
 have hb:Dp=aC (bz (jh (aN _) (aN (au cB (aB 2 cI _) _))) _ bA) (aK (aB 2 rD _)):=rfl;have es:cW 2 [D.ref j,.int (n:Int)]=[O (.ref j),O _]:=rfl;have fin:∀{c'}{s:Nat->Nat->Nat},dX j m c'->cU ξ c.length (bE n s) c'=.ok (bE n s) c':=fun{c' s} P'=>by
  unfold bE;rw[wz,if_pos (Gh n _),WN (by rw[P'.1,hP.1];exact dD _)]
 by_cases h6:(n:Int)=6
 ·have:n=6:=∅
  subst this;obtain⟨x,c1,x0,x1,P1,t1⟩:=mW (cL:=2) hP ⋯ ⋯
  by_cases hx:x=0
  ·subst hx;obtain⟨s,c2,hL,P2,h2⟩:=anT P1;refine⟨s,c2,hL,P2,?_⟩;have e:=acN (a0:=Z) t1 h2;rw[pD,fF,hb,es,show((6:Nat):Int)=6 from rfl,Fg e]
   exact fin P2
  ·obtain⟨s,c2,hL,P2,h2⟩:=So P1 h1 h8;refine⟨s,c2,hL,P2,?_⟩;rw[show((6:Nat):Int)=6 from rfl]at h2
   rw[pD,fF,hb,es,show((6:Nat):Int)=6 from rfl,cK (acO t1 hx),PK h2]
   exact fin P2
 ·obtain⟨s,c2,hL,P2,h2⟩:=So hP h1 h8;refine⟨s,c2,hL,P2,?_⟩;rw[pD,fF,hb,es,cK (acP h6),PK h2];exact fin P2
end Ev
namespace Fq
def bK(p:Int):Nat->Int->List Int
 |0,_=>[]
 |n+1,x=>x % p::bK p n (x/p)
def fQ(p:Int):List Int->Int
 |[]=>0
 |d::r=>fQ p r*p+d % p
def pN:List Int->Int
 |[]=>0
 |[a]=>a
 |_::b::r=>pN (b::r)
def jm(low row:List Int):List Int:=List.zipWith (λb d=>b-pN row*d) (0::row) low
def mulR(low ry:List Int):List Int->List Int
 |[]=>ry.map λ_=>0
 |d::rx=>List.zipWith (λa b=>a+d*b) (jm low (mulR low ry rx)) ry
def vn(p:Int)(n:Nat)(x y:Int):Int:=fQ p (List.zipWith (· + ·) (bK p n x) (bK p n y))
def vS(p:Int)(n:Nat)(x y:Int):Int:=fQ p (List.zipWith (· - ·) (bK p n x) (bK p n y))
def AM(p:Int)(n:Nat)(low x y:Int):Int:=fQ p (mulR (bK p n low) (bK p n y) (bK p n x))
theorem OR(p:Int):∀r:List Int,fQ p (r.map (· % p))=fQ p r
 |[]=>rfl
 |d::r=>by simp only[T8,fQ,OR p r,Int.emod_emod_of_dvd _ (Int.dvd_refl p)]
theorem OQ(hp:0<p):∀r:List Int,0<=fQ p r
 |[]=>Ys 0
 |d::r=>by
  have h1:=OQ hp r;have h2:=VN d (Int.ne_of_gt hp);have h3:=Xn h1 (Xm hp);simp only[fQ];omega
theorem OS(hp:0<p):∀r:List Int,fQ p r<p^r.length
 |[]=>by simp[fQ]
 |d::r=>by
  have h1:=OS hp r;have h2:=VM d hp;simp only[fQ,U0,Yp];have h3:(fQ p r+1)*p<=p^r.length*p:=Int.mul_le_mul_of_nonneg_right ∅ (Xm hp)
  have h4:(fQ p r+1)*p=fQ p r*p+p:=by rw[Int.add_mul,Int.one_mul]
  omega
theorem gb(p:Int):∀(n:Nat) (x:Int),(bK p n x).length=n
 |0,_=>rfl
 |n+1,x=>by simp[bK,gb p n]
theorem Kw{f:Int->Int->Int}:(List.zipWith f (bK p n x) (bK p n y)).length=n:=by simp[gb]
section
variable {p:Int}(hp:0<p) {n:Nat}
include hp
theorem ah8(x y:Int):0<=vn p n x y:=OQ hp _
theorem ah9(x y:Int):vn p n x y<p^n:=by
 have:=OS hp (List.zipWith (· + ·) (bK p n x) (bK p n y))
 rwa[Kw]at this
end
structure Fd where
 q:Nat
 p:Nat
 n:Nat
 low:Nat
 g:Nat
 E:List Nat
 L:List Nat
def bU:List Fd:=[⟨2,2,1,0,1,[1],[0,0]⟩,
 ⟨3,3,1,0,2,[1,2],[0,0,1]⟩,
 ⟨4,2,2,3,2,[1,2,3],[0,0,1,2]⟩,
 ⟨5,5,1,0,2,[1,2,4,3],[0,0,1,3,2]⟩,
 ⟨7,7,1,0,3,[1,3,2,6,4,5],[0,0,2,1,4,5,3]⟩,
 ⟨9,3,2,1,4,[1,4,6,7,2,8,3,5],[0,0,4,6,1,7,2,3,5]⟩,
 ⟨13,13,1,0,2,[1,2,4,8,3,6,12,11,9,5,10,7],[0,0,1,4,2,9,5,11,3,8,10,7,6]⟩,
 ⟨17,17,1,0,3,[1,3,9,10,13,5,15,11,16,14,8,7,4,12,2,6],[0,0,14,1,12,5,15,11,10,2,3,7,13,4,9,6,8]⟩,
 ⟨25,5,2,2,6,[1,6,14,5,8,21,3,18,7,15,19,13,4,24,16,20,22,9,2,12,23,10,11,17],[0,0,18,6,12,3,1,8,4,17,21,22,19,11,2,9,14,23,7,10,15,5,16,20,13]⟩,
 ⟨29,29,1,0,2,[1,2,4,8,16,3,6,12,24,19,9,18,7,14,28,27,25,21,13,26,23,17,5,10,20,11,22,15],[0,0,1,5,2,22,6,12,3,10,23,25,7,18,13,27,4,21,11,9,24,17,26,20,8,16,19,15,14]⟩]
def fC:List Nat->Nat->Nat
 |[],_=>0
 |a::_,0=>a
 |_::l,i+1=>fC l i
def mI(f:Fd)(x y:Nat):Int:=AM f.p f.n f.low x y
def aI(f:Fd)(x y:Nat):Int:=vn f.p f.n x y
def M(f:Fd)(x y:Nat):Nat:=if x=0\/y=0 then 0 else fC f.E ((fC f.L x+fC f.L y) % (f.q-1))
def Mk(f:Fd)(x y:Nat):Nat:=cond (Nat.beq x 0||Nat.beq y 0) 0 (fC f.E ((fC f.L x+fC f.L y) % (f.q-1)))
theorem za(f:Fd)(x y:Nat):Mk f x y=M f x y:=by
 unfold Mk M
 by_cases h:x=0\/y=0
 ·rw[if_pos h]
  rcases h with h|h<;>subst h<;>simp
 ·rw[if_neg h];rw[not_or]at h;have h1:Nat.beq x 0=ξ:=by cases x with|zero=>exact absurd rfl h.1|succ _=>rfl
  have h2:Nat.beq y 0=ξ:=by cases y with|zero=>exact absurd rfl h.2|succ _=>rfl
  rw[h1,h2];rfl
def GW(i:Int)(k:Nat):Bool:=match i with
 |.ofNat m=>Nat.beq m k
 |.negSucc _=>ξ
theorem Qu(h:GW i k=G):i=k:=by
 cases i with
 |ofNat m=>have:m=k:=Zt h;subst this;rfl
 |negSucc _=>cases h
def agV(f:Fd):Bool:=(θ f.q).all λx=>(θ f.q).all λy=>GW (mI f x y) (Mk f x y)
def agY(f:Fd):Bool:=(θ f.q).all λx=>(θ f.q).all λy=>Nat.beq (Mk f f.g (aI f x y).toNat) (aI f (Mk f f.g x) (Mk f f.g y)).toNat
def agX(f:Fd):Bool:=(θ (f.q-1)).all λi=>Nat.beq (fC f.L (fC f.E i)) i && !Nat.beq (fC f.E i) 0&&Nat.ble (fC f.E i+1) f.q
def agW(f:Fd):Bool:=(θ f.q).all λx=>Nat.beq x 0||(Nat.beq (fC f.E (fC f.L x)) x&&Nat.ble (fC f.L x+1) (f.q-1))
def SQ(f:Fd):Bool:=Nat.ble 2 f.q&&Nat.beq (f.p^f.n) f.q&&Nat.beq (fC f.E 0) 1&&Nat.ble 2 f.p&&Nat.ble f.p 47&&Nat.ble 1 f.n&&Nat.ble f.n 5&&Nat.beq (fC f.E (1 % (f.q-1))) f.g&&Nat.ble (f.low+1) f.q&&Nat.ble 1 f.g&&Nat.ble (f.g+1) f.q
theorem ahX:bU.all agV=G:=by decide +kernel
theorem ah1:bU.all agY=G:=by decide +kernel
theorem ah0:bU.all agX=G:=by decide +kernel
theorem ahY:bU.all agW=G:=by decide +kernel
theorem ahW:bU.all SQ=G:=by decide +kernel
theorem bl(h:Nat.ble a b=G):a<=b:=Zs h
theorem be(h:Nat.beq a b=G):a=b:=Zt h
structure Is (f:Fd):Prop where
 q2:2<=f.q
 pn:f.p^f.n=f.q
 e0:fC f.E 0=1
 p2:2<=f.p
 gO:f.p<=47
 n1:1<=f.n
 n5:f.n<=5
 eg:fC f.E (1 % (f.q-1))=f.g
 lo:f.low<f.q
 g1:1<=f.g
 akw:f.g<f.q
 le:∀i,i<f.q-1->fC f.L (fC f.E i)=i/\fC f.E i≠0/\fC f.E i<f.q
 el:∀x,x<f.q->x≠0->fC f.E (fC f.L x)=x/\fC f.L x<f.q-1
 mm:∀x y,x<f.q->y<f.q->mI f x y=(M f x y:Nat)
 dd:∀x y,x<f.q->y<f.q->M f f.g (aI f x y).toNat=(aI f (M f f.g x) (M f f.g y)).toNat
theorem gc(h:f∈bU):Is f:=by
 have hM:=Iv.mp ahX f h;have hD:=Iv.mp ah1 f h;have hE:=Iv.mp ah0 f h;have hL:=Iv.mp ahY f h;have hO:=Iv.mp ahW f h;simp only[SQ,T5]at hO;obtain⟨⟨⟨⟨⟨⟨⟨⟨⟨⟨o1,o2⟩,o3⟩,o4⟩,ap3⟩,ap2⟩,ap1⟩,ap0⟩,ao9⟩,o10⟩,o11⟩:=hO;refine⟨bl o1,be o2,be o3,bl o4,bl ap3,bl ap2,bl ap1,be ap0,bl ao9,bl o10,bl o11,λi hi=>?_,λx hx h0=>?_,λx y hx hy=>?_,λx y hx hy=>?_⟩
 ·have:=Iv.mp hE i (gq.mpr hi);simp only[T5,Bool.not_eq_true']at this;exact⟨be this.1.1,λz=>by rw[z]at this;simp at this,bl this.2⟩
 ·have:=Iv.mp hL x (gq.mpr hx);simp only[Vw,T5]at this
  rcases this with this|this
  ·exact absurd (be this) h0
  ·exact⟨be this.1,bl this.2⟩
 ·have:=Iv.mp (Iv.mp hM x (gq.mpr hx)) y (gq.mpr hy);rw[Qu this,za]
 ·have:=Iv.mp (Iv.mp hD x (gq.mpr hx)) y (gq.mpr hy);have:=be this
  rwa[za,za,za]at this
section
variable {f:Fd}(I:Is f)
include I
theorem Is.pp:(0:Int)<f.p:=by have:=I.p2;omega
theorem Is.pw:((f.p:Int))^f.n=(f.q:Int):=by rw[<-I.pn];simp
theorem aij(x y:Nat):M f x y<f.q:=by
 have:=I.q2;unfold M;split
 ·omega
 ·exact(I.le _ (V7 _ ∅)).2.2
end
def P(f:Fd)(x:Nat):Nat->Nat
 |0=>1
 |k+1=>M f (P f x k) x
section
variable {f:Fd}(I:Is f)
include I
theorem aic(x y:Nat):((aI f x y).toNat:Int)=aI f x y/\(aI f x y).toNat<f.q:=by
 have h1:=ah8 I.pp (n:=f.n) (x:Int) y;have h2:=ah9 I.pp (n:=f.n) (x:Int) y;rw[I.pw]at h2;unfold aI;omega
end
end Fq
namespace Ev
open PySem L2 Fq
theorem FD(hp:0<p):∀(n:Nat) (x:Int),∀d∈bK p n x,0<=d/\d<p
 |0,x,d,h=>by cases h
 |n+1,x,d,h=>by
  rcases AP.mp h with rfl|h
  ·exact⟨VN _ ∅,VM _ hp⟩
  ·exact FD hp n _ d h
def A2:ah:=(aC (dw (gx (ak 3) (au bZ (ak 0) (ak 1)))) (aG 0 (au fu (ak 0) (ak 1))))
theorem acQ{c:aa}{left:Int}{acc:List D}(hp:0<p)(dQ:p<1000)(ha:acc.length<1000):A2 [O (.int left),O (.int p),a2,O (.ref c.length),v4] (c++[.lst acc]) =
  .ok (.nx [O (.int (left/p)),O (.int p),a2,O (.ref c.length),v4]) (c++[.lst (acc++[.int (left % p)])]):=by
 have h:=DQ (c:=c) (acc:=acc) (y:=.int (left % p)) (dO:=ak 3) (da:=au bZ (ak 0) (ak 1)) (e:=[O (.int left),O (.int p),a2,O (.ref c.length),v4]) (by simp) (by simp(disch:=omega) [gT]) rfl (by have:=dS (n:=1000) ⋯;omega)
 unfold A2;rw[i8,kD,h];simp(disch:=omega) [i6]
theorem PL{c:aa}(hp:0<p)(dQ:p<1000):∀(items:List D) (left:Int) (acc:List D) (v4:Option D),acc.length+items.length<1000 ->
  ∃l' v',cZ (λ_=>True) (aA 4) A2 items [O (.int left),O (.int p),a2,O (.ref c.length),v4] (c++[.lst acc]) =
   .ok (.nx [O (.int l'),O (.int p),a2,O (.ref c.length),v']) (c++[.lst (acc++(bK p items.length left).map D.int)])
 |[],left,acc,v4,_=>⟨left,v4,by simp[bK]⟩
 |x::xs,left,acc,v4,h=>by
  simp only[U0]at h;obtain⟨l',v',ih⟩:=PL hp dQ xs (left/p) (acc++[.int (left % p)]) (O x) (by simp;omega)
  rw[kg];simp;rw[acQ hp dQ ∅]
  simp;rw[ih];simp[bK]
theorem A1(hp:0<p)(dQ:p<1000)(hl:(aY 0 N).length=n)(hn:n<1000)(b1:-4611686018427387904<=N/\N<4611686018427387904)(c:aa):
  gr [.int x,.int p,.int N] c=.ok (.lst ((bK p n x).map D.int)) c:=by
 obtain⟨l',v',hf⟩:=PL (c:=c) (p:=p) hp dQ _ x [] Z (by rw[hl,Uc];omega)
 rw[hl,UG]at hf;unfold A2 at hf;simp[gr,Dr];rw[if_pos b1];simp;rw[hf];simp[cU,t8]
def dv(q p:Int):Bool:=decide (q % p=0)
def prs:List Int:=[2,3,5,7,11,13,17,19,23,29,31,37,41,43,47]
theorem RV{α:Type}{P:α->Bool}{p:α}:∀{l:List α},l.find? P=O p->∃r,l.filter P=p::r
 |[],h=>by cases h
 |a::l,h=>by
  rw[List.find?_cons]at h;rw[Yo];cases hP:P a with
  |true=>rw[hP]at h;cases h;exact⟨_,if_pos rfl⟩
  |false =>
   rw[hP]at h;obtain⟨r,hr⟩:=RV h;exact⟨r,by rw[if_neg UC];exact hr⟩
def CL(q:Int):D->Bool
 |.int p=>dv q p
 |_=>ξ
theorem Sa(q:Int):∀l:List Int,((l.map D.int).filter (CL q)).map id=(l.filter (dv q)).map D.int
 |[]=>rfl
 |a::l=>by
  have ih:=Sa q l;have e:CL q (.int a)=dv q a:=rfl;rw[T8,Yo,Yo,e];cases dv q a with
  |true=>rw[if_pos rfl,if_pos rfl,T8,T8,ih];rfl
  |false=>rw[if_neg UC,if_neg UC,ih]
theorem ape(h:prs.find? (dv q)=O p)(c:aa):g9 [.int q] c=.ok (.int p) c:=by
 have anD:(15:Nat)<=Ω:=⋯
 have ana:(15:Nat)<Ω:=⋯
 have hc:=mE (c:=c) (g:=aA 0) (t:=aN (au cB (au bZ (ak 1) (ak 0)) (dC (.int 0)))) (a:=ak 0) (λe=>∃v,e=[v,O (.int q)]) (CL q) id
  (prs.map D.int) [Z,O (.int q)] [] ⟨Z,rfl⟩ (λx hx e ⟨v,he⟩=>by
   subst he;obtain⟨i,hi,rfl⟩:=H8.mp hx;have i0:0<i:=by
    simp only[prs,AP,TZ,or_false]at hi;omega
   simp[(gT c i0),CL,dv])
 obtain⟨r,hr⟩:=RV h;rw[Sa,hr]at hc;have hp:prs.map D.int=[D.int 2,.int 3,.int 5,.int 7,.int 11,.int 13,.int 17,.int 19,.int 23,.int 29,.int 31,.int 37,.int 41,.int 43,.int 47]:=rfl;rw[hp]at hc;simp[-lA,g9,Dt,anD,ana,cX];rw[hc];simp
theorem apf:(bU.all λf=>(θ f.n).all λk=>prs.find? (dv ((f.p:Int)^(k+1)))==O (f.p:Int))=G:=by decide +kernel
theorem NL(h:f∈bU)(hk:k<f.n)(c:aa):g9 [.int ((f.p:Int)^(k+1))] c=.ok (.int f.p) c:=by
 refine ape ?_ c;have:=Iv.mp (Iv.mp apf f h) k (gq.mpr hk)
 simpa using this
theorem FL(h:f∈bU)(c:aa):g9 [.int f.q] c=.ok (.int f.p) c:=by
 have I:=gc h;have n1:=I.n1;have:=NL h (k:=f.n-1) ∅ c
 rwa[show f.n-1+1=f.n by omega,I.pw]at this
def CM:ah:=(aC (aG 0 (au fu (ak 0) (aB 1 g9 ⇑0))) (aG 1 (au aZ (ak 1) (dC (.int 1)))))
theorem Sg(h:f∈bU)(c:aa):∀(k fuel:Nat) (d:Int),k<=f.n->k<fuel->gY (aN (au jf (ak 0) (dC (.int 1)))) CM fuel [O (.int ((f.p:Int)^k)),O (.int d)] c=.ok (.nx [O (.int 1),O (.int (d+k))]) c
 |0,fuel+1,d,_,_=>by simp[gY]
 |k+1,fuel+1,d,hk,hf=>by
  have I:=gc h;have p2:=I.p2;have gO:=I.gO;have ih:=Sg h c k fuel (d+1) ∅ ∅
  have hpos:∀j:Nat,(1:Int)<=(f.p:Int)^j:=λj=>by
   have:=Nat.one_le_pow j f.p ∅
   have e:((f.p^j:Nat):Int)=(f.p:Int)^j:=by simp
   omega
  have h1:(1:Int)<(f.p:Int)^(k+1):=by
   rw[Yp];have h2:=hpos k;have h3:(f.p:Int)^k*2<=(f.p:Int)^k*f.p:=Yn ∅ ∅
   omega
  have hd:(f.p:Int)^(k+1)/f.p=(f.p:Int)^k:=by
   rw[Yp];exact Int.mul_ediv_cancel _ ∅
  have e:CM [O (.int ((f.p:Int)^(k+1))),O (.int d)] c=.ok (.nx [O (.int ((f.p:Int)^k)),O (.int (d+1))]) c:=by
   have e1:fu (.int ((f.p:Int)^(k+1))) (.int f.p) c=.ok (.int ((f.p:Int)^k)) c:=by rw[i6 c ∅ ∅,hd]
   simp[CM,NL h (show k<f.n by omega),e1]
  have et:aN (au jf (ak 0) (dC (.int 1))) [O (.int ((f.p:Int)^(k+1))),O (.int d)] c=.ok G c:=by simp[h1]
  unfold gY;rw[et];simp only[R.aF,if_pos];rw[e];simp only[R.aF];rw[ih,show d+1+(k:Int)=d+((k+1:Nat):Int) by omega]
theorem Sf(h:f∈bU)(c:aa):nC [.int f.q] c=.ok (.int f.n) c:=by
 have I:=gc h;have hl:=Sg h c f.n 10 0 (dD _) (by have:=I.n5;omega)
 rw[I.pw,YR]at hl;unfold CM at hl;show R.bind (R.bind (gY _ _ 10 [O _,O _] c) _) _=_;rw[hl];simp
def kK(p:Int):List Int->Int
 |[]=>0
 |d::r=>kK p r*p+d
theorem OV:∀{r:List Int},(∀d∈r,0<=d/\d<p)->kK p r=fQ p r
 |[],_=>rfl
 |d::r,h=>by
  have:=h d Ub;rw[kK,fQ,OV λx hx=>h x (UP _ hx),ZS this.1 this.2]
theorem abX(p:Int)(r:List Int):r.reverse.foldl (λn d=>n*p+d) 0=kK p r:=by
 rw[Ym]
 induction r with
 |nil=>rfl
 |cons d r ih=>rw[Yl,ih];rfl
def IB(L:List D->aa->R D):ah:=(aC (aG 2 (dC (.int 0))) (aC (bY (bH (ao (aO L ⇑0) av)) (aA 3) (aG 2 (au aZ (au aT (ak 2) (ak 1)) (au aD (ak 0) (au bO (au bO (aO L ⇑0) (dC (.int 1))) (ak 3)))))) (aK (ak 2))))
theorem ahD:Dv=IB bD:=rfl
def GK(L:List D->aa->R D):ah:=(aG 2 (au aZ (au aT (ak 2) (ak 1)) (au aD (ak 0) (au bO (au bO (aO L ⇑0) (dC (.int 1))) (ak 3)))))
theorem acT{L:List D->aa->R D}{p N:Int}(hp:0<p)(dQ:p<1000)(r:List Int)(hN:N=r.length)(b1:-4611686018427387904<=N/\N<4611686018427387904)(hL:L [.lst (r.map D.int)] c=.ok (.int N) c):bh 4 ξ (IB L) [.lst (r.map D.int),.int p] c=.ok (.int (kK p r)) c:=by
 obtain⟨v',hf⟩:=uO (g:=aA 3) (s:=GK L) (λ_=>c) (λi v=>[O (.lst (r.map D.int)),O (.int p),O (.int ((r.reverse.take i).foldl (λn d=>n*p+d) 0)),v]) hN Z (λi hi v=>by
  have hr:i<r.reverse.length:=by rw[YS];exact hi
  have hx:dB (r.map D.int) (N-1-i)=O (.int r.reverse[i]):=by
   have hg:(r.map D.int)[r.length-1-i]? = O (.int r.reverse[i]):=by
    rw[U7,I8 ∅]
    simp
   have:=iy (xs:=r.map D.int) (j:=r.length-1-i) (v:=.int r.reverse[i]) hg;rw[show((r.length-1-i:Nat):Int)=N-1-i by omega]at this
   exact this
  rw[(Wi hr),Wh]
  generalize (r.reverse.take i).foldl (λn d=>n*p+d) 0=w
  have hm:aT (.int w) (.int p) c=.ok (.int (w*p)) c:=mul_r c ∅ ∅
  simp[GK,hL,hm,hx])
 have e0:(r.reverse.take r.length).foldl (λn d=>n*p+d) 0=kK p r:=by
  rw[WN (by rw[YS];exact dD _),abX]
 simp only[XQ,List.foldl_nil]at hf;rw[e0]at hf;unfold GK at hf;simp[IB,hL];rw[if_pos b1];simp only[R.aF];rw[hf];simp
theorem PU(hp:0<p)(dQ:p<1000)(r:List Int)(hr:r.length<1000)(c:aa):uw [.lst (r.map D.int),.int p] c=.ok (.int (kK p r)) c:=by
 rw[uw,ahD];exact acT hp dQ r rfl ∅ (by rw[EI,T6])
def gJ(l:List Int)(i:Nat):Int:=l.getD i 0
theorem RC{l:List Int}(h:i<l.length):(l.map D.int)[i]? = O (.int (gJ l i)):=by
 simp[gJ,List.getD,h]
theorem akE(f:Int->Int->Int){a b:List Int}(ha:a.length=n)(hb:b.length=n):List.zipWith f a b=(θ n).map λi=>f (gJ a i) (gJ b i):=by
 apply YL
 ·simp[ha,hb]
 ·intro i h1 h2;simp at h1;have apF:i<a.length:=∅
  have ib:i<b.length:=∅
  simp[gJ,List.getD,apF,ib]
theorem agM{a b:List Int}{p s N:Int}{n:Nat}(hN:N=n)(hp:0<p)(ha:a.length=n)(hb:b.length=n)(hs:-1000<s/\s<1000)(c:aa) :
  bT (λ_=>True) (aA 0) aP (au bZ (au aZ (au aD (au aD (ak 3) (dC (.int 0))) (ak 0)) (au aT (ak 2) (au aD (au aD (ak 3) (dC (.int 1))) (ak 0)))) (ak 1)) (aY 0 N) [Z,O (.int p),O (.int s),O (.lst [.lst (a.map D.int),.lst (b.map D.int)])] [] c =
   .ok ((List.zipWith (λx y=>(x+s*y) % p) a b).map D.int) c:=by
 have:=mE (c:=c) (g:=aA 0) (t:=aP) (a:=au bZ (au aZ (au aD (au aD (ak 3) (dC (.int 0))) (ak 0)) (au aT (ak 2) (au aD (au aD (ak 3) (dC (.int 1))) (ak 0)))) (ak 1)) (λe=>∃v,e=[v,O (.int p),O (.int s),O (.lst [.lst (a.map D.int),.lst (b.map D.int)])]) (λ_=>G)
  (λd=>match d with|.int i=>.int ((gJ a i.toNat+s*gJ b i.toNat) % p)|d=>d) (aY 0 N) [Z,O (.int p),O (.int s),O (.lst [.lst (a.map D.int),.lst (b.map D.int)])] [] ⟨Z,rfl⟩ (λx hx e ⟨v,he⟩=>by
   subst he;obtain⟨i,rfl,i0,i1⟩:=qZ hx;obtain⟨k,rfl⟩:∃k:Nat,i=k:=⟨i.toNat,∅⟩
   have h1:dB (a.map D.int) k=O _:=iy (RC ∅)
   have h2:dB (b.map D.int) k=O _:=iy (RC ∅)
   have h3:aT (.int s) _ c=.ok (.int (s*gJ b k)) c:=gS c ∅ ∅
   refine⟨_,rfl,⟨_,rfl⟩,rfl,λ_=>?_⟩
   simp[h1,h2,h3,(gT c hp)])
 rw[this,UG,Zr.mpr λ_ _=>rfl,akE _ ha hb]
 congr 1
 unfold aY;rw[UB,UB,show(N-0).toNat=n by omega]
 apply VD;simp
def DP(L:List D->aa->R D):ah:=(aC (aG 4 (aB 1 g9 ⇑0)) (aC (aG 5 (aB 1 nC ⇑0)) (aC (aG 6 (cE (ao (aB 3 gr (ao (ak 1) (4⊂5))) (ao (aB 3 gr (ao (ak 2) (4⊂5))) av)))) (aK (aB 2 L (ao (aX (bH ⇑5) [Z,O 4,O 3,O 6] (aA 0) aP (au bZ (au aZ (au aD (au aD (ak 3) (dC (.int 0))) (ak 0)) (au aT (ak 2) (au aD (au aD (ak 3) (dC (.int 1))) (ak 0)))) (ak 1))) ⇑4))))))
theorem amN{L:List D->aa->R D}{q x y s p N w:Int}{n:Nat}{a b:List Int}(h1:g9 [.int q] c=.ok (.int p) c)(h2:nC [.int q] c=.ok (.int N) c)(h3:gr [.int x,.int p,.int N] c=.ok (.lst (a.map D.int)) c)(h4:gr [.int y,.int p,.int N] c=.ok (.lst (b.map D.int)) c)(hN:N=n)(hp:0<p)(ha:a.length=n)(hb:b.length=n)(hs:-1000<s/\s<1000)(b1:-4611686018427387904<=N/\N<4611686018427387904)(hl:(aY 0 N).length<Ω)(hn:L [.lst ((List.zipWith (λx y=>(x+s*y) % p) a b).map D.int),.int p] c=.ok (.int w) c):bh 7 ξ (DP L) [.int q,.int x,.int y,.int s] c=.ok (.int w) c:=by
 have key:DP L [O (.int q),O (.int x),O (.int y),O (.int s),Z,Z,Z] c=.ok (.rt (.int w)) c:=by
  simp[DP,h1,h2,h3,h4,cX];rw[if_pos b1];simp only[R.aF];rw[if_pos hl,(agM (a:=a) (b:=b) (p:=p) (s:=s) hN hp ha hb hs c)];simp only[R.aF,U0,Uc,if_pos,hn]
 rw[fF];show R.bind (DP L [O _,O _,O _,O _,Z,Z,Z] c) _=_;rw[key];simp
theorem Ku(f:Int->Int->Int)(p:Int):∀a b:List Int,List.zipWith (λx y=>f x y % p) a b=(List.zipWith f a b).map (· % p)
 |[],b=>by simp
 |a::as,[]=>by simp
 |a::as,b::bs=>by rw[XJ,XJ,T8,Ku f p as bs]
theorem amP(h:f∈bU)(x y s:Int)(hs:-1000<s/\s<1000)(c:aa):rC [.int f.q,.int x,.int y,.int s] c=.ok (.int (fQ f.p (List.zipWith (λa b=>a+s*b) (bK f.p f.n x) (bK f.p f.n y)))) c:=by
 have I:=gc h;have p2:=I.p2;have gO:=I.gO;have n5:=I.n5;have hsz:=dS (n:=1000) ⋯
 have h1:=λz=>A1 (p:=f.p) (N:=f.n) (x:=z) (n:=f.n) ∅ ∅ (by rw[eY];omega) ∅ ∅ c
 have hn:=PU (p:=f.p) ∅ ∅ (List.zipWith (λa b=>(a+s*b) % (f.p:Int)) (bK f.p f.n x) (bK f.p f.n y)) (by rw[Kw];omega) c
 have e:kK f.p (List.zipWith (λa b=>(a+s*b) % (f.p:Int)) (bK f.p f.n x) (bK f.p f.n y))=fQ f.p (List.zipWith (λa b=>a+s*b) (bK f.p f.n x) (bK f.p f.n y)):=by
  rw[Ku,OV,OR];intro d hd;obtain⟨z,_,rfl⟩:=H8.mp hd;exact⟨VN _ ∅,VM _ ∅⟩
 rw[e]at hn;exact amN (FL h c) (Sf h c) (h1 x) (h1 y) rfl ∅ (gb _ _ _) (gb _ _ _) hs ∅ (by rw[eY];omega) hn
def gI(l:List Int)(i:Nat):Int:=l.getD i 0
theorem uM{l:List Int}(h:i<l.length):(l.map D.int)[i]? = O (.int (gI l i)):=by
 simp[gI,List.getD,h]
def mh(p a:Int)(b:List Int)(k:Nat)(F:List Int):Nat->List Int
 |0=>F
 |j+1=>(mh p a b k F j).set (k+j) ((gI (mh p a b k F j) (k+j)+a*gI b j) % p)
def nj(p:Int)(a b:List Int)(F:List Int):Nat->List Int
 |0=>F
 |k+1=>mh p (gI a k) b k (nj p a b F k) b.length
def iD(a b:List Int)(p:Int):List Int:=nj p a b (ο (a.length+b.length-1) 0) a.length
theorem Bb:∀j,(mh p a b k F j).length=F.length
 |0=>rfl
 |j+1=>by rw[mh,ZI,Bb j]
theorem Am:∀k,(nj p a b F k).length=F.length
 |0=>rfl
 |k+1=>by rw[nj,Bb,Am k]
theorem map_set{l:List Int}:(l.map D.int).set i (.int x)=(l.set i x).map D.int:=by rw[List.map_set]
def in1(a p:Option D):Ev:=[a,p]
def zO:ah:=(g8 (au bZ (au aZ (au aD (ak 3) (au aZ (ak 4) (ak 5))) (au aT (au aD (ak 0) (ak 4)) (au aD (ak 1) (ak 5)))) (ak 2)) (nL (ak 3) (au aZ (ak 4) (ak 5))))
theorem amI{a b F:List Int}{c:aa}(hp:0<p)(hk:k<a.length)(hj:j<b.length)(hF:k+j<F.length)(hs:∀x∈a,0<=x/\x<1000):
  zO [O (.lst (a.map D.int)),O (.lst (b.map D.int)),O (.int p),O (.ref c.length),O (.int k),O (.int j)] (c++[.lst (F.map D.int)]) =
   .ok (.nx [O (.lst (a.map D.int)),O (.lst (b.map D.int)),O (.int p),O (.ref c.length),O (.int k),O (.int j)]) (c++[.lst ((F.set (k+j) ((gI F (k+j)+gI a k*gI b j) % p)).map D.int)]):=by
 have h1:=GV (c:=c) (l:=F.map D.int) (i:=(k:Int)+j) (j:=k+j) ∅ (uM hF)
 have h3:dB (b.map D.int) j=O (.int (gI b j)):=iy (uM hj);have hb:0<=gI a k/\gI a k<1000:=hs _ (by simp[gI,List.getD,hk])
 have h4:∀c,aT (.int (gI a k)) (.int (gI b j)) c=.ok (.int (gI a k*gI b j)) c:=λc=>gS c ∅ ∅
 have h5:=λx=>L5 (c:=c) (l:=F.map D.int) (i:=(k:Int)+j) (j:=k+j) (d:=.int x) ∅ (by simpa using hF) rfl
 have h6:∀x c,bZ (.int x) (.int p) c=.ok (.int (x % p)) c:=λx c=>gT c hp
 simp only[zO,zy,eO,cg,gz,gs,R.aF,qy,sO,h1,(iy (uM hk)),h3,h4,h6,KN,h5,map_set]
def zN(L:List D->aa->R D):ah:=(bY (bH (ao (aO L ⇑1) av)) (aA 5) zO)
theorem amJ{L:List D->aa->R D}{a b F:List Int}{p N:Int}{k:Nat}(hp:0<p)(hk:k<a.length)(hF:a.length+b.length-1<=F.length)(hs:∀x∈a,0<=x/\x<1000)(hN:N=b.length)(b1:-4611686018427387904<=N/\N<4611686018427387904)(hL:∀c,L [.lst (b.map D.int)] c=.ok (.int N) c)(v5:Option D):
  ∃v',zN L [O (.lst (a.map D.int)),O (.lst (b.map D.int)),O (.int p),O (.ref c.length),O (.int k),v5] (c++[.lst (F.map D.int)]) =
   .ok (.nx [O (.lst (a.map D.int)),O (.lst (b.map D.int)),O (.int p),O (.ref c.length),O (.int k),v']) (c++[.lst ((mh p (gI a k) b k F b.length).map D.int)]):=by
 obtain⟨v',hf⟩:=uO (g:=aA 5) (λj=>c++[.lst ((mh p (gI a k) b k F j).map D.int)]) (λ_ v=>[O _,O _,O _,O _,O _,v]) hN v5 (λj hj v=>by
  exact⟨_,rfl,_,amI hp hk hj (by rw[Bb];omega) hs⟩)
 refine⟨v',?_⟩;simp only[zN,jl,mT,b7,gM,cg,cj,gz,gs,R.aF,hL]
 rwa[if_pos ∅]
def yS(L:List D->aa->R D)(Rp:D->D->aa->R D):ah:=(aC (aG 3 (au Rp (cE (ao (dC (.int 0)) av)) (au bO (au aZ (aO L ⇑0) (aO L ⇑1)) (dC (.int 1))))) (aC (bY (bH (ao (aO L ⇑0) av)) (aA 4) (bY (bH (ao (aO L ⇑1) av)) (aA 5) (g8 (au bZ (au aZ (au aD (ak 3) (au aZ (ak 4) (ak 5))) (au aT (au aD (ak 0) (ak 4)) (au aD (ak 1) (ak 5)))) (ak 2)) (nL (ak 3) (au aZ (ak 4) (ak 5)))))) (aK (ak 3))))
theorem ahB:sC=yS bD oX:=rfl
theorem LV{L:List D->aa->R D}{Rp:D->D->aa->R D}{b:List Int}{p N M:Int}(hp:0<p)(ha:a≠[])(hs:∀x∈a,0<=x/\x<1000)(hN:N=b.length)(b1:-4611686018427387904<=N/\N<4611686018427387904)(hL:∀c,L [.lst (b.map D.int)] c=.ok (.int N) c)(hM:M=a.length)(b2:-4611686018427387904<=M/\M<4611686018427387904)(uJ:∀c,L [.lst (a.map D.int)] c=.ok (.int M) c)(hR:Rp (.lst [.int 0]) (.int (M+N-1)) c=.ok (.ref c.length) (c++[.lst ((ο (a.length+b.length-1) (0:Int)).map D.int)])):
  yS L Rp [O (.lst (a.map D.int)),O (.lst (b.map D.int)),O (.int p),Z,Z,Z] c=.ok (.rt (.ref c.length)) (c++[.lst ((iD a b p).map D.int)]):=by
 obtain⟨v',hf⟩:=uO (g:=aA 4) (s:=zN L) _ (λ_ v=>[O _,O _,O (.int p),O _,v.1,v.2]) hM (Z,Z) (λk hk v=>by
  obtain⟨w,h⟩:=amJ (L:=L) (a:=a) (b:=b) (F:=nj p a b (ο _ 0) k) (c:=c) (k:=k) hp hk (by rw[Am,XZ];exact dD _) hs hN b1 hL v.2
  exact⟨_,rfl,(O (.int k),w),h⟩)
 simp only[yS,i8,iL,eO,KJ,b7,jJ,cj,R.aF,gM,cg,gz,gs,hL,uJ,qy,zv];rw[if_pos ⋯]
 simp only[R.aF,hR,VS,Vc,jl,mT,b7,gM,cg,cj,gz,gs,uJ];rw[if_pos ∅]
 simp only[R.aF];unfold zN at hf;unfold zO at hf;simp only[nj]at hf;rw[hf];rfl
theorem LU{a b:List Int}(h:a.length+b.length<1000)(ha:a≠[]){M N:Int}(hM:M=a.length)(hN:N=b.length)(c:aa):oX (.lst [.int 0]) (.int (M+N-1)) c=.ok (.ref c.length) (c++[.lst ((ο (a.length+b.length-1) (0:Int)).map D.int)]):=by
 have hs:=dS (n:=1000) ⋯
 have ht:(M+N-1).toNat=a.length+b.length-1:=∅
 rw[alo,ht,if_pos ⟨∅,∅,by simp;omega,rfl⟩]
 congr 4
 generalize a.length+b.length-1=n
 induction n with
 |zero=>rfl
 |succ n ih=>rw[Va,Vx,ih];rfl
theorem xM(l:List Int)(c:aa):bD [.lst (l.map D.int)] c=.ok (.int l.length) c:=by rw[EI,T6]
theorem amm{b:List Int}(hp:0<p)(ha:a≠[])(hs:∀x∈a,0<=x/\x<1000)(h:a.length+b.length<1000)(c:aa):rB [.lst (a.map D.int),.lst (b.map D.int),.int p] c=.ok (.lst ((iD a b p).map D.int)) c:=by
 have:=LV (L:=bD) hp ha hs rfl ∅ (xM b) rfl ∅ (xM a) (LU h ha rfl rfl c)
 show R.bind (yS bD oX [O _,O _,O (.int p),Z,Z,Z] c) _=_;rw[this];simp[cU]
theorem amn{b:List Int}(hp:0<p)(ha:a≠[])(hs:∀x∈a,0<=x/\x<1000)(h:a.length+b.length<1000)(c:aa):ud [.lst (a.map D.int),.lst (b.map D.int),.int p] c=.ok (.ref c.length) (c++[.lst ((iD a b p).map D.int)]):=by
 have:=LV (L:=bD) hp ha hs rfl ∅ (xM b) rfl ∅ (xM a) (LU h ha rfl rfl c)
 rw[ud,ahB,fF];show R.bind (yS bD oX [O _,O _,O _,Z,Z,Z] c) _=_;rw[this];simp[cU]
def more(p:Nat)(row:List Int):List (List Int):=(θ p).map λd:Nat=>row++[(d:Int)]
def fm(p:Nat):Nat->List (List Int)
 |0=>[[]]
 |i+1=>(fm p i).flatMap (more p)
theorem HL{l:List D}:(l.filter λ_=>G)=l:=Zr.mpr λ_ _=>rfl
def LD(L:List (List Int)):List D:=L.map λr=>.lst (r.map D.int)
theorem TH(a b:List (List Int)):LD (a++b)=LD a++LD b:=by simp[LD]
theorem Kf(L:List (List Int)):bW (LD L)=G:=iU.mpr λd hd=>by
 obtain⟨r,_,rfl⟩:=H8.mp hd;rw[NF];exact t8
theorem mQ(L:List (List Int)):(LD L).length=L.length:=by simp[LD]
theorem Gz(p:Nat)(r:List Int):(more p r).length=p:=by simp[more]
theorem Bm(p:Nat):∀i,(fm p i).length=p^i
 |0=>rfl
 |i+1=>by
  have:∀L:List _,(L.flatMap (more p)).length=L.length*p:=by
   intro L
   induction L with
   |nil=>simp
   |cons a L ih=>rw[Yk,UR,ih,Gz,U0,Uv,Wt]
  rw[fm,this,Bm p i,Nat.pow_succ]
theorem Lq{α β:Type}(f:α->List β){L:List α}(h:j<L.length):(L.take (j+1)).flatMap f=(L.take j).flatMap f++f L[j]:=by
 rw[Wi h,Yj];simp
def Bp:ah:=(dw (iw (ak 4) (aX (bH ⇑1) [Z,O 5] (aA 0) aP (au fY (ak 1) (cE ⇑0)))))
def Bo:ah:=(aC (aG 4 (fj av)) (aC (bY (eX (ak 2)) (aA 5) (dw (iw (ak 4) (aX (bH ⇑1) [Z,O 5] (aA 0) aP (au fY (ak 1) (cE ⇑0)))))) (aG 2 (ak 4))))
theorem agP{row:List Int}{P:Int}{p:Nat}(hP:P=p)(hr:row.length<1000)(c:aa):bT (λ_=>True) (aA 0) aP (au fY (ak 1) (cE ⇑0)) (aY 0 P) [Z,O (.lst (row.map D.int))] [] c=.ok (LD (more p row)) c:=by
 have hs:=dS (n:=1000) ⋯
 have hz:row.length+1<=Ω:=∅
 have:=mE (c:=c) (g:=aA 0) (t:=aP) (a:=au fY (ak 1) (cE ⇑0)) (λe=>∃v,e=[v,O (.lst (row.map D.int))]) _ (λd=>.lst (row.map D.int++[d]))
  (aY 0 P) [Z,O _] [] ⟨Z,rfl⟩ (λx hx e ⟨v,he⟩=>by
   subst he;refine⟨_,rfl,⟨_,rfl⟩,rfl,λ_=>?_⟩
   simp[fY,hz])
 rw[this];subst hP
 congr 1
 unfold aY LD more;simp only[UG,HL,UB];apply VD;simp
theorem aeQ{C:aa}{acc:List D}{P many:Int}{p:Nat}{row:List Int}(hP:P=p)(bP:-4611686018427387904<=P/\P<4611686018427387904)(hp:p<1000)(hr:row.length<1000)(ha:acc.length+p<=1000)(F v3:Option D) :
  Bp [O (.int many),O (.int P),F,v3,O (.ref C.length),O (.lst (row.map D.int))] (C++[.lst acc])=.ok (.nx [O (.int many),O (.int P),F,v3,O (.ref C.length),O (.lst (row.map D.int))]) (C++[.lst (acc++LD (more p row))]):=by
 have hs:=dS (n:=1000) ⋯
 have hc:=agP (row:=row) hP hr (C++[.lst acc]);have hl2:acc.length+(LD (more p row)).length<=Ω/\bW (LD (more p row))=G:=⟨by rw[mQ,Gz];omega,Kf _⟩
 simp only[Bp,kD,iw,cg,gz,gs,R.aF,gy,mT,b7,cj];rw[if_pos ∅]
 simp only[R.aF,cX];rw[if_pos (by rw[eY];omega)]
 show R.bind (R.bind (R.bind (bT (λ_=>True) (aA 0) aP _ (aY 0 P) [Z,O (.lst (row.map D.int))] [] _) _) _) _=_
 rw[hc];simp;rw[if_pos hl2];simp
def hC(c:aa)(p i:Nat):aa:=c++(θ i).map λt=>Cell.lst (LD (fm p (t+1)))
def hF(c:aa)(p i:Nat):D:=match i with
 |0=>.lst (LD (fm p 0))
 |i+1=>.ref (c.length+i)
theorem Bu(c:aa)(p i:Nat):(hC c p i).length=c.length+i:=by simp[hC]
theorem Rk(c:aa)(p i:Nat):hC c p (i+1)=hC c p i++[.lst (LD (fm p (i+1)))]:=by simp[hC,VQ]
theorem Rj(c:aa)(p i:Nat)(more:aa)(he:e[k]? = O (O (hF c p i))):∃st:aa->Prop,(∀m,st (hC c p i++m))/\eX (ak k) e (hC c p i++more)=.ok ⟨LD (fm p i),st⟩ (hC c p i++more):=by
 cases i with
 |zero=>exact⟨λ_=>True,λ_=>trivial,by simp only[zw,cg,he];rfl⟩
 |succ i =>
  have hg:∀m:aa,(hC c p (i+1)++m)[c.length+i]? = O _:=λm=>by
   rw[UZ (by rw[Bu];omega),Rk,Um (by rw[Bu];exact dD _),Bu,Vg]
   rfl
  refine⟨λc'=>c'[c.length+i]? = O _,hg,?_⟩
  simp only[zw,cg,he,hF,R.aF,hg]
theorem aeP{P many:Int}{p i:Nat}(hP:P=p)(bP:-4611686018427387904<=P/\P<4611686018427387904)(hp:p<1000)(hi:p^(i+1)<=1000)(G4:∀r∈fm p i,r.length<1000)(v3 v4 v5:Option D):
  ∃w4 w5,Bo [O (.int many),O (.int P),O (hF c p i),v3,v4,v5] (hC c p i)=.ok (.nx [O (.int many),O (.int P),O (hF c p (i+1)),v3,w4,w5]) (hC c p (i+1)):=by
 obtain⟨st,hst,hseq⟩:=Rj c p i [.lst []] (e:=[O (.int many),O (.int P),O (hF c p i),v3,O _,v5]) (k:=2) rfl;have hlen:=Bm p i;obtain⟨v',hf⟩:=nM (st:=st) (g:=aA 5) (s:=Bp) (λj=>hC c p i++[.lst (LD (((fm p i).take j).flatMap (more p)))]) (λ_ v=>[O (.int many),O (.int P),O (hF c p i),v3,O _,v]) (LD (fm p i)) 0 v5
  (λj _=>hst _) (λj x hx v=>by
   rw[UM];have hj:j<(fm p i).length:=by
    have:=(U3.mp hx).1
    rwa[mQ]at this
   have hx':x=.lst ((fm p i)[j].map D.int):=by
    have:=(U3.mp hx).2;rw[<-this];simp[LD]
   subst hx';refine⟨_,rfl,O (.lst ((fm p i)[j].map D.int)),?_⟩;have hacc:(LD (((fm p i).take j).flatMap (more p))).length+p<=1000:=by
    rw[mQ];have:∀L:List (List Int),(L.flatMap (more p)).length=L.length*p:=by
     intro L
     induction L with
     |nil=>simp
     |cons a L ih=>rw[Yk,UR,ih,Gz,U0,Uv,Wt]
    rw[this,Vb,Xl ∅]
    have h2:(j+1)*p<=p^i*p:=XC p ∅
    have h3:p^i*p=p^(i+1):=(Nat.pow_succ ..).symm;rw[h3,Uv]at h2;omega
   have:=aeQ (C:=hC c p i) (many:=many) hP bP hp (G4 _ (U6 hj)) hacc (O (hF c p i)) v3;rw[Lq _ hj,TH];exact this)
 rw[mQ,UM,Us,XQ]at hf;refine⟨O (.ref (hC c p i).length),v',?_⟩;have hF1:hF c p (i+1)=.ref (hC c p i).length:=by rw[Bu];rfl
 rw[Rk,hF1];simp only[Bo,i8,iL,alv,cj,R.aF];rw[if_pos ⟨by simp,by simp⟩]
 simp only[R.aF,VS,Vc,jl];rw[hseq];unfold Bp at hf;show R.bind (cZ st (aA 5) _ (LD (fm p i)) [O (.int many),O (.int P),O (hF c p i),v3,O _,v5] (hC c p i++[.lst (LD ([].flatMap (more p)))])) _=_;rw[hf];rfl
def gf(p n:Nat):List (List Int):=(fm p n).map (· ++ [1])
theorem zU(p:Nat):∀i,∀r∈fm p i,r.length=i
 |0,r,h=>by
  rw[fm,UT]at h;subst h;rfl
 |i+1,r,h=>by
  rw[fm,Yi]at h;obtain⟨r',h1,h2⟩:=h;obtain⟨d,_,rfl⟩:=H8.mp h2;rw[UR,zU p i r' h1];rfl
theorem Q4{P many:Int}{p n:Nat}(hP:P=p)(hn:many=n)(bP:-4611686018427387904<=P/\P<4611686018427387904)(bn:-4611686018427387904<=many/\many<4611686018427387904)(hp:0<p)(dQ:p<1000)(aeh:p^n<1000)(hn':n<100)(c:aa) :
  pG [.int many,.int P] c=.ok (.lst (LD (gf p n))) c:=by
 have hs:=dS (n:=1000) ⋯
 obtain⟨v',hf⟩:=uO (g:=aA 3) (s:=Bo) (hC c p) (λi v=>[O (.int many),O (.int P),O (hF c p i),v.1,v.2.1,v.2.2]) hn (Z,Z,Z) (λi hi v=>by
  obtain⟨w4,w5,h⟩:=aeP (c:=c) (many:=many) (p:=p) (i:=i) hP bP dQ (VX (VH (Zq hp hi) aeh)) (λr hr=>by rw[zU p i r hr];omega) (O (.int i)) v.2.1 v.2.2
  exact⟨_,rfl,(O (.int i),w4,w5),h⟩)
 obtain⟨st,hst,hseq⟩:=Rj c p n [] (e:=[O (.int many),O (.int P),O (hF c p n),v'.1,v'.2.1,v'.2.2]) (k:=2) rfl;rw[VI]at hseq;have hcp:=Ia (c:=hC c p n) st (by have:=hst [];rwa[VI]at this) (g:=aA 0) (t:=aP) (a:=au fY (ak 0) (cE (ao (dC (.int 1)) av))) (λe=>∃v,e=[v]) (λ_=>G) (λd=>match d with|.lst l=>.lst (l++[.int 1])|d=>d)
  (LD (fm p n)) [Z] [] ⟨Z,rfl⟩ (λx hx e ⟨v,he⟩=>by
   subst he;obtain⟨r,hr,rfl⟩:=H8.mp hx;have hz:r.length+1<=Ω:=by rw[zU p n r hr];omega
   simp[fY,hz])
 have hit:(LD (fm p n)).length<Ω:=by rw[mQ,Bm];omega
 have hres:[]++((LD (fm p n)).filter λ_=>G).map (λd=>match d with|.lst l=>D.lst (l++[.int 1])|d=>d)=LD (gf p n):=by
  rw[UG,HL];unfold LD gf;rw[UB,UB];apply VD;intro r _;simp
 rw[hres]at hcp;have hb:vg=aC _ _:=rfl;have hC0:hC c p 0=c:=by simp[hC]
 rw[hC0]at hf;have key:vg [O (.int many),O (.int P),Z,Z,Z,Z] c=.ok (.rt (.lst (LD (gf p n)))) (hC c p n):=by
  rw[hb];simp only[i8,iL,KJ,b7,cj,R.aF];rw[if_pos ⋯]
  simp only[R.aF];rw[if_pos ⋯]
  simp only[R.aF,VS,Vc,jl,mT,b7,cg,cj,gz];rw[if_pos ∅]
  simp only[R.aF];show R.bind (cZ (λ_=>True) (aA 3) Bo (aY 0 many) [O (.int many),O (.int P),O (hF c p 0),Z,Z,Z] c) _=_
  rw[hf];simp only[R.aF,i9,gy];rw[hseq];simp only[R.aF];rw[if_pos hit];show R.bind (R.bind (bT st (aA 0) aP _ (LD (fm p n)) [Z] [] (hC c p n)) _) _=_;rw[hcp];rfl
 rw[pG,fF];show R.bind (vg [O (.int many),O (.int P),Z,Z,Z,Z] c) _=_;rw[key];simp[Kf,hC]
theorem R3:∀a b:List Int,PyData.eqvAll (a.map PyData.int) (b.map PyData.int)=decide (a=b)
 |[],[]=>by simp[PyData.eqvAll]
 |[],b::bs=>by simp[PyData.eqvAll]
 |a::as,[]=>by simp[PyData.eqvAll]
 |a::as,b::bs=>by
  rw[T8,T8,PyData.eqvAll,R3 as bs,PyData.eqv]
  by_cases h:a=b
  ·subst h;simp
  ·simp[h]
theorem agj(a:List Int):PyData.depthAll (a.map PyData.int)=0:=by
 induction a with
 |nil=>simp[PyData.depthAll]
 |cons x a ih=>simp[PyData.depthAll,PyData.depth,ih]
theorem agk(L:List (List Int)):gh (LD L)=O (L.map λr=>PyData.list (r.map PyData.int)):=by
 induction L with
 |nil=>simp[LD]
 |cons r L ih =>
  have ih:gh (L.map λr=>D.lst (r.map D.int))=O _:=ih
  simp[LD,gh,fE,Sm,ih]
theorem adQ(r:List Int)(L:List (List Int))(c:aa):inD (.lst (r.map D.int)) (.ref c.length) (c++[.lst (LD L)])=.ok (.bl (decide (r∈L))) (c++[.lst (LD L)]):=by
 unfold inD;have h1:gw (c++[.lst (LD L)]) (.lst (r.map D.int))=O (.list (r.map PyData.int)):=by simp[gw,fE,Sm]
 have h2:gw (c++[.lst (LD L)]) (.ref c.length)=O (.list (L.map λr=>PyData.list (r.map PyData.int))):=by simp[gw,agk]
 rw[h1,h2];simp only;rw[if_pos (by simp[PyData.depth,agj])]
 congr 2
 clear h1 h2
 induction L with
 |nil=>simp
 |cons a L ih =>
  rw[T8,XA,ih,PyData.eqv,R3]
  by_cases h:a=r
  ·subst h;simp
  ·have:¬r=a:=λz=>h z.symm
   simp[h,this]
def jS(p n l:Nat)(one:List Int):List (List Int):=(gf p (n-l)).map λother=>iD one other p
def pe(p n l:Nat):List (List Int):=(gf p l).flatMap (jS p n l)
def tN(p n:Nat):List (List Int):=(θ (n/2)).flatMap λl=>pe p n (l+1)
def HF:ah:=(dw (iw (ak 3) (aX (eX (aB 2 pG (ao (au bO (ak 2) (ak 4)) ⇑1))) [Z,O 5,O 1] (aA 0) aP (aB 3 rB (ao (ak 1) (0⊂2))))))
def HE:ah:=(bY (eX (aB 2 pG (4⊂1))) (aA 5) (dw (iw (ak 3) (aX (eX (aB 2 pG (ao (au bO (ak 2) (ak 4)) ⇑1))) [Z,O 5,O 1] (aA 0) aP (aB 3 rB (ao (ak 1) (0⊂2)))))))
theorem Q5(hp:p<1000)(h:r∈gf p n):r.length=n+1/\r≠[]/\∀x∈r,0<=x/\x<1000:=by
 obtain⟨t,ht,rfl⟩:=H8.mp h;refine⟨by rw[UR,zU p n t ht];rfl,by simp,λx hx=>?_⟩
 have gen:∀i,∀r∈fm p i,∀x∈r,0<=x/\x<1000:=by
  intro i
  induction i with
  |zero=>intro r hr x hx;rw[fm,UT]at hr;subst hr;cases hx
  |succ i ih =>
   intro r hr x hx;rw[fm,Yi]at hr;obtain⟨r',h1,h2⟩:=hr;obtain⟨d,hd,rfl⟩:=H8.mp h2
   rcases US.mp hx with hx|hx
   ·exact ih r' h1 x hx
   ·rw[UT]at hx;have:=gq.mp hd;omega
 rcases US.mp hx with hx|hx
 ·exact gen n t ht x hx
 ·rw[UT]at hx;subst hx;omega
theorem agO{p k:Nat}{one:List Int}{P:Int}(hP:P=p)(hp:0<p)(dQ:p<1000)(hk:k<100)(h1:one≠[])(h2:∀x∈one,0<=x/\x<1000)(h3:one.length<500)(c:aa) :
  bT (λ_=>True) (aA 0) aP (aB 3 rB (ao (ak 1) (0⊂2))) (LD (gf p k)) [Z,O (.lst (one.map D.int)),O (.int P)] [] c=.ok (LD ((gf p k).map λother=>iD one other p)) c:=by
 have:=mE (c:=c) (g:=aA 0) (t:=aP) (a:=aB 3 rB (ao (ak 1) (0⊂2))) (λe=>∃v,e=[v,O _,O (.int P)]) (λ_=>G)
  (λd=>match d with|.lst l=>.lst ((iD one ((nI l).getD []) p).map D.int)|d=>d) (LD (gf p k)) [Z,O (.lst (one.map D.int)),O (.int P)] [] ⟨Z,rfl⟩ (λx hx e ⟨v,he⟩=>by
   subst he;obtain⟨r,hr,rfl⟩:=H8.mp hx;have hb:=Q5 dQ hr;refine⟨_,rfl,⟨_,rfl⟩,rfl,λ_=>?_⟩
   have mq:=amm (b:=r) (p:=P) ∅ h1 h2 ∅ c
   subst hP;simp[mq,Ba])
 rw[this,UG,HL]
 congr 1
 unfold LD;rw[UB,UB];apply VD;simp[Ba]
structure Ea (p n:Nat):Prop where
 p0:0<p
 p1:p<1000
 n1:1<n
 n2:n<100
 pw:∀i,i<=n->p^i<1000
theorem By{α β:Type}(f:α->List β)(k:Nat):∀L:List α,(∀x∈L,(f x).length=k)->(L.flatMap f).length=L.length*k
 |[],_=>by simp
 |a::L,h=>by
  rw[Yk,UR,By f k L λx hx=>h x (UP _ hx),h a Ub,U0,Uv,Wt]
theorem uI(p n:Nat):(gf p n).length=p^n:=by rw[gf,T6,Bm]
theorem afO{p n l:Nat}(B:Ea p n){P N l':Int}(hP:P=p)(hN:N=n)(hl:l'=l)(l1:1<=l)(l2:l<=n){c:aa}{acc:List (List Int)}{one:List Int}(h1:one≠[])(h2:∀x∈one,0<=x/\x<1000)(h3:one.length<500)(ha:acc.length+p^(n-l)<=1000)(q v6:Option D) :
  HF [q,O (.int P),O (.int N),O (.ref c.length),O (.int l'),O (.lst (one.map D.int)),v6] (c++[.lst (LD acc)]) =
   .ok (.nx [q,O (.int P),O (.int N),O (.ref c.length),O (.int l'),O (.lst (one.map D.int)),v6]) (c++[.lst (LD (acc++jS p n l one))]):=by
 obtain⟨p0,p1,n1,n2,pw⟩:=B;have hs:=dS (n:=1000) ⋯
 have hpl:=pw (n-l) ∅
 have hh:=Q4 (many:=N-l') (p:=p) (n:=n-l) hP ∅ ∅ ∅ p0 p1 hpl ∅ (c++[.lst (LD acc)])
 have hc:=agO (p:=p) (k:=n-l) hP p0 p1 ∅ h1 h2 h3 (c++[.lst (LD acc)])
 have hl2:(LD acc).length+(LD (jS p n l one)).length<=Ω/\bW (LD (jS p n l one))=G:=⟨by
  rw[mQ,mQ,jS,T6,uI];omega,Kf _⟩
 have hsub:∀c:aa,bO (.int N) (.int l') c=.ok (.int (N-l')) c:=λ_=>rfl
 simp only[HF,kD,iw,cg,gz,gs,R.aF,gy,zw,x_call,b7,eO,hsub,cj,U0,Uc,if_pos,hh];rw[if_pos (by rw[mQ,uI];omega)]
 show R.bind (R.bind (R.bind (bT _ (aA 0) aP _ _ [Z,O (.lst _),O (.int P)] [] _) _) _) _=_;rw[hc];simp;rw[if_pos (show(LD acc).length+(LD ((gf p (n-l)).map λother=>iD one other p)).length<=Ω/\bW (LD ((gf p (n-l)).map λother=>iD one other p))=G from hl2)]
 rw[TH];simp[jS]
theorem afN{p n l:Nat}(B:Ea p n){P N l':Int}(hP:P=p)(hN:N=n)(hl:l'=l)(l1:1<=l)(l2:l<=n){c:aa}{acc:List (List Int)}(ha:acc.length+p^n<=1000)(q v5 v6:Option D) :
  ∃w5,HE [q,O (.int P),O (.int N),O (.ref c.length),O (.int l'),v5,v6] (c++[.lst (LD acc)])=.ok (.nx [q,O (.int P),O (.int N),O (.ref c.length),O (.int l'),w5,v6]) (c++[.lst (LD (acc++pe p n l))]):=by
 obtain⟨p0,p1,n1,n2,pw⟩:=id B;obtain⟨v',hf⟩:=nM (st:=λ_=>True) (g:=aA 5) (s:=HF) (λj=>c++[.lst (LD (acc++((gf p l).take j).flatMap (jS p n l)))]) (λ_ v=>[q,O (.int P),O (.int N),O (.ref c.length),O (.int l'),v,v6]) (LD (gf p l)) 0 v5
  (λ_ _=>trivial) (λj x hx v=>by
   rw[UM];have hj:j<(gf p l).length:=by
    have:=(U3.mp hx).1
    rwa[mQ]at this
   have hx':x=.lst ((gf p l)[j].map D.int):=by
    have:=(U3.mp hx).2;rw[<-this];simp[LD]
   subst hx';have hb:=Q5 p1 (U6 hj);refine⟨_,rfl,O (.lst ((gf p l)[j].map D.int)),?_⟩;have hfl:=By (jS p n l) (p^(n-l)) ((gf p l).take j) (λy _=>by rw[jS,T6,uI])
   rw[Vb,Xl ∅]at hfl
   have hacc:(acc++((gf p l).take j).flatMap (jS p n l)).length+p^(n-l)<=1000:=by
    rw[UR,hfl];rw[uI]at hj;have h2:(j+1)*p^(n-l)<=p^l*p^(n-l):=XC _ hj;rw[<-Nat.pow_add,show l+(n-l)=n by omega,Uv]at h2
    omega
   have:=afO (l:=l) B hP hN hl l1 l2 (c:=c) hb.2.1 hb.2.2 ∅ hacc q v6
   rw[Lq _ hj,<-UY];exact this)
 rw[mQ,UM,Us]at hf;refine⟨v',?_⟩;simp only[HE,jl,zw,x_call,b7,cg,gz,gs,R.aF,cj,U0,Uc,if_pos,(Q4 (many:=l') (P:=P) (p:=p) (n:=l) hP hl ∅ ∅ p0 p1 (pw l l2) ∅ (c++[.lst (LD acc)]))]
 have e0:acc++([]:List (List Int)).flatMap (jS p n l)=acc:=by simp
 rwa[XQ,e0]at hf
theorem apl(p n:Nat)(h:∀l,1<=l->l<=n->(pe p n l).length=p^n):∀i,i<=n->((θ i).flatMap λl=>pe p n (l+1)).length=i*p^n:=λi hi=>by
 rw[By _ _ _ λx hx=>h _ ∅ (by have:=gq.mp hx;omega),Ul]
theorem apk(p n l:Nat)(h:l<=n):(pe p n l).length=p^n:=by
 rw[pe,By _ (p^_) _ λx _=>by rw[jS,T6,uI],uI,<-Nat.pow_add,show l+_=n by omega]
theorem afM{p n:Nat}(B:Ea p n)(hb:(n/2)*p^n<=1000){P N:Int}(hP:P=p)(hN:N=n)(c:aa)(q v6:Option D) :
  ∃w4 w5,cZ (λ_=>True) (aA 4) HE (aY 1 (N/2+1)) [q,O (.int P),O (.int N),O (.ref c.length),Z,Z,v6] (c++[.lst []])=.ok (.nx [q,O (.int P),O (.int N),O (.ref c.length),w4,w5,v6]) (c++[.lst (LD (tN p n))]):=by
 have hl:(aY 1 (N/2+1)).length=n/2:=by rw[eY];omega
 obtain⟨v',hf⟩:=nM (st:=λ_=>True) (g:=aA 4) (λi=>c++[.lst (LD ((θ i).flatMap λl=>pe p n (l+1)))]) (λ_ v=>[q,O _,O _,O _,v.1,v.2,v6]) (aY 1 (N/2+1)) 0 (Z,Z)
  (λ_ _=>trivial) (λi x hx v=>by
   obtain⟨h1,rfl⟩:=tF hx;have hacc:((θ i).flatMap λl=>pe p n (l+1)).length+p^n<=1000:=by
    rw[apl p n (λl _ h=>apk p n l h) i ∅]
    have h2:(i+1)*p^n<=(n/2)*p^n:=XC _ ∅
    rw[Uv]at h2;omega
   obtain⟨w,h⟩:=afN (l:=i+1) (l':=1+i) B hP hN ∅ ∅ ∅ hacc q v.2 v6
   refine⟨_,rfl,(O (.int (1+i)),w),?_⟩;rw[VQ,Yj]
   simpa using h)
 rw[hl,UM]at hf;exact⟨v'.1,v'.2,hf⟩
def HD:ai:=(aN (au inD (au fY (aB 3 gr (ao (ak 6) (1⊂2))) (cE (ao (dC (.int 1)) av))) (ak 3)))
theorem RT{p n:Nat}{P N:Int}(hP:P=p)(hN:N=n)(hp:0<p)(dQ:p<1000)(hn:n<100){t:Int}{c:aa}(q v4 v5:Option D):
  HD [q,O (.int P),O (.int N),O (.ref c.length),v4,v5,O (.int t)] (c++[.lst (LD L)])=.ok (decide (bK P n t++[1]∈L)) (c++[.lst (LD L)]):=by
 have hs:=dS (n:=1000) ⋯
 have hr:=A1 (p:=P) (N:=N) (x:=t) (n:=n) ∅ ∅ (by rw[eY];omega) ∅ ∅ (c++[.lst (LD L)])
 have hz:(bK P n t).length+1<=Ω:=by rw[gb];omega
 have hi:=adQ (bK P n t++[1]) L c;simp[HD,hr,fY,hz];simp at hi;rw[hi];rfl
theorem RS{p n:Nat}{P N:Int}(hP:P=p)(hN:N=n)(hp:0<p)(dQ:p<1000)(hn:n<100){c:aa}{low:Nat}(h1:∀t,t<low->bK P n t++[1]∈L)(h2:bK P n low++[1]∉L)(q v4 v5:Option D):∀(k fuel t:Nat),t+k=low->k<fuel ->
  gY HD (aG 6 (au aZ (ak 6) (dC (.int 1)))) fuel [q,O (.int P),O (.int N),O (.ref c.length),v4,v5,O (.int t)] (c++[.lst (LD L)])=.ok (.nx [q,O (.int P),O (.int N),O (.ref c.length),v4,v5,O (.int low)]) (c++[.lst (LD L)])
 |0,fuel+1,t,e,_=>by
  have e:t=low:=∅
  subst e;unfold gY;rw[RT hP hN hp dQ hn,decide_eq_false h2];rfl
 |k+1,fuel+1,t,e,hf=>by
  unfold gY;rw[RT hP hN hp dQ hn,decide_eq_true (h1 t ∅)]
  simp only[R.aF,if_pos];have es:(aG 6 (au aZ (ak 6) (dC (.int 1)))) [q,O (.int P),O (.int N),O (.ref c.length),v4,v5,O (.int t)] (c++[.lst (LD L)])=.ok (.nx [q,O (.int P),O (.int N),O (.ref c.length),v4,v5,O (.int ((t+1:Nat):Int))]) (c++[.lst (LD L)]):=by simp
  rw[es];exact(RS (c:=c) hP hN hp dQ hn h1 h2 q v4 v5 k fuel (t+1) ∅ ∅)
def gg(f:Fd):List Int:=if f.n=1 then[0,1]else bK f.p f.n f.low++[1]
def SR(f:Fd):Bool:=Nat.beq f.n 1||((θ f.low).all λt=>(tN f.p f.n).any λr=>decide (r=bK f.p f.n t++[1]))&&((tN f.p f.n).all λr=>decide (¬r=bK f.p f.n f.low++[1]))&&Nat.ble ((f.n/2)*f.p^f.n) 1000&&Nat.ble (f.low+1) 60
theorem ahZ:bU.all SR=G:=by decide +kernel
def bF(Θ W:ah):ah:=(aC (aG 1 (aB 1 g9 ⇑0)) (aC (aG 2 (aB 1 nC ⇑0)) (aC (bz (aN (au cB (ak 2) (dC (.int 1)))) (aK (cE (ao (dC (.int 0)) (ao (dC (.int 1)) av)))) bA) (aC (aG 3 (fj av)) (aC (bY (kj (ao (dC (.int 1)) (ao (au aZ (au fu (ak 2) (dC (.int 2))) (dC (.int 1))) av))) (aA 4) Θ) (aC (aG 6 (dC (.int 0))) (aC W (aK (au fY (aB 3 gr (ao (ak 6) (1⊂2))) (cE (ao (dC (.int 1)) av)))))))))))
theorem afE{P low:Int}{w4 w5:Option D}{row:List D}{bV:List Int}(hq:-4611686018427387904<=N/2+1/\N/2+1<4611686018427387904)(hn1:¬N=1)(hp:g9 [.int q] c=.ok (.int P) c)(hd:nC [.int q] c=.ok (.int N) c)(hrl:row.length+1<1000)(hl:cZ (λ_=>True) (aA 4) Θ (aY 1 (N/2+1)) [O (.int q),O (.int P),O (.int N),O (.ref c.length),Z,Z,Z] (c++[.lst []])=.ok (.nx [O (.int q),O (.int P),O (.int N),O (.ref c.length),w4,w5,Z]) (c++C))(hw:W [O (.int q),O (.int P),O (.int N),O (.ref c.length),w4,w5,O (.int 0)] (c++C)=.ok (.nx [O (.int q),O (.int P),O (.int N),O (.ref c.length),w4,w5,O (.int low)]) (c++C))(hr:gr [.int low,.int P,.int N] (c++C)=.ok (.lst row) (c++C))(he:bV.map D.int=row++[.int 1]):bh 7 ξ (bF Θ W) [.int q] c=.ok (.lst (bV.map D.int)) c:=by
 have hs:=dS (n:=1000) ⋯
 have x9:fu (.int N) (.int 2) _=.ok (.int (N/2)) (c++[.lst []]):=i6 _ ⋯ ⋯
 have hz:row.length+1<=Ω:=∅
 have href:bW (row++[.int 1])=G:=by rw[<-he];exact t8
 have key:bF Θ W [O (.int q),Z,Z,Z,Z,Z,Z] c=.ok (.rt (.lst (row++[.int 1]))) (c++C):=by
  simp[bF,hp,hd,hn1,x9];rw[if_pos ∅]
  simp only[R.aF];rw[hl];simp[hw,hr,fY,hz]
 rw[fF];show R.bind (bF Θ W [O (.int q),Z,Z,Z,Z,Z,Z] c) _=_;rw[key,he];simp[href]
theorem afB{P:Int}(hp:g9 [.int q] c=.ok (.int P) c)(hd:nC [.int q] c=.ok (.int 1) c):bh 7 ξ (bF Θ W) [.int q] c=.ok (.lst [.int 0,.int 1]) c:=by
 simp[bF,hp,hd]
theorem afC(h:f∈bU)(c:aa):xx [.int f.q] c=.ok (.lst ((gg f).map D.int)) c:=by
 have I:=gc h;have p2:=I.p2;have gO:=I.gO;have n1:=I.n1;have n5:=I.n5;have hF:=Iv.mp ahZ f h;have hp:=FL h c;have hd:=Sf h c
 by_cases hn:f.n=1
 ·have e:gg f=[0,1]:=if_pos hn;rw[e];exact afB hp (by rw[hd,hn];rfl)
 ·have e:gg f=bK f.p f.n f.low++[1]:=if_neg hn;have hn0:Nat.beq f.n 1=ξ:=by
   cases hq:Nat.beq f.n 1 with
   |false=>rfl
   |true=>exact absurd (be hq) hn
  simp only[SR,hn0,Yh,T5]at hF;obtain⟨⟨⟨f1,f2⟩,f3⟩,f4⟩:=hF;have g1:∀t,t<f.low->bK (f.p:Int) f.n t++[1]∈tN f.p f.n:=λt ht=>by
   have:=Iv.mp f1 t (gq.mpr ht);obtain⟨r,hr,he⟩:=Vh.mp this
   rwa[<-of_decide_eq_true he]
  have g2:bK (f.p:Int) f.n f.low++[1]∉tN f.p f.n:=λhm=>by
   have:=Iv.mp f2 _ hm;simp at this
  have hq:f.q<1000:=by
   have:(bU.all λf=>decide (f.q<1000))=G:=by decide +kernel
   simpa using Iv.mp this f h
  have B:Ea f.p f.n:=⟨∅,∅,∅,∅,λi hi=>by
   have:=Zq (n:=f.p) ∅ hi
   rw[I.pn]at this;omega⟩
  obtain⟨w4,w5,hl⟩:=afM (P:=f.p) B (bl f3) rfl rfl c _ Z;have hr:=A1 (p:=f.p) (N:=f.n) (x:=f.low) (n:=f.n) ∅ ∅ (by rw[eY];omega) ∅ ∅ (c++[.lst (LD (tN f.p f.n))])
  exact afE ∅ ∅ hp hd (by rw[T6,gb];omega) hl (RS (P:=f.p) (N:=f.n) (p:=f.p) (n:=f.n) rfl rfl ∅ ∅ ∅ (c:=c) g1 g2 (O (.int f.q)) w4 w5 f.low 60 0 ∅ (bl f4)) hr (by rw[e,Ve];rfl)
def m8(p gP:Int)(bV:List Int)(base:Nat)(F:List Int):Nat->List Int
 |0=>F
 |k+1=>(m8 p gP bV base F k).set (base+k) ((gI (m8 p gP bV base F k) (base+k)-gP*gI bV k) % p)
def jt(p:Int)(bV:List Int)(n:Nat)(F:List Int):Nat->List Int
 |0=>F
 |i+1=>m8 p (gI (jt p bV n F i) (2*n-2-i)) bV (2*n-2-i-n) (jt p bV n F i) (n+1)
def tP(p:Int)(n:Nat)(bV:List Int)(x y:Int):Int:=kK p ((jt p bV n (iD (bK p n x) (bK p n y) p) (n-1)).take n)
theorem z7{base:Nat}:∀k,(m8 p gP bV base F k).length=F.length
 |0=>rfl
 |k+1=>by rw[m8,ZI,z7 k]
theorem z6:∀i,(jt p bV n F i).length=F.length
 |0=>rfl
 |i+1=>by rw[jt,z7,z6 i]
theorem LH(a b:List Int)(p:Int):(iD a b p).length=a.length+b.length-1:=by rw[iD,Am,XZ]
def F1:ah:=(aC (aG 10 (au aZ (au bO (ak 7) (ak 5)) (ak 9))) (g8 (au bZ (au bO (au aD (ak 6) (ak 10)) (au aT (ak 8) (au aD (ak 1) (ak 9)))) (ak 4)) (nL (ak 6) (ak 10))))
theorem aak{bV F:List Int}{place:Int}{c:aa}{base:Nat}(hp:0<p)(hN:N=n)(hpl:place=(base:Int)+n)(hk:k<bV.length)(hF:base+k<F.length)(hs:∀x∈bV,0<=x/\x<1000)(q a2 a3 v10:Option D):
  F1 [q,O (.lst (bV.map D.int)),a2,a3,O (.int p),O (.int N),O (.ref c.length),O (.int place),O (.int gP),O (.int k),v10] (c++[.lst (F.map D.int)]) =
   .ok (.nx [q,O (.lst (bV.map D.int)),a2,a3,O (.int p),O (.int N),O (.ref c.length),O (.int place),O (.int gP),O (.int k),O (.int (place-N+k))]) (c++[.lst ((F.set (base+k) ((gI F (base+k)-gP*gI bV k) % p)).map D.int)]):=by
 have h1:=GV (c:=c) (l:=F.map D.int) (i:=place-N+k) (j:=base+k) ∅ (uM hF)
 have hb:0<=gI bV k/\gI bV k<1000:=hs _ (by simp[gI,List.getD,hk])
 have h4:∀c,aT (.int gP) (.int (gI bV k)) c=.ok (.int (gP*gI bV k)) c:=λc=>mul_r c ∅ ∅
 have h5:=λx=>L5 (c:=c) (l:=F.map D.int) (i:=place-N+k) (j:=base+k) (d:=.int x) ∅ (by simpa using hF) rfl
 have h6:∀x c,bZ (.int x) (.int p) c=.ok (.int (x % p)) c:=λx c=>gT c hp
 simp only[F1,i8,iL,zy,eO,cg,gz,gs,R.aF,qy,zv,VS,Vc,sO,h1,(iy (uM hk)),h4,h6,KN,h5,map_set]
def Aj:ah:=(aC (aG 8 (au aD (ak 6) (ak 7))) (bY (bH (ao (au aZ (ak 5) (dC (.int 1))) av)) (aA 9) (aC (aG 10 (au aZ (au bO (ak 7) (ak 5)) (ak 9))) (g8 (au bZ (au bO (au aD (ak 6) (ak 10)) (au aT (ak 8) (au aD (ak 1) (ak 9)))) (ak 4)) (nL (ak 6) (ak 10))))))
theorem aaj{bV F:List Int}{p N place:Int}{c:aa}{base n:Nat}(hp:0<p)(hN:N=n)(b1:-4611686018427387904<=N+1/\N+1<4611686018427387904)(hpl:place=(base:Int)+n)(hk:bV.length=n+1)(hF:base+n<F.length)(hs:∀x∈bV,0<=x/\x<1000)(q a2 a3 v8 v9 v10:Option D) :
  ∃w8 w9 om,Aj [q,O (.lst (bV.map D.int)),a2,a3,O (.int p),O (.int N),O (.ref c.length),O (.int place),v8,v9,v10] (c++[.lst (F.map D.int)]) =
   .ok (.nx [q,O (.lst (bV.map D.int)),a2,a3,O (.int p),O (.int N),O (.ref c.length),O (.int place),w8,w9,om]) (c++[.lst ((m8 p (gI F (base+n)) bV base F (n+1)).map D.int)]):=by
 have h1:=GV (c:=c) (i:=place) (j:=base+n) ∅ (uM hF)
 obtain⟨v',hf⟩:=uO (g:=aA 9) (s:=F1) (N:=N+1) (n:=n+1) (λk=>c++[.lst ((m8 p (gI F (base+n)) bV base F k).map D.int)]) (λ_ v=>[q,O _,a2,a3,O (.int p),O (.int N),O (.ref c.length),O (.int place),O _,v.1,v.2]) ∅ (v9,v10) (λk hk' v=>by
  exact⟨_,rfl,(O (.int k),_),aak hp hN hpl ∅ (by rw[z7];omega) hs q a2 a3 v.2⟩)
 refine⟨O (.int (gI F (base+n))),v'.1,v'.2,?_⟩;simp only[Aj,i8,iL,eO,cg,gz,gs,R.aF,h1,VS,Vc,jl,mT,b7,jJ,qy,cj];rw[if_pos ∅]
 exact hf
theorem acY(l:List Int)(c:aa):bD [.ref c.length] (c++[.lst (l.map D.int)])=.ok (.int l.length) (c++[.lst (l.map D.int)]):=by
 simp[bD,fU]
def yT(L:List D->aa->R D)(S:Ev->aa->R Src)(Rt:ah)(Θ:ah):ah:=(aC (aG 4 (aB 1 g9 ⇑0)) (aC (aG 5 (au bO (aO L ⇑1) (dC (.int 1)))) (aC (aG 6 (aB 3 ud (ao (aB 3 gr (ao (ak 2) (4⊂5))) (ao (aB 3 gr (ao (ak 3) (4⊂5))) ⇑4)))) (aC (bY S (aA 7) Θ) Rt))))
theorem ahC:Ds=yT bD (uY (ao (au bO (aO bD ⇑6) (dC (.int 1))) (ao (au bO (ak 5) (dC (.int 1))) (ao (au bO (dC (.int 0)) (dC (.int 1))) av)))) (aK (aB 2 uw (ao (k9 (ak 6) ly (lq (ak 5))) ⇑4))) Aj:=rfl
theorem am7{L:List D->aa->R D}{M:Int}(h6:e[6]? = O (O d))(h5:e[5]? = O (O (.int N)))(hM:L [d] c=.ok (.int M) c)(b1:-4611686018427387904<=M-1/\M-1<4611686018427387904/\-4611686018427387904<=N-1/\N-1<4611686018427387904):
  (uY (ao (au bO (aO L ⇑6) (dC (.int 1))) (ao (au bO (ak 5) (dC (.int 1))) (ao (au bO (dC (.int 0)) (dC (.int 1))) av)))) e c=.ok ⟨kh (M-1) (N-1),λ_=>True⟩ c:=by
 simp only[uY,b7,eO,gM,cg,jJ,cj,h6,h5,R.aF,hM,zv];rw[if_pos ⟨⋯,∅,∅,∅,∅⟩]
theorem Su{l:List D}{n:Nat}{N:Int}(hN:N=n)(h:n<=l.length):cutD l Z (O N)=l.take n:=by
 subst hN;have:HT.f7 l.length l.length (O n)=n:=by rw[HT.anF];omega
 show(l.drop 0).take (HT.f7 l.length l.length _-0)=_;rw[this];simp
theorem ang{F:List Int}{c:aa}(h6:e[6]? = O (O (.ref c.length)))(h5:e[5]? = O (O (.int N)))(ya:cutD (F.map D.int) Z (O N)=(F.take n).map D.int):k9 (ak 6) ly (lq (ak 5)) e (c++[.lst (F.map D.int)])=.ok (.lst ((F.take n).map D.int)) (c++[.lst (F.map D.int)]):=by
 have aex:eZ (c++[.lst (F.map D.int)]) (.ref c.length)=O (F.map D.int):=by simp[eZ]
 rw[aeb,cg,h6,R.aF,aef,R.aF,alk,cg,h5,R.aF,R.aF,aex];show R.ok (D.lst (cutD (F.map D.int) Z (O N))) _=_;rw[ya]
theorem anw{m:List D->aa->R D}(hS:Sl e c=.ok (.lst l) c)(h4:e[4]? = O (O (.int p)))(hn:m [.lst l,.int p] c=.ok (.int w) c):aK (aB 2 m (ao Sl ⇑4)) e c=.ok (.rt (.int w)) c:=by
 rw[i9,x_call,b7,hS,R.aF,b7,cg,h4,R.aF,cj,R.aF,R.aF,R.aF,if_pos (show[D.lst l,D.int p].length=2 from rfl),hn,R.aF]
theorem aaf{L:List D->aa->R D}{S:Ev->aa->R Src}{bV:List Int}{F F':List Int}(hp:g9 [.int q] c=.ok (.int p) c)(hL:L [.lst (bV.map D.int)] c=.ok (.int (N+1)) c)(h1:gr [.int x,.int p,.int N] c=.ok (.lst rx) c)(h2:gr [.int y,.int p,.int N] c=.ok (.lst ry) c)(h3:ud [.lst rx,.lst ry,.int p] c=.ok (.ref c.length) (c++[.lst (F.map D.int)]))(hS:S [O (.int q),O (.lst (bV.map D.int)),O (.int x),O (.int y),O (.int p),O (.int N),O (.ref c.length),Z,Z,Z,Z] (c++[.lst (F.map D.int)])=.ok ⟨its,λ_=>True⟩ (c++[.lst (F.map D.int)]))(hf:cZ (λ_=>True) (aA 7) Θ its [O (.int q),O (.lst (bV.map D.int)),O (.int x),O (.int y),O (.int p),O (.int N),O (.ref c.length),Z,Z,Z,Z] (c++[.lst (F.map D.int)])=.ok (.nx [O (.int q),O (.lst (bV.map D.int)),O (.int x),O (.int y),O (.int p),O (.int N),O (.ref c.length),w7,w8,w9,om]) (c++[.lst (F'.map D.int)]))(hRt:Rt [O (.int q),O (.lst (bV.map D.int)),O (.int x),O (.int y),O (.int p),O (.int N),O (.ref c.length),w7,w8,w9,om] (c++[.lst (F'.map D.int)])=.ok (.rt (.int w)) (c++[.lst (F'.map D.int)])):bh 11 ξ (yT L S Rt Θ) [.int q,.lst (bV.map D.int),.int x,.int y] c=.ok (.int w) c:=by
 have key:yT L S Rt Θ [O (.int q),O (.lst (bV.map D.int)),O (.int x),O (.int y),Z,Z,Z,Z,Z,Z,Z] c=.ok (.rt (.int w)) (c++[.lst (F'.map D.int)]):=by
  simp[yT,hp,hL,h1,h2,h3,hS];rw[hf];simp only[R.aF];rw[hRt]
 rw[fF];show R.bind (yT L S Rt Θ [O (.int q),O (.lst (bV.map D.int)),O (.int x),O (.int y),Z,Z,Z,Z,Z,Z,Z] c) _=_;rw[key];simp
theorem afD(h:f∈bU):(gg f).length=f.n+1/\∀x∈gg f,0<=x/\x<1000:=by
 have I:=gc h;have p2:=I.p2;have gO:=I.gO;unfold gg;split
 ·rename_i e;rw[e];exact⟨rfl,λx hx=>by simp at hx;omega⟩
 ·refine⟨by rw[UR,gb];rfl,λx hx=>?_⟩
  rcases US.mp hx with hx|hx
  ·have:=FD ∅ f.n f.low x hx;omega
  ·rw[UT]at hx;omega
theorem api(h:f∈bU)(x y:Int)(c:aa):ur [.int f.q,.lst ((gg f).map D.int),.int x,.int y] c=.ok (.int (tP f.p f.n (gg f) x y)) c:=by
 have I:=gc h;have p2:=I.p2;have gO:=I.gO;have n1:=I.n1;have n5:=I.n5;obtain⟨fl,fb⟩:=afD h;have rl:∀z,(bK (f.p:Int) f.n z).length=f.n:=gb _ _;have rb:=λz=>FD (p:=f.p) ∅ f.n z
 have h1:=λz=>A1 (p:=f.p) (N:=f.n) (x:=z) (n:=f.n) ∅ ∅ (by rw[eY];omega) ∅ ∅ c
 have h3:=amn (a:=bK f.p f.n x) (b:=bK f.p f.n y) (p:=f.p) ∅ (λz=>by have:=rl x;rw[z]at this;simp at this;omega) (λd hd=>by have:=rb x d hd;omega) (by rw[rl,rl];omega) c
 have Ri:(iD (bK f.p f.n x) (bK f.p f.n y) f.p).length=2*f.n-1:=by rw[LH,rl,rl];omega
 generalize hF:iD (bK (f.p:Int) f.n x) (bK f.p f.n y) f.p=F at h3 Ri
 have hdl:(kh (((2*f.n-1:Nat):Int)-1) ((f.n:Int)-1)).length=f.n-1:=by simp[kh];omega
 obtain⟨v',hf⟩:=nM (α:=Option D×Option D×Option D×Option D) (st:=λ_=>True) (g:=aA 7) (s:=Aj) _ (λ_ v=>[O (.int f.q),O (.lst ((gg f).map D.int)),O (.int x),O (.int y),O (.int f.p),O (.int f.n),O (.ref c.length),v.1,v.2.1,v.2.2.1,v.2.2.2])
  (kh (((2*f.n-1:Nat):Int)-1) ((f.n:Int)-1)) 0 (Z,Z,Z,Z) (λ_ _=>trivial) (λi z hz v=>by
   rw[UM];have hi:i<f.n-1:=by
    have:=(U3.mp hz).1;omega
   have hz':z=.int ((((2*f.n-1:Nat):Int)-1)-i):=by
    unfold kh at hz;rw[U7]at hz;cases hq:(θ ((((2*f.n-1:Nat):Int)-1)-((f.n:Int)-1)).toNat)[i]? with
    |none=>rw[hq]at hz;cases hz
    |some u =>
     rw[hq]at hz;have:=(U3.mp hq).2;rw[YX]at this;subst this;cases hz;rfl
   subst hz';obtain⟨w8,w9,om,hb⟩:=aaj (bV:=gg f) (F:=jt f.p (gg f) f.n F i) (p:=f.p) (N:=f.n) (place:=(((2*f.n-1:Nat):Int)-1)-i) (c:=c) (base:=2*f.n-2-i-f.n) (n:=f.n) ∅ rfl ∅ ∅ fl (by rw[z6];omega) fb (O (.int f.q)) (O (.int x)) (O (.int y)) v.2.1 v.2.2.1 v.2.2.2
   refine⟨_,rfl,(O (.int ((((2*f.n-1:Nat):Int)-1)-i)),w8,w9,om),?_⟩;rw[show 2*f.n-2-i-f.n+f.n=2*f.n-2-i by omega]at hb
   exact hb)
 rw[hdl,UM]at hf;have ya:cutD ((jt f.p (gg f) f.n F (f.n-1)).map D.int) Z (O (f.n:Int))=((jt f.p (gg f) f.n F (f.n-1)).take f.n).map D.int:=by
  rw[Su rfl (by rw[T6,z6];omega),WO]
 have hn:=PU (p:=f.p) ∅ ∅ ((jt f.p (gg f) f.n F (f.n-1)).take f.n) (by rw[Vb];omega) (c++[.lst ((jt f.p (gg f) f.n F (f.n-1)).map D.int)])
 rw[ur,ahC,tP,hF];exact aaf (FL h c) (by rw[xM,fl];rfl) (h1 x) (h1 y) h3 (am7 (M:=((2*f.n-1:Nat):Int)) rfl rfl (by rw[acY,Ri]) ∅) hf (anw (ang rfl rfl ya) rfl hn)
def xg:List Int->Nat->(Int->Int)->List Int
 |[],_,_=>[]
 |x::l,0,f=>f x::l
 |x::l,i+1,f=>x::xg l i f
theorem GC:∀(l:List Int) (i:Nat) (f:Int->Int),i<l.length->l.set i (f (gI l i))=xg l i f
 |[],i,f,h=>by cases h
 |x::l,0,f,h=>rfl
 |x::l,i+1,f,h=>by
  have:=GC l i f (by simpa using h)
  simp only[VS,xg];rw[<-this];rfl
def Bc(p a:Int)(b:List Int)(k:Nat)(F:List Int):Nat->List Int
 |0=>F
 |j+1=>xg (Bc p a b k F j) (k+j) λv=>(v+a*gI b j) % p
theorem GZ{F:List Int}:∀j,k+j<=F.length->mh p a b k F j=Bc p a b k F j
 |0,_=>rfl
 |j+1,h=>by rw[mh,Bc,GZ j ∅,GC _ _ (λv=>(v+a*gI b j) % p) (by rw[<-GZ j ∅,Bb];omega)]
def An(p:Int)(a b F:List Int):Nat->List Int
 |0=>F
 |k+1=>Bc p (gI a k) b k (An p a b F k) b.length
theorem N9{b F:List Int}:∀k,k+b.length<=F.length+1->nj p a b F k=An p a b F k
 |0,_=>rfl
 |k+1,h=>by rw[nj,An,<-N9 k ∅,GZ _ (by rw[Am];omega)]
def RJ{α:Type}(i:Int)(g:Int->α):α:=match i with
 |.ofNat n=>(match n with|0=>g (.ofNat 0)|m+1=>g (.ofNat (m+1)))
 |.negSucc n=>g (.negSucc n)
theorem afx{α:Type}(i:Int)(g:Int->α):RJ i g=g i:=by
 cases i with
 |ofNat n=>cases n<;>rfl
 |negSucc n=>rfl
def z5(p gP:Int)(bV:List Int)(base:Nat)(F:List Int):Nat->List Int
 |0=>F
 |k+1=>xg (z5 p gP bV base F k) (base+k) λv=>(v-gP*gI bV k) % p
theorem FH{base:Nat}{F:List Int}:∀k,base+k<=F.length->m8 p gP bV base F k=z5 p gP bV base F k
 |0,_=>rfl
 |k+1,h=>by rw[m8,z5,FH k ∅,GC _ _ (λv=>(v-gP*gI bV k) % p) (by rw[<-FH k ∅,z7];omega)]
def wo(p:Int)(bV:List Int)(n:Nat)(F:List Int):Nat->List Int
 |0=>F
 |i+1=>RJ (gI (wo p bV n F i) (2*n-2-i)) λz=>z5 p z bV (2*n-2-i-n) (wo p bV n F i) (n+1)
theorem Nv{F:List Int}(hn:1<=n)(hF:F.length=2*n-1):∀i,i<=n-1->jt p bV n F i=wo p bV n F i
 |0,_=>rfl
 |i+1,h=>by rw[jt,wo,afx,<-Nv hn hF i ∅,FH _ (by rw[z6];omega)]
def FJ(p:Int)(n:Nat)(bV:List Int)(x y:Int):Int:=kK p ((wo p bV n (An p (bK p n x) (bK p n y) (ο (2*n-1) 0) n) (n-1)).take n)
theorem aph(hn:1<=n)(bV:List Int)(x y:Int):tP p n bV x y=FJ p n bV x y:=by
 unfold tP FJ;have hl:(iD (bK p n x) (bK p n y) p).length=2*n-1:=by rw[LH,gb,gb];omega
 rw[Nv hn hl (n-1) (dD _)]
 congr 3
 unfold iD;rw[gb,gb,show n+n-1=2*n-1 by omega,N9 n (by rw[gb,XZ];omega)]
def SO(f:Fd):Bool:=Nat.beq f.n 1||(θ f.q).all λx=>(θ f.q).all λy=>GW (FJ f.p f.n (gg f) x y) (Mk f x y)
theorem ahV:bU.all SO=G:=by decide +kernel
theorem apj(p x y:Int):tP p 1 [0,1] x y=(x % p*(y % p)) % p:=by
 simp[tP,jt,iD,nj,mh,bK,gI,kK]
theorem acw(p x y:Int):AM p 1 0 x y=(x % p*(y % p)) % p:=by
 simp[AM,mulR,bK,jm,pN,fQ]
theorem acR:(bU.all λf=>!Nat.beq f.n 1||Nat.beq f.low 0)=G:=by decide +kernel
theorem apg(h:f∈bU)(hx:x<f.q)(hy:y<f.q)(c:aa):ur [.int f.q,.lst ((gg f).map D.int),.int x,.int y] c=.ok (.int (M f x y:Nat)) c:=by
 rw[api h];have I:=gc h;have hc:=Iv.mp ahV f h;cases hq:Nat.beq f.n 1 with
 |true =>
  have hn:=be hq;have hl:=Iv.mp acR f h;simp only[hq,WQ,Yh]at hl;have e:gg f=[0,1]:=if_pos hn;have hm:=I.mm x y hx hy;unfold mI at hm;rw[e,<-hm,hn,be hl,apj];rw[show((0:Nat):Int)=0 from rfl,acw]
 |false =>
  simp only[SO,hq,Yh]at hc;have:=Iv.mp (Iv.mp hc x (gq.mpr hx)) y (gq.mpr hy);rw[aph I.n1,Qu this,za]
theorem mZ:1000000<Ω:=⋯
theorem ko{f:List D->aa->R D}(h1:d1 e c=.ok x c)(h:f [x] c=.ok v c):aO f (ao d1 av) e c=.ok v c:=by
 simp only[gM,b7,h1,cj,R.aF];exact h
theorem kH(h:d e c=.ok v c):aG i d e c=.ok (.nx (e.set i (O v))) c:=by rw[iL,h];rfl
theorem jr(h:d e c=.ok v c):aK d e c=.ok (.rt v) c:=by rw[i9,h];rfl
theorem cN{f:D->D->aa->R D}(h1:d1 e c=.ok x c)(h2:d2 e c=.ok y c)(h:f x y c=r):au f d1 d2 e c=r:=by
 rw[eO,h1];simp;rw[h2];exact h
theorem lB{m:List D->aa->R D}(h1:d1 e c=.ok x c)(h2:d2 e c=.ok y c)(h:m [x,y] c=.ok v c):aB 2 m (ao d1 (ao d2 av)) e c=.ok v c:=by
 simp only[x_call,b7,h1,h2,cj,R.aF];rw[if_pos (by rfl)];exact h
theorem iH{m:List D->aa->R D}(h1:d1 e c=.ok x c)(h:m [x] c=.ok v c):aB 1 m (ao d1 av) e c=.ok v c:=by
 simp only[x_call,b7,h1,cj,R.aF];rw[if_pos (by rfl)];exact h
theorem jR{xs:List D}(h:b (cW n xs) c=.ok (.rt v) c)(hv:noRef v=G)(hr:∀k,v≠.ref k):bh n ξ b xs c=.ok v c:=by
 rw[fF,h];simp;cases v<;>first|exact absurd rfl (hr _)|(unfold cU;dsimp only;rw[if_pos hv,Us])
def A(f:Fd)(x y:Nat):Nat:=(vn f.p f.n x y).toNat
theorem aiv(h:f∈bU)(x y:Nat):((A f x y:Nat):Int)=vn f.p f.n x y/\A f x y<f.q:=aic (gc h) x y
def sF(f:Fd)(a x y:Nat):Nat:=A f (M f a x) y
theorem SM(it g:Nat->D):∀(l:List Nat) (v:Option D) (acc:List D),(∀i∈l,a (O (it i)::E) c=.ok (g i) c)->bT (λ_=>True) (aA 0) aP a (l.map it) (v::E) acc c=.ok (acc++l.map g) c
 |[],v,acc,_=>by simp
 |i::l,v,acc,h=>by
  have h1:aA 0 _ (v::E) c=.ok (O (it i)::E) c:=rfl;rw[T8,lA,h1,R.aF,oj,R.aF,if_pos rfl,h i (.head _),R.aF,SM it g l _ _ (λz hz=>h z (.tail _ hz)),UY]
  rfl
theorem zX(lo hi:Int):aY lo hi=(θ (hi-lo).toNat).map λi:Nat=>D.int (lo+(i:Int)):=rfl
theorem xO{pick:List (Option Nat)}{N:Int}{n:Nat}(g:Nat->D)(hd:d e c=.ok (.int N) c)(hN:N=n)(hn:n<1000)(hp:cX pick e=Z::E)(ha:∀i,i<n->a (O ↥i::E) c=.ok (g i) c):
  aX (bH (ao d av)) pick (aA 0) aP a e c=.ok (.lst ((θ n).map g)) c:=by
 have sz:=mZ;have h1:bH (ao d av) e c=.ok ⟨aY 0 N,λ_=>True⟩ c:=by
  unfold bH;simp only[b7,hd,cj,R.aF];rw[if_pos ∅]
 have hl:(aY 0 N).length=n:=by rw[eY];omega
 have hr:aY 0 N=(θ n).map λi:Nat=>D.int i:=by
  rw[zX,show(N-0).toNat=n by omega]
  simp
 rw[gy,h1,R.aF];rw[if_pos (by rw[hl];omega),hp,hr,SM _ g (θ n) Z [] (λi hi=>ha i (gq.mp hi))]
 rfl
theorem al5(l:List D)(c:aa)(h:l.length<=1000):dj [.lst l] c=.ok (.tup l) c:=by
 have sz:=mZ;simp[dj,fU]
theorem ama{pick:List (Option Nat)}{N:Int}{n:Nat}(g:Nat->D)(hd:d e c=.ok (.int N) c)(hN:N=n)(hn:n<1000)(hp:cX pick e=Z::E)(ha:∀i,i<n->a (O ↥i::E) c=.ok (g i) c):
  aO dj (ao (aX (bH (ao d av)) pick (aA 0) aP a) av) e c=.ok (.tup ((θ n).map g)) c :=
 ko (xO g hd hN hn hp ha) (al5 _ c (by simp;omega))
theorem OW(h:∀d∈l,noRef d=G):noRef (.tup l)=G:=by unfold noRef;exact iU.mpr h
theorem OY(l:List Nat):noRef (.tup (nD l))=G:=OW λd hd=>by
 obtain⟨k,_,rfl⟩:=H8.mp hd;rfl
theorem OX(n:Nat)(s:Nat->Nat->Nat):noRef (bE n s)=G:=OW λd hd=>by
 obtain⟨k,_,rfl⟩:=H8.mp hd;exact OY _
theorem tK(h:f∈bU):f.q<=50:=by
 have:(bU.all λf=>decide (f.q<=50))=G:=by decide +kernel
 simpa using Iv.mp this f h
theorem Gx(n:Nat)(g:Nat->Nat):nD ((θ n).map g)=(θ n).map λi=>D.int (g i:Nat):=by simp
def FS(f:Fd):List D:=(θ (f.q-1)).map λa=>bE f.q (sF f (1+a))
theorem S0{m:List D->aa->R D}(h1:d1 e c=.ok x c)(h2:d2 e c=.ok y c)(h3:d3 e c=.ok z c)(h4:d4 e c=.ok u c)(h:m [x,y,z,u] c=.ok v c):aB 4 m (ao d1 (ao d2 (ao d3 (ao d4 av)))) e c=.ok v c:=by
 simp only[x_call,b7,h1,h2,h3,h4,cj,R.aF];exact h
def wA(f:Fd)(x:Nat):List D:=(θ f.q).map λy=>D.int (M f x y:Nat)
def PR(f:Fd):List D:=(θ f.q).map λx=>.lst (wA f x)
theorem abZ(f:Fd):noRef (.lst (PR f))=G:=by
 refine iU.mpr λd hd=>?_
 obtain⟨k,_,rfl⟩:=H8.mp hd;refine iU.mpr λd hd=>?_
 obtain⟨k,_,rfl⟩:=H8.mp hd;rfl
theorem apm(h:f∈bU)(c:aa):uq [.int f.q] c=.ok (.lst (PR f)) c:=by
 have hq:=tK h;refine jR (n:=2) (b:=yJ) ?_ (abZ f) (λk h=>by cases h)
 have e0:aG 1 (aB 1 xx ⇑0) [O (.int f.q),Z] c=.ok (.nx [O (.int f.q),O (.lst ((gg f).map D.int))]) c:=kH (i:=1) (iH (m:=xx) (d1:=ak 0) rfl (afC h c));unfold yJ;rw[show cW 2 [D.int f.q]=[O (.int f.q),Z]from rfl,cK e0]
 refine jr ?_;exact xO (N:=(f.q:Int)) (n:=f.q) (E:=[O (.int f.q),O (.lst ((gg f).map D.int))]) (λx=>D.lst (wA f x)) rfl rfl ∅ rfl λx hx =>
  xO (N:=(f.q:Int)) (n:=f.q) (E:=[O (.int f.q),O (.lst ((gg f).map D.int)),O ↥x]) (λy=>D.int (M f x y:Nat)) rfl rfl ∅ rfl λy hy =>
   S0 (m:=ur) (d1:=ak 1) (d2:=ak 2) (d3:=ak 3) (d4:=ak 0) rfl rfl rfl rfl (apg h hx hy c)
theorem Td{i:Nat}(h:l[i]? = O d):dB l (i:Int)=O d:=by
 have hi:=(U3.mp h).1;unfold dB gu;rw[if_pos ∅,if_pos ∅]
 simpa using h
theorem xS{i:Nat}{N:Int}(hN:N=i)(h:l[i]? = O d)(c:aa):aD (.lst l) (.int N) c=.ok d c:=by
 subst hN;unfold aD fU;simp only[Td h]
theorem Qn{i:Nat}{N:Int}(hN:N=i)(h:l[i]? = O d)(c:aa):aD (.tup l) (.int N) c=.ok d c:=by
 subst hN;unfold aD fU;simp only[Td h]
theorem acL(h:f∈bU)(x y:Nat)(c:aa):rC [.int f.q,.int x,.int y,.int 1] c=.ok (.int (A f x y:Nat)) c:=by
 rw[amP h x y 1 ⋯ c,(aiv h x y).1]
 unfold vn;have:(λa b:Int=>a+1*b)=(· + ·):=by funext a b;omega
 rw[this]
def fJ(f:Fd)(a:Nat):List D:=(θ f.q).map λx=>D.tup (nD ((θ f.q).map (sF f a x)))
def yg:ah:=(dw (gx (ak 4) (aO dj (ao (aX (bH ⇑0) [Z,O 0,O 5,O 1,O 3] (aA 0) aP (aB 4 rC (ao (ak 1) (ao (au aD (au aD (ak 3) (ak 4)) (ak 2)) (ao (ak 0) (ao (dC (.int 1)) av)))))) av))))
def yf:ah:=(aC (aG 4 (fj av)) (aC (bY (bH ⇑0) (aA 5) yg) (dw (gx (ak 2) (aO dj ⇑4)))))
theorem Fw{f:Fd}(hx:x<=f.q):(fJ f a).take x=(θ x).map λx=>D.tup (nD ((θ f.q).map (sF f a x))):=by
 unfold fJ;rw[<-WO,List.take_range,Xl hx]
theorem ahL(ho:dO e c=.ok (.ref k) c)(ha:da e c=.ok y c)(hc:c[k]? = O (.lst l))(hy:noRef y=G)(hl:l.length<1000):gx dO da e c=.ok .aJ (c.set k (.lst (l++[y]))):=by
 have sz:=mZ;unfold gx;rw[ho,R.aF];dsimp only;rw[ha,R.aF];simp only[hc];rw[if_pos ⟨∅,hy⟩]
theorem afu(h:f∈bU){a:Nat}(ha:1<=a)(ha2:a<f.q){N:Int}(hN:N=f.q)(c:aa)(v2 v5:Option D):∃v,cZ (λ_=>True) (aA 5) yg (aY 0 N) [O (.int N),O (.lst (PR f)),v2,O ↥a,O (.ref c.length),v5] (c++[.lst []])=.ok (.nx [O (.int N),O (.lst (PR f)),v2,O ↥a,O (.ref c.length),v]) (c++[.lst (fJ f a)]):=by
 have hq:=tK h;have:=uO (g:=aA 5) (s:=yg) (λx=>c++[.lst ((fJ f a).take x)]) (λ_ (v:Option D)=>[O (.int N),O (.lst (PR f)),v2,O ↥a,O (.ref c.length),v]) hN v5 (λx hx v=>by
  refine⟨[O (.int N),O (.lst (PR f)),v2,O ↥a,O (.ref c.length),O (.int (x:Nat))],rfl,O (.int (x:Nat)),?_⟩;have hval:(aO dj (ao (aX (bH ⇑0) [Z,O 0,O 5,O 1,O 3] (aA 0) aP (aB 4 rC (ao (ak 1) (ao (au aD (au aD (ak 3) (ak 4)) (ak 2)) (ao (ak 0) (ao (dC (.int 1)) av)))))) av)) [O (.int N),O (.lst (PR f)),v2,O ↥a,O (.ref c.length),O (.int (x:Nat))] (c++[.lst ((fJ f a).take x)])=.ok (.tup ((θ f.q).map λy=>D.int (sF f a x y:Nat))) (c++[.lst ((fJ f a).take x)]):=by
   refine ama (N:=N) (n:=f.q) (E:=[O (.int N),O (.int (x:Nat)),O (.lst (PR f)),O ↥a]) (λy=>D.int (sF f a x y:Nat)) rfl hN ∅ rfl λy hy=>?_
   have r1:(PR f)[a]? = O (.lst (wA f a)):=by unfold PR;rw[U7,VC ha2];rfl
   have r2:(wA f a)[x]? = O (.int (M f a x:Nat)):=by unfold wA;rw[U7,VC hx];rfl
   have i1:=xS (N:=(a:Int)) rfl r1 (c++[.lst ((fJ f a).take x)]);have i2:=xS (N:=(x:Int)) rfl r2 (c++[.lst ((fJ f a).take x)]);have hs:=acL h (M f a x) y (c++[.lst ((fJ f a).take x)]);rw[<-hN]at hs;exact S0 (m:=rC) (d1:=ak 1) (d3:=ak 0) (d4:=dC (.int 1)) rfl (cN (f:=aD) (cN (f:=aD) (d1:=ak 3) (d2:=ak 4) rfl rfl i1) (d2:=ak 2) rfl i2) rfl rfl hs
  have hap:=DQ (c:=c) (acc:=(fJ f a).take x) (dO:=ak 4) (e:=[O (.int N),O (.lst (PR f)),v2,O ↥a,O (.ref c.length),O (.int (x:Nat))]) rfl hval (by rw[<-Gx];exact OY _) (by rw[Fw ∅];simp;omega)
  unfold yg;rw[kD,hap,R.aF];have ht:(fJ f a).take x++[D.tup ((θ f.q).map λy=>D.int (sF f a x y:Nat))]=(fJ f a).take (x+1):=by
   rw[Fw ∅,Fw ∅,VQ,Ve,<-Gx]
   rfl
  rw[ht])
 have hz:(fJ f a).take 0=[]:=rfl;have hw:(fJ f a).take f.q=fJ f a:=WN (by unfold fJ;simp)
 rw[hz,hw]at this;exact this
def Qj(f:Fd)(k:Nat):aa:=(θ k).map λa=>Cell.lst (fJ f (1+a))
def dW(f:Fd)(c:aa)(k:Nat):aa:=c ++ .lst ((θ k).map λa=>bE f.q (sF f (1+a)))::Qj f k
theorem aft(h:f∈bU){N:Int}(hN:N=f.q)(c:aa)(v3 v4 v5:Option D):∃w,cZ (λ_=>True) (aA 3) yf (aY 1 N) [O (.int N),O (.lst (PR f)),O (.ref c.length),v3,v4,v5] (c++[.lst []])=.ok (.nx ([O (.int N),O (.lst (PR f)),O (.ref c.length)]++w)) (dW f c (f.q-1)):=by
 have hq:=tK h;have q2:=(gc h).q2;have hl:(aY 1 N).length=f.q-1:=by rw[zX];simp;omega
 have:=nM (st:=λ_=>True) (g:=aA 3) (s:=yf) (dW f c) (λ_ (w:Option D×Option D×Option D)=>[O (.int N),O (.lst (PR f)),O (.ref c.length),w.1,w.2.1,w.2.2]) (aY 1 N) 0 (v3,v4,v5) (λ_ _=>trivial) (λk x hx w=>by
  have hk:k<f.q-1:=by rw[<-hl];exact(U3.mp hx).1
  have hx':x=.int (((1+k:Nat)):Int):=by
   rw[zX,U7,VC ∅]at hx
   have:D.int (1+(k:Int))=x:=by simpa using hx
   rw[<-this]
   congr 1
  subst hx';refine⟨[O (.int N),O (.lst (PR f)),O (.ref c.length),O (.int (((1+k:Nat)):Int)),w.2.1,w.2.2],rfl,?_⟩;have e0:aG 4 (fj av) [O (.int N),O (.lst (PR f)),O (.ref c.length),O (.int (((1+k:Nat)):Int)),w.2.1,w.2.2] (dW f c k)=.ok (.nx [O (.int N),O (.lst (PR f)),O (.ref c.length),O (.int (((1+k:Nat)):Int)),O (.ref (dW f c k).length),w.2.2]) (dW f c k++[.lst []]):=by
   simp[bW]
  obtain⟨v,e1⟩:=afu h (a:=1+k) ∅ ∅ hN (dW f c k) (O (.ref c.length)) w.2.2
  have h1:bH ⇑0 [O (.int N),O (.lst (PR f)),O (.ref c.length),O (.int (((1+k:Nat)):Int)),O (.ref (dW f c k).length),w.2.2] (dW f c k++[.lst []])=.ok ⟨aY 0 N,λ_=>True⟩ (dW f c k++[.lst []]):=by
   unfold bH;simp only[b7,cg,gz,cj,R.aF];rw[if_pos ∅]
  have HU:bY (bH ⇑0) (aA 5) yg [O (.int N),O (.lst (PR f)),O (.ref c.length),O (.int (((1+k:Nat)):Int)),O (.ref (dW f c k).length),w.2.2] (dW f c k++[.lst []])=.ok (.nx [O (.int N),O (.lst (PR f)),O (.ref c.length),O (.int (((1+k:Nat)):Int)),O (.ref (dW f c k).length),v]) (dW f c k++[.lst (fJ f (1+k))]):=by
   rw[jl,h1,R.aF];exact e1
  have G4:(dW f c k++[Cell.lst (fJ f (1+k))])[(dW f c k).length]? = O (.lst (fJ f (1+k))):=by simp
  have htup:aO dj ⇑4 [O (.int N),O (.lst (PR f)),O (.ref c.length),O (.int (((1+k:Nat)):Int)),O (.ref (dW f c k).length),v] (dW f c k++[.lst (fJ f (1+k))])=.ok (bE f.q (sF f (1+k))) (dW f c k++[.lst (fJ f (1+k))]):=by
   refine ko (d1:=ak 4) (x:=.ref (dW f c k).length) rfl ?_;unfold dj fU;simp only[G4];rfl
  have aeJ:(dW f c k++[Cell.lst (fJ f (1+k))])[c.length]? = O (.lst ((θ k).map λa=>bE f.q (sF f (1+a)))):=by
   unfold dW;simp
  have hap:=ahL (dO:=ak 2) (e:=[O (.int N),O (.lst (PR f)),O (.ref c.length),O (.int (((1+k:Nat)):Int)),O (.ref (dW f c k).length),v]) rfl htup aeJ (OX _ _) (by simp;omega)
  have xX:(dW f c k++[Cell.lst (fJ f (1+k))]).set c.length (.lst (((θ k).map λa=>bE f.q (sF f (1+a)))++[bE f.q (sF f (1+k))]))=dW f c (k+1):=by
   unfold dW Qj;rw[UY,List.set_append_right _ _ (dD _),Vg,VQ,Ve,Ve];rfl
  rw[xX]at hap;refine⟨(O (.int (((1+k:Nat)):Int)),O (.ref (dW f c k).length),v),?_⟩;unfold yf;rw[UM];rw[cK e0,cK HU,kD,hap];rfl)
 obtain⟨w,hw⟩:=this;refine⟨[w.1,w.2.1,w.2.2],?_⟩;rw[UM,hl]at hw;exact hw
theorem A3(n:Nat)(s:Nat->Nat->Nat)(c:aa):bD [bE n s] c=.ok ↥n c:=by
 unfold bE;simp
theorem E8{n i:Nat}(s:Nat->Nat->Nat)(h1:1<=n)(h7:n<=7)(hi:i<n*n){I:Int}(hI:I=i)(c:aa):iF [bE n s,.int I] c=.ok (.int (s (i/n) (i % n):Nat)) c:=by
 have hd:i/n<n:=WM hi;have hm:i % n<n:=V7 _ ∅
 refine jR (n:=2) (b:=C7) ?_ rfl (λk h=>by cases h)
 refine jr ?_;have e:cW 2 [bE n s,.int I]=[O (bE n s),O (.int I)]:=rfl;rw[e];have hl:aO bD _ [O (bE n s),O (.int I)] c=.ok ↥n c:=ko (d1:=ak 0) rfl (A3 n s c);have x9:fu (.int I) ↥n c=.ok (.int (((i/n:Nat)):Int)) c:=by
  rw[i6 c ∅ ∅,hI]
  rfl
 have hmd:bZ (.int I) ↥n c=.ok (.int (((i % n:Nat)):Int)) c:=by
  rw[gT c ∅,hI]
  rfl
 have r2:(nD ((θ n).map (s (i/n))))[i % n]? = O (.int (s (i/n) (i % n):Nat)):=by rw[Gx,U7,VC hm];rfl
 exact cN (f:=aD) (cN (f:=aD) (d1:=ak 0) rfl (cN (f:=fu) (d1:=ak 1) rfl hl x9) (Qn rfl (by rw[U7,VC hd];rfl) c)) (cN (f:=bZ) rfl hl hmd) (Qn rfl r2 c)
def qQ(n:Nat)(s s':Nat->Nat->Nat)(i:Nat):List Int:=[((s (i/n) (i % n):Nat):Int),((s' (i/n) (i % n):Nat):Int)]
def Aa(n:Nat)(s s':Nat->Nat->Nat)(i:Nat):D:=.tup [.int (s (i/n) (i % n):Nat),.int (s' (i/n) (i % n):Nat)]
theorem Pw(h0:0<=m)(h1:m<1000)(hq:q=m*m)(c:aa):aT (.int m) (.int m) c=.ok (.int q) c:=by
 unfold aT;dsimp only;rw[if_pos ∅,hq]
def PD(n:Nat)(s:Nat->Nat->Nat):Bool:=(θ n).all λi=>decide (((θ n).map (s i)).Nodup)&&decide (((θ n).map λj=>s j i).Nodup)&&(θ n).all λj=>Nat.blt (s i j) n
def SW(n:Nat)(s s':Nat->Nat->Nat)(i:Nat):Nat:=8*s (i/n) (i % n)+s' (i/n) (i % n)
def OG(f:Fd):Bool:=(θ (f.q-1)).all λa=>PD f.q (sF f (1+a))&&(θ a).all λb=>decide (((θ (f.q*f.q)).map (SW f.q (sF f (1+a)) (sF f (1+b)))).Nodup)
theorem ahT:((bU.filter λf=>Nat.ble f.q 7).all OG)=G:=by decide +kernel
theorem OF(h:f∈bU)(h7:f.q<=7):OG f=G:=Iv.mp ahT f (Uy.mpr ⟨h,Nat.ble_eq_true_of_le h7⟩)
theorem acK{s:Nat->Nat->Nat}(h:PD n s=G):e8 n s/\∀x y,x<n->y<n->s x y<n:=by
 have h:=Iv.mp h;have hb:∀x y,x<n->y<n->s x y<n:=λx y hx hy=>by
  have:=h x (gq.mpr hx);simp only[T5,Iv]at this;have h3:=this.2 y (gq.mpr hy);exact TY (Uu _) (Zs h3)
 refine⟨⟨λi hi=>?_,λi hi=>?_⟩,hb⟩
 ·have:=h i (gq.mpr hi);simp only[T5,decide_eq_true_eq]at this;exact tR this.1.1 (λx hx=>by
   obtain⟨j,hj,rfl⟩:=H8.mp hx;exact gq.mpr (hb i j hi (gq.mp hj))) (by simp)
 ·have:=h i (gq.mpr hi);simp only[T5,decide_eq_true_eq]at this;exact tR this.1.2 (λx hx=>by
   obtain⟨j,hj,rfl⟩:=H8.mp hx;exact gq.mpr (hb j i (gq.mp hj) hi)) (by simp)
theorem O2{α:Type}{f:Nat->α}(h:∀i j,i<n->j<n->f i=f j->i=j):((θ n).map f).Nodup:=by
 unfold V0;rw[WS];refine Zp (R:=(· < ·)) (fun{a b} ha hb hab e=>?_) Xx
 have:=h a b (gq.mp ha) (gq.mp hb) e;omega
theorem yz{m:List D->aa->R D}(h1:d1 e c=.ok x c)(h2:d2 e c=.ok y c)(h3:d3 e c=.ok z c)(h:m [x,y,z] c=.ok v c):aB 3 m (ao d1 (ao d2 (ao d3 av))) e c=.ok v c:=by
 simp only[x_call,b7,h1,h2,h3,cj,R.aF];rw[if_pos (by rfl)];exact h
theorem RO:∀(l r:List (List Int)),(r++l).Nodup->l.foldl iN r=r++l
 |[],r,_=>by simp
 |k::l,r,h=>by
  have hk:k∉r:=λhm=>by
   rw[WU]at h;exact h.2.2 k hm k (.head _) rfl
  rw[Vj,show iN r k=r++[k] by unfold iN;rw[if_neg hk],RO l (r++[k]) (by rw[UY];exact h),UY]
  rfl
structure Ks (n:Nat) (s s':Nat->Nat->Nat):Prop where
 one:∀x y,x<n->y<n->s x y<8
 two:∀x y,x<n->y<n->s' x y<8
 nd:((θ (n*n)).map (qQ n s s')).Nodup
theorem NJ{s s':Nat->Nat->Nat}(A:Ks n s s'):∀l:List Nat,(∀i∈l,i<n*n)->qO (l.map (Aa n s s'))=O (l.map (qQ n s s'))
 |[],_=>rfl
 |i::l,h=>by
  have hi:=h i (.head _);have h0:0<n:=by rcases YO n with e|e;(subst e;simp at hi);exact e
  have a1:=A.one (i/n) (i % n) (WM hi) (V7 _ h0);have a2:=A.two (i/n) (i % n) (WM hi) (V7 _ h0);have hp:bI (Aa n s s' i)=O (qQ n s s' i):=by
   unfold bI Aa qQ;dsimp only;rw[if_pos ∅]
  rw[T8,T8];unfold qO;rw[hp,NJ A l λj hj=>h j (.tail _ hj)]
theorem eq_self(N:Int)(c:aa):cB (.int N) (.int N) c=.ok (.bl G) c:=by simp
theorem acW{s s':Nat->Nat->Nat}(h1:1<=n)(h7:n<=7)(A:Ks n s s')(c:aa):xr [bE n s,bE n s'] c=.ok (.bl G) c:=by
 have hnn:n*n<=49:=X8 h7 h7;refine jR (n:=3) (b:=yH) ?_ rfl (λk h=>by cases h)
 obtain⟨Q,hQ⟩:∃Q:Int,Q=((n*n:Nat):Int):=⟨_,rfl⟩;have hml:aT ↥n ↥n c=.ok (.int Q) c:=by
  rw[hQ];exact Pw (m:=(n:Int)) ∅ ∅ (by simp) c
 have e0:aG 2 (au aT (aO bD ⇑0) (aO bD ⇑0)) [O (bE n s),O (bE n s'),Z] c=.ok (.nx [O (bE n s),O (bE n s'),O (.int Q)]) c:=kH (i:=2) (cN (f:=aT) (ko (d1:=ak 0) rfl (A3 n s c)) (ko (d1:=ak 0) rfl (A3 n s c)) hml);have t2:(2:Nat)<=Ω:=⋯
 have hc:=xO (d:=ak 2) (a:=ck (ao (aB 2 iF (1⊂0)) (ao (aB 2 iF (2⊂0)) av))) (pick:=[Z,O 0,O 1]) (e:=[O (bE n s),O (bE n s'),O (.int Q)]) (E:=[O (bE n s),O (bE n s')]) (c:=c) (N:=Q) (n:=n*n) (Aa n s s') rfl hQ ∅ rfl (λi hi=>by
  have g1:=lB (m:=iF) (d1:=ak 1) (d2:=ak 0) (e:=[O ↥i,O (bE n s),O (bE n s')]) rfl rfl (E8 s h1 h7 hi rfl c);have g2:=lB (m:=iF) (d1:=ak 2) (d2:=ak 0) (e:=[O ↥i,O (bE n s),O (bE n s')]) rfl rfl (E8 s' h1 h7 hi rfl c);simp only[zu,b7,g1,g2,cj,R.aF];rw[if_pos (by exact t2)]
  rfl)
 have hp:=NJ A (θ (n*n)) λi hi=>gq.mp hi
 have hf:fq ((θ (n*n)).map (qQ n s s'))=(θ (n*n)).map (qQ n s s'):=RO _ [] (by simpa using A.nd)
 have hs:uZ (ao (aX (bH ⇑2) [Z,O 0,O 1] (aA 0) aP (ck (ao (aB 2 iF (1⊂0)) (ao (aB 2 iF (2⊂0)) av)))) av) [O (bE n s),O (bE n s'),O (.int Q)] c=.ok (.int Q) c:=by
  unfold uZ;simp only[b7,hc,cj,R.aF,eZ,hp,hf,T6,Ul];rw[if_pos ∅,hQ]
 have hb:yH=aC (aG 2 (au aT (aO bD ⇑0) (aO bD ⇑0))) (aK (au cB (uZ (ao (aX (bH ⇑2) [Z,O 0,O 1] (aA 0) aP (ck (ao (aB 2 iF (1⊂0)) (ao (aB 2 iF (2⊂0)) av)))) av)) (ak 2))):=rfl;rw[show cW 3 [bE n s,bE n s']=[O (bE n s),O (bE n s'),Z]from rfl,hb,cK e0]
 exact jr (cN (f:=cB) hs (d2:=ak 2) (y:=.int Q) rfl (eq_self Q c))
def kr(n:Nat)(s t:Nat->Nat->Nat):Prop:=∀x y x' y',x<n->y<n->x'<n->y'<n->s x y=s x' y'->t x y=t x' y'->x=x'/\y=y'
theorem kr.symm{s t:Nat->Nat->Nat}(h:kr n s t):kr n t s:=λx y x' y' a b c d e f=>h x y x' y' a b c d f e
theorem aia{s t:Nat->Nat->Nat}(h1:1<=n)(h7:n<=7)(L:e8 n s)(L':e8 n t)(h:kr n s t):Ks n s t:=by
 refine⟨λx y hx hy=>by have:=L.lt hx hy;omega,λx y hx hy=>by have:=L'.lt hx hy;omega,O2 λi j hi hj e=>?_⟩
 unfold qQ at e
 injection e with e1 e2
 injection e2 with e2 _
 have e1:s (i/n) (i % n)=s (j/n) (j % n):=∅
 have e2:t (i/n) (i % n)=t (j/n) (j % n):=∅
 obtain⟨q1,q2⟩:=h _ _ _ _ (WM hi) (V7 _ ∅) (WM hj) (V7 _ ∅) e1 e2
 rw[<-Xk i n,<-Xk j n,q1,q2]
theorem Gp{f:Nat->Nat}(h:((θ n).map f).Nodup)(hi:i<n)(hj:j<n)(e:f i=f j):i=j:=by
 have hp:=WS.mp h;have hg:=Vt.mp hp
 rcases XH i j with q|q|q
 ·have:=hg i j (by simpa using hi) (by simpa using hj) q
  simp at this;exact absurd e this
 ·exact q
 ·have:=hg j i (by simpa using hj) (by simpa using hi) q
  simp at this;exact absurd e.symm this
theorem RU(h:f∈bU)(h7:f.q<=7)(ha:a<f.q-1)(hb:b<a):kr f.q (sF f (1+a)) (sF f (1+b)):=by
 have ho:=Iv.mp (OF h h7) a (gq.mpr ha);rw[T5]at ho;have hn:=of_decide_eq_true (Iv.mp ho.2 b (gq.mpr hb));intro x y x' y' hx hy hx' hy' e1 e2;have bd:∀x y,x<f.q->y<f.q->x*f.q+y<f.q*f.q:=λx y hx hy=>by
  have:x*f.q+f.q<=f.q*f.q:=by
   rw[<-Uv];exact XC _ hx
  omega
 have dv:∀x y,y<f.q->(x*f.q+y)/f.q=x/\(x*f.q+y) % f.q=y:=λx y hy=>by
  constructor
  ·rw[Ws,Yg ∅,Ye hy];omega
  ·rw[Ws,Nat.mul_add_mod,Nat.mod_eq_of_lt hy]
 have:=Gp hn (bd x y hx hy) (bd x' y' hx' hy') (by
  unfold SW;rw[(dv x y hy).1,(dv x y hy).2,(dv x' y' hy').1,(dv x' y' hy').2,e1,e2])
 have d1:=dv x y hy;have d2:=dv x' y' hy';rw[this]at d1;exact⟨d1.1.symm.trans d2.1,d1.2.symm.trans d2.2⟩
theorem afQ(h:f∈bU)(h7:f.q<=7)(ha:a<f.q-1):e8 f.q (sF f (1+a)):=by
 have ho:=Iv.mp (OF h h7) a (gq.mpr ha);rw[T5]at ho;exact(acK ho.1).1
theorem afR(h:f∈bU)(h7:f.q<=7)(ha:a<f.q-1)(hb:b<f.q-1)(hne:a≠b):kr f.q (sF f (1+a)) (sF f (1+b)):=by
 rcases Zo hne with q|q
 ·exact(RU h h7 hb q).symm
 ·exact RU h h7 ha q
theorem acX(h:f∈bU){N:Int}(hN:N=f.q)(h7:N<=7)(c:aa):xy [.int N] c=.ok (.ref c.length) (c++[.lst (FS f)]):=by
 obtain⟨w,hf⟩:=aft h hN c Z Z Z;have hp:=apm h c;rw[<-hN]at hp;have e0:aG 1 (aB 1 uq ⇑0) [O (.int N),Z,Z,Z,Z,Z] c=.ok (.nx [O (.int N),O (.lst (PR f)),Z,Z,Z,Z]) c:=kH (i:=1) (iH (m:=uq) (d1:=ak 0) rfl hp);have e1:aG 2 (fj av) [O (.int N),O (.lst (PR f)),Z,Z,Z,Z] c=.ok (.nx [O (.int N),O (.lst (PR f)),O (.ref c.length),Z,Z,Z]) (c++[.lst []]):=by simp[bW]
 have h1:kj (ao (dC (.int 1)) ⇑0) [O (.int N),O (.lst (PR f)),O (.ref c.length),Z,Z,Z] (c++[.lst []])=.ok ⟨aY 1 N,λ_=>True⟩ (c++[.lst []]):=by
  have q2:=(gc h).q2;simp;omega
 have e2:bY (kj (ao (dC (.int 1)) ⇑0)) (aA 3) yf [O (.int N),O (.lst (PR f)),O (.ref c.length),Z,Z,Z] (c++[.lst []])=.ok (.nx ([O (.int N),O (.lst (PR f)),O (.ref c.length)]++w)) (dW f c (f.q-1)):=by
  rw[jl,h1,R.aF];exact hf
 have hb:yL=aC (aG 1 (aB 1 uq ⇑0)) (aC (aG 2 (fj av)) (aC (bY (kj (ao (dC (.int 1)) ⇑0)) (aA 3) yf) (aK (ak 2)))):=rfl;show bh 6 G yL [.int N] c=_;unfold bh;rw[show cW 6 [D.int N]=[O (.int N),Z,Z,Z,Z,Z]from rfl,hb,cK e0,cK e1,cK e2]
 have e3:aK (ak 2) ([O (.int N),O (.lst (PR f)),O (.ref c.length)]++w) (dW f c (f.q-1))=.ok (.rt (.ref c.length)) (dW f c (f.q-1)):=rfl;rw[e3,R.aF];dsimp only;unfold cU;dsimp only;have hg:(dW f c (f.q-1))[c.length]? = O (.lst (FS f)):=by unfold dW FS;simp
 have ht:(dW f c (f.q-1)).take c.length=c:=by unfold dW;simp
 rw[hg];dsimp only;rw[if_pos (dD _),if_pos rfl,ht]
structure Net (n:Nat) (ss:List (Nat->Nat->Nat)):Prop where
 two:2<=n
 tE:n<=7
 few:ss.length<=n-1
 lat:∀s∈ss,e8 n s
 Tu:ss.Pairwise (kr n)
def b9(n:Nat)(ss:List (Nat->Nat->Nat)):List D:=ss.map (bE n)
theorem afP(h:f∈bU)(h7:f.q<=7){bs:List Nat}(hn:bs.Nodup)(hb:∀x∈bs,x<f.q-1)(hl:bs.length<=f.q-1):Net f.q (bs.map λa=>sF f (1+a)):=by
 refine⟨(gc h).q2,h7,by simpa using hl,λs hs=>?_,?_⟩
 ·obtain⟨a,ha,rfl⟩:=H8.mp hs;exact afQ h h7 (hb a ha)
 ·rw[WS];exact Zp (fun{a b} ha hb' hne=>afR h h7 (hb a ha) (hb b hb') hne) hn
structure LF (f:Fd) (j n:Nat) (as bs:List Nat) (c:aa):Prop where
 len:c.length=n+2
 aky:j<n
 apZ:∃p:Int,c[j]? = O (.lst [.int p])
 left:c[n]? = O (.lst (as.map λa=>bE f.q (sF f (1+a))))
 fnd:c[n+1]? = O (.lst (bs.map λa=>bE f.q (sF f (1+a))))
def vZ:ah:=(dw (gx (ak 3) (lg (ak 2) (aB 2 cI (ao (ak 0) (ao (aO bD ⇑2) av))))))
theorem acH{α:Type}(g:Nat->α)(l:List Nat)(i:Nat):(l.map g).eraseIdx i=(l.eraseIdx i).map g:=by
 rw[Vp,Vp];simp[WO,Yq]
theorem amC{bs:List Nat}(H:LF f j n as bs c)(h1:0<as.length)(h2:as.length<100)(h3:bs.length<100):
  ∃as' bs' c',LF f j n as' bs' c'/\(as++bs).Perm (as'++bs')/\as'.length+1=as.length/\bs'.length=bs.length+1/\vZ [O (.ref j),a1,O (.ref n),O (.ref (n+1)),a4] c=.ok (.nx [O (.ref j),a1,O (.ref n),O (.ref (n+1)),a4]) c':=by
 obtain⟨g1,g2,⟨p,g3⟩,g4,g5⟩:=H;have ht:=take2 (cL:=(as.length:Int)) g3 ∅ ∅
 have x0:=VN p (show(as.length:Int)≠0 by omega)
 have x1:=VM p (show(0:Int)<(as.length:Int) by omega)
 generalize p % (as.length:Int)=x at ht x0 x1
 obtain⟨i,rfl⟩:=qY x0
 generalize hc1:c.set j (.lst [.int (p/(as.length:Int))])=c1 at ht
 have hi:i<as.length:=∅
 have l1:c1.length=n+2:=by rw[<-hc1];simp[g1]
 have q0:c1[j]? = O (.lst [.int (p/(as.length:Int))]):=by rw[<-hc1,Ux ∅]
 have q1:c1[n]? = O (.lst (as.map λa=>bE f.q (sF f (1+a)))):=by rw[<-hc1,Ue ∅];exact g4
 have hlen:bD [.ref n] c=.ok (.int (as.length:Int)) c:=by
  unfold bD;dsimp only[fU];rw[g4];simp
 have hget:(as.map λa=>bE f.q (sF f (1+a)))[i]? = O (bE f.q (sF f (1+as[i]))):=by simp[hi]
 have aei:lg (ak 2) (aB 2 cI (ao (ak 0) (ao (aO bD ⇑2) av))) [O (.ref j),a1,O (.ref n),O (.ref (n+1)),a4] c=.ok (bE f.q (sF f (1+as[i]))) (c1.set n (.lst ((as.eraseIdx i).map λa=>bE f.q (sF f (1+a))))):=by
  unfold lg;simp only[cg,gz,gs,R.aF,x_call,b7,gM,cj,hlen,U0,Uc,if_pos,ht,q1];rw[if_pos ⟨∅,by simp;omega,by simp;omega⟩,WG,hget]
  dsimp only;rw[acH]
 have q3:(c1.set n (.lst ((as.eraseIdx i).map λa=>bE f.q (sF f (1+a)))))[n+1]? = O (.lst (bs.map λa=>bE f.q (sF f (1+a)))):=by
  rw[Ue ∅];exact(by rw[<-hc1,Ue ∅];exact g5)
 refine⟨as.eraseIdx i,bs++[as[i]],(c1.set n (.lst ((as.eraseIdx i).map λa=>bE f.q (sF f (1+a))))).set (n+1) (.lst ((bs++[as[i]]).map λa=>bE f.q (sF f (1+a)))),⟨by simp[l1],g2,⟨_,by rw[Ue ∅,Ue ∅];exact q0⟩,by rw[Ue ∅,Ux ∅],by rw[Ux (by simp;omega)]⟩,?_,by rw[ie hi];omega,by simp,?_⟩
 ·have p1:=(CK hi).append_right bs;refine p1.trans ?_;rw[<-UY];refine List.Perm.trans ?_ (Xy as[i] (as.eraseIdx i++bs)).symm;exact .refl _
 ·unfold vZ;rw[kD];have:gx (ak 3) (lg (ak 2) (aB 2 cI (ao (ak 0) (ao (aO bD ⇑2) av)))) [O (.ref j),a1,O (.ref n),O (.ref (n+1)),a4] c=.ok .aJ ((c1.set n (.lst ((as.eraseIdx i).map λa=>bE f.q (sF f (1+a))))).set (n+1) (.lst ((bs++[as[i]]).map λa=>bE f.q (sF f (1+a))))):=by
   have sz:=mZ;unfold gx;have hv:(ak 3) [O (.ref j),a1,O (.ref n),O (.ref (n+1)),a4] c=.ok (.ref (n+1)) c:=rfl;rw[hv,R.aF];dsimp only;rw[aei,R.aF];simp only[q3];rw[if_pos ⟨by simp;omega,OX _ _⟩]
   simp
  rw[this];rfl
theorem LX:∀(ks:List D) (as bs:List Nat) (a4:Option D) (c:aa),LF f j n as bs c->ks.length<=as.length->as.length+bs.length<100 ->
  ∃as' bs' v c',LF f j n as' bs' c'/\(as++bs).Perm (as'++bs')/\cZ (λ_=>True) (aA 4) vZ ks [O (.ref j),a1,O (.ref n),O (.ref (n+1)),a4] c=.ok (.nx [O (.ref j),a1,O (.ref n),O (.ref (n+1)),v]) c'
 |[],as,bs,a4,c,H,_,_=>⟨as,bs,a4,c,H,.refl _,by simp⟩
 |k::ks,as,bs,a4,c,H,hl,h2=>by
  rw[U0]at hl;obtain⟨as1,bs1,c1,H1,p1,l1,l2,e1⟩:=amC (a1:=a1) H ∅ ∅ ∅
  obtain⟨as2,bs2,v,c2,H2,p2,e2⟩:=LX ks as1 bs1 (O k) c1 H1 ∅ ∅
  refine⟨as2,bs2,v,c2,H2,p1.trans p2,?_⟩;have g:aA 4 k [O (.ref j),a1,O (.ref n),O (.ref (n+1)),a4] c=.ok [O (.ref j),a1,O (.ref n),O (.ref (n+1)),O k] c:=rfl
  rwa[kg,g,R.aF,e1]
theorem Lm:∀(l:List Nat) (c:aa) (n:Nat),iB c n (nD l)=O (nD l)
 |[],_,_=>rfl
 |x::l,c,n=>by
  show(match fk c n _,iB c n _ with|some a,O m=>O _|_,_=>Z)=_
  rw[Lm l c n];rfl
theorem amd(n:Nat)(s:Nat->Nat->Nat)(c:aa)(k:Nat):fk c k (bE n s)=O (bE n s):=by
 have h:∀l:List Nat,iB c k (l.map λi=>D.tup (nD ((θ n).map (s i))))=O (l.map λi=>D.tup (nD ((θ n).map (s i)))):=λl=>by
  induction l with
  |nil=>rfl
  |cons i l ih =>
   show(match fk c k _,iB c k _ with|some a,O m=>O _|_,_=>Z)=_
   have:fk c k (.tup (nD ((θ n).map (s i))))=O (.tup (nD ((θ n).map (s i)))):=by
    show(match iB c k _ with|some m=>O _|none=>Z)=_
    rw[Lm]
   rw[this,ih];rfl
 show(match iB c k _ with|some m=>O _|none=>Z)=_
 rw[h];rfl
theorem Lo(n:Nat):∀(ss:List (Nat->Nat->Nat)) (c:aa) (k:Nat),iB c k (b9 n ss)=O (b9 n ss)
 |[],_,_=>rfl
 |s::ss,c,k=>by
  show(match fk c k _,iB c k (b9 n ss)with|some a,O m=>O _|_,_=>Z)=_
  rw[amd,Lo n ss c k];rfl
theorem anU(y0:0<=y)(y1:y<6):(2+y=6)\/∃f∈bU,f.q<=7/\2+y=(f.q:Int)/\f.q≠6:=by
 have:y=0\/y=1\/y=2\/y=3\/y=4\/y=5:=∅
 rcases this with rfl|rfl|rfl|rfl|rfl|rfl
 ·exact .inr ⟨bU[0],U6 _,⋯,rfl,⋯⟩
 ·exact .inr ⟨bU[1],U6 _,⋯,rfl,⋯⟩
 ·exact .inr ⟨bU[2],U6 _,⋯,rfl,⋯⟩
 ·exact .inr ⟨bU[3],U6 _,⋯,rfl,⋯⟩
 ·exact .inl rfl
 ·exact .inr ⟨bU[4],U6 _,⋯,rfl,⋯⟩
theorem aes(t:cI [.ref j,.int 6] c=.ok (.int y) c1):(aG 1 (au aZ (dC (.int 2)) (aB 2 cI (ao (ak 0) (ao (dC (.int 6)) av))))) [O (.ref j),a1,a2,a3,a4] c=.ok (.nx [O (.ref j),O (.int (2+y)),a2,a3,a4]) c1:=by simp[t]
def vY:ah:=(bz (aN (au cB (ak 1) (dC (.int 6)))) (aK (ck (ao (ak 1) (ao (k9 (cE (ao (aB 2 pD (0⊂1)) av)) ly (lq (aB 2 cI (ao (ak 0) (ao (dC (.int 2)) av))))) av)))) bA)
theorem amB(h:N≠6):vY [a0,O (.int N),a2,a3,a4] c=.ok (.nx [a0,O (.int N),a2,a3,a4]) c:=by simp[vY,h]
theorem amD(t:pD [.ref j,.int 6] c=.ok T c1)(u:cI [.ref j,.int 2] c1=.ok (.int z) c2):vY [O (.ref j),O (.int 6),a2,a3,a4] c=.ok (.rt (.tup [.int 6,.lst (cutD [T] Z (O z))])) c2:=by
 have t1:1<=Ω:=⋯
 have t2:2<=Ω:=⋯
 simp[vY,t,u,t1,t2,k9,ly,lq,eZ]
theorem aev(h:f∈bU){N:Int}(hN:N=f.q)(h7:N<=7):(aG 2 (aB 1 xy ⇑1)) [a0,O (.int N),a2,a3,a4] c=.ok (.nx [a0,O (.int N),O (.ref c.length),a3,a4]) (c++[.lst (FS f)]):=by
 simp[acX h hN h7 c]
theorem amA:(aG 3 (fj av)) [a0,a1,a2,a3,a4] c=.ok (.nx [a0,a1,a2,O (.ref c.length),a4]) (c++[.lst []]):=by simp
theorem Lp(P:dX j m c){c':aa}(hl:m<=c'.length)(hp:∃p:Int,c'[j]? = O (.lst [.int p])):dX j m (c'.take m):=by
 obtain⟨h1,h2,_⟩:=P;obtain⟨p,hp⟩:=hp;exact⟨by simp;omega,h2,p,by rw[Wn,if_pos h2];exact hp⟩
theorem amb(h:c[k]? = O (.lst l))(hk:n<=k):fk c n (.tup [.int N,.ref k])=O (.tup [.int N,.lst l]):=by
 simp[fk,iB,h,hk]
theorem amc{ss:List (Nat->Nat->Nat)}:fk c n (.tup [.int N,.lst (b9 m ss)])=O (.tup [.int N,.lst (b9 m ss)]):=by
 simp[fk,iB,Lo]
theorem amE(P:dX j m c):∃(n:Nat) (ss:List (Nat->Nat->Nat)) (c':aa),(Net n ss/\(n=6->ss.length<=1))/\dX j m c'/\AV [.ref j] c=.ok (.tup [.int (n:Int),.lst (b9 n ss)]) c':=by
 have hcl:c.length=m:=P.1;obtain⟨y,c1,y0,y1,P1,t1⟩:=mW (cL:=6) P ⋯ ⋯
 have hb:vf=aC _ (aC vY (aC (aG 2 (aB 1 xy ⇑1)) (aC (aG 3 (fj av)) (aC (bY (bH (ao (aB 2 cI (0⊂1)) av)) (aA 4) vZ) (aK (ck (1⊂3))))))):=rfl;have es:cW 5 [D.ref j]=[O (.ref j),Z,Z,Z,Z]:=rfl;have e0:=aes (a1:=Z) (a2:=Z) (a3:=Z) (a4:=Z) t1
 rcases anU y0 y1 with h6|⟨f,hf,h7,hN,hn6⟩
 ·obtain⟨s,c2,hL,P2,t2⟩:=agf (n:=6) P1 ⋯ ⋯
  obtain⟨z,c3,z0,z1,P3,t3⟩:=mW (cL:=2) P2 ⋯ ⋯
  rw[h6]at e0;have e1:=amD (a2:=Z) (a3:=Z) (a4:=Z) t2 t3;have hz:∃ss:List (Nat->Nat->Nat),ss.length<=1/\(∀x∈ss,x=s)/\cutD [bE 6 s] Z (O z)=b9 6 ss:=by
   have:z=0\/z=1:=∅
   rcases this with rfl|rfl
   ·exact⟨[],by simp,by simp,rfl⟩
   ·exact⟨[s],by simp,λx hx=>by simpa using hx,rfl⟩
  obtain⟨ss,hl,hs,hc⟩:=hz;rw[hc]at e1;refine⟨6,ss,c3.take c.length,⟨⟨⋯,⋯,∅,λx hx=>hs x hx▸hL,?_⟩,λ_=>hl⟩,?_,?_⟩
  ·match ss,hl with
   |[],_=>exact .nil
   |[a],_=>exact List.pairwise_singleton _ _
  ·rw[hcl];exact Lp P (by rw[P3.1];exact dD _) P3.2.2
  ·show nO 5 vf [.ref j] c=_;unfold nO;rw[es,hb,cK e0,Fg e1,R.aF];dsimp only;unfold p9;rw[amc];rfl
 ·generalize hNN:2+y=N at e0 hN
  have q2:=(gc hf).q2;have e1:=amB (N:=N) (a0:=O (.ref j)) (a2:=Z) (a3:=Z) (a4:=Z) (c:=c1) ∅
  have e2:=aev hf hN ∅ (a0:=O (.ref j)) (a2:=Z) (a3:=Z) (a4:=Z) (c:=c1)
  have e3:=amA (a0:=O (.ref j)) (a1:=O (.int N)) (a2:=O (.ref c1.length)) (a3:=Z) (a4:=Z) (c:=c1++[.lst (FS f)]);have l1:c1.length=m:=P1.1;have l2:(c1++[Cell.lst (FS f)]).length=m+1:=by simp[l1]
  rw[l1]at e2 e3;rw[l2]at e3;obtain⟨p,hp⟩:=P1.2.2;have Bk:=P1.2.1;have P2:dX j (m+2) (c1++[.lst (FS f)]++[.lst []]):=⟨by simp[l1],∅,p,by rw[UY,UZ ∅];exact hp⟩
  obtain⟨p2,hp2⟩:=P2.2.2;have t2:=take2 (cL:=N) hp2 ∅ ∅
  have x0:=VN p2 (show N≠0 by omega)
  have x1:=VM p2 (show 0<N by omega)
  generalize p2 % N=z at t2 x0 x1
  have H:LF f j m (θ (f.q-1)) [] ((c1++[Cell.lst (FS f)]++[Cell.lst []]).set j (.lst [.int (p2/N)])):=by
   refine⟨by simp[l1],Bk,⟨_,by rw[Ux (by simp;omega)]⟩,?_,?_⟩
   ·rw[Ue ∅,UZ (by simp;omega),Um ∅,l1,Vg]
    rfl
   ·rw[Ue ∅,Um (by simp;omega)]
    simp[l1]
  obtain⟨as',bs',v,c5,H5,mw,e4⟩:=LX (a1:=O (.int N)) (aY 0 z) (θ (f.q-1)) [] Z _ H (by rw[zX];simp;omega) (by simp;omega)
  have hr:bH (ao (aB 2 cI (0⊂1)) av) [O (.ref j),O (.int N),O (.ref m),O (.ref (m+1)),Z] (c1++[.lst (FS f)]++[.lst []])=.ok ⟨aY 0 z,λ_=>True⟩ ((c1++[Cell.lst (FS f)]++[Cell.lst []]).set j (.lst [.int (p2/N)])):=by
   unfold bH;simp only[b7,x_call,cg,gz,gs,cj,R.aF,U0,Uc,if_pos,t2];rw[if_pos ∅]
  have e4':bY (bH (ao (aB 2 cI (0⊂1)) av)) (aA 4) vZ [O (.ref j),O (.int N),O (.ref m),O (.ref (m+1)),Z] (c1++[.lst (FS f)]++[.lst []])=.ok (.nx [O (.ref j),O (.int N),O (.ref m),O (.ref (m+1)),v]) c5:=by
   rw[jl,hr,R.aF];exact e4
  have hnd:(as'++bs').Nodup:=mw.nodup_iff.mp (by simpa using Vm)
  have hmem:∀x∈as'++bs',x<f.q-1:=λx hx=>by
   have:=mw.mem_iff.mpr hx
   simpa using this
  have hlen:(as'++bs').length=f.q-1:=by rw[<-mw.length_eq];simp
  rw[WU]at hnd;have aet:=afP hf h7 hnd.2.1 (λx hx=>hmem x (Ud _ hx)) (by rw[<-hlen];simp)
  refine⟨f.q,bs'.map λa=>sF f (1+a),c5.take c.length,⟨aet,λh=>absurd h hn6⟩,?_,?_⟩
  ·rw[hcl];exact Lp P (by rw[H5.len];omega) H5.apZ
  ·have anb:(2:Nat)<=Ω:=⋯
   have e5:aK (ck (1⊂3)) [O (.ref j),O (.int N),O (.ref m),O (.ref (m+1)),v] c5=.ok (.rt (.tup [.int N,.ref (m+1)])) c5:=by simp[anb]
   show nO 5 vf [.ref j] c=_;unfold nO;rw[es,hb,cK e0,cK e1,cK e2,cK e3,cK e4',e5,R.aF];dsimp only;unfold p9;rw[amb H5.fnd ∅,<-hN]
   unfold b9;rw[UB];rfl
theorem Tj{α:Type}(l:List α)(c:aa):gH [.lst (l.map λ_=>D.bl G)] c=.ok (.bl G) c:=by
 have:qj (l.map λ_=>D.bl G)=O (l.map λ_=>G):=by
  have:=CZ (l.map λ_=>G)
  rwa[UB]at this
 unfold gH oY;simp only[this,all_true]
theorem Net.two_at{ss:List (Nat->Nat->Nat)}(N:Net n ss)(hk:k<i)(hi:i<ss.length):kr n ss[i] (ss[k]'∅):=kr.symm (Vt.mp N.Tu k i ∅ hi hk)
def Tt:af:=(aO gH (ao (aX (eX (k9 (ak 0) ly (lq (ak 1)))) [Z,O 2] (aA 0) aP (aB 2 xr (1⊂0))) av))
def yV:ah:=(bz (dG (aN Tt)) (aK (dC (.bl ξ))) bA)
theorem ah4{n:Nat}{ss:List (Nat->Nat->Nat)}(N:Net n ss){i:Nat}(hi:i<ss.length){I:Int}(hI:I=i)(c:aa):yV [O (.lst (b9 n ss)),O (.int I),O (bE n ss[i])] c=.ok (.nx [O (.lst (b9 n ss)),O (.int I),O (bE n ss[i])]) c:=by
 have sz:=mZ;have n2:=N.two;have n7:=N.tE;have hf:=N.few;have ya:cutD (b9 n ss) Z (O I)=(ss.take i).map (bE n):=by
  rw[Su hI (by simp[b9];omega)]
  unfold b9;rw[WO]
 have hs:eX (k9 (ak 0) ly (lq (ak 1))) [O (.lst (b9 n ss)),O (.int I),O (bE n ss[i])] c=.ok ⟨(ss.take i).map (bE n),λ_=>True⟩ c:=by
  rw[<-ya];rfl
 have hc:=pL (E:=[O _]) (bE n) (λ_=>D.bl G) (ss.take i) Z [] (λs hs=>by
  obtain⟨k,hk,rfl⟩:=Vs hs;have hk':k<i:=by simp at hk;omega
  rw[XM];exact lB (m:=xr) (d1:=ak 1) (d2:=ak 0) rfl rfl (acW ∅ n7 (aia ∅ n7 (N.lat _ (U6 _)) (N.lat _ (U6 _)) (N.two_at hk' hi)) c))
 rw[UG]at hc;have ha:Tt [O (.lst (b9 n ss)),O (.int I),O (bE n ss[i])] c=.ok (.bl G) c:=by
  refine ko (x:=.lst ((ss.take i).map λ_=>D.bl G)) ?_ (Tj _ c)
  rw[gy,hs,R.aF];rw[if_pos (by simp;omega),show cX [Z,O 2] [O (.lst (b9 n ss)),O (.int I),O _]=[Z,O _]from rfl,hc,R.aF]
 unfold yV;rw[kC,KG,zx,ha];rfl
theorem ahK{ss:List (Nat->Nat->Nat)}(N:Net n ss)(c:aa):xH [.lst (b9 n ss)] c=.ok (.bl G) c:=by
 have hb:DO=aC (bY (yt ⇑0) _ yV) (aK (dC (.bl G))):=rfl;obtain⟨e',c',⟨hc,w1,w2,rfl⟩,hf⟩:=HB (g:=dU 2 (bR (aA 1) (bR (aA 2) eT))) (s:=yV) (λe c'=>c'=c/\∃w1 w2,e=[O (.lst (b9 n ss)),w1,w2]) ((b9 n ss).mapIdx λi x=>.tup [.int i,x]) [O (.lst (b9 n ss)),Z,Z] c ⟨rfl,_,_,rfl⟩ (λx hx e c' ⟨hc,w1,w2,he⟩=>by
  subst he hc;obtain⟨i,hi,rfl⟩:=X7.mp hx;have hi':i<ss.length:=by simpa[b9]using hi
  have hg:(b9 n ss)[i]=bE n ss[i]:=by simp[b9]
  refine⟨[O (.lst (b9 n ss)),O _,O _],[O _,O _,O _],c',c',?_,ah4 N hi' rfl c',rfl,_,_,rfl⟩;rw[hg];rfl)
 subst hc;refine jR (n:=3) ?_ rfl (λk h=>by cases h)
 have hs:yt ⇑0 [O (.lst (b9 n ss)),Z,Z] c'=.ok ⟨(b9 n ss).mapIdx λi x=>.tup [.int i,x],λ_=>True⟩ c':=rfl
 have e1:bY (yt ⇑0) (dU 2 (bR (aA 1) (bR (aA 2) eT))) yV [O (.lst (b9 n ss)),Z,Z] c'=.ok (.nx [O (.lst (b9 n ss)),w1,w2]) c':=by
  rw[jl,hs,R.aF];exact hf
 rw[hb,show cW 3 [D.lst (b9 n ss)]=[O _,Z,Z]from rfl,cK e1]
 rfl
def Be:ai:=(fy (dG (aN (aB 3 dP (ao (ak 0) (ao (dC (.int 2)) (ao (dC (.int 7)) av)))))) (fy (dG (aN (aO cM (ao (ak 1) (ao (dC (.ty "list")) av))))) (aN (au jf (aO bD ⇑1) (au bO (ak 0) (dC (.int 1)))))))
def QC:af:=(aO gH (ao (aX (eX (ak 1)) [Z,O 0] (aA 0) aP (gG (aB 1 rE ⇑0) (au cB (aO bD ⇑0) (ak 1)))) av))
theorem akW(h2:2<=N)(h7:N<=7)(c:aa):dP [.int N,.int 2,.int 7] c=.ok (.bl G) c:=by
 simp[dP,mJ,j3,nW,h2,h7]
theorem acZ(n:Nat)(ss:List (Nat->Nat->Nat))(c:aa):bD [.lst (b9 n ss)] c=.ok (.int (ss.length:Int)) c:=by
 simp[fU,b9]
theorem adE{n:Nat}{ss:List (Nat->Nat->Nat)}(H:Net n ss){N:Int}(hN:N=n)(c:aa):GG [.int N,.lst (b9 n ss)] c=.ok (.bl G) c:=by
 have sz:=mZ;have n2:=H.two;have n7:=H.tE;have hf:=H.few;have hw:=akW (N:=N) ∅ ∅ c
 have hl:=acZ n ss c;have hgt:¬N-1<(ss.length:Int):=∅
 have hnl:(b9 n ss).length=ss.length:=by simp[b9]
 have e0:Be [O (.int N),O (.lst (b9 n ss))] c=.ok ξ c:=by
  simp[Be,hw,hl,hgt];omega
 have ha:QC [O (.int N),O (.lst (b9 n ss))] c=.ok (.bl G) c:=by
  refine ko (x:=.lst (ss.map λ_=>D.bl G)) ?_ (Tj _ c)
  have hc:=pL (E:=[O (.int N)]) (a:=gG (aB 1 rE ⇑0) (au cB (aO bD ⇑0) (ak 1))) (c:=c) (bE n) (λ_=>D.bl G) ss Z [] (λs hs=>by
   have h1:=amx (H.lat s hs) ∅ n7 c
   have h2:=A3 n s c;rw[<-hN]at h2;simp[h1,h2])
  rw[UG]at hc;have hs:eX (ak 1) [O (.int N),O (.lst (b9 n ss))] c=.ok ⟨ss.map (bE n),λ_=>True⟩ c:=rfl
  rw[gy,hs,R.aF];dsimp only;rw[if_pos (by simp;omega),show cX [Z,O 0] [O (.int N),O (.lst (b9 n ss))]=[Z,O (.int N)]from rfl,hc,R.aF]
 have hr:=ahK H c;have hb:yN=aC (bz Be (aK (dC (.bl ξ))) bA) (aK (gG QC (aB 1 xH ⇑1))):=rfl;have e1:bz Be (aK (dC (.bl ξ))) bA [O (.int N),O (.lst (b9 n ss))] c=.ok (.nx [O (.int N),O (.lst (b9 n ss))]) c:=by
  rw[kC,e0];rfl
 refine jR (n:=2) (b:=yN) ?_ rfl (λk h=>by cases h)
 rw[hb,show cW 2 [D.int N,.lst (b9 n ss)]=[O (.int N),O (.lst (b9 n ss))]from rfl,cK e1]
 refine jr ?_;rw[KP,ha,R.aF];dsimp only;rw[if_pos rfl];exact iH (m:=xH) (d1:=ak 1) rfl hr
theorem aoZ{n:Nat}{ss:List (Nat->Nat->Nat)}(H:Net n ss){N:Int}(hN:N=n)(c:aa):uh [.int N,.lst (b9 n ss)] c=.ok .aJ c:=by
 simp[uh,Dg,adE H hN c]
def bG(rows:List (List Nat)):D:=.tup (rows.map λr=>.tup (nD r))
theorem lH(rows:List (List Nat)):noRef (bG rows)=G:=by
 refine iU.mpr λd hd=>?_
 obtain⟨r,_,rfl⟩:=H8.mp hd;exact qV r
theorem Ny(n:Nat):aY 0 (n:Int)=nD (θ n):=by
 apply Yu;intro i
 by_cases h:i<n
 ·have h1:i<(aY 0 n).length:=by rw[eY];omega
  have:=tF (I8 h1);rw[I8 h1,this.2];simp[nD,h]
 ·rw[VR (by rw[eY];omega),VR (by simp;omega)]
theorem uQ{α:Type}(g F:α->D)(b:α->Bool):∀(l:List α) (v:Option D) (acc:List D),(∀x∈l,t (O (g x)::E) c=.ok (b x) c)->(∀x∈l,b x=G->a (O (g x)::E) c=.ok (F x) c)->bT (λ_=>True) (aA 0) t a (l.map g) (v::E) acc c=.ok (acc++(l.filter b).map F) c
 |[],v,acc,_,_=>by simp
 |x::l,v,acc,h1,h2=>by
  have e1:aA 0 _ (v::E) c=.ok (O (g x)::E) c:=rfl;rw[T8,lA,e1,R.aF,h1 x (.head _),R.aF];cases hb:b x with
  |true =>
   rw[if_pos rfl,h2 x (.head _) hb,R.aF,uQ g F b l _ _ (λz hz=>h1 z (.tail _ hz)) (λz hz=>h2 z (.tail _ hz)),List.filter_cons_of_pos hb,UY]
   rfl
  |false =>
   rw[if_neg ⋯,uQ g F b l _ _ (λz hz=>h1 z (.tail _ hz)) (λz hz=>h2 z (.tail _ hz)),List.filter_cons_of_neg (by simp[hb])]
def qK:ai:=(jh (aN (au cS (ak 0) (ak 1))) (aN (r9 2 2 lams (1⊂0))))
def dI(n:Nat)(f:Nat->Nat->Bool)(i:Nat):List Nat:=(θ n).filter λj=>decide (j≠i)&&f i j
def bw(n:Nat)(f:Nat->Nat->Bool):List (List Nat):=(θ n).map (dI n f)
section
variable {k n:Nat}{E:ν}{ns:List Str}{l:List D}{m:List D->aa->R D}{c:aa}{f:Nat->Nat->Bool}
theorem anu{one:Nat}(hk:lams[k]? = O (E,ns,m))(hl:eV l=G)(hm:j≠one->m ([.int one,.int j]++l) c=.ok (.bl (f one j)) c):
  qK [O (.int j),O (.int one),O (.lam k E ns l)] c=.ok (decide (j≠one)&&f one j) c:=by
 unfold qK
 by_cases h:j=one
 ·subst h;simp
 ·have h':¬((j:Int)=one):=∅
  have hc:r9 2 2 lams (1⊂0) [O (.int j),O (.int one),O (.lam k E ns l)] c=.ok (.bl (f one j)) c:=by
   rw[adx 2 2 lams _ _ c (l:=l) rfl hk];simp only[b7,cg,gz,gs,cj,R.aF];rw[if_pos ⟨rfl,rfl,hl⟩];exact hm h
  simp[h,h',hc]
theorem anp{one:D}(bq:-4611686018427387904<=q/\q<4611686018427387904)(hlen:(aY 0 q).length<Ω)(hc:bT (λ_=>True) (aA 0) qK (ak 0) (aY 0 q) [Z,O one,O L] [] c=.ok r c)(nr:noRef (.tup r)=G):jZ [.int q,one,L] c=.ok (.tup r) c:=by
 have hb:C9=aK (aO dj (ao (aX (bH ⇑0) [Z,O 1,O 2] (aA 0) qK (ak 0)) av)):=rfl;rw[jZ,fF,hb];have es:cW 3 [D.int q,one,L]=[O (.int q),O one,O L]:=rfl;rw[es];simp only[i9,gM,b7,gy,mT,cg,gz,gs,cj,R.aF];rw[if_pos ∅]
 simp only[R.aF];rw[if_pos hlen];have ep:cX [Z,O 1,O 2] [O (D.int q),O one,O L]=[Z,O one,O L]:=rfl;rw[ep,hc];simp only[R.aF];show cU ξ c.length (.tup r) c=_;unfold cU;dsimp only;rw[if_pos nr,Us]
theorem akT(bq:-4611686018427387904<=q/\q<4611686018427387904)(hlen:(aY 0 q).length<Ω)(hc:bT (λ_=>True) (aA 0) aP (aB 3 jZ (ao (ak 1) (0⊂2))) (aY 0 q) [Z,O (.int q),O L] [] c=.ok r c)(nr:noRef (.tup r)=G):jc [.int q,L] c=.ok (.tup r) c:=by
 have hb:C3=aK (aO dj (ao _ av)):=rfl;rw[jc,fF,hb];simp;rw[if_pos ∅]
 simp;rw[if_pos hlen];have ep:cX [Z,O 0,O 1] [O (D.int q),O L]=[Z,O _,O L]:=rfl;rw[ep,hc];show cU ξ c.length (.tup r) c=_;unfold cU;dsimp only;rw[if_pos nr,Us]
theorem ab8(h:bW l=G):noRef (.tup l)=G:=by unfold noRef;exact h
theorem PY(hn:n<1000):(aY 0 (n:Int)).length<Ω:=by
 have hs:=dS (n:=1000) ⋯
 rw[eY];omega
theorem Nt(hn:n<1000):-4611686018427387904<=(n:Int)/\(n:Int)<4611686018427387904:=∅
theorem anm{one:Nat}{r:List Nat}(hc:bT (λ_=>True) (aA 0) qK (ak 0) ((θ n).map λj:Nat=>D.int (j:Int)) [Z,O (.int one),O L] [] c=.ok (r.map λj:Nat=>D.int (j:Int)) c):bT (λ_=>True) (aA 0) qK (ak 0) (aY 0 (n:Int)) [Z,O (.int one),O L] [] c=.ok (nD r) c:=by rw[Ny];exact hc
theorem ano{one:Nat}{r:List Nat}(hn:n<1000)(hc:bT (λ_=>True) (aA 0) qK (ak 0) ((θ n).map λj:Nat=>D.int (j:Int)) [Z,O (.int one),O L] [] c=.ok (r.map λj:Nat=>D.int (j:Int)) c):
  jZ [.int n,.int one,L] c=.ok (.tup (nD r)) c:=anp (Nt hn) (PY hn) (anm hc) (ab8 (qV _))
theorem ans{one:Nat}(hk:lams[k]? = O (E,ns,m))(hl:eV l=G)(hn:n<1000)(hm:∀j,j<n->j≠one->m ([.int one,.int j]++l) c=.ok (.bl (f one j)) c) :
  jZ [.int n,.int one,.lam k E ns l] c=.ok (.tup (nD (dI n f one))) c:=by
 exact ano hn (uQ _ _ _ _ Z [] (λj hj=>anu hk hl (hm j (gq.mp hj))) (λj _ _=>rfl))
theorem ahq{m:List D->aa->R D}(h:m [x,y,z] c=r):(if[x,y,z].length=3 then m [x,y,z] c else .bad)=r:=by
 rw[if_pos (by rfl)];exact h
theorem akZ{w:List (List Nat)}(hn:n<1000)(hc:bT (λ_=>True) (aA 0) aP (aB 3 jZ (ao (ak 1) (0⊂2))) (aY 0 (n:Int)) [Z,O (.int n),O L] [] c=.ok (w.map λr=>.tup (nD r)) c):jc [.int n,L] c=.ok (bG w) c:=akT (Nt hn) (PY hn) hc (lH _)
theorem ahg{m:List D->aa->R D}(h:m [y,x,z] c=r):aB 3 m (ao (ak 1) (0⊂2)) [O x,O y,O z] c=r:=by
 exact ahq h
theorem ab5(h:jZ [.int n,.int i,L] c=.ok (.tup (nD r)) c):aB 3 jZ (ao (ak 1) (0⊂2)) [O (.int i),O (.int n),O L] c=.ok (.tup (nD r)) c:=ahg h
theorem akY{g:Nat->List Nat}(h:∀i,i<n->jZ [.int n,.int i,L] c=.ok (.tup (nD (g i))) c):bT (λ_=>True) (aA 0) aP (aB 3 jZ (ao (ak 1) (0⊂2))) (aY 0 (n:Int)) [Z,O (.int n),O L] [] c=.ok (((θ n).map g).map λr=>.tup (nD r)) c:=by
 have hc:=uQ (t:=aP) _ _ _ _ Z [] (λj hj=>rfl) (λi hi _=>ab5 (h i (gq.mp hi)))
 have ft:(θ n).filter (λ_=>G)=θ n:=by simp
 rw[UG,ft]at hc
 rwa[UB,Ny]
theorem zB(hk:lams[k]? = O (E,ns,m))(hl:eV l=G)(hn:n<1000)(hm:∀i j,i<n->j<n->j≠i->m ([.int i,.int j]++l) c=.ok (.bl (f i j)) c) :
  jc [.int n,.lam k E ns l] c=.ok (bG (bw n f)) c:=akZ hn (akY λi hi=>ans hk hl hn λj hj hne=>hm i j hi hj hne)
end
theorem CY{m:List D->aa->R D}{ns:List Str}(h1:d1 e c=.ok x c)(hg:getAll e js=O l)(h2:m [x,.lam kk E ns l] c=.ok v c)(hv:noRef v=G):nS kk m d1 E ns js e c=.ok v c:=by
 unfold nS;rw[h1];simp;rw[hg];dsimp only;rw[h2];simp only[R.aF];rw[if_pos hv]
theorem N7{α:Type}(g h F:α->D):∀(l:List α) (v w:Option D) (acc:List D),(∀x∈l,a [O (g x),O (h x)] c=.ok (F x) c)->bT (λ_=>True) (dU 2 (bR (aA 0) (bR (aA 1) eT))) aP a (l.map λx=>.tup [g x,h x]) [v,w] acc c=.ok (acc++l.map F) c
 |[],v,w,acc,_=>by simp
 |x::l,v,w,acc,H=>by
  have h1:dU 2 (bR (aA 0) (bR (aA 1) eT)) (.tup [g x,h x]) [v,w] c=.ok [O (g x),O (h x)] c:=rfl;rw[T8,lA,h1,R.aF,oj,R.aF,if_pos rfl,H x (.head _),R.aF,N7 g h F l _ _ _ (λz hz=>H z (.tail _ hz)),UY]
  rfl
theorem ahO(l:List Bool)(c:aa):ql [.lst (l.map D.bl)] c=.ok (.bl (l.any id)) c:=by
 unfold ql oY;dsimp only;rw[CZ]
def qm(p q:List Nat):Bool:=(p.zip q).any λa=>decide (a.1=a.2)
theorem Ky:∀(p q:List Nat),List.zipWith (λx y=>D.tup [x,y]) (nD p) (nD q)=(p.zip q).map λa=>D.tup [.int (a.1:Nat),.int (a.2:Nat)]
 |[],q=>by simp[nD]
 |a::p,[]=>by simp[nD]
 |a::p,b::q=>by
  have:=Ky p q;unfold nD at this ⊢;simp only[T8,XJ,Vo]at this ⊢;rw[this]
theorem ah3(p q:List Nat)(c:aa):bT (λ_=>True) (dU 2 (bR (aA 0) (bR (aA 1) eT))) aP (au cB (ak 0) (ak 1)) (List.zipWith (λx y=>D.tup [x,y]) (nD p) (nD q)) [Z,Z] [] c=.ok (((p.zip q).map λa=>decide ((a.1:Int)=(a.2:Int))).map D.bl) c:=by
 have:=N7 (a:=(au cB (ak 0) (ak 1))) (c:=c) (λa:Nat×Nat=>D.int (a.1:Nat)) (λa=>.int (a.2:Nat)) (λa=>.bl (decide ((a.1:Int)=(a.2:Int)))) (p.zip q) Z Z [] (λa _=>by
  generalize ((a.1:Nat):Int)=x
  generalize ((a.2:Nat):Int)=y
  simp)
 rw[UG,<-Ky]at this;rw[this,UB];rfl
def iG(n:Nat)(ss:List (Nat->Nat->Nat))(i:Nat):List Nat:=[i/n,i % n]++ss.map λs=>s (i/n) (i % n)
theorem GL(n:Nat)(ss:List (Nat->Nat->Nat))(i:Nat):(iG n ss i).length=ss.length+2:=by simp[iG]
theorem acp(l:List Nat):bW (nD l)=G:=iU.mpr λd hd=>by
 obtain⟨k,_,rfl⟩:=H8.mp hd;rfl
theorem acV{n:Nat}{ss:List (Nat->Nat->Nat)}(H:Net n ss){i:Nat}(hi:i<n*n){N I:Int}(hN:N=n)(hI:I=i)(c:aa):xq [.int N,.lst (b9 n ss),.int I] c=.ok (.lst (nD (iG n ss i))) c:=by
 have sz:=mZ;have n2:=H.two;have n7:=H.tE;have hf:=H.few;refine jR (n:=3) (b:=yG) ?_ (by unfold noRef;exact acp _) (λk h=>by cases h)
 unfold yG;refine jr ?_;have x9:fu (.int I) (.int N) c=.ok (.int (((i/n:Nat)):Int)) c:=by
  rw[i6 c ∅ ∅,hI,hN]
  rfl
 have hmd:bZ (.int I) (.int N) c=.ok (.int (((i % n:Nat)):Int)) c:=by
  rw[gT c ∅,hI,hN]
  rfl
 have h1:cE (ao (au fu (ak 2) (ak 0)) (ao (au bZ (ak 2) (ak 0)) av)) [O (.int N),O (.lst (b9 n ss)),O (.int I)] c=.ok (.lst [.int (((i/n:Nat)):Int),.int (((i % n:Nat)):Int)]) c:=by
  simp[x9,hmd,∅]
 have hc:=pL (E:=[O (.int I)]) (a:=aB 2 iF (0⊂1)) (c:=c) (bE n) _ ss Z [] (λs hs=>lB (m:=iF) (d1:=ak 0) (d2:=ak 1) rfl rfl (E8 s ∅ n7 hi hI c))
 rw[UG]at hc;have h2:aX (eX (ak 1)) [Z,O 2] (aA 0) aP (aB 2 iF (0⊂1)) [O (.int N),O (.lst (b9 n ss)),O (.int I)] c=.ok (.lst (ss.map λs=>D.int (s (i/n) (i % n):Nat))) c:=by
  have hs:eX (ak 1) [O (.int N),O (.lst (b9 n ss)),O (.int I)] c=.ok ⟨ss.map (bE n),λ_=>True⟩ c:=rfl
  rw[gy,hs,R.aF];dsimp only;rw[if_pos (by simp;omega),show cX [Z,O 2] [O (.int N),O _,O (.int I)]=[Z,O (.int I)]from rfl,hc,R.aF]
 refine cN (f:=fY) h1 h2 ?_;unfold fY;dsimp only[eZ];rw[if_pos (by simp;omega)]
 simp[iG,nD]
theorem ah2{p:List Nat}(hp:p.length<1000)(c:aa):AZ [.lst (nD p),.lst (nD q)] c=.ok (.bl (qm p q)) c:=by
 have sz:=mZ;refine jR (n:=2) (b:=yR) ?_ rfl (λk h=>by cases h)
 unfold yR;rw[show cW 2 [D.lst (nD p),.lst (nD q)]=[O (.lst (nD p)),O (.lst (nD q))]from rfl]
 refine jr ?_;have hd:ki (0⊂1) [O (.lst (nD p)),O (.lst (nD q))] c=.ok ⟨List.zipWith (λx y=>D.tup [x,y]) (nD p) (nD q),λ_=>True⟩ c:=by
  have:ki (0⊂1) [O (.lst (nD p)),O (.lst (nD q))] c=.ok ⟨List.zipWith (λx y=>D.tup [x,y]) (nD p) (nD q),λc'=>jo c (.lst (nD p)) c'/\jo c (.lst (nD q)) c'⟩ c:=rfl
  rw[this];have h:(λc'=>jo c (.lst (nD p)) c'/\jo c (.lst (nD q)) c')=λ_=>True:=by
   funext c'
   simp[jo]
  rw[h]
 simp only[gM,b7,gy,hd,cj,R.aF];rw[if_pos (by simp[nD];omega),show cX [Z,Z] [O (D.lst (nD p)),O (.lst (nD q))]=[Z,Z]from rfl,ah3]
 simp only[R.aF,ahO];unfold qm;rw[Xj]
 congr 3
 funext a
 simp;omega
def dF(n:Nat)(ss:List (Nat->Nat->Nat)):Nat->Nat->Bool:=λi j=>qm (iG n ss i) (iG n ss j)
theorem acm{n:Nat}{ss:List (Nat->Nat->Nat)}(H:Net n ss){N:Int}(hN:N=n)(c:aa):AS [.int N,.lst (b9 n ss)] c=.ok (bG (bw (n*n) (dF n ss))) c:=by
 have n2:=H.two;have n7:=H.tE;have hf:=H.few;have nn:n*n<100:=VH (X8 n7 n7) ⋯
 obtain⟨Q,hQ⟩:∃Q:Int,Q=((n*n:Nat):Int):=⟨_,rfl⟩;have hmul:aT (.int N) (.int N) c=.ok (.int Q) c:=Pw ∅ ∅ (by rw[hQ,hN];push_cast;rfl) c
 have e0:dw (aB 2 uh (0⊂1)) [O (.int N),O (.lst (b9 n ss)),Z] c=.ok (.nx [O (.int N),O (.lst (b9 n ss)),Z]) c:=by
  rw[kD,lB (m:=uh) (d1:=ak 0) (d2:=ak 1) rfl rfl (aoZ H hN c)];rfl
 have e1:aG 2 (aX (bH (ao (au aT (ak 0) (ak 0)) av)) [Z,O 0,O 1] (aA 0) aP (aB 3 xq (ao (ak 1) (2⊂0)))) [O (.int N),O (.lst (b9 n ss)),Z] c=.ok (.nx [O (.int N),O (.lst (b9 n ss)),O (.lst ((θ (n*n)).map λi=>D.lst (nD (iG n ss i))))]) c :=
  kH (i:=2) (xO (N:=Q) (n:=n*n) (E:=[O (.int N),O (.lst (b9 n ss))]) (λi=>D.lst (nD (iG n ss i))) (cN (f:=aT) (d1:=ak 0) (d2:=ak 0) rfl rfl hmul) hQ ∅ rfl λi hi=>yz (m:=xq) (d1:=ak 1) (d2:=ak 2) (d3:=ak 0) rfl rfl rfl (acV H hi hN rfl c))
 have hnl:eV [D.lst ((θ (n*n)).map λi=>D.lst (nD (iG n ss i)))]=G:=by
  have a:∀l:List Nat,eV (l.map λi=>D.lst (nD (iG n ss i)))=G:=λl=>by
   induction l with
   |nil=>rfl
   |cons x l ih =>
    have b:∀r:List Nat,eV (nD r)=G:=λr=>by
     induction r with
     |nil=>rfl
     |cons y r ih=>simpa[eV,ff]using ih
    simp only[T8,eV,ff,b,ih,Xu]
  simp only[eV,ff,a,Xu]
 have hw:=zB (k:=2) (n:=n*n) (E:=Eb) (ns:=["lines"]) (l:=[D.lst ((θ (n*n)).map λi=>D.lst (nD (iG n ss i)))]) (m:=jz rM) (c:=c) (f:=dF n ss) rfl hnl ∅ (λi j hi hj _=>by
  unfold jz rM;have r:∀k,k<n*n->((θ (n*n)).map λi=>D.lst (nD (iG n ss i)))[k]? = O (.lst (nD (iG n ss k))):=λk hk=>by rw[U7,VC hk];rfl
  exact lB (m:=AZ) (cN (f:=aD) (d1:=ak 2) (d2:=ak 0) rfl rfl (xS rfl (r i hi) c)) (cN (f:=aD) (d1:=ak 2) (d2:=ak 1) rfl rfl (xS rfl (r j hj) c)) (ah2 (by rw[GL];omega) c))
 rw[<-hQ]at hw;refine jR (n:=3) (b:=yF) ?_ (lH _) (λk h=>by cases h)
 unfold yF;rw[show cW 3 [D.int N,.lst (b9 n ss)]=[O (.int N),O (.lst (b9 n ss)),Z]from rfl,cK e0,cK e1]
 exact jr (CY (cN (f:=aT) (d1:=ak 0) (d2:=ak 0) rfl rfl hmul) rfl hw (lH _))
def sm:Nat->(Nat->Nat)->Nat
 |0,_=>0
 |n+1,f=>sm n f+f n
theorem fH{f g:Nat->Nat}:∀{n:Nat},(∀i,i<n->f i=g i)->sm n f=sm n g
 |0,_=>rfl
 |n+1,h=>by rw[sm,sm,fH (n:=n) λi hi=>h i ∅,h n ∅]
theorem oO(f g:Nat->Nat):∀n:Nat,sm n (λi=>f i+g i)=sm n f+sm n g
 |0=>rfl
 |n+1=>by rw[sm,sm,sm,oO f g n];omega
theorem mY(a:Nat):∀n:Nat,sm n (λ_=>a)=n*a
 |0=>by simp[sm]
 |n+1=>by rw[sm,mY a n,Uv]
theorem wc(f:Nat->Nat->Nat)(n:Nat):∀m:Nat,sm m (λi=>sm n (f i))=sm n (λk=>sm m (λi=>f i k))
 |0=>by simp only[sm];rw[mY];rfl
 |m+1=>by rw[sm,wc f n m,<-oO];rfl
theorem kG(a b:Nat):∀{n t:Nat},t<n->sm n (λi=>if i=t then a else b)=a+(n-1)*b
 |0,t,h=>∅
 |n+1,t,h=>by
  rw[sm]
  by_cases e:t=n
  ·subst e;rw[fH λi hi=>if_neg ∅,mY,if_pos rfl]
   simp[Wt]
  ·have hn:t<n:=∅
   rw[kG a b hn,if_neg ∅]
   obtain⟨k,rfl⟩:∃k,n=k+1:=⟨n-1,∅⟩
   simp[Nat.add_assoc,Uv]
theorem al8(ht:t<n)(hu:u<n)(h:t≠u):sm n (λi=>if i=t then 0 else if i=u then 0 else 1)=n-2:=by
 have h1:sm n (λi=>(if i=t then 0 else if i=u then 0 else 1)+(if i=u then 1 else 0))=n-1:=by
  rw[fH,kG 0 1 ht]
  ·omega
  ·intro i _
   by_cases a:i=t
   ·have:i≠u:=∅
    simp[a,h]
   ·by_cases b:i=u<;>simp[a,b]
    exact λe=>h e.symm
 rw[oO,kG 1 0 hu]at h1;omega
theorem oN(p:Nat->Bool):∀n:Nat,((θ n).filter p).length=sm n (λi=>(p i).toNat)
 |0=>rfl
 |n+1=>by
  rw[VQ,List.filter_append,UR,oN p n,sm];cases h:p n<;>simp[h]
structure OA (n g:Nat) (l:Nat->Nat->Nat):Prop where
 lt:∀t i,t<g->i<n*n->l t i<n
 inj:∀t u i j,t<g->u<g->t≠u->i<n*n->j<n*n->l t i=l t j->l u i=l u j->i=j
theorem OA.one{l:Nat->Nat->Nat}(h:OA n g l)(ht:t<g)(hu:u<g)(ne:t≠u)(ha:a<n)(hb:b<n):∃i,i<n*n/\l t i=a/\l u i=b:=by
 have PF:∀x y,x<n->y<n->n*x+y<n*n:=λx y hx hy=>by
  have:n*(x+1)<=n*n:=Nat.mul_le_mul_left n ∅
  rw[Yd,X0]at this;omega
 have cut:∀x y x' y',y<n->y'<n->n*x+y=n*x'+y'->x=x'/\y=y':=λx y x' y' hy hy' e=>by
  have h0:0<n:=∅
  have e1:(n*x+y)/n=x:=by rw[Yg h0,Ye hy];rfl
  have e2:(n*x'+y')/n=x':=by rw[Yg h0,Ye hy'];rfl
  have:x=x':=by rw[<-e1,<-e2,e]
  subst this;exact⟨rfl,∅⟩
 have hp:((θ (n*n)).map λi=>n*l t i+l u i).Perm (θ (n*n)):=by
  apply tR
  ·apply O2;intro i j hi hj e;have:=cut _ _ _ _ (h.lt u i hu hi) (h.lt u j hu hj) e;exact h.inj t u i j ht hu ne hi hj this.1 this.2
  ·intro x hx;obtain⟨i,hi,rfl⟩:=H8.mp hx;have hi:=gq.mp hi;exact gq.mpr (PF _ _ (h.lt t i ht hi) (h.lt u i hu hi))
  ·simp
 obtain⟨i,hi,e⟩:=H8.mp (hp.mem_iff.mpr (gq.mpr (PF _ _ ha hb)));have hi:=gq.mp hi;have:=cut _ _ _ _ (h.lt u i hu hi) hb e;exact⟨i,hi,this.1,this.2⟩
theorem toNat_and(a b:Bool):(a&&b).toNat=a.toNat*b.toNat:=by cases a<;>cases b<;>rfl
theorem we(hi:i<N){p:Nat->Bool}(h:∀k,k<N->(p k=G↔k=i)):sm N (λk=>(p k).toNat)=1:=by
 rw[fH (g:=λk=>if k=i then 1 else 0),kG 1 0 hi,Nat.mul_zero]
 intro k hk
 by_cases e:k=i
 ·rw[if_pos e,(h k hk).mpr e];rfl
 ·rw[if_neg e];cases q:p k with
  |true=>exact absurd ((h k hk).mp q) e
  |false=>rfl
theorem tw{p:Nat->Bool}(h:∀k,k<N->p k=ξ):sm N (λk=>(p k).toNat)=0:=by
 rw[fH (g:=λ_=>0) λk hk=>by rw[h k hk];rfl,mY,Nat.mul_zero]
theorem OA.line{l:Nat->Nat->Nat}(h:OA n g l)(g2:2<=g)(ht:t<g)(ha:a<n):sm (n*n) (λi=>(decide (l t i=a)).toNat)=n:=by
 obtain⟨u,hu,ne⟩:∃u,u<g/\t≠u:=by
  by_cases e:t=0
  ·exact⟨1,∅,∅⟩
  ·exact⟨0,∅,∅⟩
 have e1:sm (n*n) (λi=>(decide (l t i=a)).toNat)=sm (n*n) (λi=>sm n (λb=>(decide (l t i=a/\l u i=b)).toNat)):=fH λi hi=>by
  by_cases q:l t i=a
  ·rw[we (h.lt u i hu hi) (p:=λb=>decide (l t i=a/\l u i=b))]
   ·simp[q]
   ·intro k _;simp[q];exact⟨λe=>e.symm,λe=>e.symm⟩
  ·rw[tw (p:=λb=>decide (l t i=a/\l u i=b))]
   ·simp[q]
   ·intro k _;simp[q]
 rw[e1,wc,fH (g:=λ_=>1),mY,X0]
 intro b hb;obtain⟨i,hi,x,y⟩:=h.one ht hu ne ha hb;refine we hi λk hk=>?_
 simp only[decide_eq_true_iff];exact⟨λq=>h.inj t u k i ht hu ne hk hi (by rw[q.1,x]) (by rw[q.2,y]),λe=>by subst e;exact⟨x,y⟩⟩
def iT(g:Nat)(l:Nat->Nat->Nat)(i j:Nat):Bool:=decide (j≠i)&&(θ g).any λt=>decide (l t i=l t j)
theorem OA.ET{l:Nat->Nat->Nat}(h:OA n g l)(hi:i<n*n)(hj:j<n*n):(iT g l i j).toNat=sm g (λt=>(decide (j≠i)&&decide (l t i=l t j)).toNat):=by
 unfold iT
 by_cases e:j=i
 ·rw[tw]
  ·simp[e]
  ·intro k _;simp[e]
 ·cases q:(θ g).any λt=>decide (l t i=l t j)with
  |true =>
   obtain⟨t,ht,q⟩:=Vh.mp q;have ht:=gq.mp ht;have q:=of_decide_eq_true q;rw[we ht]
   ·simp[e]
   ·intro k hk;simp[e];refine⟨λx=>Vr λne=>e (h.inj t k i j ht hk (λy=>ne y.symm) hi hj q x).symm,λy=>by subst y;exact q⟩
  |false =>
   rw[tw]
   ·simp
   ·intro k hk;have:=Z8.mp q k (gq.mpr hk);simp at this;simp[this]
theorem OA.degree{l:Nat->Nat->Nat}(h:OA n g l)(g2:2<=g)(hi:i<n*n):sm (n*n) (λj=>(iT g l i j).toNat)=g*(n-1):=by
 rw[fH λj hj=>h.ET hi hj,wc,fH (g:=λ_=>n-1),mY]
 intro t ht;have e:=h.line g2 ht (h.lt t i ht hi);have e2:sm (n*n) (λj=>(decide (l t j=l t i)).toNat)=sm (n*n) (λj=>(decide (j≠i)&&decide (l t i=l t j)).toNat+(if j=i then 1 else 0)):=fH λj _=>by
  by_cases a:j=i
  ·simp[a]
  ·have:(l t j=l t i)↔(l t i=l t j):=⟨λx=>x.symm,λx=>x.symm⟩
   simp[a,this]
 rw[e2,oO,kG 1 0 hi]at e;omega
theorem E5(f:Nat->Nat)(a:Nat):∀n:Nat,sm n f*a=sm n λi=>f i*a
 |0=>by simp[sm]
 |n+1=>by rw[sm,sm,Yc,E5 f a n]
theorem ad5(f g:Nat->Nat)(m n:Nat):sm m f*sm n g=sm m λi=>sm n λk=>f i*g k:=by
 rw[E5];refine fH λi _=>?_
 rw[Ws,E5];exact fH λk _=>Ws _ _
def t6(n:Nat)(l:Nat->Nat->Nat)(i j t u:Nat):Nat:=sm (n*n) λe=>(decide (e≠i)&&decide (l t i=l t e)).toNat*(decide (e≠j)&&decide (l u j=l u e)).toNat
theorem OA.SI{l:Nat->Nat->Nat}(h:OA n g l)(hi:i<n*n)(hj:j<n*n):sm (n*n) (λe=>(iT g l i e&&iT g l j e).toNat)=sm g λt=>sm g λu=>t6 n l i j t u:=by
 have e1:sm _ (λe=>(iT g l i e&&iT g l j e).toNat)=sm (n*n) _:=fH λe he=>by
  rw[toNat_and,h.ET hi he,h.ET hj he,ad5]
 rw[e1,wc];refine fH λt _=>?_
 rw[wc];rfl
theorem AA{l:Nat->Nat->Nat}:t6 n l i j t u=sm (n*n) λe=>(decide (e≠i/\e≠j/\l t e=l t i/\l u e=l u j)).toNat:=fH λe _=>by
 rw[<-toNat_and]
 congr 1
 rw[V6];simp
 constructor
 ·rintro ⟨⟨a,b⟩,c,d⟩;exact⟨a,c,b.symm,d.symm⟩
 ·rintro ⟨a,c,b,d⟩;exact⟨⟨a,b.symm⟩,c,d.symm⟩
theorem OA.KH{l:Nat->Nat->Nat}(h:OA n g l)(hi:i<n*n)(hj:j<n*n)(ht:t<g)(hu:u<g)(ne:t≠u)(a:l t i≠l t j)(b:l u i≠l u j):t6 n l i j t u=1:=by
 rw[AA];obtain⟨e,he,x,y⟩:=h.one ht hu ne (h.lt t i ht hi) (h.lt u j hu hj);refine we he λk hk=>?_
 simp;refine⟨λq=>h.inj t u k e ht hu ne hk he (by rw[q.2.2.1,x]) (by rw[q.2.2.2,y]),λq=>?_⟩
 subst q;exact⟨λq=>by subst q;exact b y,λq=>by subst q;exact a x.symm,x,y⟩
theorem OA.KC{l:Nat->Nat->Nat}(h:OA n g l)(hi:i<n*n)(hj:j<n*n)(ht:t<g)(hu:u<g)(ne:t≠u)(a:l t i=l t j\/l u i=l u j):t6 n l i j t u=0:=by
 rw[AA];refine tw λk hk=>?_
 simp only[decide_eq_false_iff_not]
 rintro ⟨k1,k2,x,y⟩
 rcases a with a|a
 ·exact k2 (h.inj t u k j ht hu ne hk hj (by rw[x,a]) y)
 ·exact k1 (h.inj t u k i ht hu ne hk hi x (by rw[y,a]))
theorem OO{l:Nat->Nat->Nat}(a:l t i≠l t j):t6 n l i j t t=0:=by
 rw[AA];refine tw λk hk=>?_
 simp only[decide_eq_false_iff_not]
 rintro ⟨_,_,x,y⟩
 exact a (by rw[<-x,y])
theorem OA.alp{l:Nat->Nat->Nat}(h:OA n g l)(g2:2<=g)(hi:i<n*n)(hj:j<n*n)(ne:i≠j)(ht:t<g)(a:l t i=l t j):t6 n l i j t t=n-2:=by
 rw[AA];have e:=h.line g2 ht (h.lt t i ht hi);have e2:sm (n*n) (λk=>(decide (l t k=l t i)).toNat)=sm (n*n) (λk=>(decide (k≠i/\k≠j/\l t k=l t i/\l t k=l t j)).toNat+((if k=i then 1 else 0)+(if k=j then 1 else 0))):=fH λk _=>by
  by_cases x:k=i
  ·have:i≠j:=ne;subst x;simp[this]
  ·by_cases y:k=j
   ·subst y;have:k≠i:=x;simp[a,this]
   ·simp[x,y,a]
 rw[e2,oO,oO,kG 1 0 hi,kG 1 0 hj]at e;omega
theorem OA.apart{l:Nat->Nat->Nat}(h:OA n g l)(hi:i<n*n)(hj:j<n*n)(a:∀t,t<g->l t i≠l t j):sm (n*n) (λe=>(iT g l i e&&iT g l j e).toNat)=g*(g-1):=by
 rw[h.SI hi hj,fH (g:=λ_=>g-1),mY]
 intro t ht;rw[fH (g:=λu=>if u=t then 0 else 1),kG 0 1 ht]
 ·omega
 ·intro u hu
  by_cases e:u=t
  ·subst e;rw[if_pos rfl,OO (a u ht)]
  ·rw[if_neg e,h.KH hi hj ht hu (λy=>e y.symm) (a t ht) (a u hu)]
theorem OA.ami{l:Nat->Nat->Nat}(h:OA n g l)(g2:2<=g)(hi:i<n*n)(hj:j<n*n)(ne:i≠j)(ht:t<g)(a:l t i=l t j):sm (n*n) (λe=>(iT g l i e&&iT g l j e).toNat)=n-2+(g-1)*(g-2):=by
 have cL:∀u,u<g->u≠t->l u i≠l u j:=λu hu e q=>ne (h.inj u t i j hu ht e hi hj q a)
 rw[h.SI hi hj,fH (g:=λk=>if k=t then n-2 else g-2),kG _ _ ht]
 intro k hk
 by_cases e:k=t
 ·subst e;rw[if_pos rfl,fH (g:=λu=>if u=k then n-2 else 0),kG _ _ hk]
  ·simp
  ·intro u hu
   by_cases e:u=k
   ·subst e;rw[if_pos rfl,h.alp g2 hi hj ne hu a]
   ·rw[if_neg e,h.KC hi hj hk hu (λy=>e y.symm) (.inl a)]
 ·rw[if_neg e,fH (g:=λu=>if u=k then 0 else if u=t then 0 else 1),al8 hk ht e]
  intro u hu
  by_cases x:u=k
  ·subst x;rw[if_pos rfl,OO (cL u hu e)]
  ·rw[if_neg x]
   by_cases y:u=t
   ·subst y;rw[if_pos rfl,h.KC hi hj hk hu (λz=>x z.symm) (.inr a)]
   ·rw[if_neg y,h.KH hi hj hk hu (λz=>x z.symm) (cL k hk e) (cL u hu y)]
def bI(p:Nat×Nat):D:=.tup [.int p.1,.int p.2]
theorem HV:∀l:List Nat,gh (nD l)=O (l.map λn:Nat=>PyData.int (n:Int))
 |[]=>rfl
 |n::ns=>by
  show(match fE _,gh _ with|some a,O r=>O _|_,_=>Z)=_
  rw[HV ns];rfl
theorem Th(l:List Nat)(k:Nat):((l.map λn:Nat=>PyData.int (n:Int)).any λz=>z.eqv ↥k)=decide (k∈l):=by
 rw[Xj,V6,Vh,decide_eq_true_eq];refine⟨fun⟨x,hx,e⟩=>?_,λh=>⟨k,h,?_⟩⟩
 ·have:x=(k:Int):=by simpa[PyData.eqv]using e
  have:x=k:=∅
  exact this▸hx
 ·simp[PyData.eqv]
theorem ab1(l:List Nat)(k:Nat)(c:aa):lZ ↥k (.tup (nD l)) c=.ok (.bl (!decide (k∈l))) c:=by
 have h1:gw c (.int k)=O _:=rfl;have h2:gw c (.tup (nD l))=O (.tuple (l.map λn:Nat=>PyData.int n)):=by
  show(match gh _ with|some r=>O _|none=>Z)=_
  rw[HV]
 unfold lZ;rw[h1,h2];dsimp only;rw[if_pos (by simp[PyData.depth]),Th]
theorem PX(w:List (List Nat))(c:aa):bD [bG w] c=.ok (.int (w.length:Nat)) c:=by
 unfold bG;rw[KL,T6]
theorem xR{i:Nat}(h:w[i]? = O r)(c:aa):aD (bG w) ↥i c=.ok (.tup (nD r)) c:=by
 unfold bG;rw[EJ,iy (by rw[U7,h];rfl)]
def nk(w:List (List Nat))(i j:Nat):Bool:=!decide (j∈w.getD i [])
def dM(w:List (List Nat)):List (List Nat):=bw w.length (nk w)
theorem Pa:∀l:List Nat,eV (nD l)=G
 |[]=>rfl
 |n::l=>by
  show(ff _&&eV _)=G;rw[Pa l];rfl
theorem ab9(w:List (List Nat)):ff (bG w)=G:=by
 show eV _=G
 induction w with
 |nil=>rfl
 |cons r w ih =>
  show(ff _&&eV _)=G;rw[ih,Bool.and_true];exact Pa r
theorem Oa{w:List (List Nat)}(hn:w.length<1000)(c:aa):um [bG w] c=.ok (bG (dM w)) c:=by
 have hw:=zB (k:=0) (l:=[bG w]) (f:=nk w) rfl (by show(ff _&&eV [])=G;rw[ab9];rfl) hn λi j hi hj hne=>by
  have e:nk w i j = !decide (j∈w[i]):=by unfold nk;rw[T7,I8 hi];rfl
  rw[e];show rO [O _,O _,O _] c=_;unfold rO;simp only[eO,cg,gz,gs,R.aF,(xR (I8 hi) c)];exact(ab1 w[i] j c)
 rw[um,fF];unfold Dj;have es:cW 1 [bG w]=[O _]:=rfl;rw[es,i9,(CY (by simp;exact PX w c) rfl hw (lH _))]
 show cU ξ c.length (bG (dM w)) c=_;have nr:=lH (dM w);unfold bG at nr ⊢;unfold cU;dsimp only;rw[if_pos nr,Us]
def jN(i:Nat)(r:List Nat):List (Nat×Nat):=(r.filter λj=>decide (i<j)).map λj=>(i,j)
def cu(w:List (List Nat)):List (Nat×Nat):=(w.mapIdx jN).flatten
theorem ame(i:Nat)(r:List Nat)(v:Option D)(c:aa):bT (λ_=>True) (aA 0) (aN (au jy (ak 1) (ak 0))) (ck (1⊂0)) (nD r) [v,O (.int i)] [] c=.ok ((jN i r).map bI) c:=by
 have h2:2<=Ω:=dS ⋯
 have:=uQ (E:=[O (.int i)]) (t:=(aN (au jy (ak 1) (ak 0)))) (a:=(ck (1⊂0))) (c:=c) (λj:Nat=>D.int j) (λj=>bI (i,j)) (λj=>decide (i<j)) r v [] (λj _=>by
  by_cases h:i<j
  ·have h':i<j:=∅
   simp[h,h']
  ·simp) (λj _ _=>by simp[h2,bI])
 unfold jN
 rwa[UB]
def zF:ah:=(dw (iw (ak 1) (aX (c9 (ak 3)) [Z,O 2] (aA 0) (aN (au jy (ak 1) (ak 0))) (ck (1⊂0)))))
theorem O9(l:List (Nat×Nat)):bW (l.map bI)=G:=iU.mpr λd hd=>by
 obtain⟨p,_,rfl⟩:=H8.mp hd;rfl
theorem amg{i:Nat}{r:List Nat}{acc:List (Nat×Nat)}{c:aa}(a0:Option D)(hr:r.length<1000)(ha:acc.length+1000<1000000) :
  zF [a0,O (.ref c.length),O (.int i),O (.tup (nD r))] (c++[.lst (acc.map bI)])=.ok (.nx [a0,O (.ref c.length),O (.int i),O (.tup (nD r))]) (c++[.lst ((acc++jN i r).map bI)]):=by
 have hs:1000000<=Ω:=⋯
 have hc:=ame i r Z (c++[.lst (acc.map bI)]);have hl:(jN i r).length<=r.length:=by unfold jN;rw[T6];exact Z5 _ _
 have hd:aX (c9 (ak 3)) [Z,O 2] (aA 0) (aN (au jy (ak 1) (ak 0))) (ck (1⊂0)) [a0,O (.ref c.length),O (.int i),O (.tup (nD r))] (c++[.lst (acc.map bI)])=.ok (.lst ((jN i r).map bI)) (c++[.lst (acc.map bI)]):=by
  simp only[gy,KD,cg,gz,gs,R.aF];rw[if_pos (by simp[nD];omega)]
  have ep:cX [Z,O 2] [a0,O (D.ref c.length),O _,O (.tup (nD r))]=[Z,O (.int i)]:=rfl;rw[ep,hc];rfl
 have hx:iw (ak 1) (aX (c9 (ak 3)) [Z,O 2] (aA 0) (aN (au jy (ak 1) (ak 0))) (ck (1⊂0))) [a0,O (.ref c.length),O (.int i),O (.tup (nD r))] (c++[.lst (acc.map bI)])=.ok .aJ (c++[.lst ((acc++jN i r).map bI)]):=by
  unfold iw;simp only[cg,gz,gs,R.aF,hd];have hg:(c++[Cell.lst (acc.map bI)])[c.length]? = O (.lst (acc.map bI)):=by simp
  rw[hg];dsimp only;rw[if_pos ⟨by simp;omega,O9 _⟩]
  simp
 unfold zF;rw[kD,hx];rfl
theorem amh(w:List (List Nat))(h:i<w.length):cu (w.take i)++jN i w[i]=cu (w.take (i+1)):=by
 unfold cu;rw[Wi h,List.mapIdx_append,List.flatten_append];simp[Xl (VX h)]
theorem LJ:∀{l:List Nat},(∀x∈l,x<=m)->l.sum<=l.length*m
 |[],_=>by simp
 |x::l,h=>by
  have h1:=h x (.head _);have h2:=LJ λy hy=>h y (.tail _ hy)
  rw[List.sum_cons,U0,Uv];omega
theorem amj(w:List (List Nat))(m:Nat)(h:∀r∈w,r.length<=m):(cu w).length<=w.length*m:=by
 unfold cu;have:∀x∈(w.mapIdx jN).map List.length,x<=m:=λx hx=>by
  obtain⟨l,hl,rfl⟩:=H8.mp hx;obtain⟨i,hi,rfl⟩:=X7.mp hl;refine UK ?_ (h _ (U6 hi));unfold jN;rw[T6];exact Z5 _ _
 have:=LJ this
 simpa using this
theorem Li{w:List (List Nat)}(hw:w.length<64)(hr:∀r∈w,r.length<=64)(c:aa):xj [bG w] c=.ok (.lst ((cu w).map bI)) c:=by
 have hf:=nM (st:=λ_=>True) (g:=dU 2 (bR (aA 2) (bR (aA 3) eT))) _ (λ_ v=>[O (bG w),O _,v.1,v.2]) ((w.map λr=>D.tup (nD r)).mapIdx λi x=>.tup [.int i,x]) 0 (Z,Z) (λ_ _=>trivial) (λi x hx v=>by
  rw[UM];have hi:i<w.length:=by have:=(U3.mp hx).1;simpa using this
  have ex:x=.tup [.int i,.tup (nD w[i])]:=by
   rw[YV,U7,I8 hi]at hx;cases hx;rfl
  subst ex;have hl:=amj (w.take i) 64 λr h=>hr r (UO h)
  have h3:(w.take i).length*64<=64*64:=X8 (by rw[Vb];omega) (dD _)
  have hs:=amg (i:=i) (r:=w[i]) (acc:=cu (w.take i)) (c:=c) (O (bG w)) (by have:=hr _ (U6 hi);omega) ∅
  rw[amh w hi]at hs;exact⟨_,by simp,(O (.int i),O _),hs⟩)
 obtain⟨v',hf⟩:=hf;have rR:((w.map λr=>D.tup (nD r)).mapIdx λi x=>D.tup [.int i,x]).length=w.length:=by simp
 rw[UM,rR,Us]at hf;have hb:C5=aC _ (aC (bY _ _ zF) _):=rfl;rw[xj,fF,hb];have es:cW 4 [bG w]=[O (bG w),Z,Z,Z]:=rfl;have e1:aG 1 (fj av) [O (bG w),Z,Z,Z] c=.ok (.nx [O (bG w),O (.ref c.length),Z,Z]) (c++[.lst []]):=by simp
 have e2:bY (rZ ⇑0) _ zF [O (bG w),O _,Z,Z] (c++[.lst []])=.ok _ _:=hf;rw[es,cK e1,cK e2];simp[cU]
structure Wk (w:List (List Nat)):Prop where
 len:w.length<64
 row:∀r∈w,Up r/\∀x∈r,x<w.length
theorem Wk.short(h:Wk w)(hr:r∈w):r.length<=w.length:=K4 (h.row r hr).1 (h.row r hr).2
def cV(w:List (List Nat))(p:Nat×Nat):Nat:=qi (w.getD p.1 []) (w.getD p.2 [])
theorem Pq(h:Wk w)(hr:r∈w)(c:aa):jY c (.tup (nD r))=O r:=by
 obtain⟨h1,h2⟩:=h.row r hr;have hl:=h.len;have:=K4 (oq r) (λx hx=>h2 x (l7.mp hx))
 exact wW ∅ λx hx=>by have:=h2 x hx;omega
theorem P5{ns:List Nat}(ha:a e c=.ok [x] c)(hb:b e c=.ok [y] c)(hx:jY c x=O ns)(hy:jY c y=O ms):rX a b e c=.ok (.int (qi ns ms:Nat)) c:=by
 unfold rX;rw[ha];simp;rw[hx,hb];simp;rw[hy]
theorem SE(h:Wk w)(ha:a<w.length)(hb:b<w.length)(c:aa):pI [bG w,.int a,.int b] c=.ok (.int (cV w (a,b):Nat)) c:=by
 have e:rX (ao (au aD (ak 0) (ak 1)) av) (ao (au aD (ak 0) (ak 2)) av) [O (bG w),O (.int a),O (.int b)] c=.ok _ c :=
  P5 (by simp only[b7,eO,cg,gz,gs,cj,R.aF,(xR (I8 ha) c)]) (by simp only[b7,eO,cg,gz,gs,cj,R.aF,(xR (I8 hb) c)]) (Pq h (U6 ha) c) (Pq h (U6 hb) c)
 have e2:cV w (a,b)=qi w[a] w[b]:=by
  unfold cV;rw[T7,T7,I8 ha,I8 hb];rfl
 rw[pI,fF];unfold DM;have es:cW 3 [bG w,.int a,.int b]=[O _,O _,O _]:=rfl;rw[es,i9,e,e2];simp[cU,noRef]
def m9(w:List (List Nat)):Option Nat:=w.findIdx? λr=>decide (r.length≠(w.getD 0 []).length)
def gp:Option Nat->D
 |some i=>.int (i:Nat)
 |none=>.aJ
def wB:ah:=(bz (aN (au cS (aO bD ⇑2) (aO bD (ao (au aD (ak 0) (dC (.int 0))) av)))) (aK (ak 1)) bA)
theorem apT{i:Nat}(h0:aD W (.int 0) c=.ok (.tup (nD r0)) c):wB [O W,O (.int i),O (.tup (nD r))] c=if r.length≠r0.length then .ok (.rt (.int i)) c else .ok (.nx [O W,O (.int i),O (.tup (nD r))]) c:=by
 have l1:(nD r).length=r.length:=by simp
 have l0:(nD r0).length=r0.length:=by simp
 unfold wB
 by_cases e:r.length=r0.length
 ·simp[h0,l1,l0,e]
 ·have e':¬((r.length)=(r0.length:Int)):=∅
  simp[h0,l1,l0,e,e']
theorem NP{W:D}{r0:List Nat}{c:aa}(h0:aD W (.int 0) c=.ok (.tup (nD r0)) c):∀(w:List (List Nat)) (k:Nat) (v1 v2:Option D),∃u1 u2,cZ (λ_=>True) (dU 2 (bR (aA 1) (bR (aA 2) eT))) wB ((w.map λr=>D.tup (nD r)).mapIdx λi x=>.tup [.int ((k+i:Nat):Int),x]) [O W,v1,v2] c =
  (match w.findIdx? λr=>decide (r.length≠r0.length)with|some i=>.ok (.rt (.int ((k+i:Nat):Int))) c|none=>.ok (.nx [O W,u1,u2]) c)
 |[],k,v1,v2=>⟨v1,v2,by simp⟩
 |r::w,k,v1,v2=>by
  have hg:dU 2 (bR (aA 1) (bR (aA 2) eT)) (.tup [.int ((k+0:Nat):Int),.tup (nD r)]) [O W,v1,v2] c=.ok [O W,O _,O (.tup (nD r))] c:=rfl;have hs:=apT (i:=k+0) (r:=r) h0;rw[T8,ZZ,kg,hg,R.aF,hs,List.findIdx?_cons]
  by_cases e:r.length=r0.length
  ·obtain⟨u1,u2,ih⟩:=NP h0 w (k+1) _ (O (.tup (nD r)));refine⟨u1,u2,?_⟩;rw[if_neg (by simp[e])]
   simp only[R.aF];have e1:((w.map λr=>D.tup (nD r)).mapIdx λi x=>D.tup [.int ((k+(i+1):Nat):Int),x])=((w.map λr=>D.tup (nD r)).mapIdx λi x=>D.tup [.int ((k+1+i:Nat):Int),x]):=by
    congr 1;funext i x;congr 4;omega
   rw[e1,ih];simp only[e,ne_eq,not_true_eq_false,decide_false];cases w.findIdx? λr=>decide (r.length≠r0.length)with
   |none=>rfl
   |some i =>
    simp only[Zn]
    congr 4;omega
  ·rw[if_pos (by simpa using e)]
   simp[e]
theorem apU{w:List (List Nat)}(h0:0<w.length)(c:aa):xD [bG w] c=.ok (gp (m9 w)) c:=by
 have hi:aD (bG w) (.int 0) c=.ok (.tup (nD (w.getD 0 []))) c:=by
  have:=xR (I8 h0) c
  rwa[T7,I8 h0]
 obtain⟨u1,u2,hf⟩:=NP hi w 0 Z Z;simp only[UM]at hf;have e2:bY (rZ ⇑0) (dU 2 (bR (aA 1) (bR (aA 2) eT))) wB [O (bG w),Z,Z] c=(match m9 w with|some i=>.ok (.rt (.int i)) c|none=>.ok (.nx [O (bG w),u1,u2]) c):=by
  unfold rZ;exact hf
 have hb:DH=aC (bY (rZ _) (dU 2 (bR _ _)) wB) _:=rfl;rw[xD,fF,hb];have es:cW 3 [bG w]=[O _,Z,Z]:=rfl;rw[es,i8,e2];cases m9 w with
 |none=>simp[gp,cU,noRef]
 |some i=>simp[gp,cU,noRef]
def f6(w:List (List Nat)):List (Nat×Nat)->Option Nat
 |[]=>Z
 |p::_=>O (cV w p)
def vo(w:List (List Nat))(ps:List (Nat×Nat)):Prop:=∀p∈ps,p.1<w.length/\p.2<w.length
theorem Of(o:Option Nat):noRef (gp o)=G/\∀k,gp o≠.ref k:=by
 cases o<;>exact⟨rfl,λk h=>by cases h⟩
theorem GU(p:Nat×Nat)(c:aa):aD (bI p) (.int 0) c=.ok (.int p.1) c:=rfl
theorem GS(p:Nat×Nat)(c:aa):aD (bI p) (.int 1) c=.ok (.int p.2) c:=rfl
theorem E9(h:Wk w)(hp:vo w ps)(c:aa):l8 [bG w,.lst (ps.map bI)] c=.ok (gp (f6 w ps)) c:=by
 rw[l8];refine jR ?_ (Of _).1 (Of _).2;have es:cW 2 [bG w,.lst (ps.map bI)]=[O (bG w),O _]:=rfl;rw[es];unfold C8;cases ps with
 |nil=>simp[qA,eZ,fU,f6,gp]
 |cons p ps =>
  have h1:aD (.lst ((p::ps).map bI)) (.int 0) c=.ok (bI p) c:=by
   have:=iy (xs:=(p::ps).map bI) (j:=0) rfl;rw[sO];exact(by rw[show((0:Int))=((0:Nat):Int)from rfl,this])
  obtain⟨p1,p2⟩:=hp p (.head _);have ht:yp (ak 1) [O (bG w),O (.lst ((p::ps).map bI))] c=.ok G c:=by simp[qA,eZ,fU]
  rw[i9,als,ht];simp only[R.aF];rw[if_pos trivial,(yz (m:=pI) (d1:=ak 0) (d2:=au aD (au aD (ak 1) (dC (.int 0))) (dC (.int 0))) (d3:=au aD (au aD (ak 1) (dC (.int 0))) (dC (.int 1))) (e:=[O (bG w),O (.lst ((p::ps).map bI))]) (c:=c) rfl (by simp only[eO,cg,jJ,gz,gs,R.aF,h1,GU]) (by simp only[eO,cg,jJ,gz,gs,R.aF,h1,GS]) (SE h p1 p2 c))]
  rfl
def vF:ah:=(bz (aN (au cS (aB 3 pI (ao (ak 0) (ao (au aD (ak 3) (dC (.int 0))) (ao (au aD (ak 3) (dC (.int 1))) av)))) (ak 2))) (aK (ak 3)) bA)
def mU(w:List (List Nat))(s:Nat)(ps:List (Nat×Nat)):Option (Nat×Nat):=ps.find? λp=>decide (cV w p≠s)
theorem adR{a s:Nat}(h1:d1 e c=.ok ↥a c)(h2:d2 e c=.ok ↥s c):bz (aN (au cS d1 d2)) t u e c=if a≠s then t e c else u e c:=by
 by_cases q:a=s
 ·subst q;simp[h1,h2]
 ·have q':¬((a:Int)=s):=∅
  simp[h1,h2,q,q']
theorem ak8(h:Wk w){p:Nat×Nat}(hp:p.1<w.length/\p.2<w.length){s:Nat}(a1:Option D)(c:aa):vF [O (bG w),a1,O (.int s),O (bI p)] c=if cV w p≠s then .ok (.rt (bI p)) c else .ok (.nx [O (bG w),a1,O (.int s),O (bI p)]) c:=by
 unfold vF;rw[adR (yz (m:=pI) (d1:=ak 0) (d2:=au aD (ak 3) (dC (.int 0))) (d3:=au aD (ak 3) (dC (.int 1))) (e:=[O (bG w),a1,O (.int s),O (bI p)]) (c:=c) rfl (by simp only[eO,cg,jJ,gz,gs,R.aF,GU]) (by simp only[eO,cg,jJ,gz,gs,R.aF,GS]) (SE h hp.1 hp.2 c)) rfl]
 rfl
theorem K3{w:List (List Nat)}(h:Wk w){s:Nat}{a1:Option D}{c:aa}:∀(ps:List (Nat×Nat)) (v:Option D),vo w ps->∃u,cZ (λ_=>True) (aA 3) vF (ps.map bI) [O (bG w),a1,O (.int s),v] c=(match mU w s ps with|some p=>.ok (.rt (bI p)) c|none=>.ok (.nx [O (bG w),a1,O (.int s),u]) c)
 |[],v,_=>⟨v,by simp[mU]⟩
 |p::ps,v,hp=>by
  obtain⟨u,ih⟩:=K3 (a1:=a1) h ps (O (bI p)) λq hq=>hp q (.tail _ hq)
  have hs:=ak8 h (hp p (.head _)) (s:=s) a1 c;have hg:aA 3 (bI p) [O (bG w),a1,O (.int s),v] c=.ok [O (bG w),a1,O (.int s),O (bI p)] c:=rfl
  by_cases e:cV w p=s
  ·refine⟨u,?_⟩;rw[T8,kg,hg,R.aF,hs,if_neg (by simp[e])]
   simp only[R.aF];rw[ih];unfold mU;rw[ZW (by simp[e])]
  ·refine⟨u,?_⟩;rw[T8,kg,hg,R.aF,hs,if_pos (by simpa using e)]
   unfold mU;rw[ZX (by simpa using e)]
   rfl
def pairD:Option (Nat×Nat)->D
 |some p=>bI p
 |none=>.aJ
def gA(w:List (List Nat))(ps:List (Nat×Nat)):Option (Nat×Nat):=match ps with
 |[]=>Z
 |p::ps=>mU w (cV w p) (p::ps)
theorem N6(o:Option (Nat×Nat)):noRef (pairD o)=G/\∀k,pairD o≠.ref k:=by
 cases o<;>exact⟨rfl,λk h=>by cases h⟩
theorem ak6(h:Wk w)(hp:vo w ps)(c:aa):xE [bG w,.lst (ps.map bI)] c=.ok (pairD (gA w ps)) c:=by
 have e0:aG 2 (aB 2 l8 (0⊂1)) [O (bG w),O (.lst (ps.map bI)),Z,Z] c=.ok (.nx [O (bG w),O (.lst (ps.map bI)),O (gp (f6 w ps)),Z]) c:=by
  rw[iL,(lB (m:=l8) (d1:=ak 0) (d2:=ak 1) (e:=[O (bG w),O _,Z,Z]) (c:=c) rfl rfl (E9 h hp c))];rfl
 have hb:DI=aC _ (aC (bY _ (aA 3) vF) _):=rfl;refine jR ?_ (N6 _).1 (N6 _).2;have es:cW 4 [bG w,.lst (ps.map bI)]=[O (bG w),O _,Z,Z]:=rfl;rw[es,hb,cK e0];cases ps with
 |nil =>
  simp[gA,pairD]
 |cons p ps =>
  obtain⟨u,hf⟩:=K3 h (c:=c) (p::ps) Z hp;have e1:bY (eX (ak 1)) (aA 3) vF [O (bG w),O (.lst ((p::ps).map bI)),O (gp (f6 w (p::ps))),Z] c=(match mU w (cV w p) (p::ps)with|some p=>.ok (.rt (bI p)) c|none=>.ok (.nx [O (bG w),O (.lst ((p::ps).map bI)),O (.int (cV w p:Nat)),u]) c):=by
   unfold eX;exact hf
  have apJ:gA w (p::ps)=mU w (cV w p) (p::ps):=rfl;rw[i8,e1,apJ];cases mU w (cV w p) (p::ps)with
  |none=>simp[pairD]
  |some p=>simp[pairD]
def CJ:ah:=(aC (aG 6 (aB 2 xE (0⊂5))) (bz (aN (au jA (ak 6) (dC .aJ))) (aK (ck (ao (ak 4) (ao (au aD (ak 6) (dC (.int 0))) (ao (au aD (ak 6) (dC (.int 1))) av))))) bA))
theorem al2(h1:d1 e c=.ok x c)(h2:d2 e c=.ok y c)(h3:d3 e c=.ok z c):ck (ao d1 (ao d2 (ao d3 av))) e c=.ok (.tup [x,y,z]) c:=by
 have:(3:Nat)<=Ω:=dS ⋯
 simp only[zu,b7,h1,h2,h3,cj,R.aF];rw[if_pos (by exact this)]
theorem R1{w:List (List Nat)}(h:Wk w){ps:List (Nat×Nat)}(hp:vo w ps){c:aa}(a1 a2 a3 a6:Option D)(word:Str):∃u,CJ [O (bG w),a1,a2,a3,O (.str word),O (.lst (ps.map bI)),a6] c=(match gA w ps with
  |some p=>.ok (.rt (.tup [.str word,.int p.1,.int p.2])) c
  |none=>.ok (.nx [O (bG w),a1,a2,a3,O (.str word),O (.lst (ps.map bI)),u]) c):=by
 have hs:=lB (d1:=ak 0) (d2:=ak 5) (e:=[O _,a1,a2,a3,O (.str word),O _,a6]) rfl rfl (ak6 h hp c);have e0:aG 6 (aB 2 xE (0⊂5)) [O (bG w),a1,a2,a3,O (.str word),O (.lst (ps.map bI)),a6] c=.ok (.nx [O (bG w),a1,a2,a3,O (.str word),O (.lst (ps.map bI)),O (pairD (gA w ps))]) c:=by
  rw[iL,hs];rfl
 refine⟨O (pairD (gA w ps)),?_⟩;unfold CJ;rw[cK e0];cases gA w ps with
 |none=>simp[pairD,fD]
 |some p =>
  have h3:=al2 (x:=.str word) (y:=.int p.1) (z:=.int p.2) (d1:=ak 4) (d2:=au aD (ak 6) (dC (.int 0))) (d3:=au aD (ak 6) (dC (.int 1))) (e:=[O (bG w),a1,a2,a3,O _,O (.lst (ps.map bI)),O (bI p)]) (c:=c) rfl (by simp only[eO,cg,jJ,gz,gs,R.aF,GU]) (by simp only[eO,cg,jJ,gz,gs,R.aF,GS])
  have hn:aN (au jA (ak 6) (dC .aJ)) [O (bG w),a1,a2,a3,O (.str word),O (.lst (ps.map bI)),O (bI p)] c=.ok G c:=rfl;show bz _ _ _ [O (bG w),a1,a2,a3,O _,O _,O (bI p)] c=_;rfl
def ym(w:List (List Nat)):D:=match m9 w with
 |some i=>.tup [.str "place",.int (i:Nat)]
 |none=>match gA w (cu w)with
  |some p=>.tup [.str "tied",.int p.1,.int p.2]
  |none=>match gA w (cu (dM w))with
   |some p=>.tup [.str "apart",.int p.1,.int p.2]
   |none=>.tup [.str "even",.tup [.int (w.length:Nat),.int ((w.getD 0 []).length:Nat),gp (f6 w (cu w)),gp (f6 w (cu (dM w)))]]
theorem Lj{w:List (List Nat)}(hl:w.length<=m)(h:∀r∈w,∀x∈r,x<m):∀p∈cu w,p.1<m/\p.2<m:=λp hp=>by
 obtain⟨l,hl',hp⟩:=o8.mp hp;obtain⟨i,hi,rfl⟩:=X7.mp hl';obtain⟨j,hj,rfl⟩:=H8.mp hp;exact⟨by simp only;omega,h _ (U6 hi) j (Uy.mp hj).1⟩
theorem KZ(n:Nat)(f:Nat->Nat->Bool):∀r∈bw n f,r.length<=n/\∀x∈r,x<n:=λr hr=>by
 obtain⟨i,_,rfl⟩:=H8.mp hr;refine⟨?_,λx hx=>gq.mp (Uy.mp hx).1⟩
 have:=Z5 (λj=>decide (j≠i)&&f i j) (θ n)
 rwa[Ul]at this
theorem fN(n:Nat)(f:Nat->Nat->Bool):(bw n f).length=n:=by simp[bw]
theorem ES(h1:d1 e c=.ok x c)(h2:d2 e c=.ok y c):ck (ao d1 (ao d2 av)) e c=.ok (.tup [x,y]) c:=by
 have:2<=Ω:=dS ⋯
 simp only[zu,b7,h1,h2,cj,R.aF];rw[if_pos (by exact this)]
theorem al3(h1:d1 e c=.ok x c)(h2:d2 e c=.ok y c)(h3:d3 e c=.ok z c)(h4:d4 e c=.ok u c):ck (ao d1 (ao d2 (ao d3 (ao d4 av)))) e c=.ok (.tup [x,y,z,u]) c:=by
 have:4<=Ω:=dS ⋯
 simp only[zu,b7,h1,h2,h3,h4,cj,R.aF];rw[if_pos (by exact this)]
theorem RL{xs:List D}(hg:g x e c=.ok e' c)(hs:s e' c=.ok (.rt v) c):cZ (λ_=>True) g s (x::xs) e c=.ok (.rt v) c:=by
 rw[kg,hg,R.aF,hs];rfl
theorem HA{xs:List D}(hg:g x e c=.ok e' c)(hs:s e' c=.ok (.nx e'') c)(h:cZ (λ_=>True) g s xs e'' c=r):cZ (λ_=>True) g s (x::xs) e c=r:=by
 rwa[kg,hg,R.aF,hs]
theorem vW(h:s e c=.ok (.nx e') c)(h2:t e' c=r):aC s t e c=r:=by
 rw[i8,h];exact h2
theorem amv(h:s e c=.ok (.rt v) c):aC s t e c=.ok (.rt v) c:=by
 rw[i8,h];rfl
def evR:ah:=aK (ck (ao (dC (.str "even")) (ao (ck (ao (aO bD ⇑0) (ao (aO bD (ao (au aD (ak 0) (dC (.int 0))) av)) (ao (aB 2 l8 (0⊂2)) (ao (aB 2 l8 (0⊂3)) av))))) av)))
theorem af4(h:Wk w)(h0:0<w.length)(c:aa):uy [bG w] c=.ok (ym w) c:=by
 have hl:=h.len;have hn:=Li (w:=w) hl (λr hr=>by have:=h.short hr;omega) c
 have iX:(dM w).length=w.length:=fN _ _;have hf:=Li (w:=dM w) ∅ (λr hr=>by have:=(KZ _ _ r hr).1;omega) c
 have ho:=Oa (w:=w) ∅ c
 have p1:vo w (cu w):=Lj (dD _) λr hr x hx=>(h.row r hr).2 x hx
 have p2:vo w (cu (dM w)):=Lj (VU iX) λr hr x hx=>(KZ _ _ r hr).2 x hx
 have hi:aD (bG w) (.int 0) c=.ok (.tup (nD (w.getD 0 []))) c:=by
  rw[T7,I8 h0];exact xR (I8 h0) c
 have hp:=apU h0 c;have hw:=PX w c;have s1:=E9 h p1 c;have s2:=E9 h p2 c;obtain⟨u1,f1⟩:=R1 h p1 (c:=c) (O .aJ) (O (.lst ((cu w).map bI))) (O (.lst ((cu (dM w)).map bI))) Z "tied"
 obtain⟨u2,f2⟩:=R1 h p2 (c:=c) (O .aJ) (O (.lst ((cu w).map bI))) (O (.lst ((cu (dM w)).map bI))) u1 "apart"
 have lr:bD [.tup (nD (w.getD 0 []))] c=.ok (.int ((w.getD 0 []).length:Nat)) c:=by rw[KL];simp[nD]
 unfold ym
 generalize bG (dM w)=V at ho hf
 generalize D.lst ((cu w).map bI)=A at hn s1 f1 f2
 generalize D.lst _=B at hf s2 f1 f2
 generalize D.tup (nD (w.getD 0 []))=η at hi lr
 generalize bG w=W at hn ho hi hp hw s1 s2 f1 f2 ⊢
 have key:∀v,noRef v=G->(∀k,v≠.ref k)->DJ [O W,Z,Z,Z,Z,Z,Z] c=.ok (.rt v) c->uy [W] c=.ok v c:=λv h2 h3 h1=>jR h1 h2 h3
 have e0:=λx hp=>kH (i:=1) (e:=[O W,Z,Z,Z,Z,Z,Z]) (iH (m:=xD) (d1:=ak 0) (x:=W) (v:=x) (c:=c) rfl hp)
 cases q:m9 w with
 |some i =>
  rw[q]at hp;exact key _ rfl (by simp) (vW (e0 _ hp) (amv (jr (d:=ck (ao (dC (.str "place")) ⇑1)) (e:=[O W,O (.int (i:Nat)),Z,Z,Z,Z,Z]) (ES (x:=.str "place") (y:=.int (i:Nat)) rfl rfl))))
 |none =>
  rw[q]at hp;have pre:∀r,cZ (λ_=>True) (dU 2 _) CJ [.tup [.str "tied",A],.tup [.str "apart",B]] [O W,O .aJ,O A,O B,Z,Z,Z] c=r->∀v,noRef v=G->(∀k,v≠.ref k)->(r.bind λfl c=>match fl with|.nx e=>evR e c|r=>.ok r c)=.ok (.rt v) c->uy [W] c=.ok v c:=λr hr v h2 h3 hv=>by
   refine key v h2 h3 (vW (e0 _ hp) (vW (e':=[O W,O .aJ,Z,Z,Z,Z,Z]) rfl (vW (kH (e:=[O W,O .aJ,Z,Z,Z,Z,Z]) (iH (x:=W) rfl hn)) (vW (kH (e:=[O W,O .aJ,O A,Z,Z,Z,Z]) (iH (iH (x:=W) rfl ho) hf)) ?_))));have ad9:c9 (ck (ao (ck (ao (dC (.str "tied")) ⇑2)) (ao (ck (ao (dC (.str "apart")) ⇑3)) av))) [O W,O .aJ,O A,O B,Z,Z,Z] c=.ok ⟨[.tup [.str "tied",A],.tup [.str "apart",B]],λ_=>True⟩ c:=by
    rfl
   rw[i8];show((bY _ _ CJ [O W,O .aJ,O A,O B,Z,Z,Z] c).bind _)=_;rw[jl,ad9];simp only[R.aF];rw[hr];exact hv
  cases q:gA w (cu w)with
  |some p =>
   rw[q]at f1;exact pre _ (RL rfl f1) _ rfl (by simp) rfl
  |none =>
   rw[q]at f1;cases q:gA w (cu (dM w))with
   |some p =>
    rw[q]at f2;exact pre _ (HA rfl f1 (RL rfl f2)) _ rfl (by simp) rfl
   |none =>
    rw[q]at f2;refine pre (.ok (.nx [O W,O .aJ,O A,O B,O (.str "apart"),O B,u2]) c) (HA rfl f1 (HA rfl f2 (by simp))) _ ?_ (by simp) (jr (ES (x:=.str "even") rfl (al3 (ko (x:=W) rfl hw) (ko (cN (x:=W) (y:=.int 0) rfl rfl hi) lr) (lB (x:=W) (y:=A) rfl rfl s1) (lB (x:=W) (y:=B) rfl rfl s2))))
    cases f6 w (cu w)<;>cases f6 w (cu (dM w))<;>rfl
def qd(ss:List (Nat->Nat->Nat)):List (Nat->Nat->Nat):=(λx _=>x)::(λ_ y=>y)::ss
theorem acU(n:Nat)(ss:List (Nat->Nat->Nat))(i:Nat):iG n ss i=(qd ss).map λs=>s (i/n) (i % n):=by simp[iG,qd]
def pM(n:Nat)(ss:List (Nat->Nat->Nat))(t i:Nat):Nat:=(iG n ss i).getD t 0
theorem Tr:∀{p q:List Nat}{g:Nat},p.length=g->q.length=g->qm p q=(θ g).any λt=>decide (p.getD t 0=q.getD t 0)
 |[],[],g,h,_=>by subst h;rfl
 |[],_::_,g,h,h'=>by simp at h h';omega
 |_::_,[],g,h,h'=>by simp at h h';omega
 |a::p,b::q,g,h,h'=>by
  obtain⟨k,rfl⟩:∃k,g=k+1:=⟨p.length,by simpa using h.symm⟩
  have ih:=Tr (q:=q) (by simpa using h) (by simpa using h')
  rw[List.range_succ_eq_map,XA,Xj];unfold qm at ih ⊢;rw[Vo,XA,ih];rfl
theorem e8.apC{s:Nat->Nat->Nat}(h:e8 n s)(hx:x<n)(hy:y<n)(hy':y'<n)(e:s x y=s x y'):y=y':=Gp ((h.row x hx).nodup_iff.mpr Vm) hy hy' e
theorem e8.apE{s:Nat->Nat->Nat}(h:e8 n s)(hx:x<n)(hx':x'<n)(hy:y<n)(e:s x y=s x' y):x=x':=Gp ((h.col y hy).nodup_iff.mpr Vm) hx hx' e
section
variable {n:Nat}{ss:List (Nat->Nat->Nat)}
theorem Net.pair(H:Net n ss):(qd ss).Pairwise (kr n):=by
 refine Vf.mpr ⟨λs hs=>?_,Vf.mpr ⟨λs hs=>?_,H.Tu⟩⟩
 ·rcases AP.mp hs with rfl|hs
  ·exact λx y x' y' _ _ _ _ e f=>⟨e,f⟩
  ·exact λx y x' y' a b c d e f=>⟨e,(H.lat s hs).apC a b d (by have e:x=x':=e;subst e;exact f)⟩
 ·exact λx y x' y' a b c d e f=>⟨(H.lat s hs).apE a c b (by have e:y=y':=e;subst e;exact f),e⟩
theorem Net.small(H:Net n ss){s:Nat->Nat->Nat}(hs:s∈qd ss)(hx:x<n)(hy:y<n):s x y<n:=by
 rcases AP.mp hs with rfl|hs
 ·exact hx
 rcases AP.mp hs with rfl|hs
 ·exact hy
 ·exact(H.lat s hs).lt hx hy
theorem xJ(ht:t<(qd ss).length)(i:Nat):pM n ss t i=(qd ss)[t] (i/n) (i % n):=by
 unfold pM;rw[acU,T7,U7,I8 ht];rfl
theorem Net.oa(H:Net n ss):OA n (ss.length+2) (pM n ss):=by
 have dv:∀i,i<n*n->i/n<n:=λi hi=>WM hi
 have md:∀i,i % n<n:=λi=>V7 _ (by have:=H.two;omega)
 constructor
 ·intro t i ht hi;rw[xJ ht];exact H.small (U6 _) (dv i hi) (md i)
 ·intro t u i j ht hu ne hi hj e f;rw[xJ ht,xJ ht]at e;rw[xJ hu,xJ hu]at f;have I:kr n (qd ss)[t] (qd ss)[u]:=by
   rcases Zo ne with h|h
   ·exact Vt.mp H.pair t u ht hu h
   ·exact kr.symm (Vt.mp H.pair u t hu ht h)
  have:=I _ _ _ _ (dv i hi) (md i) (dv j hj) (md j) e f;rw[<-Xk i n,<-Xk j n,this.1,this.2]
theorem Gn(i j:Nat):dF n ss i j=(θ (ss.length+2)).any λt=>decide (pM n ss t i=pM n ss t j):=Tr (GL _ _ _) (GL _ _ _)
theorem Fx(i:Nat):dI (n*n) (dF n ss) i=(θ (n*n)).filter (iT (ss.length+2) (pM n ss) i):=by
 unfold dI iT;simp only[Gn]
theorem iA{f:Nat->Nat->Bool}(hi:i<N):(bw N f).getD i []=dI N f i:=by
 unfold bw;rw[T7,U7,VC hi];rfl
theorem jK{f:Nat->Nat->Bool}:j∈dI N f i↔j<N/\j≠i/\f i j=G:=by
 unfold dI;simp[Uy]
theorem ak2{f:Nat->Nat->Bool}(h:N<64):Wk (bw N f):=by
 refine⟨by rw[fN];exact h,λr hr=>?_⟩
 obtain⟨i,_,rfl⟩:=H8.mp hr;exact⟨Wz Wy Xx,λx hx=>by rw[fN];exact(jK.mp hx).1⟩
theorem ue:p∈cu w↔p.1<w.length/\p.2∈w.getD p.1 []/\p.1<p.2:=by
 unfold cu;rw[o8]
 constructor
 ·rintro ⟨l,hl,hp⟩
  obtain⟨i,hi,rfl⟩:=X7.mp hl;unfold jN at hp;obtain⟨j,hj,rfl⟩:=H8.mp hp;rw[Uy]at hj;refine⟨hi,?_,of_decide_eq_true hj.2⟩;simp only[T7,I8 hi];exact hj.1
 ·rintro ⟨h,a,b⟩
  refine⟨_,X7.mpr ⟨p.1,h,rfl⟩,H8.mpr ⟨p.2,Uy.mpr ⟨?_,decide_eq_true b⟩,rfl⟩⟩;simp only[T7,I8 h]at a;exact a
theorem zD:∀{ps:List (Nat×Nat)},(∀p∈ps,cV w p=s)->gA w ps=Z
 |[],_=>rfl
 |p::ps,h=>by
  unfold gA mU;rw[Wl];intro q hq;rw[h p (.head _),h q hq];simp
theorem LY:∀{ps:List (Nat×Nat)},(∀p∈ps,cV w p=s)->ps≠[]->f6 w ps=O s
 |[],_,h=>absurd rfl h
 |p::ps,h,_=>by show O (cV w p)=_;rw[h p (.head _)]
theorem NO(h:∀r∈w,r.length=k)(h0:0<w.length):m9 w=Z:=by
 unfold m9;rw[YI];intro r hr;have:w.getD 0 []∈w:=by
  rw[T7,I8 h0];exact U6 _
 rw[h r hr,h _ this];simp
theorem Net.mC(H:Net n ss)(hi:i<n*n):(dI (n*n) (dF n ss) i).length=(ss.length+2)*(n-1):=by
 rw[Fx,oN,H.oa.degree ∅ hi]
theorem Net.comm(H:Net n ss)(hi:i<n*n)(hj:j<n*n):cV (bw (n*n) (dF n ss)) (i,j)=sm (n*n) (λe=>(iT (ss.length+2) (pM n ss) i e&&iT (ss.length+2) (pM n ss) j e).toNat):=by
 unfold cV;rw[iA hi,iA hj,<-oN];refine(Ii (Wz Wy Vm) λx=>?_).symm
 rw[Fx,Fx];simp only[Uy,T5];exact⟨λq=>⟨⟨q.1,q.2.1⟩,q.1,q.2.2⟩,λq=>⟨q.1.1,q.1.2,q.2.2⟩⟩
theorem Net.near(H:Net n ss)(hp:p∈cu (bw (n*n) (dF n ss))):cV (bw (n*n) (dF n ss)) p=n-2+(ss.length+1)*ss.length:=by
 obtain⟨h1,h2,h3⟩:=ue.mp hp;rw[fN]at h1;rw[iA h1]at h2;obtain⟨a,b,e⟩:=jK.mp h2;rw[Gn]at e;obtain⟨t,ht,e⟩:=Vh.mp e;have:=H.oa.ami ∅ h1 a ∅ (gq.mp ht) (of_decide_eq_true e)
 rw[<-H.comm h1 a]at this;exact this
theorem Net.cL(H:Net n ss)(hp:p∈cu (dM (bw (n*n) (dF n ss)))):cV (bw (n*n) (dF n ss)) p=(ss.length+2)*(ss.length+1):=by
 obtain⟨h1,h2,h3⟩:=ue.mp hp;unfold dM at h1 h2;rw[fN,fN]at h1;rw[fN,iA h1]at h2;obtain⟨a,b,e⟩:=jK.mp h2;unfold nk at e;rw[iA h1]at e;have e:¬p.2∈dI (n*n) (dF n ss) p.1:=by simpa using e
 have q:dF n ss p.1 p.2=ξ:=by
  cases q:dF n ss p.1 p.2 with
  |true=>exact absurd (jK.mpr ⟨a,b,q⟩) e
  |false=>rfl
 rw[Gn]at q;have:=H.oa.apart h1 a λt ht x=>by
  have:=Z8.mp q t (gq.mpr ht);exact this (decide_eq_true x)
 rw[<-H.comm h1 a]at this;exact this
theorem Net.amk(H:Net n ss):cu (bw (n*n) (dF n ss))≠[]:=by
 have n2:=H.two;have h0:0<n*n:=Wf ∅ ∅
 have d:=H.mC h0;have:0<(ss.length+2)*(n-1):=Wf ∅ ∅
 obtain⟨j,hj⟩:∃j,j∈dI (n*n) (dF n ss) 0:=List.exists_mem_of_length_pos ∅
 intro e;have hm:(0,j)∈cu (bw (n*n) (dF n ss)):=ue.mpr ⟨by rw[fN];exact h0,by rw[iA h0];exact hj,by have:=(jK.mp hj).2.1;show 0<j;omega⟩
 rw[e]at hm;cases hm
theorem Net.ahM(H:Net n ss)(hc:ss.length=n-1):cu (dM (bw (n*n) (dF n ss)))=[]:=by
 have n2:=H.two;apply List.eq_nil_iff_forall_not_mem.mpr;intro p hp;obtain⟨h1,h2,h3⟩:=ue.mp hp;unfold dM at h1 h2;rw[fN,fN]at h1;rw[fN,iA h1]at h2;obtain⟨a,b,e⟩:=jK.mp h2;unfold nk at e;rw[iA h1]at e;have e:¬p.2∈dI (n*n) (dF n ss) p.1:=by simpa using e
 have d:=H.mC h1;have nd:(p.1::p.2::dI (n*n) (dF n ss) p.1).Nodup:=by
  refine VB.mpr ⟨λm=>?_,VB.mpr ⟨e,Wz Wy Vm⟩⟩
  rcases AP.mp m with m|m
  ·omega
  ·exact(jK.mp m).2.1 rfl
 have:=O3 (n*n) _ nd λx hx=>by
  rcases AP.mp hx with rfl|hx
  ·exact h1
  rcases AP.mp hx with rfl|hx
  ·exact a
  ·exact(jK.mp hx).1
 simp only[U0]at this;rw[d,hc]at this;obtain⟨k,rfl⟩:∃k,n=k+1:=⟨n-1,∅⟩
 simp only[o7]at this;have x:(k+1)*(k+1)=(k+2)*k+1:=by simp only[Yc,Yd,X0,Nat.one_mul];omega
 omega
theorem Net.ahN(H:Net n ss)(hc:ss.length≠n-1):cu (dM (bw (n*n) (dF n ss)))≠[]:=by
 have n2:=H.two;have fw:=H.few;have h0:0<n*n:=Wf ∅ ∅
 have d:=H.mC h0;intro e;have all:∀j,j<n*n->j≠0->j∈dI (n*n) (dF n ss) 0:=λj hj h=>Vr λq=>by
  have hm:(0,j)∈cu (dM (bw (n*n) (dF n ss))):=by
   refine ue.mpr ⟨by unfold dM;rw[fN,fN];exact h0,?_,by show 0<j;omega⟩
   unfold dM;rw[fN];show j∈(bw (n*n) (nk (bw (n*n) (dF n ss)))).getD 0 [];rw[iA h0];refine jK.mpr ⟨hj,h,?_⟩;unfold nk;rw[iA h0]
   simpa using q
  rw[e]at hm;cases hm
 have le:n*n-1<=(dI (n*n) (dF n ss) 0).length:=by
  have e1:(dI (n*n) (dF n ss) 0).length=sm (n*n) λj=>(decide (j≠0)&&dF n ss 0 j).toNat:=oN _ _
  rw[e1,fH (g:=λj=>if j=0 then 0 else 1),kG 0 1 h0]
  ·omega
  ·intro j hj
   by_cases x:j=0
   ·simp[x]
   ·have:=(jK.mp (all j hj x)).2.2;simp[x,this]
 rw[d]at le;have lt:(ss.length+2)*(n-1)<=n*(n-1):=XC _ ∅
 obtain⟨k,rfl⟩:∃k,n=k+1:=⟨n-1,∅⟩
 simp only[o7]at lt le;have x:(k+1)*(k+1)=(k+1)*k+k+1:=by simp only[Yc,Yd,X0,Nat.one_mul];omega
 omega
end
theorem LI:∀{l:List Int},(∀y∈l,y=x)->l.sum=l.length*x
 |[],_=>by simp
 |y::l,h=>by
  rw[List.sum_cons,LI λz hz=>h z (.tail _ hz),h y (.head _),U0]
  have:(((l.length+1:Nat)))=(l.length:Int)+1:=∅
  rw[this,Int.add_mul,Int.one_mul,Int.add_comm]
theorem amO{x:Nat}{S:Int}(hd:d e c=.ok (bG w) c)(hw:w.length<1000)(hx:∀r∈w,r.length=x)(hS:S=(w.length:Int)*x):aO qG (ao (aX (c9 d) [Z] (aA 0) aP (aO bD ⇑0)) av) e c=.ok (.int S) c:=by
 have sz:=mZ;have hs:c9 d e c=.ok ⟨w.map λr=>D.tup (nD r),λ_=>True⟩ c:=by
  unfold c9;rw[hd];rfl
 have hc:=pL (E:=[]) (a:=aO bD _) (c:=c) (λr:List Nat=>D.tup (nD r)) (λr:List Nat=>D.int (r.length)) w Z [] (λr _=>ko (d1:=ak 0) rfl (by unfold bD;simp[fU,nD]))
 rw[UG]at hc;have hm:(w.map λr:List Nat=>D.int (r.length))=(w.map λr=>((r.length):Int)).map D.int:=by rw[UB];rfl
 refine ko (x:=.lst ((w.map λr=>((r.length):Int)).map D.int)) ?_ ?_
 ·rw[gy,hs,R.aF];dsimp only;rw[if_pos (by simp;omega),show cX [Z] e=[Z]from rfl,hc,R.aF,hm]
 ·rw[sum_ints,LI (x:=(x:Int)),T6,hS];intro y hy;obtain⟨r,hr,rfl⟩:=H8.mp hy;rw[hx r hr]
theorem KR(i:Int)(c:aa):j3 [.int i] c=.ok (.bl G) c:=by simp[j3,nW]
theorem within_int(i lo hi:Int)(c:aa):dP [.int i,.int lo,.int hi] c=.ok (.bl (decide (lo<=i)&&decide (i<=hi))) c:=by
 simp[dP,mJ,KR]
 by_cases q:lo<=i<;>simp[q]
theorem tabs_ok:(bU.all λf=>decide (iC lF f.q=O [(f.p:Int),f.n,f.low]))=G:=by decide +kernel
theorem zH(h:f∈bU):iC lF f.q=O [(f.p:Int),f.n,f.low]:=by
 have:=Iv.mp tabs_ok f h
 simpa using this
theorem adF(h:f∈bU)(c:aa):AY [.int f.q] c=.ok (.bl G) c:=by
 simp[AY,DF,KR,zH h]
theorem FF(h:f∈bU)(c:aa):nB [.int f.q] c=.ok .aJ c:=by
 simp[nB,Dh,adF h]
theorem Ll(h:f∈bU){x y:Int}(x0:0<=x)(x1:x<f.q)(y0:0<=y)(y1:y<f.q)(c:aa):rm [.int f.q,.tup [.int x,.int y]] c=.ok .aJ c:=by
 have a1:x<=(f.q)-1:=∅
 have a2:y<=(f.q)-1:=∅
 simp[rm,De,FF h,within_int,x0,y0,a1,a2]
def zV:ah:=(aC (dw (gx (ak 3) (au bZ (ak 4) (ak 2)))) (aG 4 (au fu (ak 4) (ak 2))))
theorem ant{c:aa}{left:Int}{acc:List D}(hp:0<p)(dQ:p<1000)(ha:acc.length<1000):zV [a0,a1,O (.int p),O (.ref c.length),O (.int left),v5] (c++[.lst acc]) =
  .ok (.nx [a0,a1,O (.int p),O (.ref c.length),O (.int (left/p)),v5]) (c++[.lst (acc++[.int (left % p)])]):=by
 unfold zV;rw[i8,kD,(DQ (c:=c) (acc:=acc) (y:=.int (left % p)) (dO:=ak 3) (da:=au bZ (ak 4) (ak 2)) (e:=[a0,a1,O (.int p),O (.ref c.length),O (.int left),v5]) (by simp) (by simp(disch:=omega) [gT]) rfl (by have:=dS (n:=1000) ⋯;omega))]
 simp(disch:=omega) [i6]
theorem Nr{c:aa}(hp:0<p)(dQ:p<1000):∀(items:List D) (left:Int) (acc:List D) (v5:Option D),acc.length+items.length<1000 ->
  ∃l' ak3,cZ (λ_=>True) (aA 5) zV items [a0,a1,O (.int p),O (.ref c.length),O (.int left),v5] (c++[.lst acc]) =
   .ok (.nx [a0,a1,O (.int p),O (.ref c.length),O (.int l'),ak3]) (c++[.lst (acc++(bK p items.length left).map D.int)])
 |[],left,acc,v5,_=>⟨left,v5,by simp[bK]⟩
 |x::xs,left,acc,v5,h=>by
  simp at h;obtain⟨l',v',ih⟩:=Nr hp dQ xs _ (acc++[.int _]) _ (by simp;omega)
  rw[kg];simp;rw[ant hp dQ ∅]
  simp;rw[ih];simp[bK]
theorem anq{low:Int}(ht:iC lF q=O [p,N,low])(hp:0<p)(dQ:p<1000)(hl:(aY 0 N).length=n)(hn:n<1000)(b1:-4611686018427387904<=N/\N<4611686018427387904)(x:Int)(c:aa):
  jx [.int q,.int x] c=.ok (.lst ((bK p n x).map D.int)) c:=by
 obtain⟨l',v',hf⟩:=Nr (c:=c) (a1:=O _) hp dQ _ x [] Z (by rw[hl,Uc];omega)
 rw[hl,UG]at hf;unfold zV at hf;simp[jx,Dc,ht];rw[if_pos b1];simp;rw[hf];simp[cU,t8]
theorem zT(h:f∈bU)(x:Int)(c:aa):jx [.int f.q,.int x] c=.ok (.lst ((bK f.p f.n x).map D.int)) c:=by
 have I:=gc h;have p2:=I.p2;have gO:=I.gO;have n5:=I.n5;exact anq (zH h) ∅ ∅ (by rw[eY];omega) ∅ ∅ x c
def AD:ah:=(aG 3 (au aZ (au aT (ak 3) (ak 2)) (au bZ (ak 4) (ak 2))))
theorem OU(p:Int):∀r:List Int,r.foldr (λd n=>n*p+d % p) 0=fQ p r
 |[]=>rfl
 |d::r=>by simp only[Yl,OU p r,fQ]
theorem OT(hp:0<p)(dQ:p<1000):∀(ds:List Int) (acc:Int) (v4:Option D),
  ∃v',cZ (λ_=>True) (aA 4) AD (ds.map D.int) [a0,a1,O (.int p),O (.int acc),v4] c=.ok (.nx [a0,a1,O (.int p),O (.int (ds.foldl (λn d=>n*p+d % p) acc)),v']) c
 |[],acc,v4=>⟨v4,by simp⟩
 |d::ds,acc,v4=>by
  obtain⟨v',ih⟩:=OT hp dQ ds _ _;refine⟨v',?_⟩;rw[T8,kg];simp only[KO,VS,Vc,R.aF];have e:AD [a0,a1,O (.int p),O (.int acc),O (.int d)] c=.ok (.nx [a0,a1,O (.int p),O (.int (acc*p+d % p)),O (.int d)]) c:=by
   simp(disch:=omega) [AD,mul_r,gT]
  rw[e];simp only[R.aF];rw[ih];simp
theorem OP(h:f∈bU)(r:List Int)(c:aa):rq [.int f.q,.lst (r.map D.int)] c=.ok (.int (fQ f.p r)) c:=by
 have I:=gc h;have p2:=I.p2;have gO:=I.gO;obtain⟨v',hf⟩:=OT (a0:=O _) (p:=f.p) ∅ ∅ r.reverse 0 Z
 rw[Ym,OU,o6]at hf;unfold AD at hf;simp[rq,Dl,zH h];rw[hf];simp
theorem alB(h:f∈bU){x y:Int}(x0:0<=x)(x1:x<f.q)(y0:0<=y)(y1:y<f.q)(c:aa):xm [.int f.q,.int x,.int y] c=.ok (.int (vS f.p f.n x y)) c:=by
 have n5:=(gc h).n5;have hs:=dS (n:=1000) ⋯
 have hz:f.n<Ω:=∅
 have hc:=CU (st:=λ_=>True/\True) (c:=c) ⟨trivial,trivial⟩ (a:=au bO (ak 0) (ak 1)) (· - ·) [] (bK f.p f.n x) (bK f.p f.n y) Z Z [] (λu _ v _=>by simp)
 have hn:=OP h (List.zipWith (· - ·) (bK f.p f.n x) (bK f.p f.n y)) c;simp[xm,C6,Ll h x0 x1 y0 y1,zT h,jo,gb,hz,cX];simp at hc hn;rw[hc];simp[hn,vS]
theorem ahG:∀{r:List Int},r≠[]->dB (r.map D.int) (-1)=O (.int (pN r)):=by
 have gen:∀r:List Int,r≠[]->(r.map D.int)[r.length-1]? = O (.int (pN r)):=by
  intro r
  induction r with
  |nil=>intro h;exact absurd rfl h
  |cons a r ih =>
   intro _;cases r with
   |nil=>rfl
   |cons b r =>
    have:=ih (by simp)
    simpa[pN]using this
 intro r hr;have hl:0<r.length:=List.length_pos_iff.mpr hr;have g:=gen r hr;unfold dB gu;rw[T6,if_neg ⋯,if_pos ∅]
 rw[show((-1:Int)+(r.length:Int)).toNat=r.length-1 by omega]
 exact g
theorem Fz(hp:0<p):∀(n:Nat) (x:Int),∀d∈bK p n x,0<=d/\d<p
 |0,x,d,h=>by cases h
 |n+1,x,d,h=>by
  rcases AP.mp h with rfl|h
  ·exact⟨VN _ ∅,VM _ hp⟩
  ·exact Fz hp n _ d h
theorem aez(h:f∈bU){r:List Int}(hr:r.length=f.n)(c:aa):ug [.int f.q,.lst (r.map D.int)] c=.ok (.lst ((jm (bK f.p f.n f.low) r).map D.int)) c:=by
 have I:=gc h;have n1:=I.n1;have n5:=I.n5;have p2:=I.p2;have gO:=I.gO;have hs:=dS (n:=1000) ⋯
 have hz:f.n<Ω:=∅
 have hz2:1+r.length<=Ω:=∅
 have hne:r≠[]:=by intro z;subst z;simp at hr;omega
 have hb:=Fz (p:=f.p) ∅ f.n f.low
 have hc:=CU (st:=λ_=>True/\True) (c:=c) ⟨trivial,trivial⟩ (a:=au bO (ak 0) (au aT (au aD (ak 2) (mD wO (dC (.int 1)))) (ak 1))) (λb d=>b-pN r*d) [O (.lst (r.map D.int))] (0::r) (bK f.p f.n f.low) Z Z [] (λu _ v hv=>by
  have:=hb v hv;have e:aT (.int _) (.int v) c=.ok (.int (pN r*v)) c:=mul_r c ∅ ∅
  simp[ahG hne,e])
 simp[ug,C4,zH h,zT h,fY,jo,gb,hz,hz2,cX];simp at hc;rw[if_pos (by rw[hr];omega)]
 rw[hc];have hr:=t8 (l:=jm (bK f.p f.n f.low) r);simp[jm]at hr;simp[jm,hr]
def wY:ah:=(aG 4 (aX (ki (ao (aB 2 ug (0⊂4)) ⇑3)) [Z,Z,O 5] (dU 2 (bR (aA 0) (bR (aA 1) eT))) aP (au aZ (ak 0) (au aT (ak 2) (ak 1)))))
theorem Lh{low r:List Int}(hl:low.length=n)(hr:r.length=n):(jm low r).length=n:=by
 simp[jm,hl,hr]
theorem acv(h:f∈bU){ry r:List Int}(hy:ry.length=f.n)(hr:r.length=f.n)(d0:0<=d)(d1:d<1000)(c:aa)(a1 a2:Option D):
  wY [O (.int f.q),a1,a2,O (.lst (ry.map D.int)),O (.lst (r.map D.int)),O (.int d)] c =
   .ok (.nx [O (.int f.q),a1,a2,O (.lst (ry.map D.int)),O (.lst ((List.zipWith (λa b=>a+d*b) (jm (bK f.p f.n f.low) r) ry).map D.int)),O (.int d)]) c:=by
 have n5:=(gc h).n5;have hs:=dS (n:=1000) ⋯
 have hz:f.n<Ω:=∅
 have hc:=CU (st:=λ_=>True/\True) (c:=c) ⟨trivial,trivial⟩ (a:=au aZ (ak 0) (au aT (ak 2) (ak 1))) (λa b=>a+d*b) [O (.int d)] (jm (bK f.p f.n f.low) r) ry Z Z [] (λu _ v hv=>by
  have e:aT (.int d) (.int v) c=.ok (.int (d*v)) c:=gS c ∅ ∅
  simp[e])
 simp[wY,aez h hr,jo,(Lh (gb _ _ _) hr),hy,hz,cX];simp at hc;rw[hc];simp
theorem Px(h:f∈bU){ry:List Int}(hy:ry.length=f.n)(c:aa)(a1 a2:Option D):∀(ds r:List Int) (v5:Option D),r.length=f.n->(∀d∈ds,0<=d/\d<1000) ->
  ∃v',cZ (λ_=>True) (aA 5) wY (ds.map D.int) [O (.int f.q),a1,a2,O (.lst (ry.map D.int)),O (.lst (r.map D.int)),v5] c =
   .ok (.nx [O (.int f.q),a1,a2,O (.lst (ry.map D.int)),O (.lst ((ds.foldl (λr d=>List.zipWith (λa b=>a+d*b) (jm (bK f.p f.n f.low) r) ry) r).map D.int)),v']) c
 |[],r,v5,_,_=>⟨v5,by simp⟩
 |d::ds,r,v5,hr,hd=>by
  have hd0:=hd d Ub;have hl:(List.zipWith (λa b=>a+d*b) (jm (bK f.p f.n f.low) r) ry).length=f.n:=by
   rw[YW,Lh (gb _ _ _) hr,hy];omega
  obtain⟨v',ih⟩:=Px h hy c a1 a2 ds _ _ hl λx hx=>hd x (UP _ hx)
  refine⟨v',?_⟩;rw[T8,kg];simp only[KO,VS,Vc,R.aF];rw[acv h hy hr hd0.1 hd0.2];simp only[R.aF];rw[ih,Vj]
theorem Py(low ry:List Int):∀rx:List Int,rx.foldr (λd r=>List.zipWith (λa b=>a+d*b) (jm low r) ry) (ry.map λ_=>0)=mulR low ry rx
 |[]=>rfl
 |d::rx=>by rw[Yl,Py low ry rx];rfl
theorem zeros(ry:List Int):(ο ry.length [D.int 0]).flatten=(ry.map λ_=>(0:Int)).map D.int:=by
 induction ry with
 |nil=>rfl
 |cons a r ih=>rw[U0,Va,Vx,ih];rfl
theorem aoY{N:Int}(hN:N.toNat=n)(b:-9223372036854775808<=N/\N<9223372036854775808/\n<=Ω)(c:aa):tG (.lst [.int 0]) (.int N) c=.ok (.lst (ο n [D.int 0]).flatten) c:=by
 rw[aln,hN,if_pos ⟨∅,∅,by simp only[U0,Uc];omega⟩]
def bM(L:List D->aa->R D)(Rp:D->D->aa->R D):ah:=(aC (dw (aB 2 rm (ao (ak 0) (ao (ck (1⊂2)) av)))) (aC (aG 3 (aB 2 jx (0⊂2))) (aC (aG 4 (au Rp (cE (ao (dC (.int 0)) av)) (aO L ⇑3))) (aC (bY (yq (ao (aB 2 jx (0⊂1)) av)) (aA 5) (aG 4 (aX (ki (ao (aB 2 ug (0⊂4)) ⇑3)) [Z,Z,O 5] (dU 2 (bR (aA 0) (bR (aA 1) eT))) aP (au aZ (ak 0) (au aT (ak 2) (ak 1)))))) (aK (aB 2 rq (0⊂4)))))))
theorem ahE:Dm=bM bD tG:=rfl
theorem acz{L:List D->aa->R D}{Rp:D->D->aa->R D}(h0:rm [.int q,.tup [.int x,.int y]] c=.ok .aJ c)(h1:jx [.int q,.int y] c=.ok (.lst ry) c)(h2:jx [.int q,.int x] c=.ok (.lst rx) c)(hlen:L [.lst ry] c=.ok (.int N) c)(hrep:Rp (.lst [.int 0]) (.int N) c=.ok (.lst η) c)(hf:cZ (λ_=>True) (aA 5) wY rx.reverse [O (.int q),O (.int x),O (.int y),O (.lst ry),O (.lst η),Z] c=.ok (.nx [O (.int q),O (.int x),O (.int y),O (.lst ry),O (.lst Y),v']) c)(hn:rq [.int q,.lst Y] c=.ok (.int w) c):bh 6 ξ (bM L Rp) [.int q,.int x,.int y] c=.ok (.int w) c:=by
 unfold wY at hf;simp[bM,h0,h1,h2,hlen,hrep,hf,hn]
theorem acy(h:f∈bU){x y:Int}(x0:0<=x)(x1:x<f.q)(y0:0<=y)(y1:y<f.q)(c:aa):uo [.int f.q,.int x,.int y] c=.ok (.int (AM f.p f.n f.low x y)) c:=by
 have I:=gc h;have n5:=I.n5;have p2:=I.p2;have gO:=I.gO;have hs:=dS (n:=1000) ⋯
 have hb:=Fz (p:=f.p) ∅ f.n x
 obtain⟨v',hf⟩:=Px h (gb f.p f.n y) c (O (.int x)) (O (.int y)) (bK f.p f.n x).reverse ((bK f.p f.n y).map λ_=>0) Z (by simp[gb]) (λd hd=>by
  have:=hb d (eo.mp hd);omega)
 rw[Ym,Py,o6]at hf;have z0:=zeros (bK f.p f.n y);rw[gb]at z0;have hlen:bD [.lst ((bK f.p f.n y).map D.int)] c=.ok (.int (f.n:Int)) c:=by
  rw[EI,T6,gb]
 have hrep:=aoY (N:=f.n) (n:=f.n) ∅ ∅ c
 rw[z0]at hrep;rw[uo,ahE];exact acz (Ll h x0 x1 y0 y1 c) (zT h y c) (zT h x c) hlen hrep hf (OP h (mulR (bK f.p f.n f.low) (bK f.p f.n y) (bK f.p f.n x)) c)
theorem acB(h:f∈bU)(hx:x<f.q)(hy:y<f.q)(c:aa):uo [.int f.q,.int x,.int y] c=.ok (.int (M f x y:Nat)) c:=by
 rw[acy h ∅ ∅ ∅ ∅]
 have:=(gc h).mm x y hx hy;unfold mI at this;rw[this]
def jP(f:Fd):List Nat:=(θ (f.q-1)).map λt=>M f (t+1) (t+1)
def vX:af:=(aB 3 uo (ao (ak 1) (0⊂0)))
def zM(f:Fd):D->D
 |.int i=>.int (M f i.toNat i.toNat:Nat)
 |d=>d
theorem anl(f:Fd):(aY 1 (f.q:Int)).map (zM f)=nD (jP f):=by
 unfold aY nD jP;rw[UB,UB,show((f.q:Int)-1).toNat=f.q-1 by omega]
 refine VD λt _=>?_
 have e:(1+(t:Int)).toNat=t+1:=∅
 simp[zM,e]
theorem amr(h:f∈bU)(c:aa):bT (λ_=>True) (aA 0) aP vX (aY 1 (f.q:Int)) [Z,O (.int f.q)] [] c=.ok (nD (jP f)) c:=by
 have:=mE (c:=c) (g:=aA 0) (t:=aP) (a:=vX) (λe=>∃v,e=[v,O (.int f.q)]) (λ_=>G) (zM f) (aY 1 (f.q)) [Z,O _] [] ⟨_,rfl⟩ (λd hd e ⟨v,he⟩=>by
  subst he;obtain⟨i,rfl,i0,i1⟩:=qZ hd;obtain⟨t,rfl⟩:=qY (i:=i) ∅
  have ht:t<f.q:=∅
  refine⟨_,rfl,⟨_,rfl⟩,rfl,λ_=>?_⟩
  simp only[vX,zM,x_call,b7,cg,gz,gs,cj,R.aF,Vc,U0,Uc,if_pos,(acB h ht ht c),WG])
 rw[this,UG,HH,anl]
theorem amG{ns:List Nat}(ha:a e c0=.ok [.lst (nD ns)] c)(h:ns.length<64)(hx:∀x∈ns,x<128):nR a e c0=.ok (.lst (nD (cC ns))) c:=by
 rw[alh,ha,R.aF];dsimp only;rw[adh];dsimp only;rw[wW (VH (LO ns) h) hx]
theorem amq(b1:-4611686018427387904<=q/\q<4611686018427387904)(hl:(aY 1 q).length<Ω)(hc:bT (λ_=>True) (aA 0) aP vX (aY 1 q) [Z,O (.int q)] [] c=.ok l c):
  ao (aX (kj (ao (dC (.int 1)) ⇑0)) [Z,O 0] (aA 0) aP vX) av [O (.int q)] c=.ok [.lst l] c:=by
 simp[cX];rw[if_pos ⟨∅,∅⟩]
 simp;rw[if_pos hl,hc];simp
theorem amt(h0:nB [.int q] c=.ok .aJ c)(hS:S [O (.int q)] c=.ok (.lst l) c)(nr:bW l=G):
  bh 1 ξ (aC (dw (aB 1 nB ⇑0)) (aK S)) [.int q] c=.ok (.lst l) c:=by
 simp[h0,hS,nr]
theorem LQ(h:f∈bU):(jP f).length<64/\∀x∈jP f,x<128:=by
 have hq:=tK h;refine⟨by simp[jP];omega,λx hx=>?_⟩
 obtain⟨t,_,rfl⟩:=H8.mp hx;have:=aij (gc h) (t+1) (t+1);omega
theorem am8(h:f∈bU)(c:aa):AO [.int f.q] c=.ok (.lst (nD (cC (jP f)))) c:=by
 have hq:=tK h;have hs:=dS (n:=1000) ⋯
 exact amt (FF h c) (amG (amq ∅ (by rw[eY];omega) (amr h c)) (LQ h).1 (LQ h).2) (qV _)
structure EW (N:Nat) (f:Nat->Nat->Bool):Prop where
 lo:1<=N
 hi:N<=49
 sy:∀i j,i<N->j<N->f i j=f j i
 pl:m9 (bw N f)=Z
 nr:gA (bw N f) (cu (bw N f))=Z
 fr:gA (bw N f) (cu (dM (bw N f)))=Z
theorem ald:∀{ps:List (Nat×Nat)},gA w ps=Z->f6 w ps=O s->∀p∈ps,cV w p=s
 |[],_,h=>by cases h
 |p::ps,h,hs=>λq hq=>by
  have hs:=U9 hs;have h:=h;have:=Wl.mp h q hq;rw[<-hs]
  simpa using this
section
variable {N:Nat}{f:Nat->Nat->Bool}{a b:Nat}
def kN(N:Nat)(f:Nat->Nat->Bool):Nat:=((bw N f).getD 0 []).length
theorem EW.mC(E:EW N f)(hi:i<N):(dI N f i).length=kN N f:=by
 have h:=YI.mp E.pl _ (H8.mpr ⟨i,gq.mpr hi,rfl⟩);exact Vr (of_decide_eq_false h)
theorem anv(N:Nat)(f:Nat->Nat->Bool)(i:Nat):(dI N f i).Nodup:=Wz Wy Vm
theorem agS(hi:i<N)(hj:j<N):((dI N f i).filter λx=>decide (x∈dI N f j)).length=cV (bw N f) (i,j):=by
 unfold cV;rw[iA hi,iA hj];refine Ii (Wz Wy (anv N f i)) λx=>?_
 rw[Uy,decide_eq_true_eq]
end
theorem Sb(h:d e c=.ok v c'):dw d e c=.ok (.nx e) c':=by rw[kD,h];rfl
theorem yC{m:List D->aa->R D}(h1:d1 e c=.ok x c1)(h:m [x] c1=.ok v c2):aB 1 m (ao d1 av) e c=.ok v c2:=by
 simp only[x_call,b7,h1,cj,R.aF];rw[if_pos (by rfl)];exact h
theorem ahr{m:List D->aa->R D}(h1:d1 e c=.ok x c1)(h2:d2 e c1=.ok y c2)(h:m [x,y] c2=.ok v c3):aB 2 m (ao d1 (ao d2 av)) e c=.ok v c3:=by
 simp only[x_call,b7,h1,h2,cj,R.aF];rw[if_pos (by rfl)];exact h
theorem mG(h:d e c=.ok (.bl b) c'):aN d e c=.ok b c':=by rw[zx,h];rfl
theorem uD(h:t e c=.ok ξ c'):bz t s bA e c=.ok (.nx e) c':=by
 rw[kC,h];rfl
theorem Oe(h1:t e c=.ok ξ c1)(h2:u e c1=.ok ξ c2):fy t u e c=.ok ξ c2:=by
 unfold fy;rw[h1]
 first
  |exact h2
  |(rw[if_neg ⋯];exact h2)
  |(simp;exact h2)
theorem Fc(h:d e c=.ok v c'):aG i d e c=.ok (.nx (e.set i (O v))) c':=by rw[iL,h];rfl
theorem Sy{xs:List D}(h1:d e c=.ok x c)(h2:r e c=.ok xs c):ao d r e c=.ok (x::xs) c:=by rw[b7,h1,R.aF,h2,R.aF]
theorem acg:av e c=.ok [] c:=rfl
theorem zG(hp:ak i e c=.ok (.ref j) c)(ha:a e c=.ok (.int q) c)(ht:cI [.ref j,.int q] c=.ok (.int y) c'):aB 2 cI (ao (ak i) (ao a av)) e c=.ok (.int y) c':=by
 unfold aB
 rwa[Sy hp (Sy ha acg),R.aF]
theorem apQ{xs:List D}{y:Int}(hl:l e c=.ok (.lst xs) c)(ha:a e c=.ok (.int y) c')(y0:0<=y)(y1:y<xs.length):∃d∈xs,au aD l a e c=.ok d c':=by
 refine⟨xs[y.toNat],U6 _,?_⟩;rw[eO,hl,R.aF,ha,R.aF];exact xS (i:=y.toNat) ∅ (I8 ∅) c'
theorem aoa{xs:List D}(h:b (cW n xs) c=.ok (.rt v) c')(hv:noRef v=G)(hr:∀k,v≠.ref k):bh n ξ b xs c=.ok v (c'.take c.length):=by
 rw[fF,h];simp;cases v<;>first|exact absurd rfl (hr _)|(unfold cU;dsimp only;rw[if_pos hv])
theorem EW.ev{f:Nat->Nat->Bool}(E:EW N f):ym (bw N f)=.tup [.str "even",.tup [.int ((N:Nat):Int),.int ((kN N f:Nat):Int),gp (f6 (bw N f) (cu (bw N f))),gp (f6 (bw N f) (cu (dM (bw N f))))]]:=by
 unfold ym;rw[E.pl];rw[E.nr];rw[E.fr];dsimp only;rw[fN];rfl
theorem Tq:∀p q:List Nat,qm p q=qm q p
 |[],[]=>rfl
 |[],_::_=>rfl
 |_::_,[]=>rfl
 |a::p,b::q=>by
  have ih:=Tq p q;unfold qm at ih ⊢;rw[Vo,Vo,XA,XA,ih]
  congr 1
  exact decide_eq_decide.mpr ⟨Eq.symm,Eq.symm⟩
theorem aco(n:Nat)(ss:List (Nat->Nat->Nat))(i j:Nat):dF n ss i j=dF n ss j i:=Tq _ _
theorem Net.ew{ss:List (Nat->Nat->Nat)}(H:Net n ss):EW (n*n) (dF n ss):=by
 have h2:=H.two;have h7:=H.tE;have h0:0<n*n:=Wf ∅ ∅
 refine⟨h0,X8 h7 h7,λi j _ _=>aco n ss i j,NO (k:=(ss.length+2)*(n-1)) (λr hr=>?_) (by rw[fN];exact h0),zD λp hp=>H.near hp,zD λp hp=>H.cL hp⟩
 obtain⟨i,hi,rfl⟩:=H8.mp hr;exact H.mC (gq.mp hi)
def CI(N:Nat)(f:Nat->Nat->Bool):Bool:=decide (1<=N)&&decide (N<=49)&&((θ N).all λi=>(θ N).all λj=>f i j==f j i)&&decide (m9 (bw N f)=Z/\gA (bw N f) (cu (bw N f))=Z/\gA (bw N f) (cu (dM (bw N f)))=Z)
theorem R0{f:Nat->Nat->Bool}(h:CI N f=G):EW N f:=by
 unfold CI at h;simp only[T5,decide_eq_true_eq,Iv,beq_iff_eq]at h;obtain⟨⟨⟨h1,h2⟩,h3⟩,h4,h5,h6⟩:=h;exact⟨h1,h2,λi j hi hj=>h3 i (gq.mpr hi) j (gq.mpr hj),h4,h5,h6⟩
def E1(f:Fd)(i j:Nat):Nat:=(vS f.p f.n i j).toNat
def kF(f:Fd)(i j:Nat):Bool:=decide (E1 f i j∈cC (jP f))
def Ge(f:Fd):Bool:=((θ f.q).all λi=>(θ f.q).all λj=>decide (0<=vS f.p f.n i j))&&CI f.q (kF f)
theorem abJ:(bU.all λf=>!decide (f.q % 4=1)||Ge f)=G:=by decide +kernel
theorem adP(l:List Nat)(k:Nat)(c:aa):inD ↥k (.lst (nD l)) c=.ok (.bl (decide (k∈l))) c:=by
 have h1:gw c ↥k=O ↥k:=rfl;have h2:gw c (.lst (nD l))=O (.list (l.map λn:Nat=>PyData.int (n:Int))):=by
  show(match gh (nD l)with|some r=>O (PyData.list r)|none=>Z)=_
  rw[HV]
 unfold inD;rw[h1,h2];dsimp only;rw[if_pos (by simp[PyData.depth]),Th]
theorem afp(hw:jc [m',.lam 1 sM ["squares","q"] [X,m']] c=.ok v c)(hv:noRef v=G):nS 1 jc (ak 0) sM ["squares","q"] [1,0] [O m',O X] c=.ok v c :=
 CY (kk:=1) (m:=jc) (d1:=ak 0) (E:=sM) (ns:=["squares","q"]) (js:=[1,0]) (l:=[X,m']) (x:=m') rfl rfl hw hv
theorem RW(h:f∈bU)(h4:f.q % 4=1):EW f.q (kF f)/\∀c,GH [.int (f.q:Int)] c=.ok (bG (bw f.q (kF f))) c:=by
 have hk:=Iv.mp abJ f h;rw[decide_eq_true h4]at hk;have hk:Ge f=G:=hk;unfold Ge at hk;rw[T5]at hk;refine⟨R0 hk.2,λc=>?_⟩
 have hq:=tK h;have hsq:=am8 h c;have hnl:eV [D.lst (nD (cC (jP f))),.int (f.q:Int)]=G:=by
  show(ff (D.lst (nD (cC (jP f))))&&(ff (D.int (f.q:Int))&&G))=G;rw[AG (D.lst (nD (cC (jP f)))) (by unfold noRef;exact qV _),AG (D.int (f.q:Int)) rfl]
  rfl
 have hw:=zB (k:=1) (n:=f.q) (E:=sM) (ns:=["squares","q"]) (m:=jz pP) (c:=c) (f:=kF f) rfl hnl ∅ λi j hi hj hne=>by
  show pP [O (.int i),O (.int j),O _,O (.int (f.q:Int))] c=_;unfold pP;have ht:=alB h (x:=(i:Int)) (y:=(j:Int)) ∅ ∅ ∅ ∅ c
  have hs:vS f.p f.n i j=((E1 f i j:Nat):Int):=by
   have:=of_decide_eq_true (Iv.mp (Iv.mp hk.1 i (gq.mpr hi)) j (gq.mpr hj));unfold E1;omega
  rw[hs]at ht;exact cN (f:=inD) (yz (m:=xm) (d1:=ak 3) (d2:=ak 0) (d3:=ak 1) rfl rfl rfl ht) (d2:=ak 2) rfl (adP _ _ c)
 have e0:dw _ [O (.int (f.q:Int)),Z] c=.ok _ c:=Sb (iH (m:=nB) (d1:=ak 0) rfl (FF h c));have e1:bz (aN (au cS (au bZ (ak 0) (dC (.int 4))) (dC (.int 1)))) ja bA [O (.int (f.q:Int)),Z] c=.ok (.nx [O (.int (f.q:Int)),Z]) c:=by
  refine uD (mG (cN (f:=cS) (x:=.int 1) (y:=.int 1) (cN (f:=bZ) (x:=.int (f.q:Int)) (y:=.int 4) rfl rfl ?_) rfl rfl));exact congrArg (λz=>R.ok (D.int z) c) ∅
 have e2:aG 1 _ [O (.int (f.q:Int)),Z] c=.ok (.nx [O (.int (f.q:Int)),O (.lst (nD (cC (jP f))))]) c:=kH (i:=1) (iH (m:=AO) (d1:=ak 0) rfl hsq);have hb:yO=aC _ (aC (bz (aN _) ja bA) (aC _ _)):=rfl;refine jR (n:=2) (b:=yO) ?_ (lH _) (λk h=>by cases h)
 rw[show cW 2 [.int (f.q:Int)]=[O (.int (f.q:Int)),Z]from rfl,hb,cK e0,cK e1,cK e2]
 exact jr (afp hw (lH _))
def tM(m x:Nat):List (Nat×Nat):=(List.range' (x+1) (m-(x+1))).map λy=>(x,y)
def mO(m i:Nat):List (Nat×Nat):=(θ i).flatMap (tM m)
def PP(m:Nat):List (Nat×Nat):=mO m m
def FN(p:Nat×Nat):List Nat:=[p.1,p.2]
def qN(P:List (Nat×Nat))(i j:Nat):Bool:=decide (qi (FN (P.getD i (0,0))) (FN (P.getD j (0,0)))>0)
def WW(m:Nat):List (List Nat):=bw (PP m).length (qN (PP m))
theorem ank(a m:Nat):aY ((a:Int)+1) (m:Int)=nD (List.range' (a+1) (m-(a+1))):=by
 apply Yu;intro i
 by_cases h:i<m-(a+1)
 ·have h1:i<(aY (a+1) m).length:=by rw[eY];omega
  have:=tF (I8 h1);rw[I8 h1,this.2];simp[nD,List.getElem?_range' h]
 ·rw[VR (by rw[eY];omega),VR (by simp;omega)]
def Ak:af:=(aX (kj (ao (au aZ (ak 2) (dC (.int 1))) ⇑0)) [Z,O 2] (aA 0) aP (ck (1⊂0)))
def Al:ah:=(dw (iw (ak 1) Ak))
theorem aaq{rest:Ev}(bx:-4611686018427387904<=x+1/\x+1<4611686018427387904)(bq:-4611686018427387904<=q/\q<4611686018427387904)(hlen:(aY (x+1) q).length<Ω)(hc:bT (λ_=>True) (aA 0) aP (ck (1⊂0)) (aY (x+1) q) [Z,O (.int x)] [] c=.ok l c):Ak (O (.int q)::a1::O (.int x)::rest) c=.ok (.lst l) c:=by
 unfold Ak;simp;rw[if_pos ⟨∅,∅,∅,∅⟩]
 simp;rw[if_pos hlen];have ep:cX [Z,O 2] (O (D.int q)::a1::O (.int x)::rest)=[Z,O (.int x)]:=rfl;rw[ep,hc];rfl
theorem aap(m x:Nat)(c:aa):bT (λ_=>True) (aA 0) aP (ck (1⊂0)) (aY ((x:Int)+1) (m:Int)) [Z,O (.int x)] [] c=.ok ((tM m x).map bI) c:=by
 have:=uQ (E:=[O (.int x)]) (t:=aP) (a:=ck (1⊂0)) (c:=c) _ (λj=>bI (x,j)) _ (List.range' (x+1) (m-(x+1))) Z [] (λj _=>rfl) (λj _ _=>ES rfl rfl)
 have ft:(List.range' (x+1) (m-(x+1))).filter (λ_=>G)=List.range' (x+1) (m-(x+1)):=by simp
 rw[UG,ft]at this;rw[ank];unfold tM
 rwa[UB]
theorem afX(h1:dO e c=.ok (.ref k) c)(h2:da e c=.ok (.lst l) c)(hk:c[k]? = O (.lst acc))(hl:acc.length+l.length<=1000000)(nr:bW l=G):iw dO da e c=.ok .aJ (c.set k (.lst (acc++l))):=by
 have hs:1000000<=Ω:=⋯
 unfold iw;rw[h1];simp only[R.aF];rw[h2];simp;rw[hk];dsimp only;rw[if_pos ⟨∅,nr⟩]
theorem anN(c:aa)(x y:Cell):(c++[x]).set c.length y=c++[y]:=by simp
theorem TF(m i:Nat):mO m i++tM m i=mO m (i+1):=by
 unfold mO;rw[VQ,Yj];simp
theorem NK(m x:Nat):(tM m x).length<=m:=by simp[tM]
theorem aie(m i:Nat):(mO m i).length<=i*m:=by
 induction i with
 |zero=>simp[mO]
 |succ i ih =>
  rw[<-TF,UR,Uv];have:=NK m i;omega
theorem ali(a:Option D)(d:D)(rest:Ev)(c:aa):ak 1 (a::O d::rest) c=.ok d c:=rfl
theorem aan{m i:Nat}{c:aa}(hm:m<=100)(hi:i<m)(rest:Ev):Al (O (.int m)::O (.ref c.length)::O (.int i)::rest) (c++[.lst ((mO m i).map bI)])=.ok (.nx (O (.int m)::O (.ref c.length)::O (.int i)::rest)) (c++[.lst ((mO m (i+1)).map bI)]):=by
 have hs:=dS (n:=1000) ⋯
 have h1:=aie m i;have h2:i*m<=100*100:=X8 ∅ hm
 have h3:=NK m i;have hC:Ak (O _::O (.ref c.length)::O _::rest) (c++[.lst ((mO m i).map bI)])=.ok _ (c++[.lst ((mO m i).map bI)]):=aaq ∅ ∅ (by rw[eY];omega) (aap m i _)
 have hx:=afX (ali _ _ _ _) hC ZV (by simp;omega) (O9 _)
 rw[anN,<-Ve,TF]at hx;exact Sb hx
theorem afF{sr:Ev->aa->R Src}(h1:sr e c=.ok ⟨l,λ_=>True⟩ c)(h2:cZ (λ_=>True) g s l e c=r):bY sr g s e c=r:=by
 rw[jl,h1];exact h2
theorem am6(h:d e c=.ok (.int q) c)(bq:-4611686018427387904<=q/\q<4611686018427387904):bH (ao d av) e c=.ok ⟨aY 0 q,λ_=>True⟩ c:=by
 simp only[mT,b7,h,cj,R.aF];rw[if_pos ∅]
theorem aao{m:Nat}{c:aa}(hm:m<=100)(rest:Ev):∃v,bY (bH ⇑0) (aA 2) Al (O (.int m)::O (.ref c.length)::Z::rest) (c++[.lst []])=.ok (.nx (O (.int m)::O (.ref c.length)::v::rest)) (c++[.lst ((PP m).map bI)]):=by
 have hf:=nM (α:=Option D) (st:=λ_=>True) (g:=aA 2) (s:=Al) _ (λ_ v=>O (.int m)::O (.ref c.length)::v::rest) (aY 0 m) 0 Z (λ_ _=>trivial) (λi x hx v=>by
  rw[UM];obtain⟨h1,rfl⟩:=tF hx;rw[YR];exact⟨_,rfl,O _,aan hm ∅ rest⟩)
 obtain⟨v,hf⟩:=hf;have hl:(aY 0 m).length=m:=by rw[eY];omega
 rw[UM,hl]at hf;exact⟨v,afF (am6 rfl ∅) hf⟩
theorem Ka{P:List (Nat×Nat)}(h:i<P.length):P.getD i (0,0)=P[i]:=by rw[T7,I8 h];rfl
theorem Qo{P:List (Nat×Nat)}(hk:c[k]? = O (.lst (P.map bI)))(h:i<P.length):aD (.ref k) ↥i c=.ok (bI (P.getD i (0,0))) c:=by
 have ha:dB (P.map bI) (i:Int)=O _:=iy (by rw[U7,I8 h];rfl)
 rw[Ka h];unfold aD fU;simp only[hk,ha]
theorem Pr{p:Nat×Nat}(h:p.1<128/\p.2<128)(c:aa):jY c (bI p)=O (FN p):=by
 exact wW (ns:=[p.1,p.2]) (VH (LO _) (show 2<64 by decide)) λx hx=>by
  rcases AP.mp hx with rfl|hx
  ·exact h.1
  ·rw[UT]at hx;subst hx;exact h.2
theorem afi{a b:Nat}(h1:d1 e c=.ok ↥a c)(h2:d2 e c=.ok ↥b c):au jf d1 d2 e c=.ok (.bl (decide (a>b))) c:=by
 by_cases q:b<a
 ·have q':(b:Int)<a:=∅
  simp[h1,h2,q,q']
 ·have q':¬(b:Int)<a:=∅
  simp[h1,h2,q,q']
theorem af0(w:List (List Nat))(c d:aa):cU ξ c.length (bG w) (c++d)=.ok (bG w) c:=by
 have nr:=lH w;unfold bG at nr ⊢;unfold cU;dsimp only;rw[if_pos nr,List.take_left]
theorem aal(h3:3<=m)(Rr:m<=10)(hP:∀p∈PP m,p.1<128/\p.2<128)(hl:(PP m).length<64)(c:aa):xo [.int m] c=.ok (bG (WW m)) c:=by
 have hw:dP [.int (m:Int),.int 3,.int 10] c=.ok (.bl G) c:=by
  have i3:(3:Int)<=m:=∅
  have i10:(m:Int)<=10:=∅
  simp[dP,mJ,j3,nW,i3,i10]
 have e0:bz (dG (aN (aB 3 dP (ao (ak 0) (ao (dC (.int 3)) (ao (dC (.int 10)) av)))))) ja bA [O (.int m),Z,Z] c=.ok (.nx [O (.int m),Z,Z]) c:=by
  have:=yz (m:=dP) (d1:=ak 0) (d2:=dC (.int 3)) (d3:=dC (.int 10)) (e:=[O (.int m),Z,Z]) (c:=c) rfl rfl rfl hw;rw[kC,KG,zx,this];rfl
 have e1:aG 1 (fj av) [O (.int m),Z,Z] c=.ok (.nx [O (.int m),O (.ref c.length),Z]) (c++[.lst []]):=by simp
 obtain⟨v,e2⟩:=aao (m:=m) (c:=c) ∅ []
 have hk:(c++[Cell.lst ((PP m).map bI)])[c.length]? = O (.lst ((PP m).map bI)):=by simp
 have hlen:bD [.ref c.length] (c++[Cell.lst ((PP m).map bI)])=.ok (.int ((PP m).length:Nat)) (c++[Cell.lst ((PP m).map bI)]):=by
  unfold bD fU;simp only[hk,T6]
 have ad6:=zB (k:=3) (n:=(PP m).length) (E:=vA) (ns:=["pairs"]) (l:=[.ref c.length]) (m:=jz pO) (f:=qN (PP m)) rfl rfl ∅ λi j hi hj _=>by
  have h1:=Qo hk hi;have h2:=Qo hk hj;have n1:=Pr (hP ((PP m).getD i (0,0)) (by rw[Ka hi];exact U6 hi)) (c++[Cell.lst ((PP m).map bI)])
  have n2:=Pr (hP ((PP m).getD j (0,0)) (by rw[Ka hj];exact U6 hj)) (c++[Cell.lst ((PP m).map bI)])
  show pO [O (.int i),O (.int j),O (.ref c.length)] _=_;unfold pO;exact afi (b:=0) (P5 (by simp only[b7,eO,cg,gz,gs,cj,R.aF,h1]) (by simp only[b7,eO,cg,gz,gs,cj,R.aF,h2]) n1 n2) rfl
 have e3:=jr (CY (kk:=3) (m:=jc) (d1:=aO bD ⇑1) (E:=vA) (ns:=["pairs"]) (js:=[1]) (e:=[O (.int m),O (.ref c.length),v]) (ko rfl hlen) rfl ad6 (lH _));have hb:Di=aC (bz (dG (aN (aB 3 dP (ao (ak 0) (ao (dC (.int 3)) (ao (dC (.int 10)) av)))))) ja bA) (aC (aG 1 (fj av)) (aC (bY (bH ⇑0) (aA 2) Al) (aK (nS 3 jc (aO bD ⇑1) vA ["pairs"] [1])))):=rfl;have es:cW 3 [D.int m]=[O (.int m),Z,Z]:=rfl;rw[xo,fF,hb,es,cK e0,cK e1,cK e2,e3];exact af0 _ _ _
end Ev
set_option maxHeartbeats 400000
namespace Ev
open PySem L2 Fq
structure EN (N k:Nat) (a b:Option Nat) (f:Nat->Nat->Bool):Prop where
 ew:EW N f
 dg:kN N f=k
 na:f6 (bw N f) (cu (bw N f))=a
 nb:f6 (bw N f) (cu (dM (bw N f)))=b
section
variable {N k i j:Nat}{f:Nat->Nat->Bool}{a b:Option Nat}
theorem SG(hi:i<N)(hj:j<N):cV (bw N f) (i,j)=sm N λx=>((decide (x≠i)&&f i x)&&(decide (x≠j)&&f j x)).toNat:=by
 rw[<-agS hi hj];unfold dI;rw[List.filter_filter,<-oN]
 congr 1
 refine o5 λx hx=>?_
 rw[Bool.and_comm]
 congr 1
 rw[show decide _=(decide (x≠j)&&f j x) by
  rw[V6,decide_eq_true_eq,Uy];exact⟨λh=>h.2,λh=>⟨hx,h⟩⟩]
theorem wg(h:i<N)(x:Bool):(sm N λy=>(decide (y=i)&&x).toNat)=x.toNat:=by
 cases x with
 |true=>exact we h λk _=>by simp
 |false=>exact tw λk _=>by simp
theorem SH(hs:∀i j,i<N->j<N->f i j=f j i)(hi:i<N)(hj:j<N)(ne:i≠j):cV (bw N λi j=>!f i j) (i,j)+(dI N f i).length+(dI N f j).length+2=N+cV (bw N f) (i,j)+2*(f i j).toNat:=by
 have d:∀i,(dI N f i).length=sm N λx=>(decide (x≠i)&&f i x).toNat:=λi=>oN _ _
 rw[SG hi hj,SG hi hj,d i,d j];have o:=wg hi G;have u:=wg hj G;have p:=wg hi (f j i);have q:=wg hj (f i j);have c:(sm N λ_=>1)=N:=by rw[mY,X0]
 have e:sm N (λx=>(((((decide (x≠i) && !f i x)&&(decide (x≠j) && !f j x)).toNat+(decide (x≠i)&&f i x).toNat)+(decide (x≠j)&&f j x).toNat)+(decide (x=i)&&G).toNat)+(decide (x=j)&&G).toNat)
   = sm N (λx=>((1+((decide (x≠i)&&f i x)&&(decide (x≠j)&&f j x)).toNat)+(decide (x=i)&&f j i).toNat)+(decide (x=j)&&f i j).toNat):=fH λx hx=>by
  by_cases h1:x=i
  ·subst h1;simp[ne];omega
  ·by_cases h2:x=j
   ·subst h2;simp[h1];omega
   ·simp only[h1,h2,ne_eq,not_false_eq_true,decide_true,decide_false,Wm,Xd,Z4,Vu];cases f i x<;>cases f j x<;>rfl
 simp only[oO]at e;rw[o,u,p,q,c,hs j i hj hi]at e;simp only[Z3]at e;omega
theorem Aq(N:Nat)(f:Nat->Nat->Bool):dM (bw N f)=bw N λi j=>!f i j:=by
 unfold dM;rw[fN];unfold bw;refine VD λi hi=>o5 λj hj=>?_
 have hi:=gq.mp hi;have hj:=gq.mp hj
 by_cases e:j=i
 ·simp[e]
 ·unfold nk;have:((θ N).map (dI N f)).getD i []=dI N f i:=iA hi;rw[this];have:decide (j∈dI N f i)=f i j:=by
   rw[V6,decide_eq_true_eq,jK];exact⟨λh=>h.2.2,λh=>⟨hj,e,h⟩⟩
  rw[this]
theorem Ob(N:Nat)(f:Nat->Nat->Bool):dM (bw N λi j=>!f i j)=bw N f:=by
 rw[Aq];simp
theorem LZ(h:gA w ps=Z)(hp:p∈ps):f6 w ps=O (cV w p):=by
 cases ps with
 |nil=>cases hp
 |cons q ps =>
  have hs:f6 w (q::ps)=O _:=rfl;rw[hs,ald h hs p hp]
theorem Lk(h:p∈cu (bw N f)):p.1<N/\p.2<N/\p.1≠p.2/\f p.1 p.2=G:=by
 obtain⟨h1,h2,h3⟩:=ue.mp h;rw[fN]at h1;rw[iA h1,jK]at h2;exact⟨h1,h2.1,∅,h2.2.2⟩
theorem EN.ot(h:EN N k a b f):EN N (N-1-k) (b.map λy=>N+y-2*k-2) (a.map λx=>N+x-2*k) λi j=>!f i j:=by
 obtain⟨E,hk,ha,hb⟩:=h;have dg:∀i,i<N->(dI N f i).length=k:=λi hi=>by rw[E.mC hi,hk]
 have Se:∀i,i<N->(dI N (λi j=>!f i j) i).length=N-1-k:=λi hi=>by
  have h1:(dI N f i).length=sm N λx=>(decide (x≠i)&&f i x).toNat:=oN _ _
  have h2:(dI N (λi j=>!f i j) i).length=sm N λx=>(decide (x≠i) && !f i x).toNat:=oN _ _
  have e:sm N (λx=>((decide (x≠i) && !f i x).toNat+(decide (x≠i)&&f i x).toNat)+(decide (x=i)&&G).toNat)=sm N (λ_=>1):=fH λx _=>by
   by_cases q:x=i
   ·simp[q]
   ·simp only[q,ne_eq,not_false_eq_true,decide_true,decide_false,Wm,Xd,Z4,Vu];cases f i x<;>rfl
  simp only[oO,mY]at e;rw[wg hi,<-h1,<-h2,dg i hi]at e;simp only[Z3]at e;omega
 have N0:0<N:=E.lo;have near:∀p∈cu (bw N λi j=>!f i j),b=O (cV (bw N f) p)/\cV (bw N λi j=>!f i j) p=N+cV (bw N f) p-2*k-2:=λp hp=>by
  have q:=Lk hp;have dQ:=hp;rw[<-Aq]at dQ;have c:cV (bw N λi j=>!f i j) p+(dI N f p.1).length+(dI N f p.2).length+2=N+cV (bw N f) p+2*(f p.1 p.2).toNat:=SH E.sy q.1 q.2.1 q.2.2.1
  rw[dg _ q.1,dg _ q.2.1,show f p.1 p.2=ξ by simpa using q.2.2.2]at c
  simp only[Z4]at c;exact⟨by rw[<-hb];exact LZ E.fr dQ,∅⟩
 have cL:∀p∈cu (bw N f),a=O (cV (bw N f) p)/\cV (bw N λi j=>!f i j) p=N+cV (bw N f) p-2*k:=λp hp=>by
  have q:=Lk hp;have c:cV (bw N λi j=>!f i j) p+(dI N f p.1).length+(dI N f p.2).length+2=N+cV (bw N f) p+2*(f p.1 p.2).toNat:=SH E.sy q.1 q.2.1 q.2.2.1
  rw[dg _ q.1,dg _ q.2.1,q.2.2.2]at c;simp only[Z3]at c;exact⟨by rw[<-ha];exact LZ E.nr hp,∅⟩
 have n1:∀p∈cu (bw N λi j=>!f i j),cV (bw N λi j=>!f i j) p=N+b.getD 0-2*k-2:=λp hp=>by rw[(near p hp).2,(near p hp).1];rfl
 have n2:∀p∈cu (bw N f),cV (bw N λi j=>!f i j) p=N+a.getD 0-2*k:=λp hp=>by rw[(cL p hp).2,(cL p hp).1];rfl
 refine⟨⟨E.lo,E.hi,λi j hi hj=>by rw[E.sy i j hi hj],NO (k:=N-1-k) (λr hr=>?_) (by rw[fN];exact N0),zD n1,by rw[Ob];exact zD n2⟩,?_,?_,?_⟩
 ·obtain⟨i,hi,rfl⟩:=H8.mp hr;exact Se i (gq.mp hi)
 ·unfold kN;rw[iA N0,Se 0 N0]
 ·cases e:cu (bw N λi j=>!f i j)with
  |nil =>
   have:b=Z:=by rw[<-hb,Aq,e];rfl
   rw[this];rfl
  |cons p ps =>
   have m:p∈cu (bw N λi j=>!f i j):=by rw[e];exact .head _
   rw[(near p m).1];show O (cV (bw N λi j=>!f i j) p)=_
   rw[(near p m).2];rfl
 ·rw[Ob];cases e:cu (bw N f)with
  |nil =>
   have:a=Z:=by rw[<-ha,e];rfl
   rw[this];rfl
  |cons p ps =>
   have m:p∈cu (bw N f):=by rw[e];exact .head _
   rw[(cL p m).1];show O (cV (bw N λi j=>!f i j) p)=_
   rw[(cL p m).2];rfl
end
@[simp] theorem ai6(i:Int)(c:aa):j3 [.int i] c=.ok (.bl G) c:=by
 simp[j3,nW]
@[simp] theorem ai5(i lo hi:Int)(c:aa):dP [.int i,.int lo,.int hi] c=.ok (.bl (decide (lo<=i)&&decide (i<=hi))) c:=by
 simp[dP,mJ]
 by_cases h:lo<=i<;>simp[h]
structure Tb (n k a b:Int):Prop where
 n0:3<=n
 n1:n<=100
 k0:1<=k
 k1:k<=n-2
 a0:0<=a
 a1:a<=k-1
 b0:0<=b
 b1:b<=k
abbrev T4(n k a b:Int):D:=.tup [.int n,.int k,.int a,.int b]
theorem Qt(h:Tb n k a b)(c:aa):jd [T4 n k a b] c=.ok (.bl G) c:=by
 obtain⟨h1,h2,h3,h4,h5,h6,h7,h8⟩:=h;simp[jd,vh, *]
theorem qM(h:Tb n k a b)(c:aa):AQ [T4 n k a b] c=.ok .aJ c:=by
 simp[AQ,Df,Qt h]
theorem abW(h:Tb n k a b)(c:aa):AU [T4 n k a b] c=.ok (.bl G) c:=by
 obtain⟨h1,h2,h3,h4,h5,h6,h7,h8⟩:=h;have e1:(k=0)=False:=by simp;omega
 have e2:(k=n-1)=False:=by simp;omega
 have e3:1<=n:=∅
 have e4:0<=k:=∅
 have e5:k<=n-1:=∅
 simp[AU,Dn,AX,DC,qA, *]
theorem F3(h:Tb n k a b)(c:aa):AR [T4 n k a b] c=.ok (T4 n (n-k-1) (n-2*k-2+b) (n-2*k+a)) c:=by
 simp[AR,Dk,abW h,gS]
def dN(k a b:Int):Int:=(a-b)*(a-b)+4*(k-b)
def eN(n k a b:Int):Int:=2*k+(n-1)*(a-b)
theorem k8(h:Tb n k a b)(c:aa):pH [T4 n k a b] c=.ok (.int (dN k a b)) c:=by
 obtain⟨h1,h2,h3,h4,h5,h6,h7,h8⟩:=h;simp(disch:=omega) [pH,DL,dN,gS]
theorem nP(h:Tb n k a b)(c:aa):uz [T4 n k a b] c=.ok (.int (eN n k a b)) c:=by
 obtain⟨h1,h2,h3,h4,h5,h6,h7,h8⟩:=h;simp(disch:=omega) [uz,DK,eN,gS]
def sq(d:Int):Option Int:=((θ (d.toNat+1)).find? λw:Nat=>decide ((w:Int)*w=d)).map λw:Nat=>(w:Int)
theorem amw{v w:Int}(hv:0<=v)(hw:0<=w)(h:v*v=w*w):v=w:=by
 rcases Int.lt_trichotomy v w with z|z|z
 ·have h1:v*v<=v*w:=Yn (Xm z) hv;have h2:v*w<w*w:=nq z ∅
  omega
 ·exact z
 ·have h1:w*w<=w*v:=Yn (Xm z) hw;have h2:w*v<v*v:=nq z ∅
  omega
theorem vV:sq d=O w↔0<=w/\w*w=d:=by
 unfold sq
 constructor
 ·intro h;obtain⟨x,hx,rfl⟩:=ZY.mp h;have hx:=Y3 hx;exact⟨∅,of_decide_eq_true hx⟩
 ·rintro ⟨h0,rfl⟩
  obtain⟨n,rfl⟩:∃n:Nat,w=n:=⟨w.toNat,∅⟩
  cases h:(θ (((n:Int)*n).toNat+1)).find? λw:Nat=>decide ((w:Int)*w=(n:Int)*n)with
  |none =>
   have hn:n<=n*n:=by
    cases n with
    |zero=>exact dD _
    |succ n=>exact Nat.le_mul_of_pos_left _ (Nat.succ_pos n)
   have:=Wl.mp h n (gq.mpr ∅)
   simp at this
  |some x =>
   have h2:=Y3 h;rw[Zn,amw ∅ ∅ (of_decide_eq_true h2)]
theorem amu:sq d=Z↔∀w:Int,0<=w->w*w≠d:=by
 constructor
 ·intro h w h0 e;rw[vV.mpr ⟨h0,e⟩]at h;cases h
 ·intro h;cases e:sq d with
  |none=>rfl
  |some w=>exact absurd (vV.mp e).2 (h w (vV.mp e).1)
def gC:Option Int->D
 |some w=>.int w
 |none=>.aJ
theorem Nx(d:Int)(c:aa):∀(fuel:Nat) (r:Int),0<=r->(r=0\/(r-1)*(r-1)<d)->d<=(r+fuel)*(r+fuel)->r+fuel<18446744073709551616 ->
  ∃r':Int,0<=r'/\d<=r'*r'/\(r'=0\/(r'-1)*(r'-1)<d)/\r'<=r+fuel /\
   gY (aN (au jy (au aT (ak 1) (ak 1)) (ak 0))) (aG 1 (au aZ (ak 1) (dC (.int 1)))) (fuel+1) [O (.int d),O (.int r)] c=R.ok (Fl.nx [O (.int d),O (.int r')]) c
 |fuel,r,h0,h1,h2,hb=>by
  by_cases hlt:r*r<d
  ·cases fuel with
   |zero=>simp at h2;omega
   |succ fuel =>
    obtain⟨r',g0,g1,g2,g3,g4⟩:=Nx d c fuel (r+1) ∅ (.inr (by simpa using hlt)) (by
     have e:r+1+fuel=r+((fuel+1)):=∅
     rw[e];exact h2) ∅
    refine⟨r',g0,g1,g2,∅,?_⟩
    rw[gY];simp(disch:=omega) [gS,hlt];exact g4
  ·refine⟨r,h0,∅,h1,∅,?_⟩
   rw[gY];simp(disch:=omega) [gS,hlt]
theorem zW(h:d<=998001)(c:aa):pC [.int d] c=.ok (gC (sq d)) c:=by
 obtain⟨r,h0,h1,h2,h3,h4⟩:=Nx d c 999 0 ∅ (.inl rfl) ∅ ∅
 have e:ve [O (.int d),Z] c=(if r*r=d then .ok (.rt (.int r)) c else .ok (.rt .aJ) c):=by
  simp[ve];rw[h4];simp(disch:=omega) [gS]
  by_cases q:r*r=d<;>simp[q]
 have e2:pC [.int d] c=(ve [O _,Z] c).bind λf c'=>match f with
  |.rt v=>cU ξ c.length v c'
  |.nx _=>cU ξ c.length .aJ c'
  |_=>.bad:=rfl
 rw[e2,e]
 by_cases q:r*r=d
 ·rw[if_pos q,vV.mpr ⟨h0,q⟩];simp[gC]
 ·rw[if_neg q];have:sq d=Z:=by
   rw[amu];intro w hw e
   rcases h2 with h2|h2
   ·subst h2;have:0<=w*w:=Xn hw hw;omega
   ·have a1:¬w<=r-1:=λz=>by
     have:=We z z hw ∅
     omega
    have a2:¬r<=w:=λz=>by
     have:=We z z h0 hw;omega
    omega
  rw[this];simp[gC]
theorem d_pos(h:Tb n k a b):1<=dN k a b/\dN k a b<=20000:=by
 obtain⟨h1,h2,h3,h4,h5,h6,h7,h8⟩:=h;have e1:(a-b)*(a-b)<=100*100:=by
  rcases Int.le_total 0 _ with z|z
  ·exact We ∅ ∅ z ∅
  ·have:=We (show b-a<=100 by omega) (show b-a<=100 by omega) ∅ ∅
   have e:(b-a)*(b-a)=(a-b)*(a-b):=by rw[<-Int.neg_mul_neg];congr 1<;>omega
   omega
 have e2:0<=(a-b)*(a-b):=by
  rcases Int.le_total 0 _ with z|z
  ·exact Xn z z
  ·exact Int.mul_nonneg_of_nonpos_of_nonpos z z
 unfold dN
 constructor
 ·by_cases q:k=b
  ·have e3:(a-b)*(a-b)≠0:=by
    intro z
    rcases Int.mul_eq_zero.mp z with z|z<;>omega
   omega
  ·omega
 ·omega
theorem KY(h:Tb n k a b)(hw:sq (dN k a b)=O w):1<=w/\w<=200:=by
 obtain⟨h0,h1⟩:=vV.mp hw;obtain⟨d1,d2⟩:=d_pos h
 constructor
 ·by_cases z:w=0
  ·subst z;omega
  ·omega
 ·by_cases z:w<=200
  ·exact z
  ·have:=We (show 200<=w by omega) (show 200<=w by omega) ∅ ∅
   omega
def xN(n k a b:Int):Option Int :=
 if eN n k a b=0 then O 0 else match sq (dN k a b)with
  |none=>Z
  |some w=>if eN n k a b % w≠0 then Z else O (eN n k a b/w)
theorem A4(h:Tb n k a b)(c:aa):rA [T4 n k a b] c=.ok (gC (xN n k a b)) c:=by
 have hd:=d_pos h;have hr:=zW (d:=dN k a b) ∅
 unfold xN
 by_cases he:eN n k a b=0
 ·simp[rA,sA,nP h,he,gC]
 ·cases hs:sq _ with
  |none=>simp[rA,sA,nP h,k8 h,hr,he,hs,gC]
  |some w =>
   have hw:=KY h hs
   by_cases hm:eN n k a b % w=0
   ·simp(disch:=omega) [rA,sA,nP h,k8 h,hr,he,hs,gC,gT,i6,hm]
   ·simp(disch:=omega) [rA,sA,nP h,k8 h,hr,he,hs,gC,gT,i6,hm]
def yW(i:Int):Int:=if i<0 then -i else i
def iM(n k a b:Int):Option (Int×Int):=match xN n k a b with
 |none=>Z
 |some l=>if(n-1-l) % 2≠0\/n-1<yW l then Z else O ((n-1-l)/2,(n-1+l)/2)
def twV:Option (Int×Int)->D
 |some (f,g)=>.tup [.int f,.int g]
 |none=>.aJ
theorem qB(h:Tb n k a b)(c:aa):nA [T4 n k a b] c=.ok (twV (iM n k a b)) c:=by
 unfold iM;cases hl:xN n k a b with
 |none=>simp[nA,su,A4 h,hl,gC,twV]
 |some l =>
  by_cases h1:(n-1-l) % 2=0
  ·by_cases h2:n-1<yW l
   ·simp(disch:=omega) [nA,su,A4 h,hl,gC,twV,gT,i6,h1,h2];unfold yW at h2;simp[h2]
   ·simp(disch:=omega) [nA,su,A4 h,hl,gC,twV,gT,i6,h1,h2];unfold yW at h2;simp(disch:=omega) [h2,i6]
  ·simp(disch:=omega) [nA,su,A4 h,hl,gC,twV,gT,i6,h1]
def oV:Option D->D
 |some d=>d
 |none=>.aJ
@[simp] theorem ajt(d:D):oV (O d)=d:=rfl
@[simp] theorem aju:oV Z=.aJ:=rfl
def oW(n k a b:Int):Option D:=if n-2*k+a<0 then O (.tup [.str "room",.int (n-2*k+a)])else if n-2*k-2+b<0 then O (.tup [.str "room",.int (n-2*k-2+b)])else Z
theorem qL(h:Tb n k a b)(c:aa):uB [T4 n k a b] c=.ok (oV (oW n k a b)) c:=by
 unfold oW
 by_cases h1:n-2*k+a<0
 ·simp[uB,vm,F3 h,h1]
 ·by_cases h2:n-2*k-2+b<0
  ·simp[uB,vm,F3 h,h1,h2]
  ·simp[uB,vm,F3 h,h1,h2]
def nT(n k a b:Int):Option D:=if k*(k-a-1)=(n-k-1)*b then Z else O (.tup [.str "counting",.int (k*(k-a-1)),.int ((n-k-1)*b)])
theorem vd(h:Tb n k a b)(c:aa):xG [T4 n k a b] c=.ok (oV (nT n k a b)) c:=by
 obtain⟨h1,h2,h3,h4,h5,h6,h7,h8⟩:=h;unfold nT
 by_cases q:k*(k-a-1)=(n-k-1)*b
 ·simp(disch:=omega) [xG,yQ,gS,q]
 ·simp(disch:=omega) [xG,yQ,gS,q]
def oK(n k a b:Int):Option D:=match iM n k a b with
 |none=>O (.tup [.str "sums",.int (dN k a b),.int (eN n k a b)])
 |some _=>Z
theorem sZ(h:Tb n k a b)(c:aa):xF [T4 n k a b] c=.ok (oV (oK n k a b)) c:=by
 unfold oK;cases q:iM n k a b with
 |none=>simp[xF,yP,qB h,k8 h,nP h,q,twV]
 |some p=>simp[xF,yP,qB h,k8 h,nP h,q,twV]
def tU(k x y:Int):Bool:=decide ((k+x)*(y+1)*(y+1)<(x+1)*(k+x+2*x*y))
theorem N8(hk:0<=k/\k<=1000)(hx:-1000<=x/\x<=1000)(hy:-1000<=y/\y<=1000)(c:aa):xC [.int k,.int x,.int y] c=.ok (.bl (tU k x y)) c:=by
 simp(disch:=omega) [xC,DE,gS,mul_r,tU]
def tO(k a b:Int):Option D:=match sq (dN k a b)with
 |none=>Z
 |some w=>if tU k ((a-b+w)/2) ((a-b-w)/2)=G then O (.tup [.str "products",.int 1])else if tU k ((a-b-w)/2) ((a-b+w)/2)=G then O (.tup [.str "products",.int 2])else Z
theorem zz(c:aa):xh [T4 n k a b,.int w] c=.ok (.tup [.int ((a-b+w)/2),.int ((a-b-w)/2)]) c:=by
 simp[xh,C2,i6]
theorem z9(h:Tb n k a b)(c:aa):rF [T4 n k a b] c=.ok (oV (tO k a b)) c:=by
 have hd:=d_pos h;have hr:=zW (d:=dN k a b) ∅
 unfold tO;cases hs:sq _ with
 |none=>simp[rF,sD,k8 h,hr,hs,gC]
 |some w =>
  obtain⟨w1,w2⟩:=KY h hs;obtain⟨h1,h2,h3,h4,h5,h6,h7,h8⟩:=id h
  generalize hx:(a-b+w)/2=x
  generalize hy:(a-b-w)/2=y
  have bx:-1000<=x/\x<=1000:=∅
  have S3:-1000<=y/\y<=1000:=∅
  have p1:=N8 (k:=k) ⟨∅,∅⟩ bx S3
  have p2:=N8 (k:=k) ⟨∅,∅⟩ S3 bx
  cases q1:tU k x y with
  |true=>simp[rF,sD,k8 h,hr,hs,gC,zz,hx,hy,p1,p2,q1]
  |false =>
   cases q2:tU k y x with
   |true=>simp[rF,sD,k8 h,hr,hs,gC,zz,hx,hy,p1,p2,q1,q2]
   |false=>simp[rF,sD,k8 h,hr,hs,gC,zz,hx,hy,p1,p2,q1,q2]
theorem aml(h:iM n k a b=O (f,g)):f+g=n-1/\0<=f/\0<=g:=by
 unfold iM at h;cases hl:xN n k a b with
 |none=>rw[hl]at h;cases h
 |some l =>
  rw[hl]at h;dsimp only at h;split at h
  ·cases h
  ·rename_i q;cases h;unfold yW at q;split at q<;>omega
def sR(n k a b:Int):Option D:=if 0<b/\b<k then match iM n k a b with
  |none=>Z
  |some (f,g)=>if f*(f+3)<2*n then O (.tup [.str "threes",.int f])else if g*(g+3)<2*n then O (.tup [.str "threes",.int g])else Z
 else Z
theorem EU(h:Tb n k a b)(ht:iM n k a b≠Z)(c:aa):pK [T4 n k a b] c=.ok (oV (sR n k a b)) c:=by
 obtain⟨h1,h2,h3,h4,h5,h6,h7,h8⟩:=id h;unfold sR;cases hq:iM n k a b with
 |none=>exact absurd hq ht
 |some p =>
  obtain⟨f,g⟩:=p;obtain⟨e1,e2,e3⟩:=aml hq
  by_cases q1:0<b
  ·by_cases q2:b<k
   ·by_cases q3:f*(f+3)<2*n
    ·simp(disch:=omega) [pK,qk,qB h,hq,twV,q1,q2,q3,gS]
    ·by_cases q4:g*(g+3)<2*n
     ·simp(disch:=omega) [pK,qk,qB h,hq,twV,q1,q2,q3,q4,gS]
     ·simp(disch:=omega) [pK,qk,qB h,hq,twV,q1,q2,q3,q4,gS]
   ·simp[pK,qk,q1,q2]
  ·simp[pK,qk,q1]
theorem ahP(c:aa)(l:List D)(f:D->Bool):ql [.lst (l.map λx=>.bl (f x))] c=.ok (.bl (l.any f)) c:=by
 have e:(l.map λx=>D.bl (f x))=(l.map f).map D.bl:=by simp
 unfold ql oY;dsimp only;rw[e,CZ];simp[Xj]
def vJ:D->Int
 |.int i=>i
 |_=>0
def twoB(n:Int):Bool:=(aY 0 (n+1)).any λx=>(sq (n-vJ x*vJ x)).isSome
theorem two_ok(hn:0<=n/\n<=1000)(c:aa):AW [.int n] c=.ok (.bl (twoB n)) c:=by
 have hc:=mE (c:=c) (g:=aA 0) (t:=aP) (a:=au jA (aB 1 pC (ao (au bO (ak 1) (au aT (ak 0) (ak 0))) av)) (dC .aJ))
  (λe=>∃v,e=[v,O (.int n)]) (λ_=>G) (λx=>.bl (sq (n-vJ x*vJ x)).isSome) (aY 0 (n+1)) [Z,O (.int n)] [] ⟨_,rfl⟩ (λx hx e ⟨v,he⟩=>by
   obtain⟨i,rfl,i1,i2⟩:=qZ hx;subst he;refine⟨[O (.int i),O (.int n)],by simp,⟨_,rfl⟩,rfl,λ_=>?_⟩
   have h0:=Xn i1 i1;simp(disch:=omega) [gS,(zW (d:=n-i*i) ∅ c)]
   cases q:sq (n-i*i)<;>simp[gC,vJ,q])
 have e2:((aY 0 (n+1)).filter λ_=>G)=aY 0 (n+1):=by simp
 rw[e2,UG]at hc;have h2:(aY 0 (n+1)).length<Ω:=by rw[eY];exact VH (by omega:(n+1-0).toNat<=1001) ⋯
 simp[AW,DA,cX];rw[if_pos ∅]
 simp[h2];rw[hc];simp;rw[ahP];simp[twoB]
def tu(n k a b:Int):Option D:=if eN n k a b=0/\twoB n=ξ then O (.tup [.str "squares",.int n])else Z
theorem LP(h:Tb n k a b)(c:aa):uA [T4 n k a b] c=.ok (oV (tu n k a b)) c:=by
 have ht:=two_ok (n:=n) ⟨by have:=h.n0;omega,by have:=h.n1;omega⟩ c
 unfold tu
 by_cases q:eN n k a b=0
 ·cases q2:twoB n with
  |true=>simp[uA,vj,nP h,ht,q,q2]
  |false=>simp[uA,vj,nP h,ht,q,q2]
 ·simp[uA,vj,nP h,ht,q]
def mH(n k a b:Int):D:=match oW n k a b with
 |some d=>d
 |none=>match nT n k a b with
  |some d=>d
  |none=>match oK n k a b with
   |some d=>d
   |none=>match tO k a b with
    |some d=>d
    |none=>match sR n k a b with
     |some d=>d
     |none=>oV (tu n k a b)
theorem adG:(∀d,oW n k a b=O d->fD d=ξ/\noRef d=G)/\(∀d,nT n k a b=O d->fD d=ξ/\noRef d=G)/\(∀d,oK n k a b=O d->fD d=ξ/\noRef d=G)/\(∀d,tO k a b=O d->fD d=ξ/\noRef d=G)/\(∀d,sR n k a b=O d->fD d=ξ/\noRef d=G)/\∀d,tu n k a b=O d->fD d=ξ/\noRef d=G:=by
 refine⟨λd h=>?_,λd h=>?_,λd h=>?_,λd h=>?_,λd h=>?_,λd h=>?_⟩
 ·unfold oW at h;split at h
  ·cases h;simp
  ·split at h<;>cases h;simp
 ·unfold nT at h;split at h<;>cases h;simp
 ·unfold oK at h;split at h<;>cases h;simp
 ·unfold tO at h;split at h
  ·cases h
  ·split at h
   ·cases h;simp
   ·split at h<;>cases h;simp
 ·unfold sR at h;split at h
  ·split at h
   ·cases h
   ·split at h
    ·cases h;simp
    ·split at h<;>cases h;simp
  ·cases h
 ·unfold tu at h;split at h<;>cases h;simp
theorem tH(own:Bool)(n:Nat)(d:D)(c:aa)(h:noRef d=G):cU own n d c=.ok d (c.take n):=by
 cases d with
 |ref k=>cases h
 |_=>(unfold cU;dsimp only;rw[if_pos h])
theorem Ir(h:Tb n k a b)(c:aa):j4 [T4 n k a b] c=.ok (mH n k a b) c:=by
 obtain⟨n1,n2,n3,n4,n5,n6⟩:=adG (n:=n) (k:=k) (a:=a) (b:=b);have hs:=sZ h c;unfold mH;cases q1:oW n k a b with
 |some d =>
  obtain⟨z1,z2⟩:=n1 d q1;simp[j4,mK,qM h,nN,kE,lR,qL h,q1,z1,tH _ _ _ _ z2]
 |none =>
  cases q2:nT n k a b with
  |some d =>
   obtain⟨z1,z2⟩:=n2 d q2;simp[j4,mK,qM h,nN,kE,lR,qL h,q1,vd h,q2,z1,tH _ _ _ _ z2]
  |none =>
   cases q3:oK n k a b with
   |some d =>
    obtain⟨z1,z2⟩:=n3 d q3;simp[j4,mK,qM h,nN,kE,lR,qL h,q1,vd h,q2,sZ h,q3,z1,tH _ _ _ _ z2]
   |none =>
    have ht:iM n k a b≠Z:=by
     intro z;unfold oK at q3;rw[z]at q3;cases q3
    cases q4:tO k a b with
    |some d =>
     obtain⟨z1,z2⟩:=n4 d q4;simp[j4,mK,qM h,nN,kE,lR,qL h,q1,vd h,q2,sZ h,q3,z9 h,q4,z1,tH _ _ _ _ z2]
    |none =>
     cases q5:sR n k a b with
     |some d =>
      obtain⟨z1,z2⟩:=n5 d q5;simp[j4,mK,qM h,nN,kE,lR,qL h,q1,vd h,q2,sZ h,q3,z9 h,q4,EU h ht,q5,z1,tH _ _ _ _ z2]
     |none =>
      cases q6:tu n k a b with
      |some d =>
       obtain⟨z1,z2⟩:=n6 d q6;simp[j4,mK,qM h,nN,kE,lR,qL h,q1,vd h,q2,sZ h,q3,z9 h,q4,EU h ht,q5,LP h,q6,z1,tH _ _ _ _ z2]
      |none =>
       simp[j4,mK,qM h,nN,kE,lR,qL h,q1,vd h,q2,sZ h,q3,z9 h,q4,EU h ht,q5,LP h,q6]
def EK(n k a b:Int):Option D:=match iM n k a b with
 |none=>Z
 |some (f,g)=>match sq (dN k a b)with
  |none=>O (.tup [.str "root",.int (dN k a b),.int f])
  |some w=>O (.tup [.str "whole",.int ((a-b+w)/2),.int f,.int ((a-b-w)/2),.int g])
theorem ahA(hb:mH n k a b=.aJ):k*(k-a-1)=(n-k-1)*b/\∃f g,iM n k a b=O (f,g):=by
 unfold mH at hb;cases q1:oW n k a b with
 |some d =>
  rw[q1]at hb;unfold oW at q1;dsimp only at hb;subst hb;split at q1
  ·cases q1
  ·split at q1<;>cases q1
 |none =>
  rw[q1]at hb;dsimp only at hb;cases q2:nT n k a b with
  |some d =>
   rw[q2]at hb;unfold nT at q2;dsimp only at hb;subst hb;split at q2<;>cases q2
  |none =>
   have hc:k*(k-a-1)=(n-k-1)*b:=by
    unfold nT at q2;split at q2
    ·assumption
    ·cases q2
   refine⟨hc,?_⟩;rw[q2]at hb;dsimp only at hb;unfold oK at hb;cases q3:iM n k a b with
   |none=>rw[q3]at hb;dsimp only at hb;cases hb
   |some p=>exact⟨p.1,p.2,rfl⟩
theorem akV(h:Tb n k a b)(hb:mH n k a b=.aJ)(c:aa):rj [T4 n k a b] c=.ok (oV (EK n k a b)) c:=by
 obtain⟨hc,f,g,ht⟩:=ahA hb;have hd:=d_pos h;have hr:=zW (d:=dN k a b) ∅
 unfold EK;rw[ht];dsimp only;cases hs:sq (dN k a b)with
 |none=>simp[rj,yE,Ir h,hb,qB h,ht,twV,k8 h,hr,hs,gC]
 |some w=>simp[rj,yE,Ir h,hb,qB h,ht,twV,k8 h,hr,hs,gC,zz]
end Ev
set_option maxHeartbeats 400000
namespace Ev
open PySem L2 Fq
abbrev Tn:=Nat×Nat×Option Nat×Option Nat
def Oc(T:Tn):Tn:=(T.1,T.1-1-T.2.1,T.2.2.2.map λy=>T.1+y-2*T.2.1-2,T.2.2.1.map λx=>T.1+x-2*T.2.1)
def Gm(n t:Nat):Tn:=(n*n,(t+2)*(n-1),O (n-2+(t+1)*t),if t=n-1 then Z else O ((t+2)*(t+1)))
def HG(q:Nat):Tn:=(q,(q-1)/2,O ((q-5)/4),O ((q-1)/4))
def qP(m:Nat):Tn:=(m*(m-1)/2,2*(m-2),O (m-2),if m=3 then Z else O 4)
def L0:List Tn:=[5,9,13,17,25,29].map HG++((θ 6).map λm=>qP (3+m))++[2,3,4,5,6,7].flatMap λn=>(θ (if n=6 then 2 else n)).map (Gm n)
def LT:List Tn:=L0++L0.map Oc
def J5(n k a b:Int):Bool:=decide (3<=n/\n<=100/\1<=k/\k<=n-2/\0<=a/\a<=k-1/\0<=b/\b<=k)
def zA(n k a b:Int):Bool:=match iM n k a b with
 |none=>ξ
 |some (f,g)=>match sq (dN k a b)with
  |none=>G
  |some w=>decide (1+f+g=n/\k+f*((a-b+w)/2)+g*((a-b-w)/2)=0/\k*k*k+(f*((a-b+w)/2)*((a-b+w)/2)*((a-b+w)/2)+g*((a-b-w)/2)*((a-b-w)/2)*((a-b-w)/2))=n*k*a/\(-1000<f/\f<1000)/\(-1000<g/\g<1000)/\(-1000<(a-b+w)/2/\(a-b+w)/2<1000)/\-1000<(a-b-w)/2/\(a-b-w)/2<1000)
def agU(T:Tn):Bool:=match T with
 |(n,k,O a,O b)=>J5 n k a b&&fD (mH n k a b)&&zA n k a b
 |(n,_,_,_)=>decide (3<=n/\n<=100)
theorem chk:LT.all agU=G:=by decide +kernel
def vB(T:Tn)(f:Nat->Nat->Bool):Prop:=EN T.1 T.2.1 T.2.2.1 T.2.2.2 f
def abL(f:Fd):Bool:=decide (kN f.q (kF f)=(f.q-1)/2/\f6 (bw f.q (kF f)) (cu (bw f.q (kF f)))=O ((f.q-5)/4)/\f6 (bw f.q (kF f)) (cu (dM (bw f.q (kF f))))=O ((f.q-1)/4))
theorem abK:(bU.all λf=>!decide (f.q % 4=1)||abL f)=G:=by decide +kernel
theorem afV(h:f∈bU)(h4:f.q % 4=1):vB (HG f.q) (kF f):=by
 have:=Iv.mp abK f h;rw[decide_eq_true h4]at this;obtain⟨h1,h2,h3⟩:=of_decide_eq_true (show decide _=G from this)
 exact⟨(RW h h4).1,h1,h2,h3⟩
def OD(m:Nat):Bool:=CI (PP m).length (qN (PP m))&&decide ((PP m).length=m*(m-1)/2/\kN (PP m).length (qN (PP m))=2*(m-2)/\f6 (WW m) (cu (WW m))=O (m-2)/\f6 (WW m) (cu (dM (WW m)))=(if m=3 then Z else O 4)/\(PP m).length<64)&&(PP m).all λp=>decide (p.1<128/\p.2<128)
theorem abH:((θ 6).all λm=>OD (3+m))=G:=by decide +kernel
theorem aam(h:m<6):vB (qP (3+m)) (qN (PP (3+m)))/\∀c,xo [.int ((3+m:Nat):Int)] c=.ok (bG (bw (qP (3+m)).1 (qN (PP (3+m))))) c:=by
 have:=Iv.mp abH m (gq.mpr h);unfold OD at this;rw[T5,T5]at this;obtain⟨⟨h1,h2⟩,h3⟩:=this;obtain⟨e,g1,g2,g3,g4⟩:=of_decide_eq_true h2;have e:(PP (3+m)).length=(qP (3+m)).1:=e;have W:=aal (m:=3+m) ∅ ∅ (λp hp=>of_decide_eq_true (Iv.mp h3 p hp)) g4
 unfold WW at W g2 g3;rw[e]at h1 g1 g2 g3 W;exact⟨⟨R0 h1,g1,g2,g3⟩,W⟩
theorem Net.en{ss:List (Nat->Nat->Nat)}(H:Net n ss):vB (Gm n ss.length) (dF n ss):=by
 have h2:=H.two;have N0:0<n*n:=Wf ∅ ∅
 refine⟨H.ew,?_,LY (λp hp=>H.near hp) H.amk,?_⟩
 ·show kN (n*n) (dF n ss)=_;unfold kN;rw[iA N0];exact H.mC N0
 ·show f6 (bw (n*n) (dF n ss)) (cu (dM (bw (n*n) (dF n ss))))=if ss.length=n-1 then Z else O ((ss.length+2)*(ss.length+1))
  by_cases e:ss.length=n-1
  ·rw[if_pos e,H.ahM e];rfl
  ·rw[if_neg e];exact LY (λp hp=>H.cL hp) (H.ahN e)
def Made(w:List (List Nat)):Prop:=∃T f,T∈LT/\vB T f/\w=bw T.1 f
end Ev
set_option maxHeartbeats 400000
namespace Ev
open PySem L2 Fq
section
variable {d d1 d2:af}{e e':Ev}{c c' c1 c2:aa}{x y v:D}{q:R Fl}
theorem fT(h:s e c=.ok (.nx e') c')(h2:u e' c'=q):aC s u e c=q:=by rw[cK h];exact h2
theorem xW(h:t e c=.ok G c')(h2:s e c'=q):bz t s u e c=q:=by rw[kC,h];exact h2
theorem uE(h:t e c=.ok ξ c')(h2:u e c'=q):bz t s u e c=q:=by rw[kC,h];exact h2
theorem S9{f:D->D->aa->R D}(h1:d1 e c=.ok x c1)(h2:d2 e c1=.ok y c2)(h:f x y c2=r):au f d1 d2 e c=r:=by
 rw[eO,h1];simp;rw[h2];exact h
theorem NC(h:d e c=.ok v c'):aK d e c=.ok (.rt v) c':=by rw[i9,h];rfl
end
theorem aim(h:T∈L0):T∈LT:=WL _ h
theorem GF{f:Nat->Nat->Bool}(h:T∈L0)(e:vB T f):Made (bw T.1 f)/\Made (dM (bw T.1 f)) :=
 ⟨⟨T,f,aim h,e,rfl⟩,Oc T,_,Ud _ (H8.mpr ⟨T,h,rfl⟩),EN.ot e,Aq _ _⟩
def Kr(w:List (List Nat)):Prop:=Made w/\Made (dM w)
theorem afS(h:q=5\/q=9\/q=13\/q=17\/q=25\/q=29):∃f∈bU,(f.q:Int)=q/\f.q % 4=1/\HG f.q∈L0:=by
 have:∀n∈[5,9,13,17,25,29],(bU.find? λf=>decide (f.q=n)).isSome=G/\n % 4=1:=⋯
 have g:∃n∈[5,9,13,17,25,29],((n:Nat))=q:=by
  rcases h with rfl|rfl|rfl|rfl|rfl|rfl
  ·exact⟨5,⋯,rfl⟩
  ·exact⟨9,⋯,rfl⟩
  ·exact⟨13,⋯,rfl⟩
  ·exact⟨17,⋯,rfl⟩
  ·exact⟨25,⋯,rfl⟩
  ·exact⟨29,⋯,rfl⟩
 obtain⟨n,hn,rfl⟩:=g;obtain⟨h1,h2⟩:=this n hn;obtain⟨f,hf⟩:=Vy.mp h1;have e:=of_decide_eq_true (by have:=Y3 hf;exact this)
 refine⟨f,Zy hf,by rw[e],by rw[e];exact h2,?_⟩
 rw[e];exact WL _ (WL _ (H8.mpr ⟨n,hn,rfl⟩))
theorem acn(h2:2<=n)(h7:n<=7)(ht:t<=n-1)(h6:n=6->t<=1):Gm n t∈L0:=by
 refine Ud _ (Yi.mpr ⟨n,?_,H8.mpr ⟨t,gq.mpr ?_,rfl⟩⟩)
 ·have:n=2\/n=3\/n=4\/n=5\/n=6\/n=7:=∅
  rcases this with rfl|rfl|rfl|rfl|rfl|rfl<;>decide
 ·split
  ·have:=h6 (by assumption);omega
  ·omega
theorem apc(h:m<6):qP (3+m)∈L0:=by
 exact WL _ (Ud _ (H8.mpr ⟨m,gq.mpr h,rfl⟩))
theorem af2(hP:dX j n c)(P':dX j n c'):c'.take c.length=c':=by rw[hP.1,<-P'.1,Us]
theorem acJ(hP:dX j n c):∃w c',Kr w/\dX j n c'/\xu [.ref j] c=.ok (bG w) c':=by
 obtain⟨x,c1,x0,x1,P1,t1⟩:=mW (cL:=3) hP ⋯ ⋯
 have key:∀w c',Kr w->dX j n c'->Dw [O (.ref j),Z,Z,Z] c=.ok (.rt (bG w)) c'->∃w c',Kr w/\dX j n c'/\xu [.ref j] c=.ok (bG w) c':=λw c' hw P' h=>by
  refine⟨w,c',hw,P',?_⟩;have:=aoa (n:=4) (xs:=[.ref j]) h (lH w) (λk h=>by cases h)
  rw[af2 hP P']at this;exact this
 have s1:aG 1 (aB 2 cI (ao (ak 0) (ao (dC (.int 3)) av))) [O (.ref j),Z,Z,Z] c=.ok (.nx [O (.ref j),O (.int x),Z,Z]) c1:=Fc (zG rfl rfl t1);have hx:x=0\/x=1\/x=2:=∅
 rcases hx with rfl|rfl|rfl
 ·obtain⟨y,c2,y0,y1,P2,t2⟩:=mW (cL:=6) P1 ⋯ ⋯
  have hl:cE (fL [5,9,13,17,25,29]) [O (.ref j),O (.int 0),Z,Z] c1=.ok (.lst [.int 5,.int 9,.int 13,.int 17,.int 25,.int 29]) c1:=rfl;obtain⟨z,hz,hi⟩:=apQ hl (zG (a:=dC (.int 6)) (i:=0) (e:=[O (.ref j),O (.int 0),Z,Z]) rfl rfl t2) y0 y1;have hz:∃q:Int,z=.int q/\(q=5\/q=9\/q=13\/q=17\/q=25\/q=29):=by
   simp only[AP,TZ,or_false]at hz
   rcases hz with rfl|rfl|rfl|rfl|rfl|rfl<;>exact⟨_,rfl,⋯⟩
  obtain⟨q,rfl,hq⟩:=hz;obtain⟨f,hf,rfl,h4,hL⟩:=afS hq;refine key (bw f.q (kF f)) c2 (GF hL (afV hf h4)) P2 ?_;exact fT s1 (by rw[aC,xW (c':=c1) rfl (NC (yC hi ((RW hf h4).2 c2)))];rfl)
 ·obtain⟨n',ss,c2,⟨H,h6⟩,P2,t2⟩:=amE P1;refine key (bw (n'*n') (dF n' ss)) c2 (GF (acn H.two H.tE H.few h6) H.en) P2 ?_;refine fT s1 (fT (uE (c':=c1) (u:=bA) rfl rfl) ?_);have e:(aC (g8 (aB 1 AV ⇑0) (dU 2 (bR (aA 2) (bR (aA 3) eT)))) (aK (aB 2 AS (2⊂3)))) [O (.ref j),O (.int 1),Z,Z] c1=.ok (.rt (bG (bw (n'*n') (dF n' ss)))) c2:=by
   refine fT (e':=[O (.ref j),O (.int 1),O ↥n',O (.lst (b9 n' ss))]) ?_ (jr (lB rfl rfl (acm H rfl c2)));rw[zy,yC (x:=.ref j) rfl t2];rfl
  rw[aC,xW (c':=c1) rfl e];rfl
 ·obtain⟨y,c2,y0,y1,P2,t2⟩:=mW (cL:=6) P1 ⋯ ⋯
  obtain⟨i,rfl⟩:∃i:Nat,y=i:=⟨y.toNat,∅⟩
  have hi:i<6:=∅
  obtain⟨E,W⟩:=aam hi;refine key (bw (qP (3+i)).1 (qN (PP (3+i)))) c2 (GF (apc hi) E) P2 ?_;refine fT s1 (fT (uE (c':=c1) (u:=bA) rfl rfl) (fT (uE (c':=c1) (u:=bA) rfl rfl) ?_));refine NC (yC (S9 rfl (zG rfl rfl t2) rfl) ?_);have:=W c2;rw[show((3+i:Nat):Int)=3+(i:Int) by omega]at this
  exact this
end Ev
set_option maxHeartbeats 400000
namespace Ev
open PySem L2 Fq
def tD(T:Tn):D:=.tup [.int (T.1:Int),.int (T.2.1:Int),gp T.2.2.1,gp T.2.2.2]
theorem KQ(lo hi:D)(c:aa):dP [.aJ,lo,hi] c=.ok (.bl ξ) c:=by
 simp[dP,mJ,j3,nW]
theorem adD(h:a=Z\/b=Z)(c:aa):jd [.tup [.int n,.int k,gp a,gp b]] c=.ok (.bl ξ) c:=by
 have C:∀a' b':D,(a'=.aJ/\(b'=.aJ\/∃i:Int,b'=.int i))\/(∃i:Int,a'=.int i)/\b'=.aJ->jd [.tup [.int n,.int k,a',b']] c=.ok (.bl ξ) c:=by
  by_cases h1:3<=n<;>by_cases h2:n<=100<;>by_cases h3:1<=k<;>by_cases h4:k<=n-2<;>rintro a' b' (⟨rfl,rfl|⟨i,rfl⟩⟩|⟨⟨i,rfl⟩,rfl⟩)
  all_goals first
   |(simp[jd,vh,KQ,h1,h2,h3,h4];done)
   |(by_cases h5:0<=i<;>by_cases h6:i<=k-1<;>simp[jd,vh,KQ,h1,h2,h3,h4,h5,h6])
 cases a with
 |none =>
  cases b with
  |none=>exact C _ _ (.inl ⟨rfl,.inl rfl⟩)
  |some b=>exact C _ _ (.inl ⟨rfl,.inr ⟨_,rfl⟩⟩)
 |some a =>
  cases b with
  |none=>exact C _ _ (.inr ⟨⟨_,rfl⟩,rfl⟩)
  |some b=>rcases h with h|h<;>cases h
theorem ab0(n k:Int)(a b:Option Nat)(c:aa):lZ .aJ (.tup [.int n,.int k,gp a,gp b]) c=.ok (.bl (a.isSome&&b.isSome)) c:=by
 cases a<;>cases b<;>simp[lZ,gw,fE,gh,gp,PyData.depth,PyData.eqv]
theorem jw(h1:-1000<y)(h2:y<1000)(c:aa):aT (.int x) (.int y) c=.ok (.int (x*y)) c:=by
 unfold aT;dsimp only;rw[if_pos ∅]
end Ev
set_option maxHeartbeats 400000
namespace Ev
open PySem L2 Fq
def l4:ah:=(g8 (aB 1 uy ⇑3) (dU 2 (bR (aA 4) (bR (aA 5) eT))))
def l5:ah:=(bz (fy (aN (au cS (ak 4) (dC (.str "even")))) (aN (au cS (aB 1 jd ⇑5) (gG (au lZ (dC .aJ) (ak 5)) (au jf (au aD (ak 5) (dC (.int 0))) (dC (.int 2))))))) (aK (dC (.bl ξ))) bA)
def w1:ah:=(g8 (ak 6) (dU 5 (bR (aA 7) (bR (aA 8) (bR (aA 9) (bR (aA 10) (bR (aA 11) eT)))))))
def w2:ah:=(g8 (ak 5) (dU 4 (bR (aA 12) (bR (aA 13) (bR (aA 14) (bR (aA 15) eT))))))
def w3:ah:=(aG 16 (au aZ (au aT (au aT (au aT (ak 9) (ak 8)) (ak 8)) (ak 8)) (au aT (au aT (au aT (ak 11) (ak 10)) (ak 10)) (ak 10))))
def w4:ah:=(bz (fy (aN (au cS (au aZ (au aZ (dC (.int 1)) (ak 9)) (ak 11)) (ak 12))) (aN (au cS (au aZ (au aZ (ak 13) (au aT (ak 9) (ak 8))) (au aT (ak 11) (ak 10))) (dC (.int 0))))) (aK (dC (.bl ξ))) bA)
def w5:ah:=(bz (aN (au cS (au aZ (au aT (au aT (ak 13) (ak 13)) (ak 13)) (ak 16)) (au aT (au aT (ak 12) (ak 13)) (ak 14)))) (aK (dC (.bl ξ))) bA)
def w6:ah:=(bz (aN (au cS (aO qG (ao (aX (c9 (ak 3)) [Z] (aA 0) aP (aO bD ⇑0)) av)) (au aT (ak 12) (ak 13)))) (aK (dC (.bl ξ))) bA)
def l6:ah:=(bz (aN (aB 1 jd ⇑5)) (aC (bz (aN (au jA (aB 1 j4 ⇑5) (dC .aJ))) (aK (dC (.bl ξ))) bA) (aC (aG 6 (aB 1 rj ⇑5)) (bz (aN (au cB (au aD (ak 6) (dC (.int 0))) (dC (.str "whole")))) (aC w1 (aC w2 (aC w3 (aC w4 (aC w5 w6))))) bA))) bA)
def l1:ah:=(aG 2 (aB 1 uv (ao (aB 2 ux (0⊂1)) av)))
def l2:ah:=(aG 3 (aB 1 xu ⇑2))
def l3:ah:=(bz (aN (au cB (aB 2 cI (ao (ak 2) (ao (dC (.int 3)) av))) (dC (.int 0)))) (aG 3 (aB 1 um ⇑3)) bA)
def Ao:ah:=aC l1 (aC l2 (aC l3 (aC l4 (aC l5 l6))))
theorem ac8:Dz=aC (bY (bH (ao (dC (.int 4)) av)) (aA 1) Ao) (aK (dC (.bl G))):=rfl
def lE(S K P W:D)(v4 v5 v6 v7 v8 v9 v10 v11 d9 d8 d7 dZ dY:Option D):Ev:=[O S,O K,O P,O W,v4,v5,v6,v7,v8,v9,v10,v11,d9,d8,d7,dZ,dY]
theorem af5{f:Nat->Nat->Bool}(E:vB T f):ym (bw T.1 f)=.tup [.str "even",tD T]:=by
 have:=E.ew.ev
 rwa[E.dg,E.na,E.nb]at this
theorem AI(h:x=y)(c:aa):cS (.int x) (.int y) c=.ok (.bl ξ) c:=by subst h;simp
section
variable {S K P W:D}{v4 v5 v6 v7 v8 v9 v10 v11 d9 d8 d7 dZ dY:Option D}{c:aa}
theorem abI{n k a b r f s g:Int}(hW:W=bG w)(hw:w.length<1000){x:Nat}(hx:∀q∈w,q.length=x)(hn:n=w.length)(hk:k=x)(e1:1+f+g=n)(e2:k+f*r+g*s=0)(e3:k*k*k+(f*r*r*r+g*s*s*s)=n*k*a)(akt:-1000<f/\f<1000)(aku:-1000<g/\g<1000)(br:-1000<r/\r<1000)(bs:-1000<s/\s<1000)(bn:-1000<n/\n<1000)(bk:-1000<k/\k<1000)(ba:-1000<a/\a<1000):
  ∃u7 u8 u9 lP lO lN lM lK lJ lI,(aC w1 (aC w2 (aC w3 (aC w4 (aC w5 w6))))) (lE S K P W v4 (O (T4 n k a b)) (O (.tup [.str "whole",.int r,.int f,.int s,.int g])) v7 v8 v9 v10 v11 d9 d8 d7 dZ dY) c
   = .ok (.nx (lE S K P W v4 (O (T4 n k a b)) (O (.tup [.str "whole",.int r,.int f,.int s,.int g])) u7 u8 u9 lP lO lN lM lK lJ lI)) c:=by
 refine⟨O (.str "whole"),O (.int r),O (.int f),O (.int s),O (.int g),O (.int n),O (.int k),O (.int a),O (.int b),O (.int (f*r*r*r+g*s*s*s)),?_⟩;refine fT (e':=lE S K P W v4 (O (T4 n k a b)) (O (.tup [.str "whole",.int r,.int f,.int s,.int g])) (O (.str "whole")) (O (.int r)) (O (.int f)) (O (.int s)) (O (.int g)) d9 d8 d7 dZ dY) rfl ?_;refine fT rfl ?_;refine fT (kH (cN (cN (cN (cN (x:=.int f) (y:=.int r) rfl rfl (jw br.1 br.2 c)) (y:=.int r) rfl (jw br.1 br.2 c)) (y:=.int r) rfl (jw br.1 br.2 c)) (cN (cN (cN (x:=.int g) (y:=.int s) rfl rfl (jw bs.1 bs.2 c)) (y:=.int s) rfl (jw bs.1 bs.2 c)) (y:=.int s) rfl (jw bs.1 bs.2 c)) rfl)) ?_;refine fT (uD (Oe (mG (cN (cN (cN (x:=.int 1) (y:=.int f) rfl rfl rfl) (y:=.int g) rfl rfl) (y:=.int n) rfl (AI e1 c))) (mG (cN (cN (cN (x:=.int k) rfl (cN (x:=.int f) (y:=.int r) rfl rfl (jw br.1 br.2 c)) rfl) (cN (x:=.int g) (y:=.int s) rfl rfl (jw bs.1 bs.2 c)) rfl) (y:=.int 0) rfl (AI e2 c))))) ?_;refine fT (uD (mG (cN (cN (cN (cN (x:=.int k) (y:=.int k) rfl rfl (jw bk.1 bk.2 c)) (y:=.int k) rfl (jw bk.1 bk.2 c)) (y:=.int (f*r*r*r+g*s*s*s)) rfl rfl) (cN (cN (x:=.int n) (y:=.int k) rfl rfl (jw bk.1 bk.2 c)) (y:=.int a) rfl (jw ba.1 ba.2 c)) (AI e3 c)))) ?_;exact uD (mG (cN (amO (d:=ak 3) (w:=w) (x:=x) (S:=n*k) (by rw[hW];rfl) hw hx (by rw[hn,hk])) (cN (x:=.int n) (y:=.int k) rfl rfl (jw bk.1 bk.2 c)) (AI rfl c)))
theorem aga(hM:Made w)(hW:W=bG w)(c:aa):∃u4 u5 u6 u7 u8 u9 lP lO lN lM lK lJ lI,aC l4 (aC l5 l6) (lE S K P W v4 v5 v6 v7 v8 v9 v10 v11 d9 d8 d7 dZ dY) c=.ok (.nx (lE S K P W u4 u5 u6 u7 u8 u9 lP lO lN lM lK lJ lI)) c:=by
 obtain⟨T,f,hT,E,rfl⟩:=hM;have hc:=Iv.mp chk T hT;have lo:=E.ew.lo;have hi:=E.ew.hi;have ev:=af4 (ak2 (N:=T.1) (f:=f) ∅) (by rw[fN];omega) c
 rw[af5 E,<-hW]at ev;have mC:∀q∈bw T.1 f,q.length=T.2.1:=λq hq=>by
  obtain⟨i,hi,rfl⟩:=H8.mp hq;rw[E.ew.mC (gq.mp hi),E.dg]
 have s4:l4 (lE S K P W v4 v5 v6 v7 v8 v9 v10 v11 d9 d8 d7 dZ dY) c=.ok (.nx (lE S K P W (O (.str "even")) (O (tD T)) v6 v7 v8 v9 v10 v11 d9 d8 d7 dZ dY)) c:=by
  unfold l4;rw[zy,iH (x:=W) rfl ev];rfl
 obtain⟨n,k,a,b⟩:=T;have hn3:3<=n/\n<=100:=by
  cases a with
  |none=>exact of_decide_eq_true (p:=3<=n/\n<=100) hc
  |some a =>
   cases b with
   |none=>exact of_decide_eq_true (p:=3<=n/\n<=100) hc
   |some b =>
    have hc:(J5 n k a b&&fD (mH n k a b)&&zA n k a b)=G:=hc;rw[T5,T5]at hc;have:=of_decide_eq_true hc.1.1;omega
 have s5:∀t:Bool,(a.isSome&&b.isSome)=t->jd [tD (n,k,a,b)] c=.ok (.bl t) c->l5 (lE S K P W (O (.str "even")) (O (tD (n,k,a,b))) v6 v7 v8 v9 v10 v11 d9 d8 d7 dZ dY) c=.ok (.nx (lE S K P W (O (.str "even")) (O (tD (n,k,a,b))) v6 v7 v8 v9 v10 v11 d9 d8 d7 dZ dY)) c:=λt ht hi=>by
  refine uD (Oe rfl (mG (cN (iH rfl hi) (y:=.bl t) ?_ (by cases t<;>rfl))))
  have h1:=ab0 (n:Int) (k:Int) a b c;rw[ht]at h1;have h2:au lZ (dC .aJ) (ak 5) (lE S K P W (O (.str "even")) (O (tD (n,k,a,b))) v6 v7 v8 v9 v10 v11 d9 d8 d7 dZ dY) c=.ok (.bl t) c:=cN rfl rfl h1;unfold gG;rw[h2];cases t with
  |false=>rfl
  |true =>
   simp only[R.aF];have:au jf (au aD (ak 5) (dC (.int 0))) (dC (.int 2)) (lE S K P W (O (.str "even")) (O (tD (n,k,a,b))) v6 v7 v8 v9 v10 v11 d9 d8 d7 dZ dY) c=.ok (.bl (decide ((n:Int)>2))) c:=rfl;rw[decide_eq_true ∅]at this
   first
    |exact this
    |(rw[this];rfl)
    |simp[this]
 by_cases hab:(a.isSome&&b.isSome)=G
 ·rw[T5]at hab;obtain⟨a,rfl⟩:=Vy.mp hab.1;obtain⟨b,rfl⟩:=Vy.mp hab.2;have hc:(J5 n k a b&&fD (mH n k a b)&&zA n k a b)=G:=hc;rw[T5,T5]at hc;obtain⟨⟨h1,h2⟩,h3⟩:=hc;obtain⟨q1,q2,q3,q4,q5,q6,q7,q8⟩:=of_decide_eq_true h1;have J6:Tb n k a b:=⟨q1,q2,q3,q4,q5,q6,q7,q8⟩;have hb:mH n k a b=.aJ:=by
   generalize mH n k a b=d at h2
   cases d<;>first|rfl|cases h2
  have it:=Qt J6 c;have hT4:tD (n,k,O a,O b)=T4 n k a b:=rfl;have anE:=s5 G rfl it;have ht:aN (aB 1 jd ⇑5) (lE S K P W (O (.str "even")) (O (tD (n,k,O a,O b))) v6 v7 v8 v9 v10 v11 d9 d8 d7 dZ dY) c=.ok G c:=mG (iH rfl it);have Q8:=Ir J6 c;rw[hb]at Q8;have pQ:=akV J6 hb c;have hx:∃F u7 u8 u9 lP lO lN lM lK lJ lI,rj [T4 n k a b] c=.ok F c/\(bz (aN (au cB (au aD (ak 6) (dC (.int 0))) (dC (.str "whole")))) (aC w1 (aC w2 (aC w3 (aC w4 (aC w5 w6))))) bA) (lE S K P W (O (.str "even")) (O (T4 n k a b)) (O F) v7 v8 v9 v10 v11 d9 d8 d7 dZ dY) c=.ok (.nx (lE S K P W (O (.str "even")) (O (T4 n k a b)) (O F) u7 u8 u9 lP lO lN lM lK lJ lI)) c:=by
   unfold EK at pQ;unfold zA at h3;cases ht:iM n k a b with
   |none=>rw[ht]at h3;cases h3
   |some fg =>
    obtain⟨F,Θ⟩:=fg;rw[ht]at h3 pQ;dsimp only at h3 pQ;cases hs:sq (dN k a b)with
    |none =>
     rw[hs]at pQ;exact⟨_,v7,v8,v9,v10,v11,d9,d8,d7,dZ,dY,pQ,uE (c':=c) rfl rfl⟩
    |some w =>
     rw[hs]at pQ h3;dsimp only at h3 pQ;obtain⟨g1,g2,g3,g4,g5,apH,apG⟩:=of_decide_eq_true h3;obtain⟨u7,u8,u9,lP,lO,lN,lM,lK,lJ,lI,hw⟩:=abI (S:=S) (K:=K) (P:=P) (v4:=O (.str "even")) (v7:=v7) (v8:=v8) (v9:=v9) (v10:=v10) (v11:=v11) (d9:=d9) (d8:=d8) (d7:=d7) (dZ:=dZ) (dY:=dY) (c:=c) (b:=(b:Int)) (k:=(k:Int)) (x:=k) (w:=bw n f) hW (by have:=hn3.2;rw[fN];omega) mC (by rw[fN]) rfl g1 g2 g3 g4 g5 apH apG ∅ ∅ ∅
     exact⟨_,u7,u8,u9,lP,lO,lN,lM,lK,lJ,lI,pQ,xW (c':=c) rfl hw⟩
  obtain⟨F,u7,u8,u9,lP,lO,lN,lM,lK,lJ,lI,hF,Bl⟩:=hx;refine⟨_,_,_,u7,u8,u9,lP,lO,lN,lM,lK,lJ,lI,fT s4 (fT anE (xW ht (fT (uD (mG (cN (iH rfl Q8) (y:=.aJ) rfl rfl))) (fT (e':=lE S K P W (O (.str "even")) (O (T4 n k a b)) (O F) v7 v8 v9 v10 v11 d9 d8 d7 dZ dY) (kH (iH rfl hF)) Bl))))⟩
 ·have hab:(a.isSome&&b.isSome)=ξ:=by simpa using hab
  have it:=adD (n:=(n:Int)) (k:=(k:Int)) (a:=a) (b:=b) (by
   cases a with
   |none=>exact .inl rfl
   |some a =>
    cases b with
    |none=>exact .inr rfl
    |some b=>cases hab) c
  exact⟨_,_,_,_,_,_,_,_,_,_,_,_,_,fT s4 (fT (s5 ξ hab it) (uE (c':=c) (mG (iH rfl it)) rfl))⟩
end
end Ev
set_option maxHeartbeats 400000
namespace Ev
open PySem L2 Fq
def LE(ns:List Int)(e:Ev):Prop:=∃v1 v2 v3 v4 v5 v6 v7 v8 v9 v10 v11 d9 d8 d7 dZ dY,e=[O (.cP ns),v1,v2,v3,v4,v5,v6,v7,v8,v9,v10,v11,d9,d8,d7,dZ,dY]
theorem aas{ns:List Int}(i0:0<=i)(c:aa)(v2 v3 v4 v5 v6 v7 v8 v9 v10 v11 d9 d8 d7 dZ dY:Option D):∃e' c',LE ns e'/\Ao [O (.cP ns),O (.int i),v2,v3,v4,v5,v6,v7,v8,v9,v10,v11,d9,d8,d7,dZ,dY] c=.ok (.nx e') c':=by
 obtain⟨y,hy⟩:=ag0 ns i i0 c;obtain⟨p0,hp⟩:=apa y c;have P0:dX c.length (c.length+1) (c++[.lst [.int p0]]):=⟨by simp,∅,p0,by simp⟩
 obtain⟨w,c1,hw,P1,t1⟩:=acJ P0;obtain⟨x,c2,x0,x1,P2,t2⟩:=mW (cL:=3) P1 ⋯ ⋯
 have s1:l1 [O (.cP ns),O (.int i),v2,v3,v4,v5,v6,v7,v8,v9,v10,v11,d9,d8,d7,dZ,dY] c=.ok (.nx [O (.cP ns),O (.int i),O (.ref c.length),v3,v4,v5,v6,v7,v8,v9,v10,v11,d9,d8,d7,dZ,dY]) (c++[.lst [.int p0]]):=Fc (yC (ahr (x:=.cP ns) (y:=.int i) rfl rfl hy) hp);have s2:l2 [O (.cP ns),O (.int i),O (.ref c.length),v3,v4,v5,v6,v7,v8,v9,v10,v11,d9,d8,d7,dZ,dY] (c++[.lst [.int p0]])=.ok (.nx (lE (.cP ns) (.int i) (.ref c.length) (bG w) v4 v5 v6 v7 v8 v9 v10 v11 d9 d8 d7 dZ dY)) c1:=Fc (yC (x:=.ref c.length) rfl t1);have ht:aN (au cB (aB 2 cI (ao (ak 2) (ao (dC (.int 3)) av))) (dC (.int 0))) (lE (.cP ns) (.int i) (.ref c.length) (bG w) v4 v5 v6 v7 v8 v9 v10 v11 d9 d8 d7 dZ dY) c1=.ok (decide (x=0)) c2:=mG (S9 (zG (i:=2) rfl rfl t2) rfl rfl);have s3:∃w',Made w'/\l3 (lE (.cP ns) (.int i) (.ref c.length) (bG w) v4 v5 v6 v7 v8 v9 v10 v11 d9 d8 d7 dZ dY) c1=.ok (.nx (lE (.cP ns) (.int i) (.ref c.length) (bG w') v4 v5 v6 v7 v8 v9 v10 v11 d9 d8 d7 dZ dY)) c2:=by
  by_cases q:x=0
  ·rw[decide_eq_true q]at ht;obtain⟨T,f,hT,E,e⟩:=id hw.1;have hl:w.length<1000:=by
    rw[e,fN];have:=E.ew.hi;omega
   exact⟨dM w,hw.2,xW ht (kH (iH (x:=bG w) rfl (Oa hl c2)))⟩
  ·rw[decide_eq_false q]at ht;exact⟨w,hw.1,uE ht rfl⟩
 obtain⟨w',hM,s3⟩:=s3;obtain⟨u4,u5,u6,u7,u8,u9,lP,lO,lN,lM,lK,lJ,lI,s4⟩:=aga (S:=.cP ns) (K:=.int i) (P:=.ref c.length) (v4:=v4) (v5:=v5) (v6:=v6) (v7:=v7) (v8:=v8) (v9:=v9) (v10:=v10) (v11:=v11) (d9:=d9) (d8:=d8) (d7:=d7) (dZ:=dZ) (dY:=dY) hM rfl c2;exact⟨_,c2,⟨_,_,_,_,_,_,_,_,_,_,_,_,_,_,_,_,rfl⟩,fT s1 (fT s2 (fT s3 s4))⟩
theorem ac7(ns:List Int)(_:ns.length<=63):∃c',xB [.cP ns] []=.ok (.bl G) c':=by
 obtain⟨e',c',he,hf⟩:=RM (g:=aA 1) (s:=Ao) (LE ns) (aY 0 4) [O (.cP ns),Z,Z,Z,Z,Z,Z,Z,Z,Z,Z,Z,Z,Z,Z,Z,Z] [] ⟨_,_,_,_,_,_,_,_,_,_,_,_,_,_,_,_,rfl⟩ (λt ht e c ⟨v1,v2,v3,v4,v5,v6,v7,v8,v9,v10,v11,d9,d8,d7,dZ,dY,he⟩=>by
   subst he;obtain⟨i,rfl,i0,i1⟩:=qZ ht;obtain⟨e',c',apD,ho⟩:=aas (ns:=ns) i0 c v2 v3 v4 v5 v6 v7 v8 v9 v10 v11 d9 d8 d7 dZ dY;exact⟨_,e',_,c',rfl,ho,apD⟩)
 have hsr:bH (ao (dC (.int 4)) av) [O (.cP ns),Z,Z,Z,Z,Z,Z,Z,Z,Z,Z,Z,Z,Z,Z,Z,Z] []=.ok ⟨aY 0 4,λ_=>True⟩ []:=by
  unfold bH;simp
 have e1:bY (bH (ao (dC (.int 4)) av)) (aA 1) Ao [O (.cP ns),Z,Z,Z,Z,Z,Z,Z,Z,Z,Z,Z,Z,Z,Z,Z,Z] []=.ok (.nx e') c':=by
  rw[jl,hsr,R.aF];exact hf
 refine⟨c'.take 0,?_⟩;unfold xB bh;rw[show cW 17 [D.cP ns]=[O (.cP ns),Z,Z,Z,Z,Z,Z,Z,Z,Z,Z,Z,Z,Z,Z,Z,Z]from rfl,ac8,fT e1 (jr rfl)]
 rfl
end Ev
namespace Ev
open PySem L2 PyProof.Rows
theorem afs{K:Γ}{g0 g1 g2 g3 g4 g5:Ξ}(h0:μ K ι "bar_of_room"=O (O (.ref g0)))(h1:μ K ι "bar_of_counting"=O (O (.ref g1)))(h2:μ K ι "bar_of_sums"=O (O (.ref g2)))(h3:μ K ι "bar_of_products"=O (O (.ref g3)))(h4:μ K ι "bar_of_threes"=O (O (.ref g4)))(h5:μ K ι "bar_of_squares"=O (O (.ref g5))):∀(i:Nat) (y:Str),kE[i]? = O y->∃f,([g0,g1,g2,g3,g4,g5]:List Ξ)[i]? = O f/\μ K ι y=O (O (.ref f)):=by
 intro i y h;unfold kE at h
 match i,h with
 |0,h=>cases h;exact⟨_,rfl,h0⟩
 |1,h=>cases h;exact⟨_,rfl,h1⟩
 |2,h=>cases h;exact⟨_,rfl,h2⟩
 |3,h=>cases h;exact⟨_,rfl,h3⟩
 |4,h=>cases h;exact⟨_,rfl,h4⟩
 |5,h=>cases h;exact⟨_,rfl,h5⟩
 |(k+6),h=>simp at h
theorem all_mk{l:ZM}{K:Γ}{mg:Str->Option Δ}(X:K.In h)(Θ:h.Ns ι mg)(Hg:mg "law"=O (.ref fa))(JJ:FA K "is_whole" MX Cm)(JI:FA K "is_whole_within" MW Ck)(IY:FA K "root_of" Mr BL)(J3:FA K "agree_somewhere" Nn CG)(JQ:FA K "is_field" M5 Ct)(Jb:FA K "require_field" Mv BQ)(IZ:FA K "require_things" Ms BN)(IX:FA K "row_of" Mq BK)(Jf:FA K "number_of" Mx BS)(IQ:FA K "taken" Mj BF)(IW:FA K "row_where" Mp BJ)(IK:FA K "web_where" Mf p7)(IP:FA K "ties" Mi BE)(Jd:FA K "other_web" zQ uS)(JZ:FA K "common" Nc CB)(JT:FA K "first_unlike_place" M7 Cv)(IV:FA K "shared_by_all" Mn BI)(JU:FA K "first_unlike_pair" M8 Cw)(JW:FA K "evenness" M9 Cy)(JN:FA K "is_shared" M1 Cq)(Ji:FA K "may_be_numbers" Mz BV)(Je:FA K "other_numbers" Mw BR)(JK:FA K "is_table" MY Cn)(I0:FA K "require_table" Mt BO)(JY:FA K "d_of" Nb CA)(JX:FA K "e_of" Na Cz)(Jl:FA K "leaning_of" MC BY)(IL:FA K "times_of" Mg BC)(IJ:FA K "whole_worths" Me BB)(DW:FA K "bar_of_room" Nj kY)(DY:FA K "bar_of_counting" Nl k6)(DU:FA K "bar_of_sums" Nh kW)(JO:FA K "is_product_above" M3 Cr)(DX:FA K "bar_of_products" Nk kZ)(DT:FA K "bar_of_threes" Ng kU)(JL:FA K "is_sum_of_two_squares" MZ Co)(DV:FA K "bar_of_squares" Ni kX)(J1:FA K "barred" Nf CD)(II:FA K "worths" Mc BA)(IM:FA K "times_letter" Mh BD)(Jh:FA K "multiplied" My BU)(IS:FA K "squares_in" Ml BG)(JV:FA K "field_web" zS uU)(JR:FA K "holds_each_once" M6 Cu)(J0:FA K "column_of" Nd CC)(JM:FA K "is_square" M0 Cp)(IU:FA K "sign_in" Mm BH)(Jk:FA K "lie_across" MB BX)(J2:FA K "are_each_two_across" Nm CF)(JP:FA K "is_net" M4 Cs)(Ja:FA K "require_net" Mu BP)(Jj:FA K "lines_through" MA BW)(Jg:FA K "net_web" zR uT)(Jc:FA K "pairs_web" zP uR)(JG:FA K "_law_cell_at" MU Cj)(Jx:FA K "_law_pot" ML B9)(Jm:FA K "_law_take" MD BZ)(Jw:FA K "_law_prime" MK B8)(JE:FA K "_law_degree" MS Cg)(Jt:FA K "_law_row" MH B5)(Jz:FA K "_law_number" MN Cb)(Jo:FA K "_law_sums_product" Ft p8)(JB:FA K "_law_heads" MP Cd)(JC:FA K "_law_form" MQ Ce)(Jv:FA K "_law_product" MJ B7)(Jp:FA K "_law_sum" ME B0)(Ju:FA K "_law_products_of" MI B6)(Jy:FA K "_law_order" MM Ca)(JF:FA K "_law_cycled" MT Ci)(Js:FA K "_law_six" MG B4)(Jq:FA K "_law_square" MF B3)(JD:FA K "_law_field_squares" MR Cf)(Jr:FA K "_law_some_net" Fv yi)(JA:FA K "_law_made" MO Cc)(JH:FA K "law" MV yj)(Ew:μ K ι "abs"=O Z)(Eu:μ K ι "all"=O Z)(Et:μ K ι "any"=O Z)(Es:μ K ι "bool"=O Z)(Er:μ K ι "enumerate"=O Z)(Ep:μ K ι "int"=O Z)(Eo:μ K ι "isinstance"=O Z)(Em:μ K ι "len"=O Z)(El:μ K ι "list"=O Z)(Ek:μ K ι "max"=O Z)(Ej:μ K ι "range"=O Z)(Ei:μ K ι "reversed"=O Z)(Eh:μ K ι "set"=O Z)(Eg:μ K ι "sorted"=O Z)(Ef:μ K ι "sum"=O Z)(Ed:μ K ι "tuple"=O Z)(Ec:μ K ι "zip"=O Z)(EA:μ K ι "MOST_COUNTED"=O (O (.int 100 vM)))(EB:μ K ι "LEAST_PLACES"=O (O (.int 3 vN)))(ED:μ K ι "LEAST_IN_NET"=O (O (.int 2 vP)))(EC:μ K ι "LEAST_PAIRED"=O (O (.int 3 vO)))(Ey:μ K ι "MOST_SIGNS"=O (O (.int 7 vK)))(Ez:μ K ι "MOST_PAIRED"=O (O (.int 10 vL)))(EE:μ K ι "BARS"=O (O (.ref sG)))(ER:K.lookup sG=O ⟨.type "tuple",abT,.seq #[.ref kY,.ref k6,.ref kW,.ref kZ,.ref kU,.ref kX] Pu,anf⟩)(zo:μ K ι "FIELDS"=O (O (.ref qo)))(EO:rW K qo lF=G)(qF:PySem.W.tabIn K "field_web"=O (oJ,oE))(sW:PySem.W.codeHdIn K oJ oE=G)(qE:PySem.W.tabIn K "net_web"=O (oH,oB))(sV:PySem.W.codeHdIn K oH oB=G)(qD:PySem.W.tabIn K "other_web"=O (oG,oA))(sU:PySem.W.codeHdIn K oG oA=G)(qC:PySem.W.tabIn K "pairs_web"=O (oF,oz))(sS:PySem.W.codeHdIn K oF oz=G)(mV:vQ K=G): ∃fd:UH,(∀(s:Ψ) (v:Δ),W6 s fd ⟨[v],[]⟩ [("script",v)])/\∀base:τ,K.In base->base.Ns ι mg->fS l.prog w K mg base e9 11 fa fd ["script"] (fZ K 1 xB):=by
 let T:Tx K mg:={
  Cm:=bN X Θ JJ,
  Ck:=bN X Θ JI,
  BL:=bN X Θ IY,
  CG:=bN X Θ J3,
  Ct:=bN X Θ JQ,
  BQ:=bN X Θ Jb,
  BN:=bN X Θ IZ,
  BK:=bN X Θ IX,
  BS:=bN X Θ Jf,
  BF:=bN X Θ IQ,
  BJ:=bN X Θ IW,
  p7:=bN X Θ IK,
  BE:=bN X Θ IP,
  uS:=bN X Θ Jd,
  CB:=bN X Θ JZ,
  Cv:=bN X Θ JT,
  BI:=bN X Θ IV,
  Cw:=bN X Θ JU,
  Cy:=bN X Θ JW,
  Cq:=bN X Θ JN,
  BV:=bN X Θ Ji,
  BR:=bN X Θ Je,
  Cn:=bN X Θ JK,
  BO:=bN X Θ I0,
  CA:=bN X Θ JY,
  Cz:=bN X Θ JX,
  BY:=bN X Θ Jl,
  BC:=bN X Θ IL,
  BB:=bN X Θ IJ,
  kY:=bN X Θ DW,
  k6:=bN X Θ DY,
  kW:=bN X Θ DU,
  Cr:=bN X Θ JO,
  kZ:=bN X Θ DX,
  kU:=bN X Θ DT,
  Co:=bN X Θ JL,
  kX:=bN X Θ DV,
  CD:=bN X Θ J1,
  BA:=bN X Θ II,
  BD:=bN X Θ IM,
  BU:=bN X Θ Jh,
  BG:=bN X Θ IS,
  uU:=bN X Θ JV,
  Cu:=bN X Θ JR,
  CC:=bN X Θ J0,
  Cp:=bN X Θ JM,
  BH:=bN X Θ IU,
  BX:=bN X Θ Jk,
  CF:=bN X Θ J2,
  Cs:=bN X Θ JP,
  BP:=bN X Θ Ja,
  BW:=bN X Θ Jj,
  uT:=bN X Θ Jg,
  uR:=bN X Θ Jc,
  Cj:=bN X Θ JG,
  B9:=bN X Θ Jx,
  BZ:=bN X Θ Jm,
  B8:=bN X Θ Jw,
  Cg:=bN X Θ JE,
  B5:=bN X Θ Jt,
  Cb:=bN X Θ Jz,
  p8:=bN X Θ Jo,
  Cd:=bN X Θ JB,
  Ce:=bN X Θ JC,
  B7:=bN X Θ Jv,
  B0:=bN X Θ Jp,
  B6:=bN X Θ Ju,
  Ca:=bN X Θ Jy,
  Ci:=bN X Θ JF,
  B4:=bN X Θ Js,
  B3:=bN X Θ Jq,
  Cf:=bN X Θ JD,
  yi:=bN X Θ Jr,
  Cc:=bN X Θ JA,
  yj:=bN X Θ JH,
  Pp:=UX X Θ Ew,
  ua:=UX X Θ Eu,
  Gs:=UX X Θ Et,
  Po:=UX X Θ Es,
  AL:=UX X Θ Er,
  Pn:=UX X Θ Ep,
  pB:=UX X Θ Eo,
  cY:=UX X Θ Em,
  AK:=UX X Θ El,
  Pk:=UX X Θ Ek,
  cT:=UX X Θ Ej,
  Gr:=UX X Θ Ei,
  qX:=UX X Θ Eh,
  Gq:=UX X Θ Eg,
  Pj:=UX X Θ Ef,
  iV:=UX X Θ Ed,
  wV:=UX X Θ Ec,
  vM:=vM,Hy:=VO X Θ EA,
  vN:=vN,Rx:=VO X Θ EB,
  vP:=vP,Rz:=VO X Θ ED,
  vO:=vO,Ry:=VO X Θ EC,
  vK:=vK,Hx:=VO X Θ Ey,
  vL:=vL,Rw:=VO X Θ Ez,
  sG:=sG,RA:=VO X Θ EE,
  NH:=.inr ⟨_,#[.ref kY,.ref k6,.ref kW,.ref kZ,.ref kU,.ref kX],Pu,ER,rfl,rfl,by simp,by simp only[List.map];exact .cons rfl (.cons rfl (.cons rfl (.cons rfl (.cons rfl (.cons rfl (.nil))))))⟩,
  RY:=afs DW.1 DY.1 DU.1 DX.1 DT.1 DV.1,
  qo:=qo,uL:=VO X Θ zo,Gw:=zo,sX:=EO,
  oJ:=oJ,oE:=oE,qF:=qF,sW:=sW,
  oH:=oH,oB:=oB,qE:=qE,sV:=sV,
  oG:=oG,oA:=oA,qD:=qD,sU:=sU,
  oF:=oF,oz:=oz,qC:=qC,sS:=sS,
  mV:=mV}
 exact ac6 T.yj Hg λbase=>abj T
theorem walk{l:ZM}{loose:List Str}{XP:(Str->Option Δ)->τ->Prop}{YP:υ->τ->Prop}{d:DefRec}{K:Params->Γ}(hn:l.most=O 63)(hdf:d.params.defaults=[])(hY:∀(w:υ) (h:τ),YP w h->(K w.params).In h/\∀q∈ts,h.get? q.2=O (PySem.W.tabObj #[]))(hK:∀p,(ts.all λq=>PySem.W.codeHdIn (K p) q.1 q.2)=G/\PySem.W.noTabs (K p)=G/\EY (K p) ts=G)(F:∀(w:υ) (mg:Str->Option Δ) (fa:Ξ) (h:τ),(K w.params).In h->h.Ns ι mg->mg d.name=O (.ref fa) ->
   ∃fd:UH,(∀(s:Ψ) (u:Δ),W6 s fd ⟨[u],[]⟩ [("script",u)])/\∀base:τ,(K w.params).In base->base.Ns ι mg->fS l.prog w (K w.params) mg base e9 11 fa fd ["script"] (fZ (K w.params) 1 xB)):
  PySem.W.WalkO q loose XP YP l.row.toRowW d [] (λf vs=>PySem.call f vs) :=
 L2.ak0 (n:=63) (k:=11) (x:="script") hn ⋯ hdf ⟨rfl,⋯,⋯⟩ hY hK F ac7
end Ev
namespace PySem.W.Fast
def tw14967314693261318795:=0
def tw325622295750867938:=0
def tw7947655652633024474:=0
def tw13281976677067317286:=0
def tw6871048428046971837:=0
def tw13531826219129310151:=0
def tw12762187388310966049:=0
def tw14295643460406063207:=0
def tw1996234904862890866:=0
def tw7679041045519835928:=0
def tw1131747849610889107:=0
def tw11446319313884530777:=0
def tw13442932960755128221:=0
def tw4127201568225815843:=0
def tw18327010418616339717:=0
def tw3945987411533329098:=0
def tw9458969154646041313:=0
def tw13142982894864385139:=0
def tw14504358348915392253:=0
def tw16812097652293815891:=0
def tw3502342217547854696:=0
def tw5548625494336584762:=0
def tw5672654934904694038:=0
def tw1678389254430869586:=0
def tw18168380403022489656:=0
def tw15599962018045180028:=0
def tw3581800619793337611:=0
def tw12773625028837342957:=0
def tw15086921589026392791:=0
def tw1681195926112027199:=0
def tw6980399579372066712:=0
def tw13805013644421443946:=0
def tw10902150395380771162:=0
def tw8282274232004982887:=0
def tw14023012398449699280:=0
def tw14754956914626999821:=0
def tw6633966796200003289:=0
def tw3947624355894660863:=0
def tw6757999367844363121:=0
def tw13022680256631476956:=0
def tw11545188505051081204:=0
def tw2522066805033456875:=0
def tw1080460348457955822:=0
def tw7865513305527504609:=0
def tw2120645561591017133:=0
def tw118078508660341697:=0
def tw8933231152788448127:=0
def tw17822433508803283360:=0
def tw18366362296673747110:=0
def tw10919571247174112129:=0
def tw9995701173718819211:=0
def tw16945224658912468095:=0
def tw10412691341301207370:=0
def tw3720735729359422856:=0
def tw3726015688830268776:=0
def tw7604449933285632771:=0
def tw430112061223333551:=0
def tw6945670378270252741:=0
def tw12030490124294629228:=0
def tw15812772209330037751:=0
def tw11778858823562365778:=0
def tw16857422561609251157:=0
def tw11370426650110183502:=0
def tw10774498958830950310:=0
def tw17712329792298405366:=0
def tw1143050995557085721:=0
def tw16722531440270013534:=0
def tw5743611128708948107:=0
def tw7453720268354577844:=0
def tw17336634236204314807:=0
def tw242242955909123365:=0
def tw2093156666173803354:=0
def tw8326275305617542137:=0
def tw3864643367166127093:=0
def tw3400330032589516518:=0
def tw8316216939642484398:=0
def tw13688846644668953169:=0
def tw6479891798356305783:=0
def tw3413900799281441982:=0
def tw18317407872672930531:=0
def tw12396117259054602745:=0
def tw6478272061755253799:=0
def tw12282522922387400951:=0
def tw1111040447896336490:=0
def tw6135702585808495871:=0
def tw16725176803582354371:=0
def tw5455209249032020288:=0
def tw1480578108984848735:=0
def tw4300397447384212446:=0
def tw6660899628088570646:=0
def tw12486086022807966250:=0
def tw8910470633602513947:=0
def tw1776463471095241903:=0
def tw6678600988576724528:=0
def tw8063476398774870314:=0
def tw16204397946547089271:=0
def tw5684226318544134691:=0
def tw903606904873516645:=0
def tw4747730076701939255:=0
def tw405239589778949130:=0
def tw16977161522674373584:=0
def tw3810476239084479530:=0
def tw3773679022584892751:=0
def tw4673438902829632655:=0
def tw17807138615784769362:=0
def tw3089608558115853098:=0
def tw11695016596163177618:=0
def tw13607365786803468305:=0
def tw4212624613976360309:=0
def tw12871167755936341778:=0
def tw14913438621964630156:=0
def tw6734564915541737041:=0
def tw14454347647333045524:=0
def tw7153333747945948481:=0
def tw1466206727873624788:=0
def tw2205915548435419793:=0
def tw10049753625041019846:=0
def tw14288260639757139127:=0
def tw14958908340475206376:=0
def tw13564274395625461590:=0
def tw7490486343039571351:=0
def tw784051240573492491:=0
def tw4017153378475096383:=0
def tw799267111163108950:=0
def tw8328324748370651153:=0
def tw2833007717242967938:=0
def tw15546980049496489322:=0
def tw16096540216262173325:=0
def tw7171615038142145894:=0
def tw6787637553108904753:=0
def tw10211470797077505520:=0
def tw13080729840241226529:=0
def tw7314780902968340516:=0
def tw10107573774185481328:=0
def tw9051139841565368432:=0
def tw1000338042866969043:=0
def tw18265781858508054400:=0
def tw7992316332743247305:=0
def tw2921445396576502214:=0
def tw3850096059129702057:=0
def tw14514924839331058323:=0
def tw5545781696816620274:=0
def tw2986413700291894626:=0
def tw4701792476384211211:=0
def tw5010174944734248864:=0
def tw6059422135537051215:=0
def tw14822301304464828167:=0
end PySem.W.Fast
open PySem PySem.W PyProof.Rows
set_option maxRecDepth 100000 in
set_option maxHeartbeats 0 in
theorem PySem.Challenge.cw_evenwebs_k27_whole_webs_are_not_barred_holds : PySem.Challenge.rw_evenwebs_k27_whole_webs_are_not_barred.Holds := by
  w_on; o_law; k_head; (case hw => w_witness2)
  k_fill
  refine Ev.walk (l := PySem.Challenge.rw_evenwebs_k27_whole_webs_are_not_barred) (ts := [(378, 374), (437, 435), (117, 113), (442, 440)]) rfl rfl (fun w h Y => ⟨PySem.W.km_in_of Y, Xi.mpr ⟨Xh Y _ (by first | k_mem | decide), Xi.mpr ⟨Xh Y _ (by first | k_mem | decide), Xi.mpr ⟨Xh Y _ (by first | k_mem | decide), Xi.mpr ⟨Xh Y _ (by first | k_mem | decide), fun _ h => nomatch h⟩⟩⟩⟩⟩) (fun p => ⟨by kernel_rfl, by kernel_rfl, by kernel_rfl⟩) ?F
  case F =>
    intro w mg fa h KX Θ hmg
    refine' Ev.all_mk (oJ := 378) (oE := 374) (oH := 437) (oB := 435) (oG := 117) (oA := 113) (oF := 442) (oz := 440) KX Θ hmg ?JJ ?JI ?IY ?J3 ?JQ ?Jb ?IZ ?IX ?Jf ?IQ ?IW ?IK ?IP ?Jd ?JZ ?JT ?IV ?JU ?JW ?JN ?Ji ?Je ?JK ?I0 ?JY ?JX ?Jl ?IL ?IJ ?DW ?DY ?DU ?JO ?DX ?DT ?JL ?DV ?J1 ?II ?IM ?Jh ?IS ?JV ?JR ?J0 ?JM ?IU ?Jk ?J2 ?JP ?Ja ?Jj ?Jg ?Jc ?JG ?Jx ?Jm ?Jw ?JE ?Jt ?Jz ?Jo ?JB ?JC ?Jv ?Jp ?Ju ?Jy ?JF ?Js ?Jq ?JD ?Jr ?JA ?JH ?Ew ?Eu ?Et ?Es ?Er ?Ep ?Eo ?Em ?El ?Ek ?Ej ?Ei ?Eh ?Eg ?Ef ?Ed ?Ec ?EA ?EB ?ED ?EC ?Ey ?Ez ?EE ?ER ?zo ?EO ?qF ?sW ?qE ?sV ?qD ?sU ?qC ?sS ?mV
    case JJ | JI | IY | J3 | JQ | Jb | IZ | IX | Jf | IQ | IW | IK | IP | Jd | JZ | JT | IV | JU | JW | JN | Ji | Je | JK | I0 | JY | JX | Jl | IL | IJ | DW | DY | DU | JO | DX | DT | JL | DV | J1 | II | IM | Jh | IS | JV | JR | J0 | JM | IU | Jk | J2 | JP | Ja | Jj | Jg | Jc | JG | Jx | Jm | Jw | JE | Jt | Jz | Jo | JB | JC | Jv | Jp | Ju | Jy | JF | Js | Jq | JD | Jr | JA | JH =>
      apply L2.FA.mk
      k_is; k_is; k_is; k_is
    case Ew|Eu|Et|Es|Er|Ep|Eo|Em|El|Ek|Ej|Ei|Eh|Eg|Ef|Ed|Ec|EA|EB|ED|EC|Ey|Ez|EE|ER|zo=>k_is
    (case EO => kernel_rfl)
    (case qF => kernel_rfl)
    (case sW => kernel_rfl)
    (case qE => kernel_rfl)
    (case sV => kernel_rfl)
    (case qD => kernel_rfl)
    (case sU => kernel_rfl)
    (case qC => kernel_rfl)
    (case sS => kernel_rfl)
    (case mV => kernel_rfl)
