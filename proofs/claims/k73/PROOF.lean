import PyProof.Rows.All
import Wide.All
import OpenK.AllK
import Wide.FinOn
import Lean
import PyProof.EqAt
import PyProof.EqKinds
import PyProof.TupleCall
import PySem.Challenge.RW_evenwebs_k73_turned_to_even_ones
import PyProof.P3In
import PyProof.EqLayable
import PyProof.SumAny
import PyProof.NoPylong
import PyProof.FitsBits
import PyProof.Rows.Range3
import PyProof.ExcArgsOwn
import PyProof.ExcBaseAll.ValueError
import PyProof.Rows.SeqMore
import PyProof.DictRoads
import PyProof.DictKinds
import PyProof.Rows.FactsT2
import KE.KRevIter
import PyProof.SetScanFacts
import PyProof.SetKind
import PyProof.Rows.SetFrom
import PyProof.Walks
import PyProof.DictValues
import PyProof.FactsAll.set_1
import KE.KDictSum
import PyProof.SetRoads
import PyProof.MeetsSeq2
import PyProof.WalksMore
import PyProof.AutoSeq1
import KE.KLam
import KE.KMinKey
import PyProof.Rows.CallKwBuiltin
import KE.KSortTup
import PyProof.FactsAll.tuple_2
set_option Elab.async false
set_option linter.all false
set_option maxHeartbeats 4000000
set_option maxRecDepth 100000
set_option bootstrap.genMatcherCode false
set_option genSizeOfSpec false
set_option genSizeOf false
open PySem renaming wpAny_bind→anS,wpAny_pure→anT,wpAny_mono→aoe,boot_len→aoh,wpAny_field→aoN,sizeLine_eq→aoT,codeAny_mono→aoU,mem_of_lookup→aoV,wpAny_holding→ao1,call_meets→apa,wpAny_call_entry→apd,wpAny_seqItems→ape,wpAny_rule→apg,wpAny_truthy_bool→apm,wpAny_pyIter_tuple→apn,wpAny_call→apo,wpAny_Call_Name_kw→apq,wpAny_newObj_type→apA,wpAny_setField_rec→apD,codeAny_builtin→apH,wpAny_passesOwn→apO,typeIs_int→apQ,wpAny_isInstance→apS,wpAny_askSetting→apW,wpAny_execs_nil→ap1,wpAny_pyIter_list→ap2,wpAny_callSpecial?_slot→ap6,wpAny_onRaise→ap8,wpAny_letGo→ap9,wpAny_attempt→aqa,codeAny_call_builtin→aqi,sub_set_self→aqn,wpAny_standAt→aqC,concat_meets→aqJ,noFill_tuple_add→aqK,seq_tuple_add→aqL,pushCells_keeps→aqT,wpAny_updateSeq_pair→aqV,wpAny_pyIter_zip→aqW,wpAny_loadPart_at→aq0,wpAny_setState_of→aq5,codeAny_of_tree→arb,codeAny_call_function→ary,wpAny_newFunctionEnv_cells→arA,list_append→arD,wpAny_binaryOp_repeat_ref→arE,wpAny_comprehension_free→arG,weight_type_call_type→ar8
open Nat renaming le_refl→anU,ne_of_lt→an0,lt_of_lt_of_le→an5,zero_add→aog,le_trans→aom,lt_irrefl→aot,zero_le→aoz,ne_of_gt→aoK,le_of_eq→aoY,sub_self→ao2,lt_succ_self→apb,lt_succ_of_lt→apc,mul_le_mul→apk,le_of_lt→apl,succ_mul→apr,le_succ→aps,add_zero→apE,testBit_two_pow_sub_one→apU,le_add_right→aqc,add_left_cancel→aqd,lt_or_ge→aqk,mod_eq_of_lt→aqv,lt_trans→aq1,lt_of_le_of_lt→ara,mod_lt→arc,le_of_not_lt→arF,le_succ_of_le→arO,not_lt_zero→arX,eq_zero_or_pos→ase,mod_eq_sub_mod→asv,min_eq_left→asz
open PySem.Heap renaming lt_size→anV,get?_push_of_some→anY,get?_push_size→aoc,size_push→aoy,get?_update_other→ap4,get?_update_self→aqP,size_update→arh
open List renaming mem_cons→anW,getElem?_eq_getElem→anZ,length_map→an2,size_toArray→an3,length_cons→an4,getElem?_eq_some_iff→an7,map_cons→an8,nil_append→an9,mem_map→aoa,not_mem_nil→aob,mem_range→aod,getD_eq_getElem?_getD→aof,length_nil→aok,length_append→aon,all_eq_true→aoo,append_assoc→aop,mem_of_getElem?→aoq,mem_of_mem_take→aor,map_map→aos,mem_append→aou,getElem?_append_right→aov,getElem?_append_left→aow,lookup_cons→aox,mem_cons_of_mem→aoA,mem_append_right→aoB,getElem_mem→aoE,getElem?_map→aoH,map_congr_left→aoI,getElem?_set_self→aoJ,append_nil→aoM,mem_singleton→aoO,mem_filter→aoQ,mem_cons_self→aoR,replicate_succ→aoW,map_append→aoZ,getElem?_set_ne→ao0,flatten_cons→ao3,mem_iff_getElem→ao4,length_range→ao5,take_length→ao6,nodup_cons→ao9,getElem?_eq_none→apt,length_range'→apv,getElem_inj→apw,of_mem_zip→apy,length_take→apz,getElem?_take→apF,pairwise_cons→apJ,filterMap_cons→apM,mem_filterMap→apN,foldl_cons→apR,any_eq_true→apT,range_succ→apV,cons_append→apX,take_left→apY,length_filter_le→apZ,mem_range'_1→ap0,nodup_append→aqe,getElem_range→aqf,drop_eq_getElem_cons→aqg,getElem_take→aqh,ext_getElem→aql,take_append_drop→aqm,take_of_length_le→aqp,range_succ_eq_map→aqt,mem_range'→aqu,find?_cons_of_neg→aqw,find?_cons_of_pos→aqx,range_eq_range'→aqy,filter_congr→aqz,mem_append_left→aqB,getElem?_replicate→aqG,getElem?_take_of_lt→aqH,take_sublist→aqI,length_singleton→aqQ,map_nil→aqR,forIn_cons→aqS,zipIdx_cons→aqU,set_cons_succ→aqX,drop_eq_nil_of_le→aqY,getElem_of_mem→aq2,take_succ_eq_append_getElem→aq7,map_id→ard,zip_cons_cons→arf,set_append_right→ari,getElem_map→arj,flatMap_def→ark,range'_succ→arl,flatMap_append→arn,flatMap_cons→aro,forall_mem_cons→arp,any_eq_false→arv,length_replicate→arx,length_set→arB,getElem?_zip_eq_some→arH,zipIdx_nil→arK,getElem?_zipWith→arL,length_zipWith→arM,getElem?_mapIdx→arN,countP_cons→arT,findIdx?_eq_some_iff_getElem→arU,length_eq_zero_iff→arV,mem_of_mem_drop→arY,mem_erase_of_ne→arZ,length_erase_of_mem→ar0,length_pos_of_mem→ar1,perm_append_singleton→ar2,pairwise_lt_range→ar3,map_filterMap→ar4,foldl_append→ar5,perm_middle→asb,perm_ext_iff_of_nodup→asd,reverse_cons→asj,mem_map_of_mem→asl,length_eq_one_iff→aso,getElem_set→asp,idxOf_lt_length_iff→asq,nodup_range→asr,filter_map→ass,range'_eq_map_range→asu,ext_getElem?→asw,filter_cons_of_pos→asx,filter_cons_of_neg→asy,mem_mapIdx→asA,findIdx?_cons→asB,filter_append→asC
open PySem.W renaming mg_of→an1,mg_none_of→aoC,kia_one→aoG,kasC_pure→aoL,kasC_cons→aoP,kasC_bind→aph,kasC_range→api,kasC_get→apu,cellsFrom_some→apP,of_hideAll→aqA,kitx_dict→aqD,callWith_K→aqE,km_tabs_of→arq,hideAll_get→ars,kitx_list→arw,codeRec_of→arz,codeHd_of_K→ash
open Option.some renaming inj→an6
open Bool renaming false_ne_true→aoi,and_eq_true→aoj,false_eq_true→aoX,eq_iff_iff→ao8,or_eq_true→apB,not_true→aqo,not_false→aq6
open PyProof.Rows renaming boot_isinstance→aol,len_tab→ao7,boot_tuple→apj,callWith_type1→apx,boot_min→apK,listUpdate_at→aqq
open Ne renaming symm→aoD
open PySem.F renaming called_set→aoF,plainAttrs_list→apG,slot_int_rmul→ap5,slot_tuple_iterator_next→ap7,slot_zip_next→aqb,slot_tuple_add→aqM,entry_tuple_add→aqN,args_tuple_add_2→aqO,entry_tuple_iterator_next→arI,args_tuple_iterator_next_1→arJ,slot_list_append→arP,type_list_append→arQ,typeOf_object_class→arS,plain_set_new→ar6,entry_type_call→ar7,typeCall_set_1→ar9,entry_set_init→asa,slot_set_and→asf
open Array renaming length_toList→aoS,getElem?_toList→aqj,toList_push→aq4,append_assoc→art,getD_eq_getD_getElem?→arW,toList_append→asi,getElem?_map→asn
open PySem.Heap.SameBut renaming update→apf
open Int renaming toNat_natCast→apC,zero_add→apI,emod_nonneg→aqr,emod_lt_of_pos→aqs,toNat_of_nonneg→asm
open PySem.Value renaming isInt_shape→apL
open Option renaming isSome_iff_exists→ap3,bind_some→asD
open PySem.Around renaming frames_deeper→aqF,under_plainId→aq8
open PySem.Code renaming quiet_builtin→aqZ
open PySem.SetTable renaming insertAt_perm→aq3
open PyProof.Rows.F renaming plain_set_update_loop→aq9
open PySem.Calls renaming Name_function_global→aru
open PySem.IsL renaming update→arC
open PySem.W.Looks renaming ld→arR
open Option renaming some→ζ,none→η
open Bool renaming true→θ,false→Δ
open PySem.W renaming nsIn→ξ,Frag→Θ,OpenLaw→agv
open PySem renaming mainGlobals→Γ,Value→Ξ,Addr→Ψ,Shared→Ω,sizeLine→ε,starEach→μ,FuncData→ο,Expr→π,Program→τ,Heap→υ,Around→χ,World→ψ,Stmt→aar,backTo→abE,NameKind→abF,Scope→ac4,keywordEach→ada,Keyword→adk,IsPair→aeT,SetTable→afI,attributeBase→af3,backToKw→af9,Arguments→agc,cLine→agh,IsZip→agi,PyData→agk,IsTupleKey→agu,BindsTo→agy,GenState→agB,Draws→agC,TriplesOk→agK,Fin→agL
open List renaming range→ι,replicate→ν,Nodup→ω
open PyProof.Rows renaming SortSt→abR,AllBare→aga,Keyed→agj,IntsAre→agl
open PySem.Heap renaming FlyingW→aeS,SameBut→agd,IsTuple→agF
open PySem.Shared renaming TypeIs→agz
noncomputable section
namespace L2
open PySem PySem.Spec PyProof.Rows
abbrev Key:=Sum Int Str
def N2:Key->Ξ->Bool
 |.inl k,v=>Value.isInt k v
 |.inr x,v=>Value.isStrOf x v
def aeR(w:ψ):Key->Int
 |.inl k=>hashInt k
 |.inr x=>hashStr w x
def lP:∀{k:Key}{v:Ξ},N2 k v=θ->(∃i t,k=Sum.inl i/\v=Value.int i t)\/(∃x t,k=Sum.inr x/\v=Value.str x t)
 |.inl i,v,h=>by
  obtain⟨t,e⟩:=apL (k:=i) (v:=v) h;exact .inl ⟨i,t,rfl,e⟩
 |.inr x,v,h=>by
  obtain⟨t,e⟩:=Value.isStrOf_shape (x:=x) (v:=v) h;exact .inr ⟨x,t,rfl,e⟩
def aeP(a b:Int):decide ((Sum.inl a:Key)=Sum.inl b)=(a==b):=by
 by_cases e:a=b
 ·subst e;simp
 ·have h:¬(Sum.inl a:Key)=Sum.inl b:=λq=>e (Sum.inl.inj q)
  rw[decide_eq_false h];exact(beq_eq_false_iff_ne.mpr e).symm
def aeM(a b:Str):decide ((Sum.inr a:Key)=Sum.inr b)=decide (a=b):=by
 by_cases e:a=b
 ·subst e;simp
 ·have h:¬(Sum.inr a:Key)=Sum.inr b:=λq=>e (Sum.inr.inj q)
  rw[decide_eq_false h,decide_eq_false e]
def aeO(a:Int)(b:Str):decide ((Sum.inl a:Key)=Sum.inr b)=Δ:=decide_eq_false (λq=>nomatch q)
def aeN(a:Str)(b:Int):decide ((Sum.inr a:Key)=Sum.inl b)=Δ:=decide_eq_false (λq=>nomatch q)
def DL(prog:τ)(w:ψ):PySem.KeyKind prog w Key where
 is:=N2
 hash:=aeR w
 inj:=λv a b ha hb=>by
  rcases lP ha with⟨i,t,rfl,rfl⟩|⟨x,t,rfl,rfl⟩
  ·rcases lP hb with⟨j,u,rfl,e⟩|⟨y,u,rfl,e⟩
   ·injection e with e1 _;rw[e1]
   ·exact nomatch e
  ·rcases lP hb with⟨j,u,rfl,e⟩|⟨y,u,rfl,e⟩
   ·exact nomatch e
   ·injection e with e1 _;rw[e1]
 byValue:=λk v h=>by
  rcases lP h with⟨i,t,rfl,rfl⟩|⟨x,t,rfl,rfl⟩<;>rfl
 pyHash:=λhv h=>by
  rcases lP hv with⟨i,t,rfl,rfl⟩|⟨x,t,rfl,rfl⟩
  ·exact wpAny_pyHash_int h
  ·exact wpAny_pyHash_str h
 eqBool:=λhu hv h=>by
  rcases lP hu with⟨i,t,rfl,rfl⟩|⟨x,t,rfl,rfl⟩
  ·rcases lP hv with⟨j,u,rfl,rfl⟩|⟨y,u,rfl,rfl⟩
   ·rw[aeP]at h;exact wpAny_eqBool_int h
   ·rw[aeO]at h;exact SeqAt.EqAt.int_str i t y u _ _ _ _ h
  ·rcases lP hv with⟨j,u,rfl,rfl⟩|⟨y,u,rfl,rfl⟩
   ·rw[aeN]at h;exact SeqAt.EqAt.str_int x t j u _ _ _ _ h
   ·rw[aeM]at h;exact wpAny_eqBool_str h
 «strs»:=λk x t v h=>by
  rcases lP h with⟨i,u,rfl,e⟩|⟨y,u,rfl,e⟩
  ·exact nomatch e
  ·injection e with e1 _
   subst e1;cases v<;>rfl
inductive V where
 |aF|bl (b:Bool)|int (i:Int)|str (x:Str)|jg (b:Array UInt8)|uI (b:UInt64)|ref (a:Ψ)|ty (n:String)
 deriving DecidableEq
def RelV:V->Ξ->Prop
 |.aF,u=>u=Value.none
 |.bl b,u=>u=Value.bool b
 |.int i,u=>∃t,u=Value.int i t
 |.str x,u=>∃t,u=Value.str x t
 |.jg b,u=>∃t,u=Value.bytes b t
 |.uI b,u=>∃t,u=Value.float b t
 |.ref a,u=>u=Value.ref a
 |.ty n,u=>u=Value.type n
abbrev Vals:List V->List Ξ->Prop:=Paired RelV
def Vals.length{xs:List V}{us:List Ξ}(r:Vals xs us):xs.length=us.length:=Paired.length r
def Vals.get:∀{xs:List V}{us:List Ξ}{i:Nat}{x:V},Vals xs us->xs[i]? = ζ x->∃u,us[i]? = ζ u/\RelV x u
 |_,_,_,_,.nil,e=>by simp at e
 |_,_,0,_,.cons r _,e=>by simp at e;subst e;exact⟨_,rfl,r⟩
 |_,_,i+1,x,.cons _ t,e=>by
  obtain⟨u,h1,h2⟩:=Vals.get (i:=i) (x:=x) t (by simpa using e)
  exact⟨u,by simpa using h1,h2⟩
def Vals.set{x:V}{u:Ξ}(r:RelV x u):∀{xs:List V}{us:List Ξ}(i:Nat),Vals xs us->Vals (xs.set i x) (us.set i u)
 |_,_,_,.nil=>.nil
 |_,_,0,.cons _ t=>.cons r t
 |_,_,i+1,.cons q t=>.cons q (Vals.set r i t)
def Vals.append:∀{xs ys:List V}{us ws:List Ξ},Vals xs us->Vals ys ws->Vals (xs++ys) (us++ws)
 |_,_,_,_,.nil,s=>s
 |_,_,_,_,.cons r t,s=>.cons r (Vals.append t s)
def Vals.take:∀{xs:List V}{us:List Ξ}(n:Nat),Vals xs us->Vals (xs.take n) (us.take n)
 |_,_,0,_=>.nil
 |_,_,_+1,.nil=>.nil
 |_,_,n+1,.cons r t=>.cons r (Vals.take n t)
def Vals.drop:∀{xs:List V}{us:List Ξ}(n:Nat),Vals xs us->Vals (xs.drop n) (us.drop n)
 |_,_,0,r=>r
 |_,_,_+1,.nil=>.nil
 |_,_,n+1,.cons _ t=>Vals.drop n t
def Jt:Option V->Option Ξ->Prop
 |some v,ζ u=>RelV v u
 |none,η=>True
 |_,_=>False
def KV{κ:Type}:List (κ×V)->List (κ×Ξ)->Prop:=Paired fun(p:κ×V) (q:κ×Ξ)=>p.1=q.1/\RelV p.2 q.2
def kV:Key->V
 |.inl i=>.int i
 |.inr x=>.str x
inductive HO where
 |lst (xs:List V)
 |tup (xs:List V)
 |dK (kvs:List (Key×V))|dT (kvs:List (List Key×V))
 |set (S:Int->Bool) (n:Nat)
 |ins (C dx:Ψ) (fs:List (Str×V))
 |own (x:Ψ)
 |xd (fs:List (Str×V))
 |met (f x:Ψ)
 |zl (lo hi:Int)
 |cT (o:Obj) (u:HO)
 |cS (ps:Array Ξ)
 |ext (φ:υ->Prop)
abbrev Hp:=Ψ->Option HO
def upd(H:Hp)(a:Ψ)(o:HO):Hp:=λb=>if b=a then ζ o else H b
def fM{H:Hp}{a:Ψ}{o:HO}:upd H a o a=ζ o:=by unfold upd;rw[if_pos rfl]
def bD{H:Hp}{a b:Ψ}{o:HO}(h:b≠a):upd H a o b=H b:=by unfold upd;rw[if_neg h]
def MX{H:Hp}{a b:Ψ}{o u:HO}(h:H a=ζ o)(h':H b=ζ u)(d:o≠u):a≠b:=by
 intro e;subst e;rw[h]at h';exact d (an6 h')
def dF{H:Hp}{a b:Ψ}{o:HO}(h:H a=ζ o)(h':H b=η):a≠b:=by
 intro e;subst e;rw[h]at h';cases h'
def j5(h:υ)(a:Ψ)(items:Array Ξ):Prop:=∃o,h.get? a=ζ o/\o.cls=.type "tuple"/\(∃n,o.data=.seq items n)/\o.dict=η
def j5.tup{h:υ}{a:Ψ}{items:Array Ξ}:j5 h a items->IsTup h a items:=fun⟨o,e,c,d,_⟩=>⟨o,e,c,d⟩
def j5.new(h:υ)(items:Array Ξ):j5 (h.push {cls:=.type "tuple",data:=.seq items}) h.objs.size items:=⟨_,aoc _ rfl,rfl,⟨_,rfl⟩,rfl⟩
section
variable (P:τ) (w:ψ)
def fc(H:Hp)(h:υ)(a:Ψ):HO->Prop
 |.lst xs=>xs.length<=ε/\∃(its:List Ξ) (n:Nat),Vals xs its/\h.get? a=ζ {cls:=.type "list",data:=.seq its.toArray n}
 |.tup xs=>xs.length<=ε/\∃its:List Ξ,Vals xs its/\j5 h a its.toArray
 |.dK kvs=>kvs.length<=ε/\(a==sysModules)=Δ/\∃vs,KV kvs vs/\h.DictOf (DL P w) a vs
 |.dT kvs=>kvs.length<=ε/\(a==sysModules)=Δ/\∃xs:List (List Key×Ψ×Ξ),
   Paired (fun(p:List Key×V) (q:List Key×Ψ×Ξ)=>p.1=q.1/\H q.2.1=ζ (.tup (p.1.map kV))/\RelV p.2 q.2.2) kvs xs /\
   ∃o es ep,h.get? a=ζ o/\o.ExactDict/\o.data=.dict es ep/\es.toList=xs.map (entryOfKey (tupleKind (DL P w)))/\(xs.map (·.1)).Nodup
 |.set S n=>h.SetOf (intKind P w) a S n
 |.ins C dx fs=>H dx=ζ (.own a)/\fs.length<=1000/\dx≠a/\h.get? a=ζ (PySem.W.instObj C dx) /\
   ∃mA,h.Ns1 dx mA/\(∀f,Jt (fs.lookup f) (mA f))/\PySem.Within mA (fs.map (·.1))
 |.own _=>∃o,h.get? a=ζ o
 |.xd fs=>∃mA,h.Ns1 a mA/\∀f,Jt (fs.lookup f) (mA f)
 |.zl lo hi=>∃t u v,h.get? a=ζ {cls:=.type "range",data:=.fields #[.int lo t,.int hi u,.int 1 v]}
 |.cT o u=>h.get? a=ζ o/\fc H h a u
 |.cS ps=>h.get? a=ζ {cls:=.none,data:=.fields ps}
 |.met f x=>h.get? a=ζ (PySem.W.methodObj (.ref f) (.ref x))
 |.ext φ=>φ h/\(∃o,h.get? a=ζ o)/\∀h1 h2:υ,φ h1->(∀o,h1.get? a=ζ o->h2.get? a=ζ o)->φ h2
def cQ(H:Hp)(h:υ):Prop:=∀a o,H a=ζ o->fc P w H h a o
end
section
variable {P:τ}{w:ψ}{H H':Hp}{h h':υ}{a:Ψ}{o:HO}
def fc.lt(x:fc P w H h a o):a<h.objs.size:=by
 cases o with
 |lst xs=>obtain⟨_,_,_,_,e⟩:=x;exact anV e
 |tup xs=>obtain⟨_,_,_,p⟩:=x;exact p.tup.lt
 |dK kvs=>obtain⟨_,_,_,_,o,_,_,e,_⟩:=x;exact anV e
 |dT kvs=>obtain⟨_,_,_,_,o,_,_,e,_⟩:=x;exact anV e
 |set S n=>obtain⟨o,_,_,_,e,_⟩:=x;exact anV e
 |ins C dx fs=>obtain⟨_,_,_,e,_⟩:=x;exact anV e
 |own y=>obtain⟨_,e⟩:=x;exact anV e
 |xd fs=>obtain⟨_,⟨_,_,_,e,_⟩,_⟩:=x;exact anV e
 |zl lo hi=>obtain⟨_,_,_,e⟩:=x;exact anV e
 |cT ob u=>obtain⟨e,_⟩:=x;exact anV e
 |cS ps=>exact anV (show h.get? a=ζ _ from x)
 |met f y=>exact anV (show h.get? a=ζ _ from x)
 |ext φ=>obtain⟨_,⟨_,e⟩,_⟩:=x;exact anV e
def Paired.NF{α β:Type}{F G:α->β->Prop}:∀{l₁:List α}{l₂:List β},Paired F l₁ l₂->(∀a b,F a b->G a b)->Paired G l₁ l₂
 |_,_,.nil,_=>.nil
 |_,_,.cons r t,f=>.cons (f _ _ r) (Paired.NF t f)
def fc.stay(x:fc P w H h a o)(k:∀b u,(b=a\/H b=ζ (.own a))->h.get? b=ζ u->h'.get? b=ζ u)
  (ho:∀b,H b=ζ (.own a)->H' b=ζ (.own a)) (ht:∀b xs,H b=ζ (.tup xs)->H' b=ζ (.tup xs)):fc P w H' h' a o:=by
 induction o with
 |lst xs=>obtain⟨z,its,n,r,e⟩:=x;exact⟨z,its,n,r,k _ _ (.inl rfl) e⟩
 |tup xs=>obtain⟨z,its,r,ob,e,c⟩:=x;exact⟨z,its,r,ob,k _ _ (.inl rfl) e,c⟩
 |dK kvs=>obtain⟨z,y,vs,r,ob,es,ep,e,c⟩:=x;exact⟨z,y,vs,r,ob,es,ep,k _ _ (.inl rfl) e,c⟩
 |dT kvs =>
  obtain⟨z,y,xs,r,ob,es,ep,e,c⟩:=x;exact⟨z,y,xs,Paired.NF r λp q z=>⟨z.1,ht _ _ z.2.1,z.2.2⟩,ob,es,ep,k _ _ (.inl rfl) e,c⟩
 |set S n=>obtain⟨ob,es,ep,t,e,c⟩:=x;exact⟨ob,es,ep,t,k _ _ (.inl rfl) e,c⟩
 |ins C dx fs =>
  obtain⟨d,z,ne,e,mA,⟨od,es,ep,e2,c⟩,r⟩:=x;exact⟨ho _ d,z,ne,k _ _ (.inl rfl) e,mA,⟨od,es,ep,k _ _ (.inr d) e2,c⟩,r⟩
 |own y=>obtain⟨ob,e⟩:=x;exact⟨ob,k _ _ (.inl rfl) e⟩
 |xd fs=>obtain⟨mA,⟨od,es,ep,e,c⟩,r⟩:=x;exact⟨mA,⟨od,es,ep,k _ _ (.inl rfl) e,c⟩,r⟩
 |zl lo hi=>obtain⟨t,u,v,e⟩:=x;exact⟨t,u,v,k _ _ (.inl rfl) e⟩
 |cT ob u ih=>obtain⟨e,q⟩:=x;exact⟨k _ _ (.inl rfl) e,ih q⟩
 |cS ps =>
  have e:h.get? a=ζ {cls:=.none,data:=.fields ps}:=x;show h'.get? a=ζ {cls:=.none,data:=.fields ps};exact k a _ (.inl rfl) e
 |met f y =>
  have e:h.get? a=ζ (PySem.W.methodObj (.ref f) (.ref y)):=x;show h'.get? a=ζ (PySem.W.methodObj (.ref f) (.ref y));exact k a _ (.inl rfl) e
 |ext φ=>obtain⟨p,⟨o,e⟩,st⟩:=x;exact⟨st _ _ p λo q=>k _ _ (.inl rfl) q,⟨o,k _ _ (.inl rfl) e⟩,st⟩
def cQ.lt(x:cQ P w H h)(e:H a=ζ o):a<h.objs.size:=(x a o e).lt
def cQ.fresh(x:cQ P w H h)(e:h.objs.size<=a):H a=η:=by
 cases q:H a with
 |none=>rfl
 |some u=>exact absurd (an5 (x.lt q) e) (aot _)
def cQ.kept(x:cQ P w H h)(k:∀b u,h.get? b=ζ u->h'.get? b=ζ u):cQ P w H h':=λa o e =>
 (x a o e).stay (λb u _ q=>k b u q) (λ_ q=>q) λ_ _ q=>q
def cQ.laid(x:cQ P w H h)(k:∀b u,h.get? b=ζ u->h'.get? b=ζ u)(hp:h.objs.size<=a)(new:fc P w (upd H a o) h' a o):cQ P w (upd H a o) h':=λb u e=>by
 have hn:=x.fresh hp
 by_cases hb:b=a
 ·subst hb;rw[fM]at e;cases e;exact new
 ·rw[bD hb]at e;exact(x b u e).stay (λc v _ q=>k c v q) (λc q=>by rw[bD (dF q hn)];exact q) λc xs q=>by rw[bD (dF q hn)];exact q
end
def Rd(H:Hp)(a:Ψ)(u:HO):Prop:=H a=ζ u\/∃o,H a=ζ (.cT o u)
def Rd.ok{P:τ}{w:ψ}{H:Hp}{h:υ}{a:Ψ}{u:HO}(r:Rd H a u)(x:cQ P w H h):fc P w H h a u:=by
 rcases r with r|⟨o,r⟩
 ·exact x a u r
 ·obtain⟨_,q⟩:=x a _ r;exact q
def BL:Option HO->Prop
 |some (.lst _)=>True
 |some (.dK _)=>True
 |some (.dT _)=>True
 |some (.set _ _)=>True
 |some (.ins _ _ _)=>True
 |some (.ext _)=>True
 |_=>False
section
variable {P:τ}{w:ψ}{H:Hp}{h h':υ}{x e:Ψ}{o':HO}
def cQ.write(ok:cQ P w H h)(mu:BL (H x))(he:e=x\/H e=ζ (.own x))(k:∀b u,b≠e->h.get? b=ζ u->h'.get? b=ζ u)(uE:∃u,h'.get? e=ζ u)
  (new:fc P w (upd H x o') h' x o'):cQ P w (upd H x o') h':=λb u q=>by
 have MH:∀c y,H c=ζ (.own y)->c≠x:=λc y r z=>by subst z;rw[r]at mu;exact mu
 have acU:∀c xs,H c=ζ (.tup xs)->c≠x:=λc xs r z=>by subst z;rw[r]at mu;exact mu
 by_cases hb:b=x
 ·subst hb;rw[fM]at q;cases q;exact new
 ·rw[bD hb]at q
  by_cases qD:b=e
  ·have q':H b=ζ (.own x):=by
    rcases he with z|z
    ·exact absurd (qD.trans z) hb
    ·rw[qD];exact z
   rw[q]at q';cases q';obtain⟨v,hv⟩:=uE;exact⟨v,by rw[qD];exact hv⟩
  ·refine(ok b u q).stay (λc v hc r=>k c v ?_ r) (λc r=>by rw[bD (MH c b r)];exact r) λc xs r=>by rw[bD (acU c xs r)];exact r
   rcases hc with rfl|hc
   ·exact qD
   ·rintro rfl
    rcases he with z|z
    ·exact MH c b hc z
    ·rw[hc]at z;cases z;exact hb rfl
end
structure Un (fs ex:List Ψ) (H H':Hp) (h h':υ):Prop where
 keep:∀b o,h.get? b=ζ o->H b=η->b∉fs->b∉ex->h'.get? b=ζ o
 slot:∀b o,h.get? b=ζ o->H b=η->b∈fs->b∉ex->∃sl,h'.get? b=ζ {o with slots:=sl}
 free:∀b o,h.get? b=ζ o->H b=η->b∉ex->H' b=η
 there:∀b o,h.get? b=ζ o->b∉ex->∃o',h'.get? b=ζ o'
 tups:∀b xs,H b=ζ (.tup xs)->H' b=ζ (.tup xs)
 gr:∀b o u,H b=ζ (.cT o u)->H' b=ζ (.cT o u)
 gB:∀b ps,H b=ζ (.cS ps)->∃more,H' b=ζ (.cS (ps++more))
section
variable {fs fs' ex ex':List Ψ}{H H1 H2:Hp}{h h1 h2 h':υ}{a x e:Ψ}{o:HO}
def Un.any(u:Un fs ex H H1 h h1){b:Ψ}{ob:Obj}(q:h.get? b=ζ ob)(n:H b=η)(hx:b∉ex):∃sl,h1.get? b=ζ {ob with slots:=sl}:=by
 by_cases hb:b∈fs
 ·exact u.slot b ob q n hb hx
 ·exact⟨ob.slots,u.keep b ob q n hb hx⟩
def Un.kept(k:∀b u,h.get? b=ζ u->h'.get? b=ζ u):Un fs ex H H h h' :=
 ⟨λb ob q _ _ _=>k b ob q,λb ob q _ _ _=>⟨ob.slots,k b ob q⟩,λ_ _ _ n _=>n,λb ob q _=>⟨ob,k b ob q⟩,λ_ _ q=>q,λ_ _ _ q=>q,λ_ ps q=>⟨#[],by rw[q];simp⟩⟩
def Un.refl:Un fs ex H H h h:=Un.kept λ_ _ q=>q
def Un.laid(k:∀b u,h.get? b=ζ u->h'.get? b=ζ u)(hp:h.objs.size<=a)(hn:H a=η):Un fs ex H (upd H a o) h h' where
 keep:=λb u q _ _ _=>k b u q
 slot:=λb u q _ _ _=>⟨u.slots,k b u q⟩
 free:=λb u q n _=>by rw[bD (an0 (an5 (anV q) hp))];exact n
 there:=λb u q _=>⟨u,k b u q⟩
 tups:=λb xs q=>by rw[bD (dF q hn)];exact q
 gr:=λb u xs q=>by rw[bD (dF q hn)];exact q
 gB:=λb ps q=>⟨#[],by rw[bD (dF q hn),q];simp⟩
def Un.write(mu:BL (H x))(he:e=x\/H e=ζ (.own x))(k:∀b u,b≠e->h.get? b=ζ u->h'.get? b=ζ u)(uE:∃u,h'.get? e=ζ u):Un fs ex H (upd H x o) h h':=by
 have hx:∀b,H b=η->b≠x:=λb n z=>by subst z;rw[n]at mu;exact mu
 have hb:∀b,H b=η->b≠e:=λb n z=>by
  subst z
  rcases he with r|r
  ·exact hx b n r
  ·rw[n]at r;cases r
 have hm:∀b u,H b=ζ u->¬BL (ζ u)->b≠x:=λb u q nm z=>by subst z;rw[q]at mu;exact nm mu
 refine⟨λb u q n _ _=>k b u (hb b n) q,λb u q n _ _=>⟨u.slots,k b u (hb b n) q⟩,λb u q n _=>by rw[bD (hx b n)];exact n,λb u q _=>?_,
  λb xs q=>by rw[bD (hm b _ q λz=>z)];exact q,λb u xs q=>by rw[bD (hm b _ q λz=>z)];exact q,λb ps q=>⟨#[],by rw[bD (hm b _ q λz=>z),q];simp⟩⟩
 by_cases qD:b=e
 ·subst qD;exact uE
 ·exact⟨u,k b u qD q⟩
end
def gA(h:υ)(H:Hp):List Ψ:=(ι h.objs.size).filter λa=>(H a).isSome
def lU(h:υ)(H:Hp):υ:=PySem.W.hideAll h (gA h H)
def agI(h:υ)(H:Hp):(lU h H).objs.size=h.objs.size:=PySem.W.hideAll_size _ _
def agJ{h:υ}{H:Hp}{b:Ψ}{o:Obj}(e:h.get? b=ζ o)(n:H b=η):(lU h H).get? b=ζ o :=
 ars _ e λhm=>by
  have q:(H b).isSome=θ:=(aoQ.mp hm).2;rw[n]at q;simp at q
def abo{h:υ}{H:Hp}{b:Ψ}{o:Obj}(e:(lU h H).get? b=ζ o):h.get? b=ζ o/\H b=η:=by
 have e':h.get? b=ζ o:=aqA (gA h H) e;refine⟨e',?_⟩;cases q:H b with
 |none=>rfl
 |some x =>
  have hm:b∈gA h H:=aoQ.mpr ⟨aod.mpr (anV e'),by simp[q]⟩
  have z:(lU h H).get? b=η:=PySem.W.hideAll_none (gA h H) hm;rw[z]at e;cases e
structure Mod (K:Θ) (mg:Str->Option Ξ) (base:υ):Prop where
 jR:K.In base
 glob:base.Ns Γ mg
 blt:∃mb,base.Ns builtinsNs mb/\∀x:Str,x≠"__name__"->mb x=bootBuiltins x
 nolimit:base.NoLimit
 bmod:∃bm ob,mg "__builtins__"=ζ (.ref bm)/\bm≠builtinsNs/\base.get? bm=ζ ob/\ob.cls=.type "module"/\ob.dict=ζ builtinsNs/\ob.data=.plain
structure Cx where
 prog:τ
 w:ψ
 K:Θ
 mg:Str->Option Ξ
 base:υ
 A:χ
 N:List Str
 s₀:Ω
 H₀:Hp
 env:Env
 outer:List Env
 stack:List Env
 ex:List Ψ
 fn:Str->Bool
 calm:Bool
 pn:List (Ψ×Obj)
 xe:Ξ->Ω->Prop
def frs(l:List Env):List Ψ:=l.filterMap (·.frame)
abbrev Cx.fs(X:Cx):List Ψ:=frs X.outer
def BH(sc:ac4)(x:Str):Prop:=sc.names.lookup x=ζ .local\/sc.names.lookup x=ζ .cell\/sc.names.lookup x=ζ .free
def Loc(sc:ac4)(x:Str):Prop:=sc.names.lookup x=ζ .local\/sc.names.lookup x=ζ .cell
def Look(env:Env)(h:υ)(m:Str->Option Ξ)(x:Str)(u:Ξ):Prop :=
 (env.kindOf x=ζ .local/\m x=ζ u)\/((env.kindOf x=ζ .cell\/env.kindOf x=ζ .free)/\∃c,env.cells.lookup x=ζ c/\h.IsCell c (ζ u))
structure Cx.Ok (X:Cx):Prop where
 mod:Mod X.K X.mg X.base
 kind:X.env.scope.kind=.function
 glob:X.env.globals=Γ
 blt:X.env.builtins=builtinsNs
 above:X.s₀.heap.objs.size<=X.env.locals
 inj:∀x y c,X.env.cells.lookup x=ζ c->X.env.cells.lookup y=ζ c->x=y
 has:∀x,(X.env.kindOf x=ζ .cell\/X.env.kindOf x=ζ .free)->∃c,X.env.cells.lookup x=ζ c
 jf:∀x c,X.fn x=θ->X.env.cells.lookup x=ζ c->X.s₀.heap.objs.size<=c
 hd:X.calm=θ->X.A.handled=η
 frames:X.A.frames=ζ X.stack
 stk:X.stack=X.outer\/(X.stack=X.env::X.outer/\X.env.frame=ζ X.env.locals)
 lX:∀b∈X.ex,b≠X.env.locals/\∀x c,X.env.cells.lookup x=ζ c->c≠b
 bs:∀b o,X.base.get? b=ζ o->X.s₀.heap.get? b=ζ o/\X.H₀ b=η
 gg:X.base.objs.size<=X.s₀.heap.objs.size
 i7:∀b o,X.base.get? b=ζ o->b∉X.ex
 kM:∀b∈X.ex,b∉X.fs
 fT:X.s₀.heap.FunFrames X.base X.outer
 iC:∀b∈X.fs,X.H₀ b=η
structure Inv (X:Cx) (pins:List (Ψ×Obj)) (σ:List (Option V)) (H:Hp) (s:Ω):Prop where
 ok:X.Ok
 os:s.os=X.s₀.os
 bare:aga s.gens
 base:Un X.fs X.ex X.H₀ H X.s₀.heap s.heap
 loc:∃m,s.heap.Ns X.env.locals m/\∀(i:Nat) (x:Str) (v:V),X.N[i]? = ζ x->σ[i]? = ζ (ζ v)->BH X.env.scope x->∃u,RelV v u/\Look X.env s.heap m x u
 cell:∀x c,X.env.cells.lookup x=ζ c->∃v,s.heap.IsCell c v
 free:H X.env.locals=η
 fU:∀x c,X.env.cells.lookup x=ζ c->H c=η
 pin:∀p∈X.pn++pins,s.heap.get? p.1=ζ p.2/\H p.1=η/\p.1≠X.env.locals/\p.1∉X.fs/\∀v,p.2.data≠.cell v
 hok:cQ X.prog X.w H s.heap
 len:σ.length=X.N.length
section
variable {X:Cx}{pins:List (Ψ×Obj)}{σ:List (Option V)}{H H':Hp}{s:Ω}{h':υ}
def Cx.Ok.ac3(ok:X.Ok){b:Ψ}{o:Obj}(e:X.base.get? b=ζ o):b∉X.fs:=λhb=>by
 have:=(ok.fT.mem hb).1;rw[e]at this;cases this
def Inv.bs(I:Inv X pins σ H s):∀b o,X.base.get? b=ζ o->s.heap.get? b=ζ o/\H b=η:=λb o e =>
 ⟨I.base.keep b o (I.ok.bs b o e).1 (I.ok.bs b o e).2 (I.ok.ac3 e) (I.ok.i7 b o e),I.base.free b o (I.ok.bs b o e).1 (I.ok.bs b o e).2 (I.ok.i7 b o e)⟩
def Inv.bk(I:Inv X pins σ H s):∀b o,X.base.get? b=ζ o->s.heap.get? b=ζ o:=λb o e=>(I.bs b o e).1
def Inv.mod(I:Inv X pins σ H s):Mod X.K X.mg X.base:=I.ok.mod
def Inv.eB(I:Inv X pins σ H s):X.K.In s.heap:=I.ok.mod.jR.keeps I.bk
def Inv.lt(I:Inv X pins σ H s):X.env.locals<s.heap.objs.size:=let⟨_,hn,_⟩:=I.loc;hn.lt
def Inv.sz(I:Inv X pins σ H s):X.s₀.heap.objs.size<=s.heap.objs.size:=aom I.ok.above (apl I.lt)
def Inv.DC(I:Inv X pins σ H s){a:Ψ}(h:s.heap.objs.size<=a):a∉X.fs:=λhb=>by
 obtain⟨_,o,ho,_⟩:=I.ok.fT.mem hb;exact absurd (an5 (anV ho) (aom I.sz h)) (aot _)
def Inv.l6(I:Inv X pins σ H s):∀x c,X.env.cells.lookup x=ζ c->c≠X.env.locals:=λx c e z=>by
 obtain⟨v,o,ho,hd⟩:=I.cell x c e;obtain⟨m,⟨o',es,ep,ho',hd',_⟩,_⟩:=I.loc;rw[z,ho']at ho;cases ho;rw[hd']at hd;cases hd
def Inv.fT(I:Inv X pins σ H s):s.heap.FunFrames X.base X.outer:=by
 have all:∀(l:List Env),(∀b∈frs l,b∈X.fs)->X.s₀.heap.FunFrames X.base l->s.heap.FunFrames X.base l:=by
  intro l
  induction l with
  |nil=>intro _ _;trivial
  |cons env r ih =>
   intro hs hl;obtain⟨hk,⟨L,o,hf,hn,ho,hd⟩,hr⟩:=hl;have hL:L∈X.fs:=hs L (by unfold frs;rw[apM,hf];exact aoR)
   obtain⟨sl,e⟩:=I.base.slot L o ho (I.ok.iC L hL) hL λz=>I.ok.kM L z hL
   exact⟨hk,⟨L,_,hf,hn,e,hd⟩,ih (λb hb=>hs b (by unfold frs;rw[apM,hf];exact aoA _ hb)) hr⟩
 exact all X.outer (λ_ hb=>hb) I.ok.fT
def Inv.stack(I:Inv X pins σ H s):s.heap.FunFrames X.base X.stack:=by
 rcases I.ok.stk with e|⟨e,hf⟩
 ·rw[e];exact I.fT
 ·rw[e];obtain⟨m,hn,_⟩:=I.loc;refine .cons (by rw[I.ok.kind];decide) hf hn ?_ I.fT
  exact Heap.get?_none_of_le (aom I.ok.gg I.ok.above)
def Inv.k8(I:Inv X pins σ H s):∀b∈frs X.stack,b∈X.env.locals::X.fs:=λb hb=>by
 rcases I.ok.stk with e|⟨e,hf⟩
 ·rw[e]at hb;exact aoA _ hb
 ·rw[e]at hb;unfold frs at hb;rw[apM,hf]at hb;exact hb
def Inv.wu(I:Inv X pins σ H s):∀b∈frs X.stack,H b=η:=λb hb=>by
 rcases anW.mp (I.k8 b hb)with e|hb
 ·rw[e];exact I.free
 ·obtain⟨_,o,ho,_⟩:=I.ok.fT.mem hb;exact I.base.free b o ho (I.ok.iC b hb) λz=>I.ok.kM b z hb
def Inv.step{g':Array agB}{t':Nat}{d':Drawn}{ch:List Ψ}(I:Inv X pins σ H s)
  (hch:∀b∈ch,(b∈X.ex\/X.s₀.heap.objs.size<=b)/\b≠X.env.locals/\(∀x c,X.env.cells.lookup x=ζ c->c≠b)/\∀p∈X.pn++pins,p.1≠b)
  (keep:∀b o,b≠X.env.locals->b∉X.fs->b∉ch->s.heap.get? b=ζ o->H b=η->h'.get? b=ζ o)
  (slot:∀b o,b≠X.env.locals->b∈X.fs->b∉ch->s.heap.get? b=ζ o->H b=η->∃sl,h'.get? b=ζ {o with slots:=sl}) (free:∀b o,b∉ch->s.heap.get? b=ζ o->H b=η->H' b=η)
  (there:∀b o,b∉ch->s.heap.get? b=ζ o->∃o',h'.get? b=ζ o')
  (tups:∀b xs,H b=ζ (.tup xs)->H' b=ζ (.tup xs)) (gr:∀b o u,H b=ζ (.cT o u)->H' b=ζ (.cT o u)) (gB:∀b ps,H b=ζ (.cS ps)->∃more,H' b=ζ (.cS (ps++more)))
  (ns:∀m,s.heap.Ns X.env.locals m->h'.Ns X.env.locals m) (hok:cQ X.prog X.w H' h') (hg:aga g') :
  Inv X pins σ H' {s with heap:=h',gens:=g',drawn:=d',toks:=t'}:=by
 have ug:∀b o,X.s₀.heap.get? b=ζ o->b≠X.env.locals:=λb o e=>an0 (an5 (anV e) I.ok.above)
 have zT:∀b o,X.s₀.heap.get? b=ζ o->b∉X.ex->b∉ch:=λb o e hx hb=>by
  rcases(hch b hb).1 with z|z
  ·exact hx z
  ·exact absurd (an5 (anV e) z) (aot _)
 have cellK:∀x c,X.env.cells.lookup x=ζ c->∀v,s.heap.IsCell c v->h'.IsCell c v:=λx c e v ⟨o,ho,hd⟩=>by
  have jL:c∉ch:=λz=>(hch c z).2.2.1 x c e rfl
  by_cases hc:c∈X.fs
  ·obtain⟨sl,q⟩:=slot c o (I.l6 x c e) hc jL ho (I.fU x c e);exact⟨_,q,hd⟩
  ·exact⟨o,keep c o (I.l6 x c e) hc jL ho (I.fU x c e),hd⟩
 refine⟨I.ok,I.os,hg,⟨λb o e n hb hx=>?_,λb o e n hb hx=>?_,λb o e n hx=>?_,λb o e hx=>?_,λb xs e=>tups b xs (I.base.tups b xs e),λb o xs e=>gr b o xs (I.base.gr b o xs e),λb ps e=>?_⟩,?_,λx c e=>?_,?_,λx c e=>?_,λp hp=>?_,hok,I.len⟩
 ·exact keep b o (ug b o e) hb (zT b o e hx) (I.base.keep b o e n hb hx) (I.base.free b o e n hx)
 ·obtain⟨sl,e1⟩:=I.base.slot b o e n hb hx;obtain⟨C0,e2⟩:=slot b _ (ug b o e) hb (zT b o e hx) e1 (I.base.free b o e n hx);exact⟨C0,e2⟩
 ·obtain⟨o',e1⟩:=I.base.there b o e hx;exact free b o' (zT b o e hx) e1 (I.base.free b o e n hx)
 ·obtain⟨o',e1⟩:=I.base.there b o e hx;exact there b o' (zT b o e hx) e1
 ·obtain⟨m1,e1⟩:=I.base.gB b ps e;obtain⟨m2,e2⟩:=gB b _ e1;exact⟨m1++m2,by rw[e2,art]⟩
 ·obtain⟨m,hn,hl⟩:=I.loc;refine⟨m,ns m hn,λi x v e1 e2 e3=>?_⟩
  obtain⟨u,r,l⟩:=hl i x v e1 e2 e3;refine⟨u,r,?_⟩
  rcases l with l|⟨k,c,e,z⟩
  ·exact .inl l
  ·exact .inr ⟨k,c,e,cellK x c e _ z⟩
 ·obtain⟨v,z⟩:=I.cell x c e;exact⟨v,cellK x c e v z⟩
 ·obtain⟨m,⟨o,_,_,ho,_⟩,_⟩:=I.loc;exact free _ o (λz=>(hch _ z).2.1 rfl) ho I.free
 ·obtain⟨v,o,ho,hd⟩:=I.cell x c e;exact free c o (λz=>(hch c z).2.2.1 x c e rfl) ho (I.fU x c e)
 ·obtain⟨e,n,ne,nf,d⟩:=I.pin p hp;have jL:p.1∉ch:=λz=>(hch p.1 z).2.2.2 p hp rfl
  exact⟨keep p.1 p.2 ne nf jL e n,free p.1 p.2 jL e n,ne,nf,d⟩
def Inv.un{t':Nat}(I:Inv X pins σ H s)(u:Un X.fs [] H H' s.heap h')(hok:cQ X.prog X.w H' h'):Inv X pins σ H' {s with heap:=h',toks:=t'}:=by
 obtain⟨m,⟨o,es,ep,ho,r⟩,_⟩:=id I.loc;obtain⟨sl,hL⟩:=u.any ho I.free (by simp)
 exact I.step (g':=s.gens) (d':=s.drawn) (ch:=[]) (λ_ z=>nomatch z) (λb o _ hb _ e n=>u.keep b o e n hb (by simp)) (λb o _ hb _ e n=>u.slot b o e n hb (by simp)) (λb o _ e n=>u.free b o e n (by simp)) (λb o _ e=>u.there b o e (by simp)) u.tups u.gr u.gB (λm' hm=>by
  obtain⟨o',es',Hh,ho',r'⟩:=hm;rw[ho]at ho';cases ho';exact⟨_,es',Hh,hL,r'⟩) hok I.bare
def Inv.call{g':Array agB}{t':Nat}{d':Drawn}{ch:List Ψ}(I:Inv X pins σ H s)(u:Un (frs X.stack) ch H H' s.heap h')(hok:cQ X.prog X.w H' h')(hg:aga g')
  (hch:∀b∈ch,(b∈X.ex\/X.s₀.heap.objs.size<=b)/\b≠X.env.locals/\(∀x c,X.env.cells.lookup x=ζ c->c≠b)/\∀p∈X.pn++pins,p.1≠b) :
  Inv X pins σ H' {s with heap:=h',gens:=g',drawn:=d',toks:=t'}:=by
 obtain⟨m,⟨o,es,ep,ho,r⟩,_⟩:=id I.loc;obtain⟨sl,hL⟩:=u.any ho I.free λz=>(hch _ z).2.1 rfl
 exact I.step (ch:=ch) hch (λb o hL hb hc e n=>u.keep b o e n (λz=>(anW.mp (I.k8 b z)).elim hL hb) hc) (λb o _ _ hc e n=>u.any e n hc) (λb o hc e n=>u.free b o e n hc) (λb o hc e=>u.there b o e hc) u.tups u.gr u.gB (λm' hm=>by
  obtain⟨o',es',Hh,ho',r'⟩:=hm;rw[ho]at ho';cases ho';exact⟨_,es',Hh,hL,r'⟩) hok hg
def Inv.turned{t':Nat}{it:Ψ}(I:Inv X pins σ H s)(k:∀b o,b≠it->s.heap.get? b=ζ o->h'.get? b=ζ o)(hn:H it=η)(hL:it≠X.env.locals)
  (h1:it∈X.ex\/X.s₀.heap.objs.size<=it) (h2:∀x c,X.env.cells.lookup x=ζ c->c≠it) (h3:∀p∈X.pn++pins,p.1≠it):Inv X pins σ H {s with heap:=h',toks:=t'}:=by
 have MU:∀b u,H b=ζ u->b≠it:=λb u e z=>by rw[z,hn]at e;cases e
 refine I.step (g':=s.gens) (d':=s.drawn) (ch:=[it]) (λb hb=>?_) (λb o _ _ hc e _=>k b o (λz=>hc (by simp[z])) e) (λb o _ _ hc e _=>⟨o.slots,k b o (λz=>hc (by simp[z])) e⟩) (λ_ _ _ _ n=>n)
  (λb o hc e=>⟨o,k b o (λz=>hc (by simp[z])) e⟩) (λ_ _ e=>e) (λ_ _ _ e=>e) (λb ps e=>⟨#[],by rw[e];simp⟩) (λm hm=>?_) (λb u e=>?_) I.bare
 ·have e:b=it:=by simpa using hb
  subst e;exact⟨h1,hL,h2,h3⟩
 ·obtain⟨o,es,ep,ho,r⟩:=hm;exact⟨o,es,ep,k _ o (aoD hL) ho,r⟩
 ·refine(I.hok b u e).stay (λc v hc q=>k c v ?_ q) (λ_ q=>q) λ_ _ q=>q
  rcases hc with z|z
  ·rw[z];exact MU b u e
  ·exact MU c _ z
def Inv.tok(I:Inv X pins σ H s)(t:Nat):Inv X pins σ H {s with toks:=t}:=I.un (h':=s.heap) (t':=t) Un.refl I.hok
def Inv.kept{t':Nat}(I:Inv X pins σ H s)(k:∀b u,s.heap.get? b=ζ u->h'.get? b=ζ u):Inv X pins σ H {s with heap:=h',toks:=t'}:=I.un (Un.kept k) (I.hok.kept k)
def Inv.laid{a:Ψ}{o:HO}{t':Nat}(I:Inv X pins σ H s)(k:∀b u,s.heap.get? b=ζ u->h'.get? b=ζ u)(hp:s.heap.objs.size<=a)(new:fc X.prog X.w (upd H a o) h' a o) :
  Inv X pins σ (upd H a o) {s with heap:=h',toks:=t'}:=I.un (Un.laid k hp (I.hok.fresh hp)) (I.hok.laid k hp new)
def Inv.write{x e:Ψ}{o:HO}{t':Nat}(I:Inv X pins σ H s)(mu:BL (H x))(he:e=x\/H e=ζ (.own x))(k:∀b u,b≠e->s.heap.get? b=ζ u->h'.get? b=ζ u)(uE:∃u,h'.get? e=ζ u)
  (new:fc X.prog X.w (upd H x o) h' x o):Inv X pins σ (upd H x o) {s with heap:=h',toks:=t'}:=I.un (Un.write mu he k uE) (I.hok.write mu he k uE new)
def Inv.wR{tW:List (Ψ×Obj)}(I:Inv X pins σ H s)(h:∀p∈tW,s.heap.get? p.1=ζ p.2/\H p.1=η/\p.1≠X.env.locals/\p.1∉X.fs/\∀v,p.2.data≠.cell v):Inv X tW σ H s :=
 ⟨I.ok,I.os,I.bare,I.base,I.loc,I.cell,I.free,I.fU,λp hp=>(aou.mp hp).elim (λz=>I.pin p (aqB _ z)) (h p),I.hok,I.len⟩
def ML{N:List Str}(hN:N.Nodup){i j:Nat}{x:Str}(a:N[i]? = ζ x)(b:N[j]? = ζ x):i=j:=by
 obtain⟨h1,e1⟩:=an7.mp a;obtain⟨h2,e2⟩:=an7.mp b;exact(apw hN).mp (e1.trans e2.symm)
def La{M:Model}{A:χ}{E:Ξ->Ω->Prop}{i:Nat}{x:Str}{v:V}{u:Ξ}{Q:Unit->Ω->Prop}(I:Inv X pins σ H s)(hN:X.N.Nodup)(hi:X.N[i]? = ζ x)(hx:Loc X.env.scope x)(r:RelV v u)
  (h:∀s',Inv X pins (σ.set i (ζ v)) H s'->(∃a,agd a s.heap s'.heap/\(a=X.env.locals\/X.env.cells.lookup x=ζ a))->Q () s') (hf:X.fn x=θ\/X.env.scope.names.lookup x=ζ .local:=by first|exact .inl rfl|exact .inr rfl|assumption):wpAny M A (storeName X.env x u) Q E s:=by
 obtain⟨m,hn,hl⟩:=id I.loc;have hcls:(X.env.scope.kind == .class||(X.env.scope.kind == .module&&X.env.locals != X.env.globals))=Δ:=by rw[I.ok.kind];rfl
 have OI:i<σ.length:=by rw[I.len];exact(an7.mp hi).1
 have l6:=I.l6;have tracked:∀{a:Ψ}{h':υ},(∃o,s.heap.get? a=ζ o/\H a=η)->agd a s.heap h'->cQ X.prog X.w H h':=fun{a h'} ha hs b ob e=>by
  obtain⟨_,_,hfree⟩:=ha;refine(I.hok b ob e).stay (λc w' hc q=>(hs.2 c ?_).trans q) (λ_ q=>q) λ_ _ q=>q
  rintro rfl
  rcases hc with rfl|hc
  ·rw[hfree]at e;cases e
  ·rw[hfree]at hc;cases hc
 rcases hx with hk|hk
 ·refine wpAny_storeName_local hk hn (λh' hn' hs=>?_) hcls
  obtain⟨oL,_,_,lT,_⟩:=id hn;refine h _ ⟨I.ok,I.os,I.bare,⟨λb o e n hb hx=>?_,λb o e n hb hx=>?_,I.base.free,λb o e hx=>?_,I.base.tups,I.base.gr,I.base.gB⟩,⟨_,hn',λj y v' e1 e2 e3=>?_⟩,λy c e=>?_,I.free,I.fU,λp hp=>?_,tracked ⟨oL,lT,I.free⟩ hs,by simpa using I.len⟩ ⟨_,hs,.inl rfl⟩
  ·exact(hs.2 b (an0 (an5 (anV e) I.ok.above))).trans (I.base.keep b o e n hb hx)
  ·obtain⟨sl,e1⟩:=I.base.slot b o e n hb hx;exact⟨sl,(hs.2 b (an0 (an5 (anV e) I.ok.above))).trans e1⟩
  ·obtain⟨o',e1⟩:=I.base.there b o e hx;exact⟨o',(hs.2 b (an0 (an5 (anV e) I.ok.above))).trans e1⟩
  ·by_cases hj:j=i
   ·subst hj;rw[hi]at e1;cases e1;rw[aoJ OI]at e2;cases e2;exact⟨u,r,.inl ⟨hk,by simp⟩⟩
   ·rw[ao0 (aoD hj)]at e2;obtain⟨u',r',q⟩:=hl j y v' e1 e2 e3;refine⟨u',r',?_⟩
    rcases q with⟨k,e⟩|⟨k,c,e,z⟩
    ·refine .inl ⟨k,?_⟩;have:y≠x:=λe=>hj (ML hN e1 (e▸hi))
     simp[this,e]
    ·exact .inr ⟨k,c,e,z.sameBut hs (l6 y c e)⟩
  ·obtain⟨w',z⟩:=I.cell y c e;exact⟨w',z.sameBut hs (l6 y c e)⟩
  ·obtain⟨e,n,ne,nf,d⟩:=I.pin p hp;exact⟨(hs.2 p.1 ne).trans e,n,ne,nf,d⟩
 ·have hfn:X.fn x=θ:=by
   rcases hf with z|z
   ·exact z
   ·rw[z]at hk;cases hk
  obtain⟨c,hc⟩:=I.ok.has x (.inl hk);obtain⟨w',z⟩:=I.cell x c hc;refine wpAny_storeName_cell I.ok.kind hk hc z (λh' hc' hs=>?_)
  obtain⟨oc,hoc,ags⟩:=id z;refine h {s with heap:=h'} ⟨I.ok,I.os,I.bare,⟨λb o e n hb hx=>?_,λb o e n hb hx=>?_,I.base.free,λb o e hx=>?_,I.base.tups,I.base.gr,I.base.gB⟩,⟨m,hn.sameBut hs (aoD (l6 x c hc)),λj y v' e1 e2 e3=>?_⟩,λy c' e=>?_,I.free,I.fU,λp hp=>?_,tracked ⟨oc,hoc,I.fU x c hc⟩ hs,by simpa using I.len⟩ ⟨c,hs,.inr hc⟩
  ·exact(hs.2 b (an0 (an5 (anV e) (I.ok.jf x c hfn hc)))).trans (I.base.keep b o e n hb hx)
  ·obtain⟨sl,e1⟩:=I.base.slot b o e n hb hx;exact⟨sl,(hs.2 b (an0 (an5 (anV e) (I.ok.jf x c hfn hc)))).trans e1⟩
  ·obtain⟨o',e1⟩:=I.base.there b o e hx;exact⟨o',(hs.2 b (an0 (an5 (anV e) (I.ok.jf x c hfn hc)))).trans e1⟩
  ·by_cases hj:j=i
   ·subst hj;rw[hi]at e1;cases e1;rw[aoJ OI]at e2;cases e2;exact⟨u,r,.inr ⟨.inl hk,c,hc,hc'⟩⟩
   ·rw[ao0 (aoD hj)]at e2;obtain⟨u',r',q⟩:=hl j y v' e1 e2 e3;refine⟨u',r',?_⟩
    rcases q with q|⟨k,c',e,z'⟩
    ·exact .inl q
    ·refine .inr ⟨k,c',e,z'.sameBut hs ?_⟩
     rintro rfl
     exact hj (ML hN e1 (I.ok.inj _ _ _ e hc▸hi))
  ·by_cases hcc:c'=c
   ·subst hcc;exact⟨_,hc'⟩
   ·obtain⟨w2,z2⟩:=I.cell y c' e;exact⟨w2,z2.sameBut hs hcc⟩
  ·obtain⟨e,n,ne,nf,d⟩:=I.pin p hp;refine⟨(hs.2 p.1 ?_).trans e,n,ne,nf,d⟩;intro q;rw[q,hoc]at e;have q':oc=p.2:=an6 e;exact d w' (by rw[<-q'];exact ags)
def CS{M:Model}{A:χ}{E:Ξ->Ω->Prop}{i:Nat}{x:Str}{v:V}{u:Ξ}{Q:Unit->Ω->Prop}(I:Inv X pins σ H s)(hN:X.N.Nodup)(hi:X.N[i]? = ζ x)(hx:Loc X.env.scope x)(r:RelV v u)
  (h:∀s',Inv X pins (σ.set i (ζ v)) H s'->Q () s') (hf:X.fn x=θ\/X.env.scope.names.lookup x=ζ .local:=by first|exact .inl rfl|exact .inr rfl|assumption):wpAny M A (storeName X.env x u) Q E s :=
 La I hN hi hx r (λs' I' _=>h s' I') hf
def Inv.Ih{s':Ω}{ch:List Ψ}(I:Inv X pins σ H s)(ho:s'.os=s.os)(u:Un (frs X.stack) ch H H' s.heap s'.heap)(hok:cQ X.prog X.w H' s'.heap)(hg:aga s'.gens)
  (hch:∀b∈ch,(b∈X.ex\/X.s₀.heap.objs.size<=b)/\b≠X.env.locals/\(∀x c,X.env.cells.lookup x=ζ c->c≠b)/\∀p∈X.pn++pins,p.1≠b):Inv X pins σ H' s':=by
 obtain⟨h',g',d',t',o'⟩:=s';have e:o'=s.os:=ho;subst e;exact I.call (g':=g') (t':=t') (d':=d') u hok hg hch
end
abbrev XK:=Ξ->Option Ψ->Hp->Prop
abbrev St:=List (Option V)
abbrev VK:=V->Hp->Prop
abbrev TE:=St->Hp->VK->Prop
abbrev TT:=St->Hp->(Bool->Hp->Prop)->Prop
abbrev TA:=St->Hp->(List V->Hp->Prop)->Prop
structure Ends where
 nx:St->Hp->Prop
 rt:VK
 bk:St->Hp->Prop:=λ_ _=>False
 ct:St->Hp->Prop:=λ_ _=>False
abbrev TS:=Ends->St->Hp->Prop
def EP(X:Cx)(pins:List (Ψ×Obj))(σ:St)(Q:VK)(u:Ξ)(s':Ω):Prop:=∃v H',Inv X pins σ H' s'/\RelV v u/\Q v H'
def TP(X:Cx)(pins:List (Ψ×Obj))(σ:St)(Q:Bool->Hp->Prop)(b:Bool)(s':Ω):Prop:=∃H',Inv X pins σ H' s'/\Q b H'
def AP(X:Cx)(pins:List (Ψ×Obj))(σ:St)(Q:List V->Hp->Prop)(us:List Ξ)(s':Ω):Prop:=∃vs H',Inv X pins σ H' s'/\Vals vs us/\Q vs H'
def SP(X:Cx)(pins:List (Ψ×Obj))(D:Ends)(f:Flow)(s':Ω):Prop :=
 match f with
 |.next=>∃σ' H',Inv X pins σ' H' s'/\D.nx σ' H'
 |.brk=>∃σ' H',Inv X pins σ' H' s'/\D.bk σ' H'
 |.cont=>∃σ' H',Inv X pins σ' H' s'/\D.ct σ' H'
 |.ret u=>∃v σ' H',Inv X pins σ' H' s'/\RelV v u/\D.rt v H'
def PE(X:Cx)(e:π)(t:TE):Prop :=
 ∀(pins:List (Ψ×Obj)) (s:Ω) (σ:St) (H:Hp) (Q:VK),Inv X pins σ H s->t σ H Q->wpAny (model X.prog X.w) X.A (eval e X.env) (EP X pins σ Q) X.xe s
def PT(X:Cx)(e:π)(t:TT):Prop :=
 ∀(pins:List (Ψ×Obj)) (s:Ω) (σ:St) (H:Hp) (Q:Bool->Hp->Prop),Inv X pins σ H s->t σ H Q->wpAny (model X.prog X.w) X.A (isTrue e X.env (eval e X.env)) (TP X pins σ Q) X.xe s
def PW(X:Cx)(e:π)(t:TT):Prop :=
 ∀(whole:Sem Ξ) (pins:List (Ψ×Obj)) (s:Ω) (σ:St) (H:Hp) (Q:Bool->Hp->Prop),Inv X pins σ H s->t σ H Q->wpAny (model X.prog X.w) X.A (isTrue e X.env whole) (TP X pins σ Q) X.xe s
def PW.pt{X:Cx}{e:π}{t:TT}(h:PW X e t):PT X e t:=h _
def PA(X:Cx)(es:List π)(t:TA):Prop :=
 ∀(pos:Pos) (pins:List (Ψ×Obj)) (s:Ω) (σ:St) (H:Hp) (Q:List V->Hp->Prop),Inv X pins σ H s->t σ H Q->wpAny (model X.prog X.w) X.A (spliced (abE pos (μ es X.env))) (AP X pins σ Q) X.xe s
def PS(X:Cx)(st:aar)(t:TS):Prop :=
 ∀(pins:List (Ψ×Obj)) (s:Ω) (σ:St) (H:Hp) (D:Ends),Inv X pins σ H s->t D σ H->wpAny (model X.prog X.w) X.A (exec st X.env) (SP X pins D) X.xe s
def fE(X:Cx)(st:List aar)(t:TS):Prop :=
 ∀(pins:List (Ψ×Obj)) (s:Ω) (σ:St) (H:Hp) (D:Ends),Inv X pins σ H s->t D σ H->wpAny (model X.prog X.w) X.A (execs st X.env) (SP X pins D) X.xe s
def bL{α:Type}{t:Sem α}{Q Q':α->Ω->Prop}{M:Model}{A:χ}{E:Ξ->Ω->Prop}{s:Ω}(h:wpAny M A t Q E s)(hQ:∀a s,Q a s->Q' a s):wpAny M A t Q' E s:=aoe h hQ λ_ _ x=>x
section
variable {X:Cx}
def UZ(i:Nat):TE:=λσ H Q=>∃v,σ[i]? = ζ (ζ v)/\Q v H
def tC(v:V):TE:=λ_ H Q=>Q v H
def LS{i:Nat}{x:Str}{pos:Pos}(hN:X.N[i]? = ζ x)(hv:BH X.env.scope x)(hd:(x==("__debug__":Str))=Δ:=by decide)(hcd:(x==("__classdict__":Str))=Δ:=by decide):PE X (.Name x pos) (UZ i):=by
 intro pins s σ H Q I h;obtain⟨v,e,h⟩:=h;obtain⟨m,hn,hl⟩:=I.loc;obtain⟨u,r,l⟩:=hl i x v hN e hv;have fin:EP X pins σ Q u s:=⟨v,H,I,r,h⟩
 rcases l with⟨hk,hm⟩|⟨hk,c,hc,hcell⟩
 ·exact wpAny_Name (wpAny_loadName_local I.ok.kind hk hn hm fin) hd
 ·rcases hk with hk|hk
  ·exact wpAny_Name (wpAny_loadName_cell I.ok.kind hk hc hcell fin) hd
  ·exact wpAny_Name (wpAny_loadName_free I.ok.kind hk hc hcell fin hcd) hd
def Z3{i j pos}:PE X (.Constant (.int i) j pos) (tC (.int i)):=λ_ _ _ H _ I h=>wpAny_Constant_int ⟨.int i,H,I.tok _,⟨_,rfl⟩,h⟩
def aaa{b j pos}:PE X (.Constant (.bool b) j pos) (tC (.bl b)):=λ_ _ _ H _ I h=>Constant_bool ⟨.bl b,H,I,rfl,h⟩
def Z1{j pos}:PE X (.Constant .none j pos) (tC .aF):=λ_ _ _ H _ I h=>Constant_none ⟨.aF,H,I,rfl,h⟩
def ZY{x j pos}:PE X (.Constant (.str x) j pos) (tC (.str x)):=λ_ _ _ H _ I h=>Calls.Constant_str ⟨.str x,H,I.tok _,⟨_,rfl⟩,h⟩
def Gl(X:Cx)(x:Str):Prop:=X.env.kindOf x=ζ .globalImplicit
def uA{E:Ξ->Ω->Prop}{pins:List (Ψ×Obj)}{s:Ω}{σ:St}{H:Hp}{x:Str}{u:Ξ}{pos:Pos}{Q:Ξ->Ω->Prop}(I:Inv X pins σ H s)(hg:Gl X x)(hm:X.mg x=ζ u)(h:Q u s)
  (hd:(x==("__debug__":Str))=Δ:=by decide):wpAny (model X.prog X.w) X.A (eval (.Name x pos) X.env) Q E s :=
 aru I.ok.kind hg (Calls.loadGlobal_global (by rw[I.ok.glob];exact I.mod.glob.keeps I.bk) hm h) hd
def lN{E:Ξ->Ω->Prop}{pins:List (Ψ×Obj)}{s:Ω}{σ:St}{H:Hp}{x:Str}{u:Ξ}{pos:Pos}{Q:Ξ->Ω->Prop}(I:Inv X pins σ H s)(hg:Gl X x)(hm:X.mg x=η)(hv:bootBuiltins x=ζ u)(h:Q u s)
  (hn:x≠"__name__":=by decide) (hd:(x==("__debug__":Str))=Δ:=by decide):wpAny (model X.prog X.w) X.A (eval (.Name x pos) X.env) Q E s:=by
 obtain⟨mb,h1,h2⟩:=I.mod.blt;exact aru I.ok.kind hg (Calls.loadGlobal_builtin (by rw[I.ok.glob];exact I.mod.glob.keeps I.bk) hm (by rw[I.ok.blt];exact h1.keeps I.bk) ((h2 x hn).trans hv) h) hd
def LX{x:Str}{v:V}{u:Ξ}{pos:Pos}(hg:Gl X x)(hm:X.mg x=ζ u)(r:RelV v u)(hd:(x==("__debug__":Str))=Δ:=by decide):PE X (.Name x pos) (tC v) :=
 λ_ _ _ H _ I h=>uA I hg hm ⟨v,H,I,r,h⟩ hd
def Z9{x:Str}{v:V}{u:Ξ}{pos:Pos}(hg:Gl X x)(hm:X.mg x=η)(hv:bootBuiltins x=ζ u)(r:RelV v u)(hn:x≠"__name__":=by decide)(hd:(x==("__debug__":Str))=Δ:=by decide):PE X (.Name x pos) (tC v) :=
 λ_ _ _ H _ I h=>lN I hg hm hv ⟨v,H,I,r,h⟩ hn hd
variable {a b:π}{ta tb:TE}{pos:Pos}
def tB(t:TE):TT:=λσ H Q=>t σ H λx H1=>∃c,x=.bl c/\Q c H1
def Yy{e:π}{t:TE}(h:PE X e t)(he:∀whole,isTrue e X.env whole=(do let v <-whole;standAt e.pos;holding [v] (truthy v)):=by intro _;rfl):PT X e (tB t):=by
 intro pins s σ H Q I hw;refine isTrue_plain (bL (h pins s σ H _ I hw) λv s1 ⟨x,H1,I1,r1,q1⟩=>?_) (he _)
 obtain⟨d,rfl,q⟩:=q1;cases r1;exact apm ⟨H1,I1,q⟩
variable {tA yY:TT}{rest:List π}
def Vo(t u:TT):TT:=λσ H Q=>t σ H λc H1=>if c=θ then u σ H1 Q else Q Δ H1
def U7(t u:TT):TT:=λσ H Q=>t σ H λc H1=>if c=θ then Q θ H1 else u σ H1 Q
def U9(t:TT):TT:=λσ H Q=>t σ H λc H1=>Q (!c) H1
def Yu(ha:PT X a tA):PW X (.BoolOp .And [a] pos) tA:=by
 intro wh pins s σ H Q I h;refine isTrue_and (bL (ha pins s σ H Q I h) λc s1 e=>?_)
 cases c with
 |true=>exact isTrue_and_nil e
 |false=>exact e
def Ys(ha:PT X a tA):PW X (.BoolOp .Or [a] pos) tA:=by
 intro wh pins s σ H Q I h;refine isTrue_or (bL (ha pins s σ H Q I h) λc s1 e=>?_)
 cases c with
 |false=>exact isTrue_or_nil e
 |true=>exact e
def Yv(ha:PT X a tA)(hb:PW X (.BoolOp .And (b::rest) pos) yY):PW X (.BoolOp .And (a::b::rest) pos) (Vo tA yY):=by
 intro wh pins s σ H Q I h;refine isTrue_and (bL (ha pins s σ H _ I h) λc s1 ⟨H1,I1,q1⟩=>?_)
 cases c with
 |true=>exact hb wh pins s1 σ H1 Q I1 q1
 |false=>exact⟨H1,I1,q1⟩
def Yt(ha:PT X a tA)(hb:PW X (.BoolOp .Or (b::rest) pos) yY):PW X (.BoolOp .Or (a::b::rest) pos) (U7 tA yY):=by
 intro wh pins s σ H Q I h;refine isTrue_or (bL (ha pins s σ H _ I h) λc s1 ⟨H1,I1,q1⟩=>?_)
 cases c with
 |true=>exact⟨H1,I1,q1⟩
 |false=>exact hb wh pins s1 σ H1 Q I1 q1
def YA(ha:PT X a tA):PT X (.UnaryOp .Not a pos) (U9 tA):=by
 intro pins s σ H Q I h;exact isTrue_not (ha pins s σ H (λc H1=>Q (!c) H1) I h)
def Vn(ta tb:TE):TE:=λσ H Q=>ta σ H λx H1=>∃c,x=.bl c/\if c=θ then tb σ H1 Q else Q (.bl Δ) H1
def U8(ta:TE):TE:=λσ H Q=>ta σ H λx H1=>∃c,x=.bl c/\Q (.bl (!c)) H1
def ZZ{op}{t:TE}(h:PE X a t):PE X (.BoolOp op [a] pos) t:=λpins s σ H Q I hw=>BoolOp_one (h pins s σ H Q I hw)
def aab(ha:PE X a ta)(hb:PE X (.BoolOp .And (b::rest) pos) tb):PE X (.BoolOp .And (a::b::rest) pos) (Vn ta tb):=by
 intro pins s σ H Q I h;refine BoolOp_and (bL (ha pins s σ H _ I h) λv s1 ⟨x,H1,I1,r1,q1⟩=>?_)
 obtain⟨c,rfl,q1⟩:=q1;cases r1;refine apm ?_;cases c with
 |true=>exact hb pins s1 σ H1 Q I1 q1
 |false=>exact⟨.bl Δ,H1,I1,rfl,q1⟩
def Z0(ha:PE X a ta):PE X (.UnaryOp .Not a pos) (U8 ta):=by
 intro pins s σ H Q I h;refine UnaryOp_ (bL (ha pins s σ H _ I h) λv s1 ⟨x,H1,I1,r1,q1⟩=>?_)
 obtain⟨c,rfl,q1⟩:=q1;cases r1;exact not_of (apm ⟨.bl (!c),H1,I1,rfl,q1⟩)
def Vf(t:TT)(ta tb:TE):TE:=λσ H Q=>t σ H λc H1=>if c=θ then ta σ H1 Q else tb σ H1 Q
def Z4{c:π}(hc:PT X c tA)(ha:PE X a ta)(hb:PE X b tb):PE X (.IfExp c a b pos) (Vf tA ta tb):=by
 intro pins s σ H Q I h;refine wpAny_IfExp (bL (hc pins s σ H _ I h) λd s1 ⟨H1,I1,q1⟩=>?_)
 cases d with
 |true=>exact ha pins s1 σ H1 Q I1 q1
 |false=>exact hb pins s1 σ H1 Q I1 q1
end
def bY(K:Θ)(H:Hp)(a:Ψ)(xs:List V):Prop :=
 Rd H a (.lst xs) \/
  ∃(o:Obj) (its:Array Ξ) (n:Nat),K.lookup a=ζ o/\o.cls=.type "list"/\o.dict=η/\o.data=.seq its n/\its.size<=ε/\Vals xs its.toList
def cg(K:Θ)(H:Hp)(a:Ψ)(xs:List V):Prop :=
 Rd H a (.tup xs) \/
  ∃(o:Obj) (its:Array Ξ) (n:Nat),K.lookup a=ζ o/\o.cls=.type "tuple"/\o.data=.seq its n/\its.size<=ε/\Vals xs its.toList
def alw:Ξ->Option V
 |.none=>ζ .aF
 |.bool b=>ζ (.bl b)
 |.int i _=>ζ (.int i)
 |.str x _=>ζ (.str x)
 |.bytes b _=>ζ (.jg b)
 |.float b _=>ζ (.uI b)
 |.ref a=>ζ (.ref a)
 |.type n=>ζ (.ty n)
 |_=>η
def RelV.abs{x:V}{u:Ξ}(r:RelV x u):alw u=ζ x:=by
 cases x with
 |aF=>cases r;rfl
 |bl _=>cases r;rfl
 |int _=>obtain⟨t,rfl⟩:=r;rfl
 |str _=>obtain⟨t,rfl⟩:=r;rfl
 |jg _=>obtain⟨t,rfl⟩:=r;rfl
 |uI _=>obtain⟨t,rfl⟩:=r;rfl
 |ref _=>cases r;rfl
 |ty _=>cases r;rfl
def RelV.inj{x y:V}{u:Ξ}(r:RelV x u)(q:RelV y u):x=y:=an6 (r.abs.symm.trans q.abs)
def Vals.inj:∀{xs ys:List V}{us:List Ξ},Vals xs us->Vals ys us->xs=ys
 |_,_,_,.nil,.nil=>rfl
 |_,_,_,.cons r t,.cons r' t'=>by rw[r.inj r',Vals.inj t t']
section
variable {X:Cx}{pins:List (Ψ×Obj)}{σ:St}{H:Hp}{s:Ω}{a:Ψ}{xs ys:List V}
def bY.of{K:Θ}(h:H a=ζ (.lst xs)):bY K H a xs:=.inl (.inl h)
def cg.of{K:Θ}(h:H a=ζ (.tup xs)):cg K H a xs:=.inl (.inl h)
def Inv.list(I:Inv X pins σ H s)(h:bY X.K H a xs):∃its:List Ξ,Vals xs its/\PlainL s.heap a its.toArray/\xs.length<=ε:=by
 rcases h with h|⟨o,its,n,hk,hc,hd,hs,hz,r⟩
 ·obtain⟨z,its,n,r,e⟩:=h.ok I.hok;exact⟨its,r,⟨_,n,e,rfl,rfl,rfl⟩,z⟩
 ·refine⟨its.toList,r,⟨o,n,I.eB a o hk,hc,hd,by simpa using hs⟩,?_⟩
  have e:=r.length;simp only[aoS]at e;omega
def Inv.tuple(I:Inv X pins σ H s)(h:cg X.K H a xs):∃its:List Ξ,Vals xs its/\IsTup s.heap a its.toArray/\xs.length<=ε:=by
 rcases h with h|⟨o,its,n,hk,hc,hs,hz,r⟩
 ·obtain⟨z,its,r,p⟩:=h.ok I.hok;exact⟨its,r,p.tup,z⟩
 ·refine⟨its.toList,r,⟨o,I.eB a o hk,hc,n,by simpa using hs⟩,?_⟩
  have e:=r.length;simp only[aoS]at e;omega
def Inv.NP(I:Inv X pins σ H s)(h:bY X.K H a xs)(h':bY X.K H a ys):xs=ys:=by
 obtain⟨its,r,⟨o,n,e,_,_,d⟩,_⟩:=I.list h;obtain⟨its',r',⟨o',n',e',_,_,d'⟩,_⟩:=I.list h';rw[e]at e';cases e';rw[d]at d'
 injection d' with d1 _
 have:its=its':=by simpa using congrArg Array.toList d1
 subst this;exact r.inj r'
def Inv.KJ(I:Inv X pins σ H s)(h:cg X.K H a xs)(h':cg X.K H a ys):xs=ys:=by
 obtain⟨its,r,⟨o,e,_,n,d⟩,_⟩:=I.tuple h;obtain⟨its',r',⟨o',e',_,n',d'⟩,_⟩:=I.tuple h';rw[e]at e';cases e';rw[d]at d'
 injection d' with d1 _
 have:its=its':=by simpa using congrArg Array.toList d1
 subst this;exact r.inj r'
end
abbrev Cx.iT(X:Cx)(E:Ξ->Ω->Prop):Cx:={X with xe:=E}
abbrev Cx.fP(X:Cx):Cx:=X.iT λ_ _=>False
def Cx.Ok.iT{X:Cx}(ok:X.Ok)(E:Ξ->Ω->Prop):(X.iT E).Ok :=
 ⟨ok.mod,ok.kind,ok.glob,ok.blt,ok.above,ok.inj,ok.has,ok.jf,ok.hd,ok.frames,ok.stk,ok.lX,ok.bs,ok.gg,ok.i7,ok.kM,ok.fT,ok.iC⟩
def Cx.Ok.jH{X:Cx}{E:Ξ->Ω->Prop}(ok:(X.iT E).Ok):X.Ok :=
 ⟨ok.mod,ok.kind,ok.glob,ok.blt,ok.above,ok.inj,ok.has,ok.jf,ok.hd,ok.frames,ok.stk,ok.lX,ok.bs,ok.gg,ok.i7,ok.kM,ok.fT,ok.iC⟩
section
variable {X:Cx}{pins:List (Ψ×Obj)}{σ:St}{H:Hp}{s:Ω}{E:Ξ->Ω->Prop}
def Inv.iT(I:Inv X pins σ H s)(E:Ξ->Ω->Prop):Inv (X.iT E) pins σ H s:=⟨I.ok.iT E,I.os,I.bare,I.base,I.loc,I.cell,I.free,I.fU,I.pin,I.hok,I.len⟩
def Inv.jH(I:Inv (X.iT E) pins σ H s):Inv X pins σ H s:=⟨I.ok.jH,I.os,I.bare,I.base,I.loc,I.cell,I.free,I.fU,I.pin,I.hok,I.len⟩
def SP.jH{D:Ends}{f:Flow}{s':Ω}(h:SP (X.iT E) pins D f s'):SP X pins D f s':=by
 cases f with
 |next=>obtain⟨σ',H',I,q⟩:=h;exact⟨σ',H',I.jH,q⟩
 |brk=>obtain⟨σ',H',I,q⟩:=h;exact⟨σ',H',I.jH,q⟩
 |cont=>obtain⟨σ',H',I,q⟩:=h;exact⟨σ',H',I.jH,q⟩
 |ret u=>obtain⟨v,σ',H',I,r,q⟩:=h;exact⟨v,σ',H',I.jH,r,q⟩
def PT.fP{e:π}{t:TT}(h:PT X.fP e t):PT X e t:=λpins s σ H Q I hw =>
 aoe (h pins s σ H Q (I.iT _) hw) (λ_ _ ⟨H',I',q⟩=>⟨H',I'.jH,q⟩) λ_ _ z=>False.elim z
def fE.fP{st:List aar}{t:TS}(h:fE X.fP st t):fE X st t:=λpins s σ H D I hw =>
 aoe (h pins s σ H D (I.iT _) hw) (λ_ _ q=>q.jH) λ_ _ z=>False.elim z
end
section
variable {X:Cx}{st:aar}{rest:List aar}{t u:TS}{e:π}{te:TE}{pos:Pos}
def Vb:TS:=λD σ H=>D.nx σ H
def U5(t u:TS):TS:=λD σ H=>t {D with nx:=u D} σ H
def YD:fE X [] Vb:=λ_ _ σ H _ I h=>ap1 ⟨σ,H,I,h⟩
def zq(h1:PS X st t)(h2:fE X rest u):fE X (st::rest) (U5 t u):=by
 intro pins s σ H D I h;refine wpAny_execs_cons (bL (h1 pins s σ H {D with nx:=u D} I h) λf s1 q=>?_)
 cases f with
 |next =>
  obtain⟨σ',H',I',q⟩:=q;exact h2 pins s1 σ' H' D I' q
 |ret v=>exact q
 |brk=>exact q
 |cont=>exact q
def LJ(h1:PS X st t):fE X [st] t:=by
 intro pins s σ H D I h;refine wpAny_execs_cons (bL (h1 pins s σ H D I h) λf s1 q=>?_)
 cases f with
 |next=>exact ap1 q
 |ret v=>exact q
 |brk=>exact q
 |cont=>exact q
def Inv.quiet{pins:List (Ψ×Obj)}{σ:St}{H:Hp}{s:Ω}(I:Inv X pins σ H s):interactive X.env=Δ:=by simp[interactive,I.ok.kind]
def Vi(te:TE):TS:=λD σ H=>te σ H λ_ H1=>D.nx σ H1
def Dk(he:PE X e te)(hs:swapsWith e η pos.line X.env=pure Δ:=by rfl):PS X (.Expr e pos) (Vi te):=by
 intro pins s σ H D I h;exact wpAny_Expr_any (bL (he pins s σ H _ I h) λv s1 ⟨x,H1,I1,r1,q1⟩=>⟨σ,H1,I1,q1⟩) I.quiet hs
def U6(te:TE):TS:=λD σ H=>te σ H D.rt
def YJ(he:PE X e te):PS X (.Return (ζ e) pos) (U6 te):=by
 intro pins s σ H D I h;exact wpAny_Return_some (bL (he pins s σ H _ I h) λv s1 ⟨x,H1,I1,r1,q1⟩=>⟨x,σ,H1,I1,r1,q1⟩)
def Ve(c:TT)(t u:TS):TS:=λD σ H=>c σ H λb H1=>if b=θ then t D σ H1 else u D σ H1
def LK{c:π}{a b:List aar}{tc:TT}(hc:PT X c tc)(ha:fE X a t)(hb:fE X b u):PS X (.If c a b pos) (Ve tc t u):=by
 intro pins s σ H D I h;refine wpAny_If (bL (hc pins s σ H _ I h) λd s1 ⟨H1,I1,q1⟩=>?_)
 cases d with
 |true=>exact ha pins s1 σ H1 D I1 q1
 |false=>exact hb pins s1 σ H1 D I1 q1
end
abbrev TG:=V->St->Hp->(St->Hp->Prop)->Prop
abbrev nt:=List V->St->Hp->(St->Hp->Prop)->Prop
def PG(X:Cx)(target:π)(t:TG):Prop :=
 ∀(pins:List (Ψ×Obj)) (s:Ω) (σ:St) (H:Hp) (v:V) (u:Ξ) (Q:St->Hp->Prop),Inv X pins σ H s->RelV v u->t v σ H Q ->
  wpAny (model X.prog X.w) X.A (assign target X.env u) (λ_ s'=>∃σ' H',Inv X pins σ' H' s'/\Q σ' H') X.xe s
def pq(X:Cx)(ts:List π)(t:nt):Prop :=
 ∀(pins:List (Ψ×Obj)) (s:Ω) (σ:St) (H:Hp) (vs:List V) (us:List Ξ) (Q:St->Hp->Prop),Inv X pins σ H s->Vals vs us->t vs σ H Q ->
  wpAny (model X.prog X.w) X.A (assignInOrder ((assignEach ts X.env).map (·.2)) us) (λ_ s'=>∃σ' H',Inv X pins σ' H' s'/\Q σ' H') X.xe s
abbrev Js:=V->V->V->Hp->(Hp->Prop)->Prop
def RJ(X:Cx)(t:Js):Prop :=
 ∀(pins:List (Ψ×Obj)) (s:Ω) (σ:St) (H:Hp) (o i v:V) (ov iv u:Ξ) (Q:Hp->Prop),Inv X pins σ H s->RelV o ov->RelV i iv->RelV v u->t o i v H Q ->
  wpAny (model X.prog X.w) X.A (setItem ov iv u) (λ_ s'=>∃H',Inv X pins σ H' s'/\Q H') X.xe s
section
variable {X:Cx}{pos:Pos}
def Pj(i:Nat):TG:=λv σ H Q=>Q (σ.set i (ζ v)) H
def ZT{i:Nat}{x:Str}(hN:X.N.Nodup)(hi:X.N[i]? = ζ x)(hx:Loc X.env.scope x)(hf:X.fn x=θ\/X.env.scope.names.lookup x=ζ .local:=by first|exact .inl rfl|exact .inr rfl|assumption):PG X (.Name x pos) (Pj i):=by
 intro pins s σ H v u Q I r h;exact wpAny_assign_Name (CS I hN hi hx r (λs' I'=>⟨_,H,I',h⟩) hf)
def ahB:nt:=λvs σ H Q=>vs=[]/\Q σ H
def ahC(t:TG)(u:nt):nt:=λvs σ H Q=>∃v r,vs=v::r/\t v σ H λσ' H'=>u r σ' H' Q
def ZP:pq X [] ahB:=by
 intro pins s σ H vs us Q I r h;obtain⟨e,h⟩:=h;subst e;cases r;exact assignInOrder_nil ⟨σ,H,I,h⟩
def ZQ{e:π}{es:List π}{t:TG}{u:nt}(h1:PG X e t)(h2:pq X es u)
  (hs:(assignEach (e::es) X.env).map (·.2)=assign e X.env::(assignEach es X.env).map (·.2):=by rfl):pq X (e::es) (ahC t u):=by
 intro pins s σ H vs us Q I r h;obtain⟨v,vr,e1,h⟩:=h;subst e1;cases r with
 |cons r rr =>
  rw[hs];refine assignInOrder_cons (bL (h1 pins s σ H _ _ _ I r h) λ_ s1 ⟨σ1,H1,I1,q1⟩=>?_)
  exact h2 pins s1 σ1 H1 _ _ Q I1 rr q1
def ahz(K:Θ)(n:Nat)(t:nt):TG:=λv σ H Q=>∃a xs,v=.ref a/\cg K H a xs/\xs.length=n/\t xs σ H Q
def ZR{es:List π}{k:Nat}{t:nt}{n:Nat}(hc:X.calm=θ)(h:pq X es t)
  (hn:(assignEach es X.env).length=n:=by rfl) (hst:(assignEach es X.env).findIdx? (·.1)=η:=by rfl):PG X (.Tuple es k pos) (ahz X.K n t):=by
 intro pins s σ H v u Q I r hw;obtain⟨a,xs,e1,hq,hl,hw⟩:=hw;subst e1;cases r;obtain⟨its,rv,ht,hz⟩:=I.tuple hq;refine assign_Tuple_tuple (I.ok.hd hc) ht (by simp[hn,<-hl,rv.length]) hst λh' hx=>?_
 have I1:Inv X pins σ H {s with heap:=h'}:=I.kept (t':=s.toks) λb o e=>hx b o (an0 (anV e)) e
 exact h pins _ σ H xs _ Q I1 (by simpa using rv) hw
def ahA(to ti:TE)(t:Js):TG:=λv σ H Q=>to σ H λo H1=>ti σ H1 λi H2=>t o i v H2 λH3=>Q σ H3
def ZS{o i:π}{to ti:TE}{t:Js}(ho:PE X o to)(hi:PE X i ti)(hs:RJ X t)
  (ha:∀v,assign (.Subscript o i pos) X.env v=(do
   let ov <-holding [v] (eval o X.env)
   let iv <-holding [v,ov] (eval i X.env)
   standAt pos
   holding [v,ov,iv] (setItem ov iv v)
   release [v,ov,iv] []):=by intro _;rfl):PG X (.Subscript o i pos) (ahA to ti t):=by
 intro pins s σ H v u Q I r h;rw[ha];refine anS (ao1 (bL (ho pins s σ H _ I h) λov s1 ⟨x,H1,I1,r1,q1⟩=>?_))
 refine anS (ao1 (bL (hi pins s1 σ H1 _ I1 q1) λiv s2 ⟨y,H2,I2,r2,q2⟩=>?_))
 refine anS (aqC (anS (ao1 (bL (hs pins s2 σ H2 x y v ov iv u _ I2 r1 r2 r q2) λ_ s3 ⟨H3,I3,q3⟩=>?_))))
 exact wpAny_release ⟨σ,H3,I3,q3⟩
def K6(te:TE)(g:TG):TS:=λD σ H=>te σ H λx H1=>g x σ H1 D.nx
def YM{tg e:π}{te:TE}{g:TG}(he:PE X e te)(hg:PG X tg g)(hs:swapsWithSole [tg] e pos.line X.env=pure Δ:=by rfl)(hw:swappedStores [tg] e X.env=pure η:=by rfl)
  (h1:(assignEach [tg] X.env).map (·.2)=[assign tg X.env]:=by rfl):PS X (.Assign [tg] e pos) (K6 te g):=by
 intro pins s σ H D I h;refine wpAny_Assign_stores (bL (he pins s σ H _ I h) λv s1 ⟨x,H1,I1,r1,q1⟩=>?_) hs hw
 rw[h1];exact bL (hg pins s1 σ H1 x v _ I1 r1 q1) λ_ s2 q=>q
def YI{i:Nat}{x:Str}{e:π}{te:TE}{pos':Pos}(hN:X.N.Nodup)(hi:X.N[i]? = ζ x)(hx:Loc X.env.scope x)(he:PE X e te)(hs:swapsWith e (ζ (.Name x pos')) pos.line X.env=pure Δ:=by rfl)(hf:X.fn x=θ\/X.env.scope.names.lookup x=ζ .local:=by first|exact .inl rfl|exact .inr rfl|assumption) :
  PS X (.Assign [.Name x pos'] e pos) (K6 te (Pj i)):=by
 intro pins s σ H D I h;refine wpAny_Assign_Name (bL (he pins s σ H _ I h) λv s1 ⟨y,H1,I1,r1,q1⟩=>?_) hs
 exact CS I1 hN hi hx r1 (λs2 I2=>⟨_,H1,I2,q1⟩) hf
end
structure It where
 go:Nat->Hp->Prop
 vV:Nat->Hp->V->Hp->Prop
 stop:Nat->Hp->Prop
def eG(X:Cx)(pins:List (Ψ×Obj))(H:Hp)(b:Ψ):Prop :=
 H b=η/\b≠X.env.locals/\b∉X.fs/\(b∈X.ex\/X.s₀.heap.objs.size<=b)/\(∀x c,X.env.cells.lookup x=ζ c->c≠b)/\∀p∈X.pn++pins,p.1≠b
def Inv.uH{X:Cx}{pins:List (Ψ×Obj)}{σ:St}{H H':Hp}{s:Ω}{b:Ψ}(I:Inv X pins σ H s)(hb:s.heap.objs.size<=b)(hn:H' b=η):eG X pins H' b:=by
 refine⟨hn,aoK (an5 I.lt hb),I.DC hb,.inr (aom I.sz hb),λx c e z=>?_,λp hp z=>?_⟩
 ·obtain⟨v,q⟩:=I.cell x c e;exact absurd (an5 q.lt (by rw[z];exact hb)) (aot _)
 ·exact absurd (an5 (anV (I.pin p hp).1) (by rw[z];exact hb)) (aot _)
structure Turn (P:τ) (w:ψ) (K:Θ) (tg:π) (J:It) (fp:List Ψ) (it:Ψ) (tn:Nat->υ->Prop):Prop where
 mem:it∈fp
 obj:∀i h,tn i h->∀b∈fp,∃o,h.get? b=ζ o/\∀v,o.data≠.cell v
 keep:∀i h h',tn i h->(∀b∈fp,∀o,h.get? b=ζ o->h'.get? b=ζ o)->tn i h'
 item:∀(X:Cx),X.prog=P->X.w=w->X.K=K->X.calm=θ->∀(i:Nat) (pins:List (Ψ×Obj)) (s:Ω) (σ:St) (H:Hp) (E:Ξ->Ω->Prop),Inv X pins σ H s->(∀b∈fp,eG X pins H b)->tn i s.heap->J.go i H ->
  wpAny (model P w) X.A (pyNext (.ref it)) (λr s1=>∃u,r=ζ u /\
   wpAny (model P w) X.A (letOwnedTupleGo tg (.ref it) u) (λ_ s2=>∃x H',Inv X pins σ H' s2/\RelV x u/\J.vV i H x H'/\tn (i+1) s2.heap/\∀b∈fp,H' b=η) E s1) E s
 done:∀(X:Cx),X.prog=P->X.w=w->X.K=K->X.calm=θ->∀(i:Nat) (pins:List (Ψ×Obj)) (s:Ω) (σ:St) (H:Hp) (E:Ξ->Ω->Prop),Inv X pins σ H s->(∀b∈fp,eG X pins H b)->tn i s.heap->J.stop i H ->
  wpAny (model P w) X.A (pyNext (.ref it)) (λr s1=>r=η/\Inv X pins σ H s1) E s
 self:∀(A:χ) (i:Nat) (s:Ω) (Q:Ξ->Ω->Prop) (E:Ξ->Ω->Prop),tn i s.heap->Q (.ref it) s->wpAny (model P w) A (pyIter (.ref it)) Q E s
abbrev TI:=St->Hp->(It->Hp->Prop)->Prop
def RK(X:Cx)(pins:List (Ψ×Obj))(σ:St)(tg:π)(R:It->Hp->Prop)(itv:Ξ)(s2:Ω):Prop :=
 ∃(it:Ψ) (fp:List Ψ) (tn:Nat->υ->Prop) (J:It) (H':Hp),itv=.ref it/\Inv X pins σ H' s2/\Turn X.prog X.w X.K tg J fp it tn/\tn 0 s2.heap/\(∀b∈fp,eG X pins H' b)/\R J H'
def PI(X:Cx)(tg iter:π)(wi:TI):Prop :=
 ∀(pins:List (Ψ×Obj)) (s:Ω) (σ:St) (H:Hp) (R:It->Hp->Prop),Inv X pins σ H s->wi σ H R ->
  wpAny (model X.prog X.w) X.A (eval iter X.env) (λv s1=>wpAny (model X.prog X.w) X.A (pyIter v) (RK X pins σ tg R) X.xe s1) X.xe s
def Gb{M:Model}{A:χ}{E:Ξ->Ω->Prop}{s:Ω}{tg:π}{it:Ψ}{u:Ξ}{o:Obj}{n:String}{vs:Array Ξ}{Q:Unit->Ω->Prop}(ho:s.heap.get? it=ζ o)(hc:o.cls=.type n)(hd:o.data=.fields vs)
    (hn:["enumerate","zip","dict_itemiterator","dict_reverseitemiterator","odict_iterator","itertools.zip_longest","itertools.pairwise"].contains n=Δ) (hQ:Q () s):wpAny M A (letOwnedTupleGo tg (.ref it) u) Q E s:=by
  unfold letOwnedTupleGo;cases tg<;>first
    | exact anT hQ
    | (cases u<;>first
        | exact anT hQ
        | (refine anS (wpAny_load ho ?_)
           rw[hc,hd];show wpAny M A (if(["enumerate","zip","dict_itemiterator","dict_reverseitemiterator","odict_iterator","itertools.zip_longest","itertools.pairwise"].contains n&&vs[0]? == ζ (rawInt _))=θ then _ else _) Q E s
           rw[if_neg (by intro h;rw[hn,Bool.false_and]at h;cases h)]
           exact anT hQ))
def JB(K:Θ)(a:Ψ):It :=
 ⟨λi H=>∃xs x,bY K H a xs/\xs[i]? = ζ x,λi H x H'=>H'=H/\∀xs,bY K H a xs->xs[i]? = ζ x,λi H=>∃xs,bY K H a xs/\xs.length<=i⟩
def JA(K:Θ)(a:Ψ):It :=
 ⟨λi H=>∃xs x,cg K H a xs/\xs[i]? = ζ x,λi H x H'=>H'=H/\∀xs,cg K H a xs->xs[i]? = ζ x,λi H=>∃xs,cg K H a xs/\xs.length<=i⟩
def yv(lo:Int)(n:Nat):It:=⟨λi _=>i<n,λi H x H'=>H'=H/\x=.int (lo+i),λi _=>n<=i⟩
def UE{P:τ}{w:ψ}{K:Θ}{tg:π}(a it:Ψ):Turn P w K tg (JB K a) [it] it (λi h=>h.IsListIter it a i) where
 mem:=by simp
 obj:=λi h st b hb=>by
  have e:b=it:=by simpa using hb
  subst e;obtain⟨o,e,c,d⟩:=st;exact⟨o,e,λv z=>by rw[d]at z;cases z⟩
 keep:=λi h h' st k=>st.at λo e=>k it (by simp) o e
 item:=by
  intro X hP hw hK hc i pins s σ H E I hf st hg;subst hP hw hK;obtain⟨xs,x,hq,hx⟩:=hg;obtain⟨its,rv,p,hz⟩:=I.list hq;obtain⟨u,hu,ru⟩:=rv.get hx;obtain⟨f0,f1,f2,f3,f4,f5⟩:=hf it (by simp)
  refine wpAny_pyNext_list_item st p.isList (x:=u) (by simpa using hu) λh' st' sb=>?_
  have I1:Inv X pins σ H {s with heap:=h'}:=I.turned (t':=s.toks) (λb o hb e=>(sb.2 b hb).trans e) f0 f1 f3 f4 f5
  obtain⟨o,e,c,d⟩:=id st';exact⟨u,rfl,Gb (s:={s with heap:=h'}) e c d (by decide) ⟨x,H,I1,ru,⟨rfl,λys hy=>by rw[I.NP hy hq];exact hx⟩,st',λb hb=>(hf b hb).1⟩⟩
 done:=by
  intro X hP hw hK hc i pins s σ H E I hf st hg;subst hP hw hK;obtain⟨xs,hq,hx⟩:=hg;obtain⟨its,rv,p,hz⟩:=I.list hq;obtain⟨f0,f1,f2,f3,f4,f5⟩:=hf it (by simp)
  have hl:=rv.length;exact wpAny_pyNext_list_end (I.ok.hd hc) st p.isList (by simp;omega) λh' eb=>⟨rfl,I.turned (t':=s.toks) (λb o hb e=>eb b o hb e) f0 f1 f3 f4 f5⟩
 self:=λ_ _ _ _ _ st h=>wpAny_pyIter_listiter st h
def UC{P:τ}{w:ψ}{K:Θ}{tg:π}(a it:Ψ):Turn P w K tg (JA K a) [it] it (λi h=>h.IsTupleIter it a i) where
 mem:=by simp
 obj:=λi h st b hb=>by
  have e:b=it:=by simpa using hb
  subst e;obtain⟨o,e,c,d⟩:=st;exact⟨o,e,λv z=>by rw[d]at z;cases z⟩
 keep:=λi h h' st k=>st.at λo e=>k it (by simp) o e
 item:=by
  intro X hP hw hK hc i pins s σ H E I hf st hg;subst hP hw hK;obtain⟨xs,x,hq,hx⟩:=hg;obtain⟨its,rv,p,hz⟩:=I.tuple hq;obtain⟨u,hu,ru⟩:=rv.get hx;obtain⟨f0,f1,f2,f3,f4,f5⟩:=hf it (by simp)
  refine wpAny_pyNext_tuple_item st (show s.heap.IsTuple a its.toArray from p) (x:=u) (by simpa using hu) λh' st' sb=>?_
  have I1:Inv X pins σ H {s with heap:=h'}:=I.turned (t':=s.toks) (λb o hb e=>(sb.2 b hb).trans e) f0 f1 f3 f4 f5
  obtain⟨o,e,c,d⟩:=id st';exact⟨u,rfl,Gb (s:={s with heap:=h'}) e c d (by decide) ⟨x,H,I1,ru,⟨rfl,λys hy=>by rw[I.KJ hy hq];exact hx⟩,st',λb hb=>(hf b hb).1⟩⟩
 done:=by
  intro X hP hw hK hc i pins s σ H E I hf st hg;subst hP hw hK;obtain⟨xs,hq,hx⟩:=hg;obtain⟨its,rv,p,hz⟩:=I.tuple hq;obtain⟨f0,f1,f2,f3,f4,f5⟩:=hf it (by simp)
  have hl:=rv.length;exact wpAny_pyNext_tuple_end (I.ok.hd hc) st (show s.heap.IsTuple a its.toArray from p) (by simp;omega) λh' eb=>⟨rfl,I.turned (t':=s.toks) (λb o hb e=>eb b o hb e) f0 f1 f3 f4 f5⟩
 self:=λ_ _ _ _ _ st h=>wpAny_pyIter_tupleiter st h
def UD{P:τ}{w:ψ}{K:Θ}{tg:π}(it:Ψ)(lo:Int)(n:Nat):Turn P w K tg (yv lo n) [it] it (λi h=>IsRangeIter h it (lo+(i:Nat)*1) ((n:Int)-(i:Nat)) 1) where
 mem:=by simp
 obj:=λi h st b hb=>by
  have e:b=it:=by simpa using hb
  subst e;exact⟨_,st,λv z=>by
   have z':Data.fields _=Data.cell v:=z;cases z'⟩
 keep:=λi h h' st k=>k it (by simp) _ st
 item:=by
  intro X hP hw hK hc i pins s σ H E I hf st hg;subst hP hw hK;obtain⟨f0,f1,f2,f3,f4,f5⟩:=hf it (by simp)
  have W:=Walks.range (prog:=X.prog) (w:=X.w) (I.ok.hd hc) it lo 1 n;refine W.item i s _ _ hg st λv h' tk hv st' kk=>?_
  obtain⟨t,rfl⟩:=hv;have I1:Inv X pins σ H {s with heap:=h',toks:=tk}:=I.turned (λb o hb e=>kk b o (by simpa using hb) e) f0 f1 f3 f4 f5
  refine⟨_,rfl,Gb (s:={s with heap:=h',toks:=tk}) (n:="range_iterator") st' rfl rfl (by decide) ⟨.int (lo+i),H,I1,⟨t,?_⟩,⟨rfl,rfl⟩,st',λb hb=>(hf b hb).1⟩⟩
  rw[Int.mul_one]
 done:=by
  intro X hP hw hK hc i pins s σ H E I hf st hg;subst hP hw hK;obtain⟨f0,f1,f2,f3,f4,f5⟩:=hf it (by simp)
  exact wpAny_pyNext_range_end (I.ok.hd hc) st (by have:n<=i:=hg;omega) λh' eb=>⟨rfl,I.turned (t':=s.toks) (λb o hb e=>eb b o hb e) f0 f1 f3 f4 f5⟩
 self:=λ_ _ _ _ _ st h=>wpAny_pyIter_rangeiter st h
section
variable {X:Cx}{tg:π}
def afZ(K:Θ)(tl:TE):TI:=λσ H R=>tl σ H λx H1=>∃a,x=.ref a/\(∃xs,bY K H1 a xs)/\R (JB K a) H1
def afW(K:Θ)(tl:TE):TI:=λσ H R=>tl σ H λx H1=>∃a,x=.ref a/\(∃xs,cg K H1 a xs)/\R (JA K a) H1
def ZN{l:π}{tl:TE}(hl:PE X l tl):PI X tg l (afZ X.K tl):=by
 intro pins s σ H R I h;refine bL (hl pins s σ H _ I h) λv s1 ⟨x,H1,I1,r1,q1⟩=>?_
 obtain⟨a,e,⟨xs,hq⟩,q⟩:=q1;subst e;cases r1;obtain⟨its,rv,p,hz⟩:=I1.list hq;refine ap2 p.isList ?_;refine⟨s1.heap.objs.size,[s1.heap.objs.size],_,_,H1,rfl,I1.kept (t':=s1.toks) λb o e=>anY _ e,UE a _,⟨_,aoc _ rfl,rfl,rfl⟩,λb hb=>?_,q⟩
 have e:b=s1.heap.objs.size:=by simpa using hb
 subst e;exact I1.uH (anU _) (I1.hok.fresh (anU _))
def ZK{l:π}{tl:TE}(hl:PE X l tl):PI X tg l (afW X.K tl):=by
 intro pins s σ H R I h;refine bL (hl pins s σ H _ I h) λv s1 ⟨x,H1,I1,r1,q1⟩=>?_
 obtain⟨a,e,⟨xs,hq⟩,q⟩:=q1;subst e;cases r1;obtain⟨its,rv,p,hz⟩:=I1.tuple hq;refine apn (show s1.heap.IsTuple a its.toArray from p) ?_
 refine⟨s1.heap.objs.size,[s1.heap.objs.size],_,_,H1,rfl,I1.kept (t':=s1.toks) λb o e=>anY _ e,UC a _,⟨_,aoc _ rfl,rfl,rfl⟩,λb hb=>?_,q⟩
 have e:b=s1.heap.objs.size:=by simpa using hb
 subst e;exact I1.uH (anU _) (I1.hok.fresh (anU _))
def LG{pins:List (Ψ×Obj)}{σ:St}{H:Hp}{s:Ω}{R:It->Hp->Prop}{E:Ξ->Ω->Prop}{lo hi:Int}{t u v:Tok}{tk:Nat}(I:Inv X pins σ H s)(h1:-(2^62)<=lo)(h2:lo<2^62)(h3:-(2^62)<=hi)(h4:hi<2^62)
  (q:R (yv lo (hi-lo).toNat) H):wpAny (model X.prog X.w) X.A (pyIter (.ref s.heap.objs.size)) (RK X pins σ tg R) E {s with heap:=s.heap.push {cls:=.type "range",data:=.fields #[.int lo t,.int hi u,.int 1 v]},toks:=tk}:=by
 refine wpAny_pyIter_range (IsRange.new ..) (small_one h1 h2 h3 h4) ?_;have I1:Inv X pins σ H {s with heap:=s.heap.push {cls:=.type "range",data:=.fields #[.int lo t,.int hi u,.int 1 v]},toks:=tk}:=I.kept λb o e=>anY _ e
 refine⟨(s.heap.push {cls:=.type "range",data:=.fields #[.int lo t,.int hi u,.int 1 v]}).objs.size,[(s.heap.push {cls:=.type "range",data:=.fields #[.int lo t,.int hi u,.int 1 v]}).objs.size],_,_,H,rfl,
  I1.kept (t':=tk) λb o e=>anY _ e,UD _ lo (hi-lo).toNat,?_,λb hb=>?_,q⟩
 ·have e1:lo+((0:Nat):Int)*1=lo:=by simp
  have e2:(((hi-lo).toNat:Nat):Int)-((0:Nat):Int)=Builtin.Range.rangeSize lo hi 1:=by rw[rangeSize_one];split<;>omega
  show IsRangeIter _ _ (lo+((0:Nat):Int)*1) ((((hi-lo).toNat:Nat):Int)-((0:Nat):Int)) 1;rw[e1,e2];exact aoc _ rfl
 ·have e:b=(s.heap.push {cls:=.type "range",data:=.fields #[.int lo t,.int hi u,.int 1 v]}).objs.size:=by simpa using hb
  subst e;exact I1.uH (anU _) (I1.hok.fresh (anU _))
def afY(ta:TA):TI:=λσ H R=>ta σ H λvs H1=>∃j:Int,vs=[.int j]/\-(2^62)<=j/\j<2^62/\R (yv 0 j.toNat) H1
def afX(ta:TA):TI:=λσ H R=>ta σ H λvs H1=>∃i j:Int,vs=[.int i,.int j]/\(-(2^62)<=i/\i<2^62/\-(2^62)<=j/\j<2^62)/\R (yv i (j-i).toNat) H1
def ZM{a:π}{ta:TA}{p pos:Pos}(hg:Gl X "range")(hm:X.mg "range"=η)(ha:PA X [a] ta)(hs:μ [a] X.env=[(Δ,eval a X.env)]:=by rfl):PI X tg (.Call (.Name "range" p) [a] [] pos) (afY ta):=by
 intro pins s σ H R I h;refine Call_ (lN I hg hm boot_range (apx (bL (ha pos pins s σ H _ I h) λus s1 ⟨vs,H1,I1,r1,q1⟩=>?_) hs rfl))
 obtain⟨j,e,q1,q2,q⟩:=q1;subst e;cases r1 with
 |cons r rr =>
  cases rr;obtain⟨t,rfl⟩:=r;exact call_range_1 (LG I1 (by omega) (by omega) q1 q2 (by simpa using q))
def ZL{a b:π}{ta:TA}{p pos:Pos}(hg:Gl X "range")(hm:X.mg "range"=η)(ha:PA X [a,b] ta)(hs:μ [a,b] X.env=[(Δ,eval a X.env),(Δ,eval b X.env)]:=by rfl)(hs2:μ [b] X.env=[(Δ,eval b X.env)]:=by rfl) :
  PI X tg (.Call (.Name "range" p) [a,b] [] pos) (afX ta):=by
 intro pins s σ H R I h;refine Call_ (lN I hg hm boot_range (apx (bL (ha pos pins s σ H _ I h) λus s1 ⟨vs,H1,I1,r1,q1⟩=>?_) (by rw[hs,hs2]) (by rw[hs2];rfl)))
 obtain⟨i,j,e,⟨q1,q2,q3,q4⟩,q⟩:=q1;subst e;cases r1 with
 |cons r rr =>
  cases rr with
  |cons r' rr =>
   cases rr;obtain⟨t,rfl⟩:=r;obtain⟨t',rfl⟩:=r';exact call_range_2 (LG I1 q1 q2 q3 q4 q)
def Vh(wi:TI)(g:TG)(tb:TS):TS:=λD σ H=>wi σ H λJ H1=>∃W:Nat->Nat->St->Hp->Prop,(∃m,W 0 m σ H1)/\∀i m σ H,W i m σ H ->
 (J.stop i H/\D.nx σ H)\/(J.go i H/\∃N:St->Hp->Prop,(∀σ' H',N σ' H'->∃m',m'<m/\W (i+1) m' σ' H')/\∀x H',J.vV i H x H'->g x σ H' λσ2 H2=>tb {D with nx:=N,ct:=N,bk:=D.nx} σ2 H2)
def wU(fp:List Ψ)(h:υ):List (Ψ×Obj):=fp.filterMap λb=>(h.get? b).map λo=>(b,o)
def zY{fp:List Ψ}{h:υ}{b:Ψ}{o:Obj}(hb:b∈fp)(e:h.get? b=ζ o):(b,o)∈wU fp h:=apN.mpr ⟨b,hb,by rw[e];rfl⟩
def abn{fp:List Ψ}{h:υ}{p:Ψ×Obj}(hp:p∈wU fp h):p.1∈fp/\h.get? p.1=ζ p.2:=by
 obtain⟨b,hb,e⟩:=apN.mp hp;cases q:h.get? b with
 |none=>rw[q]at e;cases e
 |some o =>
  rw[q]at e;have e':(b,o)=p:=an6 e;subst e';exact⟨hb,q⟩
def Inv.pinned{pins:List (Ψ×Obj)}{σ:St}{H:Hp}{s:Ω}{fp:List Ψ}(I:Inv X pins σ H s)(hf:∀b∈fp,eG X pins H b)(ho:∀b∈fp,∃o,s.heap.get? b=ζ o/\∀v,o.data≠.cell v):Inv X (pins++wU fp s.heap) σ H s :=
 I.wR λp hp=>(aou.mp hp).elim (λz=>I.pin p (aoB _ z)) λz=>by
  obtain⟨hb,e⟩:=abn z;obtain⟨f0,f1,f2,_⟩:=hf p.1 hb;obtain⟨o,e',d⟩:=ho p.1 hb;rw[e]at e';cases e';exact⟨e,f0,f1,f2,d⟩
def Inv.rS{pins pl:List (Ψ×Obj)}{σ:St}{H:Hp}{s:Ω}(I:Inv X (pins++pl) σ H s):Inv X pins σ H s:=I.wR λp hp=>I.pin p (aoB _ (aqB _ hp))
def YL{iter:π}{body:List aar}{wi:TI}{g:TG}{tb:TS}{pos:Pos}(hp:PassesOwn (model X.prog X.w) X.A X.env X.xe)(hc:X.calm=θ)(hi:PI X tg iter wi)(hg:PG X tg g)(hb:fE X body tb)
  (hs:∀x,foldedSetIterable iter X.env x=pure x:=by intro _;rfl):PS X (.For tg iter body [] pos) (Vh wi g tb):=by
 intro pins s σ H D I h;refine wpAny_For (bL (hi pins s σ H _ I h) λv s1 h1=>bL h1 λitv s2 h2=>?_) hs
 obtain⟨it,fp,tn,J,H2,e,I2,T,st2,f2,W,⟨m0,w0⟩,turn⟩:=h2;subst e;have pJ:∀{H':Hp},(∀b∈fp,H' b=η)->∀b∈fp,eG X pins H' b:=λhn b hb=>⟨hn b hb,(f2 b hb).2⟩
 refine codeAny_forLoop_any (λn s'=>∃i σ' H',Inv X pins σ' H' s'/\tn i s'.heap/\(∀b∈fp,H' b=η)/\W i n σ' H') ?_ m0 ⟨0,σ,H2,I2,st2,λb hb=>(f2 b hb).1,w0⟩
 rintro n s3 ⟨i,σ3,H3,I3,st3,Pu,w3⟩
 rcases turn i n σ3 H3 w3 with⟨stop,qn⟩|⟨go,N,hN,step⟩
 ·refine apO hp (bL (T.done X rfl rfl rfl hc i pins s3 σ3 H3 X.xe I3 (pJ Pu) st3 stop) λr s4 ⟨hr,I4⟩=>?_)
  subst hr;exact ap1 ⟨σ3,H3,I4,qn⟩
 ·refine apO hp (bL (T.item X rfl rfl rfl hc i pins s3 σ3 H3 X.xe I3 (pJ Pu) st3 go) λr s4 ⟨u,hr,h4⟩=>?_)
  subst hr;refine apO hp (bL h4 λ_ s5 ⟨x,H5,I5,r5,y5,pL,Av⟩=>?_)
  have I5':=I5.pinned (pJ Av) (T.obj _ _ pL);refine apO hp (bL (hg _ s5 σ3 H5 x u _ I5' r5 (step x H5 y5)) λ_ s6 ⟨SA,H6,I6,q6⟩=>?_)
  refine apO hp (bL (hb _ s6 SA H6 _ I6 q6) λf s7 q7=>?_)
  have again:∀{jm:St}{H7:Hp},Inv X (pins++wU fp s5.heap) jm H7 s7->N jm H7->∃m,m<n/\∃i σ' H',Inv X pins σ' H' s7/\tn i s7.heap/\(∀b∈fp,H' b=η)/\W i m σ' H':=fun{jm H7} I7 n7=>by
   obtain⟨m',hm,w7⟩:=hN jm H7 n7;refine⟨m',hm,i+1,jm,H7,I7.rS,T.keep _ _ _ pL λb hb o e=>(I7.pin (b,o) (aoB _ (aoB _ (zY hb e)))).1,λb hb=>?_,w7⟩
   obtain⟨o,e,d⟩:=T.obj _ _ pL b hb;exact(I7.pin (b,o) (aoB _ (aoB _ (zY hb e)))).2.1
  cases f with
  |next=>obtain⟨jm,H7,I7,n7⟩:=q7;exact again I7 n7
  |cont=>obtain⟨jm,H7,I7,n7⟩:=q7;exact again I7 n7
  |brk=>obtain⟨jm,H7,I7,q7⟩:=q7;exact⟨jm,H7,I7.rS,q7⟩
  |ret v=>obtain⟨x7,jm,H7,I7,r7,q7⟩:=q7;exact⟨x7,jm,H7,I7.rS,r7,q7⟩
end
abbrev R2:=V->V->Hp->VK->Prop
def bS(X:Cx)(f:Ξ->Ξ->Sem Ξ)(r:R2):Prop :=
 ∀(pins:List (Ψ×Obj)) (s:Ω) (σ:St) (H:Hp) (x y:V) (v u:Ξ) (Q:VK),Inv X pins σ H s->RelV x v->RelV y u->r x y H Q ->
  wpAny (model X.prog X.w) X.A (f v u) (EP X pins σ Q) X.xe s
def yk(X:Cx)(f:Ξ->Sem Ξ)(r:V->Hp->VK->Prop):Prop :=
 ∀(pins:List (Ψ×Obj)) (s:Ω) (σ:St) (H:Hp) (x:V) (v:Ξ) (Q:VK),Inv X pins σ H s->RelV x v->r x H Q ->
  wpAny (model X.prog X.w) X.A (f v) (EP X pins σ Q) X.xe s
def eH(X:Cx)(f:Ξ)(r:List V->Hp->VK->Prop):Prop :=
 ∀(pins:List (Ψ×Obj)) (s:Ω) (σ:St) (H:Hp) (xs:List V) (us:List Ξ) (Q:VK),Inv X pins σ H s->Vals xs us->r xs H Q ->
  wpAny (model X.prog X.w) X.A (call f us) (EP X pins σ Q) X.xe s
def alD(X:Cx)(r:V->Hp->(Bool->Hp->Prop)->Prop):Prop :=
 ∀(pins:List (Ψ×Obj)) (s:Ω) (σ:St) (H:Hp) (x:V) (v:Ξ) (Q:Bool->Hp->Prop),Inv X pins σ H s->RelV x v->r x H Q ->
  wpAny (model X.prog X.w) X.A (truthy v) (TP X pins σ Q) X.xe s
def yW(r:R2)(ta tb:TE):TE:=λσ H Q=>ta σ H λx H1=>tb σ H1 λy H2=>r x y H2 Q
def U0(r:V->Hp->VK->Prop)(ta:TE):TE:=λσ H Q=>ta σ H λx H1=>r x H1 Q
def rI(C:Int->Int->Prop)(g:Int->Int->V):R2:=λx y H Q=>∃i j,x=.int i/\y=.int j/\C i j/\Q (g i j) H
def ko(g:Int->Int->V):R2:=λx y H Q=>∃i j,x=.int i/\y=.int j/\Q (g i j) H
def rU(g:Int->V):V->Hp->VK->Prop:=λx H Q=>∃i,x=.int i/\Q (g i) H
section
variable {X:Cx}{a b c:π}{ta tb tc:TE}{pos:Pos}
def Jh(ha:PE X a ta)(hb:PE X b tb){pins:List (Ψ×Obj)}{s:Ω}{σ:St}{H:Hp}{R:V->V->Hp->Prop}(I:Inv X pins σ H s)
  (h:ta σ H λx H1=>tb σ H1 λy H2=>R x y H2) {Q:Ξ->Ω->Prop}{f:Ξ->Ξ->Sem Ξ}
  (hf:∀v u s2 x y H2,Inv X pins σ H2 s2->RelV x v->RelV y u->R x y H2->wpAny (model X.prog X.w) X.A (f v u) Q X.xe s2) :
  wpAny (model X.prog X.w) X.A (eval a X.env) (λv s₁=>wpAny (model X.prog X.w) X.A (eval b X.env) (λu s₂=>wpAny (model X.prog X.w) X.A (f v u) Q X.xe s₂) X.xe s₁) X.xe s:=by
 refine bL (ha pins s σ H _ I h) λv s1 ⟨x,H1,I1,r1,q1⟩=>?_
 refine bL (hb pins s1 σ H1 _ I1 q1) λu s2 ⟨y,H2,I2,r2,q2⟩=>?_
 exact hf v u s2 x y H2 I2 r1 r2 q2
def LU{op:Operator}{r:R2}(ho:bS X (binaryOp op) r)(ha:PE X a ta)(hb:PE X b tb):PE X (.BinOp a op b pos) (yW r ta tb):=by
 intro pins s σ H Q I h;exact wpAny_BinOp (Jh ha hb I h λv u s2 x y H2 I2 rx ry q=>ho pins s2 σ H2 x y v u Q I2 rx ry q)
def ZV{op:UnaryOp}{r:V->Hp->VK->Prop}(ho:yk X (unaryOp op) r)(ha:PE X a ta):PE X (.UnaryOp op a pos) (U0 r ta):=by
 intro pins s σ H Q I h;exact UnaryOp_ (bL (ha pins s σ H _ I h) λv s1 ⟨x,H1,I1,r1,q1⟩=>ho pins s1 σ H1 x v Q I1 r1 q1)
def zH{f:Ξ->Ξ->Sem Ξ}{C:Int->Int->Prop}{g:Int->Int->Int}
  (rule:∀(i j:Int) (t u:Tok) (s:Ω) (Q:Ξ->Ω->Prop) (E:Ξ->Ω->Prop),C i j->Q (.int (g i j) s.toks) {s with toks:=s.toks+1}->wpAny (model X.prog X.w) X.A (f (.int i t) (.int j u)) Q E s) :
  bS X f (rI C λi j=>.int (g i j)):=by
 intro pins s σ H x y v u Q I rx ry h;obtain⟨i,j,rfl,rfl,hc,q⟩:=h;obtain⟨t,rfl⟩:=rx;obtain⟨t',rfl⟩:=ry;exact rule i j t t' s _ _ hc ⟨.int (g i j),H,I.tok _,⟨_,rfl⟩,q⟩
def Ds{f:Ξ->Ξ->Sem Ξ}{g:Int->Int->Int}
  (rule:∀(i j:Int) (t u:Tok) (s:Ω) (Q:Ξ->Ω->Prop) (E:Ξ->Ω->Prop),Q (.int (g i j) s.toks) {s with toks:=s.toks+1}->wpAny (model X.prog X.w) X.A (f (.int i t) (.int j u)) Q E s) :
  bS X f (ko λi j=>.int (g i j)):=by
 intro pins s σ H x y v u Q I rx ry h;obtain⟨i,j,rfl,rfl,q⟩:=h;obtain⟨t,rfl⟩:=rx;obtain⟨t',rfl⟩:=ry;exact rule i j t t' s _ _ ⟨.int (g i j),H,I.tok _,⟨_,rfl⟩,q⟩
def zI{f:Ξ->Ξ->Sem Ξ}{g:Int->Int->Bool}
  (rule:∀(i j:Int) (t u:Tok) (s:Ω) (Q:Ξ->Ω->Prop) (E:Ξ->Ω->Prop),Q (.bool (g i j)) s->wpAny (model X.prog X.w) X.A (f (.int i t) (.int j u)) Q E s) :
  bS X f (ko λi j=>.bl (g i j)):=by
 intro pins s σ H x y v u Q I rx ry h;obtain⟨i,j,rfl,rfl,q⟩:=h;obtain⟨t,rfl⟩:=rx;obtain⟨t',rfl⟩:=ry;exact rule i j t t' s _ _ ⟨.bl (g i j),H,I,rfl,q⟩
def alS(i j:Int):Prop:=0<j/\j<1073741824
def alR(i j:Int):Prop:=0<=j/\j<=1000000/\i.natAbs<2^64
def JK(i j:Int):Prop:=(-(2^64)<i/\i<2^64)\/(-(2^64)<j/\j<2^64)
def JK.ok{i j:Int}(h:JK i j):IntMulOk i j:=by
 rcases h with⟨h1,h2⟩|⟨h1,h2⟩
 ·exact .of_left (intBits_le_64 h1 h2)
 ·exact .of_right (intBits_le_64 h1 h2)
def aaQ:bS X (binaryOp .Add) (ko λi j=>.int (i+j)):=Ds λ_ _ _ _ _ _ _ q=>add_int q
def aaw:bS X (binaryOp .Sub) (ko λi j=>.int (i-j)):=Ds λ_ _ _ _ _ _ _ q=>sub_int q
def aaC:bS X (binaryOp .Mult) (rI JK λi j=>.int (i*j)):=zH λ_ _ _ _ _ _ _ hc q=>mul_int q hc.ok
def aaJ:bS X (binaryOp .FloorDiv) (rI alS λi j=>.int (i/j)):=zH λi j _ _ _ _ _ hc q=>by
 have h1:(0:Int)<j:=hc.1;have h2:j<1073741824:=hc.2;exact floordiv_int (by omega) (by rw[Int.fdiv_eq_ediv_of_nonneg i (by omega)];exact q) (.inl (PyProof.noPylong_small (by omega)))
def aaD:bS X (binaryOp .Mod) (rI (λ_ j=>0<j) λi j=>.int (i % j)):=zH λi j _ _ _ _ _ hc q=>by
 have h1:(0:Int)<j:=hc;exact mod_int' (by omega) (by rw[Int.fmod_eq_emod_of_nonneg i (by omega)];exact q)
def aaz:bS X (binaryOp .Pow) (rI alR λi j=>.int (i^j.toNat)):=zH λ_ _ _ _ _ _ _ hc q=>pow_int_small hc.1 hc.2.1 hc.2.2 q
def aaO:bS X (binaryOp .BitAnd) (ko λi j=>.int (Builtin.bitAnd i j)):=Ds λ_ _ _ _ _ _ _ q=>and_int q
def Uv{f:Ξ->Sem Ξ}{g:Int->Int}
  (rule:∀(i:Int) (t:Tok) (s:Ω) (Q:Ξ->Ω->Prop) (E:Ξ->Ω->Prop),Q (.int (g i) s.toks) {s with toks:=s.toks+1}->wpAny (model X.prog X.w) X.A (f (.int i t)) Q E s) :
  yk X f (rU λi=>.int (g i)):=by
 intro pins s σ H x v Q I rx h;obtain⟨i,rfl,q⟩:=h;obtain⟨t,rfl⟩:=rx;exact rule i t s _ _ ⟨.int (g i),H,I.tok _,⟨_,rfl⟩,q⟩
def Uu:yk X (unaryOp .USub) (rU λi=>.int (-i)):=Uv λ_ _ _ _ _ q=>neg_int q
end
def C5:V->V->Bool
 |.aF,.aF=>θ|.aF,.int _=>θ|.int _,.aF=>θ|.aF,.bl _=>θ|.bl _,.aF=>θ|.aF,.str _=>θ|.str _,.aF=>θ
 |.int _,.int _=>θ|.bl _,.bl _=>θ|.str _,.str _=>θ|.jg _,.jg _=>θ
 |.int _,.str _=>θ|.str _,.int _=>θ|.bl _,.str _=>θ|.str _,.bl _=>θ
 |_,_=>Δ
def Yj:R2:=λx y H Q=>C5 x y=θ/\Q (.bl (decide (x=y))) H
def Yb:R2:=λx y H Q=>C5 x y=θ/\Q (.bl (!decide (x=y))) H
def Qf{i j:Int}:decide (V.int i=V.int j)=(i==j):=by
 rw[ao8];simp
def Qh{i j:Bool}:decide (V.bl i=V.bl j)=(i==j):=by
 rw[ao8];simp
def Qe{i j:Str}:decide (V.str i=V.str j)=(i==j):=by
 rw[ao8];simp
def Qg{i j:Array UInt8}:decide (V.jg i=V.jg j)=(i.toList==j.toList):=by
 rw[ao8];cases i;cases j;simp
section
variable {X:Cx}{a b c:π}{ta tb tc:TE}{pos:Pos}
def dM{pins:List (Ψ×Obj)}{σ:St}{H:Hp}{s:Ω}{Q:VK}{k k':Bool}(I:Inv X pins σ H s)(q:Q (.bl k) H)(e:k=k'):EP X pins σ Q (.bool k') s:=by
 subst e;exact⟨.bl k,H,I,rfl,q⟩
def aaK:bS X (compareOp .Eq) Yj:=by
 intro pins s σ H x y v u Q I rx ry h;obtain⟨hs,q⟩:=h;cases x with
 |aF =>
  cases rx;cases y with
  |aF=>cases ry;exact PySem.EqNone.eq_none_none (dM I q (by simp))
  |bl j=>cases ry;exact PySem.EqNone.eq_none_bool (dM I q (by simp))
  |int j=>obtain⟨t',rfl⟩:=ry;exact PySem.EqNone.eq_none_int (dM I q (by simp))
  |str j=>obtain⟨t',rfl⟩:=ry;exact PySem.EqNone.eq_none_str (dM I q (by simp))
  |_=>exact absurd (show Δ=θ from hs) aoi
 |bl i =>
  cases rx;cases y with
  |aF=>cases ry;exact PySem.EqNone.eq_bool_none (dM I q (by simp))
  |bl j=>cases ry;exact eq_bool (dM I q Qh)
  |str j=>obtain⟨t',rfl⟩:=ry;exact PySem.EqMixed.eq_bool_str (dM I q (by simp))
  |_=>exact absurd (show Δ=θ from hs) aoi
 |int i =>
  obtain⟨t,rfl⟩:=rx;cases y with
  |aF=>cases ry;exact PySem.EqNone.eq_int_none (dM I q (by simp))
  |int j=>obtain⟨t',rfl⟩:=ry;exact eq_int (dM I q Qf)
  |str j=>obtain⟨t',rfl⟩:=ry;exact PySem.EqMixed.eq_int_str (dM I q (by simp))
  |_=>exact absurd (show Δ=θ from hs) aoi
 |str i =>
  obtain⟨t,rfl⟩:=rx;cases y with
  |aF=>cases ry;exact PySem.EqNone.eq_str_none (dM I q (by simp))
  |bl j=>cases ry;exact PySem.EqMixed.eq_str_bool (dM I q (by simp))
  |int j=>obtain⟨t',rfl⟩:=ry;exact PySem.EqMixed.eq_str_int (dM I q (by simp))
  |str j=>obtain⟨t',rfl⟩:=ry;exact eq_str (dM I q Qe)
  |_=>exact absurd (show Δ=θ from hs) aoi
 |jg i =>
  obtain⟨t,rfl⟩:=rx;cases y with
  |jg j=>obtain⟨t',rfl⟩:=ry;exact PySem.W.eq_bytes (dM I q Qg)
  |_=>exact absurd (show Δ=θ from hs) aoi
 |_=>cases y<;>exact absurd (show Δ=θ from hs) aoi
def aaB:bS X (compareOp .NotEq) Yb:=by
 intro pins s σ H x y v u Q I rx ry h;obtain⟨hs,q⟩:=h;cases x with
 |aF =>
  cases rx;cases y with
  |aF=>cases ry;exact PySem.EqNone.ne_none_none (dM I q (by simp))
  |bl j=>cases ry;exact PySem.EqNone.ne_none_bool (dM I q (by simp))
  |int j=>obtain⟨t',rfl⟩:=ry;exact PySem.EqNone.ne_none_int (dM I q (by simp))
  |str j=>obtain⟨t',rfl⟩:=ry;exact PySem.EqNone.ne_none_str (dM I q (by simp))
  |_=>exact absurd (show Δ=θ from hs) aoi
 |bl i =>
  cases rx;cases y with
  |aF=>cases ry;exact PySem.EqNone.ne_bool_none (dM I q (by simp))
  |bl j=>cases ry;exact ne_bool (dM I q (congrArg not Qh))
  |str j=>obtain⟨t',rfl⟩:=ry;exact PySem.EqMixed.ne_bool_str (dM I q (by simp))
  |_=>exact absurd (show Δ=θ from hs) aoi
 |int i =>
  obtain⟨t,rfl⟩:=rx;cases y with
  |aF=>cases ry;exact PySem.EqNone.ne_int_none (dM I q (by simp))
  |int j=>obtain⟨t',rfl⟩:=ry;exact ne_int (dM I q (congrArg not Qf))
  |str j=>obtain⟨t',rfl⟩:=ry;exact PySem.EqMixed.ne_int_str (dM I q (by simp))
  |_=>exact absurd (show Δ=θ from hs) aoi
 |str i =>
  obtain⟨t,rfl⟩:=rx;cases y with
  |aF=>cases ry;exact PySem.EqNone.ne_str_none (dM I q (by simp))
  |bl j=>cases ry;exact PySem.EqMixed.ne_str_bool (dM I q (by simp))
  |int j=>obtain⟨t',rfl⟩:=ry;exact PySem.EqMixed.ne_str_int (dM I q (by simp))
  |str j=>obtain⟨t',rfl⟩:=ry;exact ne_str (dM I q (congrArg not Qe))
  |_=>exact absurd (show Δ=θ from hs) aoi
 |jg i =>
  obtain⟨t,rfl⟩:=rx;cases y with
  |jg j=>obtain⟨t',rfl⟩:=ry;exact PySem.W.ne_bytes (dM I q (congrArg not Qg))
  |_=>exact absurd (show Δ=θ from hs) aoi
 |_=>cases y<;>exact absurd (show Δ=θ from hs) aoi
def aaE:bS X (compareOp .Lt) (ko λi j=>.bl (decide (i<j))):=zI λ_ _ _ _ _ _ _ q=>lt_int q
def aaF:bS X (compareOp .LtE) (ko λi j=>.bl (decide (i<=j))):=zI λ_ _ _ _ _ _ _ q=>le_int q
def aaH:bS X (compareOp .Gt) (ko λi j=>.bl (decide (j<i))):=zI λ_ _ _ _ _ _ _ q=>gt_int q
def aaI:bS X (compareOp .GtE) (ko λi j=>.bl (decide (j<=i))):=zI λ_ _ _ _ _ _ _ q=>ge_int q
def aaG:bS X (compareOp .Is) (λx y H Q=>y=.aF/\Q (.bl (decide (x=.aF))) H):=by
 intro pins s σ H x y v u Q I rx ry h;obtain⟨rfl,q⟩:=h;cases ry;refine is_none_gen (dM I q ?_);cases x<;>first
  |(cases rx;rfl)
  |(obtain⟨t,rfl⟩:=rx;rfl)
def aaA:bS X (compareOp .IsNot) (λx y H Q=>y=.aF/\Q (.bl (!decide (x=.aF))) H):=by
 intro pins s σ H x y v u Q I rx ry h;obtain⟨rfl,q⟩:=h;cases ry;refine isnot_none_gen (dM I q ?_);cases x<;>first
  |(cases rx;rfl)
  |(obtain⟨t,rfl⟩:=rx;rfl)
def MK(b:π){op:CmpOp}(h:op≠.In:=by decide)(h2:op≠.NotIn:=by decide):behindInMarks op b=Δ:=by
 have e1:(op==CmpOp.In)=Δ:=by cases op<;>first|rfl|exact absurd rfl h
 have e2:(op==CmpOp.NotIn)=Δ:=by cases op<;>first|rfl|exact absurd rfl h2
 cases b<;>simp[behindInMarks,e1,e2]
def Z6{op:CmpOp}{r:R2}(ho:bS X (compareOp op) r)(ha:PE X a ta)(hb:PE X b tb)(hm:behindInMarks op b=Δ):PE X (.Compare a [op] [b] pos) (yW r ta tb):=by
 intro pins s σ H Q I h;exact wpAny_Compare1 (Jh ha hb I h λv u s2 x y H2 I2 rx ry q=>ho pins s2 σ H2 x y v u Q I2 rx ry q) hm
def U3(t:TE):TT:=λσ H Q=>t σ H λx H'=>∃k,x=.bl k/\Q k H'
def YB{op:CmpOp}{r:R2}(ho:bS X (compareOp op) r)(ha:PE X a ta)(hb:PE X b tb)(hm:behindInMarks op b=Δ):PT X (.Compare a [op] [b] pos) (U3 (yW r ta tb)):=by
 intro pins s σ H Q I h;refine wpAny_isTrue_Compare1 (bL (ha pins s σ H _ I h) λv s1 ⟨x,H1,I1,r1,q1⟩=>bL (hb pins s1 σ H1 _ I1 q1) λu s2 ⟨y,H2,I2,r2,q2⟩ =>
  bL (ho pins s2 σ H2 x y v u _ I2 r1 r2 q2) λc s3 ⟨z,H3,I3,r3,k,e,q3⟩=>?_) hm
 subst e;cases r3;exact apm ⟨H3,I3,q3⟩
def Vk(r r':R2)(ta tb tc:TE):TE:=λσ H Q=>ta σ H λx H1=>tb σ H1 λy H2=>r x y H2 λz H3=>∃k,z=.bl k /\
 (if k=θ then tc σ H3 λw' H4=>r' y w' H4 Q else Q (.bl Δ) H3)
def Z7{op op':CmpOp}{r r':R2}(ho:bS X (compareOp op) r)(ho':bS X (compareOp op') r')(ha:PE X a ta)(hb:PE X b tb)(hc:PE X c tc)
  (hm:lastMarks [op,op'] [b,c]=Δ:=by with_unfolding_all rfl):PE X (.Compare a [op,op'] [b,c] pos) (Vk r r' ta tb tc):=by
 intro pins s σ H Q I h;refine Compare_chain (bL (ha pins s σ H _ I h) λv s1 ⟨x,H1,I1,r1,q1⟩=>chain_link (bL (hb pins s1 σ H1 _ I1 q1) λu s2 ⟨y,H2,I2,r2,q2⟩ =>
  bL (ho pins s2 σ H2 x y v u _ I2 r1 r2 q2) λd s3 ⟨z,H3,I3,r3,k,e,q3⟩=>?_)) hm
 subst e;cases r3;refine apm ?_;cases k with
 |false=>exact ite_ff ⟨.bl Δ,H3,I3,rfl,q3⟩
 |true=>exact ite_tt (chain_last (bL (hc pins s3 σ H3 _ I3 q3) λw' s4 ⟨z',H4,I4,r4,q4⟩=>ho' pins s4 σ H4 y z' u w' Q I4 r2 r4 q4))
def Jr(K:Θ)(x:V)(H:Hp)(k:Bool):Prop :=
 match x with
 |.aF=>k=Δ
 |.bl b=>k=b
 |.int i=>k=(i != 0)
 |.str y=>y.length<=ε/\k=((y.length:Int) != 0)
 |.jg y=>y.size<=ε/\k=((y.size:Int) != 0)
 |.ref p=>(∃xs,bY K H p xs/\k = !xs.isEmpty)\/(∃xs,cg K H p xs/\k = !xs.isEmpty)\/∃kvs,H p=ζ (.dK kvs)/\k = !kvs.isEmpty
 |_=>False
def afM{κ:Type}{kvs:List (κ×V)}{vs:List (κ×Ξ)}(r:KV kvs vs):(!vs.isEmpty) = !kvs.isEmpty:=by
 cases r<;>rfl
def Oa{xs:List V}{its:List Ξ}(r:Vals xs its):(!its.toArray.isEmpty) = !xs.isEmpty:=by
 cases r<;>simp
def uz:(ε:Nat)<2^63:=by rw[aoT];decide
def UI:alD X (λx H Q=>∃k,Jr X.K x H k/\Q k H):=by
 intro pins s σ H x v Q I rx h;obtain⟨k,e,q⟩:=h;have hl:=uz;have hs:ε=16777216:=aoT;cases x with
 |aF =>
  cases rx;have e':k=Δ:=e;subst e';exact truthy_none ⟨H,I,q⟩
 |bl b =>
  cases rx;have e':k=b:=e;subst e';exact apm ⟨H,I,q⟩
 |int i =>
  obtain⟨t,rfl⟩:=rx;have e':k=(i != 0):=e;subst e';exact PySem.P.truthy_int ⟨H,I,q⟩
 |str y =>
  obtain⟨t,rfl⟩:=rx;obtain⟨hy,e'⟩:y.length<=ε/\k=((y.length:Int) != 0):=e;subst e';exact PySem.P.truthy_str (by omega) ⟨H,I.tok _,q⟩
 |jg y =>
  obtain⟨t,rfl⟩:=rx;obtain⟨hy,e'⟩:y.size<=ε/\k=((y.size:Int) != 0):=e;subst e';exact PySem.W.truthy_bytes (by omega) ⟨H,I.tok _,q⟩
 |ref p =>
  cases rx;have e':(∃xs,bY X.K H p xs/\k = !xs.isEmpty)\/(∃xs,cg X.K H p xs/\k = !xs.isEmpty)\/∃kvs,H p=ζ (.dK kvs)/\k = !kvs.isEmpty:=e
  rcases e' with⟨xs,hx,e'⟩|⟨xs,hx,e'⟩|⟨kvs,hx,e'⟩
  ·subst e';obtain⟨its,r,pl,hz⟩:=I.list hx;have hlen:=r.length;exact wpAny_truthy_list pl.isList (by simp only[an3];omega) ⟨H,I.tok _,by rw[Oa r];exact q⟩
  ·subst e';obtain⟨its,r,pl,hz⟩:=I.tuple hx;have hlen:=r.length;exact truthy_tuple pl (by simp only[an3];omega) ⟨H,I.tok _,by rw[Oa r];exact q⟩
  ·subst e';obtain⟨hz,hS,vs,r,m⟩:kvs.length<=ε/\(p==sysModules)=Δ/\∃vs,KV kvs vs/\s.heap.DictOf (DL X.prog X.w) p vs:=I.hok p _ hx;have hlen:kvs.length=vs.length:=Paired.length r;exact wpAny_truthy_dict hS m (by omega) ⟨H,I.tok _,by rw[afM r];exact q⟩
 |_=>exact(show False from e).elim
def Yz(ha:PE X a ta)(he:∀whole,isTrue a X.env whole=(do let v <-whole;standAt a.pos;holding [v] (truthy v))) :
  PT X a (λσ H Q=>ta σ H λx H'=>∃k,Jr X.K x H' k/\Q k H'):=by
 intro pins s σ H Q I h;exact isTrue_plain (bL (ha pins s σ H _ I h) λv s1 ⟨x,H1,I1,r1,q1⟩=>UI pins s1 σ H1 x v Q I1 r1 q1) (he _)
def aaP:bS X (binaryOp .Add) (λx y H Q=>∃i j,x=.str i/\y=.str j/\i.length+j.length<=ε/\Q (.str (i++j)) H):=by
 intro pins s σ H x y v u Q I rx ry h;obtain⟨i,j,rfl,rfl,hz,q⟩:=h;obtain⟨t,rfl⟩:=rx;obtain⟨t',rfl⟩:=ry;exact add_str (λt' tk=>⟨.str (i++j),H,I.tok _,⟨_,rfl⟩,q⟩) hz
def vals1{x:V}{us:List Ξ}(r:Vals [x] us):∃u,us=[u]/\RelV x u:=by
 cases r with
 |cons r1 r2=>cases r2;exact⟨_,rfl,r1⟩
def vals2{x y:V}{us:List Ξ}(r:Vals [x,y] us):∃u w',us=[u,w']/\RelV x u/\RelV y w':=by
 cases r with
 |cons r1 r2 =>
  cases r2 with
  |cons r3 r4=>cases r4;exact⟨_,_,rfl,r1,r3⟩
def akh(hc:X.calm=θ):eH X (.builtin "max") (λxs H Q=>∃i j,xs=[.int i,.int j]/\Q (.int (if j>i then j else i)) H):=by
 intro pins s σ H xs us Q I r h;obtain⟨i,j,rfl,q⟩:=h;obtain⟨u,w',rfl,⟨t,rfl⟩,⟨t',rfl⟩⟩:=vals2 r;refine max_two_ints (I.ok.hd hc) λh' tk k=>⟨_,H,I.kept k,?_,q⟩
 by_cases hj:j>i
 ·rw[if_pos hj,if_pos hj];exact⟨_,rfl⟩
 ·rw[if_neg hj,if_neg hj];exact⟨_,rfl⟩
def akg(hc:X.calm=θ):eH X (.builtin "min") (λxs H Q=>∃i j,xs=[.int i,.int j]/\Q (.int (if j<i then j else i)) H):=by
 intro pins s σ H xs us Q I r h;obtain⟨i,j,rfl,q⟩:=h;obtain⟨u,w',rfl,⟨t,rfl⟩,⟨t',rfl⟩⟩:=vals2 r;refine min_two_ints (I.ok.hd hc) λh' tk k=>⟨_,H,I.kept k,?_,q⟩
 by_cases hj:j<i
 ·rw[if_pos hj,if_pos hj];exact⟨_,rfl⟩
 ·rw[if_neg hj,if_neg hj];exact⟨_,rfl⟩
def Ri:eH X (.type "int") (λxs H Q=>(∃i,xs=[.int i]/\Q (.int i) H)\/∃k,xs=[.bl k]/\Q (.int (if k then 1 else 0)) H):=by
 intro pins s σ H xs us Q I r h
 rcases h with⟨i,rfl,q⟩|⟨k,rfl,q⟩
 ·obtain⟨u,rfl,t,rfl⟩:=vals1 r;exact call_int_int ⟨.int i,H,I,⟨_,rfl⟩,q⟩
 ·obtain⟨u,rfl,r1⟩:=vals1 r;cases r1;exact call_int_bool ⟨.int (if k then 1 else 0),H,I.tok _,⟨_,rfl⟩,q⟩
end
structure Jx (h:υ) (x dx C:Ψ) (mA:Str->Option Ξ):Prop where
 obj:h.get? x=ζ (PySem.W.instObj C dx)
 ns:h.Ns1 dx mA
 ne:dx≠x
def aeq{h:υ}{dx:Ψ}{mA:Str->Option Ξ}(n:h.Ns1 dx mA):∃od,h.get? dx=ζ od/\∀name,PySem.W.lookIn name od=ζ (mA name):=by
 obtain⟨o,es,ep,ho,hd,hk,_,hm⟩:=n;refine⟨o,ho,λname=>?_⟩
 have e:=hm name;unfold nsFind findBy at e;rw[<-Array.find?_toList]at e;unfold PySem.W.lookIn;rw[hd];dsimp only;split
 ·rename_i y q;rw[q]at e;exact congrArg ζ e
 ·rename_i q;rw[q]at e;have a:es.toList.any (·.refKey)=Δ:=by
   rw[arv];intro y hy;obtain⟨z,t,hkey⟩:=hk y (Array.mem_toList_iff.mp hy);simp[DictEntry.refKey,hkey]
  have a':¬es.toList.any (·.refKey)=θ:=by rw[a];exact aoi
  rw[if_neg a'];exact congrArg ζ e
def Jx.look{h:υ}{x dx C:Ψ}{mA:Str->Option Ξ}(I:Jx h x dx C mA):∃od,PySem.W.InstAt h x (PySem.W.instObj C dx) C (ζ od)/\∀name,PySem.W.lookIn name od=ζ (mA name) :=
 let⟨od,ho,hl⟩:=aeq I.ns
 ⟨od,⟨I.obj,rfl,rfl,ho⟩,hl⟩
section
variable {P:τ}{w:ψ}{H H':Hp}{h h':υ}{a C dx:Ψ}{fs fs':List (Str×V)}
def afS(hok:cQ P w H h)(e:H a=ζ (.ins C dx fs)):∃mA,Jx h a dx C mA/\(∀f,Jt (fs.lookup f) (mA f))/\PySem.Within mA (fs.map (·.1))/\fs.length<=1000/\H dx=ζ (.own a):=by
 obtain⟨d,z,ne,ob,mA,n,r,q⟩:=(show fc P w H h a (.ins C dx fs)from hok a _ e)
 exact⟨mA,⟨ob,n,ne⟩,r,q,z,d⟩
end
structure JI (K:Θ) (C:Ψ):Prop where
 pg:PySem.W.plainGet K C Str.empty=θ
 hd:PySem.W.hasDictIn K C=θ
 po:PySem.W.plainOver K C=θ
 sa:PySem.W.findIn K (.ref C) "__setattr__"=ζ (ζ (.builtin "object.__setattr__"))
def JI.get{K:Θ}{C:Ψ}(c:JI K C)(f:Str):PySem.W.plainGet K C f=θ:=c.pg
section
variable {X:Cx}{pins:List (Ψ×Obj)}{σ:St}{H:Hp}{s:Ω}{A:χ}{E:Ξ->Ω->Prop}{Q:Ξ->Ω->Prop}{c:Ξ}{b:Bool}
inductive jh (K:Θ) (H:Hp):V->Ξ->Prop where
 |aF:jh K H .aF (.type "NoneType")
 |bl (x:Bool):jh K H (.bl x) (.type "bool")
 |int (i:Int):jh K H (.int i) (.type "int")
 |str (x:Str):jh K H (.str x) (.type "str")
 |uI (x:UInt64):jh K H (.uI x) (.type "float")
 |lst {a:Ψ}{xs:List V}(e:H a=ζ (.lst xs)):jh K H (.ref a) (.type "list")
 |cT {a:Ψ}{o:Obj}{xs:List V}(e:H a=ζ (.cT o (.lst xs))):jh K H (.ref a) (.type "list")
 |tup {a:Ψ}{xs:List V}(e:H a=ζ (.tup xs)):jh K H (.ref a) (.type "tuple")
 |dK {a:Ψ}{kvs:List (Key×V)}(e:H a=ζ (.dK kvs)):jh K H (.ref a) (.type "dict")
 |dT {a:Ψ}{kvs:List (List Key×V)}(e:H a=ζ (.dT kvs)):jh K H (.ref a) (.type "dict")
 |ins {a C dx:Ψ}{fs:List (Str×V)}(e:H a=ζ (.ins C dx fs)) (cl:JI K C) (ha:PySem.W.findIn K (.ref C) "__class__"=ζ (ζ (.builtin "object.__class__")))
   (hn:PySem.W.specialIn K (.builtin "object.__class__") "__get__"=ζ (ζ (.builtin "getset_descriptor.__get__"))) (htk:PySem.W.takesIn K (.builtin "object.__class__")=ζ θ)
   (hm:PySem.W.mroIn K C (.type "object")=ζ θ):jh K H (.ref a) (.ref C)
def afK{x:V}{u t:Ξ}(I:Inv X pins σ H s)(rx:RelV x u)(ty:jh X.K H x t)(e:PySem.W.kitOne X.K t c=ζ b)(h:∀tk,Q (.bool b) {s with toks:=tk}) :
  wpAny (model X.prog X.w) A (call (.builtin "isinstance") [u,c]) Q E s:=by
 cases ty with
 |aF=>cases(show u=Value.none from rx);exact aoG PySem.W.kitx_none I.eB True.intro e (λz=>nomatch z) h
 |bl y=>cases(show u=Value.bool y from rx);exact aoG PySem.W.kitx_bool I.eB True.intro e (λz=>nomatch z) h
 |int i=>obtain⟨t,q⟩:=(show ∃t,u=Value.int i t from rx);cases q;exact aoG PySem.W.kitx_int I.eB True.intro e (λz=>nomatch z) h
 |str y=>obtain⟨t,q⟩:=(show ∃t,u=Value.str y t from rx);cases q;exact aoG PySem.W.kitx_str I.eB True.intro e (λz=>nomatch z) h
 |uI y=>obtain⟨t,q⟩:=(show ∃t,u=Value.float y t from rx);cases q;exact aoG PySem.W.kitx_float I.eB True.intro e (λz=>nomatch z) h
 | @lst a xs ea =>
  cases(show u=Value.ref a from rx)
  obtain⟨_,_,n,_,h1⟩:=(show fc X.prog X.w H s.heap a (.lst xs)from I.hok a _ ea)
  exact aoG arw I.eB ⟨_,h1,rfl⟩ e (λz=>nomatch z) h
 | @cT a ob xs ea =>
  cases(show u=Value.ref a from rx)
  obtain⟨_,_,_,n,_,h1⟩:=(show fc X.prog X.w H s.heap a (.cT ob (.lst xs))from I.hok a _ ea)
  exact aoG arw I.eB ⟨_,h1,rfl⟩ e (λz=>nomatch z) h
 | @tup a xs ea =>
  cases(show u=Value.ref a from rx)
  obtain⟨_,_,_,p⟩:=(show fc X.prog X.w H s.heap a (.tup xs)from I.hok a _ ea)
  obtain⟨o,h1,h2,_⟩:=p;exact aoG PySem.W.kitx_tuple I.eB ⟨o,h1,h2⟩ e (λz=>nomatch z) h
 | @dK a kvs ea =>
  cases(show u=Value.ref a from rx)
  obtain⟨_,_,vs,_,p⟩:=(show fc X.prog X.w H s.heap a (.dK kvs)from I.hok a _ ea)
  obtain⟨o,es,ep,h1,h2,_⟩:=p;exact aoG aqD I.eB ⟨o,h1,h2.1⟩ e (λz=>nomatch z) h
 | @dT a kvs ea =>
  cases(show u=Value.ref a from rx)
  obtain⟨_,_,xs,_,o,es,ep,h1,h2,_⟩:=(show fc X.prog X.w H s.heap a (.dT kvs)from I.hok a _ ea)
  exact aoG aqD I.eB ⟨o,h1,h2.1⟩ e (λz=>nomatch z) h
 | @ins a C dx fs ea cl ha hn htk hm =>
  cases(show u=Value.ref a from rx)
  obtain⟨mA,O,_⟩:=afS I.hok ea;obtain⟨od,J,_⟩:=O.look;exact aoG (PySem.W.kitx_own (cl.get _) cl.hd ha hn htk hm) I.eB J e (λz=>nomatch z) h
end
structure cN (k:Nat) (A:χ):Prop where
 hd:A.handled=η
 dp:A.depth+3*k+5<recursionLimit
 un:A.units+16*k+200<agh
def cN.mono{j k:Nat}{A:χ}(r:cN k A)(h:j<=k):cN j A:=⟨r.hd,by have:=r.dp;omega,by have:=r.un;omega⟩
def cN.deeper{k:Nat}{A:χ}(r:cN (k+1) A)(env:Env):cN k (A.deeper env) :=
 ⟨r.hd,by have:=r.dp;show A.depth+1+3*k+5<_;omega,by have:=r.un;show A.units+3+16*k+200<_;omega⟩
def cN.in1{k:Nat}{A:χ}(r:cN (k+1) A):cN k A.in1 :=
 ⟨r.hd,by have:=r.dp;show A.depth+3*k+5<_;omega,by have:=r.un;show A.units+1+16*k+200<_;omega⟩
def cN.depth{k:Nat}{A:χ}(r:cN k A):A.depth<recursionLimit:=by have:=r.dp;omega
def cN.units{k:Nat}{A:χ}(r:cN k A):A.units+64<agh:=by have:=r.un;omega
def Va:TA:=λ_ H Q=>Q [] H
def Vj(ta:TE)(tr:TA):TA:=λσ H Q=>ta σ H λx H1=>tr σ H1 λxs H2=>Q (x::xs) H2
section
variable {X:Cx}{e:π}{es:List π}{te:TE}{t:TA}{pos:Pos}
def kr:PA X [] Va:=λ_ _ _ _ H Q I h=>Calls.spliced_nil ⟨[],H,I,.nil,h⟩
def ju(ha:PE X e te)(hr:PA X es t)(hs:μ (e::es) X.env=(Δ,eval e X.env)::μ es X.env:=by rfl):PA X (e::es) (Vj te t):=by
 intro pos pins s σ H Q I h;rw[hs];show wpAny _ _ (spliced ((Δ,eval e X.env)::abE pos (μ es X.env))) _ _ s;refine Calls.spliced_cons (bL (ha pins s σ H _ I h) λu s1 ⟨x,H1,I1,r1,q1⟩=>?_)
 exact bL (hr pos pins s1 σ H1 _ I1 q1) λus s2 ⟨xs,H2,I2,r2,q2⟩=>⟨x::xs,H2,I2,.cons r1 r2,q2⟩
def U1(t:TA):TE:=λσ H Q=>t σ H λxs H1=>xs.length<=ε/\∀p,H1 p=η->Q (.ref p) (upd H1 p (.tup xs))
def Vc(t:TA):TE:=λσ H Q=>t σ H λxs H1=>xs.length<=ε/\∀p,H1 p=η->Q (.ref p) (upd H1 p (.lst xs))
def ZX{x1}(h:PA X es t):PE X (.Tuple es x1 pos) (U1 t):=by
 intro pins s σ H Q I hq;refine wpAny_Tuple_spliced (bL (h pos pins s σ H _ I hq) λus s1 ⟨xs,H1,I1,r,z,q⟩=>⟨by rw[<-r.length];exact z,?_⟩)
 have hf:H1 s1.heap.objs.size=η:=I1.hok.fresh (anU _);refine⟨.ref s1.heap.objs.size,upd H1 s1.heap.objs.size (.tup xs),I1.laid (t':=s1.toks) (λb u e=>anY _ e) (anU _) ?_,rfl,q _ hf⟩
 exact⟨z,us,r,⟨_,aoc _ rfl,rfl,⟨_,rfl⟩,rfl⟩⟩
def LV(h:PA X es t):PE X (.List es pos) (Vc t):=by
 intro pins s σ H Q I hq;refine wpAny_List_spliced (bL (h pos pins s σ H _ I hq) λus s1 ⟨xs,H1,I1,r,z,q⟩=>⟨by rw[<-r.length];exact z,?_⟩)
 have hf:H1 s1.heap.objs.size=η:=I1.hok.fresh (anU _);refine⟨.ref s1.heap.objs.size,upd H1 s1.heap.objs.size (.lst xs),I1.laid (t':=s1.toks) (λb u e=>anY _ e) (anU _) ?_,rfl,q _ hf⟩
 exact⟨z,us,0,r,aoc _ rfl⟩
end
abbrev Sp:=List V->Hp->VK->XK->Prop
abbrev nv:=List Env->Hp->Ω->XK->Ξ->Ω->Prop
structure kY (P:τ) (w:ψ) (K:Θ) (mg:Str->Option Ξ) (base:υ) (A:χ) (outer:List Env) (s:Ω) (H:Hp):Prop where
 frames:A.frames=ζ outer
 mod:Mod K mg base
 bs:∀b o,base.get? b=ζ o->s.heap.get? b=ζ o/\H b=η
 gg:base.objs.size<=s.heap.objs.size
 fT:s.heap.FunFrames base outer
 iC:∀b∈frs outer,H b=η
 hok:cQ P w H s.heap
 bare:aga s.gens
def CE(outer:List Env)(P:τ)(w:ψ)(H:Hp)(s:Ω)(Q:VK)(u:Ξ)(s':Ω):Prop :=
 ∃v H',s'.os=s.os/\aga s'.gens/\Un (frs outer) [] H H' s.heap s'.heap/\cQ P w H' s'.heap/\RelV v u/\Q v H'
def CR(CX:nv)(outer:List Env)(P:τ)(w:ψ)(H:Hp)(s:Ω)(Q:VK)(E:XK)(r:Result)(s':Ω):Prop :=
 match r with
 |.ok (.ret u)=>CE outer P w H s Q u s'
 |.ok _=>False
 |.error e=>CX outer H s E e s'
structure bU (P:τ) (w:ψ) (K:Θ) (mg:Str->Option Ξ) (base:υ) (CX:nv) (k:Nat) (f:Ψ) (fd:ο) (ps:List Str) (sp:Sp):Prop where
 len:∀vs H Q E,sp vs H Q E->vs.length=ps.length
 run:∀(A:χ) (outer:List Env) (s:Ω) (H:Hp) (args:Args) (us:List Ξ) (vs:List V) (Q:VK) (E:XK),cN k A->kY P w K mg base A outer s H->agy s fd args (ps.zip us)->Vals vs us->sp vs H Q E ->
  codeAny (model P w) A (.call (.ref f) args) (CR CX outer P w H s Q E) s
section
variable {X:Cx}{pins:List (Ψ×Obj)}{σ:St}{H:Hp}{s s':Ω}
def Inv.Be(I:Inv X pins σ H s):kY X.prog X.w X.K X.mg X.base X.A X.stack s H :=
 ⟨I.ok.frames,I.ok.mod,I.bs,aom I.ok.gg I.sz,I.stack,I.wu,I.hok,I.bare⟩
def Inv.after{Q:VK}{u:Ξ}(I:Inv X pins σ H s)(h:CE X.stack X.prog X.w H s Q u s'):EP X pins σ Q u s':=by
 obtain⟨v,H',os,bare,un,hok,r,q⟩:=h;obtain⟨hh,g,d,t,os'⟩:=s';obtain rfl:os'=s.os:=os;exact⟨v,H',I.call (h':=hh) (g':=g) (d':=d) (t':=t) (ch:=[]) un hok bare (λb z=>absurd z (by simp)),r,q⟩
end
def K4(sp:Sp)(oQ:List V)(E:XK)(t:TA):TE:=λσ H Q=>t σ H λvs H1=>sp (vs++oQ) H1 Q E
def Binds(K:Θ)(fd:ο)(ps:List Str)(ds:List Ξ):Prop :=
 ∀(s:Ω) (us:List Ξ),K.In s.heap->(us++ds).length=ps.length->agy s fd ⟨us,[]⟩ (ps.zip (us++ds))
def Binds.all{K:Θ}{fd:ο}{ps:List Str}(h:∀us:List Ξ,us.length=ps.length->bindArgs fd ⟨us,[]⟩=pure (ps.zip us)):Binds K fd ps []:=λs us _ hl=>by
 rw[aoM]at hl ⊢;exact .of_eq (h us hl)
def Passes(CX:nv)(X:Cx)(E:XK):Prop:=∀(pins:List (Ψ×Obj)) (σ:St) (H:Hp) (s:Ω) (e:Ξ) (s':Ω),Inv X pins σ H s->CX X.stack H s E e s'->X.xe e s'
section
variable {X:Cx}{CX:nv}{k:Nat}{f C:Ψ}{fd:ο}{ps:List Str}{sp:Sp}{oQ:List V}{ds:List Ξ}{E:XK}{x m:Str}{p pos apos:Pos}{e o:π}{es:List π}{ta:TE}{t:TA}
def Xk{pins:List (Ψ×Obj)}{σ:St}{H:Hp}{s:Ω}{Q:VK}{us:List Ξ}{vs:List V}(F:bU X.prog X.w X.K X.mg X.base CX k f fd ps sp)(hr:cN k X.A)(hb:Binds X.K fd ps ds)(hd:Vals oQ ds)(hx:Passes CX X E)
  (I:Inv X pins σ H s) (r:Vals vs us) (h:sp (vs++oQ) H Q E):wpAny (model X.prog X.w) X.A (call (.ref f) us) (EP X pins σ Q) X.xe s:=by
 have r2:Vals (vs++oQ) (us++ds):=r.append hd;have hl:(us++ds).length=ps.length:=by rw[<-r2.length];exact F.len _ _ _ _ h
 refine apo (aoU (F.run X.A X.stack s H ⟨us,[]⟩ (us++ds) (vs++oQ) Q E hr I.Be (hb s us I.eB hl) r2 h) λr s' hq=>?_)
 cases r with
 |error e=>exact hx pins σ H s e s' I hq
 |ok fl =>
  cases fl with
  |ret u=>exact I.after hq
  |next=>exact False.elim hq
  |brk=>exact False.elim hq
  |cont=>exact False.elim hq
def L3(F:bU X.prog X.w X.K X.mg X.base CX k f fd ps sp)(hr:cN k X.A)(hg:Gl X x)(hm:X.mg x=ζ (.ref f))(hk:PySem.W.keepIn X.K (.ref f)=θ)(hb:Binds X.K fd ps ds)(hd:Vals oQ ds)(hx:Passes CX X E)
  (ha:PA X (e::es) t) (hdb:(x==("__debug__":Str))=Δ:=by decide) (he:μ (e::es) X.env=(Δ,eval e X.env)::μ es X.env:=by rfl) (hpl:(abE pos (μ es X.env)).any (·.1)=Δ:=by rfl) :
  PE X (.Call (.Name x p) (e::es) [] pos) (K4 sp oQ E t):=by
 intro pins s σ H Q I h;refine apq (uA I hg hm ?_ hdb);refine aqE (h₀:=X.base) I.ok.mod.jR hk (bL (ha pos pins s σ H _ I h) λus s1 ⟨vs,H1,I1,r,q⟩=>⟨I1.eB,?_⟩) he hpl
 exact Xk F hr hb hd hx I1 r q
end
structure cB (N P:List Str) (sc:ac4):Prop where
 kind:sc.kind=.function
 co:sc.isCoroutine=Δ
 gen:sc.isGenerator=Δ
 nd:N.Nodup
 pre:N.take P.length=P
 par:∀x∈P,sc.names.lookup x=ζ .local\/sc.names.lookup x=ζ .cell
 ac2:∀y∈sc.names,y.2≠.free
def Rq{kindOf:Str->Option abF}{x:Str}:∀{binds:List (Str×Ξ)}{m:Str->Option Ξ},(∀v,(x,v)∉binds)->bindL kindOf binds m x=m x
 |[],_,_=>rfl
 |(n,v)::r,m,h=>by
  unfold bindL;rw[Rq λw hw=>h w (aoA _ hw)]
  split
  ·have:x≠n:=by rintro rfl;exact h v aoR
   simp[this]
  ·rfl
def Rt{kindOf:Str->Option abF}{x:Str}:∀{binds:List (Str×Ξ)}{m:Str->Option Ξ},(∀v,(x,v)∉binds)->bindC kindOf binds m x=m x
 |[],_,_=>rfl
 |(n,v)::r,m,h=>by
  unfold bindC;rw[Rt λw hw=>h w (aoA _ hw)]
  split
  ·rfl
  ·have:x≠n:=by rintro rfl;exact h v aoR
   simp[this]
def Rr{kindOf:Str->Option abF}{x:Str}{v:Ξ}:∀{P:List Str}{vs:List Ξ}{i:Nat}{m:Str->Option Ξ},P.Nodup->P[i]? = ζ x->vs[i]? = ζ v->kindOf x=ζ .local ->
  bindL kindOf (P.zip vs) m x=ζ v
 |[],_,_,_,_,h,_,_=>by simp at h
 |_::_,[],_,_,_,_,h,_=>by simp at h
 |p::P,w::vs,0,m,nd,h1,h2,hk=>by
  simp at h1 h2;subst h1;subst h2;show bindL kindOf ((p,w)::P.zip vs) m p=_;unfold bindL;rw[Rq λv hv=>(ao9.mp nd).1 (apy hv).1,if_pos hk]
  simp
 |p::P,w::vs,i+1,m,nd,h1,h2,hk=>by
  show bindL kindOf ((p,w)::P.zip vs) m x=_;unfold bindL;exact Rr (i:=i) (ao9.mp nd).2 (by simpa using h1) (by simpa using h2) hk
def Ru{kindOf:Str->Option abF}{x:Str}{v:Ξ}:∀{P:List Str}{vs:List Ξ}{i:Nat}{m:Str->Option Ξ},P.Nodup->P[i]? = ζ x->vs[i]? = ζ v->kindOf x≠ζ .local ->
  bindC kindOf (P.zip vs) m x=ζ v
 |[],_,_,_,_,h,_,_=>by simp at h
 |_::_,[],_,_,_,_,h,_=>by simp at h
 |p::P,w::vs,0,m,nd,h1,h2,hk=>by
  simp at h1 h2;subst h1;subst h2;show bindC kindOf ((p,w)::P.zip vs) m p=_;unfold bindC;rw[Rt λv hv=>(ao9.mp nd).1 (apy hv).1,if_neg hk]
  simp
 |p::P,w::vs,i+1,m,nd,h1,h2,hk=>by
  show bindC kindOf ((p,w)::P.zip vs) m x=_;unfold bindC;exact Ru (i:=i) (ao9.mp nd).2 (by simpa using h1) (by simpa using h2) hk
def start(N:List Str)(vs:List V):St:=vs.map ζ++ν (N.length-vs.length) η
def fW(CX:nv)(P:τ)(w:ψ)(K:Θ)(mg:Str->Option Ξ)(base:υ)(N:List Str)(qual:Str)(scope:ac4)(f:Ψ)(cd:Ξ)(A:χ)(outer:List Env)(s:Ω)(H:Hp)(E:XK):Cx where
 prog:=P
 w:=w
 K:=K
 mg:=mg
 base:=base
 A:=A.deeper (envOfC qual scope s.heap.objs.size f cd)
 N:=N
 s₀:=s
 H₀:=H
 env:=envOfC qual scope s.heap.objs.size f cd
 outer:=outer
 stack:=envOfC qual scope s.heap.objs.size f cd::outer
 ex:=[]
 calm:=θ
 fn:=λ_=>θ
 pn:=[]
 xe:=λe s'=>wpAny (model P w) (A.deeper (envOfC qual scope s.heap.objs.size f cd)) (leaving (envOfC qual scope s.heap.objs.size f cd) e) (λ_ s''=>CX outer H s E e s'') (λe' s''=>CX outer H s E e' s'') s'
def Qu{sc:ac4}{n:Nat}{x:Str}(h:sc.names.lookup x=ζ .cell):∃c,(cellsFrom n sc.names []).lookup x=ζ c:=by
 have q:=apP sc.names n [] (.inl h);exact ap3.mp q
def Ob{CX:nv}{P:τ}{w:ψ}{K:Θ}{mg:Str->Option Ξ}{base:υ}{N ps:List Str}{qual:Str}{scope:ac4}{f:Ψ}{cd:Ξ}{A:χ}{outer:List Env}{s s1:Ω}{H:Hp}{E:XK}{us:List Ξ}{vs:List V}
  (S:cB N ps scope) (hd:A.handled=η) (e0:kY P w K mg base A outer s H) (hl:vs.length=ps.length) (r:Vals vs us)
  (x:InCallC s s.heap.objs.size (bindL (envOfC qual scope s.heap.objs.size f cd).kindOf (ps.zip us) λ_=>η) (cellsFrom (s.heap.objs.size+1) scope.names []) (bindC (envOfC qual scope s.heap.objs.size f cd).kindOf (ps.zip us) λ_=>η) s1) :
  Inv (fW CX P w K mg base N qual scope f cd A outer s H E) [] (start N vs) H s1:=by
 have hpl:ps.length<=N.length:=by have:=congrArg List.length S.pre;rw[apz]at this;omega
 obtain⟨h1,tk,rfl,hk⟩:=x.done;have lB:∀b:Ψ,b∉(fW CX P w K mg base N qual scope f cd A outer s H E).ex:=λb z=>absurd (show b∈([]:List Ψ)from z) (by simp)
 refine⟨⟨e0.mod,S.kind,rfl,rfl,anU _,λy z c h1 h2=>?_,λy hy=>?_,λy c _ h=>?_,λ_=>hd,aqF e0.frames,.inr ⟨rfl,rfl⟩,λb z=>absurd z (lB b),e0.bs,e0.gg,λb _ _=>lB b,λb z=>absurd z (lB b),e0.fT,e0.iC⟩,
  rfl,e0.bare,Un.kept hk,⟨_,x.toInCall.ns,λi y v h1 h2 h3=>?_⟩,λy c h=>⟨_,x.cell y c h⟩,e0.hok.fresh (anU _),λy c h=>?_,λp hp=>absurd (show p∈([]:List (Ψ×Obj))from hp) (by simp),e0.hok.kept hk,?_⟩
 ·exact name_of_addr x.apart (aoV h1) (aoV h2)
 ·have hy:scope.names.lookup y=ζ .cell\/scope.names.lookup y=ζ .free:=hy
  rcases hy with hy|hy
  ·exact Qu hy
  ·exact absurd rfl (S.ac2 _ (aoV hy))
 ·exact apl (x.above y c (aoV h))
 ·have hi:i<vs.length:=by
   unfold start at h2
   by_cases hi:i<vs.length
   ·exact hi
   ·rw[aov (by simpa using hi)]at h2
    rw[aqG]at h2;split at h2<;>cases h2
  have ha:vs[i]? = ζ v:=by
   unfold start at h2;rw[aow (by simpa using hi),aoH]at h2
   cases e:vs[i]? with
   |none=>rw[e]at h2;cases h2
   |some a=>rw[e]at h2;cases h2;rfl
  obtain⟨u,hu,rv⟩:=r.get ha;have hp:ps[i]? = ζ y:=by
   rw[<-S.pre,aqH (by omega)];exact h1
  have M0:ps.Nodup:=by rw[<-S.pre];exact S.nd.sublist (aqI _ _)
  refine⟨u,rv,?_⟩
  rcases S.par y (aoq hp)with k|k
  ·exact .inl ⟨k,Rr M0 hp hu k⟩
  ·obtain⟨c,e⟩:=Qu (n:=s.heap.objs.size+1) k;refine .inr ⟨.inl k,c,e,?_⟩;have q:=x.cell y c e;rw[Ru M0 hp hu (by show scope.names.lookup y≠_;rw[k];decide)]at q
   exact q
 ·exact e0.hok.fresh (apl (x.above y c (aoV h)))
 ·unfold start;show _=N.length;rw[aon,an2,arx];omega
def Gj{CX:nv}{P:τ}{w:ψ}{K:Θ}{mg:Str->Option Ξ}{base:υ}{k:Nat}{f:Ψ}{name qual:Str}{params:agc}{body:List aar}{scope:ac4}{dV kV doc pm cdv ct oc:Ξ}{an od:Option Ψ}
  {osl:Array (Option Ξ)}{N ps:List Str}{sp:Sp}(lk:K.lookup f=ζ ⟨oc,od,.func (PySem.W.fnOf name qual params body scope dV kV doc pm an cdv ct),osl⟩) (hcd:PySem.W.codeIn K cdv qual=θ) (S:cB N ps scope)
  (len:∀vs H Q E,sp vs H Q E->vs.length=ps.length)
  (hbody:∀(A:χ) (outer:List Env) (s:Ω) (H:Hp) (vs:List V) (Q:VK) (E:XK),cN k (A.deeper (envOfC qual scope s.heap.objs.size f cdv))->sp vs H Q E ->
   ∃t,fE (fW CX P w K mg base N qual scope f cdv A outer s H E) body t/\t {nx:=λ_ H'=>Q .aF H',rt:=Q} (start N vs) H) :
  bU P w K mg base CX (k+1) f (PySem.W.fnOf name qual params body scope dV kV doc pm an cdv ct) ps sp:=by
 refine⟨len,λA outer s H args us vs Q E hr e0 hb r gb=>?_⟩
 have hl:=len _ _ _ _ gb;have KX:K.In s.heap:=e0.mod.jR.keeps λb o e=>(e0.bs b o e).1
 have lim:s.heap.NoLimit:=e0.mod.nolimit.keeps λb o e=>(e0.bs b o e).1
 have hkind:∀y∈ps.zip us,scope.names.lookup y.1=ζ .local\/(scope.names.lookup y.1=ζ .cell/\((cellsFrom (s.heap.objs.size+1) scope.names []).lookup y.1).isSome=θ):=fun⟨n,v⟩ hy=>by
  rcases S.par n (apy hy).1 with q|q
  ·exact .inl q
  ·exact .inr ⟨q,apP _ _ _ (.inl q)⟩
 refine ary hr.depth (KX _ _ lk) rfl S.co S.gen rfl (arz KX hcd) (hb _ _ _ _ ?_);refine arA S.kind hkind λenv he s1 x=>?_
 subst he;refine⟨lim.keeps x.toInCall.keep,codeAny_func ?_⟩;obtain⟨t,ht,hq⟩:=hbody A outer s H vs Q E (hr.deeper _) gb;have I:Inv (fW CX P w K mg base N qual scope f cdv A outer s H E) [] (start N vs) H s1:=Ob S hr.hd e0 hl r x;refine aoe (ht [] s1 (start N vs) H _ I hq) (λfl s' hs=>?_) λe s' hs=>hs
 have fin:∀{σ':St}{H':Hp}{v:V}{u:Ξ},Inv (fW CX P w K mg base N qual scope f cdv A outer s H E) [] σ' H' s'->RelV v u->Q v H'->CE outer P w H s Q u s' :=
  fun{σ' H' v u} J rv q=>⟨v,H',J.os,J.bare,J.base,J.hok,rv,q⟩
 cases fl with
 |ret u =>
  obtain⟨v,σ',H',J,rv,q⟩:=hs;exact fin J rv q
 |next =>
  obtain⟨σ',H',J,q⟩:=hs;exact fin (v:=V.aF) (u:=Value.none) J rfl q
 |brk =>
  obtain⟨_,_,_,q⟩:=hs;exact False.elim q
 |cont =>
  obtain⟨_,_,_,q⟩:=hs;exact False.elim q
section
variable {X:Cx}{x:Str}{p pos:Pos}{e:π}{es:List π}{t:TA}{id T:String}{r:List V->Hp->VK->Prop}
def K5(r:List V->Hp->VK->Prop)(t:TA):TE:=λσ H Q=>t σ H λvs H1=>r vs H1 Q
def LZ(hc:eH X (.builtin id) r)(hg:Gl X x)(hm:X.mg x=η)(hv:bootBuiltins x=ζ (.builtin id))(ha:PA X (e::es) t)(hn:x≠"__name__":=by decide)(hdb:(x==("__debug__":Str))=Δ:=by decide)
  (he:μ (e::es) X.env=(Δ,eval e X.env)::μ es X.env:=by rfl) (hpl:(abE pos (μ es X.env)).any (·.1)=Δ:=by rfl):PE X (.Call (.Name x p) (e::es) [] pos) (K5 r t):=by
 intro pins s σ H Q I h;refine apq (lN I hg hm hv ?_ hn hdb);exact PyProof.Rows.callWith_builtin1 (bL (ha pos pins s σ H _ I h) λus s1 ⟨vs,H1,I1,r1,q1⟩=>hc pins s1 σ H1 vs us Q I1 r1 q1) he hpl
def Dl(hc:eH X (.type T) r)(hg:Gl X x)(hm:X.mg x=η)(hv:bootBuiltins x=ζ (.type T))(ha:PA X (e::es) t)(hn:x≠"__name__":=by decide)(hdb:(x==("__debug__":Str))=Δ:=by decide)
  (he:μ (e::es) X.env=(Δ,eval e X.env)::μ es X.env:=by rfl) (hpl:(abE pos (μ es X.env)).any (·.1)=Δ:=by rfl):PE X (.Call (.Name x p) (e::es) [] pos) (K5 r t):=by
 intro pins s σ H Q I h;refine apq (lN I hg hm hv ?_ hn hdb);exact apx (bL (ha pos pins s σ H _ I h) λus s1 ⟨vs,H1,I1,r1,q1⟩=>hc pins s1 σ H1 vs us Q I1 r1 q1) he hpl
end
end L2
namespace HT
open PySem PyProof.Rows
section
variable {prog:τ}{w:ψ}{A:χ}{E:Ξ->Ω->Prop}{s:Ω}
def akc{t b:Ψ}{vs ws:List Ξ}{Q:Ξ->Ω->Prop}(ht:IsTup s.heap t vs.toArray)(hb:IsTup s.heap b ws.toArray)(hv:vs≠[])
  (h1:ws=[]->Q (.ref t) s) (h2:ws≠[]->Q (.ref s.heap.objs.size) {s with heap:=s.heap.push {cls:=.type "tuple",data:=.seq (vs++ws).toArray} })
  (hsz:vs.length+ws.length<=ε):wpAny (model prog w) A (binaryOp .Add (.ref t) (.ref b)) Q E s:=by
 obtain⟨⟨cls,dd,data,sl⟩,ho,hc,n,hd⟩:=id ht;obtain⟨⟨aj4,dd2,data2,sl2⟩,ho2,hc2,n2,hd2⟩:=id hb;simp only at hc hd hc2 hd2;subst hc hd hc2 hd2;have e:vs.toArray++ws.toArray=(vs++ws).toArray:=by simp
 by_cases hw:ws=[]
 ·exact aqJ ⟨_,ho,rfl⟩ ⟨_,ho2,rfl⟩ aqK aqL aqM aqN (aqO _ _)
   (tuple_addW1 t b vs.toArray ws.toArray n n2 dd dd2 sl sl2 (by simpa using hv) (by simp[hw])) ⟨ho,ho2,h1 hw⟩
 ·refine aqJ ⟨_,ho,rfl⟩ ⟨_,ho2,rfl⟩ aqK aqL aqM aqN (aqO _ _)
   (tuple_addW2 t b vs.toArray ws.toArray n n2 dd dd2 sl sl2 (by simpa using hv) (by simpa using hw) (by rw[an3,an3];exact hsz)) ⟨ho,ho2,?_⟩
  rw[e];exact h2 hw
end
end HT
namespace L2
open PySem PySem.Spec PyProof.Rows
abbrev TO:=St->Hp->(Option Int->Hp->Prop)->Prop
def PO(X:Cx)(e:Option π)(t:TO):Prop :=
 ∀(pins:List (Ψ×Obj)) (s:Ω) (σ:St) (H:Hp) (Q:Option Int->Hp->Prop),Inv X pins σ H s->t σ H Q ->
  wpAny (model X.prog X.w) X.A (evalPart e X.env) (λu s'=>∃o H',Inv X pins σ H' s'/\IsPart u o/\Q o H') X.xe s
section
variable {X:Cx}{e:π}{te:TE}{lo hi:Option π}{tl th:TO}{pos p2:Pos}
def Yl(K:Θ):R2:=λx y H Q=>∃a b xs ys,x=.ref a/\y=.ref b/\cg K H a xs/\cg K H b ys/\xs≠[]/\xs.length+ys.length<=ε /\
 (ys=[]->Q (.ref a) H)/\(ys≠[]->∀p,H p=η->Q (.ref p) (upd H p (.tup (xs++ys))))
def Vals.DG{xs:List V}{us:List Ξ}(r:Vals xs us):us=[]↔xs=[]:=by
 cases r with
 |nil=>simp
 |cons _ _=>simp
def Mh:bS X (binaryOp .Add) (Yl X.K):=by
 intro pins s σ H x y v u Q I rx ry h;obtain⟨a,b,xs,ys,rfl,rfl,ha,hb,hx,hz,q1,q2⟩:=h;cases rx;cases ry;obtain⟨its,r1,p1,_⟩:=I.tuple ha;obtain⟨its2,r2,p2,_⟩:=I.tuple hb;refine HT.akc p1 p2 (λz=>hx (r1.DG.mp z)) (λz=>⟨.ref a,H,I,rfl,q1 (r2.DG.mp z)⟩) (λz=>?_) (by rw[<-r1.length,<-r2.length];exact hz)
 refine⟨.ref s.heap.objs.size,_,I.laid (t':=s.toks) (o:=.tup (xs++ys)) (λb ob q=>anY _ q) (anU _) ?_,rfl,q2 (λw=>z (r2.DG.mpr w)) _ (I.hok.fresh (anU _))⟩
 exact⟨by rw[aon];exact hz,_,r1.append r2,j5.new _ _⟩
end
def eL(n:Nat)(i:Int):Option Nat:=if 0<=i then(if i<n then ζ i.toNat else η)else if -(n:Int)<=i then ζ (i+n).toNat else η
def cD{α:Type}(xs:List α)(i:Int):Option α:=(eL xs.length i).bind λj=>xs[j]?
def N7{n:Nat}{i:Int}{j:Nat}(h:eL n i=ζ j):seqIndex? i n=ζ j/\j<n/\-(n:Int)<=i/\i<n:=by
 unfold eL at h
 by_cases h0:0<=i
 ·rw[if_pos h0]at h
  by_cases h1:i<n
  ·rw[if_pos h1]at h;have e:i.toNat=j:=an6 h;exact⟨by rw[seqIndex_of h0 h1,e],by omega,by omega,h1⟩
  ·rw[if_neg h1]at h;cases h
 ·rw[if_neg h0]at h
  by_cases h1:-(n:Int)<=i
  ·rw[if_pos h1]at h;have e:(i+n).toNat=j:=an6 h;exact⟨by rw[seqIndex_neg (by omega) h1,e],by omega,h1,by omega⟩
  ·rw[if_neg h1]at h;cases h
def Rz{α:Type}{xs:List α}{i:Int}{v:α}(h:cD xs i=ζ v):∃j,seqIndex? i xs.length=ζ j/\xs[j]? = ζ v/\j<xs.length/\-(xs.length:Int)<=i/\i<xs.length:=by
 unfold cD at h;cases e:eL xs.length i with
 |none=>rw[e]at h;cases h
 |some j =>
  rw[e]at h;obtain⟨h1,h2,h3,h4⟩:=N7 e;exact⟨j,h1,h,h2,h3,h4⟩
def l9{α:Type}{xs:List α}{j:Nat}{v:α}(h:xs[j]? = ζ v):cD xs (j:Int)=ζ v:=by
 have hj:j<xs.length:=(an7.mp h).1;have e:eL xs.length (j:Int)=ζ j:=by
  unfold eL;rw[if_pos (by omega),if_pos (by omega)];simp
 unfold cD;rw[e];exact h
def RI(b:π):Prop:=∀o i,subscripted b Δ o i=operate [o,i] (getItem o i)
def yu(X:Cx)(r:R2):Prop :=
 ∀(value slice:π) (pins:List (Ψ×Obj)) (s:Ω) (σ:St) (H:Hp) (x y:V) (v u:Ξ) (Q:VK),Inv X pins σ H s->RelV x v->RelV y u->r x y H Q ->
  subscripted slice Δ v u=operate [v,u] (getItem v u)->wpAny (model X.prog X.w) X.A (subscriptTail value slice v u) (EP X pins σ Q) X.xe s
def MtR(X:Cx)(id:String)(r:V->List V->Hp->VK->Prop):Prop :=
 ∀(pins:List (Ψ×Obj)) (s:Ω) (σ:St) (H:Hp) (x:V) (xs:List V) (v:Ξ) (us:List Ξ) (Q:VK),Inv X pins σ H s->RelV x v->Vals xs us->r x xs H Q ->
  wpAny (model X.prog X.w) X.A (call (.builtin id) (v::us)) (EP X pins σ Q) X.xe s
section
variable {X:Cx}{a b:π}{ta tb:TE}{pos:Pos}
def Z2{r:R2}(hr:yu X r)(ha:PE X a ta)(hb:PE X b tb)(hs:RI b):PE X (.Subscript a b pos) (yW r ta tb):=by
 intro pins s σ H Q I h;exact Subscript_ (Jh ha hb I h λv u s2 x y H2 I2 rx ry q=>hr a b pins s2 σ H2 x y v u Q I2 rx ry q (hs _ _))
def Ye(K:Θ):R2:=λx y H Q=>∃p xs i v,x=.ref p/\y=.int i/\bY K H p xs/\cD xs i=ζ v/\Q v H
def Yd(K:Θ):R2:=λx y H Q=>∃p xs i v,x=.ref p/\y=.int i/\cg K H p xs/\cD xs i=ζ v/\Q v H
def afH:yu X (Ye X.K):=by
 intro value slice pins s σ H x y v u Q I rx ry h hs;obtain⟨p,xs,i,z,rfl,rfl,hq,he,q⟩:=h;cases rx;obtain⟨t,rfl⟩:=ry;obtain⟨its,r,pl,hz⟩:=I.list hq;obtain⟨j,h1,h2,h3,h4,h5⟩:=Rz he;obtain⟨w,ew,rw'⟩:=r.get h2;have hl:=r.length;have hn:=uz;have fin:EP X pins σ Q w s:=⟨z,H,I,rw',q⟩
 by_cases h0:0<=i
 ·have hj:i.toNat=j:=by
   rw[seqIndex_of h0 h5]at h1;exact an6 h1
  exact item_listR pl.isList h0 (by omega) (by rw[hj];simpa using ew) fin hs
 ·have hj:(i+(its.toArray.size:Int)).toNat=j:=by
   rw[seqIndex_neg (by omega) h4]at h1
   rw[an3,<-hl];exact an6 h1
  exact subscriptTail_builtinR (x:=w) pl.isList.typeIs slot_list_getitem.lookup
   (wpAny_getItem_list_neg (Q:=λr s'=>r=w/\EP X pins σ Q r s') pl.isList (by omega) (by rw[an3]<;>omega) (by omega) (by rw[hj];simpa using ew) ⟨rfl,fin⟩) hs
def afG:yu X (Yd X.K):=by
 intro value slice pins s σ H x y v u Q I rx ry h hs;obtain⟨p,xs,i,z,rfl,rfl,hq,he,q⟩:=h;cases rx;obtain⟨t,rfl⟩:=ry;obtain⟨its,r,pl,hz⟩:=I.tuple hq;obtain⟨j,h1,h2,h3,h4,h5⟩:=Rz he;obtain⟨w,ew,rw'⟩:=r.get h2;have hl:=r.length;have hn:=uz;have fin:EP X pins σ Q w s:=⟨z,H,I,rw',q⟩;exact subscriptTail_builtinR (x:=w) pl.typeIs slot_tuple_getitem.lookup
  (getItem_tuple (j:=j) (Q:=λr s'=>r=w/\EP X pins σ Q r s') pl (by omega) (by omega) (by rw[an3,<-hl];exact h1) (by simpa using ew) ⟨rfl,fin⟩) hs
def aei(its:List Ξ)(n j:Nat)(u:Ξ):Obj.mapSeq (·.setIfInBounds j u) {cls:=.type "list",data:=.seq its.toArray n}={cls:=.type "list",data:=.seq (its.set j u).toArray n}:=by
 simp[Obj.mapSeq]
def Inv.lst{pins:List (Ψ×Obj)}{σ:St}{H:Hp}{s:Ω}{p:Ψ}{xs:List V}(I:Inv X pins σ H s)(h:H p=ζ (.lst xs)) :
  ∃(its:List Ξ) (n:Nat),Vals xs its/\s.heap.get? p=ζ {cls:=.type "list",data:=.seq its.toArray n}/\xs.length<=ε:=by
 obtain⟨z,its,n,r,e⟩:=I.hok p _ h;exact⟨its,n,r,e,z⟩
def Inv.aem{pins:List (Ψ×Obj)}{σ:St}{H:Hp}{s:Ω}{p:Ψ}{xs ys:List V}{its its':List Ξ}{n n':Nat}{f:Obj->Obj}(I:Inv X pins σ H s)(h:H p=ζ (.lst xs))
  (ho:s.heap.get? p=ζ {cls:=.type "list",data:=.seq its.toArray n}) (hf:f {cls:=.type "list",data:=.seq its.toArray n}={cls:=.type "list",data:=.seq its'.toArray n'}) (r:Vals ys its') (hz:ys.length<=ε) (t:Nat) :
  Inv X pins σ (upd H p (.lst ys)) {s with heap:=s.heap.update p f,toks:=t}:=by
 have e:(s.heap.update p f).get? p=ζ {cls:=.type "list",data:=.seq its'.toArray n'}:=by
  rw[aqP f ho (by rw[hf]<;>rfl),hf]
 refine I.write (x:=p) (e:=p) (by rw[h];trivial) (.inl rfl) (λb u hb q=>(ap4 _ _ (aoD hb)).trans q) ⟨_,e⟩ ?_
 exact⟨hz,its',n',r,e⟩
def XZ:V->V->V->Hp->(Hp->Prop)->Prop:=λo i v H Q=>∃p xs k j,o=.ref p/\i=.int k/\H p=ζ (.lst xs)/\eL xs.length k=ζ j/\Q (upd H p (.lst (xs.set j v)))
def set_list:RJ X XZ:=by
 intro pins s σ H o i v ov iv u Q I ro ri rv h;obtain⟨p,xs,k,j,rfl,rfl,hp,hj,q⟩:=h;cases ro;obtain⟨t,rfl⟩:=ri;obtain⟨its,n,r,ho,hz⟩:=I.lst hp;obtain⟨h1,h2,h3,h4⟩:=N7 hj;have hl:=r.length;have hn:=uz;have I':Inv X pins σ (upd H p (.lst (xs.set j v))) {s with heap:=s.heap.update p (Obj.mapSeq (·.setIfInBounds j u))} :=
  I.aem hp ho (aei its n j u) (r.set rv j) (by rw[arB];exact hz) s.toks
 by_cases h0:0<=k
 ·have hk:k.toNat=j:=by
   rw[seqIndex_of h0 h4]at h1;exact an6 h1
  exact PySem.W.ki_setAt ho h0 (by omega) (by rw[an3,<-hl];exact h4) (by rw[hk];exact⟨_,I',q⟩)
 ·have hk:(k+(its.toArray.size:Int)).toNat=j:=by
   rw[seqIndex_neg (by omega) h3]at h1
   rw[an3,<-hl];exact an6 h1
  exact PySem.W.ki_setBack ho (by omega) (by rw[an3,<-hl];exact h3) (by omega) (by rw[hk];exact⟨_,I',q⟩)
def akk:eH X (.builtin "len") (λxs H Q=>∃p ys,xs=[.ref p]/\(bY X.K H p ys\/cg X.K H p ys)/\Q (.int ys.length) H):=by
 intro pins s σ H xs us Q I r h;obtain⟨p,ys,rfl,hq,q⟩:=h;obtain⟨u,rfl,rx⟩:=vals1 r;cases rx;have hn:=uz
 rcases hq with hq|hq
 ·obtain⟨its,r',pl,hz⟩:=I.list hq;have hlen:=r'.length;exact Calls.call_len_list pl.isList (by simp only[an3]<;>omega) ⟨.int ys.length,H,I.tok _,⟨s.toks+1,by rw[an3,hlen]⟩,q⟩
 ·obtain⟨its,r',pl,hz⟩:=I.tuple hq;have hlen:=r'.length;exact len_tuple pl (by simp only[an3]<;>omega) ⟨.int ys.length,H,I.tok _,⟨s.toks+1,by rw[an3,hlen]⟩,q⟩
def akj:eH X (.builtin "len") (λxs H Q=>∃z,xs=[.str z]/\z.length<=ε/\Q (.int z.length) H):=by
 intro pins s σ H xs us Q I r h;obtain⟨z,rfl,hz,q⟩:=h;obtain⟨u,rfl,t,rfl⟩:=vals1 r;have hn:=uz;exact len_str (by omega) ⟨.int z.length,H,I.tok _,⟨_,rfl⟩,q⟩
def aki:eH X (.type "list") (λxs H Q=>∃p ys,xs=[.ref p]/\(bY X.K H p ys\/cg X.K H p ys)/\∀l,H l=η->Q (.ref l) (upd H l (.lst ys))):=by
 intro pins s σ H xs us Q I r h;obtain⟨p,ys,rfl,hq,q⟩:=h;obtain⟨u,rfl,rx⟩:=vals1 r;cases rx;have fin:∀(its:List Ξ),Vals ys its->ys.length<=ε->∀(h':υ) (c':Nat),(∀b o',s.heap.get? b=ζ o'->h'.get? b=ζ o') ->
   h'.get? s.heap.objs.size=ζ {cls:=.type "list",dict:=η,data:=.seq its.toArray c',slots:=#[]}->EP X pins σ Q (.ref s.heap.objs.size) {s with heap:=h'}:=λits r' hz h' c' kp e =>
  ⟨.ref s.heap.objs.size,_,I.laid (t':=s.toks) kp (anU _) (show fc X.prog X.w _ h' _ (.lst ys)from⟨hz,its,c',r',e⟩),rfl,q _ (I.hok.fresh (anU _))⟩
 rcases hq with hq|hq
 ·obtain⟨its,r',pl,hz⟩:=I.list hq;have hlen:=r'.length;obtain⟨o,ho,hc,n,hd⟩:=pl.isList;exact call_list_seq p (.inl rfl) ho hc hd (λh' c' kp e=>fin its r' hz h' c' kp e) (by simp only[an3]<;>omega)
 ·obtain⟨its,r',pl,hz⟩:=I.tuple hq;have hlen:=r'.length;obtain⟨o,ho,hc,n,hd⟩:=pl;exact call_list_seq p (.inr rfl) ho hc hd (λh' c' kp e=>fin its r' hz h' c' kp e) (by simp only[an3]<;>omega)
def ake:eH X (.type "tuple") (λxs H Q=>∃p ys,xs=[.ref p]/\((bY X.K H p ys/\∀l,H l=η->Q (.ref l) (upd H l (.tup ys)))\/(cg X.K H p ys/\Q (.ref p) H))):=by
 intro pins s σ H xs us Q I r h;obtain⟨p,ys,rfl,h⟩:=h;obtain⟨u,rfl,rx⟩:=vals1 r;cases rx
 rcases h with⟨hq,q⟩|⟨hq,q⟩
 ·obtain⟨its,r',pl,hz⟩:=I.list hq;have hlen:=r'.length;refine call_tuple_list pl.isList (λh' kp=>?_) (by simp only[an3]<;>omega)
  have I1:Inv X pins σ H {s with heap:=h'}:=I.kept (t':=s.toks) kp
  have I2:Inv X pins σ (upd H h'.objs.size (.tup ys)) {s with heap:=h'.push {cls:=.type "tuple",data:=.seq its.toArray} } :=
   I1.laid (t':=s.toks) (λb o e=>anY _ e) (anU _) (show fc X.prog X.w _ _ _ (.tup ys)from⟨hz,its,r',j5.new _ _⟩)
  exact⟨.ref h'.objs.size,_,I2,rfl,q _ (I1.hok.fresh (anU _))⟩
 ·obtain⟨its,r',pl,hz⟩:=I.tuple hq;exact call_tuple_same pl ⟨.ref p,H,I,rfl,q⟩
def KA(K:Θ)(T:String)(x:V)(H:Hp):Prop:=match x with
 |.str _=>T="str"
 |.int _=>T="int"
 |.ref p=>(T="list"/\∃xs,bY K H p xs)\/(T="tuple"/\((∃xs,H p=ζ (.tup xs))\/∃o,K.lookup p=ζ o/\o.cls=.type "tuple"/\o.dict=η)) \/
   (T="dict"/\((∃kvs,H p=ζ (.dK kvs))\/∃kvs,H p=ζ (.dT kvs)))\/(T="set"/\∃S n,H p=ζ (.set S n))
 |_=>False
def Ux{pins:List (Ψ×Obj)}{σ:St}{H:Hp}{s:Ω}{T:String}{x:V}{v:Ξ}(I:Inv X pins σ H s)(r:RelV x v)(ty:KA X.K T x H) :
  s.TypeIs v T/\∀a,v=.ref a->∃ob,s.heap.get? a=ζ ob/\ob.dict=η:=by
 cases x with
 |str z =>
  obtain⟨t,rfl⟩:=r;cases(show T="str" from ty)
  exact⟨typeIs_str s z t,λ_ e=>nomatch e⟩
 |int i =>
  obtain⟨t,rfl⟩:=r;cases(show T="int" from ty)
  exact⟨apQ s i t,λ_ e=>nomatch e⟩
 |ref p =>
  cases r
  rcases ty with⟨rfl,xs,hq⟩|⟨rfl,⟨xs,hk⟩|⟨o,hk,hc,hd⟩⟩|⟨rfl,hk⟩|⟨rfl,S,n,hk⟩
  ·obtain⟨its,_,pl,_⟩:=I.list hq;refine⟨pl.isList.typeIs,λa e=>?_⟩
   cases e;obtain⟨o,n,e,c,hd,_⟩:=pl;exact⟨o,e,hd⟩
  ·obtain⟨_,its,_,o,e,c,_,hd⟩:=(show fc X.prog X.w H s.heap p (.tup xs)from I.hok p _ hk)
   refine⟨⟨o,e,c⟩,λa e2=>?_⟩
   cases e2;exact⟨o,e,hd⟩
  ·refine⟨⟨o,I.eB p o hk,hc⟩,λa e=>?_⟩
   cases e;exact⟨o,I.eB _ o hk,hd⟩
  ·have z:∃o,s.heap.get? p=ζ o/\o.ExactDict:=by
    rcases hk with⟨kvs,hk⟩|⟨kvs,hk⟩
    ·obtain⟨_,_,_,_,o,_,_,e,ex,_⟩:=I.hok p _ hk;exact⟨o,e,ex⟩
    ·obtain⟨_,_,_,_,o,_,_,e,ex,_⟩:=I.hok p _ hk;exact⟨o,e,ex⟩
   obtain⟨o,e,ex⟩:=z;refine⟨⟨o,e,ex.1⟩,λa e2=>?_⟩
   cases e2;exact⟨o,e,ex.2.1⟩
  ·obtain⟨o,_,_,_,e,ex,_⟩:=I.hok p _ hk;refine⟨⟨o,e,ex.1⟩,λa e2=>?_⟩
   cases e2;exact⟨o,e,ex.2.1⟩
 |_=>exact False.elim ty
def Vm(K:Θ)(T:String)(r:V->List V->Hp->VK->Prop)(to:TE)(t:TA):TE:=λσ H Q=>to σ H λx H1=>KA K T x H1/\t σ H1 λxs H2=>r x xs H2 Q
variable {o e:π}{es:List π}{to:TE}{t:TA}{name:Str}{apos cpos:Pos}{T id:String}{r:V->List V->Hp->VK->Prop}
def tX(pa:PlainAttrs T)(slot:Slot T name id)(hty:typeOf (.builtin id)=pure (.type "method_descriptor"))(hm:MtR X id r)(ho:PE X o to)(ha:PA X (e::es) t)
  (hbase:af3 o name X.env (eval o X.env)=eval o X.env:=by rfl)
  (hfew:((abE cpos (μ (e::es) X.env)).all (λx=>!x.1)&&(af9 cpos (ada [] X.env)).all (λx=>x.1.isSome)
   && decide ((e::es).length+([]:List adk).length+(if([]:List adk).isEmpty then 0 else 1)<30))=θ:=by rfl)
  (hline:(apos.endLine==cpos.line)=θ:=by rfl) (hs:μ (e::es) X.env=(Δ,eval e X.env)::μ es X.env:=by rfl) (hplain:(abE cpos (μ es X.env)).any (·.1)=Δ:=by rfl) :
  PE X (.Call (.Attribute o name apos) (e::es) [] cpos) (Vm X.K T r to t):=by
 intro pins s σ H Q I h;refine wpAny_Call_method_late hbase hfew hline rfl (bL (ho pins s σ H _ I h) λv s1 ⟨x,H1,I1,r1,ty,q1⟩=>?_)
 obtain⟨h1,h2⟩:=Ux I1 r1 ty;refine⟨T,id,pa,slot,hty,h1,h2,?_⟩;have hA:=ha cpos pins s1 σ H1 _ I1 q1;rw[hs]at hA ⊢;refine Calls.callWith_builtin (by show(Δ||(abE cpos (μ es X.env)).any (·.1))=Δ;rw[hplain]<;>rfl) (Calls.evalArgs_plain ?_)
 exact bL hA λus s2 ⟨vs,H2,I2,r2,q2⟩=>hm pins s2 σ H2 x vs v us Q I2 r1 r2 q2
end
def yr(X:Cx)(id:String)(r:V->List V->Hp->VK->Prop):Prop :=
 ∀(pins:List (Ψ×Obj)) (s:Ω) (σ:St) (H:Hp) (x:V) (xs:List V) (v:Ξ) (us:List Ξ) (Q:VK),Inv X pins σ H s->RelV x v->Vals xs us->r x xs H Q ->
  wpAny (model X.prog X.w) X.A (call (.builtin id) (v::us)) (EP X pins σ Q) X.xe s
def Vals.one:∀{x:V}{us:List Ξ},Vals [x] us->∃u,us=[u]/\RelV x u
 |_,_,.cons r .nil=>⟨_,rfl,r⟩
def Vals.two:∀{x y:V}{us:List Ξ},Vals [x,y] us->∃u v,us=[u,v]/\RelV x u/\RelV y v
 |_,_,_,.cons r (.cons q .nil)=>⟨_,_,rfl,r,q⟩
def Vals.rep{xs:List V}{us:List Ξ}(h:Vals xs us):∀k:Nat,Vals (ν k xs).flatten (ν k us).flatten
 |0=>.nil
 |k+1=>by
  rw[aoW,aoW,ao3,ao3];exact Vals.append h (Vals.rep h k)
def foldl_rep(its:List Ξ):∀(k:Nat) (acc:List Ξ),
  List.foldl (λx1 x2=>x1++x2) acc.toArray (ν k its.toArray)=(acc++(ν k its).flatten).toArray
 |0,acc=>by simp
 |k+1,acc=>by
  have e:acc.toArray++its.toArray=(acc++its).toArray:=by simp
  have e2:(acc++its)++(ν k its).flatten=acc++(ν (k+1) its).flatten:=by
   rw[aoW,ao3,aop]
  rw[<-e2,<-foldl_rep its k (acc++its),<-e,aoW,apR]
section
variable {X:Cx}{pins:List (Ψ×Obj)}{σ:St}{H:Hp}{s:Ω}{l b:Ψ}{xs ys zs:List V}
def Inv.DP{its its':List Ξ}{n:Nat}{f:Array Ξ->Array Ξ}{t':Nat}(I:Inv X pins σ H s)(hH:H l=ζ (.lst xs))
  (e:s.heap.get? l=ζ {cls:=.type "list",data:=.seq its.toArray n}) (hf:f its.toArray=its'.toArray) (hv:Vals ys its') (hz:ys.length<=ε) :
  Inv X pins σ (upd H l (.lst ys)) {s with heap:=s.heap.update l (Obj.mapSeq f),toks:=t'}:=by
 have q:=arC e f;rw[hf]at q;refine I.write (x:=l) (e:=l) (by rw[hH];exact trivial) (.inl rfl) (λb' u hb hu=>(ap4 s.heap (Obj.mapSeq f) (aoD hb)).trans hu) ⟨_,q⟩ ?_
 exact⟨hz,its',_,hv,q⟩
def Inv.NN{its:List Ξ}{t':Nat}(I:Inv X pins σ H s)(hv:Vals ys its)(hz:ys.length<=ε) :
  Inv X pins σ (upd H s.heap.objs.size (.lst ys)) {s with heap:=s.heap.push {cls:=.type "list",data:=.seq its.toArray},toks:=t'} :=
 I.laid (λ_ _ q=>anY _ q) (anU _) ⟨hz,its,0,hv,aoc _ rfl⟩
def Inv.fresh(I:Inv X pins σ H s):H s.heap.objs.size=η:=I.hok.fresh (anU _)
def Inv.lM(I:Inv X pins σ H s)(hH:H l=ζ (.lst xs)):xs.length<=ε/\∃(its:List Ξ) (n:Nat),Vals xs its/\xs.length=its.length/\s.heap.get? l=ζ {cls:=.type "list",data:=.seq its.toArray n}:=by
 obtain⟨z,its,n,r,e⟩:=I.hok l _ hH;exact⟨z,its,n,r,r.length,e⟩
def MJ{n:Nat}(h:n<=ε):Builtin.List.listTooLong n=Δ:=by
 unfold Builtin.List.listTooLong;exact decide_eq_false (by omega)
end
section
variable {X:Cx}
def Yn:V->List V->Hp->VK->Prop:=λx vs H Q=>∃l xs y,x=.ref l/\vs=[y]/\H l=ζ (.lst xs)/\xs.length<ε/\Q .aF (upd H l (.lst (xs++[y])))
def Nx:yr X "list.append" Yn:=by
 intro pins s σ H x vs v us Q I rx rv h;obtain⟨l,xs,y,rfl,rfl,hH,hz,q⟩:=h;cases rx;obtain⟨u,rfl,ru⟩:=rv.one;obtain⟨z,its,n,r,hl,e⟩:=I.lM hH;refine apa F.slot_list_append ⟨_,e,rfl⟩ F.entry_list_append (F.args_list_append_2 _ _) (arD l its.toArray n u (by rw[an3];omega)) ⟨e,?_⟩
 refine⟨.aF,_,I.DP (its':=its++[u]) hH e (by simp) (r.append (.cons ru .nil)) ?_,rfl,q⟩
 rw[aon,aqQ];omega
def Yi:V->List V->Hp->VK->Prop:=λx vs H Q=>∃l b xs zs,x=.ref l/\vs=[.ref b]/\H l=ζ (.lst xs)/\H b=ζ (.lst zs)/\xs.length+zs.length<=ε/\Q .aF (upd H l (.lst (xs++zs)))
def aea:yr X "list.extend" Yi:=by
 intro pins s σ H x vs v us Q I rx rv h;obtain⟨l,b,xs,zs,rfl,rfl,hH,hB,hz,q⟩:=h;cases rx;obtain⟨u,rfl,ru⟩:=rv.one;cases ru;obtain⟨z,its,n,r,hl,e⟩:=I.lM hH;obtain⟨z2,its2,n2,r2,hl2,e2⟩:=I.lM hB;have hsz:its.toArray.size+its2.toArray.size<=ε:=by rw[an3,an3];omega
 have FT:¬(!its.toArray.isEmpty&&Builtin.List.listTooLong (its.toArray.size+its2.toArray.size))=θ:=by
  rw[MJ hsz,Bool.and_false];exact aoi
 refine apa F.slot_list_extend ⟨_,e,rfl⟩ F.entry_list_extend (F.args_list_extend_2 _ _)
  (AutoSeq1.list_extend_list_list_0 l its.toArray n b its2.toArray n2 FT (by rw[an3];omega) (by omega)) ⟨e,e2,?_⟩
 refine⟨.aF,_,I.DP (its':=its++its2) hH e (by simp) (r.append r2) ?_,rfl,q⟩
 rw[aon];omega
def Ym:R2:=λx y H Q=>∃l b xs zs,x=.ref l/\y=.ref b/\H l=ζ (.lst xs)/\H b=ζ (.lst zs)/\xs.length+zs.length<=ε/\∀p,H p=η->Q (.ref p) (upd H p (.lst (xs++zs)))
def aaM:bS X (binaryOp .Add) Ym:=by
 intro pins s σ H x y v u Q I rx ry h;obtain⟨l,b,xs,zs,rfl,rfl,hH,hB,hz,q⟩:=h;cases rx;cases ry;obtain⟨z,its,n,r,hl,e⟩:=I.lM hH;obtain⟨z2,its2,n2,r2,hl2,e2⟩:=I.lM hB;refine PySem.P.add_list e e2 ?_ (by rw[an3,an3];omega)
 have ea:its.toArray++its2.toArray=(its++its2).toArray:=by simp
 rw[ea];exact⟨.ref _,_,I.NN (t':=s.toks) (r.append r2) (by rw[aon];omega),rfl,q _ I.fresh⟩
def X8:R2:=λx y H Q=>∃l k xs,x=.ref l/\y=.int k/\H l=ζ (.lst xs)/\-(2^63)<=k/\k<2^63/\xs.length*k.toNat<=ε /\
 ∀p,H p=η->Q (.ref p) (upd H p (.lst (ν k.toNat xs).flatten))
def len_rep{α:Type}(xs:List α)(k:Nat):(ν k xs).flatten.length=k*xs.length:=by
 induction k with
 |zero=>simp
 |succ k ih=>rw[aoW,ao3,aon,ih,apr,Nat.add_comm]
def aay:bS X (binaryOp .Mult) X8:=by
 intro pins s σ H x y v u Q I rx ry h;obtain⟨l,k,xs,rfl,rfl,hH,h1,h2,hz,q⟩:=h;cases rx;obtain⟨t,rfl⟩:=ry;obtain⟨z,its,n,r,hl,e⟩:=I.lM hH;have hlen:its.toArray.size*k.toNat<=ε:=by rw[an3,<-hl];exact hz
 have hcap:¬its.toArray.size*k.toNat>(2^63-1)/8:=by
  have:(ε:Nat)<=(2^63-1)/8:=by decide
  omega
 have hfit:¬(!Builtin.List.listFitsIndex k)=θ:=by
  rw[fitsIndex_both h1 h2];exact aoi
 have FT:¬Builtin.List.listTooLong (its.toArray.size*k.toNat)=θ:=by
  rw[MJ hlen];exact aoi
 have hnew:List.foldl (λx1 x2=>x1++x2) #[] (ν (if its.toArray.isEmpty=θ then 0 else k.toNat) its.toArray)=(ν k.toNat its).flatten.toArray:=by
  have f0:∀m:Nat,List.foldl (λx1 x2=>x1++x2) #[] (ν m its.toArray)=(ν m its).flatten.toArray:=λm=>by
   have:=foldl_rep its m [];rw[an9]at this;exact this
  rw[f0];cases its with
  |nil=>simp
  |cons a r'=>rw[if_neg (by simp)]
 refine arE (T:="list") (U:="int") (by decide) ⟨_,e,rfl⟩ (λs'=>apQ s' k t) noFill_list_mul F.fills_int_mul ap5 repeat_list F.slot_int_index.lookup
  (apa ap5 (apQ s k t) F.entry_int_rmul (F.args_int_rmul_2 _ _) (int___rmul___int_list k t l its.toArray n)
   ⟨e,rfl,⟨_,e,rfl⟩,apa F.slot_list_mul ⟨_,e,rfl⟩ F.entry_list_mul (F.args_list_mul_2 _ _) (AutoListH.list___mul___list_int_3 l its.toArray n k t hfit hcap FT) ⟨e,?_⟩⟩)
 rw[hnew];exact⟨.ref _,_,I.NN (t':=s.toks) (r.rep k.toNat) (by rw[len_rep,Nat.mul_comm];exact hz),rfl,q _ I.fresh⟩
end
section
variable {prog:τ}{w:ψ}{A:χ}{E:Ξ->Ω->Prop}{s:Ω}
set_option maxRecDepth 100000 in
end
end L2
namespace Sz
open PySem PySem.W PySem.Calls PyProof.Rows
def afO{P:Params}{h:υ}:∀(ns:List Int) (vs:List Ξ),WellAll P h vs (ns.map WData.int)->agl vs ns:=by
 intro ns
 induction ns with
 |nil =>
  intro vs w;rw[aqR]at w;cases w;exact .nil
 |cons n ns ih =>
  intro vs w;rw[an8]at w;cases w with
  |cons a b =>
   cases a;exact .cons _ _ (ih _ b)
def WJ{l:OpenLaw}{n:Nat}(hn:l.most=ζ n){P:Params}{h:υ}{args:List WData}{vals:List Ξ}
  (hpre:l.row.toRowW.claim.pre args=θ) (hwl:WellAll P h vals args) :
  ∃a vs ns,vals=[Value.ref a]/\args=[WData.list (ns.map WData.int)]/\h.get? a=ζ {cls:=.type "list",data:=.seq vs.toArray}/\agl vs ns/\ns.length<=n:=by
 have hsh:WShape.hasAll [] args [.list .int]=θ:=(pre_splitW hpre).1;have hc:l.pre.holds [] {args:=args}=θ:=(pre_splitW hpre).2;obtain⟨d,r,rfl,h1,h2⟩:=hasAllW_cons hsh;obtain rfl:=hasAllW_nil h2;obtain⟨xs,rfl,h3⟩:=hasW_list h1;obtain⟨ns,rfl⟩:=items_int h3;have hlen:ns.length<=n:=by
  unfold OpenLaw.pre at hc;have h4:(WTm.not (.lt (.lit (.int (n:Int))) (.len (.arg 0)))).holds [] {args:=[.list (ns.map .int)]}=θ:=by
   have h4:=(holds_andW hc).1;rw[hn]at h4;exact h4
  have h5:=condW_of h4 (w_not (w_lt w_lit (w_len_list (w_arg rfl))));rw[an2]at h5;refine arF λq=>?_
  have q':(n:Int)<((ns.length:Nat):Int):=by omega
  first
   |(rw[decide_eq_true q']at h5;exact absurd h5 (by decide))
   |(simp at h5;omega)
 cases hwl with
 |cons w1 w2 =>
  cases w2;cases w1 with
  |list ho hall=>exact⟨_,_,ns,rfl,rfl,ho,afO ns _ hall,hlen⟩
def YR(l:OpenLaw)(args:List WData):l.row.toRowW.claim.post args (.bool θ) args=θ :=
 postW_of (r:=l.row.toRowW) (X:=(θ==θ))
  (show WShape.has [] (.bool θ) .bool=θ by first|rfl|decide|simp[WShape.has,WShape.arms,WShape.armsAll])
  (show(WTm.eq .res (.lit (.bool θ))).value [] {args:=args,res:=ζ (.bool θ),after:=args}=ζ (.bool (θ==θ))from w_eq_bool (w_res rfl) w_lit) rfl
def akG{l:OpenLaw}{n:Nat}{q:τ}{loose:List Str}{XP:(Str->Option Ξ)->υ->Prop}{YP:ψ->υ->Prop}{d:DefRec}
  (hn:l.most=ζ n) (hdf:d.params.defaults=[])
  (call:∀(w:ψ) (s₀ s₁:Ω) (mg mb:Str->Option Ξ) (fa:Ψ) (o:Obj) (pm cd doc:Ξ) (a:Ψ) (vs:List Ξ) (ns:List Int),
   Ground q loose [] XP w s₀ mg mb s₁.heap->YP w s₁.heap ->
   s₁.heap.get? fa=ζ o->o.data=.func (docDef d.name d.params d.body d.scope pm cd doc)->s₁.heap.CodeRec cd d.name->mg d.name=ζ (.ref fa) ->
   s₁.heap.get? a=ζ {cls:=.type "list",data:=.seq vs.toArray}->agl vs ns->ns.length<=n->s₁.gens=#[] ->
   codeAny (model l.prog w) callerA (.call (.ref fa) ⟨[.ref a],[]⟩) (λr s'=>r=.ok (.ret (.bool θ))/\OldK s₁.heap s'.heap/\s'.os=s₁.os/\aga s'.gens) s₁) :
  WalkO q loose XP YP l.row.toRowW d [] (λf vs=>PySem.call f vs):=by
 intro w s₀ s₁ mg mb G Y fa o pm cd doc dV kV ho hd hcd hD hmg hg args vals as hpre hlay hrd hwl hlo;obtain rfl:dV=.none:=Dflts.none hD hdf;obtain rfl:kV=.none:=Dflts.noKw hD;obtain⟨a,vs,ns,rfl,rfl,hobj,hints,hlen⟩:=WJ hn hpre hwl;refine enter_call (aoU (call w s₀ s₁ mg mb fa o pm cd doc a vs ns G Y ho (fd_plain hd) hcd hmg hobj hints hlen hg) λr s' hq=>?_)
 obtain⟨rfl,h2,h3,h4⟩:=hq;exact⟨.inl ⟨.bool θ,.bool θ,[],rfl,λ_=>rfl,.bool θ,YR l _,λ_=>⟨List.Pairwise.nil,λ_ hm=>(nomatch hm)⟩⟩,h2,h3,h4⟩
end Sz
namespace L2
open PySem PySem.Spec PyProof.Rows
def Kp:∀{vs:List Ξ}{ns:List Int},agl vs ns->Vals (ns.map V.int) vs
 |_,_,.nil=>.nil
 |_,_,.cons n t h=>.cons ⟨t,rfl⟩ (Kp h)
def cM(s:aar):agc:=match s with
 |.FunctionDef _ a _ _ _ _ _ _ _ _=>a
 |_=>{posonlyargs:=[],args:=[],vararg:=η,kwonlyargs:=[],kw_defaults:=[],kwarg:=η,defaults:=[]}
def cu(s:aar):List aar:=match s with
 |.FunctionDef _ _ b _ _ _ _ _ _ _=>b
 |_=>[]
def aW(s:aar):ac4:=match s with
 |.FunctionDef _ _ _ _ _ _ sc _ _ _=>sc
 |_=>{kind:=.function,names:=[],isGenerator:=Δ,isCoroutine:=Δ}
abbrev bO:nv:=λ_ _ _ _ _ _=>False
abbrev E0:XK:=λ_ _ _=>False
def aam{X:Cx}:Passes bO X E0:=λ_ _ _ _ _ _ _ h=>h.elim
structure j7 (K:Θ) (x qual:Str) (st:aar) (f:Ψ) (fd:ο):Prop where
 ex:∃(oc:Ξ) (od:Option Ψ) (kV doc pm:Ξ) (an:Option Ψ) (cdv ct:Ξ) (osl:Array (Option Ξ)),
  fd=PySem.W.fnOf x qual (cM st) (cu st) (aW st) .none kV doc pm an cdv ct/\K.lookup f=ζ ⟨oc,od,.func fd,osl⟩/\PySem.W.codeIn K cdv qual=θ
 kp:PySem.W.keepIn K (.ref f)=θ
section
variable {P:τ}{w:ψ}{K:Θ}{mg:Str->Option Ξ}{base:υ}
def j7.ok{x qual:Str}{st:aar}{f:Ψ}{fd:ο}{N ps:List Str}{k:Nat}{sp:Sp}(F:j7 K x qual st f fd)(S:cB N ps (aW st))(len:∀vs H Q E,sp vs H Q E->vs.length=ps.length)
  (hbody:∀(cdv:Ξ) (A:χ) (outer:List Env) (s:Ω) (H:Hp) (vs:List V) (Q:VK) (E:XK),cN k (A.deeper (envOfC qual (aW st) s.heap.objs.size f cdv))->sp vs H Q E ->
   ∃t,fE (fW bO P w K mg base N qual (aW st) f cdv A outer s H E).fP (cu st) t/\t {nx:=λ_ H'=>Q .aF H',rt:=Q} (start N vs) H):bU P w K mg base bO (k+1) f fd ps sp:=by
 obtain⟨oc,od,kV,doc,pm,an,cdv,ct,osl,rfl,lk,hcd⟩:=F.ex;refine Gj lk hcd S len λA outer s H vs Q E hr gb=>?_
 obtain⟨t,h,q⟩:=hbody cdv A outer s H vs Q E hr gb;exact⟨t,h.fP,q⟩
def j7.binds{x qual:Str}{st:aar}{f:Ψ}{fd:ο}{ps:List Str}(F:j7 K x qual st f fd)
  (h:∀(kV doc pm:Ξ) (an:Option Ψ) (cdv ct:Ξ) (us:List Ξ),us.length=ps.length->bindArgs (PySem.W.fnOf x qual (cM st) (cu st) (aW st) .none kV doc pm an cdv ct) ⟨us,[]⟩=pure (ps.zip us)):Binds K fd ps []:=by
 obtain⟨oc,od,kV,doc,pm,an,cdv,ct,osl,rfl,lk,hcd⟩:=F.ex;exact .all (h kV doc pm an cdv ct)
def cY{x qual:Str}{st:aar}{f:Ψ}{oc:Ξ}{od an:Option Ψ}{osl:Array (Option Ξ)}{kV doc pm cdv ct:Ξ}(l:K.lookup f=ζ ⟨oc,od,.func (PySem.W.fnOf x qual (cM st) (cu st) (aW st) .none kV doc pm an cdv ct),osl⟩)
  (c:PySem.W.codeIn K cdv qual=θ) (k:PySem.W.keepIn K (.ref f)=θ):j7 K x qual st f (PySem.W.fnOf x qual (cM st) (cu st) (aW st) .none kV doc pm an cdv ct):=⟨⟨oc,od,kV,doc,pm,an,cdv,ct,osl,rfl,l,c⟩,k⟩
end
def lR{A B:Prop}(h:B):if Δ=θ then A else B:=by
 rw[if_neg aoi];exact h
def lQ{A B:Prop}(h:A):if θ=θ then A else B:=by
 rw[if_pos rfl];exact h
def fB(X:Cx)(N':List Str)(scope:ac4)(cl:List (Str×Ψ))(C:Ψ)(s₀:Ω)(H₀:Hp)(ex:List Ψ)(pn:List (Ψ×Obj)):Cx where
 prog:=X.prog
 w:=X.w
 K:=X.K
 mg:=X.mg
 base:=X.base
 A:=X.A
 N:=N'
 s₀:=s₀
 H₀:=H₀
 env:=compEnvC scope cl C X.env
 outer:=X.stack
 stack:=X.stack
 ex:=ex
 fn:=λx=>scope.names.lookup x==ζ NameKind.cell
 calm:=X.calm
 pn:=pn
 xe:=λ_ _=>False
structure cI (X:Cx) (N':List Str) (pick:List (Option Nat)) (scope:ac4):Prop where
 kind:scope.kind=.function
 nd:N'.Nodup
 names:∀x∈scope.names,x.2=.local->scope.names.lookup x.1=ζ .local
 uniq:(scope.names.map (·.1)).Nodup
 len:pick.length=N'.length
 got:∀(i j:Nat) (x:Str),pick[i]? = ζ (ζ j)->N'[i]? = ζ x->scope.names.lookup x=ζ .free/\X.N[j]? = ζ x
 free:∀x∈scope.names,x.2=.free->X.env.kindOf x.1=ζ .cell\/X.env.kindOf x.1=ζ .free
def lg(pick:List (Option Nat))(σ:St):St:=pick.map λo=>o.bind λj=>(σ[j]?).bind id
def rD(X:Cx)(ifs:List π)(t:TT):Prop :=
 ∀(pins:List (Ψ×Obj)) (s:Ω) (σ:St) (H:Hp) (Q:Bool->Hp->Prop),Inv X pins σ H s->t σ H Q ->
  wpAny (model X.prog X.w) X.A (forIn ifs θ λc r=>if r=θ then do let ok <-isTrue c X.env (eval c X.env);pure (ForInStep.yield ok)else pure (ForInStep.yield r)) (TP X pins σ Q) X.xe s
def UY:TT:=λ_ H Q=>Q θ H
def ZH{X:Cx}:rD X [] UY:=λpins s σ H Q I h=>wpAny_tests_nil ⟨H,I,h⟩
def ZG{X:Cx}{c:π}{t:TT}(h:PT X c t):rD X [c] t:=λpins s σ H Q I q=>wpAny_tests_one (h pins s σ H Q I q)
def JH(J:It)(g:TG)(tt:TT)(te:TE)(Q:VK)(σ:St)(H:Hp):Prop:=∃W:Nat->Nat->St->List V->Hp->Prop,(∃m,W 0 m σ [] H) /\
  ∀i m σ' ys H,W i m σ' ys H->ys.length<ε /\
    ((J.stop i H/\∀p,H p=η->Q (.ref p) (upd H p (.lst ys))) \/
     (J.go i H/\∃N:St->List V->Hp->Prop,(∀σ2 zs H2,N σ2 zs H2->∃m',m'<m/\W (i+1) m' σ2 zs H2)/\∀x H',J.vV i H x H'->g x σ' H' λσ2 H2=>tt σ2 H2 λb H3 =>
        if b=θ then te σ2 H3 λy H4=>N σ2 (ys++[y]) H4 else N σ2 ys H3))
def yX(wi:TI)(pick:List (Option Nat))(g:TG)(tt:TT)(te:TE):TE:=λσ H Q=>wi σ H λJ H1=>JH J g tt te Q (lg pick σ) H1
def gh(env:Env):List (Str×abF)->List (Str×Ψ)->List (Str×Ψ)
 |[],acc=>acc
 |(n,k)::r,acc=>gh env r (if(k==NameKind.free)=θ then(n,(env.cells.lookup n).getD 0)::acc else acc)
def BG{env:Env}:∀(names:List (Str×abF)) (acc:List (Str×Ψ)),(∀x∈names,x.2=.free->∃c,env.cells.lookup x.1=ζ c) ->
  (forIn names acc fun(x:Str×abF) cs=>(if(x.2==NameKind.free)=θ then do let a <-cellOf env x.1;pure (ForInStep.yield ((x.1,a)::cs))else pure (ForInStep.yield cs):Sem (ForInStep (List (Str×Ψ)))))=pure (gh env names acc)
 |[],acc,_=>rfl
 |(n,k)::r,acc,h=>by
  rw[aqS]
  by_cases hk:(k==NameKind.free)=θ
  ·obtain⟨c,hc⟩:=h (n,k) aoR (by simpa using hk)
   have e1:cellOf env n=pure c:=by unfold cellOf;rw[show env.cells.lookup n=ζ c from hc]
   simp only[hk,if_true,e1,pure_bind];rw[BG r _ λx hx=>h x (aoA _ hx)]
   show _=pure (gh env r (if(k==NameKind.free)=θ then _ else _))
   rw[if_pos hk,show env.cells.lookup n=ζ c from hc]
   rfl
  ·simp only[hk,aoX,if_false,pure_bind];rw[BG r _ λx hx=>h x (aoA _ hx)]
   show _=pure (gh env r (if(k==NameKind.free)=θ then _ else _))
   rw[if_neg hk]
def Jp{env:Env}{x:Str}{c:Ψ}:∀(names:List (Str×abF)) (acc:List (Str×Ψ)),(gh env names acc).lookup x=ζ c ->
  ((x,NameKind.free)∈names/\c=(env.cells.lookup x).getD 0)\/acc.lookup x=ζ c
 |[],acc,h=>.inr h
 |(n,k)::r,acc,h=>by
  unfold gh at h
  rcases Jp r _ h with⟨a,b⟩|q
  ·exact .inl ⟨aoA _ a,b⟩
  ·by_cases hk:(k==NameKind.free)=θ
   ·rw[if_pos hk,aox]at q;cases hx:x==n with
    |true =>
     rw[hx]at q;have e1:x=n:=by simpa using hx
     have e2:k=.free:=by simpa using hk
     subst e1;subst e2;exact .inl ⟨aoR,(an6 q).symm⟩
    |false=>rw[hx]at q;exact .inr q
   ·rw[if_neg hk]at q;exact .inr q
def Jq{env:Env}{x:Str}:∀(names:List (Str×abF)) (acc:List (Str×Ψ)),(acc.lookup x).isSome=θ\/(x,NameKind.free)∈names->((gh env names acc).lookup x).isSome=θ
 |[],acc,h=>h.elim id λz=>by cases z
 |(n,k)::r,acc,h=>by
  unfold gh;refine Jq r _ ?_
  by_cases hk:(k==NameKind.free)=θ
  ·rw[if_pos hk,aox];cases hx:x==n with
   |true=>exact .inl rfl
   |false =>
    refine h.imp id λz=>?_
    rcases anW.mp z with e|z
    ·exact absurd (show(x==n)=θ by cases e;simp) (by rw[hx];simp)
    ·exact z
  ·rw[if_neg hk];refine h.imp id λz=>?_
   rcases anW.mp z with e|z
   ·exact absurd (show(k==NameKind.free)=θ by cases e;rfl) hk
   ·exact z
def Ie{x:Str}{c:Ψ}:∀(names:List (Str×abF)) (n:Nat) (acc:List (Str×Ψ)),(cellsFrom n names acc).lookup x=ζ c->(n<=c/\(x,NameKind.cell)∈names)\/acc.lookup x=ζ c
 |[],_,_,h=>.inr h
 |(y,k)::r,n,acc,h=>by
  unfold cellsFrom at h
  by_cases hk:(k==NameKind.cell)=θ
  ·rw[if_pos hk]at h
   rcases Ie r _ _ h with⟨a,b⟩|q
   ·exact .inl ⟨aom (aps _) a,aoA _ b⟩
   ·rw[aox]at q;cases hx:x==y with
    |true =>
     rw[hx]at q;have e1:x=y:=by simpa using hx
     have e2:k=.cell:=by simpa using hk
     subst e1;subst e2;exact .inl ⟨aoY (an6 q),aoR⟩
    |false=>rw[hx]at q;exact .inr q
  ·rw[if_neg hk]at h
   rcases Ie r _ _ h with⟨a,b⟩|q
   ·exact .inl ⟨a,aoA _ b⟩
   ·exact .inr q
def Ic:∀(names:List (Str×abF)) (n:Nat) (acc:List (Str×Ψ)),(∀x y c,acc.lookup x=ζ c->acc.lookup y=ζ c->x=y)->(∀x c,acc.lookup x=ζ c->c<n) ->
  ∀x y c,(cellsFrom n names acc).lookup x=ζ c->(cellsFrom n names acc).lookup y=ζ c->x=y
 |[],_,_,hi,_,x,y,c,h1,h2=>hi x y c h1 h2
 |(z,k)::r,n,acc,hi,hl,x,y,c,h1,h2=>by
  unfold cellsFrom at h1 h2
  by_cases hk:(k==NameKind.cell)=θ
  ·rw[if_pos hk]at h1 h2;refine Ic r (n+1) ((z,n)::acc) (λx y c e1 e2=>?_) (λx c e=>?_) x y c h1 h2
   ·rw[aox]at e1 e2;cases hx:x==z with
    |true =>
     rw[hx]at e1;cases hy:y==z with
     |true=>exact(by simpa using hx:x=z).trans (by simpa using hy:y=z).symm
     |false =>
      rw[hy]at e2;have e3:n=c:=an6 e1;exact absurd (e3▸hl y c e2) (aot _)
    |false =>
     rw[hx]at e1;cases hy:y==z with
     |true =>
      rw[hy]at e2;have e3:n=c:=an6 e2;exact absurd (e3▸hl x c e1) (aot _)
     |false=>rw[hy]at e2;exact hi x y c e1 e2
   ·rw[aox]at e;cases hx:x==z with
    |true=>rw[hx]at e;have e3:n=c:=an6 e;exact e3▸apb n
    |false=>rw[hx]at e;exact apc (hl x c e)
  ·rw[if_neg hk]at h1 h2;exact Ic r n acc hi hl x y c h1 h2
def Ig{x:Str}{c:Ψ}:∀(names:List (Str×abF)) (h:υ) (acc:List (Str×Ψ)),(cellsFrom h.objs.size names acc).lookup x=ζ c->acc.lookup x=ζ c\/(h.objs.size<=c/\(pushCells h names).IsCell c η)
 |[],_,_,e=>.inl e
 |(y,k)::r,h,acc,e=>by
  unfold cellsFrom at e;unfold pushCells
  by_cases hk:(k==NameKind.cell)=θ
  ·rw[if_pos hk]at e ⊢;have e':=e;rw[show h.objs.size+1=(h.push {cls:=.type "cell",data:=.cell η}).objs.size from(aoy ..).symm]at e'
   rcases Ig r _ _ e' with q|⟨a,q⟩
   ·rw[aox]at q;cases hx:x==y with
    |true =>
     rw[hx]at q;have e3:h.objs.size=c:=an6 q;subst e3;exact .inr ⟨anU _,_,aqT _ _ _ _ (aoc _ rfl),rfl⟩
    |false=>rw[hx]at q;exact .inl q
   ·refine .inr ⟨?_,q⟩;rw[aoy]at a;omega
  ·rw[if_neg hk]at e ⊢;exact Ig r h acc e
def Ti{M:Model}{A:χ}{E:Ξ->Ω->Prop}{s:Ω}{scope:ac4}{globals:Ψ}{cl:List (Str×Ψ)}{qual:Str}{env:Env}{Q:Env->Ω->Prop}
  (hQ:∀h',(∀b o,s.heap.get? b=ζ o->h'.get? b=ζ o)->h'.Ns s.heap.objs.size (λ_=>η) ->
   (∀x c,(cellsFrom (s.heap.objs.size+1) scope.names cl).lookup x=ζ c->cl.lookup x=ζ c\/(s.heap.objs.size<c/\h'.IsCell c η)) ->
   Q {scope,locals:=s.heap.objs.size,globals,cells:=cellsFrom (s.heap.objs.size+1) scope.names cl,qual,func:=η,code:=env.code,frame:=env.frame,builtins:=env.builtins} {s with heap:=h'}) :
  wpAny M A (newFunctionEnv scope globals cl [] qual η .none (ζ env)) Q E s:=by
 simp only[newFunctionEnv,Option.isSome_some,if_true];refine anS (wpAny_alloc ?_);refine anS (wpAny_layCells _ (λname kind cells=>by cases hkc:kind==NameKind.cell<;>simp[hkc]) _ _ _ _ ?_)
 rw[show({s with heap:=s.heap.push {cls:=.type "dict",data:=.dict #[]} }:Ω).heap.objs.size=s.heap.objs.size+1 from aoy ..]
 refine anS (anT (anT ?_));refine hQ _ (λb o e=>aqT _ _ b o (anY _ e)) ((Heap.Ns.new s.heap (.type "dict")).keeps (aqT _ _)) λx c e=>?_
 have e':=e;rw[show s.heap.objs.size+1=(s.heap.push {cls:=.type "dict",data:=.dict #[]}).objs.size from(aoy ..).symm]at e'
 rcases Ig scope.names (s.heap.push {cls:=.type "dict",data:=.dict #[]}) cl e' with q|⟨a,q⟩
 ·exact .inl q
 ·refine .inr ⟨?_,q⟩;rw[aoy]at a;omega
def zm{env:Env}{x:Str}{k':abF}:∀{names:List (Str×abF)},(names.map fun(n,k)=>if(k==NameKind.free&&env.scope.kind == .function&&env.kindOf n==ζ .cell)then(n,NameKind.cell)else(n,k)).lookup x=ζ k' ->
  ∃k,names.lookup x=ζ k/\(k'=k\/(k=.free/\k'=.cell))
 |[],h=>by cases h
 |(n,k)::r,h=>by
  rw[an8]at h
  by_cases hc:(k==NameKind.free&&env.scope.kind == .function&&env.kindOf n==ζ .cell)=θ
  ·have e:(match((n,k):Str×abF)with|(n,k)=>if(k==NameKind.free&&env.scope.kind == .function&&env.kindOf n==ζ .cell)then(n,NameKind.cell)else(n,k))=(n,NameKind.cell):=if_pos hc
   rw[e,aox]at h;rw[aox];cases hx:x==n with
   |true =>
    rw[hx]at h;have hk:k=.free:=by
     simp only[aoj]at hc
     simpa using hc.1.1
    exact⟨k,rfl,.inr ⟨hk,(an6 h).symm⟩⟩
   |false=>rw[hx]at h;exact zm h
  ·have e:(match((n,k):Str×abF)with|(n,k)=>if(k==NameKind.free&&env.scope.kind == .function&&env.kindOf n==ζ .cell)then(n,NameKind.cell)else(n,k))=(n,k):=if_neg hc
   rw[e,aox]at h;rw[aox];cases hx:x==n with
   |true=>rw[hx]at h;exact⟨k,rfl,.inl (an6 h).symm⟩
   |false=>rw[hx]at h;exact zm h
def Di{env:Env}{x:Str}{k:abF}:∀{names:List (Str×abF)},names.lookup x=ζ k ->
  ∃k',(names.map fun(n,k)=>if(k==NameKind.free&&env.scope.kind == .function&&env.kindOf n==ζ .cell)then(n,NameKind.cell)else(n,k)).lookup x=ζ k'/\(k'=k\/(k=.free/\k'=.cell))
 |[],h=>by cases h
 |(n,j)::r,h=>by
  rw[an8];rw[aox]at h
  by_cases hc:(j==NameKind.free&&env.scope.kind == .function&&env.kindOf n==ζ .cell)=θ
  ·have e:(match((n,j):Str×abF)with|(n,k)=>if(k==NameKind.free&&env.scope.kind == .function&&env.kindOf n==ζ .cell)then(n,NameKind.cell)else(n,k))=(n,NameKind.cell):=if_pos hc
   rw[e,aox];cases hx:x==n with
   |true =>
    rw[hx]at h;have hk:j=.free:=by
     simp only[aoj]at hc
     simpa using hc.1.1
    exact⟨.cell,rfl,.inr ⟨(an6 h).symm.trans hk,rfl⟩⟩
   |false=>rw[hx]at h;exact Di h
  ·have e:(match((n,j):Str×abF)with|(n,k)=>if(k==NameKind.free&&env.scope.kind == .function&&env.kindOf n==ζ .cell)then(n,NameKind.cell)else(n,k))=(n,j):=if_neg hc
   rw[e,aox];cases hx:x==n with
   |true=>rw[hx]at h;exact⟨j,rfl,.inl (an6 h)⟩
   |false=>rw[hx]at h;exact Di h
def DQ{x:Str}{k:abF}:∀{names:List (Str×abF)},(names.map (·.1)).Nodup->(x,k)∈names->names.lookup x=ζ k
 |[],_,h=>by cases h
 |(n,j)::r,nd,h=>by
  have nd:(n::r.map (·.1)).Nodup:=nd;obtain⟨n1,n2⟩:=ao9.mp nd;rw[aox]
  rcases anW.mp h with e|h2
  ·cases e;simp
  ·have hx:(x==n)=Δ:=by
    have:x≠n:=by
     intro e;exact n1 (aoa.mpr ⟨(x,k),h2,e⟩)
    simpa using this
   rw[hx];exact DQ n2 h2
def aj2{prog:τ}{w:ψ}{A:χ}{R:Result->Ω->Prop}{s:Ω}{elt target iter:π}{ifs:List π}{scope:ac4}{pos:Pos}{it acc:Ξ}{env:Env}(I:Nat->Ω->Prop)
  (turn:∀n s,I n s->wpAny (model prog w) A (pyNext it) (λr s₁=>match r with
   |none=>R (.ok .next) s₁
   |some v=>wpAny (model prog w) A (letOwnedTupleGo target it v) (λ_ s₁'=>wpAny (model prog w) A (assign target env v) (λ_ s₂ =>
     wpAny (model prog w) A (forIn ifs θ λc r=>if r=θ then do let ok <-isTrue c env (eval c env);pure (ForInStep.yield ok)else pure (ForInStep.yield r)) (λok s₃ =>
      if ok=θ then wpAny (model prog w) A (eval elt env) (λx s₄ =>
       wpAny (model prog w) A (call (.builtin "list.append") [acc,x]) (λ_ s₅=>∃m,m<n/\I m s₅) (λ_ _=>False) s₄) (λ_ _=>False) s₃
      else ∃m,m<n/\I m s₃) (λ_ _=>False) s₂) (λ_ _=>False) s₁') (λ_ _=>False) s₁) (λ_ _=>False) s)
  (n:Nat) (h:I n s) :
  codeAny (model prog w) A (.compLoop (.ListComp elt [⟨target,iter,ifs,0⟩] scope pos) 0 it acc env) R s:=by
 refine codeAny_loop rfl I (λn s hI=>?_) n h
 show wpAny _ A ((compTurn (.ListComp elt [⟨target,iter,ifs,0⟩] scope pos) 0 it acc env).onRaise (λx=>do noteFrame x env;theTreesLotGoes x)) _ _ s
 refine wpAny_noted ?_;rw[compTurn_list];refine anS (aqC (anS (aoe (turn n s hI) (λr s₁ h₁=>?_) λ_ _ h'=>h'.elim)))
 cases r with
 |none=>exact anT h₁
 |some v =>
  refine anS (aoe h₁ (λ_ s₁' h₁'=>?_) λ_ _ h'=>h'.elim)
  refine anS (aoe h₁' (λ_ s₂ h₂=>anS (aoe h₂ (λok s₃ h₃=>?_) λ_ _ h'=>h'.elim)) λ_ _ h'=>h'.elim)
  cases ok with
  |false=>exact anT ⟨rfl,h₃⟩
  |true =>
   exact anS (anS (aoe h₃ (λx s₄ h₄=>anS (aoe h₄ (λ_ s₅ h₅=>anT (anT ⟨rfl,h₅⟩)) λ_ _ h'=>h'.elim)) λ_ _ h'=>h'.elim))
section
variable {X:Cx}{N':List Str}{pick:List (Option Nat)}{scope:ac4}{pins:List (Ψ×Obj)}{σ:St}{H₂:Hp}{s₂:Ω}{tg:π}{J:It}{fp:List Ψ}{it:Ψ}{tn:Nat->υ->Prop}
def Qs(S:cI X N' pick scope)(I:Inv X pins σ H₂ s₂):closureFor scope X.env=pure (gh X.env scope.names []):=by
 have e:=BG (env:=X.env) scope.names [] λx hx hk=>I.ok.has x.1 (S.free x hx hk)
 show((forIn scope.names ([]:List (Str×Ψ)) fun(x:Str×abF) cs=>(if(x.2==NameKind.free)=θ then do let a <-cellOf X.env x.1;pure (ForInStep.yield ((x.1,a)::cs))else pure (ForInStep.yield cs):Sem (ForInStep (List (Str×Ψ))))) >>= λcs=>pure cs)=_
 rw[e,pure_bind]
def yd(S:cI X N' pick scope)(I:Inv X pins σ H₂ s₂){x:Str}{c:Ψ}(h:(gh X.env scope.names []).lookup x=ζ c):(x,NameKind.free)∈scope.names/\X.env.cells.lookup x=ζ c:=by
 rcases Jp _ _ h with⟨a,b⟩|q
 ·refine⟨a,?_⟩;obtain⟨c',hc⟩:=I.ok.has x (S.free _ a rfl);rw[hc]at b ⊢;rw[b];rfl
 ·cases q
def yb(S:cI X N' pick scope)(I:Inv X pins σ H₂ s₂){n:Nat}{x:Str}{c:Ψ}(h:(cellsFrom n scope.names (gh X.env scope.names [])).lookup x=ζ c) :
  (n<=c/\scope.names.lookup x=ζ .cell)\/(scope.names.lookup x=ζ .free/\X.env.cells.lookup x=ζ c):=by
 rcases Ie _ _ _ h with⟨a,b⟩|q
 ·exact .inl ⟨a,DQ S.uniq b⟩
 ·obtain⟨a,b⟩:=yd S I q;exact .inr ⟨DQ S.uniq a,b⟩
def Qt(S:cI X N' pick scope)(I:Inv X pins σ H₂ s₂){n:Nat}{x:Str}{c:Ψ}(hx:scope.names.lookup x=ζ .free)(hc:X.env.cells.lookup x=ζ c) :
  (cellsFrom n scope.names (gh X.env scope.names [])).lookup x=ζ c:=by
 have h1:((gh X.env scope.names []).lookup x).isSome=θ:=Jq _ _ (.inr (aoV hx));obtain⟨c',h2⟩:=ap3.mp (apP scope.names n _ (.inr h1))
 rcases yb S I h2 with⟨_,z⟩|⟨_,z⟩
 ·rw[hx]at z;cases z
 ·rw[hc]at z;cases z;exact h2
def ahG(I:Inv X pins σ H₂ s₂){b:Ψ}(hb:b∈frs X.stack):b<s₂.heap.objs.size:=by
 rcases anW.mp (I.k8 b hb)with e|hb
 ·rw[e];exact I.lt
 ·by_cases q:b<s₂.heap.objs.size
  ·exact q
  ·exact absurd hb (I.DC (Nat.not_lt.mp q))
def ajY(S:cI X N' pick scope)(I:Inv X pins σ H₂ s₂)(hf:∀b∈fp,eG X pins H₂ b)(hfo:∀b∈fp,b<s₂.heap.objs.size){n:Nat}{C:Ψ}{s₄:Ω}(hn:s₂.heap.objs.size<=n)(hC:s₂.heap.objs.size<=C)(hCn:C<n)
  (hos:s₄.os=s₂.os) (hge:s₄.gens=s₂.gens) (kp:∀b o,s₂.heap.get? b=ζ o->s₄.heap.get? b=ζ o) (ns:s₄.heap.Ns C λ_=>η)
  (ce:∀x c,(cellsFrom n scope.names (gh X.env scope.names [])).lookup x=ζ c->(gh X.env scope.names []).lookup x=ζ c\/(n<=c/\s₄.heap.IsCell c η)) :
  Inv (fB X N' scope (cellsFrom n scope.names (gh X.env scope.names [])) C s₂ H₂ fp (X.pn++pins)) [] (lg pick σ) H₂ s₄:=by
 have fr:∀{a:Ψ},s₂.heap.objs.size<=a->H₂ a=η:=λh=>I.hok.fresh h
 have old:∀{x:Str}{c:Ψ},X.env.cells.lookup x=ζ c->c<s₂.heap.objs.size:=fun{x c} e=>let⟨v,z⟩:=I.cell x c e;z.lt
 have YS:∀p∈X.pn++pins,p.1<s₂.heap.objs.size:=λp hp=>anV (I.pin p hp).1
 refine⟨⟨I.ok.mod,S.kind,I.ok.glob,I.ok.blt,hC,?inj,?has,?jf,I.ok.hd,I.ok.frames,.inl rfl,?lX,I.bs,aom I.ok.gg I.sz,?i7,?kM,I.stack,I.wu⟩,
  hos,by rw[hge];exact I.bare,Un.kept kp,⟨_,ns,?loc⟩,?cell,fr hC,?fU,?pin,I.hok.kept kp,?len⟩
 case inj =>
  refine Ic _ _ _ (λx y c h1 h2=>?_) λx c h=>?_
  ·exact I.ok.inj x y c (yd S I h1).2 (yd S I h2).2
  ·exact an5 (old (yd S I h).2) hn
 case has =>
  intro x hx;have hx:(relabel scope X.env).names.lookup x=ζ .cell\/(relabel scope X.env).names.lookup x=ζ .free:=hx;have go:∀k,scope.names.lookup x=ζ k->k=.cell\/k=.free->∃c,(cellsFrom n scope.names (gh X.env scope.names [])).lookup x=ζ c:=λk hk hq=>by
   rcases hq with rfl|rfl
   ·exact ap3.mp (apP _ _ _ (.inl hk))
   ·obtain⟨c,hc⟩:=I.ok.has x (S.free _ (aoV hk) rfl);exact⟨c,Qt S I hk hc⟩
  rcases hx with hx|hx
  ·obtain⟨k,hk,e|⟨e,_⟩⟩:=zm hx
   ·exact go k hk (.inl e.symm)
   ·exact go k hk (.inr e)
  ·obtain⟨k,hk,e|⟨_,e⟩⟩:=zm hx
   ·exact go k hk (.inr e.symm)
   ·cases e
 case jf =>
  intro x c hx hc;have hx:scope.names.lookup x=ζ .cell:=by simpa[fB]using hx
  rcases yb S I hc with⟨a,_⟩|⟨a,_⟩
  ·exact aom hn a
  ·rw[hx]at a;cases a
 case lX =>
  intro b hb;refine⟨an0 (an5 (hfo b hb) hC),λx c hc=>?_⟩
  rcases yb S I hc with⟨a,_⟩|⟨_,a⟩
  ·exact aoK (an5 (hfo b hb) (aom hn a))
  ·exact(hf b hb).2.2.2.2.1 x c a
 case i7 =>
  intro b o e hb
  rcases(hf b hb).2.2.2.1 with z|z
  ·exact I.ok.i7 b o e z
  ·exact absurd (an5 (anV e) (aom I.ok.gg z)) (aot _)
 case kM =>
  intro b hb hs
  rcases anW.mp (I.k8 b hs)with e|e
  ·exact(hf b hb).2.1 e
  ·exact(hf b hb).2.2.1 e
 case loc =>
  intro i x v h1 h2 h3;have h1:N'[i]? = ζ x:=h1;have hp:∃j,pick[i]? = ζ (ζ j)/\σ[j]? = ζ (ζ v):=by
   unfold lg at h2;rw[aoH]at h2;cases e:pick[i]? with
   |none=>rw[e]at h2;cases h2
   |some o =>
    rw[e]at h2;cases o with
    |none=>cases h2
    |some j =>
     refine⟨j,rfl,?_⟩;have h2':(σ[j]?).bind id=ζ v:=an6 h2;cases e2:σ[j]? with
     |none=>rw[e2]at h2';cases h2'
     |some q=>rw[e2]at h2';exact congrArg ζ h2'
  obtain⟨j,hj,hv⟩:=hp;obtain⟨hfr,hN⟩:=S.got i j x hj h1;have hk:=S.free _ (aoV hfr) rfl;obtain⟨m,hm,hl⟩:=I.loc;obtain⟨u,ru,lk⟩:=hl j x v hN hv (.inr hk);refine⟨u,ru,?_⟩
  rcases lk with⟨z,_⟩|⟨_,c,hc,hcell⟩
  ·rcases hk with q|q<;>(rw[show X.env.kindOf x=_ from z]at q;cases q)
  ·refine .inr ⟨?_,c,Qt S I hfr hc,hcell.keeps kp⟩;show(relabel scope X.env).names.lookup x=ζ .cell\/(relabel scope X.env).names.lookup x=ζ .free;obtain⟨k',hk',e|⟨_,e⟩⟩:=Di (env:=X.env) hfr
   ·exact .inr (by rw[<-e];exact hk')
   ·exact .inl (by rw[<-e];exact hk')
 case cell =>
  intro x c hc
  rcases ce x c hc with z|⟨_,z⟩
  ·obtain⟨v,q⟩:=I.cell x c (yd S I z).2;exact⟨v,q.keeps kp⟩
  ·exact⟨η,z⟩
 case fU =>
  intro x c hc
  rcases yb S I hc with⟨a,_⟩|⟨_,a⟩
  ·exact fr (aom hn a)
  ·exact I.fU x c a
 case pin =>
  intro p hp;have hp:p∈X.pn++pins:=by simpa[fB]using hp
  obtain⟨e,n0,ne,nf,d⟩:=I.pin p hp;refine⟨kp _ _ e,n0,an0 (an5 (YS p hp) hC),λz=>?_,d⟩
  rcases anW.mp (I.k8 _ z)with e|e
  ·exact ne e
  ·exact nf e
 case len =>
  unfold lg;rw[an2];exact S.len
end
section
variable {X:Cx}{N':List Str}{pick:List (Option Nat)}{scope:ac4}{pins:List (Ψ×Obj)}{σ:St}{H₂:Hp}{s₂:Ω}{tg:π}{J:It}{fp:List Ψ}{it:Ψ}{tn:Nat->υ->Prop}
 {elt iter:π}{ifs:List π}{pos:Pos}{g:TG}{tt:TT}{te:TE}
def Ql{E:Ξ->Ω->Prop}{RR:Ξ->Ψ->Result->Ω->Prop}{Qv:V->Hp->Prop}(S:cI X N' pick scope)(hc:X.calm=θ)(jk:Inv X pins σ H₂ s₂)(T:Turn X.prog X.w X.K tg J fp it tn)(st:tn 0 s₂.heap)(hf:∀b∈fp,eG X pins H₂ b)
    (hg:∀cl C s₀ H₀ ex pn,PG (fB X N' scope cl C s₀ H₀ ex pn) tg g) (hi:∀cl C s₀ H₀ ex pn,rD (fB X N' scope cl C s₀ H₀ ex pn) ifs tt) (he:∀cl C s₀ H₀ ex pn,PE (fB X N' scope cl C s₀ H₀ ex pn) elt te)
    {W:Nat->Nat->St->List V->Hp->Prop}{m0:Nat}(h0:W 0 m0 (lg pick σ) [] H₂)
    (turn:∀i m σ' ys H,W i m σ' ys H->ys.length<ε /\
      ((J.stop i H/\∀p,H p=η->Qv (.ref p) (upd H p (.lst ys))) \/
       (J.go i H/\∃N:St->List V->Hp->Prop,(∀σ2 zs H2,N σ2 zs H2->∃m',m'<m/\W (i+1) m' σ2 zs H2)/\∀x H',J.vV i H x H'->g x σ' H' λσ2 H2=>tt σ2 H2 λb H3 =>
          if b=θ then te σ2 H3 λy H4=>N σ2 (ys++[y]) H4 else N σ2 ys H3)))
    (fin:∀(D C:Ψ) (H':Hp) (s':Ω) (m:Str->Option Ξ),Inv X pins σ H' s'->eG X pins H' C->s'.heap.Ns C m->Qv (.ref D) H'->RR (.ref D) C (.ok .next) s') :
    wpAny (model X.prog X.w) X.A (newList []) (λacc s₃=>wpAny (model X.prog X.w) X.A (newFunctionEnv scope X.env.globals (gh X.env scope.names []) [] X.env.qual η .none (ζ X.env)) (λcenv s₄ =>
      codeAny (model X.prog X.w) X.A (.compStart (.ListComp elt [⟨tg,iter,ifs,0⟩] scope pos) 0 (.ref it) acc {cenv with scope:=relabel scope X.env}) (RR acc cenv.locals) s₄) E s₃) E s₂:=by
  have hfo:∀b∈fp,b<s₂.heap.objs.size:=λb hb=>let⟨o,e,_⟩:=T.obj 0 _ st b hb;anV e
  refine apA (Ti λh₄ kp ns ce=>?_)
  generalize F8:s₂.heap.push {cls:=.type "list",dict:=η,data:=.seq ([]:List Ξ).toArray}=H3 at kp ns ce ⊢
  have hC:H3.objs.size=s₂.heap.objs.size+1:=by rw[<-F8,aoy]
  have qx:∀b o,s₂.heap.get? b=ζ o->h₄.get? b=ζ o:=λb o e=>kp b o (F8▸anY _ e)
  have hD:h₄.get? s₂.heap.objs.size=ζ {cls:=.type "list",data:=.seq ([]:List Ξ).toArray}:=kp _ _ (F8▸aoc _ rfl);have oM:s₂.heap.objs.size<=H3.objs.size:=by rw[hC];exact aps _
  have hDC:s₂.heap.objs.size≠H3.objs.size:=by rw[hC];exact an0 (apb _)
  generalize hcl:cellsFrom (H3.objs.size+1) scope.names (gh X.env scope.names [])=cl at ce
  have Jz:Inv (fB X N' scope cl H3.objs.size s₂ H₂ fp (X.pn++pins)) [] (lg pick σ) H₂ {s₂ with heap:=h₄}:=by
    subst hcl;exact ajY S jk hf hfo (n:=H3.objs.size+1) (aom oM (aps _)) oM (apb _) rfl rfl qx ns λx c e=>ce x c e
  have F3:∀x c,cl.lookup x=ζ c->c≠s₂.heap.objs.size:=λx c e=>by
    subst hcl
    rcases yb S jk e with⟨a,_⟩|⟨_,a⟩
    · refine aoK (an5 ?_ a)
      rw[hC];exact apc (apb _)
    · obtain⟨v,z⟩:=jk.cell x c a
      exact an0 z.lt
  have agT:∀x c,X.env.cells.lookup x=ζ c->c≠H3.objs.size:=λx c e=>by
    obtain⟨v,z⟩:=jk.cell x c e;exact an0 (an5 z.lt oM)
  generalize gP:fB X N' scope cl H3.objs.size s₂ H₂ fp (X.pn++pins)=X' at Jz
  have yH:X'.prog=X.prog:=by subst gP;rfl
  have xw:X'.w=X.w:=by subst gP;rfl
  have xK:X'.K=X.K:=by subst gP;rfl
  have xA:X'.A=X.A:=by subst gP;rfl
  have JR:X'.calm=θ:=by subst gP;exact hc
  have yI:X'.env.locals=H3.objs.size:=by subst gP;rfl
  have SY:X'.env.cells=cl:=by subst gP;rfl
  have SQ:X'.env=compEnvC scope cl H3.objs.size X.env:=by subst gP;rfl
  have Co:X'.fs=frs X.stack:=by subst gP;rfl
  have Cp:X'.ex=fp:=by subst gP;rfl
  have Cm:X'.s₀=s₂:=by subst gP;rfl
  have JQ:X'.pn=X.pn++pins:=by subst gP;rfl
  have SK:X'.xe=λ_ _=>False:=by subst gP;rfl
  have Tg:X'.H₀=H₂:=by subst gP;rfl
  have hg':PG X' tg g:=by subst gP;exact hg _ _ _ _ _ _
  have hi':rD X' ifs tt:=by subst gP;exact hi _ _ _ _ _ _
  have he':PE X' elt te:=by subst gP;exact he _ _ _ _ _ _
  have pJ:∀{H':Hp}{pl:List (Ψ×Obj)},(∀b∈fp,H' b=η)->(∀p∈pl,s₂.heap.objs.size<=p.1)->∀b∈fp,eG X' pl H' b:=fun{H' pl} hn hp b hb=>by
    have hlt:=hfo b hb;obtain⟨_,f1,f2,f3,f4,f5⟩:=hf b hb;refine⟨hn b hb,by rw[yI];exact an0 (an5 hlt oM),?_,.inl (by rw[Cp];exact hb),λx c e=>?_,λp g9=>?_⟩
    · rw[Co]
      intro z
      rcases anW.mp (jk.k8 b z)with e|e
      · exact f1 e
      · exact f2 e
    · have:=Jz.ok.lX b (by rw[Cp];exact hb)
      exact this.2 x c e
    · rcases aou.mp g9 with z|z
      · rw[JQ]at z;exact f5 p z
      · exact aoK (an5 hlt (hp p z))
  have LO:∀{H':Hp}{s':Ω}{σ':St}{o:Obj},Inv X' [] σ' H' s'->s'.heap.get? s₂.heap.objs.size=ζ o->H' s₂.heap.objs.size=η->(∀v,o.data≠.cell v)->Inv X' [(s₂.heap.objs.size,o)] σ' H' s':=fun{H' s' σ' o} I e hn hnc =>
    I.wR λp hp=>by
      obtain rfl:p=(s₂.heap.objs.size,o):=by simpa using hp
      refine⟨e,hn,by rw[yI];exact hDC,?_,hnc⟩
      rw[Co];intro z;exact absurd (ahG jk z) (aot _)
  have BP:H₂ s₂.heap.objs.size=η:=jk.hok.fresh (anU _)
  let Iv:Nat->Ω->Prop:=λn s'=>∃(i:Nat) (σ':St) (ys:List V) (H':Hp) (its:List Ξ) (k:Nat),Inv X' [(s₂.heap.objs.size,{cls:=.type "list",data:=.seq its.toArray k})] σ' H' s'/\Vals ys its/\tn i s'.heap/\(∀b∈fp,H' b=η)/\W i n σ' ys H'
  have loop:codeAny (model X.prog X.w) X.A (.compLoop (.ListComp elt [⟨tg,iter,ifs,0⟩] scope pos) 0 (.ref it) (.ref s₂.heap.objs.size) X'.env) (RR (.ref s₂.heap.objs.size) H3.objs.size) {s₂ with heap:=h₄}:=by
    refine aj2 Iv ?_ m0 ⟨0,_,[],H₂,[],_,LO Jz hD BP (λv q=>nomatch q),.nil,T.keep _ _ _ st λb _ o e=>qx b o e,λb hb=>(hf b hb).1,h0⟩
    rintro n s5 ⟨i,yC,ys,H5,its,k,I5,rv,pL,Av,w5⟩
    obtain⟨hlen,tr⟩:=turn i n yC ys H5 w5;have p5:∀{o:Obj},∀p∈[(s₂.heap.objs.size,o)],s₂.heap.objs.size<=p.1:=fun{o} p hp=>by
      obtain rfl:p=(s₂.heap.objs.size,o):=by simpa using hp
      exact anU _
    rw[<-xA]
    rcases tr with⟨stop,qf⟩|⟨go,N,hN,step⟩
    · have dn:=T.done X' yH xw xK JR i _ s5 yC H5 (λ_ _=>False) I5 (pJ Av p5) pL stop
      rw[xA]at dn ⊢;refine aoe dn (λr s6 h6=>?_) λ_ _ z=>z
      obtain⟨rfl,I6⟩:=h6;show RR (.ref s₂.heap.objs.size) H3.objs.size (.ok .next) s6;obtain⟨eD,nD,_⟩:=I6.pin _ (aoB _ aoR);have pD:Un (frs X.stack) fp H₂ H5 s₂.heap s6.heap:=by
        have:=I6.base;rw[Co,Cp,Cm,Tg]at this;exact this
      have lt:∀{b:Ψ}{o:Obj},s₂.heap.get? b=ζ o->b≠s₂.heap.objs.size:=λe=>an0 (anV e)
      have Uw:Un (frs X.stack) fp H₂ (upd H5 s₂.heap.objs.size (.lst ys)) s₂.heap s6.heap :=
        ⟨pD.keep,pD.slot,λb o e n hx=>by rw[bD (lt e)];exact pD.free b o e n hx,pD.there,λb xs e=>by rw[bD (dF e BP)];exact pD.tups b xs e,
          λb o u e=>by rw[bD (dF e BP)];exact pD.gr b o u e,λb ps e=>by rw[bD (dF e BP)];exact pD.gB b ps e⟩
      have agr:cQ X.prog X.w (upd H5 s₂.heap.objs.size (.lst ys)) s6.heap:=λb u e=>by
        by_cases hb:b=s₂.heap.objs.size
        · subst hb
          rw[fM]at e;cases e;exact⟨apl hlen,its,k,rv,eD⟩
        · rw[bD hb]at e
          have:=I6.hok b u e;rw[yH,xw]at this;exact this.stay (λ_ _ _ q=>q) (λc q=>by rw[bD (dF q nD)];exact q) λc xs q=>by rw[bD (dF q nD)];exact q
      have I7:Inv X pins σ (upd H5 s₂.heap.objs.size (.lst ys)) s6:=by
        refine jk.Ih (ch:=fp) ?_ Uw agr I6.bare λb hb=>?_
        · have:=I6.os;rw[Cm]at this;exact this
        · obtain⟨_,f1,f2,f3,f4,f5⟩:=hf b hb
          exact⟨f3,f1,f4,f5⟩
      obtain⟨m6,n6,_⟩:=I6.loc;rw[yI]at n6;have hC6:H5 H3.objs.size=η:=by have:=I6.free;rw[yI]at this;exact this
      refine fin _ _ _ s6 m6 I7 ⟨by rw[bD (aoD hDC)];exact hC6,?_,?_,.inr (aom jk.sz oM),agT,λp hp=>?_⟩ n6 (qf _ nD)
      · exact aoK (an5 jk.lt oM)
      · intro z
        exact absurd z (jk.DC oM)
      · exact an0 (an5 (anV (jk.pin p hp).1) oM)
    · have itm:=T.item X' yH xw xK JR i _ s5 yC H5 (λ_ _=>False) I5 (pJ Av p5) pL go
      refine aoe itm (λr s6 h6=>?_) λ_ _ z=>z
      obtain⟨u,rfl,h6⟩:=h6;refine aoe h6 (λ_ s7 h7=>?_) λ_ _ z=>z
      obtain⟨x,H7,I7,rx,y7,CV,fr7⟩:=h7;have I7':=I7.pinned (pJ fr7 p5) (T.obj _ _ CV);have mp:∀{α:Type}{t:Sem α}{Q:α->Ω->Prop}{s:Ω},wpAny (model X'.prog X'.w) X'.A t Q X'.xe s->wpAny (model X.prog X.w) X'.A t Q (λ_ _=>False) s:=fun{α t Q s} h=>by
        rw[yH,xw,SK]at h;exact h
      refine aoe (mp (hg' _ s7 yC H7 x u _ I7' rx (step x H7 y7))) (λ_ s8 h8=>?_) λ_ _ z=>z
      obtain⟨vU,H8,I8,q8⟩:=h8;refine aoe (mp (hi' _ s8 vU H8 _ I8 q8)) (λok s9 h9=>?_) λ_ _ z=>z
      obtain⟨H9,I9,q9⟩:=h9;have N3:∀{σ':St}{H':Hp}{s':Ω},Inv X' ([(s₂.heap.objs.size,{cls:=.type "list",data:=.seq its.toArray k})]++wU fp s7.heap) σ' H' s'->tn (i+1) s'.heap/\∀b∈fp,H' b=η:=fun{σ' H' s'} I=>by
        refine⟨T.keep _ _ _ CV λb hb o e=>(I.pin (b,o) (aoB _ (aoB _ (zY hb e)))).1,λb hb=>?_⟩
        obtain⟨o,e,d⟩:=T.obj _ _ CV b hb;exact(I.pin (b,o) (aoB _ (aoB _ (zY hb e)))).2.1
      cases ok with
      | false =>
        rw[if_neg aoi]at q9 ⊢;obtain⟨m',hm,w9⟩:=hN _ _ _ q9;obtain⟨t9,f9⟩:=N3 I9;exact⟨m',hm,i+1,vU,ys,H9,its,k,I9.rS,rv,t9,f9,w9⟩
      | true =>
        rw[if_pos rfl]at q9 ⊢;refine aoe (mp (he' _ s9 vU H9 _ I9 q9)) (λv wL h10=>?_) λ_ _ z=>z
        obtain⟨y,RO,RN,ry,uo⟩:=h10;obtain⟨m',hm,Ud⟩:=hN _ _ _ uo;obtain⟨Vq,f10⟩:=N3 RN;have RM:=RN.rS;obtain⟨eD,nD,cL,nfD,dD⟩:=RM.pin _ (aoB _ aoR);have hl:=rv.length;refine apa F.slot_list_append ⟨_,eD,rfl⟩ F.entry_list_append (F.args_list_append_2 _ _) (arD s₂.heap.objs.size its.toArray k v (by rw[an3];omega)) ⟨eD,?_⟩
        have q:=arC eD (·.push v);have I11:Inv X' [] vU RO {wL with heap:=wL.heap.update s₂.heap.objs.size (Obj.mapSeq (·.push v))}:=by
          refine(RM.wR (tW:=[]) λp hp=>by cases hp).turned (t':=wL.toks) (it:=s₂.heap.objs.size) (λb o hb e=>(ap4 wL.heap (Obj.mapSeq (·.push v)) (aoD hb)).trans e) nD cL (.inr (by rw[Cm];exact anU _)) (λx c hc=>F3 x c (by rw[<-SY];exact hc)) λp hp=>?_
          have hp:p∈X.pn++pins:=by rw[aoM,JQ]at hp;exact hp
          exact an0 (anV (jk.pin p hp).1)
        rw[show its.toArray.push v=(its++[v]).toArray by simp]at q
        refine⟨m',hm,i+1,vU,ys++[y],RO,its++[v],_,LO I11 q nD (λv q=>nomatch q),rv.append (.cons ry .nil),?_,f10,Ud⟩
        refine T.keep _ _ _ Vq λb hb o e=>(ap4 wL.heap (Obj.mapSeq (·.push v)) ?_).trans e
        exact aoK (hfo b hb)
  have e4:({scope:=relabel scope X.env,locals:=H3.objs.size,globals:=X.env.globals,cells:=cl,qual:=X.env.qual,func:=η,code:=X.env.code,frame:=X.env.frame,builtins:=X.env.builtins}:Env)=X'.env:=by rw[SQ];rfl
  have Lb:tn 0 h₄:=T.keep _ _ _ st λb _ o e=>qx b o e
  have goal:codeAny (model X.prog X.w) X.A (.compStart (.ListComp elt [⟨tg,iter,ifs,0⟩] scope pos) 0 (.ref it) (.ref s₂.heap.objs.size) X'.env) (RR (.ref s₂.heap.objs.size) H3.objs.size) {s₂ with heap:=h₄} :=
    codeAny_compStart_list loop (T.self _ 0 _ _ _ Lb loop)
  rw[<-e4]at goal;exact goal
def Inv.gone{H':Hp}{s':Ω}{h':υ}{C:Ψ}(I:Inv X pins σ H' s')(f:eG X pins H' C)(hs:agd C s'.heap h'):Inv X pins σ H' {s' with heap:=h'}:=by
 obtain⟨f0,f1,f2,f3,f4,f5⟩:=f;exact I.turned (t':=s'.toks) (λb o hb e=>(hs.2 b hb).trans e) f0 f1 f3 f4 f5
def LY{wi:TI}(S:cI X N' pick scope)(hc:X.calm=θ)(hit:PI X tg iter wi)
  (hg:∀cl C s₀ H₀ ex pn,PG (fB X N' scope cl C s₀ H₀ ex pn) tg g) (hi:∀cl C s₀ H₀ ex pn,rD (fB X N' scope cl C s₀ H₀ ex pn) ifs tt) (he:∀cl C s₀ H₀ ex pn,PE (fB X N' scope cl C s₀ H₀ ex pn) elt te)
  (hs:∀x,foldedSetIterable iter X.env x=pure x:=by intro _;rfl) :
  PE X (.ListComp elt [⟨tg,iter,ifs,0⟩] scope pos) (yX wi pick g tt te):=by
 intro pins s σ H Q I h;rw[eval_ListComp];refine arG (use:=η) rfl hs (Qs S I) S.kind S.names (bL (hit pins s σ H _ I h) λv s1 h1=>bL h1 λitv s2 h2=>?_)
 obtain⟨it,fp,tn,J,H2,rfl,I2,T,st2,f2,W,⟨m0,w0⟩,turn⟩:=h2;refine Ql (RR:=λacc C=>compPost (model X.prog X.w) X.A X.xe η (EP X pins σ Q) acc C) (Qv:=Q) S hc I2 T st2 f2 hg hi he w0 turn ?_
 intro D C H' s' m I' f' n' q';exact⟨m,n',λh' hs'=>⟨.ref D,H',I'.gone f' hs',rfl,q'⟩⟩
def U4(i:Nat)(t:TE):TS:=λD σ H=>t σ H λv H1=>D.nx (σ.set i (ζ v)) H1
def YH{wi:TI}{i:Nat}{y:Str}{py spos:Pos}(hsw:swapsWith (.ListComp elt [⟨tg,iter,ifs,0⟩] scope pos) (ζ (.Name y py)) spos.line X.env=pure θ)(hN:X.N.Nodup)(hy:X.N[i]? = ζ y)(hl:X.env.scope.names.lookup y=ζ .local)
  (S:cI X N' pick scope) (hc:X.calm=θ) (hit:PI X tg iter wi)
  (hg:∀cl C s₀ H₀ ex pn,PG (fB X N' scope cl C s₀ H₀ ex pn) tg g) (hi:∀cl C s₀ H₀ ex pn,rD (fB X N' scope cl C s₀ H₀ ex pn) ifs tt) (he:∀cl C s₀ H₀ ex pn,PE (fB X N' scope cl C s₀ H₀ ex pn) elt te)
  (hs:∀x,foldedSetIterable iter X.env x=pure x:=by intro _;rfl) :
  PS X (.Assign [.Name y py] (.ListComp elt [⟨tg,iter,ifs,0⟩] scope pos) spos) (U4 i (yX wi pick g tt te)):=by
 intro pins s σ H D I h;rw[exec_Assign_Name_used _ _ _ _ hsw];refine anS (aqC (anS ?_));show wpAny _ X.A (do let _ <-comprehension (.ListComp elt [⟨tg,iter,ifs,0⟩] scope pos) scope X.env _ (newList []) Δ (eval iter X.env) (ζ (assign (.Name y py) X.env))) _ _ s
 refine anS (aoe (arG (use:=ζ (assign (.Name y py) X.env)) (Q:=λ_ s'=>SP X pins D .next s') rfl hs (Qs S I) S.kind S.names
  (bL (hit pins s σ H _ I h) λv s1 h1=>bL h1 λitv s2 h2=>?_)) (λ_ s' hq=>anT (anT hq)) λ_ _ e=>e)
 obtain⟨it,fp,tn,J,H2,rfl,I2,T,st2,f2,W,⟨m0,w0⟩,turn⟩:=h2;refine Ql (RR:=λacc C=>compPost (model X.prog X.w) X.A X.xe (ζ (assign (.Name y py) X.env)) (λ_ s'=>SP X pins D .next s') acc C) (Qv:=λv H1=>D.nx (σ.set i (ζ v)) H1) S hc I2 T st2 f2 hg hi he w0 turn ?_
 intro Da C H' s' m I' f' n' q';show wpAny _ X.A (assign (.Name y py) X.env (.ref Da)) _ _ _;refine wpAny_assign_Name (La I' hN hy (.inl hl) (v:=.ref Da) rfl (λs'' JD ⟨a,sb,ha⟩=>?_) (.inr hl))
 have hCa:C≠a:=by
  rcases ha with e|e
  ·rw[e];exact f'.2.1
  ·exact aoD (f'.2.2.2.2.1 _ _ e)
 exact⟨m,n'.sameBut sb hCa,λh' hs'=>⟨_,H',JD.gone f' hs',q'⟩⟩
end
def Qn(XN:List Str)(xn:List (Str×abF))(N':List Str)(pick:List (Option Nat))(names:List (Str×abF)):Bool :=
 decide N'.Nodup&&names.all (λx=>decide (names.lookup x.1=ζ x.2))&&decide ((names.map (·.1)).Nodup)&&(pick.length==N'.length) &&
 (pick.zip N').all (λq=>match q.1 with|none=>θ|some j=>decide (names.lookup q.2=ζ NameKind.free)&&decide (XN[j]? = ζ q.2)) &&
 names.all (λx=>decide (x.2≠NameKind.free)||(decide (xn.lookup x.1=ζ NameKind.cell)||decide (xn.lookup x.1=ζ NameKind.free)))
def cI.of{X:Cx}{N':List Str}{pick:List (Option Nat)}{scope:ac4}(hk:scope.kind=.function)(h:Qn X.N X.env.scope.names N' pick scope.names=θ):cI X N' pick scope:=by
 unfold Qn at h;simp only[aoj,aoo,decide_eq_true_eq,beq_iff_eq,apB]at h;obtain⟨⟨⟨⟨⟨h1,h2⟩,h3⟩,h4⟩,h5⟩,h6⟩:=h;refine⟨hk,h1,λx hx e=>by rw[<-e];exact h2 x hx,h3,h4,λi j x hp hN=>?_,λx hx e=>?_⟩
 ·have hm:(ζ j,x)∈pick.zip N':=by
   have:(pick.zip N')[i]? = ζ (ζ j,x):=by rw[arH];exact⟨hp,hN⟩
   exact aoq this
  exact h5 _ hm |> λz=>by simpa using z
 ·rcases h6 x hx with z|z|z
  ·exact absurd e z
  ·exact .inl z
  ·exact .inr z
end L2
namespace PySem
open Sem (wp)
section
variable {prog:τ}{w:ψ}{A:χ}{E:Ξ->Ω->Prop}{s:Ω}
def adf{it l:Ψ}{i:Nat}{items:Array Ξ}{x:Ξ}{Q:Ξ->Ω->Prop}(hit:s.heap.IsTupleIter it l i)
  (hl:s.heap.IsTuple l items) (hx:items[i]? = ζ x)
  (hQ:∀h',h'.IsTupleIter it l (i+1)->agd it s.heap h'->Q x {s with heap:=h'}) :
  wpAny (model prog w) A (Builtin.SmallTypes.nextOf (.ref it)) Q E s:=by
 obtain⟨o,ho,hc,hd⟩:=id hit;obtain⟨ol,jb,_,nl,hdl⟩:=hl;unfold Builtin.SmallTypes.nextOf;refine anS (ap6 (name:=Str.ofString "__next__") hit.typeIs ap7
  (apd ap7 hit.typeIs arI ?_ (arJ _)))
 show wpAny _ _ (field (.ref it) 0 >>= _) _ _ s;refine anS (aoN ho hd (x:=.ref l) rfl ?_);show wpAny _ _ (if(Value.ref l==Value.none)=θ then _ else _) _ _ s
 rw[if_neg (show ¬((Value.ref l==Value.none)=θ)from aoi)]
 show wpAny _ _ (field (.ref it) 1 >>= _) _ _ s;refine anS (aoN ho hd (x:=.int i 0) rfl ?_);show wpAny _ _ (seqItems? (.ref l) >>= _) _ _ s;refine anS (ape jb hdl ?_);simp only[apC,hx];refine anS (wpAny_setField ho hd (by simp) (anT ⟨x,rfl,anT (hQ _ ?_ (apf ..))⟩))
 exact⟨_,aqP _ ho (Obj.isFreed_of_fields (Obj.data_mapFields hd _)),(Obj.cls_mapFields ..).trans hc,by
  rw[Obj.data_mapFields hd];simp[rawInt]⟩
def adg{it l:Ψ}{i:Nat}{items:Array Ξ}{Q:Ξ->Ω->Prop}(hh:A.handled=η)
  (hit:s.heap.IsTupleIter it l i) (hl:s.heap.IsTuple l items) (hx:items[i]? = η)
  (hE:∀h' e,Heap.ExtBut it s.heap h'->(∃o,h'.get? e=ζ o/\o.cls=.type "StopIteration")->E (.ref e) {s with heap:=h'}) :
  wpAny (model prog w) A (Builtin.SmallTypes.nextOf (.ref it)) Q E s:=by
 obtain⟨o,ho,hc,hd⟩:=id hit;obtain⟨ol,jb,_,nl,hdl⟩:=hl;unfold Builtin.SmallTypes.nextOf;refine anS (ap6 (name:=Str.ofString "__next__") hit.typeIs ap7
  (apd ap7 hit.typeIs arI ?_ (arJ _)))
 show wpAny _ _ (field (.ref it) 0 >>= _) _ _ s;refine anS (aoN ho hd (x:=.ref l) rfl ?_);show wpAny _ _ (if(Value.ref l==Value.none)=θ then _ else _) _ _ s
 rw[if_neg (show ¬((Value.ref l==Value.none)=θ)from aoi)]
 show wpAny _ _ (field (.ref it) 1 >>= _) _ _ s;refine anS (aoN ho hd (x:=.int i 0) rfl ?_);show wpAny _ _ (seqItems? (.ref l) >>= _) _ _ s;refine anS (ape jb hdl ?_);simp only[apC,hx];refine anS (apg (anS (wpAny_setField ho hd (by simp) ?_)))
 show wpAny _ _ (newExc (.type "StopIteration") [] >>= _) _ _ _;refine anS ?_;simp only[newExc,newTuple];refine anS (apA ?_ (by size_fits))
 refine anS (m:=firstArgMember _ _) (wpAny_of_eq (a:=Value.none) (by first|rfl|(simp only[firstArgMember];rfl)) ?_)
 refine apA ?_ (by size_fits)
 simp only[raiseNew];refine anS (wpAny_handled ?_)
 first|rw[show A.in1.handled=η from hh]|rw[hh]
 refine anS (anT (wpAny_throw ?_));exact hE _ _ (((apf ..).extBut.push _).push _) ⟨_,aoc _ rfl,rfl⟩
def Draws.tuple{prog:τ}{w:ψ}{A:χ}(hh:A.handled=η)(it l:Ψ)(hne:l≠it)(items:Array Ξ) :
  agC prog w A it [it,l] items.size (λi v=>items[i]? = ζ v) (λi h=>h.IsTupleIter it l i/\h.IsTuple l items) where
 live:=λ_ _ st=>let⟨o,ho,_⟩:=st.1;⟨o,ho⟩
 frame:=λ_ _ _ st hk=>⟨st.1.at λo e=>hk it (by simp) o e,let⟨o,e,r⟩:=st.2;⟨o,hk l (by simp) o e,r⟩⟩
 item:=λi s Q E hi st hQ=>by
  refine adf st.1 st.2 (x:=items[i]) (by simp[hi]) λh' agH hs'=>?_
  exact hQ _ h' s.toks (by simp[hi]) ⟨agH,let⟨o,e,r⟩:=st.2;⟨o,hs'.extBut _ _ hne e,r⟩⟩ hs'
 done:=λs Q E st hE=>adg hh st.1 st.2 (by simp) hE
structure ZA (z TI TO i1 i2:Ψ) (f1 f2:List Ψ):Prop where
 TIz:TI≠z
 TOz:TO≠z
 TITO:TI≠TO
 TIi1:TI≠i1
 TIi2:TI≠i2
 m1:i1∈f1
 m2:i2∈f2
 z1:z∉f1
 z2:z∉f2
 o1:TO∉f1
 o2:TO∉f2
 x1:i1∉f2
 x2:i2∉f1
def SG{z TI TO i1 i2:Ψ}{f1 f2:List Ψ}{n1 n2 k:Nat}{P1 P2:Nat->Ξ->Prop}{S1 S2:Nat->υ->Prop}{a b:Ξ}{Q:Ξ->Ω->Prop}(D:ZA z TI TO i1 i2 f1 f2)(D1:agC prog w A i1 f1 n1 P1 S1)(D2:agC prog w A i2 f2 n2 P2 S2)
  (hz:agi s.heap z TI TO .none) (hTI:aeT s.heap TI (.ref i1) (.ref i2)) (hTO:aeT s.heap TO a b)
  (h1:S1 k s.heap) (h2:S2 k s.heap) (hx:k<n1) (hy:k<n2)
  (hQ:∀x y h' tk,P1 k x->P2 k y->agi h' z TI TO (rawInt s.heap.objs.size)->aeT h' TO x y->S1 (k+1) h'->S2 (k+1) h'->aeT h' s.heap.objs.size x y ->
   (∀c o,c≠z->c≠TO->c≠i1->c≠i2->s.heap.get? c=ζ o->h'.get? c=ζ o)->Q (.ref s.heap.objs.size) {s with heap:=h',toks:=tk}) :
  wpAny (model prog w) A (Builtin.«zip.__next__» ⟨[.ref z],[]⟩) (λfin s'=>∃v,fin=.done (.ret v)/\Q v s') E s:=by
 have zL:i1≠z:=λe=>D.z1 (e▸D.m1)
 have DB:i2≠z:=λe=>D.z2 (e▸D.m2)
 have DF:TO≠i1:=λe=>D.o1 (e▸D.m1)
 have MS:TO≠i2:=λe=>D.o2 (e▸D.m2)
 have n12:i1≠i2:=λe=>D.x1 (e▸D.m2)
 show wpAny _ _ (field (.ref z) 2 >>= _) _ _ _;refine anS (aoN hz rfl (x:=.bool Δ) rfl ?_);show wpAny _ _ (field (.ref z) 3 >>= _) _ _ _;refine anS (aoN hz rfl (x:=.ref TI) rfl ?_);refine anS (ape hTI rfl ?_);show wpAny _ _ (Builtin.SmallTypes.ownedTupleIsFree (.ref z) >>= _) _ _ _;refine anS ?_;unfold Builtin.SmallTypes.ownedTupleIsFree;refine anS (aoN hz rfl (x:=.none) rfl (anT ?_));simp only[if_true];refine anS (apg ?_);refine anS (aoN hz rfl (x:=.ref TO) rfl ?_);refine anS (apD hz (by simp) λh₁ oF hs₁=>?_)
 replace oF:agi h₁ z TI TO .ellipsis:=oF
 refine anS ?_;simp only[aqU,arK,aqS,List.forIn_nil];refine anS (anS (ap8 ?_));show wpAny _ _ (Builtin.SmallTypes.nextOf (.ref i1) >>= _) _ _ _;refine anS (D1.item k _ _ _ hx (D1.frame _ _ _ h1 λc hc o e=>hs₁.extBut _ _ (λq=>D.z1 (q▸hc)) e) λx h₂ tk₂ px O0 hs₂=>anT ?_)
 have xO:aeT h₂ TO a b:=hs₂.extBut _ _ DF (hs₁.extBut _ _ D.TOz hTO);refine anS (ape xO rfl ?_);refine anS (aqV xO λh₃ Am jw=>?_)
 replace Am:aeT h₃ TO x b:=Am
 refine anS (ap9 (anT ?_));refine anS (anS (ap8 ?_));show wpAny _ _ (Builtin.SmallTypes.nextOf (.ref i2) >>= _) _ _ _;refine anS (D2.item k _ _ _ hy (D2.frame _ _ _ h2 λc hc o e=>jw.extBut _ _ (λq=>D.o2 (q▸hc)) (hs₂.extBut _ _ (λq=>D.x1 (q▸hc)) (hs₁.extBut _ _ (λq=>D.z2 (q▸hc)) e))) λy h₄ tk₄ py ahs oJ=>anT ?_)
 have OT:aeT h₄ TO x b:=oJ.extBut _ _ MS Am;refine anS (ape OT rfl ?_);refine anS (aqV OT λh₅ Al oH=>?_)
 replace Al:aeT h₅ TO x y:=Al
 refine anS (ap9 (anT (anT ?_)));refine anS (ape Al rfl ?_);refine anS (wpAny_newTuple ?_);have hsz:h₅.objs.size=s.heap.objs.size:=by rw[oH.1,oJ.1,jw.1,hs₂.1,hs₁.1]
 have Oh:agi h₅ z TI TO .ellipsis:=oH.extBut _ _ D.TOz.symm (oJ.extBut _ _ DB.symm (jw.extBut _ _ D.TOz.symm (hs₂.extBut _ _ zL.symm oF)));have agG:∀c o,c≠z->c≠TO->c≠i1->c≠i2->s.heap.get? c=ζ o->h₅.get? c=ζ o:=λc o c1 c2 c3 c4 e =>
  oH.extBut _ _ c2 (oJ.extBut _ _ c4 (jw.extBut _ _ c2 (hs₂.extBut _ _ c3 (hs₁.extBut _ _ c1 e))))
 have aht:S1 (k+1) h₅:=D1.frame _ _ _ O0 λc hc o e=>oH.extBut _ _ (λq=>D.o1 (q▸hc)) (oJ.extBut _ _ (λq=>D.x2 (q▸hc)) (jw.extBut _ _ (λq=>D.o1 (q▸hc)) e))
 have ahr:S2 (k+1) h₅:=D2.frame _ _ _ ahs λc hc o e=>oH.extBut _ _ (λq=>D.o2 (q▸hc)) e
 have Ol:z<h₅.objs.size:=anV Oh;show wpAny _ _ (Builtin.SmallTypes.ownedTupleHandOut (.ref z) (.ref h₅.objs.size) >>= _) _ _ _;refine anS ?_;unfold Builtin.SmallTypes.ownedTupleHandOut;have af2:agi (h₅.push {cls:=.type "tuple",data:=.seq #[x,y]}) z TI TO .ellipsis:=anY _ Oh;refine anS (apD af2 (by simp) λaf1 FI Ot=>?_)
 replace FI:agi af1 z TI TO (rawInt h₅.objs.size):=FI
 refine apD FI (by simp) λAd Ae Oq=>?_
 replace Ae:agi Ad z TI TO (rawInt h₅.objs.size):=Ae
 have up:∀c o,c≠z->h₅.get? c=ζ o->Ad.get? c=ζ o:=λc o c1 e=>Oq.extBut _ _ c1 (Ot.extBut _ _ c1 (anY _ e))
 have OS:aeT Ad h₅.objs.size x y:=Oq.extBut _ _ (aoK Ol) (Ot.extBut _ _ (aoK Ol) (aoc _ rfl));rw[hsz]at Ae OS;refine anT ⟨_,rfl,?_⟩;show Q (.ref h₅.objs.size) _;rw[hsz];exact hQ x y Ad _ px py Ae (up _ _ D.TOz Al) (D1.frame _ _ _ aht λc hc o e=>up c o (λq=>D.z1 (q▸hc)) e) (D2.frame _ _ _ ahr λc hc o e=>up c o (λq=>D.z2 (q▸hc)) e) OS λc o c1 c2 c3 c4 e=>up c o c1 (agG c o c1 c2 c3 c4 e)
def SH{z TI TO i1 i2:Ψ}{f1 f2:List Ψ}{n1 n2 k:Nat}{P1 P2:Nat->Ξ->Prop}{S1 S2:Nat->υ->Prop}{a b:Ξ}{Q:Fin->Ω->Prop}(D:ZA z TI TO i1 i2 f1 f2)(D1:agC prog w A i1 f1 n1 P1 S1)(D2:agC prog w A i2 f2 n2 P2 S2)
  (hz:agi s.heap z TI TO .none) (hTI:aeT s.heap TI (.ref i1) (.ref i2)) (hTO:aeT s.heap TO a b)
  (h1:S1 k s.heap) (h2:S2 k s.heap) (hend:k=n1\/(k<n1/\k=n2))
  (hE:∀h' tk e,(∀c o,c≠z->c≠TO->c≠i1->c≠i2->s.heap.get? c=ζ o->h'.get? c=ζ o)->(∃o,h'.get? e=ζ o/\o.cls=.type "StopIteration")->E (.ref e) {s with heap:=h',toks:=tk}) :
  wpAny (model prog w) A (Builtin.«zip.__next__» ⟨[.ref z],[]⟩) Q E s:=by
 have zL:i1≠z:=λe=>D.z1 (e▸D.m1)
 have DB:i2≠z:=λe=>D.z2 (e▸D.m2)
 have DF:TO≠i1:=λe=>D.o1 (e▸D.m1)
 have MS:TO≠i2:=λe=>D.o2 (e▸D.m2)
 show wpAny _ _ (field (.ref z) 2 >>= _) _ _ _;refine anS (aoN hz rfl (x:=.bool Δ) rfl ?_);show wpAny _ _ (field (.ref z) 3 >>= _) _ _ _;refine anS (aoN hz rfl (x:=.ref TI) rfl ?_);refine anS (ape hTI rfl ?_);show wpAny _ _ (Builtin.SmallTypes.ownedTupleIsFree (.ref z) >>= _) _ _ _;refine anS ?_;unfold Builtin.SmallTypes.ownedTupleIsFree;refine anS (aoN hz rfl (x:=.none) rfl (anT ?_));simp only[if_true];refine anS (apg ?_);refine anS (aoN hz rfl (x:=.ref TO) rfl ?_);refine anS (apD hz (by simp) λh₁ oF hs₁=>?_)
 replace oF:agi h₁ z TI TO .ellipsis:=oF
 refine anS ?_;simp only[aqU,arK,aqS,List.forIn_nil];refine anS (anS (ap8 ?_));show wpAny _ _ (Builtin.SmallTypes.nextOf (.ref i1) >>= _) _ _ _;have O1:S1 k h₁:=D1.frame _ _ _ h1 λc hc o e=>hs₁.extBut _ _ (λq=>D.z1 (q▸hc)) e
 rcases hend with rfl|⟨hlt,rfl⟩
 ·refine anS (D1.done _ _ _ O1 λh₂ e hs₂ he=>?_)
  obtain⟨oe,qB,hce⟩:=he;have Oj:agi h₂ z TI TO .ellipsis:=hs₂ _ _ zL.symm oF;have FY:e≠z:=λx=>by subst x;rw[Oj]at qB;cases qB;simp at hce
  refine apD Oj (by simp) λh₃ _ jw=>hE h₃ _ e (λc o c1 _ c3 _ x=>jw.extBut _ _ c1 (hs₂ _ _ c3 (hs₁.extBut _ _ c1 x))) ⟨oe,jw.extBut _ _ FY qB,hce⟩
 ·refine anS (D1.item k _ _ _ hlt O1 λx h₂ tk₂ px O0 hs₂=>anT ?_)
  have xO:aeT h₂ TO a b:=hs₂.extBut _ _ DF (hs₁.extBut _ _ D.TOz hTO);refine anS (ape xO rfl ?_);refine anS (aqV xO λh₃ Am jw=>?_)
  refine anS (ap9 (anT ?_));refine anS (anS (ap8 ?_));show wpAny _ _ (Builtin.SmallTypes.nextOf (.ref i2) >>= _) _ _ _;refine anS (D2.done _ _ _ (D2.frame _ _ _ h2 λc hc o e=>jw.extBut _ _ (λq=>D.o2 (q▸hc)) (hs₂.extBut _ _ (λq=>D.x1 (q▸hc)) (hs₁.extBut _ _ (λq=>D.z2 (q▸hc)) e))) λh₄ e oJ he=>?_)
  obtain⟨oe,qB,hce⟩:=he;have Oi:agi h₄ z TI TO .ellipsis:=oJ _ _ DB.symm (jw.extBut _ _ D.TOz.symm (hs₂.extBut _ _ zL.symm oF));have FY:e≠z:=λx=>by subst x;rw[Oi]at qB;cases qB;simp at hce
  refine apD Oi (by simp) λh₅ _ oH=>hE h₅ _ e (λc o c1 c2 c3 c4 x=>oH.extBut _ _ c1 (oJ _ _ c4 (jw.extBut _ _ c2 (hs₂.extBut _ _ c3 (hs₁.extBut _ _ c1 x))))) ⟨oe,oH.extBut _ _ FY qB,hce⟩
def Yq{z TI TO i1 i2:Ψ}{f1 f2:List Ψ}{n1 n2 k:Nat}{P1 P2:Nat->Ξ->Prop}{S1 S2:Nat->υ->Prop}{a b:Ξ}{Q:Option Ξ->Ω->Prop}(D:ZA z TI TO i1 i2 f1 f2)(D1:agC prog w A.in1 i1 f1 n1 P1 S1)(D2:agC prog w A.in1 i2 f2 n2 P2 S2)
  (hz:agi s.heap z TI TO .none) (hTI:aeT s.heap TI (.ref i1) (.ref i2)) (hTO:aeT s.heap TO a b)
  (h1:S1 k s.heap) (h2:S2 k s.heap) (hx:k<n1) (hy:k<n2)
  (hQ:∀x y h' tk,P1 k x->P2 k y->agi h' z TI TO (rawInt s.heap.objs.size)->aeT h' TO x y->S1 (k+1) h'->S2 (k+1) h'->aeT h' s.heap.objs.size x y ->
   (∀c o,c≠z->c≠TO->c≠i1->c≠i2->s.heap.get? c=ζ o->h'.get? c=ζ o)->Q (ζ (.ref s.heap.objs.size)) {s with heap:=h',toks:=tk}) :
  wpAny (model prog w) A (pyNext (.ref z)) Q E s:=by
 have hT:s.TypeIs (.ref z) "zip":=⟨_,hz,rfl⟩;unfold pyNext;exact anS (aqa (ap6 (name:=Str.ofString "__next__") hT aqb
  (apd aqb hT F.entry_zip_next
   (SG D D1 D2 hz hTI hTO h1 h2 hx hy λx y h' tk a0 b0 a1 a2 a3 a4 a5 a7=>anT (hQ x y h' tk a0 b0 a1 a2 a3 a4 a5 a7)) (F.args_zip_next_1 _))))
def Yr{z TI TO i1 i2:Ψ}{f1 f2:List Ψ}{n1 n2 k:Nat}{P1 P2:Nat->Ξ->Prop}{S1 S2:Nat->υ->Prop}{a b:Ξ}{Q:Option Ξ->Ω->Prop}(D:ZA z TI TO i1 i2 f1 f2)(D1:agC prog w A.in1 i1 f1 n1 P1 S1)(D2:agC prog w A.in1 i2 f2 n2 P2 S2)
  (hz:agi s.heap z TI TO .none) (hTI:aeT s.heap TI (.ref i1) (.ref i2)) (hTO:aeT s.heap TO a b)
  (h1:S1 k s.heap) (h2:S2 k s.heap) (hend:k=n1\/(k<n1/\k=n2))
  (hQ:∀h' tk,(∀c o,c≠z->c≠TO->c≠i1->c≠i2->s.heap.get? c=ζ o->h'.get? c=ζ o)->Q η {s with heap:=h',toks:=tk}):wpAny (model prog w) A (pyNext (.ref z)) Q E s:=by
 have hT:s.TypeIs (.ref z) "zip":=⟨_,hz,rfl⟩;unfold pyNext;refine anS (aqa (ap6 (name:=Str.ofString "__next__") hT aqb
  (apd aqb hT F.entry_zip_next (SH D D1 D2 hz hTI hTO h1 h2 hend λh' tk e hk he=>?_) (F.args_zip_next_1 _))))
 obtain⟨o,ho,hc⟩:=he;refine anS (apS (T:="StopIteration") (b:=θ) ⟨o,ho,hc⟩ isSubtype_stop ?_);exact anT (hQ _ _ hk)
abbrev yG(h:υ)(l1:Ψ):υ:=h.push {cls:=.type "tuple_iterator",data:=.fields #[.ref l1,.int 0 0]}
abbrev yF(h:υ)(l1 l2:Ψ):υ:=(yG h l1).push {cls:=.type "tuple_iterator",data:=.fields #[.ref l2,.int 0 0]}
abbrev yE(h:υ)(l1 l2:Ψ):υ:=(yF h l1 l2).push {cls:=.type "tuple",data:=.seq #[.ref h.objs.size,.ref (yG h l1).objs.size]}
abbrev yD(h:υ)(l1 l2:Ψ):υ:=(yE h l1 l2).push {cls:=.type "tuple",data:=.seq #[.none,.none]}
abbrev rJ(h:υ)(l1 l2:Ψ):υ:=(yD h l1 l2).push {cls:=.type "zip",data:=.fields #[.none,.bool Δ,.bool Δ,.ref (yF h l1 l2).objs.size,.ref (yE h l1 l2).objs.size]}
def alL{h:υ}{a:Ψ}{xs:Array Ξ}(x:h.IsTuple a xs)(o:Obj):(h.push o).IsTuple a xs:=let⟨q,e,r⟩:=x;⟨q,anY _ e,r⟩
def aeg(l1 l2:Ψ)(xs ys:Array Ξ) :
  Meets (Builtin.«zip.__new__» ⟨[.type "zip",.ref l1,.ref l2],[]⟩) (λ_ R s=>s.heap.IsTuple l1 xs/\s.heap.IsTuple l2 ys /\
   R (.ok (.ret (.ref (yD s.heap l1 l2).objs.size))) {s with heap:=rJ s.heap l1 l2}) :=
 .of_wp λprog w A R s h=>by
  obtain⟨hp,g,d,tk,os⟩:=s;obtain⟨hl1,hl2,h⟩:=h;have hsub:=sub_zip;have hL1:agF (Shared.heap ⟨hp,g,d,tk,os⟩) l1 xs:=hl1;have hL2:agF (Shared.heap ⟨hp.push {cls:=.type "tuple_iterator",data:=.fields #[.ref l1,.int 0 0]},g,d,tk,os⟩) l2 ys:=alL hl2 _
  wp_walk using apn hL1,apn hL2
  exact⟨_,rfl,h⟩
def akd{l1 l2:Ψ}{xs ys:Array Ξ}{Q:Ξ->Ω->Prop}(hl1:s.heap.IsTuple l1 xs)(hl2:s.heap.IsTuple l2 ys)
  (h:∀h',agi h' (s.heap.objs.size+4) (s.heap.objs.size+2) (s.heap.objs.size+3) .none->aeT h' (s.heap.objs.size+2) (.ref s.heap.objs.size) (.ref (s.heap.objs.size+1)) ->
   aeT h' (s.heap.objs.size+3) .none .none->h'.IsTupleIter s.heap.objs.size l1 0->h'.IsTupleIter (s.heap.objs.size+1) l2 0 ->
   (∀c o,s.heap.get? c=ζ o->h'.get? c=ζ o)->Q (.ref (s.heap.objs.size+4)) {s with heap:=h'}) :
  wpAny (model prog w) A (call (.type "zip") [.ref l1,.ref l2]) Q E s:=by
 refine callType_new F.called_zip (by decide) (F.typeCall_zip_2 _ _) (F.newCall_zip_2 _ _) (λobj=>F.args_object_init_3 obj _ _) F.entry_zip_new
  (aeg l1 l2 xs ys) ⟨hl1,hl2,?_⟩
 have z1:(yG s.heap l1).objs.size=s.heap.objs.size+1:=aoy ..;have z2:(yF s.heap l1 l2).objs.size=s.heap.objs.size+2:=by rw[aoy,z1]
 have z3:(yE s.heap l1 l2).objs.size=s.heap.objs.size+3:=by rw[aoy,z2]
 have z4:(yD s.heap l1 l2).objs.size=s.heap.objs.size+4:=by rw[aoy,z3]
 have g5:(rJ s.heap l1 l2).get? (yD s.heap l1 l2).objs.size=ζ _:=aoc _ rfl;have g4:(rJ s.heap l1 l2).get? (yE s.heap l1 l2).objs.size=ζ _:=anY _ (aoc _ rfl);have g3:(rJ s.heap l1 l2).get? (yF s.heap l1 l2).objs.size=ζ _:=anY _ (anY _ (aoc _ rfl));have g2:(rJ s.heap l1 l2).get? (yG s.heap l1).objs.size=ζ _:=anY _ (anY _ (anY _ (aoc _ rfl)));have g1:(rJ s.heap l1 l2).get? s.heap.objs.size=ζ _:=anY _ (anY _ (anY _ (anY _ (aoc _ rfl))));show _/\_;rw[z2,z3,z4]at g5;rw[z1,z2]at g3;rw[z3]at g4;rw[z1]at g2;rw[z4];exact⟨⟨_,g5,rfl⟩,h _ g5 g3 g4 ⟨_,g1,rfl,rfl⟩ ⟨_,g2,rfl,rfl⟩ λc o x =>
  anY _ (anY _ (anY _ (anY _ (anY _ x))))⟩
open AutoSeq1 (wpAny_loadPart')
def aeh(l:Ψ)(items:Array Ξ)(n:Nat)(dct:Option Ψ)(sl:Array (Option Ξ)) :
  Meets (Builtin.«enumerate.__new__» ⟨[.type "enumerate",.ref l],[]⟩) (λ_ R s=>s.heap.get? l=ζ {cls:=.type "tuple",dict:=dct,data:=.seq items n,slots:=sl} /\
   R (.ok (.ret (.ref (s.heap.push {cls:=.type "tuple_iterator",data:=.fields #[.ref l,.int 0 0]}).objs.size)))
    {s with heap:=(s.heap.push {cls:=.type "tuple_iterator",data:=.fields #[.ref l,.int 0 0]}).push {cls:=.type "enumerate",data:=.fields #[.none,.bool Δ,.ref s.heap.objs.size,rawInt 0,.none,.none]} }) :=
 .of_wp λprog w A R s h=>by
  obtain⟨hp,g,d,tk,os⟩:=s;obtain⟨hl,h⟩:=h;have hsub:=sub_enumerate;have hL:agF (Shared.heap ⟨hp,g,d,tk,os⟩) l items:=⟨_,hl,rfl,n,rfl⟩
  wp_walk using wpAny_loadPart' hl
  refine wpAny_stack_any λst=>anT ?_
  split
  ·rename_i c _ _ _ _ _;cases(c==Value.type "enumerate")
   ·wp_walk using wpAny_loadPart' hl,apn hL
    exact⟨_,rfl,h⟩
   ·wp_walk using wpAny_loadPart' hl,apn hL
    exact⟨_,rfl,h⟩
  ·wp_walk using wpAny_loadPart' hl,apn hL
   exact⟨_,rfl,h⟩
def akm{l:Ψ}{items:Array Ξ}{Q:Ξ->Ω->Prop}(hL:s.heap.IsTuple l items)
  (h:∀h',IsEnum h' (s.heap.objs.size+1) s.heap.objs.size 0 .none->h'.IsTupleIter s.heap.objs.size l 0->h'.objs.size=s.heap.objs.size+2 ->
   (∀b o,s.heap.get? b=ζ o->h'.get? b=ζ o)->Q (.ref (s.heap.objs.size+1)) {s with heap:=h'}) :
  wpAny (model prog w) A (call (.type "enumerate") [.ref l]) Q E s:=by
 obtain⟨⟨c,dct,dt,sl⟩,hl,hc,n,hd⟩:=hL
 replace hc:c=.type "tuple":=hc
 replace hd:dt=.seq items n:=hd
 subst hc hd;refine callType_new F.called_enumerate (by decide) (F.typeCall_enumerate_1 _) (F.newCall_enumerate_1 _) (λobj=>F.args_object_init_2 obj _) F.entry_enumerate_new
  (aeh l items n dct sl) ⟨hl,?_⟩
 have hz:(s.heap.push {cls:=.type "tuple_iterator",data:=.fields #[.ref l,.int 0 0]}).objs.size=s.heap.objs.size+1:=aoy ..;show _/\_;rw[hz];have he:IsEnum ((s.heap.push {cls:=.type "tuple_iterator",data:=.fields #[.ref l,.int 0 0]}).push
   {cls:=.type "enumerate",data:=.fields #[.none,.bool Δ,.ref s.heap.objs.size,rawInt 0,.none,.none]}) (s.heap.objs.size+1) s.heap.objs.size 0 .none:=by
  have:=aoc (s.heap.push {cls:=.type "tuple_iterator",data:=.fields #[.ref l,.int 0 0]})
   (o:={cls:=.type "enumerate",data:=.fields #[.none,.bool Δ,.ref s.heap.objs.size,rawInt 0,.none,.none]}) rfl
  rw[hz]at this;exact this
 refine⟨⟨_,he,rfl⟩,h _ he ⟨_,anY _ (aoc _ rfl),rfl,rfl⟩ (by rw[aoy,hz]) λb o x=>anY _ (anY _ x)⟩
end
end PySem
namespace L2
open PySem PySem.Spec PyProof.Rows
section
variable {X:Cx}{pins:List (Ψ×Obj)}{σ:St}{H:Hp}{s:Ω}{K:Θ}
def ahK{a b:Ψ}{xs:List V}(I:Inv X pins σ H s)(f:eG X pins H b)(q:cg X.K H a xs):a≠b:=by
 rintro rfl
 rcases q with(q|⟨o,q⟩)|⟨o,its,n,q,_⟩
 ·rw[f.1]at q;cases q
 ·rw[f.1]at q;cases q
 ·have e:=I.ok.mod.jR a o q
  rcases f.2.2.2.1 with z|z
  ·exact I.ok.i7 _ _ e z
  ·exact absurd (an5 (anV e) (aom I.ok.gg z)) (aot _)
def ahL{a b:Ψ}{xs:List V}(I:Inv X pins σ H s)(f:eG X pins H b)(q:bY X.K H a xs):a≠b:=by
 rintro rfl
 rcases q with(q|⟨o,q⟩)|⟨o,its,n,q,_⟩
 ·rw[f.1]at q;cases q
 ·rw[f.1]at q;cases q
 ·have e:=I.ok.mod.jR a o q
  rcases f.2.2.2.1 with z|z
  ·exact I.ok.i7 _ _ e z
  ·exact absurd (an5 (anV e) (aom I.ok.gg z)) (aot _)
def Inv.KD{h':υ}{t':Nat}{ch:List Ψ}{T:Ψ}{vs:List V}{us:List Ξ}(I:Inv X pins σ H s)(hf:∀b∈ch,eG X pins H b)(k:∀b o,b∉ch->s.heap.get? b=ζ o->h'.get? b=ζ o)
  (hT:s.heap.objs.size<=T) (th:∀b∈ch,∃o,h'.get? b=ζ o) (rv:Vals vs us) (hz:vs.length<=ε) (tup:j5 h' T us.toArray):Inv X pins σ (upd H T (.tup vs)) {s with heap:=h',toks:=t'}:=by
 have hn:H T=η:=I.hok.fresh hT;have jL:∀b u,H b=ζ u->b∉ch:=λb u e z=>by rw[(hf b z).1]at e;cases e
 refine I.step (g':=s.gens) (d':=s.drawn) (ch:=ch) (λb hb=>?_) (λb o _ _ hc e _=>k b o hc e) (λb o _ _ hc e _=>⟨o.slots,k b o hc e⟩) (λb o _ e n=>?_)
  (λb o hc e=>⟨o,k b o hc e⟩) (λb xs e=>by rw[bD (dF e hn)];exact e) (λb o u e=>by rw[bD (dF e hn)];exact e) (λb ps e=>⟨#[],by rw[bD (dF e hn),e];simp⟩) (λm hm=>?_) (λb u e=>?_) I.bare
 ·obtain⟨f0,f1,f2,f3,f4,f5⟩:=hf b hb;exact⟨f3,f1,f4,f5⟩
 ·rw[bD (an0 (an5 (anV e) hT))];exact n
 ·obtain⟨o,es,ep,ho,r⟩:=hm;exact⟨o,es,ep,k _ o (λz=>(hf _ z).2.1 rfl) ho,r⟩
 ·by_cases hb:b=T
  ·subst hb;rw[fM]at e;cases e;exact⟨hz,us,rv,tup⟩
  ·rw[bD hb]at e;refine(I.hok b u e).stay (λc v hc q=>k c v ?_ q) (λc q=>by rw[bD (dF q hn)];exact q) λc xs q=>by rw[bD (dF q hn)];exact q
   rcases hc with z|z
   ·rw[z];exact jL b u e
   ·exact jL c _ z
def Inv.KG{h':υ}{t':Nat}{ch:List Ψ}(I:Inv X pins σ H s)(hf:∀b∈ch,eG X pins H b)(k:∀b o,b∉ch->s.heap.get? b=ζ o->h'.get? b=ζ o):Inv X pins σ H {s with heap:=h',toks:=t'}:=by
 have jL:∀b u,H b=ζ u->b∉ch:=λb u e z=>by rw[(hf b z).1]at e;cases e
 refine I.step (g':=s.gens) (d':=s.drawn) (ch:=ch) (λb hb=>?_) (λb o _ _ hc e _=>k b o hc e) (λb o _ _ hc e _=>⟨o.slots,k b o hc e⟩) (λb o _ e n=>n)
  (λb o hc e=>⟨o,k b o hc e⟩) (λb xs e=>e) (λb o u e=>e) (λb ps e=>⟨#[],by rw[e];simp⟩) (λm hm=>?_) (λb u e=>?_) I.bare
 ·obtain⟨f0,f1,f2,f3,f4,f5⟩:=hf b hb;exact⟨f3,f1,f4,f5⟩
 ·obtain⟨o,es,ep,ho,r⟩:=hm;exact⟨o,es,ep,k _ o (λz=>(hf _ z).2.1 rfl) ho,r⟩
 ·refine(I.hok b u e).stay (λc v hc q=>k c v ?_ q) (λc q=>q) λc xs q=>q
  rcases hc with z|z
  ·rw[z];exact jL b u e
  ·exact jL c _ z
end
structure BI (P:τ) (w:ψ) (K:Θ) (Sq:Hp->Ψ->List V->Prop) (j6:υ->Ψ->Ψ->Nat->Prop) (vS:υ->Ψ->Array Ξ->Prop):Prop where
 get:∀{X:Cx}{pins:List (Ψ×Obj)}{σ:St}{H:Hp}{s:Ω}{a:Ψ}{xs:List V},X.K=K->Inv X pins σ H s->Sq H a xs->∃its:List Ξ,Vals xs its/\vS s.heap a its.toArray/\xs.length<=ε
 inj:∀{X:Cx}{pins:List (Ψ×Obj)}{σ:St}{H:Hp}{s:Ω}{a:Ψ}{xs ys:List V},X.K=K->Inv X pins σ H s->Sq H a xs->Sq H a ys->xs=ys
 ne:∀{X:Cx}{pins:List (Ψ×Obj)}{σ:St}{H:Hp}{s:Ω}{a b:Ψ}{xs:List V},X.K=K->Inv X pins σ H s->eG X pins H b->Sq H a xs->a≠b
 lZ:∀(A:χ) (it l:Ψ) (items:Array Ξ),A.handled=η->l≠it->agC P w A it [it,l] items.size (λi v=>items[i]? = ζ v) (λi h=>j6 h it l i/\vS h l items)
 obj:∀{h:υ}{it l:Ψ}{i:Nat},j6 h it l i->∃o,h.get? it=ζ o/\∀v,o.data≠.cell v
 at':∀{h h':υ}{it l:Ψ}{i:Nat},j6 h it l i->(∀o,h.get? it=ζ o->h'.get? it=ζ o)->j6 h' it l i
def Lj{P:τ}{w:ψ}{K:Θ}:BI P w K (cg K) (λh it l i=>h.IsTupleIter it l i) (λh a xs=>h.IsTuple a xs) where
 get:=λe I q=>by subst e;obtain⟨its,r,p,z⟩:=I.tuple q;exact⟨its,r,p,z⟩
 inj:=λe I q q'=>by subst e;exact I.KJ q q'
 ne:=λe I f q=>by subst e;exact ahK I f q
 lZ:=λA it l items hh hne=>Draws.tuple hh it l hne items
 obj:=λst=>by obtain⟨o,e,c,d⟩:=st;exact⟨o,e,λv z=>by rw[d]at z;cases z⟩
 at':=λst k=>st.at k
def WG{P:τ}{w:ψ}{K:Θ}:BI P w K (bY K) (λh it l i=>h.IsListIter it l i) (λh a xs=>h.IsList a xs) where
 get:=λe I q=>by subst e;obtain⟨its,r,p,z⟩:=I.list q;exact⟨its,r,p.isList,z⟩
 inj:=λe I q q'=>by subst e;exact I.NP q q'
 ne:=λe I f q=>by subst e;exact ahL I f q
 lZ:=λA it l items hh hne=>Draws.list hh it l hne items
 obj:=λst=>by obtain⟨o,e,c,d⟩:=st;exact⟨o,e,λv z=>by rw[d]at z;cases z⟩
 at':=λst k=>st.at k
def BO(Sq:Hp->Ψ->List V->Prop)(a1 a2:Ψ):It :=
  ⟨λi H=>∃xs ys x y,Sq H a1 xs/\Sq H a2 ys/\xs[i]? = ζ x/\ys[i]? = ζ y,
   λi H v H'=>∃t x y,v=.ref t/\H t=η/\H'=upd H t (.tup [x,y])/\∀xs ys,Sq H a1 xs->Sq H a2 ys->xs[i]? = ζ x/\ys[i]? = ζ y,
   λi H=>∃xs ys,Sq H a1 xs/\Sq H a2 ys/\(i=xs.length\/(i<xs.length/\i=ys.length))⟩
def JC(Sq:Hp->Ψ->List V->Prop)(a:Ψ):It :=
  ⟨λi H=>∃xs x,Sq H a xs/\xs[i]? = ζ x,
   λi H v H'=>∃t x,v=.ref t/\H t=η/\H'=upd H t (.tup [.int i,x])/\∀xs,Sq H a xs->xs[i]? = ζ x,
   λi H=>∃xs,Sq H a xs/\i=xs.length⟩
def yP{xs:List V}{us:List Ξ}{i:Nat}{u:Ξ}(r:Vals xs us)(h:us.toArray[i]? = ζ u):∃x,xs[i]? = ζ x/\RelV x u:=by
 have h':us[i]? = ζ u:=by simpa using h
 have hi:i<xs.length:=by rw[r.length];exact(an7.mp h').1
 obtain⟨u',e,q⟩:=r.get (i:=i) (x:=xs[i]) (anZ hi);rw[h']at e;cases e;exact⟨xs[i],anZ hi,q⟩
def KH{P:τ}{w:ψ}{K:Θ}{Sq:Hp->Ψ->List V->Prop}{j6:υ->Ψ->Ψ->Nat->Prop}{vS:υ->Ψ->Array Ξ->Prop}(S:BI P w K Sq j6 vS){es:List π}{k:Nat}{pt:Pos}(a1 a2 z TI TO i1 i2:Ψ)
  (n1:TI≠z) (n2:TO≠z) (n3:TI≠TO) (n4:TI≠i1) (n5:TI≠i2) (n6:TO≠i1) (n7:TO≠i2) (n8:i1≠z) (n9:i2≠z) (uo:i1≠i2) :
  Turn P w K (.Tuple es k pt) (BO Sq a1 a2) [z,TI,TO,i1,i2] z (λi h=>agi h z TI TO .none/\aeT h TI (.ref i1) (.ref i2)/\(∃a b,aeT h TO a b)/\j6 h i1 a1 i/\j6 h i2 a2 i) where
 mem:=by simp
 obj:=λi h st b hb=>by
  obtain⟨hz,hTI,⟨a,b',hTO⟩,h1,h2⟩:=st;simp only[anW,aob,or_false]at hb
  rcases hb with rfl|rfl|rfl|rfl|rfl
  ·exact⟨_,hz,λv q=>nomatch q⟩
  ·exact⟨_,hTI,λv q=>nomatch q⟩
  ·exact⟨_,hTO,λv q=>nomatch q⟩
  ·exact S.obj h1
  ·exact S.obj h2
 keep:=λi h h' st kp=>by
  obtain⟨hz,hTI,⟨a,b,hTO⟩,h1,h2⟩:=st;exact⟨kp _ (by simp) _ hz,kp _ (by simp) _ hTI,⟨a,b,kp _ (by simp) _ hTO⟩,S.at' h1 λo e=>kp _ (by simp) o e,S.at' h2 λo e=>kp _ (by simp) o e⟩
 item:=by
  intro X hP hw hK hc i pins s σ H E I hf st hg;subst hP hw;obtain⟨xs,ys,x,y,q1,q2,hx,hy⟩:=hg;obtain⟨hz,hTI,⟨a,b,hTO⟩,h1,h2⟩:=st;obtain⟨us,r1,p1,l1⟩:=S.get hK I q1;obtain⟨vs,r2,p2,l2⟩:=S.get hK I q2;have ne1:∀{b:Ψ},b∈[z,TI,TO,i1,i2]->a1≠b:=λhb=>S.ne hK I (hf _ hb) q1
  have ne2:∀{b:Ψ},b∈[z,TI,TO,i1,i2]->a2≠b:=λhb=>S.ne hK I (hf _ hb) q2
  have hx':i<us.toArray.size:=by have:=(an7.mp hx).1;have:=r1.length;simp;omega
  have hy':i<vs.toArray.size:=by have:=(an7.mp hy).1;have:=r2.length;simp;omega
  have D:ZA z TI TO i1 i2 [i1,a1] [i2,a2]:=⟨n1,n2,n3,n4,n5,by simp,by simp,by simp only[anW,aob,or_false,not_or];exact⟨n8.symm,(ne1 (by simp)).symm⟩,by simp only[anW,aob,or_false,not_or];exact⟨n9.symm,(ne2 (by simp)).symm⟩,
   by simp only[anW,aob,or_false,not_or];exact⟨n6,(ne1 (by simp)).symm⟩,by simp only[anW,aob,or_false,not_or];exact⟨n7,(ne2 (by simp)).symm⟩,
   by simp only[anW,aob,or_false,not_or];exact⟨uo,(ne2 (by simp)).symm⟩,by simp only[anW,aob,or_false,not_or];exact⟨uo.symm,(ne1 (by simp)).symm⟩⟩
  refine Yq D (S.lZ X.A.in1 i1 a1 us.toArray (I.ok.hd hc) (ne1 (by simp))) (S.lZ X.A.in1 i2 a2 vs.toArray (I.ok.hd hc) (ne2 (by simp))) hz hTI hTO ⟨h1,p1⟩ ⟨h2,p2⟩ hx' hy' λu v h' tk pu pv hz' OU s1 s2 hT kp=>?_
  refine⟨_,rfl,?_⟩;refine wpAny_letOwnedTupleGo_zip (s:={s with heap:=h',toks:=tk}) hz' λh'' Om lS=>?_
  obtain⟨x',ex,rx⟩:=yP r1 pu;obtain⟨y',ey,ry⟩:=yP r2 pv;have lt:∀{c:Ψ}{o:Obj},s.heap.get? c=ζ o->c≠s.heap.objs.size:=λe=>an0 (anV e)
  have qx:∀c o,c∉[z,TO,i1,i2]->s.heap.get? c=ζ o->h''.get? c=ζ o:=λc o hcn e=>by
   simp only[anW,aob,or_false,not_or]at hcn;exact lS.extBut _ _ hcn.1 (kp c o hcn.1 hcn.2.1 hcn.2.2.1 hcn.2.2.2 e)
  have hT2:j5 h'' s.heap.objs.size [u,v].toArray:=⟨_,lS.extBut _ _ (lt hz).symm hT,rfl,⟨_,rfl⟩,rfl⟩;have I2:Inv X pins σ (upd H s.heap.objs.size (.tup [x',y'])) {s with heap:=h'',toks:=tk}:=by
   refine I.KD (ch:=[z,TO,i1,i2]) (us:=[u,v]) (λb hb=>hf b ?_) qx (anU _) (λb hb=>?_) (.cons rx (.cons ry .nil)) (by show 2<=ε;decide) hT2
   ·simp only[anW,aob,or_false]at hb ⊢
    rcases hb with rfl|rfl|rfl|rfl<;>simp
   ·simp only[anW,aob,or_false]at hb
    rcases hb with rfl|rfl|rfl|rfl
    ·exact⟨_,Om⟩
    ·exact⟨_,lS.extBut _ _ n2 OU⟩
    ·obtain⟨o,e,_⟩:=S.obj s1.1;exact⟨_,lS.extBut _ _ n8 e⟩
    ·obtain⟨o,e,_⟩:=S.obj s2.1;exact⟨_,lS.extBut _ _ n9 e⟩
  refine⟨.ref s.heap.objs.size,_,I2,rfl,⟨_,x',y',rfl,I.hok.fresh (anU _),rfl,λxs' ys' w1 w2=>?_⟩,⟨Om,?_,⟨_,_,lS.extBut _ _ n2 OU⟩,S.at' s1.1 λo e=>lS.extBut _ _ n8 e,S.at' s2.1 λo e=>lS.extBut _ _ n9 e⟩,λb hb=>?_⟩
  ·rw[S.inj hK I w1 q1,S.inj hK I w2 q2];exact⟨ex,ey⟩
  ·exact lS.extBut _ _ n1 (kp _ _ n1 n3 n4 n5 hTI)
  ·have hb':b≠s.heap.objs.size:=by
    simp only[anW,aob,or_false]at hb
    rcases hb with rfl|rfl|rfl|rfl|rfl
    ·exact lt hz
    ·exact lt hTI
    ·exact lt hTO
    ·obtain⟨o,e,_⟩:=S.obj h1;exact lt e
    ·obtain⟨o,e,_⟩:=S.obj h2;exact lt e
   rw[bD hb'];exact(hf b hb).1
 done:=by
  intro X hP hw hK hc i pins s σ H E I hf st hg;subst hP hw;obtain⟨xs,ys,q1,q2,hend⟩:=hg;obtain⟨hz,hTI,⟨a,b,hTO⟩,h1,h2⟩:=st;obtain⟨us,r1,p1,l1⟩:=S.get hK I q1;obtain⟨vs,r2,p2,l2⟩:=S.get hK I q2;have ne1:∀{b:Ψ},b∈[z,TI,TO,i1,i2]->a1≠b:=λhb=>S.ne hK I (hf _ hb) q1
  have ne2:∀{b:Ψ},b∈[z,TI,TO,i1,i2]->a2≠b:=λhb=>S.ne hK I (hf _ hb) q2
  have D:ZA z TI TO i1 i2 [i1,a1] [i2,a2]:=⟨n1,n2,n3,n4,n5,by simp,by simp,by simp only[anW,aob,or_false,not_or];exact⟨n8.symm,(ne1 (by simp)).symm⟩,by simp only[anW,aob,or_false,not_or];exact⟨n9.symm,(ne2 (by simp)).symm⟩,
   by simp only[anW,aob,or_false,not_or];exact⟨n6,(ne1 (by simp)).symm⟩,by simp only[anW,aob,or_false,not_or];exact⟨n7,(ne2 (by simp)).symm⟩,
   by simp only[anW,aob,or_false,not_or];exact⟨uo,(ne2 (by simp)).symm⟩,by simp only[anW,aob,or_false,not_or];exact⟨uo.symm,(ne1 (by simp)).symm⟩⟩
  have e1:=r1.length;have e2:=r2.length;refine Yr D (S.lZ X.A.in1 i1 a1 us.toArray (I.ok.hd hc) (ne1 (by simp))) (S.lZ X.A.in1 i2 a2 vs.toArray (I.ok.hd hc) (ne2 (by simp))) hz hTI hTO (k:=i) ⟨h1,p1⟩ ⟨h2,p2⟩ (by simp only[an3];omega) λh' tk kp=>?_
  refine⟨rfl,I.KG (ch:=[z,TO,i1,i2]) (λb hb=>hf b ?_) λc o hcn e=>?_⟩
  ·simp only[anW,aob,or_false]at hb ⊢
   rcases hb with rfl|rfl|rfl|rfl<;>simp
  ·simp only[anW,aob,or_false,not_or]at hcn;exact kp c o hcn.1 hcn.2.1 hcn.2.2.1 hcn.2.2.2 e
 self:=λA i s Q E st h=>aqW st.1 h
def UG{P:τ}{w:ψ}{K:Θ}{Sq:Hp->Ψ->List V->Prop}{j6:υ->Ψ->Ψ->Nat->Prop}{vS:υ->Ψ->Array Ξ->Prop}(S:BI P w K Sq j6 vS){es:List π}{k:Nat}{pt:Pos}(a e it:Ψ)(n1:e≠it) :
  Turn P w K (.Tuple es k pt) (JC Sq a) [e,it] e (λi h=>(∃old,IsEnum h e it i old)/\j6 h it a i) where
 mem:=by simp
 obj:=λi h st b hb=>by
  obtain⟨⟨old,hz⟩,h1⟩:=st;simp only[anW,aob,or_false]at hb
  rcases hb with rfl|rfl
  ·exact⟨_,hz,λv q=>nomatch q⟩
  ·exact S.obj h1
 keep:=λi h h' st kp=>by
  obtain⟨⟨old,hz⟩,h1⟩:=st;exact⟨⟨old,kp _ (by simp) _ hz⟩,S.at' h1 λo e=>kp _ (by simp) o e⟩
 item:=by
  intro X hP hw hK hc i pins s σ H E I hf st hg;subst hP hw;obtain⟨xs,x,q1,hx⟩:=hg;obtain⟨⟨old,hz⟩,h1⟩:=st;obtain⟨us,r1,p1,l1⟩:=S.get hK I q1;have ne1:∀{b:Ψ},b∈[e,it]->a≠b:=λhb=>S.ne hK I (hf _ hb) q1
  have hx':i<us.toArray.size:=by have:=(an7.mp hx).1;have:=r1.length;simp;omega
  have W:=WalksT.enumerateD (A:=X.A) (S.lZ X.A.in1 it a us.toArray (I.ok.hd hc) (ne1 (by simp))) e n1 (by simp only[anW,aob,or_false,not_or];exact⟨n1,(ne1 (by simp)).symm⟩) (by simp)
  refine wpAny_pyNext_enum_itemD (S.lZ X.A.in1 it a us.toArray (I.ok.hd hc) (ne1 (by simp))) hz ⟨h1,p1⟩ hx' n1 (by simp only[anW,aob,or_false,not_or];exact⟨n1,(ne1 (by simp)).symm⟩) λu0 h' tk0 Yx ho0 hs0 hT0 hsz0 hk0=>?_
  have hilt:it<s.heap.objs.size:=by obtain⟨o,e3,_⟩:=S.obj h1;exact anV e3
  have hT:s.heap.objs.size<=s.heap.objs.size:=anU _;have mid:(∃x,IsEnumOut h' e it ((i:Int)+1) x s.heap.objs.size)/\_/\s.heap.objs.size≠e/\s.heap.objs.size≠it:=⟨⟨_,ho0⟩,hs0,aoK (anV hz),aoK hilt⟩;have kp:∀b o,b∉[e,it]->s.heap.get? b=ζ o->h'.get? b=ζ o:=λb o hb y=>hk0 b o (λe'=>hb (by simp[e'])) (λe'=>hb (by simp[e'])) y
  refine⟨_,rfl,?_⟩;refine W.go es k pt i s.heap.objs.size {s with heap:=h',toks:=tk0+1} _ _ mid λh'' st'' NV=>?_
  obtain⟨x',ex,rx⟩:=yP r1 Yx;have lt:∀{c:Ψ}{o:Obj},s.heap.get? c=ζ o->c≠s.heap.objs.size:=λq=>an0 (anV q)
  have hT2:j5 h'' s.heap.objs.size [.int i tk0,u0].toArray:=⟨_,NV _ _ (W.apart _ _ _ mid) hT0,rfl,⟨_,rfl⟩,rfl⟩;have I2:Inv X pins σ (upd H s.heap.objs.size (.tup [.int i,x'])) {s with heap:=h'',toks:=tk0+1}:=by
   refine I.KD (ch:=[e,it]) (us:=[.int i tk0,u0]) hf (λc o hcn e1=>NV _ _ hcn (kp c o hcn e1)) hT (λb hb=>?_) (.cons ⟨tk0,rfl⟩ (.cons rx .nil)) (by show 2<=ε;decide) hT2
   simp only[anW,aob,or_false]at hb
   rcases hb with rfl|rfl
   ·obtain⟨⟨o2,e2⟩,_⟩:=st'';exact⟨_,e2⟩
   ·obtain⟨_,e2,_⟩:=st'';obtain⟨o,e3,_⟩:=S.obj e2;exact⟨o,e3⟩
  refine⟨.ref s.heap.objs.size,_,I2,rfl,⟨_,x',rfl,I.hok.fresh hT,rfl,λxs' w1=>?_⟩,⟨?_,st''.2.1⟩,λb hb=>?_⟩
  ·rw[S.inj hK I w1 q1];exact ex
  ·obtain⟨⟨o2,e2⟩,_⟩:=st'';exact⟨o2,by simpa using e2⟩
  ·have hb':b≠s.heap.objs.size:=by
    simp only[anW,aob,or_false]at hb
    rcases hb with rfl|rfl
    ·exact lt hz
    ·obtain⟨o,e3,_⟩:=S.obj h1;exact lt e3
   rw[bD hb'];exact(hf b hb).1
 done:=by
  intro X hP hw hK hc i pins s σ H E I hf st hg;subst hP hw;obtain⟨xs,q1,hend⟩:=hg;obtain⟨⟨old,hz⟩,h1⟩:=st;obtain⟨us,r1,p1,l1⟩:=S.get hK I q1;have ne1:∀{b:Ψ},b∈[e,it]->a≠b:=λhb=>S.ne hK I (hf _ hb) q1
  have W:=WalksT.enumerateD (A:=X.A) (S.lZ X.A.in1 it a us.toArray (I.ok.hd hc) (ne1 (by simp))) e n1 (by simp only[anW,aob,or_false,not_or];exact⟨n1,(ne1 (by simp)).symm⟩) (by simp)
  have ei:i=us.toArray.size:=by rw[an3,<-r1.length];exact hend
  subst ei;refine W.done s _ _ ⟨⟨old,hz⟩,h1,p1⟩ λh' tk kp=>⟨rfl,I.KG (ch:=[e,it]) hf kp⟩
 self:=λA i s Q E st h=>by
  obtain⟨⟨old,hz⟩,h1⟩:=st;exact wpAny_pyIter_enum hz h
section
variable {X:Cx}{es':List π}{kt:Nat}{pt:Pos}
def Og(Sq:Hp->Ψ->List V->Prop)(ta:TA):TI:=λσ H R=>ta σ H λvs H1=>∃a b,vs=[.ref a,.ref b]/\(∃xs ys,Sq H1 a xs/\Sq H1 b ys)/\R (BO Sq a b) H1
def af0(Sq:Hp->Ψ->List V->Prop)(ta:TA):TI:=λσ H R=>ta σ H λvs H1=>∃a,vs=[.ref a]/\(∃xs,Sq H1 a xs)/\R (JC Sq a) H1
def BW{pins:List (Ψ×Obj)}{σ:St}{H:Hp}{s:Ω}{n:Nat}(I:Inv X pins σ H s)(hn:s.heap.objs.size=n):∀b∈[n+4,n+2,n+3,n,n+1],eG X pins H b:=λb hb=>by
 have:s.heap.objs.size<=b:=by
  simp only[anW,aob,or_false]at hb
  rcases hb with rfl|rfl|rfl|rfl|rfl<;>rw[hn]
  ·exact aqc _ _
  ·exact aqc _ _
  ·exact aqc _ _
  ·exact anU _
  ·exact aqc _ _
 exact I.uH this (I.hok.fresh this)
def ZI{a b:π}{ta:TA}{p pos:Pos}(hg:Gl X "zip")(hm:X.mg "zip"=η)(ha:PA X [a,b] ta)(hs:μ [a,b] X.env=[(Δ,eval a X.env),(Δ,eval b X.env)]:=by rfl)(hs2:μ [b] X.env=[(Δ,eval b X.env)]:=by rfl) :
  PI X (.Tuple es' kt pt) (.Call (.Name "zip" p) [a,b] [] pos) (Og (cg X.K) ta):=by
 intro pins s σ H R I h;refine Call_ (lN I hg hm boot_zip (apx (bL (ha pos pins s σ H _ I h) λus s1 ⟨vs,H1,I1,r1,q1⟩=>?_) (by rw[hs,hs2]) (by rw[hs2];rfl)))
 obtain⟨a1,a2,e,⟨xs,ys,q1,q2⟩,q⟩:=q1;subst e;cases r1 with
 |cons r rr =>
  cases rr with
  |cons r' rr =>
   cases rr;cases r;cases r';obtain⟨us,ru,pu,lu⟩:=I1.tuple q1;obtain⟨vs,rv,pv,lv⟩:=I1.tuple q2;refine akd pu pv λh' hz hTI hTO t1 t2 kp=>aqW hz ?_
   generalize hn:s1.heap.objs.size=n at hz hTI hTO t1 t2
   have ne:∀{i j:Nat},i≠j->n+i≠n+j:=λh e=>h (aqd e)
   have lC:∀{i:Nat},i≠0->n+i≠n:=λh e=>h (aqd (e.trans (apE n).symm))
   refine⟨n+4,_,_,_,H1,rfl,I1.kept (t':=s1.toks) kp,KH Lj a1 a2 (n+4) (n+2) (n+3) n (n+1) (ne (by decide)) (ne (by decide)) (ne (by decide)) (lC (by decide)) (ne (by decide)) (lC (by decide)) (ne (by decide)) (lC (by decide)).symm (ne (by decide)) (lC (by decide)).symm,⟨hz,hTI,⟨_,_,hTO⟩,t1,t2⟩,BW I1 hn,q⟩
def ZJ{a b:π}{ta:TA}{p pos:Pos}(hg:Gl X "zip")(hm:X.mg "zip"=η)(ha:PA X [a,b] ta)(hs:μ [a,b] X.env=[(Δ,eval a X.env),(Δ,eval b X.env)]:=by rfl)(hs2:μ [b] X.env=[(Δ,eval b X.env)]:=by rfl) :
  PI X (.Tuple es' kt pt) (.Call (.Name "zip" p) [a,b] [] pos) (Og (bY X.K) ta):=by
 intro pins s σ H R I h;refine Call_ (lN I hg hm boot_zip (apx (bL (ha pos pins s σ H _ I h) λus s1 ⟨vs,H1,I1,r1,q1⟩=>?_) (by rw[hs,hs2]) (by rw[hs2];rfl)))
 obtain⟨a1,a2,e,⟨xs,ys,q1,q2⟩,q⟩:=q1;subst e;cases r1 with
 |cons r rr =>
  cases rr with
  |cons r' rr =>
   cases rr;cases r;cases r';obtain⟨us,ru,pu,lu⟩:=I1.list q1;obtain⟨vs,rv,pv,lv⟩:=I1.list q2;refine call_zip_2 pu.isList pv.isList λh' hz hTI hTO t1 t2 _ kp=>aqW hz ?_
   generalize hn:s1.heap.objs.size=n at hz hTI hTO t1 t2
   have ne:∀{i j:Nat},i≠j->n+i≠n+j:=λh e=>h (aqd e)
   have lC:∀{i:Nat},i≠0->n+i≠n:=λh e=>h (aqd (e.trans (apE n).symm))
   refine⟨n+4,_,_,_,H1,rfl,I1.kept (t':=s1.toks) kp,KH WG a1 a2 (n+4) (n+2) (n+3) n (n+1) (ne (by decide)) (ne (by decide)) (ne (by decide)) (lC (by decide)) (ne (by decide)) (lC (by decide)) (ne (by decide)) (lC (by decide)).symm (ne (by decide)) (lC (by decide)).symm,⟨hz,hTI,⟨_,_,hTO⟩,t1,t2⟩,BW I1 hn,q⟩
def ZO{a:π}{ta:TA}{p pos:Pos}(hg:Gl X "enumerate")(hm:X.mg "enumerate"=η)(ha:PA X [a] ta)(hs:μ [a] X.env=[(Δ,eval a X.env)]:=by rfl) :
  PI X (.Tuple es' kt pt) (.Call (.Name "enumerate" p) [a] [] pos) (af0 (cg X.K) ta):=by
 intro pins s σ H R I h;refine Call_ (lN I hg hm boot_enumerate (apx (bL (ha pos pins s σ H _ I h) λus s1 ⟨vs,H1,I1,r1,q1⟩=>?_) hs rfl))
 obtain⟨a1,e,⟨xs,q1⟩,q⟩:=q1;subst e;cases r1 with
 |cons r rr =>
  cases rr;cases r;obtain⟨us,ru,pu,lu⟩:=I1.tuple q1;refine akm pu λh' hz t1 _ kp=>wpAny_pyIter_enum hz ?_
  generalize hn:s1.heap.objs.size=n at hz t1
  refine⟨n+1,_,_,_,H1,rfl,I1.kept (t':=s1.toks) kp,UG Lj a1 (n+1) n (aoK (apb _)),⟨⟨_,hz⟩,t1⟩,λb hb=>?_,q⟩
  refine BW I1 hn b ?_;simp only[anW,aob,or_false]at hb
  rcases hb with rfl|rfl<;>simp
end
section
variable {X:Cx}
def KP{A:χ}{bs:List Bool}{its:List Ξ}(r:Vals (bs.map V.bl) its):TruthOf X.prog X.w A (λi v=>its.toArray[i]? = ζ v) (λi=>bs.getD i Δ):=by
 intro i v s Q E hP hQ;obtain⟨x,ex,rx⟩:=yP r hP;rw[aoH]at ex;cases e:bs[i]? with
 |none=>rw[e]at ex;cases ex
 |some b =>
  rw[e]at ex;cases ex;cases rx;refine apm ?_;have:bs.getD i Δ=b:=by rw[aof,e];rfl
  have hQ:Q (bs.getD i Δ) s:=hQ;rw[this]at hQ;exact hQ
def range_all(bs:List Bool):((ι bs.length).all λi=>bs.getD i Δ)=bs.all id:=by
 rw[ao8,aoo,aoo]
 constructor
 ·intro h b hb;obtain⟨i,hi,e⟩:=ao4.mp hb;have:=h i (aod.mpr hi);rw[aof,anZ hi]at this;rw[<-e];exact this
 ·intro h i hi;have hi:=aod.mp hi;rw[aof,anZ hi];exact h _ (aoE hi)
def range_any(bs:List Bool):((ι bs.length).any λi=>bs.getD i Δ)=bs.any id:=by
 rw[ao8,apT,apT]
 constructor
 ·rintro ⟨i,hi,h⟩
  have hi:=aod.mp hi;rw[aof,anZ hi]at h;exact⟨_,aoE hi,h⟩
 ·rintro ⟨b,hb,h⟩
  obtain⟨i,hi,e⟩:=ao4.mp hb;refine⟨i,aod.mpr hi,?_⟩;rw[aof,anZ hi,e];exact h
def RE{pins:List (Ψ×Obj)}{σ:St}{H:Hp}{s:Ω}{h':υ}{tk:Nat}{o:Obj}(I:Inv X pins σ H s)(kp:∀b q,b∉[s.heap.objs.size]->(s.heap.push o).get? b=ζ q->h'.get? b=ζ q):Inv X pins σ H {s with heap:=h',toks:=tk} :=
 I.kept λb q e=>kp b q (by simp only[anW,aob,or_false];exact an0 (anV e)) (anY _ e)
def ako(hc:X.calm=θ):eH X (.builtin "all") (λxs H Q=>∃(p:Ψ) (bs:List Bool),xs=[.ref p]/\bY X.K H p (bs.map V.bl)/\Q (.bl (bs.all id)) H):=by
 intro pins s σ H xs us Q I r h;obtain⟨p,bs,rfl,hp,q⟩:=h;obtain⟨u,rfl,ru⟩:=vals1 r;cases ru;obtain⟨its,rv,pl,hz⟩:=I.list hp;have hL:=pl.isList;have FL:p≠s.heap.objs.size:=by obtain⟨o,e,_⟩:=hL;exact an0 (anV e)
 refine call_all_walk (ap2 hL ⟨s.heap.objs.size,_,_,its.toArray.size,_,_,λi=>bs.getD i Δ,rfl,Walks.list (A:=X.A.in1) (I.ok.hd hc) s.heap.objs.size p FL its.toArray,⟨⟨_,aoc _ rfl,rfl,rfl⟩,hL.push _⟩,KP rv,λh' tk kp=>?_⟩)
 have hl:=rv.length;rw[an2]at hl;have I1:Inv X pins σ H {s with heap:=h',toks:=tk}:=RE I kp
 refine⟨.bl (bs.all id),H,I1,?_,q⟩;show Value.bool _=Value.bool _;rw[an3,<-hl,range_all]
def akn(hc:X.calm=θ):eH X (.builtin "any") (λxs H Q=>∃(p:Ψ) (bs:List Bool),xs=[.ref p]/\bY X.K H p (bs.map V.bl)/\Q (.bl (bs.any id)) H):=by
 intro pins s σ H xs us Q I r h;obtain⟨p,bs,rfl,hp,q⟩:=h;obtain⟨u,rfl,ru⟩:=vals1 r;cases ru;obtain⟨its,rv,pl,hz⟩:=I.list hp;have hL:=pl.isList;have FL:p≠s.heap.objs.size:=by obtain⟨o,e,_⟩:=hL;exact an0 (anV e)
 refine call_any_walk (ap2 hL ⟨s.heap.objs.size,_,_,its.toArray.size,_,_,λi=>bs.getD i Δ,rfl,Walks.list (A:=X.A.in1) (I.ok.hd hc) s.heap.objs.size p FL its.toArray,⟨⟨_,aoc _ rfl,rfl,rfl⟩,hL.push _⟩,KP rv,λh' tk kp=>?_⟩)
 have hl:=rv.length;rw[an2]at hl;have I1:Inv X pins σ H {s with heap:=h',toks:=tk}:=RE I kp
 refine⟨.bl (bs.any id),H,I1,?_,q⟩;show Value.bool _=Value.bool _;rw[an3,<-hl,range_any]
def tyName(H:Hp):V->String->Prop
 |.aF,n=>n="NoneType"
 |.bl _,n=>n="bool"
 |.int _,n=>n="int"
 |.str _,n=>n="str"
 |.ref a,n=>(n="list"/\((∃xs,H a=ζ (.lst xs))\/∃o xs,H a=ζ (.cT o (.lst xs))))\/(n="tuple"/\∃xs,H a=ζ (.tup xs))\/(n="dict"/\((∃k,H a=ζ (.dK k))\/∃k,H a=ζ (.dT k)))
 |_,_=>False
def Uy{K:Θ}{H:Hp}{x:V}{n:String}(h:tyName H x n):jh K H x (.type n):=by
 cases x with
 |aF=>cases(show n="NoneType" from h);exact .aF
 |bl b=>cases(show n="bool" from h);exact .bl b
 |int b=>cases(show n="int" from h);exact .int b
 |str b=>cases(show n="str" from h);exact .str b
 |ref a =>
  rcases h with⟨rfl,⟨xs,e⟩|⟨o,xs,e⟩⟩|⟨rfl,xs,e⟩|⟨rfl,⟨k,e⟩|⟨k,e⟩⟩
  ·exact .lst e
  ·exact .cT e
  ·exact .tup e
  ·exact .dK e
  ·exact .dT e
 |_=>exact False.elim h
def wo(n T:String):Bool:=n==T||(n=="bool"&&T=="int")
def aeH(n T:String):Option Bool:=if(Value.type n==Value.type T)=θ then ζ θ else if PySem.W.kitMeta T=θ then(fastBuiltinMro n).map (·.contains (Value.type T))else η
def NX{K:Θ}{n T:String}(hn:n∈["NoneType","bool","int","str","list","tuple","dict"])(hT:T∈["bool","int","str","list","tuple","dict"]):PySem.W.kitOne K (.type n) (.type T)=ζ (wo n T):=by
 show aeH n T=ζ (wo n T);simp only[anW,aob,or_false]at hn hT
 rcases hn with rfl|rfl|rfl|rfl|rfl|rfl|rfl<;>rcases hT with rfl|rfl|rfl|rfl|rfl|rfl<;>decide +kernel
def Uz{H:Hp}{x:V}{n:String}(h:tyName H x n):n∈["NoneType","bool","int","str","list","tuple","dict"]:=by
 cases x with
 |aF=>cases(show n="NoneType" from h);simp
 |bl b=>cases(show n="bool" from h);simp
 |int b=>cases(show n="int" from h);simp
 |str b=>cases(show n="str" from h);simp
 |ref a=>rcases h with⟨rfl,_⟩|⟨rfl,_⟩|⟨rfl,_⟩<;>simp
 |_=>exact False.elim h
def akl:eH X (.builtin "isinstance") (λxs H Q=>∃x n T,xs=[x,.ty T]/\tyName H x n/\T∈["bool","int","str","list","tuple","dict"]/\Q (.bl (wo n T)) H):=by
 intro pins s σ H xs us Q I r h;obtain⟨x,n,T,rfl,hx,hT,q⟩:=h;obtain⟨u,v,rfl,ru,rv⟩:=Vals.two r;cases(show v=Value.type T from rv)
 exact afK I ru (Uy hx) (NX (Uz hx) hT) λtk=>⟨.bl _,H,I.tok tk,rfl,q⟩
end
def lY(ea C:Ψ):υ->Prop:=λh=>∃o,h.get? ea=ζ o/\o.cls=.ref C
def aiy(a:Ψ):υ->Prop:=PySem.W.KitAt a "dict"
structure Def (K:Θ) (mg:Str->Option Ξ) (x:Str) (st:aar) (ps:List Str) (f:Ψ) (fd:ο):Prop where
 fn:j7 K x x st f fd
 at':mg x=ζ (.ref f)
 bd:Binds K fd ps []
section
variable {X:Cx}
def Z5{x:Str}{st:aar}{ps:List Str}{f:Ψ}{fd:ο}{k:Nat}{sp:Sp}{e:π}{es:List π}{t:TA}{p pos:Pos}(D:Def X.K X.mg x st ps f fd)(G:bU X.prog X.w X.K X.mg X.base bO k f fd ps sp)(hr:cN k X.A)(ha:PA X (e::es) t)(hg:Gl X x:=by rfl)
  (hdb:(x==("__debug__":Str))=Δ:=by decide) (he:μ (e::es) X.env=(Δ,eval e X.env)::μ es X.env:=by rfl) (hpl:(abE pos (μ es X.env)).any (·.1)=Δ:=by rfl) :
  PE X (.Call (.Name x p) (e::es) [] pos) (K4 sp [] E0 t):=L3 G hr hg D.at' D.fn.kp D.bd .nil aam ha hdb he hpl
def ZW{x:Str}{n:String}{pos:Pos}(hg:Gl X x)(hm:X.mg x=η)(hv:bootBuiltins x=ζ (.type n))(hn:x≠"__name__":=by decide)(hd:(x==("__debug__":Str))=Δ:=by decide):PE X (.Name x pos) (tC (.ty n)):=Z9 hg hm hv rfl hn hd
end
def isStar:π->Bool
 |.Starred _ _=>θ
 |_=>Δ
def c7{a:π}{es:List π}{env:Env}(h:isStar a=Δ):μ (a::es) env=(Δ,eval a env)::μ es env:=by
 cases a<;>first|(cases h;done)|(simp only[μ];done)
def noStar(es:List π):Bool:=es.all λa=>!isStar a
def gW{es:List π}{env:Env}{pos:Pos}(h:noStar es=θ):(abE pos (μ es env)).any (·.1)=Δ:=by
 induction es with
 |nil=>simp only[μ];rfl
 |cons a es ih =>
  have h:(!isStar a&&noStar es)=θ:=h;rw[aoj]at h;rw[c7 (by simpa using h.1)]
  have:=ih h.2
  simpa[abE]using this
def sd{a:π}{env:Env}(h:isStar a=Δ):μ [a] env=[(Δ,eval a env)]:=by
 rw[c7 h];simp only[μ]
def CT{a b:π}{env:Env}(h:isStar a=Δ)(g:isStar b=Δ):μ [a,b] env=[(Δ,eval a env),(Δ,eval b env)]:=by
 rw[c7 h,sd g]
def wz{a:π}{env:Env}{pos:Pos}(h:isStar a=Δ):((abE pos (μ [a] env)).all (λx=>!x.1)&&(af9 pos (ada [] env)).all (λx=>x.1.isSome)
   && decide ([a].length+([]:List adk).length+(if([]:List adk).isEmpty then 0 else 1)<30))=θ:=by
 rw[sd h];simp[abE,af9,ada]
inductive D where
 |aF|bl (b:Bool)|int (i:Int)|str (x:Str)|ty (n:String)|tup (l:List D)|lst (l:List D)|ref (k:Nat)|b7 (l:List Int)|fn (x:Str) (n:Nat)|exc (x:Str)|iD|dct (ks:List (Int×Int))|lam (k:Nat) (e:π) (ns:List Str) (l:List D)
inductive Cell where
 |lst (l:List D)
mutual
def noRef:D->Bool
 |.tup l=>bI l
 |.lst l=>bI l
 |.ref _=>Δ
 |.aF=>θ
 |.bl _=>θ
 |.int _=>θ
 |.str _=>θ
 |.ty _=>θ
 |.b7 _=>θ
 |.fn _ _=>θ
 |.exc _=>θ
 |.iD=>θ
 |.dct _=>θ
 |.lam _ _ _ _=>Δ
def bI:List D->Bool
 |[]=>θ
 |d::l=>noRef d&&bI l
end
mutual
def eZ:D->Bool
 |.tup l=>eU l
 |.lst l=>eU l
 |.lam _ _ _ _=>Δ
 |.ref _=>θ
 |.aF=>θ
 |.bl _=>θ
 |.int _=>θ
 |.str _=>θ
 |.ty _=>θ
 |.b7 _=>θ
 |.fn _ _=>θ
 |.exc _=>θ
 |.iD=>θ
 |.dct _=>θ
def eU:List D->Bool
 |[]=>θ
 |d::l=>eZ d&&eU l
end
mutual
def MR:∀d:D,noRef d=θ->eZ d=θ
 |.tup l,h=>by unfold noRef at h;unfold eZ;exact zP l h
 |.lst l,h=>by unfold noRef at h;unfold eZ;exact zP l h
 |.lam _ _ _ _,h=>by unfold noRef at h;cases h
 |.ref _,h=>by unfold noRef at h;cases h
 |.aF,_=>by unfold eZ;rfl
 |.bl _,_=>by unfold eZ;rfl
 |.int _,_=>by unfold eZ;rfl
 |.str _,_=>by unfold eZ;rfl
 |.ty _,_=>by unfold eZ;rfl
 |.b7 _,_=>by unfold eZ;rfl
 |.fn _ _,_=>by unfold eZ;rfl
 |.exc _,_=>by unfold eZ;rfl
 |.iD,_=>by unfold eZ;rfl
 |.dct _,_=>by unfold eZ;rfl
def zP:∀l:List D,bI l=θ->eU l=θ
 |[],_=>by unfold eU;rfl
 |d::l,h=>by
  unfold bI at h;rw[aoj]at h;unfold eU;rw[MR d h.1,zP l h.2];rfl
end
def uf:∀{l m:List D},bI (l++m)=(bI l&&bI m)
 |[],m=>by simp[bI]
 |d::l,m=>by simp[bI,uf (l:=l),Bool.and_assoc]
def MN:∀{l:List D}{i:Nat}{d:D},bI l=θ->noRef d=θ->bI (l.set i d)=θ
 |[],i,d,h,g=>h
 |b::l,0,d,h,g=>by simp_all[bI]
 |b::l,i+1,d,h,g=>by
  simp only[bI,aoj]at h;simp only[aqX,bI,aoj];exact⟨h.1,MN h.2 g⟩
def iy:∀{l:List D},bI l=θ↔∀d∈l,noRef d=θ
 |[]=>by simp[bI]
 |d::l=>by simp[bI,iy (l:=l)]
def ac7{l:List Int}:bI (l.map D.int)=θ:=iy.mpr λd h=>by
 obtain⟨i,_,rfl⟩:=aoa.mp h;rfl
inductive R (α:Type) where
 |ok (a:α) (c:List Cell)
 |bad
def R.bind{α β:Type}(r:R α)(f:α->List Cell->R β):R β:=match r with
 |.ok a c=>f a c
 |.bad=>.bad
@[simp] theorem R.aB{α β:Type}{a:α}{c:List Cell}{f:α->List Cell->R β}:(R.ok a c).bind f=f a c:=rfl
@[simp] theorem R.anK{α β:Type}{f:α->List Cell->R β}:(R.bad:R α).bind f=.bad:=rfl
def oz:List Str:=["all_without_first","web_of","other_web","turned_at","pairs_web","field_web","net_web"]
def ou(x:Str):Str:=x++".<locals>."++"<lambda>"
def kN(c:Ψ)(q:Str):υ->Prop:=λh=>h.CodeRec (.ref c) q
def kF(a:Ψ)(o:Obj):υ->Prop:=λh=>h.get? a=ζ o
def rE(e:π)(o:Obj)(q:Str)(c:Ψ)(cl:List (Str×Ψ)):Prop:=match e with
 |.Lambda params body scope _=>∃pm ctv,o=PySem.W.kla_obj "<lambda>" q params body scope cl pm c ctv
 |_=>False
def xD:HO->Bool
 |.cS _=>θ
 |_=>Δ
def iS(H:Hp)(cl:List (Str×Ψ)):List Str->List V->Prop
 |[],xs=>xs=[]
 |x::ns,xs=>∃v r c oc u,xs=v::r/\cl.lookup x=ζ c/\H c=ζ (.cT oc (.own 0))/\oc.data=.cell (ζ u)/\RelV v u/\iS H cl ns r
def yy(cl:List (Str×Ψ))(ns:List Str):Prop:=(∀x y c,cl.lookup x=ζ c->cl.lookup y=ζ c->x=y)/\∀x c,cl.lookup x=ζ c->x∈ns
def TabAt(H:Hp)(P:Ψ)(q:Str):Prop:=∃ps,H P=ζ (.cS ps)/\agK ps.toList/\∀pos cv,codeAmong pos ps.toList=ζ cv->∃c,cv=.ref c/\H c=ζ (.ext (kN c q))
def o9(K:Θ)(H:Hp):Prop:=∀x∈oz,∀c P,PySem.W.tabIn K x=ζ (c,P)->TabAt H P (ou x)
def iS.mono{H H':Hp}{cl:List (Str×Ψ)}:∀{ns:List Str}{xs:List V},(∀c o,H c=ζ (.cT o (.own 0))->H' c=ζ (.cT o (.own 0)))->iS H cl ns xs->iS H' cl ns xs
 |[],_,_,h=>h
 |x::ns,xs,k,h=>by
  obtain⟨v,r,c,oc,u,e,h0,h1,h2,h3,h4⟩:=h;exact⟨v,r,c,oc,u,e,h0,k _ _ h1,h2,h3,iS.mono k h4⟩
def iS.get{H:Hp}{cl:List (Str×Ψ)}:∀{ns:List Str}{xs:List V}{i:Nat}{x:Str},iS H cl ns xs->ns[i]? = ζ x->∃v c oc u,xs[i]? = ζ v/\cl.lookup x=ζ c/\H c=ζ (.cT oc (.own 0))/\oc.data=.cell (ζ u)/\RelV v u
 |[],_,_,_,_,e=>by cases e
 |_::ns,xs,0,_,h,e=>by
  obtain⟨v,r,c,oc,u,rfl,h0,h1,h2,h3,h4⟩:=h;cases e;exact⟨v,c,oc,u,rfl,h0,h1,h2,h3⟩
 |_::ns,xs,i+1,x,h,e=>by
  obtain⟨v,r,c,oc,u,rfl,h0,h1,h2,h3,h4⟩:=h;exact iS.get (i:=i) h4 e
def iS.length{H:Hp}{cl:List (Str×Ψ)}:∀{ns:List Str}{xs:List V},iS H cl ns xs->xs.length=ns.length
 |[],xs,h=>by cases(show xs=[]from h);rfl
 |_::ns,xs,h=>by
  obtain⟨v,r,c,oc,u,rfl,h0,h1,h2,h3,h4⟩:=h;simp[iS.length h4]
def TabAt.mono{H H':Hp}{P:Ψ}{q:Str}(h:TabAt H P q)(k1:∀ps,H P=ζ (.cS ps)->H' P=ζ (.cS ps))(k2:∀c φ,H c=ζ (.ext φ)->H' c=ζ (.ext φ)):TabAt H' P q:=by
 obtain⟨ps,h1,h2,h3⟩:=h;exact⟨ps,k1 ps h1,h2,λpos cv e=>let⟨c,e1,e2⟩:=h3 pos cv e;⟨c,e1,k2 _ _ e2⟩⟩
def o9.mono{K:Θ}{H H':Hp}(h:o9 K H)(k1:∀P ps,H P=ζ (.cS ps)->H' P=ζ (.cS ps))(k2:∀c φ,H c=ζ (.ext φ)->H' c=ζ (.ext φ)):o9 K H':=λx hx c P e=>(h x hx c P e).mono (k1 P) k2
def ym(K:Θ)(ρ:List Ψ)(H:Hp)(a:Ψ)(xs:List V):Prop:=(Rd H a (.lst xs)/\a∉ρ)\/bY K (λ_=>η) a xs
mutual
def Rel(K:Θ)(ρ:List Ψ)(H:Hp):D->V->Prop
 |.aF,v=>v=.aF
 |.bl b,v=>v=.bl b
 |.int i,v=>v=.int i
 |.str x,v=>v=.str x
 |.ty n,v=>v=.ty n
 |.tup l,v=>∃a xs,v=.ref a/\H a=ζ (.tup xs)/\aK K ρ H l xs
 |.lst l,v=>∃a xs,v=.ref a/\(H a=ζ (.lst xs)/\a∉ρ)/\aK K ρ H l xs
 |.ref k,v=>∃a,v=.ref a/\ρ[k]? = ζ a
 |.b7 l,v=>∃a,v=.ref a/\ym K ρ H a (l.map V.int)
 |.fn x n,v=>∃a,v=.ref a/\ξ K Γ x=ζ (ζ (.ref a))
 |.iD,v=>∃a,v=.ref a/\H a=ζ (.ext (aiy a))
 |.dct ks,v=>∃a kvs,v=.ref a/\H a=ζ (.dT kvs)/\∀p:Int×Int,((kvs.any λkv=>decide (kv.1=[Sum.inl p.1,Sum.inl p.2]))=decide (p∈ks))
 |.exc x,v=>∃a C,v=.ref a/\ξ K Γ x=ζ (ζ (.ref C))/\H a=ζ (.ext (lY a C))
 |.lam _ e ns l,v=>∃a o q c cl xs,v=.ref a/\H a=ζ (.ext (kF a o))/\rE e o q c cl/\H c=ζ (.ext (kN c q))/\yy cl ns/\iS H cl ns xs/\aK K ρ H l xs
def aK(K:Θ)(ρ:List Ψ)(H:Hp):List D->List V->Prop
 |[],xs=>xs=[]
 |d::l,xs=>∃x r,xs=x::r/\Rel K ρ H d x/\aK K ρ H l r
end
def ym.sql{K:Θ}{ρ:List Ψ}{H:Hp}{a:Ψ}{xs:List V}(h:ym K ρ H a xs):bY K H a xs:=by
 rcases h with⟨h,_⟩|(h|h)
 ·exact .inl h
 ·rcases h with h|⟨o,h⟩<;>cases h
 ·exact .inr h
def alQ(K:Θ)(ρ:List Ψ)(H:Hp)(a:Ψ):Cell->Prop
 |.lst l=>bI l=θ/\∃xs,H a=ζ (.lst xs)/\aK K ρ H l xs
structure Wd (K:Θ) (ρ:List Ψ) (H:Hp) (c:List Cell):Prop where
 nd:ρ.Nodup
 len:ρ.length=c.length
 eO:∀(k:Nat) (a:Ψ) (cl:Cell),ρ[k]? = ζ a->c[k]? = ζ cl->alQ K ρ H a cl
 tab:o9 K H
structure Ext (ρ:List Ψ) (H:Hp) (ρ':List Ψ) (H':Hp):Prop where
 pre:∀(k:Nat) (a:Ψ),ρ[k]? = ζ a->ρ'[k]? = ζ a
 keep:∀a o,H a=ζ o->a∉ρ->xD o=Δ->H' a=ζ o/\a∉ρ'
def Ext.refl{ρ:List Ψ}{H:Hp}:Ext ρ H ρ H:=⟨λ_ _ h=>h,λ_ _ h n _=>⟨h,n⟩⟩
def Ext.trans{ρ aI cE:List Ψ}{H H1 H2:Hp}(x:Ext ρ H aI H1)(y:Ext aI H1 cE H2):Ext ρ H cE H2 :=
 ⟨λk a h=>y.pre k a (x.pre k a h),λa o h n t=>let⟨h1,n1⟩:=x.keep a o h n t;y.keep a o h1 n1 t⟩
section
variable {K:Θ}{ρ ρ':List Ψ}{H H':Hp}{c c':List Cell}
def Wd.at'(W:Wd K ρ H c){a:Ψ}(h:a∈ρ):∃xs,H a=ζ (.lst xs):=by
 obtain⟨k,hk,e⟩:=ao4.mp h;have hc:k<c.length:=by rw[<-W.len];exact hk
 have q:=W.eO k a c[k] (by rw[anZ hk,e]) (anZ hc)
 cases hcl:c[k]with
 |lst l=>rw[hcl]at q;obtain⟨_,xs,h,_⟩:=q;exact⟨xs,h⟩
def Wd.noT(W:Wd K ρ H c){a:Ψ}{xs:List V}(h:H a=ζ (.tup xs)):a∉ρ:=λm=>by
 obtain⟨ys,e⟩:=W.at' m;rw[e]at h;cases h
def Wd.nil(W:Wd K ρ H c){a:Ψ}(h:H a=η):a∉ρ:=λm=>by
 obtain⟨ys,e⟩:=W.at' m;rw[e]at h;cases h
def pF(W:Wd K ρ H c)(x:Ext ρ H ρ' H'){a:Ψ}{xs:List V}(h:H a=ζ (.tup xs)):H' a=ζ (.tup xs):=(x.keep a _ h (W.noT h) rfl).1
def NH(x:Ext ρ H ρ' H'){a:Ψ}{xs:List V}(h:H a=ζ (.lst xs)/\a∉ρ):H' a=ζ (.lst xs)/\a∉ρ':=x.keep a _ h.1 h.2 rfl
def Ld(x:Ext ρ H ρ' H'){a:Ψ}{xs:List V}(h:ym K ρ H a xs):ym K ρ' H' a xs:=by
 rcases h with⟨h,n⟩|h
 ·rcases h with h|⟨o,h⟩
  ·exact .inl ⟨.inl (x.keep a _ h n rfl).1,(x.keep a _ h n rfl).2⟩
  ·exact .inl ⟨.inr ⟨o,(x.keep a _ h n rfl).1⟩,(x.keep a _ h n rfl).2⟩
 ·exact .inr h
mutual
def Rel.mono(W:Wd K ρ H c)(x:Ext ρ H ρ' H'):∀(d:D) (v:V),Rel K ρ H d v->Rel K ρ' H' d v
 |.aF,v,h=>h
 |.bl b,v,h=>h
 |.int i,v,h=>h
 |.str y,v,h=>h
 |.ty n,v,h=>h
 |.tup l,v,h=>by
  obtain⟨a,xs,e,s,r⟩:=h;exact⟨a,xs,e,pF W x s,aK.mono W x l xs r⟩
 |.lst l,v,h=>by
  obtain⟨a,xs,e,s,r⟩:=h;exact⟨a,xs,e,NH x s,aK.mono W x l xs r⟩
 |.ref k,v,h=>by
  obtain⟨a,e,s⟩:=h;exact⟨a,e,x.pre k a s⟩
 |.b7 l,v,h=>by
  obtain⟨a,e,s⟩:=h;exact⟨a,e,Ld x s⟩
 |.fn a n,v,h=>h
 |.iD,v,h=>by
  obtain⟨a,e,q⟩:=h;exact⟨a,e,(x.keep a _ q (λm=>by obtain⟨ys,z⟩:=W.at' m;rw[z]at q;cases q) rfl).1⟩
 |.dct ks,v,h=>by
  obtain⟨a,kvs,e,q,z⟩:=h;exact⟨a,kvs,e,(x.keep a _ q (λm=>by obtain⟨ys,z⟩:=W.at' m;rw[z]at q;cases q) rfl).1,z⟩
 |.exc y,v,h=>by
  obtain⟨a,C,e,n,q⟩:=h;exact⟨a,C,e,n,(x.keep a _ q (λm=>by obtain⟨ys,z⟩:=W.at' m;rw[z]at q;cases q) rfl).1⟩
 |.lam _ y ns l,v,h=>by
  obtain⟨a,o,q,c,cl,xs,e,h1,h2,h3,h4,h5,h6⟩:=h;have nr:∀(b:Ψ) (u:HO),H b=ζ u->(∀ys,u≠.lst ys)->b∉ρ:=λb u q n m=>by obtain⟨ys,z⟩:=W.at' m;rw[z]at q;exact n ys (an6 q).symm
  exact⟨a,o,q,c,cl,xs,e,(x.keep a _ h1 (nr a _ h1 λ_ z=>nomatch z) rfl).1,h2,(x.keep c _ h3 (nr c _ h3 λ_ z=>nomatch z) rfl).1,h4,h5.mono (λb o z=>(x.keep b _ z (nr b _ z λ_ z=>nomatch z) rfl).1),aK.mono W x l xs h6⟩
def aK.mono(W:Wd K ρ H c)(x:Ext ρ H ρ' H'):∀(l:List D) (xs:List V),aK K ρ H l xs->aK K ρ' H' l xs
 |[],xs,h=>h
 |d::l,xs,h=>by
  obtain⟨y,r,e,h1,h2⟩:=h;exact⟨y,r,e,Rel.mono W x d y h1,aK.mono W x l r h2⟩
end
def aK.length:∀{l:List D}{xs:List V},aK K ρ H l xs->xs.length=l.length
 |[],xs,h=>by cases(show xs=[]from h);rfl
 |d::l,xs,h=>by
  obtain⟨y,r,rfl,h1,h2⟩:=h;simp only[an4,aK.length h2]
def aK.get:∀{l:List D}{xs:List V}{i:Nat}{d:D},aK K ρ H l xs->l[i]? = ζ d->∃x,xs[i]? = ζ x/\Rel K ρ H d x
 |[],_,_,_,_,e=>by cases e
 |_::l,_,0,_,h,e=>by
  obtain⟨y,r,rfl,h1,h2⟩:=h;cases e;exact⟨y,rfl,h1⟩
 |_::l,_,i+1,_,h,e=>by
  obtain⟨y,r,rfl,h1,h2⟩:=h;exact aK.get (i:=i) h2 e
def aK.append:∀{l m:List D}{xs ys:List V},aK K ρ H l xs->aK K ρ H m ys->aK K ρ H (l++m) (xs++ys)
 |[],m,xs,ys,h,g=>by cases(show xs=[]from h);exact g
 |d::l,m,xs,ys,h,g=>by
  obtain⟨y,r,rfl,h1,h2⟩:=h;exact⟨y,r++ys,rfl,h1,aK.append h2 g⟩
def aK.set:∀{l:List D}{xs:List V}{d:D}{x:V}(i:Nat),aK K ρ H l xs->Rel K ρ H d x->aK K ρ H (l.set i d) (xs.set i x)
 |[],xs,d,x,i,h,g=>by cases(show xs=[]from h);exact rfl
 |b::l,xs,d,x,0,h,g=>by
  obtain⟨y,r,rfl,h1,h2⟩:=h;exact⟨x,r,rfl,g,h2⟩
 |b::l,xs,d,x,i+1,h,g=>by
  obtain⟨y,r,rfl,h1,h2⟩:=h;exact⟨y,r.set i x,rfl,h1,aK.set i h2 g⟩
def aK.take:∀{l:List D}{xs:List V}(n:Nat),aK K ρ H l xs->aK K ρ H (l.take n) (xs.take n)
 |l,xs,0,h=>by simp only[List.take_zero];exact rfl
 |[],xs,n+1,h=>by cases(show xs=[]from h);exact rfl
 |d::l,xs,n+1,h=>by
  obtain⟨y,r,rfl,h1,h2⟩:=h;exact⟨y,r.take n,rfl,h1,aK.take n h2⟩
def aK.drop:∀{l:List D}{xs:List V}(n:Nat),aK K ρ H l xs->aK K ρ H (l.drop n) (xs.drop n)
 |l,xs,0,h=>h
 |[],xs,n+1,h=>by cases(show xs=[]from h);exact rfl
 |d::l,xs,n+1,h=>by
  obtain⟨y,r,rfl,h1,h2⟩:=h;exact aK.drop n h2
def aK.ints{l:List Int}:aK K ρ H (l.map D.int) (l.map V.int):=by
 induction l with
 |nil=>exact rfl
 |cons a l ih=>exact⟨_,_,rfl,rfl,ih⟩
def aK.FA:∀{l:List Int}{xs:List V},aK K ρ H (l.map D.int) xs->xs=l.map V.int
 |[],xs,h=>h
 |a::l,xs,h=>by
  obtain⟨y,r,rfl,h1,h2⟩:=h;cases(show y=V.int a from h1)
  rw[aK.FA h2];rfl
def aK.Jd:∀{l:List Bool}{xs:List V},aK K ρ H (l.map D.bl) xs->xs=l.map V.bl
 |[],xs,h=>h
 |a::l,xs,h=>by
  obtain⟨y,r,rfl,h1,h2⟩:=h;cases(show y=V.bl a from h1)
  rw[aK.Jd h2];rfl
def Ext.fresh{p:Ψ}{o:HO}(W:Wd K ρ H c)(h:H p=η):Ext ρ H ρ (upd H p o) :=
 ⟨λ_ _ e=>e,λa u e n _=>⟨by rw[bD (dF e h)];exact e,n⟩⟩
def Wd.fresh{p:Ψ}{o:HO}(W:Wd K ρ H c)(h:H p=η):Wd K ρ (upd H p o) c :=
 ⟨W.nd,W.len,λk a cl e1 e2=>by
  have q:=W.eO k a cl e1 e2;cases cl with
  |lst l =>
   obtain⟨nr,xs,e,r⟩:=q;exact⟨nr,xs,by rw[bD (dF e h)];exact e,aK.mono W (Ext.fresh W h) l xs r⟩,
  W.tab.mono (λP ps e=>by rw[bD (dF e h)];exact e) (λb φ e=>by rw[bD (dF e h)];exact e)⟩
def Ext.cell{p:Ψ}{o:HO}(W:Wd K ρ H c)(h:H p=η):Ext ρ H (ρ++[p]) (upd H p o) :=
 ⟨λk a e=>by rw[aow (an7.mp e).1];exact e,λa u e n _=>⟨by rw[bD (dF e h)];exact e,by
  rw[aou]
  rintro (z|z)
  ·exact n z
  ·exact dF e h (by simpa using z)⟩⟩
def Wd.cell{p:Ψ}{l:List D}{xs:List V}(W:Wd K ρ H c)(h:H p=η)(nr:bI l=θ)(r:aK K ρ H l xs):Wd K (ρ++[p]) (upd H p (.lst xs)) (c++[.lst l]):=by
 have X:=Ext.cell (o:=.lst xs) W h;refine⟨?_,by simp[W.len],λk a cl e1 e2=>?_,W.tab.mono (λP ps e=>by rw[bD (dF e h)];exact e) (λb φ e=>by rw[bD (dF e h)];exact e)⟩
 ·rw[aqe];refine⟨W.nd,by simp,?_⟩
  intro a ha b hb;rw[aoO]at hb;subst hb;exact λz=>W.nil h (z▸ha)
 ·by_cases hk:k<c.length
  ·rw[aow hk]at e2;rw[aow (by rw[W.len];exact hk)]at e1
   have q:=W.eO k a cl e1 e2;cases cl with
   |lst l' =>
    obtain⟨ku,ys,e,r'⟩:=q;exact⟨ku,ys,by rw[bD (dF e h)];exact e,aK.mono W X l' ys r'⟩
  ·have hk':k=c.length:=by
    have:=(an7.mp e2).1;simp at this;omega
   subst hk';rw[aov (anU _),ao2]at e2;rw[aov (by rw[W.len];exact anU _),W.len,ao2]at e1
   cases e1;cases e2;exact⟨nr,xs,fM,aK.mono W X l xs r⟩
def Ext.write{k:Nat}{p:Ψ}{o:HO}(h:ρ[k]? = ζ p):Ext ρ H ρ (upd H p o) :=
 ⟨λ_ _ e=>e,λa u e n _=>⟨by rw[bD (λz=>n (by rw[z];exact aoq h))];exact e,n⟩⟩
def Wd.write{k:Nat}{p:Ψ}{l:List D}{xs:List V}(W:Wd K ρ H c)(h:ρ[k]? = ζ p)(nr:bI l=θ)(r:aK K ρ H l xs):Wd K ρ (upd H p (.lst xs)) (c.set k (.lst l)):=by
 have X:=Ext.write (H:=H) (o:=.lst xs) h;obtain⟨ys,hy⟩:=W.at' (aoq h);refine⟨W.nd,by simp[W.len],λj a cl e1 e2=>?_,W.tab.mono (λP ps e=>by rw[bD (MX e hy λz=>nomatch z)];exact e) (λb φ e=>by rw[bD (MX e hy λz=>nomatch z)];exact e)⟩
 by_cases hj:j=k
 ·subst hj;rw[h]at e1;cases e1;have hl:j<c.length:=by rw[<-W.len];exact(an7.mp h).1
  rw[aoJ hl]at e2;cases e2;exact⟨nr,xs,fM,aK.mono W X l xs r⟩
 ·rw[ao0 (aoD hj)]at e2;have q:=W.eO j a cl e1 e2;have hap:a≠p:=by
   intro e;subst e;have h1:=(an7.mp h);have h2:=(an7.mp e1);exact hj ((apw W.nd (h₀:=h2.1) (h₁:=h1.1)).mp (h2.2.trans h1.2.symm))
  cases cl with
  |lst l' =>
   obtain⟨ku,ys,e,r'⟩:=q;exact⟨ku,ys,by rw[bD hap];exact e,aK.mono W X l' ys r'⟩
mutual
def Rel.low(h:∀a,a∈ρ'->a∈ρ):∀(d:D) (v:V),noRef d=θ->Rel K ρ H d v->Rel K ρ' H d v
 |.aF,v,_,r=>r
 |.bl b,v,_,r=>r
 |.int i,v,_,r=>r
 |.str y,v,_,r=>r
 |.ty n,v,_,r=>r
 |.tup l,v,n,r=>by
  obtain⟨a,xs,e,s,r⟩:=r;exact⟨a,xs,e,s,aK.low h l xs n r⟩
 |.lst l,v,n,r=>by
  obtain⟨a,xs,e,s,r⟩:=r;exact⟨a,xs,e,⟨s.1,λq=>s.2 (h a q)⟩,aK.low h l xs n r⟩
 |.ref k,v,n,r=>by cases n
 |.b7 l,v,n,r=>by
  obtain⟨a,e,s⟩:=r;refine⟨a,e,?_⟩
  rcases s with⟨s,z⟩|s
  ·exact .inl ⟨s,λq=>z (h a q)⟩
  ·exact .inr s
 |.fn a m,v,n,r=>r
 |.exc y,v,n,r=>r
 |.iD,v,n,r=>r
 |.dct _,v,n,r=>r
 |.lam _ _ _ _,v,n,r=>by cases n
def aK.low(h:∀a,a∈ρ'->a∈ρ):∀(l:List D) (xs:List V),bI l=θ->aK K ρ H l xs->aK K ρ' H l xs
 |[],xs,_,r=>r
 |d::l,xs,n,r=>by
  obtain⟨y,ys,e,h1,h2⟩:=r;have n:(noRef d&&bI l)=θ:=n;rw[aoj]at n;exact⟨y,ys,e,Rel.low h d y n.1 h1,aK.low h l ys n.2 h2⟩
end
def Wd.cut{n:Nat}(W:Wd K ρ H c)(hn:n<=c.length):Wd K (ρ.take n) H (c.take n):=by
 have sub:∀a,a∈ρ.take n->a∈ρ:=λa h=>aor h
 refine⟨W.nd.sublist (aqI _ _),by simp[W.len],λk a cl e1 e2=>?_,W.tab⟩
 rw[apF]at e1 e2;split at e1
 ·rename_i hk;rw[if_pos hk]at e2;have q:=W.eO k a cl e1 e2;cases cl with
  |lst l =>
   obtain⟨nr,xs,e,r⟩:=q;exact⟨nr,xs,e,aK.low sub l xs nr r⟩
 ·cases e1
def Ext.cut{n:Nat}(x:Ext ρ H ρ' H')(hn:ρ.length<=n):Ext ρ H (ρ'.take n) H' :=
 ⟨λk a e=>by rw[apF,if_pos (an5 (an7.mp e).1 hn)];exact x.pre k a e,λa o e z t=>let⟨h1,h2⟩:=x.keep a o e z t;⟨h1,λq=>h2 (aor q)⟩⟩
def Ext.len(W:Wd K ρ H c)(W':Wd K ρ' H' c')(x:Ext ρ H ρ' H'):c.length<=c'.length:=by
 rw[<-W.len,<-W'.len]
 by_cases h:ρ.length<=ρ'.length
 ·exact h
 ·exfalso;have h':ρ'.length<ρ.length:=Nat.lt_of_not_le h;have e:=x.pre ρ'.length ρ[ρ'.length] (anZ h');rw[apt (anU _)]at e;cases e
end
abbrev Ev:=List (Option D)
def post{α β:Type}(K:Θ)(Rl:List Ψ->Hp->α->β->Prop)(r:R α)(ρ:List Ψ)(H:Hp)(Q:β->Hp->Prop):Prop:=match r with
 |.ok a c=>∀ρ' H' b,Wd K ρ' H' c->Ext ρ H ρ' H'->Rl ρ' H' a b->Q b H'
 |.bad=>False
structure cR (K:Θ) (ρ:List Ψ) (H:Hp) (e:Ev) (σ:St):Prop where
 get:∀(i:Nat) (d:D),e[i]? = ζ (ζ d)->∃v,σ[i]? = ζ (ζ v)/\Rel K ρ H d v
 len:e.length=σ.length
def tD{α β:Type}(K:Θ)(Rl:List Ψ->Hp->α->β->Prop)(d:Ev->List Cell->R α):St->Hp->(β->Hp->Prop)->Prop :=
 λσ H Q=>∃ρ e c,Wd K ρ H c/\cR K ρ H e σ/\post K Rl (d e c) ρ H Q
section
variable {α β γ δ:Type}{K:Θ}{ρ ρ':List Ψ}{H H':Hp}{c:List Cell}{e:Ev}{σ:St}{Rl:List Ψ->Hp->α->β->Prop}{Rm:List Ψ->Hp->γ->δ->Prop}
def cR.mono(V:cR K ρ H e σ)(W:Wd K ρ H c)(x:Ext ρ H ρ' H'):cR K ρ' H' e σ :=
 ⟨λi d h=>let⟨v,h1,h2⟩:=V.get i d h;⟨v,h1,Rel.mono W x d v h2⟩,V.len⟩
def cR.set(V:cR K ρ H e σ){d:D}{v:L2.V}(r:Rel K ρ H d v)(i:Nat):cR K ρ H (e.set i (ζ d)) (σ.set i (ζ v)):=by
 refine⟨λj b h=>?_,by simp[V.len]⟩
 by_cases hj:j=i
 ·subst hj;have hl:j<e.length:=by
   have:=(an7.mp h).1
   simpa using this
  rw[aoJ hl]at h;cases h;exact⟨v,by rw[aoJ (by rw[<-V.len];exact hl)],r⟩
 ·rw[ao0 (aoD hj)]at h ⊢;exact V.get j b h
def post.ext{r:R α}{Q:β->Hp->Prop}(p:post K Rl r ρ H Q)(x:Ext ρ H ρ' H'):post K Rl r ρ' H' Q:=by
 cases r with
 |ok a c=>exact λcE H2 b W y r=>p cE H2 b W (x.trans y) r
 |bad=>exact p
def post.mono{r:R α}{Q Q':β->Hp->Prop}(p:post K Rl r ρ H Q)(h:∀b H,Q b H->Q' b H):post K Rl r ρ H Q':=by
 cases r with
 |ok a c=>exact λcE H2 b W y r=>h _ _ (p cE H2 b W y r)
 |bad=>exact p
def post.bind{r:R α}{f:α->List Cell->R γ}{Q:δ->Hp->Prop}{S:β->Hp->Prop}(p:post K Rm (r.bind f) ρ H Q)
  (h:∀a c1 ρ' H' b,r=.ok a c1->Wd K ρ' H' c1->Ext ρ H ρ' H'->Rl ρ' H' a b->post K Rm (f a c1) ρ' H' Q->S b H'):post K Rl r ρ H S:=by
 cases r with
 |ok a c1=>exact λρ' H' b W x r=>h a c1 ρ' H' b rfl W x r (post.ext (r:=f a c1) p x)
 |bad=>exact p
def post.here{a:α}{b:β}{Q:β->Hp->Prop}(p:post K Rl (.ok a c) ρ H Q)(W:Wd K ρ H c)(r:Rl ρ H a b):Q b H:=p ρ H b W Ext.refl r
end
abbrev bg(X:Cx)(e:π)(d:Ev->List Cell->R D):Prop:=PE X e (tD X.K (Rel X.K) d)
abbrev ji(X:Cx)(e:π)(d:Ev->List Cell->R Bool):Prop:=PT X e (tD X.K (λ_ _ a b=>a=b) d)
abbrev vQ(X:Cx)(e:π)(d:Ev->List Cell->R Bool):Prop:=PW X e (tD X.K (λ_ _ a b=>a=b) d)
abbrev gE(X:Cx)(es:List π)(d:Ev->List Cell->R (List D)):Prop:=PA X es (tD X.K (aK X.K) d)
section
variable {X:Cx}{e:π}{es:List π}{st:aar}{sts:List aar}
def PE.imp{t t':TE}(h:PE X e t)(i:∀σ H Q,t' σ H Q->t σ H Q):PE X e t':=λpins s σ H Q I q=>h pins s σ H Q I (i _ _ _ q)
def PT.imp{t t':TT}(h:PT X e t)(i:∀σ H Q,t' σ H Q->t σ H Q):PT X e t':=λpins s σ H Q I q=>h pins s σ H Q I (i _ _ _ q)
def PW.imp{t t':TT}(h:PW X e t)(i:∀σ H Q,t' σ H Q->t σ H Q):PW X e t':=λwh pins s σ H Q I q=>h wh pins s σ H Q I (i _ _ _ q)
def PA.imp{t t':TA}(h:PA X es t)(i:∀σ H Q,t' σ H Q->t σ H Q):PA X es t':=λpos pins s σ H Q I q=>h pos pins s σ H Q I (i _ _ _ q)
def PS.imp{t t':TS}(h:PS X st t)(i:∀D σ H,t' D σ H->t D σ H):PS X st t':=λpins s σ H D I q=>h pins s σ H D I (i _ _ _ q)
def fE.imp{t t':TS}(h:fE X sts t)(i:∀D σ H,t' D σ H->t D σ H):fE X sts t':=λpins s σ H D I q=>h pins s σ H D I (i _ _ _ q)
end
def ak(i:Nat):Ev->List Cell->R D:=λe c=>match e[i]? with
 |some (ζ d)=>.ok d c
 |_=>.bad
def dC(d:D):Ev->List Cell->R D:=λ_ c=>.ok d c
section
variable {X:Cx}
def ay(i:Nat){x:Str}{pos:Pos}(hN:X.N[i]? = ζ x:=by rfl)(hv:BH X.env.scope x:=by first|exact Or.inl rfl|exact Or.inr (Or.inl rfl)|exact Or.inr (Or.inr rfl))(hd:(x==("__debug__":Str))=Δ:=by decide)
  (hcd:(x==("__classdict__":Str))=Δ:=by decide):bg X (.Name x pos) (ak i):=(LS hN hv hd hcd).imp λσ H Q h=>by
 obtain⟨ρ,e,c,W,V,p⟩:=h;unfold ak at p;cases q:e[i]? with
 |none=>rw[q]at p;exact p.elim
 |some o =>
  rw[q]at p;cases o with
  |none=>exact p.elim
  |some d =>
   obtain⟨v,hv,r⟩:=V.get i d q;exact⟨v,hv,p.here W r⟩
def pY{e:π}{v:V}{d:D}(h:PE X e (tC v))(r:∀ρ H,Rel X.K ρ H d v):bg X e (dC d):=h.imp λσ H Q h=>by
 obtain⟨ρ,e,c,W,V,p⟩:=h;exact post.here (r:=r ρ H) p W
def aV{i j pos}:bg X (.Constant (.int i) j pos) (dC (.int i)):=pY Z3 λ_ _=>rfl
def iY{b j pos}:bg X (.Constant (.bool b) j pos) (dC (.bl b)):=pY aaa λ_ _=>rfl
def kq{j pos}:bg X (.Constant .none j pos) (dC .aF):=pY Z1 λ_ _=>rfl
def eY{x j pos}:bg X (.Constant (.str x) j pos) (dC (.str x)):=pY ZY λ_ _=>rfl
def iw{x:Str}{n:String}{pos:Pos}(hg:Gl X x)(hm:X.mg x=η)(hv:bootBuiltins x=ζ (.type n))(hn:x≠"__name__":=by decide)(hd:(x==("__debug__":Str))=Δ:=by decide):bg X (.Name x pos) (dC (.ty n)):=pY (ZW hg hm hv hn hd) λ_ _=>rfl
def Dm{x:Str}{i:Int}{t:Tok}{pos:Pos}(hg:Gl X x)(hm:X.mg x=ζ (.int i t))(hd:(x==("__debug__":Str))=Δ:=by decide):bg X (.Name x pos) (dC (.int i)):=pY (LX (v:=.int i) hg hm ⟨t,rfl⟩ hd) λ_ _=>rfl
end
end L2
namespace L2
open PySem PySem.Spec PyProof.Rows
def av(f:D->D->List Cell->R D)(a b:Ev->List Cell->R D):Ev->List Cell->R D:=λe c=>(a e c).bind λx c=>(b e c).bind λy c=>f x y c
def oV(f:D->List Cell->R D)(a:Ev->List Cell->R D):Ev->List Cell->R D:=λe c=>(a e c).bind λx c=>f x c
def r2(K:Θ)(f:D->D->List Cell->R D):R2:=λv u H Q=>∃ρ x y c,Wd K ρ H c/\Rel K ρ H x v/\Rel K ρ H y u/\post K (Rel K) (f x y c) ρ H Q
def r1(K:Θ)(f:D->List Cell->R D):V->Hp->VK->Prop:=λv H Q=>∃ρ x c,Wd K ρ H c/\Rel K ρ H x v/\post K (Rel K) (f x c) ρ H Q
def rN(K:Θ)(f:List D->List Cell->R D):List V->Hp->VK->Prop:=λvs H Q=>∃ρ xs c,Wd K ρ H c/\aK K ρ H xs vs/\post K (Rel K) (f xs c) ρ H Q
def aJ(f:List D->List Cell->R D)(a:Ev->List Cell->R (List D)):Ev->List Cell->R D:=λe c=>(a e c).bind λxs c=>f xs c
section
variable {X:Cx}{a b:π}{da db dd:Ev->List Cell->R D}{pos:Pos}{K:Θ}{σ:St}{H:Hp}{Q:VK}{f:D->D->List Cell->R D}
def yV(h:tD K (Rel K) (av f da db) σ H Q):tD K (Rel K) da σ H λv H1=>tD K (Rel K) db σ H1 λu H2=>r2 K f v u H2 Q:=by
 obtain⟨ρ,e,c,W,V,p⟩:=h;refine⟨ρ,e,c,W,V,post.bind p λx c1 aI H1 v _ W1 X1 r1 p1=>⟨aI,e,c1,W1,V.mono W X1,post.bind p1 λy c2 cE H2 u _ W2 X2 r2 p2=>⟨cE,x,y,c2,W2,Rel.mono W1 X2 _ _ r1,r2,p2⟩⟩⟩
def UX{g:D->List Cell->R D}(h:tD K (Rel K) (oV g da) σ H Q):tD K (Rel K) da σ H λv H1=>r1 K g v H1 Q:=by
 obtain⟨ρ,e,c,W,V,p⟩:=h;exact⟨ρ,e,c,W,V,post.bind p λx c1 aI H1 v _ W1 X1 r1 p1=>⟨aI,x,c1,W1,r1,p1⟩⟩
def K3{g:List D->List Cell->R D}{ds:Ev->List Cell->R (List D)}(h:tD K (Rel K) (aJ g ds) σ H Q):tD K (aK K) ds σ H λvs H1=>rN K g vs H1 Q:=by
 obtain⟨ρ,e,c,W,V,p⟩:=h;exact⟨ρ,e,c,W,V,post.bind p λx c1 aI H1 v _ W1 X1 r1 p1=>⟨aI,x,c1,W1,r1,p1⟩⟩
def bM{op:Operator}(ho:bS X (binaryOp op) (r2 X.K f))(ha:bg X a da)(hb:bg X b db):bg X (.BinOp a op b pos) (av f da db):=(LU ho ha hb).imp λσ H Q h=>yV h
def gq{op:CmpOp}(ho:bS X (compareOp op) (r2 X.K f))(ha:bg X a da)(hb:bg X b db)(hm:behindInMarks op b=Δ:=by first|exact MK _|rfl):bg X (.Compare a [op] [b] pos) (av f da db):=(Z6 ho ha hb hm).imp λσ H Q h=>yV h
def L6{op:UnaryOp}{g:D->List Cell->R D}(ho:yk X (unaryOp op) (r1 X.K g))(ha:bg X a da):bg X (.UnaryOp op a pos) (oV g da):=(ZV ho ha).imp λσ H Q h=>UX h
def bW(hr:yu X (r2 X.K f))(ha:bg X a da)(hb:bg X b db)(hs:RI b:=by exact λ_ _=>rfl):bg X (.Subscript a b pos) (av f da db):=(Z2 hr ha hb hs).imp λσ H Q h=>yV h
def HX(f g:D->D->List Cell->R D)(a b d:Ev->List Cell->R D):Ev->List Cell->R D:=λe c=>(a e c).bind λx c=>(b e c).bind λy c=>(f x y c).bind λz c=>match z with
 |.bl θ=>(d e c).bind λu c=>g y u c
 |.bl Δ=>.ok (.bl Δ) c
 |_=>.bad
end
def au:Ev->List Cell->R (List D):=λ_ c=>.ok [] c
def aq(a:Ev->List Cell->R D)(r:Ev->List Cell->R (List D)):Ev->List Cell->R (List D):=λe c=>(a e c).bind λx c=>(r e c).bind λxs c=>.ok (x::xs) c
def bf(a:Ev->List Cell->R (List D)):Ev->List Cell->R D:=λe c=>(a e c).bind λxs c=>if xs.length<=ε then .ok (.tup xs) c else .bad
def cV(a:Ev->List Cell->R (List D)):Ev->List Cell->R D:=λe c=>(a e c).bind λxs c=>if xs.length<=ε then .ok (.lst xs) c else .bad
def cU(a:Ev->List Cell->R (List D)):Ev->List Cell->R D:=λe c=>(a e c).bind λxs c=>if xs.length<=ε/\bI xs=θ then .ok (.ref c.length) (c++[.lst xs])else .bad
section
variable {X:Cx}{a:π}{es:List π}{da:Ev->List Cell->R D}{ds:Ev->List Cell->R (List D)}{pos:Pos}{K:Θ}{ρ:List Ψ}{H:Hp}{c:List Cell}{Q:VK}{xs:List D}{vs:List V}
def aC:gE X [] au:=kr.imp λσ H Q h=>by
 obtain⟨ρ,e,c,W,V,p⟩:=h;exact post.here (b:=[]) p W rfl
def az(ha:bg X a da)(hr:gE X es ds)(hs:μ (a::es) X.env=(Δ,eval a X.env)::μ es X.env:=by exact c7 rfl):gE X (a::es) (aq da ds):=(ju ha hr hs).imp λσ H Q h=>by
 obtain⟨ρ,e,c,W,V,p⟩:=h;refine⟨ρ,e,c,W,V,post.bind p λx c1 aI H1 v _ W1 X1 r1 p1=>⟨aI,e,c1,W1,V.mono W X1,post.bind p1 λy c2 cE H2 u _ W2 X2 r2 p2=>?_⟩⟩
 exact p2.here W2 ⟨v,u,rfl,Rel.mono W1 X2 _ _ r1,r2⟩
def xj(W:Wd K ρ H c)(r:aK K ρ H xs vs)(p:post K (Rel K) (.ok (.tup xs) c) ρ H Q):∀q,H q=η->Q (.ref q) (upd H q (.tup vs)):=λq hq =>
 p ρ _ _ (W.fresh hq) (Ext.fresh W hq) ⟨q,vs,rfl,fM,aK.mono W (Ext.fresh W hq) _ _ r⟩
def zQ(W:Wd K ρ H c)(r:aK K ρ H xs vs)(p:post K (Rel K) (.ok (.lst xs) c) ρ H Q):∀q,H q=η->Q (.ref q) (upd H q (.lst vs)):=λq hq =>
 p ρ _ _ (W.fresh hq) (Ext.fresh W hq) ⟨q,vs,rfl,⟨fM,W.nil hq⟩,aK.mono W (Ext.fresh W hq) _ _ r⟩
def zR(W:Wd K ρ H c)(nr:bI xs=θ)(r:aK K ρ H xs vs)(p:post K (Rel K) (.ok (.ref c.length) (c++[.lst xs])) ρ H Q):∀q,H q=η->Q (.ref q) (upd H q (.lst vs)):=λq hq =>
 p (ρ++[q]) _ _ (W.cell hq nr r) (Ext.cell W hq) ⟨q,rfl,by rw[aov (by rw[W.len];exact anU _),W.len,ao2];rfl⟩
def dZ{x1}(h:gE X es ds):bg X (.Tuple es x1 pos) (bf ds):=(ZX h).imp λσ H Q h=>by
 obtain⟨ρ,e,c,W,V,p⟩:=h;refine⟨ρ,e,c,W,V,post.bind p λx c1 aI H1 v _ W1 X1 r1 p1=>?_⟩
 split at p1
 ·rename_i hl;exact⟨by rw[r1.length];exact hl,xj W1 r1 p1⟩
 ·exact p1.elim
def iK(h:gE X es ds):bg X (.List es pos) (cV ds):=(LV h).imp λσ H Q h=>by
 obtain⟨ρ,e,c,W,V,p⟩:=h;refine⟨ρ,e,c,W,V,post.bind p λx c1 aI H1 v _ W1 X1 r1 p1=>?_⟩
 split at p1
 ·rename_i hl;exact⟨by rw[r1.length];exact hl,zQ W1 r1 p1⟩
 ·exact p1.elim
def iX(h:gE X es ds):bg X (.List es pos) (cU ds):=(LV h).imp λσ H Q h=>by
 obtain⟨ρ,e,c,W,V,p⟩:=h;refine⟨ρ,e,c,W,V,post.bind p λx c1 aI H1 v _ W1 X1 r1 p1=>?_⟩
 split at p1
 ·rename_i hl;exact⟨by rw[r1.length];exact hl.1,zR W1 hl.2 r1 p1⟩
 ·exact p1.elim
end
def bx:D->D->List Cell->R D:=λx y c=>match x,y with
 |.int i,.int j=>.ok (.int (i+j)) c
 |.str a,.str b=>if a.length+b.length<=ε then .ok (.str (a++b)) c else .bad
 |.tup l,.tup m=>if l.length≠0/\l.length+m.length<=ε then .ok (.tup (l++m)) c else .bad
 |_,_=>.bad
def fO:D->D->List Cell->R D:=λx y c=>match x,y with
 |.int i,.int j=>.ok (.int (i-j)) c
 |_,_=>.bad
def ez:D->D->List Cell->R D:=λx y c=>match x,y with
 |.int i,.int j=>if(-(2^64)<i/\i<2^64)\/(-(2^64)<j/\j<2^64)then .ok (.int (i*j)) c else .bad
 |_,_=>.bad
def fu:D->D->List Cell->R D:=λx y c=>match x,y with
 |.int i,.int j=>if 0<j/\j<1073741824 then .ok (.int (i/j)) c else .bad
 |_,_=>.bad
def cZ:D->D->List Cell->R D:=λx y c=>match x,y with
 |.int i,.int j=>if 0<j then .ok (.int (i % j)) c else .bad
 |_,_=>.bad
def tU:D->D->List Cell->R D:=λx y c=>match x,y with
 |.int i,.int j=>if 0<=j/\j<=1000000/\i.natAbs<2^64 then .ok (.int (i^j.toNat)) c else .bad
 |_,_=>.bad
def nZ:D->List Cell->R D:=λx c=>match x with
 |.int i=>.ok (.int (-i)) c
 |_=>.bad
def qO(p:Int->Int->Bool):D->D->List Cell->R D:=λx y c=>match x,y with
 |.int i,.int j=>.ok (.bl (p i j)) c
 |_,_=>.bad
section
variable {X:Cx}
def eT:bS X (binaryOp .Add) (r2 X.K bx):=by
 intro pins s σ H v u vv uu Q I rv ru h;obtain⟨ρ,x,y,c,W,rx,ry,p⟩:=h;unfold bx at p;split at p
 ·cases rx;cases ry;exact aaQ pins s σ H _ _ vv uu Q I rv ru ⟨_,_,rfl,rfl,p.here W rfl⟩
 ·split at p
  ·rename_i hl;cases rx;cases ry;exact aaP pins s σ H _ _ vv uu Q I rv ru ⟨_,_,rfl,rfl,hl,p.here W rfl⟩
  ·exact p.elim
 ·split at p
  ·rename_i hl;obtain⟨a,xs,rfl,sa,ra⟩:=rx;obtain⟨b,ys,rfl,sb,rb⟩:=ry;refine Mh pins s σ H _ _ vv uu Q I rv ru ⟨a,b,xs,ys,rfl,rfl,cg.of sa,cg.of sb,λz=>hl.1 ?_,by rw[ra.length,rb.length];exact hl.2,λz=>?_,λ_=>xj W (ra.append rb) p⟩
   ·rw[<-ra.length,z];rfl
   ·refine p.here W ⟨a,xs++ys,rfl,by rw[z,aoM];exact sa,ra.append rb⟩
  ·exact p.elim
 ·exact p.elim
def ue:bS X (binaryOp .Sub) (r2 X.K fO):=by
 intro pins s σ H v u vv uu Q I rv ru h;obtain⟨ρ,x,y,c,W,rx,ry,p⟩:=h;unfold fO at p;split at p
 ·cases rx;cases ry;exact aaw pins s σ H _ _ vv uu Q I rv ru ⟨_,_,rfl,rfl,p.here W rfl⟩
 ·exact p.elim
def p9:bS X (binaryOp .Mult) (r2 X.K ez):=by
 intro pins s σ H v u vv uu Q I rv ru h;obtain⟨ρ,x,y,c,W,rx,ry,p⟩:=h;unfold ez at p;split at p
 ·split at p
  ·rename_i hl;cases rx;cases ry;exact aaC pins s σ H _ _ vv uu Q I rv ru ⟨_,_,rfl,rfl,hl,p.here W rfl⟩
  ·exact p.elim
 ·exact p.elim
def wZ:bS X (binaryOp .FloorDiv) (r2 X.K fu):=by
 intro pins s σ H v u vv uu Q I rv ru h;obtain⟨ρ,x,y,c,W,rx,ry,p⟩:=h;unfold fu at p;split at p
 ·split at p
  ·rename_i hl;cases rx;cases ry;exact aaJ pins s σ H _ _ vv uu Q I rv ru ⟨_,_,rfl,rfl,hl,p.here W rfl⟩
  ·exact p.elim
 ·exact p.elim
def lA:bS X (binaryOp .Mod) (r2 X.K cZ):=by
 intro pins s σ H v u vv uu Q I rv ru h;obtain⟨ρ,x,y,c,W,rx,ry,p⟩:=h;unfold cZ at p;split at p
 ·split at p
  ·rename_i hl;cases rx;cases ry;exact aaD pins s σ H _ _ vv uu Q I rv ru ⟨_,_,rfl,rfl,hl,p.here W rfl⟩
  ·exact p.elim
 ·exact p.elim
def Mu:bS X (binaryOp .Pow) (r2 X.K tU):=by
 intro pins s σ H v u vv uu Q I rv ru h;obtain⟨ρ,x,y,c,W,rx,ry,p⟩:=h;unfold tU at p;split at p
 ·split at p
  ·rename_i hl;cases rx;cases ry;exact aaz pins s σ H _ _ vv uu Q I rv ru ⟨_,_,rfl,rfl,hl,p.here W rfl⟩
  ·exact p.elim
 ·exact p.elim
def Kz:yk X (unaryOp .USub) (r1 X.K nZ):=by
 intro pins s σ H v vv Q I rv h;obtain⟨ρ,x,c,W,rx,p⟩:=h;unfold nZ at p;split at p
 ·cases rx;exact Uu pins s σ H _ vv Q I rv ⟨_,rfl,p.here W rfl⟩
 ·exact p.elim
def zK{f:Ξ->Ξ->Sem Ξ}{q:Int->Int->Bool}(h:bS X f (ko λi j=>.bl (q i j))):bS X f (r2 X.K (qO q)):=by
 intro pins s σ H v u vv uu Q I rv ru hh;obtain⟨ρ,x,y,c,W,rx,ry,p⟩:=hh;unfold qO at p;split at p
 ·cases rx;cases ry;exact h pins s σ H _ _ vv uu Q I rv ru ⟨_,_,rfl,rfl,p.here W rfl⟩
 ·exact p.elim
abbrev gK:=qO λi j=>decide (i<j)
abbrev DR:=qO λi j=>decide (i<=j)
abbrev iN:=qO λi j=>decide (j<i)
abbrev O4:=qO λi j=>decide (j<=i)
def wY:bS X (compareOp .Lt) (r2 X.K gK):=zK aaE
def Mv:bS X (compareOp .LtE) (r2 X.K DR):=zK aaF
def zJ:bS X (compareOp .Gt) (r2 X.K iN):=zK aaH
def ab2:bS X (compareOp .GtE) (r2 X.K O4):=zK aaI
end
def Hg:D->D->Option Bool
 |.aF,.aF=>ζ θ|.aF,.int _=>ζ Δ|.int _,.aF=>ζ Δ|.aF,.bl _=>ζ Δ|.bl _,.aF=>ζ Δ|.aF,.str _=>ζ Δ|.str _,.aF=>ζ Δ
 |.int i,.int j=>ζ (decide (i=j))|.bl a,.bl b=>ζ (decide (a=b))|.str x,.str y=>ζ (decide (x=y))
 |.int _,.str _=>ζ Δ|.str _,.int _=>ζ Δ|.bl _,.str _=>ζ Δ|.str _,.bl _=>ζ Δ
 |_,_=>η
def cH:D->D->List Cell->R D:=λx y c=>match Hg x y with
 |some b=>.ok (.bl b) c
 |none=>.bad
def cL:D->D->List Cell->R D:=λx y c=>match Hg x y with
 |some b=>.ok (.bl (!b)) c
 |none=>.bad
def g8:D->Bool
 |.aF=>θ
 |_=>Δ
def i9:D->D->List Cell->R D:=λx y c=>match y with
 |.aF=>.ok (.bl (g8 x)) c
 |_=>.bad
def kG:D->D->List Cell->R D:=λx y c=>match y with
 |.aF=>.ok (.bl (!g8 x)) c
 |_=>.bad
section
variable {X:Cx}{K:Θ}{ρ:List Ψ}{H:Hp}{c:List Cell}
def P7{x y:D}{v u:V}{b:Bool}(rx:Rel K ρ H x v)(ry:Rel K ρ H y u)(h:Hg x y=ζ b):C5 v u=θ/\decide (v=u)=b:=by
 cases x<;>cases y<;>first
  |(cases rx;cases ry;cases h;refine⟨rfl,?_⟩;simp;done)
  |(cases h;done)
def i6:bS X (compareOp .Eq) (r2 X.K cH):=by
 intro pins s σ H v u vv uu Q I rv ru h;obtain⟨ρ,x,y,c,W,rx,ry,p⟩:=h;unfold cH at p;split at p
 ·rename_i b hb;obtain⟨h1,h2⟩:=P7 rx ry hb;exact aaK pins s σ H _ _ vv uu Q I rv ru ⟨h1,by rw[h2];exact p.here W rfl⟩
 ·exact p.elim
def iZ:bS X (compareOp .NotEq) (r2 X.K cL):=by
 intro pins s σ H v u vv uu Q I rv ru h;obtain⟨ρ,x,y,c,W,rx,ry,p⟩:=h;unfold cL at p;split at p
 ·rename_i b hb;obtain⟨h1,h2⟩:=P7 rx ry hb;exact aaB pins s σ H _ _ vv uu Q I rv ru ⟨h1,by rw[h2];exact p.here W rfl⟩
 ·exact p.elim
def N9{x:D}{v:V}(rx:Rel K ρ H x v):decide (v=.aF)=g8 x:=by
 cases x<;>first
  |(cases rx;rfl;done)
  |(cases rx;simp[g8];done)
  |(obtain⟨a,xs,rfl,_⟩:=rx;simp[g8];done)
  |(obtain⟨a,rfl,_⟩:=rx;simp[g8];done)
  |(obtain⟨a,o,q,c,cl,xs,rfl,_⟩:=rx;simp[g8];done)
def Dw:bS X (compareOp .Is) (r2 X.K i9):=by
 intro pins s σ H v u vv uu Q I rv ru h;obtain⟨ρ,x,y,c,W,rx,ry,p⟩:=h;unfold i9 at p;split at p
 ·cases ry;exact aaG pins s σ H _ _ vv uu Q I rv ru ⟨rfl,by rw[N9 rx];exact p.here W rfl⟩
 ·exact p.elim
def Mw:bS X (compareOp .IsNot) (r2 X.K kG):=by
 intro pins s σ H v u vv uu Q I rv ru h;obtain⟨ρ,x,y,c,W,rx,ry,p⟩:=h;unfold kG at p;split at p
 ·cases ry;exact aaA pins s σ H _ _ vv uu Q I rv ru ⟨rfl,by rw[N9 rx];exact p.here W rfl⟩
 ·exact p.elim
def aaj{a b d:π}{da db dd:Ev->List Cell->R D}{pos:Pos}{op op':CmpOp}{f g:D->D->List Cell->R D}(ho:bS X (compareOp op) (r2 X.K f))(ho':bS X (compareOp op') (r2 X.K g))(ha:bg X a da)(hb:bg X b db)(hd:bg X d dd)
  (h1:lastMarks [op,op'] [b,d]=Δ:=by with_unfolding_all rfl) :
  bg X (.Compare a [op,op'] [b,d] pos) (HX f g da db dd):=(Z7 ho ho' ha hb hd h1).imp λσ H Q h=>by
 obtain⟨ρ,e,c,W,V,p⟩:=h;refine⟨ρ,e,c,W,V,post.bind p λx c1 aI H1 v _ W1 X1 r1 p1=>⟨aI,e,c1,W1,V.mono W X1,post.bind p1 λy c2 cE H2 u _ W2 X2 r2 p2=>⟨cE,x,y,c2,W2,Rel.mono W1 X2 _ _ r1,r2,post.bind p2 λz c3 rH H3 w _ W3 X3 r3 p3=>?_⟩⟩⟩
 have V3:=(V.mono W X1).mono W1 (X2.trans X3);cases z with
 |bl k =>
  cases r3;refine⟨k,rfl,?_⟩;cases k with
  |true =>
   refine lQ ⟨rH,e,c3,W3,V3,post.bind p3 λt c4 gk H4 w4 _ W4 X4 r4 p4=>⟨gk,y,t,c4,W4,Rel.mono W2 (X3.trans X4) _ _ r2,r4,p4⟩⟩
  |false=>exact lR (p3.here W3 rfl)
 |_=>exact p3.elim
end
def eS(c:List Cell):D->Option (List D)
 |.tup l=>ζ l
 |.lst l=>ζ l
 |.b7 l=>ζ (l.map D.int)
 |.ref k=>match c[k]? with
  |some (.lst l)=>ζ l
  |none=>η
 |_=>η
def aE:D->D->List Cell->R D:=λx y c=>match y with
 |.int i=>match eS c x with
  |some l=>match cD l i with
   |some d=>.ok d c
   |none=>.bad
  |none=>.bad
 |_=>.bad
section
variable {X:Cx}{K:Θ}{ρ:List Ψ}{H:Hp}{c:List Cell}
def y9{x:D}{v:V}{l:List D}(W:Wd K ρ H c)(rx:Rel K ρ H x v)(h:eS c x=ζ l):∃a xs,v=.ref a/\(bY K H a xs\/cg K H a xs)/\aK K ρ H l xs:=by
 cases x with
 |tup m =>
  cases h;obtain⟨a,xs,e,s,r⟩:=rx;exact⟨a,xs,e,.inr (cg.of s),r⟩
 |lst m =>
  cases h;obtain⟨a,xs,e,s,r⟩:=rx;exact⟨a,xs,e,.inl (bY.of s.1),r⟩
 |b7 m =>
  cases h;obtain⟨a,e,s⟩:=rx;exact⟨a,_,e,.inl s.sql,aK.ints⟩
 |ref k =>
  obtain⟨a,e,s⟩:=rx;unfold eS at h;dsimp only at h;cases hc:c[k]? with
  |none=>rw[hc]at h;cases h
  |some cl =>
   cases cl with
   |lst m =>
    rw[hc]at h;cases h;obtain⟨_,xs,hx,r⟩:=W.eO k a _ s hc;exact⟨a,xs,e,.inl (bY.of hx),r⟩
 |_=>cases h
def akH{l:List D}{xs:List V}{i:Int}{d:D}(r:aK K ρ H l xs)(h:cD l i=ζ d):∃v,cD xs i=ζ v/\Rel K ρ H d v:=by
 unfold cD at h ⊢;rw[r.length];cases e:eL l.length i with
 |none=>rw[e]at h;cases h
 |some j =>
  rw[e]at h;exact r.get (i:=j) h
def bX:yu X (r2 X.K aE):=by
 intro value slice pins s σ H v u vv uu Q I rv ru h hs;obtain⟨ρ,x,y,c,W,rx,ry,p⟩:=h;unfold aE at p;split at p
 ·split at p
  ·rename_i l hl;split at p
   ·rename_i d hd;cases ry;obtain⟨a,xs,rfl,sq,r⟩:=y9 W rx hl;obtain⟨w,hw,rw'⟩:=akH r hd
    rcases sq with sq|sq
    ·exact afH value slice pins s σ H _ _ vv uu Q I rv ru ⟨a,xs,_,w,rfl,rfl,sq,hw,p.here W rw'⟩ hs
    ·exact afG value slice pins s σ H _ _ vv uu Q I rv ru ⟨a,xs,_,w,rfl,rfl,sq,hw,p.here W rw'⟩ hs
   ·exact p.elim
  ·exact p.elim
 ·exact p.elim
end
def rV(c:List Cell):D->Option Bool
 |.aF=>ζ Δ
 |.bl b=>ζ b
 |.int i=>ζ (i != 0)
 |.tup l=>ζ (!l.isEmpty)
 |.lst l=>ζ (!l.isEmpty)
 |.ref k=>match c[k]? with
  |some (.lst l)=>ζ (!l.isEmpty)
  |none=>η
 |_=>η
def Bu(a:Ev->List Cell->R D):Ev->List Cell->R Bool:=λe c=>(a e c).bind λx c=>match rV c x with
 |some b=>.ok b c
 |none=>.bad
def aM(a:Ev->List Cell->R D):Ev->List Cell->R Bool:=λe c=>(a e c).bind λx c=>match x with
 |.bl b=>.ok b c
 |_=>.bad
def iE(a b:Ev->List Cell->R Bool):Ev->List Cell->R Bool:=λe c=>(a e c).bind λx c=>if x=θ then b e c else .ok Δ c
def uO(a b:Ev->List Cell->R Bool):Ev->List Cell->R Bool:=λe c=>(a e c).bind λx c=>if x=θ then .ok θ c else b e c
def gT(a:Ev->List Cell->R Bool):Ev->List Cell->R Bool:=λe c=>(a e c).bind λx c=>.ok (!x) c
def gf(a b:Ev->List Cell->R D):Ev->List Cell->R D:=λe c=>(a e c).bind λx c=>match x with
 |.bl k=>if k=θ then b e c else .ok (.bl Δ) c
 |_=>.bad
def iO(a:Ev->List Cell->R D):Ev->List Cell->R D:=λe c=>(a e c).bind λx c=>match x with
 |.bl k=>.ok (.bl (!k)) c
 |_=>.bad
def HW(t:Ev->List Cell->R Bool)(a b:Ev->List Cell->R D):Ev->List Cell->R D:=λe c=>(t e c).bind λx c=>if x=θ then a e c else b e c
section
variable {X:Cx}{a b c':π}{da db:Ev->List Cell->R D}{ta tb:Ev->List Cell->R Bool}{pos:Pos}{rest:List π}
def UH{K:Θ}{ρ:List Ψ}{H:Hp}{c:List Cell}{x:D}{v:V}{k:Bool}(W:Wd K ρ H c)(rx:Rel K ρ H x v)(h:rV c x=ζ k):Jr K v H k:=by
 have emp:∀{l:List D}{xs:List V},aK K ρ H l xs->l.isEmpty=xs.isEmpty:=fun{l xs} r=>by
  have:=r.length;cases l<;>cases xs<;>simp_all
 cases x with
 |aF=>cases rx;cases h;exact rfl
 |bl b=>cases rx;cases h;exact rfl
 |int i=>cases rx;cases h;exact rfl
 |tup l =>
  obtain⟨a,xs,rfl,s,r⟩:=rx;cases h;exact .inr (.inl ⟨xs,cg.of s,by rw[emp r]⟩)
 |lst l =>
  obtain⟨a,xs,rfl,s,r⟩:=rx;cases h;exact .inl ⟨xs,bY.of s.1,by rw[emp r]⟩
 |ref j =>
  obtain⟨a,rfl,s⟩:=rx;unfold rV at h;dsimp only at h;cases hc:c[j]? with
  |none=>rw[hc]at h;cases h
  |some cl =>
   cases cl with
   |lst m =>
    rw[hc]at h;cases h;obtain⟨_,xs,hx,r⟩:=W.eO j a _ s hc;exact .inl ⟨xs,bY.of hx,by rw[emp r]⟩
 |_=>cases h
def aac(ha:bg X a da)(he:∀whole,isTrue a X.env whole=(do let v <-whole;standAt a.pos;holding [v] (truthy v)):=by intro _;rfl):ji X a (Bu da):=(Yz ha he).imp λσ H Q h=>by
 obtain⟨ρ,e,c,W,V,p⟩:=h;refine⟨ρ,e,c,W,V,post.bind p λx c1 aI H1 v _ W1 X1 r1 p1=>?_⟩
 split at p1
 ·rename_i k hk;exact⟨k,UH W1 r1 hk,p1.here W1 rfl⟩
 ·exact p1.elim
def Ro(h:tD X.K (λ_ _ a b=>a=b) (aM da) σ H Q):tD X.K (Rel X.K) da σ H λx H'=>∃k,x=.bl k/\Q k H':=by
 obtain⟨ρ,e,c,W,V,p⟩:=h;refine⟨ρ,e,c,W,V,post.bind p λx c1 aI H1 v _ W1 X1 r1 p1=>?_⟩
 cases x with
 |bl k=>cases r1;exact⟨k,rfl,p1.here W1 rfl⟩
 |_=>exact p1.elim
def gX(ha:bg X a da)(he:∀whole,isTrue a X.env whole=(do let v <-whole;standAt a.pos;holding [v] (truthy v)):=by intro _;rfl):ji X a (aM da):=(Yy ha he).imp λσ H Q h=>Ro h
def dh{op:CmpOp}{f:D->D->List Cell->R D}(ho:bS X (compareOp op) (r2 X.K f))(ha:bg X a da)(hb:bg X b db)(hm:behindInMarks op b=Δ:=by first|exact MK _|rfl):ji X (.Compare a [op] [b] pos) (aM (av f da db)) :=
 (YB ho ha hb hm).imp λσ H Q h=>yV (Q:=λx H'=>∃k,x=.bl k/\Q k H') (Ro h)
def Dq(ha:ji X a ta):vQ X (.BoolOp .And [a] pos) ta:=Yu ha
def L8(ha:ji X a ta):vQ X (.BoolOp .Or [a] pos) ta:=Ys ha
def Dp(ha:ji X a ta)(hb:vQ X (.BoolOp .And (b::rest) pos) tb):vQ X (.BoolOp .And (a::b::rest) pos) (iE ta tb):=(Yv ha hb).imp λσ H Q h=>by
 obtain⟨ρ,e,c,W,V,p⟩:=h;refine⟨ρ,e,c,W,V,post.bind p λx c1 aI H1 v _ W1 X1 r1 p1=>?_⟩
 cases r1;cases x with
 |true=>exact lQ ⟨aI,e,c1,W1,V.mono W X1,p1⟩
 |false=>exact lR (post.here (a:=Δ) p1 W1 rfl)
def L7(ha:ji X a ta)(hb:vQ X (.BoolOp .Or (b::rest) pos) tb):vQ X (.BoolOp .Or (a::b::rest) pos) (uO ta tb):=(Yt ha hb).imp λσ H Q h=>by
 obtain⟨ρ,e,c,W,V,p⟩:=h;refine⟨ρ,e,c,W,V,post.bind p λx c1 aI H1 v _ W1 X1 r1 p1=>?_⟩
 cases r1;cases x with
 |true=>exact lQ (post.here (a:=θ) p1 W1 rfl)
 |false=>exact lR ⟨aI,e,c1,W1,V.mono W X1,p1⟩
def tY(ha:ji X a ta):ji X (.UnaryOp .Not a pos) (gT ta):=(YA ha).imp λσ H Q h=>by
 obtain⟨ρ,e,c,W,V,p⟩:=h;refine⟨ρ,e,c,W,V,post.bind p λx c1 aI H1 v _ W1 X1 r1 p1=>?_⟩
 cases r1;exact p1.here W1 rfl
def nR{op}(h:bg X a da):bg X (.BoolOp op [a] pos) da:=ZZ h
def nU(ha:bg X a da)(hb:bg X (.BoolOp .And (b::rest) pos) db):bg X (.BoolOp .And (a::b::rest) pos) (gf da db):=(aab ha hb).imp λσ H Q h=>by
 obtain⟨ρ,e,c,W,V,p⟩:=h;refine⟨ρ,e,c,W,V,post.bind p λx c1 aI H1 v _ W1 X1 r1 p1=>?_⟩
 cases x with
 |bl k =>
  cases r1;refine⟨k,rfl,?_⟩;cases k with
  |true=>exact lQ ⟨aI,e,c1,W1,V.mono W X1,p1⟩
  |false=>exact lR (post.here (a:=D.bl Δ) p1 W1 rfl)
 |_=>exact p1.elim
def tZ(ha:bg X a da):bg X (.UnaryOp .Not a pos) (iO da):=(Z0 ha).imp λσ H Q h=>by
 obtain⟨ρ,e,c,W,V,p⟩:=h;refine⟨ρ,e,c,W,V,post.bind p λx c1 aI H1 v _ W1 X1 r1 p1=>?_⟩
 cases x with
 |bl k=>cases r1;exact⟨k,rfl,p1.here W1 rfl⟩
 |_=>exact p1.elim
def aah(ht:ji X c' ta)(ha:bg X a da)(hb:bg X b db):bg X (.IfExp c' a b pos) (HW ta da db):=(Z4 ht ha hb).imp λσ H Q h=>by
 obtain⟨ρ,e,c,W,V,p⟩:=h;refine⟨ρ,e,c,W,V,post.bind p λx c1 aI H1 v _ W1 X1 r1 p1=>?_⟩
 cases r1;cases x with
 |true=>exact lQ ⟨aI,e,c1,W1,V.mono W X1,p1⟩
 |false=>exact lR ⟨aI,e,c1,W1,V.mono W X1,p1⟩
end
inductive Fl where
 |nx (e:Ev)|rt (d:D)|bk (e:Ev)|ct (e:Ev)
abbrev aa:=List Cell
abbrev af:=Ev->List Cell->R D
abbrev ah:=Ev->List Cell->R Fl
abbrev ai:=Ev->List Cell->R Bool
abbrev aj:=Ev->List Cell->R (List D)
inductive FV where
 |nx (σ:St)|rt (v:V)|bk (σ:St)|ct (σ:St)
def pe(K:Θ)(ρ:List Ψ)(H:Hp):Fl->FV->Prop
 |.nx e,f=>∃σ,f=.nx σ/\cR K ρ H e σ
 |.rt d,f=>∃v,f=.rt v/\Rel K ρ H d v
 |.bk e,f=>∃σ,f=.bk σ/\cR K ρ H e σ
 |.ct e,f=>∃σ,f=.ct σ/\cR K ρ H e σ
def En(Z:Ends):FV->Hp->Prop
 |.nx σ,H=>Z.nx σ H
 |.rt v,H=>Z.rt v H
 |.bk σ,H=>Z.bk σ H
 |.ct σ,H=>Z.ct σ H
def CO(K:Θ)(d:ah):TS:=λZ σ H=>tD K (pe K) d σ H (En Z)
abbrev jj(X:Cx)(st:aar)(d:ah):Prop:=PS X st (CO X.K d)
abbrev cj(X:Cx)(st:List aar)(d:ah):Prop:=fE X st (CO X.K d)
def bF:ah:=λe c=>.ok (.nx e) c
def aD(a b:ah):ah:=λe c=>(a e c).bind λf c=>match f with
 |.nx e=>b e c
 |f=>.ok f c
def aR(a:af):ah:=λe c=>(a e c).bind λx c=>.ok (.rt x) c
def cW(a:af):ah:=λe c=>(a e c).bind λ_ c=>.ok (.nx e) c
def bh(t:ai)(a b:ah):ah:=λe c=>(t e c).bind λx c=>if x=θ then a e c else b e c
def aH(i:Nat)(a:af):ah:=λe c=>(a e c).bind λx c=>.ok (.nx (e.set i (ζ x))) c
def tQ:ah:=λ_ _=>.bad
section
variable {X:Cx}{st:aar}{rest:List aar}{t u:ah}{e:π}{da:af}{pos:Pos}
def dW:cj X [] bF:=YD.imp λZ σ H h=>by
 obtain⟨ρ,e,c,W,V,p⟩:=h;exact p.here W ⟨σ,rfl,V⟩
def aU(h1:jj X st t)(h2:cj X rest u):cj X (st::rest) (aD t u):=(zq h1 h2).imp λZ σ H h=>by
 obtain⟨ρ,e,c,W,V,p⟩:=h;refine⟨ρ,e,c,W,V,post.bind p λf c1 aI H1 b _ W1 X1 r1 p1=>?_⟩
 cases f with
 |nx e1=>obtain⟨σ1,rfl,V1⟩:=r1;exact⟨aI,e1,c1,W1,V1,p1⟩
 |rt d=>obtain⟨v,rfl,V1⟩:=r1;exact post.here (Q:=En Z) (show post X.K (pe X.K) (.ok (Fl.rt d) c1) aI H1 (En Z)from p1) W1 ⟨_,rfl,V1⟩
 |bk e1=>obtain⟨σ1,rfl,V1⟩:=r1;exact post.here (Q:=En Z) (show post X.K (pe X.K) (.ok (Fl.bk e1) c1) aI H1 (En Z)from p1) W1 ⟨_,rfl,V1⟩
 |ct e1=>obtain⟨σ1,rfl,V1⟩:=r1;exact post.here (Q:=En Z) (show post X.K (pe X.K) (.ok (Fl.ct e1) c1) aI H1 (En Z)from p1) W1 ⟨_,rfl,V1⟩
def aS(h1:jj X st t):cj X [st] t:=LJ h1
def C4:jj X st tQ:=λ_ _ _ _ _ _ h=>by
 obtain⟨ρ,e,c,W,V,p⟩:=h;exact p.elim
def bV(he:bg X e da):jj X (.Return (ζ e) pos) (aR da):=(YJ he).imp λZ σ H h=>by
 obtain⟨ρ,e,c,W,V,p⟩:=h;refine⟨ρ,e,c,W,V,post.bind p λx c1 aI H1 v _ W1 X1 r1 p1=>p1.here W1 ⟨v,rfl,r1⟩⟩
def iW(he:bg X e da)(hs:swapsWith e η pos.line X.env=pure Δ:=by rfl):jj X (.Expr e pos) (cW da):=(Dk he hs).imp λZ σ H h=>by
 obtain⟨ρ,e,c,W,V,p⟩:=h;refine⟨ρ,e,c,W,V,post.bind p λx c1 aI H1 v _ W1 X1 r1 p1=>p1.here W1 ⟨σ,rfl,V.mono W X1⟩⟩
def dz{c':π}{a b:List aar}{tc:ai}(hc:ji X c' tc)(ha:cj X a t)(hb:cj X b u):jj X (.If c' a b pos) (bh tc t u):=(LK hc ha hb).imp λZ σ H h=>by
 obtain⟨ρ,e,c,W,V,p⟩:=h;refine⟨ρ,e,c,W,V,post.bind p λx c1 aI H1 v _ W1 X1 r1 p1=>?_⟩
 cases r1;cases x with
 |true=>exact lQ ⟨aI,e,c1,W1,V.mono W X1,p1⟩
 |false=>exact lR ⟨aI,e,c1,W1,V.mono W X1,p1⟩
def bT{i:Nat}{x:Str}{pos':Pos}(he:bg X e da)(hN:X.N.Nodup:=by decide +kernel)(hi:X.N[i]? = ζ x:=by rfl)(hx:Loc X.env.scope x:=by first|exact Or.inl rfl|exact Or.inr rfl)(hs:swapsWith e (ζ (.Name x pos')) pos.line X.env=pure Δ:=by rfl)
  (hf:X.fn x=θ\/X.env.scope.names.lookup x=ζ .local:=by first|exact .inl rfl|exact .inr rfl):jj X (.Assign [.Name x pos'] e pos) (aH i da):=(YI hN hi hx he hs).imp λZ σ H h=>by
 obtain⟨ρ,e,c,W,V,p⟩:=h;refine⟨ρ,e,c,W,V,post.bind p λx c1 aI H1 v _ W1 X1 r1 p1=>p1.here W1 ⟨_,rfl,(V.mono W X1).set r1 i⟩⟩
end
abbrev Gd:=D->Ev->aa->R Ev
def r8(K:Θ)(g:Gd):TG:=λv σ H Q=>∃ρ x e c,Wd K ρ H c/\cR K ρ H e σ/\Rel K ρ H x v/\post K (λρ H e σ=>cR K ρ H e σ) (g x e c) ρ H Q
def Vg(K:Θ)(g:List D->Ev->aa->R Ev):nt:=λvs σ H Q=>∃ρ xs e c,Wd K ρ H c/\cR K ρ H e σ/\aK K ρ H xs vs/\post K (λρ H e σ=>cR K ρ H e σ) (g xs e c) ρ H Q
abbrev nu(X:Cx)(e:π)(g:Gd):Prop:=PG X e (r8 X.K g)
abbrev BK(X:Cx)(es:List π)(g:List D->Ev->aa->R Ev):Prop:=pq X es (Vg X.K g)
def aA(i:Nat):Gd:=λx e c=>.ok (e.set i (ζ x)) c
def dQ:List D->Ev->aa->R Ev:=λxs e c=>match xs with
 |[]=>.ok e c
 |_=>.bad
def bR(g:Gd)(r:List D->Ev->aa->R Ev):List D->Ev->aa->R Ev:=λxs e c=>match xs with
 |x::xs=>(g x e c).bind λe c=>r xs e c
 |_=>.bad
def dI(n:Nat)(g:List D->Ev->aa->R Ev):Gd:=λx e c=>match x with
 |.tup l=>if l.length=n then g l e c else .bad
 |_=>.bad
def PG.imp{X:Cx}{e:π}{t t':TG}(h:PG X e t)(i:∀v σ H Q,t' v σ H Q->t v σ H Q):PG X e t':=λpins s σ H x u Q I r q=>h pins s σ H x u Q I r (i _ _ _ _ q)
def pq.imp{X:Cx}{es:List π}{t t':nt}(h:pq X es t)(i:∀v σ H Q,t' v σ H Q->t v σ H Q):pq X es t':=λpins s σ H x u Q I r q=>h pins s σ H x u Q I r (i _ _ _ _ q)
section
variable {X:Cx}{pos:Pos}
def bN{i:Nat}{x:Str}(hN:X.N.Nodup:=by decide +kernel)(hi:X.N[i]? = ζ x:=by rfl)(hx:Loc X.env.scope x:=by first|exact Or.inl rfl|exact Or.inr rfl)(hf:X.fn x=θ\/X.env.scope.names.lookup x=ζ .local:=by first|exact .inl rfl|exact .inr rfl):nu X (.Name x pos) (aA i) :=
 (ZT hN hi hx hf).imp λv σ H Q h=>by
  obtain⟨ρ,x,e,c,W,V,r,p⟩:=h;exact p.here W (V.set r i)
def uF:BK X [] dQ:=ZP.imp λv σ H Q h=>by
 obtain⟨ρ,xs,e,c,W,V,r,p⟩:=h;cases xs with
 |nil=>exact⟨r,p.here W V⟩
 |cons x xs=>exact p.elim
def jx{e:π}{es:List π}{g:Gd}{u:List D->Ev->aa->R Ev}(h1:nu X e g)(h2:BK X es u)(hs:(assignEach (e::es) X.env).map (·.2)=assign e X.env::(assignEach es X.env).map (·.2):=by rfl):BK X (e::es) (bR g u) :=
 (ZQ h1 h2 hs).imp λv σ H Q h=>by
  obtain⟨ρ,xs,e,c,W,V,r,p⟩:=h;cases xs with
  |nil=>exact p.elim
  |cons x xs =>
   obtain⟨y,ys,rfl,rx,rs⟩:=r;exact⟨y,ys,rfl,ρ,x,e,c,W,V,rx,post.bind p λe1 c1 aI H1 σ1 _ W1 X1 V1 p1=>⟨aI,xs,e1,c1,W1,V1,aK.mono W X1 _ _ rs,p1⟩⟩
def uG{es:List π}{k:Nat}{g:List D->Ev->aa->R Ev}{n:Nat}(h:BK X es g)(hc:X.calm=θ:=by rfl)(hn:(assignEach es X.env).length=n:=by rfl)(hst:(assignEach es X.env).findIdx? (·.1)=η:=by rfl):nu X (.Tuple es k pos) (dI n g) :=
 (ZR hc h hn hst).imp λv σ H Q h=>by
  obtain⟨ρ,x,e,c,W,V,r,p⟩:=h;cases x with
  |tup l =>
   obtain⟨a,xs,rfl,s,rs⟩:=r;unfold dI at p;dsimp only at p;split at p
   ·rename_i hl;exact⟨a,xs,rfl,cg.of s,rs.length.trans hl,ρ,l,e,c,W,V,rs,p⟩
   ·exact p.elim
  |_=>exact p.elim
def gI(a:af)(g:Gd):ah:=λe c=>(a e c).bind λx c=>(g x e c).bind λe c=>.ok (.nx e) c
def pM{tg e:π}{da:af}{g:Gd}(he:bg X e da)(hg:nu X tg g)(hs:swapsWithSole [tg] e pos.line X.env=pure Δ:=by rfl)(hw:swappedStores [tg] e X.env=pure η:=by rfl)
  (h1:(assignEach [tg] X.env).map (·.2)=[assign tg X.env]:=by rfl):jj X (.Assign [tg] e pos) (gI da g):=(YM he hg hs hw h1).imp λZ σ H h=>by
 obtain⟨ρ,e,c,W,V,p⟩:=h;refine⟨ρ,e,c,W,V,post.bind p λx c1 aI H1 v _ W1 X1 r1 p1=>⟨aI,x,e,c1,W1,V.mono W X1,r1,post.bind p1 λe2 c2 cE H2 σ2 _ W2 X2 V2 p2=>p2.here W2 ⟨σ2,rfl,V2⟩⟩⟩
def iV:D->D->D->aa->R Unit:=λo i v c=>match o,i with
 |.ref k,.int i=>match c[k]? with
  |some (.lst l)=>match eL l.length i with
   |some j=>if noRef v=θ then .ok () (c.set k (.lst (l.set j v)))else .bad
   |none=>.bad
  |none=>.bad
 |_,_=>.bad
def gQ(o i:af):Gd:=λx e c=>(o e c).bind λo c=>(i e c).bind λi c=>(iV o i x c).bind λ_ c=>.ok e c
def qG{o i:π}{dO di:af}(ho:bg X o dO)(hi:bg X i di)
  (ha:∀v,assign (.Subscript o i pos) X.env v=(do
   let ov <-holding [v] (eval o X.env)
   let iv <-holding [v,ov] (eval i X.env)
   standAt pos
   holding [v,ov,iv] (setItem ov iv v)
   release [v,ov,iv] []):=by intro _;rfl):nu X (.Subscript o i pos) (gQ dO di):=(ZS ho hi set_list ha).imp λv σ H Q h=>by
 obtain⟨ρ,x,e,c,W,V,rx,p⟩:=h;refine⟨ρ,e,c,W,V,post.bind p λo c1 aI H1 ov _ W1 X1 r1 p1=>⟨aI,e,c1,W1,V.mono W X1,post.bind p1 λi c2 cE H2 iv _ W2 X2 r2 p2=>?_⟩⟩
 have V2:=(V.mono W X1).mono W1 X2;have Xg:=Rel.mono W (X1.trans X2) _ _ rx;have ro:=Rel.mono W1 X2 _ _ r1;unfold iV at p2;split at p2
 ·rename_i k i _ _;split at p2
  ·rename_i l hl;split at p2
   ·rename_i j hj;split at p2
    ·rename_i hv;obtain⟨a,rfl,ha⟩:=ro;cases r2;obtain⟨nr,ys,hy,rl⟩:=W2.eO k a _ ha hl;refine⟨a,ys,i,j,rfl,rfl,hy,by rw[rl.length];exact hj,?_⟩
     exact p2 cE _ σ (W2.write ha (MN nr hv) (rl.set j Xg)) (Ext.write ha) (V2.mono W2 (Ext.write ha))
    ·exact p2.elim
   ·exact p2.elim
  ·exact p2.elim
 ·exact p2.elim
end
structure Src where
 items:List D
 stays:aa->Prop
def JS(K:Θ)(ρ:List Ψ)(H:Hp)(s:Src)(J:It):Prop :=
 ∀ρ' H' c',Wd K ρ' H' c'->Ext ρ H ρ' H'->s.stays c'->∀i:Nat,
  (∀d,s.items[i]? = ζ d->J.go i H'/\∀x H2,J.vV i H' x H2->Wd K ρ' H2 c'/\Ext ρ' H' ρ' H2/\Rel K ρ' H2 d x)/\(i=s.items.length->J.stop i H')
def CP(K:Θ)(d:Ev->aa->R Src):TI:=tD K (JS K) d
abbrev PId(X:Cx)(tg iter:π)(d:Ev->aa->R Src):Prop:=PI X tg iter (CP X.K d)
def PI.imp{X:Cx}{tg iter:π}{t t':TI}(h:PI X tg iter t)(i:∀σ H Q,t' σ H Q->t σ H Q):PI X tg iter t':=λpins s σ H Q I q=>h pins s σ H Q I (i _ _ _ q)
def cy(a:af):Ev->aa->R Src:=λe c=>(a e c).bind λx c=>match x with
 |.lst l=>.ok ⟨l,λ_=>True⟩ c
 |.b7 l=>.ok ⟨l.map D.int,λ_=>True⟩ c
 |.ref k=>match c[k]? with
  |some (.lst l)=>.ok ⟨l,λc=>c[k]? = ζ (.lst l)⟩ c
  |none=>.bad
 |_=>.bad
def jz(a:af):Ev->aa->R Src:=λe c=>(a e c).bind λx c=>match x with
 |.tup l=>.ok ⟨l,λ_=>True⟩ c
 |_=>.bad
def aO(lo hi:Int):List D:=(ι (hi-lo).toNat).map fun(i:Nat)=>D.int (lo+(i:Int))
def bH(a:aj):Ev->aa->R Src:=λe c=>(a e c).bind λxs c=>match xs with
 |[.int j]=>if -(2^62)<=j/\j<2^62 then .ok ⟨aO 0 j,λ_=>True⟩ c else .bad
 |_=>.bad
def eV(a:aj):Ev->aa->R Src:=λe c=>(a e c).bind λxs c=>match xs with
 |[.int i,.int j]=>if -(2^62)<=i/\i<2^62/\-(2^62)<=j/\j<2^62 then .ok ⟨aO i j,λ_=>True⟩ c else .bad
 |_=>.bad
def l5(a:aj):Ev->aa->R Src:=λe c=>(a e c).bind λxs c=>match xs with
 |[.tup l]=>.ok ⟨l.mapIdx λi x=>.tup [.int i,x],λ_=>True⟩ c
 |_=>.bad
section
variable {X:Cx}{tg:π}{K:Θ}{ρ:List Ψ}{H:Hp}
def Fx{l:List D}{a:Ψ}{st:aa->Prop}(h:∀ρ' H' c',Wd K ρ' H' c'->Ext ρ H ρ' H'->st c'->∃xs,bY K H' a xs/\aK K ρ' H' l xs):JS K ρ H ⟨l,st⟩ (JB K a):=by
 intro ρ' H' c' W E s i;obtain⟨xs,q,r⟩:=h ρ' H' c' W E s;refine⟨λd hd=>?_,λe=>⟨xs,q,by rw[r.length];exact aoY e.symm⟩⟩
 obtain⟨x,hx,rx⟩:=r.get hd;refine⟨⟨xs,x,q,hx⟩,λy H2 hy=>?_⟩
 obtain⟨rfl,hy⟩:=hy;have:=hy xs q;rw[hx]at this;cases this;exact⟨W,Ext.refl,rx⟩
def afz{l:List D}{a:Ψ}{st:aa->Prop}(h:∀ρ' H' c',Wd K ρ' H' c'->Ext ρ H ρ' H'->st c'->∃xs,cg K H' a xs/\aK K ρ' H' l xs):JS K ρ H ⟨l,st⟩ (JA K a):=by
 intro ρ' H' c' W E s i;obtain⟨xs,q,r⟩:=h ρ' H' c' W E s;refine⟨λd hd=>?_,λe=>⟨xs,q,by rw[r.length];exact aoY e.symm⟩⟩
 obtain⟨x,hx,rx⟩:=r.get hd;refine⟨⟨xs,x,q,hx⟩,λy H2 hy=>?_⟩
 obtain⟨rfl,hy⟩:=hy;have:=hy xs q;rw[hx]at this;cases this;exact⟨W,Ext.refl,rx⟩
def ki{lo hi:Int}{i:Nat}{d:D}(h:(aO lo hi)[i]? = ζ d):i<(hi-lo).toNat/\d=.int (lo+i):=by
 unfold aO at h;rw[aoH]at h;cases q:(ι (hi-lo).toNat)[i]? with
 |none=>rw[q]at h;cases h
 |some j =>
  rw[q]at h;have h1:=(an7.mp q);obtain⟨h2,h3⟩:=h1;rw[aqf]at h3;subst h3;cases h;exact⟨by simpa using h2,rfl⟩
def N5{lo hi:Int}{st:aa->Prop}:JS K ρ H ⟨aO lo hi,st⟩ (yv lo (hi-lo).toNat):=by
 intro ρ' H' c' W E s i;refine⟨λd hd=>?_,λe=>?_⟩
 ·obtain⟨h1,rfl⟩:=ki hd;refine⟨h1,λx H2 hy=>?_⟩
  obtain⟨rfl,rfl⟩:=hy;exact⟨W,Ext.refl,rfl⟩
 ·have:(aO lo hi).length=(hi-lo).toNat:=by simp[aO]
  show(hi-lo).toNat<=i;rw[e];exact aoY this.symm
def iM{l:π}{dl:af}(hl:bg X l dl):PId X tg l (cy dl):=(ZN hl).imp λσ H Q h=>by
 obtain⟨ρ,e,c,W,V,p⟩:=h;refine⟨ρ,e,c,W,V,post.bind p λx c1 aI H1 v _ W1 X1 r1 p1=>?_⟩
 cases x with
 |lst l =>
  obtain⟨a,xs,rfl,s,rs⟩:=r1;exact⟨a,rfl,⟨xs,bY.of s.1⟩,p1.here W1 (Fx λρ' H' c' W' E _=>⟨xs,bY.of (NH E s).1,aK.mono W1 E _ _ rs⟩)⟩
 |b7 l =>
  obtain⟨a,rfl,s⟩:=r1;exact⟨a,rfl,⟨_,s.sql⟩,p1.here W1 (Fx λρ' H' c' W' E _=>⟨_,(Ld E s).sql,aK.ints⟩)⟩
 |ref k =>
  obtain⟨a,rfl,ha⟩:=r1;dsimp only at p1;split at p1
  ·rename_i l hl;obtain⟨_,xs,hx,rs⟩:=W1.eO k a _ ha hl;refine⟨a,rfl,⟨xs,bY.of hx⟩,p1.here W1 (Fx λρ' H' c' W' E st=>?_)⟩
   obtain⟨_,ys,hy,rs'⟩:=W'.eO k a _ (E.pre k a ha) st;exact⟨ys,bY.of hy,rs'⟩
  ·exact p1.elim
 |_=>exact p1.elim
def FH{l:π}{dl:af}(hl:bg X l dl):PId X tg l (jz dl):=(ZK hl).imp λσ H Q h=>by
 obtain⟨ρ,e,c,W,V,p⟩:=h;refine⟨ρ,e,c,W,V,post.bind p λx c1 aI H1 v _ W1 X1 r1 p1=>?_⟩
 cases x with
 |tup l =>
  obtain⟨a,xs,rfl,s,rs⟩:=r1;exact⟨a,rfl,⟨xs,cg.of s⟩,p1.here W1 (afz λρ' H' c' W' E _=>⟨xs,cg.of (pF W1 E s),aK.mono W1 E _ _ rs⟩)⟩
 |_=>exact p1.elim
def eE{a:π}{da:aj}{p pos:Pos}(ha:gE X [a] da)(hm:X.mg "range"=η)(hg:Gl X "range":=by rfl)(hs:μ [a] X.env=[(Δ,eval a X.env)]:=by exact sd rfl):PId X tg (.Call (.Name "range" p) [a] [] pos) (bH da) :=
 (ZM hg hm ha hs).imp λσ H Q h=>by
  obtain⟨ρ,e,c,W,V,p⟩:=h;refine⟨ρ,e,c,W,V,post.bind p λx c1 aI H1 v _ W1 X1 r1 p1=>?_⟩
  split at p1
  ·rename_i j _;split at p1
   ·rename_i hj;obtain⟨y,ys,rfl,ry,rs⟩:=r1;cases ry;cases rs;refine⟨j,rfl,hj.1,hj.2,p1.here W1 ?_⟩;have:=N5 (K:=X.K) (ρ:=aI) (H:=H1) (lo:=0) (hi:=j) (st:=λ_=>True)
    rw[Int.sub_zero]at this;exact this
   ·exact p1.elim
  ·exact p1.elim
def kI{a b:π}{da:aj}{p pos:Pos}(ha:gE X [a,b] da)(hm:X.mg "range"=η)(hg:Gl X "range":=by rfl)(hs:μ [a,b] X.env=[(Δ,eval a X.env),(Δ,eval b X.env)]:=by exact CT rfl rfl)(hs2:μ [b] X.env=[(Δ,eval b X.env)]:=by exact sd rfl):PId X tg (.Call (.Name "range" p) [a,b] [] pos) (eV da) :=
 (ZL hg hm ha hs hs2).imp λσ H Q h=>by
  obtain⟨ρ,e,c,W,V,p⟩:=h;refine⟨ρ,e,c,W,V,post.bind p λx c1 aI H1 v _ W1 X1 r1 p1=>?_⟩
  split at p1
  ·rename_i i j _;split at p1
   ·rename_i hj;obtain⟨y,ys,rfl,ry,z,zs,rfl,rz,rs⟩:=r1;cases ry;cases rz;cases rs;exact⟨i,j,rfl,hj,p1.here W1 N5⟩
   ·exact p1.elim
  ·exact p1.elim
def afy{l m:List D}{a b:Ψ}{st:aa->Prop}(h:∀ρ' H' c',Wd K ρ' H' c'->Ext ρ H ρ' H'->st c'->∃xs ys,cg K H' a xs/\cg K H' b ys/\aK K ρ' H' l xs/\aK K ρ' H' m ys):JS K ρ H ⟨List.zipWith (λx y=>.tup [x,y]) l m,st⟩ (BO (cg K) a b):=by
 intro ρ' H' c' W E s i;obtain⟨xs,ys,q1,q2,r1,r2⟩:=h ρ' H' c' W E s;refine⟨λd hd=>?_,λe=>⟨xs,ys,q1,q2,?_⟩⟩
 ·have hd:(List.zipWith (λx y=>D.tup [x,y]) l m)[i]? = ζ d:=hd
  rw[arL]at hd;cases e1:l[i]? with
  |none=>rw[e1]at hd;cases hd
  |some x =>
   cases e2:m[i]? with
   |none=>rw[e1,e2]at hd;cases hd
   |some y =>
    rw[e1,e2]at hd;cases hd;obtain⟨v,hv,rv⟩:=r1.get e1;obtain⟨u,hu,ru⟩:=r2.get e2;refine⟨⟨xs,ys,v,u,q1,q2,hv,hu⟩,λz H2 hz=>?_⟩
    obtain⟨t,v',u',rfl,ht,rfl,hz⟩:=hz;obtain⟨z1,z2⟩:=hz xs ys q1 q2;rw[hv]at z1;rw[hu]at z2;cases z1;cases z2;exact⟨W.fresh ht,Ext.fresh W ht,t,[v,u],rfl,fM,v,[u],rfl,Rel.mono W (Ext.fresh W ht) _ _ rv,u,[],rfl,Rel.mono W (Ext.fresh W ht) _ _ ru,rfl⟩
 ·have e:i=(List.zipWith (λx y=>D.tup [x,y]) l m).length:=e
  rw[arM]at e;rw[r1.length,r2.length];omega
def afA{l:List D}{a:Ψ}{st:aa->Prop}(h:∀ρ' H' c',Wd K ρ' H' c'->Ext ρ H ρ' H'->st c'->∃xs,cg K H' a xs/\aK K ρ' H' l xs):JS K ρ H ⟨l.mapIdx λi x=>.tup [.int i,x],st⟩ (JC (cg K) a):=by
 intro ρ' H' c' W E s i;obtain⟨xs,q,r⟩:=h ρ' H' c' W E s;refine⟨λd hd=>?_,λe=>⟨xs,q,?_⟩⟩
 ·have hd:(l.mapIdx λi x=>D.tup [.int i,x])[i]? = ζ d:=hd
  rw[arN]at hd;cases e1:l[i]? with
  |none=>rw[e1]at hd;cases hd
  |some x =>
   rw[e1]at hd;cases hd;obtain⟨v,hv,rv⟩:=r.get e1;refine⟨⟨xs,v,q,hv⟩,λz H2 hz=>?_⟩
   obtain⟨t,v',rfl,ht,rfl,hz⟩:=hz;have z1:=hz xs q;rw[hv]at z1;cases z1;exact⟨W.fresh ht,Ext.fresh W ht,t,[.int i,v],rfl,fM,.int i,[v],rfl,rfl,v,[],rfl,Rel.mono W (Ext.fresh W ht) _ _ rv,rfl⟩
 ·have e:i=(l.mapIdx λi x=>D.tup [.int i,x]).length:=e
  rw[List.length_mapIdx]at e;rw[r.length];exact e
def Of{es:List π}{k:Nat}{pt:Pos}{a:π}{da:aj}{p pos:Pos}(ha:gE X [a] da)(hm:X.mg "enumerate"=η)(hg:Gl X "enumerate":=by rfl)(hs:μ [a] X.env=[(Δ,eval a X.env)]:=by exact sd rfl) :
  PId X (.Tuple es k pt) (.Call (.Name "enumerate" p) [a] [] pos) (l5 da):=(ZO hg hm ha hs).imp λσ H Q h=>by
 obtain⟨ρ,e,c,W,V,p⟩:=h;refine⟨ρ,e,c,W,V,post.bind p λx c1 aI H1 v _ W1 X1 r1 p1=>?_⟩
 split at p1
 ·obtain⟨y,ys,rfl,ry,rs⟩:=r1;cases rs;obtain⟨a1,xs,rfl,s1,t1⟩:=ry;exact⟨a1,rfl,⟨xs,cg.of s1⟩,p1.here W1 (afA λρ' H' c' W' E _=>⟨xs,cg.of (pF W1 E s1),aK.mono W1 E _ _ t1⟩)⟩
 ·exact p1.elim
open Classical in
def b8(st:aa->Prop)(g:Gd)(b:ah):List D->ah
 |[],e,c=>if st c then .ok (.nx e) c else .bad
 |x::xs,e,c=>if st c then(g x e c).bind λe c=>(b e c).bind λf c=>match f with
   |.nx e=>b8 st g b xs e c
   |.ct e=>b8 st g b xs e c
   |.bk e=>.ok (.nx e) c
   |.rt d=>.ok (.rt d) c
  else .bad
def bJ(s:Ev->aa->R Src)(g:Gd)(b:ah):ah:=λe c=>(s e c).bind λs c=>b8 s.stays g b s.items e c
def d9{iter:π}{body:List aar}{ds:Ev->aa->R Src}{g:Gd}{db:ah}{pos:Pos}(hi:PId X tg iter ds)(hg:nu X tg g)(hb:cj X body db)(hp:PassesOwn (model X.prog X.w) X.A X.env X.xe:=by exact PassesOwn.never)(hc:X.calm=θ:=by rfl)
  (hs:∀x,foldedSetIterable iter X.env x=pure x:=by intro _;rfl):jj X (.For tg iter body [] pos) (bJ ds g db):=(YL hp hc hi hg hb hs).imp λZ σ H h=>by
 obtain⟨ρ,e,c,W,V,p⟩:=h;refine⟨ρ,e,c,W,V,post.bind p λs c1 aI H1 J _ W1 X1 j1 p1=>?_⟩
 refine⟨λi m σ H=>∃ρ e c,Wd X.K ρ H c/\Ext aI H1 ρ H/\cR X.K ρ H e σ/\i<=s.items.length/\m=s.items.length-i/\post X.K (pe X.K) (b8 s.stays g db (s.items.drop i) e c) ρ H (En Z),
  ⟨_,aI,e,c1,W1,Ext.refl,V.mono W X1,aoz _,rfl,p1⟩,?_⟩
 rintro i m σ2 H2 ⟨cE,e2,c2,W2,X2,V2,hi2,rfl,p2⟩
 by_cases hl:i<s.items.length
 ·rw[aqg hl]at p2;unfold b8 at p2;split at p2
  ·rename_i hst;obtain⟨go,yl⟩:=(j1 cE H2 c2 W2 X2 hst i).1 _ (anZ hl);refine .inr ⟨go,λσ' H'=>∃ρ e c,Wd X.K ρ H' c/\Ext aI H1 ρ H'/\cR X.K ρ H' e σ'/\i+1<=s.items.length/\post X.K (pe X.K) (b8 s.stays g db (s.items.drop (i+1)) e c) ρ H' (En Z),?_,λx H3 hy=>?_⟩
   ·rintro σ' H' ⟨ρ,e,c,w,x,v,l,q⟩
    exact⟨s.items.length-(i+1),by omega,ρ,e,c,w,x,v,l,rfl,q⟩
   ·obtain⟨W3,X3,r3⟩:=yl x H3 hy;refine⟨cE,_,e2,c2,W3,V2.mono W2 X3,r3,post.bind (post.ext p2 X3) λe4 c4 gk H4 JL _ W4 X4 V4 p4=>?_⟩
    refine⟨gk,e4,c4,W4,V4,post.bind p4 λf c5 j8 H5 b _ W5 X5 r5 p5=>?_⟩
    have o7:=((X2.trans X3).trans X4).trans X5;cases f with
    |nx e1=>obtain⟨σ1,rfl,V1⟩:=r5;exact⟨j8,e1,c5,W5,o7,V1,hl,p5⟩
    |ct e1=>obtain⟨σ1,rfl,V1⟩:=r5;exact⟨j8,e1,c5,W5,o7,V1,hl,p5⟩
    |bk e1=>obtain⟨σ1,rfl,V1⟩:=r5;exact post.here (Q:=En Z) (show post X.K (pe X.K) (.ok (Fl.nx e1) c5) j8 H5 (En Z)from p5) W5 ⟨_,rfl,V1⟩
    |rt d=>obtain⟨v,rfl,V1⟩:=r5;exact post.here (Q:=En Z) (show post X.K (pe X.K) (.ok (Fl.rt d) c5) j8 H5 (En Z)from p5) W5 ⟨_,rfl,V1⟩
  ·exact p2.elim
 ·obtain rfl:i=s.items.length:=by omega
  rw[aqY (anU _)]at p2;unfold b8 at p2;split at p2
  ·rename_i hst;exact .inl ⟨(j1 cE H2 c2 W2 X2 hst _).2 rfl,post.here (Q:=En Z) p2 W2 ⟨σ2,rfl,V2⟩⟩
  ·exact p2.elim
end
def dH(pick:List (Option Nat))(e:Ev):Ev:=pick.map λo=>o.bind λj=>(e[j]?).bind id
open Classical in
def bz(st:aa->Prop)(g:Gd)(t:ai)(el:af):List D->Ev->List D->aa->R (List D)
 |[],e,acc,c=>if st c then .ok acc c else .bad
 |x::xs,e,acc,c=>if st c then(g x e c).bind λe c=>(t e c).bind λk c=>if k=θ then(el e c).bind λy c=>bz st g t el xs e (acc++[y]) c else bz st g t el xs e acc c else .bad
def bA(s:Ev->aa->R Src)(pick:List (Option Nat))(g:Gd)(t:ai)(el:af):af:=λe c=>(s e c).bind λs c =>
 if s.items.length<ε then(bz s.stays g t el s.items (dH pick e) [] c).bind λl c=>.ok (.lst l) c else .bad
def aZ:ai:=λ_ c=>.ok θ c
abbrev yq(X:Cx)(ifs:List π)(t:ai):Prop:=rD X ifs (tD X.K (λ_ _ a b=>a=b) t)
section
variable {X:Cx}{N':List Str}{pick:List (Option Nat)}{scope:ac4}{tg elt iter:π}{ifs:List π}{pos:Pos}{ds:Ev->aa->R Src}{g:Gd}{dt:ai}{de:af}
def gp:yq X [] aZ:=λpins s σ H Q I h=>by
 obtain⟨ρ,e,c,W,V,p⟩:=h;exact ZH pins s σ H Q I (post.here (b:=θ) p W rfl)
def jJ{c':π}(h:ji X c' dt):yq X [c'] dt:=ZG h
def cR.picked{K:Θ}{ρ:List Ψ}{H:Hp}{e:Ev}{σ:St}(V:cR K ρ H e σ):cR K ρ H (dH pick e) (lg pick σ):=by
 refine⟨λi d h=>?_,by simp[dH,lg]⟩
 unfold dH at h;unfold lg;rw[aoH]at h ⊢;cases q:pick[i]? with
 |none=>rw[q]at h;cases h
 |some o =>
  rw[q]at h;cases o with
  |none=>cases h
  |some j =>
   have h':(e[j]?).bind id=ζ d:=an6 h;cases q2:e[j]? with
   |none=>rw[q2]at h';cases h'
   |some z =>
    rw[q2]at h';have h'':z=ζ d:=h';subst h'';obtain⟨v,hv,r⟩:=V.get j d q2;exact⟨v,by simp[hv],r⟩
def aj1{K:Θ}{aI:List Ψ}{H1:Hp}{c1:aa}{e:Ev}{σ:St}{s:Src}{J:It}{Q:VK}(W1:Wd K aI H1 c1)(V1:cR K aI H1 e σ)(j1:JS K aI H1 s J)(hn:s.items.length<ε)
  (p1:post K (Rel K) ((bz s.stays g dt de s.items e [] c1).bind λl c=>.ok (.lst l) c) aI H1 Q):JH J (r8 K g) (tD K (λ_ _ a b=>a=b) dt) (tD K (Rel K) de) Q σ H1:=by
 refine⟨λi m σ ys H=>∃ρ e acc c,Wd K ρ H c/\Ext aI H1 ρ H/\cR K ρ H e σ/\aK K ρ H acc ys/\acc.length<=i/\i<=s.items.length/\m=s.items.length-i/\post K (Rel K) ((bz s.stays g dt de (s.items.drop i) e acc c).bind λl c=>.ok (.lst l) c) ρ H Q,
  ⟨_,aI,e,[],c1,W1,Ext.refl,V1,rfl,anU _,aoz _,rfl,p1⟩,?_⟩
 rintro i m σ2 ys H2 ⟨cE,e2,acc,c2,W2,X2,V2,r2,ha,hi2,rfl,p2⟩
 refine⟨by rw[r2.length];omega,?_⟩
 by_cases hl:i<s.items.length
 ·rw[aqg hl]at p2;unfold bz at p2;split at p2
  ·rename_i hst;obtain⟨go,yl⟩:=(j1 cE H2 c2 W2 X2 hst i).1 _ (anZ hl);refine .inr ⟨go,λσ' ys' H'=>∃ρ e acc c,Wd K ρ H' c/\Ext aI H1 ρ H'/\cR K ρ H' e σ'/\aK K ρ H' acc ys'/\acc.length<=i+1/\i+1<=s.items.length/\post K (Rel K) ((bz s.stays g dt de (s.items.drop (i+1)) e acc c).bind λl c=>.ok (.lst l) c) ρ H' Q,?_,λx H3 hy=>?_⟩
   ·rintro σ' ys' H' ⟨ρ,e,acc,c,w,x,v,r,a,l,q⟩
    exact⟨s.items.length-(i+1),by omega,ρ,e,acc,c,w,x,v,r,a,l,rfl,q⟩
   ·obtain⟨W3,X3,r3⟩:=yl x H3 hy;have assoc:∀{α β γ:Type}(r:R α) (f:α->aa->R β) (g:β->aa->R γ),(r.bind f).bind g=r.bind λa c=>(f a c).bind g:=λr f g=>by cases r<;>rfl
    rw[assoc]at p2;refine⟨cE,_,e2,c2,W3,V2.mono W2 X3,r3,post.bind (post.ext p2 X3) λe4 c4 gk H4 JL _ W4 X4 V4 p4=>?_⟩
    rw[assoc]at p4;refine⟨gk,e4,c4,W4,V4,post.bind p4 λk c5 j8 H5 b _ W5 X5 r5 p5=>?_⟩
    cases r5;have o7:=((X2.trans X3).trans X4).trans X5;have wO:=aK.mono W2 ((X3.trans X4).trans X5) _ _ r2;cases k with
    |true =>
     refine lQ ?_;rw[if_pos rfl,assoc]at p5;refine⟨j8,e4,c5,W5,V4.mono W4 X5,post.bind p5 λy c6 BV H6 v _ W6 X6 r6 p6=>?_⟩
     refine⟨BV,e4,acc++[y],c6,W6,o7.trans X6,(V4.mono W4 X5).mono W5 X6,(aK.mono W5 X6 _ _ wO).append ⟨v,[],rfl,r6,rfl⟩,by simp;exact ha,hl,p6⟩
    |false =>
     refine lR ?_;rw[if_neg aoi]at p5;exact⟨j8,e4,acc,c5,W5,o7,V4.mono W4 X5,wO,arO ha,hl,p5⟩
  ·exact p2.elim
 ·obtain rfl:i=s.items.length:=by omega
  rw[aqY (anU _)]at p2;unfold bz at p2;split at p2
  ·rename_i hst;exact .inl ⟨(j1 cE H2 c2 W2 X2 hst _).2 rfl,zQ W2 r2 p2⟩
  ·exact p2.elim
def Qm{σ:St}{H:Hp}{Q:VK}{K:Θ}(h:tD K (Rel K) (bA ds pick g dt de) σ H Q):yX (CP K ds) pick (r8 K g) (tD K (λ_ _ a b=>a=b) dt) (tD K (Rel K) de) σ H Q:=by
 obtain⟨ρ,e,c,W,V,p⟩:=h;refine⟨ρ,e,c,W,V,post.bind p λs c1 aI H1 J _ W1 X1 j1 p1=>?_⟩
 split at p1
 ·rename_i hn;exact aj1 W1 (V.mono W X1).picked j1 hn p1
 ·exact p1.elim
def fZ(S:cI X N' pick scope)(hit:PId X tg iter ds)
  (hg:∀cl C s₀ H₀ ex pn,nu (fB X N' scope cl C s₀ H₀ ex pn) tg g) (hi:∀cl C s₀ H₀ ex pn,yq (fB X N' scope cl C s₀ H₀ ex pn) ifs dt) (he:∀cl C s₀ H₀ ex pn,bg (fB X N' scope cl C s₀ H₀ ex pn) elt de)
  (hc:X.calm=θ:=by rfl) (hs:∀x,foldedSetIterable iter X.env x=pure x:=by intro _;rfl) :
  bg X (.ListComp elt [⟨tg,iter,ifs,0⟩] scope pos) (bA ds pick g dt de):=(LY S hc hit hg hi he hs).imp λσ H Q h=>Qm h
def nO{i:Nat}{y:Str}{py spos:Pos}(S:cI X N' pick scope)(hit:PId X tg iter ds)
  (hg:∀cl C s₀ H₀ ex pn,nu (fB X N' scope cl C s₀ H₀ ex pn) tg g) (hi:∀cl C s₀ H₀ ex pn,yq (fB X N' scope cl C s₀ H₀ ex pn) ifs dt) (he:∀cl C s₀ H₀ ex pn,bg (fB X N' scope cl C s₀ H₀ ex pn) elt de)
  (hsw:swapsWith (.ListComp elt [⟨tg,iter,ifs,0⟩] scope pos) (ζ (.Name y py)) spos.line X.env=pure θ:=by rfl) (hN:X.N.Nodup:=by decide +kernel) (hy:X.N[i]? = ζ y:=by rfl) (hl:X.env.scope.names.lookup y=ζ .local:=by rfl)
  (hc:X.calm=θ:=by rfl) (hs:∀x,foldedSetIterable iter X.env x=pure x:=by intro _;rfl) :
  jj X (.Assign [.Name y py] (.ListComp elt [⟨tg,iter,ifs,0⟩] scope pos) spos) (aH i (bA ds pick g dt de)):=(YH (g:=r8 X.K g) (tt:=tD X.K (λ_ _ a b=>a=b) dt) (te:=tD X.K (Rel X.K) de) hsw hN hy hl S hc hit hg hi he hs).imp λZ σ H h=>by
 refine Qm (g:=g) (dt:=dt) (de:=de) ?_;obtain⟨ρ,e,c,W,V,p⟩:=h;refine⟨ρ,e,c,W,V,post.bind p λx c1 aI H1 v _ W1 X1 r1 p1=>p1.here W1 ⟨_,rfl,(V.mono W X1).set r1 i⟩⟩
end
def bQ(K:Θ)(n:Nat)(m:List D->aa->R D):Sp:=λvs H Q _=>∃ρ xs c,Wd K ρ H c/\aK K ρ H xs vs/\xs.length=n/\post K (Rel K) (m xs c) ρ H Q
def aG(n:Nat)(m:List D->aa->R D)(a:aj):af:=λe c=>(a e c).bind λxs c=>if xs.length=n then m xs c else .bad
def cF(n:Nat)(xs:List D):Ev:=xs.map ζ++ν (n-xs.length) η
def cA(own:Bool)(n:Nat)(v:D)(c:aa):R D:=match v with
 |.ref k=>match c[k]? with
  |some (.lst l)=>if n<=k then(if own=θ then .ok (.ref n) (c.take n++[.lst l])else .ok (.lst l) (c.take n))else .bad
  |none=>.bad
 |v=>if noRef v=θ then .ok v (c.take n)else .bad
def ck(n:Nat)(own:Bool)(d:ah):List D->aa->R D:=λxs c=>(d (cF n xs) c).bind λf c'=>match f with
 |.rt v=>cA own c.length v c'
 |.nx _=>cA own c.length .aF c'
 |_=>.bad
section
variable {P:τ}{w:ψ}{K:Θ}{mg:Str->Option Ξ}{base:υ}
def uL{own:Bool}{ρ aI:List Ψ}{H H1:Hp}{c c1:aa}{v:D}{x:V}{Q:VK}(W:Wd K ρ H c)(W1:Wd K aI H1 c1)(X1:Ext ρ H aI H1)(r:Rel K aI H1 v x)(p:post K (Rel K) (cA own c.length v c1) ρ H Q):Q x H1:=by
 have hn:=Ext.len W W1 X1;have Wc:=W1.cut hn;have Xc:=X1.cut (n:=c.length) (aoY W.len);unfold cA at p;split at p
 ·rename_i k;split at p
  ·rename_i l hl;split at p
   ·rename_i hk;obtain⟨a,rfl,ha⟩:=r;obtain⟨nr,xs,hx,rl⟩:=W1.eO k a _ ha hl;have na:a∉aI.take c.length:=by
     intro h;obtain⟨j,hj,e⟩:=ao4.mp h;have hj2:j<c.length:=by simp at hj;omega
     rw[aqh]at e;have hk1:=an7.mp ha;have hjl:j<aI.length:=by simp at hj;omega
     have:=(apw W1.nd (h₀:=hjl) (h₁:=hk1.1)).mp (e.trans hk1.2.symm);omega
    have sub:∀b,b∈aI.take c.length->b∈aI:=λb h=>aor h
    split at p
    ·have lr:(aI.take c.length).length=c.length:=by simp[W1.len];omega
     refine p (aI.take c.length++[a]) H1 (.ref a) ?_ ?_ ⟨a,rfl,?_⟩
     ·refine⟨?_,by simp[W1.len],λj b cl e1 e2=>?_,W1.tab⟩
      ·rw[aqe];refine⟨Wc.nd,by simp,?_⟩
       intro y hy z hz;rw[aoO]at hz;subst hz;exact λq=>na (q▸hy)
      ·by_cases hj:j<c.length
       ·rw[aow (by rw[lr];exact hj)]at e1
        rw[aow (by simp;omega)]at e2
        have q:=Wc.eO j b cl e1 e2;cases cl with
        |lst l' =>
         obtain⟨ku,ys,hy,r'⟩:=q;refine⟨ku,ys,hy,aK.low (ρ:=aI) (λz hz=>?_) l' ys ku ?_⟩
         ·rcases aou.mp hz with hz|hz
          ·exact sub z hz
          ·rw[aoO]at hz;subst hz;exact aoq ha
         ·have xX:aI[j]? = ζ b:=by rw[apF,if_pos hj]at e1;exact e1
          have e2':c1[j]? = ζ (.lst l'):=by rw[apF,if_pos hj]at e2;exact e2
          obtain⟨_,zs,hz,rz⟩:=W1.eO j b _ xX e2';rw[hy]at hz;cases hz;exact rz
       ·have hj':j=c.length:=by
         have:=(an7.mp e1).1;rw[aon,lr]at this;simp at this;omega
        subst hj';rw[aov (by rw[lr];exact anU _),lr,ao2]at e1
        rw[aov (by simp;omega),show c.length-(List.take c.length c1).length=0 by simp;omega]at e2
        cases e1;cases e2;refine⟨nr,xs,hx,aK.low (ρ:=aI) (λz hz=>?_) l xs nr rl⟩
        rcases aou.mp hz with hz|hz
        ·exact sub z hz
        ·rw[aoO]at hz;subst hz;exact aoq ha
     ·refine⟨λj b e=>?_,λb o e z t=>?_⟩
      ·have q:=Xc.pre j b e;rw[aow (an7.mp q).1];exact q
      ·obtain⟨h1,h2⟩:=X1.keep b o e z t;refine⟨h1,λq=>h2 ?_⟩
       rcases aou.mp q with q|q
       ·exact sub b q
       ·rw[aoO]at q;subst q;exact aoq ha
     ·rw[aov (by rw[lr];exact anU _),lr,ao2];rfl
    ·exact p (aI.take c.length) H1 (.ref a) Wc Xc ⟨a,xs,rfl,⟨hx,na⟩,aK.low sub l xs nr rl⟩
   ·exact p.elim
  ·exact p.elim
 ·split at p
  ·rename_i hv;exact p _ H1 x Wc Xc (Rel.low (λb h=>aor h) _ _ hv r)
  ·exact p.elim
def cR.start{ρ:List Ψ}{H:Hp}{xs:List D}{vs:List V}{N:List Str}(r:aK K ρ H xs vs):cR K ρ H (cF N.length xs) (start N vs):=by
 have hl:=r.length;refine⟨λi d h=>?_,by simp[cF,L2.start,hl]⟩
 unfold cF at h;unfold L2.start
 by_cases hi:i<xs.length
 ·rw[aow (by simpa using hi),aoH]at h
  cases q:xs[i]? with
  |none=>rw[q]at h;cases h
  |some x =>
   rw[q]at h;cases h;obtain⟨v,hv,rv⟩:=r.get q;exact⟨v,by rw[aow (by simp[hl];exact hi),aoH,hv];rfl,rv⟩
 ·rw[aov (by simpa using arF hi)]at h
  have:=aoq h;rw[List.mem_replicate]at this;cases this.2
def dJ{x qual:Str}{st:aar}{f:Ψ}{fd:ο}{N ps:List Str}{k n m:Nat}{own:Bool}{d:ah}(F:j7 K x qual st f fd)(S:cB N ps (aW st))(hN:N.length=n)(hm:ps.length=m)
  (hb:∀(cdv:Ξ) (A:χ) (outer:List Env) (s:Ω) (H:Hp) (E:XK),cN k (A.deeper (envOfC qual (aW st) s.heap.objs.size f cdv))->cj (fW bO P w K mg base N qual (aW st) f cdv A outer s H E).fP (cu st) d) :
  bU P w K mg base bO (k+1) f fd ps (bQ K m (ck n own d)):=by
 subst hN;subst hm;refine F.ok S (λvs H Q E h=>?_) (λcdv A outer s H vs Q E hr h=>⟨_,hb cdv A outer s H E hr,?_⟩)
 ·obtain⟨ρ,xs,c,W,r,hl,p⟩:=h;exact r.length.trans hl
 ·obtain⟨ρ,xs,c,W,r,hl,p⟩:=h;refine⟨ρ,cF N.length xs,c,W,cR.start r,post.bind p λfl c1 aI H1 b _ W1 X1 r1 p1=>?_⟩
  cases fl with
  |nx e1 =>
   obtain⟨σ1,rfl,V1⟩:=r1;exact uL (v:=.aF) (x:=.aF) (H1:=H1) W W1 X1 rfl (by
    unfold ck at p;exact id (α:=post K (Rel K) (cA own c.length .aF c1) ρ H Q) (by
     rename_i he;rw[he]at p;exact p))
  |rt d =>
   obtain⟨v,rfl,V1⟩:=r1;exact uL (v:=d) (x:=v) (H1:=H1) W W1 X1 V1 (by
    unfold ck at p;rename_i he;rw[he]at p;exact p)
  |bk e1=>exact p1.elim
  |ct e1=>exact p1.elim
end
section
variable {X:Cx}
def bK{x:Str}{st:aar}{ps:List Str}{f:Ψ}{fd:ο}{k n:Nat}{m:List D->aa->R D}{e:π}{es:List π}{da:aj}{p pos:Pos}(D:Def X.K X.mg x st ps f fd)(G:bU X.prog X.w X.K X.mg X.base bO k f fd ps (bQ X.K n m))(hr:cN k X.A)(ha:gE X (e::es) da)(hg:Gl X x:=by rfl)
  (hdb:(x==("__debug__":Str))=Δ:=by decide) (he:μ (e::es) X.env=(Δ,eval e X.env)::μ es X.env:=by exact c7 rfl) (hpl:(abE pos (μ es X.env)).any (·.1)=Δ:=by exact gW rfl) :
  bg X (.Call (.Name x p) (e::es) [] pos) (aG n m da):=(Z5 D G hr ha hg hdb he hpl).imp λσ H Q h=>by
 obtain⟨ρ,e,c,W,V,q⟩:=h;refine⟨ρ,e,c,W,V,post.bind q λxs c1 aI H1 vs _ W1 X1 r1 p1=>?_⟩
 split at p1
 ·rename_i hl;exact⟨aI,xs,c1,W1,by rw[aoM];exact r1,hl,p1⟩
 ·exact p1.elim
def bP{id:String}{x:Str}{p pos:Pos}{e:π}{es:List π}{da:aj}{f:List D->aa->R D}(hc:eH X (.builtin id) (rN X.K f))(hm:X.mg x=η)(hv:bootBuiltins x=ζ (.builtin id))(ha:gE X (e::es) da)(hg:Gl X x:=by rfl)(hn:x≠"__name__":=by decide)(hdb:(x==("__debug__":Str))=Δ:=by decide)
  (he:μ (e::es) X.env=(Δ,eval e X.env)::μ es X.env:=by exact c7 rfl) (hpl:(abE pos (μ es X.env)).any (·.1)=Δ:=by exact gW rfl):bg X (.Call (.Name x p) (e::es) [] pos) (aJ f da):=(LZ hc hg hm hv ha hn hdb he hpl).imp λσ H Q h=>K3 h
def pZ{T:String}{x:Str}{p pos:Pos}{e:π}{es:List π}{da:aj}{f:List D->aa->R D}(hc:eH X (.type T) (rN X.K f))(hm:X.mg x=η)(hv:bootBuiltins x=ζ (.type T))(ha:gE X (e::es) da)(hg:Gl X x:=by rfl)(hn:x≠"__name__":=by decide)(hdb:(x==("__debug__":Str))=Δ:=by decide)
  (he:μ (e::es) X.env=(Δ,eval e X.env)::μ es X.env:=by exact c7 rfl) (hpl:(abE pos (μ es X.env)).any (·.1)=Δ:=by exact gW rfl):bg X (.Call (.Name x p) (e::es) [] pos) (aJ f da):=(Dl hc hg hm hv ha hn hdb he hpl).imp λσ H Q h=>K3 h
end
def bC:List D->aa->R D:=λxs c=>match xs with
 |[x]=>match eS c x with
  |some l=>.ok (.int l.length) c
  |none=>match x with
   |.str z=>if z.length<=ε then .ok (.int z.length) c else .bad
   |_=>.bad
 |_=>.bad
def KC:D->Option String
 |.aF=>ζ "NoneType"
 |.bl _=>ζ "bool"
 |.int _=>ζ "int"
 |.str _=>ζ "str"
 |.tup _=>ζ "tuple"
 |.lst _=>ζ "list"
 |.ref _=>ζ "list"
 |_=>η
def bG:List D->aa->R D:=λxs c=>match xs with
 |[.iD,.ty T]=>if T∈["bool","int","str","list","tuple","dict"]then .ok (.bl (wo "dict" T)) c else .bad
 |[x,.ty T]=>match KC x with
  |some n=>if T∈["bool","int","str","list","tuple","dict"]then .ok (.bl (wo n T)) c else .bad
  |none=>.bad
 |_=>.bad
def kO:List D->Option (List Bool)
 |[]=>ζ []
 |.bl b::l=>(kO l).map (b :: ·)
 |_=>η
def kH:List D->Option (List Int)
 |[]=>ζ []
 |.int i::l=>(kH l).map (i :: ·)
 |_=>η
def BE(l:List Bool):kO (l.map D.bl)=ζ l:=by
 induction l with
 |nil=>rfl
 |cons a l ih=>simp[kO,ih]
def afP(l:List Int):kH (l.map D.int)=ζ l:=by
 induction l with
 |nil=>rfl
 |cons a l ih=>simp[kH,ih]
def ye:∀{l:List D}{bs:List Bool},kO l=ζ bs->l=bs.map D.bl
 |[],bs,h=>by cases h;rfl
 |d::l,bs,h=>by
  cases d with
  |bl b =>
   unfold kO at h;cases q:kO l with
   |none=>rw[q]at h;cases h
   |some r=>rw[q]at h;cases h;rw[ye q];rfl
  |_=>cases h
def FD:∀{l:List D}{bs:List Int},kH l=ζ bs->l=bs.map D.int
 |[],bs,h=>by cases h;rfl
 |d::l,bs,h=>by
  cases d with
  |int b =>
   unfold kH at h;cases q:kH l with
   |none=>rw[q]at h;cases h
   |some r=>rw[q]at h;cases h;rw[FD q];rfl
  |_=>cases h
def pX(f:List Bool->Bool):List D->aa->R D:=λxs c=>match xs with
 |[.lst l]=>match kO l with
  |some bs=>.ok (.bl (f bs)) c
  |none=>.bad
 |_=>.bad
def mh:=pX λbs=>bs.all id
def rA:=pX λbs=>bs.any id
def ur:List D->aa->R D:=λxs c=>match xs with
 |[.int i,.int j]=>.ok (.int (if j>i then j else i)) c
 |_=>.bad
def fR:List D->aa->R D:=λxs c=>match xs with
 |[.int i,.int j]=>.ok (.int (if j<i then j else i)) c
 |_=>.bad
def gV:List D->aa->R D:=λxs c=>match xs with
 |[x]=>match eS c x with
  |some l=>.ok (.tup l) c
  |none=>.bad
 |_=>.bad
section
variable {X:Cx}{K:Θ}{ρ:List Ψ}{H:Hp}{c:aa}
def eF:eH X (.builtin "len") (rN X.K bC):=by
 intro pins s σ H vs us Q I rv h;obtain⟨ρ,xs,c,W,rx,p⟩:=h;unfold bC at p;split at p
 ·rename_i x;obtain⟨v,r,rfl,hx,hr⟩:=rx;cases hr;split at p
  ·rename_i l hl;obtain⟨a,ys,rfl,sq,r⟩:=y9 W hx hl;exact akk pins s σ H _ us Q I rv ⟨a,ys,rfl,sq,by rw[r.length];exact p.here W rfl⟩
  ·split at p
   ·split at p
    ·rename_i hz;cases hx;exact akj pins s σ H _ us Q I rv ⟨_,rfl,hz,p.here W rfl⟩
    ·exact p.elim
   ·exact p.elim
 ·exact p.elim
def UA{x:D}{v:V}{n:String}(W:Wd K ρ H c)(rx:Rel K ρ H x v)(h:KC x=ζ n):tyName H v n:=by
 cases x with
 |aF=>cases rx;cases h;exact rfl
 |bl b=>cases rx;cases h;exact rfl
 |int b=>cases rx;cases h;exact rfl
 |str b=>cases rx;cases h;exact rfl
 |tup l=>obtain⟨a,xs,rfl,s,r⟩:=rx;cases h;exact .inr (.inl ⟨rfl,xs,s⟩)
 |lst l=>obtain⟨a,xs,rfl,s,r⟩:=rx;cases h;exact .inl ⟨rfl,.inl ⟨xs,s.1⟩⟩
 |ref k =>
  obtain⟨a,rfl,s⟩:=rx;cases h;obtain⟨xs,e⟩:=W.at' (aoq s);exact .inl ⟨rfl,.inl ⟨xs,e⟩⟩
 |_=>cases h
def iQ:eH X (.builtin "isinstance") (rN X.K bG):=by
 intro pins s σ H vs us Q I rv h;obtain⟨ρ,xs,c,W,rx,p⟩:=h;unfold bG at p;split at p
 ·split at p
  ·rename_i hT;obtain⟨v,r,rfl,⟨a,rfl,hH⟩,u,r',rfl,hu,hr⟩:=rx;cases hr;cases hu;obtain⟨u1,u2,rfl,r1,r2⟩:=Vals.two rv;cases r1;cases r2;obtain⟨hp,_,_⟩:=I.hok a _ hH;exact aoG aqD I.eB hp (NX (n:="dict") (by simp) hT) (λz=>nomatch z) λtk=>⟨.bl _,H,I.tok _,rfl,p.here W rfl⟩
  ·exact p.elim
 ·split at p
  ·rename_i n hn;split at p
   ·rename_i hT;obtain⟨v,r,rfl,hx,u,r',rfl,hu,hr⟩:=rx;cases hr;cases hu;exact akl pins s σ H _ us Q I rv ⟨v,n,_,rfl,UA W hx hn,hT,p.here W rfl⟩
   ·exact p.elim
  ·exact p.elim
 ·exact p.elim
def aka(hc:X.calm=θ:=by rfl):eH X (.builtin "all") (rN X.K mh):=by
 intro pins s σ H vs us Q I rv h;obtain⟨ρ,xs,c,W,rx,p⟩:=h;unfold mh pX at p;split at p
 ·split at p
  ·rename_i bs hb;obtain⟨v,r,rfl,⟨a,ys,rfl,s1,r1⟩,hr⟩:=rx;cases hr;rw[ye hb]at r1;cases r1.Jd;exact ako hc pins s σ H _ us Q I rv ⟨a,bs,rfl,bY.of s1.1,p.here W rfl⟩
  ·exact p.elim
 ·exact p.elim
def aj9(hc:X.calm=θ:=by rfl):eH X (.builtin "any") (rN X.K rA):=by
 intro pins s σ H vs us Q I rv h;obtain⟨ρ,xs,c,W,rx,p⟩:=h;unfold rA pX at p;split at p
 ·split at p
  ·rename_i bs hb;obtain⟨v,r,rfl,⟨a,ys,rfl,s1,r1⟩,hr⟩:=rx;cases hr;rw[ye hb]at r1;cases r1.Jd;exact akn hc pins s σ H _ us Q I rv ⟨a,bs,rfl,bY.of s1.1,p.here W rfl⟩
  ·exact p.elim
 ·exact p.elim
def aj6(hc:X.calm=θ:=by rfl):eH X (.builtin "max") (rN X.K ur):=by
 intro pins s σ H vs us Q I rv h;obtain⟨ρ,xs,c,W,rx,p⟩:=h;unfold ur at p;split at p
 ·obtain⟨v,r,rfl,hx,u,r',rfl,hu,hr⟩:=rx;cases hr;cases hx;cases hu;exact akh hc pins s σ H _ us Q I rv ⟨_,_,rfl,p.here W rfl⟩
 ·exact p.elim
def uQ(hc:X.calm=θ:=by rfl):eH X (.builtin "min") (rN X.K fR):=by
 intro pins s σ H vs us Q I rv h;obtain⟨ρ,xs,c,W,rx,p⟩:=h;unfold fR at p;split at p
 ·obtain⟨v,r,rfl,hx,u,r',rfl,hu,hr⟩:=rx;cases hr;cases hx;cases hu;exact akg hc pins s σ H _ us Q I rv ⟨_,_,rfl,p.here W rfl⟩
 ·exact p.elim
def yc:eH X (.type "tuple") (rN X.K gV):=by
 intro pins s σ H vs us Q I rv h;obtain⟨ρ,xs,c,W,rx,p⟩:=h;unfold gV at p;split at p
 ·rename_i x;obtain⟨v,r,rfl,hx,hr⟩:=rx;cases hr;split at p
  ·rename_i l hl;obtain⟨a,ys,rfl,sq,r⟩:=y9 W hx hl;refine ake pins s σ H _ us Q I rv ⟨a,ys,rfl,?_⟩
   rcases sq with sq|sq
   ·exact .inl ⟨sq,xj W r p⟩
   ·refine .inr ⟨sq,?_⟩;cases x with
    |tup m=>cases hl;exact p.here W hx
    |lst m =>
     obtain⟨b,zs,e,s1,_⟩:=hx;cases e;exfalso
     rcases sq with sq|⟨o,its,n,hk,hcl,_⟩
     ·rcases sq with sq|⟨o,sq⟩<;>(rw[s1.1]at sq;cases sq)
     ·have:=I.bs a o (I.ok.mod.jR a o hk);rw[s1.1]at this;cases this.2
    |b7 m =>
     exfalso;obtain⟨b,e,s1⟩:=hx;cases e;obtain⟨i1,_,pl,_⟩:=I.list s1.sql;obtain⟨i2,_,pt,_⟩:=I.tuple sq;obtain⟨o1,e1,c1,_⟩:=pl.isList;obtain⟨o2,e2,c2,_⟩:=pt;rw[e1]at e2;cases e2;rw[c1]at c2;exact absurd c2 (by decide)
    |ref k =>
     exfalso;obtain⟨b,e,s1⟩:=hx;cases e;obtain⟨zs,hz⟩:=W.at' (aoq s1)
     rcases sq with sq|⟨o,its,n,hk,hcl,_⟩
     ·rcases sq with sq|⟨o,sq⟩<;>(rw[hz]at sq;cases sq)
     ·have:=I.bs a o (I.ok.mod.jR a o hk);rw[hz]at this;cases this.2
    |_=>cases hl
  ·exact p.elim
 ·exact p.elim
end
def jW(o a:af):af:=λe c=>(o e c).bind λx c=>match x with
 |.ref k=>(a e c).bind λy c=>match c[k]? with
  |some (.lst l)=>if l.length<ε/\noRef y=θ then .ok .aF (c.set k (.lst (l++[y])))else .bad
  |none=>.bad
 |_=>.bad
def Dn{X:Cx}{o e:π}{dO da:af}{apos cpos:Pos}(ho:bg X o dO)(ha:bg X e da)
  (hbase:af3 o "append" X.env (eval o X.env)=eval o X.env:=by rfl)
  (hfew:((abE cpos (μ [e] X.env)).all (λx=>!x.1)&&(af9 cpos (ada [] X.env)).all (λx=>x.1.isSome)
   && decide ([e].length+([]:List adk).length+(if([]:List adk).isEmpty then 0 else 1)<30))=θ:=by exact wz rfl)
  (hline:(apos.endLine==cpos.line)=θ:=by rfl) (hs:μ [e] X.env=(Δ,eval e X.env)::μ [] X.env:=by exact c7 rfl) (hplain:(abE cpos (μ [] X.env)).any (·.1)=Δ:=by exact gW rfl) :
  bg X (.Call (.Attribute o "append" apos) [e] [] cpos) (jW dO da) :=
 (tX apG arP arQ Nx ho (ju ha kr hs) hbase hfew hline hs hplain).imp λσ H Q h=>by
  obtain⟨ρ,e,c,W,V,p⟩:=h;refine⟨ρ,e,c,W,V,post.bind p λx c1 aI H1 v _ W1 X1 r1 p1=>?_⟩
  cases x with
  |ref k =>
   obtain⟨a,rfl,ha⟩:=r1;obtain⟨xs,hx⟩:=W1.at' (aoq ha);refine⟨.inl ⟨rfl,xs,bY.of hx⟩,aI,e,c1,W1,V.mono W X1,post.bind p1 λy c2 cE H2 u _ W2 X2 r2 p2=>?_⟩
   split at p2
   ·rename_i l hl;split at p2
    ·rename_i hh;obtain⟨nr,ys,hy,rl⟩:=W2.eO k a _ (X2.pre k a ha) hl;refine⟨a,ys,u,rfl,rfl,hy,by rw[rl.length];exact hh.1,?_⟩
     refine p2 cE _ .aF (W2.write (X2.pre k a ha) (by rw[uf,nr];simp[bI,hh.2]) (rl.append ⟨u,[],rfl,r2,rfl⟩)) (Ext.write (X2.pre k a ha)) rfl
    ·exact p2.elim
   ·exact p2.elim
  |_=>exact p1.elim
section
variable (e:Ev) (c:aa) (a b d:af) (ta tb:ai) (s t:ah) (l:aj) (g:Gd) (gs:List D->Ev->aa->R Ev)
@[simp] theorem br(i:Nat):ak i e c=match e[i]? with|some (ζ d)=>.ok d c|_=>.bad:=rfl
@[simp] theorem dY(d:D):dC d e c=.ok d c:=rfl
@[simp] theorem cJ(f:D->D->aa->R D):av f a b e c=(a e c).bind λx c=>(b e c).bind λy c=>f x y c:=rfl
@[simp] theorem x_un(f:D->aa->R D):oV f a e c=(a e c).bind λx c=>f x c:=rfl
@[simp] theorem iG(f:List D->aa->R D):aJ f l e c=(l e c).bind λxs c=>f xs c:=rfl
@[simp] theorem amh(f g:D->D->aa->R D):HX f g a b d e c=(a e c).bind λx c=>(b e c).bind λy c=>(f x y c).bind λz c=>match z with
 |.bl θ=>(d e c).bind λu c=>g y u c
 |.bl Δ=>.ok (.bl Δ) c
 |_=>.bad:=rfl
@[simp] theorem bB:au e c=.ok [] c:=rfl
@[simp] theorem bE:aq a l e c=(a e c).bind λx c=>(l e c).bind λxs c=>.ok (x::xs) c:=rfl
@[simp] theorem j9:bf l e c=(l e c).bind λxs c=>if xs.length<=ε then .ok (.tup xs) c else .bad:=rfl
@[simp] theorem rL:cV l e c=(l e c).bind λxs c=>if xs.length<=ε then .ok (.lst xs) c else .bad:=rfl
@[simp] theorem al5:cU l e c=(l e c).bind λxs c=>if xs.length<=ε/\bI xs=θ then .ok (.ref c.length) (c++[.lst xs])else .bad:=rfl
@[simp] theorem ir:aM a e c=(a e c).bind λx c=>match x with|.bl b=>.ok b c|_=>.bad:=rfl
@[simp] theorem alV:Bu a e c=(a e c).bind λx c=>match rV c x with|some b=>.ok b c|none=>.bad:=rfl
@[simp] theorem Tf:iE ta tb e c=(ta e c).bind λx c=>if x=θ then tb e c else .ok Δ c:=rfl
@[simp] theorem alY:uO ta tb e c=(ta e c).bind λx c=>if x=θ then .ok θ c else tb e c:=rfl
@[simp] theorem JX:gT ta e c=(ta e c).bind λx c=>.ok (!x) c:=rfl
@[simp] theorem amj:gf a b e c=(a e c).bind λx c=>match x with|.bl k=>if k=θ then b e c else .ok (.bl Δ) c|_=>.bad:=rfl
@[simp] theorem JW:iO a e c=(a e c).bind λx c=>match x with|.bl k=>.ok (.bl (!k)) c|_=>.bad:=rfl
@[simp] theorem S8:HW ta a b e c=(ta e c).bind λx c=>if x=θ then a e c else b e c:=rfl
@[simp] theorem x_call(n:Nat)(m:List D->aa->R D):aG n m l e c=(l e c).bind λxs c=>if xs.length=n then m xs c else .bad:=rfl
@[simp] theorem alZ:bF e c=.ok (.nx e) c:=rfl
@[simp] theorem ami:tQ e c=.bad:=rfl
@[simp] theorem kc:aD s t e c=(s e c).bind λf c=>match f with|.nx e=>t e c|f=>.ok f c:=rfl
@[simp] theorem iF:aR a e c=(a e c).bind λx c=>.ok (.rt x) c:=rfl
@[simp] theorem rM:cW a e c=(a e c).bind λ_ c=>.ok (.nx e) c:=rfl
@[simp] theorem gx:bh ta s t e c=(ta e c).bind λx c=>if x=θ then s e c else t e c:=rfl
@[simp] theorem fK(i:Nat):aH i a e c=(a e c).bind λx c=>.ok (.nx (e.set i (ζ x))) c:=rfl
@[simp] theorem yL:gI a g e c=(a e c).bind λx c=>(g x e c).bind λe c=>.ok (.nx e) c:=rfl
@[simp] theorem amc(i:Nat)(x:D):aA i x e c=.ok (e.set i (ζ x)) c:=rfl
@[simp] theorem amb:dQ [] e c=.ok e c:=rfl
@[simp] theorem amd(x:D)(xs:List D):bR g gs (x::xs) e c=(g x e c).bind λe c=>gs xs e c:=rfl
@[simp] theorem ama(n:Nat)(xs:List D):dI n gs (.tup xs) e c=if xs.length=n then gs xs e c else .bad:=rfl
@[simp] theorem yJ(x:D):gQ a b x e c=(a e c).bind λo c=>(b e c).bind λi c=>(iV o i x c).bind λ_ c=>.ok e c:=rfl
@[simp] theorem gy(sr:Ev->aa->R Src):bJ sr g s e c=(sr e c).bind λq c=>b8 q.stays g s q.items e c:=rfl
@[simp] theorem fL(n:Nat)(own:Bool)(xs:List D):ck n own s xs c=(s (cF n xs) c).bind λf c'=>match f with
 |.rt v=>cA own c.length v c'
 |.nx _=>cA own c.length .aF c'
 |_=>.bad:=rfl
@[simp] theorem alW(n:Nat)(xs:List D):cF n xs=xs.map ζ++ν (n-xs.length) η:=rfl
@[simp] theorem ff(sr:Ev->aa->R Src)(pick:List (Option Nat)):bA sr pick g ta a e c=(sr e c).bind λq c =>
 if q.items.length<ε then(bz q.stays g ta a q.items (dH pick e) [] c).bind λl c=>.ok (.lst l) c else .bad:=rfl
@[simp] theorem rK:aZ e c=.ok θ c:=rfl
@[simp] theorem jG(i j:Int):bx (.int i) (.int j) c=.ok (.int (i+j)) c:=rfl
@[simp] theorem amk(x y:List D):bx (.tup x) (.tup y) c=if x.length≠0/\x.length+y.length<=ε then .ok (.tup (x++y)) c else .bad:=rfl
@[simp] theorem JV(i j:Int):fO (.int i) (.int j) c=.ok (.int (i-j)) c:=rfl
def JY(i j:Int):ez (.int i) (.int j) c=if(-(2^64)<i/\i<2^64)\/(-(2^64)<j/\j<2^64)then .ok (.int (i*j)) c else .bad:=rfl
def Tc(i j:Int):fu (.int i) (.int j) c=if 0<j/\j<1073741824 then .ok (.int (i/j)) c else .bad:=rfl
def S4(i j:Int):cZ (.int i) (.int j) c=if 0<j then .ok (.int (i % j)) c else .bad:=rfl
def S3(i j:Int):tU (.int i) (.int j) c=if 0<=j/\j<=1000000/\i.natAbs<2^64 then .ok (.int (i^j.toNat)) c else .bad:=rfl
@[simp] theorem al2(i:Int):nZ (.int i) c=.ok (.int (-i)) c:=rfl
@[simp] theorem amg(p:Int->Int->Bool)(i j:Int):qO p (.int i) (.int j) c=.ok (.bl (p i j)) c:=rfl
@[simp] theorem J6(i j:Int):cH (.int i) (.int j) c=.ok (.bl (decide (i=j))) c:=rfl
@[simp] theorem al1(i j:Int):cL (.int i) (.int j) c=.ok (.bl (!decide (i=j))) c:=rfl
@[simp] theorem amf(i j:Bool):cH (.bl i) (.bl j) c=.ok (.bl (decide (i=j))) c:=rfl
@[simp] theorem al3(i j:Bool):cL (.bl i) (.bl j) c=.ok (.bl (!decide (i=j))) c:=rfl
@[simp] theorem ame(i j:Str):cH (.str i) (.str j) c=.ok (.bl (decide (i=j))) c:=rfl
@[simp] theorem al0(i j:Str):cL (.str i) (.str j) c=.ok (.bl (!decide (i=j))) c:=rfl
@[simp] theorem J0(x:D):i9 x .aF c=.ok (.bl (g8 x)) c:=rfl
@[simp] theorem al8(x:D):kG x .aF c=.ok (.bl (!g8 x)) c:=rfl
@[simp] theorem amN:g8 .aF=θ:=rfl
@[simp] theorem n_bl(b:Bool):g8 (.bl b)=Δ:=rfl
@[simp] theorem amP(b:Int):g8 (.int b)=Δ:=rfl
@[simp] theorem amM(b:Str):g8 (.str b)=Δ:=rfl
@[simp] theorem amL(b:List D):g8 (.tup b)=Δ:=rfl
@[simp] theorem amO(b:List D):g8 (.lst b)=Δ:=rfl
@[simp] theorem Cs(xs:List D)(i:Int):aE (.tup xs) (.int i) c=match cD xs i with|some d=>.ok d c|none=>.bad:=rfl
@[simp] theorem ig(xs:List D)(i:Int):aE (.lst xs) (.int i) c=match cD xs i with|some d=>.ok d c|none=>.bad:=rfl
@[simp] theorem JZ(xs:List D):bC [.tup xs] c=.ok (.int xs.length) c:=rfl
@[simp] theorem S5(xs:List D):bC [.lst xs] c=.ok (.int xs.length) c:=rfl
@[simp] theorem al7(xs:List Int):bC [.b7 xs] c=.ok (.int xs.length) c:=by
 show R.ok (D.int ((xs.map D.int).length:Nat)) c=_;rw[an2]
@[simp] theorem al4(i j:Int):ur [.int i,.int j] c=.ok (.int (if j>i then j else i)) c:=rfl
@[simp] theorem vW(i j:Int):fR [.int i,.int j] c=.ok (.int (if j<i then j else i)) c:=rfl
@[simp] theorem amw:noRef .aF=θ:=rfl
@[simp] theorem r_bl(b:Bool):noRef (.bl b)=θ:=rfl
@[simp] theorem amy(b:Int):noRef (.int b)=θ:=rfl
@[simp] theorem amv(b:Str):noRef (.str b)=θ:=rfl
@[simp] theorem XW(b:List D):noRef (.tup b)=bI b:=by simp[noRef]
@[simp] theorem XX(b:List D):noRef (.lst b)=bI b:=by simp[noRef]
@[simp] theorem amx:bI []=θ:=by simp[bI]
@[simp] theorem amz(d:D)(b:List D):bI (d::b)=(noRef d&&bI b):=by simp[bI]
@[simp] theorem q_bl(own:Bool)(n:Nat)(b:Bool):cA own n (.bl b) c=.ok (.bl b) (c.take n):=rfl
@[simp] theorem amE(own:Bool)(n:Nat):cA own n .aF c=.ok .aF (c.take n):=rfl
@[simp] theorem amG(own:Bool)(n:Nat)(b:Int):cA own n (.int b) c=.ok (.int b) (c.take n):=rfl
@[simp] theorem amD(own:Bool)(n:Nat)(b:Str):cA own n (.str b) c=.ok (.str b) (c.take n):=rfl
@[simp] theorem amC(own:Bool)(n:Nat)(b:List D):cA own n (.tup b) c=if bI b=θ then .ok (.tup b) (c.take n)else .bad:=by
 show(if noRef (.tup b)=θ then R.ok (D.tup b) (c.take n)else R.bad)=_
 rw[XW]
@[simp] theorem amF(own:Bool)(n:Nat)(b:List D):cA own n (.lst b) c=if bI b=θ then .ok (.lst b) (c.take n)else .bad:=by
 show(if noRef (.lst b)=θ then R.ok (D.lst b) (c.take n)else R.bad)=_
 rw[XX]
@[simp] theorem gw:bH l e c=(l e c).bind λxs c=>match xs with
 |[.int j]=>if -(2^62)<=j/\j<2^62 then .ok ⟨aO 0 j,λ_=>True⟩ c else .bad
 |_=>.bad:=rfl
@[simp] theorem nA:eV l e c=(l e c).bind λxs c=>match xs with
 |[.int i,.int j]=>if -(2^62)<=i/\i<2^62/\-(2^62)<=j/\j<2^62 then .ok ⟨aO i j,λ_=>True⟩ c else .bad
 |_=>.bad:=rfl
@[simp] theorem alX:cy a e c=(a e c).bind λx c=>match x with
 |.lst l=>.ok ⟨l,λ_=>True⟩ c
 |.b7 l=>.ok ⟨l.map D.int,λ_=>True⟩ c
 |.ref k=>match c[k]? with
  |some (.lst l)=>.ok ⟨l,λc=>c[k]? = ζ (.lst l)⟩ c
  |none=>.bad
 |_=>.bad:=rfl
@[simp] theorem Cr:jz a e c=(a e c).bind λx c=>match x with
 |.tup l=>.ok ⟨l,λ_=>True⟩ c
 |_=>.bad:=rfl
end
section
variable (g:Gd) (s:ah) (t:ai) (a:af) (e:Ev) (c:aa)
@[simp] theorem Px:b8 (λ_=>True) g s [] e c=.ok (.nx e) c:=by simp[b8]
@[simp] theorem gD(x:D)(xs:List D):b8 (λ_=>True) g s (x::xs) e c=(g x e c).bind λe c=>(s e c).bind λf c=>match f with
   |.nx e=>b8 (λ_=>True) g s xs e c
   |.ct e=>b8 (λ_=>True) g s xs e c
   |.bk e=>.ok (.nx e) c
   |.rt d=>.ok (.rt d) c:=by
 conv=>lhs;unfold b8
 exact if_pos trivial
@[simp] theorem anH(acc:List D):bz (λ_=>True) g t a [] e acc c=.ok acc c:=by simp[bz]
@[simp] theorem iP(x:D)(xs acc:List D):bz (λ_=>True) g t a (x::xs) e acc c=(g x e c).bind λe c=>(t e c).bind λk c=>if k=θ then(a e c).bind λy c=>bz (λ_=>True) g t a xs e (acc++[y]) c else bz (λ_=>True) g t a xs e acc c:=by
 conv=>lhs;unfold bz
 exact if_pos trivial
end
@[simp] theorem gz{α:Type}(a:α)(l:List α):(a::l)[0]? = ζ a:=rfl
@[simp] theorem gs{α:Type}(a:α)(l:List α)(n:Nat):(a::l)[n+1]? = l[n]?:=rfl
@[simp] theorem rq{α:Type}(a:α)(l:List α):cD (a::l) 0=ζ a:=by simp[cD,eL]
@[simp] theorem at1{α:Type}(a b:α)(l:List α):cD (a::b::l) 1=ζ b:=by
 unfold cD eL;rw[if_pos (by decide),if_pos (by simp;omega)]
 rfl
@[simp] theorem at2{α:Type}(a b d:α)(l:List α):cD (a::b::d::l) 2=ζ d:=by
 unfold cD eL;rw[if_pos (by decide),if_pos (by simp;omega)]
 rfl
@[simp] theorem at3{α:Type}(a b d f:α)(l:List α):cD (a::b::d::f::l) 3=ζ f:=by
 unfold cD eL;rw[if_pos (by decide),if_pos (by simp;omega)]
 rfl
@[simp] theorem at4{α:Type}(a b d f h:α)(l:List α):cD (a::b::d::f::h::l) 4=ζ h:=by
 unfold cD eL;rw[if_pos (by decide),if_pos (by simp;omega)]
 rfl
def cC{n:Nat}(h:n<=1000):n<=ε:=aom h (by decide)
@[simp] theorem sl0:(0:Nat)<=ε:=aoz _
@[simp] theorem sl1:(1:Nat)<=ε:=by decide
@[simp] theorem sl2:(2:Nat)<=ε:=by decide
@[simp] theorem sl3:(3:Nat)<=ε:=by decide
@[simp] theorem CZ:(4:Nat)<=ε:=by decide
@[simp] theorem sl5:(5:Nat)<=ε:=by decide
@[simp] theorem sl6:(6:Nat)<=ε:=by decide
@[simp] theorem st0:(0:Nat)<ε:=by decide
@[simp] theorem st1:(1:Nat)<ε:=by decide
@[simp] theorem st2:(2:Nat)<ε:=by decide
@[simp] theorem st3:(3:Nat)<ε:=by decide
@[simp] theorem Lb:(4:Nat)<ε:=by decide
@[simp] theorem pL:(5:Nat)<ε:=by decide
@[simp] theorem anh(i:Int)(c:aa):bG [.int i,.ty "int"] c=.ok (.bl θ) c:=rfl
@[simp] theorem ani(i:Int)(c:aa):bG [.int i,.ty "bool"] c=.ok (.bl Δ) c:=rfl
@[simp] theorem anf(i:Int)(c:aa):bG [.int i,.ty "str"] c=.ok (.bl Δ) c:=rfl
@[simp] theorem ane(i:Int)(c:aa):bG [.int i,.ty "tuple"] c=.ok (.bl Δ) c:=rfl
@[simp] theorem ang(i:Int)(c:aa):bG [.int i,.ty "list"] c=.ok (.bl Δ) c:=rfl
@[simp] theorem anm(i:Bool)(c:aa):bG [.bl i,.ty "int"] c=.ok (.bl θ) c:=rfl
@[simp] theorem ano(i:Bool)(c:aa):bG [.bl i,.ty "bool"] c=.ok (.bl θ) c:=rfl
@[simp] theorem ank(i:Bool)(c:aa):bG [.bl i,.ty "str"] c=.ok (.bl Δ) c:=rfl
@[simp] theorem anj(i:Bool)(c:aa):bG [.bl i,.ty "tuple"] c=.ok (.bl Δ) c:=rfl
@[simp] theorem anl(i:Bool)(c:aa):bG [.bl i,.ty "list"] c=.ok (.bl Δ) c:=rfl
@[simp] theorem am1(i:Str)(c:aa):bG [.str i,.ty "int"] c=.ok (.bl Δ) c:=rfl
@[simp] theorem am2(i:Str)(c:aa):bG [.str i,.ty "bool"] c=.ok (.bl Δ) c:=rfl
@[simp] theorem amZ(i:Str)(c:aa):bG [.str i,.ty "str"] c=.ok (.bl θ) c:=rfl
@[simp] theorem amY(i:Str)(c:aa):bG [.str i,.ty "tuple"] c=.ok (.bl Δ) c:=rfl
@[simp] theorem am0(i:Str)(c:aa):bG [.str i,.ty "list"] c=.ok (.bl Δ) c:=rfl
@[simp] theorem am6(c:aa):bG [.aF,.ty "int"] c=.ok (.bl Δ) c:=rfl
@[simp] theorem am7(c:aa):bG [.aF,.ty "bool"] c=.ok (.bl Δ) c:=rfl
@[simp] theorem am4(c:aa):bG [.aF,.ty "str"] c=.ok (.bl Δ) c:=rfl
@[simp] theorem am3(c:aa):bG [.aF,.ty "tuple"] c=.ok (.bl Δ) c:=rfl
@[simp] theorem am5(c:aa):bG [.aF,.ty "list"] c=.ok (.bl Δ) c:=rfl
@[simp] theorem amW(i:List D)(c:aa):bG [.tup i,.ty "int"] c=.ok (.bl Δ) c:=rfl
@[simp] theorem amX(i:List D)(c:aa):bG [.tup i,.ty "bool"] c=.ok (.bl Δ) c:=rfl
@[simp] theorem amU(i:List D)(c:aa):bG [.tup i,.ty "str"] c=.ok (.bl Δ) c:=rfl
@[simp] theorem amT(i:List D)(c:aa):bG [.tup i,.ty "tuple"] c=.ok (.bl θ) c:=rfl
@[simp] theorem amV(i:List D)(c:aa):bG [.tup i,.ty "list"] c=.ok (.bl Δ) c:=rfl
@[simp] theorem anb(i:List D)(c:aa):bG [.lst i,.ty "int"] c=.ok (.bl Δ) c:=rfl
@[simp] theorem anc(i:List D)(c:aa):bG [.lst i,.ty "bool"] c=.ok (.bl Δ) c:=rfl
@[simp] theorem am9(i:List D)(c:aa):bG [.lst i,.ty "str"] c=.ok (.bl Δ) c:=rfl
@[simp] theorem am8(i:List D)(c:aa):bG [.lst i,.ty "tuple"] c=.ok (.bl Δ) c:=rfl
@[simp] theorem ana(i:List D)(c:aa):bG [.lst i,.ty "list"] c=.ok (.bl θ) c:=rfl
section
variable (c:aa) {i j:Int}
def DK(h1:-18446744073709551616<i)(h2:i<18446744073709551616):ez (.int i) (.int j) c=.ok (.int (i*j)) c:=by
 rw[JY,if_pos];exact .inl ⟨by omega,by omega⟩
def mul_r(h1:-18446744073709551616<j)(h2:j<18446744073709551616):ez (.int i) (.int j) c=.ok (.int (i*j)) c:=by
 rw[JY,if_pos];exact .inr ⟨by omega,by omega⟩
def uN(h1:0<j)(h2:j<1073741824):fu (.int i) (.int j) c=.ok (.int (i/j)) c:=by
 rw[Tc,if_pos ⟨h1,h2⟩]
def oh(h1:0<j):cZ (.int i) (.int j) c=.ok (.int (i % j)) c:=by
 rw[S4,if_pos h1]
def LM(h1:0<=j)(h2:j<=1000000)(h3:i.natAbs<18446744073709551616):tU (.int i) (.int j) c=.ok (.int (i^j.toNat)) c:=by
 rw[S3,if_pos ⟨h1,h2,h3⟩]
end
section
variable {g:Gd}{s:ah}{t:ai}{a:af}
def oW{c:aa}(inv:Ev->Prop)(F:D->Bool)(G:D->D):∀(items:List D) (e:Ev) (acc:List D),inv e ->
  (∀x∈items,∀e,inv e->∃e',g x e c=.ok e' c/\inv e'/\t e' c=.ok (F x) c/\(F x=θ->a e' c=.ok (G x) c)) ->
  bz (λ_=>True) g t a items e acc c=.ok (acc++(items.filter F).map G) c
 |[],e,acc,_,_=>by simp
 |x::xs,e,acc,hi,h=>by
  obtain⟨e',h1,h2,h3,h4⟩:=h x aoR e hi;rw[iP,h1,R.aB,h3,R.aB];cases hF:F x with
  |true =>
   rw[if_pos rfl,h4 hF,R.aB,oW inv F G xs e' _ h2 λy hy=>h y (aoA _ hy)]
   simp[hF]
  |false =>
   rw[if_neg aoi,oW inv F G xs e' _ h2 λy hy=>h y (aoA _ hy)]
   simp[hF]
def Py(inv:Ev->aa->Prop):∀(items:List D) (e:Ev) (c:aa),inv e c ->
  (∀x∈items,∀e c,inv e c->∃e' e'' c' c'',g x e c=.ok e' c'/\s e' c'=.ok (.nx e'') c''/\inv e'' c'') ->
  ∃e' c',inv e' c'/\b8 (λ_=>True) g s items e c=.ok (.nx e') c'
 |[],e,c,hi,_=>⟨e,c,hi,by simp⟩
 |x::xs,e,c,hi,h=>by
  obtain⟨e',e'',c',c'',h1,h2,h3⟩:=h x aoR e c hi;obtain⟨e3,c3,i3,h4⟩:=Py inv xs e'' c'' h3 λy hy=>h y (aoA _ hy)
  exact⟨e3,c3,i3,by rw[gD,h1,R.aB,h2];exact h4⟩
end
def oi{lo hi:Int}{d:D}(h:d∈aO lo hi):∃i:Int,d=.int i/\lo<=i/\i<hi:=by
 unfold aO at h;obtain⟨k,hk,rfl⟩:=aoa.mp h;have:=aod.mp hk;exact⟨lo+k,rfl,by omega,by omega⟩
def dP{lo hi:Int}:(aO lo hi).length=(hi-lo).toNat:=by simp[aO]
def d7(c:aa):D->Option (List D)
 |.lst l=>ζ l
 |.ref k=>match c[k]? with
  |some (.lst l)=>ζ l
  |none=>η
 |_=>η
def iU(c:aa):D->aa->Prop
 |.ref k=>λc'=>c'[k]? = c[k]?
 |_=>λ_=>True
def oX:D->D->aa->R D:=λx y c=>match d7 c x,d7 c y with
 |some l,ζ m=>if l.length+m.length<=ε then .ok (.lst (l++m)) c else .bad
 |_,_=>.bad
def oU(a:aj):Ev->aa->R Src:=λe c=>(a e c).bind λxs c=>match xs with
 |[.tup l,.tup m]=>.ok ⟨List.zipWith (λx y=>.tup [x,y]) l m,λ_=>True⟩ c
 |[x,y]=>match d7 c x,d7 c y with
  |some l,ζ m=>.ok ⟨List.zipWith (λx y=>.tup [x,y]) l m,λc'=>iU c x c'/\iU c y c'⟩ c
  |_,_=>.bad
 |_=>.bad
section
variable {X:Cx}{K:Θ}{ρ ρ':List Ψ}{H H':Hp}{c c':aa}
def uy{x:D}{v:V}{l:List D}(W:Wd K ρ H c)(rx:Rel K ρ H x v)(h:d7 c x=ζ l):∃a xs,v=.ref a/\H a=ζ (.lst xs)/\aK K ρ H l xs:=by
 cases x with
 |lst m =>
  cases h;obtain⟨a,xs,e,s,r⟩:=rx;exact⟨a,xs,e,s.1,r⟩
 |ref k =>
  obtain⟨a,e,s⟩:=rx;unfold d7 at h;dsimp only at h;cases hc:c[k]? with
  |none=>rw[hc]at h;cases h
  |some cl =>
   cases cl with
   |lst m =>
    rw[hc]at h;cases h;obtain⟨_,xs,hx,r⟩:=W.eO k a _ s hc;exact⟨a,xs,e,hx,r⟩
 |_=>cases h
def NI{x:D}{v:V}{l:List D}(W:Wd K ρ H c)(W':Wd K ρ' H' c')(E:Ext ρ H ρ' H')(rx:Rel K ρ H x v)(h:d7 c x=ζ l)(st:iU c x c'){a:Ψ}(e:v=.ref a):∃xs,bY K H' a xs/\aK K ρ' H' l xs:=by
 have Xh:=Rel.mono W E x v rx;have h':d7 c' x=ζ l:=by
  cases x with
  |lst m=>exact h
  |ref k =>
   have st:c'[k]? = c[k]?:=st;unfold d7 at h ⊢;dsimp only at h ⊢;rw[st];exact h
  |_=>cases h
 obtain⟨b,xs,e2,hx,r⟩:=uy W' Xh h';rw[e]at e2;cases e2;exact⟨xs,bY.of hx,r⟩
def Dz:bS X (binaryOp .Add) (r2 X.K oX):=by
 intro pins s σ H v u vv uu Q I rv ru h;obtain⟨ρ,x,y,c,W,rx,ry,p⟩:=h;unfold oX at p;split at p
 ·rename_i l m hl hm;split at p
  ·rename_i hz;obtain⟨a,xs,rfl,ha,ra⟩:=uy W rx hl;obtain⟨b,ys,rfl,hb,rb⟩:=uy W ry hm;exact aaM pins s σ H _ _ vv uu Q I rv ru ⟨a,b,xs,ys,rfl,rfl,ha,hb,by rw[ra.length,rb.length];exact hz,zQ W (ra.append rb) p⟩
  ·exact p.elim
 ·exact p.elim
def PI.or{tg iter:π}{t t':TI}(h:PI X tg iter t)(h':PI X tg iter t'):PI X tg iter (λσ H R=>t σ H R\/t' σ H R):=λpins s σ H R I q=>q.elim (h pins s σ H R I) (h' pins s σ H R I)
def afx{l m:List D}{a b:Ψ}{st:aa->Prop}(h:∀ρ' H' c',Wd K ρ' H' c'->Ext ρ H ρ' H'->st c'->∃xs ys,bY K H' a xs/\bY K H' b ys/\aK K ρ' H' l xs/\aK K ρ' H' m ys):JS K ρ H ⟨List.zipWith (λx y=>.tup [x,y]) l m,st⟩ (BO (bY K) a b):=by
 intro ρ' H' c' W E s i;obtain⟨xs,ys,q1,q2,r1,r2⟩:=h ρ' H' c' W E s;refine⟨λd hd=>?_,λe=>⟨xs,ys,q1,q2,?_⟩⟩
 ·have hd:(List.zipWith (λx y=>D.tup [x,y]) l m)[i]? = ζ d:=hd
  rw[arL]at hd;cases e1:l[i]? with
  |none=>rw[e1]at hd;cases hd
  |some x =>
   cases e2:m[i]? with
   |none=>rw[e1,e2]at hd;cases hd
   |some y =>
    rw[e1,e2]at hd;cases hd;obtain⟨v,hv,rv⟩:=r1.get e1;obtain⟨u,hu,ru⟩:=r2.get e2;refine⟨⟨xs,ys,v,u,q1,q2,hv,hu⟩,λz H2 hz=>?_⟩
    obtain⟨t,v',u',rfl,ht,rfl,hz⟩:=hz;obtain⟨z1,z2⟩:=hz xs ys q1 q2;rw[hv]at z1;rw[hu]at z2;cases z1;cases z2;exact⟨W.fresh ht,Ext.fresh W ht,t,[v,u],rfl,fM,v,[u],rfl,Rel.mono W (Ext.fresh W ht) _ _ rv,u,[],rfl,Rel.mono W (Ext.fresh W ht) _ _ ru,rfl⟩
 ·have e:i=(List.zipWith (λx y=>D.tup [x,y]) l m).length:=e
  rw[arM]at e;rw[r1.length,r2.length];omega
def afV{es:List π}{k:Nat}{pt:Pos}{a b:π}{da:aj}{p pos:Pos}(ha:gE X [a,b] da)(hm:X.mg "zip"=η)(hg:Gl X "zip":=by rfl)(hs:μ [a,b] X.env=[(Δ,eval a X.env),(Δ,eval b X.env)]:=by exact CT rfl rfl)(hs2:μ [b] X.env=[(Δ,eval b X.env)]:=by exact sd rfl) :
  PId X (.Tuple es k pt) (.Call (.Name "zip" p) [a,b] [] pos) (oU da):=((ZI hg hm ha hs hs2).or (ZJ hg hm ha hs hs2)).imp λσ H Q h=>by
 obtain⟨ρ,e,c,W,Vv,p⟩:=h;cases hd:da e c with
 |bad=>unfold oU at p;rw[hd]at p;exact p.elim
 |ok xs c1 =>
  have p0:=p;unfold oU at p0;rw[hd,R.aB]at p0;split at p0
  ·left
   refine⟨ρ,e,c,W,Vv,?_⟩;rw[hd];intro aI H1 vs W1 X1 r1;obtain⟨y,ys,rfl,ry,z,zs,rfl,rz,rs⟩:=r1;cases rs;obtain⟨a1,xs,rfl,s1,t1⟩:=ry;obtain⟨a2,ys,rfl,s2,t2⟩:=rz;exact⟨a1,a2,rfl,⟨xs,ys,cg.of s1,cg.of s2⟩,post.here (post.ext p0 X1) W1 (afy λρ' H' c' W' E _=>⟨xs,ys,cg.of (pF W1 E s1),cg.of (pF W1 E s2),aK.mono W1 E _ _ t1,aK.mono W1 E _ _ t2⟩)⟩
  ·rename_i x y _;split at p0
   ·rename_i l m hl hm'
    right
    refine⟨ρ,e,c,W,Vv,?_⟩;rw[hd];intro aI H1 vs W1 X1 r1;obtain⟨v,ys,rfl,ry,u,zs,rfl,rz,rs⟩:=r1;cases rs;obtain⟨a1,xs,rfl,s1,t1⟩:=uy W1 ry hl;obtain⟨a2,ys,rfl,s2,t2⟩:=uy W1 rz hm';refine⟨a1,a2,rfl,⟨xs,ys,bY.of s1,bY.of s2⟩,post.here (post.ext p0 X1) W1 (afx λρ' H' c' W' E st=>?_)⟩
    obtain⟨xs',q1,q2⟩:=NI W1 W' E ry hl st.1 rfl;obtain⟨ys',q3,q4⟩:=NI W1 W' E rz hm' st.2 rfl;exact⟨xs',ys',q1,q3,q2,q4⟩
   ·exact p0.elim
  ·exact p0.elim
end
section
variable (e:Ev) (c:aa) (a:af) (lo hi:Ev->aa->R (Option Int)) (l:aj)
@[simp] theorem alT:oU l e c=(l e c).bind λxs c=>match xs with
 |[.tup l,.tup m]=>.ok ⟨List.zipWith (λx y=>.tup [x,y]) l m,λ_=>True⟩ c
 |[x,y]=>match d7 c x,d7 c y with
  |some l,ζ m=>.ok ⟨List.zipWith (λx y=>.tup [x,y]) l m,λc'=>iU c x c'/\iU c y c'⟩ c
  |_,_=>.bad
 |_=>.bad:=rfl
@[simp] theorem amS(x:List D):d7 c (.lst x)=ζ x:=rfl
end
section
variable {g:Gd}{s:ah}{t:ai}{a:af}
def HZ{c:aa}(st:aa->Prop)(hst:st c)(inv:Ev->Prop)(F:D->Bool)(G:D->D):∀(items:List D) (e:Ev) (acc:List D),inv e ->
  (∀x∈items,∀e,inv e->∃e',g x e c=.ok e' c/\inv e'/\t e' c=.ok (F x) c/\(F x=θ->a e' c=.ok (G x) c)) ->
  bz st g t a items e acc c=.ok (acc++(items.filter F).map G) c
 |[],e,acc,_,_=>by
  unfold bz;rw[if_pos hst];simp
 |x::xs,e,acc,hi,h=>by
  obtain⟨e',h1,h2,h3,h4⟩:=h x aoR e hi;unfold bz;rw[if_pos hst,h1,R.aB,h3,R.aB];cases hF:F x with
  |true =>
   rw[if_pos rfl,h4 hF,R.aB,HZ st hst inv F G xs e' _ h2 λy hy=>h y (aoA _ hy)]
   simp[hF]
  |false =>
   rw[if_neg aoi,HZ st hst inv F G xs e' _ h2 λy hy=>h y (aoA _ hy)]
   simp[hF]
def akK{dO da:af}{e:Ev}{c:aa}{acc:List D}{y:D}(ho:dO e (c++[.lst acc])=.ok (.ref c.length) (c++[.lst acc]))(ha:da e (c++[.lst acc])=.ok y (c++[.lst acc]))(hy:noRef y=θ)(hl:acc.length+1<=1000000) :
  jW dO da e (c++[.lst acc])=.ok .aF (c++[.lst (acc++[y])]):=by
 have h1:acc.length<ε:=an5 (by omega:acc.length<1000000) (by decide)
 unfold jW;rw[ho,R.aB];dsimp only;rw[ha,R.aB];have e1:(c++[Cell.lst acc])[c.length]? = ζ (.lst acc):=by simp
 have e2:(c++[Cell.lst acc]).set c.length (.lst (acc++[y]))=c++[.lst (acc++[y])]:=by simp
 rw[e1];dsimp only;rw[if_pos ⟨h1,hy⟩,e2]
end
mutual
def d8:D->Option agk
 |.aF=>ζ .none
 |.bl b=>ζ (.bool b)
 |.int i=>ζ (.int i)
 |.str x=>if PyData.strOk x=θ then ζ (.str x)else η
 |.tup l=>match gS l with
  |some r=>ζ (.tuple r)
  |none=>η
 |.lst l=>match gS l with
  |some r=>ζ (.list r)
  |none=>η
 |.ty _=>η
 |.ref _=>η
 |.b7 _=>η
 |.fn _ _=>η
 |.exc _=>η
 |.iD=>η
 |.dct _=>η
 |.lam _ _ _ _=>η
def gS:List D->Option (List agk)
 |[]=>ζ []
 |d::l=>match d8 d,gS l with
  |some a,ζ r=>ζ (a::r)
  |_,_=>η
end
def fy(c:aa):D->Option agk
 |.ref k=>match c[k]? with
  |some (.lst l)=>match gS l with
   |some r=>ζ (.list r)
   |none=>η
  |none=>η
 |d=>d8 d
def jd:D->D->aa->R D:=λx y c=>match fy c x,fy c y with
 |some p,ζ q=>if p.depth<=64/\q.depth<=64 then .ok (.bl (p.eqv q)) c else .bad
 |_,_=>.bad
def nY:D->D->aa->R D:=λx y c=>match fy c x,fy c y with
 |some p,ζ q=>if p.depth<=64/\q.depth<=64 then .ok (.bl (!p.eqv q)) c else .bad
 |_,_=>.bad
def inD:D->D->aa->R D:=λx y c=>match fy c x,fy c y with
 |some p,ζ (.list ys)=>if p.depth<=62 then .ok (.bl (ys.any λz=>z.eqv p)) c else .bad
 |some p,ζ (.tuple ys)=>if p.depth<=62 then .ok (.bl (ys.any λz=>z.eqv p)) c else .bad
 |_,_=>.bad
def xg:D->D->aa->R D:=λx y c=>match fy c x,fy c y with
 |some p,ζ (.list ys)=>if p.depth<=62 then .ok (.bl (!ys.any λz=>z.eqv p)) c else .bad
 |some p,ζ (.tuple ys)=>if p.depth<=62 then .ok (.bl (!ys.any λz=>z.eqv p)) c else .bad
 |_,_=>.bad
section
variable {X:Cx}{pins:List (Ψ×Obj)}{σ:St}{ρ:List Ψ}{H:Hp}{s:Ω}{c:aa}
mutual
def iJ(I:Inv X pins σ H s):∀(d:D) (v:V) (u:Ξ) (p:agk),Rel X.K ρ H d v->RelV v u->d8 d=ζ p->(∃as,Reads s.heap u p as)/\p.canLay0=θ
 |.aF,v,u,p,r,ru,e=>by
  cases r;cases ru;cases e;exact⟨⟨_,.none⟩,by simp[PyData.canLay0]⟩
 |.bl b,v,u,p,r,ru,e=>by
  cases r;cases ru;cases e;exact⟨⟨_,.bool b⟩,by simp[PyData.canLay0]⟩
 |.int i,v,u,p,r,ru,e=>by
  cases r;obtain⟨t,rfl⟩:=ru;cases e;exact⟨⟨_,.int i t⟩,by simp[PyData.canLay0]⟩
 |.str x,v,u,p,r,ru,e=>by
  cases r;obtain⟨t,rfl⟩:=ru;unfold d8 at e;split at e
  ·rename_i hx;cases e;exact⟨⟨_,.str x t⟩,by simpa[PyData.canLay0]using hx⟩
  ·cases e
 |.tup l,v,u,p,r,ru,e=>by
  obtain⟨a,xs,rfl,ha,rs⟩:=r;cases ru;unfold d8 at e;split at e
  ·rename_i q hq;cases e;obtain⟨its,vs,⟨o,h1,h2,n,h3⟩,_⟩:=I.tuple (cg.of ha);obtain⟨⟨as,ra⟩,hc⟩:=zo I l xs its q rs vs hq;exact⟨⟨_,.tuple h1 h2 h3 (by simpa using ra)⟩,by simpa[PyData.canLay0]using hc⟩
  ·cases e
 |.lst l,v,u,p,r,ru,e=>by
  obtain⟨a,xs,rfl,ha,rs⟩:=r;cases ru;unfold d8 at e;split at e
  ·rename_i q hq;cases e;obtain⟨its,vs,pl,_⟩:=I.list (bY.of ha.1);obtain⟨o,h1,h2,n,h3⟩:=pl.isList;obtain⟨⟨as,ra⟩,hc⟩:=zo I l xs its q rs vs hq;exact⟨⟨_,.list h1 h2 h3 (by simpa using ra)⟩,by simpa[PyData.canLay0]using hc⟩
  ·cases e
 |.ty _,v,u,p,r,ru,e=>by simp[d8]at e
 |.ref _,v,u,p,r,ru,e=>by simp[d8]at e
 |.b7 _,v,u,p,r,ru,e=>by simp[d8]at e
 |.fn _ _,v,u,p,r,ru,e=>by simp[d8]at e
 |.exc _,v,u,p,r,ru,e=>by simp[d8]at e
 |.iD,v,u,p,r,ru,e=>by simp[d8]at e
 |.dct _,v,u,p,r,ru,e=>by simp[d8]at e
 |.lam _ _ _ _,v,u,p,r,ru,e=>by simp[d8]at e
def zo(I:Inv X pins σ H s):∀(l:List D) (vs:List V) (us:List Ξ) (ps:List agk),aK X.K ρ H l vs->Vals vs us->gS l=ζ ps->(∃as,ReadsAll s.heap us ps as)/\PyData.canLayAll0 ps=θ
 |[],vs,us,ps,r,ru,e=>by
  cases r;cases ru;cases e;exact⟨⟨_,.nil⟩,by simp[PyData.canLayAll0]⟩
 |d::l,vs,us,ps,r,ru,e=>by
  obtain⟨x,xs,rfl,r1,r2⟩:=r;cases ru with
  |cons q1 q2 =>
   unfold gS at e;split at e
   ·rename_i a r e1 e2;cases e;obtain⟨⟨as,ra⟩,ca⟩:=iJ I d x _ a r1 q1 e1;obtain⟨⟨bs,rb⟩,cb⟩:=zo I l xs _ r r2 q2 e2;exact⟨⟨_,.cons ra rb⟩,by simp[PyData.canLayAll0,ca,cb]⟩
   ·cases e
end
def jq(I:Inv X pins σ H s)(W:Wd X.K ρ H c){d:D}{v:V}{u:Ξ}{p:agk}(r:Rel X.K ρ H d v)(ru:RelV v u)(e:fy c d=ζ p):(∃as,Reads s.heap u p as)/\p.canLay0=θ:=by
 cases d with
 |ref k =>
  unfold fy at e;dsimp only at e;cases hc:c[k]? with
  |none=>rw[hc]at e;cases e
  |some cl =>
   cases cl with
   |lst l =>
    rw[hc]at e;dsimp only at e;split at e
    ·rename_i q hq;cases e;obtain⟨a,rfl,s1⟩:=r;cases ru;obtain⟨_,xs,hx,rs⟩:=W.eO k a _ s1 hc;obtain⟨its,vs,pl,_⟩:=I.list (bY.of hx);obtain⟨o,h1,h2,n,h3⟩:=pl.isList;obtain⟨⟨as,ra⟩,hc⟩:=zo I l xs its q rs vs hq;exact⟨⟨_,.list h1 h2 h3 (by simpa using ra)⟩,by simpa[PyData.canLay0]using hc⟩
    ·cases e
 |aF=>exact iJ I _ v u p r ru e
 |bl b=>exact iJ I _ v u p r ru e
 |int b=>exact iJ I _ v u p r ru e
 |str b=>exact iJ I _ v u p r ru e
 |tup b=>exact iJ I _ v u p r ru e
 |lst b=>exact iJ I _ v u p r ru e
 |ty b=>exact iJ I _ v u p r ru e
 |b7 b=>exact iJ I _ v u p r ru e
 |fn b n=>exact iJ I _ v u p r ru e
 |exc b=>exact iJ I _ v u p r ru e
 |dct b=>exact iJ I _ v u p r ru e
 |iD=>exact iJ I _ v u p r ru e
 |lam k y ns l=>exact iJ I _ v u p r ru e
def Dy(hu:X.A.units+64<agh):bS X (compareOp .Eq) (r2 X.K jd):=by
 intro pins s σ H v u vv uu Q I rv ru h;obtain⟨ρ,x,y,c,W,rx,ry,p⟩:=h;unfold jd at p;split at p
 ·rename_i a b ha hb;split at p
  ·rename_i hd;obtain⟨⟨as,ra⟩,ca⟩:=jq I W rx rv ha;obtain⟨⟨bs,rb⟩,cb⟩:=jq I W ry ru hb;exact PySem.SeqAt.compareEq_shaped ra rb (by simp[PySem.SeqAt.shaped,ca,hd.1]) (by simp[PySem.SeqAt.shaped,cb,hd.2]) hu ⟨.bl _,H,I,rfl,p.here W rfl⟩
  ·exact p.elim
 ·exact p.elim
def abz(hu:X.A.units+64<agh):bS X (compareOp .NotEq) (r2 X.K nY):=by
 intro pins s σ H v u vv uu Q I rv ru h;obtain⟨ρ,x,y,c,W,rx,ry,p⟩:=h;unfold nY at p;split at p
 ·rename_i a b ha hb;split at p
  ·rename_i hd;obtain⟨⟨as,ra⟩,ca⟩:=jq I W rx rv ha;obtain⟨⟨bs,rb⟩,cb⟩:=jq I W ry ru hb;exact PySem.SeqAt.compareNe_shaped ra rb (by simp[PySem.SeqAt.shaped,ca,hd.1]) (by simp[PySem.SeqAt.shaped,cb,hd.2]) hu ⟨.bl _,H,I,rfl,p.here W rfl⟩
  ·exact p.elim
 ·exact p.elim
def Ac{A:χ}{p:agk}{ys:List agk}(hu:A.units+64<agh)(hd:p.depth<=62):A.units+1+min (PyData.depthAll ys) p.depth<agh:=by
 have:=Nat.min_le_right (PyData.depthAll ys) p.depth;omega
def nW(hu:X.A.units+64<agh):bS X (compareOp .In) (r2 X.K inD):=by
 intro pins s σ H v u vv uu Q I rv ru h;obtain⟨ρ,x,y,c,W,rx,ry,p⟩:=h;unfold inD at p;split at p
 ·rename_i a ys ha hb;split at p
  ·rename_i hd;obtain⟨⟨as,ra⟩,ca⟩:=jq I W rx rv ha;obtain⟨⟨bs,rb⟩,cb⟩:=jq I W ry ru hb;exact PySem.SeqAt.in_list_reads rb ra (by simpa[PyData.canLay0]using cb) ca (Ac hu hd) ⟨.bl _,H,I,rfl,p.here W rfl⟩
  ·exact p.elim
 ·rename_i a ys ha hb;split at p
  ·rename_i hd;obtain⟨⟨as,ra⟩,ca⟩:=jq I W rx rv ha;obtain⟨⟨bs,rb⟩,cb⟩:=jq I W ry ru hb;exact PySem.SeqAt.in_tuple_reads rb ra (by simpa[PyData.canLay0]using cb) ca (Ac hu hd) ⟨.bl _,H,I,rfl,p.here W rfl⟩
  ·exact p.elim
 ·exact p.elim
def aby(hu:X.A.units+64<agh):bS X (compareOp .NotIn) (r2 X.K xg):=by
 intro pins s σ H v u vv uu Q I rv ru h;obtain⟨ρ,x,y,c,W,rx,ry,p⟩:=h;unfold xg at p;split at p
 ·rename_i a ys ha hb;split at p
  ·rename_i hd;obtain⟨⟨as,ra⟩,ca⟩:=jq I W rx rv ha;obtain⟨⟨bs,rb⟩,cb⟩:=jq I W ry ru hb;exact PySem.SeqAt.notIn_list_reads rb ra (by simpa[PyData.canLay0]using cb) ca (Ac hu hd) ⟨.bl _,H,I,rfl,p.here W rfl⟩
  ·exact p.elim
 ·rename_i a ys ha hb;split at p
  ·rename_i hd;obtain⟨⟨as,ra⟩,ca⟩:=jq I W rx rv ha;obtain⟨⟨bs,rb⟩,cb⟩:=jq I W ry ru hb;exact PySem.SeqAt.notIn_tuple_reads rb ra (by simpa[PyData.canLay0]using cb) ca (Ac hu hd) ⟨.bl _,H,I,rfl,p.here W rfl⟩
  ·exact p.elim
 ·exact p.elim
end
def ja{A:χ}{k:Nat}(hr:cN k A):A.units+64<agh:=by have:=hr.un;omega
section
variable (c:aa)
@[simp] theorem anE:d8 .aF=ζ .none:=by simp only[d8]
@[simp] theorem anG(b:Bool):d8 (.bl b)=ζ (.bool b):=by simp only[d8]
@[simp] theorem anF(i:Int):d8 (.int i)=ζ (.int i):=by simp only[d8]
@[simp] theorem anD:gS []=ζ []:=by simp only[gS]
end
end L2
namespace L2
open PySem PySem.Spec PyProof.Rows
def yh:D->D->aa->R D:=λx y c=>match x,y with
 |.int i,.int j=>.ok (.int (Builtin.bitAnd i j)) c
 |_,_=>.bad
section
variable {X:Cx}
def ab9:bS X (binaryOp .BitAnd) (r2 X.K yh):=by
 intro pins s σ H v u vv uu Q I rv ru h;obtain⟨ρ,x,y,c,W,rx,ry,p⟩:=h;unfold yh at p;split at p
 ·cases rx;cases ry;exact aaO pins s σ H _ _ vv uu Q I rv ru ⟨_,_,rfl,rfl,p.here W rfl⟩
 ·exact p.elim
end
def Aa(m:Nat):D->Bool
 |.ref k=>decide (k<m)
 |d=>noRef d
def z9(m:Nat)(e:Ev):Bool:=e.all λo=>match o with
 |some d=>Aa m d
 |none=>θ
def wK(o x:Nat)(a b:ah):ah:=λe c=>(a e c).bind λf c1=>match f with
 |.nx e1=>(b e1 c1).bind λf c2=>match f with
  |.nx e2=>match e2[o]?,e2[x]? with
   |some (ζ (.ref k)),ζ (ζ (.ref m))=>match c2[k]?,c2[m]? with
    |some (.lst l),ζ (.lst y)=>if m=c.length/\c2.length=c.length+1/\k<m/\l.length<ε/\z9 m (e2.set x η)=θ then .ok (.nx (e2.set x η)) ((c2.take m).set k (.lst (l++[.lst y])))else .bad
    |_,_=>.bad
   |_,_=>.bad
  |_=>.bad
 |_=>.bad
def cR.low{K:Θ}{ρ:List Ψ}{H:Hp}{e:Ev}{σ:St}{m x:Nat}(V:cR K ρ H e σ)(hm:m<=ρ.length)(h:z9 m (e.set x η)=θ):cR K (ρ.take m) H (e.set x η) σ:=by
 refine⟨λi d hd=>?_,by rw[arB];exact V.len⟩
 by_cases hi:i=x
 ·subst hi;have hl:i<e.length:=by
   have:=(an7.mp hd).1
   simpa using this
  rw[aoJ hl]at hd;cases hd
 ·have hd':=hd;rw[ao0 (aoD hi)]at hd';obtain⟨v,hv,r⟩:=V.get i d hd';refine⟨v,hv,?_⟩;have hlow:Aa m d=θ:=by
   have:=aoo.mp h (ζ d) (aoq hd);exact this
  have sub:∀a,a∈ρ.take m->a∈ρ:=λa q=>aor q
  cases d with
  |ref k =>
   obtain⟨a,ea,ha⟩:=r;refine⟨a,ea,?_⟩;have:k<m:=by simpa[Aa]using hlow
   rw[apF,if_pos this];exact ha
  |aF=>exact Rel.low sub _ v hlow r
  |bl b=>exact Rel.low sub _ v hlow r
  |int b=>exact Rel.low sub _ v hlow r
  |str b=>exact Rel.low sub _ v hlow r
  |ty b=>exact Rel.low sub _ v hlow r
  |tup b=>exact Rel.low sub _ v hlow r
  |lst b=>exact Rel.low sub _ v hlow r
  |b7 b=>exact Rel.low sub _ v hlow r
  |fn b n=>exact Rel.low sub _ v hlow r
  |exc b=>exact Rel.low sub _ v hlow r
  |iD=>exact Rel.low sub _ v hlow r
  |dct b=>exact Rel.low sub _ v hlow r
  |lam k y ns l=>exact Rel.low sub _ v hlow r
def WI{X:Cx}{o x:Nat}{A B:aar}{oe xe:π}{a b:ah}{apos cpos pos:Pos}(hA:jj X A a)(hB:jj X B b)(ho:bg X oe (ak o))(hx:bg X xe (ak x))
  (hbase:af3 oe "append" X.env (eval oe X.env)=eval oe X.env:=by rfl)
  (hfew:((abE cpos (μ [xe] X.env)).all (λx=>!x.1)&&(af9 cpos (ada [] X.env)).all (λx=>x.1.isSome)
   && decide ([xe].length+([]:List adk).length+(if([]:List adk).isEmpty then 0 else 1)<30))=θ:=by exact wz rfl)
  (hline:(apos.endLine==cpos.line)=θ:=by rfl) (hs:μ [xe] X.env=(Δ,eval xe X.env)::μ [] X.env:=by exact c7 rfl) (hplain:(abE cpos (μ [] X.env)).any (·.1)=Δ:=by exact gW rfl)
  (hsw:swapsWith (.Call (.Attribute oe "append" apos) [xe] [] cpos) η pos.line X.env=pure Δ:=by rfl) :
  cj X [A,B,.Expr (.Call (.Attribute oe "append" apos) [xe] [] cpos) pos] (wK o x a b) :=
 (zq hA (zq hB (LJ (Dk (tX apG arP arQ Nx ho (ju hx kr hs) hbase hfew hline hs hplain) hsw)))).imp λZ σ H h=>by
  obtain⟨ρ,e,c,W,V,p⟩:=h;refine⟨ρ,e,c,W,V,post.bind p λf c1 aI H1 fb xN W1 X1 r1 p1=>?_⟩
  cases f with
  |rt d=>exact p1.elim
  |bk e1=>exact p1.elim
  |ct e1=>exact p1.elim
  |nx e1 =>
   obtain⟨σ1,rfl,V1⟩:=r1;refine⟨aI,e1,c1,W1,V1,post.bind p1 λf c2 cE H2 fb F0 W2 X2 r2 p2=>?_⟩
   cases f with
   |rt d=>exact p2.elim
   |bk e1=>exact p2.elim
   |ct e1=>exact p2.elim
   |nx e2 =>
    obtain⟨σ2,rfl,V2⟩:=r2;have E2:Ext ρ H cE H2:=X1.trans X2;unfold wK at p;rw[xN,R.aB]at p;dsimp only at p;rw[F0,R.aB]at p;dsimp only at p;split at p
    ·rename_i k m hk hm;split at p
     ·rename_i l y hl hy;split at p
      ·rename_i hh;obtain⟨hmc,hlen,hkm,hz,hlow⟩:=hh;obtain⟨vo,hso,ao,rfl,hao⟩:=V2.get o _ hk;obtain⟨vx,hsx,ax,rfl,hax⟩:=V2.get x _ hm;obtain⟨nl,xs,hxs,rl⟩:=W2.eO k ao _ hao hl;obtain⟨ny,ys,hys,ry⟩:=W2.eO m ax _ hax hy;have eo:ak o e2 c2=.ok (.ref k) c2:=by unfold ak;rw[hk]
       have ex:ak x e2 c2=.ok (.ref m) c2:=by unfold ak;rw[hm]
       refine⟨cE,e2,c2,W2,V2,?_⟩;rw[eo];intro rH H3 v3 W3 X3 r3;obtain⟨ao',rfl,OQ⟩:=r3;have q1:=X3.pre k ao hao;rw[q1]at OQ;cases OQ;obtain⟨nl3,SN,af7,rl3⟩:=W3.eO k ao _ q1 hl;refine⟨.inl ⟨rfl,SN,bY.of af7⟩,rH,e2,c2,W3,V2.mono W2 X3,?_⟩;rw[ex];intro gk H4 v4 W4 X4 r4;obtain⟨ax',rfl,OP⟩:=r4;have q2:=X4.pre m ax (X3.pre m ax hax);rw[q2]at OP;cases OP;have q3:=X4.pre k ao q1;obtain⟨MT,Ck,af6,Lz⟩:=W4.eO k ao _ q3 hl;obtain⟨MF,JP,af4,Xf⟩:=W4.eO m ax _ q2 hy;refine⟨ao,Ck,.ref ax,rfl,rfl,af6,by rw[Lz.length];exact hz,?_⟩
       have OC:m<=c2.length:=by omega
       have hr4:m<=gk.length:=by rw[W4.len];exact OC
       have Wc:=W4.cut OC;have sub:∀a,a∈gk.take m->a∈gk:=λa q=>aor q
       have FU:(gk.take m)[k]? = ζ ao:=by rw[apF,if_pos hkm];exact q3
       have hnot:ax∉gk.take m:=λq=>by
        obtain⟨i,hi,ei⟩:=ao4.mp q;rw[aqh]at ei;have hi2:i<m:=by
         rw[apz]at hi;omega
        have h1:=an7.mp q2;have h2:i<gk.length:=by omega
        have:i=m:=(apw W4.nd (h₀:=h2) (h₁:=h1.1)).mp (ei.trans h1.2.symm);omega
       have E4:Ext ρ H gk H4:=(E2.trans X3).trans X4;have Ec:Ext ρ H (gk.take m) H4:=E4.cut (by rw[W.len];exact aoY hmc.symm)
       have XF:aK X.K (gk.take m) H4 (l++[.lst y]) (Ck++[.ref ax]) :=
        (aK.low sub l Ck MT Lz).append ⟨.ref ax,[],rfl,⟨ax,JP,rfl,⟨af4,hnot⟩,aK.low sub y JP MF Xf⟩,rfl⟩
       have adb:bI (l++[.lst y])=θ:=by
        rw[uf,MT];simp[bI,noRef,MF]
       have Wn:=Wc.write FU adb XF;have V4:cR X.K (gk.take m) H4 (e2.set x η) σ2:=((V2.mono W2 X3).mono W3 X4).low hr4 hlow;exact p (gk.take m) _ _ Wn (Ec.trans (Ext.write FU)) ⟨σ2,rfl,V4.mono Wc (Ext.write FU)⟩
      ·exact p.elim
     ·exact p.elim
    ·exact p.elim
section
variable (e:Ev) (c:aa)
@[simp] theorem S9(o x:Nat)(a b:ah):wK o x a b e c=(a e c).bind λf c1=>match f with
 |.nx e1=>(b e1 c1).bind λf c2=>match f with
  |.nx e2=>match e2[o]?,e2[x]? with
   |some (ζ (.ref k)),ζ (ζ (.ref m))=>match c2[k]?,c2[m]? with
    |some (.lst l),ζ (.lst y)=>if m=c.length/\c2.length=c.length+1/\k<m/\l.length<ε/\z9 m (e2.set x η)=θ then .ok (.nx (e2.set x η)) ((c2.take m).set k (.lst (l++[.lst y])))else .bad
    |_,_=>.bad
   |_,_=>.bad
  |_=>.bad
 |_=>.bad:=rfl
end
def JF(K:Θ)(H:Hp)(l:List Env)(x:Str)(h₀:υ)(H₀:Hp)(e:Ξ)(h:υ):Prop :=
 ∃ea C t B,e=.ref ea/\ξ K Γ x=ζ (ζ (.ref C))/\aeS B l ea (.ref C) (.ref t) h/\(∀b u,H b=ζ u->∃o,B.get? b=ζ o) /\
  (∀b o,h₀.get? b=ζ o->b∉frs l->∃o',B.get? b=ζ o')/\∀b o,h₀.get? b=ζ o->H₀ b=η->b∉frs l->B.get? b=ζ o
def jl(P:τ)(w:ψ)(K:Θ):nv:=λouter H s E e s'=>∃x H',s'.os=s.os/\aga s'.gens/\Un (frs outer) [] H H' s.heap s'.heap/\cQ P w H' s'.heap/\JF K H' outer x s.heap H e s'.heap/\E (.str x 0) η H'
def yz(X:Cx)(x:Str)(H2:Hp):Prop :=
 ∀pins σ H1 s1 e s2,Inv X pins σ H1 s1->s2.os=s1.os->aga s2.gens->Un (frs X.stack) [] H1 H2 s1.heap s2.heap->cQ X.prog X.w H2 s2.heap->JF X.K H2 X.stack x s1.heap H1 e s2.heap->X.xe e s2
def BU(X:Cx)(x:Str)(H2:Hp):Prop:=yz X x H2 /\
 (∀pins σ s ea C args h',Inv X pins σ H2 s->ξ X.K Γ x=ζ (ζ (.ref C))->Heap.MadeExcOf s.heap h' ea (.ref C) args->X.xe (.ref ea) {s with heap:=h'})
def aal{X:Cx}:Passes (jl X.prog X.w X.K) X λv _ H'=>∀x,v=.str x 0->yz X x H':=by
 intro pins σ H s e s' I h;obtain⟨x,H',h1,h2,h3,h4,h5,h6⟩:=h;exact h6 x rfl pins σ H s e s' I h1 h2 h3 h4 h5
def ME{P:τ}{w:ψ}{H:Hp}{h:υ}{a:Ψ}{o:HO}(x:fc P w H h a o):∃u,h.get? a=ζ u:=by
 cases o with
 |lst xs=>obtain⟨_,_,_,_,e⟩:=x;exact⟨_,e⟩
 |tup xs=>obtain⟨_,_,_,_,e,_⟩:=x;exact⟨_,e⟩
 |dK kvs=>obtain⟨_,_,_,_,o,_,_,e,_⟩:=x;exact⟨_,e⟩
 |dT kvs=>obtain⟨_,_,_,_,o,_,_,e,_⟩:=x;exact⟨_,e⟩
 |set S n=>obtain⟨o,_,_,_,e,_⟩:=x;exact⟨_,e⟩
 |ins C dx fs=>obtain⟨_,_,_,e,_⟩:=x;exact⟨_,e⟩
 |own y=>obtain⟨_,e⟩:=x;exact⟨_,e⟩
 |xd fs=>obtain⟨_,⟨_,_,_,e,_⟩,_⟩:=x;exact⟨_,e⟩
 |zl lo hi=>obtain⟨_,_,_,e⟩:=x;exact⟨_,e⟩
 |cT ob u=>obtain⟨e,_⟩:=x;exact⟨_,e⟩
 |cS ps=>exact⟨_,(show h.get? a=ζ _ from x)⟩
 |met f y=>exact⟨_,(show h.get? a=ζ _ from x)⟩
 |ext φ=>obtain⟨_,⟨_,e⟩,_⟩:=x;exact⟨_,e⟩
section
variable {P:τ}{w:ψ}{K:Θ}{mg:Str->Option Ξ}{base:υ}{N:List Str}{qual:Str}{scope:ac4}{f:Ψ}{cd:Ξ}{A:χ}{outer:List Env}{s:Ω}{H:Hp}{E:XK}
def FO{H:Hp}{h h' B:υ}(x:cQ P w H h)(st:B.StaysIn h')(sh:∀b o,B.get? b=ζ o->h.get? b=ζ o)(gA:∀b u,H b=ζ u->∃o,B.get? b=ζ o):cQ P w H h':=λa o e=>by
 refine(x a o e).stay (λb u hb q=>?_) (λ_ q=>q) λ_ _ q=>q
 have hb':∃u',H b=ζ u':=by
  rcases hb with rfl|hb
  ·exact⟨_,e⟩
  ·exact⟨_,hb⟩
 obtain⟨u',hu⟩:=hb';obtain⟨o',ho⟩:=gA b u' hu;have:=sh b o' ho;rw[q]at this;cases this;exact st b _ ho
def aeu{pins:List (Ψ×Obj)}{σ:St}{H1:Hp}{s1:Ω}{x:Str}{C ea:Ψ}{args:List Ξ}{h':υ}(I:Inv (fW (jl P w K) P w K mg base N qual scope f cd A outer s H E) pins σ H1 s1)(hn:ξ K Γ x=ζ (ζ (.ref C)))
  (hx:Heap.MadeExcOf s1.heap h' ea (.ref C) args) (hE:E (.str x 0) η H1):(fW (jl P w K) P w K mg base N qual scope f cd A outer s H E).xe (.ref ea) {s1 with heap:=h'}:=by
 have hfr:(A.deeper (envOfC qual scope s.heap.objs.size f cd)).frames=ζ (envOfC qual scope s.heap.objs.size f cd::outer):=I.ok.frames;have hst:=I.stack;have hsF:=I.wu;have hb:=I.base;have hfs:frs (envOfC qual scope s.heap.objs.size f cd::outer)=s.heap.objs.size::frs outer:=rfl;have gZ:∀b:Ψ,b∉(fW (jl P w K) P w K mg base N qual scope f cd A outer s H E).ex:=λb z=>absurd (show b∈([]:List Ψ)from z) (by simp)
 let as:=frs (envOfC qual scope s.heap.objs.size f cd::outer)
 have hin:∀env∈(envOfC qual scope s.heap.objs.size f cd::outer),∀a,env.frame=ζ a->a∈as:=λenv he b hb=>apN.mpr ⟨env,he,hb⟩
 have hF:s1.heap.FunFrames (PySem.W.hideAll s1.heap as) (envOfC qual scope s.heap.objs.size f cd::outer):=PySem.W.funFrames_hide hst hin;show wpAny (model P w) (A.deeper (envOfC qual scope s.heap.objs.size f cd)) (leaving (envOfC qual scope s.heap.objs.size f cd) (.ref ea)) _ _ _;refine wpAny_leaves_madeW (base:=PySem.W.hideAll s1.heap as) hfr rfl (λb o q=>aqA _ q) hF hx λh'' t fl _ _ up=>?_
 have xF:∀b o,s1.heap.get? b=ζ o->b∉as->(PySem.W.hideAll s1.heap as).get? b=ζ o:=λb o q n=>ars _ q n
 have st:(PySem.W.hideAll s1.heap as).StaysIn h'':=fl.1;have old:∀b o,s.heap.get? b=ζ o->b∉frs outer->b∉as:=λb o q n m=>by
  have m:b∈s.heap.objs.size::frs outer:=m
  rcases anW.mp m with e|m
  ·exact absurd (anV q) (by rw[e];exact aot _)
  ·exact n m
 have gA:∀b u,H1 b=ζ u->∃o,(PySem.W.hideAll s1.heap as).get? b=ζ o:=λb u e=>by
  have hna:b∉as:=λm=>by rw[hsF b m]at e;cases e
  have hlt:=(I.hok b u e).lt;obtain⟨o,ho⟩:∃o,s1.heap.get? b=ζ o:=by
   have:=(I.hok b u e);exact ME this
  exact⟨o,xF b o ho hna⟩
 refine⟨x,H1,I.os,I.bare,⟨λb o q n nf _=>?_,λb o q n hf _=>?_,λb o q n hx'=>hb.free b o q n hx',λb o q hx'=>?_,hb.tups,hb.gr,hb.gB⟩,FO I.hok st (λb o q=>aqA _ q) gA,⟨ea,C,t,_,rfl,hn,fl,gA,λb o q n=>?_,λb o q n nf=>?_⟩,hE⟩
 ·exact st b o (xF b o (hb.keep b o q n nf (gZ b)) (old b o q nf))
 ·obtain⟨sl,e1⟩:=hb.slot b o q n hf (gZ b);have hm:b∈as:=aoA _ hf;obtain⟨_,o2,ho2,hd2⟩:=hst.mem hm;rw[e1]at ho2;cases ho2;obtain⟨sl2,e2⟩:=up b _ (hx.keeps _ _ e1) hd2;exact⟨sl2,e2⟩
 ·obtain⟨o1,e1⟩:=hb.there b o q (gZ b)
  by_cases hm:b∈as
  ·obtain⟨_,o2,ho2,hd2⟩:=hst.mem hm;obtain⟨sl2,e2⟩:=up b _ (hx.keeps _ _ ho2) hd2;exact⟨_,e2⟩
  ·exact⟨_,st b _ (xF b _ e1 hm)⟩
 ·obtain⟨o1,e1⟩:=hb.there b o q (gZ b);exact⟨o1,xF b o1 e1 (old b o q n)⟩
 ·exact xF b o (hb.keep b o q n nf (gZ b)) (old b o q nf)
def aet{pins:List (Ψ×Obj)}{σ:St}{H1 H2:Hp}{s1 s2:Ω}{x:Str}{e:Ξ}(I:Inv (fW (jl P w K) P w K mg base N qual scope f cd A outer s H E) pins σ H1 s1)(hos:s2.os=s1.os)(hba:aga s2.gens)
  (un:Un (frs (envOfC qual scope s.heap.objs.size f cd::outer)) [] H1 H2 s1.heap s2.heap) (hok:cQ P w H2 s2.heap) (Gm:JF K H2 (envOfC qual scope s.heap.objs.size f cd::outer) x s1.heap H1 e s2.heap) (hE:E (.str x 0) η H2) :
  (fW (jl P w K) P w K mg base N qual scope f cd A outer s H E).xe e s2:=by
 obtain⟨ea,C,t,B,rfl,hn,fl,gA,old,eq⟩:=Gm;have hfr:(A.deeper (envOfC qual scope s.heap.objs.size f cd)).frames=ζ (envOfC qual scope s.heap.objs.size f cd::outer):=I.ok.frames;have hst:=I.stack;have hb:=I.base;have gZ:∀b:Ψ,b∉(fW (jl P w K) P w K mg base N qual scope f cd A outer s H E).ex:=λb z=>absurd (show b∈([]:List Ψ)from z) (by simp)
 let as:=frs (envOfC qual scope s.heap.objs.size f cd::outer)
 have olds:∀b o,s.heap.get? b=ζ o->b∉frs outer->b∉as:=λb o q n m=>by
  have m:b∈s.heap.objs.size::frs outer:=m
  rcases anW.mp m with e|m
  ·exact absurd (anV q) (by rw[e];exact aot _)
  ·exact n m
 have sh:∀b o,B.get? b=ζ o->s2.heap.get? b=ζ o:=fl.1;have fr2:=fl.2.2.1;show wpAny (model P w) (A.deeper (envOfC qual scope s.heap.objs.size f cd)) (leaving (envOfC qual scope s.heap.objs.size f cd) (.ref ea)) _ _ _;refine wpAny_leaves_onW hfr rfl fl λh'' PB up=>?_
 have st:B.StaysIn h'':=PB.1;have I':s2.os=s.os:=hos.trans I.os;have frame:∀b,b∈as->∃o,s2.heap.get? b=ζ o/\∀vs,o.data≠.fields vs:=λb hm=>(fr2.mem hm).2
 refine⟨x,H2,I',hba,⟨λb o q n nf _=>?_,λb o q n hf _=>?_,λb o q n _=>?_,λb o q _=>?_,λb xs q=>un.tups b xs (hb.tups b xs q),λb o u q=>un.gr b o u (hb.gr b o u q),λb ps q=>?_⟩,FO hok st sh gA,⟨ea,C,t,B,rfl,hn,PB,gA,λb o q n=>?_,λb o q n nf=>?_⟩,hE⟩
 ·exact st b o (eq b o (hb.keep b o q n nf (gZ b)) (hb.free b o q n (gZ b)) (olds b o q nf))
 ·obtain⟨sl,e1⟩:=hb.slot b o q n hf (gZ b);have hm:b∈as:=aoA _ hf;obtain⟨sl2,e2⟩:=un.slot b _ e1 (hb.free b o q n (gZ b)) hm (by simp)
  obtain⟨o3,Ah,F2⟩:=frame b hm;rw[e2]at Ah;cases Ah;obtain⟨CZ,e4⟩:=up b _ e2 F2;exact⟨CZ,e4⟩
 ·obtain⟨o1,e1⟩:=hb.there b o q (gZ b);exact un.free b o1 e1 (hb.free b o q n (gZ b)) (by simp)
 ·obtain⟨o1,e1⟩:=hb.there b o q (gZ b)
  by_cases hm:b∈as
  ·obtain⟨o3,Ah,F2⟩:=frame b hm;obtain⟨CZ,e4⟩:=up b _ Ah F2;exact⟨_,e4⟩
  ·obtain⟨o2,e2⟩:=old b o1 e1 hm;exact⟨_,st b _ e2⟩
 ·obtain⟨m1,q1⟩:=hb.gB b ps q;obtain⟨m2,q2⟩:=un.gB b _ q1;exact⟨m1++m2,by rw[q2,art]⟩
 ·obtain⟨o1,e1⟩:=hb.there b o q (gZ b);exact old b o1 e1 (olds b o q n)
 ·exact eq b o (hb.keep b o q n nf (gZ b)) (hb.free b o q n (gZ b)) (olds b o q nf)
def alv{x:Str}{H2:Hp}(hE:E (.str x 0) η H2):BU (fW (jl P w K) P w K mg base N qual scope f cd A outer s H E) x H2 :=
 ⟨λpins σ H1 s1 e s2 I h1 h2 h3 h4 h5=>aet I h1 h2 h3 h4 h5 hE,λpins σ s1 ea C args h' I hn hx=>aeu I hn hx hE⟩
end
section
variable {X:Cx}
def YK{x:Str}{C:Ψ}{B newId initId:String}{bm:List Ξ}{txt:Str}{j:Nat}{np cpos pos tpos:Pos}{t:TS}(hn:ξ X.K Γ x=ζ (ζ (.ref C)))(hm:X.mg x=ζ (.ref C))(hO:∀h,X.K.In h->OwnCls x C bm newId X.mg h)(FB:ExcBaseFacts B newId initId bm)(hc:X.calm=θ)
  (ht:∀D σ H,t D σ H->BU X x H) (hg:Gl X x:=by rfl) (hd:(x==("__debug__":Str))=Δ:=by decide):PS X (.Raise (ζ (.Call (.Name x np) [.Constant (.str txt) j tpos] [] cpos)) η pos) t:=by
 intro pins s σ H D I h;have acc:=ht D σ H h;obtain⟨tl,N,nm,q,bs,hdct,sn,sub,ab,col,dd,k0,k1,k2,k3,k5,mN,hC,hN,hni,T⟩:=(hO s.heap I.eB).obj;refine wpAny_Raise_call_subT (C:=C) (nm:=nm) (q:=q) (N:=N) (bs:=bs) (bm:=tl) (hdct:=hdct) (sn:=sn) (sub:=sub) (ab:=ab) (col:=col) (dd:=dd) (k0:=k0) (k1:=k1) (k2:=k2) (k3:=k3) (k5:=k5)
  FB (mN:=mN) (T.hasType FB.hasBase) (I.ok.hd hc) (by rfl) hni (uA I hg hm ⟨rfl,?_⟩ hd)
 have hs:μ [Expr.Constant (.str txt) j tpos] X.env=[(Δ,eval (.Constant (.str txt) j tpos) X.env)]:=by simp only[μ]
 rw[hs];refine Calls.evalArgs_plain ?_;show wpAny _ _ (spliced ((Δ,eval (Expr.Constant (.str txt) j tpos) X.env)::[])) _ _ _;refine Calls.spliced_cons (Calls.Constant_str ?_);refine Calls.spliced_nil ?_;refine⟨rfl,by show 1<=ε;decide,hC,hN,T,λh' e hx=>?_⟩
 exact acc.2 pins σ _ e C _ h' (I.tok _) hn hx
end
abbrev Xd:=Ev->aa->R Str
def CN(X:Cx)(P:Str->Hp->Prop)(d:Xd):St->Hp->Prop:=λσ H=>tD X.K (λ_ _ a b=>a=b) d σ H P
abbrev BJ(X:Cx)(P:Str->Hp->Prop)(st:aar)(d:Xd):Prop:=PS X st λ_ σ H=>CN X P d σ H
abbrev rC(X:Cx)(P:Str->Hp->Prop)(st:List aar)(d:Xd):Prop:=fE X st λ_ σ H=>CN X P d σ H
abbrev RL(X:Cx)(P:Str->Hp->Prop)(e:π)(d:Xd):Prop:=PE X e λσ H _=>CN X P d σ H
def CY(K:Θ)(n:Nat)(m:List D->aa->R Str):Sp:=λvs H _ E=>∃ρ xs c,Wd K ρ H c/\aK K ρ H xs vs/\xs.length=n/\post K (λ_ _ a b=>a=b) (m xs c) ρ H λx H'=>E (.str x 0) η H'
def fnX(n:Nat)(d:Xd):List D->aa->R Str:=λxs c=>(d (cF n xs) c).bind λx c'=>.ok x (c'.take c.length)
def Cu(t:ai)(a b:Xd):Xd:=λe c=>(t e c).bind λk c=>if k=θ then a e c else b e c
def Cv(x:Str):Xd:=λ_ c=>.ok x c
def J7:Xd:=λ_ _=>.bad
def Cw(n:Nat)(m:List D->aa->R Str)(a:aj):Xd:=λe c=>(a e c).bind λxs c=>if xs.length=n then m xs c else .bad
section
variable {X:Cx}{P:Str->Hp->Prop}{st:aar}{sts rest:List aar}{e:π}{a b d u:Xd}{t:ah}{pos:Pos}
def PA.fP{es:List π}{t:TA}(h:PA X.fP es t):PA X es t:=λpos pins s σ H Q I hw =>
 aoe (h pos pins s σ H Q (I.iT _) hw) (λ_ _ ⟨v,H',I',r,q⟩=>⟨v,H',I'.jH,r,q⟩) λ_ _ z=>False.elim z
def SS:rC X P sts J7:=λpins s σ H D I h=>by
 obtain⟨ρ,e,c,W,V,p⟩:=h;exact p.elim
def YE:fE X sts λ_ _ _=>False:=λ_ _ _ _ _ _ h=>h.elim
def Cq(h:BJ X P st d):rC X P (st::rest) d:=(zq h (YE (sts:=rest))).imp λZ σ H q=>q
def SV{c':π}{A B:List aar}{tc:ai}(hc:ji X.fP c' tc)(ha:rC X P A a)(hb:rC X P B b):BJ X P (.If c' A B pos) (Cu tc a b):=(LK (PT.fP hc) ha hb).imp λZ σ H h=>by
 obtain⟨ρ,e,c,W,V,p⟩:=h;refine⟨ρ,e,c,W,V,post.bind p λx c1 aI H1 v _ W1 X1 r1 p1=>?_⟩
 cases r1;cases x with
 |true=>exact lQ ⟨aI,e,c1,W1,V.mono W X1,p1⟩
 |false=>exact lR ⟨aI,e,c1,W1,V.mono W X1,p1⟩
def SW(he:RL X P e d)(hs:swapsWith e η pos.line X.env=pure Δ:=by rfl):BJ X P (.Expr e pos) d:=(Dk he hs).imp λZ σ H h=>h
structure yj (K:Θ) (mg:Str->Option Ξ) (x:Str) (bm:List Ξ) (newId:String):Prop where
 ex:∃C,ξ K Γ x=ζ (ζ (.ref C))/\mg x=ζ (.ref C)/\∀h,K.In h->OwnCls x C bm newId mg h
def SR{x:Str}{B newId initId:String}{bm:List Ξ}{txt:Str}{j:Nat}{np cpos tpos:Pos}(hC:yj X.K X.mg x bm newId)(FB:ExcBaseFacts B newId initId bm)(hc:X.calm=θ:=by rfl)(hg:Gl X x:=by rfl)(hd:(x==("__debug__":Str))=Δ:=by decide) :
  BJ X (BU X) (.Raise (ζ (.Call (.Name x np) [.Constant (.str txt) j tpos] [] cpos)) η pos) (Cv x):=by
 obtain⟨C,hn,hm,hO⟩:=hC.ex;refine YK hn hm hO FB hc (λZ σ H h=>?_) hg hd
 obtain⟨ρ,e,c,W,V,p⟩:=h;exact p.here W rfl
def SX{x:Str}{st:aar}{ps:List Str}{f:Ψ}{fd:ο}{k n:Nat}{m:List D->aa->R Str}{e:π}{es:List π}{da:aj}{p:Pos}(D:Def X.K X.mg x st ps f fd)(G:bU X.prog X.w X.K X.mg X.base (jl X.prog X.w X.K) k f fd ps (CY X.K n m))(hr:cN k X.A)(ha:gE X.fP (e::es) da)(hx:∀x H',P x H'->yz X x H':=by first|exact λ_ _ h=>h.1|exact λ_ _ h=>h)(hg:Gl X x:=by rfl)
  (hdb:(x==("__debug__":Str))=Δ:=by decide) (he:μ (e::es) X.env=(Δ,eval e X.env)::μ es X.env:=by exact c7 rfl) (hpl:(abE pos (μ es X.env)).any (·.1)=Δ:=by exact gW rfl) :
  RL X P (.Call (.Name x p) (e::es) [] pos) (Cw n m da) :=
 (L3 G hr hg D.at' D.fn.kp D.bd .nil (aal (X:=X)) (PA.fP ha) hdb he hpl).imp λσ H Q h=>by
  obtain⟨ρ,e,c,W,V,q⟩:=h;refine⟨ρ,e,c,W,V,post.bind q λxs c1 aI H1 vs _ W1 X1 r1 p1=>?_⟩
  split at p1
  ·rename_i hl;refine⟨aI,xs,c1,W1,by rw[aoM];exact r1,hl,post.mono p1 λx H' acc y hy=>?_⟩
   cases hy;exact hx _ _ acc
  ·exact p1.elim
end
section
variable {P:τ}{w:ψ}{K:Θ}{mg:Str->Option Ξ}{base:υ}
def ahP{x qual:Str}{st:aar}{f:Ψ}{fd:ο}{N ps:List Str}{k n m:Nat}{d:Xd}(F:j7 K x qual st f fd)(S:cB N ps (aW st))(hN:N.length=n)(hm:ps.length=m)
  (hb:∀(cdv:Ξ) (A:χ) (outer:List Env) (s:Ω) (H:Hp) (E:XK),cN k (A.deeper (envOfC qual (aW st) s.heap.objs.size f cdv))->rC (fW (jl P w K) P w K mg base N qual (aW st) f cdv A outer s H E) (BU (fW (jl P w K) P w K mg base N qual (aW st) f cdv A outer s H E)) (cu st) d) :
  bU P w K mg base (jl P w K) (k+1) f fd ps (CY K m (fnX n d)):=by
 subst hN;subst hm;obtain⟨oc,od,kV,doc,pm,an,cdv,ct,osl,rfl,lk,hcd⟩:=F.ex;refine Gj lk hcd S (λvs H Q E h=>?_) λA outer s H vs Q E hr h=>⟨_,hb cdv A outer s H E hr,?_⟩
 ·obtain⟨ρ,xs,c,W,r,hl,p⟩:=h;exact r.length.trans hl
 ·obtain⟨ρ,xs,c,W,r,hl,p⟩:=h;refine⟨ρ,cF N.length xs,c,W,cR.start r,post.bind p λy c1 aI H1 b _ W1 X1 r1 p1=>?_⟩
  cases r1;refine alv ?_;have hn:=Ext.len W W1 X1;have p0:=p;unfold fnX at p0;rename_i he;rw[he,R.aB]at p0;exact p0 (aI.take c.length) H1 _ (W1.cut hn) (X1.cut (aoY W.len)) rfl
end
abbrev Cx.held(X:Cx)(e:Ξ):Cx:={X with A:=X.A.mark (ζ e),calm:=Δ,xe:=λ_ _=>False}
abbrev Cx.tried(X:Cx)(W:Ξ->Ω->Prop)(pn:List (Ψ×Obj)):Cx:={X with xe:=W,pn:=pn}
section
variable {X:Cx}{pins tW:List (Ψ×Obj)}{σ:St}{H H1 H2:Hp}{s s1 s2:Ω}
def Cx.Ok.held(ok:X.Ok)(e:Ξ):(X.held e).Ok :=
 ⟨ok.mod,ok.kind,ok.glob,ok.blt,ok.above,ok.inj,ok.has,ok.jf,(λz=>by cases z),ok.frames,ok.stk,ok.lX,ok.bs,ok.gg,ok.i7,ok.kM,ok.fT,ok.iC⟩
def Cx.Ok.tried(ok:X.Ok)(W:Ξ->Ω->Prop)(pn:List (Ψ×Obj)):(X.tried W pn).Ok :=
 ⟨ok.mod,ok.kind,ok.glob,ok.blt,ok.above,ok.inj,ok.has,ok.jf,ok.hd,ok.frames,ok.stk,ok.lX,ok.bs,ok.gg,ok.i7,ok.kM,ok.fT,ok.iC⟩
def Cx.Ok.yT{W:Ξ->Ω->Prop}{pn:List (Ψ×Obj)}(ok:(X.tried W pn).Ok):X.Ok :=
 ⟨ok.mod,ok.kind,ok.glob,ok.blt,ok.above,ok.inj,ok.has,ok.jf,ok.hd,ok.frames,ok.stk,ok.lX,ok.bs,ok.gg,ok.i7,ok.kM,ok.fT,ok.iC⟩
def Inv.held(I:Inv X pins σ H s)(e:Ξ):Inv (X.held e) pins σ H s:=⟨I.ok.held e,I.os,I.bare,I.base,I.loc,I.cell,I.free,I.fU,I.pin,I.hok,I.len⟩
def Inv.Ur{e:Ξ}(I:Inv (X.held e) pins σ H s)(ok:X.Ok):Inv X pins σ H s:=⟨ok,I.os,I.bare,I.base,I.loc,I.cell,I.free,I.fU,I.pin,I.hok,I.len⟩
def Inv.tried(I:Inv X pins σ H s)(W:Ξ->Ω->Prop):Inv (X.tried W (X.pn++pins)) [] σ H s:=⟨I.ok.tried W _,I.os,I.bare,I.base,I.loc,I.cell,I.free,I.fU,λp hp=>I.pin p (by simpa using hp),I.hok,I.len⟩
def Inv.yT{W:Ξ->Ω->Prop}(I:Inv (X.tried W (X.pn++pins)) tW σ H s):Inv X pins σ H s:=⟨I.ok.yT,I.os,I.bare,I.base,I.loc,I.cell,I.free,I.fU,λp hp=>I.pin p (aqB _ hp),I.hok,I.len⟩
def ahF(ok:X.Ok){b:Ψ}(h:b∈X.fs):b∈frs X.stack:=by
 rcases ok.stk with e|⟨e,hf⟩
 ·rw[e];exact h
 ·rw[e];unfold frs;rw[apM,hf];exact aoA _ h
def land{ea C:Ψ}{t:Ψ}{B h':υ}(I:Inv X pins σ H1 s1)(hos:s2.os=s1.os)(hba:aga s2.gens)(un:Un (frs X.stack) [] H1 H2 s1.heap s2.heap)(hok:cQ X.prog X.w H2 s2.heap)
  (Gp:aeS B X.stack ea (.ref C) (.ref t) s2.heap) (fl:aeS B X.stack ea (.ref C) (.ref t) h') (up:s2.heap.UpToSlots h') (gA:∀b u,H2 b=ζ u->∃o,B.get? b=ζ o)
  (old:∀b o,s1.heap.get? b=ζ o->b∉frs X.stack->∃o',B.get? b=ζ o') (eq:∀b o,s1.heap.get? b=ζ o->H1 b=η->b∉frs X.stack->B.get? b=ζ o) :
  H2 ea=η/\Inv X pins σ (upd H2 ea (.ext (lY ea C))) {s2 with heap:=h'}:=by
 have st:B.StaysIn h':=fl.1;have hne:B.get? ea=η:=fl.2.1;have hfree:H2 ea=η:=by
  cases q:H2 ea with
  |none=>rfl
  |some u=>obtain⟨o,ho⟩:=gA ea u q;rw[hne]at ho;cases ho
 obtain⟨oe,he,hc⟩:=fl.there;have agM:∃vs,oe.data=.fields vs:=by
  obtain⟨ob,ws,h1,h2,h3,_⟩:=fl.first;rw[he]at h1;cases h1;exact⟨_,h3⟩
 have jT:∀b∈frs X.stack,b≠ea:=λb hb e=>by
  subst e;obtain⟨_,o,ho,hd⟩:=fl.2.2.1.mem hb;rw[he]at ho;cases ho;obtain⟨vs,q⟩:=agM;exact hd vs q
 have hs1:s1.heap.get? ea=η:=by
  cases q:s1.heap.get? ea with
  |none=>rfl
  |some o =>
   obtain⟨o',ho'⟩:=old ea o q λm=>jT ea m rfl
   rw[hne]at ho';cases ho'
 have ne1:∀b o,s1.heap.get? b=ζ o->b≠ea:=λb o q e=>by subst e;rw[hs1]at q;cases q
 have neT:∀b u,H1 b=ζ u->b≠ea:=λb u q=>by
  obtain⟨o,ho⟩:=ME (I.hok b u q);exact ne1 b o ho
 have Ag:cQ X.prog X.w H2 h':=FO hok st Gp.1 gA;have ago:cQ X.prog X.w (upd H2 ea (.ext (lY ea C))) h':=λa o e=>by
  by_cases ha:a=ea
  ·subst ha;rw[fM]at e;cases e;exact⟨⟨oe,he,hc⟩,⟨oe,he⟩,λh1 h2 ⟨o,ho,hoc⟩ k=>⟨o,k o ho,hoc⟩⟩
  ·rw[bD ha]at e;refine(Ag a o e).stay (λb u _ q=>q) (λb q=>?_) λb xs q=>?_
   ·rw[bD (dF q hfree)];exact q
   ·rw[bD (dF q hfree)];exact q
 refine⟨hfree,?_⟩;have key:=I.step (h':=h') (H':=upd H2 ea (.ext (lY ea C))) (g':=s2.gens) (t':=s2.toks) (d':=s2.drawn) (ch:=[]) (λ_ z=>nomatch z)
  (λb o hb hf _ q n=>st b o (eq b o q n λm=>by
   rcases anW.mp (I.k8 b m)with z|z
   ·exact hb z
   ·exact hf z))
  (λb o hb hf _ q n=>by
   have hm:=ahF I.ok hf;obtain⟨sl,e1⟩:=un.slot b o q n hm (by simp)
   obtain⟨_,o2,ho2,hd2⟩:=Gp.2.2.1.mem hm;rw[e1]at ho2;cases ho2;obtain⟨sl2,e2⟩:=up b _ e1 hd2;exact⟨sl2,e2⟩)
  (λb o _ q n=>by rw[bD (ne1 b o q)];exact un.free b o q n (by simp))
  (λb o _ q=>by
   by_cases hm:b∈frs X.stack
   ·obtain⟨_,o2,ho2,hd2⟩:=Gp.2.2.1.mem hm;obtain⟨sl2,e2⟩:=up b _ ho2 hd2;exact⟨_,e2⟩
   ·obtain⟨o',ho'⟩:=old b o q hm;exact⟨o',st b o' ho'⟩)
  (λb xs q=>by rw[bD (neT b _ q)];exact un.tups b xs q) (λb o u q=>by rw[bD (neT b _ q)];exact un.gr b o u q) (λb ps q=>by
   obtain⟨m,e⟩:=un.gB b ps q;exact⟨m,by rw[bD (neT b _ q)];exact e⟩)
  (λm hn=>by
   by_cases hm:X.env.locals∈frs X.stack
   ·obtain⟨o,es,ep,ho,hd,r⟩:=hn;obtain⟨sl,e1⟩:=un.slot _ o ho I.free hm (by simp)
    exact up.ns ⟨_,es,ep,e1,hd,r⟩
   ·obtain⟨o,es,ep,ho,hd,r⟩:=hn;exact⟨o,es,ep,st _ _ (eq _ o ho I.free hm),hd,r⟩) ago hba
 obtain⟨h2,g2,d2,t2,o2⟩:=s2;have e:o2=s1.os:=hos;subst e;exact key
def adn{n:Str}{hpos:Pos}{E:Ξ->Ω->Prop}{Q:Unit->Ω->Prop}(I:Inv X pins σ H s)(hl:X.env.kindOf n=ζ .local)(h:∀s',Inv X pins (ν X.N.length η) H s'->Q () s') :
  wpAny (model X.prog X.w) X.A (do bindName X.env n .none;unbindBehindTheSuite X.env n hpos) Q E s:=by
 obtain⟨m,hn,_⟩:=I.loc;refine wpAny_nameGoes hl hn (by rw[I.ok.kind];rfl) λh' m' hn' sb=>?_
 have ua:∀b o,b≠X.env.locals->s.heap.get? b=ζ o->h'.get? b=ζ o:=λb o hb e=>(sb.2 b hb).trans e
 have ug:∀b o,X.s₀.heap.get? b=ζ o->b≠X.env.locals:=λb o e=>an0 (an5 (anV e) I.ok.above)
 have B:=I.base;refine h _ ⟨I.ok,I.os,I.bare,⟨λb o q n f x=>ua b o (ug b o q) (B.keep b o q n f x),λb o q n f x=>?_,B.free,λb o q x=>?_,B.tups,B.gr,B.gB⟩,⟨m',hn',λi x v _ h _=>?_⟩,λx c e=>?_,I.free,I.fU,λp hp=>?_,λa o e=>?_,by simp⟩
 ·obtain⟨sl,e⟩:=B.slot b o q n f x;exact⟨sl,ua b _ (ug b o q) e⟩
 ·obtain⟨o',e⟩:=B.there b o q x;exact⟨o',ua b _ (ug b o q) e⟩
 ·rw[aqG]at h;split at h<;>cases h
 ·obtain⟨v,o,ho,hd⟩:=I.cell x c e;refine⟨v,o,ua c o (λz=>?_) ho,hd⟩
  obtain⟨o',es,ep,ho',hd',_⟩:=hn;rw[z,ho']at ho;cases ho;rw[hd']at hd;cases hd
 ·obtain⟨p1,p2,p3,p4,p5⟩:=I.pin p hp;exact⟨ua _ _ p3 p1,p2,p3,p4,p5⟩
 ·refine(I.hok a o e).stay (λb u hb q=>ua b u (λz=>?_) q) (λ_ q=>q) λ_ _ q=>q
  subst z
  rcases hb with rfl|hb
  ·rw[I.free]at e;cases e
  ·rw[I.free]at hb;cases hb
def YG{i:Nat}{n cn:Str}{Cn:Ψ}{body:List aar}{b₀:aar}{suite:List aar}{np hpos pos:Pos}{tb:(Str->Hp->Prop)->St->Hp->Prop}{th:Ψ->TS}
  (hB:∀W pn,fE (X.tried W pn) body λ_ σ H=>tb (yz (X.tried W pn)) σ H) (mono:∀(A A':Str->Hp->Prop) σ H,(∀x H',A x H'->A' x H')->tb A σ H->tb A' σ H) (hS:∀ea,fE (X.held (.ref ea)) (b₀::suite) (th ea))
  (hN:X.N.Nodup) (hi:X.N[i]? = ζ n) (hl:X.env.scope.names.lookup n=ζ .local) (hg:Gl X cn) (hm:X.mg cn=ζ (.ref Cn)) (jT:X.stack=X.env::X.outer/\X.env.frame=ζ X.env.locals) (hd:(cn==("__debug__":Str))=Δ:=by decide) :
  PS X (.Try body [.ExceptHandler (ζ (.Name cn np)) (ζ n) (b₀::suite) hpos] [] [] pos) λD σ H=>tb (λx H2=>∃C,ξ X.K Γ x=ζ (ζ (.ref C))/\PySem.W.exmOne X.K (.ref C) (.ref Cn)=ζ θ /\
   ∀(ea:Ψ) (σ':St),σ'.length=X.N.length->H2 ea=η->th ea {nx:=λ_ _=>False,rt:=D.rt} (σ'.set i (ζ (.ref ea))) (upd H2 ea (.ext (lY ea C)))) σ H:=by
 intro pins s σ H D I h;refine wpAny_Try_except ?_;refine aoe (hB (λe s₁=>wpAny (model X.prog X.w) X.A (noteFrame e X.env) (λ_ s₂=>wpAny (model X.prog X.w) X.A (setFlight e η) (λ_ s₃=>wpAny (model X.prog X.w) X.A (handleBy e X.env [.ExceptHandler (ζ (.Name cn np)) (ζ n) (b₀::suite) hpos]) (SP X pins D) X.xe s₃) X.xe s₂) X.xe s₁) (X.pn++pins)
  [] s σ H {nx:=λ_ _=>False,rt:=λ_ _=>False} (I.tried _) (mono _ _ σ H (λx H2 acc=>?_) h)) (λf s' q=>?_) λ_ _ z=>z
 ·obtain⟨C,hn,hx,hth⟩:=acc;intro tW σ' H1 s1 e s2 I1 hos hba un hok Gm;obtain⟨ea,C',t,B,rfl,hn',fl,gA,old,eq⟩:=Gm;have OB:ξ X.K Γ x=ζ (ζ (.ref C')):=hn';rw[hn]at OB;cases OB;have ok:X.Ok:=I.ok;have hfr:X.A.frames=ζ (X.env::X.outer):=by rw[ok.frames,jT.1]
  have fl:aeS B (X.env::X.outer) ea (.ref C) (.ref t) s2.heap:=by
   have z:aeS B X.stack ea (.ref C) (.ref t) s2.heap:=fl;rw[jT.1]at z;exact z
  show wpAny (model X.prog X.w) X.A (noteFrame (.ref ea) X.env) _ _ s2;refine wpAny_looks_onW hfr jT.2 fl λh3 held Uo=>?_
  refine wpAny_landsW held λh4 Gn Um=>?_
  have Ky:s2.heap.UpToSlots h4:=Uo.trans Um;have L4:=land (X:=X.tried _ _) I1 hos hba un hok (by show aeS B X.stack _ _ _ _;rw[jT.1];exact fl) (by show aeS B X.stack _ _ _ _;rw[jT.1];exact Gn) Ky gA old eq
  have I4:Inv X pins σ' (upd H2 ea (.ext (lY ea C))) {s2 with heap:=h4}:=L4.2.yT
  refine wpAny_handleBy_cons (codeAny_handlers_test ?_) (by intro q;cases q)
  refine uA (X:=X.held (.ref ea)) (I4.held _) hg hm ?_ hd;have LT:PySem.W.Looks (model X.prog X.w) h4 (typeOf (.ref ea)) (.ref C):=by
   obtain⟨ob,hob,hc⟩:=Gn.there;rw[<-hc];exact(arR hob).andThen .now
  refine(PySem.W.exm_one I4.eB LT hx).here ?_;dsimp only;refine codeAny_handlers_suite_as ?_;refine lands_againW Gn λh5 fl5 Ul=>?_
  have L5:=land (X:=X.tried _ _) I1 hos hba un hok (by show aeS B X.stack _ _ _ _;rw[jT.1];exact fl) (by show aeS B X.stack _ _ _ _;rw[jT.1];exact fl5) (Ky.trans Ul) gA old eq
  have I5:Inv X pins σ' (upd H2 ea (.ext (lY ea C))) {s2 with heap:=h5}:=L5.2.yT
  refine CS (X:=X.held (.ref ea)) (v:=.ref ea) (I5.held _) hN hi (.inl hl) rfl (λs6 I6=>?_) (.inr hl)
  refine aoe (hS ea pins s6 _ _ {nx:=λ_ _=>False,rt:=D.rt} I6 (hth ea σ' (by rw[I5.len]) L5.1)) (λf s7 q=>?_) λ_ _ z=>z.elim
  cases f with
  |next=>obtain⟨_,_,_,z⟩:=q;exact z.elim
  |brk=>obtain⟨_,_,_,z⟩:=q;exact z.elim
  |cont=>obtain⟨_,_,_,z⟩:=q;exact z.elim
  |ret u =>
   obtain⟨v,jm,H7,I7,rv,q7⟩:=q;exact adn (X:=X) (I7.Ur ok) hl λs8 I8=>⟨v,_,H7,I8,rv,q7⟩
 ·cases f with
  |next=>obtain⟨_,_,_,z⟩:=q;exact z.elim
  |brk=>obtain⟨_,_,_,z⟩:=q;exact z.elim
  |cont=>obtain⟨_,_,_,z⟩:=q;exact z.elim
  |ret u=>obtain⟨_,_,_,_,_,z⟩:=q;exact z.elim
end
end L2
namespace PySem.W
open PySem PySem.Spec PySem.Calls PyProof.Rows Builtin Builtin.ObjectAttr Builtin.Getset_descriptor
structure kX (K:Frag) (C:Ψ):Prop where
 ga:findIn K (.ref C) "__getattribute__"=ζ (ζ (.builtin "BaseException.__getattribute__"))
 gn:findIn K (.ref C) "__getattr__"=ζ η
 cl:findIn K (.ref C) "__class__"=ζ (ζ (.builtin "object.__class__"))
 ob:mroIn K C (.type "object")=ζ θ
 be:subIn K (.ref C) (.type "BaseException")=ζ θ
 cc:(clsIn K C).isSome=θ
def G8(K:Frag)(C:Ψ):Bool:=findIn K (.ref C) "__getattribute__"==ζ (ζ (.builtin "BaseException.__getattribute__"))&&findIn K (.ref C) "__getattr__"==ζ η&&findIn K (.ref C) "__class__"==ζ (ζ (.builtin "object.__class__")) &&
 mroIn K C (.type "object")==ζ θ&&subIn K (.ref C) (.type "BaseException")==ζ θ&&(clsIn K C).isSome
def kX.of{K:Frag}{C:Ψ}(h:G8 K C=θ):kX K C:=by
 unfold G8 at h;simp only[aoj,beq_iff_eq]at h;exact⟨h.1.1.1.1.1,h.1.1.1.1.2,h.1.1.1.2,h.1.1.2,h.1.2,h.2⟩
section
variable {prog:τ}{w:ψ}{A:χ}{E:Ξ->Ω->Prop}{K:Frag}{h:υ}{g:Array agB}{d:Drawn}{t:Nat}{os:OsState}{a C:Ψ}{o:Obj}
def ah8{R:Result->Ω->Prop}{tp:Ξ}(Z:kX K C)(X:K.In h)(hx:h.get? a=ζ o)(hc:o.cls=.ref C)(hq:R (.ok (.ret (.ref C))) ⟨h,g,d,t,os⟩) :
  codeAny (model prog w) A (.call (.builtin "getset_descriptor.__get__") ⟨[.builtin "object.__class__",.ref a,tp],[]⟩) R ⟨h,g,d,t,os⟩:=by
 have L0:Looks (model prog w) h (typeOf (.ref a)) (.ref C):=hc▸(Looks.ld hx).andThen .now;have L1:=looks_mroIn (M:=model prog w) X Z.ob;refine aqi KF.slot_gs.plain KF.entry_gs (KF.slot_gs.check _ _ _ _ _ _ _ _ KF.type_class (KF.args_gs _ _ _) ?_);unfold Builtin.«getset_descriptor.__get__» descrGet;rw[dga_obj];refine anS (anT ?_);unfold descrGetter descrCheckInstance descrNameAndClass isInstance;simp only[KF.owner_class]
 repeat lk
 refine⟨aqZ _ (by decide +kernel),apH KF.entry_class ?_⟩
 unfold Builtin.«object.__class__» shownTypeOf
 repeat lk
 exact hq
def ah9{tk:Tok}{Q:Fin->Ω->Prop}(Z:kX K C)(X:K.In h)(hx:h.get? a=ζ o)(hc:o.cls=.ref C)(hq:Q (.done (.ret (.ref C))) ⟨h,g,d,t,os⟩) :
  wpAny (model prog w) A (Builtin.«object.__getattribute__» ⟨[.ref a,.str "__class__" tk],[]⟩) Q E ⟨h,g,d,t,os⟩:=by
 have hT5:(⟨h,g,d,t,os⟩:Ω).TypeIs (.builtin "object.__class__") "getset_descriptor":=arS;have f5:=arS;have f6:=F.slot_gs_get.lookup;have f7:=F.slot_gs_set.lookup;have L1:=looks_findIn (M:=model prog w) X Z.cl
 repeat (any_goals (first|assumption|(with_reducible refine aq0 hx ?_;rw[hc])|with_reducible refine L1.at ?_|wp_step))
 refine ah8 Z X hx hc ?_
 repeat (any_goals (first|assumption|wp_step))
def aid{nameV:Ξ}{Q:Unit->Ω->Prop}(Z:kX K C)(X:K.In h)(hx:h.get? a=ζ o)(hc:o.cls=.ref C)(hq:Q () ⟨h,g,d,t,os⟩) :
  wpAny (model prog w) A (checkBuiltinCall "BaseException.__getattribute__" ⟨[.ref a,nameV],[]⟩) Q E ⟨h,g,d,t,os⟩:=by
 have hk:builtinKind "BaseException.__getattribute__"=ζ .slot:=by decide +kernel
 have hsplit:splitId "BaseException.__getattribute__"=ζ ("BaseException","__getattribute__"):=by decide +kernel
 have ha:=F.args_bexc_ga (.ref a) nameV;have L1:=looks_subIn (M:=model prog w) X Z.be;simp only[checkBuiltinCall,hk,hsplit];refine anS ?_
 ·unfold isInstance
  repeat (first|(with_reducible refine aq0 hx ?_;rw[hc])|with_reducible refine L1.at ?_|wp_step)
  exact hq
def aia{tk:Tok}{R:Result->Ω->Prop}(Z:kX K C)(X:K.In h)(hx:h.get? a=ζ o)(hc:o.cls=.ref C)(hq:R (.ok (.ret (.ref C))) ⟨h,g,d,t,os⟩) :
  codeAny (model prog w) A (.call (.builtin "BaseException.__getattribute__") ⟨[.ref a,.str "__class__" tk],[]⟩) R ⟨h,g,d,t,os⟩ :=
 aqi F.excAttr_ValueError.ga.plain F.entry_bexc_ga (aid Z X hx hc (ah9 Z X hx hc hq))
def aib{tk:Tok}{Q:Ξ->Ω->Prop}(Z:kX K C)(X:K.In h)(hx:h.get? a=ζ o)(hc:o.cls=.ref C)(hq:Q (.ref C) ⟨h,g,d,t,os⟩):wpAny (model prog w) A (getAttrBy (.ref a) (.str "__class__" tk) Δ) Q E ⟨h,g,d,t,os⟩:=by
 have f3:=F.excAttr_ValueError.ga.bind (.ref a);have hx2:(Value.builtin "BaseException.__getattribute__"==Value.builtin "object.__getattribute__")=Δ:=by decide +kernel
 have Oo:(onTheHeap (Value.ref C)&&Value.builtin "BaseException.__getattribute__"==Value.builtin "object.__getattribute__")=Δ:=by rw[hx2];rfl
 have L1:=looks_findIn (M:=model prog w) X Z.ga;have L2:=looks_findIn (M:=model prog w) X Z.gn
 repeat (any_goals (first|assumption|(with_reducible refine aq0 hx ?_;rw[hc])|with_reducible refine L1.at ?_|with_reducible refine L2.at ?_|wp_step))
 refine aia Z X hx hc ?_
 repeat (any_goals (first|assumption|wp_step))
def aic{Q:Option Ξ->Ω->Prop}(Z:kX K C)(X:K.In h)(hx:h.get? a=ζ o)(hc:o.cls=.ref C)(hq:Q (ζ (.ref C)) ⟨h,g,d,t+1,os⟩):wpAny (model prog w) A (getAttr? (.ref a) "__class__") Q E ⟨h,g,d,t,os⟩:=by
 unfold getAttr? getAttrBy?
 repeat (any_goals (first|assumption|with_reducible apply aib Z X hx hc|wp_step))
def NW(Z:kX K C):KitX K (.ref a) (.ref C) (L2.lY a C) where
 ty:=λM h _ ⟨o,hx,hc⟩=>hc▸(Looks.ld hx).andThen .now
 it:=λ_ _ X _=>by
  have qC:=Z.cc;unfold clsIn at qC;split at qC
  ·rename_i c' d' cd' C0 ho;intro A' Q' E' s' k q;unfold isType loadHead;exact anS (wpAny_loadPart (k _ _ (X _ _ ho)) (anT q))
  ·cases qC
 ne:=λh tp dd its n sl X htp=>by
  have qC:=Z.cc;refine Bool.eq_false_iff.mpr λq=>?_
  have e:C=tp:=Value.ref.inj (beq_iff_eq.mp q);subst e;unfold clsIn at qC;split at qC
  ·rename_i c' d' cd' C0 ho;have z:=(X _ _ ho).symm.trans htp;cases z
  ·cases qC
 ca:=fun{_ _ _ _ _ s} X ⟨o,hx,hc⟩ k=>by obtain⟨h,g,d,t,os⟩:=s;exact aic Z X hx hc k
end
end PySem.W
namespace L2
open PySem PySem.Spec PyProof.Rows
structure jF (k:Nat) (A:χ):Prop where
 dp:A.depth+3*k+5<recursionLimit
 un:A.units+16*k+200<agh
def jF.deeper{k:Nat}{A:χ}(r:jF (k+1) A)(env:Env):jF k (A.deeper env) :=
 ⟨by have:=r.dp;show A.depth+1+3*k+5<_;omega,by have:=r.un;show A.units+3+16*k+200<_;omega⟩
def jF.depth{k:Nat}{A:χ}(r:jF k A):A.depth<recursionLimit:=by have:=r.dp;omega
structure BQ (P:τ) (w:ψ) (K:Θ) (mg:Str->Option Ξ) (base:υ) (k:Nat) (f:Ψ) (fd:ο) (ps:List Str) (sp:Sp):Prop where
 len:∀vs H Q E,sp vs H Q E->vs.length=ps.length
 run:∀(A:χ) (outer:List Env) (s:Ω) (H:Hp) (args:Args) (us:List Ξ) (vs:List V) (Q:VK) (E:XK),jF k A->kY P w K mg base A outer s H->agy s fd args (ps.zip us)->Vals vs us->sp vs H Q E ->
  codeAny (model P w) A (.call (.ref f) args) (CR bO outer P w H s Q E) s
abbrev x9(P:τ)(w:ψ)(K:Θ)(mg:Str->Option Ξ)(base:υ)(N:List Str)(qual:Str)(scope:ac4)(f:Ψ)(cd:Ξ)(A:χ)(outer:List Env)(s:Ω)(H:Hp)(E:XK):Cx :=
 {fW bO P w K mg base N qual scope f cd A outer s H E with calm:=Δ}
section
variable {P:τ}{w:ψ}{K:Θ}{mg:Str->Option Ξ}{base:υ}
def afN{N ps:List Str}{qual:Str}{scope:ac4}{f:Ψ}{cd:Ξ}{A:χ}{outer:List Env}{s s1:Ω}{H:Hp}{E:XK}{us:List Ξ}{vs:List V}
  (S:cB N ps scope) (e0:kY P w K mg base A outer s H) (hl:vs.length=ps.length) (r:Vals vs us)
  (x:InCallC s s.heap.objs.size (bindL (envOfC qual scope s.heap.objs.size f cd).kindOf (ps.zip us) λ_=>η) (cellsFrom (s.heap.objs.size+1) scope.names []) (bindC (envOfC qual scope s.heap.objs.size f cd).kindOf (ps.zip us) λ_=>η) s1) :
  Inv (x9 P w K mg base N qual scope f cd A outer s H E) [] (start N vs) H s1:=by
 have I:Inv (fW bO P w K mg base N qual scope f cd {A with handled:=η} outer s H E) [] (start N vs) H s1:=Ob S rfl ⟨e0.frames,e0.mod,e0.bs,e0.gg,e0.fT,e0.iC,e0.hok,e0.bare⟩ hl r x
 have ok:=I.ok;exact⟨⟨ok.mod,ok.kind,ok.glob,ok.blt,ok.above,ok.inj,ok.has,ok.jf,(λz=>by cases z),aqF e0.frames,ok.stk,ok.lX,ok.bs,ok.gg,ok.i7,ok.kM,ok.fT,ok.iC⟩,I.os,I.bare,I.base,I.loc,I.cell,I.free,I.fU,I.pin,I.hok,I.len⟩
def ahR{k:Nat}{f:Ψ}{name qual:Str}{params:agc}{body:List aar}{scope:ac4}{dV kV doc pm cdv ct oc:Ξ}{an od:Option Ψ}
  {osl:Array (Option Ξ)}{N ps:List Str}{sp:Sp}(lk:K.lookup f=ζ ⟨oc,od,.func (PySem.W.fnOf name qual params body scope dV kV doc pm an cdv ct),osl⟩) (hcd:PySem.W.codeIn K cdv qual=θ) (S:cB N ps scope)
  (len:∀vs H Q E,sp vs H Q E->vs.length=ps.length)
  (hbody:∀(A:χ) (outer:List Env) (s:Ω) (H:Hp) (vs:List V) (Q:VK) (E:XK),jF k (A.deeper (envOfC qual scope s.heap.objs.size f cdv))->sp vs H Q E ->
   ∃t,fE (x9 P w K mg base N qual scope f cdv A outer s H E) body t/\t {nx:=λ_ H'=>Q .aF H',rt:=Q} (start N vs) H) :
  BQ P w K mg base (k+1) f (PySem.W.fnOf name qual params body scope dV kV doc pm an cdv ct) ps sp:=by
 refine⟨len,λA outer s H args us vs Q E hr e0 hb r gb=>?_⟩
 have hl:=len _ _ _ _ gb;have KX:K.In s.heap:=e0.mod.jR.keeps λb o e=>(e0.bs b o e).1
 have lim:s.heap.NoLimit:=e0.mod.nolimit.keeps λb o e=>(e0.bs b o e).1
 have hkind:∀y∈ps.zip us,scope.names.lookup y.1=ζ .local\/(scope.names.lookup y.1=ζ .cell/\((cellsFrom (s.heap.objs.size+1) scope.names []).lookup y.1).isSome=θ):=fun⟨n,v⟩ hy=>by
  rcases S.par n (apy hy).1 with q|q
  ·exact .inl q
  ·exact .inr ⟨q,apP _ _ _ (.inl q)⟩
 refine ary hr.depth (KX _ _ lk) rfl S.co S.gen rfl (arz KX hcd) (hb _ _ _ _ ?_);refine arA S.kind hkind λenv he s1 x=>?_
 subst he;refine⟨lim.keeps x.toInCall.keep,codeAny_func ?_⟩;obtain⟨t,ht,hq⟩:=hbody A outer s H vs Q E (hr.deeper _) gb;have I:Inv (x9 P w K mg base N qual scope f cdv A outer s H E) [] (start N vs) H s1:=afN S e0 hl r x;refine aoe (ht [] s1 (start N vs) H _ I hq) (λfl s' hs=>?_) λe s' hs=>hs
 have fin:∀{σ':St}{H':Hp}{v:V}{u:Ξ},Inv (x9 P w K mg base N qual scope f cdv A outer s H E) [] σ' H' s'->RelV v u->Q v H'->CE outer P w H s Q u s' :=
  fun{σ' H' v u} J rv q=>⟨v,H',J.os,J.bare,J.base,J.hok,rv,q⟩
 cases fl with
 |ret u =>
  obtain⟨v,σ',H',J,rv,q⟩:=hs;exact fin J rv q
 |next =>
  obtain⟨σ',H',J,q⟩:=hs;exact fin (v:=V.aF) (u:=Value.none) J rfl q
 |brk =>
  obtain⟨_,_,_,q⟩:=hs;exact False.elim q
 |cont =>
  obtain⟨_,_,_,q⟩:=hs;exact False.elim q
def ahQ{x qual:Str}{st:aar}{f:Ψ}{fd:ο}{N ps:List Str}{k n m:Nat}{own:Bool}{d:ah}(F:j7 K x qual st f fd)(S:cB N ps (aW st))(hN:N.length=n)(hm:ps.length=m)
  (hb:∀(cdv:Ξ) (A:χ) (outer:List Env) (s:Ω) (H:Hp) (E:XK),jF k (A.deeper (envOfC qual (aW st) s.heap.objs.size f cdv))->cj (x9 P w K mg base N qual (aW st) f cdv A outer s H E).fP (cu st) d) :
  BQ P w K mg base (k+1) f fd ps (bQ K m (ck n own d)):=by
 subst hN;subst hm;obtain⟨oc,od,kV,doc,pm,an,cdv,ct,osl,rfl,lk,hcd⟩:=F.ex;refine ahR lk hcd S (λvs H Q E h=>?_) λA outer s H vs Q E hr h=>⟨_,(hb cdv A outer s H E hr).fP,?_⟩
 ·obtain⟨ρ,xs,c,W,r,hl,p⟩:=h;exact r.length.trans hl
 ·obtain⟨ρ,xs,c,W,r,hl,p⟩:=h;refine⟨ρ,cF N.length xs,c,W,cR.start r,post.bind p λfl c1 aI H1 b _ W1 X1 r1 p1=>?_⟩
  cases fl with
  |nx e1 =>
   obtain⟨σ1,rfl,V1⟩:=r1;exact uL (v:=.aF) (x:=.aF) (H1:=H1) W W1 X1 rfl (by
    unfold ck at p;exact id (α:=post K (Rel K) (cA own c.length .aF c1) ρ H Q) (by
     rename_i he;rw[he]at p;exact p))
  |rt d =>
   obtain⟨v,rfl,V1⟩:=r1;exact uL (v:=d) (x:=v) (H1:=H1) W W1 X1 V1 (by
    unfold ck at p;rename_i he;rw[he]at p;exact p)
  |bk e1=>exact p1.elim
  |ct e1=>exact p1.elim
end
section
variable {X:Cx}
def aai{x:Str}{st:aar}{ps:List Str}{f:Ψ}{fd:ο}{k n:Nat}{m:List D->aa->R D}{e:π}{es:List π}{da:aj}{p pos:Pos}(D:Def X.K X.mg x st ps f fd)(G:BQ X.prog X.w X.K X.mg X.base k f fd ps (bQ X.K n m))(hr:jF k X.A)(ha:gE X (e::es) da)(hg:Gl X x:=by rfl)
  (hdb:(x==("__debug__":Str))=Δ:=by decide) (he:μ (e::es) X.env=(Δ,eval e X.env)::μ es X.env:=by exact c7 rfl) (hpl:(abE pos (μ es X.env)).any (·.1)=Δ:=by exact gW rfl) :
  bg X (.Call (.Name x p) (e::es) [] pos) (aG n m da):=by
 intro pins s σ H Q I h;obtain⟨ρ,e',c,W,V,q⟩:=h;refine apq (uA I hg D.at' ?_ hdb);refine aqE (h₀:=X.base) I.ok.mod.jR D.fn.kp (bL (ha pos pins s σ H (λvs H1=>bQ X.K n m vs H1 Q E0) I ⟨ρ,e',c,W,V,post.bind q λxs c1 aI H1 vs _ W1 X1 r1 p1=>?_⟩) λus s1 ⟨vs,H1,I1,r,q⟩=>⟨I1.eB,?_⟩) he hpl
 ·split at p1
  ·rename_i hl;exact⟨aI,xs,c1,W1,r1,hl,p1⟩
  ·exact p1.elim
 ·have hl:us.length=ps.length:=by rw[<-r.length];exact G.len _ _ _ E0 q
  have hb:=D.bd s1 us I1.eB (by simpa using hl)
  rw[aoM]at hb;refine apo (aoU (G.run X.A X.stack s1 H1 ⟨us,[]⟩ us vs Q E0 hr I1.Be hb r q) λr s' hq=>?_)
  cases r with
  |error e=>exact False.elim hq
  |ok fl =>
   cases fl with
   |ret u=>exact I1.after hq
   |next=>exact False.elim hq
   |brk=>exact False.elim hq
   |cont=>exact False.elim hq
end
structure yi (K:Θ) (T:List Str):Prop where
 cls:∀x∈T,∀C,ξ K Γ x=ζ (ζ (.ref C))->PySem.W.kX K C/\PySem.W.kitOne K (.ref C) (.type "ValueError")=ζ θ
 two:∀x∈T,∀y∈T,∀C C',ξ K Γ x=ζ (ζ (.ref C))->ξ K Γ y=ζ (ζ (.ref C'))->PySem.W.kitOne K (.ref C) (.ref C')=ζ (x==y)
def JU(K:Θ)(x:Str):Bool:=match ξ K Γ x with
 |some (ζ (.ref C))=>PySem.W.G8 K C&&PySem.W.kitOne K (.ref C) (.type "ValueError")==ζ θ
 |_=>θ
def J8(K:Θ)(x y:Str):Bool:=match ξ K Γ x,ξ K Γ y with
 |some (ζ (.ref C)),ζ (ζ (.ref C'))=>PySem.W.kitOne K (.ref C) (.ref C')==ζ (x==y)
 |_,_=>θ
def Cj(K:Θ)(T:List Str):Bool:=T.all λx=>JU K x&&T.all λy=>J8 K x y
def yi.of{K:Θ}{T:List Str}(h:Cj K T=θ):yi K T:=by
 unfold Cj at h;rw[aoo]at h;refine⟨λx hx C e=>?_,λx hx y hy C C' e e'=>?_⟩
 ·have q:=h x hx;rw[aoj]at q;have q:=q.1;unfold JU at q;rw[e]at q;simp only[aoj,beq_iff_eq]at q;exact⟨.of q.1,q.2⟩
 ·have q:=h x hx;rw[aoj,aoo]at q;have q:=q.2 y hy;unfold J8 at q;rw[e,e']at q
  simpa using q
def gC(T:List Str):List D->aa->R D:=λxs c=>match xs with
 |[.exc x,.fn y _]=>if x∈T/\y∈T then .ok (.bl (x==y)) c else .bad
 |[.exc x,.ty n]=>if x∈T/\n="ValueError" then .ok (.bl θ) c else .bad
 |_=>.bad
section
variable {X:Cx}{T:List Str}
def jC(Z:yi X.K T):eH X (.builtin "isinstance") (rN X.K (gC T)):=by
 intro pins s σ H vs us Q I rv h;obtain⟨ρ,xs,c,W,rx,p⟩:=h;unfold gC at p;split at p
 ·split at p
  ·rename_i hT;obtain⟨v,r,rfl,⟨a,C,rfl,hC,hH⟩,u,r',rfl,⟨a',rfl,hC'⟩,hr⟩:=rx;cases hr;obtain⟨u1,u2,rfl,r1,r2⟩:=rv.two;cases r1;cases r2;obtain⟨hp,_,_⟩:=I.hok a _ hH;exact aoG (PySem.W.NW (Z.cls _ hT.1 C hC).1) I.eB hp (Z.two _ hT.1 _ hT.2 C a' hC hC') (λz=>nomatch z) λtk=>⟨.bl _,H,I.tok _,rfl,p.here W rfl⟩
  ·exact p.elim
 ·split at p
  ·rename_i hT;obtain⟨v,r,rfl,⟨a,C,rfl,hC,hH⟩,u,r',rfl,hu,hr⟩:=rx;cases hr;cases hu;obtain⟨u1,u2,rfl,r1,r2⟩:=rv.two;cases r1;cases r2;obtain⟨hp,_,_⟩:=I.hok a _ hH;obtain⟨_,rfl⟩:=hT;rename_i hx;exact aoG (PySem.W.NW (Z.cls _ hx C hC).1) I.eB hp (Z.cls _ hx C hC).2 (λz=>nomatch z) λtk=>⟨.bl θ,H,I.tok _,rfl,p.here W rfl⟩
  ·exact p.elim
 ·exact p.elim
def jK{x:Str}{C:Ψ}{pos:Pos}(hm:X.mg x=ζ (.ref C))(hn:ξ X.K Γ x=ζ (ζ (.ref C)))(hg:Gl X x:=by rfl)(hd:(x==("__debug__":Str))=Δ:=by decide):bg X (.Name x pos) (dC (.fn x 0)) :=
 pY (LX (v:=.ref C) hg hm rfl hd) λ_ _=>⟨C,rfl,hn⟩
end
open PySem.SeqAt
section
variable {X:Cx}
def Yk:V->List V->Hp->VK->Prop:=λx vs H Q=>∃l,∃bs:List Bool,x=.ref l/\vs=[.bl θ]/\H l=ζ (.lst (bs.map V.bl))/\Q (.int (bs.countP id:Nat)) H
def Yh:V->List V->Hp->VK->Prop:=λx vs H Q=>∃l,∃bs:List Bool,∃j,x=.ref l/\vs=[.bl θ]/\H l=ζ (.lst (bs.map V.bl))/\bs.findIdx? id=ζ j/\Q (.int (j:Nat)) H
def Vals.Jf:∀{bs:List Bool}{us:List Ξ},Vals (bs.map V.bl) us->us=bs.map Value.bool
 |[],_,.nil=>rfl
 |b::bs,_,.cons r t=>by cases r;rw[Vals.Jf t];rfl
def eqT:Ξ->Bool
 |.bool b=>b
 |_=>Δ
def aiq(bs:List Bool):(bs.map Value.bool).countP eqT=bs.countP id:=by
 induction bs with
 |nil=>rfl
 |cons b bs ih=>rw[an8,arT,arT,ih];rfl
def P0{A:χ}{s:Ω}(bs:List Bool):∀y,y∈(bs.map Value.bool).toArray->EqAt A s y (.bool θ) (eqT y):=λy hy=>by
 rw[List.mem_toArray,aoa]at hy;obtain⟨b,_,rfl⟩:=hy;have:=EqAt.bool_bool (A:=A) (s:=s) b θ;cases b<;>exact this
def aeb:yr X "list.count" Yk:=by
 intro pins s σ H x vs v us Q I rx rv h;obtain⟨l,bs,rfl,rfl,hH,q⟩:=h;cases rx;obtain⟨u,rfl,ru⟩:=rv.one;cases ru;obtain⟨z,its,n,r,hl,e⟩:=I.lM hH;cases r.Jf;refine apa F.slot_list_count ⟨_,e,rfl⟩ F.entry_list_count (F.args_list_count_2 _ _) (list_countAt l (bs.map Value.bool).toArray n η #[] (.bool θ) eqT) ⟨e,P0 bs,?_⟩;refine⟨.int (bs.countP id:Nat),H,I.tok _,⟨s.toks,?_⟩,q⟩;rw[List.toList_toArray,aiq]
def ad9:yr X "list.index" Yh:=by
 intro pins s σ H x vs v us Q I rx rv h;obtain⟨l,bs,j,rfl,rfl,hH,hj,q⟩:=h;cases rx;obtain⟨u,rfl,ru⟩:=rv.one;cases ru;obtain⟨z,its,n,r,hl,e⟩:=I.lM hH;cases r.Jf;rw[arU]at hj;obtain⟨h1,h2,h3⟩:=hj;have hz:bs.length<=ε:=by simpa using z
 have hs:(j:Int)<2^63-1:=by
  have:ε<2^62:=by decide
  omega
 refine apa F.slot_list_index ⟨_,e,rfl⟩ F.entry_list_index (F.args_list_index_2 _ _) (list_indexAt l (bs.map Value.bool).toArray n η #[] (.bool θ) eqT j (by simpa using h1) hs (by simpa[eqT]using h2) (λm hm hlt=>by have:=h3 m hlt;simpa[eqT]using this)) ⟨e,P0 bs,?_⟩
 exact⟨.int (j:Nat),H,I.tok _,⟨s.toks,rfl⟩,q⟩
end
def jA(o a:af):af:=λe c=>(o e c).bind λx c=>match x with
 |.lst l=>(a e c).bind λy c=>match y,kO l with
  |.bl θ,ζ bs=>.ok (.int (bs.countP id:Nat)) c
  |_,_=>.bad
 |_=>.bad
def HV(o a:af):af:=λe c=>(o e c).bind λx c=>match x with
 |.lst l=>(a e c).bind λy c=>match y,kO l with
  |.bl θ,ζ bs=>match bs.findIdx? id with
   |some j=>.ok (.int (j:Nat)) c
   |none=>.bad
  |_,_=>.bad
 |_=>.bad
def aK.Je{K:Θ}{ρ:List Ψ}{H:Hp}:∀{bs:List Bool}{xs:List V},aK K ρ H (bs.map D.bl) xs->xs=bs.map V.bl
 |[],_,h=>h
 |b::bs,_,h=>by
  obtain⟨x,r,rfl,h1,h2⟩:=h;cases h1;rw[aK.Je h2];rfl
section
variable {X:Cx}
def Ma{o e:π}{dO da:af}{apos cpos:Pos}(ho:bg X o dO)(ha:bg X e da)
  (hbase:af3 o "count" X.env (eval o X.env)=eval o X.env:=by rfl)
  (hfew:((abE cpos (μ [e] X.env)).all (λx=>!x.1)&&(af9 cpos (ada [] X.env)).all (λx=>x.1.isSome)
   && decide ([e].length+([]:List adk).length+(if([]:List adk).isEmpty then 0 else 1)<30))=θ:=by exact wz rfl)
  (hline:(apos.endLine==cpos.line)=θ:=by rfl) (hs:μ [e] X.env=(Δ,eval e X.env)::μ [] X.env:=by exact c7 rfl) (hplain:(abE cpos (μ [] X.env)).any (·.1)=Δ:=by exact gW rfl) :
  bg X (.Call (.Attribute o "count" apos) [e] [] cpos) (jA dO da) :=
 (tX apG PySem.F.slot_list_count PySem.F.type_list_count aeb ho (ju ha kr hs) hbase hfew hline hs hplain).imp λσ H Q h=>by
  obtain⟨ρ,e,c,W,V,p⟩:=h;refine⟨ρ,e,c,W,V,post.bind p λx c1 aI H1 v _ W1 X1 r1 p1=>?_⟩
  cases x with
  |lst l =>
   obtain⟨a,xs,rfl,hx,rl⟩:=r1;refine⟨.inl ⟨rfl,xs,bY.of hx.1⟩,aI,e,c1,W1,V.mono W X1,post.bind p1 λy c2 cE H2 u _ W2 X2 r2 p2=>?_⟩
   split at p2
   ·rename_i bs hb _;cases r2;rw[ye hb]at rl;cases rl.Je;exact⟨a,bs,rfl,rfl,(X2.keep a _ hx.1 hx.2 rfl).1,p2.here W2 rfl⟩
   ·exact p2.elim
  |_=>exact p1.elim
def aag{o e:π}{dO da:af}{apos cpos:Pos}(ho:bg X o dO)(ha:bg X e da)
  (hbase:af3 o "index" X.env (eval o X.env)=eval o X.env:=by rfl)
  (hfew:((abE cpos (μ [e] X.env)).all (λx=>!x.1)&&(af9 cpos (ada [] X.env)).all (λx=>x.1.isSome)
   && decide ([e].length+([]:List adk).length+(if([]:List adk).isEmpty then 0 else 1)<30))=θ:=by exact wz rfl)
  (hline:(apos.endLine==cpos.line)=θ:=by rfl) (hs:μ [e] X.env=(Δ,eval e X.env)::μ [] X.env:=by exact c7 rfl) (hplain:(abE cpos (μ [] X.env)).any (·.1)=Δ:=by exact gW rfl) :
  bg X (.Call (.Attribute o "index" apos) [e] [] cpos) (HV dO da) :=
 (tX apG PySem.F.slot_list_index PySem.F.type_list_index ad9 ho (ju ha kr hs) hbase hfew hline hs hplain).imp λσ H Q h=>by
  obtain⟨ρ,e,c,W,V,p⟩:=h;refine⟨ρ,e,c,W,V,post.bind p λx c1 aI H1 v _ W1 X1 r1 p1=>?_⟩
  cases x with
  |lst l =>
   obtain⟨a,xs,rfl,hx,rl⟩:=r1;refine⟨.inl ⟨rfl,xs,bY.of hx.1⟩,aI,e,c1,W1,V.mono W X1,post.bind p1 λy c2 cE H2 u _ W2 X2 r2 p2=>?_⟩
   split at p2
   ·rename_i bs hb _;cases r2;rw[ye hb]at rl;cases rl.Je;split at p2
    ·rename_i j hj;exact⟨a,bs,j,rfl,rfl,(X2.keep a _ hx.1 hx.2 rfl).1,hj,p2.here W2 rfl⟩
    ·exact p2.elim
   ·exact p2.elim
  |_=>exact p1.elim
def zg(T:List Str)(i n:Nat)(b:ah)(x:Xd)(h:af):ah:=λe c=>match b e c with
 |.ok f c=>.ok f c
 |.bad=>(x e c).bind λy c=>if y∈T then(h ((ν n η).set i (ζ (.exc y))) c).bind λv c=>.ok (.rt v) c else .bad
def YF{body:List aar}{h₀:ExceptHandler}{pos:Pos}{t:TS}(hb:fE X.fP body t):PS X (.Try body [h₀] [] [] pos) t:=λpins s σ H D I h=>by
 refine wpAny_Try_except (aoe (hb pins s σ H D (I.iT _) h) (λf s' q=>?_) λ_ _ z=>z.elim)
 have q:=q.jH;cases f with
 |next=>exact ap1 q
 |brk=>exact q
 |cont=>exact q
 |ret u=>exact q
def WH{T:List Str}{i m:Nat}{n cn:Str}{Cn:Ψ}{body:List aar}{he:π}{rpos np hpos pos:Pos}{b:ah}{x:Xd}{h:af}
  (hb:cj X.fP body b) (hx:∀W pn,rC (X.tried W pn) (yz (X.tried W pn)) body x) (hS:∀ea,bg (X.held (.ref ea)) he h)
  (hm:X.mg cn=ζ (.ref Cn)) (hT:∀y∈T,∃C,ξ X.K Γ y=ζ (ζ (.ref C))/\PySem.W.exmOne X.K (.ref C) (.ref Cn)=ζ θ)
  (hN:X.N.Nodup:=by decide +kernel) (hi:X.N[i]? = ζ n:=by rfl) (hlen:X.N.length=m:=by rfl) (hl:X.env.scope.names.lookup n=ζ .local:=by rfl) (hg:Gl X cn:=by rfl) (jT:X.stack=X.env::X.outer/\X.env.frame=ζ X.env.locals:=by exact⟨rfl,rfl⟩) (hd:(cn==("__debug__":Str))=Δ:=by decide) :
  jj X (.Try body [.ExceptHandler (ζ (.Name cn np)) (ζ n) [.Return (ζ he) rpos] hpos] [] [] pos) (zg T i m b x h):=by
 intro pins s σ H D I hh;obtain⟨ρ,e,c,W,V,p⟩:=hh;unfold zg at p;cases q:b e c with
 |ok f c1 =>
  rw[q]at p;exact YF hb pins s σ H D I ⟨ρ,e,c,W,V,by rw[q];exact p⟩
 |bad =>
  rw[q]at p;dsimp only at p;refine YG (X:=X) (th:=λea=>CO X.K (aR h)) (tb:=λA σ H=>tD X.K (λ_ _ a b=>a=b) x σ H A) hx (λA A' σ H hA ⟨ρ,e,c,W,V,p⟩=>⟨ρ,e,c,W,V,p.mono hA⟩)
   (λea=>aS (bV (hS ea))) hN hi hl hg hm jT hd pins s σ H D I ⟨ρ,e,c,W,V,post.bind p λy c1 aI H1 b _ W1 X1 r1 p1=>?_⟩
  cases r1;split at p1
  ·rename_i hy;obtain⟨C,hC,xQ⟩:=hT y hy;refine⟨C,hC,xQ,λea σ' hl' hf=>?_⟩
   refine⟨aI,(ν m η).set i (ζ (.exc y)),c1,W1.fresh hf,⟨λj d hj=>?_,by simp[hl',hlen]⟩,?_⟩
   ·by_cases e1:j=i
    ·subst e1;have hlt:j<m:=by
      have:=(an7.mp hj).1
      simpa using this
     rw[aoJ (by simpa using hlt)]at hj
     cases hj;refine⟨.ref ea,by rw[aoJ (by rw[hl',hlen];exact hlt)],ea,C,rfl,hC,fM⟩
    ·rw[ao0 (aoD e1),aqG]at hj;split at hj<;>cases hj
   ·have p2:=p1.ext (Ext.fresh (p:=ea) (o:=.ext (lY ea C)) W1 hf);unfold aR;cases qh:h ((ν m η).set i (ζ (.exc y))) c1 with
    |bad=>rw[qh]at p2;exact p2.elim
    |ok v c2 =>
     rw[qh]at p2;exact λcE H2 f W2 X2 r2=>by
      have z:=p2 cE H2 f W2 X2 r2;obtain⟨v',rfl,_⟩:=r2;exact z
  ·exact p1.elim
end
def jF.held{k:Nat}{A:χ}{h:Option Ξ}(r:cN k A):jF k (A.mark h):=⟨r.dp,r.un⟩
def akD:bootBuiltins "ValueError"=ζ (.type "ValueError"):=by decide +kernel
abbrev yO:List Ξ:=[.type "ValueError",.type "Exception",.type "BaseException",.type "object"]
def aao{K:Θ}{h:υ}{mg:Str->Option Ξ}{x:Str}{C:Ψ}{bmB:List Ξ}{newId:String}(X:K.In h)(e:mg x=ζ (.ref C))(q:PySem.W.excIn K C bmB newId=θ):OwnCls x C bmB newId mg h:=by
 refine⟨e,?_⟩;unfold PySem.W.excIn at q;split at q
 ·rename_i dd cd sl ho;split at q
  ·rename_i C' bm k0 k1 k2 k3 n k5 hm hs;simp only[aoj,beq_iff_eq,Bool.not_eq_true']at q;obtain⟨⟨⟨⟨⟨rfl,rfl⟩,OM⟩,ht⟩,hok⟩,hni⟩:=q;obtain⟨nm,bs,mro,ns,qn,hd,sn,sub,ab,col,del⟩:=cd;dsimp only at hm OM hok hni;subst hm OM;have hsl:sl=#[k0,k1,k2,k3,ζ (.builtin n),k5]:=by
    obtain⟨l⟩:=sl;simp only at hs;rw[hs]
   subst hsl;exact⟨bm,ns,nm,qn,bs,hd,sn,sub,ab,col,dd,k0,k1,k2,k3,k5,_,X _ _ ho,.of_isNs (PySem.W.isNs_of_in X hok),PySem.W.nsMap_none_of_in X hok hni,PySem.W.tail_of_in X ht⟩
  ·cases q
 ·cases q
def yj.of{K:Θ}{mg:Str->Option Ξ}{x:Str}{C:Ψ}(n:ξ K Γ x=ζ (ζ (.ref C)))(m:mg x=ζ (.ref C))(q:PySem.W.excIn K C yO "ValueError.__new__"=θ):yj K mg x yO "ValueError.__new__" :=
 ⟨C,n,m,λ_ X=>aao X m q⟩
def Ci(K:Θ)(T:List Str)(Cn:Ψ):Bool:=T.all λy=>match ξ K Γ y with
 |some (ζ (.ref C))=>PySem.W.exmOne K (.ref C) (.ref Cn)==ζ θ
 |_=>Δ
def SM{K:Θ}{T:List Str}{Cn:Ψ}(h:Ci K T Cn=θ):∀y∈T,∃C,ξ K Γ y=ζ (ζ (.ref C))/\PySem.W.exmOne K (.ref C) (.ref Cn)=ζ θ:=λy hy=>by
 have q:=aoo.mp h y hy;split at q
 ·rename_i C e;exact⟨C,e,by simpa using q⟩
 ·cases q
def jX:D->D->aa->R D:=λx y c=>match x,y with
 |.tup l,.tup m=>if l.length+m.length<=ε then .ok (.tup (l++m)) c else .bad
 |_,_=>.bad
section
variable {X:Cx}
def aaL:bS X (binaryOp .Add) (λx y H Q=>∃a b ys,x=.ref a/\y=.ref b/\cg X.K H a []/\cg X.K H b ys/\Q (.ref b) H):=by
 intro pins s σ H x y v u Q I rx ry h;obtain⟨a,b,ys,rfl,rfl,ha,hb,q⟩:=h;cases rx;cases ry;obtain⟨its,r1,p1,_⟩:=I.tuple ha;obtain⟨its2,r2,p2,_⟩:=I.tuple hb;cases r1;obtain⟨⟨cls,dd,data,sl⟩,ho,hc,n,hd⟩:=id p1;obtain⟨⟨aj4,dd2,data2,sl2⟩,ho2,hc2,n2,hd2⟩:=id p2;simp only at hc hd hc2 hd2;subst hc hd hc2 hd2;exact aqJ ⟨_,ho,rfl⟩ ⟨_,ho2,rfl⟩ aqK aqL aqM aqN (aqO _ _)
   (tuple_addW0 a b [].toArray its2.toArray n n2 dd dd2 sl sl2 rfl) ⟨ho,ho2,⟨.ref b,H,I,rfl,q⟩⟩
def Mx:bS X (binaryOp .Add) (r2 X.K jX):=by
 intro pins s σ H v u vv uu Q I rv ru h;obtain⟨ρ,x,y,c,W,rx,ry,p⟩:=h;unfold jX at p;split at p
 ·rename_i l m;split at p
  ·rename_i hl;obtain⟨a,xs,rfl,sa,ra⟩:=rx;obtain⟨b,ys,rfl,sb,rb⟩:=ry
   by_cases hz:xs=[]
   ·subst hz;have:l=[]:=by have:=ra.length;exact arV.mp (by simpa using this.symm)
    subst this;exact aaL pins s σ H _ _ vv uu Q I rv ru ⟨a,b,ys,rfl,rfl,cg.of sa,cg.of sb,p.here W ⟨b,ys,rfl,sb,rb⟩⟩
   ·refine Mh pins s σ H _ _ vv uu Q I rv ru ⟨a,b,xs,ys,rfl,rfl,cg.of sa,cg.of sb,hz,by rw[ra.length,rb.length];exact hl,λz=>?_,λ_=>xj W (ra.append rb) p⟩
    refine p.here W ⟨a,xs++ys,rfl,by rw[z,aoM];exact sa,ra.append rb⟩
  ·exact p.elim
 ·exact p.elim
end
def aK.rep{K:Θ}{ρ:List Ψ}{H:Hp}{l:List D}{xs:List V}(r:aK K ρ H l xs):∀n:Nat,aK K ρ H (ν n l).flatten (ν n xs).flatten
 |0=>rfl
 |n+1=>by
  rw[aoW,aoW,ao3,ao3];exact aK.append r (aK.rep r n)
def kj:D->D->aa->R D:=λx y c=>match x,y with
 |.lst l,.int k=>if -(2^63)<=k/\k<2^63/\l.length*k.toNat<=ε/\bI l=θ then .ok (.ref c.length) (c++[.lst (ν k.toNat l).flatten])else .bad
 |_,_=>.bad
def MO{l:List D}(h:bI l=θ):∀n:Nat,bI (ν n l).flatten=θ
 |0=>by simp
 |n+1=>by rw[aoW,ao3,uf,h,MO h n];rfl
def Mt{X:Cx}:bS X (binaryOp .Mult) (r2 X.K kj):=by
 intro pins s σ H v u vv uu Q I rv ru h;obtain⟨ρ,x,y,c,W,rx,ry,p⟩:=h;unfold kj at p;split at p
 ·split at p
  ·rename_i hl;obtain⟨a,xs,rfl,sa,ra⟩:=rx;cases ry;exact aay pins s σ H _ _ vv uu Q I rv ru ⟨a,_,xs,rfl,rfl,sa.1,hl.1,hl.2.1,by rw[ra.length];exact hl.2.2.1,zR W (MO hl.2.2.2 _) (aK.rep ra _) p⟩
  ·exact p.elim
 ·exact p.elim
def dw(o a:af):af:=λe c=>(o e c).bind λx c=>match x with
 |.ref k=>(a e c).bind λy c=>match y with
  |.lst m=>match c[k]? with
   |some (.lst l)=>if l.length+m.length<=ε/\bI m=θ then .ok .aF (c.set k (.lst (l++m)))else .bad
   |none=>.bad
  |_=>.bad
 |_=>.bad
def nT{X:Cx}{o e:π}{dO da:af}{apos cpos:Pos}(ho:bg X o dO)(ha:bg X e da)
  (hbase:af3 o "extend" X.env (eval o X.env)=eval o X.env:=by rfl)
  (hfew:((abE cpos (μ [e] X.env)).all (λx=>!x.1)&&(af9 cpos (ada [] X.env)).all (λx=>x.1.isSome)
   && decide ([e].length+([]:List adk).length+(if([]:List adk).isEmpty then 0 else 1)<30))=θ:=by exact wz rfl)
  (hline:(apos.endLine==cpos.line)=θ:=by rfl) (hs:μ [e] X.env=(Δ,eval e X.env)::μ [] X.env:=by exact c7 rfl) (hplain:(abE cpos (μ [] X.env)).any (·.1)=Δ:=by exact gW rfl) :
  bg X (.Call (.Attribute o "extend" apos) [e] [] cpos) (dw dO da) :=
 (tX apG PySem.F.slot_list_extend PySem.F.type_list_extend aea ho (ju ha kr hs) hbase hfew hline hs hplain).imp λσ H Q h=>by
  obtain⟨ρ,e,c,W,V,p⟩:=h;refine⟨ρ,e,c,W,V,post.bind p λx c1 aI H1 v _ W1 X1 r1 p1=>?_⟩
  cases x with
  |ref k =>
   obtain⟨a,rfl,ha⟩:=r1;obtain⟨xs,hx⟩:=W1.at' (aoq ha);refine⟨.inl ⟨rfl,xs,bY.of hx⟩,aI,e,c1,W1,V.mono W X1,post.bind p1 λy c2 cE H2 u _ W2 X2 r2 p2=>?_⟩
   cases y with
   |lst m =>
    obtain⟨b,zs,rfl,sb,rb⟩:=r2;dsimp only at p2;split at p2
    ·rename_i l hl;split at p2
     ·rename_i hh;obtain⟨nr,ys,hy,rl⟩:=W2.eO k a _ (X2.pre k a ha) hl;refine⟨a,b,ys,zs,rfl,rfl,hy,sb.1,by rw[rl.length,rb.length];exact hh.1,?_⟩
      refine p2 cE _ .aF (W2.write (X2.pre k a ha) (by rw[uf,nr,hh.2];rfl) (rl.append rb)) (Ext.write (X2.pre k a ha)) rfl
     ·exact p2.elim
    ·exact p2.elim
   |_=>exact p2.elim
  |_=>exact p1.elim
section
variable (e:Ev) (c:aa) (o a:af)
@[simp] theorem S0(m:List D)(k:Int):kj (.lst m) (.int k) c=if -(2^63)<=k/\k<2^63/\m.length*k.toNat<=ε/\bI m=θ then .ok (.ref c.length) (c++[.lst (ν k.toNat m).flatten])else .bad:=rfl
end
def Aw{α:Type}{st:aa->Prop}{g:Gd}{s:ah}(C:Nat->aa)(E:Nat->α->Ev):∀(items:List D) (k:Nat) (v:α),(∀i,i<=items.length->st (C (k+i))) ->
  (∀i x,items[i]? = ζ x->∀v,∃e',g x (E (k+i) v) (C (k+i))=.ok e' (C (k+i))/\∃v',s e' (C (k+i))=.ok (.nx (E (k+i+1) v')) (C (k+i+1))) ->
  ∃v',b8 st g s items (E k v) (C k)=.ok (.nx (E (k+items.length) v')) (C (k+items.length))
 |[],k,v,hst,_=>⟨v,by
   have:=hst 0 (anU _);rw[apE]at this;unfold b8;rw[if_pos this];rfl⟩
 |x::xs,k,v,hst,h=>by
  obtain⟨e',h1,v',h2⟩:=h 0 x rfl v;obtain⟨v2,h3⟩:=Aw C E xs (k+1) v' (λi hi=>by
   have:=hst (i+1) (by simp only[an4];omega)
   rwa[show k+(i+1)=k+1+i by omega]at this) (λi y hy v=>by
   have:=h (i+1) y (by simpa using hy) v
   rwa[show k+(i+1)=k+1+i by omega]at this)
  refine⟨v2,?_⟩;unfold b8;rw[if_pos (by have:=hst 0 (aoz _);exact this)]
  rw[apE]at h1 h2;rw[h1,R.aB,h2];simp only[R.aB];rw[h3,an4,show k+(xs.length+1)=k+1+xs.length by omega]
def Pw{α:Type}{g:Gd}{s:ah}(C:Nat->aa)(E:Nat->α->Ev){N:Int}{n:Nat}(hN:N=n)(v:α)
  (h:∀i,i<n->∀v,∃e',g (.int (i:Nat)) (E i v) (C i)=.ok e' (C i)/\∃v',s e' (C i)=.ok (.nx (E (i+1) v')) (C (i+1))) :
  ∃v',b8 (λ_=>True) g s (aO 0 N) (E 0 v) (C 0)=.ok (.nx (E n v')) (C n):=by
 have hl:(aO 0 N).length=n:=by rw[dP];omega
 have:=Aw (st:=λ_=>True) C E (aO 0 N) 0 v (λ_ _=>trivial) (λi x hx v=>by
  obtain⟨h1,rfl⟩:=ki hx;rw[aog,apI];exact h i (by omega) v)
 rwa[hl,aog]at this
def qy:List D->aa->R D:=λxs c=>match xs with
 |[.int i]=>.ok (.int i) c
 |[.bl k]=>.ok (.int (if k then 1 else 0)) c
 |_=>.bad
def aj8{X:Cx}:eH X (.type "int") (rN X.K qy):=by
 intro pins s σ H vs us Q I rv h;obtain⟨ρ,xs,c,W,rx,p⟩:=h;unfold qy at p;split at p
 ·obtain⟨v,r,rfl,hx,hr⟩:=rx;cases hr;cases hx;exact Ri pins s σ H _ us Q I rv (.inl ⟨_,rfl,p.here W rfl⟩)
 ·obtain⟨v,r,rfl,hx,hr⟩:=rx;cases hr;cases hx;exact Ri pins s σ H _ us Q I rv (.inr ⟨_,rfl,p.here W rfl⟩)
 ·exact p.elim
@[simp] theorem S6(k:Bool)(c:aa):qy [.bl k] c=.ok (.int (if k then 1 else 0)) c:=rfl
@[simp] theorem al9(i:Int)(c:aa):qy [.int i] c=.ok (.int i) c:=rfl
abbrev Up(l:List Nat):Prop:=l.Pairwise (· < ·)
def getD_list(xs:Array Nat)(i d:Nat):xs.getD i d=xs.toList.getD i d:=by
 simp[arW,aof]
def yR{l:List Nat}(h:Up l){i k:Nat}(hik:i<k)(hk:k<l.length):l.getD i 0<l.getD k 0:=by
 have:=List.pairwise_iff_getElem.mp h i k (by omega) hk hik
 simpa[aof,anZ hk,anZ (show i<l.length by omega)]using this
def Parts(l:List Nat)(j p:Nat):Prop:=p<=l.length/\(∀i,i<p->l.getD i 0<j)/\∀i,p<=i->i<l.length->j<=l.getD i 0
def Jk{xs:Array Nat}{j:Nat}(h:Up xs.toList):∀fuel lo hi,lo<=hi->hi<=xs.toList.length->hi-lo<=fuel->(∀i,i<lo->xs.toList.getD i 0<j)->(∀i,hi<=i->i<xs.toList.length->j<=xs.toList.getD i 0) ->
  Parts xs.toList j (SetTable.below.go xs j fuel lo hi)
 |0,lo,hi,h1,h2,h3,h4,h5=>⟨by unfold SetTable.below.go;omega,λi hi'=>h4 i (by unfold SetTable.below.go at hi';exact hi'),λi hi'=>h5 i (by unfold SetTable.below.go at hi';omega)⟩
 |fuel+1,lo,hi,h1,h2,h3,h4,h5=>by
  unfold SetTable.below.go
  by_cases hl:lo<hi
  ·rw[if_pos hl];dsimp only;have hm:(lo+hi)/2<xs.toList.length:=by omega
   have he:xs.getD ((lo+hi)/2) j=xs.toList.getD ((lo+hi)/2) 0:=by
    rw[getD_list];simp[aof,anZ hm]
   rw[he]
   by_cases hc:xs.toList.getD ((lo+hi)/2) 0<j
   ·rw[if_pos hc];refine Jk h fuel _ _ (by omega) h2 (by omega) (λi hi'=>?_) h5
    by_cases hq:i=(lo+hi)/2
    ·rw[hq];exact hc
    ·exact aq1 (yR h (show i<(lo+hi)/2 by omega) hm) hc
   ·rw[if_neg hc];refine Jk h fuel _ _ (by omega) (by omega) (by omega) h4 (λi hi' hl'=>?_)
    by_cases hq:i=(lo+hi)/2
    ·rw[hq];omega
    ·exact aom (by omega) (apl (yR h (show(lo+hi)/2<i by omega) hl'))
  ·rw[if_neg hl];exact⟨by omega,h4,λi hi'=>h5 i (by omega)⟩
def Rw{xs:Array Nat}(h:Up xs.toList)(j:Nat):Parts xs.toList j (SetTable.below xs j):=by
 unfold SetTable.below;exact Jk h _ _ _ (aoz _) (by simp) (by simp) (λi hi=>absurd hi (arX _)) (λi h1 h2=>by simp at h2;omega)
def akE{xs:Array Nat}(h:Up xs.toList){j:Nat}(hj:j∈xs.toList):xs[SetTable.below xs j]? = ζ j:=by
 obtain⟨i,hi,e⟩:=aq2 hj;obtain⟨h1,h2,h3⟩:=Rw h j;have e':xs.toList.getD i 0=j:=by rw[aof,anZ hi];exact e
 have hp:SetTable.below xs j=i:=by
  rcases Nat.lt_trichotomy (SetTable.below xs j) i with q|q|q
  ·have a:=h3 (SetTable.below xs j) (anU _) (by omega)
   have b:=yR h q hi;omega
  ·exact q
  ·have a:=h2 i q;omega
 rw[hp,<-aqj,anZ hi,e]
def Uk{xs:Array Nat}(h:Up xs.toList){j:Nat}(hj:j∉xs.toList):Up (SetTable.insertAt xs (SetTable.below xs j) j).toList:=by
 rw[SetTable.toList_insertAt];obtain⟨h1,h2,h3⟩:=Rw h j
 generalize SetTable.below xs j=p at h1 h2 h3
 have ht:∀a∈xs.toList.take p,a<j:=by
  intro a ha;obtain⟨i,hi,e⟩:=aq2 ha;have hi':i<p/\i<xs.toList.length:=by simp at hi ⊢;omega
  have:=h2 i hi'.1;rw[aqh]at e;rw[aof,anZ hi'.2]at this
  simpa[<-e]using this
 have hd:∀a∈xs.toList.drop p,j<a:=by
  intro a ha;have hm:a∈xs.toList:=arY ha;obtain⟨i,hi,e⟩:=aq2 ha;have hi':p+i<xs.toList.length:=by simp at hi ⊢;omega
  have:=h3 (p+i) (by omega) hi'
  rw[List.getElem_drop]at e;rw[aof,anZ hi']at this;have hle:j<=a:=by simpa[<-e]using this
  exact Nat.lt_of_le_of_ne hle λq=>hj (q▸hm)
 refine List.pairwise_append.mpr ⟨h.sublist (aqI _ _),apJ.mpr ⟨hd,h.sublist (List.drop_sublist _ _)⟩,λa ha b hb=>?_⟩
 rcases anW.mp hb with rfl|hb
 ·exact ht a ha
 ·exact aq1 (ht a ha) (hd b hb)
def LP:∀(n:Nat) (l:List Nat),(∀j,j<n->j∈l)->n<=l.length
 |0,_,_=>aoz _
 |n+1,l,h=>by
  have hn:=h n (apb _);have:=LP n (l.erase n) λj hj=>(arZ (by omega)).mpr (h j (by omega))
  rw[ar0 hn]at this;have:=ar1 hn;omega
def jB(mask:Nat):Nat->Nat->Nat->Nat->Nat->Nat->Bool
 |0,_,_,_,_,_=>Δ
 |n+1,j,more,i,q,acc =>
  if acc |||(1 <<< j)=2^(mask+1)-1 then θ
  else if more>0 then jB mask n (j+1) (more-1) i q (acc |||(1 <<< j))
  else jB mask n ((i*5+1+q/32) % (mask+1)) (SetTable.runEnd mask ((i*5+1+q/32) % (mask+1))-(i*5+1+q/32) % (mask+1)) ((i*5+1+q/32) % (mask+1)) (q/32) (acc |||(1 <<< j))
def BA(mask:Nat):Bool:=(ι 128).all λh=>jB mask (10*(mask+15)) (h % (mask+1)) (SetTable.runEnd mask (h % (mask+1))-h % (mask+1)) (h % (mask+1)) h 0
def qN(mask:Nat):Nat->Nat->Nat->Nat->Bool
 |0,_,_,_=>Δ
 |n+1,i,q,acc =>
  if acc |||((2^(SetTable.runEnd mask i+1-i)-1) <<< i)=2^(mask+1)-1 then θ
  else qN mask n ((i*5+1+q/32) % (mask+1)) (q/32) (acc |||((2^(SetTable.runEnd mask i+1-i)-1) <<< i))
def HY(mask:Nat):Bool:=(ι 128).all λh=>qN mask (mask+15) (h % (mask+1)) h 0
def ajU:BA 7=θ:=by decide +kernel
def ajV:BA 31=θ:=by decide +kernel
def ajW:BA 127=θ:=by decide +kernel
def ajS:HY 31=θ:=by decide +kernel
def ajT:HY 127=θ:=by decide +kernel
def Jg(acc j k:Nat):(acc |||(1 <<< j)).testBit k=(acc.testBit k||decide (k=j)):=by
 rw[Nat.testBit_or,Nat.one_shiftLeft,Nat.testBit_two_pow]
 by_cases h:j=k
 ·subst h;simp
 ·simp[h,aoD h]
def By{mask:Nat}:∀n j more i q acc,jB mask n j more i q acc=θ->∀k,acc.testBit k=θ->k<=mask
 |0,_,_,_,_,_,h,_,_=>by cases h
 |n+1,j,more,i,q,acc,h,k,hk=>by
  have hk':(acc |||(1 <<< j)).testBit k=θ:=by rw[Jg,hk];rfl
  unfold jB at h;split at h
  ·rename_i e;rw[e,apU]at hk';have:=of_decide_eq_true hk';omega
  ·split at h
   ·exact By _ _ _ _ _ _ h k hk'
   ·exact By _ _ _ _ _ _ h k hk'
def Le{t:afI}(hd:t.dummies=#[])(j:Nat):t.slot j=.empty\/∃i,t.slot j=.live i:=by
 unfold SetTable.slot;dsimp only;split
 ·exact .inr ⟨_,rfl⟩
 ·rw[hd];exact .inl rfl
def Ge{t:afI}{h:Int}(hd:t.dummies=#[]):∀n (p:SetTable.Probe) acc fuel,jB t.mask n p.j p.more p.i p.perturb acc=θ->p.dummy=η->n<=fuel ->
  (∀k,acc.testBit k=θ->t.slot k≠.empty)->(∃j,j<=t.mask/\t.slot j=.empty) ->
  ∃j,SetTable.probe.go t (λ_=>h+1) h fuel p=ζ (.empty j η)/\t.slot j=.empty/\j<=t.mask
 |0,_,_,_,h,_,_,_,_=>by simp[jB]at h
 |n+1,p,acc,0,_,_,h,_,_=>by omega
 |n+1,p,acc,fuel+1,hc,hn,hf,ha,hj=>by
  have hle:p.j<=t.mask:=by
   have hk':(acc |||(1 <<< p.j)).testBit p.j=θ:=by rw[Jg];simp
   unfold jB at hc;split at hc
   ·rename_i e;rw[e,apU]at hk';have:=of_decide_eq_true hk';omega
   ·split at hc
    ·exact By _ _ _ _ _ _ hc _ hk'
    ·exact By _ _ _ _ _ _ hc _ hk'
  unfold SetTable.probe.go
  rcases Le hd p.j with e|⟨i,e⟩
  ·rw[e];dsimp only;exact⟨p.j,by rw[hn],e,hle⟩
  ·rw[e];dsimp only;have hne:(h+1==h)=Δ:=by simp;omega
   rw[hne];simp only[aoX,if_false];have ha':∀k,(acc |||(1 <<< p.j)).testBit k=θ->t.slot k≠.empty:=by
    intro k hk;rw[Jg,apB,decide_eq_true_eq]at hk
    rcases hk with hk|rfl
    ·exact ha k hk
    ·rw[e];intro q;cases q
   unfold jB at hc;split at hc
   ·rename_i ef;obtain⟨j0,h0,e0⟩:=hj;exact absurd e0 (ha' j0 (by rw[ef,apU];exact decide_eq_true (by omega)))
   ·split at hc
    ·rename_i hm;have F5:t.advance p={p with j:=p.j+1,more:=p.more-1}:=by unfold SetTable.advance;rw[if_pos hm]
     rw[F5];exact Ge hd n _ _ fuel hc hn (by omega) ha' hj
    ·rename_i hm;have F5:t.advance p={p with j:=(p.i*5+1+p.perturb/32) % (t.mask+1),more:=SetTable.runEnd t.mask ((p.i*5+1+p.perturb/32) % (t.mask+1))-(p.i*5+1+p.perturb/32) % (t.mask+1),i:=(p.i*5+1+p.perturb/32) % (t.mask+1),perturb:=p.perturb/32}:=by
      unfold SetTable.advance;rw[if_neg hm];rfl
     rw[F5];exact Ge hd n _ _ fuel hc hn (by omega) ha' hj
def Rp{n:Nat}(h:n<128):SetTable.bits (n:Int)=n:=by
 unfold SetTable.bits;have:((n:Int) % (2^64:Int))=n:=Int.emod_eq_of_lt (by omega) (by omega)
 rw[this];rfl
def wX(m:Nat):Prop:=m=7\/m=31\/m=127
def ajQ{m:Nat}(h:wX m){n:Nat}(hn:n<128):jB m (10*(m+15)) (n % (m+1)) (SetTable.runEnd m (n % (m+1))-n % (m+1)) (n % (m+1)) n 0=θ:=by
 have:BA m=θ:=h.elim (λe=>e▸ajU) λh=>h.elim (λe=>e▸ajV) λe=>e▸ajW
 exact aoo.mp this n (aod.mpr hn)
def ahH{t:afI}{n:Nat}(hd:t.dummies=#[])(hm:wX t.mask)(hn:n<128)(hs:t.place.toList.length<=t.mask)(hu:Up t.place.toList) :
  ∃j,t.freeSlot (n:Int)=ζ (j,Δ)/\j∉t.place.toList/\j<=t.mask:=by
 have hmem:∀j,t.slot j=.empty->j∉t.place.toList:=by
  intro j e hj;unfold SetTable.slot at e;dsimp only at e;rw[akE hu hj]at e;simp at e
 have agP:∀j,j∉t.place.toList->t.slot j=.empty:=by
  intro j hj
  rcases Le hd j with e|⟨i,e⟩
  ·exact e
  ·unfold SetTable.slot at e;dsimp only at e;split at e
   ·rename_i q;have:=eq_of_beq q;rw[<-aqj]at this;exact absurd (aoq this) hj
   ·split at e<;>cases e
 have hex:∃j,j<=t.mask/\t.slot j=.empty:=by
  by_cases q:∃j,j<=t.mask/\j∉t.place.toList
  ·obtain⟨j,a,b⟩:=q;exact⟨j,a,agP j b⟩
  ·have:=LP (t.mask+1) t.place.toList λj hj=>Classical.byContradiction λx=>q ⟨j,by omega,x⟩
   omega
 have hb:=Rp hn;obtain⟨j,e,e1,e2⟩:=Ge (t:=t) (h:=(n:Int)) hd (10*(t.mask+15)) (t.probeStart n) 0 (10*SetTable.turns t.mask)
  (by show jB _ _ (SetTable.bits n % _) (SetTable.runEnd t.mask (SetTable.bits n % (t.mask+1))-SetTable.bits n % (t.mask+1)) (SetTable.bits n % _) (SetTable.bits n) _=θ;rw[hb];exact ajQ hm hn) rfl (anU _) (λk hk=>by simp at hk) hex
 refine⟨j,?_,hmem j e1,e2⟩;unfold SetTable.freeSlot SetTable.probe;rw[e];rfl
def Xl(c i k:Nat):((2^c-1) <<< i).testBit k=decide (i<=k/\k<i+c):=by
 rw[Nat.testBit_shiftLeft,apU]
 by_cases h:i<=k
 ·simp only[ge_iff_le,h,decide_true,Bool.true_and,true_and];exact decide_eq_decide.mpr (by omega)
 ·simp[h]
def NR{mask:Nat}{owner:Array (Option Nat)}:∀n i q acc fuel,qN mask n i q acc=θ->n<=fuel->(∀k,k<=mask->acc.testBit k=θ->owner.getD k (ζ 0)≠η) ->
  (∃j,j<=mask/\owner.getD j (ζ 0)=η)->∃j,SetTable.layClean.free mask owner fuel i q=ζ j/\owner.getD j (ζ 0)=η
 |0,_,_,_,_,h,_,_,_=>by simp[qN]at h
 |n+1,i,q,acc,0,_,h,_,_=>by omega
 |n+1,i,q,acc,fuel+1,hc,hf,ha,hj=>by
  unfold SetTable.layClean.free;cases hr:(ι (SetTable.runEnd mask i+1-i)).find? (λk=>(owner.getD (i+k) (ζ 0)).isNone)with
  |some k =>
   dsimp only;have:=List.find?_some hr;exact⟨i+k,rfl,by simpa using this⟩
  |none =>
   dsimp only;have hno:=List.find?_eq_none.mp hr;have ha':∀k,k<=mask->(acc |||((2^(SetTable.runEnd mask i+1-i)-1) <<< i)).testBit k=θ->owner.getD k (ζ 0)≠η:=by
    intro k hk hb;rw[Nat.testBit_or,Xl,apB,decide_eq_true_eq]at hb
    rcases hb with hb|hb
    ·exact ha k hk hb
    ·intro e;have:=hno (k-i) (aod.mpr (by omega))
     rw[show i+(k-i)=k by omega,e]at this
     exact this rfl
   unfold qN at hc;split at hc
   ·rename_i ef;obtain⟨j0,h0,e0⟩:=hj;exact absurd e0 (ha' j0 h0 (by rw[ef,apU];exact decide_eq_true (by omega)))
   ·exact NR n _ _ _ fuel hc (by omega) ha' hj
def p8(m:Nat):Prop:=m=31\/m=127
def ajR{m:Nat}(h:p8 m){n:Nat}(hn:n<128):qN m (m+15) (n % (m+1)) n 0=θ:=by
 have:HY m=θ:=h.elim (λe=>e▸ajS) λe=>e▸ajT
 exact aoo.mp this n (aod.mpr hn)
def PF:∀(l:List (Option Nat)) (j k:Nat),j<l.length->l.getD j (ζ 0)=η->((l.set j (ζ k)).filterMap id).Perm (k::l.filterMap id)
 |[],_,_,h,_=>absurd h (arX _)
 |x::l,0,k,_,e=>by
  have:x=η:=by simpa using e
  subst this;simp
 |x::l,j+1,k,h,e=>by
  have ih:=PF l j k (by simpa using h) (by simpa using e)
  rw[aqX];cases x with
  |none=>simpa using ih
  |some a =>
   simp only[apM,id];exact(ih.cons a).trans (List.Perm.swap _ _ _)
def PJ:∀(l:List (Option Nat)),(∀j,j<l.length->l.getD j (ζ 0)≠η)->(l.filterMap id).length=l.length
 |[],_=>rfl
 |x::l,h=>by
  cases x with
  |none=>exact absurd rfl (h 0 (by simp))
  |some a =>
   have:=PJ l λj hj=>by simpa using h (j+1) (by simpa using hj)
   simp[this]
def yt(mask:Nat)(owner:Array (Option Nat))(k:Nat):Prop:=owner.toList.length=mask+1/\(owner.toList.filterMap id).Perm (ι k)
def Ao(xs:Array (Option Nat))(i:Nat)(d:Option Nat):xs.getD i d=xs.toList.getD i d:=by
 simp[arW,aof]
def aew{mask:Nat}{owner:Array (Option Nat)}{k n:Nat}(hm:p8 mask)(hn:n<128)(I:yt mask owner k)(hk:k<=mask) :
  ∃j,SetTable.layClean.free mask owner (SetTable.turns mask) (SetTable.bits n % (mask+1)) (SetTable.bits n)=ζ j/\yt mask (owner.setIfInBounds j (ζ k)) (k+1):=by
 obtain⟨h1,h2⟩:=I;have hex:∃j,j<=mask/\owner.getD j (ζ 0)=η:=by
  by_cases q:∃j,j<=mask/\owner.getD j (ζ 0)=η
  ·exact q
  ·have:=PJ owner.toList λj hj e=>q ⟨j,by omega,by rw[Ao];exact e⟩
   have h3:=h2.length_eq;rw[ao5]at h3;omega
 obtain⟨j,e,e1⟩:=NR (mask+15) _ _ 0 (SetTable.turns mask) (ajR hm hn) (anU _) (λk _ hb=>by simp at hb) hex
 refine⟨j,by rw[Rp hn];exact e,by simpa using h1,?_⟩
 rw[Ao]at e1;have hj:j<owner.toList.length:=by
  rcases aqk j owner.toList.length with q|q
  ·exact q
  ·rw[aof,apt q]at e1;cases e1
 rw[Array.toList_setIfInBounds];refine(PF _ j k hj e1).trans ?_;rw[apV];exact(h2.cons k).trans (ar2 k _).symm
def NS{mask:Nat}(hm:p8 mask):∀(hs:List Int) (owner:Array (Option Nat)) (k:Nat),(∀h∈hs,∃n:Nat,h=n/\n<128)->yt mask owner k->k+hs.length<=mask ->
  ∃ow,hs.foldl (λacc h=>(do
   let(owner,k) <-acc
   let j <-SetTable.layClean.free mask owner (SetTable.turns mask) (SetTable.bits h % (mask+1)) (SetTable.bits h)
   pure (owner.setIfInBounds j (ζ k),k+1):Option (Array (Option Nat)×Nat))) (ζ (owner,k))=ζ (ow,k+hs.length)/\yt mask ow (k+hs.length)
 |[],owner,k,_,I,_=>⟨owner,rfl,I⟩
 |h::hs,owner,k,hh,I,hl=>by
  obtain⟨n,e,hn⟩:=hh h (.head _);subst e;simp only[an4]at hl;obtain⟨j,e,I'⟩:=aew hm hn I (by omega)
  obtain⟨ow,e',JD⟩:=NS hm hs _ (k+1) (λh x=>hh h (.tail _ x)) I' (by omega)
  refine⟨ow,?_,by rw[an4,show k+(hs.length+1)=k+1+hs.length by omega];exact JD⟩
  rw[apR,an4,show k+(hs.length+1)=k+1+hs.length by omega,<-e']
  congr 1
  show(do let j <-SetTable.layClean.free mask owner (SetTable.turns mask) (SetTable.bits n % (mask+1)) (SetTable.bits n);pure (owner.setIfInBounds j (ζ k),k+1):Option (Array (Option Nat)×Nat))=_
  rw[e];rfl
def aey{mask:Nat}(hm:p8 mask)(hs:Array Int)(hh:∀h∈hs.toList,∃n:Nat,h=n/\n<128)(hl:hs.toList.length<=mask) :
  ∃ow,SetTable.layClean mask hs=ζ ow/\yt mask ow hs.toList.length:=by
 obtain⟨ow,e,I⟩:=NS hm hs.toList (Array.replicate (mask+1) η) 0 hh ⟨by simp,by simp⟩ (by omega)
 rw[aog]at e I;refine⟨ow,?_,I⟩;unfold SetTable.layClean;rw[<-Array.foldl_toList];exact congrArg (Option.map (λx:Array (Option Nat)×Nat=>x.1)) e
def LH(l:List (Option Nat)):(ι l.length).filterMap (λj=>l.getD j η)=l.filterMap id:=by
 have:l=(ι l.length).map (λj=>l.getD j η):=by
  apply aql
  ·simp
  ·intro i h1 h2;simp[aof,anZ h1]
 conv=>rhs;rw[this]
 rw[List.filterMap_map];rfl
def aeF{mask:Nat}(hm:p8 mask)(f mv:Nat)(led plain:Bool)(hs:Array Int)(hh:∀h∈hs.toList,∃n:Nat,h=n/\n<128)(hl:hs.toList.length<=mask) :
  ∃place order,SetTable.laid mask f mv led plain hs=ζ ({mask:=mask,place:=place,dummies:=#[],finger:=f,led:=led,moves:=mv,plain:=plain},order)/\Up place.toList/\(∀j∈place.toList,j<=mask)/\place.size=hs.size/\order.toList.Perm (ι hs.size):=by
 obtain⟨ow,e,h1,h2⟩:=aey hm hs hh hl;refine⟨(((ι (mask+1)).filterMap λj=>(ow.getD j η).map (j,·)).map (·.1)).toArray,(((ι (mask+1)).filterMap λj=>(ow.getD j η).map (j,·)).map (·.2)).toArray,?_,?_,?_,?_,?_⟩
 ·unfold SetTable.laid;rw[e];rfl
 ·show Up ((((ι (mask+1)).filterMap λj=>(ow.getD j η).map (j,·)).map (·.1)).toArray).toList
  show List.Pairwise _ _;rw[List.pairwise_map];refine List.Pairwise.filterMap _ (λa a' hlt b hb b' hb'=>?_) ar3
  cases ha:ow.getD a η<;>rw[ha]at hb<;>simp at hb
  cases ha':ow.getD a' η<;>rw[ha']at hb'<;>simp at hb'
  rw[<-hb,<-hb'];exact hlt
 ·intro j hj;simp only[aoa,apN,aod]at hj;obtain⟨⟨a,b⟩,⟨c,hc,hq⟩,rfl⟩:=hj;cases ha:ow.getD c η<;>rw[ha]at hq<;>simp at hq
  obtain⟨rfl,_⟩:=hq;omega
 ·have:((ι (mask+1)).filterMap λj=>(ow.getD j η).map (j,·)).length=(ow.toList.filterMap id).length:=by
   rw[<-LH,h1,<-an2 (f:=Prod.snd),ar4]
   congr 1
   congr 1
   funext j
   rw[Ao];cases ow.toList.getD j η<;>rfl
  rw[an3,an2,this,h2.length_eq,ao5];simp
 ·show(((ι (mask+1)).filterMap λj=>(ow.getD j η).map (j,·)).map (·.2)).Perm _
  have:(((ι (mask+1)).filterMap λj=>(ow.getD j η).map (j,·)).map (·.2))=ow.toList.filterMap id:=by
   rw[<-LH,h1,ar4]
   congr 1
   funext j
   rw[Ao];cases ow.toList.getD j η<;>rfl
  rw[this]
  simpa using h2
structure o8 (t:afI) (n:Nat):Prop where
 size:t.place.size=n
 up:Up t.place.toList
 le:∀j∈t.place.toList,j<=t.mask
 dm:t.dummies=#[]
 mask:(t.mask=7/\n<=4)\/(t.mask=31/\n<=18)\/(t.mask=127/\n<=76)
 plain:t.plain=θ
def o8.fits{t:afI}{n:Nat}(h:o8 t n):t.fits n=θ:=by
 have:=h.mask;simp only[SetTable.fits,SetTable.fill,h.size,h.dm,aoj,beq_self_eq_true,true_and,decide_eq_true_eq];simp only[an3,aok];omega
def UQ(led:Bool):o8 (.fresh 0 0 led) 0:=⟨rfl,.nil,λj h=>by simp[SetTable.fresh]at h,rfl,.inl ⟨rfl,by omega⟩,rfl⟩
def HS(es:List (Int×Ξ)):Prop:=∀e∈es,∃n:Nat,e.1=n/\n<128
def aex{t:afI}{es:Array (Int×Ξ)}{x:Ξ}{m:Nat}(I:o8 t es.size)(hm:m<128)(hn:es.size<64) :
  ∃es1 t1,layNew t es (m:Int) x=(es1,t1,Δ,Δ)/\es1.size=es.size+1/\t1.led=t.led/\t1.plain=θ/\t1.place.size=es1.size/\Up t1.place.toList/\(∀j∈t1.place.toList,j<=t1.mask)/\t1.dummies=#[]/\t1.mask=t.mask/\t1.fits es1.size=θ:=by
 have hk:=I.mask;have hok:wX t.mask:=by unfold wX;omega
 have hsz:=I.size;obtain⟨j,e,h1,h2⟩:=ahH (t:=t) I.dm hok hm (by simp[hsz];omega) I.up
 have hnd:(if SetTable.has t.dummies j then SetTable.eraseAt t.dummies (SetTable.below t.dummies j)else t.dummies)=#[]:=by
  rw[I.dm];rfl
 have hs1:(SetTable.insertAt es (SetTable.below t.place j) ((m:Int),x)).size=es.size+1:=by
  rw[<-aoS,(aq3 ..).length_eq];simp
 have hs2:(SetTable.insertAt t.place (SetTable.below t.place j) j).size=es.size+1:=by
  rw[<-aoS,(aq3 ..).length_eq];simp[hsz]
 have hfit:(t.put j).1.fits (es.size+1)=θ:=by
  simp only[SetTable.put,SetTable.fits,SetTable.fill,hnd,hs2,aoj,beq_self_eq_true,true_and,decide_eq_true_eq];simp only[an3,aok];omega
 refine⟨SetTable.insertAt es (SetTable.below t.place j) ((m:Int),x),(t.put j).1,?_,hs1,rfl,I.plain,?_,?_,?_,hnd,rfl,?_⟩
 ·unfold layNew;rw[e];dsimp only;have hp:(t.put j).2=SetTable.below t.place j:=rfl;rw[hp,hs1];unfold SetTable.orStandIn;rw[hfit];rfl
 ·rw[hs1];exact hs2
 ·exact Uk I.up h1
 ·intro k hk';have:k∈(t.place.push j).toList:=(aq3 t.place (SetTable.below t.place j) j).mem_iff.mp hk';rw[aq4,aou,aoO]at this
  rcases this with q|rfl
  ·exact I.le k q
  ·exact h2
 ·rw[hs1];exact hfit
def XR{t:afI}{es:Array (Int×Ξ)}(hp:t.plain=θ)(hh:HS es.toList)(hm:(t.mask=7/\es.size=5)\/(t.mask=31/\es.size=19)) :
  ∃xU t2,relayAll t es (SetTable.grown es.size)=(xU,t2,Δ)/\xU.size=es.size/\o8 t2 xU.size/\t2.led=t.led:=by
 have hw:∃m,SetTable.sizeAbove (SetTable.grown es.size)-1=m/\((m=31/\es.size=5)\/(m=127/\es.size=19)):=by
  rcases hm with⟨_,e⟩|⟨_,e⟩
  ·rw[e];exact⟨31,by decide,.inl ⟨rfl,rfl⟩⟩
  ·rw[e];exact⟨127,by decide,.inr ⟨rfl,rfl⟩⟩
 obtain⟨m,ew,hq⟩:=hw;have hs:(es.map (·.1)).toList=es.toList.map (·.1):=by simp
 obtain⟨place,order,e,u1,u2,u3,u4⟩:=aeF (mask:=m) (by unfold p8;omega) t.finger (t.movedTo m) t.led t.plain (es.map (·.1)) (λh hx=>by
  rw[hs,aoa]at hx;obtain⟨y,hy,rfl⟩:=hx;exact hh y hy) (by rw[hs,an2,aoS];omega)
 rw[Array.size_map]at u3 u4;have hes:(order.filterMap (es[·]?)).size=es.size:=by
  rw[<-aoS,Array.toList_filterMap];exact((u4.filterMap _).trans (by rw[filterMap_getElem?_range])).length_eq
 have hfit:SetTable.fits {mask:=m,place:=place,dummies:=#[],finger:=t.finger,led:=t.led,moves:=t.movedTo m,plain:=t.plain} es.size=θ:=by
  simp only[SetTable.fits,SetTable.fill,u3,aoj,beq_self_eq_true,true_and,decide_eq_true_eq];simp only[an3,aok];omega
 refine⟨order.filterMap (es[·]?),{mask:=m,place:=place,dummies:=#[],finger:=t.finger,led:=t.led,moves:=t.movedTo m,plain:=t.plain},?_,hes,?_,?_⟩
 rotate_left
 ·rw[hes];exact⟨u3,u1,u2,rfl,.inr (by show(m=31/\_)\/(m=127/\_);omega),hp⟩
 ·rfl
 ·unfold relayAll SetTable.relaid;rw[ew,e];dsimp only;rw[hes,hfit];have hc:coversAll order es.size=θ:=by unfold coversAll;exact List.isPerm_iff.mpr u4
  rw[hc];rfl
def ahE{t t1:afI}{n:Nat}(I:o8 t n)(hm:t1.mask=t.mask)(hs:t1.place.size=n+1)(hd:t1.dummies=#[])(hn:n<64) :
  (t1.tooFull=θ->(t1.mask=7/\n+1=5)\/(t1.mask=31/\n+1=19))/\(t1.tooFull=Δ->((t1.mask=7/\n+1<=4)\/(t1.mask=31/\n+1<=18)\/(t1.mask=127/\n+1<=76))):=by
 have hk:=I.mask;have hz:(#[]:Array Nat).size=0:=rfl;simp only[SetTable.tooFull,SetTable.fill,hs,hd,hm,hz,decide_eq_true_eq,decide_eq_false_iff_not];omega
def Ak{n:Nat}(h:n<128):hashInt (n:Int)=n:=by
 have:((ι 128).all λn=>hashInt (n:Int)==(n:Int))=θ:=by decide +kernel
 exact eq_of_beq (aoo.mp this n (aod.mpr h))
def l7(w:ψ):Bool:=w.params.followText "set-order"
def gm(ns:List Nat)(x:Nat):List Nat:=if x∈ns then ns else ns++[x]
def gU(l:List (Int×Ξ))(ns:List Nat):Prop:=(l.map (·.1)).Perm (ns.map λn:Nat=>(n:Int))/\∀e∈l,∃(n:Nat) (tk:Tok),e=((n:Int),.int n tk)/\n<128
def dG(w:ψ)(h:υ)(a:Ψ)(ns:List Nat):Prop:=∃o es ep t,h.get? a=ζ o/\o.ExactSet/\o.data=.set es ep t/\o8 t es.size/\t.led = !l7 w/\gU es.toList ns
def gU.hs{l:List (Int×Ξ)}{ns:List Nat}(h:gU l ns):HS l:=λe he=>by
 obtain⟨n,tk,rfl,hn⟩:=h.2 e he;exact⟨n,rfl,hn⟩
def gU.len{l:List (Int×Ξ)}{ns:List Nat}(h:gU l ns):l.length=ns.length:=by
 have:=h.1.length_eq;simpa using this
def gU.mem{l:List (Int×Ξ)}{ns:List Nat}(h:gU l ns)(n:Nat):n∈ns↔∃e∈l,e.1=(n:Int):=by
 constructor
 ·intro hn;have:(n:Int)∈l.map (·.1):=h.1.mem_iff.mpr (aoa.mpr ⟨n,hn,rfl⟩);obtain⟨e,he,q⟩:=aoa.mp this;exact⟨e,he,q⟩
 ·rintro ⟨e,he,q⟩
  have:(n:Int)∈ns.map (λn:Nat=>(n:Int)):=h.1.mem_iff.mp (aoa.mpr ⟨e,he,q⟩)
  obtain⟨m,hm,r⟩:=aoa.mp this;have:m=n:=by omega
  exact this▸hm
def gU.perm{l l':List (Int×Ξ)}{ns:List Nat}(h:gU l ns)(p:l'.Perm l):gU l' ns:=⟨(p.map _).trans h.1,λe he=>h.2 e (p.mem_iff.mp he)⟩
def gU.push{l:List (Int×Ξ)}{ns:List Nat}(h:gU l ns){m:Nat}(hm:m<128)(tk:Tok):gU (l++[((m:Int),.int m tk)]) (ns++[m]):=by
 refine⟨?_,λe he=>?_⟩
 ·rw[aoZ,aoZ];exact h.1.append_right _
 ·rcases aou.mp he with he|he
  ·exact h.2 e he
  ·rw[aoO]at he;exact⟨m,tk,he,hm⟩
section
variable {prog:τ}{w:ψ}{A:χ}{E:Ξ->Ω->Prop}{s:Ω}
def gU.els{l:List (Int×Ξ)}{ns:List Nat}(h:gU l ns):ElemsOf (intKind prog w) l:=λe he=>by
 obtain⟨n,tk,rfl,hn⟩:=h.2 e he;exact⟨⟨n,by simp[intKind,Value.isInt],(Ak hn).symm⟩,rfl⟩
def LI{h:υ}{a:Ψ}{o:Obj}{es es':Array (Int×Ξ)}{ep:Nat}{t t':afI}(ho:h.get? a=ζ o)(hd:o.data=.set es ep t) :
  (h.update a (Obj.putSet es' t')).get? a=ζ {o with data:=.set es' (ep+1) t'}:=by
 have:=aqP (Obj.putSet es' t') ho (by rw[putSet_of es' t' hd];rfl)
 rwa[putSet_of es' t' hd]at this
def Li{a:Ψ}{ns:List Nat}{m:Nat}{tk:Tok}{Q:Bool->Ω->Prop}(hm:m<128)(hS:dG w s.heap a ns)(hn:ns.length<64)
  (h:∀b h',agd a s.heap h'->dG w h' a (gm ns m)->Q b {s with heap:=h'}):wpAny (model prog w) A (setAddHashed a (.int m tk) (hashInt m)) Q E s:=by
 obtain⟨o,es,ep,t,ho,hex,hd,hI,hl,hs⟩:=hS;have hsz:es.size=ns.length:=by rw[<-aoS];exact hs.len
 have hel:ElemsOf (intKind prog w) es.toList:=hs.els;have hkey:(intKind prog w).is (m:Int) (.int m tk)=θ:=by simp[intKind,Value.isInt]
 unfold setAddHashed setAddHashedIn;refine ao1 (anS (aq5 ho hd hI.fits ?_));dsimp only;rw[byScan_of (knd:=intKind prog w) rfl (by unfold scanBound;omega) hel]
 simp only[↓reduceIte];unfold setAddByScan;refine anS (anS (apg (anS (wpAny_setScan_of (knd:=intKind prog w) hkey ho hd hI.fits hel ?_))));have hfind:∀e∈es.toList,(intKind prog w).is (m:Int) e.2=θ->e.1=(m:Int):=λe he q=>by
  obtain⟨n,tk',rfl,_⟩:=hs.2 e he;obtain⟨t',q⟩:=apL (show Value.isInt (m:Int) (.int (n:Int) tk')=θ from q)
  injection q
 cases hr:es.toList.findIdx? (λe=>(intKind prog w).is (m:Int) e.2)with
 |some j =>
  dsimp only;obtain⟨hj,hpj,_⟩:=arU.mp hr;have hmem:m∈ns:=(hs.mem m).mpr ⟨_,aoE hj,hfind _ (aoE hj) hpj⟩;refine anT (anT ?_);exact h Δ s.heap (Heap.SameBut.refl a s.heap) (by unfold gm;rw[if_pos hmem];exact⟨o,es,ep,t,ho,hex,hd,hI,hl,hs⟩)
 |none =>
  dsimp only;have hmem:m∉ns:=λhq=>by
   obtain⟨e,he,q⟩:=(hs.mem m).mp hq;have:=List.findIdx?_eq_none_iff.mp hr e he;obtain⟨n,tk',rfl,_⟩:=hs.2 e he;have e:n=m:=by dsimp only at q;omega
   subst e;simp[intKind,Value.isInt]at this
  have hst:gm ns m=ns++[m]:=by unfold gm;rw[if_neg hmem]
  rw[hst]at h;rw[Ak hm];have Af:=layNew_perm t es (m:Int) (.int m tk);obtain⟨es1,t1,e1,q1,q2,q3,q4,q5,q6,q7,q8,q9⟩:=aex (x:=.int m tk) hI hm (by omega)
  rw[e1]at Af ⊢;dsimp only at Af ⊢;rw[aq4]at Af;have hs1:gU es1.toList (ns++[m]):=(hs.push hm tk).perm Af;refine anS (anT ?_);rw[q3];simp only[↓reduceIte];refine anS ?_;rw[hashByValue_scannable 8 (x:=.int m tk) rfl];refine anT ?_;dsimp only[plainKind];simp only[↓reduceIte];refine anS (wpAny_storeSet_of ho hd ?_ (fits_of_scanBound (by unfold scanBound;omega)))
  have uD:=LI (es':=es1) (t':=t1) ho hd;have kJ:=apf s.heap a (Obj.putSet es1 t1);have hcs:=ahE hI q8 (q4.trans q1) q7 (by omega)
  cases hf:t1.tooFull with
  |false =>
   simp only[aq6,Bool.and_false,aoX,↓reduceIte];refine anT (anT (h θ _ kJ ⟨_,es1,ep+1,t1,uD,hex,rfl,⟨q4,q5,q6,q7,?_,q3⟩,q2.trans hl,hs1⟩));rw[q1];exact hcs.2 hf
  |true =>
   simp only[aq6,Bool.and_self,↓reduceIte];have hp2:=relayAll_perm t1 es1 (SetTable.grown es1.size);obtain⟨xU,t2,e2,r1,r2,r3⟩:=XR q3 hs1.hs (by rw[q1];exact hcs.1 hf)
   rw[e2]at hp2 ⊢;dsimp only at hp2 ⊢;refine anS (anT ?_);refine anS (wpAny_storeSet_of uD rfl ?_ (fits_of_scanBound (by unfold scanBound;omega)))
   exact anT (anT (h θ _ (kJ.trans (apf _ a _)) ⟨_,xU,ep+1+1,t2,LI uD rfl,hex,rfl,r2,r3.trans (q2.trans hl),hs1.perm hp2⟩))
end
def fq(xs:List Nat):List Nat:=xs.foldl gm []
def ahN{xs:List Nat}{i:Nat}(h:i<xs.length):fq (xs.take (i+1))=gm (fq (xs.take i)) xs[i]:=by
 unfold fq;rw[aq7 h,ar5];rfl
def Pz:∀(xs ns:List Nat),ns.length<=(xs.foldl gm ns).length
 |[],ns=>anU _
 |x::xs,ns=>by
  have:=Pz xs (gm ns x);have h:ns.length<=(gm ns x).length:=by unfold gm;split<;>simp
  rw[apR];omega
def ahO(xs:List Nat)(i:Nat):(fq (xs.take i)).length<=(fq xs).length:=by
 have:fq xs=(xs.drop i).foldl gm (fq (xs.take i)):=by
  unfold fq;rw[<-ar5,aqm]
 rw[this];exact Pz _ _
def dG.at{w:ψ}{h h':υ}{a:Ψ}{ns:List Nat}(x:dG w h a ns)(k:∀o,h.get? a=ζ o->h'.get? a=ζ o):dG w h' a ns :=
 let⟨o,es,ep,t,ho,r⟩:=x;⟨o,es,ep,t,k o ho,r⟩
section
variable {prog:τ}{w:ψ}{A:χ}{s:Ω}{E:Ξ->Ω->Prop}
def Lh{R:Result->Ω->Prop}{I:Ψ}{fp wr:List Ψ}{G:Array agB->Array agB->Prop}{P:Nat->Ξ->Prop}{St:Nat->Ω->Prop}{xs:List Nat}
  (W:WalksS prog w A.in1 I fp wr G xs.length P St) (S:Ψ) (hSf:S∉fp) (hval:∀(i:Nat) v,(hi:i<xs.length)->P i v->∃t,v=Value.int (xs[i]:Nat) t) (hx:∀x∈xs,x<128) (h64:(fq xs).length<64) :
  ∀(k i:Nat) (s:Ω),xs.length-i=k->i<=xs.length->St i s->dG w s.heap S (fq (xs.take i)) ->
   (∀s',Moved (S::wr) G s s'->dG w s'.heap S (fq xs)->R (.ok (.ret .none)) s') ->
   codeAny (model prog w) A (.builtin "set.update.loop" ⟨[.ref S,.ref I],[]⟩) R s:=by
 have OV:S∉wr:=λh=>hSf (W.sub _ h)
 have hup:∀b∈wr,b∈S::wr:=λb hb=>.tail _ hb
 intro k
 induction k with
 |zero =>
  intro i s hk hi st hS hR;cases(show i=xs.length by omega)
  refine apH F.entry_set_update_loop ?_;rw[aq8 aq9 _];show wpAny _ A.in1 (pyNext (.ref I) >>= _) _ _ s;refine anS (W.done s _ _ st λs' hm=>?_)
  rw[ao6]at hS;exact anT (hR s' (hm.mono hup) (hS.at λo e=>hm.heap S _ OV e))
 |succ k ih =>
  intro i s hk hi st hS hR;have hlt:i<xs.length:=by omega
  refine apH F.entry_set_update_loop ?_;rw[aq8 aq9 _];show wpAny _ A.in1 (pyNext (.ref I) >>= _) _ _ s;refine anS (W.item i s _ _ hlt st λv s' hP st' hm=>?_)
  obtain⟨t,rfl⟩:=hval i v hlt hP;have hS':dG w s'.heap S (fq (xs.take i)):=hS.at λo e=>hm.heap S _ OV e
  show wpAny _ A.in1 (holding [Value.int (xs[i]:Nat) t] (setAdd S (.int (xs[i]:Nat) t)) >>= _) _ _ s';refine anS (ao1 ?_);unfold setAdd;refine ao1 (anS ((intKind prog w).pyHash (k:=(xs[i]:Nat)) (by simp[intKind,Value.isInt]) ?_))
  have hl:(fq (xs.take i)).length<64:=ara (ahO xs i) h64;refine Li (s:={s' with toks:=s'.toks+1}) (hx _ (aoE hlt)) hS' hl λb h' kJ kK=>?_
  rw[<-ahN hlt]at kK;refine anT ⟨plainId_quiet aq9 _,ih (i+1) _ (by omega) hlt (W.frame _ s' _ _ st' (aps _) λb hb o e=>?_) kK λs'' agA ahd=>?_⟩
  ·rw[kJ.2 b (λq:b=S=>hSf (q▸hb))];exact e
  ·refine hR s'' (Moved.trans W.gtrans ((hm.mono hup).then_heap (aps _) λb o hb e=>?_) agA) ahd
   rw[kJ.2 b (λq:b=S=>hb (q▸.head _))];exact e
def dR(w:ψ):Obj:={cls:=.type "set",dict:=η,data:=.set #[] 0 (.fresh 0 0 (!l7 w))}
def Hi(w:ψ){h:υ}{a:Ψ}(e:h.get? a=ζ (dR w)):dG w h a [] :=
 ⟨_,#[],0,_,e,⟨rfl,rfl,rfl⟩,rfl,UQ _,rfl,.refl _,λe he=>by cases he⟩
def Lg(a:Ξ){Q₁:Ξ->Ω->Prop}(h:Q₁ (.ref s.heap.objs.size) {s with heap:=s.heap.push (dR w)}) :
  codeAny (model prog w) A (.call (.builtin "set.__new__") ⟨[.type "set",a],[]⟩) (wants Q₁ E) s:=by
 refine arb (show wpAny _ A.in1 (do checkBuiltinCall "set.__new__" ⟨[.type "set",a],[]⟩;again (.builtin "set.__new__" ⟨[.type "set",a],[]⟩)) _ _ s from ?_)
 refine anS (wpAny_of_eq (PySem.F.newCall_set_1 a) (anT ⟨plainId_quiet ar6 _,apH PySem.F.entry_set_new ?_⟩));rw[aq8 ar6 _];unfold Builtin.«set.__new__» Builtin.Frozenset.newClass;have hsub:=aqn;obtain⟨hp,g,d,tk,os⟩:=s;dsimp only;wp_walk;refine apW (anT ?_);dsimp only;simp only[newObj];exact anS (wpAny_alloc (anT (anT h)))
set_option maxHeartbeats 3200000 in
def Wz{l:Ψ}{items:Array Ξ}{xs:List Nat}{Q:Ξ->Ω->Prop}(hh:A.handled=η)(hl:s.heap.IsList l items)(hi:agl items.toList (xs.map λn:Nat=>(n:Int)))(hx:∀x∈xs,x<128)(h64:(fq xs).length<64)
  (h:∀(h':υ) (tk:Nat),dG w h' s.heap.objs.size (fq xs)->(∀b o,b<s.heap.objs.size->s.heap.get? b=ζ o->h'.get? b=ζ o)->Q (.ref s.heap.objs.size) {s with heap:=h',toks:=tk}) :
  wpAny (model prog w) A (call (.type "set") [.ref l]) Q E s:=by
 obtain⟨c,tl,agx⟩:=aoF.mro;have hmade:=aoF.made;have hsub:=aoF.sub;refine apo (arb (show wpAny _ _ (callAny (.type "set") _) _ _ _ from ?_))
 refine anT ⟨aqZ _ (by decide +kernel),apH ar7 ?_⟩
 rw[Around.under_plain (ar8 "set" [.ref l] []) rfl];have h1:=aoF.notType;have h2:=aoF.canCreate;have hct:=ar9 (.ref l)
 repeat any_goals (first|assumption|wp_step)
 refine aoU (Lg (.ref l) (E:=E) (Q₁:=λobj s₁=>obj=.ref s.heap.objs.size/\s₁={s with heap:=s.heap.push (dR w)}) ⟨rfl,rfl⟩) λr s₁ hr=>?_
 cases r with
 |error e=>exact hr
 |ok fl =>
  cases fl with
  |ret obj =>
   obtain⟨rfl,rfl⟩:=hr;have hS:(s.heap.push (dR w)).get? s.heap.objs.size=ζ (dR w):=aoc _ rfl;have hT:agz {s with heap:=s.heap.push (dR w)} (.ref s.heap.objs.size) "set":=⟨_,hS,rfl⟩
   have hli:=aoF.init.lookup;have hbi:=aoF.init.bind (.ref s.heap.objs.size)
   repeat any_goals (first|assumption|wp_step)
   refine aoU (aqi (R:=wants (λr s₂=>r=.none/\∃h' tk,s₂={s with heap:=h',toks:=tk}/\dG w h' s.heap.objs.size (fq xs) /\
     (∀b o,b<s.heap.objs.size->s.heap.get? b=ζ o->h'.get? b=ζ o)) E) aoF.init.plain asa (check_set_init_1 hT ?_)) λr₂ s₂ qA=>?_
   ·obtain⟨ol,jb,hcl,nl,hdl⟩:=hl;obtain⟨ace,Dv,abp,Dr⟩:=ol;simp only at hcl hdl;subst hcl;subst hdl;have xM:(s.heap.push (dR w)).get? l=ζ {cls:=.type "list",dict:=Dv,data:=.seq items nl,slots:=Dr}:=anY _ jb;have age:=PySem.F.sub_list_set;have agf:=PySem.F.sub_list_frozenset;have hne:(Value.type "list"==Value.type "dict")=Δ:=by decide
    have hl1:(s.heap.push (dR w)).IsList l items:=⟨_,xM,rfl,nl,rfl⟩;unfold dR at hS hT xM ⊢;unfold Builtin.«set.__init__» noKeywords Builtin.Frozenset.updateFrom
    generalize F7:pyIter=PI
    wp_walk
    subst F7;refine ap2 hl1 (anS (wpAny_runValue ?_));have hlS:l<s.heap.objs.size:=anV jb;have hlen:items.size=xs.length:=by have:=hi.length;simpa using this
    have FP:l≠(s.heap.push (dR w)).objs.size:=by rw[aoy];exact an0 (apc hlS)
    have hSf:s.heap.objs.size∉[(s.heap.push (dR w)).objs.size,l]:=by
     rw[aoy];simp only[anW,aob,or_false,not_or];exact⟨an0 (apb _),aoK hlS⟩
    have W:=(Walks.list (prog:=prog) (w:=w) (A:=A.in1.in1.in1) (by simp[hh]) (s.heap.push (dR w)).objs.size l FP items).toS
    rw[hlen]at W;refine Lh (xs:=xs) W s.heap.objs.size hSf (λi v hi' hv=>?_) hx h64 xs.length 0 _ (by omega) (aoz _) ⟨⟨_,aoc _ rfl,rfl,rfl⟩,hl1.push _⟩ (Hi w (anY _ hS)) λs' hm hS'=>?_
    ·obtain⟨t,e⟩:=IntsAre.int_at hi i v (by rw[aqj];exact hv)
     exact⟨t,by rw[e];simp[aof,anZ hi']⟩
    ·obtain⟨h',g',d',tk',os'⟩:=s';cases(show g'=s.gens from hm.gens)
     cases(show d'=s.drawn from hm.drawn)
     cases(show os'=s.os from hm.os)
     refine anT (anT ⟨rfl,h',tk',rfl,hS',λb o hb e=>?_⟩)
     exact hm.heap b o (by rw[aoy];simp only[anW,aob,or_false,not_or];exact⟨an0 hb,an0 (apc hb)⟩) (anY _ (anY _ e))
   ·cases r₂ with
    |error e=>exact qA
    |ok Gk =>
     cases Gk with
     |ret r =>
      obtain⟨rfl,h',tk,rfl,hS',hk'⟩:=qA
      repeat any_goals (first|assumption|wp_step)
      exact h _ _ hS' hk'
     |_=>exact qA.elim
  |_=>exact hr.elim
end
def aip{α:Type}{l:List α}{i:Nat}(h:i<l.length):([l[i]]++l.eraseIdx i).Perm l:=by
 rw[List.eraseIdx_eq_take_drop_succ];have e:l=l.take i++l[i]::l.drop (i+1):=by rw[<-aqg h,aqm]
 conv=>rhs;rw[e]
 exact(asb (a:=l[i]) (l₁:=l.take i) (l₂:=l.drop (i+1))).symm
def LQ{α:Type}(next:Nat->Nat):∀(fuel k:Nat) (left:List α) (out:Array α),fuel=left.length->(pickOrder.go next fuel k left out).toList.Perm (out.toList++left)
 |0,k,left,out,h=>by
  have:left=[]:=arV.mp h.symm;subst this;unfold pickOrder.go;simp
 |fuel+1,k,left,out,h=>by
  unfold pickOrder.go;have hlt:next k % left.length<left.length:=arc _ (by omega)
  rw[anZ hlt];dsimp only;refine(LQ next fuel _ _ _ (by rw[List.length_eraseIdx_of_lt hlt];omega)).trans ?_
  rw[aq4,aop];exact(aip hlt).append_left _
def uc(w:ψ)(a:Ψ)(ep:Nat)(es:Array (Int×Ξ)):Array (Int×Ξ):=if l7 w then pickOrder (w.params.setOrder a ep) es else es
def aat(w:ψ)(a:Ψ)(ep:Nat)(es:Array (Int×Ξ)):(uc w a ep es).toList.Perm es.toList:=by
 unfold uc;split
 ·unfold pickOrder
  simpa using LQ (w.params.setOrder a ep) es.size 0 es.toList #[] (by simp)
 ·exact .rfl
def vO(w:ψ)(h:υ)(a:Ψ)(es:Array (Int×Ξ))(ep:Nat)(t:afI):Prop:=∃o,h.get? a=ζ o/\o.ExactSet/\o.data=.set es ep t/\o8 t es.size/\t.led = !l7 w
def vO.at{w:ψ}{h h':υ}{a:Ψ}{es:Array (Int×Ξ)}{ep:Nat}{t:afI}(x:vO w h a es ep t)(k:∀o,h.get? a=ζ o->h'.get? a=ζ o):vO w h' a es ep t:=let⟨o,ho,r⟩:=x;⟨o,k o ho,r⟩
end L2
namespace L2
open PySem PySem.Spec PyProof.Rows PySem.W
def oE(x:Nat):List Nat->List Nat
 |[]=>[x]
 |y::l=>if x<y then x::y::l else if x=y then y::l else y::oE x l
def gH:List Nat->List Nat
 |[]=>[]
 |x::l=>oE x (gH l)
def DN{x y:Nat}:∀{l:List Nat},y∈oE x l↔y=x\/y∈l
 |[]=>by simp[oE]
 |z::l=>by
  unfold oE;split
  ·simp
  ·split
   ·rename_i h;subst h;simp
   ·simp only[anW,DN (l:=l)]
    constructor
    ·rintro (h|h|h)<;>simp[h]
    ·rintro (h|h|h)<;>simp[h]
def Kv{x:Nat}:∀{l:List Nat},Up l->Up (oE x l)
 |[],_=>by simp[oE]
 |z::l,h=>by
  obtain⟨h1,h2⟩:=apJ.mp h;unfold oE;split
  ·rename_i hx;exact apJ.mpr ⟨λb hb=>by
    rcases anW.mp hb with rfl|hb
    ·exact hx
    ·exact aq1 hx (h1 b hb),h⟩
  ·split
   ·exact h
   ·refine apJ.mpr ⟨λb hb=>?_,Kv h2⟩
    rcases DN.mp hb with rfl|hb
    ·omega
    ·exact h1 b hb
def yQ:∀l:List Nat,Up (gH l)
 |[]=>.nil
 |x::l=>Kv (yQ l)
def zX{y:Nat}:∀{l:List Nat},y∈gH l↔y∈l
 |[]=>by simp[gH]
 |x::l=>by simp[gH,DN,zX (l:=l)]
def ND{ns:List Nat}{x y:Nat}:y∈gm ns x↔y∈ns\/y=x:=by
 unfold gm;split
 ·rename_i h;exact⟨.inl,λq=>q.elim id λe=>e▸h⟩
 ·simp
def MZ{ns:List Nat}{x:Nat}(h:ns.Nodup):(gm ns x).Nodup:=by
 unfold gm;split
 ·exact h
 ·rename_i hx;refine aqe.mpr ⟨h,by simp,λa ha b hb=>?_⟩
  rw[aoO]at hb;subst hb;exact λe=>hx (e▸ha)
def zZ:∀{xs ns:List Nat}{y:Nat},y∈xs.foldl gm ns↔y∈ns\/y∈xs
 |[],ns,y=>by simp
 |x::xs,ns,y=>by
  rw[apR,zZ,ND,anW,or_assoc]
def zU:∀{xs ns:List Nat},ns.Nodup->(xs.foldl gm ns).Nodup
 |[],_,h=>h
 |x::xs,_,h=>zU (xs:=xs) (MZ h)
def MY:∀{l:List Nat},Up l->l.Nodup:=fun{l} h=>h.imp fun{a b} h=>an0 h
def CW(xs:List Nat):(gH xs).length=(fq xs).length:=by
 have hp:(gH xs).Perm (fq xs):=by
  refine(asd (MY (yQ xs)) (zU .nil)).mpr λx=>?_
  rw[zX,zZ];simp
 exact hp.length_eq
def Kw{l:List Nat}(h:Up l):∀i,i<l.length->i<=l.getD i 0
 |0,_=>aoz _
 |i+1,hi=>by
  have a:=Kw h i (by omega)
  have b:=yR h (show i<i+1 by omega) hi
  omega
def Ku{l:List Nat}(h:Up l){m:Nat}(hm:∀x∈l,x<m):l.length<=m:=by
 rcases ase l.length with e|e
 ·omega
 ·have a:=Kw h (l.length-1) (by omega)
  have hi:l.length-1<l.length:=by omega
  have b:l.getD (l.length-1) 0<m:=hm _ (by rw[aof,anZ hi];exact aoE hi)
  omega
abbrev nV(ns:List Nat):List V:=ns.map λn:Nat=>V.int n
abbrev nD(ns:List Nat):List D:=ns.map λn:Nat=>D.int n
def nN(w:ψ)(a:Ψ)(ns:List Nat):υ->Prop:=λh=>dG w h a (fq ns)
def CG:∀{ns:List Nat}{us:List Ξ},Vals (nV ns) us->agl us (ns.map λn:Nat=>(n:Int))
 |[],_,.nil=>.nil
 |n::ns,_,.cons ⟨t,e⟩ r=>by subst e;exact .cons _ _ (CG r)
section
variable {X:Cx}
def XY(X:Cx):List V->Hp->VK->Prop:=λxs H Q=>∃a ns,xs=[.ref a]/\bY X.K H a (nV ns)/\(gH ns).length<64/\(∀x∈ns,x<128)/\∀p,H p=η->Q (.ref p) (upd H p (.ext (nN X.w p ns)))
def ajO(hc:X.calm=θ:=by rfl):eH X (.type "set") (XY X):=by
 intro pins s σ H xs us Q I rv h;obtain⟨a,ns,rfl,sq,hb,hx,q⟩:=h;obtain⟨u,rfl,ru⟩:=vals1 rv;cases ru;obtain⟨its,ri,pl,hz⟩:=I.list sq;refine Wz (xs:=ns) (I.ok.hd hc) pl.isList (by simpa using CG ri) hx (by rw[<-CW];exact hb) λh' tk hS kp=>?_
 have hf:H s.heap.objs.size=η:=I.hok.fresh (anU _);have kK:=hS;obtain⟨o,es,ep,t,ho,_⟩:=kK;refine⟨.ref s.heap.objs.size,upd H s.heap.objs.size (.ext (nN X.w s.heap.objs.size ns)),I.laid (t':=tk) (λb u e=>kp b u (anV e) e) (anU _) ?_,rfl,q _ hf⟩
 exact⟨hS,⟨o,ho⟩,λh1 h2 x k=>x.at k⟩
def uh(l:List D):Option (List Nat):=match kH l with
 |some ns=>if ns.all (λn=>decide (0<=n/\n<128))=θ/\(gH (ns.map Int.toNat)).length<64 then ζ (ns.map Int.toNat)else η
 |none=>η
def Np{l:List D}{ns:List Nat}(h:uh l=ζ ns):l=nD ns/\(gH ns).length<64/\∀x∈ns,x<128:=by
 unfold uh at h;split at h
 ·rename_i zs hz;split at h
  ·rename_i hc;cases h;refine⟨?_,hc.2,λx hx=>?_⟩
   ·rw[FD hz];unfold nD;rw[aos];refine aoI λz hq=>?_
    have:=of_decide_eq_true (aoo.mp hc.1 z hq);show D.int z=D.int (z.toNat:Int)
    congr 1;omega
   ·obtain⟨z,hq,rfl⟩:=aoa.mp hx;have:=of_decide_eq_true (aoo.mp hc.1 z hq);omega
  ·cases h
 ·cases h
def adm{ns:List Nat}(h:(gH ns).length<64)(hx:∀x∈ns,x<128):uh (nD ns)=ζ ns:=by
 unfold uh;have e:nD ns=(ns.map λn:Nat=>(n:Int)).map D.int:=by simp[nD]
 rw[e,afP];dsimp only;have e:(ns.map λn:Nat=>(n:Int)).map Int.toNat=ns:=by
  rw[aos];have:(Int.toNat ∘ λn:Nat=>(n:Int))=id:=by funext n;simp
  rw[this,ard]
 rw[e,if_pos ⟨aoo.mpr λz hz=>by
  obtain⟨n,hn,rfl⟩:=aoa.mp hz;have:=hx n hn;exact decide_eq_true (by omega),h⟩]
def LD{K:Θ}{ρ:List Ψ}{H:Hp}{ns:List Nat}{xs:List V}(h:aK K ρ H (nD ns) xs):xs=nV ns:=by
 have e:nD ns=(ns.map λn:Nat=>(n:Int)).map D.int:=by simp[nD]
 rw[e]at h;rw[aK.FA h];simp[nV]
def xh(ns:List Nat):bI (nD ns)=θ:=by
 have e:nD ns=(ns.map λn:Nat=>(n:Int)).map D.int:=by simp[nD]
 rw[e];exact ac7
end
section
variable {prog:τ}{w:ψ}{A:χ}{E:Ξ->Ω->Prop}{s:Ω}
def WA{a:Ψ}{ns:List Nat}{m:Nat}{tk:Tok}{Q:Option Nat->Ω->Prop}(hm:m<128)(hS:dG w s.heap a ns)(hn:ns.length<64)
  (h:∀r:Option Nat,r.isSome=decide (m∈ns)->Q r s):wpAny (model prog w) A (setFind a (.int m tk) (m:Int)) Q E s:=by
 obtain⟨o,es,ep,t,ho,hex,hd,hI,hl,hs⟩:=hS;have hsz:es.size=ns.length:=by rw[<-aoS];exact hs.len
 have hS':s.heap.SetOf (intKind prog w) a (λk=>es.toList.any λe=>(intKind prog w).is k e.2) es.size:=⟨o,es,ep,t,ho,hex,hd,hs.els,λk=>by rw[apT],by unfold scanBound;omega,hI.fits,rfl⟩
 have hkey:(intKind prog w).is (m:Int) (.int m tk)=θ:=by simp[intKind,Value.isInt]
 have:=wpAny_setFind_of (A:=A) (E:=E) (Q:=Q) hkey rfl hS' λr hr=>h r (by
  rw[hr,ao8,apT,decide_eq_true_eq,hs.mem m]
  constructor
  ·rintro ⟨e,he,q⟩
   obtain⟨n,tk',rfl,_⟩:=hs.2 e he;obtain⟨t',q⟩:=apL (show Value.isInt (m:Int) (.int (n:Int) tk')=θ from q)
   exact⟨_,he,by injection q⟩
  ·rintro ⟨e,he,q⟩
   obtain⟨n,tk',rfl,_⟩:=hs.2 e he;have e:n=m:=by dsimp only at q;omega
   subst e;exact⟨_,he,by simp[intKind,Value.isInt]⟩)
 have e:(intKind prog w).hash (m:Int)=(m:Int):=Ak hm
 rwa[e]at this
def Tv{a r:Ψ}{others:List Ψ}{es:Array (Int×Ξ)}{ep:Nat}{t:afI}{Q:Array (Int×Ξ)->Ω->Prop}(hS:vO w s.heap a es ep t)(h:Q (uc w a ep es) s):wpAny (model prog w) A (setWalkUnseen a others (ζ r)) Q E s:=by
 obtain⟨o,ho,hex,hd,hI,hl⟩:=hS;have key:wpAny (model prog w) A (setWalk a) Q E s:=by
  unfold setWalk;refine anS (aq5 ho hd hI.fits ?_);dsimp only;refine anS ?_;unfold setsByText;refine anS (apW (anT ?_));show wpAny _ _ (if l7 w=θ then _ else _) _ _ _
  unfold uc at h;cases hb:l7 w with
  |true =>
   rw[hb]at h;simp only[if_true]at h ⊢;exact anS (apW (anT h))
  |false =>
   rw[hb]at h hl;simp only[aoX,if_false]at h ⊢;show wpAny _ _ (if(!t.plain&&decide (es.size>1))=θ then _ else _) _ _ _
   rw[hI.plain];simp only[aqo,Bool.false_and,aoX,if_false];refine anS (wpAny_of_eq (a:=()) ?_ (anT h));show(if(!t.led&&decide (es.size>1))=θ then _ else _)=_
   rw[hl];rfl
 unfold setWalkUnseen;refine anS (aq5 ho hd hI.fits ?_);dsimp only;refine anS ?_;unfold setsByText;refine anS (apW (anT ?_));show wpAny _ _ (if(l7 w||(t.led&&t.plain)||decide (es.size<=1))=θ then _ else _) _ _ _
 have e:(l7 w||(t.led&&t.plain)||decide (es.size<=1))=θ:=by rw[hl,hI.plain];cases l7 w<;>simp
 rw[if_pos e]
 first|exact key|exact anS key
def DH:∀{l m:List Nat},l.Nodup->(∀x∈l,x∈m)->l.length<=m.length
 |[],m,_,_=>aoz _
 |x::l,m,h,hs=>by
  obtain⟨h1,h2⟩:=ao9.mp h;have hx:=hs x (.head _);have:=DH (m:=m.erase x) h2 λy hy=>(arZ (λe:y=x=>h1 (by rw[<-e];exact hy))).mpr (hs y (.tail _ hy))
  rw[ar0 hx]at this;have:=ar1 hx;rw[an4];omega
def akL{asked walked r:Ψ}{ns ms:List Nat}{es:Array (Int×Ξ)}{ep:Nat}{t:afI}{Q:Unit->Ω->Prop}(id:String)(hra:asked≠r)(hrw:walked≠r)(ha:dG w s.heap asked ns)(hw:vO w s.heap walked es ep t)(hs:gU es.toList ms)(hr:dG w s.heap r [])(hn:ns.length<64)
  (h:∀(h':υ) (rs:List Nat),dG w h' r rs->rs.Nodup->(∀x,x∈rs↔x∈ns/\x∈ms)->(∀b o,b≠r->s.heap.get? b=ζ o->h'.get? b=ζ o)->Q () {s with heap:=h'}) :
  wpAny (model prog w) A (forIn (uc w walked ep es) PUnit.unit fun(p:Int×Ξ) (_:PUnit)=>do
   holding [p.2] (do if(<-setFind asked p.2 p.1).isSome=θ then(do let _ <-setAddHashed r p.2 p.1;pure PUnit.unit)else pure PUnit.unit)
   Builtin.Frozenset.unchanged id walked ep
   pure (ForInStep.yield PUnit.unit)) Q E s:=by
 have hp:=aat w walked ep es;refine PySem.MeetsSeq2.wpAny_forIn_array _ (λrest _ s'=>∃(h':υ) (rs:List Nat) (done:List (Int×Ξ)),s'={s with heap:=h'}/\(uc w walked ep es).toList=done++rest/\dG w h' r rs/\rs.Nodup/\(∀x:Nat,x∈rs↔x∈ns/\∃e∈done,e.1=(x:Int))/\(∀b o,b≠r->s.heap.get? b=ζ o->h'.get? b=ζ o)) _ ?_ ?_ _ _
  ⟨s.heap,[],[],rfl,rfl,hr,.nil,λx=>by simp,λ_ _ _ e=>e⟩
 ·rintro ⟨hx,x⟩ rest u s' ⟨h',rs,done,rfl,hl,hR,hnd,hmem,hk⟩
  have hin:(hx,x)∈es.toList:=hp.mem_iff.mp (by rw[hl];simp)
  obtain⟨n,tk,e,FQ⟩:=hs.2 _ hin;cases e;have ha':dG w h' asked ns:=ha.at λo e=>hk asked o hra e
  have hw':vO w h' walked es ep t:=hw.at λo e=>hk walked o hrw e
  have hrl:rs.length<64:=ara (DH hnd λx hx=>((hmem x).mp hx).1) hn
  have tail:∀(Q':ForInStep PUnit->Ω->Prop) (h2:υ),(∀b o,b≠r->s.heap.get? b=ζ o->h2.get? b=ζ o)->Q' (.yield PUnit.unit) {s with heap:=h2} ->
    wpAny (model prog w) A (Builtin.Frozenset.unchanged id walked ep >>= λ_=>pure (ForInStep.yield PUnit.unit)) Q' E {s with heap:=h2}:=by
   intro Q' h2 q4 q;obtain⟨o,ho,_,hd,hI,_⟩:=hw.at λo e=>q4 walked o hrw e
   unfold Builtin.Frozenset.unchanged;refine anS (anS (wpAny_setEpoch_of ho hd hI.fits ?_));rw[if_neg (by simp)]
   exact anT (anT q)
  dsimp only;refine anS (ao1 (anS (WA (s:={s with heap:=h'}) FQ ha' hn λres hres=>?_)))
  by_cases hq:n∈ns
  ·have FJ:res.isSome=θ:=by rw[hres];exact decide_eq_true hq
   rw[if_pos FJ];have hh:hashInt (n:Int)=n:=Ak FQ;have key:=Li (prog:=prog) (A:=A) (E:=E) (s:={s with heap:=h'}) (tk:=tk) (Q:=λ_ s'=>∃h2,s'={s with heap:=h2}/\dG w h2 r (gm rs n)/\∀b o,b≠r->s.heap.get? b=ζ o->h2.get? b=ζ o) FQ hR hrl
    λbb h2 kJ kK=>⟨h2,rfl,kK,λb o hb e=>by rw[kJ.2 b hb];exact hk b o hb e⟩
   rw[hh]at key;refine anS (aoe key (λbb s2 q=>?_) λ_ _ q=>q)
   obtain⟨h2,rfl,kK,hk2⟩:=q;refine anT (tail _ h2 hk2 ⟨h2,gm rs n,done++[((n:Int),Value.int n tk)],rfl,by rw[hl];simp,kK,MZ hnd,λx=>?_,hk2⟩)
   rw[ND,hmem x]
   constructor
   ·rintro (⟨a1,e,he,q⟩|rfl)
    ·exact⟨a1,e,by simp[he],q⟩
    ·exact⟨hq,((x:Int),Value.int x tk),by simp,rfl⟩
   ·rintro ⟨a1,e,he,q⟩
    rcases aou.mp he with he|he
    ·exact .inl ⟨a1,e,he,q⟩
    ·rw[aoO]at he;subst he
     right
     dsimp only at q;omega
  ·have FJ:¬(res.isSome=θ):=by rw[hres];simpa using hq
   rw[if_neg FJ];refine anT (tail _ h' hk ⟨h',rs,done++[((n:Int),Value.int n tk)],rfl,by rw[hl];simp,hR,hnd,λx=>?_,hk⟩)
   rw[hmem x]
   constructor
   ·rintro ⟨a1,e,he,q⟩
    exact⟨a1,e,by simp[he],q⟩
   ·rintro ⟨a1,e,he,q⟩
    rcases aou.mp he with he|he
    ·exact⟨a1,e,he,q⟩
    ·rw[aoO]at he;subst he;have e2:x=n:=by dsimp only at q;omega
     exact absurd (e2▸a1) hq
 ·rintro u s' ⟨h',rs,done,rfl,hl,hR,hnd,hmem,hk⟩
  rw[aoM]at hl;refine h h' rs hR hnd (λx=>?_) hk
  rw[hmem x,hs.mem x,<-hl]
  constructor
  ·rintro ⟨a1,e,he,q⟩;exact⟨a1,e,hp.mem_iff.mp he,q⟩
  ·rintro ⟨a1,e,he,q⟩;exact⟨a1,e,hp.mem_iff.mpr he,q⟩
def akM(id:String){a b:Ψ}{ns ms:List Nat}{Q:Ξ->Ω->Prop}(hne:(Value.ref b==Value.ref a)=Δ)(ha:dG w s.heap a ns)(hb:dG w s.heap b ms)(hn:ns.length<64)(hm:ms.length<64)(hnd:ns.Nodup)(hmd:ms.Nodup)
  (h:∀(h':υ) (rs:List Nat),dG w h' s.heap.objs.size rs->rs.Nodup->(∀x,x∈rs↔x∈ns/\x∈ms)->(∀b o,s.heap.get? b=ζ o->h'.get? b=ζ o)->Q (.ref s.heap.objs.size) {s with heap:=h'}) :
  wpAny (model prog w) A (Builtin.Frozenset.intersection id a (.ref b)) Q E s:=by
 have hTa:s.TypeIs (.ref a) "set":=by obtain⟨o,_,_,_,ho,hx,_⟩:=ha;exact⟨o,ho,hx.1⟩
 have hTb:s.TypeIs (.ref b) "set":=by obtain⟨o,_,_,_,ho,hx,_⟩:=hb;exact⟨o,ho,hx.1⟩
 unfold Builtin.Frozenset.intersection;rw[if_neg (by rw[hne];exact aoi)]
 refine anS ?_;unfold Builtin.Frozenset.baseOf;refine anS (apS hTa aqn (anT ?_));simp only[if_true];refine anS ?_;unfold newSet setsByText;refine anS (anS (apW (anT ?_)));dsimp only;simp only[newObj];refine anS (wpAny_alloc (anT ?_));show wpAny _ _ (Builtin.Frozenset.addrOf (.ref s.heap.objs.size) >>= _) _ _ {s with heap:=s.heap.push (dR w)}
 refine anS (anT ?_);have ahb:agz {s with heap:=s.heap.push (dR w)} (.ref b) "set":=by obtain⟨o,_,_,_,ho,hx,_⟩:=hb;exact⟨o,anY _ ho,hx.1⟩
 refine anS (ao1 (anS ?_));unfold Builtin.Frozenset.isAnySet;refine anS (apS (T:="set") (b:=θ) ahb aqn ?_);show wpAny _ _ (pure θ) _ _ _;refine anT ?_;rw[if_pos rfl];refine anS (anT ?_);have ha1:dG w (s.heap.push (dR w)) a ns:=ha.at λo e=>anY _ e
 have hb1:dG w (s.heap.push (dR w)) b ms:=hb.at λo e=>anY _ e
 have hr1:dG w (s.heap.push (dR w)) s.heap.objs.size []:=Hi w (aoc _ rfl);have OR:a≠s.heap.objs.size:=by obtain⟨o,_,_,_,ho,_⟩:=ha;exact an0 (anV ho)
 have OO:b≠s.heap.objs.size:=by obtain⟨o,_,_,_,ho,_⟩:=hb;exact an0 (anV ho)
 have go:∀(asked walked:Ψ) (ns' ms':List Nat),asked≠s.heap.objs.size->walked≠s.heap.objs.size->dG w (s.heap.push (dR w)) asked ns'->dG w (s.heap.push (dR w)) walked ms'->ns'.length<64->(∀x,(x∈ns'/\x∈ms')↔(x∈ns/\x∈ms)) ->
   wpAny (model prog w) A (do
    let was <-setEpoch walked
    let arr <-setWalkUnseen walked [asked,s.heap.objs.size] (ζ s.heap.objs.size)
    forIn arr PUnit.unit fun(p:Int×Ξ) (_:PUnit)=>do
     holding [p.2] (do if(<-setFind asked p.2 p.1).isSome=θ then(do let _ <-setAddHashed s.heap.objs.size p.2 p.1;pure PUnit.unit)else pure PUnit.unit)
     Builtin.Frozenset.unchanged id walked was
     pure (ForInStep.yield PUnit.unit)
    pure ()) (λ_ s'=>wpAny (model prog w) A (pure (Value.ref s.heap.objs.size)) Q E s') E {s with heap:=s.heap.push (dR w)}:=by
  intro asked walked ns' ms' n1 n2 h1 h2 hl hmm;obtain⟨o,es,ep,t,ho,hex,hd,hI,OE,hs⟩:=h2;refine anS (wpAny_setEpoch_of ho hd hI.fits ?_);refine anS (Tv (es:=es) (ep:=ep) (t:=t) ⟨o,ho,hex,hd,hI,OE⟩ ?_);refine anS (akL (s:={s with heap:=s.heap.push (dR w)}) id n1 n2 h1 ⟨o,ho,hex,hd,hI,OE⟩ hs hr1 hl λh' rs q1 q2 q3 q4=>?_)
  refine anT (anT (h h' rs q1 q2 (λx=>(q3 x).trans (hmm x)) λb' o' e=>q4 b' o' (an0 (anV e)) (anY _ e)))
 obtain⟨oa,esa,epa,ta,hoa,_,hda,hIa,_,_⟩:=_root_.id ha1;obtain⟨ob,esb,epb,tb,hob,_,hdb,hIb,_,_⟩:=_root_.id hb1;unfold Builtin.Frozenset.sizeOf;refine anS (anS (wpAny_setEntries_of hob hdb hIb.fits (anT ?_)));refine anS (anS (wpAny_setEntries_of hoa hda hIa.fits (anT ?_)))
 by_cases hsz:esb.size>esa.size
 ·simp only[if_pos hsz];exact go b a ms ns OO OR hb1 ha1 hm λx=>⟨fun⟨u,v⟩=>⟨v,u⟩,fun⟨u,v⟩=>⟨v,u⟩⟩
 ·simp only[if_neg hsz];exact go a b ns ms OR OO ha1 hb1 hn λx=>Iff.rfl
def Vr:entryFor table "set.__and__"=ζ Builtin.«frozenset.__and__» :=
 entryFor_alias (id':="frozenset.__and__") (by kernel_rfl) rfl (by decide +kernel) (by kernel_rfl)
def RB{v:Ξ}{Q:Bool->Ω->Prop}(hT:s.TypeIs v "set")(h:Q θ s):wpAny (model prog w) A (Builtin.Frozenset.isAnySet v) Q E s:=by
 unfold Builtin.Frozenset.isAnySet;refine anS (apS (T:="set") (b:=θ) hT aqn ?_);exact anT h
def WB{a b:Ψ}{ns ms:List Nat}{Q:Ξ->Ω->Prop}(hab:a≠b)(ha:dG w s.heap a ns)(hb:dG w s.heap b ms)(hn:ns.length<64)(hm:ms.length<64)(hnd:ns.Nodup)(hmd:ms.Nodup)
  (h:∀(h':υ) (rs:List Nat),dG w h' s.heap.objs.size rs->rs.Nodup->(∀x,x∈rs↔x∈ns/\x∈ms)->(∀b o,s.heap.get? b=ζ o->h'.get? b=ζ o)->Q (.ref s.heap.objs.size) {s with heap:=h'}) :
  wpAny (model prog w) A (binaryOp .BitAnd (.ref a) (.ref b)) Q E s:=by
 have hTa:s.TypeIs (.ref a) "set":=by obtain⟨o,_,_,_,ho,hx,_⟩:=ha;exact⟨o,ho,hx.1⟩
 have hTb:s.TypeIs (.ref b) "set":=by obtain⟨o,_,_,_,ho,hx,_⟩:=hb;exact⟨o,ho,hx.1⟩
 refine wpAny_binaryOp_same hTa hTb PySem.F.fills_set_and asf (apd asf hTa Vr ?_ (PySem.F.args_set_and_2 _ _));unfold Builtin.«frozenset.__and__»;show wpAny _ _ (Builtin.Frozenset.slot1 "__and__" ⟨[.ref a,.ref b],[]⟩ >>= _) _ _ _;refine anS (anS (anT (anT ?_)));dsimp only;simp only[aoX,if_false];refine anS (anS (RB hTa ?_));refine RB hTb ?_;simp only[aqo,aoX,if_false];refine anS (anT ?_);refine anS (akM _ (by simpa using aoD hab) ha hb hn hm hnd hmd λh' rs q1 q2 q3 q4=>?_)
 exact anT ⟨_,rfl,(λe=>by cases e),h h' rs q1 q2 q3 q4⟩
end
def sub_tuple_set:isSubtype (.type "tuple") (.type "set")=pure Δ:=by rw[isSubtype_type];kernel_rfl
def sub_tuple_frozenset:isSubtype (.type "tuple") (.type "frozenset")=pure Δ:=by rw[isSubtype_type];kernel_rfl
section
variable {prog:τ}{w:ψ}{A:χ}{s:Ω}{E:Ξ->Ω->Prop}
set_option maxHeartbeats 3200000 in
def Wy{l:Ψ}{items:Array Ξ}{xs:List Nat}{Q:Ξ->Ω->Prop}(hh:A.handled=η)(hl:s.heap.IsTuple l items)(hi:agl items.toList (xs.map λn:Nat=>(n:Int)))(hx:∀x∈xs,x<128)(h64:(fq xs).length<64)
  (h:∀(h':υ) (tk:Nat),dG w h' s.heap.objs.size (fq xs)->(∀b o,b<s.heap.objs.size->s.heap.get? b=ζ o->h'.get? b=ζ o)->Q (.ref s.heap.objs.size) {s with heap:=h',toks:=tk}) :
  wpAny (model prog w) A (call (.type "set") [.ref l]) Q E s:=by
 obtain⟨c,tl,agx⟩:=aoF.mro;have hmade:=aoF.made;have hsub:=aoF.sub;refine apo (arb (show wpAny _ _ (callAny (.type "set") _) _ _ _ from ?_))
 refine anT ⟨aqZ _ (by decide +kernel),apH ar7 ?_⟩
 rw[Around.under_plain (ar8 "set" [.ref l] []) rfl];have h1:=aoF.notType;have h2:=aoF.canCreate;have hct:=ar9 (.ref l)
 repeat any_goals (first|assumption|wp_step)
 refine aoU (Lg (.ref l) (E:=E) (Q₁:=λobj s₁=>obj=.ref s.heap.objs.size/\s₁={s with heap:=s.heap.push (dR w)}) ⟨rfl,rfl⟩) λr s₁ hr=>?_
 cases r with
 |error e=>exact hr
 |ok fl =>
  cases fl with
  |ret obj =>
   obtain⟨rfl,rfl⟩:=hr;have hS:(s.heap.push (dR w)).get? s.heap.objs.size=ζ (dR w):=aoc _ rfl;have hT:agz {s with heap:=s.heap.push (dR w)} (.ref s.heap.objs.size) "set":=⟨_,hS,rfl⟩
   have hli:=aoF.init.lookup;have hbi:=aoF.init.bind (.ref s.heap.objs.size)
   repeat any_goals (first|assumption|wp_step)
   refine aoU (aqi (R:=wants (λr s₂=>r=.none/\∃h' tk,s₂={s with heap:=h',toks:=tk}/\dG w h' s.heap.objs.size (fq xs) /\
     (∀b o,b<s.heap.objs.size->s.heap.get? b=ζ o->h'.get? b=ζ o)) E) aoF.init.plain asa (check_set_init_1 hT ?_)) λr₂ s₂ qA=>?_
   ·obtain⟨ol,jb,hcl,nl,hdl⟩:=hl;obtain⟨ace,Dv,abp,Dr⟩:=ol;simp only at hcl hdl;subst hcl;subst hdl;have xM:(s.heap.push (dR w)).get? l=ζ {cls:=.type "tuple",dict:=Dv,data:=.seq items nl,slots:=Dr}:=anY _ jb;have age:=sub_tuple_set;have agf:=sub_tuple_frozenset;have hne:(Value.type "tuple"==Value.type "dict")=Δ:=by decide
    have hl1:(s.heap.push (dR w)).IsTuple l items:=⟨_,xM,rfl,nl,rfl⟩;unfold dR at hS hT xM ⊢;unfold Builtin.«set.__init__» noKeywords Builtin.Frozenset.updateFrom
    generalize F7:pyIter=PI
    wp_walk
    subst F7;refine apn hl1 (anS (wpAny_runValue ?_));have hlS:l<s.heap.objs.size:=anV jb;have hlen:items.size=xs.length:=by have:=hi.length;simpa using this
    have FP:l≠(s.heap.push (dR w)).objs.size:=by rw[aoy];exact an0 (apc hlS)
    have hSf:s.heap.objs.size∉[(s.heap.push (dR w)).objs.size,l]:=by
     rw[aoy];simp only[anW,aob,or_false,not_or];exact⟨an0 (apb _),aoK hlS⟩
    have W:=(Walks.tuple (prog:=prog) (w:=w) (A:=A.in1.in1.in1) (by simp[hh]) (s.heap.push (dR w)).objs.size l FP items).toS
    rw[hlen]at W;refine Lh (xs:=xs) W s.heap.objs.size hSf (λi v hi' hv=>?_) hx h64 xs.length 0 _ (by omega) (aoz _) ⟨⟨_,aoc _ rfl,rfl,rfl⟩,hl1.at λo e=>anY _ e⟩ (Hi w (anY _ hS)) λs' hm hS'=>?_
    ·obtain⟨t,e⟩:=IntsAre.int_at hi i v (by rw[aqj];exact hv)
     exact⟨t,by rw[e];simp[aof,anZ hi']⟩
    ·obtain⟨h',g',d',tk',os'⟩:=s';cases(show g'=s.gens from hm.gens)
     cases(show d'=s.drawn from hm.drawn)
     cases(show os'=s.os from hm.os)
     refine anT (anT ⟨rfl,h',tk',rfl,hS',λb o hb e=>?_⟩)
     exact hm.heap b o (by rw[aoy];simp only[anW,aob,or_false,not_or];exact⟨an0 hb,an0 (apc hb)⟩) (anY _ (anY _ e))
   ·cases r₂ with
    |error e=>exact qA
    |ok Gk =>
     cases Gk with
     |ret r =>
      obtain⟨rfl,h',tk,rfl,hS',hk'⟩:=qA
      repeat any_goals (first|assumption|wp_step)
      exact h _ _ hS' hk'
     |_=>exact qA.elim
  |_=>exact hr.elim
end
def C3(w:ψ)(a:Ψ)(rs:List Nat):υ->Prop:=λh=>dG w h a rs
def l8(ns ms:List Nat):Nat:=((gH ns).filter λx=>decide (x∈ms)).length
def Rn{ns ms rs:List Nat}(hn:rs.Nodup)(h:∀x,x∈rs↔x∈ns/\x∈ms):rs.length=l8 ns ms:=by
 have hp:rs.Perm ((gH ns).filter λx=>decide (x∈ms)):=by
  refine(asd hn ((MY (yQ ns)).filter _)).mpr λx=>?_
  rw[h x,aoQ,zX,decide_eq_true_eq]
 exact hp.length_eq
section
variable {X:Cx}
def X0(X:Cx):List V->Hp->VK->Prop:=λxs H Q=>∃a ns,xs=[.ref a]/\(bY X.K H a (nV ns)\/cg X.K H a (nV ns))/\(gH ns).length<64/\(∀x∈ns,x<128)/\∀p,H p=η->Q (.ref p) (upd H p (.ext (nN X.w p ns)))
def Qj(hc:X.calm=θ:=by rfl):eH X (.type "set") (X0 X):=by
 intro pins s σ H xs us Q I rv h;obtain⟨a,ns,rfl,sq,hb,hx,q⟩:=h
 rcases sq with sq|sq
 ·exact ajO hc pins s σ H _ us Q I rv ⟨a,ns,rfl,sq,hb,hx,q⟩
 ·obtain⟨u,rfl,ru⟩:=vals1 rv;cases ru;obtain⟨its,ri,pl,hz⟩:=I.tuple sq;refine Wy (xs:=ns) (I.ok.hd hc) (show s.heap.IsTuple a its.toArray from pl) (by simpa using CG ri) hx (by rw[<-CW];exact hb) λh' tk hS kp=>?_
  have hf:H s.heap.objs.size=η:=I.hok.fresh (anU _);have kK:=hS;obtain⟨o,es,ep,t,ho,_⟩:=kK;refine⟨.ref s.heap.objs.size,upd H s.heap.objs.size (.ext (nN X.w s.heap.objs.size ns)),I.laid (t':=tk) (λb u e=>kp b u (anV e) e) (anU _) ?_,rfl,q _ hf⟩
  exact⟨hS,⟨o,ho⟩,λh1 h2 x k=>x.at k⟩
def Yo(X:Cx):R2:=λx y H Q=>∃a b ns ms,x=.ref a/\y=.ref b/\a≠b/\H a=ζ (.ext (nN X.w a ns))/\H b=ζ (.ext (nN X.w b ms))/\(gH ns).length<64/\(gH ms).length<64 /\
 ∀p rs,H p=η->rs.length=l8 ns ms->rs.length<64->Q (.ref p) (upd H p (.ext (C3 X.w p rs)))
def aaN:bS X (binaryOp .BitAnd) (Yo X):=by
 intro pins s σ H x y v u Q I rx ry h;obtain⟨a,b,ns,ms,rfl,rfl,hab,ha,hb,h1,h2,q⟩:=h;cases rx;cases ry;obtain⟨hA,_,_⟩:=I.hok a _ ha;obtain⟨hB,_,_⟩:=I.hok b _ hb;rw[CW]at h1 h2;refine WB hab hA hB h1 h2 (zU .nil) (zU .nil) λh' rs q1 q2 q3 q4=>?_
 have hmem:∀x,x∈rs↔x∈ns/\x∈ms:=λx=>by
  rw[q3 x];unfold fq;rw[zZ,zZ];simp
 have hf:H s.heap.objs.size=η:=I.hok.fresh (anU _);have hl:rs.length<64:=ara (DH q2 λx hx=>((q3 x).mp hx).1) h1
 have Yp:=q1;obtain⟨o,es,ep,t,ho,_⟩:=Yp;refine⟨.ref s.heap.objs.size,upd H s.heap.objs.size (.ext (C3 X.w s.heap.objs.size rs)),I.laid (t':=s.toks) q4 (anU _) ⟨q1,⟨o,ho⟩,λh1 h2 x k=>x.at k⟩,rfl,q _ rs hf (Rn q2 hmem) hl⟩
def Yc(X:Cx):List V->Hp->VK->Prop:=λxs H Q=>∃a rs,xs=[.ref a]/\H a=ζ (.ext (C3 X.w a rs))/\rs.length<64/\Q (.int (rs.length:Nat)) H
def ajP:eH X (.builtin "len") (Yc X):=by
 intro pins s σ H xs us Q I rv h;obtain⟨a,rs,rfl,hH,hn,q⟩:=h;obtain⟨u,rfl,ru⟩:=vals1 rv;cases ru;obtain⟨hS,_,_⟩:=I.hok a _ hH;obtain⟨o,es,ep,t,ho,hex,hd,hI,hl,hs⟩:=hS;have he:es.size=rs.length:=by rw[<-aoS];exact hs.len
 refine call_len_set ho hex hd hI.fits (by rw[he];omega) ⟨.int (rs.length:Nat),H,I.tok _,⟨_,by rw[he]⟩,q⟩
def lE(c:aa):D->Option (List Nat)
 |.tup l=>uh l
 |x=>match d7 c x with
  |some l=>uh l
  |none=>η
def Nq{K:Θ}{ρ:List Ψ}{H:Hp}{c:aa}{x:D}{v:V}{ns:List Nat}(W:Wd K ρ H c)(r:Rel K ρ H x v)(h:lE c x=ζ ns):∃a,v=.ref a/\(bY K H a (nV ns)\/cg K H a (nV ns))/\(gH ns).length<64/\∀x∈ns,x<128:=by
 unfold lE at h;split at h
 ·obtain⟨rfl,h64,hx⟩:=Np h;obtain⟨a,xs,rfl,ha,rl⟩:=r;cases LD rl;exact⟨a,rfl,.inr (cg.of ha),h64,hx⟩
 ·split at h
  ·rename_i l hl;obtain⟨rfl,h64,hx⟩:=Np h;obtain⟨a,ys,rfl,ha,rl⟩:=uy W r hl;cases LD rl;exact⟨a,rfl,.inl (bY.of ha),h64,hx⟩
  ·cases h
def uP(a b:aj):af:=λe c=>(a e c).bind λxs c=>match xs with
 |[x]=>match lE c x with
  |some ns=>(b e c).bind λys c=>match ys with
   |[y]=>match lE c y with
    |some ms=>.ok (.int (l8 ns ms:Nat)) c
    |none=>.bad
   |_=>.bad
  |none=>.bad
 |_=>.bad
def aae{a b:π}{da db:aj}{p0 p1 p2 q0 q1 q2 q3:Pos}(ha:gE X [a] da)(hb:gE X [b] db)(hm:X.mg "len"=η)(hm2:X.mg "set"=η)(hg:Gl X "len":=by rfl)(Ai:Gl X "set":=by rfl)(hc:X.calm=θ:=by rfl)
  (he:μ [a] X.env=(Δ,eval a X.env)::μ [] X.env:=by exact c7 rfl) (F0:μ [b] X.env=(Δ,eval b X.env)::μ [] X.env:=by exact c7 rfl) :
  bg X (.Call (.Name "len" p0) [.BinOp (.Call (.Name "set" p1) [a] [] q1) .BitAnd (.Call (.Name "set" p2) [b] [] q2) q3] [] q0) (uP da db):=by
 have h1:PE X (.Call (.Name "set" p1) [a] [] q1) _:=Dl (Qj hc) Ai hm2 (by decide +kernel) ha (by decide) (by decide) he (by exact gW rfl)
 have h2:PE X (.Call (.Name "set" p2) [b] [] q2) _:=Dl (Qj hc) Ai hm2 (by decide +kernel) hb (by decide) (by decide) F0 (by exact gW rfl)
 have h3:PE X (.BinOp (.Call (.Name "set" p1) [a] [] q1) .BitAnd (.Call (.Name "set" p2) [b] [] q2) q3) _:=LU aaN h1 h2;refine(LZ ajP hg hm (by decide +kernel) (ju h3 kr (c7 rfl)) (by decide) (by decide) (by exact c7 rfl) (by exact gW rfl)).imp λσ H Q h=>?_
 obtain⟨ρ,e,c,W,V,p⟩:=h;refine⟨ρ,e,c,W,V,post.bind p λxs c1 aI H1 vs ex W1 X1 r1 p1=>?_⟩
 clear ex;split at p1
 ·rename_i x;obtain⟨v,r,rfl,hx,hr⟩:=r1;cases hr;split at p1
  ·rename_i ns hn;obtain⟨ad,rfl,sq,h64,hx'⟩:=Nq W1 hx hn;refine⟨ad,ns,rfl,sq,h64,hx',λpa hpa=>?_⟩
   refine⟨aI,e,c1,W1.fresh hpa,(V.mono W X1).mono W1 (Ext.fresh W1 hpa),post.bind (post.ext p1 (Ext.fresh W1 hpa)) λys c2 cE H2 vs2 ex2 W2 X2 r2 p2=>?_⟩
   clear ex2;split at p2
   ·rename_i y;obtain⟨v2,r',rfl,hy,hr'⟩:=r2;cases hr';split at p2
    ·rename_i ms hm';obtain⟨bd,rfl,VH,OZ,hy'⟩:=Nq W2 hy hm';refine⟨bd,ms,rfl,VH,OZ,hy',λpb FN=>?_⟩
     have agm:pa∉aI:=W1.nil hpa;have F9:H2 pa=ζ (.ext (nN X.w pa ns)):=(X2.keep pa _ fM agm rfl).1;have hne:pa≠pb:=λz=>by rw[z,FN]at F9;cases F9
     refine⟨pa,pb,ns,ms,rfl,rfl,hne,by rw[bD hne];exact F9,fM,h64,OZ,λpr rs Ow hl agE=>?_⟩
     refine⟨pr,rs,rfl,fM,agE,?_⟩;rw[hl];have W3:=W2.fresh (o:=.ext (nN X.w pb ms)) FN;exact p2 cE _ _ (W3.fresh Ow) ((Ext.fresh W2 FN).trans (Ext.fresh W3 Ow)) rfl
    ·exact p2.elim
   ·exact p2.elim
  ·exact p1.elim
 ·exact p1.elim
end
@[simp] theorem al6(a b:aj)(e:Ev)(c:aa):uP a b e c=(a e c).bind λxs c=>match xs with
 |[x]=>match lE c x with
  |some ns=>(b e c).bind λys c=>match ys with
   |[y]=>match lE c y with
    |some ms=>.ok (.int (l8 ns ms:Nat)) c
    |none=>.bad
   |_=>.bad
  |none=>.bad
 |_=>.bad:=rfl
def Vx{a b:π}{env:Env}{pos:Pos}(h:isStar a=Δ)(g:isStar b=Δ):((abE pos (μ [a,b] env)).all (λx=>!x.1)&&(af9 pos (ada [] env)).all (λx=>x.1.isSome)
   && decide ([a,b].length+([]:List adk).length+(if([]:List adk).isEmpty then 0 else 1)<30))=θ:=by
 rw[CT h g];simp[abE,af9,ada]
section
variable {X:Cx}
def Yg:V->List V->Hp->VK->Prop:=λx vs H Q=>∃l xs y,∃i:Int,x=.ref l/\vs=[.int i,y]/\H l=ζ (.lst xs)/\(0<=i/\i<=xs.length)/\xs.length<ε/\Q .aF (upd H l (.lst (xs.take i.toNat++y::xs.drop i.toNat)))
def ad8:yr X "list.insert" Yg:=by
 intro pins s σ H x vs v us Q I rx rv h;obtain⟨l,xs,y,i,rfl,rfl,hH,hi,hz,q⟩:=h;cases rx;cases rv with
 |cons r0 rr =>
  cases rr with
  |cons ru rr =>
   cases rr;obtain⟨t,rfl⟩:=r0;rename_i u;obtain⟨z,its,n,r,hl,e⟩:=I.lM hH;have hsl:ε<2^62:=by decide
   have hfit:¬(!Builtin.List.listFitsIndex i)=θ:=by
    have:Builtin.List.listFitsIndex i=θ:=by
     unfold Builtin.List.listFitsIndex;simp only[aoj,decide_eq_true_eq];omega
    rw[this];decide
   refine apa F.slot_list_insert ⟨_,e,rfl⟩ F.entry_list_insert (F.args_list_insert_3 _ _ _) (AutoSeq1.list_insert_list_int_val_1 l its.toArray n i t u hfit (by rw[an3];omega)) ⟨e,?_⟩
   refine⟨.aF,_,I.DP (its':=its.take i.toNat++u::its.drop i.toNat) hH e ?_ ((r.take i.toNat).append (.cons ru (r.drop i.toNat))) ?_,rfl,q⟩
   ·have hk:(if i<0 then(i+(its.toArray.size:Int)).toNat else min i.toNat its.toArray.size)=i.toNat:=by
     rw[if_neg (by omega),an3];omega
    show(its.toArray.extract 0 (if i<0 then(i+(its.toArray.size:Int)).toNat else min i.toNat its.toArray.size)).push u++its.toArray.extract (if i<0 then(i+(its.toArray.size:Int)).toNat else min i.toNat its.toArray.size)=_
    rw[hk];apply Array.toList_inj.mp;simp[List.extract_eq_take_drop,aqp]
   ·simp only[aon,apz,an4,List.length_drop];omega
def x6(o a b:af):af:=λe c=>(o e c).bind λx c=>match x with
 |.ref k=>(a e c).bind λi c=>(b e c).bind λy c=>match i,c[k]? with
  |.int i,ζ (.lst l)=>if(0<=i/\i<=l.length)/\l.length<ε/\noRef y=θ then .ok .aF (c.set k (.lst (l.take i.toNat++y::l.drop i.toNat)))else .bad
  |_,_=>.bad
 |_=>.bad
def ac5{l:List D}(h:bI l=θ)(n:Nat):bI (l.take n)=θ:=iy.mpr λd hd=>iy.mp h d (aor hd)
def ac8{l:List D}(h:bI l=θ)(n:Nat):bI (l.drop n)=θ:=iy.mpr λd hd=>iy.mp h d (arY hd)
def aaf{o a b:π}{dO da db:af}{apos cpos:Pos}(ho:bg X o dO)(ha:bg X a da)(hb:bg X b db)
  (hbase:af3 o "insert" X.env (eval o X.env)=eval o X.env:=by rfl)
  (hfew:((abE cpos (μ [a,b] X.env)).all (λx=>!x.1)&&(af9 cpos (ada [] X.env)).all (λx=>x.1.isSome)
   && decide ([a,b].length+([]:List adk).length+(if([]:List adk).isEmpty then 0 else 1)<30))=θ:=by exact Vx rfl rfl)
  (hline:(apos.endLine==cpos.line)=θ:=by rfl) (hs:μ [a,b] X.env=(Δ,eval a X.env)::μ [b] X.env:=by exact c7 rfl) (hs2:μ [b] X.env=(Δ,eval b X.env)::μ [] X.env:=by exact c7 rfl) (hplain:(abE cpos (μ [b] X.env)).any (·.1)=Δ:=by exact gW rfl) :
  bg X (.Call (.Attribute o "insert" apos) [a,b] [] cpos) (x6 dO da db) :=
 (tX apG PySem.F.slot_list_insert PySem.F.type_list_insert ad8 ho (ju ha (ju hb kr hs2) hs) hbase hfew hline hs hplain).imp λσ H Q h=>by
  obtain⟨ρ,e,c,W,V,p⟩:=h;refine⟨ρ,e,c,W,V,post.bind p λx c1 aI H1 v _ W1 X1 r1 p1=>?_⟩
  cases x with
  |ref k =>
   obtain⟨ad,rfl,hk⟩:=r1;obtain⟨xs,hx⟩:=W1.at' (aoq hk);refine⟨.inl ⟨rfl,xs,bY.of hx⟩,aI,e,c1,W1,V.mono W X1,post.bind p1 λi c2 cE H2 ui _ W2 X2 r2 p2=>⟨cE,e,c2,W2,(V.mono W X1).mono W1 X2,post.bind p2 λy c3 rH H3 u _ W3 X3 r3 p3=>?_⟩⟩
   split at p3
   ·rename_i i' l hl _;split at p3
    ·rename_i hh;cases r2;obtain⟨nr,ys,hy,rl⟩:=W3.eO k ad _ (X3.pre k ad (X2.pre k ad hk)) hl;refine⟨ad,ys,u,i',rfl,rfl,hy,by rw[rl.length];exact hh.1,by rw[rl.length];exact hh.2.1,?_⟩
     refine p3 rH _ .aF (W3.write (X3.pre k ad (X2.pre k ad hk)) ?_ ((rl.take _).append ⟨u,_,rfl,r3,rl.drop _⟩)) (Ext.write (X3.pre k ad (X2.pre k ad hk))) rfl;rw[uf,ac5 nr];simp[bI,hh.2.2,ac8 nr]
    ·exact p3.elim
   ·exact p3.elim
  |_=>exact p1.elim
def qw:List D->aa->R D:=λxs c=>match xs with
 |[x]=>match eS c x with
  |some l=>if bI l=θ then .ok (.ref c.length) (c++[.lst l])else .bad
  |none=>.bad
 |_=>.bad
def aj7:eH X (.type "list") (rN X.K qw):=by
 intro pins s σ H vs us Q I rv h;obtain⟨ρ,xs,c,W,rx,p⟩:=h;unfold qw at p;split at p
 ·rename_i x;obtain⟨v,r,rfl,hx,hr⟩:=rx;cases hr;split at p
  ·rename_i l hl;split at p
   ·rename_i nr;obtain⟨a,ys,rfl,sq,r⟩:=y9 W hx hl;exact aki pins s σ H _ us Q I rv ⟨a,ys,rfl,sq,zR W nr r p⟩
   ·exact p.elim
  ·exact p.elim
 ·exact p.elim
end
@[simp] theorem S7(o a b:af)(e:Ev)(c:aa):x6 o a b e c=(o e c).bind λx c=>match x with
 |.ref k=>(a e c).bind λi c=>(b e c).bind λy c=>match i,c[k]? with
  |.int i,ζ (.lst l)=>if(0<=i/\i<=l.length)/\l.length<ε/\noRef y=θ then .ok .aF (c.set k (.lst (l.take i.toNat++y::l.drop i.toNat)))else .bad
  |_,_=>.bad
 |_=>.bad:=rfl
mutual
def fX(c:aa)(n:Nat):D->Option D
 |.ref k=>match c[k]? with
  |some (.lst l)=>if n<=k then ζ (.lst l)else η
  |none=>η
 |.lst l=>match nH c n l with
  |some m=>ζ (.lst m)
  |none=>η
 |.tup l=>match nH c n l with
  |some m=>ζ (.tup m)
  |none=>η
 |.aF=>ζ .aF
 |.bl b=>ζ (.bl b)
 |.int i=>ζ (.int i)
 |.str x=>ζ (.str x)
 |.ty x=>ζ (.ty x)
 |.b7 x=>ζ (.b7 x)
 |.fn x m=>ζ (.fn x m)
 |.exc x=>ζ (.exc x)
 |.iD=>ζ .iD
 |.dct ks=>ζ (.dct ks)
 |.lam _ _ _ _=>η
def nH(c:aa)(n:Nat):List D->Option (List D)
 |[]=>ζ []
 |d::l=>match fX c n d,nH c n l with
  |some a,ζ m=>ζ (a::m)
  |_,_=>η
end
section
variable {K:Θ}{aI:List Ψ}{H1:Hp}{c1:aa}{n:Nat}
mutual
def KY(W1:Wd K aI H1 c1):∀(d:D) (v:V) (d':D),Rel K aI H1 d v->fX c1 n d=ζ d'->Rel K (aI.take n) H1 d' v
 |.ref k,v,d',r,h=>by
  unfold fX at h;split at h
  ·rename_i l hl;split at h
   ·rename_i hk;cases h;obtain⟨a,rfl,ha⟩:=r;obtain⟨nr,xs,hx,rl⟩:=W1.eO k a _ ha hl;refine⟨a,xs,rfl,⟨hx,λq=>?_⟩,aK.low (λb h=>aor h) l xs nr rl⟩
    obtain⟨j,hj,e⟩:=ao4.mp q;rw[aqh]at e;have hk1:=an7.mp ha;have hjl:j<aI.length:=by simp at hj;omega
    have:=(apw W1.nd (h₀:=hjl) (h₁:=hk1.1)).mp (e.trans hk1.2.symm);simp at hj;omega
   ·cases h
  ·cases h
 |.lst l,v,d',r,h=>by
  unfold fX at h;split at h
  ·rename_i m hm;cases h;obtain⟨a,xs,rfl,s,rl⟩:=r;exact⟨a,xs,rfl,⟨s.1,λq=>s.2 (aor q)⟩,CI W1 l xs m rl hm⟩
  ·cases h
 |.tup l,v,d',r,h=>by
  unfold fX at h;split at h
  ·rename_i m hm;cases h;obtain⟨a,xs,rfl,s,rl⟩:=r;exact⟨a,xs,rfl,s,CI W1 l xs m rl hm⟩
  ·cases h
 |.aF,v,d',r,h=>by unfold fX at h;cases h;exact Rel.low (λb h=>aor h) _ _ rfl r
 |.bl b,v,d',r,h=>by unfold fX at h;cases h;exact Rel.low (λb h=>aor h) _ _ rfl r
 |.int i,v,d',r,h=>by unfold fX at h;cases h;exact Rel.low (λb h=>aor h) _ _ rfl r
 |.str x,v,d',r,h=>by unfold fX at h;cases h;exact Rel.low (λb h=>aor h) _ _ rfl r
 |.ty x,v,d',r,h=>by unfold fX at h;cases h;exact Rel.low (λb h=>aor h) _ _ rfl r
 |.b7 x,v,d',r,h=>by unfold fX at h;cases h;exact Rel.low (λb h=>aor h) _ _ rfl r
 |.fn x m,v,d',r,h=>by unfold fX at h;cases h;exact Rel.low (λb h=>aor h) _ _ rfl r
 |.exc x,v,d',r,h=>by unfold fX at h;cases h;exact Rel.low (λb h=>aor h) _ _ rfl r
 |.iD,v,d',r,h=>by unfold fX at h;cases h;exact Rel.low (λb h=>aor h) _ _ rfl r
 |.dct ks,v,d',r,h=>by unfold fX at h;cases h;exact Rel.low (λb h=>aor h) _ _ rfl r
 |.lam _ _ _ _,v,d',r,h=>by unfold fX at h;cases h
def CI(W1:Wd K aI H1 c1):∀(l:List D) (xs:List V) (m:List D),aK K aI H1 l xs->nH c1 n l=ζ m->aK K (aI.take n) H1 m xs
 |[],xs,m,r,h=>by unfold nH at h;cases h;exact r
 |d::l,xs,m,r,h=>by
  unfold nH at h;split at h
  ·rename_i a m' ha hm;cases h;obtain⟨y,ys,rfl,r1,r2⟩:=r;exact⟨y,ys,rfl,KY W1 d y a r1 ha,CI W1 l ys m' r2 hm⟩
  ·cases h
end
end
def kL(n:Nat)(v:D)(c:aa):R D:=match fX c n v with
 |some d=>.ok d (c.take n)
 |none=>.bad
def lW(n:Nat)(d:ah):List D->aa->R D:=λxs c=>(d (cF n xs) c).bind λf c'=>match f with
 |.rt v=>kL c.length v c'
 |.nx _=>kL c.length .aF c'
 |_=>.bad
def PR{K:Θ}{ρ aI:List Ψ}{H H1:Hp}{c c1:aa}{v:D}{x:V}{Q:VK}(W:Wd K ρ H c)(W1:Wd K aI H1 c1)(X1:Ext ρ H aI H1)(r:Rel K aI H1 v x)(p:post K (Rel K) (kL c.length v c1) ρ H Q):Q x H1:=by
 have hn:=Ext.len W W1 X1;have Wc:=W1.cut hn;have Xc:=X1.cut (n:=c.length) (aoY W.len);unfold kL at p;split at p
 ·rename_i d hd;exact p _ H1 x Wc Xc (KY W1 v x d r hd)
 ·exact p.elim
section
variable {P:τ}{w:ψ}{K:Θ}{mg:Str->Option Ξ}{base:υ}
def Gi{x qual:Str}{st:aar}{f:Ψ}{fd:ο}{N ps:List Str}{k n m:Nat}{d:ah}(F:j7 K x qual st f fd)(S:cB N ps (aW st))(hN:N.length=n)(hm:ps.length=m)
  (hb:∀(cdv:Ξ) (A:χ) (outer:List Env) (s:Ω) (H:Hp) (E:XK),cN k (A.deeper (envOfC qual (aW st) s.heap.objs.size f cdv))->cj (fW bO P w K mg base N qual (aW st) f cdv A outer s H E).fP (cu st) d) :
  bU P w K mg base bO (k+1) f fd ps (bQ K m (lW n d)):=by
 subst hN;subst hm;refine F.ok S (λvs H Q E h=>?_) (λcdv A outer s H vs Q E hr h=>⟨_,hb cdv A outer s H E hr,?_⟩)
 ·obtain⟨ρ,xs,c,W,r,hl,p⟩:=h;exact r.length.trans hl
 ·obtain⟨ρ,xs,c,W,r,hl,p⟩:=h;refine⟨ρ,cF N.length xs,c,W,cR.start r,post.bind p λfl c1 aI H1 b _ W1 X1 r1 p1=>?_⟩
  cases fl with
  |nx e1 =>
   obtain⟨σ1,rfl,V1⟩:=r1;exact PR (v:=.aF) (x:=.aF) (H1:=H1) W W1 X1 rfl (by unfold lW at p;rename_i he;rw[he]at p;exact p)
  |rt d =>
   obtain⟨v,rfl,V1⟩:=r1;exact PR (v:=d) (x:=v) (H1:=H1) W W1 X1 V1 (by unfold lW at p;rename_i he;rw[he]at p;exact p)
  |bk e1=>exact p1.elim
  |ct e1=>exact p1.elim
end
@[simp] theorem Ct(n:Nat)(d:ah)(xs:List D)(c:aa):lW n d xs c=(d (cF n xs) c).bind λf c'=>match f with
 |.rt v=>kL c.length v c'
 |.nx _=>kL c.length .aF c'
 |_=>.bad:=rfl
end L2
namespace L2
open PySem PySem.Spec PyProof.Rows
def KQ{l c:Int}{t u:Tok}{v:Ξ}:∀(xs:List Ξ),agK xs->agK (xs++[.int l t,.int c u,v])
 |[],_=>trivial
 |.int _ _ :: .int _ _::_::rest,h=>KQ (l:=l) (c:=c) (t:=t) (u:=u) (v:=v) rest h
def RD{pos p:Pos}{v cv:Ξ}:∀(xs:List Ξ),agK xs->codeAmong p (xs++[rawInt pos.line,rawInt pos.col,v])=ζ cv->codeAmong p xs=ζ cv\/cv=v
 |[],_,h=>by
  simp only[an9,rawInt,codeAmong]at h;split at h
  ·exact .inr (an6 h).symm
  ·cases h
 |.int a _ :: .int b _::x::rest,ht,h=>by
  simp only[apX,codeAmong]at h ⊢;split at h
  ·rename_i hc;rw[if_pos hc];exact .inl h
  ·rename_i hc;rw[if_neg hc];exact RD rest ht h
structure alK (H H':Hp) (n:Nat) (P:Ψ) (q:Str) (e:π) (cl:List (Str×Ψ)) (a:Ψ):Prop where
 at':∃o c,H' a=ζ (.ext (kF a o))/\rE e o q c cl/\H' c=ζ (.ext (kN c q))
 keep:∀b u,H b=ζ u->xD u=Δ->H' b=ζ u
 new:∀b,b<n->H b=η->H' b=η
 tabs:∀b ps,b≠P->H b=ζ (.cS ps)->H' b=ζ (.cS ps)
 tab:TabAt H' P q
section
variable {X:Cx}{pins:List (Ψ×Obj)}{σ:St}{H:Hp}{s:Ω}
def Qq{h1 h2:υ}{c:Ψ}{q:Str}(x:h1.CodeRec (.ref c) q)(k:∀o,h1.get? c=ζ o->h2.get? c=ζ o):h2.CodeRec (.ref c) q:=by
 obtain⟨c',oc,vs,t,e,h,r⟩:=x;cases e;exact⟨_,oc,vs,t,rfl,k _ h,r⟩
def aeD{c P:Ψ}{q:Str}{params:agc}{body:π}{scope:ac4}{pos:Pos}{clos:List (Str×Ψ)}{Q:Ξ->Ω->Prop}
  (I:Inv X pins σ H s) (hcode:X.env.code=.ref c) (hq:X.env.qual++"<lambda>"=q) (hC:PySem.W.codeHdIn X.K c P=θ) (hT:TabAt H P q) (hcl:closureFor scope X.env=pure clos) (hdef:defaultsOf params X.env=([],[]))
  (h:∀a H' s',Inv X pins σ H' s'->s.heap.objs.size<=a->alK H H' s.heap.objs.size P q (.Lambda params body scope pos) clos a->Q (.ref a) s') :
  wpAny (model X.prog X.w) X.A (eval (.Lambda params body scope pos) X.env) Q X.xe s:=by
 obtain⟨ps,hP,ht,hcs⟩:=hT;have xP:s.heap.get? P=ζ (PySem.W.tabObj ps):=I.hok P _ hP;have hns:s.heap.Ns Γ X.mg:=I.mod.glob.keeps I.bk;obtain⟨bm,ob,b1,b2,b3,b4,b5,b6⟩:=I.mod.bmod;have yf:=I.bk _ _ b3;have hgP:Γ≠P:=λz=>by
  obtain⟨o,es,ep,e,hd,_⟩:=hns;rw[z,xP]at e;cases e;cases hd
 have hbP:bm≠P:=λz=>by rw[z,xP]at yf;cases yf;cases b4
 have hbG:bm≠Γ:=λz=>by
  obtain⟨o,es,ep,e,hd,_⟩:=hns;rw[z,e]at yf;cases yf;rw[hd]at b6;cases b6
 have hB:s.heap.BuiltinsAt X.mg P:=⟨bm,ob,b1,b2,hbG,hbP,yf,b4,b5,b6⟩;have C:PySem.W.CodeHd s.heap c P:=ash I.eB hC;refine PySem.W.kla_eval hdef ?_;rw[hq];have OW:P<s.heap.objs.size:=anV xP;cases hf:codeAmong pos ps.toList with
 |some cv =>
  obtain⟨c',rfl,hc'⟩:=hcs pos cv hf;refine PySem.W.kla_makeFunctionHit hcl I.ok.glob hns hcode C xP ht hf hB λctv h' tk hk hsz=>?_
  generalize ho:({cls:=.type "function",data:=.func (PySem.W.kla_fn "<lambda>" q params body scope clos ((X.mg "__name__").getD .none) (.ref c') ctv)}:Obj)=o
  have hof:o.isFreed=Δ:=by rw[<-ho];rfl
  have hn:H h'.objs.size=η:=I.hok.fresh hsz;have nb:∀b u,H b=ζ u->b≠h'.objs.size:=λb u e=>dF e hn
  refine h h'.objs.size (upd H h'.objs.size (.ext (kF h'.objs.size o))) _ (I.laid (t':=tk) (λb u e=>anY _ (hk b u e)) hsz ?_) hsz ⟨⟨o,c',fM,⟨_,ctv,ho.symm⟩,by rw[bD (nb _ _ hc')];exact hc'⟩,λb u e _=>by rw[bD (nb b u e)];exact e,λb hb e=>by rw[bD (an0 (an5 hb hsz))];exact e,λb ps' _ e=>by rw[bD (nb b _ e)];exact e,⟨ps,by rw[bD (nb _ _ hP)];exact hP,ht,λp v e=>let⟨d,e1,e2⟩:=hcs p v e;⟨d,e1,by rw[bD (nb _ _ e2)];exact e2⟩⟩⟩
  exact⟨aoc _ hof,⟨_,aoc _ hof⟩,λh1 h2 e k=>k _ e⟩
 |none =>
  refine PySem.W.kla_makeFunction hcl I.ok.glob hns hcode C xP ht hf hgP hB λc' ctv h' tk hx hge hlt hrec htb=>?_
  generalize ho:PySem.W.kla_obj "<lambda>" q params body scope clos ((X.mg "__name__").getD .none) c' ctv=o
  have hsz:s.heap.objs.size<=h'.objs.size:=aom hge (apl hlt);have hof:o.isFreed=Δ:=by rw[<-ho];rfl
  have hnc:H c'=η:=I.hok.fresh hge;have hna:H h'.objs.size=η:=I.hok.fresh hsz;have hca:c'≠h'.objs.size:=an0 hlt;have hPc:P≠c':=an0 (an5 OW hge);have hPa:P≠h'.objs.size:=an0 (an5 OW hsz)
  generalize hps:ps ++ #[rawInt pos.line,rawInt pos.col,.ref c']=ps' at htb
  let H':Hp:=upd (upd (upd H P (.cS ps')) c' (.ext (kN c' q))) h'.objs.size (.ext (kF h'.objs.size o))
  have rq:∀b,b≠P->b≠c'->b≠h'.objs.size->H' b=H b:=λb n1 n2 n3=>by
   show upd (upd (upd H P (.cS ps')) c' _) h'.objs.size _ b=_;rw[bD n3,bD n2,bD n1]
  have vM:H' P=ζ (.cS ps'):=by
   show upd (upd (upd H P (.cS ps')) c' _) h'.objs.size _ P=_;rw[bD hPa,bD hPc,fM]
  have Jm:H' c'=ζ (.ext (kN c' q)):=by
   show upd (upd (upd H P (.cS ps')) c' _) h'.objs.size _ c'=_;rw[bD hca,fM]
  have Ry:H' h'.objs.size=ζ (.ext (kF h'.objs.size o)):=fM;have old:∀b u,H b=ζ u->xD u=Δ->H' b=ζ u:=λb u e t=>by
   rw[rq b (λz=>by rw[z,hP]at e;cases e;cases t) (dF e hnc) (dF e hna)];exact e
  have kp:∀b ob,b≠P->s.heap.get? b=ζ ob->(h'.push o).get? b=ζ ob:=λb ob n e=>anY _ (hx b ob n e)
  have agp:cQ X.prog X.w H' (h'.push o):=λb u e=>by
   by_cases h1:b=h'.objs.size
   ·subst h1;rw[Ry]at e;cases e;exact⟨aoc _ hof,⟨_,aoc _ hof⟩,λh1 h2 e k=>k _ e⟩
   ·by_cases h2:b=c'
    ·subst h2;rw[Jm]at e;cases e;obtain⟨d,oc,vs,t,e0,e1,e2⟩:=id hrec;cases e0;refine⟨Qq hrec λo e=>anY _ e,⟨oc,anY _ e1⟩,λh1 h2 x k=>Qq x k⟩
    ·by_cases h3:b=P
     ·subst h3;rw[vM]at e;cases e;exact anY _ htb
     ·rw[rq b h3 h2 h1]at e;refine(I.hok b u e).stay (λd w hd z=>kp d w ?_ z) (λd z=>?_) λd xs z=>?_
      ·rcases hd with hd|hd
       ·rw[hd];exact h3
       ·intro z2;rw[z2,hP]at hd;cases hd
      ·exact old d _ z rfl
      ·exact old d _ z rfl
  have I':Inv X pins σ H' {s with heap:=h'.push o,toks:=tk}:=by
   refine I.step (g':=s.gens) (d':=s.drawn) (ch:=[]) (λ_ z=>nomatch z) (λb ob _ _ _ e n=>kp b ob (λz=>by rw[z,hP]at n;cases n) e) (λb ob _ _ _ e n=>⟨ob.slots,kp b ob (λz=>by rw[z,hP]at n;cases n) e⟩) (λb ob _ e n=>?_) (λb ob _ e=>?_) (λb xs e=>old b _ e rfl) (λb o' u e=>old b _ e rfl) (λb ps2 e=>?_) (λm hm=>?_) agp I.bare
   ·have hb:=anV e;rw[rq b (λz=>by rw[z,hP]at n;cases n) (an0 (an5 hb hge)) (an0 (an5 hb hsz))]
    exact n
   ·by_cases hb:b=P
    ·subst hb;exact⟨_,anY _ htb⟩
    ·exact⟨ob,kp b ob hb e⟩
   ·by_cases hb:b=P
    ·subst hb;rw[hP]at e;cases e;exact⟨#[rawInt pos.line,rawInt pos.col,.ref c'],by rw[vM,hps]⟩
    ·refine⟨#[],?_⟩;rw[rq b hb (dF e hnc) (dF e hna),e];simp
   ·have hLP:X.env.locals≠P:=λz=>by have:=I.free;rw[z,hP]at this;cases this
    obtain⟨ol,es,ep,e,r⟩:=hm;exact⟨ol,es,ep,kp _ _ hLP e,r⟩
  refine h h'.objs.size H' _ I' hsz ⟨⟨o,c',Ry,⟨_,ctv,ho.symm⟩,Jm⟩,old,λb hb e=>?_,λb ps2 nb e=>?_,⟨ps',vM,?_,λp v e=>?_⟩⟩
  ·rw[rq b (λz=>by rw[z,hP]at e;cases e) (an0 (an5 hb hge)) (an0 (an5 hb hsz))];exact e
  ·rw[rq b nb (dF e hnc) (dF e hna)];exact e
  ·rw[<-hps,asi];exact KQ _ ht
  ·rw[<-hps,asi]at e
   rcases RD ps.toList ht e with e|e
   ·obtain⟨d,e1,e2⟩:=hcs p v e;exact⟨d,e1,old d _ e2 rfl⟩
   ·exact⟨c',e,Jm⟩
end
def gc(H:Hp)(F:Ψ->Option Obj):Hp:=λb=>match F b with
 |some o=>ζ (.cT o (.own 0))
 |none=>H b
def c9(H:Hp)(F:Ψ->Option Obj):Hp:=λb=>match F b with
 |some _=>η
 |none=>H b
section
variable {H H':Hp}{F:Ψ->Option Obj}{b:Ψ}{o:Obj}{u:HO}
def oO(h:F b=ζ o):gc H F b=ζ (.cT o (.own 0)):=by unfold gc;rw[h]
def jy(h:F b=η):gc H F b=H b:=by unfold gc;rw[h]
def rT(h:F b=ζ o):c9 H F b=η:=by unfold c9;rw[h]
def jo(h:F b=η):c9 H F b=H b:=by unfold c9;rw[h]
def JG(hF:∀b o,F b=ζ o->H b=η)(h:H b=ζ u):F b=η:=by
 cases e:F b with
 |none=>rfl
 |some o=>rw[hF b o e]at h;cases h
def jU(hF:∀b o,F b=ζ o->H b=η)(h:H b=ζ u):gc H F b=ζ u:=by rw[jy (JG hF h)];exact h
end
section
variable {X:Cx}{pins:List (Ψ×Obj)}{σ:St}{H H':Hp}{s s':Ω}{F:Ψ->Option Obj}
structure JE (X:Cx) (H:Hp) (s:Ω) (F:Ψ->Option Obj):Prop where
 heap:∀b o,F b=ζ o->s.heap.get? b=ζ o
 free:∀b o,F b=ζ o->H b=η
 high:∀b o,F b=ζ o->X.s₀.heap.objs.size<=b
 loc:∀b o,F b=ζ o->b≠X.env.locals
def Pq{P:τ}{w:ψ}{h:υ}(hok:cQ P w H h)(hF:∀b o,F b=ζ o->H b=η)(hh:∀b o,F b=ζ o->h.get? b=ζ o):cQ P w (gc H F) h:=λb u e=>by
 cases hb:F b with
 |some o =>
  rw[oO hb]at e;cases e;exact⟨hh b o hb,o,hh b o hb⟩
 |none =>
  rw[jy hb]at e;exact(hok b u e).stay (λ_ _ _ z=>z) (λc z=>jU hF z) λc xs z=>jU hF z
def Pr(I:Inv X pins σ H s)(Z:JE X H s F):kY X.prog X.w X.K X.mg X.base X.A X.stack s (gc H F):=by
 have e:=I.Be;have sz:X.base.objs.size<=X.s₀.heap.objs.size:=I.ok.gg;refine⟨e.frames,e.mod,λb o h=>?_,e.gg,e.fT,λb hb=>?_,Pq I.hok Z.free Z.heap,e.bare⟩
 ·obtain⟨h1,h2⟩:=e.bs b o h;refine⟨h1,?_⟩;cases hb:F b with
  |none=>rw[jy hb];exact h2
  |some ob=>exact absurd (an5 (anV h) (aom sz (Z.high b ob hb))) (aot _)
 ·cases hF:F b with
  |none=>rw[jy hF];exact e.iC b hb
  |some ob =>
   exfalso
   rcases anW.mp (I.k8 b hb)with z|z
   ·exact Z.loc b ob hF z
   ·obtain⟨_,o2,ho,_⟩:=I.ok.fT.mem z;exact absurd (an5 (anV ho) (Z.high b ob hF)) (aot _)
def Us{fs:List Ψ}{h h':υ}{P:τ}{w:ψ}(hF:∀b o,F b=ζ o->H b=η)(hh:∀b o,F b=ζ o->h.get? b=ζ o)(hfs:∀b o,F b=ζ o->b∉fs)(un:Un fs [] (gc H F) H' h h')(hok:cQ P w H' h'):Un fs [] H (c9 H' F) h h'/\cQ P w (c9 H' F) h':=by
 have fz:∀b o,F b=ζ o->H' b=ζ (.cT o (.own 0)):=λb o e=>un.gr b o _ (oO e)
 have nn:∀{b:Ψ}{u:HO},H b=ζ u->F b=η:=λe=>JG hF e
 refine⟨⟨λb o e n hb hx=>?_,λb o e n hb hx=>?_,λb o e n hx=>?_,un.there,λb xs e=>?_,λb o u e=>?_,λb ps e=>?_⟩,λb u e=>?_⟩
 ·cases hb':F b with
  |none=>exact un.keep b o e (by rw[jy hb'];exact n) hb hx
  |some ob =>
   have e1:=hh b ob hb';rw[e]at e1;cases e1;exact(hok b _ (fz b o hb')).1
 ·cases hb':F b with
  |none=>exact un.slot b o e (by rw[jy hb'];exact n) hb hx
  |some ob=>exact absurd hb (hfs b ob hb')
 ·cases hb':F b with
  |none=>rw[jo hb'];exact un.free b o e (by rw[jy hb'];exact n) hx
  |some ob=>exact rT hb'
 ·rw[jo (nn e)];exact un.tups b xs (jU hF e)
 ·rw[jo (nn e)];exact un.gr b o u (jU hF e)
 ·obtain⟨more,z⟩:=un.gB b ps (jU hF e);exact⟨more,by rw[jo (nn e)];exact z⟩
 ·cases hb:F b with
  |some ob=>rw[rT hb]at e;cases e
  |none =>
   rw[jo hb]at e;have st:∀{c:Ψ}{v:HO},H' c=ζ v->(∀o,v≠.cT o (.own 0))->c9 H' F c=ζ v:=fun{c v} z n=>by
    cases hc:F c with
    |none=>rw[jo hc];exact z
    |some oc=>rw[fz c oc hc]at z;exact absurd (an6 z).symm (n oc)
   exact(hok b u e).stay (λ_ _ _ z=>z) (λc z=>st z λ_ q=>nomatch q) λc xs z=>st z λ_ q=>nomatch q
def Xj{k:Nat}{f:Ψ}{fd:ο}{ps:List Str}{sp:Sp}{us:List Ξ}{vs:List V}{Q:VK}(G:bU X.prog X.w X.K X.mg X.base bO k f fd ps sp)(hr:cN k X.A)(hb:Binds X.K fd ps [])(I:Inv X pins σ H s)(Z:JE X H s F)(r:Vals vs us)
  (h:sp vs (gc H F) (λv H'=>Q v (c9 H' F)) E0):wpAny (model X.prog X.w) X.A (call (.ref f) us) (EP X pins σ Q) X.xe s:=by
 have hl:us.length=ps.length:=by rw[<-r.length];exact G.len _ _ _ _ h
 have hb':=hb s us I.eB (by rw[aoM];exact hl)
 rw[aoM]at hb';refine apo (aoU (G.run X.A X.stack s (gc H F) ⟨us,[]⟩ us vs _ E0 hr (Pr I Z) hb' r h) λr s' hq=>?_)
 cases r with
 |error e=>exact False.elim hq
 |ok fl =>
  cases fl with
  |ret u =>
   obtain⟨v,H',os,bare,un,hok,rv,q⟩:=hq;obtain⟨CH,agq⟩:=Us Z.free Z.heap (λb o e hb=>by
    have:=(Pr I Z).iC b hb;rw[oO e]at this;cases this) un hok
   exact⟨v,c9 H' F,I.Ih os CH agq bare λb z=>absurd z (by simp),rv,q⟩
  |next=>exact False.elim hq
  |brk=>exact False.elim hq
  |cont=>exact False.elim hq
end
section
variable {K:Θ}{ρ ρ':List Ψ}{H H':Hp}{c c':aa}{F:Ψ->Option Obj}
def Cy(W:Wd K ρ H c)(k:∀b u,H b=ζ u->xD u=Δ->H' b=ζ u)(t:o9 K H'):Ext ρ H ρ H'/\Wd K ρ H' c:=by
 have X:Ext ρ H ρ H':=⟨λ_ _ e=>e,λa o e n z=>⟨k a o e z,n⟩⟩
 refine⟨X,W.nd,W.len,λj a cl e1 e2=>?_,t⟩
 have q:=W.eO j a cl e1 e2;cases cl with
 |lst l =>
  obtain⟨nr,xs,e,r⟩:=q;exact⟨nr,xs,k _ _ e rfl,aK.mono W X l xs r⟩
def Kc(W:Wd K ρ H c)(hF:∀b o,F b=ζ o->H b=η):Ext ρ H ρ (gc H F)/\Wd K ρ (gc H F) c :=
 Cy W (λb u e _=>jU hF e) (W.tab.mono (λ_ _ e=>jU hF e) λ_ _ e=>jU hF e)
def jn{b:Ψ}{u:HO}(hF:∀b o,F b=ζ o->H b=ζ (.cT o (.own 0)))(e:H b=ζ u)(n:∀o,u≠.cT o (.own 0)):c9 H F b=ζ u:=by
 cases hc:F b with
 |none=>rw[jo hc];exact e
 |some oc=>rw[hF b oc hc]at e;exact absurd (an6 e).symm (n oc)
mutual
def Rel.c9(hF:∀b o,F b=ζ o->H b=ζ (.cT o (.own 0))):∀(d:D) (v:V),eZ d=θ->Rel K ρ H d v->Rel K ρ (c9 H F) d v
 |.aF,v,_,h=>h
 |.bl b,v,_,h=>h
 |.int i,v,_,h=>h
 |.str y,v,_,h=>h
 |.ty n,v,_,h=>h
 |.tup l,v,n,h=>by
  obtain⟨a,xs,e,s,r⟩:=h;exact⟨a,xs,e,jn hF s (λ_ z=>nomatch z),aK.c9 hF l xs (by unfold eZ at n;exact n) r⟩
 |.lst l,v,n,h=>by
  obtain⟨a,xs,e,s,r⟩:=h;exact⟨a,xs,e,⟨jn hF s.1 (λ_ z=>nomatch z),s.2⟩,aK.c9 hF l xs (by unfold eZ at n;exact n) r⟩
 |.ref k,v,_,h=>h
 |.b7 l,v,_,h=>by
  obtain⟨a,e,s⟩:=h;refine⟨a,e,?_⟩
  rcases s with⟨s,z⟩|s
  ·rcases s with s|⟨o,s⟩
   ·exact .inl ⟨.inl (jn hF s (λ_ z=>nomatch z)),z⟩
   ·exact .inl ⟨.inr ⟨o,jn hF s (λ_ z=>nomatch z)⟩,z⟩
  ·exact .inr s
 |.fn a n,v,_,h=>h
 |.iD,v,_,h=>by
  obtain⟨a,e,q⟩:=h;exact⟨a,e,jn hF q (λ_ z=>nomatch z)⟩
 |.dct ks,v,_,h=>by
  obtain⟨a,kvs,e,q,z⟩:=h;exact⟨a,kvs,e,jn hF q (λ_ z=>nomatch z),z⟩
 |.exc y,v,_,h=>by
  obtain⟨a,C,e,n,q⟩:=h;exact⟨a,C,e,n,jn hF q (λ_ z=>nomatch z)⟩
 |.lam _ _ _ _,v,n,h=>by unfold eZ at n;cases n
def aK.c9(hF:∀b o,F b=ζ o->H b=ζ (.cT o (.own 0))):∀(l:List D) (xs:List V),eU l=θ->aK K ρ H l xs->aK K ρ (c9 H F) l xs
 |[],xs,_,h=>h
 |d::l,xs,n,h=>by
  obtain⟨y,r,e,h1,h2⟩:=h;unfold eU at n;rw[aoj]at n;exact⟨y,r,e,Rel.c9 hF d y n.1 h1,aK.c9 hF l r n.2 h2⟩
end
def Ka(W:Wd K ρ H c)(hF:∀b o,F b=ζ o->H b=ζ (.cT o (.own 0))):Wd K ρ (c9 H F) c:=by
 refine⟨W.nd,W.len,λj a cl e1 e2=>?_,W.tab.mono (λ_ _ e=>jn hF e (λ_ z=>nomatch z)) λ_ _ e=>jn hF e (λ_ z=>nomatch z)⟩
 have q:=W.eO j a cl e1 e2;cases cl with
 |lst l =>
  obtain⟨nr,xs,e,r⟩:=q;exact⟨nr,xs,jn hF e (λ_ z=>nomatch z),aK.c9 hF l xs (zP l nr) r⟩
def ah3(x:Ext ρ (gc H F) ρ' H')(hF:∀b o,F b=ζ o->H b=η):Ext ρ H ρ' (c9 H' F) :=
 ⟨x.pre,λa o e n t=>by
  obtain⟨h1,h2⟩:=x.keep a o (jU hF e) n t;exact⟨by rw[jo (JG hF e)];exact h1,h2⟩⟩
def ah5(x:Ext ρ (c9 H F) ρ' H')(W':Wd K ρ' H' c')(hF:∀b o,F b=ζ o->H b=ζ (.cT o (.own 0)))(hn:∀b o,F b=ζ o->H' b=η):Ext ρ H ρ' (gc H' F) :=
 ⟨x.pre,λa o e n t=>by
  cases hc:F a with
  |some oc =>
   have:=hF a oc hc;rw[e]at this;cases this;exact⟨oO hc,W'.nil (hn a oc hc)⟩
  |none =>
   obtain⟨h1,h2⟩:=x.keep a o (by rw[jo hc];exact e) n t
   exact⟨by rw[jy hc];exact h1,h2⟩⟩
end
end L2
namespace L2
open PySem PySem.Spec PyProof.Rows
structure fJ (X:Cx) (ns:List Str) (js:List Nat) (scope:ac4):Prop where
 names:∀x∈scope.names,x.2=.free->X.env.kindOf x.1=ζ .cell\/X.env.kindOf x.1=ζ .free
 got:∀(i j:Nat) (x:Str),js[i]? = ζ j->ns[i]? = ζ x->(x,NameKind.free)∈scope.names/\X.N[j]? = ζ x/\(X.env.kindOf x=ζ .cell\/X.env.kindOf x=ζ .free)
 all:∀x,(x,NameKind.free)∈scope.names->x∈ns
def NU(XN:List Str)(xn:List (Str×abF))(ns:List Str)(js:List Nat)(names:List (Str×abF)):Bool :=
 names.all (λx=>decide (x.2≠NameKind.free)||((decide (xn.lookup x.1=ζ NameKind.cell)||decide (xn.lookup x.1=ζ NameKind.free))&&decide (x.1∈ns))) &&
 (js.zip ns).all (λq=>decide ((q.2,NameKind.free)∈names)&&decide (XN[q.1]? = ζ q.2)&&(decide (xn.lookup q.2=ζ NameKind.cell)||decide (xn.lookup q.2=ζ NameKind.free)))
def fJ.of{X:Cx}{ns:List Str}{js:List Nat}{scope:ac4}(h:NU X.N X.env.scope.names ns js scope.names=θ):fJ X ns js scope:=by
 unfold NU at h;simp only[aoj,aoo,decide_eq_true_eq,apB]at h;obtain⟨h1,h2⟩:=h;refine⟨λx hx e=>?_,λi j x hj hx=>?_,λx hx=>?_⟩
 ·rcases h1 x hx with z|z
  ·exact absurd e z
  ·exact z.1
 ·have hm:(j,x)∈js.zip ns:=by
   have:(js.zip ns)[i]? = ζ (j,x):=by rw[arH];exact⟨hj,hx⟩
   exact aoq this
  obtain⟨⟨a,b⟩,d⟩:=h2 _ hm;exact⟨a,b,d⟩
 ·rcases h1 _ hx with z|z
  ·exact absurd rfl z
  ·exact z.2
section
variable {X:Cx}{pins:List (Ψ×Obj)}{σ:St}{H:Hp}{s:Ω}{ns:List Str}{js:List Nat}{scope:ac4}
abbrev je(X:Cx)(scope:ac4):List (Str×Ψ):=gh X.env scope.names []
def fJ.clos(S:fJ X ns js scope)(I:Inv X pins σ H s):closureFor scope X.env=pure (je X scope):=by
 have e:=BG (env:=X.env) scope.names [] λx hx hk=>I.ok.has x.1 (S.names x hx hk)
 show((forIn scope.names ([]:List (Str×Ψ)) fun(x:Str×abF) cs=>(if(x.2==NameKind.free)=θ then do let a <-cellOf X.env x.1;pure (ForInStep.yield ((x.1,a)::cs))else pure (ForInStep.yield cs):Sem (ForInStep (List (Str×Ψ))))) >>= λcs=>pure cs)=_
 rw[e,pure_bind]
def fJ.cap(S:fJ X ns js scope)(I:Inv X pins σ H s){x:Str}{c:Ψ}(h:(je X scope).lookup x=ζ c):(x,NameKind.free)∈scope.names/\X.env.cells.lookup x=ζ c:=by
 rcases Jp _ _ h with⟨a,b⟩|q
 ·refine⟨a,?_⟩;obtain⟨c',hc⟩:=I.ok.has x (S.names _ a rfl);rw[hc]at b ⊢;rw[b];rfl
 ·cases q
def fJ.has(S:fJ X ns js scope)(I:Inv X pins σ H s){x:Str}(h:(x,NameKind.free)∈scope.names):∃c,(je X scope).lookup x=ζ c:=ap3.mp (Jq _ _ (.inr h))
def fJ.cl(S:fJ X ns js scope)(I:Inv X pins σ H s):yy (je X scope) ns:=⟨λx y c h1 h2=>I.ok.inj x y c (S.cap I h1).2 (S.cap I h2).2,λx c h=>S.all x (S.cap I h).1⟩
open Classical in
def oN(cl:List (Str×Ψ))(h:υ):Ψ->Option Obj:=λb=>if ∃x,cl.lookup x=ζ b then h.get? b else η
def Au{cl:List (Str×Ψ)}{h:υ}{b:Ψ}{o:Obj}(e:oN cl h b=ζ o):(∃x,cl.lookup x=ζ b)/\h.get? b=ζ o:=by
 unfold oN at e;split at e
 ·rename_i z;exact⟨z,e⟩
 ·cases e
def Pp{cl:List (Str×Ψ)}{h:υ}{b:Ψ}{o:Obj}{x:Str}(e:cl.lookup x=ζ b)(g:h.get? b=ζ o):oN cl h b=ζ o:=by
 unfold oN;rw[if_pos ⟨x,e⟩,g]
def fJ.fz(S:fJ X ns js scope)(I:Inv X pins σ H s)(hfn:∀x,X.fn x=θ):JE X H s (oN (je X scope) s.heap):=by
 refine⟨λb o e=>(Au e).2,λb o e=>?_,λb o e=>?_,λb o e=>?_⟩
 all_goals
  obtain⟨⟨x,hx⟩,_⟩:=Au e;have hc:=(S.cap I hx).2
 ·exact I.fU x b hc
 ·exact I.ok.jf x b (hfn x) hc
 ·exact I.l6 x b hc
def fJ.cells(S:fJ X ns js scope)(I:Inv X pins σ H s)(i j:Nat)(x:Str)(v:V)(hj:js[i]? = ζ j)(hx:ns[i]? = ζ x)(hv:σ[j]? = ζ (ζ v)):∃c oc u,(je X scope).lookup x=ζ c/\oN (je X scope) s.heap c=ζ oc/\oc.data=.cell (ζ u)/\RelV v u:=by
 obtain⟨h1,h2,h3⟩:=S.got i j x hj hx;obtain⟨c,hc⟩:=S.has I h1;have hce:=(S.cap I hc).2;obtain⟨m,hm,hl⟩:=I.loc;obtain⟨u,ru,lk⟩:=hl j x v h2 hv (h3.elim (λz=>.inr (.inl z)) λz=>.inr (.inr z))
 rcases lk with⟨k,_⟩|⟨_,c',hc',oc,ho,hd⟩
 ·rcases h3 with z|z<;>(rw[z]at k;cases k)
 ·rw[hce]at hc';cases hc';exact⟨c,oc,u,hc,Pp hc ho,hd,ru⟩
structure alJ (H H':Hp) (P:Ψ) (q:Str) (e:π) (cl:List (Str×Ψ)) (a:Ψ):Prop where
 at':∃o c,H' a=ζ (.ext (kF a o))/\rE e o q c cl/\H' c=ζ (.ext (kN c q))
 keep:∀b u,H b=ζ u->xD u=Δ->H' b=ζ u
 tabs:∀b ps,b≠P->H b=ζ (.cS ps)->H' b=ζ (.cS ps)
 tab:TabAt H' P q
def Vd(P:Ψ)(q:Str)(e:π)(cl:List (Str×Ψ)):TE:=λ_ H Q=>TabAt H P q/\∀a H',alJ H H' P q e cl a->Q (.ref a) H'
def LW{c P:Ψ}{q:Str}{params:agc}{body:π}{pos:Pos}(S:fJ X ns js scope)(hcode:X.env.code=.ref c)(hq:X.env.qual++"<lambda>"=q)(hC:PySem.W.codeHdIn X.K c P=θ)(hdef:defaultsOf params X.env=([],[])) :
  PE X (.Lambda params body scope pos) (Vd P q (.Lambda params body scope pos) (je X scope)):=λpins s σ H Q I h =>
 aeD I hcode hq hC h.1 (S.clos I) hdef λa H' s' I' hge N=>⟨.ref a,H',I',rfl,h.2 a H' ⟨N.at',N.keep,N.tabs,N.tab⟩⟩
def Vl(cl:List (Str×Ψ))(ns:List Str)(js:List Nat)(sp:Sp)(t:TA):TE:=λσ H Q=>t σ H λvs H1=>yy cl ns->∀F:Ψ->Option Obj,(∀b o,F b=ζ o->H1 b=η) ->
 (∀(i j:Nat) (x:Str) (v:V),js[i]? = ζ j->ns[i]? = ζ x->σ[j]? = ζ (ζ v)->∃c oc u,cl.lookup x=ζ c/\F c=ζ oc/\oc.data=.cell (ζ u)/\RelV v u)->sp vs (gc H1 F) (λv H'=>Q v (c9 H' F)) E0
def Z8{x:Str}{st:aar}{ps:List Str}{f:Ψ}{fd:ο}{k:Nat}{sp:Sp}{e:π}{es:List π}{t:TA}{p pos:Pos}(D:Def X.K X.mg x st ps f fd)(G:bU X.prog X.w X.K X.mg X.base bO k f fd ps sp)(hr:cN k X.A)(S:fJ X ns js scope)(hfn:∀x,X.fn x=θ)(ha:PA X (e::es) t)(hg:Gl X x:=by rfl)
  (hdb:(x==("__debug__":Str))=Δ:=by decide) (he:μ (e::es) X.env=(Δ,eval e X.env)::μ es X.env:=by rfl) (hpl:(abE pos (μ es X.env)).any (·.1)=Δ:=by rfl) :
  PE X (.Call (.Name x p) (e::es) [] pos) (Vl (je X scope) ns js sp t):=by
 intro pins s σ H Q I h;refine apq (uA I hg D.at' ?_ hdb);refine aqE (h₀:=X.base) I.ok.mod.jR D.fn.kp (bL (ha pos pins s σ H _ I h) λus s1 ⟨vs,H1,I1,r,q⟩=>⟨I1.eB,?_⟩) he hpl
 exact Xj G hr D.bd I1 (S.fz I1 hfn) r (q (S.cl I1) _ (λb o e=>(S.fz I1 hfn).free b o e) λi j x v h1 h2 h3=>S.cells I1 i j x v h1 h2 h3)
end
def getAll(e:Ev):List Nat->Option (List D)
 |[]=>ζ []
 |j::js=>match e[j]?,getAll e js with
  |some (ζ d),ζ l=>ζ (d::l)
  |_,_=>η
def x8(k:Nat)(m:List D->aa->R D)(d1:af)(E:π)(ns:List Str)(js:List Nat):af:=λe c=>(d1 e c).bind λx c=>match getAll e js with
 |some l=>(m [x,.lam k E ns l] c).bind λv c=>if noRef v=θ then .ok v c else .bad
 |none=>.bad
section
variable {X:Cx}{K:Θ}{ρ:List Ψ}{H Hf:Hp}{σ:St}
def Rh{e:Ev}{cl:List (Str×Ψ)}{F:Ψ->Option Obj}(Vv:cR K ρ H e σ)(hV:∀d v,Rel K ρ H d v->Rel K ρ Hf d v)(hf:∀c o,F c=ζ o->Hf c=ζ (.cT o (.own 0))):∀(js:List Nat) (ns:List Str) (l:List D),js.length=ns.length->getAll e js=ζ l ->
  (∀(i j:Nat) (x:Str) (v:V),js[i]? = ζ j->ns[i]? = ζ x->σ[j]? = ζ (ζ v)->∃c oc u,cl.lookup x=ζ c/\F c=ζ oc/\oc.data=.cell (ζ u)/\RelV v u)->∃xs,iS Hf cl ns xs/\aK K ρ Hf l xs
 |[],[],l,_,h,_=>by
  unfold getAll at h;cases h;exact⟨[],rfl,rfl⟩
 |j::js,x::ns,l,hl,h,hc=>by
  unfold getAll at h;split at h
  ·rename_i d r hd hr;cases h;obtain⟨v,hv,rv⟩:=Vv.get j d hd;obtain⟨c,oc,u,h1,h2,h3,h4⟩:=hc 0 j x v rfl rfl hv;obtain⟨xs,h5,h6⟩:=Rh Vv hV hf js ns r (Nat.succ.inj hl) hr λi j x v a b d=>hc (i+1) j x v a b d
   exact⟨v::xs,⟨v,xs,c,oc,u,rfl,h1,hf c oc h2,h3,h4,h5⟩,v,xs,rfl,hV d v rv,h6⟩
  ·cases h
 |[],_::_,_,hl,_,_=>by cases hl
 |_::_,[],_,hl,_,_=>by cases hl
def DS(K:Θ):List (Str×Ψ):=oz.filterMap λx=>(PySem.W.tabIn K x).map λq=>(x,q.2)
def rZ(K:Θ):Bool:=(DS K).all λa=>(DS K).all λb=>!(a.2==b.2)||(a.1==b.1)
def K1(h:rZ K=θ){x y:Str}{c d P:Ψ}(hx:x∈oz)(hy:y∈oz)(tx:PySem.W.tabIn K x=ζ (c,P))(ty:PySem.W.tabIn K y=ζ (d,P)):x=y:=by
 unfold rZ at h;have m:∀{z:Str}{c:Ψ},z∈oz->PySem.W.tabIn K z=ζ (c,P)->(z,P)∈DS K:=fun{z c} hz tz=>apN.mpr ⟨z,hz,by rw[tz];rfl⟩
 have:=aoo.mp (aoo.mp h _ (m hx tx)) _ (m hy ty)
 simpa using this
def Wd.ade{c:aa}{a:Ψ}{o:Obj}{u:HO}(W:Wd K ρ H c)(h:H a=ζ (.cT o u)):a∉ρ:=λm=>by
 obtain⟨ys,e⟩:=W.at' m;rw[e]at h;cases h
def Mc{kk:Nat}{x y:Str}{st:aar}{ps:List Str}{f c P:Ψ}{fd:ο}{k:Nat}{m:List D->aa->R D}{e1 body:π}{d1:af}{params:agc}{scope:ac4}{ns:List Str}{js:List Nat}{p pos jP:Pos}
  (D:Def X.K X.mg x st ps f fd) (G:bU X.prog X.w X.K X.mg X.base bO k f fd ps (bQ X.K 2 m)) (hr:cN k X.A) (xN:bg X e1 d1) (S:fJ X ns js scope) (hjn:js.length=ns.length) (hfn:∀x,X.fn x=θ) (hy:y∈oz) (ht:PySem.W.tabIn X.K y=ζ (c,P)) (hap:rZ X.K=θ) (hcode:X.env.code=.ref c) (hq:X.env.qual++"<lambda>"=ou y) (hC:PySem.W.codeHdIn X.K c P=θ)
  (hdef:defaultsOf params X.env=([],[]):=by rfl) (hg:Gl X x:=by rfl)
  (hdb:(x==("__debug__":Str))=Δ:=by decide) (hs1:μ [e1,.Lambda params body scope jP] X.env=(Δ,eval e1 X.env)::μ [.Lambda params body scope jP] X.env:=by exact c7 rfl) (hs2:μ [.Lambda params body scope jP] X.env=(Δ,eval (.Lambda params body scope jP) X.env)::μ [] X.env:=by exact c7 rfl) (hpl:(abE pos (μ [.Lambda params body scope jP] X.env)).any (·.1)=Δ:=by exact gW rfl) :
  bg X (.Call (.Name x p) [e1,.Lambda params body scope jP] [] pos) (x8 kk m d1 (.Lambda params body scope jP) ns js) :=
 PE.imp (Z8 D G hr S hfn (ju xN (ju (LW (c:=c) (P:=P) (q:=ou y) S hcode hq hC hdef) kr hs2) hs1) hg hdb hs1 hpl) λσ H Q h=>by
  obtain⟨ρ,e,c0,W,V,pp⟩:=h;refine⟨ρ,e,c0,W,V,post.bind pp λx1 c1 aI H1 v _ W1 X1 r1 p1=>?_⟩
  have V1:=V.mono W X1;refine⟨W1.tab y hy c P ht,λa H' N=>?_⟩
  have CM:o9 X.K H':=λz hz d P' tz=>by
   by_cases hP:P'=P
   ·subst hP;rw[K1 hap hz hy tz ht];exact N.tab
   ·exact(W1.tab z hz d P' tz).mono (λps e=>N.tabs P' ps hP e) λc φ e=>N.keep c _ e rfl
  obtain⟨X2,W2⟩:=Cy W1 N.keep CM;intro hcl F hF F3;obtain⟨X3,W3⟩:=Kc W2 hF;have RG:=X2.trans X3;split at p1
  ·rename_i l hl;obtain⟨xs,hxs,hrs⟩:=Rh (Hf:=gc H' F) V1 (λd v r=>Rel.mono W1 RG d v r) (λc o e=>oO e) js ns l hjn hl F3
   obtain⟨o,cc,ha,hobj,hcc⟩:=N.at';refine⟨aI,[x1,.lam kk _ ns l],c1,W3,⟨v,[.ref a],rfl,Rel.mono W1 RG x1 v r1,.ref a,[],rfl,⟨a,o,ou y,cc,_,xs,rfl,jU hF ha,hobj,jU hF hcc,hcl,hxs,hrs⟩,rfl⟩,rfl,?_⟩;cases hm:m [x1,.lam kk _ ns l] c1 with
   |bad=>rw[hm]at p1;exact p1.elim
   |ok d c2 =>
    rw[hm,R.aB]at p1;split at p1
    ·rename_i hn;intro ρ' H4 b W4 X4 r4;have fz:∀b o,F b=ζ o->H4 b=ζ (.cT o (.own 0)):=λb o e=>(X4.keep b _ (oO e) (W3.ade (oO e)) rfl).1
     exact p1 ρ' (c9 H4 F) b (Ka W4 fz) (X2.trans (ah3 X4 hF)) (Rel.c9 fz d b (MR d hn) r4)
    ·exact p1.elim
  ·exact p1.elim
end
def JJ(s:Ω)(H:Hp)(outer:List Env)(cl:List (Str×Ψ))(ns:List Str)(cs:List V):Prop :=
 cs.length=ns.length/\∀(i:Nat) (x:Str),ns[i]? = ζ x->∃v c u,cs[i]? = ζ v/\cl.lookup x=ζ c/\s.heap.IsCell c (ζ u)/\RelV v u/\H c=η/\c∉frs outer
def kW(P:τ)(w:ψ)(K:Θ)(mg:Str->Option Ξ)(base:υ)(k:Nat)(E:π)(ns:List Str)(n:Nat)(sp:Sp):Prop :=
 ∀(A:χ) (outer:List Env) (s:Ω) (H:Hp) (a:Ψ) (o:Obj) (q:Str) (cc:Ψ) (cl:List (Str×Ψ)) (us:List Ξ) (vs cs:List V) (Q:VK),cN k A->kY P w K mg base A outer s H->s.heap.get? a=ζ o->rE E o q cc cl->s.heap.CodeRec (.ref cc) q->yy cl ns ->
  JJ s H outer cl ns cs->Vals vs us->vs.length=n->sp (vs++cs) H Q E0->codeAny (model P w) A (.call (.ref a) ⟨us,[]⟩) (CR bO outer P w H s Q E0) s
def xB(P:τ)(w:ψ)(K:Θ)(mg:Str->Option Ξ)(base:υ)(N:List Str)(qual:Str)(scope:ac4)(f:Ψ)(cd:Ξ)(cl:List (Str×Ψ))(A:χ)(outer:List Env)(s:Ω)(H:Hp):Cx where
 prog:=P
 w:=w
 K:=K
 mg:=mg
 base:=base
 A:=A.deeper (PySem.W.envX qual scope s.heap.objs.size f cd cl)
 N:=N
 s₀:=s
 H₀:=H
 env:=PySem.W.envX qual scope s.heap.objs.size f cd cl
 outer:=outer
 stack:=PySem.W.envX qual scope s.heap.objs.size f cd cl::outer
 ex:=[]
 calm:=θ
 fn:=λ_=>Δ
 pn:=[]
 xe:=λ_ _=>False
structure rF (ps ns:List Str) (scope:ac4):Prop where
 kind:scope.kind=.function
 co:scope.isCoroutine=Δ
 gen:scope.isGenerator=Δ
 nd:(ps++ns).Nodup
 par:∀x∈ps,scope.names.lookup x=ζ .local
 cap:∀x∈ns,scope.names.lookup x=ζ .free
 MM:∀y∈scope.names,y.2≠.cell
 free:∀y∈scope.names,y.2=.free->y.1∈ns
def rF.of{ps ns:List Str}{scope:ac4}(h1:scope.kind=.function)(h2:scope.isCoroutine=Δ)(h3:scope.isGenerator=Δ)
  (h:(decide (ps++ns).Nodup&&ps.all (λx=>decide (scope.names.lookup x=ζ NameKind.local))&&ns.all (λx=>decide (scope.names.lookup x=ζ NameKind.free))&&scope.names.all (λy=>decide (y.2≠NameKind.cell)&&(decide (y.2≠NameKind.free)||decide (y.1∈ns))))=θ):rF ps ns scope:=by
 simp only[aoj,aoo,decide_eq_true_eq,apB]at h;obtain⟨⟨⟨a,b⟩,c⟩,d⟩:=h;exact⟨h1,h2,h3,a,b,c,λy hy=>(d y hy).1,λy hy e=>(d y hy).2.elim (λz=>absurd e z) id⟩
def SD{x:Str}:∀{ps:List Str}{us:List Ξ},x∉ps->(ps.zip us).reverse.lookup x=η:=fun{ps us} h=>by
 cases e:(ps.zip us).reverse.lookup x with
 |none=>rfl
 |some v=>exact absurd (apy (List.mem_reverse.mp (aoV e))).1 h
def NL{x:Str}{v:Ξ}:∀{l m:List (Str×Ξ)},l.lookup x=η->(l++m).lookup x=m.lookup x
 |[],_,_=>rfl
 |(y,u)::l,m,h=>by
  rw[aox]at h;rw[apX,aox];cases hb:x==y with
  |true=>rw[hb]at h;cases h
  |false=>rw[hb]at h;exact NL (v:=v) h
def NK{x:Str}{v:Ξ}:∀{l m:List (Str×Ξ)},l.lookup x=ζ v->(l++m).lookup x=ζ v
 |(y,u)::l,m,h=>by
  rw[aox]at h;rw[apX,aox];cases hb:x==y with
  |true=>rw[hb]at h;exact h
  |false=>rw[hb]at h;exact NK h
def JO{x:Str}{v:Ξ}:∀{ps:List Str}{us:List Ξ}{i:Nat},ps.Nodup->ps[i]? = ζ x->us[i]? = ζ v->(ps.zip us).reverse.lookup x=ζ v
 |p::ps,u::us,0,nd,h1,h2=>by
  cases h1;cases h2;rw[arf,asj,NL (v:=v) (SD (ao9.mp nd).1)];simp
 |p::ps,u::us,i+1,nd,h1,h2=>by
  rw[arf,asj];exact NK (JO (i:=i) (ao9.mp nd).2 (by simpa using h1) (by simpa using h2))
 |[],_,_,_,h1,_=>by simp at h1
 |_::_,[],_,_,_,h2=>by simp at h2
def aeC{P:τ}{w:ψ}{K:Θ}{mg:Str->Option Ξ}{base:υ}{k:Nat}{params:agc}{body:π}{scope:ac4}{pos:Pos}{ps ns:List Str}{sp:Sp}(S:rF ps ns scope)
  (hbind:∀(q:Str) (cl:List (Str×Ψ)) (pm cdv ct:Ξ) (us:List Ξ),us.length=ps.length->bindArgs (PySem.W.kla_fn "<lambda>" q params body scope cl pm cdv ct) ⟨us,[]⟩=pure (ps.zip us))
  (hb:∀(q:Str) (f:Ψ) (cd:Ξ) (cl:List (Str×Ψ)) (A:χ) (outer:List Env) (s:Ω) (H:Hp) (vs:List V) (Q:VK),cN k (A.deeper (PySem.W.envX q scope s.heap.objs.size f cd cl))->sp vs H Q E0->∃t,PE (xB P w K mg base (ps++ns) q scope f cd cl A outer s H) body t/\t (vs.map ζ) H Q) :
  kW P w K mg base (k+1) (.Lambda params body scope pos) ns ps.length sp:=by
 intro A outer s H a o q cc cl us vs cs Q hr e0 ho hobj hcd hcl hcap rv hlen gb;obtain⟨pm,ctv,rfl⟩:=hobj;have KX:K.In s.heap:=e0.mod.jR.keeps λb o e=>(e0.bs b o e).1
 have lim:s.heap.NoLimit:=e0.mod.nolimit.keeps λb o e=>(e0.bs b o e).1
 have hul:us.length=ps.length:=by rw[<-rv.length];exact hlen
 refine PySem.W.kla_callFunE hr.depth ho rfl S.co S.gen rfl hcd ?_;rw[hbind q cl pm (.ref cc) ctv us hul];have ndp:ps.Nodup:=(aqe.mp S.nd).1;refine anT (wpAny_newFunctionEnv S.MM (λy hy=>S.par y.1 (apy hy).1) (λh₁ hns kJ=>⟨lim.fresh _ kJ,?_⟩) S.kind)
 show codeAny _ _ (.expr body (PySem.W.envX q scope s.heap.objs.size a (.ref cc) cl)) _ _;have hk₁:∀b ob,s.heap.get? b=ζ ob->h₁.get? b=ζ ob:=λb ob e=>kJ.extBut b ob (an0 (anV e)) (anY _ e)
 obtain⟨t,ht,hq⟩:=hb q a (.ref cc) cl A outer s H (vs++cs) Q (hr.deeper _) gb;have lB:∀b:Ψ,b∉(xB P w K mg base (ps++ns) q scope a (.ref cc) cl A outer s H).ex:=λb z=>absurd (show b∈([]:List Ψ)from z) (by simp)
 have O3:∀x c,cl.lookup x=ζ c->∃v u,s.heap.IsCell c (ζ u)/\RelV v u/\H c=η:=λx c e=>by
  obtain⟨i,hi,ei⟩:=ao4.mp (hcl.2 x c e);obtain⟨v,c',u,_,h2,h3,h4,h5,_⟩:=hcap.2 i x (by rw[anZ hi,ei])
  rw[e]at h2;cases h2;exact⟨v,u,h3,h4,h5⟩
 have N4:∀{c:Ψ}{u:Option Ξ},s.heap.IsCell c u->h₁.IsCell c u:=fun{c u} ⟨o,e,d⟩=>⟨o,hk₁ c o e,d⟩
 have I:Inv (xB P w K mg base (ps++ns) q scope a (.ref cc) cl A outer s H) [] ((vs++cs).map ζ) H {s with heap:=h₁,toks:=s.toks+(ps.zip us).length}:=by
  refine⟨⟨e0.mod,S.kind,rfl,rfl,anU _,hcl.1,λx hx=>?_,λx c h=>absurd h (by simp[xB]),λ_=>hr.hd,aqF e0.frames,.inr ⟨rfl,rfl⟩,λb z=>absurd z (lB b),e0.bs,e0.gg,λb _ _=>lB b,λb z=>absurd z (lB b),e0.fT,e0.iC⟩,
   rfl,e0.bare,Un.kept hk₁,⟨_,hns,λi x v h1 h2 h3=>?_⟩,λx c h=>?_,e0.hok.fresh (anU _),λx c h=>?_,λp hp=>absurd (show p∈([]:List (Ψ×Obj))from hp) (by simp),e0.hok.kept hk₁,?_⟩
  ·have hx:scope.names.lookup x=ζ .cell\/scope.names.lookup x=ζ .free:=hx
   rcases hx with hx|hx
   ·exact absurd rfl (S.MM _ (aoV hx))
   ·have hm:=S.free _ (aoV hx) rfl;obtain⟨i,hi,ei⟩:=ao4.mp hm;obtain⟨v,c',u,_,h2,_⟩:=hcap.2 i x (by rw[anZ hi,ei])
    exact⟨c',h2⟩
  ·have h1:(ps++ns)[i]? = ζ x:=h1;have h2':(vs++cs)[i]? = ζ v:=by
    rw[aoH]at h2;cases e:(vs++cs)[i]? with
    |none=>rw[e]at h2;cases h2
    |some b=>rw[e]at h2;cases h2;rfl
   by_cases hi:i<ps.length
   ·rw[aow hi]at h1;rw[aow (by omega)]at h2'
    obtain⟨u,hu,ru⟩:=rv.get h2';refine⟨u,ru,.inl ⟨S.par x (aoq h1),?_⟩⟩;exact JO ndp h1 hu
   ·rw[aov (by omega)]at h1
    rw[aov (by omega),hlen]at h2'
    obtain⟨v',c,u,e1,e2,e3,e4,_⟩:=hcap.2 _ x h1;rw[h2']at e1;cases e1;exact⟨u,e4,.inr ⟨.inr (S.cap x (aoq h1)),c,e2,N4 e3⟩⟩
  ·obtain⟨v,u,h3,_⟩:=O3 x c h;exact⟨_,N4 h3⟩
  ·obtain⟨v,u,_,_,h5⟩:=O3 x c h;exact h5
  ·show((vs++cs).map ζ).length=(ps++ns).length;rw[an2,aon,aon,hlen,hcap.1]
 refine PySem.W.kla_codeExpr (aoe (ht [] _ _ H Q I hq) (λu s' hs=>?_) λe s' hs=>False.elim hs)
 obtain⟨v,H',J,ru,q⟩:=hs;exact⟨v,H',J.os,J.bare,J.base,J.hok,ru,q⟩
section
variable {M:Model}{A:χ}{E:Ξ->Ω->Prop}{s:Ω}{env:Env}{pos:Pos}{Q:Ξ->Ω->Prop}
def akp{a:Ψ}{o:Obj}{fd:ο}{e:π}{rest:List π}(hd:o.data=.func fd)(h:wpAny M A (spliced (abE pos (μ (e::rest) env))) (λvs s₁=>s₁.heap.get? a=ζ o/\wpAny M A (call (.ref a) ([]++vs)) Q E s₁) E s)
  (he:μ (e::rest) env=(Δ,eval e env)::μ rest env) (hplain:(abE pos (μ rest env)).any (·.1)=Δ) :
  wpAny M A (callWith pos (.ref a) [] (abE pos (μ (e::rest) env)) []) Q E s:=by
 rw[he]at h ⊢;refine PySem.W.callWith_of (P:=λh=>h.get? a=ζ o) (by show((Δ||(abE pos (μ rest env)).any (·.1))||false)=Δ;rw[hplain];rfl) (λh e=>⟨.frame,.inl rfl,?_⟩) (PySem.Calls.evalArgs_plain h)
 obtain⟨oc,od,dt,sl⟩:=o;cases hd;exact(arR (part:=η) e).andThen PySem.W.Looks.now
end
section
variable {X:Cx}{pins:List (Ψ×Obj)}{σ:St}{H H':Hp}{s s':Ω}{F:Ψ->Option Obj}
def Ut{P:τ}{w:ψ}{h:υ}(hok:cQ P w H h)(hF:∀b o,F b=ζ o->H b=ζ (.cT o (.own 0))):cQ P w (c9 H F) h:=λb u e=>by
 cases hb:F b with
 |some o=>rw[rT hb]at e;cases e
 |none =>
  rw[jo hb]at e;exact(hok b u e).stay (λ_ _ _ z=>z) (λc z=>jn hF z λ_ q=>nomatch q) λc xs z=>jn hF z λ_ q=>nomatch q
def wg{b:Ψ}(h:H b=η):c9 H F b=η:=by
 unfold c9;split<;>first|rfl|exact h
def Xi{k n:Nat}{Ex:π}{ns:List Str}{sp:Sp}{a cc:Ψ}{o:Obj}{q:Str}{cl:List (Str×Ψ)}{us:List Ξ}{vs cs:List V}{Q:VK}(G:kW X.prog X.w X.K X.mg X.base k Ex ns n sp)(hr:cN k X.A)(I:Inv X pins σ H s)
  (ha:H a=ζ (.ext (kF a o))) (hobj:rE Ex o q cc cl) (hcc:H cc=ζ (.ext (kN cc q))) (hcl:yy cl ns) (hcs:iS H cl ns cs) (r:Vals vs us) (hn:vs.length=n)
  (h:∀F:Ψ->Option Obj,(∀b o,F b=ζ o->H b=ζ (.cT o (.own 0)))->sp (vs++cs) (c9 H F) (λv H'=>(∀b o,F b=ζ o->H' b=η)->Q v (gc H' F)) E0) :
  wpAny (model X.prog X.w) X.A (call (.ref a) us) (EP X pins σ Q) X.xe s:=by
 have hF:∀b ob,oN cl s.heap b=ζ ob->H b=ζ (.cT ob (.own 0)):=λb ob e=>by
  obtain⟨⟨x,hx⟩,hg⟩:=Au e;obtain⟨i,hi,ei⟩:=ao4.mp (hcl.2 x b hx);obtain⟨v,c,oc,u,_,h2,h3,_⟩:=hcs.get (i:=i) (x:=x) (by rw[anZ hi,ei])
  rw[hx]at h2;cases h2;have:=(I.hok b _ h3).1;rw[hg]at this;cases this;exact h3
 generalize hFd:oN cl s.heap=F at hF
 have e:=I.Be;have e0:kY X.prog X.w X.K X.mg X.base X.A X.stack s (c9 H F):=⟨e.frames,e.mod,λb o h=>⟨(e.bs b o h).1,wg (e.bs b o h).2⟩,e.gg,e.fT,λb hb=>wg (e.iC b hb),Ut I.hok hF,e.bare⟩
 have nf:∀b ob,F b=ζ ob->b∉frs X.stack:=λb ob z hb=>by
  have:=I.wu b hb;rw[hF b ob z]at this;cases this
 have cap:JJ s (c9 H F) X.stack cl ns cs:=by
  refine⟨hcs.length,λi x hx=>?_⟩
  obtain⟨v,c,oc,u,h1,h2,h3,h4,h5⟩:=hcs.get hx;have hg:=(I.hok c _ h3).1;have hf:F c=ζ oc:=by rw[<-hFd];exact Pp h2 hg
  exact⟨v,c,u,h1,h2,⟨oc,hg,h4⟩,h5,rT hf,nf c oc hf⟩
 refine apo (aoU (G X.A X.stack s (c9 H F) a o q cc cl us vs cs _ hr e0 (I.hok a _ ha).1 hobj (I.hok cc _ hcc).1 hcl cap r hn (h F hF)) λrr s' hq=>?_)
 cases rr with
 |error e=>exact False.elim hq
 |ok fl =>
  cases fl with
  |next=>exact False.elim hq
  |brk=>exact False.elim hq
  |cont=>exact False.elim hq
  |ret u =>
   obtain⟨v,H',os,bare,un,hok,rv,q⟩:=hq;have gF:∀b ob,F b=ζ ob->s.heap.get? b=ζ ob:=λb ob z=>(I.hok b _ (hF b ob z)).1
   have hn':∀b ob,F b=ζ ob->H' b=η:=λb ob z=>un.free b ob (gF b ob z) (rT z) (by simp)
   have hg':∀b ob,F b=ζ ob->s'.heap.get? b=ζ ob:=λb ob z=>un.keep b ob (gF b ob z) (rT z) (nf b ob z) (by simp)
   have Fn:∀{b:Ψ},H b=η->F b=η:=fun{b} z=>by
    cases e:F b with
    |none=>rfl
    |some ob=>rw[hF b ob e]at z;cases z
   have old:∀{b:Ψ}{u:HO},H b=ζ u->(∀o,u≠.cT o (.own 0))->F b=η/\c9 H F b=ζ u:=fun{b u} z nq=>by
    cases e:F b with
    |none=>exact⟨rfl,by rw[jo e];exact z⟩
    |some ob=>rw[hF b ob e]at z;exact absurd (an6 z).symm (nq ob)
   have CH:Un (frs X.stack) [] H (gc H' F) s.heap s'.heap:=by
    refine⟨λb o e n hb hx=>un.keep b o e (wg n) hb hx,λb o e n hb hx=>un.slot b o e (wg n) hb hx,λb o e n hx=>?_,un.there,λb xs e=>?_,λb o u e=>?_,λb ps e=>?_⟩
    ·rw[jy (Fn n)];exact un.free b o e (wg n) hx
    ·obtain⟨h1,h2⟩:=old e λ_ z=>nomatch z
     rw[jy h1];exact un.tups b xs h2
    ·cases z:F b with
     |some ob =>
      have:=hF b ob z;rw[e]at this;cases this;exact oO z
     |none=>rw[jy z];exact un.gr b o u (by rw[jo z];exact e)
    ·obtain⟨h1,h2⟩:=old e λ_ z=>nomatch z
     rw[jy h1];exact un.gB b ps h2
   exact⟨v,gc H' F,I.Ih os CH (Pq hok hn' hg') bare λb z=>absurd z (by simp),rv,q hn'⟩
end
open Classical in
def qM(i n:Nat)(cS:List (π×List Str×(List D->aa->R D)))(a:aj):af:=λe c=>match e[i]? with
 |some (ζ (.lam k E ns l))=>match cS[k]? with
  |some t=>if E=t.1/\ns=t.2.1 then(a e c).bind λxs c=>if xs.length=n/\eU xs=θ/\eU l=θ then t.2.2 (xs++l) c else .bad else .bad
  |none=>.bad
 |_=>.bad
def aak{X:Cx}(i:Nat){n:Nat}{cS:List (π×List Str×(List D->aa->R D))}{x:Str}{e:π}{es:List π}{da:aj}{p pos:Pos}(hT:∀t∈cS,∃k,kW X.prog X.w X.K X.mg X.base k t.1 t.2.1 n (bQ X.K (n+t.2.1.length) t.2.2)/\cN k X.A)(ha:gE X (e::es) da)
  (hN:X.N[i]? = ζ x:=by rfl) (hv:BH X.env.scope x:=by first|exact Or.inl rfl|exact Or.inr (Or.inl rfl)|exact Or.inr (Or.inr rfl)) (hd:(x==("__debug__":Str))=Δ:=by decide)
  (hcd:(x==("__classdict__":Str))=Δ:=by decide) (he:μ (e::es) X.env=(Δ,eval e X.env)::μ es X.env:=by exact c7 rfl) (hpl:(abE pos (μ es X.env)).any (·.1)=Δ:=by exact gW rfl) :
  bg X (.Call (.Name x p) (e::es) [] pos) (qM i n cS da):=by
 intro pins s σ H Q I h;obtain⟨ρ,ev,c,W,Vv,q⟩:=h;unfold qM at q;split at q
 ·rename_i kk Ex ns l hf;obtain⟨v,hσ,rl⟩:=Vv.get i _ hf;obtain⟨a,o,qn,cc,cl,cs,rfl,ha1,hobj,hcc,hcl,hcs,hrs⟩:=id rl;split at q
  ·rename_i t ht;split at q
   ·rename_i hzy;obtain⟨rfl,rfl⟩:=hzy;obtain⟨k,G,hr⟩:=hT _ (aoq ht);refine apq (bL (LS hN hv hd hcd pins s σ H (λv H1=>v=.ref a/\H1=H) I ⟨_,hσ,rfl,rfl⟩) λu s1 ⟨v,H1,I1,r1,q1⟩=>?_)
    obtain⟨rfl,rfl⟩:=q1;cases r1;have hdata:∃fd,o.data=.func fd:=by
     cases hE:t.1 with
     |Lambda params body scope lp =>
      rw[hE]at hobj;obtain⟨pm,ctv,rfl⟩:=hobj;exact⟨_,rfl⟩
     |_=>rw[hE]at hobj;exact hobj.elim
    obtain⟨fd,hdata⟩:=hdata;refine akp hdata (bL (ha pos pins s1 σ H1 (λvs H2=>∃aI xs c1,Wd X.K aI H2 c1/\Ext ρ H1 aI H2/\aK X.K aI H2 xs vs/\xs.length=n/\eU xs=θ/\eU l=θ/\post X.K (Rel X.K) (t.2.2 (xs++l) c1) aI H2 Q) I1 ⟨ρ,ev,c,W,Vv,post.bind q λxs c1 aI H2 vs _ W1 X1 r1 p1=>?_⟩) λus s2 ⟨vs,H2,I2,r2,aI,xs,c1,W1,X1,rx,hl,n1,n2,p1⟩=>?_) he hpl
    ·split at p1
     ·rename_i hc;exact⟨aI,xs,c1,W1,X1,r1,hc.1,hc.2.1,hc.2.2,p1⟩
     ·exact p1.elim
    ·obtain⟨a',o',qn',cc',cl',cs',ea,ha2,agt,agU,agS,ON,Ou⟩:=Rel.mono W X1 _ _ rl;cases ea;have eo:o=o':=by
      have e1:=(X1.keep a _ ha1 (λm=>by obtain⟨ys,z⟩:=W.at' m;rw[z]at ha1;cases ha1) rfl).1
      have g1:=(I2.hok a _ e1).1;have g2:=(I2.hok a _ ha2).1;have g1':s2.heap.get? a=ζ o:=g1;have Po:s2.heap.get? a=ζ o':=g2;rw[g1']at Po;exact an6 Po
     subst eo;refine⟨(I2.hok a _ ha2).1,?_⟩;refine Xi (cs:=cs') G hr I2 ha2 agt agU agS ON r2 (by rw[rx.length];exact hl) λF hF=>?_
     refine⟨aI,xs++l,c1,Ka W1 hF,aK.append (aK.c9 hF xs vs n1 rx) (aK.c9 hF l cs' n2 Ou),by rw[aon,hl,<-Ou.length,ON.length],?_⟩
     cases hm:t.2.2 (xs++l) c1 with
     |bad=>rw[hm]at p1;exact p1.elim
     |ok d c2 =>
      rw[hm]at p1;intro ρ' H4 b W4 X4 r4 OA;obtain⟨X5,W5⟩:=Kc W4 OA;exact p1 ρ' (gc H4 F) b W5 (ah5 X4 W4 hF OA) (Rel.mono W4 X5 d b r4)
   ·exact q.elim
  ·exact q.elim
 ·exact q.elim
@[simp] theorem Te(i n:Nat)(cS:List (π×List Str×(List D->aa->R D)))(a:aj)(e:Ev)(c:aa){k:Nat}{Ex:π}{ns:List Str}{l:List D}{m:List D->aa->R D}(h:e[i]? = ζ (ζ (.lam k Ex ns l)))(ht:cS[k]? = ζ (Ex,ns,m)):qM i n cS a e c=(a e c).bind λxs c=>if xs.length=n/\eU xs=θ/\eU l=θ then m (xs++l) c else .bad:=by
 unfold qM;rw[h];dsimp only;rw[ht];dsimp only;rw[if_pos ⟨rfl,rfl⟩]
def i8(d:af):List D->aa->R D:=λxs c=>d (xs.map ζ) c
def XQ{K:Θ}{ρ:List Ψ}{H:Hp}{xs:List D}{vs:List V}(r:aK K ρ H xs vs):cR K ρ H (xs.map ζ) (vs.map ζ):=by
 refine⟨λi d h=>?_,by rw[an2,an2,r.length]⟩
 rw[aoH]at h;cases e:xs[i]? with
 |none=>rw[e]at h;cases h
 |some y =>
  rw[e]at h;cases h;obtain⟨v,hv,rv⟩:=r.get e;exact⟨v,by rw[aoH,hv];rfl,rv⟩
def DT{P:τ}{w:ψ}{K:Θ}{mg:Str->Option Ξ}{base:υ}{k:Nat}{params:agc}{body:π}{scope:ac4}{pos:Pos}{ps ns:List Str}{d:af}(S:rF ps ns scope)
  (hbind:∀(q:Str) (cl:List (Str×Ψ)) (pm cdv ct:Ξ) (us:List Ξ),us.length=ps.length->bindArgs (PySem.W.kla_fn "<lambda>" q params body scope cl pm cdv ct) ⟨us,[]⟩=pure (ps.zip us))
  (hb:∀(q:Str) (f:Ψ) (cd:Ξ) (cl:List (Str×Ψ)) (A:χ) (outer:List Env) (s:Ω) (H:Hp),cN k (A.deeper (PySem.W.envX q scope s.heap.objs.size f cd cl))->bg (xB P w K mg base (ps++ns) q scope f cd cl A outer s H) body d) :
  kW P w K mg base (k+1) (.Lambda params body scope pos) ns ps.length (bQ K (ps.length+ns.length) (i8 d)) :=
 aeC S hbind λq f cd cl A outer s H vs Q hr h=>⟨_,hb q f cd cl A outer s H hr,by
  obtain⟨ρ,xs,c,W,r,hl,p⟩:=h;exact⟨ρ,xs.map ζ,c,W,XQ r,p⟩⟩
section
variable {P:τ}{w:ψ}{K:Θ}{mg:Str->Option Ξ}{base:υ}
def Gh{x:Str}{st:aar}{f:Ψ}{fd:ο}{N ps:List Str}{k n m:Nat}{own:Bool}{d:ah}(F:j7 K x x st f fd)(hn:ξ K Γ x=ζ (ζ (.ref f)))(S:cB N ps (aW st))(hN:N.length=n)(hm:ps.length=m)
  (hb:∀(cdv:Ξ) (A:χ) (outer:List Env) (s:Ω) (H:Hp) (E:XK),(∀c P,PySem.W.tabIn K x=ζ (c,P)->cdv=.ref c)->cN k (A.deeper (envOfC x (aW st) s.heap.objs.size f cdv))->cj (fW bO P w K mg base N x (aW st) f cdv A outer s H E).fP (cu st) d) :
  bU P w K mg base bO (k+1) f fd ps (bQ K m (ck n own d)):=by
 obtain⟨oc,od,kV,doc,pm,an,BB,ct,osl,hfd,lk,hcd⟩:=F.ex;have key:∀(cdv:Ξ),(∀(A:χ) (outer:List Env) (s:Ω) (H:Hp) (E:XK),cN k (A.deeper (envOfC x (aW st) s.heap.objs.size f cdv))->cj (fW bO P w K mg base N x (aW st) f cdv A outer s H E).fP (cu st) d)->cdv=BB->bU P w K mg base bO (k+1) f fd ps (bQ K m (ck n own d)):=by
  intro cdv hb' e;subst e;subst hN;subst hm;subst hfd;refine Gj lk hcd S (λvs H Q E h=>?_) λA outer s H vs Q E hr h=>⟨_,fE.fP (hb' A outer s H E hr),?_⟩
  ·obtain⟨ρ,xs,c,W,r,hl,p⟩:=h;exact r.length.trans hl
  ·obtain⟨ρ,xs,c,W,r,hl,p⟩:=h;refine⟨ρ,cF N.length xs,c,W,cR.start r,post.bind p λfl c1 aI H1 b _ W1 X1 r1 p1=>?_⟩
   cases fl with
   |nx e1 =>
    obtain⟨σ1,rfl,V1⟩:=r1;exact uL (v:=.aF) (x:=.aF) (H1:=H1) W W1 X1 rfl (by
     unfold ck at p;exact id (α:=post K (Rel K) (cA own c.length .aF c1) ρ H Q) (by
      rename_i he;rw[he]at p;exact p))
   |rt d =>
    obtain⟨v,rfl,V1⟩:=r1;exact uL (v:=d) (x:=v) (H1:=H1) W W1 X1 V1 (by
     unfold ck at p;rename_i he;rw[he]at p;exact p)
   |bk e1=>exact p1.elim
   |ct e1=>exact p1.elim
 refine key BB (λA outer s H E hr=>hb BB A outer s H E (λc P' ht=>?_) hr) rfl
 unfold PySem.W.tabIn at ht;rw[hn]at ht;dsimp only at ht;rw[lk,hfd]at ht;dsimp only at ht;cases BB with
 |ref c' =>
  dsimp only at ht;split at ht
  ·split at ht
   ·cases ht;rfl
   ·cases ht
  ·cases ht
 |_=>cases ht
end
def alH(H:Hp)(ts:List Ψ):Prop:=∀b,H b=η\/(∃o xs,H b=ζ (.cT o (.lst xs)))\/(b∈ts/\H b=ζ (.cS #[]))
def aeA{P:τ}{w:ψ}{K:Θ}{mg mb:Str->Option Ξ}{k:Nat}{fa a:Ψ}{fd:ο}{x:Str}{sp:Sp}{s₁:Ω}{vs:List Ξ}{ns:List Int}{ts:List (Ψ×Ψ)}
  (KX:K.In s₁.heap) (hns:s₁.heap.Ns Γ mg) (hb:s₁.heap.Ns builtinsNs mb) (F4:∀x:Str,x≠"__name__"->mb x=bootBuiltins x) (hlim:s₁.heap.NoLimit)
  (hbm:∃bm ob,mg "__builtins__"=ζ (.ref bm)/\bm≠builtinsNs/\s₁.heap.get? bm=ζ ob/\ob.cls=.type "module"/\ob.dict=ζ builtinsNs/\ob.data=.plain) (hg:s₁.gens=#[])
  (ha:s₁.heap.get? a=ζ {cls:=.type "list",data:=.seq vs.toArray}) (hi:agl vs ns) (hl:ns.length<=ε) (hr:cN k callerA)
  (F6:∀q∈ts,PySem.W.codeHdIn K q.1 q.2=θ/\s₁.heap.get? q.2=ζ (PySem.W.tabObj #[])) (hKt:PySem.W.noTabs K=θ)
  (F:∀base:υ,K.In base->base.Ns Γ mg->bU P w K mg base bO k fa fd [x] sp) (hbind:∀(s:Ω) (u:Ξ),agy s fd ⟨[u],[]⟩ [(x,u)])
  (gb:∀H:Hp,(∀q∈ts,H q.2=ζ (.cS #[]))->bY K H a (ns.map V.int)->sp [.ref a] H (λv _=>v=.bl θ) λ_ _ _=>False) :
  codeAny (model P w) callerA (.call (.ref fa) ⟨[.ref a],[]⟩) (λr s'=>r=.ok (.ret (.bool θ))/\OldK s₁.heap s'.heap/\s'.os=s₁.os/\aga s'.gens) s₁:=by
 have rv:=Kp hi;have aer:=hi.length;have oG:∀b,b∈ts.map (·.2)->s₁.heap.get? b=ζ (PySem.W.tabObj #[]):=λb h=>by
  obtain⟨q,hq,rfl⟩:=aoa.mp h;exact(F6 q hq).2
 have nat:a∉ts.map (·.2):=λh=>by have:=oG a h;rw[ha]at this;cases this
 have core:∀H:Hp,alH H (ts.map (·.2))->(∀q∈ts,H q.2=ζ (.cS #[]))->bY K H a (ns.map V.int)->cQ P w H s₁.heap->(∀b,H b≠η->b=a\/b∈ts.map (·.2))->(H a≠η->K.lookup a=η) ->
   codeAny (model P w) callerA (.call (.ref fa) ⟨[.ref a],[]⟩) (λr s'=>r=.ok (.ret (.bool θ))/\OldK s₁.heap s'.heap/\s'.os=s₁.os/\aga s'.gens) s₁:=by
  intro H hO hT hS hok hA hK;have Jl:∀{b:Ψ}{o:Obj},s₁.heap.get? b=ζ o->H b=η->(lU s₁.heap H).get? b=ζ o:=λe n=>agJ e n
  have noB:∀{b:Ψ}{o:Obj},s₁.heap.get? b=ζ o->o.cls≠.type "list"->o.cls≠.none->H b=η:=fun{b o} e d1 d2=>by
   cases q:H b with
   |none=>rfl
   |some u =>
    rcases hA b (by rw[q];simp)with e'|e'
    ·subst e';rw[ha]at e;cases e;exact absurd rfl d1
    ·rw[oG b e']at e;cases e;exact absurd rfl d2
  have lB:∀{b:Ψ}{o:Obj}{es:Array DictEntry}{ep:Nat},s₁.heap.get? b=ζ o->o.data=.dict es ep->H b=η:=fun{b o es ep} e d=>by
   cases q:H b with
   |none=>rfl
   |some u =>
    rcases hA b (by rw[q];simp)with e'|e'
    ·subst e';rw[ha]at e;cases e;have d':Data.seq vs.toArray _=Data.dict es ep:=d;cases d'
    ·rw[oG b e']at e;cases e;have d':Data.fields #[]=Data.dict es ep:=d;cases d'
  have zM:∀{b:Ψ}{m:Str->Option Ξ},s₁.heap.Ns b m->(lU s₁.heap H).Ns b m:=fun{b m} ⟨o,es,ep,e,d,r⟩=>⟨o,es,ep,Jl e (lB e d),d,r⟩
  have OX:K.In (lU s₁.heap H):=λb o e=>Jl (KX b o e) (by
   cases q:H b with
   |none=>rfl
   |some u =>
    rcases hA b (by rw[q];simp)with e'|e'
    ·subst e';rw[hK (by rw[q];simp)]at e;cases e
    ·have h1:=KX b o e;rw[oG b e']at h1;cases h1;have h2:=aoo.mp hKt (b,_) (PySem.W.mem_of_lookupK e);exact absurd (show Δ=θ from h2) aoi)
  have hM:Mod K mg (lU s₁.heap H):=⟨OX,zM hns,⟨mb,zM hb,F4⟩,let⟨mc,h1,h2⟩:=hlim;⟨mc,zM h1,h2⟩,let⟨bm,ob,b1,b2,b3,b4,b5⟩:=hbm;⟨bm,ob,b1,b2,Jl b3 (noB b3 (by rw[b4];simp) (by rw[b4];simp)),b4,b5⟩⟩
  have e0:kY P w K mg (lU s₁.heap H) callerA [] s₁ H:=⟨rfl,hM,λb o e=>abo e,aoY (agI _ _),trivial,λb hb=>absurd (show b∈([]:List Ψ)from hb) (by simp),hok,.of_eq hg⟩
  refine aoU ((F _ OX (zM hns)).run callerA [] s₁ H ⟨[.ref a],[]⟩ [.ref a] [.ref a] _ _ hr e0 (hbind s₁ (.ref a)) (.cons rfl .nil) (gb H hT hS)) λr s' h=>?_
  cases r with
  |error e=>exact False.elim h
  |ok fl =>
   cases fl with
   |next=>exact False.elim h
   |brk=>exact False.elim h
   |cont=>exact False.elim h
   |ret u =>
    obtain⟨v,H',os,bare,un,Ag,r',q⟩:=h;have q':v=.bl θ:=q;subst q';obtain rfl:u=Value.bool θ:=r';have main:∀b o,s₁.heap.get? b=ζ o->s'.heap.get? b=ζ o\/(b∈ts.map (·.2)/\o=PySem.W.tabObj #[]/\∃ps,s'.heap.get? b=ζ (PySem.W.tabObj ps)):=λb o e=>by
     rcases hO b with z|⟨ob,xs,z⟩|⟨hm,z⟩
     ·exact .inl (un.keep b o e z (by intro z;exact absurd (show b∈([]:List Ψ)from z) (by simp)) (by simp))
     ·have z2:=un.gr b ob _ z;obtain⟨e1,_⟩:=hok b _ z;obtain⟨e2,_⟩:=Ag b _ z2;rw[e]at e1;cases e1;exact .inl e2
     ·obtain⟨more,z2⟩:=un.gB b _ z;have e2:s'.heap.get? b=ζ (PySem.W.tabObj (#[]++more)):=Ag b _ z2;have e1:=oG b hm;rw[e]at e1;cases e1;exact .inr ⟨hm,rfl,_,e2⟩
    refine⟨rfl,⟨λb o e=>?_,λb o e=>?_⟩,os,bare⟩
    ·rcases main b o e with z|⟨hm,rfl,ps,z⟩
     ·exact .inl z
     ·obtain⟨q,hq,rfl⟩:=aoa.mp hm;have hC:=ash KX (F6 q hq).1;exact .inr (.inl ⟨(hC.tab (F6 q hq).2).isCodeTable,rfl,#[],ps,rfl,by rw[Array.empty_append];exact z⟩)
    ·rcases main b o e with z|⟨_,_,ps,z⟩
     ·exact⟨o,z⟩
     ·exact⟨_,z⟩
 have amm:∀(H:Hp) b,H b=ζ (.cS #[])->b∈ts.map (·.2)->fc P w H s₁.heap b (.cS #[]):=λH b _ h=>oG b h
 cases hk:K.lookup a with
 |some o =>
  have e:=KX a o hk;rw[ha]at e;cases e
  let H:Hp:=λb=>if b∈ts.map (·.2)then ζ (.cS #[])else η
  refine core H (λb=>?_) (λq hq=>if_pos (asl hq)) (.inr ⟨_,vs.toArray,_,hk,rfl,rfl,rfl,by rw[an3,aer];exact hl,by simpa using rv⟩) (λb u z=>?_) (λb z=>?_) λz=>absurd (if_neg nat) z
  ·by_cases hb:b∈ts.map (·.2)
   ·exact .inr (.inr ⟨hb,if_pos hb⟩)
   ·exact .inl (if_neg hb)
  ·by_cases hb:b∈ts.map (·.2)
   ·have z':=(if_pos hb).symm.trans z;cases z';exact oG b hb
   ·have z':=(if_neg hb).symm.trans z;cases z'
  ·by_cases hb:b∈ts.map (·.2)
   ·exact .inr hb
   ·exact absurd (if_neg hb) z
 |none =>
  let H:Hp:=λb=>if b∈ts.map (·.2)then ζ (.cS #[])else if b=a then ζ (.cT {cls:=.type "list",data:=.seq vs.toArray} (.lst (ns.map V.int)))else η
  have Ha:H a=ζ (.cT {cls:=.type "list",data:=.seq vs.toArray} (.lst (ns.map V.int))):=(if_neg nat).trans (if_pos rfl);refine core H (λb=>?_) (λq hq=>if_pos (asl hq)) (.inl (.inr ⟨_,Ha⟩)) (λb u z=>?_) (λb z=>?_) λ_=>hk
  ·by_cases hb:b∈ts.map (·.2)
   ·exact .inr (.inr ⟨hb,if_pos hb⟩)
   ·by_cases hb2:b=a
    ·exact .inr (.inl ⟨_,_,(if_neg hb).trans (if_pos hb2)⟩)
    ·exact .inl ((if_neg hb).trans (if_neg hb2))
  ·by_cases hb:b∈ts.map (·.2)
   ·have z':=(if_pos hb).symm.trans z;cases z';exact oG b hb
   ·by_cases hb2:b=a
    ·have z':=((if_neg hb).trans (if_pos hb2)).symm.trans z;cases z';subst hb2;exact⟨ha,by rw[an2];exact hl,vs,_,rv,ha⟩
    ·have z':=((if_neg hb).trans (if_neg hb2)).symm.trans z;cases z'
  ·by_cases hb:b∈ts.map (·.2)
   ·exact .inr hb
   ·by_cases hb2:b=a
    ·exact .inl hb2
    ·exact absurd ((if_neg hb).trans (if_neg hb2)) z
def CJ(K:Θ)(ts:List (Ψ×Ψ)):Bool:=oz.all λx=>match PySem.W.tabIn K x with
 |some q=>decide (q∈ts)
 |none=>θ
def UU{K:Θ}{H:Hp}{ts:List (Ψ×Ψ)}(h:CJ K ts=θ)(hT:∀q∈ts,H q.2=ζ (.cS #[])):o9 K H:=λx hx c P e=>by
 have:=aoo.mp h x hx;rw[e]at this;exact⟨#[],hT (c,P) (of_decide_eq_true this),trivial,λpos cv z=>by cases z⟩
def Tw{l:agv}{n k:Nat}{q:τ}{loose:List Str}{XP:(Str->Option Ξ)->υ->Prop}{YP:ψ->υ->Prop}{d:DefRec}{K:Params->Θ}{x:Str}{m:List D->aa->R D}{ts:List (Ψ×Ψ)}
  (hn:l.most=ζ n) (hn2:n<=ε) (hdf:d.params.defaults=[]) (hr:cN k callerA)
  (hY:∀(w:ψ) (h:υ),YP w h->(K w.params).In h/\∀q∈ts,h.get? q.2=ζ (PySem.W.tabObj #[]))
  (hK:∀p,(ts.all λq=>PySem.W.codeHdIn (K p) q.1 q.2)=θ/\PySem.W.noTabs (K p)=θ/\CJ (K p) ts=θ)
  (F:∀(w:ψ) (mg:Str->Option Ξ) (fa:Ψ) (h:υ),(K w.params).In h->h.Ns Γ mg->mg d.name=ζ (.ref fa) ->
   ∃fd:ο,(∀(s:Ω) (u:Ξ),agy s fd ⟨[u],[]⟩ [(x,u)]) /\
    ∀base:υ,(K w.params).In base->base.Ns Γ mg->bU l.prog w (K w.params) mg base bO k fa fd [x] (bQ (K w.params) 1 m))
  (hm:∀ns:List Int,ns.length<=n->∃c,m [.b7 ns] []=.ok (.bl θ) c) :
  PySem.W.WalkO q loose XP YP l.row.toRowW d [] (λf vs=>PySem.call f vs):=by
 refine Sz.akG hn hdf λw s₀ s₁ mg mb fa o pm cd doc a vs ns G Y ho hd hcd hmg hobj hints hlen hg=>?_
 obtain⟨KX,hT⟩:=hY w _ Y;obtain⟨fd,hb,hF⟩:=F w mg fa _ KX G.T.g hmg;obtain⟨k1,k2,k3⟩:=hK w.params;refine aeA (ts:=ts) KX G.T.g G.T.b G.T.builtins G.T.nolimit G.T.bmain hg hobj hints (aom hlen hn2) hr (λq hq=>⟨aoo.mp k1 q hq,hT q hq⟩) k2 hF hb λH h1 h2=>?_
 obtain⟨c,hc⟩:=hm ns hlen;refine⟨[],[.b7 ns],[],⟨.nil,rfl,λk a cl e=>(by cases e),UU k3 h1⟩,⟨.ref a,[],rfl,⟨a,rfl,?_⟩,rfl⟩,rfl,?_⟩
 ·rcases h2 with hS|hS
  ·exact .inl ⟨hS,by simp⟩
  ·exact .inr (.inr hS)
 ·rw[hc];exact λρ' H' b _ _ r=>r
section
variable {X:Cx}{pins:List (Ψ×Obj)}{σ:St}{H:Hp}{s:Ω}
def Inv.ZF{S I:Ψ}{oS oI:Obj}(J:Inv X pins σ H s)(hS:s.heap.get? S=ζ oS)(hI:s.heap.get? I=ζ oI)(fS:eG X pins H S)(fI:eG X pins H I)(nS:∀v,oS.data≠.cell v)(nI:∀v,oI.data≠.cell v):Inv X (pins++[(S,oS),(I,oI)]) σ H s :=
 J.wR λp hp=>by
  rcases aou.mp hp with hp|hp
  ·exact J.pin p (aoB _ hp)
  ·rcases anW.mp hp with rfl|hp
   ·exact⟨hS,fS.1,fS.2.1,fS.2.2.1,nS⟩
   ·rw[aoO.mp hp];exact⟨hI,fI.1,fI.2.1,fI.2.2.1,nI⟩
end
section
variable {X:Cx}{ns:List Str}{js:List Nat}{scope:ac4}
def Rg{K:Θ}{ρ:List Ψ}{H:Hp}{e:Ev}{σ:St}(Vv:cR K ρ H e σ):∀(js:List Nat) (l:List D),getAll e js=ζ l->∃cs,aK K ρ H l cs/\cs.length=js.length/\∀(i j:Nat),js[i]? = ζ j->∃v,cs[i]? = ζ v/\σ[j]? = ζ (ζ v)
 |[],l,h=>by
  unfold getAll at h;cases h;exact⟨[],rfl,rfl,λi j z=>by simp at z⟩
 |j::js,l,h=>by
  unfold getAll at h;split at h
  ·rename_i d r hd hr;cases h;obtain⟨v,hv,rv⟩:=Vv.get j d hd;obtain⟨cs,h1,h2,h3⟩:=Rg Vv js r hr;refine⟨v::cs,⟨v,cs,rfl,rv,h1⟩,by simp[h2],λi k z=>?_⟩
   cases i with
   |zero=>cases z;exact⟨v,rfl,hv⟩
   |succ i=>exact h3 i k z
  ·cases h
end
abbrev Pb:=SetTable.Probe
def als(m:Nat)(p:Pb):Pb:=if p.more>0 then{p with j:=p.j+1,more:=p.more-1}else{p with j:=(p.i*5+1+p.perturb/32) % (m+1),more:=SetTable.runEnd m ((p.i*5+1+p.perturb/32) % (m+1))-(p.i*5+1+p.perturb/32) % (m+1),i:=(p.i*5+1+p.perturb/32) % (m+1),perturb:=p.perturb/32}
def N8(m:Nat):Nat->Pb->Pb
 |0,p=>p
 |n+1,p=>N8 m n (als m p)
def YC(m i q:Nat):Pb:=⟨i,SetTable.runEnd m i-i,i,q,η⟩
def Vy(m:Nat)(h:Int):Pb:=YC m (SetTable.bits h % (m+1)) (SetTable.bits h)
def vM(m:Nat)(h:Int)(n:Nat):Nat:=(N8 m n (Vy m h)).j
def Reach(m:Nat)(P:Nat->Prop)(h:Int)(j:Nat):Prop:=∃n,n<10*(m+15)/\vM m h n=j/\∀k,k<n->P (vM m h k)
structure CovH (h:Int):Prop where
 go:∀m,wX m->jB m (10*(m+15)) (SetTable.bits h % (m+1)) (SetTable.runEnd m (SetTable.bits h % (m+1))-SetTable.bits h % (m+1)) (SetTable.bits h % (m+1)) (SetTable.bits h) 0=θ
 lay:∀m,p8 m->qN m (m+15) (SetTable.bits h % (m+1)) (SetTable.bits h) 0=θ
structure TblT (t:afI) (es:Array (Int×Ξ)):Prop where
 size:t.place.size=es.size
 up:Up t.place.toList
 le:∀j∈t.place.toList,j<=t.mask
 dm:t.dummies=#[]
 mask:(t.mask=7/\es.size<=4)\/(t.mask=31/\es.size<=18)\/(t.mask=127/\es.size<=76)
 reach:∀q∈t.place.toList.zip es.toList,Reach t.mask (·∈t.place.toList) q.2.1 q.1
def hT(ks:List Int):Int:=reduceHash (Builtin.Tuple.tupleHashOf (ks.map hashInt))
def hP(n:Nat):Int:=hT [((n/8:Nat):Int),((n % 8:Nat):Int)]
section
variable {prog:τ}{w:ψ}{A:χ}{s:Ω}{E:Ξ->Ω->Prop}
set_option maxHeartbeats 3200000 in
end
def aL:D->Option (List Int)
 |.tup [.int i,.int j]=>if 0<=i/\i<8/\0<=j/\j<8 then ζ [i,j]else η
 |_=>η
def uJ(l:List D)(c:aa):R D:=if bI l=θ then .ok (.ref c.length) (c++[.lst l])else .bad
def Bw(s:Ev->aa->R Src)(pick:List (Option Nat))(g:Gd)(t:ai)(el:af):af:=λe c=>(s e c).bind λs c =>
 if s.items.length<ε then(bz s.stays g t el s.items (dH pick e) [] c).bind uJ else .bad
section
variable {X:Cx}{N':List Str}{pick:List (Option Nat)}{scope:ac4}{tg elt iter:π}{ifs:List π}{pos:Pos}{ds:Ev->aa->R Src}{g:Gd}{dt:ai}{de:af}
def aj0{K:Θ}{aI:List Ψ}{H1:Hp}{c1:aa}{e:Ev}{σ:St}{s:Src}{J:It}{Q:VK}(W1:Wd K aI H1 c1)(V1:cR K aI H1 e σ)(j1:JS K aI H1 s J)(hn:s.items.length<ε)
  (p1:post K (Rel K) ((bz s.stays g dt de s.items e [] c1).bind uJ) aI H1 Q):JH J (r8 K g) (tD K (λ_ _ a b=>a=b) dt) (tD K (Rel K) de) Q σ H1:=by
 refine⟨λi m σ ys H=>∃ρ e acc c,Wd K ρ H c/\Ext aI H1 ρ H/\cR K ρ H e σ/\aK K ρ H acc ys/\acc.length<=i/\i<=s.items.length/\m=s.items.length-i/\post K (Rel K) ((bz s.stays g dt de (s.items.drop i) e acc c).bind uJ) ρ H Q,
  ⟨_,aI,e,[],c1,W1,Ext.refl,V1,rfl,anU _,aoz _,rfl,p1⟩,?_⟩
 rintro i m σ2 ys H2 ⟨cE,e2,acc,c2,W2,X2,V2,r2,ha,hi2,rfl,p2⟩
 refine⟨by rw[r2.length];omega,?_⟩
 by_cases hl:i<s.items.length
 ·rw[aqg hl]at p2;unfold bz at p2;split at p2
  ·rename_i hst;obtain⟨go,yl⟩:=(j1 cE H2 c2 W2 X2 hst i).1 _ (anZ hl);refine .inr ⟨go,λσ' ys' H'=>∃ρ e acc c,Wd K ρ H' c/\Ext aI H1 ρ H'/\cR K ρ H' e σ'/\aK K ρ H' acc ys'/\acc.length<=i+1/\i+1<=s.items.length/\post K (Rel K) ((bz s.stays g dt de (s.items.drop (i+1)) e acc c).bind uJ) ρ H' Q,?_,λx H3 hy=>?_⟩
   ·rintro σ' ys' H' ⟨ρ,e,acc,c,w,x,v,r,a,l,q⟩
    exact⟨s.items.length-(i+1),by omega,ρ,e,acc,c,w,x,v,r,a,l,rfl,q⟩
   ·obtain⟨W3,X3,r3⟩:=yl x H3 hy;have assoc:∀{α β γ:Type}(r:R α) (f:α->aa->R β) (g:β->aa->R γ),(r.bind f).bind g=r.bind λa c=>(f a c).bind g:=λr f g=>by cases r<;>rfl
    rw[assoc]at p2;refine⟨cE,_,e2,c2,W3,V2.mono W2 X3,r3,post.bind (post.ext p2 X3) λe4 c4 gk H4 JL _ W4 X4 V4 p4=>?_⟩
    rw[assoc]at p4;refine⟨gk,e4,c4,W4,V4,post.bind p4 λk c5 j8 H5 b _ W5 X5 r5 p5=>?_⟩
    cases r5;have o7:=((X2.trans X3).trans X4).trans X5;have wO:=aK.mono W2 ((X3.trans X4).trans X5) _ _ r2;cases k with
    |true =>
     refine lQ ?_;rw[if_pos rfl,assoc]at p5;refine⟨j8,e4,c5,W5,V4.mono W4 X5,post.bind p5 λy c6 BV H6 v _ W6 X6 r6 p6=>?_⟩
     refine⟨BV,e4,acc++[y],c6,W6,o7.trans X6,(V4.mono W4 X5).mono W5 X6,(aK.mono W5 X6 _ _ wO).append ⟨v,[],rfl,r6,rfl⟩,by simp;exact ha,hl,p6⟩
    |false =>
     refine lR ?_;rw[if_neg aoi]at p5;exact⟨j8,e4,acc,c5,W5,o7,V4.mono W4 X5,wO,arO ha,hl,p5⟩
  ·exact p2.elim
 ·obtain rfl:i=s.items.length:=by omega
  rw[aqY (anU _)]at p2;unfold bz at p2;split at p2
  ·rename_i hst;have p2:post K (Rel K) (if bI acc=θ then .ok (.ref c2.length) (c2++[.lst acc])else .bad) cE H2 Q:=p2
   split at p2
   ·rename_i nr;exact .inl ⟨(j1 cE H2 c2 W2 X2 hst _).2 rfl,zR W2 nr r2 p2⟩
   ·exact p2.elim
  ·exact p2.elim
def ajZ{σ:St}{H:Hp}{Q:VK}{K:Θ}(h:tD K (Rel K) (Bw ds pick g dt de) σ H Q):yX (CP K ds) pick (r8 K g) (tD K (λ_ _ a b=>a=b) dt) (tD K (Rel K) de) σ H Q:=by
 obtain⟨ρ,e,c,W,V,p⟩:=h;refine⟨ρ,e,c,W,V,post.bind p λs c1 aI H1 J _ W1 X1 j1 p1=>?_⟩
 split at p1
 ·rename_i hn;exact aj0 W1 (V.mono W X1).picked j1 hn p1
 ·exact p1.elim
def Mb(S:cI X N' pick scope)(hit:PId X tg iter ds)
  (hg:∀cl C s₀ H₀ ex pn,nu (fB X N' scope cl C s₀ H₀ ex pn) tg g) (hi:∀cl C s₀ H₀ ex pn,yq (fB X N' scope cl C s₀ H₀ ex pn) ifs dt) (he:∀cl C s₀ H₀ ex pn,bg (fB X N' scope cl C s₀ H₀ ex pn) elt de)
  (hc:X.calm=θ:=by rfl) (hs:∀x,foldedSetIterable iter X.env x=pure x:=by intro _;rfl) :
  bg X (.ListComp elt [⟨tg,iter,ifs,0⟩] scope pos) (Bw ds pick g dt de):=(LY S hc hit hg hi he hs).imp λσ H Q h=>ajZ h
end
@[simp] theorem Td(sr:Ev->aa->R Src)(pick:List (Option Nat))(g:Gd)(ta:ai)(a:af)(e:Ev)(c:aa):Bw sr pick g ta a e c=(sr e c).bind λq c =>
 if q.items.length<ε then(bz q.stays g ta a q.items (dH pick e) [] c).bind uJ else .bad:=rfl
end L2
namespace HT
open PySem PySem.Spec PyProof.Rows
section
variable {prog:τ}{w:ψ}{A:χ}{E:Ξ->Ω->Prop}{s:Ω}
def XG{k:Int}{tk:Tok}{l:Ψ}{items:Array Ξ}{Q:Ξ->Ω->Prop}(ht:IsTup s.heap l items)(h:Q .notImplemented s):wpAny (model prog w) A (call (.builtin "int.__rmul__") [.int k tk,.ref l]) Q E s:=by
 obtain⟨o,hg,hc,n,hd⟩:=ht;refine apd ap5 (apQ s k tk) F.entry_int_rmul ?_ (F.args_int_rmul_2 _ _);show wpAny _ _ (asInt? (.ref l) >>= _) _ _ s;unfold asInt?;refine anS (anS (wpAny_load hg ?_));rw[hd];refine anT ?_;refine anS (apg ?_);exact anT ⟨_,rfl,h⟩
def ad7{l:Ψ}{items:Array Ξ}{k:Int}{tk:Tok}{Q:Ξ->Ω->Prop}(ht:IsTup s.heap l items)(h0:items.size≠0)(h1:1<k)(hk:k<2^63)(h2:items.size*k.toNat<=ε)
  (h:Q (.ref s.heap.objs.size) {s with heap:=s.heap.push {cls:=.type "tuple",data:=.seq (List.foldl (λx1 x2=>x1++x2) #[] (ν k.toNat items))} })
  (hsz:(List.foldl (λx1 x2=>x1++x2) #[] (ν k.toNat items)).size<=ε):wpAny (model prog w) A (call (.builtin "tuple.__mul__") [.ref l,.int k tk]) Q E s:=by
 refine apd F.slot_tuple_mul ht.typeIs F.entry_tuple_mul ?_ (F.args_tuple_mul_2 _ _);have hi:(items.size:Int)*k=((items.size*k.toNat:Nat):Int):=by
  rw[Int.natCast_mul,asm (by omega)]
 have hem:items.isEmpty=Δ:=by
  rw[Array.isEmpty];simp[h0]
 have n1:¬((decide (k < -2^63)||decide (k ≥ 2^63))=θ):=by
  have a:¬k < -2^63:=by omega
  have b:¬k ≥ 2^63:=by omega
  rw[decide_eq_false a,decide_eq_false b]
  decide
 show wpAny _ _ (if(decide (k < -2^63)||decide (k ≥ 2^63))=θ then _ else _) _ _ s
 rw[if_neg n1];show wpAny _ _ (Builtin.Tuple.tupleItemsOf (.ref l) >>= _) _ _ s;refine anS (tupleItemsOf_ ht ?_);have n2:¬((items.isEmpty||k==1)=θ):=by
  rw[hem];have:¬k=1:=by omega
  simp[this]
 show wpAny _ _ (if(items.isEmpty||k==1)=θ then _ else _) _ _ s
 rw[if_neg n2];have n3:¬((decide (k<=0)||items.isEmpty)=θ):=by
  rw[hem];have:¬k<=0:=by omega
  simp[this]
 show wpAny _ _ (if(decide (k<=0)||items.isEmpty)=θ then _ else _) _ _ s
 rw[if_neg n3];have n4:¬((items.size:Int)*k>(2^63-1)/8):=by
  rw[hi];have:(ε:Nat)<=(2^63-1)/8:=by decide
  omega
 show wpAny _ _ (if(items.size:Int)*k>(2^63-1)/8 then _ else _) _ _ s
 rw[if_neg n4];have n5:¬(Builtin.Tuple.tupleTooMany ((items.size:Int)*k)=θ):=by
  unfold Builtin.Tuple.tupleTooMany;rw[hi];intro q;have:=of_decide_eq_true q;omega
 show wpAny _ _ (if Builtin.Tuple.tupleTooMany ((items.size:Int)*k)=θ then _ else _) _ _ s
 rw[if_neg n5]
 first
  |exact anS (m:=Builtin.Tuple.tupleExact _) (apA (anT ⟨_,rfl,anT h⟩) hsz)
  |exact anS (m:=Builtin.Tuple.tupleExact _) (apA (anT ⟨_,rfl,h⟩) hsz)
  |exact anS (anS (m:=Builtin.Tuple.tupleExact _) (apA (anT (anT ⟨_,rfl,anT h⟩)) hsz))
end
end HT
namespace L2
open PySem PySem.Spec PyProof.Rows
def pW:D->D->aa->R D:=λx y c=>match x,y with
 |.tup l,.int k=>if l.length≠0/\1<k/\k<2^63/\l.length*k.toNat<=ε then .ok (.tup (ν k.toNat l).flatten) c else .bad
 |_,_=>.bad
def X7(K:Θ):R2:=λx y H Q=>∃a k xs,x=.ref a/\y=.int k/\cg K H a xs/\xs.length≠0/\1<k/\k<2^63/\xs.length*k.toNat<=ε /\
 ∀p,H p=η->Q (.ref p) (upd H p (.tup (ν k.toNat xs).flatten))
def aax{X:Cx}:bS X (binaryOp .Mult) (X7 X.K):=by
 intro pins s σ H x y v u Q I rx ry h;obtain⟨l,k,xs,rfl,rfl,hH,h0,h1,h2,hz,q⟩:=h;cases rx;obtain⟨t,rfl⟩:=ry;obtain⟨its,r,ht,hs⟩:=I.tuple hH;have hlen:its.toArray.size=xs.length:=by rw[an3];exact r.length.symm
 have hnew:List.foldl (λx1 x2=>x1++x2) #[] (ν k.toNat its.toArray)=(ν k.toNat its).flatten.toArray:=by
  have:=foldl_rep its k.toNat [];rw[an9]at this;exact this
 have hl2:(ν k.toNat xs).flatten.length<=ε:=by rw[len_rep,Nat.mul_comm];exact hz
 have hrr:=r.rep k.toNat;refine arE (T:="tuple") (U:="int") (id:="tuple.__mul__") (by decide) ht.typeIs (λs'=>apQ s' k t) (by with_unfolding_all rfl) F.fills_int_mul ap5 (by with_unfolding_all rfl) F.slot_int_index.lookup
  (HT.XG ht ⟨rfl,ht.typeIs,HT.ad7 ht (by rw[hlen];exact h0) h1 h2 (by rw[hlen];exact hz) ?_ (by rw[hnew,an3,<-hrr.length];exact hl2)⟩)
 rw[hnew];refine⟨.ref s.heap.objs.size,_,I.laid (t':=s.toks) (o:=.tup (ν k.toNat xs).flatten) (λb ob q=>anY _ q) (anU _) ?_,rfl,q _ (I.hok.fresh (anU _))⟩
 exact⟨hl2,_,hrr,j5.new _ _⟩
def abw{X:Cx}:bS X (binaryOp .Mult) (r2 X.K pW):=by
 intro pins s σ H v u vv uu Q I rv ru h;obtain⟨ρ,x,y,c,W,rx,ry,p⟩:=h;unfold pW at p;split at p
 ·split at p
  ·rename_i hl;obtain⟨a,xs,rfl,sa,ra⟩:=rx;cases ry;exact aax pins s σ H _ _ vv uu Q I rv ru ⟨a,_,xs,rfl,rfl,cg.of sa,by rw[ra.length];exact hl.1,hl.2.1,hl.2.2.1,by rw[ra.length];exact hl.2.2.2,xj W (aK.rep ra _) p⟩
  ·exact p.elim
 ·exact p.elim
variable (e:Ev) (c:aa)
end L2
namespace L2
open PySem PySem.Spec PyProof.Rows PySem.W
def ahy:Bool->agj->Array agj->Nat->Nat->Nat->StateT abR Sem (Option Nat):=sortPriv% PySem.Builtin.gallop
def aef:Array agj->Array agj->StateT abR Sem (Array agj):=sortPriv% PySem.Builtin.mergeLo
def iA{γ:Type}(g:Nat->γ->Option (Bool×γ)):List Nat->γ->Option γ
 |[],c=>ζ c
 |x::l,c=>match g x c with
  |none=>η
  |some (θ,c')=>ζ c'
  |some (Δ,c')=>iA g l c'
section
variable (lt:Nat->Nat->Bool) (N:Nat)
def o6(x y:Nat):Option Bool:=if x<N/\y<N then ζ (lt x y)else η
def yg(p:Array Nat)(i j:Nat):Option Bool:=match p[i]?,p[j]? with
 |some x,ζ y=>o6 lt N x y
 |_,_=>η
def Pn(p:Array Nat)(lo:Nat)(_ n:Nat):Option (Bool×Nat):=match yg lt N p (lo+n) (lo+n-1)with
 |some θ=>ζ (θ,n)
 |some Δ=>ζ (Δ,n+1)
 |none=>η
def countM(p:Array Nat)(lo nrem:Nat):Option Nat:=match iA (Pn lt N p lo) (List.range' 1 (nrem-1)) 1 with
 |some n=>if(n==nrem)=θ then ζ n else if n>1 then(match yg lt N p lo (lo+n-1)with
  |some θ=>ζ n
  |_=>η)else η
 |none=>η
def Pk(p:Array Nat)(lo k:Nat)(_:Nat)(c:Nat×Nat):Option (Bool×(Nat×Nat)) :=
 if c.1 ≥ c.2 then ζ (θ,c)else match yg lt N p (lo+k) (lo+(c.1+c.2)/2)with
  |some θ=>ζ (Δ,(c.1,(c.1+c.2)/2))
  |some Δ=>ζ (Δ,((c.1+c.2)/2+1,c.2))
  |none=>η
def xR(lo:Nat)(k:Nat)(p:Array Nat):Option (Bool×Array Nat):=match iA (Pk lt N p lo k) (List.range' 0 k) (0,k)with
 |some c=>ζ (Δ,bubble p (lo+k) (lo+k-(lo+c.1)))
 |none=>η
def Jj(p:Array Nat)(lo n ok:Nat):Option (Array Nat):=iA (xR lt N lo) (List.range' (max ok 1) (n-max ok 1)) p
def u9(left:Bool)(key:Nat)(q:Array Nat)(base i:Nat):Option Bool:=match q[base+i]? with
 |some x=>if left=θ then o6 lt N x key else(o6 lt N key x).map (!·)
 |none=>η
def gR(left:Bool)(key:Nat)(q:Array Nat)(base hint mx:Nat)(_:Nat)(c:Nat×Nat):Option (Bool×(Nat×Nat)) :=
 if c.2 ≥ mx then ζ (θ,c)else match u9 lt N left key q base (hint+c.2)with
  |some θ=>ζ (Δ,(c.2,2*c.2+1))
  |some Δ=>ζ (θ,c)
  |none=>η
def gL(left:Bool)(key:Nat)(q:Array Nat)(base hint mx:Nat)(_:Nat)(c:Nat×Nat):Option (Bool×(Nat×Nat)) :=
 if c.2 ≥ mx then ζ (θ,c)else match u9 lt N left key q base (hint-c.2)with
  |some θ=>ζ (θ,c)
  |some Δ=>ζ (Δ,(c.2,2*c.2+1))
  |none=>η
def gM(left:Bool)(key:Nat)(q:Array Nat)(base:Nat)(_:Nat)(c:Nat×Nat):Option (Bool×(Nat×Nat)) :=
 if c.1 ≥ c.2 then ζ (θ,c)else match u9 lt N left key q base (c.1+(c.2-c.1)/2)with
  |some θ=>ζ (Δ,(c.1+(c.2-c.1)/2+1,c.2))
  |some Δ=>ζ (Δ,(c.1,c.1+(c.2-c.1)/2))
  |none=>η
def Ar(left:Bool)(key:Nat)(q:Array Nat)(base n:Nat)(c:Nat×Nat):Option Nat:=match iA (gM lt N left key q base) (List.range' 0 n) c with
 |some c=>ζ c.2
 |none=>η
def Aq(left:Bool)(key:Nat)(q:Array Nat)(base n hint:Nat):Option Nat:=match u9 lt N left key q base hint with
 |some θ=>(match iA (gR lt N left key q base hint (n-hint)) (List.range' 0 n) (0,1)with
  |some c=>Ar lt N left key q base n (hint+c.1+1,hint+min c.2 (n-hint))
  |none=>η)
 |some Δ=>(match iA (gL lt N left key q base hint (hint+1)) (List.range' 0 n) (0,1)with
  |some c=>Ar lt N left key q base n (hint+1-min c.2 (hint+1),hint-c.1)
  |none=>η)
 |none=>η
structure Mg where
 r:Option (Array Nat)
 out:Array Nat
 ia:Nat
 ib:Nat
 ac:Nat
 bc:Nat
def Gf(a b:Array Nat)(_:Nat)(c:Mg):Option (Bool×Mg):=match b[c.ib]?,a[c.ia]? with
 |some x,ζ y=>(match o6 lt N x y with
  |some θ=>if(c.ib+1==b.size)=θ then ζ (θ,⟨ζ (c.out.push x++a.extract c.ia++b.extract (c.ib+1)),c.out.push x,c.ia,c.ib+1,0,c.bc+1⟩)
    else if c.bc+1 ≥ 7 then η else ζ (Δ,⟨η,c.out.push x,c.ia,c.ib+1,0,c.bc+1⟩)
  |some Δ=>if(c.ia+1+1==a.size)=θ then ζ (θ,⟨ζ (c.out.push y++b.extract c.ib++a.extract (c.ia+1)),c.out.push y,c.ia+1,c.ib,c.ac+1,0⟩)
    else if c.ac+1 ≥ 7 then η else ζ (Δ,⟨η,c.out.push y,c.ia+1,c.ib,c.ac+1,0⟩)
  |none=>η)
 |_,_=>η
def DM(a b:Array Nat):Option (Array Nat):=match b[0]? with
 |some x=>if(1==b.size)=θ then η else if(0+1==a.size)=θ then η else(match iA (Gf lt N a b) (List.range' 0 (a.size+b.size)) ⟨η,#[x],0,1,0,0⟩with
  |some c=>c.r
  |none=>η)
 |none=>η
end
section
variable {prog:τ}{w:ψ}{A:χ}{E:Ξ->Ω->Prop}{κ:SortKind}{it:Array agj}{s:Ω}
def Runs(prog:τ)(w:ψ)(A:χ)(E:Ξ->Ω->Prop)(s:Ω){α:Type}(m:StateT abR Sem α)(st:abR)(a:α)(st':abR):Prop :=
 ∀Q:α->abR->Ω->Prop,Q a st' s->kasC (model prog w) A E m Q st s
def Runs.pure{α:Type}{a:α}{st:abR}:Runs prog w A E s (Pure.pure a) st a st:=λ_ h=>aoL h
def Runs.bind{α β:Type}{m:StateT abR Sem α}{f:α->StateT abR Sem β}{st st' st2:abR}{a:α}{b:β}(h:Runs prog w A E s m st a st')(g:Runs prog w A E s (f a) st' b st2):Runs prog w A E s (m >>= f) st b st2 :=
 λQ hq=>aph (h _ (g Q hq))
def Runs.get{st:abR}:Runs prog w A E s (MonadState.get:StateT abR Sem abR) st st st:=λ_ h=>apu h
def Runs.modify{f:abR->abR}{st:abR}:Runs prog w A E s (_root_.modify f:StateT abR Sem PUnit) st ⟨⟩ (f st):=λ_ h=>kasC_modify h
def Runs.rule{t:String}{st:abR}:Runs prog w A E s (liftM (PySem.rule t):StateT abR Sem Unit) st () st:=λ_ h=>kasC_lift (apg h)
def Runs.loop{β γ:Type}{f:Nat->β->StateT abR Sem (ForInStep β)}{g:Nat->γ->Option (Bool×γ)}(φ:γ->β)(S:γ->abR)
  (hb:∀x c d c',g x c=ζ (d,c')->Runs prog w A E s (f x (φ c)) (S c) (if d=θ then .done (φ c')else .yield (φ c')) (S c')) :
  ∀(l:List Nat) (c c':γ),iA g l c=ζ c'->Runs prog w A E s (forIn l (φ c) f) (S c) (φ c') (S c')
 |[],c,c',h=>by
  cases h;intro Q hq;exact kasC_nil hq
 |x::l,c,c',h=>by
  intro Q hq;unfold iA at h;refine aoP ?_;cases hg:g x c with
  |none=>rw[hg]at h;cases h
  |some r =>
   obtain⟨d,c1⟩:=r;rw[hg]at h;refine hb x c d c1 hg _ ?_;cases d with
   |true=>cases h;exact hq
   |false=>exact Runs.loop φ S hb l c1 c' h Q hq
def Runs.range{β γ:Type}{a b:Nat}{f:Nat->β->StateT abR Sem (ForInStep β)}{g:Nat->γ->Option (Bool×γ)}(φ:γ->β)(S:γ->abR)
  (hb:∀x c d c',g x c=ζ (d,c')->Runs prog w A E s (f x (φ c)) (S c) (if d=θ then .done (φ c')else .yield (φ c')) (S c')) {c c':γ}(h:iA g (List.range' a (b-a)) c=ζ c') :
  Runs prog w A E s (forIn [a:b] (φ c) f) (S c) (φ c') (S c'):=λQ hq=>api (Runs.loop φ S hb _ c c' h Q hq)
def bZ(κ:SortKind)(it:Array agj)(p:Array Nat)(pd:Array (Nat×Nat×Nat)):abR:=SortSt.mk' κ (p.map (kas_item it)) pd 7 η
def kZ(prog:τ)(w:ψ)(A:χ)(κ:SortKind)(it:Array agj)(s:Ω)(lt:Nat->Nat->Bool)(N:Nat):Prop :=
 ∀i j,i<N->j<N->∀C:Bool->Ω->Prop,C (lt i j) s->kas_cmp prog w A κ it i j C s
variable {lt:Nat->Nat->Bool}{N:Nat}{p:Array Nat}{pd:Array (Nat×Nat×Nat)}
def akI{x y:Nat}{c:Bool}(h:o6 lt N x y=ζ c):(x<N/\y<N)/\lt x y=c:=by
 unfold o6 at h;split at h
 ·rename_i q;cases h;exact⟨q,rfl⟩
 ·cases h
def yp(hc:kZ prog w A κ it s lt N){x y:Nat}{c:Bool}(h:o6 lt N x y=ζ c):Runs prog w A E s (lt' (kas_item it x) (kas_item it y)) (bZ κ it p pd) (ζ c) (bZ κ it p pd):=λQ hq=>by
 obtain⟨⟨h1,h2⟩,rfl⟩:=akI h;rw[lt'_eq];refine aph (apu ?_);refine aph (kasC_lift (aqa (aoe (hc x y h1 h2 (λc s'=>c=lt x y/\s'=s) ⟨rfl,rfl⟩) (λc s' hc=>?_) λ_ _ hF=>hF.elim)))
 obtain⟨rfl,rfl⟩:=hc;exact aoL hq
def kT{q:Array Nat}{i x:Nat}{st:abR}(h:q[i]? = ζ x):Runs prog w A E s (elem' (q.map (kas_item it)) i) st (kas_item it x) st:=by
 rw[elem'_eq,asn,h];exact Runs.pure
def yo(hc:kZ prog w A κ it s lt N){i j:Nat}{c:Bool}(h:yg lt N p i j=ζ c):Runs prog w A E s (ltAt' i j) (bZ κ it p pd) (ζ c) (bZ κ it p pd):=by
 unfold yg at h;rw[ltAt'_eq];split at h
 ·rename_i x y hx hy;exact Runs.bind Runs.get (Runs.bind (kT hx) (Runs.bind (kT hy) (yp hc h)))
 ·cases h
def Ju(hc:kZ prog w A κ it s lt N){lo nrem n:Nat}(h:countM lt N p lo nrem=ζ n):Runs prog w A E s (countRun' lo nrem) (bZ κ it p pd) (ζ n) (bZ κ it p pd):=by
 unfold countM at h;split at h
 ·rename_i m hm;rw[countRun'_eq];refine Runs.bind (Runs.range (λn=>((η,n):Option (Option Nat)×Nat)) (λ_=>bZ κ it p pd) (λx c d c' hg=>?_) hm) ?_
  ·unfold Pn at hg;split at hg
   ·rename_i q;cases hg;exact Runs.bind (yo hc q) Runs.pure
   ·rename_i q;cases hg;exact Runs.bind (yo hc q) Runs.pure
   ·cases hg
  ·dsimp only;split at h
   ·rename_i q;cases h;rw[if_pos q];exact Runs.pure
   ·rename_i q;rw[if_neg q];split at h
    ·rename_i q2;rw[if_pos q2];split at h
     ·rename_i q3;cases h;exact Runs.bind (yo hc q3) Runs.pure
     ·cases h
    ·cases h
 ·cases h
def Jv(hc:kZ prog w A κ it s lt N){lo n ok:Nat}{p':Array Nat}(h:Jj lt N p lo n ok=ζ p'):Runs prog w A E s (binarySort' lo n ok) (bZ κ it p pd) θ (bZ κ it p' pd):=by
 unfold Jj at h;rw[binarySort'_eq];refine Runs.bind (Runs.range (λ_=>((η,()):Option Bool×Unit)) (λp=>bZ κ it p pd) (λk p d p1 hg=>?_) h) Runs.pure
 unfold xR at hg;split at hg
 ·rename_i c hi;cases hg;refine Runs.bind (Runs.range (λc=>((η,c.1,c.2):Option Bool×Nat×Nat)) (λ_=>bZ κ it p pd) (λx c d c' hg=>?_) hi) ?_
  ·unfold Pk at hg;dsimp only;split at hg
   ·rename_i q;cases hg;rw[if_pos q];exact Runs.pure
   ·rename_i q;rw[if_neg q];split at hg
    ·rename_i q;cases hg;exact Runs.bind (yo hc q) Runs.pure
    ·rename_i q;cases hg;exact Runs.bind (yo hc q) Runs.pure
    ·cases hg
  ·refine Runs.bind (a:=()) (st':=bZ κ it (bubble p (lo+k) (lo+k-(lo+c.1))) pd) ?_ Runs.pure;rw[moveDown'_eq];intro Q hq;refine kasC_modify ?_;have e1:bubble (p.map (kas_item it)) (lo+k) (lo+k-(lo+c.1))=(bubble p (lo+k) (lo+k-(lo+c.1))).map (kas_item it):=kas_swaps_map (kas_item it) (λi=>lo+k-i) (λi=>lo+k-i-1) _ p
   have e:setArr (bZ κ it p pd) (bubble (arrOf (bZ κ it p pd)) (lo+k) (lo+k-(lo+c.1)))=bZ κ it (bubble p (lo+k) (lo+k-(lo+c.1))) pd:=by
    show SortSt.mk' κ (bubble (p.map (kas_item it)) (lo+k) (lo+k-(lo+c.1))) pd 7 η=SortSt.mk' κ ((bubble p (lo+k) (lo+k-(lo+c.1))).map (kas_item it)) pd 7 η;rw[e1]
   rw[e];exact hq
 ·cases hg
end
section
variable {prog:τ}{w:ψ}{A:χ}{E:Ξ->Ω->Prop}{κ:SortKind}{it:Array agj}{s:Ω}{lt:Nat->Nat->Bool}{N:Nat}{p:Array Nat}{pd:Array (Nat×Nat×Nat)}
def Rv(it:Array agj)(left:Bool)(key:Nat)(q:Array Nat)(base i:Nat):StateT abR Sem (Option Bool):=elem' (q.map (kas_item it)) (base+i) >>= λx=>if left=θ then lt' x (kas_item it key)else lt' (kas_item it key) x >>= λr=>pure (r.map λx=>!x)
def kU(hc:kZ prog w A κ it s lt N){left:Bool}{key base i:Nat}{q:Array Nat}{c:Bool}(h:u9 lt N left key q base i=ζ c):Runs prog w A E s (Rv it left key q base i) (bZ κ it p pd) (ζ c) (bZ κ it p pd):=by
 unfold u9 at h;unfold Rv;split at h
 ·rename_i x hx;refine Runs.bind (kT hx) ?_;split at h
  ·rename_i e;rw[if_pos e];exact yp hc h
  ·rename_i e;rw[if_neg e];cases ha:o6 lt N key x with
   |none=>rw[ha]at h;cases h
   |some d=>rw[ha]at h;cases h;exact Runs.bind (yp hc ha) Runs.pure
 ·cases h
def RH(hc:kZ prog w A κ it s lt N){left:Bool}{key base n hint r:Nat}{q:Array Nat}(h:Aq lt N left key q base n hint=ζ r):Runs prog w A E s (ahy left (kas_item it key) (q.map (kas_item it)) base n hint) (bZ κ it p pd) (ζ r) (bZ κ it p pd):=by
 unfold Aq at h;split at h
 ·rename_i hb;split at h
  ·rename_i c hi;refine Runs.bind (kU (left:=left) (key:=key) hc hb) ?_;refine Runs.bind (Runs.range (λc=>((η,c.1,c.2):Option (Option Nat)×Nat×Nat)) (λ_=>bZ κ it p pd) (λx c d c' hg=>?_) hi) ?_
   ·unfold gR at hg;dsimp only;split at hg
    ·rename_i q;cases hg;rw[if_pos q];exact Runs.pure
    ·rename_i q;rw[if_neg q];split at hg
     ·rename_i q;cases hg;exact Runs.bind (kU hc q) Runs.pure
     ·rename_i q;cases hg;exact Runs.bind (kU hc q) Runs.pure
     ·cases hg
   ·unfold Ar at h;split at h
    ·rename_i c2 hi2;cases h;refine Runs.bind (Runs.range (λc=>((η,c.1,c.2):Option (Option Nat)×Nat×Nat)) (λ_=>bZ κ it p pd) (λx c d c' hg=>?_) hi2) Runs.pure
     unfold gM at hg;dsimp only;split at hg
     ·rename_i q;cases hg;rw[if_pos q];exact Runs.pure
     ·rename_i q;rw[if_neg q];split at hg
      ·rename_i q;cases hg;exact Runs.bind (kU hc q) Runs.pure
      ·rename_i q;cases hg;exact Runs.bind (kU hc q) Runs.pure
      ·cases hg
    ·cases h
  ·cases h
 ·rename_i hb;split at h
  ·rename_i c hi;refine Runs.bind (kU (left:=left) (key:=key) hc hb) ?_;refine Runs.bind (Runs.range (λc=>((η,c.1,c.2):Option (Option Nat)×Nat×Nat)) (λ_=>bZ κ it p pd) (λx c d c' hg=>?_) hi) ?_
   ·unfold gL at hg;dsimp only;split at hg
    ·rename_i q;cases hg;rw[if_pos q];exact Runs.pure
    ·rename_i q;rw[if_neg q];split at hg
     ·rename_i q;cases hg;exact Runs.bind (kU hc q) Runs.pure
     ·rename_i q;cases hg;exact Runs.bind (kU hc q) Runs.pure
     ·cases hg
   ·unfold Ar at h;split at h
    ·rename_i c2 hi2;cases h;refine Runs.bind (Runs.range (λc=>((η,c.1,c.2):Option (Option Nat)×Nat×Nat)) (λ_=>bZ κ it p pd) (λx c d c' hg=>?_) hi2) Runs.pure
     unfold gM at hg;dsimp only;split at hg
     ·rename_i q;cases hg;rw[if_pos q];exact Runs.pure
     ·rename_i q;rw[if_neg q];split at hg
      ·rename_i q;cases hg;exact Runs.bind (kU hc q) Runs.pure
      ·rename_i q;cases hg;exact Runs.bind (kU hc q) Runs.pure
      ·cases hg
    ·cases h
  ·cases h
 ·cases h
abbrev cG(it:Array agj)(q:Array Nat):Array agj:=q.map (kas_item it)
def aec(q:Array Nat)(x:Nat):(cG it q).push (kas_item it x)=cG it (q.push x):=by simp
def Ny(q:Array Nat)(i j:Nat):(cG it q).extract i j=cG it (q.extract i j):=by simp
def jM(q:Array Nat):(cG it q).size=q.size:=by simp
def jt(it:Array agj)(c:Mg):Option (Array agj)×Array agj×Nat×Nat×Nat×Nat:=(c.r.map (cG it),cG it c.out,c.ia,c.ib,c.ac,c.bc)
def Runs.XU{β γ:Type}{a b:Nat}{f:Nat->β->StateT abR Sem (ForInStep β)}{g:Nat->γ->Option (Bool×γ)}(φ:γ->β)(S:γ->abR){c c':γ}{b0:β}(e:φ c=b0)(h:iA g (List.range' a (b-a)) c=ζ c')
  (hb:∀x c d c',g x c=ζ (d,c')->Runs prog w A E s (f x (φ c)) (S c) (if d=θ then .done (φ c')else .yield (φ c')) (S c')) :
  Runs prog w A E s (forIn [a:b] b0 f) (S c) (φ c') (S c'):=by subst e;exact Runs.range φ S hb h
def alF(hc:kZ prog w A κ it s lt N){a b r:Array Nat}(h:DM lt N a b=ζ r):Runs prog w A E s (aef (cG it a) (cG it b)) (bZ κ it p pd) (cG it r) (bZ κ it p pd):=by
 unfold DM at h;split at h
 ·rename_i x hx;split at h
  ·cases h
  ·rename_i e1;split at h
   ·cases h
   ·rename_i e2;split at h
    ·rename_i c hi;refine Runs.bind Runs.rule (Runs.bind (kT hx) ?_);dsimp only;rw[if_neg (by rw[jM];exact e1),if_neg (by rw[jM];exact e2)]
     refine Runs.bind Runs.get ?_;have en:List.range' 0 ((cG it a).size+(cG it b).size-0)=0::List.range' 1 ((cG it a).size+(cG it b).size-1):=by
      have:0<(cG it a).size+(cG it b).size:=by
       rw[jM,jM];have:=(Array.getElem?_eq_some_iff.mp hx).1;omega
      obtain⟨k,hk⟩:∃k,(cG it a).size+(cG it b).size=k+1:=⟨_,(Nat.succ_pred_eq_of_pos this).symm⟩;rw[hk];rfl
     obtain⟨z,hz⟩:∃z,c.r=ζ z:=⟨r,h⟩;refine Runs.bind (a:=(ζ (cG it r),cG it c.out,c.ia,c.ib,7)) (st':=bZ κ it p pd) (λQ hq=>api ?_) Runs.pure
     rw[en];refine aoP ?_;refine Runs.bind (a:=jt it c) (st':=bZ κ it p pd) (b:=.done (ζ (cG it r),cG it c.out,c.ia,c.ib,7)) (st2:=bZ κ it p pd) ?_ ?_ _ hq
     ·have hi':iA (Gf lt N a b) (List.range' 0 ((cG it a).size+(cG it b).size-0)) ⟨η,#[x],0,1,0,0⟩=ζ c:=by rw[jM,jM];exact hi
      refine Runs.XU (jt it) (λ_=>bZ κ it p pd) (by simp[jt]) hi' λ_ c d c' hg=>?_
      unfold Gf at hg;split at hg
      ·rename_i x1 y1 hb1 ha1;refine Runs.bind (kT hb1) (Runs.bind (kT ha1) ?_);split at hg
       ·rename_i q;refine Runs.bind (yp hc q) (Runs.bind (kT hb1) ?_);have e1:(cG it c.out).push (kas_item it x1)=cG it (c.out.push x1):=aec _ _;split at hg
        ·rename_i q2;cases hg;refine λQ hq=>?_
         show kasC _ _ _ (ite _ _ _) _ _ _;rw[if_pos (by rw[jM];exact q2)]
         refine aoL ?_;have e2:jt it ⟨ζ (c.out.push x1++a.extract c.ia++b.extract (c.ib+1)),c.out.push x1,c.ia,c.ib+1,0,c.bc+1⟩=(ζ ((cG it c.out).push (kas_item it x1)++(cG it a).extract c.ia++(cG it b).extract (c.ib+1)),(cG it c.out).push (kas_item it x1),c.ia,c.ib+1,0,c.bc+1):=by
          unfold jt;simp
         rw[e2]at hq;exact hq
        ·rename_i q2;split at hg
         ·cases hg
         ·rename_i q3;cases hg;refine λQ hq=>?_
          show kasC _ _ _ (ite _ _ (ite _ _ _)) _ _ _;rw[if_neg (by rw[jM];exact q2),if_neg (by exact q3)]
          refine aoL ?_;have e2:jt it ⟨η,c.out.push x1,c.ia,c.ib+1,0,c.bc+1⟩=(η,(cG it c.out).push (kas_item it x1),c.ia,c.ib+1,0,c.bc+1):=by
           unfold jt;simp
          rw[e2]at hq;exact hq
       ·rename_i q;refine Runs.bind (yp hc q) (Runs.bind (kT ha1) ?_);split at hg
        ·rename_i q2;cases hg;refine λQ hq=>?_
         show kasC _ _ _ (ite _ _ _) _ _ _;rw[if_pos (by rw[jM];exact q2)]
         refine aoL ?_;have e2:jt it ⟨ζ (c.out.push y1++b.extract c.ib++a.extract (c.ia+1)),c.out.push y1,c.ia+1,c.ib,c.ac+1,0⟩=(ζ ((cG it c.out).push (kas_item it y1)++(cG it b).extract c.ib++(cG it a).extract (c.ia+1)),(cG it c.out).push (kas_item it y1),c.ia+1,c.ib,c.ac+1,0):=by
          unfold jt;simp
         rw[e2]at hq;exact hq
        ·rename_i q2;split at hg
         ·cases hg
         ·rename_i q3;cases hg;refine λQ hq=>?_
          show kasC _ _ _ (ite _ _ (ite _ _ _)) _ _ _;rw[if_neg (by rw[jM];exact q2),if_neg (by exact q3)]
          refine aoL ?_;have e2:jt it ⟨η,c.out.push y1,c.ia+1,c.ib,c.ac+1,0⟩=(η,(cG it c.out).push (kas_item it y1),c.ia+1,c.ib,c.ac+1,0):=by
           unfold jt;simp
          rw[e2]at hq;exact hq
       ·cases hg
      ·cases hg
     ·unfold jt;rw[h];exact Runs.pure
    ·cases h
 ·cases h
end
section
variable (lt:Nat->Nat->Bool) (N:Nat)
def Dj(p:Array Nat)(sa:Nat)(r:Array Nat):Array Nat:=r.toList.zipIdx.foldl (λa x=>a.setIfInBounds (sa+x.2) x.1) p
def BF(p:Array Nat)(na nb:Nat):Option (Array Nat):=match p[na]? with
 |some x=>(match Aq lt N Δ x p 0 na 0 with
  |some k=>if(na-k==0)=θ then η else(match p[0+k+(na-k)-1]? with
   |some y=>(match Aq lt N θ y p na nb (nb-1)with
    |some zW=>if(zW==0)=θ then η else if na-k<=zW then(match DM lt N (p.extract (0+k) na) (p.extract na (na+zW))with
     |some r=>ζ (Dj p (0+k) r)
     |none=>η)else η
    |none=>η)
   |none=>η)
  |none=>η)
 |none=>η
def runM(p:Array Nat)(lo mr:Nat):Option (Array Nat×Nat):=match countM lt N p lo (p.size-lo)with
 |some n=>if n<mr then(match Jj lt N p lo (min (p.size-lo) mr) n with
  |some p'=>ζ (p',min (p.size-lo) mr)
  |none=>η)else ζ (p,n)
 |none=>η
def se(n:Nat):Option (Array Nat):=match runM lt N (Array.range n) 0 (minRun' n n 0)with
 |some (p,k)=>if k=n then ζ p else(match runM lt N p k (minRun' n n 0)with
  |some (p',k')=>if k+k'=n then BF lt N p' k k' else η
  |none=>η)
 |none=>η
end
section
variable {prog:τ}{w:ψ}{A:χ}{E:Ξ->Ω->Prop}{κ:SortKind}{it:Array agj}{s:Ω}{lt:Nat->Nat->Bool}{N:Nat}{p:Array Nat}{pd:Array (Nat×Nat×Nat)}
def Yw(r:List Nat):∀(k:Nat) (p:Array Nat) (sa:Nat),((r.map (kas_item it)).zipIdx k).foldl (λa x=>a.setIfInBounds (sa+x.2) x.1) (cG it p)=cG it ((r.zipIdx k).foldl (λa x=>a.setIfInBounds (sa+x.2) x.1) p):=by
 induction r with
 |nil=>intro k p sa;rfl
 |cons x r ih =>
  intro k p sa;simp only[an8,aqU,apR];have e:(cG it p).setIfInBounds (sa+k) (kas_item it x)=cG it (p.setIfInBounds (sa+k) x):=by
   apply Array.ext_getElem?;intro i;simp only[Array.getElem?_setIfInBounds,asn,Array.size_map];split
   ·split<;>simp
   ·rfl
  rw[e];exact ih (k+1) _ sa
def Runs.WC{st st' st2:abR}(e:st2=st'):Runs prog w A E s (MonadStateOf.set st2:StateT abR Sem PUnit) st ⟨⟩ st':=λ_ h=>by
 subst e;unfold kasC;show wpAny _ _ ((StateT.set st2:StateT abR Sem PUnit).run st) _ _ _;exact anT h
def ZU(na nb pw z:Nat):((#[(0,na,pw),(na,nb,z)]:Array (Nat×Nat×Nat)).setIfInBounds 0 (0,na+nb,pw)).eraseIdxIfInBounds 1=#[(0,na+nb,pw)]:=by
 simp[Array.setIfInBounds,Array.eraseIdxIfInBounds,Array.eraseIdx,Array.swap]
def alG(hc:kZ prog w A κ it s lt N){na nb pw z:Nat}{r:Array Nat}(h:BF lt N p na nb=ζ r):Runs prog w A E s (mergeAt' 0) (bZ κ it p #[(0,na,pw),(na,nb,z)]) θ (bZ κ it r #[(0,na+nb,pw)]):=by
 unfold BF at h;split at h
 ·rename_i x hx;split at h
  ·rename_i k hk;split at h
   ·cases h
   ·rename_i e1;split at h
    ·rename_i y hy;split at h
     ·rename_i zW hn;split at h
      ·cases h
      ·rename_i e2;split at h
       ·rename_i e3;split at h
        ·rename_i m hm;cases h;refine Runs.bind Runs.get ?_;refine Runs.bind (Runs.WC (st':=bZ κ it p #[(0,na+nb,pw)]) (congrArg (λz=>SortSt.mk' κ (cG it p) z 7 η) (ZU na nb pw z))) (Runs.bind (kT hx) (Runs.bind (RH hc hk) ?_))
         dsimp only;rw[if_neg e1];refine Runs.bind (kT hy) (Runs.bind (RH hc hn) ?_);dsimp only;rw[if_neg e2,if_pos e3];have em:=alF (prog:=prog) (w:=w) (A:=A) (E:=E) (κ:=κ) (it:=it) (s:=s) (p:=p) (pd:=#[(0,na+nb,pw)]) hc hm;rw[<-Ny,<-Ny]at em;refine Runs.bind em ?_;refine Runs.bind Runs.modify ?_;refine Runs.bind Runs.get ?_;have ep:=Yw (it:=it) m.toList 0 p (0+k);intro Q hq;refine aoL ?_;have et:(cG it m).toList=m.toList.map (kas_item it):=by simp
         rw[<-et]at ep;have hq':Q θ (SortSt.mk' κ (cG it (Dj p (0+k) m)) #[(0,na+nb,pw)] 7 η) s:=hq;unfold Dj at hq';rw[<-ep]at hq';exact hq'
        ·cases h
       ·cases h
     ·cases h
    ·cases h
  ·cases h
 ·cases h
def Lw{lo mr k:Nat}{p':Array Nat}(h:runM lt N p lo mr=ζ (p',k)):p'.size=p.size:=by
 have hb:∀(l:List Nat) (q q':Array Nat),iA (xR lt N lo) l q=ζ q'->q'.size=q.size:=by
  intro l
  induction l with
  |nil=>intro q q' z;cases z;rfl
  |cons x l ih =>
   intro q q' z;unfold iA at z;split at z
   ·cases z
   ·rename_i c hg;cases z;unfold xR at hg;split at hg<;>cases hg
   ·rename_i c hg;unfold xR at hg;split at hg
    ·cases hg;rw[ih _ _ z,bubble_size]
    ·cases hg
 unfold runM at h;split at h
 ·split at h
  ·split at h
   ·rename_i hh;cases h;exact hb _ _ _ hh
   ·cases h
  ·cases h;rfl
 ·cases h
def alE(hc:kZ prog w A κ it s lt N){n:Nat}{r:Array Nat}(h2:2<=n)(h:se lt N n=ζ r):∃pd,Runs prog w A E s sortRuns' (bZ κ it (Array.range n) #[]) () (bZ κ it r pd):=by
 obtain⟨m,rfl⟩:∃m,n=m+2:=⟨n-2,by omega⟩
 have hz:(Array.range (m+2)).size=m+2:=Array.size_range;have hz':∀p pd,(arrOf (bZ κ it p pd)).size=p.size:=λp pd=>by show(cG it p).size=_;exact jM p
 unfold se at h;split at h
 ·rename_i p k hr;have hp:p.size=m+2:=(Lw hr).trans hz;rw[sortRuns'_eq]
  by_cases ek:k=m+2
  ·rw[if_pos ek]at h;have eh:p=r:=by cases h;rfl
   subst eh;refine⟨#[(0,k,0)],Runs.bind Runs.get ?_⟩;simp only[hz',hz];refine Runs.bind (a:=(η,k)) (st':=bZ κ it p #[(0,k,0)]) (λQ hq=>api ?_) (Runs.bind (a:=(η,())) (st':=bZ κ it p #[(0,k,0)]) (λQ hq=>api ?_) Runs.pure)
   ·show kasC _ _ _ (forIn (0::1::List.range' 2 m) _ _) _ _ _;refine aoP ?_;dsimp only;rw[if_neg (by omega)]
    unfold runM at hr;rw[hz]at hr;split at hr
    ·rename_i n0 hn;refine Runs.bind (Ju hc hn) (b:=.yield (η,0+k)) (st2:=bZ κ it p #[(0,k,0)]) ?_ _ ?_
     ·dsimp only;split at hr
      ·rename_i q;rw[if_pos q];split at hr
       ·rename_i p1 hb;have e1:p1=p:=congrArg Prod.fst (an6 hr);have e2:_=k:=congrArg Prod.snd (an6 hr);subst e1;subst e2;refine Runs.bind Runs.rule (Runs.bind (Jv hc hb) (Runs.bind Runs.get ?_));rw[show ∀p,(pendingOf (bZ κ it p #[])).back? = η from λ_=>rfl]
        exact Runs.bind Runs.modify Runs.pure
       ·cases hr
      ·rename_i q;rw[if_neg q];have e1:_=p:=congrArg Prod.fst (an6 hr);have e2:n0=k:=congrArg Prod.snd (an6 hr);subst e1;subst e2;refine Runs.bind Runs.get ?_;rw[show ∀p,(pendingOf (bZ κ it p #[])).back? = η from λ_=>rfl]
       exact Runs.bind Runs.modify Runs.pure
     ·show kasC _ _ _ (forIn (1::List.range' 2 m) _ _) _ _ _;refine aoP ?_;dsimp only;rw[if_pos (by omega),aog]
      exact aoL hq
    ·cases hr
   ·show kasC _ _ _ (forIn (0::1::List.range' 2 m) _ _) _ _ _;refine aoP (aph (apu ?_));rw[if_pos (show(pendingOf (bZ κ it p #[(0,k,0)])).size<=1 from anU 1)]
    exact aoL hq
  ·rw[if_neg ek]at h;split at h
   ·rename_i p2 k2 hr2;split at h
    ·rename_i ekk;have hp2:p2.size=m+2:=(Lw hr2).trans hp;refine⟨#[(0,k+k2,power' (m+2) (2*0+k) (2*0+k+k+k2) (m+2))],Runs.bind Runs.get ?_⟩;simp only[hz',hz];refine Runs.bind (a:=(η,0+k+k2)) (st':=bZ κ it p2 #[(0,k,power' (m+2) (2*0+k) (2*0+k+k+k2) (m+2)),(0+k,k2,0)]) (λQ hq=>api ?_) (Runs.bind (a:=(η,())) (st':=bZ κ it r #[(0,k+k2,power' (m+2) (2*0+k) (2*0+k+k+k2) (m+2))]) (λQ hq=>api ?_) Runs.pure)
     ·show kasC _ _ _ (forIn (0::1::List.range' 2 m) _ _) _ _ _;refine aoP ?_;dsimp only;rw[if_neg (by omega)]
      unfold runM at hr;rw[hz]at hr;split at hr
      ·rename_i n0 hn;refine Runs.bind (Ju hc hn) (b:=.yield (η,0+k)) (st2:=bZ κ it p #[(0,k,0)]) ?_ _ ?_
       ·dsimp only;split at hr
        ·rename_i q;rw[if_pos q];split at hr
         ·rename_i p1 hb;have e1:p1=p:=congrArg Prod.fst (an6 hr);have e2:_=k:=congrArg Prod.snd (an6 hr);subst e1;subst e2;refine Runs.bind Runs.rule (Runs.bind (Jv hc hb) (Runs.bind Runs.get ?_));rw[show ∀p,(pendingOf (bZ κ it p #[])).back? = η from λ_=>rfl]
          exact Runs.bind Runs.modify Runs.pure
         ·cases hr
        ·rename_i q;rw[if_neg q];have e1:_=p:=congrArg Prod.fst (an6 hr);have e2:n0=k:=congrArg Prod.snd (an6 hr);subst e1;subst e2;refine Runs.bind Runs.get ?_;rw[show ∀p,(pendingOf (bZ κ it p #[])).back? = η from λ_=>rfl]
         exact Runs.bind Runs.modify Runs.pure
       ·show kasC _ _ _ (forIn (1::List.range' 2 m) _ _) _ _ _;refine aoP ?_;dsimp only;rw[if_neg (by omega)]
        unfold runM at hr2;rw[hp]at hr2;split at hr2
        ·rename_i n2 hn2;have agw:countM lt N p (0+k) (m+2-(0+k))=ζ n2:=by rw[aog];exact hn2
         refine Runs.bind (Ju hc agw) (b:=.yield (η,0+k+k2)) (st2:=bZ κ it p2 #[(0,k,power' (m+2) (2*0+k) (2*0+k+k+k2) (m+2)),(0+k,k2,0)]) ?_ _ ?_
         ·dsimp only;split at hr2
          ·rename_i q;rw[if_pos q];split at hr2
           ·rename_i p1 hb;have e1:p1=p2:=congrArg Prod.fst (an6 hr2);have e2:_=k2:=congrArg Prod.snd (an6 hr2);rw[<-aog k]at hb e2;dsimp only at e2;subst e1;rw[e2]at hb ⊢;refine Runs.bind Runs.rule (Runs.bind (Jv hc hb) (Runs.bind Runs.get ?_));rw[show ∀p,(pendingOf (bZ κ it p #[(0,k,0)])).back? = ζ (0,k,0)from λ_=>rfl]
            refine Runs.bind (a:=(η,())) (st':=bZ κ it p1 #[(0,k,0)]) (λQ hq=>api ?_) (Runs.bind Runs.modify (Runs.bind Runs.modify Runs.pure))
            show kasC _ _ _ (forIn (0::List.range' 1 (m+1)) _ _) _ _ _;exact aoP (aph (apu (aoL hq)))
           ·cases hr2
          ·rename_i q;rw[if_neg q];have e1:_=p2:=congrArg Prod.fst (an6 hr2);have e2:n2=k2:=congrArg Prod.snd (an6 hr2);subst e1;subst e2;refine Runs.bind Runs.get ?_;rw[show ∀p,(pendingOf (bZ κ it p #[(0,k,0)])).back? = ζ (0,k,0)from λ_=>rfl]
           refine Runs.bind (a:=(η,())) (st':=bZ κ it p #[(0,k,0)]) (λQ hq=>api ?_) (Runs.bind Runs.modify (Runs.bind Runs.modify Runs.pure))
           show kasC _ _ _ (forIn (0::List.range' 1 (m+1)) _ _) _ _ _;exact aoP (aph (apu (aoL hq)))
         ·dsimp only;cases m with
          |zero=>exact kasC_nil hq
          |succ m =>
           show kasC _ _ _ (forIn (2::List.range' 3 m) _ _) _ _ _;refine aoP ?_;dsimp only;rw[if_pos (by omega)]
           exact aoL hq
        ·cases hr2
      ·cases hr
     ·show kasC _ _ _ (forIn (0::1::List.range' 2 m) _ _) _ _ _;refine aoP (aph (apu ?_));rw[if_neg (show ¬(pendingOf (bZ κ it p2 #[(0,k,power' (m+2) (2*0+k) (2*0+k+k+k2) (m+2)),(0+k,k2,0)])).size<=1 from λz=>absurd (show 2<=1 from z) (by decide))]
      generalize power' (m+2) (2*0+k) (2*0+k+k+k2) (m+2)=PW at hq ⊢
      have ea:BF lt N p2 (0+k) k2=ζ r:=by rw[aog];exact h
      have em:=alG (prog:=prog) (w:=w) (A:=A) (E:=E) (κ:=κ) (it:=it) (s:=s) (pw:=PW) (z:=0) hc ea;rw[aog]at em ⊢;refine Runs.bind em (b:=.yield (η,())) (st2:=bZ κ it r #[(0,k+k2,PW)]) Runs.pure _ ?_;show kasC _ _ _ (forIn (1::List.range' 2 m) _ _) _ _ _;refine aoP (aph (apu ?_));rw[if_pos (show(pendingOf (bZ κ it r #[(0,k+k2,PW)])).size<=1 from anU 1)]
      exact aoL hq
    ·cases h
   ·cases h
 ·cases h
end
abbrev Lk:=Int×List Int
def yw(P:τ)(w:ψ)(h:υ)(k:Lk)(x:Ψ):Prop:=∃o n t y,h.get? x=ζ o/\o.cls=.type "tuple"/\o.data=.seq #[.int k.1 t,.ref y] n/\agu (intKind P w) h k.2 y
def iz:List Int->List Int->Bool
 |[],[]=>Δ
 |[],_::_=>θ
 |_::_,[]=>Δ
 |a::as,b::bs=>if a=b then iz as bs else decide (a<b)
def z8(j k:Lk):Bool:=if j.1=k.1 then iz j.2 k.2 else decide (j.1<k.1)
section
variable {prog:τ}{w:ψ}{A:χ}{E:Ξ->Ω->Prop}{s:Ω}
def aek{x y:List Int}{a b:Ψ}{P:agL->Ω->Prop}(hx:agu (intKind prog w) s.heap x a)(hy:agu (intKind prog w) s.heap y b)(h:P (.done (.ret (.bool (iz x y)))) s) :
  wpAny (model prog w) A (Builtin.«tuple.__lt__» ⟨[.ref a,.ref b],[]⟩) P E s:=by
 have hTb:=hy.typeIs;obtain⟨oa,xs,na,hoa,_,hda,hia⟩:=hx;obtain⟨ob,ys,nb,hob,_,hdb,hib⟩:=hy;show wpAny _ _ (isInstance (.ref b) (.type "tuple") >>= _) _ _ s;refine anS (apS hTb isSubtype_tuple_tuple ?_);simp only[aqo,aoX,if_false];refine anS (wpAny_tupleItemsOf hoa hda ?_);refine anS (wpAny_tupleItemsOf hob hdb ?_);refine anS ?_;refine wpAny_forIn_list _
  (λrest r s'=>r.1=η/\s'=s/\∃x' y' xs' ys',rest=List.zip xs' ys'/\ItemsAre (intKind prog w) x' xs'/\ItemsAre (intKind prog w) y' ys'/\iz x' y'=iz x y/\decide (xs'.length<ys'.length)=decide (xs.size<ys.size))
  _ ?_ ?_ _ _ ⟨rfl,rfl,x,y,xs.toList,ys.toList,rfl,hia,hib,rfl,by simp⟩
 ·rintro ⟨u,v⟩ rest r s' ⟨hr,rfl,x',y',xs',ys',hz,hx',hy',Aj,hlen⟩
  cases hx' with
  |nil=>simp at hz
  | @cons k1 u' x'' SO h1 agb =>
   cases hy' with
   |nil=>simp at hz
   | @cons k2 v' SJ SI h2 af5 =>
    simp only[arf,List.cons.injEq,Prod.mk.injEq]at hz;obtain⟨⟨rfl,rfl⟩,rfl⟩:=hz;refine anS ((intKind prog w).eqBool (a:=k1) (b:=k2) h1 h2 ?_)
    by_cases hk:k1=k2
    ·subst hk;rw[decide_eq_true rfl];simp only[aqo,aoX,if_false];refine anT ⟨rfl,rfl,x'',SJ,SO,SI,rfl,agb,af5,?_,by simpa using hlen⟩
     rw[<-Aj];simp[iz]
    ·rw[decide_eq_false hk];simp only[aq6,if_true];have hf:iz x y=decide (k1<k2):=by rw[<-Aj];simp[iz,hk]
     rw[hf]at h;obtain⟨t1,rfl⟩:=apL h1;obtain⟨t2,rfl⟩:=apL h2;refine anS (apg (anS (show wpAny _ _ (compareOp .Lt (.int k1 t1) (.int k2 t2)) _ _ _ from lt_int ?_)))
     exact anS (anT (anT (anT h)))
 ·rintro ⟨r1,r2⟩ s' ⟨hr,rfl,x',y',xs',ys',hz,hx',hy',Aj,hlen⟩
  simp only at hr;subst hr;refine anT ?_;have agN:decide (xs.size<ys.size)=iz x y:=by
   rw[<-Aj,<-hlen];cases hx' with
   |nil =>
    cases hy' with
    |nil=>simp[iz]
    |cons _ _=>simp[iz]
   |cons _ _ =>
    cases hy' with
    |nil=>simp[iz]
    |cons _ _=>simp at hz
  show P (.done (.ret (.bool (decide (xs.size<ys.size))))) s';rw[agN];exact h
def aej{x y:List Int}{a b:Ψ}{Q:Ξ->Ω->Prop}(hu:A.units<agh)(hx:agu (intKind prog w) s.heap x a)(hy:agu (intKind prog w) s.heap y b)(h:Q (.bool (iz x y)) s) :
  wpAny (model prog w) A (compareOp .Lt (.ref a) (.ref b)) Q E s :=
 show wpAny _ _ (richCompare .Lt _ _) _ _ _ from wpAny_richCompare_same_room (op:=.Lt) hx.typeIs hy.typeIs F.slot_tuple_lt
   (apd F.slot_tuple_lt hx.typeIs F.entry_tuple_lt (aek hx hy ⟨_,rfl,(λe=>nomatch e),h⟩) (F.args_tuple_lt_2 _ _)) hu
def aeQ{j k:Lk}{a b:Ψ}{Q:Bool->Ω->Prop}(hu:A.units<agh)(hx:yw prog w s.heap j a)(hy:yw prog w s.heap k b)(h:Q (z8 j k) s):wpAny (model prog w) A (keyLt' (tuples' θ) (.ref a) (.ref b)) Q E s:=by
 obtain⟨o,n,t,y,h1,h2,h3,h4⟩:=hx;obtain⟨o',n',t',y',g1,g2,g3,g4⟩:=hy;refine kat_lt h1 h3 g1 g3 ?_;show KatLex prog w A θ (decide (2<2)) Q [(.int j.1 t,.int k.1 t'),(.ref y,.ref y')] 0 s;refine kat_cons ((intKind prog w).eqBool (a:=j.1) (b:=k.1) (by simp[intKind,Value.isInt]) (by simp[intKind,Value.isInt]) ?_)
 unfold z8 at h
 by_cases e1:j.1=k.1
 ·rw[if_pos e1]at h;rw[decide_eq_true e1];refine kat_yes (kat_cons ((tupleKind (intKind prog w)).eqBool hu h4 g4 ?_))
  by_cases e2:j.2=k.2
  ·rw[decide_eq_true e2];refine kat_yes (kat_nil ?_);have:iz j.2 k.2=Δ:=by
    rw[e2]
    generalize k.2=l
    induction l with
    |nil=>rfl
    |cons a l ih=>simp[iz,ih]
   rw[this]at h
   simpa using h
  ·rw[decide_eq_false e2];refine kat_no (kat_one _ _ (aej hu h4 g4 ?_));exact h
 ·rw[if_neg e1]at h;rw[decide_eq_false e1];refine kat_no ?_;exact oneLt_int h
end
def KI{prog:τ}{w:ψ}{h:υ}:∀(L:List Ψ) (ks:List Lk),L.length=ks.length->(∀(i:Nat) a k,L[i]? = ζ a->ks[i]? = ζ k->yw prog w h k a)->∃fs:List Ξ,fs.length=L.length/\KatTups h (L.map Value.ref) fs/\∀v∈fs,∃i t,v=Value.int i t
 |[],_,_,_=>⟨[],rfl,.nil,λv hv=>by cases hv⟩
 |a::L,[],h,_=>by simp at h
 |a::L,k::ks,hl,hk=>by
  obtain⟨fs,h1,h2,h3⟩:=KI L ks (by simpa using hl) λi a k e1 e2=>hk (i+1) a k e1 e2
  obtain⟨o,n,t,y,g1,g2,g3,_⟩:=hk 0 a k rfl rfl;refine⟨.int k.1 t::fs,by simp[h1],KatTups.cons g1 g2 g3 rfl h2,λv hv=>?_⟩
  rcases anW.mp hv with rfl|hv
  ·exact⟨_,_,rfl⟩
  ·exact h3 v hv
def qv(ks:List Lk)(i j:Nat):Bool:=z8 (ks.getD i (0,[])) (ks.getD j (0,[]))
def VI{prog:τ}{w:ψ}{A:χ}{E:Ξ->Ω->Prop}{s:Ω}{L:List Ψ}{ks:List Lk}{vs:List Ξ}{p:Array Nat}{Q:abR->Ω->Prop}(hu:A.units<agh)(hl:L.length=ks.length)(hv:vs.length=ks.length)(hk:∀(i:Nat) a k,L[i]? = ζ a->ks[i]? = ζ k->yw prog w s.heap k a)(h2:2<=ks.length)
  (hp:se (qv ks) ks.length ks.length=ζ p) (h:∀st',(arrOf st').map (·.2)=List.toArray (p.toList.map λi=>vs.getD i Value.none)->failedOf st'=η->Q st' s) :
  wpAny (model prog w) A ((sortRuns').run (SortSt.mk' (tuples' θ) ((L.map Value.ref).toArray.zip vs.toArray) #[] 7 η)) (λr s'=>Q r.2 s') E s:=by
 have hlr:(L.map Value.ref).length=vs.length:=by rw[an2,hl,hv]
 have hit:∀i,kas_item ((L.map Value.ref).toArray.zip vs.toArray) i=((L.map Value.ref).getD i Value.none,vs.getD i Value.none):=kat_item hlr;have hc:kZ prog w A (tuples' θ) ((L.map Value.ref).toArray.zip vs.toArray) s (qv ks) ks.length:=λi j hi hj C hC=>by
  have gi:(L.map Value.ref).getD i Value.none=Value.ref (L[i]'(by omega)):=by simp[aof,show i<L.length by omega]
  have gj:(L.map Value.ref).getD j Value.none=Value.ref (L[j]'(by omega)):=by simp[aof,show j<L.length by omega]
  unfold kas_cmp;rw[hit i,hit j];show wpAny _ _ (keyLt' (tuples' θ) ((L.map Value.ref).getD i Value.none) ((L.map Value.ref).getD j Value.none)) _ _ _;rw[gi,gj];refine aeQ hu (hk i _ ks[i] (anZ (by omega)) (anZ hi)) (hk j _ ks[j] (anZ (by omega)) (anZ hj)) ?_
  have e:qv ks i j=z8 ks[i] ks[j]:=by simp[qv,aof,hi,hj]
  rw[<-e];exact hC
 obtain⟨pd,hr⟩:=alE (E:=E) hc h2 hp;have est:SortSt.mk' (tuples' θ) ((L.map Value.ref).toArray.zip vs.toArray) #[] 7 η=bZ (tuples' θ) ((L.map Value.ref).toArray.zip vs.toArray) (Array.range ks.length) #[]:=by
  have e:=kas_range ((L.map Value.ref).toArray.zip vs.toArray);rw[show((L.map Value.ref).toArray.zip vs.toArray).size=ks.length by simp[hl,hv]]at e
  unfold bZ;rw[<-List.toArray_range,e]
 rw[est];refine hr (λ_ st s'=>Q st s') (h _ ?_ rfl)
 exact kat_snds hlr rfl
section
variable {X:Cx}{pins:List (Ψ×Obj)}{σ:St}{H:Hp}{s:Ω}
def Inv.adopt{a:Ψ}{o:HO}(I:Inv X pins σ H s)(f:eG X pins H a)(new:fc X.prog X.w (upd H a o) s.heap a o):Inv X pins σ (upd H a o) s:=by
 have hn:=f.1;have ne:∀b u,H b=ζ u->b≠a:=λb u e z=>by rw[z,hn]at e;cases e
 refine⟨I.ok,I.os,I.bare,⟨I.base.keep,I.base.slot,λb u e n hx=>?_,I.base.there,λb xs e=>?_,λb u x e=>?_,λb ps e=>?_⟩,I.loc,I.cell,by rw[bD (aoD f.2.1)];exact I.free,λx c e=>by rw[bD (f.2.2.2.2.1 x c e)];exact I.fU x c e,λp hp=>?_,λb u e=>?_,I.len⟩
 ·have:b≠a:=λz=>by
   subst z
   rcases f.2.2.2.1 with q|q
   ·exact hx q
   ·exact absurd (an5 (anV e) q) (aot _)
  rw[bD this];exact I.base.free b u e n hx
 ·have q:=I.base.tups b xs e;rw[bD (ne _ _ q)];exact q
 ·have q:=I.base.gr b u x e;rw[bD (ne _ _ q)];exact q
 ·obtain⟨m,q⟩:=I.base.gB b ps e;exact⟨m,by rw[bD (ne _ _ q)];exact q⟩
 ·obtain⟨p1,p2,p3⟩:=I.pin p hp;exact⟨p1,by rw[bD (f.2.2.2.2.2 p hp)];exact p2,p3⟩
 ·by_cases hb:b=a
  ·subst hb;rw[fM]at e;cases e;exact new
  ·rw[bD hb]at e;exact(I.hok b u e).stay (λc v _ q=>q) (λc q=>by rw[bD (ne _ _ q)];exact q) λc xs q=>by rw[bD (ne _ _ q)];exact q
def vR(H:Hp)(a:Ψ)(k:Lk):Prop:=∃y,H a=ζ (.tup [.int k.1,.ref y])/\H y=ζ (.tup (k.2.map V.int))
def vR.ext{K:Θ}{ρ ρ':List Ψ}{H H':Hp}{c:aa}{a:Ψ}{k:Lk}(h:vR H a k)(W:Wd K ρ H c)(x:Ext ρ H ρ' H'):vR H' a k :=
 let⟨y,h1,h2⟩:=h;⟨y,pF W x h1,pF W x h2⟩
def items_int{P:τ}{w:ψ}:∀{ks:List Int}{us:List Ξ},Vals (ks.map V.int) us->ItemsAre (intKind P w) ks us
 |[],_,r=>by rw[aqR]at r;cases r;exact .nil
 |k::ks,_,r=>by
  rw[an8]at r;cases r with
  |cons h t =>
   obtain⟨t',rfl⟩:=h;exact .cons (by simp[intKind,Value.isInt]) (items_int t)
def NO{a:Ψ}{k:Lk}(ok:cQ X.prog X.w H s.heap)(h:vR H a k):yw X.prog X.w s.heap k a:=by
 obtain⟨y,h1,h2⟩:=h;obtain⟨_,its,hv,o,g1,g2,⟨n,g3⟩,_⟩:=ok a _ h1;obtain⟨_,its2,hv2,o2,k1,k2,⟨n2,k3⟩,_⟩:=ok y _ h2;cases hv with
 |cons r1 r2 =>
  cases r2 with
  |cons r3 r4 =>
   cases r4;obtain⟨t,rfl⟩:=r1;cases r3;exact⟨o,n,t,y,g1,g2,g3,o2,its2.toArray,n2,k1,k2,k3,by simpa using items_int hv2⟩
def Jy(X:Cx)(σ:St)(c:aa)(xs:List V)(q:Ψ)(ks:List Lk)(ie:List Ψ)(H0:Hp):Prop :=
 ∀(i:Nat) (x:V) (u:Ξ) (k:Lk),xs[i]? = ζ x->ks[i]? = ζ k->RelV x u->∀(pins:List (Ψ×Obj)) (ρ:List Ψ) (H:Hp) (s:Ω),Wd X.K ρ H c->Ext ie H0 ρ H->Inv X pins σ H s ->
  wpAny (model X.prog X.w) X.A.in1.in1 (call (.ref q) [u]) (λr s'=>∃a ρ' H',r=.ref a/\vR H' a k/\Wd X.K ρ' H' c/\Ext ρ H ρ' H'/\Inv X pins σ H' s') (λ_ _=>False) s
structure BN (X:Cx) (pins:List (Ψ×Obj)) (σ:St) (c:aa) (ks:List Lk) (ie:List Ψ) (H0:Hp) (a kS:Ψ) (e1:Nat) (j:Nat) (s:Ω) (ρ:List Ψ) (H:Hp) (L:List Ψ) (cc:Nat):Prop where
 len:L.length=j
 w:Wd X.K ρ H c
 x:Ext ie H0 ρ H
 i:Inv X pins σ H s
 hk:s.heap.get? kS=ζ (seqObj "list" (L.map Value.ref).toArray cc)
 ha:s.heap.get? a=ζ (seqObj "list" #[] e1)
 fk:eG X pins H kS
 fa:eG X pins H a
 lk:∀(i:Nat) b k,L[i]? = ζ b->ks[i]? = ζ k->vR H b k
def eG.new{H':Hp}{b:Ψ}(f:eG X pins H b)(h:H' b=η):eG X pins H' b:=⟨h,f.2⟩
variable {c:aa}{xs:List V}{l q a kS:Ψ}{ks:List Lk}{ie:List Ψ}{H0:Hp}{e1:Nat}{vs:List Ξ}
def aeJ{P:agL->Ω->Prop}{E:Ξ->Ω->Prop}(qE:a≠kS)(turn:Jy X σ c xs q ks ie H0)(hv:Vals xs vs)(hl:ks.length=xs.length)(h64:xs.length<=64){ρ:List Ψ}{cc:Nat}(K0:BN X pins σ c ks ie H0 a kS e1 0 s ρ H [] cc)
  (h:∀s' ρ H L cc,BN X pins σ c ks ie H0 a kS e1 xs.length s' ρ H L cc->wpAny (model X.prog X.w) X.A.in1.in1 (ksk_end a Δ vs.toArray e1 (.ref kS) (L.map Value.ref).toArray) P E s') :
  wpAny (model X.prog X.w) X.A.in1.in1 (ksk_rest a (.ref q) Δ vs.toArray e1 (.ref kS)) P E s:=by
 have hvl:=hv.length;unfold ksk_rest;refine anS (apg ?_);rw[List.forIn_toArray];refine anS (ksk_fold (λj s'=>∃ρ H L cc,BN X pins σ c ks ie H0 a kS e1 j s' ρ H L cc) vs 0 s ⟨ρ,H,[],cc,K0⟩ (λj x s' hx hI=>?_) λs' hI=>?_)
 ·obtain⟨ρ,H,L,cc,K⟩:=hI;have hj:j<vs.length:=(an7.mp hx).1;obtain⟨x1,Oo,rx⟩:∃x1,xs[j]? = ζ x1/\RelV x1 x:=by
   have hjx:j<xs.length:=by omega
   obtain⟨u,hu,ru⟩:=hv.get (anZ hjx);rw[hu]at hx;cases hx;exact⟨_,anZ hjx,ru⟩
  have hjk:j<ks.length:=by omega
  have J2:=K.i.ZF K.hk K.ha K.fk K.fa (λv z=>by cases z) (λv z=>by cases z)
  have hLj:L.length=j:=by have:=K.len;omega
  refine anS (aqa (aoe (turn j x1 x ks[j] Oo (anZ hjk) rx _ ρ H s' K.w K.x J2) (λr s2 hr=>?_) λ_ _ hF=>hF.elim))
  obtain⟨b,cE,H2,rfl,hlk,W2,X2,J3⟩:=hr;have pK:=J3.pin (kS,seqObj "list" (L.map Value.ref).toArray cc) (aoB _ (aoB _ (.head _)));have pA:=J3.pin (a,seqObj "list" #[] e1) (aoB _ (aoB _ (.tail _ (.head _))));have J4:Inv X pins σ H2 s2:=J3.rS;have uK:=K.fk.new pK.2.1;have fA2:=K.fa.new pA.2.1;have s1:=apf s2.heap kS (Obj.mapSeq (·.push (.ref b)));have ea:(L.map Value.ref).toArray.push (.ref b)=((L++[b]).map Value.ref).toArray:=by simp
  obtain⟨c2,hc2⟩:∃c2,(s2.heap.update kS (Obj.mapSeq (·.push (.ref b)))).get? kS=ζ (seqObj "list" ((L++[b]).map Value.ref).toArray c2):=⟨_,by rw[<-ea];exact get?_update_seq pK.1 (·.push (.ref b))⟩
  try dsimp only
  refine anS (aqq pK.1 rfl ?_ (by rw[an3,an2,aoT];omega) (aom (aoY (Array.size_push ..)) (by rw[an3,an2,aoT];omega)))
  refine anT ⟨rfl,cE,H2,L++[b],c2,⟨by simp;omega,W2,K.x.trans X2,J4.turned (t':=s2.toks) (λb o hb e=>(s1.2 b hb).trans e) uK.1 uK.2.1 uK.2.2.2.1 uK.2.2.2.2.1 uK.2.2.2.2.2,hc2,(s1.2 a qE).trans pA.1,uK,fA2,λi b' k' e1 e2=>?_⟩⟩
  by_cases hi:i<L.length
  ·rw[aow hi]at e1;exact(K.lk i b' k' e1 e2).ext K.w X2
  ·have hi2:i=L.length:=by
    have:=(an7.mp e1).1;simp at this;omega
   subst hi2;simp at e1;subst e1;rw[hLj,anZ hjk]at e2;cases e2;exact hlk
 ·obtain⟨ρ,H,L,cc,K⟩:=hI
  try dsimp only
  refine anS (listItems_at K.hk rfl ?_);exact h s' ρ H L cc (by rw[aog,<-hvl]at K;exact K)
def aeK{P:agL->Ω->Prop}{E:Ξ->Ω->Prop}{A:χ}{ρ:List Ψ}{L:List Ψ}{cc:Nat}{p:Array Nat}(hu:A.units<agh)(qE:a≠kS)(hl:ks.length=xs.length)(hv:Vals xs vs)(h1:0<xs.length)(h64:xs.length<=64)(hp:se (qv ks) xs.length xs.length=ζ p)(hps:p.size<=64)
  (hp1:xs.length=1->p=#[0]) (K:BN X pins σ c ks ie H0 a kS e1 xs.length s ρ H L cc)
  (h:∀(hm h':υ) c',(∀b o,b≠kS->s.heap.get? b=ζ o->hm.get? b=ζ o)->(∀b o,b≠a->hm.get? b=ζ o->h'.get? b=ζ o)->h'.get? a=ζ (seqObj "list" (List.toArray (p.toList.map λi=>vs.getD i Value.none)) c')->P (.done (.ret .none)) {s with heap:=h'}) :
  wpAny (model X.prog X.w) A (ksk_end a Δ vs.toArray e1 (.ref kS) (L.map Value.ref).toArray) P E s:=by
 have hvl:=hv.length;have hL:=K.len;have tail:∀st:abR,(arrOf st).map (·.2)=List.toArray (p.toList.map λi=>vs.getD i Value.none)->failedOf st=η->wpAny (model X.prog X.w) A (ksk_tail a Δ e1 (.ref kS) st) P E s:=λst hout hf=>by
  have s1:=apf s.heap kS (Obj.mapSeq λ_=>(#[]:Array Ξ))
  have ha1:(s.heap.update kS (Obj.mapSeq λ_=>(#[]:Array Ξ))).get? a=ζ (seqObj "list" #[] e1):=(s1.2 a qE).trans K.ha
  have s2:=apf (s.heap.update kS (Obj.mapSeq λ_=>(#[]:Array Ξ))) a (Obj.mapSeq λ_=>List.toArray (p.toList.map λi=>vs.getD i Value.none))
  obtain⟨c2,hc2⟩:∃c2,((s.heap.update kS (Obj.mapSeq λ_=>(#[]:Array Ξ))).update a (Obj.mapSeq λ_=>List.toArray (p.toList.map λi=>vs.getD i Value.none))).get? a=ζ (seqObj "list" (List.toArray (p.toList.map λi=>vs.getD i Value.none)) c2):=⟨_,get?_update_seq ha1 λ_=>List.toArray (p.toList.map λi=>vs.getD i Value.none)⟩
  unfold ksk_tail
  try dsimp only
  rw[hout];refine anS (aqq K.hk rfl ?_ (by rw[an3,an2,aoT];omega) (aoz _))
  refine anS (ap9 ?_);refine anS (seqEpoch_at ha1 rfl ?_);simp only[aoX,if_false];refine anS (aqq ha1 rfl ?_ (aoz _) (by rw[an3,an2,aoS,aoT];omega))
  rw[hf];simp only[bne_self_eq_false,aoX,if_false];exact anT (h _ _ c2 (λb o n1 e=>(s1.2 b n1).trans e) (λb o n2 e=>(s2.2 b n2).trans e) hc2)
 unfold ksk_end
 try dsimp only
 rw[if_neg (by simp)]
 by_cases h2:vs.toArray.size<2
 ·rw[if_pos h2,if_pos h2];refine anS (anT ?_);rw[StateT.run_pure];refine anS (anT ?_)
  try dsimp only
  rw[an3]at h2;have xX:xs.length=1:=by omega
  refine tail _ ?_ rfl;rw[hp1 xX];obtain⟨b,hb⟩:∃b,L=[b]:=aso.mp (by omega)
  obtain⟨v,hv1⟩:∃v,vs=[v]:=aso.mp (by omega)
  subst hb;subst hv1;show(((List.map Value.ref [b]).toArray.zip [v].toArray).map (·.2))=_;simp
 ·rw[if_neg h2,if_neg h2];rw[an3]at h2;obtain⟨fs,f1,f2,f3⟩:=KI (prog:=X.prog) (w:=X.w) L ks (by omega) λi b k e1 e2=>NO K.i.hok (K.lk i b k e1 e2)
  refine anS (PySem.W.kat_kind (T:=.type "int") f2 (by omega) (λv hv=>?_) rfl ?_)
  ·obtain⟨i,t,rfl⟩:=f3 v hv;exact PySem.W.Looks.of_pure rfl
  show wpAny _ _ (sortRuns'.run (SortSt.mk' (tuples' θ) ((L.map Value.ref).toArray.zip vs.toArray) #[] 7 η) >>= _) _ _ _;refine anS (aoe (VI (Q:=λst' s'=>s'=s/\(arrOf st').map (·.2)=List.toArray (p.toList.map λi=>vs.getD i Value.none)/\failedOf st'=η) hu (by omega) (by omega) (λi b k e1 e2=>NO K.i.hok (K.lk i b k e1 e2)) (by omega) (by rw[hl];exact hp) λst' a1 a2=>⟨rfl,a1,a2⟩) (λr s' hq=>?_) λ_ _ e=>e)
  obtain⟨⟨⟩,st'⟩:=r;obtain⟨rfl,a1,a2⟩:=hq;exact tail st' a1 a2
def Kq:∀{xs:List V}{vs:List Ξ}(i:Nat),Vals xs vs->RelV (xs.getD i .aF) (vs.getD i .none)
 |_,_,_,.nil=>by simp;rfl
 |_,_,0,.cons h _=>h
 |_,_,i+1,.cons _ t=>Kq i t
def Ko(hv:Vals xs vs):∀p:List Nat,Vals (p.map λi=>xs.getD i .aF) (p.map λi=>vs.getD i Value.none)
 |[]=>.nil
 |i::p=>.cons (Kq i hv) (Ko hv p)
def Ww{Q:Ξ->Ω->Prop}{E:Ξ->Ω->Prop}{ρ:List Ψ}{p:Array Nat}(hu:X.A.units+64<agh)(qz:bY X.K H l xs)(turn:Jy X σ c xs q ks ρ H)(hl:ks.length=xs.length)(h1:0<xs.length)(h64:xs.length<=64)(hp:se (qv ks) xs.length xs.length=ζ p)(hps:p.size<=64)
  (hp1:xs.length=1->p=#[0]) (W:Wd X.K ρ H c) (J:Inv X pins σ H s)
  (hQ:∀(a:Ψ) (ρ':List Ψ) (H':Hp) (s':Ω),H' a=η->Wd X.K ρ' H' c->Ext ρ H ρ' H'->Inv X pins σ (upd H' a (.lst (p.toList.map λi=>xs.getD i .aF))) s'->Q (.ref a) s') :
  wpAny (model X.prog X.w) X.A (call (.builtin "sorted") [.ref l] [(Str.ofString "key",.ref q)]) Q E s:=by
 obtain⟨vs,hv,pl,hz⟩:=J.list qz;have hvl:=hv.length;refine call_function_entry_kw kind_sorted plain_sorted entry_sorted (ksk_s1 _ _) ?_;unfold Builtin.«sorted»;refine anS (m:=checkCount "sorted" 1 1 _) (anT ?_);refine anS (collect_list pl.isList ?_ (by rw[aoT];omega))
 refine anS (wpAny_newList ?_ (by rw[aoT];omega))
 have hsz:((s.heap.push (seqObj "list" #[] 0)).update s.heap.objs.size (Obj.mapSeq (· ++ vs.toArray))).objs.size=s.heap.objs.size+1:=by
  rw[arh,size_push']
 have lT:(((s.heap.push (seqObj "list" #[] 0)).update s.heap.objs.size (Obj.mapSeq (· ++ vs.toArray))).push (seqObj "list" vs.toArray 0)).get? (s.heap.objs.size+1)=ζ (seqObj "list" vs.toArray 0):=by
  rw[<-hsz];exact aoc _ rfl
 have keep:∀b o,s.heap.get? b=ζ o->(((s.heap.push (seqObj "list" #[] 0)).update s.heap.objs.size (Obj.mapSeq (· ++ vs.toArray))).push (seqObj "list" vs.toArray 0)).get? b=ζ o:=λb o q=>by
  have hlt:b<s.heap.objs.size:=anV q;rw[Heap.get?_push_ne _ _ _ (by rw[hsz];exact an0 (apc hlt)),Heap.get?_update_ne _ _ _ _ (an0 hlt),Heap.get?_push_ne _ _ _ (an0 hlt)]
  exact q
 show wpAny _ _ _ _ _ {s with heap:=((s.heap.push (seqObj "list" #[] 0)).update s.heap.objs.size (Obj.mapSeq (· ++ vs.toArray))).push (seqObj "list" vs.toArray 0)}
 rw[hsz]
 generalize ((s.heap.push (seqObj "list" #[] 0)).update s.heap.objs.size (Obj.mapSeq (· ++ vs.toArray))).push (seqObj "list" vs.toArray 0)=iB at lT keep
 have hmn:s.heap.objs.size<=s.heap.objs.size+1:=aps _;have qK:eG X pins H (s.heap.objs.size+1):=J.uH hmn (J.hok.fresh hmn)
 generalize s.heap.objs.size+1=a at lT qK
 have J1:Inv X pins σ H {s with heap:=iB}:=J.kept (t':=s.toks) keep
 refine anS (ao1 (wpAny_call_entry_kw slot_list_sort ⟨_,lT,rfl⟩ entry_list_sort ?body (ksk_l1 _ _)))
 case body =>
  show wpAny (model X.prog X.w) X.A.in1.in1 (Builtin.«list.sort» ⟨[.ref a],[(Str.ofString "key",.ref q)]⟩) _ _ _;rw[ksk_t1];have hla:a<iB.objs.size:=anV lT;have s1:=apf iB a (Obj.mapSeq λ_=>(#[]:Array Ξ))
  obtain⟨e1,uD⟩:∃e1,(iB.update a (Obj.mapSeq λ_=>(#[]:Array Ξ))).get? a=ζ (seqObj "list" #[] e1):=⟨_,get?_update_seq lT λ_=>#[]⟩
  have J2:Inv X pins σ H {s with heap:=iB.update a (Obj.mapSeq λ_=>(#[]:Array Ξ))}:=J1.turned (t':=s.toks) (λb o hb e=>(s1.2 b hb).trans e) qK.1 qK.2.1 qK.2.2.2.1 qK.2.2.2.2.1 qK.2.2.2.2.2
  unfold ksk_tree;refine anS (listItems_at lT rfl ?_);refine anS (aqq lT rfl ?_ (by rw[an3,aoT];omega) (aoz _))
  refine anS (seqEpoch_at uD rfl ?_);refine anS (wpAny_newTuple ?_ (by show vs.length<=_;rw[aoT];omega))
  refine anS (wpAny_newList ?_ (aoz _));refine ao1 ?_;show wpAny (model X.prog X.w) X.A.in1.in1 _ _ _ {s with heap:=((iB.update a (Obj.mapSeq λ_=>(#[]:Array Ξ))).push (seqObj "tuple" vs.toArray 0)).push (seqObj "list" #[] 0)}
  have J3:Inv X pins σ H {s with heap:=((iB.update a (Obj.mapSeq λ_=>(#[]:Array Ξ))).push (seqObj "tuple" vs.toArray 0)).push (seqObj "list" #[] 0)}:=J2.kept (t':=s.toks) λb o e=>anY _ (anY _ e)
  have OG:((iB.update a (Obj.mapSeq λ_=>(#[]:Array Ξ))).push (seqObj "tuple" vs.toArray 0)).objs.size=iB.objs.size+1:=by rw[size_push',arh]
  have hk0:=aoc ((iB.update a (Obj.mapSeq λ_=>(#[]:Array Ξ))).push (seqObj "tuple" vs.toArray 0)) (o:=seqObj "list" #[] 0) rfl
  have ha0:=anY (seqObj "list" #[] 0) (anY (seqObj "tuple" vs.toArray 0) uD);have hs2:(iB.update a (Obj.mapSeq λ_=>(#[]:Array Ξ))).objs.size<=((iB.update a (Obj.mapSeq λ_=>(#[]:Array Ξ))).push (seqObj "tuple" vs.toArray 0)).objs.size:=by rw[OG,arh];exact aps _
  have PC:eG X pins H ((iB.update a (Obj.mapSeq λ_=>(#[]:Array Ξ))).push (seqObj "tuple" vs.toArray 0)).objs.size:=J2.uH hs2 (J2.hok.fresh hs2)
  have qE:a≠((iB.update a (Obj.mapSeq λ_=>(#[]:Array Ξ))).push (seqObj "tuple" vs.toArray 0)).objs.size:=by rw[OG];exact an0 (apc hla)
  generalize ((iB.update a (Obj.mapSeq λ_=>(#[]:Array Ξ))).push (seqObj "tuple" vs.toArray 0)).objs.size=kS at hk0 PC qE
  refine aeJ qE turn hv hl h64 (ρ:=ρ) (cc:=0) ⟨rfl,W,Ext.refl,J3,hk0,ha0,PC,qK,λi b k z=>by simp at z⟩ λs' ρ' H' L cc K=>?_
  refine aeK (by show X.A.units+1+1<agh;omega) qE hl hv h1 h64 hp hps hp1 K λhm h' c' kp qx ha'=>?_
  refine⟨_,rfl,anT ⟨_,rfl,?_⟩⟩;have J4:Inv X pins σ H' {s' with heap:=hm}:=K.i.turned (t':=s'.toks) (λb o hb e=>kp b o hb e) K.fk.1 K.fk.2.1 K.fk.2.2.2.1 K.fk.2.2.2.2.1 K.fk.2.2.2.2.2
  have J5:Inv X pins σ H' {s' with heap:=h'}:=J4.turned (t':=s'.toks) (λb o hb e=>qx b o hb e) K.fa.1 K.fa.2.1 K.fa.2.2.2.1 K.fa.2.2.2.2.1 K.fa.2.2.2.2.2
  refine hQ a ρ' H' _ K.fa.1 K.w K.x (J5.adopt K.fa ⟨by rw[an2,aoS,aoT];omega,_,c',Ko hv p.toList,ha'⟩)
end
section
variable {X:Cx}{ns:List Str}{js:List Nat}{scope:ac4}
def aeL{σ:St}{ie:List Ψ}{H0:Hp}{c:aa}{e:Ev}{l k6:List D}{xs:List V}{m:List D->aa->R D}{k:Nat}{Ex:π}{a cc:Ψ}{o:Obj}{q:Str}{ks:List Lk}
  (G:kW X.prog X.w X.K X.mg X.base k Ex ns 1 (bQ X.K (1+ns.length) m)) (hr:cN (k+2) X.A) (S:fJ X ns js scope) (hjn:js.length=ns.length) (hfn:∀x,X.fn x=θ)
  (W:Wd X.K ie H0 c) (V:cR X.K ie H0 e σ) (hl:getAll e js=ζ l) (rx:aK X.K ie H0 k6 xs)
  (ha:H0 a=ζ (.ext (kF a o))) (hobj:rE Ex o q cc (je X scope)) (hcc:H0 cc=ζ (.ext (kN cc q)))
  (hkey:∀(i:Nat) d (k:Lk),k6[i]? = ζ d->ks[i]? = ζ k->m ([d]++l) c=.ok (.tup [.int k.1,.tup (k.2.map D.int)]) c) :
  Jy X σ c xs a ks ie H0:=by
 intro i x u k hx hk ru pins ρ H s W1 X1 J;obtain⟨cs,h1,h2,h3⟩:=Rg V js l hl;have hi:i<k6.length:=by rw[<-rx.length];exact(an7.mp hx).1
 obtain⟨x',hx',rd⟩:=aK.get rx (i:=i) (d:=k6[i]) (anZ hi);rw[hx]at hx';cases hx';have MV:∀{b:Ψ}{φ:υ->Prop},H0 b=ζ (.ext φ)->b∉ie:=fun{b φ} z mm=>by
  obtain⟨ys,z2⟩:=W.at' mm;rw[z2]at z;cases z
 have ha':H a=ζ (.ext (kF a o)):=(X1.keep a _ ha (MV ha) rfl).1;have agV:H cc=ζ (.ext (kN cc q)):=(X1.keep cc _ hcc (MV hcc) rfl).1;have cap:JJ s H X.stack (je X scope) ns cs:=by
  refine⟨by rw[h2,hjn],λn y hy=>?_⟩
  have hn:n<js.length:=by rw[hjn];exact(an7.mp hy).1
  obtain⟨v,hv1,hv2⟩:=h3 n js[n] (anZ hn);obtain⟨cl,oc,w,e1,e2,e3,e4⟩:=S.cells J n js[n] y v (anZ hn) hy hv2;have hc:=(S.cap J e1).2;refine⟨v,cl,w,hv1,e1,⟨oc,(Au e2).2,e3⟩,e4,J.fU y cl hc,λhb=>?_⟩
  rcases anW.mp (J.k8 cl hb)with z|z
  ·exact J.l6 y cl hc z
  ·obtain⟨_,o2,ho,_⟩:=J.ok.fT.mem z;exact absurd (an5 (anV ho) (J.ok.jf y cl (hfn y) hc)) (aot _)
 have e0:kY X.prog X.w X.K X.mg X.base X.A.in1.in1 X.stack s H:=⟨J.ok.frames,J.ok.mod,J.bs,aom J.ok.gg J.sz,J.stack,J.wu,J.hok,J.bare⟩;have rl:aK X.K ρ H ([k6[i]]++l) ([x]++cs):=⟨x,cs,rfl,Rel.mono W X1 _ _ rd,aK.mono W X1 _ _ h1⟩;refine apo (aoU (G X.A.in1.in1 X.stack s H a o q cc (je X scope) [u] [x] cs (λv H'=>∃ρ',Wd X.K ρ' H' c/\Ext ρ H ρ' H'/\Rel X.K ρ' H' (.tup [.int k.1,.tup (k.2.map D.int)]) v) (hr.in1.in1) e0 (J.hok a _ ha').1 hobj (J.hok cc _ agV).1 (S.cl J) cap (.cons ru .nil) rfl ⟨ρ,[k6[i]]++l,c,W1,rl,by
   have:=h1.length;simp;omega,?_⟩) λrr s' hq=>?_)
 ·rw[hkey i _ k (anZ hi) hk];intro ρ' H' b W' X' r';exact⟨ρ',W',X',r'⟩
 ·cases rr with
  |error e=>exact False.elim hq
  |ok fl =>
   cases fl with
   |next=>exact False.elim hq
   |brk=>exact False.elim hq
   |cont=>exact False.elim hq
   |ret u' =>
    obtain⟨v,H',J',rv,ρ',W',X',r'⟩:=J.after hq;obtain⟨b,ys,rfl,hb,y1,r1,e1,rk,Xn⟩:=r';obtain⟨y2,r2,e2,XM,e3⟩:=Xn;obtain⟨b2,zs,rfl,hb2,rz⟩:=XM;cases rk;subst e1;subst e2;cases e3;cases rz.FA;cases rv;exact⟨b,ρ',H',rfl,⟨b2,hb,hb2⟩,W',X',J'⟩
open Classical in
def lO(m:List D->aa->R D)(l:List D)(c:aa):List D->Option (List Lk)
 |[]=>ζ []
 |x::xs=>match m ([x]++l) c with
  |.ok (.tup [.int k,.tup ds]) c'=>if c'=c then(match kH ds,lO m l c xs with
    |some ns,ζ ks=>ζ ((k,ns)::ks)
    |_,_=>η)else η
  |_=>η
def NZ{m:List D->aa->R D}{l:List D}{c:aa}:∀{xs:List D}{ks:List Lk},lO m l c xs=ζ ks->ks.length=xs.length/\∀(i:Nat) d (k:Lk),xs[i]? = ζ d->ks[i]? = ζ k->m ([d]++l) c=.ok (.tup [.int k.1,.tup (k.2.map D.int)]) c
 |[],ks,h=>by
  unfold lO at h;cases h;exact⟨rfl,λi d k z=>by simp at z⟩
 |x::xs,ks,h=>by
  unfold lO at h;split at h
  ·rename_i k ds c' hm;split at h
   ·rename_i hc;subst hc;split at h
    ·rename_i nn kk hn hr;cases h;obtain⟨h1,h2⟩:=NZ hr;refine⟨by simp[h1],λi d z z1 z2=>?_⟩
     cases i with
     |zero=>cases z1;cases z2;rw[hm,FD hn]
     |succ i=>exact h2 i d z z1 z2
    ·cases h
   ·cases h
  ·cases h
def wB(ks:List Lk):Option (Array Nat):=match se (qv ks) ks.length ks.length with
 |some p=>if 0<ks.length/\ks.length<=64/\p.size<=64/\(ks.length=1->p=#[0])then ζ p else η
 |none=>η
def Bv(m:List D->aa->R D)(d1:af)(js:List Nat):af:=λe c=>(d1 e c).bind λx c=>match x,getAll e js with
 |.lst xs,ζ l=>(match lO m l c xs with
   |some ks=>(match wB ks with
    |some p=>.ok (.lst (p.toList.map λi=>xs.getD i .aF)) c
    |none=>.bad)
   |none=>.bad)
 |_,_=>.bad
def akC:bootBuiltins "sorted"=ζ (.builtin "sorted"):=by decide +kernel
def LF{K:Θ}{ρ:List Ψ}{H:Hp}:∀{ds:List D}{xs:List V}(i:Nat),aK K ρ H ds xs->Rel K ρ H (ds.getD i .aF) (xs.getD i .aF)
 |[],_,_,h=>by cases h;rfl
 |d::ds,_,0,h=>by obtain⟨x,r,rfl,h1,h2⟩:=h;exact h1
 |d::ds,_,i+1,h=>by obtain⟨x,r,rfl,h1,h2⟩:=h;exact LF i h2
def LC{K:Θ}{ρ:List Ψ}{H:Hp}{ds:List D}{xs:List V}(h:aK K ρ H ds xs):∀p:List Nat,aK K ρ H (p.map λi=>ds.getD i .aF) (p.map λi=>xs.getD i .aF)
 |[]=>rfl
 |i::p=>⟨_,_,rfl,LF i h,LC h p⟩
def aad{y:Str}{c P:Ψ}{k:Nat}{m:List D->aa->R D}{e1 body:π}{d1:af}{params:agc}{p pos jP kp:Pos}(hm:X.mg "sorted"=η)(xN:bg X e1 d1)
  (G:kW X.prog X.w X.K X.mg X.base k (.Lambda params body scope jP) ns 1 (bQ X.K (1+ns.length) m)) (hr:cN (k+2) X.A) (S:fJ X ns js scope) (hjn:js.length=ns.length) (hfn:∀x,X.fn x=θ) (hy:y∈oz) (ht:PySem.W.tabIn X.K y=ζ (c,P)) (hap:rZ X.K=θ) (hcode:X.env.code=.ref c) (hq:X.env.qual++"<lambda>"=ou y) (hC:PySem.W.codeHdIn X.K c P=θ)
  (hdef:defaultsOf params X.env=([],[]):=by rfl) (hg:Gl X "sorted":=by rfl)
  (hs1:μ [e1] X.env=(Δ,eval e1 X.env)::μ [] X.env:=by exact c7 rfl)
  (he:abE pos (μ [e1] X.env)=(Δ,eval e1 X.env)::abE pos (μ [] X.env):=by rfl)
  (hplain:(abE pos (μ [e1] X.env)).any (·.1)=Δ:=by rfl) :
  bg X (.Call (.Name "sorted" p) [e1] [⟨ζ "key",.Lambda params body scope jP,kp⟩] pos) (Bv m d1 js):=by
 intro pins s σ H Q I h;obtain⟨ρ,e,c0,W,V,pp⟩:=h;refine apq (lN I hg hm akC ?_);refine callWith_kw (bL (ju xN kr hs1 pos pins s σ H (λvs H1=>∃v x1 c1 aI,vs=[v]/\Wd X.K aI H1 c1/\Ext ρ H aI H1/\Rel X.K aI H1 x1 v/\post X.K (Rel X.K) (match x1,getAll e js with
 |.lst xs,ζ l=>(match lO m l c1 xs with
   |some ks=>(match wB ks with
    |some p=>.ok (.lst (p.toList.map λi=>xs.getD i .aF)) c1
    |none=>.bad)
   |none=>.bad)
 |_,_=>.bad) aI H1 Q) I ⟨ρ,e,c0,W,V,post.bind pp λx1 c1 aI H1 v _ W1 X1 r1 p1=>⟨v,x1,c1,aI,rfl,W1,X1,r1,p1⟩⟩) λus s1 ⟨vs,H1,I1,r1,v,x1,c1,aI,ev,W1,X1,rv,p1⟩=>?_) he hplain
 subst ev;have V1:=V.mono W X1;cases x1 with
 |lst k6 =>
  obtain⟨a,xs,rfl,⟨hxs,hna⟩,rl⟩:=rv;obtain⟨u1,rfl,Xm⟩:=r1.one;cases Xm;cases hl:getAll e js with
  |none=>rw[hl]at p1;exact p1.elim
  |some l =>
   rw[hl]at p1;dsimp only at p1;cases hk:lO m l c1 k6 with
   |none=>rw[hk]at p1;exact p1.elim
   |some ks =>
    rw[hk]at p1;dsimp only at p1;cases gb:wB ks with
    |none=>rw[gb]at p1;exact p1.elim
    |some pr =>
     rw[gb]at p1;dsimp only at p1;obtain⟨OF,hkey⟩:=NZ hk;refine kws_cons (bL (LW (c:=c) (P:=P) (q:=ou y) S hcode hq hC hdef pins s1 σ H1 (λv2 H2=>∃b o cc,v2=.ref b/\Wd X.K aI H2 c1/\Ext aI H1 aI H2/\H2 b=ζ (.ext (kF b o))/\rE (.Lambda params body scope jP) o (ou y) cc (je X scope)/\H2 cc=ζ (.ext (kN cc (ou y)))) I1 ⟨W1.tab y hy c P ht,λb H' N=>?_⟩) λu2 s2 ⟨v2,H2,I2,r2,b,o,cc,ev2,W2,X2,hb,hobj,hcc⟩=>kws_nil ?_)
     ·have CM:o9 X.K H':=λz hz d P' tz=>by
       by_cases hP:P'=P
       ·subst hP;rw[K1 hap hz hy tz ht];exact N.tab
       ·exact(W1.tab z hz d P' tz).mono (λps e=>N.tabs P' ps hP e) λc φ e=>N.keep c _ e rfl
      obtain⟨X2,W2⟩:=Cy W1 N.keep CM;obtain⟨o,cc,h1,h2,h3⟩:=N.at';exact⟨b,o,cc,rfl,W2,X2,h1,h2,h3⟩
     ·subst ev2;cases r2;show wpAny (model X.prog X.w) X.A (call (.builtin "sorted") [.ref a] [(Str.ofString "key",.ref b)]) (EP X pins σ Q) X.xe s2;have hxl:xs.length=k6.length:=rl.length;have af8:=X2.keep a _ hxs hna rfl;have LA:=aK.mono W1 X2 _ _ rl;unfold wB at gb;split at gb
      ·rename_i p0 hp0;split at gb
       ·rename_i agQ;cases gb;obtain⟨q1,q2,q3,q4⟩:=agQ;have en:ks.length=xs.length:=by omega
        rw[en]at hp0 q4;refine Ww (ρ:=aI) (p:=pr) hr.units (bY.of af8.1) (aeL G hr S hjn hfn W2 (V1.mono W1 X2) hl LA hb hobj hcc hkey) en (by omega) (by omega) hp0 q3 q4 W2 I2 λa2 rH H3 s3 hn3 W3 X3 I3=>?_
        exact⟨.ref a2,_,I3,rfl,zQ W3 (LC (aK.mono W2 X3 _ _ LA) pr.toList) (p1.ext (X2.trans X3)) a2 hn3⟩
       ·cases gb
      ·cases gb
 |_=>exact p1.elim
end
end L2
namespace Ev
open PySem L2 PyProof.Rows
def top(i:Nat):aar:=PySem.Challenge.pw_evenwebs_k73_turned_to_even_ones.main.body.getD i (.Pass ⟨0,0,0,0⟩)
abbrev tG:aar:=top 14
abbrev tF:aar:=top 15
abbrev tP:aar:=top 17
abbrev sE:aar:=top 18
abbrev sA:aar:=top 19
abbrev sC:aar:=top 20
abbrev pR:aar:=top 21
abbrev tO:aar:=top 23
abbrev tK:aar:=top 24
abbrev sD:aar:=top 25
abbrev tL:aar:=top 26
abbrev tM:aar:=top 27
abbrev tH:aar:=top 28
abbrev pQ:aar:=top 31
abbrev pS:aar:=top 32
abbrev tN:aar:=top 33
abbrev sZ:aar:=top 35
abbrev sQ:aar:=top 36
abbrev sI:aar:=top 37
abbrev sS:aar:=top 38
abbrev sX:aar:=top 39
abbrev sM:aar:=top 40
abbrev sU:aar:=top 41
abbrev sR:aar:=top 42
abbrev sV:aar:=top 43
abbrev sH:aar:=top 44
abbrev tw:aar:=top 45
abbrev tu:aar:=top 46
abbrev sO:aar:=top 47
abbrev sF:aar:=top 48
abbrev sN:aar:=top 49
abbrev sG:aar:=top 50
abbrev sL:aar:=top 51
abbrev sY:aar:=top 52
abbrev sW:aar:=top 53
abbrev sJ:aar:=top 54
abbrev sP:aar:=top 55
abbrev tE:aar:=top 56
def NT(st:aar):π:=match(cu st).getLast? with
 |some (.Return (ζ (.Call _ [_,e] _ _)) _)=>e
 |_=>.Name "" ⟨0,0,0,0⟩
def aeE(st:aar):π:=match(cu st).drop 1 with
 |(.Assign _ (.Call _ _ [k] _) _)::_=>k.value
 |_::(.Return (ζ (.Call _ _ [k] _)) _)::_=>k.value
 |_=>.Name "" ⟨0,0,0,0⟩
def yx:π:=NT pR
def BS:π:=NT pQ
def alP:π:=aeE pS
def eW:List Str:=["NoWeb","NoText","NoNumbers","NoField","NoThing","NoSquare","NoPlaces","TooMany","NoName","NoDeed","NoRow"]
def vH:ah :=
 (aR (gf (aJ bG (aq (ak 0) (aq (dC (.ty "int")) au))) (iO (aJ bG (aq (ak 0) (aq (dC (.ty "bool")) au))))))
def DO:List D->aa->R D:=ck 1 Δ vH
def vG:ah :=
 (aR (gf (aG 1 DO (aq (ak 0) au)) (HX DR DR (ak 1) (ak 0) (ak 2))))
def qq:List D->aa->R D:=ck 3 Δ vG
def rj:ah :=
 (aD (bh (gT (aM (aJ bG (aq (ak 0) (aq (dC (.ty "tuple")) au))))) (aR (dC (.bl Δ))) bF) (aD (aH 2 (dC (.int 0))) (aD (bJ (jz (ak 0)) (aA 3) (aD (bh (gT (aM (aG 3 qq (aq (ak 3) (aq (ak 2) (aq (av fO (ak 1) (dC (.int 1))) au)))))) (aR (dC (.bl Δ))) bF) (aH 2 (av bx (ak 3) (dC (.int 1)))))) (aR (dC (.bl θ))))))
def xy:List D->aa->R D:=ck 4 Δ rj
def oB:af :=
 (av xg (ak 1) (av aE (ak 2) (ak 0)))
def oA:af :=
 (av cL (av inD (ak 1) (av aE (ak 2) (ak 0))) (av cL (av inD (ak 0) (ak 3)) (av inD (ak 1) (ak 3))))
def lams:List (π×List Str×(List D->aa->R D)):=[(yx,["web"],i8 oB),(BS,["web","some"],i8 oA)]
def vf:ah :=
 (aR (aJ gV (aq (bA (bH (aq (ak 0) au)) [η,ζ 1,ζ 2] (aA 0) (iE (aM (av cL (ak 0) (ak 1))) (aM (qM 2 2 lams (aq (ak 1) (aq (ak 0) au))))) (ak 0)) au)))
def iL:List D->aa->R D:=ck 3 Δ vf
def vc:ah :=
 (aR (aJ gV (aq (bA (bH (aq (ak 0) au)) [η,ζ 0,ζ 1] (aA 0) aZ (aG 3 iL (aq (ak 1) (aq (ak 0) (aq (ak 2) au))))) au)))
def lF:List D->aa->R D:=ck 2 Δ vc
def vd:ah :=
 (aD (aH 1 (cU au)) (aD (bJ (l5 (aq (ak 0) au)) (dI 2 (bR (aA 2) (bR (aA 3) dQ))) (cW (dw (ak 1) (bA (jz (ak 3)) [η,ζ 2] (aA 0) (aM (av gK (ak 1) (ak 0))) (bf (aq (ak 1) (aq (ak 0) au))))))) (aR (ak 1))))
def lG:List D->aa->R D:=ck 4 Δ vd
def vg:ah :=
 (aR (x8 0 lF (aJ bC (aq (ak 0) au)) yx ["web"] [0]))
def qg:List D->aa->R D:=ck 1 Δ vg
def vK:ah :=
 (aR (uP (aq (av aE (ak 0) (ak 1)) au) (aq (av aE (ak 0) (ak 2)) au)))
def oq:List D->aa->R D:=ck 3 Δ vK
def vI:ah :=
 (aD (bJ (l5 (aq (ak 0) au)) (dI 2 (bR (aA 1) (bR (aA 2) dQ))) (bh (aM (av cL (aJ bC (aq (ak 2) au)) (aJ bC (aq (av aE (ak 0) (dC (.int 0))) au)))) (aR (ak 1)) bF)) (aR (dC .aF)))
def ux:List D->aa->R D:=ck 3 Δ vI
def ve:ah :=
 (aR (HW (Bu (ak 1)) (aG 3 oq (aq (ak 0) (aq (av aE (av aE (ak 1) (dC (.int 0))) (dC (.int 0))) (aq (av aE (av aE (ak 1) (dC (.int 0))) (dC (.int 1))) au)))) (dC .aF)))
def jN:List D->aa->R D:=ck 2 Δ ve
def vJ:ah :=
 (aD (aH 2 (aG 2 jN (aq (ak 0) (aq (ak 1) au)))) (aD (bJ (cy (ak 1)) (aA 3) (bh (aM (av cL (aG 3 oq (aq (ak 0) (aq (av aE (ak 3) (dC (.int 0))) (aq (av aE (ak 3) (dC (.int 1))) au)))) (ak 2))) (aR (ak 3)) bF)) (aR (dC .aF))))
def qu:List D->aa->R D:=ck 4 Δ vJ
def qZ:ah :=
 (aD (aH 1 (aG 1 ux (aq (ak 0) au))) (aD (bh (aM (av kG (ak 1) (dC .aF))) (aR (bf (aq (dC (.str "place")) (aq (ak 1) au)))) bF) (aD (aH 2 (aG 1 lG (aq (ak 0) au))) (aD (aH 3 (aG 1 lG (aq (aG 1 qg (aq (ak 0) au)) au))) (aD (bJ (jz (bf (aq (bf (aq (dC (.str "tied")) (aq (ak 2) au))) (aq (bf (aq (dC (.str "apart")) (aq (ak 3) au))) au)))) (dI 2 (bR (aA 4) (bR (aA 5) dQ))) (aD (aH 6 (aG 2 qu (aq (ak 0) (aq (ak 5) au)))) (bh (aM (av kG (ak 6) (dC .aF))) (aR (bf (aq (ak 4) (aq (av aE (ak 6) (dC (.int 0))) (aq (av aE (ak 6) (dC (.int 1))) au))))) bF))) (aR (bf (aq (dC (.str "even")) (aq (bf (aq (aJ bC (aq (ak 0) au)) (aq (aJ bC (aq (av aE (ak 0) (dC (.int 0))) au)) (aq (aG 2 jN (aq (ak 0) (aq (ak 2) au))) (aq (aG 2 jN (aq (ak 0) (aq (ak 3) au))) au))))) au)))))))))
def xx:List D->aa->R D:=ck 7 Δ qZ
def qY:ah :=
 (aR (av jd (av aE (aG 1 xx (aq (ak 0) au)) (dC (.int 0))) (dC (.str "even"))))
def qt:List D->aa->R D:=ck 1 Δ qY
def qR:ah :=
 (aD (bh (gT (aM (aG 2 xy (aq (ak 1) (aq (aJ bC (aq (ak 0) au)) au))))) tQ bF) (aR (x8 1 lF (aJ bC (aq (ak 0) au)) BS ["web","some"] [0,1])))
def qe:List D->aa->R D:=ck 2 Δ qR
def jQ:af :=
 (bf (aq (aJ bC (aq (ak 0) au)) (aq (ak 0) au)))
def rm:ah :=
 (aD (aH 1 (cV (aq (bf au) au))) (aD (bJ (eV (aq (dC (.int 1)) (aq (ak 0) au))) (aA 2) (aH 1 (av oX (ak 1) (bA (cy (ak 1)) [η,ζ 2] (aA 0) aZ (av jX (ak 0) (bf (aq (ak 1) au))))))) (aR (Bv (i8 jQ) (ak 1) []))))
def z6:List D->aa->R D:=ck 3 Δ rm
def jZ:ah :=
 (aD (bh (aM (av iN (aJ bC (aq (ak 0) au)) (dC (.int 10)))) tQ bF) (aR (Bw (cy (aG 1 z6 (aq (aJ bC (aq (ak 0) au)) au))) [η,ζ 0] (aA 0) (aM (aG 1 qt (aq (aG 2 qe (aq (ak 1) (aq (ak 0) au))) au))) (ak 0))))
def lK:List D->aa->R D:=ck 1 Δ jZ
def uq:List D->aa->R D:=ck 1 θ jZ
def BD:Xd :=
 (Cu (aM (av iN (aJ bC (aq (ak 0) au)) (dC (.int 10)))) (Cv "TooMany") J7)
def yK:List D->aa->R Str:=fnX 1 BD
def qX:ah :=
 (aD (bh (aM (av gK (ak 1) (aJ bC (aq (ak 0) au)))) (aR (av aE (ak 0) (ak 1))) bF) (aR (dC (.int 0))))
def om:List D->aa->R D:=ck 2 Δ qX
def qV:ah :=
 (aD (bh (aM (av O4 (ak 0) (av tU (dC (.int 10)) (dC (.int 18))))) (aR (cU (aq (av fO (ak 0) (av tU (dC (.int 10)) (dC (.int 18)))) au))) bF) (aD (aH 1 (dC (.int 0))) (aD (bJ (bH (aq (dC (.int 64)) au)) (aA 2) (aD (aH 3 (av cZ (av ez (av bx (av bx (av cZ (ak 0) (dC (.int 2147483629))) (av ez (dC (.int 7919)) (ak 2))) (dC (.int 1))) (dC (.int 48271))) (dC (.int 2147483647)))) (aD (aH 3 (av cZ (av bx (av bx (av ez (ak 3) (ak 3)) (av ez (dC (.int 69621)) (ak 2))) (dC (.int 7))) (dC (.int 2147483587)))) (aH 1 (av bx (av ez (ak 1) (dC (.int 2147483587))) (ak 3)))))) (aR (cU (aq (ak 1) au))))))
def qm:List D->aa->R D:=ck 4 θ qV
def qT:ah :=
 (aD (aH 2 (av cZ (av aE (ak 0) (dC (.int 0))) (ak 1))) (aD (gI (av fu (av aE (ak 0) (dC (.int 0))) (ak 1)) (gQ (ak 0) (dC (.int 0)))) (aR (ak 2))))
def bu:List D->aa->R D:=ck 3 Δ qT
def vt:ah :=
 (aD (aH 2 (cU au)) (aD (bJ (bH (aq (ak 1) au)) (aA 3) (cW (x6 (ak 2) (aG 2 bu (aq (ak 0) (aq (av bx (ak 3) (dC (.int 1))) au))) (ak 3)))) (aR (aJ gV (aq (ak 2) au)))))
def oj:List D->aa->R D:=ck 4 Δ vt
def vC:ah :=
 (aD (aH 2 (bA (bH (aq (ak 0) au)) [η,ζ 0] (aA 0) aZ (av kj (cV (aq (dC (.bl Δ)) au)) (ak 1)))) (aD (bJ (cy (ak 1)) (dI 2 (bR (aA 3) (bR (aA 4) dQ))) (aD (gI (dC (.bl θ)) (gQ (av aE (ak 2) (ak 3)) (ak 4))) (gI (dC (.bl θ)) (gQ (av aE (ak 2) (ak 4)) (ak 3))))) (aR (ak 2))))
def jO:List D->aa->R D:=lW 5 vC
def vm:ah :=
 (aD (aH 2 (av bx (dC (.int 1)) (aG 2 bu (aq (ak 0) (aq (ak 1) au))))) (aD (aH 3 (av bx (dC (.int 1)) (aG 2 bu (aq (ak 0) (aq (dC (.int 5)) au))))) (aD (aH 4 (cU au)) (aD (bJ (bH (aq (ak 2) au)) (aA 5) (cW (dw (ak 4) (bA (eV (aq (av bx (ak 5) (dC (.int 1))) (aq (ak 2) au))) [η,ζ 5,ζ 3,ζ 0] (aA 0) (aM (av gK (aG 2 bu (aq (ak 3) (aq (dC (.int 6)) au))) (ak 2))) (bf (aq (ak 1) (aq (ak 0) au))))))) (aR (aG 2 jO (aq (ak 2) (aq (ak 4) au))))))))
def lH:List D->aa->R D:=ck 6 Δ vm
def vz:ah :=
 (aD (aH 2 (cU au)) (aD (bJ (bH (aq (ak 0) au)) (aA 3) (bJ (eV (aq (av bx (ak 3) (dC (.int 1))) (aq (ak 0) au))) (aA 4) (bh (aM (aJ rA (aq (bA (cy (av aE (ak 1) (ak 3))) [η,ζ 1,ζ 4] (aA 0) aZ (av inD (ak 0) (av aE (ak 1) (ak 2)))) au))) (cW (jW (ak 2) (bf (aq (ak 3) (aq (ak 4) au))))) bF))) (aR (ak 2))))
def kE:List D->aa->R D:=ck 5 Δ vz
def vq:ah :=
 (aD (aH 2 (aG 2 bu (aq (ak 0) (aq (dC (.int 6)) au)))) (aD (aH 3 (av bx (dC (.int 1)) (aG 2 bu (aq (ak 0) (aq (ak 1) au))))) (aD (aH 4 (cU au)) (aD (bh (aM (av cH (ak 2) (dC (.int 0)))) (aD (aH 5 (bA (eV (aq (dC (.int 1)) (aq (av bx (av fu (ak 3) (dC (.int 2))) (dC (.int 1))) au))) [η,ζ 0] (aA 0) (aM (av cH (aG 2 bu (aq (ak 1) (aq (dC (.int 2)) au))) (dC (.int 1)))) (ak 0))) (bJ (cy (ak 5)) (aA 6) (cW (dw (ak 4) (bA (bH (aq (ak 3) au)) [η,ζ 3,ζ 6] (aA 0) aZ (bf (aq (ak 0) (aq (av cZ (av bx (ak 0) (ak 2)) (ak 1)) au)))))))) (bh (aM (av cH (ak 2) (dC (.int 1)))) (aD (aH 7 (av aE (cV (aq (dC (.int 2)) (aq (dC (.int 3)) (aq (dC (.int 4)) (aq (dC (.int 5)) au))))) (aG 2 bu (aq (ak 0) (aq (dC (.int 4)) au))))) (aD (aH 8 (cU au)) (aD (bJ (bH (aq (ak 7) au)) (aA 9) (cW (dw (ak 8) (bA (eV (aq (av bx (ak 9) (dC (.int 1))) (aq (ak 7) au))) [η,ζ 9] (aA 0) aZ (cV (aq (ak 1) (aq (ak 0) au))))))) (aD (aH 3 (aJ fR (aq (aJ bC (aq (ak 8) au)) (aq (ak 1) au)))) (aH 4 (aG 2 kE (aq (ak 3) (aq (ak 8) au)))))))) (bh (aM (av gK (ak 2) (dC (.int 4)))) (aD (aH 10 (av bx (dC (.int 1)) (aG 2 bu (aq (ak 0) (aq (aJ fR (aq (dC (.int 4)) (aq (ak 1) au))) au))))) (aD (aH 11 (av bx (dC (.int 1)) (aG 2 bu (aq (ak 0) (aq (aJ fR (aq (dC (.int 4)) (aq (av fu (ak 1) (ak 10)) au))) au))))) (aD (aH 3 (av ez (ak 10) (ak 11))) (aD (aH 8 (bA (bH (aq (ak 3) au)) [η,ζ 11] (aA 0) aZ (cV (aq (av fu (ak 0) (ak 1)) au)))) (aD (bh (aM (av cH (ak 2) (dC (.int 2)))) (aH 8 (bA (bH (aq (ak 3) au)) [η,ζ 11] (aA 0) aZ (cV (aq (av fu (ak 0) (ak 1)) (aq (av bx (dC (.int 10)) (av cZ (ak 0) (ak 1))) au))))) bF) (aH 4 (aG 2 kE (aq (ak 3) (aq (ak 8) au))))))))) (bh (aM (av cH (ak 2) (dC (.int 4)))) (aD (aH 3 (aJ fR (aq (ak 1) (aq (av aE (cV (aq (dC (.int 5)) (aq (dC (.int 13)) au))) (aG 2 bu (aq (ak 0) (aq (dC (.int 2)) au)))) au)))) (aD (aH 12 (bA (eV (aq (dC (.int 1)) (aq (ak 3) au))) [η,ζ 3] (aA 0) aZ (av cZ (av ez (ak 0) (ak 0)) (ak 1)))) (bJ (bH (aq (ak 3) au)) (aA 9) (cW (dw (ak 4) (bA (eV (aq (av bx (ak 9) (dC (.int 1))) (aq (ak 3) au))) [η,ζ 9,ζ 12,ζ 3] (aA 0) (aM (av inD (av cZ (av fO (ak 0) (ak 1)) (ak 3)) (ak 2))) (bf (aq (ak 1) (aq (ak 0) au))))))))) (aD (aH 3 (aJ fR (aq (dC (.int 8)) (aq (ak 1) au)))) (aD (bJ (bH (aq (ak 3) au)) (aA 9) (cW (dw (ak 4) (bA (eV (aq (av bx (ak 9) (dC (.int 1))) (aq (ak 3) au))) [η,ζ 9] (aA 0) (aM (av inD (av fO (ak 0) (ak 1)) (bf (aq (dC (.int 1)) (aq (dC (.int 2)) (aq (dC (.int 4)) au)))))) (bf (aq (ak 1) (aq (ak 0) au))))))) (aH 4 (bA (cy (ak 4)) [η,η] (dI 2 (bR (aA 0) (bR (aA 1) dQ))) (aM (av cH (av yh (ak 0) (ak 1)) (ak 0))) (bf (aq (ak 0) (aq (ak 1) au))))))))))) (aR (aG 2 jO (aq (ak 3) (aq (ak 4) au))))))))
def lI:List D->aa->R D:=ck 13 Δ vq
def vA:ah :=
 (aD (aH 2 (aJ bC (aq (ak 0) au))) (aD (aH 3 (bA (bH (aq (ak 2) au)) [η,ζ 2] (aA 0) aZ (av kj (cV (aq (dC (.bl Δ)) au)) (ak 1)))) (aD (bJ (bH (aq (ak 2) au)) (aA 4) (bJ (bH (aq (ak 2) au)) (aA 5) (gI (av aE (av aE (ak 0) (ak 4)) (ak 5)) (gQ (av aE (ak 3) (av aE (ak 1) (ak 4))) (av aE (ak 1) (ak 5)))))) (aR (ak 3)))))
def qo:List D->aa->R D:=lW 6 vA
def vj:ah :=
 (aD (aH 3 (bA (cy (ak 0)) [η] (aA 0) aZ (aJ qw (aq (ak 0) au)))) (aD (gI (iO (av aE (av aE (ak 3) (ak 1)) (ak 2))) (gQ (av aE (ak 3) (ak 1)) (ak 2))) (aD (gI (iO (av aE (av aE (ak 3) (ak 2)) (ak 1))) (gQ (av aE (ak 3) (ak 2)) (ak 1))) (aR (ak 3)))))
def kB:List D->aa->R D:=lW 4 vj
def vE:ah :=
 (aD (aH 1 (aJ bC (aq (ak 0) au))) (aR (bA (bH (aq (ak 1) au)) [η,ζ 1,ζ 0] (aA 0) aZ (bA (bH (aq (ak 1) au)) [η,ζ 0,ζ 2] (aA 0) aZ (gf (av cL (ak 1) (ak 0)) (iO (av aE (av aE (ak 2) (ak 1)) (ak 0))))))))
def lJ:List D->aa->R D:=ck 2 Δ vE
def vD:ah :=
 (aD (bh (aM (av gK (aG 2 bu (aq (ak 0) (aq (dC (.int 5)) au))) (dC (.int 2)))) (aH 2 (aG 2 lH (aq (ak 0) (aq (ak 1) au)))) (aH 2 (aG 2 lI (aq (ak 0) (aq (ak 1) au))))) (aD (aH 3 (aJ bC (aq (ak 2) au))) (aD (bh (aM (av cH (aG 2 bu (aq (ak 0) (aq (dC (.int 3)) au))) (dC (.int 0)))) (aH 2 (aG 1 lJ (aq (ak 2) au))) bF) (aD (bh (iE (aM (av iN (ak 3) (dC (.int 1)))) (aM (av cH (aG 2 bu (aq (ak 0) (aq (dC (.int 4)) au))) (dC (.int 0))))) (aD (aH 4 (aG 2 bu (aq (ak 0) (aq (ak 3) au)))) (aH 2 (aG 3 kB (aq (ak 2) (aq (ak 4) (aq (av cZ (av bx (av bx (ak 4) (dC (.int 1))) (aG 2 bu (aq (ak 0) (aq (av fO (ak 3) (dC (.int 1))) au)))) (ak 3)) au)))))) bF) (aR (aG 2 qo (aq (ak 2) (aq (aG 2 oj (aq (ak 0) (aq (ak 3) au))) au))))))))
def uw:List D->aa->R D:=ck 5 Δ vD
def vn:ah :=
 (aR (aJ gV (aq (bA (cy (ak 0)) [η,ζ 0] (aA 0) aZ (aJ gV (aq (bA (bH (aq (aJ bC (aq (ak 1) au)) au)) [η,ζ 0] (aA 0) (aM (av aE (ak 1) (ak 0))) (ak 0)) au))) au)))
def kC:List D->aa->R D:=ck 1 Δ vn
def vh:ah :=
 (aR (gf (aJ bG (aq (ak 0) (aq (dC (.ty "int")) au))) (iO (aJ bG (aq (ak 0) (aq (dC (.ty "bool")) au))))))
def xr:List D->aa->R D:=ck 1 Δ vh
def kP(m:List D->aa->R D):ah :=
 (aD (bh (aM (av i9 (ak 1) (dC .aF))) (aR (av i9 (ak 0) (dC .aF))) bF) (aD (bh (aM (aJ bG (aq (ak 1) (aq (dC (.ty "bool")) au)))) (aR (gf (aJ bG (aq (ak 0) (aq (dC (.ty "bool")) au))) (av cH (ak 0) (ak 1)))) bF) (aD (bh (aM (aJ bG (aq (ak 1) (aq (dC (.ty "int")) au)))) (aR (gf (aG 1 xr (aq (ak 0) au)) (av cH (ak 0) (ak 1)))) bF) (aD (bh (aM (aJ bG (aq (ak 1) (aq (dC (.ty "str")) au)))) (aR (gf (aJ bG (aq (ak 0) (aq (dC (.ty "str")) au))) (av cH (ak 0) (ak 1)))) bF) (aD (bh (uO (aM (av cL (aJ bG (aq (ak 1) (aq (dC (.ty "tuple")) au))) (aJ bG (aq (ak 0) (aq (dC (.ty "tuple")) au))))) (aM (av cL (aJ bG (aq (ak 1) (aq (dC (.ty "list")) au))) (aJ bG (aq (ak 0) (aq (dC (.ty "list")) au)))))) (aR (dC (.bl Δ))) bF) (aR (gf (av cH (aJ bC (aq (ak 0) au)) (aJ bC (aq (ak 1) au))) (aJ mh (aq (bA (oU (aq (ak 0) (aq (ak 1) au))) [η,η] (dI 2 (bR (aA 0) (bR (aA 1) dQ))) aZ (aG 2 m (aq (ak 0) (aq (ak 1) au)))) au)))))))))
def fm:Nat->List D->aa->R D
 |0=>λ_ _=>.bad
 |k+1=>ck 2 Δ (kP (fm k))
def qS:ah :=
 (aD (aH 2 (aJ bC (aq (ak 0) au))) (aR (bA (bH (aq (ak 2) au)) [η,ζ 2,ζ 0,ζ 1] (aA 0) aZ (bA (bH (aq (ak 1) au)) [η,ζ 2,ζ 0,ζ 3] (aA 0) aZ (av cL (av aE (av aE (ak 1) (ak 2)) (ak 0)) (av cL (av inD (ak 2) (ak 3)) (av inD (ak 0) (ak 3))))))))
def uv:List D->aa->R D:=ck 3 Δ qS
def qU:ah :=
 (aR (aJ bC (aq (bA (bH (aq (aJ bC (aq (ak 0) au)) au)) [η,ζ 0,ζ 1,ζ 2] (aA 0) (iE (aM (av aE (av aE (ak 1) (ak 2)) (ak 0))) (aM (av aE (av aE (ak 1) (ak 3)) (ak 0)))) (ak 0)) au)))
def qj:List D->aa->R D:=ck 3 Δ qU
def qW:ah :=
 (aD (aH 1 (aJ bC (aq (ak 0) au))) (aD (aH 2 (bA (cy (ak 0)) [η] (aA 0) aZ (jA (ak 0) (dC (.bl θ))))) (aD (bJ (bH (aq (ak 1) au)) (aA 3) (bh (aM (av cL (av aE (ak 2) (ak 3)) (av aE (ak 2) (dC (.int 0))))) (aR (bf (aq (dC (.str "place")) (aq (ak 3) au)))) bF)) (aD (aH 4 (cU (aq (dC .aF) (aq (dC .aF) au)))) (aD (bJ (bH (aq (dC (.int 2)) au)) (aA 5) (bJ (bH (aq (ak 1) au)) (aA 6) (bJ (eV (aq (av bx (ak 6) (dC (.int 1))) (aq (ak 1) au))) (aA 7) (bh (aM (av cH (aJ qy (aq (iO (av aE (av aE (ak 0) (ak 6)) (ak 7))) au)) (ak 5))) (aD (aH 8 (aG 3 qj (aq (ak 0) (aq (ak 6) (aq (ak 7) au))))) (aD (bh (aM (av i9 (av aE (ak 4) (ak 5)) (dC .aF))) (gI (ak 8) (gQ (ak 4) (ak 5))) bF) (bh (aM (av cL (ak 8) (av aE (ak 4) (ak 5)))) (aR (bf (aq (av aE (cV (aq (dC (.str "tied")) (aq (dC (.str "apart")) au))) (ak 5)) (aq (ak 6) (aq (ak 7) au))))) bF))) bF)))) (aR (bf (aq (dC (.str "even")) (aq (bf (aq (ak 1) (aq (av aE (ak 2) (dC (.int 0))) (aq (av aE (ak 4) (dC (.int 0))) (aq (av aE (ak 4) (dC (.int 1))) au))))) au)))))))))
def qp:List D->aa->R D:=ck 9 Δ qW
def vB:ah :=
 (aD (aH 1 (cV (aq (aJ (gC eW) (aq (ak 0) (aq (dC (.fn "NoDeed" 0)) au))) (aq (aJ (gC eW) (aq (ak 0) (aq (dC (.fn "NoField" 0)) au))) (aq (aJ (gC eW) (aq (ak 0) (aq (dC (.fn "NoName" 0)) au))) (aq (aJ (gC eW) (aq (ak 0) (aq (dC (.fn "NoNumbers" 0)) au))) au)))))) (aD (aH 1 (av oX (ak 1) (cV (aq (aJ (gC eW) (aq (ak 0) (aq (dC (.fn "NoPlaces" 0)) au))) (aq (aJ (gC eW) (aq (ak 0) (aq (dC (.fn "NoRow" 0)) au))) (aq (aJ (gC eW) (aq (ak 0) (aq (dC (.fn "NoSquare" 0)) au))) (aq (aJ (gC eW) (aq (ak 0) (aq (dC (.fn "NoText" 0)) au))) au))))))) (aD (aH 1 (av oX (ak 1) (cV (aq (aJ (gC eW) (aq (ak 0) (aq (dC (.fn "NoThing" 0)) au))) (aq (aJ (gC eW) (aq (ak 0) (aq (dC (.fn "NoWeb" 0)) au))) (aq (aJ (gC eW) (aq (ak 0) (aq (dC (.fn "TooMany" 0)) au))) au)))))) (aD (bh (uO (aM (av cL (jA (ak 1) (dC (.bl θ))) (dC (.int 1)))) (gT (aM (aJ (gC eW) (aq (ak 0) (aq (dC (.ty "ValueError")) au)))))) (aR (dC (.str "other"))) bF) (aD (aH 2 (cV (aq (dC (.str "deed")) (aq (dC (.str "field")) (aq (dC (.str "name")) (aq (dC (.str "numbers")) (aq (dC (.str "places")) (aq (dC (.str "row")) (aq (dC (.str "square")) (aq (dC (.str "text")) (aq (dC (.str "thing")) (aq (dC (.str "web")) (aq (dC (.str "many")) au))))))))))))) (aR (av aE (ak 2) (HV (ak 1) (dC (.bl θ))))))))))
def z5:List D->aa->R D:=ck 3 Δ vB
def oZ:ah :=
 (aD (aH 1 (cU (aq (cV (aq (bf au) au)) au))) (aD (bJ (bH (aq (av fO (ak 0) (dC (.int 1))) au)) (aA 2) (wK 1 3 (aH 3 (cU au)) (bJ (cy (av aE (ak 1) (oV nZ (dC (.int 1))))) (aA 4) (aD (aH 5 (dC (.int 1))) (aD (bh (aM (av nY (ak 4) (bf au))) (aH 5 (av bx (av aE (ak 4) (oV nZ (dC (.int 1)))) (dC (.int 1)))) bF) (cW (dw (ak 3) (bA (eV (aq (ak 5) (aq (ak 0) au))) [η,ζ 4] (aA 0) aZ (av jX (ak 1) (bf (aq (ak 0) au))))))))))) (aD (aH 6 (cU au)) (aD (bJ (cy (ak 1)) (aA 7) (cW (dw (ak 6) (ak 7)))) (aR (ak 6))))))
def qi:List D->aa->R D:=ck 8 Δ oZ
def vp:ah :=
 (aD (zg eW 1 2 (cW (aG 1 lK (aq (ak 0) au))) (Cw 1 yK (aq (ak 0) au)) (aG 1 z5 (aq (ak 1) au))) (aR (dC (.str "told"))))
def qk:List D->aa->R D:=ck 2 Δ vp
def vF:ah :=
 (aD (bJ (bH (aq (aJ ur (aq (dC (.int 1)) (aq (aJ fR (aq (aJ bC (aq (ak 0) au)) (aq (dC (.int 4)) au))) au))) au)) (aA 1) (aD (aH 2 (aG 1 qm (aq (aG 2 om (aq (ak 0) (aq (ak 1) au))) au))) (aD (aH 3 (aG 2 uw (aq (ak 2) (aq (dC (.int 7)) au)))) (aD (aH 4 (cU au)) (aD (bJ (cy (aG 1 qi (aq (aJ bC (aq (ak 3) au)) au))) (aA 5) (bh (aM (av jd (av aE (aG 1 qp (aq (aG 2 uv (aq (ak 3) (aq (ak 5) au))) au)) (dC (.int 0))) (dC (.str "even")))) (cW (jW (ak 4) (ak 5))) bF)) (aD (aH 6 (aG 1 uq (aq (aG 1 kC (aq (ak 3) au)) au))) (aD (bh (gT (aM (aG 2 (fm 3) (aq (ak 6) (aq (ak 4) au))))) (aR (dC (.bl Δ))) bF) (aD (cW (jW (ak 6) (bf au))) (bh (gT (aM (aG 2 (fm 3) (aq (aG 1 lK (aq (aG 1 kC (aq (ak 3) au)) au)) (aq (ak 4) au))))) (aR (dC (.bl Δ))) bF))))))))) (aR (av jd (aG 1 qk (aq (av pW (bf (aq (bf au) au)) (av bx (dC (.int 11)) (aG 2 bu (aq (ak 2) (aq (dC (.int 39)) au))))) au)) (dC (.str "many")))))
def xu:List D->aa->R D:=ck 7 Δ vF
set_option genInjectivity false in
set_option genSizeOfSpec false in
structure Tx (K:Θ) (mg:Str->Option Ξ) where
 m8:Ψ
 GX:ο
 HN:Def K mg "is_whole" tG ["thing"] m8 GX
 adQ:ξ K Γ "is_whole"=ζ (ζ (.ref m8))
 m7:Ψ
 GW:ο
 HM:Def K mg "is_whole_within" tF ["thing","least","most"] m7 GW
 adP:ξ K Γ "is_whole_within"=ζ (ζ (.ref m7))
 nj:Ψ
 G3:ο
 HU:Def K mg "are_rising_places" tP ["thing","many"] nj G3
 adX:ξ K Γ "are_rising_places"=ζ (ζ (.ref nj))
 mC:Ψ
 Gw:ο
 Ht:Def K mg "row_where" sE ["many","one","are_tied"] mC Gw
 ads:ξ K Γ "row_where"=ζ (ζ (.ref mC))
 mj:Ψ
 Gr:ο
 Bk:Def K mg "web_where" sA ["many","are_tied"] mj Gr
 ado:ξ K Γ "web_where"=ζ (ζ (.ref mj))
 mw:Ψ
 Gu:ο
 Bm:Def K mg "ties" sC ["web"] mw Gu
 adp:ξ K Γ "ties"=ζ (ζ (.ref mw))
 mD:Ψ
 Gx:ο
 Hu:Def K mg "other_web" pR ["web"] mD Gx
 Nt:ξ K Γ "other_web"=ζ (ζ (.ref mD))
 ni:Ψ
 G2:ο
 Bs:Def K mg "common" tO ["web","one","other"] ni G2
 adW:ξ K Γ "common"=ζ (ζ (.ref ni))
 nc:Ψ
 GZ:ο
 HP:Def K mg "first_unlike_place" tK ["web"] nc GZ
 adS:ξ K Γ "first_unlike_place"=ζ (ζ (.ref nc))
 mz:Ψ
 Gv:ο
 xY:Def K mg "shared_by_all" sD ["web","pairs"] mz Gv
 adq:ξ K Γ "shared_by_all"=ζ (ζ (.ref mz))
 ng:Ψ
 G0:ο
 HQ:Def K mg "first_unlike_pair" tL ["web","pairs"] ng G0
 adT:ξ K Γ "first_unlike_pair"=ζ (ζ (.ref ng))
 nh:Ψ
 G1:ο
 HR:Def K mg "evenness" tM ["web"] nh G1
 adU:ξ K Γ "evenness"=ζ (ζ (.ref nh))
 m9:Ψ
 GY:ο
 Br:Def K mg "is_even" tH ["web"] m9 GY
 adR:ξ K Γ "is_even"=ζ (ζ (.ref m9))
 mq:Ψ
 Gs:ο
 Bl:Def K mg "turned_at" pQ ["web","some"] mq Gs
 Nr:ξ K Γ "turned_at"=ζ (ζ (.ref mq))
 nk:Ψ
 G4:ο
 Bt:Def K mg "all_without_first" pS ["many"] nk G4
 Nu:ξ K Γ "all_without_first"=ζ (ζ (.ref nk))
 j4:Ψ
 xT:ο
 oR:Def K mg "even_turns" tN ["web"] j4 xT
 adV:ξ K Γ "even_turns"=ζ (ζ (.ref j4))
 mY:Ψ
 GR:ο
 HJ:Def K mg "_law_cell_at" sZ ["script","k"] mY GR
 adL:ξ K Γ "_law_cell_at"=ζ (ζ (.ref mY))
 mQ:Ψ
 GI:ο
 HC:Def K mg "_law_pot" sQ ["cell"] mQ GI
 adD:ξ K Γ "_law_pot"=ζ (ζ (.ref mQ))
 mH:Ψ
 GB:ο
 gu:Def K mg "_law_take" sI ["pot","far"] mH GB
 adw:ξ K Γ "_law_take"=ζ (ζ (.ref mH))
 mS:Ψ
 GK:ο
 HE:Def K mg "_law_order" sS ["pot","wide"] mS GK
 adF:ξ K Γ "_law_order"=ζ (ζ (.ref mS))
 mW:Ψ
 GP:ο
 Bq:Def K mg "_law_joined" sX ["many","wanted"] mW GP
 adJ:ξ K Γ "_law_joined"=ζ (ζ (.ref mW))
 mL:Ψ
 GF:ο
 HA:Def K mg "_law_scattered" sM ["pot","most"] mL GF
 adz:ξ K Γ "_law_scattered"=ζ (ζ (.ref mL))
 mT:Ψ
 GL:ο
 Bp:Def K mg "_law_near" sU ["many","marks"] mT GL
 adG:ξ K Γ "_law_near"=ζ (ζ (.ref mT))
 mR:Ψ
 GJ:ο
 HD:Def K mg "_law_plain" sR ["pot","most"] mR GJ
 adE:ξ K Γ "_law_plain"=ζ (ζ (.ref mR))
 mU:Ψ
 GN:ο
 HF:Def K mg "_law_moved" sV ["table","order"] mU GN
 adH:ξ K Γ "_law_moved"=ζ (ζ (.ref mU))
 mG:Ψ
 GA:ο
 Hx:Def K mg "_law_toggled" sH ["table","one","other"] mG GA
 adv:ξ K Γ "_law_toggled"=ζ (ζ (.ref mG))
 m5:Ψ
 GU:ο
 HL:Def K mg "_law_about" tw ["table"] m5 GU
 adN:ξ K Γ "_law_about"=ζ (ζ (.ref m5))
 mZ:Ψ
 GS:ο
 HK:Def K mg "_law_built" tu ["pot","most"] mZ GS
 adM:ξ K Γ "_law_built"=ζ (ζ (.ref mZ))
 mO:Ψ
 GG:ο
 Bo:Def K mg "_law_rows" sO ["table"] mO GG
 adB:ξ K Γ "_law_rows"=ζ (ζ (.ref mO))
 mE:Ψ
 Gy:ο
 Hv:Def K mg "_law_whole" sF ["found"] mE Gy
 adt:ξ K Γ "_law_whole"=ζ (ζ (.ref mE))
 kQ:Ψ
 Ax:ο
 xZ:Def K mg "_law_same" sN ["found","due"] kQ Ax
 adA:ξ K Γ "_law_same"=ζ (ζ (.ref kQ))
 mF:Ψ
 Gz:ο
 Hw:Def K mg "_law_turned_due" sG ["table","some"] mF Gz
 adu:ξ K Γ "_law_turned_due"=ζ (ζ (.ref mF))
 mK:Ψ
 GD:ο
 Hz:Def K mg "_law_shared" sL ["table","one","other"] mK GD
 ady:ξ K Γ "_law_shared"=ζ (ζ (.ref mK))
 mX:Ψ
 GQ:ο
 HH:Def K mg "_law_evenness_due" sY ["table"] mX GQ
 adK:ξ K Γ "_law_evenness_due"=ζ (ζ (.ref mX))
 mV:Ψ
 GO:ο
 HG:Def K mg "_law_kind_of" sW ["e"] mV GO
 adI:ξ K Γ "_law_kind_of"=ζ (ζ (.ref mV))
 mJ:Ψ
 GC:ο
 Hy:Def K mg "_law_subsets" sJ ["many"] mJ GC
 adx:ξ K Γ "_law_subsets"=ζ (ζ (.ref mJ))
 mP:Ψ
 GH:ο
 HB:Def K mg "_law_refused" sP ["web"] mP GH
 adC:ξ K Γ "_law_refused"=ζ (ζ (.ref mP))
 kR:Ψ
 GV:ο
 Qi:Def K mg "law" tE ["script"] kR GV
 adO:ξ K Γ "law"=ζ (ζ (.ref kR))
 Nm:mg "ValueError"=η
 Nl:mg "all"=η
 Nk:mg "any"=η
 xo:mg "bool"=η
 DJ:mg "enumerate"=η
 xm:mg "int"=η
 eg:mg "isinstance"=η
 dX:mg "len"=η
 zV:mg "list"=η
 Nj:mg "max"=η
 qc:mg "min"=η
 cX:mg "range"=η
 Ni:mg "set"=η
 Nh:mg "sorted"=η
 DI:mg "str"=η
 lD:mg "tuple"=η
 Ng:mg "zip"=η
 nL:Ψ
 nG:Ψ
 pI:PySem.W.tabIn K "all_without_first"=ζ (nL,nG)
 rY:PySem.W.codeHdIn K nL nG=θ
 nK:Ψ
 nF:Ψ
 pH:PySem.W.tabIn K "other_web"=ζ (nK,nF)
 rX:PySem.W.codeHdIn K nK nF=θ
 nJ:Ψ
 nE:Ψ
 pG:PySem.W.tabIn K "turned_at"=ζ (nJ,nE)
 rW:PySem.W.codeHdIn K nJ nE=θ
 nM:rZ K=θ
 wk:Tok
 As:mg "MOST_TURNED"=ζ (.int 10 wk)
 uR:Ψ
 O7:mg "NoWeb"=ζ (.ref uR)
 M5:ξ K Γ "NoWeb"=ζ (ζ (.ref uR))
 uT:Ψ
 O9:mg "NoText"=ζ (.ref uT)
 M7:ξ K Γ "NoText"=ζ (ζ (.ref uT))
 uX:Ψ
 Pe:mg "NoNumbers"=ζ (.ref uX)
 Nb:ξ K Γ "NoNumbers"=ζ (ζ (.ref uX))
 uZ:Ψ
 Pg:mg "NoField"=ζ (.ref uZ)
 Nd:ξ K Γ "NoField"=ζ (ζ (.ref uZ))
 uS:Ψ
 O8:mg "NoThing"=ζ (.ref uS)
 M6:ξ K Γ "NoThing"=ζ (ζ (.ref uS))
 uU:Ψ
 Pa:mg "NoSquare"=ζ (.ref uU)
 M8:ξ K Γ "NoSquare"=ζ (ζ (.ref uU))
 uW:Ψ
 Pd:mg "NoPlaces"=ζ (.ref uW)
 Na:ξ K Γ "NoPlaces"=ζ (ζ (.ref uW))
 qP:Ψ
 O6:mg "TooMany"=ζ (.ref qP)
 M4:ξ K Γ "TooMany"=ζ (ζ (.ref qP))
 uY:Ψ
 Pf:mg "NoName"=ζ (.ref uY)
 Nc:ξ K Γ "NoName"=ζ (ζ (.ref uY))
 u7:Ψ
 Ph:mg "NoDeed"=ζ (.ref u7)
 Nf:ξ K Γ "NoDeed"=ζ (ζ (.ref u7))
 uV:Ψ
 Pc:mg "NoRow"=ζ (.ref uV)
 M9:ξ K Γ "NoRow"=ζ (ζ (.ref uV))
 oY:Ψ
 O5:mg "WebError"=ζ (.ref oY)
 adl:ξ K Γ "WebError"=ζ (ζ (.ref oY))
 JT:yj K mg "TooMany" yO "ValueError.__new__"
 gG:yi K eW
 xw:Ci K eW oY=θ
section
variable {P:τ}{w:ψ}{K:Θ}{mg:Str->Option Ξ}{base:υ}
def W7:cB ["thing"] ["thing"] (aW tG):=⟨rfl,rfl,rfl,by decide +kernel,rfl,by decide +kernel,by decide +kernel⟩
def abh(T:Tx K mg):bU P w K mg base bO 1 T.m8 T.GX ["thing"] (bQ K 1 DO) :=
 dJ (k:=0) T.HN.fn W7 rfl rfl λcdv A outer s H E hr=>by
  show cj _ _ vH;unfold vH;exact(aS (bV (nU (bP iQ T.eg aol (az (ay 0) (az (iw rfl T.xm boot_int) aC))) (nR (tZ (bP iQ T.eg aol (az (ay 0) (az (iw rfl T.xo boot_bool) aC))))))))
def WZ:cB ["thing","least","most"] ["thing","least","most"] (aW tF):=⟨rfl,rfl,rfl,by decide +kernel,rfl,by decide +kernel,by decide +kernel⟩
def abg(T:Tx K mg):bU P w K mg base bO 2 T.m7 T.GW ["thing","least","most"] (bQ K 3 qq) :=
 dJ (k:=1) T.HM.fn WZ rfl rfl λcdv A outer s H E hr=>by
  show cj _ _ vG;unfold vG;exact(aS (bV (nU (bK T.HN (abh T) (hr.mono (by decide)) (az (ay 0) aC)) (nR (aaj Mv Mv (ay 1) (ay 0) (ay 2))))))
def zd:cB ["thing","many","least","place"] ["thing","many"] (aW tP):=⟨rfl,rfl,rfl,by decide +kernel,rfl,by decide +kernel,by decide +kernel⟩
def abl(T:Tx K mg):bU P w K mg base bO 3 T.nj T.G3 ["thing","many"] (bQ K 2 xy) :=
 dJ (k:=2) T.HU.fn zd rfl rfl λcdv A outer s H E hr=>by
  show cj _ _ rj;unfold rj;refine aU (dz (tY (gX (bP iQ T.eg aol (az (ay 0) (az (iw rfl T.lD apj) aC))))) (aS (bV iY)) dW) ?_;refine aU (bT (i:=2) aV (hN:=zd.nd)) ?_;refine aU (d9 (FH (ay 0)) (bN (i:=3) (hN:=zd.nd)) (aU (dz (tY (gX (bK T.HM (abg T) (hr.mono (by decide)) (az (ay 3) (az (ay 2) (az (bM ue (ay 1) aV) aC)))))) (aS (bV iY)) dW) (aS (bT (i:=2) (bM eT (ay 3) aV) (hN:=zd.nd))))) ?_
  exact(aS (bV iY))
def abf(T:Tx K mg):kW P w K mg base 1 yx ["web"] 2 (bQ K (2+1) (i8 oB)):=by
 with_unfolding_all refine DT (k:=0) (ps:=["one","other"]) (ns:=["web"]) (d:=oB) (rF.of rfl rfl rfl (by decide +kernel)) (λq cl pm cdv ct us hl=>match us,hl with|[_,_],_=>rfl) λq f cd cl A outer s H hr=>?_
 show bg _ _ oB;unfold oB;exact(gq (aby (ja hr)) (ay 1) (bW bX (ay 2) (ay 0)))
def abe(T:Tx K mg):kW P w K mg base 1 BS ["web","some"] 2 (bQ K (2+2) (i8 oA)):=by
 with_unfolding_all refine DT (k:=0) (ps:=["one","other"]) (ns:=["web","some"]) (d:=oA) (rF.of rfl rfl rfl (by decide +kernel)) (λq cl pm cdv ct us hl=>match us,hl with|[_,_],_=>rfl) λq f cd cl A outer s H hr=>?_
 show bg _ _ oA;unfold oA;exact(gq iZ (gq (nW (ja hr)) (ay 1) (bW bX (ay 2) (ay 0))) (gq iZ (gq (nW (ja hr)) (ay 0) (ay 3)) (gq (nW (ja hr)) (ay 1) (ay 3))))
def abc(T:Tx K mg){A:χ}(hr:cN 1 A):∀t∈lams,∃k,kW P w K mg base k t.1 t.2.1 2 (bQ K (2+t.2.1.length) t.2.2)/\cN k A:=by
 intro t ht;unfold lams at ht;simp only[anW,aob,or_false]at ht
 rcases ht with rfl|rfl
 ·exact⟨_,abf T,hr.mono (by decide)⟩
 ·exact⟨_,abe T,hr.mono (by decide)⟩
def WR:cB ["many","one","are_tied"] ["many","one","are_tied"] (aW sE):=⟨rfl,rfl,rfl,by decide +kernel,rfl,by decide +kernel,by decide +kernel⟩
def aaU(T:Tx K mg):bU P w K mg base bO 2 T.mC T.Gw ["many","one","are_tied"] (bQ K 3 iL) :=
 dJ (k:=1) T.Ht.fn WR rfl rfl λcdv A outer s H E hr=>by
  show cj _ _ vf;unfold vf;exact(aS (bV (pZ yc T.lD apj (az (fZ (N':=["other","one","are_tied"]) (pick:=[η,ζ 1,ζ 2]) (cI.of rfl rfl) (eE (az (ay 0) aC) T.cX) (λ_ _ _ _ _ _=>(bN (i:=0) (hN:=(by decide +kernel:ω (["other","one","are_tied"]:List Str))))) (λ_ _ _ _ _ _=>(jJ (PW.pt (Dp (dh iZ (ay 0) (ay 1)) (Dq (gX (aak 2 (abc T (hr.mono (by decide))) (az (ay 1) (az (ay 0) aC))))))))) (λ_ _ _ _ _ _=>(ay 0))) aC))))
def WL:cB ["many","are_tied"] ["many","are_tied"] (aW sA):=⟨rfl,rfl,rfl,by decide +kernel,rfl,by decide +kernel,by decide +kernel⟩
def Mi(T:Tx K mg):bU P w K mg base bO 3 T.mj T.Gr ["many","are_tied"] (bQ K 2 lF) :=
 dJ (k:=2) T.Bk.fn WL rfl rfl λcdv A outer s H E hr=>by
  show cj _ _ vc;unfold vc;exact(aS (bV (pZ yc T.lD apj (az (fZ (N':=["one","many","are_tied"]) (pick:=[η,ζ 0,ζ 1]) (cI.of rfl rfl) (eE (az (ay 0) aC) T.cX) (λ_ _ _ _ _ _=>(bN (i:=0) (hN:=(by decide +kernel:ω (["one","many","are_tied"]:List Str))))) (λ_ _ _ _ _ _=>gp) (λ_ _ _ _ _ _=>(bK T.Ht (aaU T) (hr.mono (by decide)) (az (ay 1) (az (ay 0) (az (ay 2) aC)))))) aC))))
def za:cB ["web","told","one","row"] ["web"] (aW sC):=⟨rfl,rfl,rfl,by decide +kernel,rfl,by decide +kernel,by decide +kernel⟩
def Mk(T:Tx K mg):bU P w K mg base bO 1 T.mw T.Gu ["web"] (bQ K 1 lG) :=
 dJ (k:=0) T.Bm.fn za rfl rfl λcdv A outer s H E hr=>by
  show cj _ _ vd;unfold vd;refine aU (bT (i:=1) (iX aC) (hN:=za.nd)) ?_;refine aU (d9 (Of (az (ay 0) aC) T.DJ) (uG (n:=2) (jx (bN (i:=2) (hN:=za.nd)) (jx (bN (i:=3) (hN:=za.nd)) uF))) (aS (iW (nT (ay 1) (fZ (N':=["other","one"]) (pick:=[η,ζ 2]) (cI.of rfl rfl) (FH (ay 3)) (λ_ _ _ _ _ _=>(bN (i:=0) (hN:=(by decide +kernel:ω (["other","one"]:List Str))))) (λ_ _ _ _ _ _=>(jJ (dh wY (ay 1) (ay 0)))) (λ_ _ _ _ _ _=>(dZ (az (ay 1) (az (ay 0) aC))))))))) ?_
  exact(aS (bV (ay 1)))
def WS:cB ["web"] ["web"] (aW pR):=⟨rfl,rfl,rfl,by decide +kernel,rfl,by decide +kernel,by decide +kernel⟩
def aaV(T:Tx K mg):bU P w K mg base bO 4 T.mD T.Gx ["web"] (bQ K 1 qg) :=
 Gh (k:=3) T.Hu.fn T.Nt WS rfl rfl λcdv A outer s H E hcd hr=>by
  show cj _ _ vg;unfold vg;exact(aS (bV (Mc (kk:=0) T.Bk (Mi T) (hr.mono (by decide)) (bP eF T.dX aoh (az (ay 0) aC)) (fJ.of (by kernel_rfl)) rfl (λ_=>rfl) (y:="other_web") (by decide +kernel) T.pH T.nM (hcd _ _ T.pH) rfl T.rX)))
def Xa:cB ["web","one","other"] ["web","one","other"] (aW tO):=⟨rfl,rfl,rfl,by decide +kernel,rfl,by decide +kernel,by decide +kernel⟩
def Mr(T:Tx K mg):bU P w K mg base bO 1 T.ni T.G2 ["web","one","other"] (bQ K 3 oq) :=
 dJ (k:=0) T.Bs.fn Xa rfl rfl λcdv A outer s H E hr=>by
  show cj _ _ vK;unfold vK;exact(aS (bV (aae (az (bW bX (ay 0) (ay 1)) aC) (az (bW bX (ay 0) (ay 2)) aC) T.dX T.Ni)))
def C7:cB ["web","place","row"] ["web"] (aW tK):=⟨rfl,rfl,rfl,by decide +kernel,rfl,by decide +kernel,by decide +kernel⟩
def abi(T:Tx K mg):bU P w K mg base bO 1 T.nc T.GZ ["web"] (bQ K 1 ux) :=
 dJ (k:=0) T.HP.fn C7 rfl rfl λcdv A outer s H E hr=>by
  show cj _ _ vI;unfold vI;refine aU (d9 (Of (az (ay 0) aC) T.DJ) (uG (n:=2) (jx (bN (i:=1) (hN:=C7.nd)) (jx (bN (i:=2) (hN:=C7.nd)) uF))) (aS (dz (dh iZ (bP eF T.dX aoh (az (ay 2) aC)) (bP eF T.dX aoh (az (bW bX (ay 0) aV) aC))) (aS (bV (ay 1))) dW))) ?_;exact(aS (bV kq))
def WQ:cB ["web","pairs"] ["web","pairs"] (aW sD):=⟨rfl,rfl,rfl,by decide +kernel,rfl,by decide +kernel,by decide +kernel⟩
def Dt(T:Tx K mg):bU P w K mg base bO 2 T.mz T.Gv ["web","pairs"] (bQ K 2 jN) :=
 dJ (k:=1) T.xY.fn WQ rfl rfl λcdv A outer s H E hr=>by
  show cj _ _ ve;unfold ve;exact(aS (bV (aah (aac (ay 1)) (bK T.Bs (Mr T) (hr.mono (by decide)) (az (ay 0) (az (bW bX (bW bX (ay 1) aV) aV) (az (bW bX (bW bX (ay 1) aV) aV) aC)))) kq)))
def C8:cB ["web","pairs","shared","pair"] ["web","pairs"] (aW tL):=⟨rfl,rfl,rfl,by decide +kernel,rfl,by decide +kernel,by decide +kernel⟩
def abj(T:Tx K mg):bU P w K mg base bO 3 T.ng T.G0 ["web","pairs"] (bQ K 2 qu) :=
 dJ (k:=2) T.HQ.fn C8 rfl rfl λcdv A outer s H E hr=>by
  show cj _ _ vJ;unfold vJ;refine aU (bT (i:=2) (bK T.xY (Dt T) (hr.mono (by decide)) (az (ay 0) (az (ay 1) aC))) (hN:=C8.nd)) ?_
  refine aU (d9 (iM (ay 1)) (bN (i:=3) (hN:=C8.nd)) (aS (dz (dh iZ (bK T.Bs (Mr T) (hr.mono (by decide)) (az (ay 0) (az (bW bX (ay 3) aV) (az (bW bX (ay 3) aV) aC)))) (ay 2)) (aS (bV (ay 3))) dW))) ?_
  exact(aS (bV kq))
def pP:cB ["web","place","near","far","word","pairs","pair"] ["web"] (aW tM):=⟨rfl,rfl,rfl,by decide +kernel,rfl,by decide +kernel,by decide +kernel⟩
def abk(T:Tx K mg):bU P w K mg base bO 5 T.nh T.G1 ["web"] (bQ K 1 xx) :=
 dJ (k:=4) T.HR.fn pP rfl rfl λcdv A outer s H E hr=>by
  show cj _ _ qZ;unfold qZ;refine aU (bT (i:=1) (bK T.HP (abi T) (hr.mono (by decide)) (az (ay 0) aC)) (hN:=pP.nd)) ?_
  refine aU (dz (dh Mw (ay 1) kq) (aS (bV (dZ (az eY (az (ay 1) aC))))) dW) ?_;refine aU (bT (i:=2) (bK T.Bm (Mk T) (hr.mono (by decide)) (az (ay 0) aC)) (hN:=pP.nd)) ?_
  refine aU (bT (i:=3) (bK T.Bm (Mk T) (hr.mono (by decide)) (az (bK T.Hu (aaV T) (hr.mono (by decide)) (az (ay 0) aC)) aC)) (hN:=pP.nd)) ?_
  refine aU (d9 (FH (dZ (az (dZ (az eY (az (ay 2) aC))) (az (dZ (az eY (az (ay 3) aC))) aC)))) (uG (n:=2) (jx (bN (i:=4) (hN:=pP.nd)) (jx (bN (i:=5) (hN:=pP.nd)) uF))) (aU (bT (i:=6) (bK T.HQ (abj T) (hr.mono (by decide)) (az (ay 0) (az (ay 5) aC))) (hN:=pP.nd)) (aS (dz (dh Mw (ay 6) kq) (aS (bV (dZ (az (ay 4) (az (bW bX (ay 6) aV) (az (bW bX (ay 6) aV) aC)))))) dW)))) ?_
  exact(aS (bV (dZ (az eY (az (dZ (az (bP eF T.dX aoh (az (ay 0) aC)) (az (bP eF T.dX aoh (az (bW bX (ay 0) aV) aC)) (az (bK T.xY (Dt T) (hr.mono (by decide)) (az (ay 0) (az (ay 2) aC))) (az (bK T.xY (Dt T) (hr.mono (by decide)) (az (ay 0) (az (ay 3) aC))) aC))))) aC)))))
def W8:cB ["web"] ["web"] (aW tH):=⟨rfl,rfl,rfl,by decide +kernel,rfl,by decide +kernel,by decide +kernel⟩
def Mp(T:Tx K mg):bU P w K mg base bO 6 T.m9 T.GY ["web"] (bQ K 1 qt) :=
 dJ (k:=5) T.Br.fn W8 rfl rfl λcdv A outer s H E hr=>by
  show cj _ _ qY;unfold qY;exact(aS (bV (gq (Dy (ja hr)) (bW bX (bK T.HR (abk T) (hr.mono (by decide)) (az (ay 0) aC)) aV) eY)))
def WM:cB ["web","some"] ["web","some"] (aW pQ):=⟨rfl,rfl,rfl,by decide +kernel,rfl,by decide +kernel,by decide +kernel⟩
def Mj(T:Tx K mg):bU P w K mg base bO 4 T.mq T.Gs ["web","some"] (bQ K 2 qe) :=
 Gh (k:=3) T.Bl.fn T.Nr WM rfl rfl λcdv A outer s H E hcd hr=>by
  show cj _ _ qR;unfold qR;refine aU (dz (tY (gX (bK T.HU (abl T) (hr.mono (by decide)) (az (ay 1) (az (bP eF T.dX aoh (az (ay 0) aC)) aC))))) (aS C4) dW) ?_
  exact(aS (bV (Mc (kk:=1) T.Bk (Mi T) (hr.mono (by decide)) (bP eF T.dX aoh (az (ay 0) aC)) (fJ.of (by kernel_rfl)) rfl (λ_=>rfl) (y:="turned_at") (by decide +kernel) T.pG T.nM (hcd _ _ T.pG) rfl T.rW)))
def abd(T:Tx K mg):kW P w K mg base 1 alP [] 1 (bQ K (1+0) (i8 jQ)):=by
 with_unfolding_all refine DT (k:=0) (ps:=["some"]) (ns:=[]) (d:=jQ) (rF.of rfl rfl rfl (by decide +kernel)) (λq cl pm cdv ct us hl=>match us,hl with|[_],_=>rfl) λq f cd cl A outer s H hr=>?_
 show bg _ _ jQ;unfold jQ;exact(dZ (az (bP eF T.dX aoh (az (ay 0) aC)) (az (ay 0) aC)))
def ze:cB ["many","told","place"] ["many"] (aW pS):=⟨rfl,rfl,rfl,by decide +kernel,rfl,by decide +kernel,by decide +kernel⟩
def Ms(T:Tx K mg):bU P w K mg base bO 4 T.nk T.G4 ["many"] (bQ K 1 z6) :=
 Gh (k:=3) T.Bt.fn T.Nu ze rfl rfl λcdv A outer s H E hcd hr=>by
  show cj _ _ rm;unfold rm;refine aU (bT (i:=1) (iK (az (dZ aC) aC)) (hN:=ze.nd)) ?_;refine aU (d9 (kI (az aV (az (ay 0) aC)) T.cX) (bN (i:=2) (hN:=ze.nd)) (aS (bT (i:=1) (bM Dz (ay 1) (fZ (N':=["some","place"]) (pick:=[η,ζ 2]) (cI.of rfl rfl) (iM (ay 1)) (λ_ _ _ _ _ _=>(bN (i:=0) (hN:=(by decide +kernel:ω (["some","place"]:List Str))))) (λ_ _ _ _ _ _=>gp) (λ_ _ _ _ _ _=>(bM Mx (ay 0) (dZ (az (ay 1) aC)))))) (hN:=ze.nd)))) ?_
  exact(aS (bV (aad (ns:=[]) (m:=i8 jQ) T.Nh (ay 1) (abd T) (hr.mono (by decide)) (fJ.of (by kernel_rfl)) rfl (λ_=>rfl) (y:="all_without_first") (by decide +kernel) T.pI T.nM (hcd _ _ T.pI) rfl T.rY)))
def C9:cB ["web"] ["web"] (aW tN):=⟨rfl,rfl,rfl,by decide +kernel,rfl,by decide +kernel,by decide +kernel⟩
def Mq(T:Tx K mg):bU P w K mg base bO 7 T.j4 T.xT ["web"] (bQ K 1 lK) :=
 dJ (k:=6) T.oR.fn C9 rfl rfl λcdv A outer s H E hr=>by
  show cj _ _ jZ;unfold jZ;refine aU (dz (dh zJ (bP eF T.dX aoh (az (ay 0) aC)) (Dm rfl T.As)) (aS C4) dW) ?_;exact(aS (bV (Mb (N':=["some","web"]) (pick:=[η,ζ 0]) (cI.of rfl rfl) (iM (bK T.Bt (Ms T) (hr.mono (by decide)) (az (bP eF T.dX aoh (az (ay 0) aC)) aC))) (λ_ _ _ _ _ _=>(bN (i:=0) (hN:=(by decide +kernel:ω (["some","web"]:List Str))))) (λ_ _ _ _ _ _=>(jJ (gX (bK T.Br (Mp T) (hr.mono (by decide)) (az (bK T.Bl (Mj T) (hr.mono (by decide)) (az (ay 1) (az (ay 0) aC))) aC))))) (λ_ _ _ _ _ _=>(ay 0)))))
def aaS(T:Tx K mg):bU P w K mg base bO 7 T.j4 T.xT ["web"] (bQ K 1 uq) :=
 dJ (k:=6) T.oR.fn C9 rfl rfl λcdv A outer s H E hr=>by
  show cj _ _ jZ;unfold jZ;refine aU (dz (dh zJ (bP eF T.dX aoh (az (ay 0) aC)) (Dm rfl T.As)) (aS C4) dW) ?_;exact(aS (bV (Mb (N':=["some","web"]) (pick:=[η,ζ 0]) (cI.of rfl rfl) (iM (bK T.Bt (Ms T) (hr.mono (by decide)) (az (bP eF T.dX aoh (az (ay 0) aC)) aC))) (λ_ _ _ _ _ _=>(bN (i:=0) (hN:=(by decide +kernel:ω (["some","web"]:List Str))))) (λ_ _ _ _ _ _=>(jJ (gX (bK T.Br (Mp T) (hr.mono (by decide)) (az (bK T.Bl (Mj T) (hr.mono (by decide)) (az (ay 1) (az (ay 0) aC))) aC))))) (λ_ _ _ _ _ _=>(ay 0)))))
def aaR(T:Tx K mg):bU P w K mg base (jl P w K) 7 T.j4 T.xT ["web"] (CY K 1 yK) :=
 ahP (k:=6) T.oR.fn C9 rfl rfl λcdv A outer s H E hr=>by
  show rC _ _ _ BD;unfold BD;exact(Cq (SV (dh zJ (bP eF T.dX aoh (az (ay 0) aC)) (Dm rfl T.As)) (Cq (SR T.JT F.excBase_ValueError)) SS))
def WY:cB ["script","k"] ["script","k"] (aW sZ):=⟨rfl,rfl,rfl,by decide +kernel,rfl,by decide +kernel,by decide +kernel⟩
def aa8(T:Tx K mg):bU P w K mg base bO 1 T.mY T.GR ["script","k"] (bQ K 2 om) :=
 dJ (k:=0) T.HJ.fn WY rfl rfl λcdv A outer s H E hr=>by
  show cj _ _ qX;unfold qX;refine aU (dz (dh wY (ay 1) (bP eF T.dX aoh (az (ay 0) aC))) (aS (bV (bW bX (ay 0) (ay 1)))) dW) ?_;exact(aS (bV aV))
def su:cB ["cell","number","j","more"] ["cell"] (aW sQ):=⟨rfl,rfl,rfl,by decide +kernel,rfl,by decide +kernel,by decide +kernel⟩
def aa3(T:Tx K mg):bU P w K mg base bO 1 T.mQ T.GI ["cell"] (bQ K 1 qm) :=
 dJ (k:=0) T.HC.fn su rfl rfl λcdv A outer s H E hr=>by
  show cj _ _ qV;unfold qV;refine aU (dz (dh ab2 (ay 0) (bM Mu aV aV)) (aS (bV (iX (az (bM ue (ay 0) (bM Mu aV aV)) aC)))) dW) ?_;refine aU (bT (i:=1) aV (hN:=su.nd)) ?_;refine aU (d9 (eE (az aV aC) T.cX) (bN (i:=2) (hN:=su.nd)) (aU (bT (i:=3) (bM lA (bM p9 (bM eT (bM eT (bM lA (ay 0) aV) (bM p9 aV (ay 2))) aV) aV) aV) (hN:=su.nd)) (aU (bT (i:=3) (bM lA (bM eT (bM eT (bM p9 (ay 3) (ay 3)) (bM p9 aV (ay 2))) aV) aV) (hN:=su.nd)) (aS (bT (i:=1) (bM eT (bM p9 (ay 1) aV) (ay 3)) (hN:=su.nd)))))) ?_;exact(aS (bV (iX (az (ay 1) aC))))
def Ln:cB ["pot","far","found"] ["pot","far"] (aW sI):=⟨rfl,rfl,rfl,by decide +kernel,rfl,by decide +kernel,by decide +kernel⟩
def gJ(T:Tx K mg):bU P w K mg base bO 1 T.mH T.GB ["pot","far"] (bQ K 2 bu) :=
 dJ (k:=0) T.gu.fn Ln rfl rfl λcdv A outer s H E hr=>by
  show cj _ _ qT;unfold qT;refine aU (bT (i:=2) (bM lA (bW bX (ay 0) aV) (ay 1)) (hN:=Ln.nd)) ?_;refine aU (pM (bM wZ (bW bX (ay 0) aV) (ay 1)) (qG (ay 0) aV)) ?_;exact(aS (bV (ay 2)))
def C6:cB ["pot","wide","found","k"] ["pot","wide"] (aW sS):=⟨rfl,rfl,rfl,by decide +kernel,rfl,by decide +kernel,by decide +kernel⟩
def aa5(T:Tx K mg):bU P w K mg base bO 2 T.mS T.GK ["pot","wide"] (bQ K 2 oj) :=
 dJ (k:=1) T.HE.fn C6 rfl rfl λcdv A outer s H E hr=>by
  show cj _ _ vt;unfold vt;refine aU (bT (i:=2) (iX aC) (hN:=C6.nd)) ?_;refine aU (d9 (eE (az (ay 1) aC) T.cX) (bN (i:=3) (hN:=C6.nd)) (aS (iW (aaf (ay 2) (bK T.gu (gJ T) (hr.mono (by decide)) (az (ay 0) (az (bM eT (ay 3) aV) aC))) (ay 3))))) ?_
  exact(aS (bV (pZ yc T.lD apj (az (ay 2) aC))))
def zc:cB ["many","wanted","found","one","other"] ["many","wanted"] (aW sX):=⟨rfl,rfl,rfl,by decide +kernel,rfl,by decide +kernel,by decide +kernel⟩
def Mn(T:Tx K mg):bU P w K mg base bO 1 T.mW T.GP ["many","wanted"] (bQ K 2 jO) :=
 Gi (k:=0) T.Bq.fn zc rfl rfl λcdv A outer s H E hr=>by
  show cj _ _ vC;unfold vC;refine aU (nO (i:=2) (hN:=zc.nd) (N':=["place","many"]) (pick:=[η,ζ 0]) (cI.of rfl rfl) (eE (az (ay 0) aC) T.cX) (λ_ _ _ _ _ _=>(bN (i:=0) (hN:=(by decide +kernel:ω (["place","many"]:List Str))))) (λ_ _ _ _ _ _=>gp) (λ_ _ _ _ _ _=>(bM Mt (iK (az iY aC)) (ay 1)))) ?_
  refine aU (d9 (iM (ay 1)) (uG (n:=2) (jx (bN (i:=3) (hN:=zc.nd)) (jx (bN (i:=4) (hN:=zc.nd)) uF))) (aU (pM iY (qG (bW bX (ay 2) (ay 3)) (ay 4))) (aS (pM iY (qG (bW bX (ay 2) (ay 4)) (ay 3)))))) ?_;exact(aS (bV (ay 2)))
def wD:cB ["pot","most","many","dense","wanted","one"] ["pot","most"] (aW sM):=⟨rfl,rfl,rfl,by decide +kernel,rfl,by decide +kernel,by decide +kernel⟩
def aa1(T:Tx K mg):bU P w K mg base bO 2 T.mL T.GF ["pot","most"] (bQ K 2 lH) :=
 dJ (k:=1) T.HA.fn wD rfl rfl λcdv A outer s H E hr=>by
  show cj _ _ vm;unfold vm;refine aU (bT (i:=2) (bM eT aV (bK T.gu (gJ T) (hr.mono (by decide)) (az (ay 0) (az (ay 1) aC)))) (hN:=wD.nd)) ?_
  refine aU (bT (i:=3) (bM eT aV (bK T.gu (gJ T) (hr.mono (by decide)) (az (ay 0) (az aV aC)))) (hN:=wD.nd)) ?_
  refine aU (bT (i:=4) (iX aC) (hN:=wD.nd)) ?_;refine aU (d9 (eE (az (ay 2) aC) T.cX) (bN (i:=5) (hN:=wD.nd)) (aS (iW (nT (ay 4) (fZ (N':=["other","one","dense","pot"]) (pick:=[η,ζ 5,ζ 3,ζ 0]) (cI.of rfl rfl) (kI (az (bM eT (ay 5) aV) (az (ay 2) aC)) T.cX) (λ_ _ _ _ _ _=>(bN (i:=0) (hN:=(by decide +kernel:ω (["other","one","dense","pot"]:List Str))))) (λ_ _ _ _ _ _=>(jJ (dh wY (bK T.gu (gJ T) (hr.mono (by decide)) (az (ay 3) (az aV aC))) (ay 2)))) (λ_ _ _ _ _ _=>(dZ (az (ay 1) (az (ay 0) aC))))))))) ?_
  exact(aS (bV (bK T.Bq (Mn T) (hr.mono (by decide)) (az (ay 2) (az (ay 4) aC)))))
def zb:cB ["many","marks","found","one","other"] ["many","marks"] (aW sU):=⟨rfl,rfl,rfl,by decide +kernel,rfl,by decide +kernel,by decide +kernel⟩
def Mm(T:Tx K mg):bU P w K mg base bO 1 T.mT T.GL ["many","marks"] (bQ K 2 kE) :=
 dJ (k:=0) T.Bp.fn zb rfl rfl λcdv A outer s H E hr=>by
  show cj _ _ vz;unfold vz;refine aU (bT (i:=2) (iX aC) (hN:=zb.nd)) ?_;refine aU (d9 (eE (az (ay 0) aC) T.cX) (bN (i:=3) (hN:=zb.nd)) (aS (d9 (kI (az (bM eT (ay 3) aV) (az (ay 0) aC)) T.cX) (bN (i:=4) (hN:=zb.nd)) (aS (dz (gX (bP aj9 T.Nk boot_any (az (fZ (N':=["mark","marks","other"]) (pick:=[η,ζ 1,ζ 4]) (cI.of rfl rfl) (iM (bW bX (ay 1) (ay 3))) (λ_ _ _ _ _ _=>(bN (i:=0) (hN:=(by decide +kernel:ω (["mark","marks","other"]:List Str))))) (λ_ _ _ _ _ _=>gp) (λ_ _ _ _ _ _=>(gq (nW (ja hr)) (ay 0) (bW bX (ay 1) (ay 2))))) aC))) (aS (iW (Dn (ay 2) (dZ (az (ay 3) (az (ay 4) aC)))))) dW))))) ?_
  exact(aS (bV (ay 2)))
def fh:cB ["pot","most","way","many","wanted","steps","step","things","marks","one","high","wide","squares"] ["pot","most"] (aW sR):=⟨rfl,rfl,rfl,by decide +kernel,rfl,by decide +kernel,by decide +kernel⟩
def aa4(T:Tx K mg):bU P w K mg base bO 2 T.mR T.GJ ["pot","most"] (bQ K 2 lI) :=
 dJ (k:=1) T.HD.fn fh rfl rfl λcdv A outer s H E hr=>by
  show cj _ _ vq;unfold vq;refine aU (bT (i:=2) (bK T.gu (gJ T) (hr.mono (by decide)) (az (ay 0) (az aV aC))) (hN:=fh.nd)) ?_
  refine aU (bT (i:=3) (bM eT aV (bK T.gu (gJ T) (hr.mono (by decide)) (az (ay 0) (az (ay 1) aC)))) (hN:=fh.nd)) ?_
  refine aU (bT (i:=4) (iX aC) (hN:=fh.nd)) ?_;refine aU (dz (dh i6 (ay 2) aV) (aU (nO (i:=5) (hN:=fh.nd) (N':=["step","pot"]) (pick:=[η,ζ 0]) (cI.of rfl rfl) (kI (az aV (az (bM eT (bM wZ (ay 3) aV) aV) aC)) T.cX) (λ_ _ _ _ _ _=>(bN (i:=0) (hN:=(by decide +kernel:ω (["step","pot"]:List Str))))) (λ_ _ _ _ _ _=>(jJ (dh i6 (bK T.gu (gJ T) (hr.mono (by decide)) (az (ay 1) (az aV aC))) aV))) (λ_ _ _ _ _ _=>(ay 0))) (aS (d9 (iM (ay 5)) (bN (i:=6) (hN:=fh.nd)) (aS (iW (nT (ay 4) (fZ (N':=["k","many","step"]) (pick:=[η,ζ 3,ζ 6]) (cI.of rfl rfl) (eE (az (ay 3) aC) T.cX) (λ_ _ _ _ _ _=>(bN (i:=0) (hN:=(by decide +kernel:ω (["k","many","step"]:List Str))))) (λ_ _ _ _ _ _=>gp) (λ_ _ _ _ _ _=>(dZ (az (ay 0) (az (bM lA (bM eT (ay 0) (ay 2)) (ay 1)) aC))))))))))) (aS (dz (dh i6 (ay 2) aV) (aU (bT (i:=7) (bW bX (iK (az aV (az aV (az aV (az aV aC))))) (bK T.gu (gJ T) (hr.mono (by decide)) (az (ay 0) (az aV aC)))) (hN:=fh.nd)) (aU (bT (i:=8) (iX aC) (hN:=fh.nd)) (aU (d9 (eE (az (ay 7) aC) T.cX) (bN (i:=9) (hN:=fh.nd)) (aS (iW (nT (ay 8) (fZ (N':=["other","one"]) (pick:=[η,ζ 9]) (cI.of rfl rfl) (kI (az (bM eT (ay 9) aV) (az (ay 7) aC)) T.cX) (λ_ _ _ _ _ _=>(bN (i:=0) (hN:=(by decide +kernel:ω (["other","one"]:List Str))))) (λ_ _ _ _ _ _=>gp) (λ_ _ _ _ _ _=>(iK (az (ay 1) (az (ay 0) aC))))))))) (aU (bT (i:=3) (bP uQ T.qc apK (az (bP eF T.dX aoh (az (ay 8) aC)) (az (ay 1) aC))) (hN:=fh.nd)) (aS (bT (i:=4) (bK T.Bp (Mm T) (hr.mono (by decide)) (az (ay 3) (az (ay 8) aC))) (hN:=fh.nd))))))) (aS (dz (dh wY (ay 2) aV) (aU (bT (i:=10) (bM eT aV (bK T.gu (gJ T) (hr.mono (by decide)) (az (ay 0) (az (bP uQ T.qc apK (az aV (az (ay 1) aC))) aC)))) (hN:=fh.nd)) (aU (bT (i:=11) (bM eT aV (bK T.gu (gJ T) (hr.mono (by decide)) (az (ay 0) (az (bP uQ T.qc apK (az aV (az (bM wZ (ay 1) (ay 10)) aC))) aC)))) (hN:=fh.nd)) (aU (bT (i:=3) (bM p9 (ay 10) (ay 11)) (hN:=fh.nd)) (aU (nO (i:=8) (hN:=fh.nd) (N':=["k","wide"]) (pick:=[η,ζ 11]) (cI.of rfl rfl) (eE (az (ay 3) aC) T.cX) (λ_ _ _ _ _ _=>(bN (i:=0) (hN:=(by decide +kernel:ω (["k","wide"]:List Str))))) (λ_ _ _ _ _ _=>gp) (λ_ _ _ _ _ _=>(iK (az (bM wZ (ay 0) (ay 1)) aC)))) (aU (dz (dh i6 (ay 2) aV) (aS (nO (i:=8) (hN:=fh.nd) (N':=["k","wide"]) (pick:=[η,ζ 11]) (cI.of rfl rfl) (eE (az (ay 3) aC) T.cX) (λ_ _ _ _ _ _=>(bN (i:=0) (hN:=(by decide +kernel:ω (["k","wide"]:List Str))))) (λ_ _ _ _ _ _=>gp) (λ_ _ _ _ _ _=>(iK (az (bM wZ (ay 0) (ay 1)) (az (bM eT aV (bM lA (ay 0) (ay 1))) aC)))))) dW) (aS (bT (i:=4) (bK T.Bp (Mm T) (hr.mono (by decide)) (az (ay 3) (az (ay 8) aC))) (hN:=fh.nd)))))))) (aS (dz (dh i6 (ay 2) aV) (aU (bT (i:=3) (bP uQ T.qc apK (az (ay 1) (az (bW bX (iK (az aV (az aV aC))) (bK T.gu (gJ T) (hr.mono (by decide)) (az (ay 0) (az aV aC)))) aC))) (hN:=fh.nd)) (aU (bT (i:=12) (fZ (N':=["k","many"]) (pick:=[η,ζ 3]) (cI.of rfl rfl) (kI (az aV (az (ay 3) aC)) T.cX) (λ_ _ _ _ _ _=>(bN (i:=0) (hN:=(by decide +kernel:ω (["k","many"]:List Str))))) (λ_ _ _ _ _ _=>gp) (λ_ _ _ _ _ _=>(bM lA (bM p9 (ay 0) (ay 0)) (ay 1)))) (hN:=fh.nd)) (aS (d9 (eE (az (ay 3) aC) T.cX) (bN (i:=9) (hN:=fh.nd)) (aS (iW (nT (ay 4) (fZ (N':=["other","one","squares","many"]) (pick:=[η,ζ 9,ζ 12,ζ 3]) (cI.of rfl rfl) (kI (az (bM eT (ay 9) aV) (az (ay 3) aC)) T.cX) (λ_ _ _ _ _ _=>(bN (i:=0) (hN:=(by decide +kernel:ω (["other","one","squares","many"]:List Str))))) (λ_ _ _ _ _ _=>(jJ (dh (nW (ja hr)) (bM lA (bM ue (ay 0) (ay 1)) (ay 3)) (ay 2)))) (λ_ _ _ _ _ _=>(dZ (az (ay 1) (az (ay 0) aC)))))))))))) (aU (bT (i:=3) (bP uQ T.qc apK (az aV (az (ay 1) aC))) (hN:=fh.nd)) (aU (d9 (eE (az (ay 3) aC) T.cX) (bN (i:=9) (hN:=fh.nd)) (aS (iW (nT (ay 4) (fZ (N':=["other","one"]) (pick:=[η,ζ 9]) (cI.of rfl rfl) (kI (az (bM eT (ay 9) aV) (az (ay 3) aC)) T.cX) (λ_ _ _ _ _ _=>(bN (i:=0) (hN:=(by decide +kernel:ω (["other","one"]:List Str))))) (λ_ _ _ _ _ _=>(jJ (dh (nW (ja hr)) (bM ue (ay 0) (ay 1)) (dZ (az aV (az aV (az aV aC))))))) (λ_ _ _ _ _ _=>(dZ (az (ay 1) (az (ay 0) aC))))))))) (aS (nO (i:=4) (hN:=fh.nd) (N':=["one","other"]) (pick:=[η,η]) (cI.of rfl rfl) (iM (ay 4)) (λ_ _ _ _ _ _=>(uG (n:=2) (jx (bN (i:=0) (hN:=(by decide +kernel:ω (["one","other"]:List Str)))) (jx (bN (i:=1) (hN:=(by decide +kernel:ω (["one","other"]:List Str)))) uF)))) (λ_ _ _ _ _ _=>(jJ (dh i6 (bM ab9 (ay 0) (ay 1)) (ay 0)))) (λ_ _ _ _ _ _=>(dZ (az (ay 0) (az (ay 1) aC))))))))))))))) ?_
  exact(aS (bV (bK T.Bq (Mn T) (hr.mono (by decide)) (az (ay 3) (az (ay 4) aC)))))
def wG:cB ["table","order","many","found","one","other"] ["table","order"] (aW sV):=⟨rfl,rfl,rfl,by decide +kernel,rfl,by decide +kernel,by decide +kernel⟩
def aa6(T:Tx K mg):bU P w K mg base bO 1 T.mU T.GN ["table","order"] (bQ K 2 qo) :=
 Gi (k:=0) T.HF.fn wG rfl rfl λcdv A outer s H E hr=>by
  show cj _ _ vA;unfold vA;refine aU (bT (i:=2) (bP eF T.dX aoh (az (ay 0) aC)) (hN:=wG.nd)) ?_;refine aU (nO (i:=3) (hN:=wG.nd) (N':=["place","many"]) (pick:=[η,ζ 2]) (cI.of rfl rfl) (eE (az (ay 2) aC) T.cX) (λ_ _ _ _ _ _=>(bN (i:=0) (hN:=(by decide +kernel:ω (["place","many"]:List Str))))) (λ_ _ _ _ _ _=>gp) (λ_ _ _ _ _ _=>(bM Mt (iK (az iY aC)) (ay 1)))) ?_
  refine aU (d9 (eE (az (ay 2) aC) T.cX) (bN (i:=4) (hN:=wG.nd)) (aS (d9 (eE (az (ay 2) aC) T.cX) (bN (i:=5) (hN:=wG.nd)) (aS (pM (bW bX (bW bX (ay 0) (ay 4)) (ay 5)) (qG (bW bX (ay 3) (bW bX (ay 1) (ay 4))) (bW bX (ay 1) (ay 5)))))))) ?_;exact(aS (bV (ay 3)))
def Lm:cB ["table","one","other","found"] ["table","one","other"] (aW sH):=⟨rfl,rfl,rfl,by decide +kernel,rfl,by decide +kernel,by decide +kernel⟩
def aaY(T:Tx K mg):bU P w K mg base bO 1 T.mG T.GA ["table","one","other"] (bQ K 3 kB) :=
 Gi (k:=0) T.Hx.fn Lm rfl rfl λcdv A outer s H E hr=>by
  show cj _ _ vj;unfold vj;refine aU (nO (i:=3) (hN:=Lm.nd) (N':=["row"]) (pick:=[η]) (cI.of rfl rfl) (iM (ay 0)) (λ_ _ _ _ _ _=>(bN (i:=0) (hN:=(by decide +kernel:ω (["row"]:List Str))))) (λ_ _ _ _ _ _=>gp) (λ_ _ _ _ _ _=>(pZ aj7 T.zV boot_list (az (ay 0) aC)))) ?_
  refine aU (pM (tZ (bW bX (bW bX (ay 3) (ay 1)) (ay 2))) (qG (bW bX (ay 3) (ay 1)) (ay 2))) ?_;refine aU (pM (tZ (bW bX (bW bX (ay 3) (ay 2)) (ay 1))) (qG (bW bX (ay 3) (ay 2)) (ay 1))) ?_;exact(aS (bV (ay 3)))
def Lp:cB ["table","many"] ["table"] (aW tw):=⟨rfl,rfl,rfl,by decide +kernel,rfl,by decide +kernel,by decide +kernel⟩
def aba(T:Tx K mg):bU P w K mg base bO 1 T.m5 T.GU ["table"] (bQ K 1 lJ) :=
 dJ (k:=0) T.HL.fn Lp rfl rfl λcdv A outer s H E hr=>by
  show cj _ _ vE;unfold vE;refine aU (bT (i:=1) (bP eF T.dX aoh (az (ay 0) aC)) (hN:=Lp.nd)) ?_;exact(aS (bV (fZ (N':=["one","many","table"]) (pick:=[η,ζ 1,ζ 0]) (cI.of rfl rfl) (eE (az (ay 1) aC) T.cX) (λ_ _ _ _ _ _=>(bN (i:=0) (hN:=(by decide +kernel:ω (["one","many","table"]:List Str))))) (λ_ _ _ _ _ _=>gp) (λ_ _ _ _ _ _=>(fZ (N':=["other","one","table"]) (pick:=[η,ζ 0,ζ 2]) (cI.of rfl rfl) (eE (az (ay 1) aC) T.cX) (λ_ _ _ _ _ _=>(bN (i:=0) (hN:=(by decide +kernel:ω (["other","one","table"]:List Str))))) (λ_ _ _ _ _ _=>gp) (λ_ _ _ _ _ _=>(nU (gq iZ (ay 1) (ay 0)) (nR (tZ (bW bX (bW bX (ay 2) (ay 1)) (ay 0)))))))))))
def pN:cB ["pot","most","found","many","one"] ["pot","most"] (aW tu):=⟨rfl,rfl,rfl,by decide +kernel,rfl,by decide +kernel,by decide +kernel⟩
def aa9(T:Tx K mg):bU P w K mg base bO 3 T.mZ T.GS ["pot","most"] (bQ K 2 uw) :=
 dJ (k:=2) T.HK.fn pN rfl rfl λcdv A outer s H E hr=>by
  show cj _ _ vD;unfold vD;refine aU (dz (dh wY (bK T.gu (gJ T) (hr.mono (by decide)) (az (ay 0) (az aV aC))) aV) (aS (bT (i:=2) (bK T.HA (aa1 T) (hr.mono (by decide)) (az (ay 0) (az (ay 1) aC))) (hN:=pN.nd))) (aS (bT (i:=2) (bK T.HD (aa4 T) (hr.mono (by decide)) (az (ay 0) (az (ay 1) aC))) (hN:=pN.nd)))) ?_
  refine aU (bT (i:=3) (bP eF T.dX aoh (az (ay 2) aC)) (hN:=pN.nd)) ?_;refine aU (dz (dh i6 (bK T.gu (gJ T) (hr.mono (by decide)) (az (ay 0) (az aV aC))) aV) (aS (bT (i:=2) (bK T.HL (aba T) (hr.mono (by decide)) (az (ay 2) aC)) (hN:=pN.nd))) dW) ?_
  refine aU (dz (PW.pt (Dp (dh zJ (ay 3) aV) (Dq (dh i6 (bK T.gu (gJ T) (hr.mono (by decide)) (az (ay 0) (az aV aC))) aV)))) (aU (bT (i:=4) (bK T.gu (gJ T) (hr.mono (by decide)) (az (ay 0) (az (ay 3) aC))) (hN:=pN.nd)) (aS (bT (i:=2) (bK T.Hx (aaY T) (hr.mono (by decide)) (az (ay 2) (az (ay 4) (az (bM lA (bM eT (bM eT (ay 4) aV) (bK T.gu (gJ T) (hr.mono (by decide)) (az (ay 0) (az (bM ue (ay 3) aV) aC)))) (ay 3)) aC)))) (hN:=pN.nd)))) dW) ?_
  exact(aS (bV (bK T.HF (aa6 T) (hr.mono (by decide)) (az (ay 2) (az (bK T.HE (aa5 T) (hr.mono (by decide)) (az (ay 0) (az (ay 3) aC))) aC)))))
def WX:cB ["table"] ["table"] (aW sO):=⟨rfl,rfl,rfl,by decide +kernel,rfl,by decide +kernel,by decide +kernel⟩
def Ml(T:Tx K mg):bU P w K mg base bO 1 T.mO T.GG ["table"] (bQ K 1 kC) :=
 dJ (k:=0) T.Bo.fn WX rfl rfl λcdv A outer s H E hr=>by
  show cj _ _ vn;unfold vn;exact(aS (bV (pZ yc T.lD apj (az (fZ (N':=["row","table"]) (pick:=[η,ζ 0]) (cI.of rfl rfl) (iM (ay 0)) (λ_ _ _ _ _ _=>(bN (i:=0) (hN:=(by decide +kernel:ω (["row","table"]:List Str))))) (λ_ _ _ _ _ _=>gp) (λ_ _ _ _ _ _=>(pZ yc T.lD apj (az (fZ (N':=["k","row"]) (pick:=[η,ζ 0]) (cI.of rfl rfl) (eE (az (bP eF T.dX aoh (az (ay 1) aC)) aC) T.cX) (λ_ _ _ _ _ _=>(bN (i:=0) (hN:=(by decide +kernel:ω (["k","row"]:List Str))))) (λ_ _ _ _ _ _=>(jJ (gX (bW bX (ay 1) (ay 0))))) (λ_ _ _ _ _ _=>(ay 0))) aC)))) aC))))
def WU:cB ["found"] ["found"] (aW sF):=⟨rfl,rfl,rfl,by decide +kernel,rfl,by decide +kernel,by decide +kernel⟩
def aaW(T:Tx K mg):bU P w K mg base bO 1 T.mE T.Gy ["found"] (bQ K 1 xr) :=
 dJ (k:=0) T.Hv.fn WU rfl rfl λcdv A outer s H E hr=>by
  show cj _ _ vh;unfold vh;exact(aS (bV (nU (bP iQ T.eg aol (az (ay 0) (az (iw rfl T.xm boot_int) aC))) (nR (tZ (bP iQ T.eg aol (az (ay 0) (az (iw rfl T.xo boot_bool) aC))))))))
def WW:cB ["found","due"] ["found","due"] (aW sN):=⟨rfl,rfl,rfl,by decide +kernel,rfl,by decide +kernel,by decide +kernel⟩
def Du(T:Tx K mg):∀j:Nat,bU P w K mg base bO (2+j) T.kQ T.Ax ["found","due"] (bQ K 2 (fm j))
 |0=>⟨λvs H Q E h=>by obtain⟨_,_,_,_,_,_,p⟩:=h;exact p.elim,λA outer s H args us vs Q E hr he hb hv h=>by obtain⟨_,_,_,_,_,_,p⟩:=h;exact p.elim⟩
 |j+1=>dJ (k:=2+j) T.xZ.fn WW rfl rfl λcdv A outer s H E hr=>by
  have ih:bU P w K mg base bO (2+j) T.kQ T.Ax ["found","due"] (bQ K 2 (fm j)):=Du T j;show cj _ _ (kP (fm j));unfold kP
  generalize fm j=m at ih ⊢
  refine aU (dz (dh Dw (ay 1) kq) (aS (bV (gq Dw (ay 0) kq))) dW) ?_;refine aU (dz (gX (bP iQ T.eg aol (az (ay 1) (az (iw rfl T.xo boot_bool) aC)))) (aS (bV (nU (bP iQ T.eg aol (az (ay 0) (az (iw rfl T.xo boot_bool) aC))) (nR (gq i6 (ay 0) (ay 1)))))) dW) ?_;refine aU (dz (gX (bP iQ T.eg aol (az (ay 1) (az (iw rfl T.xm boot_int) aC)))) (aS (bV (nU (bK T.Hv (aaW T) (hr.mono (by omega)) (az (ay 0) aC)) (nR (gq i6 (ay 0) (ay 1)))))) dW) ?_
  refine aU (dz (gX (bP iQ T.eg aol (az (ay 1) (az (iw rfl T.DI boot_str) aC)))) (aS (bV (nU (bP iQ T.eg aol (az (ay 0) (az (iw rfl T.DI boot_str) aC))) (nR (gq i6 (ay 0) (ay 1)))))) dW) ?_;refine aU (dz (PW.pt (L7 (dh iZ (bP iQ T.eg aol (az (ay 1) (az (iw rfl T.lD apj) aC))) (bP iQ T.eg aol (az (ay 0) (az (iw rfl T.lD apj) aC)))) (L8 (dh iZ (bP iQ T.eg aol (az (ay 1) (az (iw rfl T.zV boot_list) aC))) (bP iQ T.eg aol (az (ay 0) (az (iw rfl T.zV boot_list) aC))))))) (aS (bV iY)) dW) ?_;exact(aS (bV (nU (gq i6 (bP eF T.dX aoh (az (ay 0) aC)) (bP eF T.dX aoh (az (ay 1) aC))) (nR (bP aka T.Nl boot_all (az (fZ (N':=["one","other"]) (pick:=[η,η]) (cI.of rfl rfl) (afV (az (ay 0) (az (ay 1) aC)) T.Ng) (λ_ _ _ _ _ _=>(uG (n:=2) (jx (bN (i:=0) (hN:=(by decide +kernel:ω (["one","other"]:List Str)))) (jx (bN (i:=1) (hN:=(by decide +kernel:ω (["one","other"]:List Str)))) uF)))) (λ_ _ _ _ _ _=>gp) (λ_ _ _ _ _ _=>(bK T.xZ ih (hr.mono (by omega)) (az (ay 0) (az (ay 1) aC))))) aC))))))
def Ll:cB ["table","some","many"] ["table","some"] (aW sG):=⟨rfl,rfl,rfl,by decide +kernel,rfl,by decide +kernel,by decide +kernel⟩
def aaX(T:Tx K mg):bU P w K mg base bO 1 T.mF T.Gz ["table","some"] (bQ K 2 uv) :=
 dJ (k:=0) T.Hw.fn Ll rfl rfl λcdv A outer s H E hr=>by
  show cj _ _ qS;unfold qS;refine aU (bT (i:=2) (bP eF T.dX aoh (az (ay 0) aC)) (hN:=Ll.nd)) ?_;exact(aS (bV (fZ (N':=["p","many","table","some"]) (pick:=[η,ζ 2,ζ 0,ζ 1]) (cI.of rfl rfl) (eE (az (ay 2) aC) T.cX) (λ_ _ _ _ _ _=>(bN (i:=0) (hN:=(by decide +kernel:ω (["p","many","table","some"]:List Str))))) (λ_ _ _ _ _ _=>gp) (λ_ _ _ _ _ _=>(fZ (N':=["q","table","p","some"]) (pick:=[η,ζ 2,ζ 0,ζ 3]) (cI.of rfl rfl) (eE (az (ay 1) aC) T.cX) (λ_ _ _ _ _ _=>(bN (i:=0) (hN:=(by decide +kernel:ω (["q","table","p","some"]:List Str))))) (λ_ _ _ _ _ _=>gp) (λ_ _ _ _ _ _=>(gq iZ (bW bX (bW bX (ay 1) (ay 2)) (ay 0)) (gq iZ (gq (nW (ja hr)) (ay 2) (ay 3)) (gq (nW (ja hr)) (ay 0) (ay 3))))))))))
def WV:cB ["table","one","other"] ["table","one","other"] (aW sL):=⟨rfl,rfl,rfl,by decide +kernel,rfl,by decide +kernel,by decide +kernel⟩
def aa0(T:Tx K mg):bU P w K mg base bO 1 T.mK T.GD ["table","one","other"] (bQ K 3 qj) :=
 dJ (k:=0) T.Hz.fn WV rfl rfl λcdv A outer s H E hr=>by
  show cj _ _ qU;unfold qU;exact(aS (bV (bP eF T.dX aoh (az (fZ (N':=["k","table","one","other"]) (pick:=[η,ζ 0,ζ 1,ζ 2]) (cI.of rfl rfl) (eE (az (bP eF T.dX aoh (az (ay 0) aC)) aC) T.cX) (λ_ _ _ _ _ _=>(bN (i:=0) (hN:=(by decide +kernel:ω (["k","table","one","other"]:List Str))))) (λ_ _ _ _ _ _=>(jJ (PW.pt (Dp (gX (bW bX (bW bX (ay 1) (ay 2)) (ay 0))) (Dq (gX (bW bX (bW bX (ay 1) (ay 3)) (ay 0)))))))) (λ_ _ _ _ _ _=>(ay 0))) aC))))
def ly:cB ["table","many","counts","place","told","kind","one","other","number"] ["table"] (aW sY):=⟨rfl,rfl,rfl,by decide +kernel,rfl,by decide +kernel,by decide +kernel⟩
def aa7(T:Tx K mg):bU P w K mg base bO 2 T.mX T.GQ ["table"] (bQ K 1 qp) :=
 dJ (k:=1) T.HH.fn ly rfl rfl λcdv A outer s H E hr=>by
  show cj _ _ qW;unfold qW;refine aU (bT (i:=1) (bP eF T.dX aoh (az (ay 0) aC)) (hN:=ly.nd)) ?_;refine aU (nO (i:=2) (hN:=ly.nd) (N':=["row"]) (pick:=[η]) (cI.of rfl rfl) (iM (ay 0)) (λ_ _ _ _ _ _=>(bN (i:=0) (hN:=(by decide +kernel:ω (["row"]:List Str))))) (λ_ _ _ _ _ _=>gp) (λ_ _ _ _ _ _=>(Ma (ay 0) iY))) ?_
  refine aU (d9 (eE (az (ay 1) aC) T.cX) (bN (i:=3) (hN:=ly.nd)) (aS (dz (dh iZ (bW bX (ay 2) (ay 3)) (bW bX (ay 2) aV)) (aS (bV (dZ (az eY (az (ay 3) aC))))) dW))) ?_;refine aU (bT (i:=4) (iX (az kq (az kq aC))) (hN:=ly.nd)) ?_;refine aU (d9 (eE (az aV aC) T.cX) (bN (i:=5) (hN:=ly.nd)) (aS (d9 (eE (az (ay 1) aC) T.cX) (bN (i:=6) (hN:=ly.nd)) (aS (d9 (kI (az (bM eT (ay 6) aV) (az (ay 1) aC)) T.cX) (bN (i:=7) (hN:=ly.nd)) (aS (dz (dh i6 (pZ aj8 T.xm boot_int (az (tZ (bW bX (bW bX (ay 0) (ay 6)) (ay 7))) aC)) (ay 5)) (aU (bT (i:=8) (bK T.Hz (aa0 T) (hr.mono (by decide)) (az (ay 0) (az (ay 6) (az (ay 7) aC)))) (hN:=ly.nd)) (aU (dz (dh Dw (bW bX (ay 4) (ay 5)) kq) (aS (pM (ay 8) (qG (ay 4) (ay 5)))) dW) (aS (dz (dh iZ (ay 8) (bW bX (ay 4) (ay 5))) (aS (bV (dZ (az (bW bX (iK (az eY (az eY aC))) (ay 5)) (az (ay 6) (az (ay 7) aC)))))) dW)))) dW))))))) ?_
  exact(aS (bV (dZ (az eY (az (dZ (az (ay 1) (az (bW bX (ay 2) aV) (az (bW bX (ay 4) aV) (az (bW bX (ay 4) aV) aC))))) aC)))))
def wH:cB ["e","some","words"] ["e"] (aW sW):=⟨rfl,rfl,rfl,by decide +kernel,rfl,by decide +kernel,by decide +kernel⟩
def abm(T:Tx K mg):BQ P w K mg base 1 T.mV T.GO ["e"] (bQ K 1 z5) :=
 ahQ (k:=0) T.HG.fn wH rfl rfl λcdv A outer s H E hr=>by
  show cj _ _ vB;unfold vB;refine aU (bT (i:=1) (iK (az (bP (jC T.gG) T.eg aol (az (ay 0) (az (jK T.Ph T.Nf) aC))) (az (bP (jC T.gG) T.eg aol (az (ay 0) (az (jK T.Pg T.Nd) aC))) (az (bP (jC T.gG) T.eg aol (az (ay 0) (az (jK T.Pf T.Nc) aC))) (az (bP (jC T.gG) T.eg aol (az (ay 0) (az (jK T.Pe T.Nb) aC))) aC))))) (hN:=wH.nd)) ?_;refine aU (bT (i:=1) (bM Dz (ay 1) (iK (az (bP (jC T.gG) T.eg aol (az (ay 0) (az (jK T.Pd T.Na) aC))) (az (bP (jC T.gG) T.eg aol (az (ay 0) (az (jK T.Pc T.M9) aC))) (az (bP (jC T.gG) T.eg aol (az (ay 0) (az (jK T.Pa T.M8) aC))) (az (bP (jC T.gG) T.eg aol (az (ay 0) (az (jK T.O9 T.M7) aC))) aC)))))) (hN:=wH.nd)) ?_;refine aU (bT (i:=1) (bM Dz (ay 1) (iK (az (bP (jC T.gG) T.eg aol (az (ay 0) (az (jK T.O8 T.M6) aC))) (az (bP (jC T.gG) T.eg aol (az (ay 0) (az (jK T.O7 T.M5) aC))) (az (bP (jC T.gG) T.eg aol (az (ay 0) (az (jK T.O6 T.M4) aC))) aC))))) (hN:=wH.nd)) ?_;refine aU (dz (PW.pt (L7 (dh iZ (Ma (ay 1) iY) aV) (L8 (tY (gX (bP (jC T.gG) T.eg aol (az (ay 0) (az (iw rfl T.Nm akD) aC)))))))) (aS (bV eY)) dW) ?_;refine aU ?_ ?_
  ·with_reducible refine bT (i:=2) ?_ ?_ ?_ ?_ ?_ ?_
   ·with_reducible refine iK ?_
    with_reducible refine az ?_ ?_ ?_
    ·exact eY
    ·skip
     with_reducible refine az ?_ ?_ ?_
     ·exact eY
     ·skip
      with_reducible refine az ?_ ?_ ?_
      ·exact eY
      ·skip
       with_reducible refine az ?_ ?_ ?_
       ·exact eY
       ·skip
        with_reducible refine az ?_ ?_ ?_
        ·exact eY
        ·skip
         with_reducible refine az ?_ ?_ ?_
         ·exact eY
         ·skip
          with_reducible refine az ?_ ?_ ?_
          ·exact eY
          ·skip
           with_reducible refine az ?_ ?_ ?_
           ·exact eY
           ·skip
            with_reducible refine az ?_ ?_ ?_
            ·exact eY
            ·skip
             with_reducible refine az ?_ ?_ ?_
             ·exact eY
             ·skip
              with_reducible refine az ?_ ?_ ?_
              ·exact eY
              ·skip
               with_reducible exact aC
              ·exact c7 rfl
             ·exact c7 rfl
            ·exact c7 rfl
           ·exact c7 rfl
          ·exact c7 rfl
         ·exact c7 rfl
        ·exact c7 rfl
       ·exact c7 rfl
      ·exact c7 rfl
     ·exact c7 rfl
    ·exact c7 rfl
   ·exact wH.nd
   ·rfl
   ·first|exact Or.inl rfl|exact Or.inr rfl
   ·rfl
   ·first|exact .inl rfl|exact .inr rfl
  ·skip
   exact(aS (bV (bW bX (ay 2) (aag (ay 1) iY))))
def lq:cB ["many","found","size","longer","some","first","every","lot"] ["many"] (aW sJ):=⟨rfl,rfl,rfl,by decide +kernel,rfl,by decide +kernel,by decide +kernel⟩
def aaZ(T:Tx K mg):bU P w K mg base bO 1 T.mJ T.GC ["many"] (bQ K 1 qi) :=
 dJ (k:=0) T.Hy.fn lq rfl rfl λcdv A outer s H E hr=>by
  show cj _ _ oZ;unfold oZ;refine aU ?_ ?_
  ·with_reducible refine bT (i:=1) ?_ ?_ ?_ ?_ ?_ ?_
   ·with_reducible refine iX ?_
    with_reducible refine az ?_ ?_ ?_
    ·exact iK (az (dZ aC) aC)
    ·skip
     with_reducible exact aC
    ·exact c7 rfl
   ·exact lq.nd
   ·rfl
   ·first|exact Or.inl rfl|exact Or.inr rfl
   ·rfl
   ·first|exact .inl rfl|exact .inr rfl
  ·skip
   refine aU (d9 (eE (az (bM ue (ay 0) aV) aC) T.cX) (bN (i:=2) (hN:=lq.nd)) (WI (o:=1) (x:=3) (bT (i:=3) (iX aC) (hN:=lq.nd)) (d9 (iM (bW bX (ay 1) (L6 Kz aV))) (bN (i:=4) (hN:=lq.nd)) (aU (bT (i:=5) aV (hN:=lq.nd)) (aU (dz (dh (abz (ja hr)) (ay 4) (dZ aC)) (aS (bT (i:=5) (bM eT (bW bX (ay 4) (L6 Kz aV)) aV) (hN:=lq.nd))) dW) (aS (iW (nT (ay 3) (fZ (N':=["k","some"]) (pick:=[η,ζ 4]) (cI.of rfl rfl) (kI (az (ay 5) (az (ay 0) aC)) T.cX) (λ_ _ _ _ _ _=>(bN (i:=0) (hN:=(by decide +kernel:ω (["k","some"]:List Str))))) (λ_ _ _ _ _ _=>gp) (λ_ _ _ _ _ _=>(bM Mx (ay 1) (dZ (az (ay 0) aC))))))))))) (ay 1) (ay 3))) ?_
   refine aU (bT (i:=6) (iX aC) (hN:=lq.nd)) ?_;refine aU (d9 (iM (ay 1)) (bN (i:=7) (hN:=lq.nd)) (aS (iW (nT (ay 6) (ay 7))))) ?_;exact(aS (bV (ay 6)))
def Lo:cB ["web","e"] ["web"] (aW sP):=⟨rfl,rfl,rfl,by decide +kernel,rfl,by decide +kernel,by decide +kernel⟩
def aa2(T:Tx K mg):bU P w K mg base bO 8 T.mP T.GH ["web"] (bQ K 1 qk) :=
 dJ (k:=7) T.HB.fn Lo rfl rfl λcdv A outer s H E hr=>by
  show cj _ _ vp;unfold vp;refine aU (WH (T:=eW) (i:=1) (aS (iW (bK T.oR (Mq T) (hr.mono (by decide)) (az (ay 0) aC)))) (λW pn=>(Cq (SW (SX T.oR (aaR T) (hr.mono (by decide)) (az (ay 0) aC))))) (λea=>(aai T.HG (abm T) (jF.held (hr.mono (by decide))) (az (ay 1) aC))) T.O5 (SM T.xw) (hN:=Lo.nd)) ?_
  exact(aS (bV eY))
def pO:cB ["script","k","pot","table","due","some","found"] ["script"] (aW tE):=⟨rfl,rfl,rfl,by decide +kernel,rfl,by decide +kernel,by decide +kernel⟩
def abb(T:Tx K mg):bU P w K mg base bO 9 T.kR T.GV ["script"] (bQ K 1 xu) :=
 dJ (k:=8) T.Qi.fn pO rfl rfl λcdv A outer s H E hr=>by
  show cj _ _ vF;unfold vF;refine aU (d9 (eE (az (bP aj6 T.Nj boot_max (az aV (az (bP uQ T.qc apK (az (bP eF T.dX aoh (az (ay 0) aC)) (az aV aC))) aC))) aC) T.cX) (bN (i:=1) (hN:=pO.nd)) (aU (bT (i:=2) (bK T.HC (aa3 T) (hr.mono (by decide)) (az (bK T.HJ (aa8 T) (hr.mono (by decide)) (az (ay 0) (az (ay 1) aC))) aC)) (hN:=pO.nd)) (aU (bT (i:=3) (bK T.HK (aa9 T) (hr.mono (by decide)) (az (ay 2) (az aV aC))) (hN:=pO.nd)) (aU (bT (i:=4) (iX aC) (hN:=pO.nd)) (aU (d9 (iM (bK T.Hy (aaZ T) (hr.mono (by decide)) (az (bP eF T.dX aoh (az (ay 3) aC)) aC))) (bN (i:=5) (hN:=pO.nd)) (aS (dz (dh (Dy (ja hr)) (bW bX (bK T.HH (aa7 T) (hr.mono (by decide)) (az (bK T.Hw (aaX T) (hr.mono (by decide)) (az (ay 3) (az (ay 5) aC))) aC)) aV) eY) (aS (iW (Dn (ay 4) (ay 5)))) dW))) (aU (bT (i:=6) (bK T.oR (aaS T) (hr.mono (by decide)) (az (bK T.Bo (Ml T) (hr.mono (by decide)) (az (ay 3) aC)) aC)) (hN:=pO.nd)) (aU (dz (tY (gX (bK T.xZ (Du T 3) (hr.mono (by decide)) (az (ay 6) (az (ay 4) aC))))) (aS (bV iY)) dW) (aU (iW (Dn (ay 6) (dZ aC))) (aS (dz (tY (gX (bK T.xZ (Du T 3) (hr.mono (by decide)) (az (bK T.oR (Mq T) (hr.mono (by decide)) (az (bK T.Bo (Ml T) (hr.mono (by decide)) (az (ay 3) aC)) aC)) (az (ay 4) aC))))) (aS (bV iY)) dW)))))))))) ?_
  exact(aS (bV (gq (Dy (ja hr)) (bK T.HB (aa2 T) (hr.mono (by decide)) (az (bM abw (dZ (az (dZ aC) aC)) (bM eT aV (bK T.gu (gJ T) (hr.mono (by decide)) (az (ay 2) (az aV aC))))) aC)) eY)))
end
end Ev
namespace Ev
open PySem L2
def bw{s t:ah}{e e':Ev}{c c':aa}(h:s e c=.ok (.nx e') c'):aD s t e c=t e' c':=by rw[kc,h];rfl
def g7{i:Int}(h:0<=i):∃n:Nat,i=n:=⟨i.toNat,by omega⟩
def qI{g:Gd}{s:ah}(inv:Nat->Ev->aa->Prop):∀(items:List D) (k:Nat) (e:Ev) (c:aa),inv k e c ->
  (∀i x,items[i]? = ζ x->∀e c,inv (k+i) e c->∃e' e'' c' c'',g x e c=.ok e' c'/\s e' c'=.ok (.nx e'') c''/\inv (k+i+1) e'' c'') ->
  ∃e' c',inv (k+items.length) e' c'/\b8 (λ_=>True) g s items e c=.ok (.nx e') c'
 |[],k,e,c,hi,_=>⟨e,c,hi,by simp⟩
 |x::xs,k,e,c,hi,h=>by
  obtain⟨e',e'',c',c'',h1,h2,h3⟩:=h 0 x rfl e c hi;obtain⟨e3,c3,i3,h4⟩:=qI inv xs (k+1) e'' c'' h3 λi y hy e c hi=>by
   have:=h (i+1) y (by simpa using hy) e c (by rwa[show k+(i+1)=k+1+i by omega])
   rwa[show k+(i+1)+1=k+1+i+1 by omega]at this
  exact⟨e3,c3,by rwa[an4,show k+(xs.length+1)=k+1+xs.length by omega],by rw[gD,h1,R.aB,h2];exact h4⟩
def fH(j:Nat)(n:Nat)(c:aa):Prop:=c.length=n/\j<n/\∃p:Int,c[j]? = ζ (.lst [.int p])
def fH.set{j n:Nat}{c:aa}(h:fH j n c)(p:Int):fH j n (c.set j (.lst [.int p])):=by
 obtain⟨h1,h2,_⟩:=h;exact⟨by simp[h1],h2,p,by rw[aoJ (by omega)]⟩
def kg{j n:Nat}{c:aa}{cO:Int}(h:fH j n c)(h0:0<cO)(h1:cO<1073741824) :
  ∃(x:Int) (c':aa),0<=x/\x<cO/\fH j n c'/\bu [.ref j,.int cO] c=.ok (.int x) c':=by
 obtain⟨hl,hj,p,hp⟩:=id h;refine⟨p % cO,c.set j (.lst [.int (p/cO)]),aqr _ (by omega),aqs _ h0,h.set _,?_⟩
 have e1:aE (.ref j) (.int 0) c=.ok (.int p) c:=by
  unfold aE eS;simp[hp]
 have e2:iV (.ref j) (.int 0) (.int (p/cO)) c=.ok () (c.set j (.lst [.int (p/cO)])):=by
  unfold iV;simp[hp,eL]
 have e3:(c.set j (.lst [.int (p/cO)])).take c.length=c.set j (.lst [.int (p/cO)]):=by
  rw[aqp];simp
 simp(disch:=omega) [bu,qT,e1,oh,uN,e2,e3]
def YN(cell:Int)(c:aa):∃p:Int,qm [.int cell] c=.ok (.ref c.length) (c++[.lst [.int p]]):=by
 by_cases h:10^18<=cell
 ·refine⟨cell-10^18,?_⟩;simp(disch:=omega) [qm,qV,LM,h];rw[if_pos (by simpa using h)]
  simp[cA]
 ·obtain⟨e',c',⟨⟨q,v1,v2,rfl⟩,rfl⟩,hf⟩:=Py (g:=aA 2) (s:=(aD (aH 3 (av cZ (av ez (av bx (av bx (av cZ (ak 0) (dC (.int 2147483629))) (av ez (dC (.int 7919)) (ak 2))) (dC (.int 1))) (dC (.int 48271))) (dC (.int 2147483647)))) (aD (aH 3 (av cZ (av bx (av bx (av ez (ak 3) (ak 3)) (av ez (dC (.int 69621)) (ak 2))) (dC (.int 7))) (dC (.int 2147483587)))) (aH 1 (av bx (av ez (ak 1) (dC (.int 2147483587))) (ak 3))))))
   (λe c'=>(∃q v1 v2,e=[ζ (.int cell),ζ (.int q),v1,v2])/\c'=c) (aO 0 64) [ζ (.int cell),ζ (.int 0),η,η] c ⟨⟨0,η,η,rfl⟩,rfl⟩ (λx hx e c' ⟨⟨q,v1,v2,he⟩,hc⟩=>by
    obtain⟨i,rfl,i0,i1⟩:=oi hx;subst he;subst hc;have b0:0<=(cell % 2147483629+7919*i+1)*48271 % 2147483647:=aqr _ (by decide)
    have b1:(cell % 2147483629+7919*i+1)*48271 % 2147483647<2147483647:=aqs _ (by decide)
    generalize hm:(cell % 2147483629+7919*i+1)*48271 % 2147483647=m at b0 b1
    refine⟨_,[ζ (.int cell),ζ (.int (q*2147483587+(m*m+69621*i+7) % 2147483587)),ζ (.int i),ζ (.int ((m*m+69621*i+7) % 2147483587))],_,_,rfl,by simp(disch:=omega) [oh,DK,mul_r,hm],⟨⟨_,_,_,rfl⟩,rfl⟩⟩)
  refine⟨q,?_⟩;have hh:¬(1000000000000000000<=cell):=by simpa using h
  simp(disch:=omega) [qm,qV,LM,hh];rw[hf];simp[cA]
def aj5(ns:List Int)(k:Int)(h:0<=k)(c:aa):∃x:Int,om [.b7 ns,.int k] c=.ok (.int x) c:=by
 by_cases q:k<ns.length
 ·have hk:k.toNat<ns.length:=by omega
  refine⟨ns[k.toNat],?_⟩;have e:aE (.b7 ns) (.int k) c=.ok (.int ns[k.toNat]) c:=by
   show(match cD (ns.map D.int) k with|some d=>R.ok d c|none=>R.bad)=_
   have:cD (ns.map D.int) k=ζ (.int ns[k.toNat]):=by
    have:=l9 (xs:=ns.map D.int) (j:=k.toNat) (v:=.int ns[k.toNat]) (by simp[hk])
    rw[asm h]at this;exact this
   rw[this]
  simp[om,qX,q,e]
 ·exact⟨0,by simp[om,qX,q]⟩
def take2{j:Nat}{c:aa}{p cO:Int}(hp:c[j]? = ζ (.lst [.int p]))(h0:0<cO)(h1:cO<1073741824):bu [.ref j,.int cO] c=.ok (.int (p % cO)) (c.set j (.lst [.int (p/cO)])):=by
 have hj:j<c.length:=(an7.mp hp).1;have e1:aE (.ref j) (.int 0) c=.ok (.int p) c:=by
  unfold aE eS;simp[hp]
 have e2:iV (.ref j) (.int 0) (.int (p/cO)) c=.ok () (c.set j (.lst [.int (p/cO)])):=by
  unfold iV;simp[hp,eL]
 have e3:(c.set j (.lst [.int (p/cO)])).take c.length=c.set j (.lst [.int (p/cO)]):=by
  rw[aqp];simp
 simp(disch:=omega) [bu,qT,e1,oh,uN,e2,e3]
def PO(j n:Nat)(os:List Nat)(c:aa):Prop:=c.length=n+1/\j<n/\(∃p:Int,c[j]? = ζ (.lst [.int p]))/\c[n]? = ζ (.lst (nD os))
def afR(os:List Nat)(i k:Nat):(os.take i++k::os.drop i).Perm (k::os):=by
 refine asb.trans ?_;rw[aqm]
def ud:ah:=(cW (x6 (ak 2) (aG 2 bu (aq (ak 0) (aq (av bx (ak 3) (dC (.int 1))) au))) (ak 3)))
def aau{j n k:Nat}{os:List Nat}{c:aa}(hP:PO j n os c)(hk:os.length=k)(hk':k<1000)(a1:Option D) :
  ∃os' c',PO j n os' c'/\os'.Perm (k::os)/\ud [ζ (.ref j),a1,ζ (.ref n),ζ (.int k)] c=.ok (.nx [ζ (.ref j),a1,ζ (.ref n),ζ (.int k)]) c':=by
 obtain⟨h1,h2,⟨p,h3⟩,h4⟩:=hP;have hs:=cC (n:=1000) (by decide)
 have ht:=take2 (cO:=(k:Int)+1) h3 (by omega) (by omega)
 have x0:=aqr p (show(k:Int)+1≠0 by omega)
 have x1:=aqs p (show(0:Int)<(k:Int)+1 by omega)
 generalize p % ((k:Int)+1)=x at ht x0 x1
 obtain⟨i,rfl⟩:=g7 x0
 generalize hc1:c.set j (.lst [.int (p/((k:Int)+1))])=c1 at ht
 have l1:c1.length=n+1:=by rw[<-hc1];simp[h1]
 have q1:c1[n]? = ζ (.lst (nD os)):=by rw[<-hc1,ao0 (by omega)];exact h4
 have q0:c1[j]? = ζ (.lst [.int (p/((k:Int)+1))]):=by rw[<-hc1,aoJ (by omega)]
 refine⟨os.take i++k::os.drop i,c1.set n (.lst (nD (os.take i++k::os.drop i))),⟨by simp[l1],h2,⟨_,by rw[ao0 (by omega)];exact q0⟩,by rw[aoJ (by omega)]⟩,afR os i k,?_⟩
 have e:nD (os.take i++k::os.drop i)=(nD os).take i ++ .int k::(nD os).drop i:=by simp[nD,List.map_take,List.map_drop]
 have hin:x6 (ak 2) (aG 2 bu (aq (ak 0) (aq (av bx (ak 3) (dC (.int 1))) au))) (ak 3) [ζ (.ref j),a1,ζ (.ref n),ζ (.int k)] c=.ok .aF (c1.set n (.lst (nD (os.take i++k::os.drop i)))):=by
  rw[S7];simp only[br,gz,gs,R.aB,x_call,bE,cJ,dY,bB,jG,an4,aok,if_pos,ht,q1];rw[if_pos ⟨⟨by omega,by rw[an2];omega⟩,by rw[an2];omega,rfl⟩,apC,e]
 unfold ud;rw[rM,hin];rfl
def aav{j n:Nat}{q:Int}{c c3:aa}{l:List D}{v:Option D}(hn:c.length=n)(b:-4611686018427387904<=q/\q<4611686018427387904)(hf:b8 (λ_=>True) (aA 3) ud (aO 0 q) [ζ (.ref j),ζ (.int q),ζ (.ref n),η] (c++[.lst []])=.ok (.nx [ζ (.ref j),ζ (.int q),ζ (.ref n),v]) c3)
  (ht:gV [.ref n] c3=.ok (.tup l) c3) (nr:bI l=θ):oj [.ref j,.int q] c=.ok (.tup l) (c3.take n):=by
 have hb:vt=aD (aH 2 (cU au)) (aD (bJ (bH (aq (ak 1) au)) (aA 3) ud) (aR (aJ gV (aq (ak 2) au)))):=rfl;have e0:(aH 2 (cU au)) [ζ (.ref j),ζ (.int q),η,η] c=.ok (.nx [ζ (.ref j),ζ (.int q),ζ (.ref n),η]) (c++[.lst []]):=by simp[hn]
 have e1:(bJ (bH (aq (ak 1) au)) (aA 3) ud) [ζ (.ref j),ζ (.int q),ζ (.ref n),η] (c++[.lst []])=.ok (.nx [ζ (.ref j),ζ (.int q),ζ (.ref n),v]) c3:=by
  simp only[gy,gw,bE,br,gz,gs,bB,R.aB];rw[if_pos (by omega)]
  exact hf
 have e2:(aR (aJ gV (aq (ak 2) au))) [ζ (.ref j),ζ (.int q),ζ (.ref n),v] c3=.ok (.rt (.tup l)) c3:=by simp[ht]
 rw[oj,fL,hb];have es:cF 4 [D.ref j,.int q]=[ζ (.ref j),ζ (.int q),η,η]:=rfl;rw[es,bw e0,bw e1,e2];have ku:noRef (.tup l)=θ:=nr;simp only[R.aB];unfold cA;dsimp only;rw[if_pos ku,hn]
def aas{j n m:Nat}{c:aa}(hP:fH j n c)(hm:m<1000):∃os c',os.Perm (ι m)/\fH j n c'/\oj [.ref j,.int (m:Int)] c=.ok (.tup (nD os)) c':=by
 obtain⟨hl,hj,p,hp⟩:=hP;have hlen:(aO 0 (m:Int)).length=m:=by rw[dP];omega
 obtain⟨e',c3,⟨os,v,rfl,P3,hp3⟩,hf⟩:=qI (g:=aA 3) (s:=ud) (λk e c=>∃os v,e=[ζ (.ref j),ζ (.int (m:Int)),ζ (.ref n),v]/\PO j n os c/\os.Perm (ι k))
  (aO 0 (m:Int)) 0 [ζ (.ref j),ζ (.int (m:Int)),ζ (.ref n),η] (c++[.lst []]) ⟨[],η,rfl,⟨by simp[hl],hj,⟨p,by rw[aow (by omega)];exact hp⟩,by rw[aov (by omega),hl];simp⟩,.refl _⟩ (λi x hx e c ⟨os,v,he,P1,hp1⟩=>by
   subst he;have hi:i<(aO 0 (m:Int)).length:=(an7.mp hx).1;obtain⟨hlt,rfl⟩:=ki hx;rw[apI];rw[aog]at hp1 ⊢;have jb:os.length=i:=by have:=hp1.length_eq;simpa using this
   obtain⟨os2,c2,P2,hp2,h2⟩:=aau P1 jb (by omega) (ζ (.int (m:Int)))
   refine⟨_,_,_,_,rfl,h2,os2,_,rfl,P2,?_⟩;rw[apV];exact hp2.trans ((hp1.cons i).trans (ar2 i _).symm))
 rw[hlen,aog]at hp3;obtain⟨l3,_,⟨p3,q3⟩,q4⟩:=P3;refine⟨os,c3.take n,hp3,⟨by rw[apz];omega,hj,p3,by rw[aqH hj];exact q3⟩,?_⟩
 exact aav hl (by omega) hf (by unfold gV;dsimp only;rw[show eS c3 (.ref n)=ζ (nD os) by unfold eS;dsimp only;rw[q4]]) (xh os)
def c8(n m:Nat):List D:=(ι m).map λr=>.ref (n+r)
def zp{n m r:Nat}(h:r<m):cD (c8 n m) (r:Int)=ζ (.ref (n+r)):=l9 (by simp[c8,h])
def b9(m:Nat)(f:Nat->Nat->Bool)(i:Nat):List D:=(ι m).map λk=>.bl (f i k)
def dU(m:Nat)(f:Nat->Nat->Bool):aa:=(ι m).map λi=>.lst (b9 m f i)
def aP(m:Nat)(f:Nat->Nat->Bool):D:=.lst ((ι m).map λi=>.lst (b9 m f i))
def fY(f:Nat->Nat->Bool)(a b:Nat)(v:Bool):Nat->Nat->Bool:=λi k=>if i=a/\k=b then v else f i k
def Xy(m:Nat)(f:Nat->Nat->Bool)(i:Nat):(b9 m f i).length=m:=by simp[b9]
def Xz{m k:Nat}(f:Nat->Nat->Bool)(i:Nat)(h:k<m):(b9 m f i)[k]? = ζ (.bl (f i k)):=by simp[b9,h]
def Df(m:Nat)(f:Nat->Nat->Bool)(i:Nat):bI (b9 m f i)=θ:=iy.mpr λd hd=>by
 obtain⟨k,_,rfl⟩:=aoa.mp hd;rfl
def Ga{m i:Nat}(f:Nat->Nat->Bool)(c:aa)(h:i<m):(c++dU m f)[c.length+i]? = ζ (.lst (b9 m f i)):=by
 rw[aov (by omega)]
 simp[dU,h]
def ahv{m a b:Nat}(f:Nat->Nat->Bool)(v:Bool)(c:aa)(ha:a<m):(c++dU m f).set (c.length+a) (.lst ((b9 m f a).set b (.bl v)))=c++dU m (fY f a b v):=by
 rw[ari _ _ (by omega)]
 congr 1
 rw[Nat.add_sub_cancel_left];apply aql
 ·simp[dU]
 ·intro i h1 h2;rw[asp];simp only[dU,arj,aqf]
  by_cases e:a=i
  ·subst e;rw[if_pos rfl]
   congr 1
   apply aql
   ·simp[b9]
   ·intro k h3 h4;rw[asp];simp only[b9,arj,aqf,fY]
    by_cases e2:b=k
    ·subst e2;simp
    ·rw[if_neg e2,if_neg (λz=>e2 z.2.symm)]
  ·rw[if_neg e]
   congr 1
   unfold b9;refine aoI λk _=>?_
   unfold fY;rw[if_neg (λz=>e z.1.symm)]
def An{m a b:Nat}(f:Nat->Nat->Bool)(v:Bool)(c:aa)(ha:a<m)(hb:b<m):iV (.ref (c.length+a)) (.int (b:Int)) (.bl v) (c++dU m f)=.ok () (c++dU m (fY f a b v)):=by
 have h:=Ga f c ha;have p:=ahv (b:=b) f v c ha;have hl:=Xy m f a;unfold iV;simp[h,eL,hl,hb,noRef,p]
def ahU(n:Nat):(ν n [D.bl Δ]).flatten=(ι n).map λ_=>D.bl Δ:=by
 induction n with
 |zero=>rfl
 |succ n ih=>rw[aoW,ao3,ih,aqt,an8,aos];rfl
def qH:af:=(av kj (cV (aq (dC (.bl Δ)) au)) (ak 1))
def ahx{q:Int}{m:Nat}(hq:q=m)(hm:m<1000)(v:Option D)(c:aa):qH [v,ζ (.int q)] c=.ok (.ref c.length) (c++[.lst ((ι m).map λ_=>.bl Δ)]):=by
 have hs:=cC (n:=1000) (by decide)
 have h1:(1:Nat)<=ε:=cC (by decide)
 have e:(ν q.toNat [D.bl Δ]).flatten=(ι m).map λ_=>D.bl Δ:=by rw[ahU,hq,apC]
 unfold qH;simp only[cJ,rL,bE,dY,bB,R.aB,br,gz,gs,an4,aok];rw[if_pos h1];simp only[R.aB,S0,e];rw[if_pos ⟨by omega,by omega,by simp only[an4,aok];omega,rfl⟩]
def Ia{q:Int}{m:Nat}(hq:q=m)(hm:m<1000):∀(items:List D) (v:Option D) (acc:List D) (c:aa),bz (λ_=>True) (aA 0) aZ qH items [v,ζ (.int q)] acc c=.ok (acc++c8 c.length items.length) (c++(ι items.length).map λ_=>.lst ((ι m).map λ_=>.bl Δ))
 |[],v,acc,c=>by simp[c8]
 |x::xs,v,acc,c=>by
  rw[iP];have h1:aA 0 x [v,ζ (.int q)] c=.ok [ζ x,ζ (.int q)] c:=rfl;rw[h1,R.aB,rK,R.aB,if_pos rfl,ahx hq hm,R.aB,Ia hq hm xs];have e1:acc++[D.ref c.length]++c8 (c++[Cell.lst ((ι m).map λ_=>.bl Δ)]).length xs.length=acc++c8 c.length (x::xs).length:=by
   rw[aop,aon,an4,aok]
   congr 1
   unfold c8;rw[an4,aqt,an8,aos];simp only[apX,an9,apE]
   congr 1
   refine aoI λr _=>?_
   simp only[Function.comp]
   congr 1;omega
  have e2:c++[Cell.lst ((ι m).map λ_=>D.bl Δ)]++(ι xs.length).map (λ_=>Cell.lst ((ι m).map λ_=>D.bl Δ))=c++(ι (x::xs).length).map (λ_=>Cell.lst ((ι m).map λ_=>D.bl Δ)):=by
   rw[aop]
   congr 1
   rw[an4,aqt,an8,aos];rfl
  rw[e1,e2]
def KW(c:aa)(n m:Nat)(f:Nat->Nat->Bool):∀l:List Nat,(∀i∈l,c[n+i]? = ζ (.lst (b9 m f i)))->nH c n (l.map λi=>.ref (n+i))=ζ (l.map λi=>.lst (b9 m f i))
 |[],_=>rfl
 |i::l,h=>by
  have ih:=KW c n m f l λk hk=>h k (.tail _ hk)
  rw[an8,an8,nH,ih];have:fX c n (.ref (n+i))=ζ (.lst (b9 m f i)):=by
   unfold fX;rw[h i (.head _)];dsimp only;rw[if_pos (by omega)]
  rw[this]
def G7(c:aa)(m:Nat)(f:Nat->Nat->Bool):kL c.length (.lst (c8 c.length m)) (c++dU m f)=.ok (aP m f) c:=by
 unfold kL fX c8;rw[KW _ _ m f (ι m) λi hi=>Ga f c (aod.mp hi)]
 simp[aP]
def aL(p:Nat×Nat):D:=.tup [.int p.1,.int p.2]
def Jw(m:Nat)(ps:List (Nat×Nat)):Prop:=∀p∈ps,p.1<m/\p.2<m
def gO(ps:List (Nat×Nat)):Nat->Nat->Bool:=λi k=>ps.any λp=>(p.1==i&&p.2==k)||(p.2==i&&p.1==k)
def join_snoc(ps:List (Nat×Nat))(p:Nat×Nat):gO (ps++[p])=fY (fY (gO ps) p.1 p.2 θ) p.2 p.1 θ:=by
 funext i k
 unfold gO fY;rw[List.any_append]
 by_cases h1:i=p.2/\k=p.1
 ·rw[if_pos h1];simp[h1.1,h1.2]
 ·rw[if_neg h1]
  by_cases h2:i=p.1/\k=p.2
  ·rw[if_pos h2];simp[h2.1,h2.2]
  ·rw[if_neg h2];have e1:(p.1==i&&p.2==k)=Δ:=by
    cases q:(p.1==i&&p.2==k)with
    |false=>rfl
    |true=>simp at q;exact absurd ⟨q.1.symm,q.2.symm⟩ h2
   have e2:(p.2==i&&p.1==k)=Δ:=by
    cases q:(p.2==i&&p.1==k)with
    |false=>rfl
    |true=>simp at q;exact absurd ⟨q.1.symm,q.2.symm⟩ h1
   simp[e1,e2]
def uB:ah:=(aD (gI (dC (.bl θ)) (gQ (av aE (ak 2) (ak 3)) (ak 4))) (gI (dC (.bl θ)) (gQ (av aE (ak 2) (ak 4)) (ak 3))))
def afC{m a b:Nat}{f:Nat->Nat->Bool}{c:aa}(a0 a1:Option D)(ha:a<m)(hb:b<m) :
  uB [a0,a1,ζ (.lst (c8 c.length m)),ζ (.int a),ζ (.int b)] (c++dU m f)=.ok (.nx [a0,a1,ζ (.lst (c8 c.length m)),ζ (.int a),ζ (.int b)]) (c++dU m (fY (fY f a b θ) b a θ)):=by
 have h1:∀c',aE (.lst (c8 c.length m)) (.int a) c'=.ok (.ref (c.length+a)) c':=λc'=>by rw[ig,zp ha]
 have h2:∀c',aE (.lst (c8 c.length m)) (.int b) c'=.ok (.ref (c.length+b)) c':=λc'=>by rw[ig,zp hb]
 have s1:=An f θ c ha hb;have s2:=An (fY f a b θ) θ c hb ha;unfold uB;simp only[kc,yL,dY,R.aB,yJ,cJ,br,gz,gs,h1,h2,s1,s2]
def afD{m:Nat}{ps:List (Nat×Nat)}{c:aa}(hp:Jw m ps)(st:aa->Prop)(hst:∀R:aa,st (c++R))(a0 a1:Option D) :
  ∃v w,b8 st (dI 2 (bR (aA 3) (bR (aA 4) dQ))) uB (ps.map aL) [a0,a1,ζ (.lst (c8 c.length m)),η,η] (c++dU m λ_ _=>Δ)=.ok (.nx [a0,a1,ζ (.lst (c8 c.length m)),v,w]) (c++dU m (gO ps)):=by
 obtain⟨v',hf⟩:=Aw (α:=Option D×Option D) (st:=st) (g:=(dI 2 (bR (aA 3) (bR (aA 4) dQ)))) (s:=uB) (λi=>c++dU m (gO (ps.take i))) (λ_ v=>[a0,a1,ζ (.lst (c8 c.length m)),v.1,v.2]) (ps.map aL) 0 (η,η) (λi _=>hst _) (λi x hx v=>by
  rw[aog];have hi:i<ps.length:=by have:=(an7.mp hx).1;simpa using this
  have ex:x=aL ps[i]:=by
   rw[aoH,anZ hi]at hx;cases hx;rfl
  subst ex;have hq:=hp _ (aoE hi);have hs:=afC (m:=m) (a:=ps[i].1) (b:=ps[i].2) (f:=gO (ps.take i)) (c:=c) a0 a1 hq.1 hq.2;rw[<-join_snoc,<-aq7 hi]at hs;refine⟨[a0,a1,ζ (.lst (c8 c.length m)),ζ (.int ps[i].1),ζ (.int ps[i].2)],?_,(ζ (.int ps[i].1),ζ (.int ps[i].2)),hs⟩;simp[aL])
 have e0:gO (ps.take 0)=λ_ _=>Δ:=by funext i k;rfl
 rw[aog,an2,ao6,e0]at hf;exact⟨v'.1,v'.2,hf⟩
def afE{q:Int}{c c':aa}{l:List D}(a1:Option D)(b1:-4611686018427387904<=q/\q<4611686018427387904)(hl:(aO 0 q).length<ε)(hc:bz (λ_=>True) (aA 0) aZ qH (aO 0 q) [η,ζ (.int q)] [] c=.ok l c') :
  (aH 2 (bA (bH (aq (ak 0) au)) [η,ζ 0] (aA 0) aZ (av kj (cV (aq (dC (.bl Δ)) au)) (ak 1)))) [ζ (.int q),a1,η,η,η] c=.ok (.nx [ζ (.int q),a1,ζ (.lst l),η,η]) c':=by
 unfold qH at hc;simp only[fK,ff,gw,bE,br,gz,gs,bB,R.aB];rw[if_pos (by omega)]
 simp only[R.aB];rw[if_pos hl];have:dH [η,ζ 0] [ζ (D.int q),a1,η,η,η]=[η,ζ (.int q)]:=rfl;rw[this,hc];rfl
def afF{q:Int}{X:D}{c c1 c2:aa}{l:List D}{v w:Option D}{W:D}{s0 s1 s2:ah}(e0:s0 [ζ (.int q),ζ X,η,η,η] c=.ok (.nx [ζ (.int q),ζ X,ζ (.lst l),η,η]) c1)
  (e1:s1 [ζ (.int q),ζ X,ζ (.lst l),η,η] c1=.ok (.nx [ζ (.int q),ζ X,ζ (.lst l),v,w]) c2) (e2:s2 [ζ (.int q),ζ X,ζ (.lst l),v,w] c2=.ok (.rt (.lst l)) c2) (hx:kL c.length (.lst l) c2=.ok W c) :
  lW 5 (aD s0 (aD s1 s2)) [.int q,X] c=.ok W c:=by
 rw[Ct];have e3:cF 5 [D.int q,X]=[ζ (.int q),ζ X,η,η,η]:=rfl;rw[e3,bw e0,bw e1,e2];exact hx
def N6{m:Nat}{ps:List (Nat×Nat)}{X:D}{c:aa}(hp:Jw m ps)(hm:m<1000)(hX:(∃k,X=.ref k/\c[k]? = ζ (.lst (ps.map aL)))\/X=.lst (ps.map aL)):jO [.int (m:Int),X] c=.ok (aP m (gO ps)) c:=by
 have hs:=cC (n:=1000) (by decide)
 have hrl:(aO 0 (m:Int)).length=m:=by rw[dP];omega
 have hc:=Ia (q:=(m:Int)) (m:=m) rfl hm (aO 0 (m:Int)) η [] c;rw[hrl,an9]at hc;have hg:(ι m).map (λ_=>Cell.lst ((ι m).map λ_=>D.bl Δ))=dU m λ_ _=>Δ:=rfl
 rw[hg]at hc;have xH:∃st:aa->Prop,(∀R:aa,st (c++R))/\∀(a0 a2:Option D) (R:aa),cy (ak 1) [a0,ζ X,a2,η,η] (c++R)=.ok ⟨ps.map aL,st⟩ (c++R):=by
  rcases hX with⟨k,rfl,hk⟩|rfl
  ·have OF:k<c.length:=(an7.mp hk).1;have OH:∀R:aa,(c++R)[k]? = ζ (.lst (ps.map aL)):=λR=>by rw[aow OF];exact hk
   refine⟨λc'=>c'[k]? = ζ (.lst (ps.map aL)),OH,λa0 a2 Rc=>?_⟩
   unfold cy;simp only[br,gz,gs,R.aB,OH]
  ·exact⟨λ_=>True,λ_=>trivial,λa0 a2 R=>rfl⟩
 obtain⟨st,hst,hd⟩:=xH;obtain⟨v,w,hf⟩:=afD (m:=m) (c:=c) hp st hst (ζ (.int (m:Int))) (ζ X);have e1:(bJ (cy (ak 1)) (dI 2 (bR (aA 3) (bR (aA 4) dQ))) uB) [ζ (.int (m:Int)),ζ X,ζ (.lst (c8 c.length m)),η,η] (c++dU m λ_ _=>Δ)=.ok (.nx [ζ (.int (m:Int)),ζ X,ζ (.lst (c8 c.length m)),v,w]) (c++dU m (gO ps)):=by
  rw[gy,hd];exact hf
 have hb:vC=aD (aH 2 (bA (bH (aq (ak 0) au)) [η,ζ 0] (aA 0) aZ (av kj (cV (aq (dC (.bl Δ)) au)) (ak 1)))) (aD (bJ (cy (ak 1)) (dI 2 (bR (aA 3) (bR (aA 4) dQ))) uB) (aR (ak 2))):=rfl;rw[jO,hb];exact afF (afE (ζ X) (by omega) (by rw[hrl];omega) hc) e1 rfl (G7 c m _)
def CK{m i:Nat}(f:Nat->Nat->Bool)(h:i<m):cD ((ι m).map λi=>D.lst (b9 m f i)) (i:Int)=ζ (.lst (b9 m f i)):=l9 (by simp[h])
def wN{m k:Nat}(f:Nat->Nat->Bool)(i:Nat)(h:k<m):cD (b9 m f i) (k:Int)=ζ (.bl (f i k)):=l9 (Xz f i h)
def Nv{os:List Nat}{i:Nat}(h:i<os.length):cD (nD os) (i:Int)=ζ (.int (os[i]:Nat)):=l9 (by simp[nD,h])
def FG{os:List Nat}{a:Nat}(h:os.idxOf a<os.length):os[os.idxOf a]=a:=by
 have:a∈os:=asq.mp h;exact List.getElem_idxOf h
def Oe{os:List Nat}(hn:os.Nodup){i:Nat}(h:i<os.length):os.idxOf os[i]=i:=by
 have h1:os.idxOf os[i]<os.length:=asq.mpr (aoE h);have h2:os[os.idxOf os[i]]=os[i]:=FG h1;exact(apw hn).mp h2
def fQ(os:List Nat)(f:Nat->Nat->Bool)(i k:Nat):Nat->Nat->Bool:=λa b=>if os.idxOf a<i\/(os.idxOf a=i/\os.idxOf b<k)then(if os.idxOf b<os.length then f (os.idxOf a) (os.idxOf b)else Δ)else Δ
def adZ{os:List Nat}(hn:os.Nodup)(f:Nat->Nat->Bool){i k:Nat}(hi:i<os.length)(hk:k<os.length):fY (fQ os f i k) os[i] os[k] (f i k)=fQ os f i (k+1):=by
 funext a b
 unfold fY fQ
 by_cases h:a=os[i]/\b=os[k]
 ·rw[if_pos h,h.1,h.2,Oe hn hi,Oe hn hk];rw[if_pos (by omega),if_pos hk]
 ·rw[if_neg h]
  by_cases ha:os.idxOf a=i
  ·by_cases hb:os.idxOf b=k
   ·have ea:os[i]=a:=by
     have:=FG (os:=os) (a:=a) (by omega)
     simpa[ha]using this
    have eb:os[k]=b:=by
     have:=FG (os:=os) (a:=b) (by omega)
     simpa[hb]using this
    exact absurd ⟨ea.symm,eb.symm⟩ h
   ·have e:(os.idxOf a<i\/(os.idxOf a=i/\os.idxOf b<k))↔(os.idxOf a<i\/(os.idxOf a=i/\os.idxOf b<k+1)):=by omega
    simp only[e]
  ·have e:(os.idxOf a<i\/(os.idxOf a=i/\os.idxOf b<k))↔(os.idxOf a<i\/(os.idxOf a=i/\os.idxOf b<k+1)):=by omega
   simp only[e]
def ad0{os:List Nat}(f:Nat->Nat->Bool)(i:Nat):∀a b,fQ os f i os.length a b=fQ os f (i+1) 0 a b:=λa b=>by
 unfold fQ
 by_cases hb:os.idxOf b<os.length
 ·have e:(os.idxOf a<i\/(os.idxOf a=i/\os.idxOf b<os.length))↔(os.idxOf a<i+1\/(os.idxOf a=i+1/\os.idxOf b<0)):=by omega
  simp only[e]
 ·simp only[if_neg hb,ite_self]
def xq:ah:=(gI (av aE (av aE (ak 0) (ak 4)) (ak 5)) (gQ (av aE (ak 3) (av aE (ak 1) (ak 4))) (av aE (ak 1) (ak 5))))
def ad6{os:List Nat}(hn:os.Nodup){m i k:Nat}(hm:os.length=m)(f:Nat->Nat->Bool){c:aa}(hlt:∀x∈os,x<m)(hi:i<m)(hk:k<m)(a2:Option D) :
  xq [ζ (aP m f),ζ (.tup (nD os)),a2,ζ (.lst (c8 c.length m)),ζ (.int i),ζ (.int k)] (c++dU m (fQ os f i k))=.ok (.nx [ζ (aP m f),ζ (.tup (nD os)),a2,ζ (.lst (c8 c.length m)),ζ (.int i),ζ (.int k)]) (c++dU m (fQ os f i (k+1))):=by
 have Ox:os[i]<m:=hlt _ (aoE (by omega))
 have hok:os[k]<m:=hlt _ (aoE (by omega))
 have h1:∀c',aE (aP m f) (.int (i:Int)) c'=.ok (.lst (b9 m f i)) c':=λc'=>by unfold aP;rw[ig,CK f hi]
 have h2:∀c',aE (.lst (b9 m f i)) (.int (k:Int)) c'=.ok (.bl (f i k)) c':=λc'=>by rw[ig,wN f i hk]
 have h3:∀c',aE (.tup (nD os)) (.int (i:Int)) c'=.ok (.int (os[i]:Nat)) c':=λc'=>by rw[Cs,Nv (by omega)]
 have h4:∀c',aE (.tup (nD os)) (.int (k:Int)) c'=.ok (.int (os[k]:Nat)) c':=λc'=>by rw[Cs,Nv (by omega)]
 have h5:∀c',aE (.lst (c8 c.length m)) (.int (os[i]:Nat)) c'=.ok (.ref (c.length+os[i])) c':=λc'=>by rw[ig,zp Ox]
 have s1:=An (fQ os f i k) (f i k) c Ox hok;rw[adZ hn f (by omega) (by omega)]at s1
 unfold xq;simp only[yL,R.aB,yJ,cJ,br,gz,gs,h1,h2,h3,h4,h5,s1]
def qd:ah:=bJ (bH (aq (ak 2) au)) (aA 5) xq
def ad5{q:Int}{T O:D}{c c':aa}{l:List D}{a4 v v':Option D}(b:-4611686018427387904<=q/\q<4611686018427387904)(h:b8 (λ_=>True) (aA 5) xq (aO 0 q) [ζ T,ζ O,ζ (.int q),ζ (.lst l),a4,v] c=.ok (.nx [ζ T,ζ O,ζ (.int q),ζ (.lst l),a4,v']) c') :
  qd [ζ T,ζ O,ζ (.int q),ζ (.lst l),a4,v] c=.ok (.nx [ζ T,ζ O,ζ (.int q),ζ (.lst l),a4,v']) c':=by
 unfold qd;simp only[gy,gw,bE,br,gz,gs,bB,R.aB];rw[if_pos (by omega)]
 exact h
def ad4{os:List Nat}(hn:os.Nodup){m i:Nat}(hm:os.length=m)(hm':m<1000)(f:Nat->Nat->Bool){c:aa}(hlt:∀x∈os,x<m)(hi:i<m)(v:Option D) :
  ∃v',qd [ζ (aP m f),ζ (.tup (nD os)),ζ (.int (m:Int)),ζ (.lst (c8 c.length m)),ζ (.int i),v] (c++dU m (fQ os f i 0))=.ok (.nx [ζ (aP m f),ζ (.tup (nD os)),ζ (.int (m:Int)),ζ (.lst (c8 c.length m)),ζ (.int i),v']) (c++dU m (fQ os f (i+1) 0)):=by
 obtain⟨v',hf⟩:=Pw (g:=aA 5) (s:=xq) (λk=>c++dU m (fQ os f i k)) (λ_ v=>[ζ (aP m f),ζ (.tup (nD os)),ζ (.int (m:Int)),ζ (.lst (c8 c.length m)),ζ (.int i),v]) (N:=(m:Int)) (n:=m) rfl v (λk hk v=>by
  exact⟨_,rfl,ζ (.int k),ad6 hn hm f hlt hi hk (ζ (.int (m:Int)))⟩)
 have e:fQ os f i m=fQ os f (i+1) 0:=by
  funext a b
  rw[<-hm];exact ad0 f i a b
 rw[e]at hf;exact⟨v',ad5 (by omega) hf⟩
def ao7(m:Nat)(f:Nat->Nat->Bool)(c:aa):bC [aP m f] c=.ok (.int (m:Int)) c:=by
 unfold bC aP;simp[eS]
def ad3{q:Int}{T O W:D}{c c1 c2:aa}{l:List D}{v w:Option D}{s0 s1 s2 s3:ah}(e0:s0 [ζ T,ζ O,η,η,η,η] c=.ok (.nx [ζ T,ζ O,ζ (.int q),η,η,η]) c)(e1:s1 [ζ T,ζ O,ζ (.int q),η,η,η] c=.ok (.nx [ζ T,ζ O,ζ (.int q),ζ (.lst l),η,η]) c1)
  (e2:s2 [ζ T,ζ O,ζ (.int q),ζ (.lst l),η,η] c1=.ok (.nx [ζ T,ζ O,ζ (.int q),ζ (.lst l),v,w]) c2) (e3:s3 [ζ T,ζ O,ζ (.int q),ζ (.lst l),v,w] c2=.ok (.rt (.lst l)) c2) (hx:kL c.length (.lst l) c2=.ok W c) :
  lW 6 (aD s0 (aD s1 (aD s2 s3))) [T,O] c=.ok W c:=by
 rw[Ct];have es:cF 6 [T,O]=[ζ T,ζ O,η,η,η,η]:=rfl;rw[es,bw e0,bw e1,bw e2,e3];exact hx
def ad1{q:Int}{T O:D}{c c':aa}{l:List D}(b1:-4611686018427387904<=q/\q<4611686018427387904)(hl:(aO 0 q).length<ε)(hc:bz (λ_=>True) (aA 0) aZ qH (aO 0 q) [η,ζ (.int q)] [] c=.ok l c') :
  (aH 3 (bA (bH (aq (ak 2) au)) [η,ζ 2] (aA 0) aZ (av kj (cV (aq (dC (.bl Δ)) au)) (ak 1)))) [ζ T,ζ O,ζ (.int q),η,η,η] c=.ok (.nx [ζ T,ζ O,ζ (.int q),ζ (.lst l),η,η]) c':=by
 unfold qH at hc;simp only[fK,ff,gw,bE,br,gz,gs,bB,R.aB];rw[if_pos (by omega)]
 simp only[R.aB];rw[if_pos hl];have:dH [η,ζ 2] [ζ T,ζ O,ζ (D.int q),η,η,η]=[η,ζ (.int q)]:=rfl;rw[this,hc];rfl
def ad2{q:Int}{T O:D}{c c':aa}{l:List D}{u v:Option D}(b:-4611686018427387904<=q/\q<4611686018427387904)(h:b8 (λ_=>True) (aA 4) qd (aO 0 q) [ζ T,ζ O,ζ (.int q),ζ (.lst l),η,η] c=.ok (.nx [ζ T,ζ O,ζ (.int q),ζ (.lst l),u,v]) c') :
  (bJ (bH (aq (ak 2) au)) (aA 4) qd) [ζ T,ζ O,ζ (.int q),ζ (.lst l),η,η] c=.ok (.nx [ζ T,ζ O,ζ (.int q),ζ (.lst l),u,v]) c':=by
 simp only[gy,gw,bE,br,gz,gs,bB,R.aB];rw[if_pos (by omega)]
 exact h
def aed{os:List Nat}{m:Nat}(hp:os.Perm (ι m))(hm:m<1000)(f:Nat->Nat->Bool)(c:aa):qo [aP m f,.tup (nD os)] c=.ok (aP m (fQ os f m 0)) c:=by
 have hs:=cC (n:=1000) (by decide)
 have hn:os.Nodup:=hp.nodup_iff.mpr asr;have hl:os.length=m:=by have:=hp.length_eq;simpa using this
 have hlt:∀x∈os,x<m:=λx hx=>aod.mp (hp.mem_iff.mp hx)
 have hrl:(aO 0 (m:Int)).length=m:=by rw[dP];omega
 have hc:=Ia (q:=(m:Int)) (m:=m) rfl hm (aO 0 (m:Int)) η [] c;rw[hrl,an9]at hc;have hg:(ι m).map (λ_=>Cell.lst ((ι m).map λ_=>D.bl Δ))=dU m (fQ os f 0 0):=by
  unfold dU b9;refine aoI λi _=>?_
  congr 1
  refine aoI λk _=>?_
  simp[fQ]
 rw[hg]at hc;obtain⟨v',hf⟩:=Pw (α:=Option D×Option D) (g:=aA 4) (s:=qd) (λi=>c++dU m (fQ os f i 0)) (λ_ v=>[ζ (aP m f),ζ (.tup (nD os)),ζ (.int (m:Int)),ζ (.lst (c8 c.length m)),v.1,v.2]) (N:=(m:Int)) (n:=m) rfl (η,η) (λi hi v=>by
  obtain⟨w,hw⟩:=ad4 hn hl hm f hlt hi v.2 (c:=c);exact⟨_,rfl,(ζ (.int i),w),hw⟩)
 have e0:(aH 2 (aJ bC (aq (ak 0) au))) [ζ (aP m f),ζ (.tup (nD os)),η,η,η,η] c=.ok (.nx [ζ (aP m f),ζ (.tup (nD os)),ζ (.int (m:Int)),η,η,η]) c:=by
  have:=ao7 m f c
  generalize aP m f=T at *
  generalize (m:Int)=q at *
  simp[this]
 have hb:vA=aD (aH 2 (aJ bC (aq (ak 0) au))) (aD (aH 3 (bA (bH (aq (ak 2) au)) [η,ζ 2] (aA 0) aZ (av kj (cV (aq (dC (.bl Δ)) au)) (ak 1)))) (aD (bJ (bH (aq (ak 2) au)) (aA 4) qd) (aR (ak 3)))):=rfl;rw[qo,hb];exact ad3 e0 (ad1 (by omega) (by rw[hrl];omega) hc) (ad2 (by omega) hf) rfl (G7 c m _)
def Bx:af:=(aJ qw (aq (ak 0) au))
def Qk(m:Nat)(f:Nat->Nat->Bool):∀(l:List Nat) (v:Option D) (acc:List D) (c:aa),bz (λ_=>True) (aA 0) aZ Bx (l.map λi=>.lst (b9 m f i)) [v] acc c=.ok (acc++c8 c.length l.length) (c++l.map λi=>.lst (b9 m f i))
 |[],v,acc,c=>by simp[c8]
 |i::l,v,acc,c=>by
  rw[an8,iP];have h1:aA 0 (.lst (b9 m f i)) [v] c=.ok [ζ (.lst (b9 m f i))] c:=rfl;have h2:Bx [ζ (.lst (b9 m f i))] c=.ok (.ref c.length) (c++[.lst (b9 m f i)]):=by
   unfold Bx;simp only[iG,bE,br,gz,bB,R.aB];unfold qw;dsimp only[eS];rw[if_pos (Df m f i)]
  rw[h1,R.aB,rK,R.aB,if_pos rfl,h2,R.aB,Qk m f l];have e1:acc++[D.ref c.length]++c8 (c++[Cell.lst (b9 m f i)]).length l.length=acc++c8 c.length (i::l).length:=by
   rw[aop,aon,an4,aok]
   congr 1
   unfold c8;rw[an4,aqt,an8,aos];simp only[apX,an9,apE]
   congr 1
   refine aoI λr _=>?_
   simp only[Function.comp]
   congr 1;omega
  rw[e1,aop];rfl
def wj(f:Nat->Nat->Bool)(a b:Nat):Nat->Nat->Bool:=fY (fY f a b (!f a b)) b a (!fY f a b (!f a b) b a)
def ahw{m a b:Nat}(f:Nat->Nat->Bool)(c:aa)(ha:a<m)(hb:b<m):aE (.ref (c.length+a)) (.int (b:Int)) (c++dU m f)=.ok (.bl (f a b)) (c++dU m f):=by
 unfold aE eS;dsimp only;rw[Ga f c ha];dsimp only;rw[wN f a hb]
def KZ{m a b:Nat}(f:Nat->Nat->Bool){c:aa}{i j:Nat}{a0:Option D}{e:Ev}(he:e[3]? = ζ (ζ (.lst (c8 c.length m))))(hi:e[i]? = ζ (ζ (.int (a:Int))))(hj:e[j]? = ζ (ζ (.int (b:Int))))(ha:a<m)(hb:b<m) :
  gI (iO (av aE (av aE (ak 3) (ak i)) (ak j))) (gQ (av aE (ak 3) (ak i)) (ak j)) e (c++dU m f)=.ok (.nx e) (c++dU m (fY f a b (!f a b))):=by
 have h1:∀c',aE (.lst (c8 c.length m)) (.int (a:Int)) c'=.ok (.ref (c.length+a)) c':=λc'=>by rw[ig,zp ha]
 have h2:=ahw f c ha hb;have s1:=An f (!f a b) c ha hb;simp only[yL,JW,cJ,br,he,hi,hj,R.aB,h1,h2,yJ,s1]
def UJ{m a b:Nat}(ha:a<m)(hb:b<m)(hm:m<1000)(f:Nat->Nat->Bool)(c:aa):kB [aP m f,.int (a:Int),.int (b:Int)] c=.ok (aP m (wj f a b)) c:=by
 have hs:=cC (n:=1000) (by decide)
 have hc:=Qk m f (ι m) η [] c;rw[ao5,an9]at hc;have hb':vj=aD (aH 3 (bA (cy (ak 0)) [η] (aA 0) aZ (aJ qw (aq (ak 0) au)))) (aD (gI (iO (av aE (av aE (ak 3) (ak 1)) (ak 2))) (gQ (av aE (ak 3) (ak 1)) (ak 2))) (aD (gI (iO (av aE (av aE (ak 3) (ak 2)) (ak 1))) (gQ (av aE (ak 3) (ak 2)) (ak 1))) (aR (ak 3)))):=rfl;have e0:(aH 3 (bA (cy (ak 0)) [η] (aA 0) aZ (aJ qw (aq (ak 0) au)))) [ζ (aP m f),ζ (.int (a:Int)),ζ (.int (b:Int)),η] c=.ok (.nx [ζ (aP m f),ζ (.int (a:Int)),ζ (.int (b:Int)),ζ (.lst (c8 c.length m))]) (c++dU m f):=by
  unfold Bx at hc;rw[fK,ff];unfold cy aP;simp only[br,gz,R.aB];rw[if_pos (by rw[an2,ao5];omega)]
  have:∀T A B:Option D,dH [η] [T,A,B,η]=[η]:=λ_ _ _=>rfl
  rw[this,hc];rfl
 have e1:=KZ f (c:=c) (m:=m) (i:=1) (j:=2) (a0:=η) (e:=[ζ (aP m f),ζ (.int (a:Int)),ζ (.int (b:Int)),ζ (.lst (c8 c.length m))]) rfl rfl rfl ha hb;have e2:=KZ (fY f a b (!f a b)) (c:=c) (m:=m) (i:=2) (j:=1) (a0:=η) (e:=[ζ (aP m f),ζ (.int (a:Int)),ζ (.int (b:Int)),ζ (.lst (c8 c.length m))]) rfl rfl rfl hb ha;rw[kB,hb',Ct];have es:cF 4 [aP m f,.int (a:Int),.int (b:Int)]=[ζ (aP m f),ζ (.int (a:Int)),ζ (.int (b:Int)),η]:=rfl;rw[es,bw e0,bw e1,bw e2];exact G7 c m (wj f a b)
def j3(f:Nat->Nat->Bool):Nat->Nat->Bool:=λi k=>!decide (i=k) && !f i k
def vN:af:=(gf (av cL (ak 1) (ak 0)) (iO (av aE (av aE (ak 2) (ak 1)) (ak 0))))
def rB:af:=bA (bH (aq (ak 1) au)) [η,ζ 0,ζ 2] (aA 0) aZ vN
def xS(l:List D):l.filter (λ_=>θ)=l:=by simp
def zk{β:Type}(m:Nat)(F:D->β):(aO 0 (m:Int)).map F=(ι m).map λi:Nat=>F (.int (i:Int)):=by
 unfold aO;rw[aos,show((m:Int)-0).toNat=m by omega]
 refine aoI λi _=>?_
 simp
def alA{m i:Nat}(f:Nat->Nat->Bool)(hi:i<m)(c:aa):bz (λ_=>True) (aA 0) aZ vN (aO 0 (m:Int)) [η,ζ (.int (i:Int)),ζ (aP m f)] [] c=.ok (b9 m (j3 f) i) c:=by
 have h1:∀c',aE (aP m f) (.int (i:Int)) c'=.ok (.lst (b9 m f i)) c':=λc'=>by unfold aP;rw[ig,CK f hi]
 have:=oW (c:=c) (g:=aA 0) (t:=aZ) (a:=vN) (λe=>∃v,e=[v,ζ (.int (i:Int)),ζ (aP m f)]) (λ_=>θ) (λd=>match d with|.int k=>.bl (j3 f i k.toNat)|d=>d) (aO 0 (m:Int)) [η,ζ (.int (i:Int)),ζ (aP m f)] [] ⟨_,rfl⟩ (λd hd e ⟨v,he⟩=>by
  subst he;obtain⟨k',rfl,k0,k1⟩:=oi hd;obtain⟨k,rfl⟩:=g7 k0;have h2:∀c',aE (.lst (b9 m f i)) (.int (k:Int)) c'=.ok (.bl (f i k)) c':=λc'=>by rw[ig,wN f i (by omega)]
  refine⟨_,rfl,⟨_,rfl⟩,rfl,λ_=>?_⟩
  show vN [ζ (.int (k:Int)),ζ (.int (i:Int)),ζ (aP m f)] c=_
  generalize aP m f=T at *
  unfold vN
  by_cases e:i=k
  ·subst e;simp[j3]
  ·have e':¬(i:Int)=k:=by omega
   simp[e',j3,e,h1,h2])
 rw[this,an9,xS,zk]
 congr 1
def alC{q i:Int}{T a0:Option D}{c:aa}{l:List D}(b:-4611686018427387904<=q/\q<4611686018427387904)(hl:(aO 0 q).length<ε)(h:bz (λ_=>True) (aA 0) aZ vN (aO 0 q) [η,ζ (.int i),T] [] c=.ok l c):rB [ζ (.int i),ζ (.int q),T] c=.ok (.lst l) c:=by
 unfold rB;simp only[ff,gw,bE,br,gz,gs,bB,R.aB];rw[if_pos (by omega)]
 simp only[R.aB];rw[if_pos hl];have:dH [η,ζ 0,ζ 2] [ζ (D.int i),ζ (.int q),T]=[η,ζ (.int i),T]:=by cases T<;>rfl
 rw[this,h];rfl
def alz{m:Nat}(f:Nat->Nat->Bool)(hm:m<1000)(c:aa):bz (λ_=>True) (aA 0) aZ rB (aO 0 (m:Int)) [η,ζ (.int (m:Int)),ζ (aP m f)] [] c=.ok ((ι m).map λi=>.lst (b9 m (j3 f) i)) c:=by
 have hs:=cC (n:=1000) (by decide)
 have:=oW (c:=c) (g:=aA 0) (t:=aZ) (a:=rB) (λe=>∃v,e=[v,ζ (.int (m:Int)),ζ (aP m f)]) (λ_=>θ) (λd=>match d with|.int k=>.lst (b9 m (j3 f) k.toNat)|d=>d) (aO 0 (m:Int)) [η,ζ (.int (m:Int)),ζ (aP m f)] [] ⟨_,rfl⟩ (λd hd e ⟨v,he⟩=>by
  subst he;obtain⟨k',rfl,k0,k1⟩:=oi hd;obtain⟨k,rfl⟩:=g7 k0;refine⟨_,rfl,⟨_,rfl⟩,rfl,λ_=>?_⟩
  exact alC (a0:=η) (by omega) (by rw[dP];omega) (alA f (by omega) c))
 rw[this,an9,xS,zk]
 congr 1
def alB{q:Int}{T:D}{c:aa}{l:List D}(b:-4611686018427387904<=q/\q<4611686018427387904)(hl:(aO 0 q).length<ε)(hn:bC [T] c=.ok (.int q) c)(h:bz (λ_=>True) (aA 0) aZ rB (aO 0 q) [η,ζ (.int q),ζ T] [] c=.ok l c)(nr:bI l=θ):lJ [T] c=.ok (.lst l) c:=by
 have hb:vE=aD (aH 1 (aJ bC (aq (ak 0) au))) (aR (bA (bH (aq (ak 1) au)) [η,ζ 1,ζ 0] (aA 0) aZ rB)):=rfl;have e1:(aR (bA (bH (aq (ak 1) au)) [η,ζ 1,ζ 0] (aA 0) aZ rB)) [ζ T,ζ (.int q)] c=.ok (.rt (.lst l)) c:=by
  simp only[iF,ff,gw,bE,br,gz,gs,bB,R.aB];rw[if_pos (by omega)]
  simp only[R.aB];rw[if_pos hl];have:dH [η,ζ 1,ζ 0] [ζ T,ζ (D.int q)]=[η,ζ (.int q),ζ T]:=rfl;rw[this,h];rfl
 have e0:(aH 1 (aJ bC (aq (ak 0) au))) [ζ T,η] c=.ok (.nx [ζ T,ζ (.int q)]) c:=by simp[hn]
 rw[lJ,fL,hb];have es:cF 2 [T]=[ζ T,η]:=rfl;rw[es,bw e0,e1];have ku:noRef (.lst l)=θ:=nr;simp only[R.aB];unfold cA;dsimp only;rw[if_pos ku,ao6]
def alx{m:Nat}(f:Nat->Nat->Bool)(hm:m<1000)(c:aa):lJ [aP m f] c=.ok (aP m (j3 f)) c:=by
 have hs:=cC (n:=1000) (by decide)
 refine alB (by omega) (by rw[dP];omega) (ao7 m f c) (alz f hm c) (iy.mpr λd hd=>?_)
 obtain⟨i,_,rfl⟩:=aoa.mp hd;exact Df m _ i
def fj(m:Nat)(f:Nat->Nat->Bool)(i:Nat):List Nat:=(ι m).filter λk=>f i k
def pT(m:Nat)(f:Nat->Nat->Bool):D:=.tup ((ι m).map λi=>.tup (nD (fj m f i)))
def tT:ai:=(aM (av aE (ak 1) (ak 0)))
def XJ{m i:Nat}(f:Nat->Nat->Bool)(c:aa):bz (λ_=>True) (aA 0) tT (ak 0) (aO 0 (m:Int)) [η,ζ (.lst (b9 m f i))] [] c=.ok (nD (fj m f i)) c:=by
 have:=oW (c:=c) (g:=aA 0) (t:=tT) (a:=ak 0) (λe=>∃v,e=[v,ζ (.lst (b9 m f i))]) (λd=>match d with|.int k=>f i k.toNat|_=>Δ) id (aO 0 (m:Int)) [η,ζ (.lst (b9 m f i))] [] ⟨_,rfl⟩ (λd hd e ⟨v,he⟩=>by
  subst he;obtain⟨k',rfl,k0,k1⟩:=oi hd;obtain⟨k,rfl⟩:=g7 k0;have h2:aE (.lst (b9 m f i)) (.int (k:Int)) c=.ok (.bl (f i k)) c:=by rw[ig,wN f i (by omega)]
  refine⟨_,rfl,⟨_,rfl⟩,?_,λ_=>rfl⟩
  show tT [ζ (.int (k:Int)),ζ (.lst (b9 m f i))] c=_;unfold tT;simp only[ir,cJ,br,gz,gs,R.aB,h2,apC])
 rw[this,an9,ard]
 congr 1
 unfold aO fj nD;rw[ass,show((m:Int)-0).toNat=m by omega]
 have e:((λd:D=>match d with|.int k=>f i k.toNat|_=>Δ) ∘ λk:Nat=>D.int (0+(k:Int)))=λk=>f i k:=by
  funext k
  simp
 rw[e];refine aoI λk _=>?_
 simp
def pV:af:=(aJ gV (aq (bA (bH (aq (aJ bC (aq (ak 1) au)) au)) [η,ζ 0] (aA 0) (aM (av aE (ak 1) (ak 0))) (ak 0)) au))
def XI{q:Int}{T:D}{r l:List D}{c:aa}(hn:bC [T] c=.ok (.int q) c)(b:-4611686018427387904<=q/\q<4611686018427387904)(hl:(aO 0 q).length<ε)(h:bz (λ_=>True) (aA 0) tT (ak 0) (aO 0 q) [η,ζ (.lst r)] [] c=.ok l c) :
  pV [ζ (.lst r),ζ T] c=.ok (.tup l) c:=by
 unfold tT at h;unfold pV;simp only[iG,bE,ff,gw,br,gz,gs,bB,R.aB,hn];rw[if_pos (by omega)]
 simp only[R.aB];rw[if_pos hl];have:dH [η,ζ 0] [ζ (D.lst r),ζ T]=[η,ζ (.lst r)]:=rfl;rw[this,h];rfl
def XH{m:Nat}(f:Nat->Nat->Bool)(hm:m<1000)(c:aa):bz (λ_=>True) (aA 0) aZ pV ((ι m).map λi=>.lst (b9 m f i)) [η,ζ (aP m f)] [] c=.ok ((ι m).map λi=>.tup (nD (fj m f i))) c:=by
 have hs:=cC (n:=1000) (by decide)
 have hlen:=ao7 m f c;have key:∀(l:List Nat) (v:Option D) (acc:List D),bz (λ_=>True) (aA 0) aZ pV (l.map λi=>.lst (b9 m f i)) [v,ζ (aP m f)] acc c=.ok (acc++l.map λi=>.tup (nD (fj m f i))) c:=by
  intro l
  induction l with
  |nil=>intro v acc;simp
  |cons i l ih =>
   intro v acc;have h1:aA 0 (.lst (b9 m f i)) [v,ζ (aP m f)] c=.ok [ζ (.lst (b9 m f i)),ζ (aP m f)] c:=rfl;have h2:pV [ζ (.lst (b9 m f i)),ζ (aP m f)] c=.ok (.tup (nD (fj m f i))) c:=XI hlen (by omega) (by rw[dP];omega) (XJ f c)
   rw[an8,iP,h1,R.aB,rK,R.aB,if_pos rfl,h2,R.aB,ih,aop];rfl
 have:=key (ι m) η []
 rwa[an9]at this
def Xo{m:Nat}(f:Nat->Nat->Bool)(hm:m<1000)(c:aa):kC [aP m f] c=.ok (pT m f) c:=by
 have hs:=cC (n:=1000) (by decide)
 have h:=XH f hm c;have hb:vn=aR (aJ gV (aq (bA (cy (ak 0)) [η,ζ 0] (aA 0) aZ pV) au)):=rfl;rw[kC,fL,hb];have es:cF 1 [aP m f]=[ζ (aP m f)]:=rfl;have nr:noRef (pT m f)=θ:=by
  unfold pT noRef;refine iy.mpr λd hd=>?_
  obtain⟨i,_,rfl⟩:=aoa.mp hd;unfold noRef;exact xh _
 have e1:(aR (aJ gV (aq (bA (cy (ak 0)) [η,ζ 0] (aA 0) aZ pV) au))) [ζ (aP m f)] c=.ok (.rt (pT m f)) c:=by
  have hd:cy (ak 0) [ζ (aP m f)] c=.ok ⟨(ι m).map λi=>.lst (b9 m f i),λ_=>True⟩ c:=rfl
  have hp:dH [η,ζ 0] [ζ (aP m f)]=[η,ζ (aP m f)]:=rfl;simp only[iF,iG,bE,ff,hd,bB,R.aB];rw[if_pos (by rw[an2,ao5];omega),hp,h]
  rfl
 rw[es,e1];simp only[R.aB];unfold pT at nr ⊢;unfold cA;dsimp only;rw[if_pos nr,ao6]
def PW(j n:Nat)(ps:List (Nat×Nat))(c:aa):Prop:=c.length=n+1/\j<n/\(∃p:Int,c[j]? = ζ (.lst [.int p]))/\c[n]? = ζ (.lst (ps.map aL))
def PW.turn{j n:Nat}{ps:List (Nat×Nat)}{c:aa}(h:PW j n ps c)(p:Int):PW j n ps (c.set j (.lst [.int p])):=by
 obtain⟨h1,h2,_,h4⟩:=h;exact⟨by simp[h1],h2,⟨p,by rw[aoJ (by omega)]⟩,by rw[ao0 (by omega)];exact h4⟩
def PW.plus{j n:Nat}{ps qs:List (Nat×Nat)}{c:aa}(h:PW j n ps c):PW j n (ps++qs) (c.set n (.lst (ps.map aL++qs.map aL))):=by
 obtain⟨h1,h2,⟨q,h3⟩,h4⟩:=h;exact⟨by simp[h1],h2,⟨q,by rw[ao0 (by omega)];exact h3⟩,by rw[aoJ (by omega),aoZ]⟩
def dN(m:Nat)(ps:List (Nat×Nat)):Prop:=∀p∈ps,p.1<m/\p.2<m/\p.1≠p.2
def wI:ai:=(aM (av gK (aG 2 bu (aq (ak 3) (aq (dC (.int 6)) au))) (ak 2)))
def wJ:af:=(bf (aq (ak 1) (aq (ak 0) au)))
def Dc{j n m a:Nat}{ps:List (Nat×Nat)}{e9:Int}(ha:a<m):∀(ks:List Nat) (v:Option D) (acc:List D) (c:aa),(∀k∈ks,a<k/\k<m)->PW j n ps c ->
  ∃(qs:List (Nat×Nat)) (c':aa),PW j n ps c'/\dN m qs/\qs.length<=ks.length/\bz (λ_=>True) (aA 0) wI wJ (ks.map λk:Nat=>.int (k:Int)) [v,ζ (.int (a:Int)),ζ (.int e9),ζ (.ref j)] acc c=.ok (acc++qs.map aL) c'
 |[],v,acc,c,_,hP=>⟨[],c,hP,λp hp=>(by cases hp),anU _,by simp⟩
 |k::ks,v,acc,c,hk,hP=>by
  obtain⟨p,hp⟩:=hP.2.2.1;have ht:=take2 (cO:=6) hp (by decide) (by decide)
  have qF:=hP.turn (p/6)
  generalize c.set j (.lst [.int (p/6)])=c1 at ht qF
  have hkk:=hk k (.head _);have h2:(2:Nat)<=ε:=cC (by decide)
  have hT:wI [ζ (.int (k:Int)),ζ (.int (a:Int)),ζ (.int e9),ζ (.ref j)] c=.ok (decide (p % 6<e9)) c1:=by
   unfold wI;simp only[ir,cJ,x_call,bE,br,gz,gs,dY,bB,R.aB,an4,aok,if_pos,ht];simp
  have hE:wJ [ζ (.int (k:Int)),ζ (.int (a:Int)),ζ (.int e9),ζ (.ref j)] c1=.ok (aL (a,k)) c1:=by
   unfold wJ;simp only[j9,bE,br,gz,gs,bB,R.aB,an4,aok];rw[if_pos h2];rfl
  have h1:aA 0 (.int (k:Int)) [v,ζ (.int (a:Int)),ζ (.int e9),ζ (.ref j)] c=.ok [ζ (.int (k:Int)),ζ (.int (a:Int)),ζ (.int e9),ζ (.ref j)] c:=rfl
  by_cases hq:p % 6<e9
  ·obtain⟨qs,c',P',n',l',h'⟩:=Dc (e9:=e9) ha ks (ζ (.int (k:Int))) (acc++[aL (a,k)]) c1 (λz hz=>hk z (.tail _ hz)) qF
   refine⟨(a,k)::qs,c',P',λq hq=>?_,by simp only[an4];omega,?_⟩
   ·rcases anW.mp hq with rfl|hq
    ·exact⟨ha,hkk.2,an0 hkk.1⟩
    ·exact n' q hq
   ·rw[an8,iP,h1,R.aB,hT,R.aB,if_pos (decide_eq_true hq),hE,R.aB,h',aop];rfl
  ·obtain⟨qs,c',P',n',l',h'⟩:=Dc (e9:=e9) ha ks (ζ (.int (k:Int))) acc c1 (λz hz=>hk z (.tail _ hz)) qF
   refine⟨qs,c',P',n',by simp only[an4];omega,?_⟩
   rw[an8,iP,h1,R.aB,hT,R.aB,if_neg (by simpa using hq),h']
def zj(a m:Nat):aO ((a:Int)+1) (m:Int)=(List.range' (a+1) (m-(a+1))).map λk:Nat=>.int (k:Int):=by
 unfold aO;rw[show((m:Int)-((a:Int)+1)).toNat=m-(a+1) by omega,asu,aos]
 refine aoI λk _=>?_
 show D.int _=D.int _
 congr 1
def MP(ps:List (Nat×Nat)):bI (ps.map aL)=θ:=iy.mpr λd hd=>by
 obtain⟨p,_,rfl⟩:=aoa.mp hd;rfl
def Bc{j n:Nat}{ps qs:List (Nat×Nat)}{c c1:aa}{e:Ev}{dc:af}(h4:e[4]? = ζ (ζ (.ref n)))(hc:dc e c=.ok (.lst (qs.map aL)) c1)(hP:PW j n ps c1)(hl:ps.length+qs.length<=100000) :
  cW (dw (ak 4) dc) e c=.ok (.nx e) (c1.set n (.lst (ps.map aL++qs.map aL))):=by
 have hs:100000<=ε:=by decide
 have:dw (ak 4) dc e c=.ok .aF (c1.set n (.lst (ps.map aL++qs.map aL))):=by
  unfold dw;simp only[br,h4,R.aB,hc];rw[hP.2.2.2];dsimp only;rw[if_pos ⟨by simp only[an2];omega,MP qs⟩]
 rw[rM,this];rfl
def sy:ah:=(cW (dw (ak 4) (bA (eV (aq (av bx (ak 5) (dC (.int 1))) (aq (ak 2) au))) [η,ζ 5,ζ 3,ζ 0] (aA 0) (aM (av gK (aG 2 bu (aq (ak 3) (aq (dC (.int 6)) au))) (ak 2))) (bf (aq (ak 1) (aq (ak 0) au))))))
def WO{q a:Int}{v0 v1 v3 v4:Option D}{c:aa}{l:List D}{c':aa}(ba:-4611686018427387904<=a+1/\a+1<4611686018427387904)(bq:-4611686018427387904<=q/\q<4611686018427387904)(hl:(aO (a+1) q).length<ε)(h:bz (λ_=>True) (aA 0) wI wJ (aO (a+1) q) [η,ζ (.int a),v3,v0] [] c=.ok l c') :
  (bA (eV (aq (av bx (ak 5) (dC (.int 1))) (aq (ak 2) au))) [η,ζ 5,ζ 3,ζ 0] (aA 0) (aM (av gK (aG 2 bu (aq (ak 3) (aq (dC (.int 6)) au))) (ak 2))) (bf (aq (ak 1) (aq (ak 0) au)))) [v0,v1,ζ (.int q),v3,v4,ζ (.int a)] c=.ok (.lst l) c':=by
 unfold wI wJ at h;simp only[ff,nA,bE,cJ,br,dY,gz,gs,bB,R.aB,jG];rw[if_pos ⟨by omega,by omega,by omega,by omega⟩]
 simp only[R.aB];rw[if_pos hl];have:dH [η,ζ 5,ζ 3,ζ 0] [v0,v1,ζ (D.int q),v3,v4,ζ (.int a)]=[η,ζ (.int a),v3,v0]:=by cases v0<;>cases v3<;>rfl
 rw[this,h];rfl
def WN{j n m a:Nat}{ps:List (Nat×Nat)}{e9:Int}{c:aa}(hP:PW j n ps c)(hp:dN m ps)(ha:a<m)(hm:m<64)(hl:ps.length<=64*64)(v1:Option D) :
  ∃ps' c',PW j n ps' c'/\dN m ps'/\ps'.length<=ps.length+m/\sy [ζ (.ref j),v1,ζ (.int (m:Int)),ζ (.int e9),ζ (.ref n),ζ (.int (a:Int))] c=.ok (.nx [ζ (.ref j),v1,ζ (.int (m:Int)),ζ (.int e9),ζ (.ref n),ζ (.int (a:Int))]) c':=by
 have hs:=cC (n:=1000) (by decide)
 obtain⟨qs,c1,P1,n1,l1,h1⟩:=Dc (ps:=ps) (e9:=e9) ha (List.range' (a+1) (m-(a+1))) η [] c (λk hk=>by
  have:=aqu.mp hk;obtain⟨i,hi,rfl⟩:=this;omega) hP
 rw[<-zj,an9]at h1;rw[apv]at l1;have hc:=WO (v1:=v1) (v4:=ζ (.ref n)) (by omega) (by omega) (by rw[dP];omega) h1
 refine⟨ps++qs,_,P1.plus,λp g9=>?_,by rw[aon];omega,Bc (j:=j) rfl hc P1 (by omega)⟩
 rcases aou.mp g9 with h|h
 ·exact hp p h
 ·exact n1 p h
def WT{j n m:Nat}{e9:Int}{c:aa}(hP:PW j n [] c)(hm:m<64)(v1 v5:Option D) :
  ∃ps' c' v,PW j n ps' c'/\dN m ps'/\b8 (λ_=>True) (aA 5) sy (aO 0 (m:Int)) [ζ (.ref j),v1,ζ (.int (m:Int)),ζ (.int e9),ζ (.ref n),v5] c=.ok (.nx [ζ (.ref j),v1,ζ (.int (m:Int)),ζ (.int e9),ζ (.ref n),v]) c':=by
 have hlen:(aO 0 (m:Int)).length=m:=by rw[dP];omega
 obtain⟨e',c',⟨ps',v,rfl,P',g9,hl'⟩,hf⟩:=qI (g:=aA 5) (s:=sy) (λk e c=>∃ps' v,e=[ζ (.ref j),v1,ζ (.int (m:Int)),ζ (.int e9),ζ (.ref n),v]/\PW j n ps' c/\dN m ps'/\ps'.length<=k*m)
  (aO 0 (m:Int)) 0 [ζ (.ref j),v1,ζ (.int (m:Int)),ζ (.int e9),ζ (.ref n),v5] c ⟨[],v5,rfl,hP,λp hp=>(by cases hp),by simp⟩ (λi x hx e c ⟨ps1,v,he,P1,hp1,hl1⟩=>by
   subst he;have hi:i<(aO 0 (m:Int)).length:=(an7.mp hx).1;obtain⟨hlt,rfl⟩:=ki hx;rw[apI];rw[aog]at hl1 ⊢;have hb:i*m<=64*64:=apk (by omega) (by omega)
   obtain⟨ps2,c2,P2,hp2,hl2,h2⟩:=WN (e9:=e9) P1 hp1 (a:=i) (by omega) hm (by omega) v1
   exact⟨_,_,_,_,rfl,h2,ps2,_,rfl,P2,hp2,by rw[apr];omega⟩)
 exact⟨ps',c',v,P',g9,hf⟩
def dN.isIn{m:Nat}{ps:List (Nat×Nat)}(h:dN m ps):Jw m ps:=λp hp=>⟨(h p hp).1,(h p hp).2.1⟩
def W9{j n:Nat}{most y z:Int}{c c1 c2 c3 c4:aa}{W:D}{v:Option D}(t1:bu [.ref j,.int most] c=.ok (.int y) c1)(t2:bu [.ref j,.int 5] c1=.ok (.int z) c2)(hn:c2.length=n)
  (hb:-4611686018427387904<=1+y/\1+y<4611686018427387904) (hf:b8 (λ_=>True) (aA 5) sy (aO 0 (1+y)) [ζ (.ref j),ζ (.int most),ζ (.int (1+y)),ζ (.int (1+z)),ζ (.ref n),η] (c2++[.lst []])=.ok (.nx [ζ (.ref j),ζ (.int most),ζ (.int (1+y)),ζ (.int (1+z)),ζ (.ref n),v]) c3)
  (hw:jO [.int (1+y),.ref n] c3=.ok W c3) (hx:cA Δ c.length W c3=.ok W c4):lH [.ref j,.int most] c=.ok W c4:=by
 have hb':vm=aD (aH 2 (av bx (dC (.int 1)) (aG 2 bu (aq (ak 0) (aq (ak 1) au))))) (aD (aH 3 (av bx (dC (.int 1)) (aG 2 bu (aq (ak 0) (aq (dC (.int 5)) au))))) (aD (aH 4 (cU au)) (aD (bJ (bH (aq (ak 2) au)) (aA 5) sy) (aR (aG 2 jO (aq (ak 2) (aq (ak 4) au))))))):=rfl;have e0:(aH 2 (av bx (dC (.int 1)) (aG 2 bu (aq (ak 0) (aq (ak 1) au))))) [ζ (.ref j),ζ (.int most),η,η,η,η] c=.ok (.nx [ζ (.ref j),ζ (.int most),ζ (.int (1+y)),η,η,η]) c1:=by simp[t1]
 have e1:(aH 3 (av bx (dC (.int 1)) (aG 2 bu (aq (ak 0) (aq (dC (.int 5)) au))))) [ζ (.ref j),ζ (.int most),ζ (.int (1+y)),η,η,η] c1=.ok (.nx [ζ (.ref j),ζ (.int most),ζ (.int (1+y)),ζ (.int (1+z)),η,η]) c2:=by simp[t2]
 have e2:(aH 4 (cU au)) [ζ (.ref j),ζ (.int most),ζ (.int (1+y)),ζ (.int (1+z)),η,η] c2=.ok (.nx [ζ (.ref j),ζ (.int most),ζ (.int (1+y)),ζ (.int (1+z)),ζ (.ref n),η]) (c2++[.lst []]):=by simp[hn]
 have e3:(bJ (bH (aq (ak 2) au)) (aA 5) sy) [ζ (.ref j),ζ (.int most),ζ (.int (1+y)),ζ (.int (1+z)),ζ (.ref n),η] (c2++[.lst []])=.ok (.nx [ζ (.ref j),ζ (.int most),ζ (.int (1+y)),ζ (.int (1+z)),ζ (.ref n),v]) c3:=by
  simp only[gy,gw,bE,br,gz,gs,bB,R.aB];rw[if_pos (by omega)]
  exact hf
 have e4:(aR (aG 2 jO (aq (ak 2) (aq (ak 4) au)))) [ζ (.ref j),ζ (.int most),ζ (.int (1+y)),ζ (.int (1+z)),ζ (.ref n),v] c3=.ok (.rt W) c3:=by simp[hw]
 rw[lH,fL,hb'];have es:cF 6 [D.ref j,.int most]=[ζ (.ref j),ζ (.int most),η,η,η,η]:=rfl;rw[es,bw e0,bw e1,bw e2,bw e3,e4];exact hx
def K2(m:Nat)(f:Nat->Nat->Bool):noRef (aP m f)=θ:=by
 unfold aP noRef;refine iy.mpr λd hd=>?_
 obtain⟨i,_,rfl⟩:=aoa.mp hd;exact Df m f i
def G6(m:Nat)(f:Nat->Nat->Bool)(n:Nat)(c:aa):cA Δ n (aP m f) c=.ok (aP m f) (c.take n):=by
 have nr:=K2 m f;unfold aP at nr ⊢;unfold cA;dsimp only;rw[if_pos nr]
def PW.tV{j n:Nat}{ps:List (Nat×Nat)}{c:aa}(h:PW j n ps c):fH j n (c.take n):=by
 obtain⟨l3,hj,⟨p3,q3⟩,_⟩:=h;exact⟨by rw[apz];omega,hj,p3,by rw[aqH hj];exact q3⟩
def PW.start{j n:Nat}{c:aa}(h:fH j n c):PW j n [] (c++[.lst []]):=by
 obtain⟨hl,hj,p,hp⟩:=h;exact⟨by simp[hl],hj,⟨p,by rw[aow (by omega)];exact hp⟩,by rw[aov (by omega),hl];simp⟩
def WK{j n:Nat}{c:aa}{most:Int}(hP:fH j n c)(h0:0<most)(h1:most<60):∃(m:Nat) (ps:List (Nat×Nat)) (c':aa),1<=m/\(m:Int)<=most/\dN m ps/\fH j n c'/\lH [.ref j,.int most] c=.ok (aP m (gO ps)) c':=by
 obtain⟨y,c1,y0,y1,P1,t1⟩:=kg hP h0 (by omega)
 obtain⟨z,c2,z0,z1,P2,t2⟩:=kg (cO:=5) P1 (by decide) (by decide)
 obtain⟨m,hm⟩:=g7 (i:=1+y) (by omega)
 obtain⟨ps,c3,v,P3,hp3,hf⟩:=WT (m:=m) (e9:=1+z) (PW.start P2) (by omega) (ζ (.int most)) η
 have hw:=N6 (m:=m) (X:=.ref n) (c:=c3) hp3.isIn (by omega) (.inl ⟨n,rfl,P3.2.2.2⟩)
 rw[<-hm]at hf hw;exact⟨m,ps,c3.take n,by omega,by omega,hp3,P3.tV,W9 t1 t2 P2.1 (by omega) hf hw (by rw[hP.1];exact G6 m _ n c3)⟩
def dB(M:List (List Int)):List D:=M.map λl=>.lst (l.map D.int)
def NC{M:List (List Int)}{i:Nat}(h:i<M.length):cD (dB M) (i:Int)=ζ (.lst (M[i].map D.int)):=l9 (by simp[dB,h])
def Od(l:List Int)(y:Int)(c:aa):∃b,inD (.int y) (.lst (l.map D.int)) c=.ok (.bl b) c:=by
 have hd:∀l:List Int,gS (l.map D.int)=ζ (l.map PyData.int):=λl=>by
  induction l with
  |nil=>rfl
  |cons n ns ih=>simp[gS,d8,ih]
 have h1:fy c (.int y)=ζ (.int y):=rfl;have h2:fy c (.lst (l.map D.int))=ζ (.list (l.map PyData.int)):=by
  show(match gS (l.map D.int)with|some r=>ζ (PyData.list r)|none=>η)=_
  rw[hd]
 refine⟨(l.map PyData.int).any λz=>z.eqv (.int y),?_⟩
 unfold inD;rw[h1,h2];dsimp only;rw[if_pos (by simp[PyData.depth])]
def zN:af:=(av inD (ak 0) (av aE (ak 1) (ak 2)))
def MG{X:D}{M:List (List Int)}{o:Nat}{c:aa}(hX:d7 c X=ζ (dB M))(ho:o<M.length):∀(l:List Int) (v:Option D) (acc:List D),∃bs:List Bool,bz (λ_=>True) (aA 0) aZ zN (l.map D.int) [v,ζ X,ζ (.int (o:Int))] acc c=.ok (acc++bs.map D.bl) c
 |[],v,acc=>⟨[],by simp⟩
 |y::l,v,acc=>by
  obtain⟨b,hb⟩:=Od M[o] y c;have hix:aE X (.int (o:Int)) c=.ok (.lst (M[o].map D.int)) c:=by
   have hs:eS c X=ζ (dB M):=by
    cases X with
    |lst l=>exact hX
    |ref k=>exact hX
    |_=>cases hX
   unfold aE;dsimp only;rw[hs];dsimp only;rw[NC ho]
  have h2:zN [ζ (.int y),ζ X,ζ (.int (o:Int))] c=.ok (.bl b) c:=by
   unfold zN;simp only[cJ,br,gz,gs,R.aB,hix,hb]
  have h1:aA 0 (.int y) [v,ζ X,ζ (.int (o:Int))] c=.ok [ζ (.int y),ζ X,ζ (.int (o:Int))] c:=rfl;obtain⟨bs,h⟩:=MG hX ho l (ζ (.int y)) (acc++[.bl b]);refine⟨b::bs,?_⟩;rw[an8,iP,h1,R.aB,rK,R.aB,if_pos rfl,h2,R.aB,h,aop];rfl
def zO:af:=(bA (cy (av aE (ak 1) (ak 3))) [η,ζ 1,ζ 4] (aA 0) aZ (av inD (ak 0) (av aE (ak 1) (ak 2))))
def qb:ah:=bh (aM (aJ rA (aq zO au))) (cW (jW (ak 2) (bf (aq (ak 3) (aq (ak 4) au))))) bF
def acV{X:D}{M:List (List Int)}{a b:Nat}{c:aa}(hX:d7 c X=ζ (dB M))(ha:a<M.length)(hb:b<M.length)(hs:∀l∈M,l.length<1000)(v0 v2:Option D):∃t,(aM (aJ rA (aq zO au))) [v0,ζ X,v2,ζ (.int (a:Int)),ζ (.int (b:Int))] c=.ok t c:=by
 have hsz:=cC (n:=1000) (by decide)
 obtain⟨bs,h⟩:=MG hX hb M[a] η [];rw[an9]at h;have hix:aE X (.int (a:Int)) c=.ok (.lst (M[a].map D.int)) c:=by
  have hs:eS c X=ζ (dB M):=by
   cases X with
   |lst l=>exact hX
   |ref k=>exact hX
   |_=>cases hX
  unfold aE;dsimp only;rw[hs];dsimp only;rw[NC ha]
 have hc:zO [v0,ζ X,v2,ζ (.int (a:Int)),ζ (.int (b:Int))] c=.ok (.lst (bs.map D.bl)) c:=by
  unfold zN at h;unfold zO;rw[ff];unfold cy;simp only[cJ,br,gz,gs,R.aB,hix];have hl:=hs _ (aoE ha);rw[if_pos (by rw[an2];omega)]
  have:dH [η,ζ 1,ζ 4] [v0,ζ X,v2,ζ (D.int (a:Int)),ζ (.int (b:Int))]=[η,ζ X,ζ (.int (b:Int))]:=rfl;rw[this,h];rfl
 refine⟨bs.any id,?_⟩;have hany:rA [.lst (bs.map D.bl)] c=.ok (.bl (bs.any id)) c:=by
  unfold rA pX;dsimp only;rw[BE]
 simp only[ir,iG,bE,hc,bB,R.aB,hany]
def ael{X:D}{l:List D}{c:aa}(h:d7 c X=ζ l)(Rc:aa):d7 (c++Rc) X=ζ l:=by
 cases X with
 |lst m=>exact h
 |ref k =>
  unfold d7 at h ⊢;dsimp only at h ⊢;have hk:k<c.length:=by
   rcases aqk k c.length with q|q
   ·exact q
   ·rw[apt q]at h;cases h
  rw[aow hk];exact h
 |_=>cases h
def acW{X:D}{M:List (List Int)}{a b m:Nat}{ps:List (Nat×Nat)}{c:aa}(hX:d7 c X=ζ (dB M))(hM:m<=M.length)(hs:∀l∈M,l.length<1000)(hab:a<b)(hb:b<m)(hp:dN m ps)(hl:ps.length<100000)(v0:Option D) :
  ∃ps',dN m ps'/\ps'.length<=ps.length+1/\qb [v0,ζ X,ζ (.ref c.length),ζ (.int (a:Int)),ζ (.int (b:Int))] (c++[.lst (ps.map aL)])=.ok (.nx [v0,ζ X,ζ (.ref c.length),ζ (.int (a:Int)),ζ (.int (b:Int))]) (c++[.lst (ps'.map aL)]):=by
 have h2:(2:Nat)<=ε:=cC (by decide)
 obtain⟨t,ht⟩:=acV (a:=a) (b:=b) (ael hX [.lst (ps.map aL)]) (by omega) (by omega) hs v0 (ζ (.ref c.length))
 cases t with
 |false=>exact⟨ps,hp,by omega,by unfold qb;rw[gx,ht];simp⟩
 |true =>
  refine⟨ps++[(a,b)],λq hq=>?_,by simp,?_⟩
  ·rcases aou.mp hq with hq|hq
   ·exact hp q hq
   ·rw[aoO]at hq;subst hq;exact⟨by show a<m;omega,hb,by show a≠b;omega⟩
  ·have ha:=akK (c:=c) (acc:=ps.map aL) (y:=aL (a,b)) (dO:=ak 2) (da:=bf (aq (ak 3) (aq (ak 4) au))) (e:=[v0,ζ X,ζ (.ref c.length),ζ (.int (a:Int)),ζ (.int (b:Int))]) (by simp) (by
    simp only[j9,bE,br,gz,gs,bB,R.aB,an4,aok];rw[if_pos h2];rfl) rfl (by rw[an2];omega)
   unfold qb;rw[gx,ht];simp only[R.aB,if_true];rw[rM,ha,aoZ];rfl
def XE{a m i:Nat}{x:D}(h:(aO ((a:Int)+1) (m:Int))[i]? = ζ x):a+1+i<m/\x=.int ((a+1+i:Nat):Int):=by
 have hi:i<(aO ((a:Int)+1) (m:Int)).length:=(an7.mp h).1;rw[dP]at hi;obtain⟨_,rfl⟩:=ki h;exact⟨by omega,by congr 1⟩
def acY{X:D}{M:List (List Int)}{a m:Nat}{ps:List (Nat×Nat)}{c:aa}(hX:d7 c X=ζ (dB M))(hM:m<=M.length)(hs:∀l∈M,l.length<1000)(hp:dN m ps)(hl:ps.length+m<100000)(v0 v4:Option D) :
  ∃ps' v,dN m ps'/\ps'.length<=ps.length+m/\b8 (λ_=>True) (aA 4) qb (aO ((a:Int)+1) (m:Int)) [v0,ζ X,ζ (.ref c.length),ζ (.int (a:Int)),v4] (c++[.lst (ps.map aL)])=.ok (.nx [v0,ζ X,ζ (.ref c.length),ζ (.int (a:Int)),v]) (c++[.lst (ps'.map aL)]):=by
 have hlen:(aO ((a:Int)+1) (m:Int)).length<=m:=by rw[dP];omega
 obtain⟨e',c',⟨ps',v,rfl,rfl,g9,hl'⟩,hf⟩:=qI (g:=aA 4) (s:=qb) (λk e c'=>∃ps' v,e=[v0,ζ X,ζ (.ref c.length),ζ (.int (a:Int)),v]/\c'=c++[.lst (ps'.map aL)]/\dN m ps'/\ps'.length<=ps.length+k)
  (aO ((a:Int)+1) (m:Int)) 0 [v0,ζ X,ζ (.ref c.length),ζ (.int (a:Int)),v4] (c++[.lst (ps.map aL)]) ⟨ps,v4,rfl,rfl,hp,by omega⟩ (λi x hx e c' ⟨ps1,v,he,hc,hp1,hl1⟩=>by
   subst he;subst hc;have hi:i<(aO ((a:Int)+1) (m:Int)).length:=(an7.mp hx).1;obtain⟨hlt,rfl⟩:=XE hx;obtain⟨ps2,hp2,hl2,h2⟩:=acW (a:=a) (b:=a+1+i) hX hM hs (by omega) hlt hp1 (by omega) v0
   exact⟨_,_,_,_,rfl,h2,ps2,_,rfl,rfl,hp2,by omega⟩)
 exact⟨ps',v,g9,by omega,hf⟩
def qa:ah:=bJ (eV (aq (av bx (ak 3) (dC (.int 1))) (aq (ak 0) au))) (aA 4) qb
def ac0{q a:Int}{X:Option D}{c c':aa}{v2 v4 v:Option D}(ba:-4611686018427387904<=a+1/\a+1<4611686018427387904)(bq:-4611686018427387904<=q/\q<4611686018427387904)(h:b8 (λ_=>True) (aA 4) qb (aO (a+1) q) [ζ (.int q),X,v2,ζ (.int a),v4] c=.ok (.nx [ζ (.int q),X,v2,ζ (.int a),v]) c') :
  qa [ζ (.int q),X,v2,ζ (.int a),v4] c=.ok (.nx [ζ (.int q),X,v2,ζ (.int a),v]) c':=by
 unfold qa;simp only[gy,nA,bE,cJ,br,dY,gz,gs,bB,R.aB,jG];rw[if_pos ⟨by omega,by omega,by omega,by omega⟩]
 exact h
def acX{X:D}{M:List (List Int)}{m:Nat}{c:aa}(hX:d7 c X=ζ (dB M))(hM:m<=M.length)(hs:∀l∈M,l.length<1000)(hm:m<64) :
  ∃ps u v,dN m ps/\b8 (λ_=>True) (aA 3) qa (aO 0 (m:Int)) [ζ (.int (m:Int)),ζ X,ζ (.ref c.length),η,η] (c++[.lst []])=.ok (.nx [ζ (.int (m:Int)),ζ X,ζ (.ref c.length),u,v]) (c++[.lst (ps.map aL)]):=by
 have hlen:(aO 0 (m:Int)).length=m:=by rw[dP];omega
 obtain⟨e',c',⟨ps',u,v,rfl,rfl,g9,hl'⟩,hf⟩:=qI (g:=aA 3) (s:=qa) (λk e c'=>∃ps' u v,e=[ζ (.int (m:Int)),ζ X,ζ (.ref c.length),u,v]/\c'=c++[.lst (ps'.map aL)]/\dN m ps'/\ps'.length<=k*m)
  (aO 0 (m:Int)) 0 [ζ (.int (m:Int)),ζ X,ζ (.ref c.length),η,η] (c++[.lst []]) ⟨[],η,η,rfl,rfl,λp hp=>(by cases hp),by simp⟩ (λi x hx e c' ⟨ps1,u,v,he,hc,hp1,hl1⟩=>by
   subst he;subst hc;have hi:i<(aO 0 (m:Int)).length:=(an7.mp hx).1;obtain⟨hlt,rfl⟩:=ki hx;rw[apI];rw[aog]at hl1 ⊢;have hb:i*m<=64*64:=apk (by omega) (by omega)
   obtain⟨ps2,w,hp2,hl2,h2⟩:=acY (a:=i) hX hM hs hp1 (by omega) (ζ (.int (m:Int))) v
   exact⟨_,_,_,_,rfl,ac0 (by omega) (by omega) h2,ps2,_,_,rfl,rfl,hp2,by rw[apr];omega⟩)
 exact⟨ps',u,v,g9,hf⟩
def acZ{q:Int}{X:D}{c c3:aa}{u v:Option D}{l:List D}(b:-4611686018427387904<=q/\q<4611686018427387904)(hf:b8 (λ_=>True) (aA 3) qa (aO 0 q) [ζ (.int q),ζ X,ζ (.ref c.length),η,η] (c++[.lst []])=.ok (.nx [ζ (.int q),ζ X,ζ (.ref c.length),u,v]) (c++[.lst l])) :
  kE [.int q,X] c=.ok (.lst l) c:=by
 have hb':vz=aD (aH 2 (cU au)) (aD (bJ (bH (aq (ak 0) au)) (aA 3) qa) (aR (ak 2))):=rfl;have e0:(aH 2 (cU au)) [ζ (.int q),ζ X,η,η,η] c=.ok (.nx [ζ (.int q),ζ X,ζ (.ref c.length),η,η]) (c++[.lst []]):=by simp
 have e1:(bJ (bH (aq (ak 0) au)) (aA 3) qa) [ζ (.int q),ζ X,ζ (.ref c.length),η,η] (c++[.lst []])=.ok (.nx [ζ (.int q),ζ X,ζ (.ref c.length),u,v]) (c++[.lst l]):=by
  simp only[gy,gw,bE,br,gz,gs,bB,R.aB];rw[if_pos (by omega)]
  exact hf
 rw[kE,fL,hb'];have es:cF 5 [D.int q,X]=[ζ (.int q),ζ X,η,η,η]:=rfl;rw[es,bw e0,bw e1];simp[cA]
def MW{X:D}{M:List (List Int)}{m:Nat}{c:aa}(hX:d7 c X=ζ (dB M))(hM:m<=M.length)(hs:∀l∈M,l.length<1000)(hm:m<64):∃ps,dN m ps/\kE [.int (m:Int),X] c=.ok (.lst (ps.map aL)) c:=by
 obtain⟨ps,u,v,hp,hf⟩:=acX hX hM hs hm;exact⟨ps,hp,acZ (c3:=c) (by omega) hf⟩
def wA:ai:=(aM (av cH (aG 2 bu (aq (ak 1) (aq (dC (.int 2)) au))) (dC (.int 1))))
def CU{j n:Nat}{ps:List (Nat×Nat)}:∀(ks:List Nat) (v:Option D) (acc:List D) (c:aa),PW j n ps c ->
  ∃(ss:List Nat) (c':aa),PW j n ps c'/\(∀x∈ss,x∈ks)/\ss.length<=ks.length/\bz (λ_=>True) (aA 0) wA (ak 0) (ks.map λk:Nat=>.int (k:Int)) [v,ζ (.ref j)] acc c=.ok (acc++nD ss) c'
 |[],v,acc,c,hP=>⟨[],c,hP,λx hx=>(by cases hx),anU _,by simp⟩
 |k::ks,v,acc,c,hP=>by
  obtain⟨p,hp⟩:=hP.2.2.1;have ht:=take2 (cO:=2) hp (by decide) (by decide)
  have qF:=hP.turn (p/2)
  generalize c.set j (.lst [.int (p/2)])=c1 at ht qF
  have hT:wA [ζ (.int (k:Int)),ζ (.ref j)] c=.ok (decide (p % 2=1)) c1:=by
   unfold wA;simp only[ir,cJ,x_call,bE,br,gz,gs,dY,bB,R.aB,an4,aok,if_pos,ht];simp
  have h1:aA 0 (.int (k:Int)) [v,ζ (.ref j)] c=.ok [ζ (.int (k:Int)),ζ (.ref j)] c:=rfl;have h2:ak 0 [ζ (.int (k:Int)),ζ (.ref j)] c1=.ok (.int (k:Int)) c1:=rfl
  by_cases hq:p % 2=1
  ·obtain⟨ss,c',P',n',l',h'⟩:=CU ks (ζ (.int (k:Int))) (acc++[.int (k:Int)]) c1 qF;refine⟨k::ss,c',P',λx hx=>?_,by simp only[an4];omega,?_⟩
   ·rcases anW.mp hx with rfl|hx
    ·exact .head _
    ·exact .tail _ (n' x hx)
   ·rw[an8,iP,h1,R.aB,hT,R.aB,if_pos (decide_eq_true hq),h2,R.aB,h',aop];rfl
  ·obtain⟨ss,c',P',n',l',h'⟩:=CU ks (ζ (.int (k:Int))) acc c1 qF;refine⟨ss,c',P',λx hx=>.tail _ (n' x hx),by simp only[an4];omega,?_⟩
   rw[an8,iP,h1,R.aB,hT,R.aB,if_neg (by simpa using hq),h']
def rQ:af:=(bf (aq (ak 0) (aq (av cZ (av bx (ak 0) (ak 2)) (ak 1)) au)))
def pC(m s:Nat):List (Nat×Nat):=(ι m).map λk=>(k,(k+s) % m)
def Ug{m s:Nat}(h1:1<=s)(h2:s<m):dN m (pC m s):=λp hp=>by
 obtain⟨k,hk,rfl⟩:=aoa.mp hp;have hk:=aod.mp hk;refine⟨hk,arc _ (by omega),λe=>?_⟩
 dsimp only at e
 rcases aqk (k+s) m with q|q
 ·rw[aqv q]at e;omega
 ·rw[asv q,aqv (by omega)]at e;omega
def Uh{m s:Nat}(hm:1<=m)(c:aa):bz (λ_=>True) (aA 0) aZ rQ (aO 0 (m:Int)) [η,ζ (.int (m:Int)),ζ (.int (s:Int))] [] c=.ok ((pC m s).map aL) c:=by
 have h2:(2:Nat)<=ε:=cC (by decide)
 have:=oW (c:=c) (g:=aA 0) (t:=aZ) (a:=rQ) (λe=>∃v,e=[v,ζ (.int (m:Int)),ζ (.int (s:Int))]) (λ_=>θ) (λd=>match d with|.int k=>aL (k.toNat,(k.toNat+s) % m)|d=>d) (aO 0 (m:Int)) [η,ζ (.int (m:Int)),ζ (.int (s:Int))] [] ⟨_,rfl⟩ (λd hd e ⟨v,he⟩=>by
  subst he;obtain⟨k',rfl,k0,k1⟩:=oi hd;obtain⟨k,rfl⟩:=g7 k0;have hmod:cZ (.int ((k:Int)+(s:Int))) (.int (m:Int)) c=.ok (.int (((k+s) % m:Nat):Int)) c:=by
   rw[oh c (by omega)]
   congr 2
  refine⟨_,rfl,⟨_,rfl⟩,rfl,λ_=>?_⟩
  show rQ [ζ (.int (k:Int)),ζ (.int (m:Int)),ζ (.int (s:Int))] c=_;unfold rQ;simp only[j9,bE,br,gz,gs,cJ,jG,bB,R.aB,hmod,an4,aok];rw[if_pos h2];rfl)
 rw[this,an9,xS,zk]
 congr 1
 unfold pC;rw[aos];rfl
def rR:af:=(bA (bH (aq (ak 3) au)) [η,ζ 3,ζ 6] (aA 0) aZ rQ)
def Ue{q s:Int}{a0 a1 a2 a4 a5 a7 a8 a9 aX aY aT:Option D}{c:aa}{l:List D}(b:-4611686018427387904<=q/\q<4611686018427387904)(hl:(aO 0 q).length<ε)(h:bz (λ_=>True) (aA 0) aZ rQ (aO 0 q) [η,ζ (.int q),ζ (.int s)] [] c=.ok l c) :
  rR [a0,a1,a2,ζ (.int q),a4,a5,ζ (.int s),a7,a8,a9,aX,aY,aT] c=.ok (.lst l) c:=by
 unfold rR;simp only[ff,gw,bE,br,gz,gs,bB,R.aB];rw[if_pos (by omega)]
 simp only[R.aB];rw[if_pos hl];have:dH [η,ζ 3,ζ 6] [a0,a1,a2,ζ (D.int q),a4,a5,ζ (.int s),a7,a8,a9,aX,aY,aT]=[η,ζ (.int q),ζ (.int s)]:=rfl;rw[this,h];rfl
def Kn{j n m:Nat}(hm:1<=m)(hm':m<64){a1 a2 a5 a7 a8 a9 aX aY aT:Option D}:∀(ss:List Nat) (ps:List (Nat×Nat)) (v:Option D) (c:aa),(∀s∈ss,1<=s/\s<m)->PW j n ps c->dN m ps->ps.length+ss.length*m<=90000 ->
  ∃ps' c' v',PW j n ps' c'/\dN m ps'/\b8 (λ_=>True) (aA 6) (cW (dw (ak 4) rR)) (nD ss) [ζ (.ref j),a1,a2,ζ (.int (m:Int)),ζ (.ref n),a5,v,a7,a8,a9,aX,aY,aT] c=.ok (.nx [ζ (.ref j),a1,a2,ζ (.int (m:Int)),ζ (.ref n),a5,v',a7,a8,a9,aX,aY,aT]) c'
 |[],ps,v,c,_,hP,hp,_=>⟨ps,c,v,hP,hp,by simp⟩
 |s::ss,ps,v,c,hss,hP,hp,hl=>by
  have hs:=cC (n:=1000) (by decide)
  obtain⟨s1,s2⟩:=hss s (.head _);have hc:=Ue (a0:=ζ (.ref j)) (a1:=a1) (a2:=a2) (a4:=ζ (.ref n)) (a5:=a5) (a7:=a7) (a8:=a8) (a9:=a9) (aX:=aX) (aY:=aY) (aT:=aT) (q:=(m:Int)) (s:=(s:Int)) (c:=c) (by omega) (by rw[dP];omega) (Uh hm c)
  have hwl:(pC m s).length=m:=by simp[pC]
  rw[an4,apr]at hl;have hx:=Bc (j:=j) (n:=n) (ps:=ps) (qs:=pC m s) (dc:=rR) (e:=[ζ (.ref j),a1,a2,ζ (.int (m:Int)),ζ (.ref n),a5,ζ (.int (s:Int)),a7,a8,a9,aX,aY,aT]) rfl hc hP (by omega)
  obtain⟨ps',c',v',P',g9,h'⟩:=Kn hm hm' (a1:=a1) (a2:=a2) (a5:=a5) (a7:=a7) (a8:=a8) (a9:=a9) (aX:=aX) (aY:=aY) (aT:=aT) ss (ps++pC m s) (ζ (.int (s:Int))) _ (λz hz=>hss z (.tail _ hz)) hP.plus (λp hq=>(aou.mp hq).elim (hp p) (Ug s1 s2 p)) (by rw[aon];omega)
  refine⟨ps',c',v',P',g9,?_⟩;have hg:aA 6 (.int (s:Int)) [ζ (.ref j),a1,a2,ζ (.int (m:Int)),ζ (.ref n),a5,v,a7,a8,a9,aX,aY,aT] c=.ok [ζ (.ref j),a1,a2,ζ (.int (m:Int)),ζ (.ref n),a5,ζ (.int (s:Int)),a7,a8,a9,aX,aY,aT] c:=rfl;show b8 (λ_=>True) (aA 6) (cW (dw (ak 4) rR)) (.int (s:Int)::nD ss) _ c=_
  rw[gD,hg,R.aB,hx];exact h'
def yS{t:ai}{E:List (Option D)}{a m:Nat}{c:aa}(ha:a<m)(ht:∀k:Nat,a<k->k<m->∃b,t (ζ (.int (k:Int))::ζ (.int (a:Int))::E) c=.ok b c):∀(ks:List Nat) (v:Option D) (acc:List D),(∀k∈ks,a<k/\k<m) ->
  ∃qs:List (Nat×Nat),dN m qs/\qs.length<=ks.length/\bz (λ_=>True) (aA 0) t (bf (aq (ak 1) (aq (ak 0) au))) (ks.map λk:Nat=>.int (k:Int)) (v::ζ (.int (a:Int))::E) acc c=.ok (acc++qs.map aL) c
 |[],v,acc,_=>⟨[],λp hp=>(by cases hp),anU _,by simp⟩
 |k::ks,v,acc,hk=>by
  have hkk:=hk k (.head _);have h2:(2:Nat)<=ε:=cC (by decide)
  obtain⟨b,hb⟩:=ht k hkk.1 hkk.2;have h1:aA 0 (.int (k:Int)) (v::ζ (.int (a:Int))::E) c=.ok (ζ (.int (k:Int))::ζ (.int (a:Int))::E) c:=rfl;have hE:(bf (aq (ak 1) (aq (ak 0) au))) (ζ (.int (k:Int))::ζ (.int (a:Int))::E) c=.ok (aL (a,k)) c:=by
   simp only[j9,bE,br,gz,gs,bB,R.aB,an4,aok];rw[if_pos h2];rfl
  cases b with
  |true =>
   obtain⟨qs,n',l',h'⟩:=yS ha ht ks (ζ (.int (k:Int))) (acc++[aL (a,k)]) (λz hz=>hk z (.tail _ hz))
   refine⟨(a,k)::qs,λq hq=>?_,by simp only[an4];omega,?_⟩
   ·rcases anW.mp hq with rfl|hq
    ·exact⟨ha,hkk.2,an0 hkk.1⟩
    ·exact n' q hq
   ·rw[an8,iP,h1,R.aB,hb,R.aB,if_pos rfl,hE,R.aB,h',aop];rfl
  |false =>
   obtain⟨qs,n',l',h'⟩:=yS ha ht ks (ζ (.int (k:Int))) acc (λz hz=>hk z (.tail _ hz))
   refine⟨qs,n',by simp only[an4];omega,?_⟩
   rw[an8,iP,h1,R.aB,hb,R.aB,if_neg (by decide),h']
def Jo{t:ai}{m:Nat}{c:aa}{st:aa->Prop}(hst:st c)(ht:∀a b:Nat,∃x,t [ζ (.int (a:Int)),ζ (.int (b:Int))] c=.ok x c):∀(ps:List (Nat×Nat)) (v w:Option D) (acc:List D),dN m ps ->
  ∃qs:List (Nat×Nat),dN m qs/\bz st (dI 2 (bR (aA 0) (bR (aA 1) dQ))) t (bf (aq (ak 0) (aq (ak 1) au))) (ps.map aL) [v,w] acc c=.ok (acc++qs.map aL) c
 |[],v,w,acc,_=>⟨[],λp hp=>(by cases hp),by unfold bz;simp[hst]⟩
 |p::ps,v,w,acc,hp=>by
  have h2:(2:Nat)<=ε:=cC (by decide)
  obtain⟨b,hb⟩:=ht p.1 p.2;have h1:(dI 2 (bR (aA 0) (bR (aA 1) dQ))) (aL p) [v,w] c=.ok [ζ (.int (p.1:Int)),ζ (.int (p.2:Int))] c:=by simp[aL]
  have hE:(bf (aq (ak 0) (aq (ak 1) au))) [ζ (.int (p.1:Int)),ζ (.int (p.2:Int))] c=.ok (aL p) c:=by
   simp only[j9,bE,br,gz,gs,bB,R.aB,an4,aok];rw[if_pos h2];rfl
  have g9:dN m ps:=λq hq=>hp q (.tail _ hq)
  rw[an8];unfold bz;rw[if_pos hst,h1,R.aB,hb,R.aB];cases b with
  |true =>
   obtain⟨qs,n',h'⟩:=Jo hst ht ps (ζ (.int (p.1:Int))) (ζ (.int (p.2:Int))) (acc++[aL p]) g9;refine⟨p::qs,λq hq=>?_,?_⟩
   ·rcases anW.mp hq with rfl|hq
    ·exact hp _ (.head _)
    ·exact n' q hq
   ·rw[if_pos rfl,hE,R.aB,h',aop];rfl
  |false =>
   obtain⟨qs,n',h'⟩:=Jo hst ht ps (ζ (.int (p.1:Int))) (ζ (.int (p.2:Int))) acc g9;exact⟨qs,n',by rw[if_neg (by decide),h']⟩
def O2{j n m:Nat}{g:Gd}{B:ah}{E:Option D->Ev}(hm:m<64)(hE:∀x v c,g x (E v) c=.ok (E (ζ x)) c)
  (hB:∀(a:Nat) (ps:List (Nat×Nat)) (c:aa),a<m->PW j n ps c->ps.length<=64*64->∃(qs:List (Nat×Nat)) (c':aa),dN m qs/\qs.length<=m/\PW j n (ps++qs) c'/\B (E (ζ (.int (a:Int)))) c=.ok (.nx (E (ζ (.int (a:Int))))) c')
  {c:aa}(hP:PW j n [] c) (v:Option D):∃ps' c' v',PW j n ps' c'/\dN m ps'/\ps'.length<=64*64/\b8 (λ_=>True) g B (aO 0 (m:Int)) (E v) c=.ok (.nx (E v')) c':=by
 obtain⟨e',c',⟨ps',v',rfl,P',g9,hl'⟩,hf⟩:=qI (g:=g) (s:=B) (λk e c=>∃ps' v',e=E v'/\PW j n ps' c/\dN m ps'/\ps'.length<=k*m)
  (aO 0 (m:Int)) 0 (E v) c ⟨[],v,rfl,hP,λp hp=>(by cases hp),by simp⟩ (λi x hx e c ⟨ps1,v1,he,P1,hp1,hl1⟩=>by
   subst he;have hi:i<(aO 0 (m:Int)).length:=(an7.mp hx).1;rw[dP]at hi;obtain⟨hlt,rfl⟩:=ki hx;rw[apI];rw[aog]at hl1 ⊢;have hb:i*m<=64*64:=apk (by omega) (by omega)
   obtain⟨qs,c2,hq,hql,P2,h2⟩:=hB i ps1 c (by omega) P1 (by omega)
   refine⟨_,_,_,_,hE _ _ _,h2,ps1++qs,_,rfl,P2,λp hp=>(aou.mp hp).elim (hp1 p) (hq p),?_⟩
   rw[aon,apr];omega)
 have hb:(aO 0 (m:Int)).length*m<=64*64:=apk (by rw[dP];omega) (by omega)
 rw[aog]at hl';exact⟨ps',c',v',P',g9,by omega,hf⟩
def v9:ai:=(aM (av inD (av fO (ak 0) (ak 1)) (bf (aq (dC (.int 1)) (aq (dC (.int 2)) (aq (dC (.int 4)) au))))))
def afU(x:Int)(c:aa):inD (.int x) (.tup [.int 1,.int 2,.int 4]) c=.ok (.bl ([PyData.int 1,.int 2,.int 4].any λz=>z.eqv (.int x))) c:=by
 have h1:fy c (.int x)=ζ (.int x):=rfl;have h2:fy c (.tup [.int 1,.int 2,.int 4])=ζ (.tuple [.int 1,.int 2,.int 4]):=by
  simp[fy,d8,gS]
 unfold inD;rw[h1,h2];dsimp only;rw[if_pos (by simp[PyData.depth])]
def TJ{a k:Nat}(c:aa):∃b,v9 [ζ (.int (k:Int)),ζ (.int (a:Int))] c=.ok b c:=by
 have h3:(3:Nat)<=ε:=cC (by decide)
 refine⟨[PyData.int 1,.int 2,.int 4].any λz=>z.eqv (.int ((k:Int)-(a:Int))),?_⟩
 unfold v9;simp only[ir,cJ,br,gz,gs,JV,j9,bE,dY,bB,R.aB,an4,aok];rw[if_pos h3];simp only[R.aB,afU]
def yM:af:=(bA (eV (aq (av bx (ak 9) (dC (.int 1))) (aq (ak 3) au))) [η,ζ 9] (aA 0) v9 (bf (aq (ak 1) (aq (ak 0) au))))
def TL{q a:Int}{a0 a1 a2 a4 a5 a6 a7 a8 aX aY aT:Option D}{c:aa}{l:List D}(ba:-4611686018427387904<=a+1/\a+1<4611686018427387904)(b:-4611686018427387904<=q/\q<4611686018427387904)(hl:(aO (a+1) q).length<ε)(h:bz (λ_=>True) (aA 0) v9 (bf (aq (ak 1) (aq (ak 0) au))) (aO (a+1) q) [η,ζ (.int a)] [] c=.ok l c) :
  yM [a0,a1,a2,ζ (.int q),a4,a5,a6,a7,a8,ζ (.int a),aX,aY,aT] c=.ok (.lst l) c:=by
 unfold yM;simp only[ff,nA,bE,cJ,br,dY,gz,gs,bB,R.aB,jG];rw[if_pos ⟨by omega,by omega,by omega,by omega⟩]
 simp only[R.aB];rw[if_pos hl];have:dH [η,ζ 9] [a0,a1,a2,ζ (D.int q),a4,a5,a6,a7,a8,ζ (.int a),aX,aY,aT]=[η,ζ (.int a)]:=rfl;rw[this,h];rfl
def TM{j n m:Nat}(hm:m<64){a1 a2 a5 a6 a7 a8 aX aY aT:Option D}{c:aa}(hP:PW j n [] c)(v:Option D):∃ps' c' v',PW j n ps' c'/\dN m ps'/\ps'.length<=64*64 /\
  b8 (λ_=>True) (aA 9) (cW (dw (ak 4) yM)) (aO 0 (m:Int)) [ζ (.ref j),a1,a2,ζ (.int (m:Int)),ζ (.ref n),a5,a6,a7,a8,v,aX,aY,aT] c=.ok (.nx [ζ (.ref j),a1,a2,ζ (.int (m:Int)),ζ (.ref n),a5,a6,a7,a8,v',aX,aY,aT]) c' :=
 O2 (E:=λv=>[ζ (.ref j),a1,a2,ζ (.int (m:Int)),ζ (.ref n),a5,a6,a7,a8,v,aX,aY,aT]) hm (λ_ _ _=>rfl) (λa ps c ha hP hl=>by
  have hs:=cC (n:=1000) (by decide)
  obtain⟨qs,hq,ql,h⟩:=yS (t:=v9) (E:=[]) (c:=c) ha (λk _ _=>TJ c) (List.range' (a+1) (m-(a+1))) η [] (λk hk=>by
   obtain⟨i,hi,rfl⟩:=aqu.mp hk;omega)
  rw[<-zj,an9]at h;rw[apv]at ql;have hc:=TL (a0:=ζ (.ref j)) (a1:=a1) (a2:=a2) (a4:=ζ (.ref n)) (a5:=a5) (a6:=a6) (a7:=a7) (a8:=a8) (aX:=aX) (aY:=aY) (aT:=aT) (by omega) (by omega) (by rw[dP];omega) h
  exact⟨qs,_,hq,by omega,hP.plus,Bc (j:=j) rfl hc hP (by omega)⟩) hP v
def wc:ai:=(aM (av inD (av cZ (av fO (ak 0) (ak 1)) (ak 3)) (ak 2)))
def TU{a k:Nat}{q:Int}(hq:0<q)(l:List Int)(c:aa):∃b,wc [ζ (.int (k:Int)),ζ (.int (a:Int)),ζ (.lst (l.map D.int)),ζ (.int q)] c=.ok b c:=by
 obtain⟨b,hb⟩:=Od l (((k:Int)-(a:Int)) % q) c;have hm:cZ (.int ((k:Int)-(a:Int))) (.int q) c=.ok (.int (((k:Int)-(a:Int)) % q)) c:=oh c hq;refine⟨b,?_⟩;unfold wc;simp only[ir,cJ,br,gz,gs,JV,R.aB,hm,hb]
def yN:af:=(bA (eV (aq (av bx (ak 9) (dC (.int 1))) (aq (ak 3) au))) [η,ζ 9,ζ 12,ζ 3] (aA 0) wc (bf (aq (ak 1) (aq (ak 0) au))))
def TV{q a:Int}{a0 a1 a2 a4 a5 a6 a7 a8 aX aY aT:Option D}{c:aa}{l:List D}(ba:-4611686018427387904<=a+1/\a+1<4611686018427387904)(b:-4611686018427387904<=q/\q<4611686018427387904)(hl:(aO (a+1) q).length<ε)(h:bz (λ_=>True) (aA 0) wc (bf (aq (ak 1) (aq (ak 0) au))) (aO (a+1) q) [η,ζ (.int a),aT,ζ (.int q)] [] c=.ok l c) :
  yN [a0,a1,a2,ζ (.int q),a4,a5,a6,a7,a8,ζ (.int a),aX,aY,aT] c=.ok (.lst l) c:=by
 unfold yN;simp only[ff,nA,bE,cJ,br,dY,gz,gs,bB,R.aB,jG];rw[if_pos ⟨by omega,by omega,by omega,by omega⟩]
 simp only[R.aB];rw[if_pos hl];have:dH [η,ζ 9,ζ 12,ζ 3] [a0,a1,a2,ζ (D.int q),a4,a5,a6,a7,a8,ζ (.int a),aX,aY,aT]=[η,ζ (.int a),aT,ζ (.int q)]:=by cases aT<;>rfl
 rw[this,h];rfl
def TX{j n m:Nat}(h1:1<=m)(hm:m<64){a1 a2 a5 a6 a7 a8 aX aY:Option D}(sq:List Int){c:aa}(hP:PW j n [] c)(v:Option D):∃ps' c' v',PW j n ps' c'/\dN m ps'/\ps'.length<=64*64 /\
  b8 (λ_=>True) (aA 9) (cW (dw (ak 4) yN)) (aO 0 (m:Int)) [ζ (.ref j),a1,a2,ζ (.int (m:Int)),ζ (.ref n),a5,a6,a7,a8,v,aX,aY,ζ (.lst (sq.map D.int))] c=.ok (.nx [ζ (.ref j),a1,a2,ζ (.int (m:Int)),ζ (.ref n),a5,a6,a7,a8,v',aX,aY,ζ (.lst (sq.map D.int))]) c' :=
 O2 (E:=λv=>[ζ (.ref j),a1,a2,ζ (.int (m:Int)),ζ (.ref n),a5,a6,a7,a8,v,aX,aY,ζ (.lst (sq.map D.int))]) hm (λ_ _ _=>rfl) (λa ps c ha hP hl=>by
  have hs:=cC (n:=1000) (by decide)
  obtain⟨qs,hq,ql,h⟩:=yS (t:=wc) (E:=[ζ (.lst (sq.map D.int)),ζ (.int (m:Int))]) (c:=c) ha (λk _ _=>TU (by omega) sq c) (List.range' (a+1) (m-(a+1))) η [] (λk hk=>by
   obtain⟨i,hi,rfl⟩:=aqu.mp hk;omega)
  rw[<-zj,an9]at h;rw[apv]at ql;have hc:=TV (a0:=ζ (.ref j)) (a1:=a1) (a2:=a2) (a4:=ζ (.ref n)) (a5:=a5) (a6:=a6) (a7:=a7) (a8:=a8) (aX:=aX) (aY:=aY) (aT:=ζ (.lst (sq.map D.int))) (by omega) (by omega) (by rw[dP];omega) h
  exact⟨qs,_,hq,by omega,hP.plus,Bc (j:=j) rfl hc hP (by omega)⟩) hP v
def jE(j n:Nat)(most:Int)(B:ah)(E:Ev)(c:aa):Prop :=
 ∃(m:Nat) (ps:List (Nat×Nat)) (X:D) (c':aa) (E':Ev),1<=m/\(m:Int)<=most/\dN m ps/\fH j n (c'.take n)/\E'[3]? = ζ (ζ (.int (m:Int)))/\E'[4]? = ζ (ζ X)/\((∃k,X=.ref k/\c'[k]? = ζ (.lst (ps.map aL)))\/X=.lst (ps.map aL))/\B E c=.ok (.nx E') c'
def jE.yes{j n:Nat}{most:Int}{s s':ah}{t:ai}{E:Ev}{c:aa}(ht:t E c=.ok θ c)(h:jE j n most s E c):jE j n most (bh t s s') E c:=by
 obtain⟨m,ps,X,c',E',h1,h2,h3,h4,h5,h6,h7,h8⟩:=h;exact⟨m,ps,X,c',E',h1,h2,h3,h4,h5,h6,h7,by rw[gx,ht,R.aB,if_pos rfl];exact h8⟩
def jE.no{j n:Nat}{most:Int}{s s':ah}{t:ai}{E:Ev}{c:aa}(ht:t E c=.ok Δ c)(h:jE j n most s' E c):jE j n most (bh t s s') E c:=by
 obtain⟨m,ps,X,c',E',h1,h2,h3,h4,h5,h6,h7,h8⟩:=h;exact⟨m,ps,X,c',E',h1,h2,h3,h4,h5,h6,h7,by rw[gx,ht,R.aB,if_neg (by decide)];exact h8⟩
def PW.take{j n:Nat}{ps:List (Nat×Nat)}{c:aa}{cO:Int}(h:PW j n ps c)(h0:0<cO)(h1:cO<1073741824):∃(x:Int) (c':aa),0<=x/\x<cO/\PW j n ps c'/\bu [.ref j,.int cO] c=.ok (.int x) c':=by
 obtain⟨p,hp⟩:=h.2.2.1;exact⟨p % cO,_,aqr _ (by omega),aqs _ h0,h.turn _,take2 hp h0 h1⟩
def XC(k:Nat):aO 1 ((k:Int)+1)=(List.range' 1 k).map λi:Nat=>.int (i:Int):=by
 unfold aO;rw[show((k:Int)+1-1).toNat=k by omega,asu,aos]
 refine aoI λi _=>?_
 show D.int _=D.int _
 congr 1
def CF:ah:=(aH 5 (bA (eV (aq (dC (.int 1)) (aq (av bx (av fu (ak 3) (dC (.int 2))) (dC (.int 1))) au))) [η,ζ 0] (aA 0) wA (ak 0)))
def Ui{q r:Int}{a0 a1 a2 a4 a5 a6 a7 a8 a9 aX aY aT:Option D}{c c':aa}{l:List D}(hr:fu (.int q) (.int 2) c=.ok (.int r) c)(b:-4611686018427387904<=r+1/\r+1<4611686018427387904)(hl:(aO 1 (r+1)).length<ε)(h:bz (λ_=>True) (aA 0) wA (ak 0) (aO 1 (r+1)) [η,a0] [] c=.ok l c') :
  CF [a0,a1,a2,ζ (.int q),a4,a5,a6,a7,a8,a9,aX,aY,aT] c=.ok (.nx [a0,a1,a2,ζ (.int q),a4,ζ (.lst l),a6,a7,a8,a9,aX,aY,aT]) c':=by
 unfold CF;simp only[fK,ff,nA,bE,cJ,br,dY,gz,gs,bB,R.aB,hr,jG];rw[if_pos ⟨by omega,by omega,by omega,by omega⟩]
 simp only[R.aB];rw[if_pos hl];have:dH [η,ζ 0] [a0,a1,a2,ζ (D.int q),a4,a5,a6,a7,a8,a9,aX,aY,aT]=[η,a0]:=by cases a0<;>rfl
 rw[this,h];rfl
def CD:ah:=aD CF (bJ (cy (ak 5)) (aA 6) (cW (dw (ak 4) rR)))
def Tu{j n m:Nat}{most:Int}{c:aa}{a2:Option D}(hm:1<=m)(hm':(m:Int)<=most)(h6:most<60)(hP:PW j n [] c):jE j n most CD [ζ (.ref j),ζ (.int most),a2,ζ (.int (m:Int)),ζ (.ref n),η,η,η,η,η,η,η,η] c:=by
 have hs:=cC (n:=1000) (by decide)
 obtain⟨ss,c1,P1,hss,hsl,h1⟩:=CU (j:=j) (n:=n) (ps:=[]) (List.range' 1 (m/2)) η [] c hP;rw[<-XC,an9]at h1;rw[apv]at hsl;have hd:fu (.int (m:Int)) (.int 2) c=.ok (.int ((m/2:Nat):Int)) c:=by
  rw[uN c (by decide) (by decide),show((m/2:Nat):Int)=(m:Int)/2 by omega]
 have e0:=Ui (a1:=ζ (.int most)) (a2:=a2) (a4:=ζ (.ref n)) (a5:=η) (a6:=η) (a7:=η) (a8:=η) (a9:=η) (aX:=η) (aY:=η) (aT:=η) hd (by omega) (by rw[dP];omega) h1
 have hb:ss.length*m<=64*64:=apk (by omega) (by omega)
 obtain⟨ps,c2,v,P2,hp2,h2⟩:=Kn (j:=j) (n:=n) hm (by omega) (a1:=ζ (.int most)) (a2:=a2) (a5:=ζ (.lst (nD ss))) (a7:=η) (a8:=η) (a9:=η) (aX:=η) (aY:=η) (aT:=η) ss [] η c1 (λs hs=>by
  obtain⟨i,hi,rfl⟩:=aqu.mp (hss s hs);omega) P1 (λp hp=>(by cases hp)) (by simp only[aok];omega)
 have xJ:cy (ak 5) [ζ (.ref j),ζ (.int most),a2,ζ (.int (m:Int)),ζ (.ref n),ζ (.lst (nD ss)),η,η,η,η,η,η,η] c1=.ok ⟨nD ss,λ_=>True⟩ c1:=rfl
 refine⟨m,ps,.ref n,c2,[ζ (.ref j),ζ (.int most),a2,ζ (.int (m:Int)),ζ (.ref n),ζ (.lst (nD ss)),v,η,η,η,η,η,η],hm,hm',hp2,P2.tV,rfl,rfl,.inl ⟨n,rfl,P2.2.2.2⟩,?_⟩;unfold CD;rw[bw e0,gy,xJ];exact h2
def ac6(M:List (List Int)):bI (dB M)=θ:=iy.mpr λd hd=>by
 obtain⟨l,_,rfl⟩:=aoa.mp hd;unfold noRef;refine iy.mpr λd hd=>?_
 obtain⟨i,_,rfl⟩:=aoa.mp hd;rfl
def aee(M N:List (List Int)):dB (M++N)=dB M++dB N:=by simp[dB]
def Nz(M:List (List Int)):(dB M).length=M.length:=by simp[dB]
def ah4{c:aa}{xs ys:List D}{e:Ev}{dc:af}{i:Nat}(hi:e[i]? = ζ (ζ (.ref c.length)))(hc:dc e (c++[.lst xs])=.ok (.lst ys) (c++[.lst xs]))(hl:xs.length+ys.length<=100000)(nr:bI ys=θ) :
  cW (dw (ak i) dc) e (c++[.lst xs])=.ok (.nx e) (c++[.lst (xs++ys)]):=by
 have hs:100000<=ε:=by decide
 have hg:(c++[Cell.lst xs])[c.length]? = ζ (.lst xs):=by simp
 have agg:(c++[Cell.lst xs]).set c.length (.lst (xs++ys))=c++[.lst (xs++ys)]:=by simp
 have:dw (ak i) dc e (c++[.lst xs])=.ok .aF (c++[.lst (xs++ys)]):=by
  unfold dw;simp only[br,hi,R.aB,hc];rw[hg];dsimp only;rw[if_pos ⟨by omega,nr⟩,agg]
 rw[rM,this];rfl
def pB:af:=(bA (eV (aq (av bx (ak 9) (dC (.int 1))) (aq (ak 7) au))) [η,ζ 9] (aA 0) aZ (cV (aq (ak 1) (aq (ak 0) au))))
def Kl{a:Nat}{c:aa}:∀(ks:List Nat) (v:Option D) (acc:List D),bz (λ_=>True) (aA 0) aZ (cV (aq (ak 1) (aq (ak 0) au))) (ks.map λk:Nat=>.int (k:Int)) [v,ζ (.int (a:Int))] acc c=.ok (acc++dB (ks.map λk:Nat=>[(a:Int),(k:Int)])) c
 |[],v,acc=>by simp[dB]
 |k::ks,v,acc=>by
  have h2:(2:Nat)<=ε:=cC (by decide)
  have h1:aA 0 (.int (k:Int)) [v,ζ (.int (a:Int))] c=.ok [ζ (.int (k:Int)),ζ (.int (a:Int))] c:=rfl;have hE:(cV (aq (ak 1) (aq (ak 0) au))) [ζ (.int (k:Int)),ζ (.int (a:Int))] c=.ok (.lst ([(a:Int),(k:Int)].map D.int)) c:=by
   simp only[rL,bE,br,gz,gs,bB,R.aB,an4,aok];rw[if_pos h2];rfl
  rw[an8,iP,h1,R.aB,rK,R.aB,if_pos rfl,hE,R.aB,Kl ks,aop];rfl
def T8{q a:Int}{a0 a1 a2 a3 a4 a5 a6 a8 aX aY aT:Option D}{c:aa}{l:List D}(ba:-4611686018427387904<=a+1/\a+1<4611686018427387904)(b:-4611686018427387904<=q/\q<4611686018427387904)(hl:(aO (a+1) q).length<ε)(h:bz (λ_=>True) (aA 0) aZ (cV (aq (ak 1) (aq (ak 0) au))) (aO (a+1) q) [η,ζ (.int a)] [] c=.ok l c) :
  pB [a0,a1,a2,a3,a4,a5,a6,ζ (.int q),a8,ζ (.int a),aX,aY,aT] c=.ok (.lst l) c:=by
 unfold pB;simp only[ff,nA,bE,cJ,br,dY,gz,gs,bB,R.aB,jG];rw[if_pos ⟨by omega,by omega,by omega,by omega⟩]
 simp only[R.aB];rw[if_pos hl];have:dH [η,ζ 9] [a0,a1,a2,a3,a4,a5,a6,ζ (D.int q),a8,ζ (.int a),aX,aY,aT]=[η,ζ (.int a)]:=rfl;rw[this,h];rfl
def T9{t:Nat}(ht:2<=t)(ht':t<=5){a0 a1 a2 a3 a4 a5 a6 aX aY aT:Option D}(c:aa):∃(M:List (List Int)) (v:Option D),1<=M.length/\M.length<=25/\(∀l∈M,l.length<1000) /\
  b8 (λ_=>True) (aA 9) (cW (dw (ak 8) pB)) (aO 0 (t:Int)) [a0,a1,a2,a3,a4,a5,a6,ζ (.int (t:Int)),ζ (.ref c.length),η,aX,aY,aT] (c++[.lst []])=.ok (.nx [a0,a1,a2,a3,a4,a5,a6,ζ (.int (t:Int)),ζ (.ref c.length),v,aX,aY,aT]) (c++[.lst (dB M)]):=by
 have hs:=cC (n:=1000) (by decide)
 have hlen:(aO 0 (t:Int)).length=t:=by rw[dP];omega
 obtain⟨e',c',⟨M,v,rfl,rfl,h1,h2,h3⟩,hf⟩:=qI (g:=aA 9) (s:=cW (dw (ak 8) pB)) (λk e c'=>∃(M:List (List Int)) (v:Option D),e=[a0,a1,a2,a3,a4,a5,a6,ζ (.int (t:Int)),ζ (.ref c.length),v,aX,aY,aT]/\c'=c++[.lst (dB M)]/\(1<=k->1<=M.length)/\M.length<=k*t/\(∀l∈M,l.length<1000))
  (aO 0 (t:Int)) 0 [a0,a1,a2,a3,a4,a5,a6,ζ (.int (t:Int)),ζ (.ref c.length),η,aX,aY,aT] (c++[.lst []]) ⟨[],η,rfl,rfl,λh=>absurd h (by omega),by simp,λl hl=>(by cases hl)⟩ (λi x hx e c' ⟨M,v,he,hc,g1,g2,g3⟩=>by
   subst he;subst hc;have hi:=(an7.mp hx).1;obtain⟨hlt,rfl⟩:=ki hx;rw[apI];rw[aog]at g1 g2 ⊢;rw[hlen]at hi;have hb:i*t<=5*5:=apk (by omega) ht'
   have hC:=Kl (a:=i) (c:=c++[.lst (dB M)]) (List.range' (i+1) (t-(i+1))) η [];rw[<-zj,an9]at hC;have xH:=T8 (a0:=a0) (a1:=a1) (a2:=a2) (a3:=a3) (a4:=a4) (a5:=a5) (a6:=a6) (a8:=ζ (.ref c.length)) (aX:=aX) (aY:=aY) (aT:=aT) (by omega) (by omega) (by rw[dP];omega) hC
   have hx:=ah4 (i:=8) (e:=[a0,a1,a2,a3,a4,a5,a6,ζ (.int (t:Int)),ζ (.ref c.length),ζ (.int (i:Int)),aX,aY,aT]) rfl xH (by rw[Nz,Nz,an2,apv];omega) (ac6 _)
   rw[<-aee]at hx;refine⟨_,_,_,_,rfl,hx,_,_,rfl,rfl,λ_=>?_,?_,λl hl=>?_⟩
   ·rw[aon,an2,apv]
    rcases ase i with q|q
    ·omega
    ·have:=g1 q;omega
   ·rw[aon,an2,apv,apr];omega
   ·rcases aou.mp hl with h|h
    ·exact g3 l h
    ·obtain⟨k,_,rfl⟩:=aoa.mp h;simp)
 rw[hlen,aog]at h1 h2;have hb:t*t<=5*5:=apk ht' ht';exact⟨M,v,h1 (by omega),by omega,h3,hf⟩
def CC:ah:=aD (aH 7 (av aE (cV (aq (dC (.int 2)) (aq (dC (.int 3)) (aq (dC (.int 4)) (aq (dC (.int 5)) au))))) (aG 2 bu (aq (ak 0) (aq (dC (.int 4)) au))))) (aD (aH 8 (cU au)) (aD (bJ (bH (aq (ak 7) au)) (aA 9) (cW (dw (ak 8) pB))) (aD (aH 3 (aJ fR (aq (aJ bC (aq (ak 8) au)) (aq (ak 1) au)))) (aH 4 (aG 2 kE (aq (ak 3) (aq (ak 8) au)))))))
def Uc{x t:Int}{j:Nat}{a1 a2 a3 a4 a5 a6 a7 a8 a9 aX aY aT:Option D}{c c1:aa}(h:bu [.ref j,.int 4] c=.ok (.int x) c1)(ht:cD [D.int 2,.int 3,.int 4,.int 5] x=ζ (.int t)) :
  (aH 7 (av aE (cV (aq (dC (.int 2)) (aq (dC (.int 3)) (aq (dC (.int 4)) (aq (dC (.int 5)) au))))) (aG 2 bu (aq (ak 0) (aq (dC (.int 4)) au))))) [ζ (.ref j),a1,a2,a3,a4,a5,a6,a7,a8,a9,aX,aY,aT] c=.ok (.nx [ζ (.ref j),a1,a2,a3,a4,a5,a6,ζ (.int t),a8,a9,aX,aY,aT]) c1:=by
 have h4:(4:Nat)<=ε:=cC (by decide)
 simp only[fK,cJ,rL,bE,dY,bB,x_call,br,gz,gs,R.aB,an4,aok];rw[if_pos h4];simp only[R.aB,if_pos,h,ig,ht];rfl
def Ua{q:Int}{a0 a1 a2 a3 a4 a5 a6 a8 a9 v aX aY aT:Option D}{c c':aa}(b:-4611686018427387904<=q/\q<4611686018427387904)(h:b8 (λ_=>True) (aA 9) (cW (dw (ak 8) pB)) (aO 0 q) [a0,a1,a2,a3,a4,a5,a6,ζ (.int q),a8,a9,aX,aY,aT] c=.ok (.nx [a0,a1,a2,a3,a4,a5,a6,ζ (.int q),a8,v,aX,aY,aT]) c') :
  (bJ (bH (aq (ak 7) au)) (aA 9) (cW (dw (ak 8) pB))) [a0,a1,a2,a3,a4,a5,a6,ζ (.int q),a8,a9,aX,aY,aT] c=.ok (.nx [a0,a1,a2,a3,a4,a5,a6,ζ (.int q),a8,v,aX,aY,aT]) c':=by
 simp only[gy,gw,bE,br,gz,gs,bB,R.aB];rw[if_pos (by omega)]
 exact h
def Ub{most L q:Int}{k:Nat}{a0 a2 a3 a4 a5 a6 a7 a9 aX aY aT:Option D}{c:aa}(hL:bC [.ref k] c=.ok (.int L) c)(hq:(if most<L then most else L)=q) :
  (aH 3 (aJ fR (aq (aJ bC (aq (ak 8) au)) (aq (ak 1) au)))) [a0,ζ (.int most),a2,a3,a4,a5,a6,a7,ζ (.ref k),a9,aX,aY,aT] c=.ok (.nx [a0,ζ (.int most),a2,ζ (.int q),a4,a5,a6,a7,ζ (.ref k),a9,aX,aY,aT]) c:=by
 simp only[fK,iG,bE,br,gz,gs,bB,R.aB,hL,vW,hq];rfl
def Km{q:Int}{X W:D}{a0 a1 a2 a4 a5 a6 a7 a9 aX aY aT:Option D}{c:aa}(h:kE [.int q,X] c=.ok W c) :
  (aH 4 (aG 2 kE (aq (ak 3) (aq (ak 8) au)))) [a0,a1,a2,ζ (.int q),a4,a5,a6,a7,ζ X,a9,aX,aY,aT] c=.ok (.nx [a0,a1,a2,ζ (.int q),ζ W,a5,a6,a7,ζ X,a9,aX,aY,aT]) c:=by
 simp only[fK,x_call,bE,br,gz,gs,bB,R.aB,an4,aok,if_pos,h];rfl
def PW.YQ{j n:Nat}{ps:List (Nat×Nat)}{c:aa}(h:PW j n ps c)(Rc:aa):fH j n ((c++Rc).take n):=by
 have:=h.tV
 rwa[List.take_append_of_le_length (by have:=h.1;omega)]
def Tt{j n:Nat}{most:Int}{c:aa}{a2 a3:Option D}(h0:0<most)(h6:most<60)(hP:PW j n [] c):jE j n most CC [ζ (.ref j),ζ (.int most),a2,a3,ζ (.ref n),η,η,η,η,η,η,η,η] c:=by
 obtain⟨x,c1,x0,x1,P1,t1⟩:=hP.take (cO:=4) (by decide) (by decide)
 have hx:∃t:Nat,2<=t/\t<=5/\cD [D.int 2,.int 3,.int 4,.int 5] x=ζ (.int (t:Int)):=by
  have:x=0\/x=1\/x=2\/x=3:=by omega
  rcases this with rfl|rfl|rfl|rfl
  ·exact⟨2,by decide,by decide,rfl⟩
  ·exact⟨3,by decide,by decide,rfl⟩
  ·exact⟨4,by decide,by decide,rfl⟩
  ·exact⟨5,by decide,by decide,rfl⟩
 obtain⟨t,ht,ht',hx⟩:=hx;have e0:=Uc (a1:=ζ (.int most)) (a2:=a2) (a3:=a3) (a4:=ζ (.ref n)) (a5:=η) (a6:=η) (a7:=η) (a8:=η) (a9:=η) (aX:=η) (aY:=η) (aT:=η) t1 hx;have e1:(aH 8 (cU au)) [ζ (.ref j),ζ (.int most),a2,a3,ζ (.ref n),η,η,ζ (.int (t:Int)),η,η,η,η,η] c1=.ok (.nx [ζ (.ref j),ζ (.int most),a2,a3,ζ (.ref n),η,η,ζ (.int (t:Int)),ζ (.ref c1.length),η,η,η,η]) (c1++[.lst []]):=by
  generalize (t:Int)=q
  simp
 obtain⟨M,v,M1,M2,M3,hf⟩:=T9 ht ht' (a0:=ζ (.ref j)) (a1:=ζ (.int most)) (a2:=a2) (a3:=a3) (a4:=ζ (.ref n)) (a5:=η) (a6:=η) (aX:=η) (aY:=η) (aT:=η) c1;have e2:=Ua (by omega) hf
 have hL:bC [.ref c1.length] (c1++[.lst (dB M)])=.ok (.int (M.length:Int)) (c1++[.lst (dB M)]):=by
  unfold bC;simp[eS,dB]
 obtain⟨m,hm⟩:=g7 (i:=if most<(M.length:Int)then most else(M.length:Int)) (by split<;>omega)
 have hm1:1<=m/\(m:Int)<=most/\m<=M.length:=by split at hm<;>omega
 have e3:=Ub (a0:=ζ (.ref j)) (a2:=a2) (a3:=a3) (a4:=ζ (.ref n)) (a5:=η) (a6:=η) (a7:=ζ (.int (t:Int))) (a9:=v) (aX:=η) (aY:=η) (aT:=η) hL hm;obtain⟨ps,hp,hnr⟩:=MW (X:=.ref c1.length) (M:=M) (m:=m) (c:=c1++[.lst (dB M)]) (by simp[d7]) hm1.2.2 M3 (by omega)
 have e4:=Km (a0:=ζ (.ref j)) (a1:=ζ (.int most)) (a2:=a2) (a4:=ζ (.ref n)) (a5:=η) (a6:=η) (a7:=ζ (.int (t:Int))) (a9:=v) (aX:=η) (aY:=η) (aT:=η) hnr;refine⟨m,ps,.lst (ps.map aL),c1++[.lst (dB M)],[ζ (.ref j),ζ (.int most),a2,ζ (.int (m:Int)),ζ (.lst (ps.map aL)),η,η,ζ (.int (t:Int)),ζ (.ref c1.length),v,η,η,η],hm1.1,hm1.2.1,hp,P1.YQ _,rfl,rfl,.inr rfl,?_⟩;unfold CC;rw[bw e0,bw e1,bw e2,bw e3,e4]
def NB{E:List (Option D)}{a:af}{m:Nat}{c:aa}(G:Nat->List Int)(h:∀k:Nat,k<m->a (ζ (.int (k:Int))::E) c=.ok (.lst ((G k).map D.int)) c):bz (λ_=>True) (aA 0) aZ a (aO 0 (m:Int)) (η::E) [] c=.ok (dB ((ι m).map G)) c:=by
 have:=oW (c:=c) (g:=aA 0) (t:=aZ) (a:=a) (λe=>∃v,e=v::E) (λ_=>θ) (λd=>match d with|.int k=>.lst ((G k.toNat).map D.int)|d=>d) (aO 0 (m:Int)) (η::E) [] ⟨_,rfl⟩ (λd hd e ⟨v,he⟩=>by
  subst he;obtain⟨k',rfl,k0,k1⟩:=oi hd;obtain⟨k,rfl⟩:=g7 k0;exact⟨_,rfl,⟨_,rfl⟩,rfl,λ_=>h k (by omega)⟩)
 rw[this,an9,xS,zk]
 congr 1
 unfold dB;rw[aos];rfl
def T4{w:Int}(h1:0<w)(h2:w<100)(k:Int)(c:aa):(cV (aq (av fu (ak 0) (ak 1)) au)) [ζ (.int k),ζ (.int w)] c=.ok (.lst ([k/w].map D.int)) c:=by
 have hl:(1:Nat)<=ε:=cC (by decide)
 have hd:fu (.int k) (.int w) c=.ok (.int (k/w)) c:=uN c h1 (by omega)
 simp only[rL,bE,cJ,br,gz,gs,bB,R.aB,hd,an4,aok];rw[if_pos hl];rfl
def T3{w:Int}(h1:0<w)(h2:w<100)(k:Int)(c:aa):(cV (aq (av fu (ak 0) (ak 1)) (aq (av bx (dC (.int 10)) (av cZ (ak 0) (ak 1))) au))) [ζ (.int k),ζ (.int w)] c=.ok (.lst ([k/w,10+k % w].map D.int)) c:=by
 have hl:(2:Nat)<=ε:=cC (by decide)
 have hd:fu (.int k) (.int w) c=.ok (.int (k/w)) c:=uN c h1 (by omega)
 have hm:cZ (.int k) (.int w) c=.ok (.int (k % w)) c:=oh c h1;simp only[rL,bE,cJ,br,dY,gz,gs,bB,R.aB,hd,hm,jG,an4,aok];rw[if_pos hl];rfl
def CB:ah:=aD (aH 10 (av bx (dC (.int 1)) (aG 2 bu (aq (ak 0) (aq (aJ fR (aq (dC (.int 4)) (aq (ak 1) au))) au))))) (aD (aH 11 (av bx (dC (.int 1)) (aG 2 bu (aq (ak 0) (aq (aJ fR (aq (dC (.int 4)) (aq (av fu (ak 1) (ak 10)) au))) au))))) (aD (aH 3 (av ez (ak 10) (ak 11))) (aD (aH 8 (bA (bH (aq (ak 3) au)) [η,ζ 11] (aA 0) aZ (cV (aq (av fu (ak 0) (ak 1)) au)))) (aD (bh (aM (av cH (ak 2) (dC (.int 2)))) (aH 8 (bA (bH (aq (ak 3) au)) [η,ζ 11] (aA 0) aZ (cV (aq (av fu (ak 0) (ak 1)) (aq (av bx (dC (.int 10)) (av cZ (ak 0) (ak 1))) au))))) bF) (aH 4 (aG 2 kE (aq (ak 3) (aq (ak 8) au))))))))
def T7{most f x:Int}{j:Nat}{a2 a3 a4 a5 a6 a7 a8 a9 aX aY aT:Option D}{c c1:aa}(hf:(if most<4 then most else 4)=f)(h:bu [.ref j,.int f] c=.ok (.int x) c1) :
  (aH 10 (av bx (dC (.int 1)) (aG 2 bu (aq (ak 0) (aq (aJ fR (aq (dC (.int 4)) (aq (ak 1) au))) au))))) [ζ (.ref j),ζ (.int most),a2,a3,a4,a5,a6,a7,a8,a9,aX,aY,aT] c=.ok (.nx [ζ (.ref j),ζ (.int most),a2,a3,a4,a5,a6,a7,a8,a9,ζ (.int (1+x)),aY,aT]) c1:=by
 simp only[fK,cJ,dY,x_call,iG,bE,br,gz,gs,bB,R.aB,vW,hf,an4,aok,if_pos,h,jG];rfl
def T5{most hi r f x:Int}{j:Nat}{a2 a3 a4 a5 a6 a7 a8 a9 aY aT:Option D}{c c1:aa}(hr:fu (.int most) (.int hi) c=.ok (.int r) c)(hf:(if r<4 then r else 4)=f)(h:bu [.ref j,.int f] c=.ok (.int x) c1) :
  (aH 11 (av bx (dC (.int 1)) (aG 2 bu (aq (ak 0) (aq (aJ fR (aq (dC (.int 4)) (aq (av fu (ak 1) (ak 10)) au))) au))))) [ζ (.ref j),ζ (.int most),a2,a3,a4,a5,a6,a7,a8,a9,ζ (.int hi),aY,aT] c=.ok (.nx [ζ (.ref j),ζ (.int most),a2,a3,a4,a5,a6,a7,a8,a9,ζ (.int hi),ζ (.int (1+x)),aT]) c1:=by
 simp only[fK,cJ,dY,x_call,iG,bE,br,gz,gs,bB,R.aB,hr,vW,hf,an4,aok,if_pos,h,jG];rfl
def T6{hi w q:Int}{a0 a1 a2 a3 a4 a5 a6 a7 a8 a9 aT:Option D}{c:aa}(h:ez (.int hi) (.int w) c=.ok (.int q) c) :
  (aH 3 (av ez (ak 10) (ak 11))) [a0,a1,a2,a3,a4,a5,a6,a7,a8,a9,ζ (.int hi),ζ (.int w),aT] c=.ok (.nx [a0,a1,a2,ζ (.int q),a4,a5,a6,a7,a8,a9,ζ (.int hi),ζ (.int w),aT]) c:=by
 simp only[fK,cJ,br,gz,gs,R.aB,h];rfl
def Kh{q w:Int}{a:af}{l:List D}{a0 a1 a2 a4 a5 a6 a7 a8 a9 aX aT:Option D}{c:aa}(b:-4611686018427387904<=q/\q<4611686018427387904)(hl:(aO 0 q).length<ε)(h:bz (λ_=>True) (aA 0) aZ a (aO 0 q) [η,ζ (.int w)] [] c=.ok l c) :
  (aH 8 (bA (bH (aq (ak 3) au)) [η,ζ 11] (aA 0) aZ a)) [a0,a1,a2,ζ (.int q),a4,a5,a6,a7,a8,a9,aX,ζ (.int w),aT] c=.ok (.nx [a0,a1,a2,ζ (.int q),a4,a5,a6,a7,ζ (.lst l),a9,aX,ζ (.int w),aT]) c:=by
 simp only[fK,ff,gw,bE,br,gz,gs,bB,R.aB];rw[if_pos (by omega)]
 simp only[R.aB];rw[if_pos hl];have:dH [η,ζ 11] [a0,a1,a2,ζ (D.int q),a4,a5,a6,a7,a8,a9,aX,ζ (.int w),aT]=[η,ζ (.int w)]:=rfl;rw[this,h];rfl
def Kg{y:Int}{a0 a1 a3 a4 a5 a6 a7 a8 a9 aX aY aT:Option D}{c:aa}:(aM (av cH (ak 2) (dC (.int 2)))) [a0,a1,ζ (.int y),a3,a4,a5,a6,a7,a8,a9,aX,aY,aT] c=.ok (decide (y=2)) c:=by
 simp only[ir,cJ,br,gz,gs,dY,R.aB,J6]
def Ke{j n:Nat}{most y:Int}{c:aa}{a3:Option D}(h0:0<most)(h6:most<60)(hP:PW j n [] c):jE j n most CB [ζ (.ref j),ζ (.int most),ζ (.int y),a3,ζ (.ref n),η,η,η,η,η,η,η,η] c:=by
 have hs:=cC (n:=1000) (by decide)
 obtain⟨f,hf⟩:∃f:Int,(if most<4 then most else 4)=f:=⟨_,rfl⟩
 have hf':0<f/\f<=4/\f<=most:=by split at hf<;>omega
 obtain⟨x,c1,x0,x1,P1,t1⟩:=hP.take (cO:=f) hf'.1 (by omega)
 have e0:=T7 (a2:=ζ (.int y)) (a3:=a3) (a4:=ζ (.ref n)) (a5:=η) (a6:=η) (a7:=η) (a8:=η) (a9:=η) (aX:=η) (aY:=η) (aT:=η) hf t1;obtain⟨hi,hhi⟩:=g7 (i:=1+x) (by omega)
 rw[hhi]at e0;have hr:fu (.int most) (.int (hi:Int)) c1=.ok (.int (most/(hi:Int))) c1:=uN c1 (by omega) (by omega)
 obtain⟨r,hr'⟩:∃r:Int,most/(hi:Int)=r:=⟨_,rfl⟩;have hr1:0<r:=by
  have:=Int.le_ediv_of_mul_le (a:=1) (b:=most) (c:=(hi:Int)) (by omega) (by omega)
  omega
 have hr2:(hi:Int)*r<=most:=by
  rw[<-hr'];exact Int.mul_ediv_self_le (by omega)
 rw[hr']at hr;obtain⟨g,hg⟩:∃g:Int,(if r<4 then r else 4)=g:=⟨_,rfl⟩
 have hg':0<g/\g<=4/\g<=r:=by split at hg<;>omega
 obtain⟨z,c2,z0,z1,P2,t2⟩:=P1.take (cO:=g) hg'.1 (by omega)
 have e1:=T5 (a2:=ζ (.int y)) (a3:=a3) (a4:=ζ (.ref n)) (a5:=η) (a6:=η) (a7:=η) (a8:=η) (a9:=η) (aY:=η) (aT:=η) hr hg t2;obtain⟨w,hw⟩:=g7 (i:=1+z) (by omega)
 rw[hw]at e1;have hm0:((hi*w:Nat):Int)=(hi:Int)*(w:Int):=by simp
 have hmul:ez (.int (hi:Int)) (.int (w:Int)) c2=.ok (.int ((hi*w:Nat):Int)) c2:=by rw[hm0];exact DK c2 (by omega) (by omega)
 have hm1:(hi:Int)*(w:Int)<=most:=Int.le_trans (Int.mul_le_mul_of_nonneg_left (by omega) (by omega)) hr2
 rw[<-hm0]at hm1;have hm2:1<=hi*w:=Nat.mul_pos (by omega) (by omega)
 clear hm0
 generalize hi*w=m at *
 have e2:=T6 (a0:=ζ (.ref j)) (a1:=ζ (.int most)) (a2:=ζ (.int y)) (a3:=a3) (a4:=ζ (.ref n)) (a5:=η) (a6:=η) (a7:=η) (a8:=η) (a9:=η) (aT:=η) hmul;have hA:=NB (E:=[ζ (.int (w:Int))]) (m:=m) (c:=c2) (λk:Nat=>[(k:Int)/(w:Int)]) (λk _=>T4 (w:=(w:Int)) (by omega) (by omega) (k:Int) c2)
 have hB:=NB (E:=[ζ (.int (w:Int))]) (m:=m) (c:=c2) (λk:Nat=>[(k:Int)/(w:Int),10+(k:Int) % (w:Int)]) (λk _=>T3 (w:=(w:Int)) (by omega) (by omega) (k:Int) c2)
 have e3:=Kh (a0:=ζ (.ref j)) (a1:=ζ (.int most)) (a2:=ζ (.int y)) (a4:=ζ (.ref n)) (a5:=η) (a6:=η) (a7:=η) (a8:=η) (a9:=η) (aX:=ζ (.int (hi:Int))) (aT:=η) (by omega) (by rw[dP];omega) hA
 have e4:∃M:List (List Int),M.length=m/\(∀l∈M,l.length<1000)/\(bh (aM (av cH (ak 2) (dC (.int 2)))) (aH 8 (bA (bH (aq (ak 3) au)) [η,ζ 11] (aA 0) aZ (cV (aq (av fu (ak 0) (ak 1)) (aq (av bx (dC (.int 10)) (av cZ (ak 0) (ak 1))) au))))) bF) [ζ (.ref j),ζ (.int most),ζ (.int y),ζ (.int (m:Int)),ζ (.ref n),η,η,η,ζ (.lst (dB ((ι m).map λk:Nat=>[(k:Int)/(w:Int)]))),η,ζ (.int (hi:Int)),ζ (.int (w:Int)),η] c2=.ok (.nx [ζ (.ref j),ζ (.int most),ζ (.int y),ζ (.int (m:Int)),ζ (.ref n),η,η,η,ζ (.lst (dB M)),η,ζ (.int (hi:Int)),ζ (.int (w:Int)),η]) c2:=by
  by_cases hy:y=2
  ·refine⟨(ι m).map λk:Nat=>[(k:Int)/(w:Int),10+(k:Int) % (w:Int)],by simp,λl hl=>?_,?_⟩
   ·obtain⟨k,_,rfl⟩:=aoa.mp hl;simp
   ·have hb:=Kh (a0:=ζ (.ref j)) (a1:=ζ (.int most)) (a2:=ζ (.int y)) (a4:=ζ (.ref n)) (a5:=η) (a6:=η) (a7:=η) (a8:=ζ (.lst (dB ((ι m).map λk:Nat=>[(k:Int)/(w:Int)])))) (a9:=η) (aX:=ζ (.int (hi:Int))) (aT:=η) (by omega) (by rw[dP];omega) hB
    rw[gx,Kg,R.aB,if_pos (decide_eq_true hy)];exact hb
  ·refine⟨(ι m).map λk:Nat=>[(k:Int)/(w:Int)],by simp,λl hl=>?_,?_⟩
   ·obtain⟨k,_,rfl⟩:=aoa.mp hl;simp
   ·rw[gx,Kg,R.aB,if_neg (by simpa using hy)]
    rfl
 obtain⟨M,hM,M3,e4⟩:=e4;obtain⟨ps,hp,hnr⟩:=MW (X:=.lst (dB M)) (M:=M) (m:=m) (c:=c2) rfl (by omega) M3 (by omega)
 have e5:=Km (a0:=ζ (.ref j)) (a1:=ζ (.int most)) (a2:=ζ (.int y)) (a4:=ζ (.ref n)) (a5:=η) (a6:=η) (a7:=η) (a9:=η) (aX:=ζ (.int (hi:Int))) (aY:=ζ (.int (w:Int))) (aT:=η) hnr;refine⟨m,ps,.lst (ps.map aL),c2,[ζ (.ref j),ζ (.int most),ζ (.int y),ζ (.int (m:Int)),ζ (.lst (ps.map aL)),η,η,η,ζ (.lst (dB M)),η,ζ (.int (hi:Int)),ζ (.int (w:Int)),η],hm2,by omega,hp,P2.tV,rfl,rfl,.inr rfl,?_⟩
 unfold CB;rw[bw e0,bw e1,bw e2,bw e3,bw e4,e5]
def CA:ah:=aD (aH 3 (aJ fR (aq (ak 1) (aq (av aE (cV (aq (dC (.int 5)) (aq (dC (.int 13)) au))) (aG 2 bu (aq (ak 0) (aq (dC (.int 2)) au)))) au)))) (aD (aH 12 (bA (eV (aq (dC (.int 1)) (aq (ak 3) au))) [η,ζ 3] (aA 0) aZ (av cZ (av ez (ak 0) (ak 0)) (ak 1)))) (bJ (bH (aq (ak 3) au)) (aA 9) (cW (dw (ak 4) yN))))
def TZ{most x f q:Int}{j:Nat}{a2 a3 a4 a5 a6 a7 a8 a9 aX aY aT:Option D}{c c1:aa}(h:bu [.ref j,.int 2] c=.ok (.int x) c1)(hx:cD [D.int 5,.int 13] x=ζ (.int f))(hq:(if f<most then f else most)=q) :
  (aH 3 (aJ fR (aq (ak 1) (aq (av aE (cV (aq (dC (.int 5)) (aq (dC (.int 13)) au))) (aG 2 bu (aq (ak 0) (aq (dC (.int 2)) au)))) au)))) [ζ (.ref j),ζ (.int most),a2,a3,a4,a5,a6,a7,a8,a9,aX,aY,aT] c=.ok (.nx [ζ (.ref j),ζ (.int most),a2,ζ (.int q),a4,a5,a6,a7,a8,a9,aX,aY,aT]) c1:=by
 have h2:(2:Nat)<=ε:=cC (by decide)
 simp only[fK,iG,cJ,rL,bE,dY,bB,x_call,br,gz,gs,R.aB,an4,aok];rw[if_pos h2];simp only[R.aB,if_pos,h,ig,hx,vW,hq];rfl
def Lc{q:Int}(h0:0<q)(c:aa):∀(l:List Int) (v:Option D) (acc:List D),(∀x∈l,-1000<x/\x<1000)->bz (λ_=>True) (aA 0) aZ (av cZ (av ez (ak 0) (ak 0)) (ak 1)) (l.map D.int) [v,ζ (.int q)] acc c=.ok (acc++(l.map λx=>x*x % q).map D.int) c
 |[],v,acc,_=>by simp
 |x::l,v,acc,hb=>by
  have hx:=hb x (.head _);have h1:aA 0 (.int x) [v,ζ (.int q)] c=.ok [ζ (.int x),ζ (.int q)] c:=rfl;have h2:ez (.int x) (.int x) c=.ok (.int (x*x)) c:=DK c (by omega) (by omega)
  have h3:cZ (.int (x*x)) (.int q) c=.ok (.int (x*x % q)) c:=oh c h0;have hE:(av cZ (av ez (ak 0) (ak 0)) (ak 1)) [ζ (.int x),ζ (.int q)] c=.ok (.int (x*x % q)) c:=by
   simp only[cJ,br,gz,gs,R.aB,h2,h3]
  rw[an8,iP,h1,R.aB,rK,R.aB,if_pos rfl,hE,R.aB,Lc h0 c l _ _ (λz hz=>hb z (.tail _ hz)),aop]
  rfl
def TY{q:Int}{l:List D}{a0 a1 a2 a4 a5 a6 a7 a8 a9 aX aY aT:Option D}{c:aa}(b:-4611686018427387904<=q/\q<4611686018427387904)(hl:(aO 1 q).length<ε)(h:bz (λ_=>True) (aA 0) aZ (av cZ (av ez (ak 0) (ak 0)) (ak 1)) (aO 1 q) [η,ζ (.int q)] [] c=.ok l c) :
  (aH 12 (bA (eV (aq (dC (.int 1)) (aq (ak 3) au))) [η,ζ 3] (aA 0) aZ (av cZ (av ez (ak 0) (ak 0)) (ak 1)))) [a0,a1,a2,ζ (.int q),a4,a5,a6,a7,a8,a9,aX,aY,aT] c=.ok (.nx [a0,a1,a2,ζ (.int q),a4,a5,a6,a7,a8,a9,aX,aY,ζ (.lst l)]) c:=by
 simp only[fK,ff,nA,bE,dY,br,gz,gs,bB,R.aB];rw[if_pos ⟨by omega,by omega,by omega,by omega⟩]
 simp only[R.aB];rw[if_pos hl];have:dH [η,ζ 3] [a0,a1,a2,ζ (D.int q),a4,a5,a6,a7,a8,a9,aX,aY,aT]=[η,ζ (.int q)]:=rfl;rw[this,h];rfl
def NJ{q:Int}{B:ah}{a0 a1 a2 a4 a5 a6 a7 a8 a9 aX aY aT:Option D}{F:Fl}{c c':aa}(b:-4611686018427387904<=q/\q<4611686018427387904)(h:b8 (λ_=>True) (aA 9) B (aO 0 q) [a0,a1,a2,ζ (.int q),a4,a5,a6,a7,a8,a9,aX,aY,aT] c=.ok F c') :
  (bJ (bH (aq (ak 3) au)) (aA 9) B) [a0,a1,a2,ζ (.int q),a4,a5,a6,a7,a8,a9,aX,aY,aT] c=.ok F c':=by
 simp only[gy,gw,bE,br,gz,gs,bB,R.aB];rw[if_pos (by omega)]
 exact h
def XD(lo hi:Int):aO lo hi=((ι (hi-lo).toNat).map λk:Nat=>lo+(k:Int)).map D.int:=by
 unfold aO;rw[aos];rfl
def Tr{j n:Nat}{most:Int}{c:aa}{a2 a3:Option D}(h0:0<most)(h6:most<60)(hP:PW j n [] c):jE j n most CA [ζ (.ref j),ζ (.int most),a2,a3,ζ (.ref n),η,η,η,η,η,η,η,η] c:=by
 have hs:=cC (n:=1000) (by decide)
 obtain⟨x,c1,x0,x1,P1,t1⟩:=hP.take (cO:=2) (by decide) (by decide)
 have hx:∃f:Int,0<f/\f<=13/\cD [D.int 5,.int 13] x=ζ (.int f):=by
  have:x=0\/x=1:=by omega
  rcases this with rfl|rfl
  ·exact⟨5,by decide,by decide,rfl⟩
  ·exact⟨13,by decide,by decide,rfl⟩
 obtain⟨f,f0,f1,hx⟩:=hx;obtain⟨m,hm⟩:=g7 (i:=if f<most then f else most) (by split<;>omega)
 have hm1:1<=m/\(m:Int)<=most/\m<64:=by split at hm<;>omega
 have e0:=TZ (a2:=a2) (a3:=a3) (a4:=ζ (.ref n)) (a5:=η) (a6:=η) (a7:=η) (a8:=η) (a9:=η) (aX:=η) (aY:=η) (aT:=η) t1 hx hm;have hq:=Lc (q:=(m:Int)) (by omega) c1 ((ι ((m:Int)-1).toNat).map λk:Nat=>1+(k:Int)) η [] (λx hx=>by
  obtain⟨k,hk,rfl⟩:=aoa.mp hx;have:=aod.mp hk;omega)
 rw[<-XD,an9]at hq;have e1:=TY (a0:=ζ (.ref j)) (a1:=ζ (.int most)) (a2:=a2) (a4:=ζ (.ref n)) (a5:=η) (a6:=η) (a7:=η) (a8:=η) (a9:=η) (aX:=η) (aY:=η) (aT:=η) (by omega) (by rw[dP];omega) hq
 generalize (((ι ((m:Int)-1).toNat).map λk:Nat=>1+(k:Int)).map λx=>x*x % (m:Int))=sq at e1
 obtain⟨ps,c2,v,P2,hp2,hpl,hf⟩:=TX (j:=j) (n:=n) hm1.1 hm1.2.2 (a1:=ζ (.int most)) (a2:=a2) (a5:=η) (a6:=η) (a7:=η) (a8:=η) (aX:=η) (aY:=η) sq P1 η;have e2:=NJ (by omega) hf
 refine⟨m,ps,.ref n,c2,[ζ (.ref j),ζ (.int most),a2,ζ (.int (m:Int)),ζ (.ref n),η,η,η,η,v,η,η,ζ (.lst (sq.map D.int))],hm1.1,hm1.2.1,hp2,P2.tV,rfl,rfl,.inl ⟨n,rfl,P2.2.2.2⟩,?_⟩;unfold CA;rw[bw e0,bw e1,e2]
def rP:ai:=(aM (av cH (av yh (ak 0) (ak 1)) (ak 0)))
def Cz:ah:=aD (aH 3 (aJ fR (aq (dC (.int 8)) (aq (ak 1) au)))) (aD (bJ (bH (aq (ak 3) au)) (aA 9) (cW (dw (ak 4) yM))) (aH 4 (bA (cy (ak 4)) [η,η] (dI 2 (bR (aA 0) (bR (aA 1) dQ))) rP (bf (aq (ak 0) (aq (ak 1) au))))))
def TR{most q:Int}{a0 a2 a3 a4 a5 a6 a7 a8 a9 aX aY aT:Option D}{c:aa}(hq:(if most<8 then most else 8)=q) :
  (aH 3 (aJ fR (aq (dC (.int 8)) (aq (ak 1) au)))) [a0,ζ (.int most),a2,a3,a4,a5,a6,a7,a8,a9,aX,aY,aT] c=.ok (.nx [a0,ζ (.int most),a2,ζ (.int q),a4,a5,a6,a7,a8,a9,aX,aY,aT]) c:=by
 simp only[fK,iG,bE,dY,br,gz,gs,bB,R.aB,vW,hq];rfl
def TN(a b:Nat)(c:aa):∃x,rP [ζ (.int (a:Int)),ζ (.int (b:Int))] c=.ok x c :=
 ⟨decide (Builtin.bitAnd (a:Int) (b:Int)=(a:Int)),by
  have h:yh (.int (a:Int)) (.int (b:Int)) c=.ok (.int (Builtin.bitAnd (a:Int) (b:Int))) c:=rfl
  generalize Builtin.bitAnd (a:Int) (b:Int)=z at *
  unfold rP;simp only[ir,cJ,br,gz,gs,R.aB,h,J6]⟩
def TQ{n:Nat}{ds l:List D}{a0 a1 a2 a3 a5 a6 a7 a8 a9 aX aY aT:Option D}{c:aa}(hn:c[n]? = ζ (.lst ds))(hl:ds.length<ε)(h:bz (λc'=>c'[n]? = ζ (.lst ds)) (dI 2 (bR (aA 0) (bR (aA 1) dQ))) rP (bf (aq (ak 0) (aq (ak 1) au))) ds [η,η] [] c=.ok l c) :
  (aH 4 (bA (cy (ak 4)) [η,η] (dI 2 (bR (aA 0) (bR (aA 1) dQ))) rP (bf (aq (ak 0) (aq (ak 1) au))))) [a0,a1,a2,a3,ζ (.ref n),a5,a6,a7,a8,a9,aX,aY,aT] c=.ok (.nx [a0,a1,a2,a3,ζ (.lst l),a5,a6,a7,a8,a9,aX,aY,aT]) c:=by
 rw[fK,ff];unfold cy;simp only[br,gz,gs,R.aB,hn];rw[if_pos hl];have:dH [η,η] [a0,a1,a2,a3,ζ (D.ref n),a5,a6,a7,a8,a9,aX,aY,aT]=[η,η]:=rfl;rw[this,h];rfl
def Tq{j n:Nat}{most:Int}{c:aa}{a2 a3:Option D}(h0:0<most)(h6:most<60)(hP:PW j n [] c):jE j n most Cz [ζ (.ref j),ζ (.int most),a2,a3,ζ (.ref n),η,η,η,η,η,η,η,η] c:=by
 have hs:100000<ε:=by decide
 obtain⟨m,hm⟩:=g7 (i:=if most<8 then most else 8) (by split<;>omega)
 have hm1:1<=m/\(m:Int)<=most/\m<64:=by split at hm<;>omega
 have e0:=TR (a0:=ζ (.ref j)) (a2:=a2) (a3:=a3) (a4:=ζ (.ref n)) (a5:=η) (a6:=η) (a7:=η) (a8:=η) (a9:=η) (aX:=η) (aY:=η) (aT:=η) (c:=c) hm;obtain⟨ps,c2,v,P2,hp2,hpl,hf⟩:=TM (j:=j) (n:=n) hm1.2.2 (a1:=ζ (.int most)) (a2:=a2) (a5:=η) (a6:=η) (a7:=η) (a8:=η) (aX:=η) (aY:=η) (aT:=η) hP η;have e1:=NJ (by omega) hf
 obtain⟨qs,hq,h2⟩:=Jo (t:=rP) (m:=m) (c:=c2) (st:=λc'=>c'[n]? = ζ (.lst (ps.map aL))) P2.2.2.2 (λa b=>TN a b c2) ps η η [] hp2
 rw[an9]at h2;have e2:=TQ (a0:=ζ (.ref j)) (a1:=ζ (.int most)) (a2:=a2) (a3:=ζ (.int (m:Int))) (a5:=η) (a6:=η) (a7:=η) (a8:=η) (a9:=v) (aX:=η) (aY:=η) (aT:=η) P2.2.2.2 (by rw[an2];omega) h2
 refine⟨m,qs,.lst (qs.map aL),c2,[ζ (.ref j),ζ (.int most),a2,ζ (.int (m:Int)),ζ (.lst (qs.map aL)),η,η,η,η,v,η,η,η],hm1.1,hm1.2.1,hq,P2.tV,rfl,rfl,.inr rfl,?_⟩;unfold Cz;rw[bw e0,bw e1,e2]
def zu:ah:=bh (aM (av cH (ak 2) (dC (.int 0)))) CD (bh (aM (av cH (ak 2) (dC (.int 1)))) CC (bh (aM (av gK (ak 2) (dC (.int 4)))) CB (bh (aM (av cH (ak 2) (dC (.int 4)))) CA Cz)))
def ZC{j n m:Nat}{most y:Int}{c:aa}(y0:0<=y)(y1:y<6)(hm:1<=m)(hm':(m:Int)<=most)(h6:most<60)(hP:PW j n [] c):jE j n most zu [ζ (.ref j),ζ (.int most),ζ (.int y),ζ (.int (m:Int)),ζ (.ref n),η,η,η,η,η,η,η,η] c:=by
 have h0:0<most:=by omega
 unfold zu;have:y=0\/y=1\/y=2\/y=3\/y=4\/y=5:=by omega
 rcases this with rfl|rfl|rfl|rfl|rfl|rfl
 ·exact .yes rfl (Tu hm hm' h6 hP)
 ·exact .no rfl (.yes rfl (Tt h0 h6 hP))
 ·exact .no rfl (.no rfl (.yes rfl (Ke h0 h6 hP)))
 ·exact .no rfl (.no rfl (.yes rfl (Ke h0 h6 hP)))
 ·exact .no rfl (.no rfl (.no rfl (.yes rfl (Tr h0 h6 hP))))
 ·exact .no rfl (.no rfl (.no rfl (.no rfl (Tq h0 h6 hP))))
def ZE{j n:Nat}{most y x q:Int}{c c1 c2 c3 c4:aa}{E':Ev}{W X:D}(t1:bu [.ref j,.int 6] c=.ok (.int y) c1)(t2:bu [.ref j,.int most] c1=.ok (.int x) c2)(hn:c2.length=n)
  (hB:zu [ζ (.ref j),ζ (.int most),ζ (.int y),ζ (.int (1+x)),ζ (.ref n),η,η,η,η,η,η,η,η] (c2++[.lst []])=.ok (.nx E') c3) (h3:E'[3]? = ζ (ζ (.int q))) (h4:E'[4]? = ζ (ζ X)) (hw:jO [.int q,X] c3=.ok W c3) (hx:cA Δ c.length W c3=.ok W c4):lI [.ref j,.int most] c=.ok W c4:=by
 have hb':vq=aD (aH 2 (aG 2 bu (aq (ak 0) (aq (dC (.int 6)) au)))) (aD (aH 3 (av bx (dC (.int 1)) (aG 2 bu (aq (ak 0) (aq (ak 1) au))))) (aD (aH 4 (cU au)) (aD zu (aR (aG 2 jO (aq (ak 3) (aq (ak 4) au))))))):=rfl;have e0:(aH 2 (aG 2 bu (aq (ak 0) (aq (dC (.int 6)) au)))) [ζ (.ref j),ζ (.int most),η,η,η,η,η,η,η,η,η,η,η] c=.ok (.nx [ζ (.ref j),ζ (.int most),ζ (.int y),η,η,η,η,η,η,η,η,η,η]) c1:=by simp[t1]
 have e1:(aH 3 (av bx (dC (.int 1)) (aG 2 bu (aq (ak 0) (aq (ak 1) au))))) [ζ (.ref j),ζ (.int most),ζ (.int y),η,η,η,η,η,η,η,η,η,η] c1=.ok (.nx [ζ (.ref j),ζ (.int most),ζ (.int y),ζ (.int (1+x)),η,η,η,η,η,η,η,η,η]) c2:=by simp[t2]
 have e2:(aH 4 (cU au)) [ζ (.ref j),ζ (.int most),ζ (.int y),ζ (.int (1+x)),η,η,η,η,η,η,η,η,η] c2=.ok (.nx [ζ (.ref j),ζ (.int most),ζ (.int y),ζ (.int (1+x)),ζ (.ref n),η,η,η,η,η,η,η,η]) (c2++[.lst []]):=by simp[hn]
 have e4:(aR (aG 2 jO (aq (ak 3) (aq (ak 4) au)))) E' c3=.ok (.rt W) c3:=by
  simp only[iF,x_call,bE,br,h3,h4,bB,R.aB,an4,aok,if_pos,hw]
 rw[lI,fL,hb'];have es:cF 13 [D.ref j,.int most]=[ζ (.ref j),ζ (.int most),η,η,η,η,η,η,η,η,η,η,η]:=rfl;rw[es,bw e0,bw e1,bw e2,bw hB,e4];exact hx
def Zx{j n:Nat}{c:aa}{most:Int}(hP:fH j n c)(h0:0<most)(h1:most<60):∃(m:Nat) (ps:List (Nat×Nat)) (c':aa),1<=m/\(m:Int)<=most/\dN m ps/\fH j n c'/\lI [.ref j,.int most] c=.ok (aP m (gO ps)) c':=by
 obtain⟨y,c1,y0,y1,P1,t1⟩:=kg (cO:=6) hP (by decide) (by decide)
 obtain⟨x,c2,x0,x1,P2,t2⟩:=kg P1 h0 (by omega)
 obtain⟨k,hk⟩:=g7 (i:=1+x) (by omega)
 obtain⟨m,ps,X,c3,E',m1,m2,hp,P3,q3,q4,hX,hB⟩:=ZC (j:=j) (n:=n) (m:=k) y0 y1 (by omega) (by omega) h1 (PW.start P2)
 rw[<-hk]at hB;have hw:=N6 (m:=m) (X:=X) (c:=c3) hp.isIn (by omega) hX
 exact⟨m,ps,c3.take n,m1,m2,hp,P3,ZE t1 t2 P2.1 hB q3 q4 hw (by rw[hP.1];exact G6 m _ n c3)⟩
def ic(f:Nat->Nat->Bool):Prop:=(∀i,f i i=Δ)/\∀i k,f i k=f k i
def afB{m:Nat}{ps:List (Nat×Nat)}(h:dN m ps):ic (gO ps):=by
 refine⟨λi=>?_,λi k=>?_⟩
 ·unfold gO;rw[arv];intro p hp;have:=(h p hp).2.2;simp only[apB,aoj,beq_iff_eq];omega
 ·unfold gO
  congr 1
  funext p
  rw[Bool.or_comm]
  congr 1<;>rw[Bool.and_comm]
def aly{f:Nat->Nat->Bool}(h:ic f):ic (j3 f):=by
 refine⟨λi=>by simp[j3],λi k=>?_⟩
 unfold j3;rw[h.2 i k]
 congr 2
 exact decide_eq_decide.mpr ⟨Eq.symm,Eq.symm⟩
def UK{f:Nat->Nat->Bool}(h:ic f){a b:Nat}(hab:a≠b):ic (wj f a b):=by
 have e:∀i k,wj f a b i k=if(i=b/\k=a)\/(i=a/\k=b)then !f a b else f i k:=λi k=>by
  unfold wj;have e1:fY f a b (!f a b) b a=f a b:=by
   unfold fY;rw[if_neg (λz=>hab z.2),h.2 b a]
  rw[e1];unfold fY
  by_cases h1:i=b/\k=a
  ·rw[if_pos h1,if_pos (.inl h1)]
  ·rw[if_neg h1]
   by_cases h2:i=a/\k=b
   ·rw[if_pos h2,if_pos (.inr h2)]
   ·rw[if_neg h2,if_neg (λz=>z.elim h1 h2)]
 refine⟨λi=>?_,λi k=>?_⟩
 ·rw[e,if_neg (by omega),h.1 i]
 ·rw[e,e,h.2 i k]
  by_cases h1:(i=b/\k=a)\/(i=a/\k=b)
  ·rw[if_pos h1,if_pos (by omega)]
  ·rw[if_neg h1,if_neg (by omega)]
def adY{f:Nat->Nat->Bool}(h:ic f){os:List Nat}{m:Nat}(hm:os.length=m):ic (fQ os f m 0):=by
 have e:∀a b,fQ os f m 0 a b=if os.idxOf a<m/\os.idxOf b<m then f (os.idxOf a) (os.idxOf b)else Δ:=λa b=>by
  unfold fQ;rw[hm]
  by_cases h1:os.idxOf a<m
  ·rw[if_pos (.inl h1)]
   by_cases h2:os.idxOf b<m
   ·rw[if_pos h2,if_pos ⟨h1,h2⟩]
   ·rw[if_neg h2,if_neg (λz=>h2 z.2)]
  ·rw[if_neg (by omega),if_neg (λz=>h1 z.1)]
 refine⟨λi=>?_,λi k=>?_⟩
 ·rw[e,h.1];simp
 ·rw[e,e,h.2]
  by_cases h1:os.idxOf i<m/\os.idxOf k<m
  ·rw[if_pos h1,if_pos ⟨h1.2,h1.1⟩]
  ·rw[if_neg h1,if_neg (λz=>h1 ⟨z.2,z.1⟩)]
def akA{j:Nat}{x most:Int}{W:D}{a2 a3 a4:Option D}{c c1 c2:aa}(t:bu [.ref j,.int 5] c=.ok (.int x) c1)(hs:x<2->lH [.ref j,.int most] c1=.ok W c2)(hp:¬x<2->lI [.ref j,.int most] c1=.ok W c2) :
  (bh (aM (av gK (aG 2 bu (aq (ak 0) (aq (dC (.int 5)) au))) (dC (.int 2)))) (aH 2 (aG 2 lH (aq (ak 0) (aq (ak 1) au)))) (aH 2 (aG 2 lI (aq (ak 0) (aq (ak 1) au))))) [ζ (.ref j),ζ (.int most),a2,a3,a4] c=.ok (.nx [ζ (.ref j),ζ (.int most),ζ W,a3,a4]) c2:=by
 by_cases hx:x<2
 ·have:=hs hx;simp[t,hx,this]
 ·have:=hp hx;simp[t,hx,this]
def akz{j:Nat}{x:Int}{T T':D}{a1 a3 a4:Option D}{c c1:aa}(t:bu [.ref j,.int 3] c=.ok (.int x) c1)(hs:x=0->lJ [T] c1=.ok T' c1)(hp:¬x=0->T'=T) :
  (bh (aM (av cH (aG 2 bu (aq (ak 0) (aq (dC (.int 3)) au))) (dC (.int 0)))) (aH 2 (aG 1 lJ (aq (ak 2) au))) bF) [ζ (.ref j),a1,ζ T,a3,a4] c=.ok (.nx [ζ (.ref j),a1,ζ T',a3,a4]) c1:=by
 by_cases hx:x=0
 ·have:=hs hx;simp[t,hx,this]
 ·have:=hp hx;simp[t,hx,this]
def akx{q:Int}{a0 a1 a2 a4:Option D}{c:aa}(h:¬q>1):(bh (iE (aM (av iN (ak 3) (dC (.int 1)))) (aM (av cH (aG 2 bu (aq (ak 0) (aq (dC (.int 4)) au))) (dC (.int 0))))) (aD (aH 4 (aG 2 bu (aq (ak 0) (aq (ak 3) au)))) (aH 2 (aG 3 kB (aq (ak 2) (aq (ak 4) (aq (av cZ (av bx (av bx (ak 4) (dC (.int 1))) (aG 2 bu (aq (ak 0) (aq (av fO (ak 3) (dC (.int 1))) au)))) (ak 3)) au)))))) bF) [a0,a1,a2,ζ (.int q),a4] c=.ok (.nx [a0,a1,a2,ζ (.int q),a4]) c:=by
 simp[h]
def aky{j:Nat}{q x:Int}{a1 a2 a4:Option D}{c c1:aa}(h:q>1)(t:bu [.ref j,.int 4] c=.ok (.int x) c1)(hx:¬x=0):(bh (iE (aM (av iN (ak 3) (dC (.int 1)))) (aM (av cH (aG 2 bu (aq (ak 0) (aq (dC (.int 4)) au))) (dC (.int 0))))) (aD (aH 4 (aG 2 bu (aq (ak 0) (aq (ak 3) au)))) (aH 2 (aG 3 kB (aq (ak 2) (aq (ak 4) (aq (av cZ (av bx (av bx (ak 4) (dC (.int 1))) (aG 2 bu (aq (ak 0) (aq (av fO (ak 3) (dC (.int 1))) au)))) (ak 3)) au)))))) bF) [ζ (.ref j),a1,a2,ζ (.int q),a4] c=.ok (.nx [ζ (.ref j),a1,a2,ζ (.int q),a4]) c1:=by
 simp[h,t,hx]
def akw{j:Nat}{q y z o:Int}{T T':D}{a1 a4:Option D}{c c1 c2 c3:aa}(h:q>1)(t:bu [.ref j,.int 4] c=.ok (.int 0) c1)(t2:bu [.ref j,.int q] c1=.ok (.int y) c2)(t3:bu [.ref j,.int (q-1)] c2=.ok (.int z) c3)(hm:cZ (.int (y+1+z)) (.int q) c3=.ok (.int o) c3)(hg:kB [T,.int y,.int o] c3=.ok T' c3) :
  (bh (iE (aM (av iN (ak 3) (dC (.int 1)))) (aM (av cH (aG 2 bu (aq (ak 0) (aq (dC (.int 4)) au))) (dC (.int 0))))) (aD (aH 4 (aG 2 bu (aq (ak 0) (aq (ak 3) au)))) (aH 2 (aG 3 kB (aq (ak 2) (aq (ak 4) (aq (av cZ (av bx (av bx (ak 4) (dC (.int 1))) (aG 2 bu (aq (ak 0) (aq (av fO (ak 3) (dC (.int 1))) au)))) (ak 3)) au)))))) bF) [ζ (.ref j),a1,ζ T,ζ (.int q),a4] c=.ok (.nx [ζ (.ref j),a1,ζ T',ζ (.int q),ζ (.int y)]) c3:=by
 simp[h,t,t2,t3,hm,hg]
def akv{j:Nat}{q:Int}{T O W:D}{a1 a4:Option D}{c c1:aa}(t:oj [.ref j,.int q] c=.ok O c1)(hm:qo [T,O] c1=.ok W c1):(aR (aG 2 qo (aq (ak 2) (aq (aG 2 oj (aq (ak 0) (aq (ak 3) au))) au)))) [ζ (.ref j),a1,ζ T,ζ (.int q),a4] c=.ok (.rt W) c1:=by
 simp[t,hm]
def aku{j:Nat}{most:Int}{W:D}{E1 E2 E3 E4:Ev}{c c1 c2 c3 c4 c5:aa}{s0 s1 s2 s3 s4:ah}(e0:s0 [ζ (.ref j),ζ (.int most),η,η,η] c=.ok (.nx E1) c1)(e1:s1 E1 c1=.ok (.nx E2) c1)(e2:s2 E2 c1=.ok (.nx E3) c2)(e3:s3 E3 c2=.ok (.nx E4) c3)(e4:s4 E4 c3=.ok (.rt W) c4)(hx:cA Δ c.length W c4=.ok W c5) :
  ck 5 Δ (aD s0 (aD s1 (aD s2 (aD s3 s4)))) [.ref j,.int most] c=.ok W c5:=by
 rw[fL];have es:cF 5 [D.ref j,.int most]=[ζ (.ref j),ζ (.int most),η,η,η]:=rfl;rw[es,bw e0,bw e1,bw e2,bw e3,e4];exact hx
def akt{j n:Nat}{c:aa}{most:Int}(hP:fH j n c)(h0:0<most)(h6:most<60):∃(m:Nat) (f:Nat->Nat->Bool) (c':aa),1<=m/\(m:Int)<=most/\ic f/\fH j n c'/\uw [.ref j,.int most] c=.ok (aP m f) c':=by
 obtain⟨x,c1,x0,x1,P1,t1⟩:=kg (cO:=5) hP (by decide) (by decide)
 have hA:∃(m:Nat) (ps:List (Nat×Nat)) (c2:aa),1<=m/\(m:Int)<=most/\dN m ps/\fH j n c2/\(x<2->lH [.ref j,.int most] c1=.ok (aP m (gO ps)) c2)/\(¬x<2->lI [.ref j,.int most] c1=.ok (aP m (gO ps)) c2):=by
  by_cases hx:x<2
  ·obtain⟨m,ps,c2,g1,g2,g3,g4,g5⟩:=WK P1 h0 h6;exact⟨m,ps,c2,g1,g2,g3,g4,λ_=>g5,λq=>absurd hx q⟩
  ·obtain⟨m,ps,c2,g1,g2,g3,g4,g5⟩:=Zx P1 h0 h6;exact⟨m,ps,c2,g1,g2,g3,g4,λq=>absurd q hx,λ_=>g5⟩
 obtain⟨m,ps,c2,g1,g2,g3,P2,g5,g6⟩:=hA;have W0:=afB g3;have e0:=akA (a2:=η) (a3:=η) (a4:=η) t1 g5 g6;clear g5 g6
 generalize gO ps=f at *
 have hl:=ao7 m f c2;have e1:(aH 3 (aJ bC (aq (ak 2) au))) [ζ (.ref j),ζ (.int most),ζ (aP m f),η,η] c2=.ok (.nx [ζ (.ref j),ζ (.int most),ζ (aP m f),ζ (.int (m:Int)),η]) c2:=by
  generalize aP m f=T at *
  generalize (m:Int)=q at *
  simp[hl]
 obtain⟨y,c3,y0,y1,P3,t2⟩:=kg (cO:=3) P2 (by decide) (by decide)
 have hB:∃f',ic f'/\(y=0->lJ [aP m f] c3=.ok (aP m f') c3)/\(¬y=0->aP m f'=aP m f):=by
  by_cases hy:y=0
  ·exact⟨j3 f,aly W0,λ_=>alx f (by omega) c3,λq=>absurd hy q⟩
  ·exact⟨f,W0,λq=>absurd q hy,λ_=>rfl⟩
 obtain⟨f1,W1,g5,g6⟩:=hB;have e2:=akz (a1:=ζ (.int most)) (a3:=ζ (.int (m:Int))) (a4:=η) t2 g5 g6;have hC:∃f' v c4,ic f'/\fH j n c4/\(bh (iE (aM (av iN (ak 3) (dC (.int 1)))) (aM (av cH (aG 2 bu (aq (ak 0) (aq (dC (.int 4)) au))) (dC (.int 0))))) (aD (aH 4 (aG 2 bu (aq (ak 0) (aq (ak 3) au)))) (aH 2 (aG 3 kB (aq (ak 2) (aq (ak 4) (aq (av cZ (av bx (av bx (ak 4) (dC (.int 1))) (aG 2 bu (aq (ak 0) (aq (av fO (ak 3) (dC (.int 1))) au)))) (ak 3)) au)))))) bF) [ζ (.ref j),ζ (.int most),ζ (aP m f1),ζ (.int (m:Int)),η] c3=.ok (.nx [ζ (.ref j),ζ (.int most),ζ (aP m f'),ζ (.int (m:Int)),v]) c4:=by
  by_cases hm:(m:Int)>1
  ·obtain⟨z,c4,z0,z1,P4,t3⟩:=kg (cO:=4) P3 (by decide) (by decide)
   by_cases hz:z=0
   ·subst hz;obtain⟨u,c5,u0,u1,P5,t4⟩:=kg (cO:=(m:Int)) P4 (by omega) (by omega)
    obtain⟨v,c6,v0,v1,P6,t5⟩:=kg (cO:=(m:Int)-1) P5 (by omega) (by omega)
    obtain⟨a,rfl⟩:=g7 u0;obtain⟨d,rfl⟩:=g7 v0;have hmod:cZ (.int ((a:Int)+1+(d:Int))) (.int (m:Int)) c6=.ok (.int (((a+1+d) % m:Nat):Int)) c6:=by
     rw[oh c6 (by omega)]
     congr 2
    have hne:a≠(a+1+d) % m:=by
     rcases aqk (a+1+d) m with q|q
     ·rw[aqv q];omega
     ·rw[asv q,aqv (by omega)];omega
    have hlt:(a+1+d) % m<m:=arc _ (by omega)
    exact⟨_,_,_,UK W1 hne,P6,akw hm t3 t4 t5 hmod (UJ (by omega) hlt (by omega) f1 c6)⟩
   ·exact⟨f1,_,c4,W1,P4,aky hm t3 hz⟩
  ·exact⟨f1,_,c3,W1,P3,akx hm⟩
 obtain⟨f2,v,c4,W2,P4,e3⟩:=hC;obtain⟨os,c5,ho,P5,t6⟩:=aas (m:=m) P4 (by omega)
 have hl:os.length=m:=by have:=ho.length_eq;simpa using this
 have e4:=akv (a1:=ζ (.int most)) (a4:=v) t6 (aed ho (by omega) f2 c5)
 have hb':vD=aD (bh (aM (av gK (aG 2 bu (aq (ak 0) (aq (dC (.int 5)) au))) (dC (.int 2)))) (aH 2 (aG 2 lH (aq (ak 0) (aq (ak 1) au)))) (aH 2 (aG 2 lI (aq (ak 0) (aq (ak 1) au))))) (aD (aH 3 (aJ bC (aq (ak 2) au))) (aD (bh (aM (av cH (aG 2 bu (aq (ak 0) (aq (dC (.int 3)) au))) (dC (.int 0)))) (aH 2 (aG 1 lJ (aq (ak 2) au))) bF) (aD (bh (iE (aM (av iN (ak 3) (dC (.int 1)))) (aM (av cH (aG 2 bu (aq (ak 0) (aq (dC (.int 4)) au))) (dC (.int 0))))) (aD (aH 4 (aG 2 bu (aq (ak 0) (aq (ak 3) au)))) (aH 2 (aG 3 kB (aq (ak 2) (aq (ak 4) (aq (av cZ (av bx (av bx (ak 4) (dC (.int 1))) (aG 2 bu (aq (ak 0) (aq (av fO (ak 3) (dC (.int 1))) au)))) (ak 3)) au)))))) bF) (aR (aG 2 qo (aq (ak 2) (aq (aG 2 oj (aq (ak 0) (aq (ak 3) au))) au))))))):=rfl;refine⟨m,_,c5,g1,g2,adY W2 hl,P5,?_⟩;rw[uw,hb'];exact aku e0 e1 e2 e3 e4 (by rw[G6,hP.1,aqp (by rw[P5.1];omega)])
def aQ(rows:List (List Nat)):D:=.tup (rows.map λr=>.tup (nD r))
def vX(rows:List (List Nat)):noRef (aQ rows)=θ:=by
 unfold aQ noRef;refine iy.mpr λd hd=>?_
 obtain⟨r,_,rfl⟩:=aoa.mp hd;unfold noRef;exact xh r
def pU(n:Nat):aO 0 (n:Int)=nD (ι n):=by
 apply asw;intro i
 by_cases h:i<n
 ·have h1:i<(aO 0 (n:Int)).length:=by rw[dP];omega
  have:=ki (anZ h1);rw[anZ h1,this.2];simp[nD,h]
 ·rw[apt (by rw[dP];omega),apt (by simp[nD];omega)]
def jV{α:Type}{E:List (Option D)}{t:ai}{a:af}{c:aa}(g F:α->D)(b:α->Bool):∀(l:List α) (v:Option D) (acc:List D),(∀x∈l,t (ζ (g x)::E) c=.ok (b x) c)->(∀x∈l,b x=θ->a (ζ (g x)::E) c=.ok (F x) c)->bz (λ_=>True) (aA 0) t a (l.map g) (v::E) acc c=.ok (acc++(l.filter b).map F) c
 |[],v,acc,_,_=>by simp
 |x::l,v,acc,h1,h2=>by
  have e1:aA 0 (g x) (v::E) c=.ok (ζ (g x)::E) c:=rfl;rw[an8,iP,e1,R.aB,h1 x (.head _),R.aB];cases hb:b x with
  |true =>
   rw[if_pos rfl,h2 x (.head _) hb,R.aB,jV g F b l _ _ (λz hz=>h1 z (.tail _ hz)) (λz hz=>h2 z (.tail _ hz)),asx hb,aop]
   rfl
  |false =>
   rw[if_neg (by decide),jV g F b l _ _ (λz hz=>h1 z (.tail _ hz)) (λz hz=>h2 z (.tail _ hz)),asy (by simp[hb])]
def nP:ai:=(iE (aM (av cL (ak 0) (ak 1))) (aM (qM 2 2 lams (aq (ak 1) (aq (ak 0) au)))))
def vY(n:Nat)(f:Nat->Nat->Bool)(i:Nat):List Nat:=(ι n).filter λj=>decide (j≠i)&&f i j
def k7(n:Nat)(f:Nat->Nat->Bool):List (List Nat):=(ι n).map (vY n f)
section
variable {k n:Nat}{E:π}{ns:List Str}{l:List D}{m:List D->aa->R D}{c:aa}{f:Nat->Nat->Bool}
def Xq{one j:Nat}(hk:lams[k]? = ζ (E,ns,m))(hl:eU l=θ)(hm:j≠one->m ([.int one,.int j]++l) c=.ok (.bl (f one j)) c) :
  nP [ζ (.int j),ζ (.int one),ζ (.lam k E ns l)] c=.ok (decide (j≠one)&&f one j) c:=by
 unfold nP
 by_cases h:j=one
 ·subst h;simp
 ·have h':¬((j:Int)=one):=by omega
  have hc:qM 2 2 lams (aq (ak 1) (aq (ak 0) au)) [ζ (.int j),ζ (.int one),ζ (.lam k E ns l)] c=.ok (.bl (f one j)) c:=by
   rw[Te 2 2 lams _ _ c (k:=k) (Ex:=E) (ns:=ns) (l:=l) rfl hk];simp only[bE,br,gz,gs,bB,R.aB];rw[if_pos ⟨rfl,rfl,hl⟩];exact hm h
  simp[h,h',hc]
def Xs{q:Int}{one L:D}{r:List D}(bq:-4611686018427387904<=q/\q<4611686018427387904)(hlen:(aO 0 q).length<ε)(hc:bz (λ_=>True) (aA 0) nP (ak 0) (aO 0 q) [η,ζ one,ζ L] [] c=.ok r c)(nr:noRef (.tup r)=θ):iL [.int q,one,L] c=.ok (.tup r) c:=by
 have hb:vf=aR (aJ gV (aq (bA (bH (aq (ak 0) au)) [η,ζ 1,ζ 2] (aA 0) nP (ak 0)) au)):=rfl;rw[iL,fL,hb];have es:cF 3 [D.int q,one,L]=[ζ (.int q),ζ one,ζ L]:=rfl;rw[es];simp only[iF,iG,bE,ff,gw,br,gz,gs,bB,R.aB];rw[if_pos (by omega)]
 simp only[R.aB];rw[if_pos hlen];have ep:dH [η,ζ 1,ζ 2] [ζ (D.int q),ζ one,ζ L]=[η,ζ one,ζ L]:=rfl;rw[ep,hc];simp only[R.aB];show cA Δ c.length (.tup r) c=_;unfold cA;dsimp only;rw[if_pos nr,ao6]
def Th{q:Int}{L:D}{r:List D}(bq:-4611686018427387904<=q/\q<4611686018427387904)(hlen:(aO 0 q).length<ε)(hc:bz (λ_=>True) (aA 0) aZ (aG 3 iL (aq (ak 1) (aq (ak 0) (aq (ak 2) au)))) (aO 0 q) [η,ζ (.int q),ζ L] [] c=.ok r c)(nr:noRef (.tup r)=θ):lF [.int q,L] c=.ok (.tup r) c:=by
 have hb:vc=aR (aJ gV (aq (bA (bH (aq (ak 0) au)) [η,ζ 0,ζ 1] (aA 0) aZ (aG 3 iL (aq (ak 1) (aq (ak 0) (aq (ak 2) au))))) au)):=rfl;rw[lF,fL,hb];have es:cF 2 [D.int q,L]=[ζ (.int q),ζ L]:=rfl;rw[es];simp only[iF,iG,bE,ff,gw,br,gz,gs,bB,R.aB];rw[if_pos (by omega)]
 simp only[R.aB];rw[if_pos hlen];have ep:dH [η,ζ 0,ζ 1] [ζ (D.int q),ζ L]=[η,ζ (.int q),ζ L]:=rfl;rw[ep,hc];simp only[R.aB];show cA Δ c.length (.tup r) c=_;unfold cA;dsimp only;rw[if_pos nr,ao6]
def ac9{l:List D}(h:bI l=θ):noRef (.tup l)=θ:=by unfold noRef;exact h
def NQ(hn:n<1000):(aO 0 (n:Int)).length<ε:=by
 have hs:=cC (n:=1000) (by decide)
 rw[dP];omega
def Ly(hn:n<1000):-4611686018427387904<=(n:Int)/\(n:Int)<4611686018427387904:=by omega
def Xv{one:Nat}{L:D}{r:List Nat}(hc:bz (λ_=>True) (aA 0) nP (ak 0) ((ι n).map λj:Nat=>D.int (j:Int)) [η,ζ (.int one),ζ L] [] c=.ok (r.map λj:Nat=>D.int (j:Int)) c):bz (λ_=>True) (aA 0) nP (ak 0) (aO 0 (n:Int)) [η,ζ (.int one),ζ L] [] c=.ok (nD r) c:=by rw[pU];exact hc
def Xu{one:Nat}{L:D}{r:List Nat}(hn:n<1000)(hc:bz (λ_=>True) (aA 0) nP (ak 0) ((ι n).map λj:Nat=>D.int (j:Int)) [η,ζ (.int one),ζ L] [] c=.ok (r.map λj:Nat=>D.int (j:Int)) c) :
  iL [.int n,.int one,L] c=.ok (.tup (nD r)) c:=Xs (Ly hn) (NQ hn) (Xv hc) (ac9 (xh _))
def Xr{one:Nat}(hk:lams[k]? = ζ (E,ns,m))(hl:eU l=θ)(hn:n<1000)(hm:∀j,j<n->j≠one->m ([.int one,.int j]++l) c=.ok (.bl (f one j)) c) :
  iL [.int n,.int one,.lam k E ns l] c=.ok (.tup (nD (vY n f one))) c:=by
 have hc:=jV (E:=[ζ (.int one),ζ (.lam k E ns l)]) (t:=nP) (a:=ak 0) (c:=c) (λj:Nat=>D.int (j:Int)) (λj:Nat=>D.int (j:Int)) (λj=>decide (j≠one)&&f one j) (ι n) η [] (λj hj=>Xq hk hl (hm j (aod.mp hj))) (λj _ _=>rfl)
 rw[an9]at hc;exact Xu hn hc
def akq{m:List D->aa->R D}{x y z:D}{r:R D}(h:m [x,y,z] c=r):(if[x,y,z].length=3 then m [x,y,z] c else .bad)=r:=by
 rw[if_pos (by rfl)];exact h
def To{L:D}{w:List (List Nat)}(hn:n<1000)(hc:bz (λ_=>True) (aA 0) aZ (aG 3 iL (aq (ak 1) (aq (ak 0) (aq (ak 2) au)))) (aO 0 (n:Int)) [η,ζ (.int n),ζ L] [] c=.ok (w.map λr=>.tup (nD r)) c):lF [.int n,L] c=.ok (aQ w) c:=Th (Ly hn) (NQ hn) hc (vX _)
def akf{m:List D->aa->R D}{x y z:D}{r:R D}(h:m [y,x,z] c=r):aG 3 m (aq (ak 1) (aq (ak 0) (aq (ak 2) au))) [ζ x,ζ y,ζ z] c=r:=by
 simp only[x_call,bE,br,gz,gs,bB,R.aB];exact akq h
def Tn{i:Nat}{L:D}{r:List Nat}(h:iL [.int n,.int i,L] c=.ok (.tup (nD r)) c):aG 3 iL (aq (ak 1) (aq (ak 0) (aq (ak 2) au))) [ζ (.int i),ζ (.int n),ζ L] c=.ok (.tup (nD r)) c:=akf h
def Tp{L:D}{g:Nat->List Nat}(h:∀i,i<n->iL [.int n,.int i,L] c=.ok (.tup (nD (g i))) c):bz (λ_=>True) (aA 0) aZ (aG 3 iL (aq (ak 1) (aq (ak 0) (aq (ak 2) au)))) (aO 0 (n:Int)) [η,ζ (.int n),ζ L] [] c=.ok (((ι n).map g).map λr=>.tup (nD r)) c:=by
 have hc:=jV (E:=[ζ (.int n),ζ L]) (t:=aZ) (a:=aG 3 iL (aq (ak 1) (aq (ak 0) (aq (ak 2) au)))) (c:=c) (λj:Nat=>D.int (j:Int)) (λj:Nat=>D.tup (nD (g j))) (λ_=>θ) (ι n) η [] (λj hj=>rfl) (λi hi _=>Tn (h i (aod.mp hi)))
 have ft:(ι n).filter (λ_=>θ)=ι n:=by simp
 rw[an9,ft]at hc;rw[aos,pU];exact hc
def J9(hk:lams[k]? = ζ (E,ns,m))(hl:eU l=θ)(hn:n<1000)(hm:∀i j,i<n->j<n->j≠i->m ([.int i,.int j]++l) c=.ok (.bl (f i j)) c) :
  lF [.int n,.lam k E ns l] c=.ok (aQ (k7 n f)) c:=To hn (Tp λi hi=>Xr hk hl hn λj hj hne=>hm i j hi hj hne)
end
def Rj{kk:Nat}{m:List D->aa->R D}{d1:af}{E:π}{ns:List Str}{js:List Nat}{e:Ev}{c:aa}{x v:D}{l:List D}(h1:d1 e c=.ok x c)(hg:getAll e js=ζ l)(h2:m [x,.lam kk E ns l] c=.ok v c)(hv:noRef v=θ):x8 kk m d1 E ns js e c=.ok v c:=by
 unfold x8;rw[h1];simp only[R.aB];rw[hg];dsimp only;rw[h2];simp only[R.aB];rw[if_pos hv]
def Bj:∀l:List Nat,gS (nD l)=ζ (l.map λn:Nat=>PyData.int (n:Int))
 |[]=>rfl
 |n::ns=>by
  show(match d8 (.int (n:Int)),gS (nD ns)with|some a,ζ r=>ζ (a::r)|_,_=>η)=_
  rw[Bj ns];rfl
def RC(l:List Nat)(k:Nat):((l.map λn:Nat=>PyData.int (n:Int)).any λz=>z.eqv (.int (k:Int)))=decide (k∈l):=by
 rw[List.any_map,ao8,apT,decide_eq_true_eq];refine⟨fun⟨x,hx,e⟩=>?_,λh=>⟨k,h,?_⟩⟩
 ·have:(x:Int)=(k:Int):=by simpa[PyData.eqv]using e
  have:x=k:=by omega
  exact this▸hx
 ·simp[PyData.eqv]
def ac1(l:List Nat)(k:Nat)(c:aa):xg (.int (k:Int)) (.tup (nD l)) c=.ok (.bl (!decide (k∈l))) c:=by
 have h1:fy c (.int (k:Int))=ζ (.int (k:Int)):=rfl;have h2:fy c (.tup (nD l))=ζ (.tuple (l.map λn:Nat=>PyData.int (n:Int))):=by
  show(match gS (nD l)with|some r=>ζ (PyData.tuple r)|none=>η)=_
  rw[Bj]
 unfold xg;rw[h1,h2];dsimp only;rw[if_pos (by simp[PyData.depth]),RC]
def xE(l:List Nat)(k:Nat)(c:aa):inD (.int (k:Int)) (.tup (nD l)) c=.ok (.bl (decide (k∈l))) c:=by
 have h1:fy c (.int (k:Int))=ζ (.int (k:Int)):=rfl;have h2:fy c (.tup (nD l))=ζ (.tuple (l.map λn:Nat=>PyData.int (n:Int))):=by
  show(match gS (nD l)with|some r=>ζ (PyData.tuple r)|none=>η)=_
  rw[Bj]
 unfold inD;rw[h1,h2];dsimp only;rw[if_pos (by simp[PyData.depth]),RC]
def Ab(w:List (List Nat))(c:aa):bC [aQ w] c=.ok (.int (w.length:Nat)) c:=by
 unfold aQ;rw[JZ,an2]
def uC{w:List (List Nat)}{i:Nat}{r:List Nat}(h:w[i]? = ζ r)(c:aa):aE (aQ w) (.int (i:Int)) c=.ok (.tup (nD r)) c:=by
 unfold aQ;rw[Cs,l9 (v:=.tup (nD r)) (by rw[aoH,h];rfl)]
def DE:∀l:List Nat,eU (nD l)=θ
 |[]=>rfl
 |n::l=>by
  show(eZ (.int n)&&eU (nD l))=θ;rw[DE l];rfl
def MQ(w:List (List Nat)):eZ (aQ w)=θ:=by
 unfold aQ;show eU _=θ
 induction w with
 |nil=>rfl
 |cons r w ih =>
  rw[an8];show(eZ (.tup (nD r))&&eU _)=θ;rw[ih,Bool.and_true];exact DE r
def BC{m:List D->aa->R D}{d1 d2 d3:af}{e:Ev}{c:aa}{x y z v:D}(h1:d1 e c=.ok x c)(h2:d2 e c=.ok y c)(h3:d3 e c=.ok z c)(h:m [x,y,z] c=.ok v c):aG 3 m (aq d1 (aq d2 (aq d3 au))) e c=.ok v c:=by
 simp only[x_call,bE,h1,h2,h3,bB,R.aB];rw[if_pos (by rfl)];exact h
def jY{m:List D->aa->R D}{d1 d2:af}{e:Ev}{c:aa}{x y v:D}(h1:d1 e c=.ok x c)(h2:d2 e c=.ok y c)(h:m [x,y] c=.ok v c):aG 2 m (aq d1 (aq d2 au)) e c=.ok v c:=by
 simp only[x_call,bE,h1,h2,bB,R.aB];rw[if_pos (by rfl)];exact h
def jD{m:List D->aa->R D}{d1:af}{e:Ev}{c:aa}{x v:D}(h1:d1 e c=.ok x c)(h:m [x] c=.ok v c):aG 1 m (aq d1 au) e c=.ok v c:=by
 simp only[x_call,bE,h1,bB,R.aB];rw[if_pos (by rfl)];exact h
def lz{n:Nat}{b:ah}{xs:List D}{c:aa}{v:D}(h:b (cF n xs) c=.ok (.rt v) c)(hv:noRef v=θ)(hr:∀k,v≠.ref k):ck n Δ b xs c=.ok v c:=by
 rw[fL,h];simp only[R.aB];cases v<;>first|exact absurd rfl (hr _)|(unfold cA;dsimp only;rw[if_pos hv,ao6])
def FF{d2:af}{e:Ev}{c:aa}{a s:Nat}{t u:ah}{d1:af}(h1:d1 e c=.ok (.int (a:Int)) c)(h2:d2 e c=.ok (.int (s:Int)) c):bh (aM (av cL d1 d2)) t u e c=if a≠s then t e c else u e c:=by
 by_cases q:a=s
 ·subst q;simp[h1,h2]
 ·have q':¬((a:Int)=s):=by omega
  simp[h1,h2,q,q']
def KN{d1 d2 d3:af}{e:Ev}{c:aa}{x y z:D}(h1:d1 e c=.ok x c)(h2:d2 e c=.ok y c)(h3:d3 e c=.ok z c):bf (aq d1 (aq d2 (aq d3 au))) e c=.ok (.tup [x,y,z]) c:=by
 have:(3:Nat)<=ε:=cC (by decide)
 simp only[j9,bE,h1,h2,h3,bB,R.aB];rw[if_pos (by exact this)]
def nC{d1 d2:af}{e:Ev}{c:aa}{x y:D}(h1:d1 e c=.ok x c)(h2:d2 e c=.ok y c):bf (aq d1 (aq d2 au)) e c=.ok (.tup [x,y]) c:=by
 have:(2:Nat)<=ε:=cC (by decide)
 simp only[j9,bE,h1,h2,bB,R.aB];rw[if_pos (by exact this)]
def KL{d1 d2 d3 d4:af}{e:Ev}{c:aa}{x y z u:D}(h1:d1 e c=.ok x c)(h2:d2 e c=.ok y c)(h3:d3 e c=.ok z c)(h4:d4 e c=.ok u c):bf (aq d1 (aq d2 (aq d3 (aq d4 au)))) e c=.ok (.tup [x,y,z,u]) c:=by
 have:(4:Nat)<=ε:=cC (by decide)
 simp only[j9,bE,h1,h2,h3,h4,bB,R.aB];rw[if_pos (by exact this)]
def iR{f:List D->aa->R D}{d1:af}{e:Ev}{c:aa}{x v:D}(h1:d1 e c=.ok x c)(h:f [x] c=.ok v c):aJ f (aq d1 au) e c=.ok v c:=by
 simp only[iG,bE,h1,bB,R.aB];exact h
def kh{i:Nat}{d:af}{e:Ev}{c:aa}{v:D}(h:d e c=.ok v c):aH i d e c=.ok (.nx (e.set i (ζ v))) c:=by rw[fK,h];rfl
def jI{d:af}{e:Ev}{c:aa}{v:D}(h:d e c=.ok v c):aR d e c=.ok (.rt v) c:=by rw[iF,h];rfl
def Dg(a m:Nat):aO ((a:Int)+1) (m:Int)=nD (List.range' (a+1) (m-(a+1))):=by
 apply asw;intro i
 by_cases h:i<m-(a+1)
 ·have h1:i<(aO ((a:Int)+1) (m:Int)).length:=by rw[dP];omega
  have:=ki (anZ h1);rw[anZ h1,this.2];simp[nD,List.getElem?_range' h]
 ·rw[apt (by rw[dP];omega),apt (by simp[nD];omega)]
def Bh{d:af}{e:Ev}{c c':aa}{v:D}(h:d e c=.ok v c'):cW d e c=.ok (.nx e) c':=by rw[rM,h];rfl
def lV{sr:Ev->aa->R Src}{g:Gd}{s:ah}{e:Ev}{c:aa}{l:List D}{r:R Fl}(h1:sr e c=.ok ⟨l,λ_=>True⟩ c)(h2:b8 (λ_=>True) g s l e c=r):bJ sr g s e c=r:=by
 rw[gy,h1];exact h2
def tS{d:af}{e:Ev}{c:aa}{q:Int}(h:d e c=.ok (.int q) c)(bq:-4611686018427387904<=q/\q<4611686018427387904):bH (aq d au) e c=.ok ⟨aO 0 q,λ_=>True⟩ c:=by
 simp only[gw,bE,h,bB,R.aB];rw[if_pos (by omega)]
def cP{f:D->D->aa->R D}{d1 d2:af}{e:Ev}{c:aa}{x y:D}{r:R D}(h1:d1 e c=.ok x c)(h2:d2 e c=.ok y c)(h:f x y c=r):av f d1 d2 e c=r:=by
 rw[cJ,h1];simp only[R.aB];rw[h2];exact h
def Dh{d1 d2:af}{e:Ev}{c:aa}{p q:Int}(h1:d1 e c=.ok (.int p) c)(h2:d2 e c=.ok (.int q) c)(bp:-4611686018427387904<=p/\p<4611686018427387904)(bq:-4611686018427387904<=q/\q<4611686018427387904):eV (aq d1 (aq d2 au)) e c=.ok ⟨aO p q,λ_=>True⟩ c:=by
 simp only[nA,bE,h1,h2,bB,R.aB];rw[if_pos ⟨by omega,by omega,by omega,by omega⟩]
def wF(m:Nat)(f:Nat->Nat->Bool):List (List Nat):=(ι m).map (fj m f)
def Xp(m:Nat)(f:Nat->Nat->Bool):pT m f=aQ (wF m f):=by
 unfold pT aQ wF;rw[aos];rfl
def rO(m:Nat)(f:Nat->Nat->Bool):(wF m f).length=m:=by simp[wF]
def vZ{m i:Nat}(f:Nat->Nat->Bool)(h:i<m):(wF m f).getD i []=fj m f i:=by
 rw[aof];simp[wF,h]
def ajX{dO:af}{e:Ev}{c:aa}{l:List Bool}(h:dO e c=.ok (.lst (l.map D.bl)) c):jA dO (dC (.bl θ)) e c=.ok (.int (l.countP id:Nat)) c:=by
 unfold jA;rw[h];simp only[R.aB,dY];rw[BE]
def wC{d:af}{e:Ev}{c:aa}{l:List D}(h:d e c=.ok (.lst l) c):cy d e c=.ok ⟨l,λ_=>True⟩ c:=by
 unfold cy;rw[h];rfl
def ya{sr:Ev->aa->R Src}{pick:List (Option Nat)}{g:Gd}{t:ai}{a:af}{e:Ev}{c:aa}{items l:List D}(h1:sr e c=.ok ⟨items,λ_=>True⟩ c)(hl:items.length<ε)(h2:bz (λ_=>True) g t a items (dH pick e) [] c=.ok l c):bA sr pick g t a e c=.ok (.lst l) c:=by
 rw[ff,h1];simp only[R.aB];rw[if_pos hl,h2];rfl
def sj{i:Nat}{d:af}{e:Ev}{c c':aa}{v:D}(h:d e c=.ok v c'):aH i d e c=.ok (.nx (e.set i (ζ v))) c':=by rw[fK,h];rfl
def ah6(l:List D)(c d:aa)(h:bI l=θ):cA Δ c.length (.tup l) (c++d)=.ok (.tup l) c:=by
 have h':noRef (.tup l)=θ:=by unfold noRef;exact h
 unfold cA;dsimp only;rw[if_pos h',apY]
def ahS{n:Nat}{b:ah}{xs:List D}{c d:aa}{l:List D}(h:b (cF n xs) c=.ok (.rt (.tup l)) (c++d))(nr:bI l=θ):ck n Δ b xs c=.ok (.tup l) c:=by
 rw[fL,h];exact ah6 l c d nr
def akr{m:List D->aa->R D}{d1 d2:af}{e:Ev}{c c':aa}{x y v:D}{i:Nat}(h1:d1 e c=.ok x c)(h2:d2 e c=.ok y c)(h:m [x,y] c=.ok v c'):aH i (aG 2 m (aq d1 (aq d2 au))) e c=.ok (.nx (e.set i (ζ v))) c':=by
 rw[fK,x_call];simp only[bE,h1,h2,bB,R.aB];rw[if_pos (by rfl),h]
 rfl
def adj{m a b:Nat}(f:Nat->Nat->Bool)(hb:b<m):decide (b∈fj m f a)=f a b:=by
 unfold fj;cases h:f a b<;>simp[aoQ,hb,h]
def Tj{x lo hi:Int}(h1:lo<=x)(h2:x<=hi)(c:aa):qq [.int x,.int lo,.int hi] c=.ok (.bl θ) c:=by
 simp[qq,vG,DO,vH,h1,h2]
def alu(x y:Nat)(c:aa):bx (.int (x:Int)) (.int (y:Int)) c=.ok (.int ((x+y:Nat):Int)) c:=by
 rw[Int.natCast_add];rfl
def iH(f:Nat->Nat->Bool)(s:List Nat):Nat->Nat->Bool:=λp q=>f p q != (decide (p∈s) != decide (q∈s))
def zS(x y:Bool)(c:aa):cL (.bl x) (.bl y) c=.ok (.bl (x != y)) c:=by cases x<;>cases y<;>rfl
def De(s:List Nat)(m:Nat):Prop:=Up s/\∀x∈s,x<m
def wM:ah:=(aD (bh (gT (aM (aG 3 qq (aq (ak 3) (aq (ak 2) (aq (av fO (ak 1) (dC (.int 1))) au)))))) (aR (dC (.bl Δ))) bF) (aH 2 (av bx (ak 3) (dC (.int 1)))))
def LB{m:Nat}{T:D}{c:aa}:∀(s:List Nat) (lo:Nat) (v:Option D),Up s->(∀x∈s,lo<=x/\x<m)->∃lo' v',b8 (λ_=>True) (aA 3) wM (nD s) [ζ T,ζ (.int m),ζ (.int lo),v] c=.ok (.nx [ζ T,ζ (.int m),ζ (.int (lo':Nat)),v']) c
 |[],lo,v,_,_=>⟨lo,v,by simp[nD]⟩
 |x::s,lo,v,hu,h=>by
  obtain⟨h1,h2⟩:=h x (.head _);have hw:=Tj (x:=x) (lo:=lo) (hi:=(m:Int)-1) (by omega) (by omega) c
  have hc:=BC (m:=qq) (d1:=ak 3) (d2:=ak 2) (d3:=av fO (ak 1) (dC (.int 1))) (e:=[ζ T,ζ (.int m),ζ (.int lo),ζ (.int x)]) (c:=c) rfl rfl (cP rfl rfl rfl) hw;have e0:bh (gT (aM (aG 3 qq (aq (ak 3) (aq (ak 2) (aq (av fO (ak 1) (dC (.int 1))) au)))))) (aR (dC (.bl Δ))) bF [ζ T,ζ (.int m),ζ (.int lo),ζ (.int x)] c=.ok (.nx [ζ T,ζ (.int m),ζ (.int lo),ζ (.int x)]) c:=by
   rw[gx,JX,ir,hc];rfl
  have e1:aH 2 (av bx (ak 3) (dC (.int 1))) [ζ T,ζ (.int m),ζ (.int lo),ζ (.int x)] c=.ok (.nx [ζ T,ζ (.int m),ζ (.int ((x+1:Nat):Int)),ζ (.int x)]) c:=kh (cP rfl rfl (alu x 1 c));have hb:wM [ζ T,ζ (.int m),ζ (.int lo),ζ (.int x)] c=.ok (.nx [ζ T,ζ (.int m),ζ (.int ((x+1:Nat):Int)),ζ (.int x)]) c:=by
   unfold wM;rw[bw e0,e1]
  obtain⟨lo',v',ih⟩:=LB (T:=T) (c:=c) s (x+1) (ζ (.int x)) (apJ.mp hu).2 λy hy=>⟨by have:=(apJ.mp hu).1 y hy;omega,(h y (.tail _ hy)).2⟩
  refine⟨lo',v',?_⟩;have e1:nD (x::s)=.int (x:Int)::nD s:=rfl;have hg:aA 3 (.int (x:Int)) [ζ T,ζ (.int m),ζ (.int lo),v] c=.ok [ζ T,ζ (.int m),ζ (.int lo),ζ (.int x)] c:=rfl;rw[e1,gD,hg,R.aB,hb];exact ih
def WE{d:af}{e:Ev}{c:aa}{l:List D}(h:d e c=.ok (.tup l) c):jz d e c=.ok ⟨l,λ_=>True⟩ c:=by
 rw[Cr,h];rfl
def XO{m:Nat}{s:List Nat}(h:De s m)(c:aa):xy [.tup (nD s),.int m] c=.ok (.bl θ) c:=by
 refine lz ?_ rfl (λk h=>by cases h)
 show rj [ζ (.tup (nD s)),ζ (.int m),η,η] c=_;have e0:bh (gT (aM (aJ bG (aq (ak 0) (aq (dC (.ty "tuple")) au))))) (aR (dC (.bl Δ))) bF [ζ (.tup (nD s)),ζ (.int m),η,η] c=.ok (.nx [ζ (.tup (nD s)),ζ (.int m),η,η]) c:=rfl;have e1:aH 2 (dC (.int 0)) [ζ (.tup (nD s)),ζ (.int m),η,η] c=.ok (.nx [ζ (.tup (nD s)),ζ (.int m),ζ (.int ((0:Nat):Int)),η]) c:=rfl;obtain⟨lo',v',h2⟩:=LB (T:=.tup (nD s)) (c:=c) s 0 η h.1 λx hx=>⟨aoz _,h.2 x hx⟩
 have e2:=lV (g:=aA 3) (s:=wM) (WE (d:=ak 0) (e:=[ζ (.tup (nD s)),ζ (.int m),ζ (.int ((0:Nat):Int)),η]) (c:=c) (l:=nD s) rfl) h2;have hb:rj=aD (bh (gT (aM (aJ bG (aq (ak 0) (aq (dC (.ty "tuple")) au))))) (aR (dC (.bl Δ))) bF) (aD (aH 2 (dC (.int 0))) (aD (bJ (jz (ak 0)) (aA 3) wM) (aR (dC (.bl θ))))):=rfl;rw[hb,bw e0,bw e1,bw e2];rfl
def UB{m:Nat}(f:Nat->Nat->Bool){s:List Nat}(hm:m<60)(h:De s m)(c:aa):qe [aQ (wF m f),.tup (nD s)] c=.ok (aQ (k7 m (iH f s))) c:=by
 have hl:=Ab (wF m f) c;rw[rO]at hl;have nl:eU [aQ (wF m f),D.tup (nD s)]=θ:=by
  show(eZ (aQ (wF m f))&&(eZ (.tup (nD s))&&eU []))=θ;rw[MQ];show eU (nD s)&&θ=θ;rw[DE];rfl
 have hw:=J9 (k:=1) (n:=m) (E:=BS) (ns:=["web","some"]) (l:=[aQ (wF m f),.tup (nD s)]) (m:=i8 oA) (c:=c) (f:=iH f s) rfl nl (by omega) λi j hi hj _=>by
  show oA [ζ (.int i),ζ (.int j),ζ (aQ (wF m f)),ζ (.tup (nD s))] c=_;have h1:=uC (w:=wF m f) (i:=i) (r:=fj m f i) (by simp[wF,hi]) c
  have hin:=xE (fj m f i) j c;rw[adj f hj]at hin;unfold oA;exact cP (cP rfl (cP rfl rfl h1) hin) (cP (cP rfl rfl (xE s i c)) (cP rfl rfl (xE s j c)) (zS _ _ c)) (zS _ _ c)
 refine lz ?_ (vX _) (λk h=>by cases h)
 show qR [ζ (aQ (wF m f)),ζ (.tup (nD s))] c=_;have hr:=jY (m:=xy) (d1:=ak 1) (d2:=aJ bC (aq (ak 0) au)) (e:=[ζ (aQ (wF m f)),ζ (.tup (nD s))]) (c:=c) rfl (iR rfl hl) (XO h c);have e0:bh (gT (aM (aG 2 xy (aq (ak 1) (aq (aJ bC (aq (ak 0) au)) au))))) tQ bF [ζ (aQ (wF m f)),ζ (.tup (nD s))] c=.ok (.nx [ζ (aQ (wF m f)),ζ (.tup (nD s))]) c:=by
  rw[gx,JX,ir,hr];rfl
 unfold qR;rw[bw e0];exact jI (Rj (m:=lF) (iR rfl hl) rfl hw (vX _))
def PZ{α:Type}[DecidableEq α]{F:α->agk}(h:∀a b,(F a).eqv (F b)=decide (a=b)):∀l l':List α,PyData.eqvAll (l.map F) (l'.map F)=decide (l=l')
 |[],[]=>rfl
 |[],_::_=>by simp[PyData.eqvAll]
 |_::_,[]=>by simp[PyData.eqvAll]
 |a::l,b::l'=>by
  rw[an8,an8,PyData.eqvAll,h a b,PZ h l l']
  by_cases e:a=b
  ·subst e;by_cases e':l=l'<;>simp[e']
  ·simp[e]
def Qd{α:Type}{F:α->agk}{n:Nat}(h:∀a,(F a).depth<=n):∀l:List α,PyData.depthAll (l.map F)<=n
 |[]=>by simp[PyData.depthAll]
 |a::l=>by
  have h1:=h a;have h2:=Qd h l;rw[an8,PyData.depthAll];omega
def nQ(r:List Nat):agk:=.tuple (r.map λn:Nat=>PyData.int (n:Int))
def afQ(a b:Nat):(PyData.int (a:Int)).eqv (.int (b:Int))=decide (a=b):=by
 have:(PyData.int (a:Int)).eqv (.int (b:Int))=((a:Int)==(b:Int)):=by simp[PyData.eqv]
 rw[this]
 by_cases h:a=b
 ·subst h;simp
 ·have:¬(a:Int)=(b:Int):=by omega
  simp[h,this]
def Xw(r r':List Nat):(nQ r).eqv (nQ r')=decide (r=r'):=by
 unfold nQ;rw[PyData.eqv,PZ afQ]
def UM{f:Nat->Nat->Bool}(h:∀i,f i i=Δ)(s:List Nat)(i:Nat):iH f s i i=Δ:=by
 unfold iH;rw[h];simp
def UL{f:Nat->Nat->Bool}(h:ic f)(s:List Nat):ic (iH f s):=by
 refine⟨UM h.1 s,λi k=>?_⟩
 unfold iH;rw[h.2 i k];cases decide (i∈s)<;>cases decide (k∈s)<;>rfl
def wW(w:List (List Nat))(i j:Nat):Bool:=!decide (j∈w.getD i [])
def jv(w:List (List Nat)):List (List Nat):=k7 w.length (wW w)
def aaq{w:List (List Nat)}(hn:w.length<1000)(c:aa):qg [aQ w] c=.ok (aQ (jv w)) c:=by
 have hw:=J9 (k:=0) (n:=w.length) (E:=yx) (ns:=["web"]) (l:=[aQ w]) (m:=i8 oB) (c:=c) (f:=wW w) rfl (by show(eZ (aQ w)&&eU [])=θ;rw[MQ];rfl) hn λi j hi hj hne=>by
  have h1:=uC (anZ hi) c;have h2:=ac1 w[i] j c;have e:wW w i j = !decide (j∈w[i]):=by unfold wW;rw[aof,anZ hi];rfl
  rw[e];show oB [ζ (.int i),ζ (.int j),ζ (aQ w)] c=_;unfold oB;simp only[cJ,br,gz,gs,R.aB,h1];exact h2
 have hb:=Rj (kk:=0) (m:=lF) (d1:=aJ bC (aq (ak 0) au)) (E:=yx) (ns:=["web"]) (js:=[0]) (e:=[ζ (aQ w)]) (by simp only[iG,bE,br,gz,bB,R.aB];exact Ab w c) rfl hw (vX _)
 rw[qg,fL];unfold vg;have es:cF 1 [aQ w]=[ζ (aQ w)]:=rfl;rw[es,iF,hb];simp only[R.aB];show cA Δ c.length (aQ (jv w)) c=_;have nr:=vX (jv w);unfold aQ at nr ⊢;unfold cA;dsimp only;rw[if_pos nr,ao6]
def iI(i:Nat)(r:List Nat):List (Nat×Nat):=(r.filter λj=>decide (i<j)).map λj=>(i,j)
def eX(w:List (List Nat)):List (Nat×Nat):=(w.mapIdx iI).flatten
def UR(i:Nat)(r:List Nat)(v:Option D)(c:aa):bz (λ_=>True) (aA 0) (aM (av gK (ak 1) (ak 0))) (bf (aq (ak 1) (aq (ak 0) au))) (nD r) [v,ζ (.int i)] [] c=.ok ((iI i r).map aL) c:=by
 have h2:(2:Nat)<=ε:=cC (by decide)
 have:=jV (E:=[ζ (.int i)]) (t:=(aM (av gK (ak 1) (ak 0)))) (a:=(bf (aq (ak 1) (aq (ak 0) au)))) (c:=c) (λj:Nat=>D.int (j:Int)) (λj=>aL (i,j)) (λj=>decide (i<j)) r v [] (λj _=>by
  by_cases h:i<j
  ·have h':(i:Int)<j:=by omega
   simp[h,h']
  ·have h':¬(i:Int)<j:=by omega
   simp[h,h']) (λj _ _=>by simp[h2,aL])
 rw[an9]at this;unfold iI;rw[aos];exact this
def wm:ah:=(cW (dw (ak 1) (bA (jz (ak 3)) [η,ζ 2] (aA 0) (aM (av gK (ak 1) (ak 0))) (bf (aq (ak 1) (aq (ak 0) au))))))
def UP{i:Nat}{r:List Nat}{acc:List (Nat×Nat)}{c:aa}(a0:Option D)(hr:r.length<1000)(ha:acc.length+1000<1000000) :
  wm [a0,ζ (.ref c.length),ζ (.int i),ζ (.tup (nD r))] (c++[.lst (acc.map aL)])=.ok (.nx [a0,ζ (.ref c.length),ζ (.int i),ζ (.tup (nD r))]) (c++[.lst ((acc++iI i r).map aL)]):=by
 have hs:1000000<=ε:=by decide
 have hc:=UR i r η (c++[.lst (acc.map aL)]);have hl:(iI i r).length<=r.length:=by unfold iI;rw[an2];exact apZ _ _
 have hd:bA (jz (ak 3)) [η,ζ 2] (aA 0) (aM (av gK (ak 1) (ak 0))) (bf (aq (ak 1) (aq (ak 0) au))) [a0,ζ (.ref c.length),ζ (.int i),ζ (.tup (nD r))] (c++[.lst (acc.map aL)])=.ok (.lst ((iI i r).map aL)) (c++[.lst (acc.map aL)]):=by
  simp only[ff,Cr,br,gz,gs,R.aB];rw[if_pos (by simp[nD];omega)]
  have ep:dH [η,ζ 2] [a0,ζ (D.ref c.length),ζ (.int i),ζ (.tup (nD r))]=[η,ζ (.int i)]:=rfl;rw[ep,hc];rfl
 have hx:dw (ak 1) (bA (jz (ak 3)) [η,ζ 2] (aA 0) (aM (av gK (ak 1) (ak 0))) (bf (aq (ak 1) (aq (ak 0) au)))) [a0,ζ (.ref c.length),ζ (.int i),ζ (.tup (nD r))] (c++[.lst (acc.map aL)])=.ok .aF (c++[.lst ((acc++iI i r).map aL)]):=by
  unfold dw;simp only[br,gz,gs,R.aB,hd];have hg:(c++[Cell.lst (acc.map aL)])[c.length]? = ζ (.lst (acc.map aL)):=by simp
  rw[hg];dsimp only;rw[if_pos ⟨by simp only[an2];omega,MP _⟩]
  simp
 unfold wm;rw[rM,hx];rfl
def UO(w:List (List Nat)){i:Nat}(h:i<w.length):eX (w.take i)++iI i w[i]=eX (w.take (i+1)):=by
 unfold eX;rw[aq7 h,List.mapIdx_append,List.flatten_append];simp[asz (apl h)]
def K7{m:Nat}:∀{l:List Nat},(∀x∈l,x<=m)->l.sum<=l.length*m
 |[],_=>by simp
 |x::l,h=>by
  have h1:=h x (.head _);have h2:=K7 λy hy=>h y (.tail _ hy)
  rw[List.sum_cons,an4,apr];omega
def UN(w:List (List Nat))(m:Nat)(h:∀r∈w,r.length<=m):(eX w).length<=w.length*m:=by
 unfold eX;rw[List.length_flatten];have:∀x∈(w.mapIdx iI).map List.length,x<=m:=λx hx=>by
  obtain⟨l,hl,rfl⟩:=aoa.mp hx;obtain⟨i,hi,rfl⟩:=asA.mp hl;refine aom ?_ (h _ (aoE hi));unfold iI;rw[an2];exact apZ _ _
 have:=K7 this
 simpa using this
def KR{w:List (List Nat)}(hw:w.length<64)(hr:∀r∈w,r.length<=64)(c:aa):lG [aQ w] c=.ok (.lst ((eX w).map aL)) c:=by
 have hf:=Aw (α:=Option D×Option D) (st:=λ_=>True) (g:=dI 2 (bR (aA 2) (bR (aA 3) dQ))) (s:=wm) (λi=>c++[.lst ((eX (w.take i)).map aL)]) (λ_ v=>[ζ (aQ w),ζ (.ref c.length),v.1,v.2]) ((w.map λr=>D.tup (nD r)).mapIdx λi x=>.tup [.int i,x]) 0 (η,η) (λ_ _=>trivial) (λi x hx v=>by
  rw[aog];have hi:i<w.length:=by have:=(an7.mp hx).1;simpa using this
  have ex:x=.tup [.int i,.tup (nD w[i])]:=by
   rw[arN,aoH,anZ hi]at hx;cases hx;rfl
  subst ex;have hl:=UN (w.take i) 64 λr h=>hr r (aor h)
  have h3:(w.take i).length*64<=64*64:=apk (by rw[apz];omega) (anU _)
  have hs:=UP (i:=i) (r:=w[i]) (acc:=eX (w.take i)) (c:=c) (ζ (aQ w)) (by have:=hr _ (aoE hi);omega) (by omega)
  rw[UO w hi]at hs;exact⟨_,by simp,(ζ (.int i),ζ (.tup (nD w[i]))),hs⟩)
 obtain⟨v',hf⟩:=hf;have hln:((w.map λr=>D.tup (nD r)).mapIdx λi x=>D.tup [.int i,x]).length=w.length:=by simp
 rw[aog,hln,ao6]at hf;have e0:eX (w.take 0)=[]:=rfl;rw[e0,aqR]at hf;have hb:vd=aD (aH 1 (cU au)) (aD (bJ (l5 (aq (ak 0) au)) (dI 2 (bR (aA 2) (bR (aA 3) dQ))) wm) (aR (ak 1))):=rfl;have h0:(0:Nat)<=ε:=aoz _;rw[lG,fL,hb];have es:cF 4 [aQ w]=[ζ (aQ w),η,η,η]:=rfl;have e1:aH 1 (cU au) [ζ (aQ w),η,η,η] c=.ok (.nx [ζ (aQ w),ζ (.ref c.length),η,η]) (c++[.lst []]):=by simp
 have e2:bJ (l5 (aq (ak 0) au)) (dI 2 (bR (aA 2) (bR (aA 3) dQ))) wm [ζ (aQ w),ζ (.ref c.length),η,η] (c++[.lst []])=.ok (.nx [ζ (aQ w),ζ (.ref c.length),v'.1,v'.2]) (c++[.lst ((eX w).map aL)]):=by
  rw[gy];unfold l5;simp only[bE,br,gz,bB,R.aB];exact hf
 rw[es,bw e1,bw e2];simp only[iF,br,gz,gs,R.aB];show cA Δ c.length (.ref c.length) (c++[.lst ((eX w).map aL)])=_;simp[cA]
structure Wk (w:List (List Nat)):Prop where
 len:w.length<64
 row:∀r∈w,Up r/\∀x∈r,x<w.length
def Wk.short{w:List (List Nat)}(h:Wk w){r:List Nat}(hr:r∈w):r.length<=w.length:=Ku (h.row r hr).1 (h.row r hr).2
def fC(w:List (List Nat))(p:Nat×Nat):Nat:=l8 (w.getD p.1 []) (w.getD p.2 [])
def Nn{w:List (List Nat)}(h:Wk w){r:List Nat}(hr:r∈w)(c:aa):lE c (.tup (nD r))=ζ r:=by
 obtain⟨h1,h2⟩:=h.row r hr;have hl:=h.len;have:=Ku (yQ r) (m:=w.length) (λx hx=>h2 x (zX.mp hx))
 exact adm (by omega) λx hx=>by have:=h2 x hx;omega
def aes{a b:aj}{e:Ev}{c:aa}{x y:D}{ns ms:List Nat}(ha:a e c=.ok [x] c)(hb:b e c=.ok [y] c)(hx:lE c x=ζ ns)(hy:lE c y=ζ ms):uP a b e c=.ok (.int (l8 ns ms:Nat)) c:=by
 unfold uP;rw[ha];simp only[R.aB];rw[hx];dsimp only;rw[hb];simp only[R.aB];rw[hy]
def Qo{w:List (List Nat)}(h:Wk w){a b:Nat}(ha:a<w.length)(hb:b<w.length)(c:aa):oq [aQ w,.int a,.int b] c=.ok (.int (fC w (a,b):Nat)) c:=by
 have h1:=uC (anZ ha) c;have h2:=uC (anZ hb) c;have e:uP (aq (av aE (ak 0) (ak 1)) au) (aq (av aE (ak 0) (ak 2)) au) [ζ (aQ w),ζ (.int a),ζ (.int b)] c=.ok (.int (l8 w[a] w[b]:Nat)) c :=
  aes (x:=.tup (nD w[a])) (y:=.tup (nD w[b])) (by simp only[bE,cJ,br,gz,gs,bB,R.aB,h1]) (by simp only[bE,cJ,br,gz,gs,bB,R.aB,h2]) (Nn h (aoE ha) c) (Nn h (aoE hb) c)
 have e2:fC w (a,b)=l8 w[a] w[b]:=by
  unfold fC;rw[aof,aof,anZ ha,anZ hb];rfl
 rw[oq,fL];unfold vK;have es:cF 3 [aQ w,.int a,.int b]=[ζ (aQ w),ζ (.int a),ζ (.int b)]:=rfl;rw[es,iF,e,e2];simp[cA,noRef]
def jr(w:List (List Nat)):Option Nat:=w.findIdx? λr=>decide (r.length≠(w.getD 0 []).length)
def cK:Option Nat->D
 |some i=>.int (i:Nat)
 |none=>.aF
def wQ:ah:=(bh (aM (av cL (aJ bC (aq (ak 2) au)) (aJ bC (aq (av aE (ak 0) (dC (.int 0))) au)))) (aR (ak 1)) bF)
def ZD{W:D}{r r0:List Nat}{i:Nat}{c:aa}(h0:aE W (.int 0) c=.ok (.tup (nD r0)) c):wQ [ζ W,ζ (.int i),ζ (.tup (nD r))] c=if r.length≠r0.length then .ok (.rt (.int i)) c else .ok (.nx [ζ W,ζ (.int i),ζ (.tup (nD r))]) c:=by
 have l1:(nD r).length=r.length:=by simp[nD]
 have l0:(nD r0).length=r0.length:=by simp[nD]
 unfold wQ
 by_cases e:r.length=r0.length
 ·simp[h0,l1,l0,e]
 ·have e':¬((r.length:Int)=(r0.length:Int)):=by omega
  simp[h0,l1,l0,e,e']
def LN{W:D}{r0:List Nat}{c:aa}(h0:aE W (.int 0) c=.ok (.tup (nD r0)) c):∀(w:List (List Nat)) (k:Nat) (v1 v2:Option D),∃u1 u2,b8 (λ_=>True) (dI 2 (bR (aA 1) (bR (aA 2) dQ))) wQ ((w.map λr=>D.tup (nD r)).mapIdx λi x=>.tup [.int ((k+i:Nat):Int),x]) [ζ W,v1,v2] c =
  (match w.findIdx? λr=>decide (r.length≠r0.length)with|some i=>.ok (.rt (.int ((k+i:Nat):Int))) c|none=>.ok (.nx [ζ W,u1,u2]) c)
 |[],k,v1,v2=>⟨v1,v2,by simp⟩
 |r::w,k,v1,v2=>by
  have hg:dI 2 (bR (aA 1) (bR (aA 2) dQ)) (.tup [.int ((k+0:Nat):Int),.tup (nD r)]) [ζ W,v1,v2] c=.ok [ζ W,ζ (.int ((k+0:Nat):Int)),ζ (.tup (nD r))] c:=rfl;have hs:=ZD (i:=k+0) (r:=r) h0;rw[an8,List.mapIdx_cons,gD,hg,R.aB,hs,asB]
  by_cases e:r.length=r0.length
  ·obtain⟨u1,u2,ih⟩:=LN h0 w (k+1) (ζ (.int ((k+0:Nat):Int))) (ζ (.tup (nD r)));refine⟨u1,u2,?_⟩;rw[if_neg (by simp[e])]
   simp only[R.aB];have e1:((w.map λr=>D.tup (nD r)).mapIdx λi x=>D.tup [.int ((k+(i+1):Nat):Int),x])=((w.map λr=>D.tup (nD r)).mapIdx λi x=>D.tup [.int ((k+1+i:Nat):Int),x]):=by
    congr 1;funext i x;congr 4;omega
   rw[e1,ih];simp only[e,ne_eq,not_true_eq_false,decide_false];cases w.findIdx? λr=>decide (r.length≠r0.length)with
   |none=>rfl
   |some i =>
    simp only[Option.map_some]
    congr 4;omega
  ·refine⟨η,η,?_⟩;rw[if_pos (by simpa using e)]
   simp only[R.aB];simp[e]
def Zz{w:List (List Nat)}(h0:0<w.length)(c:aa):ux [aQ w] c=.ok (cK (jr w)) c:=by
 have hi:aE (aQ w) (.int 0) c=.ok (.tup (nD (w.getD 0 []))) c:=by
  have:=uC (anZ h0) c;rw[aof,anZ h0];exact this
 obtain⟨u1,u2,hf⟩:=LN hi w 0 η η;simp only[aog]at hf;have e2:bJ (l5 (aq (ak 0) au)) (dI 2 (bR (aA 1) (bR (aA 2) dQ))) wQ [ζ (aQ w),η,η] c=(match jr w with|some i=>.ok (.rt (.int (i:Int))) c|none=>.ok (.nx [ζ (aQ w),u1,u2]) c):=by
  rw[gy];unfold l5;simp only[bE,br,gz,bB,R.aB];exact hf
 have hb:vI=aD (bJ (l5 (aq (ak 0) au)) (dI 2 (bR (aA 1) (bR (aA 2) dQ))) wQ) (aR (dC .aF)):=rfl;rw[ux,fL,hb];have es:cF 3 [aQ w]=[ζ (aQ w),η,η]:=rfl;rw[es,kc,e2];cases jr w with
 |none=>simp[cK,cA,noRef]
 |some i=>simp[cK,cA,noRef]
def iu(w:List (List Nat)):List (Nat×Nat)->Option Nat
 |[]=>η
 |p::_=>ζ (fC w p)
def vP(w:List (List Nat))(ps:List (Nat×Nat)):Prop:=∀p∈ps,p.1<w.length/\p.2<w.length
def Mf(o:Option Nat):noRef (cK o)=θ/\∀k,cK o≠.ref k:=by
 cases o<;>exact⟨rfl,λk h=>by cases h⟩
def Fz(p:Nat×Nat)(c:aa):aE (aL p) (.int 0) c=.ok (.int p.1) c:=rfl
def Fy(p:Nat×Nat)(c:aa):aE (aL p) (.int 1) c=.ok (.int p.2) c:=rfl
def C2{w:List (List Nat)}(h:Wk w){ps:List (Nat×Nat)}(hp:vP w ps)(c:aa):jN [aQ w,.lst (ps.map aL)] c=.ok (cK (iu w ps)) c:=by
 rw[jN];refine lz ?_ (Mf _).1 (Mf _).2;have es:cF 2 [aQ w,.lst (ps.map aL)]=[ζ (aQ w),ζ (.lst (ps.map aL))]:=rfl;rw[es];unfold ve;cases ps with
 |nil=>simp[rV,d7,eS,iu,cK]
 |cons p ps =>
  have h1:aE (.lst ((p::ps).map aL)) (.int 0) c=.ok (aL p) c:=by
   have:=l9 (xs:=(p::ps).map aL) (j:=0) (v:=aL p) rfl;rw[ig];exact(by rw[show((0:Int))=((0:Nat):Int)from rfl,this])
  obtain⟨p1,p2⟩:=hp p (.head _);have hc:=BC (m:=oq) (d1:=ak 0) (d2:=av aE (av aE (ak 1) (dC (.int 0))) (dC (.int 0))) (d3:=av aE (av aE (ak 1) (dC (.int 0))) (dC (.int 1))) (e:=[ζ (aQ w),ζ (.lst ((p::ps).map aL))]) (c:=c) rfl (by simp only[cJ,br,dY,gz,gs,R.aB,h1,Fz]) (by simp only[cJ,br,dY,gz,gs,R.aB,h1,Fy]) (Qo h p1 p2 c)
  have ht:Bu (ak 1) [ζ (aQ w),ζ (.lst ((p::ps).map aL))] c=.ok θ c:=by simp[rV,d7,eS]
  rw[iF,S8,ht];simp only[R.aB];rw[if_pos trivial,hc];rfl
def we:ah:=(bh (aM (av cL (aG 3 oq (aq (ak 0) (aq (av aE (ak 3) (dC (.int 0))) (aq (av aE (ak 3) (dC (.int 1))) au)))) (ak 2))) (aR (ak 3)) bF)
def nB(w:List (List Nat))(s:Nat)(ps:List (Nat×Nat)):Option (Nat×Nat):=ps.find? λp=>decide (fC w p≠s)
def Uj{w:List (List Nat)}(h:Wk w){p:Nat×Nat}(hp:p.1<w.length/\p.2<w.length){s:Nat}(a1:Option D)(c:aa):we [ζ (aQ w),a1,ζ (.int s),ζ (aL p)] c=if fC w p≠s then .ok (.rt (aL p)) c else .ok (.nx [ζ (aQ w),a1,ζ (.int s),ζ (aL p)]) c:=by
 have hc:=BC (m:=oq) (d1:=ak 0) (d2:=av aE (ak 3) (dC (.int 0))) (d3:=av aE (ak 3) (dC (.int 1))) (e:=[ζ (aQ w),a1,ζ (.int s),ζ (aL p)]) (c:=c) rfl (by simp only[cJ,br,dY,gz,gs,R.aB,Fz]) (by simp only[cJ,br,dY,gz,gs,R.aB,Fy]) (Qo h hp.1 hp.2 c)
 unfold we;rw[FF hc rfl];rfl
def Kr{w:List (List Nat)}(h:Wk w){s:Nat}{a1:Option D}{c:aa}:∀(ps:List (Nat×Nat)) (v:Option D),vP w ps->∃u,b8 (λ_=>True) (aA 3) we (ps.map aL) [ζ (aQ w),a1,ζ (.int s),v] c=(match nB w s ps with|some p=>.ok (.rt (aL p)) c|none=>.ok (.nx [ζ (aQ w),a1,ζ (.int s),u]) c)
 |[],v,_=>⟨v,by simp[nB]⟩
 |p::ps,v,hp=>by
  obtain⟨u,ih⟩:=Kr (a1:=a1) h ps (ζ (aL p)) λq hq=>hp q (.tail _ hq)
  have hs:=Uj h (hp p (.head _)) (s:=s) a1 c;have hg:aA 3 (aL p) [ζ (aQ w),a1,ζ (.int s),v] c=.ok [ζ (aQ w),a1,ζ (.int s),ζ (aL p)] c:=rfl
  by_cases e:fC w p=s
  ·refine⟨u,?_⟩;rw[an8,gD,hg,R.aB,hs,if_neg (by simp[e])]
   simp only[R.aB];rw[ih];unfold nB;rw[aqw (by simp[e])]
  ·refine⟨u,?_⟩;rw[an8,gD,hg,R.aB,hs,if_pos (by simpa using e)]
   unfold nB;rw[aqx (by simpa using e)]
   rfl
def pairD:Option (Nat×Nat)->D
 |some p=>aL p
 |none=>.aF
def fN(w:List (List Nat))(ps:List (Nat×Nat)):Option (Nat×Nat):=match ps with
 |[]=>η
 |p::ps=>nB w (fC w p) (p::ps)
def Me(o:Option (Nat×Nat)):noRef (pairD o)=θ/\∀k,pairD o≠.ref k:=by
 cases o<;>exact⟨rfl,λk h=>by cases h⟩
def Uq{w:List (List Nat)}(h:Wk w){ps:List (Nat×Nat)}(hp:vP w ps)(c:aa):qu [aQ w,.lst (ps.map aL)] c=.ok (pairD (fN w ps)) c:=by
 have hs:=jY (m:=jN) (d1:=ak 0) (d2:=ak 1) (e:=[ζ (aQ w),ζ (.lst (ps.map aL)),η,η]) (c:=c) rfl rfl (C2 h hp c);have e0:aH 2 (aG 2 jN (aq (ak 0) (aq (ak 1) au))) [ζ (aQ w),ζ (.lst (ps.map aL)),η,η] c=.ok (.nx [ζ (aQ w),ζ (.lst (ps.map aL)),ζ (cK (iu w ps)),η]) c:=by
  rw[fK,hs];rfl
 have hb:vJ=aD (aH 2 (aG 2 jN (aq (ak 0) (aq (ak 1) au)))) (aD (bJ (cy (ak 1)) (aA 3) we) (aR (dC .aF))):=rfl;rw[qu];refine lz ?_ (Me _).1 (Me _).2;have es:cF 4 [aQ w,.lst (ps.map aL)]=[ζ (aQ w),ζ (.lst (ps.map aL)),η,η]:=rfl;rw[es,hb,bw e0];cases ps with
 |nil =>
  rw[kc,gy];unfold cy;simp[fN,pairD]
 |cons p ps =>
  obtain⟨u,hf⟩:=Kr (s:=fC w p) (a1:=ζ (.lst ((p::ps).map aL))) h (c:=c) (p::ps) η hp;have e1:bJ (cy (ak 1)) (aA 3) we [ζ (aQ w),ζ (.lst ((p::ps).map aL)),ζ (cK (iu w (p::ps))),η] c=(match nB w (fC w p) (p::ps)with|some p=>.ok (.rt (aL p)) c|none=>.ok (.nx [ζ (aQ w),ζ (.lst ((p::ps).map aL)),ζ (.int (fC w p:Nat)),u]) c):=by
   rw[gy];unfold cy;simp only[br,gz,gs,R.aB];exact hf
  have eu:fN w (p::ps)=nB w (fC w p) (p::ps):=rfl;rw[kc,e1,eu];cases nB w (fC w p) (p::ps)with
  |none=>simp[pairD]
  |some p=>simp[pairD]
def G9:ah:=(aD (aH 6 (aG 2 qu (aq (ak 0) (aq (ak 5) au)))) (bh (aM (av kG (ak 6) (dC .aF))) (aR (bf (aq (ak 4) (aq (av aE (ak 6) (dC (.int 0))) (aq (av aE (ak 6) (dC (.int 1))) au))))) bF))
def PV{w:List (List Nat)}(h:Wk w){ps:List (Nat×Nat)}(hp:vP w ps){c:aa}(a1 a2 a3 a6:Option D)(word:Str):∃u,G9 [ζ (aQ w),a1,a2,a3,ζ (.str word),ζ (.lst (ps.map aL)),a6] c=(match fN w ps with
  |some p=>.ok (.rt (.tup [.str word,.int p.1,.int p.2])) c
  |none=>.ok (.nx [ζ (aQ w),a1,a2,a3,ζ (.str word),ζ (.lst (ps.map aL)),u]) c):=by
 have hs:=jY (m:=qu) (d1:=ak 0) (d2:=ak 5) (e:=[ζ (aQ w),a1,a2,a3,ζ (.str word),ζ (.lst (ps.map aL)),a6]) (c:=c) rfl rfl (Uq h hp c);have e0:aH 6 (aG 2 qu (aq (ak 0) (aq (ak 5) au))) [ζ (aQ w),a1,a2,a3,ζ (.str word),ζ (.lst (ps.map aL)),a6] c=.ok (.nx [ζ (aQ w),a1,a2,a3,ζ (.str word),ζ (.lst (ps.map aL)),ζ (pairD (fN w ps))]) c:=by
  rw[fK,hs];rfl
 refine⟨ζ (pairD (fN w ps)),?_⟩;unfold G9;rw[bw e0];cases fN w ps with
 |none=>simp[pairD,g8]
 |some p =>
  have h3:=KN (x:=.str word) (y:=.int p.1) (z:=.int p.2) (d1:=ak 4) (d2:=av aE (ak 6) (dC (.int 0))) (d3:=av aE (ak 6) (dC (.int 1))) (e:=[ζ (aQ w),a1,a2,a3,ζ (.str word),ζ (.lst (ps.map aL)),ζ (aL p)]) (c:=c) rfl (by simp only[cJ,br,dY,gz,gs,R.aB,Fz]) (by simp only[cJ,br,dY,gz,gs,R.aB,Fy])
  have hn:aM (av kG (ak 6) (dC .aF)) [ζ (aQ w),a1,a2,a3,ζ (.str word),ζ (.lst (ps.map aL)),ζ (aL p)] c=.ok θ c:=rfl;show bh _ _ _ [ζ (aQ w),a1,a2,a3,ζ (.str word),ζ (.lst (ps.map aL)),ζ (aL p)] c=_;rw[gx,hn];simp only[R.aB];rw[if_pos trivial,iF,h3];rfl
def jc(w:List (List Nat)):D:=match jr w with
 |some i=>.tup [.str "place",.int (i:Nat)]
 |none=>match fN w (eX w)with
  |some p=>.tup [.str "tied",.int p.1,.int p.2]
  |none=>match fN w (eX (jv w))with
   |some p=>.tup [.str "apart",.int p.1,.int p.2]
   |none=>.tup [.str "even",.tup [.int (w.length:Nat),.int ((w.getD 0 []).length:Nat),cK (iu w (eX w)),cK (iu w (eX (jv w)))]]
def KS{w:List (List Nat)}{m:Nat}(hl:w.length<=m)(h:∀r∈w,∀x∈r,x<m):∀p∈eX w,p.1<m/\p.2<m:=λp hp=>by
 unfold eX at hp;obtain⟨l,hl',hp⟩:=List.mem_flatten.mp hp;obtain⟨i,hi,rfl⟩:=asA.mp hl';unfold iI at hp;obtain⟨j,hj,rfl⟩:=aoa.mp hp;exact⟨by simp only;omega,h _ (aoE hi) j (aoQ.mp hj).1⟩
def Kf(n:Nat)(f:Nat->Nat->Bool):∀r∈k7 n f,r.length<=n/\∀x∈r,x<n:=λr hr=>by
 obtain⟨i,_,rfl⟩:=aoa.mp hr;unfold vY;refine⟨?_,λx hx=>aod.mp (aoQ.mp hx).1⟩
 have:=apZ (λj=>decide (j≠i)&&f i j) (ι n)
 rwa[ao5]at this
def TH(n:Nat)(f:Nat->Nat->Bool):(k7 n f).length=n:=by simp[k7]
def aif{w:List (List Nat)}(h:Wk w)(h0:0<w.length)(c:aa):xx [aQ w] c=.ok (jc w) c:=by
 have hl:=h.len;have Oz:=KR (w:=w) hl (λr hr=>by have:=h.short hr;omega) c
 have jb:(jv w).length=w.length:=TH _ _;have OL:=KR (w:=jv w) (by omega) (λr hr=>by have:=(Kf _ _ r hr).1;omega) c
 have agn:=aaq (w:=w) (by omega) c
 have p1:vP w (eX w):=KS (anU _) λr hr x hx=>(h.row r hr).2 x hx
 have p2:vP w (eX (jv w)):=KS (aoY jb) λr hr x hx=>(Kf _ _ r hr).2 x hx
 generalize hps:eX w=ps at Oz p1
 generalize hqs:eX (jv w)=qs at OL p2
 have hi:aE (aQ w) (.int 0) c=.ok (.tup (nD (w.getD 0 []))) c:=by
  have:=uC (anZ h0) c;rw[aof,anZ h0];exact this
 have hev:jc w=match jr w with
  |some i=>.tup [.str "place",.int (i:Nat)]
  |none=>match fN w ps with
   |some p=>.tup [.str "tied",.int p.1,.int p.2]
   |none=>match fN w qs with
    |some p=>.tup [.str "apart",.int p.1,.int p.2]
    |none=>.tup [.str "even",.tup [.int (w.length:Nat),.int ((w.getD 0 []).length:Nat),cK (iu w ps),cK (iu w qs)]]:=by
  unfold jc;rw[hps,hqs]
  all_goals
   cases jr w with
   |some i=>rfl
   |none =>
    cases fN w ps with
    |some p=>rfl
    |none=>cases fN w qs<;>rfl
 rw[xx,hev];have nr3:∀(x:Str) (p:Nat×Nat),noRef (.tup [.str x,.int p.1,.int p.2])=θ:=λx p=>rfl
 have e0:=kh (i:=1) (e:=[ζ (aQ w),η,η,η,η,η,η]) (jD (m:=ux) (d1:=ak 0) rfl (Zz h0 c));have hb:qZ=aD (aH 1 (aG 1 ux (aq (ak 0) au))) (aD (bh (aM (av kG (ak 1) (dC .aF))) (aR (bf (aq (dC (.str "place")) (aq (ak 1) au)))) bF) (aD (aH 2 (aG 1 lG (aq (ak 0) au))) (aD (aH 3 (aG 1 lG (aq (aG 1 qg (aq (ak 0) au)) au))) (aD (bJ (jz (bf (aq (bf (aq (dC (.str "tied")) (aq (ak 2) au))) (aq (bf (aq (dC (.str "apart")) (aq (ak 3) au))) au)))) (dI 2 (bR (aA 4) (bR (aA 5) dQ))) G9) (aR (bf (aq (dC (.str "even")) (aq (bf (aq (aJ bC (aq (ak 0) au)) (aq (aJ bC (aq (av aE (ak 0) (dC (.int 0))) au)) (aq (aG 2 jN (aq (ak 0) (aq (ak 2) au))) (aq (aG 2 jN (aq (ak 0) (aq (ak 3) au))) au))))) au)))))))):=rfl;have es:cF 7 [aQ w]=[ζ (aQ w),η,η,η,η,η,η]:=rfl;have main:∀v,(match jr w with
  |some i=>(.tup [.str "place",.int (i:Nat)]:D)
  |none=>match fN w ps with
   |some p=>.tup [.str "tied",.int p.1,.int p.2]
   |none=>match fN w qs with
    |some p=>.tup [.str "apart",.int p.1,.int p.2]
    |none=>.tup [.str "even",.tup [.int (w.length:Nat),.int ((w.getD 0 []).length:Nat),cK (iu w ps),cK (iu w qs)]])=v->qZ [ζ (aQ w),η,η,η,η,η,η] c=.ok (.rt v) c/\noRef v=θ/\∀k,v≠.ref k:=by
  intro v hv;rw[hb,bw e0];show aD _ _ [ζ (aQ w),ζ (cK (jr w)),η,η,η,η,η] c=_/\_;cases hpl:jr w with
  |some i =>
   rw[hpl]at hv;dsimp only at hv;subst hv;refine⟨?_,rfl,λk h=>by cases h⟩
   have ht:=nC (d1:=dC (.str "place")) (d2:=ak 1) (e:=[ζ (aQ w),ζ (cK (ζ i)),η,η,η,η,η]) (c:=c) (x:=.str "place") (y:=.int (i:Nat)) rfl rfl;have hn:aM (av kG (ak 1) (dC .aF)) [ζ (aQ w),ζ (cK (ζ i)),η,η,η,η,η] c=.ok θ c:=rfl;rw[kc,gx,hn];simp only[R.aB];rw[if_pos trivial,jI ht];rfl
  |none =>
   rw[hpl]at hv;dsimp only at hv;have e1:bh (aM (av kG (ak 1) (dC .aF))) (aR (bf (aq (dC (.str "place")) (aq (ak 1) au)))) bF [ζ (aQ w),ζ (cK η),η,η,η,η,η] c=.ok (.nx [ζ (aQ w),ζ .aF,η,η,η,η,η]) c:=rfl;have e2:=kh (i:=2) (e:=[ζ (aQ w),ζ .aF,η,η,η,η,η]) (jD (m:=lG) (d1:=ak 0) rfl Oz);have e3:=kh (i:=3) (e:=[ζ (aQ w),ζ .aF,ζ (.lst (ps.map aL)),η,η,η,η]) (jD (m:=lG) (d1:=aG 1 qg (aq (ak 0) au)) (jD (m:=qg) (d1:=ak 0) rfl agn) OL);rw[bw e1,bw e2];show aD _ _ [ζ (aQ w),ζ .aF,ζ (.lst (ps.map aL)),η,η,η,η] c=_/\_;rw[bw e3];show aD _ _ [ζ (aQ w),ζ .aF,ζ (.lst (ps.map aL)),ζ (.lst (qs.map aL)),η,η,η] c=_/\_;have xH:jz (bf (aq (bf (aq (dC (.str "tied")) (aq (ak 2) au))) (aq (bf (aq (dC (.str "apart")) (aq (ak 3) au))) au))) [ζ (aQ w),ζ .aF,ζ (.lst (ps.map aL)),ζ (.lst (qs.map aL)),η,η,η] c=.ok ⟨[.tup [.str "tied",.lst (ps.map aL)],.tup [.str "apart",.lst (qs.map aL)]],λ_=>True⟩ c:=by
    rw[Cr,nC (nC (x:=.str "tied") (y:=.lst (ps.map aL)) rfl rfl) (nC (x:=.str "apart") (y:=.lst (qs.map aL)) rfl rfl)];rfl
   obtain⟨u1,f1⟩:=PV h p1 (c:=c) (ζ .aF) (ζ (.lst (ps.map aL))) (ζ (.lst (qs.map aL))) η "tied"
   rw[kc,gy,xH];simp only[R.aB];have FW:dI 2 (bR (aA 4) (bR (aA 5) dQ)) (.tup [.str "tied",.lst (ps.map aL)]) [ζ (aQ w),ζ .aF,ζ (.lst (ps.map aL)),ζ (.lst (qs.map aL)),η,η,η] c=.ok [ζ (aQ w),ζ .aF,ζ (.lst (ps.map aL)),ζ (.lst (qs.map aL)),ζ (.str "tied"),ζ (.lst (ps.map aL)),η] c:=rfl;rw[gD,FW,R.aB,f1];cases hu:fN w ps with
   |some p =>
    rw[hu]at hv;dsimp only at hv;subst hv;exact⟨rfl,rfl,λk h=>by cases h⟩
   |none =>
    rw[hu]at hv;dsimp only at hv;simp only[R.aB];obtain⟨u2,f2⟩:=PV h p2 (c:=c) (ζ .aF) (ζ (.lst (ps.map aL))) (ζ (.lst (qs.map aL))) u1 "apart"
    have Ai:dI 2 (bR (aA 4) (bR (aA 5) dQ)) (.tup [.str "apart",.lst (qs.map aL)]) [ζ (aQ w),ζ .aF,ζ (.lst (ps.map aL)),ζ (.lst (qs.map aL)),ζ (.str "tied"),ζ (.lst (ps.map aL)),u1] c=.ok [ζ (aQ w),ζ .aF,ζ (.lst (ps.map aL)),ζ (.lst (qs.map aL)),ζ (.str "apart"),ζ (.lst (qs.map aL)),u1] c:=rfl;rw[gD,Ai,R.aB,f2];cases xG:fN w qs with
    |some p =>
     rw[xG]at hv;dsimp only at hv;subst hv;exact⟨rfl,rfl,λk h=>by cases h⟩
    |none =>
     rw[xG]at hv;dsimp only at hv;subst hv;simp only[R.aB];rw[Px];simp only[R.aB];have s1:=C2 h p1 c;have s2:=C2 h p2 c;have hl0:bC [.tup (nD (w.getD 0 []))] c=.ok (.int ((w.getD 0 []).length:Nat)) c:=by rw[JZ];simp[nD]
     refine⟨jI (nC (x:=.str "even") rfl (KL (iR (x:=aQ w) rfl (Ab w c)) (iR (x:=.tup (nD (w.getD 0 []))) (by simp only[cJ,br,dY,gz,R.aB];exact hi) hl0) (jY (x:=aQ w) (y:=.lst (ps.map aL)) rfl rfl s1) (jY (x:=aQ w) (y:=.lst (qs.map aL)) rfl rfl s2))),?_,λk h=>by cases h⟩
     cases iu w ps<;>cases iu w qs<;>rfl
 obtain⟨m1,m2,m3⟩:=main _ rfl;exact lz (by rw[es];exact m1) m2 m3
def PM{dO da:af}{e:Ev}{c:aa}{k:Nat}{acc l:List D}(h1:dO e c=.ok (.ref k) c)(h2:da e c=.ok (.lst l) c)(hk:c[k]? = ζ (.lst acc))(hl:acc.length+l.length<=1000000)(nr:bI l=θ):dw dO da e c=.ok .aF (c.set k (.lst (acc++l))):=by
 have hs:1000000<=ε:=by decide
 unfold dw;rw[h1];simp only[R.aB];rw[h2];simp only[R.aB];rw[hk];dsimp only;rw[if_pos ⟨by omega,nr⟩]
def RA{dO da:af}{e:Ev}{c:aa}{k:Nat}{acc:List D}{v:D}(h1:dO e c=.ok (.ref k) c)(h2:da e c=.ok v c)(hk:c[k]? = ζ (.lst acc))(hl:acc.length+1<=1000000)(nr:noRef v=θ):jW dO da e c=.ok .aF (c.set k (.lst (acc++[v]))):=by
 have hs:1000000<=ε:=by decide
 unfold jW;rw[h1];simp only[R.aB];rw[h2];simp only[R.aB];rw[hk];dsimp only;rw[if_pos ⟨by omega,nr⟩]
def gv(m:Nat)(f:Nat->Nat->Bool)(p q:Nat):Nat:=((ι m).filter λk=>f p k&&f q k).length
def akB{m p q:Nat}(f:Nat->Nat->Bool):l8 (fj m f p) (fj m f q)=gv m f p q:=by
 refine(Rn (rs:=(ι m).filter λk=>f p k&&f q k) (asr.filter _) λx=>?_).symm
 unfold fj;simp only[aoQ,aod,aoj];exact⟨fun⟨a,b,c⟩=>⟨⟨a,b⟩,a,c⟩,fun⟨⟨a,b⟩,_,c⟩=>⟨a,b,c⟩⟩
def fG(m:Nat)(f:Nat->Nat->Bool)(i:Nat):Nat:=((ι m).map (f i)).countP id
def Tz{m:Nat}(f:Nat->Nat->Bool)(hm:m<60):Wk (wF m f):=by
 refine⟨by rw[rO];omega,λr hr=>?_⟩
 obtain⟨i,_,rfl⟩:=aoa.mp hr;rw[rO];exact⟨List.Pairwise.filter _ ar3,λx hx=>aod.mp (aoQ.mp hx).1⟩
def Qp{m:Nat}(f:Nat->Nat->Bool){p:Nat×Nat}(h1:p.1<m)(h2:p.2<m):fC (wF m f) p=gv m f p.1 p.2:=by
 unfold fC;rw[vZ f h1,vZ f h2,akB]
def p7(m:Nat)(q:Nat->Nat->Bool)(i:Nat):List (Nat×Nat):=((List.range' (i+1) (m-(i+1))).filter (q i)).map λj=>(i,j)
def gY(m:Nat)(q:Nat->Nat->Bool):List (Nat×Nat):=(ι m).flatMap (p7 m q)
def XA{m i:Nat}(h:i<m):ι m=ι (i+1)++List.range' (i+1) (m-(i+1)):=by
 have e:m=(i+1)+(m-(i+1)):=by omega
 rw[aqy,aqy]
 conv=>lhs;rw[e]
 rw[<-List.range'_append_1,aog]
def adi{m i:Nat}(f:Nat->Nat->Bool)(h:i<m):iI i (fj m f i)=p7 m f i:=by
 unfold iI p7 fj
 congr 1
 rw[List.filter_filter,XA h,asC];have e1:(ι (i+1)).filter (λa=>decide (i<a)&&f i a)=[]:=by
  rw[List.filter_eq_nil_iff];intro a ha;have:=aod.mp ha;simp;omega
 rw[e1,an9];refine aqz λa ha=>?_
 have:=ap0.mp ha;have:i<a:=by omega
 simp[this]
def KU(m:Nat)(f:Nat->Nat->Bool):eX (wF m f)=gY m f:=by
 unfold eX gY wF;rw[ark]
 congr 1
 apply aql
 ·simp
 ·intro i h1 h2;have hi:i<m:=by simpa using h1
  simp only[List.getElem_mapIdx,arj,aqf];exact adi f hi
def nX(f:Nat->Nat->Bool):Nat->Nat->Bool:=λi j=>!f i j
def aan{m:Nat}{q r:Nat->Nat->Bool}(h:∀i j,i<j->j<m->q i j=r i j):gY m q=gY m r:=by
 unfold gY;rw[ark,ark]
 congr 1
 refine aoI λi hi=>?_
 unfold p7
 congr 1
 refine aqz λj hj=>?_
 have:=ap0.mp hj;exact h i j (by omega) (by omega)
def ah0(m:Nat)(f:Nat->Nat->Bool):eX (jv (wF m f))=gY m (nX f):=by
 have e:jv (wF m f)=wF m (λi j=>decide (j≠i) && !f i j):=by
  unfold jv k7 wF;rw[an2,ao5];refine aoI λi hi=>?_
  have hi:=aod.mp hi;have e2:fj m (λi j=>decide (j≠i) && !f i j) i=(ι m).filter λj=>decide (j≠i) && !f i j:=rfl
  rw[e2];unfold vY;refine aqz λj hj=>?_
  have hj:=aod.mp hj;have:=vZ f hi;unfold wF at this;unfold wW;rw[this];unfold fj
  congr 2
  cases hf:f i j<;>simp[aoQ,hj,hf]
 rw[e,KU];refine aan λi j hij _=>?_
 have:j≠i:=by omega
 simp[nX,this]
def zG{m:Nat}{q:Nat->Nat->Bool}:∀p∈gY m q,p.1<m/\p.2<m:=λp hp=>by
 obtain⟨i,hi,hp⟩:=List.mem_flatMap.mp hp;obtain⟨j,hj,rfl⟩:=aoa.mp hp;have:=ap0.mp (aoQ.mp hj).1;have:=aod.mp hi;exact⟨by simp only;omega,by simp only;omega⟩
def PD(P:List Nat->Bool)(g:Nat->List Nat):∀(n a:Nat),((List.range' a n).map g).findIdx? P=((List.range' a n).find? λi=>P (g i)).map λi=>i-a
 |0,a=>rfl
 |n+1,a=>by
  rw[arl,an8,asB];cases h:P (g a)with
  |true=>rw[aqx (by exact h)];simp
  |false =>
   rw[aqw (by simp[h]),PD P g n (a+1)]
   cases hf:(List.range' (a+1) n).find? λi=>P (g i)with
   |none=>simp
   |some i =>
    have:=ap0.mp (List.mem_of_find?_eq_some hf);simp;omega
def Hs(m:Nat)(f:Nat->Nat->Bool)(i:Nat):(fj m f i).length=fG m f i:=by
 unfold fG fj;rw[List.countP_map,List.countP_eq_length_filter];rfl
def Zy{m:Nat}(f:Nat->Nat->Bool)(h0:0<m):jr (wF m f)=(ι m).find? λi=>decide (fG m f i≠fG m f 0):=by
 unfold jr;rw[vZ f h0,Hs];unfold wF;rw[aqy,PD];have e:(λi=>decide ((fj m f i).length≠fG m f 0))=λi=>decide (fG m f i≠fG m f 0):=by
  funext i
  rw[Hs]
 rw[e];cases(List.range' 0 m).find? λi=>decide (fG m f i≠fG m f 0)<;>simp
def aks{m:List D->aa->R D}{d1 d2:af}{e:Ev}{c c1 c2 c3:aa}{x y v:D}(h1:d1 e c=.ok x c1)(h2:d2 e c1=.ok y c2)(h:m [x,y] c2=.ok v c3):aG 2 m (aq d1 (aq d2 au)) e c=.ok v c3:=by
 simp only[x_call,bE,h1,h2,bB,R.aB];rw[if_pos (by rfl)];exact h
def Rk{m:List D->aa->R D}{d1:af}{e:Ev}{c c1 c2:aa}{x v:D}(h1:d1 e c=.ok x c1)(h:m [x] c1=.ok v c2):aG 1 m (aq d1 au) e c=.ok v c2:=by
 simp only[x_call,bE,h1,bB,R.aB];rw[if_pos (by rfl)];exact h
def FE{t:ai}{s:ah}{e:Ev}{c c':aa}(h:t e c=.ok Δ c'):bh t s bF e c=.ok (.nx e) c':=by
 rw[gx,h];rfl
def qQ{d:af}{e:Ev}{c c':aa}{b:Bool}(h:d e c=.ok (.bl b) c'):aM d e c=.ok b c':=by rw[ir,h];rfl
def MI{t:ai}{e:Ev}{c c':aa}{b:Bool}(h:t e c=.ok b c'):gT t e c=.ok (!b) c':=by
 unfold gT;rw[h];rfl
def Lf:10000<ε:=by decide
def and_true{d1 d2:af}{e:Ev}{c:aa}{r:R D}(h1:d1 e c=.ok (.bl θ) c)(h2:d2 e c=r):gf d1 d2 e c=r:=by
 unfold gf;rw[h1];simp only[R.aB]
 first
  |exact h2
  |(simp;exact h2)
def um(l:List Nat):(nD l).length=l.length:=by simp[nD]
def rG(c:aa)(X:D)(L:List D):Prop:=X=.lst L\/∃k,X=.ref k/\c[k]? = ζ (.lst L)
def rG.app{c:aa}{X:D}{L:List D}(h:rG c X L)(cs:aa):rG (c++cs) X L:=by
 rcases h with h|⟨k,h1,h2⟩
 ·exact .inl h
 ·exact .inr ⟨k,h1,by rw[aow (an7.mp h2).1];exact h2⟩
def Gg{st:aa->Prop}{g:Gd}{s:ah}(inv:Nat->Ev->aa->Prop)(hst:∀k e c,inv k e c->st c):∀(items:List D) (k:Nat) (e:Ev) (c:aa),inv k e c ->
  (∀i x,items[i]? = ζ x->∀e c,inv (k+i) e c->∃e' e'' c' c'',g x e c=.ok e' c'/\s e' c'=.ok (.nx e'') c''/\inv (k+i+1) e'' c'') ->
  ∃e' c',inv (k+items.length) e' c'/\b8 st g s items e c=.ok (.nx e') c'
 |[],k,e,c,hi,_=>⟨e,c,hi,by unfold b8;rw[if_pos (hst _ _ _ hi)]⟩
 |x::xs,k,e,c,hi,h=>by
  obtain⟨e',e'',c',c'',h1,h2,h3⟩:=h 0 x rfl e c hi;obtain⟨e3,c3,i3,h4⟩:=Gg inv hst xs (k+1) e'' c'' h3 λi y hy e c hi=>by
   have e1:k+1+i=k+(i+1):=by omega
   rw[e1]at hi ⊢;exact h (i+1) y hy e c hi
  refine⟨e3,c3,?_,?_⟩
  ·rw[an4,show k+(xs.length+1)=k+1+xs.length by omega];exact i3
  ·unfold b8;rw[if_pos (hst _ _ _ hi),h1,R.aB,h2,R.aB];exact h4
def WD{X:D}{L:List D}{c:aa}{d:af}{e:Ev}(h:rG c X L)(hd:d e c=.ok X c):∃st:aa->Prop,cy d e c=.ok ⟨L,st⟩ c/\∀c',rG c' X L->st c':=by
 rcases h with rfl|⟨k,rfl,hk⟩
 ·exact⟨λ_=>True,by unfold cy;rw[hd];rfl,λ_ _=>trivial⟩
 ·refine⟨λc'=>c'[k]? = ζ (.lst L),?_,λc' h=>?_⟩
  ·unfold cy;rw[hd];simp only[R.aB,hk]
  ·rcases h with h|⟨k',h1,h2⟩
   ·cases h
   ·cases h1;exact h2
def ahM{sr:Ev->aa->R Src}{st:aa->Prop}{g:Gd}{s:ah}{e:Ev}{c c':aa}{l:List D}{r:R Fl}(h1:sr e c=.ok ⟨l,st⟩ c')(h2:b8 st g s l e c'=r):bJ sr g s e c=r:=by
 rw[gy,h1];simp only[R.aB];exact h2
def ahT{α β:Type}(f:α->List β)(L:List α)(i:Nat):((L.take i).flatMap f).length<=(L.flatMap f).length:=by
 have e:L.flatMap f=(L.take i).flatMap f++(L.drop i).flatMap f:=by rw[<-arn,aqm]
 rw[e,aon];omega
def yZ(c:aa)(x y:Cell):(c++[x]).set c.length y=c++[y]:=by
 rw[ari _ _ (anU _)];simp
def sf:1000000<ε:=by decide
def yU{m i:Nat}(f:Nat->Nat->Bool)(h:i<m)(c:aa):aE (aP m f) (.int (i:Int)) c=.ok (.lst (b9 m f i)) c:=by unfold aP;rw[ig,CK f h]
def zh{m k:Nat}(f:Nat->Nat->Bool)(i:Nat)(h:k<m)(c:aa):aE (.lst (b9 m f i)) (.int (k:Int)) c=.ok (.bl (f i k)) c:=by rw[ig,wN f i h]
def Wx{m p q:Nat}(f:Nat->Nat->Bool)(hp:p<m)(hq:q<m)(c:aa):bz (λ_=>True) (aA 0) (iE (aM (av aE (av aE (ak 1) (ak 2)) (ak 0))) (aM (av aE (av aE (ak 1) (ak 3)) (ak 0)))) (ak 0) (aO 0 (m:Int)) [η,ζ (aP m f),ζ (.int (p:Int)),ζ (.int (q:Int))] [] c=.ok (nD ((ι m).filter λk=>f p k&&f q k)) c:=by
 have:=oW (c:=c) (g:=aA 0) (t:=(iE (aM (av aE (av aE (ak 1) (ak 2)) (ak 0))) (aM (av aE (av aE (ak 1) (ak 3)) (ak 0))))) (a:=ak 0) (λe=>∃v,e=[v,ζ (aP m f),ζ (.int (p:Int)),ζ (.int (q:Int))]) (λd=>match d with|.int k=>f p k.toNat&&f q k.toNat|_=>Δ) id (aO 0 (m:Int)) [η,ζ (aP m f),ζ (.int (p:Int)),ζ (.int (q:Int))] [] ⟨_,rfl⟩ (λd hd e ⟨v,he⟩=>by
  subst he;obtain⟨k',rfl,k0,k1⟩:=oi hd;obtain⟨k,rfl⟩:=g7 k0;have h1:=yU f hp c;have h2:=yU f hq c;have h3:=zh f p (k:=k) (m:=m) (by omega) c
  have h4:=zh f q (k:=k) (m:=m) (by omega) c
  refine⟨_,rfl,⟨_,rfl⟩,?_,λ_=>rfl⟩
  show(iE _ _) [ζ (.int (k:Int)),ζ (aP m f),ζ (.int (p:Int)),ζ (.int (q:Int))] c=_
  generalize aP m f=T at *
  simp only[Tf,ir,cJ,br,gz,gs,R.aB,h1,h2,h3,h4,apC];cases f p k<;>simp)
 rw[this,an9,ard]
 congr 1
 unfold aO nD;rw[ass,show((m:Int)-0).toNat=m by omega]
 have e:((λd:D=>match d with|.int k=>f p k.toNat&&f q k.toNat|_=>Δ) ∘ λk:Nat=>D.int (0+(k:Int)))=λk=>f p k&&f q k:=by
  funext k
  simp
 rw[e];refine aoI λk _=>?_
 simp
def aep{T:D}{q a b n:Int}{l:List D}{c:aa}(hT:bC [T] c=.ok (.int q) c)(bq:-4611686018427387904<=q/\q<4611686018427387904)(hl:(aO 0 q).length<ε)(hn:(l.length:Int)=n)(h:bz (λ_=>True) (aA 0) (iE (aM (av aE (av aE (ak 1) (ak 2)) (ak 0))) (aM (av aE (av aE (ak 1) (ak 3)) (ak 0)))) (ak 0) (aO 0 q) [η,ζ T,ζ (.int a),ζ (.int b)] [] c=.ok l c):qj [T,.int a,.int b] c=.ok (.int n) c:=by
 have e:qU [ζ T,ζ (.int a),ζ (.int b)] c=.ok (.rt (.int n)) c:=by
  unfold qU;simp only[iF,iG,bE,ff,gw,br,gz,gs,bB,R.aB,hT];rw[if_pos (by omega)]
  simp only[R.aB];rw[if_pos hl];have:dH [η,ζ 0,ζ 1,ζ 2] [ζ T,ζ (.int a),ζ (.int b)]=[η,ζ T,ζ (.int a),ζ (.int b)]:=rfl;rw[this,h];simp only[R.aB,S5,hn]
 rw[qj,fL];have es:cF 3 [T,.int a,.int b]=[ζ T,ζ (.int a),ζ (.int b)]:=rfl;rw[es,e];simp
def aeo{m p q:Nat}(f:Nat->Nat->Bool)(hm:m<60)(hp:p<m)(hq:q<m)(c:aa):qj [aP m f,.int (p:Int),.int (q:Int)] c=.ok (.int (gv m f p q:Nat)) c:=by
 have hs:=cC (n:=1000) (by decide)
 exact aep (ao7 m f c) (by omega) (by rw[dP];omega) (by simp[nD,gv]) (Wx f hp hq c)
def run(num:Nat×Nat->Nat):Option Nat->List (Nat×Nat)->Option Nat ⊕ (Nat×Nat)
 |o,[]=>.inl o
 |o,p::ps=>if num p≠o.getD (num p)then .inr p else run num (ζ (o.getD (num p))) ps
def Ls{num:Nat×Nat->Nat}(s:Nat):∀ps:List (Nat×Nat),run num (ζ s) ps=match ps.find? (λp=>decide (num p≠s))with|some p=>.inr p|none=>.inl (ζ s)
 |[]=>rfl
 |p::ps=>by
  unfold run
  by_cases h:num p=s
  ·rw[if_neg (by simpa using h),aqw (by simp[h])]
   exact Ls s ps
  ·rw[if_pos (by simpa using h),aqx (by simpa using h)]
def tR(w:List (List Nat))(ps:List (Nat×Nat)):Option Nat ⊕ (Nat×Nat):=match fN w ps with
 |some p=>.inr p
 |none=>.inl (iu w ps)
def Lu{w:List (List Nat)}(ps:List (Nat×Nat)):run (fC w) η ps=tR w ps:=by
 cases ps with
 |nil=>rfl
 |cons p ps =>
  have e:run (fC w) η (p::ps)=run (fC w) (ζ (fC w p)) (p::ps):=by
   unfold run;simp
  rw[e,Ls];unfold tR;have eu:fN w (p::ps)=(p::ps).find? (λq=>decide (fC w q≠fC w p)):=rfl
  rw[eu];cases(p::ps).find? (λq=>decide (fC w q≠fC w p))<;>rfl
def Lv{num:Nat×Nat->Nat}:∀(a b:List (Nat×Nat)) (o:Option Nat),run num o (a++b)=match run num o a with|.inl o'=>run num o' b|.inr p=>.inr p
 |[],b,o=>rfl
 |p::a,b,o=>by
  have e1:run num o (p::a++b)=if num p≠o.getD (num p)then .inr p else run num (ζ (o.getD (num p))) (a++b):=rfl
  have e2:run num o (p::a)=if num p≠o.getD (num p)then .inr p else run num (ζ (o.getD (num p))) a:=rfl
  rw[e1,e2]
  by_cases h:num p≠o.getD (num p)
  ·rw[if_pos h,if_pos h]
  ·rw[if_neg h,if_neg h];exact Lv a b _
def Dd{n1 n2:Nat×Nat->Nat}:∀(ps:List (Nat×Nat)) (o:Option Nat),(∀p∈ps,n1 p=n2 p)->run n1 o ps=run n2 o ps
 |[],o,_=>rfl
 |p::ps,o,h=>by
  unfold run;rw[h p (.head _),Dd ps _ λq hq=>h q (.tail _ hq)]
def Hl:ai:=(aM (av cH (aJ qy (aq (iO (av aE (av aE (ak 0) (ak 6)) (ak 7))) au)) (ak 5)))
def Ho:ah:=(aH 8 (aG 3 qj (aq (ak 0) (aq (ak 6) (aq (ak 7) au)))))
def uM:ah:=(bh (aM (av i9 (av aE (ak 4) (ak 5)) (dC .aF))) (gI (ak 8) (gQ (ak 4) (ak 5))) bF)
def Bf:ah:=(bh (aM (av cL (ak 8) (av aE (ak 4) (ak 5)))) (aR (bf (aq (av aE (cV (aq (dC (.str "tied")) (aq (dC (.str "apart")) au))) (ak 5)) (aq (ak 6) (aq (ak 7) au))))) bF)
def Bg:ah:=bh Hl (aD Ho (aD uM Bf)) bF
def xW:ah:=bJ (eV (aq (av bx (ak 6) (dC (.int 1))) (aq (ak 1) au))) (aA 7) Bg
def Hq:ah:=bJ (bH (aq (ak 1) au)) (aA 6) xW
def akJ{a dO di:af}{e:Ev}{c c':aa}{x o i:D}(h1:a e c=.ok x c)(h2:dO e c=.ok o c)(h3:di e c=.ok i c)(h4:iV o i x c=.ok () c'):gI a (gQ dO di) e c=.ok (.nx e) c':=by
 rw[yL,h1];simp only[R.aB];rw[yJ,h2];simp only[R.aB];rw[h3];simp only[R.aB];rw[h4];rfl
section
variable {m:Nat}{f:Nat->Nat->Bool}{c:aa}{kd:Int}{wd:Str}{q:Nat->Nat->Bool}{LL:Option Nat->List D}{CL:D}{v3:Option D}
def dj(m:Nat)(f:Nat->Nat->Bool)(CL:D)(v3:Option D)(k:Nat)(kd:Int)(v6 v7 v8:Option D):Ev:=[ζ (aP m f),ζ (.int m),ζ CL,v3,ζ (.ref k),ζ (.int kd),v6,v7,v8]
structure Kd (m:Nat) (f:Nat->Nat->Bool) (c:aa) (kd:Int) (wd:Str) (q:Nat->Nat->Bool) (LL:Option Nat->List D):Prop where
 get:∀o,aE (.ref c.length) (.int kd) (c++[.lst (LL o)])=.ok (cK o) (c++[.lst (LL o)])
 set:∀n:Nat,iV (.ref c.length) (.int kd) (.int n) (c++[.lst (LL η)])=.ok () (c++[.lst (LL (ζ n))])
 word:∀c',aE (.lst [.str "tied",.str "apart"]) (.int kd) c'=.ok (.str wd) c'
 test:∀i j c',cH (.int (if(!f i j)=θ then 1 else 0)) (.int kd) c'=.ok (.bl (q i j)) c'
def ais(H:Kd m f c kd wd q LL){i j:Nat}(hi:i<m)(hj:j<m)(v8:Option D)(c':aa):Hl (dj m f CL v3 c.length kd (ζ (.int i)) (ζ (.int j)) v8) c'=.ok (q i j) c':=by
 have h1:=yU f hi c';have h2:=zh f i (k:=j) (m:=m) hj c';have e1:av aE (av aE (ak 0) (ak 6)) (ak 7) (dj m f CL v3 c.length kd (ζ (.int i)) (ζ (.int j)) v8) c'=.ok (.bl (f i j)) c':=cP (cP rfl rfl h1) rfl h2;have e2:iO (av aE (av aE (ak 0) (ak 6)) (ak 7)) (dj m f CL v3 c.length kd (ζ (.int i)) (ζ (.int j)) v8) c'=.ok (.bl (!f i j)) c':=by rw[JW,e1];rfl
 have e3:=cP (f:=cH) (iR (f:=qy) e2 (S6 (!f i j) c')) (show ak 5 (dj m f CL v3 c.length kd (ζ (.int i)) (ζ (.int j)) v8) c'=.ok (.int kd) c' from rfl) (H.test i j c')
 unfold Hl;rw[ir,e3];rfl
def aiu(H:Kd m f c kd wd q LL)(hm:m<60){i j:Nat}(hi:i<m)(hj:j<m)(v8:Option D)(o:Option Nat) :
  aD Ho (aD uM Bf) (dj m f CL v3 c.length kd (ζ (.int i)) (ζ (.int j)) v8) (c++[.lst (LL o)]) =
   if gv m f i j≠o.getD (gv m f i j)then .ok (.rt (.tup [.str wd,.int i,.int j])) (c++[.lst (LL o)])else .ok (.nx (dj m f CL v3 c.length kd (ζ (.int i)) (ζ (.int j)) (ζ (.int (gv m f i j:Nat))))) (c++[.lst (LL (ζ (o.getD (gv m f i j))))]):=by
 have hn:=aeo f hm hi hj (c++[.lst (LL o)]);have e0:Ho (dj m f CL v3 c.length kd (ζ (.int i)) (ζ (.int j)) v8) (c++[.lst (LL o)])=.ok (.nx (dj m f CL v3 c.length kd (ζ (.int i)) (ζ (.int j)) (ζ (.int (gv m f i j:Nat))))) (c++[.lst (LL o)]):=kh (BC (m:=qj) rfl rfl rfl hn);rw[bw e0]
 generalize gv m f i j=n
 have hw:∀c',av aE (cV (aq (dC (.str "tied")) (aq (dC (.str "apart")) au))) (ak 5) (dj m f CL v3 c.length kd (ζ (.int i)) (ζ (.int j)) (ζ (.int (n:Nat)))) c'=.ok (.str wd) c':=λc'=>by
  have h2:(2:Nat)<=ε:=cC (by decide)
  refine cP (x:=.lst [.str "tied",.str "apart"]) ?_ (show ak 5 _ c'=.ok (.int kd) c' from rfl) (H.word c')
  simp[h2]
 have hr:∀s:Nat,Bf (dj m f CL v3 c.length kd (ζ (.int i)) (ζ (.int j)) (ζ (.int (n:Nat)))) (c++[.lst (LL (ζ s))])=if n≠s then .ok (.rt (.tup [.str wd,.int i,.int j])) (c++[.lst (LL (ζ s))])else .ok (.nx (dj m f CL v3 c.length kd (ζ (.int i)) (ζ (.int j)) (ζ (.int (n:Nat))))) (c++[.lst (LL (ζ s))]):=λs=>by
  have hg:av aE (ak 4) (ak 5) (dj m f CL v3 c.length kd (ζ (.int i)) (ζ (.int j)) (ζ (.int (n:Nat)))) (c++[.lst (LL (ζ s))])=.ok (.int (s:Nat)) (c++[.lst (LL (ζ s))]):=cP rfl rfl (H.get (ζ s));unfold Bf;rw[FF (a:=n) (s:=s) rfl hg,jI (KN (hw _) rfl rfl)];rfl
 have hg:av aE (ak 4) (ak 5) (dj m f CL v3 c.length kd (ζ (.int i)) (ζ (.int j)) (ζ (.int (n:Nat)))) (c++[.lst (LL o)])=.ok (cK o) (c++[.lst (LL o)]):=cP rfl rfl (H.get o);cases o with
 |none =>
  have ha:uM (dj m f CL v3 c.length kd (ζ (.int i)) (ζ (.int j)) (ζ (.int (n:Nat)))) (c++[.lst (LL η)])=.ok (.nx (dj m f CL v3 c.length kd (ζ (.int i)) (ζ (.int j)) (ζ (.int (n:Nat))))) (c++[.lst (LL (ζ n))]):=by
   have hs:=akJ (a:=ak 8) (dO:=ak 4) (di:=ak 5) (e:=dj m f CL v3 c.length kd (ζ (.int i)) (ζ (.int j)) (ζ (.int (n:Nat)))) rfl rfl rfl (H.set n);have ht:aM (av i9 (av aE (ak 4) (ak 5)) (dC .aF)) (dj m f CL v3 c.length kd (ζ (.int i)) (ζ (.int j)) (ζ (.int (n:Nat)))) (c++[.lst (LL η)])=.ok θ (c++[.lst (LL η)]):=by
    rw[ir,cP hg rfl (J0 _ _)];rfl
   unfold uM;rw[gx,ht];simp only[R.aB];rw[if_pos trivial];exact hs
  rw[bw ha,hr n];simp
 |some s =>
  have ha:uM (dj m f CL v3 c.length kd (ζ (.int i)) (ζ (.int j)) (ζ (.int (n:Nat)))) (c++[.lst (LL (ζ s))])=.ok (.nx (dj m f CL v3 c.length kd (ζ (.int i)) (ζ (.int j)) (ζ (.int (n:Nat))))) (c++[.lst (LL (ζ s))]):=by
   have ht:aM (av i9 (av aE (ak 4) (ak 5)) (dC .aF)) (dj m f CL v3 c.length kd (ζ (.int i)) (ζ (.int j)) (ζ (.int (n:Nat)))) (c++[.lst (LL (ζ s))])=.ok Δ (c++[.lst (LL (ζ s))]):=by
    rw[ir,cP hg rfl (J0 _ _)];rfl
   unfold uM;rw[gx,ht];rfl
  rw[bw ha,hr s];rfl
def BR(m:Nat)(f:Nat->Nat->Bool)(c:aa)(kd:Int)(wd:Str)(LL:Option Nat->List D)(CL:D)(v3:Option D)(P:Option D->Option D->Option D->Prop)(r:Option Nat ⊕ (Nat×Nat))(R:R Fl):Prop:=match r with
 |.inl o=>∃v6 v7 v8,P v6 v7 v8/\R=.ok (.nx (dj m f CL v3 c.length kd v6 v7 v8)) (c++[.lst (LL o)])
 |.inr p=>∃o,R=.ok (.rt (.tup [.str wd,.int p.1,.int p.2])) (c++[.lst (LL o)])
def Hj(H:Kd m f c kd wd q LL)(hm:m<60){i:Nat}(hi:i<m):∀(js:List Nat) (v7 v8:Option D) (o:Option Nat),(∀j∈js,j<m) ->
  BR m f c kd wd LL CL v3 (λv6 _ _=>v6=ζ (.int i)) (run (λp=>gv m f p.1 p.2) o ((js.filter (q i)).map λj=>(i,j))) (b8 (λ_=>True) (aA 7) Bg (nD js) (dj m f CL v3 c.length kd (ζ (.int i)) v7 v8) (c++[.lst (LL o)]))
 |[],v7,v8,o,_=>⟨_,v7,v8,rfl,by simp[nD]⟩
 |j::js,v7,v8,o,h=>by
  have hj:=h j (.head _);have hg:aA 7 (.int (j:Int)) (dj m f CL v3 c.length kd (ζ (.int i)) v7 v8) (c++[.lst (LL o)])=.ok (dj m f CL v3 c.length kd (ζ (.int i)) (ζ (.int j)) v8) (c++[.lst (LL o)]):=rfl;have ht:=ais (CL:=CL) (v3:=v3) H hi hj v8 (c++[.lst (LL o)]);have e1:nD (j::js)=.int (j:Int)::nD js:=rfl;rw[e1,gD,hg,R.aB];unfold Bg;rw[gx,ht];simp only[R.aB];cases hq:q i j with
  |false =>
   rw[if_neg (by simp),asy (by simp[hq])]
   exact Hj H hm hi js (ζ (.int j)) v8 o λx hx=>h x (.tail _ hx)
  |true =>
   rw[if_pos rfl,asx hq,an8,aiu H hm hi hj v8 o];unfold run
   by_cases hn:gv m f i j≠o.getD (gv m f i j)
   ·rw[if_pos hn,if_pos hn];exact⟨o,rfl⟩
   ·rw[if_neg hn,if_neg hn];exact Hj H hm hi js (ζ (.int j)) _ _ λx hx=>h x (.tail _ hx)
def ait(H:Kd m f c kd wd q LL)(hm:m<60){i:Nat}(hi:i<m)(v7 v8:Option D)(o:Option Nat):BR m f c kd wd LL CL v3 (λv6 _ _=>v6=ζ (.int i)) (run (λp=>gv m f p.1 p.2) o (p7 m q i)) (xW (dj m f CL v3 c.length kd (ζ (.int i)) v7 v8) (c++[.lst (LL o)])):=by
 have:=Hj (CL:=CL) (v3:=v3) H hm hi (List.range' (i+1) (m-(i+1))) v7 v8 o λj hj=>by have:=ap0.mp hj;omega
 rw[<-Dg]at this;have e:=lV (g:=aA 7) (s:=Bg) (Dh (p:=(i:Int)+1) (q:=(m:Int)) (d1:=av bx (ak 6) (dC (.int 1))) (d2:=ak 1) (e:=dj m f CL v3 c.length kd (ζ (.int i)) v7 v8) (c:=c++[.lst (LL o)]) (cP rfl rfl rfl) rfl (by omega) (by omega)) rfl
 unfold xW;rw[e];exact this
def Qa(H:Kd m f c kd wd q LL)(hm:m<60):∀(is:List Nat) (v6 v7 v8:Option D) (o:Option Nat),(∀i∈is,i<m) ->
  BR m f c kd wd LL CL v3 (λ_ _ _=>True) (run (λp=>gv m f p.1 p.2) o (is.flatMap (p7 m q))) (b8 (λ_=>True) (aA 6) xW (nD is) (dj m f CL v3 c.length kd v6 v7 v8) (c++[.lst (LL o)]))
 |[],v6,v7,v8,o,_=>⟨v6,v7,v8,trivial,by simp[nD]⟩
 |i::is,v6,v7,v8,o,h=>by
  have hi:=h i (.head _);have hg:aA 6 (.int (i:Int)) (dj m f CL v3 c.length kd v6 v7 v8) (c++[.lst (LL o)])=.ok (dj m f CL v3 c.length kd (ζ (.int i)) v7 v8) (c++[.lst (LL o)]):=rfl;have e1:nD (i::is)=.int (i:Int)::nD is:=rfl;have hj:=ait (CL:=CL) (v3:=v3) H hm hi v7 v8 o;rw[e1,gD,hg,R.aB,aro,Lv];cases hr:run (λp=>gv m f p.1 p.2) o (p7 m q i)with
  |inr p =>
   rw[hr]at hj;obtain⟨o',e⟩:=hj;rw[e];exact⟨o',rfl⟩
  |inl o' =>
   rw[hr]at hj;obtain⟨w6,w7,w8,rfl,e⟩:=hj;rw[e];exact Qa H hm is _ w7 w8 o' λx hx=>h x (.tail _ hx)
def P9(H:Kd m f c kd wd q LL)(hm:m<60)(v6 v7 v8:Option D)(o:Option Nat):BR m f c kd wd LL CL v3 (λ_ _ _=>True) (run (λp=>gv m f p.1 p.2) o (gY m q)) (Hq (dj m f CL v3 c.length kd v6 v7 v8) (c++[.lst (LL o)])):=by
 have:=Qa (CL:=CL) (v3:=v3) H hm (ι m) v6 v7 v8 o λi hi=>aod.mp hi
 rw[<-pU]at this;have e:=lV (g:=aA 6) (s:=xW) (tS (q:=(m:Int)) (d:=ak 1) (e:=dj m f CL v3 c.length kd v6 v7 v8) (c:=c++[.lst (LL o)]) rfl (by omega)) rfl
 unfold Hq;rw[e];exact this
end
def Xx(m:Nat)(f:Nat->Nat->Bool)(i:Nat):b9 m f i=((ι m).map (f i)).map D.bl:=by
 unfold b9;rw[aos];rfl
def fD(m:Nat)(f:Nat->Nat->Bool):D:=.lst (nD ((ι m).map (fG m f)))
def aj3(m:Nat)(f:Nat->Nat->Bool)(c:aa):bz (λ_=>True) (aA 0) aZ (jA (ak 0) (dC (.bl θ))) ((ι m).map λi=>D.lst (b9 m f i)) [η] [] c=.ok (nD ((ι m).map (fG m f))) c:=by
 have:=jV (E:=[]) (t:=aZ) (a:=jA (ak 0) (dC (.bl θ))) (c:=c) (λi:Nat=>D.lst (b9 m f i)) (λi:Nat=>D.int (fG m f i:Nat)) (λ_=>θ) (ι m) η [] (λj _=>rfl) (λj _ _=>ajX (by rw[Xx];rfl))
 have ft:(ι m).filter (λ_=>θ)=ι m:=by simp
 rw[an9,ft]at this;unfold nD;rw[aos];exact this
def Ib{m i:Nat}(f:Nat->Nat->Bool)(h:i<m)(c:aa):aE (fD m f) (.int (i:Int)) c=.ok (.int (fG m f i:Nat)) c:=by
 unfold fD;rw[ig,l9 (v:=.int (fG m f i:Nat)) (by simp[nD,h])]
def xV:ah:=(bh (aM (av cL (av aE (ak 2) (ak 3)) (av aE (ak 2) (dC (.int 0))))) (aR (bf (aq (dC (.str "place")) (aq (ak 3) au)))) bF)
def air{m i:Nat}(f:Nat->Nat->Bool)(h0:0<m)(h:i<m){T:D}(rest:Ev)(c:aa):xV (ζ T::ζ (.int m)::ζ (fD m f)::ζ (.int i)::rest) c=if fG m f i≠fG m f 0 then .ok (.rt (.tup [.str "place",.int i])) c else .ok (.nx (ζ T::ζ (.int m)::ζ (fD m f)::ζ (.int i)::rest)) c:=by
 have e1:av aE (ak 2) (ak 3) (ζ T::ζ (.int m)::ζ (fD m f)::ζ (.int i)::rest) c=.ok (.int (fG m f i:Nat)) c:=cP rfl rfl (Ib f h c);have e2:av aE (ak 2) (dC (.int 0)) (ζ T::ζ (.int m)::ζ (fD m f)::ζ (.int i)::rest) c=.ok (.int (fG m f 0:Nat)) c:=cP rfl rfl (Ib f h0 c);unfold xV;rw[FF e1 e2,jI (nC (x:=.str "place") (y:=.int i) rfl rfl)];rfl
def P8{m:Nat}(f:Nat->Nat->Bool)(h0:0<m){T:D}(rest:Ev)(c:aa):∀(is:List Nat) (v:Option D),(∀i∈is,i<m)->∃u,b8 (λ_=>True) (aA 3) xV (nD is) (ζ T::ζ (.int m)::ζ (fD m f)::v::rest) c =
  (match is.find? λi=>decide (fG m f i≠fG m f 0)with|some i=>.ok (.rt (.tup [.str "place",.int (i:Nat)])) c|none=>.ok (.nx (ζ T::ζ (.int m)::ζ (fD m f)::u::rest)) c)
 |[],v,_=>⟨v,by simp[nD]⟩
 |i::is,v,h=>by
  obtain⟨u,ih⟩:=P8 f h0 rest c is (ζ (.int i)) λx hx=>h x (.tail _ hx)
  refine⟨u,?_⟩;have e1:nD (i::is)=.int (i:Int)::nD is:=rfl;have hg:aA 3 (.int (i:Int)) (ζ T::ζ (.int m)::ζ (fD m f)::v::rest) c=.ok (ζ T::ζ (.int m)::ζ (fD m f)::ζ (.int i)::rest) c:=rfl;rw[e1,gD,hg,R.aB,air f h0 (h i (.head _))]
  by_cases e:fG m f i=fG m f 0
  ·rw[if_neg (by simp[e]),aqw (by simp[e])]
   simp only[R.aB];exact ih
  ·rw[if_pos (by simpa using e),aqx (by simpa using e)]
   rfl
def kd0(m:Nat)(f:Nat->Nat->Bool)(c:aa):Kd m f c 0 "tied" f λo=>[cK o,.aF]:=by
 refine⟨λo=>?_,λn=>?_,λc'=>rfl,λi j c'=>?_⟩
 ·unfold aE eS;simp[cD,eL]
 ·unfold iV;simp[eL,cK,noRef]
 ·cases f i j<;>simp
def kd1(m:Nat)(f:Nat->Nat->Bool)(c:aa)(s:Option Nat):Kd m f c 1 "apart" (nX f) λo=>[cK s,cK o]:=by
 refine⟨λo=>?_,λn=>?_,λc'=>rfl,λi j c'=>?_⟩
 ·unfold aE eS;simp[cD,eL]
 ·unfold iV;simp[eL,cK,noRef]
 ·unfold nX;cases f i j<;>simp
def aen{e:Ev}{c:aa}:cU (aq (dC .aF) (aq (dC .aF) au)) e c=.ok (.ref c.length) (c++[.lst [.aF,.aF]]):=by
 have:(2:Nat)<=ε:=cC (by decide)
 simp[this,bI,noRef]
def aiw{m:Nat}(f:Nat->Nat->Bool)(h0:0<m)(hm:m<60)(c:aa):qp [aP m f] c=.ok (jc (wF m f)) c:=by
 have hs:=cC (n:=1000) (by decide)
 have e0:=kh (i:=1) (e:=[ζ (aP m f),η,η,η,η,η,η,η,η]) (iR (d1:=ak 0) rfl (ao7 m f c));have hcmp:bA (cy (ak 0)) [η] (aA 0) aZ (jA (ak 0) (dC (.bl θ))) [ζ (aP m f),ζ (.int m),η,η,η,η,η,η,η] c=.ok (fD m f) c:=ya (wC (l:=(ι m).map λi=>D.lst (b9 m f i)) rfl) (by rw[an2,ao5];omega) (aj3 m f c)
 have e1:=kh (i:=2) hcmp;obtain⟨u,hp⟩:=P8 f h0 (T:=aP m f) [η,η,η,η,η] c (ι m) η λi hi=>aod.mp hi
 rw[<-pU,<-Zy f h0]at hp;have e2:=lV (g:=aA 3) (s:=xV) (tS (q:=(m:Int)) (d:=ak 1) (e:=[ζ (aP m f),ζ (.int m),ζ (fD m f),η,η,η,η,η,η]) (c:=c) rfl (by omega)) hp
 have hb:qW=aD (aH 1 (aJ bC (aq (ak 0) au))) (aD (aH 2 (bA (cy (ak 0)) [η] (aA 0) aZ (jA (ak 0) (dC (.bl θ))))) (aD (bJ (bH (aq (ak 1) au)) (aA 3) xV) (aD (aH 4 (cU (aq (dC .aF) (aq (dC .aF) au)))) (aD (bJ (bH (aq (dC (.int 2)) au)) (aA 5) Hq) (aR (bf (aq (dC (.str "even")) (aq (bf (aq (ak 1) (aq (av aE (ak 2) (dC (.int 0))) (aq (av aE (ak 4) (dC (.int 0))) (aq (av aE (ak 4) (dC (.int 1))) au))))) au)))))))):=rfl;have es:cF 9 [aP m f]=[ζ (aP m f),η,η,η,η,η,η,η,η]:=rfl;have main:∃l d,bI l=θ/\jc (wF m f)=.tup l/\qW [ζ (aP m f),η,η,η,η,η,η,η,η] c=.ok (.rt (.tup l)) (c++d):=by
  rw[hb,bw e0];have xX:(aH 2 (bA (cy (ak 0)) [η] (aA 0) aZ (jA (ak 0) (dC (.bl θ))))) [ζ (aP m f),ζ (.int m),η,η,η,η,η,η,η] c=.ok (.nx [ζ (aP m f),ζ (.int m),ζ (fD m f),η,η,η,η,η,η]) c:=e1;unfold jc;rw[KU,ah0];show ∃l d,bI l=θ/\_=D.tup l/\aD (aH 2 (bA (cy (ak 0)) [η] (aA 0) aZ (jA (ak 0) (dC (.bl θ))))) _ [ζ (aP m f),ζ (.int m),η,η,η,η,η,η,η] c=_;rw[bw xX,kc,e2];cases hpl:jr (wF m f)with
  |some i=>exact⟨_,[],rfl,rfl,by rw[aoM];rfl⟩
  |none =>
   simp only[R.aB];have e3:(aH 4 (cU (aq (dC .aF) (aq (dC .aF) au)))) [ζ (aP m f),ζ (.int m),ζ (fD m f),u,η,η,η,η,η] c=.ok (.nx [ζ (aP m f),ζ (.int m),ζ (fD m f),u,ζ (.ref c.length),η,η,η,η]) (c++[.lst [.aF,.aF]]):=sj aen;rw[bw e3];have xJ:(bH (aq (dC (.int 2)) au)) [ζ (aP m f),ζ (.int m),ζ (fD m f),u,ζ (.ref c.length),η,η,η,η] (c++[.lst [.aF,.aF]])=.ok ⟨[.int 0,.int 1],λ_=>True⟩ (c++[.lst [.aF,.aF]]):=tS (q:=2) rfl (by omega)
   have k0:=P9 (CL:=fD m f) (v3:=u) (kd0 m f c) hm η η η η;have r0:run (λp=>gv m f p.1 p.2) η (gY m f)=tR (wF m f) (gY m f):=by
    rw[<-Lu];exact Dd _ _ λp hp=>(Qp f (zG p hp).1 (zG p hp).2).symm
   rw[r0]at k0;unfold tR at k0;have hg0:aA 5 (.int 0) [ζ (aP m f),ζ (.int m),ζ (fD m f),u,ζ (.ref c.length),η,η,η,η] (c++[.lst [.aF,.aF]])=.ok (dj m f (fD m f) u c.length 0 η η η) (c++[.lst [cK η,.aF]]):=rfl;rw[kc,gy,xJ];simp only[R.aB];rw[gD,hg0,R.aB];cases hu:fN (wF m f) (gY m f)with
   |some p =>
    rw[hu]at k0;obtain⟨o,e⟩:=k0;rw[e];exact⟨_,_,rfl,rfl,rfl⟩
   |none =>
    rw[hu]at k0;obtain⟨v6,v7,v8,_,e⟩:=k0;rw[e];simp only[R.aB]
    generalize hs0:iu (wF m f) (gY m f)=s0
    have k1:=P9 (CL:=fD m f) (v3:=u) (kd1 m f c s0) hm v6 v7 v8 η;have r1:run (λp=>gv m f p.1 p.2) η (gY m (nX f))=tR (wF m f) (gY m (nX f)):=by
     rw[<-Lu];exact Dd _ _ λp hp=>(Qp f (zG p hp).1 (zG p hp).2).symm
    rw[r1]at k1;unfold tR at k1;have FW:aA 5 (.int 1) (dj m f (fD m f) u c.length 0 v6 v7 v8) (c++[.lst [cK s0,.aF]])=.ok (dj m f (fD m f) u c.length 1 v6 v7 v8) (c++[.lst [cK s0,cK η]]):=rfl;rw[gD,FW,R.aB];cases xG:fN (wF m f) (gY m (nX f))with
    |some p =>
     rw[xG]at k1;obtain⟨o,e⟩:=k1;rw[e];exact⟨_,_,rfl,rfl,rfl⟩
    |none =>
     rw[xG]at k1;obtain⟨w6,w7,w8,_,e⟩:=k1;rw[e];simp only[R.aB]
     generalize hs1:iu (wF m f) (gY m (nX f))=s1
     rw[Px];simp only[R.aB];have l0:aE (.ref c.length) (.int 0) (c++[.lst [cK s0,cK s1]])=.ok (cK s0) (c++[.lst [cK s0,cK s1]]):=by unfold aE eS;simp[cD,eL]
     have l1:aE (.ref c.length) (.int 1) (c++[.lst [cK s0,cK s1]])=.ok (cK s1) (c++[.lst [cK s0,cK s1]]):=by unfold aE eS;simp[cD,eL]
     have hr:=jI (nC (x:=.str "even") (d1:=dC (.str "even")) (e:=dj m f (fD m f) u c.length 1 w6 w7 w8) (c:=c++[.lst [cK s0,cK s1]]) rfl (KL (d1:=ak 1) (x:=.int (m:Nat)) rfl (cP (d1:=ak 2) (d2:=dC (.int 0)) rfl rfl (Ib f h0 _)) (cP (d1:=ak 4) (d2:=dC (.int 0)) rfl rfl l0) (cP (d1:=ak 4) (d2:=dC (.int 1)) rfl rfl l1)));refine⟨_,_,?_,?_,hr⟩
     ·cases s0<;>cases s1<;>rfl
     ·rw[rO,vZ f h0,Hs]
 obtain⟨l,d,nr,he,F4⟩:=main;rw[qp,he];exact ahS (by rw[es];exact F4) nr
def DA:ah:=(aH 2 (aG 1 qm (aq (aG 2 om (aq (ak 0) (aq (ak 1) au))) au)))
def YO{ns:List Int}{i x:Int}{j:Nat}{c c':aa}(rest:Ev)(v2:Option D)(hx:om [.b7 ns,.int i] c=.ok (.int x) c)(hp:qm [.int x] c=.ok (.ref j) c'):DA (ζ (.b7 ns)::ζ (.int i)::v2::rest) c=.ok (.nx (ζ (.b7 ns)::ζ (.int i)::ζ (.ref j)::rest)) c':=by
 have h1:=jY (m:=om) (d1:=ak 0) (d2:=ak 1) (e:=ζ (.b7 ns)::ζ (.int i)::v2::rest) (c:=c) rfl rfl hx;unfold DA;rw[fK,x_call];simp only[bE,h1,bB,R.aB];rw[if_pos (by rfl),hp]
 rfl
def UW{m i j:Nat}(f:Nat->Nat->Bool)(hi:i<m)(hj:j<m){d1 d2 d3:af}{e:Ev}{c:aa}(h1:d1 e c=.ok (aP m f) c)(h2:d2 e c=.ok (.int i) c)(h3:d3 e c=.ok (.int j) c):av aE (av aE d1 d2) d3 e c=.ok (.bl (f i j)) c:=cP (cP h1 h2 (yU f hi c)) h3 (zh f i hj c)
def UT{m p:Nat}(f:Nat->Nat->Bool)(s:List Nat)(hp:p<m)(c:aa):bz (λ_=>True) (aA 0) aZ (av cL (av aE (av aE (ak 1) (ak 2)) (ak 0)) (av cL (av inD (ak 2) (ak 3)) (av inD (ak 0) (ak 3)))) (aO 0 (m:Int)) [η,ζ (aP m f),ζ (.int p),ζ (.tup (nD s))] [] c=.ok (b9 m (iH f s) p) c:=by
 have:=jV (E:=[ζ (aP m f),ζ (.int p),ζ (.tup (nD s))]) (t:=aZ) (a:=(av cL (av aE (av aE (ak 1) (ak 2)) (ak 0)) (av cL (av inD (ak 2) (ak 3)) (av inD (ak 0) (ak 3))))) (c:=c) (λj:Nat=>D.int (j:Int)) (λq:Nat=>D.bl (iH f s p q)) (λ_=>θ) (ι m) η [] (λj _=>rfl) (λq hq _=>cP (UW f hp (aod.mp hq) rfl rfl rfl) (cP (cP rfl rfl (xE s p c)) (cP rfl rfl (xE s q c)) (zS _ _ c)) (zS _ _ c))
 have ft:(ι m).filter (λ_=>θ)=ι m:=by simp
 rw[an9,ft]at this;rw[pU];exact this
def US{m:Nat}(f:Nat->Nat->Bool)(s:List Nat)(hm:m<60)(c:aa):bz (λ_=>True) (aA 0) aZ (bA (bH (aq (ak 1) au)) [η,ζ 2,ζ 0,ζ 3] (aA 0) aZ (av cL (av aE (av aE (ak 1) (ak 2)) (ak 0)) (av cL (av inD (ak 2) (ak 3)) (av inD (ak 0) (ak 3))))) (aO 0 (m:Int)) [η,ζ (.int m),ζ (aP m f),ζ (.tup (nD s))] [] c=.ok ((ι m).map λi=>.lst (b9 m (iH f s) i)) c:=by
 have hs:=cC (n:=1000) (by decide)
 have:=jV (E:=[ζ (.int m),ζ (aP m f),ζ (.tup (nD s))]) (t:=aZ) (a:=(bA (bH (aq (ak 1) au)) [η,ζ 2,ζ 0,ζ 3] (aA 0) aZ (av cL (av aE (av aE (ak 1) (ak 2)) (ak 0)) (av cL (av inD (ak 2) (ak 3)) (av inD (ak 0) (ak 3)))))) (c:=c) (λj:Nat=>D.int (j:Int)) (λp:Nat=>D.lst (b9 m (iH f s) p)) (λ_=>θ) (ι m) η [] (λj _=>rfl) (λp hp _=>ya (tS (q:=(m:Int)) rfl (by omega)) (by rw[dP];omega) (UT f s (aod.mp hp) c))
 have ft:(ι m).filter (λ_=>θ)=ι m:=by simp
 rw[an9,ft]at this;rw[pU];exact this
def aev{m:Nat}(f:Nat->Nat->Bool)(s:List Nat)(hm:m<60)(c:aa):uv [aP m f,.tup (nD s)] c=.ok (aP m (iH f s)) c:=by
 have hs:=cC (n:=1000) (by decide)
 refine lz ?_ (K2 _ _) (λk h=>by cases h)
 show qS [ζ (aP m f),ζ (.tup (nD s)),η] c=_;have e0:=kh (i:=2) (e:=[ζ (aP m f),ζ (.tup (nD s)),η]) (iR (d1:=ak 0) rfl (ao7 m f c));have hc:=ya (sr:=bH (aq (ak 2) au)) (pick:=[η,ζ 2,ζ 0,ζ 1]) (g:=aA 0) (t:=aZ) (a:=(bA (bH (aq (ak 1) au)) [η,ζ 2,ζ 0,ζ 3] (aA 0) aZ (av cL (av aE (av aE (ak 1) (ak 2)) (ak 0)) (av cL (av inD (ak 2) (ak 3)) (av inD (ak 0) (ak 3)))))) (e:=[ζ (aP m f),ζ (.tup (nD s)),ζ (.int m)]) (tS (q:=(m:Int)) rfl (by omega)) (by rw[dP];omega) (US f s hm c)
 unfold qS;exact(bw e0).trans (jI hc)
def kD(K:List Nat):D:=.tup (nD K)
def aN(L:List (List Nat)):List D:=L.map kD
def Fw(K:List Nat):noRef (kD K)=θ:=by
 unfold kD noRef;exact xh K
def xC(L:List (List Nat)):bI (aN L)=θ:=iy.mpr λd hd=>by
 obtain⟨l,_,rfl⟩:=aoa.mp hd;exact Fw l
def Lx(r:List Nat):(nQ r).depth<=10:=by
 unfold nQ;have:=Qd (F:=λn:Nat=>PyData.int (n:Int)) (n:=5) (λa=>by simp[PyData.depth]) r
 simp only[PyData.depth];omega
def ajb(K:List Nat):d8 (kD K)=ζ (nQ K):=by
 show(match gS (nD K)with|some r=>ζ (PyData.tuple r)|none=>η)=_
 rw[Bj];rfl
def adh(K:List Nat)(c:aa):nY (kD K) (.tup []) c=.ok (.bl (!decide (K=[]))) c:=by
 have h1:fy c (kD K)=ζ (nQ K):=ajb K;have h2:fy c (.tup [])=ζ (nQ []):=rfl;have d1:=Lx K;have d2:=Lx [];unfold nY;rw[h1,h2];dsimp only;rw[if_pos ⟨by omega,by omega⟩,Xw]
def aeG(K:List Nat)(k:Nat)(c:aa):aE (kD (K++[k])) (.int (-1)) c=.ok (.int (k:Int)) c:=by
 have h:cD (nD (K++[k])) (-1)=ζ (.int (k:Int)):=by
  unfold cD eL;rw[if_neg (by omega),if_pos (by rw[um];simp;omega)]
  have:((-1:Int)+((nD (K++[k])).length:Int)).toNat=K.length:=by rw[um];simp;omega
  rw[asD,this];unfold nD;rw[aoZ,aov (by simp)]
  simp
 unfold aE;show(match cD (nD (K++[k])) (-1)with|some d=>R.ok d c|none=>.bad)=_
 rw[h]
def dg:Nat->List (List Nat)
 |0=>[[]]
 |k+1=>dg k++(dg k).map λl=>l++[k+1]
def Lq:∀k,(dg k).length=2^k
 |0=>rfl
 |k+1=>by simp[dg,Lq k,Nat.pow_succ];omega
def vL:ah:=(aH 1 (av oX (ak 1) (bA (cy (ak 1)) [η,ζ 2] (aA 0) aZ (av jX (ak 0) (bf (aq (ak 1) au))))))
def Rf(K:List Nat)(k:Nat)(c:aa)(h:K.length<1000):jX (kD K) (.tup [.int (k:Int)]) c=.ok (kD (K++[k])) c:=by
 have sz:=Lf;show(if(nD K).length+[D.int (k:Int)].length<=ε then R.ok (D.tup (nD K++[D.int (k:Int)])) c else .bad)=_
 rw[if_pos (by rw[um];simp;omega)]
 unfold kD nD;rw[aoZ];rfl
def KO{e:Ev}{c:aa}{i:Nat}{d:D}(h:ak i e c=.ok d c):bf (aq (ak i) au) e c=.ok (.tup [d]) c:=by
 have k1:(1:Nat)<=ε:=cC (by decide)
 simp only[j9,bE,h,bB,R.aB];rw[if_pos (by exact k1)]
def akF{M:D}{k:Nat}(hk:k<9)(hl:∀l∈dg k,l.length<1000)(c:aa):vL [ζ M,ζ (.lst (aN (dg k))),ζ (.int ((k+1:Nat):Int))] c=.ok (.nx [ζ M,ζ (.lst (aN (dg (k+1)))),ζ (.int ((k+1:Nat):Int))]) c:=by
 have sz:=Lf;have hlen:=Lq k;have h9:2^k<=512:=by
  have:2^k<=2^9:=Nat.pow_le_pow_right (by decide) (by omega)
  simpa using this
 have oK:=jV (E:=[ζ (.int ((k+1:Nat):Int))]) (t:=aZ) (a:=(av jX (ak 0) (bf (aq (ak 1) au)))) (c:=c) kD (λl=>kD (l++[k+1])) (λ_=>θ) (dg k) η [] (λ_ _=>rfl) (λl hm _=>cP (f:=jX) (x:=kD l) (y:=.tup [.int ((k+1:Nat):Int)]) rfl (KO rfl) (Rf l (k+1) c (hl l hm)))
 have ft:(dg k).filter (λ_=>θ)=dg k:=by simp
 rw[an9,ft]at oK;have hcc:=ya (pick:=[η,ζ 2]) (e:=[ζ M,ζ (.lst (aN (dg k))),ζ (.int ((k+1:Nat):Int))]) (wC (d:=ak 1) (l:=aN (dg k)) rfl) (by unfold aN;rw[an2];omega) oK
 unfold vL;refine kh (i:=1) (cP (f:=oX) (x:=.lst (aN (dg k))) rfl hcc ?_);show(if(aN (dg k)).length+((dg k).map λl=>kD (l++[k+1])).length<=ε then R.ok (D.lst (aN (dg k)++(dg k).map λl=>kD (l++[k+1]))) c else .bad)=_
 rw[if_pos (by unfold aN;rw[an2,an2];omega)]
 show _=R.ok (D.lst (aN (dg k++(dg k).map λl=>l++[k+1]))) c
 unfold aN;rw[aoZ,aos];rfl
def zf:∀k,∀l∈dg k,l.length<=k
 |0,l,h=>by simp[dg]at h;simp[h]
 |k+1,l,h=>by
  rcases aou.mp h with h|h
  ·have:=zf k l h;omega
  ·obtain⟨l',h',rfl⟩:=aoa.mp h;have:=zf k l' h';simp;omega
def Rx{M:D}(c:aa):∀(n k:Nat) (v:Option D),k+n<=9->∃w,b8 (λ_=>True) (aA 2) vL (nD (List.range' (k+1) n)) [ζ M,ζ (.lst (aN (dg k))),v] c=.ok (.nx [ζ M,ζ (.lst (aN (dg (k+n)))),w]) c
 |0,k,v,h=>⟨v,by simp[nD]⟩
 |n+1,k,v,h=>by
  obtain⟨w,hw⟩:=Rx (M:=M) c n (k+1) (ζ (.int ((k+1:Nat):Int))) (by omega)
  refine⟨w,?_⟩;have hs:=akF (M:=M) (k:=k) (by omega) (λl hl=>by have:=zf k l hl;omega) c
  have e:nD (List.range' (k+1) (n+1))=.int ((k+1:Nat):Int)::nD (List.range' (k+1+1) n):=by rw[arl];rfl
  rw[e,gD];show((R.ok [ζ M,ζ (.lst (aN (dg k))),ζ (.int ((k+1:Nat):Int))] c).bind λe c=>(vL e c).bind _)=_
  rw[R.aB,hs,R.aB];rw[show k+(n+1)=k+1+n by omega]
  exact hw
def N1(l:List Nat):Lk:=((l.length:Nat),l.map λn:Nat=>(n:Int))
def Oc:∀l:List Nat,kH (nD l)=ζ (l.map λn:Nat=>(n:Int))
 |[]=>rfl
 |n::l=>by
  have:=Oc l;unfold nD at this ⊢;rw[an8];unfold kH;rw[this];rfl
def NY(c:aa):∀L:List (List Nat),(∀l∈L,l.length<1000)->lO (i8 jQ) [] c (aN L)=ζ (L.map N1)
 |[],_=>rfl
 |l::L,h=>by
  have ih:=NY c L λx hx=>h x (.tail _ hx)
  have hm:i8 jQ ([kD l]++[]) c=.ok (.tup [.int ((l.length:Nat):Int),kD l]) c:=by
   show jQ [ζ (kD l)] c=_;unfold jQ;refine nC (iR (d1:=ak 0) (x:=kD l) rfl ?_) rfl;show R.ok (D.int ((nD l).length:Nat)) c=_;rw[um]
  unfold aN at ih ⊢;rw[an8];unfold lO;rw[hm];dsimp only[kD];rw[if_pos rfl,ih,Oc];rfl
def eN(K:List Nat):Nat:=match K.getLast? with
 |none=>1
 |some x=>x+1
def fV(m:Nat)(K:List Nat):List (List Nat):=(List.range' (eN K) (m-eN K)).map λk=>K++[k]
def fF(m:Nat):Nat->List (List Nat)
 |0=>[[]]
 |s+1=>(fF m s).flatMap (fV m)
def eK(m:Nat):List (List Nat):=(ι m).flatMap (fF m)
def k9(m:Nat):Bool:=match wB ((dg (m-1)).map N1)with
 |some p=>decide (p.toList.map (λi=>(dg (m-1)).getD i [])=eK m)&&p.toList.all λi=>decide (i<(dg (m-1)).length)
 |none=>Δ
def VG:k9 1=θ:=by decide +kernel
def VF:k9 2=θ:=by decide +kernel
def VE:k9 3=θ:=by decide +kernel
def VD:k9 4=θ:=by decide +kernel
def VC:k9 5=θ:=by decide +kernel
def VB:k9 6=θ:=by decide +kernel
def VA:k9 7=θ:=by decide +kernel
def Vz{m:Nat}(h1:1<=m)(h7:m<=7):k9 m=θ:=by
 match m,h1,h7 with
 |1,_,_=>exact VG
 |2,_,_=>exact VF
 |3,_,_=>exact VE
 |4,_,_=>exact VD
 |5,_,_=>exact VC
 |6,_,_=>exact VB
 |7,_,_=>exact VA
def LR(L:List (List Nat)):∀p:List Nat,(∀i∈p,i<L.length)->(p.map λi=>(aN L).getD i .aF)=aN (p.map λi=>L.getD i [])
 |[],_=>rfl
 |i::p,h=>by
  have hi:=h i (.head _);rw[an8,LR L p λj hj=>h j (.tail _ hj)]
  have:(aN L).getD i .aF=kD (L.getD i []):=by simp[aN,aof,hi]
  rw[this];rfl
def VJ{m:Nat}(h1:1<=m)(h7:m<=7)(e:Ev)(c:aa)(he:ak 1 e c=.ok (.lst (aN (dg (m-1)))) c):Bv (i8 jQ) (ak 1) [] e c=.ok (.lst (aN (eK m))) c:=by
 have hs:=Vz h1 h7;have hk:=NY c (dg (m-1)) λl hl=>by have:=zf _ l hl;omega
 unfold k9 at hs;split at hs
 ·rename_i p hp;rw[aoj,decide_eq_true_eq,aoo]at hs;have hpk:=LR (dg (m-1)) p.toList λi hi=>by have:=hs.2 i hi;simpa using this
  rw[hs.1]at hpk;unfold Bv;rw[he];simp only[R.aB,getAll];rw[hk];dsimp only;rw[hp];dsimp only;rw[hpk]
 ·cases hs
def alq{m:Nat}(h1:1<=m)(h7:m<=7)(c:aa):z6 [.int (m:Int)] c=.ok (.lst (aN (eK m))) c:=by
 refine lz ?_ (by unfold noRef;exact xC _) (λk h=>by cases h)
 show rm [ζ (.int (m:Int)),η,η] c=_;obtain⟨w,hw⟩:=Rx (M:=.int (m:Int)) c (m-1) 0 η (by omega)
 have e0:(aH 1 (cV (aq (bf au) au))) [ζ (.int (m:Int)),η,η] c=.ok (.nx [ζ (.int (m:Int)),ζ (.lst (aN (dg 0))),η]) c:=by
  have k1:(1:Nat)<=ε:=cC (by decide)
  have k0:(0:Nat)<=ε:=aoz _;simp[k1,k0,aN,dg,kD,nD]
 have er:aO 1 (m:Int)=nD (List.range' (0+1) (m-1)):=by
  have:=Dg 0 m
  simpa using this
 have e1:bJ (eV (aq (dC (.int 1)) (aq (ak 0) au))) (aA 2) vL [ζ (.int (m:Int)),ζ (.lst (aN (dg 0))),η] c=.ok (.nx [ζ (.int (m:Int)),ζ (.lst (aN (dg (0+(m-1))))),w]) c:=lV (g:=aA 2) (s:=vL) (e:=[ζ (.int (m:Int)),ζ (.lst (aN (dg 0))),η]) (c:=c) (Dh (d1:=dC (.int 1)) (d2:=ak 0) (p:=1) (q:=(m:Int)) rfl rfl (by omega) (by omega)) (by rw[er];exact hw)
 unfold rm;refine(bw e0).trans ((bw e1).trans (jI ?_));rw[aog];exact VJ h1 h7 _ c rfl
def PL:ah:=(aH 5 (dC (.int 1)))
def Gq:ah:=(bh (aM (av nY (ak 4) (bf au))) (aH 5 (av bx (av aE (ak 4) (oV nZ (dC (.int 1)))) (dC (.int 1)))) bF)
def fi2:ah:=(cW (dw (ak 3) (bA (eV (aq (ak 5) (aq (ak 0) au))) [η,ζ 4] (aA 0) aZ (av jX (ak 1) (bf (aq (ak 0) au))))))
def qJ:ah:=aD PL (aD Gq fi2)
def ahX(K:List Nat)(v0 v1 v2 v3 v5 v6 v7:Option D)(c:aa):∃w,PL [v0,v1,v2,v3,ζ (kD K),v5,v6,v7] c=.ok (.nx w) c/\Gq w c=.ok (.nx [v0,v1,v2,v3,ζ (kD K),ζ (.int ((eN K:Nat):Int)),v6,v7]) c:=by
 refine⟨[v0,v1,v2,v3,ζ (kD K),ζ (.int 1),v6,v7],rfl,?_⟩;have ht:aM (av nY (ak 4) (bf au)) [v0,v1,v2,v3,ζ (kD K),ζ (.int 1),v6,v7] c=.ok (!decide (K=[])) c:=qQ (cP (f:=nY) (x:=kD K) (y:=.tup []) rfl (by simp) (adh K c))
 rcases List.eq_nil_or_concat K with rfl|⟨K',k,rfl⟩
 ·exact FE ht
 ·rw[List.concat_eq_append]at ht ⊢;have hd:decide (K'++[k]=[])=Δ:=by rw[decide_eq_false_iff_not];simp
  rw[hd]at ht;unfold Gq;rw[gx,ht,R.aB,if_pos (show(!false)=θ from rfl)]
  refine kh (i:=5) (cP (f:=bx) (x:=.int (k:Int)) (y:=.int 1) (cP (x:=kD (K'++[k])) (y:=.int (-1)) rfl rfl (aeG K' k c)) rfl ?_);have:eN (K'++[k])=k+1:=by simp[eN]
  rw[this];rfl
def ahW{m:Nat}{K:List Nat}{acc:List (List Nat)}{C:aa}(hl:K.length<1000)(hm:m<60)(hfs:eN K<1000)(ha:acc.length<=65536)(v1 v2 v5 v6 v7:Option D) :
  qJ [ζ (.int (m:Int)),v1,v2,ζ (.ref C.length),ζ (kD K),v5,v6,v7] (C++[.lst (aN acc)])=.ok (.nx [ζ (.int (m:Int)),v1,v2,ζ (.ref C.length),ζ (kD K),ζ (.int ((eN K:Nat):Int)),v6,v7]) (C++[.lst (aN (acc++fV m K))]):=by
 have sz:=sf
 generalize hC:C++[Cell.lst (aN acc)]=C1
 obtain⟨w,e0,e1⟩:=ahX K (ζ (.int (m:Int))) v1 v2 (ζ (.ref C.length)) v5 v6 v7 C1;have oK:=jV (E:=[ζ (kD K)]) (t:=aZ) (a:=(av jX (ak 1) (bf (aq (ak 0) au)))) (c:=C1) (λo:Nat=>D.int (o:Int)) (λk=>kD (K++[k])) (λ_=>θ) (List.range' (eN K) (m-eN K)) η [] (λ_ _=>rfl) (λk hk _=>cP (f:=jX) (x:=kD K) (y:=.tup [.int (k:Int)]) rfl (KO rfl) (Rf K k C1 hl))
 have ft:(List.range' (eN K) (m-eN K)).filter (λ_=>θ)=List.range' (eN K) (m-eN K):=by simp
 rw[an9,ft]at oK;have er:aO ((eN K:Nat):Int) (m:Int)=nD (List.range' (eN K) (m-eN K)):=by
  obtain⟨a,ha⟩:∃a,eN K=a+1:=by
   unfold eN;split
   ·exact⟨0,rfl⟩
   ·exact⟨_,rfl⟩
  rw[ha];exact Dg a m
 have hcc:=ya (pick:=[η,ζ 4]) (e:=[ζ (.int (m:Int)),v1,v2,ζ (.ref C.length),ζ (kD K),ζ (.int ((eN K:Nat):Int)),v6,v7]) (Dh (d1:=ak 5) (d2:=ak 0) (p:=((eN K:Nat):Int)) (q:=(m:Int)) rfl rfl (by omega) (by omega)) (by rw[er,um];simp;omega) (by rw[er];exact oK)
 have ee:((List.range' (eN K) (m-eN K)).map λk=>kD (K++[k]))=aN (fV m K):=by
  unfold aN fV;rw[aos];rfl
 rw[ee]at hcc;have hxl:(fV m K).length<=60:=by unfold fV;simp;omega
 have FZ:=PM (dO:=ak 3) (e:=[ζ (.int (m:Int)),v1,v2,ζ (.ref C.length),ζ (kD K),ζ (.int ((eN K:Nat):Int)),v6,v7]) (c:=C1) (k:=C.length) (acc:=aN acc) rfl hcc (by rw[<-hC];simp) (by unfold aN;rw[an2,an2];omega) (xC _)
 have e2:=Bh FZ;unfold qJ;refine(bw e0).trans ((bw e1).trans (e2.trans ?_));have ec:(C++[Cell.lst (aN acc)]).set C.length (.lst (aN acc++aN (fV m K)))=C++[.lst (aN (acc++fV m K))]:=by
  rw[ari _ _ (anU _),ao2];unfold aN;rw[aoZ];rfl
 rw[<-hC,ec]
def dS(v:Option D):Prop:=∀d,v=ζ d->(∃K,d=kD K)\/∃i,d=.int i
def dS.k(K:List Nat):dS (ζ (kD K)):=λd h=>.inl ⟨K,by cases h;rfl⟩
def dS.i(i:Int):dS (ζ (.int i)):=λd h=>.inr ⟨i,by cases h;rfl⟩
def dS.aF:dS η:=λd h=>by cases h
def dS.low{v:Option D}(h:dS v)(n:Nat)(d:D)(e:v=ζ d):Aa n d=θ:=by
 rcases h d e with⟨K,rfl⟩|⟨i,rfl⟩
 ·show noRef (kD K)=θ;exact Fw K
 ·rfl
def PK{m:Nat}{C:aa}(hm:m<60)(v1 v2 v6 v7:Option D):∀(Ks acc:List (List Nat)) (v4 v5:Option D),dS v4->dS v5->(∀K∈Ks,K.length<1000/\eN K<1000)->acc.length+(Ks.flatMap (fV m)).length<=65536 ->
  ∃w4 w5,dS w4/\dS w5/\b8 (λ_=>True) (aA 4) qJ (aN Ks) [ζ (.int (m:Int)),v1,v2,ζ (.ref C.length),v4,v5,v6,v7] (C++[.lst (aN acc)])=.ok (.nx [ζ (.int (m:Int)),v1,v2,ζ (.ref C.length),w4,w5,v6,v7]) (C++[.lst (aN (acc++Ks.flatMap (fV m)))])
 |[],acc,v4,v5,o4,o5,_,_=>⟨v4,v5,o4,o5,by simp[aN]⟩
 |K::Ks,acc,v4,v5,o4,o5,hK,hb=>by
  have hb':acc.length+((fV m K).length+(Ks.flatMap (fV m)).length)<=65536:=by
   have:((K::Ks).flatMap (fV m)).length=(fV m K).length+(Ks.flatMap (fV m)).length:=by rw[aro,aon]
   omega
  obtain⟨w4,w5,p4,p5,hw⟩:=PK hm v1 v2 v6 v7 Ks (acc++fV m K) (ζ (kD K)) (ζ (.int ((eN K:Nat):Int))) (dS.k K) (dS.i _) (λx hx=>hK x (.tail _ hx)) (by rw[aon];omega)
  refine⟨w4,w5,p4,p5,?_⟩;have hs:=ahW (m:=m) (K:=K) (acc:=acc) (C:=C) (hK K (.head _)).1 hm (hK K (.head _)).2 (by omega) v1 v2 v5 v6 v7
  show b8 (λ_=>True) (aA 4) qJ (kD K::aN Ks) _ _=_
  rw[gD];show((R.ok [ζ (.int (m:Int)),v1,v2,ζ (.ref C.length),ζ (kD K),v5,v6,v7] (C++[Cell.lst (aN acc)])).bind λe c=>(qJ e c).bind _)=_
  rw[R.aB,hs,R.aB,aro,<-aop];exact hw
def NG:∀m,m<=7->∀s,s<=8->(fF m s).length<=40/\(fF m s).all (λK=>decide (K.length<=8/\eN K<=8))=θ:=by decide +kernel
def z7:∀m,m<=7->(eK m).length<=64/\(eK m).all (λK=>K.all (λx=>decide (x<m))&&decide (Up K))=θ:=by decide +kernel
def cz(m s:Nat):List D:=(ι (s+1)).map λi=>.lst (aN (fF m i))
def ahZ{m s:Nat}{C:aa}:aE (.ref C.length) (.int (-1)) (C++[.lst (cz m s),.lst (aN [])])=.ok (.lst (aN (fF m s))) (C++[.lst (cz m s),.lst (aN [])]):=by
 have h:cD (cz m s) (-1)=ζ (.lst (aN (fF m s))):=by
  unfold cD eL;have hl:(cz m s).length=s+1:=by simp[cz]
  rw[hl,if_neg (by omega),if_pos (by omega)]
  have:((-1:Int)+((s+1:Nat):Int)).toNat=s:=by omega
  rw[asD,this];simp[cz]
 unfold aE;have hq:eS (C++[Cell.lst (cz m s),.lst (aN [])]) (.ref C.length)=ζ (cz m s):=by
  show(match(C++[Cell.lst (cz m s),.lst (aN [])])[C.length]? with|some (.lst l)=>ζ l|none=>η)=_
  rw[aov (anU _),ao2];rfl
 dsimp only;rw[hq];dsimp only;rw[h]
def r9:ah:=wK 1 3 (aH 3 (cU au)) (bJ (cy (av aE (ak 1) (oV nZ (dC (.int 1))))) (aA 4) qJ)
def Vw{m s:Nat}{C:aa}(hm:m<=7)(hs:s<=7){v2 v4 v5:Option D}(o2:dS v2)(o4:dS v4)(o5:dS v5) :
  ∃w4 w5,dS w4/\dS w5/\r9 [ζ (.int (m:Int)),ζ (.ref C.length),v2,η,v4,v5,η,η] (C++[.lst (cz m s)])=.ok (.nx [ζ (.int (m:Int)),ζ (.ref C.length),v2,η,w4,w5,η,η]) (C++[.lst (cz m (s+1))]):=by
 have sz:=sf;have hlv:=NG m hm s (by omega)
 have hlv2:=NG m hm (s+1) (by omega)
 have hall:=aoo.mp hlv.2;have e0:(aH 3 (cU au)) [ζ (.int (m:Int)),ζ (.ref C.length),v2,η,v4,v5,η,η] (C++[.lst (cz m s)])=.ok (.nx [ζ (.int (m:Int)),ζ (.ref C.length),v2,ζ (.ref (C++[Cell.lst (cz m s)]).length),v4,v5,η,η]) ((C++[.lst (cz m s)])++[.lst (aN [])]):=sj (i:=3) (by
  unfold cU;rw[bB];simp only[R.aB];rw[if_pos ⟨by show 0<=ε;omega,rfl⟩]
  rfl)
 obtain⟨w4,w5,p4,p5,hw⟩:=PK (m:=m) (C:=C++[.lst (cz m s)]) (by omega) (ζ (.ref C.length)) v2 η η (fF m s) [] v4 v5 o4 o5 (λK hK=>by have:=hall K hK;simp at this;omega) (by show 0+(fF m (s+1)).length<=65536;omega)
 refine⟨w4,w5,p4,p5,?_⟩;have ha:(C++[Cell.lst (cz m s)])++[Cell.lst (aN [])]=C++[.lst (cz m s),.lst (aN [])]:=by simp
 have qz:(cy (av aE (ak 1) (oV nZ (dC (.int 1))))) [ζ (.int (m:Int)),ζ (.ref C.length),v2,ζ (.ref (C++[Cell.lst (cz m s)]).length),v4,v5,η,η] ((C++[.lst (cz m s)])++[.lst (aN [])])=.ok ⟨aN (fF m s),λ_=>True⟩ ((C++[.lst (cz m s)])++[.lst (aN [])]):=wC (cP (f:=aE) (x:=.ref C.length) (y:=.int (-1)) rfl rfl (by rw[ha];exact ahZ))
 have e1:=lV (g:=aA 4) (s:=qJ) qz hw;rw[an9]at e1;unfold r9;rw[S9,e0,R.aB];dsimp only;rw[e1,R.aB];have g1:((C++[Cell.lst (cz m s)])++[Cell.lst (aN ((fF m s).flatMap (fV m)))])[C.length]? = ζ (.lst (cz m s)):=by
  rw[aop,aov (anU _),ao2];rfl
 have g2:((C++[Cell.lst (cz m s)])++[Cell.lst (aN ((fF m s).flatMap (fV m)))])[(C++[Cell.lst (cz m s)]).length]? = ζ (.lst (aN (fF m (s+1)))):=by
  rw[aov (anU _),ao2];rfl
 show(match((C++[Cell.lst (cz m s)])++[Cell.lst (aN ((fF m s).flatMap (fV m)))])[C.length]?,((C++[Cell.lst (cz m s)])++[Cell.lst (aN ((fF m s).flatMap (fV m)))])[(C++[Cell.lst (cz m s)]).length]? with|some (.lst l),ζ (.lst y)=>_|_,_=>_)=_
 rw[g1,g2];dsimp only;have hl:(cz m s).length=s+1:=by simp[cz]
 rw[if_pos ⟨rfl,by simp only[aon,aqQ],by simp only[aon,aqQ];omega,by rw[hl];omega,by
  unfold z9;have q2:=o2.low (C++[Cell.lst (cz m s)]).length;have q4:=p4.low (C++[Cell.lst (cz m s)]).length;have q5:=p5.low (C++[Cell.lst (cz m s)]).length;rw[aoo];intro o ho;simp only[aqX,List.set_cons_zero,anW,aob,or_false]at ho
  rcases ho with rfl|rfl|rfl|rfl|rfl|rfl|rfl|rfl
  ·rfl
  ·show decide (C.length<(C++[Cell.lst (cz m s)]).length)=θ;simp
  ·cases o with
   |none=>rfl
   |some d=>exact q2 d rfl
  ·rfl
  ·cases o with
   |none=>rfl
   |some d=>exact q4 d rfl
  ·cases o with
   |none=>rfl
   |some d=>exact q5 d rfl
  ·rfl
  ·rfl⟩]
 congr 1
 have ht:((C++[Cell.lst (cz m s)])++[Cell.lst (aN ((fF m s).flatMap (fV m)))]).take (C++[Cell.lst (cz m s)]).length=C++[.lst (cz m s)]:=apY;rw[ht,yZ];unfold cz;rw[apV (n:=s+1),aoZ];rfl
def K9{m:Nat}{C:aa}(hm:m<=7):∀(n s:Nat) (v2 v4 v5:Option D),dS v2->dS v4->dS v5->s+n<=7 ->
  ∃w2 w4 w5,dS w2/\dS w4/\dS w5/\b8 (λ_=>True) (aA 2) r9 (nD (List.range' s n)) [ζ (.int (m:Int)),ζ (.ref C.length),v2,η,v4,v5,η,η] (C++[.lst (cz m s)])=.ok (.nx [ζ (.int (m:Int)),ζ (.ref C.length),w2,η,w4,w5,η,η]) (C++[.lst (cz m (s+n))])
 |0,s,v2,v4,v5,o2,o4,o5,_=>⟨v2,v4,v5,o2,o4,o5,by simp[nD]⟩
 |n+1,s,v2,v4,v5,o2,o4,o5,h=>by
  obtain⟨u4,u5,q4,q5,hs⟩:=Vw (m:=m) (s:=s) (C:=C) hm (by omega) (v2:=ζ (.int ((s:Nat):Int))) (dS.i _) o4 o5
  obtain⟨w2,w4,w5,p2,p4,p5,hw⟩:=K9 (C:=C) hm n (s+1) (ζ (.int ((s:Nat):Int))) u4 u5 (dS.i _) q4 q5 (by omega)
  refine⟨w2,w4,w5,p2,p4,p5,?_⟩;have e:nD (List.range' s (n+1))=.int ((s:Nat):Int)::nD (List.range' (s+1) n):=by rw[arl];rfl
  rw[e,gD];show((R.ok [ζ (.int (m:Int)),ζ (.ref C.length),ζ (.int ((s:Nat):Int)),η,v4,v5,η,η] (C++[Cell.lst (cz m s)])).bind λe c=>(r9 e c).bind _)=_
  rw[R.aB,hs,R.aB,show s+(n+1)=s+1+n by omega]
  exact hw
def CQ:ah:=(cW (dw (ak 6) (ak 7)))
def Vs{m:Nat}{C:aa}{acc L:List (List Nat)}(h:acc.length+L.length<=65536)(v0 v1 v2 v3 v4 v5:Option D) :
  CQ [v0,v1,v2,v3,v4,v5,ζ (.ref C.length),ζ (.lst (aN L))] (C++[.lst (aN acc)])=.ok (.nx [v0,v1,v2,v3,v4,v5,ζ (.ref C.length),ζ (.lst (aN L))]) (C++[.lst (aN (acc++L))]):=by
 have FZ:=Bh (PM (dO:=ak 6) (da:=ak 7) (e:=[v0,v1,v2,v3,v4,v5,ζ (.ref C.length),ζ (.lst (aN L))]) (c:=C++[.lst (aN acc)]) (k:=C.length) (acc:=aN acc) (l:=aN L) rfl rfl (by simp) (by unfold aN;rw[an2,an2];omega) (xC _))
 unfold CQ;rw[FZ,yZ];unfold aN;rw[aoZ]
def Vu{m k:Nat}(hm:m<=7)(hk:k<=m):((ι k).flatMap (fF m)).length<=64:=by
 have h1:=(z7 m hm).1;unfold eK at h1;have:=ahT (fF m) (ι m) k;have e:(ι m).take k=ι k:=by rw[List.take_range,asz hk]
 rw[e]at this;omega
def PN{n k:Nat}{l:List D}{C:aa}(h:n<=k)(hk:C[k]? = ζ (.lst l)):cA Δ n (.ref k) C=.ok (.lst l) (C.take n):=by
 unfold cA;dsimp only;rw[hk];dsimp only;rw[if_pos h,if_neg (by simp)]
def ah7{n k:Nat}{l:List D}{C:aa}(h:n<=k)(hk:C[k]? = ζ (.lst l)):cA θ n (.ref k) C=.ok (.ref n) (C.take n++[.lst l]):=by
 unfold cA;dsimp only;rw[hk];dsimp only;rw[if_pos h,if_pos rfl]
def Vt{m:Nat}(h1:1<=m)(h7:m<=7)(c:aa):qi [.int (m:Int)] c=.ok (.lst (aN (eK m))) c:=by
 have sz:=sf;have e0:(aH 1 (cU (aq (cV (aq (bf au) au)) au))) [ζ (.int (m:Int)),η,η,η,η,η,η,η] c=.ok (.nx [ζ (.int (m:Int)),ζ (.ref c.length),η,η,η,η,η,η]) (c++[.lst (cz m 0)]):=sj (i:=1) (by
  have k1:(1:Nat)<=ε:=by omega
  have hi:cV (aq (bf au) au) [ζ (.int (m:Int)),η,η,η,η,η,η,η] c=.ok (.lst (aN [[]])) c:=by simp[k1,aN,kD,nD]
  unfold cU;simp only[bE,hi,bB,R.aB];rw[if_pos ⟨by show 1<=ε;omega,by unfold bI;rw[aoj];exact⟨by unfold noRef;exact xC _,rfl⟩⟩]
  rfl)
 obtain⟨w2,w4,w5,p2,p4,p5,hw⟩:=K9 (C:=c) h7 (m-1) 0 η η η dS.aF dS.aF dS.aF (by omega)
 have er:aO 0 ((m:Int)-1)=nD (List.range' 0 (m-1)):=by
  have:=pU (m-1);rw[aqy]at this;rw[<-this]
  congr 1
  omega
 have e1:bJ (bH (aq (av fO (ak 0) (dC (.int 1))) au)) (aA 2) r9 [ζ (.int (m:Int)),ζ (.ref c.length),η,η,η,η,η,η] (c++[.lst (cz m 0)])=.ok (.nx [ζ (.int (m:Int)),ζ (.ref c.length),w2,η,w4,w5,η,η]) (c++[.lst (cz m (0+(m-1)))]):=lV (g:=aA 2) (s:=r9) (tS (q:=(m:Int)-1) (cP (f:=fO) (x:=.int (m:Int)) (y:=.int 1) rfl rfl rfl) (by omega)) (by rw[er];exact hw)
 generalize hC:c++[Cell.lst (cz m (0+(m-1)))]=C at e1
 have hCl:C.length=c.length+1:=by rw[<-hC];simp
 have e2:(aH 6 (cU au)) [ζ (.int (m:Int)),ζ (.ref c.length),w2,η,w4,w5,η,η] C=.ok (.nx [ζ (.int (m:Int)),ζ (.ref c.length),w2,η,w4,w5,ζ (.ref C.length),η]) (C++[.lst (aN [])]):=sj (i:=6) (by
  unfold cU;rw[bB];simp only[R.aB];rw[if_pos ⟨by show 0<=ε;omega,rfl⟩]
  rfl)
 have hat:rG C (.ref c.length) (cz m (m-1)):=.inr ⟨_,rfl,by rw[<-hC,aog];simp⟩
 obtain⟨st,qz,hst⟩:=WD (d:=ak 1) (e:=[ζ (.int (m:Int)),ζ (.ref c.length),w2,η,w4,w5,ζ (.ref C.length),η]) (hat.app [.lst (aN [])]) rfl;have hfl:(cz m (m-1)).length=m:=by simp[cz];omega
 obtain⟨e',c',⟨w7,rfl,rfl⟩,hf⟩:=Gg (st:=st) (g:=aA 7) (s:=CQ) (λi e c'=>∃w7,e=[ζ (.int (m:Int)),ζ (.ref c.length),w2,η,w4,w5,ζ (.ref C.length),w7]/\c'=C++[.lst (aN ((ι i).flatMap (fF m)))])
  (λi e c' ⟨_,_,h⟩=>by rw[h];exact hst _ (hat.app _)) (cz m (m-1)) 0 [ζ (.int (m:Int)),ζ (.ref c.length),w2,η,w4,w5,ζ (.ref C.length),η] (C++[.lst (aN [])]) ⟨_,rfl,rfl⟩ (λi x hx e c' ⟨w7,he,hc⟩=>by
   subst he;subst hc;have hi:i<m:=by
    have:=(an7.mp hx).1;omega
   have hx':x=.lst (aN (fF m i)):=by
    unfold cz at hx;rw[aoH,List.getElem?_range (by omega)]at hx
    cases hx;rfl
   subst hx';rw[aog];have hl1:=Vu h7 (k:=i+1) (by omega)
   rw[apV,arn,aon]at hl1;have hl1':((ι i).flatMap (fF m)).length+(fF m i).length<=64:=by simpa using hl1
   refine⟨_,_,_,_,rfl,Vs (m:=m) (by omega) _ _ _ _ _ _,_,rfl,?_⟩
   rw[apV,arn];simp)
 rw[aog,hfl]at hf;have e3:=ahM qz hf;have hb:oZ (cF 8 [.int (m:Int)]) c=.ok (.rt (.ref C.length)) (C++[.lst (aN (eK m))]):=by
  show oZ [ζ (.int (m:Int)),η,η,η,η,η,η,η] c=_;unfold oZ;exact(bw e0).trans ((bw e1).trans ((bw e2).trans ((bw e3).trans (jI rfl))))
 unfold qi;rw[fL,hb];show cA Δ c.length (.ref C.length) (C++[.lst (aN (eK m))])=_;rw[PN (by omega) (l:=aN (eK m)) (by simp),<-hC,aop,apY]
def Bd(d:D):Bool:=match d with
 |.tup (.str x::_)=>(x=="even")
 |_=>Δ
def e8(m:Nat)(f:Nat->Nat->Bool)(s:List Nat):Bool:=Bd (jc (wF m (iH f s)))
def aih(w:List (List Nat)):∃x r,jc w=.tup (.str x::r)/\(x="place"\/x="tied"\/x="apart"\/x="even"):=by
 unfold jc;split
 ·exact⟨_,_,rfl,.inl rfl⟩
 ·split
  ·exact⟨_,_,rfl,.inr (.inl rfl)⟩
  ·split
   ·exact⟨_,_,rfl,.inr (.inr (.inl rfl))⟩
   ·exact⟨_,_,rfl,.inr (.inr (.inr rfl))⟩
def PY{x y:Str}(hx:PyData.strOk x=θ)(hy:PyData.strOk y=θ)(c:aa):jd (.str x) (.str y) c=.ok (.bl (x==y)) c:=by
 unfold jd;have h1:fy c (.str x)=ζ (.str x):=by
  show d8 (.str x)=_;unfold d8;rw[if_pos hx]
 have h2:fy c (.str y)=ζ (.str y):=by
  show d8 (.str y)=_;unfold d8;rw[if_pos hy]
 rw[h1,h2];dsimp only;rw[if_pos ⟨by simp[PyData.depth],by simp[PyData.depth]⟩]
 simp[PyData.eqv]
def aaT:PyData.strOk "place"=θ/\PyData.strOk "tied"=θ/\PyData.strOk "apart"=θ/\PyData.strOk "even"=θ:=by decide +kernel
def PU(w:List (List Nat)){d:af}{e:Ev}{c:aa}(h:d e c=.ok (jc w) c):av jd (av aE d (dC (.int 0))) (dC (.str "even")) e c=.ok (.bl (Bd (jc w))) c:=by
 obtain⟨x,r,hx,hw⟩:=aih w;rw[hx]at h ⊢;obtain⟨k1,k2,k3,k4⟩:=aaT;have ho:PyData.strOk x=θ:=by rcases hw with rfl|rfl|rfl|rfl<;>assumption
 refine cP (f:=jd) (x:=.str x) (y:=.str "even") (cP (f:=aE) (x:=.tup (.str x::r)) (y:=.int 0) h rfl ?_) rfl (PY ho k4 c);unfold aE;have:cD (D.str x::r) 0=ζ (.str x):=by
  unfold cD eL;rw[if_pos (by simp),if_pos (by simp)]
  rfl
 show(match cD (D.str x::r) 0 with|some d=>R.ok d c|none=>.bad)=_
 rw[this]
def TF{m:Nat}{g:Nat->Nat->Bool}(h:∀i,g i i=Δ):k7 m g=wF m g:=by
 unfold k7 wF;refine aoI λi _=>?_
 unfold vY fj;refine aqz λj _=>?_
 by_cases e:j=i
 ·subst e;simp[h]
 ·simp[e]
def afL{m:Nat}(g:Nat->Nat->Bool)(h0:0<m)(hm:m<60)(c:aa):qt [aQ (wF m g)] c=.ok (.bl (Bd (jc (wF m g)))) c:=by
 refine lz ?_ rfl (λk h=>by cases h)
 show qY [ζ (aQ (wF m g))] c=_;unfold qY;exact jI (PU _ (jD (m:=xx) rfl (aif (Tz g hm) (by rw[rO];exact h0) c)))
def K8{m:Nat}(h7:m<=7){s:List Nat}(hs:s∈eK m):De s m:=by
 have h:=(z7 m h7).2;rw[aoo]at h;have h:=h s hs;rw[aoj,aoo,decide_eq_true_eq]at h;exact⟨h.2,λx hx=>by have:=h.1 x hx;simpa using this⟩
def aij{m:Nat}{f:Nat->Nat->Bool}(hf:ic f)(h0:0<m)(h7:m<=7){s:List Nat}(hs:s∈eK m)(c:aa):(aM (aG 1 qt (aq (aG 2 qe (aq (ak 1) (aq (ak 0) au))) au))) [ζ (kD s),ζ (aQ (wF m f))] c=.ok (e8 m f s) c:=by
 have h1:=UB f (m:=m) (by omega) (K8 h7 hs) c
 rw[TF (UL hf s).1]at h1;exact qQ (jD (m:=qt) (jY (m:=qe) (d1:=ak 1) (d2:=ak 0) rfl rfl h1) (afL _ h0 (by omega) c))
def PX{m:Nat}{f:Nat->Nat->Bool}(hf:ic f)(h0:0<m)(h7:m<=7)(c:aa):jZ [ζ (aQ (wF m f))] c=.ok (.rt (.ref c.length)) (c++[.lst (aN ((eK m).filter (e8 m f)))]):=by
 have sz:=sf;have OD:=Ab (wF m f) c;rw[rO]at OD;have hl:=iR (f:=bC) (d1:=ak 0) (e:=[ζ (aQ (wF m f))]) (c:=c) rfl OD;have e0:(bh (aM (av iN (aJ bC (aq (ak 0) au)) (dC (.int 10)))) tQ bF) [ζ (aQ (wF m f))] c=.ok (.nx [ζ (aQ (wF m f))]) c:=by
  have:aM (av iN (aJ bC (aq (ak 0) au)) (dC (.int 10))) [ζ (aQ (wF m f))] c=.ok Δ c:=qQ (cP (f:=iN) (x:=.int (m:Int)) (y:=.int 10) hl rfl (by
   show R.ok (D.bl (decide ((m:Int)>10))) c=_;rw[decide_eq_false (by omega)]))
  rw[gx,this];rfl
 have oK:=jV (E:=[ζ (aQ (wF m f))]) (t:=(aM (aG 1 qt (aq (aG 2 qe (aq (ak 1) (aq (ak 0) au))) au)))) (a:=ak 0) (c:=c) kD kD (e8 m f) (eK m) η [] (λs hs=>aij hf h0 h7 hs c) (λs hs _=>rfl)
 rw[an9]at oK;have qz:=wC (jD (m:=z6) hl (alq (by omega) h7 c))
 have hn:=(z7 m h7).1;unfold jZ;refine(bw e0).trans ?_;rw[iF,Td,qz];simp only[R.aB];rw[if_pos (by unfold aN;rw[an2];omega)]
 have agR:bz (λ_=>True) (aA 0) (aM (aG 1 qt (aq (aG 2 qe (aq (ak 1) (aq (ak 0) au))) au))) (ak 0) (aN (eK m)) (dH [η,ζ 0] [ζ (aQ (wF m f))]) [] c=.ok (aN ((eK m).filter (e8 m f))) c:=oK
 rw[agR,R.aB];unfold uJ;rw[if_pos (xC _)];rfl
def aik{m:Nat}{f:Nat->Nat->Bool}(hf:ic f)(h0:0<m)(h7:m<=7)(c:aa):uq [aQ (wF m f)] c=.ok (.ref c.length) (c++[.lst (aN ((eK m).filter (e8 m f)))]):=by
 unfold uq;rw[fL,show cF 1 [aQ (wF m f)]=[ζ (aQ (wF m f))]from rfl,PX hf h0 h7 c]
 show cA θ c.length (.ref c.length) (c++[.lst (aN ((eK m).filter (e8 m f)))])=_;rw[ah7 (anU _) (l:=aN ((eK m).filter (e8 m f))) (by simp),apY]
def ail{m:Nat}{f:Nat->Nat->Bool}(hf:ic f)(h0:0<m)(h7:m<=7)(c:aa):lK [aQ (wF m f)] c=.ok (.lst (aN ((eK m).filter (e8 m f)))) c:=by
 unfold lK;rw[fL,show cF 1 [aQ (wF m f)]=[ζ (aQ (wF m f))]from rfl,PX hf h0 h7 c]
 show cA Δ c.length (.ref c.length) (c++[.lst (aN ((eK m).filter (e8 m f)))])=_;rw[PN (anU _) (l:=aN ((eK m).filter (e8 m f))) (by simp),apY]
def jS(x y:Str)(b:Bool)(c:aa)(h:(decide (x∈eW/\y∈eW)&&((x==y)==b))=θ):gC eW [.exc x,.fn y 0] c=.ok (.bl b) c:=by
 simp only[aoj,decide_eq_true_eq,beq_iff_eq]at h;unfold gC;simp only;rw[if_pos h.1,h.2]
def afJ(x:Str)(c:aa)(h:decide (x∈eW)=θ):gC eW [.exc x,.ty "ValueError"] c=.ok (.bl θ) c:=by
 unfold gC;simp only;rw[if_pos ⟨by simpa using h,by trivial⟩]
def aeI(c:aa):z5 [.exc "TooMany"] c=.ok (.str "many") c:=by
 have t8:(8:Nat)<=ε:=by decide
 have Vp:(11:Nat)<=ε:=by decide
 have ag1:=λc=>jS "TooMany" "NoWeb" Δ c (by decide +kernel)
 have ag3:=λc=>jS "TooMany" "NoText" Δ c (by decide +kernel)
 have ag7:=λc=>jS "TooMany" "NoNumbers" Δ c (by decide +kernel)
 have ag9:=λc=>jS "TooMany" "NoField" Δ c (by decide +kernel)
 have ag2:=λc=>jS "TooMany" "NoThing" Δ c (by decide +kernel)
 have ag4:=λc=>jS "TooMany" "NoSquare" Δ c (by decide +kernel)
 have ag6:=λc=>jS "TooMany" "NoPlaces" Δ c (by decide +kernel)
 have ag0:=λc=>jS "TooMany" "TooMany" θ c (by decide +kernel)
 have ag8:=λc=>jS "TooMany" "NoName" Δ c (by decide +kernel)
 have aha:=λc=>jS "TooMany" "NoDeed" Δ c (by decide +kernel)
 have ag5:=λc=>jS "TooMany" "NoRow" Δ c (by decide +kernel)
 have agZ:=λc=>afJ "TooMany" c (by decide +kernel)
 have hf:List.findIdx? id [Δ,Δ,Δ,Δ,Δ,Δ,Δ,Δ,Δ,Δ,θ]=ζ 10:=by decide
 have hat:cD [D.str "deed",D.str "field",D.str "name",D.str "numbers",D.str "places",D.str "row",D.str "square",D.str "text",D.str "thing",D.str "web",D.str "many"] 10=ζ (.str "many"):=rfl;simp[z5,vB,ag1,ag3,ag7,ag9,ag2,ag4,ag6,ag0,ag8,aha,ag5,agZ,jA,HV,oX,d7,kO,t8,Vp,hf,hat]
def alr(c:aa)(l:List D)(f:D->Bool):mh [.lst (l.map λx=>.bl (f x))] c=.ok (.bl (l.all f)) c:=by
 have e:(l.map λx=>D.bl (f x))=(l.map f).map D.bl:=by simp
 unfold mh pX;dsimp only;rw[e,BE];simp[List.all_map]
def JN:∀l:List D,List.zipWith (λx y=>D.tup [x,y]) l l=l.map λa=>.tup [a,a]
 |[]=>rfl
 |a::l=>by rw[List.zipWith_cons_cons,JN l,an8]
def all_true{α:Type}(l:List α)(c:aa):mh [.lst (l.map λ_=>D.bl θ)] c=.ok (.bl θ) c:=by
 have e:(l.map λ_=>D.bl θ)=(l.map λ_=>θ).map D.bl:=by rw[aos];rfl
 rw[e];unfold mh pX;dsimp only;rw[BE];simp
def JM{m':List D->aa->R D}{st:aa->Prop}{c:aa}(hst:st c):∀(l:List D) (v w:Option D) (acc:List D),(∀d∈l,m' [d,d] c=.ok (.bl θ) c)->bz st (dI 2 (bR (aA 0) (bR (aA 1) dQ))) aZ (aG 2 m' (aq (ak 0) (aq (ak 1) au))) (l.map λa=>.tup [a,a]) [v,w] acc c=.ok (acc++l.map λ_=>.bl θ) c
 |[],v,w,acc,_=>by unfold bz;simp[hst]
 |d::l,v,w,acc,h=>by
  have e1:dI 2 (bR (aA 0) (bR (aA 1) dQ)) (.tup [d,d]) [v,w] c=.ok [ζ d,ζ d] c:=rfl;have e2:aG 2 m' (aq (ak 0) (aq (ak 1) au)) [ζ d,ζ d] c=.ok (.bl θ) c:=jY (d1:=ak 0) (d2:=ak 1) rfl rfl (h d (by simp))
  have e3:aZ [ζ d,ζ d] c=.ok θ c:=rfl;rw[an8];unfold bz;rw[if_pos hst,e1,R.aB,e3,R.aB,if_pos rfl,e2,R.aB,JM hst l _ _ _ (λx hx=>h x (by simp[hx])),aop]
  rfl
def SE(l:List D):List.zipWith (λx y=>D.tup [x,y]) l l=l.map λa=>.tup [a,a]:=by
 induction l with
 |nil=>rfl
 |cons d l ih=>simp[ih]
def Lr{X:D}{b k:Nat}{l:List D}{c:aa}(ha:rG c X l)(hb:c[b]? = ζ (.lst l))(h:∀d∈l,fm (k+1) [d,d] c=.ok (.bl θ) c)(hl:l.length<1000):fm (k+2) [X,.ref b] c=.ok (.bl θ) c:=by
 have hs:=cC (n:=1000) (by decide)
 show ck 2 Δ (kP (fm (k+1))) [X,.ref b] c=_
 generalize fm (k+1)=m at h
 refine lz ?_ rfl (λk h=>by cases h)
 have es:cF 2 [X,.ref b]=[ζ X,ζ (.ref b)]:=rfl;have hbd:kP m=aD (bh (aM (av i9 (ak 1) (dC .aF))) (aR (av i9 (ak 0) (dC .aF))) bF) (aD (bh (aM (aJ bG (aq (ak 1) (aq (dC (.ty "bool")) au)))) (aR (gf (aJ bG (aq (ak 0) (aq (dC (.ty "bool")) au))) (av cH (ak 0) (ak 1)))) bF) (aD (bh (aM (aJ bG (aq (ak 1) (aq (dC (.ty "int")) au)))) (aR (gf (aG 1 xr (aq (ak 0) au)) (av cH (ak 0) (ak 1)))) bF) (aD (bh (aM (aJ bG (aq (ak 1) (aq (dC (.ty "str")) au)))) (aR (gf (aJ bG (aq (ak 0) (aq (dC (.ty "str")) au))) (av cH (ak 0) (ak 1)))) bF) (aD (bh (uO (aM (av cL (aJ bG (aq (ak 1) (aq (dC (.ty "tuple")) au))) (aJ bG (aq (ak 0) (aq (dC (.ty "tuple")) au))))) (aM (av cL (aJ bG (aq (ak 1) (aq (dC (.ty "list")) au))) (aJ bG (aq (ak 0) (aq (dC (.ty "list")) au)))))) (aR (dC (.bl Δ))) bF) (aR (gf (av cH (aJ bC (aq (ak 0) au)) (aJ bC (aq (ak 1) au))) (aJ mh (aq (bA (oU (aq (ak 0) (aq (ak 1) au))) [η,η] (dI 2 (bR (aA 0) (bR (aA 1) dQ))) aZ (aG 2 m (aq (ak 0) (aq (ak 1) au)))) au)))))))):=rfl;have hX:(X=.lst l)\/∃a,X=.ref a/\c[a]? = ζ (.lst l):=ha;have i0:(bh (aM (av i9 (ak 1) (dC .aF))) (aR (av i9 (ak 0) (dC .aF))) bF) [ζ X,ζ (.ref b)] c=.ok (.nx [ζ X,ζ (.ref b)]) c:=rfl;have i1:(bh (aM (aJ bG (aq (ak 1) (aq (dC (.ty "bool")) au)))) (aR (gf (aJ bG (aq (ak 0) (aq (dC (.ty "bool")) au))) (av cH (ak 0) (ak 1)))) bF) [ζ X,ζ (.ref b)] c=.ok (.nx [ζ X,ζ (.ref b)]) c:=rfl;have i2:(bh (aM (aJ bG (aq (ak 1) (aq (dC (.ty "int")) au)))) (aR (gf (aG 1 xr (aq (ak 0) au)) (av cH (ak 0) (ak 1)))) bF) [ζ X,ζ (.ref b)] c=.ok (.nx [ζ X,ζ (.ref b)]) c:=rfl;have i3:(bh (aM (aJ bG (aq (ak 1) (aq (dC (.ty "str")) au)))) (aR (gf (aJ bG (aq (ak 0) (aq (dC (.ty "str")) au))) (av cH (ak 0) (ak 1)))) bF) [ζ X,ζ (.ref b)] c=.ok (.nx [ζ X,ζ (.ref b)]) c:=rfl;have q1:∀x:Nat,bG [.ref x,.ty "tuple"] c=.ok (.bl Δ) c:=λ_=>rfl
 have q3:bG [X,.ty "tuple"] c=.ok (.bl Δ) c:=by rcases hX with rfl|⟨a,rfl,_⟩<;>rfl
 have q4:bG [X,.ty "list"] c=.ok (.bl θ) c:=by rcases hX with rfl|⟨a,rfl,_⟩<;>rfl
 have q2:∀x:Nat,bG [.ref x,.ty "list"] c=.ok (.bl θ) c:=λ_=>rfl
 have i4:(bh (uO (aM (av cL (aJ bG (aq (ak 1) (aq (dC (.ty "tuple")) au))) (aJ bG (aq (ak 0) (aq (dC (.ty "tuple")) au))))) (aM (av cL (aJ bG (aq (ak 1) (aq (dC (.ty "list")) au))) (aJ bG (aq (ak 0) (aq (dC (.ty "list")) au)))))) (aR (dC (.bl Δ))) bF) [ζ X,ζ (.ref b)] c=.ok (.nx [ζ X,ζ (.ref b)]) c:=by simp[q1,q2,q3,q4]
 rw[es,hbd,bw i0,bw i1,bw i2,bw i3,bw i4];have l1:bC [X] c=.ok (.int (l.length:Int)) c:=by
  rcases hX with rfl|⟨a,rfl,hq⟩
  ·rfl
  ·simp[bC,eS,hq]
 have l2:bC [.ref b] c=.ok (.int (l.length:Int)) c:=by simp[bC,eS,hb]
 have hz:oU (aq (ak 0) (aq (ak 1) au)) [ζ X,ζ (.ref b)] c=.ok ⟨l.map λa=>.tup [a,a],λc'=>iU c X c'/\iU c (.ref b) c'⟩ c:=by
  have p1:d7 c X=ζ l:=by
   rcases hX with rfl|⟨a,rfl,hq⟩
   ·rfl
   ·show(match c[a]? with|some (.lst l)=>ζ l|none=>η)=_;rw[hq]
  have p2:d7 c (.ref b)=ζ l:=by show(match c[b]? with|some (.lst l)=>ζ l|none=>η)=_;rw[hb]
  unfold oU;simp only[bE,br,gz,gs,bB,R.aB,p1,p2,SE]
 have hst:(λc'=>iU c X c'/\iU c (.ref b) c') c:=by
  refine⟨?_,?_⟩
  ·rcases hX with rfl|⟨a,rfl,ha⟩<;>first|rfl|simp[iU]|trivial
  ·first|rfl|simp[iU]
 have hc:=JM (m':=m) (st:=λc'=>iU c X c'/\iU c (.ref b) c') hst l η η [] h
 rw[an9]at hc;refine jI (and_true (cP (iR (d1:=ak 0) (x:=X) rfl l1) (iR (d1:=ak 1) (x:=.ref b) rfl l2) (by simp)) (iR (f:=mh) (x:=.lst (l.map λ_=>.bl θ)) ?_ (all_true l c)))
 rw[ff,hz];simp only[R.aB];rw[if_pos (by rw[an2];omega)]
 have:dH [η,η] [ζ X,ζ (.ref b)]=[η,η]:=rfl;rw[this,hc];rfl
def Xb{n:Nat}{c:aa}{l:List D}(h:∀d∈l,fm n [d,d] c=.ok (.bl θ) c)(hl:l.length<ε):fm (n+1) [.tup l,.tup l] c=.ok (.bl θ) c:=by
 have hc':=HZ (c:=c) (g:=dI 2 (bR (aA 0) (bR (aA 1) dQ))) (t:=aZ) (a:=aG 2 (fm n) (aq (ak 0) (aq (ak 1) au))) (λ_=>True) trivial
  (λe=>∃v w,e=[v,w]) (λ_=>θ) (λ_=>.bl θ) (l.map λa=>.tup [a,a]) [η,η] [] ⟨_,_,rfl⟩ (λx hx e ⟨v,w,he⟩=>by
   obtain⟨d,hd,rfl⟩:=aoa.mp hx;subst he;refine⟨[ζ d,ζ d],by simp,⟨_,_,rfl⟩,rfl,λ_=>?_⟩
   simp[h d hd])
 rw[xS,an9]at hc';have ha:=alr c (l.map λa=>D.tup [a,a]) (λ_=>θ)
 show ck 2 Δ (kP (fm n)) [.tup l,.tup l] c=_;simp[kP,dH,hl,JN];rw[hc'];simp only[R.aB];rw[ha];simp
def same_int(i:Int)(k:Nat)(c:aa):fm (k+1) [.int i,.int i] c=.ok (.bl θ) c:=by simp[fm,kP,xr,vh]
def Xe(K:List Nat)(hl:K.length<1000)(c:aa):fm 2 [kD K,kD K] c=.ok (.bl θ) c:=by
 have hs:=cC (n:=1000) (by decide)
 refine Xb (λd hd=>?_) (by rw[um];omega)
 obtain⟨n,_,rfl⟩:=aoa.mp hd;exact same_int _ 0 c
def afT:("TooMany":Str)∈eW:=by decide +kernel
def XT(n:Nat)(c:aa):bC [.tup (ν n (.tup []))] c=.ok (.int (n:Int)) c:=by
 show R.ok (D.int ((ν n (D.tup [])).length:Nat)) c=_;rw[arx]
def XS{n:Nat}(h:10<n)(c:aa):qk [.tup (ν n (.tup []))] c=.ok (.str "many") c:=by
 have hl:=XT n c
 generalize D.tup (ν n (.tup []))=W at hl
 have hc:aM (av iN (aJ bC (aq (ak 0) au)) (dC (.int 10))) [ζ W] c=.ok θ c:=qQ (cP (f:=iN) (x:=.int (n:Int)) (y:=.int 10) (iR (f:=bC) (d1:=ak 0) (x:=W) rfl hl) rfl (by
  show R.ok (D.bl (decide ((n:Int)>10))) c=_;rw[decide_eq_true (by omega)]))
 have h1:lK [W] c=.bad:=by
  unfold lK;rw[fL,show cF 1 [W]=[ζ W]from rfl]
  unfold jZ;rw[kc,gx,hc];rfl
 have h2:yK [W] c=.ok "TooMany" c:=by
  unfold yK fnX BD Cu;rw[show cF 1 [W]=[ζ W]from rfl,hc]
  simp[Cv]
 simp[qk,vp,zg,h1,Cw,h2,afT,aeI]
def qL:ah:=(bh (aM (av jd (av aE (aG 1 qp (aq (aG 2 uv (aq (ak 3) (aq (ak 5) au))) au)) (dC (.int 0))) (dC (.str "even")))) (cW (jW (ak 4) (ak 5))) bF)
def MD:ah:=(aH 3 (aG 2 uw (aq (ak 2) (aq (dC (.int 7)) au))))
def MC:ah:=(aH 4 (cU au))
def MB:ah:=(aH 6 (aG 1 uq (aq (aG 1 kC (aq (ak 3) au)) au)))
def MA:ah:=(bh (gT (aM (aG 2 (fm 3) (aq (ak 6) (aq (ak 4) au))))) (aR (dC (.bl Δ))) bF)
def Mz:ah:=(cW (jW (ak 6) (bf au)))
def My:ah:=(bh (gT (aM (aG 2 (fm 3) (aq (aG 1 lK (aq (aG 1 kC (aq (ak 3) au)) au)) (aq (ak 4) au))))) (aR (dC (.bl Δ))) bF)
def Ji{f:D->D->aa->R D}{d1 d2:af}{e:Ev}{c c1 c2:aa}{x y:D}{r:R D}(h1:d1 e c=.ok x c1)(h2:d2 e c1=.ok y c2)(h:f x y c2=r):av f d1 d2 e c=r:=by
 rw[cJ,h1];simp only[R.aB];rw[h2];exact h
def aix{m:Nat}{f:Nat->Nat->Bool}{s:List Nat}{acc:List (List Nat)}{C:aa}(h0:0<m)(hm:m<60)(ha:acc.length<=1000)(v0 v1 v2 v6:Option D) :
  qL [v0,v1,v2,ζ (aP m f),ζ (.ref C.length),ζ (kD s),v6] (C++[.lst (aN acc)])=.ok (.nx [v0,v1,v2,ζ (aP m f),ζ (.ref C.length),ζ (kD s),v6]) (C++[.lst (aN (acc++[s].filter (e8 m f)))]):=by
 generalize hC:C++[Cell.lst (aN acc)]=C1
 have ht:=qQ (PU (wF m (iH f s)) (d:=aG 1 qp (aq (aG 2 uv (aq (ak 3) (aq (ak 5) au))) au)) (e:=[v0,v1,v2,ζ (aP m f),ζ (.ref C.length),ζ (kD s),v6]) (c:=C1) (jD (m:=qp) (jY (m:=uv) (d1:=ak 3) (d2:=ak 5) rfl rfl (aev f s hm C1)) (aiw _ h0 hm C1)));unfold qL;rw[gx,ht,R.aB];cases he:Bd (jc (wF m (iH f s)))with
 |true =>
  have hf:[s].filter (e8 m f)=[s]:=by simp[e8,he]
  rw[if_pos rfl,hf,Bh (RA (dO:=ak 4) (da:=ak 5) (k:=C.length) (acc:=aN acc) (v:=kD s) rfl rfl (by rw[<-hC];simp) (by unfold aN;rw[an2];omega) (Fw s)),<-hC,yZ]
  unfold aN;rw[aoZ];rfl
 |false =>
  have hf:[s].filter (e8 m f)=[]:=by simp[e8,he]
  rw[if_neg (by simp),hf,aoM,<-hC]
  rfl
def Qc{m:Nat}{f:Nat->Nat->Bool}{C:aa}(h0:0<m)(hm:m<60)(v0 v1 v2 v6:Option D):∀(Ss acc:List (List Nat)) (v5:Option D),acc.length+Ss.length<=1000 ->
  ∃w5,b8 (λ_=>True) (aA 5) qL (aN Ss) [v0,v1,v2,ζ (aP m f),ζ (.ref C.length),v5,v6] (C++[.lst (aN acc)])=.ok (.nx [v0,v1,v2,ζ (aP m f),ζ (.ref C.length),w5,v6]) (C++[.lst (aN (acc++Ss.filter (e8 m f)))])
 |[],acc,v5,_=>⟨v5,by simp[aN]⟩
 |s::Ss,acc,v5,hb=>by
  have hb':acc.length+Ss.length+1<=1000:=by rw[an4]at hb;omega
  have hfl:([s].filter (e8 m f)).length<=1:=aom (apZ _ _) (by simp)
  obtain⟨w5,hw⟩:=Qc (m:=m) (f:=f) (C:=C) h0 hm v0 v1 v2 v6 Ss (acc++[s].filter (e8 m f)) (ζ (kD s)) (by rw[aon];omega)
  refine⟨w5,?_⟩;have hs:=aix (m:=m) (f:=f) (s:=s) (acc:=acc) (C:=C) h0 hm (by omega) v0 v1 v2 v6
  show b8 (λ_=>True) (aA 5) qL (kD s::aN Ss) _ _=_
  rw[gD];show((R.ok [v0,v1,v2,ζ (aP m f),ζ (.ref C.length),ζ (kD s),v6] (C++[Cell.lst (aN acc)])).bind λe c=>(qL e c).bind _)=_
  rw[R.aB,hs,R.aB];have ef:(s::Ss).filter (e8 m f)=[s].filter (e8 m f)++Ss.filter (e8 m f):=by rw[<-asC];rfl
  rw[ef,<-aop];exact hw
def wV:ah:=aD DA (aD MD (aD MC (aD (bJ (cy (aG 1 qi (aq (aJ bC (aq (ak 3) au)) au))) (aA 5) qL) (aD MB (aD MA (aD Mz My))))))
def aap{ns:List Int}{i:Int}(hi:0<=i)(c:aa)(v2 v3 v4 v5 v6:Option D) :
  ∃e' c',(∃w1 w3 w4 w5 w6 j n,fH j n c'/\e'=[ζ (.b7 ns),w1,ζ (.ref j),w3,w4,w5,w6])/\wV [ζ (.b7 ns),ζ (.int i),v2,v3,v4,v5,v6] c=.ok (.nx e') c':=by
 have sz:=sf;obtain⟨x,hx⟩:=aj5 ns i hi c;obtain⟨p0,hp⟩:=YN x c;obtain⟨m,f,c1,m1,m2,hw,P1,hbu⟩:=akt (j:=c.length) (n:=c.length+1) (c:=c++[.lst [.int p0]]) (most:=7) ⟨by simp,by omega,p0,by simp⟩ (by decide) (by decide)
 have h0:0<m:=by omega
 have h7:m<=7:=by omega
 have e0:=YO [v3,v4,v5,v6] v2 hx hp;have e1:MD [ζ (.b7 ns),ζ (.int i),ζ (.ref c.length),v3,v4,v5,v6] (c++[.lst [.int p0]])=.ok (.nx [ζ (.b7 ns),ζ (.int i),ζ (.ref c.length),ζ (aP m f),v4,v5,v6]) c1:=akr (m:=uw) rfl rfl hbu;have e2:MC [ζ (.b7 ns),ζ (.int i),ζ (.ref c.length),ζ (aP m f),v4,v5,v6] c1=.ok (.nx [ζ (.b7 ns),ζ (.int i),ζ (.ref c.length),ζ (aP m f),ζ (.ref c1.length),v5,v6]) (c1++[.lst (aN [])]):=sj (i:=4) (by
  unfold cU;rw[bB];simp only[R.aB];rw[if_pos ⟨by show 0<=ε;omega,rfl⟩]
  rfl)
 have hsl:=(z7 m h7).1;have hF:((eK m).filter (e8 m f)).length<=64:=aom (apZ _ _) hsl;obtain⟨w5,F1⟩:=Qc (m:=m) (f:=f) (C:=c1) h0 (by omega) (ζ (.b7 ns)) (ζ (.int i)) (ζ (.ref c.length)) v6 (eK m) [] v5 (by simp;omega)
 rw[an9]at F1;have e3:bJ (cy (aG 1 qi (aq (aJ bC (aq (ak 3) au)) au))) (aA 5) qL [ζ (.b7 ns),ζ (.int i),ζ (.ref c.length),ζ (aP m f),ζ (.ref c1.length),v5,v6] (c1++[.lst (aN [])])=.ok (.nx [ζ (.b7 ns),ζ (.int i),ζ (.ref c.length),ζ (aP m f),ζ (.ref c1.length),w5,v6]) (c1++[.lst (aN ((eK m).filter (e8 m f)))]) :=
  lV (wC (jD (m:=qi) (iR (f:=bC) (d1:=ak 3) (x:=aP m f) rfl (ao7 m f _)) (Vt h0 h7 _))) F1
 generalize OY:(eK m).filter (e8 m f)=F at F1 e3 hF
 generalize xQ:c1++[Cell.lst (aN F)]=c2 at e3
 have hc2l:c2.length=c1.length+1:=by rw[<-xQ];simp
 have hrw:∀c',kC [aP m f] c'=.ok (aQ (wF m f)) c':=λc'=>by rw[Xo f (by omega) c',Xp]
 have hown:=aik hw h0 h7 c2;have OJ:=λc'=>ail hw h0 h7 c'
 rw[OY]at hown OJ;have e4:MB [ζ (.b7 ns),ζ (.int i),ζ (.ref c.length),ζ (aP m f),ζ (.ref c1.length),w5,v6] c2=.ok (.nx [ζ (.b7 ns),ζ (.int i),ζ (.ref c.length),ζ (aP m f),ζ (.ref c1.length),w5,ζ (.ref c2.length)]) (c2++[.lst (aN F)]):=sj (i:=6) (Rk (m:=uq) (jD (m:=kC) (d1:=ak 3) rfl (hrw c2)) hown);have hd:∀z,(c2++[z])[c1.length]? = ζ (.lst (aN F)):=λz=>by rw[<-xQ,aop,aov (anU _),ao2];rfl
 have hsm:∀c',∀d∈aN F,fm 2 [d,d] c'=.ok (.bl θ) c':=λc' d hd=>by
  obtain⟨K,hK,rfl⟩:=aoa.mp hd;refine Xe K ?_ c';rw[<-OY]at hK;have Ov:=(K8 h7 (aoQ.mp hK).1);have:K.length<=m:=by
   have h1:=Ov.1;have h2:=Ov.2;have hn:K.Nodup:=h1.imp λh=>an0 h
   have:=hn.length_le_of_subset (l₂:=ι m) λx hx=>aod.mpr (h2 x hx)
   simpa using this
  omega
 have hks:(aN F).length=F.length:=by unfold aN;rw[an2]
 have e5:MA [ζ (.b7 ns),ζ (.int i),ζ (.ref c.length),ζ (aP m f),ζ (.ref c1.length),w5,ζ (.ref c2.length)] (c2++[.lst (aN F)])=.ok (.nx [ζ (.b7 ns),ζ (.int i),ζ (.ref c.length),ζ (aP m f),ζ (.ref c1.length),w5,ζ (.ref c2.length)]) (c2++[.lst (aN F)]) :=
  FE (MI (b:=θ) (qQ (jY (m:=fm 3) (d1:=ak 6) (d2:=ak 4) rfl rfl (Lr (k:=1) (l:=aN F) (.inr ⟨_,rfl,by simp⟩) (hd _) (hsm _) (by omega)))))
 have e6:Mz [ζ (.b7 ns),ζ (.int i),ζ (.ref c.length),ζ (aP m f),ζ (.ref c1.length),w5,ζ (.ref c2.length)] (c2++[.lst (aN F)])=.ok (.nx [ζ (.b7 ns),ζ (.int i),ζ (.ref c.length),ζ (aP m f),ζ (.ref c1.length),w5,ζ (.ref c2.length)]) (c2++[.lst (aN F++[.tup []])]):=by
  have h:=Bh (RA (dO:=ak 6) (da:=bf au) (e:=[ζ (.b7 ns),ζ (.int i),ζ (.ref c.length),ζ (aP m f),ζ (.ref c1.length),w5,ζ (.ref c2.length)]) (c:=c2++[.lst (aN F)]) (k:=c2.length) (acc:=aN F) (v:=.tup []) rfl (by simp) (by simp) (by omega) rfl)
  rw[yZ]at h;exact h
 have e7:My [ζ (.b7 ns),ζ (.int i),ζ (.ref c.length),ζ (aP m f),ζ (.ref c1.length),w5,ζ (.ref c2.length)] (c2++[.lst (aN F++[.tup []])])=.ok (.nx [ζ (.b7 ns),ζ (.int i),ζ (.ref c.length),ζ (aP m f),ζ (.ref c1.length),w5,ζ (.ref c2.length)]) (c2++[.lst (aN F++[.tup []])]) :=
  FE (MI (b:=θ) (qQ (jY (m:=fm 3) (d2:=ak 4) (jD (m:=lK) (jD (m:=kC) (d1:=ak 3) rfl (hrw _)) (OJ _)) rfl (Lr (k:=1) (l:=aN F) (.inl rfl) (hd _) (hsm _) (by omega)))))
 obtain⟨q1,q2,pp,q3⟩:=P1;refine⟨[ζ (.b7 ns),ζ (.int i),ζ (.ref c.length),ζ (aP m f),ζ (.ref c1.length),w5,ζ (.ref c2.length)],c2++[.lst (aN F++[.tup []])],⟨_,_,_,_,_,c.length,c2.length+1,⟨by simp,by omega,pp,?_⟩,rfl⟩,?_⟩
 ·rw[<-xQ,aop,aow (by omega)]
  exact q3
 ·unfold wV;exact(bw e0).trans ((bw e1).trans ((bw e2).trans ((bw e3).trans ((bw e4).trans ((bw e5).trans ((bw e6).trans e7))))))
def aeB{j n:Nat}{c:aa}(h:fH j n c)(v0 v1 v3 v4 v5 v6:Option D):∃c',(aR (av jd (aG 1 qk (aq (av pW (bf (aq (bf au) au)) (av bx (dC (.int 11)) (aG 2 bu (aq (ak 2) (aq (dC (.int 39)) au))))) au)) (dC (.str "many")))) [v0,v1,ζ (.ref j),v3,v4,v5,v6] c=.ok (.rt (.bl θ)) c':=by
 have k1:(1:Nat)<=ε:=cC (by decide)
 have sz:=sf;obtain⟨x,c1,x0,x1,P1,t1⟩:=kg (cO:=39) h (by decide) (by decide)
 refine⟨c1,?_⟩;have hs:PyData.strOk "many"=θ:=by decide +kernel
 have ha:av bx (dC (.int 11)) (aG 2 bu (aq (ak 2) (aq (dC (.int 39)) au))) [v0,v1,ζ (.ref j),v3,v4,v5,v6] c=.ok (.int (11+x)) c1:=Ji (x:=.int 11) (c1:=c) rfl (aks (m:=bu) (d1:=ak 2) (d2:=dC (.int 39)) rfl rfl t1) rfl;have hr:av pW (bf (aq (bf au) au)) (av bx (dC (.int 11)) (aG 2 bu (aq (ak 2) (aq (dC (.int 39)) au)))) [v0,v1,ζ (.ref j),v3,v4,v5,v6] c=.ok (.tup (ν (11+x).toNat (.tup []))) c1:=by
  refine Ji (f:=pW) (x:=.tup [.tup []]) (c1:=c) (by simp[k1]) ha ?_
  show(if[D.tup []].length≠0/\1<11+x/\11+x<2^63/\[D.tup []].length*(11+x).toNat<=ε then R.ok (D.tup (ν (11+x).toNat [D.tup []]).flatten) c1 else .bad)=_
  rw[if_pos ⟨by simp,by omega,by omega,by simp;omega⟩]
  congr 2
  generalize (11+x).toNat=k
  induction k with
  |zero=>rfl
  |succ k ih=>rw[aoW,ao3,ih,aoW];rfl
 have hq:=Rk (m:=qk) hr (XS (n:=(11+x).toNat) (by omega) c1)
 rw[iF,Ji (f:=jd) (x:=.str "many") (y:=.str "many") hq rfl (PY hs hs c1)];simp
def aez(ns:List Int)(hl:ns.length<=63):∃c,xu [.b7 ns] []=.ok (.bl θ) c:=by
 generalize hm:(if(if(4:Int)<ns.length then(4:Int)else ns.length)>1 then(if(4:Int)<ns.length then(4:Int)else ns.length)else 1)=m
 have hb:1<=m/\m<4611686018427387904:=by
  rw[<-hm];split<;>(try split)<;>omega
 obtain⟨e',c',⟨w1,w2,w3,w4,w5,w6,rfl,hP⟩,hf⟩:=Gg (st:=λ_=>True) (g:=aA 1) (s:=wV)
  (λk e c=>∃w1 w2 w3 w4 w5 w6,e=[ζ (.b7 ns),w1,w2,w3,w4,w5,w6]/\(0<k->∃j n,w2=ζ (.ref j)/\fH j n c)) (λ_ _ _ _=>trivial) (aO 0 m) 0 [ζ (.b7 ns),η,η,η,η,η,η] [] ⟨_,_,_,_,_,_,rfl,λh=>absurd h (aot 0)⟩ (λk t ht e c ⟨w1,w2,w3,w4,w5,w6,he,_⟩=>by
   subst he;obtain⟨i,rfl,i0,i1⟩:=oi (aoq ht);obtain⟨e',c',⟨u1,u3,u4,u5,u6,j,n,hP,rfl⟩,ho⟩:=aap (ns:=ns) i0 c w2 w3 w4 w5 w6;exact⟨_,_,_,c',rfl,ho,_,_,_,_,_,_,rfl,λ_=>⟨j,n,rfl,hP⟩⟩)
 have hlen:0<0+(aO 0 m).length:=by
  unfold aO;rw[an2,ao5];omega
 obtain⟨j,n,rfl,hP2⟩:=hP hlen;obtain⟨c2,agD⟩:=aeB hP2 (ζ (.b7 ns)) w1 w3 w4 w5 w6;refine⟨[],?_⟩;have hb2:vF=aD (bJ (bH (aq (aJ ur (aq (dC (.int 1)) (aq (aJ fR (aq (aJ bC (aq (ak 0) au)) (aq (dC (.int 4)) au))) au))) au)) (aA 1) wV) (aR (av jd (aG 1 qk (aq (av pW (bf (aq (bf au) au)) (av bx (dC (.int 11)) (aG 2 bu (aq (ak 2) (aq (dC (.int 39)) au))))) au)) (dC (.str "many")))):=rfl;have xJ:(bH (aq (aJ ur (aq (dC (.int 1)) (aq (aJ fR (aq (aJ bC (aq (ak 0) au)) (aq (dC (.int 4)) au))) au))) au)) [ζ (.b7 ns),η,η,η,η,η,η] []=.ok ⟨aO 0 m,λ_=>True⟩ []:=by
  simp;simp only[gt_iff_lt]at hm;rw[hm,if_pos (by omega)]
 have es:cF 7 [D.b7 ns]=[ζ (.b7 ns),η,η,η,η,η,η]:=rfl;have e1:=lV (g:=aA 1) (s:=wV) xJ hf;rw[xu,fL,hb2,es,bw e1,agD];simp[cA,noRef]
open PyProof.Rows
def all_mk{l:agv}{w:ψ}{K:Θ}{h:υ}{mg:Str->Option Ξ}{fa:Ψ}{A3 A2 Ba AD Ay AA AE A9 A5 AB A6 A7 A4 Az Bb A8 AZ AQ AI AS AX AL AU AR AV AH A1 A0 AN AF AM AG AK AY AW AJ AO G5:Ψ}(X:K.In h)(G:h.Ns Γ mg)(hfa:mg "law"=ζ (.ref fa))
  {ab0 alg abZ alf ab8 alo abv akR abq akN abt akP abx akS ab7 aln ab3 ali abu akQ ab4 alj ab5 alk ab1 alh abr akO acd alp ab6 alm abV alb abM ak3 abD akW abO ak5 abT ak9 abI akZ abP ak6 abN ak4 abQ ak7 abC akV abX ald abW alc abK ak1 abA akT abJ ak0 abB akU abH akY abU ala abS ak8 abG akX abL ak2 abY ale:Option Ψ}{Wl Wj Wu VP VL VN VQ Wt Wo VO Wq Wr Wm VM Wv Ws Wf V5 VU V7 Wb VX V8 V6 V9 VT Wh Wg VZ VR VY VS VW We Wa VV V0 Wi:Array (Option Ξ)}{acL afo ai2 Zo Q3 ajF acK afn ai1 Zn Q2 ajE acS afv ai9 Zv Ra ajM acj aeY aiD YX QA ajg acf aeU aiz YT Qw ajc ach aeW aiB YV Qy aje ack aeZ aiE YY QB ajh acR afu ai8 Zu Q9 ajL acN afq ai4 Zq Q5 ajH aci aeX aiC YW Qz ajf acO afr ai5 Zr Q6 ajI acP afs ai6 Zs Q7 ajJ acM afp ai3 Zp Q4 ajG acg aeV aiA YU Qx ajd acT afw aja Zw Rb ajN acQ aft ai7 Zt Q8 ajK acG afj aiX Zj QX ajA acy afa aiP Zb QM ajs acp ae3 aiI Y4 QF ajl acA afc aiR Zd QO aju acE afh aiV Zh QV ajy acs ae6 aiL Y7 QI ajo acB afd aiS Ze QS ajv acz afb aiQ Zc QN ajt acC afe aiT Zf QT ajw aco ae2 aiH Y3 QE ajk acI afl aiZ Zl QZ ajC acH afk aiY Zk QY ajB acv ae8 aiN Y9 QK ajq acm ae0 aiF YZ QC aji acu ae7 aiM Y8 QJ ajp acn ae1 aiG Y0 QD ajj acr ae5 aiK Y6 QH ajn acF afi aiW Zi QW ajz acD afg aiU Zg QU ajx acq ae4 aiJ Y5 QG ajm acw ae9 aiO Za QL ajr acJ afm ai0 Zm Q0 ajD:Ξ}
  (m8:ξ K Γ "is_whole"=ζ (ζ (.ref A3))) (Et:K.lookup A3=ζ ⟨acL,ab0,.func (PySem.W.fnOf "is_whole" "is_whole" (cM tG) (cu tG) (aW tG) .none afo ai2 Zo alg Q3 ajF),Wl⟩) (IV:PySem.W.codeIn K Q3 "is_whole"=θ) (Ff:PySem.W.keepIn K (.ref A3)=θ)
  (m7:ξ K Γ "is_whole_within"=ζ (ζ (.ref A2))) (Es:K.lookup A2=ζ ⟨acK,abZ,.func (PySem.W.fnOf "is_whole_within" "is_whole_within" (cM tF) (cu tF) (aW tF) .none afn ai1 Zn alf Q2 ajE),Wj⟩) (IU:PySem.W.codeIn K Q2 "is_whole_within"=θ) (Fe:PySem.W.keepIn K (.ref A2)=θ)
  (nj:ξ K Γ "are_rising_places"=ζ (ζ (.ref Ba))) (EC:K.lookup Ba=ζ ⟨acS,ab8,.func (PySem.W.fnOf "are_rising_places" "are_rising_places" (cM tP) (cu tP) (aW tP) .none afv ai9 Zv alo Ra ajM),Wu⟩) (Jb:PySem.W.codeIn K Ra "are_rising_places"=θ) (Ft:PySem.W.keepIn K (.ref Ba)=θ)
  (mC:ξ K Γ "row_where"=ζ (ζ (.ref AD))) (DY:K.lookup AD=ζ ⟨acj,abv,.func (PySem.W.fnOf "row_where" "row_where" (cM sE) (cu sE) (aW sE) .none aeY aiD YX akR QA ajg),VP⟩) (Im:PySem.W.codeIn K QA "row_where"=θ) (EI:PySem.W.keepIn K (.ref AD)=θ)
  (mj:ξ K Γ "web_where"=ζ (ζ (.ref Ay))) (DU:K.lookup Ay=ζ ⟨acf,abq,.func (PySem.W.fnOf "web_where" "web_where" (cM sA) (cu sA) (aW sA) .none aeU aiz YT akN Qw ajc),VL⟩) (Ii:PySem.W.codeIn K Qw "web_where"=θ) (EE:PySem.W.keepIn K (.ref Ay)=θ)
  (mw:ξ K Γ "ties"=ζ (ζ (.ref AA))) (DW:K.lookup AA=ζ ⟨ach,abt,.func (PySem.W.fnOf "ties" "ties" (cM sC) (cu sC) (aW sC) .none aeW aiB YV akP Qy aje),VN⟩) (Ik:PySem.W.codeIn K Qy "ties"=θ) (EG:PySem.W.keepIn K (.ref AA)=θ)
  (mD:ξ K Γ "other_web"=ζ (ζ (.ref AE))) (DZ:K.lookup AE=ζ ⟨ack,abx,.func (PySem.W.fnOf "other_web" "other_web" (cM pR) (cu pR) (aW pR) .none aeZ aiE YY akS QB ajh),VQ⟩) (Io:PySem.W.codeIn K QB "other_web"=θ) (EJ:PySem.W.keepIn K (.ref AE)=θ)
  (ni:ξ K Γ "common"=ζ (ζ (.ref A9))) (EB:K.lookup A9=ζ ⟨acR,ab7,.func (PySem.W.fnOf "common" "common" (cM tO) (cu tO) (aW tO) .none afu ai8 Zu aln Q9 ajL),Wt⟩) (Ja:PySem.W.codeIn K Q9 "common"=θ) (Fq:PySem.W.keepIn K (.ref A9)=θ)
  (nc:ξ K Γ "first_unlike_place"=ζ (ζ (.ref A5))) (Ew:K.lookup A5=ζ ⟨acN,ab3,.func (PySem.W.fnOf "first_unlike_place" "first_unlike_place" (cM tK) (cu tK) (aW tK) .none afq ai4 Zq ali Q5 ajH),Wo⟩) (IX:PySem.W.codeIn K Q5 "first_unlike_place"=θ) (Fi:PySem.W.keepIn K (.ref A5)=θ)
  (mz:ξ K Γ "shared_by_all"=ζ (ζ (.ref AB))) (DX:K.lookup AB=ζ ⟨aci,abu,.func (PySem.W.fnOf "shared_by_all" "shared_by_all" (cM sD) (cu sD) (aW sD) .none aeX aiC YW akQ Qz ajf),VO⟩) (Il:PySem.W.codeIn K Qz "shared_by_all"=θ) (EH:PySem.W.keepIn K (.ref AB)=θ)
  (ng:ξ K Γ "first_unlike_pair"=ζ (ζ (.ref A6))) (Ey:K.lookup A6=ζ ⟨acO,ab4,.func (PySem.W.fnOf "first_unlike_pair" "first_unlike_pair" (cM tL) (cu tL) (aW tL) .none afr ai5 Zr alj Q6 ajI),Wq⟩) (IY:PySem.W.codeIn K Q6 "first_unlike_pair"=θ) (Fj:PySem.W.keepIn K (.ref A6)=θ)
  (nh:ξ K Γ "evenness"=ζ (ζ (.ref A7))) (Ez:K.lookup A7=ζ ⟨acP,ab5,.func (PySem.W.fnOf "evenness" "evenness" (cM tM) (cu tM) (aW tM) .none afs ai6 Zs alk Q7 ajJ),Wr⟩) (IZ:PySem.W.codeIn K Q7 "evenness"=θ) (Fo:PySem.W.keepIn K (.ref A7)=θ)
  (m9:ξ K Γ "is_even"=ζ (ζ (.ref A4))) (Eu:K.lookup A4=ζ ⟨acM,ab1,.func (PySem.W.fnOf "is_even" "is_even" (cM tH) (cu tH) (aW tH) .none afp ai3 Zp alh Q4 ajG),Wm⟩) (IW:PySem.W.codeIn K Q4 "is_even"=θ) (Fg:PySem.W.keepIn K (.ref A4)=θ)
  (mq:ξ K Γ "turned_at"=ζ (ζ (.ref Az))) (DV:K.lookup Az=ζ ⟨acg,abr,.func (PySem.W.fnOf "turned_at" "turned_at" (cM pQ) (cu pQ) (aW pQ) .none aeV aiA YU akO Qx ajd),VM⟩) (Ij:PySem.W.codeIn K Qx "turned_at"=θ) (EF:PySem.W.keepIn K (.ref Az)=θ)
  (nk:ξ K Γ "all_without_first"=ζ (ζ (.ref Bb))) (ED:K.lookup Bb=ζ ⟨acT,acd,.func (PySem.W.fnOf "all_without_first" "all_without_first" (cM pS) (cu pS) (aW pS) .none afw aja Zw alp Rb ajN),Wv⟩) (Jc:PySem.W.codeIn K Rb "all_without_first"=θ) (Fv:PySem.W.keepIn K (.ref Bb)=θ)
  (j4:ξ K Γ "even_turns"=ζ (ζ (.ref A8))) (EA:K.lookup A8=ζ ⟨acQ,ab6,.func (PySem.W.fnOf "even_turns" "even_turns" (cM tN) (cu tN) (aW tN) .none aft ai7 Zt alm Q8 ajK),Ws⟩) (I0:PySem.W.codeIn K Q8 "even_turns"=θ) (Fp:PySem.W.keepIn K (.ref A8)=θ)
  (mY:ξ K Γ "_law_cell_at"=ζ (ζ (.ref AZ))) (Em:K.lookup AZ=ζ ⟨acG,abV,.func (PySem.W.fnOf "_law_cell_at" "_law_cell_at" (cM sZ) (cu sZ) (aW sZ) .none afj aiX Zj alb QX ajA),Wf⟩) (IP:PySem.W.codeIn K QX "_law_cell_at"=θ) (E9:PySem.W.keepIn K (.ref AZ)=θ)
  (mQ:ξ K Γ "_law_pot"=ζ (ζ (.ref AQ))) (Ed:K.lookup AQ=ζ ⟨acy,abM,.func (PySem.W.fnOf "_law_pot" "_law_pot" (cM sQ) (cu sQ) (aW sQ) .none afa aiP Zb ak3 QM ajs),V5⟩) (IE:PySem.W.codeIn K QM "_law_pot"=θ) (EW:PySem.W.keepIn K (.ref AQ)=θ)
  (mH:ξ K Γ "_law_take"=ζ (ζ (.ref AI))) (D5:K.lookup AI=ζ ⟨acp,abD,.func (PySem.W.fnOf "_law_take" "_law_take" (cM sI) (cu sI) (aW sI) .none ae3 aiI Y4 akW QF ajl),VU⟩) (Iu:PySem.W.codeIn K QF "_law_take"=θ) (EN:PySem.W.keepIn K (.ref AI)=θ)
  (mS:ξ K Γ "_law_order"=ζ (ζ (.ref AS))) (Eg:K.lookup AS=ζ ⟨acA,abO,.func (PySem.W.fnOf "_law_order" "_law_order" (cM sS) (cu sS) (aW sS) .none afc aiR Zd ak5 QO aju),V7⟩) (IG:PySem.W.codeIn K QO "_law_order"=θ) (EY:PySem.W.keepIn K (.ref AS)=θ)
  (mW:ξ K Γ "_law_joined"=ζ (ζ (.ref AX))) (Ek:K.lookup AX=ζ ⟨acE,abT,.func (PySem.W.fnOf "_law_joined" "_law_joined" (cM sX) (cu sX) (aW sX) .none afh aiV Zh ak9 QV ajy),Wb⟩) (IL:PySem.W.codeIn K QV "_law_joined"=θ) (E7:PySem.W.keepIn K (.ref AX)=θ)
  (mL:ξ K Γ "_law_scattered"=ζ (ζ (.ref AL))) (D8:K.lookup AL=ζ ⟨acs,abI,.func (PySem.W.fnOf "_law_scattered" "_law_scattered" (cM sM) (cu sM) (aW sM) .none ae6 aiL Y7 akZ QI ajo),VX⟩) (IA:PySem.W.codeIn K QI "_law_scattered"=θ) (ES:PySem.W.keepIn K (.ref AL)=θ)
  (mT:ξ K Γ "_law_near"=ζ (ζ (.ref AU))) (Eh:K.lookup AU=ζ ⟨acB,abP,.func (PySem.W.fnOf "_law_near" "_law_near" (cM sU) (cu sU) (aW sU) .none afd aiS Ze ak6 QS ajv),V8⟩) (II:PySem.W.codeIn K QS "_law_near"=θ) (EZ:PySem.W.keepIn K (.ref AU)=θ)
  (mR:ξ K Γ "_law_plain"=ζ (ζ (.ref AR))) (Ef:K.lookup AR=ζ ⟨acz,abN,.func (PySem.W.fnOf "_law_plain" "_law_plain" (cM sR) (cu sR) (aW sR) .none afb aiQ Zc ak4 QN ajt),V6⟩) (IF:PySem.W.codeIn K QN "_law_plain"=θ) (EX:PySem.W.keepIn K (.ref AR)=θ)
  (mU:ξ K Γ "_law_moved"=ζ (ζ (.ref AV))) (Ei:K.lookup AV=ζ ⟨acC,abQ,.func (PySem.W.fnOf "_law_moved" "_law_moved" (cM sV) (cu sV) (aW sV) .none afe aiT Zf ak7 QT ajw),V9⟩) (IJ:PySem.W.codeIn K QT "_law_moved"=θ) (E5:PySem.W.keepIn K (.ref AV)=θ)
  (mG:ξ K Γ "_law_toggled"=ζ (ζ (.ref AH))) (D4:K.lookup AH=ζ ⟨aco,abC,.func (PySem.W.fnOf "_law_toggled" "_law_toggled" (cM sH) (cu sH) (aW sH) .none ae2 aiH Y3 akV QE ajk),VT⟩) (Ir:PySem.W.codeIn K QE "_law_toggled"=θ) (EM:PySem.W.keepIn K (.ref AH)=θ)
  (m5:ξ K Γ "_law_about"=ζ (ζ (.ref A1))) (Ep:K.lookup A1=ζ ⟨acI,abX,.func (PySem.W.fnOf "_law_about" "_law_about" (cM tw) (cu tw) (aW tw) .none afl aiZ Zl ald QZ ajC),Wh⟩) (IS:PySem.W.codeIn K QZ "_law_about"=θ) (Fc:PySem.W.keepIn K (.ref A1)=θ)
  (mZ:ξ K Γ "_law_built"=ζ (ζ (.ref A0))) (Eo:K.lookup A0=ζ ⟨acH,abW,.func (PySem.W.fnOf "_law_built" "_law_built" (cM tu) (cu tu) (aW tu) .none afk aiY Zk alc QY ajB),Wg⟩) (IQ:PySem.W.codeIn K QY "_law_built"=θ) (Fb:PySem.W.keepIn K (.ref A0)=θ)
  (mO:ξ K Γ "_law_rows"=ζ (ζ (.ref AN))) (Ea:K.lookup AN=ζ ⟨acv,abK,.func (PySem.W.fnOf "_law_rows" "_law_rows" (cM sO) (cu sO) (aW sO) .none ae8 aiN Y9 ak1 QK ajq),VZ⟩) (IC:PySem.W.codeIn K QK "_law_rows"=θ) (EU:PySem.W.keepIn K (.ref AN)=θ)
  (mE:ξ K Γ "_law_whole"=ζ (ζ (.ref AF))) (D0:K.lookup AF=ζ ⟨acm,abA,.func (PySem.W.fnOf "_law_whole" "_law_whole" (cM sF) (cu sF) (aW sF) .none ae0 aiF YZ akT QC aji),VR⟩) (Ip:PySem.W.codeIn K QC "_law_whole"=θ) (EK:PySem.W.keepIn K (.ref AF)=θ)
  (kQ:ξ K Γ "_law_same"=ζ (ζ (.ref AM))) (D9:K.lookup AM=ζ ⟨acu,abJ,.func (PySem.W.fnOf "_law_same" "_law_same" (cM sN) (cu sN) (aW sN) .none ae7 aiM Y8 ak0 QJ ajp),VY⟩) (IB:PySem.W.codeIn K QJ "_law_same"=θ) (ET:PySem.W.keepIn K (.ref AM)=θ)
  (mF:ξ K Γ "_law_turned_due"=ζ (ζ (.ref AG))) (D3:K.lookup AG=ζ ⟨acn,abB,.func (PySem.W.fnOf "_law_turned_due" "_law_turned_due" (cM sG) (cu sG) (aW sG) .none ae1 aiG Y0 akU QD ajj),VS⟩) (Iq:PySem.W.codeIn K QD "_law_turned_due"=θ) (EL:PySem.W.keepIn K (.ref AG)=θ)
  (mK:ξ K Γ "_law_shared"=ζ (ζ (.ref AK))) (D7:K.lookup AK=ζ ⟨acr,abH,.func (PySem.W.fnOf "_law_shared" "_law_shared" (cM sL) (cu sL) (aW sL) .none ae5 aiK Y6 akY QH ajn),VW⟩) (Iz:PySem.W.codeIn K QH "_law_shared"=θ) (ER:PySem.W.keepIn K (.ref AK)=θ)
  (mX:ξ K Γ "_law_evenness_due"=ζ (ζ (.ref AY))) (El:K.lookup AY=ζ ⟨acF,abU,.func (PySem.W.fnOf "_law_evenness_due" "_law_evenness_due" (cM sY) (cu sY) (aW sY) .none afi aiW Zi ala QW ajz),We⟩) (IM:PySem.W.codeIn K QW "_law_evenness_due"=θ) (E8:PySem.W.keepIn K (.ref AY)=θ)
  (mV:ξ K Γ "_law_kind_of"=ζ (ζ (.ref AW))) (Ej:K.lookup AW=ζ ⟨acD,abS,.func (PySem.W.fnOf "_law_kind_of" "_law_kind_of" (cM sW) (cu sW) (aW sW) .none afg aiU Zg ak8 QU ajx),Wa⟩) (IK:PySem.W.codeIn K QU "_law_kind_of"=θ) (E6:PySem.W.keepIn K (.ref AW)=θ)
  (mJ:ξ K Γ "_law_subsets"=ζ (ζ (.ref AJ))) (D6:K.lookup AJ=ζ ⟨acq,abG,.func (PySem.W.fnOf "_law_subsets" "_law_subsets" (cM sJ) (cu sJ) (aW sJ) .none ae4 aiJ Y5 akX QG ajm),VV⟩) (Iw:PySem.W.codeIn K QG "_law_subsets"=θ) (EO:PySem.W.keepIn K (.ref AJ)=θ)
  (mP:ξ K Γ "_law_refused"=ζ (ζ (.ref AO))) (Eb:K.lookup AO=ζ ⟨acw,abL,.func (PySem.W.fnOf "_law_refused" "_law_refused" (cM sP) (cu sP) (aW sP) .none ae9 aiO Za ak2 QL ajr),V0⟩) (ID:PySem.W.codeIn K QL "_law_refused"=θ) (EV:PySem.W.keepIn K (.ref AO)=θ)
  (kR:ξ K Γ "law"=ζ (ζ (.ref G5))) (Er:K.lookup G5=ζ ⟨acJ,abY,.func (PySem.W.fnOf "law" "law" (cM tE) (cu tE) (aW tE) .none afm ai0 Zm ale Q0 ajD),Wi⟩) (IT:PySem.W.codeIn K Q0 "law"=θ) (Fd:PySem.W.keepIn K (.ref G5)=θ)
  (Cf:ξ K Γ "ValueError"=ζ η)
  (Ce:ξ K Γ "all"=ζ η)
  (Cd:ξ K Γ "any"=ζ η)
  (Cc:ξ K Γ "bool"=ζ η)
  (Cb:ξ K Γ "enumerate"=ζ η)
  (Ca:ξ K Γ "int"=ζ η)
  (B9:ξ K Γ "isinstance"=ζ η)
  (B8:ξ K Γ "len"=ζ η)
  (B7:ξ K Γ "list"=ζ η)
  (B6:ξ K Γ "max"=ζ η)
  (B5:ξ K Γ "min"=ζ η)
  (B4:ξ K Γ "range"=ζ η)
  (B3:ξ K Γ "set"=ζ η)
  (B0:ξ K Γ "sorted"=ζ η)
  (BZ:ξ K Γ "str"=ζ η)
  (BY:ξ K Γ "tuple"=ζ η)
  (BX:ξ K Γ "zip"=ζ η)
  {wk:Tok}(Cg:ξ K Γ "MOST_TURNED"=ζ (ζ (.int 10 wk)))
  {uR:Ψ}(zw:ξ K Γ "NoWeb"=ζ (ζ (.ref uR)))
  {uT:Ψ}(zy:ξ K Γ "NoText"=ζ (ζ (.ref uT)))
  {uX:Ψ}(zC:ξ K Γ "NoNumbers"=ζ (ζ (.ref uX)))
  {uZ:Ψ}(zE:ξ K Γ "NoField"=ζ (ζ (.ref uZ)))
  {uS:Ψ}(zx:ξ K Γ "NoThing"=ζ (ζ (.ref uS)))
  {uU:Ψ}(zz:ξ K Γ "NoSquare"=ζ (ζ (.ref uU)))
  {uW:Ψ}(zB:ξ K Γ "NoPlaces"=ζ (ζ (.ref uW)))
  {qP:Ψ}(t7:ξ K Γ "TooMany"=ζ (ζ (.ref qP)))
  {uY:Ψ}(zD:ξ K Γ "NoName"=ζ (ζ (.ref uY)))
  {u7:Ψ}(zF:ξ K Γ "NoDeed"=ζ (ζ (.ref u7)))
  {uV:Ψ}(zA:ξ K Γ "NoRow"=ζ (ζ (.ref uV)))
  {oY:Ψ}(zv:ξ K Γ "WebError"=ζ (ζ (.ref oY)))
  (Hr:PySem.W.excIn K qP yO "ValueError.__new__"=θ)
  {nL nG:Ψ}(pI:PySem.W.tabIn K "all_without_first"=ζ (nL,nG)) (rY:PySem.W.codeHdIn K nL nG=θ)
  {nK nF:Ψ}(pH:PySem.W.tabIn K "other_web"=ζ (nK,nF)) (rX:PySem.W.codeHdIn K nK nF=θ)
  {nJ nE:Ψ}(pG:PySem.W.tabIn K "turned_at"=ζ (nJ,nE)) (rW:PySem.W.codeHdIn K nJ nE=θ)
  (nM:rZ K=θ)
  (gG:Cj K eW=θ) (xw:Ci K eW oY=θ)
  : ∃fd:ο,(∀(s:Ω) (v:Ξ),agy s fd ⟨[v],[]⟩ [("script",v)])/\∀base:υ,K.In base->base.Ns Γ mg->bU l.prog w K mg base bO 9 fa fd ["script"] (bQ K 1 xu):=by
 have e:=hfa.symm.trans (an1 X G kR);cases e;have Sl:=cY (st:=tG) Et IV Ff;have vH:=Sl.binds (ps:=["thing"]) λ_ _ _ _ _ _ us hl=>match us,hl with|[_],_=>rfl
 have Sk:=cY (st:=tF) Es IU Fe;have vG:=Sk.binds (ps:=["thing","least","most"]) λ_ _ _ _ _ _ us hl=>match us,hl with|[_,_,_],_=>rfl
 have Sx:=cY (st:=tP) EC Jb Ft;have rj:=Sx.binds (ps:=["thing","many"]) λ_ _ _ _ _ _ us hl=>match us,hl with|[_,_],_=>rfl
 have RU:=cY (st:=sE) DY Im EI;have vf:=RU.binds (ps:=["many","one","are_tied"]) λ_ _ _ _ _ _ us hl=>match us,hl with|[_,_,_],_=>rfl
 have RP:=cY (st:=sA) DU Ii EE;have vc:=RP.binds (ps:=["many","are_tied"]) λ_ _ _ _ _ _ us hl=>match us,hl with|[_,_],_=>rfl
 have RS:=cY (st:=sC) DW Ik EG;have vd:=RS.binds (ps:=["web"]) λ_ _ _ _ _ _ us hl=>match us,hl with|[_],_=>rfl
 have RV:=cY (st:=pR) DZ Io EJ;have vg:=RV.binds (ps:=["web"]) λ_ _ _ _ _ _ us hl=>match us,hl with|[_],_=>rfl
 have Sw:=cY (st:=tO) EB Ja Fq;have vK:=Sw.binds (ps:=["web","one","other"]) λ_ _ _ _ _ _ us hl=>match us,hl with|[_,_,_],_=>rfl
 have Sn:=cY (st:=tK) Ew IX Fi;have vI:=Sn.binds (ps:=["web"]) λ_ _ _ _ _ _ us hl=>match us,hl with|[_],_=>rfl
 have RT:=cY (st:=sD) DX Il EH;have ve:=RT.binds (ps:=["web","pairs"]) λ_ _ _ _ _ _ us hl=>match us,hl with|[_,_],_=>rfl
 have So:=cY (st:=tL) Ey IY Fj;have vJ:=So.binds (ps:=["web","pairs"]) λ_ _ _ _ _ _ us hl=>match us,hl with|[_,_],_=>rfl
 have Su:=cY (st:=tM) Ez IZ Fo;have qZ:=Su.binds (ps:=["web"]) λ_ _ _ _ _ _ us hl=>match us,hl with|[_],_=>rfl
 have Sm:=cY (st:=tH) Eu IW Fg;have qY:=Sm.binds (ps:=["web"]) λ_ _ _ _ _ _ us hl=>match us,hl with|[_],_=>rfl
 have RQ:=cY (st:=pQ) DV Ij EF;have qR:=RQ.binds (ps:=["web","some"]) λ_ _ _ _ _ _ us hl=>match us,hl with|[_,_],_=>rfl
 have Sy:=cY (st:=pS) ED Jc Fv;have rm:=Sy.binds (ps:=["many"]) λ_ _ _ _ _ _ us hl=>match us,hl with|[_],_=>rfl
 have Sv:=cY (st:=tN) EA I0 Fp;have jZ:=Sv.binds (ps:=["web"]) λ_ _ _ _ _ _ us hl=>match us,hl with|[_],_=>rfl
 have Sg:=cY (st:=sZ) Em IP E9;have qX:=Sg.binds (ps:=["script","k"]) λ_ _ _ _ _ _ us hl=>match us,hl with|[_,_],_=>rfl
 have R7:=cY (st:=sQ) Ed IE EW;have qV:=R7.binds (ps:=["cell"]) λ_ _ _ _ _ _ us hl=>match us,hl with|[_],_=>rfl
 have RZ:=cY (st:=sI) D5 Iu EN;have qT:=RZ.binds (ps:=["pot","far"]) λ_ _ _ _ _ _ us hl=>match us,hl with|[_,_],_=>rfl
 have R9:=cY (st:=sS) Eg IG EY;have vt:=R9.binds (ps:=["pot","wide"]) λ_ _ _ _ _ _ us hl=>match us,hl with|[_,_],_=>rfl
 have Se:=cY (st:=sX) Ek IL E7;have vC:=Se.binds (ps:=["many","wanted"]) λ_ _ _ _ _ _ us hl=>match us,hl with|[_,_],_=>rfl
 have R3:=cY (st:=sM) D8 IA ES;have vm:=R3.binds (ps:=["pot","most"]) λ_ _ _ _ _ _ us hl=>match us,hl with|[_,_],_=>rfl
 have Sa:=cY (st:=sU) Eh II EZ;have vz:=Sa.binds (ps:=["many","marks"]) λ_ _ _ _ _ _ us hl=>match us,hl with|[_,_],_=>rfl
 have R8:=cY (st:=sR) Ef IF EX;have vq:=R8.binds (ps:=["pot","most"]) λ_ _ _ _ _ _ us hl=>match us,hl with|[_,_],_=>rfl
 have Sb:=cY (st:=sV) Ei IJ E5;have vA:=Sb.binds (ps:=["table","order"]) λ_ _ _ _ _ _ us hl=>match us,hl with|[_,_],_=>rfl
 have RY:=cY (st:=sH) D4 Ir EM;have vj:=RY.binds (ps:=["table","one","other"]) λ_ _ _ _ _ _ us hl=>match us,hl with|[_,_,_],_=>rfl
 have Si:=cY (st:=tw) Ep IS Fc;have vE:=Si.binds (ps:=["table"]) λ_ _ _ _ _ _ us hl=>match us,hl with|[_],_=>rfl
 have Sh:=cY (st:=tu) Eo IQ Fb;have vD:=Sh.binds (ps:=["pot","most"]) λ_ _ _ _ _ _ us hl=>match us,hl with|[_,_],_=>rfl
 have R5:=cY (st:=sO) Ea IC EU;have vn:=R5.binds (ps:=["table"]) λ_ _ _ _ _ _ us hl=>match us,hl with|[_],_=>rfl
 have RW:=cY (st:=sF) D0 Ip EK;have vh:=RW.binds (ps:=["found"]) λ_ _ _ _ _ _ us hl=>match us,hl with|[_],_=>rfl
 have R4:=cY (st:=sN) D9 IB ET;have kP:=R4.binds (ps:=["found","due"]) λ_ _ _ _ _ _ us hl=>match us,hl with|[_,_],_=>rfl
 have RX:=cY (st:=sG) D3 Iq EL;have qS:=RX.binds (ps:=["table","some"]) λ_ _ _ _ _ _ us hl=>match us,hl with|[_,_],_=>rfl
 have R1:=cY (st:=sL) D7 Iz ER;have qU:=R1.binds (ps:=["table","one","other"]) λ_ _ _ _ _ _ us hl=>match us,hl with|[_,_,_],_=>rfl
 have Sf:=cY (st:=sY) El IM E8;have qW:=Sf.binds (ps:=["table"]) λ_ _ _ _ _ _ us hl=>match us,hl with|[_],_=>rfl
 have Sd:=cY (st:=sW) Ej IK E6;have vB:=Sd.binds (ps:=["e"]) λ_ _ _ _ _ _ us hl=>match us,hl with|[_],_=>rfl
 have R0:=cY (st:=sJ) D6 Iw EO;have oZ:=R0.binds (ps:=["many"]) λ_ _ _ _ _ _ us hl=>match us,hl with|[_],_=>rfl
 have R6:=cY (st:=sP) Eb ID EV;have vp:=R6.binds (ps:=["web"]) λ_ _ _ _ _ _ us hl=>match us,hl with|[_],_=>rfl
 have Sj:=cY (st:=tE) Er IT Fd;have vF:=Sj.binds (ps:=["script"]) λ_ _ _ _ _ _ us hl=>match us,hl with|[_],_=>rfl
 let T:Tx K mg:={
  m8:=A3,GX:=_,HN:=⟨Sl,an1 X G m8,vH⟩,adQ:=m8,
  m7:=A2,GW:=_,HM:=⟨Sk,an1 X G m7,vG⟩,adP:=m7,
  nj:=Ba,G3:=_,HU:=⟨Sx,an1 X G nj,rj⟩,adX:=nj,
  mC:=AD,Gw:=_,Ht:=⟨RU,an1 X G mC,vf⟩,ads:=mC,
  mj:=Ay,Gr:=_,Bk:=⟨RP,an1 X G mj,vc⟩,ado:=mj,
  mw:=AA,Gu:=_,Bm:=⟨RS,an1 X G mw,vd⟩,adp:=mw,
  mD:=AE,Gx:=_,Hu:=⟨RV,an1 X G mD,vg⟩,Nt:=mD,
  ni:=A9,G2:=_,Bs:=⟨Sw,an1 X G ni,vK⟩,adW:=ni,
  nc:=A5,GZ:=_,HP:=⟨Sn,an1 X G nc,vI⟩,adS:=nc,
  mz:=AB,Gv:=_,xY:=⟨RT,an1 X G mz,ve⟩,adq:=mz,
  ng:=A6,G0:=_,HQ:=⟨So,an1 X G ng,vJ⟩,adT:=ng,
  nh:=A7,G1:=_,HR:=⟨Su,an1 X G nh,qZ⟩,adU:=nh,
  m9:=A4,GY:=_,Br:=⟨Sm,an1 X G m9,qY⟩,adR:=m9,
  mq:=Az,Gs:=_,Bl:=⟨RQ,an1 X G mq,qR⟩,Nr:=mq,
  nk:=Bb,G4:=_,Bt:=⟨Sy,an1 X G nk,rm⟩,Nu:=nk,
  j4:=A8,xT:=_,oR:=⟨Sv,an1 X G j4,jZ⟩,adV:=j4,
  mY:=AZ,GR:=_,HJ:=⟨Sg,an1 X G mY,qX⟩,adL:=mY,
  mQ:=AQ,GI:=_,HC:=⟨R7,an1 X G mQ,qV⟩,adD:=mQ,
  mH:=AI,GB:=_,gu:=⟨RZ,an1 X G mH,qT⟩,adw:=mH,
  mS:=AS,GK:=_,HE:=⟨R9,an1 X G mS,vt⟩,adF:=mS,
  mW:=AX,GP:=_,Bq:=⟨Se,an1 X G mW,vC⟩,adJ:=mW,
  mL:=AL,GF:=_,HA:=⟨R3,an1 X G mL,vm⟩,adz:=mL,
  mT:=AU,GL:=_,Bp:=⟨Sa,an1 X G mT,vz⟩,adG:=mT,
  mR:=AR,GJ:=_,HD:=⟨R8,an1 X G mR,vq⟩,adE:=mR,
  mU:=AV,GN:=_,HF:=⟨Sb,an1 X G mU,vA⟩,adH:=mU,
  mG:=AH,GA:=_,Hx:=⟨RY,an1 X G mG,vj⟩,adv:=mG,
  m5:=A1,GU:=_,HL:=⟨Si,an1 X G m5,vE⟩,adN:=m5,
  mZ:=A0,GS:=_,HK:=⟨Sh,an1 X G mZ,vD⟩,adM:=mZ,
  mO:=AN,GG:=_,Bo:=⟨R5,an1 X G mO,vn⟩,adB:=mO,
  mE:=AF,Gy:=_,Hv:=⟨RW,an1 X G mE,vh⟩,adt:=mE,
  kQ:=AM,Ax:=_,xZ:=⟨R4,an1 X G kQ,kP⟩,adA:=kQ,
  mF:=AG,Gz:=_,Hw:=⟨RX,an1 X G mF,qS⟩,adu:=mF,
  mK:=AK,GD:=_,Hz:=⟨R1,an1 X G mK,qU⟩,ady:=mK,
  mX:=AY,GQ:=_,HH:=⟨Sf,an1 X G mX,qW⟩,adK:=mX,
  mV:=AW,GO:=_,HG:=⟨Sd,an1 X G mV,vB⟩,adI:=mV,
  mJ:=AJ,GC:=_,Hy:=⟨R0,an1 X G mJ,oZ⟩,adx:=mJ,
  mP:=AO,GH:=_,HB:=⟨R6,an1 X G mP,vp⟩,adC:=mP,
  kR:=fa,GV:=_,Qi:=⟨Sj,an1 X G kR,vF⟩,adO:=kR,
  Nm:=aoC X G Cf,
  Nl:=aoC X G Ce,
  Nk:=aoC X G Cd,
  xo:=aoC X G Cc,
  DJ:=aoC X G Cb,
  xm:=aoC X G Ca,
  eg:=aoC X G B9,
  dX:=aoC X G B8,
  zV:=aoC X G B7,
  Nj:=aoC X G B6,
  qc:=aoC X G B5,
  cX:=aoC X G B4,
  Ni:=aoC X G B3,
  Nh:=aoC X G B0,
  DI:=aoC X G BZ,
  lD:=aoC X G BY,
  Ng:=aoC X G BX,
  wk:=wk,As:=an1 X G Cg,
  uR:=uR,O7:=an1 X G zw,M5:=zw,
  uT:=uT,O9:=an1 X G zy,M7:=zy,
  uX:=uX,Pe:=an1 X G zC,Nb:=zC,
  uZ:=uZ,Pg:=an1 X G zE,Nd:=zE,
  uS:=uS,O8:=an1 X G zx,M6:=zx,
  uU:=uU,Pa:=an1 X G zz,M8:=zz,
  uW:=uW,Pd:=an1 X G zB,Na:=zB,
  qP:=qP,O6:=an1 X G t7,M4:=t7,
  uY:=uY,Pf:=an1 X G zD,Nc:=zD,
  u7:=u7,Ph:=an1 X G zF,Nf:=zF,
  uV:=uV,Pc:=an1 X G zA,M9:=zA,
  oY:=oY,O5:=an1 X G zv,adl:=zv,
  JT:=yj.of t7 (an1 X G t7) Hr,
  nL:=nL,nG:=nG,pI:=pI,rY:=rY,
  nK:=nK,nF:=nF,pH:=pH,rX:=rX,
  nJ:=nJ,nE:=nE,pG:=pG,rW:=rW,
  nM:=nM,
  gG:=yi.of gG,xw:=xw}
 exact⟨_,λs v=>.of_eq rfl,λbase _ _=>abb T⟩
def walk{l:agv}{q:τ}{loose:List Str}{XP:(Str->Option Ξ)->υ->Prop}{YP:ψ->υ->Prop}{d:DefRec}{K:Params->Θ}{ts:List (Ψ×Ψ)}(hn:l.most=ζ 63)(hdf:d.params.defaults=[])
  (hY:∀(w:ψ) (h:υ),YP w h->(K w.params).In h/\∀q∈ts,h.get? q.2=ζ (PySem.W.tabObj #[]))
  (hK:∀p,(ts.all λq=>PySem.W.codeHdIn (K p) q.1 q.2)=θ/\PySem.W.noTabs (K p)=θ/\CJ (K p) ts=θ)
  (F:∀(w:ψ) (mg:Str->Option Ξ) (fa:Ψ) (h:υ),(K w.params).In h->h.Ns Γ mg->mg d.name=ζ (.ref fa) ->
   ∃fd:ο,(∀(s:Ω) (u:Ξ),agy s fd ⟨[u],[]⟩ [("script",u)])/\∀base:υ,(K w.params).In base->base.Ns Γ mg->bU l.prog w (K w.params) mg base bO 9 fa fd ["script"] (bQ (K w.params) 1 xu)) :
  PySem.W.WalkO q loose XP YP l.row.toRowW d [] (λf vs=>PySem.call f vs) :=
 L2.Tw (n:=63) (k:=9) (x:="script") hn (by decide) hdf ⟨rfl,by decide,by decide⟩ hY hK F aez
end Ev
noncomputable 
def PySem.W.Fast.tw11925263679441746851:Nat:=0
noncomputable def PySem.W.Fast.tw9148999232169993220:Nat:=0
noncomputable def PySem.W.Fast.tw8933177576957129221:Nat:=0
noncomputable def PySem.W.Fast.tw17575600607223614905:Nat:=0
noncomputable def PySem.W.Fast.tw15996952464254116009:Nat:=0
noncomputable def PySem.W.Fast.tw8450728327332259264:Nat:=0
noncomputable def PySem.W.Fast.tw15015964358658404495:Nat:=0
noncomputable def PySem.W.Fast.tw6798132427175282126:Nat:=0
noncomputable def PySem.W.Fast.tw8517078035959158696:Nat:=0
noncomputable def PySem.W.Fast.tw11545104057470678516:Nat:=0
noncomputable def PySem.W.Fast.tw2192214307346123576:Nat:=0
noncomputable def PySem.W.Fast.tw12629168526508498142:Nat:=0
noncomputable def PySem.W.Fast.tw5465100368301092599:Nat:=0
noncomputable def PySem.W.Fast.tw8251876850309832622:Nat:=0
noncomputable def PySem.W.Fast.tw17190060302370772329:Nat:=0
noncomputable def PySem.W.Fast.tw401912277827407601:Nat:=0
noncomputable def PySem.W.Fast.tw5395531144389122810:Nat:=0
noncomputable def PySem.W.Fast.tw2819377811955508041:Nat:=0
noncomputable def PySem.W.Fast.tw15262345639107763335:Nat:=0
noncomputable def PySem.W.Fast.tw7353371891665968810:Nat:=0
noncomputable def PySem.W.Fast.tw3315640659954512509:Nat:=0
noncomputable def PySem.W.Fast.tw11665940758930032360:Nat:=0
noncomputable def PySem.W.Fast.tw15117761503014130074:Nat:=0
noncomputable def PySem.W.Fast.tw14594704351320980038:Nat:=0
noncomputable def PySem.W.Fast.tw1834738807783996026:Nat:=0
noncomputable def PySem.W.Fast.tw736726758365000594:Nat:=0
noncomputable def PySem.W.Fast.tw5124511406116519055:Nat:=0
noncomputable def PySem.W.Fast.tw9086535311774582492:Nat:=0
noncomputable def PySem.W.Fast.tw12450326412933599964:Nat:=0
noncomputable def PySem.W.Fast.tw10695018114985327021:Nat:=0
noncomputable def PySem.W.Fast.tw12602682447146203033:Nat:=0
noncomputable def PySem.W.Fast.tw375825668365490307:Nat:=0
noncomputable def PySem.W.Fast.tw2428296260852080921:Nat:=0
noncomputable def PySem.W.Fast.tw2558693171726189735:Nat:=0
noncomputable def PySem.W.Fast.tw1284450538714824760:Nat:=0
noncomputable def PySem.W.Fast.tw7446476087672008703:Nat:=0
noncomputable def PySem.W.Fast.tw11674787821491210241:Nat:=0
noncomputable def PySem.W.Fast.tw4472123818781056220:Nat:=0
noncomputable def PySem.W.Fast.tw14699656909177573257:Nat:=0
noncomputable def PySem.W.Fast.tw11487764678354093681:Nat:=0
noncomputable def PySem.W.Fast.tw10197226217277341878:Nat:=0
noncomputable def PySem.W.Fast.tw8228270816879311592:Nat:=0
noncomputable def PySem.W.Fast.tw16265108801770377462:Nat:=0
noncomputable def PySem.W.Fast.tw1003331429706584012:Nat:=0
noncomputable def PySem.W.Fast.tw15070959295586209467:Nat:=0
open PySem PySem.W PyProof.Rows
set_option maxRecDepth 100000 in
set_option maxHeartbeats 0 in
theorem PySem.Challenge.cw_evenwebs_k73_turned_to_even_ones_holds : PySem.Challenge.rw_evenwebs_k73_turned_to_even_ones.Holds := by
  w_on; o_law; k_head; (case hw => w_witness2)
  k_fill
  refine Ev.walk (l := PySem.Challenge.rw_evenwebs_k73_turned_to_even_ones) (ts := [(255, 253), (201, 197), (250, 246)]) rfl rfl (fun w h Y => ⟨PySem.W.km_in_of Y, arp.mpr ⟨arq Y _ (by first | k_mem | decide), arp.mpr ⟨arq Y _ (by first | k_mem | decide), arp.mpr ⟨arq Y _ (by first | k_mem | decide), fun _ h => nomatch h⟩⟩⟩⟩) (fun p => ⟨by kernel_rfl, by kernel_rfl, by kernel_rfl⟩) ?F
  case F =>
    intro w mg fa h KX G hmg
    refine' Ev.all_mk (nL := 255) (nG := 253) (nK := 201) (nF := 197) (nJ := 250) (nE := 246) KX G hmg ?m8 ?Et ?IV ?Ff ?m7 ?Es ?IU ?Fe ?nj ?EC ?Jb ?Ft ?mC ?DY ?Im ?EI ?mj ?DU ?Ii ?EE ?mw ?DW ?Ik ?EG ?mD ?DZ ?Io ?EJ ?ni ?EB ?Ja ?Fq ?nc ?Ew ?IX ?Fi ?mz ?DX ?Il ?EH ?ng ?Ey ?IY ?Fj ?nh ?Ez ?IZ ?Fo ?m9 ?Eu ?IW ?Fg ?mq ?DV ?Ij ?EF ?nk ?ED ?Jc ?Fv ?j4 ?EA ?I0 ?Fp ?mY ?Em ?IP ?E9 ?mQ ?Ed ?IE ?EW ?mH ?D5 ?Iu ?EN ?mS ?Eg ?IG ?EY ?mW ?Ek ?IL ?E7 ?mL ?D8 ?IA ?ES ?mT ?Eh ?II ?EZ ?mR ?Ef ?IF ?EX ?mU ?Ei ?IJ ?E5 ?mG ?D4 ?Ir ?EM ?m5 ?Ep ?IS ?Fc ?mZ ?Eo ?IQ ?Fb ?mO ?Ea ?IC ?EU ?mE ?D0 ?Ip ?EK ?kQ ?D9 ?IB ?ET ?mF ?D3 ?Iq ?EL ?mK ?D7 ?Iz ?ER ?mX ?El ?IM ?E8 ?mV ?Ej ?IK ?E6 ?mJ ?D6 ?Iw ?EO ?mP ?Eb ?ID ?EV ?kR ?Er ?IT ?Fd ?Cf ?Ce ?Cd ?Cc ?Cb ?Ca ?B9 ?B8 ?B7 ?B6 ?B5 ?B4 ?B3 ?B0 ?BZ ?BY ?BX ?Cg ?zw ?zy ?zC ?zE ?zx ?zz ?zB ?t7 ?zD ?zF ?zA ?zv ?Hr ?pI ?rY ?pH ?rX ?pG ?rW ?nM ?gG ?xw
    case m8|Et|IV|Ff|m7|Es|IU|Fe|nj|EC|Jb|Ft|mC|DY|Im|EI|mj|DU|Ii|EE|mw|DW|Ik|EG|mD|DZ|Io|EJ|ni|EB|Ja|Fq|nc|Ew|IX|Fi|mz|DX|Il|EH|ng|Ey|IY|Fj|nh|Ez|IZ|Fo|m9|Eu|IW|Fg|mq|DV|Ij|EF|nk|ED|Jc|Fv|j4|EA|I0|Fp|mY|Em|IP|E9|mQ|Ed|IE|EW|mH|D5|Iu|EN|mS|Eg|IG|EY|mW|Ek|IL|E7|mL|D8|IA|ES|mT|Eh|II|EZ|mR|Ef|IF|EX|mU|Ei|IJ|E5|mG|D4|Ir|EM|m5|Ep|IS|Fc|mZ|Eo|IQ|Fb|mO|Ea|IC|EU|mE|D0|Ip|EK|kQ|D9|IB|ET|mF|D3|Iq|EL|mK|D7|Iz|ER|mX|El|IM|E8|mV|Ej|IK|E6|mJ|D6|Iw|EO|mP|Eb|ID|EV|kR|Er|IT|Fd|Cf|Ce|Cd|Cc|Cb|Ca|B9|B8|B7|B6|B5|B4|B3|B0|BZ|BY|BX|Cg|zw|zy|zC|zE|zx|zz|zB|t7|zD|zF|zA|zv=>k_is
    (case Hr => k_exc)
    (case pI => kernel_rfl)
    (case rY => kernel_rfl)
    (case pH => kernel_rfl)
    (case rX => kernel_rfl)
    (case pG => kernel_rfl)
    (case rW => kernel_rfl)
    (case nM => kernel_rfl)
    (case gG => kernel_rfl)
    (case xw => kernel_rfl)
