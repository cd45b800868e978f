import PyProof.Rows.All
import Wide.All
import OpenK.AllK
import Wide.FinOn
import Lean
import PyProof.EqAt
import PyProof.EqKinds
import PyProof.TupleCall
import PySem.Challenge.RW_evenwebs_k56_no_nets_refused
import PyProof.P3In
import PyProof.EqLayable
import PyProof.SumAny
import PyProof.NoPylong
import PyProof.FitsBits
import PyProof.Rows.Range3
import PyProof.ExcArgsOwn
import PyProof.ExcBaseAll.ValueError
import PyProof.DictRoads
import PyProof.DictKinds
import PyProof.Rows.FactsT2
import KE.KRevIter
import PyProof.SetScanFacts
import PyProof.SetKind
import PyProof.Rows.SetFrom
import PyProof.Walks
import PyProof.DictValues
import PyProof.FactsAll.set_1
import PyProof.DictWalks
import KE.KDictSum
import PyProof.SetRoads
import PyProof.MeetsSeq2
import PyProof.WalksMore
import PyProof.AutoSeq1
import PyProof.ListRange
import PyProof.Rows.SortShell
import PyProof.TupleOfSeq
set_option Elab.async false
set_option linter.all false
set_option maxHeartbeats 4000000
set_option maxRecDepth 100000
set_option bootstrap.genMatcherCode false
set_option genSizeOfSpec false
set_option genSizeOf false
open PySem renaming wpAny_bind→aih,wpAny_pure→aii,boot_len→aiC,wpAny_mono→aiO,wpAny_holding→aje,codeAny_mono→aji,codeAny_builtin→ajr,wpAny_setState_of→ajt,wpAny_truthy_bool→aju,mem_of_lookup→ajx,call_meets→ajz,wpAny_passesOwn→ajH,wpAny_execs_nil→aj3,sizeLine_eq→aj7,wpAny_call→aj8,codeAny_call_builtin→akh,wpAny_askSetting→akl,wpAny_call_entry→akn,wpAny_pyIter_list→aks,wpAny_Call_Name_kw→akt,wpAny_newObj_type→akC,wpAny_storeSet_of→akR,codeAny_of_tree→akU,wpAny_of_eq→akV,isSubtype_type→akW,pushCells_keeps→ala,wpAny_loadPart_at→alc,hashByValue_scannable→alp,plainId_quiet→alq,weight_type_call_type→alu,check_set_init_1→alx,wpAny_runValue→aly,wpAny_setEntries_of→alB,wpAny_setField→alC,wpAny_pyNext_range_end→alP,wpAny_pyIter_rangeiter→alQ,codeAny_call_function→alU,wpAny_newFunctionEnv_cells→alW,list_append→al2,filterMap_getElem?_range→amg,builtinLookup_eq_fast→amk,wpAny_callSpecial?_slot→amn
open Nat renaming le_refl→aij,ne_of_lt→aiq,lt_of_lt_of_le→aiz,le_trans→aiT,zero_add→aiW,lt_irrefl→ai4,ne_of_gt→ajc,lt_succ_self→ajf,mod_lt→ajg,lt_succ_of_lt→ajj,zero_le→ajk,succ_mul→ajo,le_of_eq→ajp,sub_self→ajA,le_of_lt→ajG,div_lt_of_lt_mul→ajP,le_succ→ajS,le_add_right→ajT,testBit_two_pow_sub_one→ajW,mul_comm→aka,lt_of_le_of_lt→akb,mul_le_mul_right→akp,add_comm→akA,not_lt_zero→akI,lt_trichotomy→akJ,lt_or_ge→akN,div_eq_of_lt→akY,mod_eq_of_lt→akZ,add_zero→ald,lt_trans→alf,eq_zero_or_pos→alg,min_eq_left→alJ,le_of_not_lt→al3,eq_of_beq_eq_true→amA,le_of_ble_eq_true→amB,pow_le_pow_right→amH,div_add_mod→amJ,mul_add_div→amK,mul_add_mod→amL
open List renaming mem_map→aik,mem_range→ain,mem_cons→aio,all_eq_true→aip,map_cons→ais,getElem?_eq_getElem→ait,length_map→aiu,length_cons→aiv,size_toArray→aiw,getElem?_eq_some_iff→aix,getD_eq_getElem?_getD→aiA,not_mem_nil→aiE,map_map→aiG,getElem_mem→aiJ,mem_append→aiK,getElem?_map→aiL,nil_append→aiM,mem_cons_of_mem→aiN,mem_of_getElem?→aiP,mem_of_mem_take→aiQ,length_nil→aiR,mem_singleton→aiV,getElem?_set_ne→aiX,append_assoc→aiZ,mem_cons_self→ai1,getElem?_append_left→ai2,length_append→ai3,getElem?_set_self→ai5,lookup_cons→ai7,length_range→ai8,mem_append_right→ajb,getElem?_append_right→ajd,map_congr_left→ajl,replicate_succ→ajm,foldl_cons→ajn,set_cons_succ→ajq,map_append→ajs,append_nil→ajv,length_take→ajw,flatten_cons→ajy,range_succ→ajB,pairwise_map→ajC,getElem?_range→ajD,nodup_cons→ajI,nodup_append→ajJ,getElem_of_mem→ajK,take_append_drop→ajM,eraseIdx_eq_take_drop_succ→ajN,map_take→ajO,filterMap_cons→ajQ,pairwise_iff_getElem→ajU,pairwise_cons→ajV,take_length→ajZ,take_of_length_le→aj1,set_cons_zero→aj2,mem_filterMap→aj5,getElem?_take→akd,getElem?_eq_none→ake,getElem_range→akf,foldl_append→akj,map_id→ako,getElem_inj→akr,of_mem_zip→aku,getElem?_replicate→akv,getElem?_take_of_lt→akw,length_replicate→akx,forIn_cons→akB,mem_iff_getElem→akD,take_zero→akE,drop_eq_getElem_cons→akF,getElem_take→akG,mem_of_mem_drop→akL,perm_append_singleton→akP,take_succ_eq_append_getElem→akS,mem_filter→ak0,mem_append_left→ak2,take_sublist→ak7,length_set→ak8,getElem?_concat_length→ale,mem_erase_of_ne→alh,length_erase_of_mem→ali,ext_getElem→alk,pairwise_lt_range→alm,map_filterMap→aln,perm_middle→alz,length_eq_zero_iff→alA,map_drop→alE,filter_cons→alG,flatMap_cons→alH,flatMap_append→alI,mem_mapIdx→alL,getElem?_zip_eq_some→al4,drop_eq_nil_of_le→al5,countP_cons→al7,findIdx?_eq_some_iff_getElem→al8,length_pos_of_mem→amb,find?_eq_none→amd,length_eraseIdx_of_lt→aml,perm_ext_iff_of_nodup→ams,mem_map_of_mem→amt,zip_append→amu,getElem?_set→amv,nodup_range→amx,length_reverse→amC,getElem_map→amD,filter_eq_self→amE,zipWith_cons_cons→amF,mem_flatMap→amG,all_eq_false→amM,forall_mem_cons→amN
open PySem.W renaming mg_of→ail,kia_one→ai6,mg_none_of→ai9,cellsFrom_some→aj9,of_hideAll→ak1,kitx_dict→ak5,rangeSize_down→alb,hideAll_get→alM,kitx_list→alS,callWith_K→alT,codeRec_of→alV,km_tabs_of→amO
open PySem.Heap renaming lt_size→aim,get?_push_of_some→air,get?_push_size→aiI,size_push→ai0,get?_update_other→ajR,get?_update_self→akz
open Bool renaming and_eq_true→aiy,false_ne_true→aiD,false_eq_true→aiU,not_true→aj0,eq_iff_iff→aj6,or_eq_true→akc,not_false→aki,false_and→ak3,and_false→ak9,true_and→alj,false_or→alK,not_eq_true'→al9
open Array renaming length_toList→aiB,getElem?_toList→aiS,getElem?_eq_getElem→akm,toList_setIfInBounds→akO,toList_push→akQ,mem_toList_iff→ak4,toList_filterMap→alo,append_assoc→alN,getD_eq_getD_getElem?→ama,foldl_toList→ame,getElem?_eq_none→amm,forIn_toList→amw
open PySem.F renaming called_set→aiF,plainAttrs_list→akg,entry_type_call→alr,typeCall_set_1→alv,entry_set_init→alw,slot_tuple_add→alX,entry_tuple_add→alY,args_tuple_add_2→alZ,typeOf_object_class→al6,plain_set_new→amh,sub_list_set→ami,sub_list_frozenset→amj,slot_set_iter→amq
open Option.some renaming inj→aiH
open PyProof.Rows renaming boot_isinstance→aiY,boot_tuple→ajh,callWith_type1→aj4
open Ne renaming symm→aja
open Int renaming emod_nonneg→ajE,emod_lt_of_pos→ajF,toNat_natCast→aky,le_refl→alD,pow_succ→alF,emod_eq_of_lt→amc,natCast_emod→amy,natCast_add→amz
open PySem.Heap.SameBut renaming update→ajL
open PySem.SetTable renaming insertAt_perm→ajX,toList_insertAt→akK
open PyProof.Rows.F renaming plain_set_update_loop→ajY,entry_set_update_loop→akT
open PySem.Around renaming under_plainId→akk,under_plain→als
open PySem.Value renaming isInt_shape→akq
open PySem.Code renaming quiet_builtin→akH
open Classical renaming byContradiction→akM
open PySem.Obj renaming data_mapFields→akX,isFreed_of_fields→amo
open Option renaming isSome_iff_exists→ak6,getD_none→al0
open PySem.Calls renaming Name_function_global→alO
open PyProof renaming noPylong_small→alR
open PySem.IsL renaming update→al1
open List.Pairwise renaming filterMap→amf,imp_of_mem→amI
open List.Perm renaming of_eq→amr
open Option renaming some→ζ,none→θ
open List renaming range→η,replicate→ν,Nodup→υ
open PySem.W renaming nsIn→ξ,Frag→Δ,OpenLaw→abi
open PySem renaming mainGlobals→Γ,Value→Ξ,Addr→Ω,Shared→ε,sizeLine→ι,starEach→μ,FuncData→ο,Expr→π,Program→τ,Heap→χ,World→ψ,Around→ω,SetTable→aam,IsTupleKey→aaF,Stmt→aaM,NameKind→aaN,backTo→aaQ,keywordEach→aaU,Keyword→aaW,attributeBase→aaZ,Scope→aa5,backToKw→aa9,cLine→aba,PyData→abb,GenState→abc,Paired→abp,IsRangeIter→abr,BindsTo→abF,PassesOwn→abH,Result→abI
open Bool renaming true→Θ,false→Ψ
open PySem.Heap renaming FlyingW→aaS,SameBut→aaV
open PyProof.Rows renaming AllBare→aa0,IntsAre→aa8
open PySem.Shared renaming TypeIs→abG
noncomputable section
namespace L2
open PySem PySem.Spec PyProof.Rows
abbrev Key:=Sum Int Str
def J6:Key->Ξ->Bool
 |.inl k,v=>Value.isInt k v
 |.inr x,v=>Value.isStrOf x v
def ZH(w:ψ):Key->Int
 |.inl k=>hashInt k
 |.inr x=>hashStr w x
theorem kI:∀{k:Key}{v:Ξ},J6 k v=Θ->(∃i t,k=Sum.inl i/\v=Value.int i t)\/(∃x t,k=Sum.inr x/\v=Value.str x t)
 |.inl i,v,h=>by
  obtain⟨t,e⟩:=akq (k:=i) (v:=v) h;exact .inl ⟨i,t,rfl,e⟩
 |.inr x,v,h=>by
  obtain⟨t,e⟩:=Value.isStrOf_shape (x:=x) (v:=v) h;exact .inr ⟨x,t,rfl,e⟩
theorem ZF(a b:Int):decide ((Sum.inl a:Key)=Sum.inl b)=(a==b):=by
 by_cases e:a=b
 ·subst e;simp
 ·have h:¬(Sum.inl a:Key)=Sum.inl b:=λq=>e (Sum.inl.inj q)
  rw[decide_eq_false h];exact(beq_eq_false_iff_ne.mpr e).symm
theorem ZC(a b:Str):decide ((Sum.inr a:Key)=Sum.inr b)=decide (a=b):=by
 by_cases e:a=b
 ·subst e;simp
 ·have h:¬(Sum.inr a:Key)=Sum.inr b:=λq=>e (Sum.inr.inj q)
  rw[decide_eq_false h,decide_eq_false e]
theorem ZE(a:Int) (b:Str):decide ((Sum.inl a:Key)=Sum.inr b)=Ψ:=decide_eq_false (λq=>nomatch q)
theorem ZD(a:Str) (b:Int):decide ((Sum.inr a:Key)=Sum.inl b)=Ψ:=decide_eq_false (λq=>nomatch q)
def JK(prog:τ) (w:ψ):PySem.KeyKind prog w Key where
 is:=J6
 hash:=ZH w
 inj:=λv a b ha hb=>by
  rcases kI ha with⟨i,t,rfl,rfl⟩|⟨x,t,rfl,rfl⟩
  ·rcases kI hb with⟨j,u,rfl,e⟩|⟨y,u,rfl,e⟩
   ·injection e with e1 _;rw[e1]
   ·exact nomatch e
  ·rcases kI hb with⟨j,u,rfl,e⟩|⟨y,u,rfl,e⟩
   ·exact nomatch e
   ·injection e with e1 _;rw[e1]
 byValue:=λk v h=>by
  rcases kI h with⟨i,t,rfl,rfl⟩|⟨x,t,rfl,rfl⟩<;>rfl
 pyHash:=λhv h=>by
  rcases kI hv with⟨i,t,rfl,rfl⟩|⟨x,t,rfl,rfl⟩
  ·exact wpAny_pyHash_int h
  ·exact wpAny_pyHash_str h
 eqBool:=λhu hv h=>by
  rcases kI hu with⟨i,t,rfl,rfl⟩|⟨x,t,rfl,rfl⟩
  ·rcases kI hv with⟨j,u,rfl,rfl⟩|⟨y,u,rfl,rfl⟩
   ·rw[ZF]at h;exact wpAny_eqBool_int h
   ·rw[ZE]at h;exact SeqAt.EqAt.int_str i t y u _ _ _ _ h
  ·rcases kI hv with⟨j,u,rfl,rfl⟩|⟨y,u,rfl,rfl⟩
   ·rw[ZD]at h;exact SeqAt.EqAt.str_int x t j u _ _ _ _ h
   ·rw[ZC]at h;exact wpAny_eqBool_str h
 «strs»:=λk x t v h=>by
  rcases kI h with⟨i,u,rfl,e⟩|⟨y,u,rfl,e⟩
  ·exact nomatch e
  ·injection e with e1 _
   subst e1;cases v<;>rfl
inductive V where
 |aM|bl (b:Bool)|int (i:Int)|str (x:Str)|jB (b:Array UInt8)|rC (b:UInt64)|ref (a:Ω)|ty (n:String)
 deriving DecidableEq
def RelV:V->Ξ->Prop
 |.aM,u=>u=Value.none
 |.bl b,u=>u=Value.bool b
 |.int i,u=>∃t,u=Value.int i t
 |.str x,u=>∃t,u=Value.str x t
 |.jB b,u=>∃t,u=Value.bytes b t
 |.rC b,u=>∃t,u=Value.float b t
 |.ref a,u=>u=Value.ref a
 |.ty n,u=>u=Value.type n
abbrev Vals:List V->List Ξ->Prop:=abp RelV
theorem Vals.length{xs:List V}{us:List Ξ}(r:Vals xs us):xs.length=us.length:=Paired.length r
theorem Vals.get:∀{xs:List V}{us:List Ξ}{i:Nat}{x:V},Vals xs us->xs[i]? = ζ x->∃u,us[i]? = ζ u/\RelV x u
 |_,_,_,_,.nil,e=>by simp at e
 |_,_,0,_,.cons r _,e=>by simp at e;subst e;exact⟨_,rfl,r⟩
 |_,_,i+1,x,.cons _ t,e=>by
  obtain⟨u,h1,h2⟩:=Vals.get (i:=i) (x:=x) t (by simpa using e)
  exact⟨u,by simpa using h1,h2⟩
theorem Vals.set{x:V}{u:Ξ}(r:RelV x u):∀{xs:List V}{us:List Ξ}(i:Nat),Vals xs us->Vals (xs.set i x) (us.set i u)
 |_,_,_,.nil=>.nil
 |_,_,0,.cons _ t=>.cons r t
 |_,_,i+1,.cons q t=>.cons q (Vals.set r i t)
theorem Vals.append:∀{xs ys:List V}{us ws:List Ξ},Vals xs us->Vals ys ws->Vals (xs++ys) (us++ws)
 |_,_,_,_,.nil,s=>s
 |_,_,_,_,.cons r t,s=>.cons r (Vals.append t s)
theorem Vals.take:∀{xs:List V}{us:List Ξ}(n:Nat),Vals xs us->Vals (xs.take n) (us.take n)
 |_,_,0,_=>.nil
 |_,_,_+1,.nil=>.nil
 |_,_,n+1,.cons r t=>.cons r (Vals.take n t)
theorem Vals.drop:∀{xs:List V}{us:List Ξ}(n:Nat),Vals xs us->Vals (xs.drop n) (us.drop n)
 |_,_,0,r=>r
 |_,_,_+1,.nil=>.nil
 |_,_,n+1,.cons _ t=>Vals.drop n t
def F5:Option V->Option Ξ->Prop
 |some v,ζ u=>RelV v u
 |none,θ=>True
 |_,_=>False
def KV{κ:Type}:List (κ×V)->List (κ×Ξ)->Prop:=abp fun(p:κ×V) (q:κ×Ξ)=>p.1=q.1/\RelV p.2 q.2
def kV:Key->V
 |.inl i=>.int i
 |.inr x=>.str x
inductive HO where
 |lst (xs:List V)
 |tup (xs:List V)
 |dK (kvs:List (Key×V))|dT (kvs:List (List Key×V))
 |set (S:Int->Bool) (n:Nat)
 |ins (C dx:Ω) (fs:List (Str×V))
 |own (x:Ω)
 |xd (fs:List (Str×V))
 |met (f x:Ω)
 |nP (lo hi:Int)
 |eT (o:Obj) (u:HO)
 |ez (ps:Array Ξ)
 |ext (φ:χ->Prop)
abbrev Hp:=Ω->Option HO
def upd(H:Hp) (a:Ω) (o:HO):Hp:=λb=>if b=a then ζ o else H b
theorem gi{H:Hp}{a:Ω}{o:HO}:upd H a o a=ζ o:=by unfold upd;rw[if_pos rfl]
theorem bM{H:Hp}{a b:Ω}{o:HO}(h:b≠a):upd H a o b=H b:=by unfold upd;rw[if_neg h]
theorem Jo{H:Hp}{a b:Ω}{o u:HO}(h:H a=ζ o) (h':H b=ζ u) (d:o≠u):a≠b:=by
 intro e;subst e;rw[h]at h';exact d (aiH h')
theorem dz{H:Hp}{a b:Ω}{o:HO}(h:H a=ζ o) (h':H b=θ):a≠b:=by
 intro e;subst e;rw[h]at h';cases h'
def l0(h:χ) (a:Ω) (items:Array Ξ):Prop:=∃o,h.get? a=ζ o/\o.cls=.type "tuple"/\(∃n,o.data=.seq items n)/\o.dict=θ
theorem l0.tup{h:χ}{a:Ω}{items:Array Ξ}:l0 h a items->IsTup h a items:=fun⟨o,e,c,d,_⟩=>⟨o,e,c,d⟩
theorem l0.new(h:χ) (items:Array Ξ):l0 (h.push {cls:=.type "tuple",data:=.seq items}) h.objs.size items:=⟨_,aiI _ rfl,rfl,⟨_,rfl⟩,rfl⟩
section
variable (P:τ) (w:ψ)
def eK(H:Hp) (h:χ) (a:Ω):HO->Prop
 |.lst xs=>xs.length<=ι/\∃(its:List Ξ) (n:Nat),Vals xs its/\h.get? a=ζ {cls:=.type "list",data:=.seq its.toArray n}
 |.tup xs=>xs.length<=ι/\∃its:List Ξ,Vals xs its/\l0 h a its.toArray
 |.dK kvs=>kvs.length<=ι/\(a==sysModules)=Ψ/\∃vs,KV kvs vs/\h.DictOf (JK P w) a vs
 |.dT kvs=>kvs.length<=ι/\(a==sysModules)=Ψ/\∃xs:List (List Key×Ω×Ξ),
   abp (fun(p:List Key×V) (q:List Key×Ω×Ξ)=>p.1=q.1/\H q.2.1=ζ (.tup (p.1.map kV))/\RelV p.2 q.2.2) kvs xs /\
   ∃o es ep,h.get? a=ζ o/\o.ExactDict/\o.data=.dict es ep/\es.toList=xs.map (entryOfKey (tupleKind (JK P w)))/\(xs.map (·.1)).Nodup
 |.set S n=>h.SetOf (intKind P w) a S n
 |.ins C dx fs=>H dx=ζ (.own a)/\fs.length<=1000/\dx≠a/\h.get? a=ζ (PySem.W.instObj C dx) /\
   ∃mA,h.Ns1 dx mA/\(∀f,F5 (fs.lookup f) (mA f))/\PySem.Within mA (fs.map (·.1))
 |.own _=>∃o,h.get? a=ζ o
 |.xd fs=>∃mA,h.Ns1 a mA/\∀f,F5 (fs.lookup f) (mA f)
 |.nP lo hi=>∃t u v,h.get? a=ζ {cls:=.type "range",data:=.fields #[.int lo t,.int hi u,.int 1 v]}
 |.eT o u=>h.get? a=ζ o/\eK H h a u
 |.ez ps=>h.get? a=ζ {cls:=.none,data:=.fields ps}
 |.met f x=>h.get? a=ζ (PySem.W.methodObj (.ref f) (.ref x))
 |.ext φ=>φ h/\(∃o,h.get? a=ζ o)/\∀h1 h2:χ,φ h1->(∀o,h1.get? a=ζ o->h2.get? a=ζ o)->φ h2
def cL(H:Hp) (h:χ):Prop:=∀a o,H a=ζ o->eK P w H h a o
end
section
variable {P:τ}{w:ψ}{H H':Hp}{h h':χ}{a:Ω}{o:HO}
theorem eK.lt(x:eK P w H h a o):a<h.objs.size:=by
 cases o with
 |lst xs=>obtain⟨_,_,_,_,e⟩:=x;exact aim e
 |tup xs=>obtain⟨_,_,_,p⟩:=x;exact p.tup.lt
 |dK kvs=>obtain⟨_,_,_,_,o,_,_,e,_⟩:=x;exact aim e
 |dT kvs=>obtain⟨_,_,_,_,o,_,_,e,_⟩:=x;exact aim e
 |set S n=>obtain⟨o,_,_,_,e,_⟩:=x;exact aim e
 |ins C dx fs=>obtain⟨_,_,_,e,_⟩:=x;exact aim e
 |own y=>obtain⟨_,e⟩:=x;exact aim e
 |xd fs=>obtain⟨_,⟨_,_,_,e,_⟩,_⟩:=x;exact aim e
 |nP lo hi=>obtain⟨_,_,_,e⟩:=x;exact aim e
 |eT ob u=>obtain⟨e,_⟩:=x;exact aim e
 |ez ps=>exact aim (show h.get? a=ζ _ from x)
 |met f y=>exact aim (show h.get? a=ζ _ from x)
 |ext φ=>obtain⟨_,⟨_,e⟩,_⟩:=x;exact aim e
theorem Paired.JL{α β:Type}{F G:α->β->Prop}:∀{l₁:List α}{l₂:List β},abp F l₁ l₂->(∀a b,F a b->G a b)->abp G l₁ l₂
 |_,_,.nil,_=>.nil
 |_,_,.cons r t,f=>.cons (f _ _ r) (Paired.JL t f)
theorem eK.stay(x:eK P w H h a o) (k:∀b u,(b=a\/H b=ζ (.own a))->h.get? b=ζ u->h'.get? b=ζ u)
  (ho:∀b,H b=ζ (.own a)->H' b=ζ (.own a)) (ht:∀b xs,H b=ζ (.tup xs)->H' b=ζ (.tup xs)):eK P w H' h' a o:=by
 induction o with
 |lst xs=>obtain⟨z,its,n,r,e⟩:=x;exact⟨z,its,n,r,k _ _ (.inl rfl) e⟩
 |tup xs=>obtain⟨z,its,r,ob,e,c⟩:=x;exact⟨z,its,r,ob,k _ _ (.inl rfl) e,c⟩
 |dK kvs=>obtain⟨z,y,vs,r,ob,es,ep,e,c⟩:=x;exact⟨z,y,vs,r,ob,es,ep,k _ _ (.inl rfl) e,c⟩
 |dT kvs =>
  obtain⟨z,y,xs,r,ob,es,ep,e,c⟩:=x;exact⟨z,y,xs,Paired.JL r λp q z=>⟨z.1,ht _ _ z.2.1,z.2.2⟩,ob,es,ep,k _ _ (.inl rfl) e,c⟩
 |set S n=>obtain⟨ob,es,ep,t,e,c⟩:=x;exact⟨ob,es,ep,t,k _ _ (.inl rfl) e,c⟩
 |ins C dx fs =>
  obtain⟨d,z,ne,e,mA,⟨od,es,ep,e2,c⟩,r⟩:=x;exact⟨ho _ d,z,ne,k _ _ (.inl rfl) e,mA,⟨od,es,ep,k _ _ (.inr d) e2,c⟩,r⟩
 |own y=>obtain⟨ob,e⟩:=x;exact⟨ob,k _ _ (.inl rfl) e⟩
 |xd fs=>obtain⟨mA,⟨od,es,ep,e,c⟩,r⟩:=x;exact⟨mA,⟨od,es,ep,k _ _ (.inl rfl) e,c⟩,r⟩
 |nP lo hi=>obtain⟨t,u,v,e⟩:=x;exact⟨t,u,v,k _ _ (.inl rfl) e⟩
 |eT ob u ih=>obtain⟨e,q⟩:=x;exact⟨k _ _ (.inl rfl) e,ih q⟩
 |ez ps =>
  have e:h.get? a=ζ {cls:=.none,data:=.fields ps}:=x;show h'.get? a=ζ {cls:=.none,data:=.fields ps};exact k a _ (.inl rfl) e
 |met f y =>
  have e:h.get? a=ζ (PySem.W.methodObj (.ref f) (.ref y)):=x;show h'.get? a=ζ (PySem.W.methodObj (.ref f) (.ref y));exact k a _ (.inl rfl) e
 |ext φ=>obtain⟨p,⟨o,e⟩,st⟩:=x;exact⟨st _ _ p λo q=>k _ _ (.inl rfl) q,⟨o,k _ _ (.inl rfl) e⟩,st⟩
theorem cL.lt(x:cL P w H h) (e:H a=ζ o):a<h.objs.size:=(x a o e).lt
theorem cL.fresh(x:cL P w H h) (e:h.objs.size<=a):H a=θ:=by
 cases q:H a with
 |none=>rfl
 |some u=>exact absurd (aiz (x.lt q) e) (ai4 _)
theorem cL.kept(x:cL P w H h) (k:∀b u,h.get? b=ζ u->h'.get? b=ζ u):cL P w H h':=λa o e =>
 (x a o e).stay (λb u _ q=>k b u q) (λ_ q=>q) λ_ _ q=>q
theorem cL.laid(x:cL P w H h) (k:∀b u,h.get? b=ζ u->h'.get? b=ζ u) (hp:h.objs.size<=a) (new:eK P w (upd H a o) h' a o):cL P w (upd H a o) h':=λb u e=>by
 have hn:=x.fresh hp
 by_cases hb:b=a
 ·subst hb;rw[gi]at e;cases e;exact new
 ·rw[bM hb]at e;exact(x b u e).stay (λc v _ q=>k c v q) (λc q=>by rw[bM (dz q hn)];exact q) λc xs q=>by rw[bM (dz q hn)];exact q
end
def Rd(H:Hp) (a:Ω) (u:HO):Prop:=H a=ζ u\/∃o,H a=ζ (.eT o u)
theorem Rd.ok{P:τ}{w:ψ}{H:Hp}{h:χ}{a:Ω}{u:HO}(r:Rd H a u) (x:cL P w H h):eK P w H h a u:=by
 rcases r with r|⟨o,r⟩
 ·exact x a u r
 ·obtain⟨_,q⟩:=x a _ r;exact q
def zL:Option HO->Prop
 |some (.lst _)=>True
 |some (.dK _)=>True
 |some (.dT _)=>True
 |some (.set _ _)=>True
 |some (.ins _ _ _)=>True
 |some (.ext _)=>True
 |_=>False
section
variable {P:τ}{w:ψ}{H:Hp}{h h':χ}{x e:Ω}{o':HO}
theorem cL.write(ok:cL P w H h) (mu:zL (H x)) (he:e=x\/H e=ζ (.own x)) (k:∀b u,b≠e->h.get? b=ζ u->h'.get? b=ζ u) (rj:∃u,h'.get? e=ζ u)
  (new:eK P w (upd H x o') h' x o'):cL P w (upd H x o') h':=λb u q=>by
 have Ja:∀c y,H c=ζ (.own y)->c≠x:=λc y r z=>by subst z;rw[r]at mu;exact mu
 have XM:∀c xs,H c=ζ (.tup xs)->c≠x:=λc xs r z=>by subst z;rw[r]at mu;exact mu
 by_cases hb:b=x
 ·subst hb;rw[gi]at q;cases q;exact new
 ·rw[bM hb]at q
  by_cases oB:b=e
  ·have q':H b=ζ (.own x):=by
    rcases he with z|z
    ·exact absurd (oB.trans z) hb
    ·rw[oB];exact z
   rw[q]at q';cases q';obtain⟨v,hv⟩:=rj;exact⟨v,by rw[oB];exact hv⟩
  ·refine(ok b u q).stay (λc v hc r=>k c v ?_ r) (λc r=>by rw[bM (Ja c b r)];exact r) λc xs r=>by rw[bM (XM c xs r)];exact r
   rcases hc with rfl|hc
   ·exact oB
   ·rintro rfl
    rcases he with z|z
    ·exact Ja c b hc z
    ·rw[hc]at z;cases z;exact hb rfl
end
structure Un (fs ex:List Ω) (H H':Hp) (h h':χ):Prop where
 keep:∀b o,h.get? b=ζ o->H b=θ->b∉fs->b∉ex->h'.get? b=ζ o
 slot:∀b o,h.get? b=ζ o->H b=θ->b∈fs->b∉ex->∃sl,h'.get? b=ζ {o with slots:=sl}
 free:∀b o,h.get? b=ζ o->H b=θ->b∉ex->H' b=θ
 there:∀b o,h.get? b=ζ o->b∉ex->∃o',h'.get? b=ζ o'
 tups:∀b xs,H b=ζ (.tup xs)->H' b=ζ (.tup xs)
 gK:∀b o u,H b=ζ (.eT o u)->H' b=ζ (.eT o u)
 gD:∀b ps,H b=ζ (.ez ps)->∃more,H' b=ζ (.ez (ps++more))
section
variable {fs fs' ex ex':List Ω}{H H1 H2:Hp}{h h1 h2 h':χ}{a x e:Ω}{o:HO}
theorem Un.any(u:Un fs ex H H1 h h1) {b:Ω}{ob:Obj}(q:h.get? b=ζ ob) (n:H b=θ) (hx:b∉ex):∃sl,h1.get? b=ζ {ob with slots:=sl}:=by
 by_cases hb:b∈fs
 ·exact u.slot b ob q n hb hx
 ·exact⟨ob.slots,u.keep b ob q n hb hx⟩
theorem Un.kept(k:∀b u,h.get? b=ζ u->h'.get? b=ζ u):Un fs ex H H h h' :=
 ⟨λb ob q _ _ _=>k b ob q,λb ob q _ _ _=>⟨ob.slots,k b ob q⟩,λ_ _ _ n _=>n,λb ob q _=>⟨ob,k b ob q⟩,λ_ _ q=>q,λ_ _ _ q=>q,λ_ ps q=>⟨#[],by rw[q];simp⟩⟩
theorem Un.refl:Un fs ex H H h h:=Un.kept λ_ _ q=>q
theorem Un.laid(k:∀b u,h.get? b=ζ u->h'.get? b=ζ u) (hp:h.objs.size<=a) (hn:H a=θ):Un fs ex H (upd H a o) h h' where
 keep:=λb u q _ _ _=>k b u q
 slot:=λb u q _ _ _=>⟨u.slots,k b u q⟩
 free:=λb u q n _=>by rw[bM (aiq (aiz (aim q) hp))];exact n
 there:=λb u q _=>⟨u,k b u q⟩
 tups:=λb xs q=>by rw[bM (dz q hn)];exact q
 gK:=λb u xs q=>by rw[bM (dz q hn)];exact q
 gD:=λb ps q=>⟨#[],by rw[bM (dz q hn),q];simp⟩
theorem Un.write(mu:zL (H x)) (he:e=x\/H e=ζ (.own x)) (k:∀b u,b≠e->h.get? b=ζ u->h'.get? b=ζ u) (rj:∃u,h'.get? e=ζ u):Un fs ex H (upd H x o) h h':=by
 have hx:∀b,H b=θ->b≠x:=λb n z=>by subst z;rw[n]at mu;exact mu
 have hb:∀b,H b=θ->b≠e:=λb n z=>by
  subst z
  rcases he with r|r
  ·exact hx b n r
  ·rw[n]at r;cases r
 have hm:∀b u,H b=ζ u->¬zL (ζ u)->b≠x:=λb u q nm z=>by subst z;rw[q]at mu;exact nm mu
 refine⟨λb u q n _ _=>k b u (hb b n) q,λb u q n _ _=>⟨u.slots,k b u (hb b n) q⟩,λb u q n _=>by rw[bM (hx b n)];exact n,λb u q _=>?_,
  λb xs q=>by rw[bM (hm b _ q λz=>z)];exact q,λb u xs q=>by rw[bM (hm b _ q λz=>z)];exact q,λb ps q=>⟨#[],by rw[bM (hm b _ q λz=>z),q];simp⟩⟩
 by_cases oB:b=e
 ·subst oB;exact rj
 ·exact⟨u,k b u oB q⟩
end
def fD(h:χ) (H:Hp):List Ω:=(η h.objs.size).filter λa=>(H a).isSome
def kL(h:χ) (H:Hp):χ:=PySem.W.hideAll h (fD h H)
theorem abe(h:χ) (H:Hp):(kL h H).objs.size=h.objs.size:=PySem.W.hideAll_size _ _
theorem abf{h:χ}{H:Hp}{b:Ω}{o:Obj}(e:h.get? b=ζ o) (n:H b=θ):(kL h H).get? b=ζ o :=
 alM _ e λhm=>by
  have q:(H b).isSome=Θ:=(ak0.mp hm).2;rw[n]at q;simp at q
theorem Wf{h:χ}{H:Hp}{b:Ω}{o:Obj}(e:(kL h H).get? b=ζ o):h.get? b=ζ o/\H b=θ:=by
 have e':h.get? b=ζ o:=ak1 (fD h H) e;refine⟨e',?_⟩;cases q:H b with
 |none=>rfl
 |some x =>
  have hm:b∈fD h H:=ak0.mpr ⟨ain.mpr (aim e'),by simp[q]⟩
  have z:(kL h H).get? b=θ:=PySem.W.hideAll_none (fD h H) hm;rw[z]at e;cases e
structure Mod (K:Δ) (mg:Str->Option Ξ) (base:χ):Prop where
 mW:K.In base
 glob:base.Ns Γ mg
 blt:∃mb,base.Ns builtinsNs mb/\∀x:Str,x≠"__name__"->mb x=bootBuiltins x
 nolimit:base.NoLimit
 bmod:∃bm ob,mg "__builtins__"=ζ (.ref bm)/\bm≠builtinsNs/\base.get? bm=ζ ob/\ob.cls=.type "module"/\ob.dict=ζ builtinsNs/\ob.data=.plain
structure Cx where
 prog:τ
 w:ψ
 K:Δ
 mg:Str->Option Ξ
 base:χ
 A:ω
 N:List Str
 s₀:ε
 H₀:Hp
 env:Env
 outer:List Env
 stack:List Env
 ex:List Ω
 fn:Str->Bool
 calm:Bool
 pn:List (Ω×Obj)
 xe:Ξ->ε->Prop
def frs(l:List Env):List Ω:=l.filterMap (·.frame)
abbrev Cx.fs(X:Cx):List Ω:=frs X.outer
def F3(sc:aa5) (x:Str):Prop:=sc.names.lookup x=ζ .local\/sc.names.lookup x=ζ .cell\/sc.names.lookup x=ζ .free
def Loc(sc:aa5) (x:Str):Prop:=sc.names.lookup x=ζ .local\/sc.names.lookup x=ζ .cell
def Look(env:Env) (h:χ) (m:Str->Option Ξ) (x:Str) (u:Ξ):Prop :=
 (env.kindOf x=ζ .local/\m x=ζ u)\/((env.kindOf x=ζ .cell\/env.kindOf x=ζ .free)/\∃c,env.cells.lookup x=ζ c/\h.IsCell c (ζ u))
structure Cx.Ok (X:Cx):Prop where
 mod:Mod X.K X.mg X.base
 kind:X.env.scope.kind=.function
 glob:X.env.globals=Γ
 blt:X.env.builtins=builtinsNs
 above:X.s₀.heap.objs.size<=X.env.locals
 inj:∀x y c,X.env.cells.lookup x=ζ c->X.env.cells.lookup y=ζ c->x=y
 has:∀x,(X.env.kindOf x=ζ .cell\/X.env.kindOf x=ζ .free)->∃c,X.env.cells.lookup x=ζ c
 jA:∀x c,X.fn x=Θ->X.env.cells.lookup x=ζ c->X.s₀.heap.objs.size<=c
 hd:X.calm=Θ->X.A.handled=θ
 frames:X.A.frames=ζ X.stack
 stk:X.stack=X.outer\/(X.stack=X.env::X.outer/\X.env.frame=ζ X.env.locals)
 kP:∀b∈X.ex,b≠X.env.locals/\∀x c,X.env.cells.lookup x=ζ c->c≠b
 bs:∀b o,X.base.get? b=ζ o->X.s₀.heap.get? b=ζ o/\X.H₀ b=θ
 gV:X.base.objs.size<=X.s₀.heap.objs.size
 iP:∀b o,X.base.get? b=ζ o->b∉X.ex
 jT:∀b∈X.ex,b∉X.fs
 gv:X.s₀.heap.FunFrames X.base X.outer
 jv:∀b∈X.fs,X.H₀ b=θ
structure Inv (X:Cx) (pins:List (Ω×Obj)) (σ:List (Option V)) (H:Hp) (s:ε):Prop where
 ok:X.Ok
 os:s.os=X.s₀.os
 bare:aa0 s.gens
 base:Un X.fs X.ex X.H₀ H X.s₀.heap s.heap
 loc:∃m,s.heap.Ns X.env.locals m/\∀(i:Nat) (x:Str) (v:V),X.N[i]? = ζ x->σ[i]? = ζ (ζ v)->F3 X.env.scope x->∃u,RelV v u/\Look X.env s.heap m x u
 cell:∀x c,X.env.cells.lookup x=ζ c->∃v,s.heap.IsCell c v
 free:H X.env.locals=θ
 fN:∀x c,X.env.cells.lookup x=ζ c->H c=θ
 pin:∀p∈X.pn++pins,s.heap.get? p.1=ζ p.2/\H p.1=θ/\p.1≠X.env.locals/\p.1∉X.fs/\∀v,p.2.data≠.cell v
 hok:cL X.prog X.w H s.heap
 len:σ.length=X.N.length
section
variable {X:Cx}{pins:List (Ω×Obj)}{σ:List (Option V)}{H H':Hp}{s:ε}{h':χ}
theorem Cx.Ok.XT(ok:X.Ok) {b:Ω}{o:Obj}(e:X.base.get? b=ζ o):b∉X.fs:=λhb=>by
 have:=(ok.gv.mem hb).1;rw[e]at this;cases this
theorem Inv.bs(I:Inv X pins σ H s):∀b o,X.base.get? b=ζ o->s.heap.get? b=ζ o/\H b=θ:=λb o e =>
 ⟨I.base.keep b o (I.ok.bs b o e).1 (I.ok.bs b o e).2 (I.ok.XT e) (I.ok.iP b o e),I.base.free b o (I.ok.bs b o e).1 (I.ok.bs b o e).2 (I.ok.iP b o e)⟩
theorem Inv.bk(I:Inv X pins σ H s):∀b o,X.base.get? b=ζ o->s.heap.get? b=ζ o:=λb o e=>(I.bs b o e).1
theorem Inv.mod(I:Inv X pins σ H s):Mod X.K X.mg X.base:=I.ok.mod
theorem Inv.dU(I:Inv X pins σ H s):X.K.In s.heap:=I.ok.mod.mW.keeps I.bk
theorem Inv.lt(I:Inv X pins σ H s):X.env.locals<s.heap.objs.size:=let⟨_,hn,_⟩:=I.loc;hn.lt
theorem Inv.sz(I:Inv X pins σ H s):X.s₀.heap.objs.size<=s.heap.objs.size:=aiT I.ok.above (ajG I.lt)
theorem Inv.A7(I:Inv X pins σ H s) {a:Ω}(h:s.heap.objs.size<=a):a∉X.fs:=λhb=>by
 obtain⟨_,o,ho,_⟩:=I.ok.gv.mem hb;exact absurd (aiz (aim ho) (aiT I.sz h)) (ai4 _)
theorem Inv.oQ(I:Inv X pins σ H s):∀x c,X.env.cells.lookup x=ζ c->c≠X.env.locals:=λx c e z=>by
 obtain⟨v,o,ho,hd⟩:=I.cell x c e;obtain⟨m,⟨o',es,ep,ho',hd',_⟩,_⟩:=I.loc;rw[z,ho']at ho;cases ho;rw[hd']at hd;cases hd
theorem Inv.gv(I:Inv X pins σ H s):s.heap.FunFrames X.base X.outer:=by
 have all:∀(l:List Env),(∀b∈frs l,b∈X.fs)->X.s₀.heap.FunFrames X.base l->s.heap.FunFrames X.base l:=by
  intro l
  induction l with
  |nil=>intro _ _;trivial
  |cons env r ih =>
   intro hs hl;obtain⟨hk,⟨L,o,hf,hn,ho,hd⟩,hr⟩:=hl;have hL:L∈X.fs:=hs L (by unfold frs;rw[ajQ,hf];exact ai1)
   obtain⟨sl,e⟩:=I.base.slot L o ho (I.ok.jv L hL) hL λz=>I.ok.jT L z hL
   exact⟨hk,⟨L,_,hf,hn,e,hd⟩,ih (λb hb=>hs b (by unfold frs;rw[ajQ,hf];exact aiN _ hb)) hr⟩
 exact all X.outer (λ_ hb=>hb) I.ok.gv
theorem Inv.stack(I:Inv X pins σ H s):s.heap.FunFrames X.base X.stack:=by
 rcases I.ok.stk with e|⟨e,hf⟩
 ·rw[e];exact I.gv
 ·rw[e];obtain⟨m,hn,_⟩:=I.loc;refine .cons (by rw[I.ok.kind];decide) hf hn ?_ I.gv
  exact Heap.get?_none_of_le (aiT I.ok.gV I.ok.above)
theorem Inv.nL(I:Inv X pins σ H s):∀b∈frs X.stack,b∈X.env.locals::X.fs:=λb hb=>by
 rcases I.ok.stk with e|⟨e,hf⟩
 ·rw[e]at hb;exact aiN _ hb
 ·rw[e]at hb;unfold frs at hb;rw[ajQ,hf]at hb;exact hb
theorem Inv.Ay(I:Inv X pins σ H s):∀b∈frs X.stack,H b=θ:=λb hb=>by
 rcases aio.mp (I.nL b hb)with e|hb
 ·rw[e];exact I.free
 ·obtain⟨_,o,ho,_⟩:=I.ok.gv.mem hb;exact I.base.free b o ho (I.ok.jv b hb) λz=>I.ok.jT b z hb
theorem Inv.step{g':Array abc}{t':Nat}{d':Drawn}{ch:List Ω}(I:Inv X pins σ H s)
  (hch:∀b∈ch,(b∈X.ex\/X.s₀.heap.objs.size<=b)/\b≠X.env.locals/\(∀x c,X.env.cells.lookup x=ζ c->c≠b)/\∀p∈X.pn++pins,p.1≠b)
  (keep:∀b o,b≠X.env.locals->b∉X.fs->b∉ch->s.heap.get? b=ζ o->H b=θ->h'.get? b=ζ o)
  (slot:∀b o,b≠X.env.locals->b∈X.fs->b∉ch->s.heap.get? b=ζ o->H b=θ->∃sl,h'.get? b=ζ {o with slots:=sl}) (free:∀b o,b∉ch->s.heap.get? b=ζ o->H b=θ->H' b=θ)
  (there:∀b o,b∉ch->s.heap.get? b=ζ o->∃o',h'.get? b=ζ o')
  (tups:∀b xs,H b=ζ (.tup xs)->H' b=ζ (.tup xs)) (gK:∀b o u,H b=ζ (.eT o u)->H' b=ζ (.eT o u)) (gD:∀b ps,H b=ζ (.ez ps)->∃more,H' b=ζ (.ez (ps++more)))
  (ns:∀m,s.heap.Ns X.env.locals m->h'.Ns X.env.locals m) (hok:cL X.prog X.w H' h') (hg:aa0 g') :
  Inv X pins σ H' {s with heap:=h',gens:=g',drawn:=d',toks:=t'}:=by
 have qQ:∀b o,X.s₀.heap.get? b=ζ o->b≠X.env.locals:=λb o e=>aiq (aiz (aim e) I.ok.above)
 have xN:∀b o,X.s₀.heap.get? b=ζ o->b∉X.ex->b∉ch:=λb o e hx hb=>by
  rcases(hch b hb).1 with z|z
  ·exact hx z
  ·exact absurd (aiz (aim e) z) (ai4 _)
 have cellK:∀x c,X.env.cells.lookup x=ζ c->∀v,s.heap.IsCell c v->h'.IsCell c v:=λx c e v ⟨o,ho,hd⟩=>by
  have jj:c∉ch:=λz=>(hch c z).2.2.1 x c e rfl
  by_cases hc:c∈X.fs
  ·obtain⟨sl,q⟩:=slot c o (I.oQ x c e) hc jj ho (I.fN x c e);exact⟨_,q,hd⟩
  ·exact⟨o,keep c o (I.oQ x c e) hc jj ho (I.fN x c e),hd⟩
 refine⟨I.ok,I.os,hg,⟨λb o e n hb hx=>?_,λb o e n hb hx=>?_,λb o e n hx=>?_,λb o e hx=>?_,λb xs e=>tups b xs (I.base.tups b xs e),λb o xs e=>gK b o xs (I.base.gK b o xs e),λb ps e=>?_⟩,?_,λx c e=>?_,?_,λx c e=>?_,λp hp=>?_,hok,I.len⟩
 ·exact keep b o (qQ b o e) hb (xN b o e hx) (I.base.keep b o e n hb hx) (I.base.free b o e n hx)
 ·obtain⟨sl,e1⟩:=I.base.slot b o e n hb hx;obtain⟨AE,e2⟩:=slot b _ (qQ b o e) hb (xN b o e hx) e1 (I.base.free b o e n hx);exact⟨AE,e2⟩
 ·obtain⟨o',e1⟩:=I.base.there b o e hx;exact free b o' (xN b o e hx) e1 (I.base.free b o e n hx)
 ·obtain⟨o',e1⟩:=I.base.there b o e hx;exact there b o' (xN b o e hx) e1
 ·obtain⟨m1,e1⟩:=I.base.gD b ps e;obtain⟨m2,e2⟩:=gD b _ e1;exact⟨m1++m2,by rw[e2,alN]⟩
 ·obtain⟨m,hn,hl⟩:=I.loc;refine⟨m,ns m hn,λi x v e1 e2 e3=>?_⟩
  obtain⟨u,r,l⟩:=hl i x v e1 e2 e3;refine⟨u,r,?_⟩
  rcases l with l|⟨k,c,e,z⟩
  ·exact .inl l
  ·exact .inr ⟨k,c,e,cellK x c e _ z⟩
 ·obtain⟨v,z⟩:=I.cell x c e;exact⟨v,cellK x c e v z⟩
 ·obtain⟨m,⟨o,_,_,ho,_⟩,_⟩:=I.loc;exact free _ o (λz=>(hch _ z).2.1 rfl) ho I.free
 ·obtain⟨v,o,ho,hd⟩:=I.cell x c e;exact free c o (λz=>(hch c z).2.2.1 x c e rfl) ho (I.fN x c e)
 ·obtain⟨e,n,ne,nf,d⟩:=I.pin p hp;have jj:p.1∉ch:=λz=>(hch p.1 z).2.2.2 p hp rfl
  exact⟨keep p.1 p.2 ne nf jj e n,free p.1 p.2 jj e n,ne,nf,d⟩
theorem Inv.un{t':Nat}(I:Inv X pins σ H s) (u:Un X.fs [] H H' s.heap h') (hok:cL X.prog X.w H' h'):Inv X pins σ H' {s with heap:=h',toks:=t'}:=by
 obtain⟨m,⟨o,es,ep,ho,r⟩,_⟩:=id I.loc;obtain⟨sl,hL⟩:=u.any ho I.free (by simp)
 exact I.step (g':=s.gens) (d':=s.drawn) (ch:=[]) (λ_ z=>nomatch z) (λb o _ hb _ e n=>u.keep b o e n hb (by simp)) (λb o _ hb _ e n=>u.slot b o e n hb (by simp)) (λb o _ e n=>u.free b o e n (by simp)) (λb o _ e=>u.there b o e (by simp)) u.tups u.gK u.gD (λm' hm=>by
  obtain⟨o',es',Em,ho',r'⟩:=hm;rw[ho]at ho';cases ho';exact⟨_,es',Em,hL,r'⟩) hok I.bare
theorem Inv.call{g':Array abc}{t':Nat}{d':Drawn}{ch:List Ω}(I:Inv X pins σ H s) (u:Un (frs X.stack) ch H H' s.heap h') (hok:cL X.prog X.w H' h') (hg:aa0 g')
  (hch:∀b∈ch,(b∈X.ex\/X.s₀.heap.objs.size<=b)/\b≠X.env.locals/\(∀x c,X.env.cells.lookup x=ζ c->c≠b)/\∀p∈X.pn++pins,p.1≠b) :
  Inv X pins σ H' {s with heap:=h',gens:=g',drawn:=d',toks:=t'}:=by
 obtain⟨m,⟨o,es,ep,ho,r⟩,_⟩:=id I.loc;obtain⟨sl,hL⟩:=u.any ho I.free λz=>(hch _ z).2.1 rfl
 exact I.step (ch:=ch) hch (λb o hL hb hc e n=>u.keep b o e n (λz=>(aio.mp (I.nL b z)).elim hL hb) hc) (λb o _ _ hc e n=>u.any e n hc) (λb o hc e n=>u.free b o e n hc) (λb o hc e=>u.there b o e hc) u.tups u.gK u.gD (λm' hm=>by
  obtain⟨o',es',Em,ho',r'⟩:=hm;rw[ho]at ho';cases ho';exact⟨_,es',Em,hL,r'⟩) hok hg
theorem Inv.turned{t':Nat}{it:Ω}(I:Inv X pins σ H s) (k:∀b o,b≠it->s.heap.get? b=ζ o->h'.get? b=ζ o) (hn:H it=θ) (hL:it≠X.env.locals)
  (h1:it∈X.ex\/X.s₀.heap.objs.size<=it) (h2:∀x c,X.env.cells.lookup x=ζ c->c≠it) (h3:∀p∈X.pn++pins,p.1≠it):Inv X pins σ H {s with heap:=h',toks:=t'}:=by
 have Jl:∀b u,H b=ζ u->b≠it:=λb u e z=>by rw[z,hn]at e;cases e
 refine I.step (g':=s.gens) (d':=s.drawn) (ch:=[it]) (λb hb=>?_) (λb o _ _ hc e _=>k b o (λz=>hc (by simp[z])) e) (λb o _ _ hc e _=>⟨o.slots,k b o (λz=>hc (by simp[z])) e⟩) (λ_ _ _ _ n=>n)
  (λb o hc e=>⟨o,k b o (λz=>hc (by simp[z])) e⟩) (λ_ _ e=>e) (λ_ _ _ e=>e) (λb ps e=>⟨#[],by rw[e];simp⟩) (λm hm=>?_) (λb u e=>?_) I.bare
 ·have e:b=it:=by simpa using hb
  subst e;exact⟨h1,hL,h2,h3⟩
 ·obtain⟨o,es,ep,ho,r⟩:=hm;exact⟨o,es,ep,k _ o (aja hL) ho,r⟩
 ·refine(I.hok b u e).stay (λc v hc q=>k c v ?_ q) (λ_ q=>q) λ_ _ q=>q
  rcases hc with z|z
  ·rw[z];exact Jl b u e
  ·exact Jl c _ z
theorem Inv.tok(I:Inv X pins σ H s) (t:Nat):Inv X pins σ H {s with toks:=t}:=I.un (h':=s.heap) (t':=t) Un.refl I.hok
theorem Inv.kept{t':Nat}(I:Inv X pins σ H s) (k:∀b u,s.heap.get? b=ζ u->h'.get? b=ζ u):Inv X pins σ H {s with heap:=h',toks:=t'}:=I.un (Un.kept k) (I.hok.kept k)
theorem Inv.laid{a:Ω}{o:HO}{t':Nat}(I:Inv X pins σ H s) (k:∀b u,s.heap.get? b=ζ u->h'.get? b=ζ u) (hp:s.heap.objs.size<=a) (new:eK X.prog X.w (upd H a o) h' a o) :
  Inv X pins σ (upd H a o) {s with heap:=h',toks:=t'}:=I.un (Un.laid k hp (I.hok.fresh hp)) (I.hok.laid k hp new)
theorem Inv.write{x e:Ω}{o:HO}{t':Nat}(I:Inv X pins σ H s) (mu:zL (H x)) (he:e=x\/H e=ζ (.own x)) (k:∀b u,b≠e->s.heap.get? b=ζ u->h'.get? b=ζ u) (rj:∃u,h'.get? e=ζ u)
  (new:eK X.prog X.w (upd H x o) h' x o):Inv X pins σ (upd H x o) {s with heap:=h',toks:=t'}:=I.un (Un.write mu he k rj) (I.hok.write mu he k rj new)
theorem Inv.wL{qG:List (Ω×Obj)}(I:Inv X pins σ H s) (h:∀p∈qG,s.heap.get? p.1=ζ p.2/\H p.1=θ/\p.1≠X.env.locals/\p.1∉X.fs/\∀v,p.2.data≠.cell v):Inv X qG σ H s :=
 ⟨I.ok,I.os,I.bare,I.base,I.loc,I.cell,I.free,I.fN,λp hp=>(aiK.mp hp).elim (λz=>I.pin p (ak2 _ z)) (h p),I.hok,I.len⟩
theorem Jd{N:List Str}(hN:N.Nodup) {i j:Nat}{x:Str}(a:N[i]? = ζ x) (b:N[j]? = ζ x):i=j:=by
 obtain⟨h1,e1⟩:=aix.mp a;obtain⟨h2,e2⟩:=aix.mp b;exact(akr hN).mp (e1.trans e2.symm)
theorem Qo{M:Model}{A:ω}{E:Ξ->ε->Prop}{i:Nat}{x:Str}{v:V}{u:Ξ}{Q:Unit->ε->Prop}(I:Inv X pins σ H s) (hN:X.N.Nodup) (hi:X.N[i]? = ζ x) (hx:Loc X.env.scope x) (r:RelV v u)
  (h:∀s',Inv X pins (σ.set i (ζ v)) H s'->(∃a,aaV a s.heap s'.heap/\(a=X.env.locals\/X.env.cells.lookup x=ζ a))->Q () s') (hf:X.fn x=Θ\/X.env.scope.names.lookup x=ζ .local:=by first|exact .inl rfl|exact .inr rfl|assumption):wpAny M A (storeName X.env x u) Q E s:=by
 obtain⟨m,hn,hl⟩:=id I.loc;have hcls:(X.env.scope.kind == .class||(X.env.scope.kind == .module&&X.env.locals != X.env.globals))=Ψ:=by rw[I.ok.kind];rfl
 have KH:i<σ.length:=by rw[I.len];exact(aix.mp hi).1
 have oQ:=I.oQ;have tracked:∀{a:Ω}{h':χ},(∃o,s.heap.get? a=ζ o/\H a=θ)->aaV a s.heap h'->cL X.prog X.w H h':=fun{a h'} ha hs b ob e=>by
  obtain⟨_,_,hfree⟩:=ha;refine(I.hok b ob e).stay (λc w' hc q=>(hs.2 c ?_).trans q) (λ_ q=>q) λ_ _ q=>q
  rintro rfl
  rcases hc with rfl|hc
  ·rw[hfree]at e;cases e
  ·rw[hfree]at hc;cases hc
 rcases hx with hk|hk
 ·refine wpAny_storeName_local hk hn (λh' hn' hs=>?_) hcls
  obtain⟨oL,_,_,uO,_⟩:=id hn;refine h _ ⟨I.ok,I.os,I.bare,⟨λb o e n hb hx=>?_,λb o e n hb hx=>?_,I.base.free,λb o e hx=>?_,I.base.tups,I.base.gK,I.base.gD⟩,⟨_,hn',λj y v' e1 e2 e3=>?_⟩,λy c e=>?_,I.free,I.fN,λp hp=>?_,tracked ⟨oL,uO,I.free⟩ hs,by simpa using I.len⟩ ⟨_,hs,.inl rfl⟩
  ·exact(hs.2 b (aiq (aiz (aim e) I.ok.above))).trans (I.base.keep b o e n hb hx)
  ·obtain⟨sl,e1⟩:=I.base.slot b o e n hb hx;exact⟨sl,(hs.2 b (aiq (aiz (aim e) I.ok.above))).trans e1⟩
  ·obtain⟨o',e1⟩:=I.base.there b o e hx;exact⟨o',(hs.2 b (aiq (aiz (aim e) I.ok.above))).trans e1⟩
  ·by_cases hj:j=i
   ·subst hj;rw[hi]at e1;cases e1;rw[ai5 KH]at e2;cases e2;exact⟨u,r,.inl ⟨hk,by simp⟩⟩
   ·rw[aiX (aja hj)]at e2;obtain⟨u',r',q⟩:=hl j y v' e1 e2 e3;refine⟨u',r',?_⟩
    rcases q with⟨k,e⟩|⟨k,c,e,z⟩
    ·refine .inl ⟨k,?_⟩;have:y≠x:=λe=>hj (Jd hN e1 (e▸hi))
     simp[this,e]
    ·exact .inr ⟨k,c,e,z.sameBut hs (oQ y c e)⟩
  ·obtain⟨w',z⟩:=I.cell y c e;exact⟨w',z.sameBut hs (oQ y c e)⟩
  ·obtain⟨e,n,ne,nf,d⟩:=I.pin p hp;exact⟨(hs.2 p.1 ne).trans e,n,ne,nf,d⟩
 ·have hfn:X.fn x=Θ:=by
   rcases hf with z|z
   ·exact z
   ·rw[z]at hk;cases hk
  obtain⟨c,hc⟩:=I.ok.has x (.inl hk);obtain⟨w',z⟩:=I.cell x c hc;refine wpAny_storeName_cell I.ok.kind hk hc z (λh' hc' hs=>?_)
  obtain⟨oc,hoc,aa4⟩:=id z;refine h {s with heap:=h'} ⟨I.ok,I.os,I.bare,⟨λb o e n hb hx=>?_,λb o e n hb hx=>?_,I.base.free,λb o e hx=>?_,I.base.tups,I.base.gK,I.base.gD⟩,⟨m,hn.sameBut hs (aja (oQ x c hc)),λj y v' e1 e2 e3=>?_⟩,λy c' e=>?_,I.free,I.fN,λp hp=>?_,tracked ⟨oc,hoc,I.fN x c hc⟩ hs,by simpa using I.len⟩ ⟨c,hs,.inr hc⟩
  ·exact(hs.2 b (aiq (aiz (aim e) (I.ok.jA x c hfn hc)))).trans (I.base.keep b o e n hb hx)
  ·obtain⟨sl,e1⟩:=I.base.slot b o e n hb hx;exact⟨sl,(hs.2 b (aiq (aiz (aim e) (I.ok.jA x c hfn hc)))).trans e1⟩
  ·obtain⟨o',e1⟩:=I.base.there b o e hx;exact⟨o',(hs.2 b (aiq (aiz (aim e) (I.ok.jA x c hfn hc)))).trans e1⟩
  ·by_cases hj:j=i
   ·subst hj;rw[hi]at e1;cases e1;rw[ai5 KH]at e2;cases e2;exact⟨u,r,.inr ⟨.inl hk,c,hc,hc'⟩⟩
   ·rw[aiX (aja hj)]at e2;obtain⟨u',r',q⟩:=hl j y v' e1 e2 e3;refine⟨u',r',?_⟩
    rcases q with q|⟨k,c',e,z'⟩
    ·exact .inl q
    ·refine .inr ⟨k,c',e,z'.sameBut hs ?_⟩
     rintro rfl
     exact hj (Jd hN e1 (I.ok.inj _ _ _ e hc▸hi))
  ·by_cases hcc:c'=c
   ·subst hcc;exact⟨_,hc'⟩
   ·obtain⟨w2,z2⟩:=I.cell y c' e;exact⟨w2,z2.sameBut hs hcc⟩
  ·obtain⟨e,n,ne,nf,d⟩:=I.pin p hp;refine⟨(hs.2 p.1 ?_).trans e,n,ne,nf,d⟩;intro q;rw[q,hoc]at e;have q':oc=p.2:=aiH e;exact d w' (by rw[<-q'];exact aa4)
theorem Ax{M:Model}{A:ω}{E:Ξ->ε->Prop}{i:Nat}{x:Str}{v:V}{u:Ξ}{Q:Unit->ε->Prop}(I:Inv X pins σ H s) (hN:X.N.Nodup) (hi:X.N[i]? = ζ x) (hx:Loc X.env.scope x) (r:RelV v u)
  (h:∀s',Inv X pins (σ.set i (ζ v)) H s'->Q () s') (hf:X.fn x=Θ\/X.env.scope.names.lookup x=ζ .local:=by first|exact .inl rfl|exact .inr rfl|assumption):wpAny M A (storeName X.env x u) Q E s :=
 Qo I hN hi hx r (λs' I' _=>h s' I') hf
theorem Inv.afa{s':ε}{ch:List Ω}(I:Inv X pins σ H s) (ho:s'.os=s.os) (u:Un (frs X.stack) ch H H' s.heap s'.heap) (hok:cL X.prog X.w H' s'.heap) (hg:aa0 s'.gens)
  (hch:∀b∈ch,(b∈X.ex\/X.s₀.heap.objs.size<=b)/\b≠X.env.locals/\(∀x c,X.env.cells.lookup x=ζ c->c≠b)/\∀p∈X.pn++pins,p.1≠b):Inv X pins σ H' s':=by
 obtain⟨h',g',d',t',o'⟩:=s';have e:o'=s.os:=ho;subst e;exact I.call (g':=g') (t':=t') (d':=d') u hok hg hch
end
abbrev XK:=Ξ->Option Ω->Hp->Prop
abbrev St:=List (Option V)
abbrev VK:=V->Hp->Prop
abbrev TE:=St->Hp->VK->Prop
abbrev TT:=St->Hp->(Bool->Hp->Prop)->Prop
abbrev TA:=St->Hp->(List V->Hp->Prop)->Prop
structure Ends where
 nx:St->Hp->Prop
 rt:VK
 bk:St->Hp->Prop:=λ_ _=>False
 ct:St->Hp->Prop:=λ_ _=>False
abbrev TS:=Ends->St->Hp->Prop
def EP(X:Cx) (pins:List (Ω×Obj)) (σ:St) (Q:VK) (u:Ξ) (s':ε):Prop:=∃v H',Inv X pins σ H' s'/\RelV v u/\Q v H'
def TP(X:Cx) (pins:List (Ω×Obj)) (σ:St) (Q:Bool->Hp->Prop) (b:Bool) (s':ε):Prop:=∃H',Inv X pins σ H' s'/\Q b H'
def AP(X:Cx) (pins:List (Ω×Obj)) (σ:St) (Q:List V->Hp->Prop) (us:List Ξ) (s':ε):Prop:=∃vs H',Inv X pins σ H' s'/\Vals vs us/\Q vs H'
def SP(X:Cx) (pins:List (Ω×Obj)) (D:Ends) (f:Flow) (s':ε):Prop :=
 match f with
 |.next=>∃σ' H',Inv X pins σ' H' s'/\D.nx σ' H'
 |.brk=>∃σ' H',Inv X pins σ' H' s'/\D.bk σ' H'
 |.cont=>∃σ' H',Inv X pins σ' H' s'/\D.ct σ' H'
 |.ret u=>∃v σ' H',Inv X pins σ' H' s'/\RelV v u/\D.rt v H'
def PE(X:Cx) (e:π) (t:TE):Prop :=
 ∀(pins:List (Ω×Obj)) (s:ε) (σ:St) (H:Hp) (Q:VK),Inv X pins σ H s->t σ H Q->wpAny (model X.prog X.w) X.A (eval e X.env) (EP X pins σ Q) X.xe s
def PT(X:Cx) (e:π) (t:TT):Prop :=
 ∀(pins:List (Ω×Obj)) (s:ε) (σ:St) (H:Hp) (Q:Bool->Hp->Prop),Inv X pins σ H s->t σ H Q->wpAny (model X.prog X.w) X.A (isTrue e X.env (eval e X.env)) (TP X pins σ Q) X.xe s
def PW(X:Cx) (e:π) (t:TT):Prop :=
 ∀(whole:Sem Ξ) (pins:List (Ω×Obj)) (s:ε) (σ:St) (H:Hp) (Q:Bool->Hp->Prop),Inv X pins σ H s->t σ H Q->wpAny (model X.prog X.w) X.A (isTrue e X.env whole) (TP X pins σ Q) X.xe s
theorem PW.pt{X:Cx}{e:π}{t:TT}(h:PW X e t):PT X e t:=h _
def PA(X:Cx) (es:List π) (t:TA):Prop :=
 ∀(pos:Pos) (pins:List (Ω×Obj)) (s:ε) (σ:St) (H:Hp) (Q:List V->Hp->Prop),Inv X pins σ H s->t σ H Q->wpAny (model X.prog X.w) X.A (spliced (aaQ pos (μ es X.env))) (AP X pins σ Q) X.xe s
def PS(X:Cx) (st:aaM) (t:TS):Prop :=
 ∀(pins:List (Ω×Obj)) (s:ε) (σ:St) (H:Hp) (D:Ends),Inv X pins σ H s->t D σ H->wpAny (model X.prog X.w) X.A (exec st X.env) (SP X pins D) X.xe s
def eu(X:Cx) (st:List aaM) (t:TS):Prop :=
 ∀(pins:List (Ω×Obj)) (s:ε) (σ:St) (H:Hp) (D:Ends),Inv X pins σ H s->t D σ H->wpAny (model X.prog X.w) X.A (execs st X.env) (SP X pins D) X.xe s
theorem br{α:Type}{t:Sem α}{Q Q':α->ε->Prop}{M:Model}{A:ω}{E:Ξ->ε->Prop}{s:ε}(h:wpAny M A t Q E s) (hQ:∀a s,Q a s->Q' a s):wpAny M A t Q' E s:=aiO h hQ λ_ _ x=>x
section
variable {X:Cx}
def Pw(i:Nat):TE:=λσ H Q=>∃v,σ[i]? = ζ (ζ v)/\Q v H
def tC(v:V):TE:=λ_ H Q=>Q v H
theorem UI{i:Nat}{x:Str}{pos:Pos}(hN:X.N[i]? = ζ x) (hv:F3 X.env.scope x) (hd:(x==("__debug__":Str))=Ψ:=by decide) (hcd:(x==("__classdict__":Str))=Ψ:=by decide):PE X (.Name x pos) (Pw i):=by
 intro pins s σ H Q I h;obtain⟨v,e,h⟩:=h;obtain⟨m,hn,hl⟩:=I.loc;obtain⟨u,r,l⟩:=hl i x v hN e hv;have fin:EP X pins σ Q u s:=⟨v,H,I,r,h⟩
 rcases l with⟨hk,hm⟩|⟨hk,c,hc,hcell⟩
 ·exact wpAny_Name (wpAny_loadName_local I.ok.kind hk hn hm fin) hd
 ·rcases hk with hk|hk
  ·exact wpAny_Name (wpAny_loadName_cell I.ok.kind hk hc hcell fin) hd
  ·exact wpAny_Name (wpAny_loadName_free I.ok.kind hk hc hcell fin hcd) hd
theorem UT{i j pos}:PE X (.Constant (.int i) j pos) (tC (.int i)):=λ_ _ _ H _ I h=>wpAny_Constant_int ⟨.int i,H,I.tok _,⟨_,rfl⟩,h⟩
theorem U1{b j pos}:PE X (.Constant (.bool b) j pos) (tC (.bl b)):=λ_ _ _ H _ I h=>Constant_bool ⟨.bl b,H,I,rfl,h⟩
theorem UR{j pos}:PE X (.Constant .none j pos) (tC .aM):=λ_ _ _ H _ I h=>Constant_none ⟨.aM,H,I,rfl,h⟩
theorem UL{x j pos}:PE X (.Constant (.str x) j pos) (tC (.str x)):=λ_ _ _ H _ I h=>Calls.Constant_str ⟨.str x,H,I.tok _,⟨_,rfl⟩,h⟩
def Gl(X:Cx) (x:Str):Prop:=X.env.kindOf x=ζ .globalImplicit
theorem uH{E:Ξ->ε->Prop}{pins:List (Ω×Obj)}{s:ε}{σ:St}{H:Hp}{x:Str}{u:Ξ}{pos:Pos}{Q:Ξ->ε->Prop}(I:Inv X pins σ H s) (hg:Gl X x) (hm:X.mg x=ζ u) (h:Q u s)
  (hd:(x==("__debug__":Str))=Ψ:=by decide):wpAny (model X.prog X.w) X.A (eval (.Name x pos) X.env) Q E s :=
 alO I.ok.kind hg (Calls.loadGlobal_global (by rw[I.ok.glob];exact I.mod.glob.keeps I.bk) hm h) hd
theorem om{E:Ξ->ε->Prop}{pins:List (Ω×Obj)}{s:ε}{σ:St}{H:Hp}{x:Str}{u:Ξ}{pos:Pos}{Q:Ξ->ε->Prop}(I:Inv X pins σ H s) (hg:Gl X x) (hm:X.mg x=θ) (hv:bootBuiltins x=ζ u) (h:Q u s)
  (hn:x≠"__name__":=by decide) (hd:(x==("__debug__":Str))=Ψ:=by decide):wpAny (model X.prog X.w) X.A (eval (.Name x pos) X.env) Q E s:=by
 obtain⟨mb,h1,h2⟩:=I.mod.blt;exact alO I.ok.kind hg (Calls.loadGlobal_builtin (by rw[I.ok.glob];exact I.mod.glob.keeps I.bk) hm (by rw[I.ok.blt];exact h1.keeps I.bk) ((h2 x hn).trans hv) h) hd
theorem Ig{x:Str}{v:V}{u:Ξ}{pos:Pos}(hg:Gl X x) (hm:X.mg x=ζ u) (r:RelV v u) (hd:(x==("__debug__":Str))=Ψ:=by decide):PE X (.Name x pos) (tC v) :=
 λ_ _ _ H _ I h=>uH I hg hm ⟨v,H,I,r,h⟩ hd
theorem U0{x:Str}{v:V}{u:Ξ}{pos:Pos}(hg:Gl X x) (hm:X.mg x=θ) (hv:bootBuiltins x=ζ u) (r:RelV v u) (hn:x≠"__name__":=by decide) (hd:(x==("__debug__":Str))=Ψ:=by decide):PE X (.Name x pos) (tC v) :=
 λ_ _ _ H _ I h=>om I hg hm hv ⟨v,H,I,r,h⟩ hn hd
variable {a b:π}{ta tb:TE}{pos:Pos}
def tB(t:TE):TT:=λσ H Q=>t σ H λx H1=>∃c,x=.bl c/\Q c H1
theorem SW{e:π}{t:TE}(h:PE X e t) (he:∀whole,isTrue e X.env whole=(do let v <-whole;standAt e.pos;holding [v] (truthy v)):=by intro _;rfl):PT X e (tB t):=by
 intro pins s σ H Q I hw;refine isTrue_plain (br (h pins s σ H _ I hw) λv s1 ⟨x,H1,I1,r1,q1⟩=>?_) (he _)
 obtain⟨d,rfl,q⟩:=q1;cases r1;exact aju ⟨H1,I1,q⟩
variable {tA wc:TT}{rest:List π}
def P9(t u:TT):TT:=λσ H Q=>t σ H λc H1=>if c=Θ then u σ H1 Q else Q Ψ H1
def PD(t u:TT):TT:=λσ H Q=>t σ H λc H1=>if c=Θ then Q Θ H1 else u σ H1 Q
def PJ(t:TT):TT:=λσ H Q=>t σ H λc H1=>Q (!c) H1
theorem SQ(ha:PT X a tA):PW X (.BoolOp .And [a] pos) tA:=by
 intro wh pins s σ H Q I h;refine isTrue_and (br (ha pins s σ H Q I h) λc s1 e=>?_)
 cases c with
 |true=>exact isTrue_and_nil e
 |false=>exact e
theorem SN(ha:PT X a tA):PW X (.BoolOp .Or [a] pos) tA:=by
 intro wh pins s σ H Q I h;refine isTrue_or (br (ha pins s σ H Q I h) λc s1 e=>?_)
 cases c with
 |false=>exact isTrue_or_nil e
 |true=>exact e
theorem SR(ha:PT X a tA) (hb:PW X (.BoolOp .And (b::rest) pos) wc):PW X (.BoolOp .And (a::b::rest) pos) (P9 tA wc):=by
 intro wh pins s σ H Q I h;refine isTrue_and (br (ha pins s σ H _ I h) λc s1 ⟨H1,I1,q1⟩=>?_)
 cases c with
 |true=>exact hb wh pins s1 σ H1 Q I1 q1
 |false=>exact⟨H1,I1,q1⟩
theorem SO(ha:PT X a tA) (hb:PW X (.BoolOp .Or (b::rest) pos) wc):PW X (.BoolOp .Or (a::b::rest) pos) (PD tA wc):=by
 intro wh pins s σ H Q I h;refine isTrue_or (br (ha pins s σ H _ I h) λc s1 ⟨H1,I1,q1⟩=>?_)
 cases c with
 |true=>exact⟨H1,I1,q1⟩
 |false=>exact hb wh pins s1 σ H1 Q I1 q1
theorem SX(ha:PT X a tA):PT X (.UnaryOp .Not a pos) (PJ tA):=by
 intro pins s σ H Q I h;exact isTrue_not (ha pins s σ H (λc H1=>Q (!c) H1) I h)
def P8(ta tb:TE):TE:=λσ H Q=>ta σ H λx H1=>∃c,x=.bl c/\if c=Θ then tb σ H1 Q else Q (.bl Ψ) H1
def PF(ta:TE):TE:=λσ H Q=>ta σ H λx H1=>∃c,x=.bl c/\Q (.bl (!c)) H1
theorem UP{op}{t:TE}(h:PE X a t):PE X (.BoolOp op [a] pos) t:=λpins s σ H Q I hw=>BoolOp_one (h pins s σ H Q I hw)
theorem U3(ha:PE X a ta) (hb:PE X (.BoolOp .And (b::rest) pos) tb):PE X (.BoolOp .And (a::b::rest) pos) (P8 ta tb):=by
 intro pins s σ H Q I h;refine BoolOp_and (br (ha pins s σ H _ I h) λv s1 ⟨x,H1,I1,r1,q1⟩=>?_)
 obtain⟨c,rfl,q1⟩:=q1;cases r1;refine aju ?_;cases c with
 |true=>exact hb pins s1 σ H1 Q I1 q1
 |false=>exact⟨.bl Ψ,H1,I1,rfl,q1⟩
theorem UQ(ha:PE X a ta):PE X (.UnaryOp .Not a pos) (PF ta):=by
 intro pins s σ H Q I h;refine UnaryOp_ (br (ha pins s σ H _ I h) λv s1 ⟨x,H1,I1,r1,q1⟩=>?_)
 obtain⟨c,rfl,q1⟩:=q1;cases r1;exact not_of (aju ⟨.bl (!c),H1,I1,rfl,q1⟩)
def PV(t:TT) (ta tb:TE):TE:=λσ H Q=>t σ H λc H1=>if c=Θ then ta σ H1 Q else tb σ H1 Q
theorem UU{c:π}(hc:PT X c tA) (ha:PE X a ta) (hb:PE X b tb):PE X (.IfExp c a b pos) (PV tA ta tb):=by
 intro pins s σ H Q I h;refine wpAny_IfExp (br (hc pins s σ H _ I h) λd s1 ⟨H1,I1,q1⟩=>?_)
 cases d with
 |true=>exact ha pins s1 σ H1 Q I1 q1
 |false=>exact hb pins s1 σ H1 Q I1 q1
end
def bJ(K:Δ) (H:Hp) (a:Ω) (xs:List V):Prop :=
 Rd H a (.lst xs) \/
  ∃(o:Obj) (its:Array Ξ) (n:Nat),K.lookup a=ζ o/\o.cls=.type "list"/\o.dict=θ/\o.data=.seq its n/\its.size<=ι/\Vals xs its.toList
def dg(K:Δ) (H:Hp) (a:Ω) (xs:List V):Prop :=
 Rd H a (.tup xs) \/
  ∃(o:Obj) (its:Array Ξ) (n:Nat),K.lookup a=ζ o/\o.cls=.type "tuple"/\o.data=.seq its n/\its.size<=ι/\Vals xs its.toList
def agv:Ξ->Option V
 |.none=>ζ .aM
 |.bool b=>ζ (.bl b)
 |.int i _=>ζ (.int i)
 |.str x _=>ζ (.str x)
 |.bytes b _=>ζ (.jB b)
 |.float b _=>ζ (.rC b)
 |.ref a=>ζ (.ref a)
 |.type n=>ζ (.ty n)
 |_=>θ
theorem RelV.abs{x:V}{u:Ξ}(r:RelV x u):agv u=ζ x:=by
 cases x with
 |aM=>cases r;rfl
 |bl _=>cases r;rfl
 |int _=>obtain⟨t,rfl⟩:=r;rfl
 |str _=>obtain⟨t,rfl⟩:=r;rfl
 |jB _=>obtain⟨t,rfl⟩:=r;rfl
 |rC _=>obtain⟨t,rfl⟩:=r;rfl
 |ref _=>cases r;rfl
 |ty _=>cases r;rfl
theorem RelV.inj{x y:V}{u:Ξ}(r:RelV x u) (q:RelV y u):x=y:=aiH (r.abs.symm.trans q.abs)
theorem Vals.inj:∀{xs ys:List V}{us:List Ξ},Vals xs us->Vals ys us->xs=ys
 |_,_,_,.nil,.nil=>rfl
 |_,_,_,.cons r t,.cons r' t'=>by rw[r.inj r',Vals.inj t t']
section
variable {X:Cx}{pins:List (Ω×Obj)}{σ:St}{H:Hp}{s:ε}{a:Ω}{xs ys:List V}
theorem bJ.of{K:Δ}(h:H a=ζ (.lst xs)):bJ K H a xs:=.inl (.inl h)
theorem dg.of{K:Δ}(h:H a=ζ (.tup xs)):dg K H a xs:=.inl (.inl h)
theorem Inv.list(I:Inv X pins σ H s) (h:bJ X.K H a xs):∃its:List Ξ,Vals xs its/\PlainL s.heap a its.toArray/\xs.length<=ι:=by
 rcases h with h|⟨o,its,n,hk,hc,hd,hs,hz,r⟩
 ·obtain⟨z,its,n,r,e⟩:=h.ok I.hok;exact⟨its,r,⟨_,n,e,rfl,rfl,rfl⟩,z⟩
 ·refine⟨its.toList,r,⟨o,n,I.dU a o hk,hc,hd,by simpa using hs⟩,?_⟩
  have e:=r.length;simp only[aiB]at e;omega
theorem Inv.tuple(I:Inv X pins σ H s) (h:dg X.K H a xs):∃its:List Ξ,Vals xs its/\IsTup s.heap a its.toArray/\xs.length<=ι:=by
 rcases h with h|⟨o,its,n,hk,hc,hs,hz,r⟩
 ·obtain⟨z,its,r,p⟩:=h.ok I.hok;exact⟨its,r,p.tup,z⟩
 ·refine⟨its.toList,r,⟨o,I.dU a o hk,hc,n,by simpa using hs⟩,?_⟩
  have e:=r.length;simp only[aiB]at e;omega
theorem Inv.JT(I:Inv X pins σ H s) (h:bJ X.K H a xs) (h':bJ X.K H a ys):xs=ys:=by
 obtain⟨its,r,⟨o,n,e,_,_,d⟩,_⟩:=I.list h;obtain⟨its',r',⟨o',n',e',_,_,d'⟩,_⟩:=I.list h';rw[e]at e';cases e';rw[d]at d'
 injection d' with d1 _
 have:its=its':=by simpa using congrArg Array.toList d1
 subst this;exact r.inj r'
theorem Inv.Pd(I:Inv X pins σ H s) (h:dg X.K H a xs) (h':dg X.K H a ys):xs=ys:=by
 obtain⟨its,r,⟨o,e,_,n,d⟩,_⟩:=I.tuple h;obtain⟨its',r',⟨o',e',_,n',d'⟩,_⟩:=I.tuple h';rw[e]at e';cases e';rw[d]at d'
 injection d' with d1 _
 have:its=its':=by simpa using congrArg Array.toList d1
 subst this;exact r.inj r'
end
abbrev Cx.ig(X:Cx) (E:Ξ->ε->Prop):Cx:={X with xe:=E}
abbrev Cx.fH(X:Cx):Cx:=X.ig λ_ _=>False
theorem Cx.Ok.ig{X:Cx}(ok:X.Ok) (E:Ξ->ε->Prop):(X.ig E).Ok :=
 ⟨ok.mod,ok.kind,ok.glob,ok.blt,ok.above,ok.inj,ok.has,ok.jA,ok.hd,ok.frames,ok.stk,ok.kP,ok.bs,ok.gV,ok.iP,ok.jT,ok.gv,ok.jv⟩
theorem Cx.Ok.i8{X:Cx}{E:Ξ->ε->Prop}(ok:(X.ig E).Ok):X.Ok :=
 ⟨ok.mod,ok.kind,ok.glob,ok.blt,ok.above,ok.inj,ok.has,ok.jA,ok.hd,ok.frames,ok.stk,ok.kP,ok.bs,ok.gV,ok.iP,ok.jT,ok.gv,ok.jv⟩
section
variable {X:Cx}{pins:List (Ω×Obj)}{σ:St}{H:Hp}{s:ε}{E:Ξ->ε->Prop}
theorem Inv.ig(I:Inv X pins σ H s) (E:Ξ->ε->Prop):Inv (X.ig E) pins σ H s:=⟨I.ok.ig E,I.os,I.bare,I.base,I.loc,I.cell,I.free,I.fN,I.pin,I.hok,I.len⟩
theorem Inv.i8(I:Inv (X.ig E) pins σ H s):Inv X pins σ H s:=⟨I.ok.i8,I.os,I.bare,I.base,I.loc,I.cell,I.free,I.fN,I.pin,I.hok,I.len⟩
theorem SP.i8{D:Ends}{f:Flow}{s':ε}(h:SP (X.ig E) pins D f s'):SP X pins D f s':=by
 cases f with
 |next=>obtain⟨σ',H',I,q⟩:=h;exact⟨σ',H',I.i8,q⟩
 |brk=>obtain⟨σ',H',I,q⟩:=h;exact⟨σ',H',I.i8,q⟩
 |cont=>obtain⟨σ',H',I,q⟩:=h;exact⟨σ',H',I.i8,q⟩
 |ret u=>obtain⟨v,σ',H',I,r,q⟩:=h;exact⟨v,σ',H',I.i8,r,q⟩
theorem PT.fH{e:π}{t:TT}(h:PT X.fH e t):PT X e t:=λpins s σ H Q I hw =>
 aiO (h pins s σ H Q (I.ig _) hw) (λ_ _ ⟨H',I',q⟩=>⟨H',I'.i8,q⟩) λ_ _ z=>False.elim z
theorem eu.fH{st:List aaM}{t:TS}(h:eu X.fH st t):eu X st t:=λpins s σ H D I hw =>
 aiO (h pins s σ H D (I.ig _) hw) (λ_ _ q=>q.i8) λ_ _ z=>False.elim z
end
section
variable {X:Cx}{st:aaM}{rest:List aaM}{t u:TS}{e:π}{te:TE}{pos:Pos}
def PM:TS:=λD σ H=>D.nx σ H
def Pz(t u:TS):TS:=λD σ H=>t {D with nx:=u D} σ H
theorem S2:eu X [] PM:=λ_ _ σ H _ I h=>aj3 ⟨σ,H,I,h⟩
theorem HQ(h1:PS X st t) (h2:eu X rest u):eu X (st::rest) (Pz t u):=by
 intro pins s σ H D I h;refine wpAny_execs_cons (br (h1 pins s σ H {D with nx:=u D} I h) λf s1 q=>?_)
 cases f with
 |next =>
  obtain⟨σ',H',I',q⟩:=q;exact h2 pins s1 σ' H' D I' q
 |ret v=>exact q
 |brk=>exact q
 |cont=>exact q
theorem S1(h1:PS X st t):eu X [st] t:=by
 intro pins s σ H D I h;refine wpAny_execs_cons (br (h1 pins s σ H D I h) λf s1 q=>?_)
 cases f with
 |next=>exact aj3 q
 |ret v=>exact q
 |brk=>exact q
 |cont=>exact q
theorem Inv.quiet{pins:List (Ω×Obj)}{σ:St}{H:Hp}{s:ε}(I:Inv X pins σ H s):interactive X.env=Ψ:=by simp[interactive,I.ok.kind]
def PZ(te:TE):TS:=λD σ H=>te σ H λ_ H1=>D.nx σ H1
theorem HU(he:PE X e te) (hs:swapsWith e θ pos.line X.env=pure Ψ:=by rfl):PS X (.Expr e pos) (PZ te):=by
 intro pins s σ H D I h;exact wpAny_Expr_any (br (he pins s σ H _ I h) λv s1 ⟨x,H1,I1,r1,q1⟩=>⟨σ,H1,I1,q1⟩) I.quiet hs
def PB(te:TE):TS:=λD σ H=>te σ H D.rt
theorem S8(he:PE X e te):PS X (.Return (ζ e) pos) (PB te):=by
 intro pins s σ H D I h;exact wpAny_Return_some (br (he pins s σ H _ I h) λv s1 ⟨x,H1,I1,r1,q1⟩=>⟨x,σ,H1,I1,r1,q1⟩)
def PU(c:TT) (t u:TS):TS:=λD σ H=>c σ H λb H1=>if b=Θ then t D σ H1 else u D σ H1
theorem HR{c:π}{a b:List aaM}{tc:TT}(hc:PT X c tc) (ha:eu X a t) (hb:eu X b u):PS X (.If c a b pos) (PU tc t u):=by
 intro pins s σ H D I h;refine wpAny_If (br (hc pins s σ H _ I h) λd s1 ⟨H1,I1,q1⟩=>?_)
 cases d with
 |true=>exact ha pins s1 σ H1 D I1 q1
 |false=>exact hb pins s1 σ H1 D I1 q1
end
abbrev TG:=V->St->Hp->(St->Hp->Prop)->Prop
abbrev l5:=List V->St->Hp->(St->Hp->Prop)->Prop
def PG(X:Cx) (target:π) (t:TG):Prop :=
 ∀(pins:List (Ω×Obj)) (s:ε) (σ:St) (H:Hp) (v:V) (u:Ξ) (Q:St->Hp->Prop),Inv X pins σ H s->RelV v u->t v σ H Q ->
  wpAny (model X.prog X.w) X.A (assign target X.env u) (λ_ s'=>∃σ' H',Inv X pins σ' H' s'/\Q σ' H') X.xe s
def nC(X:Cx) (ts:List π) (t:l5):Prop :=
 ∀(pins:List (Ω×Obj)) (s:ε) (σ:St) (H:Hp) (vs:List V) (us:List Ξ) (Q:St->Hp->Prop),Inv X pins σ H s->Vals vs us->t vs σ H Q ->
  wpAny (model X.prog X.w) X.A (assignInOrder ((assignEach ts X.env).map (·.2)) us) (λ_ s'=>∃σ' H',Inv X pins σ' H' s'/\Q σ' H') X.xe s
abbrev F4:=V->V->V->Hp->(Hp->Prop)->Prop
def Nn(X:Cx) (t:F4):Prop :=
 ∀(pins:List (Ω×Obj)) (s:ε) (σ:St) (H:Hp) (o i v:V) (ov iv u:Ξ) (Q:Hp->Prop),Inv X pins σ H s->RelV o ov->RelV i iv->RelV v u->t o i v H Q ->
  wpAny (model X.prog X.w) X.A (setItem ov iv u) (λ_ s'=>∃H',Inv X pins σ H' s'/\Q H') X.xe s
section
variable {X:Cx}{pos:Pos}
def Le(i:Nat):TG:=λv σ H Q=>Q (σ.set i (ζ v)) H
theorem UG{i:Nat}{x:Str}(hN:X.N.Nodup) (hi:X.N[i]? = ζ x) (hx:Loc X.env.scope x) (hf:X.fn x=Θ\/X.env.scope.names.lookup x=ζ .local:=by first|exact .inl rfl|exact .inr rfl|assumption):PG X (.Name x pos) (Le i):=by
 intro pins s σ H v u Q I r h;exact wpAny_assign_Name (Ax I hN hi hx r (λs' I'=>⟨_,H,I',h⟩) hf)
def abV:l5:=λvs σ H Q=>vs=[]/\Q σ H
def abW(t:TG) (u:l5):l5:=λvs σ H Q=>∃v r,vs=v::r/\t v σ H λσ' H'=>u r σ' H' Q
theorem UB:nC X [] abV:=by
 intro pins s σ H vs us Q I r h;obtain⟨e,h⟩:=h;subst e;cases r;exact assignInOrder_nil ⟨σ,H,I,h⟩
theorem UC{e:π}{es:List π}{t:TG}{u:l5}(h1:PG X e t) (h2:nC X es u)
  (hs:(assignEach (e::es) X.env).map (·.2)=assign e X.env::(assignEach es X.env).map (·.2):=by rfl):nC X (e::es) (abW t u):=by
 intro pins s σ H vs us Q I r h;obtain⟨v,vr,e1,h⟩:=h;subst e1;cases r with
 |cons r rr =>
  rw[hs];refine assignInOrder_cons (br (h1 pins s σ H _ _ _ I r h) λ_ s1 ⟨σ1,H1,I1,q1⟩=>?_)
  exact h2 pins s1 σ1 H1 _ _ Q I1 rr q1
def abT(K:Δ) (n:Nat) (t:l5):TG:=λv σ H Q=>∃a xs,v=.ref a/\dg K H a xs/\xs.length=n/\t xs σ H Q
theorem UD{es:List π}{k:Nat}{t:l5}{n:Nat}(hc:X.calm=Θ) (h:nC X es t)
  (hn:(assignEach es X.env).length=n:=by rfl) (hst:(assignEach es X.env).findIdx? (·.1)=θ:=by rfl):PG X (.Tuple es k pos) (abT X.K n t):=by
 intro pins s σ H v u Q I r hw;obtain⟨a,xs,e1,hq,hl,hw⟩:=hw;subst e1;cases r;obtain⟨its,rv,ht,hz⟩:=I.tuple hq;refine assign_Tuple_tuple (I.ok.hd hc) ht (by simp[hn,<-hl,rv.length]) hst λh' hx=>?_
 have I1:Inv X pins σ H {s with heap:=h'}:=I.kept (t':=s.toks) λb o e=>hx b o (aiq (aim e)) e
 exact h pins _ σ H xs _ Q I1 (by simpa using rv) hw
def abU(to ti:TE) (t:F4):TG:=λv σ H Q=>to σ H λo H1=>ti σ H1 λi H2=>t o i v H2 λH3=>Q σ H3
theorem UE{o i:π}{to ti:TE}{t:F4}(ho:PE X o to) (hi:PE X i ti) (hs:Nn X t)
  (ha:∀v,assign (.Subscript o i pos) X.env v=(do
   let ov <-holding [v] (eval o X.env)
   let iv <-holding [v,ov] (eval i X.env)
   standAt pos
   holding [v,ov,iv] (setItem ov iv v)
   release [v,ov,iv] []):=by intro _;rfl):PG X (.Subscript o i pos) (abU to ti t):=by
 intro pins s σ H v u Q I r h;rw[ha];refine aih (aje (br (ho pins s σ H _ I h) λov s1 ⟨x,H1,I1,r1,q1⟩=>?_))
 refine aih (aje (br (hi pins s1 σ H1 _ I1 q1) λiv s2 ⟨y,H2,I2,r2,q2⟩=>?_))
 refine aih (wpAny_standAt (aih (aje (br (hs pins s2 σ H2 x y v ov iv u _ I2 r1 r2 r q2) λ_ s3 ⟨H3,I3,q3⟩=>?_))))
 exact wpAny_release ⟨σ,H3,I3,q3⟩
def G7(te:TE) (g:TG):TS:=λD σ H=>te σ H λx H1=>g x σ H1 D.nx
theorem Td{tg e:π}{te:TE}{g:TG}(he:PE X e te) (hg:PG X tg g) (hs:swapsWithSole [tg] e pos.line X.env=pure Ψ:=by rfl) (hw:swappedStores [tg] e X.env=pure θ:=by rfl)
  (h1:(assignEach [tg] X.env).map (·.2)=[assign tg X.env]:=by rfl):PS X (.Assign [tg] e pos) (G7 te g):=by
 intro pins s σ H D I h;refine wpAny_Assign_stores (br (he pins s σ H _ I h) λv s1 ⟨x,H1,I1,r1,q1⟩=>?_) hs hw
 rw[h1];exact br (hg pins s1 σ H1 x v _ I1 r1 q1) λ_ s2 q=>q
theorem S7{i:Nat}{x:Str}{e:π}{te:TE}{pos':Pos}(hN:X.N.Nodup) (hi:X.N[i]? = ζ x) (hx:Loc X.env.scope x) (he:PE X e te) (hs:swapsWith e (ζ (.Name x pos')) pos.line X.env=pure Ψ:=by rfl) (hf:X.fn x=Θ\/X.env.scope.names.lookup x=ζ .local:=by first|exact .inl rfl|exact .inr rfl|assumption) :
  PS X (.Assign [.Name x pos'] e pos) (G7 te (Le i)):=by
 intro pins s σ H D I h;refine wpAny_Assign_Name (br (he pins s σ H _ I h) λv s1 ⟨y,H1,I1,r1,q1⟩=>?_) hs
 exact Ax I1 hN hi hx r1 (λs2 I2=>⟨_,H1,I2,q1⟩) hf
end
section
variable {X:Cx}{pos:Pos}
def Pu(c:TT) (tb:TS):TS:=λD σ H=>∃W:Nat->St->Hp->Prop,(∃m,W m σ H)/\∀m σ H,W m σ H ->
 c σ H λb H1=>if b=Θ then ∃N:St->Hp->Prop,(∀σ' H',N σ' H'->∃m',m'<m/\W m' σ' H')/\tb {D with nx:=N,ct:=N,bk:=D.nx} σ H1 else D.nx σ H1
theorem S4{c:π}{body:List aaM}{tc:TT}{tb:TS}(hp:abH (model X.prog X.w) X.A X.env X.xe) (hc:PT X c tc) (hb:eu X body tb):PS X (.While c body [] pos) (Pu tc tb):=by
 intro pins s σ H D I h;obtain⟨W,⟨m0,w0⟩,turn⟩:=h;refine wpAny_While (codeAny_whileLoop (λn s'=>∃σ' H',Inv X pins σ' H' s'/\W n σ' H') ?_ m0 ⟨σ,H,I,w0⟩)
 rintro n s1 ⟨σ1,H1,I1,w1⟩
 refine ajH hp (br (hc pins s1 σ1 H1 _ I1 (turn n σ1 H1 w1)) λb s2 ⟨H2,I2,q2⟩=>?_)
 cases b with
 |true =>
  obtain⟨N,hN,q2⟩:=q2;rw[if_pos rfl];refine ajH hp (br (hb pins s2 σ1 H2 _ I2 q2) λf s3 q3=>?_)
  cases f with
  |next =>
   obtain⟨σ3,H3,I3,n3⟩:=q3;obtain⟨m',hm,w3⟩:=hN σ3 H3 n3;exact⟨m',hm,σ3,H3,I3,w3⟩
  |cont =>
   obtain⟨σ3,H3,I3,n3⟩:=q3;obtain⟨m',hm,w3⟩:=hN σ3 H3 n3;exact⟨m',hm,σ3,H3,I3,w3⟩
  |brk=>exact q3
  |ret v=>exact q3
 |false =>
  rw[if_neg aiD];exact aj3 ⟨σ1,H2,I2,q2⟩
end
structure It where
 go:Nat->Hp->Prop
 sP:Nat->Hp->V->Hp->Prop
 stop:Nat->Hp->Prop
def gB(X:Cx) (pins:List (Ω×Obj)) (H:Hp) (b:Ω):Prop :=
 H b=θ/\b≠X.env.locals/\b∉X.fs/\(b∈X.ex\/X.s₀.heap.objs.size<=b)/\(∀x c,X.env.cells.lookup x=ζ c->c≠b)/\∀p∈X.pn++pins,p.1≠b
theorem Inv.uW{X:Cx}{pins:List (Ω×Obj)}{σ:St}{H H':Hp}{s:ε}{b:Ω}(I:Inv X pins σ H s) (hb:s.heap.objs.size<=b) (hn:H' b=θ):gB X pins H' b:=by
 refine⟨hn,ajc (aiz I.lt hb),I.A7 hb,.inr (aiT I.sz hb),λx c e z=>?_,λp hp z=>?_⟩
 ·obtain⟨v,q⟩:=I.cell x c e;exact absurd (aiz q.lt (by rw[z];exact hb)) (ai4 _)
 ·exact absurd (aiz (aim (I.pin p hp).1) (by rw[z];exact hb)) (ai4 _)
structure Turn (P:τ) (w:ψ) (K:Δ) (tg:π) (J:It) (fp:List Ω) (it:Ω) (tn:Nat->χ->Prop):Prop where
 mem:it∈fp
 obj:∀i h,tn i h->∀b∈fp,∃o,h.get? b=ζ o/\∀v,o.data≠.cell v
 keep:∀i h h',tn i h->(∀b∈fp,∀o,h.get? b=ζ o->h'.get? b=ζ o)->tn i h'
 item:∀(X:Cx),X.prog=P->X.w=w->X.K=K->X.calm=Θ->∀(i:Nat) (pins:List (Ω×Obj)) (s:ε) (σ:St) (H:Hp) (E:Ξ->ε->Prop),Inv X pins σ H s->(∀b∈fp,gB X pins H b)->tn i s.heap->J.go i H ->
  wpAny (model P w) X.A (pyNext (.ref it)) (λr s1=>∃u,r=ζ u /\
   wpAny (model P w) X.A (letOwnedTupleGo tg (.ref it) u) (λ_ s2=>∃x H',Inv X pins σ H' s2/\RelV x u/\J.sP i H x H'/\tn (i+1) s2.heap/\∀b∈fp,H' b=θ) E s1) E s
 done:∀(X:Cx),X.prog=P->X.w=w->X.K=K->X.calm=Θ->∀(i:Nat) (pins:List (Ω×Obj)) (s:ε) (σ:St) (H:Hp) (E:Ξ->ε->Prop),Inv X pins σ H s->(∀b∈fp,gB X pins H b)->tn i s.heap->J.stop i H ->
  wpAny (model P w) X.A (pyNext (.ref it)) (λr s1=>r=θ/\Inv X pins σ H s1) E s
 self:∀(A:ω) (i:Nat) (s:ε) (Q:Ξ->ε->Prop) (E:Ξ->ε->Prop),tn i s.heap->Q (.ref it) s->wpAny (model P w) A (pyIter (.ref it)) Q E s
abbrev TI:=St->Hp->(It->Hp->Prop)->Prop
def F7(X:Cx) (pins:List (Ω×Obj)) (σ:St) (tg:π) (R:It->Hp->Prop) (itv:Ξ) (s2:ε):Prop :=
 ∃(it:Ω) (fp:List Ω) (tn:Nat->χ->Prop) (J:It) (H':Hp),itv=.ref it/\Inv X pins σ H' s2/\Turn X.prog X.w X.K tg J fp it tn/\tn 0 s2.heap/\(∀b∈fp,gB X pins H' b)/\R J H'
def PI(X:Cx) (tg iter:π) (wi:TI):Prop :=
 ∀(pins:List (Ω×Obj)) (s:ε) (σ:St) (H:Hp) (R:It->Hp->Prop),Inv X pins σ H s->wi σ H R ->
  wpAny (model X.prog X.w) X.A (eval iter X.env) (λv s1=>wpAny (model X.prog X.w) X.A (pyIter v) (F7 X pins σ tg R) X.xe s1) X.xe s
theorem yi{M:Model}{A:ω}{E:Ξ->ε->Prop}{s:ε}{tg:π}{it:Ω}{u:Ξ}{o:Obj}{n:String}{vs:Array Ξ}{Q:Unit->ε->Prop}(ho:s.heap.get? it=ζ o) (hc:o.cls=.type n) (hd:o.data=.fields vs)
    (hn:["enumerate","zip","dict_itemiterator","dict_reverseitemiterator","odict_iterator","itertools.zip_longest","itertools.pairwise"].contains n=Ψ) (hQ:Q () s):wpAny M A (letOwnedTupleGo tg (.ref it) u) Q E s:=by
  unfold letOwnedTupleGo;cases tg<;>first
    | exact aii hQ
    | (cases u<;>first
        | exact aii hQ
        | (refine aih (wpAny_load ho ?_)
           rw[hc,hd];show wpAny M A (if(["enumerate","zip","dict_itemiterator","dict_reverseitemiterator","odict_iterator","itertools.zip_longest","itertools.pairwise"].contains n&&vs[0]? == ζ (rawInt _))=Θ then _ else _) Q E s
           rw[if_neg (by intro h;rw[hn,ak3]at h;cases h)]
           exact aii hQ))
def Ge(K:Δ) (a:Ω):It :=
 ⟨λi H=>∃xs x,bJ K H a xs/\xs[i]? = ζ x,λi H x H'=>H'=H/\∀xs,bJ K H a xs->xs[i]? = ζ x,λi H=>∃xs,bJ K H a xs/\xs.length<=i⟩
def Gb(K:Δ) (a:Ω):It :=
 ⟨λi H=>∃xs x,dg K H a xs/\xs[i]? = ζ x,λi H x H'=>H'=H/\∀xs,dg K H a xs->xs[i]? = ζ x,λi H=>∃xs,dg K H a xs/\xs.length<=i⟩
def vI(lo:Int) (n:Nat):It:=⟨λi _=>i<n,λi H x H'=>H'=H/\x=.int (lo+i),λi _=>n<=i⟩
theorem O9{P:τ}{w:ψ}{K:Δ}{tg:π}(a it:Ω):Turn P w K tg (Ge K a) [it] it (λi h=>h.IsListIter it a i) where
 mem:=by simp
 obj:=λi h st b hb=>by
  have e:b=it:=by simpa using hb
  subst e;obtain⟨o,e,c,d⟩:=st;exact⟨o,e,λv z=>by rw[d]at z;cases z⟩
 keep:=λi h h' st k=>st.at λo e=>k it (by simp) o e
 item:=by
  intro X hP hw hK hc i pins s σ H E I hf st hg;subst hP hw hK;obtain⟨xs,x,hq,hx⟩:=hg;obtain⟨its,rv,p,hz⟩:=I.list hq;obtain⟨u,hu,ru⟩:=rv.get hx;obtain⟨f0,f1,f2,f3,f4,f5⟩:=hf it (by simp)
  refine wpAny_pyNext_list_item st p.isList (x:=u) (by simpa using hu) λh' st' sb=>?_
  have I1:Inv X pins σ H {s with heap:=h'}:=I.turned (t':=s.toks) (λb o hb e=>(sb.2 b hb).trans e) f0 f1 f3 f4 f5
  obtain⟨o,e,c,d⟩:=id st';exact⟨u,rfl,yi (s:={s with heap:=h'}) e c d (by decide) ⟨x,H,I1,ru,⟨rfl,λys hy=>by rw[I.JT hy hq];exact hx⟩,st',λb hb=>(hf b hb).1⟩⟩
 done:=by
  intro X hP hw hK hc i pins s σ H E I hf st hg;subst hP hw hK;obtain⟨xs,hq,hx⟩:=hg;obtain⟨its,rv,p,hz⟩:=I.list hq;obtain⟨f0,f1,f2,f3,f4,f5⟩:=hf it (by simp)
  have hl:=rv.length;exact wpAny_pyNext_list_end (I.ok.hd hc) st p.isList (by simp;omega) λh' eb=>⟨rfl,I.turned (t':=s.toks) (λb o hb e=>eb b o hb e) f0 f1 f3 f4 f5⟩
 self:=λ_ _ _ _ _ st h=>wpAny_pyIter_listiter st h
theorem O7{P:τ}{w:ψ}{K:Δ}{tg:π}(a it:Ω):Turn P w K tg (Gb K a) [it] it (λi h=>h.IsTupleIter it a i) where
 mem:=by simp
 obj:=λi h st b hb=>by
  have e:b=it:=by simpa using hb
  subst e;obtain⟨o,e,c,d⟩:=st;exact⟨o,e,λv z=>by rw[d]at z;cases z⟩
 keep:=λi h h' st k=>st.at λo e=>k it (by simp) o e
 item:=by
  intro X hP hw hK hc i pins s σ H E I hf st hg;subst hP hw hK;obtain⟨xs,x,hq,hx⟩:=hg;obtain⟨its,rv,p,hz⟩:=I.tuple hq;obtain⟨u,hu,ru⟩:=rv.get hx;obtain⟨f0,f1,f2,f3,f4,f5⟩:=hf it (by simp)
  refine wpAny_pyNext_tuple_item st (show s.heap.IsTuple a its.toArray from p) (x:=u) (by simpa using hu) λh' st' sb=>?_
  have I1:Inv X pins σ H {s with heap:=h'}:=I.turned (t':=s.toks) (λb o hb e=>(sb.2 b hb).trans e) f0 f1 f3 f4 f5
  obtain⟨o,e,c,d⟩:=id st';exact⟨u,rfl,yi (s:={s with heap:=h'}) e c d (by decide) ⟨x,H,I1,ru,⟨rfl,λys hy=>by rw[I.Pd hy hq];exact hx⟩,st',λb hb=>(hf b hb).1⟩⟩
 done:=by
  intro X hP hw hK hc i pins s σ H E I hf st hg;subst hP hw hK;obtain⟨xs,hq,hx⟩:=hg;obtain⟨its,rv,p,hz⟩:=I.tuple hq;obtain⟨f0,f1,f2,f3,f4,f5⟩:=hf it (by simp)
  have hl:=rv.length;exact wpAny_pyNext_tuple_end (I.ok.hd hc) st (show s.heap.IsTuple a its.toArray from p) (by simp;omega) λh' eb=>⟨rfl,I.turned (t':=s.toks) (λb o hb e=>eb b o hb e) f0 f1 f3 f4 f5⟩
 self:=λ_ _ _ _ _ st h=>wpAny_pyIter_tupleiter st h
theorem O8{P:τ}{w:ψ}{K:Δ}{tg:π}(it:Ω) (lo:Int) (n:Nat):Turn P w K tg (vI lo n) [it] it (λi h=>abr h it (lo+(i:Nat)*1) ((n:Int)-(i:Nat)) 1) where
 mem:=by simp
 obj:=λi h st b hb=>by
  have e:b=it:=by simpa using hb
  subst e;exact⟨_,st,λv z=>by
   have z':Data.fields _=Data.cell v:=z;cases z'⟩
 keep:=λi h h' st k=>k it (by simp) _ st
 item:=by
  intro X hP hw hK hc i pins s σ H E I hf st hg;subst hP hw hK;obtain⟨f0,f1,f2,f3,f4,f5⟩:=hf it (by simp)
  have W:=Walks.range (prog:=X.prog) (w:=X.w) (I.ok.hd hc) it lo 1 n;refine W.item i s _ _ hg st λv h' tk hv st' kk=>?_
  obtain⟨t,rfl⟩:=hv;have I1:Inv X pins σ H {s with heap:=h',toks:=tk}:=I.turned (λb o hb e=>kk b o (by simpa using hb) e) f0 f1 f3 f4 f5
  refine⟨_,rfl,yi (s:={s with heap:=h',toks:=tk}) (n:="range_iterator") st' rfl rfl (by decide) ⟨.int (lo+i),H,I1,⟨t,?_⟩,⟨rfl,rfl⟩,st',λb hb=>(hf b hb).1⟩⟩
  rw[Int.mul_one]
 done:=by
  intro X hP hw hK hc i pins s σ H E I hf st hg;subst hP hw hK;obtain⟨f0,f1,f2,f3,f4,f5⟩:=hf it (by simp)
  exact alP (I.ok.hd hc) st (by have:n<=i:=hg;omega) λh' eb=>⟨rfl,I.turned (t':=s.toks) (λb o hb e=>eb b o hb e) f0 f1 f3 f4 f5⟩
 self:=λ_ _ _ _ _ st h=>alQ st h
section
variable {X:Cx}{tg:π}
def aaK(K:Δ) (tl:TE):TI:=λσ H R=>tl σ H λx H1=>∃a,x=.ref a/\(∃xs,bJ K H1 a xs)/\R (Ge K a) H1
def aaG(K:Δ) (tl:TE):TI:=λσ H R=>tl σ H λx H1=>∃a,x=.ref a/\(∃xs,dg K H1 a xs)/\R (Gb K a) H1
theorem Uz{l:π}{tl:TE}(hl:PE X l tl):PI X tg l (aaK X.K tl):=by
 intro pins s σ H R I h;refine br (hl pins s σ H _ I h) λv s1 ⟨x,H1,I1,r1,q1⟩=>?_
 obtain⟨a,e,⟨xs,hq⟩,q⟩:=q1;subst e;cases r1;obtain⟨its,rv,p,hz⟩:=I1.list hq;refine aks p.isList ?_;refine⟨s1.heap.objs.size,[s1.heap.objs.size],_,_,H1,rfl,I1.kept (t':=s1.toks) λb o e=>air _ e,O9 a _,⟨_,aiI _ rfl,rfl,rfl⟩,λb hb=>?_,q⟩
 have e:b=s1.heap.objs.size:=by simpa using hb
 subst e;exact I1.uW (aij _) (I1.hok.fresh (aij _))
theorem Uv{l:π}{tl:TE}(hl:PE X l tl):PI X tg l (aaG X.K tl):=by
 intro pins s σ H R I h;refine br (hl pins s σ H _ I h) λv s1 ⟨x,H1,I1,r1,q1⟩=>?_
 obtain⟨a,e,⟨xs,hq⟩,q⟩:=q1;subst e;cases r1;obtain⟨its,rv,p,hz⟩:=I1.tuple hq;refine wpAny_pyIter_tuple (show s1.heap.IsTuple a its.toArray from p) ?_
 refine⟨s1.heap.objs.size,[s1.heap.objs.size],_,_,H1,rfl,I1.kept (t':=s1.toks) λb o e=>air _ e,O7 a _,⟨_,aiI _ rfl,rfl,rfl⟩,λb hb=>?_,q⟩
 have e:b=s1.heap.objs.size:=by simpa using hb
 subst e;exact I1.uW (aij _) (I1.hok.fresh (aij _))
theorem HL{pins:List (Ω×Obj)}{σ:St}{H:Hp}{s:ε}{R:It->Hp->Prop}{E:Ξ->ε->Prop}{lo hi:Int}{t u v:Tok}{tk:Nat}(I:Inv X pins σ H s) (h1:-(2^62)<=lo) (h2:lo<2^62) (h3:-(2^62)<=hi) (h4:hi<2^62)
  (q:R (vI lo (hi-lo).toNat) H):wpAny (model X.prog X.w) X.A (pyIter (.ref s.heap.objs.size)) (F7 X pins σ tg R) E {s with heap:=s.heap.push {cls:=.type "range",data:=.fields #[.int lo t,.int hi u,.int 1 v]},toks:=tk}:=by
 refine wpAny_pyIter_range (IsRange.new ..) (small_one h1 h2 h3 h4) ?_;have I1:Inv X pins σ H {s with heap:=s.heap.push {cls:=.type "range",data:=.fields #[.int lo t,.int hi u,.int 1 v]},toks:=tk}:=I.kept λb o e=>air _ e
 refine⟨(s.heap.push {cls:=.type "range",data:=.fields #[.int lo t,.int hi u,.int 1 v]}).objs.size,[(s.heap.push {cls:=.type "range",data:=.fields #[.int lo t,.int hi u,.int 1 v]}).objs.size],_,_,H,rfl,
  I1.kept (t':=tk) λb o e=>air _ e,O8 _ lo (hi-lo).toNat,?_,λb hb=>?_,q⟩
 ·have e1:lo+((0:Nat):Int)*1=lo:=by simp
  have e2:(((hi-lo).toNat:Nat):Int)-((0:Nat):Int)=Builtin.Range.rangeSize lo hi 1:=by rw[rangeSize_one];split<;>omega
  show abr _ _ (lo+((0:Nat):Int)*1) ((((hi-lo).toNat:Nat):Int)-((0:Nat):Int)) 1;rw[e1,e2];exact aiI _ rfl
 ·have e:b=(s.heap.push {cls:=.type "range",data:=.fields #[.int lo t,.int hi u,.int 1 v]}).objs.size:=by simpa using hb
  subst e;exact I1.uW (aij _) (I1.hok.fresh (aij _))
def aaJ(ta:TA):TI:=λσ H R=>ta σ H λvs H1=>∃j:Int,vs=[.int j]/\-(2^62)<=j/\j<2^62/\R (vI 0 j.toNat) H1
def aaI(ta:TA):TI:=λσ H R=>ta σ H λvs H1=>∃i j:Int,vs=[.int i,.int j]/\(-(2^62)<=i/\i<2^62/\-(2^62)<=j/\j<2^62)/\R (vI i (j-i).toNat) H1
theorem Uy{a:π}{ta:TA}{p pos:Pos}(hg:Gl X "range") (hm:X.mg "range"=θ) (ha:PA X [a] ta) (hs:μ [a] X.env=[(Ψ,eval a X.env)]:=by rfl):PI X tg (.Call (.Name "range" p) [a] [] pos) (aaJ ta):=by
 intro pins s σ H R I h;refine Call_ (om I hg hm boot_range (aj4 (br (ha pos pins s σ H _ I h) λus s1 ⟨vs,H1,I1,r1,q1⟩=>?_) hs rfl))
 obtain⟨j,e,q1,q2,q⟩:=q1;subst e;cases r1 with
 |cons r rr =>
  cases rr;obtain⟨t,rfl⟩:=r;exact call_range_1 (HL I1 (by omega) (by omega) q1 q2 (by simpa using q))
theorem Ux{a b:π}{ta:TA}{p pos:Pos}(hg:Gl X "range") (hm:X.mg "range"=θ) (ha:PA X [a,b] ta) (hs:μ [a,b] X.env=[(Ψ,eval a X.env),(Ψ,eval b X.env)]:=by rfl) (hs2:μ [b] X.env=[(Ψ,eval b X.env)]:=by rfl) :
  PI X tg (.Call (.Name "range" p) [a,b] [] pos) (aaI ta):=by
 intro pins s σ H R I h;refine Call_ (om I hg hm boot_range (aj4 (br (ha pos pins s σ H _ I h) λus s1 ⟨vs,H1,I1,r1,q1⟩=>?_) (by rw[hs,hs2]) (by rw[hs2];rfl)))
 obtain⟨i,j,e,⟨q1,q2,q3,q4⟩,q⟩:=q1;subst e;cases r1 with
 |cons r rr =>
  cases rr with
  |cons r' rr =>
   cases rr;obtain⟨t,rfl⟩:=r;obtain⟨t',rfl⟩:=r';exact call_range_2 (HL I1 q1 q2 q3 q4 q)
def PY(wi:TI) (g:TG) (tb:TS):TS:=λD σ H=>wi σ H λJ H1=>∃W:Nat->Nat->St->Hp->Prop,(∃m,W 0 m σ H1)/\∀i m σ H,W i m σ H ->
 (J.stop i H/\D.nx σ H)\/(J.go i H/\∃N:St->Hp->Prop,(∀σ' H',N σ' H'->∃m',m'<m/\W (i+1) m' σ' H')/\∀x H',J.sP i H x H'->g x σ H' λσ2 H2=>tb {D with nx:=N,ct:=N,bk:=D.nx} σ2 H2)
def t6(fp:List Ω) (h:χ):List (Ω×Obj):=fp.filterMap λb=>(h.get? b).map λo=>(b,o)
theorem xT{fp:List Ω}{h:χ}{b:Ω}{o:Obj}(hb:b∈fp) (e:h.get? b=ζ o):(b,o)∈t6 fp h:=aj5.mpr ⟨b,hb,by rw[e];rfl⟩
theorem We{fp:List Ω}{h:χ}{p:Ω×Obj}(hp:p∈t6 fp h):p.1∈fp/\h.get? p.1=ζ p.2:=by
 obtain⟨b,hb,e⟩:=aj5.mp hp;cases q:h.get? b with
 |none=>rw[q]at e;cases e
 |some o =>
  rw[q]at e;have e':(b,o)=p:=aiH e;subst e';exact⟨hb,q⟩
theorem Inv.pinned{pins:List (Ω×Obj)}{σ:St}{H:Hp}{s:ε}{fp:List Ω}(I:Inv X pins σ H s) (hf:∀b∈fp,gB X pins H b) (ho:∀b∈fp,∃o,s.heap.get? b=ζ o/\∀v,o.data≠.cell v):Inv X (pins++t6 fp s.heap) σ H s :=
 I.wL λp hp=>(aiK.mp hp).elim (λz=>I.pin p (ajb _ z)) λz=>by
  obtain⟨hb,e⟩:=We z;obtain⟨f0,f1,f2,_⟩:=hf p.1 hb;obtain⟨o,e',d⟩:=ho p.1 hb;rw[e]at e';cases e';exact⟨e,f0,f1,f2,d⟩
theorem Inv.sX{pins pl:List (Ω×Obj)}{σ:St}{H:Hp}{s:ε}(I:Inv X (pins++pl) σ H s):Inv X pins σ H s:=I.wL λp hp=>I.pin p (ajb _ (ak2 _ hp))
theorem Tc{iter:π}{body:List aaM}{wi:TI}{g:TG}{tb:TS}{pos:Pos}(hp:abH (model X.prog X.w) X.A X.env X.xe) (hc:X.calm=Θ) (hi:PI X tg iter wi) (hg:PG X tg g) (hb:eu X body tb)
  (hs:∀x,foldedSetIterable iter X.env x=pure x:=by intro _;rfl):PS X (.For tg iter body [] pos) (PY wi g tb):=by
 intro pins s σ H D I h;refine wpAny_For (br (hi pins s σ H _ I h) λv s1 h1=>br h1 λitv s2 h2=>?_) hs
 obtain⟨it,fp,tn,J,H2,e,I2,T,st2,f2,W,⟨m0,w0⟩,turn⟩:=h2;subst e;have nM:∀{H':Hp},(∀b∈fp,H' b=θ)->∀b∈fp,gB X pins H' b:=λhn b hb=>⟨hn b hb,(f2 b hb).2⟩
 refine codeAny_forLoop_any (λn s'=>∃i σ' H',Inv X pins σ' H' s'/\tn i s'.heap/\(∀b∈fp,H' b=θ)/\W i n σ' H') ?_ m0 ⟨0,σ,H2,I2,st2,λb hb=>(f2 b hb).1,w0⟩
 rintro n s3 ⟨i,σ3,H3,I3,st3,Li,w3⟩
 rcases turn i n σ3 H3 w3 with⟨stop,qn⟩|⟨go,N,hN,step⟩
 ·refine ajH hp (br (T.done X rfl rfl rfl hc i pins s3 σ3 H3 X.xe I3 (nM Li) st3 stop) λr s4 ⟨hr,I4⟩=>?_)
  subst hr;exact aj3 ⟨σ3,H3,I4,qn⟩
 ·refine ajH hp (br (T.item X rfl rfl rfl hc i pins s3 σ3 H3 X.xe I3 (nM Li) st3 go) λr s4 ⟨u,hr,h4⟩=>?_)
  subst hr;refine ajH hp (br h4 λ_ s5 ⟨x,H5,I5,r5,y5,i9,yk⟩=>?_)
  have I5':=I5.pinned (nM yk) (T.obj _ _ i9);refine ajH hp (br (hg _ s5 σ3 H5 x u _ I5' r5 (step x H5 y5)) λ_ s6 ⟨Oc,H6,I6,q6⟩=>?_)
  refine ajH hp (br (hb _ s6 Oc H6 _ I6 q6) λf s7 q7=>?_)
  have again:∀{iI:St}{H7:Hp},Inv X (pins++t6 fp s5.heap) iI H7 s7->N iI H7->∃m,m<n/\∃i σ' H',Inv X pins σ' H' s7/\tn i s7.heap/\(∀b∈fp,H' b=θ)/\W i m σ' H':=fun{iI H7} I7 n7=>by
   obtain⟨m',hm,w7⟩:=hN iI H7 n7;refine⟨m',hm,i+1,iI,H7,I7.sX,T.keep _ _ _ i9 λb hb o e=>(I7.pin (b,o) (ajb _ (ajb _ (xT hb e)))).1,λb hb=>?_,w7⟩
   obtain⟨o,e,d⟩:=T.obj _ _ i9 b hb;exact(I7.pin (b,o) (ajb _ (ajb _ (xT hb e)))).2.1
  cases f with
  |next=>obtain⟨iI,H7,I7,n7⟩:=q7;exact again I7 n7
  |cont=>obtain⟨iI,H7,I7,n7⟩:=q7;exact again I7 n7
  |brk=>obtain⟨iI,H7,I7,q7⟩:=q7;exact⟨iI,H7,I7.sX,q7⟩
  |ret v=>obtain⟨x7,iI,H7,I7,r7,q7⟩:=q7;exact⟨x7,iI,H7,I7.sX,r7,q7⟩
end
abbrev R2:=V->V->Hp->VK->Prop
def bB(X:Cx) (f:Ξ->Ξ->Sem Ξ) (r:R2):Prop :=
 ∀(pins:List (Ω×Obj)) (s:ε) (σ:St) (H:Hp) (x y:V) (v u:Ξ) (Q:VK),Inv X pins σ H s->RelV x v->RelV y u->r x y H Q ->
  wpAny (model X.prog X.w) X.A (f v u) (EP X pins σ Q) X.xe s
def dI(X:Cx) (f:Ξ) (r:List V->Hp->VK->Prop):Prop :=
 ∀(pins:List (Ω×Obj)) (s:ε) (σ:St) (H:Hp) (xs:List V) (us:List Ξ) (Q:VK),Inv X pins σ H s->Vals xs us->r xs H Q ->
  wpAny (model X.prog X.w) X.A (call f us) (EP X pins σ Q) X.xe s
def vZ(r:R2) (ta tb:TE):TE:=λσ H Q=>ta σ H λx H1=>tb σ H1 λy H2=>r x y H2 Q
def rI(C:Int->Int->Prop) (g:Int->Int->V):R2:=λx y H Q=>∃i j,x=.int i/\y=.int j/\C i j/\Q (g i j) H
def jI(g:Int->Int->V):R2:=λx y H Q=>∃i j,x=.int i/\y=.int j/\Q (g i j) H
section
variable {X:Cx}{a b c:π}{ta tb tc:TE}{pos:Pos}
theorem FP(ha:PE X a ta) (hb:PE X b tb) {pins:List (Ω×Obj)}{s:ε}{σ:St}{H:Hp}{R:V->V->Hp->Prop}(I:Inv X pins σ H s)
  (h:ta σ H λx H1=>tb σ H1 λy H2=>R x y H2) {Q:Ξ->ε->Prop}{f:Ξ->Ξ->Sem Ξ}
  (hf:∀v u s2 x y H2,Inv X pins σ H2 s2->RelV x v->RelV y u->R x y H2->wpAny (model X.prog X.w) X.A (f v u) Q X.xe s2) :
  wpAny (model X.prog X.w) X.A (eval a X.env) (λv s₁=>wpAny (model X.prog X.w) X.A (eval b X.env) (λu s₂=>wpAny (model X.prog X.w) X.A (f v u) Q X.xe s₂) X.xe s₁) X.xe s:=by
 refine br (ha pins s σ H _ I h) λv s1 ⟨x,H1,I1,r1,q1⟩=>?_
 refine br (hb pins s1 σ H1 _ I1 q1) λu s2 ⟨y,H2,I2,r2,q2⟩=>?_
 exact hf v u s2 x y H2 I2 r1 r2 q2
theorem UO{op:Operator}{r:R2}(ho:bB X (binaryOp op) r) (ha:PE X a ta) (hb:PE X b tb):PE X (.BinOp a op b pos) (vZ r ta tb):=by
 intro pins s σ H Q I h;exact wpAny_BinOp (FP ha hb I h λv u s2 x y H2 I2 rx ry q=>ho pins s2 σ H2 x y v u Q I2 rx ry q)
theorem xx{f:Ξ->Ξ->Sem Ξ}{C:Int->Int->Prop}{g:Int->Int->Int}
  (rule:∀(i j:Int) (t u:Tok) (s:ε) (Q:Ξ->ε->Prop) (E:Ξ->ε->Prop),C i j->Q (.int (g i j) s.toks) {s with toks:=s.toks+1}->wpAny (model X.prog X.w) X.A (f (.int i t) (.int j u)) Q E s) :
  bB X f (rI C λi j=>.int (g i j)):=by
 intro pins s σ H x y v u Q I rx ry h;obtain⟨i,j,rfl,rfl,hc,q⟩:=h;obtain⟨t,rfl⟩:=rx;obtain⟨t',rfl⟩:=ry;exact rule i j t t' s _ _ hc ⟨.int (g i j),H,I.tok _,⟨_,rfl⟩,q⟩
theorem A5{f:Ξ->Ξ->Sem Ξ}{g:Int->Int->Int}
  (rule:∀(i j:Int) (t u:Tok) (s:ε) (Q:Ξ->ε->Prop) (E:Ξ->ε->Prop),Q (.int (g i j) s.toks) {s with toks:=s.toks+1}->wpAny (model X.prog X.w) X.A (f (.int i t) (.int j u)) Q E s) :
  bB X f (jI λi j=>.int (g i j)):=by
 intro pins s σ H x y v u Q I rx ry h;obtain⟨i,j,rfl,rfl,q⟩:=h;obtain⟨t,rfl⟩:=rx;obtain⟨t',rfl⟩:=ry;exact rule i j t t' s _ _ ⟨.int (g i j),H,I.tok _,⟨_,rfl⟩,q⟩
theorem xy{f:Ξ->Ξ->Sem Ξ}{g:Int->Int->Bool}
  (rule:∀(i j:Int) (t u:Tok) (s:ε) (Q:Ξ->ε->Prop) (E:Ξ->ε->Prop),Q (.bool (g i j)) s->wpAny (model X.prog X.w) X.A (f (.int i t) (.int j u)) Q E s) :
  bB X f (jI λi j=>.bl (g i j)):=by
 intro pins s σ H x y v u Q I rx ry h;obtain⟨i,j,rfl,rfl,q⟩:=h;obtain⟨t,rfl⟩:=rx;obtain⟨t',rfl⟩:=ry;exact rule i j t t' s _ _ ⟨.bl (g i j),H,I,rfl,q⟩
def agH(i j:Int):Prop:=0<j/\j<1073741824
def agG(i j:Int):Prop:=0<=j/\j<=1000000/\i.natAbs<2^64
def Gj(i j:Int):Prop:=(-(2^64)<i/\i<2^64)\/(-(2^64)<j/\j<2^64)
theorem Gj.ok{i j:Int}(h:Gj i j):IntMulOk i j:=by
 rcases h with⟨h1,h2⟩|⟨h1,h2⟩
 ·exact .of_left (intBits_le_64 h1 h2)
 ·exact .of_right (intBits_le_64 h1 h2)
theorem VI:bB X (binaryOp .Add) (jI λi j=>.int (i+j)):=A5 λ_ _ _ _ _ _ _ q=>add_int q
theorem Vs:bB X (binaryOp .Sub) (jI λi j=>.int (i-j)):=A5 λ_ _ _ _ _ _ _ q=>sub_int q
theorem Vx:bB X (binaryOp .Mult) (rI Gj λi j=>.int (i*j)):=xx λ_ _ _ _ _ _ _ hc q=>mul_int q hc.ok
theorem VD:bB X (binaryOp .FloorDiv) (rI agH λi j=>.int (i/j)):=xx λi j _ _ _ _ _ hc q=>by
 have h1:(0:Int)<j:=hc.1;have h2:j<1073741824:=hc.2;exact floordiv_int (by omega) (by rw[Int.fdiv_eq_ediv_of_nonneg i (by omega)];exact q) (.inl (alR (by omega)))
theorem Vy:bB X (binaryOp .Mod) (rI (λ_ j=>0<j) λi j=>.int (i % j)):=xx λi j _ _ _ _ _ hc q=>by
 have h1:(0:Int)<j:=hc;exact mod_int' (by omega) (by rw[Int.fmod_eq_emod_of_nonneg i (by omega)];exact q)
theorem Vu:bB X (binaryOp .Pow) (rI agG λi j=>.int (i^j.toNat)):=xx λ_ _ _ _ _ _ _ hc q=>pow_int_small hc.1 hc.2.1 hc.2.2 q
theorem Vr:bB X (binaryOp .BitXor) (jI λi j=>.int (Builtin.bitXor i j)):=A5 λ_ _ _ _ _ _ _ q=>xor_int q
end
def AK:V->V->Bool
 |.aM,.aM=>Θ|.aM,.int _=>Θ|.int _,.aM=>Θ|.aM,.bl _=>Θ|.bl _,.aM=>Θ|.aM,.str _=>Θ|.str _,.aM=>Θ
 |.int _,.int _=>Θ|.bl _,.bl _=>Θ|.str _,.str _=>Θ|.jB _,.jB _=>Θ
 |.int _,.str _=>Θ|.str _,.int _=>Θ|.bl _,.str _=>Θ|.str _,.bl _=>Θ
 |_,_=>Ψ
def SH:R2:=λx y H Q=>AK x y=Θ/\Q (.bl (decide (x=y))) H
def Sw:R2:=λx y H Q=>AK x y=Θ/\Q (.bl (!decide (x=y))) H
theorem LO{i j:Int}:decide (V.int i=V.int j)=(i==j):=by
 rw[aj6];simp
theorem LQ{i j:Bool}:decide (V.bl i=V.bl j)=(i==j):=by
 rw[aj6];simp
theorem LN{i j:Str}:decide (V.str i=V.str j)=(i==j):=by
 rw[aj6];simp
theorem LP{i j:Array UInt8}:decide (V.jB i=V.jB j)=(i.toList==j.toList):=by
 rw[aj6];cases i;cases j;simp
section
variable {X:Cx}{a b c:π}{ta tb tc:TE}{pos:Pos}
theorem cT{pins:List (Ω×Obj)}{σ:St}{H:Hp}{s:ε}{Q:VK}{k k':Bool}(I:Inv X pins σ H s) (q:Q (.bl k) H) (e:k=k'):EP X pins σ Q (.bool k') s:=by
 subst e;exact⟨.bl k,H,I,rfl,q⟩
theorem VE:bB X (compareOp .Eq) SH:=by
 intro pins s σ H x y v u Q I rx ry h;obtain⟨hs,q⟩:=h;cases x with
 |aM =>
  cases rx;cases y with
  |aM=>cases ry;exact PySem.EqNone.eq_none_none (cT I q (by simp))
  |bl j=>cases ry;exact PySem.EqNone.eq_none_bool (cT I q (by simp))
  |int j=>obtain⟨t',rfl⟩:=ry;exact PySem.EqNone.eq_none_int (cT I q (by simp))
  |str j=>obtain⟨t',rfl⟩:=ry;exact PySem.EqNone.eq_none_str (cT I q (by simp))
  |_=>exact absurd (show Ψ=Θ from hs) aiD
 |bl i =>
  cases rx;cases y with
  |aM=>cases ry;exact PySem.EqNone.eq_bool_none (cT I q (by simp))
  |bl j=>cases ry;exact eq_bool (cT I q LQ)
  |str j=>obtain⟨t',rfl⟩:=ry;exact PySem.EqMixed.eq_bool_str (cT I q (by simp))
  |_=>exact absurd (show Ψ=Θ from hs) aiD
 |int i =>
  obtain⟨t,rfl⟩:=rx;cases y with
  |aM=>cases ry;exact PySem.EqNone.eq_int_none (cT I q (by simp))
  |int j=>obtain⟨t',rfl⟩:=ry;exact eq_int (cT I q LO)
  |str j=>obtain⟨t',rfl⟩:=ry;exact PySem.EqMixed.eq_int_str (cT I q (by simp))
  |_=>exact absurd (show Ψ=Θ from hs) aiD
 |str i =>
  obtain⟨t,rfl⟩:=rx;cases y with
  |aM=>cases ry;exact PySem.EqNone.eq_str_none (cT I q (by simp))
  |bl j=>cases ry;exact PySem.EqMixed.eq_str_bool (cT I q (by simp))
  |int j=>obtain⟨t',rfl⟩:=ry;exact PySem.EqMixed.eq_str_int (cT I q (by simp))
  |str j=>obtain⟨t',rfl⟩:=ry;exact eq_str (cT I q LN)
  |_=>exact absurd (show Ψ=Θ from hs) aiD
 |jB i =>
  obtain⟨t,rfl⟩:=rx;cases y with
  |jB j=>obtain⟨t',rfl⟩:=ry;exact PySem.W.eq_bytes (cT I q LP)
  |_=>exact absurd (show Ψ=Θ from hs) aiD
 |_=>cases y<;>exact absurd (show Ψ=Θ from hs) aiD
theorem Vw:bB X (compareOp .NotEq) Sw:=by
 intro pins s σ H x y v u Q I rx ry h;obtain⟨hs,q⟩:=h;cases x with
 |aM =>
  cases rx;cases y with
  |aM=>cases ry;exact PySem.EqNone.ne_none_none (cT I q (by simp))
  |bl j=>cases ry;exact PySem.EqNone.ne_none_bool (cT I q (by simp))
  |int j=>obtain⟨t',rfl⟩:=ry;exact PySem.EqNone.ne_none_int (cT I q (by simp))
  |str j=>obtain⟨t',rfl⟩:=ry;exact PySem.EqNone.ne_none_str (cT I q (by simp))
  |_=>exact absurd (show Ψ=Θ from hs) aiD
 |bl i =>
  cases rx;cases y with
  |aM=>cases ry;exact PySem.EqNone.ne_bool_none (cT I q (by simp))
  |bl j=>cases ry;exact ne_bool (cT I q (congrArg not LQ))
  |str j=>obtain⟨t',rfl⟩:=ry;exact PySem.EqMixed.ne_bool_str (cT I q (by simp))
  |_=>exact absurd (show Ψ=Θ from hs) aiD
 |int i =>
  obtain⟨t,rfl⟩:=rx;cases y with
  |aM=>cases ry;exact PySem.EqNone.ne_int_none (cT I q (by simp))
  |int j=>obtain⟨t',rfl⟩:=ry;exact ne_int (cT I q (congrArg not LO))
  |str j=>obtain⟨t',rfl⟩:=ry;exact PySem.EqMixed.ne_int_str (cT I q (by simp))
  |_=>exact absurd (show Ψ=Θ from hs) aiD
 |str i =>
  obtain⟨t,rfl⟩:=rx;cases y with
  |aM=>cases ry;exact PySem.EqNone.ne_str_none (cT I q (by simp))
  |bl j=>cases ry;exact PySem.EqMixed.ne_str_bool (cT I q (by simp))
  |int j=>obtain⟨t',rfl⟩:=ry;exact PySem.EqMixed.ne_str_int (cT I q (by simp))
  |str j=>obtain⟨t',rfl⟩:=ry;exact ne_str (cT I q (congrArg not LN))
  |_=>exact absurd (show Ψ=Θ from hs) aiD
 |jB i =>
  obtain⟨t,rfl⟩:=rx;cases y with
  |jB j=>obtain⟨t',rfl⟩:=ry;exact PySem.W.ne_bytes (cT I q (congrArg not LP))
  |_=>exact absurd (show Ψ=Θ from hs) aiD
 |_=>cases y<;>exact absurd (show Ψ=Θ from hs) aiD
theorem Vz:bB X (compareOp .Lt) (jI λi j=>.bl (decide (i<j))):=xy λ_ _ _ _ _ _ _ q=>lt_int q
theorem VA:bB X (compareOp .LtE) (jI λi j=>.bl (decide (i<=j))):=xy λ_ _ _ _ _ _ _ q=>le_int q
theorem VB:bB X (compareOp .Gt) (jI λi j=>.bl (decide (j<i))):=xy λ_ _ _ _ _ _ _ q=>gt_int q
theorem VC:bB X (compareOp .GtE) (jI λi j=>.bl (decide (j<=i))):=xy λ_ _ _ _ _ _ _ q=>ge_int q
theorem Jc(b:π) {op:CmpOp}(h:op≠.In:=by decide) (h2:op≠.NotIn:=by decide):behindInMarks op b=Ψ:=by
 have e1:(op==CmpOp.In)=Ψ:=by cases op<;>first|rfl|exact absurd rfl h
 have e2:(op==CmpOp.NotIn)=Ψ:=by cases op<;>first|rfl|exact absurd rfl h2
 cases b<;>simp[behindInMarks,e1,e2]
theorem UY{op:CmpOp}{r:R2}(ho:bB X (compareOp op) r) (ha:PE X a ta) (hb:PE X b tb) (hm:behindInMarks op b=Ψ):PE X (.Compare a [op] [b] pos) (vZ r ta tb):=by
 intro pins s σ H Q I h;exact wpAny_Compare1 (FP ha hb I h λv u s2 x y H2 I2 rx ry q=>ho pins s2 σ H2 x y v u Q I2 rx ry q) hm
def G1(t:TE):TT:=λσ H Q=>t σ H λx H'=>∃k,x=.bl k/\Q k H'
theorem SY{op:CmpOp}{r:R2}(ho:bB X (compareOp op) r) (ha:PE X a ta) (hb:PE X b tb) (hm:behindInMarks op b=Ψ):PT X (.Compare a [op] [b] pos) (G1 (vZ r ta tb)):=by
 intro pins s σ H Q I h;refine wpAny_isTrue_Compare1 (br (ha pins s σ H _ I h) λv s1 ⟨x,H1,I1,r1,q1⟩=>br (hb pins s1 σ H1 _ I1 q1) λu s2 ⟨y,H2,I2,r2,q2⟩ =>
  br (ho pins s2 σ H2 x y v u _ I2 r1 r2 q2) λc s3 ⟨z,H3,I3,r3,k,e,q3⟩=>?_) hm
 subst e;cases r3;exact aju ⟨H3,I3,q3⟩
def G4(r r':R2) (ta tb tc:TE):TE:=λσ H Q=>ta σ H λx H1=>tb σ H1 λy H2=>r x y H2 λz H3=>∃k,z=.bl k /\
 (if k=Θ then tc σ H3 λw' H4=>r' y w' H4 Q else Q (.bl Ψ) H3)
theorem UZ{op op':CmpOp}{r r':R2}(ho:bB X (compareOp op) r) (ho':bB X (compareOp op') r') (ha:PE X a ta) (hb:PE X b tb) (hc:PE X c tc)
  (hm:lastMarks [op,op'] [b,c]=Ψ:=by with_unfolding_all rfl):PE X (.Compare a [op,op'] [b,c] pos) (G4 r r' ta tb tc):=by
 intro pins s σ H Q I h;refine Compare_chain (br (ha pins s σ H _ I h) λv s1 ⟨x,H1,I1,r1,q1⟩=>chain_link (br (hb pins s1 σ H1 _ I1 q1) λu s2 ⟨y,H2,I2,r2,q2⟩ =>
  br (ho pins s2 σ H2 x y v u _ I2 r1 r2 q2) λd s3 ⟨z,H3,I3,r3,k,e,q3⟩=>?_)) hm
 subst e;cases r3;refine aju ?_;cases k with
 |false=>exact ite_ff ⟨.bl Ψ,H3,I3,rfl,q3⟩
 |true=>exact ite_tt (chain_last (br (hc pins s3 σ H3 _ I3 q3) λw' s4 ⟨z',H4,I4,r4,q4⟩=>ho' pins s4 σ H4 y z' u w' Q I4 r2 r4 q4))
theorem S0{op op':CmpOp}{r r':R2}(ho:bB X (compareOp op) r) (ho':bB X (compareOp op') r') (ha:PE X a ta) (hb:PE X b tb) (hc:PE X c tc)
  (hm:lastMarks [op,op'] [b,c]=Ψ:=by with_unfolding_all rfl):PT X (.Compare a [op,op'] [b,c] pos) (G1 (G4 r r' ta tb tc)):=by
 intro pins s σ H Q I h;refine isTrue_chain (br (ha pins s σ H _ I h) λv s1 ⟨x,H1,I1,r1,q1⟩=>test_link (br (hb pins s1 σ H1 _ I1 q1) λu s2 ⟨y,H2,I2,r2,q2⟩ =>
  br (ho pins s2 σ H2 x y v u _ I2 r1 r2 q2) λd s3 ⟨z,H3,I3,r3,k,e,q3⟩=>?_)) hm
 subst e;cases r3;refine aju ?_;cases k with
 |false =>
  obtain⟨k',e',q'⟩:=q3;cases e';exact ite_ff ⟨H3,I3,q'⟩
 |true =>
  refine ite_tt (test_last (br (hc pins s3 σ H3 _ I3 q3) λw' s4 ⟨z',H4,I4,r4,q4⟩=>br (ho' pins s4 σ H4 y z' u w' _ I4 r2 r4 q4) λd' s5 ⟨z2,H5,I5,r5,k2,e2,q5⟩=>?_))
  subst e2;cases r5;exact aju ⟨H5,I5,q5⟩
theorem uF:(ι:Nat)<2^63:=by rw[aj7];decide
theorem VH:bB X (binaryOp .Add) (λx y H Q=>∃i j,x=.str i/\y=.str j/\i.length+j.length<=ι/\Q (.str (i++j)) H):=by
 intro pins s σ H x y v u Q I rx ry h;obtain⟨i,j,rfl,rfl,hz,q⟩:=h;obtain⟨t,rfl⟩:=rx;obtain⟨t',rfl⟩:=ry;exact add_str (λt' tk=>⟨.str (i++j),H,I.tok _,⟨_,rfl⟩,q⟩) hz
theorem vals1{x:V}{us:List Ξ}(r:Vals [x] us):∃u,us=[u]/\RelV x u:=by
 cases r with
 |cons r1 r2=>cases r2;exact⟨_,rfl,r1⟩
theorem vals2{x y:V}{us:List Ξ}(r:Vals [x,y] us):∃u w',us=[u,w']/\RelV x u/\RelV y w':=by
 cases r with
 |cons r1 r2 =>
  cases r2 with
  |cons r3 r4=>cases r4;exact⟨_,_,rfl,r1,r3⟩
theorem ae4(hc:X.calm=Θ):dI X (.builtin "max") (λxs H Q=>∃i j,xs=[.int i,.int j]/\Q (.int (if j>i then j else i)) H):=by
 intro pins s σ H xs us Q I r h;obtain⟨i,j,rfl,q⟩:=h;obtain⟨u,w',rfl,⟨t,rfl⟩,⟨t',rfl⟩⟩:=vals2 r;refine max_two_ints (I.ok.hd hc) λh' tk k=>⟨_,H,I.kept k,?_,q⟩
 by_cases hj:j>i
 ·rw[if_pos hj,if_pos hj];exact⟨_,rfl⟩
 ·rw[if_neg hj,if_neg hj];exact⟨_,rfl⟩
theorem ae3(hc:X.calm=Θ):dI X (.builtin "min") (λxs H Q=>∃i j,xs=[.int i,.int j]/\Q (.int (if j<i then j else i)) H):=by
 intro pins s σ H xs us Q I r h;obtain⟨i,j,rfl,q⟩:=h;obtain⟨u,w',rfl,⟨t,rfl⟩,⟨t',rfl⟩⟩:=vals2 r;refine min_two_ints (I.ok.hd hc) λh' tk k=>⟨_,H,I.kept k,?_,q⟩
 by_cases hj:j<i
 ·rw[if_pos hj,if_pos hj];exact⟨_,rfl⟩
 ·rw[if_neg hj,if_neg hj];exact⟨_,rfl⟩
end
structure F8 (h:χ) (x dx C:Ω) (mA:Str->Option Ξ):Prop where
 obj:h.get? x=ζ (PySem.W.instObj C dx)
 ns:h.Ns1 dx mA
 ne:dx≠x
theorem Ze{h:χ}{dx:Ω}{mA:Str->Option Ξ}(n:h.Ns1 dx mA):∃od,h.get? dx=ζ od/\∀name,PySem.W.lookIn name od=ζ (mA name):=by
 obtain⟨o,es,ep,ho,hd,hk,_,hm⟩:=n;refine⟨o,ho,λname=>?_⟩
 have e:=hm name;unfold nsFind findBy at e;rw[<-Array.find?_toList]at e;unfold PySem.W.lookIn;rw[hd];dsimp only;split
 ·rename_i y q;rw[q]at e;exact congrArg ζ e
 ·rename_i q;rw[q]at e;have a:es.toList.any (·.refKey)=Ψ:=by
   rw[List.any_eq_false];intro y hy;obtain⟨z,t,hkey⟩:=hk y (ak4.mp hy);simp[DictEntry.refKey,hkey]
  have a':¬es.toList.any (·.refKey)=Θ:=by rw[a];exact aiD
  rw[if_neg a'];exact congrArg ζ e
theorem F8.look{h:χ}{x dx C:Ω}{mA:Str->Option Ξ}(I:F8 h x dx C mA):∃od,PySem.W.InstAt h x (PySem.W.instObj C dx) C (ζ od)/\∀name,PySem.W.lookIn name od=ζ (mA name) :=
 let⟨od,ho,hl⟩:=Ze I.ns
 ⟨od,⟨I.obj,rfl,rfl,ho⟩,hl⟩
section
variable {P:τ}{w:ψ}{H H':Hp}{h h':χ}{a C dx:Ω}{fs fs':List (Str×V)}
theorem aaB(hok:cL P w H h) (e:H a=ζ (.ins C dx fs)):∃mA,F8 h a dx C mA/\(∀f,F5 (fs.lookup f) (mA f))/\PySem.Within mA (fs.map (·.1))/\fs.length<=1000/\H dx=ζ (.own a):=by
 obtain⟨d,z,ne,ob,mA,n,r,q⟩:=(show eK P w H h a (.ins C dx fs)from hok a _ e)
 exact⟨mA,⟨ob,n,ne⟩,r,q,z,d⟩
end
structure Gi (K:Δ) (C:Ω):Prop where
 pg:PySem.W.plainGet K C Str.empty=Θ
 hd:PySem.W.hasDictIn K C=Θ
 po:PySem.W.plainOver K C=Θ
 sa:PySem.W.findIn K (.ref C) "__setattr__"=ζ (ζ (.builtin "object.__setattr__"))
theorem Gi.get{K:Δ}{C:Ω}(c:Gi K C) (f:Str):PySem.W.plainGet K C f=Θ:=c.pg
section
variable {X:Cx}{pins:List (Ω×Obj)}{σ:St}{H:Hp}{s:ε}{A:ω}{E:Ξ->ε->Prop}{Q:Ξ->ε->Prop}{c:Ξ}{b:Bool}
inductive iF (K:Δ) (H:Hp):V->Ξ->Prop where
 |aM:iF K H .aM (.type "NoneType")
 |bl (x:Bool):iF K H (.bl x) (.type "bool")
 |int (i:Int):iF K H (.int i) (.type "int")
 |str (x:Str):iF K H (.str x) (.type "str")
 |rC (x:UInt64):iF K H (.rC x) (.type "float")
 |lst {a:Ω}{xs:List V}(e:H a=ζ (.lst xs)):iF K H (.ref a) (.type "list")
 |eT {a:Ω}{o:Obj}{xs:List V}(e:H a=ζ (.eT o (.lst xs))):iF K H (.ref a) (.type "list")
 |tup {a:Ω}{xs:List V}(e:H a=ζ (.tup xs)):iF K H (.ref a) (.type "tuple")
 |dK {a:Ω}{kvs:List (Key×V)}(e:H a=ζ (.dK kvs)):iF K H (.ref a) (.type "dict")
 |dT {a:Ω}{kvs:List (List Key×V)}(e:H a=ζ (.dT kvs)):iF K H (.ref a) (.type "dict")
 |ins {a C dx:Ω}{fs:List (Str×V)}(e:H a=ζ (.ins C dx fs)) (cl:Gi K C) (ha:PySem.W.findIn K (.ref C) "__class__"=ζ (ζ (.builtin "object.__class__")))
   (hn:PySem.W.specialIn K (.builtin "object.__class__") "__get__"=ζ (ζ (.builtin "getset_descriptor.__get__"))) (htk:PySem.W.takesIn K (.builtin "object.__class__")=ζ Θ)
   (hm:PySem.W.mroIn K C (.type "object")=ζ Θ):iF K H (.ref a) (.ref C)
theorem aas{x:V}{u t:Ξ}(I:Inv X pins σ H s) (rx:RelV x u) (ty:iF X.K H x t) (e:PySem.W.kitOne X.K t c=ζ b) (h:∀tk,Q (.bool b) {s with toks:=tk}) :
  wpAny (model X.prog X.w) A (call (.builtin "isinstance") [u,c]) Q E s:=by
 cases ty with
 |aM=>cases(show u=Value.none from rx);exact ai6 PySem.W.kitx_none I.dU True.intro e (λz=>nomatch z) h
 |bl y=>cases(show u=Value.bool y from rx);exact ai6 PySem.W.kitx_bool I.dU True.intro e (λz=>nomatch z) h
 |int i=>obtain⟨t,q⟩:=(show ∃t,u=Value.int i t from rx);cases q;exact ai6 PySem.W.kitx_int I.dU True.intro e (λz=>nomatch z) h
 |str y=>obtain⟨t,q⟩:=(show ∃t,u=Value.str y t from rx);cases q;exact ai6 PySem.W.kitx_str I.dU True.intro e (λz=>nomatch z) h
 |rC y=>obtain⟨t,q⟩:=(show ∃t,u=Value.float y t from rx);cases q;exact ai6 PySem.W.kitx_float I.dU True.intro e (λz=>nomatch z) h
 | @lst a xs ea =>
  cases(show u=Value.ref a from rx)
  obtain⟨_,_,n,_,h1⟩:=(show eK X.prog X.w H s.heap a (.lst xs)from I.hok a _ ea)
  exact ai6 alS I.dU ⟨_,h1,rfl⟩ e (λz=>nomatch z) h
 | @eT a ob xs ea =>
  cases(show u=Value.ref a from rx)
  obtain⟨_,_,_,n,_,h1⟩:=(show eK X.prog X.w H s.heap a (.eT ob (.lst xs))from I.hok a _ ea)
  exact ai6 alS I.dU ⟨_,h1,rfl⟩ e (λz=>nomatch z) h
 | @tup a xs ea =>
  cases(show u=Value.ref a from rx)
  obtain⟨_,_,_,p⟩:=(show eK X.prog X.w H s.heap a (.tup xs)from I.hok a _ ea)
  obtain⟨o,h1,h2,_⟩:=p;exact ai6 PySem.W.kitx_tuple I.dU ⟨o,h1,h2⟩ e (λz=>nomatch z) h
 | @dK a kvs ea =>
  cases(show u=Value.ref a from rx)
  obtain⟨_,_,vs,_,p⟩:=(show eK X.prog X.w H s.heap a (.dK kvs)from I.hok a _ ea)
  obtain⟨o,es,ep,h1,h2,_⟩:=p;exact ai6 ak5 I.dU ⟨o,h1,h2.1⟩ e (λz=>nomatch z) h
 | @dT a kvs ea =>
  cases(show u=Value.ref a from rx)
  obtain⟨_,_,xs,_,o,es,ep,h1,h2,_⟩:=(show eK X.prog X.w H s.heap a (.dT kvs)from I.hok a _ ea)
  exact ai6 ak5 I.dU ⟨o,h1,h2.1⟩ e (λz=>nomatch z) h
 | @ins a C dx fs ea cl ha hn htk hm =>
  cases(show u=Value.ref a from rx)
  obtain⟨mA,O,_⟩:=aaB I.hok ea;obtain⟨od,J,_⟩:=O.look;exact ai6 (PySem.W.kitx_own (cl.get _) cl.hd ha hn htk hm) I.dU J e (λz=>nomatch z) h
end
structure dG (k:Nat) (A:ω):Prop where
 hd:A.handled=θ
 dp:A.depth+3*k+5<recursionLimit
 un:A.units+16*k+200<aba
theorem dG.mono{j k:Nat}{A:ω}(r:dG k A) (h:j<=k):dG j A:=⟨r.hd,by have:=r.dp;omega,by have:=r.un;omega⟩
theorem dG.deeper{k:Nat}{A:ω}(r:dG (k+1) A) (env:Env):dG k (A.deeper env) :=
 ⟨r.hd,by have:=r.dp;show A.depth+1+3*k+5<_;omega,by have:=r.un;show A.units+3+16*k+200<_;omega⟩
theorem dG.depth{k:Nat}{A:ω}(r:dG k A):A.depth<recursionLimit:=by have:=r.dp;omega
theorem dG.units{k:Nat}{A:ω}(r:dG k A):A.units+64<aba:=by have:=r.un;omega
def PL:TA:=λ_ H Q=>Q [] H
def P6(ta:TE) (tr:TA):TA:=λσ H Q=>ta σ H λx H1=>tr σ H1 λxs H2=>Q (x::xs) H2
section
variable {X:Cx}{e:π}{es:List π}{te:TE}{t:TA}{pos:Pos}
theorem jf:PA X [] PL:=λ_ _ _ _ H Q I h=>Calls.spliced_nil ⟨[],H,I,.nil,h⟩
theorem jg(ha:PE X e te) (hr:PA X es t) (hs:μ (e::es) X.env=(Ψ,eval e X.env)::μ es X.env:=by rfl):PA X (e::es) (P6 te t):=by
 intro pos pins s σ H Q I h;rw[hs];show wpAny _ _ (spliced ((Ψ,eval e X.env)::aaQ pos (μ es X.env))) _ _ s;refine Calls.spliced_cons (br (ha pins s σ H _ I h) λu s1 ⟨x,H1,I1,r1,q1⟩=>?_)
 exact br (hr pos pins s1 σ H1 _ I1 q1) λus s2 ⟨xs,H2,I2,r2,q2⟩=>⟨x::xs,H2,I2,.cons r1 r2,q2⟩
def Px(t:TA):TE:=λσ H Q=>t σ H λxs H1=>xs.length<=ι/\∀p,H1 p=θ->Q (.ref p) (upd H1 p (.tup xs))
def PN(t:TA):TE:=λσ H Q=>t σ H λxs H1=>xs.length<=ι/\∀p,H1 p=θ->Q (.ref p) (upd H1 p (.lst xs))
theorem UK{x1}(h:PA X es t):PE X (.Tuple es x1 pos) (Px t):=by
 intro pins s σ H Q I hq;refine wpAny_Tuple_spliced (br (h pos pins s σ H _ I hq) λus s1 ⟨xs,H1,I1,r,z,q⟩=>⟨by rw[<-r.length];exact z,?_⟩)
 have hf:H1 s1.heap.objs.size=θ:=I1.hok.fresh (aij _);refine⟨.ref s1.heap.objs.size,upd H1 s1.heap.objs.size (.tup xs),I1.laid (t':=s1.toks) (λb u e=>air _ e) (aij _) ?_,rfl,q _ hf⟩
 exact⟨z,us,r,⟨_,aiI _ rfl,rfl,⟨_,rfl⟩,rfl⟩⟩
theorem Ie(h:PA X es t):PE X (.List es pos) (PN t):=by
 intro pins s σ H Q I hq;refine wpAny_List_spliced (br (h pos pins s σ H _ I hq) λus s1 ⟨xs,H1,I1,r,z,q⟩=>⟨by rw[<-r.length];exact z,?_⟩)
 have hf:H1 s1.heap.objs.size=θ:=I1.hok.fresh (aij _);refine⟨.ref s1.heap.objs.size,upd H1 s1.heap.objs.size (.lst xs),I1.laid (t':=s1.toks) (λb u e=>air _ e) (aij _) ?_,rfl,q _ hf⟩
 exact⟨z,us,0,r,aiI _ rfl⟩
end
abbrev Sp:=List V->Hp->VK->XK->Prop
abbrev l7:=List Env->Hp->ε->XK->Ξ->ε->Prop
structure sM (P:τ) (w:ψ) (K:Δ) (mg:Str->Option Ξ) (base:χ) (A:ω) (outer:List Env) (s:ε) (H:Hp):Prop where
 frames:A.frames=ζ outer
 mod:Mod K mg base
 bs:∀b o,base.get? b=ζ o->s.heap.get? b=ζ o/\H b=θ
 gV:base.objs.size<=s.heap.objs.size
 gv:s.heap.FunFrames base outer
 jv:∀b∈frs outer,H b=θ
 hok:cL P w H s.heap
 bare:aa0 s.gens
def CE(outer:List Env) (P:τ) (w:ψ) (H:Hp) (s:ε) (Q:VK) (u:Ξ) (s':ε):Prop :=
 ∃v H',s'.os=s.os/\aa0 s'.gens/\Un (frs outer) [] H H' s.heap s'.heap/\cL P w H' s'.heap/\RelV v u/\Q v H'
def CR(CX:l7) (outer:List Env) (P:τ) (w:ψ) (H:Hp) (s:ε) (Q:VK) (E:XK) (r:abI) (s':ε):Prop :=
 match r with
 |.ok (.ret u)=>CE outer P w H s Q u s'
 |.ok _=>False
 |.error e=>CX outer H s E e s'
structure bK (P:τ) (w:ψ) (K:Δ) (mg:Str->Option Ξ) (base:χ) (CX:l7) (k:Nat) (f:Ω) (fd:ο) (ps:List Str) (sp:Sp):Prop where
 len:∀vs H Q E,sp vs H Q E->vs.length=ps.length
 run:∀(A:ω) (outer:List Env) (s:ε) (H:Hp) (args:Args) (us:List Ξ) (vs:List V) (Q:VK) (E:XK),dG k A->sM P w K mg base A outer s H->abF s fd args (ps.zip us)->Vals vs us->sp vs H Q E ->
  codeAny (model P w) A (.call (.ref f) args) (CR CX outer P w H s Q E) s
section
variable {X:Cx}{pins:List (Ω×Obj)}{σ:St}{H:Hp}{s s':ε}
theorem Inv.LH(I:Inv X pins σ H s):sM X.prog X.w X.K X.mg X.base X.A X.stack s H :=
 ⟨I.ok.frames,I.ok.mod,I.bs,aiT I.ok.gV I.sz,I.stack,I.Ay,I.hok,I.bare⟩
theorem Inv.after{Q:VK}{u:Ξ}(I:Inv X pins σ H s) (h:CE X.stack X.prog X.w H s Q u s'):EP X pins σ Q u s':=by
 obtain⟨v,H',os,bare,un,hok,r,q⟩:=h;obtain⟨hh,g,d,t,os'⟩:=s';obtain rfl:os'=s.os:=os;exact⟨v,H',I.call (h':=hh) (g':=g) (d':=d) (t':=t) (ch:=[]) un hok bare (λb z=>absurd z (by simp)),r,q⟩
end
def G5(sp:Sp) (nh:List V) (E:XK) (t:TA):TE:=λσ H Q=>t σ H λvs H1=>sp (vs++nh) H1 Q E
def Binds(K:Δ) (fd:ο) (ps:List Str) (ds:List Ξ):Prop :=
 ∀(s:ε) (us:List Ξ),K.In s.heap->(us++ds).length=ps.length->abF s fd ⟨us,[]⟩ (ps.zip (us++ds))
theorem Binds.all{K:Δ}{fd:ο}{ps:List Str}(h:∀us:List Ξ,us.length=ps.length->bindArgs fd ⟨us,[]⟩=pure (ps.zip us)):Binds K fd ps []:=λs us _ hl=>by
 rw[ajv]at hl ⊢;exact .of_eq (h us hl)
def Passes(CX:l7) (X:Cx) (E:XK):Prop:=∀(pins:List (Ω×Obj)) (σ:St) (H:Hp) (s:ε) (e:Ξ) (s':ε),Inv X pins σ H s->CX X.stack H s E e s'->X.xe e s'
section
variable {X:Cx}{CX:l7}{k:Nat}{f C:Ω}{fd:ο}{ps:List Str}{sp:Sp}{nh:List V}{ds:List Ξ}{E:XK}{x m:Str}{p pos apos:Pos}{e o:π}{es:List π}{ta:TE}{t:TA}
theorem R6{pins:List (Ω×Obj)}{σ:St}{H:Hp}{s:ε}{Q:VK}{us:List Ξ}{vs:List V}(F:bK X.prog X.w X.K X.mg X.base CX k f fd ps sp) (hr:dG k X.A) (hb:Binds X.K fd ps ds) (hd:Vals nh ds) (hx:Passes CX X E)
  (I:Inv X pins σ H s) (r:Vals vs us) (h:sp (vs++nh) H Q E):wpAny (model X.prog X.w) X.A (call (.ref f) us) (EP X pins σ Q) X.xe s:=by
 have r2:Vals (vs++nh) (us++ds):=r.append hd;have hl:(us++ds).length=ps.length:=by rw[<-r2.length];exact F.len _ _ _ _ h
 refine aj8 (aji (F.run X.A X.stack s H ⟨us,[]⟩ (us++ds) (vs++nh) Q E hr I.LH (hb s us I.dU hl) r2 h) λr s' hq=>?_)
 cases r with
 |error e=>exact hx pins σ H s e s' I hq
 |ok fl =>
  cases fl with
  |ret u=>exact I.after hq
  |next=>exact False.elim hq
  |brk=>exact False.elim hq
  |cont=>exact False.elim hq
theorem Ih(F:bK X.prog X.w X.K X.mg X.base CX k f fd ps sp) (hr:dG k X.A) (hg:Gl X x) (hm:X.mg x=ζ (.ref f)) (hk:PySem.W.keepIn X.K (.ref f)=Θ) (hb:Binds X.K fd ps ds) (hd:Vals nh ds) (hx:Passes CX X E)
  (ha:PA X (e::es) t) (hdb:(x==("__debug__":Str))=Ψ:=by decide) (he:μ (e::es) X.env=(Ψ,eval e X.env)::μ es X.env:=by rfl) (hpl:(aaQ pos (μ es X.env)).any (·.1)=Ψ:=by rfl) :
  PE X (.Call (.Name x p) (e::es) [] pos) (G5 sp nh E t):=by
 intro pins s σ H Q I h;refine akt (uH I hg hm ?_ hdb);refine alT (h₀:=X.base) I.ok.mod.mW hk (br (ha pos pins s σ H _ I h) λus s1 ⟨vs,H1,I1,r,q⟩=>⟨I1.dU,?_⟩) he hpl
 exact R6 F hr hb hd hx I1 r q
end
structure b6 (N P:List Str) (sc:aa5):Prop where
 kind:sc.kind=.function
 co:sc.isCoroutine=Ψ
 gen:sc.isGenerator=Ψ
 nd:N.Nodup
 pre:N.take P.length=P
 par:∀x∈P,sc.names.lookup x=ζ .local\/sc.names.lookup x=ζ .cell
 XS:∀y∈sc.names,y.2≠.free
theorem M0{kindOf:Str->Option aaN}{x:Str}:∀{binds:List (Str×Ξ)}{m:Str->Option Ξ},(∀v,(x,v)∉binds)->bindL kindOf binds m x=m x
 |[],_,_=>rfl
 |(n,v)::r,m,h=>by
  unfold bindL;rw[M0 λw hw=>h w (aiN _ hw)]
  split
  ·have:x≠n:=by rintro rfl;exact h v ai1
   simp[this]
  ·rfl
theorem M3{kindOf:Str->Option aaN}{x:Str}:∀{binds:List (Str×Ξ)}{m:Str->Option Ξ},(∀v,(x,v)∉binds)->bindC kindOf binds m x=m x
 |[],_,_=>rfl
 |(n,v)::r,m,h=>by
  unfold bindC;rw[M3 λw hw=>h w (aiN _ hw)]
  split
  ·rfl
  ·have:x≠n:=by rintro rfl;exact h v ai1
   simp[this]
theorem M1{kindOf:Str->Option aaN}{x:Str}{v:Ξ}:∀{P:List Str}{vs:List Ξ}{i:Nat}{m:Str->Option Ξ},P.Nodup->P[i]? = ζ x->vs[i]? = ζ v->kindOf x=ζ .local ->
  bindL kindOf (P.zip vs) m x=ζ v
 |[],_,_,_,_,h,_,_=>by simp at h
 |_::_,[],_,_,_,_,h,_=>by simp at h
 |p::P,w::vs,0,m,nd,h1,h2,hk=>by
  simp at h1 h2;subst h1;subst h2;show bindL kindOf ((p,w)::P.zip vs) m p=_;unfold bindL;rw[M0 λv hv=>(ajI.mp nd).1 (aku hv).1,if_pos hk]
  simp
 |p::P,w::vs,i+1,m,nd,h1,h2,hk=>by
  show bindL kindOf ((p,w)::P.zip vs) m x=_;unfold bindL;exact M1 (i:=i) (ajI.mp nd).2 (by simpa using h1) (by simpa using h2) hk
theorem M4{kindOf:Str->Option aaN}{x:Str}{v:Ξ}:∀{P:List Str}{vs:List Ξ}{i:Nat}{m:Str->Option Ξ},P.Nodup->P[i]? = ζ x->vs[i]? = ζ v->kindOf x≠ζ .local ->
  bindC kindOf (P.zip vs) m x=ζ v
 |[],_,_,_,_,h,_,_=>by simp at h
 |_::_,[],_,_,_,_,h,_=>by simp at h
 |p::P,w::vs,0,m,nd,h1,h2,hk=>by
  simp at h1 h2;subst h1;subst h2;show bindC kindOf ((p,w)::P.zip vs) m p=_;unfold bindC;rw[M3 λv hv=>(ajI.mp nd).1 (aku hv).1,if_neg hk]
  simp
 |p::P,w::vs,i+1,m,nd,h1,h2,hk=>by
  show bindC kindOf ((p,w)::P.zip vs) m x=_;unfold bindC;exact M4 (i:=i) (ajI.mp nd).2 (by simpa using h1) (by simpa using h2) hk
def start(N:List Str) (vs:List V):St:=vs.map ζ++ν (N.length-vs.length) θ
def fu(CX:l7) (P:τ) (w:ψ) (K:Δ) (mg:Str->Option Ξ) (base:χ) (N:List Str) (qual:Str) (scope:aa5) (f:Ω) (cd:Ξ) (A:ω) (outer:List Env) (s:ε) (H:Hp) (E:XK):Cx where
 prog:=P
 w:=w
 K:=K
 mg:=mg
 base:=base
 A:=A.deeper (envOfC qual scope s.heap.objs.size f cd)
 N:=N
 s₀:=s
 H₀:=H
 env:=envOfC qual scope s.heap.objs.size f cd
 outer:=outer
 stack:=envOfC qual scope s.heap.objs.size f cd::outer
 ex:=[]
 calm:=Θ
 fn:=λ_=>Θ
 pn:=[]
 xe:=λe s'=>wpAny (model P w) (A.deeper (envOfC qual scope s.heap.objs.size f cd)) (leaving (envOfC qual scope s.heap.objs.size f cd) e) (λ_ s''=>CX outer H s E e s'') (λe' s''=>CX outer H s E e' s'') s'
theorem Mi{sc:aa5}{n:Nat}{x:Str}(h:sc.names.lookup x=ζ .cell):∃c,(cellsFrom n sc.names []).lookup x=ζ c:=by
 have q:=aj9 sc.names n [] (.inl h);exact ak6.mp q
theorem Km{CX:l7}{P:τ}{w:ψ}{K:Δ}{mg:Str->Option Ξ}{base:χ}{N ps:List Str}{qual:Str}{scope:aa5}{f:Ω}{cd:Ξ}{A:ω}{outer:List Env}{s s1:ε}{H:Hp}{E:XK}{us:List Ξ}{vs:List V}
  (S:b6 N ps scope) (hd:A.handled=θ) (e0:sM P w K mg base A outer s H) (hl:vs.length=ps.length) (r:Vals vs us)
  (x:InCallC s s.heap.objs.size (bindL (envOfC qual scope s.heap.objs.size f cd).kindOf (ps.zip us) λ_=>θ) (cellsFrom (s.heap.objs.size+1) scope.names []) (bindC (envOfC qual scope s.heap.objs.size f cd).kindOf (ps.zip us) λ_=>θ) s1) :
  Inv (fu CX P w K mg base N qual scope f cd A outer s H E) [] (start N vs) H s1:=by
 have hpl:ps.length<=N.length:=by have:=congrArg List.length S.pre;rw[ajw]at this;omega
 obtain⟨h1,tk,rfl,hk⟩:=x.done;have ux:∀b:Ω,b∉(fu CX P w K mg base N qual scope f cd A outer s H E).ex:=λb z=>absurd (show b∈([]:List Ω)from z) (by simp)
 refine⟨⟨e0.mod,S.kind,rfl,rfl,aij _,λy z c h1 h2=>?_,λy hy=>?_,λy c _ h=>?_,λ_=>hd,Around.frames_deeper e0.frames,.inr ⟨rfl,rfl⟩,λb z=>absurd z (ux b),e0.bs,e0.gV,λb _ _=>ux b,λb z=>absurd z (ux b),e0.gv,e0.jv⟩,
  rfl,e0.bare,Un.kept hk,⟨_,x.toInCall.ns,λi y v h1 h2 h3=>?_⟩,λy c h=>⟨_,x.cell y c h⟩,e0.hok.fresh (aij _),λy c h=>?_,λp hp=>absurd (show p∈([]:List (Ω×Obj))from hp) (by simp),e0.hok.kept hk,?_⟩
 ·exact name_of_addr x.apart (ajx h1) (ajx h2)
 ·have hy:scope.names.lookup y=ζ .cell\/scope.names.lookup y=ζ .free:=hy
  rcases hy with hy|hy
  ·exact Mi hy
  ·exact absurd rfl (S.XS _ (ajx hy))
 ·exact ajG (x.above y c (ajx h))
 ·have hi:i<vs.length:=by
   unfold start at h2
   by_cases hi:i<vs.length
   ·exact hi
   ·rw[ajd (by simpa using hi)]at h2
    rw[akv]at h2;split at h2<;>cases h2
  have ha:vs[i]? = ζ v:=by
   unfold start at h2;rw[ai2 (by simpa using hi),aiL]at h2
   cases e:vs[i]? with
   |none=>rw[e]at h2;cases h2
   |some a=>rw[e]at h2;cases h2;rfl
  obtain⟨u,hu,rv⟩:=r.get ha;have hp:ps[i]? = ζ y:=by
   rw[<-S.pre,akw (by omega)];exact h1
  have Jp:ps.Nodup:=by rw[<-S.pre];exact S.nd.sublist (ak7 _ _)
  refine⟨u,rv,?_⟩
  rcases S.par y (aiP hp)with k|k
  ·exact .inl ⟨k,M1 Jp hp hu k⟩
  ·obtain⟨c,e⟩:=Mi (n:=s.heap.objs.size+1) k;refine .inr ⟨.inl k,c,e,?_⟩;have q:=x.cell y c e;rw[M4 Jp hp hu (by show scope.names.lookup y≠_;rw[k];decide)]at q
   exact q
 ·exact e0.hok.fresh (ajG (x.above y c (ajx h)))
 ·unfold start;show _=N.length;rw[ai3,aiu,akx];omega
theorem Lo{CX:l7}{P:τ}{w:ψ}{K:Δ}{mg:Str->Option Ξ}{base:χ}{k:Nat}{f:Ω}{name qual:Str}{params:Arguments}{body:List aaM}{scope:aa5}{dV kV doc pm cdv ct oc:Ξ}{an od:Option Ω}
  {osl:Array (Option Ξ)}{N ps:List Str}{sp:Sp}(lk:K.lookup f=ζ ⟨oc,od,.func (PySem.W.fnOf name qual params body scope dV kV doc pm an cdv ct),osl⟩) (hcd:PySem.W.codeIn K cdv qual=Θ) (S:b6 N ps scope)
  (len:∀vs H Q E,sp vs H Q E->vs.length=ps.length)
  (hbody:∀(A:ω) (outer:List Env) (s:ε) (H:Hp) (vs:List V) (Q:VK) (E:XK),dG k (A.deeper (envOfC qual scope s.heap.objs.size f cdv))->sp vs H Q E ->
   ∃t,eu (fu CX P w K mg base N qual scope f cdv A outer s H E) body t/\t {nx:=λ_ H'=>Q .aM H',rt:=Q} (start N vs) H) :
  bK P w K mg base CX (k+1) f (PySem.W.fnOf name qual params body scope dV kV doc pm an cdv ct) ps sp:=by
 refine⟨len,λA outer s H args us vs Q E hr e0 hb r jr=>?_⟩
 have hl:=len _ _ _ _ jr;have KX:K.In s.heap:=e0.mod.mW.keeps λb o e=>(e0.bs b o e).1
 have lim:s.heap.NoLimit:=e0.mod.nolimit.keeps λb o e=>(e0.bs b o e).1
 have hkind:∀y∈ps.zip us,scope.names.lookup y.1=ζ .local\/(scope.names.lookup y.1=ζ .cell/\((cellsFrom (s.heap.objs.size+1) scope.names []).lookup y.1).isSome=Θ):=fun⟨n,v⟩ hy=>by
  rcases S.par n (aku hy).1 with q|q
  ·exact .inl q
  ·exact .inr ⟨q,aj9 _ _ _ (.inl q)⟩
 refine alU hr.depth (KX _ _ lk) rfl S.co S.gen rfl (alV KX hcd) (hb _ _ _ _ ?_);refine alW S.kind hkind λenv he s1 x=>?_
 subst he;refine⟨lim.keeps x.toInCall.keep,codeAny_func ?_⟩;obtain⟨t,ht,hq⟩:=hbody A outer s H vs Q E (hr.deeper _) jr;have I:Inv (fu CX P w K mg base N qual scope f cdv A outer s H E) [] (start N vs) H s1:=Km S hr.hd e0 hl r x;refine aiO (ht [] s1 (start N vs) H _ I hq) (λfl s' hs=>?_) λe s' hs=>hs
 have fin:∀{σ':St}{H':Hp}{v:V}{u:Ξ},Inv (fu CX P w K mg base N qual scope f cdv A outer s H E) [] σ' H' s'->RelV v u->Q v H'->CE outer P w H s Q u s' :=
  fun{σ' H' v u} J rv q=>⟨v,H',J.os,J.bare,J.base,J.hok,rv,q⟩
 cases fl with
 |ret u =>
  obtain⟨v,σ',H',J,rv,q⟩:=hs;exact fin J rv q
 |next =>
  obtain⟨σ',H',J,q⟩:=hs;exact fin (v:=V.aM) (u:=Value.none) J rfl q
 |brk =>
  obtain⟨_,_,_,q⟩:=hs;exact False.elim q
 |cont =>
  obtain⟨_,_,_,q⟩:=hs;exact False.elim q
section
variable {X:Cx}{x:Str}{p pos:Pos}{e:π}{es:List π}{t:TA}{id T:String}{r:List V->Hp->VK->Prop}
def G6(r:List V->Hp->VK->Prop) (t:TA):TE:=λσ H Q=>t σ H λvs H1=>r vs H1 Q
theorem wN(hc:dI X (.builtin id) r) (hg:Gl X x) (hm:X.mg x=θ) (hv:bootBuiltins x=ζ (.builtin id)) (ha:PA X (e::es) t) (hn:x≠"__name__":=by decide) (hdb:(x==("__debug__":Str))=Ψ:=by decide)
  (he:μ (e::es) X.env=(Ψ,eval e X.env)::μ es X.env:=by rfl) (hpl:(aaQ pos (μ es X.env)).any (·.1)=Ψ:=by rfl):PE X (.Call (.Name x p) (e::es) [] pos) (G6 r t):=by
 intro pins s σ H Q I h;refine akt (om I hg hm hv ?_ hn hdb);exact PyProof.Rows.callWith_builtin1 (br (ha pos pins s σ H _ I h) λus s1 ⟨vs,H1,I1,r1,q1⟩=>hc pins s1 σ H1 vs us Q I1 r1 q1) he hpl
theorem mO(hc:dI X (.type T) r) (hg:Gl X x) (hm:X.mg x=θ) (hv:bootBuiltins x=ζ (.type T)) (ha:PA X (e::es) t) (hn:x≠"__name__":=by decide) (hdb:(x==("__debug__":Str))=Ψ:=by decide)
  (he:μ (e::es) X.env=(Ψ,eval e X.env)::μ es X.env:=by rfl) (hpl:(aaQ pos (μ es X.env)).any (·.1)=Ψ:=by rfl):PE X (.Call (.Name x p) (e::es) [] pos) (G6 r t):=by
 intro pins s σ H Q I h;refine akt (om I hg hm hv ?_ hn hdb);exact aj4 (br (ha pos pins s σ H _ I h) λus s1 ⟨vs,H1,I1,r1,q1⟩=>hc pins s1 σ H1 vs us Q I1 r1 q1) he hpl
end
end L2
namespace HT
open PySem PyProof.Rows
section
variable {prog:τ}{w:ψ}{A:ω}{E:Ξ->ε->Prop}{s:ε}
theorem ae1{t b:Ω}{vs ws:List Ξ}{Q:Ξ->ε->Prop}(ht:IsTup s.heap t vs.toArray) (hb:IsTup s.heap b ws.toArray) (hv:vs≠[])
  (h1:ws=[]->Q (.ref t) s) (h2:ws≠[]->Q (.ref s.heap.objs.size) {s with heap:=s.heap.push {cls:=.type "tuple",data:=.seq (vs++ws).toArray} })
  (hsz:vs.length+ws.length<=ι):wpAny (model prog w) A (binaryOp .Add (.ref t) (.ref b)) Q E s:=by
 obtain⟨⟨cls,dd,data,sl⟩,ho,hc,n,hd⟩:=id ht;obtain⟨⟨cls2,dd2,data2,sl2⟩,ho2,hc2,n2,hd2⟩:=id hb;simp only at hc hd hc2 hd2;subst hc hd hc2 hd2;have e:vs.toArray++ws.toArray=(vs++ws).toArray:=by simp
 by_cases hw:ws=[]
 ·exact concat_meets ⟨_,ho,rfl⟩ ⟨_,ho2,rfl⟩ noFill_tuple_add seq_tuple_add alX alY (alZ _ _)
   (tuple_addW1 t b vs.toArray ws.toArray n n2 dd dd2 sl sl2 (by simpa using hv) (by simp[hw])) ⟨ho,ho2,h1 hw⟩
 ·refine concat_meets ⟨_,ho,rfl⟩ ⟨_,ho2,rfl⟩ noFill_tuple_add seq_tuple_add alX alY (alZ _ _)
   (tuple_addW2 t b vs.toArray ws.toArray n n2 dd dd2 sl sl2 (by simpa using hv) (by simpa using hw) (by rw[aiw,aiw];exact hsz)) ⟨ho,ho2,?_⟩
  rw[e];exact h2 hw
def eO(n d:Nat):Option Int->Nat
 |none=>d
 |some v=>if v<0 then(v+(n:Int)).toNat else min v.toNat n
theorem R0(n d k:Nat):eO n d (ζ (k:Int))=min k n:=by
 show(if(k:Int)<0 then((k:Int)+(n:Int)).toNat else min (k:Int).toNat n)=min k n
 rw[if_neg (by omega),aky]
end
end HT
namespace L2
open PySem PySem.Spec PyProof.Rows
abbrev TO:=St->Hp->(Option Int->Hp->Prop)->Prop
def PO(X:Cx) (e:Option π) (t:TO):Prop :=
 ∀(pins:List (Ω×Obj)) (s:ε) (σ:St) (H:Hp) (Q:Option Int->Hp->Prop),Inv X pins σ H s->t σ H Q ->
  wpAny (model X.prog X.w) X.A (evalPart e X.env) (λu s'=>∃o H',Inv X pins σ H' s'/\IsPart u o/\Q o H') X.xe s
def PK:TO:=λ_ H Q=>Q θ H
def PC(t:TE):TO:=λσ H Q=>t σ H λx H1=>∃i,x=.int i/\Q (ζ i) H1
section
variable {X:Cx}{e:π}{te:TE}{lo hi:Option π}{tl th:TO}{pos p2:Pos}
theorem Tz:PO X θ PK:=by
 intro pins s σ H Q I h;rw[evalPart_none];exact aii ⟨θ,H,I,.none,h⟩
theorem Tw(h:PE X e te):PO X (ζ e) (PC te):=by
 intro pins s σ H Q I hw;rw[evalPart_some];refine br (h pins s σ H _ I hw) λu s1 ⟨x,H1,I1,r1,q1⟩=>?_
 obtain⟨i,rfl,q⟩:=q1;obtain⟨t,rfl⟩:=r1;exact⟨ζ i,H1,I1,.int i t,q⟩
def Nk(X:Cx) (r:V->Option Int->Option Int->Hp->VK->Prop):Prop :=
 ∀(pins:List (Ω×Obj)) (s:ε) (σ:St) (H:Hp) (x:V) (v vl vu:Ξ) (lo hi:Option Int) (sl:Ω) (Q:VK),Inv X pins σ H s->RelV x v->s.heap.IsSliceOf sl vl vu .none->IsPart vl lo->IsPart vu hi->r x lo hi H Q ->
  ∃T id,typeLookup (.type T) "__getitem__"=pure (ζ (.builtin id))/\s.TypeIs v T/\wpAny (model X.prog X.w) X.A (getItem v (.ref sl)) (EP X pins σ Q) X.xe s
def Py(r:V->Option Int->Option Int->Hp->VK->Prop) (te:TE) (tl th:TO):TE:=λσ H Q=>te σ H λx H1=>tl σ H1 λl H2=>th σ H2 λu H3=>r x l u H3 Q
theorem UN{r:V->Option Int->Option Int->Hp->VK->Prop}(hr:Nk X r) (he:PE X e te) (hl:PO X lo tl) (hu:PO X hi th):PE X (.Subscript e (.Slice lo hi θ p2) pos) (Py r te tl th):=by
 intro pins s σ H Q I h;refine Subscript_ (br (he pins s σ H _ I h) λv s1 ⟨x,H1,I1,r1,q1⟩=>?_)
 refine wpAny_Slice (br (hl pins s1 σ H1 _ I1 q1) λvl s2 ⟨l,H2,I2,pl,q2⟩=>br (hu pins s2 σ H2 _ I2 q2) λvu s3 ⟨u,H3,I3,pu,q3⟩=>?_)
 rw[evalPart_none];refine aii ?_;have I4:Inv X pins σ H3 {s3 with heap:=s3.heap.push {cls:=.type "slice",data:=.fields #[vl,vu,.none]} }:=I3.kept (t':=s3.toks) λb ob q=>air _ q
 obtain⟨T,id,hT,ht,hg⟩:=hr pins {s3 with heap:=s3.heap.push {cls:=.type "slice",data:=.fields #[vl,vu,.none]} } σ H3 x v vl vu l u s3.heap.objs.size Q I4 r1 (Heap.IsSliceOf.new ..) pl pu q3
 show wpAny (model X.prog X.w) X.A (subscriptTail e (.Slice lo hi θ p2) v (.ref s3.heap.objs.size)) (EP X pins σ Q) X.xe {s3 with heap:=s3.heap.push {cls:=.type "slice",data:=.fields #[vl,vu,.none]} }
 exact tail_any (ops:=[.ref s3.heap.objs.size,v]) ht hT hg (by with_unfolding_all rfl)
def rM(xs:List V) (lo hi:Option Int):List V:=(xs.drop (HT.eO xs.length 0 lo)).take (HT.eO xs.length xs.length hi-HT.eO xs.length 0 lo)
theorem adO(xs:List V) (lo hi:Option Int):(rM xs lo hi).length<=xs.length:=by
 unfold rM;rw[ajw,List.length_drop];omega
def SJ(K:Δ):R2:=λx y H Q=>∃a b xs ys,x=.ref a/\y=.ref b/\dg K H a xs/\dg K H b ys/\xs≠[]/\xs.length+ys.length<=ι /\
 (ys=[]->Q (.ref a) H)/\(ys≠[]->∀p,H p=θ->Q (.ref p) (upd H p (.tup (xs++ys))))
theorem Vals.Bd{xs:List V}{us:List Ξ}(r:Vals xs us):us=[]↔xs=[]:=by
 cases r with
 |nil=>simp
 |cons _ _=>simp
theorem VF:bB X (binaryOp .Add) (SJ X.K):=by
 intro pins s σ H x y v u Q I rx ry h;obtain⟨a,b,xs,ys,rfl,rfl,ha,hb,hx,hz,q1,q2⟩:=h;cases rx;cases ry;obtain⟨its,r1,p1,_⟩:=I.tuple ha;obtain⟨its2,r2,p2,_⟩:=I.tuple hb;refine HT.ae1 p1 p2 (λz=>hx (r1.Bd.mp z)) (λz=>⟨.ref a,H,I,rfl,q1 (r2.Bd.mp z)⟩) (λz=>?_) (by rw[<-r1.length,<-r2.length];exact hz)
 refine⟨.ref s.heap.objs.size,_,I.laid (t':=s.toks) (o:=.tup (xs++ys)) (λb ob q=>air _ q) (aij _) ?_,rfl,q2 (λw=>z (r2.Bd.mpr w)) _ (I.hok.fresh (aij _))⟩
 exact⟨by rw[ai3];exact hz,_,r1.append r2,l0.new _ _⟩
end
def fL(n:Nat) (i:Int):Option Nat:=if 0<=i then(if i<n then ζ i.toNat else θ)else if -(n:Int)<=i then ζ (i+n).toNat else θ
def cF{α:Type}(xs:List α) (i:Int):Option α:=(fL xs.length i).bind λj=>xs[j]?
theorem Kd{n:Nat}{i:Int}{j:Nat}(h:fL n i=ζ j):seqIndex? i n=ζ j/\j<n/\-(n:Int)<=i/\i<n:=by
 unfold fL at h
 by_cases h0:0<=i
 ·rw[if_pos h0]at h
  by_cases h1:i<n
  ·rw[if_pos h1]at h;have e:i.toNat=j:=aiH h;exact⟨by rw[seqIndex_of h0 h1,e],by omega,by omega,h1⟩
  ·rw[if_neg h1]at h;cases h
 ·rw[if_neg h0]at h
  by_cases h1:-(n:Int)<=i
  ·rw[if_pos h1]at h;have e:(i+n).toNat=j:=aiH h;exact⟨by rw[seqIndex_neg (by omega) h1,e],by omega,h1,by omega⟩
  ·rw[if_neg h1]at h;cases h
theorem Nc{α:Type}{xs:List α}{i:Int}{v:α}(h:cF xs i=ζ v):∃j,seqIndex? i xs.length=ζ j/\xs[j]? = ζ v/\j<xs.length/\-(xs.length:Int)<=i/\i<xs.length:=by
 unfold cF at h;cases e:fL xs.length i with
 |none=>rw[e]at h;cases h
 |some j =>
  rw[e]at h;obtain⟨h1,h2,h3,h4⟩:=Kd e;exact⟨j,h1,h,h2,h3,h4⟩
theorem gX{α:Type}{xs:List α}{j:Nat}{v:α}(h:xs[j]? = ζ v):cF xs (j:Int)=ζ v:=by
 have hj:j<xs.length:=(aix.mp h).1;have e:fL xs.length (j:Int)=ζ j:=by
  unfold fL;rw[if_pos (by omega),if_pos (by omega)];simp
 unfold cF;rw[e];exact h
def Nm(b:π):Prop:=∀o i,subscripted b Ψ o i=operate [o,i] (getItem o i)
def vH(X:Cx) (r:R2):Prop :=
 ∀(value slice:π) (pins:List (Ω×Obj)) (s:ε) (σ:St) (H:Hp) (x y:V) (v u:Ξ) (Q:VK),Inv X pins σ H s->RelV x v->RelV y u->r x y H Q ->
  subscripted slice Ψ v u=operate [v,u] (getItem v u)->wpAny (model X.prog X.w) X.A (subscriptTail value slice v u) (EP X pins σ Q) X.xe s
def MtR(X:Cx) (id:String) (r:V->List V->Hp->VK->Prop):Prop :=
 ∀(pins:List (Ω×Obj)) (s:ε) (σ:St) (H:Hp) (x:V) (xs:List V) (v:Ξ) (us:List Ξ) (Q:VK),Inv X pins σ H s->RelV x v->Vals xs us->r x xs H Q ->
  wpAny (model X.prog X.w) X.A (call (.builtin id) (v::us)) (EP X pins σ Q) X.xe s
section
variable {X:Cx}{a b:π}{ta tb:TE}{pos:Pos}
theorem US{r:R2}(hr:vH X r) (ha:PE X a ta) (hb:PE X b tb) (hs:Nm b):PE X (.Subscript a b pos) (vZ r ta tb):=by
 intro pins s σ H Q I h;exact Subscript_ (FP ha hb I h λv u s2 x y H2 I2 rx ry q=>hr a b pins s2 σ H2 x y v u Q I2 rx ry q (hs _ _))
def SD(K:Δ):R2:=λx y H Q=>∃p xs i v,x=.ref p/\y=.int i/\bJ K H p xs/\cF xs i=ζ v/\Q v H
def SA(K:Δ):R2:=λx y H Q=>∃p xs i v,x=.ref p/\y=.int i/\dg K H p xs/\cF xs i=ζ v/\Q v H
theorem aal:vH X (SD X.K):=by
 intro value slice pins s σ H x y v u Q I rx ry h hs;obtain⟨p,xs,i,z,rfl,rfl,hq,he,q⟩:=h;cases rx;obtain⟨t,rfl⟩:=ry;obtain⟨its,r,pl,hz⟩:=I.list hq;obtain⟨j,h1,h2,h3,h4,h5⟩:=Nc he;obtain⟨w,ew,rw'⟩:=r.get h2;have hl:=r.length;have hn:=uF;have fin:EP X pins σ Q w s:=⟨z,H,I,rw',q⟩
 by_cases h0:0<=i
 ·have hj:i.toNat=j:=by
   rw[seqIndex_of h0 h5]at h1;exact aiH h1
  exact item_listR pl.isList h0 (by omega) (by rw[hj];simpa using ew) fin hs
 ·have hj:(i+(its.toArray.size:Int)).toNat=j:=by
   rw[seqIndex_neg (by omega) h4]at h1
   rw[aiw,<-hl];exact aiH h1
  exact subscriptTail_builtinR (x:=w) pl.isList.typeIs slot_list_getitem.lookup
   (wpAny_getItem_list_neg (Q:=λr s'=>r=w/\EP X pins σ Q r s') pl.isList (by omega) (by rw[aiw]<;>omega) (by omega) (by rw[hj];simpa using ew) ⟨rfl,fin⟩) hs
theorem aak:vH X (SA X.K):=by
 intro value slice pins s σ H x y v u Q I rx ry h hs;obtain⟨p,xs,i,z,rfl,rfl,hq,he,q⟩:=h;cases rx;obtain⟨t,rfl⟩:=ry;obtain⟨its,r,pl,hz⟩:=I.tuple hq;obtain⟨j,h1,h2,h3,h4,h5⟩:=Nc he;obtain⟨w,ew,rw'⟩:=r.get h2;have hl:=r.length;have hn:=uF;have fin:EP X pins σ Q w s:=⟨z,H,I,rw',q⟩;exact subscriptTail_builtinR (x:=w) pl.typeIs slot_tuple_getitem.lookup
  (getItem_tuple (j:=j) (Q:=λr s'=>r=w/\EP X pins σ Q r s') pl (by omega) (by omega) (by rw[aiw,<-hl];exact h1) (by simpa using ew) ⟨rfl,fin⟩) hs
theorem Y5(its:List Ξ) (n j:Nat) (u:Ξ):Obj.mapSeq (·.setIfInBounds j u) {cls:=.type "list",data:=.seq its.toArray n}={cls:=.type "list",data:=.seq (its.set j u).toArray n}:=by
 simp[Obj.mapSeq]
theorem Inv.lst{pins:List (Ω×Obj)}{σ:St}{H:Hp}{s:ε}{p:Ω}{xs:List V}(I:Inv X pins σ H s) (h:H p=ζ (.lst xs)) :
  ∃(its:List Ξ) (n:Nat),Vals xs its/\s.heap.get? p=ζ {cls:=.type "list",data:=.seq its.toArray n}/\xs.length<=ι:=by
 obtain⟨z,its,n,r,e⟩:=I.hok p _ h;exact⟨its,n,r,e,z⟩
theorem Inv.Y8{pins:List (Ω×Obj)}{σ:St}{H:Hp}{s:ε}{p:Ω}{xs ys:List V}{its its':List Ξ}{n n':Nat}{f:Obj->Obj}(I:Inv X pins σ H s) (h:H p=ζ (.lst xs))
  (ho:s.heap.get? p=ζ {cls:=.type "list",data:=.seq its.toArray n}) (hf:f {cls:=.type "list",data:=.seq its.toArray n}={cls:=.type "list",data:=.seq its'.toArray n'}) (r:Vals ys its') (hz:ys.length<=ι) (t:Nat) :
  Inv X pins σ (upd H p (.lst ys)) {s with heap:=s.heap.update p f,toks:=t}:=by
 have e:(s.heap.update p f).get? p=ζ {cls:=.type "list",data:=.seq its'.toArray n'}:=by
  rw[akz f ho (by rw[hf]<;>rfl),hf]
 refine I.write (x:=p) (e:=p) (by rw[h];trivial) (.inl rfl) (λb u hb q=>(ajR _ _ (aja hb)).trans q) ⟨_,e⟩ ?_
 exact⟨hz,its',n',r,e⟩
def Sn:V->V->V->Hp->(Hp->Prop)->Prop:=λo i v H Q=>∃p xs k j,o=.ref p/\i=.int k/\H p=ζ (.lst xs)/\fL xs.length k=ζ j/\Q (upd H p (.lst (xs.set j v)))
theorem set_list:Nn X Sn:=by
 intro pins s σ H o i v ov iv u Q I ro ri rv h;obtain⟨p,xs,k,j,rfl,rfl,hp,hj,q⟩:=h;cases ro;obtain⟨t,rfl⟩:=ri;obtain⟨its,n,r,ho,hz⟩:=I.lst hp;obtain⟨h1,h2,h3,h4⟩:=Kd hj;have hl:=r.length;have hn:=uF;have I':Inv X pins σ (upd H p (.lst (xs.set j v))) {s with heap:=s.heap.update p (Obj.mapSeq (·.setIfInBounds j u))} :=
  I.Y8 hp ho (Y5 its n j u) (r.set rv j) (by rw[ak8];exact hz) s.toks
 by_cases h0:0<=k
 ·have hk:k.toNat=j:=by
   rw[seqIndex_of h0 h4]at h1;exact aiH h1
  exact PySem.W.ki_setAt ho h0 (by omega) (by rw[aiw,<-hl];exact h4) (by rw[hk];exact⟨_,I',q⟩)
 ·have hk:(k+(its.toArray.size:Int)).toNat=j:=by
   rw[seqIndex_neg (by omega) h3]at h1
   rw[aiw,<-hl];exact aiH h1
  exact PySem.W.ki_setBack ho (by omega) (by rw[aiw,<-hl];exact h3) (by omega) (by rw[hk];exact⟨_,I',q⟩)
theorem QL(lo hi:Option Int) (n:Nat):(sliceBounds lo hi θ n).1=((HT.eO n 0 lo:Nat):Int)/\(sliceBounds lo hi θ n).2.1=((HT.eO n n hi:Nat):Int)/\(sliceBounds lo hi θ n).2.2=1:=by
 refine⟨?_,?_,rfl⟩
 ·cases lo with
  |none=>simp[sliceBounds,HT.eO]
  |some i =>
   simp only[sliceBounds,HT.eO,al0,show(1:Int)>0 by decide,if_true]
   by_cases h:i<0
   ·simp only[h,if_true]<;>omega
   ·simp only[h,if_false]<;>omega
 ·cases hi with
  |none=>simp[sliceBounds,HT.eO]
  |some i =>
   simp only[sliceBounds,HT.eO,al0,show(1:Int)>0 by decide,if_true]
   by_cases h:i<0
   ·simp only[h,if_true]<;>omega
   ·simp only[h,if_false]<;>omega
theorem QM(its:List Ξ) (lo hi:Option Int):slicePick its.toArray lo hi θ=((its.drop (HT.eO its.length 0 lo)).take (HT.eO its.length its.length hi-HT.eO its.length 0 lo)).toArray:=by
 obtain⟨h1,h2,h3⟩:=QL lo hi its.toArray.size;unfold slicePick;rw[h1,h2,h3];simp only[sliceRange_one,pick_run,aiw]<;>rfl
def Sj(K:Δ):V->Option Int->Option Int->Hp->VK->Prop:=λx lo hi H Q=>∃a xs,x=.ref a/\bJ K H a xs/\∀p,H p=θ->Q (.ref p) (upd H p (.lst (rM xs lo hi)))
theorem QV:Nk X (Sj X.K):=by
 intro pins s σ H x v vl vu lo hi sl Q I rx hs pl pu h;obtain⟨a,xs,rfl,hx,q⟩:=h;cases rx;obtain⟨its,r,ht,hz⟩:=I.list hx;have hlen:=r.length;refine⟨"list",_,slot_list_getitem.lookup,ht.isList.typeIs,?_⟩;refine wpAny_getItem_list_slice ht.isList hs pl pu .none (by simp) ?_ (by rw[aiw]<;>omega)
 rw[QM,<-hlen];refine⟨.ref s.heap.objs.size,_,I.laid (t':=s.toks) (o:=.lst (rM xs lo hi)) (λb ob q=>air _ q) (aij _) ?_,rfl,q _ (I.hok.fresh (aij _))⟩
 exact⟨aiT (adO xs lo hi) hz,_,0,(r.drop (HT.eO xs.length 0 lo)).take (HT.eO xs.length xs.length hi-HT.eO xs.length 0 lo),aiI _ rfl⟩
theorem ae6:dI X (.builtin "len") (λxs H Q=>∃p ys,xs=[.ref p]/\(bJ X.K H p ys\/dg X.K H p ys)/\Q (.int ys.length) H):=by
 intro pins s σ H xs us Q I r h;obtain⟨p,ys,rfl,hq,q⟩:=h;obtain⟨u,rfl,rx⟩:=vals1 r;cases rx;have hn:=uF
 rcases hq with hq|hq
 ·obtain⟨its,r',pl,hz⟩:=I.list hq;have hlen:=r'.length;exact Calls.call_len_list pl.isList (by simp only[aiw]<;>omega) ⟨.int ys.length,H,I.tok _,⟨s.toks+1,by rw[aiw,hlen]⟩,q⟩
 ·obtain⟨its,r',pl,hz⟩:=I.tuple hq;have hlen:=r'.length;exact len_tuple pl (by simp only[aiw]<;>omega) ⟨.int ys.length,H,I.tok _,⟨s.toks+1,by rw[aiw,hlen]⟩,q⟩
theorem ae5:dI X (.builtin "len") (λxs H Q=>∃z,xs=[.str z]/\z.length<=ι/\Q (.int z.length) H):=by
 intro pins s σ H xs us Q I r h;obtain⟨z,rfl,hz,q⟩:=h;obtain⟨u,rfl,t,rfl⟩:=vals1 r;have hn:=uF;exact len_str (by omega) ⟨.int z.length,H,I.tok _,⟨_,rfl⟩,q⟩
theorem ae2:dI X (.type "tuple") (λxs H Q=>∃p ys,xs=[.ref p]/\((bJ X.K H p ys/\∀l,H l=θ->Q (.ref l) (upd H l (.tup ys)))\/(dg X.K H p ys/\Q (.ref p) H))):=by
 intro pins s σ H xs us Q I r h;obtain⟨p,ys,rfl,h⟩:=h;obtain⟨u,rfl,rx⟩:=vals1 r;cases rx
 rcases h with⟨hq,q⟩|⟨hq,q⟩
 ·obtain⟨its,r',pl,hz⟩:=I.list hq;have hlen:=r'.length;refine call_tuple_list pl.isList (λh' kp=>?_) (by simp only[aiw]<;>omega)
  have I1:Inv X pins σ H {s with heap:=h'}:=I.kept (t':=s.toks) kp
  have I2:Inv X pins σ (upd H h'.objs.size (.tup ys)) {s with heap:=h'.push {cls:=.type "tuple",data:=.seq its.toArray} } :=
   I1.laid (t':=s.toks) (λb o e=>air _ e) (aij _) (show eK X.prog X.w _ _ _ (.tup ys)from⟨hz,its,r',l0.new _ _⟩)
  exact⟨.ref h'.objs.size,_,I2,rfl,q _ (I1.hok.fresh (aij _))⟩
 ·obtain⟨its,r',pl,hz⟩:=I.tuple hq;exact call_tuple_same pl ⟨.ref p,H,I,rfl,q⟩
def GN(K:Δ) (T:String) (x:V) (H:Hp):Prop:=match x with
 |.str _=>T="str"
 |.int _=>T="int"
 |.ref p=>(T="list"/\∃xs,bJ K H p xs)\/(T="tuple"/\((∃xs,H p=ζ (.tup xs))\/∃o,K.lookup p=ζ o/\o.cls=.type "tuple"/\o.dict=θ)) \/
   (T="dict"/\((∃kvs,H p=ζ (.dK kvs))\/∃kvs,H p=ζ (.dT kvs)))\/(T="set"/\∃S n,H p=ζ (.set S n))
 |_=>False
theorem O1{pins:List (Ω×Obj)}{σ:St}{H:Hp}{s:ε}{T:String}{x:V}{v:Ξ}(I:Inv X pins σ H s) (r:RelV x v) (ty:GN X.K T x H) :
  s.TypeIs v T/\∀a,v=.ref a->∃ob,s.heap.get? a=ζ ob/\ob.dict=θ:=by
 cases x with
 |str z =>
  obtain⟨t,rfl⟩:=r;cases(show T="str" from ty)
  exact⟨typeIs_str s z t,λ_ e=>nomatch e⟩
 |int i =>
  obtain⟨t,rfl⟩:=r;cases(show T="int" from ty)
  exact⟨typeIs_int s i t,λ_ e=>nomatch e⟩
 |ref p =>
  cases r
  rcases ty with⟨rfl,xs,hq⟩|⟨rfl,⟨xs,hk⟩|⟨o,hk,hc,hd⟩⟩|⟨rfl,hk⟩|⟨rfl,S,n,hk⟩
  ·obtain⟨its,_,pl,_⟩:=I.list hq;refine⟨pl.isList.typeIs,λa e=>?_⟩
   cases e;obtain⟨o,n,e,c,hd,_⟩:=pl;exact⟨o,e,hd⟩
  ·obtain⟨_,its,_,o,e,c,_,hd⟩:=(show eK X.prog X.w H s.heap p (.tup xs)from I.hok p _ hk)
   refine⟨⟨o,e,c⟩,λa e2=>?_⟩
   cases e2;exact⟨o,e,hd⟩
  ·refine⟨⟨o,I.dU p o hk,hc⟩,λa e=>?_⟩
   cases e;exact⟨o,I.dU _ o hk,hd⟩
  ·have z:∃o,s.heap.get? p=ζ o/\o.ExactDict:=by
    rcases hk with⟨kvs,hk⟩|⟨kvs,hk⟩
    ·obtain⟨_,_,_,_,o,_,_,e,ex,_⟩:=I.hok p _ hk;exact⟨o,e,ex⟩
    ·obtain⟨_,_,_,_,o,_,_,e,ex,_⟩:=I.hok p _ hk;exact⟨o,e,ex⟩
   obtain⟨o,e,ex⟩:=z;refine⟨⟨o,e,ex.1⟩,λa e2=>?_⟩
   cases e2;exact⟨o,e,ex.2.1⟩
  ·obtain⟨o,_,_,_,e,ex,_⟩:=I.hok p _ hk;refine⟨⟨o,e,ex.1⟩,λa e2=>?_⟩
   cases e2;exact⟨o,e,ex.2.1⟩
 |_=>exact False.elim ty
def P7(K:Δ) (T:String) (r:V->List V->Hp->VK->Prop) (to:TE) (t:TA):TE:=λσ H Q=>to σ H λx H1=>GN K T x H1/\t σ H1 λxs H2=>r x xs H2 Q
variable {o e:π}{es:List π}{to:TE}{t:TA}{name:Str}{apos cpos:Pos}{T id:String}{r:V->List V->Hp->VK->Prop}
theorem uc(pa:PlainAttrs T) (slot:Slot T name id) (hty:typeOf (.builtin id)=pure (.type "method_descriptor")) (hm:MtR X id r) (ho:PE X o to) (ha:PA X (e::es) t)
  (hbase:aaZ o name X.env (eval o X.env)=eval o X.env:=by rfl)
  (hfew:((aaQ cpos (μ (e::es) X.env)).all (λx=>!x.1)&&(aa9 cpos (aaU [] X.env)).all (λx=>x.1.isSome)
   && decide ((e::es).length+([]:List aaW).length+(if([]:List aaW).isEmpty then 0 else 1)<30))=Θ:=by rfl)
  (hline:(apos.endLine==cpos.line)=Θ:=by rfl) (hs:μ (e::es) X.env=(Ψ,eval e X.env)::μ es X.env:=by rfl) (hplain:(aaQ cpos (μ es X.env)).any (·.1)=Ψ:=by rfl) :
  PE X (.Call (.Attribute o name apos) (e::es) [] cpos) (P7 X.K T r to t):=by
 intro pins s σ H Q I h;refine wpAny_Call_method_late hbase hfew hline rfl (br (ho pins s σ H _ I h) λv s1 ⟨x,H1,I1,r1,ty,q1⟩=>?_)
 obtain⟨h1,h2⟩:=O1 I1 r1 ty;refine⟨T,id,pa,slot,hty,h1,h2,?_⟩;have hA:=ha cpos pins s1 σ H1 _ I1 q1;rw[hs]at hA ⊢;refine Calls.callWith_builtin (by show(Ψ||(aaQ cpos (μ es X.env)).any (·.1))=Ψ;rw[hplain]<;>rfl) (Calls.evalArgs_plain ?_)
 exact br hA λus s2 ⟨vs,H2,I2,r2,q2⟩=>hm pins s2 σ H2 x vs v us Q I2 r1 r2 q2
end
def vE(X:Cx) (id:String) (r:V->List V->Hp->VK->Prop):Prop :=
 ∀(pins:List (Ω×Obj)) (s:ε) (σ:St) (H:Hp) (x:V) (xs:List V) (v:Ξ) (us:List Ξ) (Q:VK),Inv X pins σ H s->RelV x v->Vals xs us->r x xs H Q ->
  wpAny (model X.prog X.w) X.A (call (.builtin id) (v::us)) (EP X pins σ Q) X.xe s
theorem Vals.one:∀{x:V}{us:List Ξ},Vals [x] us->∃u,us=[u]/\RelV x u
 |_,_,.cons r .nil=>⟨_,rfl,r⟩
theorem Vals.two:∀{x y:V}{us:List Ξ},Vals [x,y] us->∃u v,us=[u,v]/\RelV x u/\RelV y v
 |_,_,_,.cons r (.cons q .nil)=>⟨_,_,rfl,r,q⟩
theorem Vals.eraseIdx:∀{xs:List V}{us:List Ξ}(i:Nat),Vals xs us->Vals (xs.eraseIdx i) (us.eraseIdx i)
 |_,_,_,.nil=>.nil
 |_,_,0,.cons _ t=>t
 |_,_,i+1,.cons r t=>.cons r (Vals.eraseIdx i t)
theorem Vals.rep{xs:List V}{us:List Ξ}(h:Vals xs us):∀k:Nat,Vals (ν k xs).flatten (ν k us).flatten
 |0=>.nil
 |k+1=>by
  rw[ajm,ajm,ajy,ajy];exact Vals.append h (Vals.rep h k)
theorem JV{α:Type}:∀(l:List α) (i:Nat),(l.eraseIdx i).length<=l.length
 |[],_=>aij _
 |_::_,0=>ajS _
 |_::r,i+1=>Nat.succ_le_succ (JV r i)
theorem foldl_rep(its:List Ξ):∀(k:Nat) (acc:List Ξ),
  List.foldl (λx1 x2=>x1++x2) acc.toArray (ν k its.toArray)=(acc++(ν k its).flatten).toArray
 |0,acc=>by simp
 |k+1,acc=>by
  have e:acc.toArray++its.toArray=(acc++its).toArray:=by simp
  have e2:(acc++its)++(ν k its).flatten=acc++(ν (k+1) its).flatten:=by
   rw[ajm,ajy,aiZ]
  rw[<-e2,<-foldl_rep its k (acc++its),<-e,ajm,ajn]
section
variable {X:Cx}{pins:List (Ω×Obj)}{σ:St}{H:Hp}{s:ε}{l b:Ω}{xs ys zs:List V}
theorem Inv.Bv{its its':List Ξ}{n:Nat}{f:Array Ξ->Array Ξ}{t':Nat}(I:Inv X pins σ H s) (hH:H l=ζ (.lst xs))
  (e:s.heap.get? l=ζ {cls:=.type "list",data:=.seq its.toArray n}) (hf:f its.toArray=its'.toArray) (hv:Vals ys its') (hz:ys.length<=ι) :
  Inv X pins σ (upd H l (.lst ys)) {s with heap:=s.heap.update l (Obj.mapSeq f),toks:=t'}:=by
 have q:=al1 e f;rw[hf]at q;refine I.write (x:=l) (e:=l) (by rw[hH];exact trivial) (.inl rfl) (λb' u hb hu=>(ajR s.heap (Obj.mapSeq f) (aja hb)).trans hu) ⟨_,q⟩ ?_
 exact⟨hz,its',_,hv,q⟩
theorem Inv.JR{its:List Ξ}{t':Nat}(I:Inv X pins σ H s) (hv:Vals ys its) (hz:ys.length<=ι) :
  Inv X pins σ (upd H s.heap.objs.size (.lst ys)) {s with heap:=s.heap.push {cls:=.type "list",data:=.seq its.toArray},toks:=t'} :=
 I.laid (λ_ _ q=>air _ q) (aij _) ⟨hz,its,0,hv,aiI _ rfl⟩
theorem Inv.fresh(I:Inv X pins σ H s):H s.heap.objs.size=θ:=I.hok.fresh (aij _)
theorem Inv.kG(I:Inv X pins σ H s) (hH:H l=ζ (.lst xs)):xs.length<=ι/\∃(its:List Ξ) (n:Nat),Vals xs its/\xs.length=its.length/\s.heap.get? l=ζ {cls:=.type "list",data:=.seq its.toArray n}:=by
 obtain⟨z,its,n,r,e⟩:=I.hok l _ hH;exact⟨z,its,n,r,r.length,e⟩
theorem Jb{n:Nat}(h:n<=ι):Builtin.List.listTooLong n=Ψ:=by
 unfold Builtin.List.listTooLong;exact decide_eq_false (by omega)
end
section
variable {X:Cx}
def SM:V->List V->Hp->VK->Prop:=λx vs H Q=>∃l xs y,x=.ref l/\vs=[y]/\H l=ζ (.lst xs)/\xs.length<ι/\Q .aM (upd H l (.lst (xs++[y])))
theorem Y0:vE X "list.append" SM:=by
 intro pins s σ H x vs v us Q I rx rv h;obtain⟨l,xs,y,rfl,rfl,hH,hz,q⟩:=h;cases rx;obtain⟨u,rfl,ru⟩:=rv.one;obtain⟨z,its,n,r,hl,e⟩:=I.kG hH;refine ajz F.slot_list_append ⟨_,e,rfl⟩ F.entry_list_append (F.args_list_append_2 _ _) (al2 l its.toArray n u (by rw[aiw];omega)) ⟨e,?_⟩
 refine⟨.aM,_,I.Bv (its':=its++[u]) hH e (by simp) (r.append (.cons ru .nil)) ?_,rfl,q⟩
 rw[ai3,List.length_singleton];omega
def SG:V->List V->Hp->VK->Prop:=λx vs H Q=>∃l b xs zs,x=.ref l/\vs=[.ref b]/\H l=ζ (.lst xs)/\H b=ζ (.lst zs)/\xs.length+zs.length<=ι/\Q .aM (upd H l (.lst (xs++zs)))
theorem YY:vE X "list.extend" SG:=by
 intro pins s σ H x vs v us Q I rx rv h;obtain⟨l,b,xs,zs,rfl,rfl,hH,hB,hz,q⟩:=h;cases rx;obtain⟨u,rfl,ru⟩:=rv.one;cases ru;obtain⟨z,its,n,r,hl,e⟩:=I.kG hH;obtain⟨z2,its2,n2,r2,hl2,e2⟩:=I.kG hB;have hsz:its.toArray.size+its2.toArray.size<=ι:=by rw[aiw,aiw];omega
 have Df:¬(!its.toArray.isEmpty&&Builtin.List.listTooLong (its.toArray.size+its2.toArray.size))=Θ:=by
  rw[Jb hsz,ak9];exact aiD
 refine ajz F.slot_list_extend ⟨_,e,rfl⟩ F.entry_list_extend (F.args_list_extend_2 _ _)
  (AutoSeq1.list_extend_list_list_0 l its.toArray n b its2.toArray n2 Df (by rw[aiw];omega) (by omega)) ⟨e,e2,?_⟩
 refine⟨.aM,_,I.Bv (its':=its++its2) hH e (by simp) (r.append r2) ?_,rfl,q⟩
 rw[ai3];omega
def Sv:V->List V->Hp->VK->Prop:=λx vs H Q=>∃l xs i k y,x=.ref l/\vs=[.int i]/\H l=ζ (.lst xs)/\-(2^63)<=i/\i<2^63/\seqIndex? i xs.length=ζ k/\xs[k]? = ζ y/\Q y (upd H l (.lst (xs.eraseIdx k)))
theorem YW:vE X "list.pop" Sv:=by
 intro pins s σ H x vs v us Q I rx rv h;obtain⟨l,xs,i,k,y,rfl,rfl,hH,h1,h2,hk,hy,q⟩:=h;cases rx;obtain⟨u,rfl,ru⟩:=rv.one;obtain⟨t,rfl⟩:=ru;obtain⟨z,its,n,r,hl,e⟩:=I.kG hH;obtain⟨w,hw,rw'⟩:=r.get hy;refine ajz F.slot_list_pop ⟨_,e,rfl⟩ F.entry_list_pop (F.args_list_pop_2 _ _)
  (MeetsSeq.list_pop_at l its.toArray n i t k w (fitsIndex_both h1 h2) (by rw[aiw,<-hl];exact hk) (by rw[<-aiS];exact hw) (by rw[aiw];omega)) ⟨e,?_⟩
 refine⟨y,_,I.Bv (its':=its.eraseIdx k) hH e ?_ (r.eraseIdx k) ?_,rw',q⟩
 ·show its.toArray.eraseIdxIfInBounds k=(its.eraseIdx k).toArray;rw[List.eraseIdxIfInBounds_toArray]
 ·have:=JV xs k;omega
def SK:R2:=λx y H Q=>∃l b xs zs,x=.ref l/\y=.ref b/\H l=ζ (.lst xs)/\H b=ζ (.lst zs)/\xs.length+zs.length<=ι/\∀p,H p=θ->Q (.ref p) (upd H p (.lst (xs++zs)))
theorem VG:bB X (binaryOp .Add) SK:=by
 intro pins s σ H x y v u Q I rx ry h;obtain⟨l,b,xs,zs,rfl,rfl,hH,hB,hz,q⟩:=h;cases rx;cases ry;obtain⟨z,its,n,r,hl,e⟩:=I.kG hH;obtain⟨z2,its2,n2,r2,hl2,e2⟩:=I.kG hB;refine PySem.P.add_list e e2 ?_ (by rw[aiw,aiw];omega)
 have ea:its.toArray++its2.toArray=(its++its2).toArray:=by simp
 rw[ea];exact⟨.ref _,_,I.JR (t':=s.toks) (r.append r2) (by rw[ai3];omega),rfl,q _ I.fresh⟩
def Su:R2:=λx y H Q=>∃l k xs,x=.ref l/\y=.int k/\H l=ζ (.lst xs)/\-(2^63)<=k/\k<2^63/\xs.length*k.toNat<=ι /\
 ∀p,H p=θ->Q (.ref p) (upd H p (.lst (ν k.toNat xs).flatten))
theorem len_rep{α:Type}(xs:List α) (k:Nat):(ν k xs).flatten.length=k*xs.length:=by
 induction k with
 |zero=>simp
 |succ k ih=>rw[ajm,ajy,ai3,ih,ajo,akA]
theorem Ir:bB X (binaryOp .Mult) Su:=by
 intro pins s σ H x y v u Q I rx ry h;obtain⟨l,k,xs,rfl,rfl,hH,h1,h2,hz,q⟩:=h;cases rx;obtain⟨t,rfl⟩:=ry;obtain⟨z,its,n,r,hl,e⟩:=I.kG hH;have hlen:its.toArray.size*k.toNat<=ι:=by rw[aiw,<-hl];exact hz
 have hcap:¬its.toArray.size*k.toNat>(2^63-1)/8:=by
  have:(ι:Nat)<=(2^63-1)/8:=by decide
  omega
 have hfit:¬(!Builtin.List.listFitsIndex k)=Θ:=by
  rw[fitsIndex_both h1 h2];exact aiD
 have Df:¬Builtin.List.listTooLong (its.toArray.size*k.toNat)=Θ:=by
  rw[Jb hlen];exact aiD
 have hnew:List.foldl (λx1 x2=>x1++x2) #[] (ν (if its.toArray.isEmpty=Θ then 0 else k.toNat) its.toArray)=(ν k.toNat its).flatten.toArray:=by
  have f0:∀m:Nat,List.foldl (λx1 x2=>x1++x2) #[] (ν m its.toArray)=(ν m its).flatten.toArray:=λm=>by
   have:=foldl_rep its m [];rw[aiM]at this;exact this
  rw[f0];cases its with
  |nil=>simp
  |cons a r'=>rw[if_neg (by simp)]
 refine wpAny_binaryOp_repeat_ref (T:="list") (U:="int") (by decide) ⟨_,e,rfl⟩ (λs'=>typeIs_int s' k t) noFill_list_mul F.fills_int_mul F.slot_int_rmul repeat_list F.slot_int_index.lookup
  (ajz F.slot_int_rmul (typeIs_int s k t) F.entry_int_rmul (F.args_int_rmul_2 _ _) (int___rmul___int_list k t l its.toArray n)
   ⟨e,rfl,⟨_,e,rfl⟩,ajz F.slot_list_mul ⟨_,e,rfl⟩ F.entry_list_mul (F.args_list_mul_2 _ _) (AutoListH.list___mul___list_int_3 l its.toArray n k t hfit hcap Df) ⟨e,?_⟩⟩)
 rw[hnew];exact⟨.ref _,_,I.JR (t':=s.toks) (r.rep k.toNat) (by rw[len_rep,aka];exact hz),rfl,q _ I.fresh⟩
end
section
variable {prog:τ}{w:ψ}{A:ω}{E:Ξ->ε->Prop}{s:ε}
set_option maxRecDepth 100000 in
end
end L2
namespace Ob
open PySem PySem.W PySem.Calls PyProof.Rows
theorem aaA{P:Params}{h:χ}:∀(ns:List Int) (vs:List Ξ),WellAll P h vs (ns.map WData.int)->aa8 vs ns:=by
 intro ns
 induction ns with
 |nil =>
  intro vs w;rw[List.map_nil]at w;cases w;exact .nil
 |cons n ns ih =>
  intro vs w;rw[ais]at w;cases w with
  |cons a b =>
   cases a;exact .cons _ _ (ih _ b)
theorem RN{l:OpenLaw}{n:Nat}(hn:l.most=ζ n) {P:Params}{h:χ}{args:List WData}{vals:List Ξ}
  (hpre:l.row.toRowW.claim.pre args=Θ) (hwl:WellAll P h vals args) :
  ∃a vs ns,vals=[Value.ref a]/\args=[WData.list (ns.map WData.int)]/\h.get? a=ζ {cls:=.type "list",data:=.seq vs.toArray}/\aa8 vs ns/\ns.length<=n:=by
 have hsh:WShape.hasAll [] args [.list .int]=Θ:=(pre_splitW hpre).1;have hc:l.pre.holds [] {args:=args}=Θ:=(pre_splitW hpre).2;obtain⟨d,r,rfl,h1,h2⟩:=hasAllW_cons hsh;obtain rfl:=hasAllW_nil h2;obtain⟨xs,rfl,h3⟩:=hasW_list h1;obtain⟨ns,rfl⟩:=items_int h3;have hlen:ns.length<=n:=by
  unfold OpenLaw.pre at hc;have h4:(WTm.not (.lt (.lit (.int (n:Int))) (.len (.arg 0)))).holds [] {args:=[.list (ns.map .int)]}=Θ:=by
   have h4:=(holds_andW hc).1;rw[hn]at h4;exact h4
  have h5:=condW_of h4 (w_not (w_lt w_lit (w_len_list (w_arg rfl))));rw[aiu]at h5;refine al3 λq=>?_
  have q':(n:Int)<((ns.length:Nat):Int):=by omega
  first
   |(rw[decide_eq_true q']at h5;exact absurd h5 (by decide))
   |(simp at h5;omega)
 cases hwl with
 |cons w1 w2 =>
  cases w2;cases w1 with
  |list ho hall=>exact⟨_,_,ns,rfl,rfl,ho,aaA ns _ hall,hlen⟩
theorem Tu(l:OpenLaw) (args:List WData):l.row.toRowW.claim.post args (.bool Θ) args=Θ :=
 postW_of (r:=l.row.toRowW) (X:=(Θ==Θ))
  (show WShape.has [] (.bool Θ) .bool=Θ by first|rfl|decide|simp[WShape.has,WShape.arms,WShape.armsAll])
  (show(WTm.eq .res (.lit (.bool Θ))).value [] {args:=args,res:=ζ (.bool Θ),after:=args}=ζ (.bool (Θ==Θ))from w_eq_bool (w_res rfl) w_lit) rfl
theorem aft{l:OpenLaw}{n:Nat}{q:τ}{loose:List Str}{XP:(Str->Option Ξ)->χ->Prop}{YP:ψ->χ->Prop}{d:DefRec}
  (hn:l.most=ζ n) (hdf:d.params.defaults=[])
  (call:∀(w:ψ) (s₀ s₁:ε) (mg mb:Str->Option Ξ) (fa:Ω) (o:Obj) (pm cd doc:Ξ) (a:Ω) (vs:List Ξ) (ns:List Int),
   Ground q loose [] XP w s₀ mg mb s₁.heap->YP w s₁.heap ->
   s₁.heap.get? fa=ζ o->o.data=.func (docDef d.name d.params d.body d.scope pm cd doc)->s₁.heap.CodeRec cd d.name->mg d.name=ζ (.ref fa) ->
   s₁.heap.get? a=ζ {cls:=.type "list",data:=.seq vs.toArray}->aa8 vs ns->ns.length<=n->s₁.gens=#[] ->
   codeAny (model l.prog w) callerA (.call (.ref fa) ⟨[.ref a],[]⟩) (λr s'=>r=.ok (.ret (.bool Θ))/\OldK s₁.heap s'.heap/\s'.os=s₁.os/\aa0 s'.gens) s₁) :
  WalkO q loose XP YP l.row.toRowW d [] (λf vs=>PySem.call f vs):=by
 intro w s₀ s₁ mg mb G Y fa o pm cd doc dV kV ho hd hcd hD hmg hg args vals as hpre hlay hrd hwl hlo;obtain rfl:dV=.none:=Dflts.none hD hdf;obtain rfl:kV=.none:=Dflts.noKw hD;obtain⟨a,vs,ns,rfl,rfl,hobj,hints,hlen⟩:=RN hn hpre hwl;refine enter_call (aji (call w s₀ s₁ mg mb fa o pm cd doc a vs ns G Y ho (fd_plain hd) hcd hmg hobj hints hlen hg) λr s' hq=>?_)
 obtain⟨rfl,h2,h3,h4⟩:=hq;exact⟨.inl ⟨.bool Θ,.bool Θ,[],rfl,λ_=>rfl,.bool Θ,Tu l _,λ_=>⟨List.Pairwise.nil,λ_ hm=>(nomatch hm)⟩⟩,h2,h3,h4⟩
end Ob
namespace L2
open PySem PySem.Spec PyProof.Rows
theorem GH:∀{vs:List Ξ}{ns:List Int},aa8 vs ns->Vals (ns.map V.int) vs
 |_,_,.nil=>.nil
 |_,_,.cons n t h=>.cons ⟨t,rfl⟩ (GH h)
def cu(s:aaM):Arguments:=match s with
 |.FunctionDef _ a _ _ _ _ _ _ _ _=>a
 |_=>{posonlyargs:=[],args:=[],vararg:=θ,kwonlyargs:=[],kw_defaults:=[],kwarg:=θ,defaults:=[]}
def bZ(s:aaM):List aaM:=match s with
 |.FunctionDef _ _ b _ _ _ _ _ _ _=>b
 |_=>[]
def aR(s:aaM):aa5:=match s with
 |.FunctionDef _ _ _ _ _ _ sc _ _ _=>sc
 |_=>{kind:=.function,names:=[],isGenerator:=Ψ,isCoroutine:=Ψ}
abbrev bS:l7:=λ_ _ _ _ _ _=>False
abbrev E0:XK:=λ_ _ _=>False
theorem Vk{X:Cx}:Passes bS X E0:=λ_ _ _ _ _ _ _ h=>h.elim
structure j5 (K:Δ) (x qual:Str) (st:aaM) (f:Ω) (fd:ο):Prop where
 ex:∃(oc:Ξ) (od:Option Ω) (kV doc pm:Ξ) (an:Option Ω) (cdv ct:Ξ) (osl:Array (Option Ξ)),
  fd=PySem.W.fnOf x qual (cu st) (bZ st) (aR st) .none kV doc pm an cdv ct/\K.lookup f=ζ ⟨oc,od,.func fd,osl⟩/\PySem.W.codeIn K cdv qual=Θ
 kp:PySem.W.keepIn K (.ref f)=Θ
section
variable {P:τ}{w:ψ}{K:Δ}{mg:Str->Option Ξ}{base:χ}
theorem j5.ok{x qual:Str}{st:aaM}{f:Ω}{fd:ο}{N ps:List Str}{k:Nat}{sp:Sp}(F:j5 K x qual st f fd) (S:b6 N ps (aR st)) (len:∀vs H Q E,sp vs H Q E->vs.length=ps.length)
  (hbody:∀(cdv:Ξ) (A:ω) (outer:List Env) (s:ε) (H:Hp) (vs:List V) (Q:VK) (E:XK),dG k (A.deeper (envOfC qual (aR st) s.heap.objs.size f cdv))->sp vs H Q E ->
   ∃t,eu (fu bS P w K mg base N qual (aR st) f cdv A outer s H E).fH (bZ st) t/\t {nx:=λ_ H'=>Q .aM H',rt:=Q} (start N vs) H):bK P w K mg base bS (k+1) f fd ps sp:=by
 obtain⟨oc,od,kV,doc,pm,an,cdv,ct,osl,rfl,lk,hcd⟩:=F.ex;refine Lo lk hcd S len λA outer s H vs Q E hr jr=>?_
 obtain⟨t,h,q⟩:=hbody cdv A outer s H vs Q E hr jr;exact⟨t,h.fH,q⟩
theorem j5.binds{x qual:Str}{st:aaM}{f:Ω}{fd:ο}{ps:List Str}(F:j5 K x qual st f fd)
  (h:∀(kV doc pm:Ξ) (an:Option Ω) (cdv ct:Ξ) (us:List Ξ),us.length=ps.length->bindArgs (PySem.W.fnOf x qual (cu st) (bZ st) (aR st) .none kV doc pm an cdv ct) ⟨us,[]⟩=pure (ps.zip us)):Binds K fd ps []:=by
 obtain⟨oc,od,kV,doc,pm,an,cdv,ct,osl,rfl,lk,hcd⟩:=F.ex;exact .all (h kV doc pm an cdv ct)
theorem cC{x qual:Str}{st:aaM}{f:Ω}{oc:Ξ}{od an:Option Ω}{osl:Array (Option Ξ)}{kV doc pm cdv ct:Ξ}(l:K.lookup f=ζ ⟨oc,od,.func (PySem.W.fnOf x qual (cu st) (bZ st) (aR st) .none kV doc pm an cdv ct),osl⟩)
  (c:PySem.W.codeIn K cdv qual=Θ) (k:PySem.W.keepIn K (.ref f)=Θ):j5 K x qual st f (PySem.W.fnOf x qual (cu st) (bZ st) (aR st) .none kV doc pm an cdv ct):=⟨⟨oc,od,kV,doc,pm,an,cdv,ct,osl,rfl,l,c⟩,k⟩
end
theorem aaP{A:ω}{k:Nat}(hr:dG k A):A.units+1<aba:=akb (Nat.add_le_add_left (by decide:1<=64) _) hr.units
theorem jQ{A B:Prop}(h:B):if Ψ=Θ then A else B:=by
 rw[if_neg aiD];exact h
theorem jP{A B:Prop}(h:A):if Θ=Θ then A else B:=by
 rw[if_pos rfl];exact h
def gT(X:Cx) (N':List Str) (scope:aa5) (cl:List (Str×Ω)) (C:Ω) (s₀:ε) (H₀:Hp) (ex:List Ω) (pn:List (Ω×Obj)):Cx where
 prog:=X.prog
 w:=X.w
 K:=X.K
 mg:=X.mg
 base:=X.base
 A:=X.A
 N:=N'
 s₀:=s₀
 H₀:=H₀
 env:=compEnvC scope cl C X.env
 outer:=X.stack
 stack:=X.stack
 ex:=ex
 fn:=λx=>scope.names.lookup x==ζ NameKind.cell
 calm:=X.calm
 pn:=pn
 xe:=λ_ _=>False
structure cB (X:Cx) (N':List Str) (pick:List (Option Nat)) (scope:aa5):Prop where
 kind:scope.kind=.function
 nd:N'.Nodup
 names:∀x∈scope.names,x.2=.local->scope.names.lookup x.1=ζ .local
 uniq:(scope.names.map (·.1)).Nodup
 len:pick.length=N'.length
 got:∀(i j:Nat) (x:Str),pick[i]? = ζ (ζ j)->N'[i]? = ζ x->scope.names.lookup x=ζ .free/\X.N[j]? = ζ x
 free:∀x∈scope.names,x.2=.free->X.env.kindOf x.1=ζ .cell\/X.env.kindOf x.1=ζ .free
def kc(pick:List (Option Nat)) (σ:St):St:=pick.map λo=>o.bind λj=>(σ[j]?).bind id
def sL(X:Cx) (ifs:List π) (t:TT):Prop :=
 ∀(pins:List (Ω×Obj)) (s:ε) (σ:St) (H:Hp) (Q:Bool->Hp->Prop),Inv X pins σ H s->t σ H Q ->
  wpAny (model X.prog X.w) X.A (forIn ifs Θ λc r=>if r=Θ then do let ok <-isTrue c X.env (eval c X.env);pure (ForInStep.yield ok)else pure (ForInStep.yield r)) (TP X pins σ Q) X.xe s
def Pr:TT:=λ_ H Q=>Q Θ H
theorem Ut{X:Cx}:sL X [] Pr:=λpins s σ H Q I h=>wpAny_tests_nil ⟨H,I,h⟩
theorem Us{X:Cx}{c:π}{t:TT}(h:PT X c t):sL X [c] t:=λpins s σ H Q I q=>wpAny_tests_one (h pins s σ H Q I q)
def Oa(J:It) (g:TG) (tt:TT) (te:TE) (Q:VK) (σ:St) (H:Hp):Prop:=∃W:Nat->Nat->St->List V->Hp->Prop,(∃m,W 0 m σ [] H) /\
  ∀i m σ' ys H,W i m σ' ys H->ys.length<ι /\
    ((J.stop i H/\∀p,H p=θ->Q (.ref p) (upd H p (.lst ys))) \/
     (J.go i H/\∃N:St->List V->Hp->Prop,(∀σ2 zs H2,N σ2 zs H2->∃m',m'<m/\W (i+1) m' σ2 zs H2)/\∀x H',J.sP i H x H'->g x σ' H' λσ2 H2=>tt σ2 H2 λb H3 =>
        if b=Θ then te σ2 H3 λy H4=>N σ2 (ys++[y]) H4 else N σ2 ys H3))
def G3(wi:TI) (pick:List (Option Nat)) (g:TG) (tt:TT) (te:TE):TE:=λσ H Q=>wi σ H λJ H1=>Oa J g tt te Q (kc pick σ) H1
def fz(env:Env):List (Str×aaN)->List (Str×Ω)->List (Str×Ω)
 |[],acc=>acc
 |(n,k)::r,acc=>fz env r (if(k==NameKind.free)=Θ then(n,(env.cells.lookup n).getD 0)::acc else acc)
theorem F0{env:Env}:∀(names:List (Str×aaN)) (acc:List (Str×Ω)),(∀x∈names,x.2=.free->∃c,env.cells.lookup x.1=ζ c) ->
  (forIn names acc fun(x:Str×aaN) cs=>(if(x.2==NameKind.free)=Θ then do let a <-cellOf env x.1;pure (ForInStep.yield ((x.1,a)::cs))else pure (ForInStep.yield cs):Sem (ForInStep (List (Str×Ω)))))=pure (fz env names acc)
 |[],acc,_=>rfl
 |(n,k)::r,acc,h=>by
  rw[akB]
  by_cases hk:(k==NameKind.free)=Θ
  ·obtain⟨c,hc⟩:=h (n,k) ai1 (by simpa using hk)
   have e1:cellOf env n=pure c:=by unfold cellOf;rw[show env.cells.lookup n=ζ c from hc]
   simp only[hk,if_true,e1,pure_bind];rw[F0 r _ λx hx=>h x (aiN _ hx)]
   show _=pure (fz env r (if(k==NameKind.free)=Θ then _ else _))
   rw[if_pos hk,show env.cells.lookup n=ζ c from hc]
   rfl
  ·simp only[hk,aiU,if_false,pure_bind];rw[F0 r _ λx hx=>h x (aiN _ hx)]
   show _=pure (fz env r (if(k==NameKind.free)=Θ then _ else _))
   rw[if_neg hk]
theorem Ni{env:Env}{x:Str}{c:Ω}:∀(names:List (Str×aaN)) (acc:List (Str×Ω)),(fz env names acc).lookup x=ζ c ->
  ((x,NameKind.free)∈names/\c=(env.cells.lookup x).getD 0)\/acc.lookup x=ζ c
 |[],acc,h=>.inr h
 |(n,k)::r,acc,h=>by
  unfold fz at h
  rcases Ni r _ h with⟨a,b⟩|q
  ·exact .inl ⟨aiN _ a,b⟩
  ·by_cases hk:(k==NameKind.free)=Θ
   ·rw[if_pos hk,ai7]at q;cases hx:x==n with
    |true =>
     rw[hx]at q;have e1:x=n:=by simpa using hx
     have e2:k=.free:=by simpa using hk
     subst e1;subst e2;exact .inl ⟨ai1,(aiH q).symm⟩
    |false=>rw[hx]at q;exact .inr q
   ·rw[if_neg hk]at q;exact .inr q
theorem Nj{env:Env}{x:Str}:∀(names:List (Str×aaN)) (acc:List (Str×Ω)),(acc.lookup x).isSome=Θ\/(x,NameKind.free)∈names->((fz env names acc).lookup x).isSome=Θ
 |[],acc,h=>h.elim id λz=>by cases z
 |(n,k)::r,acc,h=>by
  unfold fz;refine Nj r _ ?_
  by_cases hk:(k==NameKind.free)=Θ
  ·rw[if_pos hk,ai7];cases hx:x==n with
   |true=>exact .inl rfl
   |false =>
    refine h.imp id λz=>?_
    rcases aio.mp z with e|z
    ·exact absurd (show(x==n)=Θ by cases e;simp) (by rw[hx];simp)
    ·exact z
  ·rw[if_neg hk];refine h.imp id λz=>?_
   rcases aio.mp z with e|z
   ·exact absurd (show(k==NameKind.free)=Θ by cases e;rfl) hk
   ·exact z
theorem EU{x:Str}{c:Ω}:∀(names:List (Str×aaN)) (n:Nat) (acc:List (Str×Ω)),(cellsFrom n names acc).lookup x=ζ c->(n<=c/\(x,NameKind.cell)∈names)\/acc.lookup x=ζ c
 |[],_,_,h=>.inr h
 |(y,k)::r,n,acc,h=>by
  unfold cellsFrom at h
  by_cases hk:(k==NameKind.cell)=Θ
  ·rw[if_pos hk]at h
   rcases EU r _ _ h with⟨a,b⟩|q
   ·exact .inl ⟨aiT (ajS _) a,aiN _ b⟩
   ·rw[ai7]at q;cases hx:x==y with
    |true =>
     rw[hx]at q;have e1:x=y:=by simpa using hx
     have e2:k=.cell:=by simpa using hk
     subst e1;subst e2;exact .inl ⟨ajp (aiH q),ai1⟩
    |false=>rw[hx]at q;exact .inr q
  ·rw[if_neg hk]at h
   rcases EU r _ _ h with⟨a,b⟩|q
   ·exact .inl ⟨a,aiN _ b⟩
   ·exact .inr q
theorem ET:∀(names:List (Str×aaN)) (n:Nat) (acc:List (Str×Ω)),(∀x y c,acc.lookup x=ζ c->acc.lookup y=ζ c->x=y)->(∀x c,acc.lookup x=ζ c->c<n) ->
  ∀x y c,(cellsFrom n names acc).lookup x=ζ c->(cellsFrom n names acc).lookup y=ζ c->x=y
 |[],_,_,hi,_,x,y,c,h1,h2=>hi x y c h1 h2
 |(z,k)::r,n,acc,hi,hl,x,y,c,h1,h2=>by
  unfold cellsFrom at h1 h2
  by_cases hk:(k==NameKind.cell)=Θ
  ·rw[if_pos hk]at h1 h2;refine ET r (n+1) ((z,n)::acc) (λx y c e1 e2=>?_) (λx c e=>?_) x y c h1 h2
   ·rw[ai7]at e1 e2;cases hx:x==z with
    |true =>
     rw[hx]at e1;cases hy:y==z with
     |true=>exact(by simpa using hx:x=z).trans (by simpa using hy:y=z).symm
     |false =>
      rw[hy]at e2;have e3:n=c:=aiH e1;exact absurd (e3▸hl y c e2) (ai4 _)
    |false =>
     rw[hx]at e1;cases hy:y==z with
     |true =>
      rw[hy]at e2;have e3:n=c:=aiH e2;exact absurd (e3▸hl x c e1) (ai4 _)
     |false=>rw[hy]at e2;exact hi x y c e1 e2
   ·rw[ai7]at e;cases hx:x==z with
    |true=>rw[hx]at e;have e3:n=c:=aiH e;exact e3▸ajf n
    |false=>rw[hx]at e;exact ajj (hl x c e)
  ·rw[if_neg hk]at h1 h2;exact ET r n acc hi hl x y c h1 h2
theorem EV{x:Str}{c:Ω}:∀(names:List (Str×aaN)) (h:χ) (acc:List (Str×Ω)),(cellsFrom h.objs.size names acc).lookup x=ζ c->acc.lookup x=ζ c\/(h.objs.size<=c/\(pushCells h names).IsCell c θ)
 |[],_,_,e=>.inl e
 |(y,k)::r,h,acc,e=>by
  unfold cellsFrom at e;unfold pushCells
  by_cases hk:(k==NameKind.cell)=Θ
  ·rw[if_pos hk]at e ⊢;have e':=e;rw[show h.objs.size+1=(h.push {cls:=.type "cell",data:=.cell θ}).objs.size from(ai0 ..).symm]at e'
   rcases EV r _ _ e' with q|⟨a,q⟩
   ·rw[ai7]at q;cases hx:x==y with
    |true =>
     rw[hx]at q;have e3:h.objs.size=c:=aiH q;subst e3;exact .inr ⟨aij _,_,ala _ _ _ _ (aiI _ rfl),rfl⟩
    |false=>rw[hx]at q;exact .inl q
   ·refine .inr ⟨?_,q⟩;rw[ai0]at a;omega
  ·rw[if_neg hk]at e ⊢;exact EV r h acc e
theorem OP{M:Model}{A:ω}{E:Ξ->ε->Prop}{s:ε}{scope:aa5}{globals:Ω}{cl:List (Str×Ω)}{qual:Str}{env:Env}{Q:Env->ε->Prop}
  (hQ:∀h',(∀b o,s.heap.get? b=ζ o->h'.get? b=ζ o)->h'.Ns s.heap.objs.size (λ_=>θ) ->
   (∀x c,(cellsFrom (s.heap.objs.size+1) scope.names cl).lookup x=ζ c->cl.lookup x=ζ c\/(s.heap.objs.size<c/\h'.IsCell c θ)) ->
   Q {scope,locals:=s.heap.objs.size,globals,cells:=cellsFrom (s.heap.objs.size+1) scope.names cl,qual,func:=θ,code:=env.code,frame:=env.frame,builtins:=env.builtins} {s with heap:=h'}) :
  wpAny M A (newFunctionEnv scope globals cl [] qual θ .none (ζ env)) Q E s:=by
 simp only[newFunctionEnv,Option.isSome_some,if_true];refine aih (wpAny_alloc ?_);refine aih (wpAny_layCells _ (λname kind cells=>by cases hkc:kind==NameKind.cell<;>simp[hkc]) _ _ _ _ ?_)
 rw[show({s with heap:=s.heap.push {cls:=.type "dict",data:=.dict #[]} }:ε).heap.objs.size=s.heap.objs.size+1 from ai0 ..]
 refine aih (aii (aii ?_));refine hQ _ (λb o e=>ala _ _ b o (air _ e)) ((Heap.Ns.new s.heap (.type "dict")).keeps (ala _ _)) λx c e=>?_
 have e':=e;rw[show s.heap.objs.size+1=(s.heap.push {cls:=.type "dict",data:=.dict #[]}).objs.size from(ai0 ..).symm]at e'
 rcases EV scope.names (s.heap.push {cls:=.type "dict",data:=.dict #[]}) cl e' with q|⟨a,q⟩
 ·exact .inl q
 ·refine .inr ⟨?_,q⟩;rw[ai0]at a;omega
theorem wD{env:Env}{x:Str}{k':aaN}:∀{names:List (Str×aaN)},(names.map fun(n,k)=>if(k==NameKind.free&&env.scope.kind == .function&&env.kindOf n==ζ .cell)then(n,NameKind.cell)else(n,k)).lookup x=ζ k' ->
  ∃k,names.lookup x=ζ k/\(k'=k\/(k=.free/\k'=.cell))
 |[],h=>by cases h
 |(n,k)::r,h=>by
  rw[ais]at h
  by_cases hc:(k==NameKind.free&&env.scope.kind == .function&&env.kindOf n==ζ .cell)=Θ
  ·have e:(match((n,k):Str×aaN)with|(n,k)=>if(k==NameKind.free&&env.scope.kind == .function&&env.kindOf n==ζ .cell)then(n,NameKind.cell)else(n,k))=(n,NameKind.cell):=if_pos hc
   rw[e,ai7]at h;rw[ai7];cases hx:x==n with
   |true =>
    rw[hx]at h;have hk:k=.free:=by
     simp only[aiy]at hc
     simpa using hc.1.1
    exact⟨k,rfl,.inr ⟨hk,(aiH h).symm⟩⟩
   |false=>rw[hx]at h;exact wD h
  ·have e:(match((n,k):Str×aaN)with|(n,k)=>if(k==NameKind.free&&env.scope.kind == .function&&env.kindOf n==ζ .cell)then(n,NameKind.cell)else(n,k))=(n,k):=if_neg hc
   rw[e,ai7]at h;rw[ai7];cases hx:x==n with
   |true=>rw[hx]at h;exact⟨k,rfl,.inl (aiH h).symm⟩
   |false=>rw[hx]at h;exact wD h
theorem AU{env:Env}{x:Str}{k:aaN}:∀{names:List (Str×aaN)},names.lookup x=ζ k ->
  ∃k',(names.map fun(n,k)=>if(k==NameKind.free&&env.scope.kind == .function&&env.kindOf n==ζ .cell)then(n,NameKind.cell)else(n,k)).lookup x=ζ k'/\(k'=k\/(k=.free/\k'=.cell))
 |[],h=>by cases h
 |(n,j)::r,h=>by
  rw[ais];rw[ai7]at h
  by_cases hc:(j==NameKind.free&&env.scope.kind == .function&&env.kindOf n==ζ .cell)=Θ
  ·have e:(match((n,j):Str×aaN)with|(n,k)=>if(k==NameKind.free&&env.scope.kind == .function&&env.kindOf n==ζ .cell)then(n,NameKind.cell)else(n,k))=(n,NameKind.cell):=if_pos hc
   rw[e,ai7];cases hx:x==n with
   |true =>
    rw[hx]at h;have hk:j=.free:=by
     simp only[aiy]at hc
     simpa using hc.1.1
    exact⟨.cell,rfl,.inr ⟨(aiH h).symm.trans hk,rfl⟩⟩
   |false=>rw[hx]at h;exact AU h
  ·have e:(match((n,j):Str×aaN)with|(n,k)=>if(k==NameKind.free&&env.scope.kind == .function&&env.kindOf n==ζ .cell)then(n,NameKind.cell)else(n,k))=(n,j):=if_neg hc
   rw[e,ai7];cases hx:x==n with
   |true=>rw[hx]at h;exact⟨j,rfl,.inl (aiH h)⟩
   |false=>rw[hx]at h;exact AU h
theorem Bw{x:Str}{k:aaN}:∀{names:List (Str×aaN)},(names.map (·.1)).Nodup->(x,k)∈names->names.lookup x=ζ k
 |[],_,h=>by cases h
 |(n,j)::r,nd,h=>by
  have nd:(n::r.map (·.1)).Nodup:=nd;obtain⟨n1,n2⟩:=ajI.mp nd;rw[ai7]
  rcases aio.mp h with e|h2
  ·cases e;simp
  ·have hx:(x==n)=Ψ:=by
    have:x≠n:=by
     intro e;exact n1 (aik.mpr ⟨(x,k),h2,e⟩)
    simpa using this
   rw[hx];exact Bw n2 h2
theorem aeJ{prog:τ}{w:ψ}{A:ω}{R:abI->ε->Prop}{s:ε}{elt target iter:π}{ifs:List π}{scope:aa5}{pos:Pos}{it acc:Ξ}{env:Env}(I:Nat->ε->Prop)
  (turn:∀n s,I n s->wpAny (model prog w) A (pyNext it) (λr s₁=>match r with
   |none=>R (.ok .next) s₁
   |some v=>wpAny (model prog w) A (letOwnedTupleGo target it v) (λ_ s₁'=>wpAny (model prog w) A (assign target env v) (λ_ s₂ =>
     wpAny (model prog w) A (forIn ifs Θ λc r=>if r=Θ then do let ok <-isTrue c env (eval c env);pure (ForInStep.yield ok)else pure (ForInStep.yield r)) (λok s₃ =>
      if ok=Θ then wpAny (model prog w) A (eval elt env) (λx s₄ =>
       wpAny (model prog w) A (call (.builtin "list.append") [acc,x]) (λ_ s₅=>∃m,m<n/\I m s₅) (λ_ _=>False) s₄) (λ_ _=>False) s₃
      else ∃m,m<n/\I m s₃) (λ_ _=>False) s₂) (λ_ _=>False) s₁') (λ_ _=>False) s₁) (λ_ _=>False) s)
  (n:Nat) (h:I n s) :
  codeAny (model prog w) A (.compLoop (.ListComp elt [⟨target,iter,ifs,0⟩] scope pos) 0 it acc env) R s:=by
 refine codeAny_loop rfl I (λn s hI=>?_) n h
 show wpAny _ A ((compTurn (.ListComp elt [⟨target,iter,ifs,0⟩] scope pos) 0 it acc env).onRaise (λx=>do noteFrame x env;theTreesLotGoes x)) _ _ s
 refine wpAny_noted ?_;rw[compTurn_list];refine aih (wpAny_standAt (aih (aiO (turn n s hI) (λr s₁ h₁=>?_) λ_ _ h'=>h'.elim)))
 cases r with
 |none=>exact aii h₁
 |some v =>
  refine aih (aiO h₁ (λ_ s₁' h₁'=>?_) λ_ _ h'=>h'.elim)
  refine aih (aiO h₁' (λ_ s₂ h₂=>aih (aiO h₂ (λok s₃ h₃=>?_) λ_ _ h'=>h'.elim)) λ_ _ h'=>h'.elim)
  cases ok with
  |false=>exact aii ⟨rfl,h₃⟩
  |true =>
   exact aih (aih (aiO h₃ (λx s₄ h₄=>aih (aiO h₄ (λ_ s₅ h₅=>aii (aii ⟨rfl,h₅⟩)) λ_ _ h'=>h'.elim)) λ_ _ h'=>h'.elim))
section
variable {X:Cx}{N':List Str}{pick:List (Option Nat)}{scope:aa5}{pins:List (Ω×Obj)}{σ:St}{H₂:Hp}{s₂:ε}{tg:π}{J:It}{fp:List Ω}{it:Ω}{tn:Nat->χ->Prop}
theorem aeL(S:cB X N' pick scope) (I:Inv X pins σ H₂ s₂):closureFor scope X.env=pure (fz X.env scope.names []):=by
 have e:=F0 (env:=X.env) scope.names [] λx hx hk=>I.ok.has x.1 (S.free x hx hk)
 show((forIn scope.names ([]:List (Str×Ω)) fun(x:Str×aaN) cs=>(if(x.2==NameKind.free)=Θ then do let a <-cellOf X.env x.1;pure (ForInStep.yield ((x.1,a)::cs))else pure (ForInStep.yield cs):Sem (ForInStep (List (Str×Ω))))) >>= λcs=>pure cs)=_
 rw[e,pure_bind]
theorem vm(S:cB X N' pick scope) (I:Inv X pins σ H₂ s₂) {x:Str}{c:Ω}(h:(fz X.env scope.names []).lookup x=ζ c):(x,NameKind.free)∈scope.names/\X.env.cells.lookup x=ζ c:=by
 rcases Ni _ _ h with⟨a,b⟩|q
 ·refine⟨a,?_⟩;obtain⟨c',hc⟩:=I.ok.has x (S.free _ a rfl);rw[hc]at b ⊢;rw[b];rfl
 ·cases q
theorem vf(S:cB X N' pick scope) (I:Inv X pins σ H₂ s₂) {n:Nat}{x:Str}{c:Ω}(h:(cellsFrom n scope.names (fz X.env scope.names [])).lookup x=ζ c) :
  (n<=c/\scope.names.lookup x=ζ .cell)\/(scope.names.lookup x=ζ .free/\X.env.cells.lookup x=ζ c):=by
 rcases EU _ _ _ h with⟨a,b⟩|q
 ·exact .inl ⟨a,Bw S.uniq b⟩
 ·obtain⟨a,b⟩:=vm S I q;exact .inr ⟨Bw S.uniq a,b⟩
theorem Mh(S:cB X N' pick scope) (I:Inv X pins σ H₂ s₂) {n:Nat}{x:Str}{c:Ω}(hx:scope.names.lookup x=ζ .free) (hc:X.env.cells.lookup x=ζ c) :
  (cellsFrom n scope.names (fz X.env scope.names [])).lookup x=ζ c:=by
 have h1:((fz X.env scope.names []).lookup x).isSome=Θ:=Nj _ _ (.inr (ajx hx));obtain⟨c',h2⟩:=ak6.mp (aj9 scope.names n _ (.inr h1))
 rcases vf S I h2 with⟨_,z⟩|⟨_,z⟩
 ·rw[hx]at z;cases z
 ·rw[hc]at z;cases z;exact h2
theorem ab2(I:Inv X pins σ H₂ s₂) {b:Ω}(hb:b∈frs X.stack):b<s₂.heap.objs.size:=by
 rcases aio.mp (I.nL b hb)with e|hb
 ·rw[e];exact I.lt
 ·by_cases q:b<s₂.heap.objs.size
  ·exact q
  ·exact absurd hb (I.A7 (Nat.not_lt.mp q))
theorem aeD(S:cB X N' pick scope) (I:Inv X pins σ H₂ s₂) (hf:∀b∈fp,gB X pins H₂ b) (hfo:∀b∈fp,b<s₂.heap.objs.size) {n:Nat}{C:Ω}{s₄:ε}(hn:s₂.heap.objs.size<=n) (hC:s₂.heap.objs.size<=C) (hCn:C<n)
  (hos:s₄.os=s₂.os) (hge:s₄.gens=s₂.gens) (kp:∀b o,s₂.heap.get? b=ζ o->s₄.heap.get? b=ζ o) (ns:s₄.heap.Ns C λ_=>θ)
  (ce:∀x c,(cellsFrom n scope.names (fz X.env scope.names [])).lookup x=ζ c->(fz X.env scope.names []).lookup x=ζ c\/(n<=c/\s₄.heap.IsCell c θ)) :
  Inv (gT X N' scope (cellsFrom n scope.names (fz X.env scope.names [])) C s₂ H₂ fp (X.pn++pins)) [] (kc pick σ) H₂ s₄:=by
 have fr:∀{a:Ω},s₂.heap.objs.size<=a->H₂ a=θ:=λh=>I.hok.fresh h
 have old:∀{x:Str}{c:Ω},X.env.cells.lookup x=ζ c->c<s₂.heap.objs.size:=fun{x c} e=>let⟨v,z⟩:=I.cell x c e;z.lt
 have Tv:∀p∈X.pn++pins,p.1<s₂.heap.objs.size:=λp hp=>aim (I.pin p hp).1
 refine⟨⟨I.ok.mod,S.kind,I.ok.glob,I.ok.blt,hC,?inj,?has,?jA,I.ok.hd,I.ok.frames,.inl rfl,?kP,I.bs,aiT I.ok.gV I.sz,?iP,?jT,I.stack,I.Ay⟩,
  hos,by rw[hge];exact I.bare,Un.kept kp,⟨_,ns,?loc⟩,?cell,fr hC,?fN,?pin,I.hok.kept kp,?len⟩
 case inj =>
  refine ET _ _ _ (λx y c h1 h2=>?_) λx c h=>?_
  ·exact I.ok.inj x y c (vm S I h1).2 (vm S I h2).2
  ·exact aiz (old (vm S I h).2) hn
 case has =>
  intro x hx;have hx:(relabel scope X.env).names.lookup x=ζ .cell\/(relabel scope X.env).names.lookup x=ζ .free:=hx;have go:∀k,scope.names.lookup x=ζ k->k=.cell\/k=.free->∃c,(cellsFrom n scope.names (fz X.env scope.names [])).lookup x=ζ c:=λk hk hq=>by
   rcases hq with rfl|rfl
   ·exact ak6.mp (aj9 _ _ _ (.inl hk))
   ·obtain⟨c,hc⟩:=I.ok.has x (S.free _ (ajx hk) rfl);exact⟨c,Mh S I hk hc⟩
  rcases hx with hx|hx
  ·obtain⟨k,hk,e|⟨e,_⟩⟩:=wD hx
   ·exact go k hk (.inl e.symm)
   ·exact go k hk (.inr e)
  ·obtain⟨k,hk,e|⟨_,e⟩⟩:=wD hx
   ·exact go k hk (.inr e.symm)
   ·cases e
 case jA =>
  intro x c hx hc;have hx:scope.names.lookup x=ζ .cell:=by simpa[gT]using hx
  rcases vf S I hc with⟨a,_⟩|⟨a,_⟩
  ·exact aiT hn a
  ·rw[hx]at a;cases a
 case kP =>
  intro b hb;refine⟨aiq (aiz (hfo b hb) hC),λx c hc=>?_⟩
  rcases vf S I hc with⟨a,_⟩|⟨_,a⟩
  ·exact ajc (aiz (hfo b hb) (aiT hn a))
  ·exact(hf b hb).2.2.2.2.1 x c a
 case iP =>
  intro b o e hb
  rcases(hf b hb).2.2.2.1 with z|z
  ·exact I.ok.iP b o e z
  ·exact absurd (aiz (aim e) (aiT I.ok.gV z)) (ai4 _)
 case jT =>
  intro b hb hs
  rcases aio.mp (I.nL b hs)with e|e
  ·exact(hf b hb).2.1 e
  ·exact(hf b hb).2.2.1 e
 case loc =>
  intro i x v h1 h2 h3;have h1:N'[i]? = ζ x:=h1;have hp:∃j,pick[i]? = ζ (ζ j)/\σ[j]? = ζ (ζ v):=by
   unfold kc at h2;rw[aiL]at h2;cases e:pick[i]? with
   |none=>rw[e]at h2;cases h2
   |some o =>
    rw[e]at h2;cases o with
    |none=>cases h2
    |some j =>
     refine⟨j,rfl,?_⟩;have h2':(σ[j]?).bind id=ζ v:=aiH h2;cases e2:σ[j]? with
     |none=>rw[e2]at h2';cases h2'
     |some q=>rw[e2]at h2';exact congrArg ζ h2'
  obtain⟨j,hj,hv⟩:=hp;obtain⟨hfr,hN⟩:=S.got i j x hj h1;have hk:=S.free _ (ajx hfr) rfl;obtain⟨m,hm,hl⟩:=I.loc;obtain⟨u,ru,lk⟩:=hl j x v hN hv (.inr hk);refine⟨u,ru,?_⟩
  rcases lk with⟨z,_⟩|⟨_,c,hc,hcell⟩
  ·rcases hk with q|q<;>(rw[show X.env.kindOf x=_ from z]at q;cases q)
  ·refine .inr ⟨?_,c,Mh S I hfr hc,hcell.keeps kp⟩;show(relabel scope X.env).names.lookup x=ζ .cell\/(relabel scope X.env).names.lookup x=ζ .free;obtain⟨k',hk',e|⟨_,e⟩⟩:=AU (env:=X.env) hfr
   ·exact .inr (by rw[<-e];exact hk')
   ·exact .inl (by rw[<-e];exact hk')
 case cell =>
  intro x c hc
  rcases ce x c hc with z|⟨_,z⟩
  ·obtain⟨v,q⟩:=I.cell x c (vm S I z).2;exact⟨v,q.keeps kp⟩
  ·exact⟨θ,z⟩
 case fN =>
  intro x c hc
  rcases vf S I hc with⟨a,_⟩|⟨_,a⟩
  ·exact fr (aiT hn a)
  ·exact I.fN x c a
 case pin =>
  intro p hp;have hp:p∈X.pn++pins:=by simpa[gT]using hp
  obtain⟨e,n0,ne,nf,d⟩:=I.pin p hp;refine⟨kp _ _ e,n0,aiq (aiz (Tv p hp) hC),λz=>?_,d⟩
  rcases aio.mp (I.nL _ z)with e|e
  ·exact ne e
  ·exact nf e
 case len =>
  unfold kc;rw[aiu];exact S.len
end
section
variable {X:Cx}{N':List Str}{pick:List (Option Nat)}{scope:aa5}{pins:List (Ω×Obj)}{σ:St}{H₂:Hp}{s₂:ε}{tg:π}{J:It}{fp:List Ω}{it:Ω}{tn:Nat->χ->Prop}
 {elt iter:π}{ifs:List π}{pos:Pos}{g:TG}{tt:TT}{te:TE}
theorem aeG{E:Ξ->ε->Prop}{RR:Ξ->Ω->abI->ε->Prop}{Qv:V->Hp->Prop}(S:cB X N' pick scope) (hc:X.calm=Θ) (iH:Inv X pins σ H₂ s₂) (T:Turn X.prog X.w X.K tg J fp it tn) (st:tn 0 s₂.heap) (hf:∀b∈fp,gB X pins H₂ b)
    (hg:∀cl C s₀ H₀ ex pn,PG (gT X N' scope cl C s₀ H₀ ex pn) tg g) (hi:∀cl C s₀ H₀ ex pn,sL (gT X N' scope cl C s₀ H₀ ex pn) ifs tt) (he:∀cl C s₀ H₀ ex pn,PE (gT X N' scope cl C s₀ H₀ ex pn) elt te)
    {W:Nat->Nat->St->List V->Hp->Prop}{m0:Nat}(h0:W 0 m0 (kc pick σ) [] H₂)
    (turn:∀i m σ' ys H,W i m σ' ys H->ys.length<ι /\
      ((J.stop i H/\∀p,H p=θ->Qv (.ref p) (upd H p (.lst ys))) \/
       (J.go i H/\∃N:St->List V->Hp->Prop,(∀σ2 zs H2,N σ2 zs H2->∃m',m'<m/\W (i+1) m' σ2 zs H2)/\∀x H',J.sP i H x H'->g x σ' H' λσ2 H2=>tt σ2 H2 λb H3 =>
          if b=Θ then te σ2 H3 λy H4=>N σ2 (ys++[y]) H4 else N σ2 ys H3)))
    (fin:∀(D C:Ω) (H':Hp) (s':ε) (m:Str->Option Ξ),Inv X pins σ H' s'->gB X pins H' C->s'.heap.Ns C m->Qv (.ref D) H'->RR (.ref D) C (.ok .next) s') :
    wpAny (model X.prog X.w) X.A (newList []) (λacc s₃=>wpAny (model X.prog X.w) X.A (newFunctionEnv scope X.env.globals (fz X.env scope.names []) [] X.env.qual θ .none (ζ X.env)) (λcenv s₄ =>
      codeAny (model X.prog X.w) X.A (.compStart (.ListComp elt [⟨tg,iter,ifs,0⟩] scope pos) 0 (.ref it) acc {cenv with scope:=relabel scope X.env}) (RR acc cenv.locals) s₄) E s₃) E s₂:=by
  have hfo:∀b∈fp,b<s₂.heap.objs.size:=λb hb=>let⟨o,e,_⟩:=T.obj 0 _ st b hb;aim e
  refine akC (OP λh₄ kp ns ce=>?_)
  generalize Ds:s₂.heap.push {cls:=.type "list",dict:=θ,data:=.seq ([]:List Ξ).toArray}=H3 at kp ns ce ⊢
  have hC:H3.objs.size=s₂.heap.objs.size+1:=by rw[<-Ds,ai0]
  have Ci:∀b o,s₂.heap.get? b=ζ o->h₄.get? b=ζ o:=λb o e=>kp b o (Ds▸air _ e)
  have hD:h₄.get? s₂.heap.objs.size=ζ {cls:=.type "list",data:=.seq ([]:List Ξ).toArray}:=kp _ _ (Ds▸aiI _ rfl);have nc:s₂.heap.objs.size<=H3.objs.size:=by rw[hC];exact ajS _
  have hDC:s₂.heap.objs.size≠H3.objs.size:=by rw[hC];exact aiq (ajf _)
  generalize hcl:cellsFrom (H3.objs.size+1) scope.names (fz X.env scope.names [])=cl at ce
  have Ga:Inv (gT X N' scope cl H3.objs.size s₂ H₂ fp (X.pn++pins)) [] (kc pick σ) H₂ {s₂ with heap:=h₄}:=by
    subst hcl;exact aeD S iH hf hfo (n:=H3.objs.size+1) (aiT nc (ajS _)) nc (ajf _) rfl rfl Ci ns λx c e=>ce x c e
  have abo:∀x c,cl.lookup x=ζ c->c≠s₂.heap.objs.size:=λx c e=>by
    subst hcl
    rcases vf S iH e with⟨a,_⟩|⟨_,a⟩
    · refine ajc (aiz ?_ a)
      rw[hC];exact ajj (ajf _)
    · obtain⟨v,z⟩:=iH.cell x c a
      exact aiq z.lt
  have abn:∀x c,X.env.cells.lookup x=ζ c->c≠H3.objs.size:=λx c e=>by
    obtain⟨v,z⟩:=iH.cell x c e;exact aiq (aiz z.lt nc)
  generalize gc:gT X N' scope cl H3.objs.size s₂ H₂ fp (X.pn++pins)=X' at Ga
  have vL:X'.prog=X.prog:=by subst gc;rfl
  have xw:X'.w=X.w:=by subst gc;rfl
  have xK:X'.K=X.K:=by subst gc;rfl
  have xA:X'.A=X.A:=by subst gc;rfl
  have Gs:X'.calm=Θ:=by subst gc;exact hc
  have vM:X'.env.locals=H3.objs.size:=by subst gc;rfl
  have Ox:X'.env.cells=cl:=by subst gc;rfl
  have Ow:X'.env=compEnvC scope cl H3.objs.size X.env:=by subst gc;rfl
  have Ag:X'.fs=frs X.stack:=by subst gc;rfl
  have Ah:X'.ex=fp:=by subst gc;rfl
  have Af:X'.s₀=s₂:=by subst gc;rfl
  have Gp:X'.pn=X.pn++pins:=by subst gc;rfl
  have Ot:X'.xe=λ_ _=>False:=by subst gc;rfl
  have OO:X'.H₀=H₂:=by subst gc;rfl
  have hg':PG X' tg g:=by subst gc;exact hg _ _ _ _ _ _
  have hi':sL X' ifs tt:=by subst gc;exact hi _ _ _ _ _ _
  have he':PE X' elt te:=by subst gc;exact he _ _ _ _ _ _
  have nM:∀{H':Hp}{pl:List (Ω×Obj)},(∀b∈fp,H' b=θ)->(∀p∈pl,s₂.heap.objs.size<=p.1)->∀b∈fp,gB X' pl H' b:=fun{H' pl} hn hp b hb=>by
    have hlt:=hfo b hb;obtain⟨_,f1,f2,f3,f4,f5⟩:=hf b hb;refine⟨hn b hb,by rw[vM];exact aiq (aiz hlt nc),?_,.inl (by rw[Ah];exact hb),λx c e=>?_,λp d9=>?_⟩
    · rw[Ag]
      intro z
      rcases aio.mp (iH.nL b z)with e|e
      · exact f1 e
      · exact f2 e
    · have:=Ga.ok.kP b (by rw[Ah];exact hb)
      exact this.2 x c e
    · rcases aiK.mp d9 with z|z
      · rw[Gp]at z;exact f5 p z
      · exact ajc (aiz hlt (hp p z))
  have Ib:∀{H':Hp}{s':ε}{σ':St}{o:Obj},Inv X' [] σ' H' s'->s'.heap.get? s₂.heap.objs.size=ζ o->H' s₂.heap.objs.size=θ->(∀v,o.data≠.cell v)->Inv X' [(s₂.heap.objs.size,o)] σ' H' s':=fun{H' s' σ' o} I e hn hnc =>
    I.wL λp hp=>by
      obtain rfl:p=(s₂.heap.objs.size,o):=by simpa using hp
      refine⟨e,hn,by rw[vM];exact hDC,?_,hnc⟩
      rw[Ag];intro z;exact absurd (ab2 iH z) (ai4 _)
  have zO:H₂ s₂.heap.objs.size=θ:=iH.hok.fresh (aij _)
  let Iv:Nat->ε->Prop:=λn s'=>∃(i:Nat) (σ':St) (ys:List V) (H':Hp) (its:List Ξ) (k:Nat),Inv X' [(s₂.heap.objs.size,{cls:=.type "list",data:=.seq its.toArray k})] σ' H' s'/\Vals ys its/\tn i s'.heap/\(∀b∈fp,H' b=θ)/\W i n σ' ys H'
  have loop:codeAny (model X.prog X.w) X.A (.compLoop (.ListComp elt [⟨tg,iter,ifs,0⟩] scope pos) 0 (.ref it) (.ref s₂.heap.objs.size) X'.env) (RR (.ref s₂.heap.objs.size) H3.objs.size) {s₂ with heap:=h₄}:=by
    refine aeJ Iv ?_ m0 ⟨0,_,[],H₂,[],_,Ib Ga hD zO (λv q=>nomatch q),.nil,T.keep _ _ _ st λb _ o e=>Ci b o e,λb hb=>(hf b hb).1,h0⟩
    rintro n s5 ⟨i,vK,ys,H5,its,k,I5,rv,i9,yk,w5⟩
    obtain⟨hlen,tr⟩:=turn i n vK ys H5 w5;have p5:∀{o:Obj},∀p∈[(s₂.heap.objs.size,o)],s₂.heap.objs.size<=p.1:=fun{o} p hp=>by
      obtain rfl:p=(s₂.heap.objs.size,o):=by simpa using hp
      exact aij _
    rw[<-xA]
    rcases tr with⟨stop,qf⟩|⟨go,N,hN,step⟩
    · have dn:=T.done X' vL xw xK Gs i _ s5 vK H5 (λ_ _=>False) I5 (nM yk p5) i9 stop
      rw[xA]at dn ⊢;refine aiO dn (λr s6 h6=>?_) λ_ _ z=>z
      obtain⟨rfl,I6⟩:=h6;show RR (.ref s₂.heap.objs.size) H3.objs.size (.ok .next) s6;obtain⟨eD,nD,_⟩:=I6.pin _ (ajb _ ai1);have nK:Un (frs X.stack) fp H₂ H5 s₂.heap s6.heap:=by
        have:=I6.base;rw[Ag,Ah,Af,OO]at this;exact this
      have lt:∀{b:Ω}{o:Obj},s₂.heap.get? b=ζ o->b≠s₂.heap.objs.size:=λe=>aiq (aim e)
      have O0:Un (frs X.stack) fp H₂ (upd H5 s₂.heap.objs.size (.lst ys)) s₂.heap s6.heap :=
        ⟨nK.keep,nK.slot,λb o e n hx=>by rw[bM (lt e)];exact nK.free b o e n hx,nK.there,λb xs e=>by rw[bM (dz e zO)];exact nK.tups b xs e,
          λb o u e=>by rw[bM (dz e zO)];exact nK.gK b o u e,λb ps e=>by rw[bM (dz e zO)];exact nK.gD b ps e⟩
      have aa3:cL X.prog X.w (upd H5 s₂.heap.objs.size (.lst ys)) s6.heap:=λb u e=>by
        by_cases hb:b=s₂.heap.objs.size
        · subst hb
          rw[gi]at e;cases e;exact⟨ajG hlen,its,k,rv,eD⟩
        · rw[bM hb]at e
          have:=I6.hok b u e;rw[vL,xw]at this;exact this.stay (λ_ _ _ q=>q) (λc q=>by rw[bM (dz q nD)];exact q) λc xs q=>by rw[bM (dz q nD)];exact q
      have I7:Inv X pins σ (upd H5 s₂.heap.objs.size (.lst ys)) s6:=by
        refine iH.afa (ch:=fp) ?_ O0 aa3 I6.bare λb hb=>?_
        · have:=I6.os;rw[Af]at this;exact this
        · obtain⟨_,f1,f2,f3,f4,f5⟩:=hf b hb
          exact⟨f3,f1,f4,f5⟩
      obtain⟨m6,n6,_⟩:=I6.loc;rw[vM]at n6;have hC6:H5 H3.objs.size=θ:=by have:=I6.free;rw[vM]at this;exact this
      refine fin _ _ _ s6 m6 I7 ⟨by rw[bM (aja hDC)];exact hC6,?_,?_,.inr (aiT iH.sz nc),abn,λp hp=>?_⟩ n6 (qf _ nD)
      · exact ajc (aiz iH.lt nc)
      · intro z
        exact absurd z (iH.A7 nc)
      · exact aiq (aiz (aim (iH.pin p hp).1) nc)
    · have itm:=T.item X' vL xw xK Gs i _ s5 vK H5 (λ_ _=>False) I5 (nM yk p5) i9 go
      refine aiO itm (λr s6 h6=>?_) λ_ _ z=>z
      obtain⟨u,rfl,h6⟩:=h6;refine aiO h6 (λ_ s7 h7=>?_) λ_ _ z=>z
      obtain⟨x,H7,I7,rx,y7,mC,fr7⟩:=h7;have I7':=I7.pinned (nM fr7 p5) (T.obj _ _ mC);have mp:∀{α:Type}{t:Sem α}{Q:α->ε->Prop}{s:ε},wpAny (model X'.prog X'.w) X'.A t Q X'.xe s->wpAny (model X.prog X.w) X'.A t Q (λ_ _=>False) s:=fun{α t Q s} h=>by
        rw[vL,xw,Ot]at h;exact h
      refine aiO (mp (hg' _ s7 vK H7 x u _ I7' rx (step x H7 y7))) (λ_ s8 h8=>?_) λ_ _ z=>z
      obtain⟨sO,H8,I8,q8⟩:=h8;refine aiO (mp (hi' _ s8 sO H8 _ I8 q8)) (λok s9 h9=>?_) λ_ _ z=>z
      obtain⟨H9,I9,q9⟩:=h9;have J7:∀{σ':St}{H':Hp}{s':ε},Inv X' ([(s₂.heap.objs.size,{cls:=.type "list",data:=.seq its.toArray k})]++t6 fp s7.heap) σ' H' s'->tn (i+1) s'.heap/\∀b∈fp,H' b=θ:=fun{σ' H' s'} I=>by
        refine⟨T.keep _ _ _ mC λb hb o e=>(I.pin (b,o) (ajb _ (ajb _ (xT hb e)))).1,λb hb=>?_⟩
        obtain⟨o,e,d⟩:=T.obj _ _ mC b hb;exact(I.pin (b,o) (ajb _ (ajb _ (xT hb e)))).2.1
      cases ok with
      | false =>
        rw[if_neg aiD]at q9 ⊢;obtain⟨m',hm,w9⟩:=hN _ _ _ q9;obtain⟨t9,f9⟩:=J7 I9;exact⟨m',hm,i+1,sO,ys,H9,its,k,I9.sX,rv,t9,f9,w9⟩
      | true =>
        rw[if_pos rfl]at q9 ⊢;refine aiO (mp (he' _ s9 sO H9 _ I9 q9)) (λv tT h10=>?_) λ_ _ z=>z
        obtain⟨y,Nv,Nu,ry,YT⟩:=h10;obtain⟨m',hm,mw⟩:=hN _ _ _ YT;obtain⟨Aw,f10⟩:=J7 Nu;have Nt:=Nu.sX;obtain⟨eD,nD,eZ,nfD,dD⟩:=Nt.pin _ (ajb _ ai1);have hl:=rv.length;refine ajz F.slot_list_append ⟨_,eD,rfl⟩ F.entry_list_append (F.args_list_append_2 _ _) (al2 s₂.heap.objs.size its.toArray k v (by rw[aiw];omega)) ⟨eD,?_⟩
        have q:=al1 eD (·.push v);have I11:Inv X' [] sO Nv {tT with heap:=tT.heap.update s₂.heap.objs.size (Obj.mapSeq (·.push v))}:=by
          refine(Nt.wL (qG:=[]) λp hp=>by cases hp).turned (t':=tT.toks) (it:=s₂.heap.objs.size) (λb o hb e=>(ajR tT.heap (Obj.mapSeq (·.push v)) (aja hb)).trans e) nD eZ (.inr (by rw[Af];exact aij _)) (λx c hc=>abo x c (by rw[<-Ox];exact hc)) λp hp=>?_
          have hp:p∈X.pn++pins:=by rw[ajv,Gp]at hp;exact hp
          exact aiq (aim (iH.pin p hp).1)
        rw[show its.toArray.push v=(its++[v]).toArray by simp]at q
        refine⟨m',hm,i+1,sO,ys++[y],Nv,its++[v],_,Ib I11 q nD (λv q=>nomatch q),rv.append (.cons ry .nil),?_,f10,mw⟩
        refine T.keep _ _ _ Aw λb hb o e=>(ajR tT.heap (Obj.mapSeq (·.push v)) ?_).trans e
        exact ajc (hfo b hb)
  have e4:({scope:=relabel scope X.env,locals:=H3.objs.size,globals:=X.env.globals,cells:=cl,qual:=X.env.qual,func:=θ,code:=X.env.code,frame:=X.env.frame,builtins:=X.env.builtins}:Env)=X'.env:=by rw[Ow];rfl
  have j9:tn 0 h₄:=T.keep _ _ _ st λb _ o e=>Ci b o e
  have goal:codeAny (model X.prog X.w) X.A (.compStart (.ListComp elt [⟨tg,iter,ifs,0⟩] scope pos) 0 (.ref it) (.ref s₂.heap.objs.size) X'.env) (RR (.ref s₂.heap.objs.size) H3.objs.size) {s₂ with heap:=h₄} :=
    codeAny_compStart_list loop (T.self _ 0 _ _ _ j9 loop)
  rw[<-e4]at goal;exact goal
theorem Inv.gone{H':Hp}{s':ε}{h':χ}{C:Ω}(I:Inv X pins σ H' s') (f:gB X pins H' C) (hs:aaV C s'.heap h'):Inv X pins σ H' {s' with heap:=h'}:=by
 obtain⟨f0,f1,f2,f3,f4,f5⟩:=f;exact I.turned (t':=s'.toks) (λb o hb e=>(hs.2 b hb).trans e) f0 f1 f3 f4 f5
theorem UX{wi:TI}(S:cB X N' pick scope) (hc:X.calm=Θ) (hit:PI X tg iter wi)
  (hg:∀cl C s₀ H₀ ex pn,PG (gT X N' scope cl C s₀ H₀ ex pn) tg g) (hi:∀cl C s₀ H₀ ex pn,sL (gT X N' scope cl C s₀ H₀ ex pn) ifs tt) (he:∀cl C s₀ H₀ ex pn,PE (gT X N' scope cl C s₀ H₀ ex pn) elt te)
  (hs:∀x,foldedSetIterable iter X.env x=pure x:=by intro _;rfl) :
  PE X (.ListComp elt [⟨tg,iter,ifs,0⟩] scope pos) (G3 wi pick g tt te):=by
 intro pins s σ H Q I h;rw[eval_ListComp];refine wpAny_comprehension_free (use:=θ) rfl hs (aeL S I) S.kind S.names (br (hit pins s σ H _ I h) λv s1 h1=>br h1 λitv s2 h2=>?_)
 obtain⟨it,fp,tn,J,H2,rfl,I2,T,st2,f2,W,⟨m0,w0⟩,turn⟩:=h2;refine aeG (RR:=λacc C=>compPost (model X.prog X.w) X.A X.xe θ (EP X pins σ Q) acc C) (Qv:=Q) S hc I2 T st2 f2 hg hi he w0 turn ?_
 intro D C H' s' m I' f' n' q';exact⟨m,n',λh' hs'=>⟨.ref D,H',I'.gone f' hs',rfl,q'⟩⟩
end
def L8(XN:List Str) (xn:List (Str×aaN)) (N':List Str) (pick:List (Option Nat)) (names:List (Str×aaN)):Bool :=
 decide N'.Nodup&&names.all (λx=>decide (names.lookup x.1=ζ x.2))&&decide ((names.map (·.1)).Nodup)&&(pick.length==N'.length) &&
 (pick.zip N').all (λq=>match q.1 with|none=>Θ|some j=>decide (names.lookup q.2=ζ NameKind.free)&&decide (XN[j]? = ζ q.2)) &&
 names.all (λx=>decide (x.2≠NameKind.free)||(decide (xn.lookup x.1=ζ NameKind.cell)||decide (xn.lookup x.1=ζ NameKind.free)))
theorem cB.of{X:Cx}{N':List Str}{pick:List (Option Nat)}{scope:aa5}(hk:scope.kind=.function) (h:L8 X.N X.env.scope.names N' pick scope.names=Θ):cB X N' pick scope:=by
 unfold L8 at h;simp only[aiy,aip,decide_eq_true_eq,beq_iff_eq,akc]at h;obtain⟨⟨⟨⟨⟨h1,h2⟩,h3⟩,h4⟩,h5⟩,h6⟩:=h;refine⟨hk,h1,λx hx e=>by rw[<-e];exact h2 x hx,h3,h4,λi j x hp hN=>?_,λx hx e=>?_⟩
 ·have hm:(ζ j,x)∈pick.zip N':=by
   have:(pick.zip N')[i]? = ζ (ζ j,x):=by rw[al4];exact⟨hp,hN⟩
   exact aiP this
  exact h5 _ hm |> λz=>by simpa using z
 ·rcases h6 x hx with z|z|z
  ·exact absurd e z
  ·exact .inl z
  ·exact .inr z
end L2
namespace PySem
open Sem (wp)
section
variable {prog:τ}{w:ψ}{A:ω}{E:Ξ->ε->Prop}{s:ε}
structure ZA (z TI TO i1 i2:Ω) (f1 f2:List Ω):Prop where
 TIz:TI≠z
 TOz:TO≠z
 TITO:TI≠TO
 TIi1:TI≠i1
 TIi2:TI≠i2
 m1:i1∈f1
 m2:i2∈f2
 z1:z∉f1
 z2:z∉f2
 o1:TO∉f1
 o2:TO∉f2
 x1:i1∉f2
 x2:i2∉f1
open AutoSeq1 (wpAny_loadPart')
end
end PySem
namespace L2
open PySem PySem.Spec PyProof.Rows
section
variable {X:Cx}{pins:List (Ω×Obj)}{σ:St}{H:Hp}{s:ε}{K:Δ}
theorem ab6{a b:Ω}{xs:List V}(I:Inv X pins σ H s) (f:gB X pins H b) (q:bJ X.K H a xs):a≠b:=by
 rintro rfl
 rcases q with(q|⟨o,q⟩)|⟨o,its,n,q,_⟩
 ·rw[f.1]at q;cases q
 ·rw[f.1]at q;cases q
 ·have e:=I.ok.mod.mW a o q
  rcases f.2.2.2.1 with z|z
  ·exact I.ok.iP _ _ e z
  ·exact absurd (aiz (aim e) (aiT I.ok.gV z)) (ai4 _)
theorem Inv.O5{h':χ}{t':Nat}{ch:List Ω}{T:Ω}{vs:List V}{us:List Ξ}(I:Inv X pins σ H s) (hf:∀b∈ch,gB X pins H b) (k:∀b o,b∉ch->s.heap.get? b=ζ o->h'.get? b=ζ o)
  (hT:s.heap.objs.size<=T) (th:∀b∈ch,∃o,h'.get? b=ζ o) (rv:Vals vs us) (hz:vs.length<=ι) (tup:l0 h' T us.toArray):Inv X pins σ (upd H T (.tup vs)) {s with heap:=h',toks:=t'}:=by
 have hn:H T=θ:=I.hok.fresh hT;have jj:∀b u,H b=ζ u->b∉ch:=λb u e z=>by rw[(hf b z).1]at e;cases e
 refine I.step (g':=s.gens) (d':=s.drawn) (ch:=ch) (λb hb=>?_) (λb o _ _ hc e _=>k b o hc e) (λb o _ _ hc e _=>⟨o.slots,k b o hc e⟩) (λb o _ e n=>?_)
  (λb o hc e=>⟨o,k b o hc e⟩) (λb xs e=>by rw[bM (dz e hn)];exact e) (λb o u e=>by rw[bM (dz e hn)];exact e) (λb ps e=>⟨#[],by rw[bM (dz e hn),e];simp⟩) (λm hm=>?_) (λb u e=>?_) I.bare
 ·obtain⟨f0,f1,f2,f3,f4,f5⟩:=hf b hb;exact⟨f3,f1,f4,f5⟩
 ·rw[bM (aiq (aiz (aim e) hT))];exact n
 ·obtain⟨o,es,ep,ho,r⟩:=hm;exact⟨o,es,ep,k _ o (λz=>(hf _ z).2.1 rfl) ho,r⟩
 ·by_cases hb:b=T
  ·subst hb;rw[gi]at e;cases e;exact⟨hz,us,rv,tup⟩
  ·rw[bM hb]at e;refine(I.hok b u e).stay (λc v hc q=>k c v ?_ q) (λc q=>by rw[bM (dz q hn)];exact q) λc xs q=>by rw[bM (dz q hn)];exact q
   rcases hc with z|z
   ·rw[z];exact jj b u e
   ·exact jj c _ z
theorem Inv.O6{h':χ}{t':Nat}{ch:List Ω}(I:Inv X pins σ H s) (hf:∀b∈ch,gB X pins H b) (k:∀b o,b∉ch->s.heap.get? b=ζ o->h'.get? b=ζ o):Inv X pins σ H {s with heap:=h',toks:=t'}:=by
 have jj:∀b u,H b=ζ u->b∉ch:=λb u e z=>by rw[(hf b z).1]at e;cases e
 refine I.step (g':=s.gens) (d':=s.drawn) (ch:=ch) (λb hb=>?_) (λb o _ _ hc e _=>k b o hc e) (λb o _ _ hc e _=>⟨o.slots,k b o hc e⟩) (λb o _ e n=>n)
  (λb o hc e=>⟨o,k b o hc e⟩) (λb xs e=>e) (λb o u e=>e) (λb ps e=>⟨#[],by rw[e];simp⟩) (λm hm=>?_) (λb u e=>?_) I.bare
 ·obtain⟨f0,f1,f2,f3,f4,f5⟩:=hf b hb;exact⟨f3,f1,f4,f5⟩
 ·obtain⟨o,es,ep,ho,r⟩:=hm;exact⟨o,es,ep,k _ o (λz=>(hf _ z).2.1 rfl) ho,r⟩
 ·refine(I.hok b u e).stay (λc v hc q=>k c v ?_ q) (λc q=>q) λc xs q=>q
  rcases hc with z|z
  ·rw[z];exact jj b u e
  ·exact jj c _ z
end
structure Nl (P:τ) (w:ψ) (K:Δ) (Sq:Hp->Ω->List V->Prop) (pH:χ->Ω->Ω->Nat->Prop) (zN:χ->Ω->Array Ξ->Prop):Prop where
 get:∀{X:Cx}{pins:List (Ω×Obj)}{σ:St}{H:Hp}{s:ε}{a:Ω}{xs:List V},X.K=K->Inv X pins σ H s->Sq H a xs->∃its:List Ξ,Vals xs its/\zN s.heap a its.toArray/\xs.length<=ι
 inj:∀{X:Cx}{pins:List (Ω×Obj)}{σ:St}{H:Hp}{s:ε}{a:Ω}{xs ys:List V},X.K=K->Inv X pins σ H s->Sq H a xs->Sq H a ys->xs=ys
 ne:∀{X:Cx}{pins:List (Ω×Obj)}{σ:St}{H:Hp}{s:ε}{a b:Ω}{xs:List V},X.K=K->Inv X pins σ H s->gB X pins H b->Sq H a xs->a≠b
 zh:∀(A:ω) (it l:Ω) (items:Array Ξ),A.handled=θ->l≠it->Draws P w A it [it,l] items.size (λi v=>items[i]? = ζ v) (λi h=>pH h it l i/\zN h l items)
 obj:∀{h:χ}{it l:Ω}{i:Nat},pH h it l i->∃o,h.get? it=ζ o/\∀v,o.data≠.cell v
 at':∀{h h':χ}{it l:Ω}{i:Nat},pH h it l i->(∀o,h.get? it=ζ o->h'.get? it=ζ o)->pH h' it l i
theorem RL{P:τ}{w:ψ}{K:Δ}:Nl P w K (bJ K) (λh it l i=>h.IsListIter it l i) (λh a xs=>h.IsList a xs) where
 get:=λe I q=>by subst e;obtain⟨its,r,p,z⟩:=I.list q;exact⟨its,r,p.isList,z⟩
 inj:=λe I q q'=>by subst e;exact I.JT q q'
 ne:=λe I f q=>by subst e;exact ab6 I f q
 zh:=λA it l items hh hne=>Draws.list hh it l hne items
 obj:=λst=>by obtain⟨o,e,c,d⟩:=st;exact⟨o,e,λv z=>by rw[d]at z;cases z⟩
 at':=λst k=>st.at k
def Gf(Sq:Hp->Ω->List V->Prop) (a:Ω):It :=
  ⟨λi H=>∃xs x,Sq H a xs/\xs[i]? = ζ x,
   λi H v H'=>∃t x,v=.ref t/\H t=θ/\H'=upd H t (.tup [.int i,x])/\∀xs,Sq H a xs->xs[i]? = ζ x,
   λi H=>∃xs,Sq H a xs/\i=xs.length⟩
theorem GI{xs:List V}{us:List Ξ}{i:Nat}{u:Ξ}(r:Vals xs us) (h:us.toArray[i]? = ζ u):∃x,xs[i]? = ζ x/\RelV x u:=by
 have h':us[i]? = ζ u:=by simpa using h
 have hi:i<xs.length:=by rw[r.length];exact(aix.mp h').1
 obtain⟨u',e,q⟩:=r.get (i:=i) (x:=xs[i]) (ait hi);rw[h']at e;cases e;exact⟨xs[i],ait hi,q⟩
theorem Pa{P:τ}{w:ψ}{K:Δ}{Sq:Hp->Ω->List V->Prop}{pH:χ->Ω->Ω->Nat->Prop}{zN:χ->Ω->Array Ξ->Prop}(S:Nl P w K Sq pH zN) {es:List π}{k:Nat}{pt:Pos}(a e it:Ω) (n1:e≠it) :
  Turn P w K (.Tuple es k pt) (Gf Sq a) [e,it] e (λi h=>(∃old,IsEnum h e it i old)/\pH h it a i) where
 mem:=by simp
 obj:=λi h st b hb=>by
  obtain⟨⟨old,hz⟩,h1⟩:=st;simp only[aio,aiE,or_false]at hb
  rcases hb with rfl|rfl
  ·exact⟨_,hz,λv q=>nomatch q⟩
  ·exact S.obj h1
 keep:=λi h h' st kp=>by
  obtain⟨⟨old,hz⟩,h1⟩:=st;exact⟨⟨old,kp _ (by simp) _ hz⟩,S.at' h1 λo e=>kp _ (by simp) o e⟩
 item:=by
  intro X hP hw hK hc i pins s σ H E I hf st hg;subst hP hw;obtain⟨xs,x,q1,hx⟩:=hg;obtain⟨⟨old,hz⟩,h1⟩:=st;obtain⟨us,r1,p1,l1⟩:=S.get hK I q1;have ne1:∀{b:Ω},b∈[e,it]->a≠b:=λhb=>S.ne hK I (hf _ hb) q1
  have hx':i<us.toArray.size:=by have:=(aix.mp hx).1;have:=r1.length;simp;omega
  have W:=WalksT.enumerateD (A:=X.A) (S.zh X.A.in1 it a us.toArray (I.ok.hd hc) (ne1 (by simp))) e n1 (by simp only[aio,aiE,or_false,not_or];exact⟨n1,(ne1 (by simp)).symm⟩) (by simp)
  refine wpAny_pyNext_enum_itemD (S.zh X.A.in1 it a us.toArray (I.ok.hd hc) (ne1 (by simp))) hz ⟨h1,p1⟩ hx' n1 (by simp only[aio,aiE,or_false,not_or];exact⟨n1,(ne1 (by simp)).symm⟩) λu0 h' tk0 SV ho0 hs0 hT0 hsz0 hk0=>?_
  have hilt:it<s.heap.objs.size:=by obtain⟨o,e3,_⟩:=S.obj h1;exact aim e3
  have hT:s.heap.objs.size<=s.heap.objs.size:=aij _;have mid:(∃x,IsEnumOut h' e it ((i:Int)+1) x s.heap.objs.size)/\_/\s.heap.objs.size≠e/\s.heap.objs.size≠it:=⟨⟨_,ho0⟩,hs0,ajc (aim hz),ajc hilt⟩;have kp:∀b o,b∉[e,it]->s.heap.get? b=ζ o->h'.get? b=ζ o:=λb o hb y=>hk0 b o (λe'=>hb (by simp[e'])) (λe'=>hb (by simp[e'])) y
  refine⟨_,rfl,?_⟩;refine W.go es k pt i s.heap.objs.size {s with heap:=h',toks:=tk0+1} _ _ mid λh'' st'' J2=>?_
  obtain⟨x',ex,rx⟩:=GI r1 SV;have lt:∀{c:Ω}{o:Obj},s.heap.get? c=ζ o->c≠s.heap.objs.size:=λq=>aiq (aim q)
  have hT2:l0 h'' s.heap.objs.size [.int i tk0,u0].toArray:=⟨_,J2 _ _ (W.apart _ _ _ mid) hT0,rfl,⟨_,rfl⟩,rfl⟩;have I2:Inv X pins σ (upd H s.heap.objs.size (.tup [.int i,x'])) {s with heap:=h'',toks:=tk0+1}:=by
   refine I.O5 (ch:=[e,it]) (us:=[.int i tk0,u0]) hf (λc o hcn e1=>J2 _ _ hcn (kp c o hcn e1)) hT (λb hb=>?_) (.cons ⟨tk0,rfl⟩ (.cons rx .nil)) (by show 2<=ι;decide) hT2
   simp only[aio,aiE,or_false]at hb
   rcases hb with rfl|rfl
   ·obtain⟨⟨o2,e2⟩,_⟩:=st'';exact⟨_,e2⟩
   ·obtain⟨_,e2,_⟩:=st'';obtain⟨o,e3,_⟩:=S.obj e2;exact⟨o,e3⟩
  refine⟨.ref s.heap.objs.size,_,I2,rfl,⟨_,x',rfl,I.hok.fresh hT,rfl,λxs' w1=>?_⟩,⟨?_,st''.2.1⟩,λb hb=>?_⟩
  ·rw[S.inj hK I w1 q1];exact ex
  ·obtain⟨⟨o2,e2⟩,_⟩:=st'';exact⟨o2,by simpa using e2⟩
  ·have hb':b≠s.heap.objs.size:=by
    simp only[aio,aiE,or_false]at hb
    rcases hb with rfl|rfl
    ·exact lt hz
    ·obtain⟨o,e3,_⟩:=S.obj h1;exact lt e3
   rw[bM hb'];exact(hf b hb).1
 done:=by
  intro X hP hw hK hc i pins s σ H E I hf st hg;subst hP hw;obtain⟨xs,q1,hend⟩:=hg;obtain⟨⟨old,hz⟩,h1⟩:=st;obtain⟨us,r1,p1,l1⟩:=S.get hK I q1;have ne1:∀{b:Ω},b∈[e,it]->a≠b:=λhb=>S.ne hK I (hf _ hb) q1
  have W:=WalksT.enumerateD (A:=X.A) (S.zh X.A.in1 it a us.toArray (I.ok.hd hc) (ne1 (by simp))) e n1 (by simp only[aio,aiE,or_false,not_or];exact⟨n1,(ne1 (by simp)).symm⟩) (by simp)
  have ei:i=us.toArray.size:=by rw[aiw,<-r1.length];exact hend
  subst ei;refine W.done s _ _ ⟨⟨old,hz⟩,h1,p1⟩ λh' tk kp=>⟨rfl,I.O6 (ch:=[e,it]) hf kp⟩
 self:=λA i s Q E st h=>by
  obtain⟨⟨old,hz⟩,h1⟩:=st;exact wpAny_pyIter_enum hz h
section
variable {X:Cx}{es':List π}{kt:Nat}{pt:Pos}
def aaL(Sq:Hp->Ω->List V->Prop) (ta:TA):TI:=λσ H R=>ta σ H λvs H1=>∃a,vs=[.ref a]/\(∃xs,Sq H1 a xs)/\R (Gf Sq a) H1
theorem Oh{pins:List (Ω×Obj)}{σ:St}{H:Hp}{s:ε}{n:Nat}(I:Inv X pins σ H s) (hn:s.heap.objs.size=n):∀b∈[n+4,n+2,n+3,n,n+1],gB X pins H b:=λb hb=>by
 have:s.heap.objs.size<=b:=by
  simp only[aio,aiE,or_false]at hb
  rcases hb with rfl|rfl|rfl|rfl|rfl<;>rw[hn]
  ·exact ajT _ _
  ·exact ajT _ _
  ·exact ajT _ _
  ·exact aij _
  ·exact ajT _ _
 exact I.uW this (I.hok.fresh this)
end
section
variable {X:Cx}
theorem Pe{A:ω}{bs:List Bool}{its:List Ξ}(r:Vals (bs.map V.bl) its):TruthOf X.prog X.w A (λi v=>its.toArray[i]? = ζ v) (λi=>bs.getD i Ψ):=by
 intro i v s Q E hP hQ;obtain⟨x,ex,rx⟩:=GI r hP;rw[aiL]at ex;cases e:bs[i]? with
 |none=>rw[e]at ex;cases ex
 |some b =>
  rw[e]at ex;cases ex;cases rx;refine aju ?_;have:bs.getD i Ψ=b:=by rw[aiA,e];rfl
  have hQ:Q (bs.getD i Ψ) s:=hQ;rw[this]at hQ;exact hQ
theorem range_all(bs:List Bool):((η bs.length).all λi=>bs.getD i Ψ)=bs.all id:=by
 rw[aj6,aip,aip]
 constructor
 ·intro h b hb;obtain⟨i,hi,e⟩:=akD.mp hb;have:=h i (ain.mpr hi);rw[aiA,ait hi]at this;rw[<-e];exact this
 ·intro h i hi;have hi:=ain.mp hi;rw[aiA,ait hi];exact h _ (aiJ hi)
theorem agk{pins:List (Ω×Obj)}{σ:St}{H:Hp}{s:ε}{h':χ}{tk:Nat}{o:Obj}(I:Inv X pins σ H s) (kp:∀b q,b∉[s.heap.objs.size]->(s.heap.push o).get? b=ζ q->h'.get? b=ζ q):Inv X pins σ H {s with heap:=h',toks:=tk} :=
 I.kept λb q e=>kp b q (by simp only[aio,aiE,or_false];exact aiq (aim e)) (air _ e)
theorem ae9(hc:X.calm=Θ):dI X (.builtin "all") (λxs H Q=>∃(p:Ω) (bs:List Bool),xs=[.ref p]/\bJ X.K H p (bs.map V.bl)/\Q (.bl (bs.all id)) H):=by
 intro pins s σ H xs us Q I r h;obtain⟨p,bs,rfl,hp,q⟩:=h;obtain⟨u,rfl,ru⟩:=vals1 r;cases ru;obtain⟨its,rv,pl,hz⟩:=I.list hp;have hL:=pl.isList;have hpn:p≠s.heap.objs.size:=by obtain⟨o,e,_⟩:=hL;exact aiq (aim e)
 refine call_all_walk (aks hL ⟨s.heap.objs.size,_,_,its.toArray.size,_,_,λi=>bs.getD i Ψ,rfl,Walks.list (A:=X.A.in1) (I.ok.hd hc) s.heap.objs.size p hpn its.toArray,⟨⟨_,aiI _ rfl,rfl,rfl⟩,hL.push _⟩,Pe rv,λh' tk kp=>?_⟩)
 have hl:=rv.length;rw[aiu]at hl;have I1:Inv X pins σ H {s with heap:=h',toks:=tk}:=agk I kp
 refine⟨.bl (bs.all id),H,I1,?_,q⟩;show Value.bool _=Value.bool _;rw[aiw,<-hl,range_all]
def tyName(H:Hp):V->String->Prop
 |.aM,n=>n="NoneType"
 |.bl _,n=>n="bool"
 |.int _,n=>n="int"
 |.str _,n=>n="str"
 |.ref a,n=>(n="list"/\((∃xs,H a=ζ (.lst xs))\/∃o xs,H a=ζ (.eT o (.lst xs))))\/(n="tuple"/\∃xs,H a=ζ (.tup xs))\/(n="dict"/\((∃k,H a=ζ (.dK k))\/∃k,H a=ζ (.dT k)))
 |_,_=>False
theorem O2{K:Δ}{H:Hp}{x:V}{n:String}(h:tyName H x n):iF K H x (.type n):=by
 cases x with
 |aM=>cases(show n="NoneType" from h);exact .aM
 |bl b=>cases(show n="bool" from h);exact .bl b
 |int b=>cases(show n="int" from h);exact .int b
 |str b=>cases(show n="str" from h);exact .str b
 |ref a =>
  rcases h with⟨rfl,⟨xs,e⟩|⟨o,xs,e⟩⟩|⟨rfl,xs,e⟩|⟨rfl,⟨k,e⟩|⟨k,e⟩⟩
  ·exact .lst e
  ·exact .eT e
  ·exact .tup e
  ·exact .dK e
  ·exact .dT e
 |_=>exact False.elim h
def tF(n T:String):Bool:=n==T||(n=="bool"&&T=="int")
def Zz(n T:String):Option Bool:=if(Value.type n==Value.type T)=Θ then ζ Θ else if PySem.W.kitMeta T=Θ then(fastBuiltinMro n).map (·.contains (Value.type T))else θ
theorem J4{K:Δ}{n T:String}(hn:n∈["NoneType","bool","int","str","list","tuple","dict"]) (hT:T∈["bool","int","str","list","tuple","dict"]):PySem.W.kitOne K (.type n) (.type T)=ζ (tF n T):=by
 show Zz n T=ζ (tF n T);simp only[aio,aiE,or_false]at hn hT
 rcases hn with rfl|rfl|rfl|rfl|rfl|rfl|rfl<;>rcases hT with rfl|rfl|rfl|rfl|rfl|rfl<;>decide +kernel
theorem O3{H:Hp}{x:V}{n:String}(h:tyName H x n):n∈["NoneType","bool","int","str","list","tuple","dict"]:=by
 cases x with
 |aM=>cases(show n="NoneType" from h);simp
 |bl b=>cases(show n="bool" from h);simp
 |int b=>cases(show n="int" from h);simp
 |str b=>cases(show n="str" from h);simp
 |ref a=>rcases h with⟨rfl,_⟩|⟨rfl,_⟩|⟨rfl,_⟩<;>simp
 |_=>exact False.elim h
theorem ae7:dI X (.builtin "isinstance") (λxs H Q=>∃x n T,xs=[x,.ty T]/\tyName H x n/\T∈["bool","int","str","list","tuple","dict"]/\Q (.bl (tF n T)) H):=by
 intro pins s σ H xs us Q I r h;obtain⟨x,n,T,rfl,hx,hT,q⟩:=h;obtain⟨u,v,rfl,ru,rv⟩:=Vals.two r;cases(show v=Value.type T from rv)
 exact aas I ru (O2 hx) (J4 (O3 hx) hT) λtk=>⟨.bl _,H,I.tok tk,rfl,q⟩
end
def kQ(ea C:Ω):χ->Prop:=λh=>∃o,h.get? ea=ζ o/\o.cls=.ref C
def acS(a:Ω):χ->Prop:=PySem.W.KitAt a "dict"
structure Def (K:Δ) (mg:Str->Option Ξ) (x:Str) (st:aaM) (ps:List Str) (f:Ω) (fd:ο):Prop where
 fn:j5 K x x st f fd
 at':mg x=ζ (.ref f)
 bd:Binds K fd ps []
section
variable {X:Cx}
theorem UW{x:Str}{st:aaM}{ps:List Str}{f:Ω}{fd:ο}{k:Nat}{sp:Sp}{e:π}{es:List π}{t:TA}{p pos:Pos}(D:Def X.K X.mg x st ps f fd) (G:bK X.prog X.w X.K X.mg X.base bS k f fd ps sp) (hr:dG k X.A) (ha:PA X (e::es) t) (hg:Gl X x:=by rfl)
  (hdb:(x==("__debug__":Str))=Ψ:=by decide) (he:μ (e::es) X.env=(Ψ,eval e X.env)::μ es X.env:=by rfl) (hpl:(aaQ pos (μ es X.env)).any (·.1)=Ψ:=by rfl) :
  PE X (.Call (.Name x p) (e::es) [] pos) (G5 sp [] E0 t):=Ih G hr hg D.at' D.fn.kp D.bd .nil Vk ha hdb he hpl
theorem UJ{x:Str}{n:String}{pos:Pos}(hg:Gl X x) (hm:X.mg x=θ) (hv:bootBuiltins x=ζ (.type n)) (hn:x≠"__name__":=by decide) (hd:(x==("__debug__":Str))=Ψ:=by decide):PE X (.Name x pos) (tC (.ty n)):=U0 hg hm hv rfl hn hd
end
def isStar:π->Bool
 |.Starred _ _=>Θ
 |_=>Ψ
theorem bT{a:π}{es:List π}{env:Env}(h:isStar a=Ψ):μ (a::es) env=(Ψ,eval a env)::μ es env:=by
 cases a<;>first|(cases h;done)|(simp only[μ];done)
def noStar(es:List π):Bool:=es.all λa=>!isStar a
theorem eB{es:List π}{env:Env}{pos:Pos}(h:noStar es=Θ):(aaQ pos (μ es env)).any (·.1)=Ψ:=by
 induction es with
 |nil=>simp only[μ];rfl
 |cons a es ih =>
  have h:(!isStar a&&noStar es)=Θ:=h;rw[aiy]at h;rw[bT (by simpa using h.1)]
  have:=ih h.2
  simpa[aaQ]using this
theorem tH{a:π}{env:Env}(h:isStar a=Ψ):μ [a] env=[(Ψ,eval a env)]:=by
 rw[bT h];simp only[μ]
theorem Qq{a b:π}{env:Env}(h:isStar a=Ψ) (g:isStar b=Ψ):μ [a,b] env=[(Ψ,eval a env),(Ψ,eval b env)]:=by
 rw[bT h,tH g]
theorem tG{a:π}{env:Env}{pos:Pos}(h:isStar a=Ψ):((aaQ pos (μ [a] env)).all (λx=>!x.1)&&(aa9 pos (aaU [] env)).all (λx=>x.1.isSome)
   && decide ([a].length+([]:List aaW).length+(if([]:List aaW).isEmpty then 0 else 1)<30))=Θ:=by
 rw[tH h];simp[aaQ,aa9,aaU]
inductive D where
 |aM|bl (b:Bool)|int (i:Int)|str (x:Str)|ty (n:String)|tup (l:List D)|lst (l:List D)|ref (k:Nat)|cE (l:List Int)|fn (x:Str) (n:Nat)|exc (x:Str)|jx|dct (ks:List (Int×Int))|lam (k:Nat) (e:π) (ns:List Str) (l:List D)
inductive Cell where
 |lst (l:List D)
mutual
def noRef:D->Bool
 |.tup l=>bA l
 |.lst l=>bA l
 |.ref _=>Ψ
 |.aM=>Θ
 |.bl _=>Θ
 |.int _=>Θ
 |.str _=>Θ
 |.ty _=>Θ
 |.cE _=>Θ
 |.fn _ _=>Θ
 |.exc _=>Θ
 |.jx=>Θ
 |.dct _=>Θ
 |.lam _ _ _ _=>Ψ
def bA:List D->Bool
 |[]=>Θ
 |d::l=>noRef d&&bA l
end
theorem uw:∀{l m:List D},bA (l++m)=(bA l&&bA m)
 |[],m=>by simp[bA]
 |d::l,m=>by simp[bA,uw (l:=l),Bool.and_assoc]
theorem Jg:∀{l:List D}{i:Nat}{d:D},bA l=Θ->noRef d=Θ->bA (l.set i d)=Θ
 |[],i,d,h,g=>h
 |b::l,0,d,h,g=>by simp_all[bA]
 |b::l,i+1,d,h,g=>by
  simp only[bA,aiy]at h;simp only[ajq,bA,aiy];exact⟨h.1,Jg h.2 g⟩
theorem iQ:∀{l:List D},bA l=Θ↔∀d∈l,noRef d=Θ
 |[]=>by simp[bA]
 |d::l=>by simp[bA,iQ (l:=l)]
theorem xJ{l:List Int}:bA (l.map D.int)=Θ:=iQ.mpr λd h=>by
 obtain⟨i,_,rfl⟩:=aik.mp h;rfl
inductive R (α:Type) where
 |ok (a:α) (c:List Cell)
 |bad
def R.bind{α β:Type}(r:R α) (f:α->List Cell->R β):R β:=match r with
 |.ok a c=>f a c
 |.bad=>.bad
@[simp] theorem R.aC{α β:Type}{a:α}{c:List Cell}{f:α->List Cell->R β}:(R.ok a c).bind f=f a c:=rfl
@[simp] theorem R.aib{α β:Type}{f:α->List Cell->R β}:(R.bad:R α).bind f=.bad:=rfl
def J1:List Str:=["greatest_among","web_of","other_web","turned_at","pairs_web","field_web","net_web"]
def Zw(x:Str):Str:=x++".<locals>."++"<lambda>"
def Mb(c:Ω) (q:Str):χ->Prop:=λh=>h.CodeRec (.ref c) q
def Zx(a:Ω) (o:Obj):χ->Prop:=λh=>h.get? a=ζ o
def agA(e:π) (o:Obj) (q:Str) (c:Ω) (cl:List (Str×Ω)):Prop:=match e with
 |.Lambda params body scope _=>∃pm ctv,o=PySem.W.kla_obj "<lambda>" q params body scope cl pm c ctv
 |_=>False
def aau:HO->Bool
 |.ez _=>Θ
 |_=>Ψ
def sN(H:Hp) (cl:List (Str×Ω)):List Str->List V->Prop
 |[],xs=>xs=[]
 |x::ns,xs=>∃v r c oc u,xs=v::r/\cl.lookup x=ζ c/\H c=ζ (.eT oc (.own 0))/\oc.data=.cell (ζ u)/\RelV v u/\sN H cl ns r
def agE(cl:List (Str×Ω)) (ns:List Str):Prop:=(∀x y c,cl.lookup x=ζ c->cl.lookup y=ζ c->x=y)/\∀x c,cl.lookup x=ζ c->x∈ns
def TabAt(H:Hp) (P:Ω) (q:Str):Prop:=∃ps,H P=ζ (.ez ps)/\TriplesOk ps.toList/\∀pos cv,codeAmong pos ps.toList=ζ cv->∃c,cv=.ref c/\H c=ζ (.ext (Mb c q))
def vC(K:Δ) (H:Hp):Prop:=∀x∈J1,∀c P,PySem.W.tabIn K x=ζ (c,P)->TabAt H P (Zw x)
theorem sN.mono{H H':Hp}{cl:List (Str×Ω)}:∀{ns:List Str}{xs:List V},(∀c o,H c=ζ (.eT o (.own 0))->H' c=ζ (.eT o (.own 0)))->sN H cl ns xs->sN H' cl ns xs
 |[],_,_,h=>h
 |x::ns,xs,k,h=>by
  obtain⟨v,r,c,oc,u,e,h0,h1,h2,h3,h4⟩:=h;exact⟨v,r,c,oc,u,e,h0,k _ _ h1,h2,h3,sN.mono k h4⟩
theorem TabAt.mono{H H':Hp}{P:Ω}{q:Str}(h:TabAt H P q) (k1:∀ps,H P=ζ (.ez ps)->H' P=ζ (.ez ps)) (k2:∀c φ,H c=ζ (.ext φ)->H' c=ζ (.ext φ)):TabAt H' P q:=by
 obtain⟨ps,h1,h2,h3⟩:=h;exact⟨ps,k1 ps h1,h2,λpos cv e=>let⟨c,e1,e2⟩:=h3 pos cv e;⟨c,e1,k2 _ _ e2⟩⟩
theorem vC.mono{K:Δ}{H H':Hp}(h:vC K H) (k1:∀P ps,H P=ζ (.ez ps)->H' P=ζ (.ez ps)) (k2:∀c φ,H c=ζ (.ext φ)->H' c=ζ (.ext φ)):vC K H':=λx hx c P e=>(h x hx c P e).mono (k1 P) k2
def vD(K:Δ) (ρ:List Ω) (H:Hp) (a:Ω) (xs:List V):Prop:=(Rd H a (.lst xs)/\a∉ρ)\/bJ K (λ_=>θ) a xs
mutual
def Rel(K:Δ) (ρ:List Ω) (H:Hp):D->V->Prop
 |.aM,v=>v=.aM
 |.bl b,v=>v=.bl b
 |.int i,v=>v=.int i
 |.str x,v=>v=.str x
 |.ty n,v=>v=.ty n
 |.tup l,v=>∃a xs,v=.ref a/\H a=ζ (.tup xs)/\aN K ρ H l xs
 |.lst l,v=>∃a xs,v=.ref a/\(H a=ζ (.lst xs)/\a∉ρ)/\aN K ρ H l xs
 |.ref k,v=>∃a,v=.ref a/\ρ[k]? = ζ a
 |.cE l,v=>∃a,v=.ref a/\vD K ρ H a (l.map V.int)
 |.fn x n,v=>∃a,v=.ref a/\ξ K Γ x=ζ (ζ (.ref a))
 |.jx,v=>∃a,v=.ref a/\H a=ζ (.ext (acS a))
 |.dct ks,v=>∃a kvs,v=.ref a/\H a=ζ (.dT kvs)/\∀p:Int×Int,((kvs.any λkv=>decide (kv.1=[Sum.inl p.1,Sum.inl p.2]))=decide (p∈ks))
 |.exc x,v=>∃a C,v=.ref a/\ξ K Γ x=ζ (ζ (.ref C))/\H a=ζ (.ext (kQ a C))
 |.lam _ e ns l,v=>∃a o q c cl xs,v=.ref a/\H a=ζ (.ext (Zx a o))/\agA e o q c cl/\H c=ζ (.ext (Mb c q))/\agE cl ns/\sN H cl ns xs/\aN K ρ H l xs
def aN(K:Δ) (ρ:List Ω) (H:Hp):List D->List V->Prop
 |[],xs=>xs=[]
 |d::l,xs=>∃x r,xs=x::r/\Rel K ρ H d x/\aN K ρ H l r
end
theorem vD.sql{K:Δ}{ρ:List Ω}{H:Hp}{a:Ω}{xs:List V}(h:vD K ρ H a xs):bJ K H a xs:=by
 rcases h with⟨h,_⟩|(h|h)
 ·exact .inl h
 ·rcases h with h|⟨o,h⟩<;>cases h
 ·exact .inr h
def agF(K:Δ) (ρ:List Ω) (H:Hp) (a:Ω):Cell->Prop
 |.lst l=>bA l=Θ/\∃xs,H a=ζ (.lst xs)/\aN K ρ H l xs
structure Wd (K:Δ) (ρ:List Ω) (H:Hp) (c:List Cell):Prop where
 nd:ρ.Nodup
 len:ρ.length=c.length
 fR:∀(k:Nat) (a:Ω) (cl:Cell),ρ[k]? = ζ a->c[k]? = ζ cl->agF K ρ H a cl
 tab:vC K H
structure Ext (ρ:List Ω) (H:Hp) (ρ':List Ω) (H':Hp):Prop where
 pre:∀(k:Nat) (a:Ω),ρ[k]? = ζ a->ρ'[k]? = ζ a
 keep:∀a o,H a=ζ o->a∉ρ->aau o=Ψ->H' a=ζ o/\a∉ρ'
theorem Ext.refl{ρ:List Ω}{H:Hp}:Ext ρ H ρ H:=⟨λ_ _ h=>h,λ_ _ h n _=>⟨h,n⟩⟩
theorem Ext.trans{ρ aJ cy:List Ω}{H H1 H2:Hp}(x:Ext ρ H aJ H1) (y:Ext aJ H1 cy H2):Ext ρ H cy H2 :=
 ⟨λk a h=>y.pre k a (x.pre k a h),λa o h n t=>let⟨h1,n1⟩:=x.keep a o h n t;y.keep a o h1 n1 t⟩
section
variable {K:Δ}{ρ ρ':List Ω}{H H':Hp}{c c':List Cell}
theorem Wd.at'(W:Wd K ρ H c) {a:Ω}(h:a∈ρ):∃xs,H a=ζ (.lst xs):=by
 obtain⟨k,hk,e⟩:=akD.mp h;have hc:k<c.length:=by rw[<-W.len];exact hk
 have q:=W.fR k a c[k] (by rw[ait hk,e]) (ait hc)
 cases hcl:c[k]with
 |lst l=>rw[hcl]at q;obtain⟨_,xs,h,_⟩:=q;exact⟨xs,h⟩
theorem Wd.XW(W:Wd K ρ H c) {a:Ω}{xs:List V}(h:H a=ζ (.tup xs)):a∉ρ:=λm=>by
 obtain⟨ys,e⟩:=W.at' m;rw[e]at h;cases h
theorem Wd.nil(W:Wd K ρ H c) {a:Ω}(h:H a=θ):a∉ρ:=λm=>by
 obtain⟨ys,e⟩:=W.at' m;rw[e]at h;cases h
theorem GQ(W:Wd K ρ H c) (x:Ext ρ H ρ' H') {a:Ω}{xs:List V}(h:H a=ζ (.tup xs)):H' a=ζ (.tup xs):=(x.keep a _ h (W.XW h) rfl).1
theorem Bu(x:Ext ρ H ρ' H') {a:Ω}{xs:List V}(h:H a=ζ (.lst xs)/\a∉ρ):H' a=ζ (.lst xs)/\a∉ρ':=x.keep a _ h.1 h.2 rfl
theorem Hl(x:Ext ρ H ρ' H') {a:Ω}{xs:List V}(h:vD K ρ H a xs):vD K ρ' H' a xs:=by
 rcases h with⟨h,n⟩|h
 ·rcases h with h|⟨o,h⟩
  ·exact .inl ⟨.inl (x.keep a _ h n rfl).1,(x.keep a _ h n rfl).2⟩
  ·exact .inl ⟨.inr ⟨o,(x.keep a _ h n rfl).1⟩,(x.keep a _ h n rfl).2⟩
 ·exact .inr h
mutual
theorem Rel.mono(W:Wd K ρ H c) (x:Ext ρ H ρ' H'):∀(d:D) (v:V),Rel K ρ H d v->Rel K ρ' H' d v
 |.aM,v,h=>h
 |.bl b,v,h=>h
 |.int i,v,h=>h
 |.str y,v,h=>h
 |.ty n,v,h=>h
 |.tup l,v,h=>by
  obtain⟨a,xs,e,s,r⟩:=h;exact⟨a,xs,e,GQ W x s,aN.mono W x l xs r⟩
 |.lst l,v,h=>by
  obtain⟨a,xs,e,s,r⟩:=h;exact⟨a,xs,e,Bu x s,aN.mono W x l xs r⟩
 |.ref k,v,h=>by
  obtain⟨a,e,s⟩:=h;exact⟨a,e,x.pre k a s⟩
 |.cE l,v,h=>by
  obtain⟨a,e,s⟩:=h;exact⟨a,e,Hl x s⟩
 |.fn a n,v,h=>h
 |.jx,v,h=>by
  obtain⟨a,e,q⟩:=h;exact⟨a,e,(x.keep a _ q (λm=>by obtain⟨ys,z⟩:=W.at' m;rw[z]at q;cases q) rfl).1⟩
 |.dct ks,v,h=>by
  obtain⟨a,kvs,e,q,z⟩:=h;exact⟨a,kvs,e,(x.keep a _ q (λm=>by obtain⟨ys,z⟩:=W.at' m;rw[z]at q;cases q) rfl).1,z⟩
 |.exc y,v,h=>by
  obtain⟨a,C,e,n,q⟩:=h;exact⟨a,C,e,n,(x.keep a _ q (λm=>by obtain⟨ys,z⟩:=W.at' m;rw[z]at q;cases q) rfl).1⟩
 |.lam _ y ns l,v,h=>by
  obtain⟨a,o,q,c,cl,xs,e,h1,h2,h3,h4,h5,h6⟩:=h;have nr:∀(b:Ω) (u:HO),H b=ζ u->(∀ys,u≠.lst ys)->b∉ρ:=λb u q n m=>by obtain⟨ys,z⟩:=W.at' m;rw[z]at q;exact n ys (aiH q).symm
  exact⟨a,o,q,c,cl,xs,e,(x.keep a _ h1 (nr a _ h1 λ_ z=>nomatch z) rfl).1,h2,(x.keep c _ h3 (nr c _ h3 λ_ z=>nomatch z) rfl).1,h4,h5.mono (λb o z=>(x.keep b _ z (nr b _ z λ_ z=>nomatch z) rfl).1),aN.mono W x l xs h6⟩
theorem aN.mono(W:Wd K ρ H c) (x:Ext ρ H ρ' H'):∀(l:List D) (xs:List V),aN K ρ H l xs->aN K ρ' H' l xs
 |[],xs,h=>h
 |d::l,xs,h=>by
  obtain⟨y,r,e,h1,h2⟩:=h;exact⟨y,r,e,Rel.mono W x d y h1,aN.mono W x l r h2⟩
end
theorem aN.length:∀{l:List D}{xs:List V},aN K ρ H l xs->xs.length=l.length
 |[],xs,h=>by cases(show xs=[]from h);rfl
 |d::l,xs,h=>by
  obtain⟨y,r,rfl,h1,h2⟩:=h;simp only[aiv,aN.length h2]
theorem aN.get:∀{l:List D}{xs:List V}{i:Nat}{d:D},aN K ρ H l xs->l[i]? = ζ d->∃x,xs[i]? = ζ x/\Rel K ρ H d x
 |[],_,_,_,_,e=>by cases e
 |_::l,_,0,_,h,e=>by
  obtain⟨y,r,rfl,h1,h2⟩:=h;cases e;exact⟨y,rfl,h1⟩
 |_::l,_,i+1,_,h,e=>by
  obtain⟨y,r,rfl,h1,h2⟩:=h;exact aN.get (i:=i) h2 e
theorem aN.append:∀{l m:List D}{xs ys:List V},aN K ρ H l xs->aN K ρ H m ys->aN K ρ H (l++m) (xs++ys)
 |[],m,xs,ys,h,g=>by cases(show xs=[]from h);exact g
 |d::l,m,xs,ys,h,g=>by
  obtain⟨y,r,rfl,h1,h2⟩:=h;exact⟨y,r++ys,rfl,h1,aN.append h2 g⟩
theorem aN.set:∀{l:List D}{xs:List V}{d:D}{x:V}(i:Nat),aN K ρ H l xs->Rel K ρ H d x->aN K ρ H (l.set i d) (xs.set i x)
 |[],xs,d,x,i,h,g=>by cases(show xs=[]from h);exact rfl
 |b::l,xs,d,x,0,h,g=>by
  obtain⟨y,r,rfl,h1,h2⟩:=h;exact⟨x,r,rfl,g,h2⟩
 |b::l,xs,d,x,i+1,h,g=>by
  obtain⟨y,r,rfl,h1,h2⟩:=h;exact⟨y,r.set i x,rfl,h1,aN.set i h2 g⟩
theorem aN.take:∀{l:List D}{xs:List V}(n:Nat),aN K ρ H l xs->aN K ρ H (l.take n) (xs.take n)
 |l,xs,0,h=>by simp only[akE];exact rfl
 |[],xs,n+1,h=>by cases(show xs=[]from h);exact rfl
 |d::l,xs,n+1,h=>by
  obtain⟨y,r,rfl,h1,h2⟩:=h;exact⟨y,r.take n,rfl,h1,aN.take n h2⟩
theorem aN.drop:∀{l:List D}{xs:List V}(n:Nat),aN K ρ H l xs->aN K ρ H (l.drop n) (xs.drop n)
 |l,xs,0,h=>h
 |[],xs,n+1,h=>by cases(show xs=[]from h);exact rfl
 |d::l,xs,n+1,h=>by
  obtain⟨y,r,rfl,h1,h2⟩:=h;exact aN.drop n h2
theorem aN.ints{l:List Int}:aN K ρ H (l.map D.int) (l.map V.int):=by
 induction l with
 |nil=>exact rfl
 |cons a l ih=>exact⟨_,_,rfl,rfl,ih⟩
theorem aN.Ko:∀{l:List Int}{xs:List V},aN K ρ H (l.map D.int) xs->xs=l.map V.int
 |[],xs,h=>h
 |a::l,xs,h=>by
  obtain⟨y,r,rfl,h1,h2⟩:=h;cases(show y=V.int a from h1)
  rw[aN.Ko h2];rfl
theorem aN.MX:∀{l:List Bool}{xs:List V},aN K ρ H (l.map D.bl) xs->xs=l.map V.bl
 |[],xs,h=>h
 |a::l,xs,h=>by
  obtain⟨y,r,rfl,h1,h2⟩:=h;cases(show y=V.bl a from h1)
  rw[aN.MX h2];rfl
theorem Ext.fresh{p:Ω}{o:HO}(W:Wd K ρ H c) (h:H p=θ):Ext ρ H ρ (upd H p o) :=
 ⟨λ_ _ e=>e,λa u e n _=>⟨by rw[bM (dz e h)];exact e,n⟩⟩
theorem Wd.fresh{p:Ω}{o:HO}(W:Wd K ρ H c) (h:H p=θ):Wd K ρ (upd H p o) c :=
 ⟨W.nd,W.len,λk a cl e1 e2=>by
  have q:=W.fR k a cl e1 e2;cases cl with
  |lst l =>
   obtain⟨nr,xs,e,r⟩:=q;exact⟨nr,xs,by rw[bM (dz e h)];exact e,aN.mono W (Ext.fresh W h) l xs r⟩,
  W.tab.mono (λP ps e=>by rw[bM (dz e h)];exact e) (λb φ e=>by rw[bM (dz e h)];exact e)⟩
theorem Ext.cell{p:Ω}{o:HO}(W:Wd K ρ H c) (h:H p=θ):Ext ρ H (ρ++[p]) (upd H p o) :=
 ⟨λk a e=>by rw[ai2 (aix.mp e).1];exact e,λa u e n _=>⟨by rw[bM (dz e h)];exact e,by
  rw[aiK]
  rintro (z|z)
  ·exact n z
  ·exact dz e h (by simpa using z)⟩⟩
theorem Wd.cell{p:Ω}{l:List D}{xs:List V}(W:Wd K ρ H c) (h:H p=θ) (nr:bA l=Θ) (r:aN K ρ H l xs):Wd K (ρ++[p]) (upd H p (.lst xs)) (c++[.lst l]):=by
 have X:=Ext.cell (o:=.lst xs) W h;refine⟨?_,by simp[W.len],λk a cl e1 e2=>?_,W.tab.mono (λP ps e=>by rw[bM (dz e h)];exact e) (λb φ e=>by rw[bM (dz e h)];exact e)⟩
 ·rw[ajJ];refine⟨W.nd,by simp,?_⟩
  intro a ha b hb;rw[aiV]at hb;subst hb;exact λz=>W.nil h (z▸ha)
 ·by_cases hk:k<c.length
  ·rw[ai2 hk]at e2;rw[ai2 (by rw[W.len];exact hk)]at e1
   have q:=W.fR k a cl e1 e2;cases cl with
   |lst l' =>
    obtain⟨qP,ys,e,r'⟩:=q;exact⟨qP,ys,by rw[bM (dz e h)];exact e,aN.mono W X l' ys r'⟩
  ·have hk':k=c.length:=by
    have:=(aix.mp e2).1;simp at this;omega
   subst hk';rw[ajd (aij _),ajA]at e2;rw[ajd (by rw[W.len];exact aij _),W.len,ajA]at e1
   cases e1;cases e2;exact⟨nr,xs,gi,aN.mono W X l xs r⟩
theorem Ext.write{k:Nat}{p:Ω}{o:HO}(h:ρ[k]? = ζ p):Ext ρ H ρ (upd H p o) :=
 ⟨λ_ _ e=>e,λa u e n _=>⟨by rw[bM (λz=>n (by rw[z];exact aiP h))];exact e,n⟩⟩
theorem Wd.write{k:Nat}{p:Ω}{l:List D}{xs:List V}(W:Wd K ρ H c) (h:ρ[k]? = ζ p) (nr:bA l=Θ) (r:aN K ρ H l xs):Wd K ρ (upd H p (.lst xs)) (c.set k (.lst l)):=by
 have X:=Ext.write (H:=H) (o:=.lst xs) h;obtain⟨ys,hy⟩:=W.at' (aiP h);refine⟨W.nd,by simp[W.len],λj a cl e1 e2=>?_,W.tab.mono (λP ps e=>by rw[bM (Jo e hy λz=>nomatch z)];exact e) (λb φ e=>by rw[bM (Jo e hy λz=>nomatch z)];exact e)⟩
 by_cases hj:j=k
 ·subst hj;rw[h]at e1;cases e1;have hl:j<c.length:=by rw[<-W.len];exact(aix.mp h).1
  rw[ai5 hl]at e2;cases e2;exact⟨nr,xs,gi,aN.mono W X l xs r⟩
 ·rw[aiX (aja hj)]at e2;have q:=W.fR j a cl e1 e2;have hap:a≠p:=by
   intro e;subst e;have h1:=(aix.mp h);have h2:=(aix.mp e1);exact hj ((akr W.nd (h₀:=h2.1) (h₁:=h1.1)).mp (h2.2.trans h1.2.symm))
  cases cl with
  |lst l' =>
   obtain⟨qP,ys,e,r'⟩:=q;exact⟨qP,ys,by rw[bM hap];exact e,aN.mono W X l' ys r'⟩
mutual
theorem Rel.low(h:∀a,a∈ρ'->a∈ρ):∀(d:D) (v:V),noRef d=Θ->Rel K ρ H d v->Rel K ρ' H d v
 |.aM,v,_,r=>r
 |.bl b,v,_,r=>r
 |.int i,v,_,r=>r
 |.str y,v,_,r=>r
 |.ty n,v,_,r=>r
 |.tup l,v,n,r=>by
  obtain⟨a,xs,e,s,r⟩:=r;exact⟨a,xs,e,s,aN.low h l xs n r⟩
 |.lst l,v,n,r=>by
  obtain⟨a,xs,e,s,r⟩:=r;exact⟨a,xs,e,⟨s.1,λq=>s.2 (h a q)⟩,aN.low h l xs n r⟩
 |.ref k,v,n,r=>by cases n
 |.cE l,v,n,r=>by
  obtain⟨a,e,s⟩:=r;refine⟨a,e,?_⟩
  rcases s with⟨s,z⟩|s
  ·exact .inl ⟨s,λq=>z (h a q)⟩
  ·exact .inr s
 |.fn a m,v,n,r=>r
 |.exc y,v,n,r=>r
 |.jx,v,n,r=>r
 |.dct _,v,n,r=>r
 |.lam _ _ _ _,v,n,r=>by cases n
theorem aN.low(h:∀a,a∈ρ'->a∈ρ):∀(l:List D) (xs:List V),bA l=Θ->aN K ρ H l xs->aN K ρ' H l xs
 |[],xs,_,r=>r
 |d::l,xs,n,r=>by
  obtain⟨y,ys,e,h1,h2⟩:=r;have n:(noRef d&&bA l)=Θ:=n;rw[aiy]at n;exact⟨y,ys,e,Rel.low h d y n.1 h1,aN.low h l ys n.2 h2⟩
end
theorem Wd.cut{n:Nat}(W:Wd K ρ H c) (hn:n<=c.length):Wd K (ρ.take n) H (c.take n):=by
 have sub:∀a,a∈ρ.take n->a∈ρ:=λa h=>aiQ h
 refine⟨W.nd.sublist (ak7 _ _),by simp[W.len],λk a cl e1 e2=>?_,W.tab⟩
 rw[akd]at e1 e2;split at e1
 ·rename_i hk;rw[if_pos hk]at e2;have q:=W.fR k a cl e1 e2;cases cl with
  |lst l =>
   obtain⟨nr,xs,e,r⟩:=q;exact⟨nr,xs,e,aN.low sub l xs nr r⟩
 ·cases e1
theorem Ext.cut{n:Nat}(x:Ext ρ H ρ' H') (hn:ρ.length<=n):Ext ρ H (ρ'.take n) H' :=
 ⟨λk a e=>by rw[akd,if_pos (aiz (aix.mp e).1 hn)];exact x.pre k a e,λa o e z t=>let⟨h1,h2⟩:=x.keep a o e z t;⟨h1,λq=>h2 (aiQ q)⟩⟩
theorem Ext.len(W:Wd K ρ H c) (W':Wd K ρ' H' c') (x:Ext ρ H ρ' H'):c.length<=c'.length:=by
 rw[<-W.len,<-W'.len]
 by_cases h:ρ.length<=ρ'.length
 ·exact h
 ·exfalso;have h':ρ'.length<ρ.length:=Nat.lt_of_not_le h;have e:=x.pre ρ'.length ρ[ρ'.length] (ait h');rw[ake (aij _)]at e;cases e
end
abbrev Ev:=List (Option D)
def post{α β:Type}(K:Δ) (Rl:List Ω->Hp->α->β->Prop) (r:R α) (ρ:List Ω) (H:Hp) (Q:β->Hp->Prop):Prop:=match r with
 |.ok a c=>∀ρ' H' b,Wd K ρ' H' c->Ext ρ H ρ' H'->Rl ρ' H' a b->Q b H'
 |.bad=>False
structure cU (K:Δ) (ρ:List Ω) (H:Hp) (e:Ev) (σ:St):Prop where
 get:∀(i:Nat) (d:D),e[i]? = ζ (ζ d)->∃v,σ[i]? = ζ (ζ v)/\Rel K ρ H d v
 len:e.length=σ.length
def tD{α β:Type}(K:Δ) (Rl:List Ω->Hp->α->β->Prop) (d:Ev->List Cell->R α):St->Hp->(β->Hp->Prop)->Prop :=
 λσ H Q=>∃ρ e c,Wd K ρ H c/\cU K ρ H e σ/\post K Rl (d e c) ρ H Q
section
variable {α β γ δ:Type}{K:Δ}{ρ ρ':List Ω}{H H':Hp}{c:List Cell}{e:Ev}{σ:St}{Rl:List Ω->Hp->α->β->Prop}{Rm:List Ω->Hp->γ->δ->Prop}
theorem cU.mono(V:cU K ρ H e σ) (W:Wd K ρ H c) (x:Ext ρ H ρ' H'):cU K ρ' H' e σ :=
 ⟨λi d h=>let⟨v,h1,h2⟩:=V.get i d h;⟨v,h1,Rel.mono W x d v h2⟩,V.len⟩
theorem cU.set(V:cU K ρ H e σ) {d:D}{v:L2.V}(r:Rel K ρ H d v) (i:Nat):cU K ρ H (e.set i (ζ d)) (σ.set i (ζ v)):=by
 refine⟨λj b h=>?_,by simp[V.len]⟩
 by_cases hj:j=i
 ·subst hj;have hl:j<e.length:=by
   have:=(aix.mp h).1
   simpa using this
  rw[ai5 hl]at h;cases h;exact⟨v,by rw[ai5 (by rw[<-V.len];exact hl)],r⟩
 ·rw[aiX (aja hj)]at h ⊢;exact V.get j b h
theorem post.ext{r:R α}{Q:β->Hp->Prop}(p:post K Rl r ρ H Q) (x:Ext ρ H ρ' H'):post K Rl r ρ' H' Q:=by
 cases r with
 |ok a c=>exact λcy H2 b W y r=>p cy H2 b W (x.trans y) r
 |bad=>exact p
theorem post.mono{r:R α}{Q Q':β->Hp->Prop}(p:post K Rl r ρ H Q) (h:∀b H,Q b H->Q' b H):post K Rl r ρ H Q':=by
 cases r with
 |ok a c=>exact λcy H2 b W y r=>h _ _ (p cy H2 b W y r)
 |bad=>exact p
theorem post.bind{r:R α}{f:α->List Cell->R γ}{Q:δ->Hp->Prop}{S:β->Hp->Prop}(p:post K Rm (r.bind f) ρ H Q)
  (h:∀a c1 ρ' H' b,r=.ok a c1->Wd K ρ' H' c1->Ext ρ H ρ' H'->Rl ρ' H' a b->post K Rm (f a c1) ρ' H' Q->S b H'):post K Rl r ρ H S:=by
 cases r with
 |ok a c1=>exact λρ' H' b W x r=>h a c1 ρ' H' b rfl W x r (post.ext (r:=f a c1) p x)
 |bad=>exact p
theorem post.here{a:α}{b:β}{Q:β->Hp->Prop}(p:post K Rl (.ok a c) ρ H Q) (W:Wd K ρ H c) (r:Rl ρ H a b):Q b H:=p ρ H b W Ext.refl r
end
abbrev aV(X:Cx) (e:π) (d:Ev->List Cell->R D):Prop:=PE X e (tD X.K (Rel X.K) d)
abbrev gZ(X:Cx) (e:π) (d:Ev->List Cell->R Bool):Prop:=PT X e (tD X.K (λ_ _ a b=>a=b) d)
abbrev sJ(X:Cx) (e:π) (d:Ev->List Cell->R Bool):Prop:=PW X e (tD X.K (λ_ _ a b=>a=b) d)
abbrev eH(X:Cx) (es:List π) (d:Ev->List Cell->R (List D)):Prop:=PA X es (tD X.K (aN X.K) d)
section
variable {X:Cx}{e:π}{es:List π}{st:aaM}{sts:List aaM}
theorem PE.imp{t t':TE}(h:PE X e t) (i:∀σ H Q,t' σ H Q->t σ H Q):PE X e t':=λpins s σ H Q I q=>h pins s σ H Q I (i _ _ _ q)
theorem PT.imp{t t':TT}(h:PT X e t) (i:∀σ H Q,t' σ H Q->t σ H Q):PT X e t':=λpins s σ H Q I q=>h pins s σ H Q I (i _ _ _ q)
theorem PW.imp{t t':TT}(h:PW X e t) (i:∀σ H Q,t' σ H Q->t σ H Q):PW X e t':=λwh pins s σ H Q I q=>h wh pins s σ H Q I (i _ _ _ q)
theorem PA.imp{t t':TA}(h:PA X es t) (i:∀σ H Q,t' σ H Q->t σ H Q):PA X es t':=λpos pins s σ H Q I q=>h pos pins s σ H Q I (i _ _ _ q)
theorem PS.imp{t t':TS}(h:PS X st t) (i:∀D σ H,t' D σ H->t D σ H):PS X st t':=λpins s σ H D I q=>h pins s σ H D I (i _ _ _ q)
theorem eu.imp{t t':TS}(h:eu X sts t) (i:∀D σ H,t' D σ H->t D σ H):eu X sts t':=λpins s σ H D I q=>h pins s σ H D I (i _ _ _ q)
end
def ak(i:Nat):Ev->List Cell->R D:=λe c=>match e[i]? with
 |some (ζ d)=>.ok d c
 |_=>.bad
def dC(d:D):Ev->List Cell->R D:=λ_ c=>.ok d c
section
variable {X:Cx}
theorem av(i:Nat) {x:Str}{pos:Pos}(hN:X.N[i]? = ζ x:=by rfl) (hv:F3 X.env.scope x:=by first|exact Or.inl rfl|exact Or.inr (Or.inl rfl)|exact Or.inr (Or.inr rfl)) (hd:(x==("__debug__":Str))=Ψ:=by decide)
  (hcd:(x==("__classdict__":Str))=Ψ:=by decide):aV X (.Name x pos) (ak i):=(UI hN hv hd hcd).imp λσ H Q h=>by
 obtain⟨ρ,e,c,W,V,p⟩:=h;unfold ak at p;cases q:e[i]? with
 |none=>rw[q]at p;exact p.elim
 |some o =>
  rw[q]at p;cases o with
  |none=>exact p.elim
  |some d =>
   obtain⟨v,hv,r⟩:=V.get i d q;exact⟨v,hv,p.here W r⟩
theorem nT{e:π}{v:V}{d:D}(h:PE X e (tC v)) (r:∀ρ H,Rel X.K ρ H d v):aV X e (dC d):=h.imp λσ H Q h=>by
 obtain⟨ρ,e,c,W,V,p⟩:=h;exact post.here (r:=r ρ H) p W
theorem aL{i j pos}:aV X (.Constant (.int i) j pos) (dC (.int i)):=nT UT λ_ _=>rfl
theorem iz{b j pos}:aV X (.Constant (.bool b) j pos) (dC (.bl b)):=nT U1 λ_ _=>rfl
theorem qJ{j pos}:aV X (.Constant .none j pos) (dC .aM):=nT UR λ_ _=>rfl
theorem fm{x j pos}:aV X (.Constant (.str x) j pos) (dC (.str x)):=nT UL λ_ _=>rfl
theorem qH{x:Str}{n:String}{pos:Pos}(hg:Gl X x) (hm:X.mg x=θ) (hv:bootBuiltins x=ζ (.type n)) (hn:x≠"__name__":=by decide) (hd:(x==("__debug__":Str))=Ψ:=by decide):aV X (.Name x pos) (dC (.ty n)):=nT (UJ hg hm hv hn hd) λ_ _=>rfl
theorem uf{x:Str}{i:Int}{t:Tok}{pos:Pos}(hg:Gl X x) (hm:X.mg x=ζ (.int i t)) (hd:(x==("__debug__":Str))=Ψ:=by decide):aV X (.Name x pos) (dC (.int i)):=nT (Ig (v:=.int i) hg hm ⟨t,rfl⟩ hd) λ_ _=>rfl
end
end L2
namespace L2
open PySem PySem.Spec PyProof.Rows
def au(f:D->D->List Cell->R D) (a b:Ev->List Cell->R D):Ev->List Cell->R D:=λe c=>(a e c).bind λx c=>(b e c).bind λy c=>f x y c
def r2(K:Δ) (f:D->D->List Cell->R D):R2:=λv u H Q=>∃ρ x y c,Wd K ρ H c/\Rel K ρ H x v/\Rel K ρ H y u/\post K (Rel K) (f x y c) ρ H Q
def r1(K:Δ) (f:D->List Cell->R D):V->Hp->VK->Prop:=λv H Q=>∃ρ x c,Wd K ρ H c/\Rel K ρ H x v/\post K (Rel K) (f x c) ρ H Q
def rN(K:Δ) (f:List D->List Cell->R D):List V->Hp->VK->Prop:=λvs H Q=>∃ρ xs c,Wd K ρ H c/\aN K ρ H xs vs/\post K (Rel K) (f xs c) ρ H Q
def aE(f:List D->List Cell->R D) (a:Ev->List Cell->R (List D)):Ev->List Cell->R D:=λe c=>(a e c).bind λxs c=>f xs c
section
variable {X:Cx}{a b:π}{da db dd:Ev->List Cell->R D}{pos:Pos}{K:Δ}{σ:St}{H:Hp}{Q:VK}{f:D->D->List Cell->R D}
theorem vY(h:tD K (Rel K) (au f da db) σ H Q):tD K (Rel K) da σ H λv H1=>tD K (Rel K) db σ H1 λu H2=>r2 K f v u H2 Q:=by
 obtain⟨ρ,e,c,W,V,p⟩:=h;refine⟨ρ,e,c,W,V,post.bind p λx c1 aJ H1 v _ W1 X1 r1 p1=>⟨aJ,e,c1,W1,V.mono W X1,post.bind p1 λy c2 cy H2 u _ W2 X2 r2 p2=>⟨cy,x,y,c2,W2,Rel.mono W1 X2 _ _ r1,r2,p2⟩⟩⟩
theorem G0{g:List D->List Cell->R D}{ds:Ev->List Cell->R (List D)}(h:tD K (Rel K) (aE g ds) σ H Q):tD K (aN K) ds σ H λvs H1=>rN K g vs H1 Q:=by
 obtain⟨ρ,e,c,W,V,p⟩:=h;exact⟨ρ,e,c,W,V,post.bind p λx c1 aJ H1 v _ W1 X1 r1 p1=>⟨aJ,x,c1,W1,r1,p1⟩⟩
theorem aQ{op:Operator}(ho:bB X (binaryOp op) (r2 X.K f)) (ha:aV X a da) (hb:aV X b db):aV X (.BinOp a op b pos) (au f da db):=(UO ho ha hb).imp λσ H Q h=>vY h
theorem A2{op:CmpOp}(ho:bB X (compareOp op) (r2 X.K f)) (ha:aV X a da) (hb:aV X b db) (hm:behindInMarks op b=Ψ:=by first|exact Jc _|rfl):aV X (.Compare a [op] [b] pos) (au f da db):=(UY ho ha hb hm).imp λσ H Q h=>vY h
theorem cH(hr:vH X (r2 X.K f)) (ha:aV X a da) (hb:aV X b db) (hs:Nm b:=by exact λ_ _=>rfl):aV X (.Subscript a b pos) (au f da db):=(US hr ha hb hs).imp λσ H Q h=>vY h
def oO(f g:D->D->List Cell->R D) (a b d:Ev->List Cell->R D):Ev->List Cell->R D:=λe c=>(a e c).bind λx c=>(b e c).bind λy c=>(f x y c).bind λz c=>match z with
 |.bl Θ=>(d e c).bind λu c=>g y u c
 |.bl Ψ=>.ok (.bl Ψ) c
 |_=>.bad
end
def aq:Ev->List Cell->R (List D):=λ_ c=>.ok [] c
def ao(a:Ev->List Cell->R D) (r:Ev->List Cell->R (List D)):Ev->List Cell->R (List D):=λe c=>(a e c).bind λx c=>(r e c).bind λxs c=>.ok (x::xs) c
def bV(a:Ev->List Cell->R (List D)):Ev->List Cell->R D:=λe c=>(a e c).bind λxs c=>if xs.length<=ι then .ok (.tup xs) c else .bad
def aY(a:Ev->List Cell->R (List D)):Ev->List Cell->R D:=λe c=>(a e c).bind λxs c=>if xs.length<=ι then .ok (.lst xs) c else .bad
def eX(a:Ev->List Cell->R (List D)):Ev->List Cell->R D:=λe c=>(a e c).bind λxs c=>if xs.length<=ι/\bA xs=Θ then .ok (.ref c.length) (c++[.lst xs])else .bad
section
variable {X:Cx}{a:π}{es:List π}{da:Ev->List Cell->R D}{ds:Ev->List Cell->R (List D)}{pos:Pos}{K:Δ}{ρ:List Ω}{H:Hp}{c:List Cell}{Q:VK}{xs:List D}{vs:List V}
theorem az:eH X [] aq:=jf.imp λσ H Q h=>by
 obtain⟨ρ,e,c,W,V,p⟩:=h;exact post.here (b:=[]) p W rfl
theorem ay(ha:aV X a da) (hr:eH X es ds) (hs:μ (a::es) X.env=(Ψ,eval a X.env)::μ es X.env:=by exact bT rfl):eH X (a::es) (ao da ds):=(jg ha hr hs).imp λσ H Q h=>by
 obtain⟨ρ,e,c,W,V,p⟩:=h;refine⟨ρ,e,c,W,V,post.bind p λx c1 aJ H1 v _ W1 X1 r1 p1=>⟨aJ,e,c1,W1,V.mono W X1,post.bind p1 λy c2 cy H2 u _ W2 X2 r2 p2=>?_⟩⟩
 exact p2.here W2 ⟨v,u,rfl,Rel.mono W1 X2 _ _ r1,r2⟩
theorem Be(W:Wd K ρ H c) (r:aN K ρ H xs vs) (p:post K (Rel K) (.ok (.tup xs) c) ρ H Q):∀q,H q=θ->Q (.ref q) (upd H q (.tup vs)):=λq hq =>
 p ρ _ _ (W.fresh hq) (Ext.fresh W hq) ⟨q,vs,rfl,gi,aN.mono W (Ext.fresh W hq) _ _ r⟩
theorem nW(W:Wd K ρ H c) (r:aN K ρ H xs vs) (p:post K (Rel K) (.ok (.lst xs) c) ρ H Q):∀q,H q=θ->Q (.ref q) (upd H q (.lst vs)):=λq hq =>
 p ρ _ _ (W.fresh hq) (Ext.fresh W hq) ⟨q,vs,rfl,⟨gi,W.nil hq⟩,aN.mono W (Ext.fresh W hq) _ _ r⟩
theorem Bf(W:Wd K ρ H c) (nr:bA xs=Θ) (r:aN K ρ H xs vs) (p:post K (Rel K) (.ok (.ref c.length) (c++[.lst xs])) ρ H Q):∀q,H q=θ->Q (.ref q) (upd H q (.lst vs)):=λq hq =>
 p (ρ++[q]) _ _ (W.cell hq nr r) (Ext.cell W hq) ⟨q,rfl,by rw[ajd (by rw[W.len];exact aij _),W.len,ajA];rfl⟩
theorem fY{x1}(h:eH X es ds):aV X (.Tuple es x1 pos) (bV ds):=(UK h).imp λσ H Q h=>by
 obtain⟨ρ,e,c,W,V,p⟩:=h;refine⟨ρ,e,c,W,V,post.bind p λx c1 aJ H1 v _ W1 X1 r1 p1=>?_⟩
 split at p1
 ·rename_i hl;exact⟨by rw[r1.length];exact hl,Be W1 r1 p1⟩
 ·exact p1.elim
theorem cG(h:eH X es ds):aV X (.List es pos) (aY ds):=(Ie h).imp λσ H Q h=>by
 obtain⟨ρ,e,c,W,V,p⟩:=h;refine⟨ρ,e,c,W,V,post.bind p λx c1 aJ H1 v _ W1 X1 r1 p1=>?_⟩
 split at p1
 ·rename_i hl;exact⟨by rw[r1.length];exact hl,nW W1 r1 p1⟩
 ·exact p1.elim
theorem kr(h:eH X es ds):aV X (.List es pos) (eX ds):=(Ie h).imp λσ H Q h=>by
 obtain⟨ρ,e,c,W,V,p⟩:=h;refine⟨ρ,e,c,W,V,post.bind p λx c1 aJ H1 v _ W1 X1 r1 p1=>?_⟩
 split at p1
 ·rename_i hl;exact⟨by rw[r1.length];exact hl.1,Bf W1 hl.2 r1 p1⟩
 ·exact p1.elim
end
def aZ:D->D->List Cell->R D:=λx y c=>match x,y with
 |.int i,.int j=>.ok (.int (i+j)) c
 |.str a,.str b=>if a.length+b.length<=ι then .ok (.str (a++b)) c else .bad
 |.tup l,.tup m=>if l.length≠0/\l.length+m.length<=ι then .ok (.tup (l++m)) c else .bad
 |_,_=>.bad
def bq:D->D->List Cell->R D:=λx y c=>match x,y with
 |.int i,.int j=>.ok (.int (i-j)) c
 |_,_=>.bad
def bg:D->D->List Cell->R D:=λx y c=>match x,y with
 |.int i,.int j=>if(-(2^64)<i/\i<2^64)\/(-(2^64)<j/\j<2^64)then .ok (.int (i*j)) c else .bad
 |_,_=>.bad
def gw:D->D->List Cell->R D:=λx y c=>match x,y with
 |.int i,.int j=>if 0<j/\j<1073741824 then .ok (.int (i/j)) c else .bad
 |_,_=>.bad
def bL:D->D->List Cell->R D:=λx y c=>match x,y with
 |.int i,.int j=>if 0<j then .ok (.int (i % j)) c else .bad
 |_,_=>.bad
def jc:D->D->List Cell->R D:=λx y c=>match x,y with
 |.int i,.int j=>if 0<=j/\j<=1000000/\i.natAbs<2^64 then .ok (.int (i^j.toNat)) c else .bad
 |_,_=>.bad
def oR(p:Int->Int->Bool):D->D->List Cell->R D:=λx y c=>match x,y with
 |.int i,.int j=>.ok (.bl (p i j)) c
 |_,_=>.bad
section
variable {X:Cx}
theorem cX:bB X (binaryOp .Add) (r2 X.K aZ):=by
 intro pins s σ H v u vv uu Q I rv ru h;obtain⟨ρ,x,y,c,W,rx,ry,p⟩:=h;unfold aZ at p;split at p
 ·cases rx;cases ry;exact VI pins s σ H _ _ vv uu Q I rv ru ⟨_,_,rfl,rfl,p.here W rfl⟩
 ·split at p
  ·rename_i hl;cases rx;cases ry;exact VH pins s σ H _ _ vv uu Q I rv ru ⟨_,_,rfl,rfl,hl,p.here W rfl⟩
  ·exact p.elim
 ·split at p
  ·rename_i hl;obtain⟨a,xs,rfl,sa,ra⟩:=rx;obtain⟨b,ys,rfl,sb,rb⟩:=ry;refine VF pins s σ H _ _ vv uu Q I rv ru ⟨a,b,xs,ys,rfl,rfl,dg.of sa,dg.of sb,λz=>hl.1 ?_,by rw[ra.length,rb.length];exact hl.2,λz=>?_,λ_=>Be W (ra.append rb) p⟩
   ·rw[<-ra.length,z];rfl
   ·refine p.here W ⟨a,xs++ys,rfl,by rw[z,ajv];exact sa,ra.append rb⟩
  ·exact p.elim
 ·exact p.elim
theorem dZ:bB X (binaryOp .Sub) (r2 X.K bq):=by
 intro pins s σ H v u vv uu Q I rv ru h;obtain⟨ρ,x,y,c,W,rx,ry,p⟩:=h;unfold bq at p;split at p
 ·cases rx;cases ry;exact Vs pins s σ H _ _ vv uu Q I rv ru ⟨_,_,rfl,rfl,p.here W rfl⟩
 ·exact p.elim
theorem gr:bB X (binaryOp .Mult) (r2 X.K bg):=by
 intro pins s σ H v u vv uu Q I rv ru h;obtain⟨ρ,x,y,c,W,rx,ry,p⟩:=h;unfold bg at p;split at p
 ·split at p
  ·rename_i hl;cases rx;cases ry;exact Vx pins s σ H _ _ vv uu Q I rv ru ⟨_,_,rfl,rfl,hl,p.here W rfl⟩
  ·exact p.elim
 ·exact p.elim
theorem ur:bB X (binaryOp .FloorDiv) (r2 X.K gw):=by
 intro pins s σ H v u vv uu Q I rv ru h;obtain⟨ρ,x,y,c,W,rx,ry,p⟩:=h;unfold gw at p;split at p
 ·split at p
  ·rename_i hl;cases rx;cases ry;exact VD pins s σ H _ _ vv uu Q I rv ru ⟨_,_,rfl,rfl,hl,p.here W rfl⟩
  ·exact p.elim
 ·exact p.elim
theorem gR:bB X (binaryOp .Mod) (r2 X.K bL):=by
 intro pins s σ H v u vv uu Q I rv ru h;obtain⟨ρ,x,y,c,W,rx,ry,p⟩:=h;unfold bL at p;split at p
 ·split at p
  ·rename_i hl;cases rx;cases ry;exact Vy pins s σ H _ _ vv uu Q I rv ru ⟨_,_,rfl,rfl,hl,p.here W rfl⟩
  ·exact p.elim
 ·exact p.elim
theorem xE:bB X (binaryOp .Pow) (r2 X.K jc):=by
 intro pins s σ H v u vv uu Q I rv ru h;obtain⟨ρ,x,y,c,W,rx,ry,p⟩:=h;unfold jc at p;split at p
 ·split at p
  ·rename_i hl;cases rx;cases ry;exact Vu pins s σ H _ _ vv uu Q I rv ru ⟨_,_,rfl,rfl,hl,p.here W rfl⟩
  ·exact p.elim
 ·exact p.elim
theorem xG{f:Ξ->Ξ->Sem Ξ}{q:Int->Int->Bool}(h:bB X f (jI λi j=>.bl (q i j))):bB X f (r2 X.K (oR q)):=by
 intro pins s σ H v u vv uu Q I rv ru hh;obtain⟨ρ,x,y,c,W,rx,ry,p⟩:=hh;unfold oR at p;split at p
 ·cases rx;cases ry;exact h pins s σ H _ _ vv uu Q I rv ru ⟨_,_,rfl,rfl,p.here W rfl⟩
 ·exact p.elim
abbrev JN:=oR λi j=>decide (i<j)
abbrev kH:=oR λi j=>decide (i<=j)
abbrev oF:=oR λi j=>decide (j<i)
abbrev KY:=oR λi j=>decide (j<=i)
theorem Wn:bB X (compareOp .Lt) (r2 X.K JN):=xG Vz
theorem xF:bB X (compareOp .LtE) (r2 X.K kH):=xG VA
theorem IP:bB X (compareOp .Gt) (r2 X.K oF):=xG VB
theorem WU:bB X (compareOp .GtE) (r2 X.K KY):=xG VC
end
def El:D->D->Option Bool
 |.aM,.aM=>ζ Θ|.aM,.int _=>ζ Ψ|.int _,.aM=>ζ Ψ|.aM,.bl _=>ζ Ψ|.bl _,.aM=>ζ Ψ|.aM,.str _=>ζ Ψ|.str _,.aM=>ζ Ψ
 |.int i,.int j=>ζ (decide (i=j))|.bl a,.bl b=>ζ (decide (a=b))|.str x,.str y=>ζ (decide (x=y))
 |.int _,.str _=>ζ Ψ|.str _,.int _=>ζ Ψ|.bl _,.str _=>ζ Ψ|.str _,.bl _=>ζ Ψ
 |_,_=>θ
def bD:D->D->List Cell->R D:=λx y c=>match El x y with
 |some b=>.ok (.bl b) c
 |none=>.bad
def eZ:D->D->List Cell->R D:=λx y c=>match El x y with
 |some b=>.ok (.bl (!b)) c
 |none=>.bad
section
variable {X:Cx}{K:Δ}{ρ:List Ω}{H:Hp}{c:List Cell}
theorem LG{x y:D}{v u:V}{b:Bool}(rx:Rel K ρ H x v) (ry:Rel K ρ H y u) (h:El x y=ζ b):AK v u=Θ/\decide (v=u)=b:=by
 cases x<;>cases y<;>first
  |(cases rx;cases ry;cases h;refine⟨rfl,?_⟩;simp;done)
  |(cases h;done)
theorem gF:bB X (compareOp .Eq) (r2 X.K bD):=by
 intro pins s σ H v u vv uu Q I rv ru h;obtain⟨ρ,x,y,c,W,rx,ry,p⟩:=h;unfold bD at p;split at p
 ·rename_i b hb;obtain⟨h1,h2⟩:=LG rx ry hb;exact VE pins s σ H _ _ vv uu Q I rv ru ⟨h1,by rw[h2];exact p.here W rfl⟩
 ·exact p.elim
theorem qN:bB X (compareOp .NotEq) (r2 X.K eZ):=by
 intro pins s σ H v u vv uu Q I rv ru h;obtain⟨ρ,x,y,c,W,rx,ry,p⟩:=h;unfold eZ at p;split at p
 ·rename_i b hb;obtain⟨h1,h2⟩:=LG rx ry hb;exact Vw pins s σ H _ _ vv uu Q I rv ru ⟨h1,by rw[h2];exact p.here W rfl⟩
 ·exact p.elim
theorem Vg{a b d:π}{da db dd:Ev->List Cell->R D}{pos:Pos}{op op':CmpOp}{f g:D->D->List Cell->R D}(ho:bB X (compareOp op) (r2 X.K f)) (ho':bB X (compareOp op') (r2 X.K g)) (ha:aV X a da) (hb:aV X b db) (hd:aV X d dd)
  (h1:lastMarks [op,op'] [b,d]=Ψ:=by with_unfolding_all rfl) :
  aV X (.Compare a [op,op'] [b,d] pos) (oO f g da db dd):=(UZ ho ho' ha hb hd h1).imp λσ H Q h=>by
 obtain⟨ρ,e,c,W,V,p⟩:=h;refine⟨ρ,e,c,W,V,post.bind p λx c1 aJ H1 v _ W1 X1 r1 p1=>⟨aJ,e,c1,W1,V.mono W X1,post.bind p1 λy c2 cy H2 u _ W2 X2 r2 p2=>⟨cy,x,y,c2,W2,Rel.mono W1 X2 _ _ r1,r2,post.bind p2 λz c3 nH H3 w _ W3 X3 r3 p3=>?_⟩⟩⟩
 have V3:=(V.mono W X1).mono W1 (X2.trans X3);cases z with
 |bl k =>
  cases r3;refine⟨k,rfl,?_⟩;cases k with
  |true =>
   refine jP ⟨nH,e,c3,W3,V3,post.bind p3 λt c4 nG H4 w4 _ W4 X4 r4 p4=>⟨nG,y,t,c4,W4,Rel.mono W2 (X3.trans X4) _ _ r2,r4,p4⟩⟩
  |false=>exact jQ (p3.here W3 rfl)
 |_=>exact p3.elim
end
def fW(c:List Cell):D->Option (List D)
 |.tup l=>ζ l
 |.lst l=>ζ l
 |.cE l=>ζ (l.map D.int)
 |.ref k=>match c[k]? with
  |some (.lst l)=>ζ l
  |none=>θ
 |_=>θ
def aH:D->D->List Cell->R D:=λx y c=>match y with
 |.int i=>match fW c x with
  |some l=>match cF l i with
   |some d=>.ok d c
   |none=>.bad
  |none=>.bad
 |_=>.bad
section
variable {X:Cx}{K:Δ}{ρ:List Ω}{H:Hp}{c:List Cell}
theorem AI{x:D}{v:V}{l:List D}(W:Wd K ρ H c) (rx:Rel K ρ H x v) (h:fW c x=ζ l):∃a xs,v=.ref a/\(bJ K H a xs\/dg K H a xs)/\aN K ρ H l xs:=by
 cases x with
 |tup m =>
  cases h;obtain⟨a,xs,e,s,r⟩:=rx;exact⟨a,xs,e,.inr (dg.of s),r⟩
 |lst m =>
  cases h;obtain⟨a,xs,e,s,r⟩:=rx;exact⟨a,xs,e,.inl (bJ.of s.1),r⟩
 |cE m =>
  cases h;obtain⟨a,e,s⟩:=rx;exact⟨a,_,e,.inl s.sql,aN.ints⟩
 |ref k =>
  obtain⟨a,e,s⟩:=rx;unfold fW at h;dsimp only at h;cases hc:c[k]? with
  |none=>rw[hc]at h;cases h
  |some cl =>
   cases cl with
   |lst m =>
    rw[hc]at h;cases h;obtain⟨_,xs,hx,r⟩:=W.fR k a _ s hc;exact⟨a,xs,e,.inl (bJ.of hx),r⟩
 |_=>cases h
theorem afu{l:List D}{xs:List V}{i:Int}{d:D}(r:aN K ρ H l xs) (h:cF l i=ζ d):∃v,cF xs i=ζ v/\Rel K ρ H d v:=by
 unfold cF at h ⊢;rw[r.length];cases e:fL l.length i with
 |none=>rw[e]at h;cases h
 |some j =>
  rw[e]at h;exact r.get (i:=j) h
theorem cI:vH X (r2 X.K aH):=by
 intro value slice pins s σ H v u vv uu Q I rv ru h hs;obtain⟨ρ,x,y,c,W,rx,ry,p⟩:=h;unfold aH at p;split at p
 ·split at p
  ·rename_i l hl;split at p
   ·rename_i d hd;cases ry;obtain⟨a,xs,rfl,sq,r⟩:=AI W rx hl;obtain⟨w,hw,rw'⟩:=afu r hd
    rcases sq with sq|sq
    ·exact aal value slice pins s σ H _ _ vv uu Q I rv ru ⟨a,xs,_,w,rfl,rfl,sq,hw,p.here W rw'⟩ hs
    ·exact aak value slice pins s σ H _ _ vv uu Q I rv ru ⟨a,xs,_,w,rfl,rfl,sq,hw,p.here W rw'⟩ hs
   ·exact p.elim
  ·exact p.elim
 ·exact p.elim
end
def aT(a:Ev->List Cell->R D):Ev->List Cell->R Bool:=λe c=>(a e c).bind λx c=>match x with
 |.bl b=>.ok b c
 |_=>.bad
def jz(a b:Ev->List Cell->R Bool):Ev->List Cell->R Bool:=λe c=>(a e c).bind λx c=>if x=Θ then b e c else .ok Ψ c
def fO(a b:Ev->List Cell->R Bool):Ev->List Cell->R Bool:=λe c=>(a e c).bind λx c=>if x=Θ then .ok Θ c else b e c
def dQ(a:Ev->List Cell->R Bool):Ev->List Cell->R Bool:=λe c=>(a e c).bind λx c=>.ok (!x) c
def gf(a b:Ev->List Cell->R D):Ev->List Cell->R D:=λe c=>(a e c).bind λx c=>match x with
 |.bl k=>if k=Θ then b e c else .ok (.bl Ψ) c
 |_=>.bad
def EL(a:Ev->List Cell->R D):Ev->List Cell->R D:=λe c=>(a e c).bind λx c=>match x with
 |.bl k=>.ok (.bl (!k)) c
 |_=>.bad
def vc(t:Ev->List Cell->R Bool) (a b:Ev->List Cell->R D):Ev->List Cell->R D:=λe c=>(t e c).bind λx c=>if x=Θ then a e c else b e c
section
variable {X:Cx}{a b c':π}{da db:Ev->List Cell->R D}{ta tb:Ev->List Cell->R Bool}{pos:Pos}{rest:List π}
theorem FO(h:tD X.K (λ_ _ a b=>a=b) (aT da) σ H Q):tD X.K (Rel X.K) da σ H λx H'=>∃k,x=.bl k/\Q k H':=by
 obtain⟨ρ,e,c,W,V,p⟩:=h;refine⟨ρ,e,c,W,V,post.bind p λx c1 aJ H1 v _ W1 X1 r1 p1=>?_⟩
 cases x with
 |bl k=>cases r1;exact⟨k,rfl,p1.here W1 rfl⟩
 |_=>exact p1.elim
theorem jJ(ha:aV X a da) (he:∀whole,isTrue a X.env whole=(do let v <-whole;standAt a.pos;holding [v] (truthy v)):=by intro _;rfl):gZ X a (aT da):=(SW ha he).imp λσ H Q h=>FO h
theorem dM{op:CmpOp}{f:D->D->List Cell->R D}(ho:bB X (compareOp op) (r2 X.K f)) (ha:aV X a da) (hb:aV X b db) (hm:behindInMarks op b=Ψ:=by first|exact Jc _|rfl):gZ X (.Compare a [op] [b] pos) (aT (au f da db)) :=
 (SY ho ha hb hm).imp λσ H Q h=>vY (Q:=λx H'=>∃k,x=.bl k/\Q k H') (FO h)
theorem Vf{d:π}{dd:Ev->List Cell->R D}{op op':CmpOp}{f g:D->D->List Cell->R D}(ho:bB X (compareOp op) (r2 X.K f)) (ho':bB X (compareOp op') (r2 X.K g)) (ha:aV X a da) (hb:aV X b db) (hd:aV X d dd)
  (h1:lastMarks [op,op'] [b,d]=Ψ:=by with_unfolding_all rfl):gZ X (.Compare a [op,op'] [b,d] pos) (aT (oO f g da db dd)):=(S0 ho ho' ha hb hd h1).imp λσ H Q h=>by
 obtain⟨ρ,e,c,W,V,p⟩:=FO h;refine⟨ρ,e,c,W,V,post.bind p λx c1 aJ H1 v _ W1 X1 r1 p1=>⟨aJ,e,c1,W1,V.mono W X1,post.bind p1 λy c2 cy H2 u _ W2 X2 r2 p2=>⟨cy,x,y,c2,W2,Rel.mono W1 X2 _ _ r1,r2,post.bind p2 λz c3 nH H3 w _ W3 X3 r3 p3=>?_⟩⟩⟩
 have V3:=(V.mono W X1).mono W1 (X2.trans X3);cases z with
 |bl k =>
  cases r3;refine⟨k,rfl,?_⟩;cases k with
  |true =>
   refine jP ⟨nH,e,c3,W3,V3,post.bind p3 λt c4 nG H4 w4 _ W4 X4 r4 p4=>⟨nG,y,t,c4,W4,Rel.mono W2 (X3.trans X4) _ _ r2,r4,p4⟩⟩
  |false=>exact jQ (p3.here W3 rfl)
 |_=>exact p3.elim
theorem Il(ha:gZ X a ta):sJ X (.BoolOp .And [a] pos) ta:=SQ ha
theorem qI(ha:gZ X a ta):sJ X (.BoolOp .Or [a] pos) ta:=SN ha
theorem Ik(ha:gZ X a ta) (hb:sJ X (.BoolOp .And (b::rest) pos) tb):sJ X (.BoolOp .And (a::b::rest) pos) (jz ta tb):=(SR ha hb).imp λσ H Q h=>by
 obtain⟨ρ,e,c,W,V,p⟩:=h;refine⟨ρ,e,c,W,V,post.bind p λx c1 aJ H1 v _ W1 X1 r1 p1=>?_⟩
 cases r1;cases x with
 |true=>exact jP ⟨aJ,e,c1,W1,V.mono W X1,p1⟩
 |false=>exact jQ (post.here (a:=Ψ) p1 W1 rfl)
theorem nS(ha:gZ X a ta) (hb:sJ X (.BoolOp .Or (b::rest) pos) tb):sJ X (.BoolOp .Or (a::b::rest) pos) (fO ta tb):=(SO ha hb).imp λσ H Q h=>by
 obtain⟨ρ,e,c,W,V,p⟩:=h;refine⟨ρ,e,c,W,V,post.bind p λx c1 aJ H1 v _ W1 X1 r1 p1=>?_⟩
 cases r1;cases x with
 |true=>exact jP (post.here (a:=Θ) p1 W1 rfl)
 |false=>exact jQ ⟨aJ,e,c1,W1,V.mono W X1,p1⟩
theorem jd(ha:gZ X a ta):gZ X (.UnaryOp .Not a pos) (dQ ta):=(SX ha).imp λσ H Q h=>by
 obtain⟨ρ,e,c,W,V,p⟩:=h;refine⟨ρ,e,c,W,V,post.bind p λx c1 aJ H1 v _ W1 X1 r1 p1=>?_⟩
 cases r1;exact p1.here W1 rfl
theorem ue{op}(h:aV X a da):aV X (.BoolOp op [a] pos) da:=UP h
theorem uh(ha:aV X a da) (hb:aV X (.BoolOp .And (b::rest) pos) db):aV X (.BoolOp .And (a::b::rest) pos) (gf da db):=(U3 ha hb).imp λσ H Q h=>by
 obtain⟨ρ,e,c,W,V,p⟩:=h;refine⟨ρ,e,c,W,V,post.bind p λx c1 aJ H1 v _ W1 X1 r1 p1=>?_⟩
 cases x with
 |bl k =>
  cases r1;refine⟨k,rfl,?_⟩;cases k with
  |true=>exact jP ⟨aJ,e,c1,W1,V.mono W X1,p1⟩
  |false=>exact jQ (post.here (a:=D.bl Ψ) p1 W1 rfl)
 |_=>exact p1.elim
theorem U5(ha:aV X a da):aV X (.UnaryOp .Not a pos) (EL da):=(UQ ha).imp λσ H Q h=>by
 obtain⟨ρ,e,c,W,V,p⟩:=h;refine⟨ρ,e,c,W,V,post.bind p λx c1 aJ H1 v _ W1 X1 r1 p1=>?_⟩
 cases x with
 |bl k=>cases r1;exact⟨k,rfl,p1.here W1 rfl⟩
 |_=>exact p1.elim
theorem Vb(ht:gZ X c' ta) (ha:aV X a da) (hb:aV X b db):aV X (.IfExp c' a b pos) (vc ta da db):=(UU ht ha hb).imp λσ H Q h=>by
 obtain⟨ρ,e,c,W,V,p⟩:=h;refine⟨ρ,e,c,W,V,post.bind p λx c1 aJ H1 v _ W1 X1 r1 p1=>?_⟩
 cases r1;cases x with
 |true=>exact jP ⟨aJ,e,c1,W1,V.mono W X1,p1⟩
 |false=>exact jQ ⟨aJ,e,c1,W1,V.mono W X1,p1⟩
end
inductive Fl where
 |nx (e:Ev)|rt (d:D)|bk (e:Ev)|ct (e:Ev)
abbrev aa:=List Cell
abbrev af:=Ev->List Cell->R D
abbrev ah:=Ev->List Cell->R Fl
abbrev ai:=Ev->List Cell->R Bool
abbrev aj:=Ev->List Cell->R (List D)
inductive FV where
 |nx (σ:St)|rt (v:V)|bk (σ:St)|ct (σ:St)
def iG(K:Δ) (ρ:List Ω) (H:Hp):Fl->FV->Prop
 |.nx e,f=>∃σ,f=.nx σ/\cU K ρ H e σ
 |.rt d,f=>∃v,f=.rt v/\Rel K ρ H d v
 |.bk e,f=>∃σ,f=.bk σ/\cU K ρ H e σ
 |.ct e,f=>∃σ,f=.ct σ/\cU K ρ H e σ
def En(Z:Ends):FV->Hp->Prop
 |.nx σ,H=>Z.nx σ H
 |.rt v,H=>Z.rt v H
 |.bk σ,H=>Z.bk σ H
 |.ct σ,H=>Z.ct σ H
def Au(K:Δ) (d:ah):TS:=λZ σ H=>tD K (iG K) d σ H (En Z)
abbrev jE(X:Cx) (st:aaM) (d:ah):Prop:=PS X st (Au X.K d)
abbrev bY(X:Cx) (st:List aaM) (d:ah):Prop:=eu X st (Au X.K d)
def ck:ah:=λe c=>.ok (.nx e) c
def aD(a b:ah):ah:=λe c=>(a e c).bind λf c=>match f with
 |.nx e=>b e c
 |f=>.ok f c
def aP(a:af):ah:=λe c=>(a e c).bind λx c=>.ok (.rt x) c
def dY(a:af):ah:=λe c=>(a e c).bind λ_ c=>.ok (.nx e) c
def b8(t:ai) (a b:ah):ah:=λe c=>(t e c).bind λx c=>if x=Θ then a e c else b e c
def aF(i:Nat) (a:af):ah:=λe c=>(a e c).bind λx c=>.ok (.nx (e.set i (ζ x))) c
def tS:ah:=λ_ _=>.bad
section
variable {X:Cx}{st:aaM}{rest:List aaM}{t u:ah}{e:π}{da:af}{pos:Pos}
theorem gm:bY X [] ck:=S2.imp λZ σ H h=>by
 obtain⟨ρ,e,c,W,V,p⟩:=h;exact p.here W ⟨σ,rfl,V⟩
theorem aS(h1:jE X st t) (h2:bY X rest u):bY X (st::rest) (aD t u):=(HQ h1 h2).imp λZ σ H h=>by
 obtain⟨ρ,e,c,W,V,p⟩:=h;refine⟨ρ,e,c,W,V,post.bind p λf c1 aJ H1 b _ W1 X1 r1 p1=>?_⟩
 cases f with
 |nx e1=>obtain⟨σ1,rfl,V1⟩:=r1;exact⟨aJ,e1,c1,W1,V1,p1⟩
 |rt d=>obtain⟨v,rfl,V1⟩:=r1;exact post.here (Q:=En Z) (show post X.K (iG X.K) (.ok (Fl.rt d) c1) aJ H1 (En Z)from p1) W1 ⟨_,rfl,V1⟩
 |bk e1=>obtain⟨σ1,rfl,V1⟩:=r1;exact post.here (Q:=En Z) (show post X.K (iG X.K) (.ok (Fl.bk e1) c1) aJ H1 (En Z)from p1) W1 ⟨_,rfl,V1⟩
 |ct e1=>obtain⟨σ1,rfl,V1⟩:=r1;exact post.here (Q:=En Z) (show post X.K (iG X.K) (.ok (Fl.ct e1) c1) aJ H1 (En Z)from p1) W1 ⟨_,rfl,V1⟩
theorem aX(h1:jE X st t):bY X [st] t:=S1 h1
theorem AJ:jE X st tS:=λ_ _ _ _ _ _ h=>by
 obtain⟨ρ,e,c,W,V,p⟩:=h;exact p.elim
theorem bW(he:aV X e da):jE X (.Return (ζ e) pos) (aP da):=(S8 he).imp λZ σ H h=>by
 obtain⟨ρ,e,c,W,V,p⟩:=h;refine⟨ρ,e,c,W,V,post.bind p λx c1 aJ H1 v _ W1 X1 r1 p1=>p1.here W1 ⟨v,rfl,r1⟩⟩
theorem kh(he:aV X e da) (hs:swapsWith e θ pos.line X.env=pure Ψ:=by rfl):jE X (.Expr e pos) (dY da):=(HU he hs).imp λZ σ H h=>by
 obtain⟨ρ,e,c,W,V,p⟩:=h;refine⟨ρ,e,c,W,V,post.bind p λx c1 aJ H1 v _ W1 X1 r1 p1=>p1.here W1 ⟨σ,rfl,V.mono W X1⟩⟩
theorem fk{c':π}{a b:List aaM}{tc:ai}(hc:gZ X c' tc) (ha:bY X a t) (hb:bY X b u):jE X (.If c' a b pos) (b8 tc t u):=(HR hc ha hb).imp λZ σ H h=>by
 obtain⟨ρ,e,c,W,V,p⟩:=h;refine⟨ρ,e,c,W,V,post.bind p λx c1 aJ H1 v _ W1 X1 r1 p1=>?_⟩
 cases r1;cases x with
 |true=>exact jP ⟨aJ,e,c1,W1,V.mono W X1,p1⟩
 |false=>exact jQ ⟨aJ,e,c1,W1,V.mono W X1,p1⟩
theorem bx{i:Nat}{x:Str}{pos':Pos}(he:aV X e da) (hN:X.N.Nodup:=by decide +kernel) (hi:X.N[i]? = ζ x:=by rfl) (hx:Loc X.env.scope x:=by first|exact Or.inl rfl|exact Or.inr rfl) (hs:swapsWith e (ζ (.Name x pos')) pos.line X.env=pure Ψ:=by rfl)
  (hf:X.fn x=Θ\/X.env.scope.names.lookup x=ζ .local:=by first|exact .inl rfl|exact .inr rfl):jE X (.Assign [.Name x pos'] e pos) (aF i da):=(S7 hN hi hx he hs).imp λZ σ H h=>by
 obtain⟨ρ,e,c,W,V,p⟩:=h;refine⟨ρ,e,c,W,V,post.bind p λx c1 aJ H1 v _ W1 X1 r1 p1=>p1.here W1 ⟨_,rfl,(V.mono W X1).set r1 i⟩⟩
end
abbrev Gd:=D->Ev->aa->R Ev
def Av(K:Δ) (g:Gd):TG:=λv σ H Q=>∃ρ x e c,Wd K ρ H c/\cU K ρ H e σ/\Rel K ρ H x v/\post K (λρ H e σ=>cU K ρ H e σ) (g x e c) ρ H Q
def PX(K:Δ) (g:List D->Ev->aa->R Ev):l5:=λvs σ H Q=>∃ρ xs e c,Wd K ρ H c/\cU K ρ H e σ/\aN K ρ H xs vs/\post K (λρ H e σ=>cU K ρ H e σ) (g xs e c) ρ H Q
abbrev pF(X:Cx) (e:π) (g:Gd):Prop:=PG X e (Av X.K g)
abbrev zK(X:Cx) (es:List π) (g:List D->Ev->aa->R Ev):Prop:=nC X es (PX X.K g)
def aB(i:Nat):Gd:=λx e c=>.ok (e.set i (ζ x)) c
def gS:List D->Ev->aa->R Ev:=λxs e c=>match xs with
 |[]=>.ok e c
 |_=>.bad
def dF(g:Gd) (r:List D->Ev->aa->R Ev):List D->Ev->aa->R Ev:=λxs e c=>match xs with
 |x::xs=>(g x e c).bind λe c=>r xs e c
 |_=>.bad
def gH(n:Nat) (g:List D->Ev->aa->R Ev):Gd:=λx e c=>match x with
 |.tup l=>if l.length=n then g l e c else .bad
 |_=>.bad
theorem PG.imp{X:Cx}{e:π}{t t':TG}(h:PG X e t) (i:∀v σ H Q,t' v σ H Q->t v σ H Q):PG X e t':=λpins s σ H x u Q I r q=>h pins s σ H x u Q I r (i _ _ _ _ q)
theorem nC.imp{X:Cx}{es:List π}{t t':l5}(h:nC X es t) (i:∀v σ H Q,t' v σ H Q->t v σ H Q):nC X es t':=λpins s σ H x u Q I r q=>h pins s σ H x u Q I r (i _ _ _ _ q)
section
variable {X:Cx}{pos:Pos}
theorem bQ{i:Nat}{x:Str}(hN:X.N.Nodup:=by decide +kernel) (hi:X.N[i]? = ζ x:=by rfl) (hx:Loc X.env.scope x:=by first|exact Or.inl rfl|exact Or.inr rfl) (hf:X.fn x=Θ\/X.env.scope.names.lookup x=ζ .local:=by first|exact .inl rfl|exact .inr rfl):pF X (.Name x pos) (aB i) :=
 (UG hN hi hx hf).imp λv σ H Q h=>by
  obtain⟨ρ,x,e,c,W,V,r,p⟩:=h;exact p.here W (V.set r i)
theorem Dv:zK X [] gS:=UB.imp λv σ H Q h=>by
 obtain⟨ρ,xs,e,c,W,V,r,p⟩:=h;cases xs with
 |nil=>exact⟨r,p.here W V⟩
 |cons x xs=>exact p.elim
theorem rq{e:π}{es:List π}{g:Gd}{u:List D->Ev->aa->R Ev}(h1:pF X e g) (h2:zK X es u) (hs:(assignEach (e::es) X.env).map (·.2)=assign e X.env::(assignEach es X.env).map (·.2):=by rfl):zK X (e::es) (dF g u) :=
 (UC h1 h2 hs).imp λv σ H Q h=>by
  obtain⟨ρ,xs,e,c,W,V,r,p⟩:=h;cases xs with
  |nil=>exact p.elim
  |cons x xs =>
   obtain⟨y,ys,rfl,rx,rs⟩:=r;exact⟨y,ys,rfl,ρ,x,e,c,W,V,rx,post.bind p λe1 c1 aJ H1 σ1 _ W1 X1 V1 p1=>⟨aJ,xs,e1,c1,W1,V1,aN.mono W X1 _ _ rs,p1⟩⟩
theorem Dw{es:List π}{k:Nat}{g:List D->Ev->aa->R Ev}{n:Nat}(h:zK X es g) (hc:X.calm=Θ:=by rfl) (hn:(assignEach es X.env).length=n:=by rfl) (hst:(assignEach es X.env).findIdx? (·.1)=θ:=by rfl):pF X (.Tuple es k pos) (gH n g) :=
 (UD hc h hn hst).imp λv σ H Q h=>by
  obtain⟨ρ,x,e,c,W,V,r,p⟩:=h;cases x with
  |tup l =>
   obtain⟨a,xs,rfl,s,rs⟩:=r;unfold gH at p;dsimp only at p;split at p
   ·rename_i hl;exact⟨a,xs,rfl,dg.of s,rs.length.trans hl,ρ,l,e,c,W,V,rs,p⟩
   ·exact p.elim
  |_=>exact p.elim
def fX(a:af) (g:Gd):ah:=λe c=>(a e c).bind λx c=>(g x e c).bind λe c=>.ok (.nx e) c
theorem pN{tg e:π}{da:af}{g:Gd}(he:aV X e da) (hg:pF X tg g) (hs:swapsWithSole [tg] e pos.line X.env=pure Ψ:=by rfl) (hw:swappedStores [tg] e X.env=pure θ:=by rfl)
  (h1:(assignEach [tg] X.env).map (·.2)=[assign tg X.env]:=by rfl):jE X (.Assign [tg] e pos) (fX da g):=(Td he hg hs hw h1).imp λZ σ H h=>by
 obtain⟨ρ,e,c,W,V,p⟩:=h;refine⟨ρ,e,c,W,V,post.bind p λx c1 aJ H1 v _ W1 X1 r1 p1=>⟨aJ,x,e,c1,W1,V.mono W X1,r1,post.bind p1 λe2 c2 cy H2 σ2 _ W2 X2 V2 p2=>p2.here W2 ⟨σ2,rfl,V2⟩⟩⟩
def kg:D->D->D->aa->R Unit:=λo i v c=>match o,i with
 |.ref k,.int i=>match c[k]? with
  |some (.lst l)=>match fL l.length i with
   |some j=>if noRef v=Θ then .ok () (c.set k (.lst (l.set j v)))else .bad
   |none=>.bad
  |none=>.bad
 |_,_=>.bad
def kN(o i:af):Gd:=λx e c=>(o e c).bind λo c=>(i e c).bind λi c=>(kg o i x c).bind λ_ c=>.ok e c
theorem yj{o i:π}{dO di:af}(ho:aV X o dO) (hi:aV X i di)
  (ha:∀v,assign (.Subscript o i pos) X.env v=(do
   let ov <-holding [v] (eval o X.env)
   let iv <-holding [v,ov] (eval i X.env)
   standAt pos
   holding [v,ov,iv] (setItem ov iv v)
   release [v,ov,iv] []):=by intro _;rfl):pF X (.Subscript o i pos) (kN dO di):=(UE ho hi set_list ha).imp λv σ H Q h=>by
 obtain⟨ρ,x,e,c,W,V,rx,p⟩:=h;refine⟨ρ,e,c,W,V,post.bind p λo c1 aJ H1 ov _ W1 X1 r1 p1=>⟨aJ,e,c1,W1,V.mono W X1,post.bind p1 λi c2 cy H2 iv _ W2 X2 r2 p2=>?_⟩⟩
 have V2:=(V.mono W X1).mono W1 X2;have R3:=Rel.mono W (X1.trans X2) _ _ rx;have ro:=Rel.mono W1 X2 _ _ r1;unfold kg at p2;split at p2
 ·rename_i k i _ _;split at p2
  ·rename_i l hl;split at p2
   ·rename_i j hj;split at p2
    ·rename_i hv;obtain⟨a,rfl,ha⟩:=ro;cases r2;obtain⟨nr,ys,hy,rl⟩:=W2.fR k a _ ha hl;refine⟨a,ys,i,j,rfl,rfl,hy,by rw[rl.length];exact hj,?_⟩
     exact p2 cy _ σ (W2.write ha (Jg nr hv) (rl.set j R3)) (Ext.write ha) (V2.mono W2 (Ext.write ha))
    ·exact p2.elim
   ·exact p2.elim
  ·exact p2.elim
 ·exact p2.elim
end
structure Src where
 items:List D
 stays:aa->Prop
def JS(K:Δ) (ρ:List Ω) (H:Hp) (s:Src) (J:It):Prop :=
 ∀ρ' H' c',Wd K ρ' H' c'->Ext ρ H ρ' H'->s.stays c'->∀i:Nat,
  (∀d,s.items[i]? = ζ d->J.go i H'/\∀x H2,J.sP i H' x H2->Wd K ρ' H2 c'/\Ext ρ' H' ρ' H2/\Rel K ρ' H2 d x)/\(i=s.items.length->J.stop i H')
def G2(K:Δ) (d:Ev->aa->R Src):TI:=tD K (JS K) d
abbrev PId(X:Cx) (tg iter:π) (d:Ev->aa->R Src):Prop:=PI X tg iter (G2 X.K d)
theorem PI.imp{X:Cx}{tg iter:π}{t t':TI}(h:PI X tg iter t) (i:∀σ H Q,t' σ H Q->t σ H Q):PI X tg iter t':=λpins s σ H Q I q=>h pins s σ H Q I (i _ _ _ q)
def c9(a:af):Ev->aa->R Src:=λe c=>(a e c).bind λx c=>match x with
 |.lst l=>.ok ⟨l,λ_=>True⟩ c
 |.cE l=>.ok ⟨l.map D.int,λ_=>True⟩ c
 |.ref k=>match c[k]? with
  |some (.lst l)=>.ok ⟨l,λc=>c[k]? = ζ (.lst l)⟩ c
  |none=>.bad
 |_=>.bad
def c8(a:af):Ev->aa->R Src:=λe c=>(a e c).bind λx c=>match x with
 |.tup l=>.ok ⟨l,λ_=>True⟩ c
 |_=>.bad
def bf(lo hi:Int):List D:=(η (hi-lo).toNat).map fun(i:Nat)=>D.int (lo+(i:Int))
def bh(a:aj):Ev->aa->R Src:=λe c=>(a e c).bind λxs c=>match xs with
 |[.int j]=>if -(2^62)<=j/\j<2^62 then .ok ⟨bf 0 j,λ_=>True⟩ c else .bad
 |_=>.bad
def nj(a:aj):Ev->aa->R Src:=λe c=>(a e c).bind λxs c=>match xs with
 |[.int i,.int j]=>if -(2^62)<=i/\i<2^62/\-(2^62)<=j/\j<2^62 then .ok ⟨bf i j,λ_=>True⟩ c else .bad
 |_=>.bad
section
variable {X:Cx}{tg:π}{K:Δ}{ρ:List Ω}{H:Hp}
theorem CZ{l:List D}{a:Ω}{st:aa->Prop}(h:∀ρ' H' c',Wd K ρ' H' c'->Ext ρ H ρ' H'->st c'->∃xs,bJ K H' a xs/\aN K ρ' H' l xs):JS K ρ H ⟨l,st⟩ (Ge K a):=by
 intro ρ' H' c' W E s i;obtain⟨xs,q,r⟩:=h ρ' H' c' W E s;refine⟨λd hd=>?_,λe=>⟨xs,q,by rw[r.length];exact ajp e.symm⟩⟩
 obtain⟨x,hx,rx⟩:=r.get hd;refine⟨⟨xs,x,q,hx⟩,λy H2 hy=>?_⟩
 obtain⟨rfl,hy⟩:=hy;have:=hy xs q;rw[hx]at this;cases this;exact⟨W,Ext.refl,rx⟩
theorem aah{l:List D}{a:Ω}{st:aa->Prop}(h:∀ρ' H' c',Wd K ρ' H' c'->Ext ρ H ρ' H'->st c'->∃xs,dg K H' a xs/\aN K ρ' H' l xs):JS K ρ H ⟨l,st⟩ (Gb K a):=by
 intro ρ' H' c' W E s i;obtain⟨xs,q,r⟩:=h ρ' H' c' W E s;refine⟨λd hd=>?_,λe=>⟨xs,q,by rw[r.length];exact ajp e.symm⟩⟩
 obtain⟨x,hx,rx⟩:=r.get hd;refine⟨⟨xs,x,q,hx⟩,λy H2 hy=>?_⟩
 obtain⟨rfl,hy⟩:=hy;have:=hy xs q;rw[hx]at this;cases this;exact⟨W,Ext.refl,rx⟩
theorem AS{lo hi:Int}{i:Nat}{d:D}(h:(bf lo hi)[i]? = ζ d):i<(hi-lo).toNat/\d=.int (lo+i):=by
 unfold bf at h;rw[aiL]at h;cases q:(η (hi-lo).toNat)[i]? with
 |none=>rw[q]at h;cases h
 |some j =>
  rw[q]at h;have h1:=(aix.mp q);obtain⟨h2,h3⟩:=h1;rw[akf]at h3;subst h3;cases h;exact⟨by simpa using h2,rfl⟩
theorem J9{lo hi:Int}{st:aa->Prop}:JS K ρ H ⟨bf lo hi,st⟩ (vI lo (hi-lo).toNat):=by
 intro ρ' H' c' W E s i;refine⟨λd hd=>?_,λe=>?_⟩
 ·obtain⟨h1,rfl⟩:=AS hd;refine⟨h1,λx H2 hy=>?_⟩
  obtain⟨rfl,rfl⟩:=hy;exact⟨W,Ext.refl,rfl⟩
 ·have:(bf lo hi).length=(hi-lo).toNat:=by simp[bf]
  show(hi-lo).toNat<=i;rw[e];exact ajp this.symm
theorem mZ{l:π}{dl:af}(hl:aV X l dl):PId X tg l (c9 dl):=(Uz hl).imp λσ H Q h=>by
 obtain⟨ρ,e,c,W,V,p⟩:=h;refine⟨ρ,e,c,W,V,post.bind p λx c1 aJ H1 v _ W1 X1 r1 p1=>?_⟩
 cases x with
 |lst l =>
  obtain⟨a,xs,rfl,s,rs⟩:=r1;exact⟨a,rfl,⟨xs,bJ.of s.1⟩,p1.here W1 (CZ λρ' H' c' W' E _=>⟨xs,bJ.of (Bu E s).1,aN.mono W1 E _ _ rs⟩)⟩
 |cE l =>
  obtain⟨a,rfl,s⟩:=r1;exact⟨a,rfl,⟨_,s.sql⟩,p1.here W1 (CZ λρ' H' c' W' E _=>⟨_,(Hl E s).sql,aN.ints⟩)⟩
 |ref k =>
  obtain⟨a,rfl,ha⟩:=r1;dsimp only at p1;split at p1
  ·rename_i l hl;obtain⟨_,xs,hx,rs⟩:=W1.fR k a _ ha hl;refine⟨a,rfl,⟨xs,bJ.of hx⟩,p1.here W1 (CZ λρ' H' c' W' E st=>?_)⟩
   obtain⟨_,ys,hy,rs'⟩:=W'.fR k a _ (E.pre k a ha) st;exact⟨ys,bJ.of hy,rs'⟩
  ·exact p1.elim
 |_=>exact p1.elim
theorem qZ{l:π}{dl:af}(hl:aV X l dl):PId X tg l (c8 dl):=(Uv hl).imp λσ H Q h=>by
 obtain⟨ρ,e,c,W,V,p⟩:=h;refine⟨ρ,e,c,W,V,post.bind p λx c1 aJ H1 v _ W1 X1 r1 p1=>?_⟩
 cases x with
 |tup l =>
  obtain⟨a,xs,rfl,s,rs⟩:=r1;exact⟨a,rfl,⟨xs,dg.of s⟩,p1.here W1 (aah λρ' H' c' W' E _=>⟨xs,dg.of (GQ W1 E s),aN.mono W1 E _ _ rs⟩)⟩
 |_=>exact p1.elim
theorem dB{a:π}{da:aj}{p pos:Pos}(ha:eH X [a] da) (hm:X.mg "range"=θ) (hg:Gl X "range":=by rfl) (hs:μ [a] X.env=[(Ψ,eval a X.env)]:=by exact tH rfl):PId X tg (.Call (.Name "range" p) [a] [] pos) (bh da) :=
 (Uy hg hm ha hs).imp λσ H Q h=>by
  obtain⟨ρ,e,c,W,V,p⟩:=h;refine⟨ρ,e,c,W,V,post.bind p λx c1 aJ H1 v _ W1 X1 r1 p1=>?_⟩
  split at p1
  ·rename_i j _;split at p1
   ·rename_i hj;obtain⟨y,ys,rfl,ry,rs⟩:=r1;cases ry;cases rs;refine⟨j,rfl,hj.1,hj.2,p1.here W1 ?_⟩;have:=J9 (K:=X.K) (ρ:=aJ) (H:=H1) (lo:=0) (hi:=j) (st:=λ_=>True)
    rw[Int.sub_zero]at this;exact this
   ·exact p1.elim
  ·exact p1.elim
theorem Ku{a b:π}{da:aj}{p pos:Pos}(ha:eH X [a,b] da) (hm:X.mg "range"=θ) (hg:Gl X "range":=by rfl) (hs:μ [a,b] X.env=[(Ψ,eval a X.env),(Ψ,eval b X.env)]:=by exact Qq rfl rfl) (hs2:μ [b] X.env=[(Ψ,eval b X.env)]:=by exact tH rfl):PId X tg (.Call (.Name "range" p) [a,b] [] pos) (nj da) :=
 (Ux hg hm ha hs hs2).imp λσ H Q h=>by
  obtain⟨ρ,e,c,W,V,p⟩:=h;refine⟨ρ,e,c,W,V,post.bind p λx c1 aJ H1 v _ W1 X1 r1 p1=>?_⟩
  split at p1
  ·rename_i i j _;split at p1
   ·rename_i hj;obtain⟨y,ys,rfl,ry,z,zs,rfl,rz,rs⟩:=r1;cases ry;cases rz;cases rs;exact⟨i,j,rfl,hj,p1.here W1 J9⟩
   ·exact p1.elim
  ·exact p1.elim
open Classical in
def cO(st:aa->Prop) (g:Gd) (b:ah):List D->ah
 |[],e,c=>if st c then .ok (.nx e) c else .bad
 |x::xs,e,c=>if st c then(g x e c).bind λe c=>(b e c).bind λf c=>match f with
   |.nx e=>cO st g b xs e c
   |.ct e=>cO st g b xs e c
   |.bk e=>.ok (.nx e) c
   |.rt d=>.ok (.rt d) c
  else .bad
def cz(s:Ev->aa->R Src) (g:Gd) (b:ah):ah:=λe c=>(s e c).bind λs c=>cO s.stays g b s.items e c
theorem fE{iter:π}{body:List aaM}{ds:Ev->aa->R Src}{g:Gd}{db:ah}{pos:Pos}(hi:PId X tg iter ds) (hg:pF X tg g) (hb:bY X body db) (hp:abH (model X.prog X.w) X.A X.env X.xe:=by exact PassesOwn.never) (hc:X.calm=Θ:=by rfl)
  (hs:∀x,foldedSetIterable iter X.env x=pure x:=by intro _;rfl):jE X (.For tg iter body [] pos) (cz ds g db):=(Tc hp hc hi hg hb hs).imp λZ σ H h=>by
 obtain⟨ρ,e,c,W,V,p⟩:=h;refine⟨ρ,e,c,W,V,post.bind p λs c1 aJ H1 J _ W1 X1 j1 p1=>?_⟩
 refine⟨λi m σ H=>∃ρ e c,Wd X.K ρ H c/\Ext aJ H1 ρ H/\cU X.K ρ H e σ/\i<=s.items.length/\m=s.items.length-i/\post X.K (iG X.K) (cO s.stays g db (s.items.drop i) e c) ρ H (En Z),
  ⟨_,aJ,e,c1,W1,Ext.refl,V.mono W X1,ajk _,rfl,p1⟩,?_⟩
 rintro i m σ2 H2 ⟨cy,e2,c2,W2,X2,V2,hi2,rfl,p2⟩
 by_cases hl:i<s.items.length
 ·rw[akF hl]at p2;unfold cO at p2;split at p2
  ·rename_i hst;obtain⟨go,yl⟩:=(j1 cy H2 c2 W2 X2 hst i).1 _ (ait hl);refine .inr ⟨go,λσ' H'=>∃ρ e c,Wd X.K ρ H' c/\Ext aJ H1 ρ H'/\cU X.K ρ H' e σ'/\i+1<=s.items.length/\post X.K (iG X.K) (cO s.stays g db (s.items.drop (i+1)) e c) ρ H' (En Z),?_,λx H3 hy=>?_⟩
   ·rintro σ' H' ⟨ρ,e,c,w,x,v,l,q⟩
    exact⟨s.items.length-(i+1),by omega,ρ,e,c,w,x,v,l,rfl,q⟩
   ·obtain⟨W3,X3,r3⟩:=yl x H3 hy;refine⟨cy,_,e2,c2,W3,V2.mono W2 X3,r3,post.bind (post.ext p2 X3) λe4 c4 nG H4 Od _ W4 X4 V4 p4=>?_⟩
    refine⟨nG,e4,c4,W4,V4,post.bind p4 λf c5 iJ H5 b _ W5 X5 r5 p5=>?_⟩
    have vB:=((X2.trans X3).trans X4).trans X5;cases f with
    |nx e1=>obtain⟨σ1,rfl,V1⟩:=r5;exact⟨iJ,e1,c5,W5,vB,V1,hl,p5⟩
    |ct e1=>obtain⟨σ1,rfl,V1⟩:=r5;exact⟨iJ,e1,c5,W5,vB,V1,hl,p5⟩
    |bk e1=>obtain⟨σ1,rfl,V1⟩:=r5;exact post.here (Q:=En Z) (show post X.K (iG X.K) (.ok (Fl.nx e1) c5) iJ H5 (En Z)from p5) W5 ⟨_,rfl,V1⟩
    |rt d=>obtain⟨v,rfl,V1⟩:=r5;exact post.here (Q:=En Z) (show post X.K (iG X.K) (.ok (Fl.rt d) c5) iJ H5 (En Z)from p5) W5 ⟨_,rfl,V1⟩
  ·exact p2.elim
 ·obtain rfl:i=s.items.length:=by omega
  rw[al5 (aij _)]at p2;unfold cO at p2;split at p2
  ·rename_i hst;exact .inl ⟨(j1 cy H2 c2 W2 X2 hst _).2 rfl,post.here (Q:=En Z) p2 W2 ⟨σ2,rfl,V2⟩⟩
  ·exact p2.elim
def gh(t:ai) (b:ah):Nat->ah
 |0,_,_=>.bad
 |n+1,e,c=>(t e c).bind λk c=>if k=Θ then(b e c).bind λf c=>match f with
   |.nx e=>gh t b n e c
   |.ct e=>gh t b n e c
   |.bk e=>.ok (.nx e) c
   |.rt d=>.ok (.rt d) c
  else .ok (.nx e) c
theorem Hx{n:Nat}{c':π}{body:List aaM}{dt:ai}{db:ah}{pos:Pos}(ht:gZ X c' dt) (hb:bY X body db) (hp:abH (model X.prog X.w) X.A X.env X.xe:=by exact PassesOwn.never):jE X (.While c' body [] pos) (gh dt db n):=(S4 hp ht hb).imp λZ σ H h=>by
 obtain⟨ρ,e,c,W,V,p⟩:=h;refine⟨λm σ H=>∃ρ e c,Wd X.K ρ H c/\cU X.K ρ H e σ/\post X.K (iG X.K) (gh dt db m e c) ρ H (En Z),⟨n,ρ,e,c,W,V,p⟩,?_⟩
 rintro m σ2 H2 ⟨cy,e2,c2,W2,V2,p2⟩
 cases m with
 |zero=>exact p2.elim
 |succ m =>
  unfold gh at p2;refine⟨cy,e2,c2,W2,V2,post.bind p2 λk c3 nH H3 b _ W3 X3 r3 p3=>?_⟩
  cases r3;cases k with
  |true =>
   refine jP ⟨λσ H=>∃ρ e c,Wd X.K ρ H c/\cU X.K ρ H e σ/\post X.K (iG X.K) (gh dt db m e c) ρ H (En Z),λσ' H' q=>⟨m,ajf _,q⟩,?_⟩
   refine⟨nH,e2,c3,W3,V2.mono W2 X3,post.bind p3 λf c5 iJ H5 b _ W5 X5 r5 p5=>?_⟩
   cases f with
   |nx e1=>obtain⟨σ1,rfl,V1⟩:=r5;exact⟨iJ,e1,c5,W5,V1,p5⟩
   |ct e1=>obtain⟨σ1,rfl,V1⟩:=r5;exact⟨iJ,e1,c5,W5,V1,p5⟩
   |bk e1=>obtain⟨σ1,rfl,V1⟩:=r5;exact post.here (Q:=En Z) (show post X.K (iG X.K) (.ok (Fl.nx e1) c5) iJ H5 (En Z)from p5) W5 ⟨_,rfl,V1⟩
   |rt d=>obtain⟨v,rfl,V1⟩:=r5;exact post.here (Q:=En Z) (show post X.K (iG X.K) (.ok (Fl.rt d) c5) iJ H5 (En Z)from p5) W5 ⟨_,rfl,V1⟩
  |false=>exact jQ (post.here (Q:=En Z) (show post X.K (iG X.K) (.ok (Fl.nx e2) c3) nH H3 (En Z)from p3) W3 ⟨_,rfl,V2.mono W2 X3⟩)
end
def cV(pick:List (Option Nat)) (e:Ev):Ev:=pick.map λo=>o.bind λj=>(e[j]?).bind id
open Classical in
def bR(st:aa->Prop) (g:Gd) (t:ai) (el:af):List D->Ev->List D->aa->R (List D)
 |[],e,acc,c=>if st c then .ok acc c else .bad
 |x::xs,e,acc,c=>if st c then(g x e c).bind λe c=>(t e c).bind λk c=>if k=Θ then(el e c).bind λy c=>bR st g t el xs e (acc++[y]) c else bR st g t el xs e acc c else .bad
def aW(s:Ev->aa->R Src) (pick:List (Option Nat)) (g:Gd) (t:ai) (el:af):af:=λe c=>(s e c).bind λs c =>
 if s.items.length<ι then(bR s.stays g t el s.items (cV pick e) [] c).bind λl c=>.ok (.lst l) c else .bad
def aO:ai:=λ_ c=>.ok Θ c
abbrev F6(X:Cx) (ifs:List π) (t:ai):Prop:=sL X ifs (tD X.K (λ_ _ a b=>a=b) t)
section
variable {X:Cx}{N':List Str}{pick:List (Option Nat)}{scope:aa5}{tg elt iter:π}{ifs:List π}{pos:Pos}{ds:Ev->aa->R Src}{g:Gd}{dt:ai}{de:af}
theorem dJ:F6 X [] aO:=λpins s σ H Q I h=>by
 obtain⟨ρ,e,c,W,V,p⟩:=h;exact Ut pins s σ H Q I (post.here (b:=Θ) p W rfl)
theorem Uu{c':π}(h:gZ X c' dt):F6 X [c'] dt:=Us h
theorem cU.picked{K:Δ}{ρ:List Ω}{H:Hp}{e:Ev}{σ:St}(V:cU K ρ H e σ):cU K ρ H (cV pick e) (kc pick σ):=by
 refine⟨λi d h=>?_,by simp[cV,kc]⟩
 unfold cV at h;unfold kc;rw[aiL]at h ⊢;cases q:pick[i]? with
 |none=>rw[q]at h;cases h
 |some o =>
  rw[q]at h;cases o with
  |none=>cases h
  |some j =>
   have h':(e[j]?).bind id=ζ d:=aiH h;cases q2:e[j]? with
   |none=>rw[q2]at h';cases h'
   |some z =>
    rw[q2]at h';have h'':z=ζ d:=h';subst h'';obtain⟨v,hv,r⟩:=V.get j d q2;exact⟨v,by simp[hv],r⟩
theorem aeI{K:Δ}{aJ:List Ω}{H1:Hp}{c1:aa}{e:Ev}{σ:St}{s:Src}{J:It}{Q:VK}(W1:Wd K aJ H1 c1) (V1:cU K aJ H1 e σ) (j1:JS K aJ H1 s J) (hn:s.items.length<ι)
  (p1:post K (Rel K) ((bR s.stays g dt de s.items e [] c1).bind λl c=>.ok (.lst l) c) aJ H1 Q):Oa J (Av K g) (tD K (λ_ _ a b=>a=b) dt) (tD K (Rel K) de) Q σ H1:=by
 refine⟨λi m σ ys H=>∃ρ e acc c,Wd K ρ H c/\Ext aJ H1 ρ H/\cU K ρ H e σ/\aN K ρ H acc ys/\acc.length<=i/\i<=s.items.length/\m=s.items.length-i/\post K (Rel K) ((bR s.stays g dt de (s.items.drop i) e acc c).bind λl c=>.ok (.lst l) c) ρ H Q,
  ⟨_,aJ,e,[],c1,W1,Ext.refl,V1,rfl,aij _,ajk _,rfl,p1⟩,?_⟩
 rintro i m σ2 ys H2 ⟨cy,e2,acc,c2,W2,X2,V2,r2,ha,hi2,rfl,p2⟩
 refine⟨by rw[r2.length];omega,?_⟩
 by_cases hl:i<s.items.length
 ·rw[akF hl]at p2;unfold bR at p2;split at p2
  ·rename_i hst;obtain⟨go,yl⟩:=(j1 cy H2 c2 W2 X2 hst i).1 _ (ait hl);refine .inr ⟨go,λσ' ys' H'=>∃ρ e acc c,Wd K ρ H' c/\Ext aJ H1 ρ H'/\cU K ρ H' e σ'/\aN K ρ H' acc ys'/\acc.length<=i+1/\i+1<=s.items.length/\post K (Rel K) ((bR s.stays g dt de (s.items.drop (i+1)) e acc c).bind λl c=>.ok (.lst l) c) ρ H' Q,?_,λx H3 hy=>?_⟩
   ·rintro σ' ys' H' ⟨ρ,e,acc,c,w,x,v,r,a,l,q⟩
    exact⟨s.items.length-(i+1),by omega,ρ,e,acc,c,w,x,v,r,a,l,rfl,q⟩
   ·obtain⟨W3,X3,r3⟩:=yl x H3 hy;have assoc:∀{α β γ:Type}(r:R α) (f:α->aa->R β) (g:β->aa->R γ),(r.bind f).bind g=r.bind λa c=>(f a c).bind g:=λr f g=>by cases r<;>rfl
    rw[assoc]at p2;refine⟨cy,_,e2,c2,W3,V2.mono W2 X3,r3,post.bind (post.ext p2 X3) λe4 c4 nG H4 Od _ W4 X4 V4 p4=>?_⟩
    rw[assoc]at p4;refine⟨nG,e4,c4,W4,V4,post.bind p4 λk c5 iJ H5 b _ W5 X5 r5 p5=>?_⟩
    cases r5;have vB:=((X2.trans X3).trans X4).trans X5;have HP:=aN.mono W2 ((X3.trans X4).trans X5) _ _ r2;cases k with
    |true =>
     refine jP ?_;rw[if_pos rfl,assoc]at p5;refine⟨iJ,e4,c5,W5,V4.mono W4 X5,post.bind p5 λy c6 Oe H6 v _ W6 X6 r6 p6=>?_⟩
     refine⟨Oe,e4,acc++[y],c6,W6,vB.trans X6,(V4.mono W4 X5).mono W5 X6,(aN.mono W5 X6 _ _ HP).append ⟨v,[],rfl,r6,rfl⟩,by simp;exact ha,hl,p6⟩
    |false =>
     refine jQ ?_;rw[if_neg aiD]at p5;exact⟨iJ,e4,acc,c5,W5,vB,V4.mono W4 X5,HP,Nat.le_succ_of_le ha,hl,p5⟩
  ·exact p2.elim
 ·obtain rfl:i=s.items.length:=by omega
  rw[al5 (aij _)]at p2;unfold bR at p2;split at p2
  ·rename_i hst;exact .inl ⟨(j1 cy H2 c2 W2 X2 hst _).2 rfl,nW W2 r2 p2⟩
  ·exact p2.elim
theorem aeH{σ:St}{H:Hp}{Q:VK}{K:Δ}(h:tD K (Rel K) (aW ds pick g dt de) σ H Q):G3 (G2 K ds) pick (Av K g) (tD K (λ_ _ a b=>a=b) dt) (tD K (Rel K) de) σ H Q:=by
 obtain⟨ρ,e,c,W,V,p⟩:=h;refine⟨ρ,e,c,W,V,post.bind p λs c1 aJ H1 J _ W1 X1 j1 p1=>?_⟩
 split at p1
 ·rename_i hn;exact aeI W1 (V.mono W X1).picked j1 hn p1
 ·exact p1.elim
theorem dw(S:cB X N' pick scope) (hit:PId X tg iter ds)
  (hg:∀cl C s₀ H₀ ex pn,pF (gT X N' scope cl C s₀ H₀ ex pn) tg g) (hi:∀cl C s₀ H₀ ex pn,F6 (gT X N' scope cl C s₀ H₀ ex pn) ifs dt) (he:∀cl C s₀ H₀ ex pn,aV (gT X N' scope cl C s₀ H₀ ex pn) elt de)
  (hc:X.calm=Θ:=by rfl) (hs:∀x,foldedSetIterable iter X.env x=pure x:=by intro _;rfl) :
  aV X (.ListComp elt [⟨tg,iter,ifs,0⟩] scope pos) (aW ds pick g dt de):=(UX S hc hit hg hi he hs).imp λσ H Q h=>aeH h
end
def b7(K:Δ) (n:Nat) (m:List D->aa->R D):Sp:=λvs H Q _=>∃ρ xs c,Wd K ρ H c/\aN K ρ H xs vs/\xs.length=n/\post K (Rel K) (m xs c) ρ H Q
def aA(n:Nat) (m:List D->aa->R D) (a:aj):af:=λe c=>(a e c).bind λxs c=>if xs.length=n then m xs c else .bad
def cD(n:Nat) (xs:List D):Ev:=xs.map ζ++ν (n-xs.length) θ
def eF(own:Bool) (n:Nat) (v:D) (c:aa):R D:=match v with
 |.ref k=>match c[k]? with
  |some (.lst l)=>if n<=k then(if own=Θ then .ok (.ref n) (c.take n++[.lst l])else .ok (.lst l) (c.take n))else .bad
  |none=>.bad
 |v=>if noRef v=Θ then .ok v (c.take n)else .bad
def bU(n:Nat) (own:Bool) (d:ah):List D->aa->R D:=λxs c=>(d (cD n xs) c).bind λf c'=>match f with
 |.rt v=>eF own c.length v c'
 |.nx _=>eF own c.length .aM c'
 |_=>.bad
section
variable {P:τ}{w:ψ}{K:Δ}{mg:Str->Option Ξ}{base:χ}
theorem ze{own:Bool}{ρ aJ:List Ω}{H H1:Hp}{c c1:aa}{v:D}{x:V}{Q:VK}(W:Wd K ρ H c) (W1:Wd K aJ H1 c1) (X1:Ext ρ H aJ H1) (r:Rel K aJ H1 v x) (p:post K (Rel K) (eF own c.length v c1) ρ H Q):Q x H1:=by
 have hn:=Ext.len W W1 X1;have Wc:=W1.cut hn;have Xc:=X1.cut (n:=c.length) (ajp W.len);unfold eF at p;split at p
 ·rename_i k;split at p
  ·rename_i l hl;split at p
   ·rename_i hk;obtain⟨a,rfl,ha⟩:=r;obtain⟨nr,xs,hx,rl⟩:=W1.fR k a _ ha hl;have na:a∉aJ.take c.length:=by
     intro h;obtain⟨j,hj,e⟩:=akD.mp h;have hj2:j<c.length:=by simp at hj;omega
     rw[akG]at e;have hk1:=aix.mp ha;have hjl:j<aJ.length:=by simp at hj;omega
     have:=(akr W1.nd (h₀:=hjl) (h₁:=hk1.1)).mp (e.trans hk1.2.symm);omega
    have sub:∀b,b∈aJ.take c.length->b∈aJ:=λb h=>aiQ h
    split at p
    ·have lr:(aJ.take c.length).length=c.length:=by simp[W1.len];omega
     refine p (aJ.take c.length++[a]) H1 (.ref a) ?_ ?_ ⟨a,rfl,?_⟩
     ·refine⟨?_,by simp[W1.len],λj b cl e1 e2=>?_,W1.tab⟩
      ·rw[ajJ];refine⟨Wc.nd,by simp,?_⟩
       intro y hy z hz;rw[aiV]at hz;subst hz;exact λq=>na (q▸hy)
      ·by_cases hj:j<c.length
       ·rw[ai2 (by rw[lr];exact hj)]at e1
        rw[ai2 (by simp;omega)]at e2
        have q:=Wc.fR j b cl e1 e2;cases cl with
        |lst l' =>
         obtain⟨qP,ys,hy,r'⟩:=q;refine⟨qP,ys,hy,aN.low (ρ:=aJ) (λz hz=>?_) l' ys qP ?_⟩
         ·rcases aiK.mp hz with hz|hz
          ·exact sub z hz
          ·rw[aiV]at hz;subst hz;exact aiP ha
         ·have Ep:aJ[j]? = ζ b:=by rw[akd,if_pos hj]at e1;exact e1
          have e2':c1[j]? = ζ (.lst l'):=by rw[akd,if_pos hj]at e2;exact e2
          obtain⟨_,zs,hz,rz⟩:=W1.fR j b _ Ep e2';rw[hy]at hz;cases hz;exact rz
       ·have hj':j=c.length:=by
         have:=(aix.mp e1).1;rw[ai3,lr]at this;simp at this;omega
        subst hj';rw[ajd (by rw[lr];exact aij _),lr,ajA]at e1
        rw[ajd (by simp;omega),show c.length-(List.take c.length c1).length=0 by simp;omega]at e2
        cases e1;cases e2;refine⟨nr,xs,hx,aN.low (ρ:=aJ) (λz hz=>?_) l xs nr rl⟩
        rcases aiK.mp hz with hz|hz
        ·exact sub z hz
        ·rw[aiV]at hz;subst hz;exact aiP ha
     ·refine⟨λj b e=>?_,λb o e z t=>?_⟩
      ·have q:=Xc.pre j b e;rw[ai2 (aix.mp q).1];exact q
      ·obtain⟨h1,h2⟩:=X1.keep b o e z t;refine⟨h1,λq=>h2 ?_⟩
       rcases aiK.mp q with q|q
       ·exact sub b q
       ·rw[aiV]at q;subst q;exact aiP ha
     ·rw[ajd (by rw[lr];exact aij _),lr,ajA];rfl
    ·exact p (aJ.take c.length) H1 (.ref a) Wc Xc ⟨a,xs,rfl,⟨hx,na⟩,aN.low sub l xs nr rl⟩
   ·exact p.elim
  ·exact p.elim
 ·split at p
  ·rename_i hv;exact p _ H1 x Wc Xc (Rel.low (λb h=>aiQ h) _ _ hv r)
  ·exact p.elim
theorem cU.start{ρ:List Ω}{H:Hp}{xs:List D}{vs:List V}{N:List Str}(r:aN K ρ H xs vs):cU K ρ H (cD N.length xs) (start N vs):=by
 have hl:=r.length;refine⟨λi d h=>?_,by simp[cD,L2.start,hl]⟩
 unfold cD at h;unfold L2.start
 by_cases hi:i<xs.length
 ·rw[ai2 (by simpa using hi),aiL]at h
  cases q:xs[i]? with
  |none=>rw[q]at h;cases h
  |some x =>
   rw[q]at h;cases h;obtain⟨v,hv,rv⟩:=r.get q;exact⟨v,by rw[ai2 (by simp[hl];exact hi),aiL,hv];rfl,rv⟩
 ·rw[ajd (by simpa using al3 hi)]at h
  have:=aiP h;rw[List.mem_replicate]at this;cases this.2
theorem cN{x qual:Str}{st:aaM}{f:Ω}{fd:ο}{N ps:List Str}{k n m:Nat}{own:Bool}{d:ah}(F:j5 K x qual st f fd) (S:b6 N ps (aR st)) (hN:N.length=n) (hm:ps.length=m)
  (hb:∀(cdv:Ξ) (A:ω) (outer:List Env) (s:ε) (H:Hp) (E:XK),dG k (A.deeper (envOfC qual (aR st) s.heap.objs.size f cdv))->bY (fu bS P w K mg base N qual (aR st) f cdv A outer s H E).fH (bZ st) d) :
  bK P w K mg base bS (k+1) f fd ps (b7 K m (bU n own d)):=by
 subst hN;subst hm;refine F.ok S (λvs H Q E h=>?_) (λcdv A outer s H vs Q E hr h=>⟨_,hb cdv A outer s H E hr,?_⟩)
 ·obtain⟨ρ,xs,c,W,r,hl,p⟩:=h;exact r.length.trans hl
 ·obtain⟨ρ,xs,c,W,r,hl,p⟩:=h;refine⟨ρ,cD N.length xs,c,W,cU.start r,post.bind p λfl c1 aJ H1 b _ W1 X1 r1 p1=>?_⟩
  cases fl with
  |nx e1 =>
   obtain⟨σ1,rfl,V1⟩:=r1;exact ze (v:=.aM) (x:=.aM) (H1:=H1) W W1 X1 rfl (by
    unfold bU at p;exact id (α:=post K (Rel K) (eF own c.length .aM c1) ρ H Q) (by
     rename_i he;rw[he]at p;exact p))
  |rt d =>
   obtain⟨v,rfl,V1⟩:=r1;exact ze (v:=d) (x:=v) (H1:=H1) W W1 X1 V1 (by
    unfold bU at p;rename_i he;rw[he]at p;exact p)
  |bk e1=>exact p1.elim
  |ct e1=>exact p1.elim
end
section
variable {X:Cx}
theorem bu{x:Str}{st:aaM}{ps:List Str}{f:Ω}{fd:ο}{k n:Nat}{m:List D->aa->R D}{e:π}{es:List π}{da:aj}{p pos:Pos}(D:Def X.K X.mg x st ps f fd) (G:bK X.prog X.w X.K X.mg X.base bS k f fd ps (b7 X.K n m)) (hr:dG k X.A) (ha:eH X (e::es) da) (hg:Gl X x:=by rfl)
  (hdb:(x==("__debug__":Str))=Ψ:=by decide) (he:μ (e::es) X.env=(Ψ,eval e X.env)::μ es X.env:=by exact bT rfl) (hpl:(aaQ pos (μ es X.env)).any (·.1)=Ψ:=by exact eB rfl) :
  aV X (.Call (.Name x p) (e::es) [] pos) (aA n m da):=(UW D G hr ha hg hdb he hpl).imp λσ H Q h=>by
 obtain⟨ρ,e,c,W,V,q⟩:=h;refine⟨ρ,e,c,W,V,post.bind q λxs c1 aJ H1 vs _ W1 X1 r1 p1=>?_⟩
 split at p1
 ·rename_i hl;exact⟨aJ,xs,c1,W1,by rw[ajv];exact r1,hl,p1⟩
 ·exact p1.elim
theorem bH{id:String}{x:Str}{p pos:Pos}{e:π}{es:List π}{da:aj}{f:List D->aa->R D}(hc:dI X (.builtin id) (rN X.K f)) (hm:X.mg x=θ) (hv:bootBuiltins x=ζ (.builtin id)) (ha:eH X (e::es) da) (hg:Gl X x:=by rfl) (hn:x≠"__name__":=by decide) (hdb:(x==("__debug__":Str))=Ψ:=by decide)
  (he:μ (e::es) X.env=(Ψ,eval e X.env)::μ es X.env:=by exact bT rfl) (hpl:(aaQ pos (μ es X.env)).any (·.1)=Ψ:=by exact eB rfl):aV X (.Call (.Name x p) (e::es) [] pos) (aE f da):=(wN hc hg hm hv ha hn hdb he hpl).imp λσ H Q h=>G0 h
theorem kB{T:String}{x:Str}{p pos:Pos}{e:π}{es:List π}{da:aj}{f:List D->aa->R D}(hc:dI X (.type T) (rN X.K f)) (hm:X.mg x=θ) (hv:bootBuiltins x=ζ (.type T)) (ha:eH X (e::es) da) (hg:Gl X x:=by rfl) (hn:x≠"__name__":=by decide) (hdb:(x==("__debug__":Str))=Ψ:=by decide)
  (he:μ (e::es) X.env=(Ψ,eval e X.env)::μ es X.env:=by exact bT rfl) (hpl:(aaQ pos (μ es X.env)).any (·.1)=Ψ:=by exact eB rfl):aV X (.Call (.Name x p) (e::es) [] pos) (aE f da):=(mO hc hg hm hv ha hn hdb he hpl).imp λσ H Q h=>G0 h
end
def aU:List D->aa->R D:=λxs c=>match xs with
 |[x]=>match fW c x with
  |some l=>.ok (.int l.length) c
  |none=>match x with
   |.str z=>if z.length<=ι then .ok (.int z.length) c else .bad
   |_=>.bad
 |_=>.bad
def GO:D->Option String
 |.aM=>ζ "NoneType"
 |.bl _=>ζ "bool"
 |.int _=>ζ "int"
 |.str _=>ζ "str"
 |.tup _=>ζ "tuple"
 |.lst _=>ζ "list"
 |.ref _=>ζ "list"
 |_=>θ
def bO:List D->aa->R D:=λxs c=>match xs with
 |[.jx,.ty T]=>if T∈["bool","int","str","list","tuple","dict"]then .ok (.bl (tF "dict" T)) c else .bad
 |[x,.ty T]=>match GO x with
  |some n=>if T∈["bool","int","str","list","tuple","dict"]then .ok (.bl (tF n T)) c else .bad
  |none=>.bad
 |_=>.bad
def jC:List D->Option (List Bool)
 |[]=>ζ []
 |.bl b::l=>(jC l).map (b :: ·)
 |_=>θ
def mX:List D->Option (List Int)
 |[]=>ζ []
 |.int i::l=>(mX l).map (i :: ·)
 |_=>θ
theorem MY(l:List Bool):jC (l.map D.bl)=ζ l:=by
 induction l with
 |nil=>rfl
 |cons a l ih=>simp[jC,ih]
theorem C4(l:List Int):mX (l.map D.int)=ζ l:=by
 induction l with
 |nil=>rfl
 |cons a l ih=>simp[mX,ih]
theorem zF:∀{l:List D}{bs:List Bool},jC l=ζ bs->l=bs.map D.bl
 |[],bs,h=>by cases h;rfl
 |d::l,bs,h=>by
  cases d with
  |bl b =>
   unfold jC at h;cases q:jC l with
   |none=>rw[q]at h;cases h
   |some r=>rw[q]at h;cases h;rw[zF q];rfl
  |_=>cases h
theorem Kp:∀{l:List D}{bs:List Int},mX l=ζ bs->l=bs.map D.int
 |[],bs,h=>by cases h;rfl
 |d::l,bs,h=>by
  cases d with
  |int b =>
   unfold mX at h;cases q:mX l with
   |none=>rw[q]at h;cases h
   |some r=>rw[q]at h;cases h;rw[Kp q];rfl
  |_=>cases h
def wJ(f:List Bool->Bool):List D->aa->R D:=λxs c=>match xs with
 |[.lst l]=>match jC l with
  |some bs=>.ok (.bl (f bs)) c
  |none=>.bad
 |_=>.bad
def fh:=wJ λbs=>bs.all id
def mR:List D->aa->R D:=λxs c=>match xs with
 |[.int i,.int j]=>.ok (.int (if j>i then j else i)) c
 |_=>.bad
def uz:List D->aa->R D:=λxs c=>match xs with
 |[.int i,.int j]=>.ok (.int (if j<i then j else i)) c
 |_=>.bad
def cA:List D->aa->R D:=λxs c=>match xs with
 |[x]=>match fW c x with
  |some l=>.ok (.tup l) c
  |none=>.bad
 |_=>.bad
section
variable {X:Cx}{K:Δ}{ρ:List Ω}{H:Hp}{c:aa}
theorem dc:dI X (.builtin "len") (rN X.K aU):=by
 intro pins s σ H vs us Q I rv h;obtain⟨ρ,xs,c,W,rx,p⟩:=h;unfold aU at p;split at p
 ·rename_i x;obtain⟨v,r,rfl,hx,hr⟩:=rx;cases hr;split at p
  ·rename_i l hl;obtain⟨a,ys,rfl,sq,r⟩:=AI W hx hl;exact ae6 pins s σ H _ us Q I rv ⟨a,ys,rfl,sq,by rw[r.length];exact p.here W rfl⟩
  ·split at p
   ·split at p
    ·rename_i hz;cases hx;exact ae5 pins s σ H _ us Q I rv ⟨_,rfl,hz,p.here W rfl⟩
    ·exact p.elim
   ·exact p.elim
 ·exact p.elim
theorem O4{x:D}{v:V}{n:String}(W:Wd K ρ H c) (rx:Rel K ρ H x v) (h:GO x=ζ n):tyName H v n:=by
 cases x with
 |aM=>cases rx;cases h;exact rfl
 |bl b=>cases rx;cases h;exact rfl
 |int b=>cases rx;cases h;exact rfl
 |str b=>cases rx;cases h;exact rfl
 |tup l=>obtain⟨a,xs,rfl,s,r⟩:=rx;cases h;exact .inr (.inl ⟨rfl,xs,s⟩)
 |lst l=>obtain⟨a,xs,rfl,s,r⟩:=rx;cases h;exact .inl ⟨rfl,.inl ⟨xs,s.1⟩⟩
 |ref k =>
  obtain⟨a,rfl,s⟩:=rx;cases h;obtain⟨xs,e⟩:=W.at' (aiP s);exact .inl ⟨rfl,.inl ⟨xs,e⟩⟩
 |_=>cases h
theorem vg:dI X (.builtin "isinstance") (rN X.K bO):=by
 intro pins s σ H vs us Q I rv h;obtain⟨ρ,xs,c,W,rx,p⟩:=h;unfold bO at p;split at p
 ·split at p
  ·rename_i hT;obtain⟨v,r,rfl,⟨a,rfl,hH⟩,u,r',rfl,hu,hr⟩:=rx;cases hr;cases hu;obtain⟨u1,u2,rfl,r1,r2⟩:=Vals.two rv;cases r1;cases r2;obtain⟨hp,_,_⟩:=I.hok a _ hH;exact ai6 ak5 I.dU hp (J4 (n:="dict") (by simp) hT) (λz=>nomatch z) λtk=>⟨.bl _,H,I.tok _,rfl,p.here W rfl⟩
  ·exact p.elim
 ·split at p
  ·rename_i n hn;split at p
   ·rename_i hT;obtain⟨v,r,rfl,hx,u,r',rfl,hu,hr⟩:=rx;cases hr;cases hu;exact ae7 pins s σ H _ us Q I rv ⟨v,n,_,rfl,O4 W hx hn,hT,p.here W rfl⟩
   ·exact p.elim
  ·exact p.elim
 ·exact p.elim
theorem vh(hc:X.calm=Θ:=by rfl):dI X (.builtin "all") (rN X.K fh):=by
 intro pins s σ H vs us Q I rv h;obtain⟨ρ,xs,c,W,rx,p⟩:=h;unfold fh wJ at p;split at p
 ·split at p
  ·rename_i bs hb;obtain⟨v,r,rfl,⟨a,ys,rfl,s1,r1⟩,hr⟩:=rx;cases hr;rw[zF hb]at r1;cases r1.MX;exact ae9 hc pins s σ H _ us Q I rv ⟨a,bs,rfl,bJ.of s1.1,p.here W rfl⟩
  ·exact p.elim
 ·exact p.elim
theorem Mr(hc:X.calm=Θ:=by rfl):dI X (.builtin "max") (rN X.K mR):=by
 intro pins s σ H vs us Q I rv h;obtain⟨ρ,xs,c,W,rx,p⟩:=h;unfold mR at p;split at p
 ·obtain⟨v,r,rfl,hx,u,r',rfl,hu,hr⟩:=rx;cases hr;cases hx;cases hu;exact ae4 hc pins s σ H _ us Q I rv ⟨_,_,rfl,p.here W rfl⟩
 ·exact p.elim
theorem aeR(hc:X.calm=Θ:=by rfl):dI X (.builtin "min") (rN X.K uz):=by
 intro pins s σ H vs us Q I rv h;obtain⟨ρ,xs,c,W,rx,p⟩:=h;unfold uz at p;split at p
 ·obtain⟨v,r,rfl,hx,u,r',rfl,hu,hr⟩:=rx;cases hr;cases hx;cases hu;exact ae3 hc pins s σ H _ us Q I rv ⟨_,_,rfl,p.here W rfl⟩
 ·exact p.elim
theorem kW:dI X (.type "tuple") (rN X.K cA):=by
 intro pins s σ H vs us Q I rv h;obtain⟨ρ,xs,c,W,rx,p⟩:=h;unfold cA at p;split at p
 ·rename_i x;obtain⟨v,r,rfl,hx,hr⟩:=rx;cases hr;split at p
  ·rename_i l hl;obtain⟨a,ys,rfl,sq,r⟩:=AI W hx hl;refine ae2 pins s σ H _ us Q I rv ⟨a,ys,rfl,?_⟩
   rcases sq with sq|sq
   ·exact .inl ⟨sq,Be W r p⟩
   ·refine .inr ⟨sq,?_⟩;cases x with
    |tup m=>cases hl;exact p.here W hx
    |lst m =>
     obtain⟨b,zs,e,s1,_⟩:=hx;cases e;exfalso
     rcases sq with sq|⟨o,its,n,hk,hcl,_⟩
     ·rcases sq with sq|⟨o,sq⟩<;>(rw[s1.1]at sq;cases sq)
     ·have:=I.bs a o (I.ok.mod.mW a o hk);rw[s1.1]at this;cases this.2
    |cE m =>
     exfalso;obtain⟨b,e,s1⟩:=hx;cases e;obtain⟨i1,_,pl,_⟩:=I.list s1.sql;obtain⟨i2,_,pt,_⟩:=I.tuple sq;obtain⟨o1,e1,c1,_⟩:=pl.isList;obtain⟨o2,e2,c2,_⟩:=pt;rw[e1]at e2;cases e2;rw[c1]at c2;exact absurd c2 (by decide)
    |ref k =>
     exfalso;obtain⟨b,e,s1⟩:=hx;cases e;obtain⟨zs,hz⟩:=W.at' (aiP s1)
     rcases sq with sq|⟨o,its,n,hk,hcl,_⟩
     ·rcases sq with sq|⟨o,sq⟩<;>(rw[hz]at sq;cases sq)
     ·have:=I.bs a o (I.ok.mod.mW a o hk);rw[hz]at this;cases this.2
    |_=>cases hl
  ·exact p.elim
 ·exact p.elim
end
def fP(o a:af):af:=λe c=>(o e c).bind λx c=>match x with
 |.ref k=>(a e c).bind λy c=>match c[k]? with
  |some (.lst l)=>if l.length<ι/\noRef y=Θ then .ok .aM (c.set k (.lst (l++[y])))else .bad
  |none=>.bad
 |_=>.bad
theorem ug{X:Cx}{o e:π}{dO da:af}{apos cpos:Pos}(ho:aV X o dO) (ha:aV X e da)
  (hbase:aaZ o "append" X.env (eval o X.env)=eval o X.env:=by rfl)
  (hfew:((aaQ cpos (μ [e] X.env)).all (λx=>!x.1)&&(aa9 cpos (aaU [] X.env)).all (λx=>x.1.isSome)
   && decide ([e].length+([]:List aaW).length+(if([]:List aaW).isEmpty then 0 else 1)<30))=Θ:=by exact tG rfl)
  (hline:(apos.endLine==cpos.line)=Θ:=by rfl) (hs:μ [e] X.env=(Ψ,eval e X.env)::μ [] X.env:=by exact bT rfl) (hplain:(aaQ cpos (μ [] X.env)).any (·.1)=Ψ:=by exact eB rfl) :
  aV X (.Call (.Attribute o "append" apos) [e] [] cpos) (fP dO da) :=
 (uc akg PySem.F.slot_list_append PySem.F.type_list_append Y0 ho (jg ha jf hs) hbase hfew hline hs hplain).imp λσ H Q h=>by
  obtain⟨ρ,e,c,W,V,p⟩:=h;refine⟨ρ,e,c,W,V,post.bind p λx c1 aJ H1 v _ W1 X1 r1 p1=>?_⟩
  cases x with
  |ref k =>
   obtain⟨a,rfl,ha⟩:=r1;obtain⟨xs,hx⟩:=W1.at' (aiP ha);refine⟨.inl ⟨rfl,xs,bJ.of hx⟩,aJ,e,c1,W1,V.mono W X1,post.bind p1 λy c2 cy H2 u _ W2 X2 r2 p2=>?_⟩
   split at p2
   ·rename_i l hl;split at p2
    ·rename_i hh;obtain⟨nr,ys,hy,rl⟩:=W2.fR k a _ (X2.pre k a ha) hl;refine⟨a,ys,u,rfl,rfl,hy,by rw[rl.length];exact hh.1,?_⟩
     refine p2 cy _ .aM (W2.write (X2.pre k a ha) (by rw[uw,nr];simp[bA,hh.2]) (rl.append ⟨u,[],rfl,r2,rfl⟩)) (Ext.write (X2.pre k a ha)) rfl
    ·exact p2.elim
   ·exact p2.elim
  |_=>exact p1.elim
section
variable (e:Ev) (c:aa) (a b d:af) (ta tb:ai) (s t:ah) (l:aj) (g:Gd) (gs:List D->Ev->aa->R Ev)
@[simp] theorem bX(i:Nat):ak i e c=match e[i]? with|some (ζ d)=>.ok d c|_=>.bad:=rfl
@[simp] theorem nJ(d:D):dC d e c=.ok d c:=rfl
@[simp] theorem fj(f:D->D->aa->R D):au f a b e c=(a e c).bind λx c=>(b e c).bind λy c=>f x y c:=rfl
@[simp] theorem fU(f:List D->aa->R D):aE f l e c=(l e c).bind λxs c=>f xs c:=rfl
@[simp] theorem ag4(f g:D->D->aa->R D):oO f g a b d e c=(a e c).bind λx c=>(b e c).bind λy c=>(f x y c).bind λz c=>match z with
 |.bl Θ=>(d e c).bind λu c=>g y u c
 |.bl Ψ=>.ok (.bl Ψ) c
 |_=>.bad:=rfl
@[simp] theorem bG:aq e c=.ok [] c:=rfl
@[simp] theorem bz:ao a l e c=(a e c).bind λx c=>(l e c).bind λxs c=>.ok (x::xs) c:=rfl
@[simp] theorem Aj:bV l e c=(l e c).bind λxs c=>if xs.length<=ι then .ok (.tup xs) c else .bad:=rfl
@[simp] theorem Ak:aY l e c=(l e c).bind λxs c=>if xs.length<=ι then .ok (.lst xs) c else .bad:=rfl
@[simp] theorem OH:eX l e c=(l e c).bind λxs c=>if xs.length<=ι/\bA xs=Θ then .ok (.ref c.length) (c++[.lst xs])else .bad:=rfl
@[simp] theorem j8:aT a e c=(a e c).bind λx c=>match x with|.bl b=>.ok b c|_=>.bad:=rfl
@[simp] theorem ag6:jz ta tb e c=(ta e c).bind λx c=>if x=Θ then tb e c else .ok Ψ c:=rfl
@[simp] theorem Gx:fO ta tb e c=(ta e c).bind λx c=>if x=Θ then .ok Θ c else tb e c:=rfl
@[simp] theorem sU:dQ ta e c=(ta e c).bind λx c=>.ok (!x) c:=rfl
@[simp] theorem pI:gf a b e c=(a e c).bind λx c=>match x with|.bl k=>if k=Θ then b e c else .ok (.bl Ψ) c|_=>.bad:=rfl
@[simp] theorem agN:EL a e c=(a e c).bind λx c=>match x with|.bl k=>.ok (.bl (!k)) c|_=>.bad:=rfl
@[simp] theorem agW:vc ta a b e c=(ta e c).bind λx c=>if x=Θ then a e c else b e c:=rfl
@[simp] theorem x_call(n:Nat) (m:List D->aa->R D):aA n m l e c=(l e c).bind λxs c=>if xs.length=n then m xs c else .bad:=rfl
@[simp] theorem agO:ck e c=.ok (.nx e) c:=rfl
@[simp] theorem ag5:tS e c=.bad:=rfl
@[simp] theorem g9:aD s t e c=(s e c).bind λf c=>match f with|.nx e=>t e c|f=>.ok f c:=rfl
@[simp] theorem j7:aP a e c=(a e c).bind λx c=>.ok (.rt x) c:=rfl
@[simp] theorem mj:dY a e c=(a e c).bind λ_ c=>.ok (.nx e) c:=rfl
@[simp] theorem gO:b8 ta s t e c=(ta e c).bind λx c=>if x=Θ then s e c else t e c:=rfl
@[simp] theorem fT(i:Nat):aF i a e c=(a e c).bind λx c=>.ok (.nx (e.set i (ζ x))) c:=rfl
@[simp] theorem GD:fX a g e c=(a e c).bind λx c=>(g x e c).bind λe c=>.ok (.nx e) c:=rfl
@[simp] theorem OL(i:Nat) (x:D):aB i x e c=.ok (e.set i (ζ x)) c:=rfl
@[simp] theorem agY:gS [] e c=.ok e c:=rfl
@[simp] theorem agZ(x:D) (xs:List D):dF g gs (x::xs) e c=(g x e c).bind λe c=>gs xs e c:=rfl
@[simp] theorem agX(n:Nat) (xs:List D):gH n gs (.tup xs) e c=if xs.length=n then gs xs e c else .bad:=rfl
@[simp] theorem GC(x:D):kN a b x e c=(a e c).bind λo c=>(b e c).bind λi c=>(kg o i x c).bind λ_ c=>.ok e c:=rfl
@[simp] theorem i6(sr:Ev->aa->R Src):cz sr g s e c=(sr e c).bind λq c=>cO q.stays g s q.items e c:=rfl
@[simp] theorem fC(n:Nat) (own:Bool) (xs:List D):bU n own s xs c=(s (cD n xs) c).bind λf c'=>match f with
 |.rt v=>eF own c.length v c'
 |.nx _=>eF own c.length .aM c'
 |_=>.bad:=rfl
@[simp] theorem OA(n:Nat) (xs:List D):cD n xs=xs.map ζ++ν (n-xs.length) θ:=rfl
@[simp] theorem dX(sr:Ev->aa->R Src) (pick:List (Option Nat)):aW sr pick g ta a e c=(sr e c).bind λq c =>
 if q.items.length<ι then(bR q.stays g ta a q.items (cV pick e) [] c).bind λl c=>.ok (.lst l) c else .bad:=rfl
@[simp] theorem nI:aO e c=.ok Θ c:=rfl
@[simp] theorem mq(i j:Int):aZ (.int i) (.int j) c=.ok (.int (i+j)) c:=rfl
@[simp] theorem ag7(x y:List D):aZ (.tup x) (.tup y) c=if x.length≠0/\x.length+y.length<=ι then .ok (.tup (x++y)) c else .bad:=rfl
@[simp] theorem vO(i j:Int):bq (.int i) (.int j) c=.ok (.int (i-j)) c:=rfl
theorem Gy(i j:Int):bg (.int i) (.int j) c=if(-(2^64)<i/\i<2^64)\/(-(2^64)<j/\j<2^64)then .ok (.int (i*j)) c else .bad:=rfl
theorem ON(i j:Int):gw (.int i) (.int j) c=if 0<j/\j<1073741824 then .ok (.int (i/j)) c else .bad:=rfl
theorem Gz(i j:Int):bL (.int i) (.int j) c=if 0<j then .ok (.int (i % j)) c else .bad:=rfl
theorem Gw(i j:Int):jc (.int i) (.int j) c=if 0<=j/\j<=1000000/\i.natAbs<2^64 then .ok (.int (i^j.toNat)) c else .bad:=rfl
@[simp] theorem ag3(p:Int->Int->Bool) (i j:Int):oR p (.int i) (.int j) c=.ok (.bl (p i j)) c:=rfl
@[simp] theorem OM(i j:Int):bD (.int i) (.int j) c=.ok (.bl (decide (i=j))) c:=rfl
@[simp] theorem agQ(i j:Int):eZ (.int i) (.int j) c=.ok (.bl (!decide (i=j))) c:=rfl
@[simp] theorem ag2(i j:Bool):bD (.bl i) (.bl j) c=.ok (.bl (decide (i=j))) c:=rfl
@[simp] theorem agR(i j:Bool):eZ (.bl i) (.bl j) c=.ok (.bl (!decide (i=j))) c:=rfl
@[simp] theorem ag1(i j:Str):bD (.str i) (.str j) c=.ok (.bl (decide (i=j))) c:=rfl
@[simp] theorem agP(i j:Str):eZ (.str i) (.str j) c=.ok (.bl (!decide (i=j))) c:=rfl
@[simp] theorem GB(xs:List D) (i:Int):aH (.tup xs) (.int i) c=match cF xs i with|some d=>.ok d c|none=>.bad:=rfl
@[simp] theorem sV(xs:List D) (i:Int):aH (.lst xs) (.int i) c=match cF xs i with|some d=>.ok d c|none=>.bad:=rfl
@[simp] theorem OJ(xs:List D):aU [.tup xs] c=.ok (.int xs.length) c:=rfl
@[simp] theorem GA(xs:List D):aU [.lst xs] c=.ok (.int xs.length) c:=rfl
@[simp] theorem agV(xs:List Int):aU [.cE xs] c=.ok (.int xs.length) c:=by
 show R.ok (D.int ((xs.map D.int).length:Nat)) c=_;rw[aiu]
@[simp] theorem OG(i j:Int):mR [.int i,.int j] c=.ok (.int (if j>i then j else i)) c:=rfl
@[simp] theorem agS(i j:Int):uz [.int i,.int j] c=.ok (.int (if j<i then j else i)) c:=rfl
@[simp] theorem ahg:noRef .aM=Θ:=rfl
@[simp] theorem r_bl(b:Bool):noRef (.bl b)=Θ:=rfl
@[simp] theorem ahi(b:Int):noRef (.int b)=Θ:=rfl
@[simp] theorem ahf(b:Str):noRef (.str b)=Θ:=rfl
@[simp] theorem HM(b:List D):noRef (.tup b)=bA b:=by simp[noRef]
@[simp] theorem HN(b:List D):noRef (.lst b)=bA b:=by simp[noRef]
@[simp] theorem ahh:bA []=Θ:=by simp[bA]
@[simp] theorem ahj(d:D) (b:List D):bA (d::b)=(noRef d&&bA b):=by simp[bA]
@[simp] theorem q_bl(own:Bool) (n:Nat) (b:Bool):eF own n (.bl b) c=.ok (.bl b) (c.take n):=rfl
@[simp] theorem ahm(own:Bool) (n:Nat):eF own n .aM c=.ok .aM (c.take n):=rfl
@[simp] theorem aho(own:Bool) (n:Nat) (b:Int):eF own n (.int b) c=.ok (.int b) (c.take n):=rfl
@[simp] theorem ahl(own:Bool) (n:Nat) (b:Str):eF own n (.str b) c=.ok (.str b) (c.take n):=rfl
@[simp] theorem tW(own:Bool) (n:Nat) (b:List D):eF own n (.tup b) c=if bA b=Θ then .ok (.tup b) (c.take n)else .bad:=by
 show(if noRef (.tup b)=Θ then R.ok (D.tup b) (c.take n)else R.bad)=_
 rw[HM]
@[simp] theorem ahn(own:Bool) (n:Nat) (b:List D):eF own n (.lst b) c=if bA b=Θ then .ok (.lst b) (c.take n)else .bad:=by
 show(if noRef (.lst b)=Θ then R.ok (D.lst b) (c.take n)else R.bad)=_
 rw[HN]
@[simp] theorem ic:bh l e c=(l e c).bind λxs c=>match xs with
 |[.int j]=>if -(2^62)<=j/\j<2^62 then .ok ⟨bf 0 j,λ_=>True⟩ c else .bad
 |_=>.bad:=rfl
@[simp] theorem agM:nj l e c=(l e c).bind λxs c=>match xs with
 |[.int i,.int j]=>if -(2^62)<=i/\i<2^62/\-(2^62)<=j/\j<2^62 then .ok ⟨bf i j,λ_=>True⟩ c else .bad
 |_=>.bad:=rfl
@[simp] theorem vP:c9 a e c=(a e c).bind λx c=>match x with
 |.lst l=>.ok ⟨l,λ_=>True⟩ c
 |.cE l=>.ok ⟨l.map D.int,λ_=>True⟩ c
 |.ref k=>match c[k]? with
  |some (.lst l)=>.ok ⟨l,λc=>c[k]? = ζ (.lst l)⟩ c
  |none=>.bad
 |_=>.bad:=rfl
@[simp] theorem Gv:c8 a e c=(a e c).bind λx c=>match x with
 |.tup l=>.ok ⟨l,λ_=>True⟩ c
 |_=>.bad:=rfl
end
section
variable (g:Gd) (s:ah) (t:ai) (a:af) (e:Ev) (c:aa)
@[simp] theorem ah3:cO (λ_=>True) g s [] e c=.ok (.nx e) c:=by simp[cO]
@[simp] theorem uX(x:D) (xs:List D):cO (λ_=>True) g s (x::xs) e c=(g x e c).bind λe c=>(s e c).bind λf c=>match f with
   |.nx e=>cO (λ_=>True) g s xs e c
   |.ct e=>cO (λ_=>True) g s xs e c
   |.bk e=>.ok (.nx e) c
   |.rt d=>.ok (.rt d) c:=by
 conv=>lhs;unfold cO
 exact if_pos trivial
@[simp] theorem ah9(acc:List D):bR (λ_=>True) g t a [] e acc c=.ok acc c:=by simp[bR]
@[simp] theorem kU(x:D) (xs acc:List D):bR (λ_=>True) g t a (x::xs) e acc c=(g x e c).bind λe c=>(t e c).bind λk c=>if k=Θ then(a e c).bind λy c=>bR (λ_=>True) g t a xs e (acc++[y]) c else bR (λ_=>True) g t a xs e acc c:=by
 conv=>lhs;unfold bR
 exact if_pos trivial
end
@[simp] theorem gz{α:Type}(a:α) (l:List α):(a::l)[0]? = ζ a:=rfl
@[simp] theorem gs{α:Type}(a:α) (l:List α) (n:Nat):(a::l)[n+1]? = l[n]?:=rfl
@[simp] theorem at0{α:Type}(a:α) (l:List α):cF (a::l) 0=ζ a:=by simp[cF,fL]
@[simp] theorem at1{α:Type}(a b:α) (l:List α):cF (a::b::l) 1=ζ b:=by
 unfold cF fL;rw[if_pos (by decide),if_pos (by simp;omega)]
 rfl
@[simp] theorem at2{α:Type}(a b d:α) (l:List α):cF (a::b::d::l) 2=ζ d:=by
 unfold cF fL;rw[if_pos (by decide),if_pos (by simp;omega)]
 rfl
@[simp] theorem at3{α:Type}(a b d f:α) (l:List α):cF (a::b::d::f::l) 3=ζ f:=by
 unfold cF fL;rw[if_pos (by decide),if_pos (by simp;omega)]
 rfl
@[simp] theorem at4{α:Type}(a b d f h:α) (l:List α):cF (a::b::d::f::h::l) 4=ζ h:=by
 unfold cF fL;rw[if_pos (by decide),if_pos (by simp;omega)]
 rfl
theorem eN{n:Nat}(h:n<=1000):n<=ι:=aiT h (by decide)
@[simp] theorem sl0:(0:Nat)<=ι:=ajk _
@[simp] theorem sl1:(1:Nat)<=ι:=by decide
@[simp] theorem sl2:(2:Nat)<=ι:=by decide
@[simp] theorem sl3:(3:Nat)<=ι:=by decide
@[simp] theorem AD:(4:Nat)<=ι:=by decide
@[simp] theorem sl5:(5:Nat)<=ι:=by decide
@[simp] theorem sl6:(6:Nat)<=ι:=by decide
@[simp] theorem we:(0:Nat)<ι:=by decide
@[simp] theorem st1:(1:Nat)<ι:=by decide
@[simp] theorem st2:(2:Nat)<ι:=by decide
@[simp] theorem st3:(3:Nat)<ι:=by decide
@[simp] theorem j9:(4:Nat)<ι:=by decide
@[simp] theorem i9:(5:Nat)<ι:=by decide
@[simp] theorem ahP(i:Int) (c:aa):bO [.int i,.ty "int"] c=.ok (.bl Θ) c:=rfl
@[simp] theorem ahQ(i:Int) (c:aa):bO [.int i,.ty "bool"] c=.ok (.bl Ψ) c:=rfl
@[simp] theorem ahN(i:Int) (c:aa):bO [.int i,.ty "str"] c=.ok (.bl Ψ) c:=rfl
@[simp] theorem ahM(i:Int) (c:aa):bO [.int i,.ty "tuple"] c=.ok (.bl Ψ) c:=rfl
@[simp] theorem ahO(i:Int) (c:aa):bO [.int i,.ty "list"] c=.ok (.bl Ψ) c:=rfl
@[simp] theorem ahU(i:Bool) (c:aa):bO [.bl i,.ty "int"] c=.ok (.bl Θ) c:=rfl
@[simp] theorem ahV(i:Bool) (c:aa):bO [.bl i,.ty "bool"] c=.ok (.bl Θ) c:=rfl
@[simp] theorem ahS(i:Bool) (c:aa):bO [.bl i,.ty "str"] c=.ok (.bl Ψ) c:=rfl
@[simp] theorem ahR(i:Bool) (c:aa):bO [.bl i,.ty "tuple"] c=.ok (.bl Ψ) c:=rfl
@[simp] theorem ahT(i:Bool) (c:aa):bO [.bl i,.ty "list"] c=.ok (.bl Ψ) c:=rfl
@[simp] theorem ahA(i:Str) (c:aa):bO [.str i,.ty "int"] c=.ok (.bl Ψ) c:=rfl
@[simp] theorem ahB(i:Str) (c:aa):bO [.str i,.ty "bool"] c=.ok (.bl Ψ) c:=rfl
@[simp] theorem ahy(i:Str) (c:aa):bO [.str i,.ty "str"] c=.ok (.bl Θ) c:=rfl
@[simp] theorem ahx(i:Str) (c:aa):bO [.str i,.ty "tuple"] c=.ok (.bl Ψ) c:=rfl
@[simp] theorem ahz(i:Str) (c:aa):bO [.str i,.ty "list"] c=.ok (.bl Ψ) c:=rfl
@[simp] theorem ahF(c:aa):bO [.aM,.ty "int"] c=.ok (.bl Ψ) c:=rfl
@[simp] theorem ahG(c:aa):bO [.aM,.ty "bool"] c=.ok (.bl Ψ) c:=rfl
@[simp] theorem ahD(c:aa):bO [.aM,.ty "str"] c=.ok (.bl Ψ) c:=rfl
@[simp] theorem ahC(c:aa):bO [.aM,.ty "tuple"] c=.ok (.bl Ψ) c:=rfl
@[simp] theorem ahE(c:aa):bO [.aM,.ty "list"] c=.ok (.bl Ψ) c:=rfl
@[simp] theorem ahv(i:List D) (c:aa):bO [.tup i,.ty "int"] c=.ok (.bl Ψ) c:=rfl
@[simp] theorem ahw(i:List D) (c:aa):bO [.tup i,.ty "bool"] c=.ok (.bl Ψ) c:=rfl
@[simp] theorem aht(i:List D) (c:aa):bO [.tup i,.ty "str"] c=.ok (.bl Ψ) c:=rfl
@[simp] theorem ahs(i:List D) (c:aa):bO [.tup i,.ty "tuple"] c=.ok (.bl Θ) c:=rfl
@[simp] theorem ahu(i:List D) (c:aa):bO [.tup i,.ty "list"] c=.ok (.bl Ψ) c:=rfl
@[simp] theorem ahK(i:List D) (c:aa):bO [.lst i,.ty "int"] c=.ok (.bl Ψ) c:=rfl
@[simp] theorem ahL(i:List D) (c:aa):bO [.lst i,.ty "bool"] c=.ok (.bl Ψ) c:=rfl
@[simp] theorem ahI(i:List D) (c:aa):bO [.lst i,.ty "str"] c=.ok (.bl Ψ) c:=rfl
@[simp] theorem ahH(i:List D) (c:aa):bO [.lst i,.ty "tuple"] c=.ok (.bl Ψ) c:=rfl
@[simp] theorem ahJ(i:List D) (c:aa):bO [.lst i,.ty "list"] c=.ok (.bl Θ) c:=rfl
section
variable (c:aa) {i j:Int}
theorem xR(h1:-18446744073709551616<i) (h2:i<18446744073709551616):bg (.int i) (.int j) c=.ok (.int (i*j)) c:=by
 rw[Gy,if_pos];exact .inl ⟨by omega,by omega⟩
theorem mul_r(h1:-18446744073709551616<j) (h2:j<18446744073709551616):bg (.int i) (.int j) c=.ok (.int (i*j)) c:=by
 rw[Gy,if_pos];exact .inr ⟨by omega,by omega⟩
theorem rE(h1:0<j) (h2:j<1073741824):gw (.int i) (.int j) c=.ok (.int (i/j)) c:=by
 rw[ON,if_pos ⟨h1,h2⟩]
theorem jM(h1:0<j):bL (.int i) (.int j) c=.ok (.int (i % j)) c:=by
 rw[Gz,if_pos h1]
theorem HZ(h1:0<=j) (h2:j<=1000000) (h3:i.natAbs<18446744073709551616):jc (.int i) (.int j) c=.ok (.int (i^j.toNat)) c:=by
 rw[Gw,if_pos ⟨h1,h2,h3⟩]
end
section
variable {g:Gd}{s:ah}{t:ai}{a:af}
theorem nq{c:aa}(inv:Ev->Prop) (F:D->Bool) (G:D->D):∀(items:List D) (e:Ev) (acc:List D),inv e ->
  (∀x∈items,∀e,inv e->∃e',g x e c=.ok e' c/\inv e'/\t e' c=.ok (F x) c/\(F x=Θ->a e' c=.ok (G x) c)) ->
  bR (λ_=>True) g t a items e acc c=.ok (acc++(items.filter F).map G) c
 |[],e,acc,_,_=>by simp
 |x::xs,e,acc,hi,h=>by
  obtain⟨e',h1,h2,h3,h4⟩:=h x ai1 e hi;rw[kU,h1,R.aC,h3,R.aC];cases hF:F x with
  |true =>
   rw[if_pos rfl,h4 hF,R.aC,nq inv F G xs e' _ h2 λy hy=>h y (aiN _ hy)]
   simp[hF]
  |false =>
   rw[if_neg aiD,nq inv F G xs e' _ h2 λy hy=>h y (aiN _ hy)]
   simp[hF]
theorem Lj{c:aa}(inv:Ev->Prop) (P:D->Option D):∀(items:List D) (e:Ev),inv e ->
  (∀x∈items,∀e,inv e->∃e' e'',g x e c=.ok e' c/\inv e''/\s e' c=match P x with|none=>.ok (.nx e'') c|some v=>.ok (.rt v) c) ->
  match items.findSome? P with|none=>∃e',inv e'/\cO (λ_=>True) g s items e c=.ok (.nx e') c|some v=>cO (λ_=>True) g s items e c=.ok (.rt v) c
 |[],e,hi,_=>⟨e,hi,by simp⟩
 |x::xs,e,hi,h=>by
  obtain⟨e',e'',h1,h2,h3⟩:=h x ai1 e hi;have ih:=Lj inv P xs e'' h2 λy hy=>h y (aiN _ hy)
  rw[List.findSome?_cons,uX,h1,R.aC,h3];cases hP:P x with
  |some v=>simp
  |none=>simpa using ih
theorem Lk(inv:Ev->Prop):∀(items:List D) (e:Ev) (c:aa),inv e ->
  (∀x∈items,∀e c,inv e->∃e' e'' c' c'',g x e c=.ok e' c'/\s e' c'=.ok (.nx e'') c''/\inv e'') ->
  ∃e' c',inv e'/\cO (λ_=>True) g s items e c=.ok (.nx e') c'
 |[],e,c,hi,_=>⟨e,c,hi,by simp⟩
 |x::xs,e,c,hi,h=>by
  obtain⟨e',e'',c',c'',h1,h2,h3⟩:=h x ai1 e c hi;obtain⟨e3,c3,i3,h4⟩:=Lk inv xs e'' c'' h3 λy hy=>h y (aiN _ hy)
  exact⟨e3,c3,i3,by rw[uX,h1,R.aC,h2];exact h4⟩
theorem DA(inv:Ev->aa->Prop):∀(items:List D) (e:Ev) (c:aa),inv e c ->
  (∀x∈items,∀e c,inv e c->∃e' e'' c' c'',g x e c=.ok e' c'/\s e' c'=.ok (.nx e'') c''/\inv e'' c'') ->
  ∃e' c',inv e' c'/\cO (λ_=>True) g s items e c=.ok (.nx e') c'
 |[],e,c,hi,_=>⟨e,c,hi,by simp⟩
 |x::xs,e,c,hi,h=>by
  obtain⟨e',e'',c',c'',h1,h2,h3⟩:=h x ai1 e c hi;obtain⟨e3,c3,i3,h4⟩:=DA inv xs e'' c'' h3 λy hy=>h y (aiN _ hy)
  exact⟨e3,c3,i3,by rw[uX,h1,R.aC,h2];exact h4⟩
end
theorem uA{lo hi:Int}{d:D}(h:d∈bf lo hi):∃i:Int,d=.int i/\lo<=i/\i<hi:=by
 unfold bf at h;obtain⟨k,hk,rfl⟩:=aik.mp h;have:=ain.mp hk;exact⟨lo+k,rfl,by omega,by omega⟩
theorem fF{lo hi:Int}:(bf lo hi).length=(hi-lo).toNat:=by simp[bf]
def eS(c:aa):D->Option (List D)
 |.lst l=>ζ l
 |.ref k=>match c[k]? with
  |some (.lst l)=>ζ l
  |none=>θ
 |_=>θ
def b9:D->D->aa->R D:=λx y c=>match eS c x,eS c y with
 |some l,ζ m=>if l.length+m.length<=ι then .ok (.lst (l++m)) c else .bad
 |_,_=>.bad
def cutD(xs:List D) (lo hi:Option Int):List D:=(xs.drop (HT.eO xs.length 0 lo)).take (HT.eO xs.length xs.length hi-HT.eO xs.length 0 lo)
def eU(a:af) (lo hi:Ev->aa->R (Option Int)):af:=λe c=>(a e c).bind λx c=>(lo e c).bind λl c=>(hi e c).bind λu c=>match eS c x with
 |some xs=>.ok (.lst (cutD xs l u)) c
 |none=>.bad
def eW:Ev->aa->R (Option Int):=λ_ c=>.ok θ c
def eV(a:af):Ev->aa->R (Option Int):=λe c=>(a e c).bind λx c=>match x with
 |.int i=>.ok (ζ i) c
 |_=>.bad
section
variable {X:Cx}{K:Δ}{ρ ρ':List Ω}{H H':Hp}{c c':aa}
theorem qX{x:D}{v:V}{l:List D}(W:Wd K ρ H c) (rx:Rel K ρ H x v) (h:eS c x=ζ l):∃a xs,v=.ref a/\H a=ζ (.lst xs)/\aN K ρ H l xs:=by
 cases x with
 |lst m =>
  cases h;obtain⟨a,xs,e,s,r⟩:=rx;exact⟨a,xs,e,s.1,r⟩
 |ref k =>
  obtain⟨a,e,s⟩:=rx;unfold eS at h;dsimp only at h;cases hc:c[k]? with
  |none=>rw[hc]at h;cases h
  |some cl =>
   cases cl with
   |lst m =>
    rw[hc]at h;cases h;obtain⟨_,xs,hx,r⟩:=W.fR k a _ s hc;exact⟨a,xs,e,hx,r⟩
 |_=>cases h
theorem iO:bB X (binaryOp .Add) (r2 X.K b9):=by
 intro pins s σ H v u vv uu Q I rv ru h;obtain⟨ρ,x,y,c,W,rx,ry,p⟩:=h;unfold b9 at p;split at p
 ·rename_i l m hl hm;split at p
  ·rename_i hz;obtain⟨a,xs,rfl,ha,ra⟩:=qX W rx hl;obtain⟨b,ys,rfl,hb,rb⟩:=qX W ry hm;exact VG pins s σ H _ _ vv uu Q I rv ru ⟨a,b,xs,ys,rfl,rfl,ha,hb,by rw[ra.length,rb.length];exact hz,nW W (ra.append rb) p⟩
  ·exact p.elim
 ·exact p.elim
abbrev zJ(X:Cx) (e:Option π) (d:Ev->aa->R (Option Int)):Prop:=PO X e (tD X.K (λ_ _ a b=>a=b) d)
theorem PO.imp{e:Option π}{t t':TO}(h:PO X e t) (i:∀σ H Q,t' σ H Q->t σ H Q):PO X e t':=λpins s σ H Q I q=>h pins s σ H Q I (i _ _ _ q)
theorem tZ:zJ X θ eW:=Tz.imp λσ H Q h=>by
 obtain⟨ρ,e,c,W,Vv,p⟩:=h;exact p.here W rfl
theorem tY{e:π}{d:af}(h:aV X e d):zJ X (ζ e) (eV d):=(Tw h).imp λσ H Q h=>by
 obtain⟨ρ,e,c,W,Vv,p⟩:=h;refine⟨ρ,e,c,W,Vv,post.bind p λx c1 aJ H1 v _ W1 X1 r1 p1=>?_⟩
 cases x with
 |int i=>cases r1;exact⟨i,rfl,p1.here W1 rfl⟩
 |_=>exact p1.elim
theorem adN{l:List D}{xs:List V}{lo hi:Option Int}(r:aN K ρ H l xs):aN K ρ H (cutD l lo hi) (rM xs lo hi):=by
 unfold cutD rM;rw[r.length];exact(r.drop _).take _
theorem ud{e:π}{lo hi:Option π}{p2 pos:Pos}{da:af}{dl dh:Ev->aa->R (Option Int)}(he:aV X e da) (hl:zJ X lo dl) (hh:zJ X hi dh):aV X (.Subscript e (.Slice lo hi θ p2) pos) (eU da dl dh) :=
 (UN QV he hl hh).imp λσ H Q h=>by
  obtain⟨ρ,e,c,W,Vv,p⟩:=h;refine⟨ρ,e,c,W,Vv,post.bind p λx c1 aJ H1 v _ W1 X1 r1 p1=>⟨aJ,e,c1,W1,Vv.mono W X1,post.bind p1 λl c2 cy H2 l' _ W2 X2 r2 p2=>⟨cy,e,c2,W2,(Vv.mono W X1).mono W1 X2,post.bind p2 λu c3 nH H3 u' _ W3 X3 r3 p3=>?_⟩⟩⟩
  cases r2;cases r3;have rx:=Rel.mono W1 (X2.trans X3) _ _ r1;split at p3
  ·rename_i xs hs;obtain⟨a,ys,rfl,ha,r⟩:=qX W3 rx hs;exact⟨a,ys,rfl,bJ.of ha,nW W3 (adN r) p3⟩
  ·exact p3.elim
end
section
variable (e:Ev) (c:aa) (a:af) (lo hi:Ev->aa->R (Option Int)) (l:aj)
@[simp] theorem OB:eU a lo hi e c=(a e c).bind λx c=>(lo e c).bind λl c=>(hi e c).bind λu c=>match eS c x with
 |some xs=>.ok (.lst (cutD xs l u)) c
 |none=>.bad:=rfl
@[simp] theorem OF:eW e c=.ok θ c:=rfl
@[simp] theorem OE:eV a e c=(a e c).bind λx c=>match x with
 |.int i=>.ok (ζ i) c
 |_=>.bad:=rfl
@[simp] theorem ahr(x:List D):eS c (.lst x)=ζ x:=rfl
end
section
variable {g:Gd}{s:ah}{t:ai}{a:af}
theorem ES{c:aa}(st:aa->Prop) (hst:st c) (inv:Ev->Prop) (F:D->Bool) (G:D->D):∀(items:List D) (e:Ev) (acc:List D),inv e ->
  (∀x∈items,∀e,inv e->∃e',g x e c=.ok e' c/\inv e'/\t e' c=.ok (F x) c/\(F x=Θ->a e' c=.ok (G x) c)) ->
  bR st g t a items e acc c=.ok (acc++(items.filter F).map G) c
 |[],e,acc,_,_=>by
  unfold bR;rw[if_pos hst];simp
 |x::xs,e,acc,hi,h=>by
  obtain⟨e',h1,h2,h3,h4⟩:=h x ai1 e hi;unfold bR;rw[if_pos hst,h1,R.aC,h3,R.aC];cases hF:F x with
  |true =>
   rw[if_pos rfl,h4 hF,R.aC,ES st hst inv F G xs e' _ h2 λy hy=>h y (aiN _ hy)]
   simp[hF]
  |false =>
   rw[if_neg aiD,ES st hst inv F G xs e' _ h2 λy hy=>h y (aiN _ hy)]
   simp[hF]
theorem FY{dO da:af}{e:Ev}{c:aa}{acc:List D}{y:D}(ho:dO e (c++[.lst acc])=.ok (.ref c.length) (c++[.lst acc])) (ha:da e (c++[.lst acc])=.ok y (c++[.lst acc])) (hy:noRef y=Θ) (hl:acc.length+1<=1000000) :
  fP dO da e (c++[.lst acc])=.ok .aM (c++[.lst (acc++[y])]):=by
 have h1:acc.length<ι:=aiz (by omega:acc.length<1000000) (by decide)
 unfold fP;rw[ho,R.aC];dsimp only;rw[ha,R.aC];have e1:(c++[Cell.lst acc])[c.length]? = ζ (.lst acc):=by simp
 have e2:(c++[Cell.lst acc]).set c.length (.lst (acc++[y]))=c++[.lst (acc++[y])]:=by simp
 rw[e1];dsimp only;rw[if_pos ⟨h1,hy⟩,e2]
end
mutual
def cZ:D->Option abb
 |.aM=>ζ .none
 |.bl b=>ζ (.bool b)
 |.int i=>ζ (.int i)
 |.str x=>if PyData.strOk x=Θ then ζ (.str x)else θ
 |.tup l=>match dP l with
  |some r=>ζ (.tuple r)
  |none=>θ
 |.lst l=>match dP l with
  |some r=>ζ (.list r)
  |none=>θ
 |.ty _=>θ
 |.ref _=>θ
 |.cE _=>θ
 |.fn _ _=>θ
 |.exc _=>θ
 |.jx=>θ
 |.dct _=>θ
 |.lam _ _ _ _=>θ
def dP:List D->Option (List abb)
 |[]=>ζ []
 |d::l=>match cZ d,dP l with
  |some a,ζ r=>ζ (a::r)
  |_,_=>θ
end
def gx(c:aa):D->Option abb
 |.ref k=>match c[k]? with
  |some (.lst l)=>match dP l with
   |some r=>ζ (.list r)
   |none=>θ
  |none=>θ
 |d=>cZ d
def LA:D->D->aa->R D:=λx y c=>match gx c x,gx c y with
 |some p,ζ q=>if p.depth<=64/\q.depth<=64 then .ok (.bl (p.eqv q)) c else .bad
 |_,_=>.bad
def fZ:D->D->aa->R D:=λx y c=>match gx c x,gx c y with
 |some p,ζ q=>if p.depth<=64/\q.depth<=64 then .ok (.bl (!p.eqv q)) c else .bad
 |_,_=>.bad
def inD:D->D->aa->R D:=λx y c=>match gx c x,gx c y with
 |some p,ζ (.list ys)=>if p.depth<=62 then .ok (.bl (ys.any λz=>z.eqv p)) c else .bad
 |some p,ζ (.tuple ys)=>if p.depth<=62 then .ok (.bl (ys.any λz=>z.eqv p)) c else .bad
 |_,_=>.bad
section
variable {X:Cx}{pins:List (Ω×Obj)}{σ:St}{ρ:List Ω}{H:Hp}{s:ε}{c:aa}
mutual
theorem gP(I:Inv X pins σ H s):∀(d:D) (v:V) (u:Ξ) (p:abb),Rel X.K ρ H d v->RelV v u->cZ d=ζ p->(∃as,Reads s.heap u p as)/\p.canLay0=Θ
 |.aM,v,u,p,r,ru,e=>by
  cases r;cases ru;cases e;exact⟨⟨_,.none⟩,by simp[PyData.canLay0]⟩
 |.bl b,v,u,p,r,ru,e=>by
  cases r;cases ru;cases e;exact⟨⟨_,.bool b⟩,by simp[PyData.canLay0]⟩
 |.int i,v,u,p,r,ru,e=>by
  cases r;obtain⟨t,rfl⟩:=ru;cases e;exact⟨⟨_,.int i t⟩,by simp[PyData.canLay0]⟩
 |.str x,v,u,p,r,ru,e=>by
  cases r;obtain⟨t,rfl⟩:=ru;unfold cZ at e;split at e
  ·rename_i hx;cases e;exact⟨⟨_,.str x t⟩,by simpa[PyData.canLay0]using hx⟩
  ·cases e
 |.tup l,v,u,p,r,ru,e=>by
  obtain⟨a,xs,rfl,ha,rs⟩:=r;cases ru;unfold cZ at e;split at e
  ·rename_i q hq;cases e;obtain⟨its,vs,⟨o,h1,h2,n,h3⟩,_⟩:=I.tuple (dg.of ha);obtain⟨⟨as,ra⟩,hc⟩:=wF I l xs its q rs vs hq;exact⟨⟨_,.tuple h1 h2 h3 (by simpa using ra)⟩,by simpa[PyData.canLay0]using hc⟩
  ·cases e
 |.lst l,v,u,p,r,ru,e=>by
  obtain⟨a,xs,rfl,ha,rs⟩:=r;cases ru;unfold cZ at e;split at e
  ·rename_i q hq;cases e;obtain⟨its,vs,pl,_⟩:=I.list (bJ.of ha.1);obtain⟨o,h1,h2,n,h3⟩:=pl.isList;obtain⟨⟨as,ra⟩,hc⟩:=wF I l xs its q rs vs hq;exact⟨⟨_,.list h1 h2 h3 (by simpa using ra)⟩,by simpa[PyData.canLay0]using hc⟩
  ·cases e
 |.ty _,v,u,p,r,ru,e=>by simp[cZ]at e
 |.ref _,v,u,p,r,ru,e=>by simp[cZ]at e
 |.cE _,v,u,p,r,ru,e=>by simp[cZ]at e
 |.fn _ _,v,u,p,r,ru,e=>by simp[cZ]at e
 |.exc _,v,u,p,r,ru,e=>by simp[cZ]at e
 |.jx,v,u,p,r,ru,e=>by simp[cZ]at e
 |.dct _,v,u,p,r,ru,e=>by simp[cZ]at e
 |.lam _ _ _ _,v,u,p,r,ru,e=>by simp[cZ]at e
theorem wF(I:Inv X pins σ H s):∀(l:List D) (vs:List V) (us:List Ξ) (ps:List abb),aN X.K ρ H l vs->Vals vs us->dP l=ζ ps->(∃as,ReadsAll s.heap us ps as)/\PyData.canLayAll0 ps=Θ
 |[],vs,us,ps,r,ru,e=>by
  cases r;cases ru;cases e;exact⟨⟨_,.nil⟩,by simp[PyData.canLayAll0]⟩
 |d::l,vs,us,ps,r,ru,e=>by
  obtain⟨x,xs,rfl,r1,r2⟩:=r;cases ru with
  |cons q1 q2 =>
   unfold dP at e;split at e
   ·rename_i a r e1 e2;cases e;obtain⟨⟨as,ra⟩,ca⟩:=gP I d x _ a r1 q1 e1;obtain⟨⟨bs,rb⟩,cb⟩:=wF I l xs _ r r2 q2 e2;exact⟨⟨_,.cons ra rb⟩,by simp[PyData.canLayAll0,ca,cb]⟩
   ·cases e
end
theorem qC(I:Inv X pins σ H s) (W:Wd X.K ρ H c) {d:D}{v:V}{u:Ξ}{p:abb}(r:Rel X.K ρ H d v) (ru:RelV v u) (e:gx c d=ζ p):(∃as,Reads s.heap u p as)/\p.canLay0=Θ:=by
 cases d with
 |ref k =>
  unfold gx at e;dsimp only at e;cases hc:c[k]? with
  |none=>rw[hc]at e;cases e
  |some cl =>
   cases cl with
   |lst l =>
    rw[hc]at e;dsimp only at e;split at e
    ·rename_i q hq;cases e;obtain⟨a,rfl,s1⟩:=r;cases ru;obtain⟨_,xs,hx,rs⟩:=W.fR k a _ s1 hc;obtain⟨its,vs,pl,_⟩:=I.list (bJ.of hx);obtain⟨o,h1,h2,n,h3⟩:=pl.isList;obtain⟨⟨as,ra⟩,hc⟩:=wF I l xs its q rs vs hq;exact⟨⟨_,.list h1 h2 h3 (by simpa using ra)⟩,by simpa[PyData.canLay0]using hc⟩
    ·cases e
 |aM=>exact gP I _ v u p r ru e
 |bl b=>exact gP I _ v u p r ru e
 |int b=>exact gP I _ v u p r ru e
 |str b=>exact gP I _ v u p r ru e
 |tup b=>exact gP I _ v u p r ru e
 |lst b=>exact gP I _ v u p r ru e
 |ty b=>exact gP I _ v u p r ru e
 |cE b=>exact gP I _ v u p r ru e
 |fn b n=>exact gP I _ v u p r ru e
 |exc b=>exact gP I _ v u p r ru e
 |dct b=>exact gP I _ v u p r ru e
 |jx=>exact gP I _ v u p r ru e
 |lam k y ns l=>exact gP I _ v u p r ru e
theorem IM(hu:X.A.units+64<aba):bB X (compareOp .NotEq) (r2 X.K fZ):=by
 intro pins s σ H v u vv uu Q I rv ru h;obtain⟨ρ,x,y,c,W,rx,ry,p⟩:=h;unfold fZ at p;split at p
 ·rename_i a b ha hb;split at p
  ·rename_i hd;obtain⟨⟨as,ra⟩,ca⟩:=qC I W rx rv ha;obtain⟨⟨bs,rb⟩,cb⟩:=qC I W ry ru hb;exact PySem.SeqAt.compareNe_shaped ra rb (by simp[PySem.SeqAt.shaped,ca,hd.1]) (by simp[PySem.SeqAt.shaped,cb,hd.2]) hu ⟨.bl _,H,I,rfl,p.here W rfl⟩
  ·exact p.elim
 ·exact p.elim
theorem Kr{A:ω}{p:abb}{ys:List abb}(hu:A.units+64<aba) (hd:p.depth<=62):A.units+1+min (PyData.depthAll ys) p.depth<aba:=by
 have:=Nat.min_le_right (PyData.depthAll ys) p.depth;omega
theorem WS(hu:X.A.units+64<aba):bB X (compareOp .In) (r2 X.K inD):=by
 intro pins s σ H v u vv uu Q I rv ru h;obtain⟨ρ,x,y,c,W,rx,ry,p⟩:=h;unfold inD at p;split at p
 ·rename_i a ys ha hb;split at p
  ·rename_i hd;obtain⟨⟨as,ra⟩,ca⟩:=qC I W rx rv ha;obtain⟨⟨bs,rb⟩,cb⟩:=qC I W ry ru hb;exact PySem.SeqAt.in_list_reads rb ra (by simpa[PyData.canLay0]using cb) ca (Kr hu hd) ⟨.bl _,H,I,rfl,p.here W rfl⟩
  ·exact p.elim
 ·rename_i a ys ha hb;split at p
  ·rename_i hd;obtain⟨⟨as,ra⟩,ca⟩:=qC I W rx rv ha;obtain⟨⟨bs,rb⟩,cb⟩:=qC I W ry ru hb;exact PySem.SeqAt.in_tuple_reads rb ra (by simpa[PyData.canLay0]using cb) ca (Kr hu hd) ⟨.bl _,H,I,rfl,p.here W rfl⟩
  ·exact p.elim
 ·exact p.elim
end
theorem x6{A:ω}{k:Nat}(hr:dG k A):A.units+64<aba:=by have:=hr.un;omega
section
variable (c:aa)
@[simp] theorem ah6:cZ .aM=ζ .none:=by simp only[cZ]
@[simp] theorem ah8(b:Bool):cZ (.bl b)=ζ (.bool b):=by simp only[cZ]
@[simp] theorem ah7(i:Int):cZ (.int i)=ζ (.int i):=by simp only[cZ]
@[simp] theorem ah5:dP []=ζ []:=by simp only[dP]
theorem LR(l:List Int):dP (l.map D.int)=ζ (l.map PyData.int):=by
 induction l with
 |nil=>simp
 |cons a l ih=>simp[dP,ih]
end
end L2
namespace L2
open PySem PySem.Spec PyProof.Rows
theorem vals3{a b c:V}{us:List Ξ}(h:Vals [a,b,c] us):∃u v w,us=[u,v,w]/\RelV a u/\RelV b v/\RelV c w:=by
 cases h with
 |cons h1 h =>
  cases h with
  |cons h2 h =>
   cases h with
   |cons h3 h=>cases h;exact⟨_,_,_,rfl,h1,h2,h3⟩
theorem Sf{K:Δ}{ρ:List Ω}{H:Hp}{a b c:D}{vs:List V}(h:aN K ρ H [a,b,c] vs):∃u v w,vs=[u,v,w]/\Rel K ρ H a u/\Rel K ρ H b v/\Rel K ρ H c w:=by
 obtain⟨u,r,rfl,h1,v,r',rfl,h2,w,r'',rfl,h3,h4⟩:=h;cases h4;exact⟨u,v,w,rfl,h1,h2,h3⟩
def zM(hi:Int) (n:Nat):It:=⟨λi _=>i<n,λi H x H'=>H'=H/\x=.int (hi-i),λi _=>n<=i⟩
theorem Pc{P:τ}{w:ψ}{K:Δ}{tg:π}(it:Ω) (hi:Int) (n:Nat):Turn P w K tg (zM hi n) [it] it (λi h=>abr h it (hi+(i:Nat)*(-1)) ((n:Int)-(i:Nat)) (-1)) where
 mem:=by simp
 obj:=λi h st b hb=>by
  have e:b=it:=by simpa using hb
  subst e;exact⟨_,st,λv z=>by
   have z':Data.fields _=Data.cell v:=z;cases z'⟩
 keep:=λi h h' st k=>k it (by simp) _ st
 item:=by
  intro X hP hw hK hc i pins s σ H E I hf st hg;subst hP hw hK;obtain⟨f0,f1,f2,f3,f4,f5⟩:=hf it (by simp)
  have W:=Walks.range (prog:=X.prog) (w:=X.w) (I.ok.hd hc) it hi (-1) n;refine W.item i s _ _ hg st λv h' tk hv st' kk=>?_
  obtain⟨t,rfl⟩:=hv;have I1:Inv X pins σ H {s with heap:=h',toks:=tk}:=I.turned (λb o hb e=>kk b o (by simpa using hb) e) f0 f1 f3 f4 f5
  refine⟨_,rfl,yi (s:={s with heap:=h',toks:=tk}) (n:="range_iterator") st' rfl rfl (by decide) ⟨.int (hi-i),H,I1,⟨t,?_⟩,⟨rfl,rfl⟩,st',λb hb=>(hf b hb).1⟩⟩
  congr 1
  omega
 done:=by
  intro X hP hw hK hc i pins s σ H E I hf st hg;subst hP hw hK;obtain⟨f0,f1,f2,f3,f4,f5⟩:=hf it (by simp)
  exact alP (I.ok.hd hc) st (by have:n<=i:=hg;omega) λh' eb=>⟨rfl,I.turned (t':=s.toks) (λb o hb e=>eb b o hb e) f0 f1 f3 f4 f5⟩
 self:=λ_ _ _ _ _ st h=>alQ st h
theorem alb(a b:Int):Builtin.Range.rangeSize a b (-1)=if b<a then a-b else 0:=by
 unfold Builtin.Range.rangeSize;rw[if_neg (by decide)]
 simp only[show(-(-1):Int)=1 by decide,Int.ediv_one]
 split<;>omega
theorem small_down{hi lo:Int}(h1:-(2^62)<=lo) (h2:lo<2^62) (h3:-(2^62)<=hi) (h4:hi<2^62):Builtin.Range.small hi lo (-1)=Θ:=by
 unfold Builtin.Range.small;rw[alb];simp only[Builtin.Range.rangeFitsLong,aiy,akc,decide_eq_true_eq,beq_iff_eq,show ¬((-1:Int)>0) by decide,if_false]
 split<;>omega
def iU(hi lo:Int):List D:=(η (hi-lo).toNat).map fun(i:Nat)=>D.int (hi-(i:Int))
def rK(a:aj):Ev->aa->R Src:=λe c=>(a e c).bind λxs c=>match xs with
 |[.int i,.int j,.int s]=>if s = -1/\-(2^62)<=i/\i<2^62/\-(2^62)<=j/\j<2^62 then .ok ⟨iU i j,λ_=>True⟩ c else .bad
 |_=>.bad
section
variable {X:Cx}{tg:π}{K:Δ}{ρ:List Ω}{H:Hp}
theorem acR{pins:List (Ω×Obj)}{σ:St}{H:Hp}{s:ε}{R:It->Hp->Prop}{E:Ξ->ε->Prop}{lo hi:Int}{t u v:Tok}{tk:Nat}(I:Inv X pins σ H s) (h1:-(2^62)<=lo) (h2:lo<2^62) (h3:-(2^62)<=hi) (h4:hi<2^62)
  (q:R (zM hi (hi-lo).toNat) H):wpAny (model X.prog X.w) X.A (pyIter (.ref s.heap.objs.size)) (F7 X pins σ tg R) E {s with heap:=s.heap.push {cls:=.type "range",data:=.fields #[.int hi t,.int lo u,.int (-1) v]},toks:=tk}:=by
 refine wpAny_pyIter_range (IsRange.new ..) (small_down h1 h2 h3 h4) ?_;have I1:Inv X pins σ H {s with heap:=s.heap.push {cls:=.type "range",data:=.fields #[.int hi t,.int lo u,.int (-1) v]},toks:=tk}:=I.kept λb o e=>air _ e
 refine⟨(s.heap.push {cls:=.type "range",data:=.fields #[.int hi t,.int lo u,.int (-1) v]}).objs.size,[(s.heap.push {cls:=.type "range",data:=.fields #[.int hi t,.int lo u,.int (-1) v]}).objs.size],_,_,H,rfl,
  I1.kept (t':=tk) λb o e=>air _ e,Pc _ hi (hi-lo).toNat,?_,λb hb=>?_,q⟩
 ·have e1:hi+((0:Nat):Int)*(-1)=hi:=by simp
  have e2:(((hi-lo).toNat:Nat):Int)-((0:Nat):Int)=Builtin.Range.rangeSize hi lo (-1):=by rw[alb];split<;>omega
  show abr _ _ (hi+((0:Nat):Int)*(-1)) ((((hi-lo).toNat:Nat):Int)-((0:Nat):Int)) (-1);rw[e1,e2];exact aiI _ rfl
 ·have e:b=(s.heap.push {cls:=.type "range",data:=.fields #[.int hi t,.int lo u,.int (-1) v]}).objs.size:=by simpa using hb
  subst e;exact I1.uW (aij _) (I1.hok.fresh (aij _))
theorem aaj{lo hi:Int}{st:aa->Prop}:JS K ρ H ⟨iU hi lo,st⟩ (zM hi (hi-lo).toNat):=by
 intro ρ' H' c' W E s i;refine⟨λd hd=>?_,λe=>?_⟩
 ·have hd:(iU hi lo)[i]? = ζ d:=hd;unfold iU at hd;rw[aiL,Option.map_eq_some_iff]at hd;obtain⟨k,hk,rfl⟩:=hd;obtain⟨h1,h2⟩:=aix.mp hk;rw[akf]at h2;subst h2;have h1:i<(hi-lo).toNat:=by simpa using h1
  refine⟨h1,λx H2 hy=>?_⟩
  obtain⟨rfl,rfl⟩:=hy;exact⟨W,Ext.refl,rfl⟩
 ·have:(iU hi lo).length=(hi-lo).toNat:=by simp[iU]
  show(hi-lo).toNat<=i;rw[e];exact ajp this.symm
def aaH(ta:TA):TI:=λσ H R=>ta σ H λvs H1=>∃i j:Int,vs=[.int i,.int j,.int (-1)]/\(-(2^62)<=i/\i<2^62/\-(2^62)<=j/\j<2^62)/\R (zM i (i-j).toNat) H1
theorem Uw{a b c:π}{ta:TA}{p pos:Pos}(hg:Gl X "range") (hm:X.mg "range"=θ) (ha:PA X [a,b,c] ta) (hs:μ [a,b,c] X.env=(Ψ,eval a X.env)::μ [b,c] X.env:=by exact bT rfl) (hs2:(aaQ pos (μ [b,c] X.env)).any (·.1)=Ψ:=by exact eB rfl) :
  PI X tg (.Call (.Name "range" p) [a,b,c] [] pos) (aaH ta):=by
 intro pins s σ H R I h;refine Call_ (om I hg hm boot_range (aj4 (br (ha pos pins s σ H _ I h) λus s1 ⟨vs,H1,I1,r1,q1⟩=>?_) hs hs2))
 obtain⟨i,j,e,⟨q1,q2,q3,q4⟩,q⟩:=q1;subst e;obtain⟨u,v,w,rfl,⟨t1,rfl⟩,⟨t2,rfl⟩,⟨t3,rfl⟩⟩:=vals3 r1;exact call_range_3 (by decide) (acR I1 q3 q4 q1 q2 q) (.inl (alR (by decide)))
theorem aaD{a b c:π}{da:aj}{p pos:Pos}(ha:eH X [a,b,c] da) (hm:X.mg "range"=θ) (hg:Gl X "range":=by rfl) (hs:μ [a,b,c] X.env=(Ψ,eval a X.env)::μ [b,c] X.env:=by exact bT rfl) (hs2:(aaQ pos (μ [b,c] X.env)).any (·.1)=Ψ:=by exact eB rfl):PId X tg (.Call (.Name "range" p) [a,b,c] [] pos) (rK da) :=
 (Uw hg hm ha hs hs2).imp λσ H Q h=>by
  obtain⟨ρ,e,c,W,V,p⟩:=h;refine⟨ρ,e,c,W,V,post.bind p λx c1 aJ H1 v _ W1 X1 r1 p1=>?_⟩
  split at p1
  ·rename_i i j s _;split at p1
   ·rename_i hj;obtain⟨rfl,hj⟩:=hj;obtain⟨u,v,w,rfl,ru,rv,rw'⟩:=Sf r1;cases ru;cases rv;cases rw';exact⟨i,j,rfl,hj,p1.here W1 aaj⟩
   ·exact p1.elim
  ·exact p1.elim
end
section
variable (e:Ev) (c:aa) (l:aj)
@[simp] theorem agL:rK l e c=(l e c).bind λxs c=>match xs with
 |[.int i,.int j,.int s]=>if s = -1/\-(2^62)<=i/\i<2^62/\-(2^62)<=j/\j<2^62 then .ok ⟨iU i j,λ_=>True⟩ c else .bad
 |_=>.bad:=rfl
end
def Gh(K:Δ) (H:Hp) (l:List Env) (x:Str) (h₀:χ) (H₀:Hp) (e:Ξ) (h:χ):Prop :=
 ∃ea C t B,e=.ref ea/\ξ K Γ x=ζ (ζ (.ref C))/\aaS B l ea (.ref C) (.ref t) h/\(∀b u,H b=ζ u->∃o,B.get? b=ζ o) /\
  (∀b o,h₀.get? b=ζ o->b∉frs l->∃o',B.get? b=ζ o')/\∀b o,h₀.get? b=ζ o->H₀ b=θ->b∉frs l->B.get? b=ζ o
def gC(P:τ) (w:ψ) (K:Δ):l7:=λouter H s E e s'=>∃x H',s'.os=s.os/\aa0 s'.gens/\Un (frs outer) [] H H' s.heap s'.heap/\cL P w H' s'.heap/\Gh K H' outer x s.heap H e s'.heap/\E (.str x 0) θ H'
def vJ(X:Cx) (x:Str) (H2:Hp):Prop :=
 ∀pins σ H1 s1 e s2,Inv X pins σ H1 s1->s2.os=s1.os->aa0 s2.gens->Un (frs X.stack) [] H1 H2 s1.heap s2.heap->cL X.prog X.w H2 s2.heap->Gh X.K H2 X.stack x s1.heap H1 e s2.heap->X.xe e s2
def zR(X:Cx) (x:Str) (H2:Hp):Prop:=vJ X x H2 /\
 (∀pins σ s ea C args h',Inv X pins σ H2 s->ξ X.K Γ x=ζ (ζ (.ref C))->Heap.MadeExcOf s.heap h' ea (.ref C) args->X.xe (.ref ea) {s with heap:=h'})
theorem Vj{X:Cx}:Passes (gC X.prog X.w X.K) X λv _ H'=>∀x,v=.str x 0->vJ X x H':=by
 intro pins σ H s e s' I h;obtain⟨x,H',h1,h2,h3,h4,h5,h6⟩:=h;exact h6 x rfl pins σ H s e s' I h1 h2 h3 h4 h5
theorem IS{P:τ}{w:ψ}{H:Hp}{h:χ}{a:Ω}{o:HO}(x:eK P w H h a o):∃u,h.get? a=ζ u:=by
 cases o with
 |lst xs=>obtain⟨_,_,_,_,e⟩:=x;exact⟨_,e⟩
 |tup xs=>obtain⟨_,_,_,_,e,_⟩:=x;exact⟨_,e⟩
 |dK kvs=>obtain⟨_,_,_,_,o,_,_,e,_⟩:=x;exact⟨_,e⟩
 |dT kvs=>obtain⟨_,_,_,_,o,_,_,e,_⟩:=x;exact⟨_,e⟩
 |set S n=>obtain⟨o,_,_,_,e,_⟩:=x;exact⟨_,e⟩
 |ins C dx fs=>obtain⟨_,_,_,e,_⟩:=x;exact⟨_,e⟩
 |own y=>obtain⟨_,e⟩:=x;exact⟨_,e⟩
 |xd fs=>obtain⟨_,⟨_,_,_,e,_⟩,_⟩:=x;exact⟨_,e⟩
 |nP lo hi=>obtain⟨_,_,_,e⟩:=x;exact⟨_,e⟩
 |eT ob u=>obtain⟨e,_⟩:=x;exact⟨_,e⟩
 |ez ps=>exact⟨_,(show h.get? a=ζ _ from x)⟩
 |met f y=>exact⟨_,(show h.get? a=ζ _ from x)⟩
 |ext φ=>obtain⟨_,⟨_,e⟩,_⟩:=x;exact⟨_,e⟩
section
variable {P:τ}{w:ψ}{K:Δ}{mg:Str->Option Ξ}{base:χ}{N:List Str}{qual:Str}{scope:aa5}{f:Ω}{cd:Ξ}{A:ω}{outer:List Env}{s:ε}{H:Hp}{E:XK}
theorem Dd{H:Hp}{h h' B:χ}(x:cL P w H h) (st:B.StaysIn h') (sh:∀b o,B.get? b=ζ o->h.get? b=ζ o) (fD:∀b u,H b=ζ u->∃o,B.get? b=ζ o):cL P w H h':=λa o e=>by
 refine(x a o e).stay (λb u hb q=>?_) (λ_ q=>q) λ_ _ q=>q
 have hb':∃u',H b=ζ u':=by
  rcases hb with rfl|hb
  ·exact⟨_,e⟩
  ·exact⟨_,hb⟩
 obtain⟨u',hu⟩:=hb';obtain⟨o',ho⟩:=fD b u' hu;have:=sh b o' ho;rw[q]at this;cases this;exact st b _ ho
theorem Zm{pins:List (Ω×Obj)}{σ:St}{H1:Hp}{s1:ε}{x:Str}{C ea:Ω}{args:List Ξ}{h':χ}(I:Inv (fu (gC P w K) P w K mg base N qual scope f cd A outer s H E) pins σ H1 s1) (hn:ξ K Γ x=ζ (ζ (.ref C)))
  (hx:Heap.MadeExcOf s1.heap h' ea (.ref C) args) (hE:E (.str x 0) θ H1):(fu (gC P w K) P w K mg base N qual scope f cd A outer s H E).xe (.ref ea) {s1 with heap:=h'}:=by
 have hfr:(A.deeper (envOfC qual scope s.heap.objs.size f cd)).frames=ζ (envOfC qual scope s.heap.objs.size f cd::outer):=I.ok.frames;have hst:=I.stack;have hsF:=I.Ay;have hb:=I.base;have hfs:frs (envOfC qual scope s.heap.objs.size f cd::outer)=s.heap.objs.size::frs outer:=rfl;have gu:∀b:Ω,b∉(fu (gC P w K) P w K mg base N qual scope f cd A outer s H E).ex:=λb z=>absurd (show b∈([]:List Ω)from z) (by simp)
 let as:=frs (envOfC qual scope s.heap.objs.size f cd::outer)
 have hin:∀env∈(envOfC qual scope s.heap.objs.size f cd::outer),∀a,env.frame=ζ a->a∈as:=λenv he b hb=>aj5.mpr ⟨env,he,hb⟩
 have hF:s1.heap.FunFrames (PySem.W.hideAll s1.heap as) (envOfC qual scope s.heap.objs.size f cd::outer):=PySem.W.funFrames_hide hst hin;show wpAny (model P w) (A.deeper (envOfC qual scope s.heap.objs.size f cd)) (leaving (envOfC qual scope s.heap.objs.size f cd) (.ref ea)) _ _ _;refine wpAny_leaves_madeW (base:=PySem.W.hideAll s1.heap as) hfr rfl (λb o q=>ak1 _ q) hF hx λh'' t fl _ _ up=>?_
 have uL:∀b o,s1.heap.get? b=ζ o->b∉as->(PySem.W.hideAll s1.heap as).get? b=ζ o:=λb o q n=>alM _ q n
 have st:(PySem.W.hideAll s1.heap as).StaysIn h'':=fl.1;have old:∀b o,s.heap.get? b=ζ o->b∉frs outer->b∉as:=λb o q n m=>by
  have m:b∈s.heap.objs.size::frs outer:=m
  rcases aio.mp m with e|m
  ·exact absurd (aim q) (by rw[e];exact ai4 _)
  ·exact n m
 have fD:∀b u,H1 b=ζ u->∃o,(PySem.W.hideAll s1.heap as).get? b=ζ o:=λb u e=>by
  have hna:b∉as:=λm=>by rw[hsF b m]at e;cases e
  have hlt:=(I.hok b u e).lt;obtain⟨o,ho⟩:∃o,s1.heap.get? b=ζ o:=by
   have:=(I.hok b u e);exact IS this
  exact⟨o,uL b o ho hna⟩
 refine⟨x,H1,I.os,I.bare,⟨λb o q n nf _=>?_,λb o q n hf _=>?_,λb o q n hx'=>hb.free b o q n hx',λb o q hx'=>?_,hb.tups,hb.gK,hb.gD⟩,Dd I.hok st (λb o q=>ak1 _ q) fD,⟨ea,C,t,_,rfl,hn,fl,fD,λb o q n=>?_,λb o q n nf=>?_⟩,hE⟩
 ·exact st b o (uL b o (hb.keep b o q n nf (gu b)) (old b o q nf))
 ·obtain⟨sl,e1⟩:=hb.slot b o q n hf (gu b);have hm:b∈as:=aiN _ hf;obtain⟨_,o2,ho2,hd2⟩:=hst.mem hm;rw[e1]at ho2;cases ho2;obtain⟨sl2,e2⟩:=up b _ (hx.keeps _ _ e1) hd2;exact⟨sl2,e2⟩
 ·obtain⟨o1,e1⟩:=hb.there b o q (gu b)
  by_cases hm:b∈as
  ·obtain⟨_,o2,ho2,hd2⟩:=hst.mem hm;obtain⟨sl2,e2⟩:=up b _ (hx.keeps _ _ ho2) hd2;exact⟨_,e2⟩
  ·exact⟨_,st b _ (uL b _ e1 hm)⟩
 ·obtain⟨o1,e1⟩:=hb.there b o q (gu b);exact⟨o1,uL b o1 e1 (old b o q n)⟩
 ·exact uL b o (hb.keep b o q n nf (gu b)) (old b o q nf)
theorem Zl{pins:List (Ω×Obj)}{σ:St}{H1 H2:Hp}{s1 s2:ε}{x:Str}{e:Ξ}(I:Inv (fu (gC P w K) P w K mg base N qual scope f cd A outer s H E) pins σ H1 s1) (hos:s2.os=s1.os) (hba:aa0 s2.gens)
  (un:Un (frs (envOfC qual scope s.heap.objs.size f cd::outer)) [] H1 H2 s1.heap s2.heap) (hok:cL P w H2 s2.heap) (DC:Gh K H2 (envOfC qual scope s.heap.objs.size f cd::outer) x s1.heap H1 e s2.heap) (hE:E (.str x 0) θ H2) :
  (fu (gC P w K) P w K mg base N qual scope f cd A outer s H E).xe e s2:=by
 obtain⟨ea,C,t,B,rfl,hn,fl,fD,old,eq⟩:=DC;have hfr:(A.deeper (envOfC qual scope s.heap.objs.size f cd)).frames=ζ (envOfC qual scope s.heap.objs.size f cd::outer):=I.ok.frames;have hst:=I.stack;have hb:=I.base;have gu:∀b:Ω,b∉(fu (gC P w K) P w K mg base N qual scope f cd A outer s H E).ex:=λb z=>absurd (show b∈([]:List Ω)from z) (by simp)
 let as:=frs (envOfC qual scope s.heap.objs.size f cd::outer)
 have olds:∀b o,s.heap.get? b=ζ o->b∉frs outer->b∉as:=λb o q n m=>by
  have m:b∈s.heap.objs.size::frs outer:=m
  rcases aio.mp m with e|m
  ·exact absurd (aim q) (by rw[e];exact ai4 _)
  ·exact n m
 have sh:∀b o,B.get? b=ζ o->s2.heap.get? b=ζ o:=fl.1;have uV:=fl.2.2.1;show wpAny (model P w) (A.deeper (envOfC qual scope s.heap.objs.size f cd)) (leaving (envOfC qual scope s.heap.objs.size f cd) (.ref ea)) _ _ _;refine wpAny_leaves_onW hfr rfl fl λh'' Lu up=>?_
 have st:B.StaysIn h'':=Lu.1;have I':s2.os=s.os:=hos.trans I.os;have frame:∀b,b∈as->∃o,s2.heap.get? b=ζ o/\∀vs,o.data≠.fields vs:=λb hm=>(uV.mem hm).2
 refine⟨x,H2,I',hba,⟨λb o q n nf _=>?_,λb o q n hf _=>?_,λb o q n _=>?_,λb o q _=>?_,λb xs q=>un.tups b xs (hb.tups b xs q),λb o u q=>un.gK b o u (hb.gK b o u q),λb ps q=>?_⟩,Dd hok st sh fD,⟨ea,C,t,B,rfl,hn,Lu,fD,λb o q n=>?_,λb o q n nf=>?_⟩,hE⟩
 ·exact st b o (eq b o (hb.keep b o q n nf (gu b)) (hb.free b o q n (gu b)) (olds b o q nf))
 ·obtain⟨sl,e1⟩:=hb.slot b o q n hf (gu b);have hm:b∈as:=aiN _ hf;obtain⟨sl2,e2⟩:=un.slot b _ e1 (hb.free b o q n (gu b)) hm (by simp)
  obtain⟨o3,x9,Di⟩:=frame b hm;rw[e2]at x9;cases x9;obtain⟨AD,e4⟩:=up b _ e2 Di;exact⟨AD,e4⟩
 ·obtain⟨o1,e1⟩:=hb.there b o q (gu b);exact un.free b o1 e1 (hb.free b o q n (gu b)) (by simp)
 ·obtain⟨o1,e1⟩:=hb.there b o q (gu b)
  by_cases hm:b∈as
  ·obtain⟨o3,x9,Di⟩:=frame b hm;obtain⟨AD,e4⟩:=up b _ x9 Di;exact⟨_,e4⟩
  ·obtain⟨o2,e2⟩:=old b o1 e1 hm;exact⟨_,st b _ e2⟩
 ·obtain⟨m1,q1⟩:=hb.gD b ps q;obtain⟨m2,q2⟩:=un.gD b _ q1;exact⟨m1++m2,by rw[q2,alN]⟩
 ·obtain⟨o1,e1⟩:=hb.there b o q (gu b);exact old b o1 e1 (olds b o q n)
 ·exact eq b o (hb.keep b o q n nf (gu b)) (hb.free b o q n (gu b)) (olds b o q nf)
theorem agu{x:Str}{H2:Hp}(hE:E (.str x 0) θ H2):zR (fu (gC P w K) P w K mg base N qual scope f cd A outer s H E) x H2 :=
 ⟨λpins σ H1 s1 e s2 I h1 h2 h3 h4 h5=>Zl I h1 h2 h3 h4 h5 hE,λpins σ s1 ea C args h' I hn hx=>Zm I hn hx hE⟩
end
section
variable {X:Cx}
theorem S9{x:Str}{C:Ω}{B newId initId:String}{bm:List Ξ}{txt:Str}{j:Nat}{np cpos pos tpos:Pos}{t:TS}(hn:ξ X.K Γ x=ζ (ζ (.ref C))) (hm:X.mg x=ζ (.ref C)) (hO:∀h,X.K.In h->OwnCls x C bm newId X.mg h) (FB:ExcBaseFacts B newId initId bm) (hc:X.calm=Θ)
  (ht:∀D σ H,t D σ H->zR X x H) (hg:Gl X x:=by rfl) (hd:(x==("__debug__":Str))=Ψ:=by decide):PS X (.Raise (ζ (.Call (.Name x np) [.Constant (.str txt) j tpos] [] cpos)) θ pos) t:=by
 intro pins s σ H D I h;have acc:=ht D σ H h;obtain⟨tl,N,nm,q,bs,hdct,sn,sub,ab,col,dd,k0,k1,k2,k3,k5,mN,hC,hN,hni,T⟩:=(hO s.heap I.dU).obj;refine wpAny_Raise_call_subT (C:=C) (nm:=nm) (q:=q) (N:=N) (bs:=bs) (bm:=tl) (hdct:=hdct) (sn:=sn) (sub:=sub) (ab:=ab) (col:=col) (dd:=dd) (k0:=k0) (k1:=k1) (k2:=k2) (k3:=k3) (k5:=k5)
  FB (mN:=mN) (T.hasType FB.hasBase) (I.ok.hd hc) (by rfl) hni (uH I hg hm ⟨rfl,?_⟩ hd)
 have hs:μ [Expr.Constant (.str txt) j tpos] X.env=[(Ψ,eval (.Constant (.str txt) j tpos) X.env)]:=by simp only[μ]
 rw[hs];refine Calls.evalArgs_plain ?_;show wpAny _ _ (spliced ((Ψ,eval (Expr.Constant (.str txt) j tpos) X.env)::[])) _ _ _;refine Calls.spliced_cons (Calls.Constant_str ?_);refine Calls.spliced_nil ?_;refine⟨rfl,by show 1<=ι;decide,hC,hN,T,λh' e hx=>?_⟩
 exact acc.2 pins σ _ e C _ h' (I.tok _) hn hx
end
abbrev Xd:=Ev->aa->R Str
def As(X:Cx) (P:Str->Hp->Prop) (d:Xd):St->Hp->Prop:=λσ H=>tD X.K (λ_ _ a b=>a=b) d σ H P
abbrev zI(X:Cx) (P:Str->Hp->Prop) (st:aaM) (d:Xd):Prop:=PS X st λ_ σ H=>As X P d σ H
abbrev jZ(X:Cx) (P:Str->Hp->Prop) (st:List aaM) (d:Xd):Prop:=eu X st λ_ σ H=>As X P d σ H
abbrev Np(X:Cx) (P:Str->Hp->Prop) (e:π) (d:Xd):Prop:=PE X e λσ H _=>As X P d σ H
def pL(K:Δ) (n:Nat) (m:List D->aa->R Str):Sp:=λvs H _ E=>∃ρ xs c,Wd K ρ H c/\aN K ρ H xs vs/\xs.length=n/\post K (λ_ _ a b=>a=b) (m xs c) ρ H λx H'=>E (.str x 0) θ H'
def fnX(n:Nat) (d:Xd):List D->aa->R Str:=λxs c=>(d (cD n xs) c).bind λx c'=>.ok x (c'.take c.length)
def jF(t:ai) (a b:Xd):Xd:=λe c=>(t e c).bind λk c=>if k=Θ then a e c else b e c
def sW(x:Str):Xd:=λ_ c=>.ok x c
def Al:Xd:=λ_ _=>.bad
def i7(n:Nat) (m:List D->aa->R Str) (a:aj):Xd:=λe c=>(a e c).bind λxs c=>if xs.length=n then m xs c else .bad
section
variable {X:Cx}{P:Str->Hp->Prop}{st:aaM}{sts rest:List aaM}{e:π}{a b d u:Xd}{t:ah}{pos:Pos}
theorem PA.fH{es:List π}{t:TA}(h:PA X.fH es t):PA X es t:=λpos pins s σ H Q I hw =>
 aiO (h pos pins s σ H Q (I.ig _) hw) (λ_ _ ⟨v,H',I',r,q⟩=>⟨v,H',I'.i8,r,q⟩) λ_ _ z=>False.elim z
theorem Gr:jZ X P sts Al:=λpins s σ H D I h=>by
 obtain⟨ρ,e,c,W,V,p⟩:=h;exact p.elim
theorem S3:eu X sts λ_ _ _=>False:=λ_ _ _ _ _ _ h=>h.elim
theorem iZ(h:zI X P st d):jZ X P (st::rest) d:=(HQ h (S3 (sts:=rest))).imp λZ σ H q=>q
theorem vN{c':π}{A B:List aaM}{tc:ai}(hc:gZ X.fH c' tc) (ha:jZ X P A a) (hb:jZ X P B b):zI X P (.If c' A B pos) (jF tc a b):=(HR (PT.fH hc) ha hb).imp λZ σ H h=>by
 obtain⟨ρ,e,c,W,V,p⟩:=h;refine⟨ρ,e,c,W,V,post.bind p λx c1 aJ H1 v _ W1 X1 r1 p1=>?_⟩
 cases r1;cases x with
 |true=>exact jP ⟨aJ,e,c1,W1,V.mono W X1,p1⟩
 |false=>exact jQ ⟨aJ,e,c1,W1,V.mono W X1,p1⟩
theorem sQ(he:Np X P e d) (hs:swapsWith e θ pos.line X.env=pure Ψ:=by rfl):zI X P (.Expr e pos) d:=(HU he hs).imp λZ σ H h=>h
structure vA (K:Δ) (mg:Str->Option Ξ) (x:Str) (bm:List Ξ) (newId:String):Prop where
 ex:∃C,ξ K Γ x=ζ (ζ (.ref C))/\mg x=ζ (.ref C)/\∀h,K.In h->OwnCls x C bm newId mg h
theorem Gq{x:Str}{B newId initId:String}{bm:List Ξ}{txt:Str}{j:Nat}{np cpos tpos:Pos}(hC:vA X.K X.mg x bm newId) (FB:ExcBaseFacts B newId initId bm) (hc:X.calm=Θ:=by rfl) (hg:Gl X x:=by rfl) (hd:(x==("__debug__":Str))=Ψ:=by decide) :
  zI X (zR X) (.Raise (ζ (.Call (.Name x np) [.Constant (.str txt) j tpos] [] cpos)) θ pos) (sW x):=by
 obtain⟨C,hn,hm,hO⟩:=hC.ex;refine S9 hn hm hO FB hc (λZ σ H h=>?_) hg hd
 obtain⟨ρ,e,c,W,V,p⟩:=h;exact p.here W rfl
theorem sR{x:Str}{st:aaM}{ps:List Str}{f:Ω}{fd:ο}{k n:Nat}{m:List D->aa->R Str}{e:π}{es:List π}{da:aj}{p:Pos}(D:Def X.K X.mg x st ps f fd) (G:bK X.prog X.w X.K X.mg X.base (gC X.prog X.w X.K) k f fd ps (pL X.K n m)) (hr:dG k X.A) (ha:eH X.fH (e::es) da) (hx:∀x H',P x H'->vJ X x H':=by first|exact λ_ _ h=>h.1|exact λ_ _ h=>h) (hg:Gl X x:=by rfl)
  (hdb:(x==("__debug__":Str))=Ψ:=by decide) (he:μ (e::es) X.env=(Ψ,eval e X.env)::μ es X.env:=by exact bT rfl) (hpl:(aaQ pos (μ es X.env)).any (·.1)=Ψ:=by exact eB rfl) :
  Np X P (.Call (.Name x p) (e::es) [] pos) (i7 n m da) :=
 (Ih G hr hg D.at' D.fn.kp D.bd .nil (Vj (X:=X)) (PA.fH ha) hdb he hpl).imp λσ H Q h=>by
  obtain⟨ρ,e,c,W,V,q⟩:=h;refine⟨ρ,e,c,W,V,post.bind q λxs c1 aJ H1 vs _ W1 X1 r1 p1=>?_⟩
  split at p1
  ·rename_i hl;refine⟨aJ,xs,c1,W1,by rw[ajv];exact r1,hl,post.mono p1 λx H' acc y hy=>?_⟩
   cases hy;exact hx _ _ acc
  ·exact p1.elim
end
section
variable {P:τ}{w:ψ}{K:Δ}{mg:Str->Option Ξ}{base:χ}
theorem ym{x qual:Str}{st:aaM}{f:Ω}{fd:ο}{N ps:List Str}{k n m:Nat}{d:Xd}(F:j5 K x qual st f fd) (S:b6 N ps (aR st)) (hN:N.length=n) (hm:ps.length=m)
  (hb:∀(cdv:Ξ) (A:ω) (outer:List Env) (s:ε) (H:Hp) (E:XK),dG k (A.deeper (envOfC qual (aR st) s.heap.objs.size f cdv))->jZ (fu (gC P w K) P w K mg base N qual (aR st) f cdv A outer s H E) (zR (fu (gC P w K) P w K mg base N qual (aR st) f cdv A outer s H E)) (bZ st) d) :
  bK P w K mg base (gC P w K) (k+1) f fd ps (pL K m (fnX n d)):=by
 subst hN;subst hm;obtain⟨oc,od,kV,doc,pm,an,cdv,ct,osl,rfl,lk,hcd⟩:=F.ex;refine Lo lk hcd S (λvs H Q E h=>?_) λA outer s H vs Q E hr h=>⟨_,hb cdv A outer s H E hr,?_⟩
 ·obtain⟨ρ,xs,c,W,r,hl,p⟩:=h;exact r.length.trans hl
 ·obtain⟨ρ,xs,c,W,r,hl,p⟩:=h;refine⟨ρ,cD N.length xs,c,W,cU.start r,post.bind p λy c1 aJ H1 b _ W1 X1 r1 p1=>?_⟩
  cases r1;refine agu ?_;have hn:=Ext.len W W1 X1;have p0:=p;unfold fnX at p0;rename_i he;rw[he,R.aC]at p0;exact p0 (aJ.take c.length) H1 _ (W1.cut hn) (X1.cut (ajp W.len)) rfl
end
abbrev Cx.held(X:Cx) (e:Ξ):Cx:={X with A:=X.A.mark (ζ e),calm:=Ψ,xe:=λ_ _=>False}
abbrev Cx.tried(X:Cx) (W:Ξ->ε->Prop) (pn:List (Ω×Obj)):Cx:={X with xe:=W,pn:=pn}
section
variable {X:Cx}{pins qG:List (Ω×Obj)}{σ:St}{H H1 H2:Hp}{s s1 s2:ε}
theorem Cx.Ok.held(ok:X.Ok) (e:Ξ):(X.held e).Ok :=
 ⟨ok.mod,ok.kind,ok.glob,ok.blt,ok.above,ok.inj,ok.has,ok.jA,(λz=>by cases z),ok.frames,ok.stk,ok.kP,ok.bs,ok.gV,ok.iP,ok.jT,ok.gv,ok.jv⟩
theorem Cx.Ok.tried(ok:X.Ok) (W:Ξ->ε->Prop) (pn:List (Ω×Obj)):(X.tried W pn).Ok :=
 ⟨ok.mod,ok.kind,ok.glob,ok.blt,ok.above,ok.inj,ok.has,ok.jA,ok.hd,ok.frames,ok.stk,ok.kP,ok.bs,ok.gV,ok.iP,ok.jT,ok.gv,ok.jv⟩
theorem Cx.Ok.vW{W:Ξ->ε->Prop}{pn:List (Ω×Obj)}(ok:(X.tried W pn).Ok):X.Ok :=
 ⟨ok.mod,ok.kind,ok.glob,ok.blt,ok.above,ok.inj,ok.has,ok.jA,ok.hd,ok.frames,ok.stk,ok.kP,ok.bs,ok.gV,ok.iP,ok.jT,ok.gv,ok.jv⟩
theorem Inv.held(I:Inv X pins σ H s) (e:Ξ):Inv (X.held e) pins σ H s:=⟨I.ok.held e,I.os,I.bare,I.base,I.loc,I.cell,I.free,I.fN,I.pin,I.hok,I.len⟩
theorem Inv.OZ{e:Ξ}(I:Inv (X.held e) pins σ H s) (ok:X.Ok):Inv X pins σ H s:=⟨ok,I.os,I.bare,I.base,I.loc,I.cell,I.free,I.fN,I.pin,I.hok,I.len⟩
theorem Inv.tried(I:Inv X pins σ H s) (W:Ξ->ε->Prop):Inv (X.tried W (X.pn++pins)) [] σ H s:=⟨I.ok.tried W _,I.os,I.bare,I.base,I.loc,I.cell,I.free,I.fN,λp hp=>I.pin p (by simpa using hp),I.hok,I.len⟩
theorem Inv.vW{W:Ξ->ε->Prop}(I:Inv (X.tried W (X.pn++pins)) qG σ H s):Inv X pins σ H s:=⟨I.ok.vW,I.os,I.bare,I.base,I.loc,I.cell,I.free,I.fN,λp hp=>I.pin p (ak2 _ hp),I.hok,I.len⟩
theorem abZ(ok:X.Ok) {b:Ω}(h:b∈X.fs):b∈frs X.stack:=by
 rcases ok.stk with e|⟨e,hf⟩
 ·rw[e];exact h
 ·rw[e];unfold frs;rw[ajQ,hf];exact aiN _ h
theorem land{ea C:Ω}{t:Ω}{B h':χ}(I:Inv X pins σ H1 s1) (hos:s2.os=s1.os) (hba:aa0 s2.gens) (un:Un (frs X.stack) [] H1 H2 s1.heap s2.heap) (hok:cL X.prog X.w H2 s2.heap)
  (DF:aaS B X.stack ea (.ref C) (.ref t) s2.heap) (fl:aaS B X.stack ea (.ref C) (.ref t) h') (up:s2.heap.UpToSlots h') (fD:∀b u,H2 b=ζ u->∃o,B.get? b=ζ o)
  (old:∀b o,s1.heap.get? b=ζ o->b∉frs X.stack->∃o',B.get? b=ζ o') (eq:∀b o,s1.heap.get? b=ζ o->H1 b=θ->b∉frs X.stack->B.get? b=ζ o) :
  H2 ea=θ/\Inv X pins σ (upd H2 ea (.ext (kQ ea C))) {s2 with heap:=h'}:=by
 have st:B.StaysIn h':=fl.1;have hne:B.get? ea=θ:=fl.2.1;have hfree:H2 ea=θ:=by
  cases q:H2 ea with
  |none=>rfl
  |some u=>obtain⟨o,ho⟩:=fD ea u q;rw[hne]at ho;cases ho
 obtain⟨oe,he,hc⟩:=fl.there;have abh:∃vs,oe.data=.fields vs:=by
  obtain⟨ob,ws,h1,h2,h3,_⟩:=fl.first;rw[he]at h1;cases h1;exact⟨_,h3⟩
 have jq:∀b∈frs X.stack,b≠ea:=λb hb e=>by
  subst e;obtain⟨_,o,ho,hd⟩:=fl.2.2.1.mem hb;rw[he]at ho;cases ho;obtain⟨vs,q⟩:=abh;exact hd vs q
 have hs1:s1.heap.get? ea=θ:=by
  cases q:s1.heap.get? ea with
  |none=>rfl
  |some o =>
   obtain⟨o',ho'⟩:=old ea o q λm=>jq ea m rfl
   rw[hne]at ho';cases ho'
 have ne1:∀b o,s1.heap.get? b=ζ o->b≠ea:=λb o q e=>by subst e;rw[hs1]at q;cases q
 have neT:∀b u,H1 b=ζ u->b≠ea:=λb u q=>by
  obtain⟨o,ho⟩:=IS (I.hok b u q);exact ne1 b o ho
 have x8:cL X.prog X.w H2 h':=Dd hok st DF.1 fD;have aa2:cL X.prog X.w (upd H2 ea (.ext (kQ ea C))) h':=λa o e=>by
  by_cases ha:a=ea
  ·subst ha;rw[gi]at e;cases e;exact⟨⟨oe,he,hc⟩,⟨oe,he⟩,λh1 h2 ⟨o,ho,hoc⟩ k=>⟨o,k o ho,hoc⟩⟩
  ·rw[bM ha]at e;refine(x8 a o e).stay (λb u _ q=>q) (λb q=>?_) λb xs q=>?_
   ·rw[bM (dz q hfree)];exact q
   ·rw[bM (dz q hfree)];exact q
 refine⟨hfree,?_⟩;have key:=I.step (h':=h') (H':=upd H2 ea (.ext (kQ ea C))) (g':=s2.gens) (t':=s2.toks) (d':=s2.drawn) (ch:=[]) (λ_ z=>nomatch z)
  (λb o hb hf _ q n=>st b o (eq b o q n λm=>by
   rcases aio.mp (I.nL b m)with z|z
   ·exact hb z
   ·exact hf z))
  (λb o hb hf _ q n=>by
   have hm:=abZ I.ok hf;obtain⟨sl,e1⟩:=un.slot b o q n hm (by simp)
   obtain⟨_,o2,ho2,hd2⟩:=DF.2.2.1.mem hm;rw[e1]at ho2;cases ho2;obtain⟨sl2,e2⟩:=up b _ e1 hd2;exact⟨sl2,e2⟩)
  (λb o _ q n=>by rw[bM (ne1 b o q)];exact un.free b o q n (by simp))
  (λb o _ q=>by
   by_cases hm:b∈frs X.stack
   ·obtain⟨_,o2,ho2,hd2⟩:=DF.2.2.1.mem hm;obtain⟨sl2,e2⟩:=up b _ ho2 hd2;exact⟨_,e2⟩
   ·obtain⟨o',ho'⟩:=old b o q hm;exact⟨o',st b o' ho'⟩)
  (λb xs q=>by rw[bM (neT b _ q)];exact un.tups b xs q) (λb o u q=>by rw[bM (neT b _ q)];exact un.gK b o u q) (λb ps q=>by
   obtain⟨m,e⟩:=un.gD b ps q;exact⟨m,by rw[bM (neT b _ q)];exact e⟩)
  (λm hn=>by
   by_cases hm:X.env.locals∈frs X.stack
   ·obtain⟨o,es,ep,ho,hd,r⟩:=hn;obtain⟨sl,e1⟩:=un.slot _ o ho I.free hm (by simp)
    exact up.ns ⟨_,es,ep,e1,hd,r⟩
   ·obtain⟨o,es,ep,ho,hd,r⟩:=hn;exact⟨o,es,ep,st _ _ (eq _ o ho I.free hm),hd,r⟩) aa2 hba
 obtain⟨h2,g2,d2,t2,o2⟩:=s2;have e:o2=s1.os:=hos;subst e;exact key
theorem Ye{n:Str}{hpos:Pos}{E:Ξ->ε->Prop}{Q:Unit->ε->Prop}(I:Inv X pins σ H s) (hl:X.env.kindOf n=ζ .local) (h:∀s',Inv X pins (ν X.N.length θ) H s'->Q () s') :
  wpAny (model X.prog X.w) X.A (do bindName X.env n .none;unbindBehindTheSuite X.env n hpos) Q E s:=by
 obtain⟨m,hn,_⟩:=I.loc;refine wpAny_nameGoes hl hn (by rw[I.ok.kind];rfl) λh' m' hn' sb=>?_
 have qL:∀b o,b≠X.env.locals->s.heap.get? b=ζ o->h'.get? b=ζ o:=λb o hb e=>(sb.2 b hb).trans e
 have qQ:∀b o,X.s₀.heap.get? b=ζ o->b≠X.env.locals:=λb o e=>aiq (aiz (aim e) I.ok.above)
 have B:=I.base;refine h _ ⟨I.ok,I.os,I.bare,⟨λb o q n f x=>qL b o (qQ b o q) (B.keep b o q n f x),λb o q n f x=>?_,B.free,λb o q x=>?_,B.tups,B.gK,B.gD⟩,⟨m',hn',λi x v _ h _=>?_⟩,λx c e=>?_,I.free,I.fN,λp hp=>?_,λa o e=>?_,by simp⟩
 ·obtain⟨sl,e⟩:=B.slot b o q n f x;exact⟨sl,qL b _ (qQ b o q) e⟩
 ·obtain⟨o',e⟩:=B.there b o q x;exact⟨o',qL b _ (qQ b o q) e⟩
 ·rw[akv]at h;split at h<;>cases h
 ·obtain⟨v,o,ho,hd⟩:=I.cell x c e;refine⟨v,o,qL c o (λz=>?_) ho,hd⟩
  obtain⟨o',es,ep,ho',hd',_⟩:=hn;rw[z,ho']at ho;cases ho;rw[hd']at hd;cases hd
 ·obtain⟨p1,p2,p3,p4,p5⟩:=I.pin p hp;exact⟨qL _ _ p3 p1,p2,p3,p4,p5⟩
 ·refine(I.hok a o e).stay (λb u hb q=>qL b u (λz=>?_) q) (λ_ q=>q) λ_ _ q=>q
  subst z
  rcases hb with rfl|hb
  ·rw[I.free]at e;cases e
  ·rw[I.free]at hb;cases hb
theorem S6{i:Nat}{n cn:Str}{Cn:Ω}{body:List aaM}{b₀:aaM}{suite:List aaM}{np hpos pos:Pos}{tb:(Str->Hp->Prop)->St->Hp->Prop}{th:Ω->TS}
  (hB:∀W pn,eu (X.tried W pn) body λ_ σ H=>tb (vJ (X.tried W pn)) σ H) (mono:∀(A A':Str->Hp->Prop) σ H,(∀x H',A x H'->A' x H')->tb A σ H->tb A' σ H) (hS:∀ea,eu (X.held (.ref ea)) (b₀::suite) (th ea))
  (hN:X.N.Nodup) (hi:X.N[i]? = ζ n) (hl:X.env.scope.names.lookup n=ζ .local) (hg:Gl X cn) (hm:X.mg cn=ζ (.ref Cn)) (jq:X.stack=X.env::X.outer/\X.env.frame=ζ X.env.locals) (hd:(cn==("__debug__":Str))=Ψ:=by decide) :
  PS X (.Try body [.ExceptHandler (ζ (.Name cn np)) (ζ n) (b₀::suite) hpos] [] [] pos) λD σ H=>tb (λx H2=>∃C,ξ X.K Γ x=ζ (ζ (.ref C))/\PySem.W.exmOne X.K (.ref C) (.ref Cn)=ζ Θ /\
   ∀(ea:Ω) (σ':St),σ'.length=X.N.length->H2 ea=θ->th ea {nx:=λ_ _=>False,rt:=D.rt} (σ'.set i (ζ (.ref ea))) (upd H2 ea (.ext (kQ ea C)))) σ H:=by
 intro pins s σ H D I h;refine wpAny_Try_except ?_;refine aiO (hB (λe s₁=>wpAny (model X.prog X.w) X.A (noteFrame e X.env) (λ_ s₂=>wpAny (model X.prog X.w) X.A (setFlight e θ) (λ_ s₃=>wpAny (model X.prog X.w) X.A (handleBy e X.env [.ExceptHandler (ζ (.Name cn np)) (ζ n) (b₀::suite) hpos]) (SP X pins D) X.xe s₃) X.xe s₂) X.xe s₁) (X.pn++pins)
  [] s σ H {nx:=λ_ _=>False,rt:=λ_ _=>False} (I.tried _) (mono _ _ σ H (λx H2 acc=>?_) h)) (λf s' q=>?_) λ_ _ z=>z
 ·obtain⟨C,hn,hx,hth⟩:=acc;intro qG σ' H1 s1 e s2 I1 hos hba un hok DC;obtain⟨ea,C',t,B,rfl,hn',fl,fD,old,eq⟩:=DC;have KD:ξ X.K Γ x=ζ (ζ (.ref C')):=hn';rw[hn]at KD;cases KD;have ok:X.Ok:=I.ok;have hfr:X.A.frames=ζ (X.env::X.outer):=by rw[ok.frames,jq.1]
  have fl:aaS B (X.env::X.outer) ea (.ref C) (.ref t) s2.heap:=by
   have z:aaS B X.stack ea (.ref C) (.ref t) s2.heap:=fl;rw[jq.1]at z;exact z
  show wpAny (model X.prog X.w) X.A (noteFrame (.ref ea) X.env) _ _ s2;refine wpAny_looks_onW hfr jq.2 fl λh3 held OY=>?_
  refine wpAny_landsW held λh4 DE OX=>?_
  have GL:s2.heap.UpToSlots h4:=OY.trans OX;have L4:=land (X:=X.tried _ _) I1 hos hba un hok (by show aaS B X.stack _ _ _ _;rw[jq.1];exact fl) (by show aaS B X.stack _ _ _ _;rw[jq.1];exact DE) GL fD old eq
  have I4:Inv X pins σ' (upd H2 ea (.ext (kQ ea C))) {s2 with heap:=h4}:=L4.2.vW
  refine wpAny_handleBy_cons (codeAny_handlers_test ?_) (by intro q;cases q)
  refine uH (X:=X.held (.ref ea)) (I4.held _) hg hm ?_ hd;have LT:PySem.W.Looks (model X.prog X.w) h4 (typeOf (.ref ea)) (.ref C):=by
   obtain⟨ob,hob,hc⟩:=DE.there;rw[<-hc];exact(PySem.W.Looks.ld hob).andThen .now
  refine(PySem.W.exm_one I4.dU LT hx).here ?_;dsimp only;refine codeAny_handlers_suite_as ?_;refine lands_againW DE λh5 fl5 OW=>?_
  have L5:=land (X:=X.tried _ _) I1 hos hba un hok (by show aaS B X.stack _ _ _ _;rw[jq.1];exact fl) (by show aaS B X.stack _ _ _ _;rw[jq.1];exact fl5) (GL.trans OW) fD old eq
  have I5:Inv X pins σ' (upd H2 ea (.ext (kQ ea C))) {s2 with heap:=h5}:=L5.2.vW
  refine Ax (X:=X.held (.ref ea)) (v:=.ref ea) (I5.held _) hN hi (.inl hl) rfl (λs6 I6=>?_) (.inr hl)
  refine aiO (hS ea pins s6 _ _ {nx:=λ_ _=>False,rt:=D.rt} I6 (hth ea σ' (by rw[I5.len]) L5.1)) (λf s7 q=>?_) λ_ _ z=>z.elim
  cases f with
  |next=>obtain⟨_,_,_,z⟩:=q;exact z.elim
  |brk=>obtain⟨_,_,_,z⟩:=q;exact z.elim
  |cont=>obtain⟨_,_,_,z⟩:=q;exact z.elim
  |ret u =>
   obtain⟨v,iI,H7,I7,rv,q7⟩:=q;exact Ye (X:=X) (I7.OZ ok) hl λs8 I8=>⟨v,_,H7,I8,rv,q7⟩
 ·cases f with
  |next=>obtain⟨_,_,_,z⟩:=q;exact z.elim
  |brk=>obtain⟨_,_,_,z⟩:=q;exact z.elim
  |cont=>obtain⟨_,_,_,z⟩:=q;exact z.elim
  |ret u=>obtain⟨_,_,_,_,_,z⟩:=q;exact z.elim
end
end L2
namespace PySem.W
open PySem PySem.Spec PySem.Calls PyProof.Rows Builtin Builtin.ObjectAttr Builtin.Getset_descriptor
structure j6 (K:Frag) (C:Ω):Prop where
 ga:findIn K (.ref C) "__getattribute__"=ζ (ζ (.builtin "BaseException.__getattribute__"))
 gn:findIn K (.ref C) "__getattr__"=ζ θ
 cl:findIn K (.ref C) "__class__"=ζ (ζ (.builtin "object.__class__"))
 ob:mroIn K C (.type "object")=ζ Θ
 be:subIn K (.ref C) (.type "BaseException")=ζ Θ
 cc:(clsIn K C).isSome=Θ
def Ej(K:Frag) (C:Ω):Bool:=findIn K (.ref C) "__getattribute__"==ζ (ζ (.builtin "BaseException.__getattribute__"))&&findIn K (.ref C) "__getattr__"==ζ θ&&findIn K (.ref C) "__class__"==ζ (ζ (.builtin "object.__class__")) &&
 mroIn K C (.type "object")==ζ Θ&&subIn K (.ref C) (.type "BaseException")==ζ Θ&&(clsIn K C).isSome
theorem j6.of{K:Frag}{C:Ω}(h:Ej K C=Θ):j6 K C:=by
 unfold Ej at h;simp only[aiy,beq_iff_eq]at h;exact⟨h.1.1.1.1.1,h.1.1.1.1.2,h.1.1.1.2,h.1.1.2,h.1.2,h.2⟩
section
variable {prog:τ}{w:ψ}{A:ω}{E:Ξ->ε->Prop}{K:Frag}{h:χ}{g:Array abc}{d:Drawn}{t:Nat}{os:OsState}{a C:Ω}{o:Obj}
theorem acE{R:abI->ε->Prop}{tp:Ξ}(Z:j6 K C) (X:K.In h) (hx:h.get? a=ζ o) (hc:o.cls=.ref C) (hq:R (.ok (.ret (.ref C))) ⟨h,g,d,t,os⟩) :
  codeAny (model prog w) A (.call (.builtin "getset_descriptor.__get__") ⟨[.builtin "object.__class__",.ref a,tp],[]⟩) R ⟨h,g,d,t,os⟩:=by
 have L0:Looks (model prog w) h (typeOf (.ref a)) (.ref C):=hc▸(Looks.ld hx).andThen .now;have L1:=looks_mroIn (M:=model prog w) X Z.ob;refine akh KF.slot_gs.plain KF.entry_gs (KF.slot_gs.check _ _ _ _ _ _ _ _ KF.type_class (KF.args_gs _ _ _) ?_);unfold Builtin.«getset_descriptor.__get__» descrGet;rw[dga_obj];refine aih (aii ?_);unfold descrGetter descrCheckInstance descrNameAndClass isInstance;simp only[KF.owner_class]
 repeat lk
 refine⟨akH _ (by decide +kernel),ajr KF.entry_class ?_⟩
 unfold Builtin.«object.__class__» shownTypeOf
 repeat lk
 exact hq
theorem acF{tk:Tok}{Q:Fin->ε->Prop}(Z:j6 K C) (X:K.In h) (hx:h.get? a=ζ o) (hc:o.cls=.ref C) (hq:Q (.done (.ret (.ref C))) ⟨h,g,d,t,os⟩) :
  wpAny (model prog w) A (Builtin.«object.__getattribute__» ⟨[.ref a,.str "__class__" tk],[]⟩) Q E ⟨h,g,d,t,os⟩:=by
 have hT5:(⟨h,g,d,t,os⟩:ε).TypeIs (.builtin "object.__class__") "getset_descriptor":=al6;have f5:=al6;have f6:=F.slot_gs_get.lookup;have f7:=F.slot_gs_set.lookup;have L1:=looks_findIn (M:=model prog w) X Z.cl
 repeat (any_goals (first|assumption|(with_reducible refine alc hx ?_;rw[hc])|with_reducible refine L1.at ?_|wp_step))
 refine acE Z X hx hc ?_
 repeat (any_goals (first|assumption|wp_step))
theorem acJ{nameV:Ξ}{Q:Unit->ε->Prop}(Z:j6 K C) (X:K.In h) (hx:h.get? a=ζ o) (hc:o.cls=.ref C) (hq:Q () ⟨h,g,d,t,os⟩) :
  wpAny (model prog w) A (checkBuiltinCall "BaseException.__getattribute__" ⟨[.ref a,nameV],[]⟩) Q E ⟨h,g,d,t,os⟩:=by
 have hk:builtinKind "BaseException.__getattribute__"=ζ .slot:=by decide +kernel
 have hsplit:splitId "BaseException.__getattribute__"=ζ ("BaseException","__getattribute__"):=by decide +kernel
 have ha:=F.args_bexc_ga (.ref a) nameV;have L1:=looks_subIn (M:=model prog w) X Z.be;simp only[checkBuiltinCall,hk,hsplit];refine aih ?_
 ·unfold isInstance
  repeat (first|(with_reducible refine alc hx ?_;rw[hc])|with_reducible refine L1.at ?_|wp_step)
  exact hq
theorem acG{tk:Tok}{R:abI->ε->Prop}(Z:j6 K C) (X:K.In h) (hx:h.get? a=ζ o) (hc:o.cls=.ref C) (hq:R (.ok (.ret (.ref C))) ⟨h,g,d,t,os⟩) :
  codeAny (model prog w) A (.call (.builtin "BaseException.__getattribute__") ⟨[.ref a,.str "__class__" tk],[]⟩) R ⟨h,g,d,t,os⟩ :=
 akh F.excAttr_ValueError.ga.plain F.entry_bexc_ga (acJ Z X hx hc (acF Z X hx hc hq))
theorem acH{tk:Tok}{Q:Ξ->ε->Prop}(Z:j6 K C) (X:K.In h) (hx:h.get? a=ζ o) (hc:o.cls=.ref C) (hq:Q (.ref C) ⟨h,g,d,t,os⟩):wpAny (model prog w) A (getAttrBy (.ref a) (.str "__class__" tk) Ψ) Q E ⟨h,g,d,t,os⟩:=by
 have f3:=F.excAttr_ValueError.ga.bind (.ref a);have hx2:(Value.builtin "BaseException.__getattribute__"==Value.builtin "object.__getattribute__")=Ψ:=by decide +kernel
 have hx1:(onTheHeap (Value.ref C)&&Value.builtin "BaseException.__getattribute__"==Value.builtin "object.__getattribute__")=Ψ:=by rw[hx2];rfl
 have L1:=looks_findIn (M:=model prog w) X Z.ga;have L2:=looks_findIn (M:=model prog w) X Z.gn
 repeat (any_goals (first|assumption|(with_reducible refine alc hx ?_;rw[hc])|with_reducible refine L1.at ?_|with_reducible refine L2.at ?_|wp_step))
 refine acG Z X hx hc ?_
 repeat (any_goals (first|assumption|wp_step))
theorem acI{Q:Option Ξ->ε->Prop}(Z:j6 K C) (X:K.In h) (hx:h.get? a=ζ o) (hc:o.cls=.ref C) (hq:Q (ζ (.ref C)) ⟨h,g,d,t+1,os⟩):wpAny (model prog w) A (getAttr? (.ref a) "__class__") Q E ⟨h,g,d,t,os⟩:=by
 unfold getAttr? getAttrBy?
 repeat (any_goals (first|assumption|with_reducible apply acH Z X hx hc|wp_step))
theorem J3(Z:j6 K C):KitX K (.ref a) (.ref C) (L2.kQ a C) where
 ty:=λM h _ ⟨o,hx,hc⟩=>hc▸(Looks.ld hx).andThen .now
 it:=λ_ _ X _=>by
  have oA:=Z.cc;unfold clsIn at oA;split at oA
  ·rename_i c' d' cd' AE ho;intro A' Q' E' s' k q;unfold isType loadHead;exact aih (wpAny_loadPart (k _ _ (X _ _ ho)) (aii q))
  ·cases oA
 ne:=λh tp dd its n sl X htp=>by
  have oA:=Z.cc;refine Bool.eq_false_iff.mpr λq=>?_
  have e:C=tp:=Value.ref.inj (beq_iff_eq.mp q);subst e;unfold clsIn at oA;split at oA
  ·rename_i c' d' cd' AE ho;have z:=(X _ _ ho).symm.trans htp;cases z
  ·cases oA
 ca:=fun{_ _ _ _ _ s} X ⟨o,hx,hc⟩ k=>by obtain⟨h,g,d,t,os⟩:=s;exact acI Z X hx hc k
end
end PySem.W
namespace L2
open PySem PySem.Spec PyProof.Rows
structure iY (k:Nat) (A:ω):Prop where
 dp:A.depth+3*k+5<recursionLimit
 un:A.units+16*k+200<aba
theorem iY.deeper{k:Nat}{A:ω}(r:iY (k+1) A) (env:Env):iY k (A.deeper env) :=
 ⟨by have:=r.dp;show A.depth+1+3*k+5<_;omega,by have:=r.un;show A.units+3+16*k+200<_;omega⟩
theorem iY.depth{k:Nat}{A:ω}(r:iY k A):A.depth<recursionLimit:=by have:=r.dp;omega
structure zP (P:τ) (w:ψ) (K:Δ) (mg:Str->Option Ξ) (base:χ) (k:Nat) (f:Ω) (fd:ο) (ps:List Str) (sp:Sp):Prop where
 len:∀vs H Q E,sp vs H Q E->vs.length=ps.length
 run:∀(A:ω) (outer:List Env) (s:ε) (H:Hp) (args:Args) (us:List Ξ) (vs:List V) (Q:VK) (E:XK),iY k A->sM P w K mg base A outer s H->abF s fd args (ps.zip us)->Vals vs us->sp vs H Q E ->
  codeAny (model P w) A (.call (.ref f) args) (CR bS outer P w H s Q E) s
abbrev ve(P:τ) (w:ψ) (K:Δ) (mg:Str->Option Ξ) (base:χ) (N:List Str) (qual:Str) (scope:aa5) (f:Ω) (cd:Ξ) (A:ω) (outer:List Env) (s:ε) (H:Hp) (E:XK):Cx :=
 {fu bS P w K mg base N qual scope f cd A outer s H E with calm:=Ψ}
section
variable {P:τ}{w:ψ}{K:Δ}{mg:Str->Option Ξ}{base:χ}
theorem aaz{N ps:List Str}{qual:Str}{scope:aa5}{f:Ω}{cd:Ξ}{A:ω}{outer:List Env}{s s1:ε}{H:Hp}{E:XK}{us:List Ξ}{vs:List V}
  (S:b6 N ps scope) (e0:sM P w K mg base A outer s H) (hl:vs.length=ps.length) (r:Vals vs us)
  (x:InCallC s s.heap.objs.size (bindL (envOfC qual scope s.heap.objs.size f cd).kindOf (ps.zip us) λ_=>θ) (cellsFrom (s.heap.objs.size+1) scope.names []) (bindC (envOfC qual scope s.heap.objs.size f cd).kindOf (ps.zip us) λ_=>θ) s1) :
  Inv (ve P w K mg base N qual scope f cd A outer s H E) [] (start N vs) H s1:=by
 have I:Inv (fu bS P w K mg base N qual scope f cd {A with handled:=θ} outer s H E) [] (start N vs) H s1:=Km S rfl ⟨e0.frames,e0.mod,e0.bs,e0.gV,e0.gv,e0.jv,e0.hok,e0.bare⟩ hl r x
 have ok:=I.ok;exact⟨⟨ok.mod,ok.kind,ok.glob,ok.blt,ok.above,ok.inj,ok.has,ok.jA,(λz=>by cases z),Around.frames_deeper e0.frames,ok.stk,ok.kP,ok.bs,ok.gV,ok.iP,ok.jT,ok.gv,ok.jv⟩,I.os,I.bare,I.base,I.loc,I.cell,I.free,I.fN,I.pin,I.hok,I.len⟩
theorem acm{k:Nat}{f:Ω}{name qual:Str}{params:Arguments}{body:List aaM}{scope:aa5}{dV kV doc pm cdv ct oc:Ξ}{an od:Option Ω}
  {osl:Array (Option Ξ)}{N ps:List Str}{sp:Sp}(lk:K.lookup f=ζ ⟨oc,od,.func (PySem.W.fnOf name qual params body scope dV kV doc pm an cdv ct),osl⟩) (hcd:PySem.W.codeIn K cdv qual=Θ) (S:b6 N ps scope)
  (len:∀vs H Q E,sp vs H Q E->vs.length=ps.length)
  (hbody:∀(A:ω) (outer:List Env) (s:ε) (H:Hp) (vs:List V) (Q:VK) (E:XK),iY k (A.deeper (envOfC qual scope s.heap.objs.size f cdv))->sp vs H Q E ->
   ∃t,eu (ve P w K mg base N qual scope f cdv A outer s H E) body t/\t {nx:=λ_ H'=>Q .aM H',rt:=Q} (start N vs) H) :
  zP P w K mg base (k+1) f (PySem.W.fnOf name qual params body scope dV kV doc pm an cdv ct) ps sp:=by
 refine⟨len,λA outer s H args us vs Q E hr e0 hb r jr=>?_⟩
 have hl:=len _ _ _ _ jr;have KX:K.In s.heap:=e0.mod.mW.keeps λb o e=>(e0.bs b o e).1
 have lim:s.heap.NoLimit:=e0.mod.nolimit.keeps λb o e=>(e0.bs b o e).1
 have hkind:∀y∈ps.zip us,scope.names.lookup y.1=ζ .local\/(scope.names.lookup y.1=ζ .cell/\((cellsFrom (s.heap.objs.size+1) scope.names []).lookup y.1).isSome=Θ):=fun⟨n,v⟩ hy=>by
  rcases S.par n (aku hy).1 with q|q
  ·exact .inl q
  ·exact .inr ⟨q,aj9 _ _ _ (.inl q)⟩
 refine alU hr.depth (KX _ _ lk) rfl S.co S.gen rfl (alV KX hcd) (hb _ _ _ _ ?_);refine alW S.kind hkind λenv he s1 x=>?_
 subst he;refine⟨lim.keeps x.toInCall.keep,codeAny_func ?_⟩;obtain⟨t,ht,hq⟩:=hbody A outer s H vs Q E (hr.deeper _) jr;have I:Inv (ve P w K mg base N qual scope f cdv A outer s H E) [] (start N vs) H s1:=aaz S e0 hl r x;refine aiO (ht [] s1 (start N vs) H _ I hq) (λfl s' hs=>?_) λe s' hs=>hs
 have fin:∀{σ':St}{H':Hp}{v:V}{u:Ξ},Inv (ve P w K mg base N qual scope f cdv A outer s H E) [] σ' H' s'->RelV v u->Q v H'->CE outer P w H s Q u s' :=
  fun{σ' H' v u} J rv q=>⟨v,H',J.os,J.bare,J.base,J.hok,rv,q⟩
 cases fl with
 |ret u =>
  obtain⟨v,σ',H',J,rv,q⟩:=hs;exact fin J rv q
 |next =>
  obtain⟨σ',H',J,q⟩:=hs;exact fin (v:=V.aM) (u:=Value.none) J rfl q
 |brk =>
  obtain⟨_,_,_,q⟩:=hs;exact False.elim q
 |cont =>
  obtain⟨_,_,_,q⟩:=hs;exact False.elim q
theorem acj{x qual:Str}{st:aaM}{f:Ω}{fd:ο}{N ps:List Str}{k n m:Nat}{own:Bool}{d:ah}(F:j5 K x qual st f fd) (S:b6 N ps (aR st)) (hN:N.length=n) (hm:ps.length=m)
  (hb:∀(cdv:Ξ) (A:ω) (outer:List Env) (s:ε) (H:Hp) (E:XK),iY k (A.deeper (envOfC qual (aR st) s.heap.objs.size f cdv))->bY (ve P w K mg base N qual (aR st) f cdv A outer s H E).fH (bZ st) d) :
  zP P w K mg base (k+1) f fd ps (b7 K m (bU n own d)):=by
 subst hN;subst hm;obtain⟨oc,od,kV,doc,pm,an,cdv,ct,osl,rfl,lk,hcd⟩:=F.ex;refine acm lk hcd S (λvs H Q E h=>?_) λA outer s H vs Q E hr h=>⟨_,(hb cdv A outer s H E hr).fH,?_⟩
 ·obtain⟨ρ,xs,c,W,r,hl,p⟩:=h;exact r.length.trans hl
 ·obtain⟨ρ,xs,c,W,r,hl,p⟩:=h;refine⟨ρ,cD N.length xs,c,W,cU.start r,post.bind p λfl c1 aJ H1 b _ W1 X1 r1 p1=>?_⟩
  cases fl with
  |nx e1 =>
   obtain⟨σ1,rfl,V1⟩:=r1;exact ze (v:=.aM) (x:=.aM) (H1:=H1) W W1 X1 rfl (by
    unfold bU at p;exact id (α:=post K (Rel K) (eF own c.length .aM c1) ρ H Q) (by
     rename_i he;rw[he]at p;exact p))
  |rt d =>
   obtain⟨v,rfl,V1⟩:=r1;exact ze (v:=d) (x:=v) (H1:=H1) W W1 X1 V1 (by
    unfold bU at p;rename_i he;rw[he]at p;exact p)
  |bk e1=>exact p1.elim
  |ct e1=>exact p1.elim
end
section
variable {X:Cx}
theorem Vd{x:Str}{st:aaM}{ps:List Str}{f:Ω}{fd:ο}{k n:Nat}{m:List D->aa->R D}{e:π}{es:List π}{da:aj}{p pos:Pos}(D:Def X.K X.mg x st ps f fd) (G:zP X.prog X.w X.K X.mg X.base k f fd ps (b7 X.K n m)) (hr:iY k X.A) (ha:eH X (e::es) da) (hg:Gl X x:=by rfl)
  (hdb:(x==("__debug__":Str))=Ψ:=by decide) (he:μ (e::es) X.env=(Ψ,eval e X.env)::μ es X.env:=by exact bT rfl) (hpl:(aaQ pos (μ es X.env)).any (·.1)=Ψ:=by exact eB rfl) :
  aV X (.Call (.Name x p) (e::es) [] pos) (aA n m da):=by
 intro pins s σ H Q I h;obtain⟨ρ,e',c,W,V,q⟩:=h;refine akt (uH I hg D.at' ?_ hdb);refine alT (h₀:=X.base) I.ok.mod.mW D.fn.kp (br (ha pos pins s σ H (λvs H1=>b7 X.K n m vs H1 Q E0) I ⟨ρ,e',c,W,V,post.bind q λxs c1 aJ H1 vs _ W1 X1 r1 p1=>?_⟩) λus s1 ⟨vs,H1,I1,r,q⟩=>⟨I1.dU,?_⟩) he hpl
 ·split at p1
  ·rename_i hl;exact⟨aJ,xs,c1,W1,r1,hl,p1⟩
  ·exact p1.elim
 ·have hl:us.length=ps.length:=by rw[<-r.length];exact G.len _ _ _ E0 q
  have hb:=D.bd s1 us I1.dU (by simpa using hl)
  rw[ajv]at hb;refine aj8 (aji (G.run X.A X.stack s1 H1 ⟨us,[]⟩ us vs Q E0 hr I1.LH hb r q) λr s' hq=>?_)
  cases r with
  |error e=>exact False.elim hq
  |ok fl =>
   cases fl with
   |ret u=>exact I1.after hq
   |next=>exact False.elim hq
   |brk=>exact False.elim hq
   |cont=>exact False.elim hq
end
structure vz (K:Δ) (T:List Str):Prop where
 cls:∀x∈T,∀C,ξ K Γ x=ζ (ζ (.ref C))->PySem.W.j6 K C/\PySem.W.kitOne K (.ref C) (.type "ValueError")=ζ Θ
 two:∀x∈T,∀y∈T,∀C C',ξ K Γ x=ζ (ζ (.ref C))->ξ K Γ y=ζ (ζ (.ref C'))->PySem.W.kitOne K (.ref C) (.ref C')=ζ (x==y)
def Gu(K:Δ) (x:Str):Bool:=match ξ K Γ x with
 |some (ζ (.ref C))=>PySem.W.Ej K C&&PySem.W.kitOne K (.ref C) (.type "ValueError")==ζ Θ
 |_=>Θ
def GF(K:Δ) (x y:Str):Bool:=match ξ K Γ x,ξ K Γ y with
 |some (ζ (.ref C)),ζ (ζ (.ref C'))=>PySem.W.kitOne K (.ref C) (.ref C')==ζ (x==y)
 |_,_=>Θ
def Ae(K:Δ) (T:List Str):Bool:=T.all λx=>Gu K x&&T.all λy=>GF K x y
theorem vz.of{K:Δ}{T:List Str}(h:Ae K T=Θ):vz K T:=by
 unfold Ae at h;rw[aip]at h;refine⟨λx hx C e=>?_,λx hx y hy C C' e e'=>?_⟩
 ·have q:=h x hx;rw[aiy]at q;have q:=q.1;unfold Gu at q;rw[e]at q;simp only[aiy,beq_iff_eq]at q;exact⟨.of q.1,q.2⟩
 ·have q:=h x hx;rw[aiy,aip]at q;have q:=q.2 y hy;unfold GF at q;rw[e,e']at q
  simpa using q
def fM(T:List Str):List D->aa->R D:=λxs c=>match xs with
 |[.exc x,.fn y _]=>if x∈T/\y∈T then .ok (.bl (x==y)) c else .bad
 |[.exc x,.ty n]=>if x∈T/\n="ValueError" then .ok (.bl Θ) c else .bad
 |_=>.bad
section
variable {X:Cx}{T:List Str}
theorem iV(Z:vz X.K T):dI X (.builtin "isinstance") (rN X.K (fM T)):=by
 intro pins s σ H vs us Q I rv h;obtain⟨ρ,xs,c,W,rx,p⟩:=h;unfold fM at p;split at p
 ·split at p
  ·rename_i hT;obtain⟨v,r,rfl,⟨a,C,rfl,hC,hH⟩,u,r',rfl,⟨a',rfl,hC'⟩,hr⟩:=rx;cases hr;obtain⟨u1,u2,rfl,r1,r2⟩:=rv.two;cases r1;cases r2;obtain⟨hp,_,_⟩:=I.hok a _ hH;exact ai6 (PySem.W.J3 (Z.cls _ hT.1 C hC).1) I.dU hp (Z.two _ hT.1 _ hT.2 C a' hC hC') (λz=>nomatch z) λtk=>⟨.bl _,H,I.tok _,rfl,p.here W rfl⟩
  ·exact p.elim
 ·split at p
  ·rename_i hT;obtain⟨v,r,rfl,⟨a,C,rfl,hC,hH⟩,u,r',rfl,hu,hr⟩:=rx;cases hr;cases hu;obtain⟨u1,u2,rfl,r1,r2⟩:=rv.two;cases r1;cases r2;obtain⟨hp,_,_⟩:=I.hok a _ hH;obtain⟨_,rfl⟩:=hT;rename_i hx;exact ai6 (PySem.W.J3 (Z.cls _ hx C hC).1) I.dU hp (Z.cls _ hx C hC).2 (λz=>nomatch z) λtk=>⟨.bl Θ,H,I.tok _,rfl,p.here W rfl⟩
  ·exact p.elim
 ·exact p.elim
theorem je{x:Str}{C:Ω}{pos:Pos}(hm:X.mg x=ζ (.ref C)) (hn:ξ X.K Γ x=ζ (ζ (.ref C))) (hg:Gl X x:=by rfl) (hd:(x==("__debug__":Str))=Ψ:=by decide):aV X (.Name x pos) (dC (.fn x 0)) :=
 nT (Ig (v:=.ref C) hg hm rfl hd) λ_ _=>⟨C,rfl,hn⟩
end
open PySem.SeqAt
section
variable {X:Cx}
def SI:V->List V->Hp->VK->Prop:=λx vs H Q=>∃l,∃bs:List Bool,x=.ref l/\vs=[.bl Θ]/\H l=ζ (.lst (bs.map V.bl))/\Q (.int (bs.countP id:Nat)) H
def SE:V->List V->Hp->VK->Prop:=λx vs H Q=>∃l,∃bs:List Bool,∃j,x=.ref l/\vs=[.bl Θ]/\H l=ζ (.lst (bs.map V.bl))/\bs.findIdx? id=ζ j/\Q (.int (j:Nat)) H
theorem Vals.FN:∀{bs:List Bool}{us:List Ξ},Vals (bs.map V.bl) us->us=bs.map Value.bool
 |[],_,.nil=>rfl
 |b::bs,_,.cons r t=>by cases r;rw[Vals.FN t];rfl
def eqT:Ξ->Bool
 |.bool b=>b
 |_=>Ψ
theorem acL(bs:List Bool):(bs.map Value.bool).countP eqT=bs.countP id:=by
 induction bs with
 |nil=>rfl
 |cons b bs ih=>rw[ais,al7,al7,ih];rfl
theorem LC{A:ω}{s:ε}(bs:List Bool):∀y,y∈(bs.map Value.bool).toArray->EqAt A s y (.bool Θ) (eqT y):=λy hy=>by
 rw[List.mem_toArray,aik]at hy;obtain⟨b,_,rfl⟩:=hy;have:=EqAt.bool_bool (A:=A) (s:=s) b Θ;cases b<;>exact this
theorem YZ:vE X "list.count" SI:=by
 intro pins s σ H x vs v us Q I rx rv h;obtain⟨l,bs,rfl,rfl,hH,q⟩:=h;cases rx;obtain⟨u,rfl,ru⟩:=rv.one;cases ru;obtain⟨z,its,n,r,hl,e⟩:=I.kG hH;cases r.FN;refine ajz F.slot_list_count ⟨_,e,rfl⟩ F.entry_list_count (F.args_list_count_2 _ _) (list_countAt l (bs.map Value.bool).toArray n θ #[] (.bool Θ) eqT) ⟨e,LC bs,?_⟩;refine⟨.int (bs.countP id:Nat),H,I.tok _,⟨s.toks,?_⟩,q⟩;rw[List.toList_toArray,acL]
theorem YX:vE X "list.index" SE:=by
 intro pins s σ H x vs v us Q I rx rv h;obtain⟨l,bs,j,rfl,rfl,hH,hj,q⟩:=h;cases rx;obtain⟨u,rfl,ru⟩:=rv.one;cases ru;obtain⟨z,its,n,r,hl,e⟩:=I.kG hH;cases r.FN;rw[al8]at hj;obtain⟨h1,h2,h3⟩:=hj;have hz:bs.length<=ι:=by simpa using z
 have hs:(j:Int)<2^63-1:=by
  have:ι<2^62:=by decide
  omega
 refine ajz F.slot_list_index ⟨_,e,rfl⟩ F.entry_list_index (F.args_list_index_2 _ _) (list_indexAt l (bs.map Value.bool).toArray n θ #[] (.bool Θ) eqT j (by simpa using h1) hs (by simpa[eqT]using h2) (λm hm hlt=>by have:=h3 m hlt;simpa[eqT]using this)) ⟨e,LC bs,?_⟩
 exact⟨.int (j:Nat),H,I.tok _,⟨s.toks,rfl⟩,q⟩
end
def EN(o a:af):af:=λe c=>(o e c).bind λx c=>match x with
 |.lst l=>(a e c).bind λy c=>match y,jC l with
  |.bl Θ,ζ bs=>.ok (.int (bs.countP id:Nat)) c
  |_,_=>.bad
 |_=>.bad
def EM(o a:af):af:=λe c=>(o e c).bind λx c=>match x with
 |.lst l=>(a e c).bind λy c=>match y,jC l with
  |.bl Θ,ζ bs=>match bs.findIdx? id with
   |some j=>.ok (.int (j:Nat)) c
   |none=>.bad
  |_,_=>.bad
 |_=>.bad
theorem aN.FL{K:Δ}{ρ:List Ω}{H:Hp}:∀{bs:List Bool}{xs:List V},aN K ρ H (bs.map D.bl) xs->xs=bs.map V.bl
 |[],_,h=>h
 |b::bs,_,h=>by
  obtain⟨x,r,rfl,h1,h2⟩:=h;cases h1;rw[aN.FL h2];rfl
section
variable {X:Cx}
theorem Ve{o e:π}{dO da:af}{apos cpos:Pos}(ho:aV X o dO) (ha:aV X e da)
  (hbase:aaZ o "count" X.env (eval o X.env)=eval o X.env:=by rfl)
  (hfew:((aaQ cpos (μ [e] X.env)).all (λx=>!x.1)&&(aa9 cpos (aaU [] X.env)).all (λx=>x.1.isSome)
   && decide ([e].length+([]:List aaW).length+(if([]:List aaW).isEmpty then 0 else 1)<30))=Θ:=by exact tG rfl)
  (hline:(apos.endLine==cpos.line)=Θ:=by rfl) (hs:μ [e] X.env=(Ψ,eval e X.env)::μ [] X.env:=by exact bT rfl) (hplain:(aaQ cpos (μ [] X.env)).any (·.1)=Ψ:=by exact eB rfl) :
  aV X (.Call (.Attribute o "count" apos) [e] [] cpos) (EN dO da) :=
 (uc akg PySem.F.slot_list_count PySem.F.type_list_count YZ ho (jg ha jf hs) hbase hfew hline hs hplain).imp λσ H Q h=>by
  obtain⟨ρ,e,c,W,V,p⟩:=h;refine⟨ρ,e,c,W,V,post.bind p λx c1 aJ H1 v _ W1 X1 r1 p1=>?_⟩
  cases x with
  |lst l =>
   obtain⟨a,xs,rfl,hx,rl⟩:=r1;refine⟨.inl ⟨rfl,xs,bJ.of hx.1⟩,aJ,e,c1,W1,V.mono W X1,post.bind p1 λy c2 cy H2 u _ W2 X2 r2 p2=>?_⟩
   split at p2
   ·rename_i bs hb _;cases r2;rw[zF hb]at rl;cases rl.FL;exact⟨a,bs,rfl,rfl,(X2.keep a _ hx.1 hx.2 rfl).1,p2.here W2 rfl⟩
   ·exact p2.elim
  |_=>exact p1.elim
theorem Va{o e:π}{dO da:af}{apos cpos:Pos}(ho:aV X o dO) (ha:aV X e da)
  (hbase:aaZ o "index" X.env (eval o X.env)=eval o X.env:=by rfl)
  (hfew:((aaQ cpos (μ [e] X.env)).all (λx=>!x.1)&&(aa9 cpos (aaU [] X.env)).all (λx=>x.1.isSome)
   && decide ([e].length+([]:List aaW).length+(if([]:List aaW).isEmpty then 0 else 1)<30))=Θ:=by exact tG rfl)
  (hline:(apos.endLine==cpos.line)=Θ:=by rfl) (hs:μ [e] X.env=(Ψ,eval e X.env)::μ [] X.env:=by exact bT rfl) (hplain:(aaQ cpos (μ [] X.env)).any (·.1)=Ψ:=by exact eB rfl) :
  aV X (.Call (.Attribute o "index" apos) [e] [] cpos) (EM dO da) :=
 (uc akg PySem.F.slot_list_index PySem.F.type_list_index YX ho (jg ha jf hs) hbase hfew hline hs hplain).imp λσ H Q h=>by
  obtain⟨ρ,e,c,W,V,p⟩:=h;refine⟨ρ,e,c,W,V,post.bind p λx c1 aJ H1 v _ W1 X1 r1 p1=>?_⟩
  cases x with
  |lst l =>
   obtain⟨a,xs,rfl,hx,rl⟩:=r1;refine⟨.inl ⟨rfl,xs,bJ.of hx.1⟩,aJ,e,c1,W1,V.mono W X1,post.bind p1 λy c2 cy H2 u _ W2 X2 r2 p2=>?_⟩
   split at p2
   ·rename_i bs hb _;cases r2;rw[zF hb]at rl;cases rl.FL;split at p2
    ·rename_i j hj;exact⟨a,bs,j,rfl,rfl,(X2.keep a _ hx.1 hx.2 rfl).1,hj,p2.here W2 rfl⟩
    ·exact p2.elim
   ·exact p2.elim
  |_=>exact p1.elim
def nO(T:List Str) (i n:Nat) (b:ah) (x:Xd) (h:af):ah:=λe c=>match b e c with
 |.ok f c=>.ok f c
 |.bad=>(x e c).bind λy c=>if y∈T then(h ((ν n θ).set i (ζ (.exc y))) c).bind λv c=>.ok (.rt v) c else .bad
theorem S5{body:List aaM}{h₀:ExceptHandler}{pos:Pos}{t:TS}(hb:eu X.fH body t):PS X (.Try body [h₀] [] [] pos) t:=λpins s σ H D I h=>by
 refine wpAny_Try_except (aiO (hb pins s σ H D (I.ig _) h) (λf s' q=>?_) λ_ _ z=>z.elim)
 have q:=q.i8;cases f with
 |next=>exact aj3 q
 |brk=>exact q
 |cont=>exact q
 |ret u=>exact q
theorem RM{T:List Str}{i m:Nat}{n cn:Str}{Cn:Ω}{body:List aaM}{he:π}{rpos np hpos pos:Pos}{b:ah}{x:Xd}{h:af}
  (hb:bY X.fH body b) (hx:∀W pn,jZ (X.tried W pn) (vJ (X.tried W pn)) body x) (hS:∀ea,aV (X.held (.ref ea)) he h)
  (hm:X.mg cn=ζ (.ref Cn)) (hT:∀y∈T,∃C,ξ X.K Γ y=ζ (ζ (.ref C))/\PySem.W.exmOne X.K (.ref C) (.ref Cn)=ζ Θ)
  (hN:X.N.Nodup:=by decide +kernel) (hi:X.N[i]? = ζ n:=by rfl) (hlen:X.N.length=m:=by rfl) (hl:X.env.scope.names.lookup n=ζ .local:=by rfl) (hg:Gl X cn:=by rfl) (jq:X.stack=X.env::X.outer/\X.env.frame=ζ X.env.locals:=by exact⟨rfl,rfl⟩) (hd:(cn==("__debug__":Str))=Ψ:=by decide) :
  jE X (.Try body [.ExceptHandler (ζ (.Name cn np)) (ζ n) [.Return (ζ he) rpos] hpos] [] [] pos) (nO T i m b x h):=by
 intro pins s σ H D I hh;obtain⟨ρ,e,c,W,V,p⟩:=hh;unfold nO at p;cases q:b e c with
 |ok f c1 =>
  rw[q]at p;exact S5 hb pins s σ H D I ⟨ρ,e,c,W,V,by rw[q];exact p⟩
 |bad =>
  rw[q]at p;dsimp only at p;refine S6 (X:=X) (th:=λea=>Au X.K (aP h)) (tb:=λA σ H=>tD X.K (λ_ _ a b=>a=b) x σ H A) hx (λA A' σ H hA ⟨ρ,e,c,W,V,p⟩=>⟨ρ,e,c,W,V,p.mono hA⟩)
   (λea=>aX (bW (hS ea))) hN hi hl hg hm jq hd pins s σ H D I ⟨ρ,e,c,W,V,post.bind p λy c1 aJ H1 b _ W1 X1 r1 p1=>?_⟩
  cases r1;split at p1
  ·rename_i hy;obtain⟨C,hC,hC2⟩:=hT y hy;refine⟨C,hC,hC2,λea σ' hl' hf=>?_⟩
   refine⟨aJ,(ν m θ).set i (ζ (.exc y)),c1,W1.fresh hf,⟨λj d hj=>?_,by simp[hl',hlen]⟩,?_⟩
   ·by_cases e1:j=i
    ·subst e1;have hlt:j<m:=by
      have:=(aix.mp hj).1
      simpa using this
     rw[ai5 (by simpa using hlt)]at hj
     cases hj;refine⟨.ref ea,by rw[ai5 (by rw[hl',hlen];exact hlt)],ea,C,rfl,hC,gi⟩
    ·rw[aiX (aja e1),akv]at hj;split at hj<;>cases hj
   ·have p2:=p1.ext (Ext.fresh (p:=ea) (o:=.ext (kQ ea C)) W1 hf);unfold aP;cases qh:h ((ν m θ).set i (ζ (.exc y))) c1 with
    |bad=>rw[qh]at p2;exact p2.elim
    |ok v c2 =>
     rw[qh]at p2;exact λcy H2 f W2 X2 r2=>by
      have z:=p2 cy H2 f W2 X2 r2;obtain⟨v',rfl,_⟩:=r2;exact z
  ·exact p1.elim
end
theorem iY.held{k:Nat}{A:ω}{h:Option Ξ}(r:dG k A):iY k (A.mark h):=⟨r.dp,r.un⟩
theorem afi:bootBuiltins "ValueError"=ζ (.type "ValueError"):=by decide +kernel
abbrev vU:List Ξ:=[.type "ValueError",.type "Exception",.type "BaseException",.type "object"]
theorem Vl{K:Δ}{h:χ}{mg:Str->Option Ξ}{x:Str}{C:Ω}{bmB:List Ξ}{newId:String}(X:K.In h) (e:mg x=ζ (.ref C)) (q:PySem.W.excIn K C bmB newId=Θ):OwnCls x C bmB newId mg h:=by
 refine⟨e,?_⟩;unfold PySem.W.excIn at q;split at q
 ·rename_i dd cd sl ho;split at q
  ·rename_i C' bm k0 k1 k2 k3 n k5 hm hs;simp only[aiy,beq_iff_eq,al9]at q;obtain⟨⟨⟨⟨⟨rfl,rfl⟩,KN⟩,ht⟩,hok⟩,hni⟩:=q;obtain⟨nm,bs,mro,ns,qn,hd,sn,sub,ab,col,del⟩:=cd;dsimp only at hm KN hok hni;subst hm KN;have hsl:sl=#[k0,k1,k2,k3,ζ (.builtin n),k5]:=by
    obtain⟨l⟩:=sl;simp only at hs;rw[hs]
   subst hsl;exact⟨bm,ns,nm,qn,bs,hd,sn,sub,ab,col,dd,k0,k1,k2,k3,k5,_,X _ _ ho,.of_isNs (PySem.W.isNs_of_in X hok),PySem.W.nsMap_none_of_in X hok hni,PySem.W.tail_of_in X ht⟩
  ·cases q
 ·cases q
theorem vA.of{K:Δ}{mg:Str->Option Ξ}{x:Str}{C:Ω}(n:ξ K Γ x=ζ (ζ (.ref C))) (m:mg x=ζ (.ref C)) (q:PySem.W.excIn K C vU "ValueError.__new__"=Θ):vA K mg x vU "ValueError.__new__" :=
 ⟨C,n,m,λ_ X=>Vl X m q⟩
def Ad(K:Δ) (T:List Str) (Cn:Ω):Bool:=T.all λy=>match ξ K Γ y with
 |some (ζ (.ref C))=>PySem.W.exmOne K (.ref C) (.ref Cn)==ζ Θ
 |_=>Ψ
theorem Ou{K:Δ}{T:List Str}{Cn:Ω}(h:Ad K T Cn=Θ):∀y∈T,∃C,ξ K Γ y=ζ (ζ (.ref C))/\PySem.W.exmOne K (.ref C) (.ref Cn)=ζ Θ:=λy hy=>by
 have q:=aip.mp h y hy;split at q
 ·rename_i C e;exact⟨C,e,by simpa using q⟩
 ·cases q
def ki:D->D->aa->R D:=λx y c=>match x,y with
 |.lst l,.int k=>if -(2^63)<=k/\k<2^63/\l.length*k.toNat<=ι then .ok (.lst (ν k.toNat l).flatten) c else .bad
 |_,_=>.bad
theorem aN.rep{K:Δ}{ρ:List Ω}{H:Hp}{l:List D}{xs:List V}(r:aN K ρ H l xs):∀n:Nat,aN K ρ H (ν n l).flatten (ν n xs).flatten
 |0=>rfl
 |n+1=>by
  rw[ajm,ajm,ajy,ajy];exact aN.append r (aN.rep r n)
theorem Wj{X:Cx}:bB X (binaryOp .Mult) (r2 X.K ki):=by
 intro pins s σ H v u vv uu Q I rv ru h;obtain⟨ρ,x,y,c,W,rx,ry,p⟩:=h;unfold ki at p;split at p
 ·split at p
  ·rename_i hl;obtain⟨a,xs,rfl,sa,ra⟩:=rx;cases ry;exact Ir pins s σ H _ _ vv uu Q I rv ru ⟨a,_,xs,rfl,rfl,sa.1,hl.1,hl.2.1,by rw[ra.length];exact hl.2.2,nW W (aN.rep ra _) p⟩
  ·exact p.elim
 ·exact p.elim
section
variable (e:Ev) (c:aa) (l:aj)
@[simp] theorem OD(m:List D) (k:Int):ki (.lst m) (.int k) c=if -(2^63)<=k/\k<2^63/\m.length*k.toNat<=ι then .ok (.lst (ν k.toNat m).flatten) c else .bad:=rfl
end
def jH:D->D->aa->R D:=λx y c=>match x,y with
 |.lst l,.int k=>if -(2^63)<=k/\k<2^63/\l.length*k.toNat<=ι/\bA l=Θ then .ok (.ref c.length) (c++[.lst (ν k.toNat l).flatten])else .bad
 |_,_=>.bad
theorem Jh{l:List D}(h:bA l=Θ):∀n:Nat,bA (ν n l).flatten=Θ
 |0=>by simp
 |n+1=>by rw[ajm,ajy,uw,h,Jh h n];rfl
theorem IL{X:Cx}:bB X (binaryOp .Mult) (r2 X.K jH):=by
 intro pins s σ H v u vv uu Q I rv ru h;obtain⟨ρ,x,y,c,W,rx,ry,p⟩:=h;unfold jH at p;split at p
 ·split at p
  ·rename_i hl;obtain⟨a,xs,rfl,sa,ra⟩:=rx;cases ry;exact Ir pins s σ H _ _ vv uu Q I rv ru ⟨a,_,xs,rfl,rfl,sa.1,hl.1,hl.2.1,by rw[ra.length];exact hl.2.2.1,Bf W (Jh hl.2.2.2 _) (aN.rep ra _) p⟩
  ·exact p.elim
 ·exact p.elim
def kT(o a:af):af:=λe c=>(o e c).bind λx c=>match x with
 |.ref k=>(a e c).bind λy c=>match y with
  |.lst m=>match c[k]? with
   |some (.lst l)=>if l.length+m.length<=ι/\bA m=Θ then .ok .aM (c.set k (.lst (l++m)))else .bad
   |none=>.bad
  |_=>.bad
 |_=>.bad
theorem Ij{X:Cx}{o e:π}{dO da:af}{apos cpos:Pos}(ho:aV X o dO) (ha:aV X e da)
  (hbase:aaZ o "extend" X.env (eval o X.env)=eval o X.env:=by rfl)
  (hfew:((aaQ cpos (μ [e] X.env)).all (λx=>!x.1)&&(aa9 cpos (aaU [] X.env)).all (λx=>x.1.isSome)
   && decide ([e].length+([]:List aaW).length+(if([]:List aaW).isEmpty then 0 else 1)<30))=Θ:=by exact tG rfl)
  (hline:(apos.endLine==cpos.line)=Θ:=by rfl) (hs:μ [e] X.env=(Ψ,eval e X.env)::μ [] X.env:=by exact bT rfl) (hplain:(aaQ cpos (μ [] X.env)).any (·.1)=Ψ:=by exact eB rfl) :
  aV X (.Call (.Attribute o "extend" apos) [e] [] cpos) (kT dO da) :=
 (uc akg PySem.F.slot_list_extend PySem.F.type_list_extend YY ho (jg ha jf hs) hbase hfew hline hs hplain).imp λσ H Q h=>by
  obtain⟨ρ,e,c,W,V,p⟩:=h;refine⟨ρ,e,c,W,V,post.bind p λx c1 aJ H1 v _ W1 X1 r1 p1=>?_⟩
  cases x with
  |ref k =>
   obtain⟨a,rfl,ha⟩:=r1;obtain⟨xs,hx⟩:=W1.at' (aiP ha);refine⟨.inl ⟨rfl,xs,bJ.of hx⟩,aJ,e,c1,W1,V.mono W X1,post.bind p1 λy c2 cy H2 u _ W2 X2 r2 p2=>?_⟩
   cases y with
   |lst m =>
    obtain⟨b,zs,rfl,sb,rb⟩:=r2;dsimp only at p2;split at p2
    ·rename_i l hl;split at p2
     ·rename_i hh;obtain⟨nr,ys,hy,rl⟩:=W2.fR k a _ (X2.pre k a ha) hl;refine⟨a,b,ys,zs,rfl,rfl,hy,sb.1,by rw[rl.length,rb.length];exact hh.1,?_⟩
      refine p2 cy _ .aM (W2.write (X2.pre k a ha) (by rw[uw,nr,hh.2];rfl) (rl.append rb)) (Ext.write (X2.pre k a ha)) rfl
     ·exact p2.elim
    ·exact p2.elim
   |_=>exact p2.elim
  |_=>exact p1.elim
section
variable (e:Ev) (c:aa) (o a:af)
@[simp] theorem OC(m:List D) (k:Int):jH (.lst m) (.int k) c=if -(2^63)<=k/\k<2^63/\m.length*k.toNat<=ι/\bA m=Θ then .ok (.ref c.length) (c++[.lst (ν k.toNat m).flatten])else .bad:=rfl
end
theorem oG{α:Type}{st:aa->Prop}{g:Gd}{s:ah}(C:Nat->aa) (E:Nat->α->Ev):∀(items:List D) (k:Nat) (v:α),(∀i,i<=items.length->st (C (k+i))) ->
  (∀i x,items[i]? = ζ x->∀v,∃e',g x (E (k+i) v) (C (k+i))=.ok e' (C (k+i))/\∃v',s e' (C (k+i))=.ok (.nx (E (k+i+1) v')) (C (k+i+1))) ->
  ∃v',cO st g s items (E k v) (C k)=.ok (.nx (E (k+items.length) v')) (C (k+items.length))
 |[],k,v,hst,_=>⟨v,by
   have:=hst 0 (aij _);rw[ald]at this;unfold cO;rw[if_pos this];rfl⟩
 |x::xs,k,v,hst,h=>by
  obtain⟨e',h1,v',h2⟩:=h 0 x rfl v;obtain⟨v2,h3⟩:=oG C E xs (k+1) v' (λi hi=>by
   have:=hst (i+1) (by simp only[aiv];omega)
   rwa[show k+(i+1)=k+1+i by omega]at this) (λi y hy v=>by
   have:=h (i+1) y (by simpa using hy) v
   rwa[show k+(i+1)=k+1+i by omega]at this)
  refine⟨v2,?_⟩;unfold cO;rw[if_pos (by have:=hst 0 (ajk _);exact this)]
  rw[ald]at h1 h2;rw[h1,R.aC,h2];simp only[R.aC];rw[h3,aiv,show k+(xs.length+1)=k+1+xs.length by omega]
theorem rB{α:Type}{g:Gd}{s:ah}(C:Nat->aa) (E:Nat->α->Ev) {N:Int}{n:Nat}(hN:N=n) (v:α)
  (h:∀i,i<n->∀v,∃e',g (.int (i:Nat)) (E i v) (C i)=.ok e' (C i)/\∃v',s e' (C i)=.ok (.nx (E (i+1) v')) (C (i+1))) :
  ∃v',cO (λ_=>True) g s (bf 0 N) (E 0 v) (C 0)=.ok (.nx (E n v')) (C n):=by
 have hl:(bf 0 N).length=n:=by rw[fF];omega
 have:=oG (st:=λ_=>True) C E (bf 0 N) 0 v (λ_ _=>trivial) (λi x hx v=>by
  obtain⟨h1,rfl⟩:=AS hx;rw[aiW,Int.zero_add];exact h i (by omega) v)
 rwa[hl,aiW]at this
theorem C0{c:aa}{l:List D}{i:Int}{j:Nat}{d:D}(hi:i=j) (h:l[j]? = ζ d):aH (.ref c.length) (.int i) (c++[.lst l])=.ok d (c++[.lst l]):=by
 subst hi;unfold aH fW;simp only[ale];have:=gX (xs:=l) (j:=j) (v:=d) h;rw[this]
theorem Hw{c:aa}{l:List D}{i:Int}{j:Nat}{d:D}(hi:i=j) (h:j<l.length) (hd:noRef d=Θ):kg (.ref c.length) (.int i) d (c++[.lst l])=.ok () (c++[.lst (l.set j d)]):=by
 subst hi;unfold kg;simp[fL,h,hd]
def allInts:List π->Option (List Int)
 |[]=>ζ []
 |e::r=>match e with
  |.Constant (.int i) _ _=>(allInts r).map (i :: ·)
  |_=>θ
def eG(l:List Int):aj:=λ_ c=>.ok (l.map D.int) c
theorem mP{X:Cx}:∀{es:List π}{l:List Int},allInts es=ζ l->eH X es (eG l)
 |[],l,h=>by cases h;exact az
 |e::es,l,h=>by
  unfold allInts at h;split at h
  ·rename_i i j pos;cases q:allInts es with
   |none=>rw[q]at h;cases h
   |some r =>
    rw[q]at h;cases h;exact ay aL (mP q) (bT rfl)
  ·cases h
@[simp] theorem x_ints(l:List Int) (e:Ev) (c:aa):eG l e c=.ok (l.map D.int) c:=rfl
abbrev Up(l:List Nat):Prop:=l.Pairwise (· < ·)
theorem getD_list(xs:Array Nat) (i d:Nat):xs.getD i d=xs.toList.getD i d:=by
 simp[ama,aiA]
theorem vV{l:List Nat}(h:Up l) {i k:Nat}(hik:i<k) (hk:k<l.length):l.getD i 0<l.getD k 0:=by
 have:=ajU.mp h i k (by omega) hk hik
 simpa[aiA,ait hk,ait (show i<l.length by omega)]using this
def Parts(l:List Nat) (j p:Nat):Prop:=p<=l.length/\(∀i,i<p->l.getD i 0<j)/\∀i,p<=i->i<l.length->j<=l.getD i 0
theorem FT{xs:Array Nat}{j:Nat}(h:Up xs.toList):∀fuel lo hi,lo<=hi->hi<=xs.toList.length->hi-lo<=fuel->(∀i,i<lo->xs.toList.getD i 0<j)->(∀i,hi<=i->i<xs.toList.length->j<=xs.toList.getD i 0) ->
  Parts xs.toList j (SetTable.below.go xs j fuel lo hi)
 |0,lo,hi,h1,h2,h3,h4,h5=>⟨by unfold SetTable.below.go;omega,λi hi'=>h4 i (by unfold SetTable.below.go at hi';exact hi'),λi hi'=>h5 i (by unfold SetTable.below.go at hi';omega)⟩
 |fuel+1,lo,hi,h1,h2,h3,h4,h5=>by
  unfold SetTable.below.go
  by_cases hl:lo<hi
  ·rw[if_pos hl];dsimp only;have hm:(lo+hi)/2<xs.toList.length:=by omega
   have he:xs.getD ((lo+hi)/2) j=xs.toList.getD ((lo+hi)/2) 0:=by
    rw[getD_list];simp[aiA,ait hm]
   rw[he]
   by_cases hc:xs.toList.getD ((lo+hi)/2) 0<j
   ·rw[if_pos hc];refine FT h fuel _ _ (by omega) h2 (by omega) (λi hi'=>?_) h5
    by_cases hq:i=(lo+hi)/2
    ·rw[hq];exact hc
    ·exact alf (vV h (show i<(lo+hi)/2 by omega) hm) hc
   ·rw[if_neg hc];refine FT h fuel _ _ (by omega) (by omega) (by omega) h4 (λi hi' hl'=>?_)
    by_cases hq:i=(lo+hi)/2
    ·rw[hq];omega
    ·exact aiT (by omega) (ajG (vV h (show(lo+hi)/2<i by omega) hl'))
  ·rw[if_neg hl];exact⟨by omega,h4,λi hi'=>h5 i (by omega)⟩
theorem zH{xs:Array Nat}(h:Up xs.toList) (j:Nat):Parts xs.toList j (SetTable.below xs j):=by
 unfold SetTable.below;exact FT h _ _ _ (ajk _) (by simp) (by simp) (λi hi=>absurd hi (akI _)) (λi h1 h2=>by simp at h2;omega)
theorem afj{xs:Array Nat}(h:Up xs.toList):SetTable.below xs 0=0:=by
 obtain⟨_,h2,_⟩:=zH h 0
 rcases alg (SetTable.below xs 0)with e|e
 ·exact e
 ·exact absurd (h2 0 e) (akI _)
theorem afk{xs:Array Nat}(h:Up xs.toList) {i:Nat}(hi:i<xs.toList.length):SetTable.below xs (xs.toList.getD i 0+1)=i+1:=by
 obtain⟨h1,h2,h3⟩:=zH h (xs.toList.getD i 0+1)
 rcases akJ (SetTable.below xs (xs.toList.getD i 0+1)) (i+1)with e|e|e
 ·have:=h3 i (by omega) hi;omega
 ·exact e
 ·have a:=h2 (i+1) e;have b:=vV h (show i<i+1 by omega) (show i+1<xs.toList.length by omega)
  omega
theorem FQ{xs:Array Nat}(h:Up xs.toList) {j:Nat}(hj:j∈xs.toList):xs[SetTable.below xs j]? = ζ j:=by
 obtain⟨i,hi,e⟩:=ajK hj;obtain⟨h1,h2,h3⟩:=zH h j;have e':xs.toList.getD i 0=j:=by rw[aiA,ait hi];exact e
 have hp:SetTable.below xs j=i:=by
  rcases akJ (SetTable.below xs j) i with q|q|q
  ·have a:=h3 (SetTable.below xs j) (aij _) (by omega)
   have b:=vV h q hi;omega
  ·exact q
  ·have a:=h2 i q;omega
 rw[hp,<-aiS,ait hi,e]
theorem GJ{xs:Array Nat}(h:Up xs.toList) {j:Nat}(hj:j∉xs.toList):Up (SetTable.insertAt xs (SetTable.below xs j) j).toList:=by
 rw[akK];obtain⟨h1,h2,h3⟩:=zH h j
 generalize SetTable.below xs j=p at h1 h2 h3
 have ht:∀a∈xs.toList.take p,a<j:=by
  intro a ha;obtain⟨i,hi,e⟩:=ajK ha;have hi':i<p/\i<xs.toList.length:=by simp at hi ⊢;omega
  have:=h2 i hi'.1;rw[akG]at e;rw[aiA,ait hi'.2]at this
  simpa[<-e]using this
 have hd:∀a∈xs.toList.drop p,j<a:=by
  intro a ha;have hm:a∈xs.toList:=akL ha;obtain⟨i,hi,e⟩:=ajK ha;have hi':p+i<xs.toList.length:=by simp at hi ⊢;omega
  have:=h3 (p+i) (by omega) hi'
  rw[List.getElem_drop]at e;rw[aiA,ait hi']at this;have hle:j<=a:=by simpa[<-e]using this
  exact Nat.lt_of_le_of_ne hle λq=>hj (q▸hm)
 refine List.pairwise_append.mpr ⟨h.sublist (ak7 _ _),ajV.mpr ⟨hd,h.sublist (List.drop_sublist _ _)⟩,λa ha b hb=>?_⟩
 rcases aio.mp hb with rfl|hb
 ·exact ht a ha
 ·exact alf (ht a ha) (hd b hb)
theorem A1:∀(n:Nat) (l:List Nat),(∀j,j<n->j∈l)->n<=l.length
 |0,_,_=>ajk _
 |n+1,l,h=>by
  have hn:=h n (ajf _);have:=A1 n (l.erase n) λj hj=>(alh (by omega)).mpr (h j (by omega))
  rw[ali hn]at this;have:=amb hn;omega
def fQ(mask:Nat):Nat->Nat->Nat->Nat->Nat->Nat->Bool
 |0,_,_,_,_,_=>Ψ
 |n+1,j,more,i,q,acc =>
  if acc |||(1 <<< j)=2^(mask+1)-1 then Θ
  else if more>0 then fQ mask n (j+1) (more-1) i q (acc |||(1 <<< j))
  else fQ mask n ((i*5+1+q/32) % (mask+1)) (SetTable.runEnd mask ((i*5+1+q/32) % (mask+1))-(i*5+1+q/32) % (mask+1)) ((i*5+1+q/32) % (mask+1)) (q/32) (acc |||(1 <<< j))
def zz(mask:Nat):Bool:=(η 128).all λh=>fQ mask (10*(mask+15)) (h % (mask+1)) (SetTable.runEnd mask (h % (mask+1))-h % (mask+1)) (h % (mask+1)) h 0
def nk(mask:Nat):Nat->Nat->Nat->Nat->Bool
 |0,_,_,_=>Ψ
 |n+1,i,q,acc =>
  if acc |||((2^(SetTable.runEnd mask i+1-i)-1) <<< i)=2^(mask+1)-1 then Θ
  else nk mask n ((i*5+1+q/32) % (mask+1)) (q/32) (acc |||((2^(SetTable.runEnd mask i+1-i)-1) <<< i))
def ER(mask:Nat):Bool:=(η 128).all λh=>nk mask (mask+15) (h % (mask+1)) h 0
theorem aex:zz 7=Θ:=by decide +kernel
theorem aey:zz 31=Θ:=by decide +kernel
theorem aez:zz 127=Θ:=by decide +kernel
theorem aev:ER 31=Θ:=by decide +kernel
theorem aew:ER 127=Θ:=by decide +kernel
theorem zG(acc j k:Nat):(acc |||(1 <<< j)).testBit k=(acc.testBit k||decide (k=j)):=by
 rw[Nat.testBit_or,Nat.one_shiftLeft,Nat.testBit_two_pow]
 by_cases h:j=k
 ·subst h;simp
 ·simp[h,aja h]
theorem zy{mask:Nat}:∀n j more i q acc,fQ mask n j more i q acc=Θ->∀k,acc.testBit k=Θ->k<=mask
 |0,_,_,_,_,_,h,_,_=>by cases h
 |n+1,j,more,i,q,acc,h,k,hk=>by
  have hk':(acc |||(1 <<< j)).testBit k=Θ:=by rw[zG,hk];rfl
  unfold fQ at h;split at h
  ·rename_i e;rw[e,ajW]at hk';have:=of_decide_eq_true hk';omega
  ·split at h
   ·exact zy _ _ _ _ _ _ h k hk'
   ·exact zy _ _ _ _ _ _ h k hk'
theorem AA{t:aam}(hd:t.dummies=#[]) (j:Nat):t.slot j=.empty\/∃i,t.slot j=.live i:=by
 unfold SetTable.slot;dsimp only;split
 ·exact .inr ⟨_,rfl⟩
 ·rw[hd];exact .inl rfl
theorem Du{t:aam}{h:Int}(hd:t.dummies=#[]):∀n (p:SetTable.Probe) acc fuel,fQ t.mask n p.j p.more p.i p.perturb acc=Θ->p.dummy=θ->n<=fuel ->
  (∀k,acc.testBit k=Θ->t.slot k≠.empty)->(∃j,j<=t.mask/\t.slot j=.empty) ->
  ∃j,SetTable.probe.go t (λ_=>h+1) h fuel p=ζ (.empty j θ)/\t.slot j=.empty/\j<=t.mask
 |0,_,_,_,h,_,_,_,_=>by simp[fQ]at h
 |n+1,p,acc,0,_,_,h,_,_=>by omega
 |n+1,p,acc,fuel+1,hc,hn,hf,ha,hj=>by
  have hle:p.j<=t.mask:=by
   have hk':(acc |||(1 <<< p.j)).testBit p.j=Θ:=by rw[zG];simp
   unfold fQ at hc;split at hc
   ·rename_i e;rw[e,ajW]at hk';have:=of_decide_eq_true hk';omega
   ·split at hc
    ·exact zy _ _ _ _ _ _ hc _ hk'
    ·exact zy _ _ _ _ _ _ hc _ hk'
  unfold SetTable.probe.go
  rcases AA hd p.j with e|⟨i,e⟩
  ·rw[e];dsimp only;exact⟨p.j,by rw[hn],e,hle⟩
  ·rw[e];dsimp only;have hne:(h+1==h)=Ψ:=by simp;omega
   rw[hne];simp only[aiU,if_false];have ha':∀k,(acc |||(1 <<< p.j)).testBit k=Θ->t.slot k≠.empty:=by
    intro k hk;rw[zG,akc,decide_eq_true_eq]at hk
    rcases hk with hk|rfl
    ·exact ha k hk
    ·rw[e];intro q;cases q
   unfold fQ at hc;split at hc
   ·rename_i ef;obtain⟨j0,h0,e0⟩:=hj;exact absurd e0 (ha' j0 (by rw[ef,ajW];exact decide_eq_true (by omega)))
   ·split at hc
    ·rename_i hm;have oE:t.advance p={p with j:=p.j+1,more:=p.more-1}:=by unfold SetTable.advance;rw[if_pos hm]
     rw[oE];exact Du hd n _ _ fuel hc hn (by omega) ha' hj
    ·rename_i hm;have oE:t.advance p={p with j:=(p.i*5+1+p.perturb/32) % (t.mask+1),more:=SetTable.runEnd t.mask ((p.i*5+1+p.perturb/32) % (t.mask+1))-(p.i*5+1+p.perturb/32) % (t.mask+1),i:=(p.i*5+1+p.perturb/32) % (t.mask+1),perturb:=p.perturb/32}:=by
      unfold SetTable.advance;rw[if_neg hm];rfl
     rw[oE];exact Du hd n _ _ fuel hc hn (by omega) ha' hj
theorem MZ{n:Nat}(h:n<128):SetTable.bits (n:Int)=n:=by
 unfold SetTable.bits;have:((n:Int) % (2^64:Int))=n:=amc (by omega) (by omega)
 rw[this];rfl
def nU(m:Nat):Prop:=m=7\/m=31\/m=127
theorem aet{m:Nat}(h:nU m) {n:Nat}(hn:n<128):fQ m (10*(m+15)) (n % (m+1)) (SetTable.runEnd m (n % (m+1))-n % (m+1)) (n % (m+1)) n 0=Θ:=by
 have:zz m=Θ:=h.elim (λe=>e▸aex) λh=>h.elim (λe=>e▸aey) λe=>e▸aez
 exact aip.mp this n (ain.mpr hn)
theorem ab3{t:aam}{n:Nat}(hd:t.dummies=#[]) (hm:nU t.mask) (hn:n<128) (hs:t.place.toList.length<=t.mask) (hu:Up t.place.toList) :
  ∃j,t.freeSlot (n:Int)=ζ (j,Ψ)/\j∉t.place.toList/\j<=t.mask:=by
 have hmem:∀j,t.slot j=.empty->j∉t.place.toList:=by
  intro j e hj;unfold SetTable.slot at e;dsimp only at e;rw[FQ hu hj]at e;simp at e
 have abk:∀j,j∉t.place.toList->t.slot j=.empty:=by
  intro j hj
  rcases AA hd j with e|⟨i,e⟩
  ·exact e
  ·unfold SetTable.slot at e;dsimp only at e;split at e
   ·rename_i q;have:=eq_of_beq q;rw[<-aiS]at this;exact absurd (aiP this) hj
   ·split at e<;>cases e
 have hex:∃j,j<=t.mask/\t.slot j=.empty:=by
  by_cases q:∃j,j<=t.mask/\j∉t.place.toList
  ·obtain⟨j,a,b⟩:=q;exact⟨j,a,abk j b⟩
  ·have:=A1 (t.mask+1) t.place.toList λj hj=>akM λx=>q ⟨j,by omega,x⟩
   omega
 have hb:=MZ hn;obtain⟨j,e,e1,e2⟩:=Du (t:=t) (h:=(n:Int)) hd (10*(t.mask+15)) (t.probeStart n) 0 (10*SetTable.turns t.mask)
  (by show fQ _ _ (SetTable.bits n % _) (SetTable.runEnd t.mask (SetTable.bits n % (t.mask+1))-SetTable.bits n % (t.mask+1)) (SetTable.bits n % _) (SetTable.bits n) _=Θ;rw[hb];exact aet hm hn) rfl (aij _) (λk hk=>by simp at hk) hex
 refine⟨j,?_,hmem j e1,e2⟩;unfold SetTable.freeSlot SetTable.probe;rw[e];rfl
theorem R7(c i k:Nat):((2^c-1) <<< i).testBit k=decide (i<=k/\k<i+c):=by
 rw[Nat.testBit_shiftLeft,ajW]
 by_cases h:i<=k
 ·simp only[ge_iff_le,h,decide_true,alj,true_and];exact decide_eq_decide.mpr (by omega)
 ·simp[h]
theorem By{mask:Nat}{owner:Array (Option Nat)}:∀n i q acc fuel,nk mask n i q acc=Θ->n<=fuel->(∀k,k<=mask->acc.testBit k=Θ->owner.getD k (ζ 0)≠θ) ->
  (∃j,j<=mask/\owner.getD j (ζ 0)=θ)->∃j,SetTable.layClean.free mask owner fuel i q=ζ j/\owner.getD j (ζ 0)=θ
 |0,_,_,_,_,h,_,_,_=>by simp[nk]at h
 |n+1,i,q,acc,0,_,h,_,_=>by omega
 |n+1,i,q,acc,fuel+1,hc,hf,ha,hj=>by
  unfold SetTable.layClean.free;cases hr:(η (SetTable.runEnd mask i+1-i)).find? (λk=>(owner.getD (i+k) (ζ 0)).isNone)with
  |some k =>
   dsimp only;have:=List.find?_some hr;exact⟨i+k,rfl,by simpa using this⟩
  |none =>
   dsimp only;have hno:=amd.mp hr;have ha':∀k,k<=mask->(acc |||((2^(SetTable.runEnd mask i+1-i)-1) <<< i)).testBit k=Θ->owner.getD k (ζ 0)≠θ:=by
    intro k hk hb;rw[Nat.testBit_or,R7,akc,decide_eq_true_eq]at hb
    rcases hb with hb|hb
    ·exact ha k hk hb
    ·intro e;have:=hno (k-i) (ain.mpr (by omega))
     rw[show i+(k-i)=k by omega,e]at this
     exact this rfl
   unfold nk at hc;split at hc
   ·rename_i ef;obtain⟨j0,h0,e0⟩:=hj;exact absurd e0 (ha' j0 h0 (by rw[ef,ajW];exact decide_eq_true (by omega)))
   ·exact By n _ _ _ fuel hc (by omega) ha' hj
def iN(m:Nat):Prop:=m=31\/m=127
theorem aeu{m:Nat}(h:iN m) {n:Nat}(hn:n<128):nk m (m+15) (n % (m+1)) n 0=Θ:=by
 have:ER m=Θ:=h.elim (λe=>e▸aev) λe=>e▸aew
 exact aip.mp this n (ain.mpr hn)
theorem DG:∀(l:List (Option Nat)) (j k:Nat),j<l.length->l.getD j (ζ 0)=θ->((l.set j (ζ k)).filterMap id).Perm (k::l.filterMap id)
 |[],_,_,h,_=>absurd h (akI _)
 |x::l,0,k,_,e=>by
  have:x=θ:=by simpa using e
  subst this;simp
 |x::l,j+1,k,h,e=>by
  have ih:=DG l j k (by simpa using h) (by simpa using e)
  rw[ajq];cases x with
  |none=>simpa using ih
  |some a =>
   simp only[ajQ,id];exact(ih.cons a).trans (List.Perm.swap _ _ _)
theorem DH:∀(l:List (Option Nat)),(∀j,j<l.length->l.getD j (ζ 0)≠θ)->(l.filterMap id).length=l.length
 |[],_=>rfl
 |x::l,h=>by
  cases x with
  |none=>exact absurd rfl (h 0 (by simp))
  |some a =>
   have:=DH l λj hj=>by simpa using h (j+1) (by simpa using hj)
   simp[this]
def pG(mask:Nat) (owner:Array (Option Nat)) (k:Nat):Prop:=owner.toList.length=mask+1/\(owner.toList.filterMap id).Perm (η k)
theorem iT(xs:Array (Option Nat)) (i:Nat) (d:Option Nat):xs.getD i d=xs.toList.getD i d:=by
 simp[ama,aiA]
theorem Zn{mask:Nat}{owner:Array (Option Nat)}{k n:Nat}(hm:iN mask) (hn:n<128) (I:pG mask owner k) (hk:k<=mask) :
  ∃j,SetTable.layClean.free mask owner (SetTable.turns mask) (SetTable.bits n % (mask+1)) (SetTable.bits n)=ζ j/\pG mask (owner.setIfInBounds j (ζ k)) (k+1):=by
 obtain⟨h1,h2⟩:=I;have hex:∃j,j<=mask/\owner.getD j (ζ 0)=θ:=by
  by_cases q:∃j,j<=mask/\owner.getD j (ζ 0)=θ
  ·exact q
  ·have:=DH owner.toList λj hj e=>q ⟨j,by omega,by rw[iT];exact e⟩
   have h3:=h2.length_eq;rw[ai8]at h3;omega
 obtain⟨j,e,e1⟩:=By (mask+15) _ _ 0 (SetTable.turns mask) (aeu hm hn) (aij _) (λk _ hb=>by simp at hb) hex
 refine⟨j,by rw[MZ hn];exact e,by simpa using h1,?_⟩
 rw[iT]at e1;have hj:j<owner.toList.length:=by
  rcases akN j owner.toList.length with q|q
  ·exact q
  ·rw[aiA,ake q]at e1;cases e1
 rw[akO];refine(DG _ j k hj e1).trans ?_;rw[ajB];exact(h2.cons k).trans (akP k _).symm
theorem JX{mask:Nat}(hm:iN mask):∀(hs:List Int) (owner:Array (Option Nat)) (k:Nat),(∀h∈hs,∃n:Nat,h=n/\n<128)->pG mask owner k->k+hs.length<=mask ->
  ∃ow,hs.foldl (λacc h=>(do
   let(owner,k) <-acc
   let j <-SetTable.layClean.free mask owner (SetTable.turns mask) (SetTable.bits h % (mask+1)) (SetTable.bits h)
   pure (owner.setIfInBounds j (ζ k),k+1):Option (Array (Option Nat)×Nat))) (ζ (owner,k))=ζ (ow,k+hs.length)/\pG mask ow (k+hs.length)
 |[],owner,k,_,I,_=>⟨owner,rfl,I⟩
 |h::hs,owner,k,hh,I,hl=>by
  obtain⟨n,e,hn⟩:=hh h (.head _);subst e;simp only[aiv]at hl;obtain⟨j,e,I'⟩:=Zn hm hn I (by omega)
  obtain⟨ow,e',Gg⟩:=JX hm hs _ (k+1) (λh x=>hh h (.tail _ x)) I' (by omega)
  refine⟨ow,?_,by rw[aiv,show k+(hs.length+1)=k+1+hs.length by omega];exact Gg⟩
  rw[ajn,aiv,show k+(hs.length+1)=k+1+hs.length by omega,<-e']
  congr 1
  show(do let j <-SetTable.layClean.free mask owner (SetTable.turns mask) (SetTable.bits n % (mask+1)) (SetTable.bits n);pure (owner.setIfInBounds j (ζ k),k+1):Option (Array (Option Nat)×Nat))=_
  rw[e];rfl
theorem Zp{mask:Nat}(hm:iN mask) (hs:Array Int) (hh:∀h∈hs.toList,∃n:Nat,h=n/\n<128) (hl:hs.toList.length<=mask) :
  ∃ow,SetTable.layClean mask hs=ζ ow/\pG mask ow hs.toList.length:=by
 obtain⟨ow,e,I⟩:=JX hm hs.toList (Array.replicate (mask+1) θ) 0 hh ⟨by simp,by simp⟩ (by omega)
 rw[aiW]at e I;refine⟨ow,?_,I⟩;unfold SetTable.layClean;rw[<-ame];exact congrArg (Option.map (λx:Array (Option Nat)×Nat=>x.1)) e
theorem AX(l:List (Option Nat)):(η l.length).filterMap (λj=>l.getD j θ)=l.filterMap id:=by
 have:l=(η l.length).map (λj=>l.getD j θ):=by
  apply alk
  ·simp
  ·intro i h1 h2;simp[aiA,ait h1]
 conv=>rhs;rw[this]
 rw[List.filterMap_map];rfl
theorem Zy{mask:Nat}(hm:iN mask) (f mv:Nat) (led plain:Bool) (hs:Array Int) (hh:∀h∈hs.toList,∃n:Nat,h=n/\n<128) (hl:hs.toList.length<=mask) :
  ∃place order,SetTable.laid mask f mv led plain hs=ζ ({mask:=mask,place:=place,dummies:=#[],finger:=f,led:=led,moves:=mv,plain:=plain},order)/\Up place.toList/\(∀j∈place.toList,j<=mask)/\place.size=hs.size/\order.toList.Perm (η hs.size):=by
 obtain⟨ow,e,h1,h2⟩:=Zp hm hs hh hl;refine⟨(((η (mask+1)).filterMap λj=>(ow.getD j θ).map (j,·)).map (·.1)).toArray,(((η (mask+1)).filterMap λj=>(ow.getD j θ).map (j,·)).map (·.2)).toArray,?_,?_,?_,?_,?_⟩
 ·unfold SetTable.laid;rw[e];rfl
 ·show Up ((((η (mask+1)).filterMap λj=>(ow.getD j θ).map (j,·)).map (·.1)).toArray).toList
  show List.Pairwise _ _;rw[ajC];refine amf _ (λa a' hlt b hb b' hb'=>?_) alm
  cases ha:ow.getD a θ<;>rw[ha]at hb<;>simp at hb
  cases ha':ow.getD a' θ<;>rw[ha']at hb'<;>simp at hb'
  rw[<-hb,<-hb'];exact hlt
 ·intro j hj;simp only[aik,aj5,ain]at hj;obtain⟨⟨a,b⟩,⟨c,hc,hq⟩,rfl⟩:=hj;cases ha:ow.getD c θ<;>rw[ha]at hq<;>simp at hq
  obtain⟨rfl,_⟩:=hq;omega
 ·have:((η (mask+1)).filterMap λj=>(ow.getD j θ).map (j,·)).length=(ow.toList.filterMap id).length:=by
   rw[<-AX,h1,<-aiu (f:=Prod.snd),aln]
   congr 1
   congr 1
   funext j
   rw[iT];cases ow.toList.getD j θ<;>rfl
  rw[aiw,aiu,this,h2.length_eq,ai8];simp
 ·show(((η (mask+1)).filterMap λj=>(ow.getD j θ).map (j,·)).map (·.2)).Perm _
  have:(((η (mask+1)).filterMap λj=>(ow.getD j θ).map (j,·)).map (·.2))=ow.toList.filterMap id:=by
   rw[<-AX,h1,aln]
   congr 1
   funext j
   rw[iT];cases ow.toList.getD j θ<;>rfl
  rw[this]
  simpa using h2
structure nB (t:aam) (n:Nat):Prop where
 size:t.place.size=n
 up:Up t.place.toList
 le:∀j∈t.place.toList,j<=t.mask
 dm:t.dummies=#[]
 mask:(t.mask=7/\n<=4)\/(t.mask=31/\n<=18)\/(t.mask=127/\n<=76)
 plain:t.plain=Θ
theorem nB.fits{t:aam}{n:Nat}(h:nB t n):t.fits n=Θ:=by
 have:=h.mask;simp only[SetTable.fits,SetTable.fill,h.size,h.dm,aiy,beq_self_eq_true,true_and,decide_eq_true_eq];simp only[aiw,aiR];omega
theorem Ph(led:Bool):nB (.fresh 0 0 led) 0:=⟨rfl,.nil,λj h=>by simp[SetTable.fresh]at h,rfl,.inl ⟨rfl,by omega⟩,rfl⟩
def HS(es:List (Int×Ξ)):Prop:=∀e∈es,∃n:Nat,e.1=n/\n<128
theorem Zo{t:aam}{es:Array (Int×Ξ)}{x:Ξ}{m:Nat}(I:nB t es.size) (hm:m<128) (hn:es.size<64) :
  ∃es1 t1,layNew t es (m:Int) x=(es1,t1,Ψ,Ψ)/\es1.size=es.size+1/\t1.led=t.led/\t1.plain=Θ/\t1.place.size=es1.size/\Up t1.place.toList/\(∀j∈t1.place.toList,j<=t1.mask)/\t1.dummies=#[]/\t1.mask=t.mask/\t1.fits es1.size=Θ:=by
 have hk:=I.mask;have hok:nU t.mask:=by unfold nU;omega
 have hsz:=I.size;obtain⟨j,e,h1,h2⟩:=ab3 (t:=t) I.dm hok hm (by simp[hsz];omega) I.up
 have hnd:(if SetTable.has t.dummies j then SetTable.eraseAt t.dummies (SetTable.below t.dummies j)else t.dummies)=#[]:=by
  rw[I.dm];rfl
 have hs1:(SetTable.insertAt es (SetTable.below t.place j) ((m:Int),x)).size=es.size+1:=by
  rw[<-aiB,(ajX ..).length_eq];simp
 have hs2:(SetTable.insertAt t.place (SetTable.below t.place j) j).size=es.size+1:=by
  rw[<-aiB,(ajX ..).length_eq];simp[hsz]
 have hfit:(t.put j).1.fits (es.size+1)=Θ:=by
  simp only[SetTable.put,SetTable.fits,SetTable.fill,hnd,hs2,aiy,beq_self_eq_true,true_and,decide_eq_true_eq];simp only[aiw,aiR];omega
 refine⟨SetTable.insertAt es (SetTable.below t.place j) ((m:Int),x),(t.put j).1,?_,hs1,rfl,I.plain,?_,?_,?_,hnd,rfl,?_⟩
 ·unfold layNew;rw[e];dsimp only;have hp:(t.put j).2=SetTable.below t.place j:=rfl;rw[hp,hs1];unfold SetTable.orStandIn;rw[hfit];rfl
 ·rw[hs1];exact hs2
 ·exact GJ I.up h1
 ·intro k hk';have:k∈(t.place.push j).toList:=(ajX t.place (SetTable.below t.place j) j).mem_iff.mp hk';rw[akQ,aiK,aiV]at this
  rcases this with q|rfl
  ·exact I.le k q
  ·exact h2
 ·rw[hs1];exact hfit
theorem Sg{t:aam}{es:Array (Int×Ξ)}(hp:t.plain=Θ) (hh:HS es.toList) (hm:(t.mask=7/\es.size=5)\/(t.mask=31/\es.size=19)) :
  ∃jw t2,relayAll t es (SetTable.grown es.size)=(jw,t2,Ψ)/\jw.size=es.size/\nB t2 jw.size/\t2.led=t.led:=by
 have hw:∃m,SetTable.sizeAbove (SetTable.grown es.size)-1=m/\((m=31/\es.size=5)\/(m=127/\es.size=19)):=by
  rcases hm with⟨_,e⟩|⟨_,e⟩
  ·rw[e];exact⟨31,by decide,.inl ⟨rfl,rfl⟩⟩
  ·rw[e];exact⟨127,by decide,.inr ⟨rfl,rfl⟩⟩
 obtain⟨m,ew,hq⟩:=hw;have hs:(es.map (·.1)).toList=es.toList.map (·.1):=by simp
 obtain⟨place,order,e,u1,u2,u3,u4⟩:=Zy (mask:=m) (by unfold iN;omega) t.finger (t.movedTo m) t.led t.plain (es.map (·.1)) (λh hx=>by
  rw[hs,aik]at hx;obtain⟨y,hy,rfl⟩:=hx;exact hh y hy) (by rw[hs,aiu,aiB];omega)
 rw[Array.size_map]at u3 u4;have hes:(order.filterMap (es[·]?)).size=es.size:=by
  rw[<-aiB,alo];exact((u4.filterMap _).trans (by rw[amg])).length_eq
 have hfit:SetTable.fits {mask:=m,place:=place,dummies:=#[],finger:=t.finger,led:=t.led,moves:=t.movedTo m,plain:=t.plain} es.size=Θ:=by
  simp only[SetTable.fits,SetTable.fill,u3,aiy,beq_self_eq_true,true_and,decide_eq_true_eq];simp only[aiw,aiR];omega
 refine⟨order.filterMap (es[·]?),{mask:=m,place:=place,dummies:=#[],finger:=t.finger,led:=t.led,moves:=t.movedTo m,plain:=t.plain},?_,hes,?_,?_⟩
 rotate_left
 ·rw[hes];exact⟨u3,u1,u2,rfl,.inr (by show(m=31/\_)\/(m=127/\_);omega),hp⟩
 ·rfl
 ·unfold relayAll SetTable.relaid;rw[ew,e];dsimp only;rw[hes,hfit];have hc:coversAll order es.size=Θ:=by unfold coversAll;exact List.isPerm_iff.mpr u4
  rw[hc];rfl
theorem abY{t t1:aam}{n:Nat}(I:nB t n) (hm:t1.mask=t.mask) (hs:t1.place.size=n+1) (hd:t1.dummies=#[]) (hn:n<64) :
  (t1.tooFull=Θ->(t1.mask=7/\n+1=5)\/(t1.mask=31/\n+1=19))/\(t1.tooFull=Ψ->((t1.mask=7/\n+1<=4)\/(t1.mask=31/\n+1<=18)\/(t1.mask=127/\n+1<=76))):=by
 have hk:=I.mask;have hz:(#[]:Array Nat).size=0:=rfl;simp only[SetTable.tooFull,SetTable.fill,hs,hd,hm,hz,decide_eq_true_eq,decide_eq_false_iff_not];omega
theorem KO{n:Nat}(h:n<128):hashInt (n:Int)=n:=by
 have:((η 128).all λn=>hashInt (n:Int)==(n:Int))=Θ:=by decide +kernel
 exact eq_of_beq (aip.mp this n (ain.mpr h))
def gg(w:ψ):Bool:=w.params.followText "set-order"
def fV(ns:List Nat) (x:Nat):List Nat:=if x∈ns then ns else ns++[x]
def gy(l:List (Int×Ξ)) (ns:List Nat):Prop:=(l.map (·.1)).Perm (ns.map λn:Nat=>(n:Int))/\∀e∈l,∃(n:Nat) (tk:Tok),e=((n:Int),.int n tk)/\n<128
def gM(w:ψ) (h:χ) (a:Ω) (ns:List Nat):Prop:=∃o es ep t,h.get? a=ζ o/\o.ExactSet/\o.data=.set es ep t/\nB t es.size/\t.led = !gg w/\gy es.toList ns
theorem gy.hs{l:List (Int×Ξ)}{ns:List Nat}(h:gy l ns):HS l:=λe he=>by
 obtain⟨n,tk,rfl,hn⟩:=h.2 e he;exact⟨n,rfl,hn⟩
theorem gy.len{l:List (Int×Ξ)}{ns:List Nat}(h:gy l ns):l.length=ns.length:=by
 have:=h.1.length_eq;simpa using this
theorem gy.mem{l:List (Int×Ξ)}{ns:List Nat}(h:gy l ns) (n:Nat):n∈ns↔∃e∈l,e.1=(n:Int):=by
 constructor
 ·intro hn;have:(n:Int)∈l.map (·.1):=h.1.mem_iff.mpr (aik.mpr ⟨n,hn,rfl⟩);obtain⟨e,he,q⟩:=aik.mp this;exact⟨e,he,q⟩
 ·rintro ⟨e,he,q⟩
  have:(n:Int)∈ns.map (λn:Nat=>(n:Int)):=h.1.mem_iff.mp (aik.mpr ⟨e,he,q⟩)
  obtain⟨m,hm,r⟩:=aik.mp this;have:m=n:=by omega
  exact this▸hm
theorem gy.perm{l l':List (Int×Ξ)}{ns:List Nat}(h:gy l ns) (p:l'.Perm l):gy l' ns:=⟨(p.map _).trans h.1,λe he=>h.2 e (p.mem_iff.mp he)⟩
theorem gy.push{l:List (Int×Ξ)}{ns:List Nat}(h:gy l ns) {m:Nat}(hm:m<128) (tk:Tok):gy (l++[((m:Int),.int m tk)]) (ns++[m]):=by
 refine⟨?_,λe he=>?_⟩
 ·rw[ajs,ajs];exact h.1.append_right _
 ·rcases aiK.mp he with he|he
  ·exact h.2 e he
  ·rw[aiV]at he;exact⟨m,tk,he,hm⟩
section
variable {prog:τ}{w:ψ}{A:ω}{E:Ξ->ε->Prop}{s:ε}
theorem gy.els{l:List (Int×Ξ)}{ns:List Nat}(h:gy l ns):ElemsOf (intKind prog w) l:=λe he=>by
 obtain⟨n,tk,rfl,hn⟩:=h.2 e he;exact⟨⟨n,by simp[intKind,Value.isInt],(KO hn).symm⟩,rfl⟩
theorem wK{h:χ}{a:Ω}{o:Obj}{es es':Array (Int×Ξ)}{ep:Nat}{t t':aam}(ho:h.get? a=ζ o) (hd:o.data=.set es ep t) :
  (h.update a (Obj.putSet es' t')).get? a=ζ {o with data:=.set es' (ep+1) t'}:=by
 have:=akz (Obj.putSet es' t') ho (by rw[putSet_of es' t' hd];rfl)
 rwa[putSet_of es' t' hd]at this
theorem RK{a:Ω}{ns:List Nat}{m:Nat}{tk:Tok}{Q:Bool->ε->Prop}(hm:m<128) (hS:gM w s.heap a ns) (hn:ns.length<64)
  (h:∀b h',aaV a s.heap h'->gM w h' a (fV ns m)->Q b {s with heap:=h'}):wpAny (model prog w) A (setAddHashed a (.int m tk) (hashInt m)) Q E s:=by
 obtain⟨o,es,ep,t,ho,hex,hd,hI,hl,hs⟩:=hS;have hsz:es.size=ns.length:=by rw[<-aiB];exact hs.len
 have hel:ElemsOf (intKind prog w) es.toList:=hs.els;have hkey:(intKind prog w).is (m:Int) (.int m tk)=Θ:=by simp[intKind,Value.isInt]
 unfold setAddHashed setAddHashedIn;refine aje (aih (ajt ho hd hI.fits ?_));dsimp only;rw[byScan_of (knd:=intKind prog w) rfl (by unfold scanBound;omega) hel]
 simp only[↓reduceIte];unfold setAddByScan;refine aih (aih (wpAny_rule (aih (wpAny_setScan_of (knd:=intKind prog w) hkey ho hd hI.fits hel ?_))));have hfind:∀e∈es.toList,(intKind prog w).is (m:Int) e.2=Θ->e.1=(m:Int):=λe he q=>by
  obtain⟨n,tk',rfl,_⟩:=hs.2 e he;obtain⟨t',q⟩:=akq (show Value.isInt (m:Int) (.int (n:Int) tk')=Θ from q)
  injection q
 cases hr:es.toList.findIdx? (λe=>(intKind prog w).is (m:Int) e.2)with
 |some j =>
  dsimp only;obtain⟨hj,hpj,_⟩:=al8.mp hr;have hmem:m∈ns:=(hs.mem m).mpr ⟨_,aiJ hj,hfind _ (aiJ hj) hpj⟩;refine aii (aii ?_);exact h Ψ s.heap (Heap.SameBut.refl a s.heap) (by unfold fV;rw[if_pos hmem];exact⟨o,es,ep,t,ho,hex,hd,hI,hl,hs⟩)
 |none =>
  dsimp only;have hmem:m∉ns:=λhq=>by
   obtain⟨e,he,q⟩:=(hs.mem m).mp hq;have:=List.findIdx?_eq_none_iff.mp hr e he;obtain⟨n,tk',rfl,_⟩:=hs.2 e he;have e:n=m:=by dsimp only at q;omega
   subst e;simp[intKind,Value.isInt]at this
  have hst:fV ns m=ns++[m]:=by unfold fV;rw[if_neg hmem]
  rw[hst]at h;rw[KO hm];have jS:=layNew_perm t es (m:Int) (.int m tk);obtain⟨es1,t1,e1,q1,q2,q3,q4,q5,q6,q7,q8,q9⟩:=Zo (x:=.int m tk) hI hm (by omega)
  rw[e1]at jS ⊢;dsimp only at jS ⊢;rw[akQ]at jS;have hs1:gy es1.toList (ns++[m]):=(hs.push hm tk).perm jS;refine aih (aii ?_);rw[q3];simp only[↓reduceIte];refine aih ?_;rw[alp 8 (x:=.int m tk) rfl];refine aii ?_;dsimp only[plainKind];simp only[↓reduceIte];refine aih (akR ho hd ?_ (fits_of_scanBound (by unfold scanBound;omega)))
  have m9:=wK (es':=es1) (t':=t1) ho hd;have iB:=ajL s.heap a (Obj.putSet es1 t1);have hcs:=abY hI q8 (q4.trans q1) q7 (by omega)
  cases hf:t1.tooFull with
  |false =>
   simp only[aki,ak9,aiU,↓reduceIte];refine aii (aii (h Θ _ iB ⟨_,es1,ep+1,t1,m9,hex,rfl,⟨q4,q5,q6,q7,?_,q3⟩,q2.trans hl,hs1⟩));rw[q1];exact hcs.2 hf
  |true =>
   simp only[aki,Bool.and_self,↓reduceIte];have hp2:=relayAll_perm t1 es1 (SetTable.grown es1.size);obtain⟨jw,t2,e2,r1,r2,r3⟩:=Sg q3 hs1.hs (by rw[q1];exact hcs.1 hf)
   rw[e2]at hp2 ⊢;dsimp only at hp2 ⊢;refine aih (aii ?_);refine aih (akR m9 rfl ?_ (fits_of_scanBound (by unfold scanBound;omega)))
   exact aii (aii (h Θ _ (iB.trans (ajL _ a _)) ⟨_,jw,ep+1+1,t2,wK m9 rfl,hex,rfl,r2,r3.trans (q2.trans hl),hs1.perm hp2⟩))
end
def cY(xs:List Nat):List Nat:=xs.foldl fV []
theorem ace{xs:List Nat}{i:Nat}(h:i<xs.length):cY (xs.take (i+1))=fV (cY (xs.take i)) xs[i]:=by
 unfold cY;rw[akS h,akj];rfl
theorem Ll:∀(xs ns:List Nat),ns.length<=(xs.foldl fV ns).length
 |[],ns=>aij _
 |x::xs,ns=>by
  have:=Ll xs (fV ns x);have h:ns.length<=(fV ns x).length:=by unfold fV;split<;>simp
  rw[ajn];omega
theorem acf(xs:List Nat) (i:Nat):(cY (xs.take i)).length<=(cY xs).length:=by
 have:cY xs=(xs.drop i).foldl fV (cY (xs.take i)):=by
  unfold cY;rw[<-akj,ajM]
 rw[this];exact Ll _ _
theorem gM.at{w:ψ}{h h':χ}{a:Ω}{ns:List Nat}(x:gM w h a ns) (k:∀o,h.get? a=ζ o->h'.get? a=ζ o):gM w h' a ns :=
 let⟨o,es,ep,t,ho,r⟩:=x;⟨o,es,ep,t,k o ho,r⟩
section
variable {prog:τ}{w:ψ}{A:ω}{s:ε}{E:Ξ->ε->Prop}
theorem Hu{R:abI->ε->Prop}{I:Ω}{fp wr:List Ω}{G:Array abc->Array abc->Prop}{P:Nat->Ξ->Prop}{St:Nat->ε->Prop}{xs:List Nat}
  (W:WalksS prog w A.in1 I fp wr G xs.length P St) (S:Ω) (hSf:S∉fp) (hval:∀(i:Nat) v,(hi:i<xs.length)->P i v->∃t,v=Value.int (xs[i]:Nat) t) (hx:∀x∈xs,x<128) (h64:(cY xs).length<64) :
  ∀(k i:Nat) (s:ε),xs.length-i=k->i<=xs.length->St i s->gM w s.heap S (cY (xs.take i)) ->
   (∀s',Moved (S::wr) G s s'->gM w s'.heap S (cY xs)->R (.ok (.ret .none)) s') ->
   codeAny (model prog w) A (.builtin "set.update.loop" ⟨[.ref S,.ref I],[]⟩) R s:=by
 have ye:S∉wr:=λh=>hSf (W.sub _ h)
 have hup:∀b∈wr,b∈S::wr:=λb hb=>.tail _ hb
 intro k
 induction k with
 |zero =>
  intro i s hk hi st hS hR;cases(show i=xs.length by omega)
  refine ajr akT ?_;rw[akk ajY _];show wpAny _ A.in1 (pyNext (.ref I) >>= _) _ _ s;refine aih (W.done s _ _ st λs' hm=>?_)
  rw[ajZ]at hS;exact aii (hR s' (hm.mono hup) (hS.at λo e=>hm.heap S _ ye e))
 |succ k ih =>
  intro i s hk hi st hS hR;have hlt:i<xs.length:=by omega
  refine ajr akT ?_;rw[akk ajY _];show wpAny _ A.in1 (pyNext (.ref I) >>= _) _ _ s;refine aih (W.item i s _ _ hlt st λv s' hP st' hm=>?_)
  obtain⟨t,rfl⟩:=hval i v hlt hP;have hS':gM w s'.heap S (cY (xs.take i)):=hS.at λo e=>hm.heap S _ ye e
  show wpAny _ A.in1 (holding [Value.int (xs[i]:Nat) t] (setAdd S (.int (xs[i]:Nat) t)) >>= _) _ _ s';refine aih (aje ?_);unfold setAdd;refine aje (aih ((intKind prog w).pyHash (k:=(xs[i]:Nat)) (by simp[intKind,Value.isInt]) ?_))
  have hl:(cY (xs.take i)).length<64:=akb (acf xs i) h64;refine RK (s:={s' with toks:=s'.toks+1}) (hx _ (aiJ hlt)) hS' hl λb h' iB kM=>?_
  rw[<-ace hlt]at kM;refine aii ⟨alq ajY _,ih (i+1) _ (by omega) hlt (W.frame _ s' _ _ st' (ajS _) λb hb o e=>?_) kM λs'' De Dm=>?_⟩
  ·rw[iB.2 b (λq:b=S=>hSf (q▸hb))];exact e
  ·refine hR s'' (Moved.trans W.gtrans ((hm.mono hup).then_heap (ajS _) λb o hb e=>?_) De) Dm
   rw[iB.2 b (λq:b=S=>hb (q▸.head _))];exact e
def cK(w:ψ):Obj:={cls:=.type "set",dict:=θ,data:=.set #[] 0 (.fresh 0 0 (!gg w))}
theorem LI(w:ψ) {h:χ}{a:Ω}(e:h.get? a=ζ (cK w)):gM w h a [] :=
 ⟨_,#[],0,_,e,⟨rfl,rfl,rfl⟩,rfl,Ph _,rfl,.refl _,λe he=>by cases he⟩
theorem AF(a:Ξ) {Q₁:Ξ->ε->Prop}(h:Q₁ (.ref s.heap.objs.size) {s with heap:=s.heap.push (cK w)}) :
  codeAny (model prog w) A (.call (.builtin "set.__new__") ⟨[.type "set",a],[]⟩) (wants Q₁ E) s:=by
 refine akU (show wpAny _ A.in1 (do checkBuiltinCall "set.__new__" ⟨[.type "set",a],[]⟩;again (.builtin "set.__new__" ⟨[.type "set",a],[]⟩)) _ _ s from ?_)
 refine aih (akV (PySem.F.newCall_set_1 a) (aii ⟨alq amh _,ajr PySem.F.entry_set_new ?_⟩));rw[akk amh _];unfold Builtin.«set.__new__» Builtin.Frozenset.newClass;have hsub:=sub_set_self;obtain⟨hp,g,d,tk,os⟩:=s;dsimp only;wp_walk;refine akl (aii ?_);dsimp only;simp only[newObj];exact aih (wpAny_alloc (aii (aii h)))
set_option maxHeartbeats 3200000 in
theorem RG{l:Ω}{items:Array Ξ}{xs:List Nat}{Q:Ξ->ε->Prop}(hh:A.handled=θ) (hl:s.heap.IsList l items) (hi:aa8 items.toList (xs.map λn:Nat=>(n:Int))) (hx:∀x∈xs,x<128) (h64:(cY xs).length<64)
  (h:∀(h':χ) (tk:Nat),gM w h' s.heap.objs.size (cY xs)->(∀b o,b<s.heap.objs.size->s.heap.get? b=ζ o->h'.get? b=ζ o)->Q (.ref s.heap.objs.size) {s with heap:=h',toks:=tk}) :
  wpAny (model prog w) A (call (.type "set") [.ref l]) Q E s:=by
 obtain⟨c,tl,KG⟩:=aiF.mro;have hmade:=aiF.made;have hsub:=aiF.sub;refine aj8 (akU (show wpAny _ _ (callAny (.type "set") _) _ _ _ from ?_))
 refine aii ⟨akH _ (by decide +kernel),ajr alr ?_⟩
 rw[als (alu "set" [.ref l] []) rfl];have h1:=aiF.notType;have h2:=aiF.canCreate;have hct:=alv (.ref l)
 repeat any_goals (first|assumption|wp_step)
 refine aji (AF (.ref l) (E:=E) (Q₁:=λobj s₁=>obj=.ref s.heap.objs.size/\s₁={s with heap:=s.heap.push (cK w)}) ⟨rfl,rfl⟩) λr s₁ hr=>?_
 cases r with
 |error e=>exact hr
 |ok fl =>
  cases fl with
  |ret obj =>
   obtain⟨rfl,rfl⟩:=hr;have hS:(s.heap.push (cK w)).get? s.heap.objs.size=ζ (cK w):=aiI _ rfl;have hT:abG {s with heap:=s.heap.push (cK w)} (.ref s.heap.objs.size) "set":=⟨_,hS,rfl⟩
   have hli:=aiF.init.lookup;have hbi:=aiF.init.bind (.ref s.heap.objs.size)
   repeat any_goals (first|assumption|wp_step)
   refine aji (akh (R:=wants (λr s₂=>r=.none/\∃h' tk,s₂={s with heap:=h',toks:=tk}/\gM w h' s.heap.objs.size (cY xs) /\
     (∀b o,b<s.heap.objs.size->s.heap.get? b=ζ o->h'.get? b=ζ o)) E) aiF.init.plain alw (alx hT ?_)) λr₂ s₂ jt=>?_
   ·obtain⟨ol,kK,hcl,nl,hdl⟩:=hl;obtain⟨IQ,uq,IK,um⟩:=ol;simp only at hcl hdl;subst hcl;subst hdl;have m8:(s.heap.push (cK w)).get? l=ζ {cls:=.type "list",dict:=uq,data:=.seq items nl,slots:=um}:=air _ kK;have Ky:=ami;have Kz:=amj;have hne:(Value.type "list"==Value.type "dict")=Ψ:=by decide
    have hl1:(s.heap.push (cK w)).IsList l items:=⟨_,m8,rfl,nl,rfl⟩;unfold cK at hS hT m8 ⊢;unfold Builtin.«set.__init__» noKeywords Builtin.Frozenset.updateFrom
    generalize uS:pyIter=PI
    wp_walk
    subst uS;refine aks hl1 (aih (aly ?_));have hlS:l<s.heap.objs.size:=aim kK;have hlen:items.size=xs.length:=by have:=hi.length;simpa using this
    have uP:l≠(s.heap.push (cK w)).objs.size:=by rw[ai0];exact aiq (ajj hlS)
    have hSf:s.heap.objs.size∉[(s.heap.push (cK w)).objs.size,l]:=by
     rw[ai0];simp only[aio,aiE,or_false,not_or];exact⟨aiq (ajf _),ajc hlS⟩
    have W:=(Walks.list (prog:=prog) (w:=w) (A:=A.in1.in1.in1) (by simp[hh]) (s.heap.push (cK w)).objs.size l uP items).toS
    rw[hlen]at W;refine Hu (xs:=xs) W s.heap.objs.size hSf (λi v hi' hv=>?_) hx h64 xs.length 0 _ (by omega) (ajk _) ⟨⟨_,aiI _ rfl,rfl,rfl⟩,hl1.push _⟩ (LI w (air _ hS)) λs' hm hS'=>?_
    ·obtain⟨t,e⟩:=IntsAre.int_at hi i v (by rw[aiS];exact hv)
     exact⟨t,by rw[e];simp[aiA,ait hi']⟩
    ·obtain⟨h',g',d',tk',os'⟩:=s';cases(show g'=s.gens from hm.gens)
     cases(show d'=s.drawn from hm.drawn)
     cases(show os'=s.os from hm.os)
     refine aii (aii ⟨rfl,h',tk',rfl,hS',λb o hb e=>?_⟩)
     exact hm.heap b o (by rw[ai0];simp only[aio,aiE,or_false,not_or];exact⟨aiq hb,aiq (ajj hb)⟩) (air _ (air _ e))
   ·cases r₂ with
    |error e=>exact jt
    |ok uZ =>
     cases uZ with
     |ret r =>
      obtain⟨rfl,h',tk,rfl,hS',hk'⟩:=jt
      repeat any_goals (first|assumption|wp_step)
      exact h _ _ hS' hk'
     |_=>exact jt.elim
  |_=>exact hr.elim
end
theorem pK:Slot "set_iterator" "__next__" "set_iterator.__next__" :=
 .of (owner:="set_iterator") (n:="__next__") (by rw[typeLookup_type,amk];kernel_rfl) (by decide +kernel) (by decide +kernel)
  (by decide +kernel) (by first|exact .inl (by decide +kernel)|exact .inr (by decide +kernel)) (by rw[akW];kernel_rfl)
theorem G8:Slot "set_iterator" "__iter__" "set_iterator.__iter__" :=
 .of (owner:="set_iterator") (n:="__iter__") (by rw[typeLookup_type,amk];kernel_rfl) (by decide +kernel) (by decide +kernel)
  (by decide +kernel) (by first|exact .inl (by decide +kernel)|exact .inr (by decide +kernel)) (by rw[akW];kernel_rfl)
theorem Hf:entryFor table "set_iterator.__next__"=ζ Builtin.«set_iterator.__next__»:=entryFor_of_tree (by kernel_rfl)
theorem Qk:entryFor table "set_iterator.__iter__"=ζ Builtin.«dict_keyiterator.__iter__» :=
 entryFor_alias (id':="dict_keyiterator.__iter__") (by kernel_rfl) rfl (by decide +kernel) (by kernel_rfl)
theorem Qj:entryFor table "set.__iter__"=ζ Builtin.«frozenset.__iter__» :=
 entryFor_alias (id':="frozenset.__iter__") (by kernel_rfl) rfl (by decide +kernel) (by kernel_rfl)
theorem G9:Manifest.owners.lookup (String.ofList ['r','o','t','a','r','e','t','i','_','t','e','s'].reverse)=ζ Manifest.sig_set_iterator:=by kernel_rfl
theorem Hg(a:Ξ):argsOk "set_iterator.__next__" ⟨[a],[]⟩:=by
 unfold argsOk;rw[signature?_of (id:="set_iterator.__next__") (n:=['_','_','t','x','e','n','_','_']) (o:=['r','o','t','a','r','e','t','i','_','t','e','s']) (by kernel_rfl) G9];kernel_rfl
theorem Ql(a:Ξ):argsOk "set_iterator.__iter__" ⟨[a],[]⟩:=by
 unfold argsOk;rw[signature?_of (id:="set_iterator.__iter__") (n:=['_','_','r','e','t','i','_','_']) (o:=['r','o','t','a','r','e','t','i','_','t','e','s']) (by kernel_rfl) G9];kernel_rfl
theorem zf{α:Type}{l:List α}{i:Nat}(h:i<l.length):([l[i]]++l.eraseIdx i).Perm l:=by
 rw[ajN];have e:l=l.take i++l[i]::l.drop (i+1):=by rw[<-akF h,ajM]
 conv=>rhs;rw[e]
 exact(alz (a:=l[i]) (l₁:=l.take i) (l₂:=l.drop (i+1))).symm
theorem Ic{α:Type}(next:Nat->Nat):∀(fuel k:Nat) (left:List α) (out:Array α),fuel=left.length->(pickOrder.go next fuel k left out).toList.Perm (out.toList++left)
 |0,k,left,out,h=>by
  have:left=[]:=alA.mp h.symm;subst this;unfold pickOrder.go;simp
 |fuel+1,k,left,out,h=>by
  unfold pickOrder.go;have hlt:next k % left.length<left.length:=ajg _ (by omega)
  rw[ait hlt];dsimp only;refine(Ic next fuel _ _ _ (by rw[aml hlt];omega)).trans ?_
  rw[akQ,aiZ];exact(zf hlt).append_left _
def iM(w:ψ) (a:Ω) (ep:Nat) (es:Array (Int×Ξ)):Array (Int×Ξ):=if gg w then pickOrder (w.params.setOrder a ep) es else es
theorem xu(w:ψ) (a:Ω) (ep:Nat) (es:Array (Int×Ξ)):(iM w a ep es).toList.Perm es.toList:=by
 unfold iM;split
 ·unfold pickOrder
  simpa using Ic (w.params.setOrder a ep) es.size 0 es.toList #[] (by simp)
 ·exact .rfl
def ir(b:Bool) (place:Array Nat):Nat->Nat
 |0=>0
 |i+1=>if b then 0 else place.toList.getD i 0+1
def j4(h:χ) (it a:Ω) (sl i n ep:Nat):Prop:=∃o,h.get? it=ζ o/\o.cls=.type "set_iterator"/\o.data=.fields #[.int sl 0,.int i 0,.ref a,.int n 0,.int ep 0]
theorem j4.typeIs{s:ε}{it a:Ω}{sl i n ep:Nat}(h:j4 s.heap it a sl i n ep):s.TypeIs (.ref it) "set_iterator":=let⟨o,ho,hc,_⟩:=h;⟨o,ho,hc⟩
theorem j4.at{h h':χ}{it a:Ω}{sl i n ep:Nat}(x:j4 h it a sl i n ep) (k:∀o,h.get? it=ζ o->h'.get? it=ζ o):j4 h' it a sl i n ep:=let⟨o,ho,r⟩:=x;⟨o,k o ho,r⟩
def gY(w:ψ) (h:χ) (a:Ω) (es:Array (Int×Ξ)) (ep:Nat) (t:aam):Prop:=∃o,h.get? a=ζ o/\o.ExactSet/\o.data=.set es ep t/\nB t es.size/\t.led = !gg w
theorem gY.at{w:ψ}{h h':χ}{a:Ω}{es:Array (Int×Ξ)}{ep:Nat}{t:aam}(x:gY w h a es ep t) (k:∀o,h.get? a=ζ o->h'.get? a=ζ o):gY w h' a es ep t:=let⟨o,ho,r⟩:=x;⟨o,k o ho,r⟩
section
variable {prog:τ}{w:ψ}{A:ω}{E:Ξ->ε->Prop}{s:ε}
theorem Ht{a:Ω}{es:Array (Int×Ξ)}{ep i:Nat}{t:aam}{Q:Option (Ξ×Nat)->ε->Prop}(hS:gY w s.heap a es ep t) (hi:i<=es.size)
  (h:Q ((iM w a ep es)[i]?.map λe=>(e.2,ir (gg w) t.place (i+1))) s):wpAny (model prog w) A (setNext a (ir (gg w) t.place i) i ep) Q E s:=by
 obtain⟨o,ho,hex,hd,hI,hl⟩:=hS;unfold setNext;refine aih (ajt ho hd hI.fits ?_);dsimp only;refine aih ?_;unfold setsByText;refine aih (akl (aii ?_));show wpAny _ _ (if gg w=Θ then _ else _) _ _ _
 unfold iM at h;cases hb:gg w with
 |true =>
  rw[hb]at h;simp only[if_true,bne_self_eq_false,aiU,if_false]at h ⊢;refine aih ?_;unfold setWalk;refine aih (ajt ho hd hI.fits ?_);dsimp only;refine aih ?_;unfold setsByText;refine aih (akl (aii ?_));show wpAny _ _ (if gg w=Θ then _ else _) _ _ _
  rw[hb];simp only[if_true];refine aih (akl (aii (aii ?_)));have e:ir Θ t.place (i+1)=ir Θ t.place i:=by cases i<;>rfl
  rw[e]at h;exact h
 |false =>
  rw[hb]at h hl;simp only[aiU,if_false]at h ⊢;show wpAny _ _ (if(!t.plain&&decide (es.size>1))=Θ then _ else _) _ _ _
  rw[hI.plain];simp only[aj0,ak3,aiU,if_false];refine aih (akV (a:=()) ?_ ?_)
  ·show(if(!t.led && !es.isEmpty)=Θ then _ else _)=_
   rw[hl];rfl
  have hbl:SetTable.below t.place (ir Ψ t.place i)=i:=by
   cases i with
   |zero=>exact afj hI.up
   |succ i=>exact afk hI.up (by rw[aiB,hI.size];omega)
  rw[hbl];refine aii ?_
  rcases akN i es.size with hlt|hge
  ·have hp:i<t.place.size:=by rw[hI.size];exact hlt
   rw[akm hlt]at h ⊢;rw[akm hp];have e:ir Ψ t.place (i+1)=t.place[i]+1:=by
    simp[ir,aiA,ait (show i<t.place.toList.length by simpa using hp)]
   rw[e]at h;exact h
  ·rw[amm hge]at h ⊢;exact h
end
section
variable {prog:τ}{w:ψ}{A:ω}{E:Ξ->ε->Prop}{s:ε}
theorem aap{it a:Ω}{es:Array (Int×Ξ)}{ep i:Nat}{t:aam}{v:Int×Ξ}{Q:Option Ξ->ε->Prop}(hit:j4 s.heap it a (ir (gg w) t.place i) i es.size ep) (hS:gY w s.heap a es ep t) (hi:i<es.size)
  (hv:(iM w a ep es)[i]? = ζ v) (hQ:∀h',j4 h' it a (ir (gg w) t.place (i+1)) (i+1) es.size ep->aaV it s.heap h'->Q (ζ v.2) {s with heap:=h'}) :
  wpAny (model prog w) A (pyNext (.ref it)) Q E s:=by
 obtain⟨o,ho,hc,hd⟩:=id hit;obtain⟨oS,hoS,KI,hdS,hI,hl⟩:=id hS;unfold pyNext;refine aih (wpAny_attempt (amn (name:=Str.ofString "__next__") hit.typeIs pK (akn pK hit.typeIs Hf ?_ (Hg _))));unfold Builtin.«set_iterator.__next__»;refine aih (aii ?_);refine aih (wpAny_fieldsOf ho hd ?_);dsimp only;refine aih (alB hoS hdS hI.fits ?_);rw[if_neg (by simp)]
 refine aih (Ht (ep:=ep) (i:=i) hS (ajG hi) ?_);rw[hv];dsimp only[Option.map];refine aih (alC ho hd (by simp) ?_)
 have g1:=akz (Obj.mapFields (·.setIfInBounds 0 (rawInt ((ir (gg w) t.place (i+1):Nat):Int)))) ho (amo (akX hd _));have d1:=akX hd (·.setIfInBounds 0 (rawInt ((ir (gg w) t.place (i+1):Nat):Int)));refine aih (alC g1 d1 (by simp) ?_)
 have g2:=akz (Obj.mapFields (·.setIfInBounds 1 (rawInt ((i:Int)+1)))) g1 (amo (akX d1 _));have d2:=akX d1 (·.setIfInBounds 1 (rawInt ((i:Int)+1)));refine aii ⟨_,rfl,aii (hQ _ ⟨_,g2,?_,?_⟩ ((ajL ..).trans (ajL ..)))⟩
 ·exact(Obj.cls_mapFields ..).trans ((Obj.cls_mapFields ..).trans hc)
 ·rw[d2];simp[rawInt]
theorem aaq{it a:Ω}{es:Array (Int×Ξ)}{ep:Nat}{t:aam}{Q:Option Ξ->ε->Prop}(hh:A.handled=θ) (hit:j4 s.heap it a (ir (gg w) t.place es.size) es.size es.size ep) (hS:gY w s.heap a es ep t)
  (hQ:∀h',Heap.ExtBut it s.heap h'->Q θ {s with heap:=h'}):wpAny (model prog w) A (pyNext (.ref it)) Q E s:=by
 obtain⟨o,ho,hc,hd⟩:=id hit;obtain⟨oS,hoS,KI,hdS,hI,hl⟩:=id hS;unfold pyNext;refine aih (wpAny_attempt (amn (name:=Str.ofString "__next__") hit.typeIs pK (akn pK hit.typeIs Hf ?_ (Hg _))));unfold Builtin.«set_iterator.__next__»;refine aih (aii ?_);refine aih (wpAny_fieldsOf ho hd ?_);dsimp only;refine aih (alB hoS hdS hI.fits ?_);rw[if_neg (by simp)]
 refine aih (Ht (ep:=ep) (i:=es.size) hS (aij _) ?_);have hv:(iM w a ep es)[es.size]? = θ:=by
  have:=(xu w a ep es).length_eq;rw[aiB,aiB]at this;exact amm (by omega)
 rw[hv];dsimp only[Option.map];refine aih (alC ho hd (by simp) ?_)
 show wpAny _ _ (newExc (.type "StopIteration") [] >>= _) _ _ _;refine aih ?_;simp only[newExc,newTuple];refine aih (akC ?_ (by size_fits))
 refine aih (m:=firstArgMember _ _) (akV (a:=Value.none) (by first|rfl|(simp only[firstArgMember];rfl)) (akC ?_ (by size_fits)))
 simp only[raiseNew];refine aih (wpAny_handled ?_);rw[show A.in1.handled=θ from hh]
 refine aih (aii (wpAny_throw ?_));refine aih (wpAny_isInstance (b:=Θ) (T:="StopIteration") ⟨_,aiI _ rfl,rfl⟩ isSubtype_stop ?_);exact aii (hQ _ (((ajL ..).extBut.push _).push _))
theorem aan{it a:Ω}{sl i n ep:Nat}{Q:Ξ->ε->Prop}(hit:j4 s.heap it a sl i n ep) (h:Q (.ref it) s):wpAny (model prog w) A (pyIter (.ref it)) Q E s:=by
 refine wpAny_pyIter_slot hit.typeIs G8 (akn G8 hit.typeIs Qk (show wpAny _ _ (ret (.ref it)) _ _ s from ?_) (Ql _))
 exact aii ⟨_,rfl,"set_iterator",_,hit.typeIs,pK.lookup,h⟩
theorem RC(hh:A.handled=θ) (I a:Ω) (hne:a≠I) (es:Array (Int×Ξ)) (ep:Nat) (t:aam) :
  Walks prog w A I [I,a] [I] es.size (λi v=>(iM w a ep es)[i]?.map (·.2)=ζ v) (λi h=>j4 h I a (ir (gg w) t.place i) i es.size ep/\gY w h a es ep t) where
 sub:=λb hb=>by simp at hb;simp[hb]
 frame:=λ_ _ _ st hk=>⟨st.1.at λo e=>hk I (by simp) o e,st.2.at λo e=>hk a (by simp) o e⟩
 item:=λi s Q E hi st hQ=>by
  have hl:=(xu w a ep es).length_eq;rw[aiB,aiB]at hl;have hv:(iM w a ep es)[i]? = ζ (iM w a ep es)[i]:=akm (by omega)
  refine aap st.1 st.2 hi hv λh' Dg hs'=>hQ _ h' s.toks (by rw[hv];rfl) ⟨Dg,st.2.at λo e=>?_⟩ λb o hb e=>hs'.extBut b o (λh=>hb (by simp[h])) e
  exact hs'.extBut a o hne e
 done:=λs Q E st hQ=>aaq hh st.1 st.2 λh' he'=>hQ h' s.toks λb o hb e=>he' b o (λh=>hb (by simp[h])) e
 self:=λ_ _ _ _ st hQ=>aan st.1 hQ
theorem gY.typeIs{a:Ω}{es:Array (Int×Ξ)}{ep:Nat}{t:aam}(h:gY w s.heap a es ep t):s.TypeIs (.ref a) "set":=let⟨o,ho,hx,_⟩:=h;⟨o,ho,hx.1⟩
theorem RI{a:Ω}{es:Array (Int×Ξ)}{ep:Nat}{t:aam}{Q:Ξ->ε->Prop}(hS:gY w s.heap a es ep t)
  (hQ:Q (.ref s.heap.objs.size) {s with heap:=s.heap.push {cls:=.type "set_iterator",data:=.fields #[.int 0 0,.int 0 0,.ref a,.int es.size 0,.int ep 0]} }):wpAny (model prog w) A (pyIter (.ref a)) Q E s:=by
 obtain⟨oS,hoS,KI,hdS,hI,hl⟩:=id hS;refine wpAny_pyIter_slot hS.typeIs amq (akn amq hS.typeIs Qj ?_ (PySem.F.args_set_iter_1 _));unfold Builtin.«frozenset.__iter__» Builtin.Frozenset.slot0;refine aih (aih (aii (aii ?_)));unfold Builtin.Frozenset.sizeOf;refine aih (aih (alB hoS hdS hI.fits (aii ?_)));refine aih ?_;unfold setDrawn;refine aih (ajt hoS hdS hI.fits ?_);dsimp only;refine aih ?_;unfold setsByText;refine aih (akl (aii (aii ?_)));have e:(!gg w&&(!t.plain&&decide (es.size>1)))=Ψ:=by rw[hI.plain];simp
 show wpAny _ _ (if(!gg w&&(!t.plain&&decide (es.size>1)))=Θ then _ else _) _ _ _
 rw[e];simp only[aiU,if_false];refine aih (aii ?_);refine aih (wpAny_setEpoch_of hoS hdS hI.fits ?_);refine aih ?_;refine akC (aii ⟨_,rfl,"set_iterator",_,⟨_,aiI _ rfl,rfl⟩,pK.lookup,?_⟩);exact hQ
end
end L2
namespace L2
open PySem PySem.Spec PyProof.Rows PySem.W
def mY(x:Nat):List Nat->List Nat
 |[]=>[x]
 |y::l=>if x<y then x::y::l else if x=y then y::l else y::mY x l
def cj:List Nat->List Nat
 |[]=>[]
 |x::l=>mY x (cj l)
theorem Bq{x y:Nat}:∀{l:List Nat},y∈mY x l↔y=x\/y∈l
 |[]=>by simp[mY]
 |z::l=>by
  unfold mY;split
  ·simp
  ·split
   ·rename_i h;subst h;simp
   ·simp only[aio,Bq (l:=l)]
    constructor
    ·rintro (h|h|h)<;>simp[h]
    ·rintro (h|h|h)<;>simp[h]
theorem GK{x:Nat}:∀{l:List Nat},Up l->Up (mY x l)
 |[],_=>by simp[mY]
 |z::l,h=>by
  obtain⟨h1,h2⟩:=ajV.mp h;unfold mY;split
  ·rename_i hx;exact ajV.mpr ⟨λb hb=>by
    rcases aio.mp hb with rfl|hb
    ·exact hx
    ·exact alf hx (h1 b hb),h⟩
  ·split
   ·exact h
   ·refine ajV.mpr ⟨λb hb=>?_,GK h2⟩
    rcases Bq.mp hb with rfl|hb
    ·omega
    ·exact h1 b hb
theorem pJ:∀l:List Nat,Up (cj l)
 |[]=>.nil
 |x::l=>GK (pJ l)
theorem mQ{y:Nat}:∀{l:List Nat},y∈cj l↔y∈l
 |[]=>by simp[cj]
 |x::l=>by simp[cj,Bq,mQ (l:=l)]
theorem up_eq:∀{l m:List Nat},Up l->Up m->(∀x,x∈l↔x∈m)->l=m
 |[],[],_,_,_=>rfl
 |[],y::m,_,_,h=>absurd ((h y).mpr (.head _)) (by simp)
 |x::l,[],_,_,h=>absurd ((h x).mp (.head _)) (by simp)
 |x::l,y::m,h1,h2,h=>by
  obtain⟨a1,a2⟩:=ajV.mp h1;obtain⟨b1,b2⟩:=ajV.mp h2;have e:x=y:=by
   rcases aio.mp ((h x).mp (.head _))with e|hx
   ·exact e
   ·rcases aio.mp ((h y).mpr (.head _))with e|hy
    ·exact e.symm
    ·have:=a1 y hy;have:=b1 x hx;omega
  subst e;rw[up_eq a2 b2 λz=>?_]
  constructor
  ·intro hz
   rcases aio.mp ((h z).mp (.tail _ hz))with e|q
   ·subst e;exact absurd (a1 z hz) (ai4 _)
   ·exact q
  ·intro hz
   rcases aio.mp ((h z).mpr (.tail _ hz))with e|q
   ·subst e;exact absurd (b1 z hz) (ai4 _)
   ·exact q
theorem Y3{ns:List Nat}{x y:Nat}:y∈fV ns x↔y∈ns\/y=x:=by
 unfold fV;split
 ·rename_i h;exact⟨.inl,λq=>q.elim id λe=>e▸h⟩
 ·simp
theorem X8{ns:List Nat}{x:Nat}(h:ns.Nodup):(fV ns x).Nodup:=by
 unfold fV;split
 ·exact h
 ·rename_i hx;refine ajJ.mpr ⟨h,by simp,λa ha b hb=>?_⟩
  rw[aiV]at hb;subst hb;exact λe=>hx (e▸ha)
theorem Br:∀{xs ns:List Nat}{y:Nat},y∈xs.foldl fV ns↔y∈ns\/y∈xs
 |[],ns,y=>by simp
 |x::xs,ns,y=>by
  rw[ajn,Br,Y3,aio,or_assoc]
theorem Bh:∀{xs ns:List Nat},ns.Nodup->(xs.foldl fV ns).Nodup
 |[],_,h=>h
 |x::xs,_,h=>Bh (xs:=xs) (X8 h)
theorem QC{xs:List Nat}{zs:List Int}(h1:zs.Perm ((cY xs).map λn:Nat=>(n:Int))) (h2:zs.Pairwise (·<=·)):zs=(cj xs).map λn:Nat=>(n:Int):=by
 have hz:∀z∈zs,∃n:Nat,z=n:=λz hz=>by
  obtain⟨n,_,e⟩:=aik.mp (h1.mem_iff.mp hz);exact⟨n,e.symm⟩
 have e:zs=(zs.map Int.toNat).map λn:Nat=>(n:Int):=by
  rw[aiG]
  conv=>lhs;rw[<-ako zs]
  refine ajl λz hq=>?_
  obtain⟨n,rfl⟩:=hz z hq;simp
 have hp:(zs.map Int.toNat).Perm (cY xs):=by
  have:=h1.map Int.toNat;rw[aiG]at this;refine this.trans (amr ?_)
  conv=>rhs;rw[<-ako (cY xs)]
  exact ajl λn _=>by simp
 have hnd:(zs.map Int.toNat).Nodup:=hp.nodup_iff.mpr (Bh .nil);have hup:Up (zs.map Int.toNat):=by
  have hle:(zs.map Int.toNat).Pairwise (·<=·):=by
   rw[ajC];exact h2.imp fun{a b} h=>by omega
  refine(hle.and hnd).imp fun{a b} h=>?_
  have h2:a≠b:=h.2;omega
 rw[e,up_eq hup (pJ xs) λx=>by
  rw[hp.mem_iff,mQ];unfold cY;rw[Br];simp]
theorem xO:∀{l:List Nat},Up l->l.Nodup:=fun{l} h=>h.imp fun{a b} h=>aiq h
theorem wg(xs:List Nat):(cj xs).length=(cY xs).length:=by
 have hp:(cj xs).Perm (cY xs):=by
  refine(ams (xO (pJ xs)) (Bh .nil)).mpr λx=>?_
  rw[mQ,Br];simp
 exact hp.length_eq
theorem Kn:∀{l:List (Int×Ξ)},(∀e∈l,∃(n:Nat) (tk:Tok),e=((n:Int),.int n tk)/\n<128)->aa8 (l.map (·.2)) (l.map (·.1))
 |[],_=>.nil
 |e::l,h=>by
  obtain⟨n,tk,rfl,_⟩:=h e (.head _);exact .cons _ _ (Kn λe he=>h e (.tail _ he))
section
variable {prog:τ}{w:ψ}{A:ω}{E:Ξ->ε->Prop}{s:ε}
theorem abd{r:Ω}{Q:Bool->ε->Prop}(hT:s.TypeIs (.ref r) "set") (h:Q Ψ s):wpAny (model prog w) A (Builtin.List.listLengthHint (.ref r)) Q E s:=by
 unfold Builtin.List.listLengthHint;refine aih (wpAny_specialOf hT PySem.F.slot_set_len.lookup ?_)
 generalize hid:("set.__len__":String)=id0
 wp_delta
 rw[show splitId id0=ζ ("set","__len__")from by subst hid;decide +kernel]
 subst hid;refine aih (wpAny_isInstance (T:="set") (b:=Θ) hT sub_set_self ?_);refine wpAny_ite_split (λq=>absurd q (by decide)) λ_=>wpAny_ite_split (λ_=>?_) λq=>absurd (by decide +kernel) q
 exact aih (wpAny_typeOf hT (aii h))
theorem gY.lt{h:χ}{a:Ω}{es:Array (Int×Ξ)}{ep:Nat}{t:aam}(x:gY w h a es ep t):a<h.objs.size:=let⟨_,ho,_⟩:=x;aim ho
theorem Qu{a:Ω}{es:Array (Int×Ξ)}{ep:Nat}{t:aam}:KdlSrc prog w "set" a a es.size (λi v=>(iM w a ep es)[i]?.map (·.2)=ζ v) (λh=>gY w h a es ep t) where
 type:=λ_ h=>h.typeIs
 there:=λ_ h=>⟨h.lt,h.lt⟩
 keep:=λ_ _ h k=>h.at λo e=>k a (.inl rfl) o e
 notList:=by decide
 notTuple:=by decide
 hint:=λ_ _ _ _ h q=>abd h.typeIs q
 iter:=λ_ s hh h=>⟨_,_,(λ_ _ q=>RI h q),RC hh _ a (aiq h.lt) es ep t,⟨⟨_,aiI _ rfl,rfl,rfl⟩,h.at λo e=>air _ e⟩⟩
theorem QB{a:Ω}{xs:List Nat}{Q:Ξ->ε->Prop}(hh:A.handled=θ) (hS:gM w s.heap a (cY xs)) (hn:(cY xs).length<64)
  (h:∀(h1 h':χ) (tk c:Nat) (out:Array Ξ),(∀b o,s.heap.get? b=ζ o->h1.get? b=ζ o)->(∀b o,h1.get? b=ζ o->h'.get? b=ζ o)->h'.get? h1.objs.size=ζ (seqObj "list" out c) ->
   aa8 out.toList ((cj xs).map λn:Nat=>(n:Int))->Q (.ref h1.objs.size) {s with heap:=h',toks:=tk}) :
  wpAny (model prog w) A (call (.builtin "sorted") [.ref a]) Q E s:=by
 obtain⟨o,es,ep,t,ho,hex,hd,hI,hl,hs⟩:=hS;have hlen:es.size<64:=by
  have h1:=hs.len;rw[aiB]at h1;omega
 have hok:gY w s.heap a es ep t:=⟨o,ho,hex,hd,hI,hl⟩;refine Calls.call_function_entry kind_sorted plain_sorted entry_sorted (args_sorted1 _) ?_;unfold Builtin.«sorted»;refine aih (m:=checkCount "sorted" 1 1 _) (aii ?_);refine aih (kdu_collect (A:=A.in1) (Qu (prog:=prog)) hh hok (by rw[aj7];omega) λh1 tk acc hk hacc=>?_)
 have acO:acc.toList=(iM w a ep es).toList.map (·.2):=by
  have hlo:=(xu w a ep es).length_eq;rw[aiB,aiB]at hlo;apply List.ext_getElem?;intro i
  rcases akN i acc.size with q|q
  ·have h3:=hacc.2 i acc[i] (akm q);rw[aiL,aiS,aiS,h3,akm q]
  ·have h4:=hacc.1;rw[ake (by simpa using q),ake (by simp;omega)]
 have hp:=xu w a ep es;have hI2:aa8 acc.toList ((iM w a ep es).toList.map (·.1)):=by
  rw[acO];exact Kn λe he=>hs.2 e (hp.mem_iff.mp he)
 have hal:acc.toList.length<64:=by rw[aiB,hacc.1];exact hlen
 refine aih (wpAny_newList ?_ (by rw[aj7];omega))
 have uO:(h1.push (seqObj "list" acc.toList.toArray 0)).get? h1.objs.size=ζ (seqObj "list" acc.toList.toArray 0):=aiI _ rfl;refine aih (aje (akn slot_list_sort ⟨_,uO,rfl⟩ entry_list_sort (list_sort_tree (s:={s with heap:=h1.push (seqObj "list" acc.toList.toArray 0),toks:=tk}) uO hI2 hal λout zs a1 a2 a3=>⟨_,rfl,?_⟩) (args_list_sort _)))
 refine aii ⟨_,rfl,?_⟩;have hz:=QC (a2.trans ((hp.map _).trans hs.1)) a3;rw[hz]at a1;have hne:∀b o,h1.get? b=ζ o->b≠h1.objs.size:=λb o e=>aiq (aim e)
 have g1:=get?_update_seq uO (λ_=>#[])
 have g2:=get?_update_seq (air (seqObj "list" #[] 0) (air (seqObj "tuple" acc.toList.toArray 0) g1)) λ_=>out
 refine h h1 _ tk _ out hk (λb o e=>?_) g2 a1
 have q:=aja (hne b o e);exact(ajR _ _ q).trans (air _ (air _ ((ajR _ _ q).trans (air _ e))))
end
abbrev nV(ns:List Nat):List V:=ns.map λn:Nat=>V.int n
abbrev nD(ns:List Nat):List D:=ns.map λn:Nat=>D.int n
def mD(w:ψ) (a:Ω) (ns:List Nat):χ->Prop:=λh=>gM w h a (cY ns)
theorem An:∀{ns:List Nat}{us:List Ξ},Vals (nV ns) us->aa8 us (ns.map λn:Nat=>(n:Int))
 |[],_,.nil=>.nil
 |n::ns,_,.cons ⟨t,e⟩ r=>by subst e;exact .cons _ _ (An r)
theorem Nr:∀{ns:List Nat}{us:List Ξ},aa8 us (ns.map λn:Nat=>(n:Int))->Vals (nV ns) us
 |[],_,.nil=>.nil
 |n::ns,_,.cons _ t r=>.cons ⟨t,rfl⟩ (Nr r)
section
variable {X:Cx}
def Sm(X:Cx):List V->Hp->VK->Prop:=λxs H Q=>∃a ns,xs=[.ref a]/\bJ X.K H a (nV ns)/\(cj ns).length<64/\(∀x∈ns,x<128)/\∀p,H p=θ->Q (.ref p) (upd H p (.ext (mD X.w p ns)))
theorem L3(hc:X.calm=Θ:=by rfl):dI X (.type "set") (Sm X):=by
 intro pins s σ H xs us Q I rv h;obtain⟨a,ns,rfl,sq,hb,hx,q⟩:=h;obtain⟨u,rfl,ru⟩:=vals1 rv;cases ru;obtain⟨its,ri,pl,hz⟩:=I.list sq;refine RG (xs:=ns) (I.ok.hd hc) pl.isList (by simpa using An ri) hx (by rw[<-wg];exact hb) λh' tk hS kp=>?_
 have hf:H s.heap.objs.size=θ:=I.hok.fresh (aij _);have kM:=hS;obtain⟨o,es,ep,t,ho,_⟩:=kM;refine⟨.ref s.heap.objs.size,upd H s.heap.objs.size (.ext (mD X.w s.heap.objs.size ns)),I.laid (t':=tk) (λb u e=>kp b u (aim e) e) (aij _) ?_,rfl,q _ hf⟩
 exact⟨hS,⟨o,ho⟩,λh1 h2 x k=>x.at k⟩
def Si(X:Cx):List V->Hp->VK->Prop:=λxs H Q=>∃a ns,xs=[.ref a]/\H a=ζ (.ext (mD X.w a ns))/\(cj ns).length<64/\∀p,H p=θ->Q (.ref p) (upd H p (.lst (nV (cj ns))))
theorem aeo(hc:X.calm=Θ:=by rfl):dI X (.builtin "sorted") (Si X):=by
 intro pins s σ H xs us Q I rv h;obtain⟨a,ns,rfl,hH,hn,q⟩:=h;obtain⟨u,rfl,ru⟩:=vals1 rv;cases ru;obtain⟨hS,_,_⟩:=I.hok a _ hH;refine QB (I.ok.hd hc) hS (by rw[<-wg];exact hn) λh1 h' tk c out k1 k2 hp hI=>?_
 have I1:Inv X pins σ H {s with heap:=h1,toks:=tk}:=I.kept k1
 have hf:H h1.objs.size=θ:=I1.hok.fresh (aij _);refine⟨.ref h1.objs.size,upd H h1.objs.size (.lst (nV (cj ns))),I1.laid (t':=tk) k2 (aij _) ⟨?_,out.toList,c,Nr hI,by simpa using hp⟩,rfl,q _ hf⟩
 simp only[aiu];rw[aj7];omega
def jk(l:List D):Option (List Nat):=match mX l with
 |some ns=>if ns.all (λn=>decide (0<=n/\n<128))=Θ/\(cj (ns.map Int.toNat)).length<64 then ζ (ns.map Int.toNat)else θ
 |none=>θ
theorem Bk{l:List D}{ns:List Nat}(h:jk l=ζ ns):l=nD ns/\(cj ns).length<64/\∀x∈ns,x<128:=by
 unfold jk at h;split at h
 ·rename_i zs hz;split at h
  ·rename_i hc;cases h;refine⟨?_,hc.2,λx hx=>?_⟩
   ·rw[Kp hz];unfold nD;rw[aiG];refine ajl λz hq=>?_
    have:=of_decide_eq_true (aip.mp hc.1 z hq);show D.int z=D.int (z.toNat:Int)
    congr 1;omega
   ·obtain⟨z,hq,rfl⟩:=aik.mp hx;have:=of_decide_eq_true (aip.mp hc.1 z hq);omega
  ·cases h
 ·cases h
theorem JH{ns:List Nat}(h:(cj ns).length<64) (hx:∀x∈ns,x<128):jk (nD ns)=ζ ns:=by
 unfold jk;have e:nD ns=(ns.map λn:Nat=>(n:Int)).map D.int:=by simp[nD]
 rw[e,C4];dsimp only;have e:(ns.map λn:Nat=>(n:Int)).map Int.toNat=ns:=by
  rw[aiG];have:(Int.toNat ∘ λn:Nat=>(n:Int))=id:=by funext n;simp
  rw[this,ako]
 rw[e,if_pos ⟨aip.mpr λz hz=>by
  obtain⟨n,hn,rfl⟩:=aik.mp hz;have:=hx n hn;exact decide_eq_true (by omega),h⟩]
theorem AV{K:Δ}{ρ:List Ω}{H:Hp}{ns:List Nat}{xs:List V}(h:aN K ρ H (nD ns) xs):xs=nV ns:=by
 have e:nD ns=(ns.map λn:Nat=>(n:Int)).map D.int:=by simp[nD]
 rw[e]at h;rw[aN.Ko h];simp[nV]
theorem Se{K:Δ}{ρ:List Ω}{H:Hp}(ns:List Nat):aN K ρ H (nD ns) (nV ns):=by
 have e:nD ns=(ns.map λn:Nat=>(n:Int)).map D.int:=by simp[nD]
 have e':nV ns=(ns.map λn:Nat=>(n:Int)).map V.int:=by simp[nV]
 rw[e,e'];exact aN.ints
theorem A9(ns:List Nat):bA (nD ns)=Θ:=by
 have e:nD ns=(ns.map λn:Nat=>(n:Int)).map D.int:=by simp[nD]
 rw[e];exact xJ
def oK(a:aj):af:=λe c=>(a e c).bind λxs c=>match xs with
 |[x]=>match eS c x with
  |some l=>match jk l with
   |some ns=>.ok (.lst (nD (cj ns))) c
   |none=>.bad
  |none=>.bad
 |_=>.bad
theorem UM{e:π}{da:aj}{p1 p2 q1 q2:Pos}{f:List D->aa->R D}(ha:eH X [e] da) (hm:X.mg "sorted"=θ) (hm2:X.mg "set"=θ) (hg:Gl X "sorted") (ju:Gl X "set") (hc:X.calm=Θ)
  (he:μ [e] X.env=(Ψ,eval e X.env)::μ [] X.env)
  (hf:∀xs c ρ H (Q:VK) vs,Wd X.K ρ H c->aN X.K ρ H xs vs->post X.K (Rel X.K) (f xs c) ρ H Q->∃a ns,vs=[.ref a]/\bJ X.K H a (nV ns)/\(cj ns).length<64/\(∀x∈ns,x<128) /\
   ∀p,H p=θ->∀q,upd H p (.ext (mD X.w p ns)) q=θ->Q (.ref q) (upd (upd H p (.ext (mD X.w p ns))) q (.lst (nV (cj ns))))) :
  aV X (.Call (.Name "sorted" p1) [.Call (.Name "set" p2) [e] [] q2] [] q1) (aE f da):=by
 have uM:PE X (.Call (.Name "set" p2) [e] [] q2) _:=mO (L3 hc) ju hm2 (by decide +kernel) ha (by decide) (by decide) he (by exact eB rfl)
 refine(wN (aeo hc) hg hm (by decide +kernel) (jg uM jf (bT rfl)) (by decide) (by decide) (by exact bT rfl) (by exact eB rfl)).imp λσ H Q h=>?_
 obtain⟨ρ,e,c,W,V,p⟩:=h;refine⟨ρ,e,c,W,V,post.bind p λxs c1 aJ H1 vs ex W1 X1 r1 p1=>?_⟩
 obtain⟨a,ns,rfl,sq,h64,hx,q⟩:=hf xs c1 aJ H1 Q vs W1 r1 p1;exact⟨a,ns,rfl,sq,h64,hx,λp hp=>⟨p,ns,rfl,gi,h64,λq' hq=>q p hp q' hq⟩⟩
def Hr:List D->aa->R D:=λxs c=>match xs with
 |[x]=>match eS c x with
  |some l=>match jk l with
   |some ns=>.ok (.lst (nD (cj ns))) c
   |none=>.bad
  |none=>.bad
 |_=>.bad
theorem U4{e:π}{da:aj}{p1 p2 q1 q2:Pos}(ha:eH X [e] da) (hm:X.mg "sorted"=θ) (hm2:X.mg "set"=θ) (hg:Gl X "sorted":=by rfl) (ju:Gl X "set":=by rfl) (hc:X.calm=Θ:=by rfl)
  (he:μ [e] X.env=(Ψ,eval e X.env)::μ [] X.env:=by exact bT rfl):aV X (.Call (.Name "sorted" p1) [.Call (.Name "set" p2) [e] [] q2] [] q1) (oK da) :=
 UM (f:=Hr) ha hm hm2 hg ju hc he λxs c ρ H Q vs W r p=>by
  unfold Hr at p;split at p
  ·rename_i x;obtain⟨v,rr,rfl,hx,hr⟩:=r;cases hr;split at p
   ·rename_i l hl;split at p
    ·rename_i ns hn;obtain⟨rfl,h64,hx'⟩:=Bk hn;obtain⟨a,ys,rfl,ha',rl⟩:=qX W hx hl;cases AV rl;refine⟨a,ns,rfl,bJ.of ha',h64,hx',λq hq q' hq'=>?_⟩
     exact nW (W.fresh hq) (Se _) (post.ext p (Ext.fresh W hq)) q' hq'
    ·exact p.elim
   ·exact p.elim
  ·exact p.elim
end
section
variable (a:aj) (e:Ev) (c:aa)
@[simp] theorem agK:oK a e c=(a e c).bind λxs c=>match xs with
 |[x]=>match eS c x with
  |some l=>match jk l with
   |some ns=>.ok (.lst (nD (cj ns))) c
   |none=>.bad
  |none=>.bad
 |_=>.bad:=rfl
end
section
variable {prog:τ}{w:ψ}{A:ω}{E:Ξ->ε->Prop}{s:ε}
theorem Bg:∀{l m:List Nat},l.Nodup->(∀x∈l,x∈m)->l.length<=m.length
 |[],m,_,_=>ajk _
 |x::l,m,h,hs=>by
  obtain⟨h1,h2⟩:=ajI.mp h;have hx:=hs x (.head _);have:=Bg (m:=m.erase x) h2 λy hy=>(alh (λe:y=x=>h1 (by rw[<-e];exact hy))).mpr (hs y (.tail _ hy))
  rw[ali hx]at this;have:=amb hx;rw[aiv];omega
end
theorem sub_tuple_set:isSubtype (.type "tuple") (.type "set")=pure Ψ:=by rw[akW];kernel_rfl
theorem sub_tuple_frozenset:isSubtype (.type "tuple") (.type "frozenset")=pure Ψ:=by rw[akW];kernel_rfl
section
variable {prog:τ}{w:ψ}{A:ω}{s:ε}{E:Ξ->ε->Prop}
set_option maxHeartbeats 3200000 in
theorem RD{l:Ω}{items:Array Ξ}{xs:List Nat}{Q:Ξ->ε->Prop}(hh:A.handled=θ) (hl:s.heap.IsTuple l items) (hi:aa8 items.toList (xs.map λn:Nat=>(n:Int))) (hx:∀x∈xs,x<128) (h64:(cY xs).length<64)
  (h:∀(h':χ) (tk:Nat),gM w h' s.heap.objs.size (cY xs)->(∀b o,b<s.heap.objs.size->s.heap.get? b=ζ o->h'.get? b=ζ o)->Q (.ref s.heap.objs.size) {s with heap:=h',toks:=tk}) :
  wpAny (model prog w) A (call (.type "set") [.ref l]) Q E s:=by
 obtain⟨c,tl,KG⟩:=aiF.mro;have hmade:=aiF.made;have hsub:=aiF.sub;refine aj8 (akU (show wpAny _ _ (callAny (.type "set") _) _ _ _ from ?_))
 refine aii ⟨akH _ (by decide +kernel),ajr alr ?_⟩
 rw[als (alu "set" [.ref l] []) rfl];have h1:=aiF.notType;have h2:=aiF.canCreate;have hct:=alv (.ref l)
 repeat any_goals (first|assumption|wp_step)
 refine aji (AF (.ref l) (E:=E) (Q₁:=λobj s₁=>obj=.ref s.heap.objs.size/\s₁={s with heap:=s.heap.push (cK w)}) ⟨rfl,rfl⟩) λr s₁ hr=>?_
 cases r with
 |error e=>exact hr
 |ok fl =>
  cases fl with
  |ret obj =>
   obtain⟨rfl,rfl⟩:=hr;have hS:(s.heap.push (cK w)).get? s.heap.objs.size=ζ (cK w):=aiI _ rfl;have hT:abG {s with heap:=s.heap.push (cK w)} (.ref s.heap.objs.size) "set":=⟨_,hS,rfl⟩
   have hli:=aiF.init.lookup;have hbi:=aiF.init.bind (.ref s.heap.objs.size)
   repeat any_goals (first|assumption|wp_step)
   refine aji (akh (R:=wants (λr s₂=>r=.none/\∃h' tk,s₂={s with heap:=h',toks:=tk}/\gM w h' s.heap.objs.size (cY xs) /\
     (∀b o,b<s.heap.objs.size->s.heap.get? b=ζ o->h'.get? b=ζ o)) E) aiF.init.plain alw (alx hT ?_)) λr₂ s₂ jt=>?_
   ·obtain⟨ol,kK,hcl,nl,hdl⟩:=hl;obtain⟨IQ,uq,IK,um⟩:=ol;simp only at hcl hdl;subst hcl;subst hdl;have m8:(s.heap.push (cK w)).get? l=ζ {cls:=.type "tuple",dict:=uq,data:=.seq items nl,slots:=um}:=air _ kK;have Ky:=sub_tuple_set;have Kz:=sub_tuple_frozenset;have hne:(Value.type "tuple"==Value.type "dict")=Ψ:=by decide
    have hl1:(s.heap.push (cK w)).IsTuple l items:=⟨_,m8,rfl,nl,rfl⟩;unfold cK at hS hT m8 ⊢;unfold Builtin.«set.__init__» noKeywords Builtin.Frozenset.updateFrom
    generalize uS:pyIter=PI
    wp_walk
    subst uS;refine wpAny_pyIter_tuple hl1 (aih (aly ?_));have hlS:l<s.heap.objs.size:=aim kK;have hlen:items.size=xs.length:=by have:=hi.length;simpa using this
    have uP:l≠(s.heap.push (cK w)).objs.size:=by rw[ai0];exact aiq (ajj hlS)
    have hSf:s.heap.objs.size∉[(s.heap.push (cK w)).objs.size,l]:=by
     rw[ai0];simp only[aio,aiE,or_false,not_or];exact⟨aiq (ajf _),ajc hlS⟩
    have W:=(Walks.tuple (prog:=prog) (w:=w) (A:=A.in1.in1.in1) (by simp[hh]) (s.heap.push (cK w)).objs.size l uP items).toS
    rw[hlen]at W;refine Hu (xs:=xs) W s.heap.objs.size hSf (λi v hi' hv=>?_) hx h64 xs.length 0 _ (by omega) (ajk _) ⟨⟨_,aiI _ rfl,rfl,rfl⟩,hl1.at λo e=>air _ e⟩ (LI w (air _ hS)) λs' hm hS'=>?_
    ·obtain⟨t,e⟩:=IntsAre.int_at hi i v (by rw[aiS];exact hv)
     exact⟨t,by rw[e];simp[aiA,ait hi']⟩
    ·obtain⟨h',g',d',tk',os'⟩:=s';cases(show g'=s.gens from hm.gens)
     cases(show d'=s.drawn from hm.drawn)
     cases(show os'=s.os from hm.os)
     refine aii (aii ⟨rfl,h',tk',rfl,hS',λb o hb e=>?_⟩)
     exact hm.heap b o (by rw[ai0];simp only[aio,aiE,or_false,not_or];exact⟨aiq hb,aiq (ajj hb)⟩) (air _ (air _ e))
   ·cases r₂ with
    |error e=>exact jt
    |ok uZ =>
     cases uZ with
     |ret r =>
      obtain⟨rfl,h',tk,rfl,hS',hk'⟩:=jt
      repeat any_goals (first|assumption|wp_step)
      exact h _ _ hS' hk'
     |_=>exact jt.elim
  |_=>exact hr.elim
end
section
variable {X:Cx}
def So(X:Cx):List V->Hp->VK->Prop:=λxs H Q=>∃a ns,xs=[.ref a]/\(bJ X.K H a (nV ns)\/dg X.K H a (nV ns))/\(cj ns).length<64/\(∀x∈ns,x<128)/\∀p,H p=θ->Q (.ref p) (upd H p (.ext (mD X.w p ns)))
theorem aeq(hc:X.calm=Θ:=by rfl):dI X (.type "set") (So X):=by
 intro pins s σ H xs us Q I rv h;obtain⟨a,ns,rfl,sq,hb,hx,q⟩:=h
 rcases sq with sq|sq
 ·exact L3 hc pins s σ H _ us Q I rv ⟨a,ns,rfl,sq,hb,hx,q⟩
 ·obtain⟨u,rfl,ru⟩:=vals1 rv;cases ru;obtain⟨its,ri,pl,hz⟩:=I.tuple sq;refine RD (xs:=ns) (I.ok.hd hc) (show s.heap.IsTuple a its.toArray from pl) (by simpa using An ri) hx (by rw[<-wg];exact hb) λh' tk hS kp=>?_
  have hf:H s.heap.objs.size=θ:=I.hok.fresh (aij _);have kM:=hS;obtain⟨o,es,ep,t,ho,_⟩:=kM;refine⟨.ref s.heap.objs.size,upd H s.heap.objs.size (.ext (mD X.w s.heap.objs.size ns)),I.laid (t':=tk) (λb u e=>kp b u (aim e) e) (aij _) ?_,rfl,q _ hf⟩
  exact⟨hS,⟨o,ho⟩,λh1 h2 x k=>x.at k⟩
def uy(c:aa):D->Option (List Nat)
 |.tup l=>jk l
 |x=>match eS c x with
  |some l=>jk l
  |none=>θ
theorem Yd{K:Δ}{ρ:List Ω}{H:Hp}{c:aa}{x:D}{v:V}{ns:List Nat}(W:Wd K ρ H c) (r:Rel K ρ H x v) (h:uy c x=ζ ns):∃a,v=.ref a/\(bJ K H a (nV ns)\/dg K H a (nV ns))/\(cj ns).length<64/\∀x∈ns,x<128:=by
 unfold uy at h;split at h
 ·obtain⟨rfl,h64,hx⟩:=Bk h;obtain⟨a,xs,rfl,ha,rl⟩:=r;cases AV rl;exact⟨a,rfl,.inr (dg.of ha),h64,hx⟩
 ·split at h
  ·rename_i l hl;obtain⟨rfl,h64,hx⟩:=Bk h;obtain⟨a,ys,rfl,ha,rl⟩:=qX W r hl;cases AV rl;exact⟨a,rfl,.inl (bJ.of ha),h64,hx⟩
  ·cases h
end
section
variable {X:Cx}
theorem XX{l:List D}(h:bA l=Θ) (n:Nat):bA (l.take n)=Θ:=iQ.mpr λd hd=>iQ.mp h d (aiQ hd)
theorem XY{l:List D}(h:bA l=Θ) (n:Nat):bA (l.drop n)=Θ:=iQ.mpr λd hd=>iQ.mp h d (akL hd)
end
mutual
def dj(c:aa) (n:Nat):D->Option D
 |.ref k=>match c[k]? with
  |some (.lst l)=>if n<=k then ζ (.lst l)else θ
  |none=>θ
 |.lst l=>match gj c n l with
  |some m=>ζ (.lst m)
  |none=>θ
 |.tup l=>match gj c n l with
  |some m=>ζ (.tup m)
  |none=>θ
 |.aM=>ζ .aM
 |.bl b=>ζ (.bl b)
 |.int i=>ζ (.int i)
 |.str x=>ζ (.str x)
 |.ty x=>ζ (.ty x)
 |.cE x=>ζ (.cE x)
 |.fn x m=>ζ (.fn x m)
 |.exc x=>ζ (.exc x)
 |.jx=>ζ .jx
 |.dct ks=>ζ (.dct ks)
 |.lam _ _ _ _=>θ
def gj(c:aa) (n:Nat):List D->Option (List D)
 |[]=>ζ []
 |d::l=>match dj c n d,gj c n l with
  |some a,ζ m=>ζ (a::m)
  |_,_=>θ
end
section
variable {K:Δ}{aJ:List Ω}{H1:Hp}{c1:aa}{n:Nat}
mutual
theorem GW(W1:Wd K aJ H1 c1):∀(d:D) (v:V) (d':D),Rel K aJ H1 d v->dj c1 n d=ζ d'->Rel K (aJ.take n) H1 d' v
 |.ref k,v,d',r,h=>by
  unfold dj at h;split at h
  ·rename_i l hl;split at h
   ·rename_i hk;cases h;obtain⟨a,rfl,ha⟩:=r;obtain⟨nr,xs,hx,rl⟩:=W1.fR k a _ ha hl;refine⟨a,xs,rfl,⟨hx,λq=>?_⟩,aN.low (λb h=>aiQ h) l xs nr rl⟩
    obtain⟨j,hj,e⟩:=akD.mp q;rw[akG]at e;have hk1:=aix.mp ha;have hjl:j<aJ.length:=by simp at hj;omega
    have:=(akr W1.nd (h₀:=hjl) (h₁:=hk1.1)).mp (e.trans hk1.2.symm);simp at hj;omega
   ·cases h
  ·cases h
 |.lst l,v,d',r,h=>by
  unfold dj at h;split at h
  ·rename_i m hm;cases h;obtain⟨a,xs,rfl,s,rl⟩:=r;exact⟨a,xs,rfl,⟨s.1,λq=>s.2 (aiQ q)⟩,Ao W1 l xs m rl hm⟩
  ·cases h
 |.tup l,v,d',r,h=>by
  unfold dj at h;split at h
  ·rename_i m hm;cases h;obtain⟨a,xs,rfl,s,rl⟩:=r;exact⟨a,xs,rfl,s,Ao W1 l xs m rl hm⟩
  ·cases h
 |.aM,v,d',r,h=>by unfold dj at h;cases h;exact Rel.low (λb h=>aiQ h) _ _ rfl r
 |.bl b,v,d',r,h=>by unfold dj at h;cases h;exact Rel.low (λb h=>aiQ h) _ _ rfl r
 |.int i,v,d',r,h=>by unfold dj at h;cases h;exact Rel.low (λb h=>aiQ h) _ _ rfl r
 |.str x,v,d',r,h=>by unfold dj at h;cases h;exact Rel.low (λb h=>aiQ h) _ _ rfl r
 |.ty x,v,d',r,h=>by unfold dj at h;cases h;exact Rel.low (λb h=>aiQ h) _ _ rfl r
 |.cE x,v,d',r,h=>by unfold dj at h;cases h;exact Rel.low (λb h=>aiQ h) _ _ rfl r
 |.fn x m,v,d',r,h=>by unfold dj at h;cases h;exact Rel.low (λb h=>aiQ h) _ _ rfl r
 |.exc x,v,d',r,h=>by unfold dj at h;cases h;exact Rel.low (λb h=>aiQ h) _ _ rfl r
 |.jx,v,d',r,h=>by unfold dj at h;cases h;exact Rel.low (λb h=>aiQ h) _ _ rfl r
 |.dct ks,v,d',r,h=>by unfold dj at h;cases h;exact Rel.low (λb h=>aiQ h) _ _ rfl r
 |.lam _ _ _ _,v,d',r,h=>by unfold dj at h;cases h
theorem Ao(W1:Wd K aJ H1 c1):∀(l:List D) (xs:List V) (m:List D),aN K aJ H1 l xs->gj c1 n l=ζ m->aN K (aJ.take n) H1 m xs
 |[],xs,m,r,h=>by unfold gj at h;cases h;exact r
 |d::l,xs,m,r,h=>by
  unfold gj at h;split at h
  ·rename_i a m' ha hm;cases h;obtain⟨y,ys,rfl,r1,r2⟩:=r;exact⟨y,ys,rfl,GW W1 d y a r1 ha,Ao W1 l ys m' r2 hm⟩
  ·cases h
end
end
def ng(n:Nat) (v:D) (c:aa):R D:=match dj c n v with
 |some d=>.ok d (c.take n)
 |none=>.bad
def kO(n:Nat) (d:ah):List D->aa->R D:=λxs c=>(d (cD n xs) c).bind λf c'=>match f with
 |.rt v=>ng c.length v c'
 |.nx _=>ng c.length .aM c'
 |_=>.bad
theorem Ly{K:Δ}{ρ aJ:List Ω}{H H1:Hp}{c c1:aa}{v:D}{x:V}{Q:VK}(W:Wd K ρ H c) (W1:Wd K aJ H1 c1) (X1:Ext ρ H aJ H1) (r:Rel K aJ H1 v x) (p:post K (Rel K) (ng c.length v c1) ρ H Q):Q x H1:=by
 have hn:=Ext.len W W1 X1;have Wc:=W1.cut hn;have Xc:=X1.cut (n:=c.length) (ajp W.len);unfold ng at p;split at p
 ·rename_i d hd;exact p _ H1 x Wc Xc (GW W1 v x d r hd)
 ·exact p.elim
section
variable {P:τ}{w:ψ}{K:Δ}{mg:Str->Option Ξ}{base:χ}
theorem ack{x qual:Str}{st:aaM}{f:Ω}{fd:ο}{N ps:List Str}{k n m:Nat}{d:ah}(F:j5 K x qual st f fd) (S:b6 N ps (aR st)) (hN:N.length=n) (hm:ps.length=m)
  (hb:∀(cdv:Ξ) (A:ω) (outer:List Env) (s:ε) (H:Hp) (E:XK),dG k (A.deeper (envOfC qual (aR st) s.heap.objs.size f cdv))->bY (fu bS P w K mg base N qual (aR st) f cdv A outer s H E).fH (bZ st) d) :
  bK P w K mg base bS (k+1) f fd ps (b7 K m (kO n d)):=by
 subst hN;subst hm;refine F.ok S (λvs H Q E h=>?_) (λcdv A outer s H vs Q E hr h=>⟨_,hb cdv A outer s H E hr,?_⟩)
 ·obtain⟨ρ,xs,c,W,r,hl,p⟩:=h;exact r.length.trans hl
 ·obtain⟨ρ,xs,c,W,r,hl,p⟩:=h;refine⟨ρ,cD N.length xs,c,W,cU.start r,post.bind p λfl c1 aJ H1 b _ W1 X1 r1 p1=>?_⟩
  cases fl with
  |nx e1 =>
   obtain⟨σ1,rfl,V1⟩:=r1;exact Ly (v:=.aM) (x:=.aM) (H1:=H1) W W1 X1 rfl (by unfold kO at p;rename_i he;rw[he]at p;exact p)
  |rt d =>
   obtain⟨v,rfl,V1⟩:=r1;exact Ly (v:=d) (x:=v) (H1:=H1) W W1 X1 V1 (by unfold kO at p;rename_i he;rw[he]at p;exact p)
  |bk e1=>exact p1.elim
  |ct e1=>exact p1.elim
end
@[simp] theorem ag0(n:Nat) (d:ah) (xs:List D) (c:aa):kO n d xs c=(d (cD n xs) c).bind λf c'=>match f with
 |.rt v=>ng c.length v c'
 |.nx _=>ng c.length .aM c'
 |_=>.bad:=rfl
end L2
namespace L2
open PySem PySem.Spec PyProof.Rows
section
variable {X:Cx}{e sx:π}{te:TE}{lo hi:Option π}{tl th ts:TO}{pos p2:Pos}
def gp(i j:Int):List Int:=(η (j-i).toNat).map λk:Nat=>i+(k:Int)
theorem OU{f:Nat->Int}{acc:Array Ξ}{n:Nat}(h:ItemsOf (λk v=>∃t,v=.int (f k) t) acc n):Vals (((η n).map f).map V.int) acc.toList:=by
 have hl:acc.toList.length=n:=by rw[aiB];exact h.1
 have key:∀(us:List Ξ) (o:Nat),(∀(k:Nat) (u:Ξ),us[k]? = ζ u->∃t,u=.int (f (o+k)) t)->Vals (((List.range' o us.length).map f).map V.int) us:=by
  intro us
  induction us with
  |nil=>intro o _;exact .nil
  |cons u us ih =>
   intro o hu;rw[aiv,List.range'_succ];obtain⟨t,e⟩:=hu 0 u rfl;refine .cons ⟨t,e⟩ (ih (o+1) λk v hv=>?_)
   have:=hu (k+1) v (by simpa using hv)
   rwa[show o+(k+1)=o+1+k by omega]at this
 have:=key acc.toList 0 λk u hu=>by
  have:=h.2 k u (by rw[<-aiS];exact hu)
  rwa[aiW]
 rwa[hl,<-List.range_eq_range']at this
def Sz(X:Cx):List V->Hp->VK->Prop:=λxs H Q=>∃p i j,xs=[.ref p]/\H p=ζ (.nP i j)/\(0<=i/\i<j/\j<1000)/\∀l,H l=θ->Q (.ref l) (upd H l (.lst ((gp i j).map V.int)))
theorem L7(hc:X.calm=Θ:=by rfl):dI X (.type "list") (Sz X):=by
 intro pins s σ H xs us Q I rv h;obtain⟨p,i,j,rfl,hH,hb,q⟩:=h;obtain⟨u,rfl,ru⟩:=vals1 rv;cases ru;obtain⟨t,u,v,hr⟩:=I.hok p _ hH;have hn:Builtin.Range.rangeSize i j 1=((j-i).toNat:Nat):=by
  unfold Builtin.Range.rangeSize;rw[if_pos (by decide),if_pos hb.2.1,Int.ediv_one]
  omega
 have hsm:Builtin.Range.small i j 1=Θ:=small_one (by omega) (by omega) (by omega) (by omega)
 refine call_list_range (I.ok.hd hc) hr hsm hn (by omega) λh' tk acc c' kp hg hit=>?_
 have Dg:ItemsOf (λk v=>∃t,v=Value.int ((λk:Nat=>i+(k:Int)) k) t) acc (j-i).toNat:=⟨hit.1,λk v hv=>by
  have:=hit.2 k v hv
  simpa using this⟩
 refine⟨.ref s.heap.objs.size,upd H s.heap.objs.size (.lst ((gp i j).map V.int)),I.laid (t':=tk) kp (aij _) ⟨?_,acc.toList,c',OU Dg,by rw[Array.toArray_toList];exact hg⟩,rfl,q _ (I.hok.fresh (aij _))⟩
 simp only[gp,aiu,ai8];rw[aj7];omega
end
open PySem.SeqAt
open AutoSeq1 (wpAny_loadPart')
section
variable {X:Cx}
def Ss:List V->Hp->VK->Prop:=λxs H Q=>∃j,xs=[.int j]/\∀p,H p=θ->Q (.ref p) (upd H p (.nP 0 j))
theorem L6:dI X (.type "range") Ss:=by
 intro pins s σ H xs us Q I rv h;obtain⟨j,rfl,q⟩:=h;obtain⟨u,rfl,ru⟩:=vals1 rv;obtain⟨t,rfl⟩:=ru;refine call_range_1 ⟨.ref s.heap.objs.size,upd H s.heap.objs.size (.nP 0 j),I.laid (t':=s.toks+1+1) (λb o e=>air _ e) (aij _) ?_,rfl,q _ (I.hok.fresh (aij _))⟩
 exact⟨_,_,_,aiI _ rfl⟩
def oM(a:aj):af:=λe c=>(a e c).bind λxs c=>match xs with
 |[.int j]=>if 0<j/\j<1000 then .ok (.lst ((gp 0 j).map D.int)) c else .bad
 |_=>.bad
theorem U7{a:π}{da:aj}{p1 p2 q1 q2:Pos}(ha:eH X [a] da) (hm:X.mg "list"=θ) (hm2:X.mg "range"=θ) (hg:Gl X "list":=by rfl) (ju:Gl X "range":=by rfl) (hc:X.calm=Θ:=by rfl)
  (he:μ [a] X.env=(Ψ,eval a X.env)::μ [] X.env:=by exact bT rfl) (hb:(aaQ q2 (μ [] X.env)).any (·.1)=Ψ:=by exact eB rfl):aV X (.Call (.Name "list" p1) [.Call (.Name "range" p2) [a] [] q2] [] q1) (oM da):=by
 have hr:PE X (.Call (.Name "range" p2) [a] [] q2) _:=mO L6 ju hm2 (by decide +kernel) ha (by decide) (by decide) he hb
 refine(mO (L7 hc) hg hm (by decide +kernel) (jg hr jf (bT rfl)) (by decide) (by decide) (by exact bT rfl) (by exact eB rfl)).imp λσ H Q h=>?_
 obtain⟨ρ,e,c,W,V,p⟩:=h;refine⟨ρ,e,c,W,V,post.bind p λxs c1 aJ H1 vs ex W1 X1 r1 p1=>?_⟩
 clear ex;split at p1
 ·rename_i j;obtain⟨v,r,rfl,hx,hr2⟩:=r1;cases hr2;cases hx;split at p1
  ·rename_i hb;refine⟨j,rfl,λp hp=>⟨p,0,j,rfl,gi,⟨alD _,hb.1,hb.2⟩,λl hl=>?_⟩⟩
   exact nW (W1.fresh hp) aN.ints (post.ext p1 (Ext.fresh W1 hp)) l hl
  ·exact p1.elim
 ·exact p1.elim
def Sy(X:Cx):List V->Hp->VK->Prop:=λxs H Q=>∃a ns,xs=[.ref a]/\H a=ζ (.ext (mD X.w a ns))/\(cj ns).length<64/\Q (.int ((cj ns).length:Nat)) H
theorem aes:dI X (.builtin "len") (Sy X):=by
 intro pins s σ H xs us Q I rv h;obtain⟨a,ns,rfl,hH,hn,q⟩:=h;obtain⟨u,rfl,ru⟩:=vals1 rv;cases ru;obtain⟨hS,_,_⟩:=I.hok a _ hH;obtain⟨o,es,ep,t,ho,hex,hd,hI,hl,hs⟩:=hS;have he:es.size=(cj ns).length:=by rw[<-aiB,wg];exact hs.len
 refine call_len_set ho hex hd hI.fits (by rw[he];omega) ⟨.int ((cj ns).length:Nat),H,I.tok _,⟨_,by rw[he]⟩,q⟩
def rL(a:aj):af:=λe c=>(a e c).bind λxs c=>match xs with
 |[x]=>match uy c x with
  |some ns=>.ok (.int ((cj ns).length:Nat)) c
  |none=>.bad
 |_=>.bad
theorem U9{a:π}{da:aj}{p0 p1 q0 q1:Pos}(ha:eH X [a] da) (hm:X.mg "len"=θ) (hm2:X.mg "set"=θ) (hg:Gl X "len":=by rfl) (ju:Gl X "set":=by rfl) (hc:X.calm=Θ:=by rfl)
  (he:μ [a] X.env=(Ψ,eval a X.env)::μ [] X.env:=by exact bT rfl) :
  aV X (.Call (.Name "len" p0) [.Call (.Name "set" p1) [a] [] q1] [] q0) (rL da):=by
 have h1:PE X (.Call (.Name "set" p1) [a] [] q1) _:=mO (aeq hc) ju hm2 (by decide +kernel) ha (by decide) (by decide) he (by exact eB rfl)
 refine(wN aes hg hm (by decide +kernel) (jg h1 jf (bT rfl)) (by decide) (by decide) (by exact bT rfl) (by exact eB rfl)).imp λσ H Q h=>?_
 obtain⟨ρ,e,c,W,V,p⟩:=h;refine⟨ρ,e,c,W,V,post.bind p λxs c1 aJ H1 vs ex W1 X1 r1 p1=>?_⟩
 clear ex;split at p1
 ·rename_i x;obtain⟨v,r,rfl,hx,hr⟩:=r1;cases hr;split at p1
  ·rename_i ns hn;obtain⟨ad,rfl,sq,h64,hx'⟩:=Yd W1 hx hn;refine⟨ad,ns,rfl,sq,h64,hx',λpa hpa=>⟨pa,ns,rfl,gi,h64,?_⟩⟩
   exact(post.ext p1 (Ext.fresh W1 hpa)).here (W1.fresh hpa) rfl
  ·exact p1.elim
 ·exact p1.elim
end
section
variable (o a:af) (b:aj) (e:Ev) (c:aa)
@[simp] theorem agT:oM b e c=(b e c).bind λxs c=>match xs with
 |[.int j]=>if 0<j/\j<1000 then .ok (.lst ((gp 0 j).map D.int)) c else .bad
 |_=>.bad:=rfl
end
def mh:D->D->aa->R D:=λx y c=>match x,y with
 |.int i,.int j=>.ok (.int (Builtin.bitXor i j)) c
 |_,_=>.bad
def jy(o a:af):af:=λe c=>(o e c).bind λx c=>match x with
 |.ref k=>(a e c).bind λi c=>match i,c[k]? with
  |.int i,ζ (.lst l)=>if 0<=i/\i<l.length/\l.length<1000 then(match l[i.toNat]? with|some d=>.ok d (c.set k (.lst (l.eraseIdx i.toNat)))|none=>.bad)else .bad
  |_,_=>.bad
 |_=>.bad
def u9(a:aj):af:=λe c=>(a e c).bind λxs c=>match xs with
 |[.int j]=>if 0<j/\j<1000 then .ok (.ref c.length) (c++[.lst ((gp 0 j).map D.int)])else .bad
 |_=>.bad
section
variable {X:Cx}
theorem Wg:bB X (binaryOp .BitXor) (r2 X.K mh):=by
 intro pins s σ H v u vv uu Q I rv ru h;obtain⟨ρ,x,y,c,W,rx,ry,p⟩:=h;unfold mh at p;split at p
 ·cases rx;cases ry;exact Vr pins s σ H _ _ vv uu Q I rv ru ⟨_,_,rfl,rfl,p.here W rfl⟩
 ·exact p.elim
theorem Ii{o a:π}{dO da:af}{apos cpos:Pos}(ho:aV X o dO) (ha:aV X a da)
  (hbase:aaZ o "pop" X.env (eval o X.env)=eval o X.env:=by rfl)
  (hfew:((aaQ cpos (μ [a] X.env)).all (λx=>!x.1)&&(aa9 cpos (aaU [] X.env)).all (λx=>x.1.isSome)
   && decide ([a].length+([]:List aaW).length+(if([]:List aaW).isEmpty then 0 else 1)<30))=Θ:=by exact tG rfl)
  (hline:(apos.endLine==cpos.line)=Θ:=by rfl) (hs:μ [a] X.env=(Ψ,eval a X.env)::μ [] X.env:=by exact bT rfl) (hplain:(aaQ cpos (μ [] X.env)).any (·.1)=Ψ:=by exact eB rfl) :
  aV X (.Call (.Attribute o "pop" apos) [a] [] cpos) (jy dO da) :=
 (uc akg PySem.F.slot_list_pop PySem.F.type_list_pop YW ho (jg ha jf hs) hbase hfew hline hs hplain).imp λσ H Q h=>by
  obtain⟨ρ,e,c,W,V,p⟩:=h;refine⟨ρ,e,c,W,V,post.bind p λx c1 aJ H1 v _ W1 X1 r1 p1=>?_⟩
  cases x with
  |ref k =>
   obtain⟨ad,rfl,hk⟩:=r1;obtain⟨xs,hx⟩:=W1.at' (aiP hk);refine⟨.inl ⟨rfl,xs,bJ.of hx⟩,aJ,e,c1,W1,V.mono W X1,post.bind p1 λi c2 cy H2 ui _ W2 X2 r2 p2=>?_⟩
   split at p2
   ·rename_i i' l hl _;split at p2
    ·rename_i hh;cases r2;have hk2:=X2.pre k ad hk;obtain⟨nr,ys,hy,rl⟩:=W2.fR k ad _ hk2 hl;split at p2
     ·rename_i d hd;obtain⟨y,hy1,ry⟩:=rl.get hd;have hlen:=rl.length;refine⟨ad,ys,i',i'.toNat,y,rfl,rfl,hy,by omega,by omega,?_,hy1,?_⟩
      ·have e0:(if i'<0 then i'+(ys.length:Int)else i')=i':=if_neg (by omega)
       unfold seqIndex?;simp only[e0];rw[if_pos (by simp only[aiy,decide_eq_true_eq];omega)]
      ·rw[ajN]at p2 ⊢;refine p2 cy _ y (W2.write hk2 ?_ ((rl.take _).append (rl.drop _))) (Ext.write hk2) (Rel.mono W2 (Ext.write hk2) _ _ ry);rw[uw,XX nr,XY nr];rfl
     ·exact p2.elim
    ·exact p2.elim
   ·exact p2.elim
  |_=>exact p1.elim
theorem U6{a:π}{da:aj}{p1 p2 q1 q2:Pos}(ha:eH X [a] da) (hm:X.mg "list"=θ) (hm2:X.mg "range"=θ) (hg:Gl X "list":=by rfl) (ju:Gl X "range":=by rfl) (hc:X.calm=Θ:=by rfl)
  (he:μ [a] X.env=(Ψ,eval a X.env)::μ [] X.env:=by exact bT rfl) (hb:(aaQ q2 (μ [] X.env)).any (·.1)=Ψ:=by exact eB rfl):aV X (.Call (.Name "list" p1) [.Call (.Name "range" p2) [a] [] q2] [] q1) (u9 da):=by
 have hr:PE X (.Call (.Name "range" p2) [a] [] q2) _:=mO L6 ju hm2 (by decide +kernel) ha (by decide) (by decide) he hb
 refine(mO (L7 hc) hg hm (by decide +kernel) (jg hr jf (bT rfl)) (by decide) (by decide) (by exact bT rfl) (by exact eB rfl)).imp λσ H Q h=>?_
 obtain⟨ρ,e,c,W,V,p⟩:=h;refine⟨ρ,e,c,W,V,post.bind p λxs c1 aJ H1 vs ex W1 X1 r1 p1=>?_⟩
 clear ex;split at p1
 ·rename_i j;obtain⟨v,r,rfl,hx,hr2⟩:=r1;cases hr2;cases hx;split at p1
  ·rename_i hb;refine⟨j,rfl,λp hp=>⟨p,0,j,rfl,gi,⟨alD _,hb.1,hb.2⟩,λl hl=>?_⟩⟩
   have nr:bA ((gp 0 j).map D.int)=Θ:=iQ.mpr λd hd=>by
    obtain⟨i,_,rfl⟩:=aik.mp hd;rfl
   exact Bf (W1.fresh hp) nr aN.ints (post.ext p1 (Ext.fresh W1 hp)) l hl
  ·exact p1.elim
 ·exact p1.elim
end
section
variable (o a:af) (b:aj) (e:Ev) (c:aa)
@[simp] theorem Oz(i j:Int):mh (.int i) (.int j) c=.ok (.int (Builtin.bitXor i j)) c:=rfl
@[simp] theorem OI:u9 b e c=(b e c).bind λxs c=>match xs with
 |[.int j]=>if 0<j/\j<1000 then .ok (.ref c.length) (c++[.lst ((gp 0 j).map D.int)])else .bad
 |_=>.bad:=rfl
end
def agy(H:Hp) (ts:List Ω):Prop:=∀b,H b=θ\/(∃o xs,H b=ζ (.eT o (.lst xs)))\/(b∈ts/\H b=ζ (.ez #[]))
theorem Zt{P:τ}{w:ψ}{K:Δ}{mg mb:Str->Option Ξ}{k:Nat}{fa a:Ω}{fd:ο}{x:Str}{sp:Sp}{s₁:ε}{vs:List Ξ}{ns:List Int}{ts:List (Ω×Ω)}
  (KX:K.In s₁.heap) (hns:s₁.heap.Ns Γ mg) (hb:s₁.heap.Ns builtinsNs mb) (hbb:∀x:Str,x≠"__name__"->mb x=bootBuiltins x) (hlim:s₁.heap.NoLimit)
  (hbm:∃bm ob,mg "__builtins__"=ζ (.ref bm)/\bm≠builtinsNs/\s₁.heap.get? bm=ζ ob/\ob.cls=.type "module"/\ob.dict=ζ builtinsNs/\ob.data=.plain) (hg:s₁.gens=#[])
  (ha:s₁.heap.get? a=ζ {cls:=.type "list",data:=.seq vs.toArray}) (hi:aa8 vs ns) (hl:ns.length<=ι) (hr:dG k callerA)
  (Dl:∀q∈ts,PySem.W.codeHdIn K q.1 q.2=Θ/\s₁.heap.get? q.2=ζ (PySem.W.tabObj #[])) (hKt:PySem.W.noTabs K=Θ)
  (F:∀base:χ,K.In base->base.Ns Γ mg->bK P w K mg base bS k fa fd [x] sp) (hbind:∀(s:ε) (u:Ξ),abF s fd ⟨[u],[]⟩ [(x,u)])
  (jr:∀H:Hp,(∀q∈ts,H q.2=ζ (.ez #[]))->bJ K H a (ns.map V.int)->sp [.ref a] H (λv _=>v=.bl Θ) λ_ _ _=>False) :
  codeAny (model P w) callerA (.call (.ref fa) ⟨[.ref a],[]⟩) (λr s'=>r=.ok (.ret (.bool Θ))/\OldK s₁.heap s'.heap/\s'.os=s₁.os/\aa0 s'.gens) s₁:=by
 have rv:=GH hi;have Zk:=hi.length;have m5:∀b,b∈ts.map (·.2)->s₁.heap.get? b=ζ (PySem.W.tabObj #[]):=λb h=>by
  obtain⟨q,hq,rfl⟩:=aik.mp h;exact(Dl q hq).2
 have nat:a∉ts.map (·.2):=λh=>by have:=m5 a h;rw[ha]at this;cases this
 have core:∀H:Hp,agy H (ts.map (·.2))->(∀q∈ts,H q.2=ζ (.ez #[]))->bJ K H a (ns.map V.int)->cL P w H s₁.heap->(∀b,H b≠θ->b=a\/b∈ts.map (·.2))->(H a≠θ->K.lookup a=θ) ->
   codeAny (model P w) callerA (.call (.ref fa) ⟨[.ref a],[]⟩) (λr s'=>r=.ok (.ret (.bool Θ))/\OldK s₁.heap s'.heap/\s'.os=s₁.os/\aa0 s'.gens) s₁:=by
  intro H hO hT hS hok hA hK;have FU:∀{b:Ω}{o:Obj},s₁.heap.get? b=ζ o->H b=θ->(kL s₁.heap H).get? b=ζ o:=λe n=>abf e n
  have XZ:∀{b:Ω}{o:Obj},s₁.heap.get? b=ζ o->o.cls≠.type "list"->o.cls≠.none->H b=θ:=fun{b o} e d1 d2=>by
   cases q:H b with
   |none=>rfl
   |some u =>
    rcases hA b (by rw[q];simp)with e'|e'
    ·subst e';rw[ha]at e;cases e;exact absurd rfl d1
    ·rw[m5 b e']at e;cases e;exact absurd rfl d2
  have ux:∀{b:Ω}{o:Obj}{es:Array DictEntry}{ep:Nat},s₁.heap.get? b=ζ o->o.data=.dict es ep->H b=θ:=fun{b o es ep} e d=>by
   cases q:H b with
   |none=>rfl
   |some u =>
    rcases hA b (by rw[q];simp)with e'|e'
    ·subst e';rw[ha]at e;cases e;have d':Data.seq vs.toArray _=Data.dict es ep:=d;cases d'
    ·rw[m5 b e']at e;cases e;have d':Data.fields #[]=Data.dict es ep:=d;cases d'
  have xH:∀{b:Ω}{m:Str->Option Ξ},s₁.heap.Ns b m->(kL s₁.heap H).Ns b m:=fun{b m} ⟨o,es,ep,e,d,r⟩=>⟨o,es,ep,FU e (ux e d),d,r⟩
  have KR:K.In (kL s₁.heap H):=λb o e=>FU (KX b o e) (by
   cases q:H b with
   |none=>rfl
   |some u =>
    rcases hA b (by rw[q];simp)with e'|e'
    ·subst e';rw[hK (by rw[q];simp)]at e;cases e
    ·have h1:=KX b o e;rw[m5 b e']at h1;cases h1;have h2:=aip.mp hKt (b,_) (PySem.W.mem_of_lookupK e);exact absurd (show Ψ=Θ from h2) aiD)
  have hM:Mod K mg (kL s₁.heap H):=⟨KR,xH hns,⟨mb,xH hb,hbb⟩,let⟨mc,h1,h2⟩:=hlim;⟨mc,xH h1,h2⟩,let⟨bm,ob,b1,b2,b3,b4,b5⟩:=hbm;⟨bm,ob,b1,b2,FU b3 (XZ b3 (by rw[b4];simp) (by rw[b4];simp)),b4,b5⟩⟩
  have e0:sM P w K mg (kL s₁.heap H) callerA [] s₁ H:=⟨rfl,hM,λb o e=>Wf e,ajp (abe _ _),trivial,λb hb=>absurd (show b∈([]:List Ω)from hb) (by simp),hok,.of_eq hg⟩
  refine aji ((F _ KR (xH hns)).run callerA [] s₁ H ⟨[.ref a],[]⟩ [.ref a] [.ref a] _ _ hr e0 (hbind s₁ (.ref a)) (.cons rfl .nil) (jr H hT hS)) λr s' h=>?_
  cases r with
  |error e=>exact False.elim h
  |ok fl =>
   cases fl with
   |next=>exact False.elim h
   |brk=>exact False.elim h
   |cont=>exact False.elim h
   |ret u =>
    obtain⟨v,H',os,bare,un,x8,r',q⟩:=h;have q':v=.bl Θ:=q;subst q';obtain rfl:u=Value.bool Θ:=r';have main:∀b o,s₁.heap.get? b=ζ o->s'.heap.get? b=ζ o\/(b∈ts.map (·.2)/\o=PySem.W.tabObj #[]/\∃ps,s'.heap.get? b=ζ (PySem.W.tabObj ps)):=λb o e=>by
     rcases hO b with z|⟨ob,xs,z⟩|⟨hm,z⟩
     ·exact .inl (un.keep b o e z (by intro z;exact absurd (show b∈([]:List Ω)from z) (by simp)) (by simp))
     ·have z2:=un.gK b ob _ z;obtain⟨e1,_⟩:=hok b _ z;obtain⟨e2,_⟩:=x8 b _ z2;rw[e]at e1;cases e1;exact .inl e2
     ·obtain⟨more,z2⟩:=un.gD b _ z;have e2:s'.heap.get? b=ζ (PySem.W.tabObj (#[]++more)):=x8 b _ z2;have e1:=m5 b hm;rw[e]at e1;cases e1;exact .inr ⟨hm,rfl,_,e2⟩
    refine⟨rfl,⟨λb o e=>?_,λb o e=>?_⟩,os,bare⟩
    ·rcases main b o e with z|⟨hm,rfl,ps,z⟩
     ·exact .inl z
     ·obtain⟨q,hq,rfl⟩:=aik.mp hm;have hC:=PySem.W.codeHd_of_K KX (Dl q hq).1;exact .inr (.inl ⟨(hC.tab (Dl q hq).2).isCodeTable,rfl,#[],ps,rfl,by rw[Array.empty_append];exact z⟩)
    ·rcases main b o e with z|⟨_,_,ps,z⟩
     ·exact⟨o,z⟩
     ·exact⟨_,z⟩
 have ag8:∀(H:Hp) b,H b=ζ (.ez #[])->b∈ts.map (·.2)->eK P w H s₁.heap b (.ez #[]):=λH b _ h=>m5 b h
 cases hk:K.lookup a with
 |some o =>
  have e:=KX a o hk;rw[ha]at e;cases e
  let H:Hp:=λb=>if b∈ts.map (·.2)then ζ (.ez #[])else θ
  refine core H (λb=>?_) (λq hq=>if_pos (amt hq)) (.inr ⟨_,vs.toArray,_,hk,rfl,rfl,rfl,by rw[aiw,Zk];exact hl,by simpa using rv⟩) (λb u z=>?_) (λb z=>?_) λz=>absurd (if_neg nat) z
  ·by_cases hb:b∈ts.map (·.2)
   ·exact .inr (.inr ⟨hb,if_pos hb⟩)
   ·exact .inl (if_neg hb)
  ·by_cases hb:b∈ts.map (·.2)
   ·have z':=(if_pos hb).symm.trans z;cases z';exact m5 b hb
   ·have z':=(if_neg hb).symm.trans z;cases z'
  ·by_cases hb:b∈ts.map (·.2)
   ·exact .inr hb
   ·exact absurd (if_neg hb) z
 |none =>
  let H:Hp:=λb=>if b∈ts.map (·.2)then ζ (.ez #[])else if b=a then ζ (.eT {cls:=.type "list",data:=.seq vs.toArray} (.lst (ns.map V.int)))else θ
  have Ha:H a=ζ (.eT {cls:=.type "list",data:=.seq vs.toArray} (.lst (ns.map V.int))):=(if_neg nat).trans (if_pos rfl);refine core H (λb=>?_) (λq hq=>if_pos (amt hq)) (.inl (.inr ⟨_,Ha⟩)) (λb u z=>?_) (λb z=>?_) λ_=>hk
  ·by_cases hb:b∈ts.map (·.2)
   ·exact .inr (.inr ⟨hb,if_pos hb⟩)
   ·by_cases hb2:b=a
    ·exact .inr (.inl ⟨_,_,(if_neg hb).trans (if_pos hb2)⟩)
    ·exact .inl ((if_neg hb).trans (if_neg hb2))
  ·by_cases hb:b∈ts.map (·.2)
   ·have z':=(if_pos hb).symm.trans z;cases z';exact m5 b hb
   ·by_cases hb2:b=a
    ·have z':=((if_neg hb).trans (if_pos hb2)).symm.trans z;cases z';subst hb2;exact⟨ha,by rw[aiu];exact hl,vs,_,rv,ha⟩
    ·have z':=((if_neg hb).trans (if_neg hb2)).symm.trans z;cases z'
  ·by_cases hb:b∈ts.map (·.2)
   ·exact .inr hb
   ·by_cases hb2:b=a
    ·exact .inl hb2
    ·exact absurd ((if_neg hb).trans (if_neg hb2)) z
def Ar(K:Δ) (ts:List (Ω×Ω)):Bool:=J1.all λx=>match PySem.W.tabIn K x with
 |some q=>decide (q∈ts)
 |none=>Θ
theorem Pq{K:Δ}{H:Hp}{ts:List (Ω×Ω)}(h:Ar K ts=Θ) (hT:∀q∈ts,H q.2=ζ (.ez #[])):vC K H:=λx hx c P e=>by
 have:=aip.mp h x hx;rw[e]at this;exact⟨#[],hT (c,P) (of_decide_eq_true this),trivial,λpos cv z=>by cases z⟩
theorem OS{l:abi}{n k:Nat}{q:τ}{loose:List Str}{XP:(Str->Option Ξ)->χ->Prop}{YP:ψ->χ->Prop}{d:DefRec}{K:Params->Δ}{x:Str}{m:List D->aa->R D}{ts:List (Ω×Ω)}
  (hn:l.most=ζ n) (hn2:n<=ι) (hdf:d.params.defaults=[]) (hr:dG k callerA)
  (hY:∀(w:ψ) (h:χ),YP w h->(K w.params).In h/\∀q∈ts,h.get? q.2=ζ (PySem.W.tabObj #[]))
  (hK:∀p,(ts.all λq=>PySem.W.codeHdIn (K p) q.1 q.2)=Θ/\PySem.W.noTabs (K p)=Θ/\Ar (K p) ts=Θ)
  (F:∀(w:ψ) (mg:Str->Option Ξ) (fa:Ω) (h:χ),(K w.params).In h->h.Ns Γ mg->mg d.name=ζ (.ref fa) ->
   ∃fd:ο,(∀(s:ε) (u:Ξ),abF s fd ⟨[u],[]⟩ [(x,u)]) /\
    ∀base:χ,(K w.params).In base->base.Ns Γ mg->bK l.prog w (K w.params) mg base bS k fa fd [x] (b7 (K w.params) 1 m))
  (hm:∀ns:List Int,ns.length<=n->∃c,m [.cE ns] []=.ok (.bl Θ) c) :
  PySem.W.WalkO q loose XP YP l.row.toRowW d [] (λf vs=>PySem.call f vs):=by
 refine Ob.aft hn hdf λw s₀ s₁ mg mb fa o pm cd doc a vs ns G Y ho hd hcd hmg hobj hints hlen hg=>?_
 obtain⟨KX,hT⟩:=hY w _ Y;obtain⟨fd,hb,hF⟩:=F w mg fa _ KX G.T.g hmg;obtain⟨k1,k2,k3⟩:=hK w.params;refine Zt (ts:=ts) KX G.T.g G.T.b G.T.builtins G.T.nolimit G.T.bmain hg hobj hints (aiT hlen hn2) hr (λq hq=>⟨aip.mp k1 q hq,hT q hq⟩) k2 hF hb λH h1 h2=>?_
 obtain⟨c,hc⟩:=hm ns hlen;refine⟨[],[.cE ns],[],⟨.nil,rfl,λk a cl e=>(by cases e),Pq k3 h1⟩,⟨.ref a,[],rfl,⟨a,rfl,?_⟩,rfl⟩,rfl,?_⟩
 ·rcases h2 with hS|hS
  ·exact .inl ⟨hS,by simp⟩
  ·exact .inr (.inr hS)
 ·rw[hc];exact λρ' H' b _ _ r=>r
abbrev Pb:=SetTable.Probe
def er(m:Nat) (p:Pb):Pb:=if p.more>0 then{p with j:=p.j+1,more:=p.more-1}else{p with j:=(p.i*5+1+p.perturb/32) % (m+1),more:=SetTable.runEnd m ((p.i*5+1+p.perturb/32) % (m+1))-(p.i*5+1+p.perturb/32) % (m+1),i:=(p.i*5+1+p.perturb/32) % (m+1),perturb:=p.perturb/32}
theorem agn(t:aam) (p:Pb):t.advance p=er t.mask p:=by
 unfold SetTable.advance er;split<;>rfl
def d8(m:Nat):Nat->Pb->Pb
 |0,p=>p
 |n+1,p=>d8 m n (er m p)
theorem xX(m:Nat):∀(a b:Nat) (p:Pb),d8 m (a+b) p=d8 m b (d8 m a p)
 |0,b,p=>by rw[aiW];rfl
 |a+1,b,p=>by
  rw[show a+1+b=(a+b)+1 by omega]
  exact xX m a b (er m p)
theorem ago(m:Nat) (p:Pb):(er m p).dummy=p.dummy:=by unfold er;split<;>rfl
theorem Kf(m:Nat):∀(n:Nat) (p:Pb),(d8 m n p).dummy=p.dummy
 |0,_=>rfl
 |n+1,p=>(Kf m n (er m p)).trans (ago m p)
def mJ(m i q:Nat):Pb:=⟨i,SetTable.runEnd m i-i,i,q,θ⟩
def gE(m:Nat) (h:Int):Pb:=mJ m (SetTable.bits h % (m+1)) (SetTable.bits h)
def iX(m:Nat) (h:Int) (n:Nat):Nat:=(d8 m n (gE m h)).j
def Reach(m:Nat) (P:Nat->Prop) (h:Int) (j:Nat):Prop:=∃n,n<10*(m+15)/\iX m h n=j/\∀k,k<n->P (iX m h k)
theorem Reach.mono{m:Nat}{P Q:Nat->Prop}{h:Int}{j:Nat}(r:Reach m P h j) (i:∀k,P k->Q k):Reach m Q h j :=
 let⟨n,h1,h2,h3⟩:=r;⟨n,h1,h2,λk hk=>i _ (h3 k hk)⟩
theorem AB{t:aam}(hu:Up t.place.toList) {j:Nat}(hj:j∈t.place.toList):∃i,t.slot j=.live i/\t.place[i]? = ζ j:=by
 refine⟨SetTable.below t.place j,?_,FQ hu hj⟩;unfold SetTable.slot;dsimp only;rw[FQ hu hj];simp
theorem QK{t:aam}(hd:t.dummies=#[]) {j:Nat}(hj:j∉t.place.toList):t.slot j=.empty:=by
 rcases AA hd j with e|⟨i,e⟩
 ·exact e
 ·unfold SetTable.slot at e;dsimp only at e;split at e
  ·rename_i q;have:=eq_of_beq q;rw[<-aiS]at this;exact absurd (aiP this) hj
  ·split at e<;>cases e
theorem Dt{t:aam}{hashAt:Nat->Int}{h:Int}:∀(n fuel:Nat) (p:Pb),n<=fuel->(∀k,k<n->∃i,t.slot (d8 t.mask k p).j=.live i/\(hashAt i==h)=Ψ) ->
  SetTable.probe.go t hashAt h fuel p=SetTable.probe.go t hashAt h (fuel-n) (d8 t.mask n p)
 |0,fuel,p,_,_=>rfl
 |n+1,0,p,hf,_=>absurd hf (by omega)
 |n+1,fuel+1,p,hf,hk=>by
  obtain⟨i,e,hne⟩:=hk 0 (by omega)
  have e:t.slot p.j=.live i:=e;have ih:=Dt (t:=t) (hashAt:=hashAt) (h:=h) n fuel (er t.mask p) (by omega) λk hk'=>hk (k+1) (by omega)
  rw[show fuel+1-(n+1)=fuel-n by omega]
  show SetTable.probe.go t hashAt h (fuel+1) p=SetTable.probe.go t hashAt h (fuel-n) (d8 t.mask n (er t.mask p));rw[<-ih]
  conv=>lhs;unfold SetTable.probe.go
  rw[e];dsimp only;rw[hne,agn];simp only[aiU,if_false]
theorem EO{mask:Nat}:∀(n:Nat) (p:Pb) (acc:Nat),fQ mask n p.j p.more p.i p.perturb acc=Θ->∀s,s<=mask->acc.testBit s=Ψ->∃k,k<n/\(d8 mask k p).j=s
 |0,_,_,h,_,_,_=>by cases h
 |n+1,p,acc,hc,s,hs,ha=>by
  by_cases e:p.j=s
  ·exact⟨0,by omega,e⟩
  ·have ha':(acc |||(1 <<< p.j)).testBit s=Ψ:=by
    rw[zG,ha];simp;exact λq=>e q.symm
   unfold fQ at hc;split at hc
   ·rename_i ef;rw[ef,ajW]at ha';have:=of_decide_eq_false ha';omega
   ·split at hc
    ·rename_i hm;have oE:er mask p={p with j:=p.j+1,more:=p.more-1}:=by unfold er;rw[if_pos hm]
     obtain⟨k,hk,ek⟩:=EO n (er mask p) (acc |||(1 <<< p.j)) (by rw[oE];exact hc) s hs ha'
     exact⟨k+1,by omega,ek⟩
    ·rename_i hm;have oE:er mask p={p with j:=(p.i*5+1+p.perturb/32) % (mask+1),more:=SetTable.runEnd mask ((p.i*5+1+p.perturb/32) % (mask+1))-(p.i*5+1+p.perturb/32) % (mask+1),i:=(p.i*5+1+p.perturb/32) % (mask+1),perturb:=p.perturb/32}:=by
      unfold er;rw[if_neg hm]
     obtain⟨k,hk,ek⟩:=EO n (er mask p) (acc |||(1 <<< p.j)) (by rw[oE];exact hc) s hs ha'
     exact⟨k+1,by omega,ek⟩
theorem least{P:Nat->Prop}:∀(n:Nat),P n->∃k,k<=n/\P k/\∀i,i<k->¬P i:=λn=>by
 induction n using Nat.strongRecOn with
 |_ n ih =>
  intro h
  by_cases q:∃i,i<n/\P i
  ·obtain⟨i,hi,hp⟩:=q;obtain⟨k,h1,h2,h3⟩:=ih i hi hp;exact⟨k,by omega,h2,h3⟩
  ·exact⟨n,aij _,h,λi hi hp=>q ⟨i,hi,hp⟩⟩
structure nF (h:Int):Prop where
 go:∀m,nU m->fQ m (10*(m+15)) (SetTable.bits h % (m+1)) (SetTable.runEnd m (SetTable.bits h % (m+1))-SetTable.bits h % (m+1)) (SetTable.bits h % (m+1)) (SetTable.bits h) 0=Θ
 lay:∀m,iN m->nk m (m+15) (SetTable.bits h % (m+1)) (SetTable.bits h) 0=Θ
def gG(es:Array (Int×Ξ)) (i:Nat):Int:=(Option.map (λx:Int×Ξ=>x.fst) es[i]?).getD 0
structure jY (t:aam) (es:Array (Int×Ξ)):Prop where
 size:t.place.size=es.size
 up:Up t.place.toList
 le:∀j∈t.place.toList,j<=t.mask
 dm:t.dummies=#[]
 mask:(t.mask=7/\es.size<=4)\/(t.mask=31/\es.size<=18)\/(t.mask=127/\es.size<=76)
 reach:∀q∈t.place.toList.zip es.toList,Reach t.mask (·∈t.place.toList) q.2.1 q.1
theorem jY.ok{t:aam}{es:Array (Int×Ξ)}(I:jY t es):nU t.mask:=by
 have:=I.mask;unfold nU;omega
theorem jY.fits{t:aam}{es:Array (Int×Ξ)}(h:jY t es):t.fits es.size=Θ:=by
 have:=h.mask;simp only[SetTable.fits,SetTable.fill,h.size,h.dm,aiy,beq_self_eq_true,true_and,decide_eq_true_eq];simp only[aiw,aiR];omega
theorem Oi{l:List Nat}{r:List (Int×Ξ)}{i j:Nat}{e:Int×Ξ}(h1:l[i]? = ζ j) (h2:r[i]? = ζ e):(j,e)∈l.zip r:=by
 have:(l.zip r)[i]? = ζ (j,e):=by rw[al4];exact⟨h1,h2⟩
 exact aiP this
theorem OV{l:List Nat}(h:Up l) {i k j:Nat}(h1:l[i]? = ζ j) (h2:l[k]? = ζ j):i=k:=by
 obtain⟨a1,b1⟩:=aix.mp h1;obtain⟨a2,b2⟩:=aix.mp h2
 rcases akJ i k with q|q|q
 ·have:=ajU.mp h i k a1 a2 q;omega
 ·exact q
 ·have:=ajU.mp h k i a2 a1 q;omega
theorem acw{t:aam}{es:Array (Int×Ξ)}(I:jY t es) {e:Int×Ξ}(he:e∈es.toList):∃j i next e',t.probe (gG es) e.1 (t.probeStart e.1)=ζ (.candidate j i next)/\es[i]? = ζ e'/\e'.1=e.1:=by
 obtain⟨i0,hi0,ee⟩:=ajK he;have e1:es.toList[i0]? = ζ e:=by rw[ait hi0,ee]
 have hsz:t.place.toList.length=es.toList.length:=by simp[I.size]
 obtain⟨j0,hj0⟩:∃j0,t.place.toList[i0]? = ζ j0:=⟨_,ait (by omega)⟩
 obtain⟨n0,hn0,ha0,hl0⟩:=I.reach (j0,e) (Oi hj0 e1);have hm0:j0∈t.place.toList:=aiP hj0;have hA:∀i e',es[i]? = ζ e'->gG es i=e'.1:=λi e' q=>by unfold gG;rw[q];rfl
 have Qp:∃i,t.slot (iX t.mask e.1 n0)=.live i/\gG es i=e.1:=by
  rw[ha0];obtain⟨i,s1,s2⟩:=AB I.up hm0;rw[<-aiS]at s2;have:=OV I.up s2 hj0;subst this;exact⟨i,s1,hA i e (by rw[<-aiS];exact e1)⟩
 obtain⟨n,hn,⟨i,s1,s2⟩,hmin⟩:=least (P:=λn=>∃i,t.slot (iX t.mask e.1 n)=.live i/\gG es i=e.1) n0 Qp
 have hlive:∀k,k<n->∃i,t.slot (d8 t.mask k (gE t.mask e.1)).j=.live i/\(gG es i==e.1)=Ψ:=λk hk=>by
  obtain⟨i',q1,_⟩:=AB I.up (hl0 k (by omega))
  refine⟨i',q1,?_⟩;cases hb:gG es i'==e.1 with
  |false=>rfl
  |true=>exact absurd ⟨i',q1,eq_of_beq hb⟩ (hmin k hk)
 have C9:=Dt (t:=t) (hashAt:=gG es) (h:=e.1) n (10*SetTable.turns t.mask) (gE t.mask e.1) (by unfold SetTable.turns;omega) hlive
 have hf:∃f,10*SetTable.turns t.mask-n=f+1:=⟨10*SetTable.turns t.mask-n-1,by unfold SetTable.turns;omega⟩
 obtain⟨f,hf⟩:=hf;have hi:∃e',es[i]? = ζ e'/\e'.1=e.1:=by
  have hpl:∃j,t.place[i]? = ζ j:=by
   unfold SetTable.slot at s1;dsimp only at s1;split at s1
   ·rename_i q;cases s1;exact⟨_,eq_of_beq q⟩
   ·split at s1<;>cases s1
  obtain⟨j,hj⟩:=hpl;rw[<-aiS]at hj;have hlt:=(aix.mp hj).1;have ou:i<es.toList.length:=by omega
  refine⟨es.toList[i],by rw[<-aiS,ait ou],?_⟩
  rw[<-s2,hA i es.toList[i] (by rw[<-aiS,ait ou])]
 obtain⟨e',h1,h2⟩:=hi;refine⟨iX t.mask e.1 n,i,t.advance (d8 t.mask n (gE t.mask e.1)),e',?_,h1,h2⟩;show SetTable.probe.go t (gG es) e.1 (10*SetTable.turns t.mask) (gE t.mask e.1)=_;rw[C9,hf];unfold SetTable.probe.go;have s1:t.slot (d8 t.mask n (gE t.mask e.1)).j=.live i:=s1;rw[s1];dsimp only;rw[s2];simp;rfl
theorem agm{m:Nat}{p:Pb}(h:p.j+p.more<=m):(er m p).j+(er m p).more<=m:=by
 unfold er;split
 ·dsimp only;omega
 ·dsimp only;have:(p.i*5+1+p.perturb/32) % (m+1)<m+1:=ajg _ (by omega)
  generalize (p.i*5+1+p.perturb/32) % (m+1)=i at this
  unfold SetTable.runEnd;split<;>omega
theorem Ke{m:Nat}:∀(n:Nat) {p:Pb},p.j+p.more<=m->(d8 m n p).j+(d8 m n p).more<=m
 |0,_,h=>h
 |n+1,_,h=>Ke n (agm h)
theorem Qs(m:Nat) (h:Int):(gE m h).j+(gE m h).more<=m:=by
 have:SetTable.bits h % (m+1)<m+1:=ajg _ (by omega)
 unfold gE mJ;dsimp only
 generalize SetTable.bits h % (m+1)=i at this
 unfold SetTable.runEnd;split<;>omega
theorem Nb(m:Nat) (h:Int) (n:Nat):iX m h n<=m:=by
 have:=Ke n (Qs m h);unfold iX;omega
theorem acy{t:aam}{es:Array (Int×Ξ)}(I:jY t es) {h:Int}(hc:nF h) (hno:∀e∈es.toList,e.1≠h) :
  ∃j,t.probe (gG es) h (t.probeStart h)=ζ (.empty j θ)/\j∉t.place.toList/\j<=t.mask/\Reach t.mask (·∈t.place.toList) h j:=by
 have hsz:t.place.toList.length=es.toList.length:=by simp[I.size]
 have hM:=I.mask;have hes:es.toList.length=es.size:=by simp
 have hex:∃j,j<=t.mask/\j∉t.place.toList:=akM λq=>by
  have:=A1 (t.mask+1) t.place.toList λj hj=>akM λx=>q ⟨j,by omega,x⟩
  omega
 obtain⟨js,hjs,hjn⟩:=hex;obtain⟨k0,hk0,ek0⟩:=EO (10*(t.mask+15)) (gE t.mask h) 0 (hc.go t.mask I.ok) js hjs (by simp)
 obtain⟨n,hn,hs,hmin⟩:=least (P:=λn=>iX t.mask h n∉t.place.toList) k0 (by show(d8 t.mask k0 (gE t.mask h)).j∉_;rw[ek0];exact hjn)
 have hin:∀k,k<n->iX t.mask h k∈t.place.toList:=λk hk=>akM λx=>hmin k hk x
 have hA:∀i e',es[i]? = ζ e'->gG es i=e'.1:=λi e' q=>by unfold gG;rw[q];rfl
 have hlive:∀k,k<n->∃i,t.slot (d8 t.mask k (gE t.mask h)).j=.live i/\(gG es i==h)=Ψ:=λk hk=>by
  obtain⟨i,q1,q2⟩:=AB I.up (hin k hk);refine⟨i,q1,?_⟩;rw[<-aiS]at q2;have hlt:=(aix.mp q2).1;have ou:i<es.toList.length:=by omega
  have hq:es[i]? = ζ es.toList[i]:=by rw[<-aiS,ait ou]
  rw[hA i _ hq];exact beq_false_of_ne (hno _ (aiJ ou))
 have C9:=Dt (t:=t) (hashAt:=gG es) (h:=h) n (10*SetTable.turns t.mask) (gE t.mask h) (by unfold SetTable.turns;omega) hlive
 obtain⟨f,hf⟩:∃f,10*SetTable.turns t.mask-n=f+1:=⟨10*SetTable.turns t.mask-n-1,by unfold SetTable.turns;omega⟩
 refine⟨iX t.mask h n,?_,hs,?_,n,by omega,rfl,hin⟩
 ·show SetTable.probe.go t (gG es) h (10*SetTable.turns t.mask) (gE t.mask h)=_;rw[C9,hf];unfold SetTable.probe.go;have s1:t.slot (d8 t.mask n (gE t.mask h)).j=.empty:=QK I.dm hs;rw[s1];dsimp only;rw[Kf];rfl
 ·exact Nb _ h n
theorem Og{l:Array Nat}{r:Array (Int×Ξ)}(hs:l.size=r.size) {p j:Nat}{e:Int×Ξ}:∀q∈(SetTable.insertAt l p j).toList.zip (SetTable.insertAt r p e).toList,q=(j,e)\/q∈l.toList.zip r.toList:=by
 intro q hq;rw[akK,akK]at hq;have hl:(l.toList.take p).length=(r.toList.take p).length:=by simp[hs]
 rw[amu hl,List.zip_cons_cons,aiK,aio]at hq;have hz:l.toList.zip r.toList=(l.toList.take p).zip (r.toList.take p)++(l.toList.drop p).zip (r.toList.drop p):=by
  rw[<-amu hl,ajM,ajM]
 rw[hz,aiK]
 rcases hq with q|q|q
 ·exact .inr (.inl q)
 ·exact .inl q
 ·exact .inr (.inr q)
theorem SS{t:aam}{es:Array (Int×Ξ)}(I:jY t es) {h:Int}{x:Ξ}{j:Nat}(hj:j∉t.place.toList) (hle:j<=t.mask) (hr:Reach t.mask (·∈t.place.toList) h j) :
  (SetTable.insertAt es (SetTable.below t.place j) (h,x)).size=es.size+1/\(t.put j).1.place.size=es.size+1/\Up (t.put j).1.place.toList/\(∀k∈(t.put j).1.place.toList,k<=t.mask)/\(t.put j).1.dummies=#[] /\
   (∀q∈(t.put j).1.place.toList.zip (SetTable.insertAt es (SetTable.below t.place j) (h,x)).toList,Reach t.mask (·∈(t.put j).1.place.toList) q.2.1 q.1):=by
 have hsz:=I.size;have hnd:(if SetTable.has t.dummies j then SetTable.eraseAt t.dummies (SetTable.below t.dummies j)else t.dummies)=#[]:=by
  rw[I.dm];rfl
 have hmem:∀k,k∈(SetTable.insertAt t.place (SetTable.below t.place j) j).toList↔k∈t.place.toList\/k=j:=λk=>by
  rw[(ajX t.place (SetTable.below t.place j) j).mem_iff,akQ,aiK,aiV]
 refine⟨?_,?_,GJ I.up hj,λk hk=>?_,hnd,λq hq=>?_⟩
 ·rw[<-aiB,(ajX ..).length_eq];simp
 ·show(SetTable.insertAt t.place (SetTable.below t.place j) j).size=_;rw[<-aiB,(ajX ..).length_eq];simp[hsz]
 ·rcases(hmem k).mp hk with q|rfl
  ·exact I.le k q
  ·exact hle
 ·rcases Og hsz q hq with rfl|q'
  ·exact hr.mono λk hk=>(hmem k).mpr (.inl hk)
  ·exact(I.reach q q').mono λk hk=>(hmem k).mpr (.inl hk)
theorem tU(m:Nat):∀(k:Nat) (p:Pb),k<=p.more->d8 m k p={p with j:=p.j+k,more:=p.more-k}
 |0,p,_=>rfl
 |k+1,p,h=>by
  have ha:er m p={p with j:=p.j+1,more:=p.more-1}:=by unfold er;rw[if_pos (by omega)]
  show d8 m k (er m p)=_;rw[ha,tU m k _ (by dsimp only;omega)]
  dsimp only
  congr 1<;>omega
theorem JW(m i q:Nat):d8 m (SetTable.runEnd m i-i+1) (mJ m i q)=mJ m ((i*5+1+q/32) % (m+1)) (q/32):=by
 rw[xX m _ 1,tU m (SetTable.runEnd m i-i) (mJ m i q) (aij _)];show er m _=_;unfold er mJ;dsimp only;rw[if_neg (by omega)]
theorem R4(m i:Nat):SetTable.runEnd m i-i<=9:=by unfold SetTable.runEnd;split<;>omega
theorem R5(m i:Nat):i<=SetTable.runEnd m i:=by unfold SetTable.runEnd;split<;>omega
theorem Lg{mask:Nat}{owner:Array (Option Nat)}:∀(fuel i q j:Nat),SetTable.layClean.free mask owner fuel i q=ζ j ->
  ∃n,n<10*fuel/\(d8 mask n (mJ mask i q)).j=j/\∀k,k<n->owner.getD (d8 mask k (mJ mask i q)).j (ζ 0)≠θ
 |0,i,q,j,h=>by cases h
 |fuel+1,i,q,j,h=>by
  have h9:=R4 mask i;have hg:=R5 mask i;unfold SetTable.layClean.free at h;cases hr:(η (SetTable.runEnd mask i+1-i)).find? (λk=>(owner.getD (i+k) (ζ 0)).isNone)with
  |some k =>
   rw[hr]at h;dsimp only at h;cases h;have hk:=ain.mp (List.mem_of_find?_eq_some hr);refine⟨k,by omega,?_,λk' hk'=>?_⟩
   ·rw[tU mask k _ (by show k<=SetTable.runEnd mask i-i;omega)]
    rfl
   ·rw[tU mask k' _ (by show k'<=SetTable.runEnd mask i-i;omega)]
    show owner.getD (i+k') (ζ 0)≠θ;intro e;have hb:=List.find?_eq_some_iff_getElem.mp hr;obtain⟨_,n,hn,en,abq⟩:=hb;have en':n=k:=by simpa using en
    have:=abq k' (by omega)
    simp[e]at this
  |none =>
   rw[hr]at h;dsimp only at h;have h:SetTable.layClean.free mask owner fuel ((i*5+1+q/32) % (mask+1)) (q/32)=ζ j:=h;obtain⟨n,hn,ej,hl⟩:=Lg fuel _ _ j h;have hno:=amd.mp hr;refine⟨SetTable.runEnd mask i-i+1+n,by omega,?_,λk hk=>?_⟩
   ·rw[xX,JW];exact ej
   ·by_cases hk2:k<=SetTable.runEnd mask i-i
    ·rw[tU mask k _ hk2];show owner.getD (i+k) (ζ 0)≠θ;intro e;have:=hno k (ain.mpr (by omega))
     simp[e]at this
    ·rw[show k=SetTable.runEnd mask i-i+1+(k-(SetTable.runEnd mask i-i+1)) by omega,xX,JW]
     exact hl _ (by omega)
structure vG (mask:Nat) (owner:Array (Option Nat)) (hs:List Int) (k:Nat):Prop where
 lay:pG mask owner k
 way:∀j i,owner.toList.getD j θ=ζ i->∃h,hs[i]? = ζ h/\Reach mask (λs=>owner.getD s (ζ 0)≠θ) h j
theorem Vm{mask:Nat}{owner:Array (Option Nat)}{k:Nat}(I:pG mask owner k) {s:Nat}(h:s<=mask):(owner.getD s (ζ 0)≠θ)↔(owner.toList.getD s θ≠θ):=by
 have h1:=I.1;rw[iT];have hs:s<owner.toList.length:=by omega
 rw[aiA,aiA,ait hs];rfl
theorem Zq{mask:Nat}{owner:Array (Option Nat)}{hs:List Int}{k:Nat}{h:Int}(hm:iN mask) (hc:nF h) (I:vG mask owner hs k) (hk:k<=mask) (hh:hs[k]? = ζ h) :
  ∃j,SetTable.layClean.free mask owner (SetTable.turns mask) (SetTable.bits h % (mask+1)) (SetTable.bits h)=ζ j/\vG mask (owner.setIfInBounds j (ζ k)) hs (k+1):=by
 obtain⟨h1,h2⟩:=I.lay;have hex:∃j,j<=mask/\owner.getD j (ζ 0)=θ:=by
  by_cases q:∃j,j<=mask/\owner.getD j (ζ 0)=θ
  ·exact q
  ·have:=DH owner.toList λj hj e=>q ⟨j,by omega,by rw[iT];exact e⟩
   have h3:=h2.length_eq;rw[ai8]at h3;omega
 obtain⟨j,e,e1⟩:=By (mask+15) _ _ 0 (SetTable.turns mask) (hc.lay mask hm) (aij _) (λk _ hb=>by simp at hb) hex
 obtain⟨n,hn,ej,hl⟩:=Lg _ _ _ _ e;rw[iT]at e1;have hj:j<owner.toList.length:=by
  rcases akN j owner.toList.length with q|q
  ·exact q
  ·rw[aiA,ake q]at e1;cases e1
 have grow:∀s,owner.getD s (ζ 0)≠θ->(owner.setIfInBounds j (ζ k)).getD s (ζ 0)≠θ:=λs hs=>by
  rw[iT,akO,aiA,amv];split
  ·first|(split<;>simp)|simp
  ·rw[iT,aiA]at hs;exact hs
 refine⟨j,e,⟨⟨by simpa using h1,?_⟩,λs i hs=>?_⟩⟩
 ·rw[akO];refine(DG _ j k hj e1).trans ?_;rw[ajB];exact(h2.cons k).trans (akP k _).symm
 ·rw[akO,aiA,amv]at hs
  by_cases q:j=s
  ·subst q;rw[if_pos rfl,if_pos hj]at hs;have:k=i:=by simpa using hs
   subst this;exact⟨h,hh,n,by unfold SetTable.turns at hn;exact hn,ej,λk' hk'=>grow _ (hl k' hk')⟩
  ·rw[if_neg q]at hs;obtain⟨h',q1,q2⟩:=I.way s i (by rw[aiA];exact hs)
   exact⟨h',q1,q2.mono grow⟩
theorem JY{mask:Nat}(hm:iN mask) (all:List Int):∀(hs:List Int) (owner:Array (Option Nat)) (k:Nat),(∀h∈hs,nF h)->vG mask owner all k->k+hs.length<=mask->(∀i,hs[i]? = all[k+i]?\/hs.length<=i) ->
  ∃ow,hs.foldl (λacc h=>(do
   let(owner,k) <-acc
   let j <-SetTable.layClean.free mask owner (SetTable.turns mask) (SetTable.bits h % (mask+1)) (SetTable.bits h)
   pure (owner.setIfInBounds j (ζ k),k+1):Option (Array (Option Nat)×Nat))) (ζ (owner,k))=ζ (ow,k+hs.length)/\vG mask ow all (k+hs.length)
 |[],owner,k,_,I,_,_=>⟨owner,rfl,I⟩
 |h::hs,owner,k,hh,I,hl,hat=>by
  simp only[aiv]at hl;have h0:all[k]? = ζ h:=by
   rcases hat 0 with q|q
   ·rw[ald]at q;rw[<-q];rfl
   ·simp at q
  obtain⟨j,e,I'⟩:=Zq hm (hh h (.head _)) I (by omega) h0
  obtain⟨ow,e',Gg⟩:=JY hm all hs _ (k+1) (λh x=>hh h (.tail _ x)) I' (by omega) λi=>by
   rcases hat (i+1)with q|q
   ·left;rw[show k+1+i=k+(i+1) by omega,<-q];rfl
   ·right;simpa using q
  refine⟨ow,?_,by rw[aiv,show k+(hs.length+1)=k+1+hs.length by omega];exact Gg⟩
  rw[ajn,aiv,show k+(hs.length+1)=k+1+hs.length by omega,<-e']
  congr 1
  show(do let j <-SetTable.layClean.free mask owner (SetTable.turns mask) (SetTable.bits h % (mask+1)) (SetTable.bits h);pure (owner.setIfInBounds j (ζ k),k+1):Option (Array (Option Nat)×Nat))=_
  rw[e];rfl
theorem Zr{mask:Nat}(hm:iN mask) (hs:Array Int) (hh:∀h∈hs.toList,nF h) (hl:hs.toList.length<=mask) :
  ∃ow,SetTable.layClean mask hs=ζ ow/\vG mask ow hs.toList hs.toList.length:=by
 obtain⟨ow,e,I⟩:=JY hm hs.toList hs.toList (Array.replicate (mask+1) θ) 0 hh ⟨⟨by simp,by simp⟩,λj i h=>by
  rw[Array.toList_replicate,aiA,akv]at h;split at h<;>cases h⟩ (by omega) λi=>.inl (by rw[aiW])
 rw[aiW]at e I;refine⟨ow,?_,I⟩;unfold SetTable.layClean;rw[<-ame];exact congrArg (Option.map (λx:Array (Option Nat)×Nat=>x.1)) e
theorem Sh{t:aam}{es:Array (Int×Ξ)}(hh:∀e∈es.toList,nF e.1) (hm:es.size=5\/es.size=19) :
  ∃t2 order,t.relaid (es.map (·.1)) (SetTable.grown es.size)=ζ (t2,order)/\(order.filterMap (es[·]?)).size=es.size/\jY t2 (order.filterMap (es[·]?))/\t2.led=t.led/\(order.filterMap (es[·]?)).toList.Perm es.toList:=by
 have hw:∃m,SetTable.sizeAbove (SetTable.grown es.size)-1=m/\((m=31/\es.size=5)\/(m=127/\es.size=19)):=by
  rcases hm with e|e
  ·rw[e];exact⟨31,by decide,.inl ⟨rfl,rfl⟩⟩
  ·rw[e];exact⟨127,by decide,.inr ⟨rfl,rfl⟩⟩
 obtain⟨m,ew,hq⟩:=hw;have hs:(es.map (·.1)).toList=es.toList.map (·.1):=by simp
 have hok:iN m:=by unfold iN;omega
 have Dj:∀h∈(es.map (·.1)).toList,nF h:=λh hx=>by
  rw[hs,aik]at hx;obtain⟨y,hy,rfl⟩:=hx;exact hh y hy
 have hln:(es.map (·.1)).toList.length<=m:=by rw[hs,aiu,aiB];omega
 obtain⟨ow,e,⟨h1,h2⟩,aaO⟩:=Zr hok (es.map (·.1)) Dj hln;rw[hs,aiu,aiB]at h2
 let live:List (Nat×Nat):=(η (m+1)).filterMap λj=>(ow.getD j θ).map (j,·)
 have hlive:∀q:Nat×Nat,q∈live↔q.1<=m/\ow.toList.getD q.1 θ=ζ q.2:=λq=>by
  simp only[live,aj5,ain]
  constructor
  ·rintro ⟨c,hc,e⟩
   cases ha:ow.getD c θ<;>rw[ha]at e<;>simp at e
   subst e;exact⟨by show c<=m;omega,by rw[<-iT];exact ha⟩
  ·rintro ⟨h1,h2⟩
   exact⟨q.1,by omega,by rw[iT,h2];rfl⟩
 have hord:(live.map (·.2)).Perm (η es.size):=by
  have:live.map (·.2)=ow.toList.filterMap id:=by
   simp only[live];rw[<-AX,h1,aln]
   congr 1
   funext j
   rw[iT];cases ow.toList.getD j θ<;>rfl
  rw[this];exact h2
 have hup:Up (live.map (·.1)):=by
  show List.Pairwise _ _;rw[ajC];refine amf _ (λa a' hlt b hb b' hb'=>?_) alm
  cases ha:ow.getD a θ<;>rw[ha]at hb<;>simp at hb
  cases ha':ow.getD a' θ<;>rw[ha']at hb'<;>simp at hb'
  rw[<-hb,<-hb'];exact hlt
 have hlen:live.length=es.size:=by
  have:=hord.length_eq
  simpa using this
 have hes:(((live.map (·.2)).toArray).filterMap (es[·]?)).toList.Perm es.toList:=by
  rw[alo];exact(hord.filterMap _).trans (by rw[amg])
 have uQ:(((live.map (·.2)).toArray).filterMap (es[·]?)).size=es.size:=by
  rw[<-aiB,hes.length_eq,aiB]
 have hlt:∀q∈live,q.2<es.size:=λq hq=>ain.mp (hord.mem_iff.mp (aik.mpr ⟨q,hq,rfl⟩))
 have hfm:∀(l:List (Nat×Nat)),(∀q∈l,q.2<es.size)->(l.map (·.2)).filterMap (es[·]?)=l.map λq=>es.toList.getD q.2 (0,.none):=by
  intro l
  induction l with
  |nil=>intro _;rfl
  |cons q l ih =>
   intro hq;have hq0:q.2<es.size:=hq q (.head _);rw[ais,ajQ,ais,ih λy hy=>hq y (.tail _ hy)]
   have:es[q.2]? = ζ (es.toList.getD q.2 (0,.none)):=by
    rw[<-aiS,aiA,ait (by simpa using hq0)]
    rfl
   rw[this]
 refine⟨{mask:=m,place:=(live.map (·.1)).toArray,dummies:=#[],finger:=t.finger,led:=t.led,moves:=t.movedTo m,plain:=t.plain},(live.map (·.2)).toArray,?_,uQ,⟨?_,?_,?_,rfl,?_,?_⟩,rfl,hes⟩
 ·unfold SetTable.relaid SetTable.laid;rw[ew,e];rfl
 ·show((live.map (·.1)).toArray).size=_;rw[uQ,aiw,aiu,hlen]
 ·exact hup
 ·intro j hj;have hj:j∈live.map (·.1):=hj;obtain⟨q,hq,rfl⟩:=aik.mp hj;exact((hlive q).mp hq).1
 ·rw[uQ];exact .inr (by show(m=31/\_)\/(m=127/\_);omega)
 ·intro q hq;have hq:q∈(live.map (·.1)).zip (((live.map (·.2)).toArray).filterMap (es[·]?)).toList:=hq;rw[alo]at hq;have hq:q∈(live.map (·.1)).zip ((live.map (·.2)).filterMap (es[·]?)):=hq;rw[hfm live hlt,List.zip_map',aik]at hq;obtain⟨⟨j,i⟩,hji,rfl⟩:=hq;obtain⟨ya,hjo⟩:=(hlive (j,i)).mp hji;obtain⟨h,hi,hr⟩:=aaO j i hjo;have hil:=hlt (j,i) hji;have:h=(es.toList.getD i (0,.none)).1:=by
   rw[hs,aiL,ait (by simpa using hil)]at hi
   rw[aiA,ait (by simpa using hil)]
   simpa using hi.symm
  subst this;obtain⟨n,hn,ej,hl⟩:=hr;refine⟨n,hn,ej,λk hk=>?_⟩
  have hle:=Nb m (es.toList.getD i (0,.none)).1 k;have:=(Vm (k:=es.size) ⟨h1,h2⟩ hle).mp (hl k hk);show iX m _ k∈live.map (·.1);cases ho:ow.toList.getD (iX m (es.toList.getD i (0,.none)).1 k) θ with
  |none=>exact absurd ho this
  |some i'=>exact aik.mpr ⟨(_,i'),(hlive (_,i')).mpr ⟨hle,ho⟩,rfl⟩
def hT(ks:List Int):Int:=reduceHash (Builtin.Tuple.tupleHashOf (ks.map hashInt))
def dW(ks:List Int):Prop:=∃i j:Nat,i<8/\j<8/\ks=[(i:Int),(j:Int)]
def hP(n:Nat):Int:=hT [((n/8:Nat):Int),((n % 8:Nat):Int)]
def IG(h:Int):Bool:=([7,31,127].all λm=>fQ m (10*(m+15)) (SetTable.bits h % (m+1)) (SetTable.runEnd m (SetTable.bits h % (m+1))-SetTable.bits h % (m+1)) (SetTable.bits h % (m+1)) (SetTable.bits h) 0) && [31,127].all λm=>nk m (m+15) (SetTable.bits h % (m+1)) (SetTable.bits h) 0
theorem af9:((η 64).all λn=>IG (hP n))=Θ:=by decide +kernel
def eqZ(a b:Int):Bool:=match a,b with
 |.ofNat x,.ofNat y=>Nat.beq x y
 |.negSucc x,.negSucc y=>Nat.beq x y
 |_,_=>Ψ
def xM(l:List Int):Bool:=match l with
 |[]=>Θ
 |x::r=>r.all (λy=>!eqZ x y)&&xM r
theorem LB(a:Int):eqZ a a=Θ:=by cases a<;>exact Nat.beq_refl _
theorem agb:xM ((η 64).map hP)=Θ:=by decide +kernel
theorem Ji:∀{l:List Int},xM l=Θ->∀{i k:Nat}{x:Int},l[i]? = ζ x->l[k]? = ζ x->i=k
 |[],_,i,k,x,h,_=>by simp at h
 |y::r,h,i,k,x,h1,h2=>by
  unfold xM at h;rw[aiy,aip]at h;cases i with
  |zero =>
   cases k with
   |zero=>rfl
   |succ k =>
    have e:y=x:=by simpa using h1
    have:=h.1 x (aiP (by simpa using h2))
    rw[e,LB]at this;cases this
  |succ i =>
   cases k with
   |zero =>
    have e:y=x:=by simpa using h2
    have:=h.1 x (aiP (by simpa using h1))
    rw[e,LB]at this;cases this
   |succ k=>rw[Ji h.2 (i:=i) (k:=k) (by simpa using h1) (by simpa using h2)]
theorem dW.num{ks:List Int}(h:dW ks):∃n,n<64/\ks=[((n/8:Nat):Int),((n % 8:Nat):Int)]:=by
 obtain⟨i,j,hi,hj,rfl⟩:=h;refine⟨8*i+j,by omega,?_⟩
 rw[show(8*i+j)/8=i by omega,show(8*i+j) % 8=j by omega]
theorem dW.fQ{ks:List Int}(h:dW ks):nF (hT ks):=by
 obtain⟨n,hn,rfl⟩:=h.num;have:=aip.mp af9 n (ain.mpr hn);unfold IG at this;rw[aiy,aip,aip]at this;refine⟨λm hm=>this.1 m ?_,λm hm=>this.2 m ?_⟩
 ·rcases hm with rfl|rfl|rfl<;>decide
 ·rcases hm with rfl|rfl<;>decide
theorem dW.inj{a b:List Int}(ha:dW a) (hb:dW b) (h:hT a=hT b):a=b:=by
 obtain⟨n,hn,rfl⟩:=ha.num;obtain⟨k,hk,rfl⟩:=hb.num;have h1:((η 64).map hP)[n]? = ζ (hP n):=by rw[aiL,ajD hn];rfl
 have h2:((η 64).map hP)[k]? = ζ (hP n):=by
  rw[aiL,ajD hk];exact congrArg ζ h.symm
 rw[Ji agb h1 h2]
section
variable {prog:τ}{w:ψ}{A:ω}{E:Ξ->ε->Prop}{s:ε}
theorem GP{h:χ}{ks:List Int}{x:Ω}(hu:dW ks) (hx:aaF (intKind prog w) h ks x):∃o a b n,h.get? x=ζ o/\o.cls=.type "tuple"/\o.data=.seq #[a,b] n/\(∃i t,a=.int i t)/\∃i t,b=.int i t:=by
 obtain⟨i,j,_,_,rfl⟩:=hu;obtain⟨o,items,n,h1,h2,h3,h4⟩:=hx;cases hi:items.toList with
 |nil=>rw[hi]at h4;cases h4
 |cons a r =>
  rw[hi]at h4;cases h4 with
  |cons q1 q2 =>
   cases r with
   |nil=>cases q2
   |cons b r2 =>
    cases q2 with
    |cons q3 q4 =>
     cases q4;refine⟨o,a,b,n,h1,h2,?_,?_,?_⟩
     ·rw[h3];congr 1;apply Array.toList_inj.mp;rw[hi]
     ·obtain⟨t,e⟩:=akq q1;exact⟨_,t,e⟩
     ·obtain⟨t,e⟩:=akq q3;exact⟨_,t,e⟩
theorem afe{ks:List Int}{x:Ω}{Q:Bool->ε->Prop}(hu:dW ks) (hx:aaF (intKind prog w) s.heap ks x) (h:∀b,Q b s):wpAny (model prog w) A (hashByValue 8 (.ref x)) Q E s:=by
 obtain⟨o,a,b,n,h1,h2,h3,⟨i,t,rfl⟩,j,u,rfl⟩:=GP hu hx;rw[hashByValue.eq_12];refine aih (wpAny_specialOf (T:="tuple") ⟨o,h1,h2⟩ F.slot_tuple_hash.lookup ?_);dsimp only;refine aih (wpAny_seqItems h1 h3 ?_);dsimp only[Option.getD];refine aih ?_;rw[<-amw];simp only[akB,List.forIn_nil];simp only[alp 7 (x:=.int i t) rfl,alp 7 (x:=.int j u) rfl,plainKind];refine aih (aih (aii ?_));refine aii ?_;refine aih (aih (aii ?_));refine aii ?_;exact aii (aii (h _))
theorem Jf{ks:List Int}{x:Ω}{Q:Bool->ε->Prop}(hu:dW ks) (hx:aaF (intKind prog w) s.heap ks x) (h:Q Ψ s):wpAny (model prog w) A (ofAClassStatement 8 (.ref x)) Q E s:=by
 obtain⟨o,a,b,n,h1,h2,h3,⟨i,t,rfl⟩,j,u,rfl⟩:=GP hu hx;rw[ofAClassStatement.eq_def];dsimp only;refine aih (wpAny_typeOf_ref h1 ?_);rw[h2];dsimp only;simp only[beq_self_eq_true,if_true];refine aih (aii ?_);simp only[aj0,aiU,if_false];refine aih (wpAny_seqItems h1 h3 ?_);dsimp only;refine aih ?_;rw[<-amw];simp only[akB,List.forIn_nil];have e1:ofAClassStatement 7 (.int i t)=pure Ψ:=by rw[ofAClassStatement.eq_def]
 have e2:ofAClassStatement 7 (.int j u)=pure Ψ:=by rw[ofAClassStatement.eq_def]
 rw[e1];refine aih (aih (aii ?_));refine aii ?_;dsimp only;rw[e2];refine aih (aih (aii ?_));refine aii ?_;exact aii (aii h)
theorem XR{ks:List Int}{x:Ω}{Q:Bool->ε->Prop}(hu:dW ks) (hx:aaF (intKind prog w) s.heap ks x) (l:List Ξ) (hl:∀v∈l,∃k y,v=.ref y/\dW k/\aaF (intKind prog w) s.heap k y) (h:Q Ψ s):wpAny (model prog w) A (searchCouldBeSeen (.ref x) l) Q E s:=by
 unfold searchCouldBeSeen;refine aih ?_;have go:∀(l:List Ξ),(∀v∈l,∃k y,v=.ref y/\dW k/\aaF (intKind prog w) s.heap k y)->∀{R:Option Bool×Unit->ε->Prop},R (θ,()) s->wpAny (model prog w) A (forIn l (θ,()) λy __s =>
    have __r:=__s;
    have OT :=
     match(Value.ref x),y with
     |Value.ref a,Value.ref b=>a==b
     |x,x_1=>Ψ;
    if(OT||carriedByValue (.ref x)&&carriedByValue y)=Θ then pure (ForInStep.yield (θ,()))
    else do
     let __do_lift <-eqIsQuiet 8 (.ref x)
     if(!__do_lift)=Θ then pure (ForInStep.done (ζ Θ,()))
      else do
       let __do_lift <-eqIsQuiet 8 y
       if(!__do_lift)=Θ then pure (ForInStep.done (ζ Θ,()))
        else do
         let __do_lift <-ofAClassStatement 8 (.ref x)
         if __do_lift=Θ then pure (ForInStep.done (ζ Θ,()))
          else do
           let __do_lift <-ofAClassStatement 8 y
           if __do_lift=Θ then pure (ForInStep.done (ζ Θ,()))
            else pure (ForInStep.yield (θ,()))) R E s:=by
  intro l
  induction l with
  |nil=>intro _ R hR;exact aii hR
  |cons v l ih =>
   intro hl R hR;obtain⟨k,y,rfl,ku,hy⟩:=hl _ (.head _);have ih:=ih (λv hv=>hl v (.tail _ hv)) (R:=R)
   rw[akB];refine aih ?_;dsimp only
   by_cases q:(x==y||carriedByValue (.ref x)&&carriedByValue (.ref y))=Θ
   ·rw[if_pos q];exact aii (ih hR)
   ·rw[if_neg q];refine aih ((tupleKind (intKind prog w)).quiet hx ?_);simp only[aj0,aiU,if_false];refine aih ((tupleKind (intKind prog w)).quiet hy ?_);simp only[aj0,aiU,if_false];refine aih (Jf hu hx ?_);simp only[aiU,if_false];refine aih (Jf ku hy ?_);simp only[aiU,if_false];exact aii (ih hR)
 exact go l hl (aii h)
end
def eL(ks:List (List Int)) (k:List Int):List (List Int):=if k∈ks then ks else ks++[k]
abbrev rD(q:List Int×Ω):Int×Ξ:=(hT q.1,.ref q.2)
def jD(P:τ) (w:ψ) (Y:Ω->Prop) (h:χ) (a:Ω) (ks:List (List Int)):Prop:=∃o es ep t,∃L:List (List Int×Ω),h.get? a=ζ o/\o.ExactSet/\o.data=.set es ep t/\jY t es/\es.toList=L.map rD/\(∀q∈L,dW q.1/\aaF (intKind P w) h q.1 q.2)/\(L.map (·.1)).Perm ks/\∀q∈L,Y q.2
theorem UH{α β:Type}{f:α->β}:∀{l:List β}{r:List α},l.Perm (r.map f)->∃l2:List α,l=l2.map f/\l2.Perm r:=by
 intro l r h
 generalize hm:r.map f=m at h
 induction h generalizing r with
 |nil =>
  cases r with
  |nil=>exact⟨[],rfl,.refl _⟩
  |cons a r=>cases hm
 |cons x _ ih =>
  cases r with
  |nil=>cases hm
  |cons a r =>
   rw[ais]at hm
   injection hm with h1 h2
   obtain⟨l2,e,p⟩:=ih h2;exact⟨a::l2,by rw[ais,h1,e],p.cons a⟩
 |swap x y l =>
  cases r with
  |nil=>cases hm
  |cons a r =>
   cases r with
   |nil=>simp at hm
   |cons b r =>
    simp only[ais]at hm
    injection hm with h1 h2
    injection h2 with h3 h4
    exact⟨b::a::r,by simp only[ais];rw[h1,h3,h4],.swap a b r⟩
 |trans _ _ ih1 ih2 =>
  obtain⟨l2,e,p⟩:=ih2 hm;obtain⟨l3,e3,p3⟩:=ih1 e.symm;exact⟨l3,e3,p3.trans p⟩
section
variable {prog:τ}{w:ψ}{A:ω}{E:Ξ->ε->Prop}{s:ε}
theorem J5{h h':χ}{a x:Ω}{k:List Int}{o:Obj}{es:Array (Int×Ξ)}{ep:Nat}{t:aam}(hx:aaF (intKind prog w) h k x) (ho:h.get? a=ζ o) (hd:o.data=.set es ep t) (sb:aaV a h h'):aaF (intKind prog w) h' k x:=by
 obtain⟨o',items,n,h1,h2,h3,h4⟩:=hx;have hne:x≠a:=λe=>by
  subst e;rw[ho]at h1;cases h1;rw[hd]at h3;cases h3
 exact⟨o',items,n,by rw[sb.2 x hne];exact h1,h2,h3,h4⟩
theorem abS{t:aam}{es:Array (Int×Ξ)}(I:jY t es):t.gaveWay=Ψ:=by
 unfold SetTable.gaveWay
 rcases I.ok with e|e|e<;>rw[e]<;>rfl
theorem find_key{ks:List (List Int)}{es:Array (Int×Ξ)}{L:List (List Int×Ω)}{k:List Int}{i:Nat}{e:Int×Ξ}(hL:es.toList=L.map rD) (hu:∀q∈L,dW q.1/\aaF (intKind prog w) s.heap q.1 q.2) (hk:dW k) (h1:es[i]? = ζ e) (h2:e.1=hT k) :
  ∃y,e=(hT k,.ref y)/\aaF (intKind prog w) s.heap k y/\k∈L.map (·.1):=by
 have:e∈L.map rD:=by rw[<-hL];exact aiP (by rw[aiS];exact h1)
 obtain⟨q,hq,rfl⟩:=aik.mp this;have e1:=(hu q hq).1.inj hk h2;refine⟨q.2,?_,?_,?_⟩
 ·show(hT q.1,_)=_;rw[e1]
 ·rw[<-e1];exact(hu q hq).2
 ·rw[<-e1];exact aik.mpr ⟨q,hq,rfl⟩
theorem RJ{Y:Ω->Prop}{a x:Ω}{ks:List (List Int)}{k:List Int}{Q:Bool->ε->Prop}(hr:A.units<aba) (hk:dW k) (hx:aaF (intKind prog w) s.heap k x) (hY:Y x) (hS:jD prog w Y s.heap a ks) (hn:ks.length<64)
  (h:∀b h',aaV a s.heap h'->jD prog w Y h' a (eL ks k)->Q b {s with heap:=h'}):wpAny (model prog w) A (setAddHashed a (.ref x) (hT k)) Q E s:=by
 have hS0:=hS;obtain⟨o,es,ep,t,L,ho,hex,hd,I,hL,hu,hp,Kv⟩:=hS;have hsz:es.size=ks.length:=by
  have:=congrArg List.length hL;rw[aiu,aiB]at this;rw[this,<-hp.length_eq,aiu]
 unfold setAddHashed setAddHashedIn;refine aje (aih (ajt ho hd I.fits ?_));dsimp only;rw[show byScan (.ref x) es=Ψ from rfl]
 simp only[aiU,if_false];refine aih ?_;unfold setSearch setSearchFrom;refine aih (ajt ho hd I.fits ?_);dsimp only;rw[abS I];simp only[aiU,if_false]
 by_cases hk2:k∈ks
 ·have hkL:k∈L.map (·.1):=hp.mem_iff.mpr hk2;obtain⟨q,hq,rfl⟩:=aik.mp hkL;have he:rD q∈es.toList:=by rw[hL];exact aik.mpr ⟨q,hq,rfl⟩
  obtain⟨j,i,next,e',uN,h1,h2⟩:=acw I he;obtain⟨y,rfl,hy,_⟩:=find_key (ks:=ks) hL hu hk h1 h2;have hst:eL ks q.1=ks:=by unfold eL;rw[if_pos hk2]
  rw[hst]at h;have fin:∀(ag9:Unit),Q Ψ s:=λ_=>h Ψ s.heap (Heap.SameBut.refl a s.heap) hS0
  split
  ·rename_i met heq;have hm:met=.candidate j i next:=by
    have:=heq.symm.trans uN;cases this;rfl
   subst hm;dsimp only;simp only[h1];have tail:∀{R:SetFound->ε->Prop}{F:Bool->(Array (Int×Ξ)×Nat×aam)->Sem SetFound},R (.there θ) s->wpAny (model prog w) A (do
     let equal <-holding [Value.ref y] (eqBool (.ref y) (.ref x))
     let z <-setState a
     if(Θ&&equal)=Θ then pure (SetFound.there θ)else F equal z) R E s:=fun{R F} hR=>by
    refine aih (aje ((tupleKind (intKind prog w)).eqBool hr hy hx ?_));refine aih (ajt ho hd I.fits ?_);rw[if_pos (by simp)]
    exact aii hR
   cases hl:t.led with
   |false =>
    simp only[aki,if_true];refine aih (XR hk hx _ (λv hv=>?_) ?_)
    ·obtain⟨e,he,rfl⟩:=aik.mp hv;have he:e∈es.toList:=by
      have:=Array.mem_filter.mp (ak4.mp he);exact ak4.mpr this.1
     rw[hL]at he;obtain⟨q',hq',rfl⟩:=aik.mp he;exact⟨q'.1,q'.2,rfl,hu q' hq'⟩
    ·simp only[aiU,if_false];exact tail (aii (fin ()))
   |true =>
    simp only[aj0,aiU,if_false];exact tail (aii (fin ()))
  ·rename_i hne;exact absurd uN (hne _)
 ·have hno:∀e∈es.toList,e.1≠hT k:=λe he z=>by
   rw[hL]at he;obtain⟨q,hq,rfl⟩:=aik.mp he;have:=(hu q hq).1.inj hk z;exact hk2 (hp.mem_iff.mp (aik.mpr ⟨q,hq,this⟩))
  obtain⟨j,uN,hj,ya,hre⟩:=acy I hk.fQ hno;have hst:eL ks k=ks++[k]:=by unfold eL;rw[if_neg hk2]
  rw[hst]at h;split
  ·rename_i met heq;have hm:met=.empty j θ:=by
    have:=heq.symm.trans uN;cases this;rfl
   subst hm;dsimp only;refine aii ?_;dsimp only;refine aih (ajt ho hd I.fits ?_);dsimp only;obtain⟨p1,p2,p3,p4,p5,p6⟩:=SS I (x:=.ref x) hj ya hre;have Aq:∀t1:aam,t1.mask=t.mask->t1.place=(t.put j).1.place->t1.dummies=(t.put j).1.dummies->wpAny (model prog w) A (do
     storeSet a (SetTable.insertAt es (t.put j).snd (hT k,Value.ref x)) t1
     if(!false&&t1.tooFull)=Θ then do
      setRelay a (SetTable.grown (es.size+1))
      pure Θ
     else pure Θ) Q E s:=λt1 m1 m2 m3=>by
    have hsn:(t.put j).snd=SetTable.below t.place j:=rfl;rw[hsn]
    generalize abj:SetTable.insertAt es (SetTable.below t.place j) (hT k,Value.ref x)=es1 at p1 p6
    rw[<-m2,<-m1]at p6;rw[<-m2]at p2 p3 p4;rw[<-m1]at p4;rw[<-m3]at p5;have yg:es1.toList=(L.take (SetTable.below t.place j)++(k,x)::L.drop (SetTable.below t.place j)).map rD:=by
     rw[<-abj,akK,hL,ajs,ais,ajO,alE]
    have Dn:((L.take (SetTable.below t.place j)++(k,x)::L.drop (SetTable.below t.place j)).map (·.1)).Perm (ks++[k]):=by
     refine((alz (a:=(k,x)) (l₁:=L.take (SetTable.below t.place j)) (l₂:=L.drop (SetTable.below t.place j))).map (·.1)).trans ?_;rw[ajM,ais];exact(hp.cons k).trans (akP k ks).symm
    have hu1:∀q∈(L.take (SetTable.below t.place j)++(k,x)::L.drop (SetTable.below t.place j)),dW q.1/\aaF (intKind prog w) s.heap q.1 q.2:=λq hq=>by
     rw[aiK,aio]at hq
     rcases hq with q1|rfl|q1
     ·exact hu q (aiQ q1)
     ·exact⟨hk,hx⟩
     ·exact hu q (akL q1)
    have Dk:∀q∈(L.take (SetTable.below t.place j)++(k,x)::L.drop (SetTable.below t.place j)),Y q.2:=λq hq=>by
     rw[aiK,aio]at hq
     rcases hq with q1|rfl|q1
     ·exact Kv q (aiQ q1)
     ·exact hY
     ·exact Kv q (akL q1)
    generalize L.take (SetTable.below t.place j)++(k,x)::L.drop (SetTable.below t.place j)=L1 at yg Dn hu1 Dk
    have hM:=I.mask;have hz0:(#[]:Array Nat).size=0:=rfl;have hfit:t1.fits es1.size=Θ:=by
     simp only[SetTable.fits,SetTable.fill,p2,p5,p1,hz0,m1,aiy,beq_self_eq_true,true_and,decide_eq_true_eq];omega
    have sl:100<ι:=by decide
    refine aih (akR ho hd ?_ (by omega))
    have m9:=wK (es':=es1) (t':=t1) ho hd;have iB:=ajL s.heap a (Obj.putSet es1 t1);have hk1:∀q∈L1,dW q.1/\aaF (intKind prog w) (s.heap.update a (Obj.putSet es1 t1)) q.1 q.2:=λq hq=>⟨(hu1 q hq).1,J5 (hu1 q hq).2 ho hd iB⟩
    cases hf:t1.tooFull with
    |false =>
     simp only[aki,ak9,aiU,if_false];have hf2:((t1.mask=7/\es1.size<=4)\/(t1.mask=31/\es1.size<=18)\/(t1.mask=127/\es1.size<=76)):=by
      simp only[SetTable.tooFull,SetTable.fill,p2,p5,hz0,m1,decide_eq_false_iff_not]at hf;rw[m1];omega
     exact aii (h Θ _ iB ⟨_,es1,ep+1,t1,L1,m9,hex,rfl,⟨by rw[p2,p1],p3,p4,p5,hf2,p6⟩,yg,hk1,Dn,Dk⟩)
    |true =>
     simp only[aki,Bool.and_self,if_true];have hf2:es1.size=5\/es1.size=19:=by
      simp only[SetTable.tooFull,SetTable.fill,p2,p5,hz0,m1,decide_eq_true_eq]at hf;omega
     have Dj:∀e∈es1.toList,nF e.1:=λe he=>by
      rw[yg]at he;obtain⟨q,hq,rfl⟩:=aik.mp he;exact(hu1 q hq).1.fQ
     obtain⟨t2,order,r1,r2,r3,r4,r5⟩:=Sh (t:=t1) Dj hf2
     generalize uQ:order.filterMap (es1[·]?)=jw at r2 r3 r5
     refine aih ?_;unfold setRelay;refine aih (ajt m9 rfl hfit ?_);dsimp only;have hw:¬SetTable.sizeAbove (SetTable.grown (es.size+1))>ι:=by
      rw[<-p1]
      rcases hf2 with e|e<;>rw[e]<;>decide
     rw[if_neg hw,<-p1,r1];refine aih (akV (show _=pure (jw,t2)from ?_) ?_)
     ·show(if((order.filterMap (es1[·]?)).size != es1.size)=Θ then(do let _ <-unsupported "internal:set-table-lost-an-element";pure (order.filterMap (es1[·]?),t2))else pure (order.filterMap (es1[·]?),t2))=_
      rw[uQ,r2];simp
     ·dsimp only;refine akR m9 rfl ?_ (by omega)
      have aaT:=ajL (s.heap.update a (Obj.putSet es1 t1)) a (Obj.putSet jw t2);have KA:=iB.trans aaT;have ho2:=wK (es':=jw) (t':=t2) m9 rfl;obtain⟨L2,yf,Dq⟩:∃L2:List (List Int×Ω),jw.toList=L2.map rD/\L2.Perm L1:=by
       rw[yg]at r5;exact UH r5
      refine aii (h Θ _ KA ⟨_,jw,ep+1+1,t2,L2,ho2,hex,rfl,r3,yf,λq hq=>?_,(Dq.map _).trans Dn,λq hq=>Dk q (Dq.mem_iff.mp hq)⟩)
      have hq1:=Dq.mem_iff.mp hq;exact⟨(hu1 q hq1).1,J5 (hu1 q hq1).2 ho hd KA⟩
   have mk:(t.put j).1.mask=t.mask:=rfl
   by_cases hpl:(t.put j).fst.plain=Θ
   ·rw[if_pos hpl];refine aih (afe hk hx λb=>?_)
    cases b with
    |true=>exact Aq _ rfl rfl rfl
    |false=>exact Aq _ rfl rfl rfl
   ·rw[if_neg hpl];refine aih (aii ?_);exact Aq _ rfl rfl rfl
  ·rename_i hne;exact absurd uN (hne _)
end
def cP(xs:List (List Int)):List (List Int):=xs.foldl eL []
theorem acg{xs:List (List Int)}{i:Nat}(h:i<xs.length):cP (xs.take (i+1))=eL (cP (xs.take i)) xs[i]:=by
 unfold cP;rw[akS h,akj];rfl
theorem Ln:∀(xs ns:List (List Int)),ns.length<=(xs.foldl eL ns).length
 |[],ns=>aij _
 |x::xs,ns=>by
  have:=Ln xs (eL ns x);have h:ns.length<=(eL ns x).length:=by unfold eL;split<;>simp
  rw[ajn];omega
theorem ach(xs:List (List Int)) (i:Nat):(cP (xs.take i)).length<=(cP xs).length:=by
 have:cP xs=(xs.drop i).foldl eL (cP (xs.take i)):=by
  unfold cP;rw[<-akj,ajM]
 rw[this];exact Ln _ _
section
variable {prog:τ}{w:ψ}{A:ω}{s:ε}{E:Ξ->ε->Prop}
theorem IsTupleKey.at{h h':χ}{k:List Int}{y:Ω}(x:aaF (intKind prog w) h k y) (e:∀o,h.get? y=ζ o->h'.get? y=ζ o):aaF (intKind prog w) h' k y :=
 let⟨o,it,n,h1,r⟩:=x;⟨o,it,n,e o h1,r⟩
theorem jD.at{Y:Ω->Prop}{h h':χ}{a:Ω}{ks:List (List Int)}(x:jD prog w Y h a ks) (k:∀b,(b=a\/Y b)->∀o,h.get? b=ζ o->h'.get? b=ζ o):jD prog w Y h' a ks :=
 let⟨o,es,ep,t,L,ho,h1,h2,h3,h4,h5,h6,h7⟩:=x
 ⟨o,es,ep,t,L,k a (.inl rfl) o ho,h1,h2,h3,h4,λq hq=>⟨(h5 q hq).1,IsTupleKey.at (h5 q hq).2 (k q.2 (.inr (h7 q hq)))⟩,h6,h7⟩
theorem RH{R:abI->ε->Prop}{I:Ω}{fp wr:List Ω}{G:Array abc->Array abc->Prop}{P:Nat->Ξ->Prop}{St:Nat->ε->Prop}{xs:List (List Int)}{ys:List Ω}(hys:ys.length=xs.length)
  (W:WalksS prog w A.in1 I fp wr G xs.length P St) (S:Ω) (hSf:S∉fp) (hval:∀(i:Nat) v,(hi:i<xs.length)->P i v->v=Value.ref (ys[i]'(by omega))) (hx:∀x∈xs,dW x) (C8:∀y∈ys,y≠S/\y∉wr) (h64:(cP xs).length<64) (hr:A.in1.units<aba) :
  ∀(k i:Nat) (s:ε),xs.length-i=k->i<=xs.length->St i s->jD prog w (·∈ys) s.heap S (cP (xs.take i))->(∀j,(hj:j<xs.length)->aaF (intKind prog w) s.heap xs[j] (ys[j]'(by omega))) ->
   (∀s',Moved (S::wr) G s s'->jD prog w (·∈ys) s'.heap S (cP xs)->R (.ok (.ret .none)) s') ->
   codeAny (model prog w) A (.builtin "set.update.loop" ⟨[.ref S,.ref I],[]⟩) R s:=by
 have ye:S∉wr:=λh=>hSf (W.sub _ h)
 have hup:∀b∈wr,b∈S::wr:=λb hb=>.tail _ hb
 have KP:∀b,(b=S\/b∈ys)->b∉wr:=λb hb=>hb.elim (λe=>e▸ye) λm=>(C8 b m).2
 intro k
 induction k with
 |zero =>
  intro i s hk hi st hS hK hR;cases(show i=xs.length by omega)
  refine ajr akT ?_;rw[akk ajY _];show wpAny _ A.in1 (pyNext (.ref I) >>= _) _ _ s;refine aih (W.done s _ _ st λs' hm=>?_)
  rw[ajZ]at hS;exact aii (hR s' (hm.mono hup) (hS.at λb hb o e=>hm.heap b _ (KP b hb) e))
 |succ k ih =>
  intro i s hk hi st hS hK hR;have hlt:i<xs.length:=by omega
  have ou:i<ys.length:=by omega
  refine ajr akT ?_;rw[akk ajY _];show wpAny _ A.in1 (pyNext (.ref I) >>= _) _ _ s;refine aih (W.item i s _ _ hlt st λv s' hP st' hm=>?_)
  cases hval i v hlt hP;have hS':jD prog w (·∈ys) s'.heap S (cP (xs.take i)):=hS.at λb hb o e=>hm.heap b _ (KP b hb) e
  have Dr:∀j,(hj:j<xs.length)->aaF (intKind prog w) s'.heap xs[j] (ys[j]'(by omega)):=λj hj=>IsTupleKey.at (hK j hj) λo e=>hm.heap _ _ ((C8 _ (aiJ (by omega))).2) e
  show wpAny _ A.in1 (holding [Value.ref ys[i]] (setAdd S (.ref ys[i])) >>= _) _ _ s';refine aih (aje ?_);unfold setAdd;refine aje (aih ((tupleKind (intKind prog w)).pyHash (k:=xs[i]) hr (Dr i hlt) ?_));have hl:(cP (xs.take i)).length<64:=akb (ach xs i) h64;refine RJ (Y:=(·∈ys)) (s:={s' with toks:=s'.toks+(tupleKind (intKind prog w)).draws xs[i]}) (k:=xs[i]) hr (hx _ (aiJ hlt)) (Dr i hlt) (aiJ ou) hS' hl λb h' iB kM=>?_
  rw[<-acg hlt]at kM;refine aii ⟨alq ajY _,ih (i+1) _ (by omega) hlt (W.frame _ s' _ _ st' (ajT _ _) λb hb o e=>?_) kM (λj hj=>?_) λs'' De Dm=>?_⟩
  ·rw[iB.2 b (λq:b=S=>hSf (q▸hb))];exact e
  ·exact IsTupleKey.at (Dr j hj) λo e=>by
    show h'.get? _=ζ o;rw[iB.2 _ (C8 _ (aiJ (by omega))).1];exact e
  ·refine hR s'' (Moved.trans W.gtrans ((hm.mono hup).then_heap (ajT _ _) λb o hb e=>?_) De) Dm
   rw[iB.2 b (λq:b=S=>hb (q▸.head _))];exact e
theorem acM(Y:Ω->Prop) {h:χ}{a:Ω}(e:h.get? a=ζ (cK w)):jD prog w Y h a [] :=
 ⟨_,#[],0,_,[],e,⟨rfl,rfl,rfl⟩,rfl,⟨rfl,.nil,λj h=>by simp[SetTable.fresh]at h,rfl,.inl ⟨rfl,by simp⟩,λq hq=>by simp[SetTable.fresh]at hq⟩,rfl,λq hq=>(by cases hq),.refl _,λq hq=>(by cases hq)⟩
set_option maxHeartbeats 3200000 in
theorem RE{l:Ω}{items:Array Ξ}{xs:List (List Int)}{ys:List Ω}{Q:Ξ->ε->Prop}(hys:ys.length=xs.length) (hh:A.handled=θ) (hl:s.heap.IsList l items) (hi:items.toList=ys.map Value.ref) (hK:∀j,(hj:j<xs.length)->aaF (intKind prog w) s.heap xs[j] (ys[j]'(by omega))) (hx:∀x∈xs,dW x) (h64:(cP xs).length<64) (hr:A.in1.in1.in1.units<aba)
  (h:∀(h':χ) (tk:Nat),jD prog w (·∈ys) h' s.heap.objs.size (cP xs)->(∀b o,b<s.heap.objs.size->s.heap.get? b=ζ o->h'.get? b=ζ o)->Q (.ref s.heap.objs.size) {s with heap:=h',toks:=tk}) :
  wpAny (model prog w) A (call (.type "set") [.ref l]) Q E s:=by
 obtain⟨c,tl,KG⟩:=aiF.mro;have hmade:=aiF.made;have hsub:=aiF.sub;refine aj8 (akU (show wpAny _ _ (callAny (.type "set") _) _ _ _ from ?_))
 refine aii ⟨akH _ (by decide +kernel),ajr alr ?_⟩
 rw[als (alu "set" [.ref l] []) rfl];have h1:=aiF.notType;have h2:=aiF.canCreate;have hct:=alv (.ref l)
 repeat any_goals (first|assumption|wp_step)
 refine aji (AF (.ref l) (E:=E) (Q₁:=λobj s₁=>obj=.ref s.heap.objs.size/\s₁={s with heap:=s.heap.push (cK w)}) ⟨rfl,rfl⟩) λr s₁ hr=>?_
 cases r with
 |error e=>exact hr
 |ok fl =>
  cases fl with
  |ret obj =>
   obtain⟨rfl,rfl⟩:=hr;have hS:(s.heap.push (cK w)).get? s.heap.objs.size=ζ (cK w):=aiI _ rfl;have hT:abG {s with heap:=s.heap.push (cK w)} (.ref s.heap.objs.size) "set":=⟨_,hS,rfl⟩
   have hli:=aiF.init.lookup;have hbi:=aiF.init.bind (.ref s.heap.objs.size)
   repeat any_goals (first|assumption|wp_step)
   refine aji (akh (R:=wants (λr s₂=>r=.none/\∃h' tk,s₂={s with heap:=h',toks:=tk}/\jD prog w (·∈ys) h' s.heap.objs.size (cP xs) /\
     (∀b o,b<s.heap.objs.size->s.heap.get? b=ζ o->h'.get? b=ζ o)) E) aiF.init.plain alw (alx hT ?_)) λr₂ s₂ jt=>?_
   ·obtain⟨ol,kK,hcl,nl,hdl⟩:=hl;obtain⟨IQ,uq,IK,um⟩:=ol;simp only at hcl hdl;subst hcl;subst hdl;have m8:(s.heap.push (cK w)).get? l=ζ {cls:=.type "list",dict:=uq,data:=.seq items nl,slots:=um}:=air _ kK;have Ky:=ami;have Kz:=amj;have hne:(Value.type "list"==Value.type "dict")=Ψ:=by decide
    have hl1:(s.heap.push (cK w)).IsList l items:=⟨_,m8,rfl,nl,rfl⟩;unfold cK at hS hT m8 ⊢;unfold Builtin.«set.__init__» noKeywords Builtin.Frozenset.updateFrom
    generalize uS:pyIter=PI
    wp_walk
    subst uS;refine aks hl1 (aih (aly ?_));have hlS:l<s.heap.objs.size:=aim kK;have hlen:items.size=xs.length:=by
     have:=congrArg List.length hi;rw[aiu,aiB]at this;omega
    have uP:l≠(s.heap.push (cK w)).objs.size:=by rw[ai0];exact aiq (ajj hlS)
    have hSf:s.heap.objs.size∉[(s.heap.push (cK w)).objs.size,l]:=by
     rw[ai0];simp only[aio,aiE,or_false,not_or];exact⟨aiq (ajf _),ajc hlS⟩
    have W:=(Walks.list (prog:=prog) (w:=w) (A:=A.in1.in1.in1) (by simp[hh]) (s.heap.push (cK w)).objs.size l uP items).toS
    rw[hlen]at W;have hyo:∀y∈ys,∃k,aaF (intKind prog w) s.heap k y:=λy hy=>by
     obtain⟨j,hj,rfl⟩:=ajK hy;exact⟨_,hK j (by omega)⟩
    have hyl:∀y∈ys,y<s.heap.objs.size/\y≠l:=λy hy=>by
     obtain⟨k,o,it,n,q1,q2,q3,q4⟩:=hyo y hy;refine⟨aim q1,λe=>?_⟩
     subst e;rw[kK]at q1;cases q1
     injection q2 with z
     exact absurd z (by decide)
    refine RH (xs:=xs) (ys:=ys) hys W s.heap.objs.size hSf (λi v hi' hv=>?_) hx (λy hy=>?_) h64 hr xs.length 0 _ (by omega) (ajk _) ⟨⟨_,aiI _ rfl,rfl,rfl⟩,hl1.push _⟩ (acM _ (air _ hS)) (λj hj=>IsTupleKey.at (hK j hj) λo e=>air _ (air _ e)) λs' hm hS'=>?_
    ·have hv:items[i]? = ζ v:=hv;rw[<-aiS,hi,aiL,ait (by omega)]at hv
     simpa using hv.symm
    ·have:=hyl y hy;rw[ai0];simp only[aio,aiE,or_false];exact⟨aiq this.1,λz=>by first|exact absurd z (aiq (ajj this.1))|exact z.elim (λz=>absurd z (aiq (ajj this.1))) this.2⟩
    ·obtain⟨h',g',d',tk',os'⟩:=s';cases(show g'=s.gens from hm.gens)
     cases(show d'=s.drawn from hm.drawn)
     cases(show os'=s.os from hm.os)
     refine aii (aii ⟨rfl,h',tk',rfl,hS',λb o hb e=>?_⟩)
     exact hm.heap b o (by rw[ai0];simp only[aio,aiE,or_false,not_or];exact⟨aiq hb,aiq (ajj hb)⟩) (air _ (air _ e))
   ·cases r₂ with
    |error e=>exact jt
    |ok uZ =>
     cases uZ with
     |ret r =>
      obtain⟨rfl,h',tk,rfl,hS',hk'⟩:=jt
      repeat any_goals (first|assumption|wp_step)
      exact h _ _ hS' hk'
     |_=>exact jt.elim
  |_=>exact hr.elim
end
def AG(P:τ) (w:ψ) (a:Ω) (n:Nat):χ->Prop:=λh=>∃o es ep t,h.get? a=ζ o/\o.ExactSet/\o.data=.set es ep t/\t.fits es.size=Θ/\es.size=n
def nR:D->Option (List Int)
 |.tup [.int i,.int j]=>if 0<=i/\i<8/\0<=j/\j<8 then ζ [i,j]else θ
 |_=>θ
def ko:List D->Option (List (List Int))
 |[]=>ζ []
 |d::l=>match nR d,ko l with
  |some k,ζ r=>ζ (k::r)
  |_,_=>θ
theorem Tq{d:D}{k:List Int}(h:nR d=ζ k):dW k/\∃i j,k=[i,j]/\d=.tup [.int i,.int j]:=by
 unfold nR at h;split at h
 ·rename_i i j;split at h
  ·rename_i hb;cases h;exact⟨⟨i.toNat,j.toNat,by omega,by omega,by rw[show((i.toNat:Nat):Int)=i by omega,show((j.toNat:Nat):Int)=j by omega]⟩,i,j,rfl,rfl⟩
  ·cases h
 ·cases h
section
variable {X:Cx}
def Sk(X:Cx):List V->Hp->VK->Prop:=λxs H Q=>∃a ys ks,xs=[.ref a]/\bJ X.K H a (ys.map V.ref)/\abp (fun(y:Ω) (k:List Int)=>dW k/\H y=ζ (.tup (k.map V.int))) ys ks/\(cP ks).length<64/\∀p,H p=θ->Q (.ref p) (upd H p (.ext (AG X.prog X.w p (cP ks).length)))
theorem Im{α β:Type}{R:α->β->Prop}:∀{l:List α}{r:List β},abp R l r->l.length=r.length
 |_,_,.nil=>rfl
 |_,_,.cons _ q=>congrArg (· + 1) (Im q)
theorem A3{α β:Type}{R:α->β->Prop}:∀{l:List α}{r:List β},abp R l r->∀(j:Nat) (h1:j<l.length) (h2:j<r.length),R l[j] r[j]
 |_,_,.nil,_,h,_=>absurd h (akI _)
 |_,_,.cons p q,0,_,_=>p
 |_,_,.cons p q,j+1,h1,h2=>A3 q j (by simpa using h1) (by simpa using h2)
theorem ZG{pins:List (Ω×Obj)}{σ:St}{H:Hp}{s:ε}{y:Ω}{i j:Int}(I:Inv X pins σ H s) (h:H y=ζ (.tup [.int i,.int j])):aaF (intKind X.prog X.w) s.heap [i,j] y:=by
 obtain⟨_,its,hv,o,h1,h2,⟨n,h3⟩,_⟩:=I.hok y _ h;cases hv with
 |cons r1 r2 =>
  cases r2 with
  |cons r3 r4 =>
   cases r4;obtain⟨t1,rfl⟩:=r1;obtain⟨t2,rfl⟩:=r3;exact⟨o,_,n,h1,h2,h3,.cons (by simp[intKind,Value.isInt]) (.cons (by simp[intKind,Value.isInt]) .nil)⟩
theorem GG:∀{ys:List Ω}{us:List Ξ},Vals (ys.map V.ref) us->us=ys.map Value.ref
 |[],_,.nil=>rfl
 |y::ys,_,.cons e r=>by cases e;rw[GG r];rfl
theorem aep(hu:X.A.units+64<aba) (hc:X.calm=Θ:=by rfl):dI X (.type "set") (Sk X):=by
 intro pins s σ H xs us Q I rv h;obtain⟨a,ys,ks,rfl,sq,hp,h64,q⟩:=h;obtain⟨u,rfl,ru⟩:=vals1 rv;cases ru;obtain⟨its,ri,pl,hz⟩:=I.list sq;have hl:=Im hp;refine RE (xs:=ks) (ys:=ys) hl (I.ok.hd hc) pl.isList (by simpa using GG ri) (λj hj=>?_) (λx hx=>?_) h64 (by show X.A.units+1+1+1<aba;omega) λh' tk hS kp=>?_
 ·obtain⟨⟨i',j',_,_,e⟩,hH⟩:=A3 hp j (by omega) hj
  rw[e]at hH ⊢;exact ZG I hH
 ·obtain⟨j,hj,rfl⟩:=ajK hx;exact(A3 hp j (by omega) hj).1
 ·have hf:H s.heap.objs.size=θ:=I.hok.fresh (aij _);obtain⟨o,es,ep,t,L,ho,hex,hd,IT,hL,_,jS,_⟩:=hS;have hn:es.size=(cP ks).length:=by
   have:=congrArg List.length hL;rw[aiu,aiB]at this;rw[this,<-jS.length_eq,aiu]
  refine⟨.ref s.heap.objs.size,upd H s.heap.objs.size (.ext (AG X.prog X.w s.heap.objs.size (cP ks).length)),I.laid (t':=tk) (λb u e=>kp b u (aim e) e) (aij _) ?_,rfl,q _ hf⟩
  exact⟨⟨o,es,ep,t,ho,hex,hd,IT.fits,hn⟩,⟨o,ho⟩,λh1 h2 ⟨o,es,ep,t,ho,r⟩ k=>⟨o,es,ep,t,k o ho,r⟩⟩
def Sx(X:Cx):List V->Hp->VK->Prop:=λxs H Q=>∃a n,xs=[.ref a]/\H a=ζ (.ext (AG X.prog X.w a n))/\(n:Int)<2^63/\Q (.int (n:Nat)) H
theorem aer:dI X (.builtin "len") (Sx X):=by
 intro pins s σ H xs us Q I rv h;obtain⟨a,n,rfl,hH,hn,q⟩:=h;obtain⟨u,rfl,ru⟩:=vals1 rv;cases ru;obtain⟨⟨o,es,ep,t,ho,hex,hd,hf,he⟩,_,_⟩:=I.hok a _ hH;subst he;exact call_len_set ho hex hd hf hn ⟨.int _,H,I.tok _,⟨_,rfl⟩,q⟩
def kR(a:aj):af:=λe c=>(a e c).bind λxs c=>match xs with
 |[x]=>match eS c x with
  |some l=>match ko l with
   |some ks=>if(cP ks).length<64 then .ok (.int (cP ks).length) c else .bad
   |none=>.bad
  |none=>.bad
 |_=>.bad
theorem HV{K:Δ}{ρ:List Ω}{H:Hp}:∀{l:List D}{vs:List V}{ks:List (List Int)},aN K ρ H l vs->ko l=ζ ks->∃ys:List Ω,vs=ys.map V.ref/\abp (fun(y:Ω) (k:List Int)=>dW k/\H y=ζ (.tup (k.map V.int))) ys ks
 |[],vs,ks,r,h=>by
  cases h;have:vs=[]:=by simpa[aN]using r
  exact⟨[],this,.nil⟩
 |d::l,vs,ks,r,h=>by
  unfold ko at h;split at h
  ·rename_i k rk h1 h2;cases h;obtain⟨v,vr,rfl,rd,rr⟩:=r;obtain⟨hu,i,j,rfl,rfl⟩:=Tq h1;obtain⟨y,ws,rfl,hy,rw⟩:=rd;obtain⟨v1,r1,rfl,e1,rw⟩:=rw;obtain⟨v2,r2,rfl,e2,rw⟩:=rw;cases rw;cases e1;cases e2;obtain⟨ys,rfl,p⟩:=HV rr h2;exact⟨y::ys,rfl,.cons ⟨hu,hy⟩ p⟩
  ·cases h
theorem U8{e:π}{da:aj}{p1 p2 q1 q2:Pos}(hu:X.A.units+64<aba) (ha:eH X [e] da) (hm:X.mg "len"=θ) (hm2:X.mg "set"=θ) (hg:Gl X "len":=by rfl) (ju:Gl X "set":=by rfl) (hc:X.calm=Θ:=by rfl)
  (he:μ [e] X.env=(Ψ,eval e X.env)::μ [] X.env:=by exact bT rfl):aV X (.Call (.Name "len" p1) [.Call (.Name "set" p2) [e] [] q2] [] q1) (kR da):=by
 have uM:PE X (.Call (.Name "set" p2) [e] [] q2) _:=mO (aep hu hc) ju hm2 (by decide +kernel) ha (by decide) (by decide) he (by exact eB rfl)
 refine(wN aer hg hm (by decide +kernel) (jg uM jf (bT rfl)) (by decide) (by decide) (by exact bT rfl) (by exact eB rfl)).imp λσ H Q h=>?_
 obtain⟨ρ,e,c,W,V,p⟩:=h;refine⟨ρ,e,c,W,V,post.bind p λxs c1 aJ H1 vs ex W1 X1 r1 p1=>?_⟩
 clear ex;split at p1
 ·rename_i x;obtain⟨v,r,rfl,hx,hr⟩:=r1;cases hr;split at p1
  ·rename_i l hl;split at p1
   ·rename_i ks hn;split at p1
    ·rename_i hb;obtain⟨a,vs,rfl,ha',rl⟩:=qX W1 hx hl;obtain⟨ys,rfl,hp⟩:=HV rl hn;refine⟨a,ys,ks,rfl,bJ.of ha',hp,hb,λq hq=>?_⟩
     refine⟨q,(cP ks).length,rfl,gi,?_,?_⟩
     ·omega
     ·exact p1 aJ _ _ (W1.fresh hq) (Ext.fresh W1 hq) rfl
    ·exact p1.elim
   ·exact p1.elim
  ·exact p1.elim
 ·exact p1.elim
end
@[simp] theorem agU(a:aj) (e:Ev) (c:aa):kR a e c=(a e c).bind λxs c=>match xs with
 |[x]=>match eS c x with
  |some l=>match ko l with
   |some ks=>if(cP ks).length<64 then .ok (.int (cP ks).length) c else .bad
   |none=>.bad
  |none=>.bad
 |_=>.bad:=rfl
section
variable {X:Cx}{es':List π}{kt:Nat}{pt:Pos}
theorem UA{a:π}{ta:TA}{p pos:Pos}(hg:Gl X "enumerate") (hm:X.mg "enumerate"=θ) (ha:PA X [a] ta) (hs:μ [a] X.env=[(Ψ,eval a X.env)]:=by rfl) :
  PI X (.Tuple es' kt pt) (.Call (.Name "enumerate" p) [a] [] pos) (aaL (bJ X.K) ta):=by
 intro pins s σ H R I h;refine Call_ (om I hg hm boot_enumerate (aj4 (br (ha pos pins s σ H _ I h) λus s1 ⟨vs,H1,I1,r1,q1⟩=>?_) hs rfl))
 obtain⟨a1,e,⟨xs,q1⟩,q⟩:=q1;subst e;cases r1 with
 |cons r rr =>
  cases rr;cases r;obtain⟨us,ru,pu,lu⟩:=I1.list q1;refine call_enumerate_list pu.isList λh' hz t1 _ kp=>wpAny_pyIter_enum hz ?_
  generalize hn:s1.heap.objs.size=n at hz t1
  refine⟨n+1,_,_,_,H1,rfl,I1.kept (t':=s1.toks) kp,Pa RL a1 (n+1) n (ajc (ajf _)),⟨⟨_,hz⟩,t1⟩,λb hb=>?_,q⟩
  refine Oh I1 hn b ?_;simp only[aio,aiE,or_false]at hb
  rcases hb with rfl|rfl<;>simp
end
def oN(a:aj):Ev->aa->R Src:=λe c=>(a e c).bind λxs c=>match xs with
 |[.lst l]=>.ok ⟨l.mapIdx λi x=>.tup [.int i,x],λ_=>True⟩ c
 |_=>.bad
section
variable {X:Cx}{K:Δ}{ρ:List Ω}{H:Hp}
theorem aai{l:List D}{a:Ω}{st:aa->Prop}(h:∀ρ' H' c',Wd K ρ' H' c'->Ext ρ H ρ' H'->st c'->∃xs,bJ K H' a xs/\aN K ρ' H' l xs):JS K ρ H ⟨l.mapIdx λi x=>.tup [.int i,x],st⟩ (Gf (bJ K) a):=by
 intro ρ' H' c' W E s i;obtain⟨xs,q,r⟩:=h ρ' H' c' W E s;refine⟨λd hd=>?_,λe=>⟨xs,q,?_⟩⟩
 ·have hd:(l.mapIdx λi x=>D.tup [.int i,x])[i]? = ζ d:=hd
  rw[List.getElem?_mapIdx]at hd;cases e1:l[i]? with
  |none=>rw[e1]at hd;cases hd
  |some x =>
   rw[e1]at hd;cases hd;obtain⟨v,hv,rv⟩:=r.get e1;refine⟨⟨xs,v,q,hv⟩,λz H2 hz=>?_⟩
   obtain⟨t,v',rfl,ht,rfl,hz⟩:=hz;have z1:=hz xs q;rw[hv]at z1;cases z1;exact⟨W.fresh ht,Ext.fresh W ht,t,[.int i,v],rfl,gi,.int i,[v],rfl,rfl,v,[],rfl,Rel.mono W (Ext.fresh W ht) _ _ rv,rfl⟩
 ·have e:i=(l.mapIdx λi x=>D.tup [.int i,x]).length:=e
  rw[List.length_mapIdx]at e;rw[r.length];exact e
theorem aaE{es:List π}{k:Nat}{pt:Pos}{a:π}{da:aj}{p pos:Pos}(ha:eH X [a] da) (hm:X.mg "enumerate"=θ) (hg:Gl X "enumerate":=by rfl) (hs:μ [a] X.env=[(Ψ,eval a X.env)]:=by exact tH rfl) :
  PId X (.Tuple es k pt) (.Call (.Name "enumerate" p) [a] [] pos) (oN da):=(UA hg hm ha hs).imp λσ H Q h=>by
 obtain⟨ρ,e,c,W,V,p⟩:=h;refine⟨ρ,e,c,W,V,post.bind p λx c1 aJ H1 v _ W1 X1 r1 p1=>?_⟩
 split at p1
 ·obtain⟨y,ys,rfl,ry,rs⟩:=r1;cases rs;obtain⟨a1,xs,rfl,s1,t1⟩:=ry;exact⟨a1,rfl,⟨xs,bJ.of s1.1⟩,p1.here W1 (aai λρ' H' c' W' E _=>⟨xs,bJ.of (Bu E s1).1,aN.mono W1 E _ _ t1⟩)⟩
 ·exact p1.elim
end
end L2
namespace Ev
open PySem L2 PyProof.Rows
def top(i:Nat):aaM:=PySem.Challenge.pw_evenwebs_k56_no_nets_refused.main.body.getD i (.Pass ⟨0,0,0,0⟩)
abbrev qw:aaM:=top 14
abbrev qv:aaM:=top 15
abbrev qz:aaM:=top 24
abbrev qA:aaM:=top 25
abbrev qx:aaM:=top 26
abbrev pR:aaM:=top 27
abbrev pW:aaM:=top 28
abbrev qB:aaM:=top 30
abbrev qy:aaM:=top 31
abbrev pS:aaM:=top 32
abbrev pU:aaM:=top 34
abbrev pV:aaM:=top 35
abbrev pT:aaM:=top 36
abbrev qt:aaM:=top 38
abbrev qg:aaM:=top 39
abbrev pY:aaM:=top 40
abbrev qk:aaM:=top 41
abbrev qe:aaM:=top 42
abbrev qp:aaM:=top 43
abbrev qb:aaM:=top 44
abbrev qj:aaM:=top 45
abbrev pZ:aaM:=top 46
abbrev ql:aaM:=top 47
abbrev qm:aaM:=top 48
abbrev qd:aaM:=top 49
abbrev p7:aaM:=top 50
abbrev qc:aaM:=top 51
abbrev qi:aaM:=top 52
abbrev qq:aaM:=top 53
abbrev qa:aaM:=top 54
abbrev p8:aaM:=top 55
abbrev qo:aaM:=top 56
abbrev p9:aaM:=top 57
abbrev pX:aaM:=top 58
abbrev qu:aaM:=top 59
def dR:List Str:=["NoWeb","NoText","NoNumbers","NoField","NoThing","NoSquare","NoPlaces","TooMany","NoName","NoDeed","NoRow"]
def iD:ah :=
 (aP (gf (aE bO (ao (ak 0) (ao (dC (.ty "int")) aq))) (EL (aE bO (ao (ak 0) (ao (dC (.ty "bool")) aq))))))
def jm:List D->aa->R D:=bU 1 Ψ iD
def gW:ah :=
 (aP (gf (aA 1 jm (ao (ak 0) aq)) (oO kH kH (ak 1) (ak 0) (ak 2))))
def d7:List D->aa->R D:=bU 3 Ψ gW
def sG:ah :=
 (aD (b8 (fO (dQ (aT (aE bO (ao (ak 0) (ao (dC (.ty "tuple")) aq))))) (aT (au eZ (aE aU (ao (ak 0) aq)) (ak 1)))) (aP (dC (.bl Ψ))) ck) (aP (gf (aE fh (ao (aW (c8 (ak 0)) [θ,ζ 1] (aB 0) aO (aA 3 d7 (ao (ak 0) (ao (dC (.int 0)) (ao (au bq (ak 1) (dC (.int 1))) aq))))) aq)) (au bD (rL (ao (ak 0) aq)) (ak 1)))))
def fK:List D->aa->R D:=bU 2 Ψ sG
def sH:ah :=
 (aP (aE cA (ao (aW (c8 (ak 0)) [θ,ζ 1] (aB 0) aO (au aH (ak 0) (ak 1))) aq)))
def jO:List D->aa->R D:=bU 2 Ψ sH
def pD:ah :=
 (aD (b8 (fO (dQ (aT (aE bO (ao (ak 0) (ao (dC (.ty "tuple")) aq))))) (dQ (aT (oO kH kH (dC (.int 1)) (aE aU (ao (ak 0) aq)) (dC (.int 7)))))) (aP (dC (.bl Ψ))) ck) (aD (aF 1 (aE aU (ao (ak 0) aq))) (aD (b8 (dQ (aT (aE fh (ao (aW (c8 (ak 0)) [θ,ζ 1] (aB 0) aO (aA 2 fK (ao (ak 0) (ao (ak 1) aq)))) aq)))) (aP (dC (.bl Ψ))) ck) (aP (aE fh (ao (aW (bh (ao (ak 1) aq)) [θ,ζ 1,ζ 0] (aB 0) aO (aA 2 fK (ao (aA 2 jO (ao (ak 2) (ao (ak 0) aq))) (ao (ak 1) aq)))) aq))))))
def iS:List D->aa->R D:=bU 2 Ψ pD
def oY:ah :=
 (aP (au aH (au aH (ak 0) (au gw (ak 1) (aE aU (ao (ak 0) aq)))) (au bL (ak 1) (aE aU (ao (ak 0) aq)))))
def e7:List D->aa->R D:=bU 2 Ψ oY
def kX:ah :=
 (aD (aF 2 (au bg (aE aU (ao (ak 0) aq)) (aE aU (ao (ak 0) aq)))) (aP (au bD (kR (ao (aW (bh (ao (ak 2) aq)) [θ,ζ 0,ζ 1] (aB 0) aO (bV (ao (aA 2 e7 (ao (ak 1) (ao (ak 0) aq))) (ao (aA 2 e7 (ao (ak 2) (ao (ak 0) aq))) aq)))) aq)) (ak 2))))
def kD:List D->aa->R D:=bU 3 Ψ kX
def k6:ah :=
 (aD (cz (oN (ao (ak 0) aq)) (gH 2 (dF (aB 1) (dF (aB 2) gS))) (b8 (dQ (aT (aE fh (ao (aW (c9 (eU (ak 0) eW (eV (ak 1)))) [θ,ζ 2] (aB 0) aO (aA 2 kD (ao (ak 1) (ao (ak 0) aq)))) aq)))) (aP (dC (.bl Ψ))) ck)) (aP (dC (.bl Θ))))
def mU:List D->aa->R D:=bU 3 Ψ k6
def iE:ah :=
 (aD (b8 (fO (dQ (aT (aA 3 d7 (ao (ak 0) (ao (dC (.int 2)) (ao (dC (.int 7)) aq)))))) (fO (dQ (aT (aE bO (ao (ak 1) (ao (dC (.ty "list")) aq))))) (aT (au oF (aE aU (ao (ak 1) aq)) (au bq (ak 0) (dC (.int 1))))))) (aP (dC (.bl Ψ))) ck) (aP (gf (aE fh (ao (aW (c9 (ak 1)) [θ,ζ 0] (aB 0) aO (gf (aA 1 iS (ao (ak 0) aq)) (au bD (aE aU (ao (ak 0) aq)) (ak 1)))) aq)) (aA 1 mU (ao (ak 1) aq)))))
def oi:List D->aa->R D:=bU 2 Ψ iE
def oZ:ah :=
 (b8 (dQ (aT (aA 2 oi (ao (ak 0) (ao (ak 1) aq))))) tS ck)
def kC:List D->aa->R D:=bU 2 Ψ oZ
def zB:Xd :=
 (jF (dQ (aT (aA 2 oi (ao (ak 0) (ao (ak 1) aq))))) (sW "NoSquare") Al)
def sS:List D->aa->R Str:=fnX 2 zB
def zD:Xd :=
 (i7 2 sS (ao (ak 0) (ao (ak 1) aq)))
def vR:List D->aa->R Str:=fnX 3 zD
def nu:ah :=
 (aD (dY (aA 2 kC (ao (ak 0) (ao (ak 1) aq)))) (aD (aF 2 (au aZ (aE aU (ao (ak 1) aq)) (dC (.int 2)))) (aD (aF 3 (vc (aT (au bD (ak 2) (au aZ (ak 0) (dC (.int 1))))) (dC .aM) (au bg (ak 2) (au bq (ak 2) (dC (.int 1)))))) (aP (bV (ao (au bg (ak 0) (ak 0)) (ao (au bg (ak 2) (au bq (ak 0) (dC (.int 1)))) (ao (au aZ (au bq (ak 0) (dC (.int 2))) (au bg (au bq (ak 2) (dC (.int 1))) (au bq (ak 2) (dC (.int 2))))) (ao (ak 3) aq)))))))))
def uC:List D->aa->R D:=bU 4 Ψ nu
def zE:Xd :=
 (i7 2 sS (ao (ak 0) (ao (ak 1) aq)))
def vS:List D->aa->R Str:=fnX 4 zE
def zC:Xd :=
 (jF (dQ (aT (aA 3 d7 (ao (ak 0) (ao (dC (.int 3)) (ao (dC (.int 10)) aq)))))) (sW "NoSquare") Al)
def vQ:List D->aa->R Str:=fnX 3 zC
def pC:ah :=
 (aD (b8 (aT (au JN (ak 1) (aE aU (ao (ak 0) aq)))) (aP (au aH (ak 0) (ak 1))) ck) (aP (dC (.int 0))))
def oh:List D->aa->R D:=bU 2 Ψ pC
def pA:ah :=
 (aD (b8 (aT (au KY (ak 0) (au jc (dC (.int 10)) (dC (.int 18))))) (aP (eX (ao (au bq (ak 0) (au jc (dC (.int 10)) (dC (.int 18)))) aq))) ck) (aD (aF 1 (dC (.int 0))) (aD (cz (bh (ao (dC (.int 64)) aq)) (aB 2) (aD (aF 3 (au bL (au bg (au aZ (au aZ (au bL (ak 0) (dC (.int 2147483629))) (au bg (dC (.int 7919)) (ak 2))) (dC (.int 1))) (dC (.int 48271))) (dC (.int 2147483647)))) (aD (aF 3 (au bL (au aZ (au aZ (au bg (ak 3) (ak 3)) (au bg (dC (.int 69621)) (ak 2))) (dC (.int 7))) (dC (.int 2147483587)))) (aF 1 (au aZ (au bg (ak 1) (dC (.int 2147483587))) (ak 3)))))) (aP (eX (ao (ak 1) aq))))))
def nZ:List D->aa->R D:=bU 4 Θ pA
def pe:ah :=
 (aD (aF 2 (au bL (au aH (ak 0) (dC (.int 0))) (ak 1))) (aD (fX (au gw (au aH (ak 0) (dC (.int 0))) (ak 1)) (kN (ak 0) (dC (.int 0)))) (aP (ak 2))))
def bC:List D->aa->R D:=bU 3 Ψ pe
def sy:ah :=
 (aD (aF 1 (aY (ao (aE (fM dR) (ao (ak 0) (ao (dC (.fn "NoWeb" 0)) aq))) (ao (aE (fM dR) (ao (ak 0) (ao (dC (.fn "NoText" 0)) aq))) (ao (aE (fM dR) (ao (ak 0) (ao (dC (.fn "NoNumbers" 0)) aq))) (ao (aE (fM dR) (ao (ak 0) (ao (dC (.fn "NoField" 0)) aq))) aq)))))) (aD (aF 1 (au b9 (ak 1) (aY (ao (aE (fM dR) (ao (ak 0) (ao (dC (.fn "NoThing" 0)) aq))) (ao (aE (fM dR) (ao (ak 0) (ao (dC (.fn "NoSquare" 0)) aq))) (ao (aE (fM dR) (ao (ak 0) (ao (dC (.fn "NoPlaces" 0)) aq))) (ao (aE (fM dR) (ao (ak 0) (ao (dC (.fn "TooMany" 0)) aq))) aq))))))) (aD (aF 1 (au b9 (ak 1) (aY (ao (aE (fM dR) (ao (ak 0) (ao (dC (.fn "NoName" 0)) aq))) (ao (aE (fM dR) (ao (ak 0) (ao (dC (.fn "NoDeed" 0)) aq))) (ao (aE (fM dR) (ao (ak 0) (ao (dC (.fn "NoRow" 0)) aq))) aq)))))) (aD (b8 (fO (aT (au eZ (EN (ak 1) (dC (.bl Θ))) (dC (.int 1)))) (dQ (aT (aE (fM dR) (ao (ak 0) (ao (dC (.ty "ValueError")) aq)))))) (aP (dC (.str "other"))) ck) (aD (aF 2 (aY (ao (dC (.str "web")) (ao (dC (.str "text")) (ao (dC (.str "numbers")) (ao (dC (.str "field")) (ao (dC (.str "thing")) (ao (dC (.str "square")) (ao (dC (.str "places")) (ao (dC (.str "many")) (ao (dC (.str "name")) (ao (dC (.str "deed")) (ao (dC (.str "row")) aq))))))))))))) (aP (au aH (ak 2) (EM (ak 1) (dC (.bl Θ))))))))))
def xU:List D->aa->R D:=bU 3 Ψ sy
def sf:ah :=
 (aP (au aH (aW (c9 (aY (eG [2,3,5,7,11,13,17,19,23,29,31,37,41,43,47]))) [θ,ζ 0] (aB 0) (aT (au bD (au bL (ak 1) (ak 0)) (dC (.int 0)))) (ak 0)) (dC (.int 0))))
def gb:List D->aa->R D:=bU 1 Ψ sf
def sC:ah :=
 (aD (aF 1 (dC (.int 0))) (aD (gh (aT (au oF (ak 0) (dC (.int 1)))) (aD (aF 0 (au gw (ak 0) (aA 1 gb (ao (ak 0) aq)))) (aF 1 (au aZ (ak 1) (dC (.int 1))))) 10) (aP (ak 1))))
def jN:List D->aa->R D:=bU 2 Ψ sC
def sd:ah :=
 (aD (aF 3 (eX aq)) (aD (cz (bh (ao (ak 2) aq)) (aB 4) (aD (dY (fP (ak 3) (au bL (ak 0) (ak 1)))) (aF 0 (au gw (ak 0) (ak 1))))) (aP (ak 3))))
def fc:List D->aa->R D:=bU 5 Ψ sd
def su:ah :=
 (aD (aF 2 (dC (.int 0))) (aD (cz (bh (ao (aE aU (ao (ak 0) aq)) aq)) (aB 3) (aF 2 (au aZ (au bg (ak 2) (ak 1)) (au aH (ak 0) (au bq (au bq (aE aU (ao (ak 0) aq)) (dC (.int 1))) (ak 3)))))) (aP (ak 2))))
def n8:List D->aa->R D:=bU 4 Ψ su
def kZ:ah :=
 (aD (aF 3 (au jH (aY (ao (dC (.int 0)) aq)) (au bq (au aZ (aE aU (ao (ak 0) aq)) (aE aU (ao (ak 1) aq))) (dC (.int 1))))) (aD (cz (bh (ao (aE aU (ao (ak 0) aq)) aq)) (aB 4) (cz (bh (ao (aE aU (ao (ak 1) aq)) aq)) (aB 5) (fX (au bL (au aZ (au aH (ak 3) (au aZ (ak 4) (ak 5))) (au bg (au aH (ak 0) (ak 4)) (au aH (ak 1) (ak 5)))) (ak 2)) (kN (ak 3) (au aZ (ak 4) (ak 5)))))) (aP (ak 3))))
def kE:List D->aa->R D:=bU 6 Ψ kZ
def qT:List D->aa->R D:=bU 6 Θ kZ
def ny:ah :=
 (aD (aF 2 (aY (ao (aY aq) aq))) (aD (cz (bh (ao (ak 0) aq)) (aB 3) (aD (aF 4 (eX aq)) (aD (cz (c9 (ak 2)) (aB 5) (dY (kT (ak 4) (aW (bh (ao (ak 1) aq)) [θ,ζ 5] (aB 0) aO (au b9 (ak 1) (aY (ao (ak 0) aq))))))) (aF 2 (ak 4))))) (aP (aW (c9 (ak 2)) [θ] (aB 0) aO (au b9 (ak 0) (aY (ao (dC (.int 1)) aq)))))))
def mT:List D->aa->R D:=bU 6 Ψ ny
def sA:ah :=
 (aD (aF 1 (aA 1 gb (ao (ak 0) aq))) (aD (aF 2 (aA 1 jN (ao (ak 0) aq))) (aD (b8 (aT (au bD (ak 2) (dC (.int 1)))) (aP (aY (ao (dC (.int 0)) (ao (dC (.int 1)) aq)))) ck) (aD (aF 3 (eX aq)) (aD (cz (nj (ao (dC (.int 1)) (ao (au aZ (au gw (ak 2) (dC (.int 2))) (dC (.int 1))) aq))) (aB 4) (cz (c9 (aA 2 mT (ao (ak 4) (ao (ak 1) aq)))) (aB 5) (dY (kT (ak 3) (aW (c9 (aA 2 mT (ao (au bq (ak 2) (ak 4)) (ao (ak 1) aq)))) [θ,ζ 5,ζ 1] (aB 0) aO (aA 3 kE (ao (ak 1) (ao (ak 0) (ao (ak 2) aq))))))))) (aD (aF 6 (dC (.int 0))) (aD (gh (aT (au inD (au b9 (aA 3 fc (ao (ak 6) (ao (ak 1) (ao (ak 2) aq)))) (aY (ao (dC (.int 1)) aq))) (ak 3))) (aF 6 (au aZ (ak 6) (dC (.int 1)))) 60) (aP (au b9 (aA 3 fc (ao (ak 6) (ao (ak 1) (ao (ak 2) aq)))) (aY (ao (dC (.int 1)) aq)))))))))))
def qW:List D->aa->R D:=bU 7 Ψ sA
def se:ah :=
 (aD (aF 4 (aA 1 gb (ao (ak 0) aq))) (aD (aF 5 (au bq (aE aU (ao (ak 1) aq)) (dC (.int 1)))) (aD (aF 6 (aA 3 qT (ao (aA 3 fc (ao (ak 2) (ao (ak 4) (ao (ak 5) aq)))) (ao (aA 3 fc (ao (ak 3) (ao (ak 4) (ao (ak 5) aq)))) (ao (ak 4) aq))))) (aD (cz (rK (ao (au bq (aE aU (ao (ak 6) aq)) (dC (.int 1))) (ao (au bq (ak 5) (dC (.int 1))) (ao (au bq (dC (.int 0)) (dC (.int 1))) aq)))) (aB 7) (aD (aF 8 (au aH (ak 6) (ak 7))) (cz (bh (ao (au aZ (ak 5) (dC (.int 1))) aq)) (aB 9) (aD (aF 10 (au aZ (au bq (ak 7) (ak 5)) (ak 9))) (fX (au bL (au bq (au aH (ak 6) (ak 10)) (au bg (ak 8) (au aH (ak 1) (ak 9)))) (ak 4)) (kN (ak 6) (ak 10))))))) (aP (aA 2 n8 (ao (eU (ak 6) eW (eV (ak 5))) (ao (ak 4) aq))))))))
def qV:List D->aa->R D:=bU 11 Ψ se
def rZ:ah :=
 (aD (aF 4 (aA 1 gb (ao (ak 0) aq))) (aD (aF 5 (aA 1 jN (ao (ak 0) aq))) (aD (aF 6 (aY (ao (aA 3 fc (ao (ak 1) (ao (ak 4) (ao (ak 5) aq)))) (ao (aA 3 fc (ao (ak 2) (ao (ak 4) (ao (ak 5) aq)))) aq)))) (aP (aA 2 n8 (ao (aW (bh (ao (ak 5) aq)) [θ,ζ 4,ζ 3,ζ 6] (aB 0) aO (au bL (au aZ (au aH (au aH (ak 3) (dC (.int 0))) (ak 0)) (au bg (ak 2) (au aH (au aH (ak 3) (dC (.int 1))) (ak 0)))) (ak 1))) (ao (ak 4) aq)))))))
def mS:List D->aa->R D:=bU 7 Ψ rZ
def pq:ah :=
 (aD (aF 1 (aA 1 qW (ao (ak 0) aq))) (aP (aW (bh (ao (ak 0) aq)) [θ,ζ 0,ζ 1] (aB 0) aO (aW (bh (ao (ak 1) aq)) [θ,ζ 1,ζ 2,ζ 0] (aB 0) aO (aA 4 qV (ao (ak 1) (ao (ak 2) (ao (ak 3) (ao (ak 0) aq)))))))))
def qU:List D->aa->R D:=bU 2 Ψ pq
def sj:ah :=
 (aD (aF 2 (u9 (ao (ak 1) aq))) (aP (aE cA (ao (aW (bh (ao (ak 1) aq)) [θ,ζ 2,ζ 0] (aB 0) aO (jy (ak 1) (aA 2 bC (ao (ak 2) (ao (aE aU (ao (ak 1) aq)) aq))))) aq))))
def ff:List D->aa->R D:=bU 3 Ψ sj
def sD:ah :=
 (aD (b8 (jz (aT (au bD (ak 1) (dC (.int 4)))) (aT (au bD (aA 2 bC (ao (ak 0) (ao (dC (.int 2)) aq))) (dC (.int 0))))) (aF 2 (aW (bh (ao (ak 1) aq)) [θ,ζ 1] (aB 0) aO (aW (bh (ao (ak 1) aq)) [θ,ζ 0] (aB 0) aO (au mh (ak 1) (ak 0))))) (aD (aF 3 (au aZ (dC (.int 1)) (aA 2 bC (ao (ak 0) (ao (aE mR (ao (dC (.int 1)) (ao (au bq (ak 1) (dC (.int 1))) aq))) aq))))) (aD (aF 2 (aW (bh (ao (ak 1) aq)) [θ,ζ 1,ζ 3] (aB 0) aO (aW (bh (ao (ak 1) aq)) [θ,ζ 1,ζ 2,ζ 0] (aB 0) aO (au bL (au aZ (au bg (ak 2) (ak 3)) (ak 0)) (ak 1))))) (b8 (aT (au fZ (oK (ao (aW (c9 (ak 2)) [θ] (aB 0) aO (au aH (ak 0) (dC (.int 0)))) aq)) (oM (ao (ak 1) aq)))) (aF 2 (aW (bh (ao (ak 1) aq)) [θ,ζ 1] (aB 0) aO (aW (bh (ao (ak 1) aq)) [θ,ζ 1,ζ 0] (aB 0) aO (au bL (au aZ (ak 2) (ak 0)) (ak 1))))) ck)))) (aD (aF 4 (aA 2 ff (ao (ak 0) (ao (ak 1) aq)))) (aD (aF 5 (aA 2 ff (ao (ak 0) (ao (ak 1) aq)))) (aD (aF 6 (aA 2 ff (ao (ak 0) (ao (ak 1) aq)))) (aP (aE cA (ao (aW (c8 (ak 4)) [θ,ζ 5,ζ 6,ζ 2] (aB 0) aO (aE cA (ao (aW (c8 (ak 2)) [θ,ζ 1,ζ 3,ζ 0] (aB 0) aO (au aH (ak 1) (au aH (au aH (ak 2) (ak 3)) (ak 0)))) aq))) aq)))))))
def n9:List D->aa->R D:=bU 7 Ψ sD
def r9:ah :=
 (aD (aF 1 (eX (ao (aY (eG [0,1,2,3,4,5])) (ao (aY (eG [1,0,3,2,5,4])) (ao (aY (eG [2,4,0,5,1,3])) (ao (aY (eG [3,5,1,4,0,2])) (ao (aY (eG [4,2,5,0,3,1])) aq))))))) (aD (dY (fP (ak 1) (aY (eG [5,3,4,1,2,0])))) (aD (aF 2 (aA 2 ff (ao (ak 0) (ao (dC (.int 6)) aq)))) (aP (aE cA (ao (aW (c8 (ak 2)) [θ,ζ 1] (aB 0) aO (aE cA (ao (au aH (ak 1) (ak 0)) aq))) aq))))))
def kF:List D->aa->R D:=bU 3 Ψ r9
def r8:ah :=
 (aD (b8 (jz (aT (au bD (ak 1) (dC (.int 6)))) (aT (au bD (aA 2 bC (ao (ak 0) (ao (dC (.int 2)) aq))) (dC (.int 0))))) (aP (aA 1 kF (ao (ak 0) aq))) ck) (aP (aA 2 n9 (ao (ak 0) (ao (ak 1) aq)))))
def jl:List D->aa->R D:=bU 2 Ψ r8
def pB:ah :=
 (aD (aF 1 (aA 1 qU (ao (ak 0) aq))) (aD (aF 2 (eX aq)) (aD (cz (nj (ao (dC (.int 1)) (ao (ak 0) aq))) (aB 3) (aD (aF 4 (eX aq)) (aD (cz (bh (ao (ak 0) aq)) (aB 5) (dY (fP (ak 4) (aE cA (ao (aW (bh (ao (ak 0) aq)) [θ,ζ 0,ζ 5,ζ 1,ζ 3] (aB 0) aO (aA 4 mS (ao (ak 1) (ao (au aH (au aH (ak 3) (ak 4)) (ak 2)) (ao (ak 0) (ao (dC (.int 1)) aq)))))) aq))))) (dY (fP (ak 2) (aE cA (ao (ak 4) aq))))))) (aP (ak 2)))))
def uD:List D->aa->R D:=bU 6 Θ pB
def nv:ah :=
 (aD (aF 1 (au aZ (dC (.int 2)) (aA 2 bC (ao (ak 0) (ao (dC (.int 6)) aq))))) (aD (b8 (aT (au bD (ak 1) (dC (.int 6)))) (aP (bV (ao (ak 1) (ao (eU (aY (ao (aA 2 jl (ao (ak 0) (ao (ak 1) aq))) aq)) eW (eV (aA 2 bC (ao (ak 0) (ao (dC (.int 2)) aq))))) aq)))) ck) (aD (aF 2 (aA 1 uD (ao (ak 1) aq))) (aD (aF 3 (eX aq)) (aD (cz (bh (ao (aA 2 bC (ao (ak 0) (ao (ak 1) aq))) aq)) (aB 4) (dY (fP (ak 3) (jy (ak 2) (aA 2 bC (ao (ak 0) (ao (aE aU (ao (ak 2) aq)) aq))))))) (aP (bV (ao (ak 1) (ao (ak 3) aq)))))))))
def nY:List D->aa->R D:=kO 5 nv
def kY:ah :=
 (aD (nO dR 3 4 (b8 (aT (au bD (ak 0) (dC (.int 0)))) tS (b8 (aT (au bD (ak 0) (dC (.int 1)))) (dY (aA 2 uC (ao (ak 1) (ao (ak 2) aq)))) tS)) (jF (aT (au bD (ak 0) (dC (.int 0)))) (i7 2 vR (ao (ak 1) (ao (ak 2) aq))) (jF (aT (au bD (ak 0) (dC (.int 1)))) (i7 2 vS (ao (ak 1) (ao (ak 2) aq))) (i7 1 vQ (ao (ak 1) aq)))) (aA 1 xU (ao (ak 3) aq))) (aP (dC (.str "told"))))
def e8:List D->aa->R D:=bU 4 Ψ kY
def sE:ah :=
 (aD (cz (bh (ao (aE mR (ao (dC (.int 1)) (ao (aE uz (ao (aE aU (ao (ak 0) aq)) (ao (dC (.int 10)) aq))) aq))) aq)) (aB 1) (aD (aF 2 (aA 1 nZ (ao (aA 2 oh (ao (ak 0) (ao (ak 1) aq))) aq))) (aD (fX (aA 1 nY (ao (ak 2) aq)) (gH 2 (dF (aB 3) (dF (aB 4) gS)))) (aD (aF 5 (aA 2 jl (ao (ak 2) (ao (au aZ (dC (.int 2)) (au bL (au bq (ak 3) (dC (.int 1))) (dC (.int 6)))) aq)))) (aD (aF 6 (aY (ao (bV (ao (ak 3) (ao (au b9 (ak 4) (aY (ao (ak 5) aq))) aq))) (ao (bV (ao (ak 3) (ao (au b9 (aY (ao (dC .aM) aq)) (ak 4)) aq))) (ao (bV (ao (ak 3) (ao (aE cA (ao (ak 4) aq)) aq))) (ao (bV (ao (ak 3) (ao (dC .aM) aq))) (ao (bV (ao (ak 3) (ao (au b9 (ak 4) (aY (ao (aY aq) aq))) aq))) aq))))))) (aD (b8 (aT (au fZ (ak 4) (aY aq))) (aF 6 (au b9 (ak 6) (aY (ao (bV (ao (ak 3) (ao (au b9 (ak 4) (eU (ak 4) eW (eV (dC (.int 1))))) aq))) (ao (bV (ao (ak 3) (ao (au ki (eU (ak 4) eW (eV (dC (.int 1)))) (dC (.int 2))) aq))) (ao (bV (ao (dC (.int 8)) (ao (ak 4) aq))) (ao (bV (ao (ak 3) (ao (au aH (ak 4) (dC (.int 0))) aq))) aq))))))) ck) (aD (aF 7 (au aH (aY (ao (dC (.int 1)) (ao (dC (.int 0)) (ao (dC (.int 8)) (ao (au bq (dC (.int 0)) (dC (.int 2))) (ao (dC (.bl Θ)) (ao (dC .aM) (ao (dC (.str "3")) (ao (bV (ao (dC (.int 3)) aq)) (ao (au jc (dC (.int 10)) (dC (.int 20))) aq)))))))))) (aA 2 bC (ao (ak 2) (ao (dC (.int 9)) aq))))) (aD (aF 6 (au b9 (ak 6) (aY (ao (bV (ao (ak 7) (ao (aY aq) aq))) (ao (bV (ao (ak 7) (ao (ak 4) aq))) aq))))) (aD (fX (au aH (ak 6) (aA 2 bC (ao (ak 2) (ao (aE aU (ao (ak 6) aq)) aq)))) (gH 2 (dF (aB 8) (dF (aB 9) gS)))) (aD (b8 (fO (aT (au eZ (aA 3 e8 (ao (dC (.int 0)) (ao (ak 8) (ao (ak 9) aq)))) (dC (.str "square")))) (aT (au eZ (aA 3 e8 (ao (dC (.int 1)) (ao (ak 8) (ao (ak 9) aq)))) (dC (.str "square"))))) (aP (dC (.bl Ψ))) ck) (aD (aF 7 (au aH (aY (ao (dC (.int 2)) (ao (dC (.int 1)) (ao (dC (.int 0)) (ao (dC (.int 11)) (ao (au bq (dC (.int 0)) (dC (.int 3))) (ao (dC (.bl Θ)) (ao (dC .aM) (ao (dC (.str "4")) (ao (bV (ao (dC (.int 4)) aq)) (ao (au jc (dC (.int 10)) (dC (.int 20))) aq))))))))))) (aA 2 bC (ao (ak 2) (ao (dC (.int 10)) aq))))) (b8 (fO (aT (au eZ (aA 3 e8 (ao (dC (.int 2)) (ao (ak 7) (ao (dC .aM) aq)))) (dC (.str "square")))) (aT (au eZ (aA 3 e8 (ao (dC (.int 1)) (ao (ak 3) (ao (ak 4) aq)))) (dC (.str "told"))))) (aP (dC (.bl Ψ))) ck)))))))))))) (aP (dC (.bl Θ))))
def uE:List D->aa->R D:=bU 10 Ψ sE
set_option genInjectivity false in
set_option genSizeOfSpec false in
structure Tx (K:Δ) (mg:Str->Option Ξ) where
 lU:Ω
 Eb:ο
 EH:Def K mg "is_whole" qw ["thing"] lU Eb
 YJ:ξ K Γ "is_whole"=ζ (ζ (.ref lU))
 lT:Ω
 Ea:ο
 u7:Def K mg "is_whole_within" qv ["thing","least","most"] lT Ea
 YI:ξ K Γ "is_whole_within"=ζ (ζ (.ref lT))
 lX:Ω
 Ef:ο
 zu:Def K mg "holds_each_once" qz ["thing","many"] lX Ef
 YM:ξ K Γ "holds_each_once"=ζ (ζ (.ref lX))
 lY:Ω
 Eg:ο
 EJ:Def K mg "column_of" qA ["rows","y"] lY Eg
 YN:ξ K Γ "column_of"=ζ (ζ (.ref lY))
 lV:Ω
 Ec:ο
 EI:Def K mg "is_square" qx ["thing"] lV Ec
 YK:ξ K Γ "is_square"=ζ (ζ (.ref lV))
 k8:Ω
 DJ:ο
 zk:Def K mg "sign_in" pR ["square","cell"] k8 DJ
 Yg:ξ K Γ "sign_in"=ζ (ζ (.ref k8))
 lq:Ω
 DM:ο
 Eu:Def K mg "lie_across" pW ["one","other"] lq DM
 Yl:ξ K Γ "lie_across"=ζ (ζ (.ref lq))
 lZ:Ω
 Eh:ο
 EK:Def K mg "are_each_two_across" qB ["squares"] lZ Eh
 YO:ξ K Γ "are_each_two_across"=ζ (ζ (.ref lZ))
 lW:Ω
 Ed:ο
 zq:Def K mg "is_net" qy ["n","thing"] lW Ed
 YL:ξ K Γ "is_net"=ζ (ζ (.ref lW))
 jU:Ω
 yr:ο
 rF:Def K mg "require_net" pS ["n","thing"] jU yr
 Yh:ξ K Γ "require_net"=ζ (ζ (.ref jU))
 lg:Ω
 DL:ο
 Et:Def K mg "net_web" pU ["n","squares"] lg DL
 Yj:ξ K Γ "net_web"=ζ (ζ (.ref lg))
 jV:Ω
 yt:ο
 u5:Def K mg "net_numbers" pV ["n","squares"] jV yt
 Yk:ξ K Γ "net_numbers"=ζ (ζ (.ref jV))
 k9:Ω
 DK:ο
 Es:Def K mg "pairs_web" pT ["m"] k9 DK
 Yi:ξ K Γ "pairs_web"=ζ (ζ (.ref k9))
 lS:Ω
 D8:ο
 EG:Def K mg "_law_cell_at" qt ["script","k"] lS D8
 YG:ξ K Γ "_law_cell_at"=ζ (ζ (.ref lS))
 lI:Ω
 DX:ο
 EB:Def K mg "_law_pot" qg ["cell"] lI DX
 Yx:ξ K Γ "_law_pot"=ζ (ζ (.ref lI))
 lz:Ω
 DO:ο
 iC:Def K mg "_law_take" pY ["pot","far"] lz DO
 Yn:ξ K Γ "_law_take"=ζ (ζ (.ref lz))
 lM:Ω
 D0:ο
 EC:Def K mg "_law_kind_of" qk ["e"] lM D0
 YA:ξ K Γ "_law_kind_of"=ζ (ζ (.ref lM))
 lH:Ω
 DW:ο
 rH:Def K mg "_law_prime" qe ["q"] lH DW
 Yw:ξ K Γ "_law_prime"=ζ (ζ (.ref lH))
 lQ:Ω
 D6:ο
 zp:Def K mg "_law_degree" qp ["q"] lQ D6
 YE:ξ K Γ "_law_degree"=ζ (ζ (.ref lQ))
 lE:Ω
 DT:ο
 ni:Def K mg "_law_row" qb ["number","p","many"] lE DT
 Yt:ξ K Γ "_law_row"=ζ (ζ (.ref lE))
 lK:Ω
 DZ:ο
 zm:Def K mg "_law_number" qj ["row","p"] lK DZ
 Yz:ξ K Γ "_law_number"=ζ (ζ (.ref lK))
 jW:Ω
 yu:ο
 u6:Def K mg "_law_sums_product" pZ ["one","other","p"] jW yu
 Yo:ξ K Γ "_law_sums_product"=ζ (ζ (.ref jW))
 lN:Ω
 D3:ο
 zo:Def K mg "_law_heads" ql ["many","p"] lN D3
 YB:ξ K Γ "_law_heads"=ζ (ζ (.ref lN))
 lO:Ω
 D4:ο
 ED:Def K mg "_law_form" qm ["q"] lO D4
 YC:ξ K Γ "_law_form"=ζ (ζ (.ref lO))
 lG:Ω
 DV:ο
 EA:Def K mg "_law_product" qd ["q","form","one","other"] lG DV
 Yv:ξ K Γ "_law_product"=ζ (ζ (.ref lG))
 lA:Ω
 DP:ο
 Ew:Def K mg "_law_sum" p7 ["q","one","other","sign"] lA DP
 Yp:ξ K Γ "_law_sum"=ζ (ζ (.ref lA))
 lF:Ω
 DU:ο
 Ez:Def K mg "_law_products_of" qc ["q"] lF DU
 Yu:ξ K Γ "_law_products_of"=ζ (ζ (.ref lF))
 lJ:Ω
 DY:ο
 rJ:Def K mg "_law_order" qi ["pot","many"] lJ DY
 Yy:ξ K Γ "_law_order"=ζ (ζ (.ref lJ))
 lR:Ω
 D7:ο
 EF:Def K mg "_law_cycled" qq ["pot","n"] lR D7
 YF:ξ K Γ "_law_cycled"=ζ (ζ (.ref lR))
 lD:Ω
 DS:ο
 Ey:Def K mg "_law_six" qa ["pot"] lD DS
 Ys:ξ K Γ "_law_six"=ζ (ζ (.ref lD))
 lB:Ω
 DQ:ο
 zl:Def K mg "_law_square" p8 ["pot","n"] lB DQ
 Yq:ξ K Γ "_law_square"=ζ (ζ (.ref lB))
 lP:Ω
 D5:ο
 EE:Def K mg "_law_field_squares" qo ["q"] lP D5
 YD:ξ K Γ "_law_field_squares"=ζ (ζ (.ref lP))
 lC:Ω
 DR:ο
 Ex:Def K mg "_law_some_net" p9 ["pot"] lC DR
 Yr:ξ K Γ "_law_some_net"=ζ (ζ (.ref lC))
 ly:Ω
 DN:ο
 rG:Def K mg "_law_told" pX ["way","n","squares"] ly DN
 Ym:ξ K Γ "_law_told"=ζ (ζ (.ref ly))
 jX:Ω
 D9:ο
 LX:Def K mg "law" qu ["script"] jX D9
 YH:ξ K Γ "law"=ζ (ζ (.ref jX))
 JG:mg "ValueError"=θ
 qR:mg "all"=θ
 JF:mg "bool"=θ
 JE:mg "enumerate"=θ
 JD:mg "int"=θ
 fJ:mg "isinstance"=θ
 cS:mg "len"=θ
 xQ:mg "list"=θ
 Bj:mg "max"=θ
 JC:mg "min"=θ
 cM:mg "range"=θ
 xP:mg "set"=θ
 JB:mg "sorted"=θ
 iR:mg "tuple"=θ
 tE:Tok
 Ld:mg "LEAST_IN_NET"=ζ (.int 2 tE)
 tw:Tok
 Lc:mg "LEAST_PAIRED"=ζ (.int 3 tw)
 sZ:Tok
 Lb:mg "MOST_PAIRED"=ζ (.int 10 sZ)
 sY:Tok
 Dy:mg "MOST_SIGNS"=ζ (.int 7 sY)
 rQ:Ω
 K1:mg "NoWeb"=ζ (.ref rQ)
 Jr:ξ K Γ "NoWeb"=ζ (ζ (.ref rQ))
 rS:Ω
 K3:mg "NoText"=ζ (.ref rS)
 Jt:ξ K Γ "NoText"=ζ (ζ (.ref rS))
 rV:Ω
 K7:mg "NoNumbers"=ζ (.ref rV)
 Jx:ξ K Γ "NoNumbers"=ζ (ζ (.ref rV))
 rX:Ω
 K9:mg "NoField"=ζ (.ref rX)
 Jz:ξ K Γ "NoField"=ζ (ζ (.ref rX))
 rR:Ω
 K2:mg "NoThing"=ζ (.ref rR)
 Js:ξ K Γ "NoThing"=ζ (ζ (.ref rR))
 oX:Ω
 K4:mg "NoSquare"=ζ (.ref oX)
 Ju:ξ K Γ "NoSquare"=ζ (ζ (.ref oX))
 rU:Ω
 K6:mg "NoPlaces"=ζ (.ref rU)
 Jw:ξ K Γ "NoPlaces"=ζ (ζ (.ref rU))
 rP:Ω
 K0:mg "TooMany"=ζ (.ref rP)
 Jq:ξ K Γ "TooMany"=ζ (ζ (.ref rP))
 rW:Ω
 K8:mg "NoName"=ζ (.ref rW)
 Jy:ξ K Γ "NoName"=ζ (ζ (.ref rW))
 rY:Ω
 La:mg "NoDeed"=ζ (.ref rY)
 JA:ξ K Γ "NoDeed"=ζ (ζ (.ref rY))
 rT:Ω
 K5:mg "NoRow"=ζ (.ref rT)
 Jv:ξ K Γ "NoRow"=ζ (ζ (.ref rT))
 nt:Ω
 KZ:mg "WebError"=ζ (.ref nt)
 Yc:ξ K Γ "WebError"=ζ (ζ (.ref nt))
 Ai:vA K mg "NoSquare" vU "ValueError.__new__"
 fS:vz K dR
 xw:Ad K dR nt=Θ
section
variable {P:τ}{w:ψ}{K:Δ}{mg:Str->Option Ξ}{base:χ}
theorem RW:b6 ["thing"] ["thing"] (aR qw):=⟨rfl,rfl,rfl,by decide +kernel,rfl,by decide +kernel,by decide +kernel⟩
theorem V7(T:Tx K mg):bK P w K mg base bS 1 T.lU T.Eb ["thing"] (b7 K 1 jm) :=
 cN (k:=0) T.EH.fn RW rfl rfl λcdv A outer s H E hr=>by
  show bY _ _ iD;unfold iD;exact(aX (bW (uh (bH vg T.fJ aiY (ay (av 0) (ay (qH rfl T.JD boot_int) az))) (ue (U5 (bH vg T.fJ aiY (ay (av 0) (ay (qH rfl T.JF boot_bool) az))))))))
theorem RV:b6 ["thing","least","most"] ["thing","least","most"] (aR qv):=⟨rfl,rfl,rfl,by decide +kernel,rfl,by decide +kernel,by decide +kernel⟩
theorem A6(T:Tx K mg):bK P w K mg base bS 2 T.lT T.Ea ["thing","least","most"] (b7 K 3 d7) :=
 cN (k:=1) T.u7.fn RV rfl rfl λcdv A outer s H E hr=>by
  show bY _ _ gW;unfold gW;exact(aX (bW (uh (bu T.EH (V7 T) (hr.mono (by decide)) (ay (av 0) az)) (ue (Vg xF xF (av 1) (av 0) (av 2))))))
theorem RY:b6 ["thing","many"] ["thing","many"] (aR qz):=⟨rfl,rfl,rfl,by decide +kernel,rfl,by decide +kernel,by decide +kernel⟩
theorem IF(T:Tx K mg):bK P w K mg base bS 3 T.lX T.Ef ["thing","many"] (b7 K 2 fK) :=
 cN (k:=2) T.zu.fn RY rfl rfl λcdv A outer s H E hr=>by
  show bY _ _ sG;unfold sG;refine aS (fk (PW.pt (nS (jd (jJ (bH vg T.fJ aiY (ay (av 0) (ay (qH rfl T.iR ajh) az))))) (qI (dM qN (bH dc T.cS aiC (ay (av 0) az)) (av 1))))) (aX (bW iz)) gm) ?_;exact(aX (bW (uh (bH vh T.qR boot_all (ay (dw (N':=["sign","many"]) (pick:=[θ,ζ 1]) (cB.of rfl rfl) (qZ (av 0)) (λ_ _ _ _ _ _=>(bQ (i:=0) (hN:=(by decide +kernel:υ (["sign","many"]:List Str))))) (λ_ _ _ _ _ _=>dJ) (λ_ _ _ _ _ _=>(bu T.u7 (A6 T) (hr.mono (by decide)) (ay (av 0) (ay aL (ay (aQ dZ (av 1) aL) az)))))) az)) (ue (A2 gF (U9 (ay (av 0) az) T.cS T.xP) (av 1))))))
theorem RZ:b6 ["rows","y"] ["rows","y"] (aR qA):=⟨rfl,rfl,rfl,by decide +kernel,rfl,by decide +kernel,by decide +kernel⟩
theorem V9(T:Tx K mg):bK P w K mg base bS 1 T.lY T.Eg ["rows","y"] (b7 K 2 jO) :=
 cN (k:=0) T.EJ.fn RZ rfl rfl λcdv A outer s H E hr=>by
  show bY _ _ sH;unfold sH;exact(aX (bW (kB kW T.iR ajh (ay (dw (N':=["row","y"]) (pick:=[θ,ζ 1]) (cB.of rfl rfl) (qZ (av 0)) (λ_ _ _ _ _ _=>(bQ (i:=0) (hN:=(by decide +kernel:υ (["row","y"]:List Str))))) (λ_ _ _ _ _ _=>dJ) (λ_ _ _ _ _ _=>(cH cI (av 0) (av 1)))) az))))
theorem HE:b6 ["thing","many"] ["thing"] (aR qx):=⟨rfl,rfl,rfl,by decide +kernel,rfl,by decide +kernel,by decide +kernel⟩
theorem V8(T:Tx K mg):bK P w K mg base bS 4 T.lV T.Ec ["thing"] (b7 K 1 iS) :=
 cN (k:=3) T.EI.fn HE rfl rfl λcdv A outer s H E hr=>by
  show bY _ _ pD;unfold pD;refine aS (fk (PW.pt (nS (jd (jJ (bH vg T.fJ aiY (ay (av 0) (ay (qH rfl T.iR ajh) az))))) (qI (jd (Vf xF xF aL (bH dc T.cS aiC (ay (av 0) az)) (uf rfl T.Dy)))))) (aX (bW iz)) gm) ?_;refine aS (bx (i:=1) (bH dc T.cS aiC (ay (av 0) az)) (hN:=HE.nd)) ?_;refine aS (fk (jd (jJ (bH vh T.qR boot_all (ay (dw (N':=["row","many"]) (pick:=[θ,ζ 1]) (cB.of rfl rfl) (qZ (av 0)) (λ_ _ _ _ _ _=>(bQ (i:=0) (hN:=(by decide +kernel:υ (["row","many"]:List Str))))) (λ_ _ _ _ _ _=>dJ) (λ_ _ _ _ _ _=>(bu T.zu (IF T) (hr.mono (by decide)) (ay (av 0) (ay (av 1) az))))) az)))) (aX (bW iz)) gm) ?_
  exact(aX (bW (bH vh T.qR boot_all (ay (dw (N':=["y","many","thing"]) (pick:=[θ,ζ 1,ζ 0]) (cB.of rfl rfl) (dB (ay (av 1) az) T.cM) (λ_ _ _ _ _ _=>(bQ (i:=0) (hN:=(by decide +kernel:υ (["y","many","thing"]:List Str))))) (λ_ _ _ _ _ _=>dJ) (λ_ _ _ _ _ _=>(bu T.zu (IF T) (hr.mono (by decide)) (ay (bu T.EJ (V9 T) (hr.mono (by decide)) (ay (av 2) (ay (av 0) az))) (ay (av 1) az))))) az))))
theorem RO:b6 ["square","cell"] ["square","cell"] (aR pR):=⟨rfl,rfl,rfl,by decide +kernel,rfl,by decide +kernel,by decide +kernel⟩
theorem Iz(T:Tx K mg):bK P w K mg base bS 1 T.k8 T.DJ ["square","cell"] (b7 K 2 e7) :=
 cN (k:=0) T.zk.fn RO rfl rfl λcdv A outer s H E hr=>by
  show bY _ _ oY;unfold oY;exact(aX (bW (cH cI (cH cI (av 0) (aQ ur (av 1) (bH dc T.cS aiC (ay (av 0) az)))) (aQ gR (av 1) (bH dc T.cS aiC (ay (av 0) az))))))
theorem Hz:b6 ["one","other","cells"] ["one","other"] (aR pW):=⟨rfl,rfl,rfl,by decide +kernel,rfl,by decide +kernel,by decide +kernel⟩
theorem VQ(T:Tx K mg):bK P w K mg base bS 2 T.lq T.DM ["one","other"] (b7 K 2 kD) :=
 cN (k:=1) T.Eu.fn Hz rfl rfl λcdv A outer s H E hr=>by
  have hu:=Nat.lt_of_succ_lt (aaP hr);show bY _ _ kX;unfold kX;refine aS (bx (i:=2) (aQ gr (bH dc T.cS aiC (ay (av 0) az)) (bH dc T.cS aiC (ay (av 0) az))) (hN:=Hz.nd)) ?_;exact(aX (bW (A2 gF (U8 (x6 hr) (ay (dw (N':=["cell","one","other"]) (pick:=[θ,ζ 0,ζ 1]) (cB.of rfl rfl) (dB (ay (av 2) az) T.cM) (λ_ _ _ _ _ _=>(bQ (i:=0) (hN:=(by decide +kernel:υ (["cell","one","other"]:List Str))))) (λ_ _ _ _ _ _=>dJ) (λ_ _ _ _ _ _=>(fY (ay (bu T.zk (Iz T) (hr.mono (by decide)) (ay (av 1) (ay (av 0) az))) (ay (bu T.zk (Iz T) (hr.mono (by decide)) (ay (av 2) (ay (av 0) az))) az))))) az) T.cS T.xP) (av 2))))
theorem AM:b6 ["squares","number","square"] ["squares"] (aR qB):=⟨rfl,rfl,rfl,by decide +kernel,rfl,by decide +kernel,by decide +kernel⟩
theorem Wa(T:Tx K mg):bK P w K mg base bS 3 T.lZ T.Eh ["squares"] (b7 K 1 mU) :=
 cN (k:=2) T.EK.fn AM rfl rfl λcdv A outer s H E hr=>by
  show bY _ _ k6;unfold k6;refine aS (fE (aaE (ay (av 0) az) T.JE) (Dw (n:=2) (rq (bQ (i:=1) (hN:=AM.nd)) (rq (bQ (i:=2) (hN:=AM.nd)) Dv))) (aX (fk (jd (jJ (bH vh T.qR boot_all (ay (dw (N':=["other","square"]) (pick:=[θ,ζ 2]) (cB.of rfl rfl) (mZ (ud (av 0) tZ (tY (av 1)))) (λ_ _ _ _ _ _=>(bQ (i:=0) (hN:=(by decide +kernel:υ (["other","square"]:List Str))))) (λ_ _ _ _ _ _=>dJ) (λ_ _ _ _ _ _=>(bu T.Eu (VQ T) (hr.mono (by decide)) (ay (av 1) (ay (av 0) az))))) az)))) (aX (bW iz)) gm))) ?_
  exact(aX (bW iz))
theorem RX:b6 ["n","thing"] ["n","thing"] (aR qy):=⟨rfl,rfl,rfl,by decide +kernel,rfl,by decide +kernel,by decide +kernel⟩
theorem IE(T:Tx K mg):bK P w K mg base bS 5 T.lW T.Ed ["n","thing"] (b7 K 2 oi) :=
 cN (k:=4) T.zq.fn RX rfl rfl λcdv A outer s H E hr=>by
  show bY _ _ iE;unfold iE;refine aS (fk (PW.pt (nS (jd (jJ (bu T.u7 (A6 T) (hr.mono (by decide)) (ay (av 0) (ay (uf rfl T.Ld) (ay (uf rfl T.Dy) az)))))) (nS (jd (jJ (bH vg T.fJ aiY (ay (av 1) (ay (qH rfl T.xQ boot_list) az))))) (qI (dM IP (bH dc T.cS aiC (ay (av 1) az)) (aQ dZ (av 0) aL)))))) (aX (bW iz)) gm) ?_
  exact(aX (bW (uh (bH vh T.qR boot_all (ay (dw (N':=["square","n"]) (pick:=[θ,ζ 0]) (cB.of rfl rfl) (mZ (av 1)) (λ_ _ _ _ _ _=>(bQ (i:=0) (hN:=(by decide +kernel:υ (["square","n"]:List Str))))) (λ_ _ _ _ _ _=>dJ) (λ_ _ _ _ _ _=>(uh (bu T.EI (V8 T) (hr.mono (by decide)) (ay (av 0) az)) (ue (A2 gF (bH dc T.cS aiC (ay (av 0) az)) (av 1)))))) az)) (ue (bu T.EK (Wa T) (hr.mono (by decide)) (ay (av 1) az))))))
theorem Hy:b6 ["n","thing"] ["n","thing"] (aR pS):=⟨rfl,rfl,rfl,by decide +kernel,rfl,by decide +kernel,by decide +kernel⟩
theorem VO(T:Tx K mg):bK P w K mg base bS 6 T.jU T.yr ["n","thing"] (b7 K 2 kC) :=
 cN (k:=5) T.rF.fn Hy rfl rfl λcdv A outer s H E hr=>by
  show bY _ _ oZ;unfold oZ;exact(aX (fk (jd (jJ (bu T.zq (IE T) (hr.mono (by decide)) (ay (av 0) (ay (av 1) az))))) (aX AJ) gm))
theorem Iw(T:Tx K mg):bK P w K mg base (gC P w K) 6 T.jU T.yr ["n","thing"] (pL K 2 sS) :=
 ym (k:=5) T.rF.fn Hy rfl rfl λcdv A outer s H E hr=>by
  show jZ _ _ _ zB;unfold zB;exact(iZ (vN (jd (jJ (bu T.zq (IE T) (hr.mono (by decide)) (ay (av 0) (ay (av 1) az))))) (iZ (Gq T.Ai F.excBase_ValueError)) Gr))
theorem RQ:b6 ["n","squares","lines"] ["n","squares"] (aR pU):=⟨rfl,rfl,rfl,by decide +kernel,rfl,by decide +kernel,by decide +kernel⟩
theorem VL(T:Tx K mg):bK P w K mg base (gC P w K) 7 T.lg T.DL ["n","squares"] (pL K 2 vR) :=
 ym (k:=6) T.Et.fn RQ rfl rfl λcdv A outer s H E hr=>by
  show jZ _ _ _ zD;unfold zD;exact(iZ (sQ (sR T.rF (Iw T) (hr.mono (by decide)) (ay (av 0) (ay (av 1) az)))))
theorem wm:b6 ["n","squares","g","b"] ["n","squares"] (aR pV):=⟨rfl,rfl,rfl,by decide +kernel,rfl,by decide +kernel,by decide +kernel⟩
theorem VP(T:Tx K mg):bK P w K mg base bS 7 T.jV T.yt ["n","squares"] (b7 K 2 uC) :=
 cN (k:=6) T.u5.fn wm rfl rfl λcdv A outer s H E hr=>by
  show bY _ _ nu;unfold nu;refine aS (kh (bu T.rF (VO T) (hr.mono (by decide)) (ay (av 0) (ay (av 1) az)))) ?_
  refine aS (bx (i:=2) (aQ cX (bH dc T.cS aiC (ay (av 1) az)) aL) (hN:=wm.nd)) ?_;refine aS (bx (i:=3) (Vb (dM gF (av 2) (aQ cX (av 0) aL)) qJ (aQ gr (av 2) (aQ dZ (av 2) aL))) (hN:=wm.nd)) ?_;exact(aX (bW (fY (ay (aQ gr (av 0) (av 0)) (ay (aQ gr (av 2) (aQ dZ (av 0) aL)) (ay (aQ cX (aQ dZ (av 0) aL) (aQ gr (aQ dZ (av 2) aL) (aQ dZ (av 2) aL))) (ay (av 3) az)))))))
theorem VM(T:Tx K mg):bK P w K mg base (gC P w K) 7 T.jV T.yt ["n","squares"] (pL K 2 vS) :=
 ym (k:=6) T.u5.fn wm rfl rfl λcdv A outer s H E hr=>by
  show jZ _ _ _ zE;unfold zE;exact(iZ (sQ (sR T.rF (Iw T) (hr.mono (by decide)) (ay (av 0) (ay (av 1) az)))))
theorem RP:b6 ["m","pairs","x"] ["m"] (aR pT):=⟨rfl,rfl,rfl,by decide +kernel,rfl,by decide +kernel,by decide +kernel⟩
theorem VJ(T:Tx K mg):bK P w K mg base (gC P w K) 3 T.k9 T.DK ["m"] (pL K 1 vQ) :=
 ym (k:=2) T.Es.fn RP rfl rfl λcdv A outer s H E hr=>by
  show jZ _ _ _ zC;unfold zC;exact(iZ (vN (jd (jJ (bu T.u7 (A6 T) (hr.mono (by decide)) (ay (av 0) (ay (uf rfl T.Lc) (ay (uf rfl T.Lb) az)))))) (iZ (Gq T.Ai F.excBase_ValueError)) Gr))
theorem RU:b6 ["script","k"] ["script","k"] (aR qt):=⟨rfl,rfl,rfl,by decide +kernel,rfl,by decide +kernel,by decide +kernel⟩
theorem V5(T:Tx K mg):bK P w K mg base bS 1 T.lS T.D8 ["script","k"] (b7 K 2 oh) :=
 cN (k:=0) T.EG.fn RU rfl rfl λcdv A outer s H E hr=>by
  show bY _ _ pC;unfold pC;refine aS (fk (dM Wn (av 1) (bH dc T.cS aiC (ay (av 0) az))) (aX (bW (cH cI (av 0) (av 1)))) gm) ?_;exact(aX (bW aL))
theorem pO:b6 ["cell","number","j","more"] ["cell"] (aR qg):=⟨rfl,rfl,rfl,by decide +kernel,rfl,by decide +kernel,by decide +kernel⟩
theorem VX(T:Tx K mg):bK P w K mg base bS 1 T.lI T.DX ["cell"] (b7 K 1 nZ) :=
 cN (k:=0) T.EB.fn pO rfl rfl λcdv A outer s H E hr=>by
  show bY _ _ pA;unfold pA;refine aS (fk (dM WU (av 0) (aQ xE aL aL)) (aX (bW (kr (ay (aQ dZ (av 0) (aQ xE aL aL)) az)))) gm) ?_;refine aS (bx (i:=1) aL (hN:=pO.nd)) ?_;refine aS (fE (dB (ay aL az) T.cM) (bQ (i:=2) (hN:=pO.nd)) (aS (bx (i:=3) (aQ gR (aQ gr (aQ cX (aQ cX (aQ gR (av 0) aL) (aQ gr aL (av 2))) aL) aL) aL) (hN:=pO.nd)) (aS (bx (i:=3) (aQ gR (aQ cX (aQ cX (aQ gr (av 3) (av 3)) (aQ gr aL (av 2))) aL) aL) (hN:=pO.nd)) (aX (bx (i:=1) (aQ cX (aQ gr (av 1) aL) (av 3)) (hN:=pO.nd)))))) ?_;exact(aX (bW (kr (ay (av 1) az))))
theorem HB:b6 ["pot","far","found"] ["pot","far"] (aR pY):=⟨rfl,rfl,rfl,by decide +kernel,rfl,by decide +kernel,by decide +kernel⟩
theorem jh(T:Tx K mg):bK P w K mg base bS 1 T.lz T.DO ["pot","far"] (b7 K 2 bC) :=
 cN (k:=0) T.iC.fn HB rfl rfl λcdv A outer s H E hr=>by
  show bY _ _ pe;unfold pe;refine aS (bx (i:=2) (aQ gR (cH cI (av 0) aL) (av 1)) (hN:=HB.nd)) ?_;refine aS (pN (aQ ur (cH cI (av 0) aL) (av 1)) (yj (av 0) aL)) ?_;exact(aX (bW (av 2)))
theorem tR:b6 ["e","some","words"] ["e"] (aR qk):=⟨rfl,rfl,rfl,by decide +kernel,rfl,by decide +kernel,by decide +kernel⟩
theorem Wb(T:Tx K mg):zP P w K mg base 1 T.lM T.D0 ["e"] (b7 K 1 xU) :=
 acj (k:=0) T.EC.fn tR rfl rfl λcdv A outer s H E hr=>by
  show bY _ _ sy;unfold sy;refine aS (bx (i:=1) (cG (ay (bH (iV T.fS) T.fJ aiY (ay (av 0) (ay (je T.K1 T.Jr) az))) (ay (bH (iV T.fS) T.fJ aiY (ay (av 0) (ay (je T.K3 T.Jt) az))) (ay (bH (iV T.fS) T.fJ aiY (ay (av 0) (ay (je T.K7 T.Jx) az))) (ay (bH (iV T.fS) T.fJ aiY (ay (av 0) (ay (je T.K9 T.Jz) az))) az))))) (hN:=tR.nd)) ?_;refine aS (bx (i:=1) (aQ iO (av 1) (cG (ay (bH (iV T.fS) T.fJ aiY (ay (av 0) (ay (je T.K2 T.Js) az))) (ay (bH (iV T.fS) T.fJ aiY (ay (av 0) (ay (je T.K4 T.Ju) az))) (ay (bH (iV T.fS) T.fJ aiY (ay (av 0) (ay (je T.K6 T.Jw) az))) (ay (bH (iV T.fS) T.fJ aiY (ay (av 0) (ay (je T.K0 T.Jq) az))) az)))))) (hN:=tR.nd)) ?_;refine aS (bx (i:=1) (aQ iO (av 1) (cG (ay (bH (iV T.fS) T.fJ aiY (ay (av 0) (ay (je T.K8 T.Jy) az))) (ay (bH (iV T.fS) T.fJ aiY (ay (av 0) (ay (je T.La T.JA) az))) (ay (bH (iV T.fS) T.fJ aiY (ay (av 0) (ay (je T.K5 T.Jv) az))) az))))) (hN:=tR.nd)) ?_;refine aS (fk (PW.pt (nS (dM qN (Ve (av 1) iz) aL) (qI (jd (jJ (bH (iV T.fS) T.fJ aiY (ay (av 0) (ay (qH rfl T.JG afi) az)))))))) (aX (bW fm)) gm) ?_;refine aS ?_ ?_
  ·with_reducible refine bx (i:=2) ?_ ?_ ?_ ?_ ?_ ?_
   ·with_reducible refine cG ?_
    with_reducible refine ay ?_ ?_ ?_
    ·exact fm
    ·skip
     with_reducible refine ay ?_ ?_ ?_
     ·exact fm
     ·skip
      with_reducible refine ay ?_ ?_ ?_
      ·exact fm
      ·skip
       with_reducible refine ay ?_ ?_ ?_
       ·exact fm
       ·skip
        with_reducible refine ay ?_ ?_ ?_
        ·exact fm
        ·skip
         with_reducible refine ay ?_ ?_ ?_
         ·exact fm
         ·skip
          with_reducible refine ay ?_ ?_ ?_
          ·exact fm
          ·skip
           with_reducible refine ay ?_ ?_ ?_
           ·exact fm
           ·skip
            with_reducible refine ay ?_ ?_ ?_
            ·exact fm
            ·skip
             with_reducible refine ay ?_ ?_ ?_
             ·exact fm
             ·skip
              with_reducible refine ay ?_ ?_ ?_
              ·exact fm
              ·skip
               with_reducible exact az
              ·exact bT rfl
             ·exact bT rfl
            ·exact bT rfl
           ·exact bT rfl
          ·exact bT rfl
         ·exact bT rfl
        ·exact bT rfl
       ·exact bT rfl
      ·exact bT rfl
     ·exact bT rfl
    ·exact bT rfl
   ·exact tR.nd
   ·rfl
   ·first|exact Or.inl rfl|exact Or.inr rfl
   ·rfl
   ·first|exact .inl rfl|exact .inr rfl
  ·skip
   exact(aX (bW (cH cI (av 2) (Va (av 1) iz))))
theorem RT:b6 ["q"] ["q"] (aR qe):=⟨rfl,rfl,rfl,by decide +kernel,rfl,by decide +kernel,by decide +kernel⟩
theorem xC(T:Tx K mg):bK P w K mg base bS 1 T.lH T.DW ["q"] (b7 K 1 gb) :=
 cN (k:=0) T.rH.fn RT rfl rfl λcdv A outer s H E hr=>by
  show bY _ _ sf;unfold sf;refine aX ?_
  with_reducible refine bW ?_
  with_reducible refine cH cI ?_ ?_ ?_
  ·with_reducible refine dw (N':=["p","q"]) (pick:=[θ,ζ 0]) ?_ ?_ ?_ ?_ ?_ ?_ ?_
   ·exact cB.of rfl rfl
   ·with_reducible refine mZ ?_
    with_reducible refine cG ?_
    with_reducible refine mP ?_
    kernel_rfl
   ·exact λ_ _ _ _ _ _=>(bQ (i:=0) (hN:=(by decide +kernel:υ (["p","q"]:List Str))))
   ·exact λ_ _ _ _ _ _=>(Uu (dM gF (aQ gR (av 1) (av 0)) aL))
   ·exact λ_ _ _ _ _ _=>(av 0)
   ·rfl
   ·intro _;rfl
  ·exact aL
  ·exact λ_ _=>rfl
theorem wA:b6 ["q","found"] ["q"] (aR qp):=⟨rfl,rfl,rfl,by decide +kernel,rfl,by decide +kernel,by decide +kernel⟩
theorem ID(T:Tx K mg):bK P w K mg base bS 2 T.lQ T.D6 ["q"] (b7 K 1 jN) :=
 cN (k:=1) T.zp.fn wA rfl rfl λcdv A outer s H E hr=>by
  show bY _ _ sC;unfold sC;refine aS (bx (i:=1) aL (hN:=wA.nd)) ?_;refine aS (Hx (n:=10) (dM IP (av 0) aL) (aS (bx (i:=0) (aQ ur (av 0) (bu T.rH (xC T) (hr.mono (by decide)) (ay (av 0) az))) (hN:=wA.nd)) (aX (bx (i:=1) (aQ cX (av 1) aL) (hN:=wA.nd))))) ?_
  exact(aX (bW (av 1)))
theorem wu:b6 ["number","p","many","found","k"] ["number","p","many"] (aR qb):=⟨rfl,rfl,rfl,by decide +kernel,rfl,by decide +kernel,by decide +kernel⟩
theorem qM(T:Tx K mg):bK P w K mg base bS 1 T.lE T.DT ["number","p","many"] (b7 K 3 fc) :=
 cN (k:=0) T.ni.fn wu rfl rfl λcdv A outer s H E hr=>by
  show bY _ _ sd;unfold sd;refine aS (bx (i:=3) (kr az) (hN:=wu.nd)) ?_;refine aS (fE (dB (ay (av 2) az) T.cM) (bQ (i:=4) (hN:=wu.nd)) (aS (kh (ug (av 3) (aQ gR (av 0) (av 1)))) (aX (bx (i:=0) (aQ ur (av 0) (av 1)) (hN:=wu.nd))))) ?_;exact(aX (bW (av 3)))
theorem wz:b6 ["row","p","found","k"] ["row","p"] (aR qj):=⟨rfl,rfl,rfl,by decide +kernel,rfl,by decide +kernel,by decide +kernel⟩
theorem IB(T:Tx K mg):bK P w K mg base bS 1 T.lK T.DZ ["row","p"] (b7 K 2 n8) :=
 cN (k:=0) T.zm.fn wz rfl rfl λcdv A outer s H E hr=>by
  show bY _ _ su;unfold su;refine aS (bx (i:=2) aL (hN:=wz.nd)) ?_;refine aS (fE (dB (ay (bH dc T.cS aiC (ay (av 0) az)) az) T.cM) (bQ (i:=3) (hN:=wz.nd)) (aX (bx (i:=2) (aQ cX (aQ gr (av 2) (av 1)) (cH cI (av 0) (aQ dZ (aQ dZ (bH dc T.cS aiC (ay (av 0) az)) aL) (av 3)))) (hN:=wz.nd)))) ?_;exact(aX (bW (av 2)))
theorem mE:b6 ["one","other","p","found","k","j"] ["one","other","p"] (aR pZ):=⟨rfl,rfl,rfl,by decide +kernel,rfl,by decide +kernel,by decide +kernel⟩
theorem VR(T:Tx K mg):bK P w K mg base bS 1 T.jW T.yu ["one","other","p"] (b7 K 3 kE) :=
 cN (k:=0) T.u6.fn mE rfl rfl λcdv A outer s H E hr=>by
  show bY _ _ kZ;unfold kZ;refine aS (bx (i:=3) (aQ IL (cG (ay aL az)) (aQ dZ (aQ cX (bH dc T.cS aiC (ay (av 0) az)) (bH dc T.cS aiC (ay (av 1) az))) aL)) (hN:=mE.nd)) ?_;refine aS (fE (dB (ay (bH dc T.cS aiC (ay (av 0) az)) az) T.cM) (bQ (i:=4) (hN:=mE.nd)) (aX (fE (dB (ay (bH dc T.cS aiC (ay (av 1) az)) az) T.cM) (bQ (i:=5) (hN:=mE.nd)) (aX (pN (aQ gR (aQ cX (cH cI (av 3) (aQ cX (av 4) (av 5))) (aQ gr (cH cI (av 0) (av 4)) (cH cI (av 1) (av 5)))) (av 2)) (yj (av 3) (aQ cX (av 4) (av 5)))))))) ?_;exact(aX (bW (av 3)))
theorem VN(T:Tx K mg):bK P w K mg base bS 1 T.jW T.yu ["one","other","p"] (b7 K 3 qT) :=
 cN (k:=0) T.u6.fn mE rfl rfl λcdv A outer s H E hr=>by
  show bY _ _ kZ;unfold kZ;refine aS (bx (i:=3) (aQ IL (cG (ay aL az)) (aQ dZ (aQ cX (bH dc T.cS aiC (ay (av 0) az)) (bH dc T.cS aiC (ay (av 1) az))) aL)) (hN:=mE.nd)) ?_;refine aS (fE (dB (ay (bH dc T.cS aiC (ay (av 0) az)) az) T.cM) (bQ (i:=4) (hN:=mE.nd)) (aX (fE (dB (ay (bH dc T.cS aiC (ay (av 1) az)) az) T.cM) (bQ (i:=5) (hN:=mE.nd)) (aX (pN (aQ gR (aQ cX (cH cI (av 3) (aQ cX (av 4) (av 5))) (aQ gr (cH cI (av 0) (av 4)) (cH cI (av 1) (av 5)))) (av 2)) (yj (av 3) (aQ cX (av 4) (av 5)))))))) ?_;exact(aX (bW (av 3)))
theorem pP:b6 ["many","p","found","k","longer","row"] ["many","p"] (aR ql):=⟨rfl,rfl,rfl,by decide +kernel,rfl,by decide +kernel,by decide +kernel⟩
theorem IC(T:Tx K mg):bK P w K mg base bS 1 T.lN T.D3 ["many","p"] (b7 K 2 mT) :=
 cN (k:=0) T.zo.fn pP rfl rfl λcdv A outer s H E hr=>by
  show bY _ _ ny;unfold ny;refine aS (bx (i:=2) (cG (ay (cG az) az)) (hN:=pP.nd)) ?_;refine aS (fE (dB (ay (av 0) az) T.cM) (bQ (i:=3) (hN:=pP.nd)) (aS (bx (i:=4) (kr az) (hN:=pP.nd)) (aS (fE (mZ (av 2)) (bQ (i:=5) (hN:=pP.nd)) (aX (kh (Ij (av 4) (dw (N':=["digit","row"]) (pick:=[θ,ζ 5]) (cB.of rfl rfl) (dB (ay (av 1) az) T.cM) (λ_ _ _ _ _ _=>(bQ (i:=0) (hN:=(by decide +kernel:υ (["digit","row"]:List Str))))) (λ_ _ _ _ _ _=>dJ) (λ_ _ _ _ _ _=>(aQ iO (av 1) (cG (ay (av 0) az))))))))) (aX (bx (i:=2) (av 4) (hN:=pP.nd)))))) ?_
  exact(aX (bW (dw (N':=["row"]) (pick:=[θ]) (cB.of rfl rfl) (mZ (av 2)) (λ_ _ _ _ _ _=>(bQ (i:=0) (hN:=(by decide +kernel:υ (["row"]:List Str))))) (λ_ _ _ _ _ _=>dJ) (λ_ _ _ _ _ _=>(aQ iO (av 0) (cG (ay aL az)))))))
theorem mG:b6 ["q","p","many","products","less","one","number"] ["q"] (aR qm):=⟨rfl,rfl,rfl,by decide +kernel,rfl,by decide +kernel,by decide +kernel⟩
theorem VY(T:Tx K mg):bK P w K mg base bS 3 T.lO T.D4 ["q"] (b7 K 1 qW) :=
 cN (k:=2) T.ED.fn mG rfl rfl λcdv A outer s H E hr=>by
  show bY _ _ sA;unfold sA;refine aS (bx (i:=1) (bu T.rH (xC T) (hr.mono (by decide)) (ay (av 0) az)) (hN:=mG.nd)) ?_
  refine aS (bx (i:=2) (bu T.zp (ID T) (hr.mono (by decide)) (ay (av 0) az)) (hN:=mG.nd)) ?_
  refine aS (fk (dM gF (av 2) aL) (aX (bW (cG (ay aL (ay aL az))))) gm) ?_;refine aS (bx (i:=3) (kr az) (hN:=mG.nd)) ?_;refine aS (fE (Ku (ay aL (ay (aQ cX (aQ ur (av 2) aL) aL) az)) T.cM) (bQ (i:=4) (hN:=mG.nd)) (aX (fE (mZ (bu T.zo (IC T) (hr.mono (by decide)) (ay (av 4) (ay (av 1) az)))) (bQ (i:=5) (hN:=mG.nd)) (aX (kh (Ij (av 3) (dw (N':=["other","one","p"]) (pick:=[θ,ζ 5,ζ 1]) (cB.of rfl rfl) (mZ (bu T.zo (IC T) (hr.mono (by decide)) (ay (aQ dZ (av 2) (av 4)) (ay (av 1) az)))) (λ_ _ _ _ _ _=>(bQ (i:=0) (hN:=(by decide +kernel:υ (["other","one","p"]:List Str))))) (λ_ _ _ _ _ _=>dJ) (λ_ _ _ _ _ _=>(bu T.u6 (VR T) (hr.mono (by decide)) (ay (av 1) (ay (av 0) (ay (av 2) az)))))))))))) ?_
  refine aS (bx (i:=6) aL (hN:=mG.nd)) ?_;refine aS (Hx (n:=60) (dM (WS (x6 hr)) (aQ iO (bu T.ni (qM T) (hr.mono (by decide)) (ay (av 6) (ay (av 1) (ay (av 2) az)))) (cG (ay aL az))) (av 3)) (aX (bx (i:=6) (aQ cX (av 6) aL) (hN:=mG.nd)))) ?_
  exact(aX (bW (aQ iO (bu T.ni (qM T) (hr.mono (by decide)) (ay (av 6) (ay (av 1) (ay (av 2) az)))) (cG (ay aL az)))))
theorem mF:b6 ["q","form","one","other","p","many","row","place","often","k","at"] ["q","form","one","other"] (aR qd):=⟨rfl,rfl,rfl,by decide +kernel,rfl,by decide +kernel,by decide +kernel⟩
theorem VW(T:Tx K mg):bK P w K mg base bS 2 T.lG T.DV ["q","form","one","other"] (b7 K 4 qV) :=
 cN (k:=1) T.EA.fn mF rfl rfl λcdv A outer s H E hr=>by
  show bY _ _ se;unfold se;refine aS (bx (i:=4) (bu T.rH (xC T) (hr.mono (by decide)) (ay (av 0) az)) (hN:=mF.nd)) ?_
  refine aS (bx (i:=5) (aQ dZ (bH dc T.cS aiC (ay (av 1) az)) aL) (hN:=mF.nd)) ?_;refine aS (bx (i:=6) (bu T.u6 (VN T) (hr.mono (by decide)) (ay (bu T.ni (qM T) (hr.mono (by decide)) (ay (av 2) (ay (av 4) (ay (av 5) az)))) (ay (bu T.ni (qM T) (hr.mono (by decide)) (ay (av 3) (ay (av 4) (ay (av 5) az)))) (ay (av 4) az)))) (hN:=mF.nd)) ?_
  refine aS (fE (aaD (ay (aQ dZ (bH dc T.cS aiC (ay (av 6) az)) aL) (ay (aQ dZ (av 5) aL) (ay (aQ dZ aL aL) az))) T.cM) (bQ (i:=7) (hN:=mF.nd)) (aS (bx (i:=8) (cH cI (av 6) (av 7)) (hN:=mF.nd)) (aX (fE (dB (ay (aQ cX (av 5) aL) az) T.cM) (bQ (i:=9) (hN:=mF.nd)) (aS (bx (i:=10) (aQ cX (aQ dZ (av 7) (av 5)) (av 9)) (hN:=mF.nd)) (aX (pN (aQ gR (aQ dZ (cH cI (av 6) (av 10)) (aQ gr (av 8) (cH cI (av 1) (av 9)))) (av 4)) (yj (av 6) (av 10))))))))) ?_;exact(aX (bW (bu T.zm (IB T) (hr.mono (by decide)) (ay (ud (av 6) tZ (tY (av 5))) (ay (av 4) az)))))
theorem wo:b6 ["q","one","other","sign","p","many","rows"] ["q","one","other","sign"] (aR p7):=⟨rfl,rfl,rfl,by decide +kernel,rfl,by decide +kernel,by decide +kernel⟩
theorem VS(T:Tx K mg):bK P w K mg base bS 3 T.lA T.DP ["q","one","other","sign"] (b7 K 4 mS) :=
 cN (k:=2) T.Ew.fn wo rfl rfl λcdv A outer s H E hr=>by
  show bY _ _ rZ;unfold rZ;refine aS (bx (i:=4) (bu T.rH (xC T) (hr.mono (by decide)) (ay (av 0) az)) (hN:=wo.nd)) ?_
  refine aS (bx (i:=5) (bu T.zp (ID T) (hr.mono (by decide)) (ay (av 0) az)) (hN:=wo.nd)) ?_
  refine aS (bx (i:=6) (cG (ay (bu T.ni (qM T) (hr.mono (by decide)) (ay (av 1) (ay (av 4) (ay (av 5) az)))) (ay (bu T.ni (qM T) (hr.mono (by decide)) (ay (av 2) (ay (av 4) (ay (av 5) az)))) az))) (hN:=wo.nd)) ?_
  exact(aX (bW (bu T.zm (IB T) (hr.mono (by decide)) (ay (dw (N':=["k","p","sign","rows"]) (pick:=[θ,ζ 4,ζ 3,ζ 6]) (cB.of rfl rfl) (dB (ay (av 5) az) T.cM) (λ_ _ _ _ _ _=>(bQ (i:=0) (hN:=(by decide +kernel:υ (["k","p","sign","rows"]:List Str))))) (λ_ _ _ _ _ _=>dJ) (λ_ _ _ _ _ _=>(aQ gR (aQ cX (cH cI (cH cI (av 3) aL) (av 0)) (aQ gr (av 2) (cH cI (cH cI (av 3) aL) (av 0)))) (av 1)))) (ay (av 4) az)))))
theorem HC:b6 ["q","form"] ["q"] (aR qc):=⟨rfl,rfl,rfl,by decide +kernel,rfl,by decide +kernel,by decide +kernel⟩
theorem VV(T:Tx K mg):bK P w K mg base bS 4 T.lF T.DU ["q"] (b7 K 1 qU) :=
 cN (k:=3) T.Ez.fn HC rfl rfl λcdv A outer s H E hr=>by
  show bY _ _ pq;unfold pq;refine aS (bx (i:=1) (bu T.ED (VY T) (hr.mono (by decide)) (ay (av 0) az)) (hN:=HC.nd)) ?_
  exact(aX (bW (dw (N':=["one","q","form"]) (pick:=[θ,ζ 0,ζ 1]) (cB.of rfl rfl) (dB (ay (av 0) az) T.cM) (λ_ _ _ _ _ _=>(bQ (i:=0) (hN:=(by decide +kernel:υ (["one","q","form"]:List Str))))) (λ_ _ _ _ _ _=>dJ) (λ_ _ _ _ _ _=>(dw (N':=["other","q","form","one"]) (pick:=[θ,ζ 1,ζ 2,ζ 0]) (cB.of rfl rfl) (dB (ay (av 1) az) T.cM) (λ_ _ _ _ _ _=>(bQ (i:=0) (hN:=(by decide +kernel:υ (["other","q","form","one"]:List Str))))) (λ_ _ _ _ _ _=>dJ) (λ_ _ _ _ _ _=>(bu T.EA (VW T) (hr.mono (by decide)) (ay (av 1) (ay (av 2) (ay (av 3) (ay (av 0) az)))))))))))
theorem HD:b6 ["pot","many","left"] ["pot","many"] (aR qi):=⟨rfl,rfl,rfl,by decide +kernel,rfl,by decide +kernel,by decide +kernel⟩
theorem xD(T:Tx K mg):bK P w K mg base bS 2 T.lJ T.DY ["pot","many"] (b7 K 2 ff) :=
 cN (k:=1) T.rJ.fn HD rfl rfl λcdv A outer s H E hr=>by
  show bY _ _ sj;unfold sj;refine aS (bx (i:=2) (U6 (ay (av 1) az) T.xQ T.cM) (hN:=HD.nd)) ?_;exact(aX (bW (kB kW T.iR ajh (ay (dw (N':=["k","left","pot"]) (pick:=[θ,ζ 2,ζ 0]) (cB.of rfl rfl) (dB (ay (av 1) az) T.cM) (λ_ _ _ _ _ _=>(bQ (i:=0) (hN:=(by decide +kernel:υ (["k","left","pot"]:List Str))))) (λ_ _ _ _ _ _=>dJ) (λ_ _ _ _ _ _=>(Ii (av 1) (bu T.iC (jh T) (hr.mono (by decide)) (ay (av 2) (ay (bH dc T.cS aiC (ay (av 1) az)) az)))))) az))))
theorem mH:b6 ["pot","n","rows","by","order","names","columns"] ["pot","n"] (aR qq):=⟨rfl,rfl,rfl,by decide +kernel,rfl,by decide +kernel,by decide +kernel⟩
theorem V0(T:Tx K mg):bK P w K mg base bS 3 T.lR T.D7 ["pot","n"] (b7 K 2 n9) :=
 cN (k:=2) T.EF.fn mH rfl rfl λcdv A outer s H E hr=>by
  show bY _ _ sD;unfold sD;refine aS (fk (PW.pt (Ik (dM gF (av 1) aL) (Il (dM gF (bu T.iC (jh T) (hr.mono (by decide)) (ay (av 0) (ay aL az))) aL)))) (aX (bx (i:=2) (dw (N':=["row","n"]) (pick:=[θ,ζ 1]) (cB.of rfl rfl) (dB (ay (av 1) az) T.cM) (λ_ _ _ _ _ _=>(bQ (i:=0) (hN:=(by decide +kernel:υ (["row","n"]:List Str))))) (λ_ _ _ _ _ _=>dJ) (λ_ _ _ _ _ _=>(dw (N':=["column","row"]) (pick:=[θ,ζ 0]) (cB.of rfl rfl) (dB (ay (av 1) az) T.cM) (λ_ _ _ _ _ _=>(bQ (i:=0) (hN:=(by decide +kernel:υ (["column","row"]:List Str))))) (λ_ _ _ _ _ _=>dJ) (λ_ _ _ _ _ _=>(aQ Wg (av 1) (av 0)))))) (hN:=mH.nd))) (aS (bx (i:=3) (aQ cX aL (bu T.iC (jh T) (hr.mono (by decide)) (ay (av 0) (ay (bH Mr T.Bj boot_max (ay aL (ay (aQ dZ (av 1) aL) az))) az)))) (hN:=mH.nd)) (aS (bx (i:=2) (dw (N':=["row","n","by"]) (pick:=[θ,ζ 1,ζ 3]) (cB.of rfl rfl) (dB (ay (av 1) az) T.cM) (λ_ _ _ _ _ _=>(bQ (i:=0) (hN:=(by decide +kernel:υ (["row","n","by"]:List Str))))) (λ_ _ _ _ _ _=>dJ) (λ_ _ _ _ _ _=>(dw (N':=["column","n","by","row"]) (pick:=[θ,ζ 1,ζ 2,ζ 0]) (cB.of rfl rfl) (dB (ay (av 1) az) T.cM) (λ_ _ _ _ _ _=>(bQ (i:=0) (hN:=(by decide +kernel:υ (["column","n","by","row"]:List Str))))) (λ_ _ _ _ _ _=>dJ) (λ_ _ _ _ _ _=>(aQ gR (aQ cX (aQ gr (av 2) (av 3)) (av 0)) (av 1)))))) (hN:=mH.nd)) (aX (fk (dM (IM (x6 hr)) (U4 (ay (dw (N':=["row"]) (pick:=[θ]) (cB.of rfl rfl) (mZ (av 2)) (λ_ _ _ _ _ _=>(bQ (i:=0) (hN:=(by decide +kernel:υ (["row"]:List Str))))) (λ_ _ _ _ _ _=>dJ) (λ_ _ _ _ _ _=>(cH cI (av 0) aL))) az) T.JB T.xP) (U7 (ay (av 1) az) T.xQ T.cM)) (aX (bx (i:=2) (dw (N':=["row","n"]) (pick:=[θ,ζ 1]) (cB.of rfl rfl) (dB (ay (av 1) az) T.cM) (λ_ _ _ _ _ _=>(bQ (i:=0) (hN:=(by decide +kernel:υ (["row","n"]:List Str))))) (λ_ _ _ _ _ _=>dJ) (λ_ _ _ _ _ _=>(dw (N':=["column","n","row"]) (pick:=[θ,ζ 1,ζ 0]) (cB.of rfl rfl) (dB (ay (av 1) az) T.cM) (λ_ _ _ _ _ _=>(bQ (i:=0) (hN:=(by decide +kernel:υ (["column","n","row"]:List Str))))) (λ_ _ _ _ _ _=>dJ) (λ_ _ _ _ _ _=>(aQ gR (aQ cX (av 2) (av 0)) (av 1)))))) (hN:=mH.nd))) gm))))) ?_
  refine aS (bx (i:=4) (bu T.rJ (xD T) (hr.mono (by decide)) (ay (av 0) (ay (av 1) az))) (hN:=mH.nd)) ?_
  refine aS (bx (i:=5) (bu T.rJ (xD T) (hr.mono (by decide)) (ay (av 0) (ay (av 1) az))) (hN:=mH.nd)) ?_
  refine aS (bx (i:=6) (bu T.rJ (xD T) (hr.mono (by decide)) (ay (av 0) (ay (av 1) az))) (hN:=mH.nd)) ?_
  exact(aX (bW (kB kW T.iR ajh (ay (dw (N':=["row","names","columns","rows"]) (pick:=[θ,ζ 5,ζ 6,ζ 2]) (cB.of rfl rfl) (qZ (av 4)) (λ_ _ _ _ _ _=>(bQ (i:=0) (hN:=(by decide +kernel:υ (["row","names","columns","rows"]:List Str))))) (λ_ _ _ _ _ _=>dJ) (λ_ _ _ _ _ _=>(kB kW T.iR ajh (ay (dw (N':=["column","names","rows","row"]) (pick:=[θ,ζ 1,ζ 3,ζ 0]) (cB.of rfl rfl) (qZ (av 2)) (λ_ _ _ _ _ _=>(bQ (i:=0) (hN:=(by decide +kernel:υ (["column","names","rows","row"]:List Str))))) (λ_ _ _ _ _ _=>dJ) (λ_ _ _ _ _ _=>(cH cI (av 1) (cH cI (cH cI (av 2) (av 3)) (av 0))))) az)))) az))))
theorem AL:b6 ["pot","rows","order"] ["pot"] (aR qa):=⟨rfl,rfl,rfl,by decide +kernel,rfl,by decide +kernel,by decide +kernel⟩
theorem VU(T:Tx K mg):bK P w K mg base bS 3 T.lD T.DS ["pot"] (b7 K 1 kF) :=
 cN (k:=2) T.Ey.fn AL rfl rfl λcdv A outer s H E hr=>by
  show bY _ _ r9;unfold r9;refine aS ?_ ?_
  ·with_reducible refine bx (i:=1) ?_ ?_ ?_ ?_ ?_ ?_
   ·with_reducible refine kr ?_
    with_reducible refine ay ?_ ?_ ?_
    ·with_reducible refine cG ?_
     with_reducible refine mP ?_
     kernel_rfl
    ·skip
     with_reducible refine ay ?_ ?_ ?_
     ·with_reducible refine cG ?_
      with_reducible refine mP ?_
      kernel_rfl
     ·skip
      with_reducible refine ay ?_ ?_ ?_
      ·with_reducible refine cG ?_
       with_reducible refine mP ?_
       kernel_rfl
      ·skip
       with_reducible refine ay ?_ ?_ ?_
       ·with_reducible refine cG ?_
        with_reducible refine mP ?_
        kernel_rfl
       ·skip
        with_reducible refine ay ?_ ?_ ?_
        ·with_reducible refine cG ?_
         with_reducible refine mP ?_
         kernel_rfl
        ·skip
         with_reducible exact az
        ·exact bT rfl
       ·exact bT rfl
      ·exact bT rfl
     ·exact bT rfl
    ·exact bT rfl
   ·exact AL.nd
   ·rfl
   ·first|exact Or.inl rfl|exact Or.inr rfl
   ·rfl
   ·first|exact .inl rfl|exact .inr rfl
  ·skip
   refine aS (kh (ug (av 1) (cG (mP (by kernel_rfl))))) ?_
   refine aS (bx (i:=2) (bu T.rJ (xD T) (hr.mono (by decide)) (ay (av 0) (ay aL az))) (hN:=AL.nd)) ?_
   exact(aX (bW (kB kW T.iR ajh (ay (dw (N':=["row","rows"]) (pick:=[θ,ζ 1]) (cB.of rfl rfl) (qZ (av 2)) (λ_ _ _ _ _ _=>(bQ (i:=0) (hN:=(by decide +kernel:υ (["row","rows"]:List Str))))) (λ_ _ _ _ _ _=>dJ) (λ_ _ _ _ _ _=>(kB kW T.iR ajh (ay (cH cI (av 1) (av 0)) az)))) az))))
theorem RS:b6 ["pot","n"] ["pot","n"] (aR p8):=⟨rfl,rfl,rfl,by decide +kernel,rfl,by decide +kernel,by decide +kernel⟩
theorem IA(T:Tx K mg):bK P w K mg base bS 4 T.lB T.DQ ["pot","n"] (b7 K 2 jl) :=
 cN (k:=3) T.zl.fn RS rfl rfl λcdv A outer s H E hr=>by
  show bY _ _ r8;unfold r8;refine aS (fk (PW.pt (Ik (dM gF (av 1) aL) (Il (dM gF (bu T.iC (jh T) (hr.mono (by decide)) (ay (av 0) (ay aL az))) aL)))) (aX (bW (bu T.Ey (VU T) (hr.mono (by decide)) (ay (av 0) az)))) gm) ?_
  exact(aX (bW (bu T.EF (V0 T) (hr.mono (by decide)) (ay (av 0) (ay (av 1) az)))))
theorem pQ:b6 ["q","products","found","often","rows","row"] ["q"] (aR qo):=⟨rfl,rfl,rfl,by decide +kernel,rfl,by decide +kernel,by decide +kernel⟩
theorem VZ(T:Tx K mg):bK P w K mg base bS 5 T.lP T.D5 ["q"] (b7 K 1 uD) :=
 cN (k:=4) T.EE.fn pQ rfl rfl λcdv A outer s H E hr=>by
  show bY _ _ pB;unfold pB;refine aS (bx (i:=1) (bu T.Ez (VV T) (hr.mono (by decide)) (ay (av 0) az)) (hN:=pQ.nd)) ?_
  refine aS (bx (i:=2) (kr az) (hN:=pQ.nd)) ?_;refine aS (fE (Ku (ay aL (ay (av 0) az)) T.cM) (bQ (i:=3) (hN:=pQ.nd)) (aS (bx (i:=4) (kr az) (hN:=pQ.nd)) (aS (fE (dB (ay (av 0) az) T.cM) (bQ (i:=5) (hN:=pQ.nd)) (aX (kh (ug (av 4) (kB kW T.iR ajh (ay (dw (N':=["column","q","row","products","often"]) (pick:=[θ,ζ 0,ζ 5,ζ 1,ζ 3]) (cB.of rfl rfl) (dB (ay (av 0) az) T.cM) (λ_ _ _ _ _ _=>(bQ (i:=0) (hN:=(by decide +kernel:υ (["column","q","row","products","often"]:List Str))))) (λ_ _ _ _ _ _=>dJ) (λ_ _ _ _ _ _=>(bu T.Ew (VS T) (hr.mono (by decide)) (ay (av 1) (ay (cH cI (cH cI (av 3) (av 4)) (av 2)) (ay (av 0) (ay aL az))))))) az)))))) (aX (kh (ug (av 2) (kB kW T.iR ajh (ay (av 4) az)))))))) ?_
  exact(aX (bW (av 2)))
theorem tQ:b6 ["pot","n","left","found","k"] ["pot"] (aR p9):=⟨rfl,rfl,rfl,by decide +kernel,rfl,by decide +kernel,by decide +kernel⟩
theorem VT(T:Tx K mg):bK P w K mg base bS 6 T.lC T.DR ["pot"] (b7 K 1 nY) :=
 ack (k:=5) T.Ex.fn tQ rfl rfl λcdv A outer s H E hr=>by
  show bY _ _ nv;unfold nv;refine aS (bx (i:=1) (aQ cX aL (bu T.iC (jh T) (hr.mono (by decide)) (ay (av 0) (ay aL az)))) (hN:=tQ.nd)) ?_
  refine aS (fk (dM gF (av 1) aL) (aX (bW (fY (ay (av 1) (ay (ud (cG (ay (bu T.zl (IA T) (hr.mono (by decide)) (ay (av 0) (ay (av 1) az))) az)) tZ (tY (bu T.iC (jh T) (hr.mono (by decide)) (ay (av 0) (ay aL az))))) az))))) gm) ?_
  refine aS (bx (i:=2) (bu T.EE (VZ T) (hr.mono (by decide)) (ay (av 1) az)) (hN:=tQ.nd)) ?_
  refine aS (bx (i:=3) (kr az) (hN:=tQ.nd)) ?_;refine aS (fE (dB (ay (bu T.iC (jh T) (hr.mono (by decide)) (ay (av 0) (ay (av 1) az))) az) T.cM) (bQ (i:=4) (hN:=tQ.nd)) (aX (kh (ug (av 3) (Ii (av 2) (bu T.iC (jh T) (hr.mono (by decide)) (ay (av 0) (ay (bH dc T.cS aiC (ay (av 2) az)) az)))))))) ?_
  exact(aX (bW (fY (ay (av 1) (ay (av 3) az)))))
theorem HA:b6 ["way","n","squares","e"] ["way","n","squares"] (aR pX):=⟨rfl,rfl,rfl,by decide +kernel,rfl,by decide +kernel,by decide +kernel⟩
theorem xB(T:Tx K mg):bK P w K mg base bS 8 T.ly T.DN ["way","n","squares"] (b7 K 3 e8) :=
 cN (k:=7) T.rG.fn HA rfl rfl λcdv A outer s H E hr=>by
  show bY _ _ kY;unfold kY;refine aS (RM (T:=dR) (i:=3) (aX (fk (dM gF (av 0) aL) (aX AJ) (aX (fk (dM gF (av 0) aL) (aX (kh (bu T.u5 (VP T) (hr.mono (by decide)) (ay (av 1) (ay (av 2) az))))) (aX AJ))))) (λW pn=>(iZ (vN (dM gF (av 0) aL) (iZ (sQ (sR T.Et (VL T) (hr.mono (by decide)) (ay (av 1) (ay (av 2) az))))) (iZ (vN (dM gF (av 0) aL) (iZ (sQ (sR T.u5 (VM T) (hr.mono (by decide)) (ay (av 1) (ay (av 2) az))))) (iZ (sQ (sR T.Es (VJ T) (hr.mono (by decide)) (ay (av 1) az))))))))) (λea=>(Vd T.EC (Wb T) (iY.held (hr.mono (by decide))) (ay (av 3) az))) T.KZ (Ou T.xw) (hN:=HA.nd)) ?_
  exact(aX (bW fm))
theorem iu:b6 ["script","k","pot","n","squares","some","bads","far","one","other"] ["script"] (aR qu):=⟨rfl,rfl,rfl,by decide +kernel,rfl,by decide +kernel,by decide +kernel⟩
theorem V6(T:Tx K mg):bK P w K mg base bS 9 T.jX T.D9 ["script"] (b7 K 1 uE) :=
 cN (k:=8) T.LX.fn iu rfl rfl λcdv A outer s H E hr=>by
  show bY _ _ sE;unfold sE;refine aS (fE (dB (ay (bH Mr T.Bj boot_max (ay aL (ay (bH aeR T.JC boot_min (ay (bH dc T.cS aiC (ay (av 0) az)) (ay aL az))) az))) az) T.cM) (bQ (i:=1) (hN:=iu.nd)) (aS (bx (i:=2) (bu T.EB (VX T) (hr.mono (by decide)) (ay (bu T.EG (V5 T) (hr.mono (by decide)) (ay (av 0) (ay (av 1) az))) az)) (hN:=iu.nd)) (aS (pN (bu T.Ex (VT T) (hr.mono (by decide)) (ay (av 2) az)) (Dw (n:=2) (rq (bQ (i:=3) (hN:=iu.nd)) (rq (bQ (i:=4) (hN:=iu.nd)) Dv)))) (aS (bx (i:=5) (bu T.zl (IA T) (hr.mono (by decide)) (ay (av 2) (ay (aQ cX aL (aQ gR (aQ dZ (av 3) aL) aL)) az))) (hN:=iu.nd)) (aS (bx (i:=6) (cG (ay (fY (ay (av 3) (ay (aQ iO (av 4) (cG (ay (av 5) az))) az))) (ay (fY (ay (av 3) (ay (aQ iO (cG (ay qJ az)) (av 4)) az))) (ay (fY (ay (av 3) (ay (kB kW T.iR ajh (ay (av 4) az)) az))) (ay (fY (ay (av 3) (ay qJ az))) (ay (fY (ay (av 3) (ay (aQ iO (av 4) (cG (ay (cG az) az))) az))) az)))))) (hN:=iu.nd)) (aS (fk (dM (IM (x6 hr)) (av 4) (cG az)) (aX (bx (i:=6) (aQ iO (av 6) (cG (ay (fY (ay (av 3) (ay (aQ iO (av 4) (ud (av 4) tZ (tY aL))) az))) (ay (fY (ay (av 3) (ay (aQ Wj (ud (av 4) tZ (tY aL)) aL) az))) (ay (fY (ay aL (ay (av 4) az))) (ay (fY (ay (av 3) (ay (cH cI (av 4) aL) az))) az)))))) (hN:=iu.nd))) gm) (aS (bx (i:=7) (cH cI (cG (ay aL (ay aL (ay aL (ay (aQ dZ aL aL) (ay iz (ay qJ (ay fm (ay (fY (ay aL az)) (ay (aQ xE aL aL) az)))))))))) (bu T.iC (jh T) (hr.mono (by decide)) (ay (av 2) (ay aL az)))) (hN:=iu.nd)) (aS (bx (i:=6) (aQ iO (av 6) (cG (ay (fY (ay (av 7) (ay (cG az) az))) (ay (fY (ay (av 7) (ay (av 4) az))) az)))) (hN:=iu.nd)) (aS (pN (cH cI (av 6) (bu T.iC (jh T) (hr.mono (by decide)) (ay (av 2) (ay (bH dc T.cS aiC (ay (av 6) az)) az)))) (Dw (n:=2) (rq (bQ (i:=8) (hN:=iu.nd)) (rq (bQ (i:=9) (hN:=iu.nd)) Dv)))) (aS (fk (PW.pt (nS (dM qN (bu T.rG (xB T) (hr.mono (by decide)) (ay aL (ay (av 8) (ay (av 9) az)))) fm) (qI (dM qN (bu T.rG (xB T) (hr.mono (by decide)) (ay aL (ay (av 8) (ay (av 9) az)))) fm)))) (aX (bW iz)) gm) (aS (bx (i:=7) (cH cI (cG (ay aL (ay aL (ay aL (ay aL (ay (aQ dZ aL aL) (ay iz (ay qJ (ay fm (ay (fY (ay aL az)) (ay (aQ xE aL aL) az))))))))))) (bu T.iC (jh T) (hr.mono (by decide)) (ay (av 2) (ay aL az)))) (hN:=iu.nd)) (aX (fk (PW.pt (nS (dM qN (bu T.rG (xB T) (hr.mono (by decide)) (ay aL (ay (av 7) (ay qJ az)))) fm) (qI (dM qN (bu T.rG (xB T) (hr.mono (by decide)) (ay aL (ay (av 3) (ay (av 4) az)))) fm)))) (aX (bW iz)) gm))))))))))))) ?_
  exact(aX (bW iz))
end
end Ev
namespace Ev
open PySem L2
theorem bN{s t:ah}{e e':Ev}{c c':aa}(h:s e c=.ok (.nx e') c'):aD s t e c=t e' c':=by rw[g9,h];rfl
theorem qS{i:Int}(h:0<=i):∃n:Nat,i=n:=⟨i.toNat,by omega⟩
def dH(j:Nat) (n:Nat) (c:aa):Prop:=c.length=n/\j<n/\∃p:Int,c[j]? = ζ (.lst [.int p])
theorem dH.set{j n:Nat}{c:aa}(h:dH j n c) (p:Int):dH j n (c.set j (.lst [.int p])):=by
 obtain⟨h1,h2,_⟩:=h;exact⟨by simp[h1],h2,p,by rw[ai5 (by omega)]⟩
theorem mz{j n:Nat}{c:aa}{cQ:Int}(h:dH j n c) (h0:0<cQ) (h1:cQ<1073741824) :
  ∃(x:Int) (c':aa),0<=x/\x<cQ/\dH j n c'/\bC [.ref j,.int cQ] c=.ok (.int x) c':=by
 obtain⟨hl,hj,p,hp⟩:=id h;refine⟨p % cQ,c.set j (.lst [.int (p/cQ)]),ajE _ (by omega),ajF _ h0,h.set _,?_⟩
 have e1:aH (.ref j) (.int 0) c=.ok (.int p) c:=by
  unfold aH fW;simp[hp]
 have e2:kg (.ref j) (.int 0) (.int (p/cQ)) c=.ok () (c.set j (.lst [.int (p/cQ)])):=by
  unfold kg;simp[hp,fL]
 have e3:(c.set j (.lst [.int (p/cQ)])).take c.length=c.set j (.lst [.int (p/cQ)]):=by
  rw[aj1];simp
 simp(disch:=omega) [bC,pe,e1,jM,rE,e2,e3]
theorem Tr(cell:Int) (c:aa):∃p:Int,nZ [.int cell] c=.ok (.ref c.length) (c++[.lst [.int p]]):=by
 by_cases h:10^18<=cell
 ·refine⟨cell-10^18,?_⟩;simp(disch:=omega) [nZ,pA,HZ,h];rw[if_pos (by simpa using h)]
  simp[eF]
 ·obtain⟨e',c',⟨⟨q,v1,v2,rfl⟩,rfl⟩,hf⟩:=DA (g:=aB 2) (s:=(aD (aF 3 (au bL (au bg (au aZ (au aZ (au bL (ak 0) (dC (.int 2147483629))) (au bg (dC (.int 7919)) (ak 2))) (dC (.int 1))) (dC (.int 48271))) (dC (.int 2147483647)))) (aD (aF 3 (au bL (au aZ (au aZ (au bg (ak 3) (ak 3)) (au bg (dC (.int 69621)) (ak 2))) (dC (.int 7))) (dC (.int 2147483587)))) (aF 1 (au aZ (au bg (ak 1) (dC (.int 2147483587))) (ak 3))))))
   (λe c'=>(∃q v1 v2,e=[ζ (.int cell),ζ (.int q),v1,v2])/\c'=c) (bf 0 64) [ζ (.int cell),ζ (.int 0),θ,θ] c ⟨⟨0,θ,θ,rfl⟩,rfl⟩ (λx hx e c' ⟨⟨q,v1,v2,he⟩,hc⟩=>by
    obtain⟨i,rfl,i0,i1⟩:=uA hx;subst he;subst hc;have b0:0<=(cell % 2147483629+7919*i+1)*48271 % 2147483647:=ajE _ (by decide)
    have b1:(cell % 2147483629+7919*i+1)*48271 % 2147483647<2147483647:=ajF _ (by decide)
    generalize hm:(cell % 2147483629+7919*i+1)*48271 % 2147483647=m at b0 b1
    refine⟨_,[ζ (.int cell),ζ (.int (q*2147483587+(m*m+69621*i+7) % 2147483587)),ζ (.int i),ζ (.int ((m*m+69621*i+7) % 2147483587))],_,_,rfl,by simp(disch:=omega) [jM,xR,mul_r,hm],⟨⟨_,_,_,rfl⟩,rfl⟩⟩)
  refine⟨q,?_⟩;have hh:¬(1000000000000000000<=cell):=by simpa using h
  simp(disch:=omega) [nZ,pA,HZ,hh];rw[hf];simp[eF]
theorem aeQ(ns:List Int) (k:Int) (h:0<=k) (c:aa):∃x:Int,oh [.cE ns,.int k] c=.ok (.int x) c:=by
 by_cases q:k<ns.length
 ·have hk:k.toNat<ns.length:=by omega
  refine⟨ns[k.toNat],?_⟩;have e:aH (.cE ns) (.int k) c=.ok (.int ns[k.toNat]) c:=by
   show(match cF (ns.map D.int) k with|some d=>R.ok d c|none=>R.bad)=_
   have:cF (ns.map D.int) k=ζ (.int ns[k.toNat]):=by
    have:=gX (xs:=ns.map D.int) (j:=k.toNat) (v:=.int ns[k.toNat]) (by simp[hk])
    rw[Int.toNat_of_nonneg h]at this;exact this
   rw[this]
  simp[oh,pC,q,e]
 ·exact⟨0,by simp[oh,pC,q]⟩
theorem take2{j:Nat}{c:aa}{p cQ:Int}(hp:c[j]? = ζ (.lst [.int p])) (h0:0<cQ) (h1:cQ<1073741824):bC [.ref j,.int cQ] c=.ok (.int (p % cQ)) (c.set j (.lst [.int (p/cQ)])):=by
 have hj:j<c.length:=(aix.mp hp).1;have e1:aH (.ref j) (.int 0) c=.ok (.int p) c:=by
  unfold aH fW;simp[hp]
 have e2:kg (.ref j) (.int 0) (.int (p/cQ)) c=.ok () (c.set j (.lst [.int (p/cQ)])):=by
  unfold kg;simp[hp,fL]
 have e3:(c.set j (.lst [.int (p/cQ)])).take c.length=c.set j (.lst [.int (p/cQ)]):=by
  rw[aj1];simp
 simp(disch:=omega) [bC,pe,e1,jM,rE,e2,e3]
theorem Lw(l:List D):l.filter (λ_=>Θ)=l:=by simp
theorem HJ{β:Type}(m:Nat) (F:D->β):(bf 0 (m:Int)).map F=(η m).map λi:Nat=>F (.int (i:Int)):=by
 unfold bf;rw[aiG,show((m:Int)-0).toNat=m by omega]
 refine ajl λi _=>?_
 simp
def PO(j n:Nat) (os:List Nat) (c:aa):Prop:=c.length=n+1/\j<n/\(∃p:Int,c[j]? = ζ (.lst [.int p]))/\c[n]? = ζ (.lst (nD os))
def uo:af:=(jy (ak 1) (aA 2 bC (ao (ak 2) (ao (aE aU (ao (ak 1) aq)) aq))))
theorem YR(l:List Nat) (i:Nat):(nD l).eraseIdx i=nD (l.eraseIdx i):=by
 rw[ajN,ajN];simp[nD,ajO,alE]
theorem zf{l:List Nat}{i:Nat}(h:i<l.length):l.Perm (l[i]::l.eraseIdx i):=by
 have e:l.take i++l[i]::l.drop (i+1)=l:=by rw[<-akF h,ajM]
 rw[ajN];have p:(l.take i++l[i]::l.drop (i+1)).Perm (l[i]::(l.take i++l.drop (i+1))):=alz
 rwa[e]at p
theorem Vt{j n:Nat}{left:List Nat}{c:aa}{v:Option D}(hP:PO j n left c) (h1:0<left.length) (h2:left.length<1000) :
  ∃(x:Nat) (rest:List Nat) (c':aa),left.Perm (x::rest)/\PO j n rest c'/\(∀k,k≠j->k<n->c'[k]? = c[k]?)/\uo [v,ζ (.ref n),ζ (.ref j)] c=.ok (.int (x:Int)) c':=by
 obtain⟨g1,g2,⟨p,g3⟩,g4⟩:=hP;have ht:=take2 (cQ:=(left.length:Int)) g3 (by omega) (by omega)
 have x0:=ajE p (show(left.length:Int)≠0 by omega)
 have x1:=ajF p (show(0:Int)<(left.length:Int) by omega)
 generalize p % (left.length:Int)=x at ht x0 x1
 obtain⟨i,rfl⟩:=qS x0
 generalize hc1:c.set j (.lst [.int (p/(left.length:Int))])=c1 at ht
 have l1:c1.length=n+1:=by rw[<-hc1];simp[g1]
 have q1:c1[n]? = ζ (.lst (nD left)):=by rw[<-hc1,aiX (by omega)];exact g4
 have q0:c1[j]? = ζ (.lst [.int (p/(left.length:Int))]):=by rw[<-hc1,ai5 (by omega)]
 have hi:i<left.length:=by omega
 have hlen:aU [.ref n] c=.ok (.int (left.length:Int)) c:=by
  unfold aU;dsimp only[fW];rw[g4];simp[nD]
 have hget:(nD left)[i]? = ζ (.int (left[i]:Nat)):=by simp[nD,hi]
 refine⟨left[i],left.eraseIdx i,c1.set n (.lst (nD (left.eraseIdx i))),zf hi,⟨by simp[l1],g2,⟨_,by rw[aiX (by omega)];exact q0⟩,by rw[ai5 (by omega)]⟩,λk k1 k2=>by rw[aiX (by omega),<-hc1,aiX (by omega)],?_⟩
 unfold uo jy;simp only[bX,gz,gs,R.aC,x_call,bz,fU,bG,hlen,aiv,aiR,if_pos,ht,q1];rw[if_pos ⟨by omega,by rw[show(nD left).length=left.length by simp[nD]];omega,by rw[show(nD left).length=left.length by simp[nD]];omega⟩,aky,hget]
 dsimp only;rw[YR]
theorem Iu{j n:Nat}:∀(ks:List D) (v:Option D) (acc:List D) (left:List Nat) (c:aa),left.length=ks.length->left.length<1000->PO j n left c ->
  ∃(os:List Nat) (c':aa),os.Perm left/\PO j n [] c'/\(∀k,k≠j->k<n->c'[k]? = c[k]?)/\bR (λ_=>True) (aB 0) aO uo ks [v,ζ (.ref n),ζ (.ref j)] acc c=.ok (acc++nD os) c'
 |[],v,acc,left,c,hl,_,hP=>by
  have:left=[]:=alA.mp (by simpa using hl)
  subst this;exact⟨[],c,.refl _,hP,λ_ _ _=>rfl,by simp[nD]⟩
 |k::ks,v,acc,left,c,hl,h2,hP=>by
  rw[aiv]at hl;obtain⟨x,rest,c1,hp,P1,f1,h1⟩:=Vt (v:=ζ k) hP (by omega) h2
  have hr:rest.length+1=left.length:=by have:=hp.length_eq;simpa using this.symm
  obtain⟨os,c2,hp2,P2,f2,h⟩:=Iu ks (ζ k) (acc++[.int (x:Int)]) rest c1 (by omega) (by omega) P1
  refine⟨x::os,c2,(hp2.cons x).trans hp.symm,P2,λk k1 k2=>(f2 k k1 k2).trans (f1 k k1 k2),?_⟩
  have e1:aB 0 k [v,ζ (.ref n),ζ (.ref j)] c=.ok [ζ k,ζ (.ref n),ζ (.ref j)] c:=rfl;rw[kU,e1,R.aC,nI,R.aC,if_pos rfl,h1,R.aC,h,aiZ];rfl
theorem Vq{j:Nat}{q:Int}{c:aa}(b:0<q/\q<1000):(aF 2 (u9 (ao (ak 1) aq))) [ζ (.ref j),ζ (.int q),θ] c=.ok (.nx [ζ (.ref j),ζ (.int q),ζ (.ref c.length)]) (c++[.lst ((gp 0 q).map D.int)]):=by
 simp only[fT,OI,bz,bX,gz,gs,bG,R.aC];rw[if_pos b];rfl
theorem Vp{j n:Nat}{q:Int}{l:List D}{c c':aa}(b:-4611686018427387904<=q/\q<4611686018427387904) (hl:(bf 0 q).length<ι) (hc:bR (λ_=>True) (aB 0) aO uo (bf 0 q) [θ,ζ (.ref n),ζ (.ref j)] [] c=.ok l c'):(aP (aE cA (ao (aW (bh (ao (ak 1) aq)) [θ,ζ 2,ζ 0] (aB 0) aO (jy (ak 1) (aA 2 bC (ao (ak 2) (ao (aE aU (ao (ak 1) aq)) aq))))) aq))) [ζ (.ref j),ζ (.int q),ζ (.ref n)] c=.ok (.rt (.tup l)) c':=by
 have hp:cV [θ,ζ 2,ζ 0] [ζ (.ref j),ζ (.int q),ζ (.ref n)]=[θ,ζ (.ref n),ζ (.ref j)]:=rfl;unfold uo at hc;simp only[j7,fU,bz,dX,ic,bX,gz,gs,bG,R.aC];rw[if_pos (by omega)]
 simp only[R.aC];rw[if_pos hl,hp,hc];rfl
theorem HK(m:Nat):gp 0 (m:Int)=(η m).map λk:Nat=>(k:Int):=by
 unfold gp;rw[show((m:Int)-0).toNat=m by omega]
 refine ajl λk _=>?_
 omega
theorem Iq{j n m:Nat}{c:aa}(hP:dH j n c) (h1:1<=m) (hm:m<1000):∃os c',os.Perm (η m)/\dH j n c'/\(∀k,k≠j->k<n->c'[k]? = c[k]?)/\ff [.ref j,.int (m:Int)] c=.ok (.tup (nD os)) c':=by
 have hs:=eN (n:=1000) (by decide)
 obtain⟨hl,hj,p,hp⟩:=hP;have e0:=Vq (j:=j) (q:=(m:Int)) (c:=c) (by omega)
 have hr:(gp 0 (m:Int)).map D.int=nD (η m):=by rw[HK];simp[nD]
 rw[hr]at e0;have P0:PO j n (η m) (c++[.lst (nD (η m))]):=⟨by simp[hl],hj,⟨p,by rw[ai2 (by omega)];exact hp⟩,by rw[ajd (by omega),hl];simp⟩
 obtain⟨os,c2,ho,P2,f2,hc⟩:=Iu (bf 0 (m:Int)) θ [] (η m) _ (by rw[fF,ai8];omega) (by rw[ai8];omega) P0
 rw[aiM]at hc;have e1:=Vp (q:=(m:Int)) (by omega) (by rw[fF];omega) hc
 have hb:sj=aD (aF 2 (u9 (ao (ak 1) aq))) (aP (aE cA (ao (aW (bh (ao (ak 1) aq)) [θ,ζ 2,ζ 0] (aB 0) aO (jy (ak 1) (aA 2 bC (ao (ak 2) (ao (aE aU (ao (ak 1) aq)) aq))))) aq))):=rfl;have es:cD 3 [D.ref j,.int (m:Int)]=[ζ (.ref j),ζ (.int (m:Int)),θ]:=rfl;obtain⟨l3,_,⟨p3,q3⟩,_⟩:=P2;refine⟨os,c2.take n,ho,⟨by rw[ajw];omega,hj,p3,by rw[akw hj];exact q3⟩,λk k1 k2=>by rw[akw k2,f2 k k1 k2,ai2 (by omega)],?_⟩
 rw[hl]at e0;rw[ff,fC,hb,es,bN e0,e1];simp only[R.aC];rw[tW,if_pos (A9 os),hl]
theorem A4{j n m:Nat}{c:aa}(hP:dH j n c) (h1:1<=m) (hm:m<1000):∃os c',os.Perm (η m)/\dH j n c'/\ff [.ref j,.int (m:Int)] c=.ok (.tup (nD os)) c' :=
 let⟨os,c',h1,h2,_,h3⟩:=Iq hP h1 hm
 ⟨os,c',h1,h2,h3⟩
theorem AH{s t:ah}{e:Ev}{c c':aa}{d:D}(h:s e c=.ok (.rt d) c'):aD s t e c=.ok (.rt d) c':=by
 rw[g9,h];rfl
def It(d:D):Prop:=(∃i:Int,d=.int i)\/d=.bl Θ\/d=.aM\/(∃z,d=.str z)\/∃l,d=.tup l
def iy(q:Int):D->Bool
 |.int i=>decide (0<=i)&&decide (i<=q-1)
 |_=>Ψ
def uK:D->Bool
 |.int _=>Θ
 |_=>Ψ
theorem OR{d:D}(h:It d) (c:aa):jm [d] c=.ok (.bl (uK d)) c:=by
 have tu:∀l,bO [.tup l,.ty "int"] c=.ok (.bl Ψ) c:=λ_=>rfl
 rcases h with⟨i,rfl⟩|rfl|rfl|⟨z,rfl⟩|⟨l,rfl⟩<;>simp[jm,iD,uK,tu]
theorem aaw{d:D}(h:uK d=Ψ) (q:Int):iy q d=Ψ:=by
 cases d<;>first|(cases h;done)|rfl
theorem aav{d:D}(h:uK d=Θ):∃i,d=.int i:=by
 cases d<;>first|(cases h;done)|exact⟨_,rfl⟩
theorem OQ{d:D}(h:It d) (q:Int) (c:aa):d7 [d,.int 0,.int (q-1)] c=.ok (.bl (iy q d)) c:=by
 have hw:=OR h c;cases hi:uK d with
 |false =>
  rw[hi]at hw;rw[aaw hi];simp[d7,gW,hw]
 |true =>
  obtain⟨i,rfl⟩:=aav hi;rw[hi]at hw
  by_cases q0:0<=i<;>simp[d7,gW,hw,iy,q0]
theorem Ng{a:af}{T:D}{q:Int}{c:aa}(ha:∀d,It d->a [ζ d,ζ T] c=.ok (.bl (iy q d)) c):∀(l:List D) (v:Option D) (acc:List D),(∀d∈l,It d)->bR (λ_=>True) (aB 0) aO a l [v,ζ T] acc c=.ok (acc++(l.map (iy q)).map D.bl) c
 |[],v,acc,_=>by simp
 |d::l,v,acc,h=>by
  have h1:aB 0 d [v,ζ T] c=.ok [ζ d,ζ T] c:=rfl;rw[kU,h1,R.aC,nI,R.aC,if_pos rfl,ha d (h d (.head _)),R.aC,Ng ha l _ _ (λz hz=>h z (.tail _ hz)),aiZ]
  rfl
theorem vt(l:List Bool) (c:aa):fh [.lst (l.map D.bl)] c=.ok (.bl (l.all id)) c:=by
 unfold fh wJ;dsimp only;rw[MY]
theorem t7:∀{A B:List Nat},A.Nodup->(∀x∈A,x∈B)->A.length=B.length->A.Perm B
 |[],B,_,_,hl=>by
  have:B=[]:=alA.mp (by simpa using hl.symm)
  subst this;exact .refl _
 |a::A,B,hn,hs,hl=>by
  obtain⟨h1,h2⟩:=ajI.mp hn;have ha:=hs a (.head _);have hp:=List.perm_cons_erase ha;have he:(B.erase a).length=B.length-1:=ali ha;have ih:=t7 (A:=A) (B:=B.erase a) h2 (λx hx=>(alh (λe:x=a=>h1 (by rw[<-e];exact hx))).mpr (hs x (.tail _ hx))) (by rw[he];rw[aiv]at hl;omega)
  exact(ih.cons a).trans hp.symm
theorem Qt{ps:List Nat}{m:Nat}(hl:ps.length=m) (hm:∀p∈ps,p<m):(cj ps).length=m↔ps.Perm (η m):=by
 have hn:=xO (pJ ps)
 constructor
 ·intro h;have h1:(cj ps).Perm ps:=t7 hn (λx hx=>mQ.mp hx) (by omega)
  have h2:(cj ps).Perm (η m):=t7 hn (λx hx=>ain.mpr (hm x (mQ.mp hx))) (by rw[ai8];exact h)
  exact h1.symm.trans h2
 ·intro h;have hd:ps.Nodup:=h.nodup_iff.mpr amx;have h1:ps.Perm (cj ps):=(ams hd hn).mpr λx=>mQ.symm
  rw[<-h1.length_eq,hl]
theorem Bm(ps:List Nat):nD ps=(ps.map λk:Nat=>(k:Int)).map D.int:=by simp[nD]
theorem EW:∀{ps qs:List Nat},ps.map (λk:Nat=>(k:Int))=qs.map (λk:Nat=>(k:Int))->ps=qs
 |[],[],_=>rfl
 |[],q::qs,h=>by simp at h
 |p::ps,[],h=>by simp at h
 |p::ps,q::qs,h=>by
  rw[ais,ais]at h;obtain⟨h1,h2⟩:=List.cons.inj h;rw[EW h2,show p=q by omega]
theorem Kq:∀{a b:List Int},a.map D.int=b.map D.int->a=b
 |[],[],_=>rfl
 |[],y::b,h=>by simp at h
 |x::a,[],h=>by simp at h
 |x::a,y::b,h=>by
  rw[ais,ais]at h;obtain⟨h1,h2⟩:=List.cons.inj h;cases h1;rw[Kq h2]
theorem YQ{ps qs:List Nat}(h:nD ps=nD qs):ps=qs:=by
 rw[Bm,Bm]at h;exact EW (Kq h)
theorem Nf{m:Nat}:∀{xs:List D},(xs.map (iy (m:Int))).all id=Θ->∃ps:List Nat,xs=nD ps/\∀p∈ps,p<m
 |[],_=>⟨[],rfl,λp hp=>(by cases hp)⟩
 |d::xs,h=>by
  rw[ais,List.all_cons,aiy]at h;obtain⟨ps,rfl,hp⟩:=Nf h.2;have hd:iy (m:Int) d=Θ:=h.1;cases d with
  |int i =>
   simp only[iy,aiy,decide_eq_true_eq]at hd;obtain⟨k,rfl⟩:=qS hd.1;exact⟨k::ps,rfl,λp d9=>by
    rcases aio.mp d9 with rfl|h'
    ·omega
    ·exact hp p h'⟩
  |_=>cases hd
theorem Ia{m:Nat}:∀{ps:List Nat},(∀p∈ps,p<m)->((nD ps).map (iy (m:Int))).all id=Θ
 |[],_=>rfl
 |p::ps,h=>by
  have h1:=Ia (ps:=ps) λq hq=>h q (.tail _ hq)
  have h2:=h p (.head _);show(iy (m:Int) (.int (p:Int))&&((nD ps).map (iy (m:Int))).all id)=Θ;rw[h1];simp[iy];omega
def agx(m:Nat) (xs:List D):Prop:=∃ps:List Nat,xs=nD ps/\ps.Perm (η m)
theorem aay{xs:List D}{q:Int}(h:¬(xs.length:Int)=q) (c:aa):(b8 (fO (dQ (aT (aE bO (ao (ak 0) (ao (dC (.ty "tuple")) aq))))) (aT (au eZ (aE aU (ao (ak 0) aq)) (ak 1)))) (aP (dC (.bl Ψ))) ck) [ζ (.tup xs),ζ (.int q)] c=.ok (.rt (.bl Ψ)) c:=by
 simp[h]
theorem aax{xs:List D}{q:Int}(h:(xs.length:Int)=q) (c:aa):(b8 (fO (dQ (aT (aE bO (ao (ak 0) (ao (dC (.ty "tuple")) aq))))) (aT (au eZ (aE aU (ao (ak 0) aq)) (ak 1)))) (aP (dC (.bl Ψ))) ck) [ζ (.tup xs),ζ (.int q)] c=.ok (.nx [ζ (.tup xs),ζ (.int q)]) c:=by
 simp[h]
theorem Kl{xs:List D}{q:Int}{l:List Bool}{ps:List Nat}{n:Int}{c:aa}(hl:xs.length<ι) (hc:bR (λ_=>True) (aB 0) aO (aA 3 d7 (ao (ak 0) (ao (dC (.int 0)) (ao (au bq (ak 1) (dC (.int 1))) aq)))) xs [θ,ζ (.int q)] [] c=.ok (l.map D.bl) c) (hs:l.all id=Θ->uy c (.tup xs)=ζ ps) (hn:((cj ps).length:Int)=n) :
  (aP (gf (aE fh (ao (aW (c8 (ak 0)) [θ,ζ 1] (aB 0) aO (aA 3 d7 (ao (ak 0) (ao (dC (.int 0)) (ao (au bq (ak 1) (dC (.int 1))) aq))))) aq)) (au bD (rL (ao (ak 0) aq)) (ak 1)))) [ζ (.tup xs),ζ (.int q)] c=.ok (.rt (.bl (l.all id&&decide (n=q)))) c:=by
 have hp:cV [θ,ζ 1] [ζ (D.tup xs),ζ (.int q)]=[θ,ζ (.int q)]:=rfl;simp only[j7,pI,fU,bz,dX,Gv,bX,gz,gs,bG,R.aC];rw[if_pos hl,hp,hc];simp only[R.aC,vt];cases hA:l.all id with
 |false=>simp
 |true =>
  have h2:=hs hA;simp only[if_true,fj,R.aC,bX,gz,gs];unfold rL;simp only[bz,bX,gz,bG,R.aC,h2,hn,OM,alj]
theorem aa1{m:Nat}(hm:m<60) {xs:List D}(hx:∀d∈xs,It d) (hl:xs.length<=20) (c:aa):∃b,fK [.tup xs,.int (m:Int)] c=.ok (.bl b) c/\(b=Θ↔agx m xs):=by
 have hs:=eN (n:=1000) (by decide)
 have hb:sG=aD (b8 (fO (dQ (aT (aE bO (ao (ak 0) (ao (dC (.ty "tuple")) aq))))) (aT (au eZ (aE aU (ao (ak 0) aq)) (ak 1)))) (aP (dC (.bl Ψ))) ck) (aP (gf (aE fh (ao (aW (c8 (ak 0)) [θ,ζ 1] (aB 0) aO (aA 3 d7 (ao (ak 0) (ao (dC (.int 0)) (ao (au bq (ak 1) (dC (.int 1))) aq))))) aq)) (au bD (rL (ao (ak 0) aq)) (ak 1)))):=rfl;have es:∀q:Int,cD 2 [.tup xs,.int q]=[ζ (.tup xs),ζ (.int q)]:=λ_=>rfl
 by_cases h1:(xs.length:Int)=(m:Int)
 ·have hc:=Ng (a:=(aA 3 d7 (ao (ak 0) (ao (dC (.int 0)) (ao (au bq (ak 1) (dC (.int 1))) aq))))) (T:=.int (m:Int)) (q:=(m:Int)) (c:=c) (λd h=>by
   have:=OQ h (m:Int) c
   generalize (m:Int)=q at *
   simp[this]) xs θ [] hx
  rw[aiM]at hc;have yb:∀{l:List Bool}{n:Int},(aP (gf (aE fh (ao (aW (c8 (ak 0)) [θ,ζ 1] (aB 0) aO (aA 3 d7 (ao (ak 0) (ao (dC (.int 0)) (ao (au bq (ak 1) (dC (.int 1))) aq))))) aq)) (au bD (rL (ao (ak 0) aq)) (ak 1)))) [ζ (.tup xs),ζ (.int (m:Int))] c=.ok (.rt (.bl (l.all id&&decide (n=(m:Int))))) c->fK [.tup xs,.int (m:Int)] c=.ok (.bl (l.all id&&decide (n=(m:Int)))) c:=fun{l n} h=>by
   rw[fK,fC,hb,es,bN (aax h1 c),h]
   generalize (l.all id&&decide (n=(m:Int)))=z
   simp
  cases hA:(xs.map (iy (m:Int))).all id with
  |false =>
   have h:=yb (Kl (ps:=[]) (n:=0) (by omega) hc (λh=>by rw[hA]at h;cases h) rfl)
   refine⟨_,h,?_⟩;rw[hA,ak3];refine⟨λh=>(by cases h),fun⟨ps,e,hp⟩=>?_⟩
   subst e;rw[Ia λp d9=>ain.mp (hp.mem_iff.mp d9)]at hA
   exact hA.symm
  |true =>
   obtain⟨ps,rfl,hp⟩:=Nf hA;have hpl:ps.length=m:=by
    have:(nD ps).length=ps.length:=by simp[nD]
    omega
   have h64:(cj ps).length<64:=by
    have:=Bg (xO (pJ ps)) (λx hx=>mQ.mp hx)
    omega
   have hN:uy c (.tup (nD ps))=ζ ps:=JH h64 λx hx=>by have:=hp x hx;omega
   have h:=yb (Kl (ps:=ps) (n:=((cj ps).length:Int)) (by omega) hc (λ_=>hN) rfl)
   refine⟨_,h,?_⟩;rw[hA,alj,decide_eq_true_eq];have hk:=Qt hpl hp;refine⟨λh=>⟨ps,rfl,hk.mp (by omega)⟩,fun⟨qs,e,hq⟩=>?_⟩
   cases YQ e;have:=hk.mpr hq;omega
 ·refine⟨Ψ,?_,λh=>(by cases h),fun⟨ps,e,hp⟩=>?_⟩
  ·rw[fK,fC,hb,es,AH (aay h1 c)];simp
  ·subst e;have:=hp.length_eq;rw[ai8]at this;exact absurd (by simp[nD,this]) h1
def aG(n:Nat) (s:Nat->Nat->Nat):D:=.tup ((η n).map λi=>.tup (nD ((η n).map (s i))))
structure cR (n:Nat) (s:Nat->Nat->Nat):Prop where
 row:∀i,i<n->((η n).map (s i)).Perm (η n)
 col:∀k,k<n->((η n).map λi=>s i k).Perm (η n)
theorem aao{ps:List Nat}:∀d∈nD ps,It d:=λd hd=>by
 obtain⟨k,_,rfl⟩:=aik.mp hd;exact .inl ⟨_,rfl⟩
theorem KC{n:Nat}(hn:n<18) {ps:List Nat}(hp:ps.Perm (η n)) (c:aa):fK [.tup (nD ps),.int (n:Int)] c=.ok (.bl Θ) c:=by
 have hl:ps.length=n:=by have:=hp.length_eq;simpa using this
 obtain⟨b,h,i⟩:=aa1 (m:=n) (by omega) (xs:=nD ps) aao (by simp[nD,hl];omega) c
 have:b=Θ:=i.mpr ⟨ps,rfl,hp⟩;rw[this]at h;exact h
theorem Ma{n k:Nat}(s:Nat->Nat->Nat) (hk:k<n) (c:aa):∀(l:List Nat) (v:Option D) (acc:List D),bR (λ_=>True) (aB 0) aO (au aH (ak 0) (ak 1)) (l.map λi=>.tup (nD ((η n).map (s i)))) [v,ζ (.int (k:Int))] acc c=.ok (acc++nD (l.map λi=>s i k)) c
 |[],v,acc=>by simp[nD]
 |i::l,v,acc=>by
  have h1:aB 0 (.tup (nD ((η n).map (s i)))) [v,ζ (.int (k:Int))] c=.ok [ζ (.tup (nD ((η n).map (s i)))),ζ (.int (k:Int))] c:=rfl;have h2:aH (.tup (nD ((η n).map (s i)))) (.int (k:Int)) c=.ok (.int (s i k:Nat)) c:=by
   rw[GB,gX (v:=.int (s i k:Nat)) (by simp[nD,hk])]
  have hE:(au aH (ak 0) (ak 1)) [ζ (.tup (nD ((η n).map (s i)))),ζ (.int (k:Int))] c=.ok (.int (s i k:Nat)) c:=by
   generalize D.tup (nD ((η n).map (s i)))=T at *
   simp only[fj,bX,gz,gs,R.aC,h2]
  rw[ais,kU,h1,R.aC,nI,R.aC,if_pos rfl,hE,R.aC,Ma s hk c l,aiZ];rfl
theorem aeK{n k:Nat}(s:Nat->Nat->Nat) (hn:n<100) (hk:k<n) (c:aa):jO [aG n s,.int (k:Int)] c=.ok (.tup (nD ((η n).map λi=>s i k))) c:=by
 have hs:=eN (n:=1000) (by decide)
 have hc:=Ma s hk c (η n) θ [];rw[aiM]at hc;have e:(aP (aE cA (ao (aW (c8 (ak 0)) [θ,ζ 1] (aB 0) aO (au aH (ak 0) (ak 1))) aq))) [ζ (aG n s),ζ (.int (k:Int))] c=.ok (.rt (.tup (nD ((η n).map λi=>s i k)))) c:=by
  have hp:cV [θ,ζ 1] [ζ (aG n s),ζ (.int (k:Int))]=[θ,ζ (.int (k:Int))]:=rfl;have hd:c8 (ak 0) [ζ (aG n s),ζ (.int (k:Int))] c=.ok ⟨(η n).map λi=>.tup (nD ((η n).map (s i))),λ_=>True⟩ c:=rfl
  simp only[j7,fU,bz,dX,hd,bG,R.aC];rw[if_pos (by rw[aiu,ai8];omega),hp,hc]
  rfl
 have hb:sH=(aP (aE cA (ao (aW (c8 (ak 0)) [θ,ζ 1] (aB 0) aO (au aH (ak 0) (ak 1))) aq))):=rfl;rw[jO,fC,hb];have es:cD 2 [aG n s,.int (k:Int)]=[ζ (aG n s),ζ (.int (k:Int))]:=rfl;rw[es,e];simp only[R.aC];rw[tW,if_pos (A9 _),ajZ]
theorem HF{n:Nat}{a:af}{c:aa}{q:Int}(f:Nat->D):∀(l:List Nat) (v:Option D) (acc:List D),(∀i∈l,a [ζ (f i),ζ (.int q)] c=.ok (.bl Θ) c)->bR (λ_=>True) (aB 0) aO a (l.map f) [v,ζ (.int q)] acc c=.ok (acc++(l.map λ_=>Θ).map D.bl) c
 |[],v,acc,_=>by simp
 |i::l,v,acc,h=>by
  have h1:aB 0 (f i) [v,ζ (.int q)] c=.ok [ζ (f i),ζ (.int q)] c:=rfl;rw[ais,kU,h1,R.aC,nI,R.aC,if_pos rfl,h i (.head _),R.aC,HF (n:=n) f l _ _ (λz hz=>h z (.tail _ hz)),aiZ]
  rfl
theorem all_true{α:Type}(l:List α):(l.map λ_=>Θ).all id=Θ:=by
 induction l with
 |nil=>rfl
 |cons a l ih=>exact ih
theorem Qw{S:D}{xs:List D}{q:Int}{l1 l2:List Bool}{c:aa}(hS:S=.tup xs) (hq:(xs.length:Int)=q) (b:1<=q/\q<=7) (hl:xs.length<ι) (hlr:(bf 0 q).length<ι) (h1:bR (λ_=>True) (aB 0) aO (aA 2 fK (ao (ak 0) (ao (ak 1) aq))) xs [θ,ζ (.int q)] [] c=.ok (l1.map D.bl) c) (a1:l1.all id=Θ) (h2:bR (λ_=>True) (aB 0) aO (aA 2 fK (ao (aA 2 jO (ao (ak 2) (ao (ak 0) aq))) (ao (ak 1) aq))) (bf 0 q) [θ,ζ (.int q),ζ S] [] c=.ok (l2.map D.bl) c) (a2:l2.all id=Θ):iS [S] c=.ok (.bl Θ) c:=by
 subst hS;have hb:pD=aD (b8 (fO (dQ (aT (aE bO (ao (ak 0) (ao (dC (.ty "tuple")) aq))))) (dQ (aT (oO kH kH (dC (.int 1)) (aE aU (ao (ak 0) aq)) (dC (.int 7)))))) (aP (dC (.bl Ψ))) ck) (aD (aF 1 (aE aU (ao (ak 0) aq))) (aD (b8 (dQ (aT (aE fh (ao (aW (c8 (ak 0)) [θ,ζ 1] (aB 0) aO (aA 2 fK (ao (ak 0) (ao (ak 1) aq)))) aq)))) (aP (dC (.bl Ψ))) ck) (aP (aE fh (ao (aW (bh (ao (ak 1) aq)) [θ,ζ 1,ζ 0] (aB 0) aO (aA 2 fK (ao (aA 2 jO (ao (ak 2) (ao (ak 0) aq))) (ao (ak 1) aq)))) aq))))):=rfl;have es:cD 2 [D.tup xs]=[ζ (.tup xs),θ]:=rfl;have e0:(b8 (fO (dQ (aT (aE bO (ao (ak 0) (ao (dC (.ty "tuple")) aq))))) (dQ (aT (oO kH kH (dC (.int 1)) (aE aU (ao (ak 0) aq)) (dC (.int 7)))))) (aP (dC (.bl Ψ))) ck) [ζ (.tup xs),θ] c=.ok (.nx [ζ (.tup xs),θ]) c:=by
  have hle:aU [.tup xs] c=.ok (.int q) c:=by rw[OJ,hq]
  simp[hq,b.1,b.2]
 have e1:(aF 1 (aE aU (ao (ak 0) aq))) [ζ (.tup xs),θ] c=.ok (.nx [ζ (.tup xs),ζ (.int q)]) c:=by simp[hq]
 have e2:(b8 (dQ (aT (aE fh (ao (aW (c8 (ak 0)) [θ,ζ 1] (aB 0) aO (aA 2 fK (ao (ak 0) (ao (ak 1) aq)))) aq)))) (aP (dC (.bl Ψ))) ck) [ζ (.tup xs),ζ (.int q)] c=.ok (.nx [ζ (.tup xs),ζ (.int q)]) c:=by
  have hp:cV [θ,ζ 1] [ζ (.tup xs),ζ (.int q)]=[θ,ζ (.int q)]:=rfl;simp only[gO,sU,j8,fU,bz,dX,Gv,bX,gz,gs,bG,R.aC];rw[if_pos hl,hp,h1];simp only[R.aC,vt,a1];simp
 have e3:(aP (aE fh (ao (aW (bh (ao (ak 1) aq)) [θ,ζ 1,ζ 0] (aB 0) aO (aA 2 fK (ao (aA 2 jO (ao (ak 2) (ao (ak 0) aq))) (ao (ak 1) aq)))) aq))) [ζ (.tup xs),ζ (.int q)] c=.ok (.rt (.bl Θ)) c:=by
  have hp:cV [θ,ζ 1,ζ 0] [ζ (.tup xs),ζ (.int q)]=[θ,ζ (.int q),ζ (.tup xs)]:=rfl;simp only[j7,fU,bz,dX,ic,bX,gz,gs,bG,R.aC];rw[if_pos (by omega)]
  simp only[R.aC];rw[if_pos hlr,hp,h2];simp only[R.aC,vt,a2]
 rw[iS,fC,hb,es,bN e0,bN e1,bN e2,e3];simp
theorem Hi{n:Nat}{s:Nat->Nat->Nat}(h:cR n s) (h1:1<=n) (h7:n<=7) (c:aa):iS [aG n s] c=.ok (.bl Θ) c:=by
 have hs:=eN (n:=1000) (by decide)
 have c1:=HF (n:=n) (a:=(aA 2 fK (ao (ak 0) (ao (ak 1) aq)))) (c:=c) (q:=(n:Int)) (λi=>.tup (nD ((η n).map (s i)))) (η n) θ [] (λi hi=>by
  have:=KC (by omega) (h.row i (ain.mp hi)) c
  generalize D.tup (nD ((η n).map (s i)))=T at *
  generalize (n:Int)=q at *
  simp[this])
 have c2:bR (λ_=>True) (aB 0) aO (aA 2 fK (ao (aA 2 jO (ao (ak 2) (ao (ak 0) aq))) (ao (ak 1) aq))) (bf 0 (n:Int)) [θ,ζ (.int (n:Int)),ζ (aG n s)] [] c=.ok (((η n).map λ_=>Θ).map D.bl) c:=by
  have:=nq (c:=c) (g:=aB 0) (t:=aO) (a:=(aA 2 fK (ao (aA 2 jO (ao (ak 2) (ao (ak 0) aq))) (ao (ak 1) aq)))) (λe=>∃v,e=[v,ζ (.int (n:Int)),ζ (aG n s)]) (λ_=>Θ) (λ_=>.bl Θ) (bf 0 (n:Int)) [θ,ζ (.int (n:Int)),ζ (aG n s)] [] ⟨_,rfl⟩ (λd hd e ⟨v,he⟩=>by
   subst he;obtain⟨k',rfl,k0,k1⟩:=uA hd;obtain⟨k,rfl⟩:=qS k0;refine⟨_,rfl,⟨_,rfl⟩,rfl,λ_=>?_⟩
   have g1:=aeK s (by omega) (show k<n by omega) c
   have g2:=KC (by omega) (h.col k (by omega)) c
   show(aA 2 fK (ao (aA 2 jO (ao (ak 2) (ao (ak 0) aq))) (ao (ak 1) aq))) [ζ (.int (k:Int)),ζ (.int (n:Int)),ζ (aG n s)] c=_
   generalize aG n s=S at *
   generalize D.tup (nD ((η n).map λi=>s i k))=T at *
   generalize (n:Int)=q at *
   simp[g1,g2])
  rw[this,aiM,Lw,HJ,aiG];rfl
 rw[aiM]at c1;exact Qw rfl (by simp) (by omega) (by simp;omega) (by rw[fF];omega) c1 (all_true _) c2 (all_true _)
theorem qD{E:List (Option D)}{a:af}{n:Nat}{c:aa}(F:Nat->D) (h:∀k:Nat,k<n->a (ζ (.int (k:Int))::E) c=.ok (F k) c):bR (λ_=>True) (aB 0) aO a (bf 0 (n:Int)) (θ::E) [] c=.ok ((η n).map F) c:=by
 have:=nq (c:=c) (g:=aB 0) (t:=aO) (a:=a) (λe=>∃v,e=v::E) (λ_=>Θ) (λd=>match d with|.int k=>F k.toNat|d=>d) (bf 0 (n:Int)) (θ::E) [] ⟨_,rfl⟩ (λd hd e ⟨v,he⟩=>by
  subst he;obtain⟨k',rfl,k0,k1⟩:=uA hd;obtain⟨k,rfl⟩:=qS k0;exact⟨_,rfl,⟨_,rfl⟩,rfl,λ_=>h k (by omega)⟩)
 rw[this,aiM,Lw,HJ]
 congr 1
def c7(n:Nat) (r:Nat->Nat->Nat) (i:Nat):List Nat:=(η n).map (r i)
def jG(n:Nat) (r:Nat->Nat->Nat):D:=.lst ((η n).map λi=>.lst (nD (c7 n r i)))
theorem AO(n:Nat) (r:Nat->Nat->Nat) (i:Nat):((η n).map λk=>D.int (r i k:Nat))=nD (c7 n r i):=by simp[nD,c7]
theorem Zv:∀n,n<8->∀b,b<7->cj ((η n).map λi=>(b*i+0) % n)=η n->(∀i,i<n->((η n).map λk=>(b*i+k) % n).Perm (η n))/\(∀k,k<n->((η n).map λi=>(b*i+k) % n).Perm (η n)):=by decide +kernel
theorem Zu:∀n,n<8->(∀i,i<n->((η n).map λk=>(i+k) % n).Perm (η n))/\(∀k,k<n->((η n).map λi=>(i+k) % n).Perm (η n)):=by decide +kernel
def l9(i k:Nat):Nat:=(Builtin.bitXor (i:Int) (k:Int)).toNat
theorem J0:(∀i,i<4->((η 4).map (l9 i)).Perm (η 4))/\(∀k,k<4->((η 4).map λi=>l9 i k).Perm (η 4)):=by decide +kernel
theorem Ov:∀i:Nat,i<4->∀k:Nat,k<4->Builtin.bitXor (i:Int) (k:Int)=((l9 i k:Nat):Int):=by decide +kernel
def six:List (List Nat):=[[0,1,2,3,4,5],[1,0,3,2,5,4],[2,4,0,5,1,3],[3,5,1,4,0,2],[4,2,5,0,3,1],[5,3,4,1,2,0]]
def iK(i k:Nat):Nat:=(six.getD i []).getD k 0
theorem JZ:(∀i,i<6->((η 6).map (iK i)).Perm (η 6))/\(∀k,k<6->((η 6).map λi=>iK i k).Perm (η 6)):=by decide +kernel
theorem afd{q i:Int}{l:List D}{c:aa}(b:-4611686018427387904<=q/\q<4611686018427387904) (hl:(bf 0 q).length<ι) (h:bR (λ_=>True) (aB 0) aO (au mh (ak 1) (ak 0)) (bf 0 q) [θ,ζ (.int i)] [] c=.ok l c):(aW (bh (ao (ak 1) aq)) [θ,ζ 0] (aB 0) aO (au mh (ak 1) (ak 0))) [ζ (.int i),ζ (.int q)] c=.ok (.lst l) c:=by
 have hp:cV [θ,ζ 0] [ζ (.int i),ζ (.int q)]=[θ,ζ (.int i)]:=rfl;simp only[dX,ic,bz,bX,gz,gs,bG,R.aC];rw[if_pos (by omega)]
 simp only[R.aC];rw[if_pos hl,hp,h];rfl
theorem ae0{q b' i:Int}{l:List D}{c:aa}(b:-4611686018427387904<=q/\q<4611686018427387904) (hl:(bf 0 q).length<ι) (h:bR (λ_=>True) (aB 0) aO (au bL (au aZ (au bg (ak 2) (ak 3)) (ak 0)) (ak 1)) (bf 0 q) [θ,ζ (.int q),ζ (.int b'),ζ (.int i)] [] c=.ok l c):(aW (bh (ao (ak 1) aq)) [θ,ζ 1,ζ 2,ζ 0] (aB 0) aO (au bL (au aZ (au bg (ak 2) (ak 3)) (ak 0)) (ak 1))) [ζ (.int i),ζ (.int q),ζ (.int b')] c=.ok (.lst l) c:=by
 have hp:cV [θ,ζ 1,ζ 2,ζ 0] [ζ (.int i),ζ (.int q),ζ (.int b')]=[θ,ζ (.int q),ζ (.int b'),ζ (.int i)]:=rfl;simp only[dX,ic,bz,bX,gz,gs,bG,R.aC];rw[if_pos (by omega)]
 simp only[R.aC];rw[if_pos hl,hp,h];rfl
def vj:af:=(aW (bh (ao (ak 1) aq)) [θ,ζ 1,ζ 2,ζ 0] (aB 0) aO (au bL (au aZ (au bg (ak 2) (ak 3)) (ak 0)) (ak 1)))
def vn:af:=(aW (bh (ao (ak 1) aq)) [θ,ζ 0] (aB 0) aO (au mh (ak 1) (ak 0)))
def oU:af:=(aW (bh (ao (ak 1) aq)) [θ,ζ 1,ζ 0] (aB 0) aO (au bL (au aZ (ak 2) (ak 0)) (ak 1)))
theorem afc{q:Int}{l:List D}{a0 a2 a3 a4 a5 a6:Option D}{c:aa}(b:-4611686018427387904<=q/\q<4611686018427387904) (hl:(bf 0 q).length<ι) (h:bR (λ_=>True) (aB 0) aO vn (bf 0 q) [θ,ζ (.int q)] [] c=.ok l c):(aF 2 (aW (bh (ao (ak 1) aq)) [θ,ζ 1] (aB 0) aO vn)) [a0,ζ (.int q),a2,a3,a4,a5,a6] c=.ok (.nx [a0,ζ (.int q),ζ (.lst l),a3,a4,a5,a6]) c:=by
 have hp:cV [θ,ζ 1] [a0,ζ (.int q),a2,a3,a4,a5,a6]=[θ,ζ (.int q)]:=rfl;simp only[fT,dX,ic,bz,bX,gz,gs,bG,R.aC];rw[if_pos (by omega)]
 simp only[R.aC];rw[if_pos hl,hp,h];rfl
theorem aeV{q:Int}{l:List D}{a0 a2 a3 a4 a5 a6:Option D}{c:aa}(b:-4611686018427387904<=q/\q<4611686018427387904) (hl:(bf 0 q).length<ι) (h:bR (λ_=>True) (aB 0) aO oU (bf 0 q) [θ,ζ (.int q)] [] c=.ok l c):(aF 2 (aW (bh (ao (ak 1) aq)) [θ,ζ 1] (aB 0) aO oU)) [a0,ζ (.int q),a2,a3,a4,a5,a6] c=.ok (.nx [a0,ζ (.int q),ζ (.lst l),a3,a4,a5,a6]) c:=by
 have hp:cV [θ,ζ 1] [a0,ζ (.int q),a2,a3,a4,a5,a6]=[θ,ζ (.int q)]:=rfl;simp only[fT,dX,ic,bz,bX,gz,gs,bG,R.aC];rw[if_pos (by omega)]
 simp only[R.aC];rw[if_pos hl,hp,h];rfl
theorem aeZ{q b':Int}{l:List D}{a0 a2 a4 a5 a6:Option D}{c:aa}(b:-4611686018427387904<=q/\q<4611686018427387904) (hl:(bf 0 q).length<ι) (h:bR (λ_=>True) (aB 0) aO vj (bf 0 q) [θ,ζ (.int q),ζ (.int b')] [] c=.ok l c):(aF 2 (aW (bh (ao (ak 1) aq)) [θ,ζ 1,ζ 3] (aB 0) aO vj)) [a0,ζ (.int q),a2,ζ (.int b'),a4,a5,a6] c=.ok (.nx [a0,ζ (.int q),ζ (.lst l),ζ (.int b'),a4,a5,a6]) c:=by
 have hp:cV [θ,ζ 1,ζ 3] [a0,ζ (.int q),a2,ζ (.int b'),a4,a5,a6]=[θ,ζ (.int q),ζ (.int b')]:=rfl;simp only[fT,dX,ic,bz,bX,gz,gs,bG,R.aC];rw[if_pos (by omega)]
 simp only[R.aC];rw[if_pos hl,hp,h];rfl
theorem aeW{q i:Int}{l:List D}{c:aa}(b:-4611686018427387904<=q/\q<4611686018427387904) (hl:(bf 0 q).length<ι) (h:bR (λ_=>True) (aB 0) aO (au bL (au aZ (ak 2) (ak 0)) (ak 1)) (bf 0 q) [θ,ζ (.int q),ζ (.int i)] [] c=.ok l c):oU [ζ (.int i),ζ (.int q)] c=.ok (.lst l) c:=by
 have hp:cV [θ,ζ 1,ζ 0] [ζ (.int i),ζ (.int q)]=[θ,ζ (.int q),ζ (.int i)]:=rfl;unfold oU;simp only[dX,ic,bz,bX,gz,gs,bG,R.aC];rw[if_pos (by omega)]
 simp only[R.aC];rw[if_pos hl,hp,h];rfl
theorem aeX{q b' i k z w:Int}{c:aa}(m1:bg (.int b') (.int i) c=.ok (.int z) c) (m2:bL (.int (z+k)) (.int q) c=.ok (.int w) c):(au bL (au aZ (au bg (ak 2) (ak 3)) (ak 0)) (ak 1)) [ζ (.int k),ζ (.int q),ζ (.int b'),ζ (.int i)] c=.ok (.int w) c:=by
 simp only[fj,bX,gz,gs,R.aC,m1,mq,m2]
theorem aeT{q i k w:Int}{c:aa}(m2:bL (.int (i+k)) (.int q) c=.ok (.int w) c):(au bL (au aZ (ak 2) (ak 0)) (ak 1)) [ζ (.int k),ζ (.int q),ζ (.int i)] c=.ok (.int w) c:=by
 simp only[fj,bX,gz,gs,R.aC,mq,m2]
theorem JJ{x q w:Int}(c:aa) (hq:0<q) (h:x % q=w):bL (.int x) (.int q) c=.ok (.int w) c:=by
 rw[jM c hq,h]
theorem YV{x y w:Int}(c:aa) (h1:-1000<x) (h2:x<1000) (h:x*y=w):bg (.int x) (.int y) c=.ok (.int w) c:=by
 rw[xR c (by omega) (by omega),h]
theorem aeY{n:Nat}(h1:1<=n) (h8:n<8) (c:aa) (b i:Nat) (hb:b<7):vj [ζ (.int (i:Int)),ζ (.int (n:Int)),ζ (.int (b:Int))] c=.ok (.lst (nD (c7 n (λi k=>(b*i+k) % n) i))) c:=by
 have hs:=eN (n:=1000) (by decide)
 have hc:=qD (E:=[ζ (.int (n:Int)),ζ (.int (b:Int)),ζ (.int (i:Int))]) (a:=(au bL (au aZ (au bg (ak 2) (ak 3)) (ak 0)) (ak 1))) (n:=n) (c:=c) (λk=>.int ((b*i+k) % n:Nat)) (λk hk =>
  aeX (z:=(b:Int)*(i:Int)) (YV c (by omega) (by omega) rfl) (JJ c (by omega) (by rw[amy,amz,Int.natCast_mul])))
 rw[AO n (λi k=>(b*i+k) % n)]at hc
 exact ae0 (by omega) (by rw[fF];omega) hc
theorem aeU{n:Nat}(h1:1<=n) (h8:n<8) (c:aa) (i:Nat):oU [ζ (.int (i:Int)),ζ (.int (n:Int))] c=.ok (.lst (nD (c7 n (λi k=>(i+k) % n) i))) c:=by
 have hs:=eN (n:=1000) (by decide)
 have hc:=qD (E:=[ζ (.int (n:Int)),ζ (.int (i:Int))]) (a:=(au bL (au aZ (ak 2) (ak 0)) (ak 1))) (n:=n) (c:=c) (λk=>.int ((i+k) % n:Nat)) (λk hk =>
  aeT (JJ c (by omega) (by rw[amy,amz])))
 rw[AO n (λi k=>(i+k) % n)]at hc
 exact aeW (by omega) (by rw[fF];omega) hc
theorem afb(i:Nat) (hi:i<4) (c:aa):vn [ζ (.int (i:Int)),ζ (.int ((4:Nat):Int))] c=.ok (.lst (nD (c7 4 l9 i))) c:=by
 have hs:=eN (n:=1000) (by decide)
 have hc:=qD (E:=[ζ (.int (i:Int))]) (a:=(au mh (ak 1) (ak 0))) (n:=4) (c:=c) (λk=>.int (l9 i k:Nat)) (λk hk=>by
  have:=Ov i hi k hk;simp only[fj,bX,gz,gs,R.aC,Oz,this])
 rw[AO 4 l9]at hc;exact afd (by omega) (by rw[fF];omega) hc
theorem Ek:∀a b:List Int,PyData.eqvAll (a.map PyData.int) (b.map PyData.int)=decide (a=b)
 |[],[]=>by simp[PyData.eqvAll]
 |[],b::bs=>by simp[PyData.eqvAll]
 |a::as,[]=>by simp[PyData.eqvAll]
 |a::as,b::bs=>by
  rw[ais,ais,PyData.eqvAll,Ek as bs,PyData.eqv]
  by_cases h:a=b
  ·subst h;simp
  ·simp[h]
theorem acT(a:List Int):PyData.depthAll (a.map PyData.int)=0:=by
 induction a with
 |nil=>simp[PyData.depthAll]
 |cons x a ih=>simp[PyData.depthAll,PyData.depth,ih]
theorem LW:∀ns:List Int,dP (ns.map D.int)=ζ (ns.map PyData.int)
 |[]=>rfl
 |n::ns=>by
  have:=LW ns;simp[dP,cZ,this]
theorem acK(as bs:List Int) (c:aa):LA (.lst (as.map D.int)) (.lst (bs.map D.int)) c=.ok (.bl (decide (as=bs))) c/\fZ (.lst (as.map D.int)) (.lst (bs.map D.int)) c=.ok (.bl (!decide (as=bs))) c:=by
 have h:∀l:List Int,gx c (.lst (l.map D.int))=ζ (.list (l.map PyData.int)):=λl=>by
  show(match dP (l.map D.int)with|some r=>ζ (PyData.list r)|none=>θ)=_
  rw[LW]
 have dp:∀l:List Int,(PyData.list (l.map PyData.int)).depth<=64:=λl=>by simp[PyData.depth,acT]
 refine⟨?_,?_⟩
 ·unfold LA;rw[h,h];dsimp only;rw[if_pos ⟨dp as,dp bs⟩,PyData.eqv,Ek]
 ·unfold fZ;rw[h,h];dsimp only;rw[if_pos ⟨dp as,dp bs⟩,PyData.eqv,Ek]
def zA(l:List Nat):List Int:=l.map λk:Nat=>(k:Int)
theorem YS(l:List Nat):nD l=(zA l).map D.int:=Bm l
theorem Lx{n:Nat}(h1:1<=n) (r:Nat->Nat->Nat) (c:aa):∀(l:List Nat) (v:Option D) (acc:List D),bR (λ_=>True) (aB 0) aO (au aH (ak 0) (dC (.int 0))) (l.map λi=>.lst (nD (c7 n r i))) [v] acc c=.ok (acc++nD (l.map λi=>r i 0)) c
 |[],v,acc=>by simp[nD]
 |i::l,v,acc=>by
  have g1:aB 0 (.lst (nD (c7 n r i))) [v] c=.ok [ζ (.lst (nD (c7 n r i)))] c:=rfl;have g2:aH (.lst (nD (c7 n r i))) (.int 0) c=.ok (.int (r i 0:Nat)) c:=by
   rw[sV,show(0:Int)=((0:Nat):Int)from rfl,gX (v:=.int (r i 0:Nat)) (by simp[nD,c7,ajD (show 0<n by omega)])]
  have hE:(au aH (ak 0) (dC (.int 0))) [ζ (.lst (nD (c7 n r i)))] c=.ok (.int (r i 0:Nat)) c:=by
   generalize D.lst (nD (c7 n r i))=T at *
   simp only[fj,bX,nJ,gz,R.aC,g2]
  rw[ais,kU,g1,R.aC,nI,R.aC,if_pos rfl,hE,R.aC,Lx h1 r c l,aiZ];rfl
theorem adB{q:Int}{rows:List D}{ns:List Nat}{z:Bool}{a0 a3 a4 a5 a6:Option D}{c:aa}(b:0<q/\q<1000) (hl:rows.length<ι) (hc:bR (λ_=>True) (aB 0) aO (au aH (ak 0) (dC (.int 0))) rows [θ] [] c=.ok (nD ns) c) (hN:jk (nD ns)=ζ ns) (hq:fZ (.lst (nD (cj ns))) (.lst ((gp 0 q).map D.int)) c=.ok (.bl z) c) :
  (aT (au fZ (oK (ao (aW (c9 (ak 2)) [θ] (aB 0) aO (au aH (ak 0) (dC (.int 0)))) aq)) (oM (ao (ak 1) aq)))) [a0,ζ (.int q),ζ (.lst rows),a3,a4,a5,a6] c=.ok z c:=by
 have hp:cV [θ] [a0,ζ (.int q),ζ (.lst rows),a3,a4,a5,a6]=[θ]:=rfl;have hd:c9 (ak 2) [a0,ζ (.int q),ζ (.lst rows),a3,a4,a5,a6] c=.ok ⟨rows,λ_=>True⟩ c:=rfl
 have hS:oK (ao (aW (c9 (ak 2)) [θ] (aB 0) aO (au aH (ak 0) (dC (.int 0)))) aq) [a0,ζ (.int q),ζ (.lst rows),a3,a4,a5,a6] c=.ok (.lst (nD (cj ns))) c:=by
  unfold oK;simp only[bz,dX,hd,bG,R.aC];rw[if_pos hl,hp,hc];simp only[R.aC,eS,hN]
 have hR:oM (ao (ak 1) aq) [a0,ζ (.int q),ζ (.lst rows),a3,a4,a5,a6] c=.ok (.lst ((gp 0 q).map D.int)) c:=by
  unfold oM;simp only[bz,bX,gz,gs,bG,R.aC];rw[if_pos b]
 simp only[j8,fj,hS,hR,R.aC,hq]
theorem cast_inj{a b:List Nat}(h:zA a=zA b):a=b:=EW h
theorem Sa(n:Nat):gp 0 (n:Int)=zA (η n):=HK n
theorem X7(A:List Nat) (n:Nat) (c:aa):fZ (.lst (nD A)) (.lst ((gp 0 (n:Int)).map D.int)) c=.ok (.bl (!decide (A=η n))) c:=by
 rw[YS,(acK _ _ c).2,Sa]
 congr 3
 exact decide_eq_decide.mpr ⟨cast_inj,λh=>by rw[h]⟩
theorem adM{j:Nat}{q f x:Int}{a2 a3 a4 a5 a6:Option D}{c c1:aa}(hf:(if q-1>1 then q-1 else 1)=f) (t:bC [.ref j,.int f] c=.ok (.int x) c1):(aF 3 (au aZ (dC (.int 1)) (aA 2 bC (ao (ak 0) (ao (aE mR (ao (dC (.int 1)) (ao (au bq (ak 1) (dC (.int 1))) aq))) aq))))) [ζ (.ref j),ζ (.int q),a2,a3,a4,a5,a6] c=.ok (.nx [ζ (.ref j),ζ (.int q),a2,ζ (.int (1+x)),a4,a5,a6]) c1:=by
 simp only[fT,fj,nJ,x_call,fU,bz,bX,gz,gs,bG,R.aC,vO,OG,hf,aiv,aiR,if_pos,t,mq];rfl
def zv:ah:=aD (aF 3 (au aZ (dC (.int 1)) (aA 2 bC (ao (ak 0) (ao (aE mR (ao (dC (.int 1)) (ao (au bq (ak 1) (dC (.int 1))) aq))) aq))))) (aD (aF 2 (aW (bh (ao (ak 1) aq)) [θ,ζ 1,ζ 3] (aB 0) aO vj)) (b8 (aT (au fZ (oK (ao (aW (c9 (ak 2)) [θ] (aB 0) aO (au aH (ak 0) (dC (.int 0)))) aq)) (oM (ao (ak 1) aq)))) (aF 2 (aW (bh (ao (ak 1) aq)) [θ,ζ 1] (aB 0) aO oU)) ck))
theorem LZ{j m n:Nat}{c:aa}(hP:dH j m c) (h1:1<=n) (h8:n<8):∃r v3 c',cR n r/\dH j m c'/\zv [ζ (.ref j),ζ (.int (n:Int)),θ,θ,θ,θ,θ] c=.ok (.nx [ζ (.ref j),ζ (.int (n:Int)),ζ (jG n r),v3,θ,θ,θ]) c':=by
 have hs:=eN (n:=1000) (by decide)
 obtain⟨f,hf⟩:∃f:Int,(if(n:Int)-1>1 then(n:Int)-1 else 1)=f:=⟨_,rfl⟩
 have hf':0<f/\f<=6:=by split at hf<;>omega
 obtain⟨x,c1,x0,x1,P1,t1⟩:=mz (cQ:=f) hP hf'.1 (by omega)
 obtain⟨b,hb⟩:=qS (i:=1+x) (by omega)
 have e1:=adM (a2:=θ) (a3:=θ) (a4:=θ) (a5:=θ) (a6:=θ) hf t1;rw[hb]at e1;have c2:=qD (E:=[ζ (.int (n:Int)),ζ (.int (b:Int))]) (a:=vj) (n:=n) (c:=c1) (λi=>.lst (nD (c7 n (λi k=>(b*i+k) % n) i))) (λi _=>aeY h1 h8 c1 b i (by omega))
 have e2:=aeZ (a0:=ζ (.ref j)) (a2:=θ) (a4:=θ) (a5:=θ) (a6:=θ) (by omega) (by rw[fF];omega) c2
 have hfc:=Lx h1 (λi k=>(b*i+k) % n) c1 (η n) θ []
 rw[aiM]at hfc;have hN:jk (nD ((η n).map λi=>(b*i+0) % n))=ζ ((η n).map λi=>(b*i+0) % n):=JH (by
  have:=Bg (xO (pJ ((η n).map λi=>(b*i+0) % n))) (λx hx=>mQ.mp hx)
  rw[aiu,ai8]at this;omega) (λx hx=>by
  obtain⟨i,_,rfl⟩:=aik.mp hx;have:=ajg (b*i+0) (show 0<n by omega)
  omega)
 have hu:=adB (a0:=ζ (.ref j)) (a3:=ζ (.int (b:Int))) (a4:=θ) (a5:=θ) (a6:=θ) (by omega) (by rw[aiu,ai8];omega) hfc hN (X7 _ n c1)
 by_cases hk:cj ((η n).map λi=>(b*i+0) % n)=η n
 ·have hL:=Zv n h8 b (by omega) hk
  refine⟨λi k=>(b*i+k) % n,ζ (.int (b:Int)),c1,⟨hL.1,hL.2⟩,P1,?_⟩
  unfold zv;rw[bN e1,bN e2,gO,hu,R.aC,decide_eq_true hk];rfl
 ·have hL:=Zu n h8;have c3:=qD (E:=[ζ (.int (n:Int))]) (a:=oU) (n:=n) (c:=c1) (λi=>.lst (nD (c7 n (λi k=>(i+k) % n) i))) (λi _=>aeU h1 h8 c1 i)
  have e3:=aeV (a0:=ζ (.ref j)) (a2:=ζ (.lst ((η n).map λi=>.lst (nD (c7 n (λi k=>(b*i+k) % n) i))))) (a3:=ζ (.int (b:Int))) (a4:=θ) (a5:=θ) (a6:=θ) (by omega) (by rw[fF];omega) c3
  refine⟨λi k=>(i+k) % n,ζ (.int (b:Int)),c1,⟨hL.1,hL.2⟩,P1,?_⟩
  unfold zv;rw[bN e1,bN e2,gO,hu,R.aC,decide_eq_false hk,if_pos (by decide)]
  exact e3
def vd:ah:=b8 (jz (aT (au bD (ak 1) (dC (.int 4)))) (aT (au bD (aA 2 bC (ao (ak 0) (ao (dC (.int 2)) aq))) (dC (.int 0))))) (aF 2 (aW (bh (ao (ak 1) aq)) [θ,ζ 1] (aB 0) aO vn)) zv
theorem adD{q:Int}{a0 a2 a3 a4 a5 a6:Option D}{c:aa}(h:¬q=4):(jz (aT (au bD (ak 1) (dC (.int 4)))) (aT (au bD (aA 2 bC (ao (ak 0) (ao (dC (.int 2)) aq))) (dC (.int 0))))) [a0,ζ (.int q),a2,a3,a4,a5,a6] c=.ok Ψ c:=by simp[h]
theorem adC{j:Nat}{x:Int}{a2 a3 a4 a5 a6:Option D}{c c1:aa}(t:bC [.ref j,.int 2] c=.ok (.int x) c1):(jz (aT (au bD (ak 1) (dC (.int 4)))) (aT (au bD (aA 2 bC (ao (ak 0) (ao (dC (.int 2)) aq))) (dC (.int 0))))) [ζ (.ref j),ζ (.int 4),a2,a3,a4,a5,a6] c=.ok (decide (x=0)) c1:=by simp[t]
theorem adH{j m n:Nat}{c:aa}(hP:dH j m c) (h1:1<=n) (h8:n<8):∃r v3 c',cR n r/\dH j m c'/\vd [ζ (.ref j),ζ (.int (n:Int)),θ,θ,θ,θ,θ] c=.ok (.nx [ζ (.ref j),ζ (.int (n:Int)),ζ (jG n r),v3,θ,θ,θ]) c':=by
 have hs:=eN (n:=1000) (by decide)
 by_cases h4:(n:Int)=4
 ·have:n=4:=by omega
  subst this;obtain⟨x,c1,x0,x1,P1,t1⟩:=mz (cQ:=2) hP (by decide) (by decide)
  have ht:=adC (a2:=θ) (a3:=θ) (a4:=θ) (a5:=θ) (a6:=θ) t1
  by_cases hx:x=0
  ·have c2:=qD (E:=[ζ (.int ((4:Nat):Int))]) (a:=vn) (n:=4) (c:=c1) (λi=>.lst (nD (c7 4 l9 i))) (λi hi=>afb i hi c1)
   have e2:=afc (a0:=ζ (.ref j)) (a2:=θ) (a3:=θ) (a4:=θ) (a5:=θ) (a6:=θ) (by omega) (by rw[fF];omega) c2
   refine⟨l9,θ,c1,⟨J0.1,J0.2⟩,P1,?_⟩;unfold vd;rw[gO,show((4:Nat):Int)=4 from rfl,ht,R.aC,decide_eq_true hx,if_pos rfl]
   exact e2
  ·obtain⟨r,v3,c',hL,P',h⟩:=LZ P1 h1 h8;refine⟨r,v3,c',hL,P',?_⟩;unfold vd;rw[gO,show((4:Nat):Int)=4 from rfl,ht,R.aC,decide_eq_false hx,if_neg (by decide)]
   exact h
 ·obtain⟨r,v3,c',hL,P',h⟩:=LZ hP h1 h8;refine⟨r,v3,c',hL,P',?_⟩;unfold vd;rw[gO,adD h4,R.aC,if_neg (by decide)]
  exact h
theorem mV{α:Type}{E:List (Option D)}{a:af}{c:aa}(g F:α->D):∀(l:List α) (v:Option D) (acc:List D),(∀x∈l,a (ζ (g x)::E) c=.ok (F x) c)->bR (λ_=>True) (aB 0) aO a (l.map g) (v::E) acc c=.ok (acc++l.map F) c
 |[],v,acc,_=>by simp
 |x::l,v,acc,h=>by
  have h1:aB 0 (g x) (v::E) c=.ok (ζ (g x)::E) c:=rfl;rw[ais,kU,h1,R.aC,nI,R.aC,if_pos rfl,h x (.head _),R.aC,mV g F l _ _ (λz hz=>h z (.tail _ hz)),aiZ]
  rfl
theorem nX(l:List Nat):nD l=l.map λk:Nat=>D.int (k:Int):=by simp[nD]
theorem ua{os:List Nat}{n x:Nat}(h:os.Perm (η n)) (hx:x∈os):x<n:=ain.mp (h.mem_iff.mp hx)
theorem kq{os:List Nat}{n:Nat}(h:os.Perm (η n)):os.length=n:=by have:=h.length_eq;simpa using this
theorem Bt{α:Type}(os:List Nat) (f:Nat->α):os.map f=(η os.length).map λi=>f (os.getD i 0):=by
 refine alk (by simp) λi h1 h2=>?_
 simp[aiA];rw[ait (by simpa using h1)]
 rfl
theorem wM{os:List Nat}{n:Nat}(h:os.Perm (η n)):((η n).map λi=>os.getD i 0).Perm (η n):=by
 have:=Bt os id;rw[ako,kq h]at this;exact(amr this.symm).trans h
theorem HG{os:List Nat}{n i:Nat}(h:os.Perm (η n)) (hi:i<n):os.getD i 0<n:=by
 have:=kq h;rw[aiA,ait (by omega)]
 exact ua h (aiJ _)
theorem cR.lt{n:Nat}{r:Nat->Nat->Nat}(h:cR n r) {i k:Nat}(hi:i<n) (hk:k<n):r i k<n:=ua (h.row i hi) (aik.mpr ⟨k,ain.mpr hk,rfl⟩)
theorem cR.rows{n:Nat}{r:Nat->Nat->Nat}(h:cR n r) {os:List Nat}(ho:os.Perm (η n)):cR n λi k=>r (os.getD i 0) k:=by
 refine⟨λi hi=>h.row _ (HG ho hi),λk hk=>?_⟩
 have:=(wM ho).map λi=>r i k
 rw[aiG]at this;exact this.trans (h.col k hk)
theorem cR.cols{n:Nat}{r:Nat->Nat->Nat}(h:cR n r) {os:List Nat}(ho:os.Perm (η n)):cR n λi k=>r i (os.getD k 0):=by
 refine⟨λi hi=>?_,λk hk=>h.col _ (HG ho hk)⟩
 have:=(wM ho).map λk=>r i k
 rw[aiG]at this;exact this.trans (h.row i hi)
theorem cR.names{n:Nat}{r:Nat->Nat->Nat}(h:cR n r) {os:List Nat}(ho:os.Perm (η n)):cR n λi k=>os.getD (r i k) 0:=by
 refine⟨λi hi=>?_,λk hk=>?_⟩
 ·have:=(h.row i hi).map λi=>os.getD i 0
  rw[aiG]at this;exact this.trans (wM ho)
 ·have:=(h.col k hk).map λi=>os.getD i 0
  rw[aiG]at this;exact this.trans (wM ho)
theorem A8(n:Nat) (s:Nat->Nat->Nat):bA ((η n).map λi=>D.tup (nD ((η n).map (s i))))=Θ:=iQ.mpr λd hd=>by
 obtain⟨i,_,rfl⟩:=aik.mp hd;rw[HM];exact A9 _
theorem Hj{n:Nat}{os:List Nat}{f:Nat->Nat->Nat}(ho:os.length=n):D.tup (os.map λi=>D.tup (nD ((η n).map (f i))))=aG n λi k=>f (os.getD i 0) k:=by
 unfold aG;rw[Bt,ho]
theorem adE{A B:D}{row col k v:Int}{r:D}{c:aa}(h1:aH B (.int row) c=.ok r c) (h2:aH r (.int col) c=.ok (.int k) c) (h3:aH A (.int k) c=.ok (.int v) c):(au aH (ak 1) (au aH (au aH (ak 2) (ak 3)) (ak 0))) [ζ (.int col),ζ A,ζ B,ζ (.int row)] c=.ok (.int v) c:=by
 simp only[fj,bX,gz,gs,R.aC,h1,h2,h3]
theorem adF{A B:D}{cs l:List D}{row:Int}{c:aa}(hl:cs.length<ι) (h:bR (λ_=>True) (aB 0) aO (au aH (ak 1) (au aH (au aH (ak 2) (ak 3)) (ak 0))) cs [θ,ζ A,ζ B,ζ (.int row)] [] c=.ok l c):(aE cA (ao (aW (c8 (ak 2)) [θ,ζ 1,ζ 3,ζ 0] (aB 0) aO (au aH (ak 1) (au aH (au aH (ak 2) (ak 3)) (ak 0)))) aq)) [ζ (.int row),ζ A,ζ (.tup cs),ζ B] c=.ok (.tup l) c:=by
 have hp:cV [θ,ζ 1,ζ 3,ζ 0] [ζ (.int row),ζ A,ζ (.tup cs),ζ B]=[θ,ζ A,ζ B,ζ (.int row)]:=rfl;have hd:c8 (ak 2) [ζ (.int row),ζ A,ζ (.tup cs),ζ B] c=.ok ⟨cs,λ_=>True⟩ c:=rfl
 simp only[fU,bz,dX,hd,bG,R.aC];rw[if_pos hl,hp,h];rfl
def zw:af:=(aE cA (ao (aW (c8 (ak 2)) [θ,ζ 1,ζ 3,ζ 0] (aB 0) aO (au aH (ak 1) (au aH (au aH (ak 2) (ak 3)) (ak 0)))) aq))
theorem adI{A B C:D}{os l:List D}{a0 a1 a3:Option D}{c:aa}(hl:os.length<ι) (h:bR (λ_=>True) (aB 0) aO zw os [θ,ζ A,ζ C,ζ B] [] c=.ok l c):(aP (aE cA (ao (aW (c8 (ak 4)) [θ,ζ 5,ζ 6,ζ 2] (aB 0) aO (aE cA (ao (aW (c8 (ak 2)) [θ,ζ 1,ζ 3,ζ 0] (aB 0) aO (au aH (ak 1) (au aH (au aH (ak 2) (ak 3)) (ak 0)))) aq))) aq))) [a0,a1,ζ B,a3,ζ (.tup os),ζ A,ζ C] c=.ok (.rt (.tup l)) c:=by
 have hp:cV [θ,ζ 5,ζ 6,ζ 2] [a0,a1,ζ B,a3,ζ (.tup os),ζ A,ζ C]=[θ,ζ A,ζ C,ζ B]:=rfl;have hd:c8 (ak 4) [a0,a1,ζ B,a3,ζ (.tup os),ζ A,ζ C] c=.ok ⟨os,λ_=>True⟩ c:=rfl
 unfold zw at h;simp only[j7,fU,bz,dX,hd,bG,R.aC];rw[if_pos hl,hp,h];rfl
section
variable {j:Nat}{q:Int}{T:D}{c c':aa}(a2 a3 a4 a5 a6:Option D)
theorem adL(h:ff [.ref j,.int q] c=.ok T c'):(aF 4 (aA 2 ff (ao (ak 0) (ao (ak 1) aq)))) [ζ (.ref j),ζ (.int q),a2,a3,a4,a5,a6] c=.ok (.nx [ζ (.ref j),ζ (.int q),a2,a3,ζ T,a5,a6]) c':=by
 simp only[fT,x_call,bz,bX,gz,gs,bG,R.aC,aiv,aiR,if_pos,h];rfl
theorem adK(h:ff [.ref j,.int q] c=.ok T c'):(aF 5 (aA 2 ff (ao (ak 0) (ao (ak 1) aq)))) [ζ (.ref j),ζ (.int q),a2,a3,a4,a5,a6] c=.ok (.nx [ζ (.ref j),ζ (.int q),a2,a3,a4,ζ T,a6]) c':=by
 simp only[fT,x_call,bz,bX,gz,gs,bG,R.aC,aiv,aiR,if_pos,h];rfl
theorem adJ(h:ff [.ref j,.int q] c=.ok T c'):(aF 6 (aA 2 ff (ao (ak 0) (ao (ak 1) aq)))) [ζ (.ref j),ζ (.int q),a2,a3,a4,a5,a6] c=.ok (.nx [ζ (.ref j),ζ (.int q),a2,a3,a4,a5,ζ T]) c':=by
 simp only[fT,x_call,bz,bX,gz,gs,bG,R.aC,aiv,aiR,if_pos,h];rfl
end
theorem Pp{n:Nat}(r:Nat->Nat->Nat) {i:Nat}(hi:i<n) (c:aa):aH (jG n r) (.int (i:Int)) c=.ok (.lst (nD (c7 n r i))) c:=by
 unfold jG;rw[sV,gX (v:=.lst (nD (c7 n r i))) (by simp[hi])]
theorem R9{n:Nat}(r:Nat->Nat->Nat) (i:Nat) {k:Nat}(hk:k<n) (c:aa):aH (.lst (nD (c7 n r i))) (.int (k:Int)) c=.ok (.int (r i k:Nat)) c:=by
 rw[sV,gX (v:=.int (r i k:Nat)) (by simp[nD,c7,hk])]
theorem Vo{os:List Nat}{k:Nat}(hk:k<os.length) (c:aa):aH (.tup (nD os)) (.int (k:Int)) c=.ok (.int (os.getD k 0:Nat)) c:=by
 rw[GB,gX (v:=.int (os.getD k 0:Nat)) (by simp[nD,hk,aiA])]
theorem adG{n:Nat}{r:Nat->Nat->Nat}(hL:cR n r) (h8:n<8) {os ns cs:List Nat}(ho:os.Perm (η n)) (hn:ns.Perm (η n)) (hc:cs.Perm (η n)) (c:aa) :
  bR (λ_=>True) (aB 0) aO zw (nD os) [θ,ζ (.tup (nD ns)),ζ (.tup (nD cs)),ζ (jG n r)] [] c=.ok (os.map λi=>D.tup (nD ((η n).map λk=>ns.getD (r i (cs.getD k 0)) 0))) c:=by
 have hs:=eN (n:=1000) (by decide)
 have:=mV (E:=[ζ (.tup (nD ns)),ζ (.tup (nD cs)),ζ (jG n r)]) (a:=zw) (c:=c) (λk:Nat=>D.int (k:Int)) (λi=>D.tup (nD ((η n).map λk=>ns.getD (r i (cs.getD k 0)) 0))) os θ [] (λi hi=>by
  have hin:=ua ho hi;have h2:=mV (E:=[ζ (.tup (nD ns)),ζ (jG n r),ζ (.int (i:Int))]) (a:=(au aH (ak 1) (au aH (au aH (ak 2) (ak 3)) (ak 0)))) (c:=c) (λk:Nat=>D.int (k:Int)) (λk=>D.int (ns.getD (r i k) 0:Nat)) cs θ [] (λk hk=>by
   have hkn:=ua hc hk;have h3:=hL.lt hin hkn;exact adE (Pp r hin c) (R9 r i hkn c) (Vo (by rw[kq hn];exact h3) c))
  rw[aiM,<-nX]at h2;have e:(cs.map λk=>D.int (ns.getD (r i k) 0:Nat))=nD ((η n).map λk=>ns.getD (r i (cs.getD k 0)) 0):=by
   rw[Bt,kq hc,nX,aiG];rfl
  rw[e]at h2;exact adF (by rw[nX,aiu,kq hc];omega) h2)
 rw[aiM,<-nX]at this;exact this
theorem LY{j m n:Nat}{c:aa}(hP:dH j m c) (h1:1<=n) (h8:n<8):∃s c',cR n s/\dH j m c'/\n9 [.ref j,.int (n:Int)] c=.ok (aG n s) c':=by
 have hs:=eN (n:=1000) (by decide)
 obtain⟨r,v3,c1,hL,P1,e1⟩:=adH hP h1 h8;obtain⟨os,c2,ho,P2,o2⟩:=A4 P1 h1 (show n<1000 by omega)
 obtain⟨ns,c3,hn,P3,o3⟩:=A4 P2 h1 (show n<1000 by omega)
 obtain⟨cs,c4,hc,P4,o4⟩:=A4 P3 h1 (show n<1000 by omega)
 have e2:=adL (ζ (jG n r)) v3 θ θ θ o2;have e3:=adK (ζ (jG n r)) v3 (ζ (.tup (nD os))) θ θ o3;have e4:=adJ (ζ (jG n r)) v3 (ζ (.tup (nD os))) (ζ (.tup (nD ns))) θ o4;have e5:=adI (a0:=ζ (.ref j)) (a1:=ζ (.int (n:Int))) (a3:=v3) (by rw[nX,aiu,kq ho];omega) (adG hL h8 ho hn hc c4)
 refine⟨λi k=>ns.getD (r (os.getD i 0) (cs.getD k 0)) 0,c4,((hL.rows ho).cols hc).names hn,P4,?_⟩
 have hb:sD=aD vd (aD (aF 4 (aA 2 ff (ao (ak 0) (ao (ak 1) aq)))) (aD (aF 5 (aA 2 ff (ao (ak 0) (ao (ak 1) aq)))) (aD (aF 6 (aA 2 ff (ao (ak 0) (ao (ak 1) aq)))) (aP (aE cA (ao (aW (c8 (ak 4)) [θ,ζ 5,ζ 6,ζ 2] (aB 0) aO (aE cA (ao (aW (c8 (ak 2)) [θ,ζ 1,ζ 3,ζ 0] (aB 0) aO (au aH (ak 1) (au aH (au aH (ak 2) (ak 3)) (ak 0)))) aq))) aq)))))):=rfl;have es:cD 7 [D.ref j,.int (n:Int)]=[ζ (.ref j),ζ (.int (n:Int)),θ,θ,θ,θ,θ]:=rfl;have hq:D.tup (os.map λi=>D.tup (nD ((η n).map λk=>ns.getD (r i (cs.getD k 0)) 0)))=aG n λi k=>ns.getD (r (os.getD i 0) (cs.getD k 0)) 0:=Hj (f:=λi k=>ns.getD (r i (cs.getD k 0)) 0) (kq ho)
 rw[n9,fC,hb,es,bN e1,bN e2,bN e3,bN e4,e5,hq];simp only[R.aC];unfold aG;rw[tW,if_pos (A8 n _),aj1 (by rw[P4.1,hP.1];exact aij _)]
theorem Qi{a0 a2:Option D}{c:aa}:(aF 1 (eX (ao (aY (eG [0,1,2,3,4,5])) (ao (aY (eG [1,0,3,2,5,4])) (ao (aY (eG [2,4,0,5,1,3])) (ao (aY (eG [3,5,1,4,0,2])) (ao (aY (eG [4,2,5,0,3,1])) aq))))))) [a0,θ,a2] c=.ok (.nx [a0,ζ (.ref c.length),a2]) (c++[.lst ((six.take 5).map λl=>D.lst (nD l))]):=by
 simp[six,nD]
theorem Qh{a0 a2:Option D}{c:aa}:(dY (fP (ak 1) (aY (eG [5,3,4,1,2,0])))) [a0,ζ (.ref c.length),a2] (c++[.lst ((six.take 5).map λl=>D.lst (nD l))])=.ok (.nx [a0,ζ (.ref c.length),a2]) (c++[.lst ((six.take 5).map (λl=>D.lst (nD l))++[D.lst (nD [5,3,4,1,2,0])])]):=by
 have h:=FY (dO:=ak 1) (da:=aY (eG [5,3,4,1,2,0])) (e:=[a0,ζ (.ref c.length),a2]) (c:=c) (acc:=(six.take 5).map λl=>D.lst (nD l)) (y:=D.lst (nD [5,3,4,1,2,0])) (by simp) (by simp[nD]) (by simp[nD]) (by simp[six])
 simp only[mj,h,R.aC]
theorem Rz:(six.take 5).map (λl=>D.lst (nD l))++[D.lst (nD [5,3,4,1,2,0])]=(η 6).map λi=>D.lst (nD (c7 6 iK i)):=by
 simp[six,c7,iK,nD,ajB]
theorem Qg{j:Nat}{T:D}{a1 a2:Option D}{c c':aa}(h:ff [.ref j,.int 6] c=.ok T c'):(aF 2 (aA 2 ff (ao (ak 0) (ao (dC (.int 6)) aq)))) [ζ (.ref j),a1,a2] c=.ok (.nx [ζ (.ref j),a1,ζ T]) c':=by
 simp only[fT,x_call,bz,bX,nJ,gz,gs,bG,R.aC,aiv,aiR,if_pos,h];rfl
theorem Qe{k:Nat}{i:Int}{l r:List D}{c:aa}(hk:c[k]? = ζ (.lst l)) (hi:cF l i=ζ (.lst r)):(aE cA (ao (au aH (ak 1) (ak 0)) aq)) [ζ (.int i),ζ (.ref k)] c=.ok (.tup r) c:=by
 have:aH (.ref k) (.int i) c=.ok (.lst r) c:=by
  unfold aH;dsimp only[fW];rw[hk];dsimp only;rw[hi]
 simp only[fU,bz,fj,bX,gz,gs,bG,R.aC,this];rfl
theorem Qf{k:Nat}{os l:List D}{a0:Option D}{c:aa}(hl:os.length<ι) (h:bR (λ_=>True) (aB 0) aO (aE cA (ao (au aH (ak 1) (ak 0)) aq)) os [θ,ζ (.ref k)] [] c=.ok l c):(aP (aE cA (ao (aW (c8 (ak 2)) [θ,ζ 1] (aB 0) aO (aE cA (ao (au aH (ak 1) (ak 0)) aq))) aq))) [a0,ζ (.ref k),ζ (.tup os)] c=.ok (.rt (.tup l)) c:=by
 have hp:cV [θ,ζ 1] [a0,ζ (.ref k),ζ (.tup os)]=[θ,ζ (.ref k)]:=rfl;have hd:c8 (ak 2) [a0,ζ (.ref k),ζ (.tup os)] c=.ok ⟨os,λ_=>True⟩ c:=rfl
 simp only[j7,fU,bz,dX,hd,bG,R.aC];rw[if_pos hl,hp,h];rfl
theorem RB{j m:Nat}{c:aa}(hP:dH j m c):∃s c',cR 6 s/\dH j m c'/\kF [.ref j] c=.ok (aG 6 s) c':=by
 have hs:=eN (n:=1000) (by decide)
 obtain⟨hl,hj,p,hp⟩:=id hP;have e0:=Qi (a0:=ζ (.ref j)) (a2:=θ) (c:=c);have e1:=Qh (a0:=ζ (.ref j)) (a2:=θ) (c:=c);rw[Rz]at e1;have P0:dH j (c.length+1) (c++[.lst ((η 6).map λi=>D.lst (nD (c7 6 iK i)))]):=⟨by simp,by omega,p,by rw[ai2 (by omega)];exact hp⟩
 obtain⟨os,c2,ho,P2,f2,o2⟩:=Iq P0 (by decide) (show 6<1000 by decide)
 have g4:c2[c.length]? = ζ (.lst ((η 6).map λi=>D.lst (nD (c7 6 iK i)))):=by rw[f2 c.length (by omega) (by omega)];simp
 have e2:=Qg (a1:=ζ (.ref c.length)) (a2:=θ) o2;have hc:=mV (E:=[ζ (.ref c.length)]) (a:=(aE cA (ao (au aH (ak 1) (ak 0)) aq))) (c:=c2) (λk:Nat=>D.int (k:Int)) (λi=>D.tup (nD (c7 6 iK i))) os θ [] (λi hi=>Qe g4 (gX (by simp[ua ho hi])))
 rw[aiM,<-nX]at hc;have e3:=Qf (a0:=ζ (.ref j)) (by rw[nX,aiu,kq ho];omega) hc
 have hL:cR 6 iK:=⟨JZ.1,JZ.2⟩;obtain⟨g1,g2,p2,g3⟩:=P2;refine⟨λi k=>iK (os.getD i 0) k,c2.take c.length,hL.rows ho,⟨by rw[ajw];omega,hj,p2,by rw[akw (by omega)];exact g3⟩,?_⟩
 have hb:r9=aD (aF 1 (eX (ao (aY (eG [0,1,2,3,4,5])) (ao (aY (eG [1,0,3,2,5,4])) (ao (aY (eG [2,4,0,5,1,3])) (ao (aY (eG [3,5,1,4,0,2])) (ao (aY (eG [4,2,5,0,3,1])) aq))))))) (aD (dY (fP (ak 1) (aY (eG [5,3,4,1,2,0])))) (aD (aF 2 (aA 2 ff (ao (ak 0) (ao (dC (.int 6)) aq)))) (aP (aE cA (ao (aW (c8 (ak 2)) [θ,ζ 1] (aB 0) aO (aE cA (ao (au aH (ak 1) (ak 0)) aq))) aq))))):=rfl;have es:cD 3 [D.ref j]=[ζ (.ref j),θ,θ]:=rfl;have hq:D.tup (os.map λi=>D.tup (nD (c7 6 iK i)))=aG 6 λi k=>iK (os.getD i 0) k:=Hj (f:=iK) (kq ho)
 rw[kF,fC,hb,es,bN e0,bN e1,bN e2,e3,hq];simp only[R.aC];unfold aG;rw[tW,if_pos (A8 6 _)]
theorem Y9{j:Nat}{T:D}{a0:Option D}{c c1 c2:aa}(t:bC [.ref j,.int 2] c=.ok (.int 0) c1) (h:kF [.ref j] c1=.ok T c2):(b8 (jz (aT (au bD (ak 1) (dC (.int 6)))) (aT (au bD (aA 2 bC (ao (ak 0) (ao (dC (.int 2)) aq))) (dC (.int 0))))) (aP (aA 1 kF (ao (ak 0) aq))) ck) [ζ (.ref j),ζ (.int 6)] c=.ok (.rt T) c2:=by
 simp[t,h]
theorem Za{j:Nat}{x:Int}{c c1:aa}(t:bC [.ref j,.int 2] c=.ok (.int x) c1) (hx:¬x=0):(b8 (jz (aT (au bD (ak 1) (dC (.int 6)))) (aT (au bD (aA 2 bC (ao (ak 0) (ao (dC (.int 2)) aq))) (dC (.int 0))))) (aP (aA 1 kF (ao (ak 0) aq))) ck) [ζ (.ref j),ζ (.int 6)] c=.ok (.nx [ζ (.ref j),ζ (.int 6)]) c1:=by
 simp[t,hx]
theorem Zb{j:Nat}{q:Int}{c:aa}(hq:¬q=6):(b8 (jz (aT (au bD (ak 1) (dC (.int 6)))) (aT (au bD (aA 2 bC (ao (ak 0) (ao (dC (.int 2)) aq))) (dC (.int 0))))) (aP (aA 1 kF (ao (ak 0) aq))) ck) [ζ (.ref j),ζ (.int q)] c=.ok (.nx [ζ (.ref j),ζ (.int q)]) c:=by
 simp[hq]
theorem JO{j:Nat}{q:Int}{T:D}{c c':aa}(h:n9 [.ref j,.int q] c=.ok T c'):(aP (aA 2 n9 (ao (ak 0) (ao (ak 1) aq)))) [ζ (.ref j),ζ (.int q)] c=.ok (.rt T) c':=by
 simp[h]
theorem LK{j m n:Nat}{c:aa}(hP:dH j m c) (h1:1<=n) (h8:n<8):∃s c',cR n s/\dH j m c'/\jl [.ref j,.int (n:Int)] c=.ok (aG n s) c':=by
 have hb:r8=aD (b8 (jz (aT (au bD (ak 1) (dC (.int 6)))) (aT (au bD (aA 2 bC (ao (ak 0) (ao (dC (.int 2)) aq))) (dC (.int 0))))) (aP (aA 1 kF (ao (ak 0) aq))) ck) (aP (aA 2 n9 (ao (ak 0) (ao (ak 1) aq)))):=rfl;have es:cD 2 [D.ref j,.int (n:Int)]=[ζ (.ref j),ζ (.int (n:Int))]:=rfl;have fin:∀{c'}{s:Nat->Nat->Nat},dH j m c'->eF Ψ c.length (aG n s) c'=.ok (aG n s) c':=fun{c' s} P'=>by
  unfold aG;rw[tW,if_pos (A8 n _),aj1 (by rw[P'.1,hP.1];exact aij _)]
 by_cases h6:(n:Int)=6
 ·have:n=6:=by omega
  subst this;obtain⟨x,c1,x0,x1,P1,t1⟩:=mz (cQ:=2) hP (by decide) (by decide)
  by_cases hx:x=0
  ·subst hx;obtain⟨s,c2,hL,P2,h2⟩:=RB P1;refine⟨s,c2,hL,P2,?_⟩;have e:=Y9 (a0:=θ) t1 h2;rw[jl,fC,hb,es,show((6:Nat):Int)=6 from rfl,AH e]
   exact fin P2
  ·obtain⟨s,c2,hL,P2,h2⟩:=LY P1 h1 h8;refine⟨s,c2,hL,P2,?_⟩;have e:=Za t1 hx;rw[show((6:Nat):Int)=6 from rfl]at h2
   rw[jl,fC,hb,es,show((6:Nat):Int)=6 from rfl,bN e,JO h2]
   exact fin P2
 ·obtain⟨s,c2,hL,P2,h2⟩:=LY hP h1 h8;refine⟨s,c2,hL,P2,?_⟩;rw[jl,fC,hb,es,bN (Zb h6),JO h2];exact fin P2
end Ev
namespace Fq
def bI(p:Int):Nat->Int->List Int
 |0,_=>[]
 |n+1,x=>x % p::bI p n (x/p)
def fq(p:Int):List Int->Int
 |[]=>0
 |d::r=>fq p r*p+d % p
def BA:List Int->Int
 |[]=>0
 |[a]=>a
 |_::b::r=>BA (b::r)
def GU(low row:List Int):List Int:=List.zipWith (λb d=>b-BA row*d) (0::row) low
def mulR(low ry:List Int):List Int->List Int
 |[]=>ry.map λ_=>0
 |d::rx=>List.zipWith (λa b=>a+d*b) (GU low (mulR low ry rx)) ry
def sI(p:Int) (n:Nat) (x y:Int):Int:=fq p (List.zipWith (· + ·) (bI p n x) (bI p n y))
def Bo(p:Int) (n:Nat) (low x y:Int):Int:=fq p (mulR (bI p n low) (bI p n y) (bI p n x))
theorem IV(p:Int):∀r:List Int,fq p (r.map (· % p))=fq p r
 |[]=>rfl
 |d::r=>by simp only[ais,fq,IV p r,Int.emod_emod_of_dvd _ (Int.dvd_refl p)]
theorem IU{p:Int}(hp:0<p):∀r:List Int,0<=fq p r
 |[]=>alD 0
 |d::r=>by
  have h1:=IU hp r;have h2:=ajE d (Int.ne_of_gt hp);have h3:=Int.mul_nonneg h1 (Int.le_of_lt hp);simp only[fq];omega
theorem IW{p:Int}(hp:0<p):∀r:List Int,fq p r<p^r.length
 |[]=>by simp[fq]
 |d::r=>by
  have h1:=IW hp r;have h2:=ajF d hp;simp only[fq,aiv,alF];have h3:(fq p r+1)*p<=p^r.length*p:=Int.mul_le_mul_of_nonneg_right (by omega) (Int.le_of_lt hp)
  have h4:(fq p r+1)*p=fq p r*p+p:=by rw[Int.add_mul,Int.one_mul]
  omega
theorem iw(p:Int):∀(n:Nat) (x:Int),(bI p n x).length=n
 |0,_=>rfl
 |n+1,x=>by simp[bI,iw p n]
theorem Gn{f:Int->Int->Int}{p:Int}{n:Nat}{x y:Int}:(List.zipWith f (bI p n x) (bI p n y)).length=n:=by simp[iw]
section
variable {p:Int}(hp:0<p) {n:Nat}
include hp
theorem agp(x y:Int):0<=sI p n x y:=IU hp _
theorem agq(x y:Int):sI p n x y<p^n:=by
 have:=IW hp (List.zipWith (· + ·) (bI p n x) (bI p n y))
 rwa[Gn]at this
end
structure Fd where
 q:Nat
 p:Nat
 n:Nat
 low:Nat
 g:Nat
 E:List Nat
 L:List Nat
def cg:List Fd:=[⟨2,2,1,0,1,[1],[0,0]⟩,
 ⟨3,3,1,0,2,[1,2],[0,0,1]⟩,
 ⟨4,2,2,3,2,[1,2,3],[0,0,1,2]⟩,
 ⟨5,5,1,0,2,[1,2,4,3],[0,0,1,3,2]⟩,
 ⟨7,7,1,0,3,[1,3,2,6,4,5],[0,0,2,1,4,5,3]⟩]
def dN:List Nat->Nat->Nat
 |[],_=>0
 |a::_,0=>a
 |_::l,i+1=>dN l i
def mI(f:Fd) (x y:Nat):Int:=Bo f.p f.n f.low x y
def aI(f:Fd) (x y:Nat):Int:=sI f.p f.n x y
def M(f:Fd) (x y:Nat):Nat:=if x=0\/y=0 then 0 else dN f.E ((dN f.L x+dN f.L y) % (f.q-1))
def Mk(f:Fd) (x y:Nat):Nat:=cond (Nat.beq x 0||Nat.beq y 0) 0 (dN f.E ((dN f.L x+dN f.L y) % (f.q-1)))
theorem vF(f:Fd) (x y:Nat):Mk f x y=M f x y:=by
 unfold Mk M
 by_cases h:x=0\/y=0
 ·rw[if_pos h]
  rcases h with h|h<;>subst h<;>simp
 ·rw[if_neg h];rw[not_or]at h;have h1:Nat.beq x 0=Ψ:=by cases x with|zero=>exact absurd rfl h.1|succ _=>rfl
  have h2:Nat.beq y 0=Ψ:=by cases y with|zero=>exact absurd rfl h.2|succ _=>rfl
  rw[h1,h2];rfl
def C3(i:Int) (k:Nat):Bool:=match i with
 |.ofNat m=>Nat.beq m k
 |.negSucc _=>Ψ
theorem Kh{i:Int}{k:Nat}(h:C3 i k=Θ):i=k:=by
 cases i with
 |ofNat m=>have:m=k:=amA h;subst this;rfl
 |negSucc _=>cases h
def aeM(f:Fd):Bool:=(η f.q).all λx=>(η f.q).all λy=>C3 (mI f x y) (Mk f x y)
def aeP(f:Fd):Bool:=(η f.q).all λx=>(η f.q).all λy=>Nat.beq (Mk f f.g (aI f x y).toNat) (aI f (Mk f f.g x) (Mk f f.g y)).toNat
def aeO(f:Fd):Bool:=(η (f.q-1)).all λi=>Nat.beq (dN f.L (dN f.E i)) i && !Nat.beq (dN f.E i) 0&&Nat.ble (dN f.E i+1) f.q
def aeN(f:Fd):Bool:=(η f.q).all λx=>Nat.beq x 0||(Nat.beq (dN f.E (dN f.L x)) x&&Nat.ble (dN f.L x+1) (f.q-1))
def Mf(f:Fd):Bool:=Nat.ble 2 f.q&&Nat.beq (f.p^f.n) f.q&&Nat.beq (dN f.E 0) 1&&Nat.ble 2 f.p&&Nat.ble f.p 47&&Nat.ble 1 f.n&&Nat.ble f.n 5&&Nat.beq (dN f.E (1 % (f.q-1))) f.g&&Nat.ble (f.low+1) f.q&&Nat.ble 1 f.g&&Nat.ble (f.g+1) f.q
theorem age:cg.all aeM=Θ:=by decide +kernel
theorem agi:cg.all aeP=Θ:=by decide +kernel
theorem agh:cg.all aeO=Θ:=by decide +kernel
theorem agf:cg.all aeN=Θ:=by decide +kernel
theorem agd:cg.all Mf=Θ:=by decide +kernel
theorem bl{a b:Nat}(h:Nat.ble a b=Θ):a<=b:=amB h
theorem be{a b:Nat}(h:Nat.beq a b=Θ):a=b:=amA h
structure Is (f:Fd):Prop where
 q2:2<=f.q
 pn:f.p^f.n=f.q
 e0:dN f.E 0=1
 p2:2<=f.p
 jK:f.p<=47
 n1:1<=f.n
 n5:f.n<=5
 eg:dN f.E (1 % (f.q-1))=f.g
 lo:f.low<f.q
 g1:1<=f.g
 gq:f.g<f.q
 le:∀i,i<f.q-1->dN f.L (dN f.E i)=i/\dN f.E i≠0/\dN f.E i<f.q
 el:∀x,x<f.q->x≠0->dN f.E (dN f.L x)=x/\dN f.L x<f.q-1
 mm:∀x y,x<f.q->y<f.q->mI f x y=(M f x y:Nat)
 dd:∀x y,x<f.q->y<f.q->M f f.g (aI f x y).toNat=(aI f (M f f.g x) (M f f.g y)).toNat
theorem iA{f:Fd}(h:f∈cg):Is f:=by
 have hM:=aip.mp age f h;have hD:=aip.mp agi f h;have hE:=aip.mp agh f h;have hL:=aip.mp agf f h;have hO:=aip.mp agd f h;simp only[Mf,aiy]at hO;obtain⟨⟨⟨⟨⟨⟨⟨⟨⟨⟨o1,o2⟩,o3⟩,o4⟩,o5⟩,o6⟩,o7⟩,o8⟩,o9⟩,XH⟩,XG⟩:=hO;refine⟨bl o1,be o2,be o3,bl o4,bl o5,bl o6,bl o7,be o8,bl o9,bl XH,bl XG,λi hi=>?_,λx hx h0=>?_,λx y hx hy=>?_,λx y hx hy=>?_⟩
 ·have:=aip.mp hE i (ain.mpr hi);simp only[aiy,al9]at this;exact⟨be this.1.1,λz=>by rw[z]at this;simp at this,bl this.2⟩
 ·have:=aip.mp hL x (ain.mpr hx);simp only[akc,aiy]at this
  rcases this with this|this
  ·exact absurd (be this) h0
  ·exact⟨be this.1,bl this.2⟩
 ·have:=aip.mp (aip.mp hM x (ain.mpr hx)) y (ain.mpr hy);rw[Kh this,vF]
 ·have:=aip.mp (aip.mp hD x (ain.mpr hx)) y (ain.mpr hy);have:=be this
  rwa[vF,vF,vF]at this
section
variable {f:Fd}(I:Is f)
include I
theorem Is.pp:(0:Int)<f.p:=by have:=I.p2;omega
theorem Is.pw:((f.p:Int))^f.n=(f.q:Int):=by rw[<-I.pn];simp
end
def P(f:Fd) (x:Nat):Nat->Nat
 |0=>1
 |k+1=>M f (P f x k) x
section
variable {f:Fd}(I:Is f)
include I
theorem agw(x y:Nat):((aI f x y).toNat:Int)=aI f x y/\(aI f x y).toNat<f.q:=by
 have h1:=agp I.pp (n:=f.n) (x:Int) y;have h2:=agq I.pp (n:=f.n) (x:Int) y;rw[I.pw]at h2;unfold aI;omega
end
end Fq
namespace Ev
open PySem L2 Fq
theorem AQ{p:Int}(hp:0<p):∀(n:Nat) (x:Int),∀d∈bI p n x,0<=d/\d<p
 |0,x,d,h=>by cases h
 |n+1,x,d,h=>by
  rcases aio.mp h with rfl|h
  ·exact⟨ajE _ (by omega),ajF _ hp⟩
  ·exact AQ hp n _ d h
def xW:ah:=(aD (dY (fP (ak 3) (au bL (ak 0) (ak 1)))) (aF 0 (au gw (ak 0) (ak 1))))
theorem Zc{c:aa}{a2 v4:Option D}{p left:Int}{acc:List D}(hp:0<p) (d9:p<1000) (ha:acc.length<1000):xW [ζ (.int left),ζ (.int p),a2,ζ (.ref c.length),v4] (c++[.lst acc]) =
  .ok (.nx [ζ (.int (left/p)),ζ (.int p),a2,ζ (.ref c.length),v4]) (c++[.lst (acc++[.int (left % p)])]):=by
 have h:=FY (c:=c) (acc:=acc) (y:=.int (left % p)) (dO:=ak 3) (da:=au bL (ak 0) (ak 1)) (e:=[ζ (.int left),ζ (.int p),a2,ζ (.ref c.length),v4]) (by simp) (by simp(disch:=omega) [jM]) rfl (by have:=eN (n:=1000) (by decide);omega)
 unfold xW;rw[g9,mj,h];simp(disch:=omega) [rE]
theorem JP{c:aa}{a2:Option D}{p:Int}(hp:0<p) (d9:p<1000):∀(items:List D) (left:Int) (acc:List D) (v4:Option D),acc.length+items.length<1000 ->
  ∃l' v',cO (λ_=>True) (aB 4) xW items [ζ (.int left),ζ (.int p),a2,ζ (.ref c.length),v4] (c++[.lst acc]) =
   .ok (.nx [ζ (.int l'),ζ (.int p),a2,ζ (.ref c.length),v']) (c++[.lst (acc++(bI p items.length left).map D.int)])
 |[],left,acc,v4,_=>⟨left,v4,by simp[bI]⟩
 |x::xs,left,acc,v4,h=>by
  simp only[aiv]at h;obtain⟨l',v',ih⟩:=JP hp d9 xs (left/p) (acc++[.int (left % p)]) (ζ x) (by simp;omega)
  refine⟨l',v',?_⟩;rw[uX];simp only[OL,ajq,aj2,R.aC];rw[Zc hp d9 (by omega)]
  simp only[R.aC];rw[ih];simp[bI]
theorem xV{p N x:Int}(hp:0<p) (d9:p<1000) {n:Nat}(hl:(bf 0 N).length=n) (hn:n<1000) (b1:-4611686018427387904<=N/\N<4611686018427387904) (c:aa) :
  fc [.int x,.int p,.int N] c=.ok (.lst ((bI p n x).map D.int)) c:=by
 obtain⟨l',v',hf⟩:=JP (c:=c) (a2:=ζ (.int N)) (p:=p) hp d9 (bf 0 N) x [] θ (by rw[hl,aiR];omega)
 rw[hl,aiM]at hf;unfold xW at hf;simp[fc,sd];rw[if_pos b1];simp only[R.aC];rw[hf];simp[eF,xJ]
def dv(q p:Int):Bool:=decide (q % p=0)
def prs:List Int:=[2,3,5,7,11,13,17,19,23,29,31,37,41,43,47]
theorem Lv{α:Type}{P:α->Bool}{p:α}:∀{l:List α},l.find? P=ζ p->∃r,l.filter P=p::r
 |[],h=>by cases h
 |a::l,h=>by
  rw[List.find?_cons]at h;rw[alG];cases hP:P a with
  |true=>rw[hP]at h;cases h;exact⟨_,if_pos rfl⟩
  |false =>
   rw[hP]at h;obtain⟨r,hr⟩:=Lv (l:=l) h;exact⟨r,by rw[if_neg aiD];exact hr⟩
def zg(q:Int):D->Bool
 |.int p=>dv q p
 |_=>Ψ
theorem LJ(q:Int):∀l:List Int,((l.map D.int).filter (zg q)).map id=(l.filter (dv q)).map D.int
 |[]=>rfl
 |a::l=>by
  have ih:=LJ q l;have e:zg q (.int a)=dv q a:=rfl;rw[ais,alG,alG,e];cases dv q a with
  |true=>rw[if_pos rfl,if_pos rfl,ais,ais,ih];rfl
  |false=>rw[if_neg aiD,if_neg aiD,ih]
theorem Tp{q:Int}{p:Int}(h:prs.find? (dv q)=ζ p) (c:aa):gb [.int q] c=.ok (.int p) c:=by
 have R1:(15:Nat)<=ι:=by decide
 have Qc:(15:Nat)<ι:=by decide
 have hc:=nq (c:=c) (g:=aB 0) (t:=aT (au bD (au bL (ak 1) (ak 0)) (dC (.int 0)))) (a:=ak 0) (λe=>∃v,e=[v,ζ (.int q)]) (zg q) id
  (prs.map D.int) [θ,ζ (.int q)] [] ⟨θ,rfl⟩ (λx hx e ⟨v,he⟩=>by
   subst he;obtain⟨i,hi,rfl⟩:=aik.mp hx;have i0:0<i:=by
    simp only[prs,aio,aiE,or_false]at hi;omega
   refine⟨_,rfl,⟨_,rfl⟩,?_,λ_=>rfl⟩
   have e:bL (.int q) (.int i) c=.ok (.int (q % i)) c:=jM c i0;simp[e,zg,dv])
 obtain⟨r,hr⟩:=Lv h;rw[LJ,hr]at hc;simp only[ais,aiM]at hc;have hp:prs.map D.int=[D.int 2,.int 3,.int 5,.int 7,.int 11,.int 13,.int 17,.int 19,.int 23,.int 29,.int 31,.int 37,.int 41,.int 43,.int 47]:=rfl;rw[hp]at hc;simp[-kU,gb,sf,R1,Qc,cV];rw[hc];simp
theorem To:(cg.all λf=>(η f.n).all λk=>prs.find? (dv ((f.p:Int)^(k+1)))==ζ (f.p:Int))=Θ:=by decide +kernel
theorem HY{f:Fd}(h:f∈cg) {k:Nat}(hk:k<f.n) (c:aa):gb [.int ((f.p:Int)^(k+1))] c=.ok (.int f.p) c:=by
 refine Tp ?_ c;have:=aip.mp (aip.mp To f h) k (ain.mpr hk)
 simpa using this
theorem A0{f:Fd}(h:f∈cg) (c:aa):gb [.int f.q] c=.ok (.int f.p) c:=by
 have I:=iA h;have n1:=I.n1;have:=HY h (k:=f.n-1) (by omega) c
 rwa[show f.n-1+1=f.n by omega,I.pw]at this
def zj:ah:=(aD (aF 0 (au gw (ak 0) (aA 1 gb (ao (ak 0) aq)))) (aF 1 (au aZ (ak 1) (dC (.int 1)))))
theorem LM{f:Fd}(h:f∈cg) (c:aa):∀(k fuel:Nat) (d:Int),k<=f.n->k<fuel->gh (aT (au oF (ak 0) (dC (.int 1)))) zj fuel [ζ (.int ((f.p:Int)^k)),ζ (.int d)] c=.ok (.nx [ζ (.int 1),ζ (.int (d+k))]) c
 |0,fuel+1,d,_,_=>by simp[gh]
 |k+1,fuel+1,d,hk,hf=>by
  have I:=iA h;have p2:=I.p2;have jK:=I.jK;have ih:=LM h c k fuel (d+1) (by omega) (by omega)
  have hpos:∀j:Nat,(1:Int)<=(f.p:Int)^j:=λj=>by
   have:=Nat.one_le_pow j f.p (by omega)
   have e:((f.p^j:Nat):Int)=(f.p:Int)^j:=by simp
   omega
  have h1:(1:Int)<(f.p:Int)^(k+1):=by
   rw[alF];have h2:=hpos k;have h3:(f.p:Int)^k*2<=(f.p:Int)^k*f.p:=Int.mul_le_mul_of_nonneg_left (by omega) (by omega)
   omega
  have hd:(f.p:Int)^(k+1)/f.p=(f.p:Int)^k:=by
   rw[alF];exact Int.mul_ediv_cancel _ (by omega)
  have e:zj [ζ (.int ((f.p:Int)^(k+1))),ζ (.int d)] c=.ok (.nx [ζ (.int ((f.p:Int)^k)),ζ (.int (d+1))]) c:=by
   have e1:gw (.int ((f.p:Int)^(k+1))) (.int f.p) c=.ok (.int ((f.p:Int)^k)) c:=by rw[rE c (by omega) (by omega),hd]
   simp[zj,HY h (show k<f.n by omega),e1]
  have et:aT (au oF (ak 0) (dC (.int 1))) [ζ (.int ((f.p:Int)^(k+1))),ζ (.int d)] c=.ok Θ c:=by simp[h1]
  unfold gh;rw[et];simp only[R.aC,if_pos];rw[e];simp only[R.aC];rw[ih,show d+1+(k:Int)=d+((k+1:Nat):Int) by omega]
theorem LL{f:Fd}(h:f∈cg) (c:aa):jN [.int f.q] c=.ok (.int f.n) c:=by
 have I:=iA h;have hl:=LM h c f.n 10 0 (aij _) (by have:=I.n5;omega)
 rw[I.pw,Int.zero_add]at hl;unfold zj at hl;simp only[jN,sC,fC,OA,g9,fT,nJ,R.aC,ais,List.map_nil,aiv,aiR];show R.bind (R.bind (gh _ _ 10 [ζ (.int f.q),ζ (.int 0)] c) _) _=_;rw[hl];simp
def ji(p:Int):List Int->Int
 |[]=>0
 |d::r=>ji p r*p+d
theorem IX{p:Int}:∀{r:List Int},(∀d∈r,0<=d/\d<p)->ji p r=fq p r
 |[],_=>rfl
 |d::r,h=>by
  have:=h d ai1;rw[ji,fq,IX λx hx=>h x (aiN _ hx),amc this.1 this.2]
theorem XJ(p:Int) (r:List Int):r.reverse.foldl (λn d=>n*p+d) 0=ji p r:=by
 rw[List.foldl_reverse]
 induction r with
 |nil=>rfl
 |cons d r ih=>rw[List.foldr_cons,ih];rfl
def FW(L:List D->aa->R D):ah:=(aD (aF 2 (dC (.int 0))) (aD (cz (bh (ao (aE L (ao (ak 0) aq)) aq)) (aB 3) (aF 2 (au aZ (au bg (ak 2) (ak 1)) (au aH (ak 0) (au bq (au bq (aE L (ao (ak 0) aq)) (dC (.int 1))) (ak 3)))))) (aP (ak 2))))
theorem afp:su=FW aU:=rfl
def Bx(L:List D->aa->R D):ah:=(aF 2 (au aZ (au bg (ak 2) (ak 1)) (au aH (ak 0) (au bq (au bq (aE L (ao (ak 0) aq)) (dC (.int 1))) (ak 3)))))
theorem Zf{L:List D->aa->R D}{p N:Int}(hp:0<p) (d9:p<1000) (r:List Int) (hN:N=r.length) (b1:-4611686018427387904<=N/\N<4611686018427387904) {c:aa}(hL:L [.lst (r.map D.int)] c=.ok (.int N) c):bU 4 Ψ (FW L) [.lst (r.map D.int),.int p] c=.ok (.int (ji p r)) c:=by
 obtain⟨v',hf⟩:=rB (g:=aB 3) (s:=Bx L) (λ_=>c) (λi v=>[ζ (.lst (r.map D.int)),ζ (.int p),ζ (.int ((r.reverse.take i).foldl (λn d=>n*p+d) 0)),v]) hN θ (λi hi v=>by
  refine⟨_,rfl,ζ (.int i),?_⟩;have hr:i<r.reverse.length:=by rw[amC];exact hi
  have ht:r.reverse.take (i+1)=r.reverse.take i++[r.reverse[i]]:=akS hr;have hx:cF (r.map D.int) (N-1-i)=ζ (.int r.reverse[i]):=by
   have hg:(r.map D.int)[r.length-1-i]? = ζ (.int r.reverse[i]):=by
    rw[aiL,ait (by omega)]
    simp
   have:=gX (xs:=r.map D.int) (j:=r.length-1-i) (v:=.int r.reverse[i]) hg;rw[show((r.length-1-i:Nat):Int)=N-1-i by omega]at this
   exact this
  rw[ht,akj]
  generalize (r.reverse.take i).foldl (λn d=>n*p+d) 0=w
  generalize r.reverse[i]=z at hx
  have hm:bg (.int w) (.int p) c=.ok (.int (w*p)) c:=mul_r c (by omega) (by omega)
  simp[Bx,hL,hm,hx])
 have e0:(r.reverse.take r.length).foldl (λn d=>n*p+d) 0=ji p r:=by
  rw[aj1 (by rw[amC];exact aij _),XJ]
 simp only[akE,List.foldl_nil]at hf;rw[e0]at hf;unfold Bx at hf;simp[FW,hL];rw[if_pos b1];simp only[R.aC];rw[hf];simp
theorem JQ{p:Int}(hp:0<p) (d9:p<1000) (r:List Int) (hr:r.length<1000) (c:aa):n8 [.lst (r.map D.int),.int p] c=.ok (.int (ji p r)) c:=by
 rw[n8,afp];exact Zf hp d9 r rfl (by omega) (by rw[GA,aiu])
def gJ(l:List Int) (i:Nat):Int:=l.getD i 0
theorem Lf{l:List Int}{i:Nat}(h:i<l.length):(l.map D.int)[i]? = ζ (.int (gJ l i)):=by
 rw[aiL,ait h];simp[gJ,List.getD,h]
theorem Of(f:Int->Int->Int) {a b:List Int}{n:Nat}(ha:a.length=n) (hb:b.length=n):List.zipWith f a b=(η n).map λi=>f (gJ a i) (gJ b i):=by
 apply alk
 ·simp[ha,hb]
 ·intro i h1 h2;simp only[List.getElem_zipWith,amD,akf];simp at h1;have ia:i<a.length:=by omega
  have ib:i<b.length:=by omega
  simp[gJ,List.getD,ia,ib]
theorem aeA{a b:List Int}{p s N:Int}{n:Nat}(hN:N=n) (hp:0<p) (ha:a.length=n) (hb:b.length=n) (hs:-1000<s/\s<1000) (c:aa) :
  bR (λ_=>True) (aB 0) aO (au bL (au aZ (au aH (au aH (ak 3) (dC (.int 0))) (ak 0)) (au bg (ak 2) (au aH (au aH (ak 3) (dC (.int 1))) (ak 0)))) (ak 1)) (bf 0 N) [θ,ζ (.int p),ζ (.int s),ζ (.lst [.lst (a.map D.int),.lst (b.map D.int)])] [] c =
   .ok ((List.zipWith (λx y=>(x+s*y) % p) a b).map D.int) c:=by
 have:=nq (c:=c) (g:=aB 0) (t:=aO) (a:=au bL (au aZ (au aH (au aH (ak 3) (dC (.int 0))) (ak 0)) (au bg (ak 2) (au aH (au aH (ak 3) (dC (.int 1))) (ak 0)))) (ak 1)) (λe=>∃v,e=[v,ζ (.int p),ζ (.int s),ζ (.lst [.lst (a.map D.int),.lst (b.map D.int)])]) (λ_=>Θ)
  (λd=>match d with|.int i=>.int ((gJ a i.toNat+s*gJ b i.toNat) % p)|d=>d) (bf 0 N) [θ,ζ (.int p),ζ (.int s),ζ (.lst [.lst (a.map D.int),.lst (b.map D.int)])] [] ⟨θ,rfl⟩ (λx hx e ⟨v,he⟩=>by
   subst he;obtain⟨i,rfl,i0,i1⟩:=uA hx;obtain⟨k,rfl⟩:∃k:Nat,i=k:=⟨i.toNat,by omega⟩
   have h1:cF (a.map D.int) k=ζ (.int (gJ a k)):=gX (Lf (by omega))
   have h2:cF (b.map D.int) k=ζ (.int (gJ b k)):=gX (Lf (by omega))
   have h3:bg (.int s) (.int (gJ b k)) c=.ok (.int (s*gJ b k)) c:=xR c (by omega) (by omega)
   have h4:bL (.int (gJ a k+s*gJ b k)) (.int p) c=.ok (.int ((gJ a k+s*gJ b k) % p)) c:=jM c hp;refine⟨_,rfl,⟨_,rfl⟩,rfl,λ_=>?_⟩
   simp[h1,h2,h3,h4])
 rw[this,aiM,amE.mpr λ_ _=>rfl,Of _ ha hb]
 congr 1
 unfold bf;rw[aiG,aiG,show(N-0).toNat=n by omega]
 apply ajl;intro i _;simp
def vp(L:List D->aa->R D):ah:=(aD (aF 4 (aA 1 gb (ao (ak 0) aq))) (aD (aF 5 (aA 1 jN (ao (ak 0) aq))) (aD (aF 6 (aY (ao (aA 3 fc (ao (ak 1) (ao (ak 4) (ao (ak 5) aq)))) (ao (aA 3 fc (ao (ak 2) (ao (ak 4) (ao (ak 5) aq)))) aq)))) (aP (aA 2 L (ao (aW (bh (ao (ak 5) aq)) [θ,ζ 4,ζ 3,ζ 6] (aB 0) aO (au bL (au aZ (au aH (au aH (ak 3) (dC (.int 0))) (ak 0)) (au bg (ak 2) (au aH (au aH (ak 3) (dC (.int 1))) (ak 0)))) (ak 1))) (ao (ak 4) aq)))))))
theorem afn:rZ=vp n8:=rfl
theorem Qn{L:List D->aa->R D}{q x y s p N w:Int}{n:Nat}{a b:List Int}{c:aa}(h1:gb [.int q] c=.ok (.int p) c) (h2:jN [.int q] c=.ok (.int N) c) (h3:fc [.int x,.int p,.int N] c=.ok (.lst (a.map D.int)) c) (h4:fc [.int y,.int p,.int N] c=.ok (.lst (b.map D.int)) c)
  (hN:N=n) (hp:0<p) (ha:a.length=n) (hb:b.length=n) (hs:-1000<s/\s<1000) (b1:-4611686018427387904<=N/\N<4611686018427387904) (hl:(bf 0 N).length<ι) (hn:L [.lst ((List.zipWith (λx y=>(x+s*y) % p) a b).map D.int),.int p] c=.ok (.int w) c):bU 7 Ψ (vp L) [.int q,.int x,.int y,.int s] c=.ok (.int w) c:=by
 have hc:=aeA (a:=a) (b:=b) (p:=p) (s:=s) hN hp ha hb hs c;have key:vp L [ζ (.int q),ζ (.int x),ζ (.int y),ζ (.int s),θ,θ,θ] c=.ok (.rt (.int w)) c:=by
  simp[vp,h1,h2,h3,h4,cV];rw[if_pos b1];simp only[R.aC];rw[if_pos hl,hc];simp only[R.aC,aiv,aiR,if_pos,hn]
 rw[fC];show R.bind (vp L [ζ (.int q),ζ (.int x),ζ (.int y),ζ (.int s),θ,θ,θ] c) _=_;rw[key];simp
theorem Gm(f:Int->Int->Int) (p:Int):∀a b:List Int,List.zipWith (λx y=>f x y % p) a b=(List.zipWith f a b).map (· % p)
 |[],b=>by simp
 |a::as,[]=>by simp
 |a::as,b::bs=>by rw[amF,amF,ais,Gm f p as bs]
theorem Qm{f:Fd}(h:f∈cg) (x y s:Int) (hs:-1000<s/\s<1000) (c:aa):mS [.int f.q,.int x,.int y,.int s] c=.ok (.int (fq f.p (List.zipWith (λa b=>a+s*b) (bI f.p f.n x) (bI f.p f.n y)))) c:=by
 have I:=iA h;have p2:=I.p2;have jK:=I.jK;have n5:=I.n5;have hsz:=eN (n:=1000) (by decide)
 have h1:=λz=>xV (p:=f.p) (N:=f.n) (x:=z) (n:=f.n) (by omega) (by omega) (by rw[fF];omega) (by omega) (by omega) c
 have hn:=JQ (p:=f.p) (by omega) (by omega) (List.zipWith (λa b=>(a+s*b) % (f.p:Int)) (bI f.p f.n x) (bI f.p f.n y)) (by rw[Gn];omega) c
 have e:ji f.p (List.zipWith (λa b=>(a+s*b) % (f.p:Int)) (bI f.p f.n x) (bI f.p f.n y))=fq f.p (List.zipWith (λa b=>a+s*b) (bI f.p f.n x) (bI f.p f.n y)):=by
  rw[Gm,IX,IV];intro d hd;obtain⟨z,_,rfl⟩:=aik.mp hd;exact⟨ajE _ (by omega),ajF _ (by omega)⟩
 rw[e]at hn;rw[mS,afn];exact Qn (n:=f.n) (A0 h c) (LL h c) (h1 x) (h1 y) rfl (by omega) (iw _ _ _) (iw _ _ _) hs (by omega) (by rw[fF];omega) hn
def gI(l:List Int) (i:Nat):Int:=l.getD i 0
theorem rA{l:List Int}{i:Nat}(h:i<l.length):(l.map D.int)[i]? = ζ (.int (gI l i)):=by
 rw[aiL,ait h];simp[gI,List.getD,h]
def jR(p a:Int) (b:List Int) (k:Nat) (F:List Int):Nat->List Int
 |0=>F
 |j+1=>(jR p a b k F j).set (k+j) ((gI (jR p a b k F j) (k+j)+a*gI b j) % p)
def jL(p:Int) (a b:List Int) (F:List Int):Nat->List Int
 |0=>F
 |k+1=>jR p (gI a k) b k (jL p a b F k) b.length
def gk(a b:List Int) (p:Int):List Int:=jL p a b (ν (a.length+b.length-1) 0) a.length
theorem xY{p a:Int}{b:List Int}{k:Nat}{F:List Int}:∀j,(jR p a b k F j).length=F.length
 |0=>rfl
 |j+1=>by rw[jR,ak8,xY j]
theorem xo{p:Int}{a b F:List Int}:∀k,(jL p a b F k).length=F.length
 |0=>rfl
 |k+1=>by rw[jL,xY,xo k]
theorem map_set{l:List Int}{i:Nat}{x:Int}:(l.map D.int).set i (.int x)=(l.set i x).map D.int:=by rw[List.map_set]
def in1(a p:Option D):Ev:=[a,p]
def tN:ah:=(fX (au bL (au aZ (au aH (ak 3) (au aZ (ak 4) (ak 5))) (au bg (au aH (ak 0) (ak 4)) (au aH (ak 1) (ak 5)))) (ak 2)) (kN (ak 3) (au aZ (ak 4) (ak 5))))
theorem QA{a b F:List Int}{p:Int}{c:aa}{k j:Nat}(hp:0<p) (hk:k<a.length) (hj:j<b.length) (hF:k+j<F.length) (hs:∀x∈a,0<=x/\x<1000) :
  tN [ζ (.lst (a.map D.int)),ζ (.lst (b.map D.int)),ζ (.int p),ζ (.ref c.length),ζ (.int k),ζ (.int j)] (c++[.lst (F.map D.int)]) =
   .ok (.nx [ζ (.lst (a.map D.int)),ζ (.lst (b.map D.int)),ζ (.int p),ζ (.ref c.length),ζ (.int k),ζ (.int j)]) (c++[.lst ((F.set (k+j) ((gI F (k+j)+gI a k*gI b j) % p)).map D.int)]):=by
 have h1:=C0 (c:=c) (l:=F.map D.int) (i:=(k:Int)+j) (j:=k+j) (d:=.int (gI F (k+j))) (by omega) (rA hF)
 have h2:cF (a.map D.int) k=ζ (.int (gI a k)):=gX (rA hk);have h3:cF (b.map D.int) j=ζ (.int (gI b j)):=gX (rA hj);have hb:0<=gI a k/\gI a k<1000:=hs _ (by simp[gI,List.getD,hk])
 have h4:∀c,bg (.int (gI a k)) (.int (gI b j)) c=.ok (.int (gI a k*gI b j)) c:=λc=>xR c (by omega) (by omega)
 have h5:=λx=>Hw (c:=c) (l:=F.map D.int) (i:=(k:Int)+j) (j:=k+j) (d:=.int x) (by omega) (by simpa using hF) rfl
 have h6:∀x c,bL (.int x) (.int p) c=.ok (.int (x % p)) c:=λx c=>jM c hp
 simp only[tN,GD,fj,bX,gz,gs,R.aC,mq,sV,h1,h2,h3,h4,h6,GC,h5,map_set]
def wj(L:List D->aa->R D):ah:=(cz (bh (ao (aE L (ao (ak 1) aq)) aq)) (aB 5) tN)
theorem Qz{L:List D->aa->R D}{a b F:List Int}{p N:Int}{c:aa}{k:Nat}(hp:0<p) (hk:k<a.length) (hF:a.length+b.length-1<=F.length) (hs:∀x∈a,0<=x/\x<1000) (hN:N=b.length) (b1:-4611686018427387904<=N/\N<4611686018427387904) (hL:∀c,L [.lst (b.map D.int)] c=.ok (.int N) c) (v5:Option D) :
  ∃v',wj L [ζ (.lst (a.map D.int)),ζ (.lst (b.map D.int)),ζ (.int p),ζ (.ref c.length),ζ (.int k),v5] (c++[.lst (F.map D.int)]) =
   .ok (.nx [ζ (.lst (a.map D.int)),ζ (.lst (b.map D.int)),ζ (.int p),ζ (.ref c.length),ζ (.int k),v']) (c++[.lst ((jR p (gI a k) b k F b.length).map D.int)]):=by
 obtain⟨v',hf⟩:=rB (g:=aB 5) (s:=tN) (λj=>c++[.lst ((jR p (gI a k) b k F j).map D.int)]) (λ_ v=>[ζ (.lst (a.map D.int)),ζ (.lst (b.map D.int)),ζ (.int p),ζ (.ref c.length),ζ (.int k),v]) hN v5 (λj hj v=>by
  exact⟨_,rfl,_,QA hp hk hj (by rw[xY];omega) hs⟩)
 refine⟨v',?_⟩;simp only[wj,i6,ic,bz,fU,bX,bG,gz,gs,R.aC,hL];rw[if_pos (by omega)]
 exact hf
def vo(L:List D->aa->R D) (Rp:D->D->aa->R D):ah:=(aD (aF 3 (au Rp (aY (ao (dC (.int 0)) aq)) (au bq (au aZ (aE L (ao (ak 0) aq)) (aE L (ao (ak 1) aq))) (dC (.int 1))))) (aD (cz (bh (ao (aE L (ao (ak 0) aq)) aq)) (aB 4) (cz (bh (ao (aE L (ao (ak 1) aq)) aq)) (aB 5) (fX (au bL (au aZ (au aH (ak 3) (au aZ (ak 4) (ak 5))) (au bg (au aH (ak 0) (ak 4)) (au aH (ak 1) (ak 5)))) (ak 2)) (kN (ak 3) (au aZ (ak 4) (ak 5)))))) (aP (ak 3))))
theorem M9:kZ=vo aU jH:=rfl
theorem Hq{L:List D->aa->R D}{Rp:D->D->aa->R D}{a b:List Int}{p N M:Int}{c:aa}(hp:0<p) (ha:a≠[]) (hs:∀x∈a,0<=x/\x<1000) (hN:N=b.length) (b1:-4611686018427387904<=N/\N<4611686018427387904) (hL:∀c,L [.lst (b.map D.int)] c=.ok (.int N) c)
  (hM:M=a.length) (b2:-4611686018427387904<=M/\M<4611686018427387904) (yf:∀c,L [.lst (a.map D.int)] c=.ok (.int M) c) (hR:Rp (.lst [.int 0]) (.int (M+N-1)) c=.ok (.ref c.length) (c++[.lst ((ν (a.length+b.length-1) (0:Int)).map D.int)])) :
  vo L Rp [ζ (.lst (a.map D.int)),ζ (.lst (b.map D.int)),ζ (.int p),θ,θ,θ] c=.ok (.rt (.ref c.length)) (c++[.lst ((gk a b p).map D.int)]):=by
 obtain⟨v',hf⟩:=rB (α:=Option D×Option D) (g:=aB 4) (s:=wj L) (λk=>c++[.lst ((jL p a b (ν (a.length+b.length-1) 0) k).map D.int)]) (λ_ v=>[ζ (.lst (a.map D.int)),ζ (.lst (b.map D.int)),ζ (.int p),ζ (.ref c.length),v.1,v.2]) hM (θ,θ) (λk hk v=>by
  obtain⟨w,h⟩:=Qz (L:=L) (a:=a) (b:=b) (F:=jL p a b (ν (a.length+b.length-1) 0) k) (c:=c) (k:=k) hp hk (by rw[xo,akx];exact aij _) hs hN b1 hL v.2
  exact⟨_,rfl,(ζ (.int k),w),h⟩)
 simp only[vo,g9,fT,fj,Ak,bz,nJ,bG,R.aC,fU,bX,gz,gs,hL,yf,mq,vO];rw[if_pos (by decide)]
 simp only[R.aC,hR,ajq,aj2,i6,ic,bz,fU,bX,bG,gz,gs,yf];rw[if_pos (by omega)]
 simp only[R.aC];unfold wj at hf;unfold tN at hf;simp only[jL]at hf;rw[hf];rfl
theorem Ho{a b:List Int}(h:a.length+b.length<1000) (ha:a≠[]) {M N:Int}(hM:M=a.length) (hN:N=b.length) (c:aa):jH (.lst [.int 0]) (.int (M+N-1)) c=.ok (.ref c.length) (c++[.lst ((ν (a.length+b.length-1) (0:Int)).map D.int)]):=by
 have hl:0<a.length:=List.length_pos_iff.mpr ha;have hs:=eN (n:=1000) (by decide)
 have ht:(M+N-1).toNat=a.length+b.length-1:=by omega
 rw[OC,ht,if_pos ⟨by omega,by omega,by simp only[aiv,aiR];omega,rfl⟩]
 congr 4
 generalize a.length+b.length-1=n
 induction n with
 |zero=>rfl
 |succ n ih=>rw[ajm,ajy,ih];rfl
theorem uG(l:List Int) (c:aa):aU [.lst (l.map D.int)] c=.ok (.int l.length) c:=by rw[GA,aiu]
theorem Qy{a b:List Int}{p:Int}(hp:0<p) (ha:a≠[]) (hs:∀x∈a,0<=x/\x<1000) (h:a.length+b.length<1000) (c:aa):kE [.lst (a.map D.int),.lst (b.map D.int),.int p] c=.ok (.lst ((gk a b p).map D.int)) c:=by
 have:=Hq (L:=aU) (Rp:=jH) hp ha hs rfl (by omega) (uG b) rfl (by omega) (uG a) (Ho h ha rfl rfl c)
 rw[kE,M9,fC];show R.bind (vo aU jH [ζ (.lst (a.map D.int)),ζ (.lst (b.map D.int)),ζ (.int p),θ,θ,θ] c) _=_;rw[this];simp[eF]
theorem Qx{a b:List Int}{p:Int}(hp:0<p) (ha:a≠[]) (hs:∀x∈a,0<=x/\x<1000) (h:a.length+b.length<1000) (c:aa):qT [.lst (a.map D.int),.lst (b.map D.int),.int p] c=.ok (.ref c.length) (c++[.lst ((gk a b p).map D.int)]):=by
 have:=Hq (L:=aU) (Rp:=jH) hp ha hs rfl (by omega) (uG b) rfl (by omega) (uG a) (Ho h ha rfl rfl c)
 rw[qT,M9,fC];show R.bind (vo aU jH [ζ (.lst (a.map D.int)),ζ (.lst (b.map D.int)),ζ (.int p),θ,θ,θ] c) _=_;rw[this];simp[eF]
def more(p:Nat) (row:List Int):List (List Int):=(η p).map λd:Nat=>row++[(d:Int)]
def cW(p:Nat):Nat->List (List Int)
 |0=>[[]]
 |i+1=>(cW p i).flatMap (more p)
theorem DI{l:List D}:(l.filter λ_=>Θ)=l:=amE.mpr λ_ _=>rfl
def LD(L:List (List Int)):List D:=L.map λr=>.lst (r.map D.int)
theorem Nq(a b:List (List Int)):LD (a++b)=LD a++LD b:=by simp[LD]
theorem F9(L:List (List Int)):bA (LD L)=Θ:=iQ.mpr λd hd=>by
 obtain⟨r,_,rfl⟩:=aik.mp hd;rw[HN];exact xJ
theorem j3(L:List (List Int)):(LD L).length=L.length:=by simp[LD]
theorem Bp(p:Nat) (r:List Int):(more p r).length=p:=by simp[more]
theorem yc(p:Nat):∀i,(cW p i).length=p^i
 |0=>rfl
 |i+1=>by
  have:∀L:List (List Int),(L.flatMap (more p)).length=L.length*p:=by
   intro L
   induction L with
   |nil=>simp
   |cons a L ih=>rw[alH,ai3,ih,Bp,aiv,ajo,akA]
  rw[cW,this,yc p i,Nat.pow_succ]
theorem GZ{α β:Type}(f:α->List β) {L:List α}{j:Nat}(h:j<L.length):(L.take (j+1)).flatMap f=(L.take j).flatMap f++f L[j]:=by
 rw[akS h,alI];simp
def yd:ah:=(dY (kT (ak 4) (aW (bh (ao (ak 1) aq)) [θ,ζ 5] (aB 0) aO (au b9 (ak 1) (aY (ao (ak 0) aq))))))
def uR:ah:=(aD (aF 4 (eX aq)) (aD (cz (c9 (ak 2)) (aB 5) (dY (kT (ak 4) (aW (bh (ao (ak 1) aq)) [θ,ζ 5] (aB 0) aO (au b9 (ak 1) (aY (ao (ak 0) aq))))))) (aF 2 (ak 4))))
theorem aeF{row:List Int}{P:Int}{p:Nat}(hP:P=p) (hr:row.length<1000) (c:aa):bR (λ_=>True) (aB 0) aO (au b9 (ak 1) (aY (ao (ak 0) aq))) (bf 0 P) [θ,ζ (.lst (row.map D.int))] [] c=.ok (LD (more p row)) c:=by
 have hs:=eN (n:=1000) (by decide)
 have hz:row.length+1<=ι:=by omega
 have:=nq (c:=c) (g:=aB 0) (t:=aO) (a:=au b9 (ak 1) (aY (ao (ak 0) aq))) (λe=>∃v,e=[v,ζ (.lst (row.map D.int))]) (λ_=>Θ) (λd=>.lst (row.map D.int++[d]))
  (bf 0 P) [θ,ζ (.lst (row.map D.int))] [] ⟨θ,rfl⟩ (λx hx e ⟨v,he⟩=>by
   subst he;refine⟨_,rfl,⟨_,rfl⟩,rfl,λ_=>?_⟩
   simp[b9,hz])
 rw[this];subst hP
 congr 1
 unfold bf LD more;simp only[aiM,DI,aiG];rw[show((p:Int)-0).toNat=p by omega]
 apply ajl;intro d _;simp
theorem abm{C:aa}{acc:List D}{P many:Int}{p:Nat}{row:List Int}(hP:P=p) (bP:-4611686018427387904<=P/\P<4611686018427387904) (hp:p<1000) (hr:row.length<1000) (ha:acc.length+p<=1000) (F v3:Option D) :
  yd [ζ (.int many),ζ (.int P),F,v3,ζ (.ref C.length),ζ (.lst (row.map D.int))] (C++[.lst acc])=.ok (.nx [ζ (.int many),ζ (.int P),F,v3,ζ (.ref C.length),ζ (.lst (row.map D.int))]) (C++[.lst (acc++LD (more p row))]):=by
 have hs:=eN (n:=1000) (by decide)
 have hc:=aeF (row:=row) hP hr (C++[.lst acc]);have hl:(bf 0 P).length<ι:=by rw[fF];omega
 have hl2:acc.length+(LD (more p row)).length<=ι/\bA (LD (more p row))=Θ:=⟨by rw[j3,Bp];omega,F9 _⟩
 simp only[yd,mj,kT,bX,gz,gs,R.aC,dX,ic,bz,bG];rw[if_pos (by omega)]
 simp only[R.aC,cV];rw[if_pos hl];show R.bind (R.bind (R.bind (bR (λ_=>True) (aB 0) aO (au b9 (ak 1) (aY (ao (ak 0) aq))) (bf 0 P) [θ,ζ (.lst (row.map D.int))] [] (C++[.lst acc])) _) _) _=_
 rw[hc];simp only[R.aC,ale];rw[if_pos hl2];simp
def hC(c:aa) (p i:Nat):aa:=c++(η i).map λt=>Cell.lst (LD (cW p (t+1)))
def hF(c:aa) (p i:Nat):D:=match i with
 |0=>.lst (LD (cW p 0))
 |i+1=>.ref (c.length+i)
theorem yh(c:aa) (p i:Nat):(hC c p i).length=c.length+i:=by simp[hC]
theorem KW(c:aa) (p i:Nat):hC c p (i+1)=hC c p i++[.lst (LD (cW p (i+1)))]:=by simp[hC,ajB]
theorem KU(c:aa) (p i:Nat) (more:aa) {e:Ev}{k:Nat}(he:e[k]? = ζ (ζ (hF c p i))):∃st:aa->Prop,(∀m,st (hC c p i++m))/\c9 (ak k) e (hC c p i++more)=.ok ⟨LD (cW p i),st⟩ (hC c p i++more):=by
 cases i with
 |zero=>exact⟨λ_=>True,λ_=>trivial,by simp only[vP,bX,he];rfl⟩
 |succ i =>
  have hg:∀m:aa,(hC c p (i+1)++m)[c.length+i]? = ζ (.lst (LD (cW p (i+1)))):=λm=>by
   rw[ai2 (by rw[yh];omega),KW,ajd (by rw[yh];exact aij _),yh,ajA]
   rfl
  refine⟨λc'=>c'[c.length+i]? = ζ (.lst (LD (cW p (i+1)))),hg,?_⟩
  simp only[vP,bX,he,hF,R.aC,hg]
theorem abl{c:aa}{P many:Int}{p i:Nat}(hP:P=p) (bP:-4611686018427387904<=P/\P<4611686018427387904) (hp:p<1000) (hi:p^(i+1)<=1000) (Dc:∀r∈cW p i,r.length<1000) (v3 v4 v5:Option D) :
  ∃w4 w5,uR [ζ (.int many),ζ (.int P),ζ (hF c p i),v3,v4,v5] (hC c p i)=.ok (.nx [ζ (.int many),ζ (.int P),ζ (hF c p (i+1)),v3,w4,w5]) (hC c p (i+1)):=by
 obtain⟨st,hst,hseq⟩:=KU c p i [.lst []] (e:=[ζ (.int many),ζ (.int P),ζ (hF c p i),v3,ζ (.ref (hC c p i).length),v5]) (k:=2) rfl;have hlen:=yc p i;obtain⟨v',hf⟩:=oG (st:=st) (g:=aB 5) (s:=yd) (λj=>hC c p i++[.lst (LD (((cW p i).take j).flatMap (more p)))]) (λ_ v=>[ζ (.int many),ζ (.int P),ζ (hF c p i),v3,ζ (.ref (hC c p i).length),v]) (LD (cW p i)) 0 v5
  (λj _=>hst _) (λj x hx v=>by
   rw[aiW];have hj:j<(cW p i).length:=by
    have:=(aix.mp hx).1
    rwa[j3]at this
   have hx':x=.lst ((cW p i)[j].map D.int):=by
    have:=(aix.mp hx).2;rw[<-this];simp[LD]
   subst hx';refine⟨_,rfl,ζ (.lst ((cW p i)[j].map D.int)),?_⟩;have hacc:(LD (((cW p i).take j).flatMap (more p))).length+p<=1000:=by
    rw[j3];have:∀L:List (List Int),(L.flatMap (more p)).length=L.length*p:=by
     intro L
     induction L with
     |nil=>simp
     |cons a L ih=>rw[alH,ai3,ih,Bp,aiv,ajo,akA]
    rw[this,ajw,alJ (by omega)]
    have h2:(j+1)*p<=p^i*p:=akp p (by omega)
    have h3:p^i*p=p^(i+1):=(Nat.pow_succ ..).symm;rw[h3,ajo]at h2;omega
   have:=abm (C:=hC c p i) (many:=many) (row:=(cW p i)[j]) hP bP hp (Dc _ (aiJ hj)) hacc (ζ (hF c p i)) v3;rw[GZ _ hj,Nq];exact this)
 rw[j3,aiW,ajZ,akE]at hf;refine⟨ζ (.ref (hC c p i).length),v',?_⟩;have hF1:hF c p (i+1)=.ref (hC c p i).length:=by rw[yh];rfl
 rw[KW,hF1];simp only[uR,g9,fT,OH,bG,R.aC];rw[if_pos ⟨by simp,by simp⟩]
 simp only[R.aC,ajq,aj2,i6];rw[hseq];simp only[R.aC];unfold yd at hf;show R.bind (cO st (aB 5) _ (LD (cW p i)) [ζ (.int many),ζ (.int P),ζ (hF c p i),v3,ζ (.ref (hC c p i).length),v5] (hC c p i++[.lst (LD ([].flatMap (more p)))])) _=_;rw[hf];rfl
def eo(p n:Nat):List (List Int):=(cW p n).map (· ++ [1])
theorem wB(p:Nat):∀i,∀r∈cW p i,r.length=i
 |0,r,h=>by
  rw[cW,aiV]at h;subst h;rfl
 |i+1,r,h=>by
  rw[cW,amG]at h;obtain⟨r',h1,h2⟩:=h;obtain⟨d,_,rfl⟩:=aik.mp h2;rw[ai3,wB p i r' h1];rfl
theorem KJ{P many:Int}{p n:Nat}(hP:P=p) (hn:many=n) (bP:-4611686018427387904<=P/\P<4611686018427387904) (bn:-4611686018427387904<=many/\many<4611686018427387904) (hp:0<p) (d9:p<1000) (aaX:p^n<1000) (hn':n<100) (c:aa) :
  mT [.int many,.int P] c=.ok (.lst (LD (eo p n))) c:=by
 have hs:=eN (n:=1000) (by decide)
 obtain⟨v',hf⟩:=rB (α:=Option D×Option D×Option D) (g:=aB 3) (s:=uR) (hC c p) (λi v=>[ζ (.int many),ζ (.int P),ζ (hF c p i),v.1,v.2.1,v.2.2]) hn (θ,θ,θ) (λi hi v=>by
  obtain⟨w4,w5,h⟩:=abl (c:=c) (many:=many) (p:=p) (i:=i) hP bP d9 (ajG (akb (amH hp hi) aaX)) (λr hr=>by rw[wB p i r hr];omega) (ζ (.int i)) v.2.1 v.2.2
  exact⟨_,rfl,(ζ (.int i),w4,w5),h⟩)
 obtain⟨st,hst,hseq⟩:=KU c p n [] (e:=[ζ (.int many),ζ (.int P),ζ (hF c p n),v'.1,v'.2.1,v'.2.2]) (k:=2) rfl;rw[ajv]at hseq;have aaR:st (hC c p n):=by have:=hst [];rwa[ajv]at this
 have hcp:=ES (c:=hC c p n) st aaR (g:=aB 0) (t:=aO) (a:=au b9 (ak 0) (aY (ao (dC (.int 1)) aq))) (λe=>∃v,e=[v]) (λ_=>Θ) (λd=>match d with|.lst l=>.lst (l++[.int 1])|d=>d)
  (LD (cW p n)) [θ] [] ⟨θ,rfl⟩ (λx hx e ⟨v,he⟩=>by
   subst he;obtain⟨r,hr,rfl⟩:=aik.mp hx;have hz:r.length+1<=ι:=by rw[wB p n r hr];omega
   refine⟨_,rfl,⟨_,rfl⟩,rfl,λ_=>?_⟩
   simp[b9,hz])
 have hit:(LD (cW p n)).length<ι:=by rw[j3,yc];omega
 have hres:[]++((LD (cW p n)).filter λ_=>Θ).map (λd=>match d with|.lst l=>D.lst (l++[.int 1])|d=>d)=LD (eo p n):=by
  rw[aiM,DI];unfold LD eo;rw[aiG,aiG];apply ajl;intro r _;simp
 rw[hres]at hcp;have hb:ny=aD (aF 2 (aY (ao (aY aq) aq))) (aD (cz (bh (ao (ak 0) aq)) (aB 3) uR) (aP (aW (c9 (ak 2)) [θ] (aB 0) aO (au b9 (ak 0) (aY (ao (dC (.int 1)) aq)))))):=rfl;have hC0:hC c p 0=c:=by simp[hC]
 rw[hC0]at hf;have key:ny [ζ (.int many),ζ (.int P),θ,θ,θ,θ] c=.ok (.rt (.lst (LD (eo p n)))) (hC c p n):=by
  rw[hb];simp only[g9,fT,Ak,bz,bG,R.aC];rw[if_pos (by decide)]
  simp only[R.aC];rw[if_pos (by decide)]
  simp only[R.aC,ajq,aj2,i6,ic,bz,bX,bG,gz];rw[if_pos (by omega)]
  simp only[R.aC];show R.bind (cO (λ_=>True) (aB 3) uR (bf 0 many) [ζ (.int many),ζ (.int P),ζ (hF c p 0),θ,θ,θ] c) _=_
  rw[hf];simp only[R.aC,j7,dX];rw[hseq];simp only[R.aC];rw[if_pos hit];show R.bind (R.bind (bR st (aB 0) aO (au b9 (ak 0) (aY (ao (dC (.int 1)) aq))) (LD (cW p n)) [θ] [] (hC c p n)) _) _=_;rw[hcp];rfl
 rw[mT,fC];show R.bind (ny [ζ (.int many),ζ (.int P),θ,θ,θ,θ] c) _=_;rw[key];simp[F9,hC]
theorem Lz:∀a b:List Int,PyData.eqvAll (a.map PyData.int) (b.map PyData.int)=decide (a=b)
 |[],[]=>by simp[PyData.eqvAll]
 |[],b::bs=>by simp[PyData.eqvAll]
 |a::as,[]=>by simp[PyData.eqvAll]
 |a::as,b::bs=>by
  rw[ais,ais,PyData.eqvAll,Lz as bs,PyData.eqv]
  by_cases h:a=b
  ·subst h;simp
  ·simp[h]
theorem acU(a:List Int):PyData.depthAll (a.map PyData.int)=0:=by
 induction a with
 |nil=>simp[PyData.depthAll]
 |cons x a ih=>simp[PyData.depthAll,PyData.depth,ih]
theorem ady(L:List (List Int)):dP (LD L)=ζ (L.map λr=>PyData.list (r.map PyData.int)):=by
 induction L with
 |nil=>simp[LD]
 |cons r L ih =>
  have ih:dP (L.map λr=>D.lst (r.map D.int))=ζ (L.map λr=>PyData.list (r.map PyData.int)):=ih
  simp[LD,dP,cZ,LR,ih]
theorem aaC(r:List Int) (L:List (List Int)) (c:aa):inD (.lst (r.map D.int)) (.ref c.length) (c++[.lst (LD L)])=.ok (.bl (decide (r∈L))) (c++[.lst (LD L)]):=by
 unfold inD;have h1:gx (c++[.lst (LD L)]) (.lst (r.map D.int))=ζ (.list (r.map PyData.int)):=by simp[gx,cZ,LR]
 have h2:gx (c++[.lst (LD L)]) (.ref c.length)=ζ (.list (L.map λr=>PyData.list (r.map PyData.int))):=by simp[gx,ady]
 rw[h1,h2];simp only;rw[if_pos (by simp[PyData.depth,acU])]
 congr 2
 clear h1 h2
 induction L with
 |nil=>simp
 |cons a L ih =>
  rw[ais,List.any_cons,ih,PyData.eqv,Lz]
  by_cases h:a=r
  ·subst h;simp
  ·have:¬r=a:=λz=>h z.symm
   simp[h,this]
def iL(p n l:Nat) (one:List Int):List (List Int):=(eo p (n-l)).map λother=>gk one other p
def mK(p n l:Nat):List (List Int):=(eo p l).flatMap (iL p n l)
def qE(p n:Nat):List (List Int):=(η (n/2)).flatMap λl=>mK p n (l+1)
def yp:ah:=(dY (kT (ak 3) (aW (c9 (aA 2 mT (ao (au bq (ak 2) (ak 4)) (ao (ak 1) aq)))) [θ,ζ 5,ζ 1] (aB 0) aO (aA 3 kE (ao (ak 1) (ao (ak 0) (ao (ak 2) aq)))))))
def uY:ah:=(cz (c9 (aA 2 mT (ao (ak 4) (ao (ak 1) aq)))) (aB 5) (dY (kT (ak 3) (aW (c9 (aA 2 mT (ao (au bq (ak 2) (ak 4)) (ao (ak 1) aq)))) [θ,ζ 5,ζ 1] (aB 0) aO (aA 3 kE (ao (ak 1) (ao (ak 0) (ao (ak 2) aq))))))))
theorem KL{p n:Nat}(hp:p<1000) {r:List Int}(h:r∈eo p n):r.length=n+1/\r≠[]/\∀x∈r,0<=x/\x<1000:=by
 obtain⟨t,ht,rfl⟩:=aik.mp h;refine⟨by rw[ai3,wB p n t ht];rfl,by simp,λx hx=>?_⟩
 have gen:∀i,∀r∈cW p i,∀x∈r,0<=x/\x<1000:=by
  intro i
  induction i with
  |zero=>intro r hr x hx;rw[cW,aiV]at hr;subst hr;cases hx
  |succ i ih =>
   intro r hr x hx;rw[cW,amG]at hr;obtain⟨r',h1,h2⟩:=hr;obtain⟨d,hd,rfl⟩:=aik.mp h2
   rcases aiK.mp hx with hx|hx
   ·exact ih r' h1 x hx
   ·rw[aiV]at hx;subst hx;have:=ain.mp hd;omega
 rcases aiK.mp hx with hx|hx
 ·exact gen n t ht x hx
 ·rw[aiV]at hx;subst hx;omega
theorem aeE{p k:Nat}{one:List Int}{P:Int}(hP:P=p) (hp:0<p) (d9:p<1000) (hk:k<100) (h1:one≠[]) (h2:∀x∈one,0<=x/\x<1000) (h3:one.length<500) (c:aa) :
  bR (λ_=>True) (aB 0) aO (aA 3 kE (ao (ak 1) (ao (ak 0) (ao (ak 2) aq)))) (LD (eo p k)) [θ,ζ (.lst (one.map D.int)),ζ (.int P)] [] c=.ok (LD ((eo p k).map λother=>gk one other p)) c:=by
 have:=nq (c:=c) (g:=aB 0) (t:=aO) (a:=aA 3 kE (ao (ak 1) (ao (ak 0) (ao (ak 2) aq)))) (λe=>∃v,e=[v,ζ (.lst (one.map D.int)),ζ (.int P)]) (λ_=>Θ)
  (λd=>match d with|.lst l=>.lst ((gk one ((mX l).getD []) p).map D.int)|d=>d) (LD (eo p k)) [θ,ζ (.lst (one.map D.int)),ζ (.int P)] [] ⟨θ,rfl⟩ (λx hx e ⟨v,he⟩=>by
   subst he;obtain⟨r,hr,rfl⟩:=aik.mp hx;have hb:=KL d9 hr;refine⟨_,rfl,⟨_,rfl⟩,rfl,λ_=>?_⟩
   have jr:=Qy (a:=one) (b:=r) (p:=P) (by omega) h1 h2 (by omega) c
   subst hP;simp[jr,C4])
 rw[this,aiM,DI]
 congr 1
 unfold LD;rw[aiG,aiG];apply ajl;intro r _;simp[C4]
structure zQ (p n:Nat):Prop where
 p0:0<p
 p1:p<1000
 n1:1<n
 n2:n<100
 pw:∀i,i<=n->p^i<1000
theorem yq{α β:Type}(f:α->List β) (k:Nat):∀L:List α,(∀x∈L,(f x).length=k)->(L.flatMap f).length=L.length*k
 |[],_=>by simp
 |a::L,h=>by
  rw[alH,ai3,yq f k L λx hx=>h x (aiN _ hx),h a ai1,aiv,ajo,akA]
theorem rm(p n:Nat):(eo p n).length=p^n:=by rw[eo,aiu,yc]
theorem acp{p n l:Nat}(B:zQ p n) {P N l':Int}(hP:P=p) (hN:N=n) (hl:l'=l) (l1:1<=l) (l2:l<=n) {c:aa}{acc:List (List Int)}{one:List Int}(h1:one≠[]) (h2:∀x∈one,0<=x/\x<1000) (h3:one.length<500) (ha:acc.length+p^(n-l)<=1000) (q v6:Option D) :
  yp [q,ζ (.int P),ζ (.int N),ζ (.ref c.length),ζ (.int l'),ζ (.lst (one.map D.int)),v6] (c++[.lst (LD acc)]) =
   .ok (.nx [q,ζ (.int P),ζ (.int N),ζ (.ref c.length),ζ (.int l'),ζ (.lst (one.map D.int)),v6]) (c++[.lst (LD (acc++iL p n l one))]):=by
 obtain⟨p0,p1,n1,n2,pw⟩:=B;have hs:=eN (n:=1000) (by decide)
 have hpl:=pw (n-l) (by omega)
 have hh:=KJ (many:=N-l') (P:=P) (p:=p) (n:=n-l) hP (by omega) (by omega) (by omega) p0 p1 hpl (by omega) (c++[.lst (LD acc)])
 have hc:=aeE (p:=p) (k:=n-l) (one:=one) hP p0 p1 (by omega) h1 h2 h3 (c++[.lst (LD acc)])
 have hit:(LD (eo p (n-l))).length<ι:=by rw[j3,rm];omega
 have hl2:(LD acc).length+(LD (iL p n l one)).length<=ι/\bA (LD (iL p n l one))=Θ:=⟨by
  rw[j3,j3,iL,aiu,rm];omega,F9 _⟩
 have hsub:∀c:aa,bq (.int N) (.int l') c=.ok (.int (N-l')) c:=λ_=>rfl
 simp only[yp,mj,kT,bX,gz,gs,R.aC,dX,vP,x_call,bz,fj,hsub,bG,aiv,aiR,if_pos,hh];rw[if_pos hit];show R.bind (R.bind (R.bind (bR (λ_=>True) (aB 0) aO (aA 3 kE (ao (ak 1) (ao (ak 0) (ao (ak 2) aq)))) (LD (eo p (n-l))) [θ,ζ (.lst (one.map D.int)),ζ (.int P)] [] (c++[.lst (LD acc)])) _) _) _=_
 rw[hc];simp only[R.aC,ale];rw[if_pos (show(LD acc).length+(LD ((eo p (n-l)).map λother=>gk one other p)).length<=ι/\bA (LD ((eo p (n-l)).map λother=>gk one other p))=Θ from hl2)]
 rw[Nq];simp[iL]
theorem aco{p n l:Nat}(B:zQ p n) {P N l':Int}(hP:P=p) (hN:N=n) (hl:l'=l) (l1:1<=l) (l2:l<=n) {c:aa}{acc:List (List Int)}(ha:acc.length+p^n<=1000) (q v5 v6:Option D) :
  ∃w5,uY [q,ζ (.int P),ζ (.int N),ζ (.ref c.length),ζ (.int l'),v5,v6] (c++[.lst (LD acc)])=.ok (.nx [q,ζ (.int P),ζ (.int N),ζ (.ref c.length),ζ (.int l'),w5,v6]) (c++[.lst (LD (acc++mK p n l))]):=by
 obtain⟨p0,p1,n1,n2,pw⟩:=id B;have hh:=KJ (many:=l') (P:=P) (p:=p) (n:=l) hP hl (by omega) (by omega) p0 p1 (pw l l2) (by omega) (c++[.lst (LD acc)])
 obtain⟨v',hf⟩:=oG (st:=λ_=>True) (g:=aB 5) (s:=yp) (λj=>c++[.lst (LD (acc++((eo p l).take j).flatMap (iL p n l)))]) (λ_ v=>[q,ζ (.int P),ζ (.int N),ζ (.ref c.length),ζ (.int l'),v,v6]) (LD (eo p l)) 0 v5
  (λ_ _=>trivial) (λj x hx v=>by
   rw[aiW];have hj:j<(eo p l).length:=by
    have:=(aix.mp hx).1
    rwa[j3]at this
   have hx':x=.lst ((eo p l)[j].map D.int):=by
    have:=(aix.mp hx).2;rw[<-this];simp[LD]
   subst hx';have hb:=KL p1 (aiJ hj);refine⟨_,rfl,ζ (.lst ((eo p l)[j].map D.int)),?_⟩;have hfl:=yq (iL p n l) (p^(n-l)) ((eo p l).take j) (λy _=>by rw[iL,aiu,rm])
   rw[ajw,alJ (by omega)]at hfl
   have hacc:(acc++((eo p l).take j).flatMap (iL p n l)).length+p^(n-l)<=1000:=by
    rw[ai3,hfl];rw[rm]at hj;have h2:(j+1)*p^(n-l)<=p^l*p^(n-l):=akp _ hj;rw[<-Nat.pow_add,show l+(n-l)=n by omega,ajo]at h2
    omega
   have:=acp (l:=l) B hP hN hl l1 l2 (c:=c) hb.2.1 hb.2.2 (by omega) hacc q v6
   rw[GZ _ hj,<-aiZ];exact this)
 rw[j3,aiW,ajZ]at hf;refine⟨v',?_⟩;simp only[uY,i6,vP,x_call,bz,bX,gz,gs,R.aC,bG,aiv,aiR,if_pos,hh];unfold yp at hf;have e0:acc++([]:List (List Int)).flatMap (iL p n l)=acc:=by simp
 rw[akE,e0]at hf;exact hf
theorem Tf(p n:Nat) (h:∀l,1<=l->l<=n->(mK p n l).length=p^n):∀i,i<=n->((η i).flatMap λl=>mK p n (l+1)).length=i*p^n:=λi hi=>by
 rw[yq _ (p^n) (η i) λx hx=>h (x+1) (by omega) (by have:=ain.mp hx;omega),ai8]
theorem Tg(p n l:Nat) (h:l<=n):(mK p n l).length=p^n:=by
 rw[mK,yq _ (p^(n-l)) _ λx _=>by rw[iL,aiu,rm],rm,<-Nat.pow_add,show l+(n-l)=n by omega]
theorem acn{p n:Nat}(B:zQ p n) (hb:(n/2)*p^n<=1000) {P N:Int}(hP:P=p) (hN:N=n) (c:aa) (q v6:Option D) :
  ∃w4 w5,cO (λ_=>True) (aB 4) uY (bf 1 (N/2+1)) [q,ζ (.int P),ζ (.int N),ζ (.ref c.length),θ,θ,v6] (c++[.lst []])=.ok (.nx [q,ζ (.int P),ζ (.int N),ζ (.ref c.length),w4,w5,v6]) (c++[.lst (LD (qE p n))]):=by
 have n1:=B.n1;have hl:(bf 1 (N/2+1)).length=n/2:=by rw[fF];omega
 obtain⟨v',hf⟩:=oG (α:=Option D×Option D) (st:=λ_=>True) (g:=aB 4) (s:=uY) (λi=>c++[.lst (LD ((η i).flatMap λl=>mK p n (l+1)))]) (λ_ v=>[q,ζ (.int P),ζ (.int N),ζ (.ref c.length),v.1,v.2,v6]) (bf 1 (N/2+1)) 0 (θ,θ)
  (λ_ _=>trivial) (λi x hx v=>by
   rw[aiW];obtain⟨h1,rfl⟩:=AS hx;have hi:i<n/2:=by omega
   have hacc:((η i).flatMap λl=>mK p n (l+1)).length+p^n<=1000:=by
    rw[Tf p n (λl _ h=>Tg p n l h) i (by omega)]
    have h2:(i+1)*p^n<=(n/2)*p^n:=akp _ hi;rw[ajo]at h2;omega
   obtain⟨w,h⟩:=aco (l:=i+1) (l':=1+(i:Int)) B hP hN (by omega) (by omega) (by omega) (c:=c) hacc q v.2 v6
   refine⟨_,rfl,(ζ (.int (1+(i:Int))),w),?_⟩;rw[ajB,alI]
   simpa using h)
 rw[hl,aiW]at hf;exact⟨v'.1,v'.2,hf⟩
def yo:ai:=(aT (au inD (au b9 (aA 3 fc (ao (ak 6) (ao (ak 1) (ao (ak 2) aq)))) (aY (ao (dC (.int 1)) aq))) (ak 3)))
theorem Lq{p n:Nat}{P N:Int}(hP:P=p) (hN:N=n) (hp:0<p) (d9:p<1000) (hn:n<100) {t:Int}{c:aa}{L:List (List Int)}(q v4 v5:Option D) :
  yo [q,ζ (.int P),ζ (.int N),ζ (.ref c.length),v4,v5,ζ (.int t)] (c++[.lst (LD L)])=.ok (decide (bI P n t++[1]∈L)) (c++[.lst (LD L)]):=by
 have hs:=eN (n:=1000) (by decide)
 have hr:=xV (p:=P) (N:=N) (x:=t) (n:=n) (by omega) (by omega) (by rw[fF];omega) (by omega) (by omega) (c++[.lst (LD L)])
 have hz:(bI P n t).length+1<=ι:=by rw[iw];omega
 have hi:=aaC (bI P n t++[1]) L c;rw[ajs]at hi;simp[yo,hr,b9,hz];simp at hi;rw[hi];rfl
theorem Lp{p n:Nat}{P N:Int}(hP:P=p) (hN:N=n) (hp:0<p) (d9:p<1000) (hn:n<100) {c:aa}{L:List (List Int)}{low:Nat}(h1:∀t,t<low->bI P n t++[1]∈L) (h2:bI P n low++[1]∉L) (q v4 v5:Option D):∀(k fuel t:Nat),t+k=low->k<fuel ->
  gh yo (aF 6 (au aZ (ak 6) (dC (.int 1)))) fuel [q,ζ (.int P),ζ (.int N),ζ (.ref c.length),v4,v5,ζ (.int t)] (c++[.lst (LD L)])=.ok (.nx [q,ζ (.int P),ζ (.int N),ζ (.ref c.length),v4,v5,ζ (.int low)]) (c++[.lst (LD L)])
 |0,fuel+1,t,e,_=>by
  have e:t=low:=by omega
  subst e;unfold gh;rw[Lq hP hN hp d9 hn,decide_eq_false h2];rfl
 |k+1,fuel+1,t,e,hf=>by
  have ih:=Lp (c:=c) hP hN hp d9 hn h1 h2 q v4 v5 k fuel (t+1) (by omega) (by omega)
  unfold gh;rw[Lq hP hN hp d9 hn,decide_eq_true (h1 t (by omega))]
  simp only[R.aC,if_pos];have es:(aF 6 (au aZ (ak 6) (dC (.int 1)))) [q,ζ (.int P),ζ (.int N),ζ (.ref c.length),v4,v5,ζ (.int t)] (c++[.lst (LD L)])=.ok (.nx [q,ζ (.int P),ζ (.int N),ζ (.ref c.length),v4,v5,ζ (.int ((t+1:Nat):Int))]) (c++[.lst (LD L)]):=by simp
  rw[es];exact ih
def eE(f:Fd):List Int:=if f.n=1 then[0,1]else bI f.p f.n f.low++[1]
def Mg(f:Fd):Bool:=Nat.beq f.n 1||((η f.low).all λt=>(qE f.p f.n).any λr=>decide (r=bI f.p f.n t++[1]))&&((qE f.p f.n).all λr=>decide (¬r=bI f.p f.n f.low++[1]))&&Nat.ble ((f.n/2)*f.p^f.n) 1000&&Nat.ble (f.low+1) 60
theorem agg:cg.all Mg=Θ:=by decide +kernel
def bF(G W:ah):ah:=(aD (aF 1 (aA 1 gb (ao (ak 0) aq))) (aD (aF 2 (aA 1 jN (ao (ak 0) aq))) (aD (b8 (aT (au bD (ak 2) (dC (.int 1)))) (aP (aY (ao (dC (.int 0)) (ao (dC (.int 1)) aq)))) ck) (aD (aF 3 (eX aq)) (aD (cz (nj (ao (dC (.int 1)) (ao (au aZ (au gw (ak 2) (dC (.int 2))) (dC (.int 1))) aq))) (aB 4) G) (aD (aF 6 (dC (.int 0))) (aD W (aP (au b9 (aA 3 fc (ao (ak 6) (ao (ak 1) (ao (ak 2) aq)))) (aY (ao (dC (.int 1)) aq)))))))))))
theorem afq:sA=bF uY (gh yo (aF 6 (au aZ (ak 6) (dC (.int 1)))) 60):=rfl
theorem acd{G W:ah}{q P N low:Int}{w4 w5:Option D}{c:aa}{C:aa}{row:List D}{bw:List Int}(hq:-4611686018427387904<=N/2+1/\N/2+1<4611686018427387904) (hn1:¬N=1) (hp:gb [.int q] c=.ok (.int P) c) (hd:jN [.int q] c=.ok (.int N) c) (hrl:row.length+1<1000)
  (hl:cO (λ_=>True) (aB 4) G (bf 1 (N/2+1)) [ζ (.int q),ζ (.int P),ζ (.int N),ζ (.ref c.length),θ,θ,θ] (c++[.lst []])=.ok (.nx [ζ (.int q),ζ (.int P),ζ (.int N),ζ (.ref c.length),w4,w5,θ]) (c++C))
  (hw:W [ζ (.int q),ζ (.int P),ζ (.int N),ζ (.ref c.length),w4,w5,ζ (.int 0)] (c++C)=.ok (.nx [ζ (.int q),ζ (.int P),ζ (.int N),ζ (.ref c.length),w4,w5,ζ (.int low)]) (c++C))
  (hr:fc [.int low,.int P,.int N] (c++C)=.ok (.lst row) (c++C)) (he:bw.map D.int=row++[.int 1]):bU 7 Ψ (bF G W) [.int q] c=.ok (.lst (bw.map D.int)) c:=by
 have hs:=eN (n:=1000) (by decide)
 have Dh:gw (.int N) (.int 2) (c++[.lst []])=.ok (.int (N/2)) (c++[.lst []]):=rE _ (by decide) (by decide)
 have hz:row.length+1<=ι:=by omega
 have href:bA (row++[.int 1])=Θ:=by rw[<-he];exact xJ
 have key:bF G W [ζ (.int q),θ,θ,θ,θ,θ,θ] c=.ok (.rt (.lst (row++[.int 1]))) (c++C):=by
  simp[bF,hp,hd,hn1,Dh];rw[if_pos (by omega)]
  simp only[R.aC];rw[hl];simp[hw,hr,b9,hz]
 rw[fC];show R.bind (bF G W [ζ (.int q),θ,θ,θ,θ,θ,θ] c) _=_;rw[key,he];simp[href]
theorem ab7{G W:ah}{q P:Int}{c:aa}(hp:gb [.int q] c=.ok (.int P) c) (hd:jN [.int q] c=.ok (.int 1) c):bU 7 Ψ (bF G W) [.int q] c=.ok (.lst [.int 0,.int 1]) c:=by
 simp[bF,hp,hd]
theorem ab8{f:Fd}(h:f∈cg) (c:aa):qW [.int f.q] c=.ok (.lst ((eE f).map D.int)) c:=by
 have I:=iA h;have p2:=I.p2;have jK:=I.jK;have n1:=I.n1;have n5:=I.n5;have hF:=aip.mp agg f h;have hp:=A0 h c;have hd:=LL h c;rw[qW,afq]
 by_cases hn:f.n=1
 ·have e:eE f=[0,1]:=if_pos hn;rw[e];exact ab7 hp (by rw[hd,hn];rfl)
 ·have e:eE f=bI f.p f.n f.low++[1]:=if_neg hn;have hn0:Nat.beq f.n 1=Ψ:=by
   cases hq:Nat.beq f.n 1 with
   |false=>rfl
   |true=>exact absurd (be hq) hn
  simp only[Mg,hn0,alK,aiy]at hF;obtain⟨⟨⟨f1,f2⟩,f3⟩,f4⟩:=hF;have g1:∀t,t<f.low->bI (f.p:Int) f.n t++[1]∈qE f.p f.n:=λt ht=>by
   have:=aip.mp f1 t (ain.mpr ht);obtain⟨r,hr,he⟩:=List.any_eq_true.mp this;rw[<-of_decide_eq_true he];exact hr
  have g2:bI (f.p:Int) f.n f.low++[1]∉qE f.p f.n:=λhm=>by
   have:=aip.mp f2 _ hm;simp at this
  have hq:f.q<1000:=by
   have:(cg.all λf=>decide (f.q<1000))=Θ:=by decide +kernel
   simpa using aip.mp this f h
  have B:zQ f.p f.n:=⟨by omega,by omega,by omega,by omega,λi hi=>by
   have:=amH (n:=f.p) (by omega) hi
   rw[I.pn]at this;omega⟩
  obtain⟨w4,w5,hl⟩:=acn (P:=f.p) (N:=f.n) B (bl f3) rfl rfl c (ζ (.int f.q)) θ;have hw:=Lp (P:=f.p) (N:=f.n) (p:=f.p) (n:=f.n) rfl rfl (by omega) (by omega) (by omega) (c:=c) g1 g2 (ζ (.int f.q)) w4 w5 f.low 60 0 (by omega) (bl f4)
  have hr:=xV (p:=f.p) (N:=f.n) (x:=f.low) (n:=f.n) (by omega) (by omega) (by rw[fF];omega) (by omega) (by omega) (c++[.lst (LD (qE f.p f.n))])
  exact acd (by omega) (by omega) hp hd (by rw[aiu,iw];omega) hl hw hr (by rw[e,ajs];rfl)
def kj(p fG:Int) (bw:List Int) (base:Nat) (F:List Int):Nat->List Int
 |0=>F
 |k+1=>(kj p fG bw base F k).set (base+k) ((gI (kj p fG bw base F k) (base+k)-fG*gI bw k) % p)
def gQ(p:Int) (bw:List Int) (n:Nat) (F:List Int):Nat->List Int
 |0=>F
 |i+1=>kj p (gI (gQ p bw n F i) (2*n-2-i)) bw (2*n-2-i-n) (gQ p bw n F i) (n+1)
def qF(p:Int) (n:Nat) (bw:List Int) (x y:Int):Int:=ji p ((gQ p bw n (gk (bI p n x) (bI p n y) p) (n-1)).take n)
theorem wI{p fG:Int}{bw:List Int}{base:Nat}{F:List Int}:∀k,(kj p fG bw base F k).length=F.length
 |0=>rfl
 |k+1=>by rw[kj,ak8,wI k]
theorem wH{p:Int}{bw:List Int}{n:Nat}{F:List Int}:∀i,(gQ p bw n F i).length=F.length
 |0=>rfl
 |i+1=>by rw[gQ,wI,wH i]
theorem Hh(a b:List Int) (p:Int):(gk a b p).length=a.length+b.length-1:=by rw[gk,xo,akx]
def wQ:ah:=(aD (aF 10 (au aZ (au bq (ak 7) (ak 5)) (ak 9))) (fX (au bL (au bq (au aH (ak 6) (ak 10)) (au bg (ak 8) (au aH (ak 1) (ak 9)))) (ak 4)) (kN (ak 6) (ak 10))))
theorem Vi{bw F:List Int}{p fG N place:Int}{c:aa}{base k n:Nat}(hp:0<p) (hN:N=n) (hpl:place=(base:Int)+n) (hk:k<bw.length) (hF:base+k<F.length) (hs:∀x∈bw,0<=x/\x<1000) (q a2 a3 v10:Option D) :
  wQ [q,ζ (.lst (bw.map D.int)),a2,a3,ζ (.int p),ζ (.int N),ζ (.ref c.length),ζ (.int place),ζ (.int fG),ζ (.int k),v10] (c++[.lst (F.map D.int)]) =
   .ok (.nx [q,ζ (.lst (bw.map D.int)),a2,a3,ζ (.int p),ζ (.int N),ζ (.ref c.length),ζ (.int place),ζ (.int fG),ζ (.int k),ζ (.int (place-N+k))]) (c++[.lst ((F.set (base+k) ((gI F (base+k)-fG*gI bw k) % p)).map D.int)]):=by
 have h1:=C0 (c:=c) (l:=F.map D.int) (i:=place-N+k) (j:=base+k) (d:=.int (gI F (base+k))) (by omega) (rA hF)
 have h2:cF (bw.map D.int) k=ζ (.int (gI bw k)):=gX (rA hk);have hb:0<=gI bw k/\gI bw k<1000:=hs _ (by simp[gI,List.getD,hk])
 have h4:∀c,bg (.int fG) (.int (gI bw k)) c=.ok (.int (fG*gI bw k)) c:=λc=>mul_r c (by omega) (by omega)
 have h5:=λx=>Hw (c:=c) (l:=F.map D.int) (i:=place-N+k) (j:=base+k) (d:=.int x) (by omega) (by simpa using hF) rfl
 have h6:∀x c,bL (.int x) (.int p) c=.ok (.int (x % p)) c:=λx c=>jM c hp
 simp only[wQ,g9,fT,GD,fj,bX,gz,gs,R.aC,mq,vO,ajq,aj2,sV,h1,h2,h4,h6,GC,h5,map_set]
def wO:ah:=(aD (aF 8 (au aH (ak 6) (ak 7))) (cz (bh (ao (au aZ (ak 5) (dC (.int 1))) aq)) (aB 9) (aD (aF 10 (au aZ (au bq (ak 7) (ak 5)) (ak 9))) (fX (au bL (au bq (au aH (ak 6) (ak 10)) (au bg (ak 8) (au aH (ak 1) (ak 9)))) (ak 4)) (kN (ak 6) (ak 10))))))
theorem Vh{bw F:List Int}{p N place:Int}{c:aa}{base n:Nat}(hp:0<p) (hN:N=n) (b1:-4611686018427387904<=N+1/\N+1<4611686018427387904) (hpl:place=(base:Int)+n) (hk:bw.length=n+1) (hF:base+n<F.length) (hs:∀x∈bw,0<=x/\x<1000) (q a2 a3 v8 v9 v10:Option D) :
  ∃w8 w9 mw,wO [q,ζ (.lst (bw.map D.int)),a2,a3,ζ (.int p),ζ (.int N),ζ (.ref c.length),ζ (.int place),v8,v9,v10] (c++[.lst (F.map D.int)]) =
   .ok (.nx [q,ζ (.lst (bw.map D.int)),a2,a3,ζ (.int p),ζ (.int N),ζ (.ref c.length),ζ (.int place),w8,w9,mw]) (c++[.lst ((kj p (gI F (base+n)) bw base F (n+1)).map D.int)]):=by
 have h1:=C0 (c:=c) (l:=F.map D.int) (i:=place) (j:=base+n) (d:=.int (gI F (base+n))) (by omega) (rA hF)
 obtain⟨v',hf⟩:=rB (α:=Option D×Option D) (g:=aB 9) (s:=wQ) (N:=N+1) (n:=n+1) (λk=>c++[.lst ((kj p (gI F (base+n)) bw base F k).map D.int)]) (λ_ v=>[q,ζ (.lst (bw.map D.int)),a2,a3,ζ (.int p),ζ (.int N),ζ (.ref c.length),ζ (.int place),ζ (.int (gI F (base+n))),v.1,v.2]) (by omega) (v9,v10) (λk hk' v=>by
  exact⟨_,rfl,(ζ (.int k),_),Vi hp hN hpl (by omega) (by rw[wI];omega) hs q a2 a3 v.2⟩)
 refine⟨ζ (.int (gI F (base+n))),v'.1,v'.2,?_⟩;simp only[wO,g9,fT,fj,bX,gz,gs,R.aC,h1,ajq,aj2,i6,ic,bz,nJ,mq,bG];rw[if_pos (by omega)]
 unfold wQ at hf;exact hf
theorem Zj(l:List Int) (c:aa):aU [.ref c.length] (c++[.lst (l.map D.int)])=.ok (.int l.length) (c++[.lst (l.map D.int)]):=by
 unfold aU;simp[fW]
def vq(L:List D->aa->R D) (S:Ev->aa->R Src) (Rt:ah) (G:ah):ah:=(aD (aF 4 (aA 1 gb (ao (ak 0) aq))) (aD (aF 5 (au bq (aE L (ao (ak 1) aq)) (dC (.int 1)))) (aD (aF 6 (aA 3 qT (ao (aA 3 fc (ao (ak 2) (ao (ak 4) (ao (ak 5) aq)))) (ao (aA 3 fc (ao (ak 3) (ao (ak 4) (ao (ak 5) aq)))) (ao (ak 4) aq))))) (aD (cz S (aB 7) G) Rt))))
theorem afo:se=vq aU (rK (ao (au bq (aE aU (ao (ak 6) aq)) (dC (.int 1))) (ao (au bq (ak 5) (dC (.int 1))) (ao (au bq (dC (.int 0)) (dC (.int 1))) aq)))) (aP (aA 2 n8 (ao (eU (ak 6) eW (eV (ak 5))) (ao (ak 4) aq)))) wO:=rfl
theorem Sb{L:List D->aa->R D}{M N:Int}{e:Ev}{c:aa}{d:D}(h6:e[6]? = ζ (ζ d)) (h5:e[5]? = ζ (ζ (.int N))) (hM:L [d] c=.ok (.int M) c) (b1:-4611686018427387904<=M-1/\M-1<4611686018427387904/\-4611686018427387904<=N-1/\N-1<4611686018427387904) :
  (rK (ao (au bq (aE L (ao (ak 6) aq)) (dC (.int 1))) (ao (au bq (ak 5) (dC (.int 1))) (ao (au bq (dC (.int 0)) (dC (.int 1))) aq)))) e c=.ok ⟨iU (M-1) (N-1),λ_=>True⟩ c:=by
 simp only[rK,bz,fj,fU,bX,nJ,bG,h6,h5,R.aC,hM,vO];rw[if_pos ⟨by decide,by omega,by omega,by omega,by omega⟩]
theorem zx{l:List D}{n:Nat}{N:Int}(hN:N=n) (h:n<=l.length):cutD l θ (ζ N)=l.take n:=by
 subst hN;have:HT.eO l.length l.length (ζ (n:Int))=n:=by rw[HT.R0];omega
 show(l.drop 0).take (HT.eO l.length l.length (ζ (n:Int))-0)=_;rw[this];simp
theorem Rw{e:Ev}{N:Int}{n:Nat}{F:List Int}{c:aa}(h6:e[6]? = ζ (ζ (.ref c.length))) (h5:e[5]? = ζ (ζ (.int N))) (oz:cutD (F.map D.int) θ (ζ N)=(F.take n).map D.int):eU (ak 6) eW (eV (ak 5)) e (c++[.lst (F.map D.int)])=.ok (.lst ((F.take n).map D.int)) (c++[.lst (F.map D.int)]):=by
 have aa7:eS (c++[.lst (F.map D.int)]) (.ref c.length)=ζ (F.map D.int):=by simp[eS]
 rw[OB,bX,h6,R.aC,OF,R.aC,OE,bX,h5,R.aC,R.aC,aa7];show R.ok (D.lst (cutD (F.map D.int) θ (ζ N))) _=_;rw[oz]
theorem R8{m:List D->aa->R D}{Sl:af}{e:Ev}{c:aa}{p w:Int}{l:List D}(hS:Sl e c=.ok (.lst l) c) (h4:e[4]? = ζ (ζ (.int p))) (hn:m [.lst l,.int p] c=.ok (.int w) c):aP (aA 2 m (ao Sl (ao (ak 4) aq))) e c=.ok (.rt (.int w)) c:=by
 rw[j7,x_call,bz,hS,R.aC,bz,bX,h4,R.aC,bG,R.aC,R.aC,R.aC,if_pos (show[D.lst l,D.int p].length=2 from rfl),hn,R.aC]
theorem Vc{L:List D->aa->R D}{S:Ev->aa->R Src}{Rt:ah}{its:List D}{G:ah}{q x y p N w:Int}{bw:List Int}{rx ry:List D}{F F':List Int}{c:aa}{w7 w8 w9 mw:Option D}(hp:gb [.int q] c=.ok (.int p) c) (hL:L [.lst (bw.map D.int)] c=.ok (.int (N+1)) c)
  (h1:fc [.int x,.int p,.int N] c=.ok (.lst rx) c) (h2:fc [.int y,.int p,.int N] c=.ok (.lst ry) c) (h3:qT [.lst rx,.lst ry,.int p] c=.ok (.ref c.length) (c++[.lst (F.map D.int)]))
  (hS:S [ζ (.int q),ζ (.lst (bw.map D.int)),ζ (.int x),ζ (.int y),ζ (.int p),ζ (.int N),ζ (.ref c.length),θ,θ,θ,θ] (c++[.lst (F.map D.int)])=.ok ⟨its,λ_=>True⟩ (c++[.lst (F.map D.int)]))
  (hf:cO (λ_=>True) (aB 7) G its [ζ (.int q),ζ (.lst (bw.map D.int)),ζ (.int x),ζ (.int y),ζ (.int p),ζ (.int N),ζ (.ref c.length),θ,θ,θ,θ] (c++[.lst (F.map D.int)])=.ok (.nx [ζ (.int q),ζ (.lst (bw.map D.int)),ζ (.int x),ζ (.int y),ζ (.int p),ζ (.int N),ζ (.ref c.length),w7,w8,w9,mw]) (c++[.lst (F'.map D.int)]))
  (hRt:Rt [ζ (.int q),ζ (.lst (bw.map D.int)),ζ (.int x),ζ (.int y),ζ (.int p),ζ (.int N),ζ (.ref c.length),w7,w8,w9,mw] (c++[.lst (F'.map D.int)])=.ok (.rt (.int w)) (c++[.lst (F'.map D.int)])):bU 11 Ψ (vq L S Rt G) [.int q,.lst (bw.map D.int),.int x,.int y] c=.ok (.int w) c:=by
 have key:vq L S Rt G [ζ (.int q),ζ (.lst (bw.map D.int)),ζ (.int x),ζ (.int y),θ,θ,θ,θ,θ,θ,θ] c=.ok (.rt (.int w)) (c++[.lst (F'.map D.int)]):=by
  simp[vq,hp,hL,h1,h2,h3,hS];rw[hf];simp only[R.aC];rw[hRt]
 rw[fC];show R.bind (vq L S Rt G [ζ (.int q),ζ (.lst (bw.map D.int)),ζ (.int x),ζ (.int y),θ,θ,θ,θ,θ,θ,θ] c) _=_;rw[key];simp
theorem ab9{f:Fd}(h:f∈cg):(eE f).length=f.n+1/\∀x∈eE f,0<=x/\x<1000:=by
 have I:=iA h;have p2:=I.p2;have jK:=I.jK;unfold eE;split
 ·rename_i e;rw[e];exact⟨rfl,λx hx=>by simp at hx;omega⟩
 ·refine⟨by rw[ai3,iw];rfl,λx hx=>?_⟩
  rcases aiK.mp hx with hx|hx
  ·have:=AQ (p:=f.p) (by omega) f.n f.low x hx;omega
  ·rw[aiV]at hx;omega
theorem Ti{f:Fd}(h:f∈cg) (x y:Int) (c:aa):qV [.int f.q,.lst ((eE f).map D.int),.int x,.int y] c=.ok (.int (qF f.p f.n (eE f) x y)) c:=by
 have I:=iA h;have p2:=I.p2;have jK:=I.jK;have n1:=I.n1;have n5:=I.n5;obtain⟨fl,fb⟩:=ab9 h;have rl:∀z,(bI (f.p:Int) f.n z).length=f.n:=iw _ _;have rb:=λz=>AQ (p:=f.p) (by omega) f.n z
 have h1:=λz=>xV (p:=f.p) (N:=f.n) (x:=z) (n:=f.n) (by omega) (by omega) (by rw[fF];omega) (by omega) (by omega) c
 have h3:=Qx (a:=bI f.p f.n x) (b:=bI f.p f.n y) (p:=f.p) (by omega) (λz=>by have:=rl x;rw[z]at this;simp at this;omega) (λd hd=>by have:=rb x d hd;omega) (by rw[rl,rl];omega) c
 have KS:(gk (bI f.p f.n x) (bI f.p f.n y) f.p).length=2*f.n-1:=by rw[Hh,rl,rl];omega
 generalize hF:gk (bI (f.p:Int) f.n x) (bI f.p f.n y) f.p=F at h3 KS
 have hdl:(iU (((2*f.n-1:Nat):Int)-1) ((f.n:Int)-1)).length=f.n-1:=by simp[iU];omega
 obtain⟨v',hf⟩:=oG (α:=Option D×Option D×Option D×Option D) (st:=λ_=>True) (g:=aB 7) (s:=wO) (λi=>c++[.lst ((gQ f.p (eE f) f.n F i).map D.int)]) (λ_ v=>[ζ (.int f.q),ζ (.lst ((eE f).map D.int)),ζ (.int x),ζ (.int y),ζ (.int f.p),ζ (.int f.n),ζ (.ref c.length),v.1,v.2.1,v.2.2.1,v.2.2.2])
  (iU (((2*f.n-1:Nat):Int)-1) ((f.n:Int)-1)) 0 (θ,θ,θ,θ) (λ_ _=>trivial) (λi z hz v=>by
   rw[aiW];have hi:i<f.n-1:=by
    have:=(aix.mp hz).1;omega
   have hz':z=.int ((((2*f.n-1:Nat):Int)-1)-i):=by
    unfold iU at hz;rw[aiL]at hz;cases hq:(η ((((2*f.n-1:Nat):Int)-1)-((f.n:Int)-1)).toNat)[i]? with
    |none=>rw[hq]at hz;cases hz
    |some u =>
     rw[hq]at hz;have:=(aix.mp hq).2;rw[akf]at this;subst this;cases hz;rfl
   subst hz';obtain⟨w8,w9,mw,hb⟩:=Vh (bw:=eE f) (F:=gQ f.p (eE f) f.n F i) (p:=f.p) (N:=f.n) (place:=(((2*f.n-1:Nat):Int)-1)-i) (c:=c) (base:=2*f.n-2-i-f.n) (n:=f.n) (by omega) rfl (by omega) (by omega) fl (by rw[wH];omega) fb (ζ (.int f.q)) (ζ (.int x)) (ζ (.int y)) v.2.1 v.2.2.1 v.2.2.2
   refine⟨_,rfl,(ζ (.int ((((2*f.n-1:Nat):Int)-1)-i)),w8,w9,mw),?_⟩;rw[show 2*f.n-2-i-f.n+f.n=2*f.n-2-i by omega]at hb
   exact hb)
 rw[hdl,aiW]at hf;have oz:cutD ((gQ f.p (eE f) f.n F (f.n-1)).map D.int) θ (ζ (f.n:Int))=((gQ f.p (eE f) f.n F (f.n-1)).take f.n).map D.int:=by
  rw[zx rfl (by rw[aiu,wH];omega),ajO]
 have hn:=JQ (p:=f.p) (by omega) (by omega) ((gQ f.p (eE f) f.n F (f.n-1)).take f.n) (by rw[ajw];omega) (c++[.lst ((gQ f.p (eE f) f.n F (f.n-1)).map D.int)])
 rw[qV,afo,qF,hF];exact Vc (A0 h c) (by rw[uG,fl];rfl) (h1 x) (h1 y) h3 (Sb (M:=((2*f.n-1:Nat):Int)) rfl rfl (by rw[Zj,KS]) (by omega)) hf (R8 (Rw rfl rfl oz) rfl hn)
def uB:List Int->Nat->(Int->Int)->List Int
 |[],_,_=>[]
 |x::l,0,f=>f x::l
 |x::l,i+1,f=>x::uB l i f
theorem Bs:∀(l:List Int) (i:Nat) (f:Int->Int),i<l.length->l.set i (f (gI l i))=uB l i f
 |[],i,f,h=>by cases h
 |x::l,0,f,h=>rfl
 |x::l,i+1,f,h=>by
  have:=Bs l i f (by simpa using h)
  simp only[ajq,uB];rw[<-this];rfl
def xZ(p a:Int) (b:List Int) (k:Nat) (F:List Int):Nat->List Int
 |0=>F
 |j+1=>uB (xZ p a b k F j) (k+j) λv=>(v+a*gI b j) % p
theorem C5{p a:Int}{b:List Int}{k:Nat}{F:List Int}:∀j,k+j<=F.length->jR p a b k F j=xZ p a b k F j
 |0,_=>rfl
 |j+1,h=>by rw[jR,xZ,C5 j (by omega),Bs _ _ (λv=>(v+a*gI b j) % p) (by rw[<-C5 j (by omega),xY];omega)]
def xr(p:Int) (a b F:List Int):Nat->List Int
 |0=>F
 |k+1=>xZ p (gI a k) b k (xr p a b F k) b.length
theorem Ip{p:Int}{a b F:List Int}:∀k,k+b.length<=F.length+1->jL p a b F k=xr p a b F k
 |0,_=>rfl
 |k+1,h=>by rw[jL,xr,<-Ip k (by omega),C5 _ (by rw[xo];omega)]
def Lh{α:Type}(i:Int) (g:Int->α):α:=match i with
 |.ofNat n=>(match n with|0=>g (.ofNat 0)|m+1=>g (.ofNat (m+1)))
 |.negSucc n=>g (.negSucc n)
theorem ab4{α:Type}(i:Int) (g:Int->α):Lh i g=g i:=by
 cases i with
 |ofNat n=>cases n<;>rfl
 |negSucc n=>rfl
def wG(p fG:Int) (bw:List Int) (base:Nat) (F:List Int):Nat->List Int
 |0=>F
 |k+1=>uB (wG p fG bw base F k) (base+k) λv=>(v-fG*gI bw k) % p
theorem AW{p fG:Int}{bw:List Int}{base:Nat}{F:List Int}:∀k,base+k<=F.length->kj p fG bw base F k=wG p fG bw base F k
 |0,_=>rfl
 |k+1,h=>by rw[kj,wG,AW k (by omega),Bs _ _ (λv=>(v-fG*gI bw k) % p) (by rw[<-AW k (by omega),wI];omega)]
def tV(p:Int) (bw:List Int) (n:Nat) (F:List Int):Nat->List Int
 |0=>F
 |i+1=>Lh (gI (tV p bw n F i) (2*n-2-i)) λz=>wG p z bw (2*n-2-i-n) (tV p bw n F i) (n+1)
theorem HH{p:Int}{bw:List Int}{n:Nat}{F:List Int}(hn:1<=n) (hF:F.length=2*n-1):∀i,i<=n-1->gQ p bw n F i=tV p bw n F i
 |0,_=>rfl
 |i+1,h=>by rw[gQ,tV,ab4,<-HH hn hF i (by omega),AW _ (by rw[wH];omega)]
def AZ(p:Int) (n:Nat) (bw:List Int) (x y:Int):Int:=ji p ((tV p bw n (xr p (bI p n x) (bI p n y) (ν (2*n-1) 0) n) (n-1)).take n)
theorem Tj{p:Int}{n:Nat}(hn:1<=n) (bw:List Int) (x y:Int):qF p n bw x y=AZ p n bw x y:=by
 unfold qF AZ;have hl:(gk (bI p n x) (bI p n y) p).length=2*n-1:=by rw[Hh,iw,iw];omega
 rw[HH hn hl (n-1) (aij _)]
 congr 3
 unfold gk;rw[iw,iw,show n+n-1=2*n-1 by omega,Ip n (by rw[iw,akx];omega)]
def Me(f:Fd):Bool:=Nat.beq f.n 1||(η f.q).all λx=>(η f.q).all λy=>C3 (AZ f.p f.n (eE f) x y) (Mk f x y)
theorem agc:cg.all Me=Θ:=by decide +kernel
theorem Th(p x y:Int):qF p 1 [0,1] x y=(x % p*(y % p)) % p:=by
 simp[qF,gQ,gk,jL,jR,bI,gI,ji]
theorem YU(p x y:Int):Bo p 1 0 x y=(x % p*(y % p)) % p:=by
 simp[Bo,mulR,bI,GU,BA,fq]
theorem Zd:(cg.all λf=>!Nat.beq f.n 1||Nat.beq f.low 0)=Θ:=by decide +kernel
theorem Tn{f:Fd}(h:f∈cg) {x y:Nat}(hx:x<f.q) (hy:y<f.q) (c:aa):qV [.int f.q,.lst ((eE f).map D.int),.int x,.int y] c=.ok (.int (M f x y:Nat)) c:=by
 rw[Ti h];have I:=iA h;have hc:=aip.mp agc f h;cases hq:Nat.beq f.n 1 with
 |true =>
  have hn:=be hq;have hl:=aip.mp Zd f h;simp only[hq,aj0,alK]at hl;have e:eE f=[0,1]:=if_pos hn;have hm:=I.mm x y hx hy;unfold mI at hm;rw[e,<-hm,hn,be hl,Th];rw[show((0:Nat):Int)=0 from rfl,YU]
 |false =>
  simp only[Me,hq,alK]at hc;have:=aip.mp (aip.mp hc x (ain.mpr hx)) y (ain.mpr hy);rw[Tj I.n1,Kh this,vF]
theorem ja:1000000<ι:=by decide
theorem gU{f:List D->aa->R D}{d1:af}{e:Ev}{c:aa}{x v:D}(h1:d1 e c=.ok x c) (h:f [x] c=.ok v c):aE f (ao d1 aq) e c=.ok v c:=by
 simp only[fU,bz,h1,bG,R.aC];exact h
theorem pM{i:Nat}{d:af}{e:Ev}{c:aa}{v:D}(h:d e c=.ok v c):aF i d e c=.ok (.nx (e.set i (ζ v))) c:=by rw[fT,h];rfl
theorem nQ{d:af}{e:Ev}{c:aa}{v:D}(h:d e c=.ok v c):aP d e c=.ok (.rt v) c:=by rw[j7,h];rfl
theorem fy{f:D->D->aa->R D}{d1 d2:af}{e:Ev}{c:aa}{x y:D}{r:R D}(h1:d1 e c=.ok x c) (h2:d2 e c=.ok y c) (h:f x y c=r):au f d1 d2 e c=r:=by
 rw[fj,h1];simp only[R.aC];rw[h2];exact h
theorem oW{m:List D->aa->R D}{d1 d2:af}{e:Ev}{c:aa}{x y v:D}(h1:d1 e c=.ok x c) (h2:d2 e c=.ok y c) (h:m [x,y] c=.ok v c):aA 2 m (ao d1 (ao d2 aq)) e c=.ok v c:=by
 simp only[x_call,bz,h1,h2,bG,R.aC];rw[if_pos (by rfl)];exact h
theorem rO{m:List D->aa->R D}{d1:af}{e:Ev}{c:aa}{x v:D}(h1:d1 e c=.ok x c) (h:m [x] c=.ok v c):aA 1 m (ao d1 aq) e c=.ok v c:=by
 simp only[x_call,bz,h1,bG,R.aC];rw[if_pos (by rfl)];exact h
theorem jb{n:Nat}{b:ah}{xs:List D}{c:aa}{v:D}(h:b (cD n xs) c=.ok (.rt v) c) (hv:noRef v=Θ) (hr:∀k,v≠.ref k):bU n Ψ b xs c=.ok v c:=by
 rw[fC,h];simp only[R.aC];cases v<;>first|exact absurd rfl (hr _)|(unfold eF;dsimp only;rw[if_pos hv,ajZ])
def A(f:Fd) (x y:Nat):Nat:=(sI f.p f.n x y).toNat
theorem agI{f:Fd}(h:f∈cg) (x y:Nat):((A f x y:Nat):Int)=sI f.p f.n x y/\A f x y<f.q:=agw (iA h) x y
def sF(f:Fd) (a x y:Nat):Nat:=A f (M f a x) y
theorem Mc{a:af}{E:Ev}{c:aa}(it g:Nat->D):∀(l:List Nat) (v:Option D) (acc:List D),(∀i∈l,a (ζ (it i)::E) c=.ok (g i) c)->bR (λ_=>True) (aB 0) aO a (l.map it) (v::E) acc c=.ok (acc++l.map g) c
 |[],v,acc,_=>by simp
 |i::l,v,acc,h=>by
  have h1:aB 0 (it i) (v::E) c=.ok (ζ (it i)::E) c:=rfl;rw[ais,kU,h1,R.aC,nI,R.aC,if_pos rfl,h i (.head _),R.aC,Mc it g l _ _ (λz hz=>h z (.tail _ hz)),aiZ]
  rfl
theorem wC(lo hi:Int):bf lo hi=(η (hi-lo).toNat).map λi:Nat=>D.int (lo+(i:Int)):=rfl
theorem uI{d a:af}{pick:List (Option Nat)}{e E:Ev}{c:aa}{N:Int}{n:Nat}(g:Nat->D) (hd:d e c=.ok (.int N) c) (hN:N=n) (hn:n<1000) (hp:cV pick e=θ::E) (ha:∀i,i<n->a (ζ (.int (i:Int))::E) c=.ok (g i) c) :
  aW (bh (ao d aq)) pick (aB 0) aO a e c=.ok (.lst ((η n).map g)) c:=by
 have sz:=ja;have h1:bh (ao d aq) e c=.ok ⟨bf 0 N,λ_=>True⟩ c:=by
  unfold bh;simp only[bz,hd,bG,R.aC];rw[if_pos (by omega)]
 have hl:(bf 0 N).length=n:=by rw[fF];omega
 have hr:bf 0 N=(η n).map λi:Nat=>D.int (i:Int):=by
  rw[wC,show(N-0).toNat=n by omega]
  simp
 rw[dX,h1,R.aC];dsimp only;rw[if_pos (by rw[hl];omega),hp,hr,Mc _ g (η n) θ [] (λi hi=>ha i (ain.mp hi))]
 rfl
theorem GR(l:List D) (c:aa) (h:l.length<=1000):cA [.lst l] c=.ok (.tup l) c:=by
 have sz:=ja;simp[cA,fW]
theorem Po{d a:af}{pick:List (Option Nat)}{e E:Ev}{c:aa}{N:Int}{n:Nat}(g:Nat->D) (hd:d e c=.ok (.int N) c) (hN:N=n) (hn:n<1000) (hp:cV pick e=θ::E) (ha:∀i,i<n->a (ζ (.int (i:Int))::E) c=.ok (g i) c) :
  aE cA (ao (aW (bh (ao d aq)) pick (aB 0) aO a) aq) e c=.ok (.tup ((η n).map g)) c :=
 gU (uI g hd hN hn hp ha) (GR _ c (by simp;omega))
theorem IY{l:List D}(h:∀d∈l,noRef d=Θ):noRef (.tup l)=Θ:=by unfold noRef;exact iQ.mpr h
theorem I0(l:List Nat):noRef (.tup (nD l))=Θ:=IY λd hd=>by
 obtain⟨k,_,rfl⟩:=aik.mp hd;rfl
theorem IZ(n:Nat) (s:Nat->Nat->Nat):noRef (aG n s)=Θ:=IY λd hd=>by
 obtain⟨k,_,rfl⟩:=aik.mp hd;exact I0 _
theorem AY{f:Fd}(h:f∈cg):f.q<=50:=by
 have:(cg.all λf=>decide (f.q<=50))=Θ:=by decide +kernel
 simpa using aip.mp this f h
theorem Bl(n:Nat) (g:Nat->Nat):nD ((η n).map g)=(η n).map λi=>D.int (g i:Nat):=by simp[nD]
def FS(f:Fd):List D:=(η (f.q-1)).map λa=>aG f.q (sF f (1+a))
theorem MW{m:List D->aa->R D}{d1 d2 d3 d4:af}{e:Ev}{c:aa}{x y z u v:D}(h1:d1 e c=.ok x c) (h2:d2 e c=.ok y c) (h3:d3 e c=.ok z c) (h4:d4 e c=.ok u c) (h:m [x,y,z,u] c=.ok v c):aA 4 m (ao d1 (ao d2 (ao d3 (ao d4 aq)))) e c=.ok v c:=by
 simp only[x_call,bz,h1,h2,h3,h4,bG,R.aC];rw[if_pos (by rfl)]
 exact h
def tX(f:Fd) (x:Nat):List D:=(η f.q).map λy=>D.int (M f x y:Nat)
def PR(f:Fd):List D:=(η f.q).map λx=>.lst (tX f x)
theorem XQ(f:Fd):noRef (.lst (PR f))=Θ:=by
 unfold noRef;refine iQ.mpr λd hd=>?_
 obtain⟨k,_,rfl⟩:=aik.mp hd;unfold noRef;refine iQ.mpr λd hd=>?_
 obtain⟨k,_,rfl⟩:=aik.mp hd;rfl
theorem Te{f:Fd}(h:f∈cg) (c:aa):qU [.int f.q] c=.ok (.lst (PR f)) c:=by
 have hq:=AY h;refine jb (n:=2) (b:=pq) ?_ (XQ f) (λk h=>by cases h)
 have e0:aF 1 (aA 1 qW (ao (ak 0) aq)) [ζ (.int f.q),θ] c=.ok (.nx [ζ (.int f.q),ζ (.lst ((eE f).map D.int))]) c:=pM (i:=1) (rO (m:=qW) (d1:=ak 0) rfl (ab8 h c));unfold pq;rw[show cD 2 [D.int f.q]=[ζ (.int f.q),θ]from rfl,bN e0]
 refine nQ ?_;exact uI (N:=(f.q:Int)) (n:=f.q) (E:=[ζ (.int f.q),ζ (.lst ((eE f).map D.int))]) (λx=>D.lst (tX f x)) rfl rfl (by omega) rfl λx hx =>
  uI (N:=(f.q:Int)) (n:=f.q) (E:=[ζ (.int f.q),ζ (.lst ((eE f).map D.int)),ζ (.int (x:Int))]) (λy=>D.int (M f x y:Nat)) rfl rfl (by omega) rfl λy hy =>
   MW (m:=qV) (d1:=ak 1) (d2:=ak 2) (d3:=ak 3) (d4:=ak 0) rfl rfl rfl rfl (Tn h hx hy c)
theorem Na{l:List D}{i:Nat}{d:D}(h:l[i]? = ζ d):cF l (i:Int)=ζ d:=by
 have hi:=(aix.mp h).1;unfold cF fL;rw[if_pos (by omega),if_pos (by omega)]
 simpa using h
theorem uJ{l:List D}{i:Nat}{d:D}{N:Int}(hN:N=i) (h:l[i]? = ζ d) (c:aa):aH (.lst l) (.int N) c=.ok d c:=by
 subst hN;unfold aH fW;simp only[Na h]
theorem Kc{l:List D}{i:Nat}{d:D}{N:Int}(hN:N=i) (h:l[i]? = ζ d) (c:aa):aH (.tup l) (.int N) c=.ok d c:=by
 subst hN;unfold aH fW;simp only[Na h]
theorem Y7{f:Fd}(h:f∈cg) (x y:Nat) (c:aa):mS [.int f.q,.int x,.int y,.int 1] c=.ok (.int (A f x y:Nat)) c:=by
 rw[Qm h x y 1 (by decide) c,(agI h x y).1]
 unfold sI;have:(λa b:Int=>a+1*b)=(· + ·):=by funext a b;omega
 rw[this]
def dS(f:Fd) (a:Nat):List D:=(η f.q).map λx=>D.tup (nD ((η f.q).map (sF f a x)))
def uU:ah:=(dY (fP (ak 4) (aE cA (ao (aW (bh (ao (ak 0) aq)) [θ,ζ 0,ζ 5,ζ 1,ζ 3] (aB 0) aO (aA 4 mS (ao (ak 1) (ao (au aH (au aH (ak 3) (ak 4)) (ak 2)) (ao (ak 0) (ao (dC (.int 1)) aq)))))) aq))))
def uT:ah:=(aD (aF 4 (eX aq)) (aD (cz (bh (ao (ak 0) aq)) (aB 5) uU) (dY (fP (ak 2) (aE cA (ao (ak 4) aq))))))
theorem AN{f:Fd}{a x:Nat}(hx:x<=f.q):(dS f a).take x=(η x).map λx=>D.tup (nD ((η f.q).map (sF f a x))):=by
 unfold dS;rw[<-ajO,List.take_range,alJ hx]
theorem afz{dO da:af}{e:Ev}{c:aa}{k:Nat}{l:List D}{y:D}(ho:dO e c=.ok (.ref k) c) (ha:da e c=.ok y c) (hc:c[k]? = ζ (.lst l)) (hy:noRef y=Θ) (hl:l.length<1000):fP dO da e c=.ok .aM (c.set k (.lst (l++[y]))):=by
 have sz:=ja;unfold fP;rw[ho,R.aC];dsimp only;rw[ha,R.aC];simp only[hc];rw[if_pos ⟨by omega,hy⟩]
theorem ab1{f:Fd}(h:f∈cg) {a:Nat}(ha:1<=a) (ha2:a<f.q) {N:Int}(hN:N=f.q) (c:aa) (v2 v5:Option D):∃v,cO (λ_=>True) (aB 5) uU (bf 0 N) [ζ (.int N),ζ (.lst (PR f)),v2,ζ (.int (a:Int)),ζ (.ref c.length),v5] (c++[.lst []])=.ok (.nx [ζ (.int N),ζ (.lst (PR f)),v2,ζ (.int (a:Int)),ζ (.ref c.length),v]) (c++[.lst (dS f a)]):=by
 have hq:=AY h;have:=rB (g:=aB 5) (s:=uU) (λx=>c++[.lst ((dS f a).take x)]) (λ_ (v:Option D)=>[ζ (.int N),ζ (.lst (PR f)),v2,ζ (.int (a:Int)),ζ (.ref c.length),v]) hN v5 (λx hx v=>by
  refine⟨[ζ (.int N),ζ (.lst (PR f)),v2,ζ (.int (a:Int)),ζ (.ref c.length),ζ (.int (x:Nat))],rfl,ζ (.int (x:Nat)),?_⟩;have hval:(aE cA (ao (aW (bh (ao (ak 0) aq)) [θ,ζ 0,ζ 5,ζ 1,ζ 3] (aB 0) aO (aA 4 mS (ao (ak 1) (ao (au aH (au aH (ak 3) (ak 4)) (ak 2)) (ao (ak 0) (ao (dC (.int 1)) aq)))))) aq)) [ζ (.int N),ζ (.lst (PR f)),v2,ζ (.int (a:Int)),ζ (.ref c.length),ζ (.int (x:Nat))] (c++[.lst ((dS f a).take x)])=.ok (.tup ((η f.q).map λy=>D.int (sF f a x y:Nat))) (c++[.lst ((dS f a).take x)]):=by
   refine Po (N:=N) (n:=f.q) (E:=[ζ (.int N),ζ (.int (x:Nat)),ζ (.lst (PR f)),ζ (.int (a:Int))]) (λy=>D.int (sF f a x y:Nat)) rfl hN (by omega) rfl λy hy=>?_
   have r1:(PR f)[a]? = ζ (.lst (tX f a)):=by unfold PR;rw[aiL,ajD ha2];rfl
   have r2:(tX f a)[x]? = ζ (.int (M f a x:Nat)):=by unfold tX;rw[aiL,ajD hx];rfl
   have i1:=uJ (N:=(a:Int)) rfl r1 (c++[.lst ((dS f a).take x)]);have i2:=uJ (N:=(x:Int)) rfl r2 (c++[.lst ((dS f a).take x)]);have hs:=Y7 h (M f a x) y (c++[.lst ((dS f a).take x)]);rw[<-hN]at hs;exact MW (m:=mS) (d1:=ak 1) (d3:=ak 0) (d4:=dC (.int 1)) rfl (fy (f:=aH) (fy (f:=aH) (d1:=ak 3) (d2:=ak 4) rfl rfl i1) (d2:=ak 2) rfl i2) rfl rfl hs
  have hap:=FY (c:=c) (acc:=(dS f a).take x) (dO:=ak 4) (e:=[ζ (.int N),ζ (.lst (PR f)),v2,ζ (.int (a:Int)),ζ (.ref c.length),ζ (.int (x:Nat))]) rfl hval (by rw[<-Bl];exact I0 _) (by rw[AN (by omega)];simp;omega)
  unfold uU;rw[mj,hap,R.aC];have ht:(dS f a).take x++[D.tup ((η f.q).map λy=>D.int (sF f a x y:Nat))]=(dS f a).take (x+1):=by
   rw[AN (by omega),AN (by omega),ajB,ajs,<-Bl]
   rfl
  rw[ht])
 have hz:(dS f a).take 0=[]:=rfl;have hw:(dS f a).take f.q=dS f a:=aj1 (by unfold dS;simp)
 rw[hz,hw]at this;exact this
def J8(f:Fd) (k:Nat):aa:=(η k).map λa=>Cell.lst (dS f (1+a))
def cJ(f:Fd) (c:aa) (k:Nat):aa:=c ++ .lst ((η k).map λa=>aG f.q (sF f (1+a)))::J8 f k
theorem ab0{f:Fd}(h:f∈cg) {N:Int}(hN:N=f.q) (c:aa) (v3 v4 v5:Option D):∃w,cO (λ_=>True) (aB 3) uT (bf 1 N) [ζ (.int N),ζ (.lst (PR f)),ζ (.ref c.length),v3,v4,v5] (c++[.lst []])=.ok (.nx ([ζ (.int N),ζ (.lst (PR f)),ζ (.ref c.length)]++w)) (cJ f c (f.q-1)):=by
 have hq:=AY h;have q2:=(iA h).q2;have hl:(bf 1 N).length=f.q-1:=by rw[wC];simp;omega
 have:=oG (st:=λ_=>True) (g:=aB 3) (s:=uT) (cJ f c) (λ_ (w:Option D×Option D×Option D)=>[ζ (.int N),ζ (.lst (PR f)),ζ (.ref c.length),w.1,w.2.1,w.2.2]) (bf 1 N) 0 (v3,v4,v5) (λ_ _=>trivial) (λk x hx w=>by
  have hk:k<f.q-1:=by rw[<-hl];exact(aix.mp hx).1
  have hx':x=.int (((1+k:Nat)):Int):=by
   rw[wC,aiL,ajD (by omega)]at hx
   have:D.int (1+(k:Int))=x:=by simpa using hx
   rw[<-this]
   congr 1
  subst hx';refine⟨[ζ (.int N),ζ (.lst (PR f)),ζ (.ref c.length),ζ (.int (((1+k:Nat)):Int)),w.2.1,w.2.2],rfl,?_⟩;have e0:aF 4 (eX aq) [ζ (.int N),ζ (.lst (PR f)),ζ (.ref c.length),ζ (.int (((1+k:Nat)):Int)),w.2.1,w.2.2] (cJ f c k)=.ok (.nx [ζ (.int N),ζ (.lst (PR f)),ζ (.ref c.length),ζ (.int (((1+k:Nat)):Int)),ζ (.ref (cJ f c k).length),w.2.2]) (cJ f c k++[.lst []]):=by
   simp[bA]
  obtain⟨v,e1⟩:=ab1 h (a:=1+k) (by omega) (by omega) hN (cJ f c k) (ζ (.ref c.length)) w.2.2
  have h1:bh (ao (ak 0) aq) [ζ (.int N),ζ (.lst (PR f)),ζ (.ref c.length),ζ (.int (((1+k:Nat)):Int)),ζ (.ref (cJ f c k).length),w.2.2] (cJ f c k++[.lst []])=.ok ⟨bf 0 N,λ_=>True⟩ (cJ f c k++[.lst []]):=by
   unfold bh;simp only[bz,bX,gz,bG,R.aC];rw[if_pos (by omega)]
  have Ep:cz (bh (ao (ak 0) aq)) (aB 5) uU [ζ (.int N),ζ (.lst (PR f)),ζ (.ref c.length),ζ (.int (((1+k:Nat)):Int)),ζ (.ref (cJ f c k).length),w.2.2] (cJ f c k++[.lst []])=.ok (.nx [ζ (.int N),ζ (.lst (PR f)),ζ (.ref c.length),ζ (.int (((1+k:Nat)):Int)),ζ (.ref (cJ f c k).length),v]) (cJ f c k++[.lst (dS f (1+k))]):=by
   rw[i6,h1,R.aC];exact e1
  have Dc:(cJ f c k++[Cell.lst (dS f (1+k))])[(cJ f c k).length]? = ζ (.lst (dS f (1+k))):=by simp
  have htup:aE cA (ao (ak 4) aq) [ζ (.int N),ζ (.lst (PR f)),ζ (.ref c.length),ζ (.int (((1+k:Nat)):Int)),ζ (.ref (cJ f c k).length),v] (cJ f c k++[.lst (dS f (1+k))])=.ok (aG f.q (sF f (1+k))) (cJ f c k++[.lst (dS f (1+k))]):=by
   refine gU (d1:=ak 4) (x:=.ref (cJ f c k).length) rfl ?_;unfold cA fW;simp only[Dc];rfl
  have abg:(cJ f c k++[Cell.lst (dS f (1+k))])[c.length]? = ζ (.lst ((η k).map λa=>aG f.q (sF f (1+a)))):=by
   unfold cJ;simp
  have hap:=afz (dO:=ak 2) (e:=[ζ (.int N),ζ (.lst (PR f)),ζ (.ref c.length),ζ (.int (((1+k:Nat)):Int)),ζ (.ref (cJ f c k).length),v]) rfl htup abg (IZ _ _) (by simp;omega)
  have uM:(cJ f c k++[Cell.lst (dS f (1+k))]).set c.length (.lst (((η k).map λa=>aG f.q (sF f (1+a)))++[aG f.q (sF f (1+k))]))=cJ f c (k+1):=by
   unfold cJ J8;rw[aiZ,List.set_append_right _ _ (aij _),ajA,ajB,ajs,ajs];rfl
  rw[uM]at hap;refine⟨(ζ (.int (((1+k:Nat)):Int)),ζ (.ref (cJ f c k).length),v),?_⟩;unfold uT;rw[aiW];rw[bN e0,bN Ep,mj,hap];rfl)
 obtain⟨w,hw⟩:=this;refine⟨[w.1,w.2.1,w.2.2],?_⟩;rw[aiW,hl]at hw;exact hw
theorem oj(n:Nat) (s:Nat->Nat->Nat) (c:aa):aU [aG n s] c=.ok (.int (n:Int)) c:=by
 unfold aG;simp
theorem wk{n i:Nat}(s:Nat->Nat->Nat) (h1:1<=n) (h7:n<=7) (hi:i<n*n) {I:Int}(hI:I=i) (c:aa):e7 [aG n s,.int I] c=.ok (.int (s (i/n) (i % n):Nat)) c:=by
 have hd:i/n<n:=ajP hi;have hm:i % n<n:=ajg _ (by omega)
 refine jb (n:=2) (b:=oY) ?_ rfl (λk h=>by cases h)
 unfold oY;refine nQ ?_;have e:cD 2 [aG n s,.int I]=[ζ (aG n s),ζ (.int I)]:=rfl;rw[e];have hl:aE aU (ao (ak 0) aq) [ζ (aG n s),ζ (.int I)] c=.ok (.int (n:Int)) c:=gU (d1:=ak 0) rfl (oj n s c);have Dh:gw (.int I) (.int (n:Int)) c=.ok (.int (((i/n:Nat)):Int)) c:=by
  rw[rE c (by omega) (by omega),hI]
  rfl
 have hmd:bL (.int I) (.int (n:Int)) c=.ok (.int (((i % n:Nat)):Int)) c:=by
  rw[jM c (by omega),hI]
  rfl
 have r1:((η n).map λi=>D.tup (nD ((η n).map (s i))))[i/n]? = ζ (.tup (nD ((η n).map (s (i/n))))):=by rw[aiL,ajD hd];rfl
 have r2:(nD ((η n).map (s (i/n))))[i % n]? = ζ (.int (s (i/n) (i % n):Nat)):=by rw[Bl,aiL,ajD hm];rfl
 exact fy (f:=aH) (fy (f:=aH) (d1:=ak 0) rfl (fy (f:=gw) (d1:=ak 1) rfl hl Dh) (Kc rfl r1 c)) (fy (f:=bL) (d1:=ak 1) rfl hl hmd) (Kc rfl r2 c)
def eY(n:Nat) (s s':Nat->Nat->Nat) (i:Nat):List Int:=[((s (i/n) (i % n):Nat):Int),((s' (i/n) (i % n):Nat):Int)]
def mL(n:Nat) (s s':Nat->Nat->Nat) (i:Nat):D:=.tup [.int (s (i/n) (i % n):Nat),.int (s' (i/n) (i % n):Nat)]
theorem JI{m q:Int}(h0:0<=m) (h1:m<1000) (hq:q=m*m) (c:aa):bg (.int m) (.int m) c=.ok (.int q) c:=by
 unfold bg;dsimp only;rw[if_pos (by omega),hq]
def JM(n:Nat) (s:Nat->Nat->Nat):Bool:=(η n).all λi=>decide (((η n).map (s i)).Nodup)&&decide (((η n).map λj=>s j i).Nodup)&&(η n).all λj=>Nat.blt (s i j) n
def Mj(n:Nat) (s s':Nat->Nat->Nat) (i:Nat):Nat:=8*s (i/n) (i % n)+s' (i/n) (i % n)
def IJ(f:Fd):Bool:=(η (f.q-1)).all λa=>JM f.q (sF f (1+a))&&(η a).all λb=>decide (((η (f.q*f.q)).map (Mj f.q (sF f (1+a)) (sF f (1+b)))).Nodup)
theorem aga:((cg.filter λf=>Nat.ble f.q 7).all IJ)=Θ:=by decide +kernel
theorem II{f:Fd}(h:f∈cg) (h7:f.q<=7):IJ f=Θ:=aip.mp aga f (ak0.mpr ⟨h,Nat.ble_eq_true_of_le h7⟩)
theorem Y6{n:Nat}{s:Nat->Nat->Nat}(h:JM n s=Θ):cR n s/\∀x y,x<n->y<n->s x y<n:=by
 have h:=aip.mp h;have hb:∀x y,x<n->y<n->s x y<n:=λx y hx hy=>by
  have:=h x (ain.mpr hx);simp only[aiy,aip]at this;have h3:=this.2 y (ain.mpr hy);exact aiz (ajf _) (amB h3)
 refine⟨⟨λi hi=>?_,λi hi=>?_⟩,hb⟩
 ·have:=h i (ain.mpr hi);simp only[aiy,decide_eq_true_eq]at this;exact t7 this.1.1 (λx hx=>by
   obtain⟨j,hj,rfl⟩:=aik.mp hx;exact ain.mpr (hb i j hi (ain.mp hj))) (by simp)
 ·have:=h i (ain.mpr hi);simp only[aiy,decide_eq_true_eq]at this;exact t7 this.1.2 (λx hx=>by
   obtain⟨j,hj,rfl⟩:=aik.mp hx;exact ain.mpr (hb j i (ain.mp hj) hi)) (by simp)
theorem XU{α:Type}{n:Nat}{f:Nat->α}(h:∀i j,i<n->j<n->f i=f j->i=j):((η n).map f).Nodup:=by
 unfold υ;rw[ajC];refine amI (R:=(· < ·)) (fun{a b} ha hb hab e=>?_) alm
 have:=h a b (ain.mp ha) (ain.mp hb) e;omega
theorem ae8{m:List D->aa->R D}{d1 d2 d3:af}{e:Ev}{c:aa}{x y z v:D}(h1:d1 e c=.ok x c) (h2:d2 e c=.ok y c) (h3:d3 e c=.ok z c) (h:m [x,y,z] c=.ok v c):aA 3 m (ao d1 (ao d2 (ao d3 aq))) e c=.ok v c:=by
 simp only[x_call,bz,h1,h2,h3,bG,R.aC];rw[if_pos (by rfl)];exact h
theorem Lm:∀(l r:List (List Int)),(r++l).Nodup->l.foldl eL r=r++l
 |[],r,_=>by simp
 |k::l,r,h=>by
  have hk:k∉r:=λhm=>by
   rw[ajJ]at h;exact h.2.2 k hm k (.head _) rfl
  rw[ajn,show eL r k=r++[k] by unfold eL;rw[if_neg hk],Lm l (r++[k]) (by rw[aiZ];exact h),aiZ]
  rfl
structure Gk (n:Nat) (s s':Nat->Nat->Nat):Prop where
 one:∀x y,x<n->y<n->s x y<8
 two:∀x y,x<n->y<n->s' x y<8
 nd:((η (n*n)).map (eY n s s')).Nodup
theorem HW{n:Nat}{s s':Nat->Nat->Nat}(A:Gk n s s'):∀l:List Nat,(∀i∈l,i<n*n)->ko (l.map (mL n s s'))=ζ (l.map (eY n s s'))
 |[],_=>rfl
 |i::l,h=>by
  have hi:=h i (.head _);have h0:0<n:=by rcases alg n with e|e;(subst e;simp at hi);exact e
  have a1:=A.one (i/n) (i % n) (ajP hi) (ajg _ h0);have a2:=A.two (i/n) (i % n) (ajP hi) (ajg _ h0);have hp:nR (mL n s s' i)=ζ (eY n s s' i):=by
   unfold nR mL eY;dsimp only;rw[if_pos (by omega)]
  rw[ais,ais];unfold ko;rw[hp,HW A l λj hj=>h j (.tail _ hj)]
theorem eq_self(N:Int) (c:aa):bD (.int N) (.int N) c=.ok (.bl Θ) c:=by simp
theorem Zg{n:Nat}{s s':Nat->Nat->Nat}(h1:1<=n) (h7:n<=7) (A:Gk n s s') (c:aa):kD [aG n s,aG n s'] c=.ok (.bl Θ) c:=by
 have hnn:n*n<=49:=Nat.mul_le_mul h7 h7;refine jb (n:=3) (b:=kX) ?_ rfl (λk h=>by cases h)
 obtain⟨Q,hQ⟩:∃Q:Int,Q=((n*n:Nat):Int):=⟨_,rfl⟩;have hml:bg (.int (n:Int)) (.int (n:Int)) c=.ok (.int Q) c:=by
  rw[hQ];exact JI (m:=(n:Int)) (by omega) (by omega) (by simp) c
 have e0:aF 2 (au bg (aE aU (ao (ak 0) aq)) (aE aU (ao (ak 0) aq))) [ζ (aG n s),ζ (aG n s'),θ] c=.ok (.nx [ζ (aG n s),ζ (aG n s'),ζ (.int Q)]) c:=pM (i:=2) (fy (f:=bg) (gU (d1:=ak 0) rfl (oj n s c)) (gU (d1:=ak 0) rfl (oj n s c)) hml);have t2:(2:Nat)<=ι:=by decide
 have hc:=uI (d:=ak 2) (a:=bV (ao (aA 2 e7 (ao (ak 1) (ao (ak 0) aq))) (ao (aA 2 e7 (ao (ak 2) (ao (ak 0) aq))) aq))) (pick:=[θ,ζ 0,ζ 1]) (e:=[ζ (aG n s),ζ (aG n s'),ζ (.int Q)]) (E:=[ζ (aG n s),ζ (aG n s')]) (c:=c) (N:=Q) (n:=n*n) (mL n s s') rfl hQ (by omega) rfl (λi hi=>by
  have g1:=oW (m:=e7) (d1:=ak 1) (d2:=ak 0) (e:=[ζ (.int (i:Int)),ζ (aG n s),ζ (aG n s')]) rfl rfl (wk s h1 h7 hi rfl c);have g2:=oW (m:=e7) (d1:=ak 2) (d2:=ak 0) (e:=[ζ (.int (i:Int)),ζ (aG n s),ζ (aG n s')]) rfl rfl (wk s' h1 h7 hi rfl c);simp only[Aj,bz,g1,g2,bG,R.aC];rw[if_pos (by exact t2)]
  rfl)
 have hp:=HW A (η (n*n)) λi hi=>ain.mp hi
 have hf:cP ((η (n*n)).map (eY n s s'))=(η (n*n)).map (eY n s s'):=Lm _ [] (by simpa using A.nd)
 have hs:kR (ao (aW (bh (ao (ak 2) aq)) [θ,ζ 0,ζ 1] (aB 0) aO (bV (ao (aA 2 e7 (ao (ak 1) (ao (ak 0) aq))) (ao (aA 2 e7 (ao (ak 2) (ao (ak 0) aq))) aq)))) aq) [ζ (aG n s),ζ (aG n s'),ζ (.int Q)] c=.ok (.int Q) c:=by
  unfold kR;simp only[bz,hc,bG,R.aC,eS,hp,hf,aiu,ai8];rw[if_pos (by omega),hQ]
 have hb:kX=aD (aF 2 (au bg (aE aU (ao (ak 0) aq)) (aE aU (ao (ak 0) aq)))) (aP (au bD (kR (ao (aW (bh (ao (ak 2) aq)) [θ,ζ 0,ζ 1] (aB 0) aO (bV (ao (aA 2 e7 (ao (ak 1) (ao (ak 0) aq))) (ao (aA 2 e7 (ao (ak 2) (ao (ak 0) aq))) aq)))) aq)) (ak 2))):=rfl;rw[show cD 3 [aG n s,aG n s']=[ζ (aG n s),ζ (aG n s'),θ]from rfl,hb,bN e0]
 exact nQ (fy (f:=bD) hs (d2:=ak 2) (y:=.int Q) rfl (eq_self Q c))
def l6(n:Nat) (s t:Nat->Nat->Nat):Prop:=∀x y x' y',x<n->y<n->x'<n->y'<n->s x y=s x' y'->t x y=t x' y'->x=x'/\y=y'
theorem l6.symm{n:Nat}{s t:Nat->Nat->Nat}(h:l6 n s t):l6 n t s:=λx y x' y' a b c d e f=>h x y x' y' a b c d f e
theorem ags{n:Nat}{s t:Nat->Nat->Nat}(h1:1<=n) (h7:n<=7) (L:cR n s) (L':cR n t) (h:l6 n s t):Gk n s t:=by
 refine⟨λx y hx hy=>by have:=L.lt hx hy;omega,λx y hx hy=>by have:=L'.lt hx hy;omega,XU λi j hi hj e=>?_⟩
 unfold eY at e
 injection e with e1 e2
 injection e2 with e2 _
 have e1:s (i/n) (i % n)=s (j/n) (j % n):=by omega
 have e2:t (i/n) (i % n)=t (j/n) (j % n):=by omega
 obtain⟨q1,q2⟩:=h _ _ _ _ (ajP hi) (ajg _ (by omega)) (ajP hj) (ajg _ (by omega)) e1 e2
 rw[<-amJ i n,<-amJ j n,q1,q2]
theorem Yb{n:Nat}{f:Nat->Nat}(h:((η n).map f).Nodup) {i j:Nat}(hi:i<n) (hj:j<n) (e:f i=f j):i=j:=by
 have hp:=ajC.mp h;have hg:=ajU.mp hp
 rcases akJ i j with q|q|q
 ·have:=hg i j (by simpa using hi) (by simpa using hj) q
  simp at this;exact absurd e this
 ·exact q
 ·have:=hg j i (by simpa using hj) (by simpa using hi) q
  simp at this;exact absurd e.symm this
theorem Lr{f:Fd}(h:f∈cg) (h7:f.q<=7) {a b:Nat}(ha:a<f.q-1) (hb:b<a):l6 f.q (sF f (1+a)) (sF f (1+b)):=by
 have ho:=aip.mp (II h h7) a (ain.mpr ha);rw[aiy]at ho;have hn:=of_decide_eq_true (aip.mp ho.2 b (ain.mpr hb));intro x y x' y' hx hy hx' hy' e1 e2;have q0:0<f.q:=by omega
 have bd:∀x y,x<f.q->y<f.q->x*f.q+y<f.q*f.q:=λx y hx hy=>by
  have:x*f.q+f.q<=f.q*f.q:=by
   rw[<-ajo];exact akp _ hx
  omega
 have dv:∀x y,y<f.q->(x*f.q+y)/f.q=x/\(x*f.q+y) % f.q=y:=λx y hy=>by
  constructor
  ·rw[aka,amK q0,akY hy];omega
  ·rw[aka,amL,akZ hy]
 have:=Yb hn (bd x y hx hy) (bd x' y' hx' hy') (by
  unfold Mj;rw[(dv x y hy).1,(dv x y hy).2,(dv x' y' hy').1,(dv x' y' hy').2,e1,e2])
 have d1:=dv x y hy;have d2:=dv x' y' hy';rw[this]at d1;exact⟨d1.1.symm.trans d2.1,d1.2.symm.trans d2.2⟩
theorem acs{f:Fd}(h:f∈cg) (h7:f.q<=7) {a:Nat}(ha:a<f.q-1):cR f.q (sF f (1+a)):=by
 have ho:=aip.mp (II h h7) a (ain.mpr ha);rw[aiy]at ho;exact(Y6 ho.1).1
theorem acu{f:Fd}(h:f∈cg) (h7:f.q<=7) {a b:Nat}(ha:a<f.q-1) (hb:b<f.q-1) (hne:a≠b):l6 f.q (sF f (1+a)) (sF f (1+b)):=by
 rcases Nat.lt_or_gt_of_ne hne with q|q
 ·exact(Lr h h7 hb q).symm
 ·exact Lr h h7 ha q
theorem Zi{f:Fd}(h:f∈cg) {N:Int}(hN:N=f.q) (h7:N<=7) (c:aa):uD [.int N] c=.ok (.ref c.length) (c++[.lst (FS f)]):=by
 obtain⟨w,hf⟩:=ab0 h hN c θ θ θ;have hp:=Te h c;rw[<-hN]at hp;have e0:aF 1 (aA 1 qU (ao (ak 0) aq)) [ζ (.int N),θ,θ,θ,θ,θ] c=.ok (.nx [ζ (.int N),ζ (.lst (PR f)),θ,θ,θ,θ]) c:=pM (i:=1) (rO (m:=qU) (d1:=ak 0) rfl hp);have e1:aF 2 (eX aq) [ζ (.int N),ζ (.lst (PR f)),θ,θ,θ,θ] c=.ok (.nx [ζ (.int N),ζ (.lst (PR f)),ζ (.ref c.length),θ,θ,θ]) (c++[.lst []]):=by simp[bA]
 have h1:nj (ao (dC (.int 1)) (ao (ak 0) aq)) [ζ (.int N),ζ (.lst (PR f)),ζ (.ref c.length),θ,θ,θ] (c++[.lst []])=.ok ⟨bf 1 N,λ_=>True⟩ (c++[.lst []]):=by
  have q2:=(iA h).q2;simp;omega
 have e2:cz (nj (ao (dC (.int 1)) (ao (ak 0) aq))) (aB 3) uT [ζ (.int N),ζ (.lst (PR f)),ζ (.ref c.length),θ,θ,θ] (c++[.lst []])=.ok (.nx ([ζ (.int N),ζ (.lst (PR f)),ζ (.ref c.length)]++w)) (cJ f c (f.q-1)):=by
  rw[i6,h1,R.aC];exact hf
 have hb:pB=aD (aF 1 (aA 1 qU (ao (ak 0) aq))) (aD (aF 2 (eX aq)) (aD (cz (nj (ao (dC (.int 1)) (ao (ak 0) aq))) (aB 3) uT) (aP (ak 2)))):=rfl;show bU 6 Θ pB [.int N] c=_;unfold bU;rw[show cD 6 [D.int N]=[ζ (.int N),θ,θ,θ,θ,θ]from rfl,hb,bN e0,bN e1,bN e2]
 have e3:aP (ak 2) ([ζ (.int N),ζ (.lst (PR f)),ζ (.ref c.length)]++w) (cJ f c (f.q-1))=.ok (.rt (.ref c.length)) (cJ f c (f.q-1)):=rfl;rw[e3,R.aC];dsimp only;unfold eF;dsimp only;have hg:(cJ f c (f.q-1))[c.length]? = ζ (.lst (FS f)):=by unfold cJ FS;simp
 have ht:(cJ f c (f.q-1)).take c.length=c:=by unfold cJ;simp
 rw[hg];dsimp only;rw[if_pos (aij _),if_pos rfl,ht]
structure Net (n:Nat) (ss:List (Nat->Nat->Nat)):Prop where
 two:2<=n
 nN:n<=7
 few:ss.length<=n-1
 lat:∀s∈ss,cR n s
 acr:ss.Pairwise (l6 n)
def aK(n:Nat) (ss:List (Nat->Nat->Nat)):List D:=ss.map (aG n)
theorem acq{f:Fd}(h:f∈cg) (h7:f.q<=7) {bs:List Nat}(hn:bs.Nodup) (hb:∀x∈bs,x<f.q-1) (hl:bs.length<=f.q-1):Net f.q (bs.map λa=>sF f (1+a)):=by
 refine⟨(iA h).q2,h7,by simpa using hl,λs hs=>?_,?_⟩
 ·obtain⟨a,ha,rfl⟩:=aik.mp hs;exact acs h h7 (hb a ha)
 ·rw[ajC];exact amI (fun{a b} ha hb' hne=>acu h h7 (hb a ha) (hb b hb') hne) hn
structure LF (f:Fd) (j n:Nat) (as bs:List Nat) (c:aa):Prop where
 len:c.length=n+2
 jn:j<n
 Tt:∃p:Int,c[j]? = ζ (.lst [.int p])
 left:c[n]? = ζ (.lst (as.map λa=>aG f.q (sF f (1+a))))
 fnd:c[n+1]? = ζ (.lst (bs.map λa=>aG f.q (sF f (1+a))))
def tP:ah:=(dY (fP (ak 3) (jy (ak 2) (aA 2 bC (ao (ak 0) (ao (aE aU (ao (ak 2) aq)) aq))))))
theorem Y4{α:Type}(g:Nat->α) (l:List Nat) (i:Nat):(l.map g).eraseIdx i=(l.eraseIdx i).map g:=by
 rw[ajN,ajN];simp[ajO,alE]
theorem QF{f:Fd}{j n:Nat}{as bs:List Nat}{c:aa}{a1 a4:Option D}(H:LF f j n as bs c) (h1:0<as.length) (h2:as.length<100) (h3:bs.length<100) :
  ∃as' bs' c',LF f j n as' bs' c'/\(as++bs).Perm (as'++bs')/\as'.length+1=as.length/\bs'.length=bs.length+1/\tP [ζ (.ref j),a1,ζ (.ref n),ζ (.ref (n+1)),a4] c=.ok (.nx [ζ (.ref j),a1,ζ (.ref n),ζ (.ref (n+1)),a4]) c':=by
 obtain⟨g1,g2,⟨p,g3⟩,g4,g5⟩:=H;have ht:=take2 (cQ:=(as.length:Int)) g3 (by omega) (by omega)
 have x0:=ajE p (show(as.length:Int)≠0 by omega)
 have x1:=ajF p (show(0:Int)<(as.length:Int) by omega)
 generalize p % (as.length:Int)=x at ht x0 x1
 obtain⟨i,rfl⟩:=qS x0
 generalize hc1:c.set j (.lst [.int (p/(as.length:Int))])=c1 at ht
 have hi:i<as.length:=by omega
 have l1:c1.length=n+2:=by rw[<-hc1];simp[g1]
 have q0:c1[j]? = ζ (.lst [.int (p/(as.length:Int))]):=by rw[<-hc1,ai5 (by omega)]
 have q1:c1[n]? = ζ (.lst (as.map λa=>aG f.q (sF f (1+a)))):=by rw[<-hc1,aiX (by omega)];exact g4
 have q2:c1[n+1]? = ζ (.lst (bs.map λa=>aG f.q (sF f (1+a)))):=by rw[<-hc1,aiX (by omega)];exact g5
 have hlen:aU [.ref n] c=.ok (.int (as.length:Int)) c:=by
  unfold aU;dsimp only[fW];rw[g4];simp
 have hget:(as.map λa=>aG f.q (sF f (1+a)))[i]? = ζ (aG f.q (sF f (1+as[i]))):=by simp[hi]
 have aaY:jy (ak 2) (aA 2 bC (ao (ak 0) (ao (aE aU (ao (ak 2) aq)) aq))) [ζ (.ref j),a1,ζ (.ref n),ζ (.ref (n+1)),a4] c=.ok (aG f.q (sF f (1+as[i]))) (c1.set n (.lst ((as.eraseIdx i).map λa=>aG f.q (sF f (1+a))))):=by
  unfold jy;simp only[bX,gz,gs,R.aC,x_call,bz,fU,bG,hlen,aiv,aiR,if_pos,ht,q1];rw[if_pos ⟨by omega,by simp;omega,by simp;omega⟩,aky,hget]
  dsimp only;rw[Y4]
 have q3:(c1.set n (.lst ((as.eraseIdx i).map λa=>aG f.q (sF f (1+a)))))[n+1]? = ζ (.lst (bs.map λa=>aG f.q (sF f (1+a)))):=by
  rw[aiX (by omega)];exact q2
 refine⟨as.eraseIdx i,bs++[as[i]],(c1.set n (.lst ((as.eraseIdx i).map λa=>aG f.q (sF f (1+a))))).set (n+1) (.lst ((bs++[as[i]]).map λa=>aG f.q (sF f (1+a)))),⟨by simp[l1],g2,⟨_,by rw[aiX (by omega),aiX (by omega)];exact q0⟩,by rw[aiX (by omega),ai5 (by omega)],by rw[ai5 (by simp;omega)]⟩,?_,by rw[aml hi];omega,by simp,?_⟩
 ·have p1:=(zf hi).append_right bs;refine p1.trans ?_;rw[<-aiZ];refine List.Perm.trans ?_ (akP as[i] (as.eraseIdx i++bs)).symm;exact .refl _
 ·unfold tP;rw[mj];have:fP (ak 3) (jy (ak 2) (aA 2 bC (ao (ak 0) (ao (aE aU (ao (ak 2) aq)) aq)))) [ζ (.ref j),a1,ζ (.ref n),ζ (.ref (n+1)),a4] c=.ok .aM ((c1.set n (.lst ((as.eraseIdx i).map λa=>aG f.q (sF f (1+a))))).set (n+1) (.lst ((bs++[as[i]]).map λa=>aG f.q (sF f (1+a))))):=by
   have sz:=ja;unfold fP;have hv:(ak 3) [ζ (.ref j),a1,ζ (.ref n),ζ (.ref (n+1)),a4] c=.ok (.ref (n+1)) c:=rfl;rw[hv,R.aC];dsimp only;rw[aaY,R.aC];simp only[q3];rw[if_pos ⟨by simp;omega,IZ _ _⟩]
   simp
  rw[this];rfl
theorem Hs{f:Fd}{j n:Nat}{a1:Option D}:∀(ks:List D) (as bs:List Nat) (a4:Option D) (c:aa),LF f j n as bs c->ks.length<=as.length->as.length+bs.length<100 ->
  ∃as' bs' v c',LF f j n as' bs' c'/\(as++bs).Perm (as'++bs')/\cO (λ_=>True) (aB 4) tP ks [ζ (.ref j),a1,ζ (.ref n),ζ (.ref (n+1)),a4] c=.ok (.nx [ζ (.ref j),a1,ζ (.ref n),ζ (.ref (n+1)),v]) c'
 |[],as,bs,a4,c,H,_,_=>⟨as,bs,a4,c,H,.refl _,by simp⟩
 |k::ks,as,bs,a4,c,H,hl,h2=>by
  rw[aiv]at hl;obtain⟨as1,bs1,c1,H1,p1,l1,l2,e1⟩:=QF (a1:=a1) (a4:=ζ k) H (by omega) (by omega) (by omega)
  obtain⟨as2,bs2,v,c2,H2,p2,e2⟩:=Hs ks as1 bs1 (ζ k) c1 H1 (by omega) (by omega)
  refine⟨as2,bs2,v,c2,H2,p1.trans p2,?_⟩;have g:aB 4 k [ζ (.ref j),a1,ζ (.ref n),ζ (.ref (n+1)),a4] c=.ok [ζ (.ref j),a1,ζ (.ref n),ζ (.ref (n+1)),ζ k] c:=rfl;rw[uX,g,R.aC,e1];exact e2
theorem GV:∀(l:List Nat) (c:aa) (n:Nat),gj c n (nD l)=ζ (nD l)
 |[],_,_=>rfl
 |x::l,c,n=>by
  show(match dj c n (.int (x:Nat)),gj c n (nD l)with|some a,ζ m=>ζ (a::m)|_,_=>θ)=_
  rw[GV l c n];rfl
theorem Pj(n:Nat) (s:Nat->Nat->Nat) (c:aa) (k:Nat):dj c k (aG n s)=ζ (aG n s):=by
 have h:∀l:List Nat,gj c k (l.map λi=>D.tup (nD ((η n).map (s i))))=ζ (l.map λi=>D.tup (nD ((η n).map (s i)))):=λl=>by
  induction l with
  |nil=>rfl
  |cons i l ih =>
   show(match dj c k (.tup (nD ((η n).map (s i)))),gj c k (l.map λi=>D.tup (nD ((η n).map (s i))))with|some a,ζ m=>ζ (a::m)|_,_=>θ)=_
   have:dj c k (.tup (nD ((η n).map (s i))))=ζ (.tup (nD ((η n).map (s i)))):=by
    show(match gj c k (nD ((η n).map (s i)))with|some m=>ζ (D.tup m)|none=>θ)=_
    rw[GV]
   rw[this,ih];rfl
 show(match gj c k ((η n).map λi=>D.tup (nD ((η n).map (s i))))with|some m=>ζ (D.tup m)|none=>θ)=_
 rw[h];rfl
theorem GX(n:Nat):∀(ss:List (Nat->Nat->Nat)) (c:aa) (k:Nat),gj c k (aK n ss)=ζ (aK n ss)
 |[],_,_=>rfl
 |s::ss,c,k=>by
  show(match dj c k (aG n s),gj c k (aK n ss)with|some a,ζ m=>ζ (a::m)|_,_=>θ)=_
  rw[Pj,GX n ss c k];rfl
theorem RA{y:Int}(y0:0<=y) (y1:y<6):(2+y=6)\/∃f∈cg,f.q<=7/\2+y=(f.q:Int)/\f.q≠6:=by
 have:y=0\/y=1\/y=2\/y=3\/y=4\/y=5:=by omega
 rcases this with rfl|rfl|rfl|rfl|rfl|rfl
 ·exact .inr ⟨cg[0],aiJ _,by decide,rfl,by decide⟩
 ·exact .inr ⟨cg[1],aiJ _,by decide,rfl,by decide⟩
 ·exact .inr ⟨cg[2],aiJ _,by decide,rfl,by decide⟩
 ·exact .inr ⟨cg[3],aiJ _,by decide,rfl,by decide⟩
 ·exact .inl rfl
 ·exact .inr ⟨cg[4],aiJ _,by decide,rfl,by decide⟩
theorem QJ{j:Nat}{y:Int}{a1 a2 a3 a4:Option D}{c c1:aa}(t:bC [.ref j,.int 6] c=.ok (.int y) c1):(aF 1 (au aZ (dC (.int 2)) (aA 2 bC (ao (ak 0) (ao (dC (.int 6)) aq))))) [ζ (.ref j),a1,a2,a3,a4] c=.ok (.nx [ζ (.ref j),ζ (.int (2+y)),a2,a3,a4]) c1:=by simp[t]
def tO:ah:=(b8 (aT (au bD (ak 1) (dC (.int 6)))) (aP (bV (ao (ak 1) (ao (eU (aY (ao (aA 2 jl (ao (ak 0) (ao (ak 1) aq))) aq)) eW (eV (aA 2 bC (ao (ak 0) (ao (dC (.int 2)) aq))))) aq)))) ck)
theorem QG{N:Int}(h:N≠6) {a0 a2 a3 a4:Option D}{c:aa}:tO [a0,ζ (.int N),a2,a3,a4] c=.ok (.nx [a0,ζ (.int N),a2,a3,a4]) c:=by simp[tO,h]
theorem QE{j:Nat}{T:D}{z:Int}{a2 a3 a4:Option D}{c c1 c2:aa}(t:jl [.ref j,.int 6] c=.ok T c1) (u:bC [.ref j,.int 2] c1=.ok (.int z) c2):tO [ζ (.ref j),ζ (.int 6),a2,a3,a4] c=.ok (.rt (.tup [.int 6,.lst (cutD [T] θ (ζ z))])) c2:=by
 have t1:(1:Nat)<=ι:=by decide
 have t2:(2:Nat)<=ι:=by decide
 simp[tO,t,u,t1,t2,eU,eW,eV,eS]
theorem QI{f:Fd}(h:f∈cg) {N:Int}(hN:N=f.q) (h7:N<=7) {a0 a2 a3 a4:Option D}{c:aa}:(aF 2 (aA 1 uD (ao (ak 1) aq))) [a0,ζ (.int N),a2,a3,a4] c=.ok (.nx [a0,ζ (.int N),ζ (.ref c.length),a3,a4]) (c++[.lst (FS f)]):=by
 simp[Zi h hN h7 c]
theorem QH{a0 a1 a2 a3 a4:Option D}{c:aa}:(aF 3 (eX aq)) [a0,a1,a2,a3,a4] c=.ok (.nx [a0,a1,a2,ζ (.ref c.length),a4]) (c++[.lst []]):=by simp[bA]
theorem GY{j m:Nat}{c:aa}(P:dH j m c) {c':aa}(hl:m<=c'.length) (hp:∃p:Int,c'[j]? = ζ (.lst [.int p])):dH j m (c'.take m):=by
 obtain⟨h1,h2,_⟩:=P;obtain⟨p,hp⟩:=hp;exact⟨by simp;omega,h2,p,by rw[akd,if_pos h2];exact hp⟩
theorem Pn{c:aa}{k n:Nat}{N:Int}{l:List D}(h:c[k]? = ζ (.lst l)) (hk:n<=k):dj c n (.tup [.int N,.ref k])=ζ (.tup [.int N,.lst l]):=by
 simp[dj,gj,h,hk]
theorem Pk{c:aa}{n m:Nat}{N:Int}{ss:List (Nat->Nat->Nat)}:dj c n (.tup [.int N,.lst (aK m ss)])=ζ (.tup [.int N,.lst (aK m ss)]):=by
 simp[dj,gj,GX]
theorem QD{j m:Nat}{c:aa}(P:dH j m c):∃(n:Nat) (ss:List (Nat->Nat->Nat)) (c':aa),Net n ss/\dH j m c'/\nY [.ref j] c=.ok (.tup [.int (n:Int),.lst (aK n ss)]) c':=by
 have hcl:c.length=m:=P.1;obtain⟨y,c1,y0,y1,P1,t1⟩:=mz (cQ:=6) P (by decide) (by decide)
 have hb:nv=aD (aF 1 (au aZ (dC (.int 2)) (aA 2 bC (ao (ak 0) (ao (dC (.int 6)) aq))))) (aD tO (aD (aF 2 (aA 1 uD (ao (ak 1) aq))) (aD (aF 3 (eX aq)) (aD (cz (bh (ao (aA 2 bC (ao (ak 0) (ao (ak 1) aq))) aq)) (aB 4) tP) (aP (bV (ao (ak 1) (ao (ak 3) aq)))))))):=rfl;have es:cD 5 [D.ref j]=[ζ (.ref j),θ,θ,θ,θ]:=rfl;have e0:=QJ (a1:=θ) (a2:=θ) (a3:=θ) (a4:=θ) t1
 rcases RA y0 y1 with h6|⟨f,hf,h7,hN,hn6⟩
 ·obtain⟨s,c2,hL,P2,t2⟩:=LK (n:=6) P1 (by decide) (by decide)
  obtain⟨z,c3,z0,z1,P3,t3⟩:=mz (cQ:=2) P2 (by decide) (by decide)
  rw[h6]at e0;have e1:=QE (a2:=θ) (a3:=θ) (a4:=θ) t2 t3;have hz:∃ss:List (Nat->Nat->Nat),ss.length<=1/\(∀x∈ss,x=s)/\cutD [aG 6 s] θ (ζ z)=aK 6 ss:=by
   have:z=0\/z=1:=by omega
   rcases this with rfl|rfl
   ·exact⟨[],by simp,by simp,rfl⟩
   ·exact⟨[s],by simp,λx hx=>by simpa using hx,rfl⟩
  obtain⟨ss,hl,hs,hc⟩:=hz;rw[hc]at e1;refine⟨6,ss,c3.take c.length,⟨by decide,by decide,by omega,λx hx=>hs x hx▸hL,?_⟩,?_,?_⟩
  ·match ss,hl with
   |[],_=>exact .nil
   |[a],_=>exact List.pairwise_singleton _ _
  ·rw[hcl];exact GY P (by rw[P3.1];exact aij _) P3.2.2
  ·show kO 5 nv [.ref j] c=_;unfold kO;rw[es,hb,bN e0,AH e1,R.aC];dsimp only;unfold ng;rw[Pk];rfl
 ·generalize Dp:2+y=N at e0 hN
  have q2:=(iA hf).q2;have e1:=QG (N:=N) (a0:=ζ (.ref j)) (a2:=θ) (a3:=θ) (a4:=θ) (c:=c1) (by omega)
  have e2:=QI hf hN (by omega) (a0:=ζ (.ref j)) (a2:=θ) (a3:=θ) (a4:=θ) (c:=c1)
  have e3:=QH (a0:=ζ (.ref j)) (a1:=ζ (.int N)) (a2:=ζ (.ref c1.length)) (a3:=θ) (a4:=θ) (c:=c1++[.lst (FS f)]);have l1:c1.length=m:=P1.1;have l2:(c1++[Cell.lst (FS f)]).length=m+1:=by simp[l1]
  rw[l1]at e2 e3;rw[l2]at e3;obtain⟨p,hp⟩:=P1.2.2;have ya:=P1.2.1;have P2:dH j (m+2) (c1++[.lst (FS f)]++[.lst []]):=⟨by simp[l1],by omega,p,by rw[aiZ,ai2 (by omega)];exact hp⟩
  obtain⟨p2,hp2⟩:=P2.2.2;have t2:=take2 (cQ:=N) hp2 (by omega) (by omega)
  have x0:=ajE p2 (show N≠0 by omega)
  have x1:=ajF p2 (show 0<N by omega)
  generalize p2 % N=z at t2 x0 x1
  have H:LF f j m (η (f.q-1)) [] ((c1++[Cell.lst (FS f)]++[Cell.lst []]).set j (.lst [.int (p2/N)])):=by
   refine⟨by simp[l1],ya,⟨_,by rw[ai5 (by simp;omega)]⟩,?_,?_⟩
   ·rw[aiX (by omega),ai2 (by simp;omega),ajd (by omega),l1,ajA]
    rfl
   ·rw[aiX (by omega),ajd (by simp;omega)]
    simp[l1]
  obtain⟨as',bs',v,c5,H5,jS,e4⟩:=Hs (a1:=ζ (.int N)) (bf 0 z) (η (f.q-1)) [] θ _ H (by rw[wC];simp;omega) (by simp;omega)
  have hr:bh (ao (aA 2 bC (ao (ak 0) (ao (ak 1) aq))) aq) [ζ (.ref j),ζ (.int N),ζ (.ref m),ζ (.ref (m+1)),θ] (c1++[.lst (FS f)]++[.lst []])=.ok ⟨bf 0 z,λ_=>True⟩ ((c1++[Cell.lst (FS f)]++[Cell.lst []]).set j (.lst [.int (p2/N)])):=by
   unfold bh;simp only[bz,x_call,bX,gz,gs,bG,R.aC,aiv,aiR,if_pos,t2];rw[if_pos (by omega)]
  have e4':cz (bh (ao (aA 2 bC (ao (ak 0) (ao (ak 1) aq))) aq)) (aB 4) tP [ζ (.ref j),ζ (.int N),ζ (.ref m),ζ (.ref (m+1)),θ] (c1++[.lst (FS f)]++[.lst []])=.ok (.nx [ζ (.ref j),ζ (.int N),ζ (.ref m),ζ (.ref (m+1)),v]) c5:=by
   rw[i6,hr,R.aC];exact e4
  have hnd:(as'++bs').Nodup:=jS.nodup_iff.mp (by simpa using amx)
  have hmem:∀x∈as'++bs',x<f.q-1:=λx hx=>by
   have:=jS.mem_iff.mpr hx
   simpa using this
  have hlen:(as'++bs').length=f.q-1:=by rw[<-jS.length_eq];simp
  rw[ajJ]at hnd;have aa6:=acq hf h7 hnd.2.1 (λx hx=>hmem x (ajb _ hx)) (by rw[<-hlen];simp)
  refine⟨f.q,bs'.map λa=>sF f (1+a),c5.take c.length,aa6,?_,?_⟩
  ·rw[hcl];exact GY P (by rw[H5.len];omega) H5.Tt
  ·have Qa:(2:Nat)<=ι:=by decide
   have e5:aP (bV (ao (ak 1) (ao (ak 3) aq))) [ζ (.ref j),ζ (.int N),ζ (.ref m),ζ (.ref (m+1)),v] c5=.ok (.rt (.tup [.int N,.ref (m+1)])) c5:=by simp[Qa]
   show kO 5 nv [.ref j] c=_;unfold kO;rw[es,hb,bN e0,bN e1,bN e2,bN e3,bN e4',e5,R.aC];dsimp only;unfold ng;rw[Pn H5.fnd (by omega),<-hN]
   unfold aK;rw[aiG];rfl
theorem Nd{α:Type}(l:List α) (c:aa):fh [.lst (l.map λ_=>D.bl Θ)] c=.ok (.bl Θ) c:=by
 have:jC (l.map λ_=>D.bl Θ)=ζ (l.map λ_=>Θ):=by
  have:=MY (l.map λ_=>Θ)
  rw[aiG]at this;exact this
 unfold fh wJ;simp only[this,all_true]
theorem Net.two_at{n:Nat}{ss:List (Nat->Nat->Nat)}(N:Net n ss) {i k:Nat}(hk:k<i) (hi:i<ss.length):l6 n ss[i] (ss[k]'(by omega)):=l6.symm (ajU.mp N.acr k i (by omega) hi hk)
def FZ:af:=(aE fh (ao (aW (c9 (eU (ak 0) eW (eV (ak 1)))) [θ,ζ 2] (aB 0) aO (aA 2 kD (ao (ak 1) (ao (ak 0) aq)))) aq))
def k7:ah:=(b8 (dQ (aT FZ)) (aP (dC (.bl Ψ))) ck)
theorem agl{n:Nat}{ss:List (Nat->Nat->Nat)}(N:Net n ss) {i:Nat}(hi:i<ss.length) {I:Int}(hI:I=i) (c:aa):k7 [ζ (.lst (aK n ss)),ζ (.int I),ζ (aG n ss[i])] c=.ok (.nx [ζ (.lst (aK n ss)),ζ (.int I),ζ (aG n ss[i])]) c:=by
 have sz:=ja;have n2:=N.two;have n7:=N.nN;have hf:=N.few;have oz:cutD (aK n ss) θ (ζ I)=(ss.take i).map (aG n):=by
  rw[zx hI (by simp[aK];omega)]
  unfold aK;rw[ajO]
 have hs:c9 (eU (ak 0) eW (eV (ak 1))) [ζ (.lst (aK n ss)),ζ (.int I),ζ (aG n ss[i])] c=.ok ⟨(ss.take i).map (aG n),λ_=>True⟩ c:=by
  rw[<-oz];rfl
 have hc:=mV (E:=[ζ (aG n ss[i])]) (a:=aA 2 kD (ao (ak 1) (ao (ak 0) aq))) (c:=c) (aG n) (λ_=>D.bl Θ) (ss.take i) θ [] (λs hs=>by
  obtain⟨k,hk,rfl⟩:=ajK hs;have hk':k<i:=by simp at hk;omega
  rw[akG];exact oW (m:=kD) (d1:=ak 1) (d2:=ak 0) rfl rfl (Zg (by omega) n7 (ags (by omega) n7 (N.lat _ (aiJ _)) (N.lat _ (aiJ _)) (N.two_at hk' hi)) c))
 rw[aiM]at hc;have ha:FZ [ζ (.lst (aK n ss)),ζ (.int I),ζ (aG n ss[i])] c=.ok (.bl Θ) c:=by
  refine gU (x:=.lst ((ss.take i).map λ_=>D.bl Θ)) ?_ (Nd _ c)
  rw[dX,hs,R.aC];dsimp only;rw[if_pos (by simp;omega),show cV [θ,ζ 2] [ζ (.lst (aK n ss)),ζ (.int I),ζ (aG n ss[i])]=[θ,ζ (aG n ss[i])]from rfl,hc,R.aC]
 unfold k7;rw[gO,sU,j8,ha];rfl
theorem afx{n:Nat}{ss:List (Nat->Nat->Nat)}(N:Net n ss) (c:aa):mU [.lst (aK n ss)] c=.ok (.bl Θ) c:=by
 have hb:k6=aD (cz (oN (ao (ak 0) aq)) (gH 2 (dF (aB 1) (dF (aB 2) gS))) k7) (aP (dC (.bl Θ))):=rfl;obtain⟨e',c',⟨hc,w1,w2,rfl⟩,hf⟩:=DA (g:=gH 2 (dF (aB 1) (dF (aB 2) gS))) (s:=k7) (λe c'=>c'=c/\∃w1 w2,e=[ζ (.lst (aK n ss)),w1,w2]) ((aK n ss).mapIdx λi x=>.tup [.int i,x]) [ζ (.lst (aK n ss)),θ,θ] c ⟨rfl,_,_,rfl⟩ (λx hx e c' ⟨hc,w1,w2,he⟩=>by
  subst he hc;obtain⟨i,hi,rfl⟩:=alL.mp hx;have hi':i<ss.length:=by simpa[aK]using hi
  have hg:(aK n ss)[i]=aG n ss[i]:=by simp[aK]
  refine⟨[ζ (.lst (aK n ss)),ζ (.int (i:Int)),ζ (aG n ss[i])],[ζ (.lst (aK n ss)),ζ (.int (i:Int)),ζ (aG n ss[i])],c',c',?_,agl N hi' rfl c',rfl,_,_,rfl⟩;rw[hg];rfl)
 subst hc;refine jb (n:=3) (b:=k6) ?_ rfl (λk h=>by cases h)
 have hs:oN (ao (ak 0) aq) [ζ (.lst (aK n ss)),θ,θ] c'=.ok ⟨(aK n ss).mapIdx λi x=>.tup [.int i,x],λ_=>True⟩ c':=rfl
 have e1:cz (oN (ao (ak 0) aq)) (gH 2 (dF (aB 1) (dF (aB 2) gS))) k7 [ζ (.lst (aK n ss)),θ,θ] c'=.ok (.nx [ζ (.lst (aK n ss)),w1,w2]) c':=by
  rw[i6,hs,R.aC];exact hf
 rw[hb,show cD 3 [D.lst (aK n ss)]=[ζ (.lst (aK n ss)),θ,θ]from rfl,bN e1]
 rfl
def oq:ai:=(fO (dQ (aT (aA 3 d7 (ao (ak 0) (ao (dC (.int 2)) (ao (dC (.int 7)) aq)))))) (fO (dQ (aT (aE bO (ao (ak 1) (ao (dC (.ty "list")) aq))))) (aT (au oF (aE aU (ao (ak 1) aq)) (au bq (ak 0) (dC (.int 1)))))))
def qY:af:=(aE fh (ao (aW (c9 (ak 1)) [θ,ζ 0] (aB 0) aO (gf (aA 1 iS (ao (ak 0) aq)) (au bD (aE aU (ao (ak 0) aq)) (ak 1)))) aq))
theorem Am{N:Int}(h2:2<=N) (h7:N<=7) (c:aa):d7 [.int N,.int 2,.int 7] c=.ok (.bl Θ) c:=by
 simp[d7,gW,jm,iD,h2,h7]
theorem JU(n:Nat) (ss:List (Nat->Nat->Nat)) (c:aa):aU [.lst (aK n ss)] c=.ok (.int (ss.length:Int)) c:=by
 unfold aU;simp[fW,aK]
theorem aat{n:Nat}{ss:List (Nat->Nat->Nat)}(H:Net n ss) {N:Int}(hN:N=n) (c:aa):oi [.int N,.lst (aK n ss)] c=.ok (.bl Θ) c:=by
 have sz:=ja;have n2:=H.two;have n7:=H.nN;have hf:=H.few;have hw:=Am (N:=N) (by omega) (by omega) c
 have hl:=JU n ss c;have hgt:¬N-1<(ss.length:Int):=by omega
 have hnl:(aK n ss).length=ss.length:=by simp[aK]
 have e0:oq [ζ (.int N),ζ (.lst (aK n ss))] c=.ok Ψ c:=by
  simp[oq,hw,hl,hgt];omega
 have ha:qY [ζ (.int N),ζ (.lst (aK n ss))] c=.ok (.bl Θ) c:=by
  refine gU (x:=.lst (ss.map λ_=>D.bl Θ)) ?_ (Nd _ c)
  have hc:=mV (E:=[ζ (.int N)]) (a:=gf (aA 1 iS (ao (ak 0) aq)) (au bD (aE aU (ao (ak 0) aq)) (ak 1))) (c:=c) (aG n) (λ_=>D.bl Θ) ss θ [] (λs hs=>by
   have h1:=Hi (H.lat s hs) (by omega) n7 c
   have h2:=oj n s c;rw[<-hN]at h2;simp[h1,h2])
  rw[aiM]at hc;have hs:c9 (ak 1) [ζ (.int N),ζ (.lst (aK n ss))] c=.ok ⟨ss.map (aG n),λ_=>True⟩ c:=rfl
  rw[dX,hs,R.aC];dsimp only;rw[if_pos (by simp;omega),show cV [θ,ζ 0] [ζ (.int N),ζ (.lst (aK n ss))]=[θ,ζ (.int N)]from rfl,hc,R.aC]
 have hr:=afx H c;have hb:iE=aD (b8 oq (aP (dC (.bl Ψ))) ck) (aP (gf qY (aA 1 mU (ao (ak 1) aq)))):=rfl;have e1:b8 oq (aP (dC (.bl Ψ))) ck [ζ (.int N),ζ (.lst (aK n ss))] c=.ok (.nx [ζ (.int N),ζ (.lst (aK n ss))]) c:=by
  rw[gO,e0];rfl
 refine jb (n:=2) (b:=iE) ?_ rfl (λk h=>by cases h)
 rw[hb,show cD 2 [D.int N,.lst (aK n ss)]=[ζ (.int N),ζ (.lst (aK n ss))]from rfl,bN e1]
 refine nQ ?_;rw[pI,ha,R.aC];dsimp only;rw[if_pos rfl];exact rO (m:=mU) (d1:=ak 1) rfl hr
theorem Sd{n:Nat}{ss:List (Nat->Nat->Nat)}(H:Net n ss) {N:Int}(hN:N=n) (c:aa):kC [.int N,.lst (aK n ss)] c=.ok .aM c:=by
 simp[kC,oZ,aat H hN c]
def AR(n:Nat) (s t:Nat->Nat->Nat) (i:Nat):List (Nat×Nat):=(η n).map λk=>(s i k,t i k)
def nA(n:Nat) (s t:Nat->Nat->Nat) (i:Nat):List (Nat×Nat):=(η i).flatMap (AR n s t)
theorem agj(n:Nat) (s t:Nat->Nat->Nat) (i:Nat):nA n s t (i+1)=nA n s t i++AR n s t i:=by
 unfold nA;rw[ajB,alI,List.flatMap_singleton]
theorem jo(x y:Str) (b:Bool) (c:aa) (h:(decide (x∈dR/\y∈dR)&&((x==y)==b))=Θ):fM dR [.exc x,.fn y 0] c=.ok (.bl b) c:=by
 simp only[aiy,decide_eq_true_eq,beq_iff_eq]at h;unfold fM;simp only;rw[if_pos h.1,h.2]
theorem aar(x:Str) (c:aa) (h:decide (x∈dR)=Θ):fM dR [.exc x,.ty "ValueError"] c=.ok (.bl Θ) c:=by
 unfold fM;simp only;rw[if_pos ⟨by simpa using h,by trivial⟩]
theorem Cj(c:aa):xU [.exc "NoSquare"] c=.ok (.str "square") c:=by
 have t8:(8:Nat)<=ι:=by decide
 have Qd:(11:Nat)<=ι:=by decide
 have abv:=λc=>jo "NoSquare" "NoWeb" Ψ c (by decide +kernel)
 have abx:=λc=>jo "NoSquare" "NoText" Ψ c (by decide +kernel)
 have abB:=λc=>jo "NoSquare" "NoNumbers" Ψ c (by decide +kernel)
 have abD:=λc=>jo "NoSquare" "NoField" Ψ c (by decide +kernel)
 have abw:=λc=>jo "NoSquare" "NoThing" Ψ c (by decide +kernel)
 have aby:=λc=>jo "NoSquare" "NoSquare" Θ c (by decide +kernel)
 have abA:=λc=>jo "NoSquare" "NoPlaces" Ψ c (by decide +kernel)
 have abu:=λc=>jo "NoSquare" "TooMany" Ψ c (by decide +kernel)
 have abC:=λc=>jo "NoSquare" "NoName" Ψ c (by decide +kernel)
 have abE:=λc=>jo "NoSquare" "NoDeed" Ψ c (by decide +kernel)
 have abz:=λc=>jo "NoSquare" "NoRow" Ψ c (by decide +kernel)
 have abt:=λc=>aar "NoSquare" c (by decide +kernel)
 have hf:List.findIdx? id [Ψ,Ψ,Ψ,Ψ,Ψ,Θ,Ψ,Ψ,Ψ,Ψ,Ψ]=ζ 5:=by decide
 have ha:cF [D.str "web",.str "text",.str "numbers",.str "field",.str "thing",.str "square",.str "places",.str "many",.str "name",.str "deed",.str "row"] 5=ζ (.str "square"):=rfl;simp[xU,sy,abv,abx,abB,abD,abw,aby,abA,abu,abC,abE,abz,abt,EN,EM,b9,eS,jC,t8,Qd,hf,ha]
theorem DB:∀(l r:List (List Int)),r.Nodup->(l.foldl eL r).length<=r.length+l.length/\((l.foldl eL r).length=r.length+l.length↔(r++l).Nodup)
 |[],r,h=>⟨by simp,by simp[h]⟩
 |k::l,r,h=>by
  by_cases hk:k∈r
  ·have hs:eL r k=r:=by unfold eL;rw[if_pos hk]
   rw[ajn,hs];obtain⟨h1,_⟩:=DB l r h;refine⟨by simp;omega,⟨λe=>?_,λz=>?_⟩⟩
   ·simp only[aiv]at e;omega
   ·rw[ajJ]at z;exact absurd rfl (z.2.2 k hk k (.head _))
  ·have hs:eL r k=r++[k]:=by unfold eL;rw[if_neg hk]
   rw[ajn,hs];have h2:(r++[k]).Nodup:=by
    rw[ajJ];refine⟨h,by simp,λa ha b hb e=>?_⟩
    rw[aiV]at hb;subst hb;subst e;exact hk ha
   obtain⟨h1,i1⟩:=DB l (r++[k]) h2;rw[ai3,aiZ]at *;refine⟨by simp at h1 ⊢;omega,?_⟩
   simp only[aiv,aiR]at i1 ⊢;rw[show r.length+(l.length+1)=r.length+(0+1)+l.length by omega]
   exact i1
theorem Nh(n:Nat) (h1:1<=n) (s t:Nat->Nat->Nat):∀k,(η (k*n)).map (λi=>(s (i/n) (i % n),t (i/n) (i % n)))=nA n s t k
 |0=>by simp[nA]
 |k+1=>by
  rw[agj,<-Nh n h1 s t k,ajo,List.range_add,ajs,aiG]
  congr 1
  unfold AR;refine ajl λj hj=>?_
  have hj:=ain.mp hj;have e1:(k*n+j)/n=k:=by rw[aka,amK (by omega),akY hj];omega
  have e2:(k*n+j) % n=j:=by rw[aka,amL,akZ hj]
  show(s ((k*n+j)/n) ((k*n+j) % n),_)=_;rw[e1,e2]
theorem Je{n:Nat}(h1:1<=n) (s t:Nat->Nat->Nat):((η (n*n)).map (eY n s t)).Nodup↔(nA n s t n).Nodup:=by
 rw[<-Nh n h1 s t n];unfold υ;rw[ajC,ajC]
 constructor
 ·refine λh=>h.imp fun{i j} hne e=>hne ?_
  unfold eY
  injection e with e1 e2
  rw[e1,e2]
 ·refine λh=>h.imp fun{i j} hne e=>hne ?_
  unfold eY at e
  injection e with e1 e2
  injection e2 with e2 _
  have e1:s (i/n) (i % n)=s (j/n) (j % n):=by omega
  have e2:t (i/n) (i % n)=t (j/n) (j % n):=by omega
  rw[e1,e2]
theorem HX{n:Nat}{s s':Nat->Nat->Nat}(a:∀x y,x<n->y<n->s x y<8) (b:∀x y,x<n->y<n->s' x y<8):∀l:List Nat,(∀i∈l,i<n*n)->ko (l.map (mL n s s'))=ζ (l.map (eY n s s'))
 |[],_=>rfl
 |i::l,h=>by
  have hi:=h i (.head _);have h0:0<n:=by rcases alg n with e|e;(subst e;simp at hi);exact e
  have a1:=a (i/n) (i % n) (ajP hi) (ajg _ h0);have a2:=b (i/n) (i % n) (ajP hi) (ajg _ h0);have hp:nR (mL n s s' i)=ζ (eY n s s' i):=by
   unfold nR mL eY;dsimp only;rw[if_pos (by omega)]
  rw[ais,ais];unfold ko;rw[hp,HX a b l λj hj=>h j (.tail _ hj)]
theorem eq_int(x y:Int) (c:aa):bD (.int x) (.int y) c=.ok (.bl (decide (x=y))) c:=by simp
def fB(n:Nat) (s s':Nat->Nat->Nat):Bool:=decide (nA n s s' n).Nodup
theorem Zh{n:Nat}{s s':Nat->Nat->Nat}(h1:1<=n) (h7:n<=7) (L:cR n s) (L':cR n s') (c:aa):kD [aG n s,aG n s'] c=.ok (.bl (fB n s s')) c:=by
 have hnn:n*n<=49:=Nat.mul_le_mul h7 h7;refine jb (n:=3) (b:=kX) ?_ rfl (λk h=>by cases h)
 obtain⟨Q,hQ⟩:∃Q:Int,Q=((n*n:Nat):Int):=⟨_,rfl⟩;have hml:bg (.int (n:Int)) (.int (n:Int)) c=.ok (.int Q) c:=by
  rw[hQ];exact JI (m:=(n:Int)) (by omega) (by omega) (by simp) c
 have e0:aF 2 (au bg (aE aU (ao (ak 0) aq)) (aE aU (ao (ak 0) aq))) [ζ (aG n s),ζ (aG n s'),θ] c=.ok (.nx [ζ (aG n s),ζ (aG n s'),ζ (.int Q)]) c:=pM (i:=2) (fy (f:=bg) (gU (d1:=ak 0) rfl (oj n s c)) (gU (d1:=ak 0) rfl (oj n s c)) hml);have t2:(2:Nat)<=ι:=by decide
 have hc:=uI (d:=ak 2) (a:=bV (ao (aA 2 e7 (ao (ak 1) (ao (ak 0) aq))) (ao (aA 2 e7 (ao (ak 2) (ao (ak 0) aq))) aq))) (pick:=[θ,ζ 0,ζ 1]) (e:=[ζ (aG n s),ζ (aG n s'),ζ (.int Q)]) (E:=[ζ (aG n s),ζ (aG n s')]) (c:=c) (N:=Q) (n:=n*n) (mL n s s') rfl hQ (by omega) rfl (λi hi=>by
  have g1:=oW (m:=e7) (d1:=ak 1) (d2:=ak 0) (e:=[ζ (.int (i:Int)),ζ (aG n s),ζ (aG n s')]) rfl rfl (wk s h1 h7 hi rfl c);have g2:=oW (m:=e7) (d1:=ak 2) (d2:=ak 0) (e:=[ζ (.int (i:Int)),ζ (aG n s),ζ (aG n s')]) rfl rfl (wk s' h1 h7 hi rfl c);simp only[Aj,bz,g1,g2,bG,R.aC];rw[if_pos (by exact t2)]
  rfl)
 have hp:=HX (s:=s) (s':=s') (λx y hx hy=>by have:=L.lt hx hy;omega) (λx y hx hy=>by have:=L'.lt hx hy;omega) (η (n*n)) λi hi=>ain.mp hi
 obtain⟨f1,f2⟩:=DB ((η (n*n)).map (eY n s s')) [] List.nodup_nil;rw[aiu,ai8,aiR,aiW]at f1 f2;rw[aiM,Je h1]at f2;have hs:kR (ao (aW (bh (ao (ak 2) aq)) [θ,ζ 0,ζ 1] (aB 0) aO (bV (ao (aA 2 e7 (ao (ak 1) (ao (ak 0) aq))) (ao (aA 2 e7 (ao (ak 2) (ao (ak 0) aq))) aq)))) aq) [ζ (aG n s),ζ (aG n s'),ζ (.int Q)] c=.ok (.int ((cP ((η (n*n)).map (eY n s s'))).length:Nat)) c:=by
  unfold kR;simp only[bz,hc,bG,R.aC,eS,hp];rw[if_pos (show(cP ((η (n*n)).map (eY n s s'))).length<64 from akb f1 (by omega))]
 have hb:kX=aD (aF 2 (au bg (aE aU (ao (ak 0) aq)) (aE aU (ao (ak 0) aq)))) (aP (au bD (kR (ao (aW (bh (ao (ak 2) aq)) [θ,ζ 0,ζ 1] (aB 0) aO (bV (ao (aA 2 e7 (ao (ak 1) (ao (ak 0) aq))) (ao (aA 2 e7 (ao (ak 2) (ao (ak 0) aq))) aq)))) aq)) (ak 2))):=rfl;rw[show cD 3 [aG n s,aG n s']=[ζ (aG n s),ζ (aG n s'),θ]from rfl,hb,bN e0]
 have yb:bD (.int ((cP ((η (n*n)).map (eY n s s'))).length:Nat)) (.int Q) c=.ok (.bl (fB n s s')) c:=by
  have f3:(cP ((η (n*n)).map (eY n s s'))).length=n*n↔(nA n s s' n).Nodup:=f2
  generalize (cP ((η (n*n)).map (eY n s s'))).length=m at f3
  have hd:decide (((m:Nat):Int)=Q)=fB n s s':=by
   unfold fB;rw[decide_eq_decide,<-f3,hQ]
   generalize n*n=k
   omega
  rw[eq_int,hd]
 exact nQ (fy (f:=bD) hs (d2:=ak 2) (y:=.int Q) rfl yb)
theorem C6:("NoSquare":Str)∈dR:=by decide +kernel
theorem LV:∀l:List Nat,dP (nD l)=ζ (l.map λn:Nat=>PyData.int (n:Int))
 |[]=>rfl
 |n::ns=>by
  show(match cZ (.int (n:Int)),dP (nD ns)with|some a,ζ r=>ζ (a::r)|_,_=>θ)=_
  rw[LV ns];rfl
theorem xS{x y:Int}(h1:-1000<x) (h2:x<1000) (c:aa):bg (.int x) (.int y) c=.ok (.int (x*y)) c:=by
 unfold bg;dsimp only;rw[if_pos (by omega)]
def uv(N G:Int):D:=if G=N+1 then .aM else .int (G*(G-1))
def qO(N G:Int):D:=.tup [.int (N*N),.int (G*(N-1)),.int (N-2+(G-1)*(G-2)),uv N G]
theorem XO(N G:Int):noRef (qO N G)=Θ:=by
 unfold qO uv;split<;>rfl
theorem XI{n:Nat}{ss:List (Nat->Nat->Nat)}(H:Net n ss) {N G:Int}(hN:N=n) (hG:G=ss.length+2) (c:aa):uC [.int N,.lst (aK n ss)] c=.ok (qO N G) c:=by
 have n2:=H.two;have n7:=H.nN;have hf:=H.few;have t4:(4:Nat)<=ι:=by decide
 have hr:=Sd H hN c;have hl:=JU n ss c;have e0:dY (aA 2 kC (ao (ak 0) (ao (ak 1) aq))) [ζ (.int N),ζ (.lst (aK n ss)),θ,θ] c=.ok (.nx [ζ (.int N),ζ (.lst (aK n ss)),θ,θ]) c:=by
  rw[mj,oW (m:=kC) (d1:=ak 0) (d2:=ak 1) rfl rfl hr];rfl
 have e1:aF 2 (au aZ (aE aU (ao (ak 1) aq)) (dC (.int 2))) [ζ (.int N),ζ (.lst (aK n ss)),θ,θ] c=.ok (.nx [ζ (.int N),ζ (.lst (aK n ss)),ζ (.int G),θ]) c :=
  pM (i:=2) (fy (f:=aZ) (d2:=dC (.int 2)) (gU (d1:=ak 1) rfl hl) rfl (by rw[mq,hG]))
 have m1:bg (.int G) (.int (G-1)) c=.ok (.int (G*(G-1))) c:=xS (by omega) (by omega) c
 have m2:bg (.int N) (.int N) c=.ok (.int (N*N)) c:=xS (by omega) (by omega) c
 have m3:bg (.int G) (.int (N-1)) c=.ok (.int (G*(N-1))) c:=xS (by omega) (by omega) c
 have m4:bg (.int (G-1)) (.int (G-2)) c=.ok (.int ((G-1)*(G-2))) c:=xS (by omega) (by omega) c
 have e2:aF 3 (vc (aT (au bD (ak 2) (au aZ (ak 0) (dC (.int 1))))) (dC .aM) (au bg (ak 2) (au bq (ak 2) (dC (.int 1))))) [ζ (.int N),ζ (.lst (aK n ss)),ζ (.int G),θ] c=.ok (.nx [ζ (.int N),ζ (.lst (aK n ss)),ζ (.int G),ζ (uv N G)]) c:=by
  unfold uv
  by_cases h:G=N+1
  ·simp[h]
  ·simp[h,m1]
 have e3:aP (bV (ao (au bg (ak 0) (ak 0)) (ao (au bg (ak 2) (au bq (ak 0) (dC (.int 1)))) (ao (au aZ (au bq (ak 0) (dC (.int 2))) (au bg (au bq (ak 2) (dC (.int 1))) (au bq (ak 2) (dC (.int 2))))) (ao (ak 3) aq))))) [ζ (.int N),ζ (.lst (aK n ss)),ζ (.int G),ζ (uv N G)] c=.ok (.rt (qO N G)) c:=by
  simp[m2,m3,m4,t4,qO]
 refine jb (n:=4) (b:=nu) ?_ (XO N G) (λk h=>by unfold qO at h;cases h)
 have hb:nu=aD (dY (aA 2 kC (ao (ak 0) (ao (ak 1) aq)))) (aD (aF 2 (au aZ (aE aU (ao (ak 1) aq)) (dC (.int 2)))) (aD (aF 3 (vc (aT (au bD (ak 2) (au aZ (ak 0) (dC (.int 1))))) (dC .aM) (au bg (ak 2) (au bq (ak 2) (dC (.int 1)))))) (aP (bV (ao (au bg (ak 0) (ak 0)) (ao (au bg (ak 2) (au bq (ak 0) (dC (.int 1)))) (ao (au aZ (au bq (ak 0) (dC (.int 2))) (au bg (au bq (ak 2) (dC (.int 1))) (au bq (ak 2) (dC (.int 2))))) (ao (ak 3) aq)))))))):=rfl;rw[hb,show cD 4 [D.int N,.lst (aK n ss)]=[ζ (.int N),ζ (.lst (aK n ss)),θ,θ]from rfl,bN e0,bN e1,bN e2,e3]
theorem Er{l:List abb}{n:Nat}(h:∀p∈l,p.depth<=n):PyData.depthAll l<=n:=by
 induction l with
 |nil=>simp[PyData.depthAll]
 |cons p l ih =>
  have h1:=h p (.head _);have h2:=ih (λq hq=>h q (.tail _ hq))
  simp only[PyData.depthAll];omega
def oJ(l:List Nat):abb:=.tuple (l.map λn:Nat=>PyData.int (n:Int))
theorem adA(l:List Nat):(oJ l).depth<=1:=by
 unfold oJ;have:=Er (l:=l.map λn:Nat=>PyData.int (n:Int)) (n:=0) (λp hp=>by
  obtain⟨k,_,rfl⟩:=aik.mp hp;simp[PyData.depth])
 simp only[PyData.depth];omega
theorem LS:∀ls:List (List Nat),dP (ls.map λl=>D.tup (nD l))=ζ (ls.map oJ)
 |[]=>rfl
 |l::ls=>by
  show(match cZ (.tup (nD l)),dP (ls.map λl=>D.tup (nD l))with|some a,ζ r=>ζ (a::r)|_,_=>θ)=_
  rw[LS ls];have:cZ (.tup (nD l))=ζ (oJ l):=by
   show(match dP (nD l)with|some r=>ζ (PyData.tuple r)|none=>θ)=_
   rw[LV];rfl
  rw[this];rfl
theorem adz(n:Nat) (t:Nat->Nat->Nat) (c:aa):gx c (aG n t)=ζ (.tuple (((η n).map λi=>(η n).map (t i)).map oJ)):=by
 show(match dP ((η n).map λi=>D.tup (nD ((η n).map (t i))))with|some r=>ζ (PyData.tuple r)|none=>θ)=_
 have:=LS ((η n).map λi=>(η n).map (t i))
 rw[aiG]at this;rw[show((η n).map λi=>D.tup (nD ((η n).map (t i))))=(η n).map ((λl=>D.tup (nD l)) ∘ λi=>(η n).map (t i))from rfl,this]
def oH(n:Nat) (s:Nat->Nat->Nat):abb:=.tuple (((η n).map λi=>(η n).map (s i)).map oJ)
theorem acV(n:Nat) (t:Nat->Nat->Nat):(oH n t).depth<=2:=by
 have:=Er (l:=((η n).map λi=>(η n).map (t i)).map oJ) (n:=1) (λp hp=>by
  obtain⟨l,_,rfl⟩:=aik.mp hp;exact adA l)
 unfold oH;simp only[PyData.depth];omega
theorem LU(n:Nat):∀ss:List (Nat->Nat->Nat),dP (aK n ss)=ζ (ss.map (oH n))
 |[]=>rfl
 |s::ss=>by
  show(match cZ (aG n s),dP (aK n ss)with|some a,ζ r=>ζ (a::r)|_,_=>θ)=_
  have h:cZ (aG n s)=ζ (oH n s):=adz n s [];rw[h,LU n ss];rfl
def l8(lo hi:Int) (X:D):Prop:=∀c,d7 [X,.int lo,.int hi] c=.ok (.bl Ψ) c
theorem iW{lo hi i:Int}(h:¬(lo<=i/\i<=hi)):l8 lo hi (.int i):=λc=>by
 by_cases q:lo<=i
 ·have r:¬i<=hi:=λr=>h ⟨q,r⟩
  simp[d7,gW,jm,iD,q,r]
 ·simp[d7,gW,jm,iD,q]
theorem M8{lo hi:Int}:l8 lo hi (.bl Θ):=λc=>by simp[d7,gW,jm,iD]
theorem M7{lo hi:Int}:l8 lo hi .aM:=λc=>by simp[d7,gW,jm,iD]
theorem M6{lo hi:Int}(z:Str):l8 lo hi (.str z):=λc=>by simp[d7,gW,jm,iD]
theorem M5{lo hi:Int}(l:List D):l8 lo hi (.tup l):=λc=>by
 have tu:bO [.tup l,.ty "int"] c=.ok (.bl Ψ) c:=rfl;simp[d7,gW,jm,iD,tu]
def nE(X Y:D):Prop:=∀c,oi [X,Y] c=.ok (.bl Ψ) c
theorem Bc{X Y:D}(h:l8 2 7 X):nE X Y:=λc=>by simp[oi,iE,h c]
section
variable {N:Int}(h2:2<=N) (h7:N<=7)
include h2 h7
theorem Ba{Y:D}(hY:∀c,bO [Y,.ty "list"] c=.ok (.bl Ψ) c):nE (.int N) Y:=λc=>by simp[oi,iE,Am h2 h7 c,hY c]
theorem C7{l:List D}(c:aa):oq [ζ (.int N),ζ (.lst l)] c=.ok (decide (N-1<(l.length:Int))) c:=by
 have hl:aU [.lst l] c=.ok (.int (l.length:Int)) c:=rfl;have hi:bO [.lst l,.ty "list"] c=.ok (.bl Θ) c:=rfl;unfold oq;rw[Gx,sU,j8,ae8 (m:=d7) (d1:=ak 0) (d2:=dC (.int 2)) (d3:=dC (.int 7)) rfl rfl rfl (Am h2 h7 c)];rw[R.aC];dsimp only;rw[R.aC,R.aC];rw[if_neg (by decide),Gx,sU,j8,show aE bO (ao (ak 1) (ao (dC (.ty "list")) aq)) [ζ (.int N),ζ (.lst l)] c=.ok (.bl Θ) c from hi,R.aC]
 dsimp only;rw[R.aC,R.aC];rw[if_neg (by decide),j8,fy (f:=oF) (d1:=aE aU (ao (ak 1) aq)) (d2:=au bq (ak 0) (dC (.int 1))) (x:=.int (l.length:Int)) (y:=.int (N-1)) (r:=.ok (.bl (decide (N-1<(l.length:Int)))) c) (gU (d1:=ak 1) rfl hl) rfl rfl,R.aC]
theorem C2:iE=aD (b8 oq (aP (dC (.bl Ψ))) ck) (aP (gf qY (aA 1 mU (ao (ak 1) aq)))):=rfl
theorem Jk{l:List D}(hl:N-1<(l.length:Int)):nE (.int N) (.lst l):=λc=>by
 refine jb (n:=2) (b:=iE) ?_ rfl (λk h=>by cases h)
 rw[C2 h2 h7,show cD 2 [D.int N,.lst l]=[ζ (.int N),ζ (.lst l)]from rfl,g9,gO,C7 h2 h7 c,decide_eq_true hl]
 rfl
def kJ:af:=gf (aA 1 iS (ao (ak 0) aq)) (au bD (aE aU (ao (ak 0) aq)) (ak 1))
theorem Ks{l:List D}(hl:l.length<=100) (g:D->Bool) (c:aa) (hg:∀d∈l,kJ [ζ d,ζ (.int N)] c=.ok (.bl (g d)) c):qY [ζ (.int N),ζ (.lst l)] c=.ok (.bl (l.all g)) c:=by
 have sz:=ja;have hm:(l.map λd=>D.bl (g d))=(l.map g).map D.bl:=by rw[aiG];rfl
 have ha:=vt (l.map g) c;rw[List.all_map]at ha;refine gU (x:=.lst ((l.map g).map D.bl)) ?_ ha;have hc:=mV (E:=[ζ (.int N)]) (a:=kJ) (c:=c) id (λd=>D.bl (g d)) l θ [] (λd hd=>hg d hd)
 rw[aiM,ako]at hc;show(aW (c9 (ak 1)) [θ,ζ 0] (aB 0) aO kJ) [ζ (.int N),ζ (.lst l)] c=_;have hs:c9 (ak 1) [ζ (.int N),ζ (.lst l)] c=.ok ⟨l,λ_=>True⟩ c:=rfl
 rw[dX,hs,R.aC];dsimp only;rw[if_pos (by omega),show cV [θ,ζ 0] [ζ (.int N),ζ (.lst l)]=[θ,ζ (.int N)]from rfl,hc,R.aC,hm]
theorem X0{l:List D}(hl:l.length<=100) (g:D->Bool) (hg:∀c,∀d∈l,kJ [ζ d,ζ (.int N)] c=.ok (.bl (g d)) c) (hb:∃d∈l,g d=Ψ):nE (.int N) (.lst l):=λc=>by
 by_cases q:N-1<(l.length:Int)
 ·exact Jk h2 h7 q c
 have ha:=Ks h2 h7 hl g c (hg c);have hf:l.all g=Ψ:=by
  obtain⟨d,hd,e⟩:=hb;exact amM.mpr ⟨d,hd,by simp[e]⟩
 rw[hf]at ha;refine jb (n:=2) (b:=iE) ?_ rfl (λk h=>by cases h)
 rw[C2 h2 h7,show cD 2 [D.int N,.lst l]=[ζ (.int N),ζ (.lst l)]from rfl,g9,gO,C7 h2 h7 c,decide_eq_false q]
 show aP (gf qY _) _ c=_;refine nQ ?_;rw[pI,ha];rfl
end
theorem C1{n m:Nat}{s:Nat->Nat->Nat}(L:cR m s) (h1:1<=m) (h7:m<=7) {N:Int}(hN:N=n) (c:aa):kJ [ζ (aG m s),ζ (.int N)] c=.ok (.bl (decide (m=n))) c:=by
 have e1:=Hi L h1 h7 c;have e2:=oj m s c;have e3:decide ((m:Int)=N)=decide (m=n):=by
  subst hN;rw[decide_eq_decide];omega
 unfold kJ;rw[pI,rO (m:=iS) (d1:=ak 0) rfl e1,R.aC];dsimp only;rw[if_pos rfl,fy (f:=bD) (gU (d1:=ak 0) rfl e2) (d2:=ak 1) (y:=.int N) rfl (eq_int _ _ c),e3]
theorem Kg{d:D}(h:∀c,bO [d,.ty "tuple"] c=.ok (.bl Ψ) c) (N:Int) (c:aa):kJ [ζ d,ζ (.int N)] c=.ok (.bl Ψ) c:=by
 have e1:iS [d] c=.ok (.bl Ψ) c:=by simp[iS,pD,h c]
 unfold kJ;rw[pI,rO (m:=iS) (d1:=ak 0) rfl e1];rfl
def gN(n:Nat) (d0:D) (d:D):Bool:=@decide (d≠d0) (Classical.propDecidable _)
theorem Bb{n:Nat}{ss:List (Nat->Nat->Nat)}(H:Net n ss) {N:Int}(hN:N=n) {d0:D}(h0:∀c,kJ [ζ d0,ζ (.int N)] c=.ok (.bl Ψ) c) {l:List D}(hl:∀d,d∈l↔d=d0\/d∈aK n ss) (hlen:l.length<=100):nE (.int N) (.lst l):=by
 have n2:=H.two;have n7:=H.nN;refine X0 (by omega) (by omega) hlen (gN n d0) (λc d hd=>?_) ⟨d0,(hl d0).mpr (.inl rfl),by unfold gN;simp⟩
 by_cases e:d=d0
 ·subst e;rw[h0 c];unfold gN;simp
 ·rcases(hl d).mp hd with x|x
  ·exact absurd x e
  obtain⟨s,hs,rfl⟩:=aik.mp x;rw[C1 (H.lat s hs) (by omega) n7 hN c]
  unfold gN;simp[e]
theorem agr{n:Nat}{s:Nat->Nat->Nat}(L:cR n s) (h2:2<=n):fB n s s=Ψ:=by
 unfold fB;rw[decide_eq_false_iff_not,<-Je (by omega)]
 intro h;have pl:∀r,r<n->∃y,y<n/\s r y=0:=λr hr=>by
  have:0∈(η n).map (s r):=(L.row r hr).mem_iff.mpr (ain.mpr (by omega))
  obtain⟨y,hy,e⟩:=aik.mp this;exact⟨y,ain.mp hy,e⟩
 obtain⟨y,hy,e⟩:=pl 0 (by omega)
 obtain⟨z,hz,f⟩:=pl 1 (by omega)
 have n0:0<n:=by omega
 have a1:y/n=0:=akY hy;have a2:y % n=y:=akZ hy;have b1:(n+z)/n=1:=by rw[Nat.add_div_left _ n0,akY hz]
 have b2:(n+z) % n=z:=by rw[Nat.add_mod_left,akZ hz]
 have nn:2*n<=n*n:=akp n h2;have h':=ajU.mp h y (n+z) (by simp;omega) (by simp;omega) (by omega)
 apply h';simp only[amD,akf];unfold eY;rw[a1,a2,b1,b2,e,f]
theorem afy{n:Nat}{ts:List (Nat->Nat->Nat)}(h1:1<=n) (h7:n<=7) (lat:∀s∈ts,cR n s) (few:ts.length<=20) {i k:Nat}(hk:k<i) (hi:i<ts.length) (hb:fB n ts[i] (ts[k]'(by omega))=Ψ) (c:aa):mU [.lst (aK n ts)] c=.ok (.bl Ψ) c:=by
 have sz:=ja;have bE:k6=aD (cz (oN (ao (ak 0) aq)) (gH 2 (dF (aB 1) (dF (aB 2) gS))) k7) (aP (dC (.bl Θ))):=rfl;have hs:oN (ao (ak 0) aq) [ζ (.lst (aK n ts)),θ,θ] c=.ok ⟨(aK n ts).mapIdx λi x=>.tup [.int i,x],λ_=>True⟩ c:=rfl
 have nl:(aK n ts).length=ts.length:=by simp[aK]
 have step:∀j (hj:j<ts.length),k7 [ζ (.lst (aK n ts)),ζ (.int (j:Int)),ζ (aG n ts[j])] c=if(ts.take j).all (fB n ts[j])then .ok (.nx [ζ (.lst (aK n ts)),ζ (.int (j:Int)),ζ (aG n ts[j])]) c else .ok (.rt (.bl Ψ)) c:=λj hj=>by
  have oz:cutD (aK n ts) θ (ζ (j:Int))=(ts.take j).map (aG n):=by
   rw[zx rfl (by rw[nl];omega)]
   unfold aK;rw[ajO]
  have hs:c9 (eU (ak 0) eW (eV (ak 1))) [ζ (.lst (aK n ts)),ζ (.int (j:Int)),ζ (aG n ts[j])] c=.ok ⟨(ts.take j).map (aG n),λ_=>True⟩ c:=by
   rw[<-oz];rfl
  have hc:=mV (E:=[ζ (aG n ts[j])]) (a:=aA 2 kD (ao (ak 1) (ao (ak 0) aq))) (c:=c) (aG n) (λs=>D.bl (fB n ts[j] s)) (ts.take j) θ [] (λs hs=>oW (m:=kD) (d1:=ak 1) (d2:=ak 0) rfl rfl (Zh h1 h7 (lat _ (aiJ _)) (lat _ (aiQ hs)) c))
  rw[aiM]at hc;have hm:((ts.take j).map λs=>D.bl (fB n ts[j] s))=((ts.take j).map (fB n ts[j])).map D.bl:=by rw[aiG];rfl
  have hall:=vt ((ts.take j).map (fB n ts[j])) c;rw[List.all_map]at hall;have ha:FZ [ζ (.lst (aK n ts)),ζ (.int (j:Int)),ζ (aG n ts[j])] c=.ok (.bl ((ts.take j).all (fB n ts[j]))) c:=by
   refine gU (x:=.lst (((ts.take j).map (fB n ts[j])).map D.bl)) ?_ hall;rw[dX,hs,R.aC];dsimp only;rw[if_pos (by simp;omega),show cV [θ,ζ 2] [ζ (.lst (aK n ts)),ζ (.int (j:Int)),ζ (aG n ts[j])]=[θ,ζ (aG n ts[j])]from rfl,hc,R.aC,hm]
  unfold k7;rw[gO,sU,j8,ha];cases(ts.take j).all (fB n ts[j])<;>rfl
 let P:D->Option D:=λx=>match x with
  |.tup [.int j,_]=>if h:j.toNat<ts.length then(if(ts.take j.toNat).all (fB n ts[j.toNat])then θ else ζ (.bl Ψ))else θ
  |_=>θ
 have KQ:∀j (hj:j<ts.length) (d:D),P (.tup [.int (j:Int),d])=if(ts.take j).all (fB n ts[j])then θ else ζ (.bl Ψ):=λj hj d=>by
  simp only[P,aky];rw[dif_pos hj]
 have hP:∀x v,P x=ζ v->v=.bl Ψ:=λx v h=>by
  simp only[P]at h;split at h
  ·split at h
   ·split at h
    ·cases h
    ·cases h;rfl
   ·cases h
  ·cases h
 have key:=Lj (c:=c) (g:=gH 2 (dF (aB 1) (dF (aB 2) gS))) (s:=k7) (λe=>∃w1 w2,e=[ζ (.lst (aK n ts)),w1,w2]) P ((aK n ts).mapIdx λi x=>.tup [.int i,x]) [ζ (.lst (aK n ts)),θ,θ] ⟨_,_,rfl⟩ (λx hx e ⟨w1,w2,he⟩=>by
  subst he;obtain⟨j,hj,rfl⟩:=alL.mp hx;have hj':j<ts.length:=by simpa[aK]using hj
  have hg:(aK n ts)[j]=aG n ts[j]:=by simp[aK]
  refine⟨[ζ (.lst (aK n ts)),ζ (.int (j:Int)),ζ (aG n ts[j])],[ζ (.lst (aK n ts)),ζ (.int (j:Int)),ζ (aG n ts[j])],?_,⟨_,_,rfl⟩,?_⟩
  ·rw[hg];rfl
  ·rw[step j hj'];rw[show P (.tup [.int (j:Int),(aK n ts)[j]])=_ from KQ j hj' (aK n ts)[j]]
   cases(ts.take j).all (fB n ts[j])<;>rfl)
 have hsome:((aK n ts).mapIdx λi x=>D.tup [.int i,x]).findSome? P=ζ (.bl Ψ):=by
  cases q:((aK n ts).mapIdx λi x=>D.tup [.int i,x]).findSome? P with
  |some v =>
   obtain⟨x,_,hx⟩:=List.exists_of_findSome?_eq_some q;rw[hP x v hx]
  |none =>
   rw[List.findSome?_eq_none_iff]at q;have hm:D.tup [.int (i:Int),(aK n ts)[i]'(by rw[nl];exact hi)]∈(aK n ts).mapIdx λi x=>D.tup [.int i,x]:=alL.mpr ⟨i,by rw[nl];exact hi,rfl⟩
   have:=q _ hm;have this:=(KQ i hi .aM).symm.trans this;have hf:(ts.take i).all (fB n ts[i])=Ψ:=amM.mpr ⟨ts[k]'(by omega),List.mem_take_iff_getElem.mpr ⟨k,by omega,rfl⟩,by rw[hb];decide⟩
   rw[hf]at this;simp at this
 rw[hsome]at key;refine jb (n:=3) (b:=k6) ?_ rfl (λk h=>by cases h)
 rw[bE,show cD 3 [D.lst (aK n ts)]=[ζ (.lst (aK n ts)),θ,θ]from rfl,g9,i6,hs,R.aC]
 dsimp only at key ⊢;rw[key];rfl
theorem Jj{n:Nat}{ts:List (Nat->Nat->Nat)}(h2:2<=n) (h7:n<=7) {N:Int}(hN:N=n) (lat:∀s∈ts,cR n s) (few:ts.length<=20) {i k:Nat}(hk:k<i) (hi:i<ts.length) (hb:ts[i]=ts[k]'(by omega)):nE (.int N) (.lst (aK n ts)):=λc=>by
 have nl:(aK n ts).length=ts.length:=by simp[aK]
 by_cases q:N-1<((aK n ts).length:Int)
 ·exact Jk (by omega) (by omega) q c
 have ha:=Ks (N:=N) (by omega) (by omega) (l:=aK n ts) (by rw[nl];omega) (λ_=>Θ) c (λd hd=>by
  obtain⟨s,hs,rfl⟩:=aik.mp hd;rw[C1 (lat s hs) (by omega) h7 hN c]
  simp)
 have hf:((aK n ts).all λ_=>Θ)=Θ:=by simp
 rw[hf]at ha;have hr:=afy (by omega) h7 lat few hk hi (by rw[hb];exact agr (lat _ (aiJ _)) h2) c
 refine jb (n:=2) (b:=iE) ?_ rfl (λk h=>by cases h)
 rw[C2 (N:=N) (by omega) (by omega),show cD 2 [D.int N,.lst (aK n ts)]=[ζ (.int N),ζ (.lst (aK n ts))]from rfl,g9,gO,C7 (by omega) (by omega) c,decide_eq_false q]
 show aP (gf qY _) _ c=_;refine nQ ?_;rw[pI,ha,R.aC];dsimp only;rw[if_pos rfl];exact rO (m:=mU) (d1:=ak 1) rfl hr
theorem GS{W:Int}{X Y:D}(hW:W=0\/W=1) (h:nE X Y) (c:aa):e8 [.int W,X,Y] c=.ok (.str "square") c:=by
 have r1:kC [X,Y] c=.bad:=by simp[kC,oZ,h c]
 have r2:sS [X,Y] c=.ok "NoSquare" c:=by simp[sS,zB,fnX,jF,sW,h c]
 have n1:uC [X,Y] c=.bad:=by simp[uC,nu,r1]
 have n2:vS [X,Y] c=.ok "NoSquare" c:=by simp[vS,zE,fnX,i7,r2]
 have n3:vR [X,Y] c=.ok "NoSquare" c:=by simp[vR,zD,fnX,i7,r2]
 rcases hW with rfl|rfl
 ·simp[e8,kY,nO,jF,i7,n3,C6,Cj]
 ·simp[e8,kY,nO,n1,jF,i7,n2,C6,Cj]
theorem Pg{X:D}(h:l8 3 10 X) (c:aa):e8 [.int 2,X,.aM] c=.ok (.str "square") c:=by
 have n3:vQ [X] c=.ok "NoSquare" c:=by simp[vQ,zC,fnX,jF,sW,h c]
 simp[e8,kY,nO,jF,i7,n3,C6,Cj]
theorem Pf{n:Nat}{ss:List (Nat->Nat->Nat)}(H:Net n ss) {N:Int}(hN:N=n) (c:aa):e8 [.int 1,.int N,.lst (aK n ss)] c=.ok (.str "told") c:=by
 have:=XI H hN (G:=(ss.length:Int)+2) rfl c;simp[e8,kY,nO,this]
def we:ah:=(aF 2 (aA 1 nZ (ao (aA 2 oh (ao (ak 0) (ao (ak 1) aq))) aq)))
def st1:ah:=(fX (aA 1 nY (ao (ak 2) aq)) (gH 2 (dF (aB 3) (dF (aB 4) gS))))
def st2:ah:=(aF 5 (aA 2 jl (ao (ak 2) (ao (au aZ (dC (.int 2)) (au bL (au bq (ak 3) (dC (.int 1))) (dC (.int 6)))) aq))))
def st3:ah:=(aF 6 (aY (ao (bV (ao (ak 3) (ao (au b9 (ak 4) (aY (ao (ak 5) aq))) aq))) (ao (bV (ao (ak 3) (ao (au b9 (aY (ao (dC .aM) aq)) (ak 4)) aq))) (ao (bV (ao (ak 3) (ao (aE cA (ao (ak 4) aq)) aq))) (ao (bV (ao (ak 3) (ao (dC .aM) aq))) (ao (bV (ao (ak 3) (ao (au b9 (ak 4) (aY (ao (aY aq) aq))) aq))) aq)))))))
def j9:ah:=(b8 (aT (au fZ (ak 4) (aY aq))) (aF 6 (au b9 (ak 6) (aY (ao (bV (ao (ak 3) (ao (au b9 (ak 4) (eU (ak 4) eW (eV (dC (.int 1))))) aq))) (ao (bV (ao (ak 3) (ao (au ki (eU (ak 4) eW (eV (dC (.int 1)))) (dC (.int 2))) aq))) (ao (bV (ao (dC (.int 8)) (ao (ak 4) aq))) (ao (bV (ao (ak 3) (ao (au aH (ak 4) (dC (.int 0))) aq))) aq))))))) ck)
def Dz:af:=(aY (ao (dC (.int 1)) (ao (dC (.int 0)) (ao (dC (.int 8)) (ao (au bq (dC (.int 0)) (dC (.int 2))) (ao (dC (.bl Θ)) (ao (dC .aM) (ao (dC (.str "3")) (ao (bV (ao (dC (.int 3)) aq)) (ao (au jc (dC (.int 10)) (dC (.int 20))) aq))))))))))
def i9:ah:=aF 7 (au aH Dz (aA 2 bC (ao (ak 2) (ao (dC (.int 9)) aq))))
def tM:ah:=(aF 6 (au b9 (ak 6) (aY (ao (bV (ao (ak 7) (ao (aY aq) aq))) (ao (bV (ao (ak 7) (ao (ak 4) aq))) aq)))))
def mC:ah:=(fX (au aH (ak 6) (aA 2 bC (ao (ak 2) (ao (aE aU (ao (ak 6) aq)) aq)))) (gH 2 (dF (aB 8) (dF (aB 9) gS))))
def tL:ah:=(b8 (fO (aT (au eZ (aA 3 e8 (ao (dC (.int 0)) (ao (ak 8) (ao (ak 9) aq)))) (dC (.str "square")))) (aT (au eZ (aA 3 e8 (ao (dC (.int 1)) (ao (ak 8) (ao (ak 9) aq)))) (dC (.str "square"))))) (aP (dC (.bl Ψ))) ck)
def uV:af:=(aY (ao (dC (.int 2)) (ao (dC (.int 1)) (ao (dC (.int 0)) (ao (dC (.int 11)) (ao (au bq (dC (.int 0)) (dC (.int 3))) (ao (dC (.bl Θ)) (ao (dC .aM) (ao (dC (.str "4")) (ao (bV (ao (dC (.int 4)) aq)) (ao (au jc (dC (.int 10)) (dC (.int 20))) aq)))))))))))
def Az:ah:=aF 7 (au aH uV (aA 2 bC (ao (ak 2) (ao (dC (.int 10)) aq))))
def tK:ah:=(b8 (fO (aT (au eZ (aA 3 e8 (ao (dC (.int 2)) (ao (ak 7) (ao (dC .aM) aq)))) (dC (.str "square")))) (aT (au eZ (aA 3 e8 (ao (dC (.int 1)) (ao (ak 3) (ao (ak 4) aq)))) (dC (.str "told"))))) (aP (dC (.bl Ψ))) ck)
def xq:ah:=aD we (aD st1 (aD st2 (aD st3 (aD j9 (aD i9 (aD tM (aD mC (aD tL (aD Az tK)))))))))
def BP(d:D):Prop:=∃X Y,d=.tup [X,Y]/\nE X Y
def B5(N:Int) (L:List D) (S:D):List D:=[.tup [.int N,.lst (L++[S])],.tup [.int N,.lst (.aM::L)],.tup [.int N,.tup L],.tup [.int N,.aM],.tup [.int N,.lst (L++[.lst []])]]
def B4(N:Int) (L:List D) (S:D):List D:=[.tup [.int N,.lst (L++L.take 1)],.tup [.int N,.lst (L.take 1++L.take 1)],.tup [.int 8,.lst L],.tup [.int N,S]]
def F1:List D:=[.int 1,.int 0,.int 8,.int (0-2),.bl Θ,.aM,.str "3",.tup [.int 3],.int (10^20)]
def F2:List D:=[.int 2,.int 1,.int 0,.int 11,.int (0-3),.bl Θ,.aM,.str "4",.tup [.int 4],.int (10^20)]
theorem oV{l m:List D}(hl:l.length<=100) (hm:m.length<=100) (c:aa):b9 (.lst l) (.lst m) c=.ok (.lst (l++m)) c:=by
 have sz:=ja;unfold b9 eS;dsimp only;rw[if_pos (by omega)]
theorem Io(c:aa):jc (.int 10) (.int 20) c=.ok (.int (10^20)) c:=by
 rw[Gw,if_pos (by decide)]
 rfl
theorem acB(e:Ev) (c:aa):Dz e c=.ok (.lst F1) c:=by
 have t1:(1:Nat)<=ι:=by decide
 have t9:(9:Nat)<=ι:=by decide
 simp[Dz,F1,Io,t1,t9]
theorem acz(e:Ev) (c:aa):uV e c=.ok (.lst F2) c:=by
 have t1:(1:Nat)<=ι:=by decide
 have Aw:(10:Nat)<=ι:=by decide
 simp[uV,F2,Io,t1,Aw]
theorem acC:∀d∈F1,l8 2 7 d:=by
 intro d hd;simp only[F1,aio,aiE,or_false]at hd
 rcases hd with rfl|rfl|rfl|rfl|rfl|rfl|rfl|rfl|rfl
 ·exact iW (by decide)
 ·exact iW (by decide)
 ·exact iW (by decide)
 ·exact iW (by decide)
 ·exact M8
 ·exact M7
 ·exact M6 _
 ·exact M5 _
 ·exact iW (by decide)
theorem acA:∀d∈F2,l8 3 10 d:=by
 intro d hd;simp only[F2,aio,aiE,or_false]at hd
 rcases hd with rfl|rfl|rfl|rfl|rfl|rfl|rfl|rfl|rfl|rfl
 ·exact iW (by decide)
 ·exact iW (by decide)
 ·exact iW (by decide)
 ·exact iW (by decide)
 ·exact iW (by decide)
 ·exact M8
 ·exact M7
 ·exact M6 _
 ·exact M5 _
 ·exact iW (by decide)
theorem Jm(n:Nat) (ss:List (Nat->Nat->Nat)) (c:aa):fZ (.lst (aK n ss)) (.lst []) c=.ok (.bl (!ss.isEmpty)) c:=by
 have h:gx c (.lst (aK n ss))=ζ (.list (ss.map (oH n))):=by
  show(match dP (aK n ss)with|some r=>ζ (PyData.list r)|none=>θ)=_
  rw[LU]
 have h0:gx c (.lst [])=ζ (.list []):=rfl;have hd:(PyData.list (ss.map (oH n))).depth<=64:=by
  have:=Er (l:=ss.map (oH n)) (n:=63) (λp hp=>by
   obtain⟨s,_,rfl⟩:=aik.mp hp;have:=acV n s;omega)
  simp only[PyData.depth];omega
 have hd0:(PyData.list []).depth<=64:=by simp[PyData.depth,PyData.depthAll]
 unfold fZ;rw[h,h0];dsimp only;rw[if_pos ⟨hd,hd0⟩];cases ss with
 |nil=>simp[PyData.eqv,PyData.eqvAll]
 |cons s ss=>simp[PyData.eqv,PyData.eqvAll]
section
variable {a0 a1 a2 a3 a4 a5 a6 a7 a8 a9:Option D}
theorem g0{ns:List Int}{i x:Int}{j:Nat}{c c':aa}(hx:oh [.cE ns,.int i] c=.ok (.int x) c) (hp:nZ [.int x] c=.ok (.ref j) c'):we [ζ (.cE ns),ζ (.int i),a2,a3,a4,a5,a6,a7,a8,a9] c=.ok (.nx [ζ (.cE ns),ζ (.int i),ζ (.ref j),a3,a4,a5,a6,a7,a8,a9]) c':=by simp[we,hx,hp]
theorem g1{j:Nat}{X Y:D}{c c':aa}(h:nY [.ref j] c=.ok (.tup [X,Y]) c'):st1 [a0,a1,ζ (.ref j),a3,a4,a5,a6,a7,a8,a9] c=.ok (.nx [a0,a1,ζ (.ref j),ζ X,ζ Y,a5,a6,a7,a8,a9]) c':=by
 have hd:aA 1 nY (ao (ak 2) aq) [a0,a1,ζ (.ref j),a3,a4,a5,a6,a7,a8,a9] c=.ok (.tup [X,Y]) c':=by simp[h]
 show(fX (aA 1 nY (ao (ak 2) aq)) (gH 2 (dF (aB 3) (dF (aB 4) gS)))) [a0,a1,ζ (.ref j),a3,a4,a5,a6,a7,a8,a9] c=_;unfold fX;rw[hd];rfl
theorem g2{j:Nat}{N M:Int}{S:D}{c c':aa}(hM:M=2+(N-1) % 6) (h:jl [.ref j,.int M] c=.ok S c'):st2 [a0,a1,ζ (.ref j),ζ (.int N),a4,a5,a6,a7,a8,a9] c=.ok (.nx [a0,a1,ζ (.ref j),ζ (.int N),a4,ζ S,a6,a7,a8,a9]) c':=by
 subst hM;have hm:bL (.int (N-1)) (.int 6) c=.ok (.int ((N-1) % 6)) c:=by rw[Gz,if_pos (by decide)]
 simp[st2,hm,h]
theorem g3{L:List D}{S:D}{N:Int}(hl:L.length<=20) (c:aa):st3 [a0,a1,a2,ζ (.int N),ζ (.lst L),ζ S,a6,a7,a8,a9] c=.ok (.nx [a0,a1,a2,ζ (.int N),ζ (.lst L),ζ S,ζ (.lst (B5 N L S)),a7,a8,a9]) c:=by
 have sz:=ja;have t1:(1:Nat)<=ι:=by decide
 have t2:(2:Nat)<=ι:=by decide
 have t5:(5:Nat)<=ι:=by decide
 have c1:=oV (l:=L) (m:=[S]) (by omega) (by simp) c
 have c2:=oV (l:=[.aM]) (m:=L) (by simp) (by omega) c
 have c3:=oV (l:=L) (m:=[.lst []]) (by omega) (by simp) c
 have c4:=GR L c (by omega)
 simp[st3,B5,c1,c2,c3,c4,t1,t2,t5]
theorem vX{d1 d2:af}{e:Ev}{c:aa}{x y:D}(h1:d1 e c=.ok x c) (h2:d2 e c=.ok y c):bV (ao d1 (ao d2 aq)) e c=.ok (.tup [x,y]) c:=by
 have t2:(2:Nat)<=ι:=by decide
 simp only[Aj,bz,h1,h2,bG,R.aC];rw[if_pos (by exact t2)]
theorem g4{L:List D}{S:D}{N:Int}{B:List D}(hB:B.length<=20) (hl:L.length<=20) (h0:L[0]? = ζ S) (c:aa) (hn:fZ (.lst L) (.lst []) c=.ok (.bl Θ) c):j9 [a0,a1,a2,ζ (.int N),ζ (.lst L),a5,ζ (.lst B),a7,a8,a9] c=.ok (.nx [a0,a1,a2,ζ (.int N),ζ (.lst L),a5,ζ (.lst (B++B4 N L S)),a7,a8,a9]) c:=by
 have sz:=ja;have t2:(2:Nat)<=ι:=by decide
 have t4:(4:Nat)<=ι:=by decide
 have hc:cutD L θ (ζ 1)=L.take 1:=zx (n:=1) rfl (by
  cases L with
  |nil=>simp at h0
  |cons=>simp)
 have hs:eU (ak 4) eW (eV (dC (.int 1))) [a0,a1,a2,ζ (.int N),ζ (.lst L),a5,ζ (.lst B),a7,a8,a9] c=.ok (.lst (L.take 1)) c:=by
  rw[<-hc];rfl
 have l1:(L.take 1).length<=1:=by rw[ajw];omega
 have c1:=oV (l:=L) (m:=L.take 1) (by omega) (by omega) c
 have c2:ki (.lst (L.take 1)) (.int 2) c=.ok (.lst (L.take 1++L.take 1)) c:=by
  rw[OD,if_pos ⟨by decide,by decide,by show(L.take 1).length*2<=ι;omega⟩]
  show R.ok (D.lst ([L.take 1,L.take 1].flatten)) c=_;simp
 have c3:=uJ (N:=0) (i:=0) rfl h0 c;have c4:=oV (l:=B) (m:=B4 N L S) (by omega) (by unfold B4;simp) c
 unfold B4 at c4;have e1:au b9 (ak 6) (aY (ao (bV (ao (ak 3) (ao (au b9 (ak 4) (eU (ak 4) eW (eV (dC (.int 1))))) aq))) (ao (bV (ao (ak 3) (ao (au ki (eU (ak 4) eW (eV (dC (.int 1)))) (dC (.int 2))) aq))) (ao (bV (ao (dC (.int 8)) (ao (ak 4) aq))) (ao (bV (ao (ak 3) (ao (au aH (ak 4) (dC (.int 0))) aq))) aq))))) [a0,a1,a2,ζ (.int N),ζ (.lst L),a5,ζ (.lst B),a7,a8,a9] c=.ok (.lst (B++B4 N L S)) c:=by
  refine fy (f:=b9) (x:=.lst B) (y:=.lst (B4 N L S)) rfl ?_ (oV (by omega) (by unfold B4;simp) c)
  have d1:au b9 (ak 4) (eU (ak 4) eW (eV (dC (.int 1)))) [a0,a1,a2,ζ (.int N),ζ (.lst L),a5,ζ (.lst B),a7,a8,a9] c=.ok (.lst (L++L.take 1)) c:=fy (f:=b9) (d1:=ak 4) rfl hs c1;have d2:au ki (eU (ak 4) eW (eV (dC (.int 1)))) (dC (.int 2)) [a0,a1,a2,ζ (.int N),ζ (.lst L),a5,ζ (.lst B),a7,a8,a9] c=.ok (.lst (L.take 1++L.take 1)) c:=fy (f:=ki) hs rfl c2;have d3:au aH (ak 4) (dC (.int 0)) [a0,a1,a2,ζ (.int N),ζ (.lst L),a5,ζ (.lst B),a7,a8,a9] c=.ok S c:=fy (f:=aH) rfl rfl c3;have p1:=vX (d1:=ak 3) (x:=.int N) rfl d1;have p2:=vX (d1:=ak 3) (x:=.int N) rfl d2;have p3:=vX (d1:=dC (.int 8)) (d2:=ak 4) (x:=.int 8) (y:=.lst L) (e:=[a0,a1,a2,ζ (.int N),ζ (.lst L),a5,ζ (.lst B),a7,a8,a9]) (c:=c) rfl rfl;have p4:=vX (d1:=ak 3) (x:=.int N) rfl d3;rw[Ak,bz,p1,R.aC,bz,p2,R.aC,bz,p3,R.aC,bz,p4,R.aC,bG];simp only[R.aC];rw[if_pos (by exact t4)]
  rfl
 unfold j9;rw[gO,j8,fy (f:=fZ) (d1:=ak 4) (d2:=aY aq) (y:=.lst []) rfl (by simp) hn,R.aC]
 dsimp only;rw[R.aC,if_pos rfl];exact pM (i:=6) e1
theorem g4n{L:List D}{c:aa}(hn:fZ (.lst L) (.lst []) c=.ok (.bl Ψ) c):j9 [a0,a1,a2,a3,ζ (.lst L),a5,a6,a7,a8,a9] c=.ok (.nx [a0,a1,a2,a3,ζ (.lst L),a5,a6,a7,a8,a9]) c:=by
 unfold j9;rw[gO,j8,fy (f:=fZ) (d1:=ak 4) (d2:=aY aq) (y:=.lst []) rfl (by simp) hn,R.aC]
 dsimp only;rw[R.aC,if_neg (by decide)]
 rfl
theorem Hv{i:Nat}{d:af}{e:Ev}{c c':aa}{v:D}(h:d e c=.ok v c'):aF i d e c=.ok (.nx (e.set i (ζ v))) c':=by rw[fT,h];rfl
theorem Ka{l:D->Prop}{fl:List D}{fr:af}{e:Ev}{j:Nat}{y:Int}{c c':aa}{n:Int}(hf:∀e c,fr e c=.ok (.lst fl) c) (h2:ak 2 e c=.ok (.ref j) c) (ht:bC [.ref j,.int n] c=.ok (.int y) c') (y0:0<=y) (y1:y<fl.length):∃d∈fl,au aH fr (aA 2 bC (ao (ak 2) (ao (dC (.int n)) aq))) e c=.ok d c':=by
 have hi:y.toNat<fl.length:=by omega
 refine⟨fl[y.toNat],aiJ _,?_⟩;have e2:aA 2 bC (ao (ak 2) (ao (dC (.int n)) aq)) e c=.ok (.int y) c':=by
  unfold aA;rw[bz,h2,R.aC];exact ht
 rw[fj,hf,R.aC,e2,R.aC];exact uJ (i:=y.toNat) (by omega) (ait hi) c'
theorem g6{L B:List D}{F:D}(hB:B.length<=50) (c:aa):tM [a0,a1,a2,a3,ζ (.lst L),a5,ζ (.lst B),ζ F,a8,a9] c=.ok (.nx [a0,a1,a2,a3,ζ (.lst L),a5,ζ (.lst (B++[.tup [F,.lst []],.tup [F,.lst L]])),ζ F,a8,a9]) c:=by
 have t2:(2:Nat)<=ι:=by decide
 have c1:=oV (l:=B) (m:=[.tup [F,.lst []],.tup [F,.lst L]]) (by omega) (by simp) c
 simp[tM,c1,t2]
theorem g7{B:List D}{j:Nat}{y:Int}{X Y:D}{c c':aa}(ht:bC [.ref j,.int (B.length:Int)] c=.ok (.int y) c') (y0:0<=y) (hy:B[y.toNat]? = ζ (.tup [X,Y])):mC [a0,a1,ζ (.ref j),a3,a4,a5,ζ (.lst B),a7,a8,a9] c=.ok (.nx [a0,a1,ζ (.ref j),a3,a4,a5,ζ (.lst B),a7,ζ X,ζ Y]) c':=by
 have hd:au aH (ak 6) (aA 2 bC (ao (ak 2) (ao (aE aU (ao (ak 6) aq)) aq))) [a0,a1,ζ (.ref j),a3,a4,a5,ζ (.lst B),a7,a8,a9] c=.ok (.tup [X,Y]) c':=by
  have e2:aA 2 bC (ao (ak 2) (ao (aE aU (ao (ak 6) aq)) aq)) [a0,a1,ζ (.ref j),a3,a4,a5,ζ (.lst B),a7,a8,a9] c=.ok (.int y) c':=ht;rw[fj,show ak 6 [a0,a1,ζ (.ref j),a3,a4,a5,ζ (.lst B),a7,a8,a9] c=.ok (.lst B) c from rfl,R.aC,e2,R.aC]
  exact uJ (i:=y.toNat) (by omega) hy c'
 show(fX (au aH (ak 6) (aA 2 bC (ao (ak 2) (ao (aE aU (ao (ak 6) aq)) aq)))) (gH 2 (dF (aB 8) (dF (aB 9) gS)))) _ c=_;unfold fX;rw[hd];rfl
theorem g8{X Y:D}{c:aa}(h1:e8 [.int 0,X,Y] c=.ok (.str "square") c) (h2:e8 [.int 1,X,Y] c=.ok (.str "square") c):tL [a0,a1,a2,a3,a4,a5,a6,a7,ζ X,ζ Y] c=.ok (.nx [a0,a1,a2,a3,a4,a5,a6,a7,ζ X,ζ Y]) c:=by simp[tL,h1,h2]
theorem gA{X Y F:D}{c:aa}(h1:e8 [.int 2,F,.aM] c=.ok (.str "square") c) (h2:e8 [.int 1,X,Y] c=.ok (.str "told") c):tK [a0,a1,a2,ζ X,ζ Y,a5,a6,ζ F,a8,a9] c=.ok (.nx [a0,a1,a2,ζ X,ζ Y,a5,a6,ζ F,a8,a9]) c:=by simp[tK,h1,h2]
end
theorem afr{n m:Nat}{ss:List (Nat->Nat->Nat)}(H:Net n ss) {N:Int}(hN:N=n) {s:Nat->Nat->Nat}(L:cR m s) (m1:1<=m) (m7:m<=7) (ne:m≠n):∀d∈B5 N (aK n ss) (aG m s),BP d:=by
 have n2:=H.two;have n7:=H.nN;have nl:(aK n ss).length=ss.length:=by simp[aK]
 have fw:=H.few;intro d hd;simp only[B5,aio,aiE,or_false]at hd
 rcases hd with rfl|rfl|rfl|rfl|rfl
 ·refine⟨_,_,rfl,Bb H hN (d0:=aG m s) (λc=>?_) (λd=>?_) (by simp[nl];omega)⟩
  ·rw[C1 L m1 m7 hN c,decide_eq_false ne]
  ·rw[aiK,aiV,or_comm]
 ·refine⟨_,_,rfl,Bb H hN (d0:=.aM) (λc=>Kg (λc=>rfl) N c) (λd=>aio) (by simp[nl];omega)⟩
 ·exact⟨_,_,rfl,Ba (by omega) (by omega) λc=>rfl⟩
 ·exact⟨_,_,rfl,Ba (by omega) (by omega) λc=>rfl⟩
 ·refine⟨_,_,rfl,Bb H hN (d0:=.lst []) (λc=>Kg (λc=>rfl) N c) (λd=>?_) (by simp[nl];omega)⟩
  rw[aiK,aiV,or_comm]
theorem afs{n:Nat}{s:Nat->Nat->Nat}{ss:List (Nat->Nat->Nat)}(H:Net n (s::ss)) {N:Int}(hN:N=n):∀d∈B4 N (aK n (s::ss)) (aG n s),BP d:=by
 have n2:=H.two;have n7:=H.nN;have fw:=H.few;simp only[aiv]at fw;have hs:=H.lat s (.head _);intro d hd;simp only[B4,aio,aiE,or_false]at hd
 rcases hd with rfl|rfl|rfl|rfl
 ·refine⟨_,_,rfl,?_⟩;have:aK n (s::ss)++(aK n (s::ss)).take 1=aK n (s::ss++[s]):=by simp[aK]
  rw[this];refine Jj n2 n7 hN (λt ht=>?_) (by simp;omega) (i:=ss.length+1) (k:=0) (by omega) (by simp) (by simp)
  rcases aiK.mp ht with ht|ht
  ·exact H.lat t ht
  ·rw[aiV.mp ht];exact hs
 ·refine⟨_,_,rfl,?_⟩;have:(aK n (s::ss)).take 1++(aK n (s::ss)).take 1=aK n [s,s]:=by simp[aK]
  rw[this];refine Jj n2 n7 hN (λt ht=>?_) (by simp) (i:=1) (k:=0) (by omega) (by simp) rfl
  simp only[aio,aiE,or_false,or_self]at ht;rw[ht];exact hs
 ·exact⟨_,_,rfl,Bc (iW (by decide))⟩
 ·exact⟨_,_,rfl,Ba (by omega) (by omega) λc=>rfl⟩
theorem Vn{ns:List Int}{i:Int}(hi:0<=i) (c:aa) (v2 v3 v4 v5 v6 v7 v8 v9:Option D) :
  ∃e' c',(∃w1 w2 w3 w4 w5 w6 w7 w8 w9,e'=[ζ (.cE ns),w1,w2,w3,w4,w5,w6,w7,w8,w9])/\xq [ζ (.cE ns),ζ (.int i),v2,v3,v4,v5,v6,v7,v8,v9] c=.ok (.nx e') c':=by
 obtain⟨x,hx⟩:=aeQ ns i hi c;obtain⟨p,hp⟩:=Tr x c;obtain⟨n,ss,c1,H,P1,t1⟩:=QD (j:=c.length) (m:=c.length+1) (c:=c++[.lst [.int p]]) ⟨by simp,by omega,p,by simp⟩
 have n2:=H.two;have n7:=H.nN;have fw:=H.few;obtain⟨N,hN⟩:∃N:Int,N=(n:Int):=⟨_,rfl⟩;rw[<-hN]at t1;obtain⟨m,hm,m2,m7,ne⟩:∃m:Nat,(m:Int)=2+(N-1) % 6/\2<=m/\m<=7/\m≠n:=by
  refine⟨(2+(N-1) % 6).toNat,?_,?_,?_,?_⟩<;>omega
 obtain⟨s,c2,Ls,P2,t2⟩:=LK (n:=m) P1 (by omega) (by omega)
 have nl:(aK n ss).length=ss.length:=by simp[aK]
 obtain⟨B,hB,hB1,hBl,k4⟩:∃B:List D,(∀d∈B,BP d)/\0<B.length/\B.length<=20/\∀c3,aD st3 (aD j9 (aD i9 (aD tM (aD mC (aD tL (aD Az tK)))))) [ζ (.cE ns),ζ (.int i),ζ (.ref c.length),ζ (.int N),ζ (.lst (aK n ss)),ζ (aG m s),v6,v7,v8,v9] c3=(aD i9 (aD tM (aD mC (aD tL (aD Az tK))))) [ζ (.cE ns),ζ (.int i),ζ (.ref c.length),ζ (.int N),ζ (.lst (aK n ss)),ζ (aG m s),ζ (.lst B),v7,v8,v9] c3:=by
  have h5:=afr H hN Ls (by omega) m7 ne
  cases ss with
  |nil=>exact⟨B5 N (aK n []) (aG m s),h5,by simp[B5],by simp[B5],λc3=>(bN (g3 (by omega) c3)).trans (bN (g4n (Jm n [] c3)))⟩
  |cons s0 ss =>
   have h4:=afs H hN;refine⟨B5 N (aK n (s0::ss)) (aG m s)++B4 N (aK n (s0::ss)) (aG n s0),λd hd=>?_,by simp[B5],by simp[B5,B4],λc3=>(bN (g3 (by omega) c3)).trans (bN (g4 (by simp[B5]) (by omega) rfl c3 (Jm n (s0::ss) c3)))⟩
   rcases aiK.mp hd with hd|hd
   ·exact h5 d hd
   ·exact h4 d hd
 obtain⟨y3,c3,Oq,Oo,P3,t3⟩:=mz (cQ:=9) P2 (by omega) (by omega)
 obtain⟨F,hF,e5⟩:=Ka (l:=λ_=>True) (e:=[ζ (.cE ns),ζ (.int i),ζ (.ref c.length),ζ (.int N),ζ (.lst (aK n ss)),ζ (aG m s),ζ (.lst B),v7,v8,v9]) acB rfl t3 Oq (by simpa[F1]using Oo)
 have bF:=acC F hF;obtain⟨y4,c4,Om,y41,P4,t4⟩:=mz (cQ:=((B++[D.tup [F,.lst []],.tup [F,.lst (aK n ss)]]).length:Int)) P3 (by simp;omega) (by simp;omega)
 have Kw:y4.toNat<(B++[D.tup [F,.lst []],.tup [F,.lst (aK n ss)]]).length:=by omega
 obtain⟨X,Y,hXY,Dp⟩:BP ((B++[D.tup [F,.lst []],.tup [F,.lst (aK n ss)]])[y4.toNat]):=by
  have hmem:=aiJ Kw
  rcases aiK.mp hmem with h|h
  ·exact hB _ h
  ·simp only[aio,aiE,or_false]at h
   rcases h with h|h
   ·exact⟨F,_,h,Bc bF⟩
   ·exact⟨F,_,h,Bc bF⟩
 obtain⟨y5,c5,Ol,Oj,P5,t5⟩:=mz (cQ:=10) P4 (by omega) (by omega)
 obtain⟨F',hF',e9⟩:=Ka (l:=λ_=>True) (e:=[ζ (.cE ns),ζ (.int i),ζ (.ref c.length),ζ (.int N),ζ (.lst (aK n ss)),ζ (aG m s),ζ (.lst (B++[.tup [F,.lst []],.tup [F,.lst (aK n ss)]])),ζ F,ζ X,ζ Y]) acz rfl t5 Ol (by simpa[F2]using Oj)
 refine⟨[ζ (.cE ns),ζ (.int i),ζ (.ref c.length),ζ (.int N),ζ (.lst (aK n ss)),ζ (aG m s),ζ (.lst (B++[.tup [F,.lst []],.tup [F,.lst (aK n ss)]])),ζ F',ζ X,ζ Y],c5,⟨_,_,_,_,_,_,_,_,_,rfl⟩,?_⟩;unfold xq;refine(bN (g0 hx hp)).trans ((bN (g1 t1)).trans ((bN (g2 hm t2)).trans ((k4 c2).trans ((bN (Hv (i:=7) e5)).trans ((bN (g6 (by omega) c3)).trans ((bN (g7 t4 Om ?_)).trans ((bN (g8 (GS (.inl rfl) Dp c4) (GS (.inr rfl) Dp c4))).trans ((bN (Hv (i:=7) e9)).trans (gA (Pg (acA F' hF') c5) (Pf H hN c5))))))))))
 rw[ait Kw,hXY]
theorem Zs(ns:List Int) (hl:ns.length<=63):∃c,uE [.cE ns] []=.ok (.bl Θ) c:=by
 generalize hm:(if(if(10:Int)<ns.length then(10:Int)else ns.length)>1 then(if(10:Int)<ns.length then(10:Int)else ns.length)else 1)=m
 have hb:-4611686018427387904<=m/\m<4611686018427387904:=by
  rw[<-hm];split<;>(try split)<;>omega
 obtain⟨e',c',⟨w1,w2,w3,w4,w5,w6,w7,w8,w9,rfl⟩,hf⟩:=Lk (g:=aB 1) (s:=xq)
  (λe=>∃w1 w2 w3 w4 w5 w6 w7 w8 w9,e=[ζ (.cE ns),w1,w2,w3,w4,w5,w6,w7,w8,w9]) (bf 0 m) [ζ (.cE ns),θ,θ,θ,θ,θ,θ,θ,θ,θ] [] ⟨_,_,_,_,_,_,_,_,_,rfl⟩ (λt ht e c ⟨w1,w2,w3,w4,w5,w6,w7,w8,w9,he⟩=>by
   subst he;obtain⟨i,rfl,i0,i1⟩:=uA ht;obtain⟨e',c',ie,ho⟩:=Vn (ns:=ns) i0 c w2 w3 w4 w5 w6 w7 w8 w9;exact⟨_,e',_,c',rfl,ho,ie⟩)
 refine⟨[],?_⟩;have hb2:sE=aD (cz (bh (ao (aE mR (ao (dC (.int 1)) (ao (aE uz (ao (aE aU (ao (ak 0) aq)) (ao (dC (.int 10)) aq))) aq))) aq)) (aB 1) xq) (aP (dC (.bl Θ))):=rfl;rw[uE,hb2];simp;simp only[gt_iff_lt]at hm;rw[hm,if_pos (by omega)]
 simp only[R.aC];rw[hf];simp
end Ev
namespace Ev
open PySem L2 PyProof.Rows
theorem all_mk{l:abi}{w:ψ}{K:Δ}{h:χ}{mg:Str->Option Ξ}{fa:Ω}{yZ yY zb zc y9 yv yC zd za yw yy yz yx yX yO yE yR yN yV yK yQ yF yS yT yM yG yL yP yW yJ yH yU yI yD Ei:Ω}(X:K.In h) (G:h.Ns Γ mg) (hfa:mg "law"=ζ (.ref fa))
  {WO af3 WN af2 WT af6 WV af7 WQ af4 Wh afA Wo afF WW af8 WR af5 Wi afB Wl afD Wm afE Wk afC WL af0 WB afR Wr afH WE afU WA afQ WJ afY Wx afN WD afT Ws afI WG afV WH afW Wz afP Wt afJ Wy afO WC afS WK afZ Ww afM Wu afK WI afX Wv afL Wq afG WM af1:Option Ω}{Rq Ro Rv Rx Rr QN QW Ry Ru QO QT QU QS Rk Q9 QY Rc Q8 Ri Q5 Rb QZ Rf Rg Q7 Q0 Q6 Ra Rj Q4 Q2 Rh Q3 QX Rn:Array (Option Ξ)}{Xz aab ads Uk MQ aei Xy aaa adq Uj MP aeh XD aae adv Uo MT ael XE aaf adw Uq MU aem XA aac adt Ul MR aej WX ZI acW TF Ml adP W8 ZN ac1 TN Ms adU XF aag adx Ur MV aen XC aad adu Um MS aek WY ZJ acX TH Mm adQ W0 ZL acZ TL Mp adS W7 ZM ac0 TM Mq adT WZ ZK acY TJ Mn adR Xw Z8 ado Uh MN aef Xm ZZ adf T7 ME ad6 Xa ZP ac3 TR Mu adW Xp Z2 adi Ua MH ad9 Xl ZY ade T6 MD ad5 Xu Z6 adm Ue ML aed Xi ZV ac9 T3 MA ad2 Xo Z1 adh T9 MG ad8 Xb ZQ ac4 TU Mv adX Xq Z3 adj Ub MI aea Xr Z4 adk Uc MJ aeb Xk ZX adb T5 MC ad4 Xe ZR ac5 TV Mw adY Xj ZW ada T4 MB ad3 Xn Z0 adg T8 MF ad7 Xv Z7 adn Ug MM aee Xh ZU ac8 TZ Mz ad1 Xf ZS ac6 TX Mx adZ Xs Z5 adl Ud MK aec Xg ZT ac7 TY My ad0 W9 ZO ac2 TQ Mt adV Xx Z9 adp Ui MO aeg:Ξ}
  (lU:ξ K Γ "is_whole"=ζ (ζ (.ref yZ))) (Cb:K.lookup yZ=ζ ⟨Xz,WO,.func (PySem.W.fnOf "is_whole" "is_whole" (cu qw) (bZ qw) (aR qw) .none aab ads Uk af3 MQ aei),Rq⟩) (FE:PySem.W.codeIn K MQ "is_whole"=Θ) (CS:PySem.W.keepIn K (.ref yZ)=Θ)
  (lT:ξ K Γ "is_whole_within"=ζ (ζ (.ref yY))) (Ca:K.lookup yY=ζ ⟨Xy,WN,.func (PySem.W.fnOf "is_whole_within" "is_whole_within" (cu qv) (bZ qv) (aR qv) .none aaa adq Uj af2 MP aeh),Ro⟩) (FD:PySem.W.codeIn K MP "is_whole_within"=Θ) (CQ:PySem.W.keepIn K (.ref yY)=Θ)
  (lX:ξ K Γ "holds_each_once"=ζ (ζ (.ref zb))) (Ce:K.lookup zb=ζ ⟨XD,WT,.func (PySem.W.fnOf "holds_each_once" "holds_each_once" (cu qz) (bZ qz) (aR qz) .none aae adv Uo af6 MT ael),Rv⟩) (FH:PySem.W.codeIn K MT "holds_each_once"=Θ) (CV:PySem.W.keepIn K (.ref zb)=Θ)
  (lY:ξ K Γ "column_of"=ζ (ζ (.ref zc))) (Cf:K.lookup zc=ζ ⟨XE,WV,.func (PySem.W.fnOf "column_of" "column_of" (cu qA) (bZ qA) (aR qA) .none aaf adw Uq af7 MU aem),Rx⟩) (FI:PySem.W.codeIn K MU "column_of"=Θ) (CW:PySem.W.keepIn K (.ref zc)=Θ)
  (lV:ξ K Γ "is_square"=ζ (ζ (.ref y9))) (Cc:K.lookup y9=ζ ⟨XA,WQ,.func (PySem.W.fnOf "is_square" "is_square" (cu qx) (bZ qx) (aR qx) .none aac adt Ul af4 MR aej),Rr⟩) (FF:PySem.W.codeIn K MR "is_square"=Θ) (CT:PySem.W.keepIn K (.ref y9)=Θ)
  (k8:ξ K Γ "sign_in"=ζ (ζ (.ref yv))) (BB:K.lookup yv=ζ ⟨WX,Wh,.func (PySem.W.fnOf "sign_in" "sign_in" (cu pR) (bZ pR) (aR pR) .none ZI acW TF afA Ml adP),QN⟩) (EX:PySem.W.codeIn K Ml "sign_in"=Θ) (Ck:PySem.W.keepIn K (.ref yv)=Θ)
  (lq:ξ K Γ "lie_across"=ζ (ζ (.ref yC))) (BG:K.lookup yC=ζ ⟨W8,Wo,.func (PySem.W.fnOf "lie_across" "lie_across" (cu pW) (bZ pW) (aR pW) .none ZN ac1 TN afF Ms adU),QW⟩) (E3:PySem.W.codeIn K Ms "lie_across"=Θ) (Cr:PySem.W.keepIn K (.ref yC)=Θ)
  (lZ:ξ K Γ "are_each_two_across"=ζ (ζ (.ref zd))) (Cg:K.lookup zd=ζ ⟨XF,WW,.func (PySem.W.fnOf "are_each_two_across" "are_each_two_across" (cu qB) (bZ qB) (aR qB) .none aag adx Ur af8 MV aen),Ry⟩) (FJ:PySem.W.codeIn K MV "are_each_two_across"=Θ) (CY:PySem.W.keepIn K (.ref zd)=Θ)
  (lW:ξ K Γ "is_net"=ζ (ζ (.ref za))) (Cd:K.lookup za=ζ ⟨XC,WR,.func (PySem.W.fnOf "is_net" "is_net" (cu qy) (bZ qy) (aR qy) .none aad adu Um af5 MS aek),Ru⟩) (FG:PySem.W.codeIn K MS "is_net"=Θ) (CU:PySem.W.keepIn K (.ref za)=Θ)
  (jU:ξ K Γ "require_net"=ζ (ζ (.ref yw))) (BC:K.lookup yw=ζ ⟨WY,Wi,.func (PySem.W.fnOf "require_net" "require_net" (cu pS) (bZ pS) (aR pS) .none ZJ acX TH afB Mm adQ),QO⟩) (EY:PySem.W.codeIn K Mm "require_net"=Θ) (Cm:PySem.W.keepIn K (.ref yw)=Θ)
  (lg:ξ K Γ "net_web"=ζ (ζ (.ref yy))) (BE:K.lookup yy=ζ ⟨W0,Wl,.func (PySem.W.fnOf "net_web" "net_web" (cu pU) (bZ pU) (aR pU) .none ZL acZ TL afD Mp adS),QT⟩) (E1:PySem.W.codeIn K Mp "net_web"=Θ) (Cp:PySem.W.keepIn K (.ref yy)=Θ)
  (jV:ξ K Γ "net_numbers"=ζ (ζ (.ref yz))) (BF:K.lookup yz=ζ ⟨W7,Wm,.func (PySem.W.fnOf "net_numbers" "net_numbers" (cu pV) (bZ pV) (aR pV) .none ZM ac0 TM afE Mq adT),QU⟩) (E2:PySem.W.codeIn K Mq "net_numbers"=Θ) (Cq:PySem.W.keepIn K (.ref yz)=Θ)
  (k9:ξ K Γ "pairs_web"=ζ (ζ (.ref yx))) (BD:K.lookup yx=ζ ⟨WZ,Wk,.func (PySem.W.fnOf "pairs_web" "pairs_web" (cu pT) (bZ pT) (aR pT) .none ZK acY TJ afC Mn adR),QS⟩) (EZ:PySem.W.codeIn K Mn "pairs_web"=Θ) (Co:PySem.W.keepIn K (.ref yx)=Θ)
  (lS:ξ K Γ "_law_cell_at"=ζ (ζ (.ref yX))) (B8:K.lookup yX=ζ ⟨Xw,WL,.func (PySem.W.fnOf "_law_cell_at" "_law_cell_at" (cu qt) (bZ qt) (aR qt) .none Z8 ado Uh af0 MN aef),Rk⟩) (Fz:PySem.W.codeIn K MN "_law_cell_at"=Θ) (CO:PySem.W.keepIn K (.ref yX)=Θ)
  (lI:ξ K Γ "_law_pot"=ζ (ζ (.ref yO))) (BV:K.lookup yO=ζ ⟨Xm,WB,.func (PySem.W.fnOf "_law_pot" "_law_pot" (cu qg) (bZ qg) (aR qg) .none ZZ adf T7 afR ME ad6),Q9⟩) (Fi:PySem.W.codeIn K ME "_law_pot"=Θ) (CF:PySem.W.keepIn K (.ref yO)=Θ)
  (lz:ξ K Γ "_law_take"=ζ (ζ (.ref yE))) (BI:K.lookup yE=ζ ⟨Xa,Wr,.func (PySem.W.fnOf "_law_take" "_law_take" (cu pY) (bZ pY) (aR pY) .none ZP ac3 TR afH Mu adW),QY⟩) (E5:PySem.W.codeIn K Mu "_law_take"=Θ) (Ct:PySem.W.keepIn K (.ref yE)=Θ)
  (lM:ξ K Γ "_law_kind_of"=ζ (ζ (.ref yR))) (BY:K.lookup yR=ζ ⟨Xp,WE,.func (PySem.W.fnOf "_law_kind_of" "_law_kind_of" (cu qk) (bZ qk) (aR qk) .none Z2 adi Ua afU MH ad9),Rc⟩) (Fp:PySem.W.codeIn K MH "_law_kind_of"=Θ) (CI:PySem.W.keepIn K (.ref yR)=Θ)
  (lH:ξ K Γ "_law_prime"=ζ (ζ (.ref yN))) (BU:K.lookup yN=ζ ⟨Xl,WA,.func (PySem.W.fnOf "_law_prime" "_law_prime" (cu qe) (bZ qe) (aR qe) .none ZY ade T6 afQ MD ad5),Q8⟩) (Fg:PySem.W.codeIn K MD "_law_prime"=Θ) (CD:PySem.W.keepIn K (.ref yN)=Θ)
  (lQ:ξ K Γ "_law_degree"=ζ (ζ (.ref yV))) (B6:K.lookup yV=ζ ⟨Xu,WJ,.func (PySem.W.fnOf "_law_degree" "_law_degree" (cu qp) (bZ qp) (aR qp) .none Z6 adm Ue afY ML aed),Ri⟩) (Fx:PySem.W.codeIn K ML "_law_degree"=Θ) (CM:PySem.W.keepIn K (.ref yV)=Θ)
  (lE:ξ K Γ "_law_row"=ζ (ζ (.ref yK))) (BQ:K.lookup yK=ζ ⟨Xi,Wx,.func (PySem.W.fnOf "_law_row" "_law_row" (cu qb) (bZ qb) (aR qb) .none ZV ac9 T3 afN MA ad2),Q5⟩) (Fc:PySem.W.codeIn K MA "_law_row"=Θ) (CA:PySem.W.keepIn K (.ref yK)=Θ)
  (lK:ξ K Γ "_law_number"=ζ (ζ (.ref yQ))) (BX:K.lookup yQ=ζ ⟨Xo,WD,.func (PySem.W.fnOf "_law_number" "_law_number" (cu qj) (bZ qj) (aR qj) .none Z1 adh T9 afT MG ad8),Rb⟩) (Fo:PySem.W.codeIn K MG "_law_number"=Θ) (CH:PySem.W.keepIn K (.ref yQ)=Θ)
  (jW:ξ K Γ "_law_sums_product"=ζ (ζ (.ref yF))) (BJ:K.lookup yF=ζ ⟨Xb,Ws,.func (PySem.W.fnOf "_law_sums_product" "_law_sums_product" (cu pZ) (bZ pZ) (aR pZ) .none ZQ ac4 TU afI Mv adX),QZ⟩) (E6:PySem.W.codeIn K Mv "_law_sums_product"=Θ) (Cu:PySem.W.keepIn K (.ref yF)=Θ)
  (lN:ξ K Γ "_law_heads"=ζ (ζ (.ref yS))) (BZ:K.lookup yS=ζ ⟨Xq,WG,.func (PySem.W.fnOf "_law_heads" "_law_heads" (cu ql) (bZ ql) (aR ql) .none Z3 adj Ub afV MI aea),Rf⟩) (Ft:PySem.W.codeIn K MI "_law_heads"=Θ) (CJ:PySem.W.keepIn K (.ref yS)=Θ)
  (lO:ξ K Γ "_law_form"=ζ (ζ (.ref yT))) (B0:K.lookup yT=ζ ⟨Xr,WH,.func (PySem.W.fnOf "_law_form" "_law_form" (cu qm) (bZ qm) (aR qm) .none Z4 adk Uc afW MJ aeb),Rg⟩) (Fv:PySem.W.codeIn K MJ "_law_form"=Θ) (CK:PySem.W.keepIn K (.ref yT)=Θ)
  (lG:ξ K Γ "_law_product"=ζ (ζ (.ref yM))) (BS:K.lookup yM=ζ ⟨Xk,Wz,.func (PySem.W.fnOf "_law_product" "_law_product" (cu qd) (bZ qd) (aR qd) .none ZX adb T5 afP MC ad4),Q7⟩) (Ff:PySem.W.codeIn K MC "_law_product"=Θ) (CC:PySem.W.keepIn K (.ref yM)=Θ)
  (lA:ξ K Γ "_law_sum"=ζ (ζ (.ref yG))) (BK:K.lookup yG=ζ ⟨Xe,Wt,.func (PySem.W.fnOf "_law_sum" "_law_sum" (cu p7) (bZ p7) (aR p7) .none ZR ac5 TV afJ Mw adY),Q0⟩) (E7:PySem.W.codeIn K Mw "_law_sum"=Θ) (Cv:PySem.W.keepIn K (.ref yG)=Θ)
  (lF:ξ K Γ "_law_products_of"=ζ (ζ (.ref yL))) (BR:K.lookup yL=ζ ⟨Xj,Wy,.func (PySem.W.fnOf "_law_products_of" "_law_products_of" (cu qc) (bZ qc) (aR qc) .none ZW ada T4 afO MB ad3),Q6⟩) (Fe:PySem.W.codeIn K MB "_law_products_of"=Θ) (CB:PySem.W.keepIn K (.ref yL)=Θ)
  (lJ:ξ K Γ "_law_order"=ζ (ζ (.ref yP))) (BW:K.lookup yP=ζ ⟨Xn,WC,.func (PySem.W.fnOf "_law_order" "_law_order" (cu qi) (bZ qi) (aR qi) .none Z0 adg T8 afS MF ad7),Ra⟩) (Fj:PySem.W.codeIn K MF "_law_order"=Θ) (CG:PySem.W.keepIn K (.ref yP)=Θ)
  (lR:ξ K Γ "_law_cycled"=ζ (ζ (.ref yW))) (B7:K.lookup yW=ζ ⟨Xv,WK,.func (PySem.W.fnOf "_law_cycled" "_law_cycled" (cu qq) (bZ qq) (aR qq) .none Z7 adn Ug afZ MM aee),Rj⟩) (Fy:PySem.W.codeIn K MM "_law_cycled"=Θ) (CN:PySem.W.keepIn K (.ref yW)=Θ)
  (lD:ξ K Γ "_law_six"=ζ (ζ (.ref yJ))) (BO:K.lookup yJ=ζ ⟨Xh,Ww,.func (PySem.W.fnOf "_law_six" "_law_six" (cu qa) (bZ qa) (aR qa) .none ZU ac8 TZ afM Mz ad1),Q4⟩) (Fb:PySem.W.codeIn K Mz "_law_six"=Θ) (Cz:PySem.W.keepIn K (.ref yJ)=Θ)
  (lB:ξ K Γ "_law_square"=ζ (ζ (.ref yH))) (BL:K.lookup yH=ζ ⟨Xf,Wu,.func (PySem.W.fnOf "_law_square" "_law_square" (cu p8) (bZ p8) (aR p8) .none ZS ac6 TX afK Mx adZ),Q2⟩) (E8:PySem.W.codeIn K Mx "_law_square"=Θ) (Cw:PySem.W.keepIn K (.ref yH)=Θ)
  (lP:ξ K Γ "_law_field_squares"=ζ (ζ (.ref yU))) (B3:K.lookup yU=ζ ⟨Xs,WI,.func (PySem.W.fnOf "_law_field_squares" "_law_field_squares" (cu qo) (bZ qo) (aR qo) .none Z5 adl Ud afX MK aec),Rh⟩) (Fw:PySem.W.codeIn K MK "_law_field_squares"=Θ) (CL:PySem.W.keepIn K (.ref yU)=Θ)
  (lC:ξ K Γ "_law_some_net"=ζ (ζ (.ref yI))) (BN:K.lookup yI=ζ ⟨Xg,Wv,.func (PySem.W.fnOf "_law_some_net" "_law_some_net" (cu p9) (bZ p9) (aR p9) .none ZT ac7 TY afL My ad0),Q3⟩) (E9:PySem.W.codeIn K My "_law_some_net"=Θ) (Cy:PySem.W.keepIn K (.ref yI)=Θ)
  (ly:ξ K Γ "_law_told"=ζ (ζ (.ref yD))) (BH:K.lookup yD=ζ ⟨W9,Wq,.func (PySem.W.fnOf "_law_told" "_law_told" (cu pX) (bZ pX) (aR pX) .none ZO ac2 TQ afG Mt adV),QX⟩) (E4:PySem.W.codeIn K Mt "_law_told"=Θ) (Cs:PySem.W.keepIn K (.ref yD)=Θ)
  (jX:ξ K Γ "law"=ζ (ζ (.ref Ei))) (B9:K.lookup Ei=ζ ⟨Xx,WM,.func (PySem.W.fnOf "law" "law" (cu qu) (bZ qu) (aR qu) .none Z9 adp Ui af1 MO aeg),Rn⟩) (FA:PySem.W.codeIn K MO "law"=Θ) (CP:PySem.W.keepIn K (.ref Ei)=Θ)
  (z8:ξ K Γ "ValueError"=ζ θ)
  (z7:ξ K Γ "all"=ζ θ)
  (z6:ξ K Γ "bool"=ζ θ)
  (z5:ξ K Γ "enumerate"=ζ θ)
  (z4:ξ K Γ "int"=ζ θ)
  (z3:ξ K Γ "isinstance"=ζ θ)
  (zZ:ξ K Γ "len"=ζ θ)
  (zY:ξ K Γ "list"=ζ θ)
  (zX:ξ K Γ "max"=ζ θ)
  (zW:ξ K Γ "min"=ζ θ)
  (zV:ξ K Γ "range"=ζ θ)
  (zU:ξ K Γ "set"=ζ θ)
  (zT:ξ K Γ "sorted"=ζ θ)
  (zS:ξ K Γ "tuple"=ζ θ)
  {sY:Tok}(z9:ξ K Γ "MOST_SIGNS"=ζ (ζ (.int 7 sY)))
  {tw:Tok}(Ab:ξ K Γ "LEAST_PAIRED"=ζ (ζ (.int 3 tw)))
  {sZ:Tok}(Aa:ξ K Γ "MOST_PAIRED"=ζ (ζ (.int 10 sZ)))
  {tE:Tok}(Ac:ξ K Γ "LEAST_IN_NET"=ζ (ζ (.int 2 tE)))
  {rQ:Ω}(wV:ξ K Γ "NoWeb"=ζ (ζ (.ref rQ)))
  {rS:Ω}(wX:ξ K Γ "NoText"=ζ (ζ (.ref rS)))
  {rV:Ω}(xg:ξ K Γ "NoNumbers"=ζ (ζ (.ref rV)))
  {rX:Ω}(xj:ξ K Γ "NoField"=ζ (ζ (.ref rX)))
  {rR:Ω}(wW:ξ K Γ "NoThing"=ζ (ζ (.ref rR)))
  {oX:Ω}(qK:ξ K Γ "NoSquare"=ζ (ζ (.ref oX)))
  {rU:Ω}(wZ:ξ K Γ "NoPlaces"=ζ (ζ (.ref rU)))
  {rP:Ω}(wU:ξ K Γ "TooMany"=ζ (ζ (.ref rP)))
  {rW:Ω}(xh:ξ K Γ "NoName"=ζ (ζ (.ref rW)))
  {rY:Ω}(xm:ξ K Γ "NoDeed"=ζ (ζ (.ref rY)))
  {rT:Ω}(wY:ξ K Γ "NoRow"=ζ (ζ (.ref rT)))
  {nt:Ω}(wR:ξ K Γ "WebError"=ζ (ζ (.ref nt)))
  (Eo:PySem.W.excIn K oX vU "ValueError.__new__"=Θ)
  (fS:Ae K dR=Θ) (xw:Ad K dR nt=Θ)
  : ∃fd:ο,(∀(s:ε) (v:Ξ),abF s fd ⟨[v],[]⟩ [("script",v)])/\∀base:χ,K.In base->base.Ns Γ mg->bK l.prog w K mg base bS 9 fa fd ["script"] (b7 K 1 uE):=by
 have e:=hfa.symm.trans (ail X G jX);cases e;have N4:=cC (st:=qw) Cb FE CS;have iD:=N4.binds (ps:=["thing"]) λ_ _ _ _ _ _ us hl=>match us,hl with|[_],_=>rfl
 have N3:=cC (st:=qv) Ca FD CQ;have gW:=N3.binds (ps:=["thing","least","most"]) λ_ _ _ _ _ _ us hl=>match us,hl with|[_,_,_],_=>rfl
 have N7:=cC (st:=qz) Ce FH CV;have sG:=N7.binds (ps:=["thing","many"]) λ_ _ _ _ _ _ us hl=>match us,hl with|[_,_],_=>rfl
 have N8:=cC (st:=qA) Cf FI CW;have sH:=N8.binds (ps:=["rows","y"]) λ_ _ _ _ _ _ us hl=>match us,hl with|[_,_],_=>rfl
 have N5:=cC (st:=qx) Cc FF CT;have pD:=N5.binds (ps:=["thing"]) λ_ _ _ _ _ _ us hl=>match us,hl with|[_],_=>rfl
 have Nx:=cC (st:=pR) BB EX Ck;have oY:=Nx.binds (ps:=["square","cell"]) λ_ _ _ _ _ _ us hl=>match us,hl with|[_,_],_=>rfl
 have ND:=cC (st:=pW) BG E3 Cr;have kX:=ND.binds (ps:=["one","other"]) λ_ _ _ _ _ _ us hl=>match us,hl with|[_,_],_=>rfl
 have N9:=cC (st:=qB) Cg FJ CY;have k6:=N9.binds (ps:=["squares"]) λ_ _ _ _ _ _ us hl=>match us,hl with|[_],_=>rfl
 have N6:=cC (st:=qy) Cd FG CU;have iE:=N6.binds (ps:=["n","thing"]) λ_ _ _ _ _ _ us hl=>match us,hl with|[_,_],_=>rfl
 have Ny:=cC (st:=pS) BC EY Cm;have oZ:=Ny.binds (ps:=["n","thing"]) λ_ _ _ _ _ _ us hl=>match us,hl with|[_,_],_=>rfl
 have NB:=cC (st:=pU) BE E1 Cp;have afm:=NB.binds (ps:=["n","squares"]) λ_ _ _ _ _ _ us hl=>match us,hl with|[_,_],_=>rfl
 have NC:=cC (st:=pV) BF E2 Cq;have nu:=NC.binds (ps:=["n","squares"]) λ_ _ _ _ _ _ us hl=>match us,hl with|[_,_],_=>rfl
 have Nz:=cC (st:=pT) BD EZ Co;have afl:=Nz.binds (ps:=["m"]) λ_ _ _ _ _ _ us hl=>match us,hl with|[_],_=>rfl
 have N1:=cC (st:=qt) B8 Fz CO;have pC:=N1.binds (ps:=["script","k"]) λ_ _ _ _ _ _ us hl=>match us,hl with|[_,_],_=>rfl
 have NR:=cC (st:=qg) BV Fi CF;have pA:=NR.binds (ps:=["cell"]) λ_ _ _ _ _ _ us hl=>match us,hl with|[_],_=>rfl
 have NG:=cC (st:=pY) BI E5 Ct;have pe:=NG.binds (ps:=["pot","far"]) λ_ _ _ _ _ _ us hl=>match us,hl with|[_,_],_=>rfl
 have NU:=cC (st:=qk) BY Fp CI;have sy:=NU.binds (ps:=["e"]) λ_ _ _ _ _ _ us hl=>match us,hl with|[_],_=>rfl
 have NQ:=cC (st:=qe) BU Fg CD;have sf:=NQ.binds (ps:=["q"]) λ_ _ _ _ _ _ us hl=>match us,hl with|[_],_=>rfl
 have NY:=cC (st:=qp) B6 Fx CM;have sC:=NY.binds (ps:=["q"]) λ_ _ _ _ _ _ us hl=>match us,hl with|[_],_=>rfl
 have NN:=cC (st:=qb) BQ Fc CA;have sd:=NN.binds (ps:=["number","p","many"]) λ_ _ _ _ _ _ us hl=>match us,hl with|[_,_,_],_=>rfl
 have NT:=cC (st:=qj) BX Fo CH;have su:=NT.binds (ps:=["row","p"]) λ_ _ _ _ _ _ us hl=>match us,hl with|[_,_],_=>rfl
 have NH:=cC (st:=pZ) BJ E6 Cu;have kZ:=NH.binds (ps:=["one","other","p"]) λ_ _ _ _ _ _ us hl=>match us,hl with|[_,_,_],_=>rfl
 have NV:=cC (st:=ql) BZ Ft CJ;have ny:=NV.binds (ps:=["many","p"]) λ_ _ _ _ _ _ us hl=>match us,hl with|[_,_],_=>rfl
 have NW:=cC (st:=qm) B0 Fv CK;have sA:=NW.binds (ps:=["q"]) λ_ _ _ _ _ _ us hl=>match us,hl with|[_],_=>rfl
 have NP:=cC (st:=qd) BS Ff CC;have se:=NP.binds (ps:=["q","form","one","other"]) λ_ _ _ _ _ _ us hl=>match us,hl with|[_,_,_,_],_=>rfl
 have NI:=cC (st:=p7) BK E7 Cv;have rZ:=NI.binds (ps:=["q","one","other","sign"]) λ_ _ _ _ _ _ us hl=>match us,hl with|[_,_,_,_],_=>rfl
 have NO:=cC (st:=qc) BR Fe CB;have pq:=NO.binds (ps:=["q"]) λ_ _ _ _ _ _ us hl=>match us,hl with|[_],_=>rfl
 have NS:=cC (st:=qi) BW Fj CG;have sj:=NS.binds (ps:=["pot","many"]) λ_ _ _ _ _ _ us hl=>match us,hl with|[_,_],_=>rfl
 have NZ:=cC (st:=qq) B7 Fy CN;have sD:=NZ.binds (ps:=["pot","n"]) λ_ _ _ _ _ _ us hl=>match us,hl with|[_,_],_=>rfl
 have NL:=cC (st:=qa) BO Fb Cz;have r9:=NL.binds (ps:=["pot"]) λ_ _ _ _ _ _ us hl=>match us,hl with|[_],_=>rfl
 have NJ:=cC (st:=p8) BL E8 Cw;have r8:=NJ.binds (ps:=["pot","n"]) λ_ _ _ _ _ _ us hl=>match us,hl with|[_,_],_=>rfl
 have NX:=cC (st:=qo) B3 Fw CL;have pB:=NX.binds (ps:=["q"]) λ_ _ _ _ _ _ us hl=>match us,hl with|[_],_=>rfl
 have NK:=cC (st:=p9) BN E9 Cy;have nv:=NK.binds (ps:=["pot"]) λ_ _ _ _ _ _ us hl=>match us,hl with|[_],_=>rfl
 have NF:=cC (st:=pX) BH E4 Cs;have kY:=NF.binds (ps:=["way","n","squares"]) λ_ _ _ _ _ _ us hl=>match us,hl with|[_,_,_],_=>rfl
 have N2:=cC (st:=qu) B9 FA CP;have sE:=N2.binds (ps:=["script"]) λ_ _ _ _ _ _ us hl=>match us,hl with|[_],_=>rfl
 let T:Tx K mg:={
  lU:=yZ,Eb:=_,EH:=⟨N4,ail X G lU,iD⟩,YJ:=lU,
  lT:=yY,Ea:=_,u7:=⟨N3,ail X G lT,gW⟩,YI:=lT,
  lX:=zb,Ef:=_,zu:=⟨N7,ail X G lX,sG⟩,YM:=lX,
  lY:=zc,Eg:=_,EJ:=⟨N8,ail X G lY,sH⟩,YN:=lY,
  lV:=y9,Ec:=_,EI:=⟨N5,ail X G lV,pD⟩,YK:=lV,
  k8:=yv,DJ:=_,zk:=⟨Nx,ail X G k8,oY⟩,Yg:=k8,
  lq:=yC,DM:=_,Eu:=⟨ND,ail X G lq,kX⟩,Yl:=lq,
  lZ:=zd,Eh:=_,EK:=⟨N9,ail X G lZ,k6⟩,YO:=lZ,
  lW:=za,Ed:=_,zq:=⟨N6,ail X G lW,iE⟩,YL:=lW,
  jU:=yw,yr:=_,rF:=⟨Ny,ail X G jU,oZ⟩,Yh:=jU,
  lg:=yy,DL:=_,Et:=⟨NB,ail X G lg,afm⟩,Yj:=lg,
  jV:=yz,yt:=_,u5:=⟨NC,ail X G jV,nu⟩,Yk:=jV,
  k9:=yx,DK:=_,Es:=⟨Nz,ail X G k9,afl⟩,Yi:=k9,
  lS:=yX,D8:=_,EG:=⟨N1,ail X G lS,pC⟩,YG:=lS,
  lI:=yO,DX:=_,EB:=⟨NR,ail X G lI,pA⟩,Yx:=lI,
  lz:=yE,DO:=_,iC:=⟨NG,ail X G lz,pe⟩,Yn:=lz,
  lM:=yR,D0:=_,EC:=⟨NU,ail X G lM,sy⟩,YA:=lM,
  lH:=yN,DW:=_,rH:=⟨NQ,ail X G lH,sf⟩,Yw:=lH,
  lQ:=yV,D6:=_,zp:=⟨NY,ail X G lQ,sC⟩,YE:=lQ,
  lE:=yK,DT:=_,ni:=⟨NN,ail X G lE,sd⟩,Yt:=lE,
  lK:=yQ,DZ:=_,zm:=⟨NT,ail X G lK,su⟩,Yz:=lK,
  jW:=yF,yu:=_,u6:=⟨NH,ail X G jW,kZ⟩,Yo:=jW,
  lN:=yS,D3:=_,zo:=⟨NV,ail X G lN,ny⟩,YB:=lN,
  lO:=yT,D4:=_,ED:=⟨NW,ail X G lO,sA⟩,YC:=lO,
  lG:=yM,DV:=_,EA:=⟨NP,ail X G lG,se⟩,Yv:=lG,
  lA:=yG,DP:=_,Ew:=⟨NI,ail X G lA,rZ⟩,Yp:=lA,
  lF:=yL,DU:=_,Ez:=⟨NO,ail X G lF,pq⟩,Yu:=lF,
  lJ:=yP,DY:=_,rJ:=⟨NS,ail X G lJ,sj⟩,Yy:=lJ,
  lR:=yW,D7:=_,EF:=⟨NZ,ail X G lR,sD⟩,YF:=lR,
  lD:=yJ,DS:=_,Ey:=⟨NL,ail X G lD,r9⟩,Ys:=lD,
  lB:=yH,DQ:=_,zl:=⟨NJ,ail X G lB,r8⟩,Yq:=lB,
  lP:=yU,D5:=_,EE:=⟨NX,ail X G lP,pB⟩,YD:=lP,
  lC:=yI,DR:=_,Ex:=⟨NK,ail X G lC,nv⟩,Yr:=lC,
  ly:=yD,DN:=_,rG:=⟨NF,ail X G ly,kY⟩,Ym:=ly,
  jX:=fa,D9:=_,LX:=⟨N2,ail X G jX,sE⟩,YH:=jX,
  JG:=ai9 X G z8,
  qR:=ai9 X G z7,
  JF:=ai9 X G z6,
  JE:=ai9 X G z5,
  JD:=ai9 X G z4,
  fJ:=ai9 X G z3,
  cS:=ai9 X G zZ,
  xQ:=ai9 X G zY,
  Bj:=ai9 X G zX,
  JC:=ai9 X G zW,
  cM:=ai9 X G zV,
  xP:=ai9 X G zU,
  JB:=ai9 X G zT,
  iR:=ai9 X G zS,
  sY:=sY,Dy:=ail X G z9,
  tw:=tw,Lc:=ail X G Ab,
  sZ:=sZ,Lb:=ail X G Aa,
  tE:=tE,Ld:=ail X G Ac,
  rQ:=rQ,K1:=ail X G wV,Jr:=wV,
  rS:=rS,K3:=ail X G wX,Jt:=wX,
  rV:=rV,K7:=ail X G xg,Jx:=xg,
  rX:=rX,K9:=ail X G xj,Jz:=xj,
  rR:=rR,K2:=ail X G wW,Js:=wW,
  oX:=oX,K4:=ail X G qK,Ju:=qK,
  rU:=rU,K6:=ail X G wZ,Jw:=wZ,
  rP:=rP,K0:=ail X G wU,Jq:=wU,
  rW:=rW,K8:=ail X G xh,Jy:=xh,
  rY:=rY,La:=ail X G xm,JA:=xm,
  rT:=rT,K5:=ail X G wY,Jv:=wY,
  nt:=nt,KZ:=ail X G wR,Yc:=wR,
  Ai:=vA.of qK (ail X G qK) Eo,
  fS:=vz.of fS,xw:=xw}
 exact⟨_,λs v=>.of_eq rfl,λbase _ _=>V6 T⟩
theorem walk{l:abi}{q:τ}{loose:List Str}{XP:(Str->Option Ξ)->χ->Prop}{YP:ψ->χ->Prop}{d:DefRec}{K:Params->Δ}{ts:List (Ω×Ω)}(hn:l.most=ζ 63) (hdf:d.params.defaults=[])
  (hY:∀(w:ψ) (h:χ),YP w h->(K w.params).In h/\∀q∈ts,h.get? q.2=ζ (PySem.W.tabObj #[]))
  (hK:∀p,(ts.all λq=>PySem.W.codeHdIn (K p) q.1 q.2)=Θ/\PySem.W.noTabs (K p)=Θ/\Ar (K p) ts=Θ)
  (F:∀(w:ψ) (mg:Str->Option Ξ) (fa:Ω) (h:χ),(K w.params).In h->h.Ns Γ mg->mg d.name=ζ (.ref fa) ->
   ∃fd:ο,(∀(s:ε) (u:Ξ),abF s fd ⟨[u],[]⟩ [("script",u)])/\∀base:χ,(K w.params).In base->base.Ns Γ mg->bK l.prog w (K w.params) mg base bS 9 fa fd ["script"] (b7 (K w.params) 1 uE)) :
  PySem.W.WalkO q loose XP YP l.row.toRowW d [] (λf vs=>PySem.call f vs) :=
 L2.OS (n:=63) (k:=9) (x:="script") hn (by decide) hdf ⟨rfl,by decide,by decide⟩ hY hK F Zs
end Ev
noncomputable 
def PySem.W.Fast.tw7634187916627866863:Nat:=0
noncomputable def PySem.W.Fast.tw17301924313117747002:Nat:=0
noncomputable def PySem.W.Fast.tw5139057449690261862:Nat:=0
noncomputable def PySem.W.Fast.tw9820643544406409405:Nat:=0
noncomputable def PySem.W.Fast.tw2820401604483381023:Nat:=0
noncomputable def PySem.W.Fast.tw12157447563964389989:Nat:=0
noncomputable def PySem.W.Fast.tw7273150950066103878:Nat:=0
noncomputable def PySem.W.Fast.tw3126284285171586226:Nat:=0
noncomputable def PySem.W.Fast.tw16220593673797010386:Nat:=0
noncomputable def PySem.W.Fast.tw15094046799817854762:Nat:=0
noncomputable def PySem.W.Fast.tw6368448377399191488:Nat:=0
noncomputable def PySem.W.Fast.tw10788825888881542765:Nat:=0
noncomputable def PySem.W.Fast.tw16585156848544563551:Nat:=0
noncomputable def PySem.W.Fast.tw9269868775347917761:Nat:=0
noncomputable def PySem.W.Fast.tw12356361763789918864:Nat:=0
noncomputable def PySem.W.Fast.tw10168805367675239439:Nat:=0
noncomputable def PySem.W.Fast.tw13500950148889510340:Nat:=0
noncomputable def PySem.W.Fast.tw12853725903590096238:Nat:=0
noncomputable def PySem.W.Fast.tw6680817514687585140:Nat:=0
noncomputable def PySem.W.Fast.tw1884627359577676964:Nat:=0
noncomputable def PySem.W.Fast.tw14674027428352053766:Nat:=0
noncomputable def PySem.W.Fast.tw12307063201651773145:Nat:=0
noncomputable def PySem.W.Fast.tw13141017323964232639:Nat:=0
noncomputable def PySem.W.Fast.tw10323852346656899191:Nat:=0
noncomputable def PySem.W.Fast.tw17684537125103557647:Nat:=0
noncomputable def PySem.W.Fast.tw1149026433964662408:Nat:=0
noncomputable def PySem.W.Fast.tw12562670450111480949:Nat:=0
noncomputable def PySem.W.Fast.tw6186272464689632786:Nat:=0
noncomputable def PySem.W.Fast.tw4469145205763792477:Nat:=0
noncomputable def PySem.W.Fast.tw2479362003868699333:Nat:=0
noncomputable def PySem.W.Fast.tw14923926000509464384:Nat:=0
noncomputable def PySem.W.Fast.tw16981387535315913573:Nat:=0
noncomputable def PySem.W.Fast.tw6331642466322316508:Nat:=0
noncomputable def PySem.W.Fast.tw16747353349976499033:Nat:=0
noncomputable def PySem.W.Fast.tw788579875125275851:Nat:=0
noncomputable def PySem.W.Fast.tw6270455352429493689:Nat:=0
noncomputable def PySem.W.Fast.tw13841466158219880897:Nat:=0
noncomputable def PySem.W.Fast.tw17992679754627331997:Nat:=0
noncomputable def PySem.W.Fast.tw111836186581636809:Nat:=0
noncomputable def PySem.W.Fast.tw3229785190747630686:Nat:=0
noncomputable def PySem.W.Fast.tw8063780069022775343:Nat:=0
noncomputable def PySem.W.Fast.tw16463564059622694457:Nat:=0
noncomputable def PySem.W.Fast.tw16387392731092916945:Nat:=0
noncomputable def PySem.W.Fast.tw7018044400243652378:Nat:=0
noncomputable def PySem.W.Fast.tw9184532940582878246:Nat:=0
noncomputable def PySem.W.Fast.tw2411835126257933543:Nat:=0
noncomputable def PySem.W.Fast.tw11302744241437657713:Nat:=0
noncomputable def PySem.W.Fast.tw16621827751171613208:Nat:=0
noncomputable def PySem.W.Fast.tw227906743879781027:Nat:=0
noncomputable def PySem.W.Fast.tw10365089147875370562:Nat:=0
noncomputable def PySem.W.Fast.tw15022272653716503074:Nat:=0
noncomputable def PySem.W.Fast.tw13383702234540526271:Nat:=0
open PySem PySem.W PyProof.Rows
set_option maxRecDepth 100000 in
set_option maxHeartbeats 0 in
theorem PySem.Challenge.cw_evenwebs_k56_no_nets_refused_holds : PySem.Challenge.rw_evenwebs_k56_no_nets_refused.Holds := by
  w_on; o_law; k_head; (case hw => w_witness2)
  k_fill
  refine Ev.walk (l := PySem.Challenge.rw_evenwebs_k56_no_nets_refused) (ts := [(241, 239), (253, 251)]) rfl rfl (fun w h Y => ⟨PySem.W.km_in_of Y, amN.mpr ⟨amO Y _ (by first | k_mem | decide), amN.mpr ⟨amO Y _ (by first | k_mem | decide), fun _ h => nomatch h⟩⟩⟩) (fun p => ⟨by kernel_rfl, by kernel_rfl, by kernel_rfl⟩) ?F
  case F =>
    intro w mg fa h KX G hmg
    refine' Ev.all_mk KX G hmg ?lU ?Cb ?FE ?CS ?lT ?Ca ?FD ?CQ ?lX ?Ce ?FH ?CV ?lY ?Cf ?FI ?CW ?lV ?Cc ?FF ?CT ?k8 ?BB ?EX ?Ck ?lq ?BG ?E3 ?Cr ?lZ ?Cg ?FJ ?CY ?lW ?Cd ?FG ?CU ?jU ?BC ?EY ?Cm ?lg ?BE ?E1 ?Cp ?jV ?BF ?E2 ?Cq ?k9 ?BD ?EZ ?Co ?lS ?B8 ?Fz ?CO ?lI ?BV ?Fi ?CF ?lz ?BI ?E5 ?Ct ?lM ?BY ?Fp ?CI ?lH ?BU ?Fg ?CD ?lQ ?B6 ?Fx ?CM ?lE ?BQ ?Fc ?CA ?lK ?BX ?Fo ?CH ?jW ?BJ ?E6 ?Cu ?lN ?BZ ?Ft ?CJ ?lO ?B0 ?Fv ?CK ?lG ?BS ?Ff ?CC ?lA ?BK ?E7 ?Cv ?lF ?BR ?Fe ?CB ?lJ ?BW ?Fj ?CG ?lR ?B7 ?Fy ?CN ?lD ?BO ?Fb ?Cz ?lB ?BL ?E8 ?Cw ?lP ?B3 ?Fw ?CL ?lC ?BN ?E9 ?Cy ?ly ?BH ?E4 ?Cs ?jX ?B9 ?FA ?CP ?z8 ?z7 ?z6 ?z5 ?z4 ?z3 ?zZ ?zY ?zX ?zW ?zV ?zU ?zT ?zS ?z9 ?Ab ?Aa ?Ac ?wV ?wX ?xg ?xj ?wW ?qK ?wZ ?wU ?xh ?xm ?wY ?wR ?Eo ?fS ?xw
    case lU|Cb|FE|CS|lT|Ca|FD|CQ|lX|Ce|FH|CV|lY|Cf|FI|CW|lV|Cc|FF|CT|k8|BB|EX|Ck|lq|BG|E3|Cr|lZ|Cg|FJ|CY|lW|Cd|FG|CU|jU|BC|EY|Cm|lg|BE|E1|Cp|jV|BF|E2|Cq|k9|BD|EZ|Co|lS|B8|Fz|CO|lI|BV|Fi|CF|lz|BI|E5|Ct|lM|BY|Fp|CI|lH|BU|Fg|CD|lQ|B6|Fx|CM|lE|BQ|Fc|CA|lK|BX|Fo|CH|jW|BJ|E6|Cu|lN|BZ|Ft|CJ|lO|B0|Fv|CK|lG|BS|Ff|CC|lA|BK|E7|Cv|lF|BR|Fe|CB|lJ|BW|Fj|CG|lR|B7|Fy|CN|lD|BO|Fb|Cz|lB|BL|E8|Cw|lP|B3|Fw|CL|lC|BN|E9|Cy|ly|BH|E4|Cs|jX|B9|FA|CP|z8|z7|z6|z5|z4|z3|zZ|zY|zX|zW|zV|zU|zT|zS|z9|Ab|Aa|Ac|wV|wX|xg|xj|wW|qK|wZ|wU|xh|xm|wY|wR=>k_is
    (case Eo => k_exc)
    (case fS => kernel_rfl)
    (case xw => kernel_rfl)
