import PyProof.Rows.All
import Wide.All
import OpenK.AllK
import Wide.FinOn
import Lean
import PyProof.EqAt
import PyProof.EqKinds
import PyProof.TupleCall
import PySem.Challenge.RW_evenwebs_k02_no_webs_and_no_pairs
import PyProof.P3In
import PyProof.EqLayable
import PyProof.SumAny
import PyProof.NoPylong
import PyProof.FitsBits
import PyProof.ExcArgsOwn
import PyProof.ExcBaseAll.ValueError
import PyProof.Rows.SeqMore
import PyProof.DictRoads
import PyProof.DictKinds
import PyProof.Rows.FactsT2
import KE.KRevIter
import PyProof.SetScanFacts
import PyProof.SetKind
import PyProof.Rows.SetFrom
import PyProof.Walks
import PyProof.DictValues
import PyProof.FactsAll.set_1
import PyProof.DictWalks
import KE.KDictSum
import PyProof.WalksMore
import PyProof.AutoSeq1
import PyProof.IsRules
import KE.KLam
set_option Elab.async false
set_option linter.all false
set_option maxHeartbeats 4000000
set_option maxRecDepth 100000
set_option bootstrap.genMatcherCode false
set_option genSizeOfSpec false
set_option genSizeOf false
open PySem renaming wpAny_bind→afS,wpAny_pure→afT,wpAny_mono→agh,wpAny_newObj_type→agw,boot_len→agB,wpAny_call_entry→agL,mem_of_lookup→agP,wpAny_holding→agR,codeAny_mono→agS,wpAny_field→agT,wpAny_truthy_bool→ag0,call_meets→ag2,wpAny_callSpecial?_slot→ahb,wpAny_call→ahk,wpAny_Call_Name_kw→ahl,codeAny_builtin→aht,wpAny_pyIter_tuple→ahC,wpAny_passesOwn→ahE,wpAny_typeOf→ahH,typeIs_int→ahJ,wpAny_setField→ahM,wpAny_askSetting→ahS,wpAny_execs_nil→ahT,wpAny_pyIter_list→ahU,sizeLine_eq→ahW,wpAny_rule→ah2,wpAny_of_eq→ah3,codeAny_call_builtin→ah9,wpAny_setState_of→aie,isSubtype_type→aif,wpAny_standAt→air,concat_meets→aiy,noFill_tuple_add→aiz,seq_tuple_add→aiA,wpAny_sequenceKey→aiE,pushCells_keeps→aiH,wpAny_loadPart_at→aiN,codeAny_of_tree→aiV,wpAny_setEntries_of→aiX,codeAny_call_function→ai9,wpAny_newFunctionEnv_cells→ajb,list_append→ajg,wpAny_binaryOp_repeat_ref→ajh,wpAny_comprehension_free→ajk,weight_type_call_type→ajH,builtinLookup_eq_fast→ajK
open Nat renaming le_refl→afU,ne_of_lt→afX,lt_of_lt_of_le→af3,le_trans→agf,zero_add→agr,lt_irrefl→agu,zero_le→agK,ne_of_gt→agO,le_of_eq→ag3,lt_succ_self→ag4,le_of_lt→ag8,mul_le_mul→ahh,succ_mul→ahp,lt_succ_of_lt→ahq,lt_or_ge→ahv,le_succ→ahK,sub_self→ahN,lt_trans→ahP,testBit_two_pow_sub_one→ahQ,le_add_right→ah4,add_zero→aia,mod_eq_of_lt→ain,not_lt_zero→aiO,mod_lt→aiW,min_le_right→ajc,le_of_not_lt→aji,eq_zero_or_pos→ajx,lt_trichotomy→ajy,mod_eq_sub_mod→aj0
open PySem.Heap renaming lt_size→afV,get?_push_of_some→afY,get?_push_size→aga,size_push→agF,get?_update_other→ahn,get?_update_self→ahI
open List renaming mem_cons→afW,size_toArray→af0,length_cons→af1,getElem?_eq_getElem→af2,mem_map→af4,getElem?_eq_some_iff→af6,length_map→af7,map_cons→af8,nil_append→af9,all_eq_true→agc,length_nil→agd,mem_range→age,getD_eq_getElem?_getD→agi,mem_of_getElem?→agk,map_map→agl,mem_append→agm,mem_singleton→agn,length_append→ago,not_mem_nil→agp,lookup_cons→ags,mem_of_mem_take→agt,getElem?_map→agv,append_assoc→agx,mem_cons_of_mem→agy,getElem?_append_left→agC,getElem?_append_right→agG,map_congr_left→agH,getElem?_set_self→agI,mem_append_right→agJ,getElem_mem→agM,mem_cons_self→agN,getElem?_set_ne→agU,append_nil→agW,replicate_succ→agY,take_length→agZ,flatten_cons→ag1,mem_iff_getElem→ag5,pairwise_cons→ag6,map_id→ag7,nodup_cons→ag9,length_take→aha,getElem?_eq_none→ahe,length_range'→ahg,filter_eq_self→ahi,filterMap_cons→ahj,of_mem_zip→ahm,reverse_cons→aho,cons_append→ahx,find?_cons→ahy,getElem_inj→ahB,mem_filterMap→ahD,length_range→ahR,length_drop→ahX,foldl_cons→ahZ,any_eq_true→ah5,nodup_append→ah6,getElem?_take→ah7,getElem_range→ah8,getElem_of_mem→aib,ext_getElem→aic,map_append→aid,take_of_length_le→aih,range_succ_eq_map→ail,mem_range'→aim,mem_append_left→aiq,getElem?_replicate→aiv,getElem?_take_of_lt→aiw,take_sublist→aix,drop_eq_getElem_cons→aiK,getElem_take→aiL,mem_of_mem_drop→aiP,take_append_drop→aiS,mem_reverse→aiY,any_cons→aiZ,getElem_map→ai1,length_reverse→ai2,mem_filter→ai4,any_eq_false→ai7,filterMap_map→ajd,getElem?_zip_eq_some→ajl,set_cons_succ→ajo,drop_eq_nil_of_le→ajp,mem_replicate→ajq,countP_cons→ajt,findIdx?_eq_some_iff_getElem→aju,length_eq_zero_iff→ajv,range_succ→ajz,perm_append_singleton→ajA,pairwise_map→ajB,map_filterMap→ajC,take_succ_eq_append_getElem→ajD,foldl_append→ajE,perm_middle→ajL,perm_ext_iff_of_nodup→ajO,ext_getElem?→ajP,zip_cons_cons→ajS,mem_map_of_mem→ajT,getElem?_range→ajW,getElem_set→ajX,idxOf_lt_length_iff→ajY,range'_eq_map_range→ajZ
open PySem.W renaming mg_of→afZ,mg_none_of→agD,kia_one→agE,cellsFrom_some→ahF,of_hideAll→aip,kitx_dict→ais,callWith_K→ait,hideAll_get→ai3,kitx_list→ai8,codeRec_of→aja,codeHd_of_K→ajQ
open Bool renaming and_eq_true→af5,false_ne_true→agg,eq_iff_iff→agV,false_eq_true→ahc,or_eq_true→ahr
open Option.some renaming inj→agb
open PyProof.Rows renaming boot_isinstance→agj,boot_tuple→agQ,slot_tuple_getitem→agX,boot_all→ahz,boot_min→ahA,callWith_type1→ahV,tupleItemsOf_→ahY,entry_tuple_getitem→aiF,args_tuple_getitem→aiG
open Array renaming length_toList→agq,getElem?_toList→ahf,getElem?_eq_getElem→ahw,toList_push→aiR,append_assoc→ai5,getD_eq_getD_getElem?→ajw,getElem?_eq_none→ajM,toList_append→ajR
open Ne renaming symm→agz
open PySem.F renaming called_set→agA,plainAttrs_list→ahO,slot_int_rmul→ah0,slot_tuple_iterator_next→ah1,slot_tuple_add→aiB,entry_tuple_add→aiC,args_tuple_add_2→aiD,entry_tuple_iterator_next→ajm,args_tuple_iterator_next_1→ajn,typeOf_object_class→ajs,plain_set_new→ajF,entry_type_call→ajG,typeCall_set_1→ajI,entry_set_init→ajJ,slot_set_iter→ajN
open PySem.Heap.SameBut renaming update→ahd
open PySem.Obj renaming data_mapFields→ahs,isFreed_of_fields→aiI,cls_mapFields→aiJ
open Int renaming zero_add→ahu,toNat_natCast→ahL,emod_nonneg→aij,emod_lt_of_pos→aik,toNat_of_nonneg→ai0
open Option renaming isSome_iff_exists→ahG,map_some→aii,getD_none→aje,isSome_some→ajj,isSome_map→ajU,bind_some→ajV
open PySem.Paired renaming length→aio
open PySem.Around renaming frames_deeper→aiu,under_plainId→aiT
open PySem.Code renaming quiet_builtin→aiM
open PySem.SetTable renaming insertAt_perm→aiQ
open PyProof.Rows.F renaming plain_set_update_loop→aiU
open PySem.Calls renaming Name_function_global→ai6
open PySem.IsL renaming update→ajf
open PySem.W.Looks renaming ld→ajr
open Option renaming some→ζ,none→η
open Bool renaming false→θ,true→Γ
open PySem.W renaming Frag→ξ,nsIn→Ξ,OpenLaw→aaS
open PySem renaming Value→Δ,mainGlobals→Θ,Addr→Ψ,Shared→Ω,sizeLine→ε,starEach→μ,Expr→ο,FuncData→π,Program→τ,World→υ,Around→χ,Heap→ψ,NameKind→aae,Stmt→aag,backTo→aah,SetTable→aai,Scope→aaj,keywordEach→aak,Keyword→aam,attributeBase→aao,IsPart→aaq,backToKw→aaB,Arguments→aaH,cLine→aaR,BindsTo→aa6,PyData→aa7,GenState→aa8,TriplesOk→abE
open List renaming range→ι,replicate→ν,Nodup→ω
open PySem.Heap renaming FlyingW→aal,SameBut→aan
open PyProof.Rows renaming AllBare→aap,IntsAre→aaG
noncomputable section
namespace L2
open PySem PySem.Spec PyProof.Rows
abbrev Key:=Sum Int Str
def rY:Key->Δ->Bool
 |.inl k,v=>Value.isInt k v
 |.inr x,v=>Value.isStrOf x v
def Yj(w:υ):Key->Int
 |.inl k=>hashInt k
 |.inr x=>hashStr w x
theorem k8:∀{k:Key}{v:Δ},rY k v=Γ->(∃i t,k=Sum.inl i/\v=Value.int i t)\/(∃x t,k=Sum.inr x/\v=Value.str x t)
 |.inl i,v,h=>by
  obtain⟨t,e⟩:=Value.isInt_shape (k:=i) (v:=v) h;exact .inl ⟨i,t,rfl,e⟩
 |.inr x,v,h=>by
  obtain⟨t,e⟩:=Value.isStrOf_shape (x:=x) (v:=v) h;exact .inr ⟨x,t,rfl,e⟩
theorem Yi(i:Int) (t:Tok):rY (.inl i) (.int i t)=Γ:=by simp[rY,Value.isInt]
theorem Yh(x:Str) (t:Tok):rY (.inr x) (.str x t)=Γ:=by simp[rY,Value.isStrOf]
theorem Yg(a b:Int):decide ((Sum.inl a:Key)=Sum.inl b)=(a==b):=by
 by_cases e:a=b
 ·subst e;simp
 ·have h:¬(Sum.inl a:Key)=Sum.inl b:=λq=>e (Sum.inl.inj q)
  rw[decide_eq_false h];exact(beq_eq_false_iff_ne.mpr e).symm
theorem Yc(a b:Str):decide ((Sum.inr a:Key)=Sum.inr b)=decide (a=b):=by
 by_cases e:a=b
 ·subst e;simp
 ·have h:¬(Sum.inr a:Key)=Sum.inr b:=λq=>e (Sum.inr.inj q)
  rw[decide_eq_false h,decide_eq_false e]
theorem Ye(a:Int) (b:Str):decide ((Sum.inl a:Key)=Sum.inr b)=θ:=decide_eq_false (λq=>nomatch q)
theorem Yd(a:Str) (b:Int):decide ((Sum.inr a:Key)=Sum.inl b)=θ:=decide_eq_false (λq=>nomatch q)
def iS(prog:τ) (w:υ):PySem.KeyKind prog w Key where
 is:=rY
 hash:=Yj w
 inj:=λv a b ha hb=>by
  rcases k8 ha with⟨i,t,rfl,rfl⟩|⟨x,t,rfl,rfl⟩
  ·rcases k8 hb with⟨j,u,rfl,e⟩|⟨y,u,rfl,e⟩
   ·injection e with e1 _;rw[e1]
   ·exact nomatch e
  ·rcases k8 hb with⟨j,u,rfl,e⟩|⟨y,u,rfl,e⟩
   ·exact nomatch e
   ·injection e with e1 _;rw[e1]
 byValue:=λk v h=>by
  rcases k8 h with⟨i,t,rfl,rfl⟩|⟨x,t,rfl,rfl⟩<;>rfl
 pyHash:=λhv h=>by
  rcases k8 hv with⟨i,t,rfl,rfl⟩|⟨x,t,rfl,rfl⟩
  ·exact wpAny_pyHash_int h
  ·exact wpAny_pyHash_str h
 eqBool:=λhu hv h=>by
  rcases k8 hu with⟨i,t,rfl,rfl⟩|⟨x,t,rfl,rfl⟩
  ·rcases k8 hv with⟨j,u,rfl,rfl⟩|⟨y,u,rfl,rfl⟩
   ·rw[Yg]at h;exact wpAny_eqBool_int h
   ·rw[Ye]at h;exact SeqAt.EqAt.int_str i t y u _ _ _ _ h
  ·rcases k8 hv with⟨j,u,rfl,rfl⟩|⟨y,u,rfl,rfl⟩
   ·rw[Yd]at h;exact SeqAt.EqAt.str_int x t j u _ _ _ _ h
   ·rw[Yc]at h;exact wpAny_eqBool_str h
 «strs»:=λk x t v h=>by
  rcases k8 h with⟨i,u,rfl,e⟩|⟨y,u,rfl,e⟩
  ·exact nomatch e
  ·injection e with e1 _
   subst e1;cases v<;>rfl
theorem Xu(prog:τ) (w:υ) (i:Int) (t:Tok):(iS prog w).is (.inl i) (.int i t)=Γ:=Yi i t
theorem Xs(prog:τ) (w:υ) (x:Str) (t:Tok):(iS prog w).is (.inr x) (.str x t)=Γ:=Yh x t
inductive V where
 |aI|bl (b:Bool)|int (i:Int)|str (x:Str)|jQ (b:Array UInt8)|se (b:UInt64)|ref (a:Ψ)|ty (n:String)
 deriving DecidableEq
def RelV:V->Δ->Prop
 |.aI,u=>u=Value.none
 |.bl b,u=>u=Value.bool b
 |.int i,u=>∃t,u=Value.int i t
 |.str x,u=>∃t,u=Value.str x t
 |.jQ b,u=>∃t,u=Value.bytes b t
 |.se b,u=>∃t,u=Value.float b t
 |.ref a,u=>u=Value.ref a
 |.ty n,u=>u=Value.type n
abbrev Vals:List V->List Δ->Prop:=Paired RelV
theorem Vals.length{xs:List V}{us:List Δ}(r:Vals xs us):xs.length=us.length:=aio r
theorem Vals.get:∀{xs:List V}{us:List Δ}{i:Nat}{x:V},Vals xs us->xs[i]? = ζ x->∃u,us[i]? = ζ u/\RelV x u
 |_,_,_,_,.nil,e=>by simp at e
 |_,_,0,_,.cons r _,e=>by simp at e;subst e;exact⟨_,rfl,r⟩
 |_,_,i+1,x,.cons _ t,e=>by
  obtain⟨u,h1,h2⟩:=Vals.get (i:=i) (x:=x) t (by simpa using e)
  exact⟨u,by simpa using h1,h2⟩
theorem Vals.set{x:V}{u:Δ}(r:RelV x u):∀{xs:List V}{us:List Δ}(i:Nat),Vals xs us->Vals (xs.set i x) (us.set i u)
 |_,_,_,.nil=>.nil
 |_,_,0,.cons _ t=>.cons r t
 |_,_,i+1,.cons q t=>.cons q (Vals.set r i t)
theorem Vals.append:∀{xs ys:List V}{us ws:List Δ},Vals xs us->Vals ys ws->Vals (xs++ys) (us++ws)
 |_,_,_,_,.nil,s=>s
 |_,_,_,_,.cons r t,s=>.cons r (Vals.append t s)
theorem Vals.take:∀{xs:List V}{us:List Δ}(n:Nat),Vals xs us->Vals (xs.take n) (us.take n)
 |_,_,0,_=>.nil
 |_,_,_+1,.nil=>.nil
 |_,_,n+1,.cons r t=>.cons r (Vals.take n t)
theorem Vals.drop:∀{xs:List V}{us:List Δ}(n:Nat),Vals xs us->Vals (xs.drop n) (us.drop n)
 |_,_,0,r=>r
 |_,_,_+1,.nil=>.nil
 |_,_,n+1,.cons _ t=>Vals.drop n t
def qa:Option V->Option Δ->Prop
 |some v,ζ u=>RelV v u
 |none,η=>True
 |_,_=>False
def KV{κ:Type}:List (κ×V)->List (κ×Δ)->Prop:=Paired fun(p:κ×V) (q:κ×Δ)=>p.1=q.1/\RelV p.2 q.2
def kV:Key->V
 |.inl i=>.int i
 |.inr x=>.str x
inductive HO where
 |lst (xs:List V)
 |tup (xs:List V)
 |dK (kvs:List (Key×V))|dT (kvs:List (List Key×V))
 |set (S:Int->Bool) (n:Nat)
 |ins (C dx:Ψ) (fs:List (Str×V))
 |own (x:Ψ)
 |xd (fs:List (Str×V))
 |met (f x:Ψ)
 |wN (lo hi:Int)
 |cB (o:Obj) (u:HO)
 |cD (ps:Array Δ)
 |ext (φ:ψ->Prop)
abbrev Hp:=Ψ->Option HO
def upd(H:Hp) (a:Ψ) (o:HO):Hp:=λb=>if b=a then ζ o else H b
theorem gw{H:Hp}{a:Ψ}{o:HO}:upd H a o a=ζ o:=by unfold upd;rw[if_pos rfl]
theorem bz{H:Hp}{a b:Ψ}{o:HO}(h:b≠a):upd H a o b=H b:=by unfold upd;rw[if_neg h]
theorem AW{H:Hp}{a b:Ψ}{o u:HO}(h:H a=ζ o) (h':H b=ζ u) (d:o≠u):a≠b:=by
 intro e;subst e;rw[h]at h';exact d (agb h')
theorem cX{H:Hp}{a b:Ψ}{o:HO}(h:H a=ζ o) (h':H b=η):a≠b:=by
 intro e;subst e;rw[h]at h';cases h'
def jn(h:ψ) (a:Ψ) (items:Array Δ):Prop:=∃o,h.get? a=ζ o/\o.cls=.type "tuple"/\(∃n,o.data=.seq items n)/\o.dict=η
theorem jn.tup{h:ψ}{a:Ψ}{items:Array Δ}:jn h a items->IsTup h a items:=fun⟨o,e,c,d,_⟩=>⟨o,e,c,d⟩
theorem jn.new(h:ψ) (items:Array Δ):jn (h.push {cls:=.type "tuple",data:=.seq items}) h.objs.size items:=⟨_,aga _ rfl,rfl,⟨_,rfl⟩,rfl⟩
section
variable (P:τ) (w:υ)
def dz(H:Hp) (h:ψ) (a:Ψ):HO->Prop
 |.lst xs=>xs.length<=ε/\∃(its:List Δ) (n:Nat),Vals xs its/\h.get? a=ζ {cls:=.type "list",data:=.seq its.toArray n}
 |.tup xs=>xs.length<=ε/\∃its:List Δ,Vals xs its/\jn h a its.toArray
 |.dK kvs=>kvs.length<=ε/\(a==sysModules)=θ/\∃vs,KV kvs vs/\h.DictOf (iS P w) a vs
 |.dT kvs=>kvs.length<=ε/\(a==sysModules)=θ/\∃xs:List (List Key×Ψ×Δ),
   Paired (fun(p:List Key×V) (q:List Key×Ψ×Δ)=>p.1=q.1/\H q.2.1=ζ (.tup (p.1.map kV))/\RelV p.2 q.2.2) kvs xs /\
   ∃o es ep,h.get? a=ζ o/\o.ExactDict/\o.data=.dict es ep/\es.toList=xs.map (entryOfKey (tupleKind (iS P w)))/\(xs.map (·.1)).Nodup
 |.set S n=>h.SetOf (intKind P w) a S n
 |.ins C dx fs=>H dx=ζ (.own a)/\fs.length<=1000/\dx≠a/\h.get? a=ζ (PySem.W.instObj C dx) /\
   ∃mA,h.Ns1 dx mA/\(∀f,qa (fs.lookup f) (mA f))/\PySem.Within mA (fs.map (·.1))
 |.own _=>∃o,h.get? a=ζ o
 |.xd fs=>∃mA,h.Ns1 a mA/\∀f,qa (fs.lookup f) (mA f)
 |.wN lo hi=>∃t u v,h.get? a=ζ {cls:=.type "range",data:=.fields #[.int lo t,.int hi u,.int 1 v]}
 |.cB o u=>h.get? a=ζ o/\dz H h a u
 |.cD ps=>h.get? a=ζ {cls:=.none,data:=.fields ps}
 |.met f x=>h.get? a=ζ (PySem.W.methodObj (.ref f) (.ref x))
 |.ext φ=>φ h/\(∃o,h.get? a=ζ o)/\∀h1 h2:ψ,φ h1->(∀o,h1.get? a=ζ o->h2.get? a=ζ o)->φ h2
def bZ(H:Hp) (h:ψ):Prop:=∀a o,H a=ζ o->dz P w H h a o
end
section
variable {P:τ}{w:υ}{H H':Hp}{h h':ψ}{a:Ψ}{o:HO}
theorem dz.lt(x:dz P w H h a o):a<h.objs.size:=by
 cases o with
 |lst xs=>obtain⟨_,_,_,_,e⟩:=x;exact afV e
 |tup xs=>obtain⟨_,_,_,p⟩:=x;exact p.tup.lt
 |dK kvs=>obtain⟨_,_,_,_,o,_,_,e,_⟩:=x;exact afV e
 |dT kvs=>obtain⟨_,_,_,_,o,_,_,e,_⟩:=x;exact afV e
 |set S n=>obtain⟨o,_,_,_,e,_⟩:=x;exact afV e
 |ins C dx fs=>obtain⟨_,_,_,e,_⟩:=x;exact afV e
 |own y=>obtain⟨_,e⟩:=x;exact afV e
 |xd fs=>obtain⟨_,⟨_,_,_,e,_⟩,_⟩:=x;exact afV e
 |wN lo hi=>obtain⟨_,_,_,e⟩:=x;exact afV e
 |cB ob u=>obtain⟨e,_⟩:=x;exact afV e
 |cD ps=>exact afV (show h.get? a=ζ _ from x)
 |met f y=>exact afV (show h.get? a=ζ _ from x)
 |ext φ=>obtain⟨_,⟨_,e⟩,_⟩:=x;exact afV e
theorem Paired.A4{α β:Type}{F G:α->β->Prop}:∀{l₁:List α}{l₂:List β},Paired F l₁ l₂->(∀a b,F a b->G a b)->Paired G l₁ l₂
 |_,_,.nil,_=>.nil
 |_,_,.cons r t,f=>.cons (f _ _ r) (Paired.A4 t f)
theorem dz.stay(x:dz P w H h a o) (k:∀b u,(b=a\/H b=ζ (.own a))->h.get? b=ζ u->h'.get? b=ζ u)
  (ho:∀b,H b=ζ (.own a)->H' b=ζ (.own a)) (ht:∀b xs,H b=ζ (.tup xs)->H' b=ζ (.tup xs)):dz P w H' h' a o:=by
 induction o with
 |lst xs=>obtain⟨z,its,n,r,e⟩:=x;exact⟨z,its,n,r,k _ _ (.inl rfl) e⟩
 |tup xs=>obtain⟨z,its,r,ob,e,c⟩:=x;exact⟨z,its,r,ob,k _ _ (.inl rfl) e,c⟩
 |dK kvs=>obtain⟨z,y,vs,r,ob,es,ep,e,c⟩:=x;exact⟨z,y,vs,r,ob,es,ep,k _ _ (.inl rfl) e,c⟩
 |dT kvs =>
  obtain⟨z,y,xs,r,ob,es,ep,e,c⟩:=x;exact⟨z,y,xs,Paired.A4 r λp q z=>⟨z.1,ht _ _ z.2.1,z.2.2⟩,ob,es,ep,k _ _ (.inl rfl) e,c⟩
 |set S n=>obtain⟨ob,es,ep,t,e,c⟩:=x;exact⟨ob,es,ep,t,k _ _ (.inl rfl) e,c⟩
 |ins C dx fs =>
  obtain⟨d,z,ne,e,mA,⟨od,es,ep,e2,c⟩,r⟩:=x;exact⟨ho _ d,z,ne,k _ _ (.inl rfl) e,mA,⟨od,es,ep,k _ _ (.inr d) e2,c⟩,r⟩
 |own y=>obtain⟨ob,e⟩:=x;exact⟨ob,k _ _ (.inl rfl) e⟩
 |xd fs=>obtain⟨mA,⟨od,es,ep,e,c⟩,r⟩:=x;exact⟨mA,⟨od,es,ep,k _ _ (.inl rfl) e,c⟩,r⟩
 |wN lo hi=>obtain⟨t,u,v,e⟩:=x;exact⟨t,u,v,k _ _ (.inl rfl) e⟩
 |cB ob u ih=>obtain⟨e,q⟩:=x;exact⟨k _ _ (.inl rfl) e,ih q⟩
 |cD ps =>
  have e:h.get? a=ζ {cls:=.none,data:=.fields ps}:=x;show h'.get? a=ζ {cls:=.none,data:=.fields ps};exact k a _ (.inl rfl) e
 |met f y =>
  have e:h.get? a=ζ (PySem.W.methodObj (.ref f) (.ref y)):=x;show h'.get? a=ζ (PySem.W.methodObj (.ref f) (.ref y));exact k a _ (.inl rfl) e
 |ext φ=>obtain⟨p,⟨o,e⟩,st⟩:=x;exact⟨st _ _ p λo q=>k _ _ (.inl rfl) q,⟨o,k _ _ (.inl rfl) e⟩,st⟩
theorem bZ.lt(x:bZ P w H h) (e:H a=ζ o):a<h.objs.size:=(x a o e).lt
theorem bZ.fresh(x:bZ P w H h) (e:h.objs.size<=a):H a=η:=by
 cases q:H a with
 |none=>rfl
 |some u=>exact absurd (af3 (x.lt q) e) (agu _)
theorem bZ.kept(x:bZ P w H h) (k:∀b u,h.get? b=ζ u->h'.get? b=ζ u):bZ P w H h':=λa o e =>
 (x a o e).stay (λb u _ q=>k b u q) (λ_ q=>q) λ_ _ q=>q
theorem bZ.laid(x:bZ P w H h) (k:∀b u,h.get? b=ζ u->h'.get? b=ζ u) (hp:h.objs.size<=a) (new:dz P w (upd H a o) h' a o):bZ P w (upd H a o) h':=λb u e=>by
 have hn:=x.fresh hp
 by_cases hb:b=a
 ·subst hb;rw[gw]at e;cases e;exact new
 ·rw[bz hb]at e;exact(x b u e).stay (λc v _ q=>k c v q) (λc q=>by rw[bz (cX q hn)];exact q) λc xs q=>by rw[bz (cX q hn)];exact q
end
def Rd(H:Hp) (a:Ψ) (u:HO):Prop:=H a=ζ u\/∃o,H a=ζ (.cB o u)
theorem Rd.ok{P:τ}{w:υ}{H:Hp}{h:ψ}{a:Ψ}{u:HO}(r:Rd H a u) (x:bZ P w H h):dz P w H h a u:=by
 rcases r with r|⟨o,r⟩
 ·exact x a u r
 ·obtain⟨_,q⟩:=x a _ r;exact q
def vK:Option HO->Prop
 |some (.lst _)=>True
 |some (.dK _)=>True
 |some (.dT _)=>True
 |some (.set _ _)=>True
 |some (.ins _ _ _)=>True
 |some (.ext _)=>True
 |_=>False
section
variable {P:τ}{w:υ}{H:Hp}{h h':ψ}{x e:Ψ}{o':HO}
theorem bZ.write(ok:bZ P w H h) (mu:vK (H x)) (he:e=x\/H e=ζ (.own x)) (k:∀b u,b≠e->h.get? b=ζ u->h'.get? b=ζ u) (r8:∃u,h'.get? e=ζ u)
  (new:dz P w (upd H x o') h' x o'):bZ P w (upd H x o') h':=λb u q=>by
 have HL:∀c y,H c=ζ (.own y)->c≠x:=λc y r z=>by subst z;rw[r]at mu;exact mu
 have VV:∀c xs,H c=ζ (.tup xs)->c≠x:=λc xs r z=>by subst z;rw[r]at mu;exact mu
 by_cases hb:b=x
 ·subst hb;rw[gw]at q;cases q;exact new
 ·rw[bz hb]at q
  by_cases pA:b=e
  ·have q':H b=ζ (.own x):=by
    rcases he with z|z
    ·exact absurd (pA.trans z) hb
    ·rw[pA];exact z
   rw[q]at q';cases q';obtain⟨v,hv⟩:=r8;exact⟨v,by rw[pA];exact hv⟩
  ·refine(ok b u q).stay (λc v hc r=>k c v ?_ r) (λc r=>by rw[bz (HL c b r)];exact r) λc xs r=>by rw[bz (VV c xs r)];exact r
   rcases hc with rfl|hc
   ·exact pA
   ·rintro rfl
    rcases he with z|z
    ·exact HL c b hc z
    ·rw[hc]at z;cases z;exact hb rfl
end
structure Un (fs ex:List Ψ) (H H':Hp) (h h':ψ):Prop where
 keep:∀b o,h.get? b=ζ o->H b=η->b∉fs->b∉ex->h'.get? b=ζ o
 slot:∀b o,h.get? b=ζ o->H b=η->b∈fs->b∉ex->∃sl,h'.get? b=ζ {o with slots:=sl}
 free:∀b o,h.get? b=ζ o->H b=η->b∉ex->H' b=η
 there:∀b o,h.get? b=ζ o->b∉ex->∃o',h'.get? b=ζ o'
 tups:∀b xs,H b=ζ (.tup xs)->H' b=ζ (.tup xs)
 gf:∀b o u,H b=ζ (.cB o u)->H' b=ζ (.cB o u)
 gx:∀b ps,H b=ζ (.cD ps)->∃more,H' b=ζ (.cD (ps++more))
section
variable {fs fs' ex ex':List Ψ}{H H1 H2:Hp}{h h1 h2 h':ψ}{a x e:Ψ}{o:HO}
theorem Un.any(u:Un fs ex H H1 h h1) {b:Ψ}{ob:Obj}(q:h.get? b=ζ ob) (n:H b=η) (hx:b∉ex):∃sl,h1.get? b=ζ {ob with slots:=sl}:=by
 by_cases hb:b∈fs
 ·exact u.slot b ob q n hb hx
 ·exact⟨ob.slots,u.keep b ob q n hb hx⟩
theorem Un.kept(k:∀b u,h.get? b=ζ u->h'.get? b=ζ u):Un fs ex H H h h' :=
 ⟨λb ob q _ _ _=>k b ob q,λb ob q _ _ _=>⟨ob.slots,k b ob q⟩,λ_ _ _ n _=>n,λb ob q _=>⟨ob,k b ob q⟩,λ_ _ q=>q,λ_ _ _ q=>q,λ_ ps q=>⟨#[],by rw[q];simp⟩⟩
theorem Un.refl:Un fs ex H H h h:=Un.kept λ_ _ q=>q
theorem Un.laid(k:∀b u,h.get? b=ζ u->h'.get? b=ζ u) (hp:h.objs.size<=a) (hn:H a=η):Un fs ex H (upd H a o) h h' where
 keep:=λb u q _ _ _=>k b u q
 slot:=λb u q _ _ _=>⟨u.slots,k b u q⟩
 free:=λb u q n _=>by rw[bz (afX (af3 (afV q) hp))];exact n
 there:=λb u q _=>⟨u,k b u q⟩
 tups:=λb xs q=>by rw[bz (cX q hn)];exact q
 gf:=λb u xs q=>by rw[bz (cX q hn)];exact q
 gx:=λb ps q=>⟨#[],by rw[bz (cX q hn),q];simp⟩
theorem Un.write(mu:vK (H x)) (he:e=x\/H e=ζ (.own x)) (k:∀b u,b≠e->h.get? b=ζ u->h'.get? b=ζ u) (r8:∃u,h'.get? e=ζ u):Un fs ex H (upd H x o) h h':=by
 have hx:∀b,H b=η->b≠x:=λb n z=>by subst z;rw[n]at mu;exact mu
 have hb:∀b,H b=η->b≠e:=λb n z=>by
  subst z
  rcases he with r|r
  ·exact hx b n r
  ·rw[n]at r;cases r
 have hm:∀b u,H b=ζ u->¬vK (ζ u)->b≠x:=λb u q nm z=>by subst z;rw[q]at mu;exact nm mu
 refine⟨λb u q n _ _=>k b u (hb b n) q,λb u q n _ _=>⟨u.slots,k b u (hb b n) q⟩,λb u q n _=>by rw[bz (hx b n)];exact n,λb u q _=>?_,
  λb xs q=>by rw[bz (hm b _ q λz=>z)];exact q,λb u xs q=>by rw[bz (hm b _ q λz=>z)];exact q,λb ps q=>⟨#[],by rw[bz (hm b _ q λz=>z),q];simp⟩⟩
 by_cases pA:b=e
 ·subst pA;exact r8
 ·exact⟨u,k b u pA q⟩
end
def fW(h:ψ) (H:Hp):List Ψ:=(ι h.objs.size).filter λa=>(H a).isSome
def lg(h:ψ) (H:Hp):ψ:=PySem.W.hideAll h (fW h H)
theorem ZO(h:ψ) (H:Hp):(lg h H).objs.size=h.objs.size:=PySem.W.hideAll_size _ _
theorem ZP{h:ψ}{H:Hp}{b:Ψ}{o:Obj}(e:h.get? b=ζ o) (n:H b=η):(lg h H).get? b=ζ o :=
 ai3 _ e λhm=>by
  have q:(H b).isSome=Γ:=(ai4.mp hm).2;rw[n]at q;simp at q
theorem UG{h:ψ}{H:Hp}{b:Ψ}{o:Obj}(e:(lg h H).get? b=ζ o):h.get? b=ζ o/\H b=η:=by
 have e':h.get? b=ζ o:=aip (fW h H) e;refine⟨e',?_⟩;cases q:H b with
 |none=>rfl
 |some x =>
  have hm:b∈fW h H:=ai4.mpr ⟨age.mpr (afV e'),by simp[q]⟩
  have z:(lg h H).get? b=η:=PySem.W.hideAll_none (fW h H) hm;rw[z]at e;cases e
structure Mod (K:ξ) (mg:Str->Option Δ) (base:ψ):Prop where
 kh:K.In base
 glob:base.Ns Θ mg
 blt:∃mb,base.Ns builtinsNs mb/\∀x:Str,x≠"__name__"->mb x=bootBuiltins x
 nolimit:base.NoLimit
 bmod:∃bm ob,mg "__builtins__"=ζ (.ref bm)/\bm≠builtinsNs/\base.get? bm=ζ ob/\ob.cls=.type "module"/\ob.dict=ζ builtinsNs/\ob.data=.plain
structure Cx where
 prog:τ
 w:υ
 K:ξ
 mg:Str->Option Δ
 base:ψ
 A:χ
 N:List Str
 s₀:Ω
 H₀:Hp
 env:Env
 outer:List Env
 stack:List Env
 ex:List Ψ
 fn:Str->Bool
 calm:Bool
 pn:List (Ψ×Obj)
 xe:Δ->Ω->Prop
def frs(l:List Env):List Ψ:=l.filterMap (·.frame)
abbrev Cx.fs(X:Cx):List Ψ:=frs X.outer
def vH(sc:aaj) (x:Str):Prop:=sc.names.lookup x=ζ .local\/sc.names.lookup x=ζ .cell\/sc.names.lookup x=ζ .free
def Loc(sc:aaj) (x:Str):Prop:=sc.names.lookup x=ζ .local\/sc.names.lookup x=ζ .cell
def Look(env:Env) (h:ψ) (m:Str->Option Δ) (x:Str) (u:Δ):Prop :=
 (env.kindOf x=ζ .local/\m x=ζ u)\/((env.kindOf x=ζ .cell\/env.kindOf x=ζ .free)/\∃c,env.cells.lookup x=ζ c/\h.IsCell c (ζ u))
structure Cx.Ok (X:Cx):Prop where
 mod:Mod X.K X.mg X.base
 kind:X.env.scope.kind=.function
 glob:X.env.globals=Θ
 blt:X.env.builtins=builtinsNs
 above:X.s₀.heap.objs.size<=X.env.locals
 inj:∀x y c,X.env.cells.lookup x=ζ c->X.env.cells.lookup y=ζ c->x=y
 has:∀x,(X.env.kindOf x=ζ .cell\/X.env.kindOf x=ζ .free)->∃c,X.env.cells.lookup x=ζ c
 jl:∀x c,X.fn x=Γ->X.env.cells.lookup x=ζ c->X.s₀.heap.objs.size<=c
 hd:X.calm=Γ->X.A.handled=η
 frames:X.A.frames=ζ X.stack
 stk:X.stack=X.outer\/(X.stack=X.env::X.outer/\X.env.frame=ζ X.env.locals)
 lz:∀b∈X.ex,b≠X.env.locals/\∀x c,X.env.cells.lookup x=ζ c->c≠b
 bs:∀b o,X.base.get? b=ζ o->X.s₀.heap.get? b=ζ o/\X.H₀ b=η
 gj:X.base.objs.size<=X.s₀.heap.objs.size
 jg:∀b o,X.base.get? b=ζ o->b∉X.ex
 kj:∀b∈X.ex,b∉X.fs
 fF:X.s₀.heap.FunFrames X.base X.outer
 ir:∀b∈X.fs,X.H₀ b=η
structure Inv (X:Cx) (pins:List (Ψ×Obj)) (σ:List (Option V)) (H:Hp) (s:Ω):Prop where
 ok:X.Ok
 os:s.os=X.s₀.os
 bare:aap s.gens
 base:Un X.fs X.ex X.H₀ H X.s₀.heap s.heap
 loc:∃m,s.heap.Ns X.env.locals m/\∀(i:Nat) (x:Str) (v:V),X.N[i]? = ζ x->σ[i]? = ζ (ζ v)->vH X.env.scope x->∃u,RelV v u/\Look X.env s.heap m x u
 cell:∀x c,X.env.cells.lookup x=ζ c->∃v,s.heap.IsCell c v
 free:H X.env.locals=η
 fT:∀x c,X.env.cells.lookup x=ζ c->H c=η
 pin:∀p∈X.pn++pins,s.heap.get? p.1=ζ p.2/\H p.1=η/\p.1≠X.env.locals/\p.1∉X.fs/\∀v,p.2.data≠.cell v
 hok:bZ X.prog X.w H s.heap
 len:σ.length=X.N.length
section
variable {X:Cx}{pins:List (Ψ×Obj)}{σ:List (Option V)}{H H':Hp}{s:Ω}{h':ψ}
theorem Cx.Ok.V8(ok:X.Ok) {b:Ψ}{o:Obj}(e:X.base.get? b=ζ o):b∉X.fs:=λhb=>by
 have:=(ok.fF.mem hb).1;rw[e]at this;cases this
theorem Inv.bs(I:Inv X pins σ H s):∀b o,X.base.get? b=ζ o->s.heap.get? b=ζ o/\H b=η:=λb o e =>
 ⟨I.base.keep b o (I.ok.bs b o e).1 (I.ok.bs b o e).2 (I.ok.V8 e) (I.ok.jg b o e),I.base.free b o (I.ok.bs b o e).1 (I.ok.bs b o e).2 (I.ok.jg b o e)⟩
theorem Inv.bk(I:Inv X pins σ H s):∀b o,X.base.get? b=ζ o->s.heap.get? b=ζ o:=λb o e=>(I.bs b o e).1
theorem Inv.mod(I:Inv X pins σ H s):Mod X.K X.mg X.base:=I.ok.mod
theorem Inv.dX(I:Inv X pins σ H s):X.K.In s.heap:=I.ok.mod.kh.keeps I.bk
theorem Inv.lt(I:Inv X pins σ H s):X.env.locals<s.heap.objs.size:=let⟨_,hn,_⟩:=I.loc;hn.lt
theorem Inv.sz(I:Inv X pins σ H s):X.s₀.heap.objs.size<=s.heap.objs.size:=agf I.ok.above (ag8 I.lt)
theorem Inv.AS(I:Inv X pins σ H s) {a:Ψ}(h:s.heap.objs.size<=a):a∉X.fs:=λhb=>by
 obtain⟨_,o,ho,_⟩:=I.ok.fF.mem hb;exact absurd (af3 (afV ho) (agf I.sz h)) (agu _)
theorem Inv.nA(I:Inv X pins σ H s):∀x c,X.env.cells.lookup x=ζ c->c≠X.env.locals:=λx c e z=>by
 obtain⟨v,o,ho,hd⟩:=I.cell x c e;obtain⟨m,⟨o',es,ep,ho',hd',_⟩,_⟩:=I.loc;rw[z,ho']at ho;cases ho;rw[hd']at hd;cases hd
theorem Inv.fF(I:Inv X pins σ H s):s.heap.FunFrames X.base X.outer:=by
 have all:∀(l:List Env),(∀b∈frs l,b∈X.fs)->X.s₀.heap.FunFrames X.base l->s.heap.FunFrames X.base l:=by
  intro l
  induction l with
  |nil=>intro _ _;trivial
  |cons env r ih =>
   intro hs hl;obtain⟨hk,⟨L,o,hf,hn,ho,hd⟩,hr⟩:=hl;have hL:L∈X.fs:=hs L (by unfold frs;rw[ahj,hf];exact agN)
   obtain⟨sl,e⟩:=I.base.slot L o ho (I.ok.ir L hL) hL λz=>I.ok.kj L z hL
   exact⟨hk,⟨L,_,hf,hn,e,hd⟩,ih (λb hb=>hs b (by unfold frs;rw[ahj,hf];exact agy _ hb)) hr⟩
 exact all X.outer (λ_ hb=>hb) I.ok.fF
theorem Inv.stack(I:Inv X pins σ H s):s.heap.FunFrames X.base X.stack:=by
 rcases I.ok.stk with e|⟨e,hf⟩
 ·rw[e];exact I.fF
 ·rw[e];obtain⟨m,hn,_⟩:=I.loc;refine .cons (by rw[I.ok.kind];decide) hf hn ?_ I.fF
  exact Heap.get?_none_of_le (agf I.ok.gj I.ok.above)
theorem Inv.mK(I:Inv X pins σ H s):∀b∈frs X.stack,b∈X.env.locals::X.fs:=λb hb=>by
 rcases I.ok.stk with e|⟨e,hf⟩
 ·rw[e]at hb;exact agy _ hb
 ·rw[e]at hb;unfold frs at hb;rw[ahj,hf]at hb;exact hb
theorem Inv.wB(I:Inv X pins σ H s):∀b∈frs X.stack,H b=η:=λb hb=>by
 rcases afW.mp (I.mK b hb)with e|hb
 ·rw[e];exact I.free
 ·obtain⟨_,o,ho,_⟩:=I.ok.fF.mem hb;exact I.base.free b o ho (I.ok.ir b hb) λz=>I.ok.kj b z hb
theorem Inv.step{g':Array aa8}{t':Nat}{d':Drawn}{ch:List Ψ}(I:Inv X pins σ H s)
  (hch:∀b∈ch,(b∈X.ex\/X.s₀.heap.objs.size<=b)/\b≠X.env.locals/\(∀x c,X.env.cells.lookup x=ζ c->c≠b)/\∀p∈X.pn++pins,p.1≠b)
  (keep:∀b o,b≠X.env.locals->b∉X.fs->b∉ch->s.heap.get? b=ζ o->H b=η->h'.get? b=ζ o)
  (slot:∀b o,b≠X.env.locals->b∈X.fs->b∉ch->s.heap.get? b=ζ o->H b=η->∃sl,h'.get? b=ζ {o with slots:=sl}) (free:∀b o,b∉ch->s.heap.get? b=ζ o->H b=η->H' b=η)
  (there:∀b o,b∉ch->s.heap.get? b=ζ o->∃o',h'.get? b=ζ o')
  (tups:∀b xs,H b=ζ (.tup xs)->H' b=ζ (.tup xs)) (gf:∀b o u,H b=ζ (.cB o u)->H' b=ζ (.cB o u)) (gx:∀b ps,H b=ζ (.cD ps)->∃more,H' b=ζ (.cD (ps++more)))
  (ns:∀m,s.heap.Ns X.env.locals m->h'.Ns X.env.locals m) (hok:bZ X.prog X.w H' h') (hg:aap g') :
  Inv X pins σ H' {s with heap:=h',gens:=g',drawn:=d',toks:=t'}:=by
 have rP:∀b o,X.s₀.heap.get? b=ζ o->b≠X.env.locals:=λb o e=>afX (af3 (afV e) I.ok.above)
 have xM:∀b o,X.s₀.heap.get? b=ζ o->b∉X.ex->b∉ch:=λb o e hx hb=>by
  rcases(hch b hb).1 with z|z
  ·exact hx z
  ·exact absurd (af3 (afV e) z) (agu _)
 have cellK:∀x c,X.env.cells.lookup x=ζ c->∀v,s.heap.IsCell c v->h'.IsCell c v:=λx c e v ⟨o,ho,hd⟩=>by
  have jA:c∉ch:=λz=>(hch c z).2.2.1 x c e rfl
  by_cases hc:c∈X.fs
  ·obtain⟨sl,q⟩:=slot c o (I.nA x c e) hc jA ho (I.fT x c e);exact⟨_,q,hd⟩
  ·exact⟨o,keep c o (I.nA x c e) hc jA ho (I.fT x c e),hd⟩
 refine⟨I.ok,I.os,hg,⟨λb o e n hb hx=>?_,λb o e n hb hx=>?_,λb o e n hx=>?_,λb o e hx=>?_,λb xs e=>tups b xs (I.base.tups b xs e),λb o xs e=>gf b o xs (I.base.gf b o xs e),λb ps e=>?_⟩,?_,λx c e=>?_,?_,λx c e=>?_,λp hp=>?_,hok,I.len⟩
 ·exact keep b o (rP b o e) hb (xM b o e hx) (I.base.keep b o e n hb hx) (I.base.free b o e n hx)
 ·obtain⟨sl,e1⟩:=I.base.slot b o e n hb hx;obtain⟨Aw,e2⟩:=slot b _ (rP b o e) hb (xM b o e hx) e1 (I.base.free b o e n hx);exact⟨Aw,e2⟩
 ·obtain⟨o',e1⟩:=I.base.there b o e hx;exact free b o' (xM b o e hx) e1 (I.base.free b o e n hx)
 ·obtain⟨o',e1⟩:=I.base.there b o e hx;exact there b o' (xM b o e hx) e1
 ·obtain⟨m1,e1⟩:=I.base.gx b ps e;obtain⟨m2,e2⟩:=gx b _ e1;exact⟨m1++m2,by rw[e2,ai5]⟩
 ·obtain⟨m,hn,hl⟩:=I.loc;refine⟨m,ns m hn,λi x v e1 e2 e3=>?_⟩
  obtain⟨u,r,l⟩:=hl i x v e1 e2 e3;refine⟨u,r,?_⟩
  rcases l with l|⟨k,c,e,z⟩
  ·exact .inl l
  ·exact .inr ⟨k,c,e,cellK x c e _ z⟩
 ·obtain⟨v,z⟩:=I.cell x c e;exact⟨v,cellK x c e v z⟩
 ·obtain⟨m,⟨o,_,_,ho,_⟩,_⟩:=I.loc;exact free _ o (λz=>(hch _ z).2.1 rfl) ho I.free
 ·obtain⟨v,o,ho,hd⟩:=I.cell x c e;exact free c o (λz=>(hch c z).2.2.1 x c e rfl) ho (I.fT x c e)
 ·obtain⟨e,n,ne,nf,d⟩:=I.pin p hp;have jA:p.1∉ch:=λz=>(hch p.1 z).2.2.2 p hp rfl
  exact⟨keep p.1 p.2 ne nf jA e n,free p.1 p.2 jA e n,ne,nf,d⟩
theorem Inv.un{t':Nat}(I:Inv X pins σ H s) (u:Un X.fs [] H H' s.heap h') (hok:bZ X.prog X.w H' h'):Inv X pins σ H' {s with heap:=h',toks:=t'}:=by
 obtain⟨m,⟨o,es,ep,ho,r⟩,_⟩:=id I.loc;obtain⟨sl,hL⟩:=u.any ho I.free (by simp)
 exact I.step (g':=s.gens) (d':=s.drawn) (ch:=[]) (λ_ z=>nomatch z) (λb o _ hb _ e n=>u.keep b o e n hb (by simp)) (λb o _ hb _ e n=>u.slot b o e n hb (by simp)) (λb o _ e n=>u.free b o e n (by simp)) (λb o _ e=>u.there b o e (by simp)) u.tups u.gf u.gx (λm' hm=>by
  obtain⟨o',es',Dv,ho',r'⟩:=hm;rw[ho]at ho';cases ho';exact⟨_,es',Dv,hL,r'⟩) hok I.bare
theorem Inv.call{g':Array aa8}{t':Nat}{d':Drawn}{ch:List Ψ}(I:Inv X pins σ H s) (u:Un (frs X.stack) ch H H' s.heap h') (hok:bZ X.prog X.w H' h') (hg:aap g')
  (hch:∀b∈ch,(b∈X.ex\/X.s₀.heap.objs.size<=b)/\b≠X.env.locals/\(∀x c,X.env.cells.lookup x=ζ c->c≠b)/\∀p∈X.pn++pins,p.1≠b) :
  Inv X pins σ H' {s with heap:=h',gens:=g',drawn:=d',toks:=t'}:=by
 obtain⟨m,⟨o,es,ep,ho,r⟩,_⟩:=id I.loc;obtain⟨sl,hL⟩:=u.any ho I.free λz=>(hch _ z).2.1 rfl
 exact I.step (ch:=ch) hch (λb o hL hb hc e n=>u.keep b o e n (λz=>(afW.mp (I.mK b z)).elim hL hb) hc) (λb o _ _ hc e n=>u.any e n hc) (λb o hc e n=>u.free b o e n hc) (λb o hc e=>u.there b o e hc) u.tups u.gf u.gx (λm' hm=>by
  obtain⟨o',es',Dv,ho',r'⟩:=hm;rw[ho]at ho';cases ho';exact⟨_,es',Dv,hL,r'⟩) hok hg
theorem Inv.turned{t':Nat}{it:Ψ}(I:Inv X pins σ H s) (k:∀b o,b≠it->s.heap.get? b=ζ o->h'.get? b=ζ o) (hn:H it=η) (hL:it≠X.env.locals)
  (h1:it∈X.ex\/X.s₀.heap.objs.size<=it) (h2:∀x c,X.env.cells.lookup x=ζ c->c≠it) (h3:∀p∈X.pn++pins,p.1≠it):Inv X pins σ H {s with heap:=h',toks:=t'}:=by
 have HY:∀b u,H b=ζ u->b≠it:=λb u e z=>by rw[z,hn]at e;cases e
 refine I.step (g':=s.gens) (d':=s.drawn) (ch:=[it]) (λb hb=>?_) (λb o _ _ hc e _=>k b o (λz=>hc (by simp[z])) e) (λb o _ _ hc e _=>⟨o.slots,k b o (λz=>hc (by simp[z])) e⟩) (λ_ _ _ _ n=>n)
  (λb o hc e=>⟨o,k b o (λz=>hc (by simp[z])) e⟩) (λ_ _ e=>e) (λ_ _ _ e=>e) (λb ps e=>⟨#[],by rw[e];simp⟩) (λm hm=>?_) (λb u e=>?_) I.bare
 ·have e:b=it:=by simpa using hb
  subst e;exact⟨h1,hL,h2,h3⟩
 ·obtain⟨o,es,ep,ho,r⟩:=hm;exact⟨o,es,ep,k _ o (agz hL) ho,r⟩
 ·refine(I.hok b u e).stay (λc v hc q=>k c v ?_ q) (λ_ q=>q) λ_ _ q=>q
  rcases hc with z|z
  ·rw[z];exact HY b u e
  ·exact HY c _ z
theorem Inv.tok(I:Inv X pins σ H s) (t:Nat):Inv X pins σ H {s with toks:=t}:=I.un (h':=s.heap) (t':=t) Un.refl I.hok
theorem Inv.kept{t':Nat}(I:Inv X pins σ H s) (k:∀b u,s.heap.get? b=ζ u->h'.get? b=ζ u):Inv X pins σ H {s with heap:=h',toks:=t'}:=I.un (Un.kept k) (I.hok.kept k)
theorem Inv.laid{a:Ψ}{o:HO}{t':Nat}(I:Inv X pins σ H s) (k:∀b u,s.heap.get? b=ζ u->h'.get? b=ζ u) (hp:s.heap.objs.size<=a) (new:dz X.prog X.w (upd H a o) h' a o) :
  Inv X pins σ (upd H a o) {s with heap:=h',toks:=t'}:=I.un (Un.laid k hp (I.hok.fresh hp)) (I.hok.laid k hp new)
theorem Inv.write{x e:Ψ}{o:HO}{t':Nat}(I:Inv X pins σ H s) (mu:vK (H x)) (he:e=x\/H e=ζ (.own x)) (k:∀b u,b≠e->s.heap.get? b=ζ u->h'.get? b=ζ u) (r8:∃u,h'.get? e=ζ u)
  (new:dz X.prog X.w (upd H x o) h' x o):Inv X pins σ (upd H x o) {s with heap:=h',toks:=t'}:=I.un (Un.write mu he k r8) (I.hok.write mu he k r8 new)
theorem Inv.wV{rF:List (Ψ×Obj)}(I:Inv X pins σ H s) (h:∀p∈rF,s.heap.get? p.1=ζ p.2/\H p.1=η/\p.1≠X.env.locals/\p.1∉X.fs/\∀v,p.2.data≠.cell v):Inv X rF σ H s :=
 ⟨I.ok,I.os,I.bare,I.base,I.loc,I.cell,I.free,I.fT,λp hp=>(agm.mp hp).elim (λz=>I.pin p (aiq _ z)) (h p),I.hok,I.len⟩
theorem HQ{N:List Str}(hN:N.Nodup) {i j:Nat}{x:Str}(a:N[i]? = ζ x) (b:N[j]? = ζ x):i=j:=by
 obtain⟨h1,e1⟩:=af6.mp a;obtain⟨h2,e2⟩:=af6.mp b;exact(ahB hN).mp (e1.trans e2.symm)
theorem Gq{M:Model}{A:χ}{E:Δ->Ω->Prop}{i:Nat}{x:Str}{v:V}{u:Δ}{Q:Unit->Ω->Prop}(I:Inv X pins σ H s) (hN:X.N.Nodup) (hi:X.N[i]? = ζ x) (hx:Loc X.env.scope x) (r:RelV v u)
  (h:∀s',Inv X pins (σ.set i (ζ v)) H s'->(∃a,aan a s.heap s'.heap/\(a=X.env.locals\/X.env.cells.lookup x=ζ a))->Q () s') (hf:X.fn x=Γ\/X.env.scope.names.lookup x=ζ .local:=by first|exact .inl rfl|exact .inr rfl|assumption):wpAny M A (storeName X.env x u) Q E s:=by
 obtain⟨m,hn,hl⟩:=id I.loc;have hcls:(X.env.scope.kind == .class||(X.env.scope.kind == .module&&X.env.locals != X.env.globals))=θ:=by rw[I.ok.kind];rfl
 have JB:i<σ.length:=by rw[I.len];exact(af6.mp hi).1
 have nA:=I.nA;have tracked:∀{a:Ψ}{h':ψ},(∃o,s.heap.get? a=ζ o/\H a=η)->aan a s.heap h'->bZ X.prog X.w H h':=fun{a h'} ha hs b ob e=>by
  obtain⟨_,_,hfree⟩:=ha;refine(I.hok b ob e).stay (λc w' hc q=>(hs.2 c ?_).trans q) (λ_ q=>q) λ_ _ q=>q
  rintro rfl
  rcases hc with rfl|hc
  ·rw[hfree]at e;cases e
  ·rw[hfree]at hc;cases hc
 rcases hx with hk|hk
 ·refine wpAny_storeName_local hk hn (λh' hn' hs=>?_) hcls
  obtain⟨oL,_,_,vc,_⟩:=id hn;refine h _ ⟨I.ok,I.os,I.bare,⟨λb o e n hb hx=>?_,λb o e n hb hx=>?_,I.base.free,λb o e hx=>?_,I.base.tups,I.base.gf,I.base.gx⟩,⟨_,hn',λj y v' e1 e2 e3=>?_⟩,λy c e=>?_,I.free,I.fT,λp hp=>?_,tracked ⟨oL,vc,I.free⟩ hs,by simpa using I.len⟩ ⟨_,hs,.inl rfl⟩
  ·exact(hs.2 b (afX (af3 (afV e) I.ok.above))).trans (I.base.keep b o e n hb hx)
  ·obtain⟨sl,e1⟩:=I.base.slot b o e n hb hx;exact⟨sl,(hs.2 b (afX (af3 (afV e) I.ok.above))).trans e1⟩
  ·obtain⟨o',e1⟩:=I.base.there b o e hx;exact⟨o',(hs.2 b (afX (af3 (afV e) I.ok.above))).trans e1⟩
  ·by_cases hj:j=i
   ·subst hj;rw[hi]at e1;cases e1;rw[agI JB]at e2;cases e2;exact⟨u,r,.inl ⟨hk,by simp⟩⟩
   ·rw[agU (agz hj)]at e2;obtain⟨u',r',q⟩:=hl j y v' e1 e2 e3;refine⟨u',r',?_⟩
    rcases q with⟨k,e⟩|⟨k,c,e,z⟩
    ·refine .inl ⟨k,?_⟩;have:y≠x:=λe=>hj (HQ hN e1 (e▸hi))
     simp[this,e]
    ·exact .inr ⟨k,c,e,z.sameBut hs (nA y c e)⟩
  ·obtain⟨w',z⟩:=I.cell y c e;exact⟨w',z.sameBut hs (nA y c e)⟩
  ·obtain⟨e,n,ne,nf,d⟩:=I.pin p hp;exact⟨(hs.2 p.1 ne).trans e,n,ne,nf,d⟩
 ·have hfn:X.fn x=Γ:=by
   rcases hf with z|z
   ·exact z
   ·rw[z]at hk;cases hk
  obtain⟨c,hc⟩:=I.ok.has x (.inl hk);obtain⟨w',z⟩:=I.cell x c hc;refine wpAny_storeName_cell I.ok.kind hk hc z (λh' hc' hs=>?_)
  obtain⟨oc,hoc,ZF⟩:=id z;refine h {s with heap:=h'} ⟨I.ok,I.os,I.bare,⟨λb o e n hb hx=>?_,λb o e n hb hx=>?_,I.base.free,λb o e hx=>?_,I.base.tups,I.base.gf,I.base.gx⟩,⟨m,hn.sameBut hs (agz (nA x c hc)),λj y v' e1 e2 e3=>?_⟩,λy c' e=>?_,I.free,I.fT,λp hp=>?_,tracked ⟨oc,hoc,I.fT x c hc⟩ hs,by simpa using I.len⟩ ⟨c,hs,.inr hc⟩
  ·exact(hs.2 b (afX (af3 (afV e) (I.ok.jl x c hfn hc)))).trans (I.base.keep b o e n hb hx)
  ·obtain⟨sl,e1⟩:=I.base.slot b o e n hb hx;exact⟨sl,(hs.2 b (afX (af3 (afV e) (I.ok.jl x c hfn hc)))).trans e1⟩
  ·obtain⟨o',e1⟩:=I.base.there b o e hx;exact⟨o',(hs.2 b (afX (af3 (afV e) (I.ok.jl x c hfn hc)))).trans e1⟩
  ·by_cases hj:j=i
   ·subst hj;rw[hi]at e1;cases e1;rw[agI JB]at e2;cases e2;exact⟨u,r,.inr ⟨.inl hk,c,hc,hc'⟩⟩
   ·rw[agU (agz hj)]at e2;obtain⟨u',r',q⟩:=hl j y v' e1 e2 e3;refine⟨u',r',?_⟩
    rcases q with q|⟨k,c',e,z'⟩
    ·exact .inl q
    ·refine .inr ⟨k,c',e,z'.sameBut hs ?_⟩
     rintro rfl
     exact hj (HQ hN e1 (I.ok.inj _ _ _ e hc▸hi))
  ·by_cases hcc:c'=c
   ·subst hcc;exact⟨_,hc'⟩
   ·obtain⟨w2,z2⟩:=I.cell y c' e;exact⟨w2,z2.sameBut hs hcc⟩
  ·obtain⟨e,n,ne,nf,d⟩:=I.pin p hp;refine⟨(hs.2 p.1 ?_).trans e,n,ne,nf,d⟩;intro q;rw[q,hoc]at e;have q':oc=p.2:=agb e;exact d w' (by rw[<-q'];exact ZF)
theorem An{M:Model}{A:χ}{E:Δ->Ω->Prop}{i:Nat}{x:Str}{v:V}{u:Δ}{Q:Unit->Ω->Prop}(I:Inv X pins σ H s) (hN:X.N.Nodup) (hi:X.N[i]? = ζ x) (hx:Loc X.env.scope x) (r:RelV v u)
  (h:∀s',Inv X pins (σ.set i (ζ v)) H s'->Q () s') (hf:X.fn x=Γ\/X.env.scope.names.lookup x=ζ .local:=by first|exact .inl rfl|exact .inr rfl|assumption):wpAny M A (storeName X.env x u) Q E s :=
 Gq I hN hi hx r (λs' I' _=>h s' I') hf
theorem Inv.D6{s':Ω}{ch:List Ψ}(I:Inv X pins σ H s) (ho:s'.os=s.os) (u:Un (frs X.stack) ch H H' s.heap s'.heap) (hok:bZ X.prog X.w H' s'.heap) (hg:aap s'.gens)
  (hch:∀b∈ch,(b∈X.ex\/X.s₀.heap.objs.size<=b)/\b≠X.env.locals/\(∀x c,X.env.cells.lookup x=ζ c->c≠b)/\∀p∈X.pn++pins,p.1≠b):Inv X pins σ H' s':=by
 obtain⟨h',g',d',t',o'⟩:=s';have e:o'=s.os:=ho;subst e;exact I.call (g':=g') (t':=t') (d':=d') u hok hg hch
end
abbrev XK:=Δ->Option Ψ->Hp->Prop
abbrev St:=List (Option V)
abbrev VK:=V->Hp->Prop
abbrev TE:=St->Hp->VK->Prop
abbrev TT:=St->Hp->(Bool->Hp->Prop)->Prop
abbrev TA:=St->Hp->(List V->Hp->Prop)->Prop
structure Ends where
 nx:St->Hp->Prop
 rt:VK
 bk:St->Hp->Prop:=λ_ _=>False
 ct:St->Hp->Prop:=λ_ _=>False
abbrev TS:=Ends->St->Hp->Prop
def EP(X:Cx) (pins:List (Ψ×Obj)) (σ:St) (Q:VK) (u:Δ) (s':Ω):Prop:=∃v H',Inv X pins σ H' s'/\RelV v u/\Q v H'
def TP(X:Cx) (pins:List (Ψ×Obj)) (σ:St) (Q:Bool->Hp->Prop) (b:Bool) (s':Ω):Prop:=∃H',Inv X pins σ H' s'/\Q b H'
def AP(X:Cx) (pins:List (Ψ×Obj)) (σ:St) (Q:List V->Hp->Prop) (us:List Δ) (s':Ω):Prop:=∃vs H',Inv X pins σ H' s'/\Vals vs us/\Q vs H'
def SP(X:Cx) (pins:List (Ψ×Obj)) (D:Ends) (f:Flow) (s':Ω):Prop :=
 match f with
 |.next=>∃σ' H',Inv X pins σ' H' s'/\D.nx σ' H'
 |.brk=>∃σ' H',Inv X pins σ' H' s'/\D.bk σ' H'
 |.cont=>∃σ' H',Inv X pins σ' H' s'/\D.ct σ' H'
 |.ret u=>∃v σ' H',Inv X pins σ' H' s'/\RelV v u/\D.rt v H'
def PE(X:Cx) (e:ο) (t:TE):Prop :=
 ∀(pins:List (Ψ×Obj)) (s:Ω) (σ:St) (H:Hp) (Q:VK),Inv X pins σ H s->t σ H Q->wpAny (model X.prog X.w) X.A (eval e X.env) (EP X pins σ Q) X.xe s
def PT(X:Cx) (e:ο) (t:TT):Prop :=
 ∀(pins:List (Ψ×Obj)) (s:Ω) (σ:St) (H:Hp) (Q:Bool->Hp->Prop),Inv X pins σ H s->t σ H Q->wpAny (model X.prog X.w) X.A (isTrue e X.env (eval e X.env)) (TP X pins σ Q) X.xe s
def PW(X:Cx) (e:ο) (t:TT):Prop :=
 ∀(whole:Sem Δ) (pins:List (Ψ×Obj)) (s:Ω) (σ:St) (H:Hp) (Q:Bool->Hp->Prop),Inv X pins σ H s->t σ H Q->wpAny (model X.prog X.w) X.A (isTrue e X.env whole) (TP X pins σ Q) X.xe s
theorem PW.pt{X:Cx}{e:ο}{t:TT}(h:PW X e t):PT X e t:=h _
def PA(X:Cx) (es:List ο) (t:TA):Prop :=
 ∀(pos:Pos) (pins:List (Ψ×Obj)) (s:Ω) (σ:St) (H:Hp) (Q:List V->Hp->Prop),Inv X pins σ H s->t σ H Q->wpAny (model X.prog X.w) X.A (spliced (aah pos (μ es X.env))) (AP X pins σ Q) X.xe s
def PS(X:Cx) (st:aag) (t:TS):Prop :=
 ∀(pins:List (Ψ×Obj)) (s:Ω) (σ:St) (H:Hp) (D:Ends),Inv X pins σ H s->t D σ H->wpAny (model X.prog X.w) X.A (exec st X.env) (SP X pins D) X.xe s
def eT(X:Cx) (st:List aag) (t:TS):Prop :=
 ∀(pins:List (Ψ×Obj)) (s:Ω) (σ:St) (H:Hp) (D:Ends),Inv X pins σ H s->t D σ H->wpAny (model X.prog X.w) X.A (execs st X.env) (SP X pins D) X.xe s
theorem br{α:Type}{t:Sem α}{Q Q':α->Ω->Prop}{M:Model}{A:χ}{E:Δ->Ω->Prop}{s:Ω}(h:wpAny M A t Q E s) (hQ:∀a s,Q a s->Q' a s):wpAny M A t Q' E s:=agh h hQ λ_ _ x=>x
section
variable {X:Cx}
def mJ(i:Nat):TE:=λσ H Q=>∃v,σ[i]? = ζ (ζ v)/\Q v H
def tC(v:V):TE:=λ_ H Q=>Q v H
theorem AH{i:Nat}{x:Str}{pos:Pos}(hN:X.N[i]? = ζ x) (hv:vH X.env.scope x) (hd:(x==("__debug__":Str))=θ:=by decide) (hcd:(x==("__classdict__":Str))=θ:=by decide):PE X (.Name x pos) (mJ i):=by
 intro pins s σ H Q I h;obtain⟨v,e,h⟩:=h;obtain⟨m,hn,hl⟩:=I.loc;obtain⟨u,r,l⟩:=hl i x v hN e hv;have fin:EP X pins σ Q u s:=⟨v,H,I,r,h⟩
 rcases l with⟨hk,hm⟩|⟨hk,c,hc,hcell⟩
 ·exact wpAny_Name (wpAny_loadName_local I.ok.kind hk hn hm fin) hd
 ·rcases hk with hk|hk
  ·exact wpAny_Name (wpAny_loadName_cell I.ok.kind hk hc hcell fin) hd
  ·exact wpAny_Name (wpAny_loadName_free I.ok.kind hk hc hcell fin hcd) hd
theorem AJ{i j pos}:PE X (.Constant (.int i) j pos) (tC (.int i)):=λ_ _ _ H _ I h=>wpAny_Constant_int ⟨.int i,H,I.tok _,⟨_,rfl⟩,h⟩
theorem AK{b j pos}:PE X (.Constant (.bool b) j pos) (tC (.bl b)):=λ_ _ _ H _ I h=>Constant_bool ⟨.bl b,H,I,rfl,h⟩
theorem S0{j pos}:PE X (.Constant .none j pos) (tC .aI):=λ_ _ _ H _ I h=>Constant_none ⟨.aI,H,I,rfl,h⟩
theorem SS{x j pos}:PE X (.Constant (.str x) j pos) (tC (.str x)):=λ_ _ _ H _ I h=>Calls.Constant_str ⟨.str x,H,I.tok _,⟨_,rfl⟩,h⟩
def Gl(X:Cx) (x:Str):Prop:=X.env.kindOf x=ζ .globalImplicit
theorem rW{E:Δ->Ω->Prop}{pins:List (Ψ×Obj)}{s:Ω}{σ:St}{H:Hp}{x:Str}{u:Δ}{pos:Pos}{Q:Δ->Ω->Prop}(I:Inv X pins σ H s) (hg:Gl X x) (hm:X.mg x=ζ u) (h:Q u s)
  (hd:(x==("__debug__":Str))=θ:=by decide):wpAny (model X.prog X.w) X.A (eval (.Name x pos) X.env) Q E s :=
 ai6 I.ok.kind hg (Calls.loadGlobal_global (by rw[I.ok.glob];exact I.mod.glob.keeps I.bk) hm h) hd
theorem rX{E:Δ->Ω->Prop}{pins:List (Ψ×Obj)}{s:Ω}{σ:St}{H:Hp}{x:Str}{u:Δ}{pos:Pos}{Q:Δ->Ω->Prop}(I:Inv X pins σ H s) (hg:Gl X x) (hm:X.mg x=η) (hv:bootBuiltins x=ζ u) (h:Q u s)
  (hn:x≠"__name__":=by decide) (hd:(x==("__debug__":Str))=θ:=by decide):wpAny (model X.prog X.w) X.A (eval (.Name x pos) X.env) Q E s:=by
 obtain⟨mb,h1,h2⟩:=I.mod.blt;exact ai6 I.ok.kind hg (Calls.loadGlobal_builtin (by rw[I.ok.glob];exact I.mod.glob.keeps I.bk) hm (by rw[I.ok.blt];exact h1.keeps I.bk) ((h2 x hn).trans hv) h) hd
theorem Hl{x:Str}{v:V}{u:Δ}{pos:Pos}(hg:Gl X x) (hm:X.mg x=ζ u) (r:RelV v u) (hd:(x==("__debug__":Str))=θ:=by decide):PE X (.Name x pos) (tC v) :=
 λ_ _ _ H _ I h=>rW I hg hm ⟨v,H,I,r,h⟩ hd
theorem S8{x:Str}{v:V}{u:Δ}{pos:Pos}(hg:Gl X x) (hm:X.mg x=η) (hv:bootBuiltins x=ζ u) (r:RelV v u) (hn:x≠"__name__":=by decide) (hd:(x==("__debug__":Str))=θ:=by decide):PE X (.Name x pos) (tC v) :=
 λ_ _ _ H _ I h=>rX I hg hm hv ⟨v,H,I,r,h⟩ hn hd
variable {a b:ο}{ta tb:TE}{pos:Pos}
def tB(t:TE):TT:=λσ H Q=>t σ H λx H1=>∃c,x=.bl c/\Q c H1
theorem Rw{e:ο}{t:TE}(h:PE X e t) (he:∀whole,isTrue e X.env whole=(do let v <-whole;standAt e.pos;holding [v] (truthy v)):=by intro _;rfl):PT X e (tB t):=by
 intro pins s σ H Q I hw;refine isTrue_plain (br (h pins s σ H _ I hw) λv s1 ⟨x,H1,I1,r1,q1⟩=>?_) (he _)
 obtain⟨d,rfl,q⟩:=q1;cases r1;exact ag0 ⟨H1,I1,q⟩
variable {tA wA:TT}{rest:List ο}
def OI(t u:TT):TT:=λσ H Q=>t σ H λc H1=>if c=Γ then u σ H1 Q else Q θ H1
def Ou(t u:TT):TT:=λσ H Q=>t σ H λc H1=>if c=Γ then Q Γ H1 else u σ H1 Q
def Ow(t:TT):TT:=λσ H Q=>t σ H λc H1=>Q (!c) H1
theorem Rt(ha:PT X a tA):PW X (.BoolOp .And [a] pos) tA:=by
 intro wh pins s σ H Q I h;refine isTrue_and (br (ha pins s σ H Q I h) λc s1 e=>?_)
 cases c with
 |true=>exact isTrue_and_nil e
 |false=>exact e
theorem Rq(ha:PT X a tA):PW X (.BoolOp .Or [a] pos) tA:=by
 intro wh pins s σ H Q I h;refine isTrue_or (br (ha pins s σ H Q I h) λc s1 e=>?_)
 cases c with
 |false=>exact isTrue_or_nil e
 |true=>exact e
theorem Ru(ha:PT X a tA) (hb:PW X (.BoolOp .And (b::rest) pos) wA):PW X (.BoolOp .And (a::b::rest) pos) (OI tA wA):=by
 intro wh pins s σ H Q I h;refine isTrue_and (br (ha pins s σ H _ I h) λc s1 ⟨H1,I1,q1⟩=>?_)
 cases c with
 |true=>exact hb wh pins s1 σ H1 Q I1 q1
 |false=>exact⟨H1,I1,q1⟩
theorem Rr(ha:PT X a tA) (hb:PW X (.BoolOp .Or (b::rest) pos) wA):PW X (.BoolOp .Or (a::b::rest) pos) (Ou tA wA):=by
 intro wh pins s σ H Q I h;refine isTrue_or (br (ha pins s σ H _ I h) λc s1 ⟨H1,I1,q1⟩=>?_)
 cases c with
 |true=>exact⟨H1,I1,q1⟩
 |false=>exact hb wh pins s1 σ H1 Q I1 q1
theorem Rx(ha:PT X a tA):PT X (.UnaryOp .Not a pos) (Ow tA):=by
 intro pins s σ H Q I h;exact isTrue_not (ha pins s σ H (λc H1=>Q (!c) H1) I h)
def OH(ta tb:TE):TE:=λσ H Q=>ta σ H λx H1=>∃c,x=.bl c/\if c=Γ then tb σ H1 Q else Q (.bl θ) H1
def Ov(ta:TE):TE:=λσ H Q=>ta σ H λx H1=>∃c,x=.bl c/\Q (.bl (!c)) H1
theorem SX{op}{t:TE}(h:PE X a t):PE X (.BoolOp op [a] pos) t:=λpins s σ H Q I hw=>BoolOp_one (h pins s σ H Q I hw)
theorem S9(ha:PE X a ta) (hb:PE X (.BoolOp .And (b::rest) pos) tb):PE X (.BoolOp .And (a::b::rest) pos) (OH ta tb):=by
 intro pins s σ H Q I h;refine BoolOp_and (br (ha pins s σ H _ I h) λv s1 ⟨x,H1,I1,r1,q1⟩=>?_)
 obtain⟨c,rfl,q1⟩:=q1;cases r1;refine ag0 ?_;cases c with
 |true=>exact hb pins s1 σ H1 Q I1 q1
 |false=>exact⟨.bl θ,H1,I1,rfl,q1⟩
theorem SY(ha:PE X a ta):PE X (.UnaryOp .Not a pos) (Ov ta):=by
 intro pins s σ H Q I h;refine UnaryOp_ (br (ha pins s σ H _ I h) λv s1 ⟨x,H1,I1,r1,q1⟩=>?_)
 obtain⟨c,rfl,q1⟩:=q1;cases r1;exact not_of (ag0 ⟨.bl (!c),H1,I1,rfl,q1⟩)
end
def bY(K:ξ) (H:Hp) (a:Ψ) (xs:List V):Prop :=
 Rd H a (.lst xs) \/
  ∃(o:Obj) (its:Array Δ) (n:Nat),K.lookup a=ζ o/\o.cls=.type "list"/\o.dict=η/\o.data=.seq its n/\its.size<=ε/\Vals xs its.toList
def bU(K:ξ) (H:Hp) (a:Ψ) (xs:List V):Prop :=
 Rd H a (.tup xs) \/
  ∃(o:Obj) (its:Array Δ) (n:Nat),K.lookup a=ζ o/\o.cls=.type "tuple"/\o.data=.seq its n/\its.size<=ε/\Vals xs its.toList
def adT:Δ->Option V
 |.none=>ζ .aI
 |.bool b=>ζ (.bl b)
 |.int i _=>ζ (.int i)
 |.str x _=>ζ (.str x)
 |.bytes b _=>ζ (.jQ b)
 |.float b _=>ζ (.se b)
 |.ref a=>ζ (.ref a)
 |.type n=>ζ (.ty n)
 |_=>η
theorem RelV.abs{x:V}{u:Δ}(r:RelV x u):adT u=ζ x:=by
 cases x with
 |aI=>cases r;rfl
 |bl _=>cases r;rfl
 |int _=>obtain⟨t,rfl⟩:=r;rfl
 |str _=>obtain⟨t,rfl⟩:=r;rfl
 |jQ _=>obtain⟨t,rfl⟩:=r;rfl
 |se _=>obtain⟨t,rfl⟩:=r;rfl
 |ref _=>cases r;rfl
 |ty _=>cases r;rfl
theorem RelV.inj{x y:V}{u:Δ}(r:RelV x u) (q:RelV y u):x=y:=agb (r.abs.symm.trans q.abs)
theorem Vals.inj:∀{xs ys:List V}{us:List Δ},Vals xs us->Vals ys us->xs=ys
 |_,_,_,.nil,.nil=>rfl
 |_,_,_,.cons r t,.cons r' t'=>by rw[r.inj r',Vals.inj t t']
section
variable {X:Cx}{pins:List (Ψ×Obj)}{σ:St}{H:Hp}{s:Ω}{a:Ψ}{xs ys:List V}
theorem bY.of{K:ξ}(h:H a=ζ (.lst xs)):bY K H a xs:=.inl (.inl h)
theorem bU.of{K:ξ}(h:H a=ζ (.tup xs)):bU K H a xs:=.inl (.inl h)
theorem Inv.list(I:Inv X pins σ H s) (h:bY X.K H a xs):∃its:List Δ,Vals xs its/\PlainL s.heap a its.toArray/\xs.length<=ε:=by
 rcases h with h|⟨o,its,n,hk,hc,hd,hs,hz,r⟩
 ·obtain⟨z,its,n,r,e⟩:=h.ok I.hok;exact⟨its,r,⟨_,n,e,rfl,rfl,rfl⟩,z⟩
 ·refine⟨its.toList,r,⟨o,n,I.dX a o hk,hc,hd,by simpa using hs⟩,?_⟩
  have e:=r.length;simp only[agq]at e;omega
theorem Inv.tuple(I:Inv X pins σ H s) (h:bU X.K H a xs):∃its:List Δ,Vals xs its/\IsTup s.heap a its.toArray/\xs.length<=ε:=by
 rcases h with h|⟨o,its,n,hk,hc,hs,hz,r⟩
 ·obtain⟨z,its,r,p⟩:=h.ok I.hok;exact⟨its,r,p.tup,z⟩
 ·refine⟨its.toList,r,⟨o,I.dX a o hk,hc,n,by simpa using hs⟩,?_⟩
  have e:=r.length;simp only[agq]at e;omega
theorem Inv.XG(I:Inv X pins σ H s) (h:bY X.K H a xs) (h':bY X.K H a ys):xs=ys:=by
 obtain⟨its,r,⟨o,n,e,_,_,d⟩,_⟩:=I.list h;obtain⟨its',r',⟨o',n',e',_,_,d'⟩,_⟩:=I.list h';rw[e]at e';cases e';rw[d]at d'
 injection d' with d1 _
 have:its=its':=by simpa using congrArg Array.toList d1
 subst this;exact r.inj r'
theorem Inv.FZ(I:Inv X pins σ H s) (h:bU X.K H a xs) (h':bU X.K H a ys):xs=ys:=by
 obtain⟨its,r,⟨o,e,_,n,d⟩,_⟩:=I.tuple h;obtain⟨its',r',⟨o',e',_,n',d'⟩,_⟩:=I.tuple h';rw[e]at e';cases e';rw[d]at d'
 injection d' with d1 _
 have:its=its':=by simpa using congrArg Array.toList d1
 subst this;exact r.inj r'
end
abbrev Cx.iO(X:Cx) (E:Δ->Ω->Prop):Cx:={X with xe:=E}
abbrev Cx.fj(X:Cx):Cx:=X.iO λ_ _=>False
theorem Cx.Ok.iO{X:Cx}(ok:X.Ok) (E:Δ->Ω->Prop):(X.iO E).Ok :=
 ⟨ok.mod,ok.kind,ok.glob,ok.blt,ok.above,ok.inj,ok.has,ok.jl,ok.hd,ok.frames,ok.stk,ok.lz,ok.bs,ok.gj,ok.jg,ok.kj,ok.fF,ok.ir⟩
theorem Cx.Ok.jx{X:Cx}{E:Δ->Ω->Prop}(ok:(X.iO E).Ok):X.Ok :=
 ⟨ok.mod,ok.kind,ok.glob,ok.blt,ok.above,ok.inj,ok.has,ok.jl,ok.hd,ok.frames,ok.stk,ok.lz,ok.bs,ok.gj,ok.jg,ok.kj,ok.fF,ok.ir⟩
section
variable {X:Cx}{pins:List (Ψ×Obj)}{σ:St}{H:Hp}{s:Ω}{E:Δ->Ω->Prop}
theorem Inv.iO(I:Inv X pins σ H s) (E:Δ->Ω->Prop):Inv (X.iO E) pins σ H s:=⟨I.ok.iO E,I.os,I.bare,I.base,I.loc,I.cell,I.free,I.fT,I.pin,I.hok,I.len⟩
theorem Inv.jx(I:Inv (X.iO E) pins σ H s):Inv X pins σ H s:=⟨I.ok.jx,I.os,I.bare,I.base,I.loc,I.cell,I.free,I.fT,I.pin,I.hok,I.len⟩
theorem SP.jx{D:Ends}{f:Flow}{s':Ω}(h:SP (X.iO E) pins D f s'):SP X pins D f s':=by
 cases f with
 |next=>obtain⟨σ',H',I,q⟩:=h;exact⟨σ',H',I.jx,q⟩
 |brk=>obtain⟨σ',H',I,q⟩:=h;exact⟨σ',H',I.jx,q⟩
 |cont=>obtain⟨σ',H',I,q⟩:=h;exact⟨σ',H',I.jx,q⟩
 |ret u=>obtain⟨v,σ',H',I,r,q⟩:=h;exact⟨v,σ',H',I.jx,r,q⟩
theorem PT.fj{e:ο}{t:TT}(h:PT X.fj e t):PT X e t:=λpins s σ H Q I hw =>
 agh (h pins s σ H Q (I.iO _) hw) (λ_ _ ⟨H',I',q⟩=>⟨H',I'.jx,q⟩) λ_ _ z=>False.elim z
theorem eT.fj{st:List aag}{t:TS}(h:eT X.fj st t):eT X st t:=λpins s σ H D I hw =>
 agh (h pins s σ H D (I.iO _) hw) (λ_ _ q=>q.jx) λ_ _ z=>False.elim z
end
section
variable {X:Cx}{st:aag}{rest:List aag}{t u:TS}{e:ο}{te:TE}{pos:Pos}
def Oz:TS:=λD σ H=>D.nx σ H
def Ga(t u:TS):TS:=λD σ H=>t {D with nx:=u D} σ H
theorem RC:eT X [] Oz:=λ_ _ σ H _ I h=>ahT ⟨σ,H,I,h⟩
theorem uH(h1:PS X st t) (h2:eT X rest u):eT X (st::rest) (Ga t u):=by
 intro pins s σ H D I h;refine wpAny_execs_cons (br (h1 pins s σ H {D with nx:=u D} I h) λf s1 q=>?_)
 cases f with
 |next =>
  obtain⟨σ',H',I',q⟩:=q;exact h2 pins s1 σ' H' D I' q
 |ret v=>exact q
 |brk=>exact q
 |cont=>exact q
theorem GW(h1:PS X st t):eT X [st] t:=by
 intro pins s σ H D I h;refine wpAny_execs_cons (br (h1 pins s σ H D I h) λf s1 q=>?_)
 cases f with
 |next=>exact ahT q
 |ret v=>exact q
 |brk=>exact q
 |cont=>exact q
theorem Inv.quiet{pins:List (Ψ×Obj)}{σ:St}{H:Hp}{s:Ω}(I:Inv X pins σ H s):interactive X.env=θ:=by simp[interactive,I.ok.kind]
def OE(te:TE):TS:=λD σ H=>te σ H λ_ H1=>D.nx σ H1
theorem G0(he:PE X e te) (hs:swapsWith e η pos.line X.env=pure θ:=by rfl):PS X (.Expr e pos) (OE te):=by
 intro pins s σ H D I h;exact wpAny_Expr_any (br (he pins s σ H _ I h) λv s1 ⟨x,H1,I1,r1,q1⟩=>⟨σ,H1,I1,q1⟩) I.quiet hs
def Oq(te:TE):TS:=λD σ H=>te σ H D.rt
theorem RI(he:PE X e te):PS X (.Return (ζ e) pos) (Oq te):=by
 intro pins s σ H D I h;exact wpAny_Return_some (br (he pins s σ H _ I h) λv s1 ⟨x,H1,I1,r1,q1⟩=>⟨x,σ,H1,I1,r1,q1⟩)
def OC(c:TT) (t u:TS):TS:=λD σ H=>c σ H λb H1=>if b=Γ then t D σ H1 else u D σ H1
theorem GY{c:ο}{a b:List aag}{tc:TT}(hc:PT X c tc) (ha:eT X a t) (hb:eT X b u):PS X (.If c a b pos) (OC tc t u):=by
 intro pins s σ H D I h;refine wpAny_If (br (hc pins s σ H _ I h) λd s1 ⟨H1,I1,q1⟩=>?_)
 cases d with
 |true=>exact ha pins s1 σ H1 D I1 q1
 |false=>exact hb pins s1 σ H1 D I1 q1
end
abbrev TG:=V->St->Hp->(St->Hp->Prop)->Prop
abbrev mj:=List V->St->Hp->(St->Hp->Prop)->Prop
def PG(X:Cx) (target:ο) (t:TG):Prop :=
 ∀(pins:List (Ψ×Obj)) (s:Ω) (σ:St) (H:Hp) (v:V) (u:Δ) (Q:St->Hp->Prop),Inv X pins σ H s->RelV v u->t v σ H Q ->
  wpAny (model X.prog X.w) X.A (assign target X.env u) (λ_ s'=>∃σ' H',Inv X pins σ' H' s'/\Q σ' H') X.xe s
def nI(X:Cx) (ts:List ο) (t:mj):Prop :=
 ∀(pins:List (Ψ×Obj)) (s:Ω) (σ:St) (H:Hp) (vs:List V) (us:List Δ) (Q:St->Hp->Prop),Inv X pins σ H s->Vals vs us->t vs σ H Q ->
  wpAny (model X.prog X.w) X.A (assignInOrder ((assignEach ts X.env).map (·.2)) us) (λ_ s'=>∃σ' H',Inv X pins σ' H' s'/\Q σ' H') X.xe s
abbrev EV:=V->V->V->Hp->(Hp->Prop)->Prop
def LI(X:Cx) (t:EV):Prop :=
 ∀(pins:List (Ψ×Obj)) (s:Ω) (σ:St) (H:Hp) (o i v:V) (ov iv u:Δ) (Q:Hp->Prop),Inv X pins σ H s->RelV o ov->RelV i iv->RelV v u->t o i v H Q ->
  wpAny (model X.prog X.w) X.A (setItem ov iv u) (λ_ s'=>∃H',Inv X pins σ H' s'/\Q H') X.xe s
section
variable {X:Cx}{pos:Pos}
def yf(i:Nat):TG:=λv σ H Q=>Q (σ.set i (ζ v)) H
theorem Hg{i:Nat}{x:Str}(hN:X.N.Nodup) (hi:X.N[i]? = ζ x) (hx:Loc X.env.scope x) (hf:X.fn x=Γ\/X.env.scope.names.lookup x=ζ .local:=by first|exact .inl rfl|exact .inr rfl|assumption):PG X (.Name x pos) (yf i):=by
 intro pins s σ H v u Q I r h;exact wpAny_assign_Name (An I hN hi hx r (λs' I'=>⟨_,H,I',h⟩) hf)
def aaz:mj:=λvs σ H Q=>vs=[]/\Q σ H
def aaA(t:TG) (u:mj):mj:=λvs σ H Q=>∃v r,vs=v::r/\t v σ H λσ' H'=>u r σ' H' Q
theorem SK:nI X [] aaz:=by
 intro pins s σ H vs us Q I r h;obtain⟨e,h⟩:=h;subst e;cases r;exact assignInOrder_nil ⟨σ,H,I,h⟩
theorem SM{e:ο}{es:List ο}{t:TG}{u:mj}(h1:PG X e t) (h2:nI X es u)
  (hs:(assignEach (e::es) X.env).map (·.2)=assign e X.env::(assignEach es X.env).map (·.2):=by rfl):nI X (e::es) (aaA t u):=by
 intro pins s σ H vs us Q I r h;obtain⟨v,vr,e1,h⟩:=h;subst e1;cases r with
 |cons r rr =>
  rw[hs];refine assignInOrder_cons (br (h1 pins s σ H _ _ _ I r h) λ_ s1 ⟨σ1,H1,I1,q1⟩=>?_)
  exact h2 pins s1 σ1 H1 _ _ Q I1 rr q1
def aax(K:ξ) (n:Nat) (t:mj):TG:=λv σ H Q=>∃a xs,v=.ref a/\bU K H a xs/\xs.length=n/\t xs σ H Q
theorem SN{es:List ο}{k:Nat}{t:mj}{n:Nat}(hc:X.calm=Γ) (h:nI X es t)
  (hn:(assignEach es X.env).length=n:=by rfl) (hst:(assignEach es X.env).findIdx? (·.1)=η:=by rfl):PG X (.Tuple es k pos) (aax X.K n t):=by
 intro pins s σ H v u Q I r hw;obtain⟨a,xs,e1,hq,hl,hw⟩:=hw;subst e1;cases r;obtain⟨its,rv,ht,hz⟩:=I.tuple hq;refine assign_Tuple_tuple (I.ok.hd hc) ht (by simp[hn,<-hl,rv.length]) hst λh' hx=>?_
 have I1:Inv X pins σ H {s with heap:=h'}:=I.kept (t':=s.toks) λb o e=>hx b o (afX (afV e)) e
 exact h pins _ σ H xs _ Q I1 (by simpa using rv) hw
def aay(to ti:TE) (t:EV):TG:=λv σ H Q=>to σ H λo H1=>ti σ H1 λi H2=>t o i v H2 λH3=>Q σ H3
theorem SO{o i:ο}{to ti:TE}{t:EV}(ho:PE X o to) (hi:PE X i ti) (hs:LI X t)
  (ha:∀v,assign (.Subscript o i pos) X.env v=(do
   let ov <-holding [v] (eval o X.env)
   let iv <-holding [v,ov] (eval i X.env)
   standAt pos
   holding [v,ov,iv] (setItem ov iv v)
   release [v,ov,iv] []):=by intro _;rfl):PG X (.Subscript o i pos) (aay to ti t):=by
 intro pins s σ H v u Q I r h;rw[ha];refine afS (agR (br (ho pins s σ H _ I h) λov s1 ⟨x,H1,I1,r1,q1⟩=>?_))
 refine afS (agR (br (hi pins s1 σ H1 _ I1 q1) λiv s2 ⟨y,H2,I2,r2,q2⟩=>?_))
 refine afS (air (afS (agR (br (hs pins s2 σ H2 x y v ov iv u _ I2 r1 r2 r q2) λ_ s3 ⟨H3,I3,q3⟩=>?_))))
 exact wpAny_release ⟨σ,H3,I3,q3⟩
def Am(te:TE) (g:TG):TS:=λD σ H=>te σ H λx H1=>g x σ H1 D.nx
theorem RK{tg e:ο}{te:TE}{g:TG}(he:PE X e te) (hg:PG X tg g) (hs:swapsWithSole [tg] e pos.line X.env=pure θ:=by rfl) (hw:swappedStores [tg] e X.env=pure η:=by rfl)
  (h1:(assignEach [tg] X.env).map (·.2)=[assign tg X.env]:=by rfl):PS X (.Assign [tg] e pos) (Am te g):=by
 intro pins s σ H D I h;refine wpAny_Assign_stores (br (he pins s σ H _ I h) λv s1 ⟨x,H1,I1,r1,q1⟩=>?_) hs hw
 rw[h1];exact br (hg pins s1 σ H1 x v _ I1 r1 q1) λ_ s2 q=>q
theorem GX{i:Nat}{x:Str}{e:ο}{te:TE}{pos':Pos}(hN:X.N.Nodup) (hi:X.N[i]? = ζ x) (hx:Loc X.env.scope x) (he:PE X e te) (hs:swapsWith e (ζ (.Name x pos')) pos.line X.env=pure θ:=by rfl) (hf:X.fn x=Γ\/X.env.scope.names.lookup x=ζ .local:=by first|exact .inl rfl|exact .inr rfl|assumption) :
  PS X (.Assign [.Name x pos'] e pos) (Am te (yf i)):=by
 intro pins s σ H D I h;refine wpAny_Assign_Name (br (he pins s σ H _ I h) λv s1 ⟨y,H1,I1,r1,q1⟩=>?_) hs
 exact An I1 hN hi hx r1 (λs2 I2=>⟨_,H1,I2,q1⟩) hf
end
structure It where
 go:Nat->Hp->Prop
 qe:Nat->Hp->V->Hp->Prop
 stop:Nat->Hp->Prop
def gY(X:Cx) (pins:List (Ψ×Obj)) (H:Hp) (b:Ψ):Prop :=
 H b=η/\b≠X.env.locals/\b∉X.fs/\(b∈X.ex\/X.s₀.heap.objs.size<=b)/\(∀x c,X.env.cells.lookup x=ζ c->c≠b)/\∀p∈X.pn++pins,p.1≠b
theorem Inv.yh{X:Cx}{pins:List (Ψ×Obj)}{σ:St}{H H':Hp}{s:Ω}{b:Ψ}(I:Inv X pins σ H s) (hb:s.heap.objs.size<=b) (hn:H' b=η):gY X pins H' b:=by
 refine⟨hn,agO (af3 I.lt hb),I.AS hb,.inr (agf I.sz hb),λx c e z=>?_,λp hp z=>?_⟩
 ·obtain⟨v,q⟩:=I.cell x c e;exact absurd (af3 q.lt (by rw[z];exact hb)) (agu _)
 ·exact absurd (af3 (afV (I.pin p hp).1) (by rw[z];exact hb)) (agu _)
structure Turn (P:τ) (w:υ) (K:ξ) (tg:ο) (J:It) (fp:List Ψ) (it:Ψ) (tn:Nat->ψ->Prop):Prop where
 mem:it∈fp
 obj:∀i h,tn i h->∀b∈fp,∃o,h.get? b=ζ o/\∀v,o.data≠.cell v
 keep:∀i h h',tn i h->(∀b∈fp,∀o,h.get? b=ζ o->h'.get? b=ζ o)->tn i h'
 item:∀(X:Cx),X.prog=P->X.w=w->X.K=K->X.calm=Γ->∀(i:Nat) (pins:List (Ψ×Obj)) (s:Ω) (σ:St) (H:Hp) (E:Δ->Ω->Prop),Inv X pins σ H s->(∀b∈fp,gY X pins H b)->tn i s.heap->J.go i H ->
  wpAny (model P w) X.A (pyNext (.ref it)) (λr s1=>∃u,r=ζ u /\
   wpAny (model P w) X.A (letOwnedTupleGo tg (.ref it) u) (λ_ s2=>∃x H',Inv X pins σ H' s2/\RelV x u/\J.qe i H x H'/\tn (i+1) s2.heap/\∀b∈fp,H' b=η) E s1) E s
 done:∀(X:Cx),X.prog=P->X.w=w->X.K=K->X.calm=Γ->∀(i:Nat) (pins:List (Ψ×Obj)) (s:Ω) (σ:St) (H:Hp) (E:Δ->Ω->Prop),Inv X pins σ H s->(∀b∈fp,gY X pins H b)->tn i s.heap->J.stop i H ->
  wpAny (model P w) X.A (pyNext (.ref it)) (λr s1=>r=η/\Inv X pins σ H s1) E s
 self:∀(A:χ) (i:Nat) (s:Ω) (Q:Δ->Ω->Prop) (E:Δ->Ω->Prop),tn i s.heap->Q (.ref it) s->wpAny (model P w) A (pyIter (.ref it)) Q E s
abbrev TI:=St->Hp->(It->Hp->Prop)->Prop
def LJ(X:Cx) (pins:List (Ψ×Obj)) (σ:St) (tg:ο) (R:It->Hp->Prop) (itv:Δ) (s2:Ω):Prop :=
 ∃(it:Ψ) (fp:List Ψ) (tn:Nat->ψ->Prop) (J:It) (H':Hp),itv=.ref it/\Inv X pins σ H' s2/\Turn X.prog X.w X.K tg J fp it tn/\tn 0 s2.heap/\(∀b∈fp,gY X pins H' b)/\R J H'
def PI(X:Cx) (tg iter:ο) (wi:TI):Prop :=
 ∀(pins:List (Ψ×Obj)) (s:Ω) (σ:St) (H:Hp) (R:It->Hp->Prop),Inv X pins σ H s->wi σ H R ->
  wpAny (model X.prog X.w) X.A (eval iter X.env) (λv s1=>wpAny (model X.prog X.w) X.A (pyIter v) (LJ X pins σ tg R) X.xe s1) X.xe s
theorem CI{M:Model}{A:χ}{E:Δ->Ω->Prop}{s:Ω}{tg:ο}{it:Ψ}{u:Δ}{o:Obj}{n:String}{vs:Array Δ}{Q:Unit->Ω->Prop}(ho:s.heap.get? it=ζ o) (hc:o.cls=.type n) (hd:o.data=.fields vs)
    (hn:["enumerate","zip","dict_itemiterator","dict_reverseitemiterator","odict_iterator","itertools.zip_longest","itertools.pairwise"].contains n=θ) (hQ:Q () s):wpAny M A (letOwnedTupleGo tg (.ref it) u) Q E s:=by
  unfold letOwnedTupleGo;cases tg<;>first
    | exact afT hQ
    | (cases u<;>first
        | exact afT hQ
        | (refine afS (wpAny_load ho ?_)
           rw[hc,hd];show wpAny M A (if(["enumerate","zip","dict_itemiterator","dict_reverseitemiterator","odict_iterator","itertools.zip_longest","itertools.pairwise"].contains n&&vs[0]? == ζ (rawInt _))=Γ then _ else _) Q E s
           rw[if_neg (by intro h;rw[hn,Bool.false_and]at h;cases h)]
           exact afT hQ))
def tT(K:ξ) (a:Ψ):It :=
 ⟨λi H=>∃xs x,bY K H a xs/\xs[i]? = ζ x,λi H x H'=>H'=H/\∀xs,bY K H a xs->xs[i]? = ζ x,λi H=>∃xs,bY K H a xs/\xs.length<=i⟩
def E6(K:ξ) (a:Ψ):It :=
 ⟨λi H=>∃xs x,bU K H a xs/\xs[i]? = ζ x,λi H x H'=>H'=H/\∀xs,bU K H a xs->xs[i]? = ζ x,λi H=>∃xs,bU K H a xs/\xs.length<=i⟩
def vP(lo:Int) (n:Nat):It:=⟨λi _=>i<n,λi H x H'=>H'=H/\x=.int (lo+i),λi _=>n<=i⟩
theorem N6{P:τ}{w:υ}{K:ξ}{tg:ο}(a it:Ψ):Turn P w K tg (tT K a) [it] it (λi h=>h.IsListIter it a i) where
 mem:=by simp
 obj:=λi h st b hb=>by
  have e:b=it:=by simpa using hb
  subst e;obtain⟨o,e,c,d⟩:=st;exact⟨o,e,λv z=>by rw[d]at z;cases z⟩
 keep:=λi h h' st k=>st.at λo e=>k it (by simp) o e
 item:=by
  intro X hP hw hK hc i pins s σ H E I hf st hg;subst hP hw hK;obtain⟨xs,x,hq,hx⟩:=hg;obtain⟨its,rv,p,hz⟩:=I.list hq;obtain⟨u,hu,ru⟩:=rv.get hx;obtain⟨f0,f1,f2,f3,f4,f5⟩:=hf it (by simp)
  refine wpAny_pyNext_list_item st p.isList (x:=u) (by simpa using hu) λh' st' sb=>?_
  have I1:Inv X pins σ H {s with heap:=h'}:=I.turned (t':=s.toks) (λb o hb e=>(sb.2 b hb).trans e) f0 f1 f3 f4 f5
  obtain⟨o,e,c,d⟩:=id st';exact⟨u,rfl,CI (s:={s with heap:=h'}) e c d (by decide) ⟨x,H,I1,ru,⟨rfl,λys hy=>by rw[I.XG hy hq];exact hx⟩,st',λb hb=>(hf b hb).1⟩⟩
 done:=by
  intro X hP hw hK hc i pins s σ H E I hf st hg;subst hP hw hK;obtain⟨xs,hq,hx⟩:=hg;obtain⟨its,rv,p,hz⟩:=I.list hq;obtain⟨f0,f1,f2,f3,f4,f5⟩:=hf it (by simp)
  have hl:=rv.length;exact wpAny_pyNext_list_end (I.ok.hd hc) st p.isList (by simp;omega) λh' eb=>⟨rfl,I.turned (t':=s.toks) (λb o hb e=>eb b o hb e) f0 f1 f3 f4 f5⟩
 self:=λ_ _ _ _ _ st h=>wpAny_pyIter_listiter st h
theorem N4{P:τ}{w:υ}{K:ξ}{tg:ο}(a it:Ψ):Turn P w K tg (E6 K a) [it] it (λi h=>h.IsTupleIter it a i) where
 mem:=by simp
 obj:=λi h st b hb=>by
  have e:b=it:=by simpa using hb
  subst e;obtain⟨o,e,c,d⟩:=st;exact⟨o,e,λv z=>by rw[d]at z;cases z⟩
 keep:=λi h h' st k=>st.at λo e=>k it (by simp) o e
 item:=by
  intro X hP hw hK hc i pins s σ H E I hf st hg;subst hP hw hK;obtain⟨xs,x,hq,hx⟩:=hg;obtain⟨its,rv,p,hz⟩:=I.tuple hq;obtain⟨u,hu,ru⟩:=rv.get hx;obtain⟨f0,f1,f2,f3,f4,f5⟩:=hf it (by simp)
  refine wpAny_pyNext_tuple_item st (show s.heap.IsTuple a its.toArray from p) (x:=u) (by simpa using hu) λh' st' sb=>?_
  have I1:Inv X pins σ H {s with heap:=h'}:=I.turned (t':=s.toks) (λb o hb e=>(sb.2 b hb).trans e) f0 f1 f3 f4 f5
  obtain⟨o,e,c,d⟩:=id st';exact⟨u,rfl,CI (s:={s with heap:=h'}) e c d (by decide) ⟨x,H,I1,ru,⟨rfl,λys hy=>by rw[I.FZ hy hq];exact hx⟩,st',λb hb=>(hf b hb).1⟩⟩
 done:=by
  intro X hP hw hK hc i pins s σ H E I hf st hg;subst hP hw hK;obtain⟨xs,hq,hx⟩:=hg;obtain⟨its,rv,p,hz⟩:=I.tuple hq;obtain⟨f0,f1,f2,f3,f4,f5⟩:=hf it (by simp)
  have hl:=rv.length;exact wpAny_pyNext_tuple_end (I.ok.hd hc) st (show s.heap.IsTuple a its.toArray from p) (by simp;omega) λh' eb=>⟨rfl,I.turned (t':=s.toks) (λb o hb e=>eb b o hb e) f0 f1 f3 f4 f5⟩
 self:=λ_ _ _ _ _ st h=>wpAny_pyIter_tupleiter st h
theorem N5{P:τ}{w:υ}{K:ξ}{tg:ο}(it:Ψ) (lo:Int) (n:Nat):Turn P w K tg (vP lo n) [it] it (λi h=>IsRangeIter h it (lo+(i:Nat)*1) ((n:Int)-(i:Nat)) 1) where
 mem:=by simp
 obj:=λi h st b hb=>by
  have e:b=it:=by simpa using hb
  subst e;exact⟨_,st,λv z=>by
   have z':Data.fields _=Data.cell v:=z;cases z'⟩
 keep:=λi h h' st k=>k it (by simp) _ st
 item:=by
  intro X hP hw hK hc i pins s σ H E I hf st hg;subst hP hw hK;obtain⟨f0,f1,f2,f3,f4,f5⟩:=hf it (by simp)
  have W:=Walks.range (prog:=X.prog) (w:=X.w) (I.ok.hd hc) it lo 1 n;refine W.item i s _ _ hg st λv h' tk hv st' kk=>?_
  obtain⟨t,rfl⟩:=hv;have I1:Inv X pins σ H {s with heap:=h',toks:=tk}:=I.turned (λb o hb e=>kk b o (by simpa using hb) e) f0 f1 f3 f4 f5
  refine⟨_,rfl,CI (s:={s with heap:=h',toks:=tk}) (n:="range_iterator") st' rfl rfl (by decide) ⟨.int (lo+i),H,I1,⟨t,?_⟩,⟨rfl,rfl⟩,st',λb hb=>(hf b hb).1⟩⟩
  rw[Int.mul_one]
 done:=by
  intro X hP hw hK hc i pins s σ H E I hf st hg;subst hP hw hK;obtain⟨f0,f1,f2,f3,f4,f5⟩:=hf it (by simp)
  exact wpAny_pyNext_range_end (I.ok.hd hc) st (by have:n<=i:=hg;omega) λh' eb=>⟨rfl,I.turned (t':=s.toks) (λb o hb e=>eb b o hb e) f0 f1 f3 f4 f5⟩
 self:=λ_ _ _ _ _ st h=>wpAny_pyIter_rangeiter st h
section
variable {X:Cx}{tg:ο}
def Js(K:ξ) (tl:TE):TI:=λσ H R=>tl σ H λx H1=>∃a,x=.ref a/\(∃xs,bY K H1 a xs)/\R (tT K a) H1
def Zj(K:ξ) (tl:TE):TI:=λσ H R=>tl σ H λx H1=>∃a,x=.ref a/\(∃xs,bU K H1 a xs)/\R (E6 K a) H1
theorem G9{l:ο}{tl:TE}(hl:PE X l tl):PI X tg l (Js X.K tl):=by
 intro pins s σ H R I h;refine br (hl pins s σ H _ I h) λv s1 ⟨x,H1,I1,r1,q1⟩=>?_
 obtain⟨a,e,⟨xs,hq⟩,q⟩:=q1;subst e;cases r1;obtain⟨its,rv,p,hz⟩:=I1.list hq;refine ahU p.isList ?_;refine⟨s1.heap.objs.size,[s1.heap.objs.size],_,_,H1,rfl,I1.kept (t':=s1.toks) λb o e=>afY _ e,N6 a _,⟨_,aga _ rfl,rfl,rfl⟩,λb hb=>?_,q⟩
 have e:b=s1.heap.objs.size:=by simpa using hb
 subst e;exact I1.yh (afU _) (I1.hok.fresh (afU _))
theorem SG{l:ο}{tl:TE}(hl:PE X l tl):PI X tg l (Zj X.K tl):=by
 intro pins s σ H R I h;refine br (hl pins s σ H _ I h) λv s1 ⟨x,H1,I1,r1,q1⟩=>?_
 obtain⟨a,e,⟨xs,hq⟩,q⟩:=q1;subst e;cases r1;obtain⟨its,rv,p,hz⟩:=I1.tuple hq;refine ahC (show s1.heap.IsTuple a its.toArray from p) ?_
 refine⟨s1.heap.objs.size,[s1.heap.objs.size],_,_,H1,rfl,I1.kept (t':=s1.toks) λb o e=>afY _ e,N4 a _,⟨_,aga _ rfl,rfl,rfl⟩,λb hb=>?_,q⟩
 have e:b=s1.heap.objs.size:=by simpa using hb
 subst e;exact I1.yh (afU _) (I1.hok.fresh (afU _))
theorem GR{pins:List (Ψ×Obj)}{σ:St}{H:Hp}{s:Ω}{R:It->Hp->Prop}{E:Δ->Ω->Prop}{lo hi:Int}{t u v:Tok}{tk:Nat}(I:Inv X pins σ H s) (h1:-(2^62)<=lo) (h2:lo<2^62) (h3:-(2^62)<=hi) (h4:hi<2^62)
  (q:R (vP lo (hi-lo).toNat) H):wpAny (model X.prog X.w) X.A (pyIter (.ref s.heap.objs.size)) (LJ X pins σ tg R) E {s with heap:=s.heap.push {cls:=.type "range",data:=.fields #[.int lo t,.int hi u,.int 1 v]},toks:=tk}:=by
 refine wpAny_pyIter_range (IsRange.new ..) (small_one h1 h2 h3 h4) ?_;have I1:Inv X pins σ H {s with heap:=s.heap.push {cls:=.type "range",data:=.fields #[.int lo t,.int hi u,.int 1 v]},toks:=tk}:=I.kept λb o e=>afY _ e
 refine⟨(s.heap.push {cls:=.type "range",data:=.fields #[.int lo t,.int hi u,.int 1 v]}).objs.size,[(s.heap.push {cls:=.type "range",data:=.fields #[.int lo t,.int hi u,.int 1 v]}).objs.size],_,_,H,rfl,
  I1.kept (t':=tk) λb o e=>afY _ e,N5 _ lo (hi-lo).toNat,?_,λb hb=>?_,q⟩
 ·have e1:lo+((0:Nat):Int)*1=lo:=by simp
  have e2:(((hi-lo).toNat:Nat):Int)-((0:Nat):Int)=Builtin.Range.rangeSize lo hi 1:=by rw[rangeSize_one];split<;>omega
  show IsRangeIter _ _ (lo+((0:Nat):Int)*1) ((((hi-lo).toNat:Nat):Int)-((0:Nat):Int)) 1;rw[e1,e2];exact aga _ rfl
 ·have e:b=(s.heap.push {cls:=.type "range",data:=.fields #[.int lo t,.int hi u,.int 1 v]}).objs.size:=by simpa using hb
  subst e;exact I1.yh (afU _) (I1.hok.fresh (afU _))
def Zl(ta:TA):TI:=λσ H R=>ta σ H λvs H1=>∃j:Int,vs=[.int j]/\-(2^62)<=j/\j<2^62/\R (vP 0 j.toNat) H1
def Zk(ta:TA):TI:=λσ H R=>ta σ H λvs H1=>∃i j:Int,vs=[.int i,.int j]/\(-(2^62)<=i/\i<2^62/\-(2^62)<=j/\j<2^62)/\R (vP i (j-i).toNat) H1
theorem SI{a:ο}{ta:TA}{p pos:Pos}(hg:Gl X "range") (hm:X.mg "range"=η) (ha:PA X [a] ta) (hs:μ [a] X.env=[(θ,eval a X.env)]:=by rfl):PI X tg (.Call (.Name "range" p) [a] [] pos) (Zl ta):=by
 intro pins s σ H R I h;refine Call_ (rX I hg hm boot_range (ahV (br (ha pos pins s σ H _ I h) λus s1 ⟨vs,H1,I1,r1,q1⟩=>?_) hs rfl))
 obtain⟨j,e,q1,q2,q⟩:=q1;subst e;cases r1 with
 |cons r rr =>
  cases rr;obtain⟨t,rfl⟩:=r;exact call_range_1 (GR I1 (by omega) (by omega) q1 q2 (by simpa using q))
theorem SH{a b:ο}{ta:TA}{p pos:Pos}(hg:Gl X "range") (hm:X.mg "range"=η) (ha:PA X [a,b] ta) (hs:μ [a,b] X.env=[(θ,eval a X.env),(θ,eval b X.env)]:=by rfl) (hs2:μ [b] X.env=[(θ,eval b X.env)]:=by rfl) :
  PI X tg (.Call (.Name "range" p) [a,b] [] pos) (Zk ta):=by
 intro pins s σ H R I h;refine Call_ (rX I hg hm boot_range (ahV (br (ha pos pins s σ H _ I h) λus s1 ⟨vs,H1,I1,r1,q1⟩=>?_) (by rw[hs,hs2]) (by rw[hs2];rfl)))
 obtain⟨i,j,e,⟨q1,q2,q3,q4⟩,q⟩:=q1;subst e;cases r1 with
 |cons r rr =>
  cases rr with
  |cons r' rr =>
   cases rr;obtain⟨t,rfl⟩:=r;obtain⟨t',rfl⟩:=r';exact call_range_2 (GR I1 q1 q2 q3 q4 q)
def Gf(wi:TI) (g:TG) (tb:TS):TS:=λD σ H=>wi σ H λJ H1=>∃W:Nat->Nat->St->Hp->Prop,(∃m,W 0 m σ H1)/\∀i m σ H,W i m σ H ->
 (J.stop i H/\D.nx σ H)\/(J.go i H/\∃N:St->Hp->Prop,(∀σ' H',N σ' H'->∃m',m'<m/\W (i+1) m' σ' H')/\∀x H',J.qe i H x H'->g x σ H' λσ2 H2=>tb {D with nx:=N,ct:=N,bk:=D.nx} σ2 H2)
def uI(fp:List Ψ) (h:ψ):List (Ψ×Obj):=fp.filterMap λb=>(h.get? b).map λo=>(b,o)
theorem xQ{fp:List Ψ}{h:ψ}{b:Ψ}{o:Obj}(hb:b∈fp) (e:h.get? b=ζ o):(b,o)∈uI fp h:=ahD.mpr ⟨b,hb,by rw[e];rfl⟩
theorem UE{fp:List Ψ}{h:ψ}{p:Ψ×Obj}(hp:p∈uI fp h):p.1∈fp/\h.get? p.1=ζ p.2:=by
 obtain⟨b,hb,e⟩:=ahD.mp hp;cases q:h.get? b with
 |none=>rw[q]at e;cases e
 |some o =>
  rw[q]at e;have e':(b,o)=p:=agb e;subst e';exact⟨hb,q⟩
theorem Inv.pinned{pins:List (Ψ×Obj)}{σ:St}{H:Hp}{s:Ω}{fp:List Ψ}(I:Inv X pins σ H s) (hf:∀b∈fp,gY X pins H b) (ho:∀b∈fp,∃o,s.heap.get? b=ζ o/\∀v,o.data≠.cell v):Inv X (pins++uI fp s.heap) σ H s :=
 I.wV λp hp=>(agm.mp hp).elim (λz=>I.pin p (agJ _ z)) λz=>by
  obtain⟨hb,e⟩:=UE z;obtain⟨f0,f1,f2,_⟩:=hf p.1 hb;obtain⟨o,e',d⟩:=ho p.1 hb;rw[e]at e';cases e';exact⟨e,f0,f1,f2,d⟩
theorem Inv.uc{pins pl:List (Ψ×Obj)}{σ:St}{H:Hp}{s:Ω}(I:Inv X (pins++pl) σ H s):Inv X pins σ H s:=I.wV λp hp=>I.pin p (agJ _ (aiq _ hp))
theorem GZ{iter:ο}{body:List aag}{wi:TI}{g:TG}{tb:TS}{pos:Pos}(hp:PassesOwn (model X.prog X.w) X.A X.env X.xe) (hc:X.calm=Γ) (hi:PI X tg iter wi) (hg:PG X tg g) (hb:eT X body tb)
  (hs:∀x,foldedSetIterable iter X.env x=pure x:=by intro _;rfl):PS X (.For tg iter body [] pos) (Gf wi g tb):=by
 intro pins s σ H D I h;refine wpAny_For (br (hi pins s σ H _ I h) λv s1 h1=>br h1 λitv s2 h2=>?_) hs
 obtain⟨it,fp,tn,J,H2,e,I2,T,st2,f2,W,⟨m0,w0⟩,turn⟩:=h2;subst e;have nS:∀{H':Hp},(∀b∈fp,H' b=η)->∀b∈fp,gY X pins H' b:=λhn b hb=>⟨hn b hb,(f2 b hb).2⟩
 refine codeAny_forLoop_any (λn s'=>∃i σ' H',Inv X pins σ' H' s'/\tn i s'.heap/\(∀b∈fp,H' b=η)/\W i n σ' H') ?_ m0 ⟨0,σ,H2,I2,st2,λb hb=>(f2 b hb).1,w0⟩
 rintro n s3 ⟨i,σ3,H3,I3,st3,J5,w3⟩
 rcases turn i n σ3 H3 w3 with⟨stop,qn⟩|⟨go,N,hN,step⟩
 ·refine ahE hp (br (T.done X rfl rfl rfl hc i pins s3 σ3 H3 X.xe I3 (nS J5) st3 stop) λr s4 ⟨hr,I4⟩=>?_)
  subst hr;exact ahT ⟨σ3,H3,I4,qn⟩
 ·refine ahE hp (br (T.item X rfl rfl rfl hc i pins s3 σ3 H3 X.xe I3 (nS J5) st3 go) λr s4 ⟨u,hr,h4⟩=>?_)
  subst hr;refine ahE hp (br h4 λ_ s5 ⟨x,H5,I5,r5,y5,nT,yg⟩=>?_)
  have I5':=I5.pinned (nS yg) (T.obj _ _ nT);refine ahE hp (br (hg _ s5 σ3 H5 x u _ I5' r5 (step x H5 y5)) λ_ s6 ⟨Mv,H6,I6,q6⟩=>?_)
  refine ahE hp (br (hb _ s6 Mv H6 _ I6 q6) λf s7 q7=>?_)
  have again:∀{i6:St}{H7:Hp},Inv X (pins++uI fp s5.heap) i6 H7 s7->N i6 H7->∃m,m<n/\∃i σ' H',Inv X pins σ' H' s7/\tn i s7.heap/\(∀b∈fp,H' b=η)/\W i m σ' H':=fun{i6 H7} I7 n7=>by
   obtain⟨m',hm,w7⟩:=hN i6 H7 n7;refine⟨m',hm,i+1,i6,H7,I7.uc,T.keep _ _ _ nT λb hb o e=>(I7.pin (b,o) (agJ _ (agJ _ (xQ hb e)))).1,λb hb=>?_,w7⟩
   obtain⟨o,e,d⟩:=T.obj _ _ nT b hb;exact(I7.pin (b,o) (agJ _ (agJ _ (xQ hb e)))).2.1
  cases f with
  |next=>obtain⟨i6,H7,I7,n7⟩:=q7;exact again I7 n7
  |cont=>obtain⟨i6,H7,I7,n7⟩:=q7;exact again I7 n7
  |brk=>obtain⟨i6,H7,I7,q7⟩:=q7;exact⟨i6,H7,I7.uc,q7⟩
  |ret v=>obtain⟨x7,i6,H7,I7,r7,q7⟩:=q7;exact⟨x7,i6,H7,I7.uc,r7,q7⟩
end
theorem aaJ{K:ξ}{a:Ψ}{xs:List V}{g:TG}{tb:TS}{D:Ends}{σ:St}{H:Hp}(Pv:Nat->St->Hp->Prop) (h0:Pv 0 σ H) (hl:∀i σ H,i<=xs.length->Pv i σ H->bY K H a xs)
  (hs:∀i x σ H,xs[i]? = ζ x->Pv i σ H->g x σ H λσ2 H2=>tb {D with nx:=Pv (i+1),ct:=Pv (i+1),bk:=D.nx} σ2 H2) (hd:∀σ H,Pv xs.length σ H->D.nx σ H) :
  ∃W:Nat->Nat->St->Hp->Prop,(∃m,W 0 m σ H)/\∀i m σ H,W i m σ H ->
   ((tT K a).stop i H/\D.nx σ H)\/((tT K a).go i H/\∃N:St->Hp->Prop,(∀σ' H',N σ' H'->∃m',m'<m/\W (i+1) m' σ' H')/\∀x H',(tT K a).qe i H x H'->g x σ H' λσ2 H2=>tb {D with nx:=N,ct:=N,bk:=D.nx} σ2 H2):=by
 refine⟨λi m σ H=>m=xs.length-i/\i<=xs.length/\Pv i σ H,⟨xs.length,by simp,agK _,h0⟩,?_⟩
 rintro i m σ H ⟨rfl,hi,p⟩
 have q:=hl i σ H hi p
 by_cases hlt:i<xs.length
 ·refine .inr ⟨⟨xs,xs[i],q,by simp[hlt]⟩,Pv (i+1),λσ' H' p'=>⟨xs.length-(i+1),by omega,rfl,hlt,p'⟩,λx H' y=>?_⟩
  obtain⟨e,y⟩:=y;subst e;exact hs i x σ _ (y xs q) p
 ·have e:i=xs.length:=by omega
  subst e;exact .inl ⟨⟨xs,q,afU _⟩,hd σ H p⟩
abbrev R2:=V->V->Hp->VK->Prop
def bK(X:Cx) (f:Δ->Δ->Sem Δ) (r:R2):Prop :=
 ∀(pins:List (Ψ×Obj)) (s:Ω) (σ:St) (H:Hp) (x y:V) (v u:Δ) (Q:VK),Inv X pins σ H s->RelV x v->RelV y u->r x y H Q ->
  wpAny (model X.prog X.w) X.A (f v u) (EP X pins σ Q) X.xe s
def vI(X:Cx) (f:Δ->Sem Δ) (r:V->Hp->VK->Prop):Prop :=
 ∀(pins:List (Ψ×Obj)) (s:Ω) (σ:St) (H:Hp) (x:V) (v:Δ) (Q:VK),Inv X pins σ H s->RelV x v->r x H Q ->
  wpAny (model X.prog X.w) X.A (f v) (EP X pins σ Q) X.xe s
def d8(X:Cx) (f:Δ) (r:List V->Hp->VK->Prop):Prop :=
 ∀(pins:List (Ψ×Obj)) (s:Ω) (σ:St) (H:Hp) (xs:List V) (us:List Δ) (Q:VK),Inv X pins σ H s->Vals xs us->r xs H Q ->
  wpAny (model X.prog X.w) X.A (call f us) (EP X pins σ Q) X.xe s
def qu(r:R2) (ta tb:TE):TE:=λσ H Q=>ta σ H λx H1=>tb σ H1 λy H2=>r x y H2 Q
def Oj(r:V->Hp->VK->Prop) (ta:TE):TE:=λσ H Q=>ta σ H λx H1=>r x H1 Q
def rI(C:Int->Int->Prop) (g:Int->Int->V):R2:=λx y H Q=>∃i j,x=.int i/\y=.int j/\C i j/\Q (g i j) H
def jZ(g:Int->Int->V):R2:=λx y H Q=>∃i j,x=.int i/\y=.int j/\Q (g i j) H
def rU(g:Int->V):V->Hp->VK->Prop:=λx H Q=>∃i,x=.int i/\Q (g i) H
section
variable {X:Cx}{a b c:ο}{ta tb tc:TE}{pos:Pos}
theorem EM(ha:PE X a ta) (hb:PE X b tb) {pins:List (Ψ×Obj)}{s:Ω}{σ:St}{H:Hp}{R:V->V->Hp->Prop}(I:Inv X pins σ H s)
  (h:ta σ H λx H1=>tb σ H1 λy H2=>R x y H2) {Q:Δ->Ω->Prop}{f:Δ->Δ->Sem Δ}
  (hf:∀v u s2 x y H2,Inv X pins σ H2 s2->RelV x v->RelV y u->R x y H2->wpAny (model X.prog X.w) X.A (f v u) Q X.xe s2) :
  wpAny (model X.prog X.w) X.A (eval a X.env) (λv s₁=>wpAny (model X.prog X.w) X.A (eval b X.env) (λu s₂=>wpAny (model X.prog X.w) X.A (f v u) Q X.xe s₂) X.xe s₁) X.xe s:=by
 refine br (ha pins s σ H _ I h) λv s1 ⟨x,H1,I1,r1,q1⟩=>?_
 refine br (hb pins s1 σ H1 _ I1 q1) λu s2 ⟨y,H2,I2,r2,q2⟩=>?_
 exact hf v u s2 x y H2 I2 r1 r2 q2
theorem SW{op:Operator}{r:R2}(ho:bK X (binaryOp op) r) (ha:PE X a ta) (hb:PE X b tb):PE X (.BinOp a op b pos) (qu r ta tb):=by
 intro pins s σ H Q I h;exact wpAny_BinOp (EM ha hb I h λv u s2 x y H2 I2 rx ry q=>ho pins s2 σ H2 x y v u Q I2 rx ry q)
theorem SQ{op:UnaryOp}{r:V->Hp->VK->Prop}(ho:vI X (unaryOp op) r) (ha:PE X a ta):PE X (.UnaryOp op a pos) (Oj r ta):=by
 intro pins s σ H Q I h;exact UnaryOp_ (br (ha pins s σ H _ I h) λv s1 ⟨x,H1,I1,r1,q1⟩=>ho pins s1 σ H1 x v Q I1 r1 q1)
theorem xy{f:Δ->Δ->Sem Δ}{C:Int->Int->Prop}{g:Int->Int->Int}
  (rule:∀(i j:Int) (t u:Tok) (s:Ω) (Q:Δ->Ω->Prop) (E:Δ->Ω->Prop),C i j->Q (.int (g i j) s.toks) {s with toks:=s.toks+1}->wpAny (model X.prog X.w) X.A (f (.int i t) (.int j u)) Q E s) :
  bK X f (rI C λi j=>.int (g i j)):=by
 intro pins s σ H x y v u Q I rx ry h;obtain⟨i,j,rfl,rfl,hc,q⟩:=h;obtain⟨t,rfl⟩:=rx;obtain⟨t',rfl⟩:=ry;exact rule i j t t' s _ _ hc ⟨.int (g i j),H,I.tok _,⟨_,rfl⟩,q⟩
theorem AM{f:Δ->Δ->Sem Δ}{g:Int->Int->Int}
  (rule:∀(i j:Int) (t u:Tok) (s:Ω) (Q:Δ->Ω->Prop) (E:Δ->Ω->Prop),Q (.int (g i j) s.toks) {s with toks:=s.toks+1}->wpAny (model X.prog X.w) X.A (f (.int i t) (.int j u)) Q E s) :
  bK X f (jZ λi j=>.int (g i j)):=by
 intro pins s σ H x y v u Q I rx ry h;obtain⟨i,j,rfl,rfl,q⟩:=h;obtain⟨t,rfl⟩:=rx;obtain⟨t',rfl⟩:=ry;exact rule i j t t' s _ _ ⟨.int (g i j),H,I.tok _,⟨_,rfl⟩,q⟩
theorem xC{f:Δ->Δ->Sem Δ}{g:Int->Int->Bool}
  (rule:∀(i j:Int) (t u:Tok) (s:Ω) (Q:Δ->Ω->Prop) (E:Δ->Ω->Prop),Q (.bool (g i j)) s->wpAny (model X.prog X.w) X.A (f (.int i t) (.int j u)) Q E s) :
  bK X f (jZ λi j=>.bl (g i j)):=by
 intro pins s σ H x y v u Q I rx ry h;obtain⟨i,j,rfl,rfl,q⟩:=h;obtain⟨t,rfl⟩:=rx;obtain⟨t',rfl⟩:=ry;exact rule i j t t' s _ _ ⟨.bl (g i j),H,I,rfl,q⟩
def aea(i j:Int):Prop:=0<j/\j<1073741824
def ad9(i j:Int):Prop:=0<=j/\j<=1000000/\i.natAbs<2^64
def Fe(i j:Int):Prop:=(-(2^64)<i/\i<2^64)\/(-(2^64)<j/\j<2^64)
theorem Fe.ok{i j:Int}(h:Fe i j):IntMulOk i j:=by
 rcases h with⟨h1,h2⟩|⟨h1,h2⟩
 ·exact .of_left (intBits_le_64 h1 h2)
 ·exact .of_right (intBits_le_64 h1 h2)
theorem Ub:bK X (binaryOp .Add) (jZ λi j=>.int (i+j)):=AM λ_ _ _ _ _ _ _ q=>add_int q
theorem TL:bK X (binaryOp .Sub) (jZ λi j=>.int (i-j)):=AM λ_ _ _ _ _ _ _ q=>sub_int q
theorem TU:bK X (binaryOp .Mult) (rI Fe λi j=>.int (i*j)):=xy λ_ _ _ _ _ _ _ hc q=>mul_int q hc.ok
theorem T5:bK X (binaryOp .FloorDiv) (rI aea λi j=>.int (i/j)):=xy λi j _ _ _ _ _ hc q=>by
 have h1:(0:Int)<j:=hc.1;have h2:j<1073741824:=hc.2;exact floordiv_int (by omega) (by rw[Int.fdiv_eq_ediv_of_nonneg i (by omega)];exact q) (.inl (PyProof.noPylong_small (by omega)))
theorem TV:bK X (binaryOp .Mod) (rI (λ_ j=>0<j) λi j=>.int (i % j)):=xy λi j _ _ _ _ _ hc q=>by
 have h1:(0:Int)<j:=hc;exact mod_int' (by omega) (by rw[Int.fmod_eq_emod_of_nonneg i (by omega)];exact q)
theorem TQ:bK X (binaryOp .Pow) (rI ad9 λi j=>.int (i^j.toNat)):=xy λ_ _ _ _ _ _ _ hc q=>pow_int_small hc.1 hc.2.1 hc.2.2 q
theorem T9:bK X (binaryOp .BitAnd) (jZ λi j=>.int (Builtin.bitAnd i j)):=AM λ_ _ _ _ _ _ _ q=>and_int q
theorem NV{f:Δ->Sem Δ}{g:Int->Int}
  (rule:∀(i:Int) (t:Tok) (s:Ω) (Q:Δ->Ω->Prop) (E:Δ->Ω->Prop),Q (.int (g i) s.toks) {s with toks:=s.toks+1}->wpAny (model X.prog X.w) X.A (f (.int i t)) Q E s) :
  vI X f (rU λi=>.int (g i)):=by
 intro pins s σ H x v Q I rx h;obtain⟨i,rfl,q⟩:=h;obtain⟨t,rfl⟩:=rx;exact rule i t s _ _ ⟨.int (g i),H,I.tok _,⟨_,rfl⟩,q⟩
theorem NU:vI X (unaryOp .USub) (rU λi=>.int (-i)):=NV λ_ _ _ _ _ q=>neg_int q
end
def Ax:V->V->Bool
 |.aI,.aI=>Γ|.aI,.int _=>Γ|.int _,.aI=>Γ|.aI,.bl _=>Γ|.bl _,.aI=>Γ|.aI,.str _=>Γ|.str _,.aI=>Γ
 |.int _,.int _=>Γ|.bl _,.bl _=>Γ|.str _,.str _=>Γ|.jQ _,.jQ _=>Γ
 |.int _,.str _=>Γ|.str _,.int _=>Γ|.bl _,.str _=>Γ|.str _,.bl _=>Γ
 |_,_=>θ
def Rj:R2:=λx y H Q=>Ax x y=Γ/\Q (.bl (decide (x=y))) H
def Rb:R2:=λx y H Q=>Ax x y=Γ/\Q (.bl (!decide (x=y))) H
theorem Ku{i j:Int}:decide (V.int i=V.int j)=(i==j):=by
 rw[agV];simp
theorem Kw{i j:Bool}:decide (V.bl i=V.bl j)=(i==j):=by
 rw[agV];simp
theorem Ks{i j:Str}:decide (V.str i=V.str j)=(i==j):=by
 rw[agV];simp
theorem Kv{i j:Array UInt8}:decide (V.jQ i=V.jQ j)=(i.toList==j.toList):=by
 rw[agV];cases i;cases j;simp
section
variable {X:Cx}{a b c:ο}{ta tb tc:TE}{pos:Pos}
theorem c7{pins:List (Ψ×Obj)}{σ:St}{H:Hp}{s:Ω}{Q:VK}{k k':Bool}(I:Inv X pins σ H s) (q:Q (.bl k) H) (e:k=k'):EP X pins σ Q (.bool k') s:=by
 subst e;exact⟨.bl k,H,I,rfl,q⟩
theorem T6:bK X (compareOp .Eq) Rj:=by
 intro pins s σ H x y v u Q I rx ry h;obtain⟨hs,q⟩:=h;cases x with
 |aI =>
  cases rx;cases y with
  |aI=>cases ry;exact PySem.EqNone.eq_none_none (c7 I q (by simp))
  |bl j=>cases ry;exact PySem.EqNone.eq_none_bool (c7 I q (by simp))
  |int j=>obtain⟨t',rfl⟩:=ry;exact PySem.EqNone.eq_none_int (c7 I q (by simp))
  |str j=>obtain⟨t',rfl⟩:=ry;exact PySem.EqNone.eq_none_str (c7 I q (by simp))
  |_=>exact absurd (show θ=Γ from hs) agg
 |bl i =>
  cases rx;cases y with
  |aI=>cases ry;exact PySem.EqNone.eq_bool_none (c7 I q (by simp))
  |bl j=>cases ry;exact eq_bool (c7 I q Kw)
  |str j=>obtain⟨t',rfl⟩:=ry;exact PySem.EqMixed.eq_bool_str (c7 I q (by simp))
  |_=>exact absurd (show θ=Γ from hs) agg
 |int i =>
  obtain⟨t,rfl⟩:=rx;cases y with
  |aI=>cases ry;exact PySem.EqNone.eq_int_none (c7 I q (by simp))
  |int j=>obtain⟨t',rfl⟩:=ry;exact eq_int (c7 I q Ku)
  |str j=>obtain⟨t',rfl⟩:=ry;exact PySem.EqMixed.eq_int_str (c7 I q (by simp))
  |_=>exact absurd (show θ=Γ from hs) agg
 |str i =>
  obtain⟨t,rfl⟩:=rx;cases y with
  |aI=>cases ry;exact PySem.EqNone.eq_str_none (c7 I q (by simp))
  |bl j=>cases ry;exact PySem.EqMixed.eq_str_bool (c7 I q (by simp))
  |int j=>obtain⟨t',rfl⟩:=ry;exact PySem.EqMixed.eq_str_int (c7 I q (by simp))
  |str j=>obtain⟨t',rfl⟩:=ry;exact eq_str (c7 I q Ks)
  |_=>exact absurd (show θ=Γ from hs) agg
 |jQ i =>
  obtain⟨t,rfl⟩:=rx;cases y with
  |jQ j=>obtain⟨t',rfl⟩:=ry;exact PySem.W.eq_bytes (c7 I q Kv)
  |_=>exact absurd (show θ=Γ from hs) agg
 |_=>cases y<;>exact absurd (show θ=Γ from hs) agg
theorem TR:bK X (compareOp .NotEq) Rb:=by
 intro pins s σ H x y v u Q I rx ry h;obtain⟨hs,q⟩:=h;cases x with
 |aI =>
  cases rx;cases y with
  |aI=>cases ry;exact PySem.EqNone.ne_none_none (c7 I q (by simp))
  |bl j=>cases ry;exact PySem.EqNone.ne_none_bool (c7 I q (by simp))
  |int j=>obtain⟨t',rfl⟩:=ry;exact PySem.EqNone.ne_none_int (c7 I q (by simp))
  |str j=>obtain⟨t',rfl⟩:=ry;exact PySem.EqNone.ne_none_str (c7 I q (by simp))
  |_=>exact absurd (show θ=Γ from hs) agg
 |bl i =>
  cases rx;cases y with
  |aI=>cases ry;exact PySem.EqNone.ne_bool_none (c7 I q (by simp))
  |bl j=>cases ry;exact ne_bool (c7 I q (congrArg not Kw))
  |str j=>obtain⟨t',rfl⟩:=ry;exact PySem.EqMixed.ne_bool_str (c7 I q (by simp))
  |_=>exact absurd (show θ=Γ from hs) agg
 |int i =>
  obtain⟨t,rfl⟩:=rx;cases y with
  |aI=>cases ry;exact PySem.EqNone.ne_int_none (c7 I q (by simp))
  |int j=>obtain⟨t',rfl⟩:=ry;exact ne_int (c7 I q (congrArg not Ku))
  |str j=>obtain⟨t',rfl⟩:=ry;exact PySem.EqMixed.ne_int_str (c7 I q (by simp))
  |_=>exact absurd (show θ=Γ from hs) agg
 |str i =>
  obtain⟨t,rfl⟩:=rx;cases y with
  |aI=>cases ry;exact PySem.EqNone.ne_str_none (c7 I q (by simp))
  |bl j=>cases ry;exact PySem.EqMixed.ne_str_bool (c7 I q (by simp))
  |int j=>obtain⟨t',rfl⟩:=ry;exact PySem.EqMixed.ne_str_int (c7 I q (by simp))
  |str j=>obtain⟨t',rfl⟩:=ry;exact ne_str (c7 I q (congrArg not Ks))
  |_=>exact absurd (show θ=Γ from hs) agg
 |jQ i =>
  obtain⟨t,rfl⟩:=rx;cases y with
  |jQ j=>obtain⟨t',rfl⟩:=ry;exact PySem.W.ne_bytes (c7 I q (congrArg not Kv))
  |_=>exact absurd (show θ=Γ from hs) agg
 |_=>cases y<;>exact absurd (show θ=Γ from hs) agg
theorem TX:bK X (compareOp .Lt) (jZ λi j=>.bl (decide (i<j))):=xC λ_ _ _ _ _ _ _ q=>lt_int q
theorem TY:bK X (compareOp .LtE) (jZ λi j=>.bl (decide (i<=j))):=xC λ_ _ _ _ _ _ _ q=>le_int q
theorem T3:bK X (compareOp .Gt) (jZ λi j=>.bl (decide (j<i))):=xC λ_ _ _ _ _ _ _ q=>gt_int q
theorem T4:bK X (compareOp .GtE) (jZ λi j=>.bl (decide (j<=i))):=xC λ_ _ _ _ _ _ _ q=>ge_int q
theorem HP(b:ο) {op:CmpOp}(h:op≠.In:=by decide) (h2:op≠.NotIn:=by decide):behindInMarks op b=θ:=by
 have e1:(op==CmpOp.In)=θ:=by cases op<;>first|rfl|exact absurd rfl h
 have e2:(op==CmpOp.NotIn)=θ:=by cases op<;>first|rfl|exact absurd rfl h2
 cases b<;>simp[behindInMarks,e1,e2]
theorem S5{op:CmpOp}{r:R2}(ho:bK X (compareOp op) r) (ha:PE X a ta) (hb:PE X b tb) (hm:behindInMarks op b=θ):PE X (.Compare a [op] [b] pos) (qu r ta tb):=by
 intro pins s σ H Q I h;exact wpAny_Compare1 (EM ha hb I h λv u s2 x y H2 I2 rx ry q=>ho pins s2 σ H2 x y v u Q I2 rx ry q) hm
def F9(t:TE):TT:=λσ H Q=>t σ H λx H'=>∃k,x=.bl k/\Q k H'
theorem Ry{op:CmpOp}{r:R2}(ho:bK X (compareOp op) r) (ha:PE X a ta) (hb:PE X b tb) (hm:behindInMarks op b=θ):PT X (.Compare a [op] [b] pos) (F9 (qu r ta tb)):=by
 intro pins s σ H Q I h;refine wpAny_isTrue_Compare1 (br (ha pins s σ H _ I h) λv s1 ⟨x,H1,I1,r1,q1⟩=>br (hb pins s1 σ H1 _ I1 q1) λu s2 ⟨y,H2,I2,r2,q2⟩ =>
  br (ho pins s2 σ H2 x y v u _ I2 r1 r2 q2) λc s3 ⟨z,H3,I3,r3,k,e,q3⟩=>?_) hm
 subst e;cases r3;exact ag0 ⟨H3,I3,q3⟩
def Gh(r r':R2) (ta tb tc:TE):TE:=λσ H Q=>ta σ H λx H1=>tb σ H1 λy H2=>r x y H2 λz H3=>∃k,z=.bl k /\
 (if k=Γ then tc σ H3 λw' H4=>r' y w' H4 Q else Q (.bl θ) H3)
theorem S6{op op':CmpOp}{r r':R2}(ho:bK X (compareOp op) r) (ho':bK X (compareOp op') r') (ha:PE X a ta) (hb:PE X b tb) (hc:PE X c tc)
  (hm:lastMarks [op,op'] [b,c]=θ:=by with_unfolding_all rfl):PE X (.Compare a [op,op'] [b,c] pos) (Gh r r' ta tb tc):=by
 intro pins s σ H Q I h;refine Compare_chain (br (ha pins s σ H _ I h) λv s1 ⟨x,H1,I1,r1,q1⟩=>chain_link (br (hb pins s1 σ H1 _ I1 q1) λu s2 ⟨y,H2,I2,r2,q2⟩ =>
  br (ho pins s2 σ H2 x y v u _ I2 r1 r2 q2) λd s3 ⟨z,H3,I3,r3,k,e,q3⟩=>?_)) hm
 subst e;cases r3;refine ag0 ?_;cases k with
 |false=>exact ite_ff ⟨.bl θ,H3,I3,rfl,q3⟩
 |true=>exact ite_tt (chain_last (br (hc pins s3 σ H3 _ I3 q3) λw' s4 ⟨z',H4,I4,r4,q4⟩=>ho' pins s4 σ H4 y z' u w' Q I4 r2 r4 q4))
theorem Rz{op op':CmpOp}{r r':R2}(ho:bK X (compareOp op) r) (ho':bK X (compareOp op') r') (ha:PE X a ta) (hb:PE X b tb) (hc:PE X c tc)
  (hm:lastMarks [op,op'] [b,c]=θ:=by with_unfolding_all rfl):PT X (.Compare a [op,op'] [b,c] pos) (F9 (Gh r r' ta tb tc)):=by
 intro pins s σ H Q I h;refine isTrue_chain (br (ha pins s σ H _ I h) λv s1 ⟨x,H1,I1,r1,q1⟩=>test_link (br (hb pins s1 σ H1 _ I1 q1) λu s2 ⟨y,H2,I2,r2,q2⟩ =>
  br (ho pins s2 σ H2 x y v u _ I2 r1 r2 q2) λd s3 ⟨z,H3,I3,r3,k,e,q3⟩=>?_)) hm
 subst e;cases r3;refine ag0 ?_;cases k with
 |false =>
  obtain⟨k',e',q'⟩:=q3;cases e';exact ite_ff ⟨H3,I3,q'⟩
 |true =>
  refine ite_tt (test_last (br (hc pins s3 σ H3 _ I3 q3) λw' s4 ⟨z',H4,I4,r4,q4⟩=>br (ho' pins s4 σ H4 y z' u w' _ I4 r2 r4 q4) λd' s5 ⟨z2,H5,I5,r5,k2,e2,q5⟩=>?_))
  subst e2;cases r5;exact ag0 ⟨H5,I5,q5⟩
theorem uX:(ε:Nat)<2^63:=by rw[ahW];decide
theorem Ua:bK X (binaryOp .Add) (λx y H Q=>∃i j,x=.str i/\y=.str j/\i.length+j.length<=ε/\Q (.str (i++j)) H):=by
 intro pins s σ H x y v u Q I rx ry h;obtain⟨i,j,rfl,rfl,hz,q⟩:=h;obtain⟨t,rfl⟩:=rx;obtain⟨t',rfl⟩:=ry;exact add_str (λt' tk=>⟨.str (i++j),H,I.tok _,⟨_,rfl⟩,q⟩) hz
theorem vals1{x:V}{us:List Δ}(r:Vals [x] us):∃u,us=[u]/\RelV x u:=by
 cases r with
 |cons r1 r2=>cases r2;exact⟨_,rfl,r1⟩
theorem vals2{x y:V}{us:List Δ}(r:Vals [x,y] us):∃u w',us=[u,w']/\RelV x u/\RelV y w':=by
 cases r with
 |cons r1 r2 =>
  cases r2 with
  |cons r3 r4=>cases r4;exact⟨_,_,rfl,r1,r3⟩
theorem acM(hc:X.calm=Γ):d8 X (.builtin "max") (λxs H Q=>∃i j,xs=[.int i,.int j]/\Q (.int (if j>i then j else i)) H):=by
 intro pins s σ H xs us Q I r h;obtain⟨i,j,rfl,q⟩:=h;obtain⟨u,w',rfl,⟨t,rfl⟩,⟨t',rfl⟩⟩:=vals2 r;refine max_two_ints (I.ok.hd hc) λh' tk k=>⟨_,H,I.kept k,?_,q⟩
 by_cases hj:j>i
 ·rw[if_pos hj,if_pos hj];exact⟨_,rfl⟩
 ·rw[if_neg hj,if_neg hj];exact⟨_,rfl⟩
theorem acL(hc:X.calm=Γ):d8 X (.builtin "min") (λxs H Q=>∃i j,xs=[.int i,.int j]/\Q (.int (if j<i then j else i)) H):=by
 intro pins s σ H xs us Q I r h;obtain⟨i,j,rfl,q⟩:=h;obtain⟨u,w',rfl,⟨t,rfl⟩,⟨t',rfl⟩⟩:=vals2 r;refine min_two_ints (I.ok.hd hc) λh' tk k=>⟨_,H,I.kept k,?_,q⟩
 by_cases hj:j<i
 ·rw[if_pos hj,if_pos hj];exact⟨_,rfl⟩
 ·rw[if_neg hj,if_neg hj];exact⟨_,rfl⟩
end
structure EY (h:ψ) (x dx C:Ψ) (mA:Str->Option Δ):Prop where
 obj:h.get? x=ζ (PySem.W.instObj C dx)
 ns:h.Ns1 dx mA
 ne:dx≠x
theorem XF{h:ψ}{dx:Ψ}{mA:Str->Option Δ}(n:h.Ns1 dx mA):∃od,h.get? dx=ζ od/\∀name,PySem.W.lookIn name od=ζ (mA name):=by
 obtain⟨o,es,ep,ho,hd,hk,_,hm⟩:=n;refine⟨o,ho,λname=>?_⟩
 have e:=hm name;unfold nsFind findBy at e;rw[<-Array.find?_toList]at e;unfold PySem.W.lookIn;rw[hd];dsimp only;split
 ·rename_i y q;rw[q]at e;exact congrArg ζ e
 ·rename_i q;rw[q]at e;have a:es.toList.any (·.refKey)=θ:=by
   rw[ai7];intro y hy;obtain⟨z,t,hkey⟩:=hk y (Array.mem_toList_iff.mp hy);simp[DictEntry.refKey,hkey]
  have a':¬es.toList.any (·.refKey)=Γ:=by rw[a];exact agg
  rw[if_neg a'];exact congrArg ζ e
theorem EY.look{h:ψ}{x dx C:Ψ}{mA:Str->Option Δ}(I:EY h x dx C mA):∃od,PySem.W.InstAt h x (PySem.W.instObj C dx) C (ζ od)/\∀name,PySem.W.lookIn name od=ζ (mA name) :=
 let⟨od,ho,hl⟩:=XF I.ns
 ⟨od,⟨I.obj,rfl,rfl,ho⟩,hl⟩
section
variable {P:τ}{w:υ}{H H':Hp}{h h':ψ}{a C dx:Ψ}{fs fs':List (Str×V)}
theorem Zf(hok:bZ P w H h) (e:H a=ζ (.ins C dx fs)):∃mA,EY h a dx C mA/\(∀f,qa (fs.lookup f) (mA f))/\PySem.Within mA (fs.map (·.1))/\fs.length<=1000/\H dx=ζ (.own a):=by
 obtain⟨d,z,ne,ob,mA,n,r,q⟩:=(show dz P w H h a (.ins C dx fs)from hok a _ e)
 exact⟨mA,⟨ob,n,ne⟩,r,q,z,d⟩
end
structure Fd (K:ξ) (C:Ψ):Prop where
 pg:PySem.W.plainGet K C Str.empty=Γ
 hd:PySem.W.hasDictIn K C=Γ
 po:PySem.W.plainOver K C=Γ
 sa:PySem.W.findIn K (.ref C) "__setattr__"=ζ (ζ (.builtin "object.__setattr__"))
theorem Fd.get{K:ξ}{C:Ψ}(c:Fd K C) (f:Str):PySem.W.plainGet K C f=Γ:=c.pg
section
variable {X:Cx}{pins:List (Ψ×Obj)}{σ:St}{H:Hp}{s:Ω}{A:χ}{E:Δ->Ω->Prop}{Q:Δ->Ω->Prop}{c:Δ}{b:Bool}
inductive iX (K:ξ) (H:Hp):V->Δ->Prop where
 |aI:iX K H .aI (.type "NoneType")
 |bl (x:Bool):iX K H (.bl x) (.type "bool")
 |int (i:Int):iX K H (.int i) (.type "int")
 |str (x:Str):iX K H (.str x) (.type "str")
 |se (x:UInt64):iX K H (.se x) (.type "float")
 |lst {a:Ψ}{xs:List V}(e:H a=ζ (.lst xs)):iX K H (.ref a) (.type "list")
 |cB {a:Ψ}{o:Obj}{xs:List V}(e:H a=ζ (.cB o (.lst xs))):iX K H (.ref a) (.type "list")
 |tup {a:Ψ}{xs:List V}(e:H a=ζ (.tup xs)):iX K H (.ref a) (.type "tuple")
 |dK {a:Ψ}{kvs:List (Key×V)}(e:H a=ζ (.dK kvs)):iX K H (.ref a) (.type "dict")
 |dT {a:Ψ}{kvs:List (List Key×V)}(e:H a=ζ (.dT kvs)):iX K H (.ref a) (.type "dict")
 |ins {a C dx:Ψ}{fs:List (Str×V)}(e:H a=ζ (.ins C dx fs)) (cl:Fd K C) (ha:PySem.W.findIn K (.ref C) "__class__"=ζ (ζ (.builtin "object.__class__")))
   (hn:PySem.W.specialIn K (.builtin "object.__class__") "__get__"=ζ (ζ (.builtin "getset_descriptor.__get__"))) (htk:PySem.W.takesIn K (.builtin "object.__class__")=ζ Γ)
   (hm:PySem.W.mroIn K C (.type "object")=ζ Γ):iX K H (.ref a) (.ref C)
theorem Za{x:V}{u t:Δ}(I:Inv X pins σ H s) (rx:RelV x u) (ty:iX X.K H x t) (e:PySem.W.kitOne X.K t c=ζ b) (h:∀tk,Q (.bool b) {s with toks:=tk}) :
  wpAny (model X.prog X.w) A (call (.builtin "isinstance") [u,c]) Q E s:=by
 cases ty with
 |aI=>cases(show u=Value.none from rx);exact agE PySem.W.kitx_none I.dX True.intro e (λz=>nomatch z) h
 |bl y=>cases(show u=Value.bool y from rx);exact agE PySem.W.kitx_bool I.dX True.intro e (λz=>nomatch z) h
 |int i=>obtain⟨t,q⟩:=(show ∃t,u=Value.int i t from rx);cases q;exact agE PySem.W.kitx_int I.dX True.intro e (λz=>nomatch z) h
 |str y=>obtain⟨t,q⟩:=(show ∃t,u=Value.str y t from rx);cases q;exact agE PySem.W.kitx_str I.dX True.intro e (λz=>nomatch z) h
 |se y=>obtain⟨t,q⟩:=(show ∃t,u=Value.float y t from rx);cases q;exact agE PySem.W.kitx_float I.dX True.intro e (λz=>nomatch z) h
 | @lst a xs ea =>
  cases(show u=Value.ref a from rx)
  obtain⟨_,_,n,_,h1⟩:=(show dz X.prog X.w H s.heap a (.lst xs)from I.hok a _ ea)
  exact agE ai8 I.dX ⟨_,h1,rfl⟩ e (λz=>nomatch z) h
 | @cB a ob xs ea =>
  cases(show u=Value.ref a from rx)
  obtain⟨_,_,_,n,_,h1⟩:=(show dz X.prog X.w H s.heap a (.cB ob (.lst xs))from I.hok a _ ea)
  exact agE ai8 I.dX ⟨_,h1,rfl⟩ e (λz=>nomatch z) h
 | @tup a xs ea =>
  cases(show u=Value.ref a from rx)
  obtain⟨_,_,_,p⟩:=(show dz X.prog X.w H s.heap a (.tup xs)from I.hok a _ ea)
  obtain⟨o,h1,h2,_⟩:=p;exact agE PySem.W.kitx_tuple I.dX ⟨o,h1,h2⟩ e (λz=>nomatch z) h
 | @dK a kvs ea =>
  cases(show u=Value.ref a from rx)
  obtain⟨_,_,vs,_,p⟩:=(show dz X.prog X.w H s.heap a (.dK kvs)from I.hok a _ ea)
  obtain⟨o,es,ep,h1,h2,_⟩:=p;exact agE ais I.dX ⟨o,h1,h2.1⟩ e (λz=>nomatch z) h
 | @dT a kvs ea =>
  cases(show u=Value.ref a from rx)
  obtain⟨_,_,xs,_,o,es,ep,h1,h2,_⟩:=(show dz X.prog X.w H s.heap a (.dT kvs)from I.hok a _ ea)
  exact agE ais I.dX ⟨o,h1,h2.1⟩ e (λz=>nomatch z) h
 | @ins a C dx fs ea cl ha hn htk hm =>
  cases(show u=Value.ref a from rx)
  obtain⟨mA,O,_⟩:=Zf I.hok ea;obtain⟨od,J,_⟩:=O.look;exact agE (PySem.W.kitx_own (cl.get _) cl.hd ha hn htk hm) I.dX J e (λz=>nomatch z) h
end
structure cP (k:Nat) (A:χ):Prop where
 hd:A.handled=η
 dp:A.depth+3*k+5<recursionLimit
 un:A.units+16*k+200<aaR
theorem cP.mono{j k:Nat}{A:χ}(r:cP k A) (h:j<=k):cP j A:=⟨r.hd,by have:=r.dp;omega,by have:=r.un;omega⟩
theorem cP.deeper{k:Nat}{A:χ}(r:cP (k+1) A) (env:Env):cP k (A.deeper env) :=
 ⟨r.hd,by have:=r.dp;show A.depth+1+3*k+5<_;omega,by have:=r.un;show A.units+3+16*k+200<_;omega⟩
theorem cP.depth{k:Nat}{A:χ}(r:cP k A):A.depth<recursionLimit:=by have:=r.dp;omega
def Gb:TA:=λ_ H Q=>Q [] H
def Ak(ta:TE) (tr:TA):TA:=λσ H Q=>ta σ H λx H1=>tr σ H1 λxs H2=>Q (x::xs) H2
section
variable {X:Cx}{e:ο}{es:List ο}{te:TE}{t:TA}{pos:Pos}
theorem kQ:PA X [] Gb:=λ_ _ _ _ H Q I h=>Calls.spliced_nil ⟨[],H,I,.nil,h⟩
theorem je(ha:PE X e te) (hr:PA X es t) (hs:μ (e::es) X.env=(θ,eval e X.env)::μ es X.env:=by rfl):PA X (e::es) (Ak te t):=by
 intro pos pins s σ H Q I h;rw[hs];show wpAny _ _ (spliced ((θ,eval e X.env)::aah pos (μ es X.env))) _ _ s;refine Calls.spliced_cons (br (ha pins s σ H _ I h) λu s1 ⟨x,H1,I1,r1,q1⟩=>?_)
 exact br (hr pos pins s1 σ H1 _ I1 q1) λus s2 ⟨xs,H2,I2,r2,q2⟩=>⟨x::xs,H2,I2,.cons r1 r2,q2⟩
def F8(t:TA):TE:=λσ H Q=>t σ H λxs H1=>xs.length<=ε/\∀p,H1 p=η->Q (.ref p) (upd H1 p (.tup xs))
def OA(t:TA):TE:=λσ H Q=>t σ H λxs H1=>xs.length<=ε/\∀p,H1 p=η->Q (.ref p) (upd H1 p (.lst xs))
theorem Hh{x1}(h:PA X es t):PE X (.Tuple es x1 pos) (F8 t):=by
 intro pins s σ H Q I hq;refine wpAny_Tuple_spliced (br (h pos pins s σ H _ I hq) λus s1 ⟨xs,H1,I1,r,z,q⟩=>⟨by rw[<-r.length];exact z,?_⟩)
 have hf:H1 s1.heap.objs.size=η:=I1.hok.fresh (afU _);refine⟨.ref s1.heap.objs.size,upd H1 s1.heap.objs.size (.tup xs),I1.laid (t':=s1.toks) (λb u e=>afY _ e) (afU _) ?_,rfl,q _ hf⟩
 exact⟨z,us,r,⟨_,aga _ rfl,rfl,⟨_,rfl⟩,rfl⟩⟩
theorem Hj(h:PA X es t):PE X (.List es pos) (OA t):=by
 intro pins s σ H Q I hq;refine wpAny_List_spliced (br (h pos pins s σ H _ I hq) λus s1 ⟨xs,H1,I1,r,z,q⟩=>⟨by rw[<-r.length];exact z,?_⟩)
 have hf:H1 s1.heap.objs.size=η:=I1.hok.fresh (afU _);refine⟨.ref s1.heap.objs.size,upd H1 s1.heap.objs.size (.lst xs),I1.laid (t':=s1.toks) (λb u e=>afY _ e) (afU _) ?_,rfl,q _ hf⟩
 exact⟨z,us,0,r,aga _ rfl⟩
end
abbrev Sp:=List V->Hp->VK->XK->Prop
abbrev mz:=List Env->Hp->Ω->XK->Δ->Ω->Prop
structure mw (P:τ) (w:υ) (K:ξ) (mg:Str->Option Δ) (base:ψ) (A:χ) (outer:List Env) (s:Ω) (H:Hp):Prop where
 frames:A.frames=ζ outer
 mod:Mod K mg base
 bs:∀b o,base.get? b=ζ o->s.heap.get? b=ζ o/\H b=η
 gj:base.objs.size<=s.heap.objs.size
 fF:s.heap.FunFrames base outer
 ir:∀b∈frs outer,H b=η
 hok:bZ P w H s.heap
 bare:aap s.gens
def CE(outer:List Env) (P:τ) (w:υ) (H:Hp) (s:Ω) (Q:VK) (u:Δ) (s':Ω):Prop :=
 ∃v H',s'.os=s.os/\aap s'.gens/\Un (frs outer) [] H H' s.heap s'.heap/\bZ P w H' s'.heap/\RelV v u/\Q v H'
def CR(CX:mz) (outer:List Env) (P:τ) (w:υ) (H:Hp) (s:Ω) (Q:VK) (E:XK) (r:Result) (s':Ω):Prop :=
 match r with
 |.ok (.ret u)=>CE outer P w H s Q u s'
 |.ok _=>False
 |.error e=>CX outer H s E e s'
structure bV (P:τ) (w:υ) (K:ξ) (mg:Str->Option Δ) (base:ψ) (CX:mz) (k:Nat) (f:Ψ) (fd:π) (ps:List Str) (sp:Sp):Prop where
 len:∀vs H Q E,sp vs H Q E->vs.length=ps.length
 run:∀(A:χ) (outer:List Env) (s:Ω) (H:Hp) (args:Args) (us:List Δ) (vs:List V) (Q:VK) (E:XK),cP k A->mw P w K mg base A outer s H->aa6 s fd args (ps.zip us)->Vals vs us->sp vs H Q E ->
  codeAny (model P w) A (.call (.ref f) args) (CR CX outer P w H s Q E) s
section
variable {X:Cx}{pins:List (Ψ×Obj)}{σ:St}{H:Hp}{s s':Ω}
theorem Inv.yT(I:Inv X pins σ H s):mw X.prog X.w X.K X.mg X.base X.A X.stack s H :=
 ⟨I.ok.frames,I.ok.mod,I.bs,agf I.ok.gj I.sz,I.stack,I.wB,I.hok,I.bare⟩
theorem Inv.after{Q:VK}{u:Δ}(I:Inv X pins σ H s) (h:CE X.stack X.prog X.w H s Q u s'):EP X pins σ Q u s':=by
 obtain⟨v,H',os,bare,un,hok,r,q⟩:=h;obtain⟨hh,g,d,t,os'⟩:=s';obtain rfl:os'=s.os:=os;exact⟨v,H',I.call (h':=hh) (g':=g) (d':=d) (t':=t) (ch:=[]) un hok bare (λb z=>absurd z (by simp)),r,q⟩
end
def Gi(sp:Sp) (nj:List V) (E:XK) (t:TA):TE:=λσ H Q=>t σ H λvs H1=>sp (vs++nj) H1 Q E
def Binds(K:ξ) (fd:π) (ps:List Str) (ds:List Δ):Prop :=
 ∀(s:Ω) (us:List Δ),K.In s.heap->(us++ds).length=ps.length->aa6 s fd ⟨us,[]⟩ (ps.zip (us++ds))
theorem Binds.all{K:ξ}{fd:π}{ps:List Str}(h:∀us:List Δ,us.length=ps.length->bindArgs fd ⟨us,[]⟩=pure (ps.zip us)):Binds K fd ps []:=λs us _ hl=>by
 rw[agW]at hl ⊢;exact .of_eq (h us hl)
def Passes(CX:mz) (X:Cx) (E:XK):Prop:=∀(pins:List (Ψ×Obj)) (σ:St) (H:Hp) (s:Ω) (e:Δ) (s':Ω),Inv X pins σ H s->CX X.stack H s E e s'->X.xe e s'
section
variable {X:Cx}{CX:mz}{k:Nat}{f C:Ψ}{fd:π}{ps:List Str}{sp:Sp}{nj:List V}{ds:List Δ}{E:XK}{x m:Str}{p pos apos:Pos}{e o:ο}{es:List ο}{ta:TE}{t:TA}
theorem Qw{pins:List (Ψ×Obj)}{σ:St}{H:Hp}{s:Ω}{Q:VK}{us:List Δ}{vs:List V}(F:bV X.prog X.w X.K X.mg X.base CX k f fd ps sp) (hr:cP k X.A) (hb:Binds X.K fd ps ds) (hd:Vals nj ds) (hx:Passes CX X E)
  (I:Inv X pins σ H s) (r:Vals vs us) (h:sp (vs++nj) H Q E):wpAny (model X.prog X.w) X.A (call (.ref f) us) (EP X pins σ Q) X.xe s:=by
 have r2:Vals (vs++nj) (us++ds):=r.append hd;have hl:(us++ds).length=ps.length:=by rw[<-r2.length];exact F.len _ _ _ _ h
 refine ahk (agS (F.run X.A X.stack s H ⟨us,[]⟩ (us++ds) (vs++nj) Q E hr I.yT (hb s us I.dX hl) r2 h) λr s' hq=>?_)
 cases r with
 |error e=>exact hx pins σ H s e s' I hq
 |ok fl =>
  cases fl with
  |ret u=>exact I.after hq
  |next=>exact False.elim hq
  |brk=>exact False.elim hq
  |cont=>exact False.elim hq
theorem Hr(F:bV X.prog X.w X.K X.mg X.base CX k f fd ps sp) (hr:cP k X.A) (hg:Gl X x) (hm:X.mg x=ζ (.ref f)) (hk:PySem.W.keepIn X.K (.ref f)=Γ) (hb:Binds X.K fd ps ds) (hd:Vals nj ds) (hx:Passes CX X E)
  (ha:PA X (e::es) t) (hdb:(x==("__debug__":Str))=θ:=by decide) (he:μ (e::es) X.env=(θ,eval e X.env)::μ es X.env:=by rfl) (hpl:(aah pos (μ es X.env)).any (·.1)=θ:=by rfl) :
  PE X (.Call (.Name x p) (e::es) [] pos) (Gi sp nj E t):=by
 intro pins s σ H Q I h;refine ahl (rW I hg hm ?_ hdb);refine ait (h₀:=X.base) I.ok.mod.kh hk (br (ha pos pins s σ H _ I h) λus s1 ⟨vs,H1,I1,r,q⟩=>⟨I1.dX,?_⟩) he hpl
 exact Qw F hr hb hd hx I1 r q
end
structure cC (N P:List Str) (sc:aaj):Prop where
 kind:sc.kind=.function
 co:sc.isCoroutine=θ
 gen:sc.isGenerator=θ
 nd:N.Nodup
 pre:N.take P.length=P
 par:∀x∈P,sc.names.lookup x=ζ .local\/sc.names.lookup x=ζ .cell
 V7:∀y∈sc.names,y.2≠.free
theorem Lu{kindOf:Str->Option aae}{x:Str}:∀{binds:List (Str×Δ)}{m:Str->Option Δ},(∀v,(x,v)∉binds)->bindL kindOf binds m x=m x
 |[],_,_=>rfl
 |(n,v)::r,m,h=>by
  unfold bindL;rw[Lu λw hw=>h w (agy _ hw)]
  split
  ·have:x≠n:=by rintro rfl;exact h v agN
   simp[this]
  ·rfl
theorem Lw{kindOf:Str->Option aae}{x:Str}:∀{binds:List (Str×Δ)}{m:Str->Option Δ},(∀v,(x,v)∉binds)->bindC kindOf binds m x=m x
 |[],_,_=>rfl
 |(n,v)::r,m,h=>by
  unfold bindC;rw[Lw λw hw=>h w (agy _ hw)]
  split
  ·rfl
  ·have:x≠n:=by rintro rfl;exact h v agN
   simp[this]
theorem Lv{kindOf:Str->Option aae}{x:Str}{v:Δ}:∀{P:List Str}{vs:List Δ}{i:Nat}{m:Str->Option Δ},P.Nodup->P[i]? = ζ x->vs[i]? = ζ v->kindOf x=ζ .local ->
  bindL kindOf (P.zip vs) m x=ζ v
 |[],_,_,_,_,h,_,_=>by simp at h
 |_::_,[],_,_,_,_,h,_=>by simp at h
 |p::P,w::vs,0,m,nd,h1,h2,hk=>by
  simp at h1 h2;subst h1;subst h2;show bindL kindOf ((p,w)::P.zip vs) m p=_;unfold bindL;rw[Lu λv hv=>(ag9.mp nd).1 (ahm hv).1,if_pos hk]
  simp
 |p::P,w::vs,i+1,m,nd,h1,h2,hk=>by
  show bindL kindOf ((p,w)::P.zip vs) m x=_;unfold bindL;exact Lv (i:=i) (ag9.mp nd).2 (by simpa using h1) (by simpa using h2) hk
theorem Lx{kindOf:Str->Option aae}{x:Str}{v:Δ}:∀{P:List Str}{vs:List Δ}{i:Nat}{m:Str->Option Δ},P.Nodup->P[i]? = ζ x->vs[i]? = ζ v->kindOf x≠ζ .local ->
  bindC kindOf (P.zip vs) m x=ζ v
 |[],_,_,_,_,h,_,_=>by simp at h
 |_::_,[],_,_,_,_,h,_=>by simp at h
 |p::P,w::vs,0,m,nd,h1,h2,hk=>by
  simp at h1 h2;subst h1;subst h2;show bindC kindOf ((p,w)::P.zip vs) m p=_;unfold bindC;rw[Lw λv hv=>(ag9.mp nd).1 (ahm hv).1,if_neg hk]
  simp
 |p::P,w::vs,i+1,m,nd,h1,h2,hk=>by
  show bindC kindOf ((p,w)::P.zip vs) m x=_;unfold bindC;exact Lx (i:=i) (ag9.mp nd).2 (by simpa using h1) (by simpa using h2) hk
def start(N:List Str) (vs:List V):St:=vs.map ζ++ν (N.length-vs.length) η
def fu(CX:mz) (P:τ) (w:υ) (K:ξ) (mg:Str->Option Δ) (base:ψ) (N:List Str) (qual:Str) (scope:aaj) (f:Ψ) (cd:Δ) (A:χ) (outer:List Env) (s:Ω) (H:Hp) (E:XK):Cx where
 prog:=P
 w:=w
 K:=K
 mg:=mg
 base:=base
 A:=A.deeper (envOfC qual scope s.heap.objs.size f cd)
 N:=N
 s₀:=s
 H₀:=H
 env:=envOfC qual scope s.heap.objs.size f cd
 outer:=outer
 stack:=envOfC qual scope s.heap.objs.size f cd::outer
 ex:=[]
 calm:=Γ
 fn:=λ_=>Γ
 pn:=[]
 xe:=λe s'=>wpAny (model P w) (A.deeper (envOfC qual scope s.heap.objs.size f cd)) (leaving (envOfC qual scope s.heap.objs.size f cd) e) (λ_ s''=>CX outer H s E e s'') (λe' s''=>CX outer H s E e' s'') s'
theorem KR{sc:aaj}{n:Nat}{x:Str}(h:sc.names.lookup x=ζ .cell):∃c,(cellsFrom n sc.names []).lookup x=ζ c:=by
 have q:=ahF sc.names n [] (.inl h);exact ahG.mp q
theorem Ji{CX:mz}{P:τ}{w:υ}{K:ξ}{mg:Str->Option Δ}{base:ψ}{N ps:List Str}{qual:Str}{scope:aaj}{f:Ψ}{cd:Δ}{A:χ}{outer:List Env}{s s1:Ω}{H:Hp}{E:XK}{us:List Δ}{vs:List V}
  (S:cC N ps scope) (hd:A.handled=η) (e0:mw P w K mg base A outer s H) (hl:vs.length=ps.length) (r:Vals vs us)
  (x:InCallC s s.heap.objs.size (bindL (envOfC qual scope s.heap.objs.size f cd).kindOf (ps.zip us) λ_=>η) (cellsFrom (s.heap.objs.size+1) scope.names []) (bindC (envOfC qual scope s.heap.objs.size f cd).kindOf (ps.zip us) λ_=>η) s1) :
  Inv (fu CX P w K mg base N qual scope f cd A outer s H E) [] (start N vs) H s1:=by
 have hpl:ps.length<=N.length:=by have:=congrArg List.length S.pre;rw[aha]at this;omega
 obtain⟨h1,tk,rfl,hk⟩:=x.done;have kW:∀b:Ψ,b∉(fu CX P w K mg base N qual scope f cd A outer s H E).ex:=λb z=>absurd (show b∈([]:List Ψ)from z) (by simp)
 refine⟨⟨e0.mod,S.kind,rfl,rfl,afU _,λy z c h1 h2=>?_,λy hy=>?_,λy c _ h=>?_,λ_=>hd,aiu e0.frames,.inr ⟨rfl,rfl⟩,λb z=>absurd z (kW b),e0.bs,e0.gj,λb _ _=>kW b,λb z=>absurd z (kW b),e0.fF,e0.ir⟩,
  rfl,e0.bare,Un.kept hk,⟨_,x.toInCall.ns,λi y v h1 h2 h3=>?_⟩,λy c h=>⟨_,x.cell y c h⟩,e0.hok.fresh (afU _),λy c h=>?_,λp hp=>absurd (show p∈([]:List (Ψ×Obj))from hp) (by simp),e0.hok.kept hk,?_⟩
 ·exact name_of_addr x.apart (agP h1) (agP h2)
 ·have hy:scope.names.lookup y=ζ .cell\/scope.names.lookup y=ζ .free:=hy
  rcases hy with hy|hy
  ·exact KR hy
  ·exact absurd rfl (S.V7 _ (agP hy))
 ·exact ag8 (x.above y c (agP h))
 ·have hi:i<vs.length:=by
   unfold start at h2
   by_cases hi:i<vs.length
   ·exact hi
   ·rw[agG (by simpa using hi)]at h2
    rw[aiv]at h2;split at h2<;>cases h2
  have ha:vs[i]? = ζ v:=by
   unfold start at h2;rw[agC (by simpa using hi),agv]at h2
   cases e:vs[i]? with
   |none=>rw[e]at h2;cases h2
   |some a=>rw[e]at h2;cases h2;rfl
  obtain⟨u,hu,rv⟩:=r.get ha;have hp:ps[i]? = ζ y:=by
   rw[<-S.pre,aiw (by omega)];exact h1
  have Ia:ps.Nodup:=by rw[<-S.pre];exact S.nd.sublist (aix _ _)
  refine⟨u,rv,?_⟩
  rcases S.par y (agk hp)with k|k
  ·exact .inl ⟨k,Lv Ia hp hu k⟩
  ·obtain⟨c,e⟩:=KR (n:=s.heap.objs.size+1) k;refine .inr ⟨.inl k,c,e,?_⟩;have q:=x.cell y c e;rw[Lx Ia hp hu (by show scope.names.lookup y≠_;rw[k];decide)]at q
   exact q
 ·exact e0.hok.fresh (ag8 (x.above y c (agP h)))
 ·unfold start;show _=N.length;rw[ago,af7,List.length_replicate];omega
theorem CN{CX:mz}{P:τ}{w:υ}{K:ξ}{mg:Str->Option Δ}{base:ψ}{k:Nat}{f:Ψ}{name qual:Str}{params:aaH}{body:List aag}{scope:aaj}{dV kV doc pm cdv ct oc:Δ}{an od:Option Ψ}
  {osl:Array (Option Δ)}{N ps:List Str}{sp:Sp}(lk:K.lookup f=ζ ⟨oc,od,.func (PySem.W.fnOf name qual params body scope dV kV doc pm an cdv ct),osl⟩) (hcd:PySem.W.codeIn K cdv qual=Γ) (S:cC N ps scope)
  (len:∀vs H Q E,sp vs H Q E->vs.length=ps.length)
  (hbody:∀(A:χ) (outer:List Env) (s:Ω) (H:Hp) (vs:List V) (Q:VK) (E:XK),cP k (A.deeper (envOfC qual scope s.heap.objs.size f cdv))->sp vs H Q E ->
   ∃t,eT (fu CX P w K mg base N qual scope f cdv A outer s H E) body t/\t {nx:=λ_ H'=>Q .aI H',rt:=Q} (start N vs) H) :
  bV P w K mg base CX (k+1) f (PySem.W.fnOf name qual params body scope dV kV doc pm an cdv ct) ps sp:=by
 refine⟨len,λA outer s H args us vs Q E hr e0 hb r jL=>?_⟩
 have hl:=len _ _ _ _ jL;have KX:K.In s.heap:=e0.mod.kh.keeps λb o e=>(e0.bs b o e).1
 have lim:s.heap.NoLimit:=e0.mod.nolimit.keeps λb o e=>(e0.bs b o e).1
 have hkind:∀y∈ps.zip us,scope.names.lookup y.1=ζ .local\/(scope.names.lookup y.1=ζ .cell/\((cellsFrom (s.heap.objs.size+1) scope.names []).lookup y.1).isSome=Γ):=fun⟨n,v⟩ hy=>by
  rcases S.par n (ahm hy).1 with q|q
  ·exact .inl q
  ·exact .inr ⟨q,ahF _ _ _ (.inl q)⟩
 refine ai9 hr.depth (KX _ _ lk) rfl S.co S.gen rfl (aja KX hcd) (hb _ _ _ _ ?_);refine ajb S.kind hkind λenv he s1 x=>?_
 subst he;refine⟨lim.keeps x.toInCall.keep,codeAny_func ?_⟩;obtain⟨t,ht,hq⟩:=hbody A outer s H vs Q E (hr.deeper _) jL;have I:Inv (fu CX P w K mg base N qual scope f cdv A outer s H E) [] (start N vs) H s1:=Ji S hr.hd e0 hl r x;refine agh (ht [] s1 (start N vs) H _ I hq) (λfl s' hs=>?_) λe s' hs=>hs
 have fin:∀{σ':St}{H':Hp}{v:V}{u:Δ},Inv (fu CX P w K mg base N qual scope f cdv A outer s H E) [] σ' H' s'->RelV v u->Q v H'->CE outer P w H s Q u s' :=
  fun{σ' H' v u} J rv q=>⟨v,H',J.os,J.bare,J.base,J.hok,rv,q⟩
 cases fl with
 |ret u =>
  obtain⟨v,σ',H',J,rv,q⟩:=hs;exact fin J rv q
 |next =>
  obtain⟨σ',H',J,q⟩:=hs;exact fin (v:=V.aI) (u:=Value.none) J rfl q
 |brk =>
  obtain⟨_,_,_,q⟩:=hs;exact False.elim q
 |cont =>
  obtain⟨_,_,_,q⟩:=hs;exact False.elim q
section
variable {X:Cx}{x:Str}{p pos:Pos}{e:ο}{es:List ο}{t:TA}{id T:String}{r:List V->Hp->VK->Prop}
def Gj(r:List V->Hp->VK->Prop) (t:TA):TE:=λσ H Q=>t σ H λvs H1=>r vs H1 Q
theorem Hq(hc:d8 X (.builtin id) r) (hg:Gl X x) (hm:X.mg x=η) (hv:bootBuiltins x=ζ (.builtin id)) (ha:PA X (e::es) t) (hn:x≠"__name__":=by decide) (hdb:(x==("__debug__":Str))=θ:=by decide)
  (he:μ (e::es) X.env=(θ,eval e X.env)::μ es X.env:=by rfl) (hpl:(aah pos (μ es X.env)).any (·.1)=θ:=by rfl):PE X (.Call (.Name x p) (e::es) [] pos) (Gj r t):=by
 intro pins s σ H Q I h;refine ahl (rX I hg hm hv ?_ hn hdb);exact PyProof.Rows.callWith_builtin1 (br (ha pos pins s σ H _ I h) λus s1 ⟨vs,H1,I1,r1,q1⟩=>hc pins s1 σ H1 vs us Q I1 r1 q1) he hpl
theorem Ho(hc:d8 X (.type T) r) (hg:Gl X x) (hm:X.mg x=η) (hv:bootBuiltins x=ζ (.type T)) (ha:PA X (e::es) t) (hn:x≠"__name__":=by decide) (hdb:(x==("__debug__":Str))=θ:=by decide)
  (he:μ (e::es) X.env=(θ,eval e X.env)::μ es X.env:=by rfl) (hpl:(aah pos (μ es X.env)).any (·.1)=θ:=by rfl):PE X (.Call (.Name x p) (e::es) [] pos) (Gj r t):=by
 intro pins s σ H Q I h;refine ahl (rX I hg hm hv ?_ hn hdb);exact ahV (br (ha pos pins s σ H _ I h) λus s1 ⟨vs,H1,I1,r1,q1⟩=>hc pins s1 σ H1 vs us Q I1 r1 q1) he hpl
end
end L2
namespace HT
open PySem PyProof.Rows
section
variable {prog:τ}{w:υ}{A:χ}{E:Δ->Ω->Prop}{s:Ω}
theorem acI{t b:Ψ}{vs ws:List Δ}{Q:Δ->Ω->Prop}(ht:IsTup s.heap t vs.toArray) (hb:IsTup s.heap b ws.toArray) (hv:vs≠[])
  (h1:ws=[]->Q (.ref t) s) (h2:ws≠[]->Q (.ref s.heap.objs.size) {s with heap:=s.heap.push {cls:=.type "tuple",data:=.seq (vs++ws).toArray} })
  (hsz:vs.length+ws.length<=ε):wpAny (model prog w) A (binaryOp .Add (.ref t) (.ref b)) Q E s:=by
 obtain⟨⟨cls,dd,data,sl⟩,ho,hc,n,hd⟩:=id ht;obtain⟨⟨acC,dd2,data2,sl2⟩,ho2,hc2,n2,hd2⟩:=id hb;simp only at hc hd hc2 hd2;subst hc hd hc2 hd2;have e:vs.toArray++ws.toArray=(vs++ws).toArray:=by simp
 by_cases hw:ws=[]
 ·exact aiy ⟨_,ho,rfl⟩ ⟨_,ho2,rfl⟩ aiz aiA aiB aiC (aiD _ _)
   (tuple_addW1 t b vs.toArray ws.toArray n n2 dd dd2 sl sl2 (by simpa using hv) (by simp[hw])) ⟨ho,ho2,h1 hw⟩
 ·refine aiy ⟨_,ho,rfl⟩ ⟨_,ho2,rfl⟩ aiz aiA aiB aiC (aiD _ _)
   (tuple_addW2 t b vs.toArray ws.toArray n n2 dd dd2 sl sl2 (by simpa using hv) (by simpa using hw) (by rw[af0,af0];exact hsz)) ⟨ho,ho2,?_⟩
  rw[e];exact h2 hw
def bA(n d:Nat):Option Int->Nat
 |none=>d
 |some v=>if v<0 then(v+(n:Int)).toNat else min v.toNat n
theorem Qq(n d:Nat) (hd:d<=n) (o:Option Int):bA n d o<=n:=by
 cases o with
 |none=>exact hd
 |some v =>
  show(if v<0 then(v+(n:Int)).toNat else min v.toNat n)<=n
  by_cases hv:v<0
  ·rw[if_pos hv];omega
  ·rw[if_neg hv];exact ajc _ _
theorem KO(v:Int) (n d:Nat):(if v<0 then max (v+(n:Int)) 0 else min v (n:Int))=((bA n d (ζ v):Nat):Int):=by
 show(if v<0 then max (v+(n:Int)) 0 else min v (n:Int))=(((if v<0 then(v+(n:Int)).toNat else min v.toNat n):Nat):Int)
 by_cases hv:v<0
 ·simp only[if_pos hv];omega
 ·simp only[if_neg hv];omega
theorem adR(lo hi:Option Int) (n:Nat):Builtin.Slice.sliceAdjust lo hi 1 (n:Int)=(((bA n 0 lo:Nat):Int),((bA n n hi:Nat):Int)):=by
 have h1:¬((1:Int)<0):=by omega
 unfold Builtin.Slice.sliceAdjust;simp only[h1,if_false];refine Prod.ext ?_ ?_
 ·cases lo with
  |none=>rfl
  |some v=>exact KO v n 0
 ·cases hi with
  |none=>rfl
  |some v=>exact KO v n n
theorem Sw(i j:Nat):Builtin.Slice.slicePlaces (i:Int) (j:Int) 1=j-i:=by
 unfold Builtin.Slice.slicePlaces;have h1:(1:Int)>0:=by omega
 simp only[h1,if_true,Int.ediv_one];split<;>omega
theorem uq{v:Δ}{o:Option Int}{Q:Option Int->Ω->Prop}(p:aaq v o) (h:Q o s):wpAny (model prog w) A (Builtin.Slice.slicePartIndex v) Q E s:=by
 cases p with
 |none=>exact slicePart_none h
 |int i t=>exact slicePart_int h
theorem Gx{sl:Ψ}{vl vu:Δ}{lo hi:Option Int}{n:Nat}{Q:Int×Int×Nat->Ω->Prop}(hs:s.heap.IsSliceOf sl vl vu .none) (pl:aaq vl lo) (pu:aaq vu hi)
  (h:Q (((bA n 0 lo:Nat):Int),1,bA n n hi-bA n 0 lo) s):wpAny (model prog w) A (Builtin.Slice.sliceApplied (.ref sl) (pure (n:Int))) Q E s:=by
 obtain⟨os,hos,hcs,hds⟩:=id hs;unfold Builtin.Slice.sliceApplied Builtin.Slice.sliceFields;refine afS (afS (agT hos hds (x:=vl) rfl (afS (agT hos hds (x:=vu) rfl (afS (agT hos hds (x:=.none) rfl (afT ?_)))))));refine afS (slicePart_none ?_);show wpAny _ _ (if((1:Int)==0)=Γ then _ else _) _ _ s
 rw[if_neg (by decide)]
 refine afS (uq pl (afS (uq pu (afS (afT ?_)))));show wpAny _ _ (match Builtin.Slice.sliceAdjust lo hi 1 (n:Int)with|(lo,hi)=>pure (lo,(1:Int),Builtin.Slice.slicePlaces lo hi 1)) _ _ s
 rw[adR lo hi n];show wpAny _ _ (pure (((bA n 0 lo:Nat):Int),(1:Int),Builtin.Slice.slicePlaces ((bA n 0 lo:Nat):Int) ((bA n n hi:Nat):Int) 1)) _ _ s;rw[Sw];exact afT h
theorem SE(xs:Array Δ) (i k:Nat):((ι k).filterMap fun(m:Nat)=>xs[((i:Int)+(m:Int)*1).toNat]?).toArray=((xs.toList.drop i).take k).toArray:=by
 have e:(fun(m:Nat)=>xs[((i:Int)+(m:Int)*1).toNat]?)=λm=>xs[i+m]?:=by
  funext m
  have:((i:Int)+(m:Int)*1).toNat=i+m:=by omega
  rw[this]
 rw[e];have:=pick_run xs i k;rw[ajd]at this;have e2:((λx=>xs[x]?) ∘ λx=>i+x)=λm=>xs[i+m]?:=rfl
 rw[e2]at this;rw[this]
theorem aav{t sl:Ψ}{items:Array Δ}{vl vu:Δ}{lo hi:Option Int}{Q:Δ->Ω->Prop}(ht:IsTup s.heap t items) (hs:s.heap.IsSliceOf sl vl vu .none) (pl:aaq vl lo) (pu:aaq vu hi)
  (hw:¬(bA items.size 0 lo=0/\bA items.size items.size hi=items.size))
  (h:Q (.ref s.heap.objs.size) {s with heap:=s.heap.push {cls:=.type "tuple",data:=.seq ((items.toList.drop (bA items.size 0 lo)).take (bA items.size items.size hi-bA items.size 0 lo)).toArray} })
  (hsz:items.size<=ε):wpAny (model prog w) A (getItem (.ref t) (.ref sl)) Q E s:=by
 have k9:sizeOk (.seq ((items.toList.drop (bA items.size 0 lo)).take (bA items.size items.size hi-bA items.size 0 lo)).toArray):=by
  show((items.toList.drop (bA items.size 0 lo)).take (bA items.size items.size hi-bA items.size 0 lo)).toArray.size<=ε;rw[af0,aha,ahX,agq];omega
 have hj:bA items.size items.size hi<=items.size:=Qq _ _ (afU _) hi;obtain⟨os,hos,hcs,hds⟩:=id hs;have lq:s.TypeIs (.ref sl) "slice":=⟨os,hos,hcs⟩;unfold getItem
 try with_reducible refine agR ?_
 first|refine afS (afT ?_)|skip
 refine afS (aiE ht.typeIs (by decide) ?_)
 refine afS (ahb (name:=Str.ofString "__getitem__") ht.typeIs agX
  (agL agX ht.typeIs aiF ?_ (aiG _ _)))
 show wpAny _ _ (Builtin.Tuple.tupleItemsOf (.ref t) >>= _) _ _ s;refine afS (ahY ht ?_);refine afS (ahH lq ?_);rw[if_pos (by decide)]
 refine afS (Gx hs pl pu ?_);have hno:¬((((bA items.size 0 lo:Nat):Int)==0&&(1:Int)==1&&(bA items.size items.size hi-bA items.size 0 lo)==items.size)=Γ):=by
  intro q;rw[af5,af5]at q;have q1:((bA items.size 0 lo:Nat):Int)=0:=eq_of_beq q.1.1;have q2:bA items.size items.size hi-bA items.size 0 lo=items.size:=eq_of_beq q.2;exact hw ⟨by omega,by omega⟩
 show wpAny _ _ (if(((bA items.size 0 lo:Nat):Int)==0&&(1:Int)==1&&(bA items.size items.size hi-bA items.size 0 lo)==items.size)=Γ then _ else _) _ _ s
 rw[if_neg hno,SE]
 first
  |exact afS (m:=Builtin.Tuple.tupleExact _) (agw (afT ⟨_,rfl,afT h⟩) k9)
  |exact afS (m:=Builtin.Tuple.tupleExact _) (agw (afS (afT (afT ⟨_,rfl,afT h⟩))) k9)
  |exact afS (afS (m:=Builtin.Tuple.tupleExact _) (agw (afT (afT ⟨_,rfl,afT h⟩)) k9))
  |exact afS (afS (m:=Builtin.Tuple.tupleExact _) (agw (afT ⟨_,rfl,afT h⟩) k9))
end
end HT
namespace L2
open PySem PySem.Spec PyProof.Rows
abbrev TO:=St->Hp->(Option Int->Hp->Prop)->Prop
def PO(X:Cx) (e:Option ο) (t:TO):Prop :=
 ∀(pins:List (Ψ×Obj)) (s:Ω) (σ:St) (H:Hp) (Q:Option Int->Hp->Prop),Inv X pins σ H s->t σ H Q ->
  wpAny (model X.prog X.w) X.A (evalPart e X.env) (λu s'=>∃o H',Inv X pins σ H' s'/\aaq u o/\Q o H') X.xe s
def Ox:TO:=λ_ H Q=>Q η H
def Ot(t:TE):TO:=λσ H Q=>t σ H λx H1=>∃i,x=.int i/\Q (ζ i) H1
section
variable {X:Cx}{e:ο}{te:TE}{lo hi:Option ο}{tl th:TO}{pos p2:Pos}
theorem RU:PO X η Ox:=by
 intro pins s σ H Q I h;rw[evalPart_none];exact afT ⟨η,H,I,.none,h⟩
theorem RT(h:PE X e te):PO X (ζ e) (Ot te):=by
 intro pins s σ H Q I hw;rw[evalPart_some];refine br (h pins s σ H _ I hw) λu s1 ⟨x,H1,I1,r1,q1⟩=>?_
 obtain⟨i,rfl,q⟩:=q1;obtain⟨t,rfl⟩:=r1;exact⟨ζ i,H1,I1,.int i t,q⟩
def nF(X:Cx) (r:V->Option Int->Option Int->Hp->VK->Prop):Prop :=
 ∀(pins:List (Ψ×Obj)) (s:Ω) (σ:St) (H:Hp) (x:V) (v vl vu:Δ) (lo hi:Option Int) (sl:Ψ) (Q:VK),Inv X pins σ H s->RelV x v->s.heap.IsSliceOf sl vl vu .none->aaq vl lo->aaq vu hi->r x lo hi H Q ->
  ∃T id,typeLookup (.type T) "__getitem__"=pure (ζ (.builtin id))/\s.TypeIs v T/\wpAny (model X.prog X.w) X.A (getItem v (.ref sl)) (EP X pins σ Q) X.xe s
theorem nF.or{r r':V->Option Int->Option Int->Hp->VK->Prop}(h:nF X r) (h':nF X r'):nF X (λx lo hi H Q=>r x lo hi H Q\/r' x lo hi H Q):=by
 intro pins s σ H x v vl vu lo hi sl Q I rx hs pl pu q
 rcases q with q|q
 ·exact h pins s σ H x v vl vu lo hi sl Q I rx hs pl pu q
 ·exact h' pins s σ H x v vl vu lo hi sl Q I rx hs pl pu q
def Ol(r:V->Option Int->Option Int->Hp->VK->Prop) (te:TE) (tl th:TO):TE:=λσ H Q=>te σ H λx H1=>tl σ H1 λl H2=>th σ H2 λu H3=>r x l u H3 Q
theorem Hi{r:V->Option Int->Option Int->Hp->VK->Prop}(hr:nF X r) (he:PE X e te) (hl:PO X lo tl) (hu:PO X hi th):PE X (.Subscript e (.Slice lo hi η p2) pos) (Ol r te tl th):=by
 intro pins s σ H Q I h;refine Subscript_ (br (he pins s σ H _ I h) λv s1 ⟨x,H1,I1,r1,q1⟩=>?_)
 refine wpAny_Slice (br (hl pins s1 σ H1 _ I1 q1) λvl s2 ⟨l,H2,I2,pl,q2⟩=>br (hu pins s2 σ H2 _ I2 q2) λvu s3 ⟨u,H3,I3,pu,q3⟩=>?_)
 rw[evalPart_none];refine afT ?_;have I4:Inv X pins σ H3 {s3 with heap:=s3.heap.push {cls:=.type "slice",data:=.fields #[vl,vu,.none]} }:=I3.kept (t':=s3.toks) λb ob q=>afY _ q
 obtain⟨T,id,hT,ht,hg⟩:=hr pins {s3 with heap:=s3.heap.push {cls:=.type "slice",data:=.fields #[vl,vu,.none]} } σ H3 x v vl vu l u s3.heap.objs.size Q I4 r1 (Heap.IsSliceOf.new ..) pl pu q3
 show wpAny (model X.prog X.w) X.A (subscriptTail e (.Slice lo hi η p2) v (.ref s3.heap.objs.size)) (EP X pins σ Q) X.xe {s3 with heap:=s3.heap.push {cls:=.type "slice",data:=.fields #[vl,vu,.none]} }
 exact tail_any (ops:=[.ref s3.heap.objs.size,v]) ht hT hg (by with_unfolding_all rfl)
def nv(xs:List V) (lo hi:Option Int):List V:=(xs.drop (HT.bA xs.length 0 lo)).take (HT.bA xs.length xs.length hi-HT.bA xs.length 0 lo)
theorem KC(xs:List V) (lo hi:Option Int):(nv xs lo hi).length<=xs.length:=by
 unfold nv;rw[aha,ahX];omega
def Q3(K:ξ):V->Option Int->Option Int->Hp->VK->Prop:=λx lo hi H Q=>∃a xs,x=.ref a/\bU K H a xs /\
 ¬(HT.bA xs.length 0 lo=0/\HT.bA xs.length xs.length hi=xs.length)/\∀p,H p=η->Q (.ref p) (upd H p (.tup (nv xs lo hi)))
theorem O4:nF X (Q3 X.K):=by
 intro pins s σ H x v vl vu lo hi sl Q I rx hs pl pu h;obtain⟨a,xs,rfl,hx,hw,q⟩:=h;cases rx;obtain⟨its,r,ht,hz⟩:=I.tuple hx;have hlen:its.toArray.size=xs.length:=by rw[af0];exact r.length.symm
 refine⟨"tuple",_,agX.lookup,ht.typeIs,?_⟩;refine HT.aav ht hs pl pu (by rw[hlen];exact hw) ?_ (by rw[hlen];exact hz)
 rw[hlen];refine⟨.ref s.heap.objs.size,_,I.laid (t':=s.toks) (o:=.tup (nv xs lo hi)) (λb ob q=>afY _ q) (afU _) ?_,rfl,q _ (I.hok.fresh (afU _))⟩
 exact⟨agf (KC xs lo hi) hz,_,(r.drop (HT.bA xs.length 0 lo)).take (HT.bA xs.length xs.length hi-HT.bA xs.length 0 lo),jn.new _ _⟩
def Rn(K:ξ):R2:=λx y H Q=>∃a b xs ys,x=.ref a/\y=.ref b/\bU K H a xs/\bU K H b ys/\xs≠[]/\xs.length+ys.length<=ε /\
 (ys=[]->Q (.ref a) H)/\(ys≠[]->∀p,H p=η->Q (.ref p) (upd H p (.tup (xs++ys))))
theorem Vals.AU{xs:List V}{us:List Δ}(r:Vals xs us):us=[]↔xs=[]:=by
 cases r with
 |nil=>simp
 |cons _ _=>simp
theorem Hy:bK X (binaryOp .Add) (Rn X.K):=by
 intro pins s σ H x y v u Q I rx ry h;obtain⟨a,b,xs,ys,rfl,rfl,ha,hb,hx,hz,q1,q2⟩:=h;cases rx;cases ry;obtain⟨its,r1,p1,_⟩:=I.tuple ha;obtain⟨its2,r2,p2,_⟩:=I.tuple hb;refine HT.acI p1 p2 (λz=>hx (r1.AU.mp z)) (λz=>⟨.ref a,H,I,rfl,q1 (r2.AU.mp z)⟩) (λz=>?_) (by rw[<-r1.length,<-r2.length];exact hz)
 refine⟨.ref s.heap.objs.size,_,I.laid (t':=s.toks) (o:=.tup (xs++ys)) (λb ob q=>afY _ q) (afU _) ?_,rfl,q2 (λw=>z (r2.AU.mpr w)) _ (I.hok.fresh (afU _))⟩
 exact⟨by rw[ago];exact hz,_,r1.append r2,jn.new _ _⟩
end
def fZ(n:Nat) (i:Int):Option Nat:=if 0<=i then(if i<n then ζ i.toNat else η)else if -(n:Int)<=i then ζ (i+n).toNat else η
def cM{α:Type}(xs:List α) (i:Int):Option α:=(fZ xs.length i).bind λj=>xs[j]?
theorem Jd{n:Nat}{i:Int}{j:Nat}(h:fZ n i=ζ j):seqIndex? i n=ζ j/\j<n/\-(n:Int)<=i/\i<n:=by
 unfold fZ at h
 by_cases h0:0<=i
 ·rw[if_pos h0]at h
  by_cases h1:i<n
  ·rw[if_pos h1]at h;have e:i.toNat=j:=agb h;exact⟨by rw[seqIndex_of h0 h1,e],by omega,by omega,h1⟩
  ·rw[if_neg h1]at h;cases h
 ·rw[if_neg h0]at h
  by_cases h1:-(n:Int)<=i
  ·rw[if_pos h1]at h;have e:(i+n).toNat=j:=agb h;exact⟨by rw[seqIndex_neg (by omega) h1,e],by omega,h1,by omega⟩
  ·rw[if_neg h1]at h;cases h
theorem Lz{α:Type}{xs:List α}{i:Int}{v:α}(h:cM xs i=ζ v):∃j,seqIndex? i xs.length=ζ j/\xs[j]? = ζ v/\j<xs.length/\-(xs.length:Int)<=i/\i<xs.length:=by
 unfold cM at h;cases e:fZ xs.length i with
 |none=>rw[e]at h;cases h
 |some j =>
  rw[e]at h;obtain⟨h1,h2,h3,h4⟩:=Jd e;exact⟨j,h1,h,h2,h3,h4⟩
theorem pW{α:Type}{xs:List α}{j:Nat}{v:α}(h:xs[j]? = ζ v):cM xs (j:Int)=ζ v:=by
 have hj:j<xs.length:=(af6.mp h).1;have e:fZ xs.length (j:Int)=ζ j:=by
  unfold fZ;rw[if_pos (by omega),if_pos (by omega)];simp
 unfold cM;rw[e];exact h
def LH(b:ο):Prop:=∀o i,subscripted b θ o i=operate [o,i] (getItem o i)
def vO(X:Cx) (r:R2):Prop :=
 ∀(value slice:ο) (pins:List (Ψ×Obj)) (s:Ω) (σ:St) (H:Hp) (x y:V) (v u:Δ) (Q:VK),Inv X pins σ H s->RelV x v->RelV y u->r x y H Q ->
  subscripted slice θ v u=operate [v,u] (getItem v u)->wpAny (model X.prog X.w) X.A (subscriptTail value slice v u) (EP X pins σ Q) X.xe s
def MtR(X:Cx) (id:String) (r:V->List V->Hp->VK->Prop):Prop :=
 ∀(pins:List (Ψ×Obj)) (s:Ω) (σ:St) (H:Hp) (x:V) (xs:List V) (v:Δ) (us:List Δ) (Q:VK),Inv X pins σ H s->RelV x v->Vals xs us->r x xs H Q ->
  wpAny (model X.prog X.w) X.A (call (.builtin id) (v::us)) (EP X pins σ Q) X.xe s
section
variable {X:Cx}{a b:ο}{ta tb:TE}{pos:Pos}
theorem AI{r:R2}(hr:vO X r) (ha:PE X a ta) (hb:PE X b tb) (hs:LH b):PE X (.Subscript a b pos) (qu r ta tb):=by
 intro pins s σ H Q I h;exact Subscript_ (EM ha hb I h λv u s2 x y H2 I2 rx ry q=>hr a b pins s2 σ H2 x y v u Q I2 rx ry q (hs _ _))
def Rf(K:ξ):R2:=λx y H Q=>∃p xs i v,x=.ref p/\y=.int i/\bY K H p xs/\cM xs i=ζ v/\Q v H
def AE(K:ξ):R2:=λx y H Q=>∃p xs i v,x=.ref p/\y=.int i/\bU K H p xs/\cM xs i=ζ v/\Q v H
theorem YZ:vO X (Rf X.K):=by
 intro value slice pins s σ H x y v u Q I rx ry h hs;obtain⟨p,xs,i,z,rfl,rfl,hq,he,q⟩:=h;cases rx;obtain⟨t,rfl⟩:=ry;obtain⟨its,r,pl,hz⟩:=I.list hq;obtain⟨j,h1,h2,h3,h4,h5⟩:=Lz he;obtain⟨w,ew,rw'⟩:=r.get h2;have hl:=r.length;have hn:=uX;have fin:EP X pins σ Q w s:=⟨z,H,I,rw',q⟩
 by_cases h0:0<=i
 ·have hj:i.toNat=j:=by
   rw[seqIndex_of h0 h5]at h1;exact agb h1
  exact item_listR pl.isList h0 (by omega) (by rw[hj];simpa using ew) fin hs
 ·have hj:(i+(its.toArray.size:Int)).toNat=j:=by
   rw[seqIndex_neg (by omega) h4]at h1
   rw[af0,<-hl];exact agb h1
  exact subscriptTail_builtinR (x:=w) pl.isList.typeIs slot_list_getitem.lookup
   (wpAny_getItem_list_neg (Q:=λr s'=>r=w/\EP X pins σ Q r s') pl.isList (by omega) (by rw[af0]<;>omega) (by omega) (by rw[hj];simpa using ew) ⟨rfl,fin⟩) hs
theorem Cm:vO X (AE X.K):=by
 intro value slice pins s σ H x y v u Q I rx ry h hs;obtain⟨p,xs,i,z,rfl,rfl,hq,he,q⟩:=h;cases rx;obtain⟨t,rfl⟩:=ry;obtain⟨its,r,pl,hz⟩:=I.tuple hq;obtain⟨j,h1,h2,h3,h4,h5⟩:=Lz he;obtain⟨w,ew,rw'⟩:=r.get h2;have hl:=r.length;have hn:=uX;have fin:EP X pins σ Q w s:=⟨z,H,I,rw',q⟩;exact subscriptTail_builtinR (x:=w) pl.typeIs slot_tuple_getitem.lookup
  (getItem_tuple (j:=j) (Q:=λr s'=>r=w/\EP X pins σ Q r s') pl (by omega) (by omega) (by rw[af0,<-hl];exact h1) (by simpa using ew) ⟨rfl,fin⟩) hs
theorem Xx(its:List Δ) (n j:Nat) (u:Δ):Obj.mapSeq (·.setIfInBounds j u) {cls:=.type "list",data:=.seq its.toArray n}={cls:=.type "list",data:=.seq (its.set j u).toArray n}:=by
 simp[Obj.mapSeq]
theorem Inv.lst{pins:List (Ψ×Obj)}{σ:St}{H:Hp}{s:Ω}{p:Ψ}{xs:List V}(I:Inv X pins σ H s) (h:H p=ζ (.lst xs)) :
  ∃(its:List Δ) (n:Nat),Vals xs its/\s.heap.get? p=ζ {cls:=.type "list",data:=.seq its.toArray n}/\xs.length<=ε:=by
 obtain⟨z,its,n,r,e⟩:=I.hok p _ h;exact⟨its,n,r,e,z⟩
theorem Inv.XD{pins:List (Ψ×Obj)}{σ:St}{H:Hp}{s:Ω}{p:Ψ}{xs ys:List V}{its its':List Δ}{n n':Nat}{f:Obj->Obj}(I:Inv X pins σ H s) (h:H p=ζ (.lst xs))
  (ho:s.heap.get? p=ζ {cls:=.type "list",data:=.seq its.toArray n}) (hf:f {cls:=.type "list",data:=.seq its.toArray n}={cls:=.type "list",data:=.seq its'.toArray n'}) (r:Vals ys its') (hz:ys.length<=ε) (t:Nat) :
  Inv X pins σ (upd H p (.lst ys)) {s with heap:=s.heap.update p f,toks:=t}:=by
 have e:(s.heap.update p f).get? p=ζ {cls:=.type "list",data:=.seq its'.toArray n'}:=by
  rw[ahI f ho (by rw[hf]<;>rfl),hf]
 refine I.write (x:=p) (e:=p) (by rw[h];trivial) (.inl rfl) (λb u hb q=>(ahn _ _ (agz hb)).trans q) ⟨_,e⟩ ?_
 exact⟨hz,its',n',r,e⟩
def Q6:V->V->V->Hp->(Hp->Prop)->Prop:=λo i v H Q=>∃p xs k j,o=.ref p/\i=.int k/\H p=ζ (.lst xs)/\fZ xs.length k=ζ j/\Q (upd H p (.lst (xs.set j v)))
theorem set_list:LI X Q6:=by
 intro pins s σ H o i v ov iv u Q I ro ri rv h;obtain⟨p,xs,k,j,rfl,rfl,hp,hj,q⟩:=h;cases ro;obtain⟨t,rfl⟩:=ri;obtain⟨its,n,r,ho,hz⟩:=I.lst hp;obtain⟨h1,h2,h3,h4⟩:=Jd hj;have hl:=r.length;have hn:=uX;have I':Inv X pins σ (upd H p (.lst (xs.set j v))) {s with heap:=s.heap.update p (Obj.mapSeq (·.setIfInBounds j u))} :=
  I.XD hp ho (Xx its n j u) (r.set rv j) (by rw[List.length_set];exact hz) s.toks
 by_cases h0:0<=k
 ·have hk:k.toNat=j:=by
   rw[seqIndex_of h0 h4]at h1;exact agb h1
  exact PySem.W.ki_setAt ho h0 (by omega) (by rw[af0,<-hl];exact h4) (by rw[hk];exact⟨_,I',q⟩)
 ·have hk:(k+(its.toArray.size:Int)).toNat=j:=by
   rw[seqIndex_neg (by omega) h3]at h1
   rw[af0,<-hl];exact agb h1
  exact PySem.W.ki_setBack ho (by omega) (by rw[af0,<-hl];exact h3) (by omega) (by rw[hk];exact⟨_,I',q⟩)
theorem OY(lo hi:Option Int) (n:Nat):(sliceBounds lo hi η n).1=((HT.bA n 0 lo:Nat):Int)/\(sliceBounds lo hi η n).2.1=((HT.bA n n hi:Nat):Int)/\(sliceBounds lo hi η n).2.2=1:=by
 refine⟨?_,?_,rfl⟩
 ·cases lo with
  |none=>simp[sliceBounds,HT.bA]
  |some i =>
   simp only[sliceBounds,HT.bA,aje,show(1:Int)>0 by decide,if_true]
   by_cases h:i<0
   ·simp only[h,if_true]<;>omega
   ·simp only[h,if_false]<;>omega
 ·cases hi with
  |none=>simp[sliceBounds,HT.bA]
  |some i =>
   simp only[sliceBounds,HT.bA,aje,show(1:Int)>0 by decide,if_true]
   by_cases h:i<0
   ·simp only[h,if_true]<;>omega
   ·simp only[h,if_false]<;>omega
theorem OZ(its:List Δ) (lo hi:Option Int):slicePick its.toArray lo hi η=((its.drop (HT.bA its.length 0 lo)).take (HT.bA its.length its.length hi-HT.bA its.length 0 lo)).toArray:=by
 obtain⟨h1,h2,h3⟩:=OY lo hi its.toArray.size;unfold slicePick;rw[h1,h2,h3];simp only[sliceRange_one,pick_run,af0]<;>rfl
def Q4(K:ξ):V->Option Int->Option Int->Hp->VK->Prop:=λx lo hi H Q=>∃a xs,x=.ref a/\bY K H a xs/\∀p,H p=η->Q (.ref p) (upd H p (.lst (nv xs lo hi)))
theorem O6:nF X (Q4 X.K):=by
 intro pins s σ H x v vl vu lo hi sl Q I rx hs pl pu h;obtain⟨a,xs,rfl,hx,q⟩:=h;cases rx;obtain⟨its,r,ht,hz⟩:=I.list hx;have hlen:=r.length;refine⟨"list",_,slot_list_getitem.lookup,ht.isList.typeIs,?_⟩;refine wpAny_getItem_list_slice ht.isList hs pl pu .none (by simp) ?_ (by rw[af0]<;>omega)
 rw[OZ,<-hlen];refine⟨.ref s.heap.objs.size,_,I.laid (t':=s.toks) (o:=.lst (nv xs lo hi)) (λb ob q=>afY _ q) (afU _) ?_,rfl,q _ (I.hok.fresh (afU _))⟩
 exact⟨agf (KC xs lo hi) hz,_,0,(r.drop (HT.bA xs.length 0 lo)).take (HT.bA xs.length xs.length hi-HT.bA xs.length 0 lo),aga _ rfl⟩
theorem acO:d8 X (.builtin "len") (λxs H Q=>∃p ys,xs=[.ref p]/\(bY X.K H p ys\/bU X.K H p ys)/\Q (.int ys.length) H):=by
 intro pins s σ H xs us Q I r h;obtain⟨p,ys,rfl,hq,q⟩:=h;obtain⟨u,rfl,rx⟩:=vals1 r;cases rx;have hn:=uX
 rcases hq with hq|hq
 ·obtain⟨its,r',pl,hz⟩:=I.list hq;have hlen:=r'.length;exact Calls.call_len_list pl.isList (by simp only[af0]<;>omega) ⟨.int ys.length,H,I.tok _,⟨s.toks+1,by rw[af0,hlen]⟩,q⟩
 ·obtain⟨its,r',pl,hz⟩:=I.tuple hq;have hlen:=r'.length;exact len_tuple pl (by simp only[af0]<;>omega) ⟨.int ys.length,H,I.tok _,⟨s.toks+1,by rw[af0,hlen]⟩,q⟩
theorem acN:d8 X (.builtin "len") (λxs H Q=>∃z,xs=[.str z]/\z.length<=ε/\Q (.int z.length) H):=by
 intro pins s σ H xs us Q I r h;obtain⟨z,rfl,hz,q⟩:=h;obtain⟨u,rfl,t,rfl⟩:=vals1 r;have hn:=uX;exact len_str (by omega) ⟨.int z.length,H,I.tok _,⟨_,rfl⟩,q⟩
theorem Lr:d8 X (.type "list") (λxs H Q=>∃p ys,xs=[.ref p]/\(bY X.K H p ys\/bU X.K H p ys)/\∀l,H l=η->Q (.ref l) (upd H l (.lst ys))):=by
 intro pins s σ H xs us Q I r h;obtain⟨p,ys,rfl,hq,q⟩:=h;obtain⟨u,rfl,rx⟩:=vals1 r;cases rx;have fin:∀(its:List Δ),Vals ys its->ys.length<=ε->∀(h':ψ) (c':Nat),(∀b o',s.heap.get? b=ζ o'->h'.get? b=ζ o') ->
   h'.get? s.heap.objs.size=ζ {cls:=.type "list",dict:=η,data:=.seq its.toArray c',slots:=#[]}->EP X pins σ Q (.ref s.heap.objs.size) {s with heap:=h'}:=λits r' hz h' c' kp e =>
  ⟨.ref s.heap.objs.size,_,I.laid (t':=s.toks) kp (afU _) (show dz X.prog X.w _ h' _ (.lst ys)from⟨hz,its,c',r',e⟩),rfl,q _ (I.hok.fresh (afU _))⟩
 rcases hq with hq|hq
 ·obtain⟨its,r',pl,hz⟩:=I.list hq;have hlen:=r'.length;obtain⟨o,ho,hc,n,hd⟩:=pl.isList;exact call_list_seq p (.inl rfl) ho hc hd (λh' c' kp e=>fin its r' hz h' c' kp e) (by simp only[af0]<;>omega)
 ·obtain⟨its,r',pl,hz⟩:=I.tuple hq;have hlen:=r'.length;obtain⟨o,ho,hc,n,hd⟩:=pl;exact call_list_seq p (.inr rfl) ho hc hd (λh' c' kp e=>fin its r' hz h' c' kp e) (by simp only[af0]<;>omega)
theorem acJ:d8 X (.type "tuple") (λxs H Q=>∃p ys,xs=[.ref p]/\((bY X.K H p ys/\∀l,H l=η->Q (.ref l) (upd H l (.tup ys)))\/(bU X.K H p ys/\Q (.ref p) H))):=by
 intro pins s σ H xs us Q I r h;obtain⟨p,ys,rfl,h⟩:=h;obtain⟨u,rfl,rx⟩:=vals1 r;cases rx
 rcases h with⟨hq,q⟩|⟨hq,q⟩
 ·obtain⟨its,r',pl,hz⟩:=I.list hq;have hlen:=r'.length;refine call_tuple_list pl.isList (λh' kp=>?_) (by simp only[af0]<;>omega)
  have I1:Inv X pins σ H {s with heap:=h'}:=I.kept (t':=s.toks) kp
  have I2:Inv X pins σ (upd H h'.objs.size (.tup ys)) {s with heap:=h'.push {cls:=.type "tuple",data:=.seq its.toArray} } :=
   I1.laid (t':=s.toks) (λb o e=>afY _ e) (afU _) (show dz X.prog X.w _ _ _ (.tup ys)from⟨hz,its,r',jn.new _ _⟩)
  exact⟨.ref h'.objs.size,_,I2,rfl,q _ (I1.hok.fresh (afU _))⟩
 ·obtain⟨its,r',pl,hz⟩:=I.tuple hq;exact call_tuple_same pl ⟨.ref p,H,I,rfl,q⟩
def FW(K:ξ) (T:String) (x:V) (H:Hp):Prop:=match x with
 |.str _=>T="str"
 |.int _=>T="int"
 |.ref p=>(T="list"/\∃xs,bY K H p xs)\/(T="tuple"/\((∃xs,H p=ζ (.tup xs))\/∃o,K.lookup p=ζ o/\o.cls=.type "tuple"/\o.dict=η)) \/
   (T="dict"/\((∃kvs,H p=ζ (.dK kvs))\/∃kvs,H p=ζ (.dT kvs)))\/(T="set"/\∃S n,H p=ζ (.set S n))
 |_=>False
theorem NX{pins:List (Ψ×Obj)}{σ:St}{H:Hp}{s:Ω}{T:String}{x:V}{v:Δ}(I:Inv X pins σ H s) (r:RelV x v) (ty:FW X.K T x H) :
  s.TypeIs v T/\∀a,v=.ref a->∃ob,s.heap.get? a=ζ ob/\ob.dict=η:=by
 cases x with
 |str z =>
  obtain⟨t,rfl⟩:=r;cases(show T="str" from ty)
  exact⟨typeIs_str s z t,λ_ e=>nomatch e⟩
 |int i =>
  obtain⟨t,rfl⟩:=r;cases(show T="int" from ty)
  exact⟨ahJ s i t,λ_ e=>nomatch e⟩
 |ref p =>
  cases r
  rcases ty with⟨rfl,xs,hq⟩|⟨rfl,⟨xs,hk⟩|⟨o,hk,hc,hd⟩⟩|⟨rfl,hk⟩|⟨rfl,S,n,hk⟩
  ·obtain⟨its,_,pl,_⟩:=I.list hq;refine⟨pl.isList.typeIs,λa e=>?_⟩
   cases e;obtain⟨o,n,e,c,hd,_⟩:=pl;exact⟨o,e,hd⟩
  ·obtain⟨_,its,_,o,e,c,_,hd⟩:=(show dz X.prog X.w H s.heap p (.tup xs)from I.hok p _ hk)
   refine⟨⟨o,e,c⟩,λa e2=>?_⟩
   cases e2;exact⟨o,e,hd⟩
  ·refine⟨⟨o,I.dX p o hk,hc⟩,λa e=>?_⟩
   cases e;exact⟨o,I.dX _ o hk,hd⟩
  ·have z:∃o,s.heap.get? p=ζ o/\o.ExactDict:=by
    rcases hk with⟨kvs,hk⟩|⟨kvs,hk⟩
    ·obtain⟨_,_,_,_,o,_,_,e,ex,_⟩:=I.hok p _ hk;exact⟨o,e,ex⟩
    ·obtain⟨_,_,_,_,o,_,_,e,ex,_⟩:=I.hok p _ hk;exact⟨o,e,ex⟩
   obtain⟨o,e,ex⟩:=z;refine⟨⟨o,e,ex.1⟩,λa e2=>?_⟩
   cases e2;exact⟨o,e,ex.2.1⟩
  ·obtain⟨o,_,_,_,e,ex,_⟩:=I.hok p _ hk;refine⟨⟨o,e,ex.1⟩,λa e2=>?_⟩
   cases e2;exact⟨o,e,ex.2.1⟩
 |_=>exact False.elim ty
def OG(K:ξ) (T:String) (r:V->List V->Hp->VK->Prop) (to:TE) (t:TA):TE:=λσ H Q=>to σ H λx H1=>FW K T x H1/\t σ H1 λxs H2=>r x xs H2 Q
variable {o e:ο}{es:List ο}{to:TE}{t:TA}{name:Str}{apos cpos:Pos}{T id:String}{r:V->List V->Hp->VK->Prop}
theorem uK(pa:PlainAttrs T) (slot:Slot T name id) (hty:typeOf (.builtin id)=pure (.type "method_descriptor")) (hm:MtR X id r) (ho:PE X o to) (ha:PA X (e::es) t)
  (hbase:aao o name X.env (eval o X.env)=eval o X.env:=by rfl)
  (hfew:((aah cpos (μ (e::es) X.env)).all (λx=>!x.1)&&(aaB cpos (aak [] X.env)).all (λx=>x.1.isSome)
   && decide ((e::es).length+([]:List aam).length+(if([]:List aam).isEmpty then 0 else 1)<30))=Γ:=by rfl)
  (hline:(apos.endLine==cpos.line)=Γ:=by rfl) (hs:μ (e::es) X.env=(θ,eval e X.env)::μ es X.env:=by rfl) (hplain:(aah cpos (μ es X.env)).any (·.1)=θ:=by rfl) :
  PE X (.Call (.Attribute o name apos) (e::es) [] cpos) (OG X.K T r to t):=by
 intro pins s σ H Q I h;refine wpAny_Call_method_late hbase hfew hline rfl (br (ho pins s σ H _ I h) λv s1 ⟨x,H1,I1,r1,ty,q1⟩=>?_)
 obtain⟨h1,h2⟩:=NX I1 r1 ty;refine⟨T,id,pa,slot,hty,h1,h2,?_⟩;have hA:=ha cpos pins s1 σ H1 _ I1 q1;rw[hs]at hA ⊢;refine Calls.callWith_builtin (by show(θ||(aah cpos (μ es X.env)).any (·.1))=θ;rw[hplain]<;>rfl) (Calls.evalArgs_plain ?_)
 exact br hA λus s2 ⟨vs,H2,I2,r2,q2⟩=>hm pins s2 σ H2 x vs v us Q I2 r1 r2 q2
end
def vL(X:Cx) (id:String) (r:V->List V->Hp->VK->Prop):Prop :=
 ∀(pins:List (Ψ×Obj)) (s:Ω) (σ:St) (H:Hp) (x:V) (xs:List V) (v:Δ) (us:List Δ) (Q:VK),Inv X pins σ H s->RelV x v->Vals xs us->r x xs H Q ->
  wpAny (model X.prog X.w) X.A (call (.builtin id) (v::us)) (EP X pins σ Q) X.xe s
theorem Vals.one:∀{x:V}{us:List Δ},Vals [x] us->∃u,us=[u]/\RelV x u
 |_,_,.cons r .nil=>⟨_,rfl,r⟩
theorem Vals.two:∀{x y:V}{us:List Δ},Vals [x,y] us->∃u v,us=[u,v]/\RelV x u/\RelV y v
 |_,_,_,.cons r (.cons q .nil)=>⟨_,_,rfl,r,q⟩
theorem Vals.reverse{xs:List V}{us:List Δ}(h:Vals xs us):Vals xs.reverse us.reverse:=by
 induction h with
 |nil=>exact .nil
 |cons r t ih=>rw[aho,aho];exact Vals.append ih (.cons r .nil)
theorem Vals.rep{xs:List V}{us:List Δ}(h:Vals xs us):∀k:Nat,Vals (ν k xs).flatten (ν k us).flatten
 |0=>.nil
 |k+1=>by
  rw[agY,agY,ag1,ag1];exact Vals.append h (Vals.rep h k)
theorem foldl_rep(its:List Δ):∀(k:Nat) (acc:List Δ),
  List.foldl (λx1 x2=>x1++x2) acc.toArray (ν k its.toArray)=(acc++(ν k its).flatten).toArray
 |0,acc=>by simp
 |k+1,acc=>by
  have e:acc.toArray++its.toArray=(acc++its).toArray:=by simp
  have e2:(acc++its)++(ν k its).flatten=acc++(ν (k+1) its).flatten:=by
   rw[agY,ag1,agx]
  rw[<-e2,<-foldl_rep its k (acc++its),<-e,agY,ahZ]
section
variable {X:Cx}{pins:List (Ψ×Obj)}{σ:St}{H:Hp}{s:Ω}{l b:Ψ}{xs ys zs:List V}
theorem Inv.A5{its its':List Δ}{n:Nat}{f:Array Δ->Array Δ}{t':Nat}(I:Inv X pins σ H s) (hH:H l=ζ (.lst xs))
  (e:s.heap.get? l=ζ {cls:=.type "list",data:=.seq its.toArray n}) (hf:f its.toArray=its'.toArray) (hv:Vals ys its') (hz:ys.length<=ε) :
  Inv X pins σ (upd H l (.lst ys)) {s with heap:=s.heap.update l (Obj.mapSeq f),toks:=t'}:=by
 have q:=ajf e f;rw[hf]at q;refine I.write (x:=l) (e:=l) (by rw[hH];exact trivial) (.inl rfl) (λb' u hb hu=>(ahn s.heap (Obj.mapSeq f) (agz hb)).trans hu) ⟨_,q⟩ ?_
 exact⟨hz,its',_,hv,q⟩
theorem Inv.IM{its:List Δ}{t':Nat}(I:Inv X pins σ H s) (hv:Vals ys its) (hz:ys.length<=ε) :
  Inv X pins σ (upd H s.heap.objs.size (.lst ys)) {s with heap:=s.heap.push {cls:=.type "list",data:=.seq its.toArray},toks:=t'} :=
 I.laid (λ_ _ q=>afY _ q) (afU _) ⟨hz,its,0,hv,aga _ rfl⟩
theorem Inv.fresh(I:Inv X pins σ H s):H s.heap.objs.size=η:=I.hok.fresh (afU _)
theorem Inv.k7(I:Inv X pins σ H s) (hH:H l=ζ (.lst xs)):xs.length<=ε/\∃(its:List Δ) (n:Nat),Vals xs its/\xs.length=its.length/\s.heap.get? l=ζ {cls:=.type "list",data:=.seq its.toArray n}:=by
 obtain⟨z,its,n,r,e⟩:=I.hok l _ hH;exact⟨z,its,n,r,r.length,e⟩
theorem HN{n:Nat}(h:n<=ε):Builtin.List.listTooLong n=θ:=by
 unfold Builtin.List.listTooLong;exact decide_eq_false (by omega)
end
section
variable {X:Cx}
def Rp:V->List V->Hp->VK->Prop:=λx vs H Q=>∃l xs y,x=.ref l/\vs=[y]/\H l=ζ (.lst xs)/\xs.length<ε/\Q .aI (upd H l (.lst (xs++[y])))
theorem Xp:vL X "list.append" Rp:=by
 intro pins s σ H x vs v us Q I rx rv h;obtain⟨l,xs,y,rfl,rfl,hH,hz,q⟩:=h;cases rx;obtain⟨u,rfl,ru⟩:=rv.one;obtain⟨z,its,n,r,hl,e⟩:=I.k7 hH;refine ag2 F.slot_list_append ⟨_,e,rfl⟩ F.entry_list_append (F.args_list_append_2 _ _) (ajg l its.toArray n u (by rw[af0];omega)) ⟨e,?_⟩
 refine⟨.aI,_,I.A5 (its':=its++[u]) hH e (by simp) (r.append (.cons ru .nil)) ?_,rfl,q⟩
 rw[ago,List.length_singleton];omega
def Ri:V->List V->Hp->VK->Prop:=λx vs H Q=>∃l b xs zs,x=.ref l/\vs=[.ref b]/\H l=ζ (.lst xs)/\H b=ζ (.lst zs)/\xs.length+zs.length<=ε/\Q .aI (upd H l (.lst (xs++zs)))
theorem Xn:vL X "list.extend" Ri:=by
 intro pins s σ H x vs v us Q I rx rv h;obtain⟨l,b,xs,zs,rfl,rfl,hH,hB,hz,q⟩:=h;cases rx;obtain⟨u,rfl,ru⟩:=rv.one;cases ru;obtain⟨z,its,n,r,hl,e⟩:=I.k7 hH;obtain⟨z2,its2,n2,r2,hl2,e2⟩:=I.k7 hB;have hsz:its.toArray.size+its2.toArray.size<=ε:=by rw[af0,af0];omega
 have Cy:¬(!its.toArray.isEmpty&&Builtin.List.listTooLong (its.toArray.size+its2.toArray.size))=Γ:=by
  rw[HN hsz,Bool.and_false];exact agg
 refine ag2 F.slot_list_extend ⟨_,e,rfl⟩ F.entry_list_extend (F.args_list_extend_2 _ _)
  (AutoSeq1.list_extend_list_list_0 l its.toArray n b its2.toArray n2 Cy (by rw[af0];omega) (by omega)) ⟨e,e2,?_⟩
 refine⟨.aI,_,I.A5 (its':=its++its2) hH e (by simp) (r.append r2) ?_,rfl,q⟩
 rw[ago];omega
def Ro:R2:=λx y H Q=>∃l b xs zs,x=.ref l/\y=.ref b/\H l=ζ (.lst xs)/\H b=ζ (.lst zs)/\xs.length+zs.length<=ε/\∀p,H p=η->Q (.ref p) (upd H p (.lst (xs++zs)))
theorem T8:bK X (binaryOp .Add) Ro:=by
 intro pins s σ H x y v u Q I rx ry h;obtain⟨l,b,xs,zs,rfl,rfl,hH,hB,hz,q⟩:=h;cases rx;cases ry;obtain⟨z,its,n,r,hl,e⟩:=I.k7 hH;obtain⟨z2,its2,n2,r2,hl2,e2⟩:=I.k7 hB;refine PySem.P.add_list e e2 ?_ (by rw[af0,af0];omega)
 have ea:its.toArray++its2.toArray=(its++its2).toArray:=by simp
 rw[ea];exact⟨.ref _,_,I.IM (t':=s.toks) (r.append r2) (by rw[ago];omega),rfl,q _ I.fresh⟩
def Ra:R2:=λx y H Q=>∃l k xs,x=.ref l/\y=.int k/\H l=ζ (.lst xs)/\-(2^63)<=k/\k<2^63/\xs.length*k.toNat<=ε /\
 ∀p,H p=η->Q (.ref p) (upd H p (.lst (ν k.toNat xs).flatten))
theorem len_rep{α:Type}(xs:List α) (k:Nat):(ν k xs).flatten.length=k*xs.length:=by
 induction k with
 |zero=>simp
 |succ k ih=>rw[agY,ag1,ago,ih,ahp,Nat.add_comm]
theorem TN:bK X (binaryOp .Mult) Ra:=by
 intro pins s σ H x y v u Q I rx ry h;obtain⟨l,k,xs,rfl,rfl,hH,h1,h2,hz,q⟩:=h;cases rx;obtain⟨t,rfl⟩:=ry;obtain⟨z,its,n,r,hl,e⟩:=I.k7 hH;have hlen:its.toArray.size*k.toNat<=ε:=by rw[af0,<-hl];exact hz
 have hcap:¬its.toArray.size*k.toNat>(2^63-1)/8:=by
  have:(ε:Nat)<=(2^63-1)/8:=by decide
  omega
 have hfit:¬(!Builtin.List.listFitsIndex k)=Γ:=by
  rw[fitsIndex_both h1 h2];exact agg
 have Cy:¬Builtin.List.listTooLong (its.toArray.size*k.toNat)=Γ:=by
  rw[HN hlen];exact agg
 have hnew:List.foldl (λx1 x2=>x1++x2) #[] (ν (if its.toArray.isEmpty=Γ then 0 else k.toNat) its.toArray)=(ν k.toNat its).flatten.toArray:=by
  have f0:∀m:Nat,List.foldl (λx1 x2=>x1++x2) #[] (ν m its.toArray)=(ν m its).flatten.toArray:=λm=>by
   have:=foldl_rep its m [];rw[af9]at this;exact this
  rw[f0];cases its with
  |nil=>simp
  |cons a r'=>rw[if_neg (by simp)]
 refine ajh (T:="list") (U:="int") (by decide) ⟨_,e,rfl⟩ (λs'=>ahJ s' k t) noFill_list_mul F.fills_int_mul ah0 repeat_list F.slot_int_index.lookup
  (ag2 ah0 (ahJ s k t) F.entry_int_rmul (F.args_int_rmul_2 _ _) (int___rmul___int_list k t l its.toArray n)
   ⟨e,rfl,⟨_,e,rfl⟩,ag2 F.slot_list_mul ⟨_,e,rfl⟩ F.entry_list_mul (F.args_list_mul_2 _ _) (AutoListH.list___mul___list_int_3 l its.toArray n k t hfit hcap Cy) ⟨e,?_⟩⟩)
 rw[hnew];exact⟨.ref _,_,I.IM (t':=s.toks) (r.rep k.toNat) (by rw[len_rep,Nat.mul_comm];exact hz),rfl,q _ I.fresh⟩
end
section
variable {prog:τ}{w:υ}{A:χ}{E:Δ->Ω->Prop}{s:Ω}
set_option maxRecDepth 100000 in
end
end L2
namespace Mu
open PySem PySem.W PySem.Calls PyProof.Rows
theorem Zc{P:Params}{h:ψ}:∀(ns:List Int) (vs:List Δ),WellAll P h vs (ns.map WData.int)->aaG vs ns:=by
 intro ns
 induction ns with
 |nil =>
  intro vs w;rw[List.map_nil]at w;cases w;exact .nil
 |cons n ns ih =>
  intro vs w;rw[af8]at w;cases w with
  |cons a b =>
   cases a;exact .cons _ _ (ih _ b)
theorem P8{l:OpenLaw}{n:Nat}(hn:l.most=ζ n) {P:Params}{h:ψ}{args:List WData}{vals:List Δ}
  (hpre:l.row.toRowW.claim.pre args=Γ) (hwl:WellAll P h vals args) :
  ∃a vs ns,vals=[Value.ref a]/\args=[WData.list (ns.map WData.int)]/\h.get? a=ζ {cls:=.type "list",data:=.seq vs.toArray}/\aaG vs ns/\ns.length<=n:=by
 have hsh:WShape.hasAll [] args [.list .int]=Γ:=(pre_splitW hpre).1;have hc:l.pre.holds [] {args:=args}=Γ:=(pre_splitW hpre).2;obtain⟨d,r,rfl,h1,h2⟩:=hasAllW_cons hsh;obtain rfl:=hasAllW_nil h2;obtain⟨xs,rfl,h3⟩:=hasW_list h1;obtain⟨ns,rfl⟩:=items_int h3;have hlen:ns.length<=n:=by
  unfold OpenLaw.pre at hc;have h4:(WTm.not (.lt (.lit (.int (n:Int))) (.len (.arg 0)))).holds [] {args:=[.list (ns.map .int)]}=Γ:=by
   have h4:=(holds_andW hc).1;rw[hn]at h4;exact h4
  have h5:=condW_of h4 (w_not (w_lt w_lit (w_len_list (w_arg rfl))));rw[af7]at h5;refine aji λq=>?_
  have q':(n:Int)<((ns.length:Nat):Int):=by omega
  first
   |(rw[decide_eq_true q']at h5;exact absurd h5 (by decide))
   |(simp at h5;omega)
 cases hwl with
 |cons w1 w2 =>
  cases w2;cases w1 with
  |list ho hall=>exact⟨_,_,ns,rfl,rfl,ho,Zc ns _ hall,hlen⟩
theorem RQ(l:OpenLaw) (args:List WData):l.row.toRowW.claim.post args (.bool Γ) args=Γ :=
 postW_of (r:=l.row.toRowW) (X:=(Γ==Γ))
  (show WShape.has [] (.bool Γ) .bool=Γ by first|rfl|decide|simp[WShape.has,WShape.arms,WShape.armsAll])
  (show(WTm.eq .res (.lit (.bool Γ))).value [] {args:=args,res:=ζ (.bool Γ),after:=args}=ζ (.bool (Γ==Γ))from w_eq_bool (w_res rfl) w_lit) rfl
theorem adb{l:OpenLaw}{n:Nat}{q:τ}{loose:List Str}{XP:(Str->Option Δ)->ψ->Prop}{YP:υ->ψ->Prop}{d:DefRec}
  (hn:l.most=ζ n) (hdf:d.params.defaults=[])
  (call:∀(w:υ) (s₀ s₁:Ω) (mg mb:Str->Option Δ) (fa:Ψ) (o:Obj) (pm cd doc:Δ) (a:Ψ) (vs:List Δ) (ns:List Int),
   Ground q loose [] XP w s₀ mg mb s₁.heap->YP w s₁.heap ->
   s₁.heap.get? fa=ζ o->o.data=.func (docDef d.name d.params d.body d.scope pm cd doc)->s₁.heap.CodeRec cd d.name->mg d.name=ζ (.ref fa) ->
   s₁.heap.get? a=ζ {cls:=.type "list",data:=.seq vs.toArray}->aaG vs ns->ns.length<=n->s₁.gens=#[] ->
   codeAny (model l.prog w) callerA (.call (.ref fa) ⟨[.ref a],[]⟩) (λr s'=>r=.ok (.ret (.bool Γ))/\OldK s₁.heap s'.heap/\s'.os=s₁.os/\aap s'.gens) s₁) :
  WalkO q loose XP YP l.row.toRowW d [] (λf vs=>PySem.call f vs):=by
 intro w s₀ s₁ mg mb G Y fa o pm cd doc dV kV ho hd hcd hD hmg hg args vals as hpre hlay hrd hwl hlo;obtain rfl:dV=.none:=Dflts.none hD hdf;obtain rfl:kV=.none:=Dflts.noKw hD;obtain⟨a,vs,ns,rfl,rfl,hobj,hints,hlen⟩:=P8 hn hpre hwl;refine enter_call (agS (call w s₀ s₁ mg mb fa o pm cd doc a vs ns G Y ho (fd_plain hd) hcd hmg hobj hints hlen hg) λr s' hq=>?_)
 obtain⟨rfl,h2,h3,h4⟩:=hq;exact⟨.inl ⟨.bool Γ,.bool Γ,[],rfl,λ_=>rfl,.bool Γ,RQ l _,λ_=>⟨List.Pairwise.nil,λ_ hm=>(nomatch hm)⟩⟩,h2,h3,h4⟩
end Mu
namespace L2
open PySem PySem.Spec PyProof.Rows
theorem FN:∀{vs:List Δ}{ns:List Int},aaG vs ns->Vals (ns.map V.int) vs
 |_,_,.nil=>.nil
 |_,_,.cons n t h=>.cons ⟨t,rfl⟩ (FN h)
def cU(s:aag):aaH:=match s with
 |.FunctionDef _ a _ _ _ _ _ _ _ _=>a
 |_=>{posonlyargs:=[],args:=[],vararg:=η,kwonlyargs:=[],kw_defaults:=[],kwarg:=η,defaults:=[]}
def ck(s:aag):List aag:=match s with
 |.FunctionDef _ _ b _ _ _ _ _ _ _=>b
 |_=>[]
def aX(s:aag):aaj:=match s with
 |.FunctionDef _ _ _ _ _ _ sc _ _ _=>sc
 |_=>{kind:=.function,names:=[],isGenerator:=θ,isCoroutine:=θ}
abbrev bP:mz:=λ_ _ _ _ _ _=>False
abbrev E0:XK:=λ_ _ _=>False
theorem Tr{X:Cx}:Passes bP X E0:=λ_ _ _ _ _ _ _ h=>h.elim
structure jU (K:ξ) (x qual:Str) (st:aag) (f:Ψ) (fd:π):Prop where
 ex:∃(oc:Δ) (od:Option Ψ) (kV doc pm:Δ) (an:Option Ψ) (cdv ct:Δ) (osl:Array (Option Δ)),
  fd=PySem.W.fnOf x qual (cU st) (ck st) (aX st) .none kV doc pm an cdv ct/\K.lookup f=ζ ⟨oc,od,.func fd,osl⟩/\PySem.W.codeIn K cdv qual=Γ
 kp:PySem.W.keepIn K (.ref f)=Γ
section
variable {P:τ}{w:υ}{K:ξ}{mg:Str->Option Δ}{base:ψ}
theorem jU.ok{x qual:Str}{st:aag}{f:Ψ}{fd:π}{N ps:List Str}{k:Nat}{sp:Sp}(F:jU K x qual st f fd) (S:cC N ps (aX st)) (len:∀vs H Q E,sp vs H Q E->vs.length=ps.length)
  (hbody:∀(cdv:Δ) (A:χ) (outer:List Env) (s:Ω) (H:Hp) (vs:List V) (Q:VK) (E:XK),cP k (A.deeper (envOfC qual (aX st) s.heap.objs.size f cdv))->sp vs H Q E ->
   ∃t,eT (fu bP P w K mg base N qual (aX st) f cdv A outer s H E).fj (ck st) t/\t {nx:=λ_ H'=>Q .aI H',rt:=Q} (start N vs) H):bV P w K mg base bP (k+1) f fd ps sp:=by
 obtain⟨oc,od,kV,doc,pm,an,cdv,ct,osl,rfl,lk,hcd⟩:=F.ex;refine CN lk hcd S len λA outer s H vs Q E hr jL=>?_
 obtain⟨t,h,q⟩:=hbody cdv A outer s H vs Q E hr jL;exact⟨t,h.fj,q⟩
theorem jU.binds{x qual:Str}{st:aag}{f:Ψ}{fd:π}{ps:List Str}(F:jU K x qual st f fd)
  (h:∀(kV doc pm:Δ) (an:Option Ψ) (cdv ct:Δ) (us:List Δ),us.length=ps.length->bindArgs (PySem.W.fnOf x qual (cU st) (ck st) (aX st) .none kV doc pm an cdv ct) ⟨us,[]⟩=pure (ps.zip us)):Binds K fd ps []:=by
 obtain⟨oc,od,kV,doc,pm,an,cdv,ct,osl,rfl,lk,hcd⟩:=F.ex;exact .all (h kV doc pm an cdv ct)
theorem dw{x qual:Str}{st:aag}{f:Ψ}{oc:Δ}{od an:Option Ψ}{osl:Array (Option Δ)}{kV doc pm cdv ct:Δ}(l:K.lookup f=ζ ⟨oc,od,.func (PySem.W.fnOf x qual (cU st) (ck st) (aX st) .none kV doc pm an cdv ct),osl⟩)
  (c:PySem.W.codeIn K cdv qual=Γ) (k:PySem.W.keepIn K (.ref f)=Γ):jU K x qual st f (PySem.W.fnOf x qual (cU st) (ck st) (aX st) .none kV doc pm an cdv ct):=⟨⟨oc,od,kV,doc,pm,an,cdv,ct,osl,rfl,l,c⟩,k⟩
end
section
variable {X:Cx}
theorem pv(i:Nat) {x:Str}{pos:Pos}(hN:X.N[i]? = ζ x:=by rfl) (hv:vH X.env.scope x:=by first|exact Or.inl rfl|exact Or.inr (Or.inl rfl)|exact Or.inr (Or.inr rfl)) (hd:(x==("__debug__":Str))=θ:=by decide)
  (hcd:(x==("__classdict__":Str))=θ:=by decide):PE X (.Name x pos) (mJ i):=AH hN hv hd hcd
end
theorem m8{A B:Prop}(h:B):if θ=Γ then A else B:=by
 rw[if_neg agg];exact h
theorem m7{A B:Prop}(h:A):if Γ=Γ then A else B:=by
 rw[if_pos rfl];exact h
def fJ(X:Cx) (N':List Str) (scope:aaj) (cl:List (Str×Ψ)) (C:Ψ) (s₀:Ω) (H₀:Hp) (ex:List Ψ) (pn:List (Ψ×Obj)):Cx where
 prog:=X.prog
 w:=X.w
 K:=X.K
 mg:=X.mg
 base:=X.base
 A:=X.A
 N:=N'
 s₀:=s₀
 H₀:=H₀
 env:=compEnvC scope cl C X.env
 outer:=X.stack
 stack:=X.stack
 ex:=ex
 fn:=λx=>scope.names.lookup x==ζ NameKind.cell
 calm:=X.calm
 pn:=pn
 xe:=λ_ _=>False
structure cE (X:Cx) (N':List Str) (pick:List (Option Nat)) (scope:aaj):Prop where
 kind:scope.kind=.function
 nd:N'.Nodup
 names:∀x∈scope.names,x.2=.local->scope.names.lookup x.1=ζ .local
 uniq:(scope.names.map (·.1)).Nodup
 len:pick.length=N'.length
 got:∀(i j:Nat) (x:Str),pick[i]? = ζ (ζ j)->N'[i]? = ζ x->scope.names.lookup x=ζ .free/\X.N[j]? = ζ x
 free:∀x∈scope.names,x.2=.free->X.env.kindOf x.1=ζ .cell\/X.env.kindOf x.1=ζ .free
def kI(pick:List (Option Nat)) (σ:St):St:=pick.map λo=>o.bind λj=>(σ[j]?).bind id
def qc(X:Cx) (ifs:List ο) (t:TT):Prop :=
 ∀(pins:List (Ψ×Obj)) (s:Ω) (σ:St) (H:Hp) (Q:Bool->Hp->Prop),Inv X pins σ H s->t σ H Q ->
  wpAny (model X.prog X.w) X.A (forIn ifs Γ λc r=>if r=Γ then do let ok <-isTrue c X.env (eval c X.env);pure (ForInStep.yield ok)else pure (ForInStep.yield r)) (TP X pins σ Q) X.xe s
def Oi:TT:=λ_ H Q=>Q Γ H
theorem SA{X:Cx}:qc X [] Oi:=λpins s σ H Q I h=>wpAny_tests_nil ⟨H,I,h⟩
theorem Sz{X:Cx}{c:ο}{t:TT}(h:PT X c t):qc X [c] t:=λpins s σ H Q I q=>wpAny_tests_one (h pins s σ H Q I q)
def Ms(J:It) (g:TG) (tt:TT) (te:TE) (Q:VK) (σ:St) (H:Hp):Prop:=∃W:Nat->Nat->St->List V->Hp->Prop,(∃m,W 0 m σ [] H) /\
  ∀i m σ' ys H,W i m σ' ys H->ys.length<ε /\
    ((J.stop i H/\∀p,H p=η->Q (.ref p) (upd H p (.lst ys))) \/
     (J.go i H/\∃N:St->List V->Hp->Prop,(∀σ2 zs H2,N σ2 zs H2->∃m',m'<m/\W (i+1) m' σ2 zs H2)/\∀x H',J.qe i H x H'->g x σ' H' λσ2 H2=>tt σ2 H2 λb H3 =>
        if b=Γ then te σ2 H3 λy H4=>N σ2 (ys++[y]) H4 else N σ2 ys H3))
def Al(wi:TI) (pick:List (Option Nat)) (g:TG) (tt:TT) (te:TE):TE:=λσ H Q=>wi σ H λJ H1=>Ms J g tt te Q (kI pick σ) H1
def fM(env:Env):List (Str×aae)->List (Str×Ψ)->List (Str×Ψ)
 |[],acc=>acc
 |(n,k)::r,acc=>fM env r (if(k==NameKind.free)=Γ then(n,(env.cells.lookup n).getD 0)::acc else acc)
theorem zk{env:Env}:∀(names:List (Str×aae)) (acc:List (Str×Ψ)),(∀x∈names,x.2=.free->∃c,env.cells.lookup x.1=ζ c) ->
  (forIn names acc fun(x:Str×aae) cs=>(if(x.2==NameKind.free)=Γ then do let a <-cellOf env x.1;pure (ForInStep.yield ((x.1,a)::cs))else pure (ForInStep.yield cs):Sem (ForInStep (List (Str×Ψ)))))=pure (fM env names acc)
 |[],acc,_=>rfl
 |(n,k)::r,acc,h=>by
  rw[List.forIn_cons]
  by_cases hk:(k==NameKind.free)=Γ
  ·obtain⟨c,hc⟩:=h (n,k) agN (by simpa using hk)
   have e1:cellOf env n=pure c:=by unfold cellOf;rw[show env.cells.lookup n=ζ c from hc]
   simp only[hk,if_true,e1,pure_bind];rw[zk r _ λx hx=>h x (agy _ hx)]
   show _=pure (fM env r (if(k==NameKind.free)=Γ then _ else _))
   rw[if_pos hk,show env.cells.lookup n=ζ c from hc]
   rfl
  ·simp only[hk,ahc,if_false,pure_bind];rw[zk r _ λx hx=>h x (agy _ hx)]
   show _=pure (fM env r (if(k==NameKind.free)=Γ then _ else _))
   rw[if_neg hk]
theorem ET{env:Env}{x:Str}{c:Ψ}:∀(names:List (Str×aae)) (acc:List (Str×Ψ)),(fM env names acc).lookup x=ζ c ->
  ((x,NameKind.free)∈names/\c=(env.cells.lookup x).getD 0)\/acc.lookup x=ζ c
 |[],acc,h=>.inr h
 |(n,k)::r,acc,h=>by
  unfold fM at h
  rcases ET r _ h with⟨a,b⟩|q
  ·exact .inl ⟨agy _ a,b⟩
  ·by_cases hk:(k==NameKind.free)=Γ
   ·rw[if_pos hk,ags]at q;cases hx:x==n with
    |true =>
     rw[hx]at q;have e1:x=n:=by simpa using hx
     have e2:k=.free:=by simpa using hk
     subst e1;subst e2;exact .inl ⟨agN,(agb q).symm⟩
    |false=>rw[hx]at q;exact .inr q
   ·rw[if_neg hk]at q;exact .inr q
theorem EU{env:Env}{x:Str}:∀(names:List (Str×aae)) (acc:List (Str×Ψ)),(acc.lookup x).isSome=Γ\/(x,NameKind.free)∈names->((fM env names acc).lookup x).isSome=Γ
 |[],acc,h=>h.elim id λz=>by cases z
 |(n,k)::r,acc,h=>by
  unfold fM;refine EU r _ ?_
  by_cases hk:(k==NameKind.free)=Γ
  ·rw[if_pos hk,ags];cases hx:x==n with
   |true=>exact .inl rfl
   |false =>
    refine h.imp id λz=>?_
    rcases afW.mp z with e|z
    ·exact absurd (show(x==n)=Γ by cases e;simp) (by rw[hx];simp)
    ·exact z
  ·rw[if_neg hk];refine h.imp id λz=>?_
   rcases afW.mp z with e|z
   ·exact absurd (show(k==NameKind.free)=Γ by cases e;rfl) hk
   ·exact z
theorem D0{x:Str}{c:Ψ}:∀(names:List (Str×aae)) (n:Nat) (acc:List (Str×Ψ)),(cellsFrom n names acc).lookup x=ζ c->(n<=c/\(x,NameKind.cell)∈names)\/acc.lookup x=ζ c
 |[],_,_,h=>.inr h
 |(y,k)::r,n,acc,h=>by
  unfold cellsFrom at h
  by_cases hk:(k==NameKind.cell)=Γ
  ·rw[if_pos hk]at h
   rcases D0 r _ _ h with⟨a,b⟩|q
   ·exact .inl ⟨agf (ahK _) a,agy _ b⟩
   ·rw[ags]at q;cases hx:x==y with
    |true =>
     rw[hx]at q;have e1:x=y:=by simpa using hx
     have e2:k=.cell:=by simpa using hk
     subst e1;subst e2;exact .inl ⟨ag3 (agb q),agN⟩
    |false=>rw[hx]at q;exact .inr q
  ·rw[if_neg hk]at h
   rcases D0 r _ _ h with⟨a,b⟩|q
   ·exact .inl ⟨a,agy _ b⟩
   ·exact .inr q
theorem DZ:∀(names:List (Str×aae)) (n:Nat) (acc:List (Str×Ψ)),(∀x y c,acc.lookup x=ζ c->acc.lookup y=ζ c->x=y)->(∀x c,acc.lookup x=ζ c->c<n) ->
  ∀x y c,(cellsFrom n names acc).lookup x=ζ c->(cellsFrom n names acc).lookup y=ζ c->x=y
 |[],_,_,hi,_,x,y,c,h1,h2=>hi x y c h1 h2
 |(z,k)::r,n,acc,hi,hl,x,y,c,h1,h2=>by
  unfold cellsFrom at h1 h2
  by_cases hk:(k==NameKind.cell)=Γ
  ·rw[if_pos hk]at h1 h2;refine DZ r (n+1) ((z,n)::acc) (λx y c e1 e2=>?_) (λx c e=>?_) x y c h1 h2
   ·rw[ags]at e1 e2;cases hx:x==z with
    |true =>
     rw[hx]at e1;cases hy:y==z with
     |true=>exact(by simpa using hx:x=z).trans (by simpa using hy:y=z).symm
     |false =>
      rw[hy]at e2;have e3:n=c:=agb e1;exact absurd (e3▸hl y c e2) (agu _)
    |false =>
     rw[hx]at e1;cases hy:y==z with
     |true =>
      rw[hy]at e2;have e3:n=c:=agb e2;exact absurd (e3▸hl x c e1) (agu _)
     |false=>rw[hy]at e2;exact hi x y c e1 e2
   ·rw[ags]at e;cases hx:x==z with
    |true=>rw[hx]at e;have e3:n=c:=agb e;exact e3▸ag4 n
    |false=>rw[hx]at e;exact ahq (hl x c e)
  ·rw[if_neg hk]at h1 h2;exact DZ r n acc hi hl x y c h1 h2
theorem D3{x:Str}{c:Ψ}:∀(names:List (Str×aae)) (h:ψ) (acc:List (Str×Ψ)),(cellsFrom h.objs.size names acc).lookup x=ζ c->acc.lookup x=ζ c\/(h.objs.size<=c/\(pushCells h names).IsCell c η)
 |[],_,_,e=>.inl e
 |(y,k)::r,h,acc,e=>by
  unfold cellsFrom at e;unfold pushCells
  by_cases hk:(k==NameKind.cell)=Γ
  ·rw[if_pos hk]at e ⊢;have e':=e;rw[show h.objs.size+1=(h.push {cls:=.type "cell",data:=.cell η}).objs.size from(agF ..).symm]at e'
   rcases D3 r _ _ e' with q|⟨a,q⟩
   ·rw[ags]at q;cases hx:x==y with
    |true =>
     rw[hx]at q;have e3:h.objs.size=c:=agb q;subst e3;exact .inr ⟨afU _,_,aiH _ _ _ _ (aga _ rfl),rfl⟩
    |false=>rw[hx]at q;exact .inl q
   ·refine .inr ⟨?_,q⟩;rw[agF]at a;omega
  ·rw[if_neg hk]at e ⊢;exact D3 r h acc e
theorem MY{M:Model}{A:χ}{E:Δ->Ω->Prop}{s:Ω}{scope:aaj}{globals:Ψ}{cl:List (Str×Ψ)}{qual:Str}{env:Env}{Q:Env->Ω->Prop}
  (hQ:∀h',(∀b o,s.heap.get? b=ζ o->h'.get? b=ζ o)->h'.Ns s.heap.objs.size (λ_=>η) ->
   (∀x c,(cellsFrom (s.heap.objs.size+1) scope.names cl).lookup x=ζ c->cl.lookup x=ζ c\/(s.heap.objs.size<c/\h'.IsCell c η)) ->
   Q {scope,locals:=s.heap.objs.size,globals,cells:=cellsFrom (s.heap.objs.size+1) scope.names cl,qual,func:=η,code:=env.code,frame:=env.frame,builtins:=env.builtins} {s with heap:=h'}) :
  wpAny M A (newFunctionEnv scope globals cl [] qual η .none (ζ env)) Q E s:=by
 simp only[newFunctionEnv,ajj,if_true];refine afS (wpAny_alloc ?_);refine afS (wpAny_layCells _ (λname kind cells=>by cases hkc:kind==NameKind.cell<;>simp[hkc]) _ _ _ _ ?_)
 rw[show({s with heap:=s.heap.push {cls:=.type "dict",data:=.dict #[]} }:Ω).heap.objs.size=s.heap.objs.size+1 from agF ..]
 refine afS (afT (afT ?_));refine hQ _ (λb o e=>aiH _ _ b o (afY _ e)) ((Heap.Ns.new s.heap (.type "dict")).keeps (aiH _ _)) λx c e=>?_
 have e':=e;rw[show s.heap.objs.size+1=(s.heap.push {cls:=.type "dict",data:=.dict #[]}).objs.size from(agF ..).symm]at e'
 rcases D3 scope.names (s.heap.push {cls:=.type "dict",data:=.dict #[]}) cl e' with q|⟨a,q⟩
 ·exact .inl q
 ·refine .inr ⟨?_,q⟩;rw[agF]at a;omega
theorem wO{env:Env}{x:Str}{k':aae}:∀{names:List (Str×aae)},(names.map fun(n,k)=>if(k==NameKind.free&&env.scope.kind == .function&&env.kindOf n==ζ .cell)then(n,NameKind.cell)else(n,k)).lookup x=ζ k' ->
  ∃k,names.lookup x=ζ k/\(k'=k\/(k=.free/\k'=.cell))
 |[],h=>by cases h
 |(n,k)::r,h=>by
  rw[af8]at h
  by_cases hc:(k==NameKind.free&&env.scope.kind == .function&&env.kindOf n==ζ .cell)=Γ
  ·have e:(match((n,k):Str×aae)with|(n,k)=>if(k==NameKind.free&&env.scope.kind == .function&&env.kindOf n==ζ .cell)then(n,NameKind.cell)else(n,k))=(n,NameKind.cell):=if_pos hc
   rw[e,ags]at h;rw[ags];cases hx:x==n with
   |true =>
    rw[hx]at h;have hk:k=.free:=by
     simp only[af5]at hc
     simpa using hc.1.1
    exact⟨k,rfl,.inr ⟨hk,(agb h).symm⟩⟩
   |false=>rw[hx]at h;exact wO h
  ·have e:(match((n,k):Str×aae)with|(n,k)=>if(k==NameKind.free&&env.scope.kind == .function&&env.kindOf n==ζ .cell)then(n,NameKind.cell)else(n,k))=(n,k):=if_neg hc
   rw[e,ags]at h;rw[ags];cases hx:x==n with
   |true=>rw[hx]at h;exact⟨k,rfl,.inl (agb h).symm⟩
   |false=>rw[hx]at h;exact wO h
theorem AD{env:Env}{x:Str}{k:aae}:∀{names:List (Str×aae)},names.lookup x=ζ k ->
  ∃k',(names.map fun(n,k)=>if(k==NameKind.free&&env.scope.kind == .function&&env.kindOf n==ζ .cell)then(n,NameKind.cell)else(n,k)).lookup x=ζ k'/\(k'=k\/(k=.free/\k'=.cell))
 |[],h=>by cases h
 |(n,j)::r,h=>by
  rw[af8];rw[ags]at h
  by_cases hc:(j==NameKind.free&&env.scope.kind == .function&&env.kindOf n==ζ .cell)=Γ
  ·have e:(match((n,j):Str×aae)with|(n,k)=>if(k==NameKind.free&&env.scope.kind == .function&&env.kindOf n==ζ .cell)then(n,NameKind.cell)else(n,k))=(n,NameKind.cell):=if_pos hc
   rw[e,ags];cases hx:x==n with
   |true =>
    rw[hx]at h;have hk:j=.free:=by
     simp only[af5]at hc
     simpa using hc.1.1
    exact⟨.cell,rfl,.inr ⟨(agb h).symm.trans hk,rfl⟩⟩
   |false=>rw[hx]at h;exact AD h
  ·have e:(match((n,j):Str×aae)with|(n,k)=>if(k==NameKind.free&&env.scope.kind == .function&&env.kindOf n==ζ .cell)then(n,NameKind.cell)else(n,k))=(n,j):=if_neg hc
   rw[e,ags];cases hx:x==n with
   |true=>rw[hx]at h;exact⟨j,rfl,.inl (agb h)⟩
   |false=>rw[hx]at h;exact AD h
theorem A6{x:Str}{k:aae}:∀{names:List (Str×aae)},(names.map (·.1)).Nodup->(x,k)∈names->names.lookup x=ζ k
 |[],_,h=>by cases h
 |(n,j)::r,nd,h=>by
  have nd:(n::r.map (·.1)).Nodup:=nd;obtain⟨n1,n2⟩:=ag9.mp nd;rw[ags]
  rcases afW.mp h with e|h2
  ·cases e;simp
  ·have hx:(x==n)=θ:=by
    have:x≠n:=by
     intro e;exact n1 (af4.mpr ⟨(x,k),h2,e⟩)
    simpa using this
   rw[hx];exact A6 n2 h2
theorem acB{prog:τ}{w:υ}{A:χ}{R:Result->Ω->Prop}{s:Ω}{elt target iter:ο}{ifs:List ο}{scope:aaj}{pos:Pos}{it acc:Δ}{env:Env}(I:Nat->Ω->Prop)
  (turn:∀n s,I n s->wpAny (model prog w) A (pyNext it) (λr s₁=>match r with
   |none=>R (.ok .next) s₁
   |some v=>wpAny (model prog w) A (letOwnedTupleGo target it v) (λ_ s₁'=>wpAny (model prog w) A (assign target env v) (λ_ s₂ =>
     wpAny (model prog w) A (forIn ifs Γ λc r=>if r=Γ then do let ok <-isTrue c env (eval c env);pure (ForInStep.yield ok)else pure (ForInStep.yield r)) (λok s₃ =>
      if ok=Γ then wpAny (model prog w) A (eval elt env) (λx s₄ =>
       wpAny (model prog w) A (call (.builtin "list.append") [acc,x]) (λ_ s₅=>∃m,m<n/\I m s₅) (λ_ _=>False) s₄) (λ_ _=>False) s₃
      else ∃m,m<n/\I m s₃) (λ_ _=>False) s₂) (λ_ _=>False) s₁') (λ_ _=>False) s₁) (λ_ _=>False) s)
  (n:Nat) (h:I n s) :
  codeAny (model prog w) A (.compLoop (.ListComp elt [⟨target,iter,ifs,0⟩] scope pos) 0 it acc env) R s:=by
 refine codeAny_loop rfl I (λn s hI=>?_) n h
 show wpAny _ A ((compTurn (.ListComp elt [⟨target,iter,ifs,0⟩] scope pos) 0 it acc env).onRaise (λx=>do noteFrame x env;theTreesLotGoes x)) _ _ s
 refine wpAny_noted ?_;rw[compTurn_list];refine afS (air (afS (agh (turn n s hI) (λr s₁ h₁=>?_) λ_ _ h'=>h'.elim)))
 cases r with
 |none=>exact afT h₁
 |some v =>
  refine afS (agh h₁ (λ_ s₁' h₁'=>?_) λ_ _ h'=>h'.elim)
  refine afS (agh h₁' (λ_ s₂ h₂=>afS (agh h₂ (λok s₃ h₃=>?_) λ_ _ h'=>h'.elim)) λ_ _ h'=>h'.elim)
  cases ok with
  |false=>exact afT ⟨rfl,h₃⟩
  |true =>
   exact afS (afS (agh h₃ (λx s₄ h₄=>afS (agh h₄ (λ_ s₅ h₅=>afT (afT ⟨rfl,h₅⟩)) λ_ _ h'=>h'.elim)) λ_ _ h'=>h'.elim))
section
variable {X:Cx}{N':List Str}{pick:List (Option Nat)}{scope:aaj}{pins:List (Ψ×Obj)}{σ:St}{H₂:Hp}{s₂:Ω}{tg:ο}{J:It}{fp:List Ψ}{it:Ψ}{tn:Nat->ψ->Prop}
theorem KN(S:cE X N' pick scope) (I:Inv X pins σ H₂ s₂):closureFor scope X.env=pure (fM X.env scope.names []):=by
 have e:=zk (env:=X.env) scope.names [] λx hx hk=>I.ok.has x.1 (S.free x hx hk)
 show((forIn scope.names ([]:List (Str×Ψ)) fun(x:Str×aae) cs=>(if(x.2==NameKind.free)=Γ then do let a <-cellOf X.env x.1;pure (ForInStep.yield ((x.1,a)::cs))else pure (ForInStep.yield cs):Sem (ForInStep (List (Str×Ψ))))) >>= λcs=>pure cs)=_
 rw[e,pure_bind]
theorem vz(S:cE X N' pick scope) (I:Inv X pins σ H₂ s₂) {x:Str}{c:Ψ}(h:(fM X.env scope.names []).lookup x=ζ c):(x,NameKind.free)∈scope.names/\X.env.cells.lookup x=ζ c:=by
 rcases ET _ _ h with⟨a,b⟩|q
 ·refine⟨a,?_⟩;obtain⟨c',hc⟩:=I.ok.has x (S.free _ a rfl);rw[hc]at b ⊢;rw[b];rfl
 ·cases q
theorem vt(S:cE X N' pick scope) (I:Inv X pins σ H₂ s₂) {n:Nat}{x:Str}{c:Ψ}(h:(cellsFrom n scope.names (fM X.env scope.names [])).lookup x=ζ c) :
  (n<=c/\scope.names.lookup x=ζ .cell)\/(scope.names.lookup x=ζ .free/\X.env.cells.lookup x=ζ c):=by
 rcases D0 _ _ _ h with⟨a,b⟩|q
 ·exact .inl ⟨a,A6 S.uniq b⟩
 ·obtain⟨a,b⟩:=vz S I q;exact .inr ⟨A6 S.uniq a,b⟩
theorem KQ(S:cE X N' pick scope) (I:Inv X pins σ H₂ s₂) {n:Nat}{x:Str}{c:Ψ}(hx:scope.names.lookup x=ζ .free) (hc:X.env.cells.lookup x=ζ c) :
  (cellsFrom n scope.names (fM X.env scope.names [])).lookup x=ζ c:=by
 have h1:((fM X.env scope.names []).lookup x).isSome=Γ:=EU _ _ (.inr (agP hx));obtain⟨c',h2⟩:=ahG.mp (ahF scope.names n _ (.inr h1))
 rcases vt S I h2 with⟨_,z⟩|⟨_,z⟩
 ·rw[hx]at z;cases z
 ·rw[hc]at z;cases z;exact h2
theorem aaE(I:Inv X pins σ H₂ s₂) {b:Ψ}(hb:b∈frs X.stack):b<s₂.heap.objs.size:=by
 rcases afW.mp (I.mK b hb)with e|hb
 ·rw[e];exact I.lt
 ·by_cases q:b<s₂.heap.objs.size
  ·exact q
  ·exact absurd hb (I.AS (Nat.not_lt.mp q))
theorem acy(S:cE X N' pick scope) (I:Inv X pins σ H₂ s₂) (hf:∀b∈fp,gY X pins H₂ b) (hfo:∀b∈fp,b<s₂.heap.objs.size) {n:Nat}{C:Ψ}{s₄:Ω}(hn:s₂.heap.objs.size<=n) (hC:s₂.heap.objs.size<=C) (hCn:C<n)
  (hos:s₄.os=s₂.os) (hge:s₄.gens=s₂.gens) (kp:∀b o,s₂.heap.get? b=ζ o->s₄.heap.get? b=ζ o) (ns:s₄.heap.Ns C λ_=>η)
  (ce:∀x c,(cellsFrom n scope.names (fM X.env scope.names [])).lookup x=ζ c->(fM X.env scope.names []).lookup x=ζ c\/(n<=c/\s₄.heap.IsCell c η)) :
  Inv (fJ X N' scope (cellsFrom n scope.names (fM X.env scope.names [])) C s₂ H₂ fp (X.pn++pins)) [] (kI pick σ) H₂ s₄:=by
 have fr:∀{a:Ψ},s₂.heap.objs.size<=a->H₂ a=η:=λh=>I.hok.fresh h
 have old:∀{x:Str}{c:Ψ},X.env.cells.lookup x=ζ c->c<s₂.heap.objs.size:=fun{x c} e=>let⟨v,z⟩:=I.cell x c e;z.lt
 have RS:∀p∈X.pn++pins,p.1<s₂.heap.objs.size:=λp hp=>afV (I.pin p hp).1
 refine⟨⟨I.ok.mod,S.kind,I.ok.glob,I.ok.blt,hC,?inj,?has,?jl,I.ok.hd,I.ok.frames,.inl rfl,?lz,I.bs,agf I.ok.gj I.sz,?jg,?kj,I.stack,I.wB⟩,
  hos,by rw[hge];exact I.bare,Un.kept kp,⟨_,ns,?loc⟩,?cell,fr hC,?fT,?pin,I.hok.kept kp,?len⟩
 case inj =>
  refine DZ _ _ _ (λx y c h1 h2=>?_) λx c h=>?_
  ·exact I.ok.inj x y c (vz S I h1).2 (vz S I h2).2
  ·exact af3 (old (vz S I h).2) hn
 case has =>
  intro x hx;have hx:(relabel scope X.env).names.lookup x=ζ .cell\/(relabel scope X.env).names.lookup x=ζ .free:=hx;have go:∀k,scope.names.lookup x=ζ k->k=.cell\/k=.free->∃c,(cellsFrom n scope.names (fM X.env scope.names [])).lookup x=ζ c:=λk hk hq=>by
   rcases hq with rfl|rfl
   ·exact ahG.mp (ahF _ _ _ (.inl hk))
   ·obtain⟨c,hc⟩:=I.ok.has x (S.free _ (agP hk) rfl);exact⟨c,KQ S I hk hc⟩
  rcases hx with hx|hx
  ·obtain⟨k,hk,e|⟨e,_⟩⟩:=wO hx
   ·exact go k hk (.inl e.symm)
   ·exact go k hk (.inr e)
  ·obtain⟨k,hk,e|⟨_,e⟩⟩:=wO hx
   ·exact go k hk (.inr e.symm)
   ·cases e
 case jl =>
  intro x c hx hc;have hx:scope.names.lookup x=ζ .cell:=by simpa[fJ]using hx
  rcases vt S I hc with⟨a,_⟩|⟨a,_⟩
  ·exact agf hn a
  ·rw[hx]at a;cases a
 case lz =>
  intro b hb;refine⟨afX (af3 (hfo b hb) hC),λx c hc=>?_⟩
  rcases vt S I hc with⟨a,_⟩|⟨_,a⟩
  ·exact agO (af3 (hfo b hb) (agf hn a))
  ·exact(hf b hb).2.2.2.2.1 x c a
 case jg =>
  intro b o e hb
  rcases(hf b hb).2.2.2.1 with z|z
  ·exact I.ok.jg b o e z
  ·exact absurd (af3 (afV e) (agf I.ok.gj z)) (agu _)
 case kj =>
  intro b hb hs
  rcases afW.mp (I.mK b hs)with e|e
  ·exact(hf b hb).2.1 e
  ·exact(hf b hb).2.2.1 e
 case loc =>
  intro i x v h1 h2 h3;have h1:N'[i]? = ζ x:=h1;have hp:∃j,pick[i]? = ζ (ζ j)/\σ[j]? = ζ (ζ v):=by
   unfold kI at h2;rw[agv]at h2;cases e:pick[i]? with
   |none=>rw[e]at h2;cases h2
   |some o =>
    rw[e]at h2;cases o with
    |none=>cases h2
    |some j =>
     refine⟨j,rfl,?_⟩;have h2':(σ[j]?).bind id=ζ v:=agb h2;cases e2:σ[j]? with
     |none=>rw[e2]at h2';cases h2'
     |some q=>rw[e2]at h2';exact congrArg ζ h2'
  obtain⟨j,hj,hv⟩:=hp;obtain⟨hfr,hN⟩:=S.got i j x hj h1;have hk:=S.free _ (agP hfr) rfl;obtain⟨m,hm,hl⟩:=I.loc;obtain⟨u,ru,lk⟩:=hl j x v hN hv (.inr hk);refine⟨u,ru,?_⟩
  rcases lk with⟨z,_⟩|⟨_,c,hc,hcell⟩
  ·rcases hk with q|q<;>(rw[show X.env.kindOf x=_ from z]at q;cases q)
  ·refine .inr ⟨?_,c,KQ S I hfr hc,hcell.keeps kp⟩;show(relabel scope X.env).names.lookup x=ζ .cell\/(relabel scope X.env).names.lookup x=ζ .free;obtain⟨k',hk',e|⟨_,e⟩⟩:=AD (env:=X.env) hfr
   ·exact .inr (by rw[<-e];exact hk')
   ·exact .inl (by rw[<-e];exact hk')
 case cell =>
  intro x c hc
  rcases ce x c hc with z|⟨_,z⟩
  ·obtain⟨v,q⟩:=I.cell x c (vz S I z).2;exact⟨v,q.keeps kp⟩
  ·exact⟨η,z⟩
 case fT =>
  intro x c hc
  rcases vt S I hc with⟨a,_⟩|⟨_,a⟩
  ·exact fr (agf hn a)
  ·exact I.fT x c a
 case pin =>
  intro p hp;have hp:p∈X.pn++pins:=by simpa[fJ]using hp
  obtain⟨e,n0,ne,nf,d⟩:=I.pin p hp;refine⟨kp _ _ e,n0,afX (af3 (RS p hp) hC),λz=>?_,d⟩
  rcases afW.mp (I.mK _ z)with e|e
  ·exact ne e
  ·exact nf e
 case len =>
  unfold kI;rw[af7];exact S.len
end
section
variable {X:Cx}{N':List Str}{pick:List (Option Nat)}{scope:aaj}{pins:List (Ψ×Obj)}{σ:St}{H₂:Hp}{s₂:Ω}{tg:ο}{J:It}{fp:List Ψ}{it:Ψ}{tn:Nat->ψ->Prop}
 {elt iter:ο}{ifs:List ο}{pos:Pos}{g:TG}{tt:TT}{te:TE}
theorem KG{E:Δ->Ω->Prop}{RR:Δ->Ψ->Result->Ω->Prop}{Qv:V->Hp->Prop}(S:cE X N' pick scope) (hc:X.calm=Γ) (iY:Inv X pins σ H₂ s₂) (T:Turn X.prog X.w X.K tg J fp it tn) (st:tn 0 s₂.heap) (hf:∀b∈fp,gY X pins H₂ b)
    (hg:∀cl C s₀ H₀ ex pn,PG (fJ X N' scope cl C s₀ H₀ ex pn) tg g) (hi:∀cl C s₀ H₀ ex pn,qc (fJ X N' scope cl C s₀ H₀ ex pn) ifs tt) (he:∀cl C s₀ H₀ ex pn,PE (fJ X N' scope cl C s₀ H₀ ex pn) elt te)
    {W:Nat->Nat->St->List V->Hp->Prop}{m0:Nat}(h0:W 0 m0 (kI pick σ) [] H₂)
    (turn:∀i m σ' ys H,W i m σ' ys H->ys.length<ε /\
      ((J.stop i H/\∀p,H p=η->Qv (.ref p) (upd H p (.lst ys))) \/
       (J.go i H/\∃N:St->List V->Hp->Prop,(∀σ2 zs H2,N σ2 zs H2->∃m',m'<m/\W (i+1) m' σ2 zs H2)/\∀x H',J.qe i H x H'->g x σ' H' λσ2 H2=>tt σ2 H2 λb H3 =>
          if b=Γ then te σ2 H3 λy H4=>N σ2 (ys++[y]) H4 else N σ2 ys H3)))
    (fin:∀(D C:Ψ) (H':Hp) (s':Ω) (m:Str->Option Δ),Inv X pins σ H' s'->gY X pins H' C->s'.heap.Ns C m->Qv (.ref D) H'->RR (.ref D) C (.ok .next) s') :
    wpAny (model X.prog X.w) X.A (newList []) (λacc s₃=>wpAny (model X.prog X.w) X.A (newFunctionEnv scope X.env.globals (fM X.env scope.names []) [] X.env.qual η .none (ζ X.env)) (λcenv s₄ =>
      codeAny (model X.prog X.w) X.A (.compStart (.ListComp elt [⟨tg,iter,ifs,0⟩] scope pos) 0 (.ref it) acc {cenv with scope:=relabel scope X.env}) (RR acc cenv.locals) s₄) E s₃) E s₂:=by
  have hfo:∀b∈fp,b<s₂.heap.objs.size:=λb hb=>let⟨o,e,_⟩:=T.obj 0 _ st b hb;afV e
  refine agw (MY λh₄ kp ns ce=>?_)
  generalize CF:s₂.heap.push {cls:=.type "list",dict:=η,data:=.seq ([]:List Δ).toArray}=H3 at kp ns ce ⊢
  have hC:H3.objs.size=s₂.heap.objs.size+1:=by rw[<-CF,agF]
  have BH:∀b o,s₂.heap.get? b=ζ o->h₄.get? b=ζ o:=λb o e=>kp b o (CF▸afY _ e)
  have hD:h₄.get? s₂.heap.objs.size=ζ {cls:=.type "list",data:=.seq ([]:List Δ).toArray}:=kp _ _ (CF▸aga _ rfl);have nc:s₂.heap.objs.size<=H3.objs.size:=by rw[hC];exact ahK _
  have hDC:s₂.heap.objs.size≠H3.objs.size:=by rw[hC];exact afX (ag4 _)
  generalize hcl:cellsFrom (H3.objs.size+1) scope.names (fM X.env scope.names [])=cl at ce
  have E5:Inv (fJ X N' scope cl H3.objs.size s₂ H₂ fp (X.pn++pins)) [] (kI pick σ) H₂ {s₂ with heap:=h₄}:=by
    subst hcl;exact acy S iY hf hfo (n:=H3.objs.size+1) (agf nc (ahK _)) nc (ag4 _) rfl rfl BH ns λx c e=>ce x c e
  have CB:∀x c,cl.lookup x=ζ c->c≠s₂.heap.objs.size:=λx c e=>by
    subst hcl
    rcases vt S iY e with⟨a,_⟩|⟨_,a⟩
    · refine agO (af3 ?_ a)
      rw[hC];exact ahq (ag4 _)
    · obtain⟨v,z⟩:=iY.cell x c a
      exact afX z.lt
  have ZW:∀x c,X.env.cells.lookup x=ζ c->c≠H3.objs.size:=λx c e=>by
    obtain⟨v,z⟩:=iY.cell x c e;exact afX (af3 z.lt nc)
  generalize gJ:fJ X N' scope cl H3.objs.size s₂ H₂ fp (X.pn++pins)=X' at E5
  have vV:X'.prog=X.prog:=by subst gJ;rfl
  have xw:X'.w=X.w:=by subst gJ;rfl
  have xK:X'.K=X.K:=by subst gJ;rfl
  have xA:X'.A=X.A:=by subst gJ;rfl
  have Fi:X'.calm=Γ:=by subst gJ;exact hc
  have vW:X'.env.locals=H3.objs.size:=by subst gJ;rfl
  have MJ:X'.env.cells=cl:=by subst gJ;rfl
  have MD:X'.env=compEnvC scope cl H3.objs.size X.env:=by subst gJ;rfl
  have zR:X'.fs=frs X.stack:=by subst gJ;rfl
  have zS:X'.ex=fp:=by subst gJ;rfl
  have zQ:X'.s₀=s₂:=by subst gJ;rfl
  have Fg:X'.pn=X.pn++pins:=by subst gJ;rfl
  have MB:X'.xe=λ_ _=>False:=by subst gJ;rfl
  have MU:X'.H₀=H₂:=by subst gJ;rfl
  have hg':PG X' tg g:=by subst gJ;exact hg _ _ _ _ _ _
  have hi':qc X' ifs tt:=by subst gJ;exact hi _ _ _ _ _ _
  have he':PE X' elt te:=by subst gJ;exact he _ _ _ _ _ _
  have nS:∀{H':Hp}{pl:List (Ψ×Obj)},(∀b∈fp,H' b=η)->(∀p∈pl,s₂.heap.objs.size<=p.1)->∀b∈fp,gY X' pl H' b:=fun{H' pl} hn hp b hb=>by
    have hlt:=hfo b hb;obtain⟨_,f1,f2,f3,f4,f5⟩:=hf b hb;refine⟨hn b hb,by rw[vW];exact afX (af3 hlt nc),?_,.inl (by rw[zS];exact hb),λx c e=>?_,λp gc=>?_⟩
    · rw[zR]
      intro z
      rcases afW.mp (iY.mK b z)with e|e
      · exact f1 e
      · exact f2 e
    · have:=E5.ok.lz b (by rw[zS];exact hb)
      exact this.2 x c e
    · rcases agm.mp gc with z|z
      · rw[Fg]at z;exact f5 p z
      · exact agO (af3 hlt (hp p z))
  have G6:∀{H':Hp}{s':Ω}{σ':St}{o:Obj},Inv X' [] σ' H' s'->s'.heap.get? s₂.heap.objs.size=ζ o->H' s₂.heap.objs.size=η->(∀v,o.data≠.cell v)->Inv X' [(s₂.heap.objs.size,o)] σ' H' s':=fun{H' s' σ' o} I e hn hnc =>
    I.wV λp hp=>by
      obtain rfl:p=(s₂.heap.objs.size,o):=by simpa using hp
      refine⟨e,hn,by rw[vW];exact hDC,?_,hnc⟩
      rw[zR];intro z;exact absurd (aaE iY z) (agu _)
  have zv:H₂ s₂.heap.objs.size=η:=iY.hok.fresh (afU _)
  let Iv:Nat->Ω->Prop:=λn s'=>∃(i:Nat) (σ':St) (ys:List V) (H':Hp) (its:List Δ) (k:Nat),Inv X' [(s₂.heap.objs.size,{cls:=.type "list",data:=.seq its.toArray k})] σ' H' s'/\Vals ys its/\tn i s'.heap/\(∀b∈fp,H' b=η)/\W i n σ' ys H'
  have loop:codeAny (model X.prog X.w) X.A (.compLoop (.ListComp elt [⟨tg,iter,ifs,0⟩] scope pos) 0 (.ref it) (.ref s₂.heap.objs.size) X'.env) (RR (.ref s₂.heap.objs.size) H3.objs.size) {s₂ with heap:=h₄}:=by
    refine acB Iv ?_ m0 ⟨0,_,[],H₂,[],_,G6 E5 hD zv (λv q=>nomatch q),.nil,T.keep _ _ _ st λb _ o e=>BH b o e,λb hb=>(hf b hb).1,h0⟩
    rintro n s5 ⟨i,vU,ys,H5,its,k,I5,rv,nT,yg,w5⟩
    obtain⟨hlen,tr⟩:=turn i n vU ys H5 w5;have p5:∀{o:Obj},∀p∈[(s₂.heap.objs.size,o)],s₂.heap.objs.size<=p.1:=fun{o} p hp=>by
      obtain rfl:p=(s₂.heap.objs.size,o):=by simpa using hp
      exact afU _
    rw[<-xA]
    rcases tr with⟨stop,qf⟩|⟨go,N,hN,step⟩
    · have dn:=T.done X' vV xw xK Fi i _ s5 vU H5 (λ_ _=>False) I5 (nS yg p5) nT stop
      rw[xA]at dn ⊢;refine agh dn (λr s6 h6=>?_) λ_ _ z=>z
      obtain⟨rfl,I6⟩:=h6;show RR (.ref s₂.heap.objs.size) H3.objs.size (.ok .next) s6;obtain⟨eD,nD,_⟩:=I6.pin _ (agJ _ agN);have nQ:Un (frs X.stack) fp H₂ H5 s₂.heap s6.heap:=by
        have:=I6.base;rw[zR,zS,zQ,MU]at this;exact this
      have lt:∀{b:Ψ}{o:Obj},s₂.heap.get? b=ζ o->b≠s₂.heap.objs.size:=λe=>afX (afV e)
      have NW:Un (frs X.stack) fp H₂ (upd H5 s₂.heap.objs.size (.lst ys)) s₂.heap s6.heap :=
        ⟨nQ.keep,nQ.slot,λb o e n hx=>by rw[bz (lt e)];exact nQ.free b o e n hx,nQ.there,λb xs e=>by rw[bz (cX e zv)];exact nQ.tups b xs e,
          λb o u e=>by rw[bz (cX e zv)];exact nQ.gf b o u e,λb ps e=>by rw[bz (cX e zv)];exact nQ.gx b ps e⟩
      have ZD:bZ X.prog X.w (upd H5 s₂.heap.objs.size (.lst ys)) s6.heap:=λb u e=>by
        by_cases hb:b=s₂.heap.objs.size
        · subst hb
          rw[gw]at e;cases e;exact⟨ag8 hlen,its,k,rv,eD⟩
        · rw[bz hb]at e
          have:=I6.hok b u e;rw[vV,xw]at this;exact this.stay (λ_ _ _ q=>q) (λc q=>by rw[bz (cX q nD)];exact q) λc xs q=>by rw[bz (cX q nD)];exact q
      have I7:Inv X pins σ (upd H5 s₂.heap.objs.size (.lst ys)) s6:=by
        refine iY.D6 (ch:=fp) ?_ NW ZD I6.bare λb hb=>?_
        · have:=I6.os;rw[zQ]at this;exact this
        · obtain⟨_,f1,f2,f3,f4,f5⟩:=hf b hb
          exact⟨f3,f1,f4,f5⟩
      obtain⟨m6,n6,_⟩:=I6.loc;rw[vW]at n6;have hC6:H5 H3.objs.size=η:=by have:=I6.free;rw[vW]at this;exact this
      refine fin _ _ _ s6 m6 I7 ⟨by rw[bz (agz hDC)];exact hC6,?_,?_,.inr (agf iY.sz nc),ZW,λp hp=>?_⟩ n6 (qf _ nD)
      · exact agO (af3 iY.lt nc)
      · intro z
        exact absurd z (iY.AS nc)
      · exact afX (af3 (afV (iY.pin p hp).1) nc)
    · have Y3:=T.item X' vV xw xK Fi i _ s5 vU H5 (λ_ _=>False) I5 (nS yg p5) nT go
      refine agh Y3 (λr s6 h6=>?_) λ_ _ z=>z
      obtain⟨u,rfl,h6⟩:=h6;refine agh h6 (λ_ s7 h7=>?_) λ_ _ z=>z
      obtain⟨x,H7,I7,rx,y7,Aq,fr7⟩:=h7;have I7':=I7.pinned (nS fr7 p5) (T.obj _ _ Aq);have mp:∀{α:Type}{t:Sem α}{Q:α->Ω->Prop}{s:Ω},wpAny (model X'.prog X'.w) X'.A t Q X'.xe s->wpAny (model X.prog X.w) X'.A t Q (λ_ _=>False) s:=fun{α t Q s} h=>by
        rw[vV,xw,MB]at h;exact h
      refine agh (mp (hg' _ s7 vU H7 x u _ I7' rx (step x H7 y7))) (λ_ s8 h8=>?_) λ_ _ z=>z
      obtain⟨tV,H8,I8,q8⟩:=h8;refine agh (mp (hi' _ s8 tV H8 _ I8 q8)) (λok s9 h9=>?_) λ_ _ z=>z
      obtain⟨H9,I9,q9⟩:=h9;have IY:∀{σ':St}{H':Hp}{s':Ω},Inv X' ([(s₂.heap.objs.size,{cls:=.type "list",data:=.seq its.toArray k})]++uI fp s7.heap) σ' H' s'->tn (i+1) s'.heap/\∀b∈fp,H' b=η:=fun{σ' H' s'} I=>by
        refine⟨T.keep _ _ _ Aq λb hb o e=>(I.pin (b,o) (agJ _ (agJ _ (xQ hb e)))).1,λb hb=>?_⟩
        obtain⟨o,e,d⟩:=T.obj _ _ Aq b hb;exact(I.pin (b,o) (agJ _ (agJ _ (xQ hb e)))).2.1
      cases ok with
      | false =>
        rw[if_neg agg]at q9 ⊢;obtain⟨m',hm,w9⟩:=hN _ _ _ q9;obtain⟨t9,f9⟩:=IY I9;exact⟨m',hm,i+1,tV,ys,H9,its,k,I9.uc,rv,t9,f9,w9⟩
      | true =>
        rw[if_pos rfl]at q9 ⊢;refine agh (mp (he' _ s9 tV H9 _ I9 q9)) (λv uE h10=>?_) λ_ _ z=>z
        obtain⟨y,LO,LN,ry,W7⟩:=h10;obtain⟨m',hm,ju⟩:=hN _ _ _ W7;obtain⟨OL,f10⟩:=IY LN;have LM:=LN.uc;obtain⟨eD,nD,eX,nfD,dD⟩:=LM.pin _ (agJ _ agN);have hl:=rv.length;refine ag2 F.slot_list_append ⟨_,eD,rfl⟩ F.entry_list_append (F.args_list_append_2 _ _) (ajg s₂.heap.objs.size its.toArray k v (by rw[af0];omega)) ⟨eD,?_⟩
        have q:=ajf eD (·.push v);have I11:Inv X' [] tV LO {uE with heap:=uE.heap.update s₂.heap.objs.size (Obj.mapSeq (·.push v))}:=by
          refine(LM.wV (rF:=[]) λp hp=>by cases hp).turned (t':=uE.toks) (it:=s₂.heap.objs.size) (λb o hb e=>(ahn uE.heap (Obj.mapSeq (·.push v)) (agz hb)).trans e) nD eX (.inr (by rw[zQ];exact afU _)) (λx c hc=>CB x c (by rw[<-MJ];exact hc)) λp hp=>?_
          have hp:p∈X.pn++pins:=by rw[agW,Fg]at hp;exact hp
          exact afX (afV (iY.pin p hp).1)
        rw[show its.toArray.push v=(its++[v]).toArray by simp]at q
        refine⟨m',hm,i+1,tV,ys++[y],LO,its++[v],_,G6 I11 q nD (λv q=>nomatch q),rv.append (.cons ry .nil),?_,f10,ju⟩
        refine T.keep _ _ _ OL λb hb o e=>(ahn uE.heap (Obj.mapSeq (·.push v)) ?_).trans e
        exact agO (hfo b hb)
  have e4:({scope:=relabel scope X.env,locals:=H3.objs.size,globals:=X.env.globals,cells:=cl,qual:=X.env.qual,func:=η,code:=X.env.code,frame:=X.env.frame,builtins:=X.env.builtins}:Env)=X'.env:=by rw[MD];rfl
  have Gs:tn 0 h₄:=T.keep _ _ _ st λb _ o e=>BH b o e
  have goal:codeAny (model X.prog X.w) X.A (.compStart (.ListComp elt [⟨tg,iter,ifs,0⟩] scope pos) 0 (.ref it) (.ref s₂.heap.objs.size) X'.env) (RR (.ref s₂.heap.objs.size) H3.objs.size) {s₂ with heap:=h₄} :=
    codeAny_compStart_list loop (T.self _ 0 _ _ _ Gs loop)
  rw[<-e4]at goal;exact goal
theorem Inv.gone{H':Hp}{s':Ω}{h':ψ}{C:Ψ}(I:Inv X pins σ H' s') (f:gY X pins H' C) (hs:aan C s'.heap h'):Inv X pins σ H' {s' with heap:=h'}:=by
 obtain⟨f0,f1,f2,f3,f4,f5⟩:=f;exact I.turned (t':=s'.toks) (λb o hb e=>(hs.2 b hb).trans e) f0 f1 f3 f4 f5
theorem S4{wi:TI}(S:cE X N' pick scope) (hc:X.calm=Γ) (hit:PI X tg iter wi)
  (hg:∀cl C s₀ H₀ ex pn,PG (fJ X N' scope cl C s₀ H₀ ex pn) tg g) (hi:∀cl C s₀ H₀ ex pn,qc (fJ X N' scope cl C s₀ H₀ ex pn) ifs tt) (he:∀cl C s₀ H₀ ex pn,PE (fJ X N' scope cl C s₀ H₀ ex pn) elt te)
  (hs:∀x,foldedSetIterable iter X.env x=pure x:=by intro _;rfl) :
  PE X (.ListComp elt [⟨tg,iter,ifs,0⟩] scope pos) (Al wi pick g tt te):=by
 intro pins s σ H Q I h;rw[eval_ListComp];refine ajk (use:=η) rfl hs (KN S I) S.kind S.names (br (hit pins s σ H _ I h) λv s1 h1=>br h1 λitv s2 h2=>?_)
 obtain⟨it,fp,tn,J,H2,rfl,I2,T,st2,f2,W,⟨m0,w0⟩,turn⟩:=h2;refine KG (RR:=λacc C=>compPost (model X.prog X.w) X.A X.xe η (EP X pins σ Q) acc C) (Qv:=Q) S hc I2 T st2 f2 hg hi he w0 turn ?_
 intro D C H' s' m I' f' n' q';exact⟨m,n',λh' hs'=>⟨.ref D,H',I'.gone f' hs',rfl,q'⟩⟩
def Om(i:Nat) (t:TE):TS:=λD σ H=>t σ H λv H1=>D.nx (σ.set i (ζ v)) H1
theorem RH{wi:TI}{i:Nat}{y:Str}{py spos:Pos}(hsw:swapsWith (.ListComp elt [⟨tg,iter,ifs,0⟩] scope pos) (ζ (.Name y py)) spos.line X.env=pure Γ) (hN:X.N.Nodup) (hy:X.N[i]? = ζ y) (hl:X.env.scope.names.lookup y=ζ .local)
  (S:cE X N' pick scope) (hc:X.calm=Γ) (hit:PI X tg iter wi)
  (hg:∀cl C s₀ H₀ ex pn,PG (fJ X N' scope cl C s₀ H₀ ex pn) tg g) (hi:∀cl C s₀ H₀ ex pn,qc (fJ X N' scope cl C s₀ H₀ ex pn) ifs tt) (he:∀cl C s₀ H₀ ex pn,PE (fJ X N' scope cl C s₀ H₀ ex pn) elt te)
  (hs:∀x,foldedSetIterable iter X.env x=pure x:=by intro _;rfl) :
  PS X (.Assign [.Name y py] (.ListComp elt [⟨tg,iter,ifs,0⟩] scope pos) spos) (Om i (Al wi pick g tt te)):=by
 intro pins s σ H D I h;rw[exec_Assign_Name_used _ _ _ _ hsw];refine afS (air (afS ?_));show wpAny _ X.A (do let _ <-comprehension (.ListComp elt [⟨tg,iter,ifs,0⟩] scope pos) scope X.env _ (newList []) θ (eval iter X.env) (ζ (assign (.Name y py) X.env))) _ _ s
 refine afS (agh (ajk (use:=ζ (assign (.Name y py) X.env)) (Q:=λ_ s'=>SP X pins D .next s') rfl hs (KN S I) S.kind S.names
  (br (hit pins s σ H _ I h) λv s1 h1=>br h1 λitv s2 h2=>?_)) (λ_ s' hq=>afT (afT hq)) λ_ _ e=>e)
 obtain⟨it,fp,tn,J,H2,rfl,I2,T,st2,f2,W,⟨m0,w0⟩,turn⟩:=h2;refine KG (RR:=λacc C=>compPost (model X.prog X.w) X.A X.xe (ζ (assign (.Name y py) X.env)) (λ_ s'=>SP X pins D .next s') acc C) (Qv:=λv H1=>D.nx (σ.set i (ζ v)) H1) S hc I2 T st2 f2 hg hi he w0 turn ?_
 intro Da C H' s' m I' f' n' q';show wpAny _ X.A (assign (.Name y py) X.env (.ref Da)) _ _ _;refine wpAny_assign_Name (Gq I' hN hy (.inl hl) (v:=.ref Da) rfl (λs'' E8 ⟨a,sb,ha⟩=>?_) (.inr hl))
 have hCa:C≠a:=by
  rcases ha with e|e
  ·rw[e];exact f'.2.1
  ·exact agz (f'.2.2.2.2.1 _ _ e)
 exact⟨m,n'.sameBut sb hCa,λh' hs'=>⟨_,H',E8.gone f' hs',q'⟩⟩
end
def KI(XN:List Str) (xn:List (Str×aae)) (N':List Str) (pick:List (Option Nat)) (names:List (Str×aae)):Bool :=
 decide N'.Nodup&&names.all (λx=>decide (names.lookup x.1=ζ x.2))&&decide ((names.map (·.1)).Nodup)&&(pick.length==N'.length) &&
 (pick.zip N').all (λq=>match q.1 with|none=>Γ|some j=>decide (names.lookup q.2=ζ NameKind.free)&&decide (XN[j]? = ζ q.2)) &&
 names.all (λx=>decide (x.2≠NameKind.free)||(decide (xn.lookup x.1=ζ NameKind.cell)||decide (xn.lookup x.1=ζ NameKind.free)))
theorem cE.of{X:Cx}{N':List Str}{pick:List (Option Nat)}{scope:aaj}(hk:scope.kind=.function) (h:KI X.N X.env.scope.names N' pick scope.names=Γ):cE X N' pick scope:=by
 unfold KI at h;simp only[af5,agc,decide_eq_true_eq,beq_iff_eq,ahr]at h;obtain⟨⟨⟨⟨⟨h1,h2⟩,h3⟩,h4⟩,h5⟩,h6⟩:=h;refine⟨hk,h1,λx hx e=>by rw[<-e];exact h2 x hx,h3,h4,λi j x hp hN=>?_,λx hx e=>?_⟩
 ·have hm:(ζ j,x)∈pick.zip N':=by
   have:(pick.zip N')[i]? = ζ (ζ j,x):=by rw[ajl];exact⟨hp,hN⟩
   exact agk this
  exact h5 _ hm |> λz=>by simpa using z
 ·rcases h6 x hx with z|z|z
  ·exact absurd e z
  ·exact .inl z
  ·exact .inr z
end L2
namespace PySem
open Sem (wp)
section
variable {prog:τ}{w:υ}{A:χ}{E:Δ->Ω->Prop}{s:Ω}
theorem Wk{it l:Ψ}{i:Nat}{items:Array Δ}{x:Δ}{Q:Δ->Ω->Prop}(hit:s.heap.IsTupleIter it l i)
  (hl:s.heap.IsTuple l items) (hx:items[i]? = ζ x)
  (hQ:∀h',h'.IsTupleIter it l (i+1)->aan it s.heap h'->Q x {s with heap:=h'}) :
  wpAny (model prog w) A (Builtin.SmallTypes.nextOf (.ref it)) Q E s:=by
 obtain⟨o,ho,hc,hd⟩:=id hit;obtain⟨ol,ji,_,nl,hdl⟩:=hl;unfold Builtin.SmallTypes.nextOf;refine afS (ahb (name:=Str.ofString "__next__") hit.typeIs ah1
  (agL ah1 hit.typeIs ajm ?_ (ajn _)))
 show wpAny _ _ (field (.ref it) 0 >>= _) _ _ s;refine afS (agT ho hd (x:=.ref l) rfl ?_);show wpAny _ _ (if(Value.ref l==Value.none)=Γ then _ else _) _ _ s
 rw[if_neg (show ¬((Value.ref l==Value.none)=Γ)from agg)]
 show wpAny _ _ (field (.ref it) 1 >>= _) _ _ s;refine afS (agT ho hd (x:=.int i 0) rfl ?_);show wpAny _ _ (seqItems? (.ref l) >>= _) _ _ s;refine afS (wpAny_seqItems ji hdl ?_);simp only[ahL,hx];refine afS (ahM ho hd (by simp) (afT ⟨x,rfl,afT (hQ _ ?_ (ahd ..))⟩))
 exact⟨_,ahI _ ho (aiI (ahs hd _)),(aiJ ..).trans hc,by
  rw[ahs hd];simp[rawInt]⟩
theorem Wl{it l:Ψ}{i:Nat}{items:Array Δ}{Q:Δ->Ω->Prop}(hh:A.handled=η)
  (hit:s.heap.IsTupleIter it l i) (hl:s.heap.IsTuple l items) (hx:items[i]? = η)
  (hE:∀h' e,Heap.ExtBut it s.heap h'->(∃o,h'.get? e=ζ o/\o.cls=.type "StopIteration")->E (.ref e) {s with heap:=h'}) :
  wpAny (model prog w) A (Builtin.SmallTypes.nextOf (.ref it)) Q E s:=by
 obtain⟨o,ho,hc,hd⟩:=id hit;obtain⟨ol,ji,_,nl,hdl⟩:=hl;unfold Builtin.SmallTypes.nextOf;refine afS (ahb (name:=Str.ofString "__next__") hit.typeIs ah1
  (agL ah1 hit.typeIs ajm ?_ (ajn _)))
 show wpAny _ _ (field (.ref it) 0 >>= _) _ _ s;refine afS (agT ho hd (x:=.ref l) rfl ?_);show wpAny _ _ (if(Value.ref l==Value.none)=Γ then _ else _) _ _ s
 rw[if_neg (show ¬((Value.ref l==Value.none)=Γ)from agg)]
 show wpAny _ _ (field (.ref it) 1 >>= _) _ _ s;refine afS (agT ho hd (x:=.int i 0) rfl ?_);show wpAny _ _ (seqItems? (.ref l) >>= _) _ _ s;refine afS (wpAny_seqItems ji hdl ?_);simp only[ahL,hx];refine afS (ah2 (afS (ahM ho hd (by simp) ?_)))
 show wpAny _ _ (newExc (.type "StopIteration") [] >>= _) _ _ _;refine afS ?_;simp only[newExc,newTuple];refine afS (agw ?_ (by size_fits))
 refine afS (m:=firstArgMember _ _) (ah3 (a:=Value.none) (by first|rfl|(simp only[firstArgMember];rfl)) ?_)
 refine agw ?_ (by size_fits)
 simp only[raiseNew];refine afS (wpAny_handled ?_)
 first|rw[show A.in1.handled=η from hh]|rw[hh]
 refine afS (afT (wpAny_throw ?_));exact hE _ _ (((ahd ..).extBut.push _).push _) ⟨_,aga _ rfl,rfl⟩
theorem Draws.tuple{prog:τ}{w:υ}{A:χ}(hh:A.handled=η) (it l:Ψ) (hne:l≠it) (items:Array Δ) :
  Draws prog w A it [it,l] items.size (λi v=>items[i]? = ζ v) (λi h=>h.IsTupleIter it l i/\h.IsTuple l items) where
 live:=λ_ _ st=>let⟨o,ho,_⟩:=st.1;⟨o,ho⟩
 frame:=λ_ _ _ st hk=>⟨st.1.at λo e=>hk it (by simp) o e,let⟨o,e,r⟩:=st.2;⟨o,hk l (by simp) o e,r⟩⟩
 item:=λi s Q E hi st hQ=>by
  refine Wk st.1 st.2 (x:=items[i]) (by simp[hi]) λh' Cz hs'=>?_
  exact hQ _ h' s.toks (by simp[hi]) ⟨Cz,let⟨o,e,r⟩:=st.2;⟨o,hs'.extBut _ _ hne e,r⟩⟩ hs'
 done:=λs Q E st hE=>Wl hh st.1 st.2 (by simp) hE
structure ZA (z TI TO i1 i2:Ψ) (f1 f2:List Ψ):Prop where
 TIz:TI≠z
 TOz:TO≠z
 TITO:TI≠TO
 TIi1:TI≠i1
 TIi2:TI≠i2
 m1:i1∈f1
 m2:i2∈f2
 z1:z∉f1
 z2:z∉f2
 o1:TO∉f1
 o2:TO∉f2
 x1:i1∉f2
 x2:i2∉f1
open AutoSeq1 (wpAny_loadPart')
theorem Xw(l:Ψ) (items:Array Δ) (n:Nat) (dct:Option Ψ) (sl:Array (Option Δ)) :
  Meets (Builtin.«enumerate.__new__» ⟨[.type "enumerate",.ref l],[]⟩) (λ_ R s=>s.heap.get? l=ζ {cls:=.type "tuple",dict:=dct,data:=.seq items n,slots:=sl} /\
   R (.ok (.ret (.ref (s.heap.push {cls:=.type "tuple_iterator",data:=.fields #[.ref l,.int 0 0]}).objs.size)))
    {s with heap:=(s.heap.push {cls:=.type "tuple_iterator",data:=.fields #[.ref l,.int 0 0]}).push {cls:=.type "enumerate",data:=.fields #[.none,.bool θ,.ref s.heap.objs.size,rawInt 0,.none,.none]} }) :=
 .of_wp λprog w A R s h=>by
  obtain⟨hp,g,d,tk,os⟩:=s;obtain⟨hl,h⟩:=h;have hsub:=sub_enumerate;have hL:Heap.IsTuple (Shared.heap ⟨hp,g,d,tk,os⟩) l items:=⟨_,hl,rfl,n,rfl⟩
  wp_walk using wpAny_loadPart' hl
  refine wpAny_stack_any λst=>afT ?_
  split
  ·rename_i c _ _ _ _ _;cases(c==Value.type "enumerate")
   ·wp_walk using wpAny_loadPart' hl,ahC hL
    exact⟨_,rfl,h⟩
   ·wp_walk using wpAny_loadPart' hl,ahC hL
    exact⟨_,rfl,h⟩
  ·wp_walk using wpAny_loadPart' hl,ahC hL
   exact⟨_,rfl,h⟩
theorem acR{l:Ψ}{items:Array Δ}{Q:Δ->Ω->Prop}(hL:s.heap.IsTuple l items)
  (h:∀h',IsEnum h' (s.heap.objs.size+1) s.heap.objs.size 0 .none->h'.IsTupleIter s.heap.objs.size l 0->h'.objs.size=s.heap.objs.size+2 ->
   (∀b o,s.heap.get? b=ζ o->h'.get? b=ζ o)->Q (.ref (s.heap.objs.size+1)) {s with heap:=h'}) :
  wpAny (model prog w) A (call (.type "enumerate") [.ref l]) Q E s:=by
 obtain⟨⟨c,dct,dt,sl⟩,hl,hc,n,hd⟩:=hL
 replace hc:c=.type "tuple":=hc
 replace hd:dt=.seq items n:=hd
 subst hc hd;refine callType_new F.called_enumerate (by decide) (F.typeCall_enumerate_1 _) (F.newCall_enumerate_1 _) (λobj=>F.args_object_init_2 obj _) F.entry_enumerate_new
  (Xw l items n dct sl) ⟨hl,?_⟩
 have hz:(s.heap.push {cls:=.type "tuple_iterator",data:=.fields #[.ref l,.int 0 0]}).objs.size=s.heap.objs.size+1:=agF ..;show _/\_;rw[hz];have he:IsEnum ((s.heap.push {cls:=.type "tuple_iterator",data:=.fields #[.ref l,.int 0 0]}).push
   {cls:=.type "enumerate",data:=.fields #[.none,.bool θ,.ref s.heap.objs.size,rawInt 0,.none,.none]}) (s.heap.objs.size+1) s.heap.objs.size 0 .none:=by
  have:=aga (s.heap.push {cls:=.type "tuple_iterator",data:=.fields #[.ref l,.int 0 0]})
   (o:={cls:=.type "enumerate",data:=.fields #[.none,.bool θ,.ref s.heap.objs.size,rawInt 0,.none,.none]}) rfl
  rw[hz]at this;exact this
 refine⟨⟨_,he,rfl⟩,h _ he ⟨_,afY _ (aga _ rfl),rfl,rfl⟩ (by rw[agF,hz]) λb o x=>afY _ (afY _ x)⟩
end
end PySem
namespace L2
open PySem PySem.Spec PyProof.Rows
section
variable {X:Cx}{pins:List (Ψ×Obj)}{σ:St}{H:Hp}{s:Ω}{K:ξ}
theorem aaI{a b:Ψ}{xs:List V}(I:Inv X pins σ H s) (f:gY X pins H b) (q:bU X.K H a xs):a≠b:=by
 rintro rfl
 rcases q with(q|⟨o,q⟩)|⟨o,its,n,q,_⟩
 ·rw[f.1]at q;cases q
 ·rw[f.1]at q;cases q
 ·have e:=I.ok.mod.kh a o q
  rcases f.2.2.2.1 with z|z
  ·exact I.ok.jg _ _ e z
  ·exact absurd (af3 (afV e) (agf I.ok.gj z)) (agu _)
theorem Inv.N2{h':ψ}{t':Nat}{ch:List Ψ}{T:Ψ}{vs:List V}{us:List Δ}(I:Inv X pins σ H s) (hf:∀b∈ch,gY X pins H b) (k:∀b o,b∉ch->s.heap.get? b=ζ o->h'.get? b=ζ o)
  (hT:s.heap.objs.size<=T) (th:∀b∈ch,∃o,h'.get? b=ζ o) (rv:Vals vs us) (hz:vs.length<=ε) (tup:jn h' T us.toArray):Inv X pins σ (upd H T (.tup vs)) {s with heap:=h',toks:=t'}:=by
 have hn:H T=η:=I.hok.fresh hT;have jA:∀b u,H b=ζ u->b∉ch:=λb u e z=>by rw[(hf b z).1]at e;cases e
 refine I.step (g':=s.gens) (d':=s.drawn) (ch:=ch) (λb hb=>?_) (λb o _ _ hc e _=>k b o hc e) (λb o _ _ hc e _=>⟨o.slots,k b o hc e⟩) (λb o _ e n=>?_)
  (λb o hc e=>⟨o,k b o hc e⟩) (λb xs e=>by rw[bz (cX e hn)];exact e) (λb o u e=>by rw[bz (cX e hn)];exact e) (λb ps e=>⟨#[],by rw[bz (cX e hn),e];simp⟩) (λm hm=>?_) (λb u e=>?_) I.bare
 ·obtain⟨f0,f1,f2,f3,f4,f5⟩:=hf b hb;exact⟨f3,f1,f4,f5⟩
 ·rw[bz (afX (af3 (afV e) hT))];exact n
 ·obtain⟨o,es,ep,ho,r⟩:=hm;exact⟨o,es,ep,k _ o (λz=>(hf _ z).2.1 rfl) ho,r⟩
 ·by_cases hb:b=T
  ·subst hb;rw[gw]at e;cases e;exact⟨hz,us,rv,tup⟩
  ·rw[bz hb]at e;refine(I.hok b u e).stay (λc v hc q=>k c v ?_ q) (λc q=>by rw[bz (cX q hn)];exact q) λc xs q=>by rw[bz (cX q hn)];exact q
   rcases hc with z|z
   ·rw[z];exact jA b u e
   ·exact jA c _ z
theorem Inv.N3{h':ψ}{t':Nat}{ch:List Ψ}(I:Inv X pins σ H s) (hf:∀b∈ch,gY X pins H b) (k:∀b o,b∉ch->s.heap.get? b=ζ o->h'.get? b=ζ o):Inv X pins σ H {s with heap:=h',toks:=t'}:=by
 have jA:∀b u,H b=ζ u->b∉ch:=λb u e z=>by rw[(hf b z).1]at e;cases e
 refine I.step (g':=s.gens) (d':=s.drawn) (ch:=ch) (λb hb=>?_) (λb o _ _ hc e _=>k b o hc e) (λb o _ _ hc e _=>⟨o.slots,k b o hc e⟩) (λb o _ e n=>n)
  (λb o hc e=>⟨o,k b o hc e⟩) (λb xs e=>e) (λb o u e=>e) (λb ps e=>⟨#[],by rw[e];simp⟩) (λm hm=>?_) (λb u e=>?_) I.bare
 ·obtain⟨f0,f1,f2,f3,f4,f5⟩:=hf b hb;exact⟨f3,f1,f4,f5⟩
 ·obtain⟨o,es,ep,ho,r⟩:=hm;exact⟨o,es,ep,k _ o (λz=>(hf _ z).2.1 rfl) ho,r⟩
 ·refine(I.hok b u e).stay (λc v hc q=>k c v ?_ q) (λc q=>q) λc xs q=>q
  rcases hc with z|z
  ·rw[z];exact jA b u e
  ·exact jA c _ z
end
structure LG (P:τ) (w:υ) (K:ξ) (Sq:Hp->Ψ->List V->Prop) (qd:ψ->Ψ->Ψ->Nat->Prop) (zu:ψ->Ψ->Array Δ->Prop):Prop where
 get:∀{X:Cx}{pins:List (Ψ×Obj)}{σ:St}{H:Hp}{s:Ω}{a:Ψ}{xs:List V},X.K=K->Inv X pins σ H s->Sq H a xs->∃its:List Δ,Vals xs its/\zu s.heap a its.toArray/\xs.length<=ε
 inj:∀{X:Cx}{pins:List (Ψ×Obj)}{σ:St}{H:Hp}{s:Ω}{a:Ψ}{xs ys:List V},X.K=K->Inv X pins σ H s->Sq H a xs->Sq H a ys->xs=ys
 ne:∀{X:Cx}{pins:List (Ψ×Obj)}{σ:St}{H:Hp}{s:Ω}{a b:Ψ}{xs:List V},X.K=K->Inv X pins σ H s->gY X pins H b->Sq H a xs->a≠b
 yU:∀(A:χ) (it l:Ψ) (items:Array Δ),A.handled=η->l≠it->Draws P w A it [it,l] items.size (λi v=>items[i]? = ζ v) (λi h=>qd h it l i/\zu h l items)
 obj:∀{h:ψ}{it l:Ψ}{i:Nat},qd h it l i->∃o,h.get? it=ζ o/\∀v,o.data≠.cell v
 at':∀{h h':ψ}{it l:Ψ}{i:Nat},qd h it l i->(∀o,h.get? it=ζ o->h'.get? it=ζ o)->qd h' it l i
theorem PX{P:τ}{w:υ}{K:ξ}:LG P w K (bU K) (λh it l i=>h.IsTupleIter it l i) (λh a xs=>h.IsTuple a xs) where
 get:=λe I q=>by subst e;obtain⟨its,r,p,z⟩:=I.tuple q;exact⟨its,r,p,z⟩
 inj:=λe I q q'=>by subst e;exact I.FZ q q'
 ne:=λe I f q=>by subst e;exact aaI I f q
 yU:=λA it l items hh hne=>Draws.tuple hh it l hne items
 obj:=λst=>by obtain⟨o,e,c,d⟩:=st;exact⟨o,e,λv z=>by rw[d]at z;cases z⟩
 at':=λst k=>st.at k
def E7(Sq:Hp->Ψ->List V->Prop) (a:Ψ):It :=
  ⟨λi H=>∃xs x,Sq H a xs/\xs[i]? = ζ x,
   λi H v H'=>∃t x,v=.ref t/\H t=η/\H'=upd H t (.tup [.int i,x])/\∀xs,Sq H a xs->xs[i]? = ζ x,
   λi H=>∃xs,Sq H a xs/\i=xs.length⟩
theorem FO{xs:List V}{us:List Δ}{i:Nat}{u:Δ}(r:Vals xs us) (h:us.toArray[i]? = ζ u):∃x,xs[i]? = ζ x/\RelV x u:=by
 have h':us[i]? = ζ u:=by simpa using h
 have hi:i<xs.length:=by rw[r.length];exact(af6.mp h').1
 obtain⟨u',e,q⟩:=r.get (i:=i) (x:=xs[i]) (af2 hi);rw[h']at e;cases e;exact⟨xs[i],af2 hi,q⟩
theorem N7{P:τ}{w:υ}{K:ξ}{Sq:Hp->Ψ->List V->Prop}{qd:ψ->Ψ->Ψ->Nat->Prop}{zu:ψ->Ψ->Array Δ->Prop}(S:LG P w K Sq qd zu) {es:List ο}{k:Nat}{pt:Pos}(a e it:Ψ) (n1:e≠it) :
  Turn P w K (.Tuple es k pt) (E7 Sq a) [e,it] e (λi h=>(∃old,IsEnum h e it i old)/\qd h it a i) where
 mem:=by simp
 obj:=λi h st b hb=>by
  obtain⟨⟨old,hz⟩,h1⟩:=st;simp only[afW,agp,or_false]at hb
  rcases hb with rfl|rfl
  ·exact⟨_,hz,λv q=>nomatch q⟩
  ·exact S.obj h1
 keep:=λi h h' st kp=>by
  obtain⟨⟨old,hz⟩,h1⟩:=st;exact⟨⟨old,kp _ (by simp) _ hz⟩,S.at' h1 λo e=>kp _ (by simp) o e⟩
 item:=by
  intro X hP hw hK hc i pins s σ H E I hf st hg;subst hP hw;obtain⟨xs,x,q1,hx⟩:=hg;obtain⟨⟨old,hz⟩,h1⟩:=st;obtain⟨us,r1,p1,l1⟩:=S.get hK I q1;have ne1:∀{b:Ψ},b∈[e,it]->a≠b:=λhb=>S.ne hK I (hf _ hb) q1
  have hx':i<us.toArray.size:=by have:=(af6.mp hx).1;have:=r1.length;simp;omega
  have W:=WalksT.enumerateD (A:=X.A) (S.yU X.A.in1 it a us.toArray (I.ok.hd hc) (ne1 (by simp))) e n1 (by simp only[afW,agp,or_false,not_or];exact⟨n1,(ne1 (by simp)).symm⟩) (by simp)
  refine wpAny_pyNext_enum_itemD (S.yU X.A.in1 it a us.toArray (I.ok.hd hc) (ne1 (by simp))) hz ⟨h1,p1⟩ hx' n1 (by simp only[afW,agp,or_false,not_or];exact⟨n1,(ne1 (by simp)).symm⟩) λu0 h' tk0 Rv ZH hs0 hT0 hsz0 hk0=>?_
  have hilt:it<s.heap.objs.size:=by obtain⟨o,e3,_⟩:=S.obj h1;exact afV e3
  have hT:s.heap.objs.size<=s.heap.objs.size:=afU _;have mid:(∃x,IsEnumOut h' e it ((i:Int)+1) x s.heap.objs.size)/\_/\s.heap.objs.size≠e/\s.heap.objs.size≠it:=⟨⟨_,ZH⟩,hs0,agO (afV hz),agO hilt⟩;have kp:∀b o,b∉[e,it]->s.heap.get? b=ζ o->h'.get? b=ζ o:=λb o hb y=>hk0 b o (λe'=>hb (by simp[e'])) (λe'=>hb (by simp[e'])) y
  refine⟨_,rfl,?_⟩;refine W.go es k pt i s.heap.objs.size {s with heap:=h',toks:=tk0+1} _ _ mid λh'' st'' IV=>?_
  obtain⟨x',ex,rx⟩:=FO r1 Rv;have lt:∀{c:Ψ}{o:Obj},s.heap.get? c=ζ o->c≠s.heap.objs.size:=λq=>afX (afV q)
  have hT2:jn h'' s.heap.objs.size [.int i tk0,u0].toArray:=⟨_,IV _ _ (W.apart _ _ _ mid) hT0,rfl,⟨_,rfl⟩,rfl⟩;have I2:Inv X pins σ (upd H s.heap.objs.size (.tup [.int i,x'])) {s with heap:=h'',toks:=tk0+1}:=by
   refine I.N2 (ch:=[e,it]) (us:=[.int i tk0,u0]) hf (λc o hcn e1=>IV _ _ hcn (kp c o hcn e1)) hT (λb hb=>?_) (.cons ⟨tk0,rfl⟩ (.cons rx .nil)) (by show 2<=ε;decide) hT2
   simp only[afW,agp,or_false]at hb
   rcases hb with rfl|rfl
   ·obtain⟨⟨o2,e2⟩,_⟩:=st'';exact⟨_,e2⟩
   ·obtain⟨_,e2,_⟩:=st'';obtain⟨o,e3,_⟩:=S.obj e2;exact⟨o,e3⟩
  refine⟨.ref s.heap.objs.size,_,I2,rfl,⟨_,x',rfl,I.hok.fresh hT,rfl,λxs' w1=>?_⟩,⟨?_,st''.2.1⟩,λb hb=>?_⟩
  ·rw[S.inj hK I w1 q1];exact ex
  ·obtain⟨⟨o2,e2⟩,_⟩:=st'';exact⟨o2,by simpa using e2⟩
  ·have hb':b≠s.heap.objs.size:=by
    simp only[afW,agp,or_false]at hb
    rcases hb with rfl|rfl
    ·exact lt hz
    ·obtain⟨o,e3,_⟩:=S.obj h1;exact lt e3
   rw[bz hb'];exact(hf b hb).1
 done:=by
  intro X hP hw hK hc i pins s σ H E I hf st hg;subst hP hw;obtain⟨xs,q1,hend⟩:=hg;obtain⟨⟨old,hz⟩,h1⟩:=st;obtain⟨us,r1,p1,l1⟩:=S.get hK I q1;have ne1:∀{b:Ψ},b∈[e,it]->a≠b:=λhb=>S.ne hK I (hf _ hb) q1
  have W:=WalksT.enumerateD (A:=X.A) (S.yU X.A.in1 it a us.toArray (I.ok.hd hc) (ne1 (by simp))) e n1 (by simp only[afW,agp,or_false,not_or];exact⟨n1,(ne1 (by simp)).symm⟩) (by simp)
  have ei:i=us.toArray.size:=by rw[af0,<-r1.length];exact hend
  subst ei;refine W.done s _ _ ⟨⟨old,hz⟩,h1,p1⟩ λh' tk kp=>⟨rfl,I.N3 (ch:=[e,it]) hf kp⟩
 self:=λA i s Q E st h=>by
  obtain⟨⟨old,hz⟩,h1⟩:=st;exact wpAny_pyIter_enum hz h
section
variable {X:Cx}{es':List ο}{kt:Nat}{pt:Pos}
def Zm(Sq:Hp->Ψ->List V->Prop) (ta:TA):TI:=λσ H R=>ta σ H λvs H1=>∃a,vs=[.ref a]/\(∃xs,Sq H1 a xs)/\R (E7 Sq a) H1
theorem Mz{pins:List (Ψ×Obj)}{σ:St}{H:Hp}{s:Ω}{n:Nat}(I:Inv X pins σ H s) (hn:s.heap.objs.size=n):∀b∈[n+4,n+2,n+3,n,n+1],gY X pins H b:=λb hb=>by
 have:s.heap.objs.size<=b:=by
  simp only[afW,agp,or_false]at hb
  rcases hb with rfl|rfl|rfl|rfl|rfl<;>rw[hn]
  ·exact ah4 _ _
  ·exact ah4 _ _
  ·exact ah4 _ _
  ·exact afU _
  ·exact ah4 _ _
 exact I.yh this (I.hok.fresh this)
theorem SJ{a:ο}{ta:TA}{p pos:Pos}(hg:Gl X "enumerate") (hm:X.mg "enumerate"=η) (ha:PA X [a] ta) (hs:μ [a] X.env=[(θ,eval a X.env)]:=by rfl) :
  PI X (.Tuple es' kt pt) (.Call (.Name "enumerate" p) [a] [] pos) (Zm (bU X.K) ta):=by
 intro pins s σ H R I h;refine Call_ (rX I hg hm boot_enumerate (ahV (br (ha pos pins s σ H _ I h) λus s1 ⟨vs,H1,I1,r1,q1⟩=>?_) hs rfl))
 obtain⟨a1,e,⟨xs,q1⟩,q⟩:=q1;subst e;cases r1 with
 |cons r rr =>
  cases rr;cases r;obtain⟨us,ru,pu,lu⟩:=I1.tuple q1;refine acR pu λh' hz t1 _ kp=>wpAny_pyIter_enum hz ?_
  generalize hn:s1.heap.objs.size=n at hz t1
  refine⟨n+1,_,_,_,H1,rfl,I1.kept (t':=s1.toks) kp,N7 PX a1 (n+1) n (agO (ag4 _)),⟨⟨_,hz⟩,t1⟩,λb hb=>?_,q⟩
  refine Mz I1 hn b ?_;simp only[afW,agp,or_false]at hb
  rcases hb with rfl|rfl<;>simp
end
section
variable {X:Cx}
theorem F0{A:χ}{bs:List Bool}{its:List Δ}(r:Vals (bs.map V.bl) its):TruthOf X.prog X.w A (λi v=>its.toArray[i]? = ζ v) (λi=>bs.getD i θ):=by
 intro i v s Q E hP hQ;obtain⟨x,ex,rx⟩:=FO r hP;rw[agv]at ex;cases e:bs[i]? with
 |none=>rw[e]at ex;cases ex
 |some b =>
  rw[e]at ex;cases ex;cases rx;refine ag0 ?_;have:bs.getD i θ=b:=by rw[agi,e];rfl
  have hQ:Q (bs.getD i θ) s:=hQ;rw[this]at hQ;exact hQ
theorem range_all(bs:List Bool):((ι bs.length).all λi=>bs.getD i θ)=bs.all id:=by
 rw[agV,agc,agc]
 constructor
 ·intro h b hb;obtain⟨i,hi,e⟩:=ag5.mp hb;have:=h i (age.mpr hi);rw[agi,af2 hi]at this;rw[<-e];exact this
 ·intro h i hi;have hi:=age.mp hi;rw[agi,af2 hi];exact h _ (agM hi)
theorem range_any(bs:List Bool):((ι bs.length).any λi=>bs.getD i θ)=bs.any id:=by
 rw[agV,ah5,ah5]
 constructor
 ·rintro ⟨i,hi,h⟩
  have hi:=age.mp hi;rw[agi,af2 hi]at h;exact⟨_,agM hi,h⟩
 ·rintro ⟨b,hb,h⟩
  obtain⟨i,hi,e⟩:=ag5.mp hb;refine⟨i,age.mpr hi,?_⟩;rw[agi,af2 hi,e];exact h
theorem LD{pins:List (Ψ×Obj)}{σ:St}{H:Hp}{s:Ω}{h':ψ}{tk:Nat}{o:Obj}(I:Inv X pins σ H s) (kp:∀b q,b∉[s.heap.objs.size]->(s.heap.push o).get? b=ζ q->h'.get? b=ζ q):Inv X pins σ H {s with heap:=h',toks:=tk} :=
 I.kept λb q e=>kp b q (by simp only[afW,agp,or_false];exact afX (afV e)) (afY _ e)
theorem acT(hc:X.calm=Γ):d8 X (.builtin "all") (λxs H Q=>∃(p:Ψ) (bs:List Bool),xs=[.ref p]/\bY X.K H p (bs.map V.bl)/\Q (.bl (bs.all id)) H):=by
 intro pins s σ H xs us Q I r h;obtain⟨p,bs,rfl,hp,q⟩:=h;obtain⟨u,rfl,ru⟩:=vals1 r;cases ru;obtain⟨its,rv,pl,hz⟩:=I.list hp;have hL:=pl.isList;have Ct:p≠s.heap.objs.size:=by obtain⟨o,e,_⟩:=hL;exact afX (afV e)
 refine call_all_walk (ahU hL ⟨s.heap.objs.size,_,_,its.toArray.size,_,_,λi=>bs.getD i θ,rfl,Walks.list (A:=X.A.in1) (I.ok.hd hc) s.heap.objs.size p Ct its.toArray,⟨⟨_,aga _ rfl,rfl,rfl⟩,hL.push _⟩,F0 rv,λh' tk kp=>?_⟩)
 have hl:=rv.length;rw[af7]at hl;have I1:Inv X pins σ H {s with heap:=h',toks:=tk}:=LD I kp
 refine⟨.bl (bs.all id),H,I1,?_,q⟩;show Value.bool _=Value.bool _;rw[af0,<-hl,range_all]
theorem acS(hc:X.calm=Γ):d8 X (.builtin "any") (λxs H Q=>∃(p:Ψ) (bs:List Bool),xs=[.ref p]/\bY X.K H p (bs.map V.bl)/\Q (.bl (bs.any id)) H):=by
 intro pins s σ H xs us Q I r h;obtain⟨p,bs,rfl,hp,q⟩:=h;obtain⟨u,rfl,ru⟩:=vals1 r;cases ru;obtain⟨its,rv,pl,hz⟩:=I.list hp;have hL:=pl.isList;have Ct:p≠s.heap.objs.size:=by obtain⟨o,e,_⟩:=hL;exact afX (afV e)
 refine call_any_walk (ahU hL ⟨s.heap.objs.size,_,_,its.toArray.size,_,_,λi=>bs.getD i θ,rfl,Walks.list (A:=X.A.in1) (I.ok.hd hc) s.heap.objs.size p Ct its.toArray,⟨⟨_,aga _ rfl,rfl,rfl⟩,hL.push _⟩,F0 rv,λh' tk kp=>?_⟩)
 have hl:=rv.length;rw[af7]at hl;have I1:Inv X pins σ H {s with heap:=h',toks:=tk}:=LD I kp
 refine⟨.bl (bs.any id),H,I1,?_,q⟩;show Value.bool _=Value.bool _;rw[af0,<-hl,range_any]
def tyName(H:Hp):V->String->Prop
 |.aI,n=>n="NoneType"
 |.bl _,n=>n="bool"
 |.int _,n=>n="int"
 |.str _,n=>n="str"
 |.ref a,n=>(n="list"/\((∃xs,H a=ζ (.lst xs))\/∃o xs,H a=ζ (.cB o (.lst xs))))\/(n="tuple"/\∃xs,H a=ζ (.tup xs))\/(n="dict"/\((∃k,H a=ζ (.dK k))\/∃k,H a=ζ (.dT k)))
 |_,_=>False
theorem NY{K:ξ}{H:Hp}{x:V}{n:String}(h:tyName H x n):iX K H x (.type n):=by
 cases x with
 |aI=>cases(show n="NoneType" from h);exact .aI
 |bl b=>cases(show n="bool" from h);exact .bl b
 |int b=>cases(show n="int" from h);exact .int b
 |str b=>cases(show n="str" from h);exact .str b
 |ref a =>
  rcases h with⟨rfl,⟨xs,e⟩|⟨o,xs,e⟩⟩|⟨rfl,xs,e⟩|⟨rfl,⟨k,e⟩|⟨k,e⟩⟩
  ·exact .lst e
  ·exact .cB e
  ·exact .tup e
  ·exact .dK e
  ·exact .dT e
 |_=>exact False.elim h
def uh(n T:String):Bool:=n==T||(n=="bool"&&T=="int")
def X8(n T:String):Option Bool:=if(Value.type n==Value.type T)=Γ then ζ Γ else if PySem.W.kitMeta T=Γ then(fastBuiltinMro n).map (·.contains (Value.type T))else η
theorem IX{K:ξ}{n T:String}(hn:n∈["NoneType","bool","int","str","list","tuple","dict"]) (hT:T∈["bool","int","str","list","tuple","dict"]):PySem.W.kitOne K (.type n) (.type T)=ζ (uh n T):=by
 show X8 n T=ζ (uh n T);simp only[afW,agp,or_false]at hn hT
 rcases hn with rfl|rfl|rfl|rfl|rfl|rfl|rfl<;>rcases hT with rfl|rfl|rfl|rfl|rfl|rfl<;>decide +kernel
theorem NZ{H:Hp}{x:V}{n:String}(h:tyName H x n):n∈["NoneType","bool","int","str","list","tuple","dict"]:=by
 cases x with
 |aI=>cases(show n="NoneType" from h);simp
 |bl b=>cases(show n="bool" from h);simp
 |int b=>cases(show n="int" from h);simp
 |str b=>cases(show n="str" from h);simp
 |ref a=>rcases h with⟨rfl,_⟩|⟨rfl,_⟩|⟨rfl,_⟩<;>simp
 |_=>exact False.elim h
theorem acP:d8 X (.builtin "isinstance") (λxs H Q=>∃x n T,xs=[x,.ty T]/\tyName H x n/\T∈["bool","int","str","list","tuple","dict"]/\Q (.bl (uh n T)) H):=by
 intro pins s σ H xs us Q I r h;obtain⟨x,n,T,rfl,hx,hT,q⟩:=h;obtain⟨u,v,rfl,ru,rv⟩:=Vals.two r;cases(show v=Value.type T from rv)
 exact Za I ru (NY hx) (IX (NZ hx) hT) λtk=>⟨.bl _,H,I.tok tk,rfl,q⟩
end
def lA(ea C:Ψ):ψ->Prop:=λh=>∃o,h.get? ea=ζ o/\o.cls=.ref C
def Kq(a:Ψ):ψ->Prop:=PySem.W.KitAt a "dict"
structure Def (K:ξ) (mg:Str->Option Δ) (x:Str) (st:aag) (ps:List Str) (f:Ψ) (fd:π):Prop where
 fn:jU K x x st f fd
 at':mg x=ζ (.ref f)
 bd:Binds K fd ps []
section
variable {X:Cx}
theorem S2{x:Str}{st:aag}{ps:List Str}{f:Ψ}{fd:π}{k:Nat}{sp:Sp}{e:ο}{es:List ο}{t:TA}{p pos:Pos}(D:Def X.K X.mg x st ps f fd) (G:bV X.prog X.w X.K X.mg X.base bP k f fd ps sp) (hr:cP k X.A) (ha:PA X (e::es) t) (hg:Gl X x:=by rfl)
  (hdb:(x==("__debug__":Str))=θ:=by decide) (he:μ (e::es) X.env=(θ,eval e X.env)::μ es X.env:=by rfl) (hpl:(aah pos (μ es X.env)).any (·.1)=θ:=by rfl) :
  PE X (.Call (.Name x p) (e::es) [] pos) (Gi sp [] E0 t):=Hr G hr hg D.at' D.fn.kp D.bd .nil Tr ha hdb he hpl
theorem SR{x:Str}{n:String}{pos:Pos}(hg:Gl X x) (hm:X.mg x=η) (hv:bootBuiltins x=ζ (.type n)) (hn:x≠"__name__":=by decide) (hd:(x==("__debug__":Str))=θ:=by decide):PE X (.Name x pos) (tC (.ty n)):=S8 hg hm hv rfl hn hd
end
def isStar:ο->Bool
 |.Starred _ _=>Γ
 |_=>θ
theorem cj{a:ο}{es:List ο}{env:Env}(h:isStar a=θ):μ (a::es) env=(θ,eval a env)::μ es env:=by
 cases a<;>first|(cases h;done)|(simp only[μ];done)
def noStar(es:List ο):Bool:=es.all λa=>!isStar a
theorem iA{es:List ο}{env:Env}{pos:Pos}(h:noStar es=Γ):(aah pos (μ es env)).any (·.1)=θ:=by
 induction es with
 |nil=>simp only[μ];rfl
 |cons a es ih =>
  have h:(!isStar a&&noStar es)=Γ:=h;rw[af5]at h;rw[cj (by simpa using h.1)]
  have:=ih h.2
  simpa[aah]using this
theorem um{a:ο}{env:Env}(h:isStar a=θ):μ [a] env=[(θ,eval a env)]:=by
 rw[cj h];simp only[μ]
theorem Gr{a b:ο}{env:Env}(h:isStar a=θ) (g:isStar b=θ):μ [a,b] env=[(θ,eval a env),(θ,eval b env)]:=by
 rw[cj h,um g]
theorem wC{a:ο}{env:Env}{pos:Pos}(h:isStar a=θ):((aah pos (μ [a] env)).all (λx=>!x.1)&&(aaB pos (aak [] env)).all (λx=>x.1.isSome)
   && decide ([a].length+([]:List aam).length+(if([]:List aam).isEmpty then 0 else 1)<30))=Γ:=by
 rw[um h];simp[aah,aaB,aak]
inductive D where
 |aI|bl (b:Bool)|int (i:Int)|str (x:Str)|ty (n:String)|tup (l:List D)|lst (l:List D)|ref (k:Nat)|bQ (l:List Int)|fn (x:Str) (n:Nat)|exc (x:Str)|gK|dct (ks:List (Int×Int))|lam (k:Nat) (e:ο) (ns:List Str) (l:List D)
inductive Cell where
 |lst (l:List D)
mutual
def noRef:D->Bool
 |.tup l=>bL l
 |.lst l=>bL l
 |.ref _=>θ
 |.aI=>Γ
 |.bl _=>Γ
 |.int _=>Γ
 |.str _=>Γ
 |.ty _=>Γ
 |.bQ _=>Γ
 |.fn _ _=>Γ
 |.exc _=>Γ
 |.gK=>Γ
 |.dct _=>Γ
 |.lam _ _ _ _=>θ
def bL:List D->Bool
 |[]=>Γ
 |d::l=>noRef d&&bL l
end
mutual
def fX:D->Bool
 |.tup l=>gE l
 |.lst l=>gE l
 |.lam _ _ _ _=>θ
 |.ref _=>Γ
 |.aI=>Γ
 |.bl _=>Γ
 |.int _=>Γ
 |.str _=>Γ
 |.ty _=>Γ
 |.bQ _=>Γ
 |.fn _ _=>Γ
 |.exc _=>Γ
 |.gK=>Γ
 |.dct _=>Γ
def gE:List D->Bool
 |[]=>Γ
 |d::l=>fX d&&gE l
end
mutual
theorem HW:∀d:D,noRef d=Γ->fX d=Γ
 |.tup l,h=>by unfold noRef at h;unfold fX;exact xH l h
 |.lst l,h=>by unfold noRef at h;unfold fX;exact xH l h
 |.lam _ _ _ _,h=>by unfold noRef at h;cases h
 |.ref _,h=>by unfold noRef at h;cases h
 |.aI,_=>by unfold fX;rfl
 |.bl _,_=>by unfold fX;rfl
 |.int _,_=>by unfold fX;rfl
 |.str _,_=>by unfold fX;rfl
 |.ty _,_=>by unfold fX;rfl
 |.bQ _,_=>by unfold fX;rfl
 |.fn _ _,_=>by unfold fX;rfl
 |.exc _,_=>by unfold fX;rfl
 |.gK,_=>by unfold fX;rfl
 |.dct _,_=>by unfold fX;rfl
theorem xH:∀l:List D,bL l=Γ->gE l=Γ
 |[],_=>by unfold gE;rfl
 |d::l,h=>by
  unfold bL at h;rw[af5]at h;unfold gE;rw[HW d h.1,xH l h.2];rfl
end
theorem uS:∀{l m:List D},bL (l++m)=(bL l&&bL m)
 |[],m=>by simp[bL]
 |d::l,m=>by simp[bL,uS (l:=l),Bool.and_assoc]
theorem HU:∀{l:List D}{i:Nat}{d:D},bL l=Γ->noRef d=Γ->bL (l.set i d)=Γ
 |[],i,d,h,g=>h
 |b::l,0,d,h,g=>by simp_all[bL]
 |b::l,i+1,d,h,g=>by
  simp only[bL,af5]at h;simp only[ajo,bL,af5];exact⟨h.1,HU h.2 g⟩
theorem eu:∀{l:List D},bL l=Γ↔∀d∈l,noRef d=Γ
 |[]=>by simp[bL]
 |d::l=>by simp[bL,eu (l:=l)]
theorem Wf{l:List Int}:bL (l.map D.int)=Γ:=eu.mpr λd h=>by
 obtain⟨i,_,rfl⟩:=af4.mp h;rfl
inductive R (α:Type) where
 |ok (a:α) (c:List Cell)
 |bad
def R.bind{α β:Type}(r:R α) (f:α->List Cell->R β):R β:=match r with
 |.ok a c=>f a c
 |.bad=>.bad
@[simp] theorem R.az{α β:Type}{a:α}{c:List Cell}{f:α->List Cell->R β}:(R.ok a c).bind f=f a c:=rfl
@[simp] theorem R.afM{α β:Type}{f:α->List Cell->R β}:(R.bad:R α).bind f=.bad:=rfl
def o5:List Str:=["greatest_among","web_of","other_web","turned_at","pairs_web","field_web","net_web"]
def xV(x:Str):Str:=x++".<locals>."++"<lambda>"
def pK(c:Ψ) (q:Str):ψ->Prop:=λh=>h.CodeRec (.ref c) q
def o4(a:Ψ) (o:Obj):ψ->Prop:=λh=>h.get? a=ζ o
def vM(e:ο) (o:Obj) (q:Str) (c:Ψ) (cl:List (Str×Ψ)):Prop:=match e with
 |.Lambda params body scope _=>∃pm ctv,o=PySem.W.kla_obj "<lambda>" q params body scope cl pm c ctv
 |_=>False
def u6:HO->Bool
 |.cD _=>Γ
 |_=>θ
def iN(H:Hp) (cl:List (Str×Ψ)):List Str->List V->Prop
 |[],xs=>xs=[]
 |x::ns,xs=>∃v r c oc u,xs=v::r/\cl.lookup x=ζ c/\H c=ζ (.cB oc (.own 0))/\oc.data=.cell (ζ u)/\RelV v u/\iN H cl ns r
def vR(cl:List (Str×Ψ)) (ns:List Str):Prop:=(∀x y c,cl.lookup x=ζ c->cl.lookup y=ζ c->x=y)/\∀x c,cl.lookup x=ζ c->x∈ns
def TabAt(H:Hp) (P:Ψ) (q:Str):Prop:=∃ps,H P=ζ (.cD ps)/\abE ps.toList/\∀pos cv,codeAmong pos ps.toList=ζ cv->∃c,cv=.ref c/\H c=ζ (.ext (pK c q))
def p7(K:ξ) (H:Hp):Prop:=∀x∈o5,∀c P,PySem.W.tabIn K x=ζ (c,P)->TabAt H P (xV x)
theorem iN.mono{H H':Hp}{cl:List (Str×Ψ)}:∀{ns:List Str}{xs:List V},(∀c o,H c=ζ (.cB o (.own 0))->H' c=ζ (.cB o (.own 0)))->iN H cl ns xs->iN H' cl ns xs
 |[],_,_,h=>h
 |x::ns,xs,k,h=>by
  obtain⟨v,r,c,oc,u,e,h0,h1,h2,h3,h4⟩:=h;exact⟨v,r,c,oc,u,e,h0,k _ _ h1,h2,h3,iN.mono k h4⟩
theorem iN.get{H:Hp}{cl:List (Str×Ψ)}:∀{ns:List Str}{xs:List V}{i:Nat}{x:Str},iN H cl ns xs->ns[i]? = ζ x->∃v c oc u,xs[i]? = ζ v/\cl.lookup x=ζ c/\H c=ζ (.cB oc (.own 0))/\oc.data=.cell (ζ u)/\RelV v u
 |[],_,_,_,_,e=>by cases e
 |_::ns,xs,0,_,h,e=>by
  obtain⟨v,r,c,oc,u,rfl,h0,h1,h2,h3,h4⟩:=h;cases e;exact⟨v,c,oc,u,rfl,h0,h1,h2,h3⟩
 |_::ns,xs,i+1,x,h,e=>by
  obtain⟨v,r,c,oc,u,rfl,h0,h1,h2,h3,h4⟩:=h;exact iN.get (i:=i) h4 e
theorem iN.length{H:Hp}{cl:List (Str×Ψ)}:∀{ns:List Str}{xs:List V},iN H cl ns xs->xs.length=ns.length
 |[],xs,h=>by cases(show xs=[]from h);rfl
 |_::ns,xs,h=>by
  obtain⟨v,r,c,oc,u,rfl,h0,h1,h2,h3,h4⟩:=h;simp[iN.length h4]
theorem TabAt.mono{H H':Hp}{P:Ψ}{q:Str}(h:TabAt H P q) (k1:∀ps,H P=ζ (.cD ps)->H' P=ζ (.cD ps)) (k2:∀c φ,H c=ζ (.ext φ)->H' c=ζ (.ext φ)):TabAt H' P q:=by
 obtain⟨ps,h1,h2,h3⟩:=h;exact⟨ps,k1 ps h1,h2,λpos cv e=>let⟨c,e1,e2⟩:=h3 pos cv e;⟨c,e1,k2 _ _ e2⟩⟩
theorem p7.mono{K:ξ}{H H':Hp}(h:p7 K H) (k1:∀P ps,H P=ζ (.cD ps)->H' P=ζ (.cD ps)) (k2:∀c φ,H c=ζ (.ext φ)->H' c=ζ (.ext φ)):p7 K H':=λx hx c P e=>(h x hx c P e).mono (k1 P) k2
def p8(K:ξ) (ρ:List Ψ) (H:Hp) (a:Ψ) (xs:List V):Prop:=(Rd H a (.lst xs)/\a∉ρ)\/bY K (λ_=>η) a xs
mutual
def Rel(K:ξ) (ρ:List Ψ) (H:Hp):D->V->Prop
 |.aI,v=>v=.aI
 |.bl b,v=>v=.bl b
 |.int i,v=>v=.int i
 |.str x,v=>v=.str x
 |.ty n,v=>v=.ty n
 |.tup l,v=>∃a xs,v=.ref a/\H a=ζ (.tup xs)/\aH K ρ H l xs
 |.lst l,v=>∃a xs,v=.ref a/\(H a=ζ (.lst xs)/\a∉ρ)/\aH K ρ H l xs
 |.ref k,v=>∃a,v=.ref a/\ρ[k]? = ζ a
 |.bQ l,v=>∃a,v=.ref a/\p8 K ρ H a (l.map V.int)
 |.fn x n,v=>∃a,v=.ref a/\Ξ K Θ x=ζ (ζ (.ref a))
 |.gK,v=>∃a,v=.ref a/\H a=ζ (.ext (Kq a))
 |.dct ks,v=>∃a kvs,v=.ref a/\H a=ζ (.dT kvs)/\∀p:Int×Int,((kvs.any λkv=>decide (kv.1=[Sum.inl p.1,Sum.inl p.2]))=decide (p∈ks))
 |.exc x,v=>∃a C,v=.ref a/\Ξ K Θ x=ζ (ζ (.ref C))/\H a=ζ (.ext (lA a C))
 |.lam _ e ns l,v=>∃a o q c cl xs,v=.ref a/\H a=ζ (.ext (o4 a o))/\vM e o q c cl/\H c=ζ (.ext (pK c q))/\vR cl ns/\iN H cl ns xs/\aH K ρ H l xs
def aH(K:ξ) (ρ:List Ψ) (H:Hp):List D->List V->Prop
 |[],xs=>xs=[]
 |d::l,xs=>∃x r,xs=x::r/\Rel K ρ H d x/\aH K ρ H l r
end
theorem p8.sql{K:ξ}{ρ:List Ψ}{H:Hp}{a:Ψ}{xs:List V}(h:p8 K ρ H a xs):bY K H a xs:=by
 rcases h with⟨h,_⟩|(h|h)
 ·exact .inl h
 ·rcases h with h|⟨o,h⟩<;>cases h
 ·exact .inr h
def ad8(K:ξ) (ρ:List Ψ) (H:Hp) (a:Ψ):Cell->Prop
 |.lst l=>bL l=Γ/\∃xs,H a=ζ (.lst xs)/\aH K ρ H l xs
structure Wd (K:ξ) (ρ:List Ψ) (H:Hp) (c:List Cell):Prop where
 nd:ρ.Nodup
 len:ρ.length=c.length
 ff:∀(k:Nat) (a:Ψ) (cl:Cell),ρ[k]? = ζ a->c[k]? = ζ cl->ad8 K ρ H a cl
 tab:p7 K H
structure Ext (ρ:List Ψ) (H:Hp) (ρ':List Ψ) (H':Hp):Prop where
 pre:∀(k:Nat) (a:Ψ),ρ[k]? = ζ a->ρ'[k]? = ζ a
 keep:∀a o,H a=ζ o->a∉ρ->u6 o=θ->H' a=ζ o/\a∉ρ'
theorem Ext.refl{ρ:List Ψ}{H:Hp}:Ext ρ H ρ H:=⟨λ_ _ h=>h,λ_ _ h n _=>⟨h,n⟩⟩
theorem Ext.trans{ρ aG cz:List Ψ}{H H1 H2:Hp}(x:Ext ρ H aG H1) (y:Ext aG H1 cz H2):Ext ρ H cz H2 :=
 ⟨λk a h=>y.pre k a (x.pre k a h),λa o h n t=>let⟨h1,n1⟩:=x.keep a o h n t;y.keep a o h1 n1 t⟩
section
variable {K:ξ}{ρ ρ':List Ψ}{H H':Hp}{c c':List Cell}
theorem Wd.at'(W:Wd K ρ H c) {a:Ψ}(h:a∈ρ):∃xs,H a=ζ (.lst xs):=by
 obtain⟨k,hk,e⟩:=ag5.mp h;have hc:k<c.length:=by rw[<-W.len];exact hk
 have q:=W.ff k a c[k] (by rw[af2 hk,e]) (af2 hc)
 cases hcl:c[k]with
 |lst l=>rw[hcl]at q;obtain⟨_,xs,h,_⟩:=q;exact⟨xs,h⟩
theorem Wd.V9(W:Wd K ρ H c) {a:Ψ}{xs:List V}(h:H a=ζ (.tup xs)):a∉ρ:=λm=>by
 obtain⟨ys,e⟩:=W.at' m;rw[e]at h;cases h
theorem Wd.nil(W:Wd K ρ H c) {a:Ψ}(h:H a=η):a∉ρ:=λm=>by
 obtain⟨ys,e⟩:=W.at' m;rw[e]at h;cases h
theorem Af(W:Wd K ρ H c) (x:Ext ρ H ρ' H') {a:Ψ}{xs:List V}(h:H a=ζ (.tup xs)):H' a=ζ (.tup xs):=(x.keep a _ h (W.V9 h) rfl).1
theorem II(x:Ext ρ H ρ' H') {a:Ψ}{xs:List V}(h:H a=ζ (.lst xs)/\a∉ρ):H' a=ζ (.lst xs)/\a∉ρ':=x.keep a _ h.1 h.2 rfl
theorem Gv(x:Ext ρ H ρ' H') {a:Ψ}{xs:List V}(h:p8 K ρ H a xs):p8 K ρ' H' a xs:=by
 rcases h with⟨h,n⟩|h
 ·rcases h with h|⟨o,h⟩
  ·exact .inl ⟨.inl (x.keep a _ h n rfl).1,(x.keep a _ h n rfl).2⟩
  ·exact .inl ⟨.inr ⟨o,(x.keep a _ h n rfl).1⟩,(x.keep a _ h n rfl).2⟩
 ·exact .inr h
mutual
theorem Rel.mono(W:Wd K ρ H c) (x:Ext ρ H ρ' H'):∀(d:D) (v:V),Rel K ρ H d v->Rel K ρ' H' d v
 |.aI,v,h=>h
 |.bl b,v,h=>h
 |.int i,v,h=>h
 |.str y,v,h=>h
 |.ty n,v,h=>h
 |.tup l,v,h=>by
  obtain⟨a,xs,e,s,r⟩:=h;exact⟨a,xs,e,Af W x s,aH.mono W x l xs r⟩
 |.lst l,v,h=>by
  obtain⟨a,xs,e,s,r⟩:=h;exact⟨a,xs,e,II x s,aH.mono W x l xs r⟩
 |.ref k,v,h=>by
  obtain⟨a,e,s⟩:=h;exact⟨a,e,x.pre k a s⟩
 |.bQ l,v,h=>by
  obtain⟨a,e,s⟩:=h;exact⟨a,e,Gv x s⟩
 |.fn a n,v,h=>h
 |.gK,v,h=>by
  obtain⟨a,e,q⟩:=h;exact⟨a,e,(x.keep a _ q (λm=>by obtain⟨ys,z⟩:=W.at' m;rw[z]at q;cases q) rfl).1⟩
 |.dct ks,v,h=>by
  obtain⟨a,kvs,e,q,z⟩:=h;exact⟨a,kvs,e,(x.keep a _ q (λm=>by obtain⟨ys,z⟩:=W.at' m;rw[z]at q;cases q) rfl).1,z⟩
 |.exc y,v,h=>by
  obtain⟨a,C,e,n,q⟩:=h;exact⟨a,C,e,n,(x.keep a _ q (λm=>by obtain⟨ys,z⟩:=W.at' m;rw[z]at q;cases q) rfl).1⟩
 |.lam _ y ns l,v,h=>by
  obtain⟨a,o,q,c,cl,xs,e,h1,h2,h3,h4,h5,h6⟩:=h;have nr:∀(b:Ψ) (u:HO),H b=ζ u->(∀ys,u≠.lst ys)->b∉ρ:=λb u q n m=>by obtain⟨ys,z⟩:=W.at' m;rw[z]at q;exact n ys (agb q).symm
  exact⟨a,o,q,c,cl,xs,e,(x.keep a _ h1 (nr a _ h1 λ_ z=>nomatch z) rfl).1,h2,(x.keep c _ h3 (nr c _ h3 λ_ z=>nomatch z) rfl).1,h4,h5.mono (λb o z=>(x.keep b _ z (nr b _ z λ_ z=>nomatch z) rfl).1),aH.mono W x l xs h6⟩
theorem aH.mono(W:Wd K ρ H c) (x:Ext ρ H ρ' H'):∀(l:List D) (xs:List V),aH K ρ H l xs->aH K ρ' H' l xs
 |[],xs,h=>h
 |d::l,xs,h=>by
  obtain⟨y,r,e,h1,h2⟩:=h;exact⟨y,r,e,Rel.mono W x d y h1,aH.mono W x l r h2⟩
end
theorem aH.length:∀{l:List D}{xs:List V},aH K ρ H l xs->xs.length=l.length
 |[],xs,h=>by cases(show xs=[]from h);rfl
 |d::l,xs,h=>by
  obtain⟨y,r,rfl,h1,h2⟩:=h;simp only[af1,aH.length h2]
theorem aH.get:∀{l:List D}{xs:List V}{i:Nat}{d:D},aH K ρ H l xs->l[i]? = ζ d->∃x,xs[i]? = ζ x/\Rel K ρ H d x
 |[],_,_,_,_,e=>by cases e
 |_::l,_,0,_,h,e=>by
  obtain⟨y,r,rfl,h1,h2⟩:=h;cases e;exact⟨y,rfl,h1⟩
 |_::l,_,i+1,_,h,e=>by
  obtain⟨y,r,rfl,h1,h2⟩:=h;exact aH.get (i:=i) h2 e
theorem aH.append:∀{l m:List D}{xs ys:List V},aH K ρ H l xs->aH K ρ H m ys->aH K ρ H (l++m) (xs++ys)
 |[],m,xs,ys,h,g=>by cases(show xs=[]from h);exact g
 |d::l,m,xs,ys,h,g=>by
  obtain⟨y,r,rfl,h1,h2⟩:=h;exact⟨y,r++ys,rfl,h1,aH.append h2 g⟩
theorem aH.set:∀{l:List D}{xs:List V}{d:D}{x:V}(i:Nat),aH K ρ H l xs->Rel K ρ H d x->aH K ρ H (l.set i d) (xs.set i x)
 |[],xs,d,x,i,h,g=>by cases(show xs=[]from h);exact rfl
 |b::l,xs,d,x,0,h,g=>by
  obtain⟨y,r,rfl,h1,h2⟩:=h;exact⟨x,r,rfl,g,h2⟩
 |b::l,xs,d,x,i+1,h,g=>by
  obtain⟨y,r,rfl,h1,h2⟩:=h;exact⟨y,r.set i x,rfl,h1,aH.set i h2 g⟩
theorem aH.take:∀{l:List D}{xs:List V}(n:Nat),aH K ρ H l xs->aH K ρ H (l.take n) (xs.take n)
 |l,xs,0,h=>by simp only[List.take_zero];exact rfl
 |[],xs,n+1,h=>by cases(show xs=[]from h);exact rfl
 |d::l,xs,n+1,h=>by
  obtain⟨y,r,rfl,h1,h2⟩:=h;exact⟨y,r.take n,rfl,h1,aH.take n h2⟩
theorem aH.drop:∀{l:List D}{xs:List V}(n:Nat),aH K ρ H l xs->aH K ρ H (l.drop n) (xs.drop n)
 |l,xs,0,h=>h
 |[],xs,n+1,h=>by cases(show xs=[]from h);exact rfl
 |d::l,xs,n+1,h=>by
  obtain⟨y,r,rfl,h1,h2⟩:=h;exact aH.drop n h2
theorem aH.ints{l:List Int}:aH K ρ H (l.map D.int) (l.map V.int):=by
 induction l with
 |nil=>exact rfl
 |cons a l ih=>exact⟨_,_,rfl,rfl,ih⟩
theorem aH.Jk:∀{l:List Int}{xs:List V},aH K ρ H (l.map D.int) xs->xs=l.map V.int
 |[],xs,h=>h
 |a::l,xs,h=>by
  obtain⟨y,r,rfl,h1,h2⟩:=h;cases(show y=V.int a from h1)
  rw[aH.Jk h2];rfl
theorem aH.EH:∀{l:List Bool}{xs:List V},aH K ρ H (l.map D.bl) xs->xs=l.map V.bl
 |[],xs,h=>h
 |a::l,xs,h=>by
  obtain⟨y,r,rfl,h1,h2⟩:=h;cases(show y=V.bl a from h1)
  rw[aH.EH h2];rfl
theorem Ext.fresh{p:Ψ}{o:HO}(W:Wd K ρ H c) (h:H p=η):Ext ρ H ρ (upd H p o) :=
 ⟨λ_ _ e=>e,λa u e n _=>⟨by rw[bz (cX e h)];exact e,n⟩⟩
theorem Wd.fresh{p:Ψ}{o:HO}(W:Wd K ρ H c) (h:H p=η):Wd K ρ (upd H p o) c :=
 ⟨W.nd,W.len,λk a cl e1 e2=>by
  have q:=W.ff k a cl e1 e2;cases cl with
  |lst l =>
   obtain⟨nr,xs,e,r⟩:=q;exact⟨nr,xs,by rw[bz (cX e h)];exact e,aH.mono W (Ext.fresh W h) l xs r⟩,
  W.tab.mono (λP ps e=>by rw[bz (cX e h)];exact e) (λb φ e=>by rw[bz (cX e h)];exact e)⟩
theorem Ext.cell{p:Ψ}{o:HO}(W:Wd K ρ H c) (h:H p=η):Ext ρ H (ρ++[p]) (upd H p o) :=
 ⟨λk a e=>by rw[agC (af6.mp e).1];exact e,λa u e n _=>⟨by rw[bz (cX e h)];exact e,by
  rw[agm]
  rintro (z|z)
  ·exact n z
  ·exact cX e h (by simpa using z)⟩⟩
theorem Wd.cell{p:Ψ}{l:List D}{xs:List V}(W:Wd K ρ H c) (h:H p=η) (nr:bL l=Γ) (r:aH K ρ H l xs):Wd K (ρ++[p]) (upd H p (.lst xs)) (c++[.lst l]):=by
 have X:=Ext.cell (o:=.lst xs) W h;refine⟨?_,by simp[W.len],λk a cl e1 e2=>?_,W.tab.mono (λP ps e=>by rw[bz (cX e h)];exact e) (λb φ e=>by rw[bz (cX e h)];exact e)⟩
 ·rw[ah6];refine⟨W.nd,by simp,?_⟩
  intro a ha b hb;rw[agn]at hb;subst hb;exact λz=>W.nil h (z▸ha)
 ·by_cases hk:k<c.length
  ·rw[agC hk]at e2;rw[agC (by rw[W.len];exact hk)]at e1
   have q:=W.ff k a cl e1 e2;cases cl with
   |lst l' =>
    obtain⟨j7,ys,e,r'⟩:=q;exact⟨j7,ys,by rw[bz (cX e h)];exact e,aH.mono W X l' ys r'⟩
  ·have hk':k=c.length:=by
    have:=(af6.mp e2).1;simp at this;omega
   subst hk';rw[agG (afU _),ahN]at e2;rw[agG (by rw[W.len];exact afU _),W.len,ahN]at e1
   cases e1;cases e2;exact⟨nr,xs,gw,aH.mono W X l xs r⟩
theorem Ext.write{k:Nat}{p:Ψ}{o:HO}(h:ρ[k]? = ζ p):Ext ρ H ρ (upd H p o) :=
 ⟨λ_ _ e=>e,λa u e n _=>⟨by rw[bz (λz=>n (by rw[z];exact agk h))];exact e,n⟩⟩
theorem Wd.write{k:Nat}{p:Ψ}{l:List D}{xs:List V}(W:Wd K ρ H c) (h:ρ[k]? = ζ p) (nr:bL l=Γ) (r:aH K ρ H l xs):Wd K ρ (upd H p (.lst xs)) (c.set k (.lst l)):=by
 have X:=Ext.write (H:=H) (o:=.lst xs) h;obtain⟨ys,hy⟩:=W.at' (agk h);refine⟨W.nd,by simp[W.len],λj a cl e1 e2=>?_,W.tab.mono (λP ps e=>by rw[bz (AW e hy λz=>nomatch z)];exact e) (λb φ e=>by rw[bz (AW e hy λz=>nomatch z)];exact e)⟩
 by_cases hj:j=k
 ·subst hj;rw[h]at e1;cases e1;have hl:j<c.length:=by rw[<-W.len];exact(af6.mp h).1
  rw[agI hl]at e2;cases e2;exact⟨nr,xs,gw,aH.mono W X l xs r⟩
 ·rw[agU (agz hj)]at e2;have q:=W.ff j a cl e1 e2;have hap:a≠p:=by
   intro e;subst e;have h1:=(af6.mp h);have h2:=(af6.mp e1);exact hj ((ahB W.nd (h₀:=h2.1) (h₁:=h1.1)).mp (h2.2.trans h1.2.symm))
  cases cl with
  |lst l' =>
   obtain⟨j7,ys,e,r'⟩:=q;exact⟨j7,ys,by rw[bz hap];exact e,aH.mono W X l' ys r'⟩
mutual
theorem Rel.low(h:∀a,a∈ρ'->a∈ρ):∀(d:D) (v:V),noRef d=Γ->Rel K ρ H d v->Rel K ρ' H d v
 |.aI,v,_,r=>r
 |.bl b,v,_,r=>r
 |.int i,v,_,r=>r
 |.str y,v,_,r=>r
 |.ty n,v,_,r=>r
 |.tup l,v,n,r=>by
  obtain⟨a,xs,e,s,r⟩:=r;exact⟨a,xs,e,s,aH.low h l xs n r⟩
 |.lst l,v,n,r=>by
  obtain⟨a,xs,e,s,r⟩:=r;exact⟨a,xs,e,⟨s.1,λq=>s.2 (h a q)⟩,aH.low h l xs n r⟩
 |.ref k,v,n,r=>by cases n
 |.bQ l,v,n,r=>by
  obtain⟨a,e,s⟩:=r;refine⟨a,e,?_⟩
  rcases s with⟨s,z⟩|s
  ·exact .inl ⟨s,λq=>z (h a q)⟩
  ·exact .inr s
 |.fn a m,v,n,r=>r
 |.exc y,v,n,r=>r
 |.gK,v,n,r=>r
 |.dct _,v,n,r=>r
 |.lam _ _ _ _,v,n,r=>by cases n
theorem aH.low(h:∀a,a∈ρ'->a∈ρ):∀(l:List D) (xs:List V),bL l=Γ->aH K ρ H l xs->aH K ρ' H l xs
 |[],xs,_,r=>r
 |d::l,xs,n,r=>by
  obtain⟨y,ys,e,h1,h2⟩:=r;have n:(noRef d&&bL l)=Γ:=n;rw[af5]at n;exact⟨y,ys,e,Rel.low h d y n.1 h1,aH.low h l ys n.2 h2⟩
end
theorem Wd.cut{n:Nat}(W:Wd K ρ H c) (hn:n<=c.length):Wd K (ρ.take n) H (c.take n):=by
 have sub:∀a,a∈ρ.take n->a∈ρ:=λa h=>agt h
 refine⟨W.nd.sublist (aix _ _),by simp[W.len],λk a cl e1 e2=>?_,W.tab⟩
 rw[ah7]at e1 e2;split at e1
 ·rename_i hk;rw[if_pos hk]at e2;have q:=W.ff k a cl e1 e2;cases cl with
  |lst l =>
   obtain⟨nr,xs,e,r⟩:=q;exact⟨nr,xs,e,aH.low sub l xs nr r⟩
 ·cases e1
theorem Ext.cut{n:Nat}(x:Ext ρ H ρ' H') (hn:ρ.length<=n):Ext ρ H (ρ'.take n) H' :=
 ⟨λk a e=>by rw[ah7,if_pos (af3 (af6.mp e).1 hn)];exact x.pre k a e,λa o e z t=>let⟨h1,h2⟩:=x.keep a o e z t;⟨h1,λq=>h2 (agt q)⟩⟩
theorem Ext.len(W:Wd K ρ H c) (W':Wd K ρ' H' c') (x:Ext ρ H ρ' H'):c.length<=c'.length:=by
 rw[<-W.len,<-W'.len]
 by_cases h:ρ.length<=ρ'.length
 ·exact h
 ·exfalso;have h':ρ'.length<ρ.length:=Nat.lt_of_not_le h;have e:=x.pre ρ'.length ρ[ρ'.length] (af2 h');rw[ahe (afU _)]at e;cases e
end
abbrev Ev:=List (Option D)
def post{α β:Type}(K:ξ) (Rl:List Ψ->Hp->α->β->Prop) (r:R α) (ρ:List Ψ) (H:Hp) (Q:β->Hp->Prop):Prop:=match r with
 |.ok a c=>∀ρ' H' b,Wd K ρ' H' c->Ext ρ H ρ' H'->Rl ρ' H' a b->Q b H'
 |.bad=>False
structure c9 (K:ξ) (ρ:List Ψ) (H:Hp) (e:Ev) (σ:St):Prop where
 get:∀(i:Nat) (d:D),e[i]? = ζ (ζ d)->∃v,σ[i]? = ζ (ζ v)/\Rel K ρ H d v
 len:e.length=σ.length
def tD{α β:Type}(K:ξ) (Rl:List Ψ->Hp->α->β->Prop) (d:Ev->List Cell->R α):St->Hp->(β->Hp->Prop)->Prop :=
 λσ H Q=>∃ρ e c,Wd K ρ H c/\c9 K ρ H e σ/\post K Rl (d e c) ρ H Q
section
variable {α β γ δ:Type}{K:ξ}{ρ ρ':List Ψ}{H H':Hp}{c:List Cell}{e:Ev}{σ:St}{Rl:List Ψ->Hp->α->β->Prop}{Rm:List Ψ->Hp->γ->δ->Prop}
theorem c9.mono(V:c9 K ρ H e σ) (W:Wd K ρ H c) (x:Ext ρ H ρ' H'):c9 K ρ' H' e σ :=
 ⟨λi d h=>let⟨v,h1,h2⟩:=V.get i d h;⟨v,h1,Rel.mono W x d v h2⟩,V.len⟩
theorem c9.set(V:c9 K ρ H e σ) {d:D}{v:L2.V}(r:Rel K ρ H d v) (i:Nat):c9 K ρ H (e.set i (ζ d)) (σ.set i (ζ v)):=by
 refine⟨λj b h=>?_,by simp[V.len]⟩
 by_cases hj:j=i
 ·subst hj;have hl:j<e.length:=by
   have:=(af6.mp h).1
   simpa using this
  rw[agI hl]at h;cases h;exact⟨v,by rw[agI (by rw[<-V.len];exact hl)],r⟩
 ·rw[agU (agz hj)]at h ⊢;exact V.get j b h
theorem post.ext{r:R α}{Q:β->Hp->Prop}(p:post K Rl r ρ H Q) (x:Ext ρ H ρ' H'):post K Rl r ρ' H' Q:=by
 cases r with
 |ok a c=>exact λcz H2 b W y r=>p cz H2 b W (x.trans y) r
 |bad=>exact p
theorem post.mono{r:R α}{Q Q':β->Hp->Prop}(p:post K Rl r ρ H Q) (h:∀b H,Q b H->Q' b H):post K Rl r ρ H Q':=by
 cases r with
 |ok a c=>exact λcz H2 b W y r=>h _ _ (p cz H2 b W y r)
 |bad=>exact p
theorem post.bind{r:R α}{f:α->List Cell->R γ}{Q:δ->Hp->Prop}{S:β->Hp->Prop}(p:post K Rm (r.bind f) ρ H Q)
  (h:∀a c1 ρ' H' b,r=.ok a c1->Wd K ρ' H' c1->Ext ρ H ρ' H'->Rl ρ' H' a b->post K Rm (f a c1) ρ' H' Q->S b H'):post K Rl r ρ H S:=by
 cases r with
 |ok a c1=>exact λρ' H' b W x r=>h a c1 ρ' H' b rfl W x r (post.ext (r:=f a c1) p x)
 |bad=>exact p
theorem post.here{a:α}{b:β}{Q:β->Hp->Prop}(p:post K Rl (.ok a c) ρ H Q) (W:Wd K ρ H c) (r:Rl ρ H a b):Q b H:=p ρ H b W Ext.refl r
end
abbrev aW(X:Cx) (e:ο) (d:Ev->List Cell->R D):Prop:=PE X e (tD X.K (Rel X.K) d)
abbrev jq(X:Cx) (e:ο) (d:Ev->List Cell->R Bool):Prop:=PT X e (tD X.K (λ_ _ a b=>a=b) d)
abbrev tQ(X:Cx) (e:ο) (d:Ev->List Cell->R Bool):Prop:=PW X e (tD X.K (λ_ _ a b=>a=b) d)
abbrev gX(X:Cx) (es:List ο) (d:Ev->List Cell->R (List D)):Prop:=PA X es (tD X.K (aH X.K) d)
section
variable {X:Cx}{e:ο}{es:List ο}{st:aag}{sts:List aag}
theorem PE.imp{t t':TE}(h:PE X e t) (i:∀σ H Q,t' σ H Q->t σ H Q):PE X e t':=λpins s σ H Q I q=>h pins s σ H Q I (i _ _ _ q)
theorem PT.imp{t t':TT}(h:PT X e t) (i:∀σ H Q,t' σ H Q->t σ H Q):PT X e t':=λpins s σ H Q I q=>h pins s σ H Q I (i _ _ _ q)
theorem PW.imp{t t':TT}(h:PW X e t) (i:∀σ H Q,t' σ H Q->t σ H Q):PW X e t':=λwh pins s σ H Q I q=>h wh pins s σ H Q I (i _ _ _ q)
theorem PA.imp{t t':TA}(h:PA X es t) (i:∀σ H Q,t' σ H Q->t σ H Q):PA X es t':=λpos pins s σ H Q I q=>h pos pins s σ H Q I (i _ _ _ q)
theorem PS.imp{t t':TS}(h:PS X st t) (i:∀D σ H,t' D σ H->t D σ H):PS X st t':=λpins s σ H D I q=>h pins s σ H D I (i _ _ _ q)
theorem eT.imp{t t':TS}(h:eT X sts t) (i:∀D σ H,t' D σ H->t D σ H):eT X sts t':=λpins s σ H D I q=>h pins s σ H D I (i _ _ _ q)
end
def ak(i:Nat):Ev->List Cell->R D:=λe c=>match e[i]? with
 |some (ζ d)=>.ok d c
 |_=>.bad
def dC(d:D):Ev->List Cell->R D:=λ_ c=>.ok d c
section
variable {X:Cx}
theorem av(i:Nat) {x:Str}{pos:Pos}(hN:X.N[i]? = ζ x:=by rfl) (hv:vH X.env.scope x:=by first|exact Or.inl rfl|exact Or.inr (Or.inl rfl)|exact Or.inr (Or.inr rfl)) (hd:(x==("__debug__":Str))=θ:=by decide)
  (hcd:(x==("__classdict__":Str))=θ:=by decide):aW X (.Name x pos) (ak i):=(AH hN hv hd hcd).imp λσ H Q h=>by
 obtain⟨ρ,e,c,W,V,p⟩:=h;unfold ak at p;cases q:e[i]? with
 |none=>rw[q]at p;exact p.elim
 |some o =>
  rw[q]at p;cases o with
  |none=>exact p.elim
  |some d =>
   obtain⟨v,hv,r⟩:=V.get i d q;exact⟨v,hv,p.here W r⟩
theorem ou{e:ο}{v:V}{d:D}(h:PE X e (tC v)) (r:∀ρ H,Rel X.K ρ H d v):aW X e (dC d):=h.imp λσ H Q h=>by
 obtain⟨ρ,e,c,W,V,p⟩:=h;exact post.here (r:=r ρ H) p W
theorem aJ{i j pos}:aW X (.Constant (.int i) j pos) (dC (.int i)):=ou AJ λ_ _=>rfl
theorem dZ{b j pos}:aW X (.Constant (.bool b) j pos) (dC (.bl b)):=ou AK λ_ _=>rfl
theorem uM{j pos}:aW X (.Constant .none j pos) (dC .aI):=ou S0 λ_ _=>rfl
theorem fD{x j pos}:aW X (.Constant (.str x) j pos) (dC (.str x)):=ou SS λ_ _=>rfl
theorem jd{x:Str}{n:String}{pos:Pos}(hg:Gl X x) (hm:X.mg x=η) (hv:bootBuiltins x=ζ (.type n)) (hn:x≠"__name__":=by decide) (hd:(x==("__debug__":Str))=θ:=by decide):aW X (.Name x pos) (dC (.ty n)):=ou (SR hg hm hv hn hd) λ_ _=>rfl
theorem Tg{x:Str}{i:Int}{t:Tok}{pos:Pos}(hg:Gl X x) (hm:X.mg x=ζ (.int i t)) (hd:(x==("__debug__":Str))=θ:=by decide):aW X (.Name x pos) (dC (.int i)):=ou (Hl (v:=.int i) hg hm ⟨t,rfl⟩ hd) λ_ _=>rfl
end
end L2
namespace L2
open PySem PySem.Spec PyProof.Rows
def ay(f:D->D->List Cell->R D) (a b:Ev->List Cell->R D):Ev->List Cell->R D:=λe c=>(a e c).bind λx c=>(b e c).bind λy c=>f x y c
def iI(f:D->List Cell->R D) (a:Ev->List Cell->R D):Ev->List Cell->R D:=λe c=>(a e c).bind λx c=>f x c
def r2(K:ξ) (f:D->D->List Cell->R D):R2:=λv u H Q=>∃ρ x y c,Wd K ρ H c/\Rel K ρ H x v/\Rel K ρ H y u/\post K (Rel K) (f x y c) ρ H Q
def r1(K:ξ) (f:D->List Cell->R D):V->Hp->VK->Prop:=λv H Q=>∃ρ x c,Wd K ρ H c/\Rel K ρ H x v/\post K (Rel K) (f x c) ρ H Q
def rN(K:ξ) (f:List D->List Cell->R D):List V->Hp->VK->Prop:=λvs H Q=>∃ρ xs c,Wd K ρ H c/\aH K ρ H xs vs/\post K (Rel K) (f xs c) ρ H Q
def aF(f:List D->List Cell->R D) (a:Ev->List Cell->R (List D)):Ev->List Cell->R D:=λe c=>(a e c).bind λxs c=>f xs c
section
variable {X:Cx}{a b:ο}{da db dd:Ev->List Cell->R D}{pos:Pos}{K:ξ}{σ:St}{H:Hp}{Q:VK}{f:D->D->List Cell->R D}
theorem wu(h:tD K (Rel K) (ay f da db) σ H Q):tD K (Rel K) da σ H λv H1=>tD K (Rel K) db σ H1 λu H2=>r2 K f v u H2 Q:=by
 obtain⟨ρ,e,c,W,V,p⟩:=h;refine⟨ρ,e,c,W,V,post.bind p λx c1 aG H1 v _ W1 X1 r1 p1=>⟨aG,e,c1,W1,V.mono W X1,post.bind p1 λy c2 cz H2 u _ W2 X2 r2 p2=>⟨cz,x,y,c2,W2,Rel.mono W1 X2 _ _ r1,r2,p2⟩⟩⟩
theorem Oh{g:D->List Cell->R D}(h:tD K (Rel K) (iI g da) σ H Q):tD K (Rel K) da σ H λv H1=>r1 K g v H1 Q:=by
 obtain⟨ρ,e,c,W,V,p⟩:=h;exact⟨ρ,e,c,W,V,post.bind p λx c1 aG H1 v _ W1 X1 r1 p1=>⟨aG,x,c1,W1,r1,p1⟩⟩
theorem F7{g:List D->List Cell->R D}{ds:Ev->List Cell->R (List D)}(h:tD K (Rel K) (aF g ds) σ H Q):tD K (aH K) ds σ H λvs H1=>rN K g vs H1 Q:=by
 obtain⟨ρ,e,c,W,V,p⟩:=h;exact⟨ρ,e,c,W,V,post.bind p λx c1 aG H1 v _ W1 X1 r1 p1=>⟨aG,x,c1,W1,r1,p1⟩⟩
theorem bu{op:Operator}(ho:bK X (binaryOp op) (r2 X.K f)) (ha:aW X a da) (hb:aW X b db):aW X (.BinOp a op b pos) (ay f da db):=(SW ho ha hb).imp λσ H Q h=>wu h
theorem kP{op:CmpOp}(ho:bK X (compareOp op) (r2 X.K f)) (ha:aW X a da) (hb:aW X b db) (hm:behindInMarks op b=θ:=by first|exact HP _|rfl):aW X (.Compare a [op] [b] pos) (ay f da db):=(S5 ho ha hb hm).imp λσ H Q h=>wu h
theorem wW{op:UnaryOp}{g:D->List Cell->R D}(ho:vI X (unaryOp op) (r1 X.K g)) (ha:aW X a da):aW X (.UnaryOp op a pos) (iI g da):=(SQ ho ha).imp λσ H Q h=>Oh h
theorem cF(hr:vO X (r2 X.K f)) (ha:aW X a da) (hb:aW X b db) (hs:LH b:=by exact λ_ _=>rfl):aW X (.Subscript a b pos) (ay f da db):=(AI hr ha hb hs).imp λσ H Q h=>wu h
def iJ(f g:D->D->List Cell->R D) (a b d:Ev->List Cell->R D):Ev->List Cell->R D:=λe c=>(a e c).bind λx c=>(b e c).bind λy c=>(f x y c).bind λz c=>match z with
 |.bl Γ=>(d e c).bind λu c=>g y u c
 |.bl θ=>.ok (.bl θ) c
 |_=>.bad
end
def aq:Ev->List Cell->R (List D):=λ_ c=>.ok [] c
def ao(a:Ev->List Cell->R D) (r:Ev->List Cell->R (List D)):Ev->List Cell->R (List D):=λe c=>(a e c).bind λx c=>(r e c).bind λxs c=>.ok (x::xs) c
def aU(a:Ev->List Cell->R (List D)):Ev->List Cell->R D:=λe c=>(a e c).bind λxs c=>if xs.length<=ε then .ok (.tup xs) c else .bad
def bT(a:Ev->List Cell->R (List D)):Ev->List Cell->R D:=λe c=>(a e c).bind λxs c=>if xs.length<=ε then .ok (.lst xs) c else .bad
def fU(a:Ev->List Cell->R (List D)):Ev->List Cell->R D:=λe c=>(a e c).bind λxs c=>if xs.length<=ε/\bL xs=Γ then .ok (.ref c.length) (c++[.lst xs])else .bad
section
variable {X:Cx}{a:ο}{es:List ο}{da:Ev->List Cell->R D}{ds:Ev->List Cell->R (List D)}{pos:Pos}{K:ξ}{ρ:List Ψ}{H:Hp}{c:List Cell}{Q:VK}{xs:List D}{vs:List V}
theorem aB:gX X [] aq:=kQ.imp λσ H Q h=>by
 obtain⟨ρ,e,c,W,V,p⟩:=h;exact post.here (b:=[]) p W rfl
theorem au(ha:aW X a da) (hr:gX X es ds) (hs:μ (a::es) X.env=(θ,eval a X.env)::μ es X.env:=by exact cj rfl):gX X (a::es) (ao da ds):=(je ha hr hs).imp λσ H Q h=>by
 obtain⟨ρ,e,c,W,V,p⟩:=h;refine⟨ρ,e,c,W,V,post.bind p λx c1 aG H1 v _ W1 X1 r1 p1=>⟨aG,e,c1,W1,V.mono W X1,post.bind p1 λy c2 cz H2 u _ W2 X2 r2 p2=>?_⟩⟩
 exact p2.here W2 ⟨v,u,rfl,Rel.mono W1 X2 _ _ r1,r2⟩
theorem oH(W:Wd K ρ H c) (r:aH K ρ H xs vs) (p:post K (Rel K) (.ok (.tup xs) c) ρ H Q):∀q,H q=η->Q (.ref q) (upd H q (.tup vs)):=λq hq =>
 p ρ _ _ (W.fresh hq) (Ext.fresh W hq) ⟨q,vs,rfl,gw,aH.mono W (Ext.fresh W hq) _ _ r⟩
theorem rO(W:Wd K ρ H c) (r:aH K ρ H xs vs) (p:post K (Rel K) (.ok (.lst xs) c) ρ H Q):∀q,H q=η->Q (.ref q) (upd H q (.lst vs)):=λq hq =>
 p ρ _ _ (W.fresh hq) (Ext.fresh W hq) ⟨q,vs,rfl,⟨gw,W.nil hq⟩,aH.mono W (Ext.fresh W hq) _ _ r⟩
theorem AV(W:Wd K ρ H c) (nr:bL xs=Γ) (r:aH K ρ H xs vs) (p:post K (Rel K) (.ok (.ref c.length) (c++[.lst xs])) ρ H Q):∀q,H q=η->Q (.ref q) (upd H q (.lst vs)):=λq hq =>
 p (ρ++[q]) _ _ (W.cell hq nr r) (Ext.cell W hq) ⟨q,rfl,by rw[agG (by rw[W.len];exact afU _),W.len,ahN];rfl⟩
theorem cO{x1}(h:gX X es ds):aW X (.Tuple es x1 pos) (aU ds):=(Hh h).imp λσ H Q h=>by
 obtain⟨ρ,e,c,W,V,p⟩:=h;refine⟨ρ,e,c,W,V,post.bind p λx c1 aG H1 v _ W1 X1 r1 p1=>?_⟩
 split at p1
 ·rename_i hl;exact⟨by rw[r1.length];exact hl,oH W1 r1 p1⟩
 ·exact p1.elim
theorem fP(h:gX X es ds):aW X (.List es pos) (bT ds):=(Hj h).imp λσ H Q h=>by
 obtain⟨ρ,e,c,W,V,p⟩:=h;refine⟨ρ,e,c,W,V,post.bind p λx c1 aG H1 v _ W1 X1 r1 p1=>?_⟩
 split at p1
 ·rename_i hl;exact⟨by rw[r1.length];exact hl,rO W1 r1 p1⟩
 ·exact p1.elim
theorem oq(h:gX X es ds):aW X (.List es pos) (fU ds):=(Hj h).imp λσ H Q h=>by
 obtain⟨ρ,e,c,W,V,p⟩:=h;refine⟨ρ,e,c,W,V,post.bind p λx c1 aG H1 v _ W1 X1 r1 p1=>?_⟩
 split at p1
 ·rename_i hl;exact⟨by rw[r1.length];exact hl.1,AV W1 hl.2 r1 p1⟩
 ·exact p1.elim
end
def bf:D->D->List Cell->R D:=λx y c=>match x,y with
 |.int i,.int j=>.ok (.int (i+j)) c
 |.str a,.str b=>if a.length+b.length<=ε then .ok (.str (a++b)) c else .bad
 |.tup l,.tup m=>if l.length≠0/\l.length+m.length<=ε then .ok (.tup (l++m)) c else .bad
 |_,_=>.bad
def eV:D->D->List Cell->R D:=λx y c=>match x,y with
 |.int i,.int j=>.ok (.int (i-j)) c
 |_,_=>.bad
def dU:D->D->List Cell->R D:=λx y c=>match x,y with
 |.int i,.int j=>if(-(2^64)<i/\i<2^64)\/(-(2^64)<j/\j<2^64)then .ok (.int (i*j)) c else .bad
 |_,_=>.bad
def eN:D->D->List Cell->R D:=λx y c=>match x,y with
 |.int i,.int j=>if 0<j/\j<1073741824 then .ok (.int (i/j)) c else .bad
 |_,_=>.bad
def cI:D->D->List Cell->R D:=λx y c=>match x,y with
 |.int i,.int j=>if 0<j then .ok (.int (i % j)) c else .bad
 |_,_=>.bad
def rD:D->D->List Cell->R D:=λx y c=>match x,y with
 |.int i,.int j=>if 0<=j/\j<=1000000/\i.natAbs<2^64 then .ok (.int (i^j.toNat)) c else .bad
 |_,_=>.bad
def iE:D->List Cell->R D:=λx c=>match x with
 |.int i=>.ok (.int (-i)) c
 |_=>.bad
def pL(p:Int->Int->Bool):D->D->List Cell->R D:=λx y c=>match x,y with
 |.int i,.int j=>.ok (.bl (p i j)) c
 |_,_=>.bad
section
variable {X:Cx}
theorem dS:bK X (binaryOp .Add) (r2 X.K bf):=by
 intro pins s σ H v u vv uu Q I rv ru h;obtain⟨ρ,x,y,c,W,rx,ry,p⟩:=h;unfold bf at p;split at p
 ·cases rx;cases ry;exact Ub pins s σ H _ _ vv uu Q I rv ru ⟨_,_,rfl,rfl,p.here W rfl⟩
 ·split at p
  ·rename_i hl;cases rx;cases ry;exact Ua pins s σ H _ _ vv uu Q I rv ru ⟨_,_,rfl,rfl,hl,p.here W rfl⟩
  ·exact p.elim
 ·split at p
  ·rename_i hl;obtain⟨a,xs,rfl,sa,ra⟩:=rx;obtain⟨b,ys,rfl,sb,rb⟩:=ry;refine Hy pins s σ H _ _ vv uu Q I rv ru ⟨a,b,xs,ys,rfl,rfl,bU.of sa,bU.of sb,λz=>hl.1 ?_,by rw[ra.length,rb.length];exact hl.2,λz=>?_,λ_=>oH W (ra.append rb) p⟩
   ·rw[<-ra.length,z];rfl
   ·refine p.here W ⟨a,xs++ys,rfl,by rw[z,agW];exact sa,ra.append rb⟩
  ·exact p.elim
 ·exact p.elim
theorem mU:bK X (binaryOp .Sub) (r2 X.K eV):=by
 intro pins s σ H v u vv uu Q I rv ru h;obtain⟨ρ,x,y,c,W,rx,ry,p⟩:=h;unfold eV at p;split at p
 ·cases rx;cases ry;exact TL pins s σ H _ _ vv uu Q I rv ru ⟨_,_,rfl,rfl,p.here W rfl⟩
 ·exact p.elim
theorem oB:bK X (binaryOp .Mult) (r2 X.K dU):=by
 intro pins s σ H v u vv uu Q I rv ru h;obtain⟨ρ,x,y,c,W,rx,ry,p⟩:=h;unfold dU at p;split at p
 ·split at p
  ·rename_i hl;cases rx;cases ry;exact TU pins s σ H _ _ vv uu Q I rv ru ⟨_,_,rfl,rfl,hl,p.here W rfl⟩
  ·exact p.elim
 ·exact p.elim
theorem uP:bK X (binaryOp .FloorDiv) (r2 X.K eN):=by
 intro pins s σ H v u vv uu Q I rv ru h;obtain⟨ρ,x,y,c,W,rx,ry,p⟩:=h;unfold eN at p;split at p
 ·split at p
  ·rename_i hl;cases rx;cases ry;exact T5 pins s σ H _ _ vv uu Q I rv ru ⟨_,_,rfl,rfl,hl,p.here W rfl⟩
  ·exact p.elim
 ·exact p.elim
theorem kT:bK X (binaryOp .Mod) (r2 X.K cI):=by
 intro pins s σ H v u vv uu Q I rv ru h;obtain⟨ρ,x,y,c,W,rx,ry,p⟩:=h;unfold cI at p;split at p
 ·split at p
  ·rename_i hl;cases rx;cases ry;exact TV pins s σ H _ _ vv uu Q I rv ru ⟨_,_,rfl,rfl,hl,p.here W rfl⟩
  ·exact p.elim
 ·exact p.elim
theorem HG:bK X (binaryOp .Pow) (r2 X.K rD):=by
 intro pins s σ H v u vv uu Q I rv ru h;obtain⟨ρ,x,y,c,W,rx,ry,p⟩:=h;unfold rD at p;split at p
 ·split at p
  ·rename_i hl;cases rx;cases ry;exact TQ pins s σ H _ _ vv uu Q I rv ru ⟨_,_,rfl,rfl,hl,p.here W rfl⟩
  ·exact p.elim
 ·exact p.elim
theorem wm:vI X (unaryOp .USub) (r1 X.K iE):=by
 intro pins s σ H v vv Q I rv h;obtain⟨ρ,x,c,W,rx,p⟩:=h;unfold iE at p;split at p
 ·cases rx;exact NU pins s σ H _ vv Q I rv ⟨_,rfl,p.here W rfl⟩
 ·exact p.elim
theorem xD{f:Δ->Δ->Sem Δ}{q:Int->Int->Bool}(h:bK X f (jZ λi j=>.bl (q i j))):bK X f (r2 X.K (pL q)):=by
 intro pins s σ H v u vv uu Q I rv ru hh;obtain⟨ρ,x,y,c,W,rx,ry,p⟩:=hh;unfold pL at p;split at p
 ·cases rx;cases ry;exact h pins s σ H _ _ vv uu Q I rv ru ⟨_,_,rfl,rfl,p.here W rfl⟩
 ·exact p.elim
abbrev fE:=pL λi j=>decide (i<j)
abbrev gT:=pL λi j=>decide (i<=j)
abbrev pC:=pL λi j=>decide (j<i)
abbrev JM:=pL λi j=>decide (j<=i)
theorem rK:bK X (compareOp .Lt) (r2 X.K fE):=xD TX
theorem oE:bK X (compareOp .LtE) (r2 X.K gT):=xD TY
theorem Vj:bK X (compareOp .Gt) (r2 X.K pC):=xD T3
theorem Vk:bK X (compareOp .GtE) (r2 X.K JM):=xD T4
end
def Du:D->D->Option Bool
 |.aI,.aI=>ζ Γ|.aI,.int _=>ζ θ|.int _,.aI=>ζ θ|.aI,.bl _=>ζ θ|.bl _,.aI=>ζ θ|.aI,.str _=>ζ θ|.str _,.aI=>ζ θ
 |.int i,.int j=>ζ (decide (i=j))|.bl a,.bl b=>ζ (decide (a=b))|.str x,.str y=>ζ (decide (x=y))
 |.int _,.str _=>ζ θ|.str _,.int _=>ζ θ|.bl _,.str _=>ζ θ|.str _,.bl _=>ζ θ
 |_,_=>η
def cT:D->D->List Cell->R D:=λx y c=>match Du x y with
 |some b=>.ok (.bl b) c
 |none=>.bad
def eX:D->D->List Cell->R D:=λx y c=>match Du x y with
 |some b=>.ok (.bl (!b)) c
 |none=>.bad
section
variable {X:Cx}{K:ξ}{ρ:List Ψ}{H:Hp}{c:List Cell}
theorem Km{x y:D}{v u:V}{b:Bool}(rx:Rel K ρ H x v) (ry:Rel K ρ H y u) (h:Du x y=ζ b):Ax v u=Γ/\decide (v=u)=b:=by
 cases x<;>cases y<;>first
  |(cases rx;cases ry;cases h;refine⟨rfl,?_⟩;simp;done)
  |(cases h;done)
theorem kU:bK X (compareOp .Eq) (r2 X.K cT):=by
 intro pins s σ H v u vv uu Q I rv ru h;obtain⟨ρ,x,y,c,W,rx,ry,p⟩:=h;unfold cT at p;split at p
 ·rename_i b hb;obtain⟨h1,h2⟩:=Km rx ry hb;exact T6 pins s σ H _ _ vv uu Q I rv ru ⟨h1,by rw[h2];exact p.here W rfl⟩
 ·exact p.elim
theorem kR:bK X (compareOp .NotEq) (r2 X.K eX):=by
 intro pins s σ H v u vv uu Q I rv ru h;obtain⟨ρ,x,y,c,W,rx,ry,p⟩:=h;unfold eX at p;split at p
 ·rename_i b hb;obtain⟨h1,h2⟩:=Km rx ry hb;exact TR pins s σ H _ _ vv uu Q I rv ru ⟨h1,by rw[h2];exact p.here W rfl⟩
 ·exact p.elim
theorem Hv{a b d:ο}{da db dd:Ev->List Cell->R D}{pos:Pos}{op op':CmpOp}{f g:D->D->List Cell->R D}(ho:bK X (compareOp op) (r2 X.K f)) (ho':bK X (compareOp op') (r2 X.K g)) (ha:aW X a da) (hb:aW X b db) (hd:aW X d dd)
  (h1:lastMarks [op,op'] [b,d]=θ:=by with_unfolding_all rfl) :
  aW X (.Compare a [op,op'] [b,d] pos) (iJ f g da db dd):=(S6 ho ho' ha hb hd h1).imp λσ H Q h=>by
 obtain⟨ρ,e,c,W,V,p⟩:=h;refine⟨ρ,e,c,W,V,post.bind p λx c1 aG H1 v _ W1 X1 r1 p1=>⟨aG,e,c1,W1,V.mono W X1,post.bind p1 λy c2 cz H2 u _ W2 X2 r2 p2=>⟨cz,x,y,c2,W2,Rel.mono W1 X2 _ _ r1,r2,post.bind p2 λz c3 kG H3 w _ W3 X3 r3 p3=>?_⟩⟩⟩
 have V3:=(V.mono W X1).mono W1 (X2.trans X3);cases z with
 |bl k =>
  cases r3;refine⟨k,rfl,?_⟩;cases k with
  |true =>
   refine m7 ⟨kG,e,c3,W3,V3,post.bind p3 λt c4 mC H4 w4 _ W4 X4 r4 p4=>⟨mC,y,t,c4,W4,Rel.mono W2 (X3.trans X4) _ _ r2,r4,p4⟩⟩
  |false=>exact m8 (p3.here W3 rfl)
 |_=>exact p3.elim
end
def fO(c:List Cell):D->Option (List D)
 |.tup l=>ζ l
 |.lst l=>ζ l
 |.bQ l=>ζ (l.map D.int)
 |.ref k=>match c[k]? with
  |some (.lst l)=>ζ l
  |none=>η
 |_=>η
def aK:D->D->List Cell->R D:=λx y c=>match y with
 |.int i=>match fO c x with
  |some l=>match cM l i with
   |some d=>.ok d c
   |none=>.bad
  |none=>.bad
 |_=>.bad
section
variable {X:Cx}{K:ξ}{ρ:List Ψ}{H:Hp}{c:List Cell}
theorem uv{x:D}{v:V}{l:List D}(W:Wd K ρ H c) (rx:Rel K ρ H x v) (h:fO c x=ζ l):∃a xs,v=.ref a/\(bY K H a xs\/bU K H a xs)/\aH K ρ H l xs:=by
 cases x with
 |tup m =>
  cases h;obtain⟨a,xs,e,s,r⟩:=rx;exact⟨a,xs,e,.inr (bU.of s),r⟩
 |lst m =>
  cases h;obtain⟨a,xs,e,s,r⟩:=rx;exact⟨a,xs,e,.inl (bY.of s.1),r⟩
 |bQ m =>
  cases h;obtain⟨a,e,s⟩:=rx;exact⟨a,_,e,.inl s.sql,aH.ints⟩
 |ref k =>
  obtain⟨a,e,s⟩:=rx;unfold fO at h;dsimp only at h;cases hc:c[k]? with
  |none=>rw[hc]at h;cases h
  |some cl =>
   cases cl with
   |lst m =>
    rw[hc]at h;cases h;obtain⟨_,xs,hx,r⟩:=W.ff k a _ s hc;exact⟨a,xs,e,.inl (bY.of hx),r⟩
 |_=>cases h
theorem adf{l:List D}{xs:List V}{i:Int}{d:D}(r:aH K ρ H l xs) (h:cM l i=ζ d):∃v,cM xs i=ζ v/\Rel K ρ H d v:=by
 unfold cM at h ⊢;rw[r.length];cases e:fZ l.length i with
 |none=>rw[e]at h;cases h
 |some j =>
  rw[e]at h;exact r.get (i:=j) h
theorem cG:vO X (r2 X.K aK):=by
 intro value slice pins s σ H v u vv uu Q I rv ru h hs;obtain⟨ρ,x,y,c,W,rx,ry,p⟩:=h;unfold aK at p;split at p
 ·split at p
  ·rename_i l hl;split at p
   ·rename_i d hd;cases ry;obtain⟨a,xs,rfl,sq,r⟩:=uv W rx hl;obtain⟨w,hw,rw'⟩:=adf r hd
    rcases sq with sq|sq
    ·exact YZ value slice pins s σ H _ _ vv uu Q I rv ru ⟨a,xs,_,w,rfl,rfl,sq,hw,p.here W rw'⟩ hs
    ·exact Cm value slice pins s σ H _ _ vv uu Q I rv ru ⟨a,xs,_,w,rfl,rfl,sq,hw,p.here W rw'⟩ hs
   ·exact p.elim
  ·exact p.elim
 ·exact p.elim
end
def aO(a:Ev->List Cell->R D):Ev->List Cell->R Bool:=λe c=>(a e c).bind λx c=>match x with
 |.bl b=>.ok b c
 |_=>.bad
def ko(a b:Ev->List Cell->R Bool):Ev->List Cell->R Bool:=λe c=>(a e c).bind λx c=>if x=Γ then b e c else .ok θ c
def iU(a b:Ev->List Cell->R Bool):Ev->List Cell->R Bool:=λe c=>(a e c).bind λx c=>if x=Γ then .ok Γ c else b e c
def dI(a:Ev->List Cell->R Bool):Ev->List Cell->R Bool:=λe c=>(a e c).bind λx c=>.ok (!x) c
def fH(a b:Ev->List Cell->R D):Ev->List Cell->R D:=λe c=>(a e c).bind λx c=>match x with
 |.bl k=>if k=Γ then b e c else .ok (.bl θ) c
 |_=>.bad
def jO(a:Ev->List Cell->R D):Ev->List Cell->R D:=λe c=>(a e c).bind λx c=>match x with
 |.bl k=>.ok (.bl (!k)) c
 |_=>.bad
section
variable {X:Cx}{a b c':ο}{da db:Ev->List Cell->R D}{ta tb:Ev->List Cell->R Bool}{pos:Pos}{rest:List ο}
theorem EK(h:tD X.K (λ_ _ a b=>a=b) (aO da) σ H Q):tD X.K (Rel X.K) da σ H λx H'=>∃k,x=.bl k/\Q k H':=by
 obtain⟨ρ,e,c,W,V,p⟩:=h;refine⟨ρ,e,c,W,V,post.bind p λx c1 aG H1 v _ W1 X1 r1 p1=>?_⟩
 cases x with
 |bl k=>cases r1;exact⟨k,rfl,p1.here W1 rfl⟩
 |_=>exact p1.elim
theorem gR(ha:aW X a da) (he:∀whole,isTrue a X.env whole=(do let v <-whole;standAt a.pos;holding [v] (truthy v)):=by intro _;rfl):jq X a (aO da):=(Rw ha he).imp λσ H Q h=>EK h
theorem dR{op:CmpOp}{f:D->D->List Cell->R D}(ho:bK X (compareOp op) (r2 X.K f)) (ha:aW X a da) (hb:aW X b db) (hm:behindInMarks op b=θ:=by first|exact HP _|rfl):jq X (.Compare a [op] [b] pos) (aO (ay f da db)) :=
 (Ry ho ha hb hm).imp λσ H Q h=>wu (Q:=λx H'=>∃k,x=.bl k/\Q k H') (EK h)
theorem Hu{d:ο}{dd:Ev->List Cell->R D}{op op':CmpOp}{f g:D->D->List Cell->R D}(ho:bK X (compareOp op) (r2 X.K f)) (ho':bK X (compareOp op') (r2 X.K g)) (ha:aW X a da) (hb:aW X b db) (hd:aW X d dd)
  (h1:lastMarks [op,op'] [b,d]=θ:=by with_unfolding_all rfl):jq X (.Compare a [op,op'] [b,d] pos) (aO (iJ f g da db dd)):=(Rz ho ho' ha hb hd h1).imp λσ H Q h=>by
 obtain⟨ρ,e,c,W,V,p⟩:=EK h;refine⟨ρ,e,c,W,V,post.bind p λx c1 aG H1 v _ W1 X1 r1 p1=>⟨aG,e,c1,W1,V.mono W X1,post.bind p1 λy c2 cz H2 u _ W2 X2 r2 p2=>⟨cz,x,y,c2,W2,Rel.mono W1 X2 _ _ r1,r2,post.bind p2 λz c3 kG H3 w _ W3 X3 r3 p3=>?_⟩⟩⟩
 have V3:=(V.mono W X1).mono W1 (X2.trans X3);cases z with
 |bl k =>
  cases r3;refine⟨k,rfl,?_⟩;cases k with
  |true =>
   refine m7 ⟨kG,e,c3,W3,V3,post.bind p3 λt c4 mC H4 w4 _ W4 X4 r4 p4=>⟨mC,y,t,c4,W4,Rel.mono W2 (X3.trans X4) _ _ r2,r4,p4⟩⟩
  |false=>exact m8 (p3.here W3 rfl)
 |_=>exact p3.elim
theorem Hx(ha:jq X a ta):tQ X (.BoolOp .And [a] pos) ta:=Rt ha
theorem om(ha:jq X a ta):tQ X (.BoolOp .Or [a] pos) ta:=Rq ha
theorem Hw(ha:jq X a ta) (hb:tQ X (.BoolOp .And (b::rest) pos) tb):tQ X (.BoolOp .And (a::b::rest) pos) (ko ta tb):=(Ru ha hb).imp λσ H Q h=>by
 obtain⟨ρ,e,c,W,V,p⟩:=h;refine⟨ρ,e,c,W,V,post.bind p λx c1 aG H1 v _ W1 X1 r1 p1=>?_⟩
 cases r1;cases x with
 |true=>exact m7 ⟨aG,e,c1,W1,V.mono W X1,p1⟩
 |false=>exact m8 (post.here (a:=θ) p1 W1 rfl)
theorem oj(ha:jq X a ta) (hb:tQ X (.BoolOp .Or (b::rest) pos) tb):tQ X (.BoolOp .Or (a::b::rest) pos) (iU ta tb):=(Rr ha hb).imp λσ H Q h=>by
 obtain⟨ρ,e,c,W,V,p⟩:=h;refine⟨ρ,e,c,W,V,post.bind p λx c1 aG H1 v _ W1 X1 r1 p1=>?_⟩
 cases r1;cases x with
 |true=>exact m7 (post.here (a:=Γ) p1 W1 rfl)
 |false=>exact m8 ⟨aG,e,c1,W1,V.mono W X1,p1⟩
theorem ia(ha:jq X a ta):jq X (.UnaryOp .Not a pos) (dI ta):=(Rx ha).imp λσ H Q h=>by
 obtain⟨ρ,e,c,W,V,p⟩:=h;refine⟨ρ,e,c,W,V,post.bind p λx c1 aG H1 v _ W1 X1 r1 p1=>?_⟩
 cases r1;exact p1.here W1 rfl
theorem kO{op}(h:aW X a da):aW X (.BoolOp op [a] pos) da:=SX h
theorem j6(ha:aW X a da) (hb:aW X (.BoolOp .And (b::rest) pos) db):aW X (.BoolOp .And (a::b::rest) pos) (fH da db):=(S9 ha hb).imp λσ H Q h=>by
 obtain⟨ρ,e,c,W,V,p⟩:=h;refine⟨ρ,e,c,W,V,post.bind p λx c1 aG H1 v _ W1 X1 r1 p1=>?_⟩
 cases x with
 |bl k =>
  cases r1;refine⟨k,rfl,?_⟩;cases k with
  |true=>exact m7 ⟨aG,e,c1,W1,V.mono W X1,p1⟩
  |false=>exact m8 (post.here (a:=D.bl θ) p1 W1 rfl)
 |_=>exact p1.elim
theorem uL(ha:aW X a da):aW X (.UnaryOp .Not a pos) (jO da):=(SY ha).imp λσ H Q h=>by
 obtain⟨ρ,e,c,W,V,p⟩:=h;refine⟨ρ,e,c,W,V,post.bind p λx c1 aG H1 v _ W1 X1 r1 p1=>?_⟩
 cases x with
 |bl k=>cases r1;exact⟨k,rfl,p1.here W1 rfl⟩
 |_=>exact p1.elim
end
inductive Fl where
 |nx (e:Ev)|rt (d:D)|bk (e:Ev)|ct (e:Ev)
abbrev aa:=List Cell
abbrev af:=Ev->List Cell->R D
abbrev ah:=Ev->List Cell->R Fl
abbrev ai:=Ev->List Cell->R Bool
abbrev aj:=Ev->List Cell->R (List D)
inductive FV where
 |nx (σ:St)|rt (v:V)|bk (σ:St)|ct (σ:St)
def nG(K:ξ) (ρ:List Ψ) (H:Hp):Fl->FV->Prop
 |.nx e,f=>∃σ,f=.nx σ/\c9 K ρ H e σ
 |.rt d,f=>∃v,f=.rt v/\Rel K ρ H d v
 |.bk e,f=>∃σ,f=.bk σ/\c9 K ρ H e σ
 |.ct e,f=>∃σ,f=.ct σ/\c9 K ρ H e σ
def En(Z:Ends):FV->Hp->Prop
 |.nx σ,H=>Z.nx σ H
 |.rt v,H=>Z.rt v H
 |.bk σ,H=>Z.bk σ H
 |.ct σ,H=>Z.ct σ H
def Aj(K:ξ) (d:ah):TS:=λZ σ H=>tD K (nG K) d σ H (En Z)
abbrev jT(X:Cx) (st:aag) (d:ah):Prop:=PS X st (Aj X.K d)
abbrev b7(X:Cx) (st:List aag) (d:ah):Prop:=eT X st (Aj X.K d)
def bN:ah:=λe c=>.ok (.nx e) c
def aD(a b:ah):ah:=λe c=>(a e c).bind λf c=>match f with
 |.nx e=>b e c
 |f=>.ok f c
def aR(a:af):ah:=λe c=>(a e c).bind λx c=>.ok (.rt x) c
def dQ(a:af):ah:=λe c=>(a e c).bind λ_ c=>.ok (.nx e) c
def bB(t:ai) (a b:ah):ah:=λe c=>(t e c).bind λx c=>if x=Γ then a e c else b e c
def aE(i:Nat) (a:af):ah:=λe c=>(a e c).bind λx c=>.ok (.nx (e.set i (ζ x))) c
def uD:ah:=λ_ _=>.bad
section
variable {X:Cx}{st:aag}{rest:List aag}{t u:ah}{e:ο}{da:af}{pos:Pos}
theorem eG:b7 X [] bN:=RC.imp λZ σ H h=>by
 obtain⟨ρ,e,c,W,V,p⟩:=h;exact p.here W ⟨σ,rfl,V⟩
theorem aV(h1:jT X st t) (h2:b7 X rest u):b7 X (st::rest) (aD t u):=(uH h1 h2).imp λZ σ H h=>by
 obtain⟨ρ,e,c,W,V,p⟩:=h;refine⟨ρ,e,c,W,V,post.bind p λf c1 aG H1 b _ W1 X1 r1 p1=>?_⟩
 cases f with
 |nx e1=>obtain⟨σ1,rfl,V1⟩:=r1;exact⟨aG,e1,c1,W1,V1,p1⟩
 |rt d=>obtain⟨v,rfl,V1⟩:=r1;exact post.here (Q:=En Z) (show post X.K (nG X.K) (.ok (Fl.rt d) c1) aG H1 (En Z)from p1) W1 ⟨_,rfl,V1⟩
 |bk e1=>obtain⟨σ1,rfl,V1⟩:=r1;exact post.here (Q:=En Z) (show post X.K (nG X.K) (.ok (Fl.bk e1) c1) aG H1 (En Z)from p1) W1 ⟨_,rfl,V1⟩
 |ct e1=>obtain⟨σ1,rfl,V1⟩:=r1;exact post.here (Q:=En Z) (show post X.K (nG X.K) (.ok (Fl.ct e1) c1) aG H1 (En Z)from p1) W1 ⟨_,rfl,V1⟩
theorem aZ(h1:jT X st t):b7 X [st] t:=GW h1
theorem PZ:jT X st uD:=λ_ _ _ _ _ _ h=>by
 obtain⟨ρ,e,c,W,V,p⟩:=h;exact p.elim
theorem bS(he:aW X e da):jT X (.Return (ζ e) pos) (aR da):=(RI he).imp λZ σ H h=>by
 obtain⟨ρ,e,c,W,V,p⟩:=h;refine⟨ρ,e,c,W,V,post.bind p λx c1 aG H1 v _ W1 X1 r1 p1=>p1.here W1 ⟨v,rfl,r1⟩⟩
theorem mP(he:aW X e da) (hs:swapsWith e η pos.line X.env=pure θ:=by rfl):jT X (.Expr e pos) (dQ da):=(G0 he hs).imp λZ σ H h=>by
 obtain⟨ρ,e,c,W,V,p⟩:=h;refine⟨ρ,e,c,W,V,post.bind p λx c1 aG H1 v _ W1 X1 r1 p1=>p1.here W1 ⟨σ,rfl,V.mono W X1⟩⟩
theorem dM{c':ο}{a b:List aag}{tc:ai}(hc:jq X c' tc) (ha:b7 X a t) (hb:b7 X b u):jT X (.If c' a b pos) (bB tc t u):=(GY hc ha hb).imp λZ σ H h=>by
 obtain⟨ρ,e,c,W,V,p⟩:=h;refine⟨ρ,e,c,W,V,post.bind p λx c1 aG H1 v _ W1 X1 r1 p1=>?_⟩
 cases r1;cases x with
 |true=>exact m7 ⟨aG,e,c1,W1,V.mono W X1,p1⟩
 |false=>exact m8 ⟨aG,e,c1,W1,V.mono W X1,p1⟩
theorem bM{i:Nat}{x:Str}{pos':Pos}(he:aW X e da) (hN:X.N.Nodup:=by decide +kernel) (hi:X.N[i]? = ζ x:=by rfl) (hx:Loc X.env.scope x:=by first|exact Or.inl rfl|exact Or.inr rfl) (hs:swapsWith e (ζ (.Name x pos')) pos.line X.env=pure θ:=by rfl)
  (hf:X.fn x=Γ\/X.env.scope.names.lookup x=ζ .local:=by first|exact .inl rfl|exact .inr rfl):jT X (.Assign [.Name x pos'] e pos) (aE i da):=(GX hN hi hx he hs).imp λZ σ H h=>by
 obtain⟨ρ,e,c,W,V,p⟩:=h;refine⟨ρ,e,c,W,V,post.bind p λx c1 aG H1 v _ W1 X1 r1 p1=>p1.here W1 ⟨_,rfl,(V.mono W X1).set r1 i⟩⟩
end
abbrev Gd:=D->Ev->aa->R Ev
def wz(K:ξ) (g:Gd):TG:=λv σ H Q=>∃ρ x e c,Wd K ρ H c/\c9 K ρ H e σ/\Rel K ρ H x v/\post K (λρ H e σ=>c9 K ρ H e σ) (g x e c) ρ H Q
def OD(K:ξ) (g:List D->Ev->aa->R Ev):mj:=λvs σ H Q=>∃ρ xs e c,Wd K ρ H c/\c9 K ρ H e σ/\aH K ρ H xs vs/\post K (λρ H e σ=>c9 K ρ H e σ) (g xs e c) ρ H Q
abbrev nJ(X:Cx) (e:ο) (g:Gd):Prop:=PG X e (wz X.K g)
abbrev zo(X:Cx) (es:List ο) (g:List D->Ev->aa->R Ev):Prop:=nI X es (OD X.K g)
def aA(i:Nat):Gd:=λx e c=>.ok (e.set i (ζ x)) c
def fq:List D->Ev->aa->R Ev:=λxs e c=>match xs with
 |[]=>.ok e c
 |_=>.bad
def cA(g:Gd) (r:List D->Ev->aa->R Ev):List D->Ev->aa->R Ev:=λxs e c=>match xs with
 |x::xs=>(g x e c).bind λe c=>r xs e c
 |_=>.bad
def e9(n:Nat) (g:List D->Ev->aa->R Ev):Gd:=λx e c=>match x with
 |.tup l=>if l.length=n then g l e c else .bad
 |_=>.bad
theorem PG.imp{X:Cx}{e:ο}{t t':TG}(h:PG X e t) (i:∀v σ H Q,t' v σ H Q->t v σ H Q):PG X e t':=λpins s σ H x u Q I r q=>h pins s σ H x u Q I r (i _ _ _ _ q)
theorem nI.imp{X:Cx}{es:List ο}{t t':mj}(h:nI X es t) (i:∀v σ H Q,t' v σ H Q->t v σ H Q):nI X es t':=λpins s σ H x u Q I r q=>h pins s σ H x u Q I r (i _ _ _ _ q)
section
variable {X:Cx}{pos:Pos}
theorem bW{i:Nat}{x:Str}(hN:X.N.Nodup:=by decide +kernel) (hi:X.N[i]? = ζ x:=by rfl) (hx:Loc X.env.scope x:=by first|exact Or.inl rfl|exact Or.inr rfl) (hf:X.fn x=Γ\/X.env.scope.names.lookup x=ζ .local:=by first|exact .inl rfl|exact .inr rfl):nJ X (.Name x pos) (aA i) :=
 (Hg hN hi hx hf).imp λv σ H Q h=>by
  obtain⟨ρ,x,e,c,W,V,r,p⟩:=h;exact p.here W (V.set r i)
theorem yd:zo X [] fq:=SK.imp λv σ H Q h=>by
 obtain⟨ρ,xs,e,c,W,V,r,p⟩:=h;cases xs with
 |nil=>exact⟨r,p.here W V⟩
 |cons x xs=>exact p.elim
theorem ng{e:ο}{es:List ο}{g:Gd}{u:List D->Ev->aa->R Ev}(h1:nJ X e g) (h2:zo X es u) (hs:(assignEach (e::es) X.env).map (·.2)=assign e X.env::(assignEach es X.env).map (·.2):=by rfl):zo X (e::es) (cA g u) :=
 (SM h1 h2 hs).imp λv σ H Q h=>by
  obtain⟨ρ,xs,e,c,W,V,r,p⟩:=h;cases xs with
  |nil=>exact p.elim
  |cons x xs =>
   obtain⟨y,ys,rfl,rx,rs⟩:=r;exact⟨y,ys,rfl,ρ,x,e,c,W,V,rx,post.bind p λe1 c1 aG H1 σ1 _ W1 X1 V1 p1=>⟨aG,xs,e1,c1,W1,V1,aH.mono W X1 _ _ rs,p1⟩⟩
theorem ye{es:List ο}{k:Nat}{g:List D->Ev->aa->R Ev}{n:Nat}(h:zo X es g) (hc:X.calm=Γ:=by rfl) (hn:(assignEach es X.env).length=n:=by rfl) (hst:(assignEach es X.env).findIdx? (·.1)=η:=by rfl):nJ X (.Tuple es k pos) (e9 n g) :=
 (SN hc h hn hst).imp λv σ H Q h=>by
  obtain⟨ρ,x,e,c,W,V,r,p⟩:=h;cases x with
  |tup l =>
   obtain⟨a,xs,rfl,s,rs⟩:=r;unfold e9 at p;dsimp only at p;split at p
   ·rename_i hl;exact⟨a,xs,rfl,bU.of s,rs.length.trans hl,ρ,l,e,c,W,V,rs,p⟩
   ·exact p.elim
  |_=>exact p.elim
def iB(a:af) (g:Gd):ah:=λe c=>(a e c).bind λx c=>(g x e c).bind λe c=>.ok (.nx e) c
theorem qw{tg e:ο}{da:af}{g:Gd}(he:aW X e da) (hg:nJ X tg g) (hs:swapsWithSole [tg] e pos.line X.env=pure θ:=by rfl) (hw:swappedStores [tg] e X.env=pure η:=by rfl)
  (h1:(assignEach [tg] X.env).map (·.2)=[assign tg X.env]:=by rfl):jT X (.Assign [tg] e pos) (iB da g):=(RK he hg hs hw h1).imp λZ σ H h=>by
 obtain⟨ρ,e,c,W,V,p⟩:=h;refine⟨ρ,e,c,W,V,post.bind p λx c1 aG H1 v _ W1 X1 r1 p1=>⟨aG,x,e,c1,W1,V.mono W X1,r1,post.bind p1 λe2 c2 cz H2 σ2 _ W2 X2 V2 p2=>p2.here W2 ⟨σ2,rfl,V2⟩⟩⟩
def kK:D->D->D->aa->R Unit:=λo i v c=>match o,i with
 |.ref k,.int i=>match c[k]? with
  |some (.lst l)=>match fZ l.length i with
   |some j=>if noRef v=Γ then .ok () (c.set k (.lst (l.set j v)))else .bad
   |none=>.bad
  |none=>.bad
 |_,_=>.bad
def iH(o i:af):Gd:=λx e c=>(o e c).bind λo c=>(i e c).bind λi c=>(kK o i x c).bind λ_ c=>.ok e c
theorem sd{o i:ο}{dO di:af}(ho:aW X o dO) (hi:aW X i di)
  (ha:∀v,assign (.Subscript o i pos) X.env v=(do
   let ov <-holding [v] (eval o X.env)
   let iv <-holding [v,ov] (eval i X.env)
   standAt pos
   holding [v,ov,iv] (setItem ov iv v)
   release [v,ov,iv] []):=by intro _;rfl):nJ X (.Subscript o i pos) (iH dO di):=(SO ho hi set_list ha).imp λv σ H Q h=>by
 obtain⟨ρ,x,e,c,W,V,rx,p⟩:=h;refine⟨ρ,e,c,W,V,post.bind p λo c1 aG H1 ov _ W1 X1 r1 p1=>⟨aG,e,c1,W1,V.mono W X1,post.bind p1 λi c2 cz H2 iv _ W2 X2 r2 p2=>?_⟩⟩
 have V2:=(V.mono W X1).mono W1 X2;have Qs:=Rel.mono W (X1.trans X2) _ _ rx;have ro:=Rel.mono W1 X2 _ _ r1;unfold kK at p2;split at p2
 ·rename_i k i _ _;split at p2
  ·rename_i l hl;split at p2
   ·rename_i j hj;split at p2
    ·rename_i hv;obtain⟨a,rfl,ha⟩:=ro;cases r2;obtain⟨nr,ys,hy,rl⟩:=W2.ff k a _ ha hl;refine⟨a,ys,i,j,rfl,rfl,hy,by rw[rl.length];exact hj,?_⟩
     exact p2 cz _ σ (W2.write ha (HU nr hv) (rl.set j Qs)) (Ext.write ha) (V2.mono W2 (Ext.write ha))
    ·exact p2.elim
   ·exact p2.elim
  ·exact p2.elim
 ·exact p2.elim
end
structure Src where
 items:List D
 stays:aa->Prop
def JS(K:ξ) (ρ:List Ψ) (H:Hp) (s:Src) (J:It):Prop :=
 ∀ρ' H' c',Wd K ρ' H' c'->Ext ρ H ρ' H'->s.stays c'->∀i:Nat,
  (∀d,s.items[i]? = ζ d->J.go i H'/\∀x H2,J.qe i H' x H2->Wd K ρ' H2 c'/\Ext ρ' H' ρ' H2/\Rel K ρ' H2 d x)/\(i=s.items.length->J.stop i H')
def Ge(K:ξ) (d:Ev->aa->R Src):TI:=tD K (JS K) d
abbrev PId(X:Cx) (tg iter:ο) (d:Ev->aa->R Src):Prop:=PI X tg iter (Ge X.K d)
theorem PI.imp{X:Cx}{tg iter:ο}{t t':TI}(h:PI X tg iter t) (i:∀σ H Q,t' σ H Q->t σ H Q):PI X tg iter t':=λpins s σ H Q I q=>h pins s σ H Q I (i _ _ _ q)
def cV(a:af):Ev->aa->R Src:=λe c=>(a e c).bind λx c=>match x with
 |.lst l=>.ok ⟨l,λ_=>True⟩ c
 |.bQ l=>.ok ⟨l.map D.int,λ_=>True⟩ c
 |.ref k=>match c[k]? with
  |some (.lst l)=>.ok ⟨l,λc=>c[k]? = ζ (.lst l)⟩ c
  |none=>.bad
 |_=>.bad
def eE(a:af):Ev->aa->R Src:=λe c=>(a e c).bind λx c=>match x with
 |.tup l=>.ok ⟨l,λ_=>True⟩ c
 |_=>.bad
def aM(lo hi:Int):List D:=(ι (hi-lo).toNat).map fun(i:Nat)=>D.int (lo+(i:Int))
def bH(a:aj):Ev->aa->R Src:=λe c=>(a e c).bind λxs c=>match xs with
 |[.int j]=>if -(2^62)<=j/\j<2^62 then .ok ⟨aM 0 j,λ_=>True⟩ c else .bad
 |_=>.bad
def gi(a:aj):Ev->aa->R Src:=λe c=>(a e c).bind λxs c=>match xs with
 |[.int i,.int j]=>if -(2^62)<=i/\i<2^62/\-(2^62)<=j/\j<2^62 then .ok ⟨aM i j,λ_=>True⟩ c else .bad
 |_=>.bad
def nt(a:aj):Ev->aa->R Src:=λe c=>(a e c).bind λxs c=>match xs with
 |[.tup l]=>.ok ⟨l.mapIdx λi x=>.tup [.int i,x],λ_=>True⟩ c
 |_=>.bad
section
variable {X:Cx}{tg:ο}{K:ξ}{ρ:List Ψ}{H:Hp}
theorem Cj{l:List D}{a:Ψ}{st:aa->Prop}(h:∀ρ' H' c',Wd K ρ' H' c'->Ext ρ H ρ' H'->st c'->∃xs,bY K H' a xs/\aH K ρ' H' l xs):JS K ρ H ⟨l,st⟩ (tT K a):=by
 intro ρ' H' c' W E s i;obtain⟨xs,q,r⟩:=h ρ' H' c' W E s;refine⟨λd hd=>?_,λe=>⟨xs,q,by rw[r.length];exact ag3 e.symm⟩⟩
 obtain⟨x,hx,rx⟩:=r.get hd;refine⟨⟨xs,x,q,hx⟩,λy H2 hy=>?_⟩
 obtain⟨rfl,hy⟩:=hy;have:=hy xs q;rw[hx]at this;cases this;exact⟨W,Ext.refl,rx⟩
theorem YO{l:List D}{a:Ψ}{st:aa->Prop}(h:∀ρ' H' c',Wd K ρ' H' c'->Ext ρ H ρ' H'->st c'->∃xs,bU K H' a xs/\aH K ρ' H' l xs):JS K ρ H ⟨l,st⟩ (E6 K a):=by
 intro ρ' H' c' W E s i;obtain⟨xs,q,r⟩:=h ρ' H' c' W E s;refine⟨λd hd=>?_,λe=>⟨xs,q,by rw[r.length];exact ag3 e.symm⟩⟩
 obtain⟨x,hx,rx⟩:=r.get hd;refine⟨⟨xs,x,q,hx⟩,λy H2 hy=>?_⟩
 obtain⟨rfl,hy⟩:=hy;have:=hy xs q;rw[hx]at this;cases this;exact⟨W,Ext.refl,rx⟩
theorem kL{lo hi:Int}{i:Nat}{d:D}(h:(aM lo hi)[i]? = ζ d):i<(hi-lo).toNat/\d=.int (lo+i):=by
 unfold aM at h;rw[agv]at h;cases q:(ι (hi-lo).toNat)[i]? with
 |none=>rw[q]at h;cases h
 |some j =>
  rw[q]at h;have h1:=(af6.mp q);obtain⟨h2,h3⟩:=h1;rw[ah8]at h3;subst h3;cases h;exact⟨by simpa using h2,rfl⟩
theorem I0{lo hi:Int}{st:aa->Prop}:JS K ρ H ⟨aM lo hi,st⟩ (vP lo (hi-lo).toNat):=by
 intro ρ' H' c' W E s i;refine⟨λd hd=>?_,λe=>?_⟩
 ·obtain⟨h1,rfl⟩:=kL hd;refine⟨h1,λx H2 hy=>?_⟩
  obtain⟨rfl,rfl⟩:=hy;exact⟨W,Ext.refl,rfl⟩
 ·have:(aM lo hi).length=(hi-lo).toNat:=by simp[aM]
  show(hi-lo).toNat<=i;rw[e];exact ag3 this.symm
theorem o9{l:ο}{dl:af}(hl:aW X l dl):PId X tg l (cV dl):=(G9 hl).imp λσ H Q h=>by
 obtain⟨ρ,e,c,W,V,p⟩:=h;refine⟨ρ,e,c,W,V,post.bind p λx c1 aG H1 v _ W1 X1 r1 p1=>?_⟩
 cases x with
 |lst l =>
  obtain⟨a,xs,rfl,s,rs⟩:=r1;exact⟨a,rfl,⟨xs,bY.of s.1⟩,p1.here W1 (Cj λρ' H' c' W' E _=>⟨xs,bY.of (II E s).1,aH.mono W1 E _ _ rs⟩)⟩
 |bQ l =>
  obtain⟨a,rfl,s⟩:=r1;exact⟨a,rfl,⟨_,s.sql⟩,p1.here W1 (Cj λρ' H' c' W' E _=>⟨_,(Gv E s).sql,aH.ints⟩)⟩
 |ref k =>
  obtain⟨a,rfl,ha⟩:=r1;dsimp only at p1;split at p1
  ·rename_i l hl;obtain⟨_,xs,hx,rs⟩:=W1.ff k a _ ha hl;refine⟨a,rfl,⟨xs,bY.of hx⟩,p1.here W1 (Cj λρ' H' c' W' E st=>?_)⟩
   obtain⟨_,ys,hy,rs'⟩:=W'.ff k a _ (E.pre k a ha) st;exact⟨ys,bY.of hy,rs'⟩
  ·exact p1.elim
 |_=>exact p1.elim
theorem u7{l:ο}{dl:af}(hl:aW X l dl):PId X tg l (eE dl):=(SG hl).imp λσ H Q h=>by
 obtain⟨ρ,e,c,W,V,p⟩:=h;refine⟨ρ,e,c,W,V,post.bind p λx c1 aG H1 v _ W1 X1 r1 p1=>?_⟩
 cases x with
 |tup l =>
  obtain⟨a,xs,rfl,s,rs⟩:=r1;exact⟨a,rfl,⟨xs,bU.of s⟩,p1.here W1 (YO λρ' H' c' W' E _=>⟨xs,bU.of (Af W1 E s),aH.mono W1 E _ _ rs⟩)⟩
 |_=>exact p1.elim
theorem e7{a:ο}{da:aj}{p pos:Pos}(ha:gX X [a] da) (hm:X.mg "range"=η) (hg:Gl X "range":=by rfl) (hs:μ [a] X.env=[(θ,eval a X.env)]:=by exact um rfl):PId X tg (.Call (.Name "range" p) [a] [] pos) (bH da) :=
 (SI hg hm ha hs).imp λσ H Q h=>by
  obtain⟨ρ,e,c,W,V,p⟩:=h;refine⟨ρ,e,c,W,V,post.bind p λx c1 aG H1 v _ W1 X1 r1 p1=>?_⟩
  split at p1
  ·rename_i j _;split at p1
   ·rename_i hj;obtain⟨y,ys,rfl,ry,rs⟩:=r1;cases ry;cases rs;refine⟨j,rfl,hj.1,hj.2,p1.here W1 ?_⟩;have:=I0 (K:=X.K) (ρ:=aG) (H:=H1) (lo:=0) (hi:=j) (st:=λ_=>True)
    rw[Int.sub_zero]at this;exact this
   ·exact p1.elim
  ·exact p1.elim
theorem o8{a b:ο}{da:aj}{p pos:Pos}(ha:gX X [a,b] da) (hm:X.mg "range"=η) (hg:Gl X "range":=by rfl) (hs:μ [a,b] X.env=[(θ,eval a X.env),(θ,eval b X.env)]:=by exact Gr rfl rfl) (hs2:μ [b] X.env=[(θ,eval b X.env)]:=by exact um rfl):PId X tg (.Call (.Name "range" p) [a,b] [] pos) (gi da) :=
 (SH hg hm ha hs hs2).imp λσ H Q h=>by
  obtain⟨ρ,e,c,W,V,p⟩:=h;refine⟨ρ,e,c,W,V,post.bind p λx c1 aG H1 v _ W1 X1 r1 p1=>?_⟩
  split at p1
  ·rename_i i j _;split at p1
   ·rename_i hj;obtain⟨y,ys,rfl,ry,z,zs,rfl,rz,rs⟩:=r1;cases ry;cases rz;cases rs;exact⟨i,j,rfl,hj,p1.here W1 I0⟩
   ·exact p1.elim
  ·exact p1.elim
theorem YQ{l:List D}{a:Ψ}{st:aa->Prop}(h:∀ρ' H' c',Wd K ρ' H' c'->Ext ρ H ρ' H'->st c'->∃xs,bU K H' a xs/\aH K ρ' H' l xs):JS K ρ H ⟨l.mapIdx λi x=>.tup [.int i,x],st⟩ (E7 (bU K) a):=by
 intro ρ' H' c' W E s i;obtain⟨xs,q,r⟩:=h ρ' H' c' W E s;refine⟨λd hd=>?_,λe=>⟨xs,q,?_⟩⟩
 ·have hd:(l.mapIdx λi x=>D.tup [.int i,x])[i]? = ζ d:=hd
  rw[List.getElem?_mapIdx]at hd;cases e1:l[i]? with
  |none=>rw[e1]at hd;cases hd
  |some x =>
   rw[e1]at hd;cases hd;obtain⟨v,hv,rv⟩:=r.get e1;refine⟨⟨xs,v,q,hv⟩,λz H2 hz=>?_⟩
   obtain⟨t,v',rfl,ht,rfl,hz⟩:=hz;have z1:=hz xs q;rw[hv]at z1;cases z1;exact⟨W.fresh ht,Ext.fresh W ht,t,[.int i,v],rfl,gw,.int i,[v],rfl,rfl,v,[],rfl,Rel.mono W (Ext.fresh W ht) _ _ rv,rfl⟩
 ·have e:i=(l.mapIdx λi x=>D.tup [.int i,x]).length:=e
  rw[List.length_mapIdx]at e;rw[r.length];exact e
theorem Jr{es:List ο}{k:Nat}{pt:Pos}{a:ο}{da:aj}{p pos:Pos}(ha:gX X [a] da) (hm:X.mg "enumerate"=η) (hg:Gl X "enumerate":=by rfl) (hs:μ [a] X.env=[(θ,eval a X.env)]:=by exact um rfl) :
  PId X (.Tuple es k pt) (.Call (.Name "enumerate" p) [a] [] pos) (nt da):=(SJ hg hm ha hs).imp λσ H Q h=>by
 obtain⟨ρ,e,c,W,V,p⟩:=h;refine⟨ρ,e,c,W,V,post.bind p λx c1 aG H1 v _ W1 X1 r1 p1=>?_⟩
 split at p1
 ·obtain⟨y,ys,rfl,ry,rs⟩:=r1;cases rs;obtain⟨a1,xs,rfl,s1,t1⟩:=ry;exact⟨a1,rfl,⟨xs,bU.of s1⟩,p1.here W1 (YQ λρ' H' c' W' E _=>⟨xs,bU.of (Af W1 E s1),aH.mono W1 E _ _ t1⟩)⟩
 ·exact p1.elim
open Classical in
def cu(st:aa->Prop) (g:Gd) (b:ah):List D->ah
 |[],e,c=>if st c then .ok (.nx e) c else .bad
 |x::xs,e,c=>if st c then(g x e c).bind λe c=>(b e c).bind λf c=>match f with
   |.nx e=>cu st g b xs e c
   |.ct e=>cu st g b xs e c
   |.bk e=>.ok (.nx e) c
   |.rt d=>.ok (.rt d) c
  else .bad
def b8(s:Ev->aa->R Src) (g:Gd) (b:ah):ah:=λe c=>(s e c).bind λs c=>cu s.stays g b s.items e c
theorem gQ{iter:ο}{body:List aag}{ds:Ev->aa->R Src}{g:Gd}{db:ah}{pos:Pos}(hi:PId X tg iter ds) (hg:nJ X tg g) (hb:b7 X body db) (hp:PassesOwn (model X.prog X.w) X.A X.env X.xe:=by exact PassesOwn.never) (hc:X.calm=Γ:=by rfl)
  (hs:∀x,foldedSetIterable iter X.env x=pure x:=by intro _;rfl):jT X (.For tg iter body [] pos) (b8 ds g db):=(GZ hp hc hi hg hb hs).imp λZ σ H h=>by
 obtain⟨ρ,e,c,W,V,p⟩:=h;refine⟨ρ,e,c,W,V,post.bind p λs c1 aG H1 J _ W1 X1 j1 p1=>?_⟩
 refine⟨λi m σ H=>∃ρ e c,Wd X.K ρ H c/\Ext aG H1 ρ H/\c9 X.K ρ H e σ/\i<=s.items.length/\m=s.items.length-i/\post X.K (nG X.K) (cu s.stays g db (s.items.drop i) e c) ρ H (En Z),
  ⟨_,aG,e,c1,W1,Ext.refl,V.mono W X1,agK _,rfl,p1⟩,?_⟩
 rintro i m σ2 H2 ⟨cz,e2,c2,W2,X2,V2,hi2,rfl,p2⟩
 by_cases hl:i<s.items.length
 ·rw[aiK hl]at p2;unfold cu at p2;split at p2
  ·rename_i hst;obtain⟨go,yl⟩:=(j1 cz H2 c2 W2 X2 hst i).1 _ (af2 hl);refine .inr ⟨go,λσ' H'=>∃ρ e c,Wd X.K ρ H' c/\Ext aG H1 ρ H'/\c9 X.K ρ H' e σ'/\i+1<=s.items.length/\post X.K (nG X.K) (cu s.stays g db (s.items.drop (i+1)) e c) ρ H' (En Z),?_,λx H3 hy=>?_⟩
   ·rintro σ' H' ⟨ρ,e,c,w,x,v,l,q⟩
    exact⟨s.items.length-(i+1),by omega,ρ,e,c,w,x,v,l,rfl,q⟩
   ·obtain⟨W3,X3,r3⟩:=yl x H3 hy;refine⟨cz,_,e2,c2,W3,V2.mono W2 X3,r3,post.bind (post.ext p2 X3) λe4 c4 mC H4 Mw _ W4 X4 V4 p4=>?_⟩
    refine⟨mC,e4,c4,W4,V4,post.bind p4 λf c5 nL H5 b _ W5 X5 r5 p5=>?_⟩
    have vG:=((X2.trans X3).trans X4).trans X5;cases f with
    |nx e1=>obtain⟨σ1,rfl,V1⟩:=r5;exact⟨nL,e1,c5,W5,vG,V1,hl,p5⟩
    |ct e1=>obtain⟨σ1,rfl,V1⟩:=r5;exact⟨nL,e1,c5,W5,vG,V1,hl,p5⟩
    |bk e1=>obtain⟨σ1,rfl,V1⟩:=r5;exact post.here (Q:=En Z) (show post X.K (nG X.K) (.ok (Fl.nx e1) c5) nL H5 (En Z)from p5) W5 ⟨_,rfl,V1⟩
    |rt d=>obtain⟨v,rfl,V1⟩:=r5;exact post.here (Q:=En Z) (show post X.K (nG X.K) (.ok (Fl.rt d) c5) nL H5 (En Z)from p5) W5 ⟨_,rfl,V1⟩
  ·exact p2.elim
 ·obtain rfl:i=s.items.length:=by omega
  rw[ajp (afU _)]at p2;unfold cu at p2;split at p2
  ·rename_i hst;exact .inl ⟨(j1 cz H2 c2 W2 X2 hst _).2 rfl,post.here (Q:=En Z) p2 W2 ⟨σ2,rfl,V2⟩⟩
  ·exact p2.elim
end
def cR(pick:List (Option Nat)) (e:Ev):Ev:=pick.map λo=>o.bind λj=>(e[j]?).bind id
open Classical in
def bJ(st:aa->Prop) (g:Gd) (t:ai) (el:af):List D->Ev->List D->aa->R (List D)
 |[],e,acc,c=>if st c then .ok acc c else .bad
 |x::xs,e,acc,c=>if st c then(g x e c).bind λe c=>(t e c).bind λk c=>if k=Γ then(el e c).bind λy c=>bJ st g t el xs e (acc++[y]) c else bJ st g t el xs e acc c else .bad
def bg(s:Ev->aa->R Src) (pick:List (Option Nat)) (g:Gd) (t:ai) (el:af):af:=λe c=>(s e c).bind λs c =>
 if s.items.length<ε then(bJ s.stays g t el s.items (cR pick e) [] c).bind λl c=>.ok (.lst l) c else .bad
def aT:ai:=λ_ c=>.ok Γ c
abbrev zm(X:Cx) (ifs:List ο) (t:ai):Prop:=qc X ifs (tD X.K (λ_ _ a b=>a=b) t)
section
variable {X:Cx}{N':List Str}{pick:List (Option Nat)}{scope:aaj}{tg elt iter:ο}{ifs:List ο}{pos:Pos}{ds:Ev->aa->R Src}{g:Gd}{dt:ai}{de:af}
theorem fC:zm X [] aT:=λpins s σ H Q I h=>by
 obtain⟨ρ,e,c,W,V,p⟩:=h;exact SA pins s σ H Q I (post.here (b:=Γ) p W rfl)
theorem oh{c':ο}(h:jq X c' dt):zm X [c'] dt:=Sz h
theorem c9.picked{K:ξ}{ρ:List Ψ}{H:Hp}{e:Ev}{σ:St}(V:c9 K ρ H e σ):c9 K ρ H (cR pick e) (kI pick σ):=by
 refine⟨λi d h=>?_,by simp[cR,kI]⟩
 unfold cR at h;unfold kI;rw[agv]at h ⊢;cases q:pick[i]? with
 |none=>rw[q]at h;cases h
 |some o =>
  rw[q]at h;cases o with
  |none=>cases h
  |some j =>
   have h':(e[j]?).bind id=ζ d:=agb h;cases q2:e[j]? with
   |none=>rw[q2]at h';cases h'
   |some z =>
    rw[q2]at h';have h'':z=ζ d:=h';subst h'';obtain⟨v,hv,r⟩:=V.get j d q2;exact⟨v,by simp[hv],r⟩
theorem acA{K:ξ}{aG:List Ψ}{H1:Hp}{c1:aa}{e:Ev}{σ:St}{s:Src}{J:It}{Q:VK}(W1:Wd K aG H1 c1) (V1:c9 K aG H1 e σ) (j1:JS K aG H1 s J) (hn:s.items.length<ε)
  (p1:post K (Rel K) ((bJ s.stays g dt de s.items e [] c1).bind λl c=>.ok (.lst l) c) aG H1 Q):Ms J (wz K g) (tD K (λ_ _ a b=>a=b) dt) (tD K (Rel K) de) Q σ H1:=by
 refine⟨λi m σ ys H=>∃ρ e acc c,Wd K ρ H c/\Ext aG H1 ρ H/\c9 K ρ H e σ/\aH K ρ H acc ys/\acc.length<=i/\i<=s.items.length/\m=s.items.length-i/\post K (Rel K) ((bJ s.stays g dt de (s.items.drop i) e acc c).bind λl c=>.ok (.lst l) c) ρ H Q,
  ⟨_,aG,e,[],c1,W1,Ext.refl,V1,rfl,afU _,agK _,rfl,p1⟩,?_⟩
 rintro i m σ2 ys H2 ⟨cz,e2,acc,c2,W2,X2,V2,r2,ha,hi2,rfl,p2⟩
 refine⟨by rw[r2.length];omega,?_⟩
 by_cases hl:i<s.items.length
 ·rw[aiK hl]at p2;unfold bJ at p2;split at p2
  ·rename_i hst;obtain⟨go,yl⟩:=(j1 cz H2 c2 W2 X2 hst i).1 _ (af2 hl);refine .inr ⟨go,λσ' ys' H'=>∃ρ e acc c,Wd K ρ H' c/\Ext aG H1 ρ H'/\c9 K ρ H' e σ'/\aH K ρ H' acc ys'/\acc.length<=i+1/\i+1<=s.items.length/\post K (Rel K) ((bJ s.stays g dt de (s.items.drop (i+1)) e acc c).bind λl c=>.ok (.lst l) c) ρ H' Q,?_,λx H3 hy=>?_⟩
   ·rintro σ' ys' H' ⟨ρ,e,acc,c,w,x,v,r,a,l,q⟩
    exact⟨s.items.length-(i+1),by omega,ρ,e,acc,c,w,x,v,r,a,l,rfl,q⟩
   ·obtain⟨W3,X3,r3⟩:=yl x H3 hy;have assoc:∀{α β γ:Type}(r:R α) (f:α->aa->R β) (g:β->aa->R γ),(r.bind f).bind g=r.bind λa c=>(f a c).bind g:=λr f g=>by cases r<;>rfl
    rw[assoc]at p2;refine⟨cz,_,e2,c2,W3,V2.mono W2 X3,r3,post.bind (post.ext p2 X3) λe4 c4 mC H4 Mw _ W4 X4 V4 p4=>?_⟩
    rw[assoc]at p4;refine⟨mC,e4,c4,W4,V4,post.bind p4 λk c5 nL H5 b _ W5 X5 r5 p5=>?_⟩
    cases r5;have vG:=((X2.trans X3).trans X4).trans X5;have GU:=aH.mono W2 ((X3.trans X4).trans X5) _ _ r2;cases k with
    |true =>
     refine m7 ?_;rw[if_pos rfl,assoc]at p5;refine⟨nL,e4,c5,W5,V4.mono W4 X5,post.bind p5 λy c6 Mx H6 v _ W6 X6 r6 p6=>?_⟩
     refine⟨Mx,e4,acc++[y],c6,W6,vG.trans X6,(V4.mono W4 X5).mono W5 X6,(aH.mono W5 X6 _ _ GU).append ⟨v,[],rfl,r6,rfl⟩,by simp;exact ha,hl,p6⟩
    |false =>
     refine m8 ?_;rw[if_neg agg]at p5;exact⟨nL,e4,acc,c5,W5,vG,V4.mono W4 X5,GU,Nat.le_succ_of_le ha,hl,p5⟩
  ·exact p2.elim
 ·obtain rfl:i=s.items.length:=by omega
  rw[ajp (afU _)]at p2;unfold bJ at p2;split at p2
  ·rename_i hst;exact .inl ⟨(j1 cz H2 c2 W2 X2 hst _).2 rfl,rO W2 r2 p2⟩
  ·exact p2.elim
theorem KH{σ:St}{H:Hp}{Q:VK}{K:ξ}(h:tD K (Rel K) (bg ds pick g dt de) σ H Q):Al (Ge K ds) pick (wz K g) (tD K (λ_ _ a b=>a=b) dt) (tD K (Rel K) de) σ H Q:=by
 obtain⟨ρ,e,c,W,V,p⟩:=h;refine⟨ρ,e,c,W,V,post.bind p λs c1 aG H1 J _ W1 X1 j1 p1=>?_⟩
 split at p1
 ·rename_i hn;exact acA W1 (V.mono W X1).picked j1 hn p1
 ·exact p1.elim
theorem fQ(S:cE X N' pick scope) (hit:PId X tg iter ds)
  (hg:∀cl C s₀ H₀ ex pn,nJ (fJ X N' scope cl C s₀ H₀ ex pn) tg g) (hi:∀cl C s₀ H₀ ex pn,zm (fJ X N' scope cl C s₀ H₀ ex pn) ifs dt) (he:∀cl C s₀ H₀ ex pn,aW (fJ X N' scope cl C s₀ H₀ ex pn) elt de)
  (hc:X.calm=Γ:=by rfl) (hs:∀x,foldedSetIterable iter X.env x=pure x:=by intro _;rfl) :
  aW X (.ListComp elt [⟨tg,iter,ifs,0⟩] scope pos) (bg ds pick g dt de):=(S4 S hc hit hg hi he hs).imp λσ H Q h=>KH h
theorem mO{i:Nat}{y:Str}{py spos:Pos}(S:cE X N' pick scope) (hit:PId X tg iter ds)
  (hg:∀cl C s₀ H₀ ex pn,nJ (fJ X N' scope cl C s₀ H₀ ex pn) tg g) (hi:∀cl C s₀ H₀ ex pn,zm (fJ X N' scope cl C s₀ H₀ ex pn) ifs dt) (he:∀cl C s₀ H₀ ex pn,aW (fJ X N' scope cl C s₀ H₀ ex pn) elt de)
  (hsw:swapsWith (.ListComp elt [⟨tg,iter,ifs,0⟩] scope pos) (ζ (.Name y py)) spos.line X.env=pure Γ:=by rfl) (hN:X.N.Nodup:=by decide +kernel) (hy:X.N[i]? = ζ y:=by rfl) (hl:X.env.scope.names.lookup y=ζ .local:=by rfl)
  (hc:X.calm=Γ:=by rfl) (hs:∀x,foldedSetIterable iter X.env x=pure x:=by intro _;rfl) :
  jT X (.Assign [.Name y py] (.ListComp elt [⟨tg,iter,ifs,0⟩] scope pos) spos) (aE i (bg ds pick g dt de)):=(RH (g:=wz X.K g) (tt:=tD X.K (λ_ _ a b=>a=b) dt) (te:=tD X.K (Rel X.K) de) hsw hN hy hl S hc hit hg hi he hs).imp λZ σ H h=>by
 refine KH (g:=g) (dt:=dt) (de:=de) ?_;obtain⟨ρ,e,c,W,V,p⟩:=h;refine⟨ρ,e,c,W,V,post.bind p λx c1 aG H1 v _ W1 X1 r1 p1=>p1.here W1 ⟨_,rfl,(V.mono W X1).set r1 i⟩⟩
end
def bX(K:ξ) (n:Nat) (m:List D->aa->R D):Sp:=λvs H Q _=>∃ρ xs c,Wd K ρ H c/\aH K ρ H xs vs/\xs.length=n/\post K (Rel K) (m xs c) ρ H Q
def aC(n:Nat) (m:List D->aa->R D) (a:aj):af:=λe c=>(a e c).bind λxs c=>if xs.length=n then m xs c else .bad
def cg(n:Nat) (xs:List D):Ev:=xs.map ζ++ν (n-xs.length) η
def cY(own:Bool) (n:Nat) (v:D) (c:aa):R D:=match v with
 |.ref k=>match c[k]? with
  |some (.lst l)=>if n<=k then(if own=Γ then .ok (.ref n) (c.take n++[.lst l])else .ok (.lst l) (c.take n))else .bad
  |none=>.bad
 |v=>if noRef v=Γ then .ok v (c.take n)else .bad
def cy(n:Nat) (own:Bool) (d:ah):List D->aa->R D:=λxs c=>(d (cg n xs) c).bind λf c'=>match f with
 |.rt v=>cY own c.length v c'
 |.nx _=>cY own c.length .aI c'
 |_=>.bad
section
variable {P:τ}{w:υ}{K:ξ}{mg:Str->Option Δ}{base:ψ}
theorem sf{own:Bool}{ρ aG:List Ψ}{H H1:Hp}{c c1:aa}{v:D}{x:V}{Q:VK}(W:Wd K ρ H c) (W1:Wd K aG H1 c1) (X1:Ext ρ H aG H1) (r:Rel K aG H1 v x) (p:post K (Rel K) (cY own c.length v c1) ρ H Q):Q x H1:=by
 have hn:=Ext.len W W1 X1;have Wc:=W1.cut hn;have Xc:=X1.cut (n:=c.length) (ag3 W.len);unfold cY at p;split at p
 ·rename_i k;split at p
  ·rename_i l hl;split at p
   ·rename_i hk;obtain⟨a,rfl,ha⟩:=r;obtain⟨nr,xs,hx,rl⟩:=W1.ff k a _ ha hl;have na:a∉aG.take c.length:=by
     intro h;obtain⟨j,hj,e⟩:=ag5.mp h;have hj2:j<c.length:=by simp at hj;omega
     rw[aiL]at e;have hk1:=af6.mp ha;have hjl:j<aG.length:=by simp at hj;omega
     have:=(ahB W1.nd (h₀:=hjl) (h₁:=hk1.1)).mp (e.trans hk1.2.symm);omega
    have sub:∀b,b∈aG.take c.length->b∈aG:=λb h=>agt h
    split at p
    ·have lr:(aG.take c.length).length=c.length:=by simp[W1.len];omega
     refine p (aG.take c.length++[a]) H1 (.ref a) ?_ ?_ ⟨a,rfl,?_⟩
     ·refine⟨?_,by simp[W1.len],λj b cl e1 e2=>?_,W1.tab⟩
      ·rw[ah6];refine⟨Wc.nd,by simp,?_⟩
       intro y hy z hz;rw[agn]at hz;subst hz;exact λq=>na (q▸hy)
      ·by_cases hj:j<c.length
       ·rw[agC (by rw[lr];exact hj)]at e1
        rw[agC (by simp;omega)]at e2
        have q:=Wc.ff j b cl e1 e2;cases cl with
        |lst l' =>
         obtain⟨j7,ys,hy,r'⟩:=q;refine⟨j7,ys,hy,aH.low (ρ:=aG) (λz hz=>?_) l' ys j7 ?_⟩
         ·rcases agm.mp hz with hz|hz
          ·exact sub z hz
          ·rw[agn]at hz;subst hz;exact agk ha
         ·have e1':aG[j]? = ζ b:=by rw[ah7,if_pos hj]at e1;exact e1
          have e2':c1[j]? = ζ (.lst l'):=by rw[ah7,if_pos hj]at e2;exact e2
          obtain⟨_,zs,hz,rz⟩:=W1.ff j b _ e1' e2';rw[hy]at hz;cases hz;exact rz
       ·have hj':j=c.length:=by
         have:=(af6.mp e1).1;rw[ago,lr]at this;simp at this;omega
        subst hj';rw[agG (by rw[lr];exact afU _),lr,ahN]at e1
        rw[agG (by simp;omega),show c.length-(List.take c.length c1).length=0 by simp;omega]at e2
        cases e1;cases e2;refine⟨nr,xs,hx,aH.low (ρ:=aG) (λz hz=>?_) l xs nr rl⟩
        rcases agm.mp hz with hz|hz
        ·exact sub z hz
        ·rw[agn]at hz;subst hz;exact agk ha
     ·refine⟨λj b e=>?_,λb o e z t=>?_⟩
      ·have q:=Xc.pre j b e;rw[agC (af6.mp q).1];exact q
      ·obtain⟨h1,h2⟩:=X1.keep b o e z t;refine⟨h1,λq=>h2 ?_⟩
       rcases agm.mp q with q|q
       ·exact sub b q
       ·rw[agn]at q;subst q;exact agk ha
     ·rw[agG (by rw[lr];exact afU _),lr,ahN];rfl
    ·exact p (aG.take c.length) H1 (.ref a) Wc Xc ⟨a,xs,rfl,⟨hx,na⟩,aH.low sub l xs nr rl⟩
   ·exact p.elim
  ·exact p.elim
 ·split at p
  ·rename_i hv;exact p _ H1 x Wc Xc (Rel.low (λb h=>agt h) _ _ hv r)
  ·exact p.elim
theorem c9.start{ρ:List Ψ}{H:Hp}{xs:List D}{vs:List V}{N:List Str}(r:aH K ρ H xs vs):c9 K ρ H (cg N.length xs) (start N vs):=by
 have hl:=r.length;refine⟨λi d h=>?_,by simp[cg,L2.start,hl]⟩
 unfold cg at h;unfold L2.start
 by_cases hi:i<xs.length
 ·rw[agC (by simpa using hi),agv]at h
  cases q:xs[i]? with
  |none=>rw[q]at h;cases h
  |some x =>
   rw[q]at h;cases h;obtain⟨v,hv,rv⟩:=r.get q;exact⟨v,by rw[agC (by simp[hl];exact hi),agv,hv];rfl,rv⟩
 ·rw[agG (by simpa using aji hi)]at h
  have:=agk h;rw[ajq]at this;cases this.2
theorem d9{x qual:Str}{st:aag}{f:Ψ}{fd:π}{N ps:List Str}{k n m:Nat}{own:Bool}{d:ah}(F:jU K x qual st f fd) (S:cC N ps (aX st)) (hN:N.length=n) (hm:ps.length=m)
  (hb:∀(cdv:Δ) (A:χ) (outer:List Env) (s:Ω) (H:Hp) (E:XK),cP k (A.deeper (envOfC qual (aX st) s.heap.objs.size f cdv))->b7 (fu bP P w K mg base N qual (aX st) f cdv A outer s H E).fj (ck st) d) :
  bV P w K mg base bP (k+1) f fd ps (bX K m (cy n own d)):=by
 subst hN;subst hm;refine F.ok S (λvs H Q E h=>?_) (λcdv A outer s H vs Q E hr h=>⟨_,hb cdv A outer s H E hr,?_⟩)
 ·obtain⟨ρ,xs,c,W,r,hl,p⟩:=h;exact r.length.trans hl
 ·obtain⟨ρ,xs,c,W,r,hl,p⟩:=h;refine⟨ρ,cg N.length xs,c,W,c9.start r,post.bind p λfl c1 aG H1 b _ W1 X1 r1 p1=>?_⟩
  cases fl with
  |nx e1 =>
   obtain⟨σ1,rfl,V1⟩:=r1;exact sf (v:=.aI) (x:=.aI) (H1:=H1) W W1 X1 rfl (by
    unfold cy at p;exact id (α:=post K (Rel K) (cY own c.length .aI c1) ρ H Q) (by
     rename_i he;rw[he]at p;exact p))
  |rt d =>
   obtain⟨v,rfl,V1⟩:=r1;exact sf (v:=d) (x:=v) (H1:=H1) W W1 X1 V1 (by
    unfold cy at p;rename_i he;rw[he]at p;exact p)
  |bk e1=>exact p1.elim
  |ct e1=>exact p1.elim
end
section
variable {X:Cx}
theorem bI{x:Str}{st:aag}{ps:List Str}{f:Ψ}{fd:π}{k n:Nat}{m:List D->aa->R D}{e:ο}{es:List ο}{da:aj}{p pos:Pos}(D:Def X.K X.mg x st ps f fd) (G:bV X.prog X.w X.K X.mg X.base bP k f fd ps (bX X.K n m)) (hr:cP k X.A) (ha:gX X (e::es) da) (hg:Gl X x:=by rfl)
  (hdb:(x==("__debug__":Str))=θ:=by decide) (he:μ (e::es) X.env=(θ,eval e X.env)::μ es X.env:=by exact cj rfl) (hpl:(aah pos (μ es X.env)).any (·.1)=θ:=by exact iA rfl) :
  aW X (.Call (.Name x p) (e::es) [] pos) (aC n m da):=(S2 D G hr ha hg hdb he hpl).imp λσ H Q h=>by
 obtain⟨ρ,e,c,W,V,q⟩:=h;refine⟨ρ,e,c,W,V,post.bind q λxs c1 aG H1 vs _ W1 X1 r1 p1=>?_⟩
 split at p1
 ·rename_i hl;exact⟨aG,xs,c1,W1,by rw[agW];exact r1,hl,p1⟩
 ·exact p1.elim
theorem bO{id:String}{x:Str}{p pos:Pos}{e:ο}{es:List ο}{da:aj}{f:List D->aa->R D}(hc:d8 X (.builtin id) (rN X.K f)) (hm:X.mg x=η) (hv:bootBuiltins x=ζ (.builtin id)) (ha:gX X (e::es) da) (hg:Gl X x:=by rfl) (hn:x≠"__name__":=by decide) (hdb:(x==("__debug__":Str))=θ:=by decide)
  (he:μ (e::es) X.env=(θ,eval e X.env)::μ es X.env:=by exact cj rfl) (hpl:(aah pos (μ es X.env)).any (·.1)=θ:=by exact iA rfl):aW X (.Call (.Name x p) (e::es) [] pos) (aF f da):=(Hq hc hg hm hv ha hn hdb he hpl).imp λσ H Q h=>F7 h
theorem j5{T:String}{x:Str}{p pos:Pos}{e:ο}{es:List ο}{da:aj}{f:List D->aa->R D}(hc:d8 X (.type T) (rN X.K f)) (hm:X.mg x=η) (hv:bootBuiltins x=ζ (.type T)) (ha:gX X (e::es) da) (hg:Gl X x:=by rfl) (hn:x≠"__name__":=by decide) (hdb:(x==("__debug__":Str))=θ:=by decide)
  (he:μ (e::es) X.env=(θ,eval e X.env)::μ es X.env:=by exact cj rfl) (hpl:(aah pos (μ es X.env)).any (·.1)=θ:=by exact iA rfl):aW X (.Call (.Name x p) (e::es) [] pos) (aF f da):=(Ho hc hg hm hv ha hn hdb he hpl).imp λσ H Q h=>F7 h
end
def bF:List D->aa->R D:=λxs c=>match xs with
 |[x]=>match fO c x with
  |some l=>.ok (.int l.length) c
  |none=>match x with
   |.str z=>if z.length<=ε then .ok (.int z.length) c else .bad
   |_=>.bad
 |_=>.bad
def FY:D->Option String
 |.aI=>ζ "NoneType"
 |.bl _=>ζ "bool"
 |.int _=>ζ "int"
 |.str _=>ζ "str"
 |.tup _=>ζ "tuple"
 |.lst _=>ζ "list"
 |.ref _=>ζ "list"
 |_=>η
def bC:List D->aa->R D:=λxs c=>match xs with
 |[.gK,.ty T]=>if T∈["bool","int","str","list","tuple","dict"]then .ok (.bl (uh "dict" T)) c else .bad
 |[x,.ty T]=>match FY x with
  |some n=>if T∈["bool","int","str","list","tuple","dict"]then .ok (.bl (uh n T)) c else .bad
  |none=>.bad
 |_=>.bad
def kq:List D->Option (List Bool)
 |[]=>ζ []
 |.bl b::l=>(kq l).map (b :: ·)
 |_=>η
def o7:List D->Option (List Int)
 |[]=>ζ []
 |.int i::l=>(o7 l).map (i :: ·)
 |_=>η
theorem zg(l:List Bool):kq (l.map D.bl)=ζ l:=by
 induction l with
 |nil=>rfl
 |cons a l ih=>simp[kq,ih]
theorem Zd(l:List Int):o7 (l.map D.int)=ζ l:=by
 induction l with
 |nil=>rfl
 |cons a l ih=>simp[o7,ih]
theorem vA:∀{l:List D}{bs:List Bool},kq l=ζ bs->l=bs.map D.bl
 |[],bs,h=>by cases h;rfl
 |d::l,bs,h=>by
  cases d with
  |bl b =>
   unfold kq at h;cases q:kq l with
   |none=>rw[q]at h;cases h
   |some r=>rw[q]at h;cases h;rw[vA q];rfl
  |_=>cases h
theorem Jl:∀{l:List D}{bs:List Int},o7 l=ζ bs->l=bs.map D.int
 |[],bs,h=>by cases h;rfl
 |d::l,bs,h=>by
  cases d with
  |int b =>
   unfold o7 at h;cases q:o7 l with
   |none=>rw[q]at h;cases h
   |some r=>rw[q]at h;cases h;rw[Jl q];rfl
  |_=>cases h
def mT(f:List Bool->Bool):List D->aa->R D:=λxs c=>match xs with
 |[.lst l]=>match kq l with
  |some bs=>.ok (.bl (f bs)) c
  |none=>.bad
 |_=>.bad
def dJ:=mT λbs=>bs.all id
def pY:=mT λbs=>bs.any id
def oO:List D->aa->R D:=λxs c=>match xs with
 |[.int i,.int j]=>.ok (.int (if j>i then j else i)) c
 |_=>.bad
def eZ:List D->aa->R D:=λxs c=>match xs with
 |[.int i,.int j]=>.ok (.int (if j<i then j else i)) c
 |_=>.bad
def fV:List D->aa->R D:=λxs c=>match xs with
 |[x]=>match fO c x with
  |some l=>.ok (.tup l) c
  |none=>.bad
 |_=>.bad
def jE:List D->aa->R D:=λxs c=>match xs with
 |[x]=>match fO c x with
  |some l=>.ok (.lst l) c
  |none=>.bad
 |_=>.bad
section
variable {X:Cx}{K:ξ}{ρ:List Ψ}{H:Hp}{c:aa}
theorem gU:d8 X (.builtin "len") (rN X.K bF):=by
 intro pins s σ H vs us Q I rv h;obtain⟨ρ,xs,c,W,rx,p⟩:=h;unfold bF at p;split at p
 ·rename_i x;obtain⟨v,r,rfl,hx,hr⟩:=rx;cases hr;split at p
  ·rename_i l hl;obtain⟨a,ys,rfl,sq,r⟩:=uv W hx hl;exact acO pins s σ H _ us Q I rv ⟨a,ys,rfl,sq,by rw[r.length];exact p.here W rfl⟩
  ·split at p
   ·split at p
    ·rename_i hz;cases hx;exact acN pins s σ H _ us Q I rv ⟨_,rfl,hz,p.here W rfl⟩
    ·exact p.elim
   ·exact p.elim
 ·exact p.elim
theorem N1{x:D}{v:V}{n:String}(W:Wd K ρ H c) (rx:Rel K ρ H x v) (h:FY x=ζ n):tyName H v n:=by
 cases x with
 |aI=>cases rx;cases h;exact rfl
 |bl b=>cases rx;cases h;exact rfl
 |int b=>cases rx;cases h;exact rfl
 |str b=>cases rx;cases h;exact rfl
 |tup l=>obtain⟨a,xs,rfl,s,r⟩:=rx;cases h;exact .inr (.inl ⟨rfl,xs,s⟩)
 |lst l=>obtain⟨a,xs,rfl,s,r⟩:=rx;cases h;exact .inl ⟨rfl,.inl ⟨xs,s.1⟩⟩
 |ref k =>
  obtain⟨a,rfl,s⟩:=rx;cases h;obtain⟨xs,e⟩:=W.at' (agk s);exact .inl ⟨rfl,.inl ⟨xs,e⟩⟩
 |_=>cases h
theorem jP:d8 X (.builtin "isinstance") (rN X.K bC):=by
 intro pins s σ H vs us Q I rv h;obtain⟨ρ,xs,c,W,rx,p⟩:=h;unfold bC at p;split at p
 ·split at p
  ·rename_i hT;obtain⟨v,r,rfl,⟨a,rfl,hH⟩,u,r',rfl,hu,hr⟩:=rx;cases hr;cases hu;obtain⟨u1,u2,rfl,r1,r2⟩:=Vals.two rv;cases r1;cases r2;obtain⟨hp,_,_⟩:=I.hok a _ hH;exact agE ais I.dX hp (IX (n:="dict") (by simp) hT) (λz=>nomatch z) λtk=>⟨.bl _,H,I.tok _,rfl,p.here W rfl⟩
  ·exact p.elim
 ·split at p
  ·rename_i n hn;split at p
   ·rename_i hT;obtain⟨v,r,rfl,hx,u,r',rfl,hu,hr⟩:=rx;cases hr;cases hu;exact acP pins s σ H _ us Q I rv ⟨v,n,_,rfl,N1 W hx hn,hT,p.here W rfl⟩
   ·exact p.elim
  ·exact p.elim
 ·exact p.elim
theorem sH(hc:X.calm=Γ:=by rfl):d8 X (.builtin "all") (rN X.K dJ):=by
 intro pins s σ H vs us Q I rv h;obtain⟨ρ,xs,c,W,rx,p⟩:=h;unfold dJ mT at p;split at p
 ·split at p
  ·rename_i bs hb;obtain⟨v,r,rfl,⟨a,ys,rfl,s1,r1⟩,hr⟩:=rx;cases hr;rw[vA hb]at r1;cases r1.EH;exact acT hc pins s σ H _ us Q I rv ⟨a,bs,rfl,bY.of s1.1,p.here W rfl⟩
  ·exact p.elim
 ·exact p.elim
theorem acG(hc:X.calm=Γ:=by rfl):d8 X (.builtin "any") (rN X.K pY):=by
 intro pins s σ H vs us Q I rv h;obtain⟨ρ,xs,c,W,rx,p⟩:=h;unfold pY mT at p;split at p
 ·split at p
  ·rename_i bs hb;obtain⟨v,r,rfl,⟨a,ys,rfl,s1,r1⟩,hr⟩:=rx;cases hr;rw[vA hb]at r1;cases r1.EH;exact acS hc pins s σ H _ us Q I rv ⟨a,bs,rfl,bY.of s1.1,p.here W rfl⟩
  ·exact p.elim
 ·exact p.elim
theorem acE(hc:X.calm=Γ:=by rfl):d8 X (.builtin "max") (rN X.K oO):=by
 intro pins s σ H vs us Q I rv h;obtain⟨ρ,xs,c,W,rx,p⟩:=h;unfold oO at p;split at p
 ·obtain⟨v,r,rfl,hx,u,r',rfl,hu,hr⟩:=rx;cases hr;cases hx;cases hu;exact acM hc pins s σ H _ us Q I rv ⟨_,_,rfl,p.here W rfl⟩
 ·exact p.elim
theorem sG(hc:X.calm=Γ:=by rfl):d8 X (.builtin "min") (rN X.K eZ):=by
 intro pins s σ H vs us Q I rv h;obtain⟨ρ,xs,c,W,rx,p⟩:=h;unfold eZ at p;split at p
 ·obtain⟨v,r,rfl,hx,u,r',rfl,hu,hr⟩:=rx;cases hr;cases hx;cases hu;exact acL hc pins s σ H _ us Q I rv ⟨_,_,rfl,p.here W rfl⟩
 ·exact p.elim
theorem sF:d8 X (.type "tuple") (rN X.K fV):=by
 intro pins s σ H vs us Q I rv h;obtain⟨ρ,xs,c,W,rx,p⟩:=h;unfold fV at p;split at p
 ·rename_i x;obtain⟨v,r,rfl,hx,hr⟩:=rx;cases hr;split at p
  ·rename_i l hl;obtain⟨a,ys,rfl,sq,r⟩:=uv W hx hl;refine acJ pins s σ H _ us Q I rv ⟨a,ys,rfl,?_⟩
   rcases sq with sq|sq
   ·exact .inl ⟨sq,oH W r p⟩
   ·refine .inr ⟨sq,?_⟩;cases x with
    |tup m=>cases hl;exact p.here W hx
    |lst m =>
     obtain⟨b,zs,e,s1,_⟩:=hx;cases e;exfalso
     rcases sq with sq|⟨o,its,n,hk,hcl,_⟩
     ·rcases sq with sq|⟨o,sq⟩<;>(rw[s1.1]at sq;cases sq)
     ·have:=I.bs a o (I.ok.mod.kh a o hk);rw[s1.1]at this;cases this.2
    |bQ m =>
     exfalso;obtain⟨b,e,s1⟩:=hx;cases e;obtain⟨i1,_,pl,_⟩:=I.list s1.sql;obtain⟨i2,_,pt,_⟩:=I.tuple sq;obtain⟨o1,e1,c1,_⟩:=pl.isList;obtain⟨o2,e2,c2,_⟩:=pt;rw[e1]at e2;cases e2;rw[c1]at c2;exact absurd c2 (by decide)
    |ref k =>
     exfalso;obtain⟨b,e,s1⟩:=hx;cases e;obtain⟨zs,hz⟩:=W.at' (agk s1)
     rcases sq with sq|⟨o,its,n,hk,hcl,_⟩
     ·rcases sq with sq|⟨o,sq⟩<;>(rw[hz]at sq;cases sq)
     ·have:=I.bs a o (I.ok.mod.kh a o hk);rw[hz]at this;cases this.2
    |_=>cases hl
  ·exact p.elim
 ·exact p.elim
theorem D4:d8 X (.type "list") (rN X.K jE):=by
 intro pins s σ H vs us Q I rv h;obtain⟨ρ,xs,c,W,rx,p⟩:=h;unfold jE at p;split at p
 ·rename_i x;obtain⟨v,r,rfl,hx,hr⟩:=rx;cases hr;split at p
  ·rename_i l hl;obtain⟨a,ys,rfl,sq,r⟩:=uv W hx hl;exact Lr pins s σ H _ us Q I rv ⟨a,ys,rfl,sq,rO W r p⟩
  ·exact p.elim
 ·exact p.elim
end
def vo(o a:af):af:=λe c=>(o e c).bind λx c=>match x with
 |.ref k=>(a e c).bind λy c=>match c[k]? with
  |some (.lst l)=>if l.length<ε/\noRef y=Γ then .ok .aI (c.set k (.lst (l++[y])))else .bad
  |none=>.bad
 |_=>.bad
theorem Tp{X:Cx}{o e:ο}{dO da:af}{apos cpos:Pos}(ho:aW X o dO) (ha:aW X e da)
  (hbase:aao o "append" X.env (eval o X.env)=eval o X.env:=by rfl)
  (hfew:((aah cpos (μ [e] X.env)).all (λx=>!x.1)&&(aaB cpos (aak [] X.env)).all (λx=>x.1.isSome)
   && decide ([e].length+([]:List aam).length+(if([]:List aam).isEmpty then 0 else 1)<30))=Γ:=by exact wC rfl)
  (hline:(apos.endLine==cpos.line)=Γ:=by rfl) (hs:μ [e] X.env=(θ,eval e X.env)::μ [] X.env:=by exact cj rfl) (hplain:(aah cpos (μ [] X.env)).any (·.1)=θ:=by exact iA rfl) :
  aW X (.Call (.Attribute o "append" apos) [e] [] cpos) (vo dO da) :=
 (uK ahO PySem.F.slot_list_append PySem.F.type_list_append Xp ho (je ha kQ hs) hbase hfew hline hs hplain).imp λσ H Q h=>by
  obtain⟨ρ,e,c,W,V,p⟩:=h;refine⟨ρ,e,c,W,V,post.bind p λx c1 aG H1 v _ W1 X1 r1 p1=>?_⟩
  cases x with
  |ref k =>
   obtain⟨a,rfl,ha⟩:=r1;obtain⟨xs,hx⟩:=W1.at' (agk ha);refine⟨.inl ⟨rfl,xs,bY.of hx⟩,aG,e,c1,W1,V.mono W X1,post.bind p1 λy c2 cz H2 u _ W2 X2 r2 p2=>?_⟩
   split at p2
   ·rename_i l hl;split at p2
    ·rename_i hh;obtain⟨nr,ys,hy,rl⟩:=W2.ff k a _ (X2.pre k a ha) hl;refine⟨a,ys,u,rfl,rfl,hy,by rw[rl.length];exact hh.1,?_⟩
     refine p2 cz _ .aI (W2.write (X2.pre k a ha) (by rw[uS,nr];simp[bL,hh.2]) (rl.append ⟨u,[],rfl,r2,rfl⟩)) (Ext.write (X2.pre k a ha)) rfl
    ·exact p2.elim
   ·exact p2.elim
  |_=>exact p1.elim
section
variable (e:Ev) (c:aa) (a b d:af) (ta tb:ai) (s t:ah) (l:aj) (g:Gd) (gs:List D->Ev->aa->R Ev)
@[simp] theorem bE(i:Nat):ak i e c=match e[i]? with|some (ζ d)=>.ok d c|_=>.bad:=rfl
@[simp] theorem fh(d:D):dC d e c=.ok d c:=rfl
@[simp] theorem cH(f:D->D->aa->R D):ay f a b e c=(a e c).bind λx c=>(b e c).bind λy c=>f x y c:=rfl
@[simp] theorem x_un(f:D->aa->R D):iI f a e c=(a e c).bind λx c=>f x c:=rfl
@[simp] theorem gZ(f:List D->aa->R D):aF f l e c=(l e c).bind λxs c=>f xs c:=rfl
@[simp] theorem MS(f g:D->D->aa->R D):iJ f g a b d e c=(a e c).bind λx c=>(b e c).bind λy c=>(f x y c).bind λz c=>match z with
 |.bl Γ=>(d e c).bind λu c=>g y u c
 |.bl θ=>.ok (.bl θ) c
 |_=>.bad:=rfl
@[simp] theorem bG:aq e c=.ok [] c:=rfl
@[simp] theorem bD:ao a l e c=(a e c).bind λx c=>(l e c).bind λxs c=>.ok (x::xs) c:=rfl
@[simp] theorem mD:aU l e c=(l e c).bind λxs c=>if xs.length<=ε then .ok (.tup xs) c else .bad:=rfl
@[simp] theorem mE:bT l e c=(l e c).bind λxs c=>if xs.length<=ε then .ok (.lst xs) c else .bad:=rfl
@[simp] theorem aeq:fU l e c=(l e c).bind λxs c=>if xs.length<=ε/\bL xs=Γ then .ok (.ref c.length) (c++[.lst xs])else .bad:=rfl
@[simp] theorem ek:aO a e c=(a e c).bind λx c=>match x with|.bl b=>.ok b c|_=>.bad:=rfl
@[simp] theorem aeC:ko ta tb e c=(ta e c).bind λx c=>if x=Γ then tb e c else .ok θ c:=rfl
@[simp] theorem tW:iU ta tb e c=(ta e c).bind λx c=>if x=Γ then .ok Γ c else tb e c:=rfl
@[simp] theorem i7:dI ta e c=(ta e c).bind λx c=>.ok (!x) c:=rfl
@[simp] theorem zY:fH a b e c=(a e c).bind λx c=>match x with|.bl k=>if k=Γ then b e c else .ok (.bl θ) c|_=>.bad:=rfl
@[simp] theorem MN:jO a e c=(a e c).bind λx c=>match x with|.bl k=>.ok (.bl (!k)) c|_=>.bad:=rfl
@[simp] theorem x_call(n:Nat) (m:List D->aa->R D):aC n m l e c=(l e c).bind λxs c=>if xs.length=n then m xs c else .bad:=rfl
@[simp] theorem aek:bN e c=.ok (.nx e) c:=rfl
@[simp] theorem aeB:uD e c=.bad:=rfl
@[simp] theorem gu:aD s t e c=(s e c).bind λf c=>match f with|.nx e=>t e c|f=>.ok f c:=rfl
@[simp] theorem kH:aR a e c=(a e c).bind λx c=>.ok (.rt x) c:=rfl
@[simp] theorem vY:dQ a e c=(a e c).bind λ_ c=>.ok (.nx e) c:=rfl
@[simp] theorem eF:bB ta s t e c=(ta e c).bind λx c=>if x=Γ then s e c else t e c:=rfl
@[simp] theorem gr(i:Nat):aE i a e c=(a e c).bind λx c=>.ok (.nx (e.set i (ζ x))) c:=rfl
@[simp] theorem zX:iB a g e c=(a e c).bind λx c=>(g x e c).bind λe c=>.ok (.nx e) c:=rfl
@[simp] theorem aew(i:Nat) (x:D):aA i x e c=.ok (e.set i (ζ x)) c:=rfl
@[simp] theorem aev:fq [] e c=.ok e c:=rfl
@[simp] theorem aex(x:D) (xs:List D):cA g gs (x::xs) e c=(g x e c).bind λe c=>gs xs e c:=rfl
@[simp] theorem aeu(n:Nat) (xs:List D):e9 n gs (.tup xs) e c=if xs.length=n then gs xs e c else .bad:=rfl
@[simp] theorem zV(x:D):iH a b x e c=(a e c).bind λo c=>(b e c).bind λi c=>(kK o i x c).bind λ_ c=>.ok e c:=rfl
@[simp] theorem i8(sr:Ev->aa->R Src):b8 sr g s e c=(sr e c).bind λq c=>cu q.stays g s q.items e c:=rfl
@[simp] theorem jt(n:Nat) (own:Bool) (xs:List D):cy n own s xs c=(s (cg n xs) c).bind λf c'=>match f with
 |.rt v=>cY own c.length v c'
 |.nx _=>cY own c.length .aI c'
 |_=>.bad:=rfl
@[simp] theorem aed(n:Nat) (xs:List D):cg n xs=xs.map ζ++ν (n-xs.length) η:=rfl
@[simp] theorem dB(sr:Ev->aa->R Src) (pick:List (Option Nat)):bg sr pick g ta a e c=(sr e c).bind λq c =>
 if q.items.length<ε then(bJ q.stays g ta a q.items (cR pick e) [] c).bind λl c=>.ok (.lst l) c else .bad:=rfl
@[simp] theorem nM:aT e c=.ok Γ c:=rfl
@[simp] theorem i9(i j:Int):bf (.int i) (.int j) c=.ok (.int (i+j)) c:=rfl
@[simp] theorem aeD(x y:List D):bf (.tup x) (.tup y) c=if x.length≠0/\x.length+y.length<=ε then .ok (.tup (x++y)) c else .bad:=rfl
@[simp] theorem Fp(i j:Int):eV (.int i) (.int j) c=.ok (.int (i-j)) c:=rfl
theorem Fq(i j:Int):dU (.int i) (.int j) c=if(-(2^64)<i/\i<2^64)\/(-(2^64)<j/\j<2^64)then .ok (.int (i*j)) c else .bad:=rfl
theorem MR(i j:Int):eN (.int i) (.int j) c=if 0<j/\j<1073741824 then .ok (.int (i/j)) c else .bad:=rfl
theorem MO(i j:Int):cI (.int i) (.int j) c=if 0<j then .ok (.int (i % j)) c else .bad:=rfl
theorem MM(i j:Int):rD (.int i) (.int j) c=if 0<=j/\j<=1000000/\i.natAbs<2^64 then .ok (.int (i^j.toNat)) c else .bad:=rfl
@[simp] theorem aen(i:Int):iE (.int i) c=.ok (.int (-i)) c:=rfl
@[simp] theorem aeA(p:Int->Int->Bool) (i j:Int):pL p (.int i) (.int j) c=.ok (.bl (p i j)) c:=rfl
@[simp] theorem Ft(i j:Int):cT (.int i) (.int j) c=.ok (.bl (decide (i=j))) c:=rfl
@[simp] theorem aem(i j:Int):eX (.int i) (.int j) c=.ok (.bl (!decide (i=j))) c:=rfl
@[simp] theorem aez(i j:Bool):cT (.bl i) (.bl j) c=.ok (.bl (decide (i=j))) c:=rfl
@[simp] theorem aeo(i j:Bool):eX (.bl i) (.bl j) c=.ok (.bl (!decide (i=j))) c:=rfl
@[simp] theorem aey(i j:Str):cT (.str i) (.str j) c=.ok (.bl (decide (i=j))) c:=rfl
@[simp] theorem ael(i j:Str):eX (.str i) (.str j) c=.ok (.bl (!decide (i=j))) c:=rfl
@[simp] theorem zU(xs:List D) (i:Int):aK (.tup xs) (.int i) c=match cM xs i with|some d=>.ok d c|none=>.bad:=rfl
@[simp] theorem jr(xs:List D) (i:Int):aK (.lst xs) (.int i) c=match cM xs i with|some d=>.ok d c|none=>.bad:=rfl
@[simp] theorem MP(xs:List D):bF [.tup xs] c=.ok (.int xs.length) c:=rfl
@[simp] theorem aes(xs:List D):bF [.lst xs] c=.ok (.int xs.length) c:=rfl
@[simp] theorem aer(xs:List Int):bF [.bQ xs] c=.ok (.int xs.length) c:=by
 show R.ok (D.int ((xs.map D.int).length:Nat)) c=_;rw[af7]
@[simp] theorem aep(i j:Int):oO [.int i,.int j] c=.ok (.int (if j>i then j else i)) c:=rfl
@[simp] theorem tX(i j:Int):eZ [.int i,.int j] c=.ok (.int (if j<i then j else i)) c:=rfl
@[simp] theorem aeM:noRef .aI=Γ:=rfl
@[simp] theorem r_bl(b:Bool):noRef (.bl b)=Γ:=rfl
@[simp] theorem aeO(b:Int):noRef (.int b)=Γ:=rfl
@[simp] theorem aeL(b:Str):noRef (.str b)=Γ:=rfl
@[simp] theorem QY(b:List D):noRef (.tup b)=bL b:=by simp[noRef]
@[simp] theorem QZ(b:List D):noRef (.lst b)=bL b:=by simp[noRef]
@[simp] theorem aeN:bL []=Γ:=by simp[bL]
@[simp] theorem aeP(d:D) (b:List D):bL (d::b)=(noRef d&&bL b):=by simp[bL]
@[simp] theorem q_bl(own:Bool) (n:Nat) (b:Bool):cY own n (.bl b) c=.ok (.bl b) (c.take n):=rfl
@[simp] theorem aeU(own:Bool) (n:Nat):cY own n .aI c=.ok .aI (c.take n):=rfl
@[simp] theorem aeW(own:Bool) (n:Nat) (b:Int):cY own n (.int b) c=.ok (.int b) (c.take n):=rfl
@[simp] theorem aeT(own:Bool) (n:Nat) (b:Str):cY own n (.str b) c=.ok (.str b) (c.take n):=rfl
@[simp] theorem aeS(own:Bool) (n:Nat) (b:List D):cY own n (.tup b) c=if bL b=Γ then .ok (.tup b) (c.take n)else .bad:=by
 show(if noRef (.tup b)=Γ then R.ok (D.tup b) (c.take n)else R.bad)=_
 rw[QY]
@[simp] theorem aeV(own:Bool) (n:Nat) (b:List D):cY own n (.lst b) c=if bL b=Γ then .ok (.lst b) (c.take n)else .bad:=by
 show(if noRef (.lst b)=Γ then R.ok (D.lst b) (c.take n)else R.bad)=_
 rw[QZ]
@[simp] theorem gv:bH l e c=(l e c).bind λxs c=>match xs with
 |[.int j]=>if -(2^62)<=j/\j<2^62 then .ok ⟨aM 0 j,λ_=>True⟩ c else .bad
 |_=>.bad:=rfl
@[simp] theorem nN:gi l e c=(l e c).bind λxs c=>match xs with
 |[.int i,.int j]=>if -(2^62)<=i/\i<2^62/\-(2^62)<=j/\j<2^62 then .ok ⟨aM i j,λ_=>True⟩ c else .bad
 |_=>.bad:=rfl
@[simp] theorem aeh:cV a e c=(a e c).bind λx c=>match x with
 |.lst l=>.ok ⟨l,λ_=>True⟩ c
 |.bQ l=>.ok ⟨l.map D.int,λ_=>True⟩ c
 |.ref k=>match c[k]? with
  |some (.lst l)=>.ok ⟨l,λc=>c[k]? = ζ (.lst l)⟩ c
  |none=>.bad
 |_=>.bad:=rfl
@[simp] theorem aeg:eE a e c=(a e c).bind λx c=>match x with
 |.tup l=>.ok ⟨l,λ_=>True⟩ c
 |_=>.bad:=rfl
end
section
variable (g:Gd) (s:ah) (t:ai) (a:af) (e:Ev) (c:aa)
@[simp] theorem afE:cu (λ_=>True) g s [] e c=.ok (.nx e) c:=by simp[cu]
@[simp] theorem pG(x:D) (xs:List D):cu (λ_=>True) g s (x::xs) e c=(g x e c).bind λe c=>(s e c).bind λf c=>match f with
   |.nx e=>cu (λ_=>True) g s xs e c
   |.ct e=>cu (λ_=>True) g s xs e c
   |.bk e=>.ok (.nx e) c
   |.rt d=>.ok (.rt d) c:=by
 conv=>lhs;unfold cu
 exact if_pos trivial
@[simp] theorem afJ(acc:List D):bJ (λ_=>True) g t a [] e acc c=.ok acc c:=by simp[bJ]
@[simp] theorem iu(x:D) (xs acc:List D):bJ (λ_=>True) g t a (x::xs) e acc c=(g x e c).bind λe c=>(t e c).bind λk c=>if k=Γ then(a e c).bind λy c=>bJ (λ_=>True) g t a xs e (acc++[y]) c else bJ (λ_=>True) g t a xs e acc c:=by
 conv=>lhs;unfold bJ
 exact if_pos trivial
end
@[simp] theorem gz{α:Type}(a:α) (l:List α):(a::l)[0]? = ζ a:=rfl
@[simp] theorem gs{α:Type}(a:α) (l:List α) (n:Nat):(a::l)[n+1]? = l[n]?:=rfl
@[simp] theorem pX{α:Type}(a:α) (l:List α):cM (a::l) 0=ζ a:=by simp[cM,fZ]
@[simp] theorem at1{α:Type}(a b:α) (l:List α):cM (a::b::l) 1=ζ b:=by
 unfold cM fZ;rw[if_pos (by decide),if_pos (by simp;omega)]
 rfl
@[simp] theorem at2{α:Type}(a b d:α) (l:List α):cM (a::b::d::l) 2=ζ d:=by
 unfold cM fZ;rw[if_pos (by decide),if_pos (by simp;omega)]
 rfl
@[simp] theorem at3{α:Type}(a b d f:α) (l:List α):cM (a::b::d::f::l) 3=ζ f:=by
 unfold cM fZ;rw[if_pos (by decide),if_pos (by simp;omega)]
 rfl
@[simp] theorem at4{α:Type}(a b d f h:α) (l:List α):cM (a::b::d::f::h::l) 4=ζ h:=by
 unfold cM fZ;rw[if_pos (by decide),if_pos (by simp;omega)]
 rfl
theorem cW{n:Nat}(h:n<=1000):n<=ε:=agf h (by decide)
@[simp] theorem sl0:(0:Nat)<=ε:=agK _
@[simp] theorem sl1:(1:Nat)<=ε:=by decide
@[simp] theorem sl2:(2:Nat)<=ε:=by decide
@[simp] theorem sl3:(3:Nat)<=ε:=by decide
@[simp] theorem Av:(4:Nat)<=ε:=by decide
@[simp] theorem sl5:(5:Nat)<=ε:=by decide
@[simp] theorem sl6:(6:Nat)<=ε:=by decide
@[simp] theorem st0:(0:Nat)<ε:=by decide
@[simp] theorem st1:(1:Nat)<ε:=by decide
@[simp] theorem st2:(2:Nat)<ε:=by decide
@[simp] theorem st3:(3:Nat)<ε:=by decide
@[simp] theorem Gs:(4:Nat)<ε:=by decide
@[simp] theorem nT:(5:Nat)<ε:=by decide
@[simp] theorem afp(i:Int) (c:aa):bC [.int i,.ty "int"] c=.ok (.bl Γ) c:=rfl
@[simp] theorem afq(i:Int) (c:aa):bC [.int i,.ty "bool"] c=.ok (.bl θ) c:=rfl
@[simp] theorem afn(i:Int) (c:aa):bC [.int i,.ty "str"] c=.ok (.bl θ) c:=rfl
@[simp] theorem afm(i:Int) (c:aa):bC [.int i,.ty "tuple"] c=.ok (.bl θ) c:=rfl
@[simp] theorem afo(i:Int) (c:aa):bC [.int i,.ty "list"] c=.ok (.bl θ) c:=rfl
@[simp] theorem afu(i:Bool) (c:aa):bC [.bl i,.ty "int"] c=.ok (.bl Γ) c:=rfl
@[simp] theorem afv(i:Bool) (c:aa):bC [.bl i,.ty "bool"] c=.ok (.bl Γ) c:=rfl
@[simp] theorem afs(i:Bool) (c:aa):bC [.bl i,.ty "str"] c=.ok (.bl θ) c:=rfl
@[simp] theorem afr(i:Bool) (c:aa):bC [.bl i,.ty "tuple"] c=.ok (.bl θ) c:=rfl
@[simp] theorem aft(i:Bool) (c:aa):bC [.bl i,.ty "list"] c=.ok (.bl θ) c:=rfl
@[simp] theorem ae9(i:Str) (c:aa):bC [.str i,.ty "int"] c=.ok (.bl θ) c:=rfl
@[simp] theorem afa(i:Str) (c:aa):bC [.str i,.ty "bool"] c=.ok (.bl θ) c:=rfl
@[simp] theorem ae7(i:Str) (c:aa):bC [.str i,.ty "str"] c=.ok (.bl Γ) c:=rfl
@[simp] theorem ae6(i:Str) (c:aa):bC [.str i,.ty "tuple"] c=.ok (.bl θ) c:=rfl
@[simp] theorem ae8(i:Str) (c:aa):bC [.str i,.ty "list"] c=.ok (.bl θ) c:=rfl
@[simp] theorem afe(c:aa):bC [.aI,.ty "int"] c=.ok (.bl θ) c:=rfl
@[simp] theorem afg(c:aa):bC [.aI,.ty "bool"] c=.ok (.bl θ) c:=rfl
@[simp] theorem afc(c:aa):bC [.aI,.ty "str"] c=.ok (.bl θ) c:=rfl
@[simp] theorem afb(c:aa):bC [.aI,.ty "tuple"] c=.ok (.bl θ) c:=rfl
@[simp] theorem afd(c:aa):bC [.aI,.ty "list"] c=.ok (.bl θ) c:=rfl
@[simp] theorem ae4(i:List D) (c:aa):bC [.tup i,.ty "int"] c=.ok (.bl θ) c:=rfl
@[simp] theorem ae5(i:List D) (c:aa):bC [.tup i,.ty "bool"] c=.ok (.bl θ) c:=rfl
@[simp] theorem ae2(i:List D) (c:aa):bC [.tup i,.ty "str"] c=.ok (.bl θ) c:=rfl
@[simp] theorem ae1(i:List D) (c:aa):bC [.tup i,.ty "tuple"] c=.ok (.bl Γ) c:=rfl
@[simp] theorem ae3(i:List D) (c:aa):bC [.tup i,.ty "list"] c=.ok (.bl θ) c:=rfl
@[simp] theorem afk(i:List D) (c:aa):bC [.lst i,.ty "int"] c=.ok (.bl θ) c:=rfl
@[simp] theorem afl(i:List D) (c:aa):bC [.lst i,.ty "bool"] c=.ok (.bl θ) c:=rfl
@[simp] theorem afi(i:List D) (c:aa):bC [.lst i,.ty "str"] c=.ok (.bl θ) c:=rfl
@[simp] theorem afh(i:List D) (c:aa):bC [.lst i,.ty "tuple"] c=.ok (.bl θ) c:=rfl
@[simp] theorem afj(i:List D) (c:aa):bC [.lst i,.ty "list"] c=.ok (.bl Γ) c:=rfl
section
variable (c:aa) {i j:Int}
theorem A1(h1:-18446744073709551616<i) (h2:i<18446744073709551616):dU (.int i) (.int j) c=.ok (.int (i*j)) c:=by
 rw[Fq,if_pos];exact .inl ⟨by omega,by omega⟩
theorem mul_r(h1:-18446744073709551616<j) (h2:j<18446744073709551616):dU (.int i) (.int j) c=.ok (.int (i*j)) c:=by
 rw[Fq,if_pos];exact .inr ⟨by omega,by omega⟩
theorem sj(h1:0<j) (h2:j<1073741824):eN (.int i) (.int j) c=.ok (.int (i/j)) c:=by
 rw[MR,if_pos ⟨h1,h2⟩]
theorem mX(h1:0<j):cI (.int i) (.int j) c=.ok (.int (i % j)) c:=by
 rw[MO,if_pos h1]
theorem G5(h1:0<=j) (h2:j<=1000000) (h3:i.natAbs<18446744073709551616):rD (.int i) (.int j) c=.ok (.int (i^j.toNat)) c:=by
 rw[MM,if_pos ⟨h1,h2,h3⟩]
end
section
variable {g:Gd}{s:ah}{t:ai}{a:af}
theorem pJ{c:aa}(inv:Ev->Prop) (F:D->Bool) (G:D->D):∀(items:List D) (e:Ev) (acc:List D),inv e ->
  (∀x∈items,∀e,inv e->∃e',g x e c=.ok e' c/\inv e'/\t e' c=.ok (F x) c/\(F x=Γ->a e' c=.ok (G x) c)) ->
  bJ (λ_=>True) g t a items e acc c=.ok (acc++(items.filter F).map G) c
 |[],e,acc,_,_=>by simp
 |x::xs,e,acc,hi,h=>by
  obtain⟨e',h1,h2,h3,h4⟩:=h x agN e hi;rw[iu,h1,R.az,h3,R.az];cases hF:F x with
  |true =>
   rw[if_pos rfl,h4 hF,R.az,pJ inv F G xs e' _ h2 λy hy=>h y (agy _ hy)]
   simp[hF]
  |false =>
   rw[if_neg agg,pJ inv F G xs e' _ h2 λy hy=>h y (agy _ hy)]
   simp[hF]
theorem J8(inv:Ev->Prop):∀(items:List D) (e:Ev) (c:aa),inv e ->
  (∀x∈items,∀e c,inv e->∃e' e'' c' c'',g x e c=.ok e' c'/\s e' c'=.ok (.nx e'') c''/\inv e'') ->
  ∃e' c',inv e'/\cu (λ_=>True) g s items e c=.ok (.nx e') c'
 |[],e,c,hi,_=>⟨e,c,hi,by simp⟩
 |x::xs,e,c,hi,h=>by
  obtain⟨e',e'',c',c'',h1,h2,h3⟩:=h x agN e c hi;obtain⟨e3,c3,i3,h4⟩:=J8 inv xs e'' c'' h3 λy hy=>h y (agy _ hy)
  exact⟨e3,c3,i3,by rw[pG,h1,R.az,h2];exact h4⟩
theorem J7(inv:Ev->aa->Prop):∀(items:List D) (e:Ev) (c:aa),inv e c ->
  (∀x∈items,∀e c,inv e c->∃e' e'' c' c'',g x e c=.ok e' c'/\s e' c'=.ok (.nx e'') c''/\inv e'' c'') ->
  ∃e' c',inv e' c'/\cu (λ_=>True) g s items e c=.ok (.nx e') c'
 |[],e,c,hi,_=>⟨e,c,hi,by simp⟩
 |x::xs,e,c,hi,h=>by
  obtain⟨e',e'',c',c'',h1,h2,h3⟩:=h x agN e c hi;obtain⟨e3,c3,i3,h4⟩:=J7 inv xs e'' c'' h3 λy hy=>h y (agy _ hy)
  exact⟨e3,c3,i3,by rw[pG,h1,R.az,h2];exact h4⟩
end
theorem oN{lo hi:Int}{d:D}(h:d∈aM lo hi):∃i:Int,d=.int i/\lo<=i/\i<hi:=by
 unfold aM at h;obtain⟨k,hk,rfl⟩:=af4.mp h;have:=age.mp hk;exact⟨lo+k,rfl,by omega,by omega⟩
theorem dG{lo hi:Int}:(aM lo hi).length=(hi-lo).toNat:=by simp[aM]
def dW(c:aa):D->Option (List D)
 |.lst l=>ζ l
 |.ref k=>match c[k]? with
  |some (.lst l)=>ζ l
  |none=>η
 |_=>η
def iw:D->D->aa->R D:=λx y c=>match dW c x,dW c y with
 |some l,ζ m=>if l.length+m.length<=ε then .ok (.lst (l++m)) c else .bad
 |_,_=>.bad
def cutD(xs:List D) (lo hi:Option Int):List D:=(xs.drop (HT.bA xs.length 0 lo)).take (HT.bA xs.length xs.length hi-HT.bA xs.length 0 lo)
def nk(a:af) (lo hi:Ev->aa->R (Option Int)):af:=λe c=>(a e c).bind λx c=>(lo e c).bind λl c=>(hi e c).bind λu c=>match dW c x with
 |some xs=>.ok (.lst (cutD xs l u)) c
 |none=>.bad
def cZ:Ev->aa->R (Option Int):=λ_ c=>.ok η c
def c8(a:af):Ev->aa->R (Option Int):=λe c=>(a e c).bind λx c=>match x with
 |.int i=>.ok (ζ i) c
 |_=>.bad
section
variable {X:Cx}{K:ξ}{ρ ρ':List Ψ}{H H':Hp}{c c':aa}
theorem xS{x:D}{v:V}{l:List D}(W:Wd K ρ H c) (rx:Rel K ρ H x v) (h:dW c x=ζ l):∃a xs,v=.ref a/\H a=ζ (.lst xs)/\aH K ρ H l xs:=by
 cases x with
 |lst m =>
  cases h;obtain⟨a,xs,e,s,r⟩:=rx;exact⟨a,xs,e,s.1,r⟩
 |ref k =>
  obtain⟨a,e,s⟩:=rx;unfold dW at h;dsimp only at h;cases hc:c[k]? with
  |none=>rw[hc]at h;cases h
  |some cl =>
   cases cl with
   |lst m =>
    rw[hc]at h;cases h;obtain⟨_,xs,hx,r⟩:=W.ff k a _ s hc;exact⟨a,xs,e,hx,r⟩
 |_=>cases h
theorem uQ:bK X (binaryOp .Add) (r2 X.K iw):=by
 intro pins s σ H v u vv uu Q I rv ru h;obtain⟨ρ,x,y,c,W,rx,ry,p⟩:=h;unfold iw at p;split at p
 ·rename_i l m hl hm;split at p
  ·rename_i hz;obtain⟨a,xs,rfl,ha,ra⟩:=xS W rx hl;obtain⟨b,ys,rfl,hb,rb⟩:=xS W ry hm;exact T8 pins s σ H _ _ vv uu Q I rv ru ⟨a,b,xs,ys,rfl,rfl,ha,hb,by rw[ra.length,rb.length];exact hz,rO W (ra.append rb) p⟩
  ·exact p.elim
 ·exact p.elim
abbrev mq(X:Cx) (e:Option ο) (d:Ev->aa->R (Option Int)):Prop:=PO X e (tD X.K (λ_ _ a b=>a=b) d)
theorem PO.imp{e:Option ο}{t t':TO}(h:PO X e t) (i:∀σ H Q,t' σ H Q->t σ H Q):PO X e t':=λpins s σ H Q I q=>h pins s σ H Q I (i _ _ _ q)
theorem jy:mq X η cZ:=RU.imp λσ H Q h=>by
 obtain⟨ρ,e,c,W,Vv,p⟩:=h;exact p.here W rfl
theorem j4{e:ο}{d:af}(h:aW X e d):mq X (ζ e) (c8 d):=(RT h).imp λσ H Q h=>by
 obtain⟨ρ,e,c,W,Vv,p⟩:=h;refine⟨ρ,e,c,W,Vv,post.bind p λx c1 aG H1 v _ W1 X1 r1 p1=>?_⟩
 cases x with
 |int i=>cases r1;exact⟨i,rfl,p1.here W1 rfl⟩
 |_=>exact p1.elim
theorem KA{l:List D}{xs:List V}{lo hi:Option Int}(r:aH K ρ H l xs):aH K ρ H (cutD l lo hi) (nv xs lo hi):=by
 unfold cutD nv;rw[r.length];exact(r.drop _).take _
theorem Hs{e:ο}{lo hi:Option ο}{p2 pos:Pos}{da:af}{dl dh:Ev->aa->R (Option Int)}(he:aW X e da) (hl:mq X lo dl) (hh:mq X hi dh):aW X (.Subscript e (.Slice lo hi η p2) pos) (nk da dl dh) :=
 (Hi O6 he hl hh).imp λσ H Q h=>by
  obtain⟨ρ,e,c,W,Vv,p⟩:=h;refine⟨ρ,e,c,W,Vv,post.bind p λx c1 aG H1 v _ W1 X1 r1 p1=>⟨aG,e,c1,W1,Vv.mono W X1,post.bind p1 λl c2 cz H2 l' _ W2 X2 r2 p2=>⟨cz,e,c2,W2,(Vv.mono W X1).mono W1 X2,post.bind p2 λu c3 kG H3 u' _ W3 X3 r3 p3=>?_⟩⟩⟩
  cases r2;cases r3;have rx:=Rel.mono W1 (X2.trans X3) _ _ r1;split at p3
  ·rename_i xs hs;obtain⟨a,ys,rfl,ha,r⟩:=xS W3 rx hs;exact⟨a,ys,rfl,bY.of ha,rO W3 (KA r) p3⟩
  ·exact p3.elim
end
section
variable (e:Ev) (c:aa) (a:af) (lo hi:Ev->aa->R (Option Int)) (l:aj)
@[simp] theorem x_sl:nk a lo hi e c=(a e c).bind λx c=>(lo e c).bind λl c=>(hi e c).bind λu c=>match dW c x with
 |some xs=>.ok (.lst (cutD xs l u)) c
 |none=>.bad:=rfl
@[simp] theorem aej:cZ e c=.ok η c:=rfl
@[simp] theorem aei:c8 a e c=(a e c).bind λx c=>match x with
 |.int i=>.ok (ζ i) c
 |_=>.bad:=rfl
@[simp] theorem ae0(x:List D):dW c (.lst x)=ζ x:=rfl
end
section
variable {g:Gd}{s:ah}{t:ai}{a:af}
theorem adh{dO da:af}{e:Ev}{c:aa}{acc:List D}{y:D}(ho:dO e (c++[.lst acc])=.ok (.ref c.length) (c++[.lst acc])) (ha:da e (c++[.lst acc])=.ok y (c++[.lst acc])) (hy:noRef y=Γ) (hl:acc.length+1<=1000000) :
  vo dO da e (c++[.lst acc])=.ok .aI (c++[.lst (acc++[y])]):=by
 have h1:acc.length<ε:=af3 (by omega:acc.length<1000000) (by decide)
 unfold vo;rw[ho,R.az];dsimp only;rw[ha,R.az];have e1:(c++[Cell.lst acc])[c.length]? = ζ (.lst acc):=by simp
 have e2:(c++[Cell.lst acc]).set c.length (.lst (acc++[y]))=c++[.lst (acc++[y])]:=by simp
 rw[e1];dsimp only;rw[if_pos ⟨h1,hy⟩,e2]
end
mutual
def eO:D->Option aa7
 |.aI=>ζ .none
 |.bl b=>ζ (.bool b)
 |.int i=>ζ (.int i)
 |.str x=>if PyData.strOk x=Γ then ζ (.str x)else η
 |.tup l=>match gM l with
  |some r=>ζ (.tuple r)
  |none=>η
 |.lst l=>match gM l with
  |some r=>ζ (.list r)
  |none=>η
 |.ty _=>η
 |.ref _=>η
 |.bQ _=>η
 |.fn _ _=>η
 |.exc _=>η
 |.gK=>η
 |.dct _=>η
 |.lam _ _ _ _=>η
def gM:List D->Option (List aa7)
 |[]=>ζ []
 |d::l=>match eO d,gM l with
  |some a,ζ r=>ζ (a::r)
  |_,_=>η
end
def gg(c:aa):D->Option aa7
 |.ref k=>match c[k]? with
  |some (.lst l)=>match gM l with
   |some r=>ζ (.list r)
   |none=>η
  |none=>η
 |d=>eO d
def mW:D->D->aa->R D:=λx y c=>match gg c x,gg c y with
 |some p,ζ q=>if p.depth<=64/\q.depth<=64 then .ok (.bl (!p.eqv q)) c else .bad
 |_,_=>.bad
def inD:D->D->aa->R D:=λx y c=>match gg c x,gg c y with
 |some p,ζ (.list ys)=>if p.depth<=62 then .ok (.bl (ys.any λz=>z.eqv p)) c else .bad
 |some p,ζ (.tuple ys)=>if p.depth<=62 then .ok (.bl (ys.any λz=>z.eqv p)) c else .bad
 |_,_=>.bad
def mV:D->D->aa->R D:=λx y c=>match gg c x,gg c y with
 |some p,ζ (.list ys)=>if p.depth<=62 then .ok (.bl (!ys.any λz=>z.eqv p)) c else .bad
 |some p,ζ (.tuple ys)=>if p.depth<=62 then .ok (.bl (!ys.any λz=>z.eqv p)) c else .bad
 |_,_=>.bad
section
variable {X:Cx}{pins:List (Ψ×Obj)}{σ:St}{ρ:List Ψ}{H:Hp}{s:Ω}{c:aa}
mutual
theorem iD(I:Inv X pins σ H s):∀(d:D) (v:V) (u:Δ) (p:aa7),Rel X.K ρ H d v->RelV v u->eO d=ζ p->(∃as,Reads s.heap u p as)/\p.canLay0=Γ
 |.aI,v,u,p,r,ru,e=>by
  cases r;cases ru;cases e;exact⟨⟨_,.none⟩,by simp[PyData.canLay0]⟩
 |.bl b,v,u,p,r,ru,e=>by
  cases r;cases ru;cases e;exact⟨⟨_,.bool b⟩,by simp[PyData.canLay0]⟩
 |.int i,v,u,p,r,ru,e=>by
  cases r;obtain⟨t,rfl⟩:=ru;cases e;exact⟨⟨_,.int i t⟩,by simp[PyData.canLay0]⟩
 |.str x,v,u,p,r,ru,e=>by
  cases r;obtain⟨t,rfl⟩:=ru;unfold eO at e;split at e
  ·rename_i hx;cases e;exact⟨⟨_,.str x t⟩,by simpa[PyData.canLay0]using hx⟩
  ·cases e
 |.tup l,v,u,p,r,ru,e=>by
  obtain⟨a,xs,rfl,ha,rs⟩:=r;cases ru;unfold eO at e;split at e
  ·rename_i q hq;cases e;obtain⟨its,vs,⟨o,h1,h2,n,h3⟩,_⟩:=I.tuple (bU.of ha);obtain⟨⟨as,ra⟩,hc⟩:=wQ I l xs its q rs vs hq;exact⟨⟨_,.tuple h1 h2 h3 (by simpa using ra)⟩,by simpa[PyData.canLay0]using hc⟩
  ·cases e
 |.lst l,v,u,p,r,ru,e=>by
  obtain⟨a,xs,rfl,ha,rs⟩:=r;cases ru;unfold eO at e;split at e
  ·rename_i q hq;cases e;obtain⟨its,vs,pl,_⟩:=I.list (bY.of ha.1);obtain⟨o,h1,h2,n,h3⟩:=pl.isList;obtain⟨⟨as,ra⟩,hc⟩:=wQ I l xs its q rs vs hq;exact⟨⟨_,.list h1 h2 h3 (by simpa using ra)⟩,by simpa[PyData.canLay0]using hc⟩
  ·cases e
 |.ty _,v,u,p,r,ru,e=>by simp[eO]at e
 |.ref _,v,u,p,r,ru,e=>by simp[eO]at e
 |.bQ _,v,u,p,r,ru,e=>by simp[eO]at e
 |.fn _ _,v,u,p,r,ru,e=>by simp[eO]at e
 |.exc _,v,u,p,r,ru,e=>by simp[eO]at e
 |.gK,v,u,p,r,ru,e=>by simp[eO]at e
 |.dct _,v,u,p,r,ru,e=>by simp[eO]at e
 |.lam _ _ _ _,v,u,p,r,ru,e=>by simp[eO]at e
theorem wQ(I:Inv X pins σ H s):∀(l:List D) (vs:List V) (us:List Δ) (ps:List aa7),aH X.K ρ H l vs->Vals vs us->gM l=ζ ps->(∃as,ReadsAll s.heap us ps as)/\PyData.canLayAll0 ps=Γ
 |[],vs,us,ps,r,ru,e=>by
  cases r;cases ru;cases e;exact⟨⟨_,.nil⟩,by simp[PyData.canLayAll0]⟩
 |d::l,vs,us,ps,r,ru,e=>by
  obtain⟨x,xs,rfl,r1,r2⟩:=r;cases ru with
  |cons q1 q2 =>
   unfold gM at e;split at e
   ·rename_i a r e1 e2;cases e;obtain⟨⟨as,ra⟩,ca⟩:=iD I d x _ a r1 q1 e1;obtain⟨⟨bs,rb⟩,cb⟩:=wQ I l xs _ r r2 q2 e2;exact⟨⟨_,.cons ra rb⟩,by simp[PyData.canLayAll0,ca,cb]⟩
   ·cases e
end
theorem jY(I:Inv X pins σ H s) (W:Wd X.K ρ H c) {d:D}{v:V}{u:Δ}{p:aa7}(r:Rel X.K ρ H d v) (ru:RelV v u) (e:gg c d=ζ p):(∃as,Reads s.heap u p as)/\p.canLay0=Γ:=by
 cases d with
 |ref k =>
  unfold gg at e;dsimp only at e;cases hc:c[k]? with
  |none=>rw[hc]at e;cases e
  |some cl =>
   cases cl with
   |lst l =>
    rw[hc]at e;dsimp only at e;split at e
    ·rename_i q hq;cases e;obtain⟨a,rfl,s1⟩:=r;cases ru;obtain⟨_,xs,hx,rs⟩:=W.ff k a _ s1 hc;obtain⟨its,vs,pl,_⟩:=I.list (bY.of hx);obtain⟨o,h1,h2,n,h3⟩:=pl.isList;obtain⟨⟨as,ra⟩,hc⟩:=wQ I l xs its q rs vs hq;exact⟨⟨_,.list h1 h2 h3 (by simpa using ra)⟩,by simpa[PyData.canLay0]using hc⟩
    ·cases e
 |aI=>exact iD I _ v u p r ru e
 |bl b=>exact iD I _ v u p r ru e
 |int b=>exact iD I _ v u p r ru e
 |str b=>exact iD I _ v u p r ru e
 |tup b=>exact iD I _ v u p r ru e
 |lst b=>exact iD I _ v u p r ru e
 |ty b=>exact iD I _ v u p r ru e
 |bQ b=>exact iD I _ v u p r ru e
 |fn b n=>exact iD I _ v u p r ru e
 |exc b=>exact iD I _ v u p r ru e
 |dct b=>exact iD I _ v u p r ru e
 |gK=>exact iD I _ v u p r ru e
 |lam k y ns l=>exact iD I _ v u p r ru e
theorem UQ(hu:X.A.units+64<aaR):bK X (compareOp .NotEq) (r2 X.K mW):=by
 intro pins s σ H v u vv uu Q I rv ru h;obtain⟨ρ,x,y,c,W,rx,ry,p⟩:=h;unfold mW at p;split at p
 ·rename_i a b ha hb;split at p
  ·rename_i hd;obtain⟨⟨as,ra⟩,ca⟩:=jY I W rx rv ha;obtain⟨⟨bs,rb⟩,cb⟩:=jY I W ry ru hb;exact PySem.SeqAt.compareNe_shaped ra rb (by simp[PySem.SeqAt.shaped,ca,hd.1]) (by simp[PySem.SeqAt.shaped,cb,hd.2]) hu ⟨.bl _,H,I,rfl,p.here W rfl⟩
  ·exact p.elim
 ·exact p.elim
theorem xZ{A:χ}{p:aa7}{ys:List aa7}(hu:A.units+64<aaR) (hd:p.depth<=62):A.units+1+min (PyData.depthAll ys) p.depth<aaR:=by
 have:=ajc (PyData.depthAll ys) p.depth;omega
theorem rL(hu:X.A.units+64<aaR):bK X (compareOp .In) (r2 X.K inD):=by
 intro pins s σ H v u vv uu Q I rv ru h;obtain⟨ρ,x,y,c,W,rx,ry,p⟩:=h;unfold inD at p;split at p
 ·rename_i a ys ha hb;split at p
  ·rename_i hd;obtain⟨⟨as,ra⟩,ca⟩:=jY I W rx rv ha;obtain⟨⟨bs,rb⟩,cb⟩:=jY I W ry ru hb;exact PySem.SeqAt.in_list_reads rb ra (by simpa[PyData.canLay0]using cb) ca (xZ hu hd) ⟨.bl _,H,I,rfl,p.here W rfl⟩
  ·exact p.elim
 ·rename_i a ys ha hb;split at p
  ·rename_i hd;obtain⟨⟨as,ra⟩,ca⟩:=jY I W rx rv ha;obtain⟨⟨bs,rb⟩,cb⟩:=jY I W ry ru hb;exact PySem.SeqAt.in_tuple_reads rb ra (by simpa[PyData.canLay0]using cb) ca (xZ hu hd) ⟨.bl _,H,I,rfl,p.here W rfl⟩
  ·exact p.elim
 ·exact p.elim
theorem UP(hu:X.A.units+64<aaR):bK X (compareOp .NotIn) (r2 X.K mV):=by
 intro pins s σ H v u vv uu Q I rv ru h;obtain⟨ρ,x,y,c,W,rx,ry,p⟩:=h;unfold mV at p;split at p
 ·rename_i a ys ha hb;split at p
  ·rename_i hd;obtain⟨⟨as,ra⟩,ca⟩:=jY I W rx rv ha;obtain⟨⟨bs,rb⟩,cb⟩:=jY I W ry ru hb;exact PySem.SeqAt.notIn_list_reads rb ra (by simpa[PyData.canLay0]using cb) ca (xZ hu hd) ⟨.bl _,H,I,rfl,p.here W rfl⟩
  ·exact p.elim
 ·rename_i a ys ha hb;split at p
  ·rename_i hd;obtain⟨⟨as,ra⟩,ca⟩:=jY I W rx rv ha;obtain⟨⟨bs,rb⟩,cb⟩:=jY I W ry ru hb;exact PySem.SeqAt.notIn_tuple_reads rb ra (by simpa[PyData.canLay0]using cb) ca (xZ hu hd) ⟨.bl _,H,I,rfl,p.here W rfl⟩
  ·exact p.elim
 ·exact p.elim
end
theorem jI{A:χ}{k:Nat}(hr:cP k A):A.units+64<aaR:=by have:=hr.un;omega
section
variable (c:aa)
@[simp] theorem afG:eO .aI=ζ .none:=by simp only[eO]
@[simp] theorem afI(b:Bool):eO (.bl b)=ζ (.bool b):=by simp only[eO]
@[simp] theorem afH(i:Int):eO (.int i)=ζ (.int i):=by simp only[eO]
@[simp] theorem afF:gM []=ζ []:=by simp only[gM]
end
end L2
namespace L2
open PySem PySem.Spec PyProof.Rows
def vD:D->D->aa->R D:=λx y c=>match x,y with
 |.int i,.int j=>.ok (.int (Builtin.bitAnd i j)) c
 |_,_=>.bad
section
variable {X:Cx}
theorem Vn:bK X (binaryOp .BitAnd) (r2 X.K vD):=by
 intro pins s σ H v u vv uu Q I rv ru h;obtain⟨ρ,x,y,c,W,rx,ry,p⟩:=h;unfold vD at p;split at p
 ·cases rx;cases ry;exact T9 pins s σ H _ _ vv uu Q I rv ru ⟨_,_,rfl,rfl,p.here W rfl⟩
 ·exact p.elim
end
def Fb(K:ξ) (H:Hp) (l:List Env) (x:Str) (h₀:ψ) (H₀:Hp) (e:Δ) (h:ψ):Prop :=
 ∃ea C t B,e=.ref ea/\Ξ K Θ x=ζ (ζ (.ref C))/\aal B l ea (.ref C) (.ref t) h/\(∀b u,H b=ζ u->∃o,B.get? b=ζ o) /\
  (∀b o,h₀.get? b=ζ o->b∉frs l->∃o',B.get? b=ζ o')/\∀b o,h₀.get? b=ζ o->H₀ b=η->b∉frs l->B.get? b=ζ o
def iZ(P:τ) (w:υ) (K:ξ):mz:=λouter H s E e s'=>∃x H',s'.os=s.os/\aap s'.gens/\Un (frs outer) [] H H' s.heap s'.heap/\bZ P w H' s'.heap/\Fb K H' outer x s.heap H e s'.heap/\E (.str x 0) η H'
def vS(X:Cx) (x:Str) (H2:Hp):Prop :=
 ∀pins σ H1 s1 e s2,Inv X pins σ H1 s1->s2.os=s1.os->aap s2.gens->Un (frs X.stack) [] H1 H2 s1.heap s2.heap->bZ X.prog X.w H2 s2.heap->Fb X.K H2 X.stack x s1.heap H1 e s2.heap->X.xe e s2
def zx(X:Cx) (x:Str) (H2:Hp):Prop:=vS X x H2 /\
 (∀pins σ s ea C args h',Inv X pins σ H2 s->Ξ X.K Θ x=ζ (ζ (.ref C))->Heap.MadeExcOf s.heap h' ea (.ref C) args->X.xe (.ref ea) {s with heap:=h'})
theorem Tq{X:Cx}:Passes (iZ X.prog X.w X.K) X λv _ H'=>∀x,v=.str x 0->vS X x H':=by
 intro pins σ H s e s' I h;obtain⟨x,H',h1,h2,h3,h4,h5,h6⟩:=h;exact h6 x rfl pins σ H s e s' I h1 h2 h3 h4 h5
theorem HJ{P:τ}{w:υ}{H:Hp}{h:ψ}{a:Ψ}{o:HO}(x:dz P w H h a o):∃u,h.get? a=ζ u:=by
 cases o with
 |lst xs=>obtain⟨_,_,_,_,e⟩:=x;exact⟨_,e⟩
 |tup xs=>obtain⟨_,_,_,_,e,_⟩:=x;exact⟨_,e⟩
 |dK kvs=>obtain⟨_,_,_,_,o,_,_,e,_⟩:=x;exact⟨_,e⟩
 |dT kvs=>obtain⟨_,_,_,_,o,_,_,e,_⟩:=x;exact⟨_,e⟩
 |set S n=>obtain⟨o,_,_,_,e,_⟩:=x;exact⟨_,e⟩
 |ins C dx fs=>obtain⟨_,_,_,e,_⟩:=x;exact⟨_,e⟩
 |own y=>obtain⟨_,e⟩:=x;exact⟨_,e⟩
 |xd fs=>obtain⟨_,⟨_,_,_,e,_⟩,_⟩:=x;exact⟨_,e⟩
 |wN lo hi=>obtain⟨_,_,_,e⟩:=x;exact⟨_,e⟩
 |cB ob u=>obtain⟨e,_⟩:=x;exact⟨_,e⟩
 |cD ps=>exact⟨_,(show h.get? a=ζ _ from x)⟩
 |met f y=>exact⟨_,(show h.get? a=ζ _ from x)⟩
 |ext φ=>obtain⟨_,⟨_,e⟩,_⟩:=x;exact⟨_,e⟩
section
variable {P:τ}{w:υ}{K:ξ}{mg:Str->Option Δ}{base:ψ}{N:List Str}{qual:Str}{scope:aaj}{f:Ψ}{cd:Δ}{A:χ}{outer:List Env}{s:Ω}{H:Hp}{E:XK}
theorem Cu{H:Hp}{h h' B:ψ}(x:bZ P w H h) (st:B.StaysIn h') (sh:∀b o,B.get? b=ζ o->h.get? b=ζ o) (fW:∀b u,H b=ζ u->∃o,B.get? b=ζ o):bZ P w H h':=λa o e=>by
 refine(x a o e).stay (λb u hb q=>?_) (λ_ q=>q) λ_ _ q=>q
 have hb':∃u',H b=ζ u':=by
  rcases hb with rfl|hb
  ·exact⟨_,e⟩
  ·exact⟨_,hb⟩
 obtain⟨u',hu⟩:=hb';obtain⟨o',ho⟩:=fW b u' hu;have:=sh b o' ho;rw[q]at this;cases this;exact st b _ ho
theorem XM{pins:List (Ψ×Obj)}{σ:St}{H1:Hp}{s1:Ω}{x:Str}{C ea:Ψ}{args:List Δ}{h':ψ}(I:Inv (fu (iZ P w K) P w K mg base N qual scope f cd A outer s H E) pins σ H1 s1) (hn:Ξ K Θ x=ζ (ζ (.ref C)))
  (hx:Heap.MadeExcOf s1.heap h' ea (.ref C) args) (hE:E (.str x 0) η H1):(fu (iZ P w K) P w K mg base N qual scope f cd A outer s H E).xe (.ref ea) {s1 with heap:=h'}:=by
 have hfr:(A.deeper (envOfC qual scope s.heap.objs.size f cd)).frames=ζ (envOfC qual scope s.heap.objs.size f cd::outer):=I.ok.frames;have hst:=I.stack;have Zw:=I.wB;have hb:=I.base;have hfs:frs (envOfC qual scope s.heap.objs.size f cd::outer)=s.heap.objs.size::frs outer:=rfl;have gS:∀b:Ψ,b∉(fu (iZ P w K) P w K mg base N qual scope f cd A outer s H E).ex:=λb z=>absurd (show b∈([]:List Ψ)from z) (by simp)
 let as:=frs (envOfC qual scope s.heap.objs.size f cd::outer)
 have hin:∀env∈(envOfC qual scope s.heap.objs.size f cd::outer),∀a,env.frame=ζ a->a∈as:=λenv he b hb=>ahD.mpr ⟨env,he,hb⟩
 have hF:s1.heap.FunFrames (PySem.W.hideAll s1.heap as) (envOfC qual scope s.heap.objs.size f cd::outer):=PySem.W.funFrames_hide hst hin;show wpAny (model P w) (A.deeper (envOfC qual scope s.heap.objs.size f cd)) (leaving (envOfC qual scope s.heap.objs.size f cd) (.ref ea)) _ _ _;refine wpAny_leaves_madeW (base:=PySem.W.hideAll s1.heap as) hfr rfl (λb o q=>aip _ q) hF hx λh'' t fl _ _ up=>?_
 have cJ:∀b o,s1.heap.get? b=ζ o->b∉as->(PySem.W.hideAll s1.heap as).get? b=ζ o:=λb o q n=>ai3 _ q n
 have st:(PySem.W.hideAll s1.heap as).StaysIn h'':=fl.1;have old:∀b o,s.heap.get? b=ζ o->b∉frs outer->b∉as:=λb o q n m=>by
  have m:b∈s.heap.objs.size::frs outer:=m
  rcases afW.mp m with e|m
  ·exact absurd (afV q) (by rw[e];exact agu _)
  ·exact n m
 have fW:∀b u,H1 b=ζ u->∃o,(PySem.W.hideAll s1.heap as).get? b=ζ o:=λb u e=>by
  have hna:b∉as:=λm=>by rw[Zw b m]at e;cases e
  have hlt:=(I.hok b u e).lt;obtain⟨o,ho⟩:∃o,s1.heap.get? b=ζ o:=by
   have:=(I.hok b u e);exact HJ this
  exact⟨o,cJ b o ho hna⟩
 refine⟨x,H1,I.os,I.bare,⟨λb o q n nf _=>?_,λb o q n hf _=>?_,λb o q n hx'=>hb.free b o q n hx',λb o q hx'=>?_,hb.tups,hb.gf,hb.gx⟩,Cu I.hok st (λb o q=>aip _ q) fW,⟨ea,C,t,_,rfl,hn,fl,fW,λb o q n=>?_,λb o q n nf=>?_⟩,hE⟩
 ·exact st b o (cJ b o (hb.keep b o q n nf (gS b)) (old b o q nf))
 ·obtain⟨sl,e1⟩:=hb.slot b o q n hf (gS b);have hm:b∈as:=agy _ hf;obtain⟨_,o2,ho2,hd2⟩:=hst.mem hm;rw[e1]at ho2;cases ho2;obtain⟨sl2,e2⟩:=up b _ (hx.keeps _ _ e1) hd2;exact⟨sl2,e2⟩
 ·obtain⟨o1,e1⟩:=hb.there b o q (gS b)
  by_cases hm:b∈as
  ·obtain⟨_,o2,ho2,hd2⟩:=hst.mem hm;obtain⟨sl2,e2⟩:=up b _ (hx.keeps _ _ ho2) hd2;exact⟨_,e2⟩
  ·exact⟨_,st b _ (cJ b _ e1 hm)⟩
 ·obtain⟨o1,e1⟩:=hb.there b o q (gS b);exact⟨o1,cJ b o1 e1 (old b o q n)⟩
 ·exact cJ b o (hb.keep b o q n nf (gS b)) (old b o q nf)
theorem XJ{pins:List (Ψ×Obj)}{σ:St}{H1 H2:Hp}{s1 s2:Ω}{x:Str}{e:Δ}(I:Inv (fu (iZ P w K) P w K mg base N qual scope f cd A outer s H E) pins σ H1 s1) (hos:s2.os=s1.os) (hba:aap s2.gens)
  (un:Un (frs (envOfC qual scope s.heap.objs.size f cd::outer)) [] H1 H2 s1.heap s2.heap) (hok:bZ P w H2 s2.heap) (CP:Fb K H2 (envOfC qual scope s.heap.objs.size f cd::outer) x s1.heap H1 e s2.heap) (hE:E (.str x 0) η H2) :
  (fu (iZ P w K) P w K mg base N qual scope f cd A outer s H E).xe e s2:=by
 obtain⟨ea,C,t,B,rfl,hn,fl,fW,old,eq⟩:=CP;have hfr:(A.deeper (envOfC qual scope s.heap.objs.size f cd)).frames=ζ (envOfC qual scope s.heap.objs.size f cd::outer):=I.ok.frames;have hst:=I.stack;have hb:=I.base;have gS:∀b:Ψ,b∉(fu (iZ P w K) P w K mg base N qual scope f cd A outer s H E).ex:=λb z=>absurd (show b∈([]:List Ψ)from z) (by simp)
 let as:=frs (envOfC qual scope s.heap.objs.size f cd::outer)
 have olds:∀b o,s.heap.get? b=ζ o->b∉frs outer->b∉as:=λb o q n m=>by
  have m:b∈s.heap.objs.size::frs outer:=m
  rcases afW.mp m with e|m
  ·exact absurd (afV q) (by rw[e];exact agu _)
  ·exact n m
 have sh:∀b o,B.get? b=ζ o->s2.heap.get? b=ζ o:=fl.1;have fr2:=fl.2.2.1;show wpAny (model P w) (A.deeper (envOfC qual scope s.heap.objs.size f cd)) (leaving (envOfC qual scope s.heap.objs.size f cd) (.ref ea)) _ _ _;refine wpAny_leaves_onW hfr rfl fl λh'' Kc up=>?_
 have st:B.StaysIn h'':=Kc.1;have I':s2.os=s.os:=hos.trans I.os;have frame:∀b,b∈as->∃o,s2.heap.get? b=ζ o/\∀vs,o.data≠.fields vs:=λb hm=>(fr2.mem hm).2
 refine⟨x,H2,I',hba,⟨λb o q n nf _=>?_,λb o q n hf _=>?_,λb o q n _=>?_,λb o q _=>?_,λb xs q=>un.tups b xs (hb.tups b xs q),λb o u q=>un.gf b o u (hb.gf b o u q),λb ps q=>?_⟩,Cu hok st sh fW,⟨ea,C,t,B,rfl,hn,Kc,fW,λb o q n=>?_,λb o q n nf=>?_⟩,hE⟩
 ·exact st b o (eq b o (hb.keep b o q n nf (gS b)) (hb.free b o q n (gS b)) (olds b o q nf))
 ·obtain⟨sl,e1⟩:=hb.slot b o q n hf (gS b);have hm:b∈as:=agy _ hf;obtain⟨sl2,e2⟩:=un.slot b _ e1 (hb.free b o q n (gS b)) hm (by simp)
  obtain⟨o3,ya,CA⟩:=frame b hm;rw[e2]at ya;cases ya;obtain⟨Av,e4⟩:=up b _ e2 CA;exact⟨Av,e4⟩
 ·obtain⟨o1,e1⟩:=hb.there b o q (gS b);exact un.free b o1 e1 (hb.free b o q n (gS b)) (by simp)
 ·obtain⟨o1,e1⟩:=hb.there b o q (gS b)
  by_cases hm:b∈as
  ·obtain⟨o3,ya,CA⟩:=frame b hm;obtain⟨Av,e4⟩:=up b _ ya CA;exact⟨_,e4⟩
  ·obtain⟨o2,e2⟩:=old b o1 e1 hm;exact⟨_,st b _ e2⟩
 ·obtain⟨m1,q1⟩:=hb.gx b ps q;obtain⟨m2,q2⟩:=un.gx b _ q1;exact⟨m1++m2,by rw[q2,ai5]⟩
 ·obtain⟨o1,e1⟩:=hb.there b o q (gS b);exact old b o1 e1 (olds b o q n)
 ·exact eq b o (hb.keep b o q n nf (gS b)) (hb.free b o q n (gS b)) (olds b o q nf)
theorem adS{x:Str}{H2:Hp}(hE:E (.str x 0) η H2):zx (fu (iZ P w K) P w K mg base N qual scope f cd A outer s H E) x H2 :=
 ⟨λpins σ H1 s1 e s2 I h1 h2 h3 h4 h5=>XJ I h1 h2 h3 h4 h5 hE,λpins σ s1 ea C args h' I hn hx=>XM I hn hx hE⟩
end
section
variable {X:Cx}
theorem RJ{x:Str}{C:Ψ}{B newId initId:String}{bm:List Δ}{txt:Str}{j:Nat}{np cpos pos tpos:Pos}{t:TS}(hn:Ξ X.K Θ x=ζ (ζ (.ref C))) (hm:X.mg x=ζ (.ref C)) (hO:∀h,X.K.In h->OwnCls x C bm newId X.mg h) (FB:ExcBaseFacts B newId initId bm) (hc:X.calm=Γ)
  (ht:∀D σ H,t D σ H->zx X x H) (hg:Gl X x:=by rfl) (hd:(x==("__debug__":Str))=θ:=by decide):PS X (.Raise (ζ (.Call (.Name x np) [.Constant (.str txt) j tpos] [] cpos)) η pos) t:=by
 intro pins s σ H D I h;have acc:=ht D σ H h;obtain⟨tl,N,nm,q,bs,hdct,sn,sub,ab,col,dd,k0,k1,k2,k3,k5,mN,hC,hN,hni,T⟩:=(hO s.heap I.dX).obj;refine wpAny_Raise_call_subT (C:=C) (nm:=nm) (q:=q) (N:=N) (bs:=bs) (bm:=tl) (hdct:=hdct) (sn:=sn) (sub:=sub) (ab:=ab) (col:=col) (dd:=dd) (k0:=k0) (k1:=k1) (k2:=k2) (k3:=k3) (k5:=k5)
  FB (mN:=mN) (T.hasType FB.hasBase) (I.ok.hd hc) (by rfl) hni (rW I hg hm ⟨rfl,?_⟩ hd)
 have hs:μ [Expr.Constant (.str txt) j tpos] X.env=[(θ,eval (.Constant (.str txt) j tpos) X.env)]:=by simp only[μ]
 rw[hs];refine Calls.evalArgs_plain ?_;show wpAny _ _ (spliced ((θ,eval (Expr.Constant (.str txt) j tpos) X.env)::[])) _ _ _;refine Calls.spliced_cons (Calls.Constant_str ?_);refine Calls.spliced_nil ?_;refine⟨rfl,by show 1<=ε;decide,hC,hN,T,λh' e hx=>?_⟩
 exact acc.2 pins σ _ e C _ h' (I.tok _) hn hx
end
abbrev Xd:=Ev->aa->R Str
def Ai(X:Cx) (P:Str->Hp->Prop) (d:Xd):St->Hp->Prop:=λσ H=>tD X.K (λ_ _ a b=>a=b) d σ H P
abbrev zl(X:Cx) (P:Str->Hp->Prop) (st:aag) (d:Xd):Prop:=PS X st λ_ σ H=>Ai X P d σ H
abbrev qb(X:Cx) (P:Str->Hp->Prop) (st:List aag) (d:Xd):Prop:=eT X st λ_ σ H=>Ai X P d σ H
abbrev LK(X:Cx) (P:Str->Hp->Prop) (e:ο) (d:Xd):Prop:=PE X e λσ H _=>Ai X P d σ H
def As(K:ξ) (n:Nat) (m:List D->aa->R Str):Sp:=λvs H _ E=>∃ρ xs c,Wd K ρ H c/\aH K ρ H xs vs/\xs.length=n/\post K (λ_ _ a b=>a=b) (m xs c) ρ H λx H'=>E (.str x 0) η H'
def fnX(n:Nat) (d:Xd):List D->aa->R Str:=λxs c=>(d (cg n xs) c).bind λx c'=>.ok x (c'.take c.length)
def zZ(t:ai) (a b:Xd):Xd:=λe c=>(t e c).bind λk c=>if k=Γ then a e c else b e c
def z3(x:Str):Xd:=λ_ c=>.ok x c
def Fv:Xd:=λ_ _=>.bad
def z4(n:Nat) (m:List D->aa->R Str) (a:aj):Xd:=λe c=>(a e c).bind λxs c=>if xs.length=n then m xs c else .bad
section
variable {X:Cx}{P:Str->Hp->Prop}{st:aag}{sts rest:List aag}{e:ο}{a b d u:Xd}{t:ah}{pos:Pos}
theorem PA.fj{es:List ο}{t:TA}(h:PA X.fj es t):PA X es t:=λpos pins s σ H Q I hw =>
 agh (h pos pins s σ H Q (I.iO _) hw) (λ_ _ ⟨v,H',I',r,q⟩=>⟨v,H',I'.jx,r,q⟩) λ_ _ z=>False.elim z
theorem MF:qb X P sts Fv:=λpins s σ H D I h=>by
 obtain⟨ρ,e,c,W,V,p⟩:=h;exact p.elim
theorem RD:eT X sts λ_ _ _=>False:=λ_ _ _ _ _ _ h=>h.elim
theorem zT(h:zl X P st d):qb X P (st::rest) d:=(uH h (RD (sts:=rest))).imp λZ σ H q=>q
theorem MG{c':ο}{A B:List aag}{tc:ai}(hc:jq X.fj c' tc) (ha:qb X P A a) (hb:qb X P B b):zl X P (.If c' A B pos) (zZ tc a b):=(GY (PT.fj hc) ha hb).imp λZ σ H h=>by
 obtain⟨ρ,e,c,W,V,p⟩:=h;refine⟨ρ,e,c,W,V,post.bind p λx c1 aG H1 v _ W1 X1 r1 p1=>?_⟩
 cases r1;cases x with
 |true=>exact m7 ⟨aG,e,c1,W1,V.mono W X1,p1⟩
 |false=>exact m8 ⟨aG,e,c1,W1,V.mono W X1,p1⟩
theorem MH(he:LK X P e d) (hs:swapsWith e η pos.line X.env=pure θ:=by rfl):zl X P (.Expr e pos) d:=(G0 he hs).imp λZ σ H h=>h
structure vF (K:ξ) (mg:Str->Option Δ) (x:Str) (bm:List Δ) (newId:String):Prop where
 ex:∃C,Ξ K Θ x=ζ (ζ (.ref C))/\mg x=ζ (.ref C)/\∀h,K.In h->OwnCls x C bm newId mg h
theorem ME{x:Str}{B newId initId:String}{bm:List Δ}{txt:Str}{j:Nat}{np cpos tpos:Pos}(hC:vF X.K X.mg x bm newId) (FB:ExcBaseFacts B newId initId bm) (hc:X.calm=Γ:=by rfl) (hg:Gl X x:=by rfl) (hd:(x==("__debug__":Str))=θ:=by decide) :
  zl X (zx X) (.Raise (ζ (.Call (.Name x np) [.Constant (.str txt) j tpos] [] cpos)) η pos) (z3 x):=by
 obtain⟨C,hn,hm,hO⟩:=hC.ex;refine RJ hn hm hO FB hc (λZ σ H h=>?_) hg hd
 obtain⟨ρ,e,c,W,V,p⟩:=h;exact p.here W rfl
theorem MI{x:Str}{st:aag}{ps:List Str}{f:Ψ}{fd:π}{k n:Nat}{m:List D->aa->R Str}{e:ο}{es:List ο}{da:aj}{p:Pos}(D:Def X.K X.mg x st ps f fd) (G:bV X.prog X.w X.K X.mg X.base (iZ X.prog X.w X.K) k f fd ps (As X.K n m)) (hr:cP k X.A) (ha:gX X.fj (e::es) da) (hx:∀x H',P x H'->vS X x H':=by first|exact λ_ _ h=>h.1|exact λ_ _ h=>h) (hg:Gl X x:=by rfl)
  (hdb:(x==("__debug__":Str))=θ:=by decide) (he:μ (e::es) X.env=(θ,eval e X.env)::μ es X.env:=by exact cj rfl) (hpl:(aah pos (μ es X.env)).any (·.1)=θ:=by exact iA rfl) :
  LK X P (.Call (.Name x p) (e::es) [] pos) (z4 n m da) :=
 (Hr G hr hg D.at' D.fn.kp D.bd .nil (Tq (X:=X)) (PA.fj ha) hdb he hpl).imp λσ H Q h=>by
  obtain⟨ρ,e,c,W,V,q⟩:=h;refine⟨ρ,e,c,W,V,post.bind q λxs c1 aG H1 vs _ W1 X1 r1 p1=>?_⟩
  split at p1
  ·rename_i hl;refine⟨aG,xs,c1,W1,by rw[agW];exact r1,hl,post.mono p1 λx H' acc y hy=>?_⟩
   cases hy;exact hx _ _ acc
  ·exact p1.elim
end
section
variable {P:τ}{w:υ}{K:ξ}{mg:Str->Option Δ}{base:ψ}
theorem aaM{x qual:Str}{st:aag}{f:Ψ}{fd:π}{N ps:List Str}{k n m:Nat}{d:Xd}(F:jU K x qual st f fd) (S:cC N ps (aX st)) (hN:N.length=n) (hm:ps.length=m)
  (hb:∀(cdv:Δ) (A:χ) (outer:List Env) (s:Ω) (H:Hp) (E:XK),cP k (A.deeper (envOfC qual (aX st) s.heap.objs.size f cdv))->qb (fu (iZ P w K) P w K mg base N qual (aX st) f cdv A outer s H E) (zx (fu (iZ P w K) P w K mg base N qual (aX st) f cdv A outer s H E)) (ck st) d) :
  bV P w K mg base (iZ P w K) (k+1) f fd ps (As K m (fnX n d)):=by
 subst hN;subst hm;obtain⟨oc,od,kV,doc,pm,an,cdv,ct,osl,rfl,lk,hcd⟩:=F.ex;refine CN lk hcd S (λvs H Q E h=>?_) λA outer s H vs Q E hr h=>⟨_,hb cdv A outer s H E hr,?_⟩
 ·obtain⟨ρ,xs,c,W,r,hl,p⟩:=h;exact r.length.trans hl
 ·obtain⟨ρ,xs,c,W,r,hl,p⟩:=h;refine⟨ρ,cg N.length xs,c,W,c9.start r,post.bind p λy c1 aG H1 b _ W1 X1 r1 p1=>?_⟩
  cases r1;refine adS ?_;have hn:=Ext.len W W1 X1;have p0:=p;unfold fnX at p0;rename_i he;rw[he,R.az]at p0;exact p0 (aG.take c.length) H1 _ (W1.cut hn) (X1.cut (ag3 W.len)) rfl
end
abbrev Cx.held(X:Cx) (e:Δ):Cx:={X with A:=X.A.mark (ζ e),calm:=θ,xe:=λ_ _=>False}
abbrev Cx.tried(X:Cx) (W:Δ->Ω->Prop) (pn:List (Ψ×Obj)):Cx:={X with xe:=W,pn:=pn}
section
variable {X:Cx}{pins rF:List (Ψ×Obj)}{σ:St}{H H1 H2:Hp}{s s1 s2:Ω}
theorem Cx.Ok.held(ok:X.Ok) (e:Δ):(X.held e).Ok :=
 ⟨ok.mod,ok.kind,ok.glob,ok.blt,ok.above,ok.inj,ok.has,ok.jl,(λz=>by cases z),ok.frames,ok.stk,ok.lz,ok.bs,ok.gj,ok.jg,ok.kj,ok.fF,ok.ir⟩
theorem Cx.Ok.tried(ok:X.Ok) (W:Δ->Ω->Prop) (pn:List (Ψ×Obj)):(X.tried W pn).Ok :=
 ⟨ok.mod,ok.kind,ok.glob,ok.blt,ok.above,ok.inj,ok.has,ok.jl,ok.hd,ok.frames,ok.stk,ok.lz,ok.bs,ok.gj,ok.jg,ok.kj,ok.fF,ok.ir⟩
theorem Cx.Ok.wk{W:Δ->Ω->Prop}{pn:List (Ψ×Obj)}(ok:(X.tried W pn).Ok):X.Ok :=
 ⟨ok.mod,ok.kind,ok.glob,ok.blt,ok.above,ok.inj,ok.has,ok.jl,ok.hd,ok.frames,ok.stk,ok.lz,ok.bs,ok.gj,ok.jg,ok.kj,ok.fF,ok.ir⟩
theorem Inv.held(I:Inv X pins σ H s) (e:Δ):Inv (X.held e) pins σ H s:=⟨I.ok.held e,I.os,I.bare,I.base,I.loc,I.cell,I.free,I.fT,I.pin,I.hok,I.len⟩
theorem Inv.NR{e:Δ}(I:Inv (X.held e) pins σ H s) (ok:X.Ok):Inv X pins σ H s:=⟨ok,I.os,I.bare,I.base,I.loc,I.cell,I.free,I.fT,I.pin,I.hok,I.len⟩
theorem Inv.tried(I:Inv X pins σ H s) (W:Δ->Ω->Prop):Inv (X.tried W (X.pn++pins)) [] σ H s:=⟨I.ok.tried W _,I.os,I.bare,I.base,I.loc,I.cell,I.free,I.fT,λp hp=>I.pin p (by simpa using hp),I.hok,I.len⟩
theorem Inv.wk{W:Δ->Ω->Prop}(I:Inv (X.tried W (X.pn++pins)) rF σ H s):Inv X pins σ H s:=⟨I.ok.wk,I.os,I.bare,I.base,I.loc,I.cell,I.free,I.fT,λp hp=>I.pin p (aiq _ hp),I.hok,I.len⟩
theorem aaD(ok:X.Ok) {b:Ψ}(h:b∈X.fs):b∈frs X.stack:=by
 rcases ok.stk with e|⟨e,hf⟩
 ·rw[e];exact h
 ·rw[e];unfold frs;rw[ahj,hf];exact agy _ h
theorem land{ea C:Ψ}{t:Ψ}{B h':ψ}(I:Inv X pins σ H1 s1) (hos:s2.os=s1.os) (hba:aap s2.gens) (un:Un (frs X.stack) [] H1 H2 s1.heap s2.heap) (hok:bZ X.prog X.w H2 s2.heap)
  (CS:aal B X.stack ea (.ref C) (.ref t) s2.heap) (fl:aal B X.stack ea (.ref C) (.ref t) h') (up:s2.heap.UpToSlots h') (fW:∀b u,H2 b=ζ u->∃o,B.get? b=ζ o)
  (old:∀b o,s1.heap.get? b=ζ o->b∉frs X.stack->∃o',B.get? b=ζ o') (eq:∀b o,s1.heap.get? b=ζ o->H1 b=η->b∉frs X.stack->B.get? b=ζ o) :
  H2 ea=η/\Inv X pins σ (upd H2 ea (.ext (lA ea C))) {s2 with heap:=h'}:=by
 have st:B.StaysIn h':=fl.1;have hne:B.get? ea=η:=fl.2.1;have hfree:H2 ea=η:=by
  cases q:H2 ea with
  |none=>rfl
  |some u=>obtain⟨o,ho⟩:=fW ea u q;rw[hne]at ho;cases ho
 obtain⟨oe,he,hc⟩:=fl.there;have ZR:∃vs,oe.data=.fields vs:=by
  obtain⟨ob,ws,h1,h2,h3,_⟩:=fl.first;rw[he]at h1;cases h1;exact⟨_,h3⟩
 have jK:∀b∈frs X.stack,b≠ea:=λb hb e=>by
  subst e;obtain⟨_,o,ho,hd⟩:=fl.2.2.1.mem hb;rw[he]at ho;cases ho;obtain⟨vs,q⟩:=ZR;exact hd vs q
 have hs1:s1.heap.get? ea=η:=by
  cases q:s1.heap.get? ea with
  |none=>rfl
  |some o =>
   obtain⟨o',ho'⟩:=old ea o q λm=>jK ea m rfl
   rw[hne]at ho';cases ho'
 have ne1:∀b o,s1.heap.get? b=ζ o->b≠ea:=λb o q e=>by subst e;rw[hs1]at q;cases q
 have neT:∀b u,H1 b=ζ u->b≠ea:=λb u q=>by
  obtain⟨o,ho⟩:=HJ (I.hok b u q);exact ne1 b o ho
 have x9:bZ X.prog X.w H2 h':=Cu hok st CS.1 fW;have Zy:bZ X.prog X.w (upd H2 ea (.ext (lA ea C))) h':=λa o e=>by
  by_cases ha:a=ea
  ·subst ha;rw[gw]at e;cases e;exact⟨⟨oe,he,hc⟩,⟨oe,he⟩,λh1 h2 ⟨o,ho,hoc⟩ k=>⟨o,k o ho,hoc⟩⟩
  ·rw[bz ha]at e;refine(x9 a o e).stay (λb u _ q=>q) (λb q=>?_) λb xs q=>?_
   ·rw[bz (cX q hfree)];exact q
   ·rw[bz (cX q hfree)];exact q
 refine⟨hfree,?_⟩;have key:=I.step (h':=h') (H':=upd H2 ea (.ext (lA ea C))) (g':=s2.gens) (t':=s2.toks) (d':=s2.drawn) (ch:=[]) (λ_ z=>nomatch z)
  (λb o hb hf _ q n=>st b o (eq b o q n λm=>by
   rcases afW.mp (I.mK b m)with z|z
   ·exact hb z
   ·exact hf z))
  (λb o hb hf _ q n=>by
   have hm:=aaD I.ok hf;obtain⟨sl,e1⟩:=un.slot b o q n hm (by simp)
   obtain⟨_,o2,ho2,hd2⟩:=CS.2.2.1.mem hm;rw[e1]at ho2;cases ho2;obtain⟨sl2,e2⟩:=up b _ e1 hd2;exact⟨sl2,e2⟩)
  (λb o _ q n=>by rw[bz (ne1 b o q)];exact un.free b o q n (by simp))
  (λb o _ q=>by
   by_cases hm:b∈frs X.stack
   ·obtain⟨_,o2,ho2,hd2⟩:=CS.2.2.1.mem hm;obtain⟨sl2,e2⟩:=up b _ ho2 hd2;exact⟨_,e2⟩
   ·obtain⟨o',ho'⟩:=old b o q hm;exact⟨o',st b o' ho'⟩)
  (λb xs q=>by rw[bz (neT b _ q)];exact un.tups b xs q) (λb o u q=>by rw[bz (neT b _ q)];exact un.gf b o u q) (λb ps q=>by
   obtain⟨m,e⟩:=un.gx b ps q;exact⟨m,by rw[bz (neT b _ q)];exact e⟩)
  (λm hn=>by
   by_cases hm:X.env.locals∈frs X.stack
   ·obtain⟨o,es,ep,ho,hd,r⟩:=hn;obtain⟨sl,e1⟩:=un.slot _ o ho I.free hm (by simp)
    exact up.ns ⟨_,es,ep,e1,hd,r⟩
   ·obtain⟨o,es,ep,ho,hd,r⟩:=hn;exact⟨o,es,ep,st _ _ (eq _ o ho I.free hm),hd,r⟩) Zy hba
 obtain⟨h2,g2,d2,t2,o2⟩:=s2;have e:o2=s1.os:=hos;subst e;exact key
theorem Wu{n:Str}{hpos:Pos}{E:Δ->Ω->Prop}{Q:Unit->Ω->Prop}(I:Inv X pins σ H s) (hl:X.env.kindOf n=ζ .local) (h:∀s',Inv X pins (ν X.N.length η) H s'->Q () s') :
  wpAny (model X.prog X.w) X.A (do bindName X.env n .none;unbindBehindTheSuite X.env n hpos) Q E s:=by
 obtain⟨m,hn,_⟩:=I.loc;refine wpAny_nameGoes hl hn (by rw[I.ok.kind];rfl) λh' m' hn' sb=>?_
 have rH:∀b o,b≠X.env.locals->s.heap.get? b=ζ o->h'.get? b=ζ o:=λb o hb e=>(sb.2 b hb).trans e
 have rP:∀b o,X.s₀.heap.get? b=ζ o->b≠X.env.locals:=λb o e=>afX (af3 (afV e) I.ok.above)
 have B:=I.base;refine h _ ⟨I.ok,I.os,I.bare,⟨λb o q n f x=>rH b o (rP b o q) (B.keep b o q n f x),λb o q n f x=>?_,B.free,λb o q x=>?_,B.tups,B.gf,B.gx⟩,⟨m',hn',λi x v _ h _=>?_⟩,λx c e=>?_,I.free,I.fT,λp hp=>?_,λa o e=>?_,by simp⟩
 ·obtain⟨sl,e⟩:=B.slot b o q n f x;exact⟨sl,rH b _ (rP b o q) e⟩
 ·obtain⟨o',e⟩:=B.there b o q x;exact⟨o',rH b _ (rP b o q) e⟩
 ·rw[aiv]at h;split at h<;>cases h
 ·obtain⟨v,o,ho,hd⟩:=I.cell x c e;refine⟨v,o,rH c o (λz=>?_) ho,hd⟩
  obtain⟨o',es,ep,ho',hd',_⟩:=hn;rw[z,ho']at ho;cases ho;rw[hd']at hd;cases hd
 ·obtain⟨p1,p2,p3,p4,p5⟩:=I.pin p hp;exact⟨rH _ _ p3 p1,p2,p3,p4,p5⟩
 ·refine(I.hok a o e).stay (λb u hb q=>rH b u (λz=>?_) q) (λ_ q=>q) λ_ _ q=>q
  subst z
  rcases hb with rfl|hb
  ·rw[I.free]at e;cases e
  ·rw[I.free]at hb;cases hb
theorem RG{i:Nat}{n cn:Str}{Cn:Ψ}{body:List aag}{b₀:aag}{suite:List aag}{np hpos pos:Pos}{tb:(Str->Hp->Prop)->St->Hp->Prop}{th:Ψ->TS}
  (hB:∀W pn,eT (X.tried W pn) body λ_ σ H=>tb (vS (X.tried W pn)) σ H) (mono:∀(A A':Str->Hp->Prop) σ H,(∀x H',A x H'->A' x H')->tb A σ H->tb A' σ H) (hS:∀ea,eT (X.held (.ref ea)) (b₀::suite) (th ea))
  (hN:X.N.Nodup) (hi:X.N[i]? = ζ n) (hl:X.env.scope.names.lookup n=ζ .local) (hg:Gl X cn) (hm:X.mg cn=ζ (.ref Cn)) (jK:X.stack=X.env::X.outer/\X.env.frame=ζ X.env.locals) (hd:(cn==("__debug__":Str))=θ:=by decide) :
  PS X (.Try body [.ExceptHandler (ζ (.Name cn np)) (ζ n) (b₀::suite) hpos] [] [] pos) λD σ H=>tb (λx H2=>∃C,Ξ X.K Θ x=ζ (ζ (.ref C))/\PySem.W.exmOne X.K (.ref C) (.ref Cn)=ζ Γ /\
   ∀(ea:Ψ) (σ':St),σ'.length=X.N.length->H2 ea=η->th ea {nx:=λ_ _=>False,rt:=D.rt} (σ'.set i (ζ (.ref ea))) (upd H2 ea (.ext (lA ea C)))) σ H:=by
 intro pins s σ H D I h;refine wpAny_Try_except ?_;refine agh (hB (λe s₁=>wpAny (model X.prog X.w) X.A (noteFrame e X.env) (λ_ s₂=>wpAny (model X.prog X.w) X.A (setFlight e η) (λ_ s₃=>wpAny (model X.prog X.w) X.A (handleBy e X.env [.ExceptHandler (ζ (.Name cn np)) (ζ n) (b₀::suite) hpos]) (SP X pins D) X.xe s₃) X.xe s₂) X.xe s₁) (X.pn++pins)
  [] s σ H {nx:=λ_ _=>False,rt:=λ_ _=>False} (I.tried _) (mono _ _ σ H (λx H2 acc=>?_) h)) (λf s' q=>?_) λ_ _ z=>z
 ·obtain⟨C,hn,hx,Zr⟩:=acc;intro rF σ' H1 s1 e s2 I1 hos hba un hok CP;obtain⟨ea,C',t,B,rfl,hn',fl,fW,old,eq⟩:=CP;have Jz:Ξ X.K Θ x=ζ (ζ (.ref C')):=hn';rw[hn]at Jz;cases Jz;have ok:X.Ok:=I.ok;have hfr:X.A.frames=ζ (X.env::X.outer):=by rw[ok.frames,jK.1]
  have fl:aal B (X.env::X.outer) ea (.ref C) (.ref t) s2.heap:=by
   have z:aal B X.stack ea (.ref C) (.ref t) s2.heap:=fl;rw[jK.1]at z;exact z
  show wpAny (model X.prog X.w) X.A (noteFrame (.ref ea) X.env) _ _ s2;refine wpAny_looks_onW hfr jK.2 fl λh3 held NQ=>?_
  refine wpAny_landsW held λh4 CQ NP=>?_
  have FU:s2.heap.UpToSlots h4:=NQ.trans NP;have L4:=land (X:=X.tried _ _) I1 hos hba un hok (by show aal B X.stack _ _ _ _;rw[jK.1];exact fl) (by show aal B X.stack _ _ _ _;rw[jK.1];exact CQ) FU fW old eq
  have I4:Inv X pins σ' (upd H2 ea (.ext (lA ea C))) {s2 with heap:=h4}:=L4.2.wk
  refine wpAny_handleBy_cons (codeAny_handlers_test ?_) (by intro q;cases q)
  refine rW (X:=X.held (.ref ea)) (I4.held _) hg hm ?_ hd;have LT:PySem.W.Looks (model X.prog X.w) h4 (typeOf (.ref ea)) (.ref C):=by
   obtain⟨ob,hob,hc⟩:=CQ.there;rw[<-hc];exact(ajr hob).andThen .now
  refine(PySem.W.exm_one I4.dX LT hx).here ?_;dsimp only;refine codeAny_handlers_suite_as ?_;refine lands_againW CQ λh5 fl5 NO=>?_
  have L5:=land (X:=X.tried _ _) I1 hos hba un hok (by show aal B X.stack _ _ _ _;rw[jK.1];exact fl) (by show aal B X.stack _ _ _ _;rw[jK.1];exact fl5) (FU.trans NO) fW old eq
  have I5:Inv X pins σ' (upd H2 ea (.ext (lA ea C))) {s2 with heap:=h5}:=L5.2.wk
  refine An (X:=X.held (.ref ea)) (v:=.ref ea) (I5.held _) hN hi (.inl hl) rfl (λs6 I6=>?_) (.inr hl)
  refine agh (hS ea pins s6 _ _ {nx:=λ_ _=>False,rt:=D.rt} I6 (Zr ea σ' (by rw[I5.len]) L5.1)) (λf s7 q=>?_) λ_ _ z=>z.elim
  cases f with
  |next=>obtain⟨_,_,_,z⟩:=q;exact z.elim
  |brk=>obtain⟨_,_,_,z⟩:=q;exact z.elim
  |cont=>obtain⟨_,_,_,z⟩:=q;exact z.elim
  |ret u =>
   obtain⟨v,i6,H7,I7,rv,q7⟩:=q;exact Wu (X:=X) (I7.NR ok) hl λs8 I8=>⟨v,_,H7,I8,rv,q7⟩
 ·cases f with
  |next=>obtain⟨_,_,_,z⟩:=q;exact z.elim
  |brk=>obtain⟨_,_,_,z⟩:=q;exact z.elim
  |cont=>obtain⟨_,_,_,z⟩:=q;exact z.elim
  |ret u=>obtain⟨_,_,_,_,_,z⟩:=q;exact z.elim
end
end L2
namespace PySem.W
open PySem PySem.Spec PySem.Calls PyProof.Rows Builtin Builtin.ObjectAttr Builtin.Getset_descriptor
structure kF (K:Frag) (C:Ψ):Prop where
 ga:findIn K (.ref C) "__getattribute__"=ζ (ζ (.builtin "BaseException.__getattribute__"))
 gn:findIn K (.ref C) "__getattr__"=ζ η
 cl:findIn K (.ref C) "__class__"=ζ (ζ (.builtin "object.__class__"))
 ob:mroIn K C (.type "object")=ζ Γ
 be:subIn K (.ref C) (.type "BaseException")=ζ Γ
 cc:(clsIn K C).isSome=Γ
def Dt(K:Frag) (C:Ψ):Bool:=findIn K (.ref C) "__getattribute__"==ζ (ζ (.builtin "BaseException.__getattribute__"))&&findIn K (.ref C) "__getattr__"==ζ η&&findIn K (.ref C) "__class__"==ζ (ζ (.builtin "object.__class__")) &&
 mroIn K C (.type "object")==ζ Γ&&subIn K (.ref C) (.type "BaseException")==ζ Γ&&(clsIn K C).isSome
theorem kF.of{K:Frag}{C:Ψ}(h:Dt K C=Γ):kF K C:=by
 unfold Dt at h;simp only[af5,beq_iff_eq]at h;exact⟨h.1.1.1.1.1,h.1.1.1.1.2,h.1.1.1.2,h.1.1.2,h.1.2,h.2⟩
section
variable {prog:τ}{w:υ}{A:χ}{E:Δ->Ω->Prop}{K:Frag}{h:ψ}{g:Array aa8}{d:Drawn}{t:Nat}{os:OsState}{a C:Ψ}{o:Obj}
theorem aaW{R:Result->Ω->Prop}{tp:Δ}(Z:kF K C) (X:K.In h) (hx:h.get? a=ζ o) (hc:o.cls=.ref C) (hq:R (.ok (.ret (.ref C))) ⟨h,g,d,t,os⟩) :
  codeAny (model prog w) A (.call (.builtin "getset_descriptor.__get__") ⟨[.builtin "object.__class__",.ref a,tp],[]⟩) R ⟨h,g,d,t,os⟩:=by
 have L0:Looks (model prog w) h (typeOf (.ref a)) (.ref C):=hc▸(Looks.ld hx).andThen .now;have L1:=looks_mroIn (M:=model prog w) X Z.ob;refine ah9 KF.slot_gs.plain KF.entry_gs (KF.slot_gs.check _ _ _ _ _ _ _ _ KF.type_class (KF.args_gs _ _ _) ?_);unfold Builtin.«getset_descriptor.__get__» descrGet;rw[dga_obj];refine afS (afT ?_);unfold descrGetter descrCheckInstance descrNameAndClass isInstance;simp only[KF.owner_class]
 repeat lk
 refine⟨aiM _ (by decide +kernel),aht KF.entry_class ?_⟩
 unfold Builtin.«object.__class__» shownTypeOf
 repeat lk
 exact hq
theorem aaX{tk:Tok}{Q:Fin->Ω->Prop}(Z:kF K C) (X:K.In h) (hx:h.get? a=ζ o) (hc:o.cls=.ref C) (hq:Q (.done (.ret (.ref C))) ⟨h,g,d,t,os⟩) :
  wpAny (model prog w) A (Builtin.«object.__getattribute__» ⟨[.ref a,.str "__class__" tk],[]⟩) Q E ⟨h,g,d,t,os⟩:=by
 have hT5:(⟨h,g,d,t,os⟩:Ω).TypeIs (.builtin "object.__class__") "getset_descriptor":=ajs;have f5:=ajs;have f6:=F.slot_gs_get.lookup;have f7:=F.slot_gs_set.lookup;have L1:=looks_findIn (M:=model prog w) X Z.cl
 repeat (any_goals (first|assumption|(with_reducible refine aiN hx ?_;rw[hc])|with_reducible refine L1.at ?_|wp_step))
 refine aaW Z X hx hc ?_
 repeat (any_goals (first|assumption|wp_step))
theorem aa1{nameV:Δ}{Q:Unit->Ω->Prop}(Z:kF K C) (X:K.In h) (hx:h.get? a=ζ o) (hc:o.cls=.ref C) (hq:Q () ⟨h,g,d,t,os⟩) :
  wpAny (model prog w) A (checkBuiltinCall "BaseException.__getattribute__" ⟨[.ref a,nameV],[]⟩) Q E ⟨h,g,d,t,os⟩:=by
 have hk:builtinKind "BaseException.__getattribute__"=ζ .slot:=by decide +kernel
 have hsplit:splitId "BaseException.__getattribute__"=ζ ("BaseException","__getattribute__"):=by decide +kernel
 have ha:=F.args_bexc_ga (.ref a) nameV;have L1:=looks_subIn (M:=model prog w) X Z.be;simp only[checkBuiltinCall,hk,hsplit];refine afS ?_
 ·unfold isInstance
  repeat (first|(with_reducible refine aiN hx ?_;rw[hc])|with_reducible refine L1.at ?_|wp_step)
  exact hq
theorem aaY{tk:Tok}{R:Result->Ω->Prop}(Z:kF K C) (X:K.In h) (hx:h.get? a=ζ o) (hc:o.cls=.ref C) (hq:R (.ok (.ret (.ref C))) ⟨h,g,d,t,os⟩) :
  codeAny (model prog w) A (.call (.builtin "BaseException.__getattribute__") ⟨[.ref a,.str "__class__" tk],[]⟩) R ⟨h,g,d,t,os⟩ :=
 ah9 F.excAttr_ValueError.ga.plain F.entry_bexc_ga (aa1 Z X hx hc (aaX Z X hx hc hq))
theorem aaZ{tk:Tok}{Q:Δ->Ω->Prop}(Z:kF K C) (X:K.In h) (hx:h.get? a=ζ o) (hc:o.cls=.ref C) (hq:Q (.ref C) ⟨h,g,d,t,os⟩):wpAny (model prog w) A (getAttrBy (.ref a) (.str "__class__" tk) θ) Q E ⟨h,g,d,t,os⟩:=by
 have f3:=F.excAttr_ValueError.ga.bind (.ref a);have Zo:(Value.builtin "BaseException.__getattribute__"==Value.builtin "object.__getattribute__")=θ:=by decide +kernel
 have hx1:(onTheHeap (Value.ref C)&&Value.builtin "BaseException.__getattribute__"==Value.builtin "object.__getattribute__")=θ:=by rw[Zo];rfl
 have L1:=looks_findIn (M:=model prog w) X Z.ga;have L2:=looks_findIn (M:=model prog w) X Z.gn
 repeat (any_goals (first|assumption|(with_reducible refine aiN hx ?_;rw[hc])|with_reducible refine L1.at ?_|with_reducible refine L2.at ?_|wp_step))
 refine aaY Z X hx hc ?_
 repeat (any_goals (first|assumption|wp_step))
theorem aa0{Q:Option Δ->Ω->Prop}(Z:kF K C) (X:K.In h) (hx:h.get? a=ζ o) (hc:o.cls=.ref C) (hq:Q (ζ (.ref C)) ⟨h,g,d,t+1,os⟩):wpAny (model prog w) A (getAttr? (.ref a) "__class__") Q E ⟨h,g,d,t,os⟩:=by
 unfold getAttr? getAttrBy?
 repeat (any_goals (first|assumption|with_reducible apply aaZ Z X hx hc|wp_step))
theorem IW(Z:kF K C):KitX K (.ref a) (.ref C) (L2.lA a C) where
 ty:=λM h _ ⟨o,hx,hc⟩=>hc▸(Looks.ld hx).andThen .now
 it:=λ_ _ X _=>by
  have pq:=Z.cc;unfold clsIn at pq;split at pq
  ·rename_i c' d' cd' Aw ho;intro A' Q' E' s' k q;unfold isType loadHead;exact afS (wpAny_loadPart (k _ _ (X _ _ ho)) (afT q))
  ·cases pq
 ne:=λh tp dd its n sl X htp=>by
  have pq:=Z.cc;refine Bool.eq_false_iff.mpr λq=>?_
  have e:C=tp:=Value.ref.inj (beq_iff_eq.mp q);subst e;unfold clsIn at pq;split at pq
  ·rename_i c' d' cd' Aw ho;have z:=(X _ _ ho).symm.trans htp;cases z
  ·cases pq
 ca:=fun{_ _ _ _ _ s} X ⟨o,hx,hc⟩ k=>by obtain⟨h,g,d,t,os⟩:=s;exact aa0 Z X hx hc k
end
end PySem.W
namespace L2
open PySem PySem.Spec PyProof.Rows
structure jo (k:Nat) (A:χ):Prop where
 dp:A.depth+3*k+5<recursionLimit
 un:A.units+16*k+200<aaR
theorem jo.deeper{k:Nat}{A:χ}(r:jo (k+1) A) (env:Env):jo k (A.deeper env) :=
 ⟨by have:=r.dp;show A.depth+1+3*k+5<_;omega,by have:=r.un;show A.units+3+16*k+200<_;omega⟩
theorem jo.depth{k:Nat}{A:χ}(r:jo k A):A.depth<recursionLimit:=by have:=r.dp;omega
structure zw (P:τ) (w:υ) (K:ξ) (mg:Str->Option Δ) (base:ψ) (k:Nat) (f:Ψ) (fd:π) (ps:List Str) (sp:Sp):Prop where
 len:∀vs H Q E,sp vs H Q E->vs.length=ps.length
 run:∀(A:χ) (outer:List Env) (s:Ω) (H:Hp) (args:Args) (us:List Δ) (vs:List V) (Q:VK) (E:XK),jo k A->mw P w K mg base A outer s H->aa6 s fd args (ps.zip us)->Vals vs us->sp vs H Q E ->
  codeAny (model P w) A (.call (.ref f) args) (CR bP outer P w H s Q E) s
abbrev vp(P:τ) (w:υ) (K:ξ) (mg:Str->Option Δ) (base:ψ) (N:List Str) (qual:Str) (scope:aaj) (f:Ψ) (cd:Δ) (A:χ) (outer:List Env) (s:Ω) (H:Hp) (E:XK):Cx :=
 {fu bP P w K mg base N qual scope f cd A outer s H E with calm:=θ}
section
variable {P:τ}{w:υ}{K:ξ}{mg:Str->Option Δ}{base:ψ}
theorem Zb{N ps:List Str}{qual:Str}{scope:aaj}{f:Ψ}{cd:Δ}{A:χ}{outer:List Env}{s s1:Ω}{H:Hp}{E:XK}{us:List Δ}{vs:List V}
  (S:cC N ps scope) (e0:mw P w K mg base A outer s H) (hl:vs.length=ps.length) (r:Vals vs us)
  (x:InCallC s s.heap.objs.size (bindL (envOfC qual scope s.heap.objs.size f cd).kindOf (ps.zip us) λ_=>η) (cellsFrom (s.heap.objs.size+1) scope.names []) (bindC (envOfC qual scope s.heap.objs.size f cd).kindOf (ps.zip us) λ_=>η) s1) :
  Inv (vp P w K mg base N qual scope f cd A outer s H E) [] (start N vs) H s1:=by
 have I:Inv (fu bP P w K mg base N qual scope f cd {A with handled:=η} outer s H E) [] (start N vs) H s1:=Ji S rfl ⟨e0.frames,e0.mod,e0.bs,e0.gj,e0.fF,e0.ir,e0.hok,e0.bare⟩ hl r x
 have ok:=I.ok;exact⟨⟨ok.mod,ok.kind,ok.glob,ok.blt,ok.above,ok.inj,ok.has,ok.jl,(λz=>by cases z),aiu e0.frames,ok.stk,ok.lz,ok.bs,ok.gj,ok.jg,ok.kj,ok.fF,ok.ir⟩,I.os,I.bare,I.base,I.loc,I.cell,I.free,I.fT,I.pin,I.hok,I.len⟩
theorem aaP{k:Nat}{f:Ψ}{name qual:Str}{params:aaH}{body:List aag}{scope:aaj}{dV kV doc pm cdv ct oc:Δ}{an od:Option Ψ}
  {osl:Array (Option Δ)}{N ps:List Str}{sp:Sp}(lk:K.lookup f=ζ ⟨oc,od,.func (PySem.W.fnOf name qual params body scope dV kV doc pm an cdv ct),osl⟩) (hcd:PySem.W.codeIn K cdv qual=Γ) (S:cC N ps scope)
  (len:∀vs H Q E,sp vs H Q E->vs.length=ps.length)
  (hbody:∀(A:χ) (outer:List Env) (s:Ω) (H:Hp) (vs:List V) (Q:VK) (E:XK),jo k (A.deeper (envOfC qual scope s.heap.objs.size f cdv))->sp vs H Q E ->
   ∃t,eT (vp P w K mg base N qual scope f cdv A outer s H E) body t/\t {nx:=λ_ H'=>Q .aI H',rt:=Q} (start N vs) H) :
  zw P w K mg base (k+1) f (PySem.W.fnOf name qual params body scope dV kV doc pm an cdv ct) ps sp:=by
 refine⟨len,λA outer s H args us vs Q E hr e0 hb r jL=>?_⟩
 have hl:=len _ _ _ _ jL;have KX:K.In s.heap:=e0.mod.kh.keeps λb o e=>(e0.bs b o e).1
 have lim:s.heap.NoLimit:=e0.mod.nolimit.keeps λb o e=>(e0.bs b o e).1
 have hkind:∀y∈ps.zip us,scope.names.lookup y.1=ζ .local\/(scope.names.lookup y.1=ζ .cell/\((cellsFrom (s.heap.objs.size+1) scope.names []).lookup y.1).isSome=Γ):=fun⟨n,v⟩ hy=>by
  rcases S.par n (ahm hy).1 with q|q
  ·exact .inl q
  ·exact .inr ⟨q,ahF _ _ _ (.inl q)⟩
 refine ai9 hr.depth (KX _ _ lk) rfl S.co S.gen rfl (aja KX hcd) (hb _ _ _ _ ?_);refine ajb S.kind hkind λenv he s1 x=>?_
 subst he;refine⟨lim.keeps x.toInCall.keep,codeAny_func ?_⟩;obtain⟨t,ht,hq⟩:=hbody A outer s H vs Q E (hr.deeper _) jL;have I:Inv (vp P w K mg base N qual scope f cdv A outer s H E) [] (start N vs) H s1:=Zb S e0 hl r x;refine agh (ht [] s1 (start N vs) H _ I hq) (λfl s' hs=>?_) λe s' hs=>hs
 have fin:∀{σ':St}{H':Hp}{v:V}{u:Δ},Inv (vp P w K mg base N qual scope f cdv A outer s H E) [] σ' H' s'->RelV v u->Q v H'->CE outer P w H s Q u s' :=
  fun{σ' H' v u} J rv q=>⟨v,H',J.os,J.bare,J.base,J.hok,rv,q⟩
 cases fl with
 |ret u =>
  obtain⟨v,σ',H',J,rv,q⟩:=hs;exact fin J rv q
 |next =>
  obtain⟨σ',H',J,q⟩:=hs;exact fin (v:=V.aI) (u:=Value.none) J rfl q
 |brk =>
  obtain⟨_,_,_,q⟩:=hs;exact False.elim q
 |cont =>
  obtain⟨_,_,_,q⟩:=hs;exact False.elim q
theorem aaO{x qual:Str}{st:aag}{f:Ψ}{fd:π}{N ps:List Str}{k n m:Nat}{own:Bool}{d:ah}(F:jU K x qual st f fd) (S:cC N ps (aX st)) (hN:N.length=n) (hm:ps.length=m)
  (hb:∀(cdv:Δ) (A:χ) (outer:List Env) (s:Ω) (H:Hp) (E:XK),jo k (A.deeper (envOfC qual (aX st) s.heap.objs.size f cdv))->b7 (vp P w K mg base N qual (aX st) f cdv A outer s H E).fj (ck st) d) :
  zw P w K mg base (k+1) f fd ps (bX K m (cy n own d)):=by
 subst hN;subst hm;obtain⟨oc,od,kV,doc,pm,an,cdv,ct,osl,rfl,lk,hcd⟩:=F.ex;refine aaP lk hcd S (λvs H Q E h=>?_) λA outer s H vs Q E hr h=>⟨_,(hb cdv A outer s H E hr).fj,?_⟩
 ·obtain⟨ρ,xs,c,W,r,hl,p⟩:=h;exact r.length.trans hl
 ·obtain⟨ρ,xs,c,W,r,hl,p⟩:=h;refine⟨ρ,cg N.length xs,c,W,c9.start r,post.bind p λfl c1 aG H1 b _ W1 X1 r1 p1=>?_⟩
  cases fl with
  |nx e1 =>
   obtain⟨σ1,rfl,V1⟩:=r1;exact sf (v:=.aI) (x:=.aI) (H1:=H1) W W1 X1 rfl (by
    unfold cy at p;exact id (α:=post K (Rel K) (cY own c.length .aI c1) ρ H Q) (by
     rename_i he;rw[he]at p;exact p))
  |rt d =>
   obtain⟨v,rfl,V1⟩:=r1;exact sf (v:=d) (x:=v) (H1:=H1) W W1 X1 V1 (by
    unfold cy at p;rename_i he;rw[he]at p;exact p)
  |bk e1=>exact p1.elim
  |ct e1=>exact p1.elim
end
section
variable {X:Cx}
theorem Ti{x:Str}{st:aag}{ps:List Str}{f:Ψ}{fd:π}{k n:Nat}{m:List D->aa->R D}{e:ο}{es:List ο}{da:aj}{p pos:Pos}(D:Def X.K X.mg x st ps f fd) (G:zw X.prog X.w X.K X.mg X.base k f fd ps (bX X.K n m)) (hr:jo k X.A) (ha:gX X (e::es) da) (hg:Gl X x:=by rfl)
  (hdb:(x==("__debug__":Str))=θ:=by decide) (he:μ (e::es) X.env=(θ,eval e X.env)::μ es X.env:=by exact cj rfl) (hpl:(aah pos (μ es X.env)).any (·.1)=θ:=by exact iA rfl) :
  aW X (.Call (.Name x p) (e::es) [] pos) (aC n m da):=by
 intro pins s σ H Q I h;obtain⟨ρ,e',c,W,V,q⟩:=h;refine ahl (rW I hg D.at' ?_ hdb);refine ait (h₀:=X.base) I.ok.mod.kh D.fn.kp (br (ha pos pins s σ H (λvs H1=>bX X.K n m vs H1 Q E0) I ⟨ρ,e',c,W,V,post.bind q λxs c1 aG H1 vs _ W1 X1 r1 p1=>?_⟩) λus s1 ⟨vs,H1,I1,r,q⟩=>⟨I1.dX,?_⟩) he hpl
 ·split at p1
  ·rename_i hl;exact⟨aG,xs,c1,W1,r1,hl,p1⟩
  ·exact p1.elim
 ·have hl:us.length=ps.length:=by rw[<-r.length];exact G.len _ _ _ E0 q
  have hb:=D.bd s1 us I1.dX (by simpa using hl)
  rw[agW]at hb;refine ahk (agS (G.run X.A X.stack s1 H1 ⟨us,[]⟩ us vs Q E0 hr I1.yT hb r q) λr s' hq=>?_)
  cases r with
  |error e=>exact False.elim hq
  |ok fl =>
   cases fl with
   |ret u=>exact I1.after hq
   |next=>exact False.elim hq
   |brk=>exact False.elim hq
   |cont=>exact False.elim hq
end
structure vE (K:ξ) (T:List Str):Prop where
 cls:∀x∈T,∀C,Ξ K Θ x=ζ (ζ (.ref C))->PySem.W.kF K C/\PySem.W.kitOne K (.ref C) (.type "ValueError")=ζ Γ
 two:∀x∈T,∀y∈T,∀C C',Ξ K Θ x=ζ (ζ (.ref C))->Ξ K Θ y=ζ (ζ (.ref C'))->PySem.W.kitOne K (.ref C) (.ref C')=ζ (x==y)
def Fo(K:ξ) (x:Str):Bool:=match Ξ K Θ x with
 |some (ζ (.ref C))=>PySem.W.Dt K C&&PySem.W.kitOne K (.ref C) (.type "ValueError")==ζ Γ
 |_=>Γ
def Fw(K:ξ) (x y:Str):Bool:=match Ξ K Θ x,Ξ K Θ y with
 |some (ζ (.ref C)),ζ (ζ (.ref C'))=>PySem.W.kitOne K (.ref C) (.ref C')==ζ (x==y)
 |_,_=>Γ
def zP(K:ξ) (T:List Str):Bool:=T.all λx=>Fo K x&&T.all λy=>Fw K x y
theorem vE.of{K:ξ}{T:List Str}(h:zP K T=Γ):vE K T:=by
 unfold zP at h;rw[agc]at h;refine⟨λx hx C e=>?_,λx hx y hy C C' e e'=>?_⟩
 ·have q:=h x hx;rw[af5]at q;have q:=q.1;unfold Fo at q;rw[e]at q;simp only[af5,beq_iff_eq]at q;exact⟨.of q.1,q.2⟩
 ·have q:=h x hx;rw[af5,agc]at q;have q:=q.2 y hy;unfold Fw at q;rw[e,e']at q
  simpa using q
def gb(T:List Str):List D->aa->R D:=λxs c=>match xs with
 |[.exc x,.fn y _]=>if x∈T/\y∈T then .ok (.bl (x==y)) c else .bad
 |[.exc x,.ty n]=>if x∈T/\n="ValueError" then .ok (.bl Γ) c else .bad
 |_=>.bad
section
variable {X:Cx}{T:List Str}
theorem jk(Z:vE X.K T):d8 X (.builtin "isinstance") (rN X.K (gb T)):=by
 intro pins s σ H vs us Q I rv h;obtain⟨ρ,xs,c,W,rx,p⟩:=h;unfold gb at p;split at p
 ·split at p
  ·rename_i hT;obtain⟨v,r,rfl,⟨a,C,rfl,hC,hH⟩,u,r',rfl,⟨a',rfl,hC'⟩,hr⟩:=rx;cases hr;obtain⟨u1,u2,rfl,r1,r2⟩:=rv.two;cases r1;cases r2;obtain⟨hp,_,_⟩:=I.hok a _ hH;exact agE (PySem.W.IW (Z.cls _ hT.1 C hC).1) I.dX hp (Z.two _ hT.1 _ hT.2 C a' hC hC') (λz=>nomatch z) λtk=>⟨.bl _,H,I.tok _,rfl,p.here W rfl⟩
  ·exact p.elim
 ·split at p
  ·rename_i hT;obtain⟨v,r,rfl,⟨a,C,rfl,hC,hH⟩,u,r',rfl,hu,hr⟩:=rx;cases hr;cases hu;obtain⟨u1,u2,rfl,r1,r2⟩:=rv.two;cases r1;cases r2;obtain⟨hp,_,_⟩:=I.hok a _ hH;obtain⟨_,rfl⟩:=hT;rename_i hx;exact agE (PySem.W.IW (Z.cls _ hx C hC).1) I.dX hp (Z.cls _ hx C hC).2 (λz=>nomatch z) λtk=>⟨.bl Γ,H,I.tok _,rfl,p.here W rfl⟩
  ·exact p.elim
 ·exact p.elim
theorem jz{x:Str}{C:Ψ}{pos:Pos}(hm:X.mg x=ζ (.ref C)) (hn:Ξ X.K Θ x=ζ (ζ (.ref C))) (hg:Gl X x:=by rfl) (hd:(x==("__debug__":Str))=θ:=by decide):aW X (.Name x pos) (dC (.fn x 0)) :=
 ou (Hl (v:=.ref C) hg hm rfl hd) λ_ _=>⟨C,rfl,hn⟩
end
open PySem.SeqAt
section
variable {X:Cx}
def Rk:V->List V->Hp->VK->Prop:=λx vs H Q=>∃l,∃bs:List Bool,x=.ref l/\vs=[.bl Γ]/\H l=ζ (.lst (bs.map V.bl))/\Q (.int (bs.countP id:Nat)) H
def Rh:V->List V->Hp->VK->Prop:=λx vs H Q=>∃l,∃bs:List Bool,∃j,x=.ref l/\vs=[.bl Γ]/\H l=ζ (.lst (bs.map V.bl))/\bs.findIdx? id=ζ j/\Q (.int (j:Nat)) H
theorem Vals.EJ:∀{bs:List Bool}{us:List Δ},Vals (bs.map V.bl) us->us=bs.map Value.bool
 |[],_,.nil=>rfl
 |b::bs,_,.cons r t=>by cases r;rw[Vals.EJ t];rfl
def eqT:Δ->Bool
 |.bool b=>b
 |_=>θ
theorem aa3(bs:List Bool):(bs.map Value.bool).countP eqT=bs.countP id:=by
 induction bs with
 |nil=>rfl
 |cons b bs ih=>rw[af8,ajt,ajt,ih];rfl
theorem Kl{A:χ}{s:Ω}(bs:List Bool):∀y,y∈(bs.map Value.bool).toArray->EqAt A s y (.bool Γ) (eqT y):=λy hy=>by
 rw[List.mem_toArray,af4]at hy;obtain⟨b,_,rfl⟩:=hy;have:=EqAt.bool_bool (A:=A) (s:=s) b Γ;cases b<;>exact this
theorem Xo:vL X "list.count" Rk:=by
 intro pins s σ H x vs v us Q I rx rv h;obtain⟨l,bs,rfl,rfl,hH,q⟩:=h;cases rx;obtain⟨u,rfl,ru⟩:=rv.one;cases ru;obtain⟨z,its,n,r,hl,e⟩:=I.k7 hH;cases r.EJ;refine ag2 F.slot_list_count ⟨_,e,rfl⟩ F.entry_list_count (F.args_list_count_2 _ _) (list_countAt l (bs.map Value.bool).toArray n η #[] (.bool Γ) eqT) ⟨e,Kl bs,?_⟩;refine⟨.int (bs.countP id:Nat),H,I.tok _,⟨s.toks,?_⟩,q⟩;rw[List.toList_toArray,aa3]
theorem Xm:vL X "list.index" Rh:=by
 intro pins s σ H x vs v us Q I rx rv h;obtain⟨l,bs,j,rfl,rfl,hH,hj,q⟩:=h;cases rx;obtain⟨u,rfl,ru⟩:=rv.one;cases ru;obtain⟨z,its,n,r,hl,e⟩:=I.k7 hH;cases r.EJ;rw[aju]at hj;obtain⟨h1,h2,h3⟩:=hj;have hz:bs.length<=ε:=by simpa using z
 have hs:(j:Int)<2^63-1:=by
  have:ε<2^62:=by decide
  omega
 refine ag2 F.slot_list_index ⟨_,e,rfl⟩ F.entry_list_index (F.args_list_index_2 _ _) (list_indexAt l (bs.map Value.bool).toArray n η #[] (.bool Γ) eqT j (by simpa using h1) hs (by simpa[eqT]using h2) (λm hm hlt=>by have:=h3 m hlt;simpa[eqT]using this)) ⟨e,Kl bs,?_⟩
 exact⟨.int (j:Nat),H,I.tok _,⟨s.toks,rfl⟩,q⟩
end
def DV(o a:af):af:=λe c=>(o e c).bind λx c=>match x with
 |.lst l=>(a e c).bind λy c=>match y,kq l with
  |.bl Γ,ζ bs=>.ok (.int (bs.countP id:Nat)) c
  |_,_=>.bad
 |_=>.bad
def DU(o a:af):af:=λe c=>(o e c).bind λx c=>match x with
 |.lst l=>(a e c).bind λy c=>match y,kq l with
  |.bl Γ,ζ bs=>match bs.findIdx? id with
   |some j=>.ok (.int (j:Nat)) c
   |none=>.bad
  |_,_=>.bad
 |_=>.bad
theorem aH.EI{K:ξ}{ρ:List Ψ}{H:Hp}:∀{bs:List Bool}{xs:List V},aH K ρ H (bs.map D.bl) xs->xs=bs.map V.bl
 |[],_,h=>h
 |b::bs,_,h=>by
  obtain⟨x,r,rfl,h1,h2⟩:=h;cases h1;rw[aH.EI h2];rfl
section
variable {X:Cx}
theorem Tj{o e:ο}{dO da:af}{apos cpos:Pos}(ho:aW X o dO) (ha:aW X e da)
  (hbase:aao o "count" X.env (eval o X.env)=eval o X.env:=by rfl)
  (hfew:((aah cpos (μ [e] X.env)).all (λx=>!x.1)&&(aaB cpos (aak [] X.env)).all (λx=>x.1.isSome)
   && decide ([e].length+([]:List aam).length+(if([]:List aam).isEmpty then 0 else 1)<30))=Γ:=by exact wC rfl)
  (hline:(apos.endLine==cpos.line)=Γ:=by rfl) (hs:μ [e] X.env=(θ,eval e X.env)::μ [] X.env:=by exact cj rfl) (hplain:(aah cpos (μ [] X.env)).any (·.1)=θ:=by exact iA rfl) :
  aW X (.Call (.Attribute o "count" apos) [e] [] cpos) (DV dO da) :=
 (uK ahO PySem.F.slot_list_count PySem.F.type_list_count Xo ho (je ha kQ hs) hbase hfew hline hs hplain).imp λσ H Q h=>by
  obtain⟨ρ,e,c,W,V,p⟩:=h;refine⟨ρ,e,c,W,V,post.bind p λx c1 aG H1 v _ W1 X1 r1 p1=>?_⟩
  cases x with
  |lst l =>
   obtain⟨a,xs,rfl,hx,rl⟩:=r1;refine⟨.inl ⟨rfl,xs,bY.of hx.1⟩,aG,e,c1,W1,V.mono W X1,post.bind p1 λy c2 cz H2 u _ W2 X2 r2 p2=>?_⟩
   split at p2
   ·rename_i bs hb _;cases r2;rw[vA hb]at rl;cases rl.EI;exact⟨a,bs,rfl,rfl,(X2.keep a _ hx.1 hx.2 rfl).1,p2.here W2 rfl⟩
   ·exact p2.elim
  |_=>exact p1.elim
theorem Tf{o e:ο}{dO da:af}{apos cpos:Pos}(ho:aW X o dO) (ha:aW X e da)
  (hbase:aao o "index" X.env (eval o X.env)=eval o X.env:=by rfl)
  (hfew:((aah cpos (μ [e] X.env)).all (λx=>!x.1)&&(aaB cpos (aak [] X.env)).all (λx=>x.1.isSome)
   && decide ([e].length+([]:List aam).length+(if([]:List aam).isEmpty then 0 else 1)<30))=Γ:=by exact wC rfl)
  (hline:(apos.endLine==cpos.line)=Γ:=by rfl) (hs:μ [e] X.env=(θ,eval e X.env)::μ [] X.env:=by exact cj rfl) (hplain:(aah cpos (μ [] X.env)).any (·.1)=θ:=by exact iA rfl) :
  aW X (.Call (.Attribute o "index" apos) [e] [] cpos) (DU dO da) :=
 (uK ahO PySem.F.slot_list_index PySem.F.type_list_index Xm ho (je ha kQ hs) hbase hfew hline hs hplain).imp λσ H Q h=>by
  obtain⟨ρ,e,c,W,V,p⟩:=h;refine⟨ρ,e,c,W,V,post.bind p λx c1 aG H1 v _ W1 X1 r1 p1=>?_⟩
  cases x with
  |lst l =>
   obtain⟨a,xs,rfl,hx,rl⟩:=r1;refine⟨.inl ⟨rfl,xs,bY.of hx.1⟩,aG,e,c1,W1,V.mono W X1,post.bind p1 λy c2 cz H2 u _ W2 X2 r2 p2=>?_⟩
   split at p2
   ·rename_i bs hb _;cases r2;rw[vA hb]at rl;cases rl.EI;split at p2
    ·rename_i j hj;exact⟨a,bs,j,rfl,rfl,(X2.keep a _ hx.1 hx.2 rfl).1,hj,p2.here W2 rfl⟩
    ·exact p2.elim
   ·exact p2.elim
  |_=>exact p1.elim
def uC(T:List Str) (i n:Nat) (b:ah) (x:Xd) (h:af):ah:=λe c=>match b e c with
 |.ok f c=>.ok f c
 |.bad=>(x e c).bind λy c=>if y∈T then(h ((ν n η).set i (ζ (.exc y))) c).bind λv c=>.ok (.rt v) c else .bad
theorem RE{body:List aag}{h₀:ExceptHandler}{pos:Pos}{t:TS}(hb:eT X.fj body t):PS X (.Try body [h₀] [] [] pos) t:=λpins s σ H D I h=>by
 refine wpAny_Try_except (agh (hb pins s σ H D (I.iO _) h) (λf s' q=>?_) λ_ _ z=>z.elim)
 have q:=q.jx;cases f with
 |next=>exact ahT q
 |brk=>exact q
 |cont=>exact q
 |ret u=>exact q
theorem PY{T:List Str}{i m:Nat}{n cn:Str}{Cn:Ψ}{body:List aag}{he:ο}{rpos np hpos pos:Pos}{b:ah}{x:Xd}{h:af}
  (hb:b7 X.fj body b) (hx:∀W pn,qb (X.tried W pn) (vS (X.tried W pn)) body x) (hS:∀ea,aW (X.held (.ref ea)) he h)
  (hm:X.mg cn=ζ (.ref Cn)) (hT:∀y∈T,∃C,Ξ X.K Θ y=ζ (ζ (.ref C))/\PySem.W.exmOne X.K (.ref C) (.ref Cn)=ζ Γ)
  (hN:X.N.Nodup:=by decide +kernel) (hi:X.N[i]? = ζ n:=by rfl) (hlen:X.N.length=m:=by rfl) (hl:X.env.scope.names.lookup n=ζ .local:=by rfl) (hg:Gl X cn:=by rfl) (jK:X.stack=X.env::X.outer/\X.env.frame=ζ X.env.locals:=by exact⟨rfl,rfl⟩) (hd:(cn==("__debug__":Str))=θ:=by decide) :
  jT X (.Try body [.ExceptHandler (ζ (.Name cn np)) (ζ n) [.Return (ζ he) rpos] hpos] [] [] pos) (uC T i m b x h):=by
 intro pins s σ H D I hh;obtain⟨ρ,e,c,W,V,p⟩:=hh;unfold uC at p;cases q:b e c with
 |ok f c1 =>
  rw[q]at p;exact RE hb pins s σ H D I ⟨ρ,e,c,W,V,by rw[q];exact p⟩
 |bad =>
  rw[q]at p;dsimp only at p;refine RG (X:=X) (th:=λea=>Aj X.K (aR h)) (tb:=λA σ H=>tD X.K (λ_ _ a b=>a=b) x σ H A) hx (λA A' σ H hA ⟨ρ,e,c,W,V,p⟩=>⟨ρ,e,c,W,V,p.mono hA⟩)
   (λea=>aZ (bS (hS ea))) hN hi hl hg hm jK hd pins s σ H D I ⟨ρ,e,c,W,V,post.bind p λy c1 aG H1 b _ W1 X1 r1 p1=>?_⟩
  cases r1;split at p1
  ·rename_i hy;obtain⟨C,hC,hC2⟩:=hT y hy;refine⟨C,hC,hC2,λea σ' hl' hf=>?_⟩
   refine⟨aG,(ν m η).set i (ζ (.exc y)),c1,W1.fresh hf,⟨λj d hj=>?_,by simp[hl',hlen]⟩,?_⟩
   ·by_cases e1:j=i
    ·subst e1;have hlt:j<m:=by
      have:=(af6.mp hj).1
      simpa using this
     rw[agI (by simpa using hlt)]at hj
     cases hj;refine⟨.ref ea,by rw[agI (by rw[hl',hlen];exact hlt)],ea,C,rfl,hC,gw⟩
    ·rw[agU (agz e1),aiv]at hj;split at hj<;>cases hj
   ·have p2:=p1.ext (Ext.fresh (p:=ea) (o:=.ext (lA ea C)) W1 hf);unfold aR;cases qh:h ((ν m η).set i (ζ (.exc y))) c1 with
    |bad=>rw[qh]at p2;exact p2.elim
    |ok v c2 =>
     rw[qh]at p2;exact λcz H2 f W2 X2 r2=>by
      have z:=p2 cz H2 f W2 X2 r2;obtain⟨v',rfl,_⟩:=r2;exact z
  ·exact p1.elim
end
theorem jo.held{k:Nat}{A:χ}{h:Option Δ}(r:cP k A):jo k (A.mark h):=⟨r.dp,r.un⟩
theorem ac5:bootBuiltins "ValueError"=ζ (.type "ValueError"):=by decide +kernel
abbrev we:List Δ:=[.type "ValueError",.type "Exception",.type "BaseException",.type "object"]
theorem Tv{K:ξ}{h:ψ}{mg:Str->Option Δ}{x:Str}{C:Ψ}{bmB:List Δ}{newId:String}(X:K.In h) (e:mg x=ζ (.ref C)) (q:PySem.W.excIn K C bmB newId=Γ):OwnCls x C bmB newId mg h:=by
 refine⟨e,?_⟩;unfold PySem.W.excIn at q;split at q
 ·rename_i dd cd sl ho;split at q
  ·rename_i C' bm k0 k1 k2 k3 n k5 hm hs;simp only[af5,beq_iff_eq,Bool.not_eq_true']at q;obtain⟨⟨⟨⟨⟨rfl,rfl⟩,JD⟩,ht⟩,hok⟩,hni⟩:=q;obtain⟨nm,bs,mro,ns,qn,hd,sn,sub,ab,col,del⟩:=cd;dsimp only at hm JD hok hni;subst hm JD;have hsl:sl=#[k0,k1,k2,k3,ζ (.builtin n),k5]:=by
    obtain⟨l⟩:=sl;simp only at hs;rw[hs]
   subst hsl;exact⟨bm,ns,nm,qn,bs,hd,sn,sub,ab,col,dd,k0,k1,k2,k3,k5,_,X _ _ ho,.of_isNs (PySem.W.isNs_of_in X hok),PySem.W.nsMap_none_of_in X hok hni,PySem.W.tail_of_in X ht⟩
  ·cases q
 ·cases q
theorem vF.of{K:ξ}{mg:Str->Option Δ}{x:Str}{C:Ψ}(n:Ξ K Θ x=ζ (ζ (.ref C))) (m:mg x=ζ (.ref C)) (q:PySem.W.excIn K C we "ValueError.__new__"=Γ):vF K mg x we "ValueError.__new__" :=
 ⟨C,n,m,λ_ X=>Tv X m q⟩
def zO(K:ξ) (T:List Str) (Cn:Ψ):Bool:=T.all λy=>match Ξ K Θ y with
 |some (ζ (.ref C))=>PySem.W.exmOne K (.ref C) (.ref Cn)==ζ Γ
 |_=>θ
theorem MC{K:ξ}{T:List Str}{Cn:Ψ}(h:zO K T Cn=Γ):∀y∈T,∃C,Ξ K Θ y=ζ (ζ (.ref C))/\PySem.W.exmOne K (.ref C) (.ref Cn)=ζ Γ:=λy hy=>by
 have q:=agc.mp h y hy;split at q
 ·rename_i C e;exact⟨C,e,by simpa using q⟩
 ·cases q
def sy:af:=λ_ c=>.ok .gK c
def gV:D->D->aa->R D:=λx y c=>match x,y with
 |.tup l,.tup m=>if l.length+m.length<=ε then .ok (.tup (l++m)) c else .bad
 |_,_=>.bad
section
variable {X:Cx}
theorem Ht{pos:Pos}:aW X (.Dict [] [] pos) sy:=by
 intro pins s σ H Q I h;obtain⟨ρ,e,c,W,V,p⟩:=h;refine wpAny_Dict_empty ?_;have hf:H s.heap.objs.size=η:=I.hok.fresh (afU _);refine⟨.ref s.heap.objs.size,upd H s.heap.objs.size (.ext (Kq s.heap.objs.size)),I.laid (t':=s.toks) (λb u e=>afY _ e) (afU _) ?_,rfl,p ρ _ _ (W.fresh hf) (Ext.fresh W hf) ⟨_,rfl,gw⟩⟩
 exact⟨⟨_,aga _ rfl,rfl⟩,⟨_,aga _ rfl⟩,λh1 h2 ⟨o,ho,hc⟩ k=>⟨o,k o ho,hc⟩⟩
theorem T7:bK X (binaryOp .Add) (λx y H Q=>∃a b ys,x=.ref a/\y=.ref b/\bU X.K H a []/\bU X.K H b ys/\Q (.ref b) H):=by
 intro pins s σ H x y v u Q I rx ry h;obtain⟨a,b,ys,rfl,rfl,ha,hb,q⟩:=h;cases rx;cases ry;obtain⟨its,r1,p1,_⟩:=I.tuple ha;obtain⟨its2,r2,p2,_⟩:=I.tuple hb;cases r1;obtain⟨⟨cls,dd,data,sl⟩,ho,hc,n,hd⟩:=id p1;obtain⟨⟨acC,dd2,data2,sl2⟩,ho2,hc2,n2,hd2⟩:=id p2;simp only at hc hd hc2 hd2;subst hc hd hc2 hd2;exact aiy ⟨_,ho,rfl⟩ ⟨_,ho2,rfl⟩ aiz aiA aiB aiC (aiD _ _)
   (tuple_addW0 a b [].toArray its2.toArray n n2 dd dd2 sl sl2 rfl) ⟨ho,ho2,⟨.ref b,H,I,rfl,q⟩⟩
theorem rM:bK X (binaryOp .Add) (r2 X.K gV):=by
 intro pins s σ H v u vv uu Q I rv ru h;obtain⟨ρ,x,y,c,W,rx,ry,p⟩:=h;unfold gV at p;split at p
 ·rename_i l m;split at p
  ·rename_i hl;obtain⟨a,xs,rfl,sa,ra⟩:=rx;obtain⟨b,ys,rfl,sb,rb⟩:=ry
   by_cases hz:xs=[]
   ·subst hz;have:l=[]:=by have:=ra.length;exact ajv.mp (by simpa using this.symm)
    subst this;exact T7 pins s σ H _ _ vv uu Q I rv ru ⟨a,b,ys,rfl,rfl,bU.of sa,bU.of sb,p.here W ⟨b,ys,rfl,sb,rb⟩⟩
   ·refine Hy pins s σ H _ _ vv uu Q I rv ru ⟨a,b,xs,ys,rfl,rfl,bU.of sa,bU.of sb,hz,by rw[ra.length,rb.length];exact hl,λz=>?_,λ_=>oH W (ra.append rb) p⟩
    refine p.here W ⟨a,xs++ys,rfl,by rw[z,agW];exact sa,ra.append rb⟩
  ·exact p.elim
 ·exact p.elim
end
theorem aH.rep{K:ξ}{ρ:List Ψ}{H:Hp}{l:List D}{xs:List V}(r:aH K ρ H l xs):∀n:Nat,aH K ρ H (ν n l).flatten (ν n xs).flatten
 |0=>rfl
 |n+1=>by
  rw[agY,agY,ag1,ag1];exact aH.append r (aH.rep r n)
def jX:D->D->aa->R D:=λx y c=>match x,y with
 |.lst l,.int k=>if -(2^63)<=k/\k<2^63/\l.length*k.toNat<=ε/\bL l=Γ then .ok (.ref c.length) (c++[.lst (ν k.toNat l).flatten])else .bad
 |_,_=>.bad
theorem HV{l:List D}(h:bL l=Γ):∀n:Nat,bL (ν n l).flatten=Γ
 |0=>by simp
 |n+1=>by rw[agY,ag1,uS,h,HV h n];rfl
theorem HF{X:Cx}:bK X (binaryOp .Mult) (r2 X.K jX):=by
 intro pins s σ H v u vv uu Q I rv ru h;obtain⟨ρ,x,y,c,W,rx,ry,p⟩:=h;unfold jX at p;split at p
 ·split at p
  ·rename_i hl;obtain⟨a,xs,rfl,sa,ra⟩:=rx;cases ry;exact TN pins s σ H _ _ vv uu Q I rv ru ⟨a,_,xs,rfl,rfl,sa.1,hl.1,hl.2.1,by rw[ra.length];exact hl.2.2.1,AV W (HV hl.2.2.2 _) (aH.rep ra _) p⟩
  ·exact p.elim
 ·exact p.elim
def ee(o a:af):af:=λe c=>(o e c).bind λx c=>match x with
 |.ref k=>(a e c).bind λy c=>match y with
  |.lst m=>match c[k]? with
   |some (.lst l)=>if l.length+m.length<=ε/\bL m=Γ then .ok .aI (c.set k (.lst (l++m)))else .bad
   |none=>.bad
  |_=>.bad
 |_=>.bad
theorem uN{X:Cx}{o e:ο}{dO da:af}{apos cpos:Pos}(ho:aW X o dO) (ha:aW X e da)
  (hbase:aao o "extend" X.env (eval o X.env)=eval o X.env:=by rfl)
  (hfew:((aah cpos (μ [e] X.env)).all (λx=>!x.1)&&(aaB cpos (aak [] X.env)).all (λx=>x.1.isSome)
   && decide ([e].length+([]:List aam).length+(if([]:List aam).isEmpty then 0 else 1)<30))=Γ:=by exact wC rfl)
  (hline:(apos.endLine==cpos.line)=Γ:=by rfl) (hs:μ [e] X.env=(θ,eval e X.env)::μ [] X.env:=by exact cj rfl) (hplain:(aah cpos (μ [] X.env)).any (·.1)=θ:=by exact iA rfl) :
  aW X (.Call (.Attribute o "extend" apos) [e] [] cpos) (ee dO da) :=
 (uK ahO PySem.F.slot_list_extend PySem.F.type_list_extend Xn ho (je ha kQ hs) hbase hfew hline hs hplain).imp λσ H Q h=>by
  obtain⟨ρ,e,c,W,V,p⟩:=h;refine⟨ρ,e,c,W,V,post.bind p λx c1 aG H1 v _ W1 X1 r1 p1=>?_⟩
  cases x with
  |ref k =>
   obtain⟨a,rfl,ha⟩:=r1;obtain⟨xs,hx⟩:=W1.at' (agk ha);refine⟨.inl ⟨rfl,xs,bY.of hx⟩,aG,e,c1,W1,V.mono W X1,post.bind p1 λy c2 cz H2 u _ W2 X2 r2 p2=>?_⟩
   cases y with
   |lst m =>
    obtain⟨b,zs,rfl,sb,rb⟩:=r2;dsimp only at p2;split at p2
    ·rename_i l hl;split at p2
     ·rename_i hh;obtain⟨nr,ys,hy,rl⟩:=W2.ff k a _ (X2.pre k a ha) hl;refine⟨a,b,ys,zs,rfl,rfl,hy,sb.1,by rw[rl.length,rb.length];exact hh.1,?_⟩
      refine p2 cz _ .aI (W2.write (X2.pre k a ha) (by rw[uS,nr,hh.2];rfl) (rl.append rb)) (Ext.write (X2.pre k a ha)) rfl
     ·exact p2.elim
    ·exact p2.elim
   |_=>exact p2.elim
  |_=>exact p1.elim
section
variable (e:Ev) (c:aa) (o a:af)
@[simp] theorem ML(m:List D) (k:Int):jX (.lst m) (.int k) c=if -(2^63)<=k/\k<2^63/\m.length*k.toNat<=ε/\bL m=Γ then .ok (.ref c.length) (c++[.lst (ν k.toNat m).flatten])else .bad:=rfl
end
theorem CL{α:Type}{st:aa->Prop}{g:Gd}{s:ah}(C:Nat->aa) (E:Nat->α->Ev):∀(items:List D) (k:Nat) (v:α),(∀i,i<=items.length->st (C (k+i))) ->
  (∀i x,items[i]? = ζ x->∀v,∃e',g x (E (k+i) v) (C (k+i))=.ok e' (C (k+i))/\∃v',s e' (C (k+i))=.ok (.nx (E (k+i+1) v')) (C (k+i+1))) ->
  ∃v',cu st g s items (E k v) (C k)=.ok (.nx (E (k+items.length) v')) (C (k+items.length))
 |[],k,v,hst,_=>⟨v,by
   have:=hst 0 (afU _);rw[aia]at this;unfold cu;rw[if_pos this];rfl⟩
 |x::xs,k,v,hst,h=>by
  obtain⟨e',h1,v',h2⟩:=h 0 x rfl v;obtain⟨v2,h3⟩:=CL C E xs (k+1) v' (λi hi=>by
   have:=hst (i+1) (by simp only[af1];omega)
   rwa[show k+(i+1)=k+1+i by omega]at this) (λi y hy v=>by
   have:=h (i+1) y (by simpa using hy) v
   rwa[show k+(i+1)=k+1+i by omega]at this)
  refine⟨v2,?_⟩;unfold cu;rw[if_pos (by have:=hst 0 (agK _);exact this)]
  rw[aia]at h1 h2;rw[h1,R.az,h2];simp only[R.az];rw[h3,af1,show k+(xs.length+1)=k+1+xs.length by omega]
theorem J6{α:Type}{g:Gd}{s:ah}(C:Nat->aa) (E:Nat->α->Ev) {N:Int}{n:Nat}(hN:N=n) (v:α)
  (h:∀i,i<n->∀v,∃e',g (.int (i:Nat)) (E i v) (C i)=.ok e' (C i)/\∃v',s e' (C i)=.ok (.nx (E (i+1) v')) (C (i+1))) :
  ∃v',cu (λ_=>True) g s (aM 0 N) (E 0 v) (C 0)=.ok (.nx (E n v')) (C n):=by
 have hl:(aM 0 N).length=n:=by rw[dG];omega
 have:=CL (st:=λ_=>True) C E (aM 0 N) 0 v (λ_ _=>trivial) (λi x hx v=>by
  obtain⟨h1,rfl⟩:=kL hx;rw[agr,ahu];exact h i (by omega) v)
 rwa[hl,agr]at this
abbrev Up(l:List Nat):Prop:=l.Pairwise (· < ·)
theorem getD_list(xs:Array Nat) (i d:Nat):xs.getD i d=xs.toList.getD i d:=by
 simp[ajw,agi]
theorem wg{l:List Nat}(h:Up l) {i k:Nat}(hik:i<k) (hk:k<l.length):l.getD i 0<l.getD k 0:=by
 have:=List.pairwise_iff_getElem.mp h i k (by omega) hk hik
 simpa[agi,af2 hk,af2 (show i<l.length by omega)]using this
def Parts(l:List Nat) (j p:Nat):Prop:=p<=l.length/\(∀i,i<p->l.getD i 0<j)/\∀i,p<=i->i<l.length->j<=l.getD i 0
theorem EN{xs:Array Nat}{j:Nat}(h:Up xs.toList):∀fuel lo hi,lo<=hi->hi<=xs.toList.length->hi-lo<=fuel->(∀i,i<lo->xs.toList.getD i 0<j)->(∀i,hi<=i->i<xs.toList.length->j<=xs.toList.getD i 0) ->
  Parts xs.toList j (SetTable.below.go xs j fuel lo hi)
 |0,lo,hi,h1,h2,h3,h4,h5=>⟨by unfold SetTable.below.go;omega,λi hi'=>h4 i (by unfold SetTable.below.go at hi';exact hi'),λi hi'=>h5 i (by unfold SetTable.below.go at hi';omega)⟩
 |fuel+1,lo,hi,h1,h2,h3,h4,h5=>by
  unfold SetTable.below.go
  by_cases hl:lo<hi
  ·rw[if_pos hl];dsimp only;have hm:(lo+hi)/2<xs.toList.length:=by omega
   have he:xs.getD ((lo+hi)/2) j=xs.toList.getD ((lo+hi)/2) 0:=by
    rw[getD_list];simp[agi,af2 hm]
   rw[he]
   by_cases hc:xs.toList.getD ((lo+hi)/2) 0<j
   ·rw[if_pos hc];refine EN h fuel _ _ (by omega) h2 (by omega) (λi hi'=>?_) h5
    by_cases hq:i=(lo+hi)/2
    ·rw[hq];exact hc
    ·exact ahP (wg h (show i<(lo+hi)/2 by omega) hm) hc
   ·rw[if_neg hc];refine EN h fuel _ _ (by omega) (by omega) (by omega) h4 (λi hi' hl'=>?_)
    by_cases hq:i=(lo+hi)/2
    ·rw[hq];omega
    ·exact agf (by omega) (ag8 (wg h (show(lo+hi)/2<i by omega) hl'))
  ·rw[if_neg hl];exact⟨by omega,h4,λi hi'=>h5 i (by omega)⟩
theorem zh{xs:Array Nat}(h:Up xs.toList) (j:Nat):Parts xs.toList j (SetTable.below xs j):=by
 unfold SetTable.below;exact EN h _ _ _ (agK _) (by simp) (by simp) (λi hi=>absurd hi (aiO _)) (λi h1 h2=>by simp at h2;omega)
theorem ac8{xs:Array Nat}(h:Up xs.toList):SetTable.below xs 0=0:=by
 obtain⟨_,h2,_⟩:=zh h 0
 rcases ajx (SetTable.below xs 0)with e|e
 ·exact e
 ·exact absurd (h2 0 e) (aiO _)
theorem ac9{xs:Array Nat}(h:Up xs.toList) {i:Nat}(hi:i<xs.toList.length):SetTable.below xs (xs.toList.getD i 0+1)=i+1:=by
 obtain⟨h1,h2,h3⟩:=zh h (xs.toList.getD i 0+1)
 rcases ajy (SetTable.below xs (xs.toList.getD i 0+1)) (i+1)with e|e|e
 ·have:=h3 i (by omega) hi;omega
 ·exact e
 ·have a:=h2 (i+1) e;have b:=wg h (show i<i+1 by omega) (show i+1<xs.toList.length by omega)
  omega
theorem ada{xs:Array Nat}(h:Up xs.toList) {j:Nat}(hj:j∈xs.toList):xs[SetTable.below xs j]? = ζ j:=by
 obtain⟨i,hi,e⟩:=aib hj;obtain⟨h1,h2,h3⟩:=zh h j;have e':xs.toList.getD i 0=j:=by rw[agi,af2 hi];exact e
 have hp:SetTable.below xs j=i:=by
  rcases ajy (SetTable.below xs j) i with q|q|q
  ·have a:=h3 (SetTable.below xs j) (afU _) (by omega)
   have b:=wg h q hi;omega
  ·exact q
  ·have a:=h2 i q;omega
 rw[hp,<-ahf,af2 hi,e]
theorem NN{xs:Array Nat}(h:Up xs.toList) {j:Nat}(hj:j∉xs.toList):Up (SetTable.insertAt xs (SetTable.below xs j) j).toList:=by
 rw[SetTable.toList_insertAt];obtain⟨h1,h2,h3⟩:=zh h j
 generalize SetTable.below xs j=p at h1 h2 h3
 have ht:∀a∈xs.toList.take p,a<j:=by
  intro a ha;obtain⟨i,hi,e⟩:=aib ha;have hi':i<p/\i<xs.toList.length:=by simp at hi ⊢;omega
  have:=h2 i hi'.1;rw[aiL]at e;rw[agi,af2 hi'.2]at this
  simpa[<-e]using this
 have hd:∀a∈xs.toList.drop p,j<a:=by
  intro a ha;have hm:a∈xs.toList:=aiP ha;obtain⟨i,hi,e⟩:=aib ha;have hi':p+i<xs.toList.length:=by simp at hi ⊢;omega
  have:=h3 (p+i) (by omega) hi'
  rw[List.getElem_drop]at e;rw[agi,af2 hi']at this;have hle:j<=a:=by simpa[<-e]using this
  exact Nat.lt_of_le_of_ne hle λq=>hj (q▸hm)
 refine List.pairwise_append.mpr ⟨h.sublist (aix _ _),ag6.mpr ⟨hd,h.sublist (List.drop_sublist _ _)⟩,λa ha b hb=>?_⟩
 rcases afW.mp hb with rfl|hb
 ·exact ht a ha
 ·exact ahP (ht a ha) (hd b hb)
theorem G7:∀(n:Nat) (l:List Nat),(∀j,j<n->j∈l)->n<=l.length
 |0,_,_=>agK _
 |n+1,l,h=>by
  have hn:=h n (ag4 _);have:=G7 n (l.erase n) λj hj=>(List.mem_erase_of_ne (by omega)).mpr (h j (by omega))
  rw[List.length_erase_of_mem hn]at this;have:=List.length_pos_of_mem hn;omega
def iK(mask:Nat):Nat->Nat->Nat->Nat->Nat->Nat->Bool
 |0,_,_,_,_,_=>θ
 |n+1,j,more,i,q,acc =>
  if acc |||(1 <<< j)=2^(mask+1)-1 then Γ
  else if more>0 then iK mask n (j+1) (more-1) i q (acc |||(1 <<< j))
  else iK mask n ((i*5+1+q/32) % (mask+1)) (SetTable.runEnd mask ((i*5+1+q/32) % (mask+1))-(i*5+1+q/32) % (mask+1)) ((i*5+1+q/32) % (mask+1)) (q/32) (acc |||(1 <<< j))
def zd(mask:Nat):Bool:=(ι 128).all λh=>iK mask (10*(mask+15)) (h % (mask+1)) (SetTable.runEnd mask (h % (mask+1))-h % (mask+1)) (h % (mask+1)) h 0
def ny(mask:Nat):Nat->Nat->Nat->Nat->Bool
 |0,_,_,_=>θ
 |n+1,i,q,acc =>
  if acc |||((2^(SetTable.runEnd mask i+1-i)-1) <<< i)=2^(mask+1)-1 then Γ
  else ny mask n ((i*5+1+q/32) % (mask+1)) (q/32) (acc |||((2^(SetTable.runEnd mask i+1-i)-1) <<< i))
def DW(mask:Nat):Bool:=(ι 128).all λh=>ny mask (mask+15) (h % (mask+1)) h 0
theorem acu:zd 7=Γ:=by decide +kernel
theorem acv:zd 31=Γ:=by decide +kernel
theorem acw:zd 127=Γ:=by decide +kernel
theorem acr:DW 31=Γ:=by decide +kernel
theorem acs:DW 127=Γ:=by decide +kernel
theorem EL(acc j k:Nat):(acc |||(1 <<< j)).testBit k=(acc.testBit k||decide (k=j)):=by
 rw[Nat.testBit_or,Nat.one_shiftLeft,Nat.testBit_two_pow]
 by_cases h:j=k
 ·subst h;simp
 ·simp[h,agz h]
theorem zc{mask:Nat}:∀n j more i q acc,iK mask n j more i q acc=Γ->∀k,acc.testBit k=Γ->k<=mask
 |0,_,_,_,_,_,h,_,_=>by cases h
 |n+1,j,more,i,q,acc,h,k,hk=>by
  have hk':(acc |||(1 <<< j)).testBit k=Γ:=by rw[EL,hk];rfl
  unfold iK at h;split at h
  ·rename_i e;rw[e,ahQ]at hk';have:=of_decide_eq_true hk';omega
  ·split at h
   ·exact zc _ _ _ _ _ _ h k hk'
   ·exact zc _ _ _ _ _ _ h k hk'
theorem Gw{t:aai}(hd:t.dummies=#[]) (j:Nat):t.slot j=.empty\/∃i,t.slot j=.live i:=by
 unfold SetTable.slot;dsimp only;split
 ·exact .inr ⟨_,rfl⟩
 ·rw[hd];exact .inl rfl
theorem CJ{t:aai}{h:Int}(hd:t.dummies=#[]):∀n (p:SetTable.Probe) acc fuel,iK t.mask n p.j p.more p.i p.perturb acc=Γ->p.dummy=η->n<=fuel ->
  (∀k,acc.testBit k=Γ->t.slot k≠.empty)->(∃j,j<=t.mask/\t.slot j=.empty) ->
  ∃j,SetTable.probe.go t (λ_=>h+1) h fuel p=ζ (.empty j η)/\t.slot j=.empty/\j<=t.mask
 |0,_,_,_,h,_,_,_,_=>by simp[iK]at h
 |n+1,p,acc,0,_,_,h,_,_=>by omega
 |n+1,p,acc,fuel+1,hc,hn,hf,ha,hj=>by
  have hle:p.j<=t.mask:=by
   have hk':(acc |||(1 <<< p.j)).testBit p.j=Γ:=by rw[EL];simp
   unfold iK at hc;split at hc
   ·rename_i e;rw[e,ahQ]at hk';have:=of_decide_eq_true hk';omega
   ·split at hc
    ·exact zc _ _ _ _ _ _ hc _ hk'
    ·exact zc _ _ _ _ _ _ hc _ hk'
  unfold SetTable.probe.go
  rcases Gw hd p.j with e|⟨i,e⟩
  ·rw[e];dsimp only;exact⟨p.j,by rw[hn],e,hle⟩
  ·rw[e];dsimp only;have hne:(h+1==h)=θ:=by simp;omega
   rw[hne];simp only[ahc,if_false];have ha':∀k,(acc |||(1 <<< p.j)).testBit k=Γ->t.slot k≠.empty:=by
    intro k hk;rw[EL,ahr,decide_eq_true_eq]at hk
    rcases hk with hk|rfl
    ·exact ha k hk
    ·rw[e];intro q;cases q
   unfold iK at hc;split at hc
   ·rename_i ef;obtain⟨j0,h0,e0⟩:=hj;exact absurd e0 (ha' j0 (by rw[ef,ahQ];exact decide_eq_true (by omega)))
   ·split at hc
    ·rename_i hm;have CC:t.advance p={p with j:=p.j+1,more:=p.more-1}:=by unfold SetTable.advance;rw[if_pos hm]
     rw[CC];exact CJ hd n _ _ fuel hc hn (by omega) ha' hj
    ·rename_i hm;have CC:t.advance p={p with j:=(p.i*5+1+p.perturb/32) % (t.mask+1),more:=SetTable.runEnd t.mask ((p.i*5+1+p.perturb/32) % (t.mask+1))-(p.i*5+1+p.perturb/32) % (t.mask+1),i:=(p.i*5+1+p.perturb/32) % (t.mask+1),perturb:=p.perturb/32}:=by
      unfold SetTable.advance;rw[if_neg hm];rfl
     rw[CC];exact CJ hd n _ _ fuel hc hn (by omega) ha' hj
theorem Ls{n:Nat}(h:n<128):SetTable.bits (n:Int)=n:=by
 unfold SetTable.bits;have:((n:Int) % (2^64:Int))=n:=Int.emod_eq_of_lt (by omega) (by omega)
 rw[this];rfl
def oA(m:Nat):Prop:=m=7\/m=31\/m=127
theorem acp{m:Nat}(h:oA m) {n:Nat}(hn:n<128):iK m (10*(m+15)) (n % (m+1)) (SetTable.runEnd m (n % (m+1))-n % (m+1)) (n % (m+1)) n 0=Γ:=by
 have:zd m=Γ:=h.elim (λe=>e▸acu) λh=>h.elim (λe=>e▸acv) λe=>e▸acw
 exact agc.mp this n (age.mpr hn)
theorem aaF{t:aai}{n:Nat}(hd:t.dummies=#[]) (hm:oA t.mask) (hn:n<128) (hs:t.place.toList.length<=t.mask) (hu:Up t.place.toList) :
  ∃j,t.freeSlot (n:Int)=ζ (j,θ)/\j∉t.place.toList/\j<=t.mask:=by
 have hmem:∀j,t.slot j=.empty->j∉t.place.toList:=by
  intro j e hj;unfold SetTable.slot at e;dsimp only at e;rw[ada hu hj]at e;simp at e
 have ZT:∀j,j∉t.place.toList->t.slot j=.empty:=by
  intro j hj
  rcases Gw hd j with e|⟨i,e⟩
  ·exact e
  ·unfold SetTable.slot at e;dsimp only at e;split at e
   ·rename_i q;have:=eq_of_beq q;rw[<-ahf]at this;exact absurd (agk this) hj
   ·split at e<;>cases e
 have hex:∃j,j<=t.mask/\t.slot j=.empty:=by
  by_cases q:∃j,j<=t.mask/\j∉t.place.toList
  ·obtain⟨j,a,b⟩:=q;exact⟨j,a,ZT j b⟩
  ·have:=G7 (t.mask+1) t.place.toList λj hj=>Classical.byContradiction λx=>q ⟨j,by omega,x⟩
   omega
 have hb:=Ls hn;obtain⟨j,e,e1,e2⟩:=CJ (t:=t) (h:=(n:Int)) hd (10*(t.mask+15)) (t.probeStart n) 0 (10*SetTable.turns t.mask)
  (by show iK _ _ (SetTable.bits n % _) (SetTable.runEnd t.mask (SetTable.bits n % (t.mask+1))-SetTable.bits n % (t.mask+1)) (SetTable.bits n % _) (SetTable.bits n) _=Γ;rw[hb];exact acp hm hn) rfl (afU _) (λk hk=>by simp at hk) hex
 refine⟨j,?_,hmem j e1,e2⟩;unfold SetTable.freeSlot SetTable.probe;rw[e];rfl
theorem Qx(c i k:Nat):((2^c-1) <<< i).testBit k=decide (i<=k/\k<i+c):=by
 rw[Nat.testBit_shiftLeft,ahQ]
 by_cases h:i<=k
 ·simp only[ge_iff_le,h,decide_true,Bool.true_and,true_and];exact decide_eq_decide.mpr (by omega)
 ·simp[h]
theorem IS{mask:Nat}{owner:Array (Option Nat)}:∀n i q acc fuel,ny mask n i q acc=Γ->n<=fuel->(∀k,k<=mask->acc.testBit k=Γ->owner.getD k (ζ 0)≠η) ->
  (∃j,j<=mask/\owner.getD j (ζ 0)=η)->∃j,SetTable.layClean.free mask owner fuel i q=ζ j/\owner.getD j (ζ 0)=η
 |0,_,_,_,_,h,_,_,_=>by simp[ny]at h
 |n+1,i,q,acc,0,_,h,_,_=>by omega
 |n+1,i,q,acc,fuel+1,hc,hf,ha,hj=>by
  unfold SetTable.layClean.free;cases hr:(ι (SetTable.runEnd mask i+1-i)).find? (λk=>(owner.getD (i+k) (ζ 0)).isNone)with
  |some k =>
   dsimp only;have:=List.find?_some hr;exact⟨i+k,rfl,by simpa using this⟩
  |none =>
   dsimp only;have hno:=List.find?_eq_none.mp hr;have ha':∀k,k<=mask->(acc |||((2^(SetTable.runEnd mask i+1-i)-1) <<< i)).testBit k=Γ->owner.getD k (ζ 0)≠η:=by
    intro k hk hb;rw[Nat.testBit_or,Qx,ahr,decide_eq_true_eq]at hb
    rcases hb with hb|hb
    ·exact ha k hk hb
    ·intro e;have:=hno (k-i) (age.mpr (by omega))
     rw[show i+(k-i)=k by omega,e]at this
     exact this rfl
   unfold ny at hc;split at hc
   ·rename_i ef;obtain⟨j0,h0,e0⟩:=hj;exact absurd e0 (ha' j0 h0 (by rw[ef,ahQ];exact decide_eq_true (by omega)))
   ·exact IS n _ _ _ fuel hc (by omega) ha' hj
def oz(m:Nat):Prop:=m=31\/m=127
theorem acq{m:Nat}(h:oz m) {n:Nat}(hn:n<128):ny m (m+15) (n % (m+1)) n 0=Γ:=by
 have:DW m=Γ:=h.elim (λe=>e▸acr) λe=>e▸acs
 exact agc.mp this n (age.mpr hn)
theorem Kd:∀(l:List (Option Nat)) (j k:Nat),j<l.length->l.getD j (ζ 0)=η->((l.set j (ζ k)).filterMap id).Perm (k::l.filterMap id)
 |[],_,_,h,_=>absurd h (aiO _)
 |x::l,0,k,_,e=>by
  have:x=η:=by simpa using e
  subst this;simp
 |x::l,j+1,k,h,e=>by
  have ih:=Kd l j k (by simpa using h) (by simpa using e)
  rw[ajo];cases x with
  |none=>simpa using ih
  |some a =>
   simp only[ahj,id];exact(ih.cons a).trans (List.Perm.swap _ _ _)
theorem Ke:∀(l:List (Option Nat)),(∀j,j<l.length->l.getD j (ζ 0)≠η)->(l.filterMap id).length=l.length
 |[],_=>rfl
 |x::l,h=>by
  cases x with
  |none=>exact absurd rfl (h 0 (by simp))
  |some a =>
   have:=Ke l λj hj=>by simpa using h (j+1) (by simpa using hj)
   simp[this]
def tR(mask:Nat) (owner:Array (Option Nat)) (k:Nat):Prop:=owner.toList.length=mask+1/\(owner.toList.filterMap id).Perm (ι k)
theorem yc(xs:Array (Option Nat)) (i:Nat) (d:Option Nat):xs.getD i d=xs.toList.getD i d:=by
 simp[ajw,agi]
theorem XQ{mask:Nat}{owner:Array (Option Nat)}{k n:Nat}(hm:oz mask) (hn:n<128) (I:tR mask owner k) (hk:k<=mask) :
  ∃j,SetTable.layClean.free mask owner (SetTable.turns mask) (SetTable.bits n % (mask+1)) (SetTable.bits n)=ζ j/\tR mask (owner.setIfInBounds j (ζ k)) (k+1):=by
 obtain⟨h1,h2⟩:=I;have hex:∃j,j<=mask/\owner.getD j (ζ 0)=η:=by
  by_cases q:∃j,j<=mask/\owner.getD j (ζ 0)=η
  ·exact q
  ·have:=Ke owner.toList λj hj e=>q ⟨j,by omega,by rw[yc];exact e⟩
   have h3:=h2.length_eq;rw[ahR]at h3;omega
 obtain⟨j,e,e1⟩:=IS (mask+15) _ _ 0 (SetTable.turns mask) (acq hm hn) (afU _) (λk _ hb=>by simp at hb) hex
 refine⟨j,by rw[Ls hn];exact e,by simpa using h1,?_⟩
 rw[yc]at e1;have hj:j<owner.toList.length:=by
  rcases ahv j owner.toList.length with q|q
  ·exact q
  ·rw[agi,ahe q]at e1;cases e1
 rw[Array.toList_setIfInBounds];refine(Kd _ j k hj e1).trans ?_;rw[ajz];exact(h2.cons k).trans (ajA k _).symm
theorem IT{mask:Nat}(hm:oz mask):∀(hs:List Int) (owner:Array (Option Nat)) (k:Nat),(∀h∈hs,∃n:Nat,h=n/\n<128)->tR mask owner k->k+hs.length<=mask ->
  ∃ow,hs.foldl (λacc h=>(do
   let(owner,k) <-acc
   let j <-SetTable.layClean.free mask owner (SetTable.turns mask) (SetTable.bits h % (mask+1)) (SetTable.bits h)
   pure (owner.setIfInBounds j (ζ k),k+1):Option (Array (Option Nat)×Nat))) (ζ (owner,k))=ζ (ow,k+hs.length)/\tR mask ow (k+hs.length)
 |[],owner,k,_,I,_=>⟨owner,rfl,I⟩
 |h::hs,owner,k,hh,I,hl=>by
  obtain⟨n,e,hn⟩:=hh h (.head _);subst e;simp only[af1]at hl;obtain⟨j,e,I'⟩:=XQ hm hn I (by omega)
  obtain⟨ow,e',E8⟩:=IT hm hs _ (k+1) (λh x=>hh h (.tail _ x)) I' (by omega)
  refine⟨ow,?_,by rw[af1,show k+(hs.length+1)=k+1+hs.length by omega];exact E8⟩
  rw[ahZ,af1,show k+(hs.length+1)=k+1+hs.length by omega,<-e']
  congr 1
  show(do let j <-SetTable.layClean.free mask owner (SetTable.turns mask) (SetTable.bits n % (mask+1)) (SetTable.bits n);pure (owner.setIfInBounds j (ζ k),k+1):Option (Array (Option Nat)×Nat))=_
  rw[e];rfl
theorem XS{mask:Nat}(hm:oz mask) (hs:Array Int) (hh:∀h∈hs.toList,∃n:Nat,h=n/\n<128) (hl:hs.toList.length<=mask) :
  ∃ow,SetTable.layClean mask hs=ζ ow/\tR mask ow hs.toList.length:=by
 obtain⟨ow,e,I⟩:=IT hm hs.toList (Array.replicate (mask+1) η) 0 hh ⟨by simp,by simp⟩ (by omega)
 rw[agr]at e I;refine⟨ow,?_,I⟩;unfold SetTable.layClean;rw[<-Array.foldl_toList];exact congrArg (Option.map (λx:Array (Option Nat)×Nat=>x.1)) e
theorem GS(l:List (Option Nat)):(ι l.length).filterMap (λj=>l.getD j η)=l.filterMap id:=by
 have:l=(ι l.length).map (λj=>l.getD j η):=by
  apply aic
  ·simp
  ·intro i h1 h2;simp[agi,af2 h1]
 conv=>rhs;rw[this]
 rw[ajd];rfl
theorem X0{mask:Nat}(hm:oz mask) (f mv:Nat) (led plain:Bool) (hs:Array Int) (hh:∀h∈hs.toList,∃n:Nat,h=n/\n<128) (hl:hs.toList.length<=mask) :
  ∃place order,SetTable.laid mask f mv led plain hs=ζ ({mask:=mask,place:=place,dummies:=#[],finger:=f,led:=led,moves:=mv,plain:=plain},order)/\Up place.toList/\(∀j∈place.toList,j<=mask)/\place.size=hs.size/\order.toList.Perm (ι hs.size):=by
 obtain⟨ow,e,h1,h2⟩:=XS hm hs hh hl;refine⟨(((ι (mask+1)).filterMap λj=>(ow.getD j η).map (j,·)).map (·.1)).toArray,(((ι (mask+1)).filterMap λj=>(ow.getD j η).map (j,·)).map (·.2)).toArray,?_,?_,?_,?_,?_⟩
 ·unfold SetTable.laid;rw[e];rfl
 ·show Up ((((ι (mask+1)).filterMap λj=>(ow.getD j η).map (j,·)).map (·.1)).toArray).toList
  show List.Pairwise _ _;rw[ajB];refine List.Pairwise.filterMap _ (λa a' hlt b hb b' hb'=>?_) List.pairwise_lt_range
  cases ha:ow.getD a η<;>rw[ha]at hb<;>simp at hb
  cases ha':ow.getD a' η<;>rw[ha']at hb'<;>simp at hb'
  rw[<-hb,<-hb'];exact hlt
 ·intro j hj;simp only[af4,ahD,age]at hj;obtain⟨⟨a,b⟩,⟨c,hc,hq⟩,rfl⟩:=hj;cases ha:ow.getD c η<;>rw[ha]at hq<;>simp at hq
  obtain⟨rfl,_⟩:=hq;omega
 ·have:((ι (mask+1)).filterMap λj=>(ow.getD j η).map (j,·)).length=(ow.toList.filterMap id).length:=by
   rw[<-GS,h1,<-af7 (f:=Prod.snd),ajC]
   congr 1
   congr 1
   funext j
   rw[yc];cases ow.toList.getD j η<;>rfl
  rw[af0,af7,this,h2.length_eq,ahR];simp
 ·show(((ι (mask+1)).filterMap λj=>(ow.getD j η).map (j,·)).map (·.2)).Perm _
  have:(((ι (mask+1)).filterMap λj=>(ow.getD j η).map (j,·)).map (·.2))=ow.toList.filterMap id:=by
   rw[<-GS,h1,ajC]
   congr 1
   funext j
   rw[yc];cases ow.toList.getD j η<;>rfl
  rw[this]
  simpa using h2
structure nE (t:aai) (n:Nat):Prop where
 size:t.place.size=n
 up:Up t.place.toList
 le:∀j∈t.place.toList,j<=t.mask
 dm:t.dummies=#[]
 mask:(t.mask=7/\n<=4)\/(t.mask=31/\n<=18)\/(t.mask=127/\n<=76)
 plain:t.plain=Γ
theorem nE.fits{t:aai}{n:Nat}(h:nE t n):t.fits n=Γ:=by
 have:=h.mask;simp only[SetTable.fits,SetTable.fill,h.size,h.dm,af5,beq_self_eq_true,true_and,decide_eq_true_eq];simp only[af0,agd];omega
theorem Oc(led:Bool):nE (.fresh 0 0 led) 0:=⟨rfl,.nil,λj h=>by simp[SetTable.fresh]at h,rfl,.inl ⟨rfl,by omega⟩,rfl⟩
def HS(es:List (Int×Δ)):Prop:=∀e∈es,∃n:Nat,e.1=n/\n<128
theorem XR{t:aai}{es:Array (Int×Δ)}{x:Δ}{m:Nat}(I:nE t es.size) (hm:m<128) (hn:es.size<64) :
  ∃es1 t1,layNew t es (m:Int) x=(es1,t1,θ,θ)/\es1.size=es.size+1/\t1.led=t.led/\t1.plain=Γ/\t1.place.size=es1.size/\Up t1.place.toList/\(∀j∈t1.place.toList,j<=t1.mask)/\t1.dummies=#[]/\t1.mask=t.mask/\t1.fits es1.size=Γ:=by
 have hk:=I.mask;have hok:oA t.mask:=by unfold oA;omega
 have hsz:=I.size;obtain⟨j,e,h1,h2⟩:=aaF (t:=t) I.dm hok hm (by simp[hsz];omega) I.up
 have hnd:(if SetTable.has t.dummies j then SetTable.eraseAt t.dummies (SetTable.below t.dummies j)else t.dummies)=#[]:=by
  rw[I.dm];rfl
 have hs1:(SetTable.insertAt es (SetTable.below t.place j) ((m:Int),x)).size=es.size+1:=by
  rw[<-agq,(aiQ ..).length_eq];simp
 have hs2:(SetTable.insertAt t.place (SetTable.below t.place j) j).size=es.size+1:=by
  rw[<-agq,(aiQ ..).length_eq];simp[hsz]
 have hfit:(t.put j).1.fits (es.size+1)=Γ:=by
  simp only[SetTable.put,SetTable.fits,SetTable.fill,hnd,hs2,af5,beq_self_eq_true,true_and,decide_eq_true_eq];simp only[af0,agd];omega
 refine⟨SetTable.insertAt es (SetTable.below t.place j) ((m:Int),x),(t.put j).1,?_,hs1,rfl,I.plain,?_,?_,?_,hnd,rfl,?_⟩
 ·unfold layNew;rw[e];dsimp only;have hp:(t.put j).2=SetTable.below t.place j:=rfl;rw[hp,hs1];unfold SetTable.orStandIn;rw[hfit];rfl
 ·rw[hs1];exact hs2
 ·exact NN I.up h1
 ·intro k hk';have:k∈(t.place.push j).toList:=(aiQ t.place (SetTable.below t.place j) j).mem_iff.mp hk';rw[aiR,agm,agn]at this
  rcases this with q|rfl
  ·exact I.le k q
  ·exact h2
 ·rw[hs1];exact hfit
theorem QX{t:aai}{es:Array (Int×Δ)}(hp:t.plain=Γ) (hh:HS es.toList) (hm:(t.mask=7/\es.size=5)\/(t.mask=31/\es.size=19)) :
  ∃vf t2,relayAll t es (SetTable.grown es.size)=(vf,t2,θ)/\vf.size=es.size/\nE t2 vf.size/\t2.led=t.led:=by
 have hw:∃m,SetTable.sizeAbove (SetTable.grown es.size)-1=m/\((m=31/\es.size=5)\/(m=127/\es.size=19)):=by
  rcases hm with⟨_,e⟩|⟨_,e⟩
  ·rw[e];exact⟨31,by decide,.inl ⟨rfl,rfl⟩⟩
  ·rw[e];exact⟨127,by decide,.inr ⟨rfl,rfl⟩⟩
 obtain⟨m,ew,hq⟩:=hw;have hs:(es.map (·.1)).toList=es.toList.map (·.1):=by simp
 obtain⟨place,order,e,u1,u2,u3,u4⟩:=X0 (mask:=m) (by unfold oz;omega) t.finger (t.movedTo m) t.led t.plain (es.map (·.1)) (λh hx=>by
  rw[hs,af4]at hx;obtain⟨y,hy,rfl⟩:=hx;exact hh y hy) (by rw[hs,af7,agq];omega)
 rw[Array.size_map]at u3 u4;have hes:(order.filterMap (es[·]?)).size=es.size:=by
  rw[<-agq,Array.toList_filterMap];exact((u4.filterMap _).trans (by rw[filterMap_getElem?_range])).length_eq
 have hfit:SetTable.fits {mask:=m,place:=place,dummies:=#[],finger:=t.finger,led:=t.led,moves:=t.movedTo m,plain:=t.plain} es.size=Γ:=by
  simp only[SetTable.fits,SetTable.fill,u3,af5,beq_self_eq_true,true_and,decide_eq_true_eq];simp only[af0,agd];omega
 refine⟨order.filterMap (es[·]?),{mask:=m,place:=place,dummies:=#[],finger:=t.finger,led:=t.led,moves:=t.movedTo m,plain:=t.plain},?_,hes,?_,?_⟩
 rotate_left
 ·rw[hes];exact⟨u3,u1,u2,rfl,.inr (by show(m=31/\_)\/(m=127/\_);omega),hp⟩
 ·rfl
 ·unfold relayAll SetTable.relaid;rw[ew,e];dsimp only;rw[hes,hfit];have hc:coversAll order es.size=Γ:=by unfold coversAll;exact List.isPerm_iff.mpr u4
  rw[hc];rfl
theorem aaC{t t1:aai}{n:Nat}(I:nE t n) (hm:t1.mask=t.mask) (hs:t1.place.size=n+1) (hd:t1.dummies=#[]) (hn:n<64) :
  (t1.tooFull=Γ->(t1.mask=7/\n+1=5)\/(t1.mask=31/\n+1=19))/\(t1.tooFull=θ->((t1.mask=7/\n+1<=4)\/(t1.mask=31/\n+1<=18)\/(t1.mask=127/\n+1<=76))):=by
 have hk:=I.mask;have hz:(#[]:Array Nat).size=0:=rfl;simp only[SetTable.tooFull,SetTable.fill,hs,hd,hm,hz,decide_eq_true_eq,decide_eq_false_iff_not];omega
theorem JG{n:Nat}(h:n<128):hashInt (n:Int)=n:=by
 have:((ι 128).all λn=>hashInt (n:Int)==(n:Int))=Γ:=by decide +kernel
 exact eq_of_beq (agc.mp this n (age.mpr h))
def gP(w:υ):Bool:=w.params.followText "set-order"
def gy(ns:List Nat) (x:Nat):List Nat:=if x∈ns then ns else ns++[x]
def gW(l:List (Int×Δ)) (ns:List Nat):Prop:=(l.map (·.1)).Perm (ns.map λn:Nat=>(n:Int))/\∀e∈l,∃(n:Nat) (tk:Tok),e=((n:Int),.int n tk)/\n<128
def iz(w:υ) (h:ψ) (a:Ψ) (ns:List Nat):Prop:=∃o es ep t,h.get? a=ζ o/\o.ExactSet/\o.data=.set es ep t/\nE t es.size/\t.led = !gP w/\gW es.toList ns
theorem gW.hs{l:List (Int×Δ)}{ns:List Nat}(h:gW l ns):HS l:=λe he=>by
 obtain⟨n,tk,rfl,hn⟩:=h.2 e he;exact⟨n,rfl,hn⟩
theorem gW.len{l:List (Int×Δ)}{ns:List Nat}(h:gW l ns):l.length=ns.length:=by
 have:=h.1.length_eq;simpa using this
theorem gW.mem{l:List (Int×Δ)}{ns:List Nat}(h:gW l ns) (n:Nat):n∈ns↔∃e∈l,e.1=(n:Int):=by
 constructor
 ·intro hn;have:(n:Int)∈l.map (·.1):=h.1.mem_iff.mpr (af4.mpr ⟨n,hn,rfl⟩);obtain⟨e,he,q⟩:=af4.mp this;exact⟨e,he,q⟩
 ·rintro ⟨e,he,q⟩
  have:(n:Int)∈ns.map (λn:Nat=>(n:Int)):=h.1.mem_iff.mp (af4.mpr ⟨e,he,q⟩)
  obtain⟨m,hm,r⟩:=af4.mp this;have:m=n:=by omega
  exact this▸hm
theorem gW.perm{l l':List (Int×Δ)}{ns:List Nat}(h:gW l ns) (p:l'.Perm l):gW l' ns:=⟨(p.map _).trans h.1,λe he=>h.2 e (p.mem_iff.mp he)⟩
theorem gW.push{l:List (Int×Δ)}{ns:List Nat}(h:gW l ns) {m:Nat}(hm:m<128) (tk:Tok):gW (l++[((m:Int),.int m tk)]) (ns++[m]):=by
 refine⟨?_,λe he=>?_⟩
 ·rw[aid,aid];exact h.1.append_right _
 ·rcases agm.mp he with he|he
  ·exact h.2 e he
  ·rw[agn]at he;exact⟨m,tk,he,hm⟩
section
variable {prog:τ}{w:υ}{A:χ}{E:Δ->Ω->Prop}{s:Ω}
theorem gW.els{l:List (Int×Δ)}{ns:List Nat}(h:gW l ns):ElemsOf (intKind prog w) l:=λe he=>by
 obtain⟨n,tk,rfl,hn⟩:=h.2 e he;exact⟨⟨n,by simp[intKind,Value.isInt],(JG hn).symm⟩,rfl⟩
theorem GV{h:ψ}{a:Ψ}{o:Obj}{es es':Array (Int×Δ)}{ep:Nat}{t t':aai}(ho:h.get? a=ζ o) (hd:o.data=.set es ep t) :
  (h.update a (Obj.putSet es' t')).get? a=ζ {o with data:=.set es' (ep+1) t'}:=by
 have:=ahI (Obj.putSet es' t') ho (by rw[putSet_of es' t' hd];rfl)
 rwa[putSet_of es' t' hd]at this
theorem PU{a:Ψ}{ns:List Nat}{m:Nat}{tk:Tok}{Q:Bool->Ω->Prop}(hm:m<128) (hS:iz w s.heap a ns) (hn:ns.length<64)
  (h:∀b h',aan a s.heap h'->iz w h' a (gy ns m)->Q b {s with heap:=h'}):wpAny (model prog w) A (setAddHashed a (.int m tk) (hashInt m)) Q E s:=by
 obtain⟨o,es,ep,t,ho,hex,hd,hI,hl,hs⟩:=hS;have hsz:es.size=ns.length:=by rw[<-agq];exact hs.len
 have hel:ElemsOf (intKind prog w) es.toList:=hs.els;have hkey:(intKind prog w).is (m:Int) (.int m tk)=Γ:=by simp[intKind,Value.isInt]
 unfold setAddHashed setAddHashedIn;refine agR (afS (aie ho hd hI.fits ?_));dsimp only;rw[byScan_of (knd:=intKind prog w) rfl (by unfold scanBound;omega) hel]
 simp only[↓reduceIte];unfold setAddByScan;refine afS (afS (ah2 (afS (wpAny_setScan_of (knd:=intKind prog w) hkey ho hd hI.fits hel ?_))));have hfind:∀e∈es.toList,(intKind prog w).is (m:Int) e.2=Γ->e.1=(m:Int):=λe he q=>by
  obtain⟨n,tk',rfl,_⟩:=hs.2 e he;obtain⟨t',q⟩:=Value.isInt_shape (show Value.isInt (m:Int) (.int (n:Int) tk')=Γ from q)
  injection q
 cases hr:es.toList.findIdx? (λe=>(intKind prog w).is (m:Int) e.2)with
 |some j =>
  dsimp only;obtain⟨hj,Zx,_⟩:=aju.mp hr;have hmem:m∈ns:=(hs.mem m).mpr ⟨_,agM hj,hfind _ (agM hj) Zx⟩;refine afT (afT ?_);exact h θ s.heap (Heap.SameBut.refl a s.heap) (by unfold gy;rw[if_pos hmem];exact⟨o,es,ep,t,ho,hex,hd,hI,hl,hs⟩)
 |none =>
  dsimp only;have hmem:m∉ns:=λhq=>by
   obtain⟨e,he,q⟩:=(hs.mem m).mp hq;have:=List.findIdx?_eq_none_iff.mp hr e he;obtain⟨n,tk',rfl,_⟩:=hs.2 e he;have e:n=m:=by dsimp only at q;omega
   subst e;simp[intKind,Value.isInt]at this
  have hst:gy ns m=ns++[m]:=by unfold gy;rw[if_neg hmem]
  rw[hst]at h;rw[JG hm];have x8:=layNew_perm t es (m:Int) (.int m tk);obtain⟨es1,t1,e1,q1,q2,q3,q4,q5,q6,q7,q8,q9⟩:=XR (x:=.int m tk) hI hm (by omega)
  rw[e1]at x8 ⊢;dsimp only at x8 ⊢;rw[aiR]at x8;have hs1:gW es1.toList (ns++[m]):=(hs.push hm tk).perm x8;refine afS (afT ?_);rw[q3];simp only[↓reduceIte];refine afS ?_;rw[hashByValue_scannable 8 (x:=.int m tk) rfl];refine afT ?_;dsimp only[plainKind];simp only[↓reduceIte];refine afS (wpAny_storeSet_of ho hd ?_ (fits_of_scanBound (by unfold scanBound;omega)))
  have Cv:=GV (es':=es1) (t':=t1) ho hd;have m9:=ahd s.heap a (Obj.putSet es1 t1);have hcs:=aaC hI q8 (q4.trans q1) q7 (by omega)
  cases hf:t1.tooFull with
  |false =>
   simp only[Bool.not_false,Bool.and_false,ahc,↓reduceIte];refine afT (afT (h Γ _ m9 ⟨_,es1,ep+1,t1,Cv,hex,rfl,⟨q4,q5,q6,q7,?_,q3⟩,q2.trans hl,hs1⟩));rw[q1];exact hcs.2 hf
  |true =>
   simp only[Bool.not_false,Bool.and_self,↓reduceIte];have hp2:=relayAll_perm t1 es1 (SetTable.grown es1.size);obtain⟨vf,t2,e2,r1,r2,r3⟩:=QX q3 hs1.hs (by rw[q1];exact hcs.1 hf)
   rw[e2]at hp2 ⊢;dsimp only at hp2 ⊢;refine afS (afT ?_);refine afS (wpAny_storeSet_of Cv rfl ?_ (fits_of_scanBound (by unfold scanBound;omega)))
   exact afT (afT (h Γ _ (m9.trans (ahd _ a _)) ⟨_,vf,ep+1+1,t2,GV Cv rfl,hex,rfl,r2,r3.trans (q2.trans hl),hs1.perm hp2⟩))
end
def dN(xs:List Nat):List Nat:=xs.foldl gy []
theorem aaK{xs:List Nat}{i:Nat}(h:i<xs.length):dN (xs.take (i+1))=gy (dN (xs.take i)) xs[i]:=by
 unfold dN;rw[ajD h,ajE];rfl
theorem J9:∀(xs ns:List Nat),ns.length<=(xs.foldl gy ns).length
 |[],ns=>afU _
 |x::xs,ns=>by
  have:=J9 xs (gy ns x);have h:ns.length<=(gy ns x).length:=by unfold gy;split<;>simp
  rw[ahZ];omega
theorem aaL(xs:List Nat) (i:Nat):(dN (xs.take i)).length<=(dN xs).length:=by
 have:dN xs=(xs.drop i).foldl gy (dN (xs.take i)):=by
  unfold dN;rw[<-ajE,aiS]
 rw[this];exact J9 _ _
theorem iz.at{w:υ}{h h':ψ}{a:Ψ}{ns:List Nat}(x:iz w h a ns) (k:∀o,h.get? a=ζ o->h'.get? a=ζ o):iz w h' a ns :=
 let⟨o,es,ep,t,ho,r⟩:=x;⟨o,es,ep,t,k o ho,r⟩
section
variable {prog:τ}{w:υ}{A:χ}{s:Ω}{E:Δ->Ω->Prop}
theorem GB{R:Result->Ω->Prop}{I:Ψ}{fp wr:List Ψ}{G:Array aa8->Array aa8->Prop}{P:Nat->Δ->Prop}{St:Nat->Ω->Prop}{xs:List Nat}
  (W:WalksS prog w A.in1 I fp wr G xs.length P St) (S:Ψ) (hSf:S∉fp) (hval:∀(i:Nat) v,(hi:i<xs.length)->P i v->∃t,v=Value.int (xs[i]:Nat) t) (hx:∀x∈xs,x<128) (h64:(dN xs).length<64) :
  ∀(k i:Nat) (s:Ω),xs.length-i=k->i<=xs.length->St i s->iz w s.heap S (dN (xs.take i)) ->
   (∀s',Moved (S::wr) G s s'->iz w s'.heap S (dN xs)->R (.ok (.ret .none)) s') ->
   codeAny (model prog w) A (.builtin "set.update.loop" ⟨[.ref S,.ref I],[]⟩) R s:=by
 have JH:S∉wr:=λh=>hSf (W.sub _ h)
 have hup:∀b∈wr,b∈S::wr:=λb hb=>.tail _ hb
 intro k
 induction k with
 |zero =>
  intro i s hk hi st hS hR;cases(show i=xs.length by omega)
  refine aht F.entry_set_update_loop ?_;rw[aiT aiU _];show wpAny _ A.in1 (pyNext (.ref I) >>= _) _ _ s;refine afS (W.done s _ _ st λs' hm=>?_)
  rw[agZ]at hS;exact afT (hR s' (hm.mono hup) (hS.at λo e=>hm.heap S _ JH e))
 |succ k ih =>
  intro i s hk hi st hS hR;have hlt:i<xs.length:=by omega
  refine aht F.entry_set_update_loop ?_;rw[aiT aiU _];show wpAny _ A.in1 (pyNext (.ref I) >>= _) _ _ s;refine afS (W.item i s _ _ hlt st λv s' hP st' hm=>?_)
  obtain⟨t,rfl⟩:=hval i v hlt hP;have hS':iz w s'.heap S (dN (xs.take i)):=hS.at λo e=>hm.heap S _ JH e
  show wpAny _ A.in1 (holding [Value.int (xs[i]:Nat) t] (setAdd S (.int (xs[i]:Nat) t)) >>= _) _ _ s';refine afS (agR ?_);unfold setAdd;refine agR (afS ((intKind prog w).pyHash (k:=(xs[i]:Nat)) (by simp[intKind,Value.isInt]) ?_))
  have hl:(dN (xs.take i)).length<64:=Nat.lt_of_le_of_lt (aaL xs i) h64;refine PU (s:={s' with toks:=s'.toks+1}) (hx _ (agM hlt)) hS' hl λb h' m9 r9=>?_
  rw[<-aaK hlt]at r9;refine afT ⟨plainId_quiet aiU _,ih (i+1) _ (by omega) hlt (W.frame _ s' _ _ st' (ahK _) λb hb o e=>?_) r9 λs'' ZK aaf=>?_⟩
  ·rw[m9.2 b (λq:b=S=>hSf (q▸hb))];exact e
  ·refine hR s'' (Moved.trans W.gtrans ((hm.mono hup).then_heap (ahK _) λb o hb e=>?_) ZK) aaf
   rw[m9.2 b (λq:b=S=>hb (q▸.head _))];exact e
def fc(w:υ):Obj:={cls:=.type "set",dict:=η,data:=.set #[] 0 (.fresh 0 0 (!gP w))}
theorem Kn(w:υ) {h:ψ}{a:Ψ}(e:h.get? a=ζ (fc w)):iz w h a [] :=
 ⟨_,#[],0,_,e,⟨rfl,rfl,rfl⟩,rfl,Oc _,rfl,.refl _,λe he=>by cases he⟩
theorem GA(a:Δ) {Q₁:Δ->Ω->Prop}(h:Q₁ (.ref s.heap.objs.size) {s with heap:=s.heap.push (fc w)}) :
  codeAny (model prog w) A (.call (.builtin "set.__new__") ⟨[.type "set",a],[]⟩) (wants Q₁ E) s:=by
 refine aiV (show wpAny _ A.in1 (do checkBuiltinCall "set.__new__" ⟨[.type "set",a],[]⟩;again (.builtin "set.__new__" ⟨[.type "set",a],[]⟩)) _ _ s from ?_)
 refine afS (ah3 (PySem.F.newCall_set_1 a) (afT ⟨plainId_quiet ajF _,aht PySem.F.entry_set_new ?_⟩));rw[aiT ajF _];unfold Builtin.«set.__new__» Builtin.Frozenset.newClass;have hsub:=sub_set_self;obtain⟨hp,g,d,tk,os⟩:=s;dsimp only;wp_walk;refine ahS (afT ?_);dsimp only;simp only[newObj];exact afS (wpAny_alloc (afT (afT h)))
set_option maxHeartbeats 3200000 in
theorem PN{l:Ψ}{items:Array Δ}{xs:List Nat}{Q:Δ->Ω->Prop}(hh:A.handled=η) (hl:s.heap.IsList l items) (hi:aaG items.toList (xs.map λn:Nat=>(n:Int))) (hx:∀x∈xs,x<128) (h64:(dN xs).length<64)
  (h:∀(h':ψ) (tk:Nat),iz w h' s.heap.objs.size (dN xs)->(∀b o,b<s.heap.objs.size->s.heap.get? b=ζ o->h'.get? b=ζ o)->Q (.ref s.heap.objs.size) {s with heap:=h',toks:=tk}) :
  wpAny (model prog w) A (call (.type "set") [.ref l]) Q E s:=by
 obtain⟨c,tl,ZJ⟩:=agA.mro;have hmade:=agA.made;have hsub:=agA.sub;refine ahk (aiV (show wpAny _ _ (callAny (.type "set") _) _ _ _ from ?_))
 refine afT ⟨aiM _ (by decide +kernel),aht ajG ?_⟩
 rw[Around.under_plain (ajH "set" [.ref l] []) rfl];have h1:=agA.notType;have h2:=agA.canCreate;have hct:=ajI (.ref l)
 repeat any_goals (first|assumption|wp_step)
 refine agS (GA (.ref l) (E:=E) (Q₁:=λobj s₁=>obj=.ref s.heap.objs.size/\s₁={s with heap:=s.heap.push (fc w)}) ⟨rfl,rfl⟩) λr s₁ hr=>?_
 cases r with
 |error e=>exact hr
 |ok fl =>
  cases fl with
  |ret obj =>
   obtain⟨rfl,rfl⟩:=hr;have hS:(s.heap.push (fc w)).get? s.heap.objs.size=ζ (fc w):=aga _ rfl;have hT:Shared.TypeIs {s with heap:=s.heap.push (fc w)} (.ref s.heap.objs.size) "set":=⟨_,hS,rfl⟩
   have hli:=agA.init.lookup;have hbi:=agA.init.bind (.ref s.heap.objs.size)
   repeat any_goals (first|assumption|wp_step)
   refine agS (ah9 (R:=wants (λr s₂=>r=.none/\∃h' tk,s₂={s with heap:=h',toks:=tk}/\iz w h' s.heap.objs.size (dN xs) /\
     (∀b o,b<s.heap.objs.size->s.heap.get? b=ζ o->h'.get? b=ζ o)) E) agA.init.plain ajJ (check_set_init_1 hT ?_)) λr₂ s₂ pe=>?_
   ·obtain⟨ol,ji,hcl,nl,hdl⟩:=hl;obtain⟨Vo,AQ,UJ,AL⟩:=ol;simp only at hcl hdl;subst hcl;subst hdl;have u9:(s.heap.push (fc w)).get? l=ζ {cls:=.type "list",dict:=AQ,data:=.seq items nl,slots:=AL}:=afY _ ji;have Zt:=PySem.F.sub_list_set;have Zu:=PySem.F.sub_list_frozenset;have hne:(Value.type "list"==Value.type "dict")=θ:=by decide
    have hl1:(s.heap.push (fc w)).IsList l items:=⟨_,u9,rfl,nl,rfl⟩;unfold fc at hS hT u9 ⊢;unfold Builtin.«set.__init__» noKeywords Builtin.Frozenset.updateFrom
    generalize CD:pyIter=PI
    wp_walk
    subst CD;refine ahU hl1 (afS (wpAny_runValue ?_));have hlS:l<s.heap.objs.size:=afV ji;have hlen:items.size=xs.length:=by have:=hi.length;simpa using this
    have Cw:l≠(s.heap.push (fc w)).objs.size:=by rw[agF];exact afX (ahq hlS)
    have hSf:s.heap.objs.size∉[(s.heap.push (fc w)).objs.size,l]:=by
     rw[agF];simp only[afW,agp,or_false,not_or];exact⟨afX (ag4 _),agO hlS⟩
    have W:=(Walks.list (prog:=prog) (w:=w) (A:=A.in1.in1.in1) (by simp[hh]) (s.heap.push (fc w)).objs.size l Cw items).toS
    rw[hlen]at W;refine GB (xs:=xs) W s.heap.objs.size hSf (λi v hi' hv=>?_) hx h64 xs.length 0 _ (by omega) (agK _) ⟨⟨_,aga _ rfl,rfl,rfl⟩,hl1.push _⟩ (Kn w (afY _ hS)) λs' hm hS'=>?_
    ·obtain⟨t,e⟩:=IntsAre.int_at hi i v (by rw[ahf];exact hv)
     exact⟨t,by rw[e];simp[agi,af2 hi']⟩
    ·obtain⟨h',g',d',tk',os'⟩:=s';cases(show g'=s.gens from hm.gens)
     cases(show d'=s.drawn from hm.drawn)
     cases(show os'=s.os from hm.os)
     refine afT (afT ⟨rfl,h',tk',rfl,hS',λb o hb e=>?_⟩)
     exact hm.heap b o (by rw[agF];simp only[afW,agp,or_false,not_or];exact⟨afX hb,afX (ahq hb)⟩) (afY _ (afY _ e))
   ·cases r₂ with
    |error e=>exact pe
    |ok CO =>
     cases CO with
     |ret r =>
      obtain⟨rfl,h',tk,rfl,hS',hk'⟩:=pe
      repeat any_goals (first|assumption|wp_step)
      exact h _ _ hS' hk'
     |_=>exact pe.elim
  |_=>exact hr.elim
end
theorem qv:Slot "set_iterator" "__next__" "set_iterator.__next__" :=
 .of (owner:="set_iterator") (n:="__next__") (by rw[typeLookup_type,ajK];kernel_rfl) (by decide +kernel) (by decide +kernel)
  (by decide +kernel) (by first|exact .inl (by decide +kernel)|exact .inr (by decide +kernel)) (by rw[aif];kernel_rfl)
theorem Gk:Slot "set_iterator" "__iter__" "set_iterator.__iter__" :=
 .of (owner:="set_iterator") (n:="__iter__") (by rw[typeLookup_type,ajK];kernel_rfl) (by decide +kernel) (by decide +kernel)
  (by decide +kernel) (by first|exact .inl (by decide +kernel)|exact .inr (by decide +kernel)) (by rw[aif];kernel_rfl)
theorem Gn:entryFor table "set_iterator.__next__"=ζ Builtin.«set_iterator.__next__»:=entryFor_of_tree (by kernel_rfl)
theorem ON:entryFor table "set_iterator.__iter__"=ζ Builtin.«dict_keyiterator.__iter__» :=
 entryFor_alias (id':="dict_keyiterator.__iter__") (by kernel_rfl) rfl (by decide +kernel) (by kernel_rfl)
theorem OM:entryFor table "set.__iter__"=ζ Builtin.«frozenset.__iter__» :=
 entryFor_alias (id':="frozenset.__iter__") (by kernel_rfl) rfl (by decide +kernel) (by kernel_rfl)
theorem Gm:Manifest.owners.lookup (String.ofList ['r','o','t','a','r','e','t','i','_','t','e','s'].reverse)=ζ Manifest.sig_set_iterator:=by kernel_rfl
theorem Gp(a:Δ):argsOk "set_iterator.__next__" ⟨[a],[]⟩:=by
 unfold argsOk;rw[signature?_of (id:="set_iterator.__next__") (n:=['_','_','t','x','e','n','_','_']) (o:=['r','o','t','a','r','e','t','i','_','t','e','s']) (by kernel_rfl) Gm];kernel_rfl
theorem OO(a:Δ):argsOk "set_iterator.__iter__" ⟨[a],[]⟩:=by
 unfold argsOk;rw[signature?_of (id:="set_iterator.__iter__") (n:=['_','_','r','e','t','i','_','_']) (o:=['r','o','t','a','r','e','t','i','_','t','e','s']) (by kernel_rfl) Gm];kernel_rfl
theorem aa2{α:Type}{l:List α}{i:Nat}(h:i<l.length):([l[i]]++l.eraseIdx i).Perm l:=by
 rw[List.eraseIdx_eq_take_drop_succ];have e:l=l.take i++l[i]::l.drop (i+1):=by rw[<-aiK h,aiS]
 conv=>rhs;rw[e]
 exact(ajL (a:=l[i]) (l₁:=l.take i) (l₂:=l.drop (i+1))).symm
theorem G8{α:Type}(next:Nat->Nat):∀(fuel k:Nat) (left:List α) (out:Array α),fuel=left.length->(pickOrder.go next fuel k left out).toList.Perm (out.toList++left)
 |0,k,left,out,h=>by
  have:left=[]:=ajv.mp h.symm;subst this;unfold pickOrder.go;simp
 |fuel+1,k,left,out,h=>by
  unfold pickOrder.go;have hlt:next k % left.length<left.length:=aiW _ (by omega)
  rw[af2 hlt];dsimp only;refine(G8 next fuel _ _ _ (by rw[List.length_eraseIdx_of_lt hlt];omega)).trans ?_
  rw[aiR,agx];exact(aa2 hlt).append_left _
def jf(w:υ) (a:Ψ) (ep:Nat) (es:Array (Int×Δ)):Array (Int×Δ):=if gP w then pickOrder (w.params.setOrder a ep) es else es
theorem xx(w:υ) (a:Ψ) (ep:Nat) (es:Array (Int×Δ)):(jf w a ep es).toList.Perm es.toList:=by
 unfold jf;split
 ·unfold pickOrder
  simpa using G8 (w.params.setOrder a ep) es.size 0 es.toList #[] (by simp)
 ·exact .rfl
def iP(b:Bool) (place:Array Nat):Nat->Nat
 |0=>0
 |i+1=>if b then 0 else place.toList.getD i 0+1
def kE(h:ψ) (it a:Ψ) (sl i n ep:Nat):Prop:=∃o,h.get? it=ζ o/\o.cls=.type "set_iterator"/\o.data=.fields #[.int sl 0,.int i 0,.ref a,.int n 0,.int ep 0]
theorem kE.typeIs{s:Ω}{it a:Ψ}{sl i n ep:Nat}(h:kE s.heap it a sl i n ep):s.TypeIs (.ref it) "set_iterator":=let⟨o,ho,hc,_⟩:=h;⟨o,ho,hc⟩
theorem kE.at{h h':ψ}{it a:Ψ}{sl i n ep:Nat}(x:kE h it a sl i n ep) (k:∀o,h.get? it=ζ o->h'.get? it=ζ o):kE h' it a sl i n ep:=let⟨o,ho,r⟩:=x;⟨o,k o ho,r⟩
def iM(w:υ) (h:ψ) (a:Ψ) (es:Array (Int×Δ)) (ep:Nat) (t:aai):Prop:=∃o,h.get? a=ζ o/\o.ExactSet/\o.data=.set es ep t/\nE t es.size/\t.led = !gP w
theorem iM.at{w:υ}{h h':ψ}{a:Ψ}{es:Array (Int×Δ)}{ep:Nat}{t:aai}(x:iM w h a es ep t) (k:∀o,h.get? a=ζ o->h'.get? a=ζ o):iM w h' a es ep t:=let⟨o,ho,r⟩:=x;⟨o,k o ho,r⟩
section
variable {prog:τ}{w:υ}{A:χ}{E:Δ->Ω->Prop}{s:Ω}
theorem Gz{a:Ψ}{es:Array (Int×Δ)}{ep i:Nat}{t:aai}{Q:Option (Δ×Nat)->Ω->Prop}(hS:iM w s.heap a es ep t) (hi:i<=es.size)
  (h:Q ((jf w a ep es)[i]?.map λe=>(e.2,iP (gP w) t.place (i+1))) s):wpAny (model prog w) A (setNext a (iP (gP w) t.place i) i ep) Q E s:=by
 obtain⟨o,ho,hex,hd,hI,hl⟩:=hS;unfold setNext;refine afS (aie ho hd hI.fits ?_);dsimp only;refine afS ?_;unfold setsByText;refine afS (ahS (afT ?_));show wpAny _ _ (if gP w=Γ then _ else _) _ _ _
 unfold jf at h;cases hb:gP w with
 |true =>
  rw[hb]at h;simp only[if_true,bne_self_eq_false,ahc,if_false]at h ⊢;refine afS ?_;unfold setWalk;refine afS (aie ho hd hI.fits ?_);dsimp only;refine afS ?_;unfold setsByText;refine afS (ahS (afT ?_));show wpAny _ _ (if gP w=Γ then _ else _) _ _ _
  rw[hb];simp only[if_true];refine afS (ahS (afT (afT ?_)));have e:iP Γ t.place (i+1)=iP Γ t.place i:=by cases i<;>rfl
  rw[e]at h;exact h
 |false =>
  rw[hb]at h hl;simp only[ahc,if_false]at h ⊢;show wpAny _ _ (if(!t.plain&&decide (es.size>1))=Γ then _ else _) _ _ _
  rw[hI.plain];simp only[Bool.not_true,Bool.false_and,ahc,if_false];refine afS (ah3 (a:=()) ?_ ?_)
  ·show(if(!t.led && !es.isEmpty)=Γ then _ else _)=_
   rw[hl];rfl
  have ZY:SetTable.below t.place (iP θ t.place i)=i:=by
   cases i with
   |zero=>exact ac8 hI.up
   |succ i=>exact ac9 hI.up (by rw[agq,hI.size];omega)
  rw[ZY];refine afT ?_
  rcases ahv i es.size with hlt|hge
  ·have hp:i<t.place.size:=by rw[hI.size];exact hlt
   rw[ahw hlt]at h ⊢;rw[ahw hp];have e:iP θ t.place (i+1)=t.place[i]+1:=by
    simp[iP,agi,af2 (show i<t.place.toList.length by simpa using hp)]
   rw[e]at h;exact h
  ·rw[ajM hge]at h ⊢;exact h
end
section
variable {prog:τ}{w:υ}{A:χ}{E:Δ->Ω->Prop}{s:Ω}
theorem Y5{it a:Ψ}{es:Array (Int×Δ)}{ep i:Nat}{t:aai}{v:Int×Δ}{Q:Option Δ->Ω->Prop}(hit:kE s.heap it a (iP (gP w) t.place i) i es.size ep) (hS:iM w s.heap a es ep t) (hi:i<es.size)
  (hv:(jf w a ep es)[i]? = ζ v) (hQ:∀h',kE h' it a (iP (gP w) t.place (i+1)) (i+1) es.size ep->aan it s.heap h'->Q (ζ v.2) {s with heap:=h'}) :
  wpAny (model prog w) A (pyNext (.ref it)) Q E s:=by
 obtain⟨o,ho,hc,hd⟩:=id hit;obtain⟨oS,hoS,JC,hdS,hI,hl⟩:=id hS;unfold pyNext;refine afS (wpAny_attempt (ahb (name:=Str.ofString "__next__") hit.typeIs qv (agL qv hit.typeIs Gn ?_ (Gp _))));unfold Builtin.«set_iterator.__next__»;refine afS (afT ?_);refine afS (wpAny_fieldsOf ho hd ?_);dsimp only;refine afS (aiX hoS hdS hI.fits ?_);rw[if_neg (by simp)]
 refine afS (Gz (ep:=ep) (i:=i) hS (ag8 hi) ?_);rw[hv];dsimp only[Option.map];refine afS (ahM ho hd (by simp) ?_)
 have g1:=ahI (Obj.mapFields (·.setIfInBounds 0 (rawInt ((iP (gP w) t.place (i+1):Nat):Int)))) ho (aiI (ahs hd _));have d1:=ahs hd (·.setIfInBounds 0 (rawInt ((iP (gP w) t.place (i+1):Nat):Int)));refine afS (ahM g1 d1 (by simp) ?_)
 have g2:=ahI (Obj.mapFields (·.setIfInBounds 1 (rawInt ((i:Int)+1)))) g1 (aiI (ahs d1 _));have d2:=ahs d1 (·.setIfInBounds 1 (rawInt ((i:Int)+1)));refine afT ⟨_,rfl,afT (hQ _ ⟨_,g2,?_,?_⟩ ((ahd ..).trans (ahd ..)))⟩
 ·exact(aiJ ..).trans ((aiJ ..).trans hc)
 ·rw[d2];simp[rawInt]
theorem Y6{it a:Ψ}{es:Array (Int×Δ)}{ep:Nat}{t:aai}{Q:Option Δ->Ω->Prop}(hh:A.handled=η) (hit:kE s.heap it a (iP (gP w) t.place es.size) es.size es.size ep) (hS:iM w s.heap a es ep t)
  (hQ:∀h',Heap.ExtBut it s.heap h'->Q η {s with heap:=h'}):wpAny (model prog w) A (pyNext (.ref it)) Q E s:=by
 obtain⟨o,ho,hc,hd⟩:=id hit;obtain⟨oS,hoS,JC,hdS,hI,hl⟩:=id hS;unfold pyNext;refine afS (wpAny_attempt (ahb (name:=Str.ofString "__next__") hit.typeIs qv (agL qv hit.typeIs Gn ?_ (Gp _))));unfold Builtin.«set_iterator.__next__»;refine afS (afT ?_);refine afS (wpAny_fieldsOf ho hd ?_);dsimp only;refine afS (aiX hoS hdS hI.fits ?_);rw[if_neg (by simp)]
 refine afS (Gz (ep:=ep) (i:=es.size) hS (afU _) ?_);have hv:(jf w a ep es)[es.size]? = η:=by
  have:=(xx w a ep es).length_eq;rw[agq,agq]at this;exact ajM (by omega)
 rw[hv];dsimp only[Option.map];refine afS (ahM ho hd (by simp) ?_)
 show wpAny _ _ (newExc (.type "StopIteration") [] >>= _) _ _ _;refine afS ?_;simp only[newExc,newTuple];refine afS (agw ?_ (by size_fits))
 refine afS (m:=firstArgMember _ _) (ah3 (a:=Value.none) (by first|rfl|(simp only[firstArgMember];rfl)) (agw ?_ (by size_fits)))
 simp only[raiseNew];refine afS (wpAny_handled ?_);rw[show A.in1.handled=η from hh]
 refine afS (afT (wpAny_throw ?_));refine afS (wpAny_isInstance (b:=Γ) (T:="StopIteration") ⟨_,aga _ rfl,rfl⟩ isSubtype_stop ?_);exact afT (hQ _ (((ahd ..).extBut.push _).push _))
theorem Y4{it a:Ψ}{sl i n ep:Nat}{Q:Δ->Ω->Prop}(hit:kE s.heap it a sl i n ep) (h:Q (.ref it) s):wpAny (model prog w) A (pyIter (.ref it)) Q E s:=by
 refine wpAny_pyIter_slot hit.typeIs Gk (agL Gk hit.typeIs ON (show wpAny _ _ (ret (.ref it)) _ _ s from ?_) (OO _))
 exact afT ⟨_,rfl,"set_iterator",_,hit.typeIs,qv.lookup,h⟩
theorem PL(hh:A.handled=η) (I a:Ψ) (hne:a≠I) (es:Array (Int×Δ)) (ep:Nat) (t:aai) :
  Walks prog w A I [I,a] [I] es.size (λi v=>(jf w a ep es)[i]?.map (·.2)=ζ v) (λi h=>kE h I a (iP (gP w) t.place i) i es.size ep/\iM w h a es ep t) where
 sub:=λb hb=>by simp at hb;simp[hb]
 frame:=λ_ _ _ st hk=>⟨st.1.at λo e=>hk I (by simp) o e,st.2.at λo e=>hk a (by simp) o e⟩
 item:=λi s Q E hi st hQ=>by
  have hl:=(xx w a ep es).length_eq;rw[agq,agq]at hl;have hv:(jf w a ep es)[i]? = ζ (jf w a ep es)[i]:=ahw (by omega)
  refine Y5 st.1 st.2 hi hv λh' Cz hs'=>hQ _ h' s.toks (by rw[hv];rfl) ⟨Cz,st.2.at λo e=>?_⟩ λb o hb e=>hs'.extBut b o (λh=>hb (by simp[h])) e
  exact hs'.extBut a o hne e
 done:=λs Q E st hQ=>Y6 hh st.1 st.2 λh' he'=>hQ h' s.toks λb o hb e=>he' b o (λh=>hb (by simp[h])) e
 self:=λ_ _ _ _ st hQ=>Y4 st.1 hQ
theorem iM.typeIs{a:Ψ}{es:Array (Int×Δ)}{ep:Nat}{t:aai}(h:iM w s.heap a es ep t):s.TypeIs (.ref a) "set":=let⟨o,ho,hx,_⟩:=h;⟨o,ho,hx.1⟩
theorem PR{a:Ψ}{es:Array (Int×Δ)}{ep:Nat}{t:aai}{Q:Δ->Ω->Prop}(hS:iM w s.heap a es ep t)
  (hQ:Q (.ref s.heap.objs.size) {s with heap:=s.heap.push {cls:=.type "set_iterator",data:=.fields #[.int 0 0,.int 0 0,.ref a,.int es.size 0,.int ep 0]} }):wpAny (model prog w) A (pyIter (.ref a)) Q E s:=by
 obtain⟨oS,hoS,JC,hdS,hI,hl⟩:=id hS;refine wpAny_pyIter_slot hS.typeIs ajN (agL ajN hS.typeIs OM ?_ (PySem.F.args_set_iter_1 _));unfold Builtin.«frozenset.__iter__» Builtin.Frozenset.slot0;refine afS (afS (afT (afT ?_)));unfold Builtin.Frozenset.sizeOf;refine afS (afS (aiX hoS hdS hI.fits (afT ?_)));refine afS ?_;unfold setDrawn;refine afS (aie hoS hdS hI.fits ?_);dsimp only;refine afS ?_;unfold setsByText;refine afS (ahS (afT (afT ?_)));have e:(!gP w&&(!t.plain&&decide (es.size>1)))=θ:=by rw[hI.plain];simp
 show wpAny _ _ (if(!gP w&&(!t.plain&&decide (es.size>1)))=Γ then _ else _) _ _ _
 rw[e];simp only[ahc,if_false];refine afS (afT ?_);refine afS (wpAny_setEpoch_of hoS hdS hI.fits ?_);refine afS ?_;refine agw (afT ⟨_,rfl,"set_iterator",_,⟨_,aga _ rfl,rfl⟩,qv.lookup,?_⟩);exact hQ
end
end L2
namespace L2
open PySem PySem.Spec PyProof.Rows PySem.W
def jH(x:Nat):List Nat->List Nat
 |[]=>[x]
 |y::l=>if x<y then x::y::l else if x=y then y::l else y::jH x l
def dF:List Nat->List Nat
 |[]=>[]
 |x::l=>jH x (dF l)
theorem A2{x y:Nat}:∀{l:List Nat},y∈jH x l↔y=x\/y∈l
 |[]=>by simp[jH]
 |z::l=>by
  unfold jH;split
  ·simp
  ·split
   ·rename_i h;subst h;simp
   ·simp only[afW,A2 (l:=l)]
    constructor
    ·rintro (h|h|h)<;>simp[h]
    ·rintro (h|h|h)<;>simp[h]
theorem FT{x:Nat}:∀{l:List Nat},Up l->Up (jH x l)
 |[],_=>by simp[jH]
 |z::l,h=>by
  obtain⟨h1,h2⟩:=ag6.mp h;unfold jH;split
  ·rename_i hx;exact ag6.mpr ⟨λb hb=>by
    rcases afW.mp hb with rfl|hb
    ·exact hx
    ·exact ahP hx (h1 b hb),h⟩
  ·split
   ·exact h
   ·refine ag6.mpr ⟨λb hb=>?_,FT h2⟩
    rcases A2.mp hb with rfl|hb
    ·omega
    ·exact h1 b hb
theorem qm:∀l:List Nat,Up (dF l)
 |[]=>.nil
 |x::l=>FT (qm l)
theorem xP{y:Nat}:∀{l:List Nat},y∈dF l↔y∈l
 |[]=>by simp[dF]
 |x::l=>by simp[dF,A2,xP (l:=l)]
theorem up_eq:∀{l m:List Nat},Up l->Up m->(∀x,x∈l↔x∈m)->l=m
 |[],[],_,_,_=>rfl
 |[],y::m,_,_,h=>absurd ((h y).mpr (.head _)) (by simp)
 |x::l,[],_,_,h=>absurd ((h x).mp (.head _)) (by simp)
 |x::l,y::m,h1,h2,h=>by
  obtain⟨a1,a2⟩:=ag6.mp h1;obtain⟨b1,b2⟩:=ag6.mp h2;have e:x=y:=by
   rcases afW.mp ((h x).mp (.head _))with e|hx
   ·exact e
   ·rcases afW.mp ((h y).mpr (.head _))with e|hy
    ·exact e.symm
    ·have:=a1 y hy;have:=b1 x hx;omega
  subst e;rw[up_eq a2 b2 λz=>?_]
  constructor
  ·intro hz
   rcases afW.mp ((h z).mp (.tail _ hz))with e|q
   ·subst e;exact absurd (a1 z hz) (agu _)
   ·exact q
  ·intro hz
   rcases afW.mp ((h z).mpr (.tail _ hz))with e|q
   ·subst e;exact absurd (b1 z hz) (agu _)
   ·exact q
theorem Xv{ns:List Nat}{x y:Nat}:y∈gy ns x↔y∈ns\/y=x:=by
 unfold gy;split
 ·rename_i h;exact⟨.inl,λq=>q.elim id λe=>e▸h⟩
 ·simp
theorem Wo{ns:List Nat}{x:Nat}(h:ns.Nodup):(gy ns x).Nodup:=by
 unfold gy;split
 ·exact h
 ·rename_i hx;refine ah6.mpr ⟨h,by simp,λa ha b hb=>?_⟩
  rw[agn]at hb;subst hb;exact λe=>hx (e▸ha)
theorem A3:∀{xs ns:List Nat}{y:Nat},y∈xs.foldl gy ns↔y∈ns\/y∈xs
 |[],ns,y=>by simp
 |x::xs,ns,y=>by
  rw[ahZ,A3,Xv,afW,or_assoc]
theorem AY:∀{xs ns:List Nat},ns.Nodup->(xs.foldl gy ns).Nodup
 |[],_,h=>h
 |x::xs,_,h=>AY (xs:=xs) (Wo h)
theorem OW{xs:List Nat}{zs:List Int}(h1:zs.Perm ((dN xs).map λn:Nat=>(n:Int))) (h2:zs.Pairwise (·<=·)):zs=(dF xs).map λn:Nat=>(n:Int):=by
 have hz:∀z∈zs,∃n:Nat,z=n:=λz hz=>by
  obtain⟨n,_,e⟩:=af4.mp (h1.mem_iff.mp hz);exact⟨n,e.symm⟩
 have e:zs=(zs.map Int.toNat).map λn:Nat=>(n:Int):=by
  rw[agl]
  conv=>lhs;rw[<-ag7 zs]
  refine agH λz hq=>?_
  obtain⟨n,rfl⟩:=hz z hq;simp
 have hp:(zs.map Int.toNat).Perm (dN xs):=by
  have:=h1.map Int.toNat;rw[agl]at this;refine this.trans (List.Perm.of_eq ?_)
  conv=>rhs;rw[<-ag7 (dN xs)]
  exact agH λn _=>by simp
 have hnd:(zs.map Int.toNat).Nodup:=hp.nodup_iff.mpr (AY .nil);have hup:Up (zs.map Int.toNat):=by
  have hle:(zs.map Int.toNat).Pairwise (·<=·):=by
   rw[ajB];exact h2.imp fun{a b} h=>by omega
  refine(hle.and hnd).imp fun{a b} h=>?_
  have h2:a≠b:=h.2;omega
 rw[e,up_eq hup (qm xs) λx=>by
  rw[hp.mem_iff,xP];unfold dN;rw[A3];simp]
theorem AX:∀{l:List Nat},Up l->l.Nodup:=fun{l} h=>h.imp fun{a b} h=>afX h
theorem Ar(xs:List Nat):(dF xs).length=(dN xs).length:=by
 have hp:(dF xs).Perm (dN xs):=by
  refine(ajO (AX (qm xs)) (AY .nil)).mpr λx=>?_
  rw[xP,A3];simp
 exact hp.length_eq
theorem Jj:∀{l:List (Int×Δ)},(∀e∈l,∃(n:Nat) (tk:Tok),e=((n:Int),.int n tk)/\n<128)->aaG (l.map (·.2)) (l.map (·.1))
 |[],_=>.nil
 |e::l,h=>by
  obtain⟨n,tk,rfl,_⟩:=h e (.head _);exact .cons _ _ (Jj λe he=>h e (.tail _ he))
section
variable {prog:τ}{w:υ}{A:χ}{E:Δ->Ω->Prop}{s:Ω}
theorem ZN{r:Ψ}{Q:Bool->Ω->Prop}(hT:s.TypeIs (.ref r) "set") (h:Q θ s):wpAny (model prog w) A (Builtin.List.listLengthHint (.ref r)) Q E s:=by
 unfold Builtin.List.listLengthHint;refine afS (wpAny_specialOf hT PySem.F.slot_set_len.lookup ?_)
 generalize hid:("set.__len__":String)=Zi
 wp_delta
 rw[show splitId Zi=ζ ("set","__len__")from by subst hid;decide +kernel]
 subst hid;refine afS (wpAny_isInstance (T:="set") (b:=Γ) hT sub_set_self ?_);refine wpAny_ite_split (λq=>absurd q (by decide)) λ_=>wpAny_ite_split (λ_=>?_) λq=>absurd (by decide +kernel) q
 exact afS (ahH hT (afT h))
theorem iM.lt{h:ψ}{a:Ψ}{es:Array (Int×Δ)}{ep:Nat}{t:aai}(x:iM w h a es ep t):a<h.objs.size:=let⟨_,ho,_⟩:=x;afV ho
theorem OT{a:Ψ}{es:Array (Int×Δ)}{ep:Nat}{t:aai}:KdlSrc prog w "set" a a es.size (λi v=>(jf w a ep es)[i]?.map (·.2)=ζ v) (λh=>iM w h a es ep t) where
 type:=λ_ h=>h.typeIs
 there:=λ_ h=>⟨h.lt,h.lt⟩
 keep:=λ_ _ h k=>h.at λo e=>k a (.inl rfl) o e
 notList:=by decide
 notTuple:=by decide
 hint:=λ_ _ _ _ h q=>ZN h.typeIs q
 iter:=λ_ s hh h=>⟨_,_,(λ_ _ q=>PR h q),PL hh _ a (afX h.lt) es ep t,⟨⟨_,aga _ rfl,rfl,rfl⟩,h.at λo e=>afY _ e⟩⟩
theorem OV{a:Ψ}{xs:List Nat}{Q:Δ->Ω->Prop}(hh:A.handled=η) (hS:iz w s.heap a (dN xs)) (hn:(dN xs).length<64)
  (h:∀(h1 h':ψ) (tk c:Nat) (out:Array Δ),(∀b o,s.heap.get? b=ζ o->h1.get? b=ζ o)->(∀b o,h1.get? b=ζ o->h'.get? b=ζ o)->h'.get? h1.objs.size=ζ (seqObj "list" out c) ->
   aaG out.toList ((dF xs).map λn:Nat=>(n:Int))->Q (.ref h1.objs.size) {s with heap:=h',toks:=tk}) :
  wpAny (model prog w) A (call (.builtin "sorted") [.ref a]) Q E s:=by
 obtain⟨o,es,ep,t,ho,hex,hd,hI,hl,hs⟩:=hS;have hlen:es.size<64:=by
  have h1:=hs.len;rw[agq]at h1;omega
 have hok:iM w s.heap a es ep t:=⟨o,ho,hex,hd,hI,hl⟩;refine Calls.call_function_entry kind_sorted plain_sorted entry_sorted (args_sorted1 _) ?_;unfold Builtin.«sorted»;refine afS (m:=checkCount "sorted" 1 1 _) (afT ?_);refine afS (kdu_collect (A:=A.in1) (OT (prog:=prog)) hh hok (by rw[ahW];omega) λh1 tk acc hk hacc=>?_)
 have aa5:acc.toList=(jf w a ep es).toList.map (·.2):=by
  have hlo:=(xx w a ep es).length_eq;rw[agq,agq]at hlo;apply ajP;intro i
  rcases ahv i acc.size with q|q
  ·have h3:=hacc.2 i acc[i] (ahw q);rw[agv,ahf,ahf,h3,ahw q]
  ·have h4:=hacc.1;rw[ahe (by simpa using q),ahe (by simp;omega)]
 have hp:=xx w a ep es;have hI2:aaG acc.toList ((jf w a ep es).toList.map (·.1)):=by
  rw[aa5];exact Jj λe he=>hs.2 e (hp.mem_iff.mp he)
 have hal:acc.toList.length<64:=by rw[agq,hacc.1];exact hlen
 refine afS (wpAny_newList ?_ (by rw[ahW];omega))
 have vc:(h1.push (seqObj "list" acc.toList.toArray 0)).get? h1.objs.size=ζ (seqObj "list" acc.toList.toArray 0):=aga _ rfl;refine afS (agR (agL slot_list_sort ⟨_,vc,rfl⟩ entry_list_sort (list_sort_tree (s:={s with heap:=h1.push (seqObj "list" acc.toList.toArray 0),toks:=tk}) vc hI2 hal λout zs a1 a2 a3=>⟨_,rfl,?_⟩) (args_list_sort _)))
 refine afT ⟨_,rfl,?_⟩;have hz:=OW (a2.trans ((hp.map _).trans hs.1)) a3;rw[hz]at a1;have hne:∀b o,h1.get? b=ζ o->b≠h1.objs.size:=λb o e=>afX (afV e)
 have g1:=get?_update_seq vc (λ_=>#[])
 have g2:=get?_update_seq (afY (seqObj "list" #[] 0) (afY (seqObj "tuple" acc.toList.toArray 0) g1)) λ_=>out
 refine h h1 _ tk _ out hk (λb o e=>?_) g2 a1
 have q:=agz (hne b o e);exact(ahn _ _ q).trans (afY _ (afY _ ((ahn _ _ q).trans (afY _ e))))
end
abbrev nV(ns:List Nat):List V:=ns.map λn:Nat=>V.int n
abbrev nD(ns:List Nat):List D:=ns.map λn:Nat=>D.int n
def ur(w:υ) (a:Ψ) (ns:List Nat):ψ->Prop:=λh=>iz w h a (dN ns)
theorem Ad:∀{ns:List Nat}{us:List Δ},Vals (nV ns) us->aaG us (ns.map λn:Nat=>(n:Int))
 |[],_,.nil=>.nil
 |n::ns,_,.cons ⟨t,e⟩ r=>by subst e;exact .cons _ _ (Ad r)
theorem LL:∀{ns:List Nat}{us:List Δ},aaG us (ns.map λn:Nat=>(n:Int))->Vals (nV ns) us
 |[],_,.nil=>.nil
 |n::ns,_,.cons _ t r=>.cons ⟨t,rfl⟩ (LL r)
theorem OS(xs:List Nat):(dF xs).length<=xs.length:=by
 have h:∀(x:Nat) (l:List Nat),(jH x l).length<=l.length+1:=by
  intro x l
  induction l with
  |nil=>simp[jH]
  |cons y l ih =>
   unfold jH;split
   ·simp
   ·split
    ·simp
    ·simp only[af1];omega
 induction xs with
 |nil=>exact afU _
 |cons x xs ih=>have:=h x (dF xs);simp only[dF,af1];omega
section
variable {X:Cx}
def Q5(X:Cx):List V->Hp->VK->Prop:=λxs H Q=>∃a ns,xs=[.ref a]/\bY X.K H a (nV ns)/\(dF ns).length<64/\(∀x∈ns,x<128)/\∀p,H p=η->Q (.ref p) (upd H p (.ext (ur X.w p ns)))
theorem acn(hc:X.calm=Γ:=by rfl):d8 X (.type "set") (Q5 X):=by
 intro pins s σ H xs us Q I rv h;obtain⟨a,ns,rfl,sq,hb,hx,q⟩:=h;obtain⟨u,rfl,ru⟩:=vals1 rv;cases ru;obtain⟨its,ri,pl,hz⟩:=I.list sq;refine PN (xs:=ns) (I.ok.hd hc) pl.isList (by simpa using Ad ri) hx (by rw[<-Ar];exact hb) λh' tk hS kp=>?_
 have hf:H s.heap.objs.size=η:=I.hok.fresh (afU _);have r9:=hS;obtain⟨o,es,ep,t,ho,_⟩:=r9;refine⟨.ref s.heap.objs.size,upd H s.heap.objs.size (.ext (ur X.w s.heap.objs.size ns)),I.laid (t':=tk) (λb u e=>kp b u (afV e) e) (afU _) ?_,rfl,q _ hf⟩
 exact⟨hS,⟨o,ho⟩,λh1 h2 x k=>x.at k⟩
def Q0(X:Cx):List V->Hp->VK->Prop:=λxs H Q=>∃a ns,xs=[.ref a]/\H a=ζ (.ext (ur X.w a ns))/\(dF ns).length<64/\∀p,H p=η->Q (.ref p) (upd H p (.lst (nV (dF ns))))
theorem acm(hc:X.calm=Γ:=by rfl):d8 X (.builtin "sorted") (Q0 X):=by
 intro pins s σ H xs us Q I rv h;obtain⟨a,ns,rfl,hH,hn,q⟩:=h;obtain⟨u,rfl,ru⟩:=vals1 rv;cases ru;obtain⟨hS,_,_⟩:=I.hok a _ hH;refine OV (I.ok.hd hc) hS (by rw[<-Ar];exact hn) λh1 h' tk c out k1 k2 hp hI=>?_
 have I1:Inv X pins σ H {s with heap:=h1,toks:=tk}:=I.kept k1
 have hf:H h1.objs.size=η:=I1.hok.fresh (afU _);refine⟨.ref h1.objs.size,upd H h1.objs.size (.lst (nV (dF ns))),I1.laid (t':=tk) k2 (afU _) ⟨?_,out.toList,c,LL hI,by simpa using hp⟩,rfl,q _ hf⟩
 simp only[af7];rw[ahW];omega
def rR(l:List D):Option (List Nat):=match o7 l with
 |some ns=>if ns.all (λn=>decide (0<=n/\n<128))=Γ/\(dF (ns.map Int.toNat)).length<64 then ζ (ns.map Int.toNat)else η
 |none=>η
theorem Iz{l:List D}{ns:List Nat}(h:rR l=ζ ns):l=nD ns/\(dF ns).length<64/\∀x∈ns,x<128:=by
 unfold rR at h;split at h
 ·rename_i zs hz;split at h
  ·rename_i hc;cases h;refine⟨?_,hc.2,λx hx=>?_⟩
   ·rw[Jl hz];unfold nD;rw[agl];refine agH λz hq=>?_
    have:=of_decide_eq_true (agc.mp hc.1 z hq);show D.int z=D.int (z.toNat:Int)
    congr 1;omega
   ·obtain⟨z,hq,rfl⟩:=af4.mp hx;have:=of_decide_eq_true (agc.mp hc.1 z hq);omega
  ·cases h
 ·cases h
theorem Ws{ns:List Nat}(h:(dF ns).length<64) (hx:∀x∈ns,x<128):rR (nD ns)=ζ ns:=by
 unfold rR;have e:nD ns=(ns.map λn:Nat=>(n:Int)).map D.int:=by simp[nD]
 rw[e,Zd];dsimp only;have e:(ns.map λn:Nat=>(n:Int)).map Int.toNat=ns:=by
  rw[agl];have:(Int.toNat ∘ λn:Nat=>(n:Int))=id:=by funext n;simp
  rw[this,ag7]
 rw[e,if_pos ⟨agc.mpr λz hz=>by
  obtain⟨n,hn,rfl⟩:=af4.mp hz;have:=hx n hn;exact decide_eq_true (by omega),h⟩]
theorem GP{K:ξ}{ρ:List Ψ}{H:Hp}{ns:List Nat}{xs:List V}(h:aH K ρ H (nD ns) xs):xs=nV ns:=by
 have e:nD ns=(ns.map λn:Nat=>(n:Int)).map D.int:=by simp[nD]
 rw[e]at h;rw[aH.Jk h];simp[nV]
theorem QW{K:ξ}{ρ:List Ψ}{H:Hp}(ns:List Nat):aH K ρ H (nD ns) (nV ns):=by
 have e:nD ns=(ns.map λn:Nat=>(n:Int)).map D.int:=by simp[nD]
 have e':nV ns=(ns.map λn:Nat=>(n:Int)).map V.int:=by simp[nV]
 rw[e,e'];exact aH.ints
theorem uR(ns:List Nat):bL (nD ns)=Γ:=by
 have e:nD ns=(ns.map λn:Nat=>(n:Int)).map D.int:=by simp[nD]
 rw[e];exact Wf
end
theorem sub_tuple_set:isSubtype (.type "tuple") (.type "set")=pure θ:=by rw[aif];kernel_rfl
theorem sub_tuple_frozenset:isSubtype (.type "tuple") (.type "frozenset")=pure θ:=by rw[aif];kernel_rfl
section
variable {prog:τ}{w:υ}{A:χ}{s:Ω}{E:Δ->Ω->Prop}
set_option maxHeartbeats 3200000 in
theorem PM{l:Ψ}{items:Array Δ}{xs:List Nat}{Q:Δ->Ω->Prop}(hh:A.handled=η) (hl:s.heap.IsTuple l items) (hi:aaG items.toList (xs.map λn:Nat=>(n:Int))) (hx:∀x∈xs,x<128) (h64:(dN xs).length<64)
  (h:∀(h':ψ) (tk:Nat),iz w h' s.heap.objs.size (dN xs)->(∀b o,b<s.heap.objs.size->s.heap.get? b=ζ o->h'.get? b=ζ o)->Q (.ref s.heap.objs.size) {s with heap:=h',toks:=tk}) :
  wpAny (model prog w) A (call (.type "set") [.ref l]) Q E s:=by
 obtain⟨c,tl,ZJ⟩:=agA.mro;have hmade:=agA.made;have hsub:=agA.sub;refine ahk (aiV (show wpAny _ _ (callAny (.type "set") _) _ _ _ from ?_))
 refine afT ⟨aiM _ (by decide +kernel),aht ajG ?_⟩
 rw[Around.under_plain (ajH "set" [.ref l] []) rfl];have h1:=agA.notType;have h2:=agA.canCreate;have hct:=ajI (.ref l)
 repeat any_goals (first|assumption|wp_step)
 refine agS (GA (.ref l) (E:=E) (Q₁:=λobj s₁=>obj=.ref s.heap.objs.size/\s₁={s with heap:=s.heap.push (fc w)}) ⟨rfl,rfl⟩) λr s₁ hr=>?_
 cases r with
 |error e=>exact hr
 |ok fl =>
  cases fl with
  |ret obj =>
   obtain⟨rfl,rfl⟩:=hr;have hS:(s.heap.push (fc w)).get? s.heap.objs.size=ζ (fc w):=aga _ rfl;have hT:Shared.TypeIs {s with heap:=s.heap.push (fc w)} (.ref s.heap.objs.size) "set":=⟨_,hS,rfl⟩
   have hli:=agA.init.lookup;have hbi:=agA.init.bind (.ref s.heap.objs.size)
   repeat any_goals (first|assumption|wp_step)
   refine agS (ah9 (R:=wants (λr s₂=>r=.none/\∃h' tk,s₂={s with heap:=h',toks:=tk}/\iz w h' s.heap.objs.size (dN xs) /\
     (∀b o,b<s.heap.objs.size->s.heap.get? b=ζ o->h'.get? b=ζ o)) E) agA.init.plain ajJ (check_set_init_1 hT ?_)) λr₂ s₂ pe=>?_
   ·obtain⟨ol,ji,hcl,nl,hdl⟩:=hl;obtain⟨Vo,AQ,UJ,AL⟩:=ol;simp only at hcl hdl;subst hcl;subst hdl;have u9:(s.heap.push (fc w)).get? l=ζ {cls:=.type "tuple",dict:=AQ,data:=.seq items nl,slots:=AL}:=afY _ ji;have Zt:=sub_tuple_set;have Zu:=sub_tuple_frozenset;have hne:(Value.type "tuple"==Value.type "dict")=θ:=by decide
    have hl1:(s.heap.push (fc w)).IsTuple l items:=⟨_,u9,rfl,nl,rfl⟩;unfold fc at hS hT u9 ⊢;unfold Builtin.«set.__init__» noKeywords Builtin.Frozenset.updateFrom
    generalize CD:pyIter=PI
    wp_walk
    subst CD;refine ahC hl1 (afS (wpAny_runValue ?_));have hlS:l<s.heap.objs.size:=afV ji;have hlen:items.size=xs.length:=by have:=hi.length;simpa using this
    have Cw:l≠(s.heap.push (fc w)).objs.size:=by rw[agF];exact afX (ahq hlS)
    have hSf:s.heap.objs.size∉[(s.heap.push (fc w)).objs.size,l]:=by
     rw[agF];simp only[afW,agp,or_false,not_or];exact⟨afX (ag4 _),agO hlS⟩
    have W:=(Walks.tuple (prog:=prog) (w:=w) (A:=A.in1.in1.in1) (by simp[hh]) (s.heap.push (fc w)).objs.size l Cw items).toS
    rw[hlen]at W;refine GB (xs:=xs) W s.heap.objs.size hSf (λi v hi' hv=>?_) hx h64 xs.length 0 _ (by omega) (agK _) ⟨⟨_,aga _ rfl,rfl,rfl⟩,hl1.at λo e=>afY _ e⟩ (Kn w (afY _ hS)) λs' hm hS'=>?_
    ·obtain⟨t,e⟩:=IntsAre.int_at hi i v (by rw[ahf];exact hv)
     exact⟨t,by rw[e];simp[agi,af2 hi']⟩
    ·obtain⟨h',g',d',tk',os'⟩:=s';cases(show g'=s.gens from hm.gens)
     cases(show d'=s.drawn from hm.drawn)
     cases(show os'=s.os from hm.os)
     refine afT (afT ⟨rfl,h',tk',rfl,hS',λb o hb e=>?_⟩)
     exact hm.heap b o (by rw[agF];simp only[afW,agp,or_false,not_or];exact⟨afX hb,afX (ahq hb)⟩) (afY _ (afY _ e))
   ·cases r₂ with
    |error e=>exact pe
    |ok CO =>
     cases CO with
     |ret r =>
      obtain⟨rfl,h',tk,rfl,hS',hk'⟩:=pe
      repeat any_goals (first|assumption|wp_step)
      exact h _ _ hS' hk'
     |_=>exact pe.elim
  |_=>exact hr.elim
end
section
variable {X:Cx}
def Q7(X:Cx):List V->Hp->VK->Prop:=λxs H Q=>∃a ns,xs=[.ref a]/\(bY X.K H a (nV ns)\/bU X.K H a (nV ns))/\(dF ns).length<64/\(∀x∈ns,x<128)/\∀p,H p=η->Q (.ref p) (upd H p (.ext (ur X.w p ns)))
theorem aco(hc:X.calm=Γ:=by rfl):d8 X (.type "set") (Q7 X):=by
 intro pins s σ H xs us Q I rv h;obtain⟨a,ns,rfl,sq,hb,hx,q⟩:=h
 rcases sq with sq|sq
 ·exact acn hc pins s σ H _ us Q I rv ⟨a,ns,rfl,sq,hb,hx,q⟩
 ·obtain⟨u,rfl,ru⟩:=vals1 rv;cases ru;obtain⟨its,ri,pl,hz⟩:=I.tuple sq;refine PM (xs:=ns) (I.ok.hd hc) (show s.heap.IsTuple a its.toArray from pl) (by simpa using Ad ri) hx (by rw[<-Ar];exact hb) λh' tk hS kp=>?_
  have hf:H s.heap.objs.size=η:=I.hok.fresh (afU _);have r9:=hS;obtain⟨o,es,ep,t,ho,_⟩:=r9;refine⟨.ref s.heap.objs.size,upd H s.heap.objs.size (.ext (ur X.w s.heap.objs.size ns)),I.laid (t':=tk) (λb u e=>kp b u (afV e) e) (afU _) ?_,rfl,q _ hf⟩
  exact⟨hS,⟨o,ho⟩,λh1 h2 x k=>x.at k⟩
def xO(c:aa):D->Option (List Nat)
 |.tup l=>rR l
 |x=>match dW c x with
  |some l=>rR l
  |none=>η
theorem Wt{K:ξ}{ρ:List Ψ}{H:Hp}{c:aa}{x:D}{v:V}{ns:List Nat}(W:Wd K ρ H c) (r:Rel K ρ H x v) (h:xO c x=ζ ns):∃a,v=.ref a/\(bY K H a (nV ns)\/bU K H a (nV ns))/\(dF ns).length<64/\∀x∈ns,x<128:=by
 unfold xO at h;split at h
 ·obtain⟨rfl,h64,hx⟩:=Iz h;obtain⟨a,xs,rfl,ha,rl⟩:=r;cases GP rl;exact⟨a,rfl,.inr (bU.of ha),h64,hx⟩
 ·split at h
  ·rename_i l hl;obtain⟨rfl,h64,hx⟩:=Iz h;obtain⟨a,ys,rfl,ha,rl⟩:=xS W r hl;cases GP rl;exact⟨a,rfl,.inl (bY.of ha),h64,hx⟩
  ·cases h
end
theorem OP{a b:ο}{env:Env}{pos:Pos}(h:isStar a=θ) (g:isStar b=θ):((aah pos (μ [a,b] env)).all (λx=>!x.1)&&(aaB pos (aak [] env)).all (λx=>x.1.isSome)
   && decide ([a,b].length+([]:List aam).length+(if([]:List aam).isEmpty then 0 else 1)<30))=Γ:=by
 rw[Gr h g];simp[aah,aaB,aak]
section
variable {X:Cx}
def Rg:V->List V->Hp->VK->Prop:=λx vs H Q=>∃l xs y,∃i:Int,x=.ref l/\vs=[.int i,y]/\H l=ζ (.lst xs)/\(0<=i/\i<=xs.length)/\xs.length<ε/\Q .aI (upd H l (.lst (xs.take i.toNat++y::xs.drop i.toNat)))
theorem Xl:vL X "list.insert" Rg:=by
 intro pins s σ H x vs v us Q I rx rv h;obtain⟨l,xs,y,i,rfl,rfl,hH,hi,hz,q⟩:=h;cases rx;cases rv with
 |cons r0 rr =>
  cases rr with
  |cons ru rr =>
   cases rr;obtain⟨t,rfl⟩:=r0;rename_i u;obtain⟨z,its,n,r,hl,e⟩:=I.k7 hH;have hsl:ε<2^62:=by decide
   have hfit:¬(!Builtin.List.listFitsIndex i)=Γ:=by
    have:Builtin.List.listFitsIndex i=Γ:=by
     unfold Builtin.List.listFitsIndex;simp only[af5,decide_eq_true_eq];omega
    rw[this];decide
   refine ag2 F.slot_list_insert ⟨_,e,rfl⟩ F.entry_list_insert (F.args_list_insert_3 _ _ _) (AutoSeq1.list_insert_list_int_val_1 l its.toArray n i t u hfit (by rw[af0];omega)) ⟨e,?_⟩
   refine⟨.aI,_,I.A5 (its':=its.take i.toNat++u::its.drop i.toNat) hH e ?_ ((r.take i.toNat).append (.cons ru (r.drop i.toNat))) ?_,rfl,q⟩
   ·have hk:(if i<0 then(i+(its.toArray.size:Int)).toNat else min i.toNat its.toArray.size)=i.toNat:=by
     rw[if_neg (by omega),af0];omega
    show(its.toArray.extract 0 (if i<0 then(i+(its.toArray.size:Int)).toNat else min i.toNat its.toArray.size)).push u++its.toArray.extract (if i<0 then(i+(its.toArray.size:Int)).toNat else min i.toNat its.toArray.size)=_
    rw[hk];apply Array.toList_inj.mp;simp[List.extract_eq_take_drop,aih]
   ·simp only[ago,aha,af1,ahX];omega
def vn(o a b:af):af:=λe c=>(o e c).bind λx c=>match x with
 |.ref k=>(a e c).bind λi c=>(b e c).bind λy c=>match i,c[k]? with
  |.int i,ζ (.lst l)=>if(0<=i/\i<=l.length)/\l.length<ε/\noRef y=Γ then .ok .aI (c.set k (.lst (l.take i.toNat++y::l.drop i.toNat)))else .bad
  |_,_=>.bad
 |_=>.bad
theorem Wa{l:List D}(h:bL l=Γ) (n:Nat):bL (l.take n)=Γ:=eu.mpr λd hd=>eu.mp h d (agt hd)
theorem Wg{l:List D}(h:bL l=Γ) (n:Nat):bL (l.drop n)=Γ:=eu.mpr λd hd=>eu.mp h d (aiP hd)
theorem Te{o a b:ο}{dO da db:af}{apos cpos:Pos}(ho:aW X o dO) (ha:aW X a da) (hb:aW X b db)
  (hbase:aao o "insert" X.env (eval o X.env)=eval o X.env:=by rfl)
  (hfew:((aah cpos (μ [a,b] X.env)).all (λx=>!x.1)&&(aaB cpos (aak [] X.env)).all (λx=>x.1.isSome)
   && decide ([a,b].length+([]:List aam).length+(if([]:List aam).isEmpty then 0 else 1)<30))=Γ:=by exact OP rfl rfl)
  (hline:(apos.endLine==cpos.line)=Γ:=by rfl) (hs:μ [a,b] X.env=(θ,eval a X.env)::μ [b] X.env:=by exact cj rfl) (hs2:μ [b] X.env=(θ,eval b X.env)::μ [] X.env:=by exact cj rfl) (hplain:(aah cpos (μ [b] X.env)).any (·.1)=θ:=by exact iA rfl) :
  aW X (.Call (.Attribute o "insert" apos) [a,b] [] cpos) (vn dO da db) :=
 (uK ahO PySem.F.slot_list_insert PySem.F.type_list_insert Xl ho (je ha (je hb kQ hs2) hs) hbase hfew hline hs hplain).imp λσ H Q h=>by
  obtain⟨ρ,e,c,W,V,p⟩:=h;refine⟨ρ,e,c,W,V,post.bind p λx c1 aG H1 v _ W1 X1 r1 p1=>?_⟩
  cases x with
  |ref k =>
   obtain⟨ad,rfl,hk⟩:=r1;obtain⟨xs,hx⟩:=W1.at' (agk hk);refine⟨.inl ⟨rfl,xs,bY.of hx⟩,aG,e,c1,W1,V.mono W X1,post.bind p1 λi c2 cz H2 ui _ W2 X2 r2 p2=>⟨cz,e,c2,W2,(V.mono W X1).mono W1 X2,post.bind p2 λy c3 kG H3 u _ W3 X3 r3 p3=>?_⟩⟩
   split at p3
   ·rename_i i' l hl _;split at p3
    ·rename_i hh;cases r2;obtain⟨nr,ys,hy,rl⟩:=W3.ff k ad _ (X3.pre k ad (X2.pre k ad hk)) hl;refine⟨ad,ys,u,i',rfl,rfl,hy,by rw[rl.length];exact hh.1,by rw[rl.length];exact hh.2.1,?_⟩
     refine p3 kG _ .aI (W3.write (X3.pre k ad (X2.pre k ad hk)) ?_ ((rl.take _).append ⟨u,_,rfl,r3,rl.drop _⟩)) (Ext.write (X3.pre k ad (X2.pre k ad hk))) rfl;rw[uS,Wa nr];simp[bL,hh.2.2,Wg nr]
    ·exact p3.elim
   ·exact p3.elim
  |_=>exact p1.elim
def oZ:List D->aa->R D:=λxs c=>match xs with
 |[x]=>match fO c x with
  |some l=>if bL l=Γ then .ok (.ref c.length) (c++[.lst l])else .bad
  |none=>.bad
 |_=>.bad
theorem acF:d8 X (.type "list") (rN X.K oZ):=by
 intro pins s σ H vs us Q I rv h;obtain⟨ρ,xs,c,W,rx,p⟩:=h;unfold oZ at p;split at p
 ·rename_i x;obtain⟨v,r,rfl,hx,hr⟩:=rx;cases hr;split at p
  ·rename_i l hl;split at p
   ·rename_i nr;obtain⟨a,ys,rfl,sq,r⟩:=uv W hx hl;exact Lr pins s σ H _ us Q I rv ⟨a,ys,rfl,sq,AV W nr r p⟩
   ·exact p.elim
  ·exact p.elim
 ·exact p.elim
end
@[simp] theorem MQ(o a b:af) (e:Ev) (c:aa):vn o a b e c=(o e c).bind λx c=>match x with
 |.ref k=>(a e c).bind λi c=>(b e c).bind λy c=>match i,c[k]? with
  |.int i,ζ (.lst l)=>if(0<=i/\i<=l.length)/\l.length<ε/\noRef y=Γ then .ok .aI (c.set k (.lst (l.take i.toNat++y::l.drop i.toNat)))else .bad
  |_,_=>.bad
 |_=>.bad:=rfl
mutual
def fy(c:aa) (n:Nat):D->Option D
 |.ref k=>match c[k]? with
  |some (.lst l)=>if n<=k then ζ (.lst l)else η
  |none=>η
 |.lst l=>match mG c n l with
  |some m=>ζ (.lst m)
  |none=>η
 |.tup l=>match mG c n l with
  |some m=>ζ (.tup m)
  |none=>η
 |.aI=>ζ .aI
 |.bl b=>ζ (.bl b)
 |.int i=>ζ (.int i)
 |.str x=>ζ (.str x)
 |.ty x=>ζ (.ty x)
 |.bQ x=>ζ (.bQ x)
 |.fn x m=>ζ (.fn x m)
 |.exc x=>ζ (.exc x)
 |.gK=>ζ .gK
 |.dct ks=>ζ (.dct ks)
 |.lam _ _ _ _=>η
def mG(c:aa) (n:Nat):List D->Option (List D)
 |[]=>ζ []
 |d::l=>match fy c n d,mG c n l with
  |some a,ζ m=>ζ (a::m)
  |_,_=>η
end
section
variable {K:ξ}{aG:List Ψ}{H1:Hp}{c1:aa}{n:Nat}
mutual
theorem F4(W1:Wd K aG H1 c1):∀(d:D) (v:V) (d':D),Rel K aG H1 d v->fy c1 n d=ζ d'->Rel K (aG.take n) H1 d' v
 |.ref k,v,d',r,h=>by
  unfold fy at h;split at h
  ·rename_i l hl;split at h
   ·rename_i hk;cases h;obtain⟨a,rfl,ha⟩:=r;obtain⟨nr,xs,hx,rl⟩:=W1.ff k a _ ha hl;refine⟨a,xs,rfl,⟨hx,λq=>?_⟩,aH.low (λb h=>agt h) l xs nr rl⟩
    obtain⟨j,hj,e⟩:=ag5.mp q;rw[aiL]at e;have hk1:=af6.mp ha;have hjl:j<aG.length:=by simp at hj;omega
    have:=(ahB W1.nd (h₀:=hjl) (h₁:=hk1.1)).mp (e.trans hk1.2.symm);simp at hj;omega
   ·cases h
  ·cases h
 |.lst l,v,d',r,h=>by
  unfold fy at h;split at h
  ·rename_i m hm;cases h;obtain⟨a,xs,rfl,s,rl⟩:=r;exact⟨a,xs,rfl,⟨s.1,λq=>s.2 (agt q)⟩,Ag W1 l xs m rl hm⟩
  ·cases h
 |.tup l,v,d',r,h=>by
  unfold fy at h;split at h
  ·rename_i m hm;cases h;obtain⟨a,xs,rfl,s,rl⟩:=r;exact⟨a,xs,rfl,s,Ag W1 l xs m rl hm⟩
  ·cases h
 |.aI,v,d',r,h=>by unfold fy at h;cases h;exact Rel.low (λb h=>agt h) _ _ rfl r
 |.bl b,v,d',r,h=>by unfold fy at h;cases h;exact Rel.low (λb h=>agt h) _ _ rfl r
 |.int i,v,d',r,h=>by unfold fy at h;cases h;exact Rel.low (λb h=>agt h) _ _ rfl r
 |.str x,v,d',r,h=>by unfold fy at h;cases h;exact Rel.low (λb h=>agt h) _ _ rfl r
 |.ty x,v,d',r,h=>by unfold fy at h;cases h;exact Rel.low (λb h=>agt h) _ _ rfl r
 |.bQ x,v,d',r,h=>by unfold fy at h;cases h;exact Rel.low (λb h=>agt h) _ _ rfl r
 |.fn x m,v,d',r,h=>by unfold fy at h;cases h;exact Rel.low (λb h=>agt h) _ _ rfl r
 |.exc x,v,d',r,h=>by unfold fy at h;cases h;exact Rel.low (λb h=>agt h) _ _ rfl r
 |.gK,v,d',r,h=>by unfold fy at h;cases h;exact Rel.low (λb h=>agt h) _ _ rfl r
 |.dct ks,v,d',r,h=>by unfold fy at h;cases h;exact Rel.low (λb h=>agt h) _ _ rfl r
 |.lam _ _ _ _,v,d',r,h=>by unfold fy at h;cases h
theorem Ag(W1:Wd K aG H1 c1):∀(l:List D) (xs:List V) (m:List D),aH K aG H1 l xs->mG c1 n l=ζ m->aH K (aG.take n) H1 m xs
 |[],xs,m,r,h=>by unfold mG at h;cases h;exact r
 |d::l,xs,m,r,h=>by
  unfold mG at h;split at h
  ·rename_i a m' ha hm;cases h;obtain⟨y,ys,rfl,r1,r2⟩:=r;exact⟨y,ys,rfl,F4 W1 d y a r1 ha,Ag W1 l ys m' r2 hm⟩
  ·cases h
end
end
def ki(n:Nat) (v:D) (c:aa):R D:=match fy c n v with
 |some d=>.ok d (c.take n)
 |none=>.bad
def ly(n:Nat) (d:ah):List D->aa->R D:=λxs c=>(d (cg n xs) c).bind λf c'=>match f with
 |.rt v=>ki c.length v c'
 |.nx _=>ki c.length .aI c'
 |_=>.bad
theorem Kf{K:ξ}{ρ aG:List Ψ}{H H1:Hp}{c c1:aa}{v:D}{x:V}{Q:VK}(W:Wd K ρ H c) (W1:Wd K aG H1 c1) (X1:Ext ρ H aG H1) (r:Rel K aG H1 v x) (p:post K (Rel K) (ki c.length v c1) ρ H Q):Q x H1:=by
 have hn:=Ext.len W W1 X1;have Wc:=W1.cut hn;have Xc:=X1.cut (n:=c.length) (ag3 W.len);unfold ki at p;split at p
 ·rename_i d hd;exact p _ H1 x Wc Xc (F4 W1 v x d r hd)
 ·exact p.elim
section
variable {P:τ}{w:υ}{K:ξ}{mg:Str->Option Δ}{base:ψ}
theorem CM{x qual:Str}{st:aag}{f:Ψ}{fd:π}{N ps:List Str}{k n m:Nat}{d:ah}(F:jU K x qual st f fd) (S:cC N ps (aX st)) (hN:N.length=n) (hm:ps.length=m)
  (hb:∀(cdv:Δ) (A:χ) (outer:List Env) (s:Ω) (H:Hp) (E:XK),cP k (A.deeper (envOfC qual (aX st) s.heap.objs.size f cdv))->b7 (fu bP P w K mg base N qual (aX st) f cdv A outer s H E).fj (ck st) d) :
  bV P w K mg base bP (k+1) f fd ps (bX K m (ly n d)):=by
 subst hN;subst hm;refine F.ok S (λvs H Q E h=>?_) (λcdv A outer s H vs Q E hr h=>⟨_,hb cdv A outer s H E hr,?_⟩)
 ·obtain⟨ρ,xs,c,W,r,hl,p⟩:=h;exact r.length.trans hl
 ·obtain⟨ρ,xs,c,W,r,hl,p⟩:=h;refine⟨ρ,cg N.length xs,c,W,c9.start r,post.bind p λfl c1 aG H1 b _ W1 X1 r1 p1=>?_⟩
  cases fl with
  |nx e1 =>
   obtain⟨σ1,rfl,V1⟩:=r1;exact Kf (v:=.aI) (x:=.aI) (H1:=H1) W W1 X1 rfl (by unfold ly at p;rename_i he;rw[he]at p;exact p)
  |rt d =>
   obtain⟨v,rfl,V1⟩:=r1;exact Kf (v:=d) (x:=v) (H1:=H1) W W1 X1 V1 (by unfold ly at p;rename_i he;rw[he]at p;exact p)
  |bk e1=>exact p1.elim
  |ct e1=>exact p1.elim
end
@[simp] theorem zW(n:Nat) (d:ah) (xs:List D) (c:aa):ly n d xs c=(d (cg n xs) c).bind λf c'=>match f with
 |.rt v=>ki c.length v c'
 |.nx _=>ki c.length .aI c'
 |_=>.bad:=rfl
end L2
namespace HT
open PySem PySem.Spec PyProof.Rows
section
variable {prog:τ}{w:υ}{A:χ}{E:Δ->Ω->Prop}{s:Ω}
theorem aat{t sl:Ψ}{items:Array Δ}{vl vu:Δ}{lo hi:Option Int}{Q:Δ->Ω->Prop}(ht:IsTup s.heap t items) (hs:s.heap.IsSliceOf sl vl vu .none) (pl:aaq vl lo) (pu:aaq vu hi)
  (hw:bA items.size 0 lo=0/\bA items.size items.size hi=items.size) (h:Q (.ref t) s):wpAny (model prog w) A (getItem (.ref t) (.ref sl)) Q E s:=by
 obtain⟨os,hos,hcs,hds⟩:=id hs;have lq:s.TypeIs (.ref sl) "slice":=⟨os,hos,hcs⟩;unfold getItem
 try with_reducible refine agR ?_
 first|refine afS (afT ?_)|skip
 refine afS (aiE ht.typeIs (by decide) ?_)
 refine afS (ahb (name:=Str.ofString "__getitem__") ht.typeIs agX
  (agL agX ht.typeIs aiF ?_ (aiG _ _)))
 show wpAny _ _ (Builtin.Tuple.tupleItemsOf (.ref t) >>= _) _ _ s;refine afS (ahY ht ?_);refine afS (ahH lq ?_);rw[if_pos (by decide)]
 refine afS (Gx hs pl pu ?_);have hyes:(((bA items.size 0 lo:Nat):Int)==0&&(1:Int)==1&&(bA items.size items.size hi-bA items.size 0 lo)==items.size)=Γ:=by
  rw[hw.1,hw.2,Nat.sub_zero];simp
 show wpAny _ _ (if(((bA items.size 0 lo:Nat):Int)==0&&(1:Int)==1&&(bA items.size items.size hi-bA items.size 0 lo)==items.size)=Γ then _ else _) _ _ s
 rw[if_pos hyes];unfold Builtin.Tuple.tupleIsExact;refine afS (afS (ahH ht.typeIs (afT ?_)));rw[if_pos (by decide)]
 refine afS (ah2 ?_);exact afT ⟨_,rfl,afT h⟩
end
end HT
namespace L2
open PySem PySem.Spec PyProof.Rows
def jG:D->D->aa->R D:=λx y c=>match x,y with
 |.bl a,.bl b=>.ok (.bl (decide (a=b))) c
 |_,_=>.bad
def gh(a:af) (lo hi:Ev->aa->R (Option Int)):af:=λe c=>(a e c).bind λx c=>(lo e c).bind λl c=>(hi e c).bind λu c=>match x with
 |.tup xs=>.ok (.tup (cutD xs l u)) c
 |_=>.bad
section
variable {X:Cx}
theorem TZ:bK X (compareOp .Is) (λx y H Q=>∃a b,x=.bl a/\y=.bl b/\Q (.bl (decide (a=b))) H):=by
 intro pins s σ H x y v u Q I rx ry h;obtain⟨a,b,rfl,rfl,q⟩:=h;cases rx;cases ry;refine wpAny_is_plain rfl (c7 I q ?_);cases a<;>cases b<;>rfl
theorem HH:bK X (compareOp .Is) (r2 X.K jG):=by
 intro pins s σ H v u vv uu Q I rv ru h;obtain⟨ρ,x,y,c,W,rx,ry,p⟩:=h;unfold jG at p;split at p
 ·cases rx;cases ry;exact TZ pins s σ H _ _ vv uu Q I rv ru ⟨_,_,rfl,rfl,p.here W rfl⟩
 ·exact p.elim
def Q2(K:ξ):V->Option Int->Option Int->Hp->VK->Prop:=λx lo hi H Q=>∃a xs,x=.ref a/\bU K H a xs /\
 (HT.bA xs.length 0 lo=0/\HT.bA xs.length xs.length hi=xs.length)/\Q (.ref a) H
theorem O1:nF X (Q2 X.K):=by
 intro pins s σ H x v vl vu lo hi sl Q I rx hs pl pu h;obtain⟨a,xs,rfl,hx,hw,q⟩:=h;cases rx;obtain⟨its,r,ht,hz⟩:=I.tuple hx;have hlen:its.toArray.size=xs.length:=by rw[af0];exact r.length.symm
 refine⟨"tuple",_,agX.lookup,ht.typeIs,?_⟩;exact HT.aat ht hs pl pu (by rw[hlen];exact hw) ⟨.ref a,H,I,rfl,q⟩
theorem abM{xs:List D}{l u:Option Int}(h:HT.bA xs.length 0 l=0/\HT.bA xs.length xs.length u=xs.length):cutD xs l u=xs:=by
 unfold cutD;rw[h.1,h.2];simp
theorem oi{e:ο}{lo hi:Option ο}{p2 pos:Pos}{da:af}{dl dh:Ev->aa->R (Option Int)}(he:aW X e da) (hl:mq X lo dl) (hh:mq X hi dh):aW X (.Subscript e (.Slice lo hi η p2) pos) (gh da dl dh) :=
 (Hi (O4.or O1) he hl hh).imp λσ H Q h=>by
  obtain⟨ρ,e,c,W,Vv,p⟩:=h;refine⟨ρ,e,c,W,Vv,post.bind p λx c1 aG H1 v _ W1 X1 r1 p1=>⟨aG,e,c1,W1,Vv.mono W X1,post.bind p1 λl c2 cz H2 l' _ W2 X2 r2 p2=>⟨cz,e,c2,W2,(Vv.mono W X1).mono W1 X2,post.bind p2 λu c3 kG H3 u' _ W3 X3 r3 p3=>?_⟩⟩⟩
  cases r2;cases r3;have rx:=Rel.mono W1 (X2.trans X3) _ _ r1;split at p3
  ·rename_i xs _;obtain⟨a,ys,rfl,ha,r⟩:=rx
   by_cases hw:HT.bA xs.length 0 l=0/\HT.bA xs.length xs.length u=xs.length
   ·right
    rw[abM hw]at p3;exact⟨a,ys,rfl,bU.of ha,by rw[r.length];exact hw,p3.here W3 ⟨a,ys,rfl,ha,r⟩⟩
   ·left
    exact⟨a,ys,rfl,bU.of ha,by rw[r.length];exact hw,oH W3 (KA r) p3⟩
  ·exact p3.elim
end
section
variable (e:Ev) (c:aa) (a:af) (lo hi:Ev->aa->R (Option Int))
@[simp] theorem aet(a b:Bool):jG (.bl a) (.bl b) c=.ok (.bl (decide (a=b))) c:=rfl
@[simp] theorem aee:gh a lo hi e c=(a e c).bind λx c=>(lo e c).bind λl c=>(hi e c).bind λu c=>match x with
 |.tup xs=>.ok (.tup (cutD xs l u)) c
 |_=>.bad:=rfl
end
theorem F1{l c:Int}{t u:Tok}{v:Δ}:∀(xs:List Δ),abE xs->abE (xs++[.int l t,.int c u,v])
 |[],_=>trivial
 |.int _ _ :: .int _ _::_::rest,h=>F1 (l:=l) (c:=c) (t:=t) (u:=u) (v:=v) rest h
theorem LB{pos p:Pos}{v cv:Δ}:∀(xs:List Δ),abE xs->codeAmong p (xs++[rawInt pos.line,rawInt pos.col,v])=ζ cv->codeAmong p xs=ζ cv\/cv=v
 |[],_,h=>by
  simp only[af9,rawInt,codeAmong]at h;split at h
  ·exact .inr (agb h).symm
  ·cases h
 |.int a _ :: .int b _::x::rest,ht,h=>by
  simp only[ahx,codeAmong]at h ⊢;split at h
  ·rename_i hc;rw[if_pos hc];exact .inl h
  ·rename_i hc;rw[if_neg hc];exact LB rest ht h
structure ad3 (H H':Hp) (n:Nat) (P:Ψ) (q:Str) (e:ο) (cl:List (Str×Ψ)) (a:Ψ):Prop where
 at':∃o c,H' a=ζ (.ext (o4 a o))/\vM e o q c cl/\H' c=ζ (.ext (pK c q))
 keep:∀b u,H b=ζ u->u6 u=θ->H' b=ζ u
 new:∀b,b<n->H b=η->H' b=η
 tabs:∀b ps,b≠P->H b=ζ (.cD ps)->H' b=ζ (.cD ps)
 tab:TabAt H' P q
section
variable {X:Cx}{pins:List (Ψ×Obj)}{σ:St}{H:Hp}{s:Ω}
theorem KJ{h1 h2:ψ}{c:Ψ}{q:Str}(x:h1.CodeRec (.ref c) q) (k:∀o,h1.get? c=ζ o->h2.get? c=ζ o):h2.CodeRec (.ref c) q:=by
 obtain⟨c',oc,vs,t,e,h,r⟩:=x;cases e;exact⟨_,oc,vs,t,rfl,k _ h,r⟩
theorem XX{c P:Ψ}{q:Str}{params:aaH}{body:ο}{scope:aaj}{pos:Pos}{clos:List (Str×Ψ)}{Q:Δ->Ω->Prop}
  (I:Inv X pins σ H s) (hcode:X.env.code=.ref c) (hq:X.env.qual++"<lambda>"=q) (hC:PySem.W.codeHdIn X.K c P=Γ) (hT:TabAt H P q) (hcl:closureFor scope X.env=pure clos) (hdef:defaultsOf params X.env=([],[]))
  (h:∀a H' s',Inv X pins σ H' s'->s.heap.objs.size<=a->ad3 H H' s.heap.objs.size P q (.Lambda params body scope pos) clos a->Q (.ref a) s') :
  wpAny (model X.prog X.w) X.A (eval (.Lambda params body scope pos) X.env) Q X.xe s:=by
 obtain⟨ps,hP,ht,hcs⟩:=hT;have ve:s.heap.get? P=ζ (PySem.W.tabObj ps):=I.hok P _ hP;have hns:s.heap.Ns Θ X.mg:=I.mod.glob.keeps I.bk;obtain⟨bm,ob,b1,b2,b3,b4,b5,b6⟩:=I.mod.bmod;have vB:=I.bk _ _ b3;have hgP:Θ≠P:=λz=>by
  obtain⟨o,es,ep,e,hd,_⟩:=hns;rw[z,ve]at e;cases e;cases hd
 have Z0:bm≠P:=λz=>by rw[z,ve]at vB;cases vB;cases b4
 have Z1:bm≠Θ:=λz=>by
  obtain⟨o,es,ep,e,hd,_⟩:=hns;rw[z,e]at vB;cases vB;rw[hd]at b6;cases b6
 have hB:s.heap.BuiltinsAt X.mg P:=⟨bm,ob,b1,b2,Z1,Z0,vB,b4,b5,b6⟩;have C:PySem.W.CodeHd s.heap c P:=ajQ I.dX hC;refine PySem.W.kla_eval hdef ?_;rw[hq];have JI:P<s.heap.objs.size:=afV ve;cases hf:codeAmong pos ps.toList with
 |some cv =>
  obtain⟨c',rfl,hc'⟩:=hcs pos cv hf;refine PySem.W.kla_makeFunctionHit hcl I.ok.glob hns hcode C ve ht hf hB λctv h' tk hk hsz=>?_
  generalize ho:({cls:=.type "function",data:=.func (PySem.W.kla_fn "<lambda>" q params body scope clos ((X.mg "__name__").getD .none) (.ref c') ctv)}:Obj)=o
  have hof:o.isFreed=θ:=by rw[<-ho];rfl
  have hn:H h'.objs.size=η:=I.hok.fresh hsz;have nb:∀b u,H b=ζ u->b≠h'.objs.size:=λb u e=>cX e hn
  refine h h'.objs.size (upd H h'.objs.size (.ext (o4 h'.objs.size o))) _ (I.laid (t':=tk) (λb u e=>afY _ (hk b u e)) hsz ?_) hsz ⟨⟨o,c',gw,⟨_,ctv,ho.symm⟩,by rw[bz (nb _ _ hc')];exact hc'⟩,λb u e _=>by rw[bz (nb b u e)];exact e,λb hb e=>by rw[bz (afX (af3 hb hsz))];exact e,λb ps' _ e=>by rw[bz (nb b _ e)];exact e,⟨ps,by rw[bz (nb _ _ hP)];exact hP,ht,λp v e=>let⟨d,e1,e2⟩:=hcs p v e;⟨d,e1,by rw[bz (nb _ _ e2)];exact e2⟩⟩⟩
  exact⟨aga _ hof,⟨_,aga _ hof⟩,λh1 h2 e k=>k _ e⟩
 |none =>
  refine PySem.W.kla_makeFunction hcl I.ok.glob hns hcode C ve ht hf hgP hB λc' ctv h' tk hx hge hlt hrec htb=>?_
  generalize ho:PySem.W.kla_obj "<lambda>" q params body scope clos ((X.mg "__name__").getD .none) c' ctv=o
  have hsz:s.heap.objs.size<=h'.objs.size:=agf hge (ag8 hlt);have hof:o.isFreed=θ:=by rw[<-ho];rfl
  have hnc:H c'=η:=I.hok.fresh hge;have hna:H h'.objs.size=η:=I.hok.fresh hsz;have hca:c'≠h'.objs.size:=afX hlt;have hPc:P≠c':=afX (af3 JI hge);have hPa:P≠h'.objs.size:=afX (af3 JI hsz)
  generalize hps:ps ++ #[rawInt pos.line,rawInt pos.col,.ref c']=ps' at htb
  let H':Hp:=upd (upd (upd H P (.cD ps')) c' (.ext (pK c' q))) h'.objs.size (.ext (o4 h'.objs.size o))
  have pX:∀b,b≠P->b≠c'->b≠h'.objs.size->H' b=H b:=λb n1 n2 n3=>by
   show upd (upd (upd H P (.cD ps')) c' _) h'.objs.size _ b=_;rw[bz n3,bz n2,bz n1]
  have tO:H' P=ζ (.cD ps'):=by
   show upd (upd (upd H P (.cD ps')) c' _) h'.objs.size _ P=_;rw[bz hPa,bz hPc,gw]
  have ER:H' c'=ζ (.ext (pK c' q)):=by
   show upd (upd (upd H P (.cD ps')) c' _) h'.objs.size _ c'=_;rw[bz hca,gw]
  have Ly:H' h'.objs.size=ζ (.ext (o4 h'.objs.size o)):=gw;have old:∀b u,H b=ζ u->u6 u=θ->H' b=ζ u:=λb u e t=>by
   rw[pX b (λz=>by rw[z,hP]at e;cases e;cases t) (cX e hnc) (cX e hna)];exact e
  have kp:∀b ob,b≠P->s.heap.get? b=ζ ob->(h'.push o).get? b=ζ ob:=λb ob n e=>afY _ (hx b ob n e)
  have Zz:bZ X.prog X.w H' (h'.push o):=λb u e=>by
   by_cases h1:b=h'.objs.size
   ·subst h1;rw[Ly]at e;cases e;exact⟨aga _ hof,⟨_,aga _ hof⟩,λh1 h2 e k=>k _ e⟩
   ·by_cases h2:b=c'
    ·subst h2;rw[ER]at e;cases e;obtain⟨d,oc,vs,t,e0,e1,e2⟩:=id hrec;cases e0;refine⟨KJ hrec λo e=>afY _ e,⟨oc,afY _ e1⟩,λh1 h2 x k=>KJ x k⟩
    ·by_cases h3:b=P
     ·subst h3;rw[tO]at e;cases e;exact afY _ htb
     ·rw[pX b h3 h2 h1]at e;refine(I.hok b u e).stay (λd w hd z=>kp d w ?_ z) (λd z=>?_) λd xs z=>?_
      ·rcases hd with hd|hd
       ·rw[hd];exact h3
       ·intro z2;rw[z2,hP]at hd;cases hd
      ·exact old d _ z rfl
      ·exact old d _ z rfl
  have I':Inv X pins σ H' {s with heap:=h'.push o,toks:=tk}:=by
   refine I.step (g':=s.gens) (d':=s.drawn) (ch:=[]) (λ_ z=>nomatch z) (λb ob _ _ _ e n=>kp b ob (λz=>by rw[z,hP]at n;cases n) e) (λb ob _ _ _ e n=>⟨ob.slots,kp b ob (λz=>by rw[z,hP]at n;cases n) e⟩) (λb ob _ e n=>?_) (λb ob _ e=>?_) (λb xs e=>old b _ e rfl) (λb o' u e=>old b _ e rfl) (λb ps2 e=>?_) (λm hm=>?_) Zz I.bare
   ·have hb:=afV e;rw[pX b (λz=>by rw[z,hP]at n;cases n) (afX (af3 hb hge)) (afX (af3 hb hsz))]
    exact n
   ·by_cases hb:b=P
    ·subst hb;exact⟨_,afY _ htb⟩
    ·exact⟨ob,kp b ob hb e⟩
   ·by_cases hb:b=P
    ·subst hb;rw[hP]at e;cases e;exact⟨#[rawInt pos.line,rawInt pos.col,.ref c'],by rw[tO,hps]⟩
    ·refine⟨#[],?_⟩;rw[pX b hb (cX e hnc) (cX e hna),e];simp
   ·have hLP:X.env.locals≠P:=λz=>by have:=I.free;rw[z,hP]at this;cases this
    obtain⟨ol,es,ep,e,r⟩:=hm;exact⟨ol,es,ep,kp _ _ hLP e,r⟩
  refine h h'.objs.size H' _ I' hsz ⟨⟨o,c',Ly,⟨_,ctv,ho.symm⟩,ER⟩,old,λb hb e=>?_,λb ps2 nb e=>?_,⟨ps',tO,?_,λp v e=>?_⟩⟩
  ·rw[pX b (λz=>by rw[z,hP]at e;cases e) (afX (af3 hb hge)) (afX (af3 hb hsz))];exact e
  ·rw[pX b nb (cX e hnc) (cX e hna)];exact e
  ·rw[<-hps,ajR];exact F1 _ ht
  ·rw[<-hps,ajR]at e
   rcases LB ps.toList ht e with e|e
   ·obtain⟨d,e1,e2⟩:=hcs p v e;exact⟨d,e1,old d _ e2 rfl⟩
   ·exact⟨c',e,ER⟩
end
def fG(H:Hp) (F:Ψ->Option Obj):Hp:=λb=>match F b with
 |some o=>ζ (.cB o (.own 0))
 |none=>H b
def cN(H:Hp) (F:Ψ->Option Obj):Hp:=λb=>match F b with
 |some _=>η
 |none=>H b
section
variable {H H':Hp}{F:Ψ->Option Obj}{b:Ψ}{o:Obj}{u:HO}
theorem ni(h:F b=ζ o):fG H F b=ζ (.cB o (.own 0)):=by unfold fG;rw[h]
theorem jj(h:F b=η):fG H F b=H b:=by unfold fG;rw[h]
theorem qo(h:F b=ζ o):cN H F b=η:=by unfold cN;rw[h]
theorem jb(h:F b=η):cN H F b=H b:=by unfold cN;rw[h]
theorem Fc(hF:∀b o,F b=ζ o->H b=η) (h:H b=ζ u):F b=η:=by
 cases e:F b with
 |none=>rfl
 |some o=>rw[hF b o e]at h;cases h
theorem jM(hF:∀b o,F b=ζ o->H b=η) (h:H b=ζ u):fG H F b=ζ u:=by rw[jj (Fc hF h)];exact h
end
section
variable {X:Cx}{pins:List (Ψ×Obj)}{σ:St}{H H':Hp}{s s':Ω}{F:Ψ->Option Obj}
structure E9 (X:Cx) (H:Hp) (s:Ω) (F:Ψ->Option Obj):Prop where
 heap:∀b o,F b=ζ o->s.heap.get? b=ζ o
 free:∀b o,F b=ζ o->H b=η
 high:∀b o,F b=ζ o->X.s₀.heap.objs.size<=b
 loc:∀b o,F b=ζ o->b≠X.env.locals
theorem J3{P:τ}{w:υ}{h:ψ}(hok:bZ P w H h) (hF:∀b o,F b=ζ o->H b=η) (hh:∀b o,F b=ζ o->h.get? b=ζ o):bZ P w (fG H F) h:=λb u e=>by
 cases hb:F b with
 |some o =>
  rw[ni hb]at e;cases e;exact⟨hh b o hb,o,hh b o hb⟩
 |none =>
  rw[jj hb]at e;exact(hok b u e).stay (λ_ _ _ z=>z) (λc z=>jM hF z) λc xs z=>jM hF z
theorem J4(I:Inv X pins σ H s) (Z:E9 X H s F):mw X.prog X.w X.K X.mg X.base X.A X.stack s (fG H F):=by
 have e:=I.yT;have sz:X.base.objs.size<=X.s₀.heap.objs.size:=I.ok.gj;refine⟨e.frames,e.mod,λb o h=>?_,e.gj,e.fF,λb hb=>?_,J3 I.hok Z.free Z.heap,e.bare⟩
 ·obtain⟨h1,h2⟩:=e.bs b o h;refine⟨h1,?_⟩;cases hb:F b with
  |none=>rw[jj hb];exact h2
  |some ob=>exact absurd (af3 (afV h) (agf sz (Z.high b ob hb))) (agu _)
 ·cases hF:F b with
  |none=>rw[jj hF];exact e.ir b hb
  |some ob =>
   exfalso
   rcases afW.mp (I.mK b hb)with z|z
   ·exact Z.loc b ob hF z
   ·obtain⟨_,o2,ho,_⟩:=I.ok.fF.mem z;exact absurd (af3 (afV ho) (Z.high b ob hF)) (agu _)
theorem NS{fs:List Ψ}{h h':ψ}{P:τ}{w:υ}(hF:∀b o,F b=ζ o->H b=η) (hh:∀b o,F b=ζ o->h.get? b=ζ o) (hfs:∀b o,F b=ζ o->b∉fs) (un:Un fs [] (fG H F) H' h h') (hok:bZ P w H' h'):Un fs [] H (cN H' F) h h'/\bZ P w (cN H' F) h':=by
 have fz:∀b o,F b=ζ o->H' b=ζ (.cB o (.own 0)):=λb o e=>un.gf b o _ (ni e)
 have nn:∀{b:Ψ}{u:HO},H b=ζ u->F b=η:=λe=>Fc hF e
 refine⟨⟨λb o e n hb hx=>?_,λb o e n hb hx=>?_,λb o e n hx=>?_,un.there,λb xs e=>?_,λb o u e=>?_,λb ps e=>?_⟩,λb u e=>?_⟩
 ·cases hb':F b with
  |none=>exact un.keep b o e (by rw[jj hb'];exact n) hb hx
  |some ob =>
   have e1:=hh b ob hb';rw[e]at e1;cases e1;exact(hok b _ (fz b o hb')).1
 ·cases hb':F b with
  |none=>exact un.slot b o e (by rw[jj hb'];exact n) hb hx
  |some ob=>exact absurd hb (hfs b ob hb')
 ·cases hb':F b with
  |none=>rw[jb hb'];exact un.free b o e (by rw[jj hb'];exact n) hx
  |some ob=>exact qo hb'
 ·rw[jb (nn e)];exact un.tups b xs (jM hF e)
 ·rw[jb (nn e)];exact un.gf b o u (jM hF e)
 ·obtain⟨more,z⟩:=un.gx b ps (jM hF e);exact⟨more,by rw[jb (nn e)];exact z⟩
 ·cases hb:F b with
  |some ob=>rw[qo hb]at e;cases e
  |none =>
   rw[jb hb]at e;have st:∀{c:Ψ}{v:HO},H' c=ζ v->(∀o,v≠.cB o (.own 0))->cN H' F c=ζ v:=fun{c v} z n=>by
    cases hc:F c with
    |none=>rw[jb hc];exact z
    |some oc=>rw[fz c oc hc]at z;exact absurd (agb z).symm (n oc)
   exact(hok b u e).stay (λ_ _ _ z=>z) (λc z=>st z λ_ q=>nomatch q) λc xs z=>st z λ_ q=>nomatch q
theorem Qu{k:Nat}{f:Ψ}{fd:π}{ps:List Str}{sp:Sp}{us:List Δ}{vs:List V}{Q:VK}(G:bV X.prog X.w X.K X.mg X.base bP k f fd ps sp) (hr:cP k X.A) (hb:Binds X.K fd ps []) (I:Inv X pins σ H s) (Z:E9 X H s F) (r:Vals vs us)
  (h:sp vs (fG H F) (λv H'=>Q v (cN H' F)) E0):wpAny (model X.prog X.w) X.A (call (.ref f) us) (EP X pins σ Q) X.xe s:=by
 have hl:us.length=ps.length:=by rw[<-r.length];exact G.len _ _ _ _ h
 have hb':=hb s us I.dX (by rw[agW];exact hl)
 rw[agW]at hb';refine ahk (agS (G.run X.A X.stack s (fG H F) ⟨us,[]⟩ us vs _ E0 hr (J4 I Z) hb' r h) λr s' hq=>?_)
 cases r with
 |error e=>exact False.elim hq
 |ok fl =>
  cases fl with
  |ret u =>
   obtain⟨v,H',os,bare,un,hok,rv,q⟩:=hq;obtain⟨Ae,ZC⟩:=NS Z.free Z.heap (λb o e hb=>by
    have:=(J4 I Z).ir b hb;rw[ni e]at this;cases this) un hok
   exact⟨v,cN H' F,I.D6 os Ae ZC bare λb z=>absurd z (by simp),rv,q⟩
  |next=>exact False.elim hq
  |brk=>exact False.elim hq
  |cont=>exact False.elim hq
end
section
variable {K:ξ}{ρ ρ':List Ψ}{H H':Hp}{c c':aa}{F:Ψ->Option Obj}
theorem Fy(W:Wd K ρ H c) (k:∀b u,H b=ζ u->u6 u=θ->H' b=ζ u) (t:p7 K H'):Ext ρ H ρ H'/\Wd K ρ H' c:=by
 have X:Ext ρ H ρ H':=⟨λ_ _ e=>e,λa o e n z=>⟨k a o e z,n⟩⟩
 refine⟨X,W.nd,W.len,λj a cl e1 e2=>?_,t⟩
 have q:=W.ff j a cl e1 e2;cases cl with
 |lst l =>
  obtain⟨nr,xs,e,r⟩:=q;exact⟨nr,xs,k _ _ e rfl,aH.mono W X l xs r⟩
theorem Fz(W:Wd K ρ H c) (hF:∀b o,F b=ζ o->H b=η):Ext ρ H ρ (fG H F)/\Wd K ρ (fG H F) c :=
 Fy W (λb u e _=>jM hF e) (W.tab.mono (λ_ _ e=>jM hF e) λ_ _ e=>jM hF e)
theorem ja{b:Ψ}{u:HO}(hF:∀b o,F b=ζ o->H b=ζ (.cB o (.own 0))) (e:H b=ζ u) (n:∀o,u≠.cB o (.own 0)):cN H F b=ζ u:=by
 cases hc:F b with
 |none=>rw[jb hc];exact e
 |some oc=>rw[hF b oc hc]at e;exact absurd (agb e).symm (n oc)
mutual
theorem Rel.cN(hF:∀b o,F b=ζ o->H b=ζ (.cB o (.own 0))):∀(d:D) (v:V),fX d=Γ->Rel K ρ H d v->Rel K ρ (cN H F) d v
 |.aI,v,_,h=>h
 |.bl b,v,_,h=>h
 |.int i,v,_,h=>h
 |.str y,v,_,h=>h
 |.ty n,v,_,h=>h
 |.tup l,v,n,h=>by
  obtain⟨a,xs,e,s,r⟩:=h;exact⟨a,xs,e,ja hF s (λ_ z=>nomatch z),aH.cN hF l xs (by unfold fX at n;exact n) r⟩
 |.lst l,v,n,h=>by
  obtain⟨a,xs,e,s,r⟩:=h;exact⟨a,xs,e,⟨ja hF s.1 (λ_ z=>nomatch z),s.2⟩,aH.cN hF l xs (by unfold fX at n;exact n) r⟩
 |.ref k,v,_,h=>h
 |.bQ l,v,_,h=>by
  obtain⟨a,e,s⟩:=h;refine⟨a,e,?_⟩
  rcases s with⟨s,z⟩|s
  ·rcases s with s|⟨o,s⟩
   ·exact .inl ⟨.inl (ja hF s (λ_ z=>nomatch z)),z⟩
   ·exact .inl ⟨.inr ⟨o,ja hF s (λ_ z=>nomatch z)⟩,z⟩
  ·exact .inr s
 |.fn a n,v,_,h=>h
 |.gK,v,_,h=>by
  obtain⟨a,e,q⟩:=h;exact⟨a,e,ja hF q (λ_ z=>nomatch z)⟩
 |.dct ks,v,_,h=>by
  obtain⟨a,kvs,e,q,z⟩:=h;exact⟨a,kvs,e,ja hF q (λ_ z=>nomatch z),z⟩
 |.exc y,v,_,h=>by
  obtain⟨a,C,e,n,q⟩:=h;exact⟨a,C,e,n,ja hF q (λ_ z=>nomatch z)⟩
 |.lam _ _ _ _,v,n,h=>by unfold fX at n;cases n
theorem aH.cN(hF:∀b o,F b=ζ o->H b=ζ (.cB o (.own 0))):∀(l:List D) (xs:List V),gE l=Γ->aH K ρ H l xs->aH K ρ (cN H F) l xs
 |[],xs,_,h=>h
 |d::l,xs,n,h=>by
  obtain⟨y,r,e,h1,h2⟩:=h;unfold gE at n;rw[af5]at n;exact⟨y,r,e,Rel.cN hF d y n.1 h1,aH.cN hF l r n.2 h2⟩
end
theorem Fx(W:Wd K ρ H c) (hF:∀b o,F b=ζ o->H b=ζ (.cB o (.own 0))):Wd K ρ (cN H F) c:=by
 refine⟨W.nd,W.len,λj a cl e1 e2=>?_,W.tab.mono (λ_ _ e=>ja hF e (λ_ z=>nomatch z)) λ_ _ e=>ja hF e (λ_ z=>nomatch z)⟩
 have q:=W.ff j a cl e1 e2;cases cl with
 |lst l =>
  obtain⟨nr,xs,e,r⟩:=q;exact⟨nr,xs,ja hF e (λ_ z=>nomatch z),aH.cN hF l xs (xH l nr) r⟩
theorem aaT(x:Ext ρ (fG H F) ρ' H') (hF:∀b o,F b=ζ o->H b=η):Ext ρ H ρ' (cN H' F) :=
 ⟨x.pre,λa o e n t=>by
  obtain⟨h1,h2⟩:=x.keep a o (jM hF e) n t;exact⟨by rw[jb (Fc hF e)];exact h1,h2⟩⟩
theorem aaV(x:Ext ρ (cN H F) ρ' H') (W':Wd K ρ' H' c') (hF:∀b o,F b=ζ o->H b=ζ (.cB o (.own 0))) (hn:∀b o,F b=ζ o->H' b=η):Ext ρ H ρ' (fG H' F) :=
 ⟨x.pre,λa o e n t=>by
  cases hc:F a with
  |some oc =>
   have:=hF a oc hc;rw[e]at this;cases this;exact⟨ni hc,W'.nil (hn a oc hc)⟩
  |none =>
   obtain⟨h1,h2⟩:=x.keep a o (by rw[jb hc];exact e) n t
   exact⟨by rw[jj hc];exact h1,h2⟩⟩
end
end L2
namespace L2
open PySem PySem.Spec PyProof.Rows
structure gp (X:Cx) (ns:List Str) (js:List Nat) (scope:aaj):Prop where
 names:∀x∈scope.names,x.2=.free->X.env.kindOf x.1=ζ .cell\/X.env.kindOf x.1=ζ .free
 got:∀(i j:Nat) (x:Str),js[i]? = ζ j->ns[i]? = ζ x->(x,NameKind.free)∈scope.names/\X.N[j]? = ζ x/\(X.env.kindOf x=ζ .cell\/X.env.kindOf x=ζ .free)
 all:∀x,(x,NameKind.free)∈scope.names->x∈ns
def IU(XN:List Str) (xn:List (Str×aae)) (ns:List Str) (js:List Nat) (names:List (Str×aae)):Bool :=
 names.all (λx=>decide (x.2≠NameKind.free)||((decide (xn.lookup x.1=ζ NameKind.cell)||decide (xn.lookup x.1=ζ NameKind.free))&&decide (x.1∈ns))) &&
 (js.zip ns).all (λq=>decide ((q.2,NameKind.free)∈names)&&decide (XN[q.1]? = ζ q.2)&&(decide (xn.lookup q.2=ζ NameKind.cell)||decide (xn.lookup q.2=ζ NameKind.free)))
theorem gp.of{X:Cx}{ns:List Str}{js:List Nat}{scope:aaj}(h:IU X.N X.env.scope.names ns js scope.names=Γ):gp X ns js scope:=by
 unfold IU at h;simp only[af5,agc,decide_eq_true_eq,ahr]at h;obtain⟨h1,h2⟩:=h;refine⟨λx hx e=>?_,λi j x hj hx=>?_,λx hx=>?_⟩
 ·rcases h1 x hx with z|z
  ·exact absurd e z
  ·exact z.1
 ·have hm:(j,x)∈js.zip ns:=by
   have:(js.zip ns)[i]? = ζ (j,x):=by rw[ajl];exact⟨hj,hx⟩
   exact agk this
  obtain⟨⟨a,b⟩,d⟩:=h2 _ hm;exact⟨a,b,d⟩
 ·rcases h1 _ hx with z|z
  ·exact absurd rfl z
  ·exact z.2
section
variable {X:Cx}{pins:List (Ψ×Obj)}{σ:St}{H:Hp}{s:Ω}{ns:List Str}{js:List Nat}{scope:aaj}
abbrev lB(X:Cx) (scope:aaj):List (Str×Ψ):=fM X.env scope.names []
theorem gp.clos(S:gp X ns js scope) (I:Inv X pins σ H s):closureFor scope X.env=pure (lB X scope):=by
 have e:=zk (env:=X.env) scope.names [] λx hx hk=>I.ok.has x.1 (S.names x hx hk)
 show((forIn scope.names ([]:List (Str×Ψ)) fun(x:Str×aae) cs=>(if(x.2==NameKind.free)=Γ then do let a <-cellOf X.env x.1;pure (ForInStep.yield ((x.1,a)::cs))else pure (ForInStep.yield cs):Sem (ForInStep (List (Str×Ψ))))) >>= λcs=>pure cs)=_
 rw[e,pure_bind]
theorem gp.cap(S:gp X ns js scope) (I:Inv X pins σ H s) {x:Str}{c:Ψ}(h:(lB X scope).lookup x=ζ c):(x,NameKind.free)∈scope.names/\X.env.cells.lookup x=ζ c:=by
 rcases ET _ _ h with⟨a,b⟩|q
 ·refine⟨a,?_⟩;obtain⟨c',hc⟩:=I.ok.has x (S.names _ a rfl);rw[hc]at b ⊢;rw[b];rfl
 ·cases q
theorem gp.has(S:gp X ns js scope) (I:Inv X pins σ H s) {x:Str}(h:(x,NameKind.free)∈scope.names):∃c,(lB X scope).lookup x=ζ c:=ahG.mp (EU _ _ (.inr h))
theorem gp.cl(S:gp X ns js scope) (I:Inv X pins σ H s):vR (lB X scope) ns:=⟨λx y c h1 h2=>I.ok.inj x y c (S.cap I h1).2 (S.cap I h2).2,λx c h=>S.all x (S.cap I h).1⟩
open Classical in
def nh(cl:List (Str×Ψ)) (h:ψ):Ψ->Option Obj:=λb=>if ∃x,cl.lookup x=ζ b then h.get? b else η
theorem CK{cl:List (Str×Ψ)}{h:ψ}{b:Ψ}{o:Obj}(e:nh cl h b=ζ o):(∃x,cl.lookup x=ζ b)/\h.get? b=ζ o:=by
 unfold nh at e;split at e
 ·rename_i z;exact⟨z,e⟩
 ·cases e
theorem J2{cl:List (Str×Ψ)}{h:ψ}{b:Ψ}{o:Obj}{x:Str}(e:cl.lookup x=ζ b) (g:h.get? b=ζ o):nh cl h b=ζ o:=by
 unfold nh;rw[if_pos ⟨x,e⟩,g]
theorem gp.fz(S:gp X ns js scope) (I:Inv X pins σ H s) (hfn:∀x,X.fn x=Γ):E9 X H s (nh (lB X scope) s.heap):=by
 refine⟨λb o e=>(CK e).2,λb o e=>?_,λb o e=>?_,λb o e=>?_⟩
 all_goals
  obtain⟨⟨x,hx⟩,_⟩:=CK e;have hc:=(S.cap I hx).2
 ·exact I.fT x b hc
 ·exact I.ok.jl x b (hfn x) hc
 ·exact I.nA x b hc
theorem gp.cells(S:gp X ns js scope) (I:Inv X pins σ H s) (i j:Nat) (x:Str) (v:V) (hj:js[i]? = ζ j) (hx:ns[i]? = ζ x) (hv:σ[j]? = ζ (ζ v)):∃c oc u,(lB X scope).lookup x=ζ c/\nh (lB X scope) s.heap c=ζ oc/\oc.data=.cell (ζ u)/\RelV v u:=by
 obtain⟨h1,h2,h3⟩:=S.got i j x hj hx;obtain⟨c,hc⟩:=S.has I h1;have hce:=(S.cap I hc).2;obtain⟨m,hm,hl⟩:=I.loc;obtain⟨u,ru,lk⟩:=hl j x v h2 hv (h3.elim (λz=>.inr (.inl z)) λz=>.inr (.inr z))
 rcases lk with⟨k,_⟩|⟨_,c',hc',oc,ho,hd⟩
 ·rcases h3 with z|z<;>(rw[z]at k;cases k)
 ·rw[hce]at hc';cases hc';exact⟨c,oc,u,hc,J2 hc ho,hd,ru⟩
structure ad2 (H H':Hp) (P:Ψ) (q:Str) (e:ο) (cl:List (Str×Ψ)) (a:Ψ):Prop where
 at':∃o c,H' a=ζ (.ext (o4 a o))/\vM e o q c cl/\H' c=ζ (.ext (pK c q))
 keep:∀b u,H b=ζ u->u6 u=θ->H' b=ζ u
 tabs:∀b ps,b≠P->H b=ζ (.cD ps)->H' b=ζ (.cD ps)
 tab:TabAt H' P q
def OB(P:Ψ) (q:Str) (e:ο) (cl:List (Str×Ψ)):TE:=λ_ H Q=>TabAt H P q/\∀a H',ad2 H H' P q e cl a->Q (.ref a) H'
theorem S1{c P:Ψ}{q:Str}{params:aaH}{body:ο}{pos:Pos}(S:gp X ns js scope) (hcode:X.env.code=.ref c) (hq:X.env.qual++"<lambda>"=q) (hC:PySem.W.codeHdIn X.K c P=Γ) (hdef:defaultsOf params X.env=([],[])) :
  PE X (.Lambda params body scope pos) (OB P q (.Lambda params body scope pos) (lB X scope)):=λpins s σ H Q I h =>
 XX I hcode hq hC h.1 (S.clos I) hdef λa H' s' I' hge N=>⟨.ref a,H',I',rfl,h.2 a H' ⟨N.at',N.keep,N.tabs,N.tab⟩⟩
def OF(cl:List (Str×Ψ)) (ns:List Str) (js:List Nat) (sp:Sp) (t:TA):TE:=λσ H Q=>t σ H λvs H1=>vR cl ns->∀F:Ψ->Option Obj,(∀b o,F b=ζ o->H1 b=η) ->
 (∀(i j:Nat) (x:Str) (v:V),js[i]? = ζ j->ns[i]? = ζ x->σ[j]? = ζ (ζ v)->∃c oc u,cl.lookup x=ζ c/\F c=ζ oc/\oc.data=.cell (ζ u)/\RelV v u)->sp vs (fG H1 F) (λv H'=>Q v (cN H' F)) E0
theorem S7{x:Str}{st:aag}{ps:List Str}{f:Ψ}{fd:π}{k:Nat}{sp:Sp}{e:ο}{es:List ο}{t:TA}{p pos:Pos}(D:Def X.K X.mg x st ps f fd) (G:bV X.prog X.w X.K X.mg X.base bP k f fd ps sp) (hr:cP k X.A) (S:gp X ns js scope) (hfn:∀x,X.fn x=Γ) (ha:PA X (e::es) t) (hg:Gl X x:=by rfl)
  (hdb:(x==("__debug__":Str))=θ:=by decide) (he:μ (e::es) X.env=(θ,eval e X.env)::μ es X.env:=by rfl) (hpl:(aah pos (μ es X.env)).any (·.1)=θ:=by rfl) :
  PE X (.Call (.Name x p) (e::es) [] pos) (OF (lB X scope) ns js sp t):=by
 intro pins s σ H Q I h;refine ahl (rW I hg D.at' ?_ hdb);refine ait (h₀:=X.base) I.ok.mod.kh D.fn.kp (br (ha pos pins s σ H _ I h) λus s1 ⟨vs,H1,I1,r,q⟩=>⟨I1.dX,?_⟩) he hpl
 exact Qu G hr D.bd I1 (S.fz I1 hfn) r (q (S.cl I1) _ (λb o e=>(S.fz I1 hfn).free b o e) λi j x v h1 h2 h3=>S.cells I1 i j x v h1 h2 h3)
end
def getAll(e:Ev):List Nat->Option (List D)
 |[]=>ζ []
 |j::js=>match e[j]?,getAll e js with
  |some (ζ d),ζ l=>ζ (d::l)
  |_,_=>η
def sE(k:Nat) (m:List D->aa->R D) (d1:af) (E:ο) (ns:List Str) (js:List Nat):af:=λe c=>(d1 e c).bind λx c=>match getAll e js with
 |some l=>(m [x,.lam k E ns l] c).bind λv c=>if noRef v=Γ then .ok v c else .bad
 |none=>.bad
section
variable {X:Cx}{K:ξ}{ρ:List Ψ}{H Hf:Hp}{σ:St}
theorem Lq{e:Ev}{cl:List (Str×Ψ)}{F:Ψ->Option Obj}(Vv:c9 K ρ H e σ) (hV:∀d v,Rel K ρ H d v->Rel K ρ Hf d v) (hf:∀c o,F c=ζ o->Hf c=ζ (.cB o (.own 0))):∀(js:List Nat) (ns:List Str) (l:List D),js.length=ns.length->getAll e js=ζ l ->
  (∀(i j:Nat) (x:Str) (v:V),js[i]? = ζ j->ns[i]? = ζ x->σ[j]? = ζ (ζ v)->∃c oc u,cl.lookup x=ζ c/\F c=ζ oc/\oc.data=.cell (ζ u)/\RelV v u)->∃xs,iN Hf cl ns xs/\aH K ρ Hf l xs
 |[],[],l,_,h,_=>by
  unfold getAll at h;cases h;exact⟨[],rfl,rfl⟩
 |j::js,x::ns,l,hl,h,hc=>by
  unfold getAll at h;split at h
  ·rename_i d r hd hr;cases h;obtain⟨v,hv,rv⟩:=Vv.get j d hd;obtain⟨c,oc,u,h1,h2,h3,h4⟩:=hc 0 j x v rfl rfl hv;obtain⟨xs,h5,h6⟩:=Lq Vv hV hf js ns r (Nat.succ.inj hl) hr λi j x v a b d=>hc (i+1) j x v a b d
   exact⟨v::xs,⟨v,xs,c,oc,u,rfl,h1,hf c oc h2,h3,h4,h5⟩,v,xs,rfl,hV d v rv,h6⟩
  ·cases h
 |[],_::_,_,hl,_,_=>by cases hl
 |_::_,[],_,hl,_,_=>by cases hl
def A8(K:ξ):List (Str×Ψ):=o5.filterMap λx=>(PySem.W.tabIn K x).map λq=>(x,q.2)
def ug(K:ξ):Bool:=(A8 K).all λa=>(A8 K).all λb=>!(a.2==b.2)||(a.1==b.1)
theorem Od(h:ug K=Γ) {x y:Str}{c d P:Ψ}(hx:x∈o5) (hy:y∈o5) (tx:PySem.W.tabIn K x=ζ (c,P)) (ty:PySem.W.tabIn K y=ζ (d,P)):x=y:=by
 unfold ug at h;have m:∀{z:Str}{c:Ψ},z∈o5->PySem.W.tabIn K z=ζ (c,P)->(z,P)∈A8 K:=fun{z c} hz tz=>ahD.mpr ⟨z,hz,by rw[tz];rfl⟩
 have:=agc.mp (agc.mp h _ (m hx tx)) _ (m hy ty)
 simpa using this
theorem Wd.Wj{c:aa}{a:Ψ}{o:Obj}{u:HO}(W:Wd K ρ H c) (h:H a=ζ (.cB o u)):a∉ρ:=λm=>by
 obtain⟨ys,e⟩:=W.at' m;rw[e]at h;cases h
theorem Tn{kk:Nat}{x y:Str}{st:aag}{ps:List Str}{f c P:Ψ}{fd:π}{k:Nat}{m:List D->aa->R D}{e1 body:ο}{d1:af}{params:aaH}{scope:aaj}{ns:List Str}{js:List Nat}{p pos oY:Pos}
  (D:Def X.K X.mg x st ps f fd) (G:bV X.prog X.w X.K X.mg X.base bP k f fd ps (bX X.K 2 m)) (hr:cP k X.A) (ZU:aW X e1 d1) (S:gp X ns js scope) (hjn:js.length=ns.length) (hfn:∀x,X.fn x=Γ) (hy:y∈o5) (ht:PySem.W.tabIn X.K y=ζ (c,P)) (hap:ug X.K=Γ) (hcode:X.env.code=.ref c) (hq:X.env.qual++"<lambda>"=xV y) (hC:PySem.W.codeHdIn X.K c P=Γ)
  (hdef:defaultsOf params X.env=([],[]):=by rfl) (hg:Gl X x:=by rfl)
  (hdb:(x==("__debug__":Str))=θ:=by decide) (hs1:μ [e1,.Lambda params body scope oY] X.env=(θ,eval e1 X.env)::μ [.Lambda params body scope oY] X.env:=by exact cj rfl) (hs2:μ [.Lambda params body scope oY] X.env=(θ,eval (.Lambda params body scope oY) X.env)::μ [] X.env:=by exact cj rfl) (hpl:(aah pos (μ [.Lambda params body scope oY] X.env)).any (·.1)=θ:=by exact iA rfl) :
  aW X (.Call (.Name x p) [e1,.Lambda params body scope oY] [] pos) (sE kk m d1 (.Lambda params body scope oY) ns js) :=
 PE.imp (S7 D G hr S hfn (je ZU (je (S1 (c:=c) (P:=P) (q:=xV y) S hcode hq hC hdef) kQ hs2) hs1) hg hdb hs1 hpl) λσ H Q h=>by
  obtain⟨ρ,e,c0,W,V,pp⟩:=h;refine⟨ρ,e,c0,W,V,post.bind pp λx1 c1 aG H1 v _ W1 X1 r1 p1=>?_⟩
  have V1:=V.mono W X1;refine⟨W1.tab y hy c P ht,λa H' N=>?_⟩
  have Og:p7 X.K H':=λz hz d P' tz=>by
   by_cases hP:P'=P
   ·subst hP;rw[Od hap hz hy tz ht];exact N.tab
   ·exact(W1.tab z hz d P' tz).mono (λps e=>N.tabs P' ps hP e) λc φ e=>N.keep c _ e rfl
  obtain⟨X2,W2⟩:=Fy W1 N.keep Og;intro hcl F hF CB;obtain⟨X3,W3⟩:=Fz W2 hF;have LF:=X2.trans X3;split at p1
  ·rename_i l hl;obtain⟨xs,hxs,hrs⟩:=Lq (Hf:=fG H' F) V1 (λd v r=>Rel.mono W1 LF d v r) (λc o e=>ni e) js ns l hjn hl CB
   obtain⟨o,cc,ha,hobj,hcc⟩:=N.at';refine⟨aG,[x1,.lam kk _ ns l],c1,W3,⟨v,[.ref a],rfl,Rel.mono W1 LF x1 v r1,.ref a,[],rfl,⟨a,o,xV y,cc,_,xs,rfl,jM hF ha,hobj,jM hF hcc,hcl,hxs,hrs⟩,rfl⟩,rfl,?_⟩;cases hm:m [x1,.lam kk _ ns l] c1 with
   |bad=>rw[hm]at p1;exact p1.elim
   |ok d c2 =>
    rw[hm,R.az]at p1;split at p1
    ·rename_i hn;intro ρ' H4 b W4 X4 r4;have fz:∀b o,F b=ζ o->H4 b=ζ (.cB o (.own 0)):=λb o e=>(X4.keep b _ (ni e) (W3.Wj (ni e)) rfl).1
     exact p1 ρ' (cN H4 F) b (Fx W4 fz) (X2.trans (aaT X4 hF)) (Rel.cN fz d b (HW d hn) r4)
    ·exact p1.elim
  ·exact p1.elim
end
def Mt(s:Ω) (H:Hp) (outer:List Env) (cl:List (Str×Ψ)) (ns:List Str) (cs:List V):Prop :=
 cs.length=ns.length/\∀(i:Nat) (x:Str),ns[i]? = ζ x->∃v c u,cs[i]? = ζ v/\cl.lookup x=ζ c/\s.heap.IsCell c (ζ u)/\RelV v u/\H c=η/\c∉frs outer
def tS(P:τ) (w:υ) (K:ξ) (mg:Str->Option Δ) (base:ψ) (k:Nat) (E:ο) (ns:List Str) (n:Nat) (sp:Sp):Prop :=
 ∀(A:χ) (outer:List Env) (s:Ω) (H:Hp) (a:Ψ) (o:Obj) (q:Str) (cc:Ψ) (cl:List (Str×Ψ)) (us:List Δ) (vs cs:List V) (Q:VK),cP k A->mw P w K mg base A outer s H->s.heap.get? a=ζ o->vM E o q cc cl->s.heap.CodeRec (.ref cc) q->vR cl ns ->
  Mt s H outer cl ns cs->Vals vs us->vs.length=n->sp (vs++cs) H Q E0->codeAny (model P w) A (.call (.ref a) ⟨us,[]⟩) (CR bP outer P w H s Q E0) s
def uY(P:τ) (w:υ) (K:ξ) (mg:Str->Option Δ) (base:ψ) (N:List Str) (qual:Str) (scope:aaj) (f:Ψ) (cd:Δ) (cl:List (Str×Ψ)) (A:χ) (outer:List Env) (s:Ω) (H:Hp):Cx where
 prog:=P
 w:=w
 K:=K
 mg:=mg
 base:=base
 A:=A.deeper (PySem.W.envX qual scope s.heap.objs.size f cd cl)
 N:=N
 s₀:=s
 H₀:=H
 env:=PySem.W.envX qual scope s.heap.objs.size f cd cl
 outer:=outer
 stack:=PySem.W.envX qual scope s.heap.objs.size f cd cl::outer
 ex:=[]
 calm:=Γ
 fn:=λ_=>θ
 pn:=[]
 xe:=λ_ _=>False
structure vN (ps ns:List Str) (scope:aaj):Prop where
 kind:scope.kind=.function
 co:scope.isCoroutine=θ
 gen:scope.isGenerator=θ
 nd:(ps++ns).Nodup
 par:∀x∈ps,scope.names.lookup x=ζ .local
 cap:∀x∈ns,scope.names.lookup x=ζ .free
 HR:∀y∈scope.names,y.2≠.cell
 free:∀y∈scope.names,y.2=.free->y.1∈ns
theorem vN.of{ps ns:List Str}{scope:aaj}(h1:scope.kind=.function) (h2:scope.isCoroutine=θ) (h3:scope.isGenerator=θ)
  (h:(decide (ps++ns).Nodup&&ps.all (λx=>decide (scope.names.lookup x=ζ NameKind.local))&&ns.all (λx=>decide (scope.names.lookup x=ζ NameKind.free))&&scope.names.all (λy=>decide (y.2≠NameKind.cell)&&(decide (y.2≠NameKind.free)||decide (y.1∈ns))))=Γ):vN ps ns scope:=by
 simp only[af5,agc,decide_eq_true_eq,ahr]at h;obtain⟨⟨⟨a,b⟩,c⟩,d⟩:=h;exact⟨h1,h2,h3,a,b,c,λy hy=>(d y hy).1,λy hy e=>(d y hy).2.elim (λz=>absurd e z) id⟩
theorem My{x:Str}:∀{ps:List Str}{us:List Δ},x∉ps->(ps.zip us).reverse.lookup x=η:=fun{ps us} h=>by
 cases e:(ps.zip us).reverse.lookup x with
 |none=>rfl
 |some v=>exact absurd (ahm (aiY.mp (agP e))).1 h
theorem IL{x:Str}{v:Δ}:∀{l m:List (Str×Δ)},l.lookup x=η->(l++m).lookup x=m.lookup x
 |[],_,_=>rfl
 |(y,u)::l,m,h=>by
  rw[ags]at h;rw[ahx,ags];cases hb:x==y with
  |true=>rw[hb]at h;cases h
  |false=>rw[hb]at h;exact IL (v:=v) h
theorem IK{x:Str}{v:Δ}:∀{l m:List (Str×Δ)},l.lookup x=ζ v->(l++m).lookup x=ζ v
 |(y,u)::l,m,h=>by
  rw[ags]at h;rw[ahx,ags];cases hb:x==y with
  |true=>rw[hb]at h;exact h
  |false=>rw[hb]at h;exact IK h
theorem Ff{x:Str}{v:Δ}:∀{ps:List Str}{us:List Δ}{i:Nat},ps.Nodup->ps[i]? = ζ x->us[i]? = ζ v->(ps.zip us).reverse.lookup x=ζ v
 |p::ps,u::us,0,nd,h1,h2=>by
  cases h1;cases h2;rw[ajS,aho,IL (v:=v) (My (ag9.mp nd).1)];simp
 |p::ps,u::us,i+1,nd,h1,h2=>by
  rw[ajS,aho];exact IK (Ff (i:=i) (ag9.mp nd).2 (by simpa using h1) (by simpa using h2))
 |[],_,_,_,h1,_=>by simp at h1
 |_::_,[],_,_,_,h2=>by simp at h2
theorem XW{P:τ}{w:υ}{K:ξ}{mg:Str->Option Δ}{base:ψ}{k:Nat}{params:aaH}{body:ο}{scope:aaj}{pos:Pos}{ps ns:List Str}{sp:Sp}(S:vN ps ns scope)
  (hbind:∀(q:Str) (cl:List (Str×Ψ)) (pm cdv ct:Δ) (us:List Δ),us.length=ps.length->bindArgs (PySem.W.kla_fn "<lambda>" q params body scope cl pm cdv ct) ⟨us,[]⟩=pure (ps.zip us))
  (hb:∀(q:Str) (f:Ψ) (cd:Δ) (cl:List (Str×Ψ)) (A:χ) (outer:List Env) (s:Ω) (H:Hp) (vs:List V) (Q:VK),cP k (A.deeper (PySem.W.envX q scope s.heap.objs.size f cd cl))->sp vs H Q E0->∃t,PE (uY P w K mg base (ps++ns) q scope f cd cl A outer s H) body t/\t (vs.map ζ) H Q) :
  tS P w K mg base (k+1) (.Lambda params body scope pos) ns ps.length sp:=by
 intro A outer s H a o q cc cl us vs cs Q hr e0 ho hobj hcd hcl hcap rv hlen jL;obtain⟨pm,ctv,rfl⟩:=hobj;have KX:K.In s.heap:=e0.mod.kh.keeps λb o e=>(e0.bs b o e).1
 have lim:s.heap.NoLimit:=e0.mod.nolimit.keeps λb o e=>(e0.bs b o e).1
 have Zq:us.length=ps.length:=by rw[<-rv.length];exact hlen
 refine PySem.W.kla_callFunE hr.depth ho rfl S.co S.gen rfl hcd ?_;rw[hbind q cl pm (.ref cc) ctv us Zq];have Wn:ps.Nodup:=(ah6.mp S.nd).1;refine afT (wpAny_newFunctionEnv S.HR (λy hy=>S.par y.1 (ahm hy).1) (λh₁ hns m9=>⟨lim.fresh _ m9,?_⟩) S.kind)
 show codeAny _ _ (.expr body (PySem.W.envX q scope s.heap.objs.size a (.ref cc) cl)) _ _;have hk₁:∀b ob,s.heap.get? b=ζ ob->h₁.get? b=ζ ob:=λb ob e=>m9.extBut b ob (afX (afV e)) (afY _ e)
 obtain⟨t,ht,hq⟩:=hb q a (.ref cc) cl A outer s H (vs++cs) Q (hr.deeper _) jL;have kW:∀b:Ψ,b∉(uY P w K mg base (ps++ns) q scope a (.ref cc) cl A outer s H).ex:=λb z=>absurd (show b∈([]:List Ψ)from z) (by simp)
 have JL:∀x c,cl.lookup x=ζ c->∃v u,s.heap.IsCell c (ζ u)/\RelV v u/\H c=η:=λx c e=>by
  obtain⟨i,hi,ei⟩:=ag5.mp (hcl.2 x c e);obtain⟨v,c',u,_,h2,h3,h4,h5,_⟩:=hcap.2 i x (by rw[af2 hi,ei])
  rw[e]at h2;cases h2;exact⟨v,u,h3,h4,h5⟩
 have IZ:∀{c:Ψ}{u:Option Δ},s.heap.IsCell c u->h₁.IsCell c u:=fun{c u} ⟨o,e,d⟩=>⟨o,hk₁ c o e,d⟩
 have I:Inv (uY P w K mg base (ps++ns) q scope a (.ref cc) cl A outer s H) [] ((vs++cs).map ζ) H {s with heap:=h₁,toks:=s.toks+(ps.zip us).length}:=by
  refine⟨⟨e0.mod,S.kind,rfl,rfl,afU _,hcl.1,λx hx=>?_,λx c h=>absurd h (by simp[uY]),λ_=>hr.hd,aiu e0.frames,.inr ⟨rfl,rfl⟩,λb z=>absurd z (kW b),e0.bs,e0.gj,λb _ _=>kW b,λb z=>absurd z (kW b),e0.fF,e0.ir⟩,
   rfl,e0.bare,Un.kept hk₁,⟨_,hns,λi x v h1 h2 h3=>?_⟩,λx c h=>?_,e0.hok.fresh (afU _),λx c h=>?_,λp hp=>absurd (show p∈([]:List (Ψ×Obj))from hp) (by simp),e0.hok.kept hk₁,?_⟩
  ·have hx:scope.names.lookup x=ζ .cell\/scope.names.lookup x=ζ .free:=hx
   rcases hx with hx|hx
   ·exact absurd rfl (S.HR _ (agP hx))
   ·have hm:=S.free _ (agP hx) rfl;obtain⟨i,hi,ei⟩:=ag5.mp hm;obtain⟨v,c',u,_,h2,_⟩:=hcap.2 i x (by rw[af2 hi,ei])
    exact⟨c',h2⟩
  ·have h1:(ps++ns)[i]? = ζ x:=h1;have h2':(vs++cs)[i]? = ζ v:=by
    rw[agv]at h2;cases e:(vs++cs)[i]? with
    |none=>rw[e]at h2;cases h2
    |some b=>rw[e]at h2;cases h2;rfl
   by_cases hi:i<ps.length
   ·rw[agC hi]at h1;rw[agC (by omega)]at h2'
    obtain⟨u,hu,ru⟩:=rv.get h2';refine⟨u,ru,.inl ⟨S.par x (agk h1),?_⟩⟩;exact Ff Wn h1 hu
   ·rw[agG (by omega)]at h1
    rw[agG (by omega),hlen]at h2'
    obtain⟨v',c,u,e1,e2,e3,e4,_⟩:=hcap.2 _ x h1;rw[h2']at e1;cases e1;exact⟨u,e4,.inr ⟨.inr (S.cap x (agk h1)),c,e2,IZ e3⟩⟩
  ·obtain⟨v,u,h3,_⟩:=JL x c h;exact⟨_,IZ h3⟩
  ·obtain⟨v,u,_,_,h5⟩:=JL x c h;exact h5
  ·show((vs++cs).map ζ).length=(ps++ns).length;rw[af7,ago,ago,hlen,hcap.1]
 refine PySem.W.kla_codeExpr (agh (ht [] _ _ H Q I hq) (λu s' hs=>?_) λe s' hs=>False.elim hs)
 obtain⟨v,H',J,ru,q⟩:=hs;exact⟨v,H',J.os,J.bare,J.base,J.hok,ru,q⟩
section
variable {M:Model}{A:χ}{E:Δ->Ω->Prop}{s:Ω}{env:Env}{pos:Pos}{Q:Δ->Ω->Prop}
theorem acU{a:Ψ}{o:Obj}{fd:π}{e:ο}{rest:List ο}(hd:o.data=.func fd) (h:wpAny M A (spliced (aah pos (μ (e::rest) env))) (λvs s₁=>s₁.heap.get? a=ζ o/\wpAny M A (call (.ref a) ([]++vs)) Q E s₁) E s)
  (he:μ (e::rest) env=(θ,eval e env)::μ rest env) (hplain:(aah pos (μ rest env)).any (·.1)=θ) :
  wpAny M A (callWith pos (.ref a) [] (aah pos (μ (e::rest) env)) []) Q E s:=by
 rw[he]at h ⊢;refine PySem.W.callWith_of (P:=λh=>h.get? a=ζ o) (by show((θ||(aah pos (μ rest env)).any (·.1))||false)=θ;rw[hplain];rfl) (λh e=>⟨.frame,.inl rfl,?_⟩) (PySem.Calls.evalArgs_plain h)
 obtain⟨oc,od,dt,sl⟩:=o;cases hd;exact(ajr (part:=η) e).andThen PySem.W.Looks.now
end
section
variable {X:Cx}{pins:List (Ψ×Obj)}{σ:St}{H H':Hp}{s s':Ω}{F:Ψ->Option Obj}
theorem NT{P:τ}{w:υ}{h:ψ}(hok:bZ P w H h) (hF:∀b o,F b=ζ o->H b=ζ (.cB o (.own 0))):bZ P w (cN H F) h:=λb u e=>by
 cases hb:F b with
 |some o=>rw[qo hb]at e;cases e
 |none =>
  rw[jb hb]at e;exact(hok b u e).stay (λ_ _ _ z=>z) (λc z=>ja hF z λ_ q=>nomatch q) λc xs z=>ja hF z λ_ q=>nomatch q
theorem ud{b:Ψ}(h:H b=η):cN H F b=η:=by
 unfold cN;split<;>first|rfl|exact h
theorem Qt{k n:Nat}{Ex:ο}{ns:List Str}{sp:Sp}{a cc:Ψ}{o:Obj}{q:Str}{cl:List (Str×Ψ)}{us:List Δ}{vs cs:List V}{Q:VK}(G:tS X.prog X.w X.K X.mg X.base k Ex ns n sp) (hr:cP k X.A) (I:Inv X pins σ H s)
  (ha:H a=ζ (.ext (o4 a o))) (hobj:vM Ex o q cc cl) (hcc:H cc=ζ (.ext (pK cc q))) (hcl:vR cl ns) (hcs:iN H cl ns cs) (r:Vals vs us) (hn:vs.length=n)
  (h:∀F:Ψ->Option Obj,(∀b o,F b=ζ o->H b=ζ (.cB o (.own 0)))->sp (vs++cs) (cN H F) (λv H'=>(∀b o,F b=ζ o->H' b=η)->Q v (fG H' F)) E0) :
  wpAny (model X.prog X.w) X.A (call (.ref a) us) (EP X pins σ Q) X.xe s:=by
 have hF:∀b ob,nh cl s.heap b=ζ ob->H b=ζ (.cB ob (.own 0)):=λb ob e=>by
  obtain⟨⟨x,hx⟩,hg⟩:=CK e;obtain⟨i,hi,ei⟩:=ag5.mp (hcl.2 x b hx);obtain⟨v,c,oc,u,_,h2,h3,_⟩:=hcs.get (i:=i) (x:=x) (by rw[af2 hi,ei])
  rw[hx]at h2;cases h2;have:=(I.hok b _ h3).1;rw[hg]at this;cases this;exact h3
 generalize hFd:nh cl s.heap=F at hF
 have e:=I.yT;have e0:mw X.prog X.w X.K X.mg X.base X.A X.stack s (cN H F):=⟨e.frames,e.mod,λb o h=>⟨(e.bs b o h).1,ud (e.bs b o h).2⟩,e.gj,e.fF,λb hb=>ud (e.ir b hb),NT I.hok hF,e.bare⟩
 have nf:∀b ob,F b=ζ ob->b∉frs X.stack:=λb ob z hb=>by
  have:=I.wB b hb;rw[hF b ob z]at this;cases this
 have cap:Mt s (cN H F) X.stack cl ns cs:=by
  refine⟨hcs.length,λi x hx=>?_⟩
  obtain⟨v,c,oc,u,h1,h2,h3,h4,h5⟩:=hcs.get hx;have hg:=(I.hok c _ h3).1;have hf:F c=ζ oc:=by rw[<-hFd];exact J2 h2 hg
  exact⟨v,c,u,h1,h2,⟨oc,hg,h4⟩,h5,qo hf,nf c oc hf⟩
 refine ahk (agS (G X.A X.stack s (cN H F) a o q cc cl us vs cs _ hr e0 (I.hok a _ ha).1 hobj (I.hok cc _ hcc).1 hcl cap r hn (h F hF)) λrr s' hq=>?_)
 cases rr with
 |error e=>exact False.elim hq
 |ok fl =>
  cases fl with
  |next=>exact False.elim hq
  |brk=>exact False.elim hq
  |cont=>exact False.elim hq
  |ret u =>
   obtain⟨v,H',os,bare,un,hok,rv,q⟩:=hq;have gF:∀b ob,F b=ζ ob->s.heap.get? b=ζ ob:=λb ob z=>(I.hok b _ (hF b ob z)).1
   have hn':∀b ob,F b=ζ ob->H' b=η:=λb ob z=>un.free b ob (gF b ob z) (qo z) (by simp)
   have hg':∀b ob,F b=ζ ob->s'.heap.get? b=ζ ob:=λb ob z=>un.keep b ob (gF b ob z) (qo z) (nf b ob z) (by simp)
   have Fn:∀{b:Ψ},H b=η->F b=η:=fun{b} z=>by
    cases e:F b with
    |none=>rfl
    |some ob=>rw[hF b ob e]at z;cases z
   have old:∀{b:Ψ}{u:HO},H b=ζ u->(∀o,u≠.cB o (.own 0))->F b=η/\cN H F b=ζ u:=fun{b u} z nq=>by
    cases e:F b with
    |none=>exact⟨rfl,by rw[jb e];exact z⟩
    |some ob=>rw[hF b ob e]at z;exact absurd (agb z).symm (nq ob)
   have Ae:Un (frs X.stack) [] H (fG H' F) s.heap s'.heap:=by
    refine⟨λb o e n hb hx=>un.keep b o e (ud n) hb hx,λb o e n hb hx=>un.slot b o e (ud n) hb hx,λb o e n hx=>?_,un.there,λb xs e=>?_,λb o u e=>?_,λb ps e=>?_⟩
    ·rw[jj (Fn n)];exact un.free b o e (ud n) hx
    ·obtain⟨h1,h2⟩:=old e λ_ z=>nomatch z
     rw[jj h1];exact un.tups b xs h2
    ·cases z:F b with
     |some ob =>
      have:=hF b ob z;rw[e]at this;cases this;exact ni z
     |none=>rw[jj z];exact un.gf b o u (by rw[jb z];exact e)
    ·obtain⟨h1,h2⟩:=old e λ_ z=>nomatch z
     rw[jj h1];exact un.gx b ps h2
   exact⟨v,fG H' F,I.D6 os Ae (J3 hok hn' hg') bare λb z=>absurd z (by simp),rv,q hn'⟩
end
open Classical in
def pH(i n:Nat) (cD:List (ο×List Str×(List D->aa->R D))) (a:aj):af:=λe c=>match e[i]? with
 |some (ζ (.lam k E ns l))=>match cD[k]? with
  |some t=>if E=t.1/\ns=t.2.1 then(a e c).bind λxs c=>if xs.length=n/\gE xs=Γ/\gE l=Γ then t.2.2 (xs++l) c else .bad else .bad
  |none=>.bad
 |_=>.bad
theorem To{X:Cx}(i:Nat) {n:Nat}{cD:List (ο×List Str×(List D->aa->R D))}{x:Str}{e:ο}{es:List ο}{da:aj}{p pos:Pos}(hT:∀t∈cD,∃k,tS X.prog X.w X.K X.mg X.base k t.1 t.2.1 n (bX X.K (n+t.2.1.length) t.2.2)/\cP k X.A) (ha:gX X (e::es) da)
  (hN:X.N[i]? = ζ x:=by rfl) (hv:vH X.env.scope x:=by first|exact Or.inl rfl|exact Or.inr (Or.inl rfl)|exact Or.inr (Or.inr rfl)) (hd:(x==("__debug__":Str))=θ:=by decide)
  (hcd:(x==("__classdict__":Str))=θ:=by decide) (he:μ (e::es) X.env=(θ,eval e X.env)::μ es X.env:=by exact cj rfl) (hpl:(aah pos (μ es X.env)).any (·.1)=θ:=by exact iA rfl) :
  aW X (.Call (.Name x p) (e::es) [] pos) (pH i n cD da):=by
 intro pins s σ H Q I h;obtain⟨ρ,ev,c,W,Vv,q⟩:=h;unfold pH at q;split at q
 ·rename_i kk Ex ns l hf;obtain⟨v,hσ,rl⟩:=Vv.get i _ hf;obtain⟨a,o,qn,cc,cl,cs,rfl,ha1,hobj,hcc,hcl,hcs,hrs⟩:=id rl;split at q
  ·rename_i t ht;split at q
   ·rename_i Zn;obtain⟨rfl,rfl⟩:=Zn;obtain⟨k,G,hr⟩:=hT _ (agk ht);refine ahl (br (AH hN hv hd hcd pins s σ H (λv H1=>v=.ref a/\H1=H) I ⟨_,hσ,rfl,rfl⟩) λu s1 ⟨v,H1,I1,r1,q1⟩=>?_)
    obtain⟨rfl,rfl⟩:=q1;cases r1;have hdata:∃fd,o.data=.func fd:=by
     cases hE:t.1 with
     |Lambda params body scope lp =>
      rw[hE]at hobj;obtain⟨pm,ctv,rfl⟩:=hobj;exact⟨_,rfl⟩
     |_=>rw[hE]at hobj;exact hobj.elim
    obtain⟨fd,hdata⟩:=hdata;refine acU hdata (br (ha pos pins s1 σ H1 (λvs H2=>∃aG xs c1,Wd X.K aG H2 c1/\Ext ρ H1 aG H2/\aH X.K aG H2 xs vs/\xs.length=n/\gE xs=Γ/\gE l=Γ/\post X.K (Rel X.K) (t.2.2 (xs++l) c1) aG H2 Q) I1 ⟨ρ,ev,c,W,Vv,post.bind q λxs c1 aG H2 vs _ W1 X1 r1 p1=>?_⟩) λus s2 ⟨vs,H2,I2,r2,aG,xs,c1,W1,X1,rx,hl,n1,n2,p1⟩=>?_) he hpl
    ·split at p1
     ·rename_i hc;exact⟨aG,xs,c1,W1,X1,r1,hc.1,hc.2.1,hc.2.2,p1⟩
     ·exact p1.elim
    ·obtain⟨a',o',qn',cc',cl',cs',ea,ha2,ZG,ZX,ZV,JE,Jv⟩:=Rel.mono W X1 _ _ rl;cases ea;have eo:o=o':=by
      have e1:=(X1.keep a _ ha1 (λm=>by obtain⟨ys,z⟩:=W.at' m;rw[z]at ha1;cases ha1) rfl).1
      have g1:=(I2.hok a _ e1).1;have g2:=(I2.hok a _ ha2).1;have g1':s2.heap.get? a=ζ o:=g1;have J1:s2.heap.get? a=ζ o':=g2;rw[g1']at J1;exact agb J1
     subst eo;refine⟨(I2.hok a _ ha2).1,?_⟩;refine Qt (cs:=cs') G hr I2 ha2 ZG ZX ZV JE r2 (by rw[rx.length];exact hl) λF hF=>?_
     refine⟨aG,xs++l,c1,Fx W1 hF,aH.append (aH.cN hF xs vs n1 rx) (aH.cN hF l cs' n2 Jv),by rw[ago,hl,<-Jv.length,JE.length],?_⟩
     cases hm:t.2.2 (xs++l) c1 with
     |bad=>rw[hm]at p1;exact p1.elim
     |ok d c2 =>
      rw[hm]at p1;intro ρ' H4 b W4 X4 r4 Jy;obtain⟨X5,W5⟩:=Fz W4 Jy;exact p1 ρ' (fG H4 F) b W5 (aaV X4 W4 hF Jy) (Rel.mono W4 X5 d b r4)
   ·exact q.elim
  ·exact q.elim
 ·exact q.elim
@[simp] theorem MT(i n:Nat) (cD:List (ο×List Str×(List D->aa->R D))) (a:aj) (e:Ev) (c:aa) {k:Nat}{Ex:ο}{ns:List Str}{l:List D}{m:List D->aa->R D}(h:e[i]? = ζ (ζ (.lam k Ex ns l))) (ht:cD[k]? = ζ (Ex,ns,m)):pH i n cD a e c=(a e c).bind λxs c=>if xs.length=n/\gE xs=Γ/\gE l=Γ then m (xs++l) c else .bad:=by
 unfold pH;rw[h];dsimp only;rw[ht];dsimp only;rw[if_pos ⟨rfl,rfl⟩]
def xW(d:af):List D->aa->R D:=λxs c=>d (xs.map ζ) c
theorem QV{K:ξ}{ρ:List Ψ}{H:Hp}{xs:List D}{vs:List V}(r:aH K ρ H xs vs):c9 K ρ H (xs.map ζ) (vs.map ζ):=by
 refine⟨λi d h=>?_,by rw[af7,af7,r.length]⟩
 rw[agv]at h;cases e:xs[i]? with
 |none=>rw[e]at h;cases h
 |some y =>
  rw[e]at h;cases h;obtain⟨v,hv,rv⟩:=r.get e;exact⟨v,by rw[agv,hv];rfl,rv⟩
theorem XZ{P:τ}{w:υ}{K:ξ}{mg:Str->Option Δ}{base:ψ}{k:Nat}{params:aaH}{body:ο}{scope:aaj}{pos:Pos}{ps ns:List Str}{d:af}(S:vN ps ns scope)
  (hbind:∀(q:Str) (cl:List (Str×Ψ)) (pm cdv ct:Δ) (us:List Δ),us.length=ps.length->bindArgs (PySem.W.kla_fn "<lambda>" q params body scope cl pm cdv ct) ⟨us,[]⟩=pure (ps.zip us))
  (hb:∀(q:Str) (f:Ψ) (cd:Δ) (cl:List (Str×Ψ)) (A:χ) (outer:List Env) (s:Ω) (H:Hp),cP k (A.deeper (PySem.W.envX q scope s.heap.objs.size f cd cl))->aW (uY P w K mg base (ps++ns) q scope f cd cl A outer s H) body d) :
  tS P w K mg base (k+1) (.Lambda params body scope pos) ns ps.length (bX K (ps.length+ns.length) (xW d)) :=
 XW S hbind λq f cd cl A outer s H vs Q hr h=>⟨_,hb q f cd cl A outer s H hr,by
  obtain⟨ρ,xs,c,W,r,hl,p⟩:=h;exact⟨ρ,xs.map ζ,c,W,QV r,p⟩⟩
section
variable {P:τ}{w:υ}{K:ξ}{mg:Str->Option Δ}{base:ψ}
theorem aaN{x:Str}{st:aag}{f:Ψ}{fd:π}{N ps:List Str}{k n m:Nat}{own:Bool}{d:ah}(F:jU K x x st f fd) (hn:Ξ K Θ x=ζ (ζ (.ref f))) (S:cC N ps (aX st)) (hN:N.length=n) (hm:ps.length=m)
  (hb:∀(cdv:Δ) (A:χ) (outer:List Env) (s:Ω) (H:Hp) (E:XK),(∀c P,PySem.W.tabIn K x=ζ (c,P)->cdv=.ref c)->cP k (A.deeper (envOfC x (aX st) s.heap.objs.size f cdv))->b7 (fu bP P w K mg base N x (aX st) f cdv A outer s H E).fj (ck st) d) :
  bV P w K mg base bP (k+1) f fd ps (bX K m (cy n own d)):=by
 obtain⟨oc,od,kV,doc,pm,an,ze,ct,osl,hfd,lk,hcd⟩:=F.ex;have key:∀(cdv:Δ),(∀(A:χ) (outer:List Env) (s:Ω) (H:Hp) (E:XK),cP k (A.deeper (envOfC x (aX st) s.heap.objs.size f cdv))->b7 (fu bP P w K mg base N x (aX st) f cdv A outer s H E).fj (ck st) d)->cdv=ze->bV P w K mg base bP (k+1) f fd ps (bX K m (cy n own d)):=by
  intro cdv hb' e;subst e;subst hN;subst hm;subst hfd;refine CN lk hcd S (λvs H Q E h=>?_) λA outer s H vs Q E hr h=>⟨_,eT.fj (hb' A outer s H E hr),?_⟩
  ·obtain⟨ρ,xs,c,W,r,hl,p⟩:=h;exact r.length.trans hl
  ·obtain⟨ρ,xs,c,W,r,hl,p⟩:=h;refine⟨ρ,cg N.length xs,c,W,c9.start r,post.bind p λfl c1 aG H1 b _ W1 X1 r1 p1=>?_⟩
   cases fl with
   |nx e1 =>
    obtain⟨σ1,rfl,V1⟩:=r1;exact sf (v:=.aI) (x:=.aI) (H1:=H1) W W1 X1 rfl (by
     unfold cy at p;exact id (α:=post K (Rel K) (cY own c.length .aI c1) ρ H Q) (by
      rename_i he;rw[he]at p;exact p))
   |rt d =>
    obtain⟨v,rfl,V1⟩:=r1;exact sf (v:=d) (x:=v) (H1:=H1) W W1 X1 V1 (by
     unfold cy at p;rename_i he;rw[he]at p;exact p)
   |bk e1=>exact p1.elim
   |ct e1=>exact p1.elim
 refine key ze (λA outer s H E hr=>hb ze A outer s H E (λc P' ht=>?_) hr) rfl
 unfold PySem.W.tabIn at ht;rw[hn]at ht;dsimp only at ht;rw[lk,hfd]at ht;dsimp only at ht;cases ze with
 |ref c' =>
  dsimp only at ht;split at ht
  ·split at ht
   ·cases ht;rfl
   ·cases ht
  ·cases ht
 |_=>cases ht
end
def ad0(H:Hp) (ts:List Ψ):Prop:=∀b,H b=η\/(∃o xs,H b=ζ (.cB o (.lst xs)))\/(b∈ts/\H b=ζ (.cD #[]))
theorem XU{P:τ}{w:υ}{K:ξ}{mg mb:Str->Option Δ}{k:Nat}{fa a:Ψ}{fd:π}{x:Str}{sp:Sp}{s₁:Ω}{vs:List Δ}{ns:List Int}{ts:List (Ψ×Ψ)}
  (KX:K.In s₁.heap) (hns:s₁.heap.Ns Θ mg) (hb:s₁.heap.Ns builtinsNs mb) (ZZ:∀x:Str,x≠"__name__"->mb x=bootBuiltins x) (hlim:s₁.heap.NoLimit)
  (hbm:∃bm ob,mg "__builtins__"=ζ (.ref bm)/\bm≠builtinsNs/\s₁.heap.get? bm=ζ ob/\ob.cls=.type "module"/\ob.dict=ζ builtinsNs/\ob.data=.plain) (hg:s₁.gens=#[])
  (ha:s₁.heap.get? a=ζ {cls:=.type "list",data:=.seq vs.toArray}) (hi:aaG vs ns) (hl:ns.length<=ε) (hr:cP k callerA)
  (lq:∀q∈ts,PySem.W.codeHdIn K q.1 q.2=Γ/\s₁.heap.get? q.2=ζ (PySem.W.tabObj #[])) (hKt:PySem.W.noTabs K=Γ)
  (F:∀base:ψ,K.In base->base.Ns Θ mg->bV P w K mg base bP k fa fd [x] sp) (hbind:∀(s:Ω) (u:Δ),aa6 s fd ⟨[u],[]⟩ [(x,u)])
  (jL:∀H:Hp,(∀q∈ts,H q.2=ζ (.cD #[]))->bY K H a (ns.map V.int)->sp [.ref a] H (λv _=>v=.bl Γ) λ_ _ _=>False) :
  codeAny (model P w) callerA (.call (.ref fa) ⟨[.ref a],[]⟩) (λr s'=>r=.ok (.ret (.bool Γ))/\OldK s₁.heap s'.heap/\s'.os=s₁.os/\aap s'.gens) s₁:=by
 have rv:=FN hi;have XI:=hi.length;have jJ:∀b,b∈ts.map (·.2)->s₁.heap.get? b=ζ (PySem.W.tabObj #[]):=λb h=>by
  obtain⟨q,hq,rfl⟩:=af4.mp h;exact(lq q hq).2
 have nat:a∉ts.map (·.2):=λh=>by have:=jJ a h;rw[ha]at this;cases this
 have core:∀H:Hp,ad0 H (ts.map (·.2))->(∀q∈ts,H q.2=ζ (.cD #[]))->bY K H a (ns.map V.int)->bZ P w H s₁.heap->(∀b,H b≠η->b=a\/b∈ts.map (·.2))->(H a≠η->K.lookup a=η) ->
   codeAny (model P w) callerA (.call (.ref fa) ⟨[.ref a],[]⟩) (λr s'=>r=.ok (.ret (.bool Γ))/\OldK s₁.heap s'.heap/\s'.os=s₁.os/\aap s'.gens) s₁:=by
  intro H hO hT hS hok hA hK;have EO:∀{b:Ψ}{o:Obj},s₁.heap.get? b=ζ o->H b=η->(lg s₁.heap H).get? b=ζ o:=λe n=>ZP e n
  have Wi:∀{b:Ψ}{o:Obj},s₁.heap.get? b=ζ o->o.cls≠.type "list"->o.cls≠.none->H b=η:=fun{b o} e d1 d2=>by
   cases q:H b with
   |none=>rfl
   |some u =>
    rcases hA b (by rw[q];simp)with e'|e'
    ·subst e';rw[ha]at e;cases e;exact absurd rfl d1
    ·rw[jJ b e']at e;cases e;exact absurd rfl d2
  have kW:∀{b:Ψ}{o:Obj}{es:Array DictEntry}{ep:Nat},s₁.heap.get? b=ζ o->o.data=.dict es ep->H b=η:=fun{b o es ep} e d=>by
   cases q:H b with
   |none=>rfl
   |some u =>
    rcases hA b (by rw[q];simp)with e'|e'
    ·subst e';rw[ha]at e;cases e;have d':Data.seq vs.toArray _=Data.dict es ep:=d;cases d'
    ·rw[jJ b e']at e;cases e;have d':Data.fields #[]=Data.dict es ep:=d;cases d'
  have xE:∀{b:Ψ}{m:Str->Option Δ},s₁.heap.Ns b m->(lg s₁.heap H).Ns b m:=fun{b m} ⟨o,es,ep,e,d,r⟩=>⟨o,es,ep,EO e (kW e d),d,r⟩
  have JJ:K.In (lg s₁.heap H):=λb o e=>EO (KX b o e) (by
   cases q:H b with
   |none=>rfl
   |some u =>
    rcases hA b (by rw[q];simp)with e'|e'
    ·subst e';rw[hK (by rw[q];simp)]at e;cases e
    ·have h1:=KX b o e;rw[jJ b e']at h1;cases h1;have h2:=agc.mp hKt (b,_) (PySem.W.mem_of_lookupK e);exact absurd (show θ=Γ from h2) agg)
  have hM:Mod K mg (lg s₁.heap H):=⟨JJ,xE hns,⟨mb,xE hb,ZZ⟩,let⟨mc,h1,h2⟩:=hlim;⟨mc,xE h1,h2⟩,let⟨bm,ob,b1,b2,b3,b4,b5⟩:=hbm;⟨bm,ob,b1,b2,EO b3 (Wi b3 (by rw[b4];simp) (by rw[b4];simp)),b4,b5⟩⟩
  have e0:mw P w K mg (lg s₁.heap H) callerA [] s₁ H:=⟨rfl,hM,λb o e=>UG e,ag3 (ZO _ _),trivial,λb hb=>absurd (show b∈([]:List Ψ)from hb) (by simp),hok,.of_eq hg⟩
  refine agS ((F _ JJ (xE hns)).run callerA [] s₁ H ⟨[.ref a],[]⟩ [.ref a] [.ref a] _ _ hr e0 (hbind s₁ (.ref a)) (.cons rfl .nil) (jL H hT hS)) λr s' h=>?_
  cases r with
  |error e=>exact False.elim h
  |ok fl =>
   cases fl with
   |next=>exact False.elim h
   |brk=>exact False.elim h
   |cont=>exact False.elim h
   |ret u =>
    obtain⟨v,H',os,bare,un,x9,r',q⟩:=h;have q':v=.bl Γ:=q;subst q';obtain rfl:u=Value.bool Γ:=r';have main:∀b o,s₁.heap.get? b=ζ o->s'.heap.get? b=ζ o\/(b∈ts.map (·.2)/\o=PySem.W.tabObj #[]/\∃ps,s'.heap.get? b=ζ (PySem.W.tabObj ps)):=λb o e=>by
     rcases hO b with z|⟨ob,xs,z⟩|⟨hm,z⟩
     ·exact .inl (un.keep b o e z (by intro z;exact absurd (show b∈([]:List Ψ)from z) (by simp)) (by simp))
     ·have z2:=un.gf b ob _ z;obtain⟨e1,_⟩:=hok b _ z;obtain⟨e2,_⟩:=x9 b _ z2;rw[e]at e1;cases e1;exact .inl e2
     ·obtain⟨more,z2⟩:=un.gx b _ z;have e2:s'.heap.get? b=ζ (PySem.W.tabObj (#[]++more)):=x9 b _ z2;have e1:=jJ b hm;rw[e]at e1;cases e1;exact .inr ⟨hm,rfl,_,e2⟩
    refine⟨rfl,⟨λb o e=>?_,λb o e=>?_⟩,os,bare⟩
    ·rcases main b o e with z|⟨hm,rfl,ps,z⟩
     ·exact .inl z
     ·obtain⟨q,hq,rfl⟩:=af4.mp hm;have hC:=ajQ KX (lq q hq).1;exact .inr (.inl ⟨(hC.tab (lq q hq).2).isCodeTable,rfl,#[],ps,rfl,by rw[Array.empty_append];exact z⟩)
    ·rcases main b o e with z|⟨_,_,ps,z⟩
     ·exact⟨o,z⟩
     ·exact⟨_,z⟩
 have aeE:∀(H:Hp) b,H b=ζ (.cD #[])->b∈ts.map (·.2)->dz P w H s₁.heap b (.cD #[]):=λH b _ h=>jJ b h
 cases hk:K.lookup a with
 |some o =>
  have e:=KX a o hk;rw[ha]at e;cases e
  let H:Hp:=λb=>if b∈ts.map (·.2)then ζ (.cD #[])else η
  refine core H (λb=>?_) (λq hq=>if_pos (ajT hq)) (.inr ⟨_,vs.toArray,_,hk,rfl,rfl,rfl,by rw[af0,XI];exact hl,by simpa using rv⟩) (λb u z=>?_) (λb z=>?_) λz=>absurd (if_neg nat) z
  ·by_cases hb:b∈ts.map (·.2)
   ·exact .inr (.inr ⟨hb,if_pos hb⟩)
   ·exact .inl (if_neg hb)
  ·by_cases hb:b∈ts.map (·.2)
   ·have z':=(if_pos hb).symm.trans z;cases z';exact jJ b hb
   ·have z':=(if_neg hb).symm.trans z;cases z'
  ·by_cases hb:b∈ts.map (·.2)
   ·exact .inr hb
   ·exact absurd (if_neg hb) z
 |none =>
  let H:Hp:=λb=>if b∈ts.map (·.2)then ζ (.cD #[])else if b=a then ζ (.cB {cls:=.type "list",data:=.seq vs.toArray} (.lst (ns.map V.int)))else η
  have Ha:H a=ζ (.cB {cls:=.type "list",data:=.seq vs.toArray} (.lst (ns.map V.int))):=(if_neg nat).trans (if_pos rfl);refine core H (λb=>?_) (λq hq=>if_pos (ajT hq)) (.inl (.inr ⟨_,Ha⟩)) (λb u z=>?_) (λb z=>?_) λ_=>hk
  ·by_cases hb:b∈ts.map (·.2)
   ·exact .inr (.inr ⟨hb,if_pos hb⟩)
   ·by_cases hb2:b=a
    ·exact .inr (.inl ⟨_,_,(if_neg hb).trans (if_pos hb2)⟩)
    ·exact .inl ((if_neg hb).trans (if_neg hb2))
  ·by_cases hb:b∈ts.map (·.2)
   ·have z':=(if_pos hb).symm.trans z;cases z';exact jJ b hb
   ·by_cases hb2:b=a
    ·have z':=((if_neg hb).trans (if_pos hb2)).symm.trans z;cases z';subst hb2;exact⟨ha,by rw[af7];exact hl,vs,_,rv,ha⟩
    ·have z':=((if_neg hb).trans (if_neg hb2)).symm.trans z;cases z'
  ·by_cases hb:b∈ts.map (·.2)
   ·exact .inr hb
   ·by_cases hb2:b=a
    ·exact .inl hb2
    ·exact absurd ((if_neg hb).trans (if_neg hb2)) z
def Ah(K:ξ) (ts:List (Ψ×Ψ)):Bool:=o5.all λx=>match PySem.W.tabIn K x with
 |some q=>decide (q∈ts)
 |none=>Γ
theorem Of{K:ξ}{H:Hp}{ts:List (Ψ×Ψ)}(h:Ah K ts=Γ) (hT:∀q∈ts,H q.2=ζ (.cD #[])):p7 K H:=λx hx c P e=>by
 have:=agc.mp h x hx;rw[e]at this;exact⟨#[],hT (c,P) (of_decide_eq_true this),trivial,λpos cv z=>by cases z⟩
theorem Ng{l:aaS}{n k:Nat}{q:τ}{loose:List Str}{XP:(Str->Option Δ)->ψ->Prop}{YP:υ->ψ->Prop}{d:DefRec}{K:Params->ξ}{x:Str}{m:List D->aa->R D}{ts:List (Ψ×Ψ)}
  (hn:l.most=ζ n) (hn2:n<=ε) (hdf:d.params.defaults=[]) (hr:cP k callerA)
  (hY:∀(w:υ) (h:ψ),YP w h->(K w.params).In h/\∀q∈ts,h.get? q.2=ζ (PySem.W.tabObj #[]))
  (hK:∀p,(ts.all λq=>PySem.W.codeHdIn (K p) q.1 q.2)=Γ/\PySem.W.noTabs (K p)=Γ/\Ah (K p) ts=Γ)
  (F:∀(w:υ) (mg:Str->Option Δ) (fa:Ψ) (h:ψ),(K w.params).In h->h.Ns Θ mg->mg d.name=ζ (.ref fa) ->
   ∃fd:π,(∀(s:Ω) (u:Δ),aa6 s fd ⟨[u],[]⟩ [(x,u)]) /\
    ∀base:ψ,(K w.params).In base->base.Ns Θ mg->bV l.prog w (K w.params) mg base bP k fa fd [x] (bX (K w.params) 1 m))
  (hm:∀ns:List Int,ns.length<=n->∃c,m [.bQ ns] []=.ok (.bl Γ) c) :
  PySem.W.WalkO q loose XP YP l.row.toRowW d [] (λf vs=>PySem.call f vs):=by
 refine Mu.adb hn hdf λw s₀ s₁ mg mb fa o pm cd doc a vs ns G Y ho hd hcd hmg hobj hints hlen hg=>?_
 obtain⟨KX,hT⟩:=hY w _ Y;obtain⟨fd,hb,hF⟩:=F w mg fa _ KX G.T.g hmg;obtain⟨k1,k2,k3⟩:=hK w.params;refine XU (ts:=ts) KX G.T.g G.T.b G.T.builtins G.T.nolimit G.T.bmain hg hobj hints (agf hlen hn2) hr (λq hq=>⟨agc.mp k1 q hq,hT q hq⟩) k2 hF hb λH h1 h2=>?_
 obtain⟨c,hc⟩:=hm ns hlen;refine⟨[],[.bQ ns],[],⟨.nil,rfl,λk a cl e=>(by cases e),Of k3 h1⟩,⟨.ref a,[],rfl,⟨a,rfl,?_⟩,rfl⟩,rfl,?_⟩
 ·rcases h2 with hS|hS
  ·exact .inl ⟨hS,by simp⟩
  ·exact .inr (.inr hS)
 ·rw[hc];exact λρ' H' b _ _ r=>r
section
variable {κ:Type} [DecidableEq κ]
def eU(kvs:List (κ×V)) (k:κ):Option V:=(kvs.find? λkv=>decide (kv.1=k)).map (·.2)
def putK(kvs:List (κ×V)) (k:κ) (v:V):List (κ×V) :=
 if(kvs.any λkv=>decide (kv.1=k))=Γ then kvs.map (λkv=>if kv.1=k then(kv.1,v)else kv)else kvs++[(k,v)]
theorem jv{p:κ×V}{r:List (κ×V)}{k:κ}(e:p.1=k):eU (p::r) k=ζ p.2:=by simp[eU,ahy,e]
theorem jw{p:κ×V}{r:List (κ×V)}{k:κ}(e:¬p.1=k):eU (p::r) k=eU r k:=by simp[eU,ahy,e]
theorem qk(k:κ):∀kvs:List (κ×V),(kvs.any λkv=>decide (kv.1=k))=(eU kvs k).isSome
 |[]=>rfl
 |p::r=>by
  rw[aiZ]
  by_cases e:p.1=k
  ·simp only[jv e,decide_eq_true e,Bool.true_or,ajj]
  ·rw[jw e,decide_eq_false e,Bool.false_or];exact qk k r
theorem FQ(k j:κ) (y:V):∀kvs:List (κ×V),eU (kvs.map λkv=>if kv.1=k then(kv.1,y)else kv) j=(eU kvs j).map λx=>if j=k then y else x
 |[]=>rfl
 |p::r=>by
  have ih:=FQ k j y r;rw[af8]
  by_cases h:p.1=k
  ·rw[if_pos h]
   by_cases e:p.1=j
   ·rw[jv (p:=(p.1,y)) e,jv e,aii,if_pos (e.symm.trans h)]
   ·rw[jw (p:=(p.1,y)) e,jw e,ih]
  ·rw[if_neg h]
   by_cases e:p.1=j
   ·rw[jv (p:=p) e,jv e,aii,if_neg (λz=>h (e.trans z))]
   ·rw[jw (p:=p) e,jw e,ih]
theorem FP(k j:κ) (y:V):∀kvs:List (κ×V),eU kvs k=η->eU (kvs++[(k,y)]) j=if j=k then ζ y else eU kvs j
 |[],_=>by
  by_cases e:k=j
  ·rw[if_pos e.symm];exact jv (p:=(k,y)) e
  ·rw[if_neg (λz=>e z.symm)];exact jw (p:=(k,y)) e
 |p::r,hn=>by
  rw[ahx];have hk:¬p.1=k:=λz=>by rw[jv z]at hn;cases hn
  rw[jw hk]at hn;have ih:=FP k j y r hn
  by_cases e:p.1=j
  ·rw[jv e,jv e,if_neg (λz=>hk (e.trans z))]
  ·rw[jw e,jw e,ih]
theorem NL(kvs:List (κ×V)) (k j:κ) (y:V):eU (putK kvs k y) j=if j=k then ζ y else eU kvs j:=by
 unfold putK
 by_cases a:(kvs.any λkv=>decide (kv.1=k))=Γ
 ·rw[if_pos a,FQ];rw[qk]at a
  by_cases e:j=k
  ·obtain⟨x,hx⟩:=ahG.mp a;rw[if_pos e,e,hx,aii,if_pos rfl]
  ·rw[if_neg e];cases eU kvs j with
   |none=>rfl
   |some x=>rw[aii,if_neg e]
 ·rw[if_neg a];refine FP k j y kvs ?_;rw[qk]at a;cases q:eU kvs k with
  |none=>rfl
  |some x=>rw[q]at a;exact(a rfl).elim
theorem xU(kvs:List (κ×V)) (k:κ) (v:V):(putK kvs k v).length<=kvs.length+1:=by
 unfold putK;split
 ·rw[af7];omega
 ·rw[ago,af1,agd];omega
theorem qa.Cp{o:Option V}{u:Option Δ}(r:qa o u):o.isSome=u.isSome:=by
 cases o with
 |none=>cases u with
  |none=>rfl
  |some _=>exact(show False from r).elim
 |some _=>cases u with
  |none=>exact(show False from r).elim
  |some _=>rfl
theorem KV.val{kvs:List (κ×V)}{vs:List (κ×Δ)}(r:KV kvs vs) (k:κ):qa (eU kvs k) (valueAt vs k):=by
 unfold KV at r
 induction r with
 |nil=>exact True.intro
 | @cons p q ps qs h t ih =>
  obtain⟨h1,h2⟩:=h
  by_cases e:p.1=k
  ·have e':q.1=k:=h1.symm.trans e;have b:valueAt (q::qs) k=ζ q.2:=by simp[valueAt,ahy,e']
   rw[jv e,b];exact h2
  ·have e':¬q.1=k:=λz=>e (h1.trans z)
   have b:valueAt (q::qs) k=valueAt qs k:=by simp[valueAt,ahy,e']
   rw[jw e,b];exact ih
theorem KV.any{kvs:List (κ×V)}{vs:List (κ×Δ)}(r:KV kvs vs) (k:κ):(kvs.any λkv=>decide (kv.1=k))=vs.any λkv=>decide (kv.1=k):=by
 unfold KV at r
 induction r with
 |nil=>rfl
 |cons h t ih=>rw[aiZ,aiZ,ih,h.1]
theorem KV.repl{kvs:List (κ×V)}{vs:List (κ×Δ)}(r:KV kvs vs) (k:κ) {y:V}{u:Δ}(ry:RelV y u) :
  KV (kvs.map λkv=>if kv.1=k then(kv.1,y)else kv) (vs.map λkv=>if kv.1=k then(kv.1,u)else kv):=by
 unfold KV at r ⊢
 induction r with
 |nil=>exact .nil
 | @cons p q ps qs h t ih =>
  rw[af8,af8];refine .cons ?_ ih;obtain⟨h1,h2⟩:=h
  by_cases e:p.1=k
  ·rw[if_pos e,if_pos (h1.symm.trans e)];exact⟨h1,ry⟩
  ·rw[if_neg e,if_neg (λz=>e (h1.trans z))];exact⟨h1,h2⟩
theorem KV.put{kvs:List (κ×V)}{vs:List (κ×Δ)}(r:KV kvs vs) (k:κ) {y:V}{u:Δ}(ry:RelV y u):KV (putK kvs k y) (stored vs k u):=by
 unfold putK stored;rw[r.any k]
 by_cases e:(vs.any λkv=>decide (kv.1=k))=Γ
 ·rw[if_pos e,if_pos e];exact r.repl k ry
 ·rw[if_neg e,if_neg e];exact Paired.snoc r ⟨rfl,ry⟩
theorem KV.length{kvs:List (κ×V)}{vs:List (κ×Δ)}(r:KV kvs vs):kvs.length=vs.length:=aio r
end
theorem Ci{P:τ}{w:υ}{k:Key}{u:Δ}(r:RelV (kV k) u):(iS P w).is k u=Γ:=by
 cases k with
 |inl i=>obtain⟨t,e⟩:=(show ∃t,u=Value.int i t from r);subst e;exact Xu P w i t
 |inr x=>obtain⟨t,e⟩:=(show ∃t,u=Value.str x t from r);subst e;exact Xs P w x t
theorem Jf{P:τ}{w:υ}:∀{ks:List Key}{us:List Δ},Vals (ks.map kV) us->ItemsAre (iS P w) ks us
 |[],_,r=>by rw[List.map_nil]at r;cases r;exact .nil
 |k::ks,_,r=>by
  rw[af8]at r;cases r with
  |cons h t=>exact .cons (Ci h) (Jf t)
abbrev KT(H:Hp):List (List Key×V)->List (List Key×Ψ×Δ)->Prop:=Paired λp q=>p.1=q.1/\H q.2.1=ζ (.tup (p.1.map kV))/\RelV p.2 q.2.2
theorem KT.val{H:Hp}{kvs:List (List Key×V)}{xs:List (List Key×Ψ×Δ)}(r:KT H kvs xs) (k:List Key):qa (eU kvs k) ((atKey xs k).map (·.2)):=by
 induction r with
 |nil=>exact True.intro
 | @cons p q ps qs h t ih =>
  obtain⟨h1,_,h2⟩:=h
  by_cases e:p.1=k
  ·have e':q.1=k:=h1.symm.trans e;have b:atKey (q::qs) k=ζ q.2:=by simp[atKey,ahy,e']
   rw[jv e,b];exact h2
  ·have e':¬q.1=k:=λz=>e (h1.trans z)
   have b:atKey (q::qs) k=atKey qs k:=by simp[atKey,ahy,e']
   rw[jw e,b];exact ih
theorem KT.repl{H:Hp}{kvs:List (List Key×V)}{xs:List (List Key×Ψ×Δ)}(r:KT H kvs xs) (k:List Key) {y:V}{u:Δ}(ry:RelV y u) :
  KT H (kvs.map λkv=>if kv.1=k then(kv.1,y)else kv) (xs.map (putAt k u)):=by
 induction r with
 |nil=>exact .nil
 | @cons p q ps qs h t ih =>
  rw[af8,af8];refine .cons ?_ ih;obtain⟨h1,h2,h3⟩:=h;unfold putAt
  by_cases e:p.1=k
  ·rw[if_pos e,if_pos (h1.symm.trans e)];exact⟨h1,h2,ry⟩
  ·rw[if_neg e,if_neg (λz=>e (h1.trans z))];exact⟨h1,h2,h3⟩
theorem KT.put{H:Hp}{kvs:List (List Key×V)}{xs:List (List Key×Ψ×Δ)}(r:KT H kvs xs) (k:List Key) {b:Ψ}{y:V}{u:Δ}(hb:H b=ζ (.tup (k.map kV))) (ry:RelV y u) :
  KT H (putK kvs k y) (storedH xs k b u):=by
 have e:(kvs.any λkv=>decide (kv.1=k))=(atKey xs k).isSome:=by
  rw[qk,(r.val k).Cp,ajU]
 unfold putK storedH;rw[e]
 by_cases q:(atKey xs k).isSome=Γ
 ·rw[if_pos q,if_pos q];exact r.repl k ry
 ·rw[if_neg q,if_neg q];exact Paired.snoc r ⟨rfl,hb,ry⟩
theorem KT.keeps{H H':Hp}{kvs:List (List Key×V)}{xs:List (List Key×Ψ×Δ)}(r:KT H kvs xs) (ht:∀b ys,H b=ζ (.tup ys)->H' b=ζ (.tup ys)):KT H' kvs xs :=
 Paired.A4 r λ_ _ z=>⟨z.1,ht _ _ z.2.1,z.2.2⟩
section
variable {P:τ}{w:υ}{H:Hp}{h:ψ}{a:Ψ}
theorem GQ{u:HO}(ok:bZ P w H h) (e:Rd H a u):dz P w H h a u:=e.ok ok
theorem Kp{kvs:List (Key×V)}(ok:bZ P w H h) (e:Rd H a (.dK kvs)):kvs.length<=ε/\(a==sysModules)=θ/\∃vs,KV kvs vs/\h.DictOf (iS P w) a vs :=
 show dz P w H h a (.dK kvs)from GQ ok e
theorem abb{kvs:List (Key×V)}(ok:bZ P w H h) (e:H a=ζ (.dK kvs)):kvs.length<=ε/\(a==sysModules)=θ/\∃vs,KV kvs vs/\h.DictOf (iS P w) a vs:=Kp ok (.inl e)
theorem BI{ks:List Key}(ok:bZ P w H h) (e:H a=ζ (.tup (ks.map kV))):(tupleKind (iS P w)).is h ks a:=by
 obtain⟨_,its,r,o,h1,h2,⟨n,h3⟩,_⟩:=(show dz P w H h a (.tup (ks.map kV))from ok a _ e)
 exact⟨o,its.toArray,n,h1,h2,h3,by simpa using Jf r⟩
theorem Ko{kvs:List (List Key×V)}(ok:bZ P w H h) (e:Rd H a (.dT kvs)):kvs.length<=ε/\(a==sysModules)=θ /\
  ∃xs,KT H kvs xs/\h.DictOfH (tupleKind (iS P w)) a xs:=by
 obtain⟨z,y,xs,r,o,es,ep,h1,h2,h3,h4,h5⟩:=(show dz P w H h a (.dT kvs)from GQ ok e)
 refine⟨z,y,xs,r,o,es,ep,h1,h2,h3,h4,λx hx=>?_,h5⟩
 have all:∀{l:List (List Key×V)}{m:List (List Key×Ψ×Δ)},KT H l m->∀x∈m,(tupleKind (iS P w)).is h x.1 x.2.1:=by
  intro l m q
  induction q with
  |nil=>intro x hx;exact nomatch hx
  | @cons p q ps qs hq t ih =>
   intro x hx
   rcases afW.mp hx with e|hx
   ·subst e;exact BI ok (by rw[<-hq.1];exact hq.2.1)
   ·exact ih x hx
 exact all r x hx
theorem aa9{kvs:List (List Key×V)}(ok:bZ P w H h) (e:H a=ζ (.dT kvs)):kvs.length<=ε/\(a==sysModules)=θ /\
  ∃xs,KT H kvs xs/\h.DictOfH (tupleKind (iS P w)) a xs:=Ko ok (.inl e)
end
def vQ(H:Hp) (a:Ψ) (y:V) (r:Option V):Prop :=
 (∃kvs k,Rd H a (.dK kvs)/\y=kV k/\r=eU kvs k)\/∃kvs k b,Rd H a (.dT kvs)/\y=.ref b/\H b=ζ (.tup (k.map kV))/\r=eU kvs k
def tU(H:Hp) (a:Ψ) (y v:V) (H':Hp):Prop :=
 (∃kvs k,H a=ζ (.dK kvs)/\y=kV k/\kvs.length<ε/\H'=upd H a (.dK (putK kvs k v))) \/
 ∃kvs k b,H a=ζ (.dT kvs)/\y=.ref b/\H b=ζ (.tup (k.map kV))/\kvs.length<ε/\H'=upd H a (.dT (putK kvs k v))
theorem vQ.t{H:Hp}{a b:Ψ}{kvs:List (List Key×V)}{k:List Key}(e:H a=ζ (.dT kvs)) (eb:H b=ζ (.tup (k.map kV))):vQ H a (.ref b) (eU kvs k):=.inr ⟨kvs,k,b,.inl e,rfl,eb,rfl⟩
theorem tU.t{H:Hp}{a b:Ψ}{kvs:List (List Key×V)}{k:List Key}{v:V}(e:H a=ζ (.dT kvs)) (eb:H b=ζ (.tup (k.map kV))) (hl:kvs.length<ε) :
  tU H a (.ref b) v (upd H a (.dT (putK kvs k v))):=.inr ⟨kvs,k,b,e,rfl,eb,hl,rfl⟩
section
variable {X:Cx}{pins:List (Ψ×Obj)}{σ:St}{H:Hp}{s:Ω}{a:Ψ}{y v:V}{u r:Δ}{o:Option V}{A:χ}{E:Δ->Ω->Prop}
theorem Inv.big(I:Inv X pins σ H s):sysModules<s.heap.objs.size:=by
 have h:Θ<s.heap.objs.size:=(I.mod.glob.keeps I.bk).lt;exact ahP (by decide) h
theorem abL{Q:Δ->Ω->Prop}(hu:A.units+1<aaR) (I:Inv X pins σ H s) (g:vQ H a y o) (ry:RelV y u) (h:∀s',Inv X pins σ H s'->Q (.bool o.isSome) s') :
  wpAny (model X.prog X.w) A (compareOp .In u (.ref a)) Q E s:=by
 rcases g with⟨kvs,k,e,ey,l⟩|⟨kvs,k,b,e,ey,eb,l⟩
 ·subst ey;obtain⟨z,hd,vs,rel,dd⟩:=Kp I.hok e;refine wpAny_in_of (Ci ry) hd dd.mapOf ?_;rw[<-(rel.val k).Cp,<-l];exact h _ (I.tok _)
 ·subst ey;cases(show u=Value.ref b from ry)
  obtain⟨z,hd,xs,rel,dd⟩:=Ko I.hok e;refine wpAny_in_heap (tupleKind_room_in1 hu) (BI I.hok eb) hd dd ?_;have q:=(rel.val k).Cp;rw[ajU]at q;rw[<-q,<-l];exact h _ (I.tok _)
theorem Ky{h':ψ}{t':Nat}{ob:HO}(I:Inv X pins σ H s) (mu:vK (H a)) (hs:aan a s.heap h') (he:∃q,h'.get? a=ζ q) (new:dz X.prog X.w (upd H a ob) h' a ob) :
  Inv X pins σ (upd H a ob) {s with heap:=h',toks:=t'} :=
 I.write (x:=a) (e:=a) mu (.inl rfl) (λb q hb z=>(hs.2 b hb).trans z) he new
theorem abc{P:τ}{w:υ}{H':Hp}{h':ψ}{kvs:List (Key×V)}{vs:List (Key×Δ)}(z:kvs.length<=ε) (hd:(a==sysModules)=θ) (rel:KV kvs vs) (dd:h'.DictOf (iS P w) a vs) :
  dz P w H' h' a (.dK kvs):=⟨z,hd,vs,rel,dd⟩
theorem abK{H':Hp}{Q:Unit->Ω->Prop}(hu:A.units+1<aaR) (I:Inv X pins σ H s) (g:tU H a y v H') (ry:RelV y u) (rv:RelV v r) (h:∀s',Inv X pins σ H' s'->Q () s') :
  wpAny (model X.prog X.w) A (setItem (.ref a) u r) Q E s:=by
 rcases g with⟨kvs,k,e,ey,l,eH⟩|⟨kvs,k,b,e,ey,eb,l,eH⟩
 ·subst ey eH;obtain⟨z,hd,vs,rel,dd⟩:=abb I.hok e;have hz:vs.length<=ε:=by rw[<-rel.length];exact z
  have hl:(putK kvs k v).length<=ε:=by have:=xU kvs k v;omega
  refine wpAny_setItem_pairs (hsz:=hz) (Ci ry) dd λh' yV hs=>h _ ?_
  have he:∃q,h'.get? a=ζ q:=let⟨q,_,_,hq,_⟩:=yV;⟨q,hq⟩
  exact Ky I (by rw[e];exact True.intro) hs he (abc hl hd (rel.put k rv) yV)
 ·subst ey eH;cases(show u=Value.ref b from ry)
  obtain⟨z,hd,xs,rel,dd⟩:=aa9 I.hok e;have hz:xs.length<=ε:=by rw[<-aio rel];exact z
  have hl:(putK kvs k v).length<=ε:=by have:=xU kvs k v;omega
  refine wpAny_setItem_heap (hsz:=hz) (tupleKind_room_in1 hu) (BI I.hok eb) dd λh' yV hs=>h _ ?_
  obtain⟨q,es,ep,hq,h2,h3,h4,_,h5⟩:=yV;refine Ky I (by rw[e];exact True.intro) hs ⟨q,hq⟩ ⟨hl,hd,_,(rel.put k eb rv).keeps λc ys ec=>?_,q,es,ep,hq,h2,h3,h4,h5⟩
  rw[bz (AW ec e (λz=>nomatch z))]
  exact ec
end
def AA(td ty tv:TE):TS:=λD σ H=>tv σ H λv H1=>td σ H1 λx H2=>ty σ H2 λy H3=>∃a H4,x=.ref a/\tU H3 a y v H4/\D.nx σ H4
section
variable {X:Cx}{o i e value:ο}{pos pos' tpos:Pos}{td ty tv:TE}
theorem G1(hu:X.A.units+1<aaR) (ho:PE X o td) (hi:PE X i ty) (hv:PE X value tv) (hs:swapsWith value (ζ (.Subscript o i pos')) pos.line X.env=pure θ) :
  PS X (.Assign [.Subscript o i pos'] value pos) (AA td ty tv):=by
 intro pins s σ H D I h;refine wpAny_Assign_Subscript (br (hv pins s σ H _ I h) λr s1 ⟨v,H1,I1,rv,q1⟩=>br (ho pins s1 σ H1 _ I1 q1) λu s2 ⟨x,H2,I2,rx,q2⟩=>br (hi pins s2 σ H2 _ I2 q2) λiv s3 ⟨y,H3,I3,ry,a,H4,ex,g,q3⟩=>?_) hs
 subst ex;obtain rfl:u=Value.ref a:=rx;exact abK hu I3 g ry rv λs4 I4=>⟨σ,H4,I4,q3⟩
end
theorem aba{P:τ}{w:υ}{H:Hp}(h:ψ) (hb:sysModules<h.objs.size):dz P w H (h.push {cls:=.type "dict",data:=.dict #[]}) h.objs.size (.dT []) :=
 ⟨agK _,beq_eq_false_iff_ne.mpr (agz (afX hb)),[],.nil,_,#[],0,aga _ rfl,⟨rfl,rfl,rfl⟩,rfl,rfl,List.nodup_nil⟩
def Gg:TE:=λ_ H Q=>∀p,H p=η->Q (.ref p) (upd H p (.dT []))
section
variable {X:Cx}{pos:Pos}
theorem S3:PE X (.Dict [] [] pos) Gg:=λpins s σ H Q I h =>
 wpAny_Dict_empty ⟨.ref s.heap.objs.size,_,I.laid (a:=s.heap.objs.size) (o:=.dT []) (t':=s.toks) (λ_ _ q=>afY _ q) (afU _) (aba s.heap I.big),rfl,h _ (I.hok.fresh (afU _))⟩
end
section
variable {X:Cx}
def x6:D->D->aa->R D:=λx y c=>match x,y with
 |.tup [.int a,.int b],.dct ks=>.ok (.bl (decide ((a,b)∈ks))) c
 |_,_=>.bad
theorem Vi(hu:X.A.units+64<aaR):bK X (compareOp .In) (r2 X.K x6):=by
 intro pins s σ H v u vv uu Q I rv ru h;obtain⟨ρ,x,y,c,W,rx,ry,p⟩:=h;unfold x6 at p;split at p
 ·rename_i a b ks;obtain⟨t,xs,rfl,ht,rl⟩:=rx;obtain⟨x1,r1,rfl,e1,rl⟩:=rl;obtain⟨x2,r2,rfl,e2,rl⟩:=rl;cases(show x1=V.int a from e1)
  cases(show x2=V.int b from e2)
  cases(show r2=[]from rl)
  obtain⟨d,kvs,rfl,hd,hk⟩:=ry;obtain rfl:uu=Value.ref d:=ru;have g:vQ H d (.ref t) (eU kvs [Sum.inl a,Sum.inl b]):=vQ.t hd (show H t=ζ (.tup ([Sum.inl a,Sum.inl b].map kV))from ht)
  refine abL (by omega) I g rv λs3 I3=>⟨.bl (eU kvs [Sum.inl a,Sum.inl b]).isSome,H,I3,rfl,?_⟩
  rw[<-qk,hk (a,b)];exact p.here W rfl
 ·exact p.elim
end
structure GdN (L:Nat) (l:List (Nat×Int)):Prop where
 nd:(l.map (·.1)).Nodup
 lt:∀p∈l,p.1<L
def xY:HO->Bool
 |.dK _=>Γ
 |.cB _ (.dK _)=>Γ
 |_=>θ
section
variable {K:ξ}{ρ:List Ψ}{H H':Hp}{c:aa}
theorem OU(k:∀a o,H a=ζ o->xY o=θ->H' a=ζ o) {a:Ψ}{xs:List V}(h:p8 K ρ H a xs):p8 K ρ H' a xs:=by
 rcases h with⟨h,n⟩|h
 ·rcases h with h|⟨o,h⟩
  ·exact .inl ⟨.inl (k a _ h rfl),n⟩
  ·exact .inl ⟨.inr ⟨o,k a _ h rfl⟩,n⟩
 ·exact .inr h
mutual
theorem Rel.nd(k:∀a o,H a=ζ o->xY o=θ->H' a=ζ o):∀(d:D) (v:V),Rel K ρ H d v->Rel K ρ H' d v
 |.aI,v,h=>h
 |.bl b,v,h=>h
 |.int i,v,h=>h
 |.str y,v,h=>h
 |.ty n,v,h=>h
 |.tup l,v,h=>by
  obtain⟨a,xs,e,s,r⟩:=h;exact⟨a,xs,e,k a _ s rfl,aH.nd k l xs r⟩
 |.lst l,v,h=>by
  obtain⟨a,xs,e,s,r⟩:=h;exact⟨a,xs,e,⟨k a _ s.1 rfl,s.2⟩,aH.nd k l xs r⟩
 |.ref _,v,h=>h
 |.bQ l,v,h=>by
  obtain⟨a,e,s⟩:=h;exact⟨a,e,OU k s⟩
 |.fn a n,v,h=>h
 |.gK,v,h=>by
  obtain⟨a,e,q⟩:=h;exact⟨a,e,k a _ q rfl⟩
 |.dct ks,v,h=>by
  obtain⟨a,kvs,e,q,z⟩:=h;exact⟨a,kvs,e,k a _ q rfl,z⟩
 |.exc y,v,h=>by
  obtain⟨a,C,e,n,q⟩:=h;exact⟨a,C,e,n,k a _ q rfl⟩
 |.lam _ y ns l,v,h=>by
  obtain⟨a,o,q,c,cl,xs,e,h1,h2,h3,h4,h5,h6⟩:=h;exact⟨a,o,q,c,cl,xs,e,k a _ h1 rfl,h2,k c _ h3 rfl,h4,h5.mono (λb o z=>k b _ z rfl),aH.nd k l xs h6⟩
theorem aH.nd(k:∀a o,H a=ζ o->xY o=θ->H' a=ζ o):∀(l:List D) (xs:List V),aH K ρ H l xs->aH K ρ H' l xs
 |[],xs,h=>h
 |d::l,xs,h=>by
  obtain⟨y,r,e,h1,h2⟩:=h;exact⟨y,r,e,Rel.nd k d y h1,aH.nd k l r h2⟩
end
theorem Wd.Wq(W:Wd K ρ H c) (k:∀a o,H a=ζ o->xY o=θ->H' a=ζ o):Wd K ρ H' c :=
 ⟨W.nd,W.len,λi a cl e1 e2=>by
  have q:=W.ff i a cl e1 e2;cases cl with
  |lst l =>
   obtain⟨nr,xs,h,r⟩:=q;exact⟨nr,xs,k a _ h rfl,aH.nd k l xs r⟩,W.tab.mono (λP ps e=>k P _ e rfl) λc φ e=>k c _ e rfl⟩
end
end L2
namespace L2
open PySem PySem.Spec PyProof.Rows
def rC(p:Int×Int):D:=.tup [.int p.1,.int p.2]
def iV(qs:List (Int×Int)):List (Int×Int):=qs.flatMap λq=>[q,(q.2,q.1)]
def zq(kvs:List (List Key×V)) (ks:List (Int×Int)):Prop:=∀p:Int×Int,(kvs.any λkv=>decide (kv.1=[Sum.inl p.1,Sum.inl p.2]))=decide (p∈ks)
theorem zq.put{kvs:List (List Key×V)}{ks:List (Int×Int)}(h:zq kvs ks) (q:Int×Int) (v:V):zq (putK kvs [Sum.inl q.1,Sum.inl q.2] v) (ks++[q]):=λp=>by
 have e:=h p;rw[qk]at e ⊢;rw[NL]
 by_cases hq:p=q
 ·subst hq;simp
 ·have hne:¬([Sum.inl p.1,Sum.inl p.2]:List Key)=[Sum.inl q.1,Sum.inl q.2]:=λz=>hq (by
   simp only[List.cons.injEq,Sum.inl.injEq,and_true]at z;exact Prod.ext z.1 z.2)
  rw[if_neg hne,e];simp[hq]
def AF:D->Option (Int×Int)
 |.tup [.int a,.int b]=>ζ (a,b)
 |_=>η
def kN:List D->Option (List (Int×Int))
 |[]=>ζ []
 |d::l=>match AF d,kN l with
  |some p,ζ ps=>ζ (p::ps)
  |_,_=>η
theorem G2:∀{l:List D}{ps:List (Int×Int)},kN l=ζ ps->l=ps.map rC
 |[],ps,h=>by cases h;rfl
 |d::l,ps,h=>by
  unfold kN at h;split at h
  ·rename_i p qs h1 h2;cases h;rw[G2 h2];unfold AF at h1;split at h1
   ·cases h1;rfl
   ·cases h1
  ·cases h
theorem G3:∀ps:List (Int×Int),kN (ps.map rC)=ζ ps
 |[]=>rfl
 |p::ps=>by
  unfold kN;rw[af8];have:=G3 ps;simp[rC,AF,this]
def mR(i j k:Nat):ah:=λe c=>match e[i]? with
 |some (ζ d)=>match(dW c d).bind kN with
  |some ps=>if ps.length<2000/\e.length=4 then .ok (.nx ((e.set j (ζ (.dct (iV ps)))).set k η)) c else .bad
  |none=>.bad
 |_=>.bad
theorem RP{α β:Type}{K:ξ}{Rl:List Ψ->Hp->α->β->Prop}{r:R α}{ρ aG:List Ψ}{H H1:Hp}{Q:β->Hp->Prop}(x:Ext ρ H aG H1) (p:post K Rl r ρ H Q):post K Rl r aG H1 Q:=by
 cases r with
 |ok a c=>exact λρ' H' b W X R=>p ρ' H' b W (x.trans X) R
 |bad=>exact p
theorem PK:10000<ε:=by decide
section
variable {K:ξ}{ρ:List Ψ}{H0:Hp}{c:aa}
def EZ(K:ξ) (H0:Hp) (a:Ψ) (s0:Option V) (v1:V) (ps:List (Int×Int)) (i:Nat) (σ:St) (H:Hp):Prop :=
 ∃x kvs,(∀b o,H0 b=ζ o->H b=ζ o)/\σ=[s0,ζ v1,ζ (.ref a),x]/\H a=ζ (.dT kvs)/\zq kvs (iV (ps.take i))/\kvs.length<=2*i
theorem RM{H:Hp}{p:Int×Int}{v:V}(r:Rel K ρ H (rC p) v):∃b,v=.ref b/\H b=ζ (.tup [.int p.1,.int p.2]):=by
 obtain⟨b,xs,rfl,hb,rl⟩:=r;obtain⟨x1,r1,rfl,e1,rl⟩:=rl;obtain⟨x2,r2,rfl,e2,rl⟩:=rl;cases(show x1=V.int p.1 from e1)
 cases(show x2=V.int p.2 from e2)
 cases(show r2=[]from rl)
 exact⟨b,rfl,hb⟩
def Jb(K:ξ):TS :=
 Ga (AA (mJ 2) (mJ 3) (tC (.bl Γ))) (AA (mJ 2) (F8 (Ak (qu (AE K) (mJ 3) (tC (.int 1))) (Ak (qu (AE K) (mJ 3) (tC (.int 0))) Gb))) (tC (.bl Γ)))
theorem YT{a:Ψ}{s0:Option V}{v1:V}{ps:List (Int×Int)}{i:Nat}{p:Int×Int}{b:Ψ}{D:Ends}(ha:H0 a=η) (hb:H0 b=ζ (.tup [.int p.1,.int p.2])) (hp:ps[i]? = ζ p) (hl:ps.length<2000)
  (hD:∀σ H,EZ K H0 a s0 v1 ps (i+1) σ H->D.nx σ H) {σ:St}{H:Hp}(h:EZ K H0 a s0 v1 ps i σ H):Jb K D (σ.set 3 (ζ (.ref b))) H:=by
 obtain⟨x,kvs,M,rfl,hd,hk,hlen⟩:=h;have hi:i<ps.length:=(af6.mp hp).1;have sz:=PK;have JF:=M b _ hb;have hba:b≠a:=λe=>by rw[e,ha]at hb;cases hb
 refine⟨.ref a,rfl,.ref b,rfl,a,_,rfl,tU.t (k:=[Sum.inl p.1,Sum.inl p.2]) hd JF (by omega),?_⟩
 have k1:=hk.put p (.bl Γ);have l1:=xU kvs [Sum.inl p.1,Sum.inl p.2] (.bl Γ)
 generalize putK kvs [Sum.inl p.1,Sum.inl p.2] (.bl Γ)=o6 at k1 l1
 have hb1:upd H a (.dT o6) b=ζ (.tup [.int p.1,.int p.2]):=by rw[bz hba];exact JF
 have hd1:upd H a (.dT o6) a=ζ (.dT o6):=by unfold upd;rw[if_pos rfl]
 refine⟨.ref a,rfl,.ref b,rfl,b,[.int p.1,.int p.2],1,.int p.2,rfl,rfl,.inl (.inl hb1),rfl,.ref b,rfl,b,[.int p.1,.int p.2],0,.int p.1,rfl,rfl,.inl (.inl hb1),rfl,by show 2<=ε;omega,λt ht=>?_⟩
 have jJ:t≠a:=λe=>by rw[e,hd1]at ht;cases ht
 have hat:a≠t:=agz jJ;have hd2:upd (upd H a (.dT o6)) t (.tup [.int p.2,.int p.1]) a=ζ (.dT o6):=by rw[bz hat];exact hd1
 have Zs:upd (upd H a (.dT o6)) t (.tup [.int p.2,.int p.1]) t=ζ (.tup ([Sum.inl p.2,Sum.inl p.1].map kV)):=by unfold upd;rw[if_pos rfl];rfl
 refine⟨a,_,rfl,tU.t (k:=[Sum.inl p.2,Sum.inl p.1]) hd2 Zs (by omega),?_⟩
 have k2:=k1.put (p.2,p.1) (.bl Γ);have l2:=xU o6 [Sum.inl p.2,Sum.inl p.1] (.bl Γ);refine hD _ _ ⟨ζ (.ref b),_,λu o e=>?_,rfl,by unfold upd;rw[if_pos rfl],?_,by omega⟩
 ·have Jt:u≠a:=λz=>by rw[z,ha]at e;cases e
  have Zp:u≠t:=λz=>by
   rw[z]at e;have:=M t o e;rw[bz jJ,this]at ht;cases ht
  rw[bz Jt,bz Zp,bz Jt];exact M u o e
 ·have e:iV (ps.take (i+1))=iV (ps.take i)++[p]++[(p.2,p.1)]:=by
   rw[List.take_add_one,hp];unfold iV;rw[List.flatMap_append];simp
  rw[e];exact k2
end
theorem IQ{α:Type}{l:List α}(h:l.length=4):∃a b d f,l=[a,b,d,f]:=by
 match l,h with
 |[a,b,d,f],_=>exact⟨a,b,d,f,rfl⟩
theorem XA{K:ξ}{ρ:List Ψ}{H:Hp}{c:aa}(W:Wd K ρ H c) {d:D}{v:V}{l:List D}(r:Rel K ρ H d v) (h:dW c d=ζ l):∃a xs,v=.ref a/\H a=ζ (.lst xs)/\aH K ρ H l xs:=by
 cases d with
 |lst m =>
  have e:ζ m=ζ l:=h;cases e;obtain⟨a,xs,rfl,hs,rl⟩:=r;exact⟨a,xs,rfl,hs.1,rl⟩
 |ref k =>
  obtain⟨a,rfl,ha⟩:=r;unfold dW at h;dsimp only at h;cases hc:c[k]? with
  |none=>rw[hc]at h;cases h
  |some cl =>
   cases cl with
   |lst m =>
    rw[hc]at h;cases h;obtain⟨_,xs,hx,rl⟩:=W.ff k a _ ha hc;exact⟨a,xs,rfl,hx,rl⟩
 |_=>cases h
theorem P7{X:Cx}{A B:aag}{rest:List aag}{dr:ah}(hA:PS X A (Am Gg (yf 2))) (hB:PS X B (Gf (Js X.K (mJ 1)) (yf 3) (Jb X.K))) (hr:b7 X rest dr):b7 X (A::B::rest) (aD (mR 1 2 3) dr) :=
 (uH hA (uH hB hr)).imp λZ σ H h=>by
  obtain⟨ρ,e,c,W,V,p⟩:=h;unfold aD mR at p;cases he:e[1]? with
  |none=>rw[he]at p;exact p.elim
  |some od =>
   cases od with
   |none=>rw[he]at p;exact p.elim
   |some d =>
    rw[he]at p;dsimp only at p;cases hl:dW c d with
    |none=>rw[hl]at p;exact p.elim
    |some l =>
     rw[hl,ajV]at p;cases hq:kN l with
     |none=>rw[hq]at p;exact p.elim
     |some ps =>
      rw[hq]at p;dsimp only at p
      by_cases hh:ps.length<2000/\e.length=4
      ·rw[if_pos hh]at p;have el:=G2 hq;subst el;obtain⟨v1,hv1,rd⟩:=V.get 1 d he;obtain⟨e0,e1,e2,e3,rfl⟩:=IQ hh.2;obtain⟨s0,s1,s2,s3,rfl⟩:=IQ (V.len.symm.trans hh.2);cases he;cases hv1;obtain⟨b,xs,rfl,hb,rl⟩:=XA W rd hl;have hx:=rl.length;rw[af7]at hx;intro a ha;have M0:∀u o,H u=ζ o->upd H a (.dT []) u=ζ o:=λu o z=>by
        rw[bz (λy=>by rw[y,ha]at z;cases z)];exact z
       refine⟨.ref b,rfl,b,rfl,⟨xs,bY.of (M0 b _ hb)⟩,aaJ (K:=X.K) (a:=b) (xs:=xs) (EZ X.K H a s0 (.ref b) ps) ⟨s3,[],M0,rfl,by unfold upd;rw[if_pos rfl],λq=>by simp[iV],agK _⟩ (λi σ H' _ q=>?_) (λi x σ H' hxi q=>?_) (λσ H' q=>?_)⟩
       ·obtain⟨_,_,M,_⟩:=q;exact bY.of (M b _ hb)
       ·have hi:i<ps.length:=by rw[<-hx];exact(af6.mp hxi).1
        obtain⟨x',hx',rp⟩:=aH.get rl (i:=i) (d:=rC ps[i]) (by simp[hi])
        rw[hxi]at hx';cases hx';obtain⟨t,rfl,ht⟩:=RM rp;exact YT ha ht (af2 hi) hh.1 (λσ H q=>q) q
       ·obtain⟨x,kvs,M,rfl,hd,hk,_⟩:=q;rw[hx,agZ]at hk;have E:Ext ρ H ρ H':=⟨λ_ _ z=>z,λu o z n _=>⟨M u o z,n⟩⟩
        refine⟨ρ,[e0,ζ d,ζ (.dct (iV ps)),η],c,W.Wq (λu o z _=>M u o z),⟨λi g hg=>?_,rfl⟩,RP E p⟩
        match i,hg with
        |0,hg =>
         obtain⟨v,hv,r⟩:=V.get 0 g hg;exact⟨v,hv,Rel.mono W E _ _ r⟩
        |1,hg =>
         cases hg;exact⟨.ref b,rfl,Rel.mono W E _ _ rd⟩
        |2,hg =>
         cases hg;exact⟨.ref a,rfl,a,kvs,rfl,hd,hk⟩
        |3,hg=>cases hg
        |(n+4),hg=>simp at hg
      ·rw[if_neg hh]at p;exact p.elim
theorem Ju{A:χ}(h:A.units+64<aaR):A.units+1<aaR:=by omega
abbrev Pb:=SetTable.Probe
def adQ(m:Nat) (p:Pb):Pb:=if p.more>0 then{p with j:=p.j+1,more:=p.more-1}else{p with j:=(p.i*5+1+p.perturb/32) % (m+1),more:=SetTable.runEnd m ((p.i*5+1+p.perturb/32) % (m+1))-(p.i*5+1+p.perturb/32) % (m+1),i:=(p.i*5+1+p.perturb/32) % (m+1),perturb:=p.perturb/32}
def Je(m:Nat):Nat->Pb->Pb
 |0,p=>p
 |n+1,p=>Je m n (adQ m p)
def RA(m i q:Nat):Pb:=⟨i,SetTable.runEnd m i-i,i,q,η⟩
def OQ(m:Nat) (h:Int):Pb:=RA m (SetTable.bits h % (m+1)) (SetTable.bits h)
def tO(m:Nat) (h:Int) (n:Nat):Nat:=(Je m n (OQ m h)).j
def Reach(m:Nat) (P:Nat->Prop) (h:Int) (j:Nat):Prop:=∃n,n<10*(m+15)/\tO m h n=j/\∀k,k<n->P (tO m h k)
theorem Reach.mono{m:Nat}{P Q:Nat->Prop}{h:Int}{j:Nat}(r:Reach m P h j) (i:∀k,P k->Q k):Reach m Q h j :=
 let⟨n,h1,h2,h3⟩:=r;⟨n,h1,h2,λk hk=>i _ (h3 k hk)⟩
structure ad7 (h:Int):Prop where
 go:∀m,oA m->iK m (10*(m+15)) (SetTable.bits h % (m+1)) (SetTable.runEnd m (SetTable.bits h % (m+1))-SetTable.bits h % (m+1)) (SetTable.bits h % (m+1)) (SetTable.bits h) 0=Γ
 lay:∀m,oz m->ny m (m+15) (SetTable.bits h % (m+1)) (SetTable.bits h) 0=Γ
structure vJ (t:aai) (es:Array (Int×Δ)):Prop where
 size:t.place.size=es.size
 up:Up t.place.toList
 le:∀j∈t.place.toList,j<=t.mask
 dm:t.dummies=#[]
 mask:(t.mask=7/\es.size<=4)\/(t.mask=31/\es.size<=18)\/(t.mask=127/\es.size<=76)
 reach:∀q∈t.place.toList.zip es.toList,Reach t.mask (·∈t.place.toList) q.2.1 q.1
theorem vJ.ok{t:aai}{es:Array (Int×Δ)}(I:vJ t es):oA t.mask:=by
 have:=I.mask;unfold oA;omega
theorem vJ.fits{t:aai}{es:Array (Int×Δ)}(h:vJ t es):t.fits es.size=Γ:=by
 have:=h.mask;simp only[SetTable.fits,SetTable.fill,h.size,h.dm,af5,beq_self_eq_true,true_and,decide_eq_true_eq];simp only[af0,agd];omega
structure LayT (mask:Nat) (owner:Array (Option Nat)) (hs:List Int) (k:Nat):Prop where
 lay:tR mask owner k
 way:∀j i,owner.toList.getD j η=ζ i->∃h,hs[i]? = ζ h/\Reach mask (λs=>owner.getD s (ζ 0)≠η) h j
def hT(ks:List Int):Int:=reduceHash (Builtin.Tuple.tupleHashOf (ks.map hashInt))
def nH(ks:List Int):Prop:=∃i j:Nat,i<8/\j<8/\ks=[(i:Int),(j:Int)]
def hP(n:Nat):Int:=hT [((n/8:Nat):Int),((n % 8:Nat):Int)]
def HE(h:Int):Bool:=([7,31,127].all λm=>iK m (10*(m+15)) (SetTable.bits h % (m+1)) (SetTable.runEnd m (SetTable.bits h % (m+1))-SetTable.bits h % (m+1)) (SetTable.bits h % (m+1)) (SetTable.bits h) 0) && [31,127].all λm=>ny m (m+15) (SetTable.bits h % (m+1)) (SetTable.bits h) 0
theorem adN:((ι 64).all λn=>HE (hP n))=Γ:=by decide +kernel
def eqZ(a b:Int):Bool:=match a,b with
 |.ofNat x,.ofNat y=>Nat.beq x y
 |.negSucc x,.negSucc y=>Nat.beq x y
 |_,_=>θ
def xJ(l:List Int):Bool:=match l with
 |[]=>Γ
 |x::r=>r.all (λy=>!eqZ x y)&&xJ r
theorem Kh(a:Int):eqZ a a=Γ:=by cases a<;>exact Nat.beq_refl _
theorem adP:xJ ((ι 64).map hP)=Γ:=by decide +kernel
theorem HX:∀{l:List Int},xJ l=Γ->∀{i k:Nat}{x:Int},l[i]? = ζ x->l[k]? = ζ x->i=k
 |[],_,i,k,x,h,_=>by simp at h
 |y::r,h,i,k,x,h1,h2=>by
  unfold xJ at h;rw[af5,agc]at h;cases i with
  |zero =>
   cases k with
   |zero=>rfl
   |succ k =>
    have e:y=x:=by simpa using h1
    have:=h.1 x (agk (by simpa using h2))
    rw[e,Kh]at this;cases this
  |succ i =>
   cases k with
   |zero =>
    have e:y=x:=by simpa using h2
    have:=h.1 x (agk (by simpa using h1))
    rw[e,Kh]at this;cases this
   |succ k=>rw[HX h.2 (i:=i) (k:=k) (by simpa using h1) (by simpa using h2)]
theorem nH.num{ks:List Int}(h:nH ks):∃n,n<64/\ks=[((n/8:Nat):Int),((n % 8:Nat):Int)]:=by
 obtain⟨i,j,hi,hj,rfl⟩:=h;refine⟨8*i+j,by omega,?_⟩
 rw[show(8*i+j)/8=i by omega,show(8*i+j) % 8=j by omega]
theorem nH.iK{ks:List Int}(h:nH ks):ad7 (hT ks):=by
 obtain⟨n,hn,rfl⟩:=h.num;have:=agc.mp adN n (age.mpr hn);unfold HE at this;rw[af5,agc,agc]at this;refine⟨λm hm=>this.1 m ?_,λm hm=>this.2 m ?_⟩
 ·rcases hm with rfl|rfl|rfl<;>decide
 ·rcases hm with rfl|rfl<;>decide
theorem nH.inj{a b:List Int}(ha:nH a) (hb:nH b) (h:hT a=hT b):a=b:=by
 obtain⟨n,hn,rfl⟩:=ha.num;obtain⟨k,hk,rfl⟩:=hb.num;have h1:((ι 64).map hP)[n]? = ζ (hP n):=by rw[agv,ajW hn];rfl
 have h2:((ι 64).map hP)[k]? = ζ (hP n):=by
  rw[agv,ajW hk];exact congrArg ζ h.symm
 rw[HX adP h1 h2]
abbrev aa4(q:List Int×Ψ):Int×Δ:=(hT q.1,.ref q.2)
def EW(P:τ) (w:υ) (Y:Ψ->Prop) (h:ψ) (a:Ψ) (ks:List (List Int)):Prop:=∃o es ep t,∃L:List (List Int×Ψ),h.get? a=ζ o/\o.ExactSet/\o.data=.set es ep t/\vJ t es/\es.toList=L.map aa4/\(∀q∈L,nH q.1/\IsTupleKey (intKind P w) h q.1 q.2)/\(L.map (·.1)).Perm ks/\∀q∈L,Y q.2
section
variable {prog:τ}{w:υ}{A:χ}{s:Ω}{E:Δ->Ω->Prop}
theorem IsTupleKey.at{h h':ψ}{k:List Int}{y:Ψ}(x:IsTupleKey (intKind prog w) h k y) (e:∀o,h.get? y=ζ o->h'.get? y=ζ o):IsTupleKey (intKind prog w) h' k y :=
 let⟨o,it,n,h1,r⟩:=x;⟨o,it,n,e o h1,r⟩
theorem EW.at{Y:Ψ->Prop}{h h':ψ}{a:Ψ}{ks:List (List Int)}(x:EW prog w Y h a ks) (k:∀b,(b=a\/Y b)->∀o,h.get? b=ζ o->h'.get? b=ζ o):EW prog w Y h' a ks :=
 let⟨o,es,ep,t,L,ho,h1,h2,h3,h4,h5,h6,h7⟩:=x
 ⟨o,es,ep,t,L,k a (.inl rfl) o ho,h1,h2,h3,h4,λq hq=>⟨(h5 q hq).1,IsTupleKey.at (h5 q hq).2 (k q.2 (.inr (h7 q hq)))⟩,h6,h7⟩
end
def bx:D->Option (List Int)
 |.tup [.int i,.int j]=>if 0<=i/\i<8/\0<=j/\j<8 then ζ [i,j]else η
 |_=>η
end L2
namespace HT
open PySem PySem.Spec PyProof.Rows
section
variable {prog:τ}{w:υ}{A:χ}{E:Δ->Ω->Prop}{s:Ω}
theorem QM{k:Int}{tk:Tok}{l:Ψ}{items:Array Δ}{Q:Δ->Ω->Prop}(ht:IsTup s.heap l items) (h:Q .notImplemented s):wpAny (model prog w) A (call (.builtin "int.__rmul__") [.int k tk,.ref l]) Q E s:=by
 obtain⟨o,hg,hc,n,hd⟩:=ht;refine agL ah0 (ahJ s k tk) F.entry_int_rmul ?_ (F.args_int_rmul_2 _ _);show wpAny _ _ (asInt? (.ref l) >>= _) _ _ s;unfold asInt?;refine afS (afS (wpAny_load hg ?_));rw[hd];refine afT ?_;refine afS (ah2 ?_);exact afT ⟨_,rfl,h⟩
theorem Xj{l:Ψ}{items:Array Δ}{k:Int}{tk:Tok}{Q:Δ->Ω->Prop}(ht:IsTup s.heap l items) (h0:items.size≠0) (h1:1<k) (hk:k<2^63) (h2:items.size*k.toNat<=ε)
  (h:Q (.ref s.heap.objs.size) {s with heap:=s.heap.push {cls:=.type "tuple",data:=.seq (List.foldl (λx1 x2=>x1++x2) #[] (ν k.toNat items))} })
  (hsz:(List.foldl (λx1 x2=>x1++x2) #[] (ν k.toNat items)).size<=ε):wpAny (model prog w) A (call (.builtin "tuple.__mul__") [.ref l,.int k tk]) Q E s:=by
 refine agL F.slot_tuple_mul ht.typeIs F.entry_tuple_mul ?_ (F.args_tuple_mul_2 _ _);have hi:(items.size:Int)*k=((items.size*k.toNat:Nat):Int):=by
  rw[Int.natCast_mul,ai0 (by omega)]
 have hem:items.isEmpty=θ:=by
  rw[Array.isEmpty];simp[h0]
 have n1:¬((decide (k < -2^63)||decide (k ≥ 2^63))=Γ):=by
  have a:¬k < -2^63:=by omega
  have b:¬k ≥ 2^63:=by omega
  rw[decide_eq_false a,decide_eq_false b]
  decide
 show wpAny _ _ (if(decide (k < -2^63)||decide (k ≥ 2^63))=Γ then _ else _) _ _ s
 rw[if_neg n1];show wpAny _ _ (Builtin.Tuple.tupleItemsOf (.ref l) >>= _) _ _ s;refine afS (ahY ht ?_);have n2:¬((items.isEmpty||k==1)=Γ):=by
  rw[hem];have:¬k=1:=by omega
  simp[this]
 show wpAny _ _ (if(items.isEmpty||k==1)=Γ then _ else _) _ _ s
 rw[if_neg n2];have n3:¬((decide (k<=0)||items.isEmpty)=Γ):=by
  rw[hem];have:¬k<=0:=by omega
  simp[this]
 show wpAny _ _ (if(decide (k<=0)||items.isEmpty)=Γ then _ else _) _ _ s
 rw[if_neg n3];have n4:¬((items.size:Int)*k>(2^63-1)/8):=by
  rw[hi];have:(ε:Nat)<=(2^63-1)/8:=by decide
  omega
 show wpAny _ _ (if(items.size:Int)*k>(2^63-1)/8 then _ else _) _ _ s
 rw[if_neg n4];have n5:¬(Builtin.Tuple.tupleTooMany ((items.size:Int)*k)=Γ):=by
  unfold Builtin.Tuple.tupleTooMany;rw[hi];intro q;have:=of_decide_eq_true q;omega
 show wpAny _ _ (if Builtin.Tuple.tupleTooMany ((items.size:Int)*k)=Γ then _ else _) _ _ s
 rw[if_neg n5]
 first
  |exact afS (m:=Builtin.Tuple.tupleExact _) (agw (afT ⟨_,rfl,afT h⟩) hsz)
  |exact afS (m:=Builtin.Tuple.tupleExact _) (agw (afT ⟨_,rfl,h⟩) hsz)
  |exact afS (afS (m:=Builtin.Tuple.tupleExact _) (agw (afT (afT ⟨_,rfl,afT h⟩)) hsz))
theorem O0{sl:Ψ}{vl vu vs:Δ}{n:Nat}{Q:Int×Int×Nat->Ω->Prop}(hs:s.heap.IsSliceOf sl vl vu vs) (pl:aaq vl η) (pu:aaq vu η) (pk:aaq vs (ζ (-1)))
  (h:Q ((n:Int)-1,-1,n) s):wpAny (model prog w) A (Builtin.Slice.sliceApplied (.ref sl) (pure (n:Int))) Q E s:=by
 obtain⟨os,hos,hcs,hds⟩:=id hs;unfold Builtin.Slice.sliceApplied Builtin.Slice.sliceFields;refine afS (afS (agT hos hds (x:=vl) rfl (afS (agT hos hds (x:=vu) rfl (afS (agT hos hds (x:=vs) rfl (afT ?_)))))));refine afS (uq pk ?_);show wpAny _ _ (if((-1:Int)==0)=Γ then _ else _) _ _ s
 rw[if_neg (by decide)]
 refine afS (uq pl (afS (uq pu (afS (afT ?_)))));have e:Builtin.Slice.slicePlaces ((n:Int)-1) (-1) (-1)=n:=by
  unfold Builtin.Slice.slicePlaces;rw[if_neg (by decide)]
  by_cases q:(n:Int)-1 > -1
  ·rw[if_pos q];show(((n:Int)-1 - -1-1)/1+1).toNat=n;rw[Int.ediv_one];omega
  ·rw[if_neg q];omega
 show wpAny _ _ (pure ((n:Int)-1,(-1:Int),Builtin.Slice.slicePlaces ((n:Int)-1) (-1) (-1))) _ _ s;rw[e];exact afT h
theorem Ka{α β:Type}{f:α->Option β}{g:α->β}:∀{l:List α},(∀m∈l,f m=ζ (g m))->l.filterMap f=l.map g
 |[],_=>rfl
 |a::l,h=>by rw[ahj,h a (.head _),af8,Ka λm hm=>h m (.tail _ hm)]
theorem SD(xs:Array Δ):((ι xs.size).filterMap fun(m:Nat)=>xs[((xs.size:Int)-1+(m:Int)*(-1)).toNat]?)=xs.toList.reverse:=by
 have e:∀m∈ι xs.size,xs[((xs.size:Int)-1+(m:Int)*(-1)).toNat]? = ζ (xs.toList.reverse.getD m .none):=λm hm=>by
  have hm:=age.mp hm;have a:((xs.size:Int)-1+(m:Int)*(-1)).toNat=xs.size-1-m:=by omega
  rw[a,agi,List.getElem?_reverse (by simpa using hm),agq,ahf,ahw (by omega)]
  rfl
 rw[Ka e];apply aic
 ·simp
 ·intro i h1 h2;simp only[ai1,ah8];rw[agi,af2 h2];rfl
theorem aau{t sl:Ψ}{items:Array Δ}{vl vu vs:Δ}{Q:Δ->Ω->Prop}(ht:IsTup s.heap t items) (hs:s.heap.IsSliceOf sl vl vu vs) (pl:aaq vl η) (pu:aaq vu η) (pk:aaq vs (ζ (-1)))
  (h:Q (.ref s.heap.objs.size) {s with heap:=s.heap.push {cls:=.type "tuple",data:=.seq items.toList.reverse.toArray} })
  (hsz:items.size<=ε):wpAny (model prog w) A (getItem (.ref t) (.ref sl)) Q E s:=by
 have k9:sizeOk (.seq items.toList.reverse.toArray):=by
  show items.toList.reverse.toArray.size<=ε;rw[af0,ai2,agq];exact hsz
 obtain⟨os,hos,hcs,hds⟩:=id hs;have lq:s.TypeIs (.ref sl) "slice":=⟨os,hos,hcs⟩;unfold getItem
 try with_reducible refine agR ?_
 first|refine afS (afT ?_)|skip
 refine afS (aiE ht.typeIs (by decide) ?_)
 refine afS (ahb (name:=Str.ofString "__getitem__") ht.typeIs agX
  (agL agX ht.typeIs aiF ?_ (aiG _ _)))
 show wpAny _ _ (Builtin.Tuple.tupleItemsOf (.ref t) >>= _) _ _ s;refine afS (ahY ht ?_);refine afS (ahH lq ?_);rw[if_pos (by decide)]
 refine afS (O0 hs pl pu pk ?_);have hno:¬(((items.size:Int)-1==0&&(-1:Int)==1&&items.size==items.size)=Γ):=by
  intro q;rw[af5,af5]at q;exact absurd q.1.2 (by decide)
 show wpAny _ _ (if((items.size:Int)-1==0&&(-1:Int)==1&&items.size==items.size)=Γ then _ else _) _ _ s
 rw[if_neg hno,SD]
 first
  |exact afS (m:=Builtin.Tuple.tupleExact _) (agw (afT ⟨_,rfl,afT h⟩) k9)
  |exact afS (m:=Builtin.Tuple.tupleExact _) (agw (afS (afT (afT ⟨_,rfl,afT h⟩))) k9)
  |exact afS (afS (m:=Builtin.Tuple.tupleExact _) (agw (afT (afT ⟨_,rfl,afT h⟩)) k9))
  |exact afS (afS (m:=Builtin.Tuple.tupleExact _) (agw (afT ⟨_,rfl,afT h⟩) k9))
end
end HT
namespace L2
open PySem PySem.Spec PyProof.Rows
def uF:D->D->aa->R D:=λx y c=>match x,y with
 |.tup l,.int k=>if l.length≠0/\1<k/\k<2^63/\l.length*k.toNat<=ε then .ok (.tup (ν k.toNat l).flatten) c else .bad
 |_,_=>.bad
def Q9(K:ξ):R2:=λx y H Q=>∃a k xs,x=.ref a/\y=.int k/\bU K H a xs/\xs.length≠0/\1<k/\k<2^63/\xs.length*k.toNat<=ε /\
 ∀p,H p=η->Q (.ref p) (upd H p (.tup (ν k.toNat xs).flatten))
theorem TM{X:Cx}:bK X (binaryOp .Mult) (Q9 X.K):=by
 intro pins s σ H x y v u Q I rx ry h;obtain⟨l,k,xs,rfl,rfl,hH,h0,h1,h2,hz,q⟩:=h;cases rx;obtain⟨t,rfl⟩:=ry;obtain⟨its,r,ht,hs⟩:=I.tuple hH;have hlen:its.toArray.size=xs.length:=by rw[af0];exact r.length.symm
 have hnew:List.foldl (λx1 x2=>x1++x2) #[] (ν k.toNat its.toArray)=(ν k.toNat its).flatten.toArray:=by
  have:=foldl_rep its k.toNat [];rw[af9]at this;exact this
 have hl2:(ν k.toNat xs).flatten.length<=ε:=by rw[len_rep,Nat.mul_comm];exact hz
 have hrr:=r.rep k.toNat;refine ajh (T:="tuple") (U:="int") (id:="tuple.__mul__") (by decide) ht.typeIs (λs'=>ahJ s' k t) (by with_unfolding_all rfl) F.fills_int_mul ah0 (by with_unfolding_all rfl) F.slot_int_index.lookup
  (HT.QM ht ⟨rfl,ht.typeIs,HT.Xj ht (by rw[hlen];exact h0) h1 h2 (by rw[hlen];exact hz) ?_ (by rw[hnew,af0,<-hrr.length];exact hl2)⟩)
 rw[hnew];refine⟨.ref s.heap.objs.size,_,I.laid (t':=s.toks) (o:=.tup (ν k.toNat xs).flatten) (λb ob q=>afY _ q) (afU _) ?_,rfl,q _ (I.hok.fresh (afU _))⟩
 exact⟨hl2,_,hrr,jn.new _ _⟩
theorem UN{X:Cx}:bK X (binaryOp .Mult) (r2 X.K uF):=by
 intro pins s σ H v u vv uu Q I rv ru h;obtain⟨ρ,x,y,c,W,rx,ry,p⟩:=h;unfold uF at p;split at p
 ·split at p
  ·rename_i hl;obtain⟨a,xs,rfl,sa,ra⟩:=rx;cases ry;exact TM pins s σ H _ _ vv uu Q I rv ru ⟨a,_,xs,rfl,rfl,bU.of sa,by rw[ra.length];exact hl.1,hl.2.1,hl.2.2.1,by rw[ra.length];exact hl.2.2.2,oH W (aH.rep ra _) p⟩
  ·exact p.elim
 ·exact p.elim
section
variable {X:Cx}{e sx:ο}{te:TE}{lo hi:Option ο}{tl th ts:TO}{pos p2:Pos}
def Q8(K:ξ):V->Option Int->Option Int->Option Int->Hp->VK->Prop:=λx lo hi st H Q=>∃a xs,x=.ref a/\bU K H a xs/\lo=η/\hi=η/\st=ζ (-1)/\∀p,H p=η->Q (.ref p) (upd H p (.tup xs.reverse))
def Oo(K:ξ) (te:TE) (tl th ts:TO):TE:=λσ H Q=>te σ H λx H1=>tl σ H1 λl H2=>th σ H2 λu H3=>ts σ H3 λk H4=>Q8 K x l u k H4 Q
theorem SV(he:PE X e te) (hl:PO X lo tl) (hu:PO X hi th) (hk:PO X (ζ sx) ts):PE X (.Subscript e (.Slice lo hi (ζ sx) p2) pos) (Oo X.K te tl th ts):=by
 intro pins s σ H Q I h;refine Subscript_ (br (he pins s σ H _ I h) λv s1 ⟨x,H1,I1,r1,q1⟩=>?_)
 refine wpAny_Slice (br (hl pins s1 σ H1 _ I1 q1) λvl s2 ⟨l,H2,I2,pl,q2⟩=>br (hu pins s2 σ H2 _ I2 q2) λvu s3 ⟨u,H3,I3,pu,q3⟩=>br (hk pins s3 σ H3 _ I3 q3) λvk s4 ⟨k,H4,I4,pk,q4⟩=>?_)
 have I5:Inv X pins σ H4 {s4 with heap:=s4.heap.push {cls:=.type "slice",data:=.fields #[vl,vu,vk]} }:=I4.kept (t':=s4.toks) λb ob q=>afY _ q
 obtain⟨a,xs,rfl,hx,rfl,rfl,rfl,q⟩:=q4;cases r1;obtain⟨its,r,ht,hz⟩:=I5.tuple hx;have hlen:its.toArray.size=xs.length:=by rw[af0];exact r.length.symm
 show wpAny (model X.prog X.w) X.A (subscriptTail e (.Slice lo hi (ζ sx) p2) (.ref a) (.ref s4.heap.objs.size)) (EP X pins σ Q) X.xe {s4 with heap:=s4.heap.push {cls:=.type "slice",data:=.fields #[vl,vu,vk]} }
 refine tail_any (ops:=[.ref a,.ref s4.heap.objs.size]) ht.typeIs agX.lookup (HT.aau ht (Heap.IsSliceOf.new ..) pl pu pk ?_ (by rw[hlen];exact hz)) (by with_unfolding_all rfl)
 refine⟨.ref _,_,I5.laid (o:=.tup xs.reverse) (t':=s4.toks) (λb ob q=>afY _ q) (afU _) ?_,rfl,q _ (I5.hok.fresh (afU _))⟩
 exact⟨by rw[ai2];exact hz,_,r.reverse,jn.new _ _⟩
def vm(a:af) (l h k:Ev->aa->R (Option Int)):af:=λe c=>(a e c).bind λx c=>(l e c).bind λl c=>(h e c).bind λu c=>(k e c).bind λk c=>match x with
 |.tup xs=>if l=η/\u=η/\k=ζ (-1)then .ok (.tup xs.reverse) c else .bad
 |_=>.bad
theorem GO{K:ξ}{ρ:List Ψ}{H:Hp}:∀{l:List D}{xs:List V},aH K ρ H l xs->aH K ρ H l.reverse xs.reverse
 |[],xs,r=>by cases r;rfl
 |d::l,xs,r=>by
  obtain⟨x,ys,rfl,rx,r⟩:=r;rw[aho,aho];exact aH.append (GO r) ⟨x,[],rfl,rx,rfl⟩
theorem Td{da:af}{dl dh dk:Ev->aa->R (Option Int)}(he:aW X e da) (hl:mq X lo dl) (hh:mq X hi dh) (hk:mq X (ζ sx) dk):aW X (.Subscript e (.Slice lo hi (ζ sx) p2) pos) (vm da dl dh dk) :=
 (SV he hl hh hk).imp λσ H Q h=>by
  obtain⟨ρ,e,c,W,Vv,p⟩:=h;refine⟨ρ,e,c,W,Vv,post.bind p λx c1 aG H1 v _ W1 X1 r1 p1=>⟨aG,e,c1,W1,Vv.mono W X1,post.bind p1 λl c2 cz H2 l' _ W2 X2 r2 p2=>⟨cz,e,c2,W2,(Vv.mono W X1).mono W1 X2,post.bind p2 λu c3 kG H3 u' _ W3 X3 r3 p3=>⟨kG,e,c3,W3,((Vv.mono W X1).mono W1 X2).mono W2 X3,post.bind p3 λk c4 mC H4 k' _ W4 X4 r4 p4=>?_⟩⟩⟩⟩
  cases r2;cases r3;cases r4;have rx:=Rel.mono W1 ((X2.trans X3).trans X4) _ _ r1;split at p4
  ·split at p4
   ·rename_i hk0;obtain⟨a,ys,rfl,ha,r⟩:=rx;exact⟨a,ys,rfl,bU.of ha,hk0.1,hk0.2.1,hk0.2.2,oH W4 (GO r) p4⟩
   ·exact p4.elim
  ·exact p4.elim
end
section
variable {X:Cx}
def su(a:aj):af:=λe c=>(a e c).bind λxs c=>match xs with
 |[x]=>match xO c x with
  |some ns=>.ok (.lst (nD (dF ns))) c
  |none=>.bad
 |_=>.bad
theorem Tc{a:ο}{da:aj}{p0 p1 q0 q1:Pos}(ha:gX X [a] da) (hm:X.mg "sorted"=η) (hm2:X.mg "set"=η) (hg:Gl X "sorted":=by rfl) (ZQ:Gl X "set":=by rfl) (hc:X.calm=Γ:=by rfl)
  (he:μ [a] X.env=(θ,eval a X.env)::μ [] X.env:=by exact cj rfl) :
  aW X (.Call (.Name "sorted" p0) [.Call (.Name "set" p1) [a] [] q1] [] q0) (su da):=by
 have h1:PE X (.Call (.Name "set" p1) [a] [] q1) _:=Ho (aco hc) ZQ hm2 (by decide +kernel) ha (by decide) (by decide) he (by exact iA rfl)
 refine(Hq (acm hc) hg hm (by decide +kernel) (je h1 kQ (cj rfl)) (by decide) (by decide) (by exact cj rfl) (by exact iA rfl)).imp λσ H Q h=>?_
 obtain⟨ρ,e,c,W,V,p⟩:=h;refine⟨ρ,e,c,W,V,post.bind p λxs c1 aG H1 vs ex W1 X1 r1 p1=>?_⟩
 clear ex;split at p1
 ·rename_i x;obtain⟨v,r,rfl,hx,hr⟩:=r1;cases hr;split at p1
  ·rename_i ns hn;obtain⟨ad,rfl,sq,h64,hx'⟩:=Wt W1 hx hn;refine⟨ad,ns,rfl,sq,h64,hx',λpa hpa=>⟨pa,ns,rfl,gw,h64,λq hq=>?_⟩⟩
   exact rO (W1.fresh hpa) (QW _) (post.ext p1 (Ext.fresh W1 hpa)) q hq
  ·exact p1.elim
 ·exact p1.elim
end
variable (e:Ev) (c:aa)
@[simp] theorem MK(a:af) (l h k:Ev->aa->R (Option Int)):vm a l h k e c=(a e c).bind λx c=>(l e c).bind λl c=>(h e c).bind λu c=>(k e c).bind λk c=>match x with
 |.tup xs=>if l=η/\u=η/\k=ζ (-1)then .ok (.tup xs.reverse) c else .bad
 |_=>.bad:=rfl
end L2
namespace Ev
open PySem L2 PyProof.Rows
def top(i:Nat):aag:=PySem.Challenge.pw_evenwebs_k02_no_webs_and_no_pairs.main.body.getD i (.Pass ⟨0,0,0,0⟩)
abbrev qW:aag:=top 14
abbrev qV:aag:=top 15
abbrev qY:aag:=top 18
abbrev rm:aag:=top 19
abbrev rj:aag:=top 20
abbrev qX:aag:=top 21
abbrev qZ:aag:=top 22
abbrev rq:aag:=top 23
abbrev qA:aag:=top 24
abbrev qz:aag:=top 25
abbrev nX:aag:=top 26
abbrev qQ:aag:=top 28
abbrev qJ:aag:=top 29
abbrev qE:aag:=top 30
abbrev qL:aag:=top 31
abbrev qP:aag:=top 32
abbrev qG:aag:=top 33
abbrev qM:aag:=top 34
abbrev qK:aag:=top 35
abbrev qN:aag:=top 36
abbrev qD:aag:=top 37
abbrev qT:aag:=top 38
abbrev qR:aag:=top 39
abbrev qH:aag:=top 40
abbrev qB:aag:=top 41
abbrev qO:aag:=top 42
abbrev qI:aag:=top 43
abbrev qS:aag:=top 44
abbrev qC:aag:=top 45
abbrev qU:aag:=top 46
def XY(st:aag):ο:=match(ck st).getLast? with
 |some (.Return (ζ (.Call _ [_,e] _ _)) _)=>e
 |_=>.Name "" ⟨0,0,0,0⟩
def nK:ο:=XY nX
def eg:List Str:=["NoWeb","NoText","NoNumbers","NoField","NoThing","NoSquare","NoPlaces","TooMany","NoName","NoDeed","NoRow"]
def fL:ah :=
 (aR (fH (aF bC (ao (ak 0) (ao (dC (.ty "int")) aq))) (jO (aF bC (ao (ak 0) (ao (dC (.ty "bool")) aq))))))
def gH:List D->aa->R D:=cy 1 θ fL
def fK:ah :=
 (aR (fH (aC 1 gH (ao (ak 0) aq)) (iJ gT gT (ak 1) (ak 0) (ak 2))))
def fm:List D->aa->R D:=cy 3 θ fK
def iW:ah :=
 (aR (aC 3 fm (ao (ak 0) (ao (dC (.int 0)) (ao (ay eV (ak 1) (dC (.int 1))) aq)))))
def fS:List D->aa->R D:=cy 2 θ iW
def nC:ah :=
 (aD (bB (dI (aO (aF bC (ao (ak 0) (ao (dC (.ty "tuple")) aq))))) (aR (dC (.bl θ))) bN) (aD (aE 2 (dC (.int 0))) (aD (b8 (eE (ak 0)) (aA 3) (aD (bB (dI (aO (aC 3 fm (ao (ak 3) (ao (ak 2) (ao (ay eV (ak 1) (dC (.int 1))) aq)))))) (aR (dC (.bl θ))) bN) (aE 2 (ay bf (ak 3) (dC (.int 1)))))) (aR (dC (.bl Γ))))))
def iT:List D->aa->R D:=cy 4 θ nC
def pV:ah :=
 (aR (fH (ay mV (ak 1) (ay aK (ak 0) (ak 1))) (aF dJ (ao (bg (eE (ay aK (ak 0) (ak 1))) [η,ζ 1,ζ 0] (aA 0) aT (ay inD (ak 1) (ay aK (ak 2) (ak 0)))) aq))))
def mZ:List D->aa->R D:=cy 2 θ pV
def jR:ah :=
 (aD (bB (iU (dI (aO (aF bC (ao (ak 0) (ao (dC (.ty "tuple")) aq))))) (dI (aO (iJ gT gT (dC (.int 1)) (aF bF (ao (ak 0) aq)) (dC (.int 50)))))) (aR (dC (.bl θ))) bN) (aD (aE 1 (aF bF (ao (ak 0) aq))) (aD (bB (dI (aO (aF dJ (ao (bg (eE (ak 0)) [η,ζ 1] (aA 0) aT (aC 2 iT (ao (ak 0) (ao (ak 1) aq)))) aq)))) (aR (dC (.bl θ))) bN) (aR (aF dJ (ao (bg (bH (ao (ak 1) aq)) [η,ζ 0] (aA 0) aT (aC 2 mZ (ao (ak 1) (ao (ak 0) aq)))) aq))))))
def fR:List D->aa->R D:=cy 2 θ jR
def gk:ah :=
 (aD (bB (iU (dI (aO (aF bC (ao (ak 0) (ao (dC (.ty "tuple")) aq))))) (aO (ay eX (aF bF (ao (ak 0) aq)) (dC (.int 2))))) (aR (dC (.bl θ))) bN) (aR (fH (aC 2 fS (ao (ay aK (ak 0) (dC (.int 0))) (ao (ak 1) aq))) (fH (aC 2 fS (ao (ay aK (ak 0) (dC (.int 1))) (ao (ak 1) aq))) (ay eX (ay aK (ak 0) (dC (.int 0))) (ay aK (ak 0) (dC (.int 1))))))))
def dH:List D->aa->R D:=cy 2 θ gk
def lC:ah :=
 (aR (fH (aF bC (ao (ak 0) (ao (dC (.ty "list")) aq))) (aF dJ (ao (bg (cV (ak 0)) [η,ζ 1] (aA 0) aT (aC 2 dH (ao (ak 0) (ao (ak 1) aq)))) aq))))
def jC:List D->aa->R D:=cy 2 θ lC
def m5:af :=
 (ay x6 (aU (ao (ak 0) (ao (ak 1) aq))) (ak 2))
def lams:List (ο×List Str×(List D->aa->R D)):=[(nK,["joined"],xW m5)]
def sW:ah :=
 (aR (aF fV (ao (bg (bH (ao (ak 0) aq)) [η,ζ 1,ζ 2] (aA 0) (ko (aO (ay eX (ak 0) (ak 1))) (aO (pH 2 2 lams (ao (ak 1) (ao (ak 0) aq))))) (ak 0)) aq)))
def iF:List D->aa->R D:=cy 3 θ sW
def sV:ah :=
 (aR (aF fV (ao (bg (bH (ao (ak 0) aq)) [η,ζ 0,ζ 1] (aA 0) aT (aC 3 iF (ao (ak 1) (ao (ak 0) (ao (ak 2) aq))))) aq)))
def j8:List D->aa->R D:=cy 2 θ sV
def pP:ah :=
 (aD (bB (dI (aO (aC 2 jC (ao (ak 1) (ao (ak 0) aq))))) uD bN) (aD (mR 1 2 3) (aR (sE 0 j8 (ak 0) nK ["joined"] [2]))))
def rS:List D->aa->R D:=cy 4 θ pP
def zf:Xd :=
 (zZ (dI (aO (aC 2 jC (ao (ak 1) (ao (ak 0) aq))))) (z3 "NoPlaces") Fv)
def vX:List D->aa->R Str:=fnX 4 zf
def pT:ah :=
 (aD (bB (aO (ay fE (ak 1) (aF bF (ao (ak 0) aq)))) (aR (ay aK (ak 0) (ak 1))) bN) (aR (dC (.int 0))))
def oV:List D->aa->R D:=cy 2 θ pT
def pS:ah :=
 (aD (bB (aO (ay JM (ak 0) (ay rD (dC (.int 10)) (dC (.int 18))))) (aR (fU (ao (ay eV (ak 0) (ay rD (dC (.int 10)) (dC (.int 18)))) aq))) bN) (aD (aE 1 (dC (.int 0))) (aD (b8 (bH (ao (dC (.int 64)) aq)) (aA 2) (aD (aE 3 (ay cI (ay dU (ay bf (ay bf (ay cI (ak 0) (dC (.int 2147483629))) (ay dU (dC (.int 7919)) (ak 2))) (dC (.int 1))) (dC (.int 48271))) (dC (.int 2147483647)))) (aD (aE 3 (ay cI (ay bf (ay bf (ay dU (ak 3) (ak 3)) (ay dU (dC (.int 69621)) (ak 2))) (dC (.int 7))) (dC (.int 2147483587)))) (aE 1 (ay bf (ay dU (ak 1) (dC (.int 2147483587))) (ak 3)))))) (aR (fU (ao (ak 1) aq))))))
def oR:List D->aa->R D:=cy 4 Γ pS
def pR:ah :=
 (aD (aE 2 (ay cI (ay aK (ak 0) (dC (.int 0))) (ak 1))) (aD (iB (ay eN (ay aK (ak 0) (dC (.int 0))) (ak 1)) (iH (ak 0) (dC (.int 0)))) (aR (ak 2))))
def aN:List D->aa->R D:=cy 3 θ pR
def tE:ah :=
 (aD (aE 2 (fU aq)) (aD (b8 (bH (ao (ak 1) aq)) (aA 3) (dQ (vn (ak 2) (aC 2 aN (ao (ak 0) (ao (ay bf (ak 3) (dC (.int 1))) aq))) (ak 3)))) (aR (aF fV (ao (ak 2) aq)))))
def mY:List D->aa->R D:=cy 4 θ tE
def tK:ah :=
 (aD (aE 2 (bg (bH (ao (ak 0) aq)) [η,ζ 0] (aA 0) aT (ay jX (bT (ao (dC (.bl θ)) aq)) (ak 1)))) (aD (b8 (cV (ak 1)) (e9 2 (cA (aA 3) (cA (aA 4) fq))) (aD (iB (dC (.bl Γ)) (iH (ay aK (ak 2) (ak 3)) (ak 4))) (iB (dC (.bl Γ)) (iH (ay aK (ak 2) (ak 4)) (ak 3))))) (aR (ak 2))))
def jB:List D->aa->R D:=ly 5 tK
def sY:ah :=
 (aD (aE 2 (ay bf (dC (.int 1)) (aC 2 aN (ao (ak 0) (ao (ak 1) aq))))) (aD (aE 3 (ay bf (dC (.int 1)) (aC 2 aN (ao (ak 0) (ao (dC (.int 5)) aq))))) (aD (aE 4 (fU aq)) (aD (b8 (bH (ao (ak 2) aq)) (aA 5) (dQ (ee (ak 4) (bg (gi (ao (ay bf (ak 5) (dC (.int 1))) (ao (ak 2) aq))) [η,ζ 5,ζ 3,ζ 0] (aA 0) (aO (ay fE (aC 2 aN (ao (ak 3) (ao (dC (.int 6)) aq))) (ak 2))) (aU (ao (ak 1) (ao (ak 0) aq))))))) (aR (aC 2 jB (ao (ak 2) (ao (ak 4) aq))))))))
def kY:List D->aa->R D:=cy 6 θ sY
def tF:ah :=
 (aD (aE 2 (fU aq)) (aD (b8 (bH (ao (ak 0) aq)) (aA 3) (b8 (gi (ao (ay bf (ak 3) (dC (.int 1))) (ao (ak 0) aq))) (aA 4) (bB (aO (aF pY (ao (bg (cV (ay aK (ak 1) (ak 3))) [η,ζ 1,ζ 4] (aA 0) aT (ay inD (ak 0) (ay aK (ak 1) (ak 2)))) aq))) (dQ (vo (ak 2) (aU (ao (ak 3) (ao (ak 4) aq))))) bN))) (aR (ak 2))))
def kg:List D->aa->R D:=cy 5 θ tF
def tw:ah :=
 (aD (aE 2 (aC 2 aN (ao (ak 0) (ao (dC (.int 6)) aq)))) (aD (aE 3 (ay bf (dC (.int 1)) (aC 2 aN (ao (ak 0) (ao (ak 1) aq))))) (aD (aE 4 (fU aq)) (aD (bB (aO (ay cT (ak 2) (dC (.int 0)))) (aD (aE 5 (bg (gi (ao (dC (.int 1)) (ao (ay bf (ay eN (ak 3) (dC (.int 2))) (dC (.int 1))) aq))) [η,ζ 0] (aA 0) (aO (ay cT (aC 2 aN (ao (ak 1) (ao (dC (.int 2)) aq))) (dC (.int 1)))) (ak 0))) (b8 (cV (ak 5)) (aA 6) (dQ (ee (ak 4) (bg (bH (ao (ak 3) aq)) [η,ζ 3,ζ 6] (aA 0) aT (aU (ao (ak 0) (ao (ay cI (ay bf (ak 0) (ak 2)) (ak 1)) aq)))))))) (bB (aO (ay cT (ak 2) (dC (.int 1)))) (aD (aE 7 (ay aK (bT (ao (dC (.int 2)) (ao (dC (.int 3)) (ao (dC (.int 4)) (ao (dC (.int 5)) aq))))) (aC 2 aN (ao (ak 0) (ao (dC (.int 4)) aq))))) (aD (aE 8 (fU aq)) (aD (b8 (bH (ao (ak 7) aq)) (aA 9) (dQ (ee (ak 8) (bg (gi (ao (ay bf (ak 9) (dC (.int 1))) (ao (ak 7) aq))) [η,ζ 9] (aA 0) aT (bT (ao (ak 1) (ao (ak 0) aq))))))) (aD (aE 3 (aF eZ (ao (aF bF (ao (ak 8) aq)) (ao (ak 1) aq)))) (aE 4 (aC 2 kg (ao (ak 3) (ao (ak 8) aq)))))))) (bB (aO (ay fE (ak 2) (dC (.int 4)))) (aD (aE 10 (ay bf (dC (.int 1)) (aC 2 aN (ao (ak 0) (ao (aF eZ (ao (dC (.int 4)) (ao (ak 1) aq))) aq))))) (aD (aE 11 (ay bf (dC (.int 1)) (aC 2 aN (ao (ak 0) (ao (aF eZ (ao (dC (.int 4)) (ao (ay eN (ak 1) (ak 10)) aq))) aq))))) (aD (aE 3 (ay dU (ak 10) (ak 11))) (aD (aE 8 (bg (bH (ao (ak 3) aq)) [η,ζ 11] (aA 0) aT (bT (ao (ay eN (ak 0) (ak 1)) aq)))) (aD (bB (aO (ay cT (ak 2) (dC (.int 2)))) (aE 8 (bg (bH (ao (ak 3) aq)) [η,ζ 11] (aA 0) aT (bT (ao (ay eN (ak 0) (ak 1)) (ao (ay bf (dC (.int 10)) (ay cI (ak 0) (ak 1))) aq))))) bN) (aE 4 (aC 2 kg (ao (ak 3) (ao (ak 8) aq))))))))) (bB (aO (ay cT (ak 2) (dC (.int 4)))) (aD (aE 3 (aF eZ (ao (ak 1) (ao (ay aK (bT (ao (dC (.int 5)) (ao (dC (.int 13)) aq))) (aC 2 aN (ao (ak 0) (ao (dC (.int 2)) aq)))) aq)))) (aD (aE 12 (bg (gi (ao (dC (.int 1)) (ao (ak 3) aq))) [η,ζ 3] (aA 0) aT (ay cI (ay dU (ak 0) (ak 0)) (ak 1)))) (b8 (bH (ao (ak 3) aq)) (aA 9) (dQ (ee (ak 4) (bg (gi (ao (ay bf (ak 9) (dC (.int 1))) (ao (ak 3) aq))) [η,ζ 9,ζ 12,ζ 3] (aA 0) (aO (ay inD (ay cI (ay eV (ak 0) (ak 1)) (ak 3)) (ak 2))) (aU (ao (ak 1) (ao (ak 0) aq))))))))) (aD (aE 3 (aF eZ (ao (dC (.int 8)) (ao (ak 1) aq)))) (aD (b8 (bH (ao (ak 3) aq)) (aA 9) (dQ (ee (ak 4) (bg (gi (ao (ay bf (ak 9) (dC (.int 1))) (ao (ak 3) aq))) [η,ζ 9] (aA 0) (aO (ay inD (ay eV (ak 0) (ak 1)) (aU (ao (dC (.int 1)) (ao (dC (.int 2)) (ao (dC (.int 4)) aq)))))) (aU (ao (ak 1) (ao (ak 0) aq))))))) (aE 4 (bg (cV (ak 4)) [η,η] (e9 2 (cA (aA 0) (cA (aA 1) fq))) (aO (ay cT (ay vD (ak 0) (ak 1)) (ak 0))) (aU (ao (ak 0) (ao (ak 1) aq))))))))))) (aR (aC 2 jB (ao (ak 3) (ao (ak 4) aq))))))))
def kZ:List D->aa->R D:=cy 13 θ tw
def tG:ah :=
 (aD (aE 2 (aF bF (ao (ak 0) aq))) (aD (aE 3 (bg (bH (ao (ak 2) aq)) [η,ζ 2] (aA 0) aT (ay jX (bT (ao (dC (.bl θ)) aq)) (ak 1)))) (aD (b8 (bH (ao (ak 2) aq)) (aA 4) (b8 (bH (ao (ak 2) aq)) (aA 5) (iB (ay aK (ay aK (ak 0) (ak 4)) (ak 5)) (iH (ay aK (ak 3) (ay aK (ak 1) (ak 4))) (ay aK (ak 1) (ak 5)))))) (aR (ak 3)))))
def oU:List D->aa->R D:=ly 6 tG
def sX:ah :=
 (aD (aE 3 (bg (cV (ak 0)) [η] (aA 0) aT (aF oZ (ao (ak 0) aq)))) (aD (iB (jO (ay aK (ay aK (ak 3) (ak 1)) (ak 2))) (iH (ay aK (ak 3) (ak 1)) (ak 2))) (aD (iB (jO (ay aK (ay aK (ak 3) (ak 2)) (ak 1))) (iH (ay aK (ak 3) (ak 2)) (ak 1))) (aR (ak 3)))))
def kc:List D->aa->R D:=ly 4 sX
def tM:ah :=
 (aD (aE 1 (aF bF (ao (ak 0) aq))) (aR (bg (bH (ao (ak 1) aq)) [η,ζ 1,ζ 0] (aA 0) aT (bg (bH (ao (ak 1) aq)) [η,ζ 0,ζ 2] (aA 0) aT (fH (ay eX (ak 1) (ak 0)) (jO (ay aK (ay aK (ak 2) (ak 1)) (ak 0))))))))
def k6:List D->aa->R D:=cy 2 θ tM
def tL:ah :=
 (aD (bB (aO (ay fE (aC 2 aN (ao (ak 0) (ao (dC (.int 5)) aq))) (dC (.int 2)))) (aE 2 (aC 2 kY (ao (ak 0) (ao (ak 1) aq)))) (aE 2 (aC 2 kZ (ao (ak 0) (ao (ak 1) aq))))) (aD (aE 3 (aF bF (ao (ak 2) aq))) (aD (bB (aO (ay cT (aC 2 aN (ao (ak 0) (ao (dC (.int 3)) aq))) (dC (.int 0)))) (aE 2 (aC 1 k6 (ao (ak 2) aq))) bN) (aD (bB (ko (aO (ay pC (ak 3) (dC (.int 1)))) (aO (ay cT (aC 2 aN (ao (ak 0) (ao (dC (.int 4)) aq))) (dC (.int 0))))) (aD (aE 4 (aC 2 aN (ao (ak 0) (ao (ak 3) aq)))) (aE 2 (aC 3 kc (ao (ak 2) (ao (ak 4) (ao (ay cI (ay bf (ay bf (ak 4) (dC (.int 1))) (aC 2 aN (ao (ak 0) (ao (ay eV (ak 3) (dC (.int 1))) aq)))) (ak 3)) aq)))))) bN) (aR (aC 2 oU (ao (ak 2) (ao (aC 2 mY (ao (ak 0) (ao (ak 3) aq))) aq))))))))
def rV:List D->aa->R D:=cy 5 θ tL
def sZ:ah :=
 (aR (aF fV (ao (bg (cV (ak 0)) [η,ζ 0] (aA 0) aT (aF fV (ao (bg (bH (ao (aF bF (ao (ak 1) aq)) aq)) [η,ζ 0] (aA 0) (aO (ay aK (ak 1) (ak 0))) (ak 0)) aq))) aq)))
def rT:List D->aa->R D:=cy 1 θ sZ
def kr:ah :=
 (aR (fH (aF bC (ao (ak 0) (ao (dC (.ty "int")) aq))) (jO (aF bC (ao (ak 0) (ao (dC (.ty "bool")) aq))))))
def j9:List D->aa->R D:=cy 1 θ kr
def tH:ah :=
 (aD (aE 1 (bT (ao (aF (gb eg) (ao (ak 0) (ao (dC (.fn "NoDeed" 0)) aq))) (ao (aF (gb eg) (ao (ak 0) (ao (dC (.fn "NoField" 0)) aq))) (ao (aF (gb eg) (ao (ak 0) (ao (dC (.fn "NoName" 0)) aq))) (ao (aF (gb eg) (ao (ak 0) (ao (dC (.fn "NoNumbers" 0)) aq))) aq)))))) (aD (aE 1 (ay iw (ak 1) (bT (ao (aF (gb eg) (ao (ak 0) (ao (dC (.fn "NoPlaces" 0)) aq))) (ao (aF (gb eg) (ao (ak 0) (ao (dC (.fn "NoRow" 0)) aq))) (ao (aF (gb eg) (ao (ak 0) (ao (dC (.fn "NoSquare" 0)) aq))) (ao (aF (gb eg) (ao (ak 0) (ao (dC (.fn "NoText" 0)) aq))) aq))))))) (aD (aE 1 (ay iw (ak 1) (bT (ao (aF (gb eg) (ao (ak 0) (ao (dC (.fn "NoThing" 0)) aq))) (ao (aF (gb eg) (ao (ak 0) (ao (dC (.fn "NoWeb" 0)) aq))) (ao (aF (gb eg) (ao (ak 0) (ao (dC (.fn "TooMany" 0)) aq))) aq)))))) (aD (bB (iU (aO (ay eX (DV (ak 1) (dC (.bl Γ))) (dC (.int 1)))) (dI (aO (aF (gb eg) (ao (ak 0) (ao (dC (.ty "ValueError")) aq)))))) (aR (dC (.str "other"))) bN) (aD (aE 2 (bT (ao (dC (.str "deed")) (ao (dC (.str "field")) (ao (dC (.str "name")) (ao (dC (.str "numbers")) (ao (dC (.str "places")) (ao (dC (.str "row")) (ao (dC (.str "square")) (ao (dC (.str "text")) (ao (dC (.str "thing")) (ao (dC (.str "web")) (ao (dC (.str "many")) aq))))))))))))) (aR (ay aK (ak 2) (DU (ak 1) (dC (.bl Γ))))))))))
def xR:List D->aa->R D:=cy 3 θ tH
def ku:ah :=
 (aD (bB (iU (dI (aO (aF bC (ao (ak 0) (ao (dC (.ty "tuple")) aq))))) (dI (aO (iJ gT gT (dC (.int 1)) (aF bF (ao (ak 0) aq)) (dC (.int 50)))))) (aR (dC (.bl θ))) bN) (aD (b8 (nt (ao (ak 0) aq)) (e9 2 (cA (aA 1) (cA (aA 2) fq))) (aD (bB (iU (dI (aO (aF bC (ao (ak 2) (ao (dC (.ty "tuple")) aq))))) (dI (aO (aF dJ (ao (bg (eE (ak 2)) [η,ζ 0] (aA 0) aT (fH (aC 1 j9 (ao (ak 0) aq)) (iJ gT fE (dC (.int 0)) (ak 0) (aF bF (ao (ak 1) aq))))) aq))))) (aR (dC (.bl θ))) bN) (bB (iU (aO (ay mW (su (ao (ak 2) aq)) (aF jE (ao (ak 2) aq)))) (aO (ay inD (ak 1) (ak 2)))) (aR (dC (.bl θ))) bN))) (aD (b8 (nt (ao (ak 0) aq)) (e9 2 (cA (aA 1) (cA (aA 2) fq))) (bB (dI (aO (aF dJ (ao (bg (eE (ak 2)) [η,ζ 1,ζ 0] (aA 0) aT (ay inD (ak 1) (ay aK (ak 2) (ak 0)))) aq)))) (aR (dC (.bl θ))) bN)) (aR (dC (.bl Γ))))))
def oQ:List D->aa->R D:=cy 3 θ ku
def pU:ah :=
 (aD (aE 2 (aF bF (ao (ak 1) aq))) (aD (aE 3 (aC 2 aN (ao (ak 0) (ao (ak 2) aq)))) (aD (aE 4 (ay aK (ak 1) (ak 3))) (aD (aE 5 (ay aK (bT (ao (ak 2) (ao (iI iE (dC (.int 1))) (ao (ak 3) (ao (dC (.bl Γ)) (ao (dC .aI) (ao (dC (.str "0")) (ao (aU (ao (dC (.int 0)) aq)) (ao (dC (.int 0)) (ao (ay eV (ak 2) (dC (.int 1))) aq)))))))))) (aC 2 aN (ao (ak 0) (ao (dC (.int 9)) aq))))) (aD (aE 6 (aC 2 aN (ao (ak 0) (ao (ay bf (aF bF (ao (ak 4) aq)) (dC (.int 1))) aq)))) (aD (aE 7 (bT (ao (ay gV (ay gV (gh (ak 4) cZ (c8 (ak 6))) (aU (ao (ak 5) aq))) (gh (ak 4) (c8 (ak 6)) cZ)) (ao (vm (ak 4) cZ cZ (c8 (iI iE (dC (.int 1))))) (ao (gh (ak 4) (c8 (dC (.int 1))) cZ) (ao (aF jE (ao (ak 4) aq)) (ao (ay gV (ak 4) (gh (ak 4) cZ (c8 (dC (.int 1))))) (ao (ak 5) (ao (aU aq) aq))))))))) (aD (aE 8 (aC 2 aN (ao (ak 0) (ao (dC (.int 9)) aq)))) (aD (bB (aO (ay fE (ak 8) (dC (.int 7)))) (aR (ay gV (ay gV (gh (ak 1) cZ (c8 (ak 3))) (aU (ao (ay aK (ak 7) (ak 8)) aq))) (gh (ak 1) (c8 (ay bf (ak 3) (dC (.int 1)))) cZ))) bN) (aD (bB (aO (ay cT (ak 8) (dC (.int 7)))) (aR (ay uF (aU (ao (aU aq) aq)) (ay bf (dC (.int 50)) (aC 2 aN (ao (ak 0) (ao (dC (.int 2)) aq)))))) bN) (aR (ay aK (bT (ao (aF jE (ao (ak 1) aq)) (ao (gh (ak 1) cZ (c8 (iI iE (dC (.int 1))))) (ao (ay gV (ak 1) (aU (ao (aU aq) aq))) (ao (aU aq) (ao (dC .aI) (ao sy (ao (dC (.str "3 # .#")) (ao (dC (.int 5)) (ao (aU (ao (ak 1) aq)) aq)))))))))) (aC 2 aN (ao (ak 0) (ao (dC (.int 9)) aq))))))))))))))
def oW:List D->aa->R D:=cy 9 θ pU
def pQ:ah :=
 (aD (uC eg 2 3 (dQ (aC 2 rS (ao (ak 0) (ao (ak 1) aq)))) (z4 2 vX (ao (ak 0) (ao (ak 1) aq))) (aC 1 xR (ao (ak 2) aq))) (aR (dC (.str "told"))))
def iG:List D->aa->R D:=cy 3 θ pQ
def tN:ah :=
 (aD (b8 (bH (ao (aF oO (ao (dC (.int 1)) (ao (aF eZ (ao (aF bF (ao (ak 0) aq)) (ao (dC (.int 30)) aq))) aq))) aq)) (aA 1) (aD (aE 2 (aC 1 oR (ao (aC 2 oV (ao (ak 0) (ao (ak 1) aq))) aq))) (aD (aE 3 (aC 1 rT (ao (aC 2 rV (ao (ak 2) (ao (dC (.int 10)) aq))) aq))) (aD (aE 4 (aF bF (ao (ak 3) aq))) (aD (aE 5 (aC 2 oW (ao (ak 2) (ao (ak 3) aq)))) (aD (aE 6 (aC 1 fR (ao (ak 5) aq))) (aD (bB (iU (dI (aO (aF bC (ao (ak 6) (ao (dC (.ty "bool")) aq))))) (aO (ay eX (ak 6) (aC 1 oQ (ao (ak 5) aq))))) (aR (dC (.bl θ))) bN) (aD (aE 7 (aC 2 aN (ao (ak 2) (ao (ak 4) aq)))) (aD (aE 8 (bT (ao (aU (ao (ak 7) (ao (ak 7) aq))) (ao (aU (ao (ak 7) (ao (ak 4) aq))) (ao (aU (ao (iI iE (dC (.int 1))) (ao (ak 7) aq))) (ao (aU (ao (ak 7) aq)) (ao (aU (ao (ak 7) (ao (dC (.int 0)) (ao (dC (.int 0)) aq)))) (ao (bT (ao (ak 7) (ao (dC (.int 0)) aq))) (ao (dC .aI) (ao (aU (ao (ak 7) (ao (dC .aI) aq))) (ao (aU (ao (dC (.bl Γ)) (ao (ak 7) aq))) aq))))))))))) (aD (aE 8 (ay iw (ak 8) (bT (ao (aU (ao (ak 7) (ao (dC (.str "0")) aq))) (ao (ak 7) (ao (aU (ao (aU (ao (ak 7) (ao (dC (.int 0)) aq))) aq)) aq)))))) (aD (aE 9 (bg (bH (ao (ay eV (ak 4) (dC (.int 1))) aq)) [η] (aA 0) aT (aU (ao (ak 0) (ao (ay bf (ak 0) (dC (.int 1))) aq))))) (aD (aE 10 (aC 2 aN (ao (ak 2) (ao (ay bf (aF bF (ao (ak 9) aq)) (dC (.int 1))) aq)))) (aD (bB (aO (ay eX (aC 2 iG (ao (ak 4) (ao (ay iw (ay iw (nk (ak 9) cZ (c8 (ak 10))) (bT (ao (ay aK (ak 8) (aC 2 aN (ao (ak 2) (ao (dC (.int 12)) aq)))) aq))) (nk (ak 9) (c8 (ak 10)) cZ)) aq))) (dC (.str "places")))) (aR (dC (.bl θ))) bN) (aD (bB (aO (ay eX (aC 2 iG (ao (ak 4) (ao (ay aK (bT (ao (dC .aI) (ao (aF fV (ao (ak 9) aq)) (ao sy (ao (dC (.str "")) (ao (dC (.int 3)) (ao (aU (ao (aU (ao (dC (.int 0)) (ao (dC (.int 1)) aq))) aq)) (ao (dC (.bl Γ)) aq)))))))) (aC 2 aN (ao (ak 2) (ao (dC (.int 7)) aq)))) aq))) (dC (.str "places")))) (aR (dC (.bl θ))) bN) (bB (aO (ay eX (aC 2 iG (ao (ak 4) (ao (ak 9) aq))) (dC (.str "told")))) (aR (dC (.bl θ))) bN))))))))))))))) (aR (fH (ay jG (aC 1 fR (ao (aU (ao (aU aq) aq)) aq)) (dC (.bl Γ))) (ay jG (aC 1 fR (ao (aU (ao (aU (ao (dC (.int 0)) aq)) aq)) aq)) (dC (.bl θ))))))
def uV:List D->aa->R D:=cy 11 θ tN
set_option genInjectivity false in
set_option genSizeOfSpec false in
structure Tx (K:ξ) (mg:Str->Option Δ) where
 lZ:Ψ
 Di:π
 DQ:Def K mg "is_whole" qW ["thing"] lZ Di
 WT:Ξ K Θ "is_whole"=ζ (ζ (.ref lZ))
 lY:Ψ
 Dh:π
 yZ:Def K mg "is_whole_within" qV ["thing","least","most"] lY Dh
 WS:Ξ K Θ "is_whole_within"=ζ (ζ (.ref lY))
 l5:Ψ
 Dk:π
 y9:Def K mg "is_place" qY ["thing","many"] l5 Dk
 WV:Ξ K Θ "is_place"=ζ (ζ (.ref l5))
 l9:Ψ
 Dn:π
 DT:Def K mg "are_rising_places" rm ["thing","many"] l9 Dn
 WY:Ξ K Θ "are_rising_places"=ζ (ζ (.ref l9))
 l8:Ψ
 Dm:π
 DS:Def K mg "is_mutual" rj ["rows","one"] l8 Dm
 WX:Ξ K Θ "is_mutual"=ζ (ζ (.ref l8))
 l0:Ψ
 Dj:π
 vj:Def K mg "is_web" qX ["thing"] l0 Dj
 WU:Ξ K Θ "is_web"=ζ (ζ (.ref l0))
 l6:Ψ
 Dl:π
 DR:Def K mg "is_pair" qZ ["thing","many"] l6 Dl
 WW:Ξ K Θ "is_pair"=ζ (ζ (.ref l6))
 mh:Ψ
 Dp:π
 za:Def K mg "are_pairs" rq ["thing","many"] mh Dp
 WZ:Ξ K Θ "are_pairs"=ζ (ζ (.ref mh))
 lE:Ψ
 CU:π
 DA:Def K mg "row_where" qA ["many","one","are_tied"] lE CU
 Ww:Ξ K Θ "row_where"=ζ (ζ (.ref lE))
 lD:Ψ
 CT:π
 Dz:Def K mg "web_where" qz ["many","are_tied"] lD CT
 Wv:Ξ K Θ "web_where"=ζ (ζ (.ref lD))
 kB:Ψ
 yj:π
 vg:Def K mg "web_of" nX ["many","pairs"] kB yj
 IA:Ξ K Θ "web_of"=ζ (ζ (.ref kB))
 lU:Ψ
 Dc:π
 DM:Def K mg "_law_cell_at" qQ ["script","k"] lU Dc
 WM:Ξ K Θ "_law_cell_at"=ζ (ζ (.ref lU))
 lN:Ψ
 C3:π
 DH:Def K mg "_law_pot" qJ ["cell"] lN C3
 WE:Ξ K Θ "_law_pot"=ζ (ζ (.ref lN))
 lI:Ψ
 CZ:π
 dP:Def K mg "_law_take" qE ["pot","far"] lI CZ
 WA:Ξ K Θ "_law_take"=ζ (ζ (.ref lI))
 lP:Ψ
 C5:π
 DJ:Def K mg "_law_order" qL ["pot","wide"] lP C5
 WH:Ξ K Θ "_law_order"=ζ (ζ (.ref lP))
 lT:Ψ
 C9:π
 yY:Def K mg "_law_joined" qP ["many","wanted"] lT C9
 WL:Ξ K Θ "_law_joined"=ζ (ζ (.ref lT))
 lJ:Ψ
 C0:π
 DE:Def K mg "_law_scattered" qG ["pot","most"] lJ C0
 WB:Ξ K Θ "_law_scattered"=ζ (ζ (.ref lJ))
 lQ:Ψ
 C6:π
 yX:Def K mg "_law_near" qM ["many","marks"] lQ C6
 WI:Ξ K Θ "_law_near"=ζ (ζ (.ref lQ))
 lO:Ψ
 C4:π
 DI:Def K mg "_law_plain" qK ["pot","most"] lO C4
 WG:Ξ K Θ "_law_plain"=ζ (ζ (.ref lO))
 lR:Ψ
 C7:π
 DK:Def K mg "_law_moved" qN ["table","order"] lR C7
 WJ:Ξ K Θ "_law_moved"=ζ (ζ (.ref lR))
 lH:Ψ
 CY:π
 DC:Def K mg "_law_toggled" qD ["table","one","other"] lH CY
 Wz:Ξ K Θ "_law_toggled"=ζ (ζ (.ref lH))
 lX:Ψ
 Df:π
 DP:Def K mg "_law_about" qT ["table"] lX Df
 WQ:Ξ K Θ "_law_about"=ζ (ζ (.ref lX))
 lV:Ψ
 Dd:π
 DN:Def K mg "_law_built" qR ["pot","most"] lV Dd
 WN:Ξ K Θ "_law_built"=ζ (ζ (.ref lV))
 lK:Ψ
 C1:π
 DF:Def K mg "_law_rows" qH ["table"] lK C1
 WC:Ξ K Θ "_law_rows"=ζ (ζ (.ref lK))
 lF:Ψ
 CV:π
 DB:Def K mg "_law_whole" qB ["found"] lF CV
 Wx:Ξ K Θ "_law_whole"=ζ (ζ (.ref lF))
 lS:Ψ
 C8:π
 DL:Def K mg "_law_kind_of" qO ["e"] lS C8
 WK:Ξ K Θ "_law_kind_of"=ζ (ζ (.ref lS))
 lM:Ψ
 C2:π
 DG:Def K mg "_law_right" qI ["thing"] lM C2
 WD:Ξ K Θ "_law_right"=ζ (ζ (.ref lM))
 lW:Ψ
 De:π
 DO:Def K mg "_law_bent" qS ["pot","web"] lW De
 WO:Ξ K Θ "_law_bent"=ζ (ζ (.ref lW))
 lG:Ψ
 CW:π
 vh:Def K mg "_law_told" qC ["many","thing"] lG CW
 Wy:Ξ K Θ "_law_told"=ζ (ζ (.ref lG))
 kC:Ψ
 Dg:π
 Kz:Def K mg "law" qU ["script"] kC Dg
 WR:Ξ K Θ "law"=ζ (ζ (.ref kC))
 Iw:mg "ValueError"=η
 oK:mg "all"=η
 Iu:mg "any"=η
 xN:mg "bool"=η
 A0:mg "enumerate"=η
 AZ:mg "int"=η
 ez:mg "isinstance"=η
 gG:mg "len"=η
 rQ:mg "list"=η
 Ir:mg "max"=η
 oJ:mg "min"=η
 dg:mg "range"=η
 Iq:mg "set"=η
 Ip:mg "sorted"=η
 jh:mg "tuple"=η
 mH:Ψ
 mF:Ψ
 nR:PySem.W.tabIn K "web_of"=ζ (mH,mF)
 qp:PySem.W.codeHdIn K mH mF=Γ
 qt:ug K=Γ
 uf:Tok
 J0:mg "MOST_PLACES"=ζ (.int 50 uf)
 sL:Ψ
 JP:mg "NoWeb"=ζ (.ref sL)
 Ic:Ξ K Θ "NoWeb"=ζ (ζ (.ref sL))
 sN:Ψ
 JR:mg "NoText"=ζ (.ref sN)
 Ig:Ξ K Θ "NoText"=ζ (ζ (.ref sN))
 sQ:Ψ
 JW:mg "NoNumbers"=ζ (.ref sQ)
 Ik:Ξ K Θ "NoNumbers"=ζ (ζ (.ref sQ))
 sS:Ψ
 JY:mg "NoField"=ζ (.ref sS)
 Im:Ξ K Θ "NoField"=ζ (ζ (.ref sS))
 sM:Ψ
 JQ:mg "NoThing"=ζ (.ref sM)
 Ie:Ξ K Θ "NoThing"=ζ (ζ (.ref sM))
 sO:Ψ
 JT:mg "NoSquare"=ζ (.ref sO)
 Ih:Ξ K Θ "NoSquare"=ζ (ζ (.ref sO))
 pO:Ψ
 JV:mg "NoPlaces"=ζ (.ref pO)
 Ij:Ξ K Θ "NoPlaces"=ζ (ζ (.ref pO))
 sJ:Ψ
 JO:mg "TooMany"=ζ (.ref sJ)
 Ib:Ξ K Θ "TooMany"=ζ (ζ (.ref sJ))
 sR:Ψ
 JX:mg "NoName"=ζ (.ref sR)
 Il:Ξ K Θ "NoName"=ζ (ζ (.ref sR))
 sU:Ψ
 JZ:mg "NoDeed"=ζ (.ref sU)
 Io:Ξ K Θ "NoDeed"=ζ (ζ (.ref sU))
 sP:Ψ
 JU:mg "NoRow"=ζ (.ref sP)
 Ii:Ξ K Θ "NoRow"=ζ (ζ (.ref sP))
 nB:Ψ
 JN:mg "WebError"=ζ (.ref nB)
 Wr:Ξ K Θ "WebError"=ζ (ζ (.ref nB))
 Fj:vF K mg "NoPlaces" we "ValueError.__new__"
 gq:vE K eg
 xw:zO K eg nB=Γ
section
variable {P:τ}{w:υ}{K:ξ}{mg:Str->Option Δ}{base:ψ}
theorem Qk:cC ["thing"] ["thing"] (aX qW):=⟨rfl,rfl,rfl,by decide +kernel,rfl,by decide +kernel,by decide +kernel⟩
theorem Uz(T:Tx K mg):bV P w K mg base bP 1 T.lZ T.Di ["thing"] (bX K 1 gH) :=
 d9 (k:=0) T.DQ.fn Qk rfl rfl λcdv A outer s H E hr=>by
  show b7 _ _ fL;unfold fL;exact(aZ (bS (j6 (bO jP T.ez agj (au (av 0) (au (jd rfl T.AZ boot_int) aB))) (kO (uL (bO jP T.ez agj (au (av 0) (au (jd rfl T.xN boot_bool) aB))))))))
theorem Qj:cC ["thing","least","most"] ["thing","least","most"] (aX qV):=⟨rfl,rfl,rfl,by decide +kernel,rfl,by decide +kernel,by decide +kernel⟩
theorem HB(T:Tx K mg):bV P w K mg base bP 2 T.lY T.Dh ["thing","least","most"] (bX K 3 fm) :=
 d9 (k:=1) T.yZ.fn Qj rfl rfl λcdv A outer s H E hr=>by
  show b7 _ _ fK;unfold fK;exact(aZ (bS (j6 (bI T.DQ (Uz T) (hr.mono (by decide)) (au (av 0) aB)) (kO (Hv oE oE (av 1) (av 0) (av 2))))))
theorem Ql:cC ["thing","many"] ["thing","many"] (aX qY):=⟨rfl,rfl,rfl,by decide +kernel,rfl,by decide +kernel,by decide +kernel⟩
theorem HC(T:Tx K mg):bV P w K mg base bP 3 T.l5 T.Dk ["thing","many"] (bX K 2 fS) :=
 d9 (k:=2) T.y9.fn Ql rfl rfl λcdv A outer s H E hr=>by
  show b7 _ _ iW;unfold iW;exact(aZ (bS (bI T.yZ (HB T) (hr.mono (by decide)) (au (av 0) (au aJ (au (bu mU (av 1) aJ) aB))))))
theorem wI:cC ["thing","many","least","place"] ["thing","many"] (aX rm):=⟨rfl,rfl,rfl,by decide +kernel,rfl,by decide +kernel,by decide +kernel⟩
theorem UC(T:Tx K mg):bV P w K mg base bP 3 T.l9 T.Dn ["thing","many"] (bX K 2 iT) :=
 d9 (k:=2) T.DT.fn wI rfl rfl λcdv A outer s H E hr=>by
  show b7 _ _ nC;unfold nC;refine aV (dM (ia (gR (bO jP T.ez agj (au (av 0) (au (jd rfl T.jh agQ) aB))))) (aZ (bS dZ)) eG) ?_;refine aV (bM (i:=2) aJ (hN:=wI.nd)) ?_;refine aV (gQ (u7 (av 0)) (bW (i:=3) (hN:=wI.nd)) (aV (dM (ia (gR (bI T.yZ (HB T) (hr.mono (by decide)) (au (av 3) (au (av 2) (au (bu mU (av 1) aJ) aB)))))) (aZ (bS dZ)) eG) (aZ (bM (i:=2) (bu dS (av 3) aJ) (hN:=wI.nd))))) ?_
  exact(aZ (bS dZ))
theorem Qn:cC ["rows","one"] ["rows","one"] (aX rj):=⟨rfl,rfl,rfl,by decide +kernel,rfl,by decide +kernel,by decide +kernel⟩
theorem UB(T:Tx K mg):bV P w K mg base bP 1 T.l8 T.Dm ["rows","one"] (bX K 2 mZ) :=
 d9 (k:=0) T.DS.fn Qn rfl rfl λcdv A outer s H E hr=>by
  show b7 _ _ pV;unfold pV;exact(aZ (bS (j6 (kP (UP (jI hr)) (av 1) (cF cG (av 0) (av 1))) (kO (bO sH T.oK ahz (au (fQ (N':=["other","one","rows"]) (pick:=[η,ζ 1,ζ 0]) (cE.of rfl rfl) (u7 (cF cG (av 0) (av 1))) (λ_ _ _ _ _ _=>(bW (i:=0) (hN:=(by decide +kernel:ω (["other","one","rows"]:List Str))))) (λ_ _ _ _ _ _=>fC) (λ_ _ _ _ _ _=>(kP (rL (jI hr)) (av 1) (cF cG (av 2) (av 0))))) aB))))))
theorem GH:cC ["thing","many"] ["thing"] (aX qX):=⟨rfl,rfl,rfl,by decide +kernel,rfl,by decide +kernel,by decide +kernel⟩
theorem AO(T:Tx K mg):bV P w K mg base bP 4 T.l0 T.Dj ["thing"] (bX K 1 fR) :=
 d9 (k:=3) T.vj.fn GH rfl rfl λcdv A outer s H E hr=>by
  show b7 _ _ jR;unfold jR;refine aV (dM (PW.pt (oj (ia (gR (bO jP T.ez agj (au (av 0) (au (jd rfl T.jh agQ) aB))))) (om (ia (Hu oE oE aJ (bO gU T.gG agB (au (av 0) aB)) (Tg rfl T.J0)))))) (aZ (bS dZ)) eG) ?_;refine aV (bM (i:=1) (bO gU T.gG agB (au (av 0) aB)) (hN:=GH.nd)) ?_;refine aV (dM (ia (gR (bO sH T.oK ahz (au (fQ (N':=["row","many"]) (pick:=[η,ζ 1]) (cE.of rfl rfl) (u7 (av 0)) (λ_ _ _ _ _ _=>(bW (i:=0) (hN:=(by decide +kernel:ω (["row","many"]:List Str))))) (λ_ _ _ _ _ _=>fC) (λ_ _ _ _ _ _=>(bI T.DT (UC T) (hr.mono (by decide)) (au (av 0) (au (av 1) aB))))) aB)))) (aZ (bS dZ)) eG) ?_
  exact(aZ (bS (bO sH T.oK ahz (au (fQ (N':=["one","thing"]) (pick:=[η,ζ 0]) (cE.of rfl rfl) (e7 (au (av 1) aB) T.dg) (λ_ _ _ _ _ _=>(bW (i:=0) (hN:=(by decide +kernel:ω (["one","thing"]:List Str))))) (λ_ _ _ _ _ _=>fC) (λ_ _ _ _ _ _=>(bI T.DS (UB T) (hr.mono (by decide)) (au (av 1) (au (av 0) aB))))) aB))))
theorem Qm:cC ["thing","many"] ["thing","many"] (aX qZ):=⟨rfl,rfl,rfl,by decide +kernel,rfl,by decide +kernel,by decide +kernel⟩
theorem UA(T:Tx K mg):bV P w K mg base bP 4 T.l6 T.Dl ["thing","many"] (bX K 2 dH) :=
 d9 (k:=3) T.DR.fn Qm rfl rfl λcdv A outer s H E hr=>by
  show b7 _ _ gk;unfold gk;refine aV (dM (PW.pt (oj (ia (gR (bO jP T.ez agj (au (av 0) (au (jd rfl T.jh agQ) aB))))) (om (dR kR (bO gU T.gG agB (au (av 0) aB)) aJ)))) (aZ (bS dZ)) eG) ?_;exact(aZ (bS (j6 (bI T.y9 (HC T) (hr.mono (by decide)) (au (cF cG (av 0) aJ) (au (av 1) aB))) (j6 (bI T.y9 (HC T) (hr.mono (by decide)) (au (cF cG (av 0) aJ) (au (av 1) aB))) (kO (kP kR (cF cG (av 0) aJ) (cF cG (av 0) aJ)))))))
theorem Qp:cC ["thing","many"] ["thing","many"] (aX rq):=⟨rfl,rfl,rfl,by decide +kernel,rfl,by decide +kernel,by decide +kernel⟩
theorem HD(T:Tx K mg):bV P w K mg base bP 5 T.mh T.Dp ["thing","many"] (bX K 2 jC) :=
 d9 (k:=4) T.za.fn Qp rfl rfl λcdv A outer s H E hr=>by
  show b7 _ _ lC;unfold lC;exact(aZ (bS (j6 (bO jP T.ez agj (au (av 0) (au (jd rfl T.rQ boot_list) aB))) (kO (bO sH T.oK ahz (au (fQ (N':=["pair","many"]) (pick:=[η,ζ 1]) (cE.of rfl rfl) (o9 (av 0)) (λ_ _ _ _ _ _=>(bW (i:=0) (hN:=(by decide +kernel:ω (["pair","many"]:List Str))))) (λ_ _ _ _ _ _=>fC) (λ_ _ _ _ _ _=>(bI T.DR (UA T) (hr.mono (by decide)) (au (av 0) (au (av 1) aB))))) aB))))))
theorem Uy(T:Tx K mg):tS P w K mg base 1 nK ["joined"] 2 (bX K (2+1) (xW m5)):=by
 with_unfolding_all refine XZ (k:=0) (ps:=["one","other"]) (ns:=["joined"]) (d:=m5) (vN.of rfl rfl rfl (by decide +kernel)) (λq cl pm cdv ct us hl=>match us,hl with|[_,_],_=>rfl) λq f cd cl A outer s H hr=>?_
 show aW _ _ m5;unfold m5;exact(kP (Vi (jI hr)) (cO (au (av 0) (au (av 1) aB))) (av 2))
theorem Ux(T:Tx K mg) {A:χ}(hr:cP 1 A):∀t∈lams,∃k,tS P w K mg base k t.1 t.2.1 2 (bX K (2+t.2.1.length) t.2.2)/\cP k A:=by
 intro t ht;unfold lams at ht;simp only[afW,agp,or_false]at ht
 rcases ht with rfl
 ·exact⟨_,Uy T,hr.mono (by decide)⟩
theorem Qe:cC ["many","one","are_tied"] ["many","one","are_tied"] (aX qA):=⟨rfl,rfl,rfl,by decide +kernel,rfl,by decide +kernel,by decide +kernel⟩
theorem Ug(T:Tx K mg):bV P w K mg base bP 2 T.lE T.CU ["many","one","are_tied"] (bX K 3 iF) :=
 d9 (k:=1) T.DA.fn Qe rfl rfl λcdv A outer s H E hr=>by
  show b7 _ _ sW;unfold sW;exact(aZ (bS (j5 sF T.jh agQ (au (fQ (N':=["other","one","are_tied"]) (pick:=[η,ζ 1,ζ 2]) (cE.of rfl rfl) (e7 (au (av 0) aB) T.dg) (λ_ _ _ _ _ _=>(bW (i:=0) (hN:=(by decide +kernel:ω (["other","one","are_tied"]:List Str))))) (λ_ _ _ _ _ _=>(oh (PW.pt (Hw (dR kR (av 0) (av 1)) (Hx (gR (To 2 (Ux T (hr.mono (by decide))) (au (av 1) (au (av 0) aB))))))))) (λ_ _ _ _ _ _=>(av 0))) aB))))
theorem Qa:cC ["many","are_tied"] ["many","are_tied"] (aX qz):=⟨rfl,rfl,rfl,by decide +kernel,rfl,by decide +kernel,by decide +kernel⟩
theorem Ud(T:Tx K mg):bV P w K mg base bP 3 T.lD T.CT ["many","are_tied"] (bX K 2 j8) :=
 d9 (k:=2) T.Dz.fn Qa rfl rfl λcdv A outer s H E hr=>by
  show b7 _ _ sV;unfold sV;exact(aZ (bS (j5 sF T.jh agQ (au (fQ (N':=["one","many","are_tied"]) (pick:=[η,ζ 0,ζ 1]) (cE.of rfl rfl) (e7 (au (av 0) aB) T.dg) (λ_ _ _ _ _ _=>(bW (i:=0) (hN:=(by decide +kernel:ω (["one","many","are_tied"]:List Str))))) (λ_ _ _ _ _ _=>fC) (λ_ _ _ _ _ _=>(bI T.DA (Ug T) (hr.mono (by decide)) (au (av 1) (au (av 0) (au (av 2) aB)))))) aB))))
theorem wD:cC ["many","pairs","joined","pair"] ["many","pairs"] (aX nX):=⟨rfl,rfl,rfl,by decide +kernel,rfl,by decide +kernel,by decide +kernel⟩
theorem Ue(T:Tx K mg):bV P w K mg base bP 6 T.kB T.yj ["many","pairs"] (bX K 2 rS) :=
 aaN (k:=5) T.vg.fn T.IA wD rfl rfl λcdv A outer s H E hcd hr=>by
  show b7 _ _ pP;unfold pP;refine aV (dM (ia (gR (bI T.za (HD T) (hr.mono (by decide)) (au (av 1) (au (av 0) aB))))) (aZ PZ) eG) ?_
  refine P7 (GX (i:=2) wD.nd rfl (by first|exact Or.inl rfl|exact Or.inr rfl) S3) (GZ PassesOwn.never rfl (G9 (pv 1)) (Hg (i:=3) wD.nd rfl (by first|exact Or.inl rfl|exact Or.inr rfl)) (uH (G1 (Ju (jI hr)) (pv 2) (pv 3) AK rfl) (GW (G1 (Ju (jI hr)) (pv 2) (Hh (je (AI Cm (pv 3) AJ (λ_ _=>rfl)) (je (AI Cm (pv 3) AJ (λ_ _=>rfl)) kQ (cj rfl)) (cj rfl))) AK rfl)))) ?_
  exact(aZ (bS (Tn (kk:=0) T.Dz (Ud T) (hr.mono (by decide)) (av 0) (gp.of (by kernel_rfl)) rfl (λ_=>rfl) (y:="web_of") (by decide +kernel) T.nR T.qt (hcd _ _ T.nR) rfl T.qp)))
theorem Uc(T:Tx K mg):bV P w K mg base (iZ P w K) 6 T.kB T.yj ["many","pairs"] (As K 2 vX) :=
 aaM (k:=5) T.vg.fn wD rfl rfl λcdv A outer s H E hr=>by
  show qb _ _ _ zf;unfold zf;exact(zT (MG (ia (gR (bI T.za (HD T) (hr.mono (by decide)) (au (av 1) (au (av 0) aB))))) (zT (ME T.Fj F.excBase_ValueError)) MF))
theorem Qi:cC ["script","k"] ["script","k"] (aX qQ):=⟨rfl,rfl,rfl,by decide +kernel,rfl,by decide +kernel,by decide +kernel⟩
theorem Us(T:Tx K mg):bV P w K mg base bP 1 T.lU T.Dc ["script","k"] (bX K 2 oV) :=
 d9 (k:=0) T.DM.fn Qi rfl rfl λcdv A outer s H E hr=>by
  show b7 _ _ pT;unfold pT;refine aV (dM (dR rK (av 1) (bO gU T.gG agB (au (av 0) aB))) (aZ (bS (cF cG (av 0) (av 1)))) eG) ?_;exact(aZ (bS aJ))
theorem qx:cC ["cell","number","j","more"] ["cell"] (aX qJ):=⟨rfl,rfl,rfl,by decide +kernel,rfl,by decide +kernel,by decide +kernel⟩
theorem Um(T:Tx K mg):bV P w K mg base bP 1 T.lN T.C3 ["cell"] (bX K 1 oR) :=
 d9 (k:=0) T.DH.fn qx rfl rfl λcdv A outer s H E hr=>by
  show b7 _ _ pS;unfold pS;refine aV (dM (dR Vk (av 0) (bu HG aJ aJ)) (aZ (bS (oq (au (bu mU (av 0) (bu HG aJ aJ)) aB)))) eG) ?_;refine aV (bM (i:=1) aJ (hN:=qx.nd)) ?_;refine aV (gQ (e7 (au aJ aB) T.dg) (bW (i:=2) (hN:=qx.nd)) (aV (bM (i:=3) (bu kT (bu oB (bu dS (bu dS (bu kT (av 0) aJ) (bu oB aJ (av 2))) aJ) aJ) aJ) (hN:=qx.nd)) (aV (bM (i:=3) (bu kT (bu dS (bu dS (bu oB (av 3) (av 3)) (bu oB aJ (av 2))) aJ) aJ) (hN:=qx.nd)) (aZ (bM (i:=1) (bu dS (bu oB (av 1) aJ) (av 3)) (hN:=qx.nd)))))) ?_;exact(aZ (bS (oq (au (av 1) aB))))
theorem GF:cC ["pot","far","found"] ["pot","far"] (aX qE):=⟨rfl,rfl,rfl,by decide +kernel,rfl,by decide +kernel,by decide +kernel⟩
theorem d7(T:Tx K mg):bV P w K mg base bP 1 T.lI T.CZ ["pot","far"] (bX K 2 aN) :=
 d9 (k:=0) T.dP.fn GF rfl rfl λcdv A outer s H E hr=>by
  show b7 _ _ pR;unfold pR;refine aV (bM (i:=2) (bu kT (cF cG (av 0) aJ) (av 1)) (hN:=GF.nd)) ?_;refine aV (qw (bu uP (cF cG (av 0) aJ) (av 1)) (sd (av 0) aJ)) ?_;exact(aZ (bS (av 2)))
theorem Ay:cC ["pot","wide","found","k"] ["pot","wide"] (aX qL):=⟨rfl,rfl,rfl,by decide +kernel,rfl,by decide +kernel,by decide +kernel⟩
theorem Uq(T:Tx K mg):bV P w K mg base bP 2 T.lP T.C5 ["pot","wide"] (bX K 2 mY) :=
 d9 (k:=1) T.DJ.fn Ay rfl rfl λcdv A outer s H E hr=>by
  show b7 _ _ tE;unfold tE;refine aV (bM (i:=2) (oq aB) (hN:=Ay.nd)) ?_;refine aV (gQ (e7 (au (av 1) aB) T.dg) (bW (i:=3) (hN:=Ay.nd)) (aZ (mP (Te (av 2) (bI T.dP (d7 T) (hr.mono (by decide)) (au (av 0) (au (bu dS (av 3) aJ) aB))) (av 3))))) ?_
  exact(aZ (bS (j5 sF T.jh agQ (au (av 2) aB))))
theorem wH:cC ["many","wanted","found","one","other"] ["many","wanted"] (aX qP):=⟨rfl,rfl,rfl,by decide +kernel,rfl,by decide +kernel,by decide +kernel⟩
theorem HA(T:Tx K mg):bV P w K mg base bP 1 T.lT T.C9 ["many","wanted"] (bX K 2 jB) :=
 CM (k:=0) T.yY.fn wH rfl rfl λcdv A outer s H E hr=>by
  show b7 _ _ tK;unfold tK;refine aV (mO (i:=2) (hN:=wH.nd) (N':=["place","many"]) (pick:=[η,ζ 0]) (cE.of rfl rfl) (e7 (au (av 0) aB) T.dg) (λ_ _ _ _ _ _=>(bW (i:=0) (hN:=(by decide +kernel:ω (["place","many"]:List Str))))) (λ_ _ _ _ _ _=>fC) (λ_ _ _ _ _ _=>(bu HF (fP (au dZ aB)) (av 1)))) ?_
  refine aV (gQ (o9 (av 1)) (ye (n:=2) (ng (bW (i:=3) (hN:=wH.nd)) (ng (bW (i:=4) (hN:=wH.nd)) yd))) (aV (qw dZ (sd (cF cG (av 2) (av 3)) (av 4))) (aZ (qw dZ (sd (cF cG (av 2) (av 4)) (av 3)))))) ?_;exact(aZ (bS (av 2)))
theorem uw:cC ["pot","most","many","dense","wanted","one"] ["pot","most"] (aX qG):=⟨rfl,rfl,rfl,by decide +kernel,rfl,by decide +kernel,by decide +kernel⟩
theorem Uj(T:Tx K mg):bV P w K mg base bP 2 T.lJ T.C0 ["pot","most"] (bX K 2 kY) :=
 d9 (k:=1) T.DE.fn uw rfl rfl λcdv A outer s H E hr=>by
  show b7 _ _ sY;unfold sY;refine aV (bM (i:=2) (bu dS aJ (bI T.dP (d7 T) (hr.mono (by decide)) (au (av 0) (au (av 1) aB)))) (hN:=uw.nd)) ?_
  refine aV (bM (i:=3) (bu dS aJ (bI T.dP (d7 T) (hr.mono (by decide)) (au (av 0) (au aJ aB)))) (hN:=uw.nd)) ?_
  refine aV (bM (i:=4) (oq aB) (hN:=uw.nd)) ?_;refine aV (gQ (e7 (au (av 2) aB) T.dg) (bW (i:=5) (hN:=uw.nd)) (aZ (mP (uN (av 4) (fQ (N':=["other","one","dense","pot"]) (pick:=[η,ζ 5,ζ 3,ζ 0]) (cE.of rfl rfl) (o8 (au (bu dS (av 5) aJ) (au (av 2) aB)) T.dg) (λ_ _ _ _ _ _=>(bW (i:=0) (hN:=(by decide +kernel:ω (["other","one","dense","pot"]:List Str))))) (λ_ _ _ _ _ _=>(oh (dR rK (bI T.dP (d7 T) (hr.mono (by decide)) (au (av 3) (au aJ aB))) (av 2)))) (λ_ _ _ _ _ _=>(cO (au (av 1) (au (av 0) aB))))))))) ?_
  exact(aZ (bS (bI T.yY (HA T) (hr.mono (by decide)) (au (av 2) (au (av 4) aB)))))
theorem wG:cC ["many","marks","found","one","other"] ["many","marks"] (aX qM):=⟨rfl,rfl,rfl,by decide +kernel,rfl,by decide +kernel,by decide +kernel⟩
theorem Hz(T:Tx K mg):bV P w K mg base bP 1 T.lQ T.C6 ["many","marks"] (bX K 2 kg) :=
 d9 (k:=0) T.yX.fn wG rfl rfl λcdv A outer s H E hr=>by
  show b7 _ _ tF;unfold tF;refine aV (bM (i:=2) (oq aB) (hN:=wG.nd)) ?_;refine aV (gQ (e7 (au (av 0) aB) T.dg) (bW (i:=3) (hN:=wG.nd)) (aZ (gQ (o8 (au (bu dS (av 3) aJ) (au (av 0) aB)) T.dg) (bW (i:=4) (hN:=wG.nd)) (aZ (dM (gR (bO acG T.Iu boot_any (au (fQ (N':=["mark","marks","other"]) (pick:=[η,ζ 1,ζ 4]) (cE.of rfl rfl) (o9 (cF cG (av 1) (av 3))) (λ_ _ _ _ _ _=>(bW (i:=0) (hN:=(by decide +kernel:ω (["mark","marks","other"]:List Str))))) (λ_ _ _ _ _ _=>fC) (λ_ _ _ _ _ _=>(kP (rL (jI hr)) (av 0) (cF cG (av 1) (av 2))))) aB))) (aZ (mP (Tp (av 2) (cO (au (av 3) (au (av 4) aB)))))) eG))))) ?_
  exact(aZ (bS (av 2)))
theorem eK:cC ["pot","most","way","many","wanted","steps","step","things","marks","one","high","wide","squares"] ["pot","most"] (aX qK):=⟨rfl,rfl,rfl,by decide +kernel,rfl,by decide +kernel,by decide +kernel⟩
theorem Uo(T:Tx K mg):bV P w K mg base bP 2 T.lO T.C4 ["pot","most"] (bX K 2 kZ) :=
 d9 (k:=1) T.DI.fn eK rfl rfl λcdv A outer s H E hr=>by
  show b7 _ _ tw;unfold tw;refine aV (bM (i:=2) (bI T.dP (d7 T) (hr.mono (by decide)) (au (av 0) (au aJ aB))) (hN:=eK.nd)) ?_
  refine aV (bM (i:=3) (bu dS aJ (bI T.dP (d7 T) (hr.mono (by decide)) (au (av 0) (au (av 1) aB)))) (hN:=eK.nd)) ?_
  refine aV (bM (i:=4) (oq aB) (hN:=eK.nd)) ?_;refine aV (dM (dR kU (av 2) aJ) (aV (mO (i:=5) (hN:=eK.nd) (N':=["step","pot"]) (pick:=[η,ζ 0]) (cE.of rfl rfl) (o8 (au aJ (au (bu dS (bu uP (av 3) aJ) aJ) aB)) T.dg) (λ_ _ _ _ _ _=>(bW (i:=0) (hN:=(by decide +kernel:ω (["step","pot"]:List Str))))) (λ_ _ _ _ _ _=>(oh (dR kU (bI T.dP (d7 T) (hr.mono (by decide)) (au (av 1) (au aJ aB))) aJ))) (λ_ _ _ _ _ _=>(av 0))) (aZ (gQ (o9 (av 5)) (bW (i:=6) (hN:=eK.nd)) (aZ (mP (uN (av 4) (fQ (N':=["k","many","step"]) (pick:=[η,ζ 3,ζ 6]) (cE.of rfl rfl) (e7 (au (av 3) aB) T.dg) (λ_ _ _ _ _ _=>(bW (i:=0) (hN:=(by decide +kernel:ω (["k","many","step"]:List Str))))) (λ_ _ _ _ _ _=>fC) (λ_ _ _ _ _ _=>(cO (au (av 0) (au (bu kT (bu dS (av 0) (av 2)) (av 1)) aB))))))))))) (aZ (dM (dR kU (av 2) aJ) (aV (bM (i:=7) (cF cG (fP (au aJ (au aJ (au aJ (au aJ aB))))) (bI T.dP (d7 T) (hr.mono (by decide)) (au (av 0) (au aJ aB)))) (hN:=eK.nd)) (aV (bM (i:=8) (oq aB) (hN:=eK.nd)) (aV (gQ (e7 (au (av 7) aB) T.dg) (bW (i:=9) (hN:=eK.nd)) (aZ (mP (uN (av 8) (fQ (N':=["other","one"]) (pick:=[η,ζ 9]) (cE.of rfl rfl) (o8 (au (bu dS (av 9) aJ) (au (av 7) aB)) T.dg) (λ_ _ _ _ _ _=>(bW (i:=0) (hN:=(by decide +kernel:ω (["other","one"]:List Str))))) (λ_ _ _ _ _ _=>fC) (λ_ _ _ _ _ _=>(fP (au (av 1) (au (av 0) aB))))))))) (aV (bM (i:=3) (bO sG T.oJ ahA (au (bO gU T.gG agB (au (av 8) aB)) (au (av 1) aB))) (hN:=eK.nd)) (aZ (bM (i:=4) (bI T.yX (Hz T) (hr.mono (by decide)) (au (av 3) (au (av 8) aB))) (hN:=eK.nd))))))) (aZ (dM (dR rK (av 2) aJ) (aV (bM (i:=10) (bu dS aJ (bI T.dP (d7 T) (hr.mono (by decide)) (au (av 0) (au (bO sG T.oJ ahA (au aJ (au (av 1) aB))) aB)))) (hN:=eK.nd)) (aV (bM (i:=11) (bu dS aJ (bI T.dP (d7 T) (hr.mono (by decide)) (au (av 0) (au (bO sG T.oJ ahA (au aJ (au (bu uP (av 1) (av 10)) aB))) aB)))) (hN:=eK.nd)) (aV (bM (i:=3) (bu oB (av 10) (av 11)) (hN:=eK.nd)) (aV (mO (i:=8) (hN:=eK.nd) (N':=["k","wide"]) (pick:=[η,ζ 11]) (cE.of rfl rfl) (e7 (au (av 3) aB) T.dg) (λ_ _ _ _ _ _=>(bW (i:=0) (hN:=(by decide +kernel:ω (["k","wide"]:List Str))))) (λ_ _ _ _ _ _=>fC) (λ_ _ _ _ _ _=>(fP (au (bu uP (av 0) (av 1)) aB)))) (aV (dM (dR kU (av 2) aJ) (aZ (mO (i:=8) (hN:=eK.nd) (N':=["k","wide"]) (pick:=[η,ζ 11]) (cE.of rfl rfl) (e7 (au (av 3) aB) T.dg) (λ_ _ _ _ _ _=>(bW (i:=0) (hN:=(by decide +kernel:ω (["k","wide"]:List Str))))) (λ_ _ _ _ _ _=>fC) (λ_ _ _ _ _ _=>(fP (au (bu uP (av 0) (av 1)) (au (bu dS aJ (bu kT (av 0) (av 1))) aB)))))) eG) (aZ (bM (i:=4) (bI T.yX (Hz T) (hr.mono (by decide)) (au (av 3) (au (av 8) aB))) (hN:=eK.nd)))))))) (aZ (dM (dR kU (av 2) aJ) (aV (bM (i:=3) (bO sG T.oJ ahA (au (av 1) (au (cF cG (fP (au aJ (au aJ aB))) (bI T.dP (d7 T) (hr.mono (by decide)) (au (av 0) (au aJ aB)))) aB))) (hN:=eK.nd)) (aV (bM (i:=12) (fQ (N':=["k","many"]) (pick:=[η,ζ 3]) (cE.of rfl rfl) (o8 (au aJ (au (av 3) aB)) T.dg) (λ_ _ _ _ _ _=>(bW (i:=0) (hN:=(by decide +kernel:ω (["k","many"]:List Str))))) (λ_ _ _ _ _ _=>fC) (λ_ _ _ _ _ _=>(bu kT (bu oB (av 0) (av 0)) (av 1)))) (hN:=eK.nd)) (aZ (gQ (e7 (au (av 3) aB) T.dg) (bW (i:=9) (hN:=eK.nd)) (aZ (mP (uN (av 4) (fQ (N':=["other","one","squares","many"]) (pick:=[η,ζ 9,ζ 12,ζ 3]) (cE.of rfl rfl) (o8 (au (bu dS (av 9) aJ) (au (av 3) aB)) T.dg) (λ_ _ _ _ _ _=>(bW (i:=0) (hN:=(by decide +kernel:ω (["other","one","squares","many"]:List Str))))) (λ_ _ _ _ _ _=>(oh (dR (rL (jI hr)) (bu kT (bu mU (av 0) (av 1)) (av 3)) (av 2)))) (λ_ _ _ _ _ _=>(cO (au (av 1) (au (av 0) aB)))))))))))) (aV (bM (i:=3) (bO sG T.oJ ahA (au aJ (au (av 1) aB))) (hN:=eK.nd)) (aV (gQ (e7 (au (av 3) aB) T.dg) (bW (i:=9) (hN:=eK.nd)) (aZ (mP (uN (av 4) (fQ (N':=["other","one"]) (pick:=[η,ζ 9]) (cE.of rfl rfl) (o8 (au (bu dS (av 9) aJ) (au (av 3) aB)) T.dg) (λ_ _ _ _ _ _=>(bW (i:=0) (hN:=(by decide +kernel:ω (["other","one"]:List Str))))) (λ_ _ _ _ _ _=>(oh (dR (rL (jI hr)) (bu mU (av 0) (av 1)) (cO (au aJ (au aJ (au aJ aB))))))) (λ_ _ _ _ _ _=>(cO (au (av 1) (au (av 0) aB))))))))) (aZ (mO (i:=4) (hN:=eK.nd) (N':=["one","other"]) (pick:=[η,η]) (cE.of rfl rfl) (o9 (av 4)) (λ_ _ _ _ _ _=>(ye (n:=2) (ng (bW (i:=0) (hN:=(by decide +kernel:ω (["one","other"]:List Str)))) (ng (bW (i:=1) (hN:=(by decide +kernel:ω (["one","other"]:List Str)))) yd)))) (λ_ _ _ _ _ _=>(oh (dR kU (bu Vn (av 0) (av 1)) (av 0)))) (λ_ _ _ _ _ _=>(cO (au (av 0) (au (av 1) aB))))))))))))))) ?_
  exact(aZ (bS (bI T.yY (HA T) (hr.mono (by decide)) (au (av 3) (au (av 4) aB)))))
theorem uy:cC ["table","order","many","found","one","other"] ["table","order"] (aX qN):=⟨rfl,rfl,rfl,by decide +kernel,rfl,by decide +kernel,by decide +kernel⟩
theorem Ur(T:Tx K mg):bV P w K mg base bP 1 T.lR T.C7 ["table","order"] (bX K 2 oU) :=
 CM (k:=0) T.DK.fn uy rfl rfl λcdv A outer s H E hr=>by
  show b7 _ _ tG;unfold tG;refine aV (bM (i:=2) (bO gU T.gG agB (au (av 0) aB)) (hN:=uy.nd)) ?_;refine aV (mO (i:=3) (hN:=uy.nd) (N':=["place","many"]) (pick:=[η,ζ 2]) (cE.of rfl rfl) (e7 (au (av 2) aB) T.dg) (λ_ _ _ _ _ _=>(bW (i:=0) (hN:=(by decide +kernel:ω (["place","many"]:List Str))))) (λ_ _ _ _ _ _=>fC) (λ_ _ _ _ _ _=>(bu HF (fP (au dZ aB)) (av 1)))) ?_
  refine aV (gQ (e7 (au (av 2) aB) T.dg) (bW (i:=4) (hN:=uy.nd)) (aZ (gQ (e7 (au (av 2) aB) T.dg) (bW (i:=5) (hN:=uy.nd)) (aZ (qw (cF cG (cF cG (av 0) (av 4)) (av 5)) (sd (cF cG (av 3) (cF cG (av 1) (av 4))) (cF cG (av 1) (av 5)))))))) ?_;exact(aZ (bS (av 3)))
theorem GD:cC ["table","one","other","found"] ["table","one","other"] (aX qD):=⟨rfl,rfl,rfl,by decide +kernel,rfl,by decide +kernel,by decide +kernel⟩
theorem Ui(T:Tx K mg):bV P w K mg base bP 1 T.lH T.CY ["table","one","other"] (bX K 3 kc) :=
 CM (k:=0) T.DC.fn GD rfl rfl λcdv A outer s H E hr=>by
  show b7 _ _ sX;unfold sX;refine aV (mO (i:=3) (hN:=GD.nd) (N':=["row"]) (pick:=[η]) (cE.of rfl rfl) (o9 (av 0)) (λ_ _ _ _ _ _=>(bW (i:=0) (hN:=(by decide +kernel:ω (["row"]:List Str))))) (λ_ _ _ _ _ _=>fC) (λ_ _ _ _ _ _=>(j5 acF T.rQ boot_list (au (av 0) aB)))) ?_
  refine aV (qw (uL (cF cG (cF cG (av 3) (av 1)) (av 2))) (sd (cF cG (av 3) (av 1)) (av 2))) ?_;refine aV (qw (uL (cF cG (cF cG (av 3) (av 2)) (av 1))) (sd (cF cG (av 3) (av 2)) (av 1))) ?_;exact(aZ (bS (av 3)))
theorem GG:cC ["table","many"] ["table"] (aX qT):=⟨rfl,rfl,rfl,by decide +kernel,rfl,by decide +kernel,by decide +kernel⟩
theorem Uv(T:Tx K mg):bV P w K mg base bP 1 T.lX T.Df ["table"] (bX K 1 k6) :=
 d9 (k:=0) T.DP.fn GG rfl rfl λcdv A outer s H E hr=>by
  show b7 _ _ tM;unfold tM;refine aV (bM (i:=1) (bO gU T.gG agB (au (av 0) aB)) (hN:=GG.nd)) ?_;exact(aZ (bS (fQ (N':=["one","many","table"]) (pick:=[η,ζ 1,ζ 0]) (cE.of rfl rfl) (e7 (au (av 1) aB) T.dg) (λ_ _ _ _ _ _=>(bW (i:=0) (hN:=(by decide +kernel:ω (["one","many","table"]:List Str))))) (λ_ _ _ _ _ _=>fC) (λ_ _ _ _ _ _=>(fQ (N':=["other","one","table"]) (pick:=[η,ζ 0,ζ 2]) (cE.of rfl rfl) (e7 (au (av 1) aB) T.dg) (λ_ _ _ _ _ _=>(bW (i:=0) (hN:=(by decide +kernel:ω (["other","one","table"]:List Str))))) (λ_ _ _ _ _ _=>fC) (λ_ _ _ _ _ _=>(j6 (kP kR (av 1) (av 0)) (kO (uL (cF cG (cF cG (av 2) (av 1)) (av 0)))))))))))
theorem nW:cC ["pot","most","found","many","one"] ["pot","most"] (aX qR):=⟨rfl,rfl,rfl,by decide +kernel,rfl,by decide +kernel,by decide +kernel⟩
theorem Ut(T:Tx K mg):bV P w K mg base bP 3 T.lV T.Dd ["pot","most"] (bX K 2 rV) :=
 d9 (k:=2) T.DN.fn nW rfl rfl λcdv A outer s H E hr=>by
  show b7 _ _ tL;unfold tL;refine aV (dM (dR rK (bI T.dP (d7 T) (hr.mono (by decide)) (au (av 0) (au aJ aB))) aJ) (aZ (bM (i:=2) (bI T.DE (Uj T) (hr.mono (by decide)) (au (av 0) (au (av 1) aB))) (hN:=nW.nd))) (aZ (bM (i:=2) (bI T.DI (Uo T) (hr.mono (by decide)) (au (av 0) (au (av 1) aB))) (hN:=nW.nd)))) ?_
  refine aV (bM (i:=3) (bO gU T.gG agB (au (av 2) aB)) (hN:=nW.nd)) ?_;refine aV (dM (dR kU (bI T.dP (d7 T) (hr.mono (by decide)) (au (av 0) (au aJ aB))) aJ) (aZ (bM (i:=2) (bI T.DP (Uv T) (hr.mono (by decide)) (au (av 2) aB)) (hN:=nW.nd))) eG) ?_
  refine aV (dM (PW.pt (Hw (dR Vj (av 3) aJ) (Hx (dR kU (bI T.dP (d7 T) (hr.mono (by decide)) (au (av 0) (au aJ aB))) aJ)))) (aV (bM (i:=4) (bI T.dP (d7 T) (hr.mono (by decide)) (au (av 0) (au (av 3) aB))) (hN:=nW.nd)) (aZ (bM (i:=2) (bI T.DC (Ui T) (hr.mono (by decide)) (au (av 2) (au (av 4) (au (bu kT (bu dS (bu dS (av 4) aJ) (bI T.dP (d7 T) (hr.mono (by decide)) (au (av 0) (au (bu mU (av 3) aJ) aB)))) (av 3)) aB)))) (hN:=nW.nd)))) eG) ?_
  exact(aZ (bS (bI T.DK (Ur T) (hr.mono (by decide)) (au (av 2) (au (bI T.DJ (Uq T) (hr.mono (by decide)) (au (av 0) (au (av 3) aB))) aB)))))
theorem Qh:cC ["table"] ["table"] (aX qH):=⟨rfl,rfl,rfl,by decide +kernel,rfl,by decide +kernel,by decide +kernel⟩
theorem Uk(T:Tx K mg):bV P w K mg base bP 1 T.lK T.C1 ["table"] (bX K 1 rT) :=
 d9 (k:=0) T.DF.fn Qh rfl rfl λcdv A outer s H E hr=>by
  show b7 _ _ sZ;unfold sZ;exact(aZ (bS (j5 sF T.jh agQ (au (fQ (N':=["row","table"]) (pick:=[η,ζ 0]) (cE.of rfl rfl) (o9 (av 0)) (λ_ _ _ _ _ _=>(bW (i:=0) (hN:=(by decide +kernel:ω (["row","table"]:List Str))))) (λ_ _ _ _ _ _=>fC) (λ_ _ _ _ _ _=>(j5 sF T.jh agQ (au (fQ (N':=["k","row"]) (pick:=[η,ζ 0]) (cE.of rfl rfl) (e7 (au (bO gU T.gG agB (au (av 1) aB)) aB) T.dg) (λ_ _ _ _ _ _=>(bW (i:=0) (hN:=(by decide +kernel:ω (["k","row"]:List Str))))) (λ_ _ _ _ _ _=>(oh (gR (cF cG (av 1) (av 0))))) (λ_ _ _ _ _ _=>(av 0))) aB)))) aB))))
theorem Qg:cC ["found"] ["found"] (aX qB):=⟨rfl,rfl,rfl,by decide +kernel,rfl,by decide +kernel,by decide +kernel⟩
theorem Uh(T:Tx K mg):bV P w K mg base bP 1 T.lF T.CV ["found"] (bX K 1 j9) :=
 d9 (k:=0) T.DB.fn Qg rfl rfl λcdv A outer s H E hr=>by
  show b7 _ _ kr;unfold kr;exact(aZ (bS (j6 (bO jP T.ez agj (au (av 0) (au (jd rfl T.AZ boot_int) aB))) (kO (uL (bO jP T.ez agj (au (av 0) (au (jd rfl T.xN boot_bool) aB))))))))
theorem uz:cC ["e","some","words"] ["e"] (aX qO):=⟨rfl,rfl,rfl,by decide +kernel,rfl,by decide +kernel,by decide +kernel⟩
theorem UD(T:Tx K mg):zw P w K mg base 1 T.lS T.C8 ["e"] (bX K 1 xR) :=
 aaO (k:=0) T.DL.fn uz rfl rfl λcdv A outer s H E hr=>by
  show b7 _ _ tH;unfold tH;refine aV (bM (i:=1) (fP (au (bO (jk T.gq) T.ez agj (au (av 0) (au (jz T.JZ T.Io) aB))) (au (bO (jk T.gq) T.ez agj (au (av 0) (au (jz T.JY T.Im) aB))) (au (bO (jk T.gq) T.ez agj (au (av 0) (au (jz T.JX T.Il) aB))) (au (bO (jk T.gq) T.ez agj (au (av 0) (au (jz T.JW T.Ik) aB))) aB))))) (hN:=uz.nd)) ?_;refine aV (bM (i:=1) (bu uQ (av 1) (fP (au (bO (jk T.gq) T.ez agj (au (av 0) (au (jz T.JV T.Ij) aB))) (au (bO (jk T.gq) T.ez agj (au (av 0) (au (jz T.JU T.Ii) aB))) (au (bO (jk T.gq) T.ez agj (au (av 0) (au (jz T.JT T.Ih) aB))) (au (bO (jk T.gq) T.ez agj (au (av 0) (au (jz T.JR T.Ig) aB))) aB)))))) (hN:=uz.nd)) ?_;refine aV (bM (i:=1) (bu uQ (av 1) (fP (au (bO (jk T.gq) T.ez agj (au (av 0) (au (jz T.JQ T.Ie) aB))) (au (bO (jk T.gq) T.ez agj (au (av 0) (au (jz T.JP T.Ic) aB))) (au (bO (jk T.gq) T.ez agj (au (av 0) (au (jz T.JO T.Ib) aB))) aB))))) (hN:=uz.nd)) ?_;refine aV (dM (PW.pt (oj (dR kR (Tj (av 1) dZ) aJ) (om (ia (gR (bO (jk T.gq) T.ez agj (au (av 0) (au (jd rfl T.Iw ac5) aB)))))))) (aZ (bS fD)) eG) ?_;refine aV ?_ ?_
  ·with_reducible refine bM (i:=2) ?_ ?_ ?_ ?_ ?_ ?_
   ·with_reducible refine fP ?_
    with_reducible refine au ?_ ?_ ?_
    ·exact fD
    ·skip
     with_reducible refine au ?_ ?_ ?_
     ·exact fD
     ·skip
      with_reducible refine au ?_ ?_ ?_
      ·exact fD
      ·skip
       with_reducible refine au ?_ ?_ ?_
       ·exact fD
       ·skip
        with_reducible refine au ?_ ?_ ?_
        ·exact fD
        ·skip
         with_reducible refine au ?_ ?_ ?_
         ·exact fD
         ·skip
          with_reducible refine au ?_ ?_ ?_
          ·exact fD
          ·skip
           with_reducible refine au ?_ ?_ ?_
           ·exact fD
           ·skip
            with_reducible refine au ?_ ?_ ?_
            ·exact fD
            ·skip
             with_reducible refine au ?_ ?_ ?_
             ·exact fD
             ·skip
              with_reducible refine au ?_ ?_ ?_
              ·exact fD
              ·skip
               with_reducible exact aB
              ·exact cj rfl
             ·exact cj rfl
            ·exact cj rfl
           ·exact cj rfl
          ·exact cj rfl
         ·exact cj rfl
        ·exact cj rfl
       ·exact cj rfl
      ·exact cj rfl
     ·exact cj rfl
    ·exact cj rfl
   ·exact uz.nd
   ·rfl
   ·first|exact Or.inl rfl|exact Or.inr rfl
   ·rfl
   ·first|exact .inl rfl|exact .inr rfl
  ·skip
   exact(aZ (bS (cF cG (av 2) (Tf (av 1) dZ))))
theorem ux:cC ["thing","k","row"] ["thing"] (aX qI):=⟨rfl,rfl,rfl,by decide +kernel,rfl,by decide +kernel,by decide +kernel⟩
theorem Ul(T:Tx K mg):bV P w K mg base bP 2 T.lM T.C2 ["thing"] (bX K 1 oQ) :=
 d9 (k:=1) T.DG.fn ux rfl rfl λcdv A outer s H E hr=>by
  show b7 _ _ ku;unfold ku;refine aV (dM (PW.pt (oj (ia (gR (bO jP T.ez agj (au (av 0) (au (jd rfl T.jh agQ) aB))))) (om (ia (Hu oE oE aJ (bO gU T.gG agB (au (av 0) aB)) aJ))))) (aZ (bS dZ)) eG) ?_;refine aV (gQ (Jr (au (av 0) aB) T.A0) (ye (n:=2) (ng (bW (i:=1) (hN:=ux.nd)) (ng (bW (i:=2) (hN:=ux.nd)) yd))) (aV (dM (PW.pt (oj (ia (gR (bO jP T.ez agj (au (av 2) (au (jd rfl T.jh agQ) aB))))) (om (ia (gR (bO sH T.oK ahz (au (fQ (N':=["one","thing"]) (pick:=[η,ζ 0]) (cE.of rfl rfl) (u7 (av 2)) (λ_ _ _ _ _ _=>(bW (i:=0) (hN:=(by decide +kernel:ω (["one","thing"]:List Str))))) (λ_ _ _ _ _ _=>fC) (λ_ _ _ _ _ _=>(j6 (bI T.DB (Uh T) (hr.mono (by decide)) (au (av 0) aB)) (kO (Hv oE rK aJ (av 0) (bO gU T.gG agB (au (av 1) aB))))))) aB))))))) (aZ (bS dZ)) eG) (aZ (dM (PW.pt (oj (dR (UQ (jI hr)) (Tc (au (av 2) aB) T.Ip T.Iq) (j5 D4 T.rQ boot_list (au (av 2) aB))) (om (dR (rL (jI hr)) (av 1) (av 2))))) (aZ (bS dZ)) eG)))) ?_
  refine aV (gQ (Jr (au (av 0) aB) T.A0) (ye (n:=2) (ng (bW (i:=1) (hN:=ux.nd)) (ng (bW (i:=2) (hN:=ux.nd)) yd))) (aZ (dM (ia (gR (bO sH T.oK ahz (au (fQ (N':=["one","k","thing"]) (pick:=[η,ζ 1,ζ 0]) (cE.of rfl rfl) (u7 (av 2)) (λ_ _ _ _ _ _=>(bW (i:=0) (hN:=(by decide +kernel:ω (["one","k","thing"]:List Str))))) (λ_ _ _ _ _ _=>fC) (λ_ _ _ _ _ _=>(kP (rL (jI hr)) (av 1) (cF cG (av 2) (av 0))))) aB)))) (aZ (bS dZ)) eG))) ?_
  exact(aZ (bS dZ))
theorem mQ:cC ["pot","web","many","at","row","odd","place","some","way"] ["pot","web"] (aX qS):=⟨rfl,rfl,rfl,by decide +kernel,rfl,by decide +kernel,by decide +kernel⟩
theorem Uu(T:Tx K mg):bV P w K mg base bP 2 T.lW T.De ["pot","web"] (bX K 2 oW) :=
 d9 (k:=1) T.DO.fn mQ rfl rfl λcdv A outer s H E hr=>by
  show b7 _ _ pU;unfold pU;refine aV (bM (i:=2) (bO gU T.gG agB (au (av 1) aB)) (hN:=mQ.nd)) ?_;refine aV (bM (i:=3) (bI T.dP (d7 T) (hr.mono (by decide)) (au (av 0) (au (av 2) aB))) (hN:=mQ.nd)) ?_
  refine aV (bM (i:=4) (cF cG (av 1) (av 3)) (hN:=mQ.nd)) ?_;refine aV (bM (i:=5) (cF cG (fP (au (av 2) (au (wW wm aJ) (au (av 3) (au dZ (au uM (au fD (au (cO (au aJ aB)) (au aJ (au (bu mU (av 2) aJ) aB)))))))))) (bI T.dP (d7 T) (hr.mono (by decide)) (au (av 0) (au aJ aB)))) (hN:=mQ.nd)) ?_
  refine aV (bM (i:=6) (bI T.dP (d7 T) (hr.mono (by decide)) (au (av 0) (au (bu dS (bO gU T.gG agB (au (av 4) aB)) aJ) aB))) (hN:=mQ.nd)) ?_
  refine aV (bM (i:=7) (fP (au (bu rM (bu rM (oi (av 4) jy (j4 (av 6))) (cO (au (av 5) aB))) (oi (av 4) (j4 (av 6)) jy)) (au (Td (av 4) jy jy (j4 (wW wm aJ))) (au (oi (av 4) (j4 aJ) jy) (au (j5 D4 T.rQ boot_list (au (av 4) aB)) (au (bu rM (av 4) (oi (av 4) jy (j4 aJ))) (au (av 5) (au (cO aB) aB)))))))) (hN:=mQ.nd)) ?_;refine aV (bM (i:=8) (bI T.dP (d7 T) (hr.mono (by decide)) (au (av 0) (au aJ aB))) (hN:=mQ.nd)) ?_
  refine aV (dM (dR rK (av 8) aJ) (aZ (bS (bu rM (bu rM (oi (av 1) jy (j4 (av 3))) (cO (au (cF cG (av 7) (av 8)) aB))) (oi (av 1) (j4 (bu dS (av 3) aJ)) jy)))) eG) ?_;refine aV (dM (dR kU (av 8) aJ) (aZ (bS (bu UN (cO (au (cO aB) aB)) (bu dS aJ (bI T.dP (d7 T) (hr.mono (by decide)) (au (av 0) (au aJ aB))))))) eG) ?_
  refine aZ ?_
  with_reducible refine bS ?_
  with_reducible refine cF cG ?_ ?_ ?_
  ·with_reducible refine fP ?_
   with_reducible refine au ?_ ?_ ?_
   ·exact(j5 D4 T.rQ boot_list (au (av 1) aB))
   ·skip
    with_reducible refine au ?_ ?_ ?_
    ·exact(oi (av 1) jy (j4 (wW wm aJ)))
    ·skip
     with_reducible refine au ?_ ?_ ?_
     ·exact(bu rM (av 1) (cO (au (cO aB) aB)))
     ·skip
      with_reducible refine au ?_ ?_ ?_
      ·exact(cO aB)
      ·skip
       with_reducible refine au ?_ ?_ ?_
       ·exact uM
       ·skip
        with_reducible refine au ?_ ?_ ?_
        ·exact Ht
        ·skip
         with_reducible refine au ?_ ?_ ?_
         ·exact fD
         ·skip
          with_reducible refine au ?_ ?_ ?_
          ·exact aJ
          ·skip
           with_reducible refine au ?_ ?_ ?_
           ·exact(cO (au (av 1) aB))
           ·skip
            with_reducible exact aB
           ·exact cj rfl
          ·exact cj rfl
         ·exact cj rfl
        ·exact cj rfl
       ·exact cj rfl
      ·exact cj rfl
     ·exact cj rfl
    ·exact cj rfl
   ·exact cj rfl
  ·exact(bI T.dP (d7 T) (hr.mono (by decide)) (au (av 0) (au aJ aB)))
  ·exact λ_ _=>rfl
theorem GC:cC ["many","thing","e"] ["many","thing"] (aX qC):=⟨rfl,rfl,rfl,by decide +kernel,rfl,by decide +kernel,by decide +kernel⟩
theorem AN(T:Tx K mg):bV P w K mg base bP 7 T.lG T.CW ["many","thing"] (bX K 2 iG) :=
 d9 (k:=6) T.vh.fn GC rfl rfl λcdv A outer s H E hr=>by
  show b7 _ _ pQ;unfold pQ;refine aV (PY (T:=eg) (i:=2) (aZ (mP (bI T.vg (Ue T) (hr.mono (by decide)) (au (av 0) (au (av 1) aB))))) (λW pn=>(zT (MH (MI T.vg (Uc T) (hr.mono (by decide)) (au (av 0) (au (av 1) aB)))))) (λea=>(Ti T.DL (UD T) (jo.held (hr.mono (by decide))) (au (av 2) aB))) T.JN (MC T.xw) (hN:=GC.nd)) ?_
  exact(aZ (bS fD))
theorem jc:cC ["script","k","pot","web","many","thing","found","one","odd","pairs","at"] ["script"] (aX qU):=⟨rfl,rfl,rfl,by decide +kernel,rfl,by decide +kernel,by decide +kernel⟩
theorem Uw(T:Tx K mg):bV P w K mg base bP 8 T.kC T.Dg ["script"] (bX K 1 uV) :=
 d9 (k:=7) T.Kz.fn jc rfl rfl λcdv A outer s H E hr=>by
  show b7 _ _ tN;unfold tN;refine aV (gQ (e7 (au (bO acE T.Ir boot_max (au aJ (au (bO sG T.oJ ahA (au (bO gU T.gG agB (au (av 0) aB)) (au aJ aB))) aB))) aB) T.dg) (bW (i:=1) (hN:=jc.nd)) (aV (bM (i:=2) (bI T.DH (Um T) (hr.mono (by decide)) (au (bI T.DM (Us T) (hr.mono (by decide)) (au (av 0) (au (av 1) aB))) aB)) (hN:=jc.nd)) (aV (bM (i:=3) (bI T.DF (Uk T) (hr.mono (by decide)) (au (bI T.DN (Ut T) (hr.mono (by decide)) (au (av 2) (au aJ aB))) aB)) (hN:=jc.nd)) (aV (bM (i:=4) (bO gU T.gG agB (au (av 3) aB)) (hN:=jc.nd)) (aV (bM (i:=5) (bI T.DO (Uu T) (hr.mono (by decide)) (au (av 2) (au (av 3) aB))) (hN:=jc.nd)) (aV (bM (i:=6) (bI T.vj (AO T) (hr.mono (by decide)) (au (av 5) aB)) (hN:=jc.nd)) (aV (dM (PW.pt (oj (ia (gR (bO jP T.ez agj (au (av 6) (au (jd rfl T.xN boot_bool) aB))))) (om (dR kR (av 6) (bI T.DG (Ul T) (hr.mono (by decide)) (au (av 5) aB)))))) (aZ (bS dZ)) eG) (aV (bM (i:=7) (bI T.dP (d7 T) (hr.mono (by decide)) (au (av 2) (au (av 4) aB))) (hN:=jc.nd)) (aV (bM (i:=8) (fP (au (cO (au (av 7) (au (av 7) aB))) (au (cO (au (av 7) (au (av 4) aB))) (au (cO (au (wW wm aJ) (au (av 7) aB))) (au (cO (au (av 7) aB)) (au (cO (au (av 7) (au aJ (au aJ aB)))) (au (fP (au (av 7) (au aJ aB))) (au uM (au (cO (au (av 7) (au uM aB))) (au (cO (au dZ (au (av 7) aB))) aB)))))))))) (hN:=jc.nd)) (aV (bM (i:=8) (bu uQ (av 8) (fP (au (cO (au (av 7) (au fD aB))) (au (av 7) (au (cO (au (cO (au (av 7) (au aJ aB))) aB)) aB))))) (hN:=jc.nd)) (aV (mO (i:=9) (hN:=jc.nd) (N':=["k"]) (pick:=[η]) (cE.of rfl rfl) (e7 (au (bu mU (av 4) aJ) aB) T.dg) (λ_ _ _ _ _ _=>(bW (i:=0) (hN:=(by decide +kernel:ω (["k"]:List Str))))) (λ_ _ _ _ _ _=>fC) (λ_ _ _ _ _ _=>(cO (au (av 0) (au (bu dS (av 0) aJ) aB))))) (aV (bM (i:=10) (bI T.dP (d7 T) (hr.mono (by decide)) (au (av 2) (au (bu dS (bO gU T.gG agB (au (av 9) aB)) aJ) aB))) (hN:=jc.nd)) (aV (dM (dR kR (bI T.vh (AN T) (hr.mono (by decide)) (au (av 4) (au (bu uQ (bu uQ (Hs (av 9) jy (j4 (av 10))) (fP (au (cF cG (av 8) (bI T.dP (d7 T) (hr.mono (by decide)) (au (av 2) (au aJ aB)))) aB))) (Hs (av 9) (j4 (av 10)) jy)) aB))) fD) (aZ (bS dZ)) eG) (aV (dM (dR kR (bI T.vh (AN T) (hr.mono (by decide)) (au (av 4) (au (cF cG (fP (au uM (au (j5 sF T.jh agQ (au (av 9) aB)) (au Ht (au fD (au aJ (au (cO (au (cO (au aJ (au aJ aB))) aB)) (au dZ aB)))))))) (bI T.dP (d7 T) (hr.mono (by decide)) (au (av 2) (au aJ aB)))) aB))) fD) (aZ (bS dZ)) eG) (aZ (dM (dR kR (bI T.vh (AN T) (hr.mono (by decide)) (au (av 4) (au (av 9) aB))) fD) (aZ (bS dZ)) eG)))))))))))))))) ?_
  exact(aZ (bS (j6 (kP HH (bI T.vj (AO T) (hr.mono (by decide)) (au (cO (au (cO aB) aB)) aB)) dZ) (kO (kP HH (bI T.vj (AO T) (hr.mono (by decide)) (au (cO (au (cO (au aJ aB)) aB)) aB)) dZ)))))
end
end Ev
namespace Ev
open PySem L2
theorem bh{s t:ah}{e e':Ev}{c c':aa}(h:s e c=.ok (.nx e') c'):aD s t e c=t e' c':=by rw[gu,h];rfl
theorem ig{i:Int}(h:0<=i):∃n:Nat,i=n:=⟨i.toNat,by omega⟩
theorem pF{g:Gd}{s:ah}(inv:Nat->Ev->aa->Prop):∀(items:List D) (k:Nat) (e:Ev) (c:aa),inv k e c ->
  (∀i x,items[i]? = ζ x->∀e c,inv (k+i) e c->∃e' e'' c' c'',g x e c=.ok e' c'/\s e' c'=.ok (.nx e'') c''/\inv (k+i+1) e'' c'') ->
  ∃e' c',inv (k+items.length) e' c'/\cu (λ_=>True) g s items e c=.ok (.nx e') c'
 |[],k,e,c,hi,_=>⟨e,c,hi,by simp⟩
 |x::xs,k,e,c,hi,h=>by
  obtain⟨e',e'',c',c'',h1,h2,h3⟩:=h 0 x rfl e c hi;obtain⟨e3,c3,i3,h4⟩:=pF inv xs (k+1) e'' c'' h3 λi y hy e c hi=>by
   have:=h (i+1) y (by simpa using hy) e c (by rwa[show k+(i+1)=k+1+i by omega])
   rwa[show k+(i+1)+1=k+1+i+1 by omega]at this
  exact⟨e3,c3,by rwa[af1,show k+(xs.length+1)=k+1+xs.length by omega],by rw[pG,h1,R.az,h2];exact h4⟩
def eS(j:Nat) (n:Nat) (c:aa):Prop:=c.length=n/\j<n/\∃p:Int,c[j]? = ζ (.lst [.int p])
theorem eS.set{j n:Nat}{c:aa}(h:eS j n c) (p:Int):eS j n (c.set j (.lst [.int p])):=by
 obtain⟨h1,h2,_⟩:=h;exact⟨by simp[h1],h2,p,by rw[agI (by omega)]⟩
theorem fN{j n:Nat}{c:aa}{bR:Int}(h:eS j n c) (h0:0<bR) (h1:bR<1073741824) :
  ∃(x:Int) (c':aa),0<=x/\x<bR/\eS j n c'/\aN [.ref j,.int bR] c=.ok (.int x) c':=by
 obtain⟨hl,hj,p,hp⟩:=id h;refine⟨p % bR,c.set j (.lst [.int (p/bR)]),aij _ (by omega),aik _ h0,h.set _,?_⟩
 have e1:aK (.ref j) (.int 0) c=.ok (.int p) c:=by
  unfold aK fO;simp[hp]
 have e2:kK (.ref j) (.int 0) (.int (p/bR)) c=.ok () (c.set j (.lst [.int (p/bR)])):=by
  unfold kK;simp[hp,fZ]
 have e3:(c.set j (.lst [.int (p/bR)])).take c.length=c.set j (.lst [.int (p/bR)]):=by
  rw[aih];simp
 simp(disch:=omega) [aN,pR,e1,mX,sj,e2,e3]
theorem RN(cell:Int) (c:aa):∃p:Int,oR [.int cell] c=.ok (.ref c.length) (c++[.lst [.int p]]):=by
 by_cases h:10^18<=cell
 ·refine⟨cell-10^18,?_⟩;simp(disch:=omega) [oR,pS,G5,h];rw[if_pos (by simpa using h)]
  simp[cY]
 ·obtain⟨e',c',⟨⟨q,v1,v2,rfl⟩,rfl⟩,hf⟩:=J7 (g:=aA 2) (s:=(aD (aE 3 (ay cI (ay dU (ay bf (ay bf (ay cI (ak 0) (dC (.int 2147483629))) (ay dU (dC (.int 7919)) (ak 2))) (dC (.int 1))) (dC (.int 48271))) (dC (.int 2147483647)))) (aD (aE 3 (ay cI (ay bf (ay bf (ay dU (ak 3) (ak 3)) (ay dU (dC (.int 69621)) (ak 2))) (dC (.int 7))) (dC (.int 2147483587)))) (aE 1 (ay bf (ay dU (ak 1) (dC (.int 2147483587))) (ak 3))))))
   (λe c'=>(∃q v1 v2,e=[ζ (.int cell),ζ (.int q),v1,v2])/\c'=c) (aM 0 64) [ζ (.int cell),ζ (.int 0),η,η] c ⟨⟨0,η,η,rfl⟩,rfl⟩ (λx hx e c' ⟨⟨q,v1,v2,he⟩,hc⟩=>by
    obtain⟨i,rfl,i0,i1⟩:=oN hx;subst he;subst hc;have b0:0<=(cell % 2147483629+7919*i+1)*48271 % 2147483647:=aij _ (by decide)
    have b1:(cell % 2147483629+7919*i+1)*48271 % 2147483647<2147483647:=aik _ (by decide)
    generalize hm:(cell % 2147483629+7919*i+1)*48271 % 2147483647=m at b0 b1
    refine⟨_,[ζ (.int cell),ζ (.int (q*2147483587+(m*m+69621*i+7) % 2147483587)),ζ (.int i),ζ (.int ((m*m+69621*i+7) % 2147483587))],_,_,rfl,by simp(disch:=omega) [mX,A1,mul_r,hm],⟨⟨_,_,_,rfl⟩,rfl⟩⟩)
  refine⟨q,?_⟩;have hh:¬(1000000000000000000<=cell):=by simpa using h
  simp(disch:=omega) [oR,pS,G5,hh];rw[hf];simp[cY]
theorem acD(ns:List Int) (k:Int) (h:0<=k) (c:aa):∃x:Int,oV [.bQ ns,.int k] c=.ok (.int x) c:=by
 by_cases q:k<ns.length
 ·have hk:k.toNat<ns.length:=by omega
  refine⟨ns[k.toNat],?_⟩;have e:aK (.bQ ns) (.int k) c=.ok (.int ns[k.toNat]) c:=by
   show(match cM (ns.map D.int) k with|some d=>R.ok d c|none=>R.bad)=_
   have:cM (ns.map D.int) k=ζ (.int ns[k.toNat]):=by
    have:=pW (xs:=ns.map D.int) (j:=k.toNat) (v:=.int ns[k.toNat]) (by simp[hk])
    rw[ai0 h]at this;exact this
   rw[this]
  simp[oV,pT,q,e]
 ·exact⟨0,by simp[oV,pT,q]⟩
theorem take2{j:Nat}{c:aa}{p bR:Int}(hp:c[j]? = ζ (.lst [.int p])) (h0:0<bR) (h1:bR<1073741824):aN [.ref j,.int bR] c=.ok (.int (p % bR)) (c.set j (.lst [.int (p/bR)])):=by
 have hj:j<c.length:=(af6.mp hp).1;have e1:aK (.ref j) (.int 0) c=.ok (.int p) c:=by
  unfold aK fO;simp[hp]
 have e2:kK (.ref j) (.int 0) (.int (p/bR)) c=.ok () (c.set j (.lst [.int (p/bR)])):=by
  unfold kK;simp[hp,fZ]
 have e3:(c.set j (.lst [.int (p/bR)])).take c.length=c.set j (.lst [.int (p/bR)]):=by
  rw[aih];simp
 simp(disch:=omega) [aN,pR,e1,mX,sj,e2,e3]
def PO(j n:Nat) (os:List Nat) (c:aa):Prop:=c.length=n+1/\j<n/\(∃p:Int,c[j]? = ζ (.lst [.int p]))/\c[n]? = ζ (.lst (nD os))
theorem Ze(os:List Nat) (i k:Nat):(os.take i++k::os.drop i).Perm (k::os):=by
 refine ajL.trans ?_;rw[aiS]
def rJ:ah:=(dQ (vn (ak 2) (aC 2 aN (ao (ak 0) (ao (ay bf (ak 3) (dC (.int 1))) aq))) (ak 3)))
theorem TH{j n k:Nat}{os:List Nat}{c:aa}(hP:PO j n os c) (hk:os.length=k) (hk':k<1000) (a1:Option D) :
  ∃os' c',PO j n os' c'/\os'.Perm (k::os)/\rJ [ζ (.ref j),a1,ζ (.ref n),ζ (.int k)] c=.ok (.nx [ζ (.ref j),a1,ζ (.ref n),ζ (.int k)]) c':=by
 obtain⟨h1,h2,⟨p,h3⟩,h4⟩:=hP;have hs:=cW (n:=1000) (by decide)
 have ht:=take2 (bR:=(k:Int)+1) h3 (by omega) (by omega)
 have x0:=aij p (show(k:Int)+1≠0 by omega)
 have x1:=aik p (show(0:Int)<(k:Int)+1 by omega)
 generalize p % ((k:Int)+1)=x at ht x0 x1
 obtain⟨i,rfl⟩:=ig x0
 generalize hc1:c.set j (.lst [.int (p/((k:Int)+1))])=c1 at ht
 have l1:c1.length=n+1:=by rw[<-hc1];simp[h1]
 have q1:c1[n]? = ζ (.lst (nD os)):=by rw[<-hc1,agU (by omega)];exact h4
 have q0:c1[j]? = ζ (.lst [.int (p/((k:Int)+1))]):=by rw[<-hc1,agI (by omega)]
 refine⟨os.take i++k::os.drop i,c1.set n (.lst (nD (os.take i++k::os.drop i))),⟨by simp[l1],h2,⟨_,by rw[agU (by omega)];exact q0⟩,by rw[agI (by omega)]⟩,Ze os i k,?_⟩
 have e:nD (os.take i++k::os.drop i)=(nD os).take i ++ .int k::(nD os).drop i:=by simp[nD,List.map_take,List.map_drop]
 have hin:vn (ak 2) (aC 2 aN (ao (ak 0) (ao (ay bf (ak 3) (dC (.int 1))) aq))) (ak 3) [ζ (.ref j),a1,ζ (.ref n),ζ (.int k)] c=.ok .aI (c1.set n (.lst (nD (os.take i++k::os.drop i)))):=by
  rw[MQ];simp only[bE,gz,gs,R.az,x_call,bD,cH,fh,bG,i9,af1,agd,if_pos,ht,q1];rw[if_pos ⟨⟨by omega,by rw[af7];omega⟩,by rw[af7];omega,rfl⟩,ahL,e]
 unfold rJ;rw[vY,hin];rfl
theorem TJ{j n:Nat}{q:Int}{c c3:aa}{l:List D}{v:Option D}(hn:c.length=n) (b:-4611686018427387904<=q/\q<4611686018427387904) (hf:cu (λ_=>True) (aA 3) rJ (aM 0 q) [ζ (.ref j),ζ (.int q),ζ (.ref n),η] (c++[.lst []])=.ok (.nx [ζ (.ref j),ζ (.int q),ζ (.ref n),v]) c3)
  (ht:fV [.ref n] c3=.ok (.tup l) c3) (nr:bL l=Γ):mY [.ref j,.int q] c=.ok (.tup l) (c3.take n):=by
 have hb:tE=aD (aE 2 (fU aq)) (aD (b8 (bH (ao (ak 1) aq)) (aA 3) rJ) (aR (aF fV (ao (ak 2) aq)))):=rfl;have e0:(aE 2 (fU aq)) [ζ (.ref j),ζ (.int q),η,η] c=.ok (.nx [ζ (.ref j),ζ (.int q),ζ (.ref n),η]) (c++[.lst []]):=by simp[hn]
 have e1:(b8 (bH (ao (ak 1) aq)) (aA 3) rJ) [ζ (.ref j),ζ (.int q),ζ (.ref n),η] (c++[.lst []])=.ok (.nx [ζ (.ref j),ζ (.int q),ζ (.ref n),v]) c3:=by
  simp only[i8,gv,bD,bE,gz,gs,bG,R.az];rw[if_pos (by omega)]
  exact hf
 have e2:(aR (aF fV (ao (ak 2) aq))) [ζ (.ref j),ζ (.int q),ζ (.ref n),v] c3=.ok (.rt (.tup l)) c3:=by simp[ht]
 rw[mY,jt,hb];have es:cg 4 [D.ref j,.int q]=[ζ (.ref j),ζ (.int q),η,η]:=rfl;rw[es,bh e0,bh e1,e2];have j7:noRef (.tup l)=Γ:=nr;simp only[R.az];unfold cY;dsimp only;rw[if_pos j7,hn]
theorem TF{j n m:Nat}{c:aa}(hP:eS j n c) (hm:m<1000):∃os c',os.Perm (ι m)/\eS j n c'/\mY [.ref j,.int (m:Int)] c=.ok (.tup (nD os)) c':=by
 obtain⟨hl,hj,p,hp⟩:=hP;have hlen:(aM 0 (m:Int)).length=m:=by rw[dG];omega
 obtain⟨e',c3,⟨os,v,rfl,P3,hp3⟩,hf⟩:=pF (g:=aA 3) (s:=rJ) (λk e c=>∃os v,e=[ζ (.ref j),ζ (.int (m:Int)),ζ (.ref n),v]/\PO j n os c/\os.Perm (ι k))
  (aM 0 (m:Int)) 0 [ζ (.ref j),ζ (.int (m:Int)),ζ (.ref n),η] (c++[.lst []]) ⟨[],η,rfl,⟨by simp[hl],hj,⟨p,by rw[agC (by omega)];exact hp⟩,by rw[agG (by omega),hl];simp⟩,.refl _⟩ (λi x hx e c ⟨os,v,he,P1,hp1⟩=>by
   subst he;have hi:i<(aM 0 (m:Int)).length:=(af6.mp hx).1;obtain⟨hlt,rfl⟩:=kL hx;rw[ahu];rw[agr]at hp1 ⊢;have ji:os.length=i:=by have:=hp1.length_eq;simpa using this
   obtain⟨Tz,c2,P2,hp2,h2⟩:=TH P1 ji (by omega) (ζ (.int (m:Int)))
   refine⟨_,_,_,_,rfl,h2,Tz,_,rfl,P2,?_⟩;rw[ajz];exact hp2.trans ((hp1.cons i).trans (ajA i _).symm))
 rw[hlen,agr]at hp3;obtain⟨l3,_,⟨p3,q3⟩,q4⟩:=P3;refine⟨os,c3.take n,hp3,⟨by rw[aha];omega,hj,p3,by rw[aiw hj];exact q3⟩,?_⟩
 exact TJ hl (by omega) hf (by unfold fV;dsimp only;rw[show fO c3 (.ref n)=ζ (nD os) by unfold fO;dsimp only;rw[q4]]) (uR os)
def cK(n m:Nat):List D:=(ι m).map λr=>.ref (n+r)
theorem wR{n m r:Nat}(h:r<m):cM (cK n m) (r:Int)=ζ (.ref (n+r)):=pW (by simp[cK,h])
def b9(m:Nat) (f:Nat->Nat->Bool) (i:Nat):List D:=(ι m).map λk=>.bl (f i k)
def dj(m:Nat) (f:Nat->Nat->Bool):aa:=(ι m).map λi=>.lst (b9 m f i)
def bw(m:Nat) (f:Nat->Nat->Bool):D:=.lst ((ι m).map λi=>.lst (b9 m f i))
def fB(f:Nat->Nat->Bool) (a b:Nat) (v:Bool):Nat->Nat->Bool:=λi k=>if i=a/\k=b then v else f i k
theorem QG(m:Nat) (f:Nat->Nat->Bool) (i:Nat):(b9 m f i).length=m:=by simp[b9]
theorem QH{m k:Nat}(f:Nat->Nat->Bool) (i:Nat) (h:k<m):(b9 m f i)[k]? = ζ (.bl (f i k)):=by simp[b9,h]
theorem AB(m:Nat) (f:Nat->Nat->Bool) (i:Nat):bL (b9 m f i)=Γ:=eu.mpr λd hd=>by
 obtain⟨k,_,rfl⟩:=af4.mp hd;rfl
theorem CH{m i:Nat}(f:Nat->Nat->Bool) (c:aa) (h:i<m):(c++dj m f)[c.length+i]? = ζ (.lst (b9 m f i)):=by
 rw[agG (by omega)]
 simp[dj,h]
theorem aar{m a b:Nat}(f:Nat->Nat->Bool) (v:Bool) (c:aa) (ha:a<m):(c++dj m f).set (c.length+a) (.lst ((b9 m f a).set b (.bl v)))=c++dj m (fB f a b v):=by
 rw[List.set_append_right _ _ (by omega)]
 congr 1
 rw[Nat.add_sub_cancel_left];apply aic
 ·simp[dj]
 ·intro i h1 h2;rw[ajX];simp only[dj,ai1,ah8]
  by_cases e:a=i
  ·subst e;rw[if_pos rfl]
   congr 1
   apply aic
   ·simp[b9]
   ·intro k h3 h4;rw[ajX];simp only[b9,ai1,ah8,fB]
    by_cases e2:b=k
    ·subst e2;simp
    ·rw[if_neg e2,if_neg (λz=>e2 z.2.symm)]
  ·rw[if_neg e]
   congr 1
   unfold b9;refine agH λk _=>?_
   unfold fB;rw[if_neg (λz=>e z.1.symm)]
theorem yb{m a b:Nat}(f:Nat->Nat->Bool) (v:Bool) (c:aa) (ha:a<m) (hb:b<m):kK (.ref (c.length+a)) (.int (b:Int)) (.bl v) (c++dj m f)=.ok () (c++dj m (fB f a b v)):=by
 have h:=CH f c ha;have p:=aar (b:=b) f v c ha;have hl:=QG m f a;unfold kK;simp[h,fZ,hl,hb,noRef,p]
theorem aaQ(n:Nat):(ν n [D.bl θ]).flatten=(ι n).map λ_=>D.bl θ:=by
 induction n with
 |zero=>rfl
 |succ n ih=>rw[agY,ag1,ih,ail,af8,agl];rfl
def pD:af:=(ay jX (bT (ao (dC (.bl θ)) aq)) (ak 1))
theorem aaw{q:Int}{m:Nat}(hq:q=m) (hm:m<1000) (v:Option D) (c:aa):pD [v,ζ (.int q)] c=.ok (.ref c.length) (c++[.lst ((ι m).map λ_=>.bl θ)]):=by
 have hs:=cW (n:=1000) (by decide)
 have h1:(1:Nat)<=ε:=cW (by decide)
 have e:(ν q.toNat [D.bl θ]).flatten=(ι m).map λ_=>D.bl θ:=by rw[aaQ,hq,ahL]
 unfold pD;simp only[cH,mE,bD,fh,bG,R.az,bE,gz,gs,af1,agd];rw[if_pos h1];simp only[R.az,ML,e];rw[if_pos ⟨by omega,by omega,by simp only[af1,agd];omega,rfl⟩]
theorem DY{q:Int}{m:Nat}(hq:q=m) (hm:m<1000):∀(items:List D) (v:Option D) (acc:List D) (c:aa),bJ (λ_=>True) (aA 0) aT pD items [v,ζ (.int q)] acc c=.ok (acc++cK c.length items.length) (c++(ι items.length).map λ_=>.lst ((ι m).map λ_=>.bl θ))
 |[],v,acc,c=>by simp[cK]
 |x::xs,v,acc,c=>by
  rw[iu];have h1:aA 0 x [v,ζ (.int q)] c=.ok [ζ x,ζ (.int q)] c:=rfl;rw[h1,R.az,nM,R.az,if_pos rfl,aaw hq hm,R.az,DY hq hm xs];have e1:acc++[D.ref c.length]++cK (c++[Cell.lst ((ι m).map λ_=>.bl θ)]).length xs.length=acc++cK c.length (x::xs).length:=by
   rw[agx,ago,af1,agd]
   congr 1
   unfold cK;rw[af1,ail,af8,agl];simp only[ahx,af9,aia]
   congr 1
   refine agH λr _=>?_
   simp only[Function.comp]
   congr 1;omega
  have e2:c++[Cell.lst ((ι m).map λ_=>D.bl θ)]++(ι xs.length).map (λ_=>Cell.lst ((ι m).map λ_=>D.bl θ))=c++(ι (x::xs).length).map (λ_=>Cell.lst ((ι m).map λ_=>D.bl θ)):=by
   rw[agx]
   congr 1
   rw[af1,ail,af8,agl];rfl
  rw[e1,e2]
theorem F3(c:aa) (n m:Nat) (f:Nat->Nat->Bool):∀l:List Nat,(∀i∈l,c[n+i]? = ζ (.lst (b9 m f i)))->mG c n (l.map λi=>.ref (n+i))=ζ (l.map λi=>.lst (b9 m f i))
 |[],_=>rfl
 |i::l,h=>by
  have ih:=F3 c n m f l λk hk=>h k (.tail _ hk)
  rw[af8,af8,mG,ih];have:fy c n (.ref (n+i))=ζ (.lst (b9 m f i)):=by
   unfold fy;rw[h i (.head _)];dsimp only;rw[if_pos (by omega)]
  rw[this]
theorem Ds(c:aa) (m:Nat) (f:Nat->Nat->Bool):ki c.length (.lst (cK c.length m)) (c++dj m f)=.ok (bw m f) c:=by
 unfold ki fy cK;rw[F3 _ _ m f (ι m) λi hi=>CH f c (age.mp hi)]
 simp[bw]
def bx(p:Nat×Nat):D:=.tup [.int p.1,.int p.2]
def EX(m:Nat) (ps:List (Nat×Nat)):Prop:=∀p∈ps,p.1<m/\p.2<m
def gI(ps:List (Nat×Nat)):Nat->Nat->Bool:=λi k=>ps.any λp=>(p.1==i&&p.2==k)||(p.2==i&&p.1==k)
theorem join_snoc(ps:List (Nat×Nat)) (p:Nat×Nat):gI (ps++[p])=fB (fB (gI ps) p.1 p.2 Γ) p.2 p.1 Γ:=by
 funext i k
 unfold gI fB;rw[List.any_append]
 by_cases h1:i=p.2/\k=p.1
 ·rw[if_pos h1];simp[h1.1,h1.2]
 ·rw[if_neg h1]
  by_cases h2:i=p.1/\k=p.2
  ·rw[if_pos h2];simp[h2.1,h2.2]
  ·rw[if_neg h2];have e1:(p.1==i&&p.2==k)=θ:=by
    cases q:(p.1==i&&p.2==k)with
    |false=>rfl
    |true=>simp at q;exact absurd ⟨q.1.symm,q.2.symm⟩ h2
   have e2:(p.2==i&&p.1==k)=θ:=by
    cases q:(p.2==i&&p.1==k)with
    |false=>rfl
    |true=>simp at q;exact absurd ⟨q.1.symm,q.2.symm⟩ h1
   simp[e1,e2]
def rZ:ah:=(aD (iB (dC (.bl Γ)) (iH (ay aK (ak 2) (ak 3)) (ak 4))) (iB (dC (.bl Γ)) (iH (ay aK (ak 2) (ak 4)) (ak 3))))
theorem YU{m a b:Nat}{f:Nat->Nat->Bool}{c:aa}(a0 a1:Option D) (ha:a<m) (hb:b<m) :
  rZ [a0,a1,ζ (.lst (cK c.length m)),ζ (.int a),ζ (.int b)] (c++dj m f)=.ok (.nx [a0,a1,ζ (.lst (cK c.length m)),ζ (.int a),ζ (.int b)]) (c++dj m (fB (fB f a b Γ) b a Γ)):=by
 have h1:∀c',aK (.lst (cK c.length m)) (.int a) c'=.ok (.ref (c.length+a)) c':=λc'=>by rw[jr,wR ha]
 have h2:∀c',aK (.lst (cK c.length m)) (.int b) c'=.ok (.ref (c.length+b)) c':=λc'=>by rw[jr,wR hb]
 have s1:=yb f Γ c ha hb;have s2:=yb (fB f a b Γ) Γ c hb ha;unfold rZ;simp only[gu,zX,fh,R.az,zV,cH,bE,gz,gs,h1,h2,s1,s2]
theorem YV{m:Nat}{ps:List (Nat×Nat)}{c:aa}(hp:EX m ps) (st:aa->Prop) (hst:∀R:aa,st (c++R)) (a0 a1:Option D) :
  ∃v w,cu st (e9 2 (cA (aA 3) (cA (aA 4) fq))) rZ (ps.map bx) [a0,a1,ζ (.lst (cK c.length m)),η,η] (c++dj m λ_ _=>θ)=.ok (.nx [a0,a1,ζ (.lst (cK c.length m)),v,w]) (c++dj m (gI ps)):=by
 obtain⟨v',hf⟩:=CL (α:=Option D×Option D) (st:=st) (g:=(e9 2 (cA (aA 3) (cA (aA 4) fq)))) (s:=rZ) (λi=>c++dj m (gI (ps.take i))) (λ_ v=>[a0,a1,ζ (.lst (cK c.length m)),v.1,v.2]) (ps.map bx) 0 (η,η) (λi _=>hst _) (λi x hx v=>by
  rw[agr];have hi:i<ps.length:=by have:=(af6.mp hx).1;simpa using this
  have ex:x=bx ps[i]:=by
   rw[agv,af2 hi]at hx;cases hx;rfl
  subst ex;have hq:=hp _ (agM hi);have hs:=YU (m:=m) (a:=ps[i].1) (b:=ps[i].2) (f:=gI (ps.take i)) (c:=c) a0 a1 hq.1 hq.2;rw[<-join_snoc,<-ajD hi]at hs;refine⟨[a0,a1,ζ (.lst (cK c.length m)),ζ (.int ps[i].1),ζ (.int ps[i].2)],?_,(ζ (.int ps[i].1),ζ (.int ps[i].2)),hs⟩;simp[bx])
 have e0:gI (ps.take 0)=λ_ _=>θ:=by funext i k;rfl
 rw[agr,af7,agZ,e0]at hf;exact⟨v'.1,v'.2,hf⟩
theorem YW{q:Int}{c c':aa}{l:List D}(a1:Option D) (b1:-4611686018427387904<=q/\q<4611686018427387904) (hl:(aM 0 q).length<ε) (hc:bJ (λ_=>True) (aA 0) aT pD (aM 0 q) [η,ζ (.int q)] [] c=.ok l c') :
  (aE 2 (bg (bH (ao (ak 0) aq)) [η,ζ 0] (aA 0) aT (ay jX (bT (ao (dC (.bl θ)) aq)) (ak 1)))) [ζ (.int q),a1,η,η,η] c=.ok (.nx [ζ (.int q),a1,ζ (.lst l),η,η]) c':=by
 unfold pD at hc;simp only[gr,dB,gv,bD,bE,gz,gs,bG,R.az];rw[if_pos (by omega)]
 simp only[R.az];rw[if_pos hl];have:cR [η,ζ 0] [ζ (D.int q),a1,η,η,η]=[η,ζ (.int q)]:=rfl;rw[this,hc];rfl
theorem YX{q:Int}{X:D}{c c1 c2:aa}{l:List D}{v w:Option D}{W:D}{s0 s1 s2:ah}(e0:s0 [ζ (.int q),ζ X,η,η,η] c=.ok (.nx [ζ (.int q),ζ X,ζ (.lst l),η,η]) c1)
  (e1:s1 [ζ (.int q),ζ X,ζ (.lst l),η,η] c1=.ok (.nx [ζ (.int q),ζ X,ζ (.lst l),v,w]) c2) (e2:s2 [ζ (.int q),ζ X,ζ (.lst l),v,w] c2=.ok (.rt (.lst l)) c2) (hx:ki c.length (.lst l) c2=.ok W c) :
  ly 5 (aD s0 (aD s1 s2)) [.int q,X] c=.ok W c:=by
 rw[zW];have e3:cg 5 [D.int q,X]=[ζ (.int q),ζ X,η,η,η]:=rfl;rw[e3,bh e0,bh e1,e2];exact hx
theorem Ja{m:Nat}{ps:List (Nat×Nat)}{X:D}{c:aa}(hp:EX m ps) (hm:m<1000) (hX:(∃k,X=.ref k/\c[k]? = ζ (.lst (ps.map bx)))\/X=.lst (ps.map bx)):jB [.int (m:Int),X] c=.ok (bw m (gI ps)) c:=by
 have hs:=cW (n:=1000) (by decide)
 have hrl:(aM 0 (m:Int)).length=m:=by rw[dG];omega
 have hc:=DY (q:=(m:Int)) (m:=m) rfl hm (aM 0 (m:Int)) η [] c;rw[hrl,af9]at hc;have hg:(ι m).map (λ_=>Cell.lst ((ι m).map λ_=>D.bl θ))=dj m λ_ _=>θ:=rfl
 rw[hg]at hc;have Cr:∃st:aa->Prop,(∀R:aa,st (c++R))/\∀(a0 a2:Option D) (R:aa),cV (ak 1) [a0,ζ X,a2,η,η] (c++R)=.ok ⟨ps.map bx,st⟩ (c++R):=by
  rcases hX with⟨k,rfl,hk⟩|rfl
  ·have ZM:k<c.length:=(af6.mp hk).1;have JA:∀R:aa,(c++R)[k]? = ζ (.lst (ps.map bx)):=λR=>by rw[agC ZM];exact hk
   refine⟨λc'=>c'[k]? = ζ (.lst (ps.map bx)),JA,λa0 a2 Rc=>?_⟩
   unfold cV;simp only[bE,gz,gs,R.az,JA]
  ·exact⟨λ_=>True,λ_=>trivial,λa0 a2 R=>rfl⟩
 obtain⟨st,hst,hd⟩:=Cr;obtain⟨v,w,hf⟩:=YV (m:=m) (c:=c) hp st hst (ζ (.int (m:Int))) (ζ X);have e1:(b8 (cV (ak 1)) (e9 2 (cA (aA 3) (cA (aA 4) fq))) rZ) [ζ (.int (m:Int)),ζ X,ζ (.lst (cK c.length m)),η,η] (c++dj m λ_ _=>θ)=.ok (.nx [ζ (.int (m:Int)),ζ X,ζ (.lst (cK c.length m)),v,w]) (c++dj m (gI ps)):=by
  rw[i8,hd];exact hf
 have hb:tK=aD (aE 2 (bg (bH (ao (ak 0) aq)) [η,ζ 0] (aA 0) aT (ay jX (bT (ao (dC (.bl θ)) aq)) (ak 1)))) (aD (b8 (cV (ak 1)) (e9 2 (cA (aA 3) (cA (aA 4) fq))) rZ) (aR (ak 2))):=rfl;rw[jB,hb];exact YX (YW (ζ X) (by omega) (by rw[hrl];omega) hc) e1 rfl (Ds c m _)
theorem F6{m i:Nat}(f:Nat->Nat->Bool) (h:i<m):cM ((ι m).map λi=>D.lst (b9 m f i)) (i:Int)=ζ (.lst (b9 m f i)):=pW (by simp[h])
theorem wJ{m k:Nat}(f:Nat->Nat->Bool) (i:Nat) (h:k<m):cM (b9 m f i) (k:Int)=ζ (.bl (f i k)):=pW (QH f i h)
theorem IB{os:List Nat}{i:Nat}(h:i<os.length):cM (nD os) (i:Int)=ζ (.int (os[i]:Nat)):=pW (by simp[nD,h])
theorem Cq{os:List Nat}{a:Nat}(h:os.idxOf a<os.length):os[os.idxOf a]=a:=by
 have:a∈os:=ajY.mp h;exact List.getElem_idxOf h
theorem Jq{os:List Nat}(hn:os.Nodup) {i:Nat}(h:i<os.length):os.idxOf os[i]=i:=by
 have h1:os.idxOf os[i]<os.length:=ajY.mpr (agM h);have h2:os[os.idxOf os[i]]=os[i]:=Cq h1;exact(ahB hn).mp h2
def fk(os:List Nat) (f:Nat->Nat->Bool) (i k:Nat):Nat->Nat->Bool:=λa b=>if os.idxOf a<i\/(os.idxOf a=i/\os.idxOf b<k)then(if os.idxOf b<os.length then f (os.idxOf a) (os.idxOf b)else θ)else θ
theorem W9{os:List Nat}(hn:os.Nodup) (f:Nat->Nat->Bool) {i k:Nat}(hi:i<os.length) (hk:k<os.length):fB (fk os f i k) os[i] os[k] (f i k)=fk os f i (k+1):=by
 funext a b
 unfold fB fk
 by_cases h:a=os[i]/\b=os[k]
 ·rw[if_pos h,h.1,h.2,Jq hn hi,Jq hn hk];rw[if_pos (by omega),if_pos hk]
 ·rw[if_neg h]
  by_cases ha:os.idxOf a=i
  ·by_cases hb:os.idxOf b=k
   ·have ea:os[i]=a:=by
     have:=Cq (os:=os) (a:=a) (by omega)
     simpa[ha]using this
    have eb:os[k]=b:=by
     have:=Cq (os:=os) (a:=b) (by omega)
     simpa[hb]using this
    exact absurd ⟨ea.symm,eb.symm⟩ h
   ·have e:(os.idxOf a<i\/(os.idxOf a=i/\os.idxOf b<k))↔(os.idxOf a<i\/(os.idxOf a=i/\os.idxOf b<k+1)):=by omega
    simp only[e]
  ·have e:(os.idxOf a<i\/(os.idxOf a=i/\os.idxOf b<k))↔(os.idxOf a<i\/(os.idxOf a=i/\os.idxOf b<k+1)):=by omega
   simp only[e]
theorem Xa{os:List Nat}(f:Nat->Nat->Bool) (i:Nat):∀a b,fk os f i os.length a b=fk os f (i+1) 0 a b:=λa b=>by
 unfold fk
 by_cases hb:os.idxOf b<os.length
 ·have e:(os.idxOf a<i\/(os.idxOf a=i/\os.idxOf b<os.length))↔(os.idxOf a<i+1\/(os.idxOf a=i+1/\os.idxOf b<0)):=by omega
  simp only[e]
 ·simp only[if_neg hb,ite_self]
def uT:ah:=(iB (ay aK (ay aK (ak 0) (ak 4)) (ak 5)) (iH (ay aK (ak 3) (ay aK (ak 1) (ak 4))) (ay aK (ak 1) (ak 5))))
theorem Xi{os:List Nat}(hn:os.Nodup) {m i k:Nat}(hm:os.length=m) (f:Nat->Nat->Bool) {c:aa}(hlt:∀x∈os,x<m) (hi:i<m) (hk:k<m) (a2:Option D) :
  uT [ζ (bw m f),ζ (.tup (nD os)),a2,ζ (.lst (cK c.length m)),ζ (.int i),ζ (.int k)] (c++dj m (fk os f i k))=.ok (.nx [ζ (bw m f),ζ (.tup (nD os)),a2,ζ (.lst (cK c.length m)),ζ (.int i),ζ (.int k)]) (c++dj m (fk os f i (k+1))):=by
 have Jx:os[i]<m:=hlt _ (agM (by omega))
 have hok:os[k]<m:=hlt _ (agM (by omega))
 have h1:∀c',aK (bw m f) (.int (i:Int)) c'=.ok (.lst (b9 m f i)) c':=λc'=>by unfold bw;rw[jr,F6 f hi]
 have h2:∀c',aK (.lst (b9 m f i)) (.int (k:Int)) c'=.ok (.bl (f i k)) c':=λc'=>by rw[jr,wJ f i hk]
 have h3:∀c',aK (.tup (nD os)) (.int (i:Int)) c'=.ok (.int (os[i]:Nat)) c':=λc'=>by rw[zU,IB (by omega)]
 have h4:∀c',aK (.tup (nD os)) (.int (k:Int)) c'=.ok (.int (os[k]:Nat)) c':=λc'=>by rw[zU,IB (by omega)]
 have h5:∀c',aK (.lst (cK c.length m)) (.int (os[i]:Nat)) c'=.ok (.ref (c.length+os[i])) c':=λc'=>by rw[jr,wR Jx]
 have s1:=yb (fk os f i k) (f i k) c Jx hok;rw[W9 hn f (by omega) (by omega)]at s1
 unfold uT;simp only[zX,R.az,zV,cH,bE,gz,gs,h1,h2,h3,h4,h5,s1]
def oM:ah:=b8 (bH (ao (ak 2) aq)) (aA 5) uT
theorem Xh{q:Int}{T O:D}{c c':aa}{l:List D}{a4 v v':Option D}(b:-4611686018427387904<=q/\q<4611686018427387904) (h:cu (λ_=>True) (aA 5) uT (aM 0 q) [ζ T,ζ O,ζ (.int q),ζ (.lst l),a4,v] c=.ok (.nx [ζ T,ζ O,ζ (.int q),ζ (.lst l),a4,v']) c') :
  oM [ζ T,ζ O,ζ (.int q),ζ (.lst l),a4,v] c=.ok (.nx [ζ T,ζ O,ζ (.int q),ζ (.lst l),a4,v']) c':=by
 unfold oM;simp only[i8,gv,bD,bE,gz,gs,bG,R.az];rw[if_pos (by omega)]
 exact h
theorem Xg{os:List Nat}(hn:os.Nodup) {m i:Nat}(hm:os.length=m) (hm':m<1000) (f:Nat->Nat->Bool) {c:aa}(hlt:∀x∈os,x<m) (hi:i<m) (v:Option D) :
  ∃v',oM [ζ (bw m f),ζ (.tup (nD os)),ζ (.int (m:Int)),ζ (.lst (cK c.length m)),ζ (.int i),v] (c++dj m (fk os f i 0))=.ok (.nx [ζ (bw m f),ζ (.tup (nD os)),ζ (.int (m:Int)),ζ (.lst (cK c.length m)),ζ (.int i),v']) (c++dj m (fk os f (i+1) 0)):=by
 obtain⟨v',hf⟩:=J6 (g:=aA 5) (s:=uT) (λk=>c++dj m (fk os f i k)) (λ_ v=>[ζ (bw m f),ζ (.tup (nD os)),ζ (.int (m:Int)),ζ (.lst (cK c.length m)),ζ (.int i),v]) (N:=(m:Int)) (n:=m) rfl v (λk hk v=>by
  exact⟨_,rfl,ζ (.int k),Xi hn hm f hlt hi hk (ζ (.int (m:Int)))⟩)
 have e:fk os f i m=fk os f (i+1) 0:=by
  funext a b
  rw[<-hm];exact Xa f i a b
 rw[e]at hf;exact⟨v',Xh (by omega) hf⟩
theorem len_tab(m:Nat) (f:Nat->Nat->Bool) (c:aa):bF [bw m f] c=.ok (.int (m:Int)) c:=by
 unfold bF bw;simp[fO]
theorem Xf{q:Int}{T O W:D}{c c1 c2:aa}{l:List D}{v w:Option D}{s0 s1 s2 s3:ah}(e0:s0 [ζ T,ζ O,η,η,η,η] c=.ok (.nx [ζ T,ζ O,ζ (.int q),η,η,η]) c) (e1:s1 [ζ T,ζ O,ζ (.int q),η,η,η] c=.ok (.nx [ζ T,ζ O,ζ (.int q),ζ (.lst l),η,η]) c1)
  (e2:s2 [ζ T,ζ O,ζ (.int q),ζ (.lst l),η,η] c1=.ok (.nx [ζ T,ζ O,ζ (.int q),ζ (.lst l),v,w]) c2) (e3:s3 [ζ T,ζ O,ζ (.int q),ζ (.lst l),v,w] c2=.ok (.rt (.lst l)) c2) (hx:ki c.length (.lst l) c2=.ok W c) :
  ly 6 (aD s0 (aD s1 (aD s2 s3))) [T,O] c=.ok W c:=by
 rw[zW];have es:cg 6 [T,O]=[ζ T,ζ O,η,η,η,η]:=rfl;rw[es,bh e0,bh e1,bh e2,e3];exact hx
theorem Xb{q:Int}{T O:D}{c c':aa}{l:List D}(b1:-4611686018427387904<=q/\q<4611686018427387904) (hl:(aM 0 q).length<ε) (hc:bJ (λ_=>True) (aA 0) aT pD (aM 0 q) [η,ζ (.int q)] [] c=.ok l c') :
  (aE 3 (bg (bH (ao (ak 2) aq)) [η,ζ 2] (aA 0) aT (ay jX (bT (ao (dC (.bl θ)) aq)) (ak 1)))) [ζ T,ζ O,ζ (.int q),η,η,η] c=.ok (.nx [ζ T,ζ O,ζ (.int q),ζ (.lst l),η,η]) c':=by
 unfold pD at hc;simp only[gr,dB,gv,bD,bE,gz,gs,bG,R.az];rw[if_pos (by omega)]
 simp only[R.az];rw[if_pos hl];have:cR [η,ζ 2] [ζ T,ζ O,ζ (D.int q),η,η,η]=[η,ζ (.int q)]:=rfl;rw[this,hc];rfl
theorem Xe{q:Int}{T O:D}{c c':aa}{l:List D}{u v:Option D}(b:-4611686018427387904<=q/\q<4611686018427387904) (h:cu (λ_=>True) (aA 4) oM (aM 0 q) [ζ T,ζ O,ζ (.int q),ζ (.lst l),η,η] c=.ok (.nx [ζ T,ζ O,ζ (.int q),ζ (.lst l),u,v]) c') :
  (b8 (bH (ao (ak 2) aq)) (aA 4) oM) [ζ T,ζ O,ζ (.int q),ζ (.lst l),η,η] c=.ok (.nx [ζ T,ζ O,ζ (.int q),ζ (.lst l),u,v]) c':=by
 simp only[i8,gv,bD,bE,gz,gs,bG,R.az];rw[if_pos (by omega)]
 exact h
theorem Xq{os:List Nat}{m:Nat}(hp:os.Perm (ι m)) (hm:m<1000) (f:Nat->Nat->Bool) (c:aa):oU [bw m f,.tup (nD os)] c=.ok (bw m (fk os f m 0)) c:=by
 have hs:=cW (n:=1000) (by decide)
 have hn:os.Nodup:=hp.nodup_iff.mpr List.nodup_range;have hl:os.length=m:=by have:=hp.length_eq;simpa using this
 have hlt:∀x∈os,x<m:=λx hx=>age.mp (hp.mem_iff.mp hx)
 have hrl:(aM 0 (m:Int)).length=m:=by rw[dG];omega
 have hc:=DY (q:=(m:Int)) (m:=m) rfl hm (aM 0 (m:Int)) η [] c;rw[hrl,af9]at hc;have hg:(ι m).map (λ_=>Cell.lst ((ι m).map λ_=>D.bl θ))=dj m (fk os f 0 0):=by
  unfold dj b9;refine agH λi _=>?_
  congr 1
  refine agH λk _=>?_
  simp[fk]
 rw[hg]at hc;obtain⟨v',hf⟩:=J6 (α:=Option D×Option D) (g:=aA 4) (s:=oM) (λi=>c++dj m (fk os f i 0)) (λ_ v=>[ζ (bw m f),ζ (.tup (nD os)),ζ (.int (m:Int)),ζ (.lst (cK c.length m)),v.1,v.2]) (N:=(m:Int)) (n:=m) rfl (η,η) (λi hi v=>by
  obtain⟨w,hw⟩:=Xg hn hl hm f hlt hi v.2 (c:=c);exact⟨_,rfl,(ζ (.int i),w),hw⟩)
 have e0:(aE 2 (aF bF (ao (ak 0) aq))) [ζ (bw m f),ζ (.tup (nD os)),η,η,η,η] c=.ok (.nx [ζ (bw m f),ζ (.tup (nD os)),ζ (.int (m:Int)),η,η,η]) c:=by
  have:=len_tab m f c
  generalize bw m f=T at *
  generalize (m:Int)=q at *
  simp[this]
 have hb:tG=aD (aE 2 (aF bF (ao (ak 0) aq))) (aD (aE 3 (bg (bH (ao (ak 2) aq)) [η,ζ 2] (aA 0) aT (ay jX (bT (ao (dC (.bl θ)) aq)) (ak 1)))) (aD (b8 (bH (ao (ak 2) aq)) (aA 4) oM) (aR (ak 3)))):=rfl;rw[oU,hb];exact Xf e0 (Xb (by omega) (by rw[hrl];omega) hc) (Xe (by omega) hf) rfl (Ds c m _)
def zb:af:=(aF oZ (ao (ak 0) aq))
theorem KD(m:Nat) (f:Nat->Nat->Bool):∀(l:List Nat) (v:Option D) (acc:List D) (c:aa),bJ (λ_=>True) (aA 0) aT zb (l.map λi=>.lst (b9 m f i)) [v] acc c=.ok (acc++cK c.length l.length) (c++l.map λi=>.lst (b9 m f i))
 |[],v,acc,c=>by simp[cK]
 |i::l,v,acc,c=>by
  rw[af8,iu];have h1:aA 0 (.lst (b9 m f i)) [v] c=.ok [ζ (.lst (b9 m f i))] c:=rfl;have h2:zb [ζ (.lst (b9 m f i))] c=.ok (.ref c.length) (c++[.lst (b9 m f i)]):=by
   unfold zb;simp only[gZ,bD,bE,gz,bG,R.az];unfold oZ;dsimp only[fO];rw[if_pos (AB m f i)]
  rw[h1,R.az,nM,R.az,if_pos rfl,h2,R.az,KD m f l];have e1:acc++[D.ref c.length]++cK (c++[Cell.lst (b9 m f i)]).length l.length=acc++cK c.length (i::l).length:=by
   rw[agx,ago,af1,agd]
   congr 1
   unfold cK;rw[af1,ail,af8,agl];simp only[ahx,af9,aia]
   congr 1
   refine agH λr _=>?_
   simp only[Function.comp]
   congr 1;omega
  rw[e1,agx];rfl
def ue(f:Nat->Nat->Bool) (a b:Nat):Nat->Nat->Bool:=fB (fB f a b (!f a b)) b a (!fB f a b (!f a b) b a)
theorem aas{m a b:Nat}(f:Nat->Nat->Bool) (c:aa) (ha:a<m) (hb:b<m):aK (.ref (c.length+a)) (.int (b:Int)) (c++dj m f)=.ok (.bl (f a b)) (c++dj m f):=by
 unfold aK fO;dsimp only;rw[CH f c ha];dsimp only;rw[wJ f a hb]
theorem F5{m a b:Nat}(f:Nat->Nat->Bool) {c:aa}{i j:Nat}{a0:Option D}{e:Ev}(he:e[3]? = ζ (ζ (.lst (cK c.length m)))) (hi:e[i]? = ζ (ζ (.int (a:Int)))) (hj:e[j]? = ζ (ζ (.int (b:Int)))) (ha:a<m) (hb:b<m) :
  iB (jO (ay aK (ay aK (ak 3) (ak i)) (ak j))) (iH (ay aK (ak 3) (ak i)) (ak j)) e (c++dj m f)=.ok (.nx e) (c++dj m (fB f a b (!f a b))):=by
 have h1:∀c',aK (.lst (cK c.length m)) (.int (a:Int)) c'=.ok (.ref (c.length+a)) c':=λc'=>by rw[jr,wR ha]
 have h2:=aas f c ha hb;have s1:=yb f (!f a b) c ha hb;simp only[zX,MN,cH,bE,he,hi,hj,R.az,h1,h2,zV,s1]
theorem Oa{m a b:Nat}(ha:a<m) (hb:b<m) (hm:m<1000) (f:Nat->Nat->Bool) (c:aa):kc [bw m f,.int (a:Int),.int (b:Int)] c=.ok (bw m (ue f a b)) c:=by
 have hs:=cW (n:=1000) (by decide)
 have hc:=KD m f (ι m) η [] c;rw[ahR,af9]at hc;have hb':sX=aD (aE 3 (bg (cV (ak 0)) [η] (aA 0) aT (aF oZ (ao (ak 0) aq)))) (aD (iB (jO (ay aK (ay aK (ak 3) (ak 1)) (ak 2))) (iH (ay aK (ak 3) (ak 1)) (ak 2))) (aD (iB (jO (ay aK (ay aK (ak 3) (ak 2)) (ak 1))) (iH (ay aK (ak 3) (ak 2)) (ak 1))) (aR (ak 3)))):=rfl;have e0:(aE 3 (bg (cV (ak 0)) [η] (aA 0) aT (aF oZ (ao (ak 0) aq)))) [ζ (bw m f),ζ (.int (a:Int)),ζ (.int (b:Int)),η] c=.ok (.nx [ζ (bw m f),ζ (.int (a:Int)),ζ (.int (b:Int)),ζ (.lst (cK c.length m))]) (c++dj m f):=by
  unfold zb at hc;rw[gr,dB];unfold cV bw;simp only[bE,gz,R.az];rw[if_pos (by rw[af7,ahR];omega)]
  have:∀T A B:Option D,cR [η] [T,A,B,η]=[η]:=λ_ _ _=>rfl
  rw[this,hc];rfl
 have e1:=F5 f (c:=c) (m:=m) (i:=1) (j:=2) (a0:=η) (e:=[ζ (bw m f),ζ (.int (a:Int)),ζ (.int (b:Int)),ζ (.lst (cK c.length m))]) rfl rfl rfl ha hb;have e2:=F5 (fB f a b (!f a b)) (c:=c) (m:=m) (i:=2) (j:=1) (a0:=η) (e:=[ζ (bw m f),ζ (.int (a:Int)),ζ (.int (b:Int)),ζ (.lst (cK c.length m))]) rfl rfl rfl hb ha;rw[kc,hb',zW];have es:cg 4 [bw m f,.int (a:Int),.int (b:Int)]=[ζ (bw m f),ζ (.int (a:Int)),ζ (.int (b:Int)),η]:=rfl;rw[es,bh e0,bh e1,bh e2];exact Ds c m (ue f a b)
def jS(f:Nat->Nat->Bool):Nat->Nat->Bool:=λi k=>!decide (i=k) && !f i k
def tP:af:=(fH (ay eX (ak 1) (ak 0)) (jO (ay aK (ay aK (ak 2) (ak 1)) (ak 0))))
def pZ:af:=bg (bH (ao (ak 1) aq)) [η,ζ 0,ζ 2] (aA 0) aT tP
theorem yi(l:List D):l.filter (λ_=>Γ)=l:=by simp
theorem wM{β:Type}(m:Nat) (F:D->β):(aM 0 (m:Int)).map F=(ι m).map λi:Nat=>F (.int (i:Int)):=by
 unfold aM;rw[agl,show((m:Int)-0).toNat=m by omega]
 refine agH λi _=>?_
 simp
theorem adX{m i:Nat}(f:Nat->Nat->Bool) (hi:i<m) (c:aa):bJ (λ_=>True) (aA 0) aT tP (aM 0 (m:Int)) [η,ζ (.int (i:Int)),ζ (bw m f)] [] c=.ok (b9 m (jS f) i) c:=by
 have h1:∀c',aK (bw m f) (.int (i:Int)) c'=.ok (.lst (b9 m f i)) c':=λc'=>by unfold bw;rw[jr,F6 f hi]
 have:=pJ (c:=c) (g:=aA 0) (t:=aT) (a:=tP) (λe=>∃v,e=[v,ζ (.int (i:Int)),ζ (bw m f)]) (λ_=>Γ) (λd=>match d with|.int k=>.bl (jS f i k.toNat)|d=>d) (aM 0 (m:Int)) [η,ζ (.int (i:Int)),ζ (bw m f)] [] ⟨_,rfl⟩ (λd hd e ⟨v,he⟩=>by
  subst he;obtain⟨k',rfl,k0,k1⟩:=oN hd;obtain⟨k,rfl⟩:=ig k0;have h2:∀c',aK (.lst (b9 m f i)) (.int (k:Int)) c'=.ok (.bl (f i k)) c':=λc'=>by rw[jr,wJ f i (by omega)]
  refine⟨_,rfl,⟨_,rfl⟩,rfl,λ_=>?_⟩
  show tP [ζ (.int (k:Int)),ζ (.int (i:Int)),ζ (bw m f)] c=_
  generalize bw m f=T at *
  unfold tP
  by_cases e:i=k
  ·subst e;simp[jS]
  ·have e':¬(i:Int)=k:=by omega
   simp[e',jS,e,h1,h2])
 rw[this,af9,yi,wM]
 congr 1
theorem adZ{q i:Int}{T a0:Option D}{c:aa}{l:List D}(b:-4611686018427387904<=q/\q<4611686018427387904) (hl:(aM 0 q).length<ε) (h:bJ (λ_=>True) (aA 0) aT tP (aM 0 q) [η,ζ (.int i),T] [] c=.ok l c):pZ [ζ (.int i),ζ (.int q),T] c=.ok (.lst l) c:=by
 unfold pZ;simp only[dB,gv,bD,bE,gz,gs,bG,R.az];rw[if_pos (by omega)]
 simp only[R.az];rw[if_pos hl];have:cR [η,ζ 0,ζ 2] [ζ (D.int i),ζ (.int q),T]=[η,ζ (.int i),T]:=by cases T<;>rfl
 rw[this,h];rfl
theorem adW{m:Nat}(f:Nat->Nat->Bool) (hm:m<1000) (c:aa):bJ (λ_=>True) (aA 0) aT pZ (aM 0 (m:Int)) [η,ζ (.int (m:Int)),ζ (bw m f)] [] c=.ok ((ι m).map λi=>.lst (b9 m (jS f) i)) c:=by
 have hs:=cW (n:=1000) (by decide)
 have:=pJ (c:=c) (g:=aA 0) (t:=aT) (a:=pZ) (λe=>∃v,e=[v,ζ (.int (m:Int)),ζ (bw m f)]) (λ_=>Γ) (λd=>match d with|.int k=>.lst (b9 m (jS f) k.toNat)|d=>d) (aM 0 (m:Int)) [η,ζ (.int (m:Int)),ζ (bw m f)] [] ⟨_,rfl⟩ (λd hd e ⟨v,he⟩=>by
  subst he;obtain⟨k',rfl,k0,k1⟩:=oN hd;obtain⟨k,rfl⟩:=ig k0;refine⟨_,rfl,⟨_,rfl⟩,rfl,λ_=>?_⟩
  exact adZ (a0:=η) (by omega) (by rw[dG];omega) (adX f (by omega) c))
 rw[this,af9,yi,wM]
 congr 1
theorem adY{q:Int}{T:D}{c:aa}{l:List D}(b:-4611686018427387904<=q/\q<4611686018427387904) (hl:(aM 0 q).length<ε) (hn:bF [T] c=.ok (.int q) c) (h:bJ (λ_=>True) (aA 0) aT pZ (aM 0 q) [η,ζ (.int q),ζ T] [] c=.ok l c) (nr:bL l=Γ):k6 [T] c=.ok (.lst l) c:=by
 have hb:tM=aD (aE 1 (aF bF (ao (ak 0) aq))) (aR (bg (bH (ao (ak 1) aq)) [η,ζ 1,ζ 0] (aA 0) aT pZ)):=rfl;have e1:(aR (bg (bH (ao (ak 1) aq)) [η,ζ 1,ζ 0] (aA 0) aT pZ)) [ζ T,ζ (.int q)] c=.ok (.rt (.lst l)) c:=by
  simp only[kH,dB,gv,bD,bE,gz,gs,bG,R.az];rw[if_pos (by omega)]
  simp only[R.az];rw[if_pos hl];have:cR [η,ζ 1,ζ 0] [ζ T,ζ (D.int q)]=[η,ζ (.int q),ζ T]:=rfl;rw[this,h];rfl
 have e0:(aE 1 (aF bF (ao (ak 0) aq))) [ζ T,η] c=.ok (.nx [ζ T,ζ (.int q)]) c:=by simp[hn]
 rw[k6,jt,hb];have es:cg 2 [T]=[ζ T,η]:=rfl;rw[es,bh e0,e1];have j7:noRef (.lst l)=Γ:=nr;simp only[R.az];unfold cY;dsimp only;rw[if_pos j7,agZ]
theorem adU{m:Nat}(f:Nat->Nat->Bool) (hm:m<1000) (c:aa):k6 [bw m f] c=.ok (bw m (jS f)) c:=by
 have hs:=cW (n:=1000) (by decide)
 refine adY (by omega) (by rw[dG];omega) (len_tab m f c) (adW f hm c) (eu.mpr λd hd=>?_)
 obtain⟨i,_,rfl⟩:=af4.mp hd;exact AB m _ i
def kX(m:Nat) (f:Nat->Nat->Bool) (i:Nat):List Nat:=(ι m).filter λk=>f i k
def nZ(m:Nat) (f:Nat->Nat->Bool):D:=.tup ((ι m).map λi=>.tup (nD (kX m f i)))
def rB:ai:=(aO (ay aK (ak 1) (ak 0)))
theorem QS{m i:Nat}(f:Nat->Nat->Bool) (c:aa):bJ (λ_=>True) (aA 0) rB (ak 0) (aM 0 (m:Int)) [η,ζ (.lst (b9 m f i))] [] c=.ok (nD (kX m f i)) c:=by
 have:=pJ (c:=c) (g:=aA 0) (t:=rB) (a:=ak 0) (λe=>∃v,e=[v,ζ (.lst (b9 m f i))]) (λd=>match d with|.int k=>f i k.toNat|_=>θ) id (aM 0 (m:Int)) [η,ζ (.lst (b9 m f i))] [] ⟨_,rfl⟩ (λd hd e ⟨v,he⟩=>by
  subst he;obtain⟨k',rfl,k0,k1⟩:=oN hd;obtain⟨k,rfl⟩:=ig k0;have h2:aK (.lst (b9 m f i)) (.int (k:Int)) c=.ok (.bl (f i k)) c:=by rw[jr,wJ f i (by omega)]
  refine⟨_,rfl,⟨_,rfl⟩,?_,λ_=>rfl⟩
  show rB [ζ (.int (k:Int)),ζ (.lst (b9 m f i))] c=_;unfold rB;simp only[ek,cH,bE,gz,gs,R.az,h2,ahL])
 rw[this,af9,ag7]
 congr 1
 unfold aM kX nD;rw[List.filter_map,show((m:Int)-0).toNat=m by omega]
 have e:((λd:D=>match d with|.int k=>f i k.toNat|_=>θ) ∘ λk:Nat=>D.int (0+(k:Int)))=λk=>f i k:=by
  funext k
  simp
 rw[e];refine agH λk _=>?_
 simp
def n8:af:=(aF fV (ao (bg (bH (ao (aF bF (ao (ak 1) aq)) aq)) [η,ζ 0] (aA 0) (aO (ay aK (ak 1) (ak 0))) (ak 0)) aq))
theorem QO{q:Int}{T:D}{r l:List D}{c:aa}(hn:bF [T] c=.ok (.int q) c) (b:-4611686018427387904<=q/\q<4611686018427387904) (hl:(aM 0 q).length<ε) (h:bJ (λ_=>True) (aA 0) rB (ak 0) (aM 0 q) [η,ζ (.lst r)] [] c=.ok l c) :
  n8 [ζ (.lst r),ζ T] c=.ok (.tup l) c:=by
 unfold rB at h;unfold n8;simp only[gZ,bD,dB,gv,bE,gz,gs,bG,R.az,hn];rw[if_pos (by omega)]
 simp only[R.az];rw[if_pos hl];have:cR [η,ζ 0] [ζ (D.lst r),ζ T]=[η,ζ (.lst r)]:=rfl;rw[this,h];rfl
theorem QN{m:Nat}(f:Nat->Nat->Bool) (hm:m<1000) (c:aa):bJ (λ_=>True) (aA 0) aT n8 ((ι m).map λi=>.lst (b9 m f i)) [η,ζ (bw m f)] [] c=.ok ((ι m).map λi=>.tup (nD (kX m f i))) c:=by
 have hs:=cW (n:=1000) (by decide)
 have hlen:=len_tab m f c;have key:∀(l:List Nat) (v:Option D) (acc:List D),bJ (λ_=>True) (aA 0) aT n8 (l.map λi=>.lst (b9 m f i)) [v,ζ (bw m f)] acc c=.ok (acc++l.map λi=>.tup (nD (kX m f i))) c:=by
  intro l
  induction l with
  |nil=>intro v acc;simp
  |cons i l ih =>
   intro v acc;have h1:aA 0 (.lst (b9 m f i)) [v,ζ (bw m f)] c=.ok [ζ (.lst (b9 m f i)),ζ (bw m f)] c:=rfl;have h2:n8 [ζ (.lst (b9 m f i)),ζ (bw m f)] c=.ok (.tup (nD (kX m f i))) c:=QO hlen (by omega) (by rw[dG];omega) (QS f c)
   rw[af8,iu,h1,R.az,nM,R.az,if_pos rfl,h2,R.az,ih,agx];rfl
 have:=key (ι m) η []
 rwa[af9]at this
theorem Qy{m:Nat}(f:Nat->Nat->Bool) (hm:m<1000) (c:aa):rT [bw m f] c=.ok (nZ m f) c:=by
 have hs:=cW (n:=1000) (by decide)
 have h:=QN f hm c;have hb:sZ=aR (aF fV (ao (bg (cV (ak 0)) [η,ζ 0] (aA 0) aT n8) aq)):=rfl;rw[rT,jt,hb];have es:cg 1 [bw m f]=[ζ (bw m f)]:=rfl;have nr:noRef (nZ m f)=Γ:=by
  unfold nZ noRef;refine eu.mpr λd hd=>?_
  obtain⟨i,_,rfl⟩:=af4.mp hd;unfold noRef;exact uR _
 have e1:(aR (aF fV (ao (bg (cV (ak 0)) [η,ζ 0] (aA 0) aT n8) aq))) [ζ (bw m f)] c=.ok (.rt (nZ m f)) c:=by
  have hd:cV (ak 0) [ζ (bw m f)] c=.ok ⟨(ι m).map λi=>.lst (b9 m f i),λ_=>True⟩ c:=rfl
  have hp:cR [η,ζ 0] [ζ (bw m f)]=[η,ζ (bw m f)]:=rfl;simp only[kH,gZ,bD,dB,hd,bG,R.az];rw[if_pos (by rw[af7,ahR];omega),hp,h]
  rfl
 rw[es,e1];simp only[R.az];unfold nZ at nr ⊢;unfold cY;dsimp only;rw[if_pos nr,agZ]
def PW(j n:Nat) (ps:List (Nat×Nat)) (c:aa):Prop:=c.length=n+1/\j<n/\(∃p:Int,c[j]? = ζ (.lst [.int p]))/\c[n]? = ζ (.lst (ps.map bx))
theorem PW.turn{j n:Nat}{ps:List (Nat×Nat)}{c:aa}(h:PW j n ps c) (p:Int):PW j n ps (c.set j (.lst [.int p])):=by
 obtain⟨h1,h2,_,h4⟩:=h;exact⟨by simp[h1],h2,⟨p,by rw[agI (by omega)]⟩,by rw[agU (by omega)];exact h4⟩
theorem PW.plus{j n:Nat}{ps qs:List (Nat×Nat)}{c:aa}(h:PW j n ps c):PW j n (ps++qs) (c.set n (.lst (ps.map bx++qs.map bx))):=by
 obtain⟨h1,h2,⟨q,h3⟩,h4⟩:=h;exact⟨by simp[h1],h2,⟨q,by rw[agU (by omega)];exact h3⟩,by rw[agI (by omega),aid]⟩
def cQ(m:Nat) (ps:List (Nat×Nat)):Prop:=∀p∈ps,p.1<m/\p.2<m/\p.1≠p.2
def uA:ai:=(aO (ay fE (aC 2 aN (ao (ak 3) (ao (dC (.int 6)) aq))) (ak 2)))
def uB:af:=(aU (ao (ak 1) (ao (ak 0) aq)))
theorem Az{j n m a:Nat}{ps:List (Nat×Nat)}{eB:Int}(ha:a<m):∀(ks:List Nat) (v:Option D) (acc:List D) (c:aa),(∀k∈ks,a<k/\k<m)->PW j n ps c ->
  ∃(qs:List (Nat×Nat)) (c':aa),PW j n ps c'/\cQ m qs/\qs.length<=ks.length/\bJ (λ_=>True) (aA 0) uA uB (ks.map λk:Nat=>.int (k:Int)) [v,ζ (.int (a:Int)),ζ (.int eB),ζ (.ref j)] acc c=.ok (acc++qs.map bx) c'
 |[],v,acc,c,_,hP=>⟨[],c,hP,λp hp=>(by cases hp),afU _,by simp⟩
 |k::ks,v,acc,c,hk,hP=>by
  obtain⟨p,hp⟩:=hP.2.2.1;have ht:=take2 (bR:=6) hp (by decide) (by decide)
  have pB:=hP.turn (p/6)
  generalize c.set j (.lst [.int (p/6)])=c1 at ht pB
  have hkk:=hk k (.head _);have h2:(2:Nat)<=ε:=cW (by decide)
  have hT:uA [ζ (.int (k:Int)),ζ (.int (a:Int)),ζ (.int eB),ζ (.ref j)] c=.ok (decide (p % 6<eB)) c1:=by
   unfold uA;simp only[ek,cH,x_call,bD,bE,gz,gs,fh,bG,R.az,af1,agd,if_pos,ht];simp
  have hE:uB [ζ (.int (k:Int)),ζ (.int (a:Int)),ζ (.int eB),ζ (.ref j)] c1=.ok (bx (a,k)) c1:=by
   unfold uB;simp only[mD,bD,bE,gz,gs,bG,R.az,af1,agd];rw[if_pos h2];rfl
  have h1:aA 0 (.int (k:Int)) [v,ζ (.int (a:Int)),ζ (.int eB),ζ (.ref j)] c=.ok [ζ (.int (k:Int)),ζ (.int (a:Int)),ζ (.int eB),ζ (.ref j)] c:=rfl
  by_cases hq:p % 6<eB
  ·obtain⟨qs,c',P',n',l',h'⟩:=Az (eB:=eB) ha ks (ζ (.int (k:Int))) (acc++[bx (a,k)]) c1 (λz hz=>hk z (.tail _ hz)) pB
   refine⟨(a,k)::qs,c',P',λq hq=>?_,by simp only[af1];omega,?_⟩
   ·rcases afW.mp hq with rfl|hq
    ·exact⟨ha,hkk.2,afX hkk.1⟩
    ·exact n' q hq
   ·rw[af8,iu,h1,R.az,hT,R.az,if_pos (decide_eq_true hq),hE,R.az,h',agx];rfl
  ·obtain⟨qs,c',P',n',l',h'⟩:=Az (eB:=eB) ha ks (ζ (.int (k:Int))) acc c1 (λz hz=>hk z (.tail _ hz)) pB
   refine⟨qs,c',P',n',by simp only[af1];omega,?_⟩
   rw[af8,iu,h1,R.az,hT,R.az,if_neg (by simpa using hq),h']
theorem wK(a m:Nat):aM ((a:Int)+1) (m:Int)=(List.range' (a+1) (m-(a+1))).map λk:Nat=>.int (k:Int):=by
 unfold aM;rw[show((m:Int)-((a:Int)+1)).toNat=m-(a+1) by omega,ajZ,agl]
 refine agH λk _=>?_
 show D.int _=D.int _
 congr 1
theorem Wb(ps:List (Nat×Nat)):bL (ps.map bx)=Γ:=eu.mpr λd hd=>by
 obtain⟨p,_,rfl⟩:=af4.mp hd;rfl
theorem yS{j n:Nat}{ps qs:List (Nat×Nat)}{c c1:aa}{e:Ev}{dc:af}(h4:e[4]? = ζ (ζ (.ref n))) (hc:dc e c=.ok (.lst (qs.map bx)) c1) (hP:PW j n ps c1) (hl:ps.length+qs.length<=100000) :
  dQ (ee (ak 4) dc) e c=.ok (.nx e) (c1.set n (.lst (ps.map bx++qs.map bx))):=by
 have hs:100000<=ε:=by decide
 have:ee (ak 4) dc e c=.ok .aI (c1.set n (.lst (ps.map bx++qs.map bx))):=by
  unfold ee;simp only[bE,h4,R.az,hc];rw[hP.2.2.2];dsimp only;rw[if_pos ⟨by simp only[af7];omega,Wb qs⟩]
 rw[vY,this];rfl
def qy:ah:=(dQ (ee (ak 4) (bg (gi (ao (ay bf (ak 5) (dC (.int 1))) (ao (ak 2) aq))) [η,ζ 5,ζ 3,ζ 0] (aA 0) (aO (ay fE (aC 2 aN (ao (ak 3) (ao (dC (.int 6)) aq))) (ak 2))) (aU (ao (ak 1) (ao (ak 0) aq))))))
theorem Qd{q a:Int}{v0 v1 v3 v4:Option D}{c:aa}{l:List D}{c':aa}(ba:-4611686018427387904<=a+1/\a+1<4611686018427387904) (bq:-4611686018427387904<=q/\q<4611686018427387904) (hl:(aM (a+1) q).length<ε) (h:bJ (λ_=>True) (aA 0) uA uB (aM (a+1) q) [η,ζ (.int a),v3,v0] [] c=.ok l c') :
  (bg (gi (ao (ay bf (ak 5) (dC (.int 1))) (ao (ak 2) aq))) [η,ζ 5,ζ 3,ζ 0] (aA 0) (aO (ay fE (aC 2 aN (ao (ak 3) (ao (dC (.int 6)) aq))) (ak 2))) (aU (ao (ak 1) (ao (ak 0) aq)))) [v0,v1,ζ (.int q),v3,v4,ζ (.int a)] c=.ok (.lst l) c':=by
 unfold uA uB at h;simp only[dB,nN,bD,cH,bE,fh,gz,gs,bG,R.az,i9];rw[if_pos ⟨by omega,by omega,by omega,by omega⟩]
 simp only[R.az];rw[if_pos hl];have:cR [η,ζ 5,ζ 3,ζ 0] [v0,v1,ζ (D.int q),v3,v4,ζ (.int a)]=[η,ζ (.int a),v3,v0]:=by cases v0<;>cases v3<;>rfl
 rw[this,h];rfl
theorem Qc{j n m a:Nat}{ps:List (Nat×Nat)}{eB:Int}{c:aa}(hP:PW j n ps c) (hp:cQ m ps) (ha:a<m) (hm:m<64) (hl:ps.length<=64*64) (v1:Option D) :
  ∃ps' c',PW j n ps' c'/\cQ m ps'/\ps'.length<=ps.length+m/\qy [ζ (.ref j),v1,ζ (.int (m:Int)),ζ (.int eB),ζ (.ref n),ζ (.int (a:Int))] c=.ok (.nx [ζ (.ref j),v1,ζ (.int (m:Int)),ζ (.int eB),ζ (.ref n),ζ (.int (a:Int))]) c':=by
 have hs:=cW (n:=1000) (by decide)
 obtain⟨qs,c1,P1,n1,l1,h1⟩:=Az (ps:=ps) (eB:=eB) ha (List.range' (a+1) (m-(a+1))) η [] c (λk hk=>by
  have:=aim.mp hk;obtain⟨i,hi,rfl⟩:=this;omega) hP
 rw[<-wK,af9]at h1;rw[ahg]at l1;have hc:=Qd (v1:=v1) (v4:=ζ (.ref n)) (by omega) (by omega) (by rw[dG];omega) h1
 refine⟨ps++qs,_,P1.plus,λp gc=>?_,by rw[ago];omega,yS (j:=j) rfl hc P1 (by omega)⟩
 rcases agm.mp gc with h|h
 ·exact hp p h
 ·exact n1 p h
theorem Qf{j n m:Nat}{eB:Int}{c:aa}(hP:PW j n [] c) (hm:m<64) (v1 v5:Option D) :
  ∃ps' c' v,PW j n ps' c'/\cQ m ps'/\cu (λ_=>True) (aA 5) qy (aM 0 (m:Int)) [ζ (.ref j),v1,ζ (.int (m:Int)),ζ (.int eB),ζ (.ref n),v5] c=.ok (.nx [ζ (.ref j),v1,ζ (.int (m:Int)),ζ (.int eB),ζ (.ref n),v]) c':=by
 have hlen:(aM 0 (m:Int)).length=m:=by rw[dG];omega
 obtain⟨e',c',⟨ps',v,rfl,P',gc,hl'⟩,hf⟩:=pF (g:=aA 5) (s:=qy) (λk e c=>∃ps' v,e=[ζ (.ref j),v1,ζ (.int (m:Int)),ζ (.int eB),ζ (.ref n),v]/\PW j n ps' c/\cQ m ps'/\ps'.length<=k*m)
  (aM 0 (m:Int)) 0 [ζ (.ref j),v1,ζ (.int (m:Int)),ζ (.int eB),ζ (.ref n),v5] c ⟨[],v5,rfl,hP,λp hp=>(by cases hp),by simp⟩ (λi x hx e c ⟨ps1,v,he,P1,hp1,hl1⟩=>by
   subst he;have hi:i<(aM 0 (m:Int)).length:=(af6.mp hx).1;obtain⟨hlt,rfl⟩:=kL hx;rw[ahu];rw[agr]at hl1 ⊢;have hb:i*m<=64*64:=ahh (by omega) (by omega)
   obtain⟨ps2,c2,P2,hp2,hl2,h2⟩:=Qc (eB:=eB) P1 hp1 (a:=i) (by omega) hm (by omega) v1
   exact⟨_,_,_,_,rfl,h2,ps2,_,rfl,P2,hp2,by rw[ahp];omega⟩)
 exact⟨ps',c',v,P',gc,hf⟩
theorem cQ.isIn{m:Nat}{ps:List (Nat×Nat)}(h:cQ m ps):EX m ps:=λp hp=>⟨(h p hp).1,(h p hp).2.1⟩
theorem Qo{j n:Nat}{most y z:Int}{c c1 c2 c3 c4:aa}{W:D}{v:Option D}(t1:aN [.ref j,.int most] c=.ok (.int y) c1) (t2:aN [.ref j,.int 5] c1=.ok (.int z) c2) (hn:c2.length=n)
  (hb:-4611686018427387904<=1+y/\1+y<4611686018427387904) (hf:cu (λ_=>True) (aA 5) qy (aM 0 (1+y)) [ζ (.ref j),ζ (.int most),ζ (.int (1+y)),ζ (.int (1+z)),ζ (.ref n),η] (c2++[.lst []])=.ok (.nx [ζ (.ref j),ζ (.int most),ζ (.int (1+y)),ζ (.int (1+z)),ζ (.ref n),v]) c3)
  (hw:jB [.int (1+y),.ref n] c3=.ok W c3) (hx:cY θ c.length W c3=.ok W c4):kY [.ref j,.int most] c=.ok W c4:=by
 have hb':sY=aD (aE 2 (ay bf (dC (.int 1)) (aC 2 aN (ao (ak 0) (ao (ak 1) aq))))) (aD (aE 3 (ay bf (dC (.int 1)) (aC 2 aN (ao (ak 0) (ao (dC (.int 5)) aq))))) (aD (aE 4 (fU aq)) (aD (b8 (bH (ao (ak 2) aq)) (aA 5) qy) (aR (aC 2 jB (ao (ak 2) (ao (ak 4) aq))))))):=rfl;have e0:(aE 2 (ay bf (dC (.int 1)) (aC 2 aN (ao (ak 0) (ao (ak 1) aq))))) [ζ (.ref j),ζ (.int most),η,η,η,η] c=.ok (.nx [ζ (.ref j),ζ (.int most),ζ (.int (1+y)),η,η,η]) c1:=by simp[t1]
 have e1:(aE 3 (ay bf (dC (.int 1)) (aC 2 aN (ao (ak 0) (ao (dC (.int 5)) aq))))) [ζ (.ref j),ζ (.int most),ζ (.int (1+y)),η,η,η] c1=.ok (.nx [ζ (.ref j),ζ (.int most),ζ (.int (1+y)),ζ (.int (1+z)),η,η]) c2:=by simp[t2]
 have e2:(aE 4 (fU aq)) [ζ (.ref j),ζ (.int most),ζ (.int (1+y)),ζ (.int (1+z)),η,η] c2=.ok (.nx [ζ (.ref j),ζ (.int most),ζ (.int (1+y)),ζ (.int (1+z)),ζ (.ref n),η]) (c2++[.lst []]):=by simp[hn]
 have e3:(b8 (bH (ao (ak 2) aq)) (aA 5) qy) [ζ (.ref j),ζ (.int most),ζ (.int (1+y)),ζ (.int (1+z)),ζ (.ref n),η] (c2++[.lst []])=.ok (.nx [ζ (.ref j),ζ (.int most),ζ (.int (1+y)),ζ (.int (1+z)),ζ (.ref n),v]) c3:=by
  simp only[i8,gv,bD,bE,gz,gs,bG,R.az];rw[if_pos (by omega)]
  exact hf
 have e4:(aR (aC 2 jB (ao (ak 2) (ao (ak 4) aq)))) [ζ (.ref j),ζ (.int most),ζ (.int (1+y)),ζ (.int (1+z)),ζ (.ref n),v] c3=.ok (.rt W) c3:=by simp[hw]
 rw[kY,jt,hb'];have es:cg 6 [D.ref j,.int most]=[ζ (.ref j),ζ (.int most),η,η,η,η]:=rfl;rw[es,bh e0,bh e1,bh e2,bh e3,e4];exact hx
theorem Oe(m:Nat) (f:Nat->Nat->Bool):noRef (bw m f)=Γ:=by
 unfold bw noRef;refine eu.mpr λd hd=>?_
 obtain⟨i,_,rfl⟩:=af4.mp hd;exact AB m f i
theorem Dr(m:Nat) (f:Nat->Nat->Bool) (n:Nat) (c:aa):cY θ n (bw m f) c=.ok (bw m f) (c.take n):=by
 have nr:=Oe m f;unfold bw at nr ⊢;unfold cY;dsimp only;rw[if_pos nr]
theorem PW.rE{j n:Nat}{ps:List (Nat×Nat)}{c:aa}(h:PW j n ps c):eS j n (c.take n):=by
 obtain⟨l3,hj,⟨p3,q3⟩,_⟩:=h;exact⟨by rw[aha];omega,hj,p3,by rw[aiw hj];exact q3⟩
theorem PW.start{j n:Nat}{c:aa}(h:eS j n c):PW j n [] (c++[.lst []]):=by
 obtain⟨hl,hj,p,hp⟩:=h;exact⟨by simp[hl],hj,⟨p,by rw[agC (by omega)];exact hp⟩,by rw[agG (by omega),hl];simp⟩
theorem P9{j n:Nat}{c:aa}{most:Int}(hP:eS j n c) (h0:0<most) (h1:most<60):∃(m:Nat) (ps:List (Nat×Nat)) (c':aa),1<=m/\(m:Int)<=most/\cQ m ps/\eS j n c'/\kY [.ref j,.int most] c=.ok (bw m (gI ps)) c':=by
 obtain⟨y,c1,y0,y1,P1,t1⟩:=fN hP h0 (by omega)
 obtain⟨z,c2,z0,z1,P2,t2⟩:=fN (bR:=5) P1 (by decide) (by decide)
 obtain⟨m,hm⟩:=ig (i:=1+y) (by omega)
 obtain⟨ps,c3,v,P3,hp3,hf⟩:=Qf (m:=m) (eB:=1+z) (PW.start P2) (by omega) (ζ (.int most)) η
 have hw:=Ja (m:=m) (X:=.ref n) (c:=c3) hp3.isIn (by omega) (.inl ⟨n,rfl,P3.2.2.2⟩)
 rw[<-hm]at hf hw;exact⟨m,ps,c3.take n,by omega,by omega,hp3,P3.rE,Qo t1 t2 P2.1 (by omega) hf hw (by rw[hP.1];exact Dr m _ n c3)⟩
def cS(M:List (List Int)):List D:=M.map λl=>.lst (l.map D.int)
theorem IG{M:List (List Int)}{i:Nat}(h:i<M.length):cM (cS M) (i:Int)=ζ (.lst (M[i].map D.int)):=pW (by simp[cS,h])
theorem Jp(l:List Int) (y:Int) (c:aa):∃b,inD (.int y) (.lst (l.map D.int)) c=.ok (.bl b) c:=by
 have hd:∀l:List Int,gM (l.map D.int)=ζ (l.map PyData.int):=λl=>by
  induction l with
  |nil=>rfl
  |cons n ns ih=>simp[gM,eO,ih]
 have h1:gg c (.int y)=ζ (.int y):=rfl;have h2:gg c (.lst (l.map D.int))=ζ (.list (l.map PyData.int)):=by
  show(match gM (l.map D.int)with|some r=>ζ (PyData.list r)|none=>η)=_
  rw[hd]
 refine⟨(l.map PyData.int).any λz=>z.eqv (.int y),?_⟩
 unfold inD;rw[h1,h2];dsimp only;rw[if_pos (by simp[PyData.depth])]
def xF:af:=(ay inD (ak 0) (ay aK (ak 1) (ak 2)))
theorem HK{X:D}{M:List (List Int)}{o:Nat}{c:aa}(hX:dW c X=ζ (cS M)) (ho:o<M.length):∀(l:List Int) (v:Option D) (acc:List D),∃bs:List Bool,bJ (λ_=>True) (aA 0) aT xF (l.map D.int) [v,ζ X,ζ (.int (o:Int))] acc c=.ok (acc++bs.map D.bl) c
 |[],v,acc=>⟨[],by simp⟩
 |y::l,v,acc=>by
  obtain⟨b,hb⟩:=Jp M[o] y c;have hix:aK X (.int (o:Int)) c=.ok (.lst (M[o].map D.int)) c:=by
   have hs:fO c X=ζ (cS M):=by
    cases X with
    |lst l=>exact hX
    |ref k=>exact hX
    |_=>cases hX
   unfold aK;dsimp only;rw[hs];dsimp only;rw[IG ho]
  have h2:xF [ζ (.int y),ζ X,ζ (.int (o:Int))] c=.ok (.bl b) c:=by
   unfold xF;simp only[cH,bE,gz,gs,R.az,hix,hb]
  have h1:aA 0 (.int y) [v,ζ X,ζ (.int (o:Int))] c=.ok [ζ (.int y),ζ X,ζ (.int (o:Int))] c:=rfl;obtain⟨bs,h⟩:=HK hX ho l (ζ (.int y)) (acc++[.bl b]);refine⟨b::bs,?_⟩;rw[af8,iu,h1,R.az,nM,R.az,if_pos rfl,h2,R.az,h,agx];rfl
def xG:af:=(bg (cV (ay aK (ak 1) (ak 3))) [η,ζ 1,ζ 4] (aA 0) aT (ay inD (ak 0) (ay aK (ak 1) (ak 2))))
def oG:ah:=bB (aO (aF pY (ao xG aq))) (dQ (vo (ak 2) (aU (ao (ak 3) (ao (ak 4) aq))))) bN
theorem VW{X:D}{M:List (List Int)}{a b:Nat}{c:aa}(hX:dW c X=ζ (cS M)) (ha:a<M.length) (hb:b<M.length) (hs:∀l∈M,l.length<1000) (v0 v2:Option D):∃t,(aO (aF pY (ao xG aq))) [v0,ζ X,v2,ζ (.int (a:Int)),ζ (.int (b:Int))] c=.ok t c:=by
 have hsz:=cW (n:=1000) (by decide)
 obtain⟨bs,h⟩:=HK hX hb M[a] η [];rw[af9]at h;have hix:aK X (.int (a:Int)) c=.ok (.lst (M[a].map D.int)) c:=by
  have hs:fO c X=ζ (cS M):=by
   cases X with
   |lst l=>exact hX
   |ref k=>exact hX
   |_=>cases hX
  unfold aK;dsimp only;rw[hs];dsimp only;rw[IG ha]
 have hc:xG [v0,ζ X,v2,ζ (.int (a:Int)),ζ (.int (b:Int))] c=.ok (.lst (bs.map D.bl)) c:=by
  unfold xF at h;unfold xG;rw[dB];unfold cV;simp only[cH,bE,gz,gs,R.az,hix];have hl:=hs _ (agM ha);rw[if_pos (by rw[af7];omega)]
  have:cR [η,ζ 1,ζ 4] [v0,ζ X,v2,ζ (D.int (a:Int)),ζ (.int (b:Int))]=[η,ζ X,ζ (.int (b:Int))]:=rfl;rw[this,h];rfl
 refine⟨bs.any id,?_⟩;have hany:pY [.lst (bs.map D.bl)] c=.ok (.bl (bs.any id)) c:=by
  unfold pY mT;dsimp only;rw[zg]
 simp only[ek,gZ,bD,hc,bG,R.az,hany]
theorem XC{X:D}{l:List D}{c:aa}(h:dW c X=ζ l) (Rc:aa):dW (c++Rc) X=ζ l:=by
 cases X with
 |lst m=>exact h
 |ref k =>
  unfold dW at h ⊢;dsimp only at h ⊢;have hk:k<c.length:=by
   rcases ahv k c.length with q|q
   ·exact q
   ·rw[ahe q]at h;cases h
  rw[agC hk];exact h
 |_=>cases h
theorem VX{X:D}{M:List (List Int)}{a b m:Nat}{ps:List (Nat×Nat)}{c:aa}(hX:dW c X=ζ (cS M)) (hM:m<=M.length) (hs:∀l∈M,l.length<1000) (hab:a<b) (hb:b<m) (hp:cQ m ps) (hl:ps.length<100000) (v0:Option D) :
  ∃ps',cQ m ps'/\ps'.length<=ps.length+1/\oG [v0,ζ X,ζ (.ref c.length),ζ (.int (a:Int)),ζ (.int (b:Int))] (c++[.lst (ps.map bx)])=.ok (.nx [v0,ζ X,ζ (.ref c.length),ζ (.int (a:Int)),ζ (.int (b:Int))]) (c++[.lst (ps'.map bx)]):=by
 have h2:(2:Nat)<=ε:=cW (by decide)
 obtain⟨t,ht⟩:=VW (a:=a) (b:=b) (XC hX [.lst (ps.map bx)]) (by omega) (by omega) hs v0 (ζ (.ref c.length))
 cases t with
 |false=>exact⟨ps,hp,by omega,by unfold oG;rw[eF,ht];simp⟩
 |true =>
  refine⟨ps++[(a,b)],λq hq=>?_,by simp,?_⟩
  ·rcases agm.mp hq with hq|hq
   ·exact hp q hq
   ·rw[agn]at hq;subst hq;exact⟨by show a<m;omega,hb,by show a≠b;omega⟩
  ·have ha:=adh (c:=c) (acc:=ps.map bx) (y:=bx (a,b)) (dO:=ak 2) (da:=aU (ao (ak 3) (ao (ak 4) aq))) (e:=[v0,ζ X,ζ (.ref c.length),ζ (.int (a:Int)),ζ (.int (b:Int))]) (by simp) (by
    simp only[mD,bD,bE,gz,gs,bG,R.az,af1,agd];rw[if_pos h2];rfl) rfl (by rw[af7];omega)
   unfold oG;rw[eF,ht];simp only[R.az,if_true];rw[vY,ha,aid];rfl
theorem QL{a m i:Nat}{x:D}(h:(aM ((a:Int)+1) (m:Int))[i]? = ζ x):a+1+i<m/\x=.int ((a+1+i:Nat):Int):=by
 have hi:i<(aM ((a:Int)+1) (m:Int)).length:=(af6.mp h).1;rw[dG]at hi;obtain⟨_,rfl⟩:=kL h;exact⟨by omega,by congr 1⟩
theorem VZ{X:D}{M:List (List Int)}{a m:Nat}{ps:List (Nat×Nat)}{c:aa}(hX:dW c X=ζ (cS M)) (hM:m<=M.length) (hs:∀l∈M,l.length<1000) (hp:cQ m ps) (hl:ps.length+m<100000) (v0 v4:Option D) :
  ∃ps' v,cQ m ps'/\ps'.length<=ps.length+m/\cu (λ_=>True) (aA 4) oG (aM ((a:Int)+1) (m:Int)) [v0,ζ X,ζ (.ref c.length),ζ (.int (a:Int)),v4] (c++[.lst (ps.map bx)])=.ok (.nx [v0,ζ X,ζ (.ref c.length),ζ (.int (a:Int)),v]) (c++[.lst (ps'.map bx)]):=by
 have hlen:(aM ((a:Int)+1) (m:Int)).length<=m:=by rw[dG];omega
 obtain⟨e',c',⟨ps',v,rfl,rfl,gc,hl'⟩,hf⟩:=pF (g:=aA 4) (s:=oG) (λk e c'=>∃ps' v,e=[v0,ζ X,ζ (.ref c.length),ζ (.int (a:Int)),v]/\c'=c++[.lst (ps'.map bx)]/\cQ m ps'/\ps'.length<=ps.length+k)
  (aM ((a:Int)+1) (m:Int)) 0 [v0,ζ X,ζ (.ref c.length),ζ (.int (a:Int)),v4] (c++[.lst (ps.map bx)]) ⟨ps,v4,rfl,rfl,hp,by omega⟩ (λi x hx e c' ⟨ps1,v,he,hc,hp1,hl1⟩=>by
   subst he;subst hc;have hi:i<(aM ((a:Int)+1) (m:Int)).length:=(af6.mp hx).1;obtain⟨hlt,rfl⟩:=QL hx;obtain⟨ps2,hp2,hl2,h2⟩:=VX (a:=a) (b:=a+1+i) hX hM hs (by omega) hlt hp1 (by omega) v0
   exact⟨_,_,_,_,rfl,h2,ps2,_,rfl,rfl,hp2,by omega⟩)
 exact⟨ps',v,gc,by omega,hf⟩
def oF:ah:=b8 (gi (ao (ay bf (ak 3) (dC (.int 1))) (ao (ak 0) aq))) (aA 4) oG
theorem V5{q a:Int}{X:Option D}{c c':aa}{v2 v4 v:Option D}(ba:-4611686018427387904<=a+1/\a+1<4611686018427387904) (bq:-4611686018427387904<=q/\q<4611686018427387904) (h:cu (λ_=>True) (aA 4) oG (aM (a+1) q) [ζ (.int q),X,v2,ζ (.int a),v4] c=.ok (.nx [ζ (.int q),X,v2,ζ (.int a),v]) c') :
  oF [ζ (.int q),X,v2,ζ (.int a),v4] c=.ok (.nx [ζ (.int q),X,v2,ζ (.int a),v]) c':=by
 unfold oF;simp only[i8,nN,bD,cH,bE,fh,gz,gs,bG,R.az,i9];rw[if_pos ⟨by omega,by omega,by omega,by omega⟩]
 exact h
theorem VY{X:D}{M:List (List Int)}{m:Nat}{c:aa}(hX:dW c X=ζ (cS M)) (hM:m<=M.length) (hs:∀l∈M,l.length<1000) (hm:m<64) :
  ∃ps u v,cQ m ps/\cu (λ_=>True) (aA 3) oF (aM 0 (m:Int)) [ζ (.int (m:Int)),ζ X,ζ (.ref c.length),η,η] (c++[.lst []])=.ok (.nx [ζ (.int (m:Int)),ζ X,ζ (.ref c.length),u,v]) (c++[.lst (ps.map bx)]):=by
 have hlen:(aM 0 (m:Int)).length=m:=by rw[dG];omega
 obtain⟨e',c',⟨ps',u,v,rfl,rfl,gc,hl'⟩,hf⟩:=pF (g:=aA 3) (s:=oF) (λk e c'=>∃ps' u v,e=[ζ (.int (m:Int)),ζ X,ζ (.ref c.length),u,v]/\c'=c++[.lst (ps'.map bx)]/\cQ m ps'/\ps'.length<=k*m)
  (aM 0 (m:Int)) 0 [ζ (.int (m:Int)),ζ X,ζ (.ref c.length),η,η] (c++[.lst []]) ⟨[],η,η,rfl,rfl,λp hp=>(by cases hp),by simp⟩ (λi x hx e c' ⟨ps1,u,v,he,hc,hp1,hl1⟩=>by
   subst he;subst hc;have hi:i<(aM 0 (m:Int)).length:=(af6.mp hx).1;obtain⟨hlt,rfl⟩:=kL hx;rw[ahu];rw[agr]at hl1 ⊢;have hb:i*m<=64*64:=ahh (by omega) (by omega)
   obtain⟨ps2,w,hp2,hl2,h2⟩:=VZ (a:=i) hX hM hs hp1 (by omega) (ζ (.int (m:Int))) v
   exact⟨_,_,_,_,rfl,V5 (by omega) (by omega) h2,ps2,_,_,rfl,rfl,hp2,by rw[ahp];omega⟩)
 exact⟨ps',u,v,gc,hf⟩
theorem V0{q:Int}{X:D}{c c3:aa}{u v:Option D}{l:List D}(b:-4611686018427387904<=q/\q<4611686018427387904) (hf:cu (λ_=>True) (aA 3) oF (aM 0 q) [ζ (.int q),ζ X,ζ (.ref c.length),η,η] (c++[.lst []])=.ok (.nx [ζ (.int q),ζ X,ζ (.ref c.length),u,v]) (c++[.lst l])) :
  kg [.int q,X] c=.ok (.lst l) c:=by
 have hb':tF=aD (aE 2 (fU aq)) (aD (b8 (bH (ao (ak 0) aq)) (aA 3) oF) (aR (ak 2))):=rfl;have e0:(aE 2 (fU aq)) [ζ (.int q),ζ X,η,η,η] c=.ok (.nx [ζ (.int q),ζ X,ζ (.ref c.length),η,η]) (c++[.lst []]):=by simp
 have e1:(b8 (bH (ao (ak 0) aq)) (aA 3) oF) [ζ (.int q),ζ X,ζ (.ref c.length),η,η] (c++[.lst []])=.ok (.nx [ζ (.int q),ζ X,ζ (.ref c.length),u,v]) (c++[.lst l]):=by
  simp only[i8,gv,bD,bE,gz,gs,bG,R.az];rw[if_pos (by omega)]
  exact hf
 rw[kg,jt,hb'];have es:cg 5 [D.int q,X]=[ζ (.int q),ζ X,η,η,η]:=rfl;rw[es,bh e0,bh e1];simp[cY]
theorem HZ{X:D}{M:List (List Int)}{m:Nat}{c:aa}(hX:dW c X=ζ (cS M)) (hM:m<=M.length) (hs:∀l∈M,l.length<1000) (hm:m<64):∃ps,cQ m ps/\kg [.int (m:Int),X] c=.ok (.lst (ps.map bx)) c:=by
 obtain⟨ps,u,v,hp,hf⟩:=VY hX hM hs hm;exact⟨ps,hp,V0 (c3:=c) (by omega) hf⟩
def uo:ai:=(aO (ay cT (aC 2 aN (ao (ak 1) (ao (dC (.int 2)) aq))) (dC (.int 1))))
theorem Ao{j n:Nat}{ps:List (Nat×Nat)}:∀(ks:List Nat) (v:Option D) (acc:List D) (c:aa),PW j n ps c ->
  ∃(ss:List Nat) (c':aa),PW j n ps c'/\(∀x∈ss,x∈ks)/\ss.length<=ks.length/\bJ (λ_=>True) (aA 0) uo (ak 0) (ks.map λk:Nat=>.int (k:Int)) [v,ζ (.ref j)] acc c=.ok (acc++nD ss) c'
 |[],v,acc,c,hP=>⟨[],c,hP,λx hx=>(by cases hx),afU _,by simp⟩
 |k::ks,v,acc,c,hP=>by
  obtain⟨p,hp⟩:=hP.2.2.1;have ht:=take2 (bR:=2) hp (by decide) (by decide)
  have pB:=hP.turn (p/2)
  generalize c.set j (.lst [.int (p/2)])=c1 at ht pB
  have hT:uo [ζ (.int (k:Int)),ζ (.ref j)] c=.ok (decide (p % 2=1)) c1:=by
   unfold uo;simp only[ek,cH,x_call,bD,bE,gz,gs,fh,bG,R.az,af1,agd,if_pos,ht];simp
  have h1:aA 0 (.int (k:Int)) [v,ζ (.ref j)] c=.ok [ζ (.int (k:Int)),ζ (.ref j)] c:=rfl;have h2:ak 0 [ζ (.int (k:Int)),ζ (.ref j)] c1=.ok (.int (k:Int)) c1:=rfl
  by_cases hq:p % 2=1
  ·obtain⟨ss,c',P',n',l',h'⟩:=Ao ks (ζ (.int (k:Int))) (acc++[.int (k:Int)]) c1 pB;refine⟨k::ss,c',P',λx hx=>?_,by simp only[af1];omega,?_⟩
   ·rcases afW.mp hx with rfl|hx
    ·exact .head _
    ·exact .tail _ (n' x hx)
   ·rw[af8,iu,h1,R.az,hT,R.az,if_pos (decide_eq_true hq),h2,R.az,h',agx];rfl
  ·obtain⟨ss,c',P',n',l',h'⟩:=Ao ks (ζ (.int (k:Int))) acc c1 pB;refine⟨ss,c',P',λx hx=>.tail _ (n' x hx),by simp only[af1];omega,?_⟩
   rw[af8,iu,h1,R.az,hT,R.az,if_neg (by simpa using hq),h']
def qi:af:=(aU (ao (ak 0) (ao (ay cI (ay bf (ak 0) (ak 2)) (ak 1)) aq)))
def nP(m s:Nat):List (Nat×Nat):=(ι m).map λk=>(k,(k+s) % m)
theorem NI{m s:Nat}(h1:1<=s) (h2:s<m):cQ m (nP m s):=λp hp=>by
 obtain⟨k,hk,rfl⟩:=af4.mp hp;have hk:=age.mp hk;refine⟨hk,aiW _ (by omega),λe=>?_⟩
 dsimp only at e
 rcases ahv (k+s) m with q|q
 ·rw[ain q]at e;omega
 ·rw[aj0 q,ain (by omega)]at e;omega
theorem NJ{m s:Nat}(hm:1<=m) (c:aa):bJ (λ_=>True) (aA 0) aT qi (aM 0 (m:Int)) [η,ζ (.int (m:Int)),ζ (.int (s:Int))] [] c=.ok ((nP m s).map bx) c:=by
 have h2:(2:Nat)<=ε:=cW (by decide)
 have:=pJ (c:=c) (g:=aA 0) (t:=aT) (a:=qi) (λe=>∃v,e=[v,ζ (.int (m:Int)),ζ (.int (s:Int))]) (λ_=>Γ) (λd=>match d with|.int k=>bx (k.toNat,(k.toNat+s) % m)|d=>d) (aM 0 (m:Int)) [η,ζ (.int (m:Int)),ζ (.int (s:Int))] [] ⟨_,rfl⟩ (λd hd e ⟨v,he⟩=>by
  subst he;obtain⟨k',rfl,k0,k1⟩:=oN hd;obtain⟨k,rfl⟩:=ig k0;have hmod:cI (.int ((k:Int)+(s:Int))) (.int (m:Int)) c=.ok (.int (((k+s) % m:Nat):Int)) c:=by
   rw[mX c (by omega)]
   congr 2
  refine⟨_,rfl,⟨_,rfl⟩,rfl,λ_=>?_⟩
  show qi [ζ (.int (k:Int)),ζ (.int (m:Int)),ζ (.int (s:Int))] c=_;unfold qi;simp only[mD,bD,bE,gz,gs,cH,i9,bG,R.az,hmod,af1,agd];rw[if_pos h2];rfl)
 rw[this,af9,yi,wM]
 congr 1
 unfold nP;rw[agl];rfl
def qj:af:=(bg (bH (ao (ak 3) aq)) [η,ζ 3,ζ 6] (aA 0) aT qi)
theorem NH{q s:Int}{a0 a1 a2 a4 a5 a7 a8 a9 aL aS aQ:Option D}{c:aa}{l:List D}(b:-4611686018427387904<=q/\q<4611686018427387904) (hl:(aM 0 q).length<ε) (h:bJ (λ_=>True) (aA 0) aT qi (aM 0 q) [η,ζ (.int q),ζ (.int s)] [] c=.ok l c) :
  qj [a0,a1,a2,ζ (.int q),a4,a5,ζ (.int s),a7,a8,a9,aL,aS,aQ] c=.ok (.lst l) c:=by
 unfold qj;simp only[dB,gv,bD,bE,gz,gs,bG,R.az];rw[if_pos (by omega)]
 simp only[R.az];rw[if_pos hl];have:cR [η,ζ 3,ζ 6] [a0,a1,a2,ζ (D.int q),a4,a5,ζ (.int s),a7,a8,a9,aL,aS,aQ]=[η,ζ (.int q),ζ (.int s)]:=rfl;rw[this,h];rfl
theorem FL{j n m:Nat}(hm:1<=m) (hm':m<64) {a1 a2 a5 a7 a8 a9 aL aS aQ:Option D}:∀(ss:List Nat) (ps:List (Nat×Nat)) (v:Option D) (c:aa),(∀s∈ss,1<=s/\s<m)->PW j n ps c->cQ m ps->ps.length+ss.length*m<=90000 ->
  ∃ps' c' v',PW j n ps' c'/\cQ m ps'/\cu (λ_=>True) (aA 6) (dQ (ee (ak 4) qj)) (nD ss) [ζ (.ref j),a1,a2,ζ (.int (m:Int)),ζ (.ref n),a5,v,a7,a8,a9,aL,aS,aQ] c=.ok (.nx [ζ (.ref j),a1,a2,ζ (.int (m:Int)),ζ (.ref n),a5,v',a7,a8,a9,aL,aS,aQ]) c'
 |[],ps,v,c,_,hP,hp,_=>⟨ps,c,v,hP,hp,by simp⟩
 |s::ss,ps,v,c,hss,hP,hp,hl=>by
  have hs:=cW (n:=1000) (by decide)
  obtain⟨s1,s2⟩:=hss s (.head _);have hc:=NH (a0:=ζ (.ref j)) (a1:=a1) (a2:=a2) (a4:=ζ (.ref n)) (a5:=a5) (a7:=a7) (a8:=a8) (a9:=a9) (aL:=aL) (aS:=aS) (aQ:=aQ) (q:=(m:Int)) (s:=(s:Int)) (c:=c) (by omega) (by rw[dG];omega) (NJ hm c)
  have hwl:(nP m s).length=m:=by simp[nP]
  rw[af1,ahp]at hl;have hx:=yS (j:=j) (n:=n) (ps:=ps) (qs:=nP m s) (dc:=qj) (e:=[ζ (.ref j),a1,a2,ζ (.int (m:Int)),ζ (.ref n),a5,ζ (.int (s:Int)),a7,a8,a9,aL,aS,aQ]) rfl hc hP (by omega)
  obtain⟨ps',c',v',P',gc,h'⟩:=FL hm hm' (a1:=a1) (a2:=a2) (a5:=a5) (a7:=a7) (a8:=a8) (a9:=a9) (aL:=aL) (aS:=aS) (aQ:=aQ) ss (ps++nP m s) (ζ (.int (s:Int))) _ (λz hz=>hss z (.tail _ hz)) hP.plus (λp hq=>(agm.mp hq).elim (hp p) (NI s1 s2 p)) (by rw[ago];omega)
  refine⟨ps',c',v',P',gc,?_⟩;have hg:aA 6 (.int (s:Int)) [ζ (.ref j),a1,a2,ζ (.int (m:Int)),ζ (.ref n),a5,v,a7,a8,a9,aL,aS,aQ] c=.ok [ζ (.ref j),a1,a2,ζ (.int (m:Int)),ζ (.ref n),a5,ζ (.int (s:Int)),a7,a8,a9,aL,aS,aQ] c:=rfl;show cu (λ_=>True) (aA 6) (dQ (ee (ak 4) qj)) (.int (s:Int)::nD ss) _ c=_
  rw[pG,hg,R.az,hx];exact h'
theorem wj{t:ai}{E:List (Option D)}{a m:Nat}{c:aa}(ha:a<m) (ht:∀k:Nat,a<k->k<m->∃b,t (ζ (.int (k:Int))::ζ (.int (a:Int))::E) c=.ok b c):∀(ks:List Nat) (v:Option D) (acc:List D),(∀k∈ks,a<k/\k<m) ->
  ∃qs:List (Nat×Nat),cQ m qs/\qs.length<=ks.length/\bJ (λ_=>True) (aA 0) t (aU (ao (ak 1) (ao (ak 0) aq))) (ks.map λk:Nat=>.int (k:Int)) (v::ζ (.int (a:Int))::E) acc c=.ok (acc++qs.map bx) c
 |[],v,acc,_=>⟨[],λp hp=>(by cases hp),afU _,by simp⟩
 |k::ks,v,acc,hk=>by
  have hkk:=hk k (.head _);have h2:(2:Nat)<=ε:=cW (by decide)
  obtain⟨b,hb⟩:=ht k hkk.1 hkk.2;have h1:aA 0 (.int (k:Int)) (v::ζ (.int (a:Int))::E) c=.ok (ζ (.int (k:Int))::ζ (.int (a:Int))::E) c:=rfl;have hE:(aU (ao (ak 1) (ao (ak 0) aq))) (ζ (.int (k:Int))::ζ (.int (a:Int))::E) c=.ok (bx (a,k)) c:=by
   simp only[mD,bD,bE,gz,gs,bG,R.az,af1,agd];rw[if_pos h2];rfl
  cases b with
  |true =>
   obtain⟨qs,n',l',h'⟩:=wj ha ht ks (ζ (.int (k:Int))) (acc++[bx (a,k)]) (λz hz=>hk z (.tail _ hz))
   refine⟨(a,k)::qs,λq hq=>?_,by simp only[af1];omega,?_⟩
   ·rcases afW.mp hq with rfl|hq
    ·exact⟨ha,hkk.2,afX hkk.1⟩
    ·exact n' q hq
   ·rw[af8,iu,h1,R.az,hb,R.az,if_pos rfl,hE,R.az,h',agx];rfl
  |false =>
   obtain⟨qs,n',l',h'⟩:=wj ha ht ks (ζ (.int (k:Int))) acc (λz hz=>hk z (.tail _ hz))
   refine⟨qs,n',by simp only[af1];omega,?_⟩
   rw[af8,iu,h1,R.az,hb,R.az,if_neg (by decide),h']
theorem ES{t:ai}{m:Nat}{c:aa}{st:aa->Prop}(hst:st c) (ht:∀a b:Nat,∃x,t [ζ (.int (a:Int)),ζ (.int (b:Int))] c=.ok x c):∀(ps:List (Nat×Nat)) (v w:Option D) (acc:List D),cQ m ps ->
  ∃qs:List (Nat×Nat),cQ m qs/\bJ st (e9 2 (cA (aA 0) (cA (aA 1) fq))) t (aU (ao (ak 0) (ao (ak 1) aq))) (ps.map bx) [v,w] acc c=.ok (acc++qs.map bx) c
 |[],v,w,acc,_=>⟨[],λp hp=>(by cases hp),by unfold bJ;simp[hst]⟩
 |p::ps,v,w,acc,hp=>by
  have h2:(2:Nat)<=ε:=cW (by decide)
  obtain⟨b,hb⟩:=ht p.1 p.2;have h1:(e9 2 (cA (aA 0) (cA (aA 1) fq))) (bx p) [v,w] c=.ok [ζ (.int (p.1:Int)),ζ (.int (p.2:Int))] c:=by simp[bx]
  have hE:(aU (ao (ak 0) (ao (ak 1) aq))) [ζ (.int (p.1:Int)),ζ (.int (p.2:Int))] c=.ok (bx p) c:=by
   simp only[mD,bD,bE,gz,gs,bG,R.az,af1,agd];rw[if_pos h2];rfl
  have gc:cQ m ps:=λq hq=>hp q (.tail _ hq)
  rw[af8];unfold bJ;rw[if_pos hst,h1,R.az,hb,R.az];cases b with
  |true =>
   obtain⟨qs,n',h'⟩:=ES hst ht ps (ζ (.int (p.1:Int))) (ζ (.int (p.2:Int))) (acc++[bx p]) gc;refine⟨p::qs,λq hq=>?_,?_⟩
   ·rcases afW.mp hq with rfl|hq
    ·exact hp _ (.head _)
    ·exact n' q hq
   ·rw[if_pos rfl,hE,R.az,h',agx];rfl
  |false =>
   obtain⟨qs,n',h'⟩:=ES hst ht ps (ζ (.int (p.1:Int))) (ζ (.int (p.2:Int))) acc gc;exact⟨qs,n',by rw[if_neg (by decide),h']⟩
theorem JK{j n m:Nat}{g:Gd}{B:ah}{E:Option D->Ev}(hm:m<64) (hE:∀x v c,g x (E v) c=.ok (E (ζ x)) c)
  (hB:∀(a:Nat) (ps:List (Nat×Nat)) (c:aa),a<m->PW j n ps c->ps.length<=64*64->∃(qs:List (Nat×Nat)) (c':aa),cQ m qs/\qs.length<=m/\PW j n (ps++qs) c'/\B (E (ζ (.int (a:Int)))) c=.ok (.nx (E (ζ (.int (a:Int))))) c')
  {c:aa}(hP:PW j n [] c) (v:Option D):∃ps' c' v',PW j n ps' c'/\cQ m ps'/\ps'.length<=64*64/\cu (λ_=>True) g B (aM 0 (m:Int)) (E v) c=.ok (.nx (E v')) c':=by
 obtain⟨e',c',⟨ps',v',rfl,P',gc,hl'⟩,hf⟩:=pF (g:=g) (s:=B) (λk e c=>∃ps' v',e=E v'/\PW j n ps' c/\cQ m ps'/\ps'.length<=k*m)
  (aM 0 (m:Int)) 0 (E v) c ⟨[],v,rfl,hP,λp hp=>(by cases hp),by simp⟩ (λi x hx e c ⟨ps1,v1,he,P1,hp1,hl1⟩=>by
   subst he;have hi:i<(aM 0 (m:Int)).length:=(af6.mp hx).1;rw[dG]at hi;obtain⟨hlt,rfl⟩:=kL hx;rw[ahu];rw[agr]at hl1 ⊢;have hb:i*m<=64*64:=ahh (by omega) (by omega)
   obtain⟨qs,c2,hq,hql,P2,h2⟩:=hB i ps1 c (by omega) P1 (by omega)
   refine⟨_,_,_,_,hE _ _ _,h2,ps1++qs,_,rfl,P2,λp hp=>(agm.mp hp).elim (hp1 p) (hq p),?_⟩
   rw[ago,ahp];omega)
 have hb:(aM 0 (m:Int)).length*m<=64*64:=ahh (by rw[dG];omega) (by omega)
 rw[agr]at hl';exact⟨ps',c',v',P',gc,by omega,hf⟩
def t7:ai:=(aO (ay inD (ay eV (ak 0) (ak 1)) (aU (ao (dC (.int 1)) (ao (dC (.int 2)) (ao (dC (.int 4)) aq))))))
theorem Zh(x:Int) (c:aa):inD (.int x) (.tup [.int 1,.int 2,.int 4]) c=.ok (.bl ([PyData.int 1,.int 2,.int 4].any λz=>z.eqv (.int x))) c:=by
 have h1:gg c (.int x)=ζ (.int x):=rfl;have h2:gg c (.tup [.int 1,.int 2,.int 4])=ζ (.tuple [.int 1,.int 2,.int 4]):=by
  simp[gg,eO,gM]
 unfold inD;rw[h1,h2];dsimp only;rw[if_pos (by simp[PyData.depth])]
theorem Nh{a k:Nat}(c:aa):∃b,t7 [ζ (.int (k:Int)),ζ (.int (a:Int))] c=.ok b c:=by
 have h3:(3:Nat)<=ε:=cW (by decide)
 refine⟨[PyData.int 1,.int 2,.int 4].any λz=>z.eqv (.int ((k:Int)-(a:Int))),?_⟩
 unfold t7;simp only[ek,cH,bE,gz,gs,Fp,mD,bD,fh,bG,R.az,af1,agd];rw[if_pos h3];simp only[R.az,Zh]
def vZ:af:=(bg (gi (ao (ay bf (ak 9) (dC (.int 1))) (ao (ak 3) aq))) [η,ζ 9] (aA 0) t7 (aU (ao (ak 1) (ao (ak 0) aq))))
theorem Ni{q a:Int}{a0 a1 a2 a4 a5 a6 a7 a8 aL aS aQ:Option D}{c:aa}{l:List D}(ba:-4611686018427387904<=a+1/\a+1<4611686018427387904) (b:-4611686018427387904<=q/\q<4611686018427387904) (hl:(aM (a+1) q).length<ε) (h:bJ (λ_=>True) (aA 0) t7 (aU (ao (ak 1) (ao (ak 0) aq))) (aM (a+1) q) [η,ζ (.int a)] [] c=.ok l c) :
  vZ [a0,a1,a2,ζ (.int q),a4,a5,a6,a7,a8,ζ (.int a),aL,aS,aQ] c=.ok (.lst l) c:=by
 unfold vZ;simp only[dB,nN,bD,cH,bE,fh,gz,gs,bG,R.az,i9];rw[if_pos ⟨by omega,by omega,by omega,by omega⟩]
 simp only[R.az];rw[if_pos hl];have:cR [η,ζ 9] [a0,a1,a2,ζ (D.int q),a4,a5,a6,a7,a8,ζ (.int a),aL,aS,aQ]=[η,ζ (.int a)]:=rfl;rw[this,h];rfl
theorem Nj{j n m:Nat}(hm:m<64) {a1 a2 a5 a6 a7 a8 aL aS aQ:Option D}{c:aa}(hP:PW j n [] c) (v:Option D):∃ps' c' v',PW j n ps' c'/\cQ m ps'/\ps'.length<=64*64 /\
  cu (λ_=>True) (aA 9) (dQ (ee (ak 4) vZ)) (aM 0 (m:Int)) [ζ (.ref j),a1,a2,ζ (.int (m:Int)),ζ (.ref n),a5,a6,a7,a8,v,aL,aS,aQ] c=.ok (.nx [ζ (.ref j),a1,a2,ζ (.int (m:Int)),ζ (.ref n),a5,a6,a7,a8,v',aL,aS,aQ]) c' :=
 JK (E:=λv=>[ζ (.ref j),a1,a2,ζ (.int (m:Int)),ζ (.ref n),a5,a6,a7,a8,v,aL,aS,aQ]) hm (λ_ _ _=>rfl) (λa ps c ha hP hl=>by
  have hs:=cW (n:=1000) (by decide)
  obtain⟨qs,hq,ql,h⟩:=wj (t:=t7) (E:=[]) (c:=c) ha (λk _ _=>Nh c) (List.range' (a+1) (m-(a+1))) η [] (λk hk=>by
   obtain⟨i,hi,rfl⟩:=aim.mp hk;omega)
  rw[<-wK,af9]at h;rw[ahg]at ql;have hc:=Ni (a0:=ζ (.ref j)) (a1:=a1) (a2:=a2) (a4:=ζ (.ref n)) (a5:=a5) (a6:=a6) (a7:=a7) (a8:=a8) (aL:=aL) (aS:=aS) (aQ:=aQ) (by omega) (by omega) (by rw[dG];omega) h
  exact⟨qs,_,hq,by omega,hP.plus,yS (j:=j) rfl hc hP (by omega)⟩) hP v
def ua:ai:=(aO (ay inD (ay cI (ay eV (ak 0) (ak 1)) (ak 3)) (ak 2)))
theorem Nn{a k:Nat}{q:Int}(hq:0<q) (l:List Int) (c:aa):∃b,ua [ζ (.int (k:Int)),ζ (.int (a:Int)),ζ (.lst (l.map D.int)),ζ (.int q)] c=.ok b c:=by
 obtain⟨b,hb⟩:=Jp l (((k:Int)-(a:Int)) % q) c;have hm:cI (.int ((k:Int)-(a:Int))) (.int q) c=.ok (.int (((k:Int)-(a:Int)) % q)) c:=mX c hq;refine⟨b,?_⟩;unfold ua;simp only[ek,cH,bE,gz,gs,Fp,R.az,hm,hb]
def wc:af:=(bg (gi (ao (ay bf (ak 9) (dC (.int 1))) (ao (ak 3) aq))) [η,ζ 9,ζ 12,ζ 3] (aA 0) ua (aU (ao (ak 1) (ao (ak 0) aq))))
theorem Np{q a:Int}{a0 a1 a2 a4 a5 a6 a7 a8 aL aS aQ:Option D}{c:aa}{l:List D}(ba:-4611686018427387904<=a+1/\a+1<4611686018427387904) (b:-4611686018427387904<=q/\q<4611686018427387904) (hl:(aM (a+1) q).length<ε) (h:bJ (λ_=>True) (aA 0) ua (aU (ao (ak 1) (ao (ak 0) aq))) (aM (a+1) q) [η,ζ (.int a),aQ,ζ (.int q)] [] c=.ok l c) :
  wc [a0,a1,a2,ζ (.int q),a4,a5,a6,a7,a8,ζ (.int a),aL,aS,aQ] c=.ok (.lst l) c:=by
 unfold wc;simp only[dB,nN,bD,cH,bE,fh,gz,gs,bG,R.az,i9];rw[if_pos ⟨by omega,by omega,by omega,by omega⟩]
 simp only[R.az];rw[if_pos hl];have:cR [η,ζ 9,ζ 12,ζ 3] [a0,a1,a2,ζ (D.int q),a4,a5,a6,a7,a8,ζ (.int a),aL,aS,aQ]=[η,ζ (.int a),aQ,ζ (.int q)]:=by cases aQ<;>rfl
 rw[this,h];rfl
theorem Nq{j n m:Nat}(h1:1<=m) (hm:m<64) {a1 a2 a5 a6 a7 a8 aL aS:Option D}(sq:List Int) {c:aa}(hP:PW j n [] c) (v:Option D):∃ps' c' v',PW j n ps' c'/\cQ m ps'/\ps'.length<=64*64 /\
  cu (λ_=>True) (aA 9) (dQ (ee (ak 4) wc)) (aM 0 (m:Int)) [ζ (.ref j),a1,a2,ζ (.int (m:Int)),ζ (.ref n),a5,a6,a7,a8,v,aL,aS,ζ (.lst (sq.map D.int))] c=.ok (.nx [ζ (.ref j),a1,a2,ζ (.int (m:Int)),ζ (.ref n),a5,a6,a7,a8,v',aL,aS,ζ (.lst (sq.map D.int))]) c' :=
 JK (E:=λv=>[ζ (.ref j),a1,a2,ζ (.int (m:Int)),ζ (.ref n),a5,a6,a7,a8,v,aL,aS,ζ (.lst (sq.map D.int))]) hm (λ_ _ _=>rfl) (λa ps c ha hP hl=>by
  have hs:=cW (n:=1000) (by decide)
  obtain⟨qs,hq,ql,h⟩:=wj (t:=ua) (E:=[ζ (.lst (sq.map D.int)),ζ (.int (m:Int))]) (c:=c) ha (λk _ _=>Nn (by omega) sq c) (List.range' (a+1) (m-(a+1))) η [] (λk hk=>by
   obtain⟨i,hi,rfl⟩:=aim.mp hk;omega)
  rw[<-wK,af9]at h;rw[ahg]at ql;have hc:=Np (a0:=ζ (.ref j)) (a1:=a1) (a2:=a2) (a4:=ζ (.ref n)) (a5:=a5) (a6:=a6) (a7:=a7) (a8:=a8) (aL:=aL) (aS:=aS) (aQ:=ζ (.lst (sq.map D.int))) (by omega) (by omega) (by rw[dG];omega) h
  exact⟨qs,_,hq,by omega,hP.plus,yS (j:=j) rfl hc hP (by omega)⟩) hP v
def jm(j n:Nat) (most:Int) (B:ah) (E:Ev) (c:aa):Prop :=
 ∃(m:Nat) (ps:List (Nat×Nat)) (X:D) (c':aa) (E':Ev),1<=m/\(m:Int)<=most/\cQ m ps/\eS j n (c'.take n)/\E'[3]? = ζ (ζ (.int (m:Int)))/\E'[4]? = ζ (ζ X)/\((∃k,X=.ref k/\c'[k]? = ζ (.lst (ps.map bx)))\/X=.lst (ps.map bx))/\B E c=.ok (.nx E') c'
theorem jm.yes{j n:Nat}{most:Int}{s s':ah}{t:ai}{E:Ev}{c:aa}(ht:t E c=.ok Γ c) (h:jm j n most s E c):jm j n most (bB t s s') E c:=by
 obtain⟨m,ps,X,c',E',h1,h2,h3,h4,h5,h6,h7,h8⟩:=h;exact⟨m,ps,X,c',E',h1,h2,h3,h4,h5,h6,h7,by rw[eF,ht,R.az,if_pos rfl];exact h8⟩
theorem jm.no{j n:Nat}{most:Int}{s s':ah}{t:ai}{E:Ev}{c:aa}(ht:t E c=.ok θ c) (h:jm j n most s' E c):jm j n most (bB t s s') E c:=by
 obtain⟨m,ps,X,c',E',h1,h2,h3,h4,h5,h6,h7,h8⟩:=h;exact⟨m,ps,X,c',E',h1,h2,h3,h4,h5,h6,h7,by rw[eF,ht,R.az,if_neg (by decide)];exact h8⟩
theorem PW.take{j n:Nat}{ps:List (Nat×Nat)}{c:aa}{bR:Int}(h:PW j n ps c) (h0:0<bR) (h1:bR<1073741824):∃(x:Int) (c':aa),0<=x/\x<bR/\PW j n ps c'/\aN [.ref j,.int bR] c=.ok (.int x) c':=by
 obtain⟨p,hp⟩:=h.2.2.1;exact⟨p % bR,_,aij _ (by omega),aik _ h0,h.turn _,take2 hp h0 h1⟩
theorem QI(k:Nat):aM 1 ((k:Int)+1)=(List.range' 1 k).map λi:Nat=>.int (i:Int):=by
 unfold aM;rw[show((k:Int)+1-1).toNat=k by omega,ajZ,agl]
 refine agH λi _=>?_
 show D.int _=D.int _
 congr 1
def Ac:ah:=(aE 5 (bg (gi (ao (dC (.int 1)) (ao (ay bf (ay eN (ak 3) (dC (.int 2))) (dC (.int 1))) aq))) [η,ζ 0] (aA 0) uo (ak 0)))
theorem NK{q r:Int}{a0 a1 a2 a4 a5 a6 a7 a8 a9 aL aS aQ:Option D}{c c':aa}{l:List D}(hr:eN (.int q) (.int 2) c=.ok (.int r) c) (b:-4611686018427387904<=r+1/\r+1<4611686018427387904) (hl:(aM 1 (r+1)).length<ε) (h:bJ (λ_=>True) (aA 0) uo (ak 0) (aM 1 (r+1)) [η,a0] [] c=.ok l c') :
  Ac [a0,a1,a2,ζ (.int q),a4,a5,a6,a7,a8,a9,aL,aS,aQ] c=.ok (.nx [a0,a1,a2,ζ (.int q),a4,ζ (.lst l),a6,a7,a8,a9,aL,aS,aQ]) c':=by
 unfold Ac;simp only[gr,dB,nN,bD,cH,bE,fh,gz,gs,bG,R.az,hr,i9];rw[if_pos ⟨by omega,by omega,by omega,by omega⟩]
 simp only[R.az];rw[if_pos hl];have:cR [η,ζ 0] [a0,a1,a2,ζ (D.int q),a4,a5,a6,a7,a8,a9,aL,aS,aQ]=[η,a0]:=by cases a0<;>rfl
 rw[this,h];rfl
def Ab:ah:=aD Ac (b8 (cV (ak 5)) (aA 6) (dQ (ee (ak 4) qj)))
theorem Nf{j n m:Nat}{most:Int}{c:aa}{a2:Option D}(hm:1<=m) (hm':(m:Int)<=most) (h6:most<60) (hP:PW j n [] c):jm j n most Ab [ζ (.ref j),ζ (.int most),a2,ζ (.int (m:Int)),ζ (.ref n),η,η,η,η,η,η,η,η] c:=by
 have hs:=cW (n:=1000) (by decide)
 obtain⟨ss,c1,P1,hss,hsl,h1⟩:=Ao (j:=j) (n:=n) (ps:=[]) (List.range' 1 (m/2)) η [] c hP;rw[<-QI,af9]at h1;rw[ahg]at hsl;have hd:eN (.int (m:Int)) (.int 2) c=.ok (.int ((m/2:Nat):Int)) c:=by
  rw[sj c (by decide) (by decide),show((m/2:Nat):Int)=(m:Int)/2 by omega]
 have e0:=NK (a1:=ζ (.int most)) (a2:=a2) (a4:=ζ (.ref n)) (a5:=η) (a6:=η) (a7:=η) (a8:=η) (a9:=η) (aL:=η) (aS:=η) (aQ:=η) hd (by omega) (by rw[dG];omega) h1
 have hb:ss.length*m<=64*64:=ahh (by omega) (by omega)
 obtain⟨ps,c2,v,P2,hp2,h2⟩:=FL (j:=j) (n:=n) hm (by omega) (a1:=ζ (.int most)) (a2:=a2) (a5:=ζ (.lst (nD ss))) (a7:=η) (a8:=η) (a9:=η) (aL:=η) (aS:=η) (aQ:=η) ss [] η c1 (λs hs=>by
  obtain⟨i,hi,rfl⟩:=aim.mp (hss s hs);omega) P1 (λp hp=>(by cases hp)) (by simp only[agd];omega)
 have Cs:cV (ak 5) [ζ (.ref j),ζ (.int most),a2,ζ (.int (m:Int)),ζ (.ref n),ζ (.lst (nD ss)),η,η,η,η,η,η,η] c1=.ok ⟨nD ss,λ_=>True⟩ c1:=rfl
 refine⟨m,ps,.ref n,c2,[ζ (.ref j),ζ (.int most),a2,ζ (.int (m:Int)),ζ (.ref n),ζ (.lst (nD ss)),v,η,η,η,η,η,η],hm,hm',hp2,P2.rE,rfl,rfl,.inl ⟨n,rfl,P2.2.2.2⟩,?_⟩;unfold Ab;rw[bh e0,i8,Cs];exact h2
theorem We(M:List (List Int)):bL (cS M)=Γ:=eu.mpr λd hd=>by
 obtain⟨l,_,rfl⟩:=af4.mp hd;unfold noRef;refine eu.mpr λd hd=>?_
 obtain⟨i,_,rfl⟩:=af4.mp hd;rfl
theorem Xr(M N:List (List Int)):cS (M++N)=cS M++cS N:=by simp[cS]
theorem IE(M:List (List Int)):(cS M).length=M.length:=by simp[cS]
theorem aaU{c:aa}{xs ys:List D}{e:Ev}{dc:af}{i:Nat}(hi:e[i]? = ζ (ζ (.ref c.length))) (hc:dc e (c++[.lst xs])=.ok (.lst ys) (c++[.lst xs])) (hl:xs.length+ys.length<=100000) (nr:bL ys=Γ) :
  dQ (ee (ak i) dc) e (c++[.lst xs])=.ok (.nx e) (c++[.lst (xs++ys)]):=by
 have hs:100000<=ε:=by decide
 have hg:(c++[Cell.lst xs])[c.length]? = ζ (.lst xs):=by simp
 have Zv:(c++[Cell.lst xs]).set c.length (.lst (xs++ys))=c++[.lst (xs++ys)]:=by simp
 have:ee (ak i) dc e (c++[.lst xs])=.ok .aI (c++[.lst (xs++ys)]):=by
  unfold ee;simp only[bE,hi,R.az,hc];rw[hg];dsimp only;rw[if_pos ⟨by omega,nr⟩,Zv]
 rw[vY,this];rfl
def nO:af:=(bg (gi (ao (ay bf (ak 9) (dC (.int 1))) (ao (ak 7) aq))) [η,ζ 9] (aA 0) aT (bT (ao (ak 1) (ao (ak 0) aq))))
theorem FI{a:Nat}{c:aa}:∀(ks:List Nat) (v:Option D) (acc:List D),bJ (λ_=>True) (aA 0) aT (bT (ao (ak 1) (ao (ak 0) aq))) (ks.map λk:Nat=>.int (k:Int)) [v,ζ (.int (a:Int))] acc c=.ok (acc++cS (ks.map λk:Nat=>[(a:Int),(k:Int)])) c
 |[],v,acc=>by simp[cS]
 |k::ks,v,acc=>by
  have h2:(2:Nat)<=ε:=cW (by decide)
  have h1:aA 0 (.int (k:Int)) [v,ζ (.int (a:Int))] c=.ok [ζ (.int (k:Int)),ζ (.int (a:Int))] c:=rfl;have hE:(bT (ao (ak 1) (ao (ak 0) aq))) [ζ (.int (k:Int)),ζ (.int (a:Int))] c=.ok (.lst ([(a:Int),(k:Int)].map D.int)) c:=by
   simp only[mE,bD,bE,gz,gs,bG,R.az,af1,agd];rw[if_pos h2];rfl
  rw[af8,iu,h1,R.az,nM,R.az,if_pos rfl,hE,R.az,FI ks,agx];rfl
theorem NB{q a:Int}{a0 a1 a2 a3 a4 a5 a6 a8 aL aS aQ:Option D}{c:aa}{l:List D}(ba:-4611686018427387904<=a+1/\a+1<4611686018427387904) (b:-4611686018427387904<=q/\q<4611686018427387904) (hl:(aM (a+1) q).length<ε) (h:bJ (λ_=>True) (aA 0) aT (bT (ao (ak 1) (ao (ak 0) aq))) (aM (a+1) q) [η,ζ (.int a)] [] c=.ok l c) :
  nO [a0,a1,a2,a3,a4,a5,a6,ζ (.int q),a8,ζ (.int a),aL,aS,aQ] c=.ok (.lst l) c:=by
 unfold nO;simp only[dB,nN,bD,cH,bE,fh,gz,gs,bG,R.az,i9];rw[if_pos ⟨by omega,by omega,by omega,by omega⟩]
 simp only[R.az];rw[if_pos hl];have:cR [η,ζ 9] [a0,a1,a2,a3,a4,a5,a6,ζ (D.int q),a8,ζ (.int a),aL,aS,aQ]=[η,ζ (.int a)]:=rfl;rw[this,h];rfl
theorem NC{t:Nat}(ht:2<=t) (ht':t<=5) {a0 a1 a2 a3 a4 a5 a6 aL aS aQ:Option D}(c:aa):∃(M:List (List Int)) (v:Option D),1<=M.length/\M.length<=25/\(∀l∈M,l.length<1000) /\
  cu (λ_=>True) (aA 9) (dQ (ee (ak 8) nO)) (aM 0 (t:Int)) [a0,a1,a2,a3,a4,a5,a6,ζ (.int (t:Int)),ζ (.ref c.length),η,aL,aS,aQ] (c++[.lst []])=.ok (.nx [a0,a1,a2,a3,a4,a5,a6,ζ (.int (t:Int)),ζ (.ref c.length),v,aL,aS,aQ]) (c++[.lst (cS M)]):=by
 have hs:=cW (n:=1000) (by decide)
 have hlen:(aM 0 (t:Int)).length=t:=by rw[dG];omega
 obtain⟨e',c',⟨M,v,rfl,rfl,h1,h2,h3⟩,hf⟩:=pF (g:=aA 9) (s:=dQ (ee (ak 8) nO)) (λk e c'=>∃(M:List (List Int)) (v:Option D),e=[a0,a1,a2,a3,a4,a5,a6,ζ (.int (t:Int)),ζ (.ref c.length),v,aL,aS,aQ]/\c'=c++[.lst (cS M)]/\(1<=k->1<=M.length)/\M.length<=k*t/\(∀l∈M,l.length<1000))
  (aM 0 (t:Int)) 0 [a0,a1,a2,a3,a4,a5,a6,ζ (.int (t:Int)),ζ (.ref c.length),η,aL,aS,aQ] (c++[.lst []]) ⟨[],η,rfl,rfl,λh=>absurd h (by omega),by simp,λl hl=>(by cases hl)⟩ (λi x hx e c' ⟨M,v,he,hc,g1,g2,g3⟩=>by
   subst he;subst hc;have hi:=(af6.mp hx).1;obtain⟨hlt,rfl⟩:=kL hx;rw[ahu];rw[agr]at g1 g2 ⊢;rw[hlen]at hi;have hb:i*t<=5*5:=ahh (by omega) ht'
   have hC:=FI (a:=i) (c:=c++[.lst (cS M)]) (List.range' (i+1) (t-(i+1))) η [];rw[<-wK,af9]at hC;have Cr:=NB (a0:=a0) (a1:=a1) (a2:=a2) (a3:=a3) (a4:=a4) (a5:=a5) (a6:=a6) (a8:=ζ (.ref c.length)) (aL:=aL) (aS:=aS) (aQ:=aQ) (by omega) (by omega) (by rw[dG];omega) hC
   have hx:=aaU (i:=8) (e:=[a0,a1,a2,a3,a4,a5,a6,ζ (.int (t:Int)),ζ (.ref c.length),ζ (.int (i:Int)),aL,aS,aQ]) rfl Cr (by rw[IE,IE,af7,ahg];omega) (We _)
   rw[<-Xr]at hx;refine⟨_,_,_,_,rfl,hx,_,_,rfl,rfl,λ_=>?_,?_,λl hl=>?_⟩
   ·rw[ago,af7,ahg]
    rcases ajx i with q|q
    ·omega
    ·have:=g1 q;omega
   ·rw[ago,af7,ahg,ahp];omega
   ·rcases agm.mp hl with h|h
    ·exact g3 l h
    ·obtain⟨k,_,rfl⟩:=af4.mp h;simp)
 rw[hlen,agr]at h1 h2;have hb:t*t<=5*5:=ahh ht' ht';exact⟨M,v,h1 (by omega),by omega,h3,hf⟩
def Aa:ah:=aD (aE 7 (ay aK (bT (ao (dC (.int 2)) (ao (dC (.int 3)) (ao (dC (.int 4)) (ao (dC (.int 5)) aq))))) (aC 2 aN (ao (ak 0) (ao (dC (.int 4)) aq))))) (aD (aE 8 (fU aq)) (aD (b8 (bH (ao (ak 7) aq)) (aA 9) (dQ (ee (ak 8) nO))) (aD (aE 3 (aF eZ (ao (aF bF (ao (ak 8) aq)) (ao (ak 1) aq)))) (aE 4 (aC 2 kg (ao (ak 3) (ao (ak 8) aq)))))))
theorem NG{x t:Int}{j:Nat}{a1 a2 a3 a4 a5 a6 a7 a8 a9 aL aS aQ:Option D}{c c1:aa}(h:aN [.ref j,.int 4] c=.ok (.int x) c1) (ht:cM [D.int 2,.int 3,.int 4,.int 5] x=ζ (.int t)) :
  (aE 7 (ay aK (bT (ao (dC (.int 2)) (ao (dC (.int 3)) (ao (dC (.int 4)) (ao (dC (.int 5)) aq))))) (aC 2 aN (ao (ak 0) (ao (dC (.int 4)) aq))))) [ζ (.ref j),a1,a2,a3,a4,a5,a6,a7,a8,a9,aL,aS,aQ] c=.ok (.nx [ζ (.ref j),a1,a2,a3,a4,a5,a6,ζ (.int t),a8,a9,aL,aS,aQ]) c1:=by
 have h4:(4:Nat)<=ε:=cW (by decide)
 simp only[gr,cH,mE,bD,fh,bG,x_call,bE,gz,gs,R.az,af1,agd];rw[if_pos h4];simp only[R.az,if_pos,h,jr,ht];rfl
theorem ND{q:Int}{a0 a1 a2 a3 a4 a5 a6 a8 a9 v aL aS aQ:Option D}{c c':aa}(b:-4611686018427387904<=q/\q<4611686018427387904) (h:cu (λ_=>True) (aA 9) (dQ (ee (ak 8) nO)) (aM 0 q) [a0,a1,a2,a3,a4,a5,a6,ζ (.int q),a8,a9,aL,aS,aQ] c=.ok (.nx [a0,a1,a2,a3,a4,a5,a6,ζ (.int q),a8,v,aL,aS,aQ]) c') :
  (b8 (bH (ao (ak 7) aq)) (aA 9) (dQ (ee (ak 8) nO))) [a0,a1,a2,a3,a4,a5,a6,ζ (.int q),a8,a9,aL,aS,aQ] c=.ok (.nx [a0,a1,a2,a3,a4,a5,a6,ζ (.int q),a8,v,aL,aS,aQ]) c':=by
 simp only[i8,gv,bD,bE,gz,gs,bG,R.az];rw[if_pos (by omega)]
 exact h
theorem NF{most L q:Int}{k:Nat}{a0 a2 a3 a4 a5 a6 a7 a9 aL aS aQ:Option D}{c:aa}(hL:bF [.ref k] c=.ok (.int L) c) (hq:(if most<L then most else L)=q) :
  (aE 3 (aF eZ (ao (aF bF (ao (ak 8) aq)) (ao (ak 1) aq)))) [a0,ζ (.int most),a2,a3,a4,a5,a6,a7,ζ (.ref k),a9,aL,aS,aQ] c=.ok (.nx [a0,ζ (.int most),a2,ζ (.int q),a4,a5,a6,a7,ζ (.ref k),a9,aL,aS,aQ]) c:=by
 simp only[gr,gZ,bD,bE,gz,gs,bG,R.az,hL,tX,hq];rfl
theorem FJ{q:Int}{X W:D}{a0 a1 a2 a4 a5 a6 a7 a9 aL aS aQ:Option D}{c:aa}(h:kg [.int q,X] c=.ok W c) :
  (aE 4 (aC 2 kg (ao (ak 3) (ao (ak 8) aq)))) [a0,a1,a2,ζ (.int q),a4,a5,a6,a7,ζ X,a9,aL,aS,aQ] c=.ok (.nx [a0,a1,a2,ζ (.int q),ζ W,a5,a6,a7,ζ X,a9,aL,aS,aQ]) c:=by
 simp only[gr,x_call,bD,bE,gz,gs,bG,R.az,af1,agd,if_pos,h];rfl
theorem PW.RO{j n:Nat}{ps:List (Nat×Nat)}{c:aa}(h:PW j n ps c) (Rc:aa):eS j n ((c++Rc).take n):=by
 have:=h.rE
 rwa[List.take_append_of_le_length (by have:=h.1;omega)]
theorem Nd{j n:Nat}{most:Int}{c:aa}{a2 a3:Option D}(h0:0<most) (h6:most<60) (hP:PW j n [] c):jm j n most Aa [ζ (.ref j),ζ (.int most),a2,a3,ζ (.ref n),η,η,η,η,η,η,η,η] c:=by
 obtain⟨x,c1,x0,x1,P1,t1⟩:=hP.take (bR:=4) (by decide) (by decide)
 have hx:∃t:Nat,2<=t/\t<=5/\cM [D.int 2,.int 3,.int 4,.int 5] x=ζ (.int (t:Int)):=by
  have:x=0\/x=1\/x=2\/x=3:=by omega
  rcases this with rfl|rfl|rfl|rfl
  ·exact⟨2,by decide,by decide,rfl⟩
  ·exact⟨3,by decide,by decide,rfl⟩
  ·exact⟨4,by decide,by decide,rfl⟩
  ·exact⟨5,by decide,by decide,rfl⟩
 obtain⟨t,ht,ht',hx⟩:=hx;have e0:=NG (a1:=ζ (.int most)) (a2:=a2) (a3:=a3) (a4:=ζ (.ref n)) (a5:=η) (a6:=η) (a7:=η) (a8:=η) (a9:=η) (aL:=η) (aS:=η) (aQ:=η) t1 hx;have e1:(aE 8 (fU aq)) [ζ (.ref j),ζ (.int most),a2,a3,ζ (.ref n),η,η,ζ (.int (t:Int)),η,η,η,η,η] c1=.ok (.nx [ζ (.ref j),ζ (.int most),a2,a3,ζ (.ref n),η,η,ζ (.int (t:Int)),ζ (.ref c1.length),η,η,η,η]) (c1++[.lst []]):=by
  generalize (t:Int)=q
  simp
 obtain⟨M,v,M1,M2,M3,hf⟩:=NC ht ht' (a0:=ζ (.ref j)) (a1:=ζ (.int most)) (a2:=a2) (a3:=a3) (a4:=ζ (.ref n)) (a5:=η) (a6:=η) (aL:=η) (aS:=η) (aQ:=η) c1;have e2:=ND (by omega) hf
 have hL:bF [.ref c1.length] (c1++[.lst (cS M)])=.ok (.int (M.length:Int)) (c1++[.lst (cS M)]):=by
  unfold bF;simp[fO,cS]
 obtain⟨m,hm⟩:=ig (i:=if most<(M.length:Int)then most else(M.length:Int)) (by split<;>omega)
 have hm1:1<=m/\(m:Int)<=most/\m<=M.length:=by split at hm<;>omega
 have e3:=NF (a0:=ζ (.ref j)) (a2:=a2) (a3:=a3) (a4:=ζ (.ref n)) (a5:=η) (a6:=η) (a7:=ζ (.int (t:Int))) (a9:=v) (aL:=η) (aS:=η) (aQ:=η) hL hm;obtain⟨ps,hp,hnr⟩:=HZ (X:=.ref c1.length) (M:=M) (m:=m) (c:=c1++[.lst (cS M)]) (by simp[dW]) hm1.2.2 M3 (by omega)
 have e4:=FJ (a0:=ζ (.ref j)) (a1:=ζ (.int most)) (a2:=a2) (a4:=ζ (.ref n)) (a5:=η) (a6:=η) (a7:=ζ (.int (t:Int))) (a9:=v) (aL:=η) (aS:=η) (aQ:=η) hnr;refine⟨m,ps,.lst (ps.map bx),c1++[.lst (cS M)],[ζ (.ref j),ζ (.int most),a2,ζ (.int (m:Int)),ζ (.lst (ps.map bx)),η,η,ζ (.int (t:Int)),ζ (.ref c1.length),v,η,η,η],hm1.1,hm1.2.1,hp,P1.RO _,rfl,rfl,.inr rfl,?_⟩;unfold Aa;rw[bh e0,bh e1,bh e2,bh e3,e4]
theorem IF{E:List (Option D)}{a:af}{m:Nat}{c:aa}(G:Nat->List Int) (h:∀k:Nat,k<m->a (ζ (.int (k:Int))::E) c=.ok (.lst ((G k).map D.int)) c):bJ (λ_=>True) (aA 0) aT a (aM 0 (m:Int)) (η::E) [] c=.ok (cS ((ι m).map G)) c:=by
 have:=pJ (c:=c) (g:=aA 0) (t:=aT) (a:=a) (λe=>∃v,e=v::E) (λ_=>Γ) (λd=>match d with|.int k=>.lst ((G k.toNat).map D.int)|d=>d) (aM 0 (m:Int)) (η::E) [] ⟨_,rfl⟩ (λd hd e ⟨v,he⟩=>by
  subst he;obtain⟨k',rfl,k0,k1⟩:=oN hd;obtain⟨k,rfl⟩:=ig k0;exact⟨_,rfl,⟨_,rfl⟩,rfl,λ_=>h k (by omega)⟩)
 rw[this,af9,yi,wM]
 congr 1
 unfold cS;rw[agl];rfl
theorem Nv{w:Int}(h1:0<w) (h2:w<100) (k:Int) (c:aa):(bT (ao (ay eN (ak 0) (ak 1)) aq)) [ζ (.int k),ζ (.int w)] c=.ok (.lst ([k/w].map D.int)) c:=by
 have hl:(1:Nat)<=ε:=cW (by decide)
 have hd:eN (.int k) (.int w) c=.ok (.int (k/w)) c:=sj c h1 (by omega)
 simp only[mE,bD,cH,bE,gz,gs,bG,R.az,hd,af1,agd];rw[if_pos hl];rfl
theorem Nu{w:Int}(h1:0<w) (h2:w<100) (k:Int) (c:aa):(bT (ao (ay eN (ak 0) (ak 1)) (ao (ay bf (dC (.int 10)) (ay cI (ak 0) (ak 1))) aq))) [ζ (.int k),ζ (.int w)] c=.ok (.lst ([k/w,10+k % w].map D.int)) c:=by
 have hl:(2:Nat)<=ε:=cW (by decide)
 have hd:eN (.int k) (.int w) c=.ok (.int (k/w)) c:=sj c h1 (by omega)
 have hm:cI (.int k) (.int w) c=.ok (.int (k % w)) c:=mX c h1;simp only[mE,bD,cH,bE,fh,gz,gs,bG,R.az,hd,hm,i9,af1,agd];rw[if_pos hl];rfl
def z9:ah:=aD (aE 10 (ay bf (dC (.int 1)) (aC 2 aN (ao (ak 0) (ao (aF eZ (ao (dC (.int 4)) (ao (ak 1) aq))) aq))))) (aD (aE 11 (ay bf (dC (.int 1)) (aC 2 aN (ao (ak 0) (ao (aF eZ (ao (dC (.int 4)) (ao (ay eN (ak 1) (ak 10)) aq))) aq))))) (aD (aE 3 (ay dU (ak 10) (ak 11))) (aD (aE 8 (bg (bH (ao (ak 3) aq)) [η,ζ 11] (aA 0) aT (bT (ao (ay eN (ak 0) (ak 1)) aq)))) (aD (bB (aO (ay cT (ak 2) (dC (.int 2)))) (aE 8 (bg (bH (ao (ak 3) aq)) [η,ζ 11] (aA 0) aT (bT (ao (ay eN (ak 0) (ak 1)) (ao (ay bf (dC (.int 10)) (ay cI (ak 0) (ak 1))) aq))))) bN) (aE 4 (aC 2 kg (ao (ak 3) (ao (ak 8) aq))))))))
theorem Nz{most f x:Int}{j:Nat}{a2 a3 a4 a5 a6 a7 a8 a9 aL aS aQ:Option D}{c c1:aa}(hf:(if most<4 then most else 4)=f) (h:aN [.ref j,.int f] c=.ok (.int x) c1) :
  (aE 10 (ay bf (dC (.int 1)) (aC 2 aN (ao (ak 0) (ao (aF eZ (ao (dC (.int 4)) (ao (ak 1) aq))) aq))))) [ζ (.ref j),ζ (.int most),a2,a3,a4,a5,a6,a7,a8,a9,aL,aS,aQ] c=.ok (.nx [ζ (.ref j),ζ (.int most),a2,a3,a4,a5,a6,a7,a8,a9,ζ (.int (1+x)),aS,aQ]) c1:=by
 simp only[gr,cH,fh,x_call,gZ,bD,bE,gz,gs,bG,R.az,tX,hf,af1,agd,if_pos,h,i9];rfl
theorem Nx{most hi r f x:Int}{j:Nat}{a2 a3 a4 a5 a6 a7 a8 a9 aS aQ:Option D}{c c1:aa}(hr:eN (.int most) (.int hi) c=.ok (.int r) c) (hf:(if r<4 then r else 4)=f) (h:aN [.ref j,.int f] c=.ok (.int x) c1) :
  (aE 11 (ay bf (dC (.int 1)) (aC 2 aN (ao (ak 0) (ao (aF eZ (ao (dC (.int 4)) (ao (ay eN (ak 1) (ak 10)) aq))) aq))))) [ζ (.ref j),ζ (.int most),a2,a3,a4,a5,a6,a7,a8,a9,ζ (.int hi),aS,aQ] c=.ok (.nx [ζ (.ref j),ζ (.int most),a2,a3,a4,a5,a6,a7,a8,a9,ζ (.int hi),ζ (.int (1+x)),aQ]) c1:=by
 simp only[gr,cH,fh,x_call,gZ,bD,bE,gz,gs,bG,R.az,hr,tX,hf,af1,agd,if_pos,h,i9];rfl
theorem Ny{hi w q:Int}{a0 a1 a2 a3 a4 a5 a6 a7 a8 a9 aQ:Option D}{c:aa}(h:dU (.int hi) (.int w) c=.ok (.int q) c) :
  (aE 3 (ay dU (ak 10) (ak 11))) [a0,a1,a2,a3,a4,a5,a6,a7,a8,a9,ζ (.int hi),ζ (.int w),aQ] c=.ok (.nx [a0,a1,a2,ζ (.int q),a4,a5,a6,a7,a8,a9,ζ (.int hi),ζ (.int w),aQ]) c:=by
 simp only[gr,cH,bE,gz,gs,R.az,h];rfl
theorem FH{q w:Int}{a:af}{l:List D}{a0 a1 a2 a4 a5 a6 a7 a8 a9 aL aQ:Option D}{c:aa}(b:-4611686018427387904<=q/\q<4611686018427387904) (hl:(aM 0 q).length<ε) (h:bJ (λ_=>True) (aA 0) aT a (aM 0 q) [η,ζ (.int w)] [] c=.ok l c) :
  (aE 8 (bg (bH (ao (ak 3) aq)) [η,ζ 11] (aA 0) aT a)) [a0,a1,a2,ζ (.int q),a4,a5,a6,a7,a8,a9,aL,ζ (.int w),aQ] c=.ok (.nx [a0,a1,a2,ζ (.int q),a4,a5,a6,a7,ζ (.lst l),a9,aL,ζ (.int w),aQ]) c:=by
 simp only[gr,dB,gv,bD,bE,gz,gs,bG,R.az];rw[if_pos (by omega)]
 simp only[R.az];rw[if_pos hl];have:cR [η,ζ 11] [a0,a1,a2,ζ (D.int q),a4,a5,a6,a7,a8,a9,aL,ζ (.int w),aQ]=[η,ζ (.int w)]:=rfl;rw[this,h];rfl
theorem FG{y:Int}{a0 a1 a3 a4 a5 a6 a7 a8 a9 aL aS aQ:Option D}{c:aa}:(aO (ay cT (ak 2) (dC (.int 2)))) [a0,a1,ζ (.int y),a3,a4,a5,a6,a7,a8,a9,aL,aS,aQ] c=.ok (decide (y=2)) c:=by
 simp only[ek,cH,bE,gz,gs,fh,R.az,Ft]
theorem FA{j n:Nat}{most y:Int}{c:aa}{a3:Option D}(h0:0<most) (h6:most<60) (hP:PW j n [] c):jm j n most z9 [ζ (.ref j),ζ (.int most),ζ (.int y),a3,ζ (.ref n),η,η,η,η,η,η,η,η] c:=by
 have hs:=cW (n:=1000) (by decide)
 obtain⟨f,hf⟩:∃f:Int,(if most<4 then most else 4)=f:=⟨_,rfl⟩
 have hf':0<f/\f<=4/\f<=most:=by split at hf<;>omega
 obtain⟨x,c1,x0,x1,P1,t1⟩:=hP.take (bR:=f) hf'.1 (by omega)
 have e0:=Nz (a2:=ζ (.int y)) (a3:=a3) (a4:=ζ (.ref n)) (a5:=η) (a6:=η) (a7:=η) (a8:=η) (a9:=η) (aL:=η) (aS:=η) (aQ:=η) hf t1;obtain⟨hi,hhi⟩:=ig (i:=1+x) (by omega)
 rw[hhi]at e0;have hr:eN (.int most) (.int (hi:Int)) c1=.ok (.int (most/(hi:Int))) c1:=sj c1 (by omega) (by omega)
 obtain⟨r,hr'⟩:∃r:Int,most/(hi:Int)=r:=⟨_,rfl⟩;have hr1:0<r:=by
  have:=Int.le_ediv_of_mul_le (a:=1) (b:=most) (c:=(hi:Int)) (by omega) (by omega)
  omega
 have hr2:(hi:Int)*r<=most:=by
  rw[<-hr'];exact Int.mul_ediv_self_le (by omega)
 rw[hr']at hr;obtain⟨g,hg⟩:∃g:Int,(if r<4 then r else 4)=g:=⟨_,rfl⟩
 have hg':0<g/\g<=4/\g<=r:=by split at hg<;>omega
 obtain⟨z,c2,z0,z1,P2,t2⟩:=P1.take (bR:=g) hg'.1 (by omega)
 have e1:=Nx (a2:=ζ (.int y)) (a3:=a3) (a4:=ζ (.ref n)) (a5:=η) (a6:=η) (a7:=η) (a8:=η) (a9:=η) (aS:=η) (aQ:=η) hr hg t2;obtain⟨w,hw⟩:=ig (i:=1+z) (by omega)
 rw[hw]at e1;have hm0:((hi*w:Nat):Int)=(hi:Int)*(w:Int):=by simp
 have hmul:dU (.int (hi:Int)) (.int (w:Int)) c2=.ok (.int ((hi*w:Nat):Int)) c2:=by rw[hm0];exact A1 c2 (by omega) (by omega)
 have hm1:(hi:Int)*(w:Int)<=most:=Int.le_trans (Int.mul_le_mul_of_nonneg_left (by omega) (by omega)) hr2
 rw[<-hm0]at hm1;have hm2:1<=hi*w:=Nat.mul_pos (by omega) (by omega)
 clear hm0
 generalize hi*w=m at *
 have e2:=Ny (a0:=ζ (.ref j)) (a1:=ζ (.int most)) (a2:=ζ (.int y)) (a3:=a3) (a4:=ζ (.ref n)) (a5:=η) (a6:=η) (a7:=η) (a8:=η) (a9:=η) (aQ:=η) hmul;have hA:=IF (E:=[ζ (.int (w:Int))]) (m:=m) (c:=c2) (λk:Nat=>[(k:Int)/(w:Int)]) (λk _=>Nv (w:=(w:Int)) (by omega) (by omega) (k:Int) c2)
 have hB:=IF (E:=[ζ (.int (w:Int))]) (m:=m) (c:=c2) (λk:Nat=>[(k:Int)/(w:Int),10+(k:Int) % (w:Int)]) (λk _=>Nu (w:=(w:Int)) (by omega) (by omega) (k:Int) c2)
 have e3:=FH (a0:=ζ (.ref j)) (a1:=ζ (.int most)) (a2:=ζ (.int y)) (a4:=ζ (.ref n)) (a5:=η) (a6:=η) (a7:=η) (a8:=η) (a9:=η) (aL:=ζ (.int (hi:Int))) (aQ:=η) (by omega) (by rw[dG];omega) hA
 have e4:∃M:List (List Int),M.length=m/\(∀l∈M,l.length<1000)/\(bB (aO (ay cT (ak 2) (dC (.int 2)))) (aE 8 (bg (bH (ao (ak 3) aq)) [η,ζ 11] (aA 0) aT (bT (ao (ay eN (ak 0) (ak 1)) (ao (ay bf (dC (.int 10)) (ay cI (ak 0) (ak 1))) aq))))) bN) [ζ (.ref j),ζ (.int most),ζ (.int y),ζ (.int (m:Int)),ζ (.ref n),η,η,η,ζ (.lst (cS ((ι m).map λk:Nat=>[(k:Int)/(w:Int)]))),η,ζ (.int (hi:Int)),ζ (.int (w:Int)),η] c2=.ok (.nx [ζ (.ref j),ζ (.int most),ζ (.int y),ζ (.int (m:Int)),ζ (.ref n),η,η,η,ζ (.lst (cS M)),η,ζ (.int (hi:Int)),ζ (.int (w:Int)),η]) c2:=by
  by_cases hy:y=2
  ·refine⟨(ι m).map λk:Nat=>[(k:Int)/(w:Int),10+(k:Int) % (w:Int)],by simp,λl hl=>?_,?_⟩
   ·obtain⟨k,_,rfl⟩:=af4.mp hl;simp
   ·have hb:=FH (a0:=ζ (.ref j)) (a1:=ζ (.int most)) (a2:=ζ (.int y)) (a4:=ζ (.ref n)) (a5:=η) (a6:=η) (a7:=η) (a8:=ζ (.lst (cS ((ι m).map λk:Nat=>[(k:Int)/(w:Int)])))) (a9:=η) (aL:=ζ (.int (hi:Int))) (aQ:=η) (by omega) (by rw[dG];omega) hB
    rw[eF,FG,R.az,if_pos (decide_eq_true hy)];exact hb
  ·refine⟨(ι m).map λk:Nat=>[(k:Int)/(w:Int)],by simp,λl hl=>?_,?_⟩
   ·obtain⟨k,_,rfl⟩:=af4.mp hl;simp
   ·rw[eF,FG,R.az,if_neg (by simpa using hy)]
    rfl
 obtain⟨M,hM,M3,e4⟩:=e4;obtain⟨ps,hp,hnr⟩:=HZ (X:=.lst (cS M)) (M:=M) (m:=m) (c:=c2) rfl (by omega) M3 (by omega)
 have e5:=FJ (a0:=ζ (.ref j)) (a1:=ζ (.int most)) (a2:=ζ (.int y)) (a4:=ζ (.ref n)) (a5:=η) (a6:=η) (a7:=η) (a9:=η) (aL:=ζ (.int (hi:Int))) (aS:=ζ (.int (w:Int))) (aQ:=η) hnr;refine⟨m,ps,.lst (ps.map bx),c2,[ζ (.ref j),ζ (.int most),ζ (.int y),ζ (.int (m:Int)),ζ (.lst (ps.map bx)),η,η,η,ζ (.lst (cS M)),η,ζ (.int (hi:Int)),ζ (.int (w:Int)),η],hm2,by omega,hp,P2.rE,rfl,rfl,.inr rfl,?_⟩
 unfold z9;rw[bh e0,bh e1,bh e2,bh e3,bh e4,e5]
def z8:ah:=aD (aE 3 (aF eZ (ao (ak 1) (ao (ay aK (bT (ao (dC (.int 5)) (ao (dC (.int 13)) aq))) (aC 2 aN (ao (ak 0) (ao (dC (.int 2)) aq)))) aq)))) (aD (aE 12 (bg (gi (ao (dC (.int 1)) (ao (ak 3) aq))) [η,ζ 3] (aA 0) aT (ay cI (ay dU (ak 0) (ak 0)) (ak 1)))) (b8 (bH (ao (ak 3) aq)) (aA 9) (dQ (ee (ak 4) wc))))
theorem Nt{most x f q:Int}{j:Nat}{a2 a3 a4 a5 a6 a7 a8 a9 aL aS aQ:Option D}{c c1:aa}(h:aN [.ref j,.int 2] c=.ok (.int x) c1) (hx:cM [D.int 5,.int 13] x=ζ (.int f)) (hq:(if f<most then f else most)=q) :
  (aE 3 (aF eZ (ao (ak 1) (ao (ay aK (bT (ao (dC (.int 5)) (ao (dC (.int 13)) aq))) (aC 2 aN (ao (ak 0) (ao (dC (.int 2)) aq)))) aq)))) [ζ (.ref j),ζ (.int most),a2,a3,a4,a5,a6,a7,a8,a9,aL,aS,aQ] c=.ok (.nx [ζ (.ref j),ζ (.int most),a2,ζ (.int q),a4,a5,a6,a7,a8,a9,aL,aS,aQ]) c1:=by
 have h2:(2:Nat)<=ε:=cW (by decide)
 simp only[gr,gZ,cH,mE,bD,fh,bG,x_call,bE,gz,gs,R.az,af1,agd];rw[if_pos h2];simp only[R.az,if_pos,h,jr,hx,tX,hq];rfl
theorem Gu{q:Int}(h0:0<q) (c:aa):∀(l:List Int) (v:Option D) (acc:List D),(∀x∈l,-1000<x/\x<1000)->bJ (λ_=>True) (aA 0) aT (ay cI (ay dU (ak 0) (ak 0)) (ak 1)) (l.map D.int) [v,ζ (.int q)] acc c=.ok (acc++(l.map λx=>x*x % q).map D.int) c
 |[],v,acc,_=>by simp
 |x::l,v,acc,hb=>by
  have hx:=hb x (.head _);have h1:aA 0 (.int x) [v,ζ (.int q)] c=.ok [ζ (.int x),ζ (.int q)] c:=rfl;have h2:dU (.int x) (.int x) c=.ok (.int (x*x)) c:=A1 c (by omega) (by omega)
  have h3:cI (.int (x*x)) (.int q) c=.ok (.int (x*x % q)) c:=mX c h0;have hE:(ay cI (ay dU (ak 0) (ak 0)) (ak 1)) [ζ (.int x),ζ (.int q)] c=.ok (.int (x*x % q)) c:=by
   simp only[cH,bE,gz,gs,R.az,h2,h3]
  rw[af8,iu,h1,R.az,nM,R.az,if_pos rfl,hE,R.az,Gu h0 c l _ _ (λz hz=>hb z (.tail _ hz)),agx]
  rfl
theorem Nr{q:Int}{l:List D}{a0 a1 a2 a4 a5 a6 a7 a8 a9 aL aS aQ:Option D}{c:aa}(b:-4611686018427387904<=q/\q<4611686018427387904) (hl:(aM 1 q).length<ε) (h:bJ (λ_=>True) (aA 0) aT (ay cI (ay dU (ak 0) (ak 0)) (ak 1)) (aM 1 q) [η,ζ (.int q)] [] c=.ok l c) :
  (aE 12 (bg (gi (ao (dC (.int 1)) (ao (ak 3) aq))) [η,ζ 3] (aA 0) aT (ay cI (ay dU (ak 0) (ak 0)) (ak 1)))) [a0,a1,a2,ζ (.int q),a4,a5,a6,a7,a8,a9,aL,aS,aQ] c=.ok (.nx [a0,a1,a2,ζ (.int q),a4,a5,a6,a7,a8,a9,aL,aS,ζ (.lst l)]) c:=by
 simp only[gr,dB,nN,bD,fh,bE,gz,gs,bG,R.az];rw[if_pos ⟨by omega,by omega,by omega,by omega⟩]
 simp only[R.az];rw[if_pos hl];have:cR [η,ζ 3] [a0,a1,a2,ζ (D.int q),a4,a5,a6,a7,a8,a9,aL,aS,aQ]=[η,ζ (.int q)]:=rfl;rw[this,h];rfl
theorem IJ{q:Int}{B:ah}{a0 a1 a2 a4 a5 a6 a7 a8 a9 aL aS aQ:Option D}{F:Fl}{c c':aa}(b:-4611686018427387904<=q/\q<4611686018427387904) (h:cu (λ_=>True) (aA 9) B (aM 0 q) [a0,a1,a2,ζ (.int q),a4,a5,a6,a7,a8,a9,aL,aS,aQ] c=.ok F c') :
  (b8 (bH (ao (ak 3) aq)) (aA 9) B) [a0,a1,a2,ζ (.int q),a4,a5,a6,a7,a8,a9,aL,aS,aQ] c=.ok F c':=by
 simp only[i8,gv,bD,bE,gz,gs,bG,R.az];rw[if_pos (by omega)]
 exact h
theorem QJ(lo hi:Int):aM lo hi=((ι (hi-lo).toNat).map λk:Nat=>lo+(k:Int)).map D.int:=by
 unfold aM;rw[agl];rfl
theorem Nc{j n:Nat}{most:Int}{c:aa}{a2 a3:Option D}(h0:0<most) (h6:most<60) (hP:PW j n [] c):jm j n most z8 [ζ (.ref j),ζ (.int most),a2,a3,ζ (.ref n),η,η,η,η,η,η,η,η] c:=by
 have hs:=cW (n:=1000) (by decide)
 obtain⟨x,c1,x0,x1,P1,t1⟩:=hP.take (bR:=2) (by decide) (by decide)
 have hx:∃f:Int,0<f/\f<=13/\cM [D.int 5,.int 13] x=ζ (.int f):=by
  have:x=0\/x=1:=by omega
  rcases this with rfl|rfl
  ·exact⟨5,by decide,by decide,rfl⟩
  ·exact⟨13,by decide,by decide,rfl⟩
 obtain⟨f,f0,f1,hx⟩:=hx;obtain⟨m,hm⟩:=ig (i:=if f<most then f else most) (by split<;>omega)
 have hm1:1<=m/\(m:Int)<=most/\m<64:=by split at hm<;>omega
 have e0:=Nt (a2:=a2) (a3:=a3) (a4:=ζ (.ref n)) (a5:=η) (a6:=η) (a7:=η) (a8:=η) (a9:=η) (aL:=η) (aS:=η) (aQ:=η) t1 hx hm;have hq:=Gu (q:=(m:Int)) (by omega) c1 ((ι ((m:Int)-1).toNat).map λk:Nat=>1+(k:Int)) η [] (λx hx=>by
  obtain⟨k,hk,rfl⟩:=af4.mp hx;have:=age.mp hk;omega)
 rw[<-QJ,af9]at hq;have e1:=Nr (a0:=ζ (.ref j)) (a1:=ζ (.int most)) (a2:=a2) (a4:=ζ (.ref n)) (a5:=η) (a6:=η) (a7:=η) (a8:=η) (a9:=η) (aL:=η) (aS:=η) (aQ:=η) (by omega) (by rw[dG];omega) hq
 generalize (((ι ((m:Int)-1).toNat).map λk:Nat=>1+(k:Int)).map λx=>x*x % (m:Int))=sq at e1
 obtain⟨ps,c2,v,P2,hp2,hpl,hf⟩:=Nq (j:=j) (n:=n) hm1.1 hm1.2.2 (a1:=ζ (.int most)) (a2:=a2) (a5:=η) (a6:=η) (a7:=η) (a8:=η) (aL:=η) (aS:=η) sq P1 η;have e2:=IJ (by omega) hf
 refine⟨m,ps,.ref n,c2,[ζ (.ref j),ζ (.int most),a2,ζ (.int (m:Int)),ζ (.ref n),η,η,η,η,v,η,η,ζ (.lst (sq.map D.int))],hm1.1,hm1.2.1,hp2,P2.rE,rfl,rfl,.inl ⟨n,rfl,P2.2.2.2⟩,?_⟩;unfold z8;rw[bh e0,bh e1,e2]
def qg:ai:=(aO (ay cT (ay vD (ak 0) (ak 1)) (ak 0)))
def z7:ah:=aD (aE 3 (aF eZ (ao (dC (.int 8)) (ao (ak 1) aq)))) (aD (b8 (bH (ao (ak 3) aq)) (aA 9) (dQ (ee (ak 4) vZ))) (aE 4 (bg (cV (ak 4)) [η,η] (e9 2 (cA (aA 0) (cA (aA 1) fq))) qg (aU (ao (ak 0) (ao (ak 1) aq))))))
theorem Nm{most q:Int}{a0 a2 a3 a4 a5 a6 a7 a8 a9 aL aS aQ:Option D}{c:aa}(hq:(if most<8 then most else 8)=q) :
  (aE 3 (aF eZ (ao (dC (.int 8)) (ao (ak 1) aq)))) [a0,ζ (.int most),a2,a3,a4,a5,a6,a7,a8,a9,aL,aS,aQ] c=.ok (.nx [a0,ζ (.int most),a2,ζ (.int q),a4,a5,a6,a7,a8,a9,aL,aS,aQ]) c:=by
 simp only[gr,gZ,bD,fh,bE,gz,gs,bG,R.az,tX,hq];rfl
theorem Nk(a b:Nat) (c:aa):∃x,qg [ζ (.int (a:Int)),ζ (.int (b:Int))] c=.ok x c :=
 ⟨decide (Builtin.bitAnd (a:Int) (b:Int)=(a:Int)),by
  have h:vD (.int (a:Int)) (.int (b:Int)) c=.ok (.int (Builtin.bitAnd (a:Int) (b:Int))) c:=rfl
  generalize Builtin.bitAnd (a:Int) (b:Int)=z at *
  unfold qg;simp only[ek,cH,bE,gz,gs,R.az,h,Ft]⟩
theorem Nl{n:Nat}{ds l:List D}{a0 a1 a2 a3 a5 a6 a7 a8 a9 aL aS aQ:Option D}{c:aa}(hn:c[n]? = ζ (.lst ds)) (hl:ds.length<ε) (h:bJ (λc'=>c'[n]? = ζ (.lst ds)) (e9 2 (cA (aA 0) (cA (aA 1) fq))) qg (aU (ao (ak 0) (ao (ak 1) aq))) ds [η,η] [] c=.ok l c) :
  (aE 4 (bg (cV (ak 4)) [η,η] (e9 2 (cA (aA 0) (cA (aA 1) fq))) qg (aU (ao (ak 0) (ao (ak 1) aq))))) [a0,a1,a2,a3,ζ (.ref n),a5,a6,a7,a8,a9,aL,aS,aQ] c=.ok (.nx [a0,a1,a2,a3,ζ (.lst l),a5,a6,a7,a8,a9,aL,aS,aQ]) c:=by
 rw[gr,dB];unfold cV;simp only[bE,gz,gs,R.az,hn];rw[if_pos hl];have:cR [η,η] [a0,a1,a2,a3,ζ (D.ref n),a5,a6,a7,a8,a9,aL,aS,aQ]=[η,η]:=rfl;rw[this,h];rfl
theorem Nb{j n:Nat}{most:Int}{c:aa}{a2 a3:Option D}(h0:0<most) (h6:most<60) (hP:PW j n [] c):jm j n most z7 [ζ (.ref j),ζ (.int most),a2,a3,ζ (.ref n),η,η,η,η,η,η,η,η] c:=by
 have hs:100000<ε:=by decide
 obtain⟨m,hm⟩:=ig (i:=if most<8 then most else 8) (by split<;>omega)
 have hm1:1<=m/\(m:Int)<=most/\m<64:=by split at hm<;>omega
 have e0:=Nm (a0:=ζ (.ref j)) (a2:=a2) (a3:=a3) (a4:=ζ (.ref n)) (a5:=η) (a6:=η) (a7:=η) (a8:=η) (a9:=η) (aL:=η) (aS:=η) (aQ:=η) (c:=c) hm;obtain⟨ps,c2,v,P2,hp2,hpl,hf⟩:=Nj (j:=j) (n:=n) hm1.2.2 (a1:=ζ (.int most)) (a2:=a2) (a5:=η) (a6:=η) (a7:=η) (a8:=η) (aL:=η) (aS:=η) (aQ:=η) hP η;have e1:=IJ (by omega) hf
 obtain⟨qs,hq,h2⟩:=ES (t:=qg) (m:=m) (c:=c2) (st:=λc'=>c'[n]? = ζ (.lst (ps.map bx))) P2.2.2.2 (λa b=>Nk a b c2) ps η η [] hp2
 rw[af9]at h2;have e2:=Nl (a0:=ζ (.ref j)) (a1:=ζ (.int most)) (a2:=a2) (a3:=ζ (.int (m:Int))) (a5:=η) (a6:=η) (a7:=η) (a8:=η) (a9:=v) (aL:=η) (aS:=η) (aQ:=η) P2.2.2.2 (by rw[af7];omega) h2
 refine⟨m,qs,.lst (qs.map bx),c2,[ζ (.ref j),ζ (.int most),a2,ζ (.int (m:Int)),ζ (.lst (qs.map bx)),η,η,η,η,v,η,η,η],hm1.1,hm1.2.1,hq,P2.rE,rfl,rfl,.inr rfl,?_⟩;unfold z7;rw[bh e0,bh e1,e2]
def wU:ah:=bB (aO (ay cT (ak 2) (dC (.int 0)))) Ab (bB (aO (ay cT (ak 2) (dC (.int 1)))) Aa (bB (aO (ay fE (ak 2) (dC (.int 4)))) z9 (bB (aO (ay cT (ak 2) (dC (.int 4)))) z8 z7)))
theorem Sx{j n m:Nat}{most y:Int}{c:aa}(y0:0<=y) (y1:y<6) (hm:1<=m) (hm':(m:Int)<=most) (h6:most<60) (hP:PW j n [] c):jm j n most wU [ζ (.ref j),ζ (.int most),ζ (.int y),ζ (.int (m:Int)),ζ (.ref n),η,η,η,η,η,η,η,η] c:=by
 have h0:0<most:=by omega
 unfold wU;have:y=0\/y=1\/y=2\/y=3\/y=4\/y=5:=by omega
 rcases this with rfl|rfl|rfl|rfl|rfl|rfl
 ·exact .yes rfl (Nf hm hm' h6 hP)
 ·exact .no rfl (.yes rfl (Nd h0 h6 hP))
 ·exact .no rfl (.no rfl (.yes rfl (FA h0 h6 hP)))
 ·exact .no rfl (.no rfl (.yes rfl (FA h0 h6 hP)))
 ·exact .no rfl (.no rfl (.no rfl (.yes rfl (Nc h0 h6 hP))))
 ·exact .no rfl (.no rfl (.no rfl (.no rfl (Nb h0 h6 hP))))
theorem Sy{j n:Nat}{most y x q:Int}{c c1 c2 c3 c4:aa}{E':Ev}{W X:D}(t1:aN [.ref j,.int 6] c=.ok (.int y) c1) (t2:aN [.ref j,.int most] c1=.ok (.int x) c2) (hn:c2.length=n)
  (hB:wU [ζ (.ref j),ζ (.int most),ζ (.int y),ζ (.int (1+x)),ζ (.ref n),η,η,η,η,η,η,η,η] (c2++[.lst []])=.ok (.nx E') c3) (h3:E'[3]? = ζ (ζ (.int q))) (h4:E'[4]? = ζ (ζ X)) (hw:jB [.int q,X] c3=.ok W c3) (hx:cY θ c.length W c3=.ok W c4):kZ [.ref j,.int most] c=.ok W c4:=by
 have hb':tw=aD (aE 2 (aC 2 aN (ao (ak 0) (ao (dC (.int 6)) aq)))) (aD (aE 3 (ay bf (dC (.int 1)) (aC 2 aN (ao (ak 0) (ao (ak 1) aq))))) (aD (aE 4 (fU aq)) (aD wU (aR (aC 2 jB (ao (ak 3) (ao (ak 4) aq))))))):=rfl;have e0:(aE 2 (aC 2 aN (ao (ak 0) (ao (dC (.int 6)) aq)))) [ζ (.ref j),ζ (.int most),η,η,η,η,η,η,η,η,η,η,η] c=.ok (.nx [ζ (.ref j),ζ (.int most),ζ (.int y),η,η,η,η,η,η,η,η,η,η]) c1:=by simp[t1]
 have e1:(aE 3 (ay bf (dC (.int 1)) (aC 2 aN (ao (ak 0) (ao (ak 1) aq))))) [ζ (.ref j),ζ (.int most),ζ (.int y),η,η,η,η,η,η,η,η,η,η] c1=.ok (.nx [ζ (.ref j),ζ (.int most),ζ (.int y),ζ (.int (1+x)),η,η,η,η,η,η,η,η,η]) c2:=by simp[t2]
 have e2:(aE 4 (fU aq)) [ζ (.ref j),ζ (.int most),ζ (.int y),ζ (.int (1+x)),η,η,η,η,η,η,η,η,η] c2=.ok (.nx [ζ (.ref j),ζ (.int most),ζ (.int y),ζ (.int (1+x)),ζ (.ref n),η,η,η,η,η,η,η,η]) (c2++[.lst []]):=by simp[hn]
 have e4:(aR (aC 2 jB (ao (ak 3) (ao (ak 4) aq)))) E' c3=.ok (.rt W) c3:=by
  simp only[kH,x_call,bD,bE,h3,h4,bG,R.az,af1,agd,if_pos,hw]
 rw[kZ,jt,hb'];have es:cg 13 [D.ref j,.int most]=[ζ (.ref j),ζ (.int most),η,η,η,η,η,η,η,η,η,η,η]:=rfl;rw[es,bh e0,bh e1,bh e2,bh hB,e4];exact hx
theorem Sv{j n:Nat}{c:aa}{most:Int}(hP:eS j n c) (h0:0<most) (h1:most<60):∃(m:Nat) (ps:List (Nat×Nat)) (c':aa),1<=m/\(m:Int)<=most/\cQ m ps/\eS j n c'/\kZ [.ref j,.int most] c=.ok (bw m (gI ps)) c':=by
 obtain⟨y,c1,y0,y1,P1,t1⟩:=fN (bR:=6) hP (by decide) (by decide)
 obtain⟨x,c2,x0,x1,P2,t2⟩:=fN P1 h0 (by omega)
 obtain⟨k,hk⟩:=ig (i:=1+x) (by omega)
 obtain⟨m,ps,X,c3,E',m1,m2,hp,P3,q3,q4,hX,hB⟩:=Sx (j:=j) (n:=n) (m:=k) y0 y1 (by omega) (by omega) h1 (PW.start P2)
 rw[<-hk]at hB;have hw:=Ja (m:=m) (X:=X) (c:=c3) hp.isIn (by omega) hX
 exact⟨m,ps,c3.take n,m1,m2,hp,P3,Sy t1 t2 P2.1 hB q3 q4 hw (by rw[hP.1];exact Dr m _ n c3)⟩
def kD(f:Nat->Nat->Bool):Prop:=(∀i,f i i=θ)/\∀i k,f i k=f k i
theorem YR{m:Nat}{ps:List (Nat×Nat)}(h:cQ m ps):kD (gI ps):=by
 refine⟨λi=>?_,λi k=>?_⟩
 ·unfold gI;rw[ai7];intro p hp;have:=(h p hp).2.2;simp only[ahr,af5,beq_iff_eq];omega
 ·unfold gI
  congr 1
  funext p
  rw[Bool.or_comm]
  congr 1<;>rw[Bool.and_comm]
theorem adV{f:Nat->Nat->Bool}(h:kD f):kD (jS f):=by
 refine⟨λi=>by simp[jS],λi k=>?_⟩
 unfold jS;rw[h.2 i k]
 congr 2
 exact decide_eq_decide.mpr ⟨Eq.symm,Eq.symm⟩
theorem Ob{f:Nat->Nat->Bool}(h:kD f) {a b:Nat}(hab:a≠b):kD (ue f a b):=by
 have e:∀i k,ue f a b i k=if(i=b/\k=a)\/(i=a/\k=b)then !f a b else f i k:=λi k=>by
  unfold ue;have e1:fB f a b (!f a b) b a=f a b:=by
   unfold fB;rw[if_neg (λz=>hab z.2),h.2 b a]
  rw[e1];unfold fB
  by_cases h1:i=b/\k=a
  ·rw[if_pos h1,if_pos (.inl h1)]
  ·rw[if_neg h1]
   by_cases h2:i=a/\k=b
   ·rw[if_pos h2,if_pos (.inr h2)]
   ·rw[if_neg h2,if_neg (λz=>z.elim h1 h2)]
 refine⟨λi=>?_,λi k=>?_⟩
 ·rw[e,if_neg (by omega),h.1 i]
 ·rw[e,e,h.2 i k]
  by_cases h1:(i=b/\k=a)\/(i=a/\k=b)
  ·rw[if_pos h1,if_pos (by omega)]
  ·rw[if_neg h1,if_neg (by omega)]
theorem W8{f:Nat->Nat->Bool}(h:kD f) {os:List Nat}{m:Nat}(hm:os.length=m):kD (fk os f m 0):=by
 have e:∀a b,fk os f m 0 a b=if os.idxOf a<m/\os.idxOf b<m then f (os.idxOf a) (os.idxOf b)else θ:=λa b=>by
  unfold fk;rw[hm]
  by_cases h1:os.idxOf a<m
  ·rw[if_pos (.inl h1)]
   by_cases h2:os.idxOf b<m
   ·rw[if_pos h2,if_pos ⟨h1,h2⟩]
   ·rw[if_neg h2,if_neg (λz=>h2 z.2)]
  ·rw[if_neg (by omega),if_neg (λz=>h1 z.1)]
 refine⟨λi=>?_,λi k=>?_⟩
 ·rw[e,h.1];simp
 ·rw[e,e,h.2]
  by_cases h1:os.idxOf i<m/\os.idxOf k<m
  ·rw[if_pos h1,if_pos ⟨h1.2,h1.1⟩]
  ·rw[if_neg h1,if_neg (λz=>h1 ⟨z.2,z.1⟩)]
theorem ac4{j:Nat}{x most:Int}{W:D}{a2 a3 a4:Option D}{c c1 c2:aa}(t:aN [.ref j,.int 5] c=.ok (.int x) c1) (hs:x<2->kY [.ref j,.int most] c1=.ok W c2) (hp:¬x<2->kZ [.ref j,.int most] c1=.ok W c2) :
  (bB (aO (ay fE (aC 2 aN (ao (ak 0) (ao (dC (.int 5)) aq))) (dC (.int 2)))) (aE 2 (aC 2 kY (ao (ak 0) (ao (ak 1) aq)))) (aE 2 (aC 2 kZ (ao (ak 0) (ao (ak 1) aq))))) [ζ (.ref j),ζ (.int most),a2,a3,a4] c=.ok (.nx [ζ (.ref j),ζ (.int most),ζ W,a3,a4]) c2:=by
 by_cases hx:x<2
 ·have:=hs hx;simp[t,hx,this]
 ·have:=hp hx;simp[t,hx,this]
theorem ac3{j:Nat}{x:Int}{T T':D}{a1 a3 a4:Option D}{c c1:aa}(t:aN [.ref j,.int 3] c=.ok (.int x) c1) (hs:x=0->k6 [T] c1=.ok T' c1) (hp:¬x=0->T'=T) :
  (bB (aO (ay cT (aC 2 aN (ao (ak 0) (ao (dC (.int 3)) aq))) (dC (.int 0)))) (aE 2 (aC 1 k6 (ao (ak 2) aq))) bN) [ζ (.ref j),a1,ζ T,a3,a4] c=.ok (.nx [ζ (.ref j),a1,ζ T',a3,a4]) c1:=by
 by_cases hx:x=0
 ·have:=hs hx;simp[t,hx,this]
 ·have:=hp hx;simp[t,hx,this]
theorem ac1{q:Int}{a0 a1 a2 a4:Option D}{c:aa}(h:¬q>1):(bB (ko (aO (ay pC (ak 3) (dC (.int 1)))) (aO (ay cT (aC 2 aN (ao (ak 0) (ao (dC (.int 4)) aq))) (dC (.int 0))))) (aD (aE 4 (aC 2 aN (ao (ak 0) (ao (ak 3) aq)))) (aE 2 (aC 3 kc (ao (ak 2) (ao (ak 4) (ao (ay cI (ay bf (ay bf (ak 4) (dC (.int 1))) (aC 2 aN (ao (ak 0) (ao (ay eV (ak 3) (dC (.int 1))) aq)))) (ak 3)) aq)))))) bN) [a0,a1,a2,ζ (.int q),a4] c=.ok (.nx [a0,a1,a2,ζ (.int q),a4]) c:=by
 simp[h]
theorem ac2{j:Nat}{q x:Int}{a1 a2 a4:Option D}{c c1:aa}(h:q>1) (t:aN [.ref j,.int 4] c=.ok (.int x) c1) (hx:¬x=0):(bB (ko (aO (ay pC (ak 3) (dC (.int 1)))) (aO (ay cT (aC 2 aN (ao (ak 0) (ao (dC (.int 4)) aq))) (dC (.int 0))))) (aD (aE 4 (aC 2 aN (ao (ak 0) (ao (ak 3) aq)))) (aE 2 (aC 3 kc (ao (ak 2) (ao (ak 4) (ao (ay cI (ay bf (ay bf (ak 4) (dC (.int 1))) (aC 2 aN (ao (ak 0) (ao (ay eV (ak 3) (dC (.int 1))) aq)))) (ak 3)) aq)))))) bN) [ζ (.ref j),a1,a2,ζ (.int q),a4] c=.ok (.nx [ζ (.ref j),a1,a2,ζ (.int q),a4]) c1:=by
 simp[h,t,hx]
theorem ac0{j:Nat}{q y z o:Int}{T T':D}{a1 a4:Option D}{c c1 c2 c3:aa}(h:q>1) (t:aN [.ref j,.int 4] c=.ok (.int 0) c1) (t2:aN [.ref j,.int q] c1=.ok (.int y) c2) (t3:aN [.ref j,.int (q-1)] c2=.ok (.int z) c3) (hm:cI (.int (y+1+z)) (.int q) c3=.ok (.int o) c3) (hg:kc [T,.int y,.int o] c3=.ok T' c3) :
  (bB (ko (aO (ay pC (ak 3) (dC (.int 1)))) (aO (ay cT (aC 2 aN (ao (ak 0) (ao (dC (.int 4)) aq))) (dC (.int 0))))) (aD (aE 4 (aC 2 aN (ao (ak 0) (ao (ak 3) aq)))) (aE 2 (aC 3 kc (ao (ak 2) (ao (ak 4) (ao (ay cI (ay bf (ay bf (ak 4) (dC (.int 1))) (aC 2 aN (ao (ak 0) (ao (ay eV (ak 3) (dC (.int 1))) aq)))) (ak 3)) aq)))))) bN) [ζ (.ref j),a1,ζ T,ζ (.int q),a4] c=.ok (.nx [ζ (.ref j),a1,ζ T',ζ (.int q),ζ (.int y)]) c3:=by
 simp[h,t,t2,t3,hm,hg]
theorem acZ{j:Nat}{q:Int}{T O W:D}{a1 a4:Option D}{c c1:aa}(t:mY [.ref j,.int q] c=.ok O c1) (hm:oU [T,O] c1=.ok W c1):(aR (aC 2 oU (ao (ak 2) (ao (aC 2 mY (ao (ak 0) (ao (ak 3) aq))) aq)))) [ζ (.ref j),a1,ζ T,ζ (.int q),a4] c=.ok (.rt W) c1:=by
 simp[t,hm]
theorem acY{j:Nat}{most:Int}{W:D}{E1 E2 E3 E4:Ev}{c c1 c2 c3 c4 c5:aa}{s0 s1 s2 s3 s4:ah}(e0:s0 [ζ (.ref j),ζ (.int most),η,η,η] c=.ok (.nx E1) c1) (e1:s1 E1 c1=.ok (.nx E2) c1) (e2:s2 E2 c1=.ok (.nx E3) c2) (e3:s3 E3 c2=.ok (.nx E4) c3) (e4:s4 E4 c3=.ok (.rt W) c4) (hx:cY θ c.length W c4=.ok W c5) :
  cy 5 θ (aD s0 (aD s1 (aD s2 (aD s3 s4)))) [.ref j,.int most] c=.ok W c5:=by
 rw[jt];have es:cg 5 [D.ref j,.int most]=[ζ (.ref j),ζ (.int most),η,η,η]:=rfl;rw[es,bh e0,bh e1,bh e2,bh e3,e4];exact hx
theorem acX{j n:Nat}{c:aa}{most:Int}(hP:eS j n c) (h0:0<most) (h6:most<60):∃(m:Nat) (f:Nat->Nat->Bool) (c':aa),1<=m/\(m:Int)<=most/\kD f/\eS j n c'/\rV [.ref j,.int most] c=.ok (bw m f) c':=by
 obtain⟨x,c1,x0,x1,P1,t1⟩:=fN (bR:=5) hP (by decide) (by decide)
 have hA:∃(m:Nat) (ps:List (Nat×Nat)) (c2:aa),1<=m/\(m:Int)<=most/\cQ m ps/\eS j n c2/\(x<2->kY [.ref j,.int most] c1=.ok (bw m (gI ps)) c2)/\(¬x<2->kZ [.ref j,.int most] c1=.ok (bw m (gI ps)) c2):=by
  by_cases hx:x<2
  ·obtain⟨m,ps,c2,g1,g2,g3,g4,g5⟩:=P9 P1 h0 h6;exact⟨m,ps,c2,g1,g2,g3,g4,λ_=>g5,λq=>absurd hx q⟩
  ·obtain⟨m,ps,c2,g1,g2,g3,g4,g5⟩:=Sv P1 h0 h6;exact⟨m,ps,c2,g1,g2,g3,g4,λq=>absurd q hx,λ_=>g5⟩
 obtain⟨m,ps,c2,g1,g2,g3,P2,g5,g6⟩:=hA;have W0:=YR g3;have e0:=ac4 (a2:=η) (a3:=η) (a4:=η) t1 g5 g6;clear g5 g6
 generalize gI ps=f at *
 have hl:=len_tab m f c2;have e1:(aE 3 (aF bF (ao (ak 2) aq))) [ζ (.ref j),ζ (.int most),ζ (bw m f),η,η] c2=.ok (.nx [ζ (.ref j),ζ (.int most),ζ (bw m f),ζ (.int (m:Int)),η]) c2:=by
  generalize bw m f=T at *
  generalize (m:Int)=q at *
  simp[hl]
 obtain⟨y,c3,y0,y1,P3,t2⟩:=fN (bR:=3) P2 (by decide) (by decide)
 have hB:∃f',kD f'/\(y=0->k6 [bw m f] c3=.ok (bw m f') c3)/\(¬y=0->bw m f'=bw m f):=by
  by_cases hy:y=0
  ·exact⟨jS f,adV W0,λ_=>adU f (by omega) c3,λq=>absurd hy q⟩
  ·exact⟨f,W0,λq=>absurd q hy,λ_=>rfl⟩
 obtain⟨f1,W1,g5,g6⟩:=hB;have e2:=ac3 (a1:=ζ (.int most)) (a3:=ζ (.int (m:Int))) (a4:=η) t2 g5 g6;have hC:∃f' v c4,kD f'/\eS j n c4/\(bB (ko (aO (ay pC (ak 3) (dC (.int 1)))) (aO (ay cT (aC 2 aN (ao (ak 0) (ao (dC (.int 4)) aq))) (dC (.int 0))))) (aD (aE 4 (aC 2 aN (ao (ak 0) (ao (ak 3) aq)))) (aE 2 (aC 3 kc (ao (ak 2) (ao (ak 4) (ao (ay cI (ay bf (ay bf (ak 4) (dC (.int 1))) (aC 2 aN (ao (ak 0) (ao (ay eV (ak 3) (dC (.int 1))) aq)))) (ak 3)) aq)))))) bN) [ζ (.ref j),ζ (.int most),ζ (bw m f1),ζ (.int (m:Int)),η] c3=.ok (.nx [ζ (.ref j),ζ (.int most),ζ (bw m f'),ζ (.int (m:Int)),v]) c4:=by
  by_cases hm:(m:Int)>1
  ·obtain⟨z,c4,z0,z1,P4,t3⟩:=fN (bR:=4) P3 (by decide) (by decide)
   by_cases hz:z=0
   ·subst hz;obtain⟨u,c5,u0,u1,P5,t4⟩:=fN (bR:=(m:Int)) P4 (by omega) (by omega)
    obtain⟨v,c6,v0,v1,P6,t5⟩:=fN (bR:=(m:Int)-1) P5 (by omega) (by omega)
    obtain⟨a,rfl⟩:=ig u0;obtain⟨d,rfl⟩:=ig v0;have hmod:cI (.int ((a:Int)+1+(d:Int))) (.int (m:Int)) c6=.ok (.int (((a+1+d) % m:Nat):Int)) c6:=by
     rw[mX c6 (by omega)]
     congr 2
    have hne:a≠(a+1+d) % m:=by
     rcases ahv (a+1+d) m with q|q
     ·rw[ain q];omega
     ·rw[aj0 q,ain (by omega)];omega
    have hlt:(a+1+d) % m<m:=aiW _ (by omega)
    exact⟨_,_,_,Ob W1 hne,P6,ac0 hm t3 t4 t5 hmod (Oa (by omega) hlt (by omega) f1 c6)⟩
   ·exact⟨f1,_,c4,W1,P4,ac2 hm t3 hz⟩
  ·exact⟨f1,_,c3,W1,P3,ac1 hm⟩
 obtain⟨f2,v,c4,W2,P4,e3⟩:=hC;obtain⟨os,c5,ho,P5,t6⟩:=TF (m:=m) P4 (by omega)
 have hl:os.length=m:=by have:=ho.length_eq;simpa using this
 have e4:=acZ (a1:=ζ (.int most)) (a4:=v) t6 (Xq ho (by omega) f2 c5)
 have hb':tL=aD (bB (aO (ay fE (aC 2 aN (ao (ak 0) (ao (dC (.int 5)) aq))) (dC (.int 2)))) (aE 2 (aC 2 kY (ao (ak 0) (ao (ak 1) aq)))) (aE 2 (aC 2 kZ (ao (ak 0) (ao (ak 1) aq))))) (aD (aE 3 (aF bF (ao (ak 2) aq))) (aD (bB (aO (ay cT (aC 2 aN (ao (ak 0) (ao (dC (.int 3)) aq))) (dC (.int 0)))) (aE 2 (aC 1 k6 (ao (ak 2) aq))) bN) (aD (bB (ko (aO (ay pC (ak 3) (dC (.int 1)))) (aO (ay cT (aC 2 aN (ao (ak 0) (ao (dC (.int 4)) aq))) (dC (.int 0))))) (aD (aE 4 (aC 2 aN (ao (ak 0) (ao (ak 3) aq)))) (aE 2 (aC 3 kc (ao (ak 2) (ao (ak 4) (ao (ay cI (ay bf (ay bf (ak 4) (dC (.int 1))) (aC 2 aN (ao (ak 0) (ao (ay eV (ak 3) (dC (.int 1))) aq)))) (ak 3)) aq)))))) bN) (aR (aC 2 oU (ao (ak 2) (ao (aC 2 mY (ao (ak 0) (ao (ak 3) aq))) aq))))))):=rfl;refine⟨m,_,c5,g1,g2,W8 W2 hl,P5,?_⟩;rw[rV,hb'];exact acY e0 e1 e2 e3 e4 (by rw[Dr,hP.1,aih (by rw[P5.1];omega)])
def aP(rows:List (List Nat)):D:=.tup (rows.map λr=>.tup (nD r))
theorem z5(rows:List (List Nat)):noRef (aP rows)=Γ:=by
 unfold aP noRef;refine eu.mpr λd hd=>?_
 obtain⟨r,_,rfl⟩:=af4.mp hd;unfold noRef;exact uR r
theorem wL(n:Nat):aM 0 (n:Int)=nD (ι n):=by
 apply ajP;intro i
 by_cases h:i<n
 ·have h1:i<(aM 0 (n:Int)).length:=by rw[dG];omega
  have:=kL (af2 h1);rw[af2 h1,this.2];simp[nD,h]
 ·rw[ahe (by rw[dG];omega),ahe (by simp[nD];omega)]
theorem jN{α:Type}{E:List (Option D)}{t:ai}{a:af}{c:aa}(g F:α->D) (b:α->Bool):∀(l:List α) (v:Option D) (acc:List D),(∀x∈l,t (ζ (g x)::E) c=.ok (b x) c)->(∀x∈l,b x=Γ->a (ζ (g x)::E) c=.ok (F x) c)->bJ (λ_=>True) (aA 0) t a (l.map g) (v::E) acc c=.ok (acc++(l.filter b).map F) c
 |[],v,acc,_,_=>by simp
 |x::l,v,acc,h1,h2=>by
  have e1:aA 0 (g x) (v::E) c=.ok (ζ (g x)::E) c:=rfl;rw[af8,iu,e1,R.az,h1 x (.head _),R.az];cases hb:b x with
  |true =>
   rw[if_pos rfl,h2 x (.head _) hb,R.az,jN g F b l _ _ (λz hz=>h1 z (.tail _ hz)) (λz hz=>h2 z (.tail _ hz)),List.filter_cons_of_pos hb,agx]
   rfl
  |false =>
   rw[if_neg (by decide),jN g F b l _ _ (λz hz=>h1 z (.tail _ hz)) (λz hz=>h2 z (.tail _ hz)),List.filter_cons_of_neg (by simp[hb])]
def mS:ai:=(ko (aO (ay eX (ak 0) (ak 1))) (aO (pH 2 2 lams (ao (ak 1) (ao (ak 0) aq)))))
def FD(n:Nat) (f:Nat->Nat->Bool) (i:Nat):List Nat:=(ι n).filter λj=>decide (j≠i)&&f i j
def FF(n:Nat) (f:Nat->Nat->Bool):List (List Nat):=(ι n).map (FD n f)
section
variable {k n:Nat}{E:ο}{ns:List Str}{l:List D}{m:List D->aa->R D}{c:aa}{f:Nat->Nat->Bool}
theorem QA{one j:Nat}(hk:lams[k]? = ζ (E,ns,m)) (hl:gE l=Γ) (hm:j≠one->m ([.int one,.int j]++l) c=.ok (.bl (f one j)) c) :
  mS [ζ (.int j),ζ (.int one),ζ (.lam k E ns l)] c=.ok (decide (j≠one)&&f one j) c:=by
 unfold mS
 by_cases h:j=one
 ·subst h;simp
 ·have h':¬((j:Int)=one):=by omega
  have hc:pH 2 2 lams (ao (ak 1) (ao (ak 0) aq)) [ζ (.int j),ζ (.int one),ζ (.lam k E ns l)] c=.ok (.bl (f one j)) c:=by
   rw[MT 2 2 lams _ _ c (k:=k) (Ex:=E) (ns:=ns) (l:=l) rfl hk];simp only[bD,bE,gz,gs,bG,R.az];rw[if_pos ⟨rfl,rfl,hl⟩];exact hm h
  simp[h,h',hc]
theorem QD{q:Int}{one L:D}{r:List D}(bq:-4611686018427387904<=q/\q<4611686018427387904) (hlen:(aM 0 q).length<ε) (hc:bJ (λ_=>True) (aA 0) mS (ak 0) (aM 0 q) [η,ζ one,ζ L] [] c=.ok r c) (nr:noRef (.tup r)=Γ):iF [.int q,one,L] c=.ok (.tup r) c:=by
 have hb:sW=aR (aF fV (ao (bg (bH (ao (ak 0) aq)) [η,ζ 1,ζ 2] (aA 0) mS (ak 0)) aq)):=rfl;rw[iF,jt,hb];have es:cg 3 [D.int q,one,L]=[ζ (.int q),ζ one,ζ L]:=rfl;rw[es];simp only[kH,gZ,bD,dB,gv,bE,gz,gs,bG,R.az];rw[if_pos (by omega)]
 simp only[R.az];rw[if_pos hlen];have ep:cR [η,ζ 1,ζ 2] [ζ (D.int q),ζ one,ζ L]=[η,ζ one,ζ L]:=rfl;rw[ep,hc];simp only[R.az];show cY θ c.length (.tup r) c=_;unfold cY;dsimp only;rw[if_pos nr,agZ]
theorem MX{q:Int}{L:D}{r:List D}(bq:-4611686018427387904<=q/\q<4611686018427387904) (hlen:(aM 0 q).length<ε) (hc:bJ (λ_=>True) (aA 0) aT (aC 3 iF (ao (ak 1) (ao (ak 0) (ao (ak 2) aq)))) (aM 0 q) [η,ζ (.int q),ζ L] [] c=.ok r c) (nr:noRef (.tup r)=Γ):j8 [.int q,L] c=.ok (.tup r) c:=by
 have hb:sV=aR (aF fV (ao (bg (bH (ao (ak 0) aq)) [η,ζ 0,ζ 1] (aA 0) aT (aC 3 iF (ao (ak 1) (ao (ak 0) (ao (ak 2) aq))))) aq)):=rfl;rw[j8,jt,hb];have es:cg 2 [D.int q,L]=[ζ (.int q),ζ L]:=rfl;rw[es];simp only[kH,gZ,bD,dB,gv,bE,gz,gs,bG,R.az];rw[if_pos (by omega)]
 simp only[R.az];rw[if_pos hlen];have ep:cR [η,ζ 0,ζ 1] [ζ (D.int q),ζ L]=[η,ζ (.int q),ζ L]:=rfl;rw[ep,hc];simp only[R.az];show cY θ c.length (.tup r) c=_;unfold cY;dsimp only;rw[if_pos nr,agZ]
theorem Wh{l:List D}(h:bL l=Γ):noRef (.tup l)=Γ:=by unfold noRef;exact h
theorem IP(hn:n<1000):(aM 0 (n:Int)).length<ε:=by
 have hs:=cW (n:=1000) (by decide)
 rw[dG];omega
theorem GK(hn:n<1000):-4611686018427387904<=(n:Int)/\(n:Int)<4611686018427387904:=by omega
theorem QF{one:Nat}{L:D}{r:List Nat}(hc:bJ (λ_=>True) (aA 0) mS (ak 0) ((ι n).map λj:Nat=>D.int (j:Int)) [η,ζ (.int one),ζ L] [] c=.ok (r.map λj:Nat=>D.int (j:Int)) c):bJ (λ_=>True) (aA 0) mS (ak 0) (aM 0 (n:Int)) [η,ζ (.int one),ζ L] [] c=.ok (nD r) c:=by rw[wL];exact hc
theorem QE{one:Nat}{L:D}{r:List Nat}(hn:n<1000) (hc:bJ (λ_=>True) (aA 0) mS (ak 0) ((ι n).map λj:Nat=>D.int (j:Int)) [η,ζ (.int one),ζ L] [] c=.ok (r.map λj:Nat=>D.int (j:Int)) c) :
  iF [.int n,.int one,L] c=.ok (.tup (nD r)) c:=QD (GK hn) (IP hn) (QF hc) (Wh (uR _))
theorem QC{one:Nat}(hk:lams[k]? = ζ (E,ns,m)) (hl:gE l=Γ) (hn:n<1000) (hm:∀j,j<n->j≠one->m ([.int one,.int j]++l) c=.ok (.bl (f one j)) c) :
  iF [.int n,.int one,.lam k E ns l] c=.ok (.tup (nD (FD n f one))) c:=by
 have hc:=jN (E:=[ζ (.int one),ζ (.lam k E ns l)]) (t:=mS) (a:=ak 0) (c:=c) (λj:Nat=>D.int (j:Int)) (λj:Nat=>D.int (j:Int)) (λj=>decide (j≠one)&&f one j) (ι n) η [] (λj hj=>QA hk hl (hm j (age.mp hj))) (λj _ _=>rfl)
 rw[af9]at hc;exact QE hn hc
theorem acW{m:List D->aa->R D}{x y z:D}{r:R D}(h:m [x,y,z] c=r):(if[x,y,z].length=3 then m [x,y,z] c else .bad)=r:=by
 rw[if_pos (by rfl)];exact h
theorem M9{L:D}{w:List (List Nat)}(hn:n<1000) (hc:bJ (λ_=>True) (aA 0) aT (aC 3 iF (ao (ak 1) (ao (ak 0) (ao (ak 2) aq)))) (aM 0 (n:Int)) [η,ζ (.int n),ζ L] [] c=.ok (w.map λr=>.tup (nD r)) c):j8 [.int n,L] c=.ok (aP w) c:=MX (GK hn) (IP hn) hc (z5 _)
theorem acK{m:List D->aa->R D}{x y z:D}{r:R D}(h:m [y,x,z] c=r):aC 3 m (ao (ak 1) (ao (ak 0) (ao (ak 2) aq))) [ζ x,ζ y,ζ z] c=r:=by
 simp only[x_call,bD,bE,gz,gs,bG,R.az];exact acW h
theorem M5{i:Nat}{L:D}{r:List Nat}(h:iF [.int n,.int i,L] c=.ok (.tup (nD r)) c):aC 3 iF (ao (ak 1) (ao (ak 0) (ao (ak 2) aq))) [ζ (.int i),ζ (.int n),ζ L] c=.ok (.tup (nD r)) c:=acK h
theorem Na{L:D}{g:Nat->List Nat}(h:∀i,i<n->iF [.int n,.int i,L] c=.ok (.tup (nD (g i))) c):bJ (λ_=>True) (aA 0) aT (aC 3 iF (ao (ak 1) (ao (ak 0) (ao (ak 2) aq)))) (aM 0 (n:Int)) [η,ζ (.int n),ζ L] [] c=.ok (((ι n).map g).map λr=>.tup (nD r)) c:=by
 have hc:=jN (E:=[ζ (.int n),ζ L]) (t:=aT) (a:=aC 3 iF (ao (ak 1) (ao (ak 0) (ao (ak 2) aq)))) (c:=c) (λj:Nat=>D.int (j:Int)) (λj:Nat=>D.tup (nD (g j))) (λ_=>Γ) (ι n) η [] (λj hj=>rfl) (λi hi _=>M5 (h i (age.mp hi)))
 have ft:(ι n).filter (λ_=>Γ)=ι n:=by simp
 rw[af9,ft]at hc;rw[agl,wL];exact hc
theorem M7(hk:lams[k]? = ζ (E,ns,m)) (hl:gE l=Γ) (hn:n<1000) (hm:∀i j,i<n->j<n->j≠i->m ([.int i,.int j]++l) c=.ok (.bl (f i j)) c) :
  j8 [.int n,.lam k E ns l] c=.ok (aP (FF n f)) c:=M9 hn (Na λi hi=>QC hk hl hn λj hj hne=>hm i j hi hj hne)
end
theorem acV{kk:Nat}{m:List D->aa->R D}{d1:af}{E:ο}{ns:List Str}{js:List Nat}{e:Ev}{c:aa}{x v:D}{l:List D}(h1:d1 e c=.ok x c) (hg:getAll e js=ζ l) (h2:m [x,.lam kk E ns l] c=.ok v c) (hv:noRef v=Γ):sE kk m d1 E ns js e c=.ok v c:=by
 unfold sE;rw[h1];simp only[R.az];rw[hg];dsimp only;rw[h2];simp only[R.az];rw[if_pos hv]
theorem yW:∀l:List Nat,gM (nD l)=ζ (l.map λn:Nat=>PyData.int (n:Int))
 |[]=>rfl
 |n::ns=>by
  show(match eO (.int (n:Int)),gM (nD ns)with|some a,ζ r=>ζ (a::r)|_,_=>η)=_
  rw[yW ns];rfl
theorem LA(l:List Nat) (k:Nat):((l.map λn:Nat=>PyData.int (n:Int)).any λz=>z.eqv (.int (k:Int)))=decide (k∈l):=by
 rw[List.any_map,agV,ah5,decide_eq_true_eq];refine⟨fun⟨x,hx,e⟩=>?_,λh=>⟨k,h,?_⟩⟩
 ·have:(x:Int)=(k:Int):=by simpa[PyData.eqv]using e
  have:x=k:=by omega
  exact this▸hx
 ·simp[PyData.eqv]
theorem V6(l:List Nat) (k:Nat) (c:aa):mV (.int (k:Int)) (.tup (nD l)) c=.ok (.bl (!decide (k∈l))) c:=by
 have h1:gg c (.int (k:Int))=ζ (.int (k:Int)):=rfl;have h2:gg c (.tup (nD l))=ζ (.tuple (l.map λn:Nat=>PyData.int (n:Int))):=by
  show(match gM (nD l)with|some r=>ζ (PyData.tuple r)|none=>η)=_
  rw[yW]
 unfold mV;rw[h1,h2];dsimp only;rw[if_pos (by simp[PyData.depth]),LA]
theorem Jo(l:List Nat) (k:Nat) (c:aa):inD (.int (k:Int)) (.tup (nD l)) c=.ok (.bl (decide (k∈l))) c:=by
 have h1:gg c (.int (k:Int))=ζ (.int (k:Int)):=rfl;have h2:gg c (.tup (nD l))=ζ (.tuple (l.map λn:Nat=>PyData.int (n:Int))):=by
  show(match gM (nD l)with|some r=>ζ (PyData.tuple r)|none=>η)=_
  rw[yW]
 unfold inD;rw[h1,h2];dsimp only;rw[if_pos (by simp[PyData.depth]),LA]
theorem A7(w:List (List Nat)) (c:aa):bF [aP w] c=.ok (.int (w.length:Nat)) c:=by
 unfold aP;rw[MP,af7]
theorem YY{w:List (List Nat)}{i:Nat}{r:List Nat}(h:w[i]? = ζ r) (c:aa):aK (aP w) (.int (i:Int)) c=.ok (.tup (nD r)) c:=by
 unfold aP;rw[zU,pW (v:=.tup (nD r)) (by rw[agv,h];rfl)]
theorem acQ{m:List D->aa->R D}{d1 d2 d3:af}{e:Ev}{c:aa}{x y z v:D}(h1:d1 e c=.ok x c) (h2:d2 e c=.ok y c) (h3:d3 e c=.ok z c) (h:m [x,y,z] c=.ok v c):aC 3 m (ao d1 (ao d2 (ao d3 aq))) e c=.ok v c:=by
 simp only[x_call,bD,h1,h2,h3,bG,R.az];rw[if_pos (by rfl)];exact h
theorem pN{m:List D->aa->R D}{d1 d2:af}{e:Ev}{c:aa}{x y v:D}(h1:d1 e c=.ok x c) (h2:d2 e c=.ok y c) (h:m [x,y] c=.ok v c):aC 2 m (ao d1 (ao d2 aq)) e c=.ok v c:=by
 simp only[x_call,bD,h1,h2,bG,R.az];rw[if_pos (by rfl)];exact h
theorem D5{m:List D->aa->R D}{d1:af}{e:Ev}{c:aa}{x v:D}(h1:d1 e c=.ok x c) (h:m [x] c=.ok v c):aC 1 m (ao d1 aq) e c=.ok v c:=by
 simp only[x_call,bD,h1,bG,R.az];rw[if_pos (by rfl)];exact h
theorem iC{n:Nat}{b:ah}{xs:List D}{c:aa}{v:D}(h:b (cg n xs) c=.ok (.rt v) c) (hv:noRef v=Γ) (hr:∀k,v≠.ref k):cy n θ b xs c=.ok v c:=by
 rw[jt,h];simp only[R.az];cases v<;>first|exact absurd rfl (hr _)|(unfold cY;dsimp only;rw[if_pos hv,agZ])
theorem N8{d1 d2:af}{e:Ev}{c:aa}{x y:D}(h1:d1 e c=.ok x c) (h2:d2 e c=.ok y c):aU (ao d1 (ao d2 aq)) e c=.ok (.tup [x,y]) c:=by
 have:(2:Nat)<=ε:=cW (by decide)
 simp only[mD,bD,h1,h2,bG,R.az];rw[if_pos (by exact this)]
theorem iL{f:List D->aa->R D}{d1:af}{e:Ev}{c:aa}{x v:D}(h1:d1 e c=.ok x c) (h:f [x] c=.ok v c):aF f (ao d1 aq) e c=.ok v c:=by
 simp only[gZ,bD,h1,bG,R.az];exact h
theorem kJ{i:Nat}{d:af}{e:Ev}{c:aa}{v:D}(h:d e c=.ok v c):aE i d e c=.ok (.nx (e.set i (ζ v))) c:=by rw[gr,h];rfl
theorem n9{d:af}{e:Ev}{c:aa}{v:D}(h:d e c=.ok v c):aR d e c=.ok (.rt v) c:=by rw[kH,h];rfl
theorem GL{d:af}{e:Ev}{c:aa}{q:Int}(h:d e c=.ok (.int q) c) (bq:-4611686018427387904<=q/\q<4611686018427387904):bH (ao d aq) e c=.ok ⟨aM 0 q,λ_=>True⟩ c:=by
 simp only[gv,bD,h,bG,R.az];rw[if_pos (by omega)]
theorem iy{f:D->D->aa->R D}{d1 d2:af}{e:Ev}{c:aa}{x y:D}{r:R D}(h1:d1 e c=.ok x c) (h2:d2 e c=.ok y c) (h:f x y c=r):ay f d1 d2 e c=r:=by
 rw[cH,h1];simp only[R.az];rw[h2];exact h
def wF(m:Nat) (f:Nat->Nat->Bool):List (List Nat):=(ι m).map (kX m f)
theorem Qz(m:Nat) (f:Nat->Nat->Bool):nZ m f=aP (wF m f):=by
 unfold nZ aP wF;rw[agl];rfl
theorem FE(m:Nat) (f:Nat->Nat->Bool):(wF m f).length=m:=by simp[wF]
theorem PV{d:af}{e:Ev}{c:aa}{l:List D}(h:d e c=.ok (.lst l) c):cV d e c=.ok ⟨l,λ_=>True⟩ c:=by
 unfold cV;rw[h];rfl
theorem acz{sr:Ev->aa->R Src}{pick:List (Option Nat)}{g:Gd}{t:ai}{a:af}{e:Ev}{c:aa}{items l:List D}(h1:sr e c=.ok ⟨items,λ_=>True⟩ c) (hl:items.length<ε) (h2:bJ (λ_=>True) g t a items (cR pick e) [] c=.ok l c):bg sr pick g t a e c=.ok (.lst l) c:=by
 rw[dB,h1];simp only[R.az];rw[if_pos hl,h2];rfl
theorem mL{i:Nat}{d:af}{e:Ev}{c c':aa}{v:D}(h:d e c=.ok v c'):aE i d e c=.ok (.nx (e.set i (ζ v))) c':=by rw[gr,h];rfl
theorem DX{α:Type}{E:List (Option D)}{t:ai}{a:af}{c:aa}{st:aa->Prop}(hst:st c) (g F:α->D):∀(l:List α) (v:Option D) (acc:List D),(∀x∈l,t (ζ (g x)::E) c=.ok Γ c)->(∀x∈l,a (ζ (g x)::E) c=.ok (F x) c)->bJ st (aA 0) t a (l.map g) (v::E) acc c=.ok (acc++l.map F) c
 |[],v,acc,_,_=>by unfold bJ;simp[hst]
 |x::l,v,acc,h1,h2=>by
  have e1:aA 0 (g x) (v::E) c=.ok (ζ (g x)::E) c:=rfl;rw[af8];unfold bJ;rw[if_pos hst,e1,R.az,h1 x (by simp),R.az,if_pos rfl,h2 x (by simp),R.az,DX hst g F l _ _ (λy hy=>h1 y (by simp[hy])) (λy hy=>h2 y (by simp[hy])),agx]
  rfl
theorem Jh{a b q:Int}(a0:0<=a) (a1:a<=q-1) (b0:0<=b) (b1:b<=q-1) (hab:a≠b) (c:aa):dH [.tup [.int a,.int b],.int q] c=.ok (.bl Γ) c:=by
 have p1:fS [.int a,.int q] c=.ok (.bl Γ) c:=by simp[fS,iW,fm,fK,gH,fL,a0,a1]
 have p2:fS [.int b,.int q] c=.ok (.bl Γ) c:=by simp[fS,iW,fm,fK,gH,fL,b0,b1]
 simp[dH,gk,p1,p2,hab]
theorem all_true{α:Type}(l:List α) (c:aa):dJ [.lst (l.map λ_=>D.bl Γ)] c=.ok (.bl Γ) c:=by
 have e:(l.map λ_=>D.bl Γ)=(l.map λ_=>Γ).map D.bl:=by rw[agl];rfl
 rw[e];unfold dJ mT;dsimp only;rw[zg];simp
def zp(c:aa) (X:D) (ps:List (Nat×Nat)):Prop:=(∃k,X=.ref k/\c[k]? = ζ (.lst (ps.map bx)))\/X=.lst (ps.map bx)
def vC:af:=(aC 2 dH (ao (ak 0) (ao (ak 1) aq)))
theorem adg{m:Nat}{ps:List (Nat×Nat)}{X:D}{c:aa}(hX:zp c X ps) (hp:cQ m ps) (hl:ps.length<1000):jC [X,.int (m:Int)] c=.ok (.bl Γ) c:=by
 have hs:=cW (n:=1000) (by decide)
 have hel:∀p∈ps,vC [ζ (bx p),ζ (.int (m:Int))] c=.ok (.bl Γ) c:=λp gc=>by
  obtain⟨h1,h2,h3⟩:=hp p gc;exact pN (m:=dH) (d1:=ak 0) (d2:=ak 1) rfl rfl (Jh (by omega) (by omega) (by omega) (by omega) (by omega) c)
 have hc:bg (cV (ak 0)) [η,ζ 1] (aA 0) aT vC [ζ X,ζ (.int (m:Int))] c=.ok (.lst (ps.map λ_=>D.bl Γ)) c:=by
  rcases hX with⟨k,rfl,hk⟩|rfl
  ·have h:=DX (c:=c) (st:=λc'=>c'[k]? = ζ (.lst (ps.map bx))) (E:=[ζ (.int (m:Int))]) (t:=aT) (a:=vC) hk bx (λ_=>.bl Γ) ps η [] (λ_ _=>rfl) hel
   rw[af9]at h;rw[dB];unfold cV;have hv:ak 0 [ζ (D.ref k),ζ (.int (m:Int))] c=.ok (.ref k) c:=rfl;rw[hv];simp only[R.az,hk];rw[if_pos (by rw[af7];omega)]
   have:cR [η,ζ 1] [ζ (D.ref k),ζ (.int (m:Int))]=[η,ζ (.int (m:Int))]:=rfl;rw[this,h];rfl
  ·have h:=DX (c:=c) (st:=λ_=>True) (E:=[ζ (.int (m:Int))]) (t:=aT) (a:=vC) trivial bx (λ_=>.bl Γ) ps η [] (λ_ _=>rfl) hel
   rw[af9]at h;exact acz (pick:=[η,ζ 1]) (PV (d:=ak 0) rfl) (by rw[af7];omega) h
 have hi:bC [X,.ty "list"] c=.ok (.bl Γ) c:=by
  rcases hX with⟨k,rfl,hk⟩|rfl
  ·rfl
  ·rfl
 have hA:=iL (f:=dJ) hc (all_true ps c);have h1:aF bC (ao (ak 0) (ao (dC (.ty "list")) aq)) [ζ X,ζ (.int (m:Int))] c=.ok (.bl Γ) c:=by
  simp only[gZ,bD,bE,gz,fh,bG,R.az];exact hi
 have hb:lC=aR (fH (aF bC (ao (ak 0) (ao (dC (.ty "list")) aq))) (aF dJ (ao (bg (cV (ak 0)) [η,ζ 1] (aA 0) aT vC) aq))):=rfl;refine iC ?_ rfl (λk h=>by cases h)
 have es:cg 2 [X,.int (m:Int)]=[ζ X,ζ (.int (m:Int))]:=rfl;rw[es,hb];refine n9 ?_;unfold fH;rw[h1];simp only[R.az]
 first
  |exact hA
  |(rw[hA];rfl)
  |simp[hA]
def Jc(ps:List (Nat×Nat)) (i j:Nat):Bool:=decide (((i:Int),(j:Int))∈iV (ps.map λp=>((p.1:Int),(p.2:Int))))
theorem RL(ps:List (Nat×Nat)):kN (ps.map bx)=ζ (ps.map λp=>((p.1:Int),(p.2:Int))):=by
 have e:ps.map bx=(ps.map λp=>((p.1:Int),(p.2:Int))).map rC:=by rw[agl];rfl
 rw[e];exact G3 _
theorem Xz{c:aa}{X:D}{ps:List (Nat×Nat)}(h:zp c X ps):dW c X=ζ (ps.map bx):=by
 rcases h with⟨k,rfl,hk⟩|rfl
 ·show(match c[k]? with|some (.lst l)=>ζ l|none=>η)=_
  rw[hk]
 ·rfl
theorem join_gen{X:D}{l:List D}{qs:List (Int×Int)}{c:aa}(h1:dW c X=ζ l) (h2:kN l=ζ qs) (hl:qs.length<1000) (a0:Option D):mR 1 2 3 [a0,ζ X,η,η] c=.ok (.nx [a0,ζ X,ζ (.dct (iV qs)),η]) c:=by
 have e:([a0,ζ X,η,η]:Ev)[1]? = ζ (ζ X):=rfl;unfold mR;rw[e];dsimp only;rw[h1,ajV,h2];dsimp only;rw[if_pos ⟨by omega,rfl⟩]
 rfl
theorem YS{X:D}{ps:List (Nat×Nat)}{c:aa}(hX:zp c X ps) (hl:ps.length<1000) (a0:Option D):mR 1 2 3 [a0,ζ X,η,η] c=.ok (.nx [a0,ζ X,ζ (.dct (iV (ps.map λp=>((p.1:Int),(p.2:Int))))),η]) c :=
 join_gen (Xz hX) (RL ps) (by rw[af7];exact hl) a0
theorem MZ{m' X v:D}{ks:List (Int×Int)}{c:aa}(hw:j8 [m',.lam 0 nK ["joined"] [.dct ks]] c=.ok v c) (hv:noRef v=Γ):sE 0 j8 (ak 0) nK ["joined"] [2] [ζ m',ζ X,ζ (.dct ks),η] c=.ok v c :=
 acV (kk:=0) (m:=j8) (d1:=ak 0) (E:=nK) (ns:=["joined"]) (js:=[2]) (l:=[.dct ks]) (x:=m') rfl rfl hw hv
theorem M8{m:Nat}{ps:List (Nat×Nat)}{X:D}{c:aa}(hX:zp c X ps) (hp:cQ m ps) (hl:ps.length<1000) (hm:m<1000):rS [.int (m:Int),X] c=.ok (aP (FF m (Jc ps))) c:=by
 have hap:=adg hX hp hl;have hw:=M7 (k:=0) (n:=m) (E:=nK) (ns:=["joined"]) (l:=[.dct (iV (ps.map λp=>((p.1:Int),(p.2:Int))))]) (m:=xW m5) (c:=c) (f:=Jc ps) rfl rfl hm λi j hi hj hne=>by
  show m5 [ζ (.int i),ζ (.int j),ζ (.dct (iV (ps.map λp=>((p.1:Int),(p.2:Int)))))] c=_
  unfold m5;exact iy (f:=x6) (N8 (x:=.int (i:Int)) (y:=.int (j:Int)) rfl rfl) (y:=.dct _) rfl rfl
 have e0:bB (dI (aO (aC 2 jC (ao (ak 1) (ao (ak 0) aq))))) uD bN [ζ (.int (m:Int)),ζ X,η,η] c=.ok (.nx [ζ (.int (m:Int)),ζ X,η,η]) c:=by
  have h:=pN (m:=jC) (d1:=ak 1) (d2:=ak 0) (e:=[ζ (.int (m:Int)),ζ X,η,η]) (c:=c) rfl rfl hap;rw[eF,i7,ek,h];rfl
 have e1:mR 1 2 3 [ζ (.int (m:Int)),ζ X,η,η] c=.ok (.nx [ζ (.int (m:Int)),ζ X,ζ (.dct (iV (ps.map λp=>((p.1:Int),(p.2:Int))))),η]) c:=YS hX hl (ζ (.int (m:Int)))
 have hb:pP=aD (bB (dI (aO (aC 2 jC (ao (ak 1) (ao (ak 0) aq))))) uD bN) (aD (mR 1 2 3) (aR (sE 0 j8 (ak 0) nK ["joined"] [2]))):=rfl;have hr:=MZ (X:=X) hw (z5 _);refine iC ?_ (z5 _) (λk h=>by cases h)
 have es:cg 4 [.int (m:Int),X]=[ζ (.int (m:Int)),ζ X,η,η]:=rfl;rw[es,hb,bh e0,bh e1];exact n9 hr
theorem XH(m:Nat) (g:Nat->Nat->Bool) (c:aa):bF [aP (wF m g)] c=.ok (.int (m:Int)) c:=by
 have:=A7 (wF m g) c;rw[FE]at this;exact this
theorem jF(x y:Str) (b:Bool) (c:aa) (h:(decide (x∈eg/\y∈eg)&&((x==y)==b))=Γ):gb eg [.exc x,.fn y 0] c=.ok (.bl b) c:=by
 simp only[af5,decide_eq_true_eq,beq_iff_eq]at h;unfold gb;simp only;rw[if_pos h.1,h.2]
theorem Y7(x:Str) (c:aa) (h:decide (x∈eg)=Γ):gb eg [.exc x,.ty "ValueError"] c=.ok (.bl Γ) c:=by
 unfold gb;simp only;rw[if_pos ⟨by simpa using h,by trivial⟩]
theorem iQ:1000000<ε:=by decide
theorem KL{a:af}{E:Ev}{c:aa}(it g:Nat->D):∀(l:List Nat) (v:Option D) (acc:List D),(∀i∈l,a (ζ (it i)::E) c=.ok (g i) c)->bJ (λ_=>True) (aA 0) aT a (l.map it) (v::E) acc c=.ok (acc++l.map g) c
 |[],v,acc,_=>by simp
 |i::l,v,acc,h=>by
  have h1:aA 0 (it i) (v::E) c=.ok (ζ (it i)::E) c:=rfl;rw[af8,iu,h1,R.az,nM,R.az,if_pos rfl,h i (.head _),R.az,KL it g l _ _ (λz hz=>h z (.tail _ hz)),agx]
  rfl
theorem QK(lo hi:Int):aM lo hi=(ι (hi-lo).toNat).map λi:Nat=>D.int (lo+(i:Int)):=rfl
theorem XO{d a:af}{pick:List (Option Nat)}{e E:Ev}{c:aa}{N:Int}{n:Nat}(g:Nat->D) (hd:d e c=.ok (.int N) c) (hN:N=n) (hn:n<1000) (hp:cR pick e=η::E) (ha:∀i,i<n->a (ζ (.int (i:Int))::E) c=.ok (g i) c) :
  bg (bH (ao d aq)) pick (aA 0) aT a e c=.ok (.lst ((ι n).map g)) c:=by
 have sz:=iQ;have h1:bH (ao d aq) e c=.ok ⟨aM 0 N,λ_=>True⟩ c:=by
  unfold bH;simp only[bD,hd,bG,R.az];rw[if_pos (by omega)]
 have hl:(aM 0 N).length=n:=by rw[dG];omega
 have hr:aM 0 N=(ι n).map λi:Nat=>D.int (i:Int):=by
  rw[QK,show(N-0).toNat=n by omega]
  simp
 rw[dB,h1,R.az];dsimp only;rw[if_pos (by rw[hl];omega),hp,hr,KL _ g (ι n) η [] (λi hi=>ha i (age.mp hi))]
 rfl
theorem ade{l:List D}{i:Nat}{d:D}(h:l[i]? = ζ d):cM l (i:Int)=ζ d:=by
 have hi:=(af6.mp h).1;unfold cM fZ;rw[if_pos (by omega),if_pos (by omega)]
 simpa using h
theorem Y0{l:List D}{i:Nat}{d:D}{N:Int}(hN:N=i) (h:l[i]? = ζ d) (c:aa):aK (.lst l) (.int N) c=.ok d c:=by
 subst hN;unfold aK fO;simp only[ade h]
def El:D->Bool
 |.int _=>Γ
 |.aI=>Γ
 |.str _=>Γ
 |.bl _=>Γ
 |.tup _=>Γ
 |_=>θ
def cJ(lo hi:Int):D->Bool
 |.int i=>decide (lo<=i/\i<=hi)
 |_=>θ
theorem M4{d:D}(h:El d=Γ) (lo hi:Int) (c:aa):fm [d,.int lo,.int hi] c=.ok (.bl (cJ lo hi d)) c:=by
 cases d with
 |int x =>
  by_cases h1:lo<=x
  ·by_cases h2:x<=hi
   ·simp[fm,fK,gH,fL,h1,h2,cJ]
   ·simp[fm,fK,gH,fL,h1,h2,cJ]
  ·simp[fm,fK,gH,fL,h1,cJ]
 |aI=>simp[fm,fK,gH,fL,cJ]
 |str x=>simp[fm,fK,gH,fL,cJ]
 |bl x=>simp[fm,fK,gH,fL,cJ]
 |tup l =>
  have tu:bC [.tup l,.ty "int"] c=.ok (.bl θ) c:=rfl;simp[fm,fK,gH,fL,cJ,tu]
 |_=>cases h
def jD:af:=(fH (aC 1 j9 (ao (ak 0) aq)) (iJ gT fE (dC (.int 0)) (ak 0) (aF bF (ao (ak 1) aq))))
theorem Xy{d T:D}(h:El d=Γ) {m:Int}{c:aa}(hl:bF [T] c=.ok (.int m) c):jD [ζ d,ζ T] c=.ok (.bl (cJ 0 (m-1) d)) c:=by
 cases d with
 |int x =>
  have e1:j9 [.int x] c=.ok (.bl Γ) c:=by simp[j9,kr]
  by_cases h1:0<=x
  ·by_cases h2:x<m
   ·have h3:x<=m-1:=by omega
    simp[jD,e1,iJ,hl,h1,h2,h3,cJ]
   ·have h3:¬x<=m-1:=by omega
    simp[jD,e1,iJ,hl,h1,h2,h3,cJ]
  ·simp[jD,e1,iJ,h1,cJ]
 |aI=>simp[jD,j9,kr,cJ]
 |str x=>simp[jD,j9,kr,cJ]
 |bl x=>simp[jD,j9,kr,cJ]
 |tup l =>
  have tu:bC [.tup l,.ty "int"] c=.ok (.bl θ) c:=rfl;simp[jD,j9,kr,cJ,tu]
 |_=>cases h
def eL(m:Int):Int->List D->Bool
 |_,[]=>Γ
 |lo,d::l=>cJ lo (m-1) d&&(match d with|.int x=>eL m (x+1) l|_=>θ)
def nY:ah:=(aD (bB (dI (aO (aC 3 fm (ao (ak 3) (ao (ak 2) (ao (ay eV (ak 1) (dC (.int 1))) aq)))))) (aR (dC (.bl θ))) bN) (aE 2 (ay bf (ak 3) (dC (.int 1)))))
theorem GI{m:Int}{T:D}{c:aa}:∀(l:List D) (lo:Int) (v:Option D),(∀d∈l,El d=Γ)->∃w v',cu (λ_=>True) (aA 3) nY l [ζ T,ζ (.int m),ζ (.int lo),v] c=if eL m lo l=Γ then .ok (.nx [ζ T,ζ (.int m),w,v']) c else .ok (.rt (.bl θ)) c
 |[],lo,v,_=>⟨ζ (.int lo),v,by simp[eL]⟩
 |d::l,lo,v,h=>by
  have hw:=M4 (h d (.head _)) lo (m-1) c;have hc:=acQ (m:=fm) (d1:=ak 3) (d2:=ak 2) (d3:=ay eV (ak 1) (dC (.int 1))) (e:=[ζ T,ζ (.int m),ζ (.int lo),ζ d]) (c:=c) rfl rfl (iy rfl rfl rfl) hw;have hg:aA 3 d [ζ T,ζ (.int m),ζ (.int lo),v] c=.ok [ζ T,ζ (.int m),ζ (.int lo),ζ d] c:=rfl;cases q:cJ lo (m-1) d with
  |false =>
   rw[q]at hc;refine⟨η,η,?_⟩;have e0:nY [ζ T,ζ (.int m),ζ (.int lo),ζ d] c=.ok (.rt (.bl θ)) c:=by
    unfold nY;rw[gu,eF,i7,ek,hc];rfl
   rw[pG,hg,R.az,e0];have:eL m lo (d::l)=θ:=by unfold eL;rw[q];rfl
   rw[this];rfl
  |true =>
   rw[q]at hc;cases d with
   |int x =>
    obtain⟨w,v',ih⟩:=GI (m:=m) (T:=T) (c:=c) l (x+1) (ζ (.int x)) λy hy=>h y (.tail _ hy)
    refine⟨w,v',?_⟩;have e0:nY [ζ T,ζ (.int m),ζ (.int lo),ζ (.int x)] c=.ok (.nx [ζ T,ζ (.int m),ζ (.int (x+1)),ζ (.int x)]) c:=by
     unfold nY;rw[gu,eF,i7,ek,hc];rfl
    rw[pG,hg,R.az,e0];have:eL m lo (.int x::l)=eL m (x+1) l:=by
     show(cJ lo (m-1) (.int x)&&eL m (x+1) l)=_;rw[q];rfl
    rw[this];exact ih
   |_=>cases q
theorem QT{m:Int}{l:List D}(h:∀d∈l,El d=Γ) (c:aa):iT [.tup l,.int m] c=.ok (.bl (eL m 0 l)) c:=by
 refine iC (n:=4) (b:=nC) ?_ rfl (λk h=>by cases h)
 have hb:nC=aD (bB (dI (aO (aF bC (ao (ak 0) (ao (dC (.ty "tuple")) aq))))) (aR (dC (.bl θ))) bN) (aD (aE 2 (dC (.int 0))) (aD (b8 (eE (ak 0)) (aA 3) nY) (aR (dC (.bl Γ))))):=rfl;have e0:bB (dI (aO (aF bC (ao (ak 0) (ao (dC (.ty "tuple")) aq))))) (aR (dC (.bl θ))) bN [ζ (.tup l),ζ (.int m),η,η] c=.ok (.nx [ζ (.tup l),ζ (.int m),η,η]) c:=rfl;have e1:aE 2 (dC (.int 0)) [ζ (.tup l),ζ (.int m),η,η] c=.ok (.nx [ζ (.tup l),ζ (.int m),ζ (.int 0),η]) c:=rfl;obtain⟨w,v',hf⟩:=GI (m:=m) (T:=.tup l) (c:=c) l 0 η h;have e2:b8 (eE (ak 0)) (aA 3) nY [ζ (.tup l),ζ (.int m),ζ (.int 0),η] c=_:=hf;rw[show cg 4 [D.tup l,.int m]=[ζ (.tup l),ζ (.int m),η,η]from rfl,hb,bh e0,bh e1,gu,e2]
 cases eL m 0 l<;>rfl
theorem QU{d:D}{c:aa}(h:bC [d,.ty "tuple"] c=.ok (.bl θ) c) (m:Int):iT [d,.int m] c=.ok (.bl θ) c:=by simp[iT,nC,h]
theorem rA{m:Nat}:∀{l:List D}{lo:Nat},eL m lo l=Γ↔∃ns:List Nat,l=nD ns/\Up ns/\∀x∈ns,lo<=x/\x<m
 |[],lo=>⟨λ_=>⟨[],rfl,.nil,λx hx=>by cases hx⟩,λ_=>rfl⟩
 |d::l,lo=>by
  constructor
  ·intro h;unfold eL at h;rw[af5]at h;obtain⟨h1,h2⟩:=h;cases d with
   |int x =>
    have h1:lo<=x/\x<=(m:Int)-1:=of_decide_eq_true h1;obtain⟨k,rfl⟩:∃k:Nat,x=k:=⟨x.toNat,by omega⟩
    have h2:eL m ((k+1:Nat):Int) l=Γ:=h2;obtain⟨ns,rfl,hu,hn⟩:=rA.mp h2;refine⟨k::ns,rfl,ag6.mpr ⟨λy hy=>by have:=hn y hy;omega,hu⟩,λy hy=>?_⟩
    rcases afW.mp hy with rfl|hy
    ·omega
    ·have:=hn y hy;omega
   |_=>cases h1
  ·rintro ⟨ns,e,hu,hn⟩
   cases ns with
   |nil=>cases e
   |cons k ns =>
    have e:d::l=.int (k:Int)::nD ns:=e
    injection e with e1 e2
    subst e1 e2;obtain⟨hk,hu⟩:=ag6.mp hu;have h1:=hn k (.head _);unfold eL;rw[af5];refine⟨decide_eq_true (by omega),?_⟩
    show eL m ((k+1:Nat):Int) (nD ns)=Γ;exact rA.mpr ⟨ns,rfl,hu,λx hx=>⟨by have:=hk x hx;omega,(hn x (.tail _ hx)).2⟩⟩
theorem LC{m:Nat}:∀{l:List D},l.all (cJ 0 ((m:Int)-1))=Γ->∃ns:List Nat,l=nD ns/\∀x∈ns,x<m
 |[],_=>⟨[],rfl,λx hx=>by cases hx⟩
 |d::l,h=>by
  rw[List.all_cons,af5]at h;obtain⟨ns,rfl,hn⟩:=LC h.2;cases d with
  |int x =>
   have h1:0<=x/\x<=(m:Int)-1:=of_decide_eq_true h.1;obtain⟨k,rfl⟩:∃k:Nat,x=k:=⟨x.toNat,by omega⟩
   refine⟨k::ns,rfl,λy hy=>?_⟩
   rcases afW.mp hy with rfl|hy
   ·omega
   ·exact hn y hy
  |_=>cases h.1
theorem Kg:∀a b:List Nat,PyData.eqvAll (a.map λn:Nat=>PyData.int (n:Int)) (b.map λn:Nat=>PyData.int (n:Int))=decide (a=b)
 |[],[]=>by simp[PyData.eqvAll]
 |[],_::_=>by simp[PyData.eqvAll]
 |_::_,[]=>by simp[PyData.eqvAll]
 |x::a,y::b=>by
  simp only[af8,PyData.eqvAll,Kg a b]
  by_cases h:x=y
  ·subst h;simp[PyData.eqv]
  ·have:¬((x:Int)=y):=by omega
   simp[PyData.eqv,h,this]
theorem Kr:∀a:List Nat,PyData.depthAll (a.map λn:Nat=>PyData.int (n:Int))=0
 |[]=>by simp[PyData.depthAll]
 |x::a=>by simp[PyData.depthAll,PyData.depth,Kr a]
theorem Wm(a b:List Nat) (c:aa):mW (.lst (nD a)) (.lst (nD b)) c=.ok (.bl (!decide (a=b))) c:=by
 have h:∀a:List Nat,gg c (.lst (nD a))=ζ (.list (a.map λn:Nat=>PyData.int (n:Int))):=λa=>by
  show(match gM (nD a)with|some r=>ζ (PyData.list r)|none=>η)=_
  rw[yW]
 have hd:∀a:List Nat,(PyData.list (a.map λn:Nat=>PyData.int (n:Int))).depth<=64:=λa=>by
  have:=Kr a;simp only[PyData.depth];omega
 unfold mW;rw[h,h];dsimp only;rw[if_pos ⟨hd a,hd b⟩];have:(PyData.list (a.map λn:Nat=>PyData.int (n:Int))).eqv (.list (b.map λn:Nat=>PyData.int (n:Int)))=decide (a=b):=by
  rw[PyData.eqv];exact Kg a b
 rw[this]
theorem OR{ns:List Nat}:dF ns=ns↔Up ns:=by
 constructor
 ·intro h;rw[<-h];exact qm ns
 ·intro h;have hp:(dF ns).Perm ns:=(ajO (AX (qm ns)) (AX h)).mpr λx=>xP
  exact List.Perm.eq_of_pairwise (λa b _ _ x y=>absurd (ahP x y) (agu _)) (qm ns) h hp
def kM:ah:=(bB (iU (dI (aO (aF bC (ao (ak 2) (ao (dC (.ty "tuple")) aq))))) (dI (aO (aF dJ (ao (bg (eE (ak 2)) [η,ζ 0] (aA 0) aT (fH (aC 1 j9 (ao (ak 0) aq)) (iJ gT fE (dC (.int 0)) (ak 0) (aF bF (ao (ak 1) aq))))) aq))))) (aR (dC (.bl θ))) bN)
def uG:ah:=(bB (iU (aO (ay mW (su (ao (ak 2) aq)) (aF jE (ao (ak 2) aq)))) (aO (ay inD (ak 1) (ak 2)))) (aR (dC (.bl θ))) bN)
def xX(k:Nat):D->Bool
 |.int i=>decide (i=k)
 |_=>θ
def jW(m:Nat) (k:Nat):D->Bool
 |.tup l=>eL m 0 l && !l.any (xX k)
 |_=>θ
theorem Jm(ns:List Nat) (k:Nat):(nD ns).any (xX k)=decide (k∈ns):=by
 rw[agV,ah5,decide_eq_true_iff]
 constructor
 ·rintro ⟨d,hd,e⟩
  obtain⟨a,ha,rfl⟩:=af4.mp hd;have e:(a:Int)=k:=of_decide_eq_true e;have:a=k:=by omega
  subst this;exact ha
 ·exact λh=>⟨.int (k:Int),af4.mpr ⟨k,h,rfl⟩,decide_eq_true rfl⟩
def p9:D->Prop
 |.tup l=>(∀d∈l,El d=Γ)/\l.length<=60
 |.lst _=>True
 |.int _=>True
 |.bl _=>True
 |.aI=>True
 |.str _=>True
 |_=>False
theorem HM{d:D}(h:p9 d) (hn:∀l,d≠.tup l) (c:aa):bC [d,.ty "tuple"] c=.ok (.bl θ) c:=by
 cases d with
 |tup l=>exact absurd rfl (hn l)
 |lst l=>rfl
 |int x=>rfl
 |bl x=>rfl
 |aI=>rfl
 |str x=>rfl
 |_=>cases h
theorem adO{T:D}{m:Int}{l:List D}(h:∀d∈l,El d=Γ) (hl:l.length<=60) {c:aa}(hT:bF [T] c=.ok (.int m) c) (a1:Option D):(aF dJ (ao (bg (eE (ak 2)) [η,ζ 0] (aA 0) aT jD) aq)) [ζ T,a1,ζ (.tup l)] c=.ok (.bl (l.all (cJ 0 (m-1)))) c:=by
 have sz:=iQ;have hm:(l.map λd=>D.bl (cJ 0 (m-1) d))=(l.map (cJ 0 (m-1))).map D.bl:=by rw[agl];rfl
 have ha:dJ [.lst ((l.map (cJ 0 (m-1))).map D.bl)] c=.ok (.bl ((l.map (cJ 0 (m-1))).all id)) c:=by
  unfold dJ mT;dsimp only;rw[zg]
 rw[List.all_map]at ha;refine iL (x:=.lst ((l.map (cJ 0 (m-1))).map D.bl)) ?_ ha;have hc:=jN (E:=[ζ T]) (t:=aT) (a:=jD) (c:=c) id (λd=>D.bl (cJ 0 (m-1) d)) (λ_=>Γ) l η [] (λ_ _=>rfl) (λd hd _=>Xy (h d hd) hT)
 rw[af9,ag7,ahi.mpr (λ_ _=>rfl)]at hc
 have hs:eE (ak 2) [ζ T,a1,ζ (.tup l)] c=.ok ⟨l,λ_=>True⟩ c:=rfl
 rw[dB,hs,R.az];dsimp only;rw[if_pos (by omega),show cR [η,ζ 0] [ζ T,a1,ζ (.tup l)]=[η,ζ T]from rfl,hc,R.az,hm]
theorem QB{T d:D}{m k:Nat}(hm:m<=50) (h:p9 d) {c:aa}(hT:bF [T] c=.ok (.int (m:Int)) c):aD kM uG [ζ T,ζ (.int (k:Int)),ζ d] c=if jW m k d=Γ then .ok (.nx [ζ T,ζ (.int (k:Int)),ζ d]) c else .ok (.rt (.bl θ)) c:=by
 by_cases ht:∃l,d=.tup l
 ·obtain⟨l,rfl⟩:=ht;obtain⟨h1,h2⟩:=h;have ha:=adO h1 h2 hT (ζ (.int (k:Int)));have hi:aF bC (ao (ak 2) (ao (dC (.ty "tuple")) aq)) [ζ T,ζ (.int (k:Int)),ζ (.tup l)] c=.ok (.bl Γ) c:=rfl;have e1:kM [ζ T,ζ (.int (k:Int)),ζ (.tup l)] c=if l.all (cJ 0 ((m:Int)-1))=Γ then .ok (.nx [ζ T,ζ (.int (k:Int)),ζ (.tup l)]) c else .ok (.rt (.bl θ)) c:=by
   unfold kM;rw[eF,tW,i7,ek,hi,R.az];dsimp only;rw[R.az,R.az,if_neg (by decide),i7,ek]
   show(((aF dJ (ao (bg (eE (ak 2)) [η,ζ 0] (aA 0) aT jD) aq) [ζ T,ζ (.int (k:Int)),ζ (.tup l)] c).bind _).bind _).bind _=_;rw[ha];cases l.all (cJ 0 ((m:Int)-1))<;>rfl
  cases q:l.all (cJ 0 ((m:Int)-1))with
  |false =>
   have hr:eL m 0 l=θ:=by
    cases r:eL m 0 l with
    |false=>rfl
    |true =>
     obtain⟨ns,rfl,hu,hn⟩:=(rA (m:=m) (lo:=0)).mp r;have:(nD ns).all (cJ 0 ((m:Int)-1))=Γ:=agc.mpr λd hd=>by
      obtain⟨x,hx,rfl⟩:=af4.mp hd;have:=hn x hx;exact decide_eq_true (by omega)
     rw[this]at q;cases q
   rw[q]at e1;rw[gu,e1];simp only[jW,hr];rfl
  |true =>
   rw[q]at e1;obtain⟨ns,rfl,hn⟩:=LC q;have nl:ns.length<=60:=by simpa[nD]using h2
   have h64:(dF ns).length<64:=by have:=OS ns;omega
   have ZI:xO c (.tup (nD ns))=ζ ns:=Ws h64 λx hx=>by have:=hn x hx;omega
   have es:su (ao (ak 2) aq) [ζ T,ζ (.int (k:Int)),ζ (.tup (nD ns))] c=.ok (.lst (nD (dF ns))) c:=by
    unfold su;rw[bD,show ak 2 [ζ T,ζ (.int (k:Int)),ζ (.tup (nD ns))] c=.ok (.tup (nD ns)) c from rfl,R.az,bG]
    simp only[R.az];rw[ZI]
   have en:ay mW (su (ao (ak 2) aq)) (aF jE (ao (ak 2) aq)) [ζ T,ζ (.int (k:Int)),ζ (.tup (nD ns))] c=.ok (.bl (!decide (dF ns=ns))) c:=iy (f:=mW) es (y:=.lst (nD ns)) rfl (Wm _ _ c);have ei:ay inD (ak 1) (ak 2) [ζ T,ζ (.int (k:Int)),ζ (.tup (nD ns))] c=.ok (.bl (decide (k∈ns))) c:=iy (f:=inD) rfl rfl (Jo ns k c);have hrs:eL m 0 (nD ns)=decide (dF ns=ns):=by
    rw[agV,decide_eq_true_iff,OR]
    constructor
    ·intro r;obtain⟨ms,e,hu,_⟩:=(rA (m:=m) (lo:=0)).mp r;have:ns=ms:=by
      have:=congrArg (List.map λd=>match d with|D.int i=>i.toNat|_=>0) e
      simpa[nD,agl,Function.comp_def]using this
     subst this;exact hu
    ·exact λhu=>(rA (m:=m) (lo:=0)).mpr ⟨ns,rfl,hu,λx hx=>⟨agK _,hn x hx⟩⟩
   rw[bh (show kM [ζ T,ζ (.int (k:Int)),ζ (.tup (nD ns))] c=.ok (.nx [ζ T,ζ (.int (k:Int)),ζ (.tup (nD ns))]) c from e1)]
   unfold uG;rw[eF,tW,ek,en,R.az];dsimp only;rw[R.az];simp only[jW,hrs,Jm]
   by_cases e:dF ns=ns
   ·rw[decide_eq_true e,Bool.not_true,if_neg agg,ek,ei,R.az];cases decide (k∈ns)<;>rfl
   ·rw[decide_eq_false e];rfl
 ·have hn:∀l,d≠.tup l:=λl e=>ht ⟨l,e⟩
  have hi:=HM h hn c;have hi2:aF bC (ao (ak 2) (ao (dC (.ty "tuple")) aq)) [ζ T,ζ (.int (k:Int)),ζ d] c=.ok (.bl θ) c:=by
   rw[gZ];exact hi
  have hg:jW m k d=θ:=by
   cases d with
   |tup l=>exact absurd rfl (hn l)
   |_=>rfl
  have e1:kM [ζ T,ζ (.int (k:Int)),ζ d] c=.ok (.rt (.bl θ)) c:=by
   unfold kM;rw[eF,tW,i7,ek,hi2];rfl
  rw[gu,e1,hg];rfl
def gm(F:Nat->D->Bool):Nat->List D->Bool
 |_,[]=>Γ
 |k,d::l=>F k d&&gm F (k+1) l
theorem Dw{T:D}{S:ah}{c:aa}(F:Nat->D->Bool):∀(l:List D) (k:Nat) (v1 v2:Option D),(∀i d,l[i]? = ζ d->S [ζ T,ζ (.int ((k+i:Nat):Int)),ζ d] c=if F (k+i) d=Γ then .ok (.nx [ζ T,ζ (.int ((k+i:Nat):Int)),ζ d]) c else .ok (.rt (.bl θ)) c) ->
  ∃w1 w2,cu (λ_=>True) (e9 2 (cA (aA 1) (cA (aA 2) fq))) S (l.mapIdx λi x=>.tup [.int ((k+i:Nat):Int),x]) [ζ T,v1,v2] c=if gm F k l=Γ then .ok (.nx [ζ T,w1,w2]) c else .ok (.rt (.bl θ)) c
 |[],k,v1,v2,_=>⟨v1,v2,by simp[gm]⟩
 |d::l,k,v1,v2,h=>by
  have hg:e9 2 (cA (aA 1) (cA (aA 2) fq)) (.tup [.int ((k+0:Nat):Int),d]) [ζ T,v1,v2] c=.ok [ζ T,ζ (.int ((k+0:Nat):Int)),ζ d] c:=rfl;have hs:=h 0 d rfl;obtain⟨w1,w2,ih⟩:=Dw F l (k+1) (ζ (.int ((k+0:Nat):Int))) (ζ d) (λi x hx=>by
   have:=h (i+1) x hx;rw[show k+(i+1)=k+1+i by omega]at this
   exact this)
  refine⟨w1,w2,?_⟩;rw[List.mapIdx_cons,pG,hg,R.az,hs];have e1:(l.mapIdx λi x=>D.tup [.int ((k+(i+1):Nat):Int),x])=(l.mapIdx λi x=>D.tup [.int ((k+1+i:Nat):Int),x]):=by
   congr 1;funext i x;congr 4;omega
  cases q:F (k+0) d with
  |true =>
   rw[if_pos rfl];simp only[R.az];rw[e1,ih];have:gm F k (d::l)=gm F (k+1) l:=by
    show(F k d&&gm F (k+1) l)=_;rw[show F k d=Γ from q];rfl
   rw[this]
  |false =>
   have:gm F k (d::l)=θ:=by
    show(F k d&&gm F (k+1) l)=_;rw[show F k d=θ from q];rfl
   rw[this];rfl
theorem zj{F:Nat->D->Bool}:∀{l:List D}{k:Nat},gm F k l=Γ↔∀i d,l[i]? = ζ d->F (k+i) d=Γ
 |[],k=>by simp[gm]
 |d::l,k=>by
  show(F k d&&gm F (k+1) l)=Γ↔_;rw[af5,zj]
  constructor
  ·rintro ⟨h1,h2⟩ i x hx
   cases i with
   |zero=>cases hx;exact h1
   |succ i =>
    have:=h2 i x hx;rw[show k+1+i=k+(i+1) by omega]at this
    exact this
  ·intro h;refine⟨h 0 d rfl,λi x hx=>?_⟩
   have:=h (i+1) x hx;rw[show k+(i+1)=k+1+i by omega]at this
   exact this
def iR(m:Nat):D->Bool
 |.tup l=>eL m 0 l
 |_=>θ
theorem GN{m:Nat}{d:D}(h:p9 d) (c:aa):iT [d,.int (m:Int)] c=.ok (.bl (iR m d)) c:=by
 by_cases ht:∃l,d=.tup l
 ·obtain⟨l,rfl⟩:=ht;exact QT h.1 c
 ·have hn:∀l,d≠.tup l:=λl e=>ht ⟨l,e⟩
  rw[QU (HM h hn c)];cases d with
  |tup l=>exact absurd rfl (hn l)
  |_=>rfl
def pM:ah:=(bB (iU (dI (aO (aF bC (ao (ak 0) (ao (dC (.ty "tuple")) aq))))) (dI (aO (iJ gT gT (dC (.int 1)) (aF bF (ao (ak 0) aq)) (dC (.int 50)))))) (aR (dC (.bl θ))) bN)
theorem vq(rs:List D) (e:Ev) (c:aa):pM (ζ (.tup rs)::e) c=if 1<=rs.length/\rs.length<=50 then .ok (.nx (ζ (.tup rs)::e)) c else .ok (.rt (.bl θ)) c:=by
 have hl:bF [.tup rs] c=.ok (.int (rs.length:Int)) c:=rfl;have hi:aF bC (ao (ak 0) (ao (dC (.ty "tuple")) aq)) (ζ (.tup rs)::e) c=.ok (.bl Γ) c:=rfl;have hc:iJ gT gT (dC (.int 1)) (aF bF (ao (ak 0) aq)) (dC (.int 50)) (ζ (.tup rs)::e) c=.ok (.bl (decide (1<=rs.length/\rs.length<=50))) c:=by
  rw[MS,show dC (.int 1) (ζ (.tup rs)::e) c=.ok (.int 1) c from rfl,R.az,iL (d1:=ak 0) (e:=ζ (.tup rs)::e) (x:=.tup rs) rfl hl,R.az,show gT (.int 1) (.int (rs.length:Int)) c=.ok (.bl (decide ((1:Int)<=rs.length))) c from rfl,R.az]
  by_cases h1:1<=rs.length
  ·have CG:(1:Int)<=rs.length:=by omega
   rw[decide_eq_true CG];dsimp only;rw[show dC (.int 50) (ζ (.tup rs)::e) c=.ok (.int 50) c from rfl,R.az,show gT (.int (rs.length:Int)) (.int 50) c=.ok (.bl (decide ((rs.length:Int)<=50))) c from rfl]
   by_cases h2:rs.length<=50
   ·rw[decide_eq_true (show(rs.length:Int)<=50 by omega),decide_eq_true ⟨h1,h2⟩]
   ·rw[decide_eq_false (show ¬(rs.length:Int)<=50 by omega),decide_eq_false λh=>h2 h.2]
  ·have CG:¬(1:Int)<=rs.length:=by omega
   rw[decide_eq_false CG,decide_eq_false λh=>h1 h.1]
 unfold pM;rw[eF,tW,i7,ek,hi,R.az];dsimp only;rw[R.az,R.az,if_neg (by decide),i7,ek,hc,R.az]
 dsimp only
 by_cases h:1<=rs.length/\rs.length<=50
 ·rw[decide_eq_true h,if_pos h];rfl
 ·rw[decide_eq_false h,if_neg h];rfl
theorem KP{T:D}{c:aa}(h:bC [T,.ty "tuple"] c=.ok (.bl θ) c) (e:Ev):pM (ζ T::e) c=.ok (.rt (.bl θ)) c:=by
 have hi:aF bC (ao (ak 0) (ao (dC (.ty "tuple")) aq)) (ζ T::e) c=.ok (.bl θ) c:=by
  rw[gZ];exact h
 unfold pM;rw[eF,tW,i7,ek,hi];rfl
def uZ:ah:=(bB (dI (aO (aF dJ (ao (bg (eE (ak 0)) [η,ζ 1] (aA 0) aT (aC 2 iT (ao (ak 0) (ao (ak 1) aq)))) aq)))) (aR (dC (.bl θ))) bN)
def Co:ah:=(aR (aF dJ (ao (bg (bH (ao (ak 1) aq)) [η,ζ 0] (aA 0) aT (aC 2 mZ (ao (ak 1) (ao (ak 0) aq)))) aq)))
def uW:ah:=(bB (dI (aO (aF dJ (ao (bg (eE (ak 2)) [η,ζ 1,ζ 0] (aA 0) aT (ay inD (ak 1) (ay aK (ak 2) (ak 0)))) aq)))) (aR (dC (.bl θ))) bN)
theorem u5:jR=aD pM (aD (aE 1 (aF bF (ao (ak 0) aq))) (aD uZ Co)):=rfl
theorem xT:ku=aD pM (aD (b8 (nt (ao (ak 0) aq)) (e9 2 (cA (aA 1) (cA (aA 2) fq))) (aD kM uG)) (aD (b8 (nt (ao (ak 0) aq)) (e9 2 (cA (aA 1) (cA (aA 2) fq))) uW) (aR (dC (.bl Γ))))):=rfl
theorem all_bools{α:Type}(l:List α) (g:α->Bool) (c:aa):dJ [.lst (l.map λd=>D.bl (g d))] c=.ok (.bl (l.all g)) c:=by
 have hm:(l.map λd=>D.bl (g d))=(l.map g).map D.bl:=by rw[agl];rfl
 rw[hm];unfold dJ mT;dsimp only;rw[zg];simp only[];rw[List.all_map];rfl
theorem GJ{m:Nat}:∀{rs:List D},rs.all (iR m)=Γ->∃w:List (List Nat),rs=w.map (λr=>D.tup (nD r))/\∀r∈w,∀x∈r,x<m
 |[],_=>⟨[],rfl,λr hr=>by cases hr⟩
 |d::rs,h=>by
  rw[List.all_cons,af5]at h;obtain⟨w,rfl,hw⟩:=GJ h.2;cases d with
  |tup l =>
   obtain⟨ns,rfl,_,hn⟩:=(rA (m:=m) (lo:=0)).mp h.1;refine⟨ns::w,rfl,λr hr=>?_⟩
   rcases afW.mp hr with rfl|hr
   ·exact λx hx=>(hn x hx).2
   ·exact hw r hr
  |_=>cases h.1
section
variable {w:List (List Nat)}{m:Nat}
def fY(w:List (List Nat)) (k:Nat):Bool:=!decide (k∈w.getD k [])
def eY(w:List (List Nat)) (k:Nat):Bool:=(w.getD k []).all λo=>decide (k∈w.getD o [])
def uU:af:=(ay inD (ak 1) (ay aK (ak 2) (ak 0)))
theorem Ck{k:Nat}(hk:k<w.length) (c:aa):aK (aP w) (.int (k:Int)) c=.ok (.tup (nD (w.getD k []))) c:=YY (by rw[agi,af2 hk];rfl) c
theorem z6{k:Nat}(hk:k<w.length):w.getD k []∈w:=by
 rw[agi,af2 hk];exact agM _
theorem Xk{k o:Nat}(ho:o<w.length) (c:aa):uU [ζ (.int (o:Int)),ζ (.int (k:Int)),ζ (aP w)] c=.ok (.bl (decide (k∈w.getD o []))) c :=
 iy (f:=inD) (x:=.int (k:Int)) rfl (iy (f:=aK) (x:=aP w) (y:=.int (o:Int)) rfl rfl (Ck ho c)) (Jo _ k c)
theorem ID(hr:∀r∈w,∀x∈r,x<w.length) (hl:∀r∈w,r.length<=60) {k:Nat}(hk:k<w.length) {s:Ev->aa->R Src}{pick:List (Option Nat)}{e:Ev}{c:aa}(hs:s e c=.ok ⟨nD (w.getD k []),λ_=>True⟩ c) (hp:cR pick e=[η,ζ (.int (k:Int)),ζ (aP w)]):aF dJ (ao (bg s pick (aA 0) aT uU) aq) e c=.ok (.bl (eY w k)) c:=by
 have sz:=iQ;have hc:=jN (E:=[ζ (.int (k:Int)),ζ (aP w)]) (t:=aT) (a:=uU) (c:=c) (λo:Nat=>D.int (o:Int)) (λo:Nat=>D.bl (decide (k∈w.getD o []))) (λ_=>Γ) (w.getD k []) η [] (λ_ _=>rfl) (λo ho _=>Xk (hr _ (z6 hk) o ho) c)
 rw[af9,ahi.mpr (λ_ _=>rfl)]at hc
 refine iL (x:=.lst ((w.getD k []).map λo:Nat=>D.bl (decide (k∈w.getD o [])))) ?_ (all_bools _ _ c)
 rw[dB,hs,R.az];dsimp only;rw[if_pos (show(nD (w.getD k [])).length<ε by unfold nD;rw[af7];have:=hl _ (z6 hk);omega),hp,show nD (w.getD k [])=(w.getD k []).map λo:Nat=>D.int (o:Int)from rfl,hc,R.az]
theorem IC(hr:∀r∈w,∀x∈r,x<w.length) (hl:∀r∈w,r.length<=60) {k:Nat}(hk:k<w.length) (c:aa):mZ [aP w,.int (k:Int)] c=.ok (.bl (fY w k&&eY w k)) c:=by
 refine iC (n:=2) (b:=pV) ?_ rfl (λk h=>by cases h)
 have hb:pV=aR (fH (ay mV (ak 1) (ay aK (ak 0) (ak 1))) (aF dJ (ao (bg (eE (ay aK (ak 0) (ak 1))) [η,ζ 1,ζ 0] (aA 0) aT uU) aq))):=rfl;have hx:ay aK (ak 0) (ak 1) [ζ (aP w),ζ (.int (k:Int))] c=.ok (.tup (nD (w.getD k []))) c:=iy (f:=aK) (x:=aP w) (y:=.int (k:Int)) rfl rfl (Ck hk c);have hn:ay mV (ak 1) (ay aK (ak 0) (ak 1)) [ζ (aP w),ζ (.int (k:Int))] c=.ok (.bl (fY w k)) c:=iy (f:=mV) (x:=.int (k:Int)) rfl hx (V6 _ k c);have hs:eE (ay aK (ak 0) (ak 1)) [ζ (aP w),ζ (.int (k:Int))] c=.ok ⟨nD (w.getD k []),λ_=>True⟩ c:=by
  unfold eE;rw[hx];rfl
 have ha:=ID hr hl hk (pick:=[η,ζ 1,ζ 0]) hs rfl;rw[show cg 2 [aP w,.int (k:Int)]=[ζ (aP w),ζ (.int (k:Int))]from rfl,hb]
 refine n9 ?_;rw[zY,hn,R.az];cases fY w k with
 |true=>exact ha
 |false=>rfl
theorem XE(hr:∀r∈w,∀x∈r,x<w.length) (hl:∀r∈w,r.length<=60) {k:Nat}(hk:k<w.length) (c:aa):uW [ζ (aP w),ζ (.int (k:Int)),ζ (.tup (nD (w.getD k [])))] c=if eY w k=Γ then .ok (.nx [ζ (aP w),ζ (.int (k:Int)),ζ (.tup (nD (w.getD k [])))]) c else .ok (.rt (.bl θ)) c:=by
 have ha:=ID hr hl hk (s:=eE (ak 2)) (pick:=[η,ζ 1,ζ 0]) (e:=[ζ (aP w),ζ (.int (k:Int)),ζ (.tup (nD (w.getD k [])))]) (c:=c) rfl rfl;unfold uW;rw[eF,i7,ek];show(((aF dJ (ao (bg (eE (ak 2)) [η,ζ 1,ζ 0] (aA 0) aT uU) aq) _ c).bind _).bind _).bind _=_;rw[ha];cases eY w k<;>rfl
end
theorem M6{rs:List D}(h:∀d∈rs,p9 d) (c:aa):∃b,fR [.tup rs] c=.ok (.bl b) c/\oQ [.tup rs] c=.ok (.bl b) c:=by
 have sz:=iQ
 by_cases hm:1<=rs.length/\rs.length<=50
 ·have hT:bF [.tup rs] c=.ok (.int (rs.length:Int)) c:=rfl;have k1:=vq rs [η] c;have k2:=vq rs [η,η] c;rw[if_pos hm]at k1 k2;obtain⟨w1,w2,hf⟩:=Dw (T:=.tup rs) (S:=aD kM uG) (c:=c) (jW rs.length) rs 0 η η (λi d hd=>QB hm.2 (h d (agk hd)) hT)
  simp only[agr]at hf;have f1:b8 (nt (ao (ak 0) aq)) (e9 2 (cA (aA 1) (cA (aA 2) fq))) (aD kM uG) [ζ (.tup rs),η,η] c=_:=hf;have e1:aE 1 (aF bF (ao (ak 0) aq)) [ζ (.tup rs),η] c=.ok (.nx [ζ (.tup rs),ζ (.int (rs.length:Int))]) c:=rfl;have hc:=jN (E:=[ζ (.int (rs.length:Int))]) (t:=aT) (a:=aC 2 iT (ao (ak 0) (ao (ak 1) aq))) (c:=c) id (λd=>D.bl (iR rs.length d)) (λ_=>Γ) rs η [] (λ_ _=>rfl) (λd hd _=>pN (m:=iT) (d1:=ak 0) (d2:=ak 1) rfl rfl (GN (h d hd) c))
  rw[af9,ag7,ahi.mpr (λ_ _=>rfl)]at hc
  have ha:aF dJ (ao (bg (eE (ak 0)) [η,ζ 1] (aA 0) aT (aC 2 iT (ao (ak 0) (ao (ak 1) aq)))) aq) [ζ (.tup rs),ζ (.int (rs.length:Int))] c=.ok (.bl (rs.all (iR rs.length))) c:=by
   refine iL (x:=.lst (rs.map λd=>D.bl (iR rs.length d))) ?_ (all_bools _ _ c)
   rw[dB,show eE (ak 0) [ζ (.tup rs),ζ (.int (rs.length:Int))] c=.ok ⟨rs,λ_=>True⟩ c from rfl,R.az]
   dsimp only;rw[if_pos (by omega),show cR [η,ζ 1] [ζ (.tup rs),ζ (.int (rs.length:Int))]=[η,ζ (.int (rs.length:Int))]from rfl,hc,R.az]
  have e2:uZ [ζ (.tup rs),ζ (.int (rs.length:Int))] c=if rs.all (iR rs.length)=Γ then .ok (.nx [ζ (.tup rs),ζ (.int (rs.length:Int))]) c else .ok (.rt (.bl θ)) c:=by
   unfold uZ;rw[eF,i7,ek,ha];cases rs.all (iR rs.length)<;>rfl
  cases q:rs.all (iR rs.length)with
  |false =>
   have qF:gm (jW rs.length) 0 rs=θ:=by
    cases r:gm (jW rs.length) 0 rs with
    |false=>rfl
    |true =>
     have r:=zj.mp r;have:rs.all (iR rs.length)=Γ:=agc.mpr λd hd=>by
      obtain⟨i,hi,rfl⟩:=aib hd;have:=r i _ (af2 hi);cases x:rs[i]with
      |tup l =>
       rw[x]at this;have:(eL rs.length 0 l && !l.any (xX (0+i)))=Γ:=this;exact(af5 _ _▸this).1
      |_=>rw[x]at this;cases this
     rw[this]at q;cases q
   refine⟨θ,?_,?_⟩
   ·refine iC (n:=2) (b:=jR) ?_ rfl (λk h=>by cases h)
    rw[q]at e2;rw[show cg 2 [D.tup rs]=[ζ (.tup rs),η]from rfl,u5,bh k1,bh e1,gu,e2]
    rfl
   ·refine iC (n:=3) (b:=ku) ?_ rfl (λk h=>by cases h)
    rw[qF]at f1;rw[show cg 3 [D.tup rs]=[ζ (.tup rs),η,η]from rfl,xT,bh k2,gu,f1]
    rfl
  |true =>
   obtain⟨w,ew,hw⟩:=GJ q;have hwl:rs.length=w.length:=by rw[ew];simp
   have hr:∀r∈w,∀x∈r,x<w.length:=λr hr x hx=>by rw[<-hwl];exact hw r hr x hx
   have hT2:D.tup rs=aP w:=by rw[ew];rfl
   have hl:∀r∈w,r.length<=60:=λr hr=>by
    have:=h (.tup (nD r)) (by rw[ew];exact af4.mpr ⟨r,hr,rfl⟩)
    simpa[nD]using this.2
   rw[q,if_pos rfl]at e2;have vd:=jN (E:=[ζ (aP w)]) (t:=aT) (a:=aC 2 mZ (ao (ak 1) (ao (ak 0) aq))) (c:=c) (λi:Nat=>D.int (i:Int)) (λi:Nat=>D.bl (fY w i&&eY w i)) (λ_=>Γ) (ι w.length) η [] (λ_ _=>rfl) (λi hi _=>pN (m:=mZ) (d1:=ak 1) (d2:=ak 0) rfl rfl (IC hr hl (age.mp hi) c))
   rw[af9,ahi.mpr (λ_ _=>rfl)]at vd
   have hw50:w.length<=50:=by rw[<-hwl];exact hm.2
   have e3:Co [ζ (aP w),ζ (.int (w.length:Int))] c=.ok (.rt (.bl ((ι w.length).all λi=>fY w i&&eY w i))) c:=by
    refine n9 (iL (x:=.lst ((ι w.length).map λi:Nat=>D.bl (fY w i&&eY w i))) ?_ (all_bools _ _ c))
    rw[dB,GL (d:=ak 1) (e:=[ζ (aP w),ζ (.int (w.length:Int))]) (c:=c) (q:=(w.length:Int)) rfl (by omega),R.az]
    dsimp only;rw[if_pos (by rw[dG];omega),show cR [η,ζ 0] [ζ (aP w),ζ (.int (w.length:Int))]=[η,ζ (aP w)]from rfl,wL,show nD (ι w.length)=(ι w.length).map λi:Nat=>D.int (i:Int)from rfl,vd,R.az]
   obtain⟨u1,u2,hf2⟩:=Dw (T:=aP w) (S:=uW) (c:=c) (λk _=>eY w k) rs 0 w1 w2 (λi d hd=>by
    have hi:i<w.length:=by
     have:=(af6.mp hd).1;omega
    have e:d=.tup (nD (w.getD i [])):=by
     rw[ew,agv,af2 hi]at hd;rw[agi,af2 hi];exact(agb hd).symm
    subst e;rw[agr];exact XE hr hl hi c)
   simp only[agr]at hf2;have f2:b8 (nt (ao (ak 0) aq)) (e9 2 (cA (aA 1) (cA (aA 2) fq))) uW [ζ (aP w),w1,w2] c=if gm (λk _=>eY w k) 0 rs=Γ then .ok (.nx [ζ (aP w),u1,u2]) c else .ok (.rt (.bl θ)) c:=by
    rw[i8,show nt (ao (ak 0) aq) [ζ (aP w),w1,w2] c=.ok ⟨rs.mapIdx λi x=>.tup [.int i,x],λ_=>True⟩ c by rw[<-hT2];rfl,R.az]
    exact hf2
   have g1:gm (jW rs.length) 0 rs=Γ↔∀i,i<w.length->fY w i=Γ:=by
    rw[zj];have at_:∀i,i<w.length->rs[i]? = ζ (.tup (nD (w.getD i []))):=λi hi=>by
     rw[ew,agv,af2 hi,agi,af2 hi];rfl
    have rd:∀i,i<w.length->jW rs.length (0+i) (.tup (nD (w.getD i [])))=fY w i:=λi hi=>by
     have q':=agc.mp q _ (agk (at_ i hi));have q':eL rs.length 0 (nD (w.getD i []))=Γ:=q';show(eL rs.length 0 (nD (w.getD i [])) && !(nD (w.getD i [])).any (xX (0+i)))=_;rw[q',agr,Jm];rfl
    constructor
    ·intro r i hi;rw[<-rd i hi];exact r i _ (at_ i hi)
    ·intro r i d hd;have hi:i<w.length:=by
      have:=(af6.mp hd).1;omega
     rw[at_ i hi]at hd;cases hd;rw[rd i hi];exact r i hi
   have g2:gm (λk _=>eY w k) 0 rs=Γ↔∀i,i<w.length->eY w i=Γ:=by
    rw[zj]
    constructor
    ·intro r i hi;have:=r i rs[i] (af2 (by omega))
     rwa[agr]at this
    ·intro r i d hd;have:=(af6.mp hd).1;rw[agr];exact r i (by omega)
   refine⟨(ι w.length).all λi=>fY w i&&eY w i,?_,?_⟩
   ·refine iC (n:=2) (b:=jR) ?_ rfl (λk h=>by cases h)
    rw[show cg 2 [D.tup rs]=[ζ (.tup rs),η]from rfl,u5,bh k1,bh e1,bh e2,hT2,hwl,e3]
   ·refine iC (n:=3) (b:=ku) ?_ rfl (λk h=>by cases h)
    rw[show cg 3 [D.tup rs]=[ζ (.tup rs),η,η]from rfl,xT,bh k2,gu,f1]
    cases a:gm (jW rs.length) 0 rs with
    |false =>
     have:((ι w.length).all λi=>fY w i&&eY w i)=θ:=by
      cases z:(ι w.length).all λi=>fY w i&&eY w i with
      |false=>rfl
      |true =>
       have z:=agc.mp z;have:=g1.mpr λi hi=>(af5 _ _▸z i (age.mpr hi)).1
       rw[this]at a;cases a
     rw[this];rfl
    |true =>
     rw[if_pos rfl];show aD _ _ [ζ (.tup rs),w1,w2] c=_;rw[hT2,gu,f2];cases b:gm (λk _=>eY w k) 0 rs with
     |false =>
      have:((ι w.length).all λi=>fY w i&&eY w i)=θ:=by
       cases z:(ι w.length).all λi=>fY w i&&eY w i with
       |false=>rfl
       |true =>
        have z:=agc.mp z;have:=g2.mpr λi hi=>(af5 _ _▸z i (age.mpr hi)).2
        rw[this]at b;cases b
      rw[this];rfl
     |true =>
      have:((ι w.length).all λi=>fY w i&&eY w i)=Γ:=agc.mpr λi hi=>by
       have hi:=age.mp hi;rw[g1.mp a i hi,g2.mp b i hi];rfl
      rw[this];rfl
 ·have k1:=vq rs [η] c;have k2:=vq rs [η,η] c;rw[if_neg hm]at k1 k2;refine⟨θ,?_,?_⟩
  ·refine iC (n:=2) (b:=jR) ?_ rfl (λk h=>by cases h)
   rw[show cg 2 [D.tup rs]=[ζ (.tup rs),η]from rfl,u5,gu,k1]
   rfl
  ·refine iC (n:=3) (b:=ku) ?_ rfl (λk h=>by cases h)
   rw[show cg 3 [D.tup rs]=[ζ (.tup rs),η,η]from rfl,xT,gu,k2]
   rfl
theorem UH{T:D}(h:∀c,bC [T,.ty "tuple"] c=.ok (.bl θ) c) (c:aa):∃b,fR [T] c=.ok (.bl b) c/\oQ [T] c=.ok (.bl b) c:=by
 refine⟨θ,?_,?_⟩
 ·refine iC (n:=2) (b:=jR) ?_ rfl (λk h=>by cases h)
  rw[show cg 2 [T]=[ζ T,η]from rfl,u5,gu,KP (h c)]
  rfl
 ·refine iC (n:=3) (b:=ku) ?_ rfl (λk h=>by cases h)
  rw[show cg 3 [T]=[ζ T,η,η]from rfl,xT,gu,KP (h c)]
  rfl
structure RB (k:Nat) (l:List D):Prop where
 el:∀d∈l,El d=Γ
 nr:bL l=Γ
 len:l.length<=k
theorem pI{l:List D}{lo hi:Option Int}{d:D}(h:d∈cutD l lo hi):d∈l:=aiP (agt h)
theorem nu(l:List D) (lo hi:Option Int):(cutD l lo hi).length<=l.length:=by
 unfold cutD;rw[aha,ahX];omega
theorem RB.cut{k:Nat}{l:List D}(h:RB k l) (lo hi:Option Int):RB k (cutD l lo hi):=⟨λd hd=>h.el d (pI hd),eu.mpr λd hd=>eu.mp h.nr d (pI hd),agf (nu l lo hi) h.len⟩
theorem RB.append{a b:Nat}{l l':List D}(h:RB a l) (h':RB b l'):RB (a+b) (l++l'):=⟨λd hd=>(agm.mp hd).elim (h.el d) (h'.el d),eu.mpr λd hd=>(agm.mp hd).elim (eu.mp h.nr d) (eu.mp h'.nr d),by rw[ago];have:=h.len;have:=h'.len;omega⟩
theorem RB.rev{k:Nat}{l:List D}(h:RB k l):RB k l.reverse:=⟨λd hd=>h.el d (aiY.mp hd),eu.mpr λd hd=>eu.mp h.nr d (aiY.mp hd),by rw[ai2];exact h.len⟩
theorem RB.one{d:D}(h:El d=Γ) (hr:noRef d=Γ):RB 1 [d]:=⟨λx hx=>by rw[agn.mp hx];exact h,eu.mpr λx hx=>by rw[agn.mp hx];exact hr,afU 1⟩
theorem RB.nats{k:Nat}{r:List Nat}(h:r.length<=k):RB k (nD r):=⟨λd hd=>by obtain⟨x,_,rfl⟩:=af4.mp hd;rfl,uR r,by simpa[nD]using h⟩
def Row(d:D):Prop:=p9 d/\noRef d=Γ
theorem RB.row{k:Nat}{l:List D}(h:RB k l) (hk:k<=60):Row (.tup l):=⟨⟨h.el,agf h.len hk⟩,by unfold noRef;exact h.nr⟩
def Th(T:D):Prop:=((∃rs,T=.tup rs/\∀d∈rs,p9 d)\/(∀c,bC [T,.ty "tuple"] c=.ok (.bl θ) c))/\noRef T=Γ/\∀k,T≠.ref k
theorem qq{rs:List D}(h:∀d∈rs,Row d):Th (.tup rs):=⟨.inl ⟨rs,rfl,λd hd=>(h d hd).1⟩,by unfold noRef;exact eu.mpr λd hd=>(h d hd).2,λk e=>by cases e⟩
theorem Th.same{T:D}(h:Th T) (c:aa):∃b,fR [T] c=.ok (.bl b) c/\oQ [T] c=.ok (.bl b) c:=by
 rcases h.1 with⟨rs,rfl,hr⟩|h
 ·exact M6 hr c
 ·exact UH h c
theorem aY{d:af}{r:aj}{e:Ev}{c:aa}{x:D}{xs:List D}(h1:d e c=.ok x c) (h2:r e c=.ok xs c):ao d r e c=.ok (x::xs) c:=by rw[bD,h1,R.az,h2,R.az]
theorem cL{e:Ev}{c:aa}:aq e c=.ok [] c:=rfl
theorem oX{r:aj}{e:Ev}{c:aa}{xs:List D}(h:r e c=.ok xs c) (hl:xs.length<=100):bT r e c=.ok (.lst xs) c:=by
 have sz:=iQ;rw[mE,h,R.az,if_pos (by omega)]
theorem dY{r:aj}{e:Ev}{c:aa}{xs:List D}(h:r e c=.ok xs c) (hl:xs.length<=100):aU r e c=.ok (.tup xs) c:=by
 have sz:=iQ;rw[mD,h,R.az,if_pos (by omega)]
theorem nU{d:af}{lo hi:Ev->aa->R (Option Int)}{e:Ev}{c:aa}{xs:List D}{l u:Option Int}(h:d e c=.ok (.tup xs) c) (hl:lo e c=.ok l c) (hu:hi e c=.ok u c):gh d lo hi e c=.ok (.tup (cutD xs l u)) c:=by
 unfold gh;rw[h,R.az,hl,R.az,hu,R.az]
theorem sI{a b:af}{e:Ev}{c:aa}{xs ys:List D}(h1:a e c=.ok (.tup xs) c) (h2:b e c=.ok (.tup ys) c) (hl:xs.length+ys.length<=200):ay gV a b e c=.ok (.tup (xs++ys)) c:=by
 have sz:=iQ;refine iy h1 h2 ?_;unfold gV;dsimp only;rw[if_pos (by omega)]
theorem jV{a:af}{e:Ev}{j:Nat}{q y:Int}{c c':aa}{i:Nat}(hp:ak i e c=.ok (.ref j) c) (ha:a e c=.ok (.int q) c) (ht:aN [.ref j,.int q] c=.ok (.int y) c'):aC 2 aN (ao (ak i) (ao a aq)) e c=.ok (.int y) c':=by
 unfold aC;rw[aY hp (aY ha cL),R.az];exact ht
theorem uJ{l:af}{a:af}{e:Ev}{xs:List D}{y:Int}{c c':aa}(hl:l e c=.ok (.lst xs) c) (ha:a e c=.ok (.int y) c') (y0:0<=y) (y1:y<xs.length):∃d∈xs,ay aK l a e c=.ok d c':=by
 have hi:y.toNat<xs.length:=by omega
 refine⟨xs[y.toNat],agM _,?_⟩;rw[cH,hl,R.az,ha,R.az];exact Y0 (i:=y.toNat) (by omega) (af2 hi) c'
def AR:af:=(bT (ao (ak 2) (ao (iI iE (dC (.int 1))) (ao (ak 3) (ao (dC (.bl Γ)) (ao (dC .aI) (ao (dC (.str "0")) (ao (aU (ao (dC (.int 0)) aq)) (ao (dC (.int 0)) (ao (ay eV (ak 2) (dC (.int 1))) aq))))))))))
def Au:af:=(bT (ao (ay gV (ay gV (gh (ak 4) cZ (c8 (ak 6))) (aU (ao (ak 5) aq))) (gh (ak 4) (c8 (ak 6)) cZ)) (ao (vm (ak 4) cZ cZ (c8 (iI iE (dC (.int 1))))) (ao (gh (ak 4) (c8 (dC (.int 1))) cZ) (ao (aF jE (ao (ak 4) aq)) (ao (ay gV (ak 4) (gh (ak 4) cZ (c8 (dC (.int 1))))) (ao (ak 5) (ao (aU aq) aq))))))))
def tZ:af:=(ay gV (ay gV (gh (ak 1) cZ (c8 (ak 3))) (aU (ao (ay aK (ak 7) (ak 8)) aq))) (gh (ak 1) (c8 (ay bf (ak 3) (dC (.int 1)))) cZ))
def tY:af:=(ay uF (aU (ao (aU aq) aq)) (ay bf (dC (.int 50)) (aC 2 aN (ao (ak 0) (ao (dC (.int 2)) aq)))))
def A9:af:=(bT (ao (aF jE (ao (ak 1) aq)) (ao (gh (ak 1) cZ (c8 (iI iE (dC (.int 1))))) (ao (ay gV (ak 1) (aU (ao (aU aq) aq))) (ao (aU aq) (ao (dC .aI) (ao sy (ao (dC (.str "3 # .#")) (ao (dC (.int 5)) (ao (aU (ao (ak 1) aq)) aq))))))))))
theorem ac7:pU=aD (aE 2 (aF bF (ao (ak 1) aq))) (aD (aE 3 (aC 2 aN (ao (ak 0) (ao (ak 2) aq)))) (aD (aE 4 (ay aK (ak 1) (ak 3))) (aD (aE 5 (ay aK AR (aC 2 aN (ao (ak 0) (ao (dC (.int 9)) aq))))) (aD (aE 6 (aC 2 aN (ao (ak 0) (ao (ay bf (aF bF (ao (ak 4) aq)) (dC (.int 1))) aq)))) (aD (aE 7 Au) (aD (aE 8 (aC 2 aN (ao (ak 0) (ao (dC (.int 9)) aq)))) (aD (bB (aO (ay fE (ak 8) (dC (.int 7)))) (aR tZ) bN) (aD (bB (aO (ay cT (ak 8) (dC (.int 7)))) (aR tY) bN) (aR (ay aK A9 (aC 2 aN (ao (ak 0) (ao (dC (.int 9)) aq))))))))))))):=rfl
section
variable {a0 a4 a5 a6 a7 a8:Option D}
theorem UO{W:D}{m x:Int}(c:aa):∃l,AR [a0,ζ W,ζ (.int m),ζ (.int x),a4,a5,a6,a7,a8] c=.ok (.lst l) c/\l.length=9/\∀d∈l,El d=Γ/\Row d:=by
 refine⟨[.int m,.int (-1),.int x,.bl Γ,.aI,.str "0",.tup [.int 0],.int 0,.int (m-1)],?_,rfl,?_⟩
 ·exact oX (aY rfl (aY rfl (aY rfl (aY rfl (aY rfl (aY rfl (aY (dY (aY rfl cL) (by simp)) (aY rfl (aY rfl cL))))))))) (by simp)
 ·intro d hd;simp only[afW,agp,or_false]at hd
  rcases hd with rfl|rfl|rfl|rfl|rfl|rfl|rfl|rfl|rfl
  ·exact⟨rfl,trivial,rfl⟩
  ·exact⟨rfl,trivial,rfl⟩
  ·exact⟨rfl,trivial,rfl⟩
  ·exact⟨rfl,trivial,rfl⟩
  ·exact⟨rfl,trivial,rfl⟩
  ·exact⟨rfl,trivial,rfl⟩
  ·exact⟨rfl,(RB.one (d:=.int 0) rfl rfl).row (by omega)⟩
  ·exact⟨rfl,trivial,rfl⟩
  ·exact⟨rfl,trivial,rfl⟩
theorem OX{W odd:D}{l:List D}{a2 a3:Option D}{p:Int}(hr:RB 20 l) (ho:El odd=Γ/\Row odd) (c:aa):∃s,Au [a0,ζ W,a2,a3,ζ (.tup l),ζ odd,ζ (.int p),a7,a8] c=.ok (.lst s) c/\s.length=7/\∀d∈s,Row d:=by
 have hl:=hr.len;have c1:=nu l η (ζ p);have c2:=nu l (ζ p) η;have c3:=nu l η (ζ 1);have hv:ak 4 [a0,ζ W,a2,a3,ζ (.tup l),ζ odd,ζ (.int p),a7,a8] c=.ok (.tup l) c:=rfl;have Jw:c8 (ak 6) [a0,ζ W,a2,a3,ζ (.tup l),ζ odd,ζ (.int p),a7,a8] c=.ok (ζ p) c:=rfl;have hno:cZ [a0,ζ W,a2,a3,ζ (.tup l),ζ odd,ζ (.int p),a7,a8] c=.ok η c:=rfl;have hp1:c8 (dC (.int 1)) [a0,ζ W,a2,a3,ζ (.tup l),ζ odd,ζ (.int p),a7,a8] c=.ok (ζ 1) c:=rfl;have hod:aU (ao (ak 5) aq) [a0,ζ W,a2,a3,ζ (.tup l),ζ odd,ζ (.int p),a7,a8] c=.ok (.tup [odd]) c:=dY (aY rfl cL) (by simp)
 have s1:=sI (sI (nU hv hno Jw) hod (by simp;omega)) (nU hv Jw hno) (by simp;omega)
 have s2:vm (ak 4) cZ cZ (c8 (iI iE (dC (.int 1)))) [a0,ζ W,a2,a3,ζ (.tup l),ζ odd,ζ (.int p),a7,a8] c=.ok (.tup l.reverse) c:=by
  rw[MK,hv,R.az,hno,R.az,hno,R.az,show c8 (iI iE (dC (.int 1))) [a0,ζ W,a2,a3,ζ (.tup l),ζ odd,ζ (.int p),a7,a8] c=.ok (ζ (-1)) c from rfl,R.az]
  dsimp only;rw[if_pos ⟨rfl,rfl,rfl⟩]
 have s3:=nU hv hp1 hno;have s4:aF jE (ao (ak 4) aq) [a0,ζ W,a2,a3,ζ (.tup l),ζ odd,ζ (.int p),a7,a8] c=.ok (.lst l) c:=rfl;have s5:=sI hv (nU hv hno hp1) (by omega)
 have s7:aU aq [a0,ζ W,a2,a3,ζ (.tup l),ζ odd,ζ (.int p),a7,a8] c=.ok (.tup []) c:=dY cL (by simp)
 refine⟨_,oX (aY s1 (aY s2 (aY s3 (aY s4 (aY s5 (aY (d:=ak 5) (x:=odd) rfl (aY s7 cL))))))) (by simp),rfl,?_⟩
 intro d hd;simp only[afW,agp,or_false]at hd
 rcases hd with rfl|rfl|rfl|rfl|rfl|rfl|rfl
 ·exact(((hr.cut _ _).append (RB.one ho.1 ho.2.2)).append (hr.cut _ _)).row (by omega)
 ·exact hr.rev.row (by omega)
 ·exact(hr.cut _ _).row (by omega)
 ·exact⟨trivial,by unfold noRef;exact hr.nr⟩
 ·exact(hr.append (hr.cut _ _)).row (by omega)
 ·exact ho.2
 ·exact(RB.nats (k:=0) (r:=[]) (by simp)).row (by omega)
theorem MW{rs s:List D}{x y:Int}{a2:Option D}(hw:∀d∈rs,Row d) (hl:rs.length<=20) (hs:∀d∈s,Row d) (y0:0<=y) (y1:y<s.length) (c:aa):∃T,Th T/\tZ [a0,ζ (.tup rs),a2,ζ (.int x),a4,a5,a6,ζ (.lst s),ζ (.int y)] c=.ok T c:=by
 have c1:=nu rs η (ζ x);have c2:=nu rs (ζ (x+1)) η;obtain⟨d,hd,e⟩:=uJ (l:=ak 7) (a:=ak 8) (e:=[a0,ζ (.tup rs),a2,ζ (.int x),a4,a5,a6,ζ (.lst s),ζ (.int y)]) (c:=c) rfl rfl y0 y1;have hv:ak 1 [a0,ζ (.tup rs),a2,ζ (.int x),a4,a5,a6,ζ (.lst s),ζ (.int y)] c=.ok (.tup rs) c:=rfl;have h:=sI (sI (nU (lo:=cZ) (hi:=c8 (ak 3)) (l:=η) (u:=ζ x) hv rfl rfl) (dY (aY e cL) (by simp)) (by simp;omega)) (nU (lo:=c8 (ay bf (ak 3) (dC (.int 1)))) (hi:=cZ) (l:=ζ (x+1)) (u:=η) hv rfl rfl) (by simp;omega)
 refine⟨_,qq λz hz=>?_,h⟩
 rcases agm.mp hz with hz|hz
 ·rcases agm.mp hz with hz|hz
  ·exact hw z (pI hz)
  ·rw[agn.mp hz];exact hs d hd
 ·exact hw z (pI hz)
theorem MV{e:Ev}{j:Nat}{y:Int}{c c':aa}(hp:ak 0 e c=.ok (.ref j) c) (ht:aN [.ref j,.int 2] c=.ok (.int y) c') (y0:0<=y) (y1:y<2):∃T,Th T/\tY e c=.ok T c':=by
 have sz:=iQ;have h1:aU (ao (aU aq) aq) e c=.ok (.tup [.tup []]) c:=dY (aY (dY cL (by simp)) cL) (by simp)
 have h2:ay bf (dC (.int 50)) (aC 2 aN (ao (ak 0) (ao (dC (.int 2)) aq))) e c=.ok (.int (50+y)) c':=by
  rw[cH,show dC (.int 50) e c=.ok (.int 50) c from rfl,R.az,jV hp rfl ht,R.az,i9]
 refine⟨.tup (ν (50+y).toNat [.tup []]).flatten,qq λz hz=>?_,?_⟩
 ·obtain⟨l,hl,hz⟩:=List.mem_flatten.mp hz;rw[(ajq.mp hl).2,agn]at hz;rw[hz];exact(RB.nats (k:=0) (r:=[]) (by simp)).row (by omega)
 ·unfold tY;rw[cH,h1,R.az,h2,R.az];unfold uF;dsimp only;rw[if_pos ⟨by simp,by omega,by omega,by simp;omega⟩]
theorem X7{rs:List D}{a2 a3:Option D}(hw:∀d∈rs,Row d) (he:RB 20 rs) (c:aa):∃l,A9 [a0,ζ (.tup rs),a2,a3,a4,a5,a6,a7,a8] c=.ok (.lst l) c/\l.length=9/\∀d∈l,Th d:=by
 have hl:=he.len;have hv:ak 1 [a0,ζ (.tup rs),a2,a3,a4,a5,a6,a7,a8] c=.ok (.tup rs) c:=rfl;have em:aU aq [a0,ζ (.tup rs),a2,a3,a4,a5,a6,a7,a8] c=.ok (.tup []) c:=dY cL (by simp)
 have s1:aF jE (ao (ak 1) aq) [a0,ζ (.tup rs),a2,a3,a4,a5,a6,a7,a8] c=.ok (.lst rs) c:=rfl;have s2:=nU (lo:=cZ) (hi:=c8 (iI iE (dC (.int 1)))) (l:=η) (u:=ζ (-1)) hv rfl rfl;have s3:=sI hv (dY (aY em cL) (by simp)) (by simp;omega)
 have s9:aU (ao (ak 1) aq) [a0,ζ (.tup rs),a2,a3,a4,a5,a6,a7,a8] c=.ok (.tup [.tup rs]) c:=dY (aY hv cL) (by simp)
 have er:Row (.tup []):=(RB.nats (k:=0) (r:=[]) (by simp)).row (by omega)
 refine⟨_,oX (aY s1 (aY s2 (aY s3 (aY em (aY (d:=dC .aI) rfl (aY (d:=sy) rfl (aY (d:=dC (.str "3 # .#")) rfl (aY (d:=dC (.int 5)) rfl (aY s9 cL))))))))) (by simp),rfl,?_⟩
 intro d hd;simp only[afW,agp,or_false]at hd
 rcases hd with rfl|rfl|rfl|rfl|rfl|rfl|rfl|rfl|rfl
 ·exact⟨.inr λc=>rfl,by unfold noRef;exact he.nr,λk e=>by cases e⟩
 ·exact qq λz hz=>hw z (pI hz)
 ·refine qq λz hz=>?_
  rcases agm.mp hz with hz|hz
  ·exact hw z hz
  ·rw[agn.mp hz];exact er
 ·exact qq λz hz=>by cases hz
 ·exact⟨.inr λc=>rfl,rfl,λk e=>by cases e⟩
 ·exact⟨.inr λc=>rfl,rfl,λk e=>by cases e⟩
 ·exact⟨.inr λc=>rfl,rfl,λk e=>by cases e⟩
 ·exact⟨.inr λc=>rfl,rfl,λk e=>by cases e⟩
 ·refine qq λz hz=>?_
  rw[agn.mp hz];exact he.row (by omega)
end
theorem ac6{j n:Nat}{c:aa}(P:eS j n c) {w:List (List Nat)}(h1:1<=w.length) (h2:w.length<=12) (hr:∀r∈w,r.length<=12):∃T c',Th T/\eS j n c'/\oW [.ref j,aP w] c=.ok T c':=by
 have hw:∀d∈w.map (λr=>D.tup (nD r)),Row d:=λd hd=>by
  obtain⟨r,hr',rfl⟩:=af4.mp hd;exact(RB.nats (k:=12) (hr r hr')).row (by omega)
 have he:RB 20 (w.map λr=>D.tup (nD r)):=⟨λd hd=>by obtain⟨r,_,rfl⟩:=af4.mp hd;rfl,eu.mpr λd hd=>(hw d hd).2,by simp;omega⟩
 have eW:aP w=.tup (w.map λr=>D.tup (nD r)):=rfl
 obtain⟨x,c1,x0,x1,P1,t1⟩:=fN (bR:=(w.length:Int)) P (by omega) (by omega)
 have hx:x.toNat<w.length:=by omega
 have hrow:=hr _ (z6 hx);have hix:aK (aP w) (.int x) c1=.ok (.tup (nD (w.getD x.toNat []))) c1:=by
  have:=Ck hx c1
  rwa[ai0 x0]at this
 obtain⟨y3,c2,MA,y31,P2,t2⟩:=fN (bR:=9) P1 (by omega) (by omega)
 obtain⟨ol,ho,ji,ZE⟩:=UO (a0:=ζ (.ref j)) (W:=aP w) (m:=(w.length:Int)) (x:=x) (a4:=ζ (.tup (nD (w.getD x.toNat [])))) (a5:=η) (a6:=η) (a7:=η) (a8:=η) c1;obtain⟨odd,hodd,e5⟩:=uJ ho (jV (i:=0) (a:=dC (.int 9)) (e:=[ζ (.ref j),ζ (aP w),ζ (.int (w.length:Int)),ζ (.int x),ζ (.tup (nD (w.getD x.toNat []))),η,η,η,η]) rfl rfl t2) MA (by omega)
 obtain⟨p,c3,p0,p1,P3,t3⟩:=fN (bR:=((w.getD x.toNat []).length:Int)+1) P2 (by omega) (by omega)
 obtain⟨s,hs,hsl,hse⟩:=OX (a0:=ζ (.ref j)) (W:=aP w) (odd:=odd) (l:=nD (w.getD x.toNat [])) (a2:=ζ (.int (w.length:Int))) (a3:=ζ (.int x)) (p:=p) (a7:=η) (a8:=η) (RB.nats (by omega)) (ZE odd hodd) c3
 obtain⟨y,c4,y0,y1,P4,t4⟩:=fN (bR:=9) P3 (by omega) (by omega)
 have e2:aE 2 (aF bF (ao (ak 1) aq)) [ζ (.ref j),ζ (aP w),η,η,η,η,η,η,η] c=.ok (.nx [ζ (.ref j),ζ (aP w),ζ (.int (w.length:Int)),η,η,η,η,η,η]) c:=kJ (i:=2) (iL (d1:=ak 1) (x:=aP w) rfl (A7 w c));have e3:aE 3 (aC 2 aN (ao (ak 0) (ao (ak 2) aq))) [ζ (.ref j),ζ (aP w),ζ (.int (w.length:Int)),η,η,η,η,η,η] c=.ok (.nx [ζ (.ref j),ζ (aP w),ζ (.int (w.length:Int)),ζ (.int x),η,η,η,η,η]) c1:=mL (i:=3) (jV rfl rfl t1);have e4:aE 4 (ay aK (ak 1) (ak 3)) [ζ (.ref j),ζ (aP w),ζ (.int (w.length:Int)),ζ (.int x),η,η,η,η,η] c1=.ok (.nx [ζ (.ref j),ζ (aP w),ζ (.int (w.length:Int)),ζ (.int x),ζ (.tup (nD (w.getD x.toNat []))),η,η,η,η]) c1:=kJ (i:=4) (iy (f:=aK) (x:=aP w) (y:=.int x) rfl rfl hix);have hlen:bF [.tup (nD (w.getD x.toNat []))] c2=.ok (.int ((w.getD x.toNat []).length:Int)) c2:=by
  unfold bF;simp[fO,nD]
 have e6:aE 6 (aC 2 aN (ao (ak 0) (ao (ay bf (aF bF (ao (ak 4) aq)) (dC (.int 1))) aq))) [ζ (.ref j),ζ (aP w),ζ (.int (w.length:Int)),ζ (.int x),ζ (.tup (nD (w.getD x.toNat []))),ζ odd,η,η,η] c2=.ok (.nx [ζ (.ref j),ζ (aP w),ζ (.int (w.length:Int)),ζ (.int x),ζ (.tup (nD (w.getD x.toNat []))),ζ odd,ζ (.int p),η,η]) c3:=mL (i:=6) (jV rfl (iy (f:=bf) (iL (d1:=ak 4) rfl hlen) rfl rfl) t3);have e8:aE 8 (aC 2 aN (ao (ak 0) (ao (dC (.int 9)) aq))) [ζ (.ref j),ζ (aP w),ζ (.int (w.length:Int)),ζ (.int x),ζ (.tup (nD (w.getD x.toNat []))),ζ odd,ζ (.int p),ζ (.lst s),η] c3=.ok (.nx [ζ (.ref j),ζ (aP w),ζ (.int (w.length:Int)),ζ (.int x),ζ (.tup (nD (w.getD x.toNat []))),ζ odd,ζ (.int p),ζ (.lst s),ζ (.int y)]) c4:=mL (i:=8) (jV rfl rfl t4);have e5':aE 5 (ay aK AR (aC 2 aN (ao (ak 0) (ao (dC (.int 9)) aq)))) [ζ (.ref j),ζ (aP w),ζ (.int (w.length:Int)),ζ (.int x),ζ (.tup (nD (w.getD x.toNat []))),η,η,η,η] c1=.ok (.nx [ζ (.ref j),ζ (aP w),ζ (.int (w.length:Int)),ζ (.int x),ζ (.tup (nD (w.getD x.toNat []))),ζ odd,η,η,η]) c2:=mL (i:=5) e5;have e7':aE 7 Au [ζ (.ref j),ζ (aP w),ζ (.int (w.length:Int)),ζ (.int x),ζ (.tup (nD (w.getD x.toNat []))),ζ odd,ζ (.int p),η,η] c3=.ok (.nx [ζ (.ref j),ζ (aP w),ζ (.int (w.length:Int)),ζ (.int x),ζ (.tup (nD (w.getD x.toNat []))),ζ odd,ζ (.int p),ζ (.lst s),η]) c3:=kJ (i:=7) hs;have hpre:∀{T:D}{c':aa},Th T->eS j n c'->(aD (bB (aO (ay fE (ak 8) (dC (.int 7)))) (aR tZ) bN) (aD (bB (aO (ay cT (ak 8) (dC (.int 7)))) (aR tY) bN) (aR (ay aK A9 (aC 2 aN (ao (ak 0) (ao (dC (.int 9)) aq))))))) [ζ (.ref j),ζ (aP w),ζ (.int (w.length:Int)),ζ (.int x),ζ (.tup (nD (w.getD x.toNat []))),ζ odd,ζ (.int p),ζ (.lst s),ζ (.int y)] c4=.ok (.rt T) c'->oW [.ref j,aP w] c=.ok T c':=fun{T c'} hT hP' hh=>by
  have:pU [ζ (.ref j),ζ (aP w),η,η,η,η,η,η,η] c=.ok (.rt T) c':=by
   rw[ac7,bh e2,bh e3,bh e4,bh e5',bh e6,bh e7',bh e8];exact hh
  unfold oW;rw[jt,show cg 9 [D.ref j,aP w]=[ζ (.ref j),ζ (aP w),η,η,η,η,η,η,η]from rfl,this,R.az]
  dsimp only;unfold cY;have ZL:c'.take c.length=c':=by
   rw[P.1,<-hP'.1];exact agZ
  obtain⟨_,nr,hr'⟩:=hT;cases T with
  |ref k=>exact absurd rfl (hr' k)
  |_=>simp only[nr];simp[ZL]
 by_cases q1:y<7
 ·obtain⟨T,hT,e⟩:=MW (a0:=ζ (.ref j)) (a2:=ζ (.int (w.length:Int))) (x:=x) (a4:=ζ (.tup (nD (w.getD x.toNat [])))) (a5:=ζ odd) (a6:=ζ (.int p)) hw (by simp;omega) hse y0 (by omega) c4
  refine⟨T,c4,hT,P4,hpre hT P4 ?_⟩;rw[gu,eF,show aO (ay fE (ak 8) (dC (.int 7))) [ζ (.ref j),ζ (aP w),ζ (.int (w.length:Int)),ζ (.int x),ζ (.tup (nD (w.getD x.toNat []))),ζ odd,ζ (.int p),ζ (.lst s),ζ (.int y)] c4=.ok Γ c4 by simp[q1],R.az,if_pos rfl,n9 (show tZ [ζ (.ref j),ζ (aP w),ζ (.int (w.length:Int)),ζ (.int x),ζ (.tup (nD (w.getD x.toNat []))),ζ odd,ζ (.int p),ζ (.lst s),ζ (.int y)] c4=.ok T c4 from e)]
  rfl
 ·have f1:bB (aO (ay fE (ak 8) (dC (.int 7)))) (aR tZ) bN [ζ (.ref j),ζ (aP w),ζ (.int (w.length:Int)),ζ (.int x),ζ (.tup (nD (w.getD x.toNat []))),ζ odd,ζ (.int p),ζ (.lst s),ζ (.int y)] c4=.ok (.nx [ζ (.ref j),ζ (aP w),ζ (.int (w.length:Int)),ζ (.int x),ζ (.tup (nD (w.getD x.toNat []))),ζ odd,ζ (.int p),ζ (.lst s),ζ (.int y)]) c4:=by
   rw[eF,show aO (ay fE (ak 8) (dC (.int 7))) [ζ (.ref j),ζ (aP w),ζ (.int (w.length:Int)),ζ (.int x),ζ (.tup (nD (w.getD x.toNat []))),ζ odd,ζ (.int p),ζ (.lst s),ζ (.int y)] c4=.ok θ c4 by simp[q1],R.az,if_neg (by decide)]
   rfl
  by_cases q2:y=7
  ·obtain⟨z,c5,z0,z1,P5,t5⟩:=fN (bR:=2) P4 (by omega) (by omega)
   obtain⟨T,hT,e⟩:=MV (e:=[ζ (.ref j),ζ (aP w),ζ (.int (w.length:Int)),ζ (.int x),ζ (.tup (nD (w.getD x.toNat []))),ζ odd,ζ (.int p),ζ (.lst s),ζ (.int y)]) rfl t5 z0 z1;refine⟨T,c5,hT,P5,hpre hT P5 ?_⟩;rw[bh f1,gu,eF,show aO (ay cT (ak 8) (dC (.int 7))) [ζ (.ref j),ζ (aP w),ζ (.int (w.length:Int)),ζ (.int x),ζ (.tup (nD (w.getD x.toNat []))),ζ odd,ζ (.int p),ζ (.lst s),ζ (.int y)] c4=.ok Γ c4 by simp[q2],R.az,if_pos rfl,kH,e]
   rfl
  ·have f2:bB (aO (ay cT (ak 8) (dC (.int 7)))) (aR tY) bN [ζ (.ref j),ζ (aP w),ζ (.int (w.length:Int)),ζ (.int x),ζ (.tup (nD (w.getD x.toNat []))),ζ odd,ζ (.int p),ζ (.lst s),ζ (.int y)] c4=.ok (.nx [ζ (.ref j),ζ (aP w),ζ (.int (w.length:Int)),ζ (.int x),ζ (.tup (nD (w.getD x.toNat []))),ζ odd,ζ (.int p),ζ (.lst s),ζ (.int y)]) c4:=by
    rw[eF,show aO (ay cT (ak 8) (dC (.int 7))) [ζ (.ref j),ζ (aP w),ζ (.int (w.length:Int)),ζ (.int x),ζ (.tup (nD (w.getD x.toNat []))),ζ odd,ζ (.int p),ζ (.lst s),ζ (.int y)] c4=.ok θ c4 by simp[q2],R.az,if_neg (by decide)]
    rfl
   obtain⟨z,c5,z0,z1,P5,t5⟩:=fN (bR:=9) P4 (by omega) (by omega)
   obtain⟨l,hl,hll,hle⟩:=X7 (a0:=ζ (.ref j)) (a2:=ζ (.int (w.length:Int))) (a3:=ζ (.int x)) (a4:=ζ (.tup (nD (w.getD x.toNat [])))) (a5:=ζ odd) (a6:=ζ (.int p)) (a7:=ζ (.lst s)) (a8:=ζ (.int y)) hw he c4;obtain⟨T,hT,e⟩:=uJ (e:=[ζ (.ref j),ζ (aP w),ζ (.int (w.length:Int)),ζ (.int x),ζ (.tup (nD (w.getD x.toNat []))),ζ odd,ζ (.int p),ζ (.lst s),ζ (.int y)]) hl (jV (i:=0) (a:=dC (.int 9)) (e:=[ζ (.ref j),ζ (aP w),ζ (.int (w.length:Int)),ζ (.int x),ζ (.tup (nD (w.getD x.toNat []))),ζ odd,ζ (.int p),ζ (.lst s),ζ (.int y)]) rfl rfl t5) z0 (by omega)
   refine⟨T,c5,hle T hT,P5,hpre (hle T hT) P5 ?_⟩;rw[bh f1,bh f2,kH,e];rfl
theorem Jg{w:List (List Nat)}(hm:1<=w.length/\w.length<=50) (hr:∀r∈w,∀x∈r,x<w.length) (hl:∀r∈w,r.length<=60) (hu:(w.map λr=>D.tup (nD r)).all (iR w.length)=Γ) (c:aa):fR [aP w] c=.ok (.bl ((ι w.length).all λi=>fY w i&&eY w i)) c:=by
 have sz:=iQ;have hok:∀d∈w.map (λr=>D.tup (nD r)),p9 d:=λd hd=>by
  obtain⟨r,hr',rfl⟩:=af4.mp hd;exact((RB.nats (hl r hr')).row (by omega)).1
 have k1:pM [ζ (aP w),η] c=.ok (.nx [ζ (aP w),η]) c:=by
  have:=vq (w.map λr=>D.tup (nD r)) [η] c
  rw[if_pos (by simpa using hm)]at this
  exact this
 have e1:aE 1 (aF bF (ao (ak 0) aq)) [ζ (aP w),η] c=.ok (.nx [ζ (aP w),ζ (.int (w.length:Int))]) c:=kJ (i:=1) (iL (d1:=ak 0) (x:=aP w) rfl (A7 w c));have hc:=jN (E:=[ζ (.int (w.length:Int))]) (t:=aT) (a:=aC 2 iT (ao (ak 0) (ao (ak 1) aq))) (c:=c) id (λd=>D.bl (iR w.length d)) (λ_=>Γ) (w.map λr=>D.tup (nD r)) η [] (λ_ _=>rfl) (λd hd _=>pN (m:=iT) (d1:=ak 0) (d2:=ak 1) rfl rfl (GN (hok d hd) c))
 rw[af9,ag7,ahi.mpr (λ_ _=>rfl)]at hc
 have ha:aF dJ (ao (bg (eE (ak 0)) [η,ζ 1] (aA 0) aT (aC 2 iT (ao (ak 0) (ao (ak 1) aq)))) aq) [ζ (aP w),ζ (.int (w.length:Int))] c=.ok (.bl Γ) c:=by
  have hb:=all_bools (w.map λr=>D.tup (nD r)) (iR w.length) c
  rw[hu]at hb;refine iL (x:=.lst ((w.map λr=>D.tup (nD r)).map λd=>D.bl (iR w.length d))) ?_ hb
  rw[dB,show eE (ak 0) [ζ (aP w),ζ (.int (w.length:Int))] c=.ok ⟨w.map λr=>D.tup (nD r),λ_=>True⟩ c from rfl,R.az]
  dsimp only;rw[if_pos (by simp;omega),show cR [η,ζ 1] [ζ (aP w),ζ (.int (w.length:Int))]=[η,ζ (.int (w.length:Int))]from rfl,hc,R.az]
 have e2:uZ [ζ (aP w),ζ (.int (w.length:Int))] c=.ok (.nx [ζ (aP w),ζ (.int (w.length:Int))]) c:=by
  unfold uZ;rw[eF,i7,ek,ha];rfl
 have vd:=jN (E:=[ζ (aP w)]) (t:=aT) (a:=aC 2 mZ (ao (ak 1) (ao (ak 0) aq))) (c:=c) (λi:Nat=>D.int (i:Int)) (λi:Nat=>D.bl (fY w i&&eY w i)) (λ_=>Γ) (ι w.length) η [] (λ_ _=>rfl) (λi hi _=>pN (m:=mZ) (d1:=ak 1) (d2:=ak 0) rfl rfl (IC hr hl (age.mp hi) c))
 rw[af9,ahi.mpr (λ_ _=>rfl)]at vd
 have e3:Co [ζ (aP w),ζ (.int (w.length:Int))] c=.ok (.rt (.bl ((ι w.length).all λi=>fY w i&&eY w i))) c:=by
  refine n9 (iL (x:=.lst ((ι w.length).map λi:Nat=>D.bl (fY w i&&eY w i))) ?_ (all_bools _ _ c))
  rw[dB,GL (d:=ak 1) (e:=[ζ (aP w),ζ (.int (w.length:Int))]) (c:=c) (q:=(w.length:Int)) rfl (by omega),R.az]
  dsimp only;rw[if_pos (by rw[dG];omega),show cR [η,ζ 0] [ζ (aP w),ζ (.int (w.length:Int))]=[η,ζ (aP w)]from rfl,wL,show nD (ι w.length)=(ι w.length).map λi:Nat=>D.int (i:Int)from rfl,vd,R.az]
 refine iC (n:=2) (b:=jR) ?_ rfl (λk h=>by cases h)
 rw[show cg 2 [aP w]=[ζ (aP w),η]from rfl,u5,bh k1,bh e1,bh e2,e3]
theorem Y9(c:aa):fR [.tup [.tup []]] c=.ok (.bl Γ) c:=by
 have:=Jg (w:=[[]]) (by decide) (λr hr x hx=>by rw[agn.mp hr]at hx;cases hx) (λr hr=>by rw[agn.mp hr];simp) rfl c
 exact this
theorem Y8(c:aa):fR [.tup [.tup [.int 0]]] c=.ok (.bl θ) c:=by
 have:=Jg (w:=[[0]]) (by decide) (λr hr x hx=>by rw[agn.mp hr]at hx;rw[agn.mp hx];decide) (λr hr=>by rw[agn.mp hr];simp) rfl c
 exact this
section
variable {m x:Int}(x0:0<=x) (x1:x<=m-1)
include x0 x1
def ic(m x:Int):List D:=[.tup [.int x,.int x],.tup [.int x,.int m],.tup [.int (-1),.int x],.tup [.int x],.tup [.int x,.int 0,.int 0],.lst [.int x,.int 0],.aI,.tup [.int x,.aI],.tup [.bl Γ,.int x],.tup [.int x,.str "0"],.int x,.tup [.tup [.int x,.int 0]]]
theorem UI(c:aa):∀d∈ic m x,dH [d,.int m] c=.ok (.bl θ) c:=by
 have pl:fS [.int x,.int m] c=.ok (.bl Γ) c:=by simp[fS,iW,fm,fK,gH,fL,x0,x1]
 have p1:fS [.int m,.int m] c=.ok (.bl θ) c:=by
  have a:¬m<=m-1:=by omega
  have b:0<=m:=by omega
  simp[fS,iW,fm,fK,gH,fL,b];omega
 have p2:fS [.int (-1),.int m] c=.ok (.bl θ) c:=by simp[fS,iW,fm,fK,gH,fL]
 have p3:fS [.aI,.int m] c=.ok (.bl θ) c:=by simp[fS,iW,fm,fK,gH,fL]
 have p4:fS [.bl Γ,.int m] c=.ok (.bl θ) c:=by simp[fS,iW,fm,fK,gH,fL]
 have p5:fS [.str "0",.int m] c=.ok (.bl θ) c:=by simp[fS,iW,fm,fK,gH,fL]
 intro d hd;simp only[ic,afW,agp,or_false]at hd
 rcases hd with rfl|rfl|rfl|rfl|rfl|rfl|rfl|rfl|rfl|rfl|rfl|rfl
 ·simp[dH,gk,pl]
 ·simp[dH,gk,pl,p1]
 ·simp[dH,gk,p2]
 ·simp[dH,gk]
 ·simp[dH,gk]
 ·simp[dH,gk]
 ·simp[dH,gk]
 ·simp[dH,gk,pl,p3]
 ·simp[dH,gk,p4]
 ·simp[dH,gk,pl,p5]
 ·simp[dH,gk]
 ·simp[dH,gk]
end
def gO(d0:D) (d:D):Bool:=@decide (d≠d0) (Classical.propDecidable _)
theorem Tu{m:Nat}{l:List D}{d0:D}{c:aa}(h0:dH [d0,.int (m:Int)] c=.ok (.bl θ) c) (hm:d0∈l) (hl:l.length<=100) (hg:∀d∈l,d=d0\/dH [d,.int (m:Int)] c=.ok (.bl Γ) c):jC [.lst l,.int (m:Int)] c=.ok (.bl θ) c:=by
 have sz:=iQ;have hc:=jN (E:=[ζ (.int (m:Int))]) (t:=aT) (a:=aC 2 dH (ao (ak 0) (ao (ak 1) aq))) (c:=c) id (λd=>D.bl (gO d0 d)) (λ_=>Γ) l η [] (λ_ _=>rfl) (λd hd _=>by
  refine pN (m:=dH) (d1:=ak 0) (d2:=ak 1) rfl rfl ?_
  by_cases e:d=d0
  ·subst e;show dH [d,.int (m:Int)] c=_;rw[h0];unfold gO;simp
  ·show dH [d,.int (m:Int)] c=_;rw[(hg d hd).resolve_left e];unfold gO;simp[e])
 rw[af9,ag7,ahi.mpr (λ_ _=>rfl)]at hc
 have ha:=all_bools l (gO d0) c;have hf:l.all (gO d0)=θ:=List.all_eq_false.mpr ⟨d0,hm,by unfold gO;simp⟩
 rw[hf]at ha;have hA:aF dJ (ao (bg (cV (ak 0)) [η,ζ 1] (aA 0) aT (aC 2 dH (ao (ak 0) (ao (ak 1) aq)))) aq) [ζ (.lst l),ζ (.int (m:Int))] c=.ok (.bl θ) c:=by
  refine iL (x:=.lst (l.map λd=>D.bl (gO d0 d))) ?_ ha
  rw[dB,show cV (ak 0) [ζ (.lst l),ζ (.int (m:Int))] c=.ok ⟨l,λ_=>True⟩ c from rfl,R.az]
  dsimp only;rw[if_pos (by omega),show cR [η,ζ 1] [ζ (.lst l),ζ (.int (m:Int))]=[η,ζ (.int (m:Int))]from rfl,hc,R.az]
 refine iC (n:=2) (b:=lC) ?_ rfl (λk h=>by cases h)
 have hb:lC=aR (fH (aF bC (ao (ak 0) (ao (dC (.ty "list")) aq))) (aF dJ (ao (bg (cV (ak 0)) [η,ζ 1] (aA 0) aT (aC 2 dH (ao (ak 0) (ao (ak 1) aq)))) aq))):=rfl;rw[show cg 2 [D.lst l,.int (m:Int)]=[ζ (.lst l),ζ (.int (m:Int))]from rfl,hb]
 refine n9 ?_;rw[zY,show aF bC (ao (ak 0) (ao (dC (.ty "list")) aq)) [ζ (.lst l),ζ (.int (m:Int))] c=.ok (.bl Γ) c from rfl,R.az]
 exact hA
theorem Tt{X:D}{m:Int}{c:aa}(h:bC [X,.ty "list"] c=.ok (.bl θ) c):jC [X,.int m] c=.ok (.bl θ) c:=by simp[jC,lC,h]
theorem Yb(c:aa):xR [.exc "NoPlaces"] c=.ok (.str "places") c:=by
 have t8:(8:Nat)<=ε:=by decide
 have OJ:(11:Nat)<=ε:=by decide
 have aad:=λc=>jF "NoPlaces" "NoDeed" θ c (by decide +kernel)
 have aac:=λc=>jF "NoPlaces" "NoField" θ c (by decide +kernel)
 have aab:=λc=>jF "NoPlaces" "NoName" θ c (by decide +kernel)
 have aaa:=λc=>jF "NoPlaces" "NoNumbers" θ c (by decide +kernel)
 have Z9:=λc=>jF "NoPlaces" "NoPlaces" Γ c (by decide +kernel)
 have Z8:=λc=>jF "NoPlaces" "NoRow" θ c (by decide +kernel)
 have Z7:=λc=>jF "NoPlaces" "NoSquare" θ c (by decide +kernel)
 have Z6:=λc=>jF "NoPlaces" "NoText" θ c (by decide +kernel)
 have Z5:=λc=>jF "NoPlaces" "NoThing" θ c (by decide +kernel)
 have Z4:=λc=>jF "NoPlaces" "NoWeb" θ c (by decide +kernel)
 have Z3:=λc=>jF "NoPlaces" "TooMany" θ c (by decide +kernel)
 have Z2:=λc=>Y7 "NoPlaces" c (by decide +kernel)
 have hf:List.findIdx? id [θ,θ,θ,θ,Γ,θ,θ,θ,θ,θ,θ]=ζ 4:=by decide
 have ha:cM [D.str "deed",D.str "field",D.str "name",D.str "numbers",D.str "places",D.str "row",D.str "square",D.str "text",D.str "thing",D.str "web",D.str "many"] 4=ζ (.str "places"):=rfl;simp[xR,tH,aad,aac,aab,aaa,Z9,Z8,Z7,Z6,Z5,Z4,Z3,Z2,DV,DU,iw,dW,kq,t8,OJ,hf,ha]
theorem Zg:("NoPlaces":Str)∈eg:=by decide +kernel
theorem F2{X:D}{m:Int}{c:aa}(h:jC [X,.int m] c=.ok (.bl θ) c):iG [.int m,X] c=.ok (.str "places") c:=by
 have h1:rS [.int m,X] c=.bad:=by simp[rS,pP,h]
 have h2:vX [.int m,X] c=.ok "NoPlaces" c:=by simp[vX,zf,fnX,zZ,z3,h]
 simp[iG,pQ,uC,h1,z4,h2,Zg,Yb]
theorem N9{X v:D}{m:Int}{c:aa}(h:rS [.int m,X] c=.ok v c):iG [.int m,X] c=.ok (.str "told") c:=by simp[iG,pQ,uC,h]
def j3(m:Nat):List (Nat×Nat):=(ι (m-1)).map λk=>(k,k+1)
theorem G4{m:Nat}:cQ m (j3 m):=λp hp=>by
 obtain⟨k,hk,rfl⟩:=af4.mp hp;have:=age.mp hk;exact⟨by show k<m;omega,by show k+1<m;omega,by show k≠k+1;omega⟩
theorem AG(m:Nat):(j3 m).length=m-1:=by simp[j3]
def s1:ah:=(aE 3 (aC 1 rT (ao (aC 2 rV (ao (ak 2) (ao (dC (.int 10)) aq))) aq)))
def s5:ah:=(bB (iU (dI (aO (aF bC (ao (ak 6) (ao (dC (.ty "bool")) aq))))) (aO (ay eX (ak 6) (aC 1 oQ (ao (ak 5) aq))))) (aR (dC (.bl θ))) bN)
def s7:ah:=(aE 8 (bT (ao (aU (ao (ak 7) (ao (ak 7) aq))) (ao (aU (ao (ak 7) (ao (ak 4) aq))) (ao (aU (ao (iI iE (dC (.int 1))) (ao (ak 7) aq))) (ao (aU (ao (ak 7) aq)) (ao (aU (ao (ak 7) (ao (dC (.int 0)) (ao (dC (.int 0)) aq)))) (ao (bT (ao (ak 7) (ao (dC (.int 0)) aq))) (ao (dC .aI) (ao (aU (ao (ak 7) (ao (dC .aI) aq))) (ao (aU (ao (dC (.bl Γ)) (ao (ak 7) aq))) aq)))))))))))
def s8:ah:=(aE 8 (ay iw (ak 8) (bT (ao (aU (ao (ak 7) (ao (dC (.str "0")) aq))) (ao (ak 7) (ao (aU (ao (aU (ao (ak 7) (ao (dC (.int 0)) aq))) aq)) aq))))))
def s9:ah:=(aE 9 (bg (bH (ao (ay eV (ak 4) (dC (.int 1))) aq)) [η] (aA 0) aT (aU (ao (ak 0) (ao (ay bf (ak 0) (dC (.int 1))) aq)))))
def sA:ah:=(aE 10 (aC 2 aN (ao (ak 2) (ao (ay bf (aF bF (ao (ak 9) aq)) (dC (.int 1))) aq))))
def xB:af:=(ay iw (ay iw (nk (ak 9) cZ (c8 (ak 10))) (bT (ao (ay aK (ak 8) (aC 2 aN (ao (ak 2) (ao (dC (.int 12)) aq)))) aq))) (nk (ak 9) (c8 (ak 10)) cZ))
def sB:ah:=bB (aO (ay eX (aC 2 iG (ao (ak 4) (ao xB aq))) (dC (.str "places")))) (aR (dC (.bl θ))) bN
def l7:af:=(bT (ao (dC .aI) (ao (aF fV (ao (ak 9) aq)) (ao sy (ao (dC (.str "")) (ao (dC (.int 3)) (ao (aU (ao (aU (ao (dC (.int 0)) (ao (dC (.int 1)) aq))) aq)) (ao (dC (.bl Γ)) aq))))))))
def sC:ah:=bB (aO (ay eX (aC 2 iG (ao (ak 4) (ao (ay aK l7 (aC 2 aN (ao (ak 2) (ao (dC (.int 7)) aq)))) aq))) (dC (.str "places")))) (aR (dC (.bl θ))) bN
def sD:ah:=(bB (aO (ay eX (aC 2 iG (ao (ak 4) (ao (ak 9) aq))) (dC (.str "told")))) (aR (dC (.bl θ))) bN)
def uO:ah:=aD (aE 2 (aC 1 oR (ao (aC 2 oV (ao (ak 0) (ao (ak 1) aq))) aq))) (aD s1 (aD (aE 4 (aF bF (ao (ak 3) aq))) (aD (aE 5 (aC 2 oW (ao (ak 2) (ao (ak 3) aq)))) (aD (aE 6 (aC 1 fR (ao (ak 5) aq))) (aD s5 (aD (aE 7 (aC 2 aN (ao (ak 2) (ao (ak 4) aq)))) (aD s7 (aD s8 (aD s9 (aD sA (aD sB (aD sC sD))))))))))))
section
variable {a0 a1 a2 a3 a4 a5 a6 a7 a8 a9 aL:Option D}
theorem g7{m x:Int}(c:aa):s7 [a0,a1,a2,a3,ζ (.int m),a5,a6,ζ (.int x),a8,a9,aL] c=.ok (.nx [a0,a1,a2,a3,ζ (.int m),a5,a6,ζ (.int x),ζ (.lst ((ic m x).take 9)),a9,aL]) c:=by
 refine kJ (i:=8) (v:=.lst ((ic m x).take 9)) ?_;exact oX (xs:=(ic m x).take 9) (aY (dY (aY rfl (aY rfl cL)) (by simp)) (aY (dY (aY rfl (aY rfl cL)) (by simp)) (aY (dY (aY rfl (aY rfl cL)) (by simp)) (aY (dY (aY rfl cL) (by simp)) (aY (dY (aY rfl (aY rfl (aY rfl cL))) (by simp)) (aY (oX (aY rfl (aY rfl cL)) (by simp)) (aY rfl (aY (dY (aY rfl (aY rfl cL)) (by simp)) (aY (dY (aY rfl (aY rfl cL)) (by simp)) cL))))))))) (by simp[ic])
theorem g8{m x:Int}(c:aa):s8 [a0,a1,a2,a3,ζ (.int m),a5,a6,ζ (.int x),ζ (.lst ((ic m x).take 9)),a9,aL] c=.ok (.nx [a0,a1,a2,a3,ζ (.int m),a5,a6,ζ (.int x),ζ (.lst (ic m x)),a9,aL]) c:=by
 have sz:=iQ;refine kJ (i:=8) (v:=.lst (ic m x)) (iy (f:=iw) (x:=.lst ((ic m x).take 9)) (y:=.lst ((ic m x).drop 9)) rfl (oX (xs:=(ic m x).drop 9) (aY (dY (aY rfl (aY rfl cL)) (by simp)) (aY rfl (aY (dY (aY (dY (aY rfl (aY rfl cL)) (by simp)) cL) (by simp)) cL))) (by simp[ic])) ?_)
 unfold iw dW;dsimp only;rw[if_pos (by simp[ic];omega)]
 rfl
theorem g9{m:Nat}(h1:1<=m) (h2:m<=20) (c:aa):s9 [a0,a1,a2,a3,ζ (.int (m:Int)),a5,a6,a7,a8,a9,aL] c=.ok (.nx [a0,a1,a2,a3,ζ (.int (m:Int)),a5,a6,a7,a8,ζ (.lst ((j3 m).map bx)),aL]) c:=by
 refine kJ (i:=9) (v:=.lst ((j3 m).map bx)) ?_;have e:(j3 m).map bx=(ι (m-1)).map λk:Nat=>D.tup [.int (k:Int),.int ((k:Int)+1)]:=by
  unfold j3;rw[agl];refine agH λk _=>?_
  simp[bx]
 rw[e];exact XO (n:=m-1) (N:=(m:Int)-1) (λk:Nat=>D.tup [.int (k:Int),.int ((k:Int)+1)]) rfl (by omega) (by omega) (E:=[]) rfl λk _=>dY (aY rfl (aY rfl cL)) (by simp)
theorem gA{j:Nat}{l:List D}{y:Int}{c c':aa}(ht:aN [.ref j,.int ((l.length:Int)+1)] c=.ok (.int y) c'):sA [a0,a1,ζ (.ref j),a3,a4,a5,a6,a7,a8,ζ (.lst l),aL] c=.ok (.nx [a0,a1,ζ (.ref j),a3,a4,a5,a6,a7,a8,ζ (.lst l),ζ (.int y)]) c':=mL (i:=10) (jV rfl (iy (f:=bf) (iL (d1:=ak 9) (x:=.lst l) rfl rfl) rfl rfl) ht)
theorem Lp{l l':List D}(h:l.length+l'.length<=200) (c:aa):iw (.lst l) (.lst l') c=.ok (.lst (l++l')) c:=by
 have sz:=iQ;unfold iw dW;dsimp only;rw[if_pos (by omega)]
theorem Gy{d:af}{lo hi:Ev->aa->R (Option Int)}{e:Ev}{c:aa}{xs:List D}{l u:Option Int}(h:d e c=.ok (.lst xs) c) (hl:lo e c=.ok l c) (hu:hi e c=.ok u c):nk d lo hi e c=.ok (.lst (cutD xs l u)) c:=by
 unfold nk;rw[h,R.az,hl,R.az,hu,R.az];rfl
theorem gB{j m:Nat}{l od:List D}{p y:Int}{c c':aa}(ht:aN [.ref j,.int 12] c=.ok (.int y) c') (y0:0<=y) (y1:y<12) (ho:od.length=12) (hl:l.length<=20) (hod:∀d∈od,dH [d,.int (m:Int)] c'=.ok (.bl θ) c') (hg:∀d∈l,dH [d,.int (m:Int)] c'=.ok (.bl Γ) c'):sB [a0,a1,ζ (.ref j),a3,ζ (.int (m:Int)),a5,a6,a7,ζ (.lst od),ζ (.lst l),ζ (.int p)] c=.ok (.nx [a0,a1,ζ (.ref j),a3,ζ (.int (m:Int)),a5,a6,a7,ζ (.lst od),ζ (.lst l),ζ (.int p)]) c':=by
 obtain⟨d,hd,e⟩:=uJ (l:=ak 8) (e:=[a0,a1,ζ (.ref j),a3,ζ (.int (m:Int)),a5,a6,a7,ζ (.lst od),ζ (.lst l),ζ (.int p)]) (c:=c) (xs:=od) rfl (jV (i:=2) (a:=dC (.int 12)) (e:=[a0,a1,ζ (.ref j),a3,ζ (.int (m:Int)),a5,a6,a7,ζ (.lst od),ζ (.lst l),ζ (.int p)]) rfl rfl ht) y0 (by omega)
 have c1:=nu l η (ζ p);have c2:=nu l (ζ p) η;have hx:xB [a0,a1,ζ (.ref j),a3,ζ (.int (m:Int)),a5,a6,a7,ζ (.lst od),ζ (.lst l),ζ (.int p)] c=.ok (.lst (cutD l η (ζ p)++[d]++cutD l (ζ p) η)) c':=by
  unfold xB;have hL:bT (ao (ay aK (ak 8) (aC 2 aN (ao (ak 2) (ao (dC (.int 12)) aq)))) aq) [a0,a1,ζ (.ref j),a3,ζ (.int (m:Int)),a5,a6,a7,ζ (.lst od),ζ (.lst l),ζ (.int p)] c=.ok (.lst [d]) c':=by
   have sz:=iQ;rw[mE,bD,e,R.az,bG,R.az,R.az,if_pos (by show 1<=ε;omega)]
  rw[cH,cH,Gy (d:=ak 9) (lo:=cZ) (hi:=c8 (ak 10)) (e:=[a0,a1,ζ (.ref j),a3,ζ (.int (m:Int)),a5,a6,a7,ζ (.lst od),ζ (.lst l),ζ (.int p)]) (c:=c) (xs:=l) (l:=η) (u:=ζ p) rfl rfl rfl,R.az,hL,R.az,Lp (by simp;omega),R.az,Gy (d:=ak 9) (lo:=c8 (ak 10)) (hi:=cZ) (e:=[a0,a1,ζ (.ref j),a3,ζ (.int (m:Int)),a5,a6,a7,ζ (.lst od),ζ (.lst l),ζ (.int p)]) (c:=c') (xs:=l) (l:=ζ p) (u:=η) rfl rfl rfl,R.az,Lp (by simp;omega)]
 have hn:=F2 (Tu (m:=m) (l:=cutD l η (ζ p)++[d]++cutD l (ζ p) η) (d0:=d) (c:=c') (hod d hd) (by simp) (by simp;omega) (λz hz=>by
  rcases agm.mp hz with hz|hz
  ·rcases agm.mp hz with hz|hz
   ·exact .inr (hg z (pI hz))
   ·exact .inl (agn.mp hz)
  ·exact .inr (hg z (pI hz))))
 have hcl:aC 2 iG (ao (ak 4) (ao xB aq)) [a0,a1,ζ (.ref j),a3,ζ (.int (m:Int)),a5,a6,a7,ζ (.lst od),ζ (.lst l),ζ (.int p)] c=.ok (.str "places") c':=by
  unfold aC;rw[bD,show ak 4 [a0,a1,ζ (.ref j),a3,ζ (.int (m:Int)),a5,a6,a7,ζ (.lst od),ζ (.lst l),ζ (.int p)] c=.ok (.int (m:Int)) c from rfl,R.az,bD,hx,R.az,bG,R.az,R.az,R.az]
  exact hn
 unfold sB;rw[eF,ek,cH,hcl];rfl
theorem gC{j m:Nat}{l:List D}{y:Int}{c c':aa}(ht:aN [.ref j,.int 7] c=.ok (.int y) c') (y0:0<=y) (y1:y<7):sC [a0,a1,ζ (.ref j),a3,ζ (.int (m:Int)),a5,a6,a7,a8,ζ (.lst l),aL] c=.ok (.nx [a0,a1,ζ (.ref j),a3,ζ (.int (m:Int)),a5,a6,a7,a8,ζ (.lst l),aL]) c':=by
 have hl:l7 [a0,a1,ζ (.ref j),a3,ζ (.int (m:Int)),a5,a6,a7,a8,ζ (.lst l),aL] c=.ok (.lst [.aI,.tup l,.gK,.str "",.int 3,.tup [.tup [.int 0,.int 1]],.bl Γ]) c:=oX (aY rfl (aY rfl (aY rfl (aY rfl (aY rfl (aY (dY (aY (dY (aY rfl (aY rfl cL)) (by simp)) cL) (by simp)) (aY rfl cL))))))) (by simp)
 obtain⟨d,hd,e⟩:=uJ hl (jV (i:=2) (a:=dC (.int 7)) (e:=[a0,a1,ζ (.ref j),a3,ζ (.int (m:Int)),a5,a6,a7,a8,ζ (.lst l),aL]) rfl rfl ht) y0 (by simpa using y1)
 have hi:bC [d,.ty "list"] c'=.ok (.bl θ) c':=by
  simp only[afW,agp,or_false]at hd
  rcases hd with rfl|rfl|rfl|rfl|rfl|rfl|rfl<;>rfl
 have hcl:aC 2 iG (ao (ak 4) (ao (ay aK l7 (aC 2 aN (ao (ak 2) (ao (dC (.int 7)) aq)))) aq)) [a0,a1,ζ (.ref j),a3,ζ (.int (m:Int)),a5,a6,a7,a8,ζ (.lst l),aL] c=.ok (.str "places") c':=by
  rw[x_call,bD,show ak 4 [a0,a1,ζ (.ref j),a3,ζ (.int (m:Int)),a5,a6,a7,a8,ζ (.lst l),aL] c=.ok (.int (m:Int)) c from rfl,R.az,bD,e,R.az,bG,R.az,R.az,R.az]
  exact F2 (Tt hi)
 unfold sC;rw[eF,ek,cH,hcl];rfl
theorem gD{X Y:D}{c:aa}(h:iG [X,Y] c=.ok (.str "told") c):sD [a0,a1,a2,a3,ζ X,a5,a6,a7,a8,ζ Y,aL] c=.ok (.nx [a0,a1,a2,a3,ζ X,a5,a6,a7,a8,ζ Y,aL]) c:=by simp[sD,h]
theorem g5{T:D}{b:Bool}{c:aa}(h:oQ [T] c=.ok (.bl b) c):s5 [a0,a1,a2,a3,a4,ζ T,ζ (.bl b),a7,a8,a9,aL] c=.ok (.nx [a0,a1,a2,a3,a4,ζ T,ζ (.bl b),a7,a8,a9,aL]) c:=by simp[s5,h]
end
theorem Tw{ns:List Int}{i:Int}(hi:0<=i) (c:aa) (v2 v3 v4 v5 v6 v7 v8 v9 v10:Option D) :
  ∃e' c',(∃w1 w2 w3 w4 w5 w6 w7 w8 w9 ju,e'=[ζ (.bQ ns),w1,w2,w3,w4,w5,w6,w7,w8,w9,ju])/\uO [ζ (.bQ ns),ζ (.int i),v2,v3,v4,v5,v6,v7,v8,v9,v10] c=.ok (.nx e') c':=by
 obtain⟨x,hx⟩:=acD ns i hi c;obtain⟨p,hp⟩:=RN x c;have P0:eS c.length (c.length+1) (c++[.lst [.int p]]):=⟨by simp,by omega,p,by simp⟩
 obtain⟨m,f,c1,m1,m10,hf,P1,t1⟩:=acX (most:=10) P0 (by omega) (by omega)
 have hrw:rT [bw m f] c1=.ok (aP (wF m f)) c1:=by rw[<-Qz];exact Qy f (by omega) c1
 have wl:(wF m f).length=m:=FE m f;have wr:∀r∈wF m f,r.length<=12:=λr hr=>by
  obtain⟨k,_,rfl⟩:=af4.mp hr;have:(kX m f k).length<=m:=by unfold kX;exact agf (List.length_filter_le _ _) (by simp)
  omega
 obtain⟨T,c2,hT,P2,t2⟩:=ac6 P1 (w:=wF m f) (by omega) (by omega) wr
 obtain⟨b,hb1,hb2⟩:=hT.same c2;obtain⟨o,c3,o0,o1,P3,t3⟩:=fN (bR:=(m:Int)) P2 (by omega) (by omega)
 obtain⟨y,c4,y0,y1,P4,t4⟩:=fN (bR:=(((j3 m).map bx).length:Int)+1) P3 (by omega) (by rw[af7,AG];omega)
 obtain⟨z,c5,z0,z1,P5,t5⟩:=fN (bR:=12) P4 (by omega) (by omega)
 obtain⟨u,c6,u0,u1,P6,t6⟩:=fN (bR:=7) P5 (by omega) (by omega)
 have e1:s1 [ζ (.bQ ns),ζ (.int i),ζ (.ref c.length),v3,v4,v5,v6,v7,v8,v9,v10] (c++[.lst [.int p]])=.ok (.nx [ζ (.bQ ns),ζ (.int i),ζ (.ref c.length),ζ (aP (wF m f)),v4,v5,v6,v7,v8,v9,v10]) c1:=by
  unfold s1;refine mL (i:=3) ?_;have h1:aC 2 rV (ao (ak 2) (ao (dC (.int 10)) aq)) [ζ (.bQ ns),ζ (.int i),ζ (.ref c.length),v3,v4,v5,v6,v7,v8,v9,v10] (c++[.lst [.int p]])=.ok (bw m f) c1:=by
   unfold aC;rw[aY (x:=.ref c.length) rfl (aY (x:=.int 10) rfl cL),R.az];exact t1
  unfold aC at h1 ⊢;rw[bD,h1,R.az,bG,R.az,R.az];exact hrw
 have e0:aE 2 (aC 1 oR (ao (aC 2 oV (ao (ak 0) (ao (ak 1) aq))) aq)) [ζ (.bQ ns),ζ (.int i),v2,v3,v4,v5,v6,v7,v8,v9,v10] c=.ok (.nx [ζ (.bQ ns),ζ (.int i),ζ (.ref c.length),v3,v4,v5,v6,v7,v8,v9,v10]) (c++[.lst [.int p]]):=by simp[hx,hp]
 have e2:aE 4 (aF bF (ao (ak 3) aq)) [ζ (.bQ ns),ζ (.int i),ζ (.ref c.length),ζ (aP (wF m f)),v4,v5,v6,v7,v8,v9,v10] c1=.ok (.nx [ζ (.bQ ns),ζ (.int i),ζ (.ref c.length),ζ (aP (wF m f)),ζ (.int (m:Int)),v5,v6,v7,v8,v9,v10]) c1:=kJ (i:=4) (iL (d1:=ak 3) (x:=aP (wF m f)) rfl (XH m f c1));have e3:aE 5 (aC 2 oW (ao (ak 2) (ao (ak 3) aq))) [ζ (.bQ ns),ζ (.int i),ζ (.ref c.length),ζ (aP (wF m f)),ζ (.int (m:Int)),v5,v6,v7,v8,v9,v10] c1=.ok (.nx [ζ (.bQ ns),ζ (.int i),ζ (.ref c.length),ζ (aP (wF m f)),ζ (.int (m:Int)),ζ T,v6,v7,v8,v9,v10]) c2:=by
  refine mL (i:=5) ?_;unfold aC;rw[aY (x:=.ref c.length) rfl (aY (x:=aP (wF m f)) rfl cL),R.az];exact t2
 have e4:aE 6 (aC 1 fR (ao (ak 5) aq)) [ζ (.bQ ns),ζ (.int i),ζ (.ref c.length),ζ (aP (wF m f)),ζ (.int (m:Int)),ζ T,v6,v7,v8,v9,v10] c2=.ok (.nx [ζ (.bQ ns),ζ (.int i),ζ (.ref c.length),ζ (aP (wF m f)),ζ (.int (m:Int)),ζ T,ζ (.bl b),v7,v8,v9,v10]) c2:=kJ (i:=6) (D5 (m:=fR) (d1:=ak 5) rfl hb1);have e6:aE 7 (aC 2 aN (ao (ak 2) (ao (ak 4) aq))) [ζ (.bQ ns),ζ (.int i),ζ (.ref c.length),ζ (aP (wF m f)),ζ (.int (m:Int)),ζ T,ζ (.bl b),v7,v8,v9,v10] c2=.ok (.nx [ζ (.bQ ns),ζ (.int i),ζ (.ref c.length),ζ (aP (wF m f)),ζ (.int (m:Int)),ζ T,ζ (.bl b),ζ (.int o),v8,v9,v10]) c3:=mL (i:=7) (jV rfl rfl t3);have wo:=M8 (c:=c6) (X:=.lst ((j3 m).map bx)) (.inr rfl) (G4 (m:=m)) (by rw[AG];omega) (by omega)
 refine⟨[ζ (.bQ ns),ζ (.int i),ζ (.ref c.length),ζ (aP (wF m f)),ζ (.int (m:Int)),ζ T,ζ (.bl b),ζ (.int o),ζ (.lst (ic m o)),ζ (.lst ((j3 m).map bx)),ζ (.int y)],c6,⟨_,_,_,_,_,_,_,_,_,_,rfl⟩,?_⟩;unfold uO;refine(bh e0).trans ((bh e1).trans ((bh e2).trans ((bh e3).trans ((bh e4).trans ((bh (g5 hb2)).trans ((bh e6).trans ((bh (g7 c3)).trans ((bh (g8 c3)).trans ((bh (g9 m1 (by omega) c3)).trans ((bh (gA t4)).trans ((bh (gB t5 z0 z1 rfl (by rw[af7,AG];omega) (UI o0 (by omega) c5) (λd hd=>?_))).trans ((bh (gC t6 u0 u1)).trans (gD (N9 wo))))))))))))))
 obtain⟨q,hq,rfl⟩:=af4.mp hd;obtain⟨q1,q2,q3⟩:=G4 q hq;exact Jh (by omega) (by omega) (by omega) (by omega) (by omega) c5
theorem XT(ns:List Int) (hl:ns.length<=63):∃c,uV [.bQ ns] []=.ok (.bl Γ) c:=by
 generalize hm:(if(if(30:Int)<ns.length then(30:Int)else ns.length)>1 then(if(30:Int)<ns.length then(30:Int)else ns.length)else 1)=m
 have hb:-4611686018427387904<=m/\m<4611686018427387904:=by
  rw[<-hm];split<;>(try split)<;>omega
 obtain⟨e',c',⟨w1,w2,w3,w4,w5,w6,w7,w8,w9,ju,rfl⟩,hf⟩:=J8 (g:=aA 1) (s:=uO)
  (λe=>∃w1 w2 w3 w4 w5 w6 w7 w8 w9 ju,e=[ζ (.bQ ns),w1,w2,w3,w4,w5,w6,w7,w8,w9,ju]) (aM 0 m) [ζ (.bQ ns),η,η,η,η,η,η,η,η,η,η] [] ⟨_,_,_,_,_,_,_,_,_,_,rfl⟩ (λt ht e c ⟨w1,w2,w3,w4,w5,w6,w7,w8,w9,ju,he⟩=>by
   subst he;obtain⟨i,rfl,i0,i1⟩:=oN ht;obtain⟨e',c',ie,ho⟩:=Tw (ns:=ns) i0 c w2 w3 w4 w5 w6 w7 w8 w9 ju;exact⟨_,e',_,c',rfl,ho,ie⟩)
 have hb2:tN=aD (b8 (bH (ao (aF oO (ao (dC (.int 1)) (ao (aF eZ (ao (aF bF (ao (ak 0) aq)) (ao (dC (.int 30)) aq))) aq))) aq)) (aA 1) uO) (aR (fH (ay jG (aC 1 fR (ao (aU (ao (aU aq) aq)) aq)) (dC (.bl Γ))) (ay jG (aC 1 fR (ao (aU (ao (aU (ao (dC (.int 0)) aq)) aq)) aq)) (dC (.bl θ))))):=rfl;have Cs:bH (ao (aF oO (ao (dC (.int 1)) (ao (aF eZ (ao (aF bF (ao (ak 0) aq)) (ao (dC (.int 30)) aq))) aq))) aq) [ζ (.bQ ns),η,η,η,η,η,η,η,η,η,η] []=.ok ⟨aM 0 m,λ_=>True⟩ []:=by
  simp;simp only[gt_iff_lt]at hm;rw[hm,if_pos (by omega)]
 have e1:b8 (bH (ao (aF oO (ao (dC (.int 1)) (ao (aF eZ (ao (aF bF (ao (ak 0) aq)) (ao (dC (.int 30)) aq))) aq))) aq)) (aA 1) uO [ζ (.bQ ns),η,η,η,η,η,η,η,η,η,η] []=.ok (.nx [ζ (.bQ ns),w1,w2,w3,w4,w5,w6,w7,w8,w9,ju]) c':=by
  rw[i8,Cs,R.az];exact hf
 have q1:ay jG (aC 1 fR (ao (aU (ao (aU aq) aq)) aq)) (dC (.bl Γ)) [ζ (.bQ ns),w1,w2,w3,w4,w5,w6,w7,w8,w9,ju] c'=.ok (.bl Γ) c':=iy (f:=jG) (D5 (m:=fR) (dY (aY (dY cL (by simp)) cL) (by simp)) (Y9 c')) rfl rfl
 have q2:ay jG (aC 1 fR (ao (aU (ao (aU (ao (dC (.int 0)) aq)) aq)) aq)) (dC (.bl θ)) [ζ (.bQ ns),w1,w2,w3,w4,w5,w6,w7,w8,w9,ju] c'=.ok (.bl Γ) c':=iy (f:=jG) (D5 (m:=fR) (dY (aY (dY (aY rfl cL) (by simp)) cL) (by simp)) (Y8 c')) rfl rfl
 refine⟨c'.take 0,?_⟩;unfold uV cy;rw[show cg 11 [D.bQ ns]=[ζ (.bQ ns),η,η,η,η,η,η,η,η,η,η]from rfl,hb2,bh e1,kH,zY,q1,R.az]
 dsimp only;rw[if_pos rfl,q2];rfl
open PyProof.Rows
theorem all_mk{l:aaS}{w:υ}{K:ξ}{h:ψ}{mg:Str->Option Δ}{fa:Ψ}{yL yK yN yQ yP yM yO yR yo yk ym yG yx yt yz yF yu yC yy yD yr yJ yH yv yp yE yw yI yq Dq:Ψ}(X:K.In h) (G:h.Ns Θ mg) (ZS:mg "law"=ζ (.ref fa))
  {Vd adG Vc adF Vf adI Vl adL Vh adK Ve adH Vg adJ Vm adM UM adk UK adi UL adj U7 adA UZ adt UU ado U1 adv U6 adz UW adp U3 adw U0 adu U4 adx UT adn Va adD U8 adB UX adq UR adl U5 ady UY ads U9 adC US adm Vb adE:Option Ψ}{Py Px PB PF PD Pz PC PJ O5 O2 O3 Pp Pf Pa Ph Po Pc Pj Pg Pk O9 Pu Pq Pd O7 Pn Pe Pr O8 Pw:Array (Option Δ)}{VO YH abB Sk Li ace VN YG abA Sj Lh acd VQ YJ abD Sm Lk acg VT YM abI Ss Ln acj VS YL abH So Lm aci VP YI abC Sl Lj acf VR YK abG Sn Ll ach VU YN abJ Su Lo ack Vr Ym abf RX KW abP Vp Yk abd RV KS abN Vq Yl abe RW KU abO VH YB abv Se Lc ab5 VA Yu abn R6 K5 abY Vw Yq abj R1 K1 abU VC Yw abp R8 K7 ab0 VG YA abu Sd Lb ab4 Vx Yr abk R3 K2 abV VD Yx abq R9 K8 ab1 VB Yv abo R7 K6 abZ VE Yy abr Sa K9 ab2 Vu Yp abi R0 K0 abT VL YE aby Sh Lf ab8 VI YC abw Sf Ld ab6 Vy Ys abl R4 K3 abW Vs Yn abg RY KY abQ VF Yz abt Sb La ab3 Vz Yt abm R5 K4 abX VJ YD abx Sg Le ab7 Vt Yo abh RZ KZ abS VM YF abz Si Lg ab9:Δ}
  (lZ:Ξ K Θ "is_whole"=ζ (ζ (.ref yL))) (BA:K.lookup yL=ζ ⟨VO,Vd,.func (PySem.W.fnOf "is_whole" "is_whole" (cU qW) (ck qW) (aX qW) .none YH abB Sk adG Li ace),Py⟩) (EA:PySem.W.codeIn K Li "is_whole"=Γ) (Ca:PySem.W.keepIn K (.ref yL)=Γ)
  (lY:Ξ K Θ "is_whole_within"=ζ (ζ (.ref yK))) (By:K.lookup yK=ζ ⟨VN,Vc,.func (PySem.W.fnOf "is_whole_within" "is_whole_within" (cU qV) (ck qV) (aX qV) .none YG abA Sj adF Lh acd),Px⟩) (Ez:PySem.W.codeIn K Lh "is_whole_within"=Γ) (B9:PySem.W.keepIn K (.ref yK)=Γ)
  (l5:Ξ K Θ "is_place"=ζ (ζ (.ref yN))) (BC:K.lookup yN=ζ ⟨VQ,Vf,.func (PySem.W.fnOf "is_place" "is_place" (cU qY) (ck qY) (aX qY) .none YJ abD Sm adI Lk acg),PB⟩) (EC:PySem.W.codeIn K Lk "is_place"=Γ) (Cc:PySem.W.keepIn K (.ref yN)=Γ)
  (l9:Ξ K Θ "are_rising_places"=ζ (ζ (.ref yQ))) (BF:K.lookup yQ=ζ ⟨VT,Vl,.func (PySem.W.fnOf "are_rising_places" "are_rising_places" (cU rm) (ck rm) (aX rm) .none YM abI Ss adL Ln acj),PF⟩) (EF:PySem.W.codeIn K Ln "are_rising_places"=Γ) (Cf:PySem.W.keepIn K (.ref yQ)=Γ)
  (l8:Ξ K Θ "is_mutual"=ζ (ζ (.ref yP))) (BE:K.lookup yP=ζ ⟨VS,Vh,.func (PySem.W.fnOf "is_mutual" "is_mutual" (cU rj) (ck rj) (aX rj) .none YL abH So adK Lm aci),PD⟩) (EE:PySem.W.codeIn K Lm "is_mutual"=Γ) (Ce:PySem.W.keepIn K (.ref yP)=Γ)
  (l0:Ξ K Θ "is_web"=ζ (ζ (.ref yM))) (BB:K.lookup yM=ζ ⟨VP,Ve,.func (PySem.W.fnOf "is_web" "is_web" (cU qX) (ck qX) (aX qX) .none YI abC Sl adH Lj acf),Pz⟩) (EB:PySem.W.codeIn K Lj "is_web"=Γ) (Cb:PySem.W.keepIn K (.ref yM)=Γ)
  (l6:Ξ K Θ "is_pair"=ζ (ζ (.ref yO))) (BD:K.lookup yO=ζ ⟨VR,Vg,.func (PySem.W.fnOf "is_pair" "is_pair" (cU qZ) (ck qZ) (aX qZ) .none YK abG Sn adJ Ll ach),PC⟩) (ED:PySem.W.codeIn K Ll "is_pair"=Γ) (Cd:PySem.W.keepIn K (.ref yO)=Γ)
  (mh:Ξ K Θ "are_pairs"=ζ (ζ (.ref yR))) (BG:K.lookup yR=ζ ⟨VU,Vm,.func (PySem.W.fnOf "are_pairs" "are_pairs" (cU rq) (ck rq) (aX rq) .none YN abJ Su adM Lo ack),PJ⟩) (EG:PySem.W.codeIn K Lo "are_pairs"=Γ) (Cg:PySem.W.keepIn K (.ref yR)=Γ)
  (lE:Ξ K Θ "row_where"=ζ (ζ (.ref yo))) (Bc:K.lookup yo=ζ ⟨Vr,UM,.func (PySem.W.fnOf "row_where" "row_where" (cU qA) (ck qA) (aX qA) .none Ym abf RX adk KW abP),O5⟩) (D9:PySem.W.codeIn K KW "row_where"=Γ) (BL:PySem.W.keepIn K (.ref yo)=Γ)
  (lD:Ξ K Θ "web_where"=ζ (ζ (.ref yk))) (Ba:K.lookup yk=ζ ⟨Vp,UK,.func (PySem.W.fnOf "web_where" "web_where" (cU qz) (ck qz) (aX qz) .none Yk abd RV adi KS abN),O2⟩) (D7:PySem.W.codeIn K KS "web_where"=Γ) (BJ:PySem.W.keepIn K (.ref yk)=Γ)
  (kB:Ξ K Θ "web_of"=ζ (ζ (.ref ym))) (Bb:K.lookup ym=ζ ⟨Vq,UL,.func (PySem.W.fnOf "web_of" "web_of" (cU nX) (ck nX) (aX nX) .none Yl abe RW adj KU abO),O3⟩) (D8:PySem.W.codeIn K KU "web_of"=Γ) (BK:PySem.W.keepIn K (.ref ym)=Γ)
  (lU:Ξ K Θ "_law_cell_at"=ζ (ζ (.ref yG))) (Bt:K.lookup yG=ζ ⟨VH,U7,.func (PySem.W.fnOf "_law_cell_at" "_law_cell_at" (cU qQ) (ck qQ) (aX qQ) .none YB abv Se adA Lc ab5),Pp⟩) (Es:PySem.W.codeIn K Lc "_law_cell_at"=Γ) (B4:PySem.W.keepIn K (.ref yG)=Γ)
  (lN:Ξ K Θ "_law_pot"=ζ (ζ (.ref yx))) (Bl:K.lookup yx=ζ ⟨VA,UZ,.func (PySem.W.fnOf "_law_pot" "_law_pot" (cU qJ) (ck qJ) (aX qJ) .none Yu abn R6 adt K5 abY),Pf⟩) (Ei:PySem.W.codeIn K K5 "_law_pot"=Γ) (BV:PySem.W.keepIn K (.ref yx)=Γ)
  (lI:Ξ K Θ "_law_take"=ζ (ζ (.ref yt))) (Bg:K.lookup yt=ζ ⟨Vw,UU,.func (PySem.W.fnOf "_law_take" "_law_take" (cU qE) (ck qE) (aX qE) .none Yq abj R1 ado K1 abU),Pa⟩) (Ed:PySem.W.codeIn K K1 "_law_take"=Γ) (BQ:PySem.W.keepIn K (.ref yt)=Γ)
  (lP:Ξ K Θ "_law_order"=ζ (ζ (.ref yz))) (Bo:K.lookup yz=ζ ⟨VC,U1,.func (PySem.W.fnOf "_law_order" "_law_order" (cU qL) (ck qL) (aX qL) .none Yw abp R8 adv K7 ab0),Ph⟩) (Ek:PySem.W.codeIn K K7 "_law_order"=Γ) (BX:PySem.W.keepIn K (.ref yz)=Γ)
  (lT:Ξ K Θ "_law_joined"=ζ (ζ (.ref yF))) (Bs:K.lookup yF=ζ ⟨VG,U6,.func (PySem.W.fnOf "_law_joined" "_law_joined" (cU qP) (ck qP) (aX qP) .none YA abu Sd adz Lb ab4),Po⟩) (Er:PySem.W.codeIn K Lb "_law_joined"=Γ) (B3:PySem.W.keepIn K (.ref yF)=Γ)
  (lJ:Ξ K Θ "_law_scattered"=ζ (ζ (.ref yu))) (Bh:K.lookup yu=ζ ⟨Vx,UW,.func (PySem.W.fnOf "_law_scattered" "_law_scattered" (cU qG) (ck qG) (aX qG) .none Yr abk R3 adp K2 abV),Pc⟩) (Ef:PySem.W.codeIn K K2 "_law_scattered"=Γ) (BR:PySem.W.keepIn K (.ref yu)=Γ)
  (lQ:Ξ K Θ "_law_near"=ζ (ζ (.ref yC))) (Bp:K.lookup yC=ζ ⟨VD,U3,.func (PySem.W.fnOf "_law_near" "_law_near" (cU qM) (ck qM) (aX qM) .none Yx abq R9 adw K8 ab1),Pj⟩) (Em:PySem.W.codeIn K K8 "_law_near"=Γ) (BY:PySem.W.keepIn K (.ref yC)=Γ)
  (lO:Ξ K Θ "_law_plain"=ζ (ζ (.ref yy))) (Bm:K.lookup yy=ζ ⟨VB,U0,.func (PySem.W.fnOf "_law_plain" "_law_plain" (cU qK) (ck qK) (aX qK) .none Yv abo R7 adu K6 abZ),Pg⟩) (Ej:PySem.W.codeIn K K6 "_law_plain"=Γ) (BW:PySem.W.keepIn K (.ref yy)=Γ)
  (lR:Ξ K Θ "_law_moved"=ζ (ζ (.ref yD))) (Bq:K.lookup yD=ζ ⟨VE,U4,.func (PySem.W.fnOf "_law_moved" "_law_moved" (cU qN) (ck qN) (aX qN) .none Yy abr Sa adx K9 ab2),Pk⟩) (Eo:PySem.W.codeIn K K9 "_law_moved"=Γ) (BZ:PySem.W.keepIn K (.ref yD)=Γ)
  (lH:Ξ K Θ "_law_toggled"=ζ (ζ (.ref yr))) (Bf:K.lookup yr=ζ ⟨Vu,UT,.func (PySem.W.fnOf "_law_toggled" "_law_toggled" (cU qD) (ck qD) (aX qD) .none Yp abi R0 adn K0 abT),O9⟩) (Ec:PySem.W.codeIn K K0 "_law_toggled"=Γ) (BP:PySem.W.keepIn K (.ref yr)=Γ)
  (lX:Ξ K Θ "_law_about"=ζ (ζ (.ref yJ))) (Bw:K.lookup yJ=ζ ⟨VL,Va,.func (PySem.W.fnOf "_law_about" "_law_about" (cU qT) (ck qT) (aX qT) .none YE aby Sh adD Lf ab8),Pu⟩) (Ew:PySem.W.codeIn K Lf "_law_about"=Γ) (B7:PySem.W.keepIn K (.ref yJ)=Γ)
  (lV:Ξ K Θ "_law_built"=ζ (ζ (.ref yH))) (Bu:K.lookup yH=ζ ⟨VI,U8,.func (PySem.W.fnOf "_law_built" "_law_built" (cU qR) (ck qR) (aX qR) .none YC abw Sf adB Ld ab6),Pq⟩) (Et:PySem.W.codeIn K Ld "_law_built"=Γ) (B5:PySem.W.keepIn K (.ref yH)=Γ)
  (lK:Ξ K Θ "_law_rows"=ζ (ζ (.ref yv))) (Bj:K.lookup yv=ζ ⟨Vy,UX,.func (PySem.W.fnOf "_law_rows" "_law_rows" (cU qH) (ck qH) (aX qH) .none Ys abl R4 adq K3 abW),Pd⟩) (Eg:PySem.W.codeIn K K3 "_law_rows"=Γ) (BS:PySem.W.keepIn K (.ref yv)=Γ)
  (lF:Ξ K Θ "_law_whole"=ζ (ζ (.ref yp))) (Bd:K.lookup yp=ζ ⟨Vs,UR,.func (PySem.W.fnOf "_law_whole" "_law_whole" (cU qB) (ck qB) (aX qB) .none Yn abg RY adl KY abQ),O7⟩) (Ea:PySem.W.codeIn K KY "_law_whole"=Γ) (BN:PySem.W.keepIn K (.ref yp)=Γ)
  (lS:Ξ K Θ "_law_kind_of"=ζ (ζ (.ref yE))) (Br:K.lookup yE=ζ ⟨VF,U5,.func (PySem.W.fnOf "_law_kind_of" "_law_kind_of" (cU qO) (ck qO) (aX qO) .none Yz abt Sb ady La ab3),Pn⟩) (Ep:PySem.W.codeIn K La "_law_kind_of"=Γ) (B0:PySem.W.keepIn K (.ref yE)=Γ)
  (lM:Ξ K Θ "_law_right"=ζ (ζ (.ref yw))) (Bk:K.lookup yw=ζ ⟨Vz,UY,.func (PySem.W.fnOf "_law_right" "_law_right" (cU qI) (ck qI) (aX qI) .none Yt abm R5 ads K4 abX),Pe⟩) (Eh:PySem.W.codeIn K K4 "_law_right"=Γ) (BU:PySem.W.keepIn K (.ref yw)=Γ)
  (lW:Ξ K Θ "_law_bent"=ζ (ζ (.ref yI))) (Bv:K.lookup yI=ζ ⟨VJ,U9,.func (PySem.W.fnOf "_law_bent" "_law_bent" (cU qS) (ck qS) (aX qS) .none YD abx Sg adC Le ab7),Pr⟩) (Eu:PySem.W.codeIn K Le "_law_bent"=Γ) (B6:PySem.W.keepIn K (.ref yI)=Γ)
  (lG:Ξ K Θ "_law_told"=ζ (ζ (.ref yq))) (Be:K.lookup yq=ζ ⟨Vt,US,.func (PySem.W.fnOf "_law_told" "_law_told" (cU qC) (ck qC) (aX qC) .none Yo abh RZ adm KZ abS),O8⟩) (Eb:PySem.W.codeIn K KZ "_law_told"=Γ) (BO:PySem.W.keepIn K (.ref yq)=Γ)
  (kC:Ξ K Θ "law"=ζ (ζ (.ref Dq))) (Bx:K.lookup Dq=ζ ⟨VM,Vb,.func (PySem.W.fnOf "law" "law" (cU qU) (ck qU) (aX qU) .none YF abz Si adE Lg ab9),Pw⟩) (Ey:PySem.W.codeIn K Lg "law"=Γ) (B8:PySem.W.keepIn K (.ref Dq)=Γ)
  (zM:Ξ K Θ "ValueError"=ζ η)
  (zL:Ξ K Θ "all"=ζ η)
  (zK:Ξ K Θ "any"=ζ η)
  (zJ:Ξ K Θ "bool"=ζ η)
  (zI:Ξ K Θ "enumerate"=ζ η)
  (zH:Ξ K Θ "int"=ζ η)
  (zG:Ξ K Θ "isinstance"=ζ η)
  (zF:Ξ K Θ "len"=ζ η)
  (zE:Ξ K Θ "list"=ζ η)
  (zD:Ξ K Θ "max"=ζ η)
  (zC:Ξ K Θ "min"=ζ η)
  (zB:Ξ K Θ "range"=ζ η)
  (zA:Ξ K Θ "set"=ζ η)
  (zz:Ξ K Θ "sorted"=ζ η)
  (zy:Ξ K Θ "tuple"=ζ η)
  {uf:Tok}(zN:Ξ K Θ "MOST_PLACES"=ζ (ζ (.int 50 uf)))
  {sL:Ψ}(wZ:Ξ K Θ "NoWeb"=ζ (ζ (.ref sL)))
  {sN:Ψ}(xh:Ξ K Θ "NoText"=ζ (ζ (.ref sN)))
  {sQ:Ψ}(xo:Ξ K Θ "NoNumbers"=ζ (ζ (.ref sQ)))
  {sS:Ψ}(xr:Ξ K Θ "NoField"=ζ (ζ (.ref sS)))
  {sM:Ψ}(xg:Ξ K Θ "NoThing"=ζ (ζ (.ref sM)))
  {sO:Ψ}(xj:Ξ K Θ "NoSquare"=ζ (ζ (.ref sO)))
  {pO:Ψ}(rG:Ξ K Θ "NoPlaces"=ζ (ζ (.ref pO)))
  {sJ:Ψ}(wY:Ξ K Θ "TooMany"=ζ (ζ (.ref sJ)))
  {sR:Ψ}(xq:Ξ K Θ "NoName"=ζ (ζ (.ref sR)))
  {sU:Ψ}(xu:Ξ K Θ "NoDeed"=ζ (ζ (.ref sU)))
  {sP:Ψ}(xm:Ξ K Θ "NoRow"=ζ (ζ (.ref sP)))
  {nB:Ψ}(wX:Ξ K Θ "WebError"=ζ (ζ (.ref nB)))
  (Dy:PySem.W.excIn K pO we "ValueError.__new__"=Γ)
  {mH mF:Ψ}(nR:PySem.W.tabIn K "web_of"=ζ (mH,mF)) (qp:PySem.W.codeHdIn K mH mF=Γ)
  (qt:ug K=Γ)
  (gq:zP K eg=Γ) (xw:zO K eg nB=Γ)
  : ∃fd:π,(∀(s:Ω) (v:Δ),aa6 s fd ⟨[v],[]⟩ [("script",v)])/\∀base:ψ,K.In base->base.Ns Θ mg->bV l.prog w K mg base bP 8 fa fd ["script"] (bX K 1 uV):=by
 have e:=ZS.symm.trans (afZ X G kC);cases e;have Mk:=dw (st:=qW) BA EA Ca;have fL:=Mk.binds (ps:=["thing"]) λ_ _ _ _ _ _ us hl=>match us,hl with|[_],_=>rfl
 have Mj:=dw (st:=qV) By Ez B9;have fK:=Mj.binds (ps:=["thing","least","most"]) λ_ _ _ _ _ _ us hl=>match us,hl with|[_,_,_],_=>rfl
 have Mm:=dw (st:=qY) BC EC Cc;have iW:=Mm.binds (ps:=["thing","many"]) λ_ _ _ _ _ _ us hl=>match us,hl with|[_,_],_=>rfl
 have Mq:=dw (st:=rm) BF EF Cf;have nC:=Mq.binds (ps:=["thing","many"]) λ_ _ _ _ _ _ us hl=>match us,hl with|[_,_],_=>rfl
 have Mp:=dw (st:=rj) BE EE Ce;have pV:=Mp.binds (ps:=["rows","one"]) λ_ _ _ _ _ _ us hl=>match us,hl with|[_,_],_=>rfl
 have Ml:=dw (st:=qX) BB EB Cb;have jR:=Ml.binds (ps:=["thing"]) λ_ _ _ _ _ _ us hl=>match us,hl with|[_],_=>rfl
 have Mn:=dw (st:=qZ) BD ED Cd;have gk:=Mn.binds (ps:=["thing","many"]) λ_ _ _ _ _ _ us hl=>match us,hl with|[_,_],_=>rfl
 have Mr:=dw (st:=rq) BG EG Cg;have lC:=Mr.binds (ps:=["thing","many"]) λ_ _ _ _ _ _ us hl=>match us,hl with|[_,_],_=>rfl
 have LR:=dw (st:=qA) Bc D9 BL;have sW:=LR.binds (ps:=["many","one","are_tied"]) λ_ _ _ _ _ _ us hl=>match us,hl with|[_,_,_],_=>rfl
 have LP:=dw (st:=qz) Ba D7 BJ;have sV:=LP.binds (ps:=["many","are_tied"]) λ_ _ _ _ _ _ us hl=>match us,hl with|[_,_],_=>rfl
 have LQ:=dw (st:=nX) Bb D8 BK;have pP:=LQ.binds (ps:=["many","pairs"]) λ_ _ _ _ _ _ us hl=>match us,hl with|[_,_],_=>rfl
 have Me:=dw (st:=qQ) Bt Es B4;have pT:=Me.binds (ps:=["script","k"]) λ_ _ _ _ _ _ us hl=>match us,hl with|[_,_],_=>rfl
 have L3:=dw (st:=qJ) Bl Ei BV;have pS:=L3.binds (ps:=["cell"]) λ_ _ _ _ _ _ us hl=>match us,hl with|[_],_=>rfl
 have LW:=dw (st:=qE) Bg Ed BQ;have pR:=LW.binds (ps:=["pot","far"]) λ_ _ _ _ _ _ us hl=>match us,hl with|[_,_],_=>rfl
 have L7:=dw (st:=qL) Bo Ek BX;have tE:=L7.binds (ps:=["pot","wide"]) λ_ _ _ _ _ _ us hl=>match us,hl with|[_,_],_=>rfl
 have Mc:=dw (st:=qP) Bs Er B3;have tK:=Mc.binds (ps:=["many","wanted"]) λ_ _ _ _ _ _ us hl=>match us,hl with|[_,_],_=>rfl
 have LX:=dw (st:=qG) Bh Ef BR;have sY:=LX.binds (ps:=["pot","most"]) λ_ _ _ _ _ _ us hl=>match us,hl with|[_,_],_=>rfl
 have L8:=dw (st:=qM) Bp Em BY;have tF:=L8.binds (ps:=["many","marks"]) λ_ _ _ _ _ _ us hl=>match us,hl with|[_,_],_=>rfl
 have L6:=dw (st:=qK) Bm Ej BW;have tw:=L6.binds (ps:=["pot","most"]) λ_ _ _ _ _ _ us hl=>match us,hl with|[_,_],_=>rfl
 have Ma:=dw (st:=qN) Bq Eo BZ;have tG:=Ma.binds (ps:=["table","order"]) λ_ _ _ _ _ _ us hl=>match us,hl with|[_,_],_=>rfl
 have LV:=dw (st:=qD) Bf Ec BP;have sX:=LV.binds (ps:=["table","one","other"]) λ_ _ _ _ _ _ us hl=>match us,hl with|[_,_,_],_=>rfl
 have Mh:=dw (st:=qT) Bw Ew B7;have tM:=Mh.binds (ps:=["table"]) λ_ _ _ _ _ _ us hl=>match us,hl with|[_],_=>rfl
 have Mf:=dw (st:=qR) Bu Et B5;have tL:=Mf.binds (ps:=["pot","most"]) λ_ _ _ _ _ _ us hl=>match us,hl with|[_,_],_=>rfl
 have LY:=dw (st:=qH) Bj Eg BS;have sZ:=LY.binds (ps:=["table"]) λ_ _ _ _ _ _ us hl=>match us,hl with|[_],_=>rfl
 have LS:=dw (st:=qB) Bd Ea BN;have kr:=LS.binds (ps:=["found"]) λ_ _ _ _ _ _ us hl=>match us,hl with|[_],_=>rfl
 have Mb:=dw (st:=qO) Br Ep B0;have tH:=Mb.binds (ps:=["e"]) λ_ _ _ _ _ _ us hl=>match us,hl with|[_],_=>rfl
 have LZ:=dw (st:=qI) Bk Eh BU;have ku:=LZ.binds (ps:=["thing"]) λ_ _ _ _ _ _ us hl=>match us,hl with|[_],_=>rfl
 have Mg:=dw (st:=qS) Bv Eu B6;have pU:=Mg.binds (ps:=["pot","web"]) λ_ _ _ _ _ _ us hl=>match us,hl with|[_,_],_=>rfl
 have LU:=dw (st:=qC) Be Eb BO;have pQ:=LU.binds (ps:=["many","thing"]) λ_ _ _ _ _ _ us hl=>match us,hl with|[_,_],_=>rfl
 have Mi:=dw (st:=qU) Bx Ey B8;have tN:=Mi.binds (ps:=["script"]) λ_ _ _ _ _ _ us hl=>match us,hl with|[_],_=>rfl
 let T:Tx K mg:={
  lZ:=yL,Di:=_,DQ:=⟨Mk,afZ X G lZ,fL⟩,WT:=lZ,
  lY:=yK,Dh:=_,yZ:=⟨Mj,afZ X G lY,fK⟩,WS:=lY,
  l5:=yN,Dk:=_,y9:=⟨Mm,afZ X G l5,iW⟩,WV:=l5,
  l9:=yQ,Dn:=_,DT:=⟨Mq,afZ X G l9,nC⟩,WY:=l9,
  l8:=yP,Dm:=_,DS:=⟨Mp,afZ X G l8,pV⟩,WX:=l8,
  l0:=yM,Dj:=_,vj:=⟨Ml,afZ X G l0,jR⟩,WU:=l0,
  l6:=yO,Dl:=_,DR:=⟨Mn,afZ X G l6,gk⟩,WW:=l6,
  mh:=yR,Dp:=_,za:=⟨Mr,afZ X G mh,lC⟩,WZ:=mh,
  lE:=yo,CU:=_,DA:=⟨LR,afZ X G lE,sW⟩,Ww:=lE,
  lD:=yk,CT:=_,Dz:=⟨LP,afZ X G lD,sV⟩,Wv:=lD,
  kB:=ym,yj:=_,vg:=⟨LQ,afZ X G kB,pP⟩,IA:=kB,
  lU:=yG,Dc:=_,DM:=⟨Me,afZ X G lU,pT⟩,WM:=lU,
  lN:=yx,C3:=_,DH:=⟨L3,afZ X G lN,pS⟩,WE:=lN,
  lI:=yt,CZ:=_,dP:=⟨LW,afZ X G lI,pR⟩,WA:=lI,
  lP:=yz,C5:=_,DJ:=⟨L7,afZ X G lP,tE⟩,WH:=lP,
  lT:=yF,C9:=_,yY:=⟨Mc,afZ X G lT,tK⟩,WL:=lT,
  lJ:=yu,C0:=_,DE:=⟨LX,afZ X G lJ,sY⟩,WB:=lJ,
  lQ:=yC,C6:=_,yX:=⟨L8,afZ X G lQ,tF⟩,WI:=lQ,
  lO:=yy,C4:=_,DI:=⟨L6,afZ X G lO,tw⟩,WG:=lO,
  lR:=yD,C7:=_,DK:=⟨Ma,afZ X G lR,tG⟩,WJ:=lR,
  lH:=yr,CY:=_,DC:=⟨LV,afZ X G lH,sX⟩,Wz:=lH,
  lX:=yJ,Df:=_,DP:=⟨Mh,afZ X G lX,tM⟩,WQ:=lX,
  lV:=yH,Dd:=_,DN:=⟨Mf,afZ X G lV,tL⟩,WN:=lV,
  lK:=yv,C1:=_,DF:=⟨LY,afZ X G lK,sZ⟩,WC:=lK,
  lF:=yp,CV:=_,DB:=⟨LS,afZ X G lF,kr⟩,Wx:=lF,
  lS:=yE,C8:=_,DL:=⟨Mb,afZ X G lS,tH⟩,WK:=lS,
  lM:=yw,C2:=_,DG:=⟨LZ,afZ X G lM,ku⟩,WD:=lM,
  lW:=yI,De:=_,DO:=⟨Mg,afZ X G lW,pU⟩,WO:=lW,
  lG:=yq,CW:=_,vh:=⟨LU,afZ X G lG,pQ⟩,Wy:=lG,
  kC:=fa,Dg:=_,Kz:=⟨Mi,afZ X G kC,tN⟩,WR:=kC,
  Iw:=agD X G zM,
  oK:=agD X G zL,
  Iu:=agD X G zK,
  xN:=agD X G zJ,
  A0:=agD X G zI,
  AZ:=agD X G zH,
  ez:=agD X G zG,
  gG:=agD X G zF,
  rQ:=agD X G zE,
  Ir:=agD X G zD,
  oJ:=agD X G zC,
  dg:=agD X G zB,
  Iq:=agD X G zA,
  Ip:=agD X G zz,
  jh:=agD X G zy,
  uf:=uf,J0:=afZ X G zN,
  sL:=sL,JP:=afZ X G wZ,Ic:=wZ,
  sN:=sN,JR:=afZ X G xh,Ig:=xh,
  sQ:=sQ,JW:=afZ X G xo,Ik:=xo,
  sS:=sS,JY:=afZ X G xr,Im:=xr,
  sM:=sM,JQ:=afZ X G xg,Ie:=xg,
  sO:=sO,JT:=afZ X G xj,Ih:=xj,
  pO:=pO,JV:=afZ X G rG,Ij:=rG,
  sJ:=sJ,JO:=afZ X G wY,Ib:=wY,
  sR:=sR,JX:=afZ X G xq,Il:=xq,
  sU:=sU,JZ:=afZ X G xu,Io:=xu,
  sP:=sP,JU:=afZ X G xm,Ii:=xm,
  nB:=nB,JN:=afZ X G wX,Wr:=wX,
  Fj:=vF.of rG (afZ X G rG) Dy,
  mH:=mH,mF:=mF,nR:=nR,qp:=qp,
  qt:=qt,
  gq:=vE.of gq,xw:=xw}
 exact⟨_,λs v=>.of_eq rfl,λbase _ _=>Uw T⟩
theorem walk{l:aaS}{q:τ}{loose:List Str}{XP:(Str->Option Δ)->ψ->Prop}{YP:υ->ψ->Prop}{d:DefRec}{K:Params->ξ}{ts:List (Ψ×Ψ)}(hn:l.most=ζ 63) (hdf:d.params.defaults=[])
  (hY:∀(w:υ) (h:ψ),YP w h->(K w.params).In h/\∀q∈ts,h.get? q.2=ζ (PySem.W.tabObj #[]))
  (hK:∀p,(ts.all λq=>PySem.W.codeHdIn (K p) q.1 q.2)=Γ/\PySem.W.noTabs (K p)=Γ/\Ah (K p) ts=Γ)
  (F:∀(w:υ) (mg:Str->Option Δ) (fa:Ψ) (h:ψ),(K w.params).In h->h.Ns Θ mg->mg d.name=ζ (.ref fa) ->
   ∃fd:π,(∀(s:Ω) (u:Δ),aa6 s fd ⟨[u],[]⟩ [("script",u)])/\∀base:ψ,(K w.params).In base->base.Ns Θ mg->bV l.prog w (K w.params) mg base bP 8 fa fd ["script"] (bX (K w.params) 1 uV)) :
  PySem.W.WalkO q loose XP YP l.row.toRowW d [] (λf vs=>PySem.call f vs) :=
 L2.Ng (n:=63) (k:=8) (x:="script") hn (by decide) hdf ⟨rfl,by decide,by decide⟩ hY hK F XT
end Ev
noncomputable 
def PySem.W.Fast.tw2563554232855482609:Nat:=0
noncomputable def PySem.W.Fast.tw13849221592364935440:Nat:=0
noncomputable def PySem.W.Fast.tw14992509123534316230:Nat:=0
noncomputable def PySem.W.Fast.tw1327253984187375990:Nat:=0
noncomputable def PySem.W.Fast.tw1955974442060858467:Nat:=0
noncomputable def PySem.W.Fast.tw9378119732064771829:Nat:=0
noncomputable def PySem.W.Fast.tw12139834695597537267:Nat:=0
noncomputable def PySem.W.Fast.tw12344972351558144684:Nat:=0
noncomputable def PySem.W.Fast.tw9600451672067501824:Nat:=0
noncomputable def PySem.W.Fast.tw4044081068263536106:Nat:=0
noncomputable def PySem.W.Fast.tw10311812416157140459:Nat:=0
noncomputable def PySem.W.Fast.tw8851233569133948187:Nat:=0
noncomputable def PySem.W.Fast.tw14946158669382707386:Nat:=0
noncomputable def PySem.W.Fast.tw4912949606618086156:Nat:=0
noncomputable def PySem.W.Fast.tw9286622525900240366:Nat:=0
noncomputable def PySem.W.Fast.tw10525423975099385948:Nat:=0
noncomputable def PySem.W.Fast.tw14808522783155943481:Nat:=0
noncomputable def PySem.W.Fast.tw17673406328669153694:Nat:=0
noncomputable def PySem.W.Fast.tw12005390787107340575:Nat:=0
noncomputable def PySem.W.Fast.tw3534192626466478442:Nat:=0
noncomputable def PySem.W.Fast.tw9023703653715214812:Nat:=0
noncomputable def PySem.W.Fast.tw727386908508761670:Nat:=0
noncomputable def PySem.W.Fast.tw4353054007788263715:Nat:=0
noncomputable def PySem.W.Fast.tw7587112372812793481:Nat:=0
noncomputable def PySem.W.Fast.tw14497317195798776808:Nat:=0
noncomputable def PySem.W.Fast.tw87319561693662607:Nat:=0
noncomputable def PySem.W.Fast.tw5193772684695395786:Nat:=0
noncomputable def PySem.W.Fast.tw7598732400655933832:Nat:=0
noncomputable def PySem.W.Fast.tw1468040915995420547:Nat:=0
noncomputable def PySem.W.Fast.tw7906271774558648051:Nat:=0
noncomputable def PySem.W.Fast.tw14981792510022614480:Nat:=0
noncomputable def PySem.W.Fast.tw11521278981927951521:Nat:=0
noncomputable def PySem.W.Fast.tw7604718658224886749:Nat:=0
noncomputable def PySem.W.Fast.tw14871463601480041365:Nat:=0
noncomputable def PySem.W.Fast.tw12133389670192808554:Nat:=0
noncomputable def PySem.W.Fast.tw16690253684068653241:Nat:=0
noncomputable def PySem.W.Fast.tw8857202939774109430:Nat:=0
noncomputable def PySem.W.Fast.tw14652691722909558084:Nat:=0
noncomputable def PySem.W.Fast.tw2831203777764009634:Nat:=0
noncomputable def PySem.W.Fast.tw2627038629747383381:Nat:=0
noncomputable def PySem.W.Fast.tw16299130019011026456:Nat:=0
open PySem PySem.W PyProof.Rows
set_option maxRecDepth 100000 in
set_option maxHeartbeats 0 in
theorem PySem.Challenge.cw_evenwebs_k02_no_webs_and_no_pairs_holds : PySem.Challenge.rw_evenwebs_k02_no_webs_and_no_pairs.Holds := by
  w_on; o_law; k_head; (case hw => w_witness2)
  k_fill
  refine Ev.walk (l := PySem.Challenge.rw_evenwebs_k02_no_webs_and_no_pairs) (ts := [(225, 221)]) rfl rfl (fun w h Y => ⟨PySem.W.km_in_of Y, List.forall_mem_cons.mpr ⟨PySem.W.km_tabs_of Y _ (by first | k_mem | decide), fun _ h => nomatch h⟩⟩) (fun p => ⟨by kernel_rfl, by kernel_rfl, by kernel_rfl⟩) ?F
  case F =>
    intro w mg fa h KX G hmg
    refine' Ev.all_mk (mH := 225) (mF := 221) KX G hmg ?lZ ?BA ?EA ?Ca ?lY ?By ?Ez ?B9 ?l5 ?BC ?EC ?Cc ?l9 ?BF ?EF ?Cf ?l8 ?BE ?EE ?Ce ?l0 ?BB ?EB ?Cb ?l6 ?BD ?ED ?Cd ?mh ?BG ?EG ?Cg ?lE ?Bc ?D9 ?BL ?lD ?Ba ?D7 ?BJ ?kB ?Bb ?D8 ?BK ?lU ?Bt ?Es ?B4 ?lN ?Bl ?Ei ?BV ?lI ?Bg ?Ed ?BQ ?lP ?Bo ?Ek ?BX ?lT ?Bs ?Er ?B3 ?lJ ?Bh ?Ef ?BR ?lQ ?Bp ?Em ?BY ?lO ?Bm ?Ej ?BW ?lR ?Bq ?Eo ?BZ ?lH ?Bf ?Ec ?BP ?lX ?Bw ?Ew ?B7 ?lV ?Bu ?Et ?B5 ?lK ?Bj ?Eg ?BS ?lF ?Bd ?Ea ?BN ?lS ?Br ?Ep ?B0 ?lM ?Bk ?Eh ?BU ?lW ?Bv ?Eu ?B6 ?lG ?Be ?Eb ?BO ?kC ?Bx ?Ey ?B8 ?zM ?zL ?zK ?zJ ?zI ?zH ?zG ?zF ?zE ?zD ?zC ?zB ?zA ?zz ?zy ?zN ?wZ ?xh ?xo ?xr ?xg ?xj ?rG ?wY ?xq ?xu ?xm ?wX ?Dy ?nR ?qp ?qt ?gq ?xw
    case lZ|BA|EA|Ca|lY|By|Ez|B9|l5|BC|EC|Cc|l9|BF|EF|Cf|l8|BE|EE|Ce|l0|BB|EB|Cb|l6|BD|ED|Cd|mh|BG|EG|Cg|lE|Bc|D9|BL|lD|Ba|D7|BJ|kB|Bb|D8|BK|lU|Bt|Es|B4|lN|Bl|Ei|BV|lI|Bg|Ed|BQ|lP|Bo|Ek|BX|lT|Bs|Er|B3|lJ|Bh|Ef|BR|lQ|Bp|Em|BY|lO|Bm|Ej|BW|lR|Bq|Eo|BZ|lH|Bf|Ec|BP|lX|Bw|Ew|B7|lV|Bu|Et|B5|lK|Bj|Eg|BS|lF|Bd|Ea|BN|lS|Br|Ep|B0|lM|Bk|Eh|BU|lW|Bv|Eu|B6|lG|Be|Eb|BO|kC|Bx|Ey|B8|zM|zL|zK|zJ|zI|zH|zG|zF|zE|zD|zC|zB|zA|zz|zy|zN|wZ|xh|xo|xr|xg|xj|rG|wY|xq|xu|xm|wX=>k_is
    (case Dy => k_exc)
    (case nR => kernel_rfl)
    (case qp => kernel_rfl)
    (case qt => kernel_rfl)
    (case gq => kernel_rfl)
    (case xw => kernel_rfl)
