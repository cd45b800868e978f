import PyProof.Rows.All
import Wide.All
import OpenK.AllK
import Wide.FinOn
import Lean
import PyProof.EqAt
import PyProof.EqKinds
import PyProof.TupleCall
import PySem.Challenge.RW_evenwebs_k35_whole_ways_of_even_webs
import PyProof.P3In
import PyProof.EqLayable
import PyProof.SumAny
import PyProof.NoPylong
import PyProof.FitsBits
import PyProof.Rows.Range3
import PyProof.DictRoads
import PyProof.DictKinds
import PyProof.Rows.FactsT2
import KE.KRevIter
import PyProof.SetScanFacts
import PyProof.SetKind
import PyProof.Rows.SetFrom
import PyProof.Walks
import PyProof.DictValues
import PyProof.FactsAll.set_1
import PyProof.DictWalks
import KE.KDictSum
import PyProof.SetRoads
import PyProof.MeetsSeq2
import PyProof.WalksMore
import PyProof.AutoSeq1
import PyProof.ListRange
import PyProof.Rows.SortShell
import PyProof.TupleOfSeq
import KE.KLam
set_option Elab.async false
set_option linter.all false
set_option maxHeartbeats 4000000
set_option maxRecDepth 100000
set_option bootstrap.genMatcherCode false
set_option genSizeOfSpec false
set_option genSizeOf false
open PySem renaming wpAny_bind→afO,wpAny_pure→afP,boot_len→agb,wpAny_mono→agq,wpAny_field→agP,mem_of_lookup→agT,wpAny_call_entry→agZ,wpAny_holding→ag5,codeAny_mono→ag6,wpAny_askSetting→ahc,wpAny_seqItems→ahg,wpAny_truthy_bool→ahl,wpAny_passesOwn→ahm,wpAny_pyIter_tuple→ahn,sizeLine_eq→ahx,call_meets→ahA,wpAny_newObj_type→ahC,wpAny_callSpecial?_slot→ahD,wpAny_setField_rec→ahF,wpAny_isInstance→ahG,wpAny_setState_of→ahI,wpAny_call→ahL,wpAny_Call_Name_kw→ahM,wpAny_setField→ahS,wpAny_of_eq→ahT,codeAny_builtin→ah3,sub_set_self→ah4,wpAny_setEntries_of→ah7,wpAny_execs_nil→aie,wpAny_pyIter_list→aif,wpAny_rule→aim,wpAny_onRaise→ain,wpAny_attempt→aio,isSubtype_type→aix,wpAny_standAt→aiN,pushCells_keeps→aiW,wpAny_updateSeq_pair→aiZ,wpAny_pyIter_zip→ai0,codeAny_of_tree→ajm,entryFor_alias→ajn,wpAny_setEpoch_of→ajp,wpAny_pyNext_range_end→ajL,wpAny_pyIter_rangeiter→ajM,list_append→ajW,wpAny_comprehension_free→ajY,weight_type_call_type→akh,builtinLookup_eq_fast→akk
open Nat renaming le_refl→afQ,ne_of_lt→afZ,lt_of_lt_of_le→af2,zero_add→age,le_trans→agg,lt_irrefl→agB,ne_of_gt→agH,succ_mul→agJ,zero_le→agR,lt_succ_self→agY,le_of_lt→ag4,le_of_eq→ag9,lt_of_le_of_lt→ahb,sub_self→ahh,mul_le_mul→ahv,le_succ→ahz,lt_succ_of_lt→ahB,le_add_right→ahH,add_comm→ahQ,mul_comm→ahR,add_zero→ahU,testBit_two_pow_sub_one→ah0,mod_lt→ah5,add_left_cancel→aiq,min_eq_left→aiH,mul_le_mul_right→aiI,lt_or_gt_of_ne→aiJ,lt_trans→ai6,not_lt_zero→ai7,lt_trichotomy→ai8,lt_or_ge→aje,mul_add_div→ajD,div_eq_of_lt→ajE,le_of_not_lt→ajX,eq_zero_or_pos→aka,eq_of_beq_eq_true→akz,le_of_ble_eq_true→akA,pow_le_pow_right→akD,div_lt_of_lt_mul→akJ,div_add_mod→akK,add_sub_cancel_left→akL
open List renaming mem_range→afR,mem_cons→afT,getElem?_eq_getElem→afV,mem_map→afW,all_eq_true→afX,length_map→afY,length_cons→af0,size_toArray→af4,not_mem_nil→af5,getElem?_map→af6,map_map→af7,getElem?_eq_some_iff→af8,map_cons→af9,getD_eq_getElem?_getD→aga,nil_append→agf,length_append→agh,getElem_mem→agi,length_nil→agj,mem_cons_of_mem→agk,getElem?_append_left→agl,mem_filter→agm,mem_of_getElem?→agn,map_congr_left→agp,lookup_cons→ags,mem_singleton→agu,mem_of_mem_take→agv,mem_cons_self→agw,append_assoc→agy,getElem?_set_ne→agz,mem_append→agC,getElem?_append_right→agD,getElem?_range→agG,mem_append_right→agI,map_append→agK,getElem?_set_self→agM,replicate_succ→agO,set_cons_succ→agQ,append_nil→agS,take_length→agV,range_succ→agW,nodup_cons→agX,length_range→ag0,set_cons_zero→ag3,length_take→ag7,flatten_cons→ag8,any_eq_true→aha,getElem?_eq_none→ahi,pairwise_cons→ahj,length_filter_le→ahk,mem_iff_getElem→ahr,zipWith_cons_cons→ahs,eraseIdx_eq_take_drop_succ→aht,filter_cons→ahu,mem_filterMap→ahw,zip_cons_cons→ahJ,take_of_length_le→ahK,of_mem_zip→ahN,foldl_cons→ahP,nodup_append→ahV,getElem?_take→ahW,getElem_range→ahX,getElem?_concat_length→ahZ,pairwise_map→ah1,take_succ_eq_append_getElem→ah2,any_cons→ah8,nodup_range→ah9,filter_sublist→aib,filterMap_cons→aic,getElem_inj→aid,getElem?_take_of_lt→aij,length_replicate→aik,take_zero→air,drop_eq_getElem_cons→ais,pairwise_iff_getElem→ait,length_pos_of_mem→aiu,ext_getElem→aiv,pairwise_lt_range→aiw,map_id→aiz,cons_append→aiA,map_take→aiC,flatMap_append→aiG,mem_mapIdx→aiK,countP_eq_length_filter→aiL,any_eq_false→aiP,take_sublist→aiR,length_set→aiT,map_nil→aiU,forIn_cons→aiV,length_zipWith→ai1,getElem_take→ai2,length_reverse→ai5,getElem_of_mem→ai9,mem_erase_of_ne→aja,length_erase_of_mem→ajb,find?_eq_none→ajd,findIdx?_eq_none_iff→ajh,foldl_append→aji,take_append_drop→ajj,length_eq_zero_iff→ajo,ext_getElem?→ajq,foldl_reverse→ajx,foldr_cons→ajy,filter_eq_self→ajz,flatMap_cons→ajA,mem_flatMap→ajB,filter_append→ajF,any_map→ajG,sum_cons→ajH,range_succ_eq_map→ajI,mem_append_left→ajJ,getElem?_zip_eq_some→ajZ,zipIdx_cons→aj2,zipIdx_nil→aj3,getElem?_zipWith→aj4,getElem?_mapIdx→aj5,drop_eq_nil_of_le→aj6,find?_cons_of_pos→aj7,find?_cons_of_neg→aj8,mem_of_mem_drop→akb,perm_append_singleton→akd,map_filterMap→ake,perm_middle→akl,length_eraseIdx_of_lt→akm,perm_ext_iff_of_nodup→akq,mem_reverse→aku,reverse_cons→akv,mem_map_of_mem→akw,getElem_map→akB,length_pos_iff→akC,set_append_right→akE,filter_cons_of_pos→akG,filter_cons_of_neg→akH,mem_flatten→akI,length_range'→akM,map_reverse→akN,length_eq_countP_add_countP→akO,forall_mem_cons→akP
open PySem.Heap renaming get?_push_of_some→afS,lt_size→afU,get?_push_size→af3,size_push→agt,get?_update_other→ahy,get?_update_self→ahO
open Bool renaming and_eq_true→af1,false_ne_true→agd,false_eq_true→agU,eq_iff_iff→ahe,or_eq_true→ahp,not_true→aiy,false_and→aiO,false_or→ajC
open Option.some renaming inj→agc
open Array renaming length_toList→ago,getElem?_toList→ahf,getElem?_eq_getElem→ah6,toList_push→ajg,find?_toList→ajO,getD_eq_getD_getElem?→aj9,getElem?_eq_none→akn,toList_append→akt
open Ne renaming symm→agx
open PySem.F renaming called_set→agA,slot_tuple_iterator_next→ail,slot_zip_next→aip,plainAttrs_list→ai3,slot_tuple_add→ajR,entry_tuple_add→ajS,args_tuple_add_2→ajT,entry_tuple_iterator_next→aj0,args_tuple_iterator_next_1→aj1,plain_set_new→akf,entry_type_call→akg,typeCall_set_1→aki,entry_set_init→akj,slot_set_iter→ako,slot_set_and→akr
open PySem.W renaming mg_none_of→agE,kia_one→agN,cellsFrom_some→aih,mg_of→aiB,kitx_dict→aiQ,rangeSize_down→ai4,kitx_list→ajP,callWith_K→ajQ,codeHd_of_K→aks,km_tabs_of→akQ
open PyProof.Rows renaming vals1→agF,boot_tuple→agL,callWith_type1→ahd,subscriptTail_builtinR→aiS
open Int renaming emod_nonneg→ag1,emod_lt_of_pos→ag2,toNat_natCast→aho,zero_add→ahY,pow_succ→aiD,add_mul→aiE,one_mul→aiF,le_refl→ajr,emod_emod_of_dvd→ajs,dvd_refl→ajt,ne_of_gt→aju,le_of_lt→ajv,add_comm→ajw,emod_eq_of_lt→akc,natCast_emod→akx,natCast_add→aky
open PySem.Heap.SameBut renaming update→ahq
open PySem.Obj renaming data_mapFields→ahE,isFreed_of_fields→aiX,cls_mapFields→aiY
open List.Pairwise renaming sublist→aia,imp_of_mem→akF
open Option renaming isSome_iff_exists→aii,getD_none→ajU
open PySem.Value renaming isInt_shape→aiM
open Classical renaming byContradiction→ajc
open PySem.SetTable renaming insertAt_perm→ajf
open PySem.Around renaming under_plainId→ajk
open PyProof.Rows.F renaming plain_set_update_loop→ajl
open PySem.Calls renaming Name_function_global→ajK
open PyProof renaming noPylong_small→ajN
open PySem.IsL renaming update→ajV
open List.Perm renaming of_eq→akp
open Option renaming some→ζ,none→η
open List renaming range→θ,replicate→ι,Nodup→ο
open PySem.W renaming Frag→ξ,nsIn→τ,OpenLaw→aaC
open PySem renaming Value→Γ,Addr→Ξ,Shared→Ψ,sizeLine→Ω,starEach→ε,mainGlobals→μ,Expr→ν,Program→π,Heap→υ,World→χ,Stmt→ψ,Around→ω,NameKind→aab,SetTable→aac,FuncData→aag,backTo→aaj,IsPair→aak,Scope→aaq,keywordEach→aat,Keyword→aav,Arguments→aax,IsZip→aay,attributeBase→aaA,DictEntry→aaB,IsRangeIter→aaD,backToKw→aaE,BindsTo→aaF,PyData→aaH,Draws→aaI,PassesOwn→aaN,TriplesOk→aaS
open Bool renaming true→Δ,false→Θ
open PySem.Heap renaming SameBut→aar,IsTuple→aaJ
open PyProof.Rows renaming IntsAre→aas,AllBare→aaz
open PySem.Shared renaming TypeIs→aaG
noncomputable section
namespace L2
open PySem PySem.Spec PyProof.Rows
abbrev Key:=Sum Int Str
def LG:Key->Γ->Bool
 |.inl k,v=>Value.isInt k v
 |.inr x,v=>Value.isStrOf x v
def Y7(w:χ):Key->Int
 |.inl k=>hashInt k
 |.inr x=>hashStr w x
theorem mq:∀{k:Key}{v:Γ},LG k v=Δ->(∃i t,k=Sum.inl i/\v=Value.int i t)\/(∃x t,k=Sum.inr x/\v=Value.str x t)
 |.inl i,v,h=>by
  obtain⟨t,e⟩:=aiM (k:=i) (v:=v) h;exact .inl ⟨i,t,rfl,e⟩
 |.inr x,v,h=>by
  obtain⟨t,e⟩:=Value.isStrOf_shape (x:=x) (v:=v) h;exact .inr ⟨x,t,rfl,e⟩
theorem Y6(a b:Int):decide ((Sum.inl a:Key)=Sum.inl b)=(a==b):=by
 by_cases e:a=b
 ·subst e;simp
 ·have h:¬(Sum.inl a:Key)=Sum.inl b:=λq=>e (Sum.inl.inj q)
  rw[decide_eq_false h];exact(beq_eq_false_iff_ne.mpr e).symm
theorem Y3(a b:Str):decide ((Sum.inr a:Key)=Sum.inr b)=decide (a=b):=by
 by_cases e:a=b
 ·subst e;simp
 ·have h:¬(Sum.inr a:Key)=Sum.inr b:=λq=>e (Sum.inr.inj q)
  rw[decide_eq_false h,decide_eq_false e]
theorem Y5(a:Int) (b:Str):decide ((Sum.inl a:Key)=Sum.inr b)=Θ:=decide_eq_false (λq=>nomatch q)
theorem Y4(a:Str) (b:Int):decide ((Sum.inr a:Key)=Sum.inl b)=Θ:=decide_eq_false (λq=>nomatch q)
def D0(prog:π) (w:χ):PySem.KeyKind prog w Key where
 is:=LG
 hash:=Y7 w
 inj:=λv a b ha hb=>by
  rcases mq ha with⟨i,t,rfl,rfl⟩|⟨x,t,rfl,rfl⟩
  ·rcases mq hb with⟨j,u,rfl,e⟩|⟨y,u,rfl,e⟩
   ·injection e with e1 _;rw[e1]
   ·exact nomatch e
  ·rcases mq hb with⟨j,u,rfl,e⟩|⟨y,u,rfl,e⟩
   ·exact nomatch e
   ·injection e with e1 _;rw[e1]
 byValue:=λk v h=>by
  rcases mq h with⟨i,t,rfl,rfl⟩|⟨x,t,rfl,rfl⟩<;>rfl
 pyHash:=λhv h=>by
  rcases mq hv with⟨i,t,rfl,rfl⟩|⟨x,t,rfl,rfl⟩
  ·exact wpAny_pyHash_int h
  ·exact wpAny_pyHash_str h
 eqBool:=λhu hv h=>by
  rcases mq hu with⟨i,t,rfl,rfl⟩|⟨x,t,rfl,rfl⟩
  ·rcases mq hv with⟨j,u,rfl,rfl⟩|⟨y,u,rfl,rfl⟩
   ·rw[Y6]at h;exact wpAny_eqBool_int h
   ·rw[Y5]at h;exact SeqAt.EqAt.int_str i t y u _ _ _ _ h
  ·rcases mq hv with⟨j,u,rfl,rfl⟩|⟨y,u,rfl,rfl⟩
   ·rw[Y4]at h;exact SeqAt.EqAt.str_int x t j u _ _ _ _ h
   ·rw[Y3]at h;exact wpAny_eqBool_str h
 «strs»:=λk x t v h=>by
  rcases mq h with⟨i,u,rfl,e⟩|⟨y,u,rfl,e⟩
  ·exact nomatch e
  ·injection e with e1 _
   subst e1;cases v<;>rfl
inductive V where
 |aL|bl (b:Bool)|int (i:Int)|str (x:Str)|jt (b:Array UInt8)|uo (b:UInt64)|ref (a:Ξ)|ty (n:String)
 deriving DecidableEq
def RelV:V->Γ->Prop
 |.aL,u=>u=Value.none
 |.bl b,u=>u=Value.bool b
 |.int i,u=>∃t,u=Value.int i t
 |.str x,u=>∃t,u=Value.str x t
 |.jt b,u=>∃t,u=Value.bytes b t
 |.uo b,u=>∃t,u=Value.float b t
 |.ref a,u=>u=Value.ref a
 |.ty n,u=>u=Value.type n
abbrev Vals:List V->List Γ->Prop:=Paired RelV
theorem Vals.length{xs:List V}{us:List Γ}(r:Vals xs us):xs.length=us.length:=Paired.length r
theorem Vals.get:∀{xs:List V}{us:List Γ}{i:Nat}{x:V},Vals xs us->xs[i]? = ζ x->∃u,us[i]? = ζ u/\RelV x u
 |_,_,_,_,.nil,e=>by simp at e
 |_,_,0,_,.cons r _,e=>by simp at e;subst e;exact⟨_,rfl,r⟩
 |_,_,i+1,x,.cons _ t,e=>by
  obtain⟨u,h1,h2⟩:=Vals.get (i:=i) (x:=x) t (by simpa using e)
  exact⟨u,by simpa using h1,h2⟩
theorem Vals.set{x:V}{u:Γ}(r:RelV x u):∀{xs:List V}{us:List Γ}(i:Nat),Vals xs us->Vals (xs.set i x) (us.set i u)
 |_,_,_,.nil=>.nil
 |_,_,0,.cons _ t=>.cons r t
 |_,_,i+1,.cons q t=>.cons q (Vals.set r i t)
theorem Vals.append:∀{xs ys:List V}{us ws:List Γ},Vals xs us->Vals ys ws->Vals (xs++ys) (us++ws)
 |_,_,_,_,.nil,s=>s
 |_,_,_,_,.cons r t,s=>.cons r (Vals.append t s)
theorem Vals.take:∀{xs:List V}{us:List Γ}(n:Nat),Vals xs us->Vals (xs.take n) (us.take n)
 |_,_,0,_=>.nil
 |_,_,_+1,.nil=>.nil
 |_,_,n+1,.cons r t=>.cons r (Vals.take n t)
theorem Vals.drop:∀{xs:List V}{us:List Γ}(n:Nat),Vals xs us->Vals (xs.drop n) (us.drop n)
 |_,_,0,r=>r
 |_,_,_+1,.nil=>.nil
 |_,_,n+1,.cons _ t=>Vals.drop n t
def GQ:Option V->Option Γ->Prop
 |some v,ζ u=>RelV v u
 |none,η=>True
 |_,_=>False
def KV{κ:Type}:List (κ×V)->List (κ×Γ)->Prop:=Paired fun(p:κ×V) (q:κ×Γ)=>p.1=q.1/\RelV p.2 q.2
def kV:Key->V
 |.inl i=>.int i
 |.inr x=>.str x
inductive HO where
 |lst (xs:List V)
 |tup (xs:List V)
 |dK (kvs:List (Key×V))|dT (kvs:List (List Key×V))
 |set (S:Int->Bool) (n:Nat)
 |ins (C dx:Ξ) (fs:List (Str×V))
 |own (x:Ξ)
 |xd (fs:List (Str×V))
 |met (f x:Ξ)
 |sQ (lo hi:Int)
 |dF (o:Obj) (u:HO)
 |dj (ps:Array Γ)
 |ext (φ:υ->Prop)
abbrev Hp:=Ξ->Option HO
def upd(H:Hp) (a:Ξ) (o:HO):Hp:=λb=>if b=a then ζ o else H b
theorem fU{H:Hp}{a:Ξ}{o:HO}:upd H a o a=ζ o:=by unfold upd;rw[if_pos rfl]
theorem cB{H:Hp}{a b:Ξ}{o:HO}(h:b≠a):upd H a o b=H b:=by unfold upd;rw[if_neg h]
theorem KU{H:Hp}{a b:Ξ}{o u:HO}(h:H a=ζ o) (h':H b=ζ u) (d:o≠u):a≠b:=by
 intro e;subst e;rw[h]at h';exact d (agc h')
theorem eB{H:Hp}{a b:Ξ}{o:HO}(h:H a=ζ o) (h':H b=η):a≠b:=by
 intro e;subst e;rw[h]at h';cases h'
def lz(h:υ) (a:Ξ) (items:Array Γ):Prop:=∃o,h.get? a=ζ o/\o.cls=.type "tuple"/\(∃n,o.data=.seq items n)/\o.dict=η
theorem lz.tup{h:υ}{a:Ξ}{items:Array Γ}:lz h a items->IsTup h a items:=fun⟨o,e,c,d,_⟩=>⟨o,e,c,d⟩
theorem lz.new(h:υ) (items:Array Γ):lz (h.push {cls:=.type "tuple",data:=.seq items}) h.objs.size items:=⟨_,af3 _ rfl,rfl,⟨_,rfl⟩,rfl⟩
section
variable (P:π) (w:χ)
def gf(H:Hp) (h:υ) (a:Ξ):HO->Prop
 |.lst xs=>xs.length<=Ω/\∃(its:List Γ) (n:Nat),Vals xs its/\h.get? a=ζ {cls:=.type "list",data:=.seq its.toArray n}
 |.tup xs=>xs.length<=Ω/\∃its:List Γ,Vals xs its/\lz h a its.toArray
 |.dK kvs=>kvs.length<=Ω/\(a==sysModules)=Θ/\∃vs,KV kvs vs/\h.DictOf (D0 P w) a vs
 |.dT kvs=>kvs.length<=Ω/\(a==sysModules)=Θ/\∃xs:List (List Key×Ξ×Γ),
   Paired (fun(p:List Key×V) (q:List Key×Ξ×Γ)=>p.1=q.1/\H q.2.1=ζ (.tup (p.1.map kV))/\RelV p.2 q.2.2) kvs xs /\
   ∃o es ep,h.get? a=ζ o/\o.ExactDict/\o.data=.dict es ep/\es.toList=xs.map (entryOfKey (tupleKind (D0 P w)))/\(xs.map (·.1)).Nodup
 |.set S n=>h.SetOf (intKind P w) a S n
 |.ins C dx fs=>H dx=ζ (.own a)/\fs.length<=1000/\dx≠a/\h.get? a=ζ (PySem.W.instObj C dx) /\
   ∃mA,h.Ns1 dx mA/\(∀f,GQ (fs.lookup f) (mA f))/\PySem.Within mA (fs.map (·.1))
 |.own _=>∃o,h.get? a=ζ o
 |.xd fs=>∃mA,h.Ns1 a mA/\∀f,GQ (fs.lookup f) (mA f)
 |.sQ lo hi=>∃t u v,h.get? a=ζ {cls:=.type "range",data:=.fields #[.int lo t,.int hi u,.int 1 v]}
 |.dF o u=>h.get? a=ζ o/\gf H h a u
 |.dj ps=>h.get? a=ζ {cls:=.none,data:=.fields ps}
 |.met f x=>h.get? a=ζ (PySem.W.methodObj (.ref f) (.ref x))
 |.ext φ=>φ h/\(∃o,h.get? a=ζ o)/\∀h1 h2:υ,φ h1->(∀o,h1.get? a=ζ o->h2.get? a=ζ o)->φ h2
def ez(H:Hp) (h:υ):Prop:=∀a o,H a=ζ o->gf P w H h a o
end
section
variable {P:π}{w:χ}{H H':Hp}{h h':υ}{a:Ξ}{o:HO}
theorem gf.lt(x:gf P w H h a o):a<h.objs.size:=by
 cases o with
 |lst xs=>obtain⟨_,_,_,_,e⟩:=x;exact afU e
 |tup xs=>obtain⟨_,_,_,p⟩:=x;exact p.tup.lt
 |dK kvs=>obtain⟨_,_,_,_,o,_,_,e,_⟩:=x;exact afU e
 |dT kvs=>obtain⟨_,_,_,_,o,_,_,e,_⟩:=x;exact afU e
 |set S n=>obtain⟨o,_,_,_,e,_⟩:=x;exact afU e
 |ins C dx fs=>obtain⟨_,_,_,e,_⟩:=x;exact afU e
 |own y=>obtain⟨_,e⟩:=x;exact afU e
 |xd fs=>obtain⟨_,⟨_,_,_,e,_⟩,_⟩:=x;exact afU e
 |sQ lo hi=>obtain⟨_,_,_,e⟩:=x;exact afU e
 |dF ob u=>obtain⟨e,_⟩:=x;exact afU e
 |dj ps=>exact afU (show h.get? a=ζ _ from x)
 |met f y=>exact afU (show h.get? a=ζ _ from x)
 |ext φ=>obtain⟨_,⟨_,e⟩,_⟩:=x;exact afU e
theorem Paired.La{α β:Type}{F G:α->β->Prop}:∀{l₁:List α}{l₂:List β},Paired F l₁ l₂->(∀a b,F a b->G a b)->Paired G l₁ l₂
 |_,_,.nil,_=>.nil
 |_,_,.cons r t,f=>.cons (f _ _ r) (Paired.La t f)
theorem gf.stay(x:gf P w H h a o) (k:∀b u,(b=a\/H b=ζ (.own a))->h.get? b=ζ u->h'.get? b=ζ u)
  (ho:∀b,H b=ζ (.own a)->H' b=ζ (.own a)) (ht:∀b xs,H b=ζ (.tup xs)->H' b=ζ (.tup xs)):gf P w H' h' a o:=by
 induction o with
 |lst xs=>obtain⟨z,its,n,r,e⟩:=x;exact⟨z,its,n,r,k _ _ (.inl rfl) e⟩
 |tup xs=>obtain⟨z,its,r,ob,e,c⟩:=x;exact⟨z,its,r,ob,k _ _ (.inl rfl) e,c⟩
 |dK kvs=>obtain⟨z,y,vs,r,ob,es,ep,e,c⟩:=x;exact⟨z,y,vs,r,ob,es,ep,k _ _ (.inl rfl) e,c⟩
 |dT kvs =>
  obtain⟨z,y,xs,r,ob,es,ep,e,c⟩:=x;exact⟨z,y,xs,Paired.La r λp q z=>⟨z.1,ht _ _ z.2.1,z.2.2⟩,ob,es,ep,k _ _ (.inl rfl) e,c⟩
 |set S n=>obtain⟨ob,es,ep,t,e,c⟩:=x;exact⟨ob,es,ep,t,k _ _ (.inl rfl) e,c⟩
 |ins C dx fs =>
  obtain⟨d,z,ne,e,mA,⟨od,es,ep,e2,c⟩,r⟩:=x;exact⟨ho _ d,z,ne,k _ _ (.inl rfl) e,mA,⟨od,es,ep,k _ _ (.inr d) e2,c⟩,r⟩
 |own y=>obtain⟨ob,e⟩:=x;exact⟨ob,k _ _ (.inl rfl) e⟩
 |xd fs=>obtain⟨mA,⟨od,es,ep,e,c⟩,r⟩:=x;exact⟨mA,⟨od,es,ep,k _ _ (.inl rfl) e,c⟩,r⟩
 |sQ lo hi=>obtain⟨t,u,v,e⟩:=x;exact⟨t,u,v,k _ _ (.inl rfl) e⟩
 |dF ob u ih=>obtain⟨e,q⟩:=x;exact⟨k _ _ (.inl rfl) e,ih q⟩
 |dj ps =>
  have e:h.get? a=ζ {cls:=.none,data:=.fields ps}:=x;show h'.get? a=ζ {cls:=.none,data:=.fields ps};exact k a _ (.inl rfl) e
 |met f y =>
  have e:h.get? a=ζ (PySem.W.methodObj (.ref f) (.ref y)):=x;show h'.get? a=ζ (PySem.W.methodObj (.ref f) (.ref y));exact k a _ (.inl rfl) e
 |ext φ=>obtain⟨p,⟨o,e⟩,st⟩:=x;exact⟨st _ _ p λo q=>k _ _ (.inl rfl) q,⟨o,k _ _ (.inl rfl) e⟩,st⟩
theorem ez.lt(x:ez P w H h) (e:H a=ζ o):a<h.objs.size:=(x a o e).lt
theorem ez.fresh(x:ez P w H h) (e:h.objs.size<=a):H a=η:=by
 cases q:H a with
 |none=>rfl
 |some u=>exact absurd (af2 (x.lt q) e) (agB _)
theorem ez.kept(x:ez P w H h) (k:∀b u,h.get? b=ζ u->h'.get? b=ζ u):ez P w H h':=λa o e =>
 (x a o e).stay (λb u _ q=>k b u q) (λ_ q=>q) λ_ _ q=>q
theorem ez.laid(x:ez P w H h) (k:∀b u,h.get? b=ζ u->h'.get? b=ζ u) (hp:h.objs.size<=a) (new:gf P w (upd H a o) h' a o):ez P w (upd H a o) h':=λb u e=>by
 have hn:=x.fresh hp
 by_cases hb:b=a
 ·subst hb;rw[fU]at e;cases e;exact new
 ·rw[cB hb]at e;exact(x b u e).stay (λc v _ q=>k c v q) (λc q=>by rw[cB (eB q hn)];exact q) λc xs q=>by rw[cB (eB q hn)];exact q
end
def Rd(H:Hp) (a:Ξ) (u:HO):Prop:=H a=ζ u\/∃o,H a=ζ (.dF o u)
theorem Rd.ok{P:π}{w:χ}{H:Hp}{h:υ}{a:Ξ}{u:HO}(r:Rd H a u) (x:ez P w H h):gf P w H h a u:=by
 rcases r with r|⟨o,r⟩
 ·exact x a u r
 ·obtain⟨_,q⟩:=x a _ r;exact q
def Bg:Option HO->Prop
 |some (.lst _)=>True
 |some (.dK _)=>True
 |some (.dT _)=>True
 |some (.set _ _)=>True
 |some (.ins _ _ _)=>True
 |some (.ext _)=>True
 |_=>False
section
variable {P:π}{w:χ}{H:Hp}{h h':υ}{x e:Ξ}{o':HO}
theorem ez.write(ok:ez P w H h) (mu:Bg (H x)) (he:e=x\/H e=ζ (.own x)) (k:∀b u,b≠e->h.get? b=ζ u->h'.get? b=ζ u) (ud:∃u,h'.get? e=ζ u)
  (new:gf P w (upd H x o') h' x o'):ez P w (upd H x o') h':=λb u q=>by
 have KC:∀c y,H c=ζ (.own y)->c≠x:=λc y r z=>by subst z;rw[r]at mu;exact mu
 have Xv:∀c xs,H c=ζ (.tup xs)->c≠x:=λc xs r z=>by subst z;rw[r]at mu;exact mu
 by_cases hb:b=x
 ·subst hb;rw[fU]at q;cases q;exact new
 ·rw[cB hb]at q
  by_cases qC:b=e
  ·have q':H b=ζ (.own x):=by
    rcases he with z|z
    ·exact absurd (qC.trans z) hb
    ·rw[qC];exact z
   rw[q]at q';cases q';obtain⟨v,hv⟩:=ud;exact⟨v,by rw[qC];exact hv⟩
  ·refine(ok b u q).stay (λc v hc r=>k c v ?_ r) (λc r=>by rw[cB (KC c b r)];exact r) λc xs r=>by rw[cB (Xv c xs r)];exact r
   rcases hc with rfl|hc
   ·exact qC
   ·rintro rfl
    rcases he with z|z
    ·exact KC c b hc z
    ·rw[hc]at z;cases z;exact hb rfl
end
structure Un (fs ex:List Ξ) (H H':Hp) (h h':υ):Prop where
 keep:∀b o,h.get? b=ζ o->H b=η->b∉fs->b∉ex->h'.get? b=ζ o
 slot:∀b o,h.get? b=ζ o->H b=η->b∈fs->b∉ex->∃sl,h'.get? b=ζ {o with slots:=sl}
 free:∀b o,h.get? b=ζ o->H b=η->b∉ex->H' b=η
 there:∀b o,h.get? b=ζ o->b∉ex->∃o',h'.get? b=ζ o'
 tups:∀b xs,H b=ζ (.tup xs)->H' b=ζ (.tup xs)
 jm:∀b o u,H b=ζ (.dF o u)->H' b=ζ (.dF o u)
 jC:∀b ps,H b=ζ (.dj ps)->∃more,H' b=ζ (.dj (ps++more))
section
variable {fs fs' ex ex':List Ξ}{H H1 H2:Hp}{h h1 h2 h':υ}{a x e:Ξ}{o:HO}
theorem Un.any(u:Un fs ex H H1 h h1) {b:Ξ}{ob:Obj}(q:h.get? b=ζ ob) (n:H b=η) (hx:b∉ex):∃sl,h1.get? b=ζ {ob with slots:=sl}:=by
 by_cases hb:b∈fs
 ·exact u.slot b ob q n hb hx
 ·exact⟨ob.slots,u.keep b ob q n hb hx⟩
theorem Un.kept(k:∀b u,h.get? b=ζ u->h'.get? b=ζ u):Un fs ex H H h h' :=
 ⟨λb ob q _ _ _=>k b ob q,λb ob q _ _ _=>⟨ob.slots,k b ob q⟩,λ_ _ _ n _=>n,λb ob q _=>⟨ob,k b ob q⟩,λ_ _ q=>q,λ_ _ _ q=>q,λ_ ps q=>⟨#[],by rw[q];simp⟩⟩
theorem Un.refl:Un fs ex H H h h:=Un.kept λ_ _ q=>q
theorem Un.laid(k:∀b u,h.get? b=ζ u->h'.get? b=ζ u) (hp:h.objs.size<=a) (hn:H a=η):Un fs ex H (upd H a o) h h' where
 keep:=λb u q _ _ _=>k b u q
 slot:=λb u q _ _ _=>⟨u.slots,k b u q⟩
 free:=λb u q n _=>by rw[cB (afZ (af2 (afU q) hp))];exact n
 there:=λb u q _=>⟨u,k b u q⟩
 tups:=λb xs q=>by rw[cB (eB q hn)];exact q
 jm:=λb u xs q=>by rw[cB (eB q hn)];exact q
 jC:=λb ps q=>⟨#[],by rw[cB (eB q hn),q];simp⟩
theorem Un.write(mu:Bg (H x)) (he:e=x\/H e=ζ (.own x)) (k:∀b u,b≠e->h.get? b=ζ u->h'.get? b=ζ u) (ud:∃u,h'.get? e=ζ u):Un fs ex H (upd H x o) h h':=by
 have hx:∀b,H b=η->b≠x:=λb n z=>by subst z;rw[n]at mu;exact mu
 have hb:∀b,H b=η->b≠e:=λb n z=>by
  subst z
  rcases he with r|r
  ·exact hx b n r
  ·rw[n]at r;cases r
 have hm:∀b u,H b=ζ u->¬Bg (ζ u)->b≠x:=λb u q nm z=>by subst z;rw[q]at mu;exact nm mu
 refine⟨λb u q n _ _=>k b u (hb b n) q,λb u q n _ _=>⟨u.slots,k b u (hb b n) q⟩,λb u q n _=>by rw[cB (hx b n)];exact n,λb u q _=>?_,
  λb xs q=>by rw[cB (hm b _ q λz=>z)];exact q,λb u xs q=>by rw[cB (hm b _ q λz=>z)];exact q,λb ps q=>⟨#[],by rw[cB (hm b _ q λz=>z),q];simp⟩⟩
 by_cases qC:b=e
 ·subst qC;exact ud
 ·exact⟨u,k b u qC q⟩
end
def yj(h:υ) (H:Hp):List Ξ:=(θ h.objs.size).filter λa=>(H a).isSome
def mC(h:υ) (H:Hp):υ:=PySem.W.hideAll h (yj h H)
theorem aae(h:υ) (H:Hp):(mC h H).objs.size=h.objs.size:=PySem.W.hideAll_size _ _
theorem aaf{h:υ}{H:Hp}{b:Ξ}{o:Obj}(e:h.get? b=ζ o) (n:H b=η):(mC h H).get? b=ζ o :=
 PySem.W.hideAll_get _ e λhm=>by
  have q:(H b).isSome=Δ:=(agm.mp hm).2;rw[n]at q;simp at q
theorem Xj{h:υ}{H:Hp}{b:Ξ}{o:Obj}(e:(mC h H).get? b=ζ o):h.get? b=ζ o/\H b=η:=by
 have e':h.get? b=ζ o:=PySem.W.of_hideAll (yj h H) e;refine⟨e',?_⟩;cases q:H b with
 |none=>rfl
 |some x =>
  have hm:b∈yj h H:=agm.mpr ⟨afR.mpr (afU e'),by simp[q]⟩
  have z:(mC h H).get? b=η:=PySem.W.hideAll_none (yj h H) hm;rw[z]at e;cases e
structure Mod (K:ξ) (mg:Str->Option Γ) (base:υ):Prop where
 mj:K.In base
 glob:base.Ns μ mg
 blt:∃mb,base.Ns builtinsNs mb/\∀x:Str,x≠"__name__"->mb x=bootBuiltins x
 nolimit:base.NoLimit
 bmod:∃bm ob,mg "__builtins__"=ζ (.ref bm)/\bm≠builtinsNs/\base.get? bm=ζ ob/\ob.cls=.type "module"/\ob.dict=ζ builtinsNs/\ob.data=.plain
structure Cx where
 prog:π
 w:χ
 K:ξ
 mg:Str->Option Γ
 base:υ
 A:ω
 N:List Str
 s₀:Ψ
 H₀:Hp
 env:Env
 outer:List Env
 stack:List Env
 ex:List Ξ
 fn:Str->Bool
 calm:Bool
 pn:List (Ξ×Obj)
 xe:Γ->Ψ->Prop
def frs(l:List Env):List Ξ:=l.filterMap (·.frame)
abbrev Cx.fs(X:Cx):List Ξ:=frs X.outer
def Bb(sc:aaq) (x:Str):Prop:=sc.names.lookup x=ζ .local\/sc.names.lookup x=ζ .cell\/sc.names.lookup x=ζ .free
def Loc(sc:aaq) (x:Str):Prop:=sc.names.lookup x=ζ .local\/sc.names.lookup x=ζ .cell
def Look(env:Env) (h:υ) (m:Str->Option Γ) (x:Str) (u:Γ):Prop :=
 (env.kindOf x=ζ .local/\m x=ζ u)\/((env.kindOf x=ζ .cell\/env.kindOf x=ζ .free)/\∃c,env.cells.lookup x=ζ c/\h.IsCell c (ζ u))
structure Cx.Ok (X:Cx):Prop where
 mod:Mod X.K X.mg X.base
 kind:X.env.scope.kind=.function
 glob:X.env.globals=μ
 blt:X.env.builtins=builtinsNs
 above:X.s₀.heap.objs.size<=X.env.locals
 inj:∀x y c,X.env.cells.lookup x=ζ c->X.env.cells.lookup y=ζ c->x=y
 has:∀x,(X.env.kindOf x=ζ .cell\/X.env.kindOf x=ζ .free)->∃c,X.env.cells.lookup x=ζ c
 oZ:∀x c,X.fn x=Δ->X.env.cells.lookup x=ζ c->X.s₀.heap.objs.size<=c
 hd:X.calm=Δ->X.A.handled=η
 frames:X.A.frames=ζ X.stack
 stk:X.stack=X.outer\/(X.stack=X.env::X.outer/\X.env.frame=ζ X.env.locals)
 wL:∀b∈X.ex,b≠X.env.locals/\∀x c,X.env.cells.lookup x=ζ c->c≠b
 bs:∀b o,X.base.get? b=ζ o->X.s₀.heap.get? b=ζ o/\X.H₀ b=η
 jb:X.base.objs.size<=X.s₀.heap.objs.size
 lR:∀b o,X.base.get? b=ζ o->b∉X.ex
 ur:∀b∈X.ex,b∉X.fs
 iQ:X.s₀.heap.FunFrames X.base X.outer
 kX:∀b∈X.fs,X.H₀ b=η
structure Inv (X:Cx) (pins:List (Ξ×Obj)) (σ:List (Option V)) (H:Hp) (s:Ψ):Prop where
 ok:X.Ok
 os:s.os=X.s₀.os
 bare:aaz s.gens
 base:Un X.fs X.ex X.H₀ H X.s₀.heap s.heap
 loc:∃m,s.heap.Ns X.env.locals m/\∀(i:Nat) (x:Str) (v:V),X.N[i]? = ζ x->σ[i]? = ζ (ζ v)->Bb X.env.scope x->∃u,RelV v u/\Look X.env s.heap m x u
 cell:∀x c,X.env.cells.lookup x=ζ c->∃v,s.heap.IsCell c v
 free:H X.env.locals=η
 jo:∀x c,X.env.cells.lookup x=ζ c->H c=η
 pin:∀p∈X.pn++pins,s.heap.get? p.1=ζ p.2/\H p.1=η/\p.1≠X.env.locals/\p.1∉X.fs/\∀v,p.2.data≠.cell v
 hok:ez X.prog X.w H s.heap
 len:σ.length=X.N.length
section
variable {X:Cx}{pins:List (Ξ×Obj)}{σ:List (Option V)}{H H':Hp}{s:Ψ}{h':υ}
theorem Cx.Ok.Xz(ok:X.Ok) {b:Ξ}{o:Obj}(e:X.base.get? b=ζ o):b∉X.fs:=λhb=>by
 have:=(ok.iQ.mem hb).1;rw[e]at this;cases this
theorem Inv.bs(I:Inv X pins σ H s):∀b o,X.base.get? b=ζ o->s.heap.get? b=ζ o/\H b=η:=λb o e =>
 ⟨I.base.keep b o (I.ok.bs b o e).1 (I.ok.bs b o e).2 (I.ok.Xz e) (I.ok.lR b o e),I.base.free b o (I.ok.bs b o e).1 (I.ok.bs b o e).2 (I.ok.lR b o e)⟩
theorem Inv.bk(I:Inv X pins σ H s):∀b o,X.base.get? b=ζ o->s.heap.get? b=ζ o:=λb o e=>(I.bs b o e).1
theorem Inv.mod(I:Inv X pins σ H s):Mod X.K X.mg X.base:=I.ok.mod
theorem Inv.fM(I:Inv X pins σ H s):X.K.In s.heap:=I.ok.mod.mj.keeps I.bk
theorem Inv.lt(I:Inv X pins σ H s):X.env.locals<s.heap.objs.size:=let⟨_,hn,_⟩:=I.loc;hn.lt
theorem Inv.sz(I:Inv X pins σ H s):X.s₀.heap.objs.size<=s.heap.objs.size:=agg I.ok.above (ag4 I.lt)
theorem Inv.DH(I:Inv X pins σ H s) {a:Ξ}(h:s.heap.objs.size<=a):a∉X.fs:=λhb=>by
 obtain⟨_,o,ho,_⟩:=I.ok.iQ.mem hb;exact absurd (af2 (afU ho) (agg I.sz h)) (agB _)
theorem Inv.oY(I:Inv X pins σ H s):∀x c,X.env.cells.lookup x=ζ c->c≠X.env.locals:=λx c e z=>by
 obtain⟨v,o,ho,hd⟩:=I.cell x c e;obtain⟨m,⟨o',es,ep,ho',hd',_⟩,_⟩:=I.loc;rw[z,ho']at ho;cases ho;rw[hd']at hd;cases hd
theorem Inv.iQ(I:Inv X pins σ H s):s.heap.FunFrames X.base X.outer:=by
 have all:∀(l:List Env),(∀b∈frs l,b∈X.fs)->X.s₀.heap.FunFrames X.base l->s.heap.FunFrames X.base l:=by
  intro l
  induction l with
  |nil=>intro _ _;trivial
  |cons env r ih =>
   intro hs hl;obtain⟨hk,⟨L,o,hf,hn,ho,hd⟩,hr⟩:=hl;have hL:L∈X.fs:=hs L (by unfold frs;rw[aic,hf];exact agw)
   obtain⟨sl,e⟩:=I.base.slot L o ho (I.ok.kX L hL) hL λz=>I.ok.ur L z hL
   exact⟨hk,⟨L,_,hf,hn,e,hd⟩,ih (λb hb=>hs b (by unfold frs;rw[aic,hf];exact agk _ hb)) hr⟩
 exact all X.outer (λ_ hb=>hb) I.ok.iQ
theorem Inv.stack(I:Inv X pins σ H s):s.heap.FunFrames X.base X.stack:=by
 rcases I.ok.stk with e|⟨e,hf⟩
 ·rw[e];exact I.iQ
 ·rw[e];obtain⟨m,hn,_⟩:=I.loc;refine .cons (by rw[I.ok.kind];decide) hf hn ?_ I.iQ
  exact Heap.get?_none_of_le (agg I.ok.jb I.ok.above)
theorem Inv.pM(I:Inv X pins σ H s):∀b∈frs X.stack,b∈X.env.locals::X.fs:=λb hb=>by
 rcases I.ok.stk with e|⟨e,hf⟩
 ·rw[e]at hb;exact agk _ hb
 ·rw[e]at hb;unfold frs at hb;rw[aic,hf]at hb;exact hb
theorem Inv.BW(I:Inv X pins σ H s):∀b∈frs X.stack,H b=η:=λb hb=>by
 rcases afT.mp (I.pM b hb)with e|hb
 ·rw[e];exact I.free
 ·obtain⟨_,o,ho,_⟩:=I.ok.iQ.mem hb;exact I.base.free b o ho (I.ok.kX b hb) λz=>I.ok.ur b z hb
theorem Inv.step{g':Array GenState}{t':Nat}{d':Drawn}{ch:List Ξ}(I:Inv X pins σ H s)
  (hch:∀b∈ch,(b∈X.ex\/X.s₀.heap.objs.size<=b)/\b≠X.env.locals/\(∀x c,X.env.cells.lookup x=ζ c->c≠b)/\∀p∈X.pn++pins,p.1≠b)
  (keep:∀b o,b≠X.env.locals->b∉X.fs->b∉ch->s.heap.get? b=ζ o->H b=η->h'.get? b=ζ o)
  (slot:∀b o,b≠X.env.locals->b∈X.fs->b∉ch->s.heap.get? b=ζ o->H b=η->∃sl,h'.get? b=ζ {o with slots:=sl}) (free:∀b o,b∉ch->s.heap.get? b=ζ o->H b=η->H' b=η)
  (there:∀b o,b∉ch->s.heap.get? b=ζ o->∃o',h'.get? b=ζ o')
  (tups:∀b xs,H b=ζ (.tup xs)->H' b=ζ (.tup xs)) (jm:∀b o u,H b=ζ (.dF o u)->H' b=ζ (.dF o u)) (jC:∀b ps,H b=ζ (.dj ps)->∃more,H' b=ζ (.dj (ps++more)))
  (ns:∀m,s.heap.Ns X.env.locals m->h'.Ns X.env.locals m) (hok:ez X.prog X.w H' h') (hg:aaz g') :
  Inv X pins σ H' {s with heap:=h',gens:=g',drawn:=d',toks:=t'}:=by
 have KW:∀b o,X.s₀.heap.get? b=ζ o->b≠X.env.locals:=λb o e=>afZ (af2 (afU e) I.ok.above)
 have zv:∀b o,X.s₀.heap.get? b=ζ o->b∉X.ex->b∉ch:=λb o e hx hb=>by
  rcases(hch b hb).1 with z|z
  ·exact hx z
  ·exact absurd (af2 (afU e) z) (agB _)
 have cellK:∀x c,X.env.cells.lookup x=ζ c->∀v,s.heap.IsCell c v->h'.IsCell c v:=λx c e v ⟨o,ho,hd⟩=>by
  have jX:c∉ch:=λz=>(hch c z).2.2.1 x c e rfl
  by_cases hc:c∈X.fs
  ·obtain⟨sl,q⟩:=slot c o (I.oY x c e) hc jX ho (I.jo x c e);exact⟨_,q,hd⟩
  ·exact⟨o,keep c o (I.oY x c e) hc jX ho (I.jo x c e),hd⟩
 refine⟨I.ok,I.os,hg,⟨λb o e n hb hx=>?_,λb o e n hb hx=>?_,λb o e n hx=>?_,λb o e hx=>?_,λb xs e=>tups b xs (I.base.tups b xs e),λb o xs e=>jm b o xs (I.base.jm b o xs e),λb ps e=>?_⟩,?_,λx c e=>?_,?_,λx c e=>?_,λp hp=>?_,hok,I.len⟩
 ·exact keep b o (KW b o e) hb (zv b o e hx) (I.base.keep b o e n hb hx) (I.base.free b o e n hx)
 ·obtain⟨sl,e1⟩:=I.base.slot b o e n hb hx;obtain⟨R7,e2⟩:=slot b _ (KW b o e) hb (zv b o e hx) e1 (I.base.free b o e n hx);exact⟨R7,e2⟩
 ·obtain⟨o',e1⟩:=I.base.there b o e hx;exact free b o' (zv b o e hx) e1 (I.base.free b o e n hx)
 ·obtain⟨o',e1⟩:=I.base.there b o e hx;exact there b o' (zv b o e hx) e1
 ·obtain⟨m1,e1⟩:=I.base.jC b ps e;obtain⟨m2,e2⟩:=jC b _ e1;exact⟨m1++m2,by rw[e2,Array.append_assoc]⟩
 ·obtain⟨m,hn,hl⟩:=I.loc;refine⟨m,ns m hn,λi x v e1 e2 e3=>?_⟩
  obtain⟨u,r,l⟩:=hl i x v e1 e2 e3;refine⟨u,r,?_⟩
  rcases l with l|⟨k,c,e,z⟩
  ·exact .inl l
  ·exact .inr ⟨k,c,e,cellK x c e _ z⟩
 ·obtain⟨v,z⟩:=I.cell x c e;exact⟨v,cellK x c e v z⟩
 ·obtain⟨m,⟨o,_,_,ho,_⟩,_⟩:=I.loc;exact free _ o (λz=>(hch _ z).2.1 rfl) ho I.free
 ·obtain⟨v,o,ho,hd⟩:=I.cell x c e;exact free c o (λz=>(hch c z).2.2.1 x c e rfl) ho (I.jo x c e)
 ·obtain⟨e,n,ne,nf,d⟩:=I.pin p hp;have jX:p.1∉ch:=λz=>(hch p.1 z).2.2.2 p hp rfl
  exact⟨keep p.1 p.2 ne nf jX e n,free p.1 p.2 jX e n,ne,nf,d⟩
theorem Inv.un{t':Nat}(I:Inv X pins σ H s) (u:Un X.fs [] H H' s.heap h') (hok:ez X.prog X.w H' h'):Inv X pins σ H' {s with heap:=h',toks:=t'}:=by
 obtain⟨m,⟨o,es,ep,ho,r⟩,_⟩:=id I.loc;obtain⟨sl,hL⟩:=u.any ho I.free (by simp)
 exact I.step (g':=s.gens) (d':=s.drawn) (ch:=[]) (λ_ z=>nomatch z) (λb o _ hb _ e n=>u.keep b o e n hb (by simp)) (λb o _ hb _ e n=>u.slot b o e n hb (by simp)) (λb o _ e n=>u.free b o e n (by simp)) (λb o _ e=>u.there b o e (by simp)) u.tups u.jm u.jC (λm' hm=>by
  obtain⟨o',es',E5,ho',r'⟩:=hm;rw[ho]at ho';cases ho';exact⟨_,es',E5,hL,r'⟩) hok I.bare
theorem Inv.call{g':Array GenState}{t':Nat}{d':Drawn}{ch:List Ξ}(I:Inv X pins σ H s) (u:Un (frs X.stack) ch H H' s.heap h') (hok:ez X.prog X.w H' h') (hg:aaz g')
  (hch:∀b∈ch,(b∈X.ex\/X.s₀.heap.objs.size<=b)/\b≠X.env.locals/\(∀x c,X.env.cells.lookup x=ζ c->c≠b)/\∀p∈X.pn++pins,p.1≠b) :
  Inv X pins σ H' {s with heap:=h',gens:=g',drawn:=d',toks:=t'}:=by
 obtain⟨m,⟨o,es,ep,ho,r⟩,_⟩:=id I.loc;obtain⟨sl,hL⟩:=u.any ho I.free λz=>(hch _ z).2.1 rfl
 exact I.step (ch:=ch) hch (λb o hL hb hc e n=>u.keep b o e n (λz=>(afT.mp (I.pM b z)).elim hL hb) hc) (λb o _ _ hc e n=>u.any e n hc) (λb o hc e n=>u.free b o e n hc) (λb o hc e=>u.there b o e hc) u.tups u.jm u.jC (λm' hm=>by
  obtain⟨o',es',E5,ho',r'⟩:=hm;rw[ho]at ho';cases ho';exact⟨_,es',E5,hL,r'⟩) hok hg
theorem Inv.turned{t':Nat}{it:Ξ}(I:Inv X pins σ H s) (k:∀b o,b≠it->s.heap.get? b=ζ o->h'.get? b=ζ o) (hn:H it=η) (hL:it≠X.env.locals)
  (h1:it∈X.ex\/X.s₀.heap.objs.size<=it) (h2:∀x c,X.env.cells.lookup x=ζ c->c≠it) (h3:∀p∈X.pn++pins,p.1≠it):Inv X pins σ H {s with heap:=h',toks:=t'}:=by
 have KR:∀b u,H b=ζ u->b≠it:=λb u e z=>by rw[z,hn]at e;cases e
 refine I.step (g':=s.gens) (d':=s.drawn) (ch:=[it]) (λb hb=>?_) (λb o _ _ hc e _=>k b o (λz=>hc (by simp[z])) e) (λb o _ _ hc e _=>⟨o.slots,k b o (λz=>hc (by simp[z])) e⟩) (λ_ _ _ _ n=>n)
  (λb o hc e=>⟨o,k b o (λz=>hc (by simp[z])) e⟩) (λ_ _ e=>e) (λ_ _ _ e=>e) (λb ps e=>⟨#[],by rw[e];simp⟩) (λm hm=>?_) (λb u e=>?_) I.bare
 ·have e:b=it:=by simpa using hb
  subst e;exact⟨h1,hL,h2,h3⟩
 ·obtain⟨o,es,ep,ho,r⟩:=hm;exact⟨o,es,ep,k _ o (agx hL) ho,r⟩
 ·refine(I.hok b u e).stay (λc v hc q=>k c v ?_ q) (λ_ q=>q) λ_ _ q=>q
  rcases hc with z|z
  ·rw[z];exact KR b u e
  ·exact KR c _ z
theorem Inv.tok(I:Inv X pins σ H s) (t:Nat):Inv X pins σ H {s with toks:=t}:=I.un (h':=s.heap) (t':=t) Un.refl I.hok
theorem Inv.kept{t':Nat}(I:Inv X pins σ H s) (k:∀b u,s.heap.get? b=ζ u->h'.get? b=ζ u):Inv X pins σ H {s with heap:=h',toks:=t'}:=I.un (Un.kept k) (I.hok.kept k)
theorem Inv.laid{a:Ξ}{o:HO}{t':Nat}(I:Inv X pins σ H s) (k:∀b u,s.heap.get? b=ζ u->h'.get? b=ζ u) (hp:s.heap.objs.size<=a) (new:gf X.prog X.w (upd H a o) h' a o) :
  Inv X pins σ (upd H a o) {s with heap:=h',toks:=t'}:=I.un (Un.laid k hp (I.hok.fresh hp)) (I.hok.laid k hp new)
theorem Inv.write{x e:Ξ}{o:HO}{t':Nat}(I:Inv X pins σ H s) (mu:Bg (H x)) (he:e=x\/H e=ζ (.own x)) (k:∀b u,b≠e->s.heap.get? b=ζ u->h'.get? b=ζ u) (ud:∃u,h'.get? e=ζ u)
  (new:gf X.prog X.w (upd H x o) h' x o):Inv X pins σ (upd H x o) {s with heap:=h',toks:=t'}:=I.un (Un.write mu he k ud) (I.hok.write mu he k ud new)
theorem Inv.yR{Dm:List (Ξ×Obj)}(I:Inv X pins σ H s) (h:∀p∈Dm,s.heap.get? p.1=ζ p.2/\H p.1=η/\p.1≠X.env.locals/\p.1∉X.fs/\∀v,p.2.data≠.cell v):Inv X Dm σ H s :=
 ⟨I.ok,I.os,I.bare,I.base,I.loc,I.cell,I.free,I.jo,λp hp=>(agC.mp hp).elim (λz=>I.pin p (ajJ _ z)) (h p),I.hok,I.len⟩
theorem KH{N:List Str}(hN:N.Nodup) {i j:Nat}{x:Str}(a:N[i]? = ζ x) (b:N[j]? = ζ x):i=j:=by
 obtain⟨h1,e1⟩:=af8.mp a;obtain⟨h2,e2⟩:=af8.mp b;exact(aid hN).mp (e1.trans e2.symm)
theorem Ir{M:Model}{A:ω}{E:Γ->Ψ->Prop}{i:Nat}{x:Str}{v:V}{u:Γ}{Q:Unit->Ψ->Prop}(I:Inv X pins σ H s) (hN:X.N.Nodup) (hi:X.N[i]? = ζ x) (hx:Loc X.env.scope x) (r:RelV v u)
  (h:∀s',Inv X pins (σ.set i (ζ v)) H s'->(∃a,aar a s.heap s'.heap/\(a=X.env.locals\/X.env.cells.lookup x=ζ a))->Q () s') (hf:X.fn x=Δ\/X.env.scope.names.lookup x=ζ .local:=by first|exact .inl rfl|exact .inr rfl|assumption):wpAny M A (storeName X.env x u) Q E s:=by
 obtain⟨m,hn,hl⟩:=id I.loc;have hcls:(X.env.scope.kind == .class||(X.env.scope.kind == .module&&X.env.locals != X.env.globals))=Θ:=by rw[I.ok.kind];rfl
 have Ml:i<σ.length:=by rw[I.len];exact(af8.mp hi).1
 have oY:=I.oY;have tracked:∀{a:Ξ}{h':υ},(∃o,s.heap.get? a=ζ o/\H a=η)->aar a s.heap h'->ez X.prog X.w H h':=fun{a h'} ha hs b ob e=>by
  obtain⟨_,_,hfree⟩:=ha;refine(I.hok b ob e).stay (λc w' hc q=>(hs.2 c ?_).trans q) (λ_ q=>q) λ_ _ q=>q
  rintro rfl
  rcases hc with rfl|hc
  ·rw[hfree]at e;cases e
  ·rw[hfree]at hc;cases hc
 rcases hx with hk|hk
 ·refine wpAny_storeName_local hk hn (λh' hn' hs=>?_) hcls
  obtain⟨oL,_,_,wB,_⟩:=id hn;refine h _ ⟨I.ok,I.os,I.bare,⟨λb o e n hb hx=>?_,λb o e n hb hx=>?_,I.base.free,λb o e hx=>?_,I.base.tups,I.base.jm,I.base.jC⟩,⟨_,hn',λj y v' e1 e2 e3=>?_⟩,λy c e=>?_,I.free,I.jo,λp hp=>?_,tracked ⟨oL,wB,I.free⟩ hs,by simpa using I.len⟩ ⟨_,hs,.inl rfl⟩
  ·exact(hs.2 b (afZ (af2 (afU e) I.ok.above))).trans (I.base.keep b o e n hb hx)
  ·obtain⟨sl,e1⟩:=I.base.slot b o e n hb hx;exact⟨sl,(hs.2 b (afZ (af2 (afU e) I.ok.above))).trans e1⟩
  ·obtain⟨o',e1⟩:=I.base.there b o e hx;exact⟨o',(hs.2 b (afZ (af2 (afU e) I.ok.above))).trans e1⟩
  ·by_cases hj:j=i
   ·subst hj;rw[hi]at e1;cases e1;rw[agM Ml]at e2;cases e2;exact⟨u,r,.inl ⟨hk,by simp⟩⟩
   ·rw[agz (agx hj)]at e2;obtain⟨u',r',q⟩:=hl j y v' e1 e2 e3;refine⟨u',r',?_⟩
    rcases q with⟨k,e⟩|⟨k,c,e,z⟩
    ·refine .inl ⟨k,?_⟩;have:y≠x:=λe=>hj (KH hN e1 (e▸hi))
     simp[this,e]
    ·exact .inr ⟨k,c,e,z.sameBut hs (oY y c e)⟩
  ·obtain⟨w',z⟩:=I.cell y c e;exact⟨w',z.sameBut hs (oY y c e)⟩
  ·obtain⟨e,n,ne,nf,d⟩:=I.pin p hp;exact⟨(hs.2 p.1 ne).trans e,n,ne,nf,d⟩
 ·have hfn:X.fn x=Δ:=by
   rcases hf with z|z
   ·exact z
   ·rw[z]at hk;cases hk
  obtain⟨c,hc⟩:=I.ok.has x (.inl hk);obtain⟨w',z⟩:=I.cell x c hc;refine wpAny_storeName_cell I.ok.kind hk hc z (λh' hc' hs=>?_)
  obtain⟨oc,hoc,Z1⟩:=id z;refine h {s with heap:=h'} ⟨I.ok,I.os,I.bare,⟨λb o e n hb hx=>?_,λb o e n hb hx=>?_,I.base.free,λb o e hx=>?_,I.base.tups,I.base.jm,I.base.jC⟩,⟨m,hn.sameBut hs (agx (oY x c hc)),λj y v' e1 e2 e3=>?_⟩,λy c' e=>?_,I.free,I.jo,λp hp=>?_,tracked ⟨oc,hoc,I.jo x c hc⟩ hs,by simpa using I.len⟩ ⟨c,hs,.inr hc⟩
  ·exact(hs.2 b (afZ (af2 (afU e) (I.ok.oZ x c hfn hc)))).trans (I.base.keep b o e n hb hx)
  ·obtain⟨sl,e1⟩:=I.base.slot b o e n hb hx;exact⟨sl,(hs.2 b (afZ (af2 (afU e) (I.ok.oZ x c hfn hc)))).trans e1⟩
  ·obtain⟨o',e1⟩:=I.base.there b o e hx;exact⟨o',(hs.2 b (afZ (af2 (afU e) (I.ok.oZ x c hfn hc)))).trans e1⟩
  ·by_cases hj:j=i
   ·subst hj;rw[hi]at e1;cases e1;rw[agM Ml]at e2;cases e2;exact⟨u,r,.inr ⟨.inl hk,c,hc,hc'⟩⟩
   ·rw[agz (agx hj)]at e2;obtain⟨u',r',q⟩:=hl j y v' e1 e2 e3;refine⟨u',r',?_⟩
    rcases q with q|⟨k,c',e,z'⟩
    ·exact .inl q
    ·refine .inr ⟨k,c',e,z'.sameBut hs ?_⟩
     rintro rfl
     exact hj (KH hN e1 (I.ok.inj _ _ _ e hc▸hi))
  ·by_cases hcc:c'=c
   ·subst hcc;exact⟨_,hc'⟩
   ·obtain⟨w2,z2⟩:=I.cell y c' e;exact⟨w2,z2.sameBut hs hcc⟩
  ·obtain⟨e,n,ne,nf,d⟩:=I.pin p hp;refine⟨(hs.2 p.1 ?_).trans e,n,ne,nf,d⟩;intro q;rw[q,hoc]at e;have q':oc=p.2:=agc e;exact d w' (by rw[<-q'];exact Z1)
theorem Iu{M:Model}{A:ω}{E:Γ->Ψ->Prop}{i:Nat}{x:Str}{v:V}{u:Γ}{Q:Unit->Ψ->Prop}(I:Inv X pins σ H s) (hN:X.N.Nodup) (hi:X.N[i]? = ζ x) (hx:Loc X.env.scope x) (r:RelV v u)
  (h:∀s',Inv X pins (σ.set i (ζ v)) H s'->Q () s') (hf:X.fn x=Δ\/X.env.scope.names.lookup x=ζ .local:=by first|exact .inl rfl|exact .inr rfl|assumption):wpAny M A (storeName X.env x u) Q E s :=
 Ir I hN hi hx r (λs' I' _=>h s' I') hf
theorem Inv.Fv{s':Ψ}{ch:List Ξ}(I:Inv X pins σ H s) (ho:s'.os=s.os) (u:Un (frs X.stack) ch H H' s.heap s'.heap) (hok:ez X.prog X.w H' s'.heap) (hg:aaz s'.gens)
  (hch:∀b∈ch,(b∈X.ex\/X.s₀.heap.objs.size<=b)/\b≠X.env.locals/\(∀x c,X.env.cells.lookup x=ζ c->c≠b)/\∀p∈X.pn++pins,p.1≠b):Inv X pins σ H' s':=by
 obtain⟨h',g',d',t',o'⟩:=s';have e:o'=s.os:=ho;subst e;exact I.call (g':=g') (t':=t') (d':=d') u hok hg hch
end
abbrev XK:=Γ->Option Ξ->Hp->Prop
abbrev St:=List (Option V)
abbrev VK:=V->Hp->Prop
abbrev TE:=St->Hp->VK->Prop
abbrev TT:=St->Hp->(Bool->Hp->Prop)->Prop
abbrev TA:=St->Hp->(List V->Hp->Prop)->Prop
structure Ends where
 nx:St->Hp->Prop
 rt:VK
 bk:St->Hp->Prop:=λ_ _=>False
 ct:St->Hp->Prop:=λ_ _=>False
abbrev TS:=Ends->St->Hp->Prop
def EP(X:Cx) (pins:List (Ξ×Obj)) (σ:St) (Q:VK) (u:Γ) (s':Ψ):Prop:=∃v H',Inv X pins σ H' s'/\RelV v u/\Q v H'
def TP(X:Cx) (pins:List (Ξ×Obj)) (σ:St) (Q:Bool->Hp->Prop) (b:Bool) (s':Ψ):Prop:=∃H',Inv X pins σ H' s'/\Q b H'
def AP(X:Cx) (pins:List (Ξ×Obj)) (σ:St) (Q:List V->Hp->Prop) (us:List Γ) (s':Ψ):Prop:=∃vs H',Inv X pins σ H' s'/\Vals vs us/\Q vs H'
def SP(X:Cx) (pins:List (Ξ×Obj)) (D:Ends) (f:Flow) (s':Ψ):Prop :=
 match f with
 |.next=>∃σ' H',Inv X pins σ' H' s'/\D.nx σ' H'
 |.brk=>∃σ' H',Inv X pins σ' H' s'/\D.bk σ' H'
 |.cont=>∃σ' H',Inv X pins σ' H' s'/\D.ct σ' H'
 |.ret u=>∃v σ' H',Inv X pins σ' H' s'/\RelV v u/\D.rt v H'
def PE(X:Cx) (e:ν) (t:TE):Prop :=
 ∀(pins:List (Ξ×Obj)) (s:Ψ) (σ:St) (H:Hp) (Q:VK),Inv X pins σ H s->t σ H Q->wpAny (model X.prog X.w) X.A (eval e X.env) (EP X pins σ Q) X.xe s
def PT(X:Cx) (e:ν) (t:TT):Prop :=
 ∀(pins:List (Ξ×Obj)) (s:Ψ) (σ:St) (H:Hp) (Q:Bool->Hp->Prop),Inv X pins σ H s->t σ H Q->wpAny (model X.prog X.w) X.A (isTrue e X.env (eval e X.env)) (TP X pins σ Q) X.xe s
def PW(X:Cx) (e:ν) (t:TT):Prop :=
 ∀(whole:Sem Γ) (pins:List (Ξ×Obj)) (s:Ψ) (σ:St) (H:Hp) (Q:Bool->Hp->Prop),Inv X pins σ H s->t σ H Q->wpAny (model X.prog X.w) X.A (isTrue e X.env whole) (TP X pins σ Q) X.xe s
theorem PW.pt{X:Cx}{e:ν}{t:TT}(h:PW X e t):PT X e t:=h _
def PA(X:Cx) (es:List ν) (t:TA):Prop :=
 ∀(pos:Pos) (pins:List (Ξ×Obj)) (s:Ψ) (σ:St) (H:Hp) (Q:List V->Hp->Prop),Inv X pins σ H s->t σ H Q->wpAny (model X.prog X.w) X.A (spliced (aaj pos (ε es X.env))) (AP X pins σ Q) X.xe s
def PS(X:Cx) (st:ψ) (t:TS):Prop :=
 ∀(pins:List (Ξ×Obj)) (s:Ψ) (σ:St) (H:Hp) (D:Ends),Inv X pins σ H s->t D σ H->wpAny (model X.prog X.w) X.A (exec st X.env) (SP X pins D) X.xe s
def gW(X:Cx) (st:List ψ) (t:TS):Prop :=
 ∀(pins:List (Ξ×Obj)) (s:Ψ) (σ:St) (H:Hp) (D:Ends),Inv X pins σ H s->t D σ H->wpAny (model X.prog X.w) X.A (execs st X.env) (SP X pins D) X.xe s
theorem bR{α:Type}{t:Sem α}{Q Q':α->Ψ->Prop}{M:Model}{A:ω}{E:Γ->Ψ->Prop}{s:Ψ}(h:wpAny M A t Q E s) (hQ:∀a s,Q a s->Q' a s):wpAny M A t Q' E s:=agq h hQ λ_ _ x=>x
section
variable {X:Cx}
def QF(i:Nat):TE:=λσ H Q=>∃v,σ[i]? = ζ (ζ v)/\Q v H
def tC(v:V):TE:=λ_ H Q=>Q v H
theorem JF{i:Nat}{x:Str}{pos:Pos}(hN:X.N[i]? = ζ x) (hv:Bb X.env.scope x) (hd:(x==("__debug__":Str))=Θ:=by decide) (hcd:(x==("__classdict__":Str))=Θ:=by decide):PE X (.Name x pos) (QF i):=by
 intro pins s σ H Q I h;obtain⟨v,e,h⟩:=h;obtain⟨m,hn,hl⟩:=I.loc;obtain⟨u,r,l⟩:=hl i x v hN e hv;have fin:EP X pins σ Q u s:=⟨v,H,I,r,h⟩
 rcases l with⟨hk,hm⟩|⟨hk,c,hc,hcell⟩
 ·exact wpAny_Name (wpAny_loadName_local I.ok.kind hk hn hm fin) hd
 ·rcases hk with hk|hk
  ·exact wpAny_Name (wpAny_loadName_cell I.ok.kind hk hc hcell fin) hd
  ·exact wpAny_Name (wpAny_loadName_free I.ok.kind hk hc hcell fin hcd) hd
theorem JI{i j pos}:PE X (.Constant (.int i) j pos) (tC (.int i)):=λ_ _ _ H _ I h=>wpAny_Constant_int ⟨.int i,H,I.tok _,⟨_,rfl⟩,h⟩
theorem VA{b j pos}:PE X (.Constant (.bool b) j pos) (tC (.bl b)):=λ_ _ _ H _ I h=>Constant_bool ⟨.bl b,H,I,rfl,h⟩
theorem Vp{j pos}:PE X (.Constant .none j pos) (tC .aL):=λ_ _ _ H _ I h=>Constant_none ⟨.aL,H,I,rfl,h⟩
theorem Vk{x j pos}:PE X (.Constant (.str x) j pos) (tC (.str x)):=λ_ _ _ H _ I h=>Calls.Constant_str ⟨.str x,H,I.tok _,⟨_,rfl⟩,h⟩
def Gl(X:Cx) (x:Str):Prop:=X.env.kindOf x=ζ .globalImplicit
theorem Ei{E:Γ->Ψ->Prop}{pins:List (Ξ×Obj)}{s:Ψ}{σ:St}{H:Hp}{x:Str}{u:Γ}{pos:Pos}{Q:Γ->Ψ->Prop}(I:Inv X pins σ H s) (hg:Gl X x) (hm:X.mg x=ζ u) (h:Q u s)
  (hd:(x==("__debug__":Str))=Θ:=by decide):wpAny (model X.prog X.w) X.A (eval (.Name x pos) X.env) Q E s :=
 ajK I.ok.kind hg (Calls.loadGlobal_global (by rw[I.ok.glob];exact I.mod.glob.keeps I.bk) hm h) hd
theorem kP{E:Γ->Ψ->Prop}{pins:List (Ξ×Obj)}{s:Ψ}{σ:St}{H:Hp}{x:Str}{u:Γ}{pos:Pos}{Q:Γ->Ψ->Prop}(I:Inv X pins σ H s) (hg:Gl X x) (hm:X.mg x=η) (hv:bootBuiltins x=ζ u) (h:Q u s)
  (hn:x≠"__name__":=by decide) (hd:(x==("__debug__":Str))=Θ:=by decide):wpAny (model X.prog X.w) X.A (eval (.Name x pos) X.env) Q E s:=by
 obtain⟨mb,h1,h2⟩:=I.mod.blt;exact ajK I.ok.kind hg (Calls.loadGlobal_builtin (by rw[I.ok.glob];exact I.mod.glob.keeps I.bk) hm (by rw[I.ok.blt];exact h1.keeps I.bk) ((h2 x hn).trans hv) h) hd
theorem Dq{x:Str}{v:V}{u:Γ}{pos:Pos}(hg:Gl X x) (hm:X.mg x=ζ u) (r:RelV v u) (hd:(x==("__debug__":Str))=Θ:=by decide):PE X (.Name x pos) (tC v) :=
 λ_ _ _ H _ I h=>Ei I hg hm ⟨v,H,I,r,h⟩ hd
theorem Vz{x:Str}{v:V}{u:Γ}{pos:Pos}(hg:Gl X x) (hm:X.mg x=η) (hv:bootBuiltins x=ζ u) (r:RelV v u) (hn:x≠"__name__":=by decide) (hd:(x==("__debug__":Str))=Θ:=by decide):PE X (.Name x pos) (tC v) :=
 λ_ _ _ H _ I h=>kP I hg hm hv ⟨v,H,I,r,h⟩ hn hd
variable {a b:ν}{ta tb:TE}{pos:Pos}
def tB(t:TE):TT:=λσ H Q=>t σ H λx H1=>∃c,x=.bl c/\Q c H1
theorem Ui{e:ν}{t:TE}(h:PE X e t) (he:∀whole,isTrue e X.env whole=(do let v <-whole;standAt e.pos;holding [v] (truthy v)):=by intro _;rfl):PT X e (tB t):=by
 intro pins s σ H Q I hw;refine isTrue_plain (bR (h pins s σ H _ I hw) λv s1 ⟨x,H1,I1,r1,q1⟩=>?_) (he _)
 obtain⟨d,rfl,q⟩:=q1;cases r1;exact ahl ⟨H1,I1,q⟩
variable {tA yq:TT}{rest:List ν}
def Ra(t u:TT):TT:=λσ H Q=>t σ H λc H1=>if c=Δ then u σ H1 Q else Q Θ H1
def QO(t u:TT):TT:=λσ H Q=>t σ H λc H1=>if c=Δ then Q Δ H1 else u σ H1 Q
def QT(t:TT):TT:=λσ H Q=>t σ H λc H1=>Q (!c) H1
theorem Ue(ha:PT X a tA):PW X (.BoolOp .And [a] pos) tA:=by
 intro wh pins s σ H Q I h;refine isTrue_and (bR (ha pins s σ H Q I h) λc s1 e=>?_)
 cases c with
 |true=>exact isTrue_and_nil e
 |false=>exact e
theorem Uc(ha:PT X a tA):PW X (.BoolOp .Or [a] pos) tA:=by
 intro wh pins s σ H Q I h;refine isTrue_or (bR (ha pins s σ H Q I h) λc s1 e=>?_)
 cases c with
 |false=>exact isTrue_or_nil e
 |true=>exact e
theorem Ug(ha:PT X a tA) (hb:PW X (.BoolOp .And (b::rest) pos) yq):PW X (.BoolOp .And (a::b::rest) pos) (Ra tA yq):=by
 intro wh pins s σ H Q I h;refine isTrue_and (bR (ha pins s σ H _ I h) λc s1 ⟨H1,I1,q1⟩=>?_)
 cases c with
 |true=>exact hb wh pins s1 σ H1 Q I1 q1
 |false=>exact⟨H1,I1,q1⟩
theorem Ud(ha:PT X a tA) (hb:PW X (.BoolOp .Or (b::rest) pos) yq):PW X (.BoolOp .Or (a::b::rest) pos) (QO tA yq):=by
 intro wh pins s σ H Q I h;refine isTrue_or (bR (ha pins s σ H _ I h) λc s1 ⟨H1,I1,q1⟩=>?_)
 cases c with
 |true=>exact⟨H1,I1,q1⟩
 |false=>exact hb wh pins s1 σ H1 Q I1 q1
theorem Uk(ha:PT X a tA):PT X (.UnaryOp .Not a pos) (QT tA):=by
 intro pins s σ H Q I h;exact isTrue_not (ha pins s σ H (λc H1=>Q (!c) H1) I h)
def Q9(ta tb:TE):TE:=λσ H Q=>ta σ H λx H1=>∃c,x=.bl c/\if c=Δ then tb σ H1 Q else Q (.bl Θ) H1
def QS(ta:TE):TE:=λσ H Q=>ta σ H λx H1=>∃c,x=.bl c/\Q (.bl (!c)) H1
theorem Vn{op}{t:TE}(h:PE X a t):PE X (.BoolOp op [a] pos) t:=λpins s σ H Q I hw=>BoolOp_one (h pins s σ H Q I hw)
theorem VB(ha:PE X a ta) (hb:PE X (.BoolOp .And (b::rest) pos) tb):PE X (.BoolOp .And (a::b::rest) pos) (Q9 ta tb):=by
 intro pins s σ H Q I h;refine BoolOp_and (bR (ha pins s σ H _ I h) λv s1 ⟨x,H1,I1,r1,q1⟩=>?_)
 obtain⟨c,rfl,q1⟩:=q1;cases r1;refine ahl ?_;cases c with
 |true=>exact hb pins s1 σ H1 Q I1 q1
 |false=>exact⟨.bl Θ,H1,I1,rfl,q1⟩
theorem Vo(ha:PE X a ta):PE X (.UnaryOp .Not a pos) (QS ta):=by
 intro pins s σ H Q I h;refine UnaryOp_ (bR (ha pins s σ H _ I h) λv s1 ⟨x,H1,I1,r1,q1⟩=>?_)
 obtain⟨c,rfl,q1⟩:=q1;cases r1;exact not_of (ahl ⟨.bl (!c),H1,I1,rfl,q1⟩)
def Q0(t:TT) (ta tb:TE):TE:=λσ H Q=>t σ H λc H1=>if c=Δ then ta σ H1 Q else tb σ H1 Q
theorem Vr{c:ν}(hc:PT X c tA) (ha:PE X a ta) (hb:PE X b tb):PE X (.IfExp c a b pos) (Q0 tA ta tb):=by
 intro pins s σ H Q I h;refine wpAny_IfExp (bR (hc pins s σ H _ I h) λd s1 ⟨H1,I1,q1⟩=>?_)
 cases d with
 |true=>exact ha pins s1 σ H1 Q I1 q1
 |false=>exact hb pins s1 σ H1 Q I1 q1
end
def b9(K:ξ) (H:Hp) (a:Ξ) (xs:List V):Prop :=
 Rd H a (.lst xs) \/
  ∃(o:Obj) (its:Array Γ) (n:Nat),K.lookup a=ζ o/\o.cls=.type "list"/\o.dict=η/\o.data=.seq its n/\its.size<=Ω/\Vals xs its.toList
def cO(K:ξ) (H:Hp) (a:Ξ) (xs:List V):Prop :=
 Rd H a (.tup xs) \/
  ∃(o:Obj) (its:Array Γ) (n:Nat),K.lookup a=ζ o/\o.cls=.type "tuple"/\o.data=.seq its n/\its.size<=Ω/\Vals xs its.toList
def ady:Γ->Option V
 |.none=>ζ .aL
 |.bool b=>ζ (.bl b)
 |.int i _=>ζ (.int i)
 |.str x _=>ζ (.str x)
 |.bytes b _=>ζ (.jt b)
 |.float b _=>ζ (.uo b)
 |.ref a=>ζ (.ref a)
 |.type n=>ζ (.ty n)
 |_=>η
theorem RelV.abs{x:V}{u:Γ}(r:RelV x u):ady u=ζ x:=by
 cases x with
 |aL=>cases r;rfl
 |bl _=>cases r;rfl
 |int _=>obtain⟨t,rfl⟩:=r;rfl
 |str _=>obtain⟨t,rfl⟩:=r;rfl
 |jt _=>obtain⟨t,rfl⟩:=r;rfl
 |uo _=>obtain⟨t,rfl⟩:=r;rfl
 |ref _=>cases r;rfl
 |ty _=>cases r;rfl
theorem RelV.inj{x y:V}{u:Γ}(r:RelV x u) (q:RelV y u):x=y:=agc (r.abs.symm.trans q.abs)
theorem Vals.inj:∀{xs ys:List V}{us:List Γ},Vals xs us->Vals ys us->xs=ys
 |_,_,_,.nil,.nil=>rfl
 |_,_,_,.cons r t,.cons r' t'=>by rw[r.inj r',Vals.inj t t']
section
variable {X:Cx}{pins:List (Ξ×Obj)}{σ:St}{H:Hp}{s:Ψ}{a:Ξ}{xs ys:List V}
theorem b9.of{K:ξ}(h:H a=ζ (.lst xs)):b9 K H a xs:=.inl (.inl h)
theorem cO.of{K:ξ}(h:H a=ζ (.tup xs)):cO K H a xs:=.inl (.inl h)
theorem Inv.list(I:Inv X pins σ H s) (h:b9 X.K H a xs):∃its:List Γ,Vals xs its/\PlainL s.heap a its.toArray/\xs.length<=Ω:=by
 rcases h with h|⟨o,its,n,hk,hc,hd,hs,hz,r⟩
 ·obtain⟨z,its,n,r,e⟩:=h.ok I.hok;exact⟨its,r,⟨_,n,e,rfl,rfl,rfl⟩,z⟩
 ·refine⟨its.toList,r,⟨o,n,I.fM a o hk,hc,hd,by simpa using hs⟩,?_⟩
  have e:=r.length;simp only[ago]at e;omega
theorem Inv.tuple(I:Inv X pins σ H s) (h:cO X.K H a xs):∃its:List Γ,Vals xs its/\IsTup s.heap a its.toArray/\xs.length<=Ω:=by
 rcases h with h|⟨o,its,n,hk,hc,hs,hz,r⟩
 ·obtain⟨z,its,r,p⟩:=h.ok I.hok;exact⟨its,r,p.tup,z⟩
 ·refine⟨its.toList,r,⟨o,I.fM a o hk,hc,n,by simpa using hs⟩,?_⟩
  have e:=r.length;simp only[ago]at e;omega
theorem Inv.Ed(I:Inv X pins σ H s) (h:b9 X.K H a xs) (h':b9 X.K H a ys):xs=ys:=by
 obtain⟨its,r,⟨o,n,e,_,_,d⟩,_⟩:=I.list h;obtain⟨its',r',⟨o',n',e',_,_,d'⟩,_⟩:=I.list h';rw[e]at e';cases e';rw[d]at d'
 injection d' with d1 _
 have:its=its':=by simpa using congrArg Array.toList d1
 subst this;exact r.inj r'
theorem Inv.HP(I:Inv X pins σ H s) (h:cO X.K H a xs) (h':cO X.K H a ys):xs=ys:=by
 obtain⟨its,r,⟨o,e,_,n,d⟩,_⟩:=I.tuple h;obtain⟨its',r',⟨o',e',_,n',d'⟩,_⟩:=I.tuple h';rw[e]at e';cases e';rw[d]at d'
 injection d' with d1 _
 have:its=its':=by simpa using congrArg Array.toList d1
 subst this;exact r.inj r'
end
abbrev Cx.kq(X:Cx) (E:Γ->Ψ->Prop):Cx:={X with xe:=E}
abbrev Cx.lQ(X:Cx):Cx:=X.kq λ_ _=>False
theorem Cx.Ok.kq{X:Cx}(ok:X.Ok) (E:Γ->Ψ->Prop):(X.kq E).Ok :=
 ⟨ok.mod,ok.kind,ok.glob,ok.blt,ok.above,ok.inj,ok.has,ok.oZ,ok.hd,ok.frames,ok.stk,ok.wL,ok.bs,ok.jb,ok.lR,ok.ur,ok.iQ,ok.kX⟩
theorem Cx.Ok.mX{X:Cx}{E:Γ->Ψ->Prop}(ok:(X.kq E).Ok):X.Ok :=
 ⟨ok.mod,ok.kind,ok.glob,ok.blt,ok.above,ok.inj,ok.has,ok.oZ,ok.hd,ok.frames,ok.stk,ok.wL,ok.bs,ok.jb,ok.lR,ok.ur,ok.iQ,ok.kX⟩
section
variable {X:Cx}{pins:List (Ξ×Obj)}{σ:St}{H:Hp}{s:Ψ}{E:Γ->Ψ->Prop}
theorem Inv.kq(I:Inv X pins σ H s) (E:Γ->Ψ->Prop):Inv (X.kq E) pins σ H s:=⟨I.ok.kq E,I.os,I.bare,I.base,I.loc,I.cell,I.free,I.jo,I.pin,I.hok,I.len⟩
theorem Inv.mX(I:Inv (X.kq E) pins σ H s):Inv X pins σ H s:=⟨I.ok.mX,I.os,I.bare,I.base,I.loc,I.cell,I.free,I.jo,I.pin,I.hok,I.len⟩
theorem SP.mX{D:Ends}{f:Flow}{s':Ψ}(h:SP (X.kq E) pins D f s'):SP X pins D f s':=by
 cases f with
 |next=>obtain⟨σ',H',I,q⟩:=h;exact⟨σ',H',I.mX,q⟩
 |brk=>obtain⟨σ',H',I,q⟩:=h;exact⟨σ',H',I.mX,q⟩
 |cont=>obtain⟨σ',H',I,q⟩:=h;exact⟨σ',H',I.mX,q⟩
 |ret u=>obtain⟨v,σ',H',I,r,q⟩:=h;exact⟨v,σ',H',I.mX,r,q⟩
theorem gW.lQ{st:List ψ}{t:TS}(h:gW X.lQ st t):gW X st t:=λpins s σ H D I hw =>
 agq (h pins s σ H D (I.kq _) hw) (λ_ _ q=>q.mX) λ_ _ z=>False.elim z
end
section
variable {X:Cx}{st:ψ}{rest:List ψ}{t u:TS}{e:ν}{te:TE}{pos:Pos}
def QW:TS:=λD σ H=>D.nx σ H
def QL(t u:TS):TS:=λD σ H=>t {D with nx:=u D} σ H
theorem Uq:gW X [] QW:=λ_ _ σ H _ I h=>aie ⟨σ,H,I,h⟩
theorem Ur(h1:PS X st t) (h2:gW X rest u):gW X (st::rest) (QL t u):=by
 intro pins s σ H D I h;refine wpAny_execs_cons (bR (h1 pins s σ H {D with nx:=u D} I h) λf s1 q=>?_)
 cases f with
 |next =>
  obtain⟨σ',H',I',q⟩:=q;exact h2 pins s1 σ' H' D I' q
 |ret v=>exact q
 |brk=>exact q
 |cont=>exact q
theorem Uo(h1:PS X st t):gW X [st] t:=by
 intro pins s σ H D I h;refine wpAny_execs_cons (bR (h1 pins s σ H D I h) λf s1 q=>?_)
 cases f with
 |next=>exact aie q
 |ret v=>exact q
 |brk=>exact q
 |cont=>exact q
theorem Inv.quiet{pins:List (Ξ×Obj)}{σ:St}{H:Hp}{s:Ψ}(I:Inv X pins σ H s):interactive X.env=Θ:=by simp[interactive,I.ok.kind]
def Q4(te:TE):TS:=λD σ H=>te σ H λ_ H1=>D.nx σ H1
theorem Uy(he:PE X e te) (hs:swapsWith e η pos.line X.env=pure Θ:=by rfl):PS X (.Expr e pos) (Q4 te):=by
 intro pins s σ H D I h;exact wpAny_Expr_any (bR (he pins s σ H _ I h) λv s1 ⟨x,H1,I1,r1,q1⟩=>⟨σ,H1,I1,q1⟩) I.quiet hs
def QM(te:TE):TS:=λD σ H=>te σ H D.rt
theorem Uv(he:PE X e te):PS X (.Return (ζ e) pos) (QM te):=by
 intro pins s σ H D I h;exact wpAny_Return_some (bR (he pins s σ H _ I h) λv s1 ⟨x,H1,I1,r1,q1⟩=>⟨x,σ,H1,I1,r1,q1⟩)
def QZ(c:TT) (t u:TS):TS:=λD σ H=>c σ H λb H1=>if b=Δ then t D σ H1 else u D σ H1
theorem Uw{c:ν}{a b:List ψ}{tc:TT}(hc:PT X c tc) (ha:gW X a t) (hb:gW X b u):PS X (.If c a b pos) (QZ tc t u):=by
 intro pins s σ H D I h;refine wpAny_If (bR (hc pins s σ H _ I h) λd s1 ⟨H1,I1,q1⟩=>?_)
 cases d with
 |true=>exact ha pins s1 σ H1 D I1 q1
 |false=>exact hb pins s1 σ H1 D I1 q1
end
abbrev TG:=V->St->Hp->(St->Hp->Prop)->Prop
abbrev mQ:=List V->St->Hp->(St->Hp->Prop)->Prop
def PG(X:Cx) (target:ν) (t:TG):Prop :=
 ∀(pins:List (Ξ×Obj)) (s:Ψ) (σ:St) (H:Hp) (v:V) (u:Γ) (Q:St->Hp->Prop),Inv X pins σ H s->RelV v u->t v σ H Q ->
  wpAny (model X.prog X.w) X.A (assign target X.env u) (λ_ s'=>∃σ' H',Inv X pins σ' H' s'/\Q σ' H') X.xe s
def pB(X:Cx) (ts:List ν) (t:mQ):Prop :=
 ∀(pins:List (Ξ×Obj)) (s:Ψ) (σ:St) (H:Hp) (vs:List V) (us:List Γ) (Q:St->Hp->Prop),Inv X pins σ H s->Vals vs us->t vs σ H Q ->
  wpAny (model X.prog X.w) X.A (assignInOrder ((assignEach ts X.env).map (·.2)) us) (λ_ s'=>∃σ' H',Inv X pins σ' H' s'/\Q σ' H') X.xe s
abbrev GO:=V->V->V->Hp->(Hp->Prop)->Prop
def Ol(X:Cx) (t:GO):Prop :=
 ∀(pins:List (Ξ×Obj)) (s:Ψ) (σ:St) (H:Hp) (o i v:V) (ov iv u:Γ) (Q:Hp->Prop),Inv X pins σ H s->RelV o ov->RelV i iv->RelV v u->t o i v H Q ->
  wpAny (model X.prog X.w) X.A (setItem ov iv u) (λ_ s'=>∃H',Inv X pins σ H' s'/\Q H') X.xe s
section
variable {X:Cx}{pos:Pos}
def MK(i:Nat):TG:=λv σ H Q=>Q (σ.set i (ζ v)) H
theorem Vg{i:Nat}{x:Str}(hN:X.N.Nodup) (hi:X.N[i]? = ζ x) (hx:Loc X.env.scope x) (hf:X.fn x=Δ\/X.env.scope.names.lookup x=ζ .local:=by first|exact .inl rfl|exact .inr rfl|assumption):PG X (.Name x pos) (MK i):=by
 intro pins s σ H v u Q I r h;exact wpAny_assign_Name (Iu I hN hi hx r (λs' I'=>⟨_,H,I',h⟩) hf)
def aaQ:mQ:=λvs σ H Q=>vs=[]/\Q σ H
def aaR(t:TG) (u:mQ):mQ:=λvs σ H Q=>∃v r,vs=v::r/\t v σ H λσ' H'=>u r σ' H' Q
theorem Vc:pB X [] aaQ:=by
 intro pins s σ H vs us Q I r h;obtain⟨e,h⟩:=h;subst e;cases r;exact assignInOrder_nil ⟨σ,H,I,h⟩
theorem Vd{e:ν}{es:List ν}{t:TG}{u:mQ}(h1:PG X e t) (h2:pB X es u)
  (hs:(assignEach (e::es) X.env).map (·.2)=assign e X.env::(assignEach es X.env).map (·.2):=by rfl):pB X (e::es) (aaR t u):=by
 intro pins s σ H vs us Q I r h;obtain⟨v,vr,e1,h⟩:=h;subst e1;cases r with
 |cons r rr =>
  rw[hs];refine assignInOrder_cons (bR (h1 pins s σ H _ _ _ I r h) λ_ s1 ⟨σ1,H1,I1,q1⟩=>?_)
  exact h2 pins s1 σ1 H1 _ _ Q I1 rr q1
def aaO(K:ξ) (n:Nat) (t:mQ):TG:=λv σ H Q=>∃a xs,v=.ref a/\cO K H a xs/\xs.length=n/\t xs σ H Q
theorem Ve{es:List ν}{k:Nat}{t:mQ}{n:Nat}(hc:X.calm=Δ) (h:pB X es t)
  (hn:(assignEach es X.env).length=n:=by rfl) (hst:(assignEach es X.env).findIdx? (·.1)=η:=by rfl):PG X (.Tuple es k pos) (aaO X.K n t):=by
 intro pins s σ H v u Q I r hw;obtain⟨a,xs,e1,hq,hl,hw⟩:=hw;subst e1;cases r;obtain⟨its,rv,ht,hz⟩:=I.tuple hq;refine assign_Tuple_tuple (I.ok.hd hc) ht (by simp[hn,<-hl,rv.length]) hst λh' hx=>?_
 have I1:Inv X pins σ H {s with heap:=h'}:=I.kept (t':=s.toks) λb o e=>hx b o (afZ (afU e)) e
 exact h pins _ σ H xs _ Q I1 (by simpa using rv) hw
def aaP(to ti:TE) (t:GO):TG:=λv σ H Q=>to σ H λo H1=>ti σ H1 λi H2=>t o i v H2 λH3=>Q σ H3
theorem Vf{o i:ν}{to ti:TE}{t:GO}(ho:PE X o to) (hi:PE X i ti) (hs:Ol X t)
  (ha:∀v,assign (.Subscript o i pos) X.env v=(do
   let ov <-holding [v] (eval o X.env)
   let iv <-holding [v,ov] (eval i X.env)
   standAt pos
   holding [v,ov,iv] (setItem ov iv v)
   release [v,ov,iv] []):=by intro _;rfl):PG X (.Subscript o i pos) (aaP to ti t):=by
 intro pins s σ H v u Q I r h;rw[ha];refine afO (ag5 (bR (ho pins s σ H _ I h) λov s1 ⟨x,H1,I1,r1,q1⟩=>?_))
 refine afO (ag5 (bR (hi pins s1 σ H1 _ I1 q1) λiv s2 ⟨y,H2,I2,r2,q2⟩=>?_))
 refine afO (aiN (afO (ag5 (bR (hs pins s2 σ H2 x y v ov iv u _ I2 r1 r2 r q2) λ_ s3 ⟨H3,I3,q3⟩=>?_))))
 exact wpAny_release ⟨σ,H3,I3,q3⟩
def Ij(te:TE) (g:TG):TS:=λD σ H=>te σ H λx H1=>g x σ H1 D.nx
theorem Uz{tg e:ν}{te:TE}{g:TG}(he:PE X e te) (hg:PG X tg g) (hs:swapsWithSole [tg] e pos.line X.env=pure Θ:=by rfl) (hw:swappedStores [tg] e X.env=pure η:=by rfl)
  (h1:(assignEach [tg] X.env).map (·.2)=[assign tg X.env]:=by rfl):PS X (.Assign [tg] e pos) (Ij te g):=by
 intro pins s σ H D I h;refine wpAny_Assign_stores (bR (he pins s σ H _ I h) λv s1 ⟨x,H1,I1,r1,q1⟩=>?_) hs hw
 rw[h1];exact bR (hg pins s1 σ H1 x v _ I1 r1 q1) λ_ s2 q=>q
theorem Uu{i:Nat}{x:Str}{e:ν}{te:TE}{pos':Pos}(hN:X.N.Nodup) (hi:X.N[i]? = ζ x) (hx:Loc X.env.scope x) (he:PE X e te) (hs:swapsWith e (ζ (.Name x pos')) pos.line X.env=pure Θ:=by rfl) (hf:X.fn x=Δ\/X.env.scope.names.lookup x=ζ .local:=by first|exact .inl rfl|exact .inr rfl|assumption) :
  PS X (.Assign [.Name x pos'] e pos) (Ij te (MK i)):=by
 intro pins s σ H D I h;refine wpAny_Assign_Name (bR (he pins s σ H _ I h) λv s1 ⟨y,H1,I1,r1,q1⟩=>?_) hs
 exact Iu I1 hN hi hx r1 (λs2 I2=>⟨_,H1,I2,q1⟩) hf
end
section
variable {X:Cx}{pos:Pos}
def QE(c:TT) (tb:TS):TS:=λD σ H=>∃W:Nat->St->Hp->Prop,(∃m,W m σ H)/\∀m σ H,W m σ H ->
 c σ H λb H1=>if b=Δ then ∃N:St->Hp->Prop,(∀σ' H',N σ' H'->∃m',m'<m/\W m' σ' H')/\tb {D with nx:=N,ct:=N,bk:=D.nx} σ H1 else D.nx σ H1
theorem Us{c:ν}{body:List ψ}{tc:TT}{tb:TS}(hp:aaN (model X.prog X.w) X.A X.env X.xe) (hc:PT X c tc) (hb:gW X body tb):PS X (.While c body [] pos) (QE tc tb):=by
 intro pins s σ H D I h;obtain⟨W,⟨m0,w0⟩,turn⟩:=h;refine wpAny_While (codeAny_whileLoop (λn s'=>∃σ' H',Inv X pins σ' H' s'/\W n σ' H') ?_ m0 ⟨σ,H,I,w0⟩)
 rintro n s1 ⟨σ1,H1,I1,w1⟩
 refine ahm hp (bR (hc pins s1 σ1 H1 _ I1 (turn n σ1 H1 w1)) λb s2 ⟨H2,I2,q2⟩=>?_)
 cases b with
 |true =>
  obtain⟨N,hN,q2⟩:=q2;rw[if_pos rfl];refine ahm hp (bR (hb pins s2 σ1 H2 _ I2 q2) λf s3 q3=>?_)
  cases f with
  |next =>
   obtain⟨σ3,H3,I3,n3⟩:=q3;obtain⟨m',hm,w3⟩:=hN σ3 H3 n3;exact⟨m',hm,σ3,H3,I3,w3⟩
  |cont =>
   obtain⟨σ3,H3,I3,n3⟩:=q3;obtain⟨m',hm,w3⟩:=hN σ3 H3 n3;exact⟨m',hm,σ3,H3,I3,w3⟩
  |brk=>exact q3
  |ret v=>exact q3
 |false =>
  rw[if_neg agd];exact aie ⟨σ1,H2,I2,q2⟩
end
structure It where
 go:Nat->Hp->Prop
 uP:Nat->Hp->V->Hp->Prop
 stop:Nat->Hp->Prop
def g8(X:Cx) (pins:List (Ξ×Obj)) (H:Hp) (b:Ξ):Prop :=
 H b=η/\b≠X.env.locals/\b∉X.fs/\(b∈X.ex\/X.s₀.heap.objs.size<=b)/\(∀x c,X.env.cells.lookup x=ζ c->c≠b)/\∀p∈X.pn++pins,p.1≠b
theorem Inv.uh{X:Cx}{pins:List (Ξ×Obj)}{σ:St}{H H':Hp}{s:Ψ}{b:Ξ}(I:Inv X pins σ H s) (hb:s.heap.objs.size<=b) (hn:H' b=η):g8 X pins H' b:=by
 refine⟨hn,agH (af2 I.lt hb),I.DH hb,.inr (agg I.sz hb),λx c e z=>?_,λp hp z=>?_⟩
 ·obtain⟨v,q⟩:=I.cell x c e;exact absurd (af2 q.lt (by rw[z];exact hb)) (agB _)
 ·exact absurd (af2 (afU (I.pin p hp).1) (by rw[z];exact hb)) (agB _)
structure Turn (P:π) (w:χ) (K:ξ) (tg:ν) (J:It) (fp:List Ξ) (it:Ξ) (tn:Nat->υ->Prop):Prop where
 mem:it∈fp
 obj:∀i h,tn i h->∀b∈fp,∃o,h.get? b=ζ o/\∀v,o.data≠.cell v
 keep:∀i h h',tn i h->(∀b∈fp,∀o,h.get? b=ζ o->h'.get? b=ζ o)->tn i h'
 item:∀(X:Cx),X.prog=P->X.w=w->X.K=K->X.calm=Δ->∀(i:Nat) (pins:List (Ξ×Obj)) (s:Ψ) (σ:St) (H:Hp) (E:Γ->Ψ->Prop),Inv X pins σ H s->(∀b∈fp,g8 X pins H b)->tn i s.heap->J.go i H ->
  wpAny (model P w) X.A (pyNext (.ref it)) (λr s1=>∃u,r=ζ u /\
   wpAny (model P w) X.A (letOwnedTupleGo tg (.ref it) u) (λ_ s2=>∃x H',Inv X pins σ H' s2/\RelV x u/\J.uP i H x H'/\tn (i+1) s2.heap/\∀b∈fp,H' b=η) E s1) E s
 done:∀(X:Cx),X.prog=P->X.w=w->X.K=K->X.calm=Δ->∀(i:Nat) (pins:List (Ξ×Obj)) (s:Ψ) (σ:St) (H:Hp) (E:Γ->Ψ->Prop),Inv X pins σ H s->(∀b∈fp,g8 X pins H b)->tn i s.heap->J.stop i H ->
  wpAny (model P w) X.A (pyNext (.ref it)) (λr s1=>r=η/\Inv X pins σ H s1) E s
 self:∀(A:ω) (i:Nat) (s:Ψ) (Q:Γ->Ψ->Prop) (E:Γ->Ψ->Prop),tn i s.heap->Q (.ref it) s->wpAny (model P w) A (pyIter (.ref it)) Q E s
abbrev TI:=St->Hp->(It->Hp->Prop)->Prop
def GS(X:Cx) (pins:List (Ξ×Obj)) (σ:St) (tg:ν) (R:It->Hp->Prop) (itv:Γ) (s2:Ψ):Prop :=
 ∃(it:Ξ) (fp:List Ξ) (tn:Nat->υ->Prop) (J:It) (H':Hp),itv=.ref it/\Inv X pins σ H' s2/\Turn X.prog X.w X.K tg J fp it tn/\tn 0 s2.heap/\(∀b∈fp,g8 X pins H' b)/\R J H'
def PI(X:Cx) (tg iter:ν) (wi:TI):Prop :=
 ∀(pins:List (Ξ×Obj)) (s:Ψ) (σ:St) (H:Hp) (R:It->Hp->Prop),Inv X pins σ H s->wi σ H R ->
  wpAny (model X.prog X.w) X.A (eval iter X.env) (λv s1=>wpAny (model X.prog X.w) X.A (pyIter v) (GS X pins σ tg R) X.xe s1) X.xe s
theorem wH{M:Model}{A:ω}{E:Γ->Ψ->Prop}{s:Ψ}{tg:ν}{it:Ξ}{u:Γ}{o:Obj}{n:String}{vs:Array Γ}{Q:Unit->Ψ->Prop}(ho:s.heap.get? it=ζ o) (hc:o.cls=.type n) (hd:o.data=.fields vs)
    (hn:["enumerate","zip","dict_itemiterator","dict_reverseitemiterator","odict_iterator","itertools.zip_longest","itertools.pairwise"].contains n=Θ) (hQ:Q () s):wpAny M A (letOwnedTupleGo tg (.ref it) u) Q E s:=by
  unfold letOwnedTupleGo;cases tg<;>first
    | exact afP hQ
    | (cases u<;>first
        | exact afP hQ
        | (refine afO (wpAny_load ho ?_)
           rw[hc,hd];show wpAny M A (if(["enumerate","zip","dict_itemiterator","dict_reverseitemiterator","odict_iterator","itertools.zip_longest","itertools.pairwise"].contains n&&vs[0]? == ζ (rawInt _))=Δ then _ else _) Q E s
           rw[if_neg (by intro h;rw[hn,aiO]at h;cases h)]
           exact afP hQ))
def GZ(K:ξ) (a:Ξ):It :=
 ⟨λi H=>∃xs x,b9 K H a xs/\xs[i]? = ζ x,λi H x H'=>H'=H/\∀xs,b9 K H a xs->xs[i]? = ζ x,λi H=>∃xs,b9 K H a xs/\xs.length<=i⟩
def GY(K:ξ) (a:Ξ):It :=
 ⟨λi H=>∃xs x,cO K H a xs/\xs[i]? = ζ x,λi H x H'=>H'=H/\∀xs,cO K H a xs->xs[i]? = ζ x,λi H=>∃xs,cO K H a xs/\xs.length<=i⟩
def xQ(lo:Int) (n:Nat):It:=⟨λi _=>i<n,λi H x H'=>H'=H/\x=.int (lo+i),λi _=>n<=i⟩
theorem P9{P:π}{w:χ}{K:ξ}{tg:ν}(a it:Ξ):Turn P w K tg (GZ K a) [it] it (λi h=>h.IsListIter it a i) where
 mem:=by simp
 obj:=λi h st b hb=>by
  have e:b=it:=by simpa using hb
  subst e;obtain⟨o,e,c,d⟩:=st;exact⟨o,e,λv z=>by rw[d]at z;cases z⟩
 keep:=λi h h' st k=>st.at λo e=>k it (by simp) o e
 item:=by
  intro X hP hw hK hc i pins s σ H E I hf st hg;subst hP hw hK;obtain⟨xs,x,hq,hx⟩:=hg;obtain⟨its,rv,p,hz⟩:=I.list hq;obtain⟨u,hu,ru⟩:=rv.get hx;obtain⟨f0,f1,f2,f3,f4,f5⟩:=hf it (by simp)
  refine wpAny_pyNext_list_item st p.isList (x:=u) (by simpa using hu) λh' st' sb=>?_
  have I1:Inv X pins σ H {s with heap:=h'}:=I.turned (t':=s.toks) (λb o hb e=>(sb.2 b hb).trans e) f0 f1 f3 f4 f5
  obtain⟨o,e,c,d⟩:=id st';exact⟨u,rfl,wH (s:={s with heap:=h'}) e c d (by decide) ⟨x,H,I1,ru,⟨rfl,λys hy=>by rw[I.Ed hy hq];exact hx⟩,st',λb hb=>(hf b hb).1⟩⟩
 done:=by
  intro X hP hw hK hc i pins s σ H E I hf st hg;subst hP hw hK;obtain⟨xs,hq,hx⟩:=hg;obtain⟨its,rv,p,hz⟩:=I.list hq;obtain⟨f0,f1,f2,f3,f4,f5⟩:=hf it (by simp)
  have hl:=rv.length;exact wpAny_pyNext_list_end (I.ok.hd hc) st p.isList (by simp;omega) λh' eb=>⟨rfl,I.turned (t':=s.toks) (λb o hb e=>eb b o hb e) f0 f1 f3 f4 f5⟩
 self:=λ_ _ _ _ _ st h=>wpAny_pyIter_listiter st h
theorem PZ{P:π}{w:χ}{K:ξ}{tg:ν}(a it:Ξ):Turn P w K tg (GY K a) [it] it (λi h=>h.IsTupleIter it a i) where
 mem:=by simp
 obj:=λi h st b hb=>by
  have e:b=it:=by simpa using hb
  subst e;obtain⟨o,e,c,d⟩:=st;exact⟨o,e,λv z=>by rw[d]at z;cases z⟩
 keep:=λi h h' st k=>st.at λo e=>k it (by simp) o e
 item:=by
  intro X hP hw hK hc i pins s σ H E I hf st hg;subst hP hw hK;obtain⟨xs,x,hq,hx⟩:=hg;obtain⟨its,rv,p,hz⟩:=I.tuple hq;obtain⟨u,hu,ru⟩:=rv.get hx;obtain⟨f0,f1,f2,f3,f4,f5⟩:=hf it (by simp)
  refine wpAny_pyNext_tuple_item st (show s.heap.IsTuple a its.toArray from p) (x:=u) (by simpa using hu) λh' st' sb=>?_
  have I1:Inv X pins σ H {s with heap:=h'}:=I.turned (t':=s.toks) (λb o hb e=>(sb.2 b hb).trans e) f0 f1 f3 f4 f5
  obtain⟨o,e,c,d⟩:=id st';exact⟨u,rfl,wH (s:={s with heap:=h'}) e c d (by decide) ⟨x,H,I1,ru,⟨rfl,λys hy=>by rw[I.HP hy hq];exact hx⟩,st',λb hb=>(hf b hb).1⟩⟩
 done:=by
  intro X hP hw hK hc i pins s σ H E I hf st hg;subst hP hw hK;obtain⟨xs,hq,hx⟩:=hg;obtain⟨its,rv,p,hz⟩:=I.tuple hq;obtain⟨f0,f1,f2,f3,f4,f5⟩:=hf it (by simp)
  have hl:=rv.length;exact wpAny_pyNext_tuple_end (I.ok.hd hc) st (show s.heap.IsTuple a its.toArray from p) (by simp;omega) λh' eb=>⟨rfl,I.turned (t':=s.toks) (λb o hb e=>eb b o hb e) f0 f1 f3 f4 f5⟩
 self:=λ_ _ _ _ _ st h=>wpAny_pyIter_tupleiter st h
theorem P7{P:π}{w:χ}{K:ξ}{tg:ν}(it:Ξ) (lo:Int) (n:Nat):Turn P w K tg (xQ lo n) [it] it (λi h=>aaD h it (lo+(i:Nat)*1) ((n:Int)-(i:Nat)) 1) where
 mem:=by simp
 obj:=λi h st b hb=>by
  have e:b=it:=by simpa using hb
  subst e;exact⟨_,st,λv z=>by
   have z':Data.fields _=Data.cell v:=z;cases z'⟩
 keep:=λi h h' st k=>k it (by simp) _ st
 item:=by
  intro X hP hw hK hc i pins s σ H E I hf st hg;subst hP hw hK;obtain⟨f0,f1,f2,f3,f4,f5⟩:=hf it (by simp)
  have W:=Walks.range (prog:=X.prog) (w:=X.w) (I.ok.hd hc) it lo 1 n;refine W.item i s _ _ hg st λv h' tk hv st' kk=>?_
  obtain⟨t,rfl⟩:=hv;have I1:Inv X pins σ H {s with heap:=h',toks:=tk}:=I.turned (λb o hb e=>kk b o (by simpa using hb) e) f0 f1 f3 f4 f5
  refine⟨_,rfl,wH (s:={s with heap:=h',toks:=tk}) (n:="range_iterator") st' rfl rfl (by decide) ⟨.int (lo+i),H,I1,⟨t,?_⟩,⟨rfl,rfl⟩,st',λb hb=>(hf b hb).1⟩⟩
  rw[Int.mul_one]
 done:=by
  intro X hP hw hK hc i pins s σ H E I hf st hg;subst hP hw hK;obtain⟨f0,f1,f2,f3,f4,f5⟩:=hf it (by simp)
  exact ajL (I.ok.hd hc) st (by have:n<=i:=hg;omega) λh' eb=>⟨rfl,I.turned (t':=s.toks) (λb o hb e=>eb b o hb e) f0 f1 f3 f4 f5⟩
 self:=λ_ _ _ _ _ st h=>ajM st h
section
variable {X:Cx}{tg:ν}
def ZE(K:ξ) (tl:TE):TI:=λσ H R=>tl σ H λx H1=>∃a,x=.ref a/\(∃xs,b9 K H1 a xs)/\R (GZ K a) H1
def Zx(K:ξ) (tl:TE):TI:=λσ H R=>tl σ H λx H1=>∃a,x=.ref a/\(∃xs,cO K H1 a xs)/\R (GY K a) H1
theorem Va{l:ν}{tl:TE}(hl:PE X l tl):PI X tg l (ZE X.K tl):=by
 intro pins s σ H R I h;refine bR (hl pins s σ H _ I h) λv s1 ⟨x,H1,I1,r1,q1⟩=>?_
 obtain⟨a,e,⟨xs,hq⟩,q⟩:=q1;subst e;cases r1;obtain⟨its,rv,p,hz⟩:=I1.list hq;refine aif p.isList ?_;refine⟨s1.heap.objs.size,[s1.heap.objs.size],_,_,H1,rfl,I1.kept (t':=s1.toks) λb o e=>afS _ e,P9 a _,⟨_,af3 _ rfl,rfl,rfl⟩,λb hb=>?_,q⟩
 have e:b=s1.heap.objs.size:=by simpa using hb
 subst e;exact I1.uh (afQ _) (I1.hok.fresh (afQ _))
theorem U5{l:ν}{tl:TE}(hl:PE X l tl):PI X tg l (Zx X.K tl):=by
 intro pins s σ H R I h;refine bR (hl pins s σ H _ I h) λv s1 ⟨x,H1,I1,r1,q1⟩=>?_
 obtain⟨a,e,⟨xs,hq⟩,q⟩:=q1;subst e;cases r1;obtain⟨its,rv,p,hz⟩:=I1.tuple hq;refine ahn (show s1.heap.IsTuple a its.toArray from p) ?_
 refine⟨s1.heap.objs.size,[s1.heap.objs.size],_,_,H1,rfl,I1.kept (t':=s1.toks) λb o e=>afS _ e,PZ a _,⟨_,af3 _ rfl,rfl,rfl⟩,λb hb=>?_,q⟩
 have e:b=s1.heap.objs.size:=by simpa using hb
 subst e;exact I1.uh (afQ _) (I1.hok.fresh (afQ _))
theorem Jm{pins:List (Ξ×Obj)}{σ:St}{H:Hp}{s:Ψ}{R:It->Hp->Prop}{E:Γ->Ψ->Prop}{lo hi:Int}{t u v:Tok}{tk:Nat}(I:Inv X pins σ H s) (h1:-(2^62)<=lo) (h2:lo<2^62) (h3:-(2^62)<=hi) (h4:hi<2^62)
  (q:R (xQ lo (hi-lo).toNat) H):wpAny (model X.prog X.w) X.A (pyIter (.ref s.heap.objs.size)) (GS X pins σ tg R) E {s with heap:=s.heap.push {cls:=.type "range",data:=.fields #[.int lo t,.int hi u,.int 1 v]},toks:=tk}:=by
 refine wpAny_pyIter_range (IsRange.new ..) (small_one h1 h2 h3 h4) ?_;have I1:Inv X pins σ H {s with heap:=s.heap.push {cls:=.type "range",data:=.fields #[.int lo t,.int hi u,.int 1 v]},toks:=tk}:=I.kept λb o e=>afS _ e
 refine⟨(s.heap.push {cls:=.type "range",data:=.fields #[.int lo t,.int hi u,.int 1 v]}).objs.size,[(s.heap.push {cls:=.type "range",data:=.fields #[.int lo t,.int hi u,.int 1 v]}).objs.size],_,_,H,rfl,
  I1.kept (t':=tk) λb o e=>afS _ e,P7 _ lo (hi-lo).toNat,?_,λb hb=>?_,q⟩
 ·have e1:lo+((0:Nat):Int)*1=lo:=by simp
  have e2:(((hi-lo).toNat:Nat):Int)-((0:Nat):Int)=Builtin.Range.rangeSize lo hi 1:=by rw[rangeSize_one];split<;>omega
  show aaD _ _ (lo+((0:Nat):Int)*1) ((((hi-lo).toNat:Nat):Int)-((0:Nat):Int)) 1;rw[e1,e2];exact af3 _ rfl
 ·have e:b=(s.heap.push {cls:=.type "range",data:=.fields #[.int lo t,.int hi u,.int 1 v]}).objs.size:=by simpa using hb
  subst e;exact I1.uh (afQ _) (I1.hok.fresh (afQ _))
def ZC(ta:TA):TI:=λσ H R=>ta σ H λvs H1=>∃j:Int,vs=[.int j]/\-(2^62)<=j/\j<2^62/\R (xQ 0 j.toNat) H1
def Zz(ta:TA):TI:=λσ H R=>ta σ H λvs H1=>∃i j:Int,vs=[.int i,.int j]/\(-(2^62)<=i/\i<2^62/\-(2^62)<=j/\j<2^62)/\R (xQ i (j-i).toNat) H1
theorem U9{a:ν}{ta:TA}{p pos:Pos}(hg:Gl X "range") (hm:X.mg "range"=η) (ha:PA X [a] ta) (hs:ε [a] X.env=[(Θ,eval a X.env)]:=by rfl):PI X tg (.Call (.Name "range" p) [a] [] pos) (ZC ta):=by
 intro pins s σ H R I h;refine Call_ (kP I hg hm boot_range (ahd (bR (ha pos pins s σ H _ I h) λus s1 ⟨vs,H1,I1,r1,q1⟩=>?_) hs rfl))
 obtain⟨j,e,q1,q2,q⟩:=q1;subst e;cases r1 with
 |cons r rr =>
  cases rr;obtain⟨t,rfl⟩:=r;exact call_range_1 (Jm I1 (by omega) (by omega) q1 q2 (by simpa using q))
theorem U8{a b:ν}{ta:TA}{p pos:Pos}(hg:Gl X "range") (hm:X.mg "range"=η) (ha:PA X [a,b] ta) (hs:ε [a,b] X.env=[(Θ,eval a X.env),(Θ,eval b X.env)]:=by rfl) (hs2:ε [b] X.env=[(Θ,eval b X.env)]:=by rfl) :
  PI X tg (.Call (.Name "range" p) [a,b] [] pos) (Zz ta):=by
 intro pins s σ H R I h;refine Call_ (kP I hg hm boot_range (ahd (bR (ha pos pins s σ H _ I h) λus s1 ⟨vs,H1,I1,r1,q1⟩=>?_) (by rw[hs,hs2]) (by rw[hs2];rfl)))
 obtain⟨i,j,e,⟨q1,q2,q3,q4⟩,q⟩:=q1;subst e;cases r1 with
 |cons r rr =>
  cases rr with
  |cons r' rr =>
   cases rr;obtain⟨t,rfl⟩:=r;obtain⟨t',rfl⟩:=r';exact call_range_2 (Jm I1 q1 q2 q3 q4 q)
def Q3(wi:TI) (g:TG) (tb:TS):TS:=λD σ H=>wi σ H λJ H1=>∃W:Nat->Nat->St->Hp->Prop,(∃m,W 0 m σ H1)/\∀i m σ H,W i m σ H ->
 (J.stop i H/\D.nx σ H)\/(J.go i H/\∃N:St->Hp->Prop,(∀σ' H',N σ' H'->∃m',m'<m/\W (i+1) m' σ' H')/\∀x H',J.uP i H x H'->g x σ H' λσ2 H2=>tb {D with nx:=N,ct:=N,bk:=D.nx} σ2 H2)
def vB(fp:List Ξ) (h:υ):List (Ξ×Obj):=fp.filterMap λb=>(h.get? b).map λo=>(b,o)
theorem zC{fp:List Ξ}{h:υ}{b:Ξ}{o:Obj}(hb:b∈fp) (e:h.get? b=ζ o):(b,o)∈vB fp h:=ahw.mpr ⟨b,hb,by rw[e];rfl⟩
theorem Xi{fp:List Ξ}{h:υ}{p:Ξ×Obj}(hp:p∈vB fp h):p.1∈fp/\h.get? p.1=ζ p.2:=by
 obtain⟨b,hb,e⟩:=ahw.mp hp;cases q:h.get? b with
 |none=>rw[q]at e;cases e
 |some o =>
  rw[q]at e;have e':(b,o)=p:=agc e;subst e';exact⟨hb,q⟩
theorem Inv.pinned{pins:List (Ξ×Obj)}{σ:St}{H:Hp}{s:Ψ}{fp:List Ξ}(I:Inv X pins σ H s) (hf:∀b∈fp,g8 X pins H b) (ho:∀b∈fp,∃o,s.heap.get? b=ζ o/\∀v,o.data≠.cell v):Inv X (pins++vB fp s.heap) σ H s :=
 I.yR λp hp=>(agC.mp hp).elim (λz=>I.pin p (agI _ z)) λz=>by
  obtain⟨hb,e⟩:=Xi z;obtain⟨f0,f1,f2,_⟩:=hf p.1 hb;obtain⟨o,e',d⟩:=ho p.1 hb;rw[e]at e';cases e';exact⟨e,f0,f1,f2,d⟩
theorem Inv.uS{pins pl:List (Ξ×Obj)}{σ:St}{H:Hp}{s:Ψ}(I:Inv X (pins++pl) σ H s):Inv X pins σ H s:=I.yR λp hp=>I.pin p (agI _ (ajJ _ hp))
theorem Ux{iter:ν}{body:List ψ}{wi:TI}{g:TG}{tb:TS}{pos:Pos}(hp:aaN (model X.prog X.w) X.A X.env X.xe) (hc:X.calm=Δ) (hi:PI X tg iter wi) (hg:PG X tg g) (hb:gW X body tb)
  (hs:∀x,foldedSetIterable iter X.env x=pure x:=by intro _;rfl):PS X (.For tg iter body [] pos) (Q3 wi g tb):=by
 intro pins s σ H D I h;refine wpAny_For (bR (hi pins s σ H _ I h) λv s1 h1=>bR h1 λitv s2 h2=>?_) hs
 obtain⟨it,fp,tn,J,H2,e,I2,T,st2,f2,W,⟨m0,w0⟩,turn⟩:=h2;subst e;have pN:∀{H':Hp},(∀b∈fp,H' b=η)->∀b∈fp,g8 X pins H' b:=λhn b hb=>⟨hn b hb,(f2 b hb).2⟩
 refine codeAny_forLoop_any (λn s'=>∃i σ' H',Inv X pins σ' H' s'/\tn i s'.heap/\(∀b∈fp,H' b=η)/\W i n σ' H') ?_ m0 ⟨0,σ,H2,I2,st2,λb hb=>(f2 b hb).1,w0⟩
 rintro n s3 ⟨i,σ3,H3,I3,st3,MR,w3⟩
 rcases turn i n σ3 H3 w3 with⟨stop,qn⟩|⟨go,N,hN,step⟩
 ·refine ahm hp (bR (T.done X rfl rfl rfl hc i pins s3 σ3 H3 X.xe I3 (pN MR) st3 stop) λr s4 ⟨hr,I4⟩=>?_)
  subst hr;exact aie ⟨σ3,H3,I4,qn⟩
 ·refine ahm hp (bR (T.item X rfl rfl rfl hc i pins s3 σ3 H3 X.xe I3 (pN MR) st3 go) λr s4 ⟨u,hr,h4⟩=>?_)
  subst hr;refine ahm hp (bR h4 λ_ s5 ⟨x,H5,I5,r5,y5,pP,z8⟩=>?_)
  have I5':=I5.pinned (pN z8) (T.obj _ _ pP);refine ahm hp (bR (hg _ s5 σ3 H5 x u _ I5' r5 (step x H5 y5)) λ_ s6 ⟨OD,H6,I6,q6⟩=>?_)
  refine ahm hp (bR (hb _ s6 OD H6 _ I6 q6) λf s7 q7=>?_)
  have again:∀{jS:St}{H7:Hp},Inv X (pins++vB fp s5.heap) jS H7 s7->N jS H7->∃m,m<n/\∃i σ' H',Inv X pins σ' H' s7/\tn i s7.heap/\(∀b∈fp,H' b=η)/\W i m σ' H':=fun{jS H7} I7 n7=>by
   obtain⟨m',hm,w7⟩:=hN jS H7 n7;refine⟨m',hm,i+1,jS,H7,I7.uS,T.keep _ _ _ pP λb hb o e=>(I7.pin (b,o) (agI _ (agI _ (zC hb e)))).1,λb hb=>?_,w7⟩
   obtain⟨o,e,d⟩:=T.obj _ _ pP b hb;exact(I7.pin (b,o) (agI _ (agI _ (zC hb e)))).2.1
  cases f with
  |next=>obtain⟨jS,H7,I7,n7⟩:=q7;exact again I7 n7
  |cont=>obtain⟨jS,H7,I7,n7⟩:=q7;exact again I7 n7
  |brk=>obtain⟨jS,H7,I7,q7⟩:=q7;exact⟨jS,H7,I7.uS,q7⟩
  |ret v=>obtain⟨x7,jS,H7,I7,r7,q7⟩:=q7;exact⟨x7,jS,H7,I7.uS,r7,q7⟩
end
abbrev R2:=V->V->Hp->VK->Prop
def cE(X:Cx) (f:Γ->Γ->Sem Γ) (r:R2):Prop :=
 ∀(pins:List (Ξ×Obj)) (s:Ψ) (σ:St) (H:Hp) (x y:V) (v u:Γ) (Q:VK),Inv X pins σ H s->RelV x v->RelV y u->r x y H Q ->
  wpAny (model X.prog X.w) X.A (f v u) (EP X pins σ Q) X.xe s
def xJ(X:Cx) (f:Γ->Sem Γ) (r:V->Hp->VK->Prop):Prop :=
 ∀(pins:List (Ξ×Obj)) (s:Ψ) (σ:St) (H:Hp) (x:V) (v:Γ) (Q:VK),Inv X pins σ H s->RelV x v->r x H Q ->
  wpAny (model X.prog X.w) X.A (f v) (EP X pins σ Q) X.xe s
def fB(X:Cx) (f:Γ) (r:List V->Hp->VK->Prop):Prop :=
 ∀(pins:List (Ξ×Obj)) (s:Ψ) (σ:St) (H:Hp) (xs:List V) (us:List Γ) (Q:VK),Inv X pins σ H s->Vals xs us->r xs H Q ->
  wpAny (model X.prog X.w) X.A (call f us) (EP X pins σ Q) X.xe s
def adA(X:Cx) (r:V->Hp->(Bool->Hp->Prop)->Prop):Prop :=
 ∀(pins:List (Ξ×Obj)) (s:Ψ) (σ:St) (H:Hp) (x:V) (v:Γ) (Q:Bool->Hp->Prop),Inv X pins σ H s->RelV x v->r x H Q ->
  wpAny (model X.prog X.w) X.A (truthy v) (TP X pins σ Q) X.xe s
def yo(r:R2) (ta tb:TE):TE:=λσ H Q=>ta σ H λx H1=>tb σ H1 λy H2=>r x y H2 Q
def QG(r:V->Hp->VK->Prop) (ta:TE):TE:=λσ H Q=>ta σ H λx H1=>r x H1 Q
def rI(C:Int->Int->Prop) (g:Int->Int->V):R2:=λx y H Q=>∃i j,x=.int i/\y=.int j/\C i j/\Q (g i j) H
def kF(g:Int->Int->V):R2:=λx y H Q=>∃i j,x=.int i/\y=.int j/\Q (g i j) H
def rU(g:Int->V):V->Hp->VK->Prop:=λx H Q=>∃i,x=.int i/\Q (g i) H
section
variable {X:Cx}{a b c:ν}{ta tb tc:TE}{pos:Pos}
theorem Fx(ha:PE X a ta) (hb:PE X b tb) {pins:List (Ξ×Obj)}{s:Ψ}{σ:St}{H:Hp}{R:V->V->Hp->Prop}(I:Inv X pins σ H s)
  (h:ta σ H λx H1=>tb σ H1 λy H2=>R x y H2) {Q:Γ->Ψ->Prop}{f:Γ->Γ->Sem Γ}
  (hf:∀v u s2 x y H2,Inv X pins σ H2 s2->RelV x v->RelV y u->R x y H2->wpAny (model X.prog X.w) X.A (f v u) Q X.xe s2) :
  wpAny (model X.prog X.w) X.A (eval a X.env) (λv s₁=>wpAny (model X.prog X.w) X.A (eval b X.env) (λu s₂=>wpAny (model X.prog X.w) X.A (f v u) Q X.xe s₂) X.xe s₁) X.xe s:=by
 refine bR (ha pins s σ H _ I h) λv s1 ⟨x,H1,I1,r1,q1⟩=>?_
 refine bR (hb pins s1 σ H1 _ I1 q1) λu s2 ⟨y,H2,I2,r2,q2⟩=>?_
 exact hf v u s2 x y H2 I2 r1 r2 q2
theorem JG{op:Operator}{r:R2}(ho:cE X (binaryOp op) r) (ha:PE X a ta) (hb:PE X b tb):PE X (.BinOp a op b pos) (yo r ta tb):=by
 intro pins s σ H Q I h;exact wpAny_BinOp (Fx ha hb I h λv u s2 x y H2 I2 rx ry q=>ho pins s2 σ H2 x y v u Q I2 rx ry q)
theorem Vh{op:UnaryOp}{r:V->Hp->VK->Prop}(ho:xJ X (unaryOp op) r) (ha:PE X a ta):PE X (.UnaryOp op a pos) (QG r ta):=by
 intro pins s σ H Q I h;exact UnaryOp_ (bR (ha pins s σ H _ I h) λv s1 ⟨x,H1,I1,r1,q1⟩=>ho pins s1 σ H1 x v Q I1 r1 q1)
theorem ze{f:Γ->Γ->Sem Γ}{C:Int->Int->Prop}{g:Int->Int->Int}
  (rule:∀(i j:Int) (t u:Tok) (s:Ψ) (Q:Γ->Ψ->Prop) (E:Γ->Ψ->Prop),C i j->Q (.int (g i j) s.toks) {s with toks:=s.toks+1}->wpAny (model X.prog X.w) X.A (f (.int i t) (.int j u)) Q E s) :
  cE X f (rI C λi j=>.int (g i j)):=by
 intro pins s σ H x y v u Q I rx ry h;obtain⟨i,j,rfl,rfl,hc,q⟩:=h;obtain⟨t,rfl⟩:=rx;obtain⟨t',rfl⟩:=ry;exact rule i j t t' s _ _ hc ⟨.int (g i j),H,I.tok _,⟨_,rfl⟩,q⟩
theorem DA{f:Γ->Γ->Sem Γ}{g:Int->Int->Int}
  (rule:∀(i j:Int) (t u:Tok) (s:Ψ) (Q:Γ->Ψ->Prop) (E:Γ->Ψ->Prop),Q (.int (g i j) s.toks) {s with toks:=s.toks+1}->wpAny (model X.prog X.w) X.A (f (.int i t) (.int j u)) Q E s) :
  cE X f (kF λi j=>.int (g i j)):=by
 intro pins s σ H x y v u Q I rx ry h;obtain⟨i,j,rfl,rfl,q⟩:=h;obtain⟨t,rfl⟩:=rx;obtain⟨t',rfl⟩:=ry;exact rule i j t t' s _ _ ⟨.int (g i j),H,I.tok _,⟨_,rfl⟩,q⟩
theorem zf{f:Γ->Γ->Sem Γ}{g:Int->Int->Bool}
  (rule:∀(i j:Int) (t u:Tok) (s:Ψ) (Q:Γ->Ψ->Prop) (E:Γ->Ψ->Prop),Q (.bool (g i j)) s->wpAny (model X.prog X.w) X.A (f (.int i t) (.int j u)) Q E s) :
  cE X f (kF λi j=>.bl (g i j)):=by
 intro pins s σ H x y v u Q I rx ry h;obtain⟨i,j,rfl,rfl,q⟩:=h;obtain⟨t,rfl⟩:=rx;obtain⟨t',rfl⟩:=ry;exact rule i j t t' s _ _ ⟨.bl (g i j),H,I,rfl,q⟩
def adR(i j:Int):Prop:=0<j/\j<1073741824
def adQ(i j:Int):Prop:=0<=j/\j<=1000000/\i.natAbs<2^64
def G5(i j:Int):Prop:=(-(2^64)<i/\i<2^64)\/(-(2^64)<j/\j<2^64)
theorem G5.ok{i j:Int}(h:G5 i j):IntMulOk i j:=by
 rcases h with⟨h1,h2⟩|⟨h1,h2⟩
 ·exact .of_left (intBits_le_64 h1 h2)
 ·exact .of_right (intBits_le_64 h1 h2)
theorem Ws:cE X (binaryOp .Add) (kF λi j=>.int (i+j)):=DA λ_ _ _ _ _ _ _ q=>add_int q
theorem V7:cE X (binaryOp .Sub) (kF λi j=>.int (i-j)):=DA λ_ _ _ _ _ _ _ q=>sub_int q
theorem We:cE X (binaryOp .Mult) (rI G5 λi j=>.int (i*j)):=ze λ_ _ _ _ _ _ _ hc q=>mul_int q hc.ok
theorem Wl:cE X (binaryOp .FloorDiv) (rI adR λi j=>.int (i/j)):=ze λi j _ _ _ _ _ hc q=>by
 have h1:(0:Int)<j:=hc.1;have h2:j<1073741824:=hc.2;exact floordiv_int (by omega) (by rw[Int.fdiv_eq_ediv_of_nonneg i (by omega)];exact q) (.inl (ajN (by omega)))
theorem Wf:cE X (binaryOp .Mod) (rI (λ_ j=>0<j) λi j=>.int (i % j)):=ze λi j _ _ _ _ _ hc q=>by
 have h1:(0:Int)<j:=hc;exact mod_int' (by omega) (by rw[Int.fmod_eq_emod_of_nonneg i (by omega)];exact q)
theorem V9:cE X (binaryOp .Pow) (rI adQ λi j=>.int (i^j.toNat)):=ze λ_ _ _ _ _ _ _ hc q=>pow_int_small hc.1 hc.2.1 hc.2.2 q
theorem V6:cE X (binaryOp .BitXor) (kF λi j=>.int (Builtin.bitXor i j)):=DA λ_ _ _ _ _ _ _ q=>xor_int q
theorem PL{f:Γ->Sem Γ}{g:Int->Int}
  (rule:∀(i:Int) (t:Tok) (s:Ψ) (Q:Γ->Ψ->Prop) (E:Γ->Ψ->Prop),Q (.int (g i) s.toks) {s with toks:=s.toks+1}->wpAny (model X.prog X.w) X.A (f (.int i t)) Q E s) :
  xJ X f (rU λi=>.int (g i)):=by
 intro pins s σ H x v Q I rx h;obtain⟨i,rfl,q⟩:=h;obtain⟨t,rfl⟩:=rx;exact rule i t s _ _ ⟨.int (g i),H,I.tok _,⟨_,rfl⟩,q⟩
theorem PK:xJ X (unaryOp .USub) (rU λi=>.int (-i)):=PL λ_ _ _ _ _ q=>neg_int q
end
def B7:V->V->Bool
 |.aL,.aL=>Δ|.aL,.int _=>Δ|.int _,.aL=>Δ|.aL,.bl _=>Δ|.bl _,.aL=>Δ|.aL,.str _=>Δ|.str _,.aL=>Δ
 |.int _,.int _=>Δ|.bl _,.bl _=>Δ|.str _,.str _=>Δ|.jt _,.jt _=>Δ
 |.int _,.str _=>Δ|.str _,.int _=>Δ|.bl _,.str _=>Δ|.str _,.bl _=>Δ
 |_,_=>Θ
def TY:R2:=λx y H Q=>B7 x y=Δ/\Q (.bl (decide (x=y))) H
def TN:R2:=λx y H Q=>B7 x y=Δ/\Q (.bl (!decide (x=y))) H
theorem Nm{i j:Int}:decide (V.int i=V.int j)=(i==j):=by
 rw[ahe];simp
theorem Np{i j:Bool}:decide (V.bl i=V.bl j)=(i==j):=by
 rw[ahe];simp
theorem Nl{i j:Str}:decide (V.str i=V.str j)=(i==j):=by
 rw[ahe];simp
theorem Nn{i j:Array UInt8}:decide (V.jt i=V.jt j)=(i.toList==j.toList):=by
 rw[ahe];cases i;cases j;simp
section
variable {X:Cx}{a b c:ν}{ta tb tc:TE}{pos:Pos}
theorem eE{pins:List (Ξ×Obj)}{σ:St}{H:Hp}{s:Ψ}{Q:VK}{k k':Bool}(I:Inv X pins σ H s) (q:Q (.bl k) H) (e:k=k'):EP X pins σ Q (.bool k') s:=by
 subst e;exact⟨.bl k,H,I,rfl,q⟩
theorem Wm:cE X (compareOp .Eq) TY:=by
 intro pins s σ H x y v u Q I rx ry h;obtain⟨hs,q⟩:=h;cases x with
 |aL =>
  cases rx;cases y with
  |aL=>cases ry;exact PySem.EqNone.eq_none_none (eE I q (by simp))
  |bl j=>cases ry;exact PySem.EqNone.eq_none_bool (eE I q (by simp))
  |int j=>obtain⟨t',rfl⟩:=ry;exact PySem.EqNone.eq_none_int (eE I q (by simp))
  |str j=>obtain⟨t',rfl⟩:=ry;exact PySem.EqNone.eq_none_str (eE I q (by simp))
  |_=>exact absurd (show Θ=Δ from hs) agd
 |bl i =>
  cases rx;cases y with
  |aL=>cases ry;exact PySem.EqNone.eq_bool_none (eE I q (by simp))
  |bl j=>cases ry;exact eq_bool (eE I q Np)
  |str j=>obtain⟨t',rfl⟩:=ry;exact PySem.EqMixed.eq_bool_str (eE I q (by simp))
  |_=>exact absurd (show Θ=Δ from hs) agd
 |int i =>
  obtain⟨t,rfl⟩:=rx;cases y with
  |aL=>cases ry;exact PySem.EqNone.eq_int_none (eE I q (by simp))
  |int j=>obtain⟨t',rfl⟩:=ry;exact eq_int (eE I q Nm)
  |str j=>obtain⟨t',rfl⟩:=ry;exact PySem.EqMixed.eq_int_str (eE I q (by simp))
  |_=>exact absurd (show Θ=Δ from hs) agd
 |str i =>
  obtain⟨t,rfl⟩:=rx;cases y with
  |aL=>cases ry;exact PySem.EqNone.eq_str_none (eE I q (by simp))
  |bl j=>cases ry;exact PySem.EqMixed.eq_str_bool (eE I q (by simp))
  |int j=>obtain⟨t',rfl⟩:=ry;exact PySem.EqMixed.eq_str_int (eE I q (by simp))
  |str j=>obtain⟨t',rfl⟩:=ry;exact eq_str (eE I q Nl)
  |_=>exact absurd (show Θ=Δ from hs) agd
 |jt i =>
  obtain⟨t,rfl⟩:=rx;cases y with
  |jt j=>obtain⟨t',rfl⟩:=ry;exact PySem.W.eq_bytes (eE I q Nn)
  |_=>exact absurd (show Θ=Δ from hs) agd
 |_=>cases y<;>exact absurd (show Θ=Δ from hs) agd
theorem Wb:cE X (compareOp .NotEq) TN:=by
 intro pins s σ H x y v u Q I rx ry h;obtain⟨hs,q⟩:=h;cases x with
 |aL =>
  cases rx;cases y with
  |aL=>cases ry;exact PySem.EqNone.ne_none_none (eE I q (by simp))
  |bl j=>cases ry;exact PySem.EqNone.ne_none_bool (eE I q (by simp))
  |int j=>obtain⟨t',rfl⟩:=ry;exact PySem.EqNone.ne_none_int (eE I q (by simp))
  |str j=>obtain⟨t',rfl⟩:=ry;exact PySem.EqNone.ne_none_str (eE I q (by simp))
  |_=>exact absurd (show Θ=Δ from hs) agd
 |bl i =>
  cases rx;cases y with
  |aL=>cases ry;exact PySem.EqNone.ne_bool_none (eE I q (by simp))
  |bl j=>cases ry;exact ne_bool (eE I q (congrArg not Np))
  |str j=>obtain⟨t',rfl⟩:=ry;exact PySem.EqMixed.ne_bool_str (eE I q (by simp))
  |_=>exact absurd (show Θ=Δ from hs) agd
 |int i =>
  obtain⟨t,rfl⟩:=rx;cases y with
  |aL=>cases ry;exact PySem.EqNone.ne_int_none (eE I q (by simp))
  |int j=>obtain⟨t',rfl⟩:=ry;exact ne_int (eE I q (congrArg not Nm))
  |str j=>obtain⟨t',rfl⟩:=ry;exact PySem.EqMixed.ne_int_str (eE I q (by simp))
  |_=>exact absurd (show Θ=Δ from hs) agd
 |str i =>
  obtain⟨t,rfl⟩:=rx;cases y with
  |aL=>cases ry;exact PySem.EqNone.ne_str_none (eE I q (by simp))
  |bl j=>cases ry;exact PySem.EqMixed.ne_str_bool (eE I q (by simp))
  |int j=>obtain⟨t',rfl⟩:=ry;exact PySem.EqMixed.ne_str_int (eE I q (by simp))
  |str j=>obtain⟨t',rfl⟩:=ry;exact ne_str (eE I q (congrArg not Nl))
  |_=>exact absurd (show Θ=Δ from hs) agd
 |jt i =>
  obtain⟨t,rfl⟩:=rx;cases y with
  |jt j=>obtain⟨t',rfl⟩:=ry;exact PySem.W.ne_bytes (eE I q (congrArg not Nn))
  |_=>exact absurd (show Θ=Δ from hs) agd
 |_=>cases y<;>exact absurd (show Θ=Δ from hs) agd
theorem Wg:cE X (compareOp .Lt) (kF λi j=>.bl (decide (i<j))):=zf λ_ _ _ _ _ _ _ q=>lt_int q
theorem Wh:cE X (compareOp .LtE) (kF λi j=>.bl (decide (i<=j))):=zf λ_ _ _ _ _ _ _ q=>le_int q
theorem Wi:cE X (compareOp .Gt) (kF λi j=>.bl (decide (j<i))):=zf λ_ _ _ _ _ _ _ q=>gt_int q
theorem Wj:cE X (compareOp .GtE) (kF λi j=>.bl (decide (j<=i))):=zf λ_ _ _ _ _ _ _ q=>ge_int q
theorem Wa:cE X (compareOp .IsNot) (λx y H Q=>y=.aL/\Q (.bl (!decide (x=.aL))) H):=by
 intro pins s σ H x y v u Q I rx ry h;obtain⟨rfl,q⟩:=h;cases ry;refine isnot_none_gen (eE I q ?_);cases x<;>first
  |(cases rx;rfl)
  |(obtain⟨t,rfl⟩:=rx;rfl)
theorem KG(b:ν) {op:CmpOp}(h:op≠.In:=by decide) (h2:op≠.NotIn:=by decide):behindInMarks op b=Θ:=by
 have e1:(op==CmpOp.In)=Θ:=by cases op<;>first|rfl|exact absurd rfl h
 have e2:(op==CmpOp.NotIn)=Θ:=by cases op<;>first|rfl|exact absurd rfl h2
 cases b<;>simp[behindInMarks,e1,e2]
theorem Vu{op:CmpOp}{r:R2}(ho:cE X (compareOp op) r) (ha:PE X a ta) (hb:PE X b tb) (hm:behindInMarks op b=Θ):PE X (.Compare a [op] [b] pos) (yo r ta tb):=by
 intro pins s σ H Q I h;exact wpAny_Compare1 (Fx ha hb I h λv u s2 x y H2 I2 rx ry q=>ho pins s2 σ H2 x y v u Q I2 rx ry q) hm
def QI(t:TE):TT:=λσ H Q=>t σ H λx H'=>∃k,x=.bl k/\Q k H'
theorem Ul{op:CmpOp}{r:R2}(ho:cE X (compareOp op) r) (ha:PE X a ta) (hb:PE X b tb) (hm:behindInMarks op b=Θ):PT X (.Compare a [op] [b] pos) (QI (yo r ta tb)):=by
 intro pins s σ H Q I h;refine wpAny_isTrue_Compare1 (bR (ha pins s σ H _ I h) λv s1 ⟨x,H1,I1,r1,q1⟩=>bR (hb pins s1 σ H1 _ I1 q1) λu s2 ⟨y,H2,I2,r2,q2⟩ =>
  bR (ho pins s2 σ H2 x y v u _ I2 r1 r2 q2) λc s3 ⟨z,H3,I3,r3,k,e,q3⟩=>?_) hm
 subst e;cases r3;exact ahl ⟨H3,I3,q3⟩
def Q6(r r':R2) (ta tb tc:TE):TE:=λσ H Q=>ta σ H λx H1=>tb σ H1 λy H2=>r x y H2 λz H3=>∃k,z=.bl k /\
 (if k=Δ then tc σ H3 λw' H4=>r' y w' H4 Q else Q (.bl Θ) H3)
theorem Vw{op op':CmpOp}{r r':R2}(ho:cE X (compareOp op) r) (ho':cE X (compareOp op') r') (ha:PE X a ta) (hb:PE X b tb) (hc:PE X c tc)
  (hm:lastMarks [op,op'] [b,c]=Θ:=by with_unfolding_all rfl):PE X (.Compare a [op,op'] [b,c] pos) (Q6 r r' ta tb tc):=by
 intro pins s σ H Q I h;refine Compare_chain (bR (ha pins s σ H _ I h) λv s1 ⟨x,H1,I1,r1,q1⟩=>chain_link (bR (hb pins s1 σ H1 _ I1 q1) λu s2 ⟨y,H2,I2,r2,q2⟩ =>
  bR (ho pins s2 σ H2 x y v u _ I2 r1 r2 q2) λd s3 ⟨z,H3,I3,r3,k,e,q3⟩=>?_)) hm
 subst e;cases r3;refine ahl ?_;cases k with
 |false=>exact ite_ff ⟨.bl Θ,H3,I3,rfl,q3⟩
 |true=>exact ite_tt (chain_last (bR (hc pins s3 σ H3 _ I3 q3) λw' s4 ⟨z',H4,I4,r4,q4⟩=>ho' pins s4 σ H4 y z' u w' Q I4 r2 r4 q4))
def GN(K:ξ) (x:V) (H:Hp) (k:Bool):Prop :=
 match x with
 |.aL=>k=Θ
 |.bl b=>k=b
 |.int i=>k=(i != 0)
 |.str y=>y.length<=Ω/\k=((y.length:Int) != 0)
 |.jt y=>y.size<=Ω/\k=((y.size:Int) != 0)
 |.ref p=>(∃xs,b9 K H p xs/\k = !xs.isEmpty)\/(∃xs,cO K H p xs/\k = !xs.isEmpty)\/∃kvs,H p=ζ (.dK kvs)/\k = !kvs.isEmpty
 |_=>False
theorem Zo{κ:Type}{kvs:List (κ×V)}{vs:List (κ×Γ)}(r:KV kvs vs):(!vs.isEmpty) = !kvs.isEmpty:=by
 cases r<;>rfl
theorem LU{xs:List V}{its:List Γ}(r:Vals xs its):(!its.toArray.isEmpty) = !xs.isEmpty:=by
 cases r<;>simp
theorem t8:(Ω:Nat)<2^63:=by rw[ahx];decide
theorem Qj:adA X (λx H Q=>∃k,GN X.K x H k/\Q k H):=by
 intro pins s σ H x v Q I rx h;obtain⟨k,e,q⟩:=h;have hl:=t8;have hs:Ω=16777216:=ahx;cases x with
 |aL =>
  cases rx;have e':k=Θ:=e;subst e';exact truthy_none ⟨H,I,q⟩
 |bl b =>
  cases rx;have e':k=b:=e;subst e';exact ahl ⟨H,I,q⟩
 |int i =>
  obtain⟨t,rfl⟩:=rx;have e':k=(i != 0):=e;subst e';exact PySem.P.truthy_int ⟨H,I,q⟩
 |str y =>
  obtain⟨t,rfl⟩:=rx;obtain⟨hy,e'⟩:y.length<=Ω/\k=((y.length:Int) != 0):=e;subst e';exact PySem.P.truthy_str (by omega) ⟨H,I.tok _,q⟩
 |jt y =>
  obtain⟨t,rfl⟩:=rx;obtain⟨hy,e'⟩:y.size<=Ω/\k=((y.size:Int) != 0):=e;subst e';exact PySem.W.truthy_bytes (by omega) ⟨H,I.tok _,q⟩
 |ref p =>
  cases rx;have e':(∃xs,b9 X.K H p xs/\k = !xs.isEmpty)\/(∃xs,cO X.K H p xs/\k = !xs.isEmpty)\/∃kvs,H p=ζ (.dK kvs)/\k = !kvs.isEmpty:=e
  rcases e' with⟨xs,hx,e'⟩|⟨xs,hx,e'⟩|⟨kvs,hx,e'⟩
  ·subst e';obtain⟨its,r,pl,hz⟩:=I.list hx;have hlen:=r.length;exact wpAny_truthy_list pl.isList (by simp only[af4];omega) ⟨H,I.tok _,by rw[LU r];exact q⟩
  ·subst e';obtain⟨its,r,pl,hz⟩:=I.tuple hx;have hlen:=r.length;exact truthy_tuple pl (by simp only[af4];omega) ⟨H,I.tok _,by rw[LU r];exact q⟩
  ·subst e';obtain⟨hz,hS,vs,r,m⟩:kvs.length<=Ω/\(p==sysModules)=Θ/\∃vs,KV kvs vs/\s.heap.DictOf (D0 X.prog X.w) p vs:=I.hok p _ hx;have hlen:kvs.length=vs.length:=Paired.length r;exact wpAny_truthy_dict hS m (by omega) ⟨H,I.tok _,by rw[Zo r];exact q⟩
 |_=>exact(show False from e).elim
theorem Uj(ha:PE X a ta) (he:∀whole,isTrue a X.env whole=(do let v <-whole;standAt a.pos;holding [v] (truthy v))) :
  PT X a (λσ H Q=>ta σ H λx H'=>∃k,GN X.K x H' k/\Q k H'):=by
 intro pins s σ H Q I h;exact isTrue_plain (bR (ha pins s σ H _ I h) λv s1 ⟨x,H1,I1,r1,q1⟩=>Qj pins s1 σ H1 x v Q I1 r1 q1) (he _)
theorem Wr:cE X (binaryOp .Add) (λx y H Q=>∃i j,x=.str i/\y=.str j/\i.length+j.length<=Ω/\Q (.str (i++j)) H):=by
 intro pins s σ H x y v u Q I rx ry h;obtain⟨i,j,rfl,rfl,hz,q⟩:=h;obtain⟨t,rfl⟩:=rx;obtain⟨t',rfl⟩:=ry;exact add_str (λt' tk=>⟨.str (i++j),H,I.tok _,⟨_,rfl⟩,q⟩) hz
theorem agF{x:V}{us:List Γ}(r:Vals [x] us):∃u,us=[u]/\RelV x u:=by
 cases r with
 |cons r1 r2=>cases r2;exact⟨_,rfl,r1⟩
theorem vals2{x y:V}{us:List Γ}(r:Vals [x,y] us):∃u w',us=[u,w']/\RelV x u/\RelV y w':=by
 cases r with
 |cons r1 r2 =>
  cases r2 with
  |cons r3 r4=>cases r4;exact⟨_,_,rfl,r1,r3⟩
theorem acE(hc:X.calm=Δ):fB X (.builtin "max") (λxs H Q=>∃i j,xs=[.int i,.int j]/\Q (.int (if j>i then j else i)) H):=by
 intro pins s σ H xs us Q I r h;obtain⟨i,j,rfl,q⟩:=h;obtain⟨u,w',rfl,⟨t,rfl⟩,⟨t',rfl⟩⟩:=vals2 r;refine max_two_ints (I.ok.hd hc) λh' tk k=>⟨_,H,I.kept k,?_,q⟩
 by_cases hj:j>i
 ·rw[if_pos hj,if_pos hj];exact⟨_,rfl⟩
 ·rw[if_neg hj,if_neg hj];exact⟨_,rfl⟩
theorem NW:fB X (.type "int") (λxs H Q=>(∃i,xs=[.int i]/\Q (.int i) H)\/∃k,xs=[.bl k]/\Q (.int (if k then 1 else 0)) H):=by
 intro pins s σ H xs us Q I r h
 rcases h with⟨i,rfl,q⟩|⟨k,rfl,q⟩
 ·obtain⟨u,rfl,t,rfl⟩:=agF r;exact call_int_int ⟨.int i,H,I,⟨_,rfl⟩,q⟩
 ·obtain⟨u,rfl,r1⟩:=agF r;cases r1;exact call_int_bool ⟨.int (if k then 1 else 0),H,I.tok _,⟨_,rfl⟩,q⟩
end
structure GU (h:υ) (x dx C:Ξ) (mA:Str->Option Γ):Prop where
 obj:h.get? x=ζ (PySem.W.instObj C dx)
 ns:h.Ns1 dx mA
 ne:dx≠x
theorem YA{h:υ}{dx:Ξ}{mA:Str->Option Γ}(n:h.Ns1 dx mA):∃od,h.get? dx=ζ od/\∀name,PySem.W.lookIn name od=ζ (mA name):=by
 obtain⟨o,es,ep,ho,hd,hk,_,hm⟩:=n;refine⟨o,ho,λname=>?_⟩
 have e:=hm name;unfold nsFind findBy at e;rw[<-ajO]at e;unfold PySem.W.lookIn;rw[hd];dsimp only;split
 ·rename_i y q;rw[q]at e;exact congrArg ζ e
 ·rename_i q;rw[q]at e;have a:es.toList.any (·.refKey)=Θ:=by
   rw[aiP];intro y hy;obtain⟨z,t,hkey⟩:=hk y (Array.mem_toList_iff.mp hy);simp[DictEntry.refKey,hkey]
  have a':¬es.toList.any (·.refKey)=Δ:=by rw[a];exact agd
  rw[if_neg a'];exact congrArg ζ e
theorem GU.look{h:υ}{x dx C:Ξ}{mA:Str->Option Γ}(I:GU h x dx C mA):∃od,PySem.W.InstAt h x (PySem.W.instObj C dx) C (ζ od)/\∀name,PySem.W.lookIn name od=ζ (mA name) :=
 let⟨od,ho,hl⟩:=YA I.ns
 ⟨od,⟨I.obj,rfl,rfl,ho⟩,hl⟩
section
variable {P:π}{w:χ}{H H':Hp}{h h':υ}{a C dx:Ξ}{fs fs':List (Str×V)}
theorem Zr(hok:ez P w H h) (e:H a=ζ (.ins C dx fs)):∃mA,GU h a dx C mA/\(∀f,GQ (fs.lookup f) (mA f))/\PySem.Within mA (fs.map (·.1))/\fs.length<=1000/\H dx=ζ (.own a):=by
 obtain⟨d,z,ne,ob,mA,n,r,q⟩:=(show gf P w H h a (.ins C dx fs)from hok a _ e)
 exact⟨mA,⟨ob,n,ne⟩,r,q,z,d⟩
end
structure G4 (K:ξ) (C:Ξ):Prop where
 pg:PySem.W.plainGet K C Str.empty=Δ
 hd:PySem.W.hasDictIn K C=Δ
 po:PySem.W.plainOver K C=Δ
 sa:PySem.W.findIn K (.ref C) "__setattr__"=ζ (ζ (.builtin "object.__setattr__"))
theorem G4.get{K:ξ}{C:Ξ}(c:G4 K C) (f:Str):PySem.W.plainGet K C f=Δ:=c.pg
section
variable {X:Cx}{pins:List (Ξ×Obj)}{σ:St}{H:Hp}{s:Ψ}{A:ω}{E:Γ->Ψ->Prop}{Q:Γ->Ψ->Prop}{c:Γ}{b:Bool}
inductive ju (K:ξ) (H:Hp):V->Γ->Prop where
 |aL:ju K H .aL (.type "NoneType")
 |bl (x:Bool):ju K H (.bl x) (.type "bool")
 |int (i:Int):ju K H (.int i) (.type "int")
 |str (x:Str):ju K H (.str x) (.type "str")
 |uo (x:UInt64):ju K H (.uo x) (.type "float")
 |lst {a:Ξ}{xs:List V}(e:H a=ζ (.lst xs)):ju K H (.ref a) (.type "list")
 |dF {a:Ξ}{o:Obj}{xs:List V}(e:H a=ζ (.dF o (.lst xs))):ju K H (.ref a) (.type "list")
 |tup {a:Ξ}{xs:List V}(e:H a=ζ (.tup xs)):ju K H (.ref a) (.type "tuple")
 |dK {a:Ξ}{kvs:List (Key×V)}(e:H a=ζ (.dK kvs)):ju K H (.ref a) (.type "dict")
 |dT {a:Ξ}{kvs:List (List Key×V)}(e:H a=ζ (.dT kvs)):ju K H (.ref a) (.type "dict")
 |ins {a C dx:Ξ}{fs:List (Str×V)}(e:H a=ζ (.ins C dx fs)) (cl:G4 K C) (ha:PySem.W.findIn K (.ref C) "__class__"=ζ (ζ (.builtin "object.__class__")))
   (hn:PySem.W.specialIn K (.builtin "object.__class__") "__get__"=ζ (ζ (.builtin "getset_descriptor.__get__"))) (htk:PySem.W.takesIn K (.builtin "object.__class__")=ζ Δ)
   (hm:PySem.W.mroIn K C (.type "object")=ζ Δ):ju K H (.ref a) (.ref C)
theorem Zk{x:V}{u t:Γ}(I:Inv X pins σ H s) (rx:RelV x u) (ty:ju X.K H x t) (e:PySem.W.kitOne X.K t c=ζ b) (h:∀tk,Q (.bool b) {s with toks:=tk}) :
  wpAny (model X.prog X.w) A (call (.builtin "isinstance") [u,c]) Q E s:=by
 cases ty with
 |aL=>cases(show u=Value.none from rx);exact agN PySem.W.kitx_none I.fM True.intro e (λz=>nomatch z) h
 |bl y=>cases(show u=Value.bool y from rx);exact agN PySem.W.kitx_bool I.fM True.intro e (λz=>nomatch z) h
 |int i=>obtain⟨t,q⟩:=(show ∃t,u=Value.int i t from rx);cases q;exact agN PySem.W.kitx_int I.fM True.intro e (λz=>nomatch z) h
 |str y=>obtain⟨t,q⟩:=(show ∃t,u=Value.str y t from rx);cases q;exact agN PySem.W.kitx_str I.fM True.intro e (λz=>nomatch z) h
 |uo y=>obtain⟨t,q⟩:=(show ∃t,u=Value.float y t from rx);cases q;exact agN PySem.W.kitx_float I.fM True.intro e (λz=>nomatch z) h
 | @lst a xs ea =>
  cases(show u=Value.ref a from rx)
  obtain⟨_,_,n,_,h1⟩:=(show gf X.prog X.w H s.heap a (.lst xs)from I.hok a _ ea)
  exact agN ajP I.fM ⟨_,h1,rfl⟩ e (λz=>nomatch z) h
 | @dF a ob xs ea =>
  cases(show u=Value.ref a from rx)
  obtain⟨_,_,_,n,_,h1⟩:=(show gf X.prog X.w H s.heap a (.dF ob (.lst xs))from I.hok a _ ea)
  exact agN ajP I.fM ⟨_,h1,rfl⟩ e (λz=>nomatch z) h
 | @tup a xs ea =>
  cases(show u=Value.ref a from rx)
  obtain⟨_,_,_,p⟩:=(show gf X.prog X.w H s.heap a (.tup xs)from I.hok a _ ea)
  obtain⟨o,h1,h2,_⟩:=p;exact agN PySem.W.kitx_tuple I.fM ⟨o,h1,h2⟩ e (λz=>nomatch z) h
 | @dK a kvs ea =>
  cases(show u=Value.ref a from rx)
  obtain⟨_,_,vs,_,p⟩:=(show gf X.prog X.w H s.heap a (.dK kvs)from I.hok a _ ea)
  obtain⟨o,es,ep,h1,h2,_⟩:=p;exact agN aiQ I.fM ⟨o,h1,h2.1⟩ e (λz=>nomatch z) h
 | @dT a kvs ea =>
  cases(show u=Value.ref a from rx)
  obtain⟨_,_,xs,_,o,es,ep,h1,h2,_⟩:=(show gf X.prog X.w H s.heap a (.dT kvs)from I.hok a _ ea)
  exact agN aiQ I.fM ⟨o,h1,h2.1⟩ e (λz=>nomatch z) h
 | @ins a C dx fs ea cl ha hn htk hm =>
  cases(show u=Value.ref a from rx)
  obtain⟨mA,O,_⟩:=Zr I.hok ea;obtain⟨od,J,_⟩:=O.look;exact agN (PySem.W.kitx_own (cl.get _) cl.hd ha hn htk hm) I.fM J e (λz=>nomatch z) h
end
structure er (k:Nat) (A:ω):Prop where
 hd:A.handled=η
 dp:A.depth+3*k+5<recursionLimit
 un:A.units+16*k+200<cLine
theorem er.mono{j k:Nat}{A:ω}(r:er k A) (h:j<=k):er j A:=⟨r.hd,by have:=r.dp;omega,by have:=r.un;omega⟩
theorem er.deeper{k:Nat}{A:ω}(r:er (k+1) A) (env:Env):er k (A.deeper env) :=
 ⟨r.hd,by have:=r.dp;show A.depth+1+3*k+5<_;omega,by have:=r.un;show A.units+3+16*k+200<_;omega⟩
theorem er.depth{k:Nat}{A:ω}(r:er k A):A.depth<recursionLimit:=by have:=r.dp;omega
def QV:TA:=λ_ H Q=>Q [] H
def Q5(ta:TE) (tr:TA):TA:=λσ H Q=>ta σ H λx H1=>tr σ H1 λxs H2=>Q (x::xs) H2
section
variable {X:Cx}{e:ν}{es:List ν}{te:TE}{t:TA}{pos:Pos}
theorem lP:PA X [] QV:=λ_ _ _ _ H Q I h=>Calls.spliced_nil ⟨[],H,I,.nil,h⟩
theorem kI(ha:PE X e te) (hr:PA X es t) (hs:ε (e::es) X.env=(Θ,eval e X.env)::ε es X.env:=by rfl):PA X (e::es) (Q5 te t):=by
 intro pos pins s σ H Q I h;rw[hs];show wpAny _ _ (spliced ((Θ,eval e X.env)::aaj pos (ε es X.env))) _ _ s;refine Calls.spliced_cons (bR (ha pins s σ H _ I h) λu s1 ⟨x,H1,I1,r1,q1⟩=>?_)
 exact bR (hr pos pins s1 σ H1 _ I1 q1) λus s2 ⟨xs,H2,I2,r2,q2⟩=>⟨x::xs,H2,I2,.cons r1 r2,q2⟩
def QH(t:TA):TE:=λσ H Q=>t σ H λxs H1=>xs.length<=Ω/\∀p,H1 p=η->Q (.ref p) (upd H1 p (.tup xs))
def QX(t:TA):TE:=λσ H Q=>t σ H λxs H1=>xs.length<=Ω/\∀p,H1 p=η->Q (.ref p) (upd H1 p (.lst xs))
theorem Vj{x1}(h:PA X es t):PE X (.Tuple es x1 pos) (QH t):=by
 intro pins s σ H Q I hq;refine wpAny_Tuple_spliced (bR (h pos pins s σ H _ I hq) λus s1 ⟨xs,H1,I1,r,z,q⟩=>⟨by rw[<-r.length];exact z,?_⟩)
 have hf:H1 s1.heap.objs.size=η:=I1.hok.fresh (afQ _);refine⟨.ref s1.heap.objs.size,upd H1 s1.heap.objs.size (.tup xs),I1.laid (t':=s1.toks) (λb u e=>afS _ e) (afQ _) ?_,rfl,q _ hf⟩
 exact⟨z,us,r,⟨_,af3 _ rfl,rfl,⟨_,rfl⟩,rfl⟩⟩
theorem JH(h:PA X es t):PE X (.List es pos) (QX t):=by
 intro pins s σ H Q I hq;refine wpAny_List_spliced (bR (h pos pins s σ H _ I hq) λus s1 ⟨xs,H1,I1,r,z,q⟩=>⟨by rw[<-r.length];exact z,?_⟩)
 have hf:H1 s1.heap.objs.size=η:=I1.hok.fresh (afQ _);refine⟨.ref s1.heap.objs.size,upd H1 s1.heap.objs.size (.lst xs),I1.laid (t':=s1.toks) (λb u e=>afS _ e) (afQ _) ?_,rfl,q _ hf⟩
 exact⟨z,us,0,r,af3 _ rfl⟩
end
abbrev Sp:=List V->Hp->VK->XK->Prop
abbrev pF:=List Env->Hp->Ψ->XK->Γ->Ψ->Prop
structure rY (P:π) (w:χ) (K:ξ) (mg:Str->Option Γ) (base:υ) (A:ω) (outer:List Env) (s:Ψ) (H:Hp):Prop where
 frames:A.frames=ζ outer
 mod:Mod K mg base
 bs:∀b o,base.get? b=ζ o->s.heap.get? b=ζ o/\H b=η
 jb:base.objs.size<=s.heap.objs.size
 iQ:s.heap.FunFrames base outer
 kX:∀b∈frs outer,H b=η
 hok:ez P w H s.heap
 bare:aaz s.gens
def CE(outer:List Env) (P:π) (w:χ) (H:Hp) (s:Ψ) (Q:VK) (u:Γ) (s':Ψ):Prop :=
 ∃v H',s'.os=s.os/\aaz s'.gens/\Un (frs outer) [] H H' s.heap s'.heap/\ez P w H' s'.heap/\RelV v u/\Q v H'
def CR(CX:pF) (outer:List Env) (P:π) (w:χ) (H:Hp) (s:Ψ) (Q:VK) (E:XK) (r:Result) (s':Ψ):Prop :=
 match r with
 |.ok (.ret u)=>CE outer P w H s Q u s'
 |.ok _=>False
 |.error e=>CX outer H s E e s'
structure bL (P:π) (w:χ) (K:ξ) (mg:Str->Option Γ) (base:υ) (CX:pF) (k:Nat) (f:Ξ) (fd:aag) (ps:List Str) (sp:Sp):Prop where
 len:∀vs H Q E,sp vs H Q E->vs.length=ps.length
 run:∀(A:ω) (outer:List Env) (s:Ψ) (H:Hp) (args:Args) (us:List Γ) (vs:List V) (Q:VK) (E:XK),er k A->rY P w K mg base A outer s H->aaF s fd args (ps.zip us)->Vals vs us->sp vs H Q E ->
  codeAny (model P w) A (.call (.ref f) args) (CR CX outer P w H s Q E) s
section
variable {X:Cx}{pins:List (Ξ×Obj)}{σ:St}{H:Hp}{s s':Ψ}
theorem Inv.E6(I:Inv X pins σ H s):rY X.prog X.w X.K X.mg X.base X.A X.stack s H :=
 ⟨I.ok.frames,I.ok.mod,I.bs,agg I.ok.jb I.sz,I.stack,I.BW,I.hok,I.bare⟩
theorem Inv.after{Q:VK}{u:Γ}(I:Inv X pins σ H s) (h:CE X.stack X.prog X.w H s Q u s'):EP X pins σ Q u s':=by
 obtain⟨v,H',os,bare,un,hok,r,q⟩:=h;obtain⟨hh,g,d,t,os'⟩:=s';obtain rfl:os'=s.os:=os;exact⟨v,H',I.call (h':=hh) (g':=g) (d':=d) (t':=t) (ch:=[]) un hok bare (λb z=>absurd z (by simp)),r,q⟩
end
def Ih(sp:Sp) (oM:List V) (E:XK) (t:TA):TE:=λσ H Q=>t σ H λvs H1=>sp (vs++oM) H1 Q E
def Binds(K:ξ) (fd:aag) (ps:List Str) (ds:List Γ):Prop :=
 ∀(s:Ψ) (us:List Γ),K.In s.heap->(us++ds).length=ps.length->aaF s fd ⟨us,[]⟩ (ps.zip (us++ds))
theorem Binds.all{K:ξ}{fd:aag}{ps:List Str}(h:∀us:List Γ,us.length=ps.length->bindArgs fd ⟨us,[]⟩=pure (ps.zip us)):Binds K fd ps []:=λs us _ hl=>by
 rw[agS]at hl ⊢;exact .of_eq (h us hl)
def Passes(CX:pF) (X:Cx) (E:XK):Prop:=∀(pins:List (Ξ×Obj)) (σ:St) (H:Hp) (s:Ψ) (e:Γ) (s':Ψ),Inv X pins σ H s->CX X.stack H s E e s'->X.xe e s'
section
variable {X:Cx}{CX:pF}{k:Nat}{f C:Ξ}{fd:aag}{ps:List Str}{sp:Sp}{oM:List V}{ds:List Γ}{E:XK}{x m:Str}{p pos apos:Pos}{e o:ν}{es:List ν}{ta:TE}{t:TA}
theorem SV{pins:List (Ξ×Obj)}{σ:St}{H:Hp}{s:Ψ}{Q:VK}{us:List Γ}{vs:List V}(F:bL X.prog X.w X.K X.mg X.base CX k f fd ps sp) (hr:er k X.A) (hb:Binds X.K fd ps ds) (hd:Vals oM ds) (hx:Passes CX X E)
  (I:Inv X pins σ H s) (r:Vals vs us) (h:sp (vs++oM) H Q E):wpAny (model X.prog X.w) X.A (call (.ref f) us) (EP X pins σ Q) X.xe s:=by
 have r2:Vals (vs++oM) (us++ds):=r.append hd;have hl:(us++ds).length=ps.length:=by rw[<-r2.length];exact F.len _ _ _ _ h
 refine ahL (ag6 (F.run X.A X.stack s H ⟨us,[]⟩ (us++ds) (vs++oM) Q E hr I.E6 (hb s us I.fM hl) r2 h) λr s' hq=>?_)
 cases r with
 |error e=>exact hx pins σ H s e s' I hq
 |ok fl =>
  cases fl with
  |ret u=>exact I.after hq
  |next=>exact False.elim hq
  |brk=>exact False.elim hq
  |cont=>exact False.elim hq
theorem Vy(F:bL X.prog X.w X.K X.mg X.base CX k f fd ps sp) (hr:er k X.A) (hg:Gl X x) (hm:X.mg x=ζ (.ref f)) (hk:PySem.W.keepIn X.K (.ref f)=Δ) (hb:Binds X.K fd ps ds) (hd:Vals oM ds) (hx:Passes CX X E)
  (ha:PA X (e::es) t) (hdb:(x==("__debug__":Str))=Θ:=by decide) (he:ε (e::es) X.env=(Θ,eval e X.env)::ε es X.env:=by rfl) (hpl:(aaj pos (ε es X.env)).any (·.1)=Θ:=by rfl) :
  PE X (.Call (.Name x p) (e::es) [] pos) (Ih sp oM E t):=by
 intro pins s σ H Q I h;refine ahM (Ei I hg hm ?_ hdb);refine ajQ (h₀:=X.base) I.ok.mod.mj hk (bR (ha pos pins s σ H _ I h) λus s1 ⟨vs,H1,I1,r,q⟩=>⟨I1.fM,?_⟩) he hpl
 exact SV F hr hb hd hx I1 r q
end
structure cz (N P:List Str) (sc:aaq):Prop where
 kind:sc.kind=.function
 co:sc.isCoroutine=Θ
 gen:sc.isGenerator=Θ
 nd:N.Nodup
 pre:N.take P.length=P
 par:∀x∈P,sc.names.lookup x=ζ .local\/sc.names.lookup x=ζ .cell
 Xy:∀y∈sc.names,y.2≠.free
theorem N5{kindOf:Str->Option aab}{x:Str}:∀{binds:List (Str×Γ)}{m:Str->Option Γ},(∀v,(x,v)∉binds)->bindL kindOf binds m x=m x
 |[],_,_=>rfl
 |(n,v)::r,m,h=>by
  unfold bindL;rw[N5 λw hw=>h w (agk _ hw)]
  split
  ·have:x≠n:=by rintro rfl;exact h v agw
   simp[this]
  ·rfl
theorem N7{kindOf:Str->Option aab}{x:Str}:∀{binds:List (Str×Γ)}{m:Str->Option Γ},(∀v,(x,v)∉binds)->bindC kindOf binds m x=m x
 |[],_,_=>rfl
 |(n,v)::r,m,h=>by
  unfold bindC;rw[N7 λw hw=>h w (agk _ hw)]
  split
  ·rfl
  ·have:x≠n:=by rintro rfl;exact h v agw
   simp[this]
theorem N6{kindOf:Str->Option aab}{x:Str}{v:Γ}:∀{P:List Str}{vs:List Γ}{i:Nat}{m:Str->Option Γ},P.Nodup->P[i]? = ζ x->vs[i]? = ζ v->kindOf x=ζ .local ->
  bindL kindOf (P.zip vs) m x=ζ v
 |[],_,_,_,_,h,_,_=>by simp at h
 |_::_,[],_,_,_,_,h,_=>by simp at h
 |p::P,w::vs,0,m,nd,h1,h2,hk=>by
  simp at h1 h2;subst h1;subst h2;show bindL kindOf ((p,w)::P.zip vs) m p=_;unfold bindL;rw[N5 λv hv=>(agX.mp nd).1 (ahN hv).1,if_pos hk]
  simp
 |p::P,w::vs,i+1,m,nd,h1,h2,hk=>by
  show bindL kindOf ((p,w)::P.zip vs) m x=_;unfold bindL;exact N6 (i:=i) (agX.mp nd).2 (by simpa using h1) (by simpa using h2) hk
theorem N8{kindOf:Str->Option aab}{x:Str}{v:Γ}:∀{P:List Str}{vs:List Γ}{i:Nat}{m:Str->Option Γ},P.Nodup->P[i]? = ζ x->vs[i]? = ζ v->kindOf x≠ζ .local ->
  bindC kindOf (P.zip vs) m x=ζ v
 |[],_,_,_,_,h,_,_=>by simp at h
 |_::_,[],_,_,_,_,h,_=>by simp at h
 |p::P,w::vs,0,m,nd,h1,h2,hk=>by
  simp at h1 h2;subst h1;subst h2;show bindC kindOf ((p,w)::P.zip vs) m p=_;unfold bindC;rw[N7 λv hv=>(agX.mp nd).1 (ahN hv).1,if_neg hk]
  simp
 |p::P,w::vs,i+1,m,nd,h1,h2,hk=>by
  show bindC kindOf ((p,w)::P.zip vs) m x=_;unfold bindC;exact N8 (i:=i) (agX.mp nd).2 (by simpa using h1) (by simpa using h2) hk
def start(N:List Str) (vs:List V):St:=vs.map ζ++ι (N.length-vs.length) η
def k8(CX:pF) (P:π) (w:χ) (K:ξ) (mg:Str->Option Γ) (base:υ) (N:List Str) (qual:Str) (scope:aaq) (f:Ξ) (cd:Γ) (A:ω) (outer:List Env) (s:Ψ) (H:Hp) (E:XK):Cx where
 prog:=P
 w:=w
 K:=K
 mg:=mg
 base:=base
 A:=A.deeper (envOfC qual scope s.heap.objs.size f cd)
 N:=N
 s₀:=s
 H₀:=H
 env:=envOfC qual scope s.heap.objs.size f cd
 outer:=outer
 stack:=envOfC qual scope s.heap.objs.size f cd::outer
 ex:=[]
 calm:=Δ
 fn:=λ_=>Δ
 pn:=[]
 xe:=λe s'=>wpAny (model P w) (A.deeper (envOfC qual scope s.heap.objs.size f cd)) (leaving (envOfC qual scope s.heap.objs.size f cd) e) (λ_ s''=>CX outer H s E e s'') (λe' s''=>CX outer H s E e' s'') s'
theorem NR{sc:aaq}{n:Nat}{x:Str}(h:sc.names.lookup x=ζ .cell):∃c,(cellsFrom n sc.names []).lookup x=ζ c:=by
 have q:=aih sc.names n [] (.inl h);exact aii.mp q
theorem Zp{CX:pF}{P:π}{w:χ}{K:ξ}{mg:Str->Option Γ}{base:υ}{N ps:List Str}{qual:Str}{scope:aaq}{f:Ξ}{cd:Γ}{A:ω}{outer:List Env}{s s1:Ψ}{H:Hp}{E:XK}{us:List Γ}{vs:List V}
  (S:cz N ps scope) (hd:A.handled=η) (e0:rY P w K mg base A outer s H) (hl:vs.length=ps.length) (r:Vals vs us)
  (x:InCallC s s.heap.objs.size (bindL (envOfC qual scope s.heap.objs.size f cd).kindOf (ps.zip us) λ_=>η) (cellsFrom (s.heap.objs.size+1) scope.names []) (bindC (envOfC qual scope s.heap.objs.size f cd).kindOf (ps.zip us) λ_=>η) s1) :
  Inv (k8 CX P w K mg base N qual scope f cd A outer s H E) [] (start N vs) H s1:=by
 have hpl:ps.length<=N.length:=by have:=congrArg List.length S.pre;rw[ag7]at this;omega
 obtain⟨h1,tk,rfl,hk⟩:=x.done;have lS:∀b:Ξ,b∉(k8 CX P w K mg base N qual scope f cd A outer s H E).ex:=λb z=>absurd (show b∈([]:List Ξ)from z) (by simp)
 refine⟨⟨e0.mod,S.kind,rfl,rfl,afQ _,λy z c h1 h2=>?_,λy hy=>?_,λy c _ h=>?_,λ_=>hd,Around.frames_deeper e0.frames,.inr ⟨rfl,rfl⟩,λb z=>absurd z (lS b),e0.bs,e0.jb,λb _ _=>lS b,λb z=>absurd z (lS b),e0.iQ,e0.kX⟩,
  rfl,e0.bare,Un.kept hk,⟨_,x.toInCall.ns,λi y v h1 h2 h3=>?_⟩,λy c h=>⟨_,x.cell y c h⟩,e0.hok.fresh (afQ _),λy c h=>?_,λp hp=>absurd (show p∈([]:List (Ξ×Obj))from hp) (by simp),e0.hok.kept hk,?_⟩
 ·exact name_of_addr x.apart (agT h1) (agT h2)
 ·have hy:scope.names.lookup y=ζ .cell\/scope.names.lookup y=ζ .free:=hy
  rcases hy with hy|hy
  ·exact NR hy
  ·exact absurd rfl (S.Xy _ (agT hy))
 ·exact ag4 (x.above y c (agT h))
 ·have hi:i<vs.length:=by
   unfold start at h2
   by_cases hi:i<vs.length
   ·exact hi
   ·rw[agD (by simpa using hi)]at h2
    rw[List.getElem?_replicate]at h2;split at h2<;>cases h2
  have ha:vs[i]? = ζ v:=by
   unfold start at h2;rw[agl (by simpa using hi),af6]at h2
   cases e:vs[i]? with
   |none=>rw[e]at h2;cases h2
   |some a=>rw[e]at h2;cases h2;rfl
  obtain⟨u,hu,rv⟩:=r.get ha;have hp:ps[i]? = ζ y:=by
   rw[<-S.pre,aij (by omega)];exact h1
  have KZ:ps.Nodup:=by rw[<-S.pre];exact S.nd.sublist (aiR _ _)
  refine⟨u,rv,?_⟩
  rcases S.par y (agn hp)with k|k
  ·exact .inl ⟨k,N6 KZ hp hu k⟩
  ·obtain⟨c,e⟩:=NR (n:=s.heap.objs.size+1) k;refine .inr ⟨.inl k,c,e,?_⟩;have q:=x.cell y c e;rw[N8 KZ hp hu (by show scope.names.lookup y≠_;rw[k];decide)]at q
   exact q
 ·exact e0.hok.fresh (ag4 (x.above y c (agT h)))
 ·unfold start;show _=N.length;rw[agh,afY,aik];omega
theorem MV{CX:pF}{P:π}{w:χ}{K:ξ}{mg:Str->Option Γ}{base:υ}{k:Nat}{f:Ξ}{name qual:Str}{params:aax}{body:List ψ}{scope:aaq}{dV kV doc pm cdv ct oc:Γ}{an od:Option Ξ}
  {osl:Array (Option Γ)}{N ps:List Str}{sp:Sp}(lk:K.lookup f=ζ ⟨oc,od,.func (PySem.W.fnOf name qual params body scope dV kV doc pm an cdv ct),osl⟩) (hcd:PySem.W.codeIn K cdv qual=Δ) (S:cz N ps scope)
  (len:∀vs H Q E,sp vs H Q E->vs.length=ps.length)
  (hbody:∀(A:ω) (outer:List Env) (s:Ψ) (H:Hp) (vs:List V) (Q:VK) (E:XK),er k (A.deeper (envOfC qual scope s.heap.objs.size f cdv))->sp vs H Q E ->
   ∃t,gW (k8 CX P w K mg base N qual scope f cdv A outer s H E) body t/\t {nx:=λ_ H'=>Q .aL H',rt:=Q} (start N vs) H) :
  bL P w K mg base CX (k+1) f (PySem.W.fnOf name qual params body scope dV kV doc pm an cdv ct) ps sp:=by
 refine⟨len,λA outer s H args us vs Q E hr e0 hb r kT=>?_⟩
 have hl:=len _ _ _ _ kT;have KX:K.In s.heap:=e0.mod.mj.keeps λb o e=>(e0.bs b o e).1
 have lim:s.heap.NoLimit:=e0.mod.nolimit.keeps λb o e=>(e0.bs b o e).1
 have hkind:∀y∈ps.zip us,scope.names.lookup y.1=ζ .local\/(scope.names.lookup y.1=ζ .cell/\((cellsFrom (s.heap.objs.size+1) scope.names []).lookup y.1).isSome=Δ):=fun⟨n,v⟩ hy=>by
  rcases S.par n (ahN hy).1 with q|q
  ·exact .inl q
  ·exact .inr ⟨q,aih _ _ _ (.inl q)⟩
 refine codeAny_call_function hr.depth (KX _ _ lk) rfl S.co S.gen rfl (PySem.W.codeRec_of KX hcd) (hb _ _ _ _ ?_);refine wpAny_newFunctionEnv_cells S.kind hkind λenv he s1 x=>?_
 subst he;refine⟨lim.keeps x.toInCall.keep,codeAny_func ?_⟩;obtain⟨t,ht,hq⟩:=hbody A outer s H vs Q E (hr.deeper _) kT;have I:Inv (k8 CX P w K mg base N qual scope f cdv A outer s H E) [] (start N vs) H s1:=Zp S hr.hd e0 hl r x;refine agq (ht [] s1 (start N vs) H _ I hq) (λfl s' hs=>?_) λe s' hs=>hs
 have fin:∀{σ':St}{H':Hp}{v:V}{u:Γ},Inv (k8 CX P w K mg base N qual scope f cdv A outer s H E) [] σ' H' s'->RelV v u->Q v H'->CE outer P w H s Q u s' :=
  fun{σ' H' v u} J rv q=>⟨v,H',J.os,J.bare,J.base,J.hok,rv,q⟩
 cases fl with
 |ret u =>
  obtain⟨v,σ',H',J,rv,q⟩:=hs;exact fin J rv q
 |next =>
  obtain⟨σ',H',J,q⟩:=hs;exact fin (v:=V.aL) (u:=Value.none) J rfl q
 |brk =>
  obtain⟨_,_,_,q⟩:=hs;exact False.elim q
 |cont =>
  obtain⟨_,_,_,q⟩:=hs;exact False.elim q
section
variable {X:Cx}{x:Str}{p pos:Pos}{e:ν}{es:List ν}{t:TA}{id T:String}{r:List V->Hp->VK->Prop}
def Ii(r:List V->Hp->VK->Prop) (t:TA):TE:=λσ H Q=>t σ H λvs H1=>r vs H1 Q
theorem Dr(hc:fB X (.builtin id) r) (hg:Gl X x) (hm:X.mg x=η) (hv:bootBuiltins x=ζ (.builtin id)) (ha:PA X (e::es) t) (hn:x≠"__name__":=by decide) (hdb:(x==("__debug__":Str))=Θ:=by decide)
  (he:ε (e::es) X.env=(Θ,eval e X.env)::ε es X.env:=by rfl) (hpl:(aaj pos (ε es X.env)).any (·.1)=Θ:=by rfl):PE X (.Call (.Name x p) (e::es) [] pos) (Ii r t):=by
 intro pins s σ H Q I h;refine ahM (kP I hg hm hv ?_ hn hdb);exact PyProof.Rows.callWith_builtin1 (bR (ha pos pins s σ H _ I h) λus s1 ⟨vs,H1,I1,r1,q1⟩=>hc pins s1 σ H1 vs us Q I1 r1 q1) he hpl
theorem nu(hc:fB X (.type T) r) (hg:Gl X x) (hm:X.mg x=η) (hv:bootBuiltins x=ζ (.type T)) (ha:PA X (e::es) t) (hn:x≠"__name__":=by decide) (hdb:(x==("__debug__":Str))=Θ:=by decide)
  (he:ε (e::es) X.env=(Θ,eval e X.env)::ε es X.env:=by rfl) (hpl:(aaj pos (ε es X.env)).any (·.1)=Θ:=by rfl):PE X (.Call (.Name x p) (e::es) [] pos) (Ii r t):=by
 intro pins s σ H Q I h;refine ahM (kP I hg hm hv ?_ hn hdb);exact ahd (bR (ha pos pins s σ H _ I h) λus s1 ⟨vs,H1,I1,r1,q1⟩=>hc pins s1 σ H1 vs us Q I1 r1 q1) he hpl
end
end L2
namespace HT
open PySem PyProof.Rows
section
variable {prog:π}{w:χ}{A:ω}{E:Γ->Ψ->Prop}{s:Ψ}
theorem acz{t b:Ξ}{vs ws:List Γ}{Q:Γ->Ψ->Prop}(ht:IsTup s.heap t vs.toArray) (hb:IsTup s.heap b ws.toArray) (hv:vs≠[])
  (h1:ws=[]->Q (.ref t) s) (h2:ws≠[]->Q (.ref s.heap.objs.size) {s with heap:=s.heap.push {cls:=.type "tuple",data:=.seq (vs++ws).toArray} })
  (hsz:vs.length+ws.length<=Ω):wpAny (model prog w) A (binaryOp .Add (.ref t) (.ref b)) Q E s:=by
 obtain⟨⟨cls,dd,data,sl⟩,ho,hc,n,hd⟩:=id ht;obtain⟨⟨cls2,dd2,data2,sl2⟩,ho2,hc2,n2,hd2⟩:=id hb;simp only at hc hd hc2 hd2;subst hc hd hc2 hd2;have e:vs.toArray++ws.toArray=(vs++ws).toArray:=by simp
 by_cases hw:ws=[]
 ·exact concat_meets ⟨_,ho,rfl⟩ ⟨_,ho2,rfl⟩ noFill_tuple_add seq_tuple_add ajR ajS (ajT _ _)
   (tuple_addW1 t b vs.toArray ws.toArray n n2 dd dd2 sl sl2 (by simpa using hv) (by simp[hw])) ⟨ho,ho2,h1 hw⟩
 ·refine concat_meets ⟨_,ho,rfl⟩ ⟨_,ho2,rfl⟩ noFill_tuple_add seq_tuple_add ajR ajS (ajT _ _)
   (tuple_addW2 t b vs.toArray ws.toArray n n2 dd dd2 sl sl2 (by simpa using hv) (by simpa using hw) (by rw[af4,af4];exact hsz)) ⟨ho,ho2,?_⟩
  rw[e];exact h2 hw
def fY(n d:Nat):Option Int->Nat
 |none=>d
 |some v=>if v<0 then(v+(n:Int)).toNat else min v.toNat n
theorem SM(n d k:Nat):fY n d (ζ (k:Int))=min k n:=by
 show(if(k:Int)<0 then((k:Int)+(n:Int)).toNat else min (k:Int).toNat n)=min k n
 rw[if_neg (by omega),aho]
end
end HT
namespace L2
open PySem PySem.Spec PyProof.Rows
abbrev TO:=St->Hp->(Option Int->Hp->Prop)->Prop
def PO(X:Cx) (e:Option ν) (t:TO):Prop :=
 ∀(pins:List (Ξ×Obj)) (s:Ψ) (σ:St) (H:Hp) (Q:Option Int->Hp->Prop),Inv X pins σ H s->t σ H Q ->
  wpAny (model X.prog X.w) X.A (evalPart e X.env) (λu s'=>∃o H',Inv X pins σ H' s'/\IsPart u o/\Q o H') X.xe s
def QU:TO:=λ_ H Q=>Q η H
def QN(t:TE):TO:=λσ H Q=>t σ H λx H1=>∃i,x=.int i/\Q (ζ i) H1
section
variable {X:Cx}{e:ν}{te:TE}{lo hi:Option ν}{tl th:TO}{pos p2:Pos}
theorem UW:PO X η QU:=by
 intro pins s σ H Q I h;rw[evalPart_none];exact afP ⟨η,H,I,.none,h⟩
theorem UU(h:PE X e te):PO X (ζ e) (QN te):=by
 intro pins s σ H Q I hw;rw[evalPart_some];refine bR (h pins s σ H _ I hw) λu s1 ⟨x,H1,I1,r1,q1⟩=>?_
 obtain⟨i,rfl,q⟩:=q1;obtain⟨t,rfl⟩:=r1;exact⟨ζ i,H1,I1,.int i t,q⟩
def Oi(X:Cx) (r:V->Option Int->Option Int->Hp->VK->Prop):Prop :=
 ∀(pins:List (Ξ×Obj)) (s:Ψ) (σ:St) (H:Hp) (x:V) (v vl vu:Γ) (lo hi:Option Int) (sl:Ξ) (Q:VK),Inv X pins σ H s->RelV x v->s.heap.IsSliceOf sl vl vu .none->IsPart vl lo->IsPart vu hi->r x lo hi H Q ->
  ∃T id,typeLookup (.type T) "__getitem__"=pure (ζ (.builtin id))/\s.TypeIs v T/\wpAny (model X.prog X.w) X.A (getItem v (.ref sl)) (EP X pins σ Q) X.xe s
def QJ(r:V->Option Int->Option Int->Hp->VK->Prop) (te:TE) (tl th:TO):TE:=λσ H Q=>te σ H λx H1=>tl σ H1 λl H2=>th σ H2 λu H3=>r x l u H3 Q
theorem Vm{r:V->Option Int->Option Int->Hp->VK->Prop}(hr:Oi X r) (he:PE X e te) (hl:PO X lo tl) (hu:PO X hi th):PE X (.Subscript e (.Slice lo hi η p2) pos) (QJ r te tl th):=by
 intro pins s σ H Q I h;refine Subscript_ (bR (he pins s σ H _ I h) λv s1 ⟨x,H1,I1,r1,q1⟩=>?_)
 refine wpAny_Slice (bR (hl pins s1 σ H1 _ I1 q1) λvl s2 ⟨l,H2,I2,pl,q2⟩=>bR (hu pins s2 σ H2 _ I2 q2) λvu s3 ⟨u,H3,I3,pu,q3⟩=>?_)
 rw[evalPart_none];refine afP ?_;have I4:Inv X pins σ H3 {s3 with heap:=s3.heap.push {cls:=.type "slice",data:=.fields #[vl,vu,.none]} }:=I3.kept (t':=s3.toks) λb ob q=>afS _ q
 obtain⟨T,id,hT,ht,hg⟩:=hr pins {s3 with heap:=s3.heap.push {cls:=.type "slice",data:=.fields #[vl,vu,.none]} } σ H3 x v vl vu l u s3.heap.objs.size Q I4 r1 (Heap.IsSliceOf.new ..) pl pu q3
 show wpAny (model X.prog X.w) X.A (subscriptTail e (.Slice lo hi η p2) v (.ref s3.heap.objs.size)) (EP X pins σ Q) X.xe {s3 with heap:=s3.heap.push {cls:=.type "slice",data:=.fields #[vl,vu,.none]} }
 exact tail_any (ops:=[.ref s3.heap.objs.size,v]) ht hT hg (by with_unfolding_all rfl)
def uz(xs:List V) (lo hi:Option Int):List V:=(xs.drop (HT.fY xs.length 0 lo)).take (HT.fY xs.length xs.length hi-HT.fY xs.length 0 lo)
theorem abV(xs:List V) (lo hi:Option Int):(uz xs lo hi).length<=xs.length:=by
 unfold uz;rw[ag7,List.length_drop];omega
def T3(K:ξ):R2:=λx y H Q=>∃a b xs ys,x=.ref a/\y=.ref b/\cO K H a xs/\cO K H b ys/\xs≠[]/\xs.length+ys.length<=Ω /\
 (ys=[]->Q (.ref a) H)/\(ys≠[]->∀p,H p=η->Q (.ref p) (upd H p (.tup (xs++ys))))
theorem Vals.DK{xs:List V}{us:List Γ}(r:Vals xs us):us=[]↔xs=[]:=by
 cases r with
 |nil=>simp
 |cons _ _=>simp
theorem Wn:cE X (binaryOp .Add) (T3 X.K):=by
 intro pins s σ H x y v u Q I rx ry h;obtain⟨a,b,xs,ys,rfl,rfl,ha,hb,hx,hz,q1,q2⟩:=h;cases rx;cases ry;obtain⟨its,r1,p1,_⟩:=I.tuple ha;obtain⟨its2,r2,p2,_⟩:=I.tuple hb;refine HT.acz p1 p2 (λz=>hx (r1.DK.mp z)) (λz=>⟨.ref a,H,I,rfl,q1 (r2.DK.mp z)⟩) (λz=>?_) (by rw[<-r1.length,<-r2.length];exact hz)
 refine⟨.ref s.heap.objs.size,_,I.laid (t':=s.toks) (o:=.tup (xs++ys)) (λb ob q=>afS _ q) (afQ _) ?_,rfl,q2 (λw=>z (r2.DK.mpr w)) _ (I.hok.fresh (afQ _))⟩
 exact⟨by rw[agh];exact hz,_,r1.append r2,lz.new _ _⟩
end
def gp(n:Nat) (i:Int):Option Nat:=if 0<=i then(if i<n then ζ i.toNat else η)else if -(n:Int)<=i then ζ (i+n).toNat else η
def cX{α:Type}(xs:List α) (i:Int):Option α:=(gp xs.length i).bind λj=>xs[j]?
theorem LQ{n:Nat}{i:Int}{j:Nat}(h:gp n i=ζ j):seqIndex? i n=ζ j/\j<n/\-(n:Int)<=i/\i<n:=by
 unfold gp at h
 by_cases h0:0<=i
 ·rw[if_pos h0]at h
  by_cases h1:i<n
  ·rw[if_pos h1]at h;have e:i.toNat=j:=agc h;exact⟨by rw[seqIndex_of h0 h1,e],by omega,by omega,h1⟩
  ·rw[if_neg h1]at h;cases h
 ·rw[if_neg h0]at h
  by_cases h1:-(n:Int)<=i
  ·rw[if_pos h1]at h;have e:(i+n).toNat=j:=agc h;exact⟨by rw[seqIndex_neg (by omega) h1,e],by omega,h1,by omega⟩
  ·rw[if_neg h1]at h;cases h
theorem Ob{α:Type}{xs:List α}{i:Int}{v:α}(h:cX xs i=ζ v):∃j,seqIndex? i xs.length=ζ j/\xs[j]? = ζ v/\j<xs.length/\-(xs.length:Int)<=i/\i<xs.length:=by
 unfold cX at h;cases e:gp xs.length i with
 |none=>rw[e]at h;cases h
 |some j =>
  rw[e]at h;obtain⟨h1,h2,h3,h4⟩:=LQ e;exact⟨j,h1,h,h2,h3,h4⟩
theorem gK{α:Type}{xs:List α}{j:Nat}{v:α}(h:xs[j]? = ζ v):cX xs (j:Int)=ζ v:=by
 have hj:j<xs.length:=(af8.mp h).1;have e:gp xs.length (j:Int)=ζ j:=by
  unfold gp;rw[if_pos (by omega),if_pos (by omega)];simp
 unfold cX;rw[e];exact h
def GR(b:ν):Prop:=∀o i,subscripted b Θ o i=operate [o,i] (getItem o i)
def uK(X:Cx) (r:R2):Prop :=
 ∀(value slice:ν) (pins:List (Ξ×Obj)) (s:Ψ) (σ:St) (H:Hp) (x y:V) (v u:Γ) (Q:VK),Inv X pins σ H s->RelV x v->RelV y u->r x y H Q ->
  subscripted slice Θ v u=operate [v,u] (getItem v u)->wpAny (model X.prog X.w) X.A (subscriptTail value slice v u) (EP X pins σ Q) X.xe s
def MtR(X:Cx) (id:String) (r:V->List V->Hp->VK->Prop):Prop :=
 ∀(pins:List (Ξ×Obj)) (s:Ψ) (σ:St) (H:Hp) (x:V) (xs:List V) (v:Γ) (us:List Γ) (Q:VK),Inv X pins σ H s->RelV x v->Vals xs us->r x xs H Q ->
  wpAny (model X.prog X.w) X.A (call (.builtin id) (v::us)) (EP X pins σ Q) X.xe s
section
variable {X:Cx}{a b:ν}{ta tb:TE}{pos:Pos}
theorem Dp{r:R2}(hr:uK X r) (ha:PE X a ta) (hb:PE X b tb) (hs:GR b):PE X (.Subscript a b pos) (yo r ta tb):=by
 intro pins s σ H Q I h;exact Subscript_ (Fx ha hb I h λv u s2 x y H2 I2 rx ry q=>hr a b pins s2 σ H2 x y v u Q I2 rx ry q (hs _ _))
def TV(K:ξ):R2:=λx y H Q=>∃p xs i v,x=.ref p/\y=.int i/\b9 K H p xs/\cX xs i=ζ v/\Q v H
def TU(K:ξ):R2:=λx y H Q=>∃p xs i v,x=.ref p/\y=.int i/\cO K H p xs/\cX xs i=ζ v/\Q v H
theorem Ze:uK X (TV X.K):=by
 intro value slice pins s σ H x y v u Q I rx ry h hs;obtain⟨p,xs,i,z,rfl,rfl,hq,he,q⟩:=h;cases rx;obtain⟨t,rfl⟩:=ry;obtain⟨its,r,pl,hz⟩:=I.list hq;obtain⟨j,h1,h2,h3,h4,h5⟩:=Ob he;obtain⟨w,ew,rw'⟩:=r.get h2;have hl:=r.length;have hn:=t8;have fin:EP X pins σ Q w s:=⟨z,H,I,rw',q⟩
 by_cases h0:0<=i
 ·have hj:i.toNat=j:=by
   rw[seqIndex_of h0 h5]at h1;exact agc h1
  exact item_listR pl.isList h0 (by omega) (by rw[hj];simpa using ew) fin hs
 ·have hj:(i+(its.toArray.size:Int)).toNat=j:=by
   rw[seqIndex_neg (by omega) h4]at h1
   rw[af4,<-hl];exact agc h1
  exact aiS (x:=w) pl.isList.typeIs slot_list_getitem.lookup
   (wpAny_getItem_list_neg (Q:=λr s'=>r=w/\EP X pins σ Q r s') pl.isList (by omega) (by rw[af4]<;>omega) (by omega) (by rw[hj];simpa using ew) ⟨rfl,fin⟩) hs
theorem LL:uK X (TU X.K):=by
 intro value slice pins s σ H x y v u Q I rx ry h hs;obtain⟨p,xs,i,z,rfl,rfl,hq,he,q⟩:=h;cases rx;obtain⟨t,rfl⟩:=ry;obtain⟨its,r,pl,hz⟩:=I.tuple hq;obtain⟨j,h1,h2,h3,h4,h5⟩:=Ob he;obtain⟨w,ew,rw'⟩:=r.get h2;have hl:=r.length;have hn:=t8;have fin:EP X pins σ Q w s:=⟨z,H,I,rw',q⟩;exact aiS (x:=w) pl.typeIs slot_tuple_getitem.lookup
  (getItem_tuple (j:=j) (Q:=λr s'=>r=w/\EP X pins σ Q r s') pl (by omega) (by omega) (by rw[af4,<-hl];exact h1) (by simpa using ew) ⟨rfl,fin⟩) hs
theorem Yn(its:List Γ) (n j:Nat) (u:Γ):Obj.mapSeq (·.setIfInBounds j u) {cls:=.type "list",data:=.seq its.toArray n}={cls:=.type "list",data:=.seq (its.set j u).toArray n}:=by
 simp[Obj.mapSeq]
theorem Inv.lst{pins:List (Ξ×Obj)}{σ:St}{H:Hp}{s:Ψ}{p:Ξ}{xs:List V}(I:Inv X pins σ H s) (h:H p=ζ (.lst xs)) :
  ∃(its:List Γ) (n:Nat),Vals xs its/\s.heap.get? p=ζ {cls:=.type "list",data:=.seq its.toArray n}/\xs.length<=Ω:=by
 obtain⟨z,its,n,r,e⟩:=I.hok p _ h;exact⟨its,n,r,e,z⟩
theorem Inv.Yq{pins:List (Ξ×Obj)}{σ:St}{H:Hp}{s:Ψ}{p:Ξ}{xs ys:List V}{its its':List Γ}{n n':Nat}{f:Obj->Obj}(I:Inv X pins σ H s) (h:H p=ζ (.lst xs))
  (ho:s.heap.get? p=ζ {cls:=.type "list",data:=.seq its.toArray n}) (hf:f {cls:=.type "list",data:=.seq its.toArray n}={cls:=.type "list",data:=.seq its'.toArray n'}) (r:Vals ys its') (hz:ys.length<=Ω) (t:Nat) :
  Inv X pins σ (upd H p (.lst ys)) {s with heap:=s.heap.update p f,toks:=t}:=by
 have e:(s.heap.update p f).get? p=ζ {cls:=.type "list",data:=.seq its'.toArray n'}:=by
  rw[ahO f ho (by rw[hf]<;>rfl),hf]
 refine I.write (x:=p) (e:=p) (by rw[h];trivial) (.inl rfl) (λb u hb q=>(ahy _ _ (agx hb)).trans q) ⟨_,e⟩ ?_
 exact⟨hz,its',n',r,e⟩
def TF:V->V->V->Hp->(Hp->Prop)->Prop:=λo i v H Q=>∃p xs k j,o=.ref p/\i=.int k/\H p=ζ (.lst xs)/\gp xs.length k=ζ j/\Q (upd H p (.lst (xs.set j v)))
theorem set_list:Ol X TF:=by
 intro pins s σ H o i v ov iv u Q I ro ri rv h;obtain⟨p,xs,k,j,rfl,rfl,hp,hj,q⟩:=h;cases ro;obtain⟨t,rfl⟩:=ri;obtain⟨its,n,r,ho,hz⟩:=I.lst hp;obtain⟨h1,h2,h3,h4⟩:=LQ hj;have hl:=r.length;have hn:=t8;have I':Inv X pins σ (upd H p (.lst (xs.set j v))) {s with heap:=s.heap.update p (Obj.mapSeq (·.setIfInBounds j u))} :=
  I.Yq hp ho (Yn its n j u) (r.set rv j) (by rw[aiT];exact hz) s.toks
 by_cases h0:0<=k
 ·have hk:k.toNat=j:=by
   rw[seqIndex_of h0 h4]at h1;exact agc h1
  exact PySem.W.ki_setAt ho h0 (by omega) (by rw[af4,<-hl];exact h4) (by rw[hk];exact⟨_,I',q⟩)
 ·have hk:(k+(its.toArray.size:Int)).toNat=j:=by
   rw[seqIndex_neg (by omega) h3]at h1
   rw[af4,<-hl];exact agc h1
  exact PySem.W.ki_setBack ho (by omega) (by rw[af4,<-hl];exact h3) (by omega) (by rw[hk];exact⟨_,I',q⟩)
theorem R1(lo hi:Option Int) (n:Nat):(sliceBounds lo hi η n).1=((HT.fY n 0 lo:Nat):Int)/\(sliceBounds lo hi η n).2.1=((HT.fY n n hi:Nat):Int)/\(sliceBounds lo hi η n).2.2=1:=by
 refine⟨?_,?_,rfl⟩
 ·cases lo with
  |none=>simp[sliceBounds,HT.fY]
  |some i =>
   simp only[sliceBounds,HT.fY,ajU,show(1:Int)>0 by decide,if_true]
   by_cases h:i<0
   ·simp only[h,if_true]<;>omega
   ·simp only[h,if_false]<;>omega
 ·cases hi with
  |none=>simp[sliceBounds,HT.fY]
  |some i =>
   simp only[sliceBounds,HT.fY,ajU,show(1:Int)>0 by decide,if_true]
   by_cases h:i<0
   ·simp only[h,if_true]<;>omega
   ·simp only[h,if_false]<;>omega
theorem R4(its:List Γ) (lo hi:Option Int):slicePick its.toArray lo hi η=((its.drop (HT.fY its.length 0 lo)).take (HT.fY its.length its.length hi-HT.fY its.length 0 lo)).toArray:=by
 obtain⟨h1,h2,h3⟩:=R1 lo hi its.toArray.size;unfold slicePick;rw[h1,h2,h3];simp only[sliceRange_one,pick_run,af4]<;>rfl
def Tw(K:ξ):V->Option Int->Option Int->Hp->VK->Prop:=λx lo hi H Q=>∃a xs,x=.ref a/\b9 K H a xs/\∀p,H p=η->Q (.ref p) (upd H p (.lst (uz xs lo hi)))
theorem R5:Oi X (Tw X.K):=by
 intro pins s σ H x v vl vu lo hi sl Q I rx hs pl pu h;obtain⟨a,xs,rfl,hx,q⟩:=h;cases rx;obtain⟨its,r,ht,hz⟩:=I.list hx;have hlen:=r.length;refine⟨"list",_,slot_list_getitem.lookup,ht.isList.typeIs,?_⟩;refine wpAny_getItem_list_slice ht.isList hs pl pu .none (by simp) ?_ (by rw[af4]<;>omega)
 rw[R4,<-hlen];refine⟨.ref s.heap.objs.size,_,I.laid (t':=s.toks) (o:=.lst (uz xs lo hi)) (λb ob q=>afS _ q) (afQ _) ?_,rfl,q _ (I.hok.fresh (afQ _))⟩
 exact⟨agg (abV xs lo hi) hz,_,0,(r.drop (HT.fY xs.length 0 lo)).take (HT.fY xs.length xs.length hi-HT.fY xs.length 0 lo),af3 _ rfl⟩
theorem acG:fB X (.builtin "len") (λxs H Q=>∃p ys,xs=[.ref p]/\(b9 X.K H p ys\/cO X.K H p ys)/\Q (.int ys.length) H):=by
 intro pins s σ H xs us Q I r h;obtain⟨p,ys,rfl,hq,q⟩:=h;obtain⟨u,rfl,rx⟩:=agF r;cases rx;have hn:=t8
 rcases hq with hq|hq
 ·obtain⟨its,r',pl,hz⟩:=I.list hq;have hlen:=r'.length;exact Calls.call_len_list pl.isList (by simp only[af4]<;>omega) ⟨.int ys.length,H,I.tok _,⟨s.toks+1,by rw[af4,hlen]⟩,q⟩
 ·obtain⟨its,r',pl,hz⟩:=I.tuple hq;have hlen:=r'.length;exact len_tuple pl (by simp only[af4]<;>omega) ⟨.int ys.length,H,I.tok _,⟨s.toks+1,by rw[af4,hlen]⟩,q⟩
theorem acF:fB X (.builtin "len") (λxs H Q=>∃z,xs=[.str z]/\z.length<=Ω/\Q (.int z.length) H):=by
 intro pins s σ H xs us Q I r h;obtain⟨z,rfl,hz,q⟩:=h;obtain⟨u,rfl,t,rfl⟩:=agF r;have hn:=t8;exact len_str (by omega) ⟨.int z.length,H,I.tok _,⟨_,rfl⟩,q⟩
theorem acB:fB X (.type "tuple") (λxs H Q=>∃p ys,xs=[.ref p]/\((b9 X.K H p ys/\∀l,H l=η->Q (.ref l) (upd H l (.tup ys)))\/(cO X.K H p ys/\Q (.ref p) H))):=by
 intro pins s σ H xs us Q I r h;obtain⟨p,ys,rfl,h⟩:=h;obtain⟨u,rfl,rx⟩:=agF r;cases rx
 rcases h with⟨hq,q⟩|⟨hq,q⟩
 ·obtain⟨its,r',pl,hz⟩:=I.list hq;have hlen:=r'.length;refine call_tuple_list pl.isList (λh' kp=>?_) (by simp only[af4]<;>omega)
  have I1:Inv X pins σ H {s with heap:=h'}:=I.kept (t':=s.toks) kp
  have I2:Inv X pins σ (upd H h'.objs.size (.tup ys)) {s with heap:=h'.push {cls:=.type "tuple",data:=.seq its.toArray} } :=
   I1.laid (t':=s.toks) (λb o e=>afS _ e) (afQ _) (show gf X.prog X.w _ _ _ (.tup ys)from⟨hz,its,r',lz.new _ _⟩)
  exact⟨.ref h'.objs.size,_,I2,rfl,q _ (I1.hok.fresh (afQ _))⟩
 ·obtain⟨its,r',pl,hz⟩:=I.tuple hq;exact call_tuple_same pl ⟨.ref p,H,I,rfl,q⟩
def HJ(K:ξ) (T:String) (x:V) (H:Hp):Prop:=match x with
 |.str _=>T="str"
 |.int _=>T="int"
 |.ref p=>(T="list"/\∃xs,b9 K H p xs)\/(T="tuple"/\((∃xs,H p=ζ (.tup xs))\/∃o,K.lookup p=ζ o/\o.cls=.type "tuple"/\o.dict=η)) \/
   (T="dict"/\((∃kvs,H p=ζ (.dK kvs))\/∃kvs,H p=ζ (.dT kvs)))\/(T="set"/\∃S n,H p=ζ (.set S n))
 |_=>False
theorem PU{pins:List (Ξ×Obj)}{σ:St}{H:Hp}{s:Ψ}{T:String}{x:V}{v:Γ}(I:Inv X pins σ H s) (r:RelV x v) (ty:HJ X.K T x H) :
  s.TypeIs v T/\∀a,v=.ref a->∃ob,s.heap.get? a=ζ ob/\ob.dict=η:=by
 cases x with
 |str z =>
  obtain⟨t,rfl⟩:=r;cases(show T="str" from ty)
  exact⟨typeIs_str s z t,λ_ e=>nomatch e⟩
 |int i =>
  obtain⟨t,rfl⟩:=r;cases(show T="int" from ty)
  exact⟨typeIs_int s i t,λ_ e=>nomatch e⟩
 |ref p =>
  cases r
  rcases ty with⟨rfl,xs,hq⟩|⟨rfl,⟨xs,hk⟩|⟨o,hk,hc,hd⟩⟩|⟨rfl,hk⟩|⟨rfl,S,n,hk⟩
  ·obtain⟨its,_,pl,_⟩:=I.list hq;refine⟨pl.isList.typeIs,λa e=>?_⟩
   cases e;obtain⟨o,n,e,c,hd,_⟩:=pl;exact⟨o,e,hd⟩
  ·obtain⟨_,its,_,o,e,c,_,hd⟩:=(show gf X.prog X.w H s.heap p (.tup xs)from I.hok p _ hk)
   refine⟨⟨o,e,c⟩,λa e2=>?_⟩
   cases e2;exact⟨o,e,hd⟩
  ·refine⟨⟨o,I.fM p o hk,hc⟩,λa e=>?_⟩
   cases e;exact⟨o,I.fM _ o hk,hd⟩
  ·have z:∃o,s.heap.get? p=ζ o/\o.ExactDict:=by
    rcases hk with⟨kvs,hk⟩|⟨kvs,hk⟩
    ·obtain⟨_,_,_,_,o,_,_,e,ex,_⟩:=I.hok p _ hk;exact⟨o,e,ex⟩
    ·obtain⟨_,_,_,_,o,_,_,e,ex,_⟩:=I.hok p _ hk;exact⟨o,e,ex⟩
   obtain⟨o,e,ex⟩:=z;refine⟨⟨o,e,ex.1⟩,λa e2=>?_⟩
   cases e2;exact⟨o,e,ex.2.1⟩
  ·obtain⟨o,_,_,_,e,ex,_⟩:=I.hok p _ hk;refine⟨⟨o,e,ex.1⟩,λa e2=>?_⟩
   cases e2;exact⟨o,e,ex.2.1⟩
 |_=>exact False.elim ty
def Q8(K:ξ) (T:String) (r:V->List V->Hp->VK->Prop) (to:TE) (t:TA):TE:=λσ H Q=>to σ H λx H1=>HJ K T x H1/\t σ H1 λxs H2=>r x xs H2 Q
variable {o e:ν}{es:List ν}{to:TE}{t:TA}{name:Str}{apos cpos:Pos}{T id:String}{r:V->List V->Hp->VK->Prop}
theorem Ds(pa:PlainAttrs T) (slot:Slot T name id) (hty:typeOf (.builtin id)=pure (.type "method_descriptor")) (hm:MtR X id r) (ho:PE X o to) (ha:PA X (e::es) t)
  (hbase:aaA o name X.env (eval o X.env)=eval o X.env:=by rfl)
  (hfew:((aaj cpos (ε (e::es) X.env)).all (λx=>!x.1)&&(aaE cpos (aat [] X.env)).all (λx=>x.1.isSome)
   && decide ((e::es).length+([]:List aav).length+(if([]:List aav).isEmpty then 0 else 1)<30))=Δ:=by rfl)
  (hline:(apos.endLine==cpos.line)=Δ:=by rfl) (hs:ε (e::es) X.env=(Θ,eval e X.env)::ε es X.env:=by rfl) (hplain:(aaj cpos (ε es X.env)).any (·.1)=Θ:=by rfl) :
  PE X (.Call (.Attribute o name apos) (e::es) [] cpos) (Q8 X.K T r to t):=by
 intro pins s σ H Q I h;refine wpAny_Call_method_late hbase hfew hline rfl (bR (ho pins s σ H _ I h) λv s1 ⟨x,H1,I1,r1,ty,q1⟩=>?_)
 obtain⟨h1,h2⟩:=PU I1 r1 ty;refine⟨T,id,pa,slot,hty,h1,h2,?_⟩;have hA:=ha cpos pins s1 σ H1 _ I1 q1;rw[hs]at hA ⊢;refine Calls.callWith_builtin (by show(Θ||(aaj cpos (ε es X.env)).any (·.1))=Θ;rw[hplain]<;>rfl) (Calls.evalArgs_plain ?_)
 exact bR hA λus s2 ⟨vs,H2,I2,r2,q2⟩=>hm pins s2 σ H2 x vs v us Q I2 r1 r2 q2
end
def GV(X:Cx) (id:String) (r:V->List V->Hp->VK->Prop):Prop :=
 ∀(pins:List (Ξ×Obj)) (s:Ψ) (σ:St) (H:Hp) (x:V) (xs:List V) (v:Γ) (us:List Γ) (Q:VK),Inv X pins σ H s->RelV x v->Vals xs us->r x xs H Q ->
  wpAny (model X.prog X.w) X.A (call (.builtin id) (v::us)) (EP X pins σ Q) X.xe s
theorem Vals.one:∀{x:V}{us:List Γ},Vals [x] us->∃u,us=[u]/\RelV x u
 |_,_,.cons r .nil=>⟨_,rfl,r⟩
theorem Vals.two:∀{x y:V}{us:List Γ},Vals [x,y] us->∃u v,us=[u,v]/\RelV x u/\RelV y v
 |_,_,_,.cons r (.cons q .nil)=>⟨_,_,rfl,r,q⟩
theorem Vals.eraseIdx:∀{xs:List V}{us:List Γ}(i:Nat),Vals xs us->Vals (xs.eraseIdx i) (us.eraseIdx i)
 |_,_,_,.nil=>.nil
 |_,_,0,.cons _ t=>t
 |_,_,i+1,.cons r t=>.cons r (Vals.eraseIdx i t)
theorem Vals.rep{xs:List V}{us:List Γ}(h:Vals xs us):∀k:Nat,Vals (ι k xs).flatten (ι k us).flatten
 |0=>.nil
 |k+1=>by
  rw[agO,agO,ag8,ag8];exact Vals.append h (Vals.rep h k)
theorem Lp{α:Type}:∀(l:List α) (i:Nat),(l.eraseIdx i).length<=l.length
 |[],_=>afQ _
 |_::_,0=>ahz _
 |_::r,i+1=>Nat.succ_le_succ (Lp r i)
theorem foldl_rep(its:List Γ):∀(k:Nat) (acc:List Γ),
  List.foldl (λx1 x2=>x1++x2) acc.toArray (ι k its.toArray)=(acc++(ι k its).flatten).toArray
 |0,acc=>by simp
 |k+1,acc=>by
  have e:acc.toArray++its.toArray=(acc++its).toArray:=by simp
  have e2:(acc++its)++(ι k its).flatten=acc++(ι (k+1) its).flatten:=by
   rw[agO,ag8,agy]
  rw[<-e2,<-foldl_rep its k (acc++its),<-e,agO,ahP]
section
variable {X:Cx}{pins:List (Ξ×Obj)}{σ:St}{H:Hp}{s:Ψ}{l b:Ξ}{xs ys zs:List V}
theorem Inv.D8{its its':List Γ}{n:Nat}{f:Array Γ->Array Γ}{t':Nat}(I:Inv X pins σ H s) (hH:H l=ζ (.lst xs))
  (e:s.heap.get? l=ζ {cls:=.type "list",data:=.seq its.toArray n}) (hf:f its.toArray=its'.toArray) (hv:Vals ys its') (hz:ys.length<=Ω) :
  Inv X pins σ (upd H l (.lst ys)) {s with heap:=s.heap.update l (Obj.mapSeq f),toks:=t'}:=by
 have q:=ajV e f;rw[hf]at q;refine I.write (x:=l) (e:=l) (by rw[hH];exact trivial) (.inl rfl) (λb' u hb hu=>(ahy s.heap (Obj.mapSeq f) (agx hb)).trans hu) ⟨_,q⟩ ?_
 exact⟨hz,its',_,hv,q⟩
theorem Inv.Lm{its:List Γ}{t':Nat}(I:Inv X pins σ H s) (hv:Vals ys its) (hz:ys.length<=Ω) :
  Inv X pins σ (upd H s.heap.objs.size (.lst ys)) {s with heap:=s.heap.push {cls:=.type "list",data:=.seq its.toArray},toks:=t'} :=
 I.laid (λ_ _ q=>afS _ q) (afQ _) ⟨hz,its,0,hv,af3 _ rfl⟩
theorem Inv.fresh(I:Inv X pins σ H s):H s.heap.objs.size=η:=I.hok.fresh (afQ _)
theorem Inv.qu(I:Inv X pins σ H s) (hH:H l=ζ (.lst xs)):xs.length<=Ω/\∃(its:List Γ) (n:Nat),Vals xs its/\xs.length=its.length/\s.heap.get? l=ζ {cls:=.type "list",data:=.seq its.toArray n}:=by
 obtain⟨z,its,n,r,e⟩:=I.hok l _ hH;exact⟨z,its,n,r,r.length,e⟩
theorem KD{n:Nat}(h:n<=Ω):Builtin.List.listTooLong n=Θ:=by
 unfold Builtin.List.listTooLong;exact decide_eq_false (by omega)
end
section
variable {X:Cx}
def T6:V->List V->Hp->VK->Prop:=λx vs H Q=>∃l xs y,x=.ref l/\vs=[y]/\H l=ζ (.lst xs)/\xs.length<Ω/\Q .aL (upd H l (.lst (xs++[y])))
theorem Yh:GV X "list.append" T6:=by
 intro pins s σ H x vs v us Q I rx rv h;obtain⟨l,xs,y,rfl,rfl,hH,hz,q⟩:=h;cases rx;obtain⟨u,rfl,ru⟩:=rv.one;obtain⟨z,its,n,r,hl,e⟩:=I.qu hH;refine ahA F.slot_list_append ⟨_,e,rfl⟩ F.entry_list_append (F.args_list_append_2 _ _) (ajW l its.toArray n u (by rw[af4];omega)) ⟨e,?_⟩
 refine⟨.aL,_,I.D8 (its':=its++[u]) hH e (by simp) (r.append (.cons ru .nil)) ?_,rfl,q⟩
 rw[agh,List.length_singleton];omega
def TX:V->List V->Hp->VK->Prop:=λx vs H Q=>∃l b xs zs,x=.ref l/\vs=[.ref b]/\H l=ζ (.lst xs)/\H b=ζ (.lst zs)/\xs.length+zs.length<=Ω/\Q .aL (upd H l (.lst (xs++zs)))
theorem Ye:GV X "list.extend" TX:=by
 intro pins s σ H x vs v us Q I rx rv h;obtain⟨l,b,xs,zs,rfl,rfl,hH,hB,hz,q⟩:=h;cases rx;obtain⟨u,rfl,ru⟩:=rv.one;cases ru;obtain⟨z,its,n,r,hl,e⟩:=I.qu hH;obtain⟨z2,its2,n2,r2,hl2,e2⟩:=I.qu hB;have hsz:its.toArray.size+its2.toArray.size<=Ω:=by rw[af4,af4];omega
 have EF:¬(!its.toArray.isEmpty&&Builtin.List.listTooLong (its.toArray.size+its2.toArray.size))=Δ:=by
  rw[KD hsz,Bool.and_false];exact agd
 refine ahA F.slot_list_extend ⟨_,e,rfl⟩ F.entry_list_extend (F.args_list_extend_2 _ _)
  (AutoSeq1.list_extend_list_list_0 l its.toArray n b its2.toArray n2 EF (by rw[af4];omega) (by omega)) ⟨e,e2,?_⟩
 refine⟨.aL,_,I.D8 (its':=its++its2) hH e (by simp) (r.append r2) ?_,rfl,q⟩
 rw[agh];omega
def TM:V->List V->Hp->VK->Prop:=λx vs H Q=>∃l xs i k y,x=.ref l/\vs=[.int i]/\H l=ζ (.lst xs)/\-(2^63)<=i/\i<2^63/\seqIndex? i xs.length=ζ k/\xs[k]? = ζ y/\Q y (upd H l (.lst (xs.eraseIdx k)))
theorem Yd:GV X "list.pop" TM:=by
 intro pins s σ H x vs v us Q I rx rv h;obtain⟨l,xs,i,k,y,rfl,rfl,hH,h1,h2,hk,hy,q⟩:=h;cases rx;obtain⟨u,rfl,ru⟩:=rv.one;obtain⟨t,rfl⟩:=ru;obtain⟨z,its,n,r,hl,e⟩:=I.qu hH;obtain⟨w,hw,rw'⟩:=r.get hy;refine ahA F.slot_list_pop ⟨_,e,rfl⟩ F.entry_list_pop (F.args_list_pop_2 _ _)
  (MeetsSeq.list_pop_at l its.toArray n i t k w (fitsIndex_both h1 h2) (by rw[af4,<-hl];exact hk) (by rw[<-ahf];exact hw) (by rw[af4];omega)) ⟨e,?_⟩
 refine⟨y,_,I.D8 (its':=its.eraseIdx k) hH e ?_ (r.eraseIdx k) ?_,rw',q⟩
 ·show its.toArray.eraseIdxIfInBounds k=(its.eraseIdx k).toArray;rw[List.eraseIdxIfInBounds_toArray]
 ·have:=Lp xs k;omega
def T5:R2:=λx y H Q=>∃l b xs zs,x=.ref l/\y=.ref b/\H l=ζ (.lst xs)/\H b=ζ (.lst zs)/\xs.length+zs.length<=Ω/\∀p,H p=η->Q (.ref p) (upd H p (.lst (xs++zs)))
theorem Wo:cE X (binaryOp .Add) T5:=by
 intro pins s σ H x y v u Q I rx ry h;obtain⟨l,b,xs,zs,rfl,rfl,hH,hB,hz,q⟩:=h;cases rx;cases ry;obtain⟨z,its,n,r,hl,e⟩:=I.qu hH;obtain⟨z2,its2,n2,r2,hl2,e2⟩:=I.qu hB;refine PySem.P.add_list e e2 ?_ (by rw[af4,af4];omega)
 have ea:its.toArray++its2.toArray=(its++its2).toArray:=by simp
 rw[ea];exact⟨.ref _,_,I.Lm (t':=s.toks) (r.append r2) (by rw[agh];omega),rfl,q _ I.fresh⟩
def TL:R2:=λx y H Q=>∃l k xs,x=.ref l/\y=.int k/\H l=ζ (.lst xs)/\-(2^63)<=k/\k<2^63/\xs.length*k.toNat<=Ω /\
 ∀p,H p=η->Q (.ref p) (upd H p (.lst (ι k.toNat xs).flatten))
theorem len_rep{α:Type}(xs:List α) (k:Nat):(ι k xs).flatten.length=k*xs.length:=by
 induction k with
 |zero=>simp
 |succ k ih=>rw[agO,ag8,agh,ih,agJ,ahQ]
theorem JU:cE X (binaryOp .Mult) TL:=by
 intro pins s σ H x y v u Q I rx ry h;obtain⟨l,k,xs,rfl,rfl,hH,h1,h2,hz,q⟩:=h;cases rx;obtain⟨t,rfl⟩:=ry;obtain⟨z,its,n,r,hl,e⟩:=I.qu hH;have hlen:its.toArray.size*k.toNat<=Ω:=by rw[af4,<-hl];exact hz
 have hcap:¬its.toArray.size*k.toNat>(2^63-1)/8:=by
  have:(Ω:Nat)<=(2^63-1)/8:=by decide
  omega
 have hfit:¬(!Builtin.List.listFitsIndex k)=Δ:=by
  rw[fitsIndex_both h1 h2];exact agd
 have EF:¬Builtin.List.listTooLong (its.toArray.size*k.toNat)=Δ:=by
  rw[KD hlen];exact agd
 have hnew:List.foldl (λx1 x2=>x1++x2) #[] (ι (if its.toArray.isEmpty=Δ then 0 else k.toNat) its.toArray)=(ι k.toNat its).flatten.toArray:=by
  have f0:∀m:Nat,List.foldl (λx1 x2=>x1++x2) #[] (ι m its.toArray)=(ι m its).flatten.toArray:=λm=>by
   have:=foldl_rep its m [];rw[agf]at this;exact this
  rw[f0];cases its with
  |nil=>simp
  |cons a r'=>rw[if_neg (by simp)]
 refine wpAny_binaryOp_repeat_ref (T:="list") (U:="int") (by decide) ⟨_,e,rfl⟩ (λs'=>typeIs_int s' k t) noFill_list_mul F.fills_int_mul F.slot_int_rmul repeat_list F.slot_int_index.lookup
  (ahA F.slot_int_rmul (typeIs_int s k t) F.entry_int_rmul (F.args_int_rmul_2 _ _) (int___rmul___int_list k t l its.toArray n)
   ⟨e,rfl,⟨_,e,rfl⟩,ahA F.slot_list_mul ⟨_,e,rfl⟩ F.entry_list_mul (F.args_list_mul_2 _ _) (AutoListH.list___mul___list_int_3 l its.toArray n k t hfit hcap EF) ⟨e,?_⟩⟩)
 rw[hnew];exact⟨.ref _,_,I.Lm (t':=s.toks) (r.rep k.toNat) (by rw[len_rep,ahR];exact hz),rfl,q _ I.fresh⟩
end
section
variable {prog:π}{w:χ}{A:ω}{E:Γ->Ψ->Prop}{s:Ψ}
set_option maxRecDepth 100000 in
end
end L2
namespace OC
open PySem PySem.W PySem.Calls PyProof.Rows
theorem Zq{P:Params}{h:υ}:∀(ns:List Int) (vs:List Γ),WellAll P h vs (ns.map WData.int)->aas vs ns:=by
 intro ns
 induction ns with
 |nil =>
  intro vs w;rw[aiU]at w;cases w;exact .nil
 |cons n ns ih =>
  intro vs w;rw[af9]at w;cases w with
  |cons a b =>
   cases a;exact .cons _ _ (ih _ b)
theorem Sj{l:OpenLaw}{n:Nat}(hn:l.most=ζ n) {P:Params}{h:υ}{args:List WData}{vals:List Γ}
  (hpre:l.row.toRowW.claim.pre args=Δ) (hwl:WellAll P h vals args) :
  ∃a vs ns,vals=[Value.ref a]/\args=[WData.list (ns.map WData.int)]/\h.get? a=ζ {cls:=.type "list",data:=.seq vs.toArray}/\aas vs ns/\ns.length<=n:=by
 have hsh:WShape.hasAll [] args [.list .int]=Δ:=(pre_splitW hpre).1;have hc:l.pre.holds [] {args:=args}=Δ:=(pre_splitW hpre).2;obtain⟨d,r,rfl,h1,h2⟩:=hasAllW_cons hsh;obtain rfl:=hasAllW_nil h2;obtain⟨xs,rfl,h3⟩:=hasW_list h1;obtain⟨ns,rfl⟩:=items_int h3;have hlen:ns.length<=n:=by
  unfold OpenLaw.pre at hc;have h4:(WTm.not (.lt (.lit (.int (n:Int))) (.len (.arg 0)))).holds [] {args:=[.list (ns.map .int)]}=Δ:=by
   have h4:=(holds_andW hc).1;rw[hn]at h4;exact h4
  have h5:=condW_of h4 (w_not (w_lt w_lit (w_len_list (w_arg rfl))));rw[afY]at h5;refine ajX λq=>?_
  have q':(n:Int)<((ns.length:Nat):Int):=by omega
  first
   |(rw[decide_eq_true q']at h5;exact absurd h5 (by decide))
   |(simp at h5;omega)
 cases hwl with
 |cons w1 w2 =>
  cases w2;cases w1 with
  |list ho hall=>exact⟨_,_,ns,rfl,rfl,ho,Zq ns _ hall,hlen⟩
theorem US(l:OpenLaw) (args:List WData):l.row.toRowW.claim.post args (.bool Δ) args=Δ :=
 postW_of (r:=l.row.toRowW) (X:=(Δ==Δ))
  (show WShape.has [] (.bool Δ) .bool=Δ by first|rfl|decide|simp[WShape.has,WShape.arms,WShape.armsAll])
  (show(WTm.eq .res (.lit (.bool Δ))).value [] {args:=args,res:=ζ (.bool Δ),after:=args}=ζ (.bool (Δ==Δ))from w_eq_bool (w_res rfl) w_lit) rfl
theorem ac1{l:OpenLaw}{n:Nat}{q:π}{loose:List Str}{XP:(Str->Option Γ)->υ->Prop}{YP:χ->υ->Prop}{d:DefRec}
  (hn:l.most=ζ n) (hdf:d.params.defaults=[])
  (call:∀(w:χ) (s₀ s₁:Ψ) (mg mb:Str->Option Γ) (fa:Ξ) (o:Obj) (pm cd doc:Γ) (a:Ξ) (vs:List Γ) (ns:List Int),
   Ground q loose [] XP w s₀ mg mb s₁.heap->YP w s₁.heap ->
   s₁.heap.get? fa=ζ o->o.data=.func (docDef d.name d.params d.body d.scope pm cd doc)->s₁.heap.CodeRec cd d.name->mg d.name=ζ (.ref fa) ->
   s₁.heap.get? a=ζ {cls:=.type "list",data:=.seq vs.toArray}->aas vs ns->ns.length<=n->s₁.gens=#[] ->
   codeAny (model l.prog w) callerA (.call (.ref fa) ⟨[.ref a],[]⟩) (λr s'=>r=.ok (.ret (.bool Δ))/\OldK s₁.heap s'.heap/\s'.os=s₁.os/\aaz s'.gens) s₁) :
  WalkO q loose XP YP l.row.toRowW d [] (λf vs=>PySem.call f vs):=by
 intro w s₀ s₁ mg mb G Y fa o pm cd doc dV kV ho hd hcd hD hmg hg args vals as hpre hlay hrd hwl hlo;obtain rfl:dV=.none:=Dflts.none hD hdf;obtain rfl:kV=.none:=Dflts.noKw hD;obtain⟨a,vs,ns,rfl,rfl,hobj,hints,hlen⟩:=Sj hn hpre hwl;refine enter_call (ag6 (call w s₀ s₁ mg mb fa o pm cd doc a vs ns G Y ho (fd_plain hd) hcd hmg hobj hints hlen hg) λr s' hq=>?_)
 obtain⟨rfl,h2,h3,h4⟩:=hq;exact⟨.inl ⟨.bool Δ,.bool Δ,[],rfl,λ_=>rfl,.bool Δ,US l _,λ_=>⟨List.Pairwise.nil,λ_ hm=>(nomatch hm)⟩⟩,h2,h3,h4⟩
end OC
namespace L2
open PySem PySem.Spec PyProof.Rows
theorem HC:∀{vs:List Γ}{ns:List Int},aas vs ns->Vals (ns.map V.int) vs
 |_,_,.nil=>.nil
 |_,_,.cons n t h=>.cons ⟨t,rfl⟩ (HC h)
def oO(s:ψ):aax:=match s with
 |.FunctionDef _ a _ _ _ _ _ _ _ _=>a
 |_=>{posonlyargs:=[],args:=[],vararg:=η,kwonlyargs:=[],kw_defaults:=[],kwarg:=η,defaults:=[]}
def i8(s:ψ):List ψ:=match s with
 |.FunctionDef _ _ b _ _ _ _ _ _ _=>b
 |_=>[]
def bE(s:ψ):aaq:=match s with
 |.FunctionDef _ _ _ _ _ _ sc _ _ _=>sc
 |_=>{kind:=.function,names:=[],isGenerator:=Θ,isCoroutine:=Θ}
abbrev bC:pF:=λ_ _ _ _ _ _=>False
abbrev E0:XK:=λ_ _ _=>False
theorem VP{X:Cx}:Passes bC X E0:=λ_ _ _ _ _ _ _ h=>h.elim
structure lC (K:ξ) (x qual:Str) (st:ψ) (f:Ξ) (fd:aag):Prop where
 ex:∃(oc:Γ) (od:Option Ξ) (kV doc pm:Γ) (an:Option Ξ) (cdv ct:Γ) (osl:Array (Option Γ)),
  fd=PySem.W.fnOf x qual (oO st) (i8 st) (bE st) .none kV doc pm an cdv ct/\K.lookup f=ζ ⟨oc,od,.func fd,osl⟩/\PySem.W.codeIn K cdv qual=Δ
 kp:PySem.W.keepIn K (.ref f)=Δ
section
variable {P:π}{w:χ}{K:ξ}{mg:Str->Option Γ}{base:υ}
theorem lC.ok{x qual:Str}{st:ψ}{f:Ξ}{fd:aag}{N ps:List Str}{k:Nat}{sp:Sp}(F:lC K x qual st f fd) (S:cz N ps (bE st)) (len:∀vs H Q E,sp vs H Q E->vs.length=ps.length)
  (hbody:∀(cdv:Γ) (A:ω) (outer:List Env) (s:Ψ) (H:Hp) (vs:List V) (Q:VK) (E:XK),er k (A.deeper (envOfC qual (bE st) s.heap.objs.size f cdv))->sp vs H Q E ->
   ∃t,gW (k8 bC P w K mg base N qual (bE st) f cdv A outer s H E).lQ (i8 st) t/\t {nx:=λ_ H'=>Q .aL H',rt:=Q} (start N vs) H):bL P w K mg base bC (k+1) f fd ps sp:=by
 obtain⟨oc,od,kV,doc,pm,an,cdv,ct,osl,rfl,lk,hcd⟩:=F.ex;refine MV lk hcd S len λA outer s H vs Q E hr kT=>?_
 obtain⟨t,h,q⟩:=hbody cdv A outer s H vs Q E hr kT;exact⟨t,h.lQ,q⟩
theorem lC.binds{x qual:Str}{st:ψ}{f:Ξ}{fd:aag}{ps:List Str}(F:lC K x qual st f fd)
  (h:∀(kV doc pm:Γ) (an:Option Ξ) (cdv ct:Γ) (us:List Γ),us.length=ps.length->bindArgs (PySem.W.fnOf x qual (oO st) (i8 st) (bE st) .none kV doc pm an cdv ct) ⟨us,[]⟩=pure (ps.zip us)):Binds K fd ps []:=by
 obtain⟨oc,od,kV,doc,pm,an,cdv,ct,osl,rfl,lk,hcd⟩:=F.ex;exact .all (h kV doc pm an cdv ct)
theorem aaU{x qual:Str}{st:ψ}{f:Ξ}{oc:Γ}{od an:Option Ξ}{osl:Array (Option Γ)}{kV doc pm cdv ct:Γ}(l:K.lookup f=ζ ⟨oc,od,.func (PySem.W.fnOf x qual (oO st) (i8 st) (bE st) .none kV doc pm an cdv ct),osl⟩)
  (c:PySem.W.codeIn K cdv qual=Δ) (k:PySem.W.keepIn K (.ref f)=Δ):lC K x qual st f (PySem.W.fnOf x qual (oO st) (i8 st) (bE st) .none kV doc pm an cdv ct):=⟨⟨oc,od,kV,doc,pm,an,cdv,ct,osl,rfl,l,c⟩,k⟩
end
theorem nN{A B:Prop}(h:B):if Θ=Δ then A else B:=by
 rw[if_neg agd];exact h
theorem nM{A B:Prop}(h:A):if Δ=Δ then A else B:=by
 rw[if_pos rfl];exact h
def gv(X:Cx) (N':List Str) (scope:aaq) (cl:List (Str×Ξ)) (C:Ξ) (s₀:Ψ) (H₀:Hp) (ex:List Ξ) (pn:List (Ξ×Obj)):Cx where
 prog:=X.prog
 w:=X.w
 K:=X.K
 mg:=X.mg
 base:=X.base
 A:=X.A
 N:=N'
 s₀:=s₀
 H₀:=H₀
 env:=compEnvC scope cl C X.env
 outer:=X.stack
 stack:=X.stack
 ex:=ex
 fn:=λx=>scope.names.lookup x==ζ NameKind.cell
 calm:=X.calm
 pn:=pn
 xe:=λ_ _=>False
structure cN (X:Cx) (N':List Str) (pick:List (Option Nat)) (scope:aaq):Prop where
 kind:scope.kind=.function
 nd:N'.Nodup
 names:∀x∈scope.names,x.2=.local->scope.names.lookup x.1=ζ .local
 uniq:(scope.names.map (·.1)).Nodup
 len:pick.length=N'.length
 got:∀(i j:Nat) (x:Str),pick[i]? = ζ (ζ j)->N'[i]? = ζ x->scope.names.lookup x=ζ .free/\X.N[j]? = ζ x
 free:∀x∈scope.names,x.2=.free->X.env.kindOf x.1=ζ .cell\/X.env.kindOf x.1=ζ .free
def lI(pick:List (Option Nat)) (σ:St):St:=pick.map λo=>o.bind λj=>(σ[j]?).bind id
def rW(X:Cx) (ifs:List ν) (t:TT):Prop :=
 ∀(pins:List (Ξ×Obj)) (s:Ψ) (σ:St) (H:Hp) (Q:Bool->Hp->Prop),Inv X pins σ H s->t σ H Q ->
  wpAny (model X.prog X.w) X.A (forIn ifs Δ λc r=>if r=Δ then do let ok <-isTrue c X.env (eval c X.env);pure (ForInStep.yield ok)else pure (ForInStep.yield r)) (TP X pins σ Q) X.xe s
def QD:TT:=λ_ H Q=>Q Δ H
theorem U1{X:Cx}:rW X [] QD:=λpins s σ H Q I h=>wpAny_tests_nil ⟨H,I,h⟩
theorem U0{X:Cx}{c:ν}{t:TT}(h:PT X c t):rW X [c] t:=λpins s σ H Q I q=>wpAny_tests_one (h pins s σ H Q I q)
def Oz(J:It) (g:TG) (tt:TT) (te:TE) (Q:VK) (σ:St) (H:Hp):Prop:=∃W:Nat->Nat->St->List V->Hp->Prop,(∃m,W 0 m σ [] H) /\
  ∀i m σ' ys H,W i m σ' ys H->ys.length<Ω /\
    ((J.stop i H/\∀p,H p=η->Q (.ref p) (upd H p (.lst ys))) \/
     (J.go i H/\∃N:St->List V->Hp->Prop,(∀σ2 zs H2,N σ2 zs H2->∃m',m'<m/\W (i+1) m' σ2 zs H2)/\∀x H',J.uP i H x H'->g x σ' H' λσ2 H2=>tt σ2 H2 λb H3 =>
        if b=Δ then te σ2 H3 λy H4=>N σ2 (ys++[y]) H4 else N σ2 ys H3))
def BU(wi:TI) (pick:List (Option Nat)) (g:TG) (tt:TT) (te:TE):TE:=λσ H Q=>wi σ H λJ H1=>Oz J g tt te Q (lI pick σ) H1
def gw(env:Env):List (Str×aab)->List (Str×Ξ)->List (Str×Ξ)
 |[],acc=>acc
 |(n,k)::r,acc=>gw env r (if(k==NameKind.free)=Δ then(n,(env.cells.lookup n).getD 0)::acc else acc)
theorem Ba{env:Env}:∀(names:List (Str×aab)) (acc:List (Str×Ξ)),(∀x∈names,x.2=.free->∃c,env.cells.lookup x.1=ζ c) ->
  (forIn names acc fun(x:Str×aab) cs=>(if(x.2==NameKind.free)=Δ then do let a <-cellOf env x.1;pure (ForInStep.yield ((x.1,a)::cs))else pure (ForInStep.yield cs):Sem (ForInStep (List (Str×Ξ)))))=pure (gw env names acc)
 |[],acc,_=>rfl
 |(n,k)::r,acc,h=>by
  rw[aiV]
  by_cases hk:(k==NameKind.free)=Δ
  ·obtain⟨c,hc⟩:=h (n,k) agw (by simpa using hk)
   have e1:cellOf env n=pure c:=by unfold cellOf;rw[show env.cells.lookup n=ζ c from hc]
   simp only[hk,if_true,e1,pure_bind];rw[Ba r _ λx hx=>h x (agk _ hx)]
   show _=pure (gw env r (if(k==NameKind.free)=Δ then _ else _))
   rw[if_pos hk,show env.cells.lookup n=ζ c from hc]
   rfl
  ·simp only[hk,agU,if_false,pure_bind];rw[Ba r _ λx hx=>h x (agk _ hx)]
   show _=pure (gw env r (if(k==NameKind.free)=Δ then _ else _))
   rw[if_neg hk]
theorem FI{env:Env}{x:Str}{c:Ξ}:∀(names:List (Str×aab)) (acc:List (Str×Ξ)),(gw env names acc).lookup x=ζ c ->
  ((x,NameKind.free)∈names/\c=(env.cells.lookup x).getD 0)\/acc.lookup x=ζ c
 |[],acc,h=>.inr h
 |(n,k)::r,acc,h=>by
  unfold gw at h
  rcases FI r _ h with⟨a,b⟩|q
  ·exact .inl ⟨agk _ a,b⟩
  ·by_cases hk:(k==NameKind.free)=Δ
   ·rw[if_pos hk,ags]at q;cases hx:x==n with
    |true =>
     rw[hx]at q;have e1:x=n:=by simpa using hx
     have e2:k=.free:=by simpa using hk
     subst e1;subst e2;exact .inl ⟨agw,(agc q).symm⟩
    |false=>rw[hx]at q;exact .inr q
   ·rw[if_neg hk]at q;exact .inr q
theorem FJ{env:Env}{x:Str}:∀(names:List (Str×aab)) (acc:List (Str×Ξ)),(acc.lookup x).isSome=Δ\/(x,NameKind.free)∈names->((gw env names acc).lookup x).isSome=Δ
 |[],acc,h=>h.elim id λz=>by cases z
 |(n,k)::r,acc,h=>by
  unfold gw;refine FJ r _ ?_
  by_cases hk:(k==NameKind.free)=Δ
  ·rw[if_pos hk,ags];cases hx:x==n with
   |true=>exact .inl rfl
   |false =>
    refine h.imp id λz=>?_
    rcases afT.mp z with e|z
    ·exact absurd (show(x==n)=Δ by cases e;simp) (by rw[hx];simp)
    ·exact z
  ·rw[if_neg hk];refine h.imp id λz=>?_
   rcases afT.mp z with e|z
   ·exact absurd (show(k==NameKind.free)=Δ by cases e;rfl) hk
   ·exact z
theorem Fg{x:Str}{c:Ξ}:∀(names:List (Str×aab)) (n:Nat) (acc:List (Str×Ξ)),(cellsFrom n names acc).lookup x=ζ c->(n<=c/\(x,NameKind.cell)∈names)\/acc.lookup x=ζ c
 |[],_,_,h=>.inr h
 |(y,k)::r,n,acc,h=>by
  unfold cellsFrom at h
  by_cases hk:(k==NameKind.cell)=Δ
  ·rw[if_pos hk]at h
   rcases Fg r _ _ h with⟨a,b⟩|q
   ·exact .inl ⟨agg (ahz _) a,agk _ b⟩
   ·rw[ags]at q;cases hx:x==y with
    |true =>
     rw[hx]at q;have e1:x=y:=by simpa using hx
     have e2:k=.cell:=by simpa using hk
     subst e1;subst e2;exact .inl ⟨ag9 (agc q),agw⟩
    |false=>rw[hx]at q;exact .inr q
  ·rw[if_neg hk]at h
   rcases Fg r _ _ h with⟨a,b⟩|q
   ·exact .inl ⟨a,agk _ b⟩
   ·exact .inr q
theorem Ff:∀(names:List (Str×aab)) (n:Nat) (acc:List (Str×Ξ)),(∀x y c,acc.lookup x=ζ c->acc.lookup y=ζ c->x=y)->(∀x c,acc.lookup x=ζ c->c<n) ->
  ∀x y c,(cellsFrom n names acc).lookup x=ζ c->(cellsFrom n names acc).lookup y=ζ c->x=y
 |[],_,_,hi,_,x,y,c,h1,h2=>hi x y c h1 h2
 |(z,k)::r,n,acc,hi,hl,x,y,c,h1,h2=>by
  unfold cellsFrom at h1 h2
  by_cases hk:(k==NameKind.cell)=Δ
  ·rw[if_pos hk]at h1 h2;refine Ff r (n+1) ((z,n)::acc) (λx y c e1 e2=>?_) (λx c e=>?_) x y c h1 h2
   ·rw[ags]at e1 e2;cases hx:x==z with
    |true =>
     rw[hx]at e1;cases hy:y==z with
     |true=>exact(by simpa using hx:x=z).trans (by simpa using hy:y=z).symm
     |false =>
      rw[hy]at e2;have e3:n=c:=agc e1;exact absurd (e3▸hl y c e2) (agB _)
    |false =>
     rw[hx]at e1;cases hy:y==z with
     |true =>
      rw[hy]at e2;have e3:n=c:=agc e2;exact absurd (e3▸hl x c e1) (agB _)
     |false=>rw[hy]at e2;exact hi x y c e1 e2
   ·rw[ags]at e;cases hx:x==z with
    |true=>rw[hx]at e;have e3:n=c:=agc e;exact e3▸agY n
    |false=>rw[hx]at e;exact ahB (hl x c e)
  ·rw[if_neg hk]at h1 h2;exact Ff r n acc hi hl x y c h1 h2
theorem Fi{x:Str}{c:Ξ}:∀(names:List (Str×aab)) (h:υ) (acc:List (Str×Ξ)),(cellsFrom h.objs.size names acc).lookup x=ζ c->acc.lookup x=ζ c\/(h.objs.size<=c/\(pushCells h names).IsCell c η)
 |[],_,_,e=>.inl e
 |(y,k)::r,h,acc,e=>by
  unfold cellsFrom at e;unfold pushCells
  by_cases hk:(k==NameKind.cell)=Δ
  ·rw[if_pos hk]at e ⊢;have e':=e;rw[show h.objs.size+1=(h.push {cls:=.type "cell",data:=.cell η}).objs.size from(agt ..).symm]at e'
   rcases Fi r _ _ e' with q|⟨a,q⟩
   ·rw[ags]at q;cases hx:x==y with
    |true =>
     rw[hx]at q;have e3:h.objs.size=c:=agc q;subst e3;exact .inr ⟨afQ _,_,aiW _ _ _ _ (af3 _ rfl),rfl⟩
    |false=>rw[hx]at q;exact .inl q
   ·refine .inr ⟨?_,q⟩;rw[agt]at a;omega
  ·rw[if_neg hk]at e ⊢;exact Fi r h acc e
theorem O9{M:Model}{A:ω}{E:Γ->Ψ->Prop}{s:Ψ}{scope:aaq}{globals:Ξ}{cl:List (Str×Ξ)}{qual:Str}{env:Env}{Q:Env->Ψ->Prop}
  (hQ:∀h',(∀b o,s.heap.get? b=ζ o->h'.get? b=ζ o)->h'.Ns s.heap.objs.size (λ_=>η) ->
   (∀x c,(cellsFrom (s.heap.objs.size+1) scope.names cl).lookup x=ζ c->cl.lookup x=ζ c\/(s.heap.objs.size<c/\h'.IsCell c η)) ->
   Q {scope,locals:=s.heap.objs.size,globals,cells:=cellsFrom (s.heap.objs.size+1) scope.names cl,qual,func:=η,code:=env.code,frame:=env.frame,builtins:=env.builtins} {s with heap:=h'}) :
  wpAny M A (newFunctionEnv scope globals cl [] qual η .none (ζ env)) Q E s:=by
 simp only[newFunctionEnv,Option.isSome_some,if_true];refine afO (wpAny_alloc ?_);refine afO (wpAny_layCells _ (λname kind cells=>by cases hkc:kind==NameKind.cell<;>simp[hkc]) _ _ _ _ ?_)
 rw[show({s with heap:=s.heap.push {cls:=.type "dict",data:=.dict #[]} }:Ψ).heap.objs.size=s.heap.objs.size+1 from agt ..]
 refine afO (afP (afP ?_));refine hQ _ (λb o e=>aiW _ _ b o (afS _ e)) ((Heap.Ns.new s.heap (.type "dict")).keeps (aiW _ _)) λx c e=>?_
 have e':=e;rw[show s.heap.objs.size+1=(s.heap.push {cls:=.type "dict",data:=.dict #[]}).objs.size from(agt ..).symm]at e'
 rcases Fi scope.names (s.heap.push {cls:=.type "dict",data:=.dict #[]}) cl e' with q|⟨a,q⟩
 ·exact .inl q
 ·refine .inr ⟨?_,q⟩;rw[agt]at a;omega
theorem yL{env:Env}{x:Str}{k':aab}:∀{names:List (Str×aab)},(names.map fun(n,k)=>if(k==NameKind.free&&env.scope.kind == .function&&env.kindOf n==ζ .cell)then(n,NameKind.cell)else(n,k)).lookup x=ζ k' ->
  ∃k,names.lookup x=ζ k/\(k'=k\/(k=.free/\k'=.cell))
 |[],h=>by cases h
 |(n,k)::r,h=>by
  rw[af9]at h
  by_cases hc:(k==NameKind.free&&env.scope.kind == .function&&env.kindOf n==ζ .cell)=Δ
  ·have e:(match((n,k):Str×aab)with|(n,k)=>if(k==NameKind.free&&env.scope.kind == .function&&env.kindOf n==ζ .cell)then(n,NameKind.cell)else(n,k))=(n,NameKind.cell):=if_pos hc
   rw[e,ags]at h;rw[ags];cases hx:x==n with
   |true =>
    rw[hx]at h;have hk:k=.free:=by
     simp only[af1]at hc
     simpa using hc.1.1
    exact⟨k,rfl,.inr ⟨hk,(agc h).symm⟩⟩
   |false=>rw[hx]at h;exact yL h
  ·have e:(match((n,k):Str×aab)with|(n,k)=>if(k==NameKind.free&&env.scope.kind == .function&&env.kindOf n==ζ .cell)then(n,NameKind.cell)else(n,k))=(n,k):=if_neg hc
   rw[e,ags]at h;rw[ags];cases hx:x==n with
   |true=>rw[hx]at h;exact⟨k,rfl,.inl (agc h).symm⟩
   |false=>rw[hx]at h;exact yL h
theorem De{env:Env}{x:Str}{k:aab}:∀{names:List (Str×aab)},names.lookup x=ζ k ->
  ∃k',(names.map fun(n,k)=>if(k==NameKind.free&&env.scope.kind == .function&&env.kindOf n==ζ .cell)then(n,NameKind.cell)else(n,k)).lookup x=ζ k'/\(k'=k\/(k=.free/\k'=.cell))
 |[],h=>by cases h
 |(n,j)::r,h=>by
  rw[af9];rw[ags]at h
  by_cases hc:(j==NameKind.free&&env.scope.kind == .function&&env.kindOf n==ζ .cell)=Δ
  ·have e:(match((n,j):Str×aab)with|(n,k)=>if(k==NameKind.free&&env.scope.kind == .function&&env.kindOf n==ζ .cell)then(n,NameKind.cell)else(n,k))=(n,NameKind.cell):=if_pos hc
   rw[e,ags];cases hx:x==n with
   |true =>
    rw[hx]at h;have hk:j=.free:=by
     simp only[af1]at hc
     simpa using hc.1.1
    exact⟨.cell,rfl,.inr ⟨(agc h).symm.trans hk,rfl⟩⟩
   |false=>rw[hx]at h;exact De h
  ·have e:(match((n,j):Str×aab)with|(n,k)=>if(k==NameKind.free&&env.scope.kind == .function&&env.kindOf n==ζ .cell)then(n,NameKind.cell)else(n,k))=(n,j):=if_neg hc
   rw[e,ags];cases hx:x==n with
   |true=>rw[hx]at h;exact⟨j,rfl,.inl (agc h)⟩
   |false=>rw[hx]at h;exact De h
theorem D9{x:Str}{k:aab}:∀{names:List (Str×aab)},(names.map (·.1)).Nodup->(x,k)∈names->names.lookup x=ζ k
 |[],_,h=>by cases h
 |(n,j)::r,nd,h=>by
  have nd:(n::r.map (·.1)).Nodup:=nd;obtain⟨n1,n2⟩:=agX.mp nd;rw[ags]
  rcases afT.mp h with e|h2
  ·cases e;simp
  ·have hx:(x==n)=Θ:=by
    have:x≠n:=by
     intro e;exact n1 (afW.mpr ⟨(x,k),h2,e⟩)
    simpa using this
   rw[hx];exact D9 n2 h2
theorem ace{prog:π}{w:χ}{A:ω}{R:Result->Ψ->Prop}{s:Ψ}{elt target iter:ν}{ifs:List ν}{scope:aaq}{pos:Pos}{it acc:Γ}{env:Env}(I:Nat->Ψ->Prop)
  (turn:∀n s,I n s->wpAny (model prog w) A (pyNext it) (λr s₁=>match r with
   |none=>R (.ok .next) s₁
   |some v=>wpAny (model prog w) A (letOwnedTupleGo target it v) (λ_ s₁'=>wpAny (model prog w) A (assign target env v) (λ_ s₂ =>
     wpAny (model prog w) A (forIn ifs Δ λc r=>if r=Δ then do let ok <-isTrue c env (eval c env);pure (ForInStep.yield ok)else pure (ForInStep.yield r)) (λok s₃ =>
      if ok=Δ then wpAny (model prog w) A (eval elt env) (λx s₄ =>
       wpAny (model prog w) A (call (.builtin "list.append") [acc,x]) (λ_ s₅=>∃m,m<n/\I m s₅) (λ_ _=>False) s₄) (λ_ _=>False) s₃
      else ∃m,m<n/\I m s₃) (λ_ _=>False) s₂) (λ_ _=>False) s₁') (λ_ _=>False) s₁) (λ_ _=>False) s)
  (n:Nat) (h:I n s) :
  codeAny (model prog w) A (.compLoop (.ListComp elt [⟨target,iter,ifs,0⟩] scope pos) 0 it acc env) R s:=by
 refine codeAny_loop rfl I (λn s hI=>?_) n h
 show wpAny _ A ((compTurn (.ListComp elt [⟨target,iter,ifs,0⟩] scope pos) 0 it acc env).onRaise (λx=>do noteFrame x env;theTreesLotGoes x)) _ _ s
 refine wpAny_noted ?_;rw[compTurn_list];refine afO (aiN (afO (agq (turn n s hI) (λr s₁ h₁=>?_) λ_ _ h'=>h'.elim)))
 cases r with
 |none=>exact afP h₁
 |some v =>
  refine afO (agq h₁ (λ_ s₁' h₁'=>?_) λ_ _ h'=>h'.elim)
  refine afO (agq h₁' (λ_ s₂ h₂=>afO (agq h₂ (λok s₃ h₃=>?_) λ_ _ h'=>h'.elim)) λ_ _ h'=>h'.elim)
  cases ok with
  |false=>exact afP ⟨rfl,h₃⟩
  |true =>
   exact afO (afO (agq h₃ (λx s₄ h₄=>afO (agq h₄ (λ_ s₅ h₅=>afP (afP ⟨rfl,h₅⟩)) λ_ _ h'=>h'.elim)) λ_ _ h'=>h'.elim))
section
variable {X:Cx}{N':List Str}{pick:List (Option Nat)}{scope:aaq}{pins:List (Ξ×Obj)}{σ:St}{H₂:Hp}{s₂:Ψ}{tg:ν}{J:It}{fp:List Ξ}{it:Ξ}{tn:Nat->υ->Prop}
theorem NL(S:cN X N' pick scope) (I:Inv X pins σ H₂ s₂):closureFor scope X.env=pure (gw X.env scope.names []):=by
 have e:=Ba (env:=X.env) scope.names [] λx hx hk=>I.ok.has x.1 (S.free x hx hk)
 show((forIn scope.names ([]:List (Str×Ξ)) fun(x:Str×aab) cs=>(if(x.2==NameKind.free)=Δ then do let a <-cellOf X.env x.1;pure (ForInStep.yield ((x.1,a)::cs))else pure (ForInStep.yield cs):Sem (ForInStep (List (Str×Ξ))))) >>= λcs=>pure cs)=_
 rw[e,pure_bind]
theorem wZ(S:cN X N' pick scope) (I:Inv X pins σ H₂ s₂) {x:Str}{c:Ξ}(h:(gw X.env scope.names []).lookup x=ζ c):(x,NameKind.free)∈scope.names/\X.env.cells.lookup x=ζ c:=by
 rcases FI _ _ h with⟨a,b⟩|q
 ·refine⟨a,?_⟩;obtain⟨c',hc⟩:=I.ok.has x (S.free _ a rfl);rw[hc]at b ⊢;rw[b];rfl
 ·cases q
theorem wX(S:cN X N' pick scope) (I:Inv X pins σ H₂ s₂) {n:Nat}{x:Str}{c:Ξ}(h:(cellsFrom n scope.names (gw X.env scope.names [])).lookup x=ζ c) :
  (n<=c/\scope.names.lookup x=ζ .cell)\/(scope.names.lookup x=ζ .free/\X.env.cells.lookup x=ζ c):=by
 rcases Fg _ _ _ h with⟨a,b⟩|q
 ·exact .inl ⟨a,D9 S.uniq b⟩
 ·obtain⟨a,b⟩:=wZ S I q;exact .inr ⟨D9 S.uniq a,b⟩
theorem NQ(S:cN X N' pick scope) (I:Inv X pins σ H₂ s₂) {n:Nat}{x:Str}{c:Ξ}(hx:scope.names.lookup x=ζ .free) (hc:X.env.cells.lookup x=ζ c) :
  (cellsFrom n scope.names (gw X.env scope.names [])).lookup x=ζ c:=by
 have h1:((gw X.env scope.names []).lookup x).isSome=Δ:=FJ _ _ (.inr (agT hx));obtain⟨c',h2⟩:=aii.mp (aih scope.names n _ (.inr h1))
 rcases wX S I h2 with⟨_,z⟩|⟨_,z⟩
 ·rw[hx]at z;cases z
 ·rw[hc]at z;cases z;exact h2
theorem aaZ(I:Inv X pins σ H₂ s₂) {b:Ξ}(hb:b∈frs X.stack):b<s₂.heap.objs.size:=by
 rcases afT.mp (I.pM b hb)with e|hb
 ·rw[e];exact I.lt
 ·by_cases q:b<s₂.heap.objs.size
  ·exact q
  ·exact absurd hb (I.DH (Nat.not_lt.mp q))
theorem ab6(S:cN X N' pick scope) (I:Inv X pins σ H₂ s₂) (hf:∀b∈fp,g8 X pins H₂ b) (hfo:∀b∈fp,b<s₂.heap.objs.size) {n:Nat}{C:Ξ}{s₄:Ψ}(hn:s₂.heap.objs.size<=n) (hC:s₂.heap.objs.size<=C) (hCn:C<n)
  (hos:s₄.os=s₂.os) (hge:s₄.gens=s₂.gens) (kp:∀b o,s₂.heap.get? b=ζ o->s₄.heap.get? b=ζ o) (ns:s₄.heap.Ns C λ_=>η)
  (ce:∀x c,(cellsFrom n scope.names (gw X.env scope.names [])).lookup x=ζ c->(gw X.env scope.names []).lookup x=ζ c\/(n<=c/\s₄.heap.IsCell c η)) :
  Inv (gv X N' scope (cellsFrom n scope.names (gw X.env scope.names [])) C s₂ H₂ fp (X.pn++pins)) [] (lI pick σ) H₂ s₄:=by
 have fr:∀{a:Ξ},s₂.heap.objs.size<=a->H₂ a=η:=λh=>I.hok.fresh h
 have old:∀{x:Str}{c:Ξ},X.env.cells.lookup x=ζ c->c<s₂.heap.objs.size:=fun{x c} e=>let⟨v,z⟩:=I.cell x c e;z.lt
 have UT:∀p∈X.pn++pins,p.1<s₂.heap.objs.size:=λp hp=>afU (I.pin p hp).1
 refine⟨⟨I.ok.mod,S.kind,I.ok.glob,I.ok.blt,hC,?inj,?has,?oZ,I.ok.hd,I.ok.frames,.inl rfl,?wL,I.bs,agg I.ok.jb I.sz,?lR,?ur,I.stack,I.BW⟩,
  hos,by rw[hge];exact I.bare,Un.kept kp,⟨_,ns,?loc⟩,?cell,fr hC,?jo,?pin,I.hok.kept kp,?len⟩
 case inj =>
  refine Ff _ _ _ (λx y c h1 h2=>?_) λx c h=>?_
  ·exact I.ok.inj x y c (wZ S I h1).2 (wZ S I h2).2
  ·exact af2 (old (wZ S I h).2) hn
 case has =>
  intro x hx;have hx:(relabel scope X.env).names.lookup x=ζ .cell\/(relabel scope X.env).names.lookup x=ζ .free:=hx;have go:∀k,scope.names.lookup x=ζ k->k=.cell\/k=.free->∃c,(cellsFrom n scope.names (gw X.env scope.names [])).lookup x=ζ c:=λk hk hq=>by
   rcases hq with rfl|rfl
   ·exact aii.mp (aih _ _ _ (.inl hk))
   ·obtain⟨c,hc⟩:=I.ok.has x (S.free _ (agT hk) rfl);exact⟨c,NQ S I hk hc⟩
  rcases hx with hx|hx
  ·obtain⟨k,hk,e|⟨e,_⟩⟩:=yL hx
   ·exact go k hk (.inl e.symm)
   ·exact go k hk (.inr e)
  ·obtain⟨k,hk,e|⟨_,e⟩⟩:=yL hx
   ·exact go k hk (.inr e.symm)
   ·cases e
 case oZ =>
  intro x c hx hc;have hx:scope.names.lookup x=ζ .cell:=by simpa[gv]using hx
  rcases wX S I hc with⟨a,_⟩|⟨a,_⟩
  ·exact agg hn a
  ·rw[hx]at a;cases a
 case wL =>
  intro b hb;refine⟨afZ (af2 (hfo b hb) hC),λx c hc=>?_⟩
  rcases wX S I hc with⟨a,_⟩|⟨_,a⟩
  ·exact agH (af2 (hfo b hb) (agg hn a))
  ·exact(hf b hb).2.2.2.2.1 x c a
 case lR =>
  intro b o e hb
  rcases(hf b hb).2.2.2.1 with z|z
  ·exact I.ok.lR b o e z
  ·exact absurd (af2 (afU e) (agg I.ok.jb z)) (agB _)
 case ur =>
  intro b hb hs
  rcases afT.mp (I.pM b hs)with e|e
  ·exact(hf b hb).2.1 e
  ·exact(hf b hb).2.2.1 e
 case loc =>
  intro i x v h1 h2 h3;have h1:N'[i]? = ζ x:=h1;have hp:∃j,pick[i]? = ζ (ζ j)/\σ[j]? = ζ (ζ v):=by
   unfold lI at h2;rw[af6]at h2;cases e:pick[i]? with
   |none=>rw[e]at h2;cases h2
   |some o =>
    rw[e]at h2;cases o with
    |none=>cases h2
    |some j =>
     refine⟨j,rfl,?_⟩;have h2':(σ[j]?).bind id=ζ v:=agc h2;cases e2:σ[j]? with
     |none=>rw[e2]at h2';cases h2'
     |some q=>rw[e2]at h2';exact congrArg ζ h2'
  obtain⟨j,hj,hv⟩:=hp;obtain⟨hfr,hN⟩:=S.got i j x hj h1;have hk:=S.free _ (agT hfr) rfl;obtain⟨m,hm,hl⟩:=I.loc;obtain⟨u,ru,lk⟩:=hl j x v hN hv (.inr hk);refine⟨u,ru,?_⟩
  rcases lk with⟨z,_⟩|⟨_,c,hc,hcell⟩
  ·rcases hk with q|q<;>(rw[show X.env.kindOf x=_ from z]at q;cases q)
  ·refine .inr ⟨?_,c,NQ S I hfr hc,hcell.keeps kp⟩;show(relabel scope X.env).names.lookup x=ζ .cell\/(relabel scope X.env).names.lookup x=ζ .free;obtain⟨k',hk',e|⟨_,e⟩⟩:=De (env:=X.env) hfr
   ·exact .inr (by rw[<-e];exact hk')
   ·exact .inl (by rw[<-e];exact hk')
 case cell =>
  intro x c hc
  rcases ce x c hc with z|⟨_,z⟩
  ·obtain⟨v,q⟩:=I.cell x c (wZ S I z).2;exact⟨v,q.keeps kp⟩
  ·exact⟨η,z⟩
 case jo =>
  intro x c hc
  rcases wX S I hc with⟨a,_⟩|⟨_,a⟩
  ·exact fr (agg hn a)
  ·exact I.jo x c a
 case pin =>
  intro p hp;have hp:p∈X.pn++pins:=by simpa[gv]using hp
  obtain⟨e,n0,ne,nf,d⟩:=I.pin p hp;refine⟨kp _ _ e,n0,afZ (af2 (UT p hp) hC),λz=>?_,d⟩
  rcases afT.mp (I.pM _ z)with e|e
  ·exact ne e
  ·exact nf e
 case len =>
  unfold lI;rw[afY];exact S.len
end
section
variable {X:Cx}{N':List Str}{pick:List (Option Nat)}{scope:aaq}{pins:List (Ξ×Obj)}{σ:St}{H₂:Hp}{s₂:Ψ}{tg:ν}{J:It}{fp:List Ξ}{it:Ξ}{tn:Nat->υ->Prop}
 {elt iter:ν}{ifs:List ν}{pos:Pos}{g:TG}{tt:TT}{te:TE}
theorem NC{E:Γ->Ψ->Prop}{RR:Γ->Ξ->Result->Ψ->Prop}{Qv:V->Hp->Prop}(S:cN X N' pick scope) (hc:X.calm=Δ) (jx:Inv X pins σ H₂ s₂) (T:Turn X.prog X.w X.K tg J fp it tn) (st:tn 0 s₂.heap) (hf:∀b∈fp,g8 X pins H₂ b)
    (hg:∀cl C s₀ H₀ ex pn,PG (gv X N' scope cl C s₀ H₀ ex pn) tg g) (hi:∀cl C s₀ H₀ ex pn,rW (gv X N' scope cl C s₀ H₀ ex pn) ifs tt) (he:∀cl C s₀ H₀ ex pn,PE (gv X N' scope cl C s₀ H₀ ex pn) elt te)
    {W:Nat->Nat->St->List V->Hp->Prop}{m0:Nat}(h0:W 0 m0 (lI pick σ) [] H₂)
    (turn:∀i m σ' ys H,W i m σ' ys H->ys.length<Ω /\
      ((J.stop i H/\∀p,H p=η->Qv (.ref p) (upd H p (.lst ys))) \/
       (J.go i H/\∃N:St->List V->Hp->Prop,(∀σ2 zs H2,N σ2 zs H2->∃m',m'<m/\W (i+1) m' σ2 zs H2)/\∀x H',J.uP i H x H'->g x σ' H' λσ2 H2=>tt σ2 H2 λb H3 =>
          if b=Δ then te σ2 H3 λy H4=>N σ2 (ys++[y]) H4 else N σ2 ys H3)))
    (fin:∀(D C:Ξ) (H':Hp) (s':Ψ) (m:Str->Option Γ),Inv X pins σ H' s'->g8 X pins H' C->s'.heap.Ns C m->Qv (.ref D) H'->RR (.ref D) C (.ok .next) s') :
    wpAny (model X.prog X.w) X.A (newList []) (λacc s₃=>wpAny (model X.prog X.w) X.A (newFunctionEnv scope X.env.globals (gw X.env scope.names []) [] X.env.qual η .none (ζ X.env)) (λcenv s₄ =>
      codeAny (model X.prog X.w) X.A (.compStart (.ListComp elt [⟨tg,iter,ifs,0⟩] scope pos) 0 (.ref it) acc {cenv with scope:=relabel scope X.env}) (RR acc cenv.locals) s₄) E s₃) E s₂:=by
  have hfo:∀b∈fp,b<s₂.heap.objs.size:=λb hb=>let⟨o,e,_⟩:=T.obj 0 _ st b hb;afU e
  refine ahC (O9 λh₄ kp ns ce=>?_)
  generalize EO:s₂.heap.push {cls:=.type "list",dict:=η,data:=.seq ([]:List Γ).toArray}=H3 at kp ns ce ⊢
  have hC:H3.objs.size=s₂.heap.objs.size+1:=by rw[<-EO,agt]
  have wk:∀b o,s₂.heap.get? b=ζ o->h₄.get? b=ζ o:=λb o e=>kp b o (EO▸afS _ e)
  have hD:h₄.get? s₂.heap.objs.size=ζ {cls:=.type "list",data:=.seq ([]:List Γ).toArray}:=kp _ _ (EO▸af3 _ rfl);have nX:s₂.heap.objs.size<=H3.objs.size:=by rw[hC];exact ahz _
  have hDC:s₂.heap.objs.size≠H3.objs.size:=by rw[hC];exact afZ (agY _)
  generalize hcl:cellsFrom (H3.objs.size+1) scope.names (gw X.env scope.names [])=cl at ce
  have GX:Inv (gv X N' scope cl H3.objs.size s₂ H₂ fp (X.pn++pins)) [] (lI pick σ) H₂ {s₂ with heap:=h₄}:=by
    subst hcl;exact ab6 S jx hf hfo (n:=H3.objs.size+1) (agg nX (ahz _)) nX (agY _) rfl rfl wk ns λx c e=>ce x c e
  have EK:∀x c,cl.lookup x=ζ c->c≠s₂.heap.objs.size:=λx c e=>by
    subst hcl
    rcases wX S jx e with⟨a,_⟩|⟨_,a⟩
    · refine agH (af2 ?_ a)
      rw[hC];exact ahB (agY _)
    · obtain⟨v,z⟩:=jx.cell x c a
      exact afZ z.lt
  have aao:∀x c,X.env.cells.lookup x=ζ c->c≠H3.objs.size:=λx c e=>by
    obtain⟨v,z⟩:=jx.cell x c e;exact afZ (af2 z.lt nX)
  generalize gZ:gv X N' scope cl H3.objs.size s₂ H₂ fp (X.pn++pins)=X' at GX
  have x6:X'.prog=X.prog:=by subst gZ;rfl
  have xw:X'.w=X.w:=by subst gZ;rfl
  have xK:X'.K=X.K:=by subst gZ;rfl
  have xA:X'.A=X.A:=by subst gZ;rfl
  have Hg:X'.calm=Δ:=by subst gZ;exact hc
  have x8:X'.env.locals=H3.objs.size:=by subst gZ;rfl
  have OO:X'.env.cells=cl:=by subst gZ;rfl
  have ON:X'.env=compEnvC scope cl H3.objs.size X.env:=by subst gZ;rfl
  have BH:X'.fs=frs X.stack:=by subst gZ;rfl
  have BI:X'.ex=fp:=by subst gZ;rfl
  have BG:X'.s₀=s₂:=by subst gZ;rfl
  have G9:X'.pn=X.pn++pins:=by subst gZ;rfl
  have OL:X'.xe=λ_ _=>False:=by subst gZ;rfl
  have O6:X'.H₀=H₂:=by subst gZ;rfl
  have hg':PG X' tg g:=by subst gZ;exact hg _ _ _ _ _ _
  have hi':rW X' ifs tt:=by subst gZ;exact hi _ _ _ _ _ _
  have he':PE X' elt te:=by subst gZ;exact he _ _ _ _ _ _
  have pN:∀{H':Hp}{pl:List (Ξ×Obj)},(∀b∈fp,H' b=η)->(∀p∈pl,s₂.heap.objs.size<=p.1)->∀b∈fp,g8 X' pl H' b:=fun{H' pl} hn hp b hb=>by
    have hlt:=hfo b hb;obtain⟨_,f1,f2,f3,f4,f5⟩:=hf b hb;refine⟨hn b hb,by rw[x8];exact afZ (af2 hlt nX),?_,.inl (by rw[BI];exact hb),λx c e=>?_,λp eO=>?_⟩
    · rw[BH]
      intro z
      rcases afT.mp (jx.pM b z)with e|e
      · exact f1 e
      · exact f2 e
    · have:=GX.ok.wL b (by rw[BI];exact hb)
      exact this.2 x c e
    · rcases agC.mp eO with z|z
      · rw[G9]at z;exact f5 p z
      · exact agH (af2 hlt (hp p z))
  have JB:∀{H':Hp}{s':Ψ}{σ':St}{o:Obj},Inv X' [] σ' H' s'->s'.heap.get? s₂.heap.objs.size=ζ o->H' s₂.heap.objs.size=η->(∀v,o.data≠.cell v)->Inv X' [(s₂.heap.objs.size,o)] σ' H' s':=fun{H' s' σ' o} I e hn hnc =>
    I.yR λp hp=>by
      obtain rfl:p=(s₂.heap.objs.size,o):=by simpa using hp
      refine⟨e,hn,by rw[x8];exact hDC,?_,hnc⟩
      rw[BH];intro z;exact absurd (aaZ jx z) (agB _)
  have Bk:H₂ s₂.heap.objs.size=η:=jx.hok.fresh (afQ _)
  let Iv:Nat->Ψ->Prop:=λn s'=>∃(i:Nat) (σ':St) (ys:List V) (H':Hp) (its:List Γ) (k:Nat),Inv X' [(s₂.heap.objs.size,{cls:=.type "list",data:=.seq its.toArray k})] σ' H' s'/\Vals ys its/\tn i s'.heap/\(∀b∈fp,H' b=η)/\W i n σ' ys H'
  have loop:codeAny (model X.prog X.w) X.A (.compLoop (.ListComp elt [⟨tg,iter,ifs,0⟩] scope pos) 0 (.ref it) (.ref s₂.heap.objs.size) X'.env) (RR (.ref s₂.heap.objs.size) H3.objs.size) {s₂ with heap:=h₄}:=by
    refine ace Iv ?_ m0 ⟨0,_,[],H₂,[],_,JB GX hD Bk (λv q=>nomatch q),.nil,T.keep _ _ _ st λb _ o e=>wk b o e,λb hb=>(hf b hb).1,h0⟩
    rintro n s5 ⟨i,xT,ys,H5,its,k,I5,rv,pP,z8,w5⟩
    obtain⟨hlen,tr⟩:=turn i n xT ys H5 w5;have p5:∀{o:Obj},∀p∈[(s₂.heap.objs.size,o)],s₂.heap.objs.size<=p.1:=fun{o} p hp=>by
      obtain rfl:p=(s₂.heap.objs.size,o):=by simpa using hp
      exact afQ _
    rw[<-xA]
    rcases tr with⟨stop,qf⟩|⟨go,N,hN,step⟩
    · have dn:=T.done X' x6 xw xK Hg i _ s5 xT H5 (λ_ _=>False) I5 (pN z8 p5) pP stop
      rw[xA]at dn ⊢;refine agq dn (λr s6 h6=>?_) λ_ _ z=>z
      obtain⟨rfl,I6⟩:=h6;show RR (.ref s₂.heap.objs.size) H3.objs.size (.ok .next) s6;obtain⟨eD,nD,_⟩:=I6.pin _ (agI _ agw);have pG:Un (frs X.stack) fp H₂ H5 s₂.heap s6.heap:=by
        have:=I6.base;rw[BH,BI,BG,O6]at this;exact this
      have lt:∀{b:Ξ}{o:Obj},s₂.heap.get? b=ζ o->b≠s₂.heap.objs.size:=λe=>afZ (afU e)
      have PM:Un (frs X.stack) fp H₂ (upd H5 s₂.heap.objs.size (.lst ys)) s₂.heap s6.heap :=
        ⟨pG.keep,pG.slot,λb o e n hx=>by rw[cB (lt e)];exact pG.free b o e n hx,pG.there,λb xs e=>by rw[cB (eB e Bk)];exact pG.tups b xs e,
          λb o u e=>by rw[cB (eB e Bk)];exact pG.jm b o u e,λb ps e=>by rw[cB (eB e Bk)];exact pG.jC b ps e⟩
      have Z0:ez X.prog X.w (upd H5 s₂.heap.objs.size (.lst ys)) s6.heap:=λb u e=>by
        by_cases hb:b=s₂.heap.objs.size
        · subst hb
          rw[fU]at e;cases e;exact⟨ag4 hlen,its,k,rv,eD⟩
        · rw[cB hb]at e
          have:=I6.hok b u e;rw[x6,xw]at this;exact this.stay (λ_ _ _ q=>q) (λc q=>by rw[cB (eB q nD)];exact q) λc xs q=>by rw[cB (eB q nD)];exact q
      have I7:Inv X pins σ (upd H5 s₂.heap.objs.size (.lst ys)) s6:=by
        refine jx.Fv (ch:=fp) ?_ PM Z0 I6.bare λb hb=>?_
        · have:=I6.os;rw[BG]at this;exact this
        · obtain⟨_,f1,f2,f3,f4,f5⟩:=hf b hb
          exact⟨f3,f1,f4,f5⟩
      obtain⟨m6,n6,_⟩:=I6.loc;rw[x8]at n6;have hC6:H5 H3.objs.size=η:=by have:=I6.free;rw[x8]at this;exact this
      refine fin _ _ _ s6 m6 I7 ⟨by rw[cB (agx hDC)];exact hC6,?_,?_,.inr (agg jx.sz nX),aao,λp hp=>?_⟩ n6 (qf _ nD)
      · exact agH (af2 jx.lt nX)
      · intro z
        exact absurd z (jx.DH nX)
      · exact afZ (af2 (afU (jx.pin p hp).1) nX)
    · have Zg:=T.item X' x6 xw xK Hg i _ s5 xT H5 (λ_ _=>False) I5 (pN z8 p5) pP go
      refine agq Zg (λr s6 h6=>?_) λ_ _ z=>z
      obtain⟨u,rfl,h6⟩:=h6;refine agq h6 (λ_ s7 h7=>?_) λ_ _ z=>z
      obtain⟨x,H7,I7,rx,y7,BY,fr7⟩:=h7;have I7':=I7.pinned (pN fr7 p5) (T.obj _ _ BY);have mp:∀{α:Type}{t:Sem α}{Q:α->Ψ->Prop}{s:Ψ},wpAny (model X'.prog X'.w) X'.A t Q X'.xe s->wpAny (model X.prog X.w) X'.A t Q (λ_ _=>False) s:=fun{α t Q s} h=>by
        rw[x6,xw,OL]at h;exact h
      refine agq (mp (hg' _ s7 xT H7 x u _ I7' rx (step x H7 y7))) (λ_ s8 h8=>?_) λ_ _ z=>z
      obtain⟨uM,H8,I8,q8⟩:=h8;refine agq (mp (hi' _ s8 uM H8 _ I8 q8)) (λok s9 h9=>?_) λ_ _ z=>z
      obtain⟨H9,I9,q9⟩:=h9;have LH:∀{σ':St}{H':Hp}{s':Ψ},Inv X' ([(s₂.heap.objs.size,{cls:=.type "list",data:=.seq its.toArray k})]++vB fp s7.heap) σ' H' s'->tn (i+1) s'.heap/\∀b∈fp,H' b=η:=fun{σ' H' s'} I=>by
        refine⟨T.keep _ _ _ BY λb hb o e=>(I.pin (b,o) (agI _ (agI _ (zC hb e)))).1,λb hb=>?_⟩
        obtain⟨o,e,d⟩:=T.obj _ _ BY b hb;exact(I.pin (b,o) (agI _ (agI _ (zC hb e)))).2.1
      cases ok with
      | false =>
        rw[if_neg agd]at q9 ⊢;obtain⟨m',hm,w9⟩:=hN _ _ _ q9;obtain⟨t9,f9⟩:=LH I9;exact⟨m',hm,i+1,uM,ys,H9,its,k,I9.uS,rv,t9,f9,w9⟩
      | true =>
        rw[if_pos rfl]at q9 ⊢;refine agq (mp (he' _ s9 uM H9 _ I9 q9)) (λv vm h10=>?_) λ_ _ z=>z
        obtain⟨y,Ox,Ow,ry,tP⟩:=h10;obtain⟨m',hm,iJ⟩:=hN _ _ _ tP;obtain⟨Rf,f10⟩:=LH Ow;have Ov:=Ow.uS;obtain⟨eD,nD,eV,nfD,dD⟩:=Ov.pin _ (agI _ agw);have hl:=rv.length;refine ahA F.slot_list_append ⟨_,eD,rfl⟩ F.entry_list_append (F.args_list_append_2 _ _) (ajW s₂.heap.objs.size its.toArray k v (by rw[af4];omega)) ⟨eD,?_⟩
        have q:=ajV eD (·.push v);have I11:Inv X' [] uM Ox {vm with heap:=vm.heap.update s₂.heap.objs.size (Obj.mapSeq (·.push v))}:=by
          refine(Ov.yR (Dm:=[]) λp hp=>by cases hp).turned (t':=vm.toks) (it:=s₂.heap.objs.size) (λb o hb e=>(ahy vm.heap (Obj.mapSeq (·.push v)) (agx hb)).trans e) nD eV (.inr (by rw[BG];exact afQ _)) (λx c hc=>EK x c (by rw[<-OO];exact hc)) λp hp=>?_
          have hp:p∈X.pn++pins:=by rw[agS,G9]at hp;exact hp
          exact afZ (afU (jx.pin p hp).1)
        rw[show its.toArray.push v=(its++[v]).toArray by simp]at q
        refine⟨m',hm,i+1,uM,ys++[y],Ox,its++[v],_,JB I11 q nD (λv q=>nomatch q),rv.append (.cons ry .nil),?_,f10,iJ⟩
        refine T.keep _ _ _ Rf λb hb o e=>(ahy vm.heap (Obj.mapSeq (·.push v)) ?_).trans e
        exact agH (hfo b hb)
  have e4:({scope:=relabel scope X.env,locals:=H3.objs.size,globals:=X.env.globals,cells:=cl,qual:=X.env.qual,func:=η,code:=X.env.code,frame:=X.env.frame,builtins:=X.env.builtins}:Env)=X'.env:=by rw[ON];rfl
  have Iz:tn 0 h₄:=T.keep _ _ _ st λb _ o e=>wk b o e
  have goal:codeAny (model X.prog X.w) X.A (.compStart (.ListComp elt [⟨tg,iter,ifs,0⟩] scope pos) 0 (.ref it) (.ref s₂.heap.objs.size) X'.env) (RR (.ref s₂.heap.objs.size) H3.objs.size) {s₂ with heap:=h₄} :=
    codeAny_compStart_list loop (T.self _ 0 _ _ _ Iz loop)
  rw[<-e4]at goal;exact goal
theorem Inv.gone{H':Hp}{s':Ψ}{h':υ}{C:Ξ}(I:Inv X pins σ H' s') (f:g8 X pins H' C) (hs:aar C s'.heap h'):Inv X pins σ H' {s' with heap:=h'}:=by
 obtain⟨f0,f1,f2,f3,f4,f5⟩:=f;exact I.turned (t':=s'.toks) (λb o hb e=>(hs.2 b hb).trans e) f0 f1 f3 f4 f5
theorem Vt{wi:TI}(S:cN X N' pick scope) (hc:X.calm=Δ) (hit:PI X tg iter wi)
  (hg:∀cl C s₀ H₀ ex pn,PG (gv X N' scope cl C s₀ H₀ ex pn) tg g) (hi:∀cl C s₀ H₀ ex pn,rW (gv X N' scope cl C s₀ H₀ ex pn) ifs tt) (he:∀cl C s₀ H₀ ex pn,PE (gv X N' scope cl C s₀ H₀ ex pn) elt te)
  (hs:∀x,foldedSetIterable iter X.env x=pure x:=by intro _;rfl) :
  PE X (.ListComp elt [⟨tg,iter,ifs,0⟩] scope pos) (BU wi pick g tt te):=by
 intro pins s σ H Q I h;rw[eval_ListComp];refine ajY (use:=η) rfl hs (NL S I) S.kind S.names (bR (hit pins s σ H _ I h) λv s1 h1=>bR h1 λitv s2 h2=>?_)
 obtain⟨it,fp,tn,J,H2,rfl,I2,T,st2,f2,W,⟨m0,w0⟩,turn⟩:=h2;refine NC (RR:=λacc C=>compPost (model X.prog X.w) X.A X.xe η (EP X pins σ Q) acc C) (Qv:=Q) S hc I2 T st2 f2 hg hi he w0 turn ?_
 intro D C H' s' m I' f' n' q';exact⟨m,n',λh' hs'=>⟨.ref D,H',I'.gone f' hs',rfl,q'⟩⟩
def QK(i:Nat) (t:TE):TS:=λD σ H=>t σ H λv H1=>D.nx (σ.set i (ζ v)) H1
theorem Ut{wi:TI}{i:Nat}{y:Str}{py spos:Pos}(hsw:swapsWith (.ListComp elt [⟨tg,iter,ifs,0⟩] scope pos) (ζ (.Name y py)) spos.line X.env=pure Δ) (hN:X.N.Nodup) (hy:X.N[i]? = ζ y) (hl:X.env.scope.names.lookup y=ζ .local)
  (S:cN X N' pick scope) (hc:X.calm=Δ) (hit:PI X tg iter wi)
  (hg:∀cl C s₀ H₀ ex pn,PG (gv X N' scope cl C s₀ H₀ ex pn) tg g) (hi:∀cl C s₀ H₀ ex pn,rW (gv X N' scope cl C s₀ H₀ ex pn) ifs tt) (he:∀cl C s₀ H₀ ex pn,PE (gv X N' scope cl C s₀ H₀ ex pn) elt te)
  (hs:∀x,foldedSetIterable iter X.env x=pure x:=by intro _;rfl) :
  PS X (.Assign [.Name y py] (.ListComp elt [⟨tg,iter,ifs,0⟩] scope pos) spos) (QK i (BU wi pick g tt te)):=by
 intro pins s σ H D I h;rw[exec_Assign_Name_used _ _ _ _ hsw];refine afO (aiN (afO ?_));show wpAny _ X.A (do let _ <-comprehension (.ListComp elt [⟨tg,iter,ifs,0⟩] scope pos) scope X.env _ (newList []) Θ (eval iter X.env) (ζ (assign (.Name y py) X.env))) _ _ s
 refine afO (agq (ajY (use:=ζ (assign (.Name y py) X.env)) (Q:=λ_ s'=>SP X pins D .next s') rfl hs (NL S I) S.kind S.names
  (bR (hit pins s σ H _ I h) λv s1 h1=>bR h1 λitv s2 h2=>?_)) (λ_ s' hq=>afP (afP hq)) λ_ _ e=>e)
 obtain⟨it,fp,tn,J,H2,rfl,I2,T,st2,f2,W,⟨m0,w0⟩,turn⟩:=h2;refine NC (RR:=λacc C=>compPost (model X.prog X.w) X.A X.xe (ζ (assign (.Name y py) X.env)) (λ_ s'=>SP X pins D .next s') acc C) (Qv:=λv H1=>D.nx (σ.set i (ζ v)) H1) S hc I2 T st2 f2 hg hi he w0 turn ?_
 intro Da C H' s' m I' f' n' q';show wpAny _ X.A (assign (.Name y py) X.env (.ref Da)) _ _ _;refine wpAny_assign_Name (Ir I' hN hy (.inl hl) (v:=.ref Da) rfl (λs'' G1 ⟨a,sb,ha⟩=>?_) (.inr hl))
 have hCa:C≠a:=by
  rcases ha with e|e
  ·rw[e];exact f'.2.1
  ·exact agx (f'.2.2.2.2.1 _ _ e)
 exact⟨m,n'.sameBut sb hCa,λh' hs'=>⟨_,H',G1.gone f' hs',q'⟩⟩
end
def NF(XN:List Str) (xn:List (Str×aab)) (N':List Str) (pick:List (Option Nat)) (names:List (Str×aab)):Bool :=
 decide N'.Nodup&&names.all (λx=>decide (names.lookup x.1=ζ x.2))&&decide ((names.map (·.1)).Nodup)&&(pick.length==N'.length) &&
 (pick.zip N').all (λq=>match q.1 with|none=>Δ|some j=>decide (names.lookup q.2=ζ NameKind.free)&&decide (XN[j]? = ζ q.2)) &&
 names.all (λx=>decide (x.2≠NameKind.free)||(decide (xn.lookup x.1=ζ NameKind.cell)||decide (xn.lookup x.1=ζ NameKind.free)))
theorem cN.of{X:Cx}{N':List Str}{pick:List (Option Nat)}{scope:aaq}(hk:scope.kind=.function) (h:NF X.N X.env.scope.names N' pick scope.names=Δ):cN X N' pick scope:=by
 unfold NF at h;simp only[af1,afX,decide_eq_true_eq,beq_iff_eq,ahp]at h;obtain⟨⟨⟨⟨⟨h1,h2⟩,h3⟩,h4⟩,h5⟩,h6⟩:=h;refine⟨hk,h1,λx hx e=>by rw[<-e];exact h2 x hx,h3,h4,λi j x hp hN=>?_,λx hx e=>?_⟩
 ·have hm:(ζ j,x)∈pick.zip N':=by
   have:(pick.zip N')[i]? = ζ (ζ j,x):=by rw[ajZ];exact⟨hp,hN⟩
   exact agn this
  exact h5 _ hm |> λz=>by simpa using z
 ·rcases h6 x hx with z|z|z
  ·exact absurd e z
  ·exact .inl z
  ·exact .inr z
end L2
namespace PySem
open Sem (wp)
section
variable {prog:π}{w:χ}{A:ω}{E:Γ->Ψ->Prop}{s:Ψ}
theorem XJ{it l:Ξ}{i:Nat}{items:Array Γ}{x:Γ}{Q:Γ->Ψ->Prop}(hit:s.heap.IsTupleIter it l i)
  (hl:s.heap.IsTuple l items) (hx:items[i]? = ζ x)
  (hQ:∀h',h'.IsTupleIter it l (i+1)->aar it s.heap h'->Q x {s with heap:=h'}) :
  wpAny (model prog w) A (Builtin.SmallTypes.nextOf (.ref it)) Q E s:=by
 obtain⟨o,ho,hc,hd⟩:=id hit;obtain⟨ol,j6,_,nl,hdl⟩:=hl;unfold Builtin.SmallTypes.nextOf;refine afO (ahD (name:=Str.ofString "__next__") hit.typeIs ail
  (agZ ail hit.typeIs aj0 ?_ (aj1 _)))
 show wpAny _ _ (field (.ref it) 0 >>= _) _ _ s;refine afO (agP ho hd (x:=.ref l) rfl ?_);show wpAny _ _ (if(Value.ref l==Value.none)=Δ then _ else _) _ _ s
 rw[if_neg (show ¬((Value.ref l==Value.none)=Δ)from agd)]
 show wpAny _ _ (field (.ref it) 1 >>= _) _ _ s;refine afO (agP ho hd (x:=.int i 0) rfl ?_);show wpAny _ _ (seqItems? (.ref l) >>= _) _ _ s;refine afO (ahg j6 hdl ?_);simp only[aho,hx];refine afO (ahS ho hd (by simp) (afP ⟨x,rfl,afP (hQ _ ?_ (ahq ..))⟩))
 exact⟨_,ahO _ ho (aiX (ahE hd _)),(aiY ..).trans hc,by
  rw[ahE hd];simp[rawInt]⟩
theorem XM{it l:Ξ}{i:Nat}{items:Array Γ}{Q:Γ->Ψ->Prop}(hh:A.handled=η)
  (hit:s.heap.IsTupleIter it l i) (hl:s.heap.IsTuple l items) (hx:items[i]? = η)
  (hE:∀h' e,Heap.ExtBut it s.heap h'->(∃o,h'.get? e=ζ o/\o.cls=.type "StopIteration")->E (.ref e) {s with heap:=h'}) :
  wpAny (model prog w) A (Builtin.SmallTypes.nextOf (.ref it)) Q E s:=by
 obtain⟨o,ho,hc,hd⟩:=id hit;obtain⟨ol,j6,_,nl,hdl⟩:=hl;unfold Builtin.SmallTypes.nextOf;refine afO (ahD (name:=Str.ofString "__next__") hit.typeIs ail
  (agZ ail hit.typeIs aj0 ?_ (aj1 _)))
 show wpAny _ _ (field (.ref it) 0 >>= _) _ _ s;refine afO (agP ho hd (x:=.ref l) rfl ?_);show wpAny _ _ (if(Value.ref l==Value.none)=Δ then _ else _) _ _ s
 rw[if_neg (show ¬((Value.ref l==Value.none)=Δ)from agd)]
 show wpAny _ _ (field (.ref it) 1 >>= _) _ _ s;refine afO (agP ho hd (x:=.int i 0) rfl ?_);show wpAny _ _ (seqItems? (.ref l) >>= _) _ _ s;refine afO (ahg j6 hdl ?_);simp only[aho,hx];refine afO (aim (afO (ahS ho hd (by simp) ?_)))
 show wpAny _ _ (newExc (.type "StopIteration") [] >>= _) _ _ _;refine afO ?_;simp only[newExc,newTuple];refine afO (ahC ?_ (by size_fits))
 refine afO (m:=firstArgMember _ _) (ahT (a:=Value.none) (by first|rfl|(simp only[firstArgMember];rfl)) ?_)
 refine ahC ?_ (by size_fits)
 simp only[raiseNew];refine afO (wpAny_handled ?_)
 first|rw[show A.in1.handled=η from hh]|rw[hh]
 refine afO (afP (wpAny_throw ?_));exact hE _ _ (((ahq ..).extBut.push _).push _) ⟨_,af3 _ rfl,rfl⟩
theorem Draws.tuple{prog:π}{w:χ}{A:ω}(hh:A.handled=η) (it l:Ξ) (hne:l≠it) (items:Array Γ) :
  aaI prog w A it [it,l] items.size (λi v=>items[i]? = ζ v) (λi h=>h.IsTupleIter it l i/\h.IsTuple l items) where
 live:=λ_ _ st=>let⟨o,ho,_⟩:=st.1;⟨o,ho⟩
 frame:=λ_ _ _ st hk=>⟨st.1.at λo e=>hk it (by simp) o e,let⟨o,e,r⟩:=st.2;⟨o,hk l (by simp) o e,r⟩⟩
 item:=λi s Q E hi st hQ=>by
  refine XJ st.1 st.2 (x:=items[i]) (by simp[hi]) λh' wC hs'=>?_
  exact hQ _ h' s.toks (by simp[hi]) ⟨wC,let⟨o,e,r⟩:=st.2;⟨o,hs'.extBut _ _ hne e,r⟩⟩ hs'
 done:=λs Q E st hE=>XM hh st.1 st.2 (by simp) hE
structure ZA (z TI TO i1 i2:Ξ) (f1 f2:List Ξ):Prop where
 TIz:TI≠z
 TOz:TO≠z
 TITO:TI≠TO
 TIi1:TI≠i1
 TIi2:TI≠i2
 m1:i1∈f1
 m2:i2∈f2
 z1:z∉f1
 z2:z∉f2
 o1:TO∉f1
 o2:TO∉f2
 x1:i1∉f2
 x2:i2∉f1
theorem OI{z TI TO i1 i2:Ξ}{f1 f2:List Ξ}{n1 n2 k:Nat}{P1 P2:Nat->Γ->Prop}{S1 S2:Nat->υ->Prop}{a b:Γ}{Q:Γ->Ψ->Prop}(D:ZA z TI TO i1 i2 f1 f2) (D1:aaI prog w A i1 f1 n1 P1 S1) (D2:aaI prog w A i2 f2 n2 P2 S2)
  (hz:aay s.heap z TI TO .none) (hTI:aak s.heap TI (.ref i1) (.ref i2)) (hTO:aak s.heap TO a b)
  (h1:S1 k s.heap) (h2:S2 k s.heap) (hx:k<n1) (hy:k<n2)
  (hQ:∀x y h' tk,P1 k x->P2 k y->aay h' z TI TO (rawInt s.heap.objs.size)->aak h' TO x y->S1 (k+1) h'->S2 (k+1) h'->aak h' s.heap.objs.size x y ->
   (∀c o,c≠z->c≠TO->c≠i1->c≠i2->s.heap.get? c=ζ o->h'.get? c=ζ o)->Q (.ref s.heap.objs.size) {s with heap:=h',toks:=tk}) :
  wpAny (model prog w) A (Builtin.«zip.__next__» ⟨[.ref z],[]⟩) (λfin s'=>∃v,fin=.done (.ret v)/\Q v s') E s:=by
 have zl:i1≠z:=λe=>D.z1 (e▸D.m1)
 have DG:i2≠z:=λe=>D.z2 (e▸D.m2)
 have DJ:TO≠i1:=λe=>D.o1 (e▸D.m1)
 have KQ:TO≠i2:=λe=>D.o2 (e▸D.m2)
 have n12:i1≠i2:=λe=>D.x1 (e▸D.m2)
 show wpAny _ _ (field (.ref z) 2 >>= _) _ _ _;refine afO (agP hz rfl (x:=.bool Θ) rfl ?_);show wpAny _ _ (field (.ref z) 3 >>= _) _ _ _;refine afO (agP hz rfl (x:=.ref TI) rfl ?_);refine afO (ahg hTI rfl ?_);show wpAny _ _ (Builtin.SmallTypes.ownedTupleIsFree (.ref z) >>= _) _ _ _;refine afO ?_;unfold Builtin.SmallTypes.ownedTupleIsFree;refine afO (agP hz rfl (x:=.none) rfl (afP ?_));simp only[if_true];refine afO (aim ?_);refine afO (agP hz rfl (x:=.ref TO) rfl ?_);refine afO (ahF hz (by simp) λh₁ nQ hs₁=>?_)
 replace nQ:aay h₁ z TI TO .ellipsis:=nQ
 refine afO ?_;simp only[aj2,aj3,aiV,List.forIn_nil];refine afO (afO (ain ?_));show wpAny _ _ (Builtin.SmallTypes.nextOf (.ref i1) >>= _) _ _ _;refine afO (D1.item k _ _ _ hx (D1.frame _ _ _ h1 λc hc o e=>hs₁.extBut _ _ (λq=>D.z1 (q▸hc)) e) λx h₂ tk₂ px ME hs₂=>afP ?_)
 have wF:aak h₂ TO a b:=hs₂.extBut _ _ DJ (hs₁.extBut _ _ D.TOz hTO);refine afO (ahg wF rfl ?_);refine afO (aiZ wF λh₃ zY jJ=>?_)
 replace zY:aak h₃ TO x b:=zY
 refine afO (wpAny_letGo (afP ?_));refine afO (afO (ain ?_));show wpAny _ _ (Builtin.SmallTypes.nextOf (.ref i2) >>= _) _ _ _;refine afO (D2.item k _ _ _ hy (D2.frame _ _ _ h2 λc hc o e=>jJ.extBut _ _ (λq=>D.o2 (q▸hc)) (hs₂.extBut _ _ (λq=>D.x1 (q▸hc)) (hs₁.extBut _ _ (λq=>D.z2 (q▸hc)) e))) λy h₄ tk₄ py aaL nU=>afP ?_)
 have Mv:aak h₄ TO x b:=nU.extBut _ _ KQ zY;refine afO (ahg Mv rfl ?_);refine afO (aiZ Mv λh₅ zX nT=>?_)
 replace zX:aak h₅ TO x y:=zX
 refine afO (wpAny_letGo (afP (afP ?_)));refine afO (ahg zX rfl ?_);refine afO (wpAny_newTuple ?_);have hsz:h₅.objs.size=s.heap.objs.size:=by rw[nT.1,nU.1,jJ.1,hs₂.1,hs₁.1]
 have L3:aay h₅ z TI TO .ellipsis:=nT.extBut _ _ D.TOz.symm (nU.extBut _ _ DG.symm (jJ.extBut _ _ D.TOz.symm (hs₂.extBut _ _ zl.symm nQ)));have aaa:∀c o,c≠z->c≠TO->c≠i1->c≠i2->s.heap.get? c=ζ o->h₅.get? c=ζ o:=λc o c1 c2 c3 c4 e =>
  nT.extBut _ _ c2 (nU.extBut _ _ c4 (jJ.extBut _ _ c2 (hs₂.extBut _ _ c3 (hs₁.extBut _ _ c1 e))))
 have aaM:S1 (k+1) h₅:=D1.frame _ _ _ ME λc hc o e=>nT.extBut _ _ (λq=>D.o1 (q▸hc)) (nU.extBut _ _ (λq=>D.x2 (q▸hc)) (jJ.extBut _ _ (λq=>D.o1 (q▸hc)) e))
 have aaK:S2 (k+1) h₅:=D2.frame _ _ _ aaL λc hc o e=>nT.extBut _ _ (λq=>D.o2 (q▸hc)) e
 have L6:z<h₅.objs.size:=afU L3;show wpAny _ _ (Builtin.SmallTypes.ownedTupleHandOut (.ref z) (.ref h₅.objs.size) >>= _) _ _ _;refine afO ?_;unfold Builtin.SmallTypes.ownedTupleHandOut;have ZH:aay (h₅.push {cls:=.type "tuple",data:=.seq #[x,y]}) z TI TO .ellipsis:=afS _ L3;refine afO (ahF ZH (by simp) λZG Et Mb=>?_)
 replace Et:aay ZG z TI TO (rawInt h₅.objs.size):=Et
 refine ahF Et (by simp) λzS zT Ma=>?_
 replace zT:aay zS z TI TO (rawInt h₅.objs.size):=zT
 have up:∀c o,c≠z->h₅.get? c=ζ o->zS.get? c=ζ o:=λc o c1 e=>Ma.extBut _ _ c1 (Mb.extBut _ _ c1 (afS _ e))
 have Mu:aak zS h₅.objs.size x y:=Ma.extBut _ _ (agH L6) (Mb.extBut _ _ (agH L6) (af3 _ rfl));rw[hsz]at zT Mu;refine afP ⟨_,rfl,?_⟩;show Q (.ref h₅.objs.size) _;rw[hsz];exact hQ x y zS _ px py zT (up _ _ D.TOz zX) (D1.frame _ _ _ aaM λc hc o e=>up c o (λq=>D.z1 (q▸hc)) e) (D2.frame _ _ _ aaK λc hc o e=>up c o (λq=>D.z2 (q▸hc)) e) Mu λc o c1 c2 c3 c4 e=>up c o c1 (aaa c o c1 c2 c3 c4 e)
theorem OJ{z TI TO i1 i2:Ξ}{f1 f2:List Ξ}{n1 n2 k:Nat}{P1 P2:Nat->Γ->Prop}{S1 S2:Nat->υ->Prop}{a b:Γ}{Q:Fin->Ψ->Prop}(D:ZA z TI TO i1 i2 f1 f2) (D1:aaI prog w A i1 f1 n1 P1 S1) (D2:aaI prog w A i2 f2 n2 P2 S2)
  (hz:aay s.heap z TI TO .none) (hTI:aak s.heap TI (.ref i1) (.ref i2)) (hTO:aak s.heap TO a b)
  (h1:S1 k s.heap) (h2:S2 k s.heap) (hend:k=n1\/(k<n1/\k=n2))
  (hE:∀h' tk e,(∀c o,c≠z->c≠TO->c≠i1->c≠i2->s.heap.get? c=ζ o->h'.get? c=ζ o)->(∃o,h'.get? e=ζ o/\o.cls=.type "StopIteration")->E (.ref e) {s with heap:=h',toks:=tk}) :
  wpAny (model prog w) A (Builtin.«zip.__next__» ⟨[.ref z],[]⟩) Q E s:=by
 have zl:i1≠z:=λe=>D.z1 (e▸D.m1)
 have DG:i2≠z:=λe=>D.z2 (e▸D.m2)
 have DJ:TO≠i1:=λe=>D.o1 (e▸D.m1)
 have KQ:TO≠i2:=λe=>D.o2 (e▸D.m2)
 show wpAny _ _ (field (.ref z) 2 >>= _) _ _ _;refine afO (agP hz rfl (x:=.bool Θ) rfl ?_);show wpAny _ _ (field (.ref z) 3 >>= _) _ _ _;refine afO (agP hz rfl (x:=.ref TI) rfl ?_);refine afO (ahg hTI rfl ?_);show wpAny _ _ (Builtin.SmallTypes.ownedTupleIsFree (.ref z) >>= _) _ _ _;refine afO ?_;unfold Builtin.SmallTypes.ownedTupleIsFree;refine afO (agP hz rfl (x:=.none) rfl (afP ?_));simp only[if_true];refine afO (aim ?_);refine afO (agP hz rfl (x:=.ref TO) rfl ?_);refine afO (ahF hz (by simp) λh₁ nQ hs₁=>?_)
 replace nQ:aay h₁ z TI TO .ellipsis:=nQ
 refine afO ?_;simp only[aj2,aj3,aiV,List.forIn_nil];refine afO (afO (ain ?_));show wpAny _ _ (Builtin.SmallTypes.nextOf (.ref i1) >>= _) _ _ _;have MF:S1 k h₁:=D1.frame _ _ _ h1 λc hc o e=>hs₁.extBut _ _ (λq=>D.z1 (q▸hc)) e
 rcases hend with rfl|⟨hlt,rfl⟩
 ·refine afO (D1.done _ _ _ MF λh₂ e hs₂ he=>?_)
  obtain⟨oe,qB,hce⟩:=he;have L5:aay h₂ z TI TO .ellipsis:=hs₂ _ _ zl.symm nQ;have EH:e≠z:=λx=>by subst x;rw[L5]at qB;cases qB;simp at hce
  refine ahF L5 (by simp) λh₃ _ jJ=>hE h₃ _ e (λc o c1 _ c3 _ x=>jJ.extBut _ _ c1 (hs₂ _ _ c3 (hs₁.extBut _ _ c1 x))) ⟨oe,jJ.extBut _ _ EH qB,hce⟩
 ·refine afO (D1.item k _ _ _ hlt MF λx h₂ tk₂ px ME hs₂=>afP ?_)
  have wF:aak h₂ TO a b:=hs₂.extBut _ _ DJ (hs₁.extBut _ _ D.TOz hTO);refine afO (ahg wF rfl ?_);refine afO (aiZ wF λh₃ zY jJ=>?_)
  refine afO (wpAny_letGo (afP ?_));refine afO (afO (ain ?_));show wpAny _ _ (Builtin.SmallTypes.nextOf (.ref i2) >>= _) _ _ _;refine afO (D2.done _ _ _ (D2.frame _ _ _ h2 λc hc o e=>jJ.extBut _ _ (λq=>D.o2 (q▸hc)) (hs₂.extBut _ _ (λq=>D.x1 (q▸hc)) (hs₁.extBut _ _ (λq=>D.z2 (q▸hc)) e))) λh₄ e nU he=>?_)
  obtain⟨oe,qB,hce⟩:=he;have L4:aay h₄ z TI TO .ellipsis:=nU _ _ DG.symm (jJ.extBut _ _ D.TOz.symm (hs₂.extBut _ _ zl.symm nQ));have EH:e≠z:=λx=>by subst x;rw[L4]at qB;cases qB;simp at hce
  refine ahF L4 (by simp) λh₅ _ nT=>hE h₅ _ e (λc o c1 c2 c3 c4 x=>nT.extBut _ _ c1 (nU _ _ c4 (jJ.extBut _ _ c2 (hs₂.extBut _ _ c3 (hs₁.extBut _ _ c1 x))))) ⟨oe,nT.extBut _ _ EH qB,hce⟩
theorem Ua{z TI TO i1 i2:Ξ}{f1 f2:List Ξ}{n1 n2 k:Nat}{P1 P2:Nat->Γ->Prop}{S1 S2:Nat->υ->Prop}{a b:Γ}{Q:Option Γ->Ψ->Prop}(D:ZA z TI TO i1 i2 f1 f2) (D1:aaI prog w A.in1 i1 f1 n1 P1 S1) (D2:aaI prog w A.in1 i2 f2 n2 P2 S2)
  (hz:aay s.heap z TI TO .none) (hTI:aak s.heap TI (.ref i1) (.ref i2)) (hTO:aak s.heap TO a b)
  (h1:S1 k s.heap) (h2:S2 k s.heap) (hx:k<n1) (hy:k<n2)
  (hQ:∀x y h' tk,P1 k x->P2 k y->aay h' z TI TO (rawInt s.heap.objs.size)->aak h' TO x y->S1 (k+1) h'->S2 (k+1) h'->aak h' s.heap.objs.size x y ->
   (∀c o,c≠z->c≠TO->c≠i1->c≠i2->s.heap.get? c=ζ o->h'.get? c=ζ o)->Q (ζ (.ref s.heap.objs.size)) {s with heap:=h',toks:=tk}) :
  wpAny (model prog w) A (pyNext (.ref z)) Q E s:=by
 have hT:s.TypeIs (.ref z) "zip":=⟨_,hz,rfl⟩;unfold pyNext;exact afO (aio (ahD (name:=Str.ofString "__next__") hT aip
  (agZ aip hT F.entry_zip_next
   (OI D D1 D2 hz hTI hTO h1 h2 hx hy λx y h' tk a0 b0 a1 a2 a3 a4 a5 a7=>afP (hQ x y h' tk a0 b0 a1 a2 a3 a4 a5 a7)) (F.args_zip_next_1 _))))
theorem Ub{z TI TO i1 i2:Ξ}{f1 f2:List Ξ}{n1 n2 k:Nat}{P1 P2:Nat->Γ->Prop}{S1 S2:Nat->υ->Prop}{a b:Γ}{Q:Option Γ->Ψ->Prop}(D:ZA z TI TO i1 i2 f1 f2) (D1:aaI prog w A.in1 i1 f1 n1 P1 S1) (D2:aaI prog w A.in1 i2 f2 n2 P2 S2)
  (hz:aay s.heap z TI TO .none) (hTI:aak s.heap TI (.ref i1) (.ref i2)) (hTO:aak s.heap TO a b)
  (h1:S1 k s.heap) (h2:S2 k s.heap) (hend:k=n1\/(k<n1/\k=n2))
  (hQ:∀h' tk,(∀c o,c≠z->c≠TO->c≠i1->c≠i2->s.heap.get? c=ζ o->h'.get? c=ζ o)->Q η {s with heap:=h',toks:=tk}):wpAny (model prog w) A (pyNext (.ref z)) Q E s:=by
 have hT:s.TypeIs (.ref z) "zip":=⟨_,hz,rfl⟩;unfold pyNext;refine afO (aio (ahD (name:=Str.ofString "__next__") hT aip
  (agZ aip hT F.entry_zip_next (OJ D D1 D2 hz hTI hTO h1 h2 hend λh' tk e hk he=>?_) (F.args_zip_next_1 _))))
 obtain⟨o,ho,hc⟩:=he;refine afO (ahG (T:="StopIteration") (b:=Δ) ⟨o,ho,hc⟩ isSubtype_stop ?_);exact afP (hQ _ _ hk)
abbrev xY(h:υ) (l1:Ξ):υ:=h.push {cls:=.type "tuple_iterator",data:=.fields #[.ref l1,.int 0 0]}
abbrev xX(h:υ) (l1 l2:Ξ):υ:=(xY h l1).push {cls:=.type "tuple_iterator",data:=.fields #[.ref l2,.int 0 0]}
abbrev xW(h:υ) (l1 l2:Ξ):υ:=(xX h l1 l2).push {cls:=.type "tuple",data:=.seq #[.ref h.objs.size,.ref (xY h l1).objs.size]}
abbrev xV(h:υ) (l1 l2:Ξ):υ:=(xW h l1 l2).push {cls:=.type "tuple",data:=.seq #[.none,.none]}
abbrev rZ(h:υ) (l1 l2:Ξ):υ:=(xV h l1 l2).push {cls:=.type "zip",data:=.fields #[.none,.bool Θ,.bool Θ,.ref (xX h l1 l2).objs.size,.ref (xW h l1 l2).objs.size]}
theorem adK{h:υ}{a:Ξ}{xs:Array Γ}(x:h.IsTuple a xs) (o:Obj):(h.push o).IsTuple a xs:=let⟨q,e,r⟩:=x;⟨q,afS _ e,r⟩
theorem Yk(l1 l2:Ξ) (xs ys:Array Γ) :
  Meets (Builtin.«zip.__new__» ⟨[.type "zip",.ref l1,.ref l2],[]⟩) (λ_ R s=>s.heap.IsTuple l1 xs/\s.heap.IsTuple l2 ys /\
   R (.ok (.ret (.ref (xV s.heap l1 l2).objs.size))) {s with heap:=rZ s.heap l1 l2}) :=
 .of_wp λprog w A R s h=>by
  obtain⟨hp,g,d,tk,os⟩:=s;obtain⟨hl1,hl2,h⟩:=h;have hsub:=sub_zip;have hL1:aaJ (Shared.heap ⟨hp,g,d,tk,os⟩) l1 xs:=hl1;have zZ:aaJ (Shared.heap ⟨hp.push {cls:=.type "tuple_iterator",data:=.fields #[.ref l1,.int 0 0]},g,d,tk,os⟩) l2 ys:=adK hl2 _
  wp_walk using ahn hL1,ahn zZ
  exact⟨_,rfl,h⟩
theorem acA{l1 l2:Ξ}{xs ys:Array Γ}{Q:Γ->Ψ->Prop}(hl1:s.heap.IsTuple l1 xs) (hl2:s.heap.IsTuple l2 ys)
  (h:∀h',aay h' (s.heap.objs.size+4) (s.heap.objs.size+2) (s.heap.objs.size+3) .none->aak h' (s.heap.objs.size+2) (.ref s.heap.objs.size) (.ref (s.heap.objs.size+1)) ->
   aak h' (s.heap.objs.size+3) .none .none->h'.IsTupleIter s.heap.objs.size l1 0->h'.IsTupleIter (s.heap.objs.size+1) l2 0 ->
   (∀c o,s.heap.get? c=ζ o->h'.get? c=ζ o)->Q (.ref (s.heap.objs.size+4)) {s with heap:=h'}) :
  wpAny (model prog w) A (call (.type "zip") [.ref l1,.ref l2]) Q E s:=by
 refine callType_new F.called_zip (by decide) (F.typeCall_zip_2 _ _) (F.newCall_zip_2 _ _) (λobj=>F.args_object_init_3 obj _ _) F.entry_zip_new
  (Yk l1 l2 xs ys) ⟨hl1,hl2,?_⟩
 have z1:(xY s.heap l1).objs.size=s.heap.objs.size+1:=agt ..;have z2:(xX s.heap l1 l2).objs.size=s.heap.objs.size+2:=by rw[agt,z1]
 have z3:(xW s.heap l1 l2).objs.size=s.heap.objs.size+3:=by rw[agt,z2]
 have z4:(xV s.heap l1 l2).objs.size=s.heap.objs.size+4:=by rw[agt,z3]
 have g5:(rZ s.heap l1 l2).get? (xV s.heap l1 l2).objs.size=ζ _:=af3 _ rfl;have g4:(rZ s.heap l1 l2).get? (xW s.heap l1 l2).objs.size=ζ _:=afS _ (af3 _ rfl);have g3:(rZ s.heap l1 l2).get? (xX s.heap l1 l2).objs.size=ζ _:=afS _ (afS _ (af3 _ rfl));have g2:(rZ s.heap l1 l2).get? (xY s.heap l1).objs.size=ζ _:=afS _ (afS _ (afS _ (af3 _ rfl)));have g1:(rZ s.heap l1 l2).get? s.heap.objs.size=ζ _:=afS _ (afS _ (afS _ (afS _ (af3 _ rfl))));show _/\_;rw[z2,z3,z4]at g5;rw[z1,z2]at g3;rw[z3]at g4;rw[z1]at g2;rw[z4];exact⟨⟨_,g5,rfl⟩,h _ g5 g3 g4 ⟨_,g1,rfl,rfl⟩ ⟨_,g2,rfl,rfl⟩ λc o x =>
  afS _ (afS _ (afS _ (afS _ (afS _ x))))⟩
open AutoSeq1 (wpAny_loadPart')
theorem Yl(l:Ξ) (items:Array Γ) (n:Nat) (dct:Option Ξ) (sl:Array (Option Γ)) :
  Meets (Builtin.«enumerate.__new__» ⟨[.type "enumerate",.ref l],[]⟩) (λ_ R s=>s.heap.get? l=ζ {cls:=.type "tuple",dict:=dct,data:=.seq items n,slots:=sl} /\
   R (.ok (.ret (.ref (s.heap.push {cls:=.type "tuple_iterator",data:=.fields #[.ref l,.int 0 0]}).objs.size)))
    {s with heap:=(s.heap.push {cls:=.type "tuple_iterator",data:=.fields #[.ref l,.int 0 0]}).push {cls:=.type "enumerate",data:=.fields #[.none,.bool Θ,.ref s.heap.objs.size,rawInt 0,.none,.none]} }) :=
 .of_wp λprog w A R s h=>by
  obtain⟨hp,g,d,tk,os⟩:=s;obtain⟨hl,h⟩:=h;have hsub:=sub_enumerate;have hL:aaJ (Shared.heap ⟨hp,g,d,tk,os⟩) l items:=⟨_,hl,rfl,n,rfl⟩
  wp_walk using wpAny_loadPart' hl
  refine wpAny_stack_any λst=>afP ?_
  split
  ·rename_i c _ _ _ _ _;cases(c==Value.type "enumerate")
   ·wp_walk using wpAny_loadPart' hl,ahn hL
    exact⟨_,rfl,h⟩
   ·wp_walk using wpAny_loadPart' hl,ahn hL
    exact⟨_,rfl,h⟩
  ·wp_walk using wpAny_loadPart' hl,ahn hL
   exact⟨_,rfl,h⟩
theorem acI{l:Ξ}{items:Array Γ}{Q:Γ->Ψ->Prop}(hL:s.heap.IsTuple l items)
  (h:∀h',IsEnum h' (s.heap.objs.size+1) s.heap.objs.size 0 .none->h'.IsTupleIter s.heap.objs.size l 0->h'.objs.size=s.heap.objs.size+2 ->
   (∀b o,s.heap.get? b=ζ o->h'.get? b=ζ o)->Q (.ref (s.heap.objs.size+1)) {s with heap:=h'}) :
  wpAny (model prog w) A (call (.type "enumerate") [.ref l]) Q E s:=by
 obtain⟨⟨c,dct,dt,sl⟩,hl,hc,n,hd⟩:=hL
 replace hc:c=.type "tuple":=hc
 replace hd:dt=.seq items n:=hd
 subst hc hd;refine callType_new F.called_enumerate (by decide) (F.typeCall_enumerate_1 _) (F.newCall_enumerate_1 _) (λobj=>F.args_object_init_2 obj _) F.entry_enumerate_new
  (Yl l items n dct sl) ⟨hl,?_⟩
 have hz:(s.heap.push {cls:=.type "tuple_iterator",data:=.fields #[.ref l,.int 0 0]}).objs.size=s.heap.objs.size+1:=agt ..;show _/\_;rw[hz];have he:IsEnum ((s.heap.push {cls:=.type "tuple_iterator",data:=.fields #[.ref l,.int 0 0]}).push
   {cls:=.type "enumerate",data:=.fields #[.none,.bool Θ,.ref s.heap.objs.size,rawInt 0,.none,.none]}) (s.heap.objs.size+1) s.heap.objs.size 0 .none:=by
  have:=af3 (s.heap.push {cls:=.type "tuple_iterator",data:=.fields #[.ref l,.int 0 0]})
   (o:={cls:=.type "enumerate",data:=.fields #[.none,.bool Θ,.ref s.heap.objs.size,rawInt 0,.none,.none]}) rfl
  rw[hz]at this;exact this
 refine⟨⟨_,he,rfl⟩,h _ he ⟨_,afS _ (af3 _ rfl),rfl,rfl⟩ (by rw[agt,hz]) λb o x=>afS _ (afS _ x)⟩
end
end PySem
namespace L2
open PySem PySem.Spec PyProof.Rows
section
variable {X:Cx}{pins:List (Ξ×Obj)}{σ:St}{H:Hp}{s:Ψ}{K:ξ}
theorem aa3{a b:Ξ}{xs:List V}(I:Inv X pins σ H s) (f:g8 X pins H b) (q:cO X.K H a xs):a≠b:=by
 rintro rfl
 rcases q with(q|⟨o,q⟩)|⟨o,its,n,q,_⟩
 ·rw[f.1]at q;cases q
 ·rw[f.1]at q;cases q
 ·have e:=I.ok.mod.mj a o q
  rcases f.2.2.2.1 with z|z
  ·exact I.ok.lR _ _ e z
  ·exact absurd (af2 (afU e) (agg I.ok.jb z)) (agB _)
theorem aa4{a b:Ξ}{xs:List V}(I:Inv X pins σ H s) (f:g8 X pins H b) (q:b9 X.K H a xs):a≠b:=by
 rintro rfl
 rcases q with(q|⟨o,q⟩)|⟨o,its,n,q,_⟩
 ·rw[f.1]at q;cases q
 ·rw[f.1]at q;cases q
 ·have e:=I.ok.mod.mj a o q
  rcases f.2.2.2.1 with z|z
  ·exact I.ok.lR _ _ e z
  ·exact absurd (af2 (afU e) (agg I.ok.jb z)) (agB _)
theorem Inv.HL{h':υ}{t':Nat}{ch:List Ξ}{T:Ξ}{vs:List V}{us:List Γ}(I:Inv X pins σ H s) (hf:∀b∈ch,g8 X pins H b) (k:∀b o,b∉ch->s.heap.get? b=ζ o->h'.get? b=ζ o)
  (hT:s.heap.objs.size<=T) (th:∀b∈ch,∃o,h'.get? b=ζ o) (rv:Vals vs us) (hz:vs.length<=Ω) (tup:lz h' T us.toArray):Inv X pins σ (upd H T (.tup vs)) {s with heap:=h',toks:=t'}:=by
 have hn:H T=η:=I.hok.fresh hT;have jX:∀b u,H b=ζ u->b∉ch:=λb u e z=>by rw[(hf b z).1]at e;cases e
 refine I.step (g':=s.gens) (d':=s.drawn) (ch:=ch) (λb hb=>?_) (λb o _ _ hc e _=>k b o hc e) (λb o _ _ hc e _=>⟨o.slots,k b o hc e⟩) (λb o _ e n=>?_)
  (λb o hc e=>⟨o,k b o hc e⟩) (λb xs e=>by rw[cB (eB e hn)];exact e) (λb o u e=>by rw[cB (eB e hn)];exact e) (λb ps e=>⟨#[],by rw[cB (eB e hn),e];simp⟩) (λm hm=>?_) (λb u e=>?_) I.bare
 ·obtain⟨f0,f1,f2,f3,f4,f5⟩:=hf b hb;exact⟨f3,f1,f4,f5⟩
 ·rw[cB (afZ (af2 (afU e) hT))];exact n
 ·obtain⟨o,es,ep,ho,r⟩:=hm;exact⟨o,es,ep,k _ o (λz=>(hf _ z).2.1 rfl) ho,r⟩
 ·by_cases hb:b=T
  ·subst hb;rw[fU]at e;cases e;exact⟨hz,us,rv,tup⟩
  ·rw[cB hb]at e;refine(I.hok b u e).stay (λc v hc q=>k c v ?_ q) (λc q=>by rw[cB (eB q hn)];exact q) λc xs q=>by rw[cB (eB q hn)];exact q
   rcases hc with z|z
   ·rw[z];exact jX b u e
   ·exact jX c _ z
theorem Inv.HM{h':υ}{t':Nat}{ch:List Ξ}(I:Inv X pins σ H s) (hf:∀b∈ch,g8 X pins H b) (k:∀b o,b∉ch->s.heap.get? b=ζ o->h'.get? b=ζ o):Inv X pins σ H {s with heap:=h',toks:=t'}:=by
 have jX:∀b u,H b=ζ u->b∉ch:=λb u e z=>by rw[(hf b z).1]at e;cases e
 refine I.step (g':=s.gens) (d':=s.drawn) (ch:=ch) (λb hb=>?_) (λb o _ _ hc e _=>k b o hc e) (λb o _ _ hc e _=>⟨o.slots,k b o hc e⟩) (λb o _ e n=>n)
  (λb o hc e=>⟨o,k b o hc e⟩) (λb xs e=>e) (λb o u e=>e) (λb ps e=>⟨#[],by rw[e];simp⟩) (λm hm=>?_) (λb u e=>?_) I.bare
 ·obtain⟨f0,f1,f2,f3,f4,f5⟩:=hf b hb;exact⟨f3,f1,f4,f5⟩
 ·obtain⟨o,es,ep,ho,r⟩:=hm;exact⟨o,es,ep,k _ o (λz=>(hf _ z).2.1 rfl) ho,r⟩
 ·refine(I.hok b u e).stay (λc v hc q=>k c v ?_ q) (λc q=>q) λc xs q=>q
  rcases hc with z|z
  ·rw[z];exact jX b u e
  ·exact jX c _ z
end
structure Bc (P:π) (w:χ) (K:ξ) (Sq:Hp->Ξ->List V->Prop) (kj:υ->Ξ->Ξ->Nat->Prop) (uL:υ->Ξ->Array Γ->Prop):Prop where
 get:∀{X:Cx}{pins:List (Ξ×Obj)}{σ:St}{H:Hp}{s:Ψ}{a:Ξ}{xs:List V},X.K=K->Inv X pins σ H s->Sq H a xs->∃its:List Γ,Vals xs its/\uL s.heap a its.toArray/\xs.length<=Ω
 inj:∀{X:Cx}{pins:List (Ξ×Obj)}{σ:St}{H:Hp}{s:Ψ}{a:Ξ}{xs ys:List V},X.K=K->Inv X pins σ H s->Sq H a xs->Sq H a ys->xs=ys
 ne:∀{X:Cx}{pins:List (Ξ×Obj)}{σ:St}{H:Hp}{s:Ψ}{a b:Ξ}{xs:List V},X.K=K->Inv X pins σ H s->g8 X pins H b->Sq H a xs->a≠b
 mJ:∀(A:ω) (it l:Ξ) (items:Array Γ),A.handled=η->l≠it->aaI P w A it [it,l] items.size (λi v=>items[i]? = ζ v) (λi h=>kj h it l i/\uL h l items)
 obj:∀{h:υ}{it l:Ξ}{i:Nat},kj h it l i->∃o,h.get? it=ζ o/\∀v,o.data≠.cell v
 at':∀{h h':υ}{it l:Ξ}{i:Nat},kj h it l i->(∀o,h.get? it=ζ o->h'.get? it=ζ o)->kj h' it l i
theorem IT{P:π}{w:χ}{K:ξ}:Bc P w K (cO K) (λh it l i=>h.IsTupleIter it l i) (λh a xs=>h.IsTuple a xs) where
 get:=λe I q=>by subst e;obtain⟨its,r,p,z⟩:=I.tuple q;exact⟨its,r,p,z⟩
 inj:=λe I q q'=>by subst e;exact I.HP q q'
 ne:=λe I f q=>by subst e;exact aa3 I f q
 mJ:=λA it l items hh hne=>Draws.tuple hh it l hne items
 obj:=λst=>by obtain⟨o,e,c,d⟩:=st;exact⟨o,e,λv z=>by rw[d]at z;cases z⟩
 at':=λst k=>st.at k
theorem Si{P:π}{w:χ}{K:ξ}:Bc P w K (b9 K) (λh it l i=>h.IsListIter it l i) (λh a xs=>h.IsList a xs) where
 get:=λe I q=>by subst e;obtain⟨its,r,p,z⟩:=I.list q;exact⟨its,r,p.isList,z⟩
 inj:=λe I q q'=>by subst e;exact I.Ed q q'
 ne:=λe I f q=>by subst e;exact aa4 I f q
 mJ:=λA it l items hh hne=>Draws.list hh it l hne items
 obj:=λst=>by obtain⟨o,e,c,d⟩:=st;exact⟨o,e,λv z=>by rw[d]at z;cases z⟩
 at':=λst k=>st.at k
def Bh(Sq:Hp->Ξ->List V->Prop) (a1 a2:Ξ):It :=
  ⟨λi H=>∃xs ys x y,Sq H a1 xs/\Sq H a2 ys/\xs[i]? = ζ x/\ys[i]? = ζ y,
   λi H v H'=>∃t x y,v=.ref t/\H t=η/\H'=upd H t (.tup [x,y])/\∀xs ys,Sq H a1 xs->Sq H a2 ys->xs[i]? = ζ x/\ys[i]? = ζ y,
   λi H=>∃xs ys,Sq H a1 xs/\Sq H a2 ys/\(i=xs.length\/(i<xs.length/\i=ys.length))⟩
def G0(Sq:Hp->Ξ->List V->Prop) (a:Ξ):It :=
  ⟨λi H=>∃xs x,Sq H a xs/\xs[i]? = ζ x,
   λi H v H'=>∃t x,v=.ref t/\H t=η/\H'=upd H t (.tup [.int i,x])/\∀xs,Sq H a xs->xs[i]? = ζ x,
   λi H=>∃xs,Sq H a xs/\i=xs.length⟩
theorem yi{xs:List V}{us:List Γ}{i:Nat}{u:Γ}(r:Vals xs us) (h:us.toArray[i]? = ζ u):∃x,xs[i]? = ζ x/\RelV x u:=by
 have h':us[i]? = ζ u:=by simpa using h
 have hi:i<xs.length:=by rw[r.length];exact(af8.mp h').1
 obtain⟨u',e,q⟩:=r.get (i:=i) (x:=xs[i]) (afV hi);rw[h']at e;cases e;exact⟨xs[i],afV hi,q⟩
theorem HN{P:π}{w:χ}{K:ξ}{Sq:Hp->Ξ->List V->Prop}{kj:υ->Ξ->Ξ->Nat->Prop}{uL:υ->Ξ->Array Γ->Prop}(S:Bc P w K Sq kj uL) {es:List ν}{k:Nat}{pt:Pos}(a1 a2 z TI TO i1 i2:Ξ)
  (n1:TI≠z) (n2:TO≠z) (n3:TI≠TO) (n4:TI≠i1) (n5:TI≠i2) (n6:TO≠i1) (n7:TO≠i2) (n8:i1≠z) (n9:i2≠z) (tP:i1≠i2) :
  Turn P w K (.Tuple es k pt) (Bh Sq a1 a2) [z,TI,TO,i1,i2] z (λi h=>aay h z TI TO .none/\aak h TI (.ref i1) (.ref i2)/\(∃a b,aak h TO a b)/\kj h i1 a1 i/\kj h i2 a2 i) where
 mem:=by simp
 obj:=λi h st b hb=>by
  obtain⟨hz,hTI,⟨a,b',hTO⟩,h1,h2⟩:=st;simp only[afT,af5,or_false]at hb
  rcases hb with rfl|rfl|rfl|rfl|rfl
  ·exact⟨_,hz,λv q=>nomatch q⟩
  ·exact⟨_,hTI,λv q=>nomatch q⟩
  ·exact⟨_,hTO,λv q=>nomatch q⟩
  ·exact S.obj h1
  ·exact S.obj h2
 keep:=λi h h' st kp=>by
  obtain⟨hz,hTI,⟨a,b,hTO⟩,h1,h2⟩:=st;exact⟨kp _ (by simp) _ hz,kp _ (by simp) _ hTI,⟨a,b,kp _ (by simp) _ hTO⟩,S.at' h1 λo e=>kp _ (by simp) o e,S.at' h2 λo e=>kp _ (by simp) o e⟩
 item:=by
  intro X hP hw hK hc i pins s σ H E I hf st hg;subst hP hw;obtain⟨xs,ys,x,y,q1,q2,hx,hy⟩:=hg;obtain⟨hz,hTI,⟨a,b,hTO⟩,h1,h2⟩:=st;obtain⟨us,r1,p1,l1⟩:=S.get hK I q1;obtain⟨vs,r2,p2,l2⟩:=S.get hK I q2;have ne1:∀{b:Ξ},b∈[z,TI,TO,i1,i2]->a1≠b:=λhb=>S.ne hK I (hf _ hb) q1
  have ne2:∀{b:Ξ},b∈[z,TI,TO,i1,i2]->a2≠b:=λhb=>S.ne hK I (hf _ hb) q2
  have hx':i<us.toArray.size:=by have:=(af8.mp hx).1;have:=r1.length;simp;omega
  have hy':i<vs.toArray.size:=by have:=(af8.mp hy).1;have:=r2.length;simp;omega
  have D:ZA z TI TO i1 i2 [i1,a1] [i2,a2]:=⟨n1,n2,n3,n4,n5,by simp,by simp,by simp only[afT,af5,or_false,not_or];exact⟨n8.symm,(ne1 (by simp)).symm⟩,by simp only[afT,af5,or_false,not_or];exact⟨n9.symm,(ne2 (by simp)).symm⟩,
   by simp only[afT,af5,or_false,not_or];exact⟨n6,(ne1 (by simp)).symm⟩,by simp only[afT,af5,or_false,not_or];exact⟨n7,(ne2 (by simp)).symm⟩,
   by simp only[afT,af5,or_false,not_or];exact⟨tP,(ne2 (by simp)).symm⟩,by simp only[afT,af5,or_false,not_or];exact⟨tP.symm,(ne1 (by simp)).symm⟩⟩
  refine Ua D (S.mJ X.A.in1 i1 a1 us.toArray (I.ok.hd hc) (ne1 (by simp))) (S.mJ X.A.in1 i2 a2 vs.toArray (I.ok.hd hc) (ne2 (by simp))) hz hTI hTO ⟨h1,p1⟩ ⟨h2,p2⟩ hx' hy' λu v h' tk pu pv hz' Mw s1 s2 hT kp=>?_
  refine⟨_,rfl,?_⟩;refine wpAny_letOwnedTupleGo_zip (s:={s with heap:=h',toks:=tk}) hz' λh'' L7 mw=>?_
  obtain⟨x',ex,rx⟩:=yi r1 pu;obtain⟨y',ey,ry⟩:=yi r2 pv;have lt:∀{c:Ξ}{o:Obj},s.heap.get? c=ζ o->c≠s.heap.objs.size:=λe=>afZ (afU e)
  have wk:∀c o,c∉[z,TO,i1,i2]->s.heap.get? c=ζ o->h''.get? c=ζ o:=λc o hcn e=>by
   simp only[afT,af5,or_false,not_or]at hcn;exact mw.extBut _ _ hcn.1 (kp c o hcn.1 hcn.2.1 hcn.2.2.1 hcn.2.2.2 e)
  have hT2:lz h'' s.heap.objs.size [u,v].toArray:=⟨_,mw.extBut _ _ (lt hz).symm hT,rfl,⟨_,rfl⟩,rfl⟩;have I2:Inv X pins σ (upd H s.heap.objs.size (.tup [x',y'])) {s with heap:=h'',toks:=tk}:=by
   refine I.HL (ch:=[z,TO,i1,i2]) (us:=[u,v]) (λb hb=>hf b ?_) wk (afQ _) (λb hb=>?_) (.cons rx (.cons ry .nil)) (by show 2<=Ω;decide) hT2
   ·simp only[afT,af5,or_false]at hb ⊢
    rcases hb with rfl|rfl|rfl|rfl<;>simp
   ·simp only[afT,af5,or_false]at hb
    rcases hb with rfl|rfl|rfl|rfl
    ·exact⟨_,L7⟩
    ·exact⟨_,mw.extBut _ _ n2 Mw⟩
    ·obtain⟨o,e,_⟩:=S.obj s1.1;exact⟨_,mw.extBut _ _ n8 e⟩
    ·obtain⟨o,e,_⟩:=S.obj s2.1;exact⟨_,mw.extBut _ _ n9 e⟩
  refine⟨.ref s.heap.objs.size,_,I2,rfl,⟨_,x',y',rfl,I.hok.fresh (afQ _),rfl,λxs' ys' w1 w2=>?_⟩,⟨L7,?_,⟨_,_,mw.extBut _ _ n2 Mw⟩,S.at' s1.1 λo e=>mw.extBut _ _ n8 e,S.at' s2.1 λo e=>mw.extBut _ _ n9 e⟩,λb hb=>?_⟩
  ·rw[S.inj hK I w1 q1,S.inj hK I w2 q2];exact⟨ex,ey⟩
  ·exact mw.extBut _ _ n1 (kp _ _ n1 n3 n4 n5 hTI)
  ·have hb':b≠s.heap.objs.size:=by
    simp only[afT,af5,or_false]at hb
    rcases hb with rfl|rfl|rfl|rfl|rfl
    ·exact lt hz
    ·exact lt hTI
    ·exact lt hTO
    ·obtain⟨o,e,_⟩:=S.obj h1;exact lt e
    ·obtain⟨o,e,_⟩:=S.obj h2;exact lt e
   rw[cB hb'];exact(hf b hb).1
 done:=by
  intro X hP hw hK hc i pins s σ H E I hf st hg;subst hP hw;obtain⟨xs,ys,q1,q2,hend⟩:=hg;obtain⟨hz,hTI,⟨a,b,hTO⟩,h1,h2⟩:=st;obtain⟨us,r1,p1,l1⟩:=S.get hK I q1;obtain⟨vs,r2,p2,l2⟩:=S.get hK I q2;have ne1:∀{b:Ξ},b∈[z,TI,TO,i1,i2]->a1≠b:=λhb=>S.ne hK I (hf _ hb) q1
  have ne2:∀{b:Ξ},b∈[z,TI,TO,i1,i2]->a2≠b:=λhb=>S.ne hK I (hf _ hb) q2
  have D:ZA z TI TO i1 i2 [i1,a1] [i2,a2]:=⟨n1,n2,n3,n4,n5,by simp,by simp,by simp only[afT,af5,or_false,not_or];exact⟨n8.symm,(ne1 (by simp)).symm⟩,by simp only[afT,af5,or_false,not_or];exact⟨n9.symm,(ne2 (by simp)).symm⟩,
   by simp only[afT,af5,or_false,not_or];exact⟨n6,(ne1 (by simp)).symm⟩,by simp only[afT,af5,or_false,not_or];exact⟨n7,(ne2 (by simp)).symm⟩,
   by simp only[afT,af5,or_false,not_or];exact⟨tP,(ne2 (by simp)).symm⟩,by simp only[afT,af5,or_false,not_or];exact⟨tP.symm,(ne1 (by simp)).symm⟩⟩
  have e1:=r1.length;have e2:=r2.length;refine Ub D (S.mJ X.A.in1 i1 a1 us.toArray (I.ok.hd hc) (ne1 (by simp))) (S.mJ X.A.in1 i2 a2 vs.toArray (I.ok.hd hc) (ne2 (by simp))) hz hTI hTO (k:=i) ⟨h1,p1⟩ ⟨h2,p2⟩ (by simp only[af4];omega) λh' tk kp=>?_
  refine⟨rfl,I.HM (ch:=[z,TO,i1,i2]) (λb hb=>hf b ?_) λc o hcn e=>?_⟩
  ·simp only[afT,af5,or_false]at hb ⊢
   rcases hb with rfl|rfl|rfl|rfl<;>simp
  ·simp only[afT,af5,or_false,not_or]at hcn;exact kp c o hcn.1 hcn.2.1 hcn.2.2.1 hcn.2.2.2 e
 self:=λA i s Q E st h=>ai0 st.1 h
theorem Qa{P:π}{w:χ}{K:ξ}{Sq:Hp->Ξ->List V->Prop}{kj:υ->Ξ->Ξ->Nat->Prop}{uL:υ->Ξ->Array Γ->Prop}(S:Bc P w K Sq kj uL) {es:List ν}{k:Nat}{pt:Pos}(a e it:Ξ) (n1:e≠it) :
  Turn P w K (.Tuple es k pt) (G0 Sq a) [e,it] e (λi h=>(∃old,IsEnum h e it i old)/\kj h it a i) where
 mem:=by simp
 obj:=λi h st b hb=>by
  obtain⟨⟨old,hz⟩,h1⟩:=st;simp only[afT,af5,or_false]at hb
  rcases hb with rfl|rfl
  ·exact⟨_,hz,λv q=>nomatch q⟩
  ·exact S.obj h1
 keep:=λi h h' st kp=>by
  obtain⟨⟨old,hz⟩,h1⟩:=st;exact⟨⟨old,kp _ (by simp) _ hz⟩,S.at' h1 λo e=>kp _ (by simp) o e⟩
 item:=by
  intro X hP hw hK hc i pins s σ H E I hf st hg;subst hP hw;obtain⟨xs,x,q1,hx⟩:=hg;obtain⟨⟨old,hz⟩,h1⟩:=st;obtain⟨us,r1,p1,l1⟩:=S.get hK I q1;have ne1:∀{b:Ξ},b∈[e,it]->a≠b:=λhb=>S.ne hK I (hf _ hb) q1
  have hx':i<us.toArray.size:=by have:=(af8.mp hx).1;have:=r1.length;simp;omega
  have W:=WalksT.enumerateD (A:=X.A) (S.mJ X.A.in1 it a us.toArray (I.ok.hd hc) (ne1 (by simp))) e n1 (by simp only[afT,af5,or_false,not_or];exact⟨n1,(ne1 (by simp)).symm⟩) (by simp)
  refine wpAny_pyNext_enum_itemD (S.mJ X.A.in1 it a us.toArray (I.ok.hd hc) (ne1 (by simp))) hz ⟨h1,p1⟩ hx' n1 (by simp only[afT,af5,or_false,not_or];exact⟨n1,(ne1 (by simp)).symm⟩) λu0 h' tk0 Uh Z3 hs0 hT0 hsz0 hk0=>?_
  have hilt:it<s.heap.objs.size:=by obtain⟨o,e3,_⟩:=S.obj h1;exact afU e3
  have hT:s.heap.objs.size<=s.heap.objs.size:=afQ _;have mid:(∃x,IsEnumOut h' e it ((i:Int)+1) x s.heap.objs.size)/\_/\s.heap.objs.size≠e/\s.heap.objs.size≠it:=⟨⟨_,Z3⟩,hs0,agH (afU hz),agH hilt⟩;have kp:∀b o,b∉[e,it]->s.heap.get? b=ζ o->h'.get? b=ζ o:=λb o hb y=>hk0 b o (λe'=>hb (by simp[e'])) (λe'=>hb (by simp[e'])) y
  refine⟨_,rfl,?_⟩;refine W.go es k pt i s.heap.objs.size {s with heap:=h',toks:=tk0+1} _ _ mid λh'' st'' LB=>?_
  obtain⟨x',ex,rx⟩:=yi r1 Uh;have lt:∀{c:Ξ}{o:Obj},s.heap.get? c=ζ o->c≠s.heap.objs.size:=λq=>afZ (afU q)
  have hT2:lz h'' s.heap.objs.size [.int i tk0,u0].toArray:=⟨_,LB _ _ (W.apart _ _ _ mid) hT0,rfl,⟨_,rfl⟩,rfl⟩;have I2:Inv X pins σ (upd H s.heap.objs.size (.tup [.int i,x'])) {s with heap:=h'',toks:=tk0+1}:=by
   refine I.HL (ch:=[e,it]) (us:=[.int i tk0,u0]) hf (λc o hcn e1=>LB _ _ hcn (kp c o hcn e1)) hT (λb hb=>?_) (.cons ⟨tk0,rfl⟩ (.cons rx .nil)) (by show 2<=Ω;decide) hT2
   simp only[afT,af5,or_false]at hb
   rcases hb with rfl|rfl
   ·obtain⟨⟨o2,e2⟩,_⟩:=st'';exact⟨_,e2⟩
   ·obtain⟨_,e2,_⟩:=st'';obtain⟨o,e3,_⟩:=S.obj e2;exact⟨o,e3⟩
  refine⟨.ref s.heap.objs.size,_,I2,rfl,⟨_,x',rfl,I.hok.fresh hT,rfl,λxs' w1=>?_⟩,⟨?_,st''.2.1⟩,λb hb=>?_⟩
  ·rw[S.inj hK I w1 q1];exact ex
  ·obtain⟨⟨o2,e2⟩,_⟩:=st'';exact⟨o2,by simpa using e2⟩
  ·have hb':b≠s.heap.objs.size:=by
    simp only[afT,af5,or_false]at hb
    rcases hb with rfl|rfl
    ·exact lt hz
    ·obtain⟨o,e3,_⟩:=S.obj h1;exact lt e3
   rw[cB hb'];exact(hf b hb).1
 done:=by
  intro X hP hw hK hc i pins s σ H E I hf st hg;subst hP hw;obtain⟨xs,q1,hend⟩:=hg;obtain⟨⟨old,hz⟩,h1⟩:=st;obtain⟨us,r1,p1,l1⟩:=S.get hK I q1;have ne1:∀{b:Ξ},b∈[e,it]->a≠b:=λhb=>S.ne hK I (hf _ hb) q1
  have W:=WalksT.enumerateD (A:=X.A) (S.mJ X.A.in1 it a us.toArray (I.ok.hd hc) (ne1 (by simp))) e n1 (by simp only[afT,af5,or_false,not_or];exact⟨n1,(ne1 (by simp)).symm⟩) (by simp)
  have ei:i=us.toArray.size:=by rw[af4,<-r1.length];exact hend
  subst ei;refine W.done s _ _ ⟨⟨old,hz⟩,h1,p1⟩ λh' tk kp=>⟨rfl,I.HM (ch:=[e,it]) hf kp⟩
 self:=λA i s Q E st h=>by
  obtain⟨⟨old,hz⟩,h1⟩:=st;exact wpAny_pyIter_enum hz h
section
variable {X:Cx}{es':List ν}{kt:Nat}{pt:Pos}
def L1(Sq:Hp->Ξ->List V->Prop) (ta:TA):TI:=λσ H R=>ta σ H λvs H1=>∃a b,vs=[.ref a,.ref b]/\(∃xs ys,Sq H1 a xs/\Sq H1 b ys)/\R (Bh Sq a b) H1
def ZF(Sq:Hp->Ξ->List V->Prop) (ta:TA):TI:=λσ H R=>ta σ H λvs H1=>∃a,vs=[.ref a]/\(∃xs,Sq H1 a xs)/\R (G0 Sq a) H1
theorem Bm{pins:List (Ξ×Obj)}{σ:St}{H:Hp}{s:Ψ}{n:Nat}(I:Inv X pins σ H s) (hn:s.heap.objs.size=n):∀b∈[n+4,n+2,n+3,n,n+1],g8 X pins H b:=λb hb=>by
 have:s.heap.objs.size<=b:=by
  simp only[afT,af5,or_false]at hb
  rcases hb with rfl|rfl|rfl|rfl|rfl<;>rw[hn]
  ·exact ahH _ _
  ·exact ahH _ _
  ·exact ahH _ _
  ·exact afQ _
  ·exact ahH _ _
 exact I.uh this (I.hok.fresh this)
theorem U3{a b:ν}{ta:TA}{p pos:Pos}(hg:Gl X "zip") (hm:X.mg "zip"=η) (ha:PA X [a,b] ta) (hs:ε [a,b] X.env=[(Θ,eval a X.env),(Θ,eval b X.env)]:=by rfl) (hs2:ε [b] X.env=[(Θ,eval b X.env)]:=by rfl) :
  PI X (.Tuple es' kt pt) (.Call (.Name "zip" p) [a,b] [] pos) (L1 (cO X.K) ta):=by
 intro pins s σ H R I h;refine Call_ (kP I hg hm boot_zip (ahd (bR (ha pos pins s σ H _ I h) λus s1 ⟨vs,H1,I1,r1,q1⟩=>?_) (by rw[hs,hs2]) (by rw[hs2];rfl)))
 obtain⟨a1,a2,e,⟨xs,ys,q1,q2⟩,q⟩:=q1;subst e;cases r1 with
 |cons r rr =>
  cases rr with
  |cons r' rr =>
   cases rr;cases r;cases r';obtain⟨us,ru,pu,lu⟩:=I1.tuple q1;obtain⟨vs,rv,pv,lv⟩:=I1.tuple q2;refine acA pu pv λh' hz hTI hTO t1 t2 kp=>ai0 hz ?_
   generalize hn:s1.heap.objs.size=n at hz hTI hTO t1 t2
   have ne:∀{i j:Nat},i≠j->n+i≠n+j:=λh e=>h (aiq e)
   have lU:∀{i:Nat},i≠0->n+i≠n:=λh e=>h (aiq (e.trans (ahU n).symm))
   refine⟨n+4,_,_,_,H1,rfl,I1.kept (t':=s1.toks) kp,HN IT a1 a2 (n+4) (n+2) (n+3) n (n+1) (ne (by decide)) (ne (by decide)) (ne (by decide)) (lU (by decide)) (ne (by decide)) (lU (by decide)) (ne (by decide)) (lU (by decide)).symm (ne (by decide)) (lU (by decide)).symm,⟨hz,hTI,⟨_,_,hTO⟩,t1,t2⟩,Bm I1 hn,q⟩
theorem U4{a b:ν}{ta:TA}{p pos:Pos}(hg:Gl X "zip") (hm:X.mg "zip"=η) (ha:PA X [a,b] ta) (hs:ε [a,b] X.env=[(Θ,eval a X.env),(Θ,eval b X.env)]:=by rfl) (hs2:ε [b] X.env=[(Θ,eval b X.env)]:=by rfl) :
  PI X (.Tuple es' kt pt) (.Call (.Name "zip" p) [a,b] [] pos) (L1 (b9 X.K) ta):=by
 intro pins s σ H R I h;refine Call_ (kP I hg hm boot_zip (ahd (bR (ha pos pins s σ H _ I h) λus s1 ⟨vs,H1,I1,r1,q1⟩=>?_) (by rw[hs,hs2]) (by rw[hs2];rfl)))
 obtain⟨a1,a2,e,⟨xs,ys,q1,q2⟩,q⟩:=q1;subst e;cases r1 with
 |cons r rr =>
  cases rr with
  |cons r' rr =>
   cases rr;cases r;cases r';obtain⟨us,ru,pu,lu⟩:=I1.list q1;obtain⟨vs,rv,pv,lv⟩:=I1.list q2;refine call_zip_2 pu.isList pv.isList λh' hz hTI hTO t1 t2 _ kp=>ai0 hz ?_
   generalize hn:s1.heap.objs.size=n at hz hTI hTO t1 t2
   have ne:∀{i j:Nat},i≠j->n+i≠n+j:=λh e=>h (aiq e)
   have lU:∀{i:Nat},i≠0->n+i≠n:=λh e=>h (aiq (e.trans (ahU n).symm))
   refine⟨n+4,_,_,_,H1,rfl,I1.kept (t':=s1.toks) kp,HN Si a1 a2 (n+4) (n+2) (n+3) n (n+1) (ne (by decide)) (ne (by decide)) (ne (by decide)) (lU (by decide)) (ne (by decide)) (lU (by decide)) (ne (by decide)) (lU (by decide)).symm (ne (by decide)) (lU (by decide)).symm,⟨hz,hTI,⟨_,_,hTO⟩,t1,t2⟩,Bm I1 hn,q⟩
theorem Vb{a:ν}{ta:TA}{p pos:Pos}(hg:Gl X "enumerate") (hm:X.mg "enumerate"=η) (ha:PA X [a] ta) (hs:ε [a] X.env=[(Θ,eval a X.env)]:=by rfl) :
  PI X (.Tuple es' kt pt) (.Call (.Name "enumerate" p) [a] [] pos) (ZF (cO X.K) ta):=by
 intro pins s σ H R I h;refine Call_ (kP I hg hm boot_enumerate (ahd (bR (ha pos pins s σ H _ I h) λus s1 ⟨vs,H1,I1,r1,q1⟩=>?_) hs rfl))
 obtain⟨a1,e,⟨xs,q1⟩,q⟩:=q1;subst e;cases r1 with
 |cons r rr =>
  cases rr;cases r;obtain⟨us,ru,pu,lu⟩:=I1.tuple q1;refine acI pu λh' hz t1 _ kp=>wpAny_pyIter_enum hz ?_
  generalize hn:s1.heap.objs.size=n at hz t1
  refine⟨n+1,_,_,_,H1,rfl,I1.kept (t':=s1.toks) kp,Qa IT a1 (n+1) n (agH (agY _)),⟨⟨_,hz⟩,t1⟩,λb hb=>?_,q⟩
  refine Bm I1 hn b ?_;simp only[afT,af5,or_false]at hb
  rcases hb with rfl|rfl<;>simp
end
section
variable {X:Cx}
theorem Qh{A:ω}{bs:List Bool}{its:List Γ}(r:Vals (bs.map V.bl) its):TruthOf X.prog X.w A (λi v=>its.toArray[i]? = ζ v) (λi=>bs.getD i Θ):=by
 intro i v s Q E hP hQ;obtain⟨x,ex,rx⟩:=yi r hP;rw[af6]at ex;cases e:bs[i]? with
 |none=>rw[e]at ex;cases ex
 |some b =>
  rw[e]at ex;cases ex;cases rx;refine ahl ?_;have:bs.getD i Θ=b:=by rw[aga,e];rfl
  have hQ:Q (bs.getD i Θ) s:=hQ;rw[this]at hQ;exact hQ
theorem range_any(bs:List Bool):((θ bs.length).any λi=>bs.getD i Θ)=bs.any id:=by
 rw[ahe,aha,aha]
 constructor
 ·rintro ⟨i,hi,h⟩
  have hi:=afR.mp hi;rw[aga,afV hi]at h;exact⟨_,agi hi,h⟩
 ·rintro ⟨b,hb,h⟩
  obtain⟨i,hi,e⟩:=ahr.mp hb;refine⟨i,afR.mpr hi,?_⟩;rw[aga,afV hi,e];exact h
theorem Og{pins:List (Ξ×Obj)}{σ:St}{H:Hp}{s:Ψ}{h':υ}{tk:Nat}{o:Obj}(I:Inv X pins σ H s) (kp:∀b q,b∉[s.heap.objs.size]->(s.heap.push o).get? b=ζ q->h'.get? b=ζ q):Inv X pins σ H {s with heap:=h',toks:=tk} :=
 I.kept λb q e=>kp b q (by simp only[afT,af5,or_false];exact afZ (afU e)) (afS _ e)
theorem acJ(hc:X.calm=Δ):fB X (.builtin "any") (λxs H Q=>∃(p:Ξ) (bs:List Bool),xs=[.ref p]/\b9 X.K H p (bs.map V.bl)/\Q (.bl (bs.any id)) H):=by
 intro pins s σ H xs us Q I r h;obtain⟨p,bs,rfl,hp,q⟩:=h;obtain⟨u,rfl,ru⟩:=agF r;cases ru;obtain⟨its,rv,pl,hz⟩:=I.list hp;have hL:=pl.isList;have Ez:p≠s.heap.objs.size:=by obtain⟨o,e,_⟩:=hL;exact afZ (afU e)
 refine call_any_walk (aif hL ⟨s.heap.objs.size,_,_,its.toArray.size,_,_,λi=>bs.getD i Θ,rfl,Walks.list (A:=X.A.in1) (I.ok.hd hc) s.heap.objs.size p Ez its.toArray,⟨⟨_,af3 _ rfl,rfl,rfl⟩,hL.push _⟩,Qh rv,λh' tk kp=>?_⟩)
 have hl:=rv.length;rw[afY]at hl;have I1:Inv X pins σ H {s with heap:=h',toks:=tk}:=Og I kp
 refine⟨.bl (bs.any id),H,I1,?_,q⟩;show Value.bool _=Value.bool _;rw[af4,<-hl,range_any]
def tyName(H:Hp):V->String->Prop
 |.aL,n=>n="NoneType"
 |.bl _,n=>n="bool"
 |.int _,n=>n="int"
 |.str _,n=>n="str"
 |.ref a,n=>(n="list"/\((∃xs,H a=ζ (.lst xs))\/∃o xs,H a=ζ (.dF o (.lst xs))))\/(n="tuple"/\∃xs,H a=ζ (.tup xs))\/(n="dict"/\((∃k,H a=ζ (.dK k))\/∃k,H a=ζ (.dT k)))
 |_,_=>False
theorem PV{K:ξ}{H:Hp}{x:V}{n:String}(h:tyName H x n):ju K H x (.type n):=by
 cases x with
 |aL=>cases(show n="NoneType" from h);exact .aL
 |bl b=>cases(show n="bool" from h);exact .bl b
 |int b=>cases(show n="int" from h);exact .int b
 |str b=>cases(show n="str" from h);exact .str b
 |ref a =>
  rcases h with⟨rfl,⟨xs,e⟩|⟨o,xs,e⟩⟩|⟨rfl,xs,e⟩|⟨rfl,⟨k,e⟩|⟨k,e⟩⟩
  ·exact .lst e
  ·exact .dF e
  ·exact .tup e
  ·exact .dK e
  ·exact .dT e
 |_=>exact False.elim h
def uZ(n T:String):Bool:=n==T||(n=="bool"&&T=="int")
def Y0(n T:String):Option Bool:=if(Value.type n==Value.type T)=Δ then ζ Δ else if PySem.W.kitMeta T=Δ then(fastBuiltinMro n).map (·.contains (Value.type T))else η
theorem LC{K:ξ}{n T:String}(hn:n∈["NoneType","bool","int","str","list","tuple","dict"]) (hT:T∈["bool","int","str","list","tuple","dict"]):PySem.W.kitOne K (.type n) (.type T)=ζ (uZ n T):=by
 show Y0 n T=ζ (uZ n T);simp only[afT,af5,or_false]at hn hT
 rcases hn with rfl|rfl|rfl|rfl|rfl|rfl|rfl<;>rcases hT with rfl|rfl|rfl|rfl|rfl|rfl<;>decide +kernel
theorem PX{H:Hp}{x:V}{n:String}(h:tyName H x n):n∈["NoneType","bool","int","str","list","tuple","dict"]:=by
 cases x with
 |aL=>cases(show n="NoneType" from h);simp
 |bl b=>cases(show n="bool" from h);simp
 |int b=>cases(show n="int" from h);simp
 |str b=>cases(show n="str" from h);simp
 |ref a=>rcases h with⟨rfl,_⟩|⟨rfl,_⟩|⟨rfl,_⟩<;>simp
 |_=>exact False.elim h
theorem acH:fB X (.builtin "isinstance") (λxs H Q=>∃x n T,xs=[x,.ty T]/\tyName H x n/\T∈["bool","int","str","list","tuple","dict"]/\Q (.bl (uZ n T)) H):=by
 intro pins s σ H xs us Q I r h;obtain⟨x,n,T,rfl,hx,hT,q⟩:=h;obtain⟨u,v,rfl,ru,rv⟩:=Vals.two r;cases(show v=Value.type T from rv)
 exact Zk I ru (PV hx) (LC (PX hx) hT) λtk=>⟨.bl _,H,I.tok tk,rfl,q⟩
end
def abp(ea C:Ξ):υ->Prop:=λh=>∃o,h.get? ea=ζ o/\o.cls=.ref C
def abD(a:Ξ):υ->Prop:=PySem.W.KitAt a "dict"
structure Def (K:ξ) (mg:Str->Option Γ) (x:Str) (st:ψ) (ps:List Str) (f:Ξ) (fd:aag):Prop where
 fn:lC K x x st f fd
 at':mg x=ζ (.ref f)
 bd:Binds K fd ps []
section
variable {X:Cx}
theorem Vs{x:Str}{st:ψ}{ps:List Str}{f:Ξ}{fd:aag}{k:Nat}{sp:Sp}{e:ν}{es:List ν}{t:TA}{p pos:Pos}(D:Def X.K X.mg x st ps f fd) (G:bL X.prog X.w X.K X.mg X.base bC k f fd ps sp) (hr:er k X.A) (ha:PA X (e::es) t) (hg:Gl X x:=by rfl)
  (hdb:(x==("__debug__":Str))=Θ:=by decide) (he:ε (e::es) X.env=(Θ,eval e X.env)::ε es X.env:=by rfl) (hpl:(aaj pos (ε es X.env)).any (·.1)=Θ:=by rfl) :
  PE X (.Call (.Name x p) (e::es) [] pos) (Ih sp [] E0 t):=Vy G hr hg D.at' D.fn.kp D.bd .nil VP ha hdb he hpl
theorem Vi{x:Str}{n:String}{pos:Pos}(hg:Gl X x) (hm:X.mg x=η) (hv:bootBuiltins x=ζ (.type n)) (hn:x≠"__name__":=by decide) (hd:(x==("__debug__":Str))=Θ:=by decide):PE X (.Name x pos) (tC (.ty n)):=Vz hg hm hv rfl hn hd
end
def isStar:ν->Bool
 |.Starred _ _=>Δ
 |_=>Θ
theorem dU{a:ν}{es:List ν}{env:Env}(h:isStar a=Θ):ε (a::es) env=(Θ,eval a env)::ε es env:=by
 cases a<;>first|(cases h;done)|(simp only[ε];done)
def noStar(es:List ν):Bool:=es.all λa=>!isStar a
theorem gC{es:List ν}{env:Env}{pos:Pos}(h:noStar es=Δ):(aaj pos (ε es env)).any (·.1)=Θ:=by
 induction es with
 |nil=>simp only[ε];rfl
 |cons a es ih =>
  have h:(!isStar a&&noStar es)=Δ:=h;rw[af1]at h;rw[dU (by simpa using h.1)]
  have:=ih h.2
  simpa[aaj]using this
theorem pO{a:ν}{env:Env}(h:isStar a=Θ):ε [a] env=[(Θ,eval a env)]:=by
 rw[dU h];simp only[ε]
theorem Iw{a b:ν}{env:Env}(h:isStar a=Θ) (g:isStar b=Θ):ε [a,b] env=[(Θ,eval a env),(Θ,eval b env)]:=by
 rw[dU h,pO g]
theorem BX{a:ν}{env:Env}{pos:Pos}(h:isStar a=Θ):((aaj pos (ε [a] env)).all (λx=>!x.1)&&(aaE pos (aat [] env)).all (λx=>x.1.isSome)
   && decide ([a].length+([]:List aav).length+(if([]:List aav).isEmpty then 0 else 1)<30))=Δ:=by
 rw[pO h];simp[aaj,aaE,aat]
inductive D where
 |aL|bl (b:Bool)|int (i:Int)|str (x:Str)|ty (n:String)|tup (l:List D)|lst (l:List D)|ref (k:Nat)|cH (l:List Int)|fn (x:Str) (n:Nat)|exc (x:Str)|i7|dct (ks:List (Int×Int))|lam (k:Nat) (e:ν) (ns:List Str) (l:List D)
inductive Cell where
 |lst (l:List D)
mutual
def noRef:D->Bool
 |.tup l=>bX l
 |.lst l=>bX l
 |.ref _=>Θ
 |.aL=>Δ
 |.bl _=>Δ
 |.int _=>Δ
 |.str _=>Δ
 |.ty _=>Δ
 |.cH _=>Δ
 |.fn _ _=>Δ
 |.exc _=>Δ
 |.i7=>Δ
 |.dct _=>Δ
 |.lam _ _ _ _=>Θ
def bX:List D->Bool
 |[]=>Δ
 |d::l=>noRef d&&bX l
end
mutual
def fJ:D->Bool
 |.tup l=>fL l
 |.lst l=>fL l
 |.lam _ _ _ _=>Θ
 |.ref _=>Δ
 |.aL=>Δ
 |.bl _=>Δ
 |.int _=>Δ
 |.str _=>Δ
 |.ty _=>Δ
 |.cH _=>Δ
 |.fn _ _=>Δ
 |.exc _=>Δ
 |.i7=>Δ
 |.dct _=>Δ
def fL:List D->Bool
 |[]=>Δ
 |d::l=>fJ d&&fL l
end
mutual
theorem zq:∀d:D,noRef d=Δ->fJ d=Δ
 |.tup l,h=>by unfold noRef at h;unfold fJ;exact zp l h
 |.lst l,h=>by unfold noRef at h;unfold fJ;exact zp l h
 |.lam _ _ _ _,h=>by unfold noRef at h;cases h
 |.ref _,h=>by unfold noRef at h;cases h
 |.aL,_=>by unfold fJ;rfl
 |.bl _,_=>by unfold fJ;rfl
 |.int _,_=>by unfold fJ;rfl
 |.str _,_=>by unfold fJ;rfl
 |.ty _,_=>by unfold fJ;rfl
 |.cH _,_=>by unfold fJ;rfl
 |.fn _ _,_=>by unfold fJ;rfl
 |.exc _,_=>by unfold fJ;rfl
 |.i7,_=>by unfold fJ;rfl
 |.dct _,_=>by unfold fJ;rfl
theorem zp:∀l:List D,bX l=Δ->fL l=Δ
 |[],_=>by unfold fL;rfl
 |d::l,h=>by
  unfold bX at h;rw[af1]at h;unfold fL;rw[zq d h.1,zp l h.2];rfl
end
theorem vK:∀{l m:List D},bX (l++m)=(bX l&&bX m)
 |[],m=>by simp[bX]
 |d::l,m=>by simp[bX,vK (l:=l),Bool.and_assoc]
theorem KJ:∀{l:List D}{i:Nat}{d:D},bX l=Δ->noRef d=Δ->bX (l.set i d)=Δ
 |[],i,d,h,g=>h
 |b::l,0,d,h,g=>by simp_all[bX]
 |b::l,i+1,d,h,g=>by
  simp only[bX,af1]at h;simp only[agQ,bX,af1];exact⟨h.1,KJ h.2 g⟩
theorem iP:∀{l:List D},bX l=Δ↔∀d∈l,noRef d=Δ
 |[]=>by simp[bX]
 |d::l=>by simp[bX,iP (l:=l)]
theorem qa{l:List Int}:bX (l.map D.int)=Δ:=iP.mpr λd h=>by
 obtain⟨i,_,rfl⟩:=afW.mp h;rfl
inductive R (α:Type) where
 |ok (a:α) (c:List Cell)
 |bad
def R.bind{α β:Type}(r:R α) (f:α->List Cell->R β):R β:=match r with
 |.ok a c=>f a c
 |.bad=>.bad
@[simp] theorem R.aB{α β:Type}{a:α}{c:List Cell}{f:α->List Cell->R β}:(R.ok a c).bind f=f a c:=rfl
@[simp] theorem R.afI{α β:Type}{f:α->List Cell->R β}:(R.bad:R α).bind f=.bad:=rfl
def qx:List Str:=["greatest_among","web_of","other_web","turned_at","pairs_web","field_web","net_web"]
def zL(x:Str):Str:=x++".<locals>."++"<lambda>"
def rM(c:Ξ) (q:Str):υ->Prop:=λh=>h.CodeRec (.ref c) q
def qw(a:Ξ) (o:Obj):υ->Prop:=λh=>h.get? a=ζ o
def xP(e:ν) (o:Obj) (q:Str) (c:Ξ) (cl:List (Str×Ξ)):Prop:=match e with
 |.Lambda params body scope _=>∃pm ctv,o=PySem.W.kla_obj "<lambda>" q params body scope cl pm c ctv
 |_=>False
def wo:HO->Bool
 |.dj _=>Δ
 |_=>Θ
def jd(H:Hp) (cl:List (Str×Ξ)):List Str->List V->Prop
 |[],xs=>xs=[]
 |x::ns,xs=>∃v r c oc u,xs=v::r/\cl.lookup x=ζ c/\H c=ζ (.dF oc (.own 0))/\oc.data=.cell (ζ u)/\RelV v u/\jd H cl ns r
def xS(cl:List (Str×Ξ)) (ns:List Str):Prop:=(∀x y c,cl.lookup x=ζ c->cl.lookup y=ζ c->x=y)/\∀x c,cl.lookup x=ζ c->x∈ns
def TabAt(H:Hp) (P:Ξ) (q:Str):Prop:=∃ps,H P=ζ (.dj ps)/\aaS ps.toList/\∀pos cv,codeAmong pos ps.toList=ζ cv->∃c,cv=.ref c/\H c=ζ (.ext (rM c q))
def rV(K:ξ) (H:Hp):Prop:=∀x∈qx,∀c P,PySem.W.tabIn K x=ζ (c,P)->TabAt H P (zL x)
theorem jd.mono{H H':Hp}{cl:List (Str×Ξ)}:∀{ns:List Str}{xs:List V},(∀c o,H c=ζ (.dF o (.own 0))->H' c=ζ (.dF o (.own 0)))->jd H cl ns xs->jd H' cl ns xs
 |[],_,_,h=>h
 |x::ns,xs,k,h=>by
  obtain⟨v,r,c,oc,u,e,h0,h1,h2,h3,h4⟩:=h;exact⟨v,r,c,oc,u,e,h0,k _ _ h1,h2,h3,jd.mono k h4⟩
theorem jd.get{H:Hp}{cl:List (Str×Ξ)}:∀{ns:List Str}{xs:List V}{i:Nat}{x:Str},jd H cl ns xs->ns[i]? = ζ x->∃v c oc u,xs[i]? = ζ v/\cl.lookup x=ζ c/\H c=ζ (.dF oc (.own 0))/\oc.data=.cell (ζ u)/\RelV v u
 |[],_,_,_,_,e=>by cases e
 |_::ns,xs,0,_,h,e=>by
  obtain⟨v,r,c,oc,u,rfl,h0,h1,h2,h3,h4⟩:=h;cases e;exact⟨v,c,oc,u,rfl,h0,h1,h2,h3⟩
 |_::ns,xs,i+1,x,h,e=>by
  obtain⟨v,r,c,oc,u,rfl,h0,h1,h2,h3,h4⟩:=h;exact jd.get (i:=i) h4 e
theorem jd.length{H:Hp}{cl:List (Str×Ξ)}:∀{ns:List Str}{xs:List V},jd H cl ns xs->xs.length=ns.length
 |[],xs,h=>by cases(show xs=[]from h);rfl
 |_::ns,xs,h=>by
  obtain⟨v,r,c,oc,u,rfl,h0,h1,h2,h3,h4⟩:=h;simp[jd.length h4]
theorem TabAt.mono{H H':Hp}{P:Ξ}{q:Str}(h:TabAt H P q) (k1:∀ps,H P=ζ (.dj ps)->H' P=ζ (.dj ps)) (k2:∀c φ,H c=ζ (.ext φ)->H' c=ζ (.ext φ)):TabAt H' P q:=by
 obtain⟨ps,h1,h2,h3⟩:=h;exact⟨ps,k1 ps h1,h2,λpos cv e=>let⟨c,e1,e2⟩:=h3 pos cv e;⟨c,e1,k2 _ _ e2⟩⟩
theorem rV.mono{K:ξ}{H H':Hp}(h:rV K H) (k1:∀P ps,H P=ζ (.dj ps)->H' P=ζ (.dj ps)) (k2:∀c φ,H c=ζ (.ext φ)->H' c=ζ (.ext φ)):rV K H':=λx hx c P e=>(h x hx c P e).mono (k1 P) k2
def xN(K:ξ) (ρ:List Ξ) (H:Hp) (a:Ξ) (xs:List V):Prop:=(Rd H a (.lst xs)/\a∉ρ)\/b9 K (λ_=>η) a xs
mutual
def Rel(K:ξ) (ρ:List Ξ) (H:Hp):D->V->Prop
 |.aL,v=>v=.aL
 |.bl b,v=>v=.bl b
 |.int i,v=>v=.int i
 |.str x,v=>v=.str x
 |.ty n,v=>v=.ty n
 |.tup l,v=>∃a xs,v=.ref a/\H a=ζ (.tup xs)/\aQ K ρ H l xs
 |.lst l,v=>∃a xs,v=.ref a/\(H a=ζ (.lst xs)/\a∉ρ)/\aQ K ρ H l xs
 |.ref k,v=>∃a,v=.ref a/\ρ[k]? = ζ a
 |.cH l,v=>∃a,v=.ref a/\xN K ρ H a (l.map V.int)
 |.fn x n,v=>∃a,v=.ref a/\τ K μ x=ζ (ζ (.ref a))
 |.i7,v=>∃a,v=.ref a/\H a=ζ (.ext (abD a))
 |.dct ks,v=>∃a kvs,v=.ref a/\H a=ζ (.dT kvs)/\∀p:Int×Int,((kvs.any λkv=>decide (kv.1=[Sum.inl p.1,Sum.inl p.2]))=decide (p∈ks))
 |.exc x,v=>∃a C,v=.ref a/\τ K μ x=ζ (ζ (.ref C))/\H a=ζ (.ext (abp a C))
 |.lam _ e ns l,v=>∃a o q c cl xs,v=.ref a/\H a=ζ (.ext (qw a o))/\xP e o q c cl/\H c=ζ (.ext (rM c q))/\xS cl ns/\jd H cl ns xs/\aQ K ρ H l xs
def aQ(K:ξ) (ρ:List Ξ) (H:Hp):List D->List V->Prop
 |[],xs=>xs=[]
 |d::l,xs=>∃x r,xs=x::r/\Rel K ρ H d x/\aQ K ρ H l r
end
theorem xN.sql{K:ξ}{ρ:List Ξ}{H:Hp}{a:Ξ}{xs:List V}(h:xN K ρ H a xs):b9 K H a xs:=by
 rcases h with⟨h,_⟩|(h|h)
 ·exact .inl h
 ·rcases h with h|⟨o,h⟩<;>cases h
 ·exact .inr h
def adP(K:ξ) (ρ:List Ξ) (H:Hp) (a:Ξ):Cell->Prop
 |.lst l=>bX l=Δ/\∃xs,H a=ζ (.lst xs)/\aQ K ρ H l xs
structure Wd (K:ξ) (ρ:List Ξ) (H:Hp) (c:List Cell):Prop where
 nd:ρ.Nodup
 len:ρ.length=c.length
 gc:∀(k:Nat) (a:Ξ) (cl:Cell),ρ[k]? = ζ a->c[k]? = ζ cl->adP K ρ H a cl
 tab:rV K H
structure Ext (ρ:List Ξ) (H:Hp) (ρ':List Ξ) (H':Hp):Prop where
 pre:∀(k:Nat) (a:Ξ),ρ[k]? = ζ a->ρ'[k]? = ζ a
 keep:∀a o,H a=ζ o->a∉ρ->wo o=Θ->H' a=ζ o/\a∉ρ'
theorem Ext.refl{ρ:List Ξ}{H:Hp}:Ext ρ H ρ H:=⟨λ_ _ h=>h,λ_ _ h n _=>⟨h,n⟩⟩
theorem Ext.trans{ρ aR d8:List Ξ}{H H1 H2:Hp}(x:Ext ρ H aR H1) (y:Ext aR H1 d8 H2):Ext ρ H d8 H2 :=
 ⟨λk a h=>y.pre k a (x.pre k a h),λa o h n t=>let⟨h1,n1⟩:=x.keep a o h n t;y.keep a o h1 n1 t⟩
section
variable {K:ξ}{ρ ρ':List Ξ}{H H':Hp}{c c':List Cell}
theorem Wd.at'(W:Wd K ρ H c) {a:Ξ}(h:a∈ρ):∃xs,H a=ζ (.lst xs):=by
 obtain⟨k,hk,e⟩:=ahr.mp h;have hc:k<c.length:=by rw[<-W.len];exact hk
 have q:=W.gc k a c[k] (by rw[afV hk,e]) (afV hc)
 cases hcl:c[k]with
 |lst l=>rw[hcl]at q;obtain⟨_,xs,h,_⟩:=q;exact⟨xs,h⟩
theorem Wd.XC(W:Wd K ρ H c) {a:Ξ}{xs:List V}(h:H a=ζ (.tup xs)):a∉ρ:=λm=>by
 obtain⟨ys,e⟩:=W.at' m;rw[e]at h;cases h
theorem Wd.nil(W:Wd K ρ H c) {a:Ξ}(h:H a=η):a∉ρ:=λm=>by
 obtain⟨ys,e⟩:=W.at' m;rw[e]at h;cases h
theorem uU(W:Wd K ρ H c) (x:Ext ρ H ρ' H') {a:Ξ}{xs:List V}(h:H a=ζ (.tup xs)):H' a=ζ (.tup xs):=(x.keep a _ h (W.XC h) rfl).1
theorem D7(x:Ext ρ H ρ' H') {a:Ξ}{xs:List V}(h:H a=ζ (.lst xs)/\a∉ρ):H' a=ζ (.lst xs)/\a∉ρ':=x.keep a _ h.1 h.2 rfl
theorem IC(x:Ext ρ H ρ' H') {a:Ξ}{xs:List V}(h:xN K ρ H a xs):xN K ρ' H' a xs:=by
 rcases h with⟨h,n⟩|h
 ·rcases h with h|⟨o,h⟩
  ·exact .inl ⟨.inl (x.keep a _ h n rfl).1,(x.keep a _ h n rfl).2⟩
  ·exact .inl ⟨.inr ⟨o,(x.keep a _ h n rfl).1⟩,(x.keep a _ h n rfl).2⟩
 ·exact .inr h
mutual
theorem Rel.mono(W:Wd K ρ H c) (x:Ext ρ H ρ' H'):∀(d:D) (v:V),Rel K ρ H d v->Rel K ρ' H' d v
 |.aL,v,h=>h
 |.bl b,v,h=>h
 |.int i,v,h=>h
 |.str y,v,h=>h
 |.ty n,v,h=>h
 |.tup l,v,h=>by
  obtain⟨a,xs,e,s,r⟩:=h;exact⟨a,xs,e,uU W x s,aQ.mono W x l xs r⟩
 |.lst l,v,h=>by
  obtain⟨a,xs,e,s,r⟩:=h;exact⟨a,xs,e,D7 x s,aQ.mono W x l xs r⟩
 |.ref k,v,h=>by
  obtain⟨a,e,s⟩:=h;exact⟨a,e,x.pre k a s⟩
 |.cH l,v,h=>by
  obtain⟨a,e,s⟩:=h;exact⟨a,e,IC x s⟩
 |.fn a n,v,h=>h
 |.i7,v,h=>by
  obtain⟨a,e,q⟩:=h;exact⟨a,e,(x.keep a _ q (λm=>by obtain⟨ys,z⟩:=W.at' m;rw[z]at q;cases q) rfl).1⟩
 |.dct ks,v,h=>by
  obtain⟨a,kvs,e,q,z⟩:=h;exact⟨a,kvs,e,(x.keep a _ q (λm=>by obtain⟨ys,z⟩:=W.at' m;rw[z]at q;cases q) rfl).1,z⟩
 |.exc y,v,h=>by
  obtain⟨a,C,e,n,q⟩:=h;exact⟨a,C,e,n,(x.keep a _ q (λm=>by obtain⟨ys,z⟩:=W.at' m;rw[z]at q;cases q) rfl).1⟩
 |.lam _ y ns l,v,h=>by
  obtain⟨a,o,q,c,cl,xs,e,h1,h2,h3,h4,h5,h6⟩:=h;have nr:∀(b:Ξ) (u:HO),H b=ζ u->(∀ys,u≠.lst ys)->b∉ρ:=λb u q n m=>by obtain⟨ys,z⟩:=W.at' m;rw[z]at q;exact n ys (agc q).symm
  exact⟨a,o,q,c,cl,xs,e,(x.keep a _ h1 (nr a _ h1 λ_ z=>nomatch z) rfl).1,h2,(x.keep c _ h3 (nr c _ h3 λ_ z=>nomatch z) rfl).1,h4,h5.mono (λb o z=>(x.keep b _ z (nr b _ z λ_ z=>nomatch z) rfl).1),aQ.mono W x l xs h6⟩
theorem aQ.mono(W:Wd K ρ H c) (x:Ext ρ H ρ' H'):∀(l:List D) (xs:List V),aQ K ρ H l xs->aQ K ρ' H' l xs
 |[],xs,h=>h
 |d::l,xs,h=>by
  obtain⟨y,r,e,h1,h2⟩:=h;exact⟨y,r,e,Rel.mono W x d y h1,aQ.mono W x l r h2⟩
end
theorem aQ.length:∀{l:List D}{xs:List V},aQ K ρ H l xs->xs.length=l.length
 |[],xs,h=>by cases(show xs=[]from h);rfl
 |d::l,xs,h=>by
  obtain⟨y,r,rfl,h1,h2⟩:=h;simp only[af0,aQ.length h2]
theorem aQ.get:∀{l:List D}{xs:List V}{i:Nat}{d:D},aQ K ρ H l xs->l[i]? = ζ d->∃x,xs[i]? = ζ x/\Rel K ρ H d x
 |[],_,_,_,_,e=>by cases e
 |_::l,_,0,_,h,e=>by
  obtain⟨y,r,rfl,h1,h2⟩:=h;cases e;exact⟨y,rfl,h1⟩
 |_::l,_,i+1,_,h,e=>by
  obtain⟨y,r,rfl,h1,h2⟩:=h;exact aQ.get (i:=i) h2 e
theorem aQ.append:∀{l m:List D}{xs ys:List V},aQ K ρ H l xs->aQ K ρ H m ys->aQ K ρ H (l++m) (xs++ys)
 |[],m,xs,ys,h,g=>by cases(show xs=[]from h);exact g
 |d::l,m,xs,ys,h,g=>by
  obtain⟨y,r,rfl,h1,h2⟩:=h;exact⟨y,r++ys,rfl,h1,aQ.append h2 g⟩
theorem aQ.set:∀{l:List D}{xs:List V}{d:D}{x:V}(i:Nat),aQ K ρ H l xs->Rel K ρ H d x->aQ K ρ H (l.set i d) (xs.set i x)
 |[],xs,d,x,i,h,g=>by cases(show xs=[]from h);exact rfl
 |b::l,xs,d,x,0,h,g=>by
  obtain⟨y,r,rfl,h1,h2⟩:=h;exact⟨x,r,rfl,g,h2⟩
 |b::l,xs,d,x,i+1,h,g=>by
  obtain⟨y,r,rfl,h1,h2⟩:=h;exact⟨y,r.set i x,rfl,h1,aQ.set i h2 g⟩
theorem aQ.take:∀{l:List D}{xs:List V}(n:Nat),aQ K ρ H l xs->aQ K ρ H (l.take n) (xs.take n)
 |l,xs,0,h=>by simp only[air];exact rfl
 |[],xs,n+1,h=>by cases(show xs=[]from h);exact rfl
 |d::l,xs,n+1,h=>by
  obtain⟨y,r,rfl,h1,h2⟩:=h;exact⟨y,r.take n,rfl,h1,aQ.take n h2⟩
theorem aQ.drop:∀{l:List D}{xs:List V}(n:Nat),aQ K ρ H l xs->aQ K ρ H (l.drop n) (xs.drop n)
 |l,xs,0,h=>h
 |[],xs,n+1,h=>by cases(show xs=[]from h);exact rfl
 |d::l,xs,n+1,h=>by
  obtain⟨y,r,rfl,h1,h2⟩:=h;exact aQ.drop n h2
theorem aQ.ints{l:List Int}:aQ K ρ H (l.map D.int) (l.map V.int):=by
 induction l with
 |nil=>exact rfl
 |cons a l ih=>exact⟨_,_,rfl,rfl,ih⟩
theorem aQ.Ep:∀{l:List Int}{xs:List V},aQ K ρ H (l.map D.int) xs->xs=l.map V.int
 |[],xs,h=>h
 |a::l,xs,h=>by
  obtain⟨y,r,rfl,h1,h2⟩:=h;cases(show y=V.int a from h1)
  rw[aQ.Ep h2];rfl
theorem aQ.N1:∀{l:List Bool}{xs:List V},aQ K ρ H (l.map D.bl) xs->xs=l.map V.bl
 |[],xs,h=>h
 |a::l,xs,h=>by
  obtain⟨y,r,rfl,h1,h2⟩:=h;cases(show y=V.bl a from h1)
  rw[aQ.N1 h2];rfl
theorem Ext.fresh{p:Ξ}{o:HO}(W:Wd K ρ H c) (h:H p=η):Ext ρ H ρ (upd H p o) :=
 ⟨λ_ _ e=>e,λa u e n _=>⟨by rw[cB (eB e h)];exact e,n⟩⟩
theorem Wd.fresh{p:Ξ}{o:HO}(W:Wd K ρ H c) (h:H p=η):Wd K ρ (upd H p o) c :=
 ⟨W.nd,W.len,λk a cl e1 e2=>by
  have q:=W.gc k a cl e1 e2;cases cl with
  |lst l =>
   obtain⟨nr,xs,e,r⟩:=q;exact⟨nr,xs,by rw[cB (eB e h)];exact e,aQ.mono W (Ext.fresh W h) l xs r⟩,
  W.tab.mono (λP ps e=>by rw[cB (eB e h)];exact e) (λb φ e=>by rw[cB (eB e h)];exact e)⟩
theorem Ext.cell{p:Ξ}{o:HO}(W:Wd K ρ H c) (h:H p=η):Ext ρ H (ρ++[p]) (upd H p o) :=
 ⟨λk a e=>by rw[agl (af8.mp e).1];exact e,λa u e n _=>⟨by rw[cB (eB e h)];exact e,by
  rw[agC]
  rintro (z|z)
  ·exact n z
  ·exact eB e h (by simpa using z)⟩⟩
theorem Wd.cell{p:Ξ}{l:List D}{xs:List V}(W:Wd K ρ H c) (h:H p=η) (nr:bX l=Δ) (r:aQ K ρ H l xs):Wd K (ρ++[p]) (upd H p (.lst xs)) (c++[.lst l]):=by
 have X:=Ext.cell (o:=.lst xs) W h;refine⟨?_,by simp[W.len],λk a cl e1 e2=>?_,W.tab.mono (λP ps e=>by rw[cB (eB e h)];exact e) (λb φ e=>by rw[cB (eB e h)];exact e)⟩
 ·rw[ahV];refine⟨W.nd,by simp,?_⟩
  intro a ha b hb;rw[agu]at hb;subst hb;exact λz=>W.nil h (z▸ha)
 ·by_cases hk:k<c.length
  ·rw[agl hk]at e2;rw[agl (by rw[W.len];exact hk)]at e1
   have q:=W.gc k a cl e1 e2;cases cl with
   |lst l' =>
    obtain⟨tM,ys,e,r'⟩:=q;exact⟨tM,ys,by rw[cB (eB e h)];exact e,aQ.mono W X l' ys r'⟩
  ·have hk':k=c.length:=by
    have:=(af8.mp e2).1;simp at this;omega
   subst hk';rw[agD (afQ _),ahh]at e2;rw[agD (by rw[W.len];exact afQ _),W.len,ahh]at e1
   cases e1;cases e2;exact⟨nr,xs,fU,aQ.mono W X l xs r⟩
theorem Ext.write{k:Nat}{p:Ξ}{o:HO}(h:ρ[k]? = ζ p):Ext ρ H ρ (upd H p o) :=
 ⟨λ_ _ e=>e,λa u e n _=>⟨by rw[cB (λz=>n (by rw[z];exact agn h))];exact e,n⟩⟩
theorem Wd.write{k:Nat}{p:Ξ}{l:List D}{xs:List V}(W:Wd K ρ H c) (h:ρ[k]? = ζ p) (nr:bX l=Δ) (r:aQ K ρ H l xs):Wd K ρ (upd H p (.lst xs)) (c.set k (.lst l)):=by
 have X:=Ext.write (H:=H) (o:=.lst xs) h;obtain⟨ys,hy⟩:=W.at' (agn h);refine⟨W.nd,by simp[W.len],λj a cl e1 e2=>?_,W.tab.mono (λP ps e=>by rw[cB (KU e hy λz=>nomatch z)];exact e) (λb φ e=>by rw[cB (KU e hy λz=>nomatch z)];exact e)⟩
 by_cases hj:j=k
 ·subst hj;rw[h]at e1;cases e1;have hl:j<c.length:=by rw[<-W.len];exact(af8.mp h).1
  rw[agM hl]at e2;cases e2;exact⟨nr,xs,fU,aQ.mono W X l xs r⟩
 ·rw[agz (agx hj)]at e2;have q:=W.gc j a cl e1 e2;have hap:a≠p:=by
   intro e;subst e;have h1:=(af8.mp h);have h2:=(af8.mp e1);exact hj ((aid W.nd (h₀:=h2.1) (h₁:=h1.1)).mp (h2.2.trans h1.2.symm))
  cases cl with
  |lst l' =>
   obtain⟨tM,ys,e,r'⟩:=q;exact⟨tM,ys,by rw[cB hap];exact e,aQ.mono W X l' ys r'⟩
mutual
theorem Rel.low(h:∀a,a∈ρ'->a∈ρ):∀(d:D) (v:V),noRef d=Δ->Rel K ρ H d v->Rel K ρ' H d v
 |.aL,v,_,r=>r
 |.bl b,v,_,r=>r
 |.int i,v,_,r=>r
 |.str y,v,_,r=>r
 |.ty n,v,_,r=>r
 |.tup l,v,n,r=>by
  obtain⟨a,xs,e,s,r⟩:=r;exact⟨a,xs,e,s,aQ.low h l xs n r⟩
 |.lst l,v,n,r=>by
  obtain⟨a,xs,e,s,r⟩:=r;exact⟨a,xs,e,⟨s.1,λq=>s.2 (h a q)⟩,aQ.low h l xs n r⟩
 |.ref k,v,n,r=>by cases n
 |.cH l,v,n,r=>by
  obtain⟨a,e,s⟩:=r;refine⟨a,e,?_⟩
  rcases s with⟨s,z⟩|s
  ·exact .inl ⟨s,λq=>z (h a q)⟩
  ·exact .inr s
 |.fn a m,v,n,r=>r
 |.exc y,v,n,r=>r
 |.i7,v,n,r=>r
 |.dct _,v,n,r=>r
 |.lam _ _ _ _,v,n,r=>by cases n
theorem aQ.low(h:∀a,a∈ρ'->a∈ρ):∀(l:List D) (xs:List V),bX l=Δ->aQ K ρ H l xs->aQ K ρ' H l xs
 |[],xs,_,r=>r
 |d::l,xs,n,r=>by
  obtain⟨y,ys,e,h1,h2⟩:=r;have n:(noRef d&&bX l)=Δ:=n;rw[af1]at n;exact⟨y,ys,e,Rel.low h d y n.1 h1,aQ.low h l ys n.2 h2⟩
end
theorem Wd.cut{n:Nat}(W:Wd K ρ H c) (hn:n<=c.length):Wd K (ρ.take n) H (c.take n):=by
 have sub:∀a,a∈ρ.take n->a∈ρ:=λa h=>agv h
 refine⟨W.nd.sublist (aiR _ _),by simp[W.len],λk a cl e1 e2=>?_,W.tab⟩
 rw[ahW]at e1 e2;split at e1
 ·rename_i hk;rw[if_pos hk]at e2;have q:=W.gc k a cl e1 e2;cases cl with
  |lst l =>
   obtain⟨nr,xs,e,r⟩:=q;exact⟨nr,xs,e,aQ.low sub l xs nr r⟩
 ·cases e1
theorem Ext.cut{n:Nat}(x:Ext ρ H ρ' H') (hn:ρ.length<=n):Ext ρ H (ρ'.take n) H' :=
 ⟨λk a e=>by rw[ahW,if_pos (af2 (af8.mp e).1 hn)];exact x.pre k a e,λa o e z t=>let⟨h1,h2⟩:=x.keep a o e z t;⟨h1,λq=>h2 (agv q)⟩⟩
theorem Ext.len(W:Wd K ρ H c) (W':Wd K ρ' H' c') (x:Ext ρ H ρ' H'):c.length<=c'.length:=by
 rw[<-W.len,<-W'.len]
 by_cases h:ρ.length<=ρ'.length
 ·exact h
 ·exfalso;have h':ρ'.length<ρ.length:=Nat.lt_of_not_le h;have e:=x.pre ρ'.length ρ[ρ'.length] (afV h');rw[ahi (afQ _)]at e;cases e
end
abbrev Ev:=List (Option D)
def post{α β:Type}(K:ξ) (Rl:List Ξ->Hp->α->β->Prop) (r:R α) (ρ:List Ξ) (H:Hp) (Q:β->Hp->Prop):Prop:=match r with
 |.ok a c=>∀ρ' H' b,Wd K ρ' H' c->Ext ρ H ρ' H'->Rl ρ' H' a b->Q b H'
 |.bad=>False
structure eH (K:ξ) (ρ:List Ξ) (H:Hp) (e:Ev) (σ:St):Prop where
 get:∀(i:Nat) (d:D),e[i]? = ζ (ζ d)->∃v,σ[i]? = ζ (ζ v)/\Rel K ρ H d v
 len:e.length=σ.length
def tD{α β:Type}(K:ξ) (Rl:List Ξ->Hp->α->β->Prop) (d:Ev->List Cell->R α):St->Hp->(β->Hp->Prop)->Prop :=
 λσ H Q=>∃ρ e c,Wd K ρ H c/\eH K ρ H e σ/\post K Rl (d e c) ρ H Q
section
variable {α β γ δ:Type}{K:ξ}{ρ ρ':List Ξ}{H H':Hp}{c:List Cell}{e:Ev}{σ:St}{Rl:List Ξ->Hp->α->β->Prop}{Rm:List Ξ->Hp->γ->δ->Prop}
theorem eH.mono(V:eH K ρ H e σ) (W:Wd K ρ H c) (x:Ext ρ H ρ' H'):eH K ρ' H' e σ :=
 ⟨λi d h=>let⟨v,h1,h2⟩:=V.get i d h;⟨v,h1,Rel.mono W x d v h2⟩,V.len⟩
theorem eH.set(V:eH K ρ H e σ) {d:D}{v:L2.V}(r:Rel K ρ H d v) (i:Nat):eH K ρ H (e.set i (ζ d)) (σ.set i (ζ v)):=by
 refine⟨λj b h=>?_,by simp[V.len]⟩
 by_cases hj:j=i
 ·subst hj;have hl:j<e.length:=by
   have:=(af8.mp h).1
   simpa using this
  rw[agM hl]at h;cases h;exact⟨v,by rw[agM (by rw[<-V.len];exact hl)],r⟩
 ·rw[agz (agx hj)]at h ⊢;exact V.get j b h
theorem post.ext{r:R α}{Q:β->Hp->Prop}(p:post K Rl r ρ H Q) (x:Ext ρ H ρ' H'):post K Rl r ρ' H' Q:=by
 cases r with
 |ok a c=>exact λd8 H2 b W y r=>p d8 H2 b W (x.trans y) r
 |bad=>exact p
theorem post.bind{r:R α}{f:α->List Cell->R γ}{Q:δ->Hp->Prop}{S:β->Hp->Prop}(p:post K Rm (r.bind f) ρ H Q)
  (h:∀a c1 ρ' H' b,r=.ok a c1->Wd K ρ' H' c1->Ext ρ H ρ' H'->Rl ρ' H' a b->post K Rm (f a c1) ρ' H' Q->S b H'):post K Rl r ρ H S:=by
 cases r with
 |ok a c1=>exact λρ' H' b W x r=>h a c1 ρ' H' b rfl W x r (post.ext (r:=f a c1) p x)
 |bad=>exact p
theorem post.here{a:α}{b:β}{Q:β->Hp->Prop}(p:post K Rl (.ok a c) ρ H Q) (W:Wd K ρ H c) (r:Rl ρ H a b):Q b H:=p ρ H b W Ext.refl r
end
abbrev bw(X:Cx) (e:ν) (d:Ev->List Cell->R D):Prop:=PE X e (tD X.K (Rel X.K) d)
abbrev jw(X:Cx) (e:ν) (d:Ev->List Cell->R Bool):Prop:=PT X e (tD X.K (λ_ _ a b=>a=b) d)
abbrev uH(X:Cx) (e:ν) (d:Ev->List Cell->R Bool):Prop:=PW X e (tD X.K (λ_ _ a b=>a=b) d)
abbrev fO(X:Cx) (es:List ν) (d:Ev->List Cell->R (List D)):Prop:=PA X es (tD X.K (aQ X.K) d)
section
variable {X:Cx}{e:ν}{es:List ν}{st:ψ}{sts:List ψ}
theorem PE.imp{t t':TE}(h:PE X e t) (i:∀σ H Q,t' σ H Q->t σ H Q):PE X e t':=λpins s σ H Q I q=>h pins s σ H Q I (i _ _ _ q)
theorem PT.imp{t t':TT}(h:PT X e t) (i:∀σ H Q,t' σ H Q->t σ H Q):PT X e t':=λpins s σ H Q I q=>h pins s σ H Q I (i _ _ _ q)
theorem PW.imp{t t':TT}(h:PW X e t) (i:∀σ H Q,t' σ H Q->t σ H Q):PW X e t':=λwh pins s σ H Q I q=>h wh pins s σ H Q I (i _ _ _ q)
theorem PA.imp{t t':TA}(h:PA X es t) (i:∀σ H Q,t' σ H Q->t σ H Q):PA X es t':=λpos pins s σ H Q I q=>h pos pins s σ H Q I (i _ _ _ q)
theorem PS.imp{t t':TS}(h:PS X st t) (i:∀D σ H,t' D σ H->t D σ H):PS X st t':=λpins s σ H D I q=>h pins s σ H D I (i _ _ _ q)
theorem gW.imp{t t':TS}(h:gW X sts t) (i:∀D σ H,t' D σ H->t D σ H):gW X sts t':=λpins s σ H D I q=>h pins s σ H D I (i _ _ _ q)
end
def ao(i:Nat):Ev->List Cell->R D:=λe c=>match e[i]? with
 |some (ζ d)=>.ok d c
 |_=>.bad
def dC(d:D):Ev->List Cell->R D:=λ_ c=>.ok d c
section
variable {X:Cx}
theorem ay(i:Nat) {x:Str}{pos:Pos}(hN:X.N[i]? = ζ x:=by rfl) (hv:Bb X.env.scope x:=by first|exact Or.inl rfl|exact Or.inr (Or.inl rfl)|exact Or.inr (Or.inr rfl)) (hd:(x==("__debug__":Str))=Θ:=by decide)
  (hcd:(x==("__classdict__":Str))=Θ:=by decide):bw X (.Name x pos) (ao i):=(JF hN hv hd hcd).imp λσ H Q h=>by
 obtain⟨ρ,e,c,W,V,p⟩:=h;unfold ao at p;cases q:e[i]? with
 |none=>rw[q]at p;exact p.elim
 |some o =>
  rw[q]at p;cases o with
  |none=>exact p.elim
  |some d =>
   obtain⟨v,hv,r⟩:=V.get i d q;exact⟨v,hv,p.here W r⟩
theorem pW{e:ν}{v:V}{d:D}(h:PE X e (tC v)) (r:∀ρ H,Rel X.K ρ H d v):bw X e (dC d):=h.imp λσ H Q h=>by
 obtain⟨ρ,e,c,W,V,p⟩:=h;exact post.here (r:=r ρ H) p W
theorem aN{i j pos}:bw X (.Constant (.int i) j pos) (dC (.int i)):=pW JI λ_ _=>rfl
theorem vE{b j pos}:bw X (.Constant (.bool b) j pos) (dC (.bl b)):=pW VA λ_ _=>rfl
theorem tu{j pos}:bw X (.Constant .none j pos) (dC .aL):=pW Vp λ_ _=>rfl
theorem vD{x j pos}:bw X (.Constant (.str x) j pos) (dC (.str x)):=pW Vk λ_ _=>rfl
theorem Dt{x:Str}{n:String}{pos:Pos}(hg:Gl X x) (hm:X.mg x=η) (hv:bootBuiltins x=ζ (.type n)) (hn:x≠"__name__":=by decide) (hd:(x==("__debug__":Str))=Θ:=by decide):bw X (.Name x pos) (dC (.ty n)):=pW (Vi hg hm hv hn hd) λ_ _=>rfl
theorem JM{x:Str}{i:Int}{t:Tok}{pos:Pos}(hg:Gl X x) (hm:X.mg x=ζ (.int i t)) (hd:(x==("__debug__":Str))=Θ:=by decide):bw X (.Name x pos) (dC (.int i)):=pW (Dq (v:=.int i) hg hm ⟨t,rfl⟩ hd) λ_ _=>rfl
end
end L2
namespace L2
open PySem PySem.Spec PyProof.Rows
def av(f:D->D->List Cell->R D) (a b:Ev->List Cell->R D):Ev->List Cell->R D:=λe c=>(a e c).bind λx c=>(b e c).bind λy c=>f x y c
def k6(f:D->List Cell->R D) (a:Ev->List Cell->R D):Ev->List Cell->R D:=λe c=>(a e c).bind λx c=>f x c
def r2(K:ξ) (f:D->D->List Cell->R D):R2:=λv u H Q=>∃ρ x y c,Wd K ρ H c/\Rel K ρ H x v/\Rel K ρ H y u/\post K (Rel K) (f x y c) ρ H Q
def r1(K:ξ) (f:D->List Cell->R D):V->Hp->VK->Prop:=λv H Q=>∃ρ x c,Wd K ρ H c/\Rel K ρ H x v/\post K (Rel K) (f x c) ρ H Q
def rN(K:ξ) (f:List D->List Cell->R D):List V->Hp->VK->Prop:=λvs H Q=>∃ρ xs c,Wd K ρ H c/\aQ K ρ H xs vs/\post K (Rel K) (f xs c) ρ H Q
def aO(f:List D->List Cell->R D) (a:Ev->List Cell->R (List D)):Ev->List Cell->R D:=λe c=>(a e c).bind λxs c=>f xs c
section
variable {X:Cx}{a b:ν}{da db dd:Ev->List Cell->R D}{pos:Pos}{K:ξ}{σ:St}{H:Hp}{Q:VK}{f:D->D->List Cell->R D}
theorem ym(h:tD K (Rel K) (av f da db) σ H Q):tD K (Rel K) da σ H λv H1=>tD K (Rel K) db σ H1 λu H2=>r2 K f v u H2 Q:=by
 obtain⟨ρ,e,c,W,V,p⟩:=h;refine⟨ρ,e,c,W,V,post.bind p λx c1 aR H1 v _ W1 X1 r1 p1=>⟨aR,e,c1,W1,V.mono W X1,post.bind p1 λy c2 d8 H2 u _ W2 X2 r2 p2=>⟨d8,x,y,c2,W2,Rel.mono W1 X2 _ _ r1,r2,p2⟩⟩⟩
theorem QC{g:D->List Cell->R D}(h:tD K (Rel K) (k6 g da) σ H Q):tD K (Rel K) da σ H λv H1=>r1 K g v H1 Q:=by
 obtain⟨ρ,e,c,W,V,p⟩:=h;exact⟨ρ,e,c,W,V,post.bind p λx c1 aR H1 v _ W1 X1 r1 p1=>⟨aR,x,c1,W1,r1,p1⟩⟩
theorem Ic{g:List D->List Cell->R D}{ds:Ev->List Cell->R (List D)}(h:tD K (Rel K) (aO g ds) σ H Q):tD K (aQ K) ds σ H λvs H1=>rN K g vs H1 Q:=by
 obtain⟨ρ,e,c,W,V,p⟩:=h;exact⟨ρ,e,c,W,V,post.bind p λx c1 aR H1 v _ W1 X1 r1 p1=>⟨aR,x,c1,W1,r1,p1⟩⟩
theorem aW{op:Operator}(ho:cE X (binaryOp op) (r2 X.K f)) (ha:bw X a da) (hb:bw X b db):bw X (.BinOp a op b pos) (av f da db):=(JG ho ha hb).imp λσ H Q h=>ym h
theorem pX{op:CmpOp}(ho:cE X (compareOp op) (r2 X.K f)) (ha:bw X a da) (hb:bw X b db) (hm:behindInMarks op b=Θ:=by first|exact KG _|rfl):bw X (.Compare a [op] [b] pos) (av f da db):=(Vu ho ha hb hm).imp λσ H Q h=>ym h
theorem VC{op:UnaryOp}{g:D->List Cell->R D}(ho:xJ X (unaryOp op) (r1 X.K g)) (ha:bw X a da):bw X (.UnaryOp op a pos) (k6 g da):=(Vh ho ha).imp λσ H Q h=>QC h
theorem bS(hr:uK X (r2 X.K f)) (ha:bw X a da) (hb:bw X b db) (hs:GR b:=by exact λ_ _=>rfl):bw X (.Subscript a b pos) (av f da db):=(Dp hr ha hb hs).imp λσ H Q h=>ym h
def Fb(f g:D->D->List Cell->R D) (a b d:Ev->List Cell->R D):Ev->List Cell->R D:=λe c=>(a e c).bind λx c=>(b e c).bind λy c=>(f x y c).bind λz c=>match z with
 |.bl Δ=>(d e c).bind λu c=>g y u c
 |.bl Θ=>.ok (.bl Θ) c
 |_=>.bad
end
def au:Ev->List Cell->R (List D):=λ_ c=>.ok [] c
def aq(a:Ev->List Cell->R D) (r:Ev->List Cell->R (List D)):Ev->List Cell->R (List D):=λe c=>(a e c).bind λx c=>(r e c).bind λxs c=>.ok (x::xs) c
def cC(a:Ev->List Cell->R (List D)):Ev->List Cell->R D:=λe c=>(a e c).bind λxs c=>if xs.length<=Ω then .ok (.tup xs) c else .bad
def bG(a:Ev->List Cell->R (List D)):Ev->List Cell->R D:=λe c=>(a e c).bind λxs c=>if xs.length<=Ω then .ok (.lst xs) c else .bad
def cV(a:Ev->List Cell->R (List D)):Ev->List Cell->R D:=λe c=>(a e c).bind λxs c=>if xs.length<=Ω/\bX xs=Δ then .ok (.ref c.length) (c++[.lst xs])else .bad
section
variable {X:Cx}{a:ν}{es:List ν}{da:Ev->List Cell->R D}{ds:Ev->List Cell->R (List D)}{pos:Pos}{K:ξ}{ρ:List Ξ}{H:Hp}{c:List Cell}{Q:VK}{xs:List D}{vs:List V}
theorem aD:fO X [] au:=lP.imp λσ H Q h=>by
 obtain⟨ρ,e,c,W,V,p⟩:=h;exact post.here (b:=[]) p W rfl
theorem az(ha:bw X a da) (hr:fO X es ds) (hs:ε (a::es) X.env=(Θ,eval a X.env)::ε es X.env:=by exact dU rfl):fO X (a::es) (aq da ds):=(kI ha hr hs).imp λσ H Q h=>by
 obtain⟨ρ,e,c,W,V,p⟩:=h;refine⟨ρ,e,c,W,V,post.bind p λx c1 aR H1 v _ W1 X1 r1 p1=>⟨aR,e,c1,W1,V.mono W X1,post.bind p1 λy c2 d8 H2 u _ W2 X2 r2 p2=>?_⟩⟩
 exact p2.here W2 ⟨v,u,rfl,Rel.mono W1 X2 _ _ r1,r2⟩
theorem DM(W:Wd K ρ H c) (r:aQ K ρ H xs vs) (p:post K (Rel K) (.ok (.tup xs) c) ρ H Q):∀q,H q=η->Q (.ref q) (upd H q (.tup vs)):=λq hq =>
 p ρ _ _ (W.fresh hq) (Ext.fresh W hq) ⟨q,vs,rfl,fU,aQ.mono W (Ext.fresh W hq) _ _ r⟩
theorem qb(W:Wd K ρ H c) (r:aQ K ρ H xs vs) (p:post K (Rel K) (.ok (.lst xs) c) ρ H Q):∀q,H q=η->Q (.ref q) (upd H q (.lst vs)):=λq hq =>
 p ρ _ _ (W.fresh hq) (Ext.fresh W hq) ⟨q,vs,rfl,⟨fU,W.nil hq⟩,aQ.mono W (Ext.fresh W hq) _ _ r⟩
theorem DN(W:Wd K ρ H c) (nr:bX xs=Δ) (r:aQ K ρ H xs vs) (p:post K (Rel K) (.ok (.ref c.length) (c++[.lst xs])) ρ H Q):∀q,H q=η->Q (.ref q) (upd H q (.lst vs)):=λq hq =>
 p (ρ++[q]) _ _ (W.cell hq nr r) (Ext.cell W hq) ⟨q,rfl,by rw[agD (by rw[W.len];exact afQ _),W.len,ahh];rfl⟩
theorem gE{x1}(h:fO X es ds):bw X (.Tuple es x1 pos) (cC ds):=(Vj h).imp λσ H Q h=>by
 obtain⟨ρ,e,c,W,V,p⟩:=h;refine⟨ρ,e,c,W,V,post.bind p λx c1 aR H1 v _ W1 X1 r1 p1=>?_⟩
 split at p1
 ·rename_i hl;exact⟨by rw[r1.length];exact hl,DM W1 r1 p1⟩
 ·exact p1.elim
theorem fk(h:fO X es ds):bw X (.List es pos) (bG ds):=(JH h).imp λσ H Q h=>by
 obtain⟨ρ,e,c,W,V,p⟩:=h;refine⟨ρ,e,c,W,V,post.bind p λx c1 aR H1 v _ W1 X1 r1 p1=>?_⟩
 split at p1
 ·rename_i hl;exact⟨by rw[r1.length];exact hl,qb W1 r1 p1⟩
 ·exact p1.elim
theorem iC(h:fO X es ds):bw X (.List es pos) (cV ds):=(JH h).imp λσ H Q h=>by
 obtain⟨ρ,e,c,W,V,p⟩:=h;refine⟨ρ,e,c,W,V,post.bind p λx c1 aR H1 v _ W1 X1 r1 p1=>?_⟩
 split at p1
 ·rename_i hl;exact⟨by rw[r1.length];exact hl.1,DN W1 hl.2 r1 p1⟩
 ·exact p1.elim
end
def bu:D->D->List Cell->R D:=λx y c=>match x,y with
 |.int i,.int j=>.ok (.int (i+j)) c
 |.str a,.str b=>if a.length+b.length<=Ω then .ok (.str (a++b)) c else .bad
 |.tup l,.tup m=>if l.length≠0/\l.length+m.length<=Ω then .ok (.tup (l++m)) c else .bad
 |_,_=>.bad
def cA:D->D->List Cell->R D:=λx y c=>match x,y with
 |.int i,.int j=>.ok (.int (i-j)) c
 |_,_=>.bad
def bN:D->D->List Cell->R D:=λx y c=>match x,y with
 |.int i,.int j=>if(-(2^64)<i/\i<2^64)\/(-(2^64)<j/\j<2^64)then .ok (.int (i*j)) c else .bad
 |_,_=>.bad
def gu:D->D->List Cell->R D:=λx y c=>match x,y with
 |.int i,.int j=>if 0<j/\j<1073741824 then .ok (.int (i/j)) c else .bad
 |_,_=>.bad
def cy:D->D->List Cell->R D:=λx y c=>match x,y with
 |.int i,.int j=>if 0<j then .ok (.int (i % j)) c else .bad
 |_,_=>.bad
def sZ:D->D->List Cell->R D:=λx y c=>match x,y with
 |.int i,.int j=>if 0<=j/\j<=1000000/\i.natAbs<2^64 then .ok (.int (i^j.toNat)) c else .bad
 |_,_=>.bad
def vL:D->List Cell->R D:=λx c=>match x with
 |.int i=>.ok (.int (-i)) c
 |_=>.bad
def rO(p:Int->Int->Bool):D->D->List Cell->R D:=λx y c=>match x,y with
 |.int i,.int j=>.ok (.bl (p i j)) c
 |_,_=>.bad
section
variable {X:Cx}
theorem eK:cE X (binaryOp .Add) (r2 X.K bu):=by
 intro pins s σ H v u vv uu Q I rv ru h;obtain⟨ρ,x,y,c,W,rx,ry,p⟩:=h;unfold bu at p;split at p
 ·cases rx;cases ry;exact Ws pins s σ H _ _ vv uu Q I rv ru ⟨_,_,rfl,rfl,p.here W rfl⟩
 ·split at p
  ·rename_i hl;cases rx;cases ry;exact Wr pins s σ H _ _ vv uu Q I rv ru ⟨_,_,rfl,rfl,hl,p.here W rfl⟩
  ·exact p.elim
 ·split at p
  ·rename_i hl;obtain⟨a,xs,rfl,sa,ra⟩:=rx;obtain⟨b,ys,rfl,sb,rb⟩:=ry;refine Wn pins s σ H _ _ vv uu Q I rv ru ⟨a,b,xs,ys,rfl,rfl,cO.of sa,cO.of sb,λz=>hl.1 ?_,by rw[ra.length,rb.length];exact hl.2,λz=>?_,λ_=>DM W (ra.append rb) p⟩
   ·rw[<-ra.length,z];rfl
   ·refine p.here W ⟨a,xs++ys,rfl,by rw[z,agS];exact sa,ra.append rb⟩
  ·exact p.elim
 ·exact p.elim
theorem fH:cE X (binaryOp .Sub) (r2 X.K cA):=by
 intro pins s σ H v u vv uu Q I rv ru h;obtain⟨ρ,x,y,c,W,rx,ry,p⟩:=h;unfold cA at p;split at p
 ·cases rx;cases ry;exact V7 pins s σ H _ _ vv uu Q I rv ru ⟨_,_,rfl,rfl,p.here W rfl⟩
 ·exact p.elim
theorem gk:cE X (binaryOp .Mult) (r2 X.K bN):=by
 intro pins s σ H v u vv uu Q I rv ru h;obtain⟨ρ,x,y,c,W,rx,ry,p⟩:=h;unfold bN at p;split at p
 ·split at p
  ·rename_i hl;cases rx;cases ry;exact We pins s σ H _ _ vv uu Q I rv ru ⟨_,_,rfl,rfl,hl,p.here W rfl⟩
  ·exact p.elim
 ·exact p.elim
theorem tG:cE X (binaryOp .FloorDiv) (r2 X.K gu):=by
 intro pins s σ H v u vv uu Q I rv ru h;obtain⟨ρ,x,y,c,W,rx,ry,p⟩:=h;unfold gu at p;split at p
 ·split at p
  ·rename_i hl;cases rx;cases ry;exact Wl pins s σ H _ _ vv uu Q I rv ru ⟨_,_,rfl,rfl,hl,p.here W rfl⟩
  ·exact p.elim
 ·exact p.elim
theorem iE:cE X (binaryOp .Mod) (r2 X.K cy):=by
 intro pins s σ H v u vv uu Q I rv ru h;obtain⟨ρ,x,y,c,W,rx,ry,p⟩:=h;unfold cy at p;split at p
 ·split at p
  ·rename_i hl;cases rx;cases ry;exact Wf pins s σ H _ _ vv uu Q I rv ru ⟨_,_,rfl,rfl,hl,p.here W rfl⟩
  ·exact p.elim
 ·exact p.elim
theorem Ke:cE X (binaryOp .Pow) (r2 X.K sZ):=by
 intro pins s σ H v u vv uu Q I rv ru h;obtain⟨ρ,x,y,c,W,rx,ry,p⟩:=h;unfold sZ at p;split at p
 ·split at p
  ·rename_i hl;cases rx;cases ry;exact V9 pins s σ H _ _ vv uu Q I rv ru ⟨_,_,rfl,rfl,hl,p.here W rfl⟩
  ·exact p.elim
 ·exact p.elim
theorem PN:xJ X (unaryOp .USub) (r1 X.K vL):=by
 intro pins s σ H v vv Q I rv h;obtain⟨ρ,x,c,W,rx,p⟩:=h;unfold vL at p;split at p
 ·cases rx;exact PK pins s σ H _ vv Q I rv ⟨_,rfl,p.here W rfl⟩
 ·exact p.elim
theorem zj{f:Γ->Γ->Sem Γ}{q:Int->Int->Bool}(h:cE X f (kF λi j=>.bl (q i j))):cE X f (r2 X.K (rO q)):=by
 intro pins s σ H v u vv uu Q I rv ru hh;obtain⟨ρ,x,y,c,W,rx,ry,p⟩:=hh;unfold rO at p;split at p
 ·cases rx;cases ry;exact h pins s σ H _ _ vv uu Q I rv ru ⟨_,_,rfl,rfl,p.here W rfl⟩
 ·exact p.elim
abbrev nH:=rO λi j=>decide (i<j)
abbrev Eh:=rO λi j=>decide (i<=j)
abbrev jl:=rO λi j=>decide (j<i)
abbrev MH:=rO λi j=>decide (j<=i)
theorem Kg:cE X (compareOp .Lt) (r2 X.K nH):=zj Wg
theorem Kh:cE X (compareOp .LtE) (r2 X.K Eh):=zj Wh
theorem Km:cE X (compareOp .Gt) (r2 X.K jl):=zj Wi
theorem Xp:cE X (compareOp .GtE) (r2 X.K MH):=zj Wj
end
def E4:D->D->Option Bool
 |.aL,.aL=>ζ Δ|.aL,.int _=>ζ Θ|.int _,.aL=>ζ Θ|.aL,.bl _=>ζ Θ|.bl _,.aL=>ζ Θ|.aL,.str _=>ζ Θ|.str _,.aL=>ζ Θ
 |.int i,.int j=>ζ (decide (i=j))|.bl a,.bl b=>ζ (decide (a=b))|.str x,.str y=>ζ (decide (x=y))
 |.int _,.str _=>ζ Θ|.str _,.int _=>ζ Θ|.bl _,.str _=>ζ Θ|.str _,.bl _=>ζ Θ
 |_,_=>η
def cj:D->D->List Cell->R D:=λx y c=>match E4 x y with
 |some b=>.ok (.bl b) c
 |none=>.bad
def eV:D->D->List Cell->R D:=λx y c=>match E4 x y with
 |some b=>.ok (.bl (!b)) c
 |none=>.bad
def iZ:D->Bool
 |.aL=>Δ
 |_=>Θ
def kQ:D->D->List Cell->R D:=λx y c=>match y with
 |.aL=>.ok (.bl (!iZ x)) c
 |_=>.bad
section
variable {X:Cx}{K:ξ}{ρ:List Ξ}{H:Hp}{c:List Cell}
theorem Nc{x y:D}{v u:V}{b:Bool}(rx:Rel K ρ H x v) (ry:Rel K ρ H y u) (h:E4 x y=ζ b):B7 v u=Δ/\decide (v=u)=b:=by
 cases x<;>cases y<;>first
  |(cases rx;cases ry;cases h;refine⟨rfl,?_⟩;simp;done)
  |(cases h;done)
theorem jG:cE X (compareOp .Eq) (r2 X.K cj):=by
 intro pins s σ H v u vv uu Q I rv ru h;obtain⟨ρ,x,y,c,W,rx,ry,p⟩:=h;unfold cj at p;split at p
 ·rename_i b hb;obtain⟨h1,h2⟩:=Nc rx ry hb;exact Wm pins s σ H _ _ vv uu Q I rv ru ⟨h1,by rw[h2];exact p.here W rfl⟩
 ·exact p.elim
theorem p8:cE X (compareOp .NotEq) (r2 X.K eV):=by
 intro pins s σ H v u vv uu Q I rv ru h;obtain⟨ρ,x,y,c,W,rx,ry,p⟩:=h;unfold eV at p;split at p
 ·rename_i b hb;obtain⟨h1,h2⟩:=Nc rx ry hb;exact Wb pins s σ H _ _ vv uu Q I rv ru ⟨h1,by rw[h2];exact p.here W rfl⟩
 ·exact p.elim
theorem Zn{x:D}{v:V}(rx:Rel K ρ H x v):decide (v=.aL)=iZ x:=by
 cases x<;>first
  |(cases rx;rfl;done)
  |(cases rx;simp[iZ];done)
  |(obtain⟨a,xs,rfl,_⟩:=rx;simp[iZ];done)
  |(obtain⟨a,rfl,_⟩:=rx;simp[iZ];done)
  |(obtain⟨a,o,q,c,cl,xs,rfl,_⟩:=rx;simp[iZ];done)
theorem Kl:cE X (compareOp .IsNot) (r2 X.K kQ):=by
 intro pins s σ H v u vv uu Q I rv ru h;obtain⟨ρ,x,y,c,W,rx,ry,p⟩:=h;unfold kQ at p;split at p
 ·cases ry;exact Wa pins s σ H _ _ vv uu Q I rv ru ⟨rfl,by rw[Zn rx];exact p.here W rfl⟩
 ·exact p.elim
theorem VL{a b d:ν}{da db dd:Ev->List Cell->R D}{pos:Pos}{op op':CmpOp}{f g:D->D->List Cell->R D}(ho:cE X (compareOp op) (r2 X.K f)) (ho':cE X (compareOp op') (r2 X.K g)) (ha:bw X a da) (hb:bw X b db) (hd:bw X d dd)
  (h1:lastMarks [op,op'] [b,d]=Θ:=by with_unfolding_all rfl) :
  bw X (.Compare a [op,op'] [b,d] pos) (Fb f g da db dd):=(Vw ho ho' ha hb hd h1).imp λσ H Q h=>by
 obtain⟨ρ,e,c,W,V,p⟩:=h;refine⟨ρ,e,c,W,V,post.bind p λx c1 aR H1 v _ W1 X1 r1 p1=>⟨aR,e,c1,W1,V.mono W X1,post.bind p1 λy c2 d8 H2 u _ W2 X2 r2 p2=>⟨d8,x,y,c2,W2,Rel.mono W1 X2 _ _ r1,r2,post.bind p2 λz c3 uO H3 w _ W3 X3 r3 p3=>?_⟩⟩⟩
 have V3:=(V.mono W X1).mono W1 (X2.trans X3);cases z with
 |bl k =>
  cases r3;refine⟨k,rfl,?_⟩;cases k with
  |true =>
   refine nM ⟨uO,e,c3,W3,V3,post.bind p3 λt c4 uN H4 w4 _ W4 X4 r4 p4=>⟨uN,y,t,c4,W4,Rel.mono W2 (X3.trans X4) _ _ r2,r4,p4⟩⟩
  |false=>exact nN (p3.here W3 rfl)
 |_=>exact p3.elim
end
def fW(c:List Cell):D->Option (List D)
 |.tup l=>ζ l
 |.lst l=>ζ l
 |.cH l=>ζ (l.map D.int)
 |.ref k=>match c[k]? with
  |some (.lst l)=>ζ l
  |none=>η
 |_=>η
def aF:D->D->List Cell->R D:=λx y c=>match y with
 |.int i=>match fW c x with
  |some l=>match cX l i with
   |some d=>.ok d c
   |none=>.bad
  |none=>.bad
 |_=>.bad
section
variable {X:Cx}{K:ξ}{ρ:List Ξ}{H:Hp}{c:List Cell}
theorem B5{x:D}{v:V}{l:List D}(W:Wd K ρ H c) (rx:Rel K ρ H x v) (h:fW c x=ζ l):∃a xs,v=.ref a/\(b9 K H a xs\/cO K H a xs)/\aQ K ρ H l xs:=by
 cases x with
 |tup m =>
  cases h;obtain⟨a,xs,e,s,r⟩:=rx;exact⟨a,xs,e,.inr (cO.of s),r⟩
 |lst m =>
  cases h;obtain⟨a,xs,e,s,r⟩:=rx;exact⟨a,xs,e,.inl (b9.of s.1),r⟩
 |cH m =>
  cases h;obtain⟨a,e,s⟩:=rx;exact⟨a,_,e,.inl s.sql,aQ.ints⟩
 |ref k =>
  obtain⟨a,e,s⟩:=rx;unfold fW at h;dsimp only at h;cases hc:c[k]? with
  |none=>rw[hc]at h;cases h
  |some cl =>
   cases cl with
   |lst m =>
    rw[hc]at h;cases h;obtain⟨_,xs,hx,r⟩:=W.gc k a _ s hc;exact⟨a,xs,e,.inl (b9.of hx),r⟩
 |_=>cases h
theorem ac3{l:List D}{xs:List V}{i:Int}{d:D}(r:aQ K ρ H l xs) (h:cX l i=ζ d):∃v,cX xs i=ζ v/\Rel K ρ H d v:=by
 unfold cX at h ⊢;rw[r.length];cases e:gp l.length i with
 |none=>rw[e]at h;cases h
 |some j =>
  rw[e]at h;exact r.get (i:=j) h
theorem bT:uK X (r2 X.K aF):=by
 intro value slice pins s σ H v u vv uu Q I rv ru h hs;obtain⟨ρ,x,y,c,W,rx,ry,p⟩:=h;unfold aF at p;split at p
 ·split at p
  ·rename_i l hl;split at p
   ·rename_i d hd;cases ry;obtain⟨a,xs,rfl,sq,r⟩:=B5 W rx hl;obtain⟨w,hw,rw'⟩:=ac3 r hd
    rcases sq with sq|sq
    ·exact Ze value slice pins s σ H _ _ vv uu Q I rv ru ⟨a,xs,_,w,rfl,rfl,sq,hw,p.here W rw'⟩ hs
    ·exact LL value slice pins s σ H _ _ vv uu Q I rv ru ⟨a,xs,_,w,rfl,rfl,sq,hw,p.here W rw'⟩ hs
   ·exact p.elim
  ·exact p.elim
 ·exact p.elim
end
def sf(c:List Cell):D->Option Bool
 |.aL=>ζ Θ
 |.bl b=>ζ b
 |.int i=>ζ (i != 0)
 |.tup l=>ζ (!l.isEmpty)
 |.lst l=>ζ (!l.isEmpty)
 |.ref k=>match c[k]? with
  |some (.lst l)=>ζ (!l.isEmpty)
  |none=>η
 |_=>η
def Aj(a:Ev->List Cell->R D):Ev->List Cell->R Bool:=λe c=>(a e c).bind λx c=>match sf c x with
 |some b=>.ok b c
 |none=>.bad
def aV(a:Ev->List Cell->R D):Ev->List Cell->R Bool:=λe c=>(a e c).bind λx c=>match x with
 |.bl b=>.ok b c
 |_=>.bad
def jr(a b:Ev->List Cell->R Bool):Ev->List Cell->R Bool:=λe c=>(a e c).bind λx c=>if x=Δ then b e c else .ok Θ c
def oU(a b:Ev->List Cell->R Bool):Ev->List Cell->R Bool:=λe c=>(a e c).bind λx c=>if x=Δ then .ok Δ c else b e c
def k7(a:Ev->List Cell->R Bool):Ev->List Cell->R Bool:=λe c=>(a e c).bind λx c=>.ok (!x) c
def uy(a b:Ev->List Cell->R D):Ev->List Cell->R D:=λe c=>(a e c).bind λx c=>match x with
 |.bl k=>if k=Δ then b e c else .ok (.bl Θ) c
 |_=>.bad
def E9(a:Ev->List Cell->R D):Ev->List Cell->R D:=λe c=>(a e c).bind λx c=>match x with
 |.bl k=>.ok (.bl (!k)) c
 |_=>.bad
def rJ(t:Ev->List Cell->R Bool) (a b:Ev->List Cell->R D):Ev->List Cell->R D:=λe c=>(t e c).bind λx c=>if x=Δ then a e c else b e c
section
variable {X:Cx}{a b c':ν}{da db:Ev->List Cell->R D}{ta tb:Ev->List Cell->R Bool}{pos:Pos}{rest:List ν}
theorem Qi{K:ξ}{ρ:List Ξ}{H:Hp}{c:List Cell}{x:D}{v:V}{k:Bool}(W:Wd K ρ H c) (rx:Rel K ρ H x v) (h:sf c x=ζ k):GN K v H k:=by
 have emp:∀{l:List D}{xs:List V},aQ K ρ H l xs->l.isEmpty=xs.isEmpty:=fun{l xs} r=>by
  have:=r.length;cases l<;>cases xs<;>simp_all
 cases x with
 |aL=>cases rx;cases h;exact rfl
 |bl b=>cases rx;cases h;exact rfl
 |int i=>cases rx;cases h;exact rfl
 |tup l =>
  obtain⟨a,xs,rfl,s,r⟩:=rx;cases h;exact .inr (.inl ⟨xs,cO.of s,by rw[emp r]⟩)
 |lst l =>
  obtain⟨a,xs,rfl,s,r⟩:=rx;cases h;exact .inl ⟨xs,b9.of s.1,by rw[emp r]⟩
 |ref j =>
  obtain⟨a,rfl,s⟩:=rx;unfold sf at h;dsimp only at h;cases hc:c[j]? with
  |none=>rw[hc]at h;cases h
  |some cl =>
   cases cl with
   |lst m =>
    rw[hc]at h;cases h;obtain⟨_,xs,hx,r⟩:=W.gc j a _ s hc;exact .inl ⟨xs,b9.of hx,by rw[emp r]⟩
 |_=>cases h
theorem VD(ha:bw X a da) (he:∀whole,isTrue a X.env whole=(do let v <-whole;standAt a.pos;holding [v] (truthy v)):=by intro _;rfl):jw X a (Aj da):=(Uj ha he).imp λσ H Q h=>by
 obtain⟨ρ,e,c,W,V,p⟩:=h;refine⟨ρ,e,c,W,V,post.bind p λx c1 aR H1 v _ W1 X1 r1 p1=>?_⟩
 split at p1
 ·rename_i k hk;exact⟨k,Qi W1 r1 hk,p1.here W1 rfl⟩
 ·exact p1.elim
theorem N3(h:tD X.K (λ_ _ a b=>a=b) (aV da) σ H Q):tD X.K (Rel X.K) da σ H λx H'=>∃k,x=.bl k/\Q k H':=by
 obtain⟨ρ,e,c,W,V,p⟩:=h;refine⟨ρ,e,c,W,V,post.bind p λx c1 aR H1 v _ W1 X1 r1 p1=>?_⟩
 cases x with
 |bl k=>cases r1;exact⟨k,rfl,p1.here W1 rfl⟩
 |_=>exact p1.elim
theorem kH(ha:bw X a da) (he:∀whole,isTrue a X.env whole=(do let v <-whole;standAt a.pos;holding [v] (truthy v)):=by intro _;rfl):jw X a (aV da):=(Ui ha he).imp λσ H Q h=>N3 h
theorem eU{op:CmpOp}{f:D->D->List Cell->R D}(ho:cE X (compareOp op) (r2 X.K f)) (ha:bw X a da) (hb:bw X b db) (hm:behindInMarks op b=Θ:=by first|exact KG _|rfl):jw X (.Compare a [op] [b] pos) (aV (av f da db)) :=
 (Ul ho ha hb hm).imp λσ H Q h=>ym (Q:=λx H'=>∃k,x=.bl k/\Q k H') (N3 h)
theorem Dw(ha:jw X a ta):uH X (.BoolOp .And [a] pos) ta:=Ue ha
theorem yV(ha:jw X a ta):uH X (.BoolOp .Or [a] pos) ta:=Uc ha
theorem Dv(ha:jw X a ta) (hb:uH X (.BoolOp .And (b::rest) pos) tb):uH X (.BoolOp .And (a::b::rest) pos) (jr ta tb):=(Ug ha hb).imp λσ H Q h=>by
 obtain⟨ρ,e,c,W,V,p⟩:=h;refine⟨ρ,e,c,W,V,post.bind p λx c1 aR H1 v _ W1 X1 r1 p1=>?_⟩
 cases r1;cases x with
 |true=>exact nM ⟨aR,e,c1,W1,V.mono W X1,p1⟩
 |false=>exact nN (post.here (a:=Θ) p1 W1 rfl)
theorem yU(ha:jw X a ta) (hb:uH X (.BoolOp .Or (b::rest) pos) tb):uH X (.BoolOp .Or (a::b::rest) pos) (oU ta tb):=(Ud ha hb).imp λσ H Q h=>by
 obtain⟨ρ,e,c,W,V,p⟩:=h;refine⟨ρ,e,c,W,V,post.bind p λx c1 aR H1 v _ W1 X1 r1 p1=>?_⟩
 cases r1;cases x with
 |true=>exact nM (post.here (a:=Δ) p1 W1 rfl)
 |false=>exact nN ⟨aR,e,c1,W1,V.mono W X1,p1⟩
theorem nv(ha:jw X a ta):jw X (.UnaryOp .Not a pos) (k7 ta):=(Uk ha).imp λσ H Q h=>by
 obtain⟨ρ,e,c,W,V,p⟩:=h;refine⟨ρ,e,c,W,V,post.bind p λx c1 aR H1 v _ W1 X1 r1 p1=>?_⟩
 cases r1;exact p1.here W1 rfl
theorem yW{op}(h:bw X a da):bw X (.BoolOp op [a] pos) da:=Vn h
theorem yZ(ha:bw X a da) (hb:bw X (.BoolOp .And (b::rest) pos) db):bw X (.BoolOp .And (a::b::rest) pos) (uy da db):=(VB ha hb).imp λσ H Q h=>by
 obtain⟨ρ,e,c,W,V,p⟩:=h;refine⟨ρ,e,c,W,V,post.bind p λx c1 aR H1 v _ W1 X1 r1 p1=>?_⟩
 cases x with
 |bl k =>
  cases r1;refine⟨k,rfl,?_⟩;cases k with
  |true=>exact nM ⟨aR,e,c1,W1,V.mono W X1,p1⟩
  |false=>exact nN (post.here (a:=D.bl Θ) p1 W1 rfl)
 |_=>exact p1.elim
theorem VE(ha:bw X a da):bw X (.UnaryOp .Not a pos) (E9 da):=(Vo ha).imp λσ H Q h=>by
 obtain⟨ρ,e,c,W,V,p⟩:=h;refine⟨ρ,e,c,W,V,post.bind p λx c1 aR H1 v _ W1 X1 r1 p1=>?_⟩
 cases x with
 |bl k=>cases r1;exact⟨k,rfl,p1.here W1 rfl⟩
 |_=>exact p1.elim
theorem JL(ht:jw X c' ta) (ha:bw X a da) (hb:bw X b db):bw X (.IfExp c' a b pos) (rJ ta da db):=(Vr ht ha hb).imp λσ H Q h=>by
 obtain⟨ρ,e,c,W,V,p⟩:=h;refine⟨ρ,e,c,W,V,post.bind p λx c1 aR H1 v _ W1 X1 r1 p1=>?_⟩
 cases r1;cases x with
 |true=>exact nM ⟨aR,e,c1,W1,V.mono W X1,p1⟩
 |false=>exact nN ⟨aR,e,c1,W1,V.mono W X1,p1⟩
end
inductive Fl where
 |nx (e:Ev)|rt (d:D)|bk (e:Ev)|ct (e:Ev)
abbrev aa:=List Cell
abbrev af:=Ev->List Cell->R D
abbrev ah:=Ev->List Cell->R Fl
abbrev ai:=Ev->List Cell->R Bool
abbrev aj:=Ev->List Cell->R (List D)
inductive FV where
 |nx (σ:St)|rt (v:V)|bk (σ:St)|ct (σ:St)
def jv(K:ξ) (ρ:List Ξ) (H:Hp):Fl->FV->Prop
 |.nx e,f=>∃σ,f=.nx σ/\eH K ρ H e σ
 |.rt d,f=>∃v,f=.rt v/\Rel K ρ H d v
 |.bk e,f=>∃σ,f=.bk σ/\eH K ρ H e σ
 |.ct e,f=>∃σ,f=.ct σ/\eH K ρ H e σ
def En(Z:Ends):FV->Hp->Prop
 |.nx σ,H=>Z.nx σ H
 |.rt v,H=>Z.rt v H
 |.bk σ,H=>Z.bk σ H
 |.ct σ,H=>Z.ct σ H
def Ie(K:ξ) (d:ah):TS:=λZ σ H=>tD K (jv K) d σ H (En Z)
abbrev ki(X:Cx) (st:ψ) (d:ah):Prop:=PS X st (Ie X.K d)
abbrev bW(X:Cx) (st:List ψ) (d:ah):Prop:=gW X st (Ie X.K d)
def ck:ah:=λe c=>.ok (.nx e) c
def aE(a b:ah):ah:=λe c=>(a e c).bind λf c=>match f with
 |.nx e=>b e c
 |f=>.ok f c
def aS(a:af):ah:=λe c=>(a e c).bind λx c=>.ok (.rt x) c
def cK(a:af):ah:=λe c=>(a e c).bind λ_ c=>.ok (.nx e) c
def b7(t:ai) (a b:ah):ah:=λe c=>(t e c).bind λx c=>if x=Δ then a e c else b e c
def aG(i:Nat) (a:af):ah:=λe c=>(a e c).bind λx c=>.ok (.nx (e.set i (ζ x))) c
def lM:ah:=λ_ _=>.bad
section
variable {X:Cx}{st:ψ}{rest:List ψ}{t u:ah}{e:ν}{da:af}{pos:Pos}
theorem fE:bW X [] ck:=Uq.imp λZ σ H h=>by
 obtain⟨ρ,e,c,W,V,p⟩:=h;exact p.here W ⟨σ,rfl,V⟩
theorem aP(h1:ki X st t) (h2:bW X rest u):bW X (st::rest) (aE t u):=(Ur h1 h2).imp λZ σ H h=>by
 obtain⟨ρ,e,c,W,V,p⟩:=h;refine⟨ρ,e,c,W,V,post.bind p λf c1 aR H1 b _ W1 X1 r1 p1=>?_⟩
 cases f with
 |nx e1=>obtain⟨σ1,rfl,V1⟩:=r1;exact⟨aR,e1,c1,W1,V1,p1⟩
 |rt d=>obtain⟨v,rfl,V1⟩:=r1;exact post.here (Q:=En Z) (show post X.K (jv X.K) (.ok (Fl.rt d) c1) aR H1 (En Z)from p1) W1 ⟨_,rfl,V1⟩
 |bk e1=>obtain⟨σ1,rfl,V1⟩:=r1;exact post.here (Q:=En Z) (show post X.K (jv X.K) (.ok (Fl.bk e1) c1) aR H1 (En Z)from p1) W1 ⟨_,rfl,V1⟩
 |ct e1=>obtain⟨σ1,rfl,V1⟩:=r1;exact post.here (Q:=En Z) (show post X.K (jv X.K) (.ok (Fl.ct e1) c1) aR H1 (En Z)from p1) W1 ⟨_,rfl,V1⟩
theorem aU(h1:ki X st t):bW X [st] t:=Uo h1
theorem ve:ki X st lM:=λ_ _ _ _ _ _ h=>by
 obtain⟨ρ,e,c,W,V,p⟩:=h;exact p.elim
theorem bZ(he:bw X e da):ki X (.Return (ζ e) pos) (aS da):=(Uv he).imp λZ σ H h=>by
 obtain⟨ρ,e,c,W,V,p⟩:=h;refine⟨ρ,e,c,W,V,post.bind p λx c1 aR H1 v _ W1 X1 r1 p1=>p1.here W1 ⟨v,rfl,r1⟩⟩
theorem fX(he:bw X e da) (hs:swapsWith e η pos.line X.env=pure Θ:=by rfl):ki X (.Expr e pos) (cK da):=(Uy he hs).imp λZ σ H h=>by
 obtain⟨ρ,e,c,W,V,p⟩:=h;refine⟨ρ,e,c,W,V,post.bind p λx c1 aR H1 v _ W1 X1 r1 p1=>p1.here W1 ⟨σ,rfl,V.mono W X1⟩⟩
theorem fj{c':ν}{a b:List ψ}{tc:ai}(hc:jw X c' tc) (ha:bW X a t) (hb:bW X b u):ki X (.If c' a b pos) (b7 tc t u):=(Uw hc ha hb).imp λZ σ H h=>by
 obtain⟨ρ,e,c,W,V,p⟩:=h;refine⟨ρ,e,c,W,V,post.bind p λx c1 aR H1 v _ W1 X1 r1 p1=>?_⟩
 cases r1;cases x with
 |true=>exact nM ⟨aR,e,c1,W1,V.mono W X1,p1⟩
 |false=>exact nN ⟨aR,e,c1,W1,V.mono W X1,p1⟩
theorem bg{i:Nat}{x:Str}{pos':Pos}(he:bw X e da) (hN:X.N.Nodup:=by decide +kernel) (hi:X.N[i]? = ζ x:=by rfl) (hx:Loc X.env.scope x:=by first|exact Or.inl rfl|exact Or.inr rfl) (hs:swapsWith e (ζ (.Name x pos')) pos.line X.env=pure Θ:=by rfl)
  (hf:X.fn x=Δ\/X.env.scope.names.lookup x=ζ .local:=by first|exact .inl rfl|exact .inr rfl):ki X (.Assign [.Name x pos'] e pos) (aG i da):=(Uu hN hi hx he hs).imp λZ σ H h=>by
 obtain⟨ρ,e,c,W,V,p⟩:=h;refine⟨ρ,e,c,W,V,post.bind p λx c1 aR H1 v _ W1 X1 r1 p1=>p1.here W1 ⟨_,rfl,(V.mono W X1).set r1 i⟩⟩
end
abbrev Gd:=D->Ev->aa->R Ev
def yp(K:ξ) (g:Gd):TG:=λv σ H Q=>∃ρ x e c,Wd K ρ H c/\eH K ρ H e σ/\Rel K ρ H x v/\post K (λρ H e σ=>eH K ρ H e σ) (g x e c) ρ H Q
def Q2(K:ξ) (g:List D->Ev->aa->R Ev):mQ:=λvs σ H Q=>∃ρ xs e c,Wd K ρ H c/\eH K ρ H e σ/\aQ K ρ H xs vs/\post K (λρ H e σ=>eH K ρ H e σ) (g xs e c) ρ H Q
abbrev pC(X:Cx) (e:ν) (g:Gd):Prop:=PG X e (yp X.K g)
abbrev Bf(X:Cx) (es:List ν) (g:List D->Ev->aa->R Ev):Prop:=pB X es (Q2 X.K g)
def aA(i:Nat):Gd:=λx e c=>.ok (e.set i (ζ x)) c
def cU:List D->Ev->aa->R Ev:=λxs e c=>match xs with
 |[]=>.ok e c
 |_=>.bad
def br(g:Gd) (r:List D->Ev->aa->R Ev):List D->Ev->aa->R Ev:=λxs e c=>match xs with
 |x::xs=>(g x e c).bind λe c=>r xs e c
 |_=>.bad
def cS(n:Nat) (g:List D->Ev->aa->R Ev):Gd:=λx e c=>match x with
 |.tup l=>if l.length=n then g l e c else .bad
 |_=>.bad
theorem PG.imp{X:Cx}{e:ν}{t t':TG}(h:PG X e t) (i:∀v σ H Q,t' v σ H Q->t v σ H Q):PG X e t':=λpins s σ H x u Q I r q=>h pins s σ H x u Q I r (i _ _ _ _ q)
theorem pB.imp{X:Cx}{es:List ν}{t t':mQ}(h:pB X es t) (i:∀v σ H Q,t' v σ H Q->t v σ H Q):pB X es t':=λpins s σ H x u Q I r q=>h pins s σ H x u Q I r (i _ _ _ _ q)
section
variable {X:Cx}{pos:Pos}
theorem bh{i:Nat}{x:Str}(hN:X.N.Nodup:=by decide +kernel) (hi:X.N[i]? = ζ x:=by rfl) (hx:Loc X.env.scope x:=by first|exact Or.inl rfl|exact Or.inr rfl) (hf:X.fn x=Δ\/X.env.scope.names.lookup x=ζ .local:=by first|exact .inl rfl|exact .inr rfl):pC X (.Name x pos) (aA i) :=
 (Vg hN hi hx hf).imp λv σ H Q h=>by
  obtain⟨ρ,x,e,c,W,V,r,p⟩:=h;exact p.here W (V.set r i)
theorem j7:Bf X [] cU:=Vc.imp λv σ H Q h=>by
 obtain⟨ρ,xs,e,c,W,V,r,p⟩:=h;cases xs with
 |nil=>exact⟨r,p.here W V⟩
 |cons x xs=>exact p.elim
theorem fQ{e:ν}{es:List ν}{g:Gd}{u:List D->Ev->aa->R Ev}(h1:pC X e g) (h2:Bf X es u) (hs:(assignEach (e::es) X.env).map (·.2)=assign e X.env::(assignEach es X.env).map (·.2):=by rfl):Bf X (e::es) (br g u) :=
 (Vd h1 h2 hs).imp λv σ H Q h=>by
  obtain⟨ρ,xs,e,c,W,V,r,p⟩:=h;cases xs with
  |nil=>exact p.elim
  |cons x xs =>
   obtain⟨y,ys,rfl,rx,rs⟩:=r;exact⟨y,ys,rfl,ρ,x,e,c,W,V,rx,post.bind p λe1 c1 aR H1 σ1 _ W1 X1 V1 p1=>⟨aR,xs,e1,c1,W1,V1,aQ.mono W X1 _ _ rs,p1⟩⟩
theorem j8{es:List ν}{k:Nat}{g:List D->Ev->aa->R Ev}{n:Nat}(h:Bf X es g) (hc:X.calm=Δ:=by rfl) (hn:(assignEach es X.env).length=n:=by rfl) (hst:(assignEach es X.env).findIdx? (·.1)=η:=by rfl):pC X (.Tuple es k pos) (cS n g) :=
 (Ve hc h hn hst).imp λv σ H Q h=>by
  obtain⟨ρ,x,e,c,W,V,r,p⟩:=h;cases x with
  |tup l =>
   obtain⟨a,xs,rfl,s,rs⟩:=r;unfold cS at p;dsimp only at p;split at p
   ·rename_i hl;exact⟨a,xs,rfl,cO.of s,rs.length.trans hl,ρ,l,e,c,W,V,rs,p⟩
   ·exact p.elim
  |_=>exact p.elim
def gR(a:af) (g:Gd):ah:=λe c=>(a e c).bind λx c=>(g x e c).bind λe c=>.ok (.nx e) c
theorem sH{tg e:ν}{da:af}{g:Gd}(he:bw X e da) (hg:pC X tg g) (hs:swapsWithSole [tg] e pos.line X.env=pure Θ:=by rfl) (hw:swappedStores [tg] e X.env=pure η:=by rfl)
  (h1:(assignEach [tg] X.env).map (·.2)=[assign tg X.env]:=by rfl):ki X (.Assign [tg] e pos) (gR da g):=(Uz he hg hs hw h1).imp λZ σ H h=>by
 obtain⟨ρ,e,c,W,V,p⟩:=h;refine⟨ρ,e,c,W,V,post.bind p λx c1 aR H1 v _ W1 X1 r1 p1=>⟨aR,x,e,c1,W1,V.mono W X1,r1,post.bind p1 λe2 c2 d8 H2 σ2 _ W2 X2 V2 p2=>p2.here W2 ⟨σ2,rfl,V2⟩⟩⟩
def lK:D->D->D->aa->R Unit:=λo i v c=>match o,i with
 |.ref k,.int i=>match c[k]? with
  |some (.lst l)=>match gp l.length i with
   |some j=>if noRef v=Δ then .ok () (c.set k (.lst (l.set j v)))else .bad
   |none=>.bad
  |none=>.bad
 |_,_=>.bad
def mE(o i:af):Gd:=λx e c=>(o e c).bind λo c=>(i e c).bind λi c=>(lK o i x c).bind λ_ c=>.ok e c
theorem z7{o i:ν}{dO di:af}(ho:bw X o dO) (hi:bw X i di)
  (ha:∀v,assign (.Subscript o i pos) X.env v=(do
   let ov <-holding [v] (eval o X.env)
   let iv <-holding [v,ov] (eval i X.env)
   standAt pos
   holding [v,ov,iv] (setItem ov iv v)
   release [v,ov,iv] []):=by intro _;rfl):pC X (.Subscript o i pos) (mE dO di):=(Vf ho hi set_list ha).imp λv σ H Q h=>by
 obtain⟨ρ,x,e,c,W,V,rx,p⟩:=h;refine⟨ρ,e,c,W,V,post.bind p λo c1 aR H1 ov _ W1 X1 r1 p1=>⟨aR,e,c1,W1,V.mono W X1,post.bind p1 λi c2 d8 H2 iv _ W2 X2 r2 p2=>?_⟩⟩
 have V2:=(V.mono W X1).mono W1 X2;have SO:=Rel.mono W (X1.trans X2) _ _ rx;have ro:=Rel.mono W1 X2 _ _ r1;unfold lK at p2;split at p2
 ·rename_i k i _ _;split at p2
  ·rename_i l hl;split at p2
   ·rename_i j hj;split at p2
    ·rename_i hv;obtain⟨a,rfl,ha⟩:=ro;cases r2;obtain⟨nr,ys,hy,rl⟩:=W2.gc k a _ ha hl;refine⟨a,ys,i,j,rfl,rfl,hy,by rw[rl.length];exact hj,?_⟩
     exact p2 d8 _ σ (W2.write ha (KJ nr hv) (rl.set j SO)) (Ext.write ha) (V2.mono W2 (Ext.write ha))
    ·exact p2.elim
   ·exact p2.elim
  ·exact p2.elim
 ·exact p2.elim
end
structure Src where
 items:List D
 stays:aa->Prop
def JS(K:ξ) (ρ:List Ξ) (H:Hp) (s:Src) (J:It):Prop :=
 ∀ρ' H' c',Wd K ρ' H' c'->Ext ρ H ρ' H'->s.stays c'->∀i:Nat,
  (∀d,s.items[i]? = ζ d->J.go i H'/\∀x H2,J.uP i H' x H2->Wd K ρ' H2 c'/\Ext ρ' H' ρ' H2/\Rel K ρ' H2 d x)/\(i=s.items.length->J.stop i H')
def Ig(K:ξ) (d:Ev->aa->R Src):TI:=tD K (JS K) d
abbrev PId(X:Cx) (tg iter:ν) (d:Ev->aa->R Src):Prop:=PI X tg iter (Ig X.K d)
theorem PI.imp{X:Cx}{tg iter:ν}{t t':TI}(h:PI X tg iter t) (i:∀σ H Q,t' σ H Q->t σ H Q):PI X tg iter t':=λpins s σ H Q I q=>h pins s σ H Q I (i _ _ _ q)
def dG(a:af):Ev->aa->R Src:=λe c=>(a e c).bind λx c=>match x with
 |.lst l=>.ok ⟨l,λ_=>True⟩ c
 |.cH l=>.ok ⟨l.map D.int,λ_=>True⟩ c
 |.ref k=>match c[k]? with
  |some (.lst l)=>.ok ⟨l,λc=>c[k]? = ζ (.lst l)⟩ c
  |none=>.bad
 |_=>.bad
def eG(a:af):Ev->aa->R Src:=λe c=>(a e c).bind λx c=>match x with
 |.tup l=>.ok ⟨l,λ_=>True⟩ c
 |_=>.bad
def aT(lo hi:Int):List D:=(θ (hi-lo).toNat).map fun(i:Nat)=>D.int (lo+(i:Int))
def aZ(a:aj):Ev->aa->R Src:=λe c=>(a e c).bind λxs c=>match xs with
 |[.int j]=>if -(2^62)<=j/\j<2^62 then .ok ⟨aT 0 j,λ_=>True⟩ c else .bad
 |_=>.bad
def gG(a:aj):Ev->aa->R Src:=λe c=>(a e c).bind λxs c=>match xs with
 |[.int i,.int j]=>if -(2^62)<=i/\i<2^62/\-(2^62)<=j/\j<2^62 then .ok ⟨aT i j,λ_=>True⟩ c else .bad
 |_=>.bad
def mK(a:aj):Ev->aa->R Src:=λe c=>(a e c).bind λxs c=>match xs with
 |[.tup l]=>.ok ⟨l.mapIdx λi x=>.tup [.int i,x],λ_=>True⟩ c
 |_=>.bad
section
variable {X:Cx}{tg:ν}{K:ξ}{ρ:List Ξ}{H:Hp}
theorem El{l:List D}{a:Ξ}{st:aa->Prop}(h:∀ρ' H' c',Wd K ρ' H' c'->Ext ρ H ρ' H'->st c'->∃xs,b9 K H' a xs/\aQ K ρ' H' l xs):JS K ρ H ⟨l,st⟩ (GZ K a):=by
 intro ρ' H' c' W E s i;obtain⟨xs,q,r⟩:=h ρ' H' c' W E s;refine⟨λd hd=>?_,λe=>⟨xs,q,by rw[r.length];exact ag9 e.symm⟩⟩
 obtain⟨x,hx,rx⟩:=r.get hd;refine⟨⟨xs,x,q,hx⟩,λy H2 hy=>?_⟩
 obtain⟨rfl,hy⟩:=hy;have:=hy xs q;rw[hx]at this;cases this;exact⟨W,Ext.refl,rx⟩
theorem Za{l:List D}{a:Ξ}{st:aa->Prop}(h:∀ρ' H' c',Wd K ρ' H' c'->Ext ρ H ρ' H'->st c'->∃xs,cO K H' a xs/\aQ K ρ' H' l xs):JS K ρ H ⟨l,st⟩ (GY K a):=by
 intro ρ' H' c' W E s i;obtain⟨xs,q,r⟩:=h ρ' H' c' W E s;refine⟨λd hd=>?_,λe=>⟨xs,q,by rw[r.length];exact ag9 e.symm⟩⟩
 obtain⟨x,hx,rx⟩:=r.get hd;refine⟨⟨xs,x,q,hx⟩,λy H2 hy=>?_⟩
 obtain⟨rfl,hy⟩:=hy;have:=hy xs q;rw[hx]at this;cases this;exact⟨W,Ext.refl,rx⟩
theorem nj{lo hi:Int}{i:Nat}{d:D}(h:(aT lo hi)[i]? = ζ d):i<(hi-lo).toNat/\d=.int (lo+i):=by
 unfold aT at h;rw[af6]at h;cases q:(θ (hi-lo).toNat)[i]? with
 |none=>rw[q]at h;cases h
 |some j =>
  rw[q]at h;have h1:=(af8.mp q);obtain⟨h2,h3⟩:=h1;rw[ahX]at h3;subst h3;cases h;exact⟨by simpa using h2,rfl⟩
theorem LK{lo hi:Int}{st:aa->Prop}:JS K ρ H ⟨aT lo hi,st⟩ (xQ lo (hi-lo).toNat):=by
 intro ρ' H' c' W E s i;refine⟨λd hd=>?_,λe=>?_⟩
 ·obtain⟨h1,rfl⟩:=nj hd;refine⟨h1,λx H2 hy=>?_⟩
  obtain⟨rfl,rfl⟩:=hy;exact⟨W,Ext.refl,rfl⟩
 ·have:(aT lo hi).length=(hi-lo).toNat:=by simp[aT]
  show(hi-lo).toNat<=i;rw[e];exact ag9 this.symm
theorem j5{l:ν}{dl:af}(hl:bw X l dl):PId X tg l (dG dl):=(Va hl).imp λσ H Q h=>by
 obtain⟨ρ,e,c,W,V,p⟩:=h;refine⟨ρ,e,c,W,V,post.bind p λx c1 aR H1 v _ W1 X1 r1 p1=>?_⟩
 cases x with
 |lst l =>
  obtain⟨a,xs,rfl,s,rs⟩:=r1;exact⟨a,rfl,⟨xs,b9.of s.1⟩,p1.here W1 (El λρ' H' c' W' E _=>⟨xs,b9.of (D7 E s).1,aQ.mono W1 E _ _ rs⟩)⟩
 |cH l =>
  obtain⟨a,rfl,s⟩:=r1;exact⟨a,rfl,⟨_,s.sql⟩,p1.here W1 (El λρ' H' c' W' E _=>⟨_,(IC E s).sql,aQ.ints⟩)⟩
 |ref k =>
  obtain⟨a,rfl,ha⟩:=r1;dsimp only at p1;split at p1
  ·rename_i l hl;obtain⟨_,xs,hx,rs⟩:=W1.gc k a _ ha hl;refine⟨a,rfl,⟨xs,b9.of hx⟩,p1.here W1 (El λρ' H' c' W' E st=>?_)⟩
   obtain⟨_,ys,hy,rs'⟩:=W'.gc k a _ (E.pre k a ha) st;exact⟨ys,b9.of hy,rs'⟩
  ·exact p1.elim
 |_=>exact p1.elim
theorem nP{l:ν}{dl:af}(hl:bw X l dl):PId X tg l (eG dl):=(U5 hl).imp λσ H Q h=>by
 obtain⟨ρ,e,c,W,V,p⟩:=h;refine⟨ρ,e,c,W,V,post.bind p λx c1 aR H1 v _ W1 X1 r1 p1=>?_⟩
 cases x with
 |tup l =>
  obtain⟨a,xs,rfl,s,rs⟩:=r1;exact⟨a,rfl,⟨xs,cO.of s⟩,p1.here W1 (Za λρ' H' c' W' E _=>⟨xs,cO.of (uU W1 E s),aQ.mono W1 E _ _ rs⟩)⟩
 |_=>exact p1.elim
theorem dN{a:ν}{da:aj}{p pos:Pos}(ha:fO X [a] da) (hm:X.mg "range"=η) (hg:Gl X "range":=by rfl) (hs:ε [a] X.env=[(Θ,eval a X.env)]:=by exact pO rfl):PId X tg (.Call (.Name "range" p) [a] [] pos) (aZ da) :=
 (U9 hg hm ha hs).imp λσ H Q h=>by
  obtain⟨ρ,e,c,W,V,p⟩:=h;refine⟨ρ,e,c,W,V,post.bind p λx c1 aR H1 v _ W1 X1 r1 p1=>?_⟩
  split at p1
  ·rename_i j _;split at p1
   ·rename_i hj;obtain⟨y,ys,rfl,ry,rs⟩:=r1;cases ry;cases rs;refine⟨j,rfl,hj.1,hj.2,p1.here W1 ?_⟩;have:=LK (K:=X.K) (ρ:=aR) (H:=H1) (lo:=0) (hi:=j) (st:=λ_=>True)
    rw[Int.sub_zero]at this;exact this
   ·exact p1.elim
  ·exact p1.elim
theorem uc{a b:ν}{da:aj}{p pos:Pos}(ha:fO X [a,b] da) (hm:X.mg "range"=η) (hg:Gl X "range":=by rfl) (hs:ε [a,b] X.env=[(Θ,eval a X.env),(Θ,eval b X.env)]:=by exact Iw rfl rfl) (hs2:ε [b] X.env=[(Θ,eval b X.env)]:=by exact pO rfl):PId X tg (.Call (.Name "range" p) [a,b] [] pos) (gG da) :=
 (U8 hg hm ha hs hs2).imp λσ H Q h=>by
  obtain⟨ρ,e,c,W,V,p⟩:=h;refine⟨ρ,e,c,W,V,post.bind p λx c1 aR H1 v _ W1 X1 r1 p1=>?_⟩
  split at p1
  ·rename_i i j _;split at p1
   ·rename_i hj;obtain⟨y,ys,rfl,ry,z,zs,rfl,rz,rs⟩:=r1;cases ry;cases rz;cases rs;exact⟨i,j,rfl,hj,p1.here W1 LK⟩
   ·exact p1.elim
  ·exact p1.elim
theorem Y9{l m:List D}{a b:Ξ}{st:aa->Prop}(h:∀ρ' H' c',Wd K ρ' H' c'->Ext ρ H ρ' H'->st c'->∃xs ys,cO K H' a xs/\cO K H' b ys/\aQ K ρ' H' l xs/\aQ K ρ' H' m ys):JS K ρ H ⟨List.zipWith (λx y=>.tup [x,y]) l m,st⟩ (Bh (cO K) a b):=by
 intro ρ' H' c' W E s i;obtain⟨xs,ys,q1,q2,r1,r2⟩:=h ρ' H' c' W E s;refine⟨λd hd=>?_,λe=>⟨xs,ys,q1,q2,?_⟩⟩
 ·have hd:(List.zipWith (λx y=>D.tup [x,y]) l m)[i]? = ζ d:=hd
  rw[aj4]at hd;cases e1:l[i]? with
  |none=>rw[e1]at hd;cases hd
  |some x =>
   cases e2:m[i]? with
   |none=>rw[e1,e2]at hd;cases hd
   |some y =>
    rw[e1,e2]at hd;cases hd;obtain⟨v,hv,rv⟩:=r1.get e1;obtain⟨u,hu,ru⟩:=r2.get e2;refine⟨⟨xs,ys,v,u,q1,q2,hv,hu⟩,λz H2 hz=>?_⟩
    obtain⟨t,v',u',rfl,ht,rfl,hz⟩:=hz;obtain⟨z1,z2⟩:=hz xs ys q1 q2;rw[hv]at z1;rw[hu]at z2;cases z1;cases z2;exact⟨W.fresh ht,Ext.fresh W ht,t,[v,u],rfl,fU,v,[u],rfl,Rel.mono W (Ext.fresh W ht) _ _ rv,u,[],rfl,Rel.mono W (Ext.fresh W ht) _ _ ru,rfl⟩
 ·have e:i=(List.zipWith (λx y=>D.tup [x,y]) l m).length:=e
  rw[ai1]at e;rw[r1.length,r2.length];omega
theorem Zb{l:List D}{a:Ξ}{st:aa->Prop}(h:∀ρ' H' c',Wd K ρ' H' c'->Ext ρ H ρ' H'->st c'->∃xs,cO K H' a xs/\aQ K ρ' H' l xs):JS K ρ H ⟨l.mapIdx λi x=>.tup [.int i,x],st⟩ (G0 (cO K) a):=by
 intro ρ' H' c' W E s i;obtain⟨xs,q,r⟩:=h ρ' H' c' W E s;refine⟨λd hd=>?_,λe=>⟨xs,q,?_⟩⟩
 ·have hd:(l.mapIdx λi x=>D.tup [.int i,x])[i]? = ζ d:=hd
  rw[aj5]at hd;cases e1:l[i]? with
  |none=>rw[e1]at hd;cases hd
  |some x =>
   rw[e1]at hd;cases hd;obtain⟨v,hv,rv⟩:=r.get e1;refine⟨⟨xs,v,q,hv⟩,λz H2 hz=>?_⟩
   obtain⟨t,v',rfl,ht,rfl,hz⟩:=hz;have z1:=hz xs q;rw[hv]at z1;cases z1;exact⟨W.fresh ht,Ext.fresh W ht,t,[.int i,v],rfl,fU,.int i,[v],rfl,rfl,v,[],rfl,Rel.mono W (Ext.fresh W ht) _ _ rv,rfl⟩
 ·have e:i=(l.mapIdx λi x=>D.tup [.int i,x]).length:=e
  rw[List.length_mapIdx]at e;rw[r.length];exact e
theorem L0{es:List ν}{k:Nat}{pt:Pos}{a:ν}{da:aj}{p pos:Pos}(ha:fO X [a] da) (hm:X.mg "enumerate"=η) (hg:Gl X "enumerate":=by rfl) (hs:ε [a] X.env=[(Θ,eval a X.env)]:=by exact pO rfl) :
  PId X (.Tuple es k pt) (.Call (.Name "enumerate" p) [a] [] pos) (mK da):=(Vb hg hm ha hs).imp λσ H Q h=>by
 obtain⟨ρ,e,c,W,V,p⟩:=h;refine⟨ρ,e,c,W,V,post.bind p λx c1 aR H1 v _ W1 X1 r1 p1=>?_⟩
 split at p1
 ·obtain⟨y,ys,rfl,ry,rs⟩:=r1;cases rs;obtain⟨a1,xs,rfl,s1,t1⟩:=ry;exact⟨a1,rfl,⟨xs,cO.of s1⟩,p1.here W1 (Zb λρ' H' c' W' E _=>⟨xs,cO.of (uU W1 E s1),aQ.mono W1 E _ _ t1⟩)⟩
 ·exact p1.elim
open Classical in
def c7(st:aa->Prop) (g:Gd) (b:ah):List D->ah
 |[],e,c=>if st c then .ok (.nx e) c else .bad
 |x::xs,e,c=>if st c then(g x e c).bind λe c=>(b e c).bind λf c=>match f with
   |.nx e=>c7 st g b xs e c
   |.ct e=>c7 st g b xs e c
   |.bk e=>.ok (.nx e) c
   |.rt d=>.ok (.rt d) c
  else .bad
def bB(s:Ev->aa->R Src) (g:Gd) (b:ah):ah:=λe c=>(s e c).bind λs c=>c7 s.stays g b s.items e c
theorem dQ{iter:ν}{body:List ψ}{ds:Ev->aa->R Src}{g:Gd}{db:ah}{pos:Pos}(hi:PId X tg iter ds) (hg:pC X tg g) (hb:bW X body db) (hp:aaN (model X.prog X.w) X.A X.env X.xe:=by exact PassesOwn.never) (hc:X.calm=Δ:=by rfl)
  (hs:∀x,foldedSetIterable iter X.env x=pure x:=by intro _;rfl):ki X (.For tg iter body [] pos) (bB ds g db):=(Ux hp hc hi hg hb hs).imp λZ σ H h=>by
 obtain⟨ρ,e,c,W,V,p⟩:=h;refine⟨ρ,e,c,W,V,post.bind p λs c1 aR H1 J _ W1 X1 j1 p1=>?_⟩
 refine⟨λi m σ H=>∃ρ e c,Wd X.K ρ H c/\Ext aR H1 ρ H/\eH X.K ρ H e σ/\i<=s.items.length/\m=s.items.length-i/\post X.K (jv X.K) (c7 s.stays g db (s.items.drop i) e c) ρ H (En Z),
  ⟨_,aR,e,c1,W1,Ext.refl,V.mono W X1,agR _,rfl,p1⟩,?_⟩
 rintro i m σ2 H2 ⟨d8,e2,c2,W2,X2,V2,hi2,rfl,p2⟩
 by_cases hl:i<s.items.length
 ·rw[ais hl]at p2;unfold c7 at p2;split at p2
  ·rename_i hst;obtain⟨go,yl⟩:=(j1 d8 H2 c2 W2 X2 hst i).1 _ (afV hl);refine .inr ⟨go,λσ' H'=>∃ρ e c,Wd X.K ρ H' c/\Ext aR H1 ρ H'/\eH X.K ρ H' e σ'/\i+1<=s.items.length/\post X.K (jv X.K) (c7 s.stays g db (s.items.drop (i+1)) e c) ρ H' (En Z),?_,λx H3 hy=>?_⟩
   ·rintro σ' H' ⟨ρ,e,c,w,x,v,l,q⟩
    exact⟨s.items.length-(i+1),by omega,ρ,e,c,w,x,v,l,rfl,q⟩
   ·obtain⟨W3,X3,r3⟩:=yl x H3 hy;refine⟨d8,_,e2,c2,W3,V2.mono W2 X3,r3,post.bind (post.ext p2 X3) λe4 c4 uN H4 OE _ W4 X4 V4 p4=>?_⟩
    refine⟨uN,e4,c4,W4,V4,post.bind p4 λf c5 jy H5 b _ W5 X5 r5 p5=>?_⟩
    have xH:=((X2.trans X3).trans X4).trans X5;cases f with
    |nx e1=>obtain⟨σ1,rfl,V1⟩:=r5;exact⟨jy,e1,c5,W5,xH,V1,hl,p5⟩
    |ct e1=>obtain⟨σ1,rfl,V1⟩:=r5;exact⟨jy,e1,c5,W5,xH,V1,hl,p5⟩
    |bk e1=>obtain⟨σ1,rfl,V1⟩:=r5;exact post.here (Q:=En Z) (show post X.K (jv X.K) (.ok (Fl.nx e1) c5) jy H5 (En Z)from p5) W5 ⟨_,rfl,V1⟩
    |rt d=>obtain⟨v,rfl,V1⟩:=r5;exact post.here (Q:=En Z) (show post X.K (jv X.K) (.ok (Fl.rt d) c5) jy H5 (En Z)from p5) W5 ⟨_,rfl,V1⟩
  ·exact p2.elim
 ·obtain rfl:i=s.items.length:=by omega
  rw[aj6 (afQ _)]at p2;unfold c7 at p2;split at p2
  ·rename_i hst;exact .inl ⟨(j1 d8 H2 c2 W2 X2 hst _).2 rfl,post.here (Q:=En Z) p2 W2 ⟨σ2,rfl,V2⟩⟩
  ·exact p2.elim
def iu(t:ai) (b:ah):Nat->ah
 |0,_,_=>.bad
 |n+1,e,c=>(t e c).bind λk c=>if k=Δ then(b e c).bind λf c=>match f with
   |.nx e=>iu t b n e c
   |.ct e=>iu t b n e c
   |.bk e=>.ok (.nx e) c
   |.rt d=>.ok (.rt d) c
  else .ok (.nx e) c
theorem IU{n:Nat}{c':ν}{body:List ψ}{dt:ai}{db:ah}{pos:Pos}(ht:jw X c' dt) (hb:bW X body db) (hp:aaN (model X.prog X.w) X.A X.env X.xe:=by exact PassesOwn.never):ki X (.While c' body [] pos) (iu dt db n):=(Us hp ht hb).imp λZ σ H h=>by
 obtain⟨ρ,e,c,W,V,p⟩:=h;refine⟨λm σ H=>∃ρ e c,Wd X.K ρ H c/\eH X.K ρ H e σ/\post X.K (jv X.K) (iu dt db m e c) ρ H (En Z),⟨n,ρ,e,c,W,V,p⟩,?_⟩
 rintro m σ2 H2 ⟨d8,e2,c2,W2,V2,p2⟩
 cases m with
 |zero=>exact p2.elim
 |succ m =>
  unfold iu at p2;refine⟨d8,e2,c2,W2,V2,post.bind p2 λk c3 uO H3 b _ W3 X3 r3 p3=>?_⟩
  cases r3;cases k with
  |true =>
   refine nM ⟨λσ H=>∃ρ e c,Wd X.K ρ H c/\eH X.K ρ H e σ/\post X.K (jv X.K) (iu dt db m e c) ρ H (En Z),λσ' H' q=>⟨m,agY _,q⟩,?_⟩
   refine⟨uO,e2,c3,W3,V2.mono W2 X3,post.bind p3 λf c5 jy H5 b _ W5 X5 r5 p5=>?_⟩
   cases f with
   |nx e1=>obtain⟨σ1,rfl,V1⟩:=r5;exact⟨jy,e1,c5,W5,V1,p5⟩
   |ct e1=>obtain⟨σ1,rfl,V1⟩:=r5;exact⟨jy,e1,c5,W5,V1,p5⟩
   |bk e1=>obtain⟨σ1,rfl,V1⟩:=r5;exact post.here (Q:=En Z) (show post X.K (jv X.K) (.ok (Fl.nx e1) c5) jy H5 (En Z)from p5) W5 ⟨_,rfl,V1⟩
   |rt d=>obtain⟨v,rfl,V1⟩:=r5;exact post.here (Q:=En Z) (show post X.K (jv X.K) (.ok (Fl.rt d) c5) jy H5 (En Z)from p5) W5 ⟨_,rfl,V1⟩
  |false=>exact nN (post.here (Q:=En Z) (show post X.K (jv X.K) (.ok (Fl.nx e2) c3) uO H3 (En Z)from p3) W3 ⟨_,rfl,V2.mono W2 X3⟩)
end
def dz(pick:List (Option Nat)) (e:Ev):Ev:=pick.map λo=>o.bind λj=>(e[j]?).bind id
open Classical in
def bO(st:aa->Prop) (g:Gd) (t:ai) (el:af):List D->Ev->List D->aa->R (List D)
 |[],e,acc,c=>if st c then .ok acc c else .bad
 |x::xs,e,acc,c=>if st c then(g x e c).bind λe c=>(t e c).bind λk c=>if k=Δ then(el e c).bind λy c=>bO st g t el xs e (acc++[y]) c else bO st g t el xs e acc c else .bad
def aY(s:Ev->aa->R Src) (pick:List (Option Nat)) (g:Gd) (t:ai) (el:af):af:=λe c=>(s e c).bind λs c =>
 if s.items.length<Ω then(bO s.stays g t el s.items (dz pick e) [] c).bind λl c=>.ok (.lst l) c else .bad
def aM:ai:=λ_ c=>.ok Δ c
abbrev Be(X:Cx) (ifs:List ν) (t:ai):Prop:=rW X ifs (tD X.K (λ_ _ a b=>a=b) t)
section
variable {X:Cx}{N':List Str}{pick:List (Option Nat)}{scope:aaq}{tg elt iter:ν}{ifs:List ν}{pos:Pos}{ds:Ev->aa->R Src}{g:Gd}{dt:ai}{de:af}
theorem dY:Be X [] aM:=λpins s σ H Q I h=>by
 obtain⟨ρ,e,c,W,V,p⟩:=h;exact U1 pins s σ H Q I (post.here (b:=Δ) p W rfl)
theorem Dn{c':ν}(h:jw X c' dt):Be X [c'] dt:=U0 h
theorem eH.picked{K:ξ}{ρ:List Ξ}{H:Hp}{e:Ev}{σ:St}(V:eH K ρ H e σ):eH K ρ H (dz pick e) (lI pick σ):=by
 refine⟨λi d h=>?_,by simp[dz,lI]⟩
 unfold dz at h;unfold lI;rw[af6]at h ⊢;cases q:pick[i]? with
 |none=>rw[q]at h;cases h
 |some o =>
  rw[q]at h;cases o with
  |none=>cases h
  |some j =>
   have h':(e[j]?).bind id=ζ d:=agc h;cases q2:e[j]? with
   |none=>rw[q2]at h';cases h'
   |some z =>
    rw[q2]at h';have h'':z=ζ d:=h';subst h'';obtain⟨v,hv,r⟩:=V.get j d q2;exact⟨v,by simp[hv],r⟩
theorem acd{K:ξ}{aR:List Ξ}{H1:Hp}{c1:aa}{e:Ev}{σ:St}{s:Src}{J:It}{Q:VK}(W1:Wd K aR H1 c1) (V1:eH K aR H1 e σ) (j1:JS K aR H1 s J) (hn:s.items.length<Ω)
  (p1:post K (Rel K) ((bO s.stays g dt de s.items e [] c1).bind λl c=>.ok (.lst l) c) aR H1 Q):Oz J (yp K g) (tD K (λ_ _ a b=>a=b) dt) (tD K (Rel K) de) Q σ H1:=by
 refine⟨λi m σ ys H=>∃ρ e acc c,Wd K ρ H c/\Ext aR H1 ρ H/\eH K ρ H e σ/\aQ K ρ H acc ys/\acc.length<=i/\i<=s.items.length/\m=s.items.length-i/\post K (Rel K) ((bO s.stays g dt de (s.items.drop i) e acc c).bind λl c=>.ok (.lst l) c) ρ H Q,
  ⟨_,aR,e,[],c1,W1,Ext.refl,V1,rfl,afQ _,agR _,rfl,p1⟩,?_⟩
 rintro i m σ2 ys H2 ⟨d8,e2,acc,c2,W2,X2,V2,r2,ha,hi2,rfl,p2⟩
 refine⟨by rw[r2.length];omega,?_⟩
 by_cases hl:i<s.items.length
 ·rw[ais hl]at p2;unfold bO at p2;split at p2
  ·rename_i hst;obtain⟨go,yl⟩:=(j1 d8 H2 c2 W2 X2 hst i).1 _ (afV hl);refine .inr ⟨go,λσ' ys' H'=>∃ρ e acc c,Wd K ρ H' c/\Ext aR H1 ρ H'/\eH K ρ H' e σ'/\aQ K ρ H' acc ys'/\acc.length<=i+1/\i+1<=s.items.length/\post K (Rel K) ((bO s.stays g dt de (s.items.drop (i+1)) e acc c).bind λl c=>.ok (.lst l) c) ρ H' Q,?_,λx H3 hy=>?_⟩
   ·rintro σ' ys' H' ⟨ρ,e,acc,c,w,x,v,r,a,l,q⟩
    exact⟨s.items.length-(i+1),by omega,ρ,e,acc,c,w,x,v,r,a,l,rfl,q⟩
   ·obtain⟨W3,X3,r3⟩:=yl x H3 hy;have assoc:∀{α β γ:Type}(r:R α) (f:α->aa->R β) (g:β->aa->R γ),(r.bind f).bind g=r.bind λa c=>(f a c).bind g:=λr f g=>by cases r<;>rfl
    rw[assoc]at p2;refine⟨d8,_,e2,c2,W3,V2.mono W2 X3,r3,post.bind (post.ext p2 X3) λe4 c4 uN H4 OE _ W4 X4 V4 p4=>?_⟩
    rw[assoc]at p4;refine⟨uN,e4,c4,W4,V4,post.bind p4 λk c5 jy H5 b _ W5 X5 r5 p5=>?_⟩
    cases r5;have xH:=((X2.trans X3).trans X4).trans X5;have Jr:=aQ.mono W2 ((X3.trans X4).trans X5) _ _ r2;cases k with
    |true =>
     refine nM ?_;rw[if_pos rfl,assoc]at p5;refine⟨jy,e4,c5,W5,V4.mono W4 X5,post.bind p5 λy c6 OF H6 v _ W6 X6 r6 p6=>?_⟩
     refine⟨OF,e4,acc++[y],c6,W6,xH.trans X6,(V4.mono W4 X5).mono W5 X6,(aQ.mono W5 X6 _ _ Jr).append ⟨v,[],rfl,r6,rfl⟩,by simp;exact ha,hl,p6⟩
    |false =>
     refine nN ?_;rw[if_neg agd]at p5;exact⟨jy,e4,acc,c5,W5,xH,V4.mono W4 X5,Jr,Nat.le_succ_of_le ha,hl,p5⟩
  ·exact p2.elim
 ·obtain rfl:i=s.items.length:=by omega
  rw[aj6 (afQ _)]at p2;unfold bO at p2;split at p2
  ·rename_i hst;exact .inl ⟨(j1 d8 H2 c2 W2 X2 hst _).2 rfl,qb W2 r2 p2⟩
  ·exact p2.elim
theorem ND{σ:St}{H:Hp}{Q:VK}{K:ξ}(h:tD K (Rel K) (aY ds pick g dt de) σ H Q):BU (Ig K ds) pick (yp K g) (tD K (λ_ _ a b=>a=b) dt) (tD K (Rel K) de) σ H Q:=by
 obtain⟨ρ,e,c,W,V,p⟩:=h;refine⟨ρ,e,c,W,V,post.bind p λs c1 aR H1 J _ W1 X1 j1 p1=>?_⟩
 split at p1
 ·rename_i hn;exact acd W1 (V.mono W X1).picked j1 hn p1
 ·exact p1.elim
theorem dZ(S:cN X N' pick scope) (hit:PId X tg iter ds)
  (hg:∀cl C s₀ H₀ ex pn,pC (gv X N' scope cl C s₀ H₀ ex pn) tg g) (hi:∀cl C s₀ H₀ ex pn,Be (gv X N' scope cl C s₀ H₀ ex pn) ifs dt) (he:∀cl C s₀ H₀ ex pn,bw (gv X N' scope cl C s₀ H₀ ex pn) elt de)
  (hc:X.calm=Δ:=by rfl) (hs:∀x,foldedSetIterable iter X.env x=pure x:=by intro _;rfl) :
  bw X (.ListComp elt [⟨tg,iter,ifs,0⟩] scope pos) (aY ds pick g dt de):=(Vt S hc hit hg hi he hs).imp λσ H Q h=>ND h
theorem B6{i:Nat}{y:Str}{py spos:Pos}(S:cN X N' pick scope) (hit:PId X tg iter ds)
  (hg:∀cl C s₀ H₀ ex pn,pC (gv X N' scope cl C s₀ H₀ ex pn) tg g) (hi:∀cl C s₀ H₀ ex pn,Be (gv X N' scope cl C s₀ H₀ ex pn) ifs dt) (he:∀cl C s₀ H₀ ex pn,bw (gv X N' scope cl C s₀ H₀ ex pn) elt de)
  (hsw:swapsWith (.ListComp elt [⟨tg,iter,ifs,0⟩] scope pos) (ζ (.Name y py)) spos.line X.env=pure Δ:=by rfl) (hN:X.N.Nodup:=by decide +kernel) (hy:X.N[i]? = ζ y:=by rfl) (hl:X.env.scope.names.lookup y=ζ .local:=by rfl)
  (hc:X.calm=Δ:=by rfl) (hs:∀x,foldedSetIterable iter X.env x=pure x:=by intro _;rfl) :
  ki X (.Assign [.Name y py] (.ListComp elt [⟨tg,iter,ifs,0⟩] scope pos) spos) (aG i (aY ds pick g dt de)):=(Ut (g:=yp X.K g) (tt:=tD X.K (λ_ _ a b=>a=b) dt) (te:=tD X.K (Rel X.K) de) hsw hN hy hl S hc hit hg hi he hs).imp λZ σ H h=>by
 refine ND (g:=g) (dt:=dt) (de:=de) ?_;obtain⟨ρ,e,c,W,V,p⟩:=h;refine⟨ρ,e,c,W,V,post.bind p λx c1 aR H1 v _ W1 X1 r1 p1=>p1.here W1 ⟨_,rfl,(V.mono W X1).set r1 i⟩⟩
end
def bU(K:ξ) (n:Nat) (m:List D->aa->R D):Sp:=λvs H Q _=>∃ρ xs c,Wd K ρ H c/\aQ K ρ H xs vs/\xs.length=n/\post K (Rel K) (m xs c) ρ H Q
def aC(n:Nat) (m:List D->aa->R D) (a:aj):af:=λe c=>(a e c).bind λxs c=>if xs.length=n then m xs c else .bad
def dI(n:Nat) (xs:List D):Ev:=xs.map ζ++ι (n-xs.length) η
def c9(own:Bool) (n:Nat) (v:D) (c:aa):R D:=match v with
 |.ref k=>match c[k]? with
  |some (.lst l)=>if n<=k then(if own=Δ then .ok (.ref n) (c.take n++[.lst l])else .ok (.lst l) (c.take n))else .bad
  |none=>.bad
 |v=>if noRef v=Δ then .ok v (c.take n)else .bad
def bD(n:Nat) (own:Bool) (d:ah):List D->aa->R D:=λxs c=>(d (dI n xs) c).bind λf c'=>match f with
 |.rt v=>c9 own c.length v c'
 |.nx _=>c9 own c.length .aL c'
 |_=>.bad
section
variable {P:π}{w:χ}{K:ξ}{mg:Str->Option Γ}{base:υ}
theorem Ac{own:Bool}{ρ aR:List Ξ}{H H1:Hp}{c c1:aa}{v:D}{x:V}{Q:VK}(W:Wd K ρ H c) (W1:Wd K aR H1 c1) (X1:Ext ρ H aR H1) (r:Rel K aR H1 v x) (p:post K (Rel K) (c9 own c.length v c1) ρ H Q):Q x H1:=by
 have hn:=Ext.len W W1 X1;have Wc:=W1.cut hn;have Xc:=X1.cut (n:=c.length) (ag9 W.len);unfold c9 at p;split at p
 ·rename_i k;split at p
  ·rename_i l hl;split at p
   ·rename_i hk;obtain⟨a,rfl,ha⟩:=r;obtain⟨nr,xs,hx,rl⟩:=W1.gc k a _ ha hl;have na:a∉aR.take c.length:=by
     intro h;obtain⟨j,hj,e⟩:=ahr.mp h;have hj2:j<c.length:=by simp at hj;omega
     rw[ai2]at e;have hk1:=af8.mp ha;have hjl:j<aR.length:=by simp at hj;omega
     have:=(aid W1.nd (h₀:=hjl) (h₁:=hk1.1)).mp (e.trans hk1.2.symm);omega
    have sub:∀b,b∈aR.take c.length->b∈aR:=λb h=>agv h
    split at p
    ·have lr:(aR.take c.length).length=c.length:=by simp[W1.len];omega
     refine p (aR.take c.length++[a]) H1 (.ref a) ?_ ?_ ⟨a,rfl,?_⟩
     ·refine⟨?_,by simp[W1.len],λj b cl e1 e2=>?_,W1.tab⟩
      ·rw[ahV];refine⟨Wc.nd,by simp,?_⟩
       intro y hy z hz;rw[agu]at hz;subst hz;exact λq=>na (q▸hy)
      ·by_cases hj:j<c.length
       ·rw[agl (by rw[lr];exact hj)]at e1
        rw[agl (by simp;omega)]at e2
        have q:=Wc.gc j b cl e1 e2;cases cl with
        |lst l' =>
         obtain⟨tM,ys,hy,r'⟩:=q;refine⟨tM,ys,hy,aQ.low (ρ:=aR) (λz hz=>?_) l' ys tM ?_⟩
         ·rcases agC.mp hz with hz|hz
          ·exact sub z hz
          ·rw[agu]at hz;subst hz;exact agn ha
         ·have E8:aR[j]? = ζ b:=by rw[ahW,if_pos hj]at e1;exact e1
          have e2':c1[j]? = ζ (.lst l'):=by rw[ahW,if_pos hj]at e2;exact e2
          obtain⟨_,zs,hz,rz⟩:=W1.gc j b _ E8 e2';rw[hy]at hz;cases hz;exact rz
       ·have hj':j=c.length:=by
         have:=(af8.mp e1).1;rw[agh,lr]at this;simp at this;omega
        subst hj';rw[agD (by rw[lr];exact afQ _),lr,ahh]at e1
        rw[agD (by simp;omega),show c.length-(List.take c.length c1).length=0 by simp;omega]at e2
        cases e1;cases e2;refine⟨nr,xs,hx,aQ.low (ρ:=aR) (λz hz=>?_) l xs nr rl⟩
        rcases agC.mp hz with hz|hz
        ·exact sub z hz
        ·rw[agu]at hz;subst hz;exact agn ha
     ·refine⟨λj b e=>?_,λb o e z t=>?_⟩
      ·have q:=Xc.pre j b e;rw[agl (af8.mp q).1];exact q
      ·obtain⟨h1,h2⟩:=X1.keep b o e z t;refine⟨h1,λq=>h2 ?_⟩
       rcases agC.mp q with q|q
       ·exact sub b q
       ·rw[agu]at q;subst q;exact agn ha
     ·rw[agD (by rw[lr];exact afQ _),lr,ahh];rfl
    ·exact p (aR.take c.length) H1 (.ref a) Wc Xc ⟨a,xs,rfl,⟨hx,na⟩,aQ.low sub l xs nr rl⟩
   ·exact p.elim
  ·exact p.elim
 ·split at p
  ·rename_i hv;exact p _ H1 x Wc Xc (Rel.low (λb h=>agv h) _ _ hv r)
  ·exact p.elim
theorem eH.start{ρ:List Ξ}{H:Hp}{xs:List D}{vs:List V}{N:List Str}(r:aQ K ρ H xs vs):eH K ρ H (dI N.length xs) (start N vs):=by
 have hl:=r.length;refine⟨λi d h=>?_,by simp[dI,L2.start,hl]⟩
 unfold dI at h;unfold L2.start
 by_cases hi:i<xs.length
 ·rw[agl (by simpa using hi),af6]at h
  cases q:xs[i]? with
  |none=>rw[q]at h;cases h
  |some x =>
   rw[q]at h;cases h;obtain⟨v,hv,rv⟩:=r.get q;exact⟨v,by rw[agl (by simp[hl];exact hi),af6,hv];rfl,rv⟩
 ·rw[agD (by simpa using ajX hi)]at h
  have:=agn h;rw[List.mem_replicate]at this;cases this.2
theorem cJ{x qual:Str}{st:ψ}{f:Ξ}{fd:aag}{N ps:List Str}{k n m:Nat}{own:Bool}{d:ah}(F:lC K x qual st f fd) (S:cz N ps (bE st)) (hN:N.length=n) (hm:ps.length=m)
  (hb:∀(cdv:Γ) (A:ω) (outer:List Env) (s:Ψ) (H:Hp) (E:XK),er k (A.deeper (envOfC qual (bE st) s.heap.objs.size f cdv))->bW (k8 bC P w K mg base N qual (bE st) f cdv A outer s H E).lQ (i8 st) d) :
  bL P w K mg base bC (k+1) f fd ps (bU K m (bD n own d)):=by
 subst hN;subst hm;refine F.ok S (λvs H Q E h=>?_) (λcdv A outer s H vs Q E hr h=>⟨_,hb cdv A outer s H E hr,?_⟩)
 ·obtain⟨ρ,xs,c,W,r,hl,p⟩:=h;exact r.length.trans hl
 ·obtain⟨ρ,xs,c,W,r,hl,p⟩:=h;refine⟨ρ,dI N.length xs,c,W,eH.start r,post.bind p λfl c1 aR H1 b _ W1 X1 r1 p1=>?_⟩
  cases fl with
  |nx e1 =>
   obtain⟨σ1,rfl,V1⟩:=r1;exact Ac (v:=.aL) (x:=.aL) (H1:=H1) W W1 X1 rfl (by
    unfold bD at p;exact id (α:=post K (Rel K) (c9 own c.length .aL c1) ρ H Q) (by
     rename_i he;rw[he]at p;exact p))
  |rt d =>
   obtain⟨v,rfl,V1⟩:=r1;exact Ac (v:=d) (x:=v) (H1:=H1) W W1 X1 V1 (by
    unfold bD at p;rename_i he;rw[he]at p;exact p)
  |bk e1=>exact p1.elim
  |ct e1=>exact p1.elim
end
section
variable {X:Cx}
theorem aX{x:Str}{st:ψ}{ps:List Str}{f:Ξ}{fd:aag}{k n:Nat}{m:List D->aa->R D}{e:ν}{es:List ν}{da:aj}{p pos:Pos}(D:Def X.K X.mg x st ps f fd) (G:bL X.prog X.w X.K X.mg X.base bC k f fd ps (bU X.K n m)) (hr:er k X.A) (ha:fO X (e::es) da) (hg:Gl X x:=by rfl)
  (hdb:(x==("__debug__":Str))=Θ:=by decide) (he:ε (e::es) X.env=(Θ,eval e X.env)::ε es X.env:=by exact dU rfl) (hpl:(aaj pos (ε es X.env)).any (·.1)=Θ:=by exact gC rfl) :
  bw X (.Call (.Name x p) (e::es) [] pos) (aC n m da):=(Vs D G hr ha hg hdb he hpl).imp λσ H Q h=>by
 obtain⟨ρ,e,c,W,V,q⟩:=h;refine⟨ρ,e,c,W,V,post.bind q λxs c1 aR H1 vs _ W1 X1 r1 p1=>?_⟩
 split at p1
 ·rename_i hl;exact⟨aR,xs,c1,W1,by rw[agS];exact r1,hl,p1⟩
 ·exact p1.elim
theorem dM{id:String}{x:Str}{p pos:Pos}{e:ν}{es:List ν}{da:aj}{f:List D->aa->R D}(hc:fB X (.builtin id) (rN X.K f)) (hm:X.mg x=η) (hv:bootBuiltins x=ζ (.builtin id)) (ha:fO X (e::es) da) (hg:Gl X x:=by rfl) (hn:x≠"__name__":=by decide) (hdb:(x==("__debug__":Str))=Θ:=by decide)
  (he:ε (e::es) X.env=(Θ,eval e X.env)::ε es X.env:=by exact dU rfl) (hpl:(aaj pos (ε es X.env)).any (·.1)=Θ:=by exact gC rfl):bw X (.Call (.Name x p) (e::es) [] pos) (aO f da):=(Dr hc hg hm hv ha hn hdb he hpl).imp λσ H Q h=>Ic h
theorem iM{T:String}{x:Str}{p pos:Pos}{e:ν}{es:List ν}{da:aj}{f:List D->aa->R D}(hc:fB X (.type T) (rN X.K f)) (hm:X.mg x=η) (hv:bootBuiltins x=ζ (.type T)) (ha:fO X (e::es) da) (hg:Gl X x:=by rfl) (hn:x≠"__name__":=by decide) (hdb:(x==("__debug__":Str))=Θ:=by decide)
  (he:ε (e::es) X.env=(Θ,eval e X.env)::ε es X.env:=by exact dU rfl) (hpl:(aaj pos (ε es X.env)).any (·.1)=Θ:=by exact gC rfl):bw X (.Call (.Name x p) (e::es) [] pos) (aO f da):=(nu hc hg hm hv ha hn hdb he hpl).imp λσ H Q h=>Ic h
end
def bA:List D->aa->R D:=λxs c=>match xs with
 |[x]=>match fW c x with
  |some l=>.ok (.int l.length) c
  |none=>match x with
   |.str z=>if z.length<=Ω then .ok (.int z.length) c else .bad
   |_=>.bad
 |_=>.bad
def HK:D->Option String
 |.aL=>ζ "NoneType"
 |.bl _=>ζ "bool"
 |.int _=>ζ "int"
 |.str _=>ζ "str"
 |.tup _=>ζ "tuple"
 |.lst _=>ζ "list"
 |.ref _=>ζ "list"
 |_=>η
def dR:List D->aa->R D:=λxs c=>match xs with
 |[.i7,.ty T]=>if T∈["bool","int","str","list","tuple","dict"]then .ok (.bl (uZ "dict" T)) c else .bad
 |[x,.ty T]=>match HK x with
  |some n=>if T∈["bool","int","str","list","tuple","dict"]then .ok (.bl (uZ n T)) c else .bad
  |none=>.bad
 |_=>.bad
def rQ:List D->Option (List Bool)
 |[]=>ζ []
 |.bl b::l=>(rQ l).map (b :: ·)
 |_=>η
def jI:List D->Option (List Int)
 |[]=>ζ []
 |.int i::l=>(jI l).map (i :: ·)
 |_=>η
theorem acS(l:List Bool):rQ (l.map D.bl)=ζ l:=by
 induction l with
 |nil=>rfl
 |cons a l ih=>simp[rQ,ih]
theorem qz(l:List Int):jI (l.map D.int)=ζ l:=by
 induction l with
 |nil=>rfl
 |cons a l ih=>simp[jI,ih]
theorem N2:∀{l:List D}{bs:List Bool},rQ l=ζ bs->l=bs.map D.bl
 |[],bs,h=>by cases h;rfl
 |d::l,bs,h=>by
  cases d with
  |bl b =>
   unfold rQ at h;cases q:rQ l with
   |none=>rw[q]at h;cases h
   |some r=>rw[q]at h;cases h;rw[N2 q];rfl
  |_=>cases h
theorem Er:∀{l:List D}{bs:List Int},jI l=ζ bs->l=bs.map D.int
 |[],bs,h=>by cases h;rfl
 |d::l,bs,h=>by
  cases d with
  |int b =>
   unfold jI at h;cases q:jI l with
   |none=>rw[q]at h;cases h
   |some r=>rw[q]at h;cases h;rw[Er q];rfl
  |_=>cases h
def Di(f:List Bool->Bool):List D->aa->R D:=λxs c=>match xs with
 |[.lst l]=>match rQ l with
  |some bs=>.ok (.bl (f bs)) c
  |none=>.bad
 |_=>.bad
def uE:=Di λbs=>bs.any id
def tS:List D->aa->R D:=λxs c=>match xs with
 |[.int i,.int j]=>.ok (.int (if j>i then j else i)) c
 |_=>.bad
def cP:List D->aa->R D:=λxs c=>match xs with
 |[x]=>match fW c x with
  |some l=>.ok (.tup l) c
  |none=>.bad
 |_=>.bad
section
variable {X:Cx}{K:ξ}{ρ:List Ξ}{H:Hp}{c:aa}
theorem eL:fB X (.builtin "len") (rN X.K bA):=by
 intro pins s σ H vs us Q I rv h;obtain⟨ρ,xs,c,W,rx,p⟩:=h;unfold bA at p;split at p
 ·rename_i x;obtain⟨v,r,rfl,hx,hr⟩:=rx;cases hr;split at p
  ·rename_i l hl;obtain⟨a,ys,rfl,sq,r⟩:=B5 W hx hl;exact acG pins s σ H _ us Q I rv ⟨a,ys,rfl,sq,by rw[r.length];exact p.here W rfl⟩
  ·split at p
   ·split at p
    ·rename_i hz;cases hx;exact acF pins s σ H _ us Q I rv ⟨_,rfl,hz,p.here W rfl⟩
    ·exact p.elim
   ·exact p.elim
 ·exact p.elim
theorem PY{x:D}{v:V}{n:String}(W:Wd K ρ H c) (rx:Rel K ρ H x v) (h:HK x=ζ n):tyName H v n:=by
 cases x with
 |aL=>cases rx;cases h;exact rfl
 |bl b=>cases rx;cases h;exact rfl
 |int b=>cases rx;cases h;exact rfl
 |str b=>cases rx;cases h;exact rfl
 |tup l=>obtain⟨a,xs,rfl,s,r⟩:=rx;cases h;exact .inr (.inl ⟨rfl,xs,s⟩)
 |lst l=>obtain⟨a,xs,rfl,s,r⟩:=rx;cases h;exact .inl ⟨rfl,.inl ⟨xs,s.1⟩⟩
 |ref k =>
  obtain⟨a,rfl,s⟩:=rx;cases h;obtain⟨xs,e⟩:=W.at' (agn s);exact .inl ⟨rfl,.inl ⟨xs,e⟩⟩
 |_=>cases h
theorem Fj:fB X (.builtin "isinstance") (rN X.K dR):=by
 intro pins s σ H vs us Q I rv h;obtain⟨ρ,xs,c,W,rx,p⟩:=h;unfold dR at p;split at p
 ·split at p
  ·rename_i hT;obtain⟨v,r,rfl,⟨a,rfl,hH⟩,u,r',rfl,hu,hr⟩:=rx;cases hr;cases hu;obtain⟨u1,u2,rfl,r1,r2⟩:=Vals.two rv;cases r1;cases r2;obtain⟨hp,_,_⟩:=I.hok a _ hH;exact agN aiQ I.fM hp (LC (n:="dict") (by simp) hT) (λz=>nomatch z) λtk=>⟨.bl _,H,I.tok _,rfl,p.here W rfl⟩
  ·exact p.elim
 ·split at p
  ·rename_i n hn;split at p
   ·rename_i hT;obtain⟨v,r,rfl,hx,u,r',rfl,hu,hr⟩:=rx;cases hr;cases hu;exact acH pins s σ H _ us Q I rv ⟨v,n,_,rfl,PY W hx hn,hT,p.here W rfl⟩
   ·exact p.elim
  ·exact p.elim
 ·exact p.elim
theorem acn(hc:X.calm=Δ:=by rfl):fB X (.builtin "any") (rN X.K uE):=by
 intro pins s σ H vs us Q I rv h;obtain⟨ρ,xs,c,W,rx,p⟩:=h;unfold uE Di at p;split at p
 ·split at p
  ·rename_i bs hb;obtain⟨v,r,rfl,⟨a,ys,rfl,s1,r1⟩,hr⟩:=rx;cases hr;rw[N2 hb]at r1;cases r1.N1;exact acJ hc pins s σ H _ us Q I rv ⟨a,bs,rfl,b9.of s1.1,p.here W rfl⟩
  ·exact p.elim
 ·exact p.elim
theorem acm(hc:X.calm=Δ:=by rfl):fB X (.builtin "max") (rN X.K tS):=by
 intro pins s σ H vs us Q I rv h;obtain⟨ρ,xs,c,W,rx,p⟩:=h;unfold tS at p;split at p
 ·obtain⟨v,r,rfl,hx,u,r',rfl,hu,hr⟩:=rx;cases hr;cases hx;cases hu;exact acE hc pins s σ H _ us Q I rv ⟨_,_,rfl,p.here W rfl⟩
 ·exact p.elim
theorem jR:fB X (.type "tuple") (rN X.K cP):=by
 intro pins s σ H vs us Q I rv h;obtain⟨ρ,xs,c,W,rx,p⟩:=h;unfold cP at p;split at p
 ·rename_i x;obtain⟨v,r,rfl,hx,hr⟩:=rx;cases hr;split at p
  ·rename_i l hl;obtain⟨a,ys,rfl,sq,r⟩:=B5 W hx hl;refine acB pins s σ H _ us Q I rv ⟨a,ys,rfl,?_⟩
   rcases sq with sq|sq
   ·exact .inl ⟨sq,DM W r p⟩
   ·refine .inr ⟨sq,?_⟩;cases x with
    |tup m=>cases hl;exact p.here W hx
    |lst m =>
     obtain⟨b,zs,e,s1,_⟩:=hx;cases e;exfalso
     rcases sq with sq|⟨o,its,n,hk,hcl,_⟩
     ·rcases sq with sq|⟨o,sq⟩<;>(rw[s1.1]at sq;cases sq)
     ·have:=I.bs a o (I.ok.mod.mj a o hk);rw[s1.1]at this;cases this.2
    |cH m =>
     exfalso;obtain⟨b,e,s1⟩:=hx;cases e;obtain⟨i1,_,pl,_⟩:=I.list s1.sql;obtain⟨i2,_,pt,_⟩:=I.tuple sq;obtain⟨o1,e1,c1,_⟩:=pl.isList;obtain⟨o2,e2,c2,_⟩:=pt;rw[e1]at e2;cases e2;rw[c1]at c2;exact absurd c2 (by decide)
    |ref k =>
     exfalso;obtain⟨b,e,s1⟩:=hx;cases e;obtain⟨zs,hz⟩:=W.at' (agn s1)
     rcases sq with sq|⟨o,its,n,hk,hcl,_⟩
     ·rcases sq with sq|⟨o,sq⟩<;>(rw[hz]at sq;cases sq)
     ·have:=I.bs a o (I.ok.mod.mj a o hk);rw[hz]at this;cases this.2
    |_=>cases hl
  ·exact p.elim
 ·exact p.elim
end
def dH(o a:af):af:=λe c=>(o e c).bind λx c=>match x with
 |.ref k=>(a e c).bind λy c=>match c[k]? with
  |some (.lst l)=>if l.length<Ω/\noRef y=Δ then .ok .aL (c.set k (.lst (l++[y])))else .bad
  |none=>.bad
 |_=>.bad
theorem jV{X:Cx}{o e:ν}{dO da:af}{apos cpos:Pos}(ho:bw X o dO) (ha:bw X e da)
  (hbase:aaA o "append" X.env (eval o X.env)=eval o X.env:=by rfl)
  (hfew:((aaj cpos (ε [e] X.env)).all (λx=>!x.1)&&(aaE cpos (aat [] X.env)).all (λx=>x.1.isSome)
   && decide ([e].length+([]:List aav).length+(if([]:List aav).isEmpty then 0 else 1)<30))=Δ:=by exact BX rfl)
  (hline:(apos.endLine==cpos.line)=Δ:=by rfl) (hs:ε [e] X.env=(Θ,eval e X.env)::ε [] X.env:=by exact dU rfl) (hplain:(aaj cpos (ε [] X.env)).any (·.1)=Θ:=by exact gC rfl) :
  bw X (.Call (.Attribute o "append" apos) [e] [] cpos) (dH dO da) :=
 (Ds ai3 PySem.F.slot_list_append PySem.F.type_list_append Yh ho (kI ha lP hs) hbase hfew hline hs hplain).imp λσ H Q h=>by
  obtain⟨ρ,e,c,W,V,p⟩:=h;refine⟨ρ,e,c,W,V,post.bind p λx c1 aR H1 v _ W1 X1 r1 p1=>?_⟩
  cases x with
  |ref k =>
   obtain⟨a,rfl,ha⟩:=r1;obtain⟨xs,hx⟩:=W1.at' (agn ha);refine⟨.inl ⟨rfl,xs,b9.of hx⟩,aR,e,c1,W1,V.mono W X1,post.bind p1 λy c2 d8 H2 u _ W2 X2 r2 p2=>?_⟩
   split at p2
   ·rename_i l hl;split at p2
    ·rename_i hh;obtain⟨nr,ys,hy,rl⟩:=W2.gc k a _ (X2.pre k a ha) hl;refine⟨a,ys,u,rfl,rfl,hy,by rw[rl.length];exact hh.1,?_⟩
     refine p2 d8 _ .aL (W2.write (X2.pre k a ha) (by rw[vK,nr];simp[bX,hh.2]) (rl.append ⟨u,[],rfl,r2,rfl⟩)) (Ext.write (X2.pre k a ha)) rfl
    ·exact p2.elim
   ·exact p2.elim
  |_=>exact p1.elim
section
variable (e:Ev) (c:aa) (a b d:af) (ta tb:ai) (s t:ah) (l:aj) (g:Gd) (gs:List D->Ev->aa->R Ev)
@[simp] theorem bK(i:Nat):ao i e c=match e[i]? with|some (ζ d)=>.ok d c|_=>.bad:=rfl
@[simp] theorem iI(d:D):dC d e c=.ok d c:=rfl
@[simp] theorem dX(f:D->D->aa->R D):av f a b e c=(a e c).bind λx c=>(b e c).bind λy c=>f x y c:=rfl
@[simp] theorem x_un(f:D->aa->R D):k6 f a e c=(a e c).bind λx c=>f x c:=rfl
@[simp] theorem gh(f:List D->aa->R D):aO f l e c=(l e c).bind λxs c=>f xs c:=rfl
@[simp] theorem aeo(f g:D->D->aa->R D):Fb f g a b d e c=(a e c).bind λx c=>(b e c).bind λy c=>(f x y c).bind λz c=>match z with
 |.bl Δ=>(d e c).bind λu c=>g y u c
 |.bl Θ=>.ok (.bl Θ) c
 |_=>.bad:=rfl
@[simp] theorem bQ:au e c=.ok [] c:=rfl
@[simp] theorem bH:aq a l e c=(a e c).bind λx c=>(l e c).bind λxs c=>.ok (x::xs) c:=rfl
@[simp] theorem x9:cC l e c=(l e c).bind λxs c=>if xs.length<=Ω then .ok (.tup xs) c else .bad:=rfl
@[simp] theorem yc:bG l e c=(l e c).bind λxs c=>if xs.length<=Ω then .ok (.lst xs) c else .bad:=rfl
@[simp] theorem O1:cV l e c=(l e c).bind λxs c=>if xs.length<=Ω/\bX xs=Δ then .ok (.ref c.length) (c++[.lst xs])else .bad:=rfl
@[simp] theorem BK:aV a e c=(a e c).bind λx c=>match x with|.bl b=>.ok b c|_=>.bad:=rfl
@[simp] theorem adX:Aj a e c=(a e c).bind λx c=>match sf c x with|some b=>.ok b c|none=>.bad:=rfl
@[simp] theorem aer:jr ta tb e c=(ta e c).bind λx c=>if x=Δ then tb e c else .ok Θ c:=rfl
@[simp] theorem ad0:oU ta tb e c=(ta e c).bind λx c=>if x=Δ then .ok Δ c else tb e c:=rfl
@[simp] theorem ad2:k7 ta e c=(ta e c).bind λx c=>.ok (!x) c:=rfl
@[simp] theorem aeq:uy a b e c=(a e c).bind λx c=>match x with|.bl k=>if k=Δ then b e c else .ok (.bl Θ) c|_=>.bad:=rfl
@[simp] theorem ad1:E9 a e c=(a e c).bind λx c=>match x with|.bl k=>.ok (.bl (!k)) c|_=>.bad:=rfl
@[simp] theorem O3:rJ ta a b e c=(ta e c).bind λx c=>if x=Δ then a e c else b e c:=rfl
@[simp] theorem x_call(n:Nat) (m:List D->aa->R D):aC n m l e c=(l e c).bind λxs c=>if xs.length=n then m xs c else .bad:=rfl
@[simp] theorem ad3:ck e c=.ok (.nx e) c:=rfl
@[simp] theorem aep:lM e c=.bad:=rfl
@[simp] theorem g9:aE s t e c=(s e c).bind λf c=>match f with|.nx e=>t e c|f=>.ok f c:=rfl
@[simp] theorem iH:aS a e c=(a e c).bind λx c=>.ok (.rt x) c:=rfl
@[simp] theorem iS:cK a e c=(a e c).bind λ_ c=>.ok (.nx e) c:=rfl
@[simp] theorem jz:b7 ta s t e c=(ta e c).bind λx c=>if x=Δ then s e c else t e c:=rfl
@[simp] theorem gg(i:Nat):aG i a e c=(a e c).bind λx c=>.ok (.nx (e.set i (ζ x))) c:=rfl
@[simp] theorem ye:gR a g e c=(a e c).bind λx c=>(g x e c).bind λe c=>.ok (.nx e) c:=rfl
@[simp] theorem yd(i:Nat) (x:D):aA i x e c=.ok (e.set i (ζ x)) c:=rfl
@[simp] theorem aeg:cU [] e c=.ok e c:=rfl
@[simp] theorem aeh(x:D) (xs:List D):br g gs (x::xs) e c=(g x e c).bind λe c=>gs xs e c:=rfl
@[simp] theorem aef(n:Nat) (xs:List D):cS n gs (.tup xs) e c=if xs.length=n then gs xs e c else .bad:=rfl
@[simp] theorem Hu(x:D):mE a b x e c=(a e c).bind λo c=>(b e c).bind λi c=>(lK o i x c).bind λ_ c=>.ok e c:=rfl
@[simp] theorem gx(sr:Ev->aa->R Src):bB sr g s e c=(sr e c).bind λq c=>c7 q.stays g s q.items e c:=rfl
@[simp] theorem fC(n:Nat) (own:Bool) (xs:List D):bD n own s xs c=(s (dI n xs) c).bind λf c'=>match f with
 |.rt v=>c9 own c.length v c'
 |.nx _=>c9 own c.length .aL c'
 |_=>.bad:=rfl
@[simp] theorem OR(n:Nat) (xs:List D):dI n xs=xs.map ζ++ι (n-xs.length) η:=rfl
@[simp] theorem eX(sr:Ev->aa->R Src) (pick:List (Option Nat)):aY sr pick g ta a e c=(sr e c).bind λq c =>
 if q.items.length<Ω then(bO q.stays g ta a q.items (dz pick e) [] c).bind λl c=>.ok (.lst l) c else .bad:=rfl
@[simp] theorem lD:aM e c=.ok Δ c:=rfl
@[simp] theorem mV(i j:Int):bu (.int i) (.int j) c=.ok (.int (i+j)) c:=rfl
@[simp] theorem aes(x y:List D):bu (.tup x) (.tup y) c=if x.length≠0/\x.length+y.length<=Ω then .ok (.tup (x++y)) c else .bad:=rfl
@[simp] theorem ya(i j:Int):cA (.int i) (.int j) c=.ok (.int (i-j)) c:=rfl
theorem Hr(i j:Int):bN (.int i) (.int j) c=if(-(2^64)<i/\i<2^64)\/(-(2^64)<j/\j<2^64)then .ok (.int (i*j)) c else .bad:=rfl
theorem O4(i j:Int):gu (.int i) (.int j) c=if 0<j/\j<1073741824 then .ok (.int (i/j)) c else .bad:=rfl
theorem OZ(i j:Int):cy (.int i) (.int j) c=if 0<j then .ok (.int (i % j)) c else .bad:=rfl
theorem OV(i j:Int):sZ (.int i) (.int j) c=if 0<=j/\j<=1000000/\i.natAbs<2^64 then .ok (.int (i^j.toNat)) c else .bad:=rfl
@[simp] theorem ad6(i:Int):vL (.int i) c=.ok (.int (-i)) c:=rfl
@[simp] theorem aen(p:Int->Int->Bool) (i j:Int):rO p (.int i) (.int j) c=.ok (.bl (p i j)) c:=rfl
@[simp] theorem ael(i j:Int):cj (.int i) (.int j) c=.ok (.bl (decide (i=j))) c:=rfl
@[simp] theorem ad5(i j:Int):eV (.int i) (.int j) c=.ok (.bl (!decide (i=j))) c:=rfl
@[simp] theorem aem(i j:Bool):cj (.bl i) (.bl j) c=.ok (.bl (decide (i=j))) c:=rfl
@[simp] theorem ad7(i j:Bool):eV (.bl i) (.bl j) c=.ok (.bl (!decide (i=j))) c:=rfl
@[simp] theorem aek(i j:Str):cj (.str i) (.str j) c=.ok (.bl (decide (i=j))) c:=rfl
@[simp] theorem ad4(i j:Str):eV (.str i) (.str j) c=.ok (.bl (!decide (i=j))) c:=rfl
@[simp] theorem aeb(x:D):kQ x .aL c=.ok (.bl (!iZ x)) c:=rfl
@[simp] theorem aeS:iZ .aL=Δ:=rfl
@[simp] theorem n_bl(b:Bool):iZ (.bl b)=Θ:=rfl
@[simp] theorem aeU(b:Int):iZ (.int b)=Θ:=rfl
@[simp] theorem aeR(b:Str):iZ (.str b)=Θ:=rfl
@[simp] theorem aeQ(b:List D):iZ (.tup b)=Θ:=rfl
@[simp] theorem aeT(b:List D):iZ (.lst b)=Θ:=rfl
@[simp] theorem Ht(xs:List D) (i:Int):aF (.tup xs) (.int i) c=match cX xs i with|some d=>.ok d c|none=>.bad:=rfl
@[simp] theorem lE(xs:List D) (i:Int):aF (.lst xs) (.int i) c=match cX xs i with|some d=>.ok d c|none=>.bad:=rfl
@[simp] theorem Hs(xs:List D):bA [.tup xs] c=.ok (.int xs.length) c:=rfl
@[simp] theorem BJ(xs:List D):bA [.lst xs] c=.ok (.int xs.length) c:=rfl
@[simp] theorem aea(xs:List Int):bA [.cH xs] c=.ok (.int xs.length) c:=by
 show R.ok (D.int ((xs.map D.int).length:Nat)) c=_;rw[afY]
@[simp] theorem O0(i j:Int):tS [.int i,.int j] c=.ok (.int (if j>i then j else i)) c:=rfl
@[simp] theorem aeD:noRef .aL=Δ:=rfl
@[simp] theorem r_bl(b:Bool):noRef (.bl b)=Δ:=rfl
@[simp] theorem aeF(b:Int):noRef (.int b)=Δ:=rfl
@[simp] theorem aeC(b:Str):noRef (.str b)=Δ:=rfl
@[simp] theorem Jp(b:List D):noRef (.tup b)=bX b:=by simp[noRef]
@[simp] theorem Jq(b:List D):noRef (.lst b)=bX b:=by simp[noRef]
@[simp] theorem aeE:bX []=Δ:=by simp[bX]
@[simp] theorem aeG(d:D) (b:List D):bX (d::b)=(noRef d&&bX b):=by simp[bX]
@[simp] theorem q_bl(own:Bool) (n:Nat) (b:Bool):c9 own n (.bl b) c=.ok (.bl b) (c.take n):=rfl
@[simp] theorem aeK(own:Bool) (n:Nat):c9 own n .aL c=.ok .aL (c.take n):=rfl
@[simp] theorem aeM(own:Bool) (n:Nat) (b:Int):c9 own n (.int b) c=.ok (.int b) (c.take n):=rfl
@[simp] theorem aeJ(own:Bool) (n:Nat) (b:Str):c9 own n (.str b) c=.ok (.str b) (c.take n):=rfl
@[simp] theorem vq(own:Bool) (n:Nat) (b:List D):c9 own n (.tup b) c=if bX b=Δ then .ok (.tup b) (c.take n)else .bad:=by
 show(if noRef (.tup b)=Δ then R.ok (D.tup b) (c.take n)else R.bad)=_
 rw[Jp]
@[simp] theorem aeL(own:Bool) (n:Nat) (b:List D):c9 own n (.lst b) c=if bX b=Δ then .ok (.lst b) (c.take n)else .bad:=by
 show(if noRef (.lst b)=Δ then R.ok (D.lst b) (c.take n)else R.bad)=_
 rw[Jq]
@[simp] theorem ig:aZ l e c=(l e c).bind λxs c=>match xs with
 |[.int j]=>if -(2^62)<=j/\j<2^62 then .ok ⟨aT 0 j,λ_=>True⟩ c else .bad
 |_=>.bad:=rfl
@[simp] theorem Ho:gG l e c=(l e c).bind λxs c=>match xs with
 |[.int i,.int j]=>if -(2^62)<=i/\i<2^62/\-(2^62)<=j/\j<2^62 then .ok ⟨aT i j,λ_=>True⟩ c else .bad
 |_=>.bad:=rfl
@[simp] theorem yb:dG a e c=(a e c).bind λx c=>match x with
 |.lst l=>.ok ⟨l,λ_=>True⟩ c
 |.cH l=>.ok ⟨l.map D.int,λ_=>True⟩ c
 |.ref k=>match c[k]? with
  |some (.lst l)=>.ok ⟨l,λc=>c[k]? = ζ (.lst l)⟩ c
  |none=>.bad
 |_=>.bad:=rfl
@[simp] theorem Hl:eG a e c=(a e c).bind λx c=>match x with
 |.tup l=>.ok ⟨l,λ_=>True⟩ c
 |_=>.bad:=rfl
end
section
variable (g:Gd) (s:ah) (t:ai) (a:af) (e:Ev) (c:aa)
@[simp] theorem EU:c7 (λ_=>True) g s [] e c=.ok (.nx e) c:=by simp[c7]
@[simp] theorem i6(x:D) (xs:List D):c7 (λ_=>True) g s (x::xs) e c=(g x e c).bind λe c=>(s e c).bind λf c=>match f with
   |.nx e=>c7 (λ_=>True) g s xs e c
   |.ct e=>c7 (λ_=>True) g s xs e c
   |.bk e=>.ok (.nx e) c
   |.rt d=>.ok (.rt d) c:=by
 conv=>lhs;unfold c7
 exact if_pos trivial
@[simp] theorem ab8(acc:List D):bO (λ_=>True) g t a [] e acc c=.ok acc c:=by simp[bO]
@[simp] theorem jQ(x:D) (xs acc:List D):bO (λ_=>True) g t a (x::xs) e acc c=(g x e c).bind λe c=>(t e c).bind λk c=>if k=Δ then(a e c).bind λy c=>bO (λ_=>True) g t a xs e (acc++[y]) c else bO (λ_=>True) g t a xs e acc c:=by
 conv=>lhs;unfold bO
 exact if_pos trivial
end
@[simp] theorem gz{α:Type}(a:α) (l:List α):(a::l)[0]? = ζ a:=rfl
@[simp] theorem gs{α:Type}(a:α) (l:List α) (n:Nat):(a::l)[n+1]? = l[n]?:=rfl
@[simp] theorem rS{α:Type}(a:α) (l:List α):cX (a::l) 0=ζ a:=by simp[cX,gp]
@[simp] theorem at1{α:Type}(a b:α) (l:List α):cX (a::b::l) 1=ζ b:=by
 unfold cX gp;rw[if_pos (by decide),if_pos (by simp;omega)]
 rfl
@[simp] theorem at2{α:Type}(a b d:α) (l:List α):cX (a::b::d::l) 2=ζ d:=by
 unfold cX gp;rw[if_pos (by decide),if_pos (by simp;omega)]
 rfl
@[simp] theorem at3{α:Type}(a b d f:α) (l:List α):cX (a::b::d::f::l) 3=ζ f:=by
 unfold cX gp;rw[if_pos (by decide),if_pos (by simp;omega)]
 rfl
@[simp] theorem at4{α:Type}(a b d f h:α) (l:List α):cX (a::b::d::f::h::l) 4=ζ h:=by
 unfold cX gp;rw[if_pos (by decide),if_pos (by simp;omega)]
 rfl
theorem dJ{n:Nat}(h:n<=1000):n<=Ω:=agg h (by decide)
@[simp] theorem sl0:(0:Nat)<=Ω:=agR _
@[simp] theorem sl1:(1:Nat)<=Ω:=by decide
@[simp] theorem sl2:(2:Nat)<=Ω:=by decide
@[simp] theorem sl3:(3:Nat)<=Ω:=by decide
@[simp] theorem sl4:(4:Nat)<=Ω:=by decide
@[simp] theorem sl5:(5:Nat)<=Ω:=by decide
@[simp] theorem sl6:(6:Nat)<=Ω:=by decide
@[simp] theorem st0:(0:Nat)<Ω:=by decide
@[simp] theorem st1:(1:Nat)<Ω:=by decide
@[simp] theorem st2:(2:Nat)<Ω:=by decide
@[simp] theorem st3:(3:Nat)<Ω:=by decide
@[simp] theorem Iz:(4:Nat)<Ω:=by decide
@[simp] theorem pP:(5:Nat)<Ω:=by decide
@[simp] theorem afl(i:Int) (c:aa):dR [.int i,.ty "int"] c=.ok (.bl Δ) c:=rfl
@[simp] theorem afm(i:Int) (c:aa):dR [.int i,.ty "bool"] c=.ok (.bl Θ) c:=rfl
@[simp] theorem afj(i:Int) (c:aa):dR [.int i,.ty "str"] c=.ok (.bl Θ) c:=rfl
@[simp] theorem afi(i:Int) (c:aa):dR [.int i,.ty "tuple"] c=.ok (.bl Θ) c:=rfl
@[simp] theorem afk(i:Int) (c:aa):dR [.int i,.ty "list"] c=.ok (.bl Θ) c:=rfl
@[simp] theorem afq(i:Bool) (c:aa):dR [.bl i,.ty "int"] c=.ok (.bl Δ) c:=rfl
@[simp] theorem afr(i:Bool) (c:aa):dR [.bl i,.ty "bool"] c=.ok (.bl Δ) c:=rfl
@[simp] theorem afo(i:Bool) (c:aa):dR [.bl i,.ty "str"] c=.ok (.bl Θ) c:=rfl
@[simp] theorem afn(i:Bool) (c:aa):dR [.bl i,.ty "tuple"] c=.ok (.bl Θ) c:=rfl
@[simp] theorem afp(i:Bool) (c:aa):dR [.bl i,.ty "list"] c=.ok (.bl Θ) c:=rfl
@[simp] theorem ae5(i:Str) (c:aa):dR [.str i,.ty "int"] c=.ok (.bl Θ) c:=rfl
@[simp] theorem ae6(i:Str) (c:aa):dR [.str i,.ty "bool"] c=.ok (.bl Θ) c:=rfl
@[simp] theorem ae3(i:Str) (c:aa):dR [.str i,.ty "str"] c=.ok (.bl Δ) c:=rfl
@[simp] theorem ae2(i:Str) (c:aa):dR [.str i,.ty "tuple"] c=.ok (.bl Θ) c:=rfl
@[simp] theorem ae4(i:Str) (c:aa):dR [.str i,.ty "list"] c=.ok (.bl Θ) c:=rfl
@[simp] theorem afa(c:aa):dR [.aL,.ty "int"] c=.ok (.bl Θ) c:=rfl
@[simp] theorem afb(c:aa):dR [.aL,.ty "bool"] c=.ok (.bl Θ) c:=rfl
@[simp] theorem ae8(c:aa):dR [.aL,.ty "str"] c=.ok (.bl Θ) c:=rfl
@[simp] theorem ae7(c:aa):dR [.aL,.ty "tuple"] c=.ok (.bl Θ) c:=rfl
@[simp] theorem ae9(c:aa):dR [.aL,.ty "list"] c=.ok (.bl Θ) c:=rfl
@[simp] theorem ae0(i:List D) (c:aa):dR [.tup i,.ty "int"] c=.ok (.bl Θ) c:=rfl
@[simp] theorem ae1(i:List D) (c:aa):dR [.tup i,.ty "bool"] c=.ok (.bl Θ) c:=rfl
@[simp] theorem aeY(i:List D) (c:aa):dR [.tup i,.ty "str"] c=.ok (.bl Θ) c:=rfl
@[simp] theorem aeX(i:List D) (c:aa):dR [.tup i,.ty "tuple"] c=.ok (.bl Δ) c:=rfl
@[simp] theorem aeZ(i:List D) (c:aa):dR [.tup i,.ty "list"] c=.ok (.bl Θ) c:=rfl
@[simp] theorem afg(i:List D) (c:aa):dR [.lst i,.ty "int"] c=.ok (.bl Θ) c:=rfl
@[simp] theorem afh(i:List D) (c:aa):dR [.lst i,.ty "bool"] c=.ok (.bl Θ) c:=rfl
@[simp] theorem afd(i:List D) (c:aa):dR [.lst i,.ty "str"] c=.ok (.bl Θ) c:=rfl
@[simp] theorem afc(i:List D) (c:aa):dR [.lst i,.ty "tuple"] c=.ok (.bl Θ) c:=rfl
@[simp] theorem afe(i:List D) (c:aa):dR [.lst i,.ty "list"] c=.ok (.bl Δ) c:=rfl
section
variable (c:aa) {i j:Int}
theorem vQ(h1:-18446744073709551616<i) (h2:i<18446744073709551616):bN (.int i) (.int j) c=.ok (.int (i*j)) c:=by
 rw[Hr,if_pos];exact .inl ⟨by omega,by omega⟩
theorem mul_r(h1:-18446744073709551616<j) (h2:j<18446744073709551616):bN (.int i) (.int j) c=.ok (.int (i*j)) c:=by
 rw[Hr,if_pos];exact .inr ⟨by omega,by omega⟩
theorem rF(h1:0<j) (h2:j<1073741824):gu (.int i) (.int j) c=.ok (.int (i/j)) c:=by
 rw[O4,if_pos ⟨h1,h2⟩]
theorem jj(h1:0<j):cy (.int i) (.int j) c=.ok (.int (i % j)) c:=by
 rw[OZ,if_pos h1]
theorem Jw(h1:0<=j) (h2:j<=1000000) (h3:i.natAbs<18446744073709551616):sZ (.int i) (.int j) c=.ok (.int (i^j.toNat)) c:=by
 rw[OV,if_pos ⟨h1,h2,h3⟩]
end
section
variable {g:Gd}{s:ah}{t:ai}{a:af}
theorem jP{c:aa}(inv:Ev->Prop) (F:D->Bool) (G:D->D):∀(items:List D) (e:Ev) (acc:List D),inv e ->
  (∀x∈items,∀e,inv e->∃e',g x e c=.ok e' c/\inv e'/\t e' c=.ok (F x) c/\(F x=Δ->a e' c=.ok (G x) c)) ->
  bO (λ_=>True) g t a items e acc c=.ok (acc++(items.filter F).map G) c
 |[],e,acc,_,_=>by simp
 |x::xs,e,acc,hi,h=>by
  obtain⟨e',h1,h2,h3,h4⟩:=h x agw e hi;rw[jQ,h1,R.aB,h3,R.aB];cases hF:F x with
  |true =>
   rw[if_pos rfl,h4 hF,R.aB,jP inv F G xs e' _ h2 λy hy=>h y (agk _ hy)]
   simp[hF]
  |false =>
   rw[if_neg agd,jP inv F G xs e' _ h2 λy hy=>h y (agk _ hy)]
   simp[hF]
theorem MS(inv:Ev->Prop):∀(items:List D) (e:Ev) (c:aa),inv e ->
  (∀x∈items,∀e c,inv e->∃e' e'' c' c'',g x e c=.ok e' c'/\s e' c'=.ok (.nx e'') c''/\inv e'') ->
  ∃e' c',inv e'/\c7 (λ_=>True) g s items e c=.ok (.nx e') c'
 |[],e,c,hi,_=>⟨e,c,hi,by simp⟩
 |x::xs,e,c,hi,h=>by
  obtain⟨e',e'',c',c'',h1,h2,h3⟩:=h x agw e c hi;obtain⟨e3,c3,i3,h4⟩:=MS inv xs e'' c'' h3 λy hy=>h y (agk _ hy)
  exact⟨e3,c3,i3,by rw[i6,h1,R.aB,h2];exact h4⟩
theorem EV(inv:Ev->aa->Prop):∀(items:List D) (e:Ev) (c:aa),inv e c ->
  (∀x∈items,∀e c,inv e c->∃e' e'' c' c'',g x e c=.ok e' c'/\s e' c'=.ok (.nx e'') c''/\inv e'' c'') ->
  ∃e' c',inv e' c'/\c7 (λ_=>True) g s items e c=.ok (.nx e') c'
 |[],e,c,hi,_=>⟨e,c,hi,by simp⟩
 |x::xs,e,c,hi,h=>by
  obtain⟨e',e'',c',c'',h1,h2,h3⟩:=h x agw e c hi;obtain⟨e3,c3,i3,h4⟩:=EV inv xs e'' c'' h3 λy hy=>h y (agk _ hy)
  exact⟨e3,c3,i3,by rw[i6,h1,R.aB,h2];exact h4⟩
end
theorem qd{lo hi:Int}{d:D}(h:d∈aT lo hi):∃i:Int,d=.int i/\lo<=i/\i<hi:=by
 unfold aT at h;obtain⟨k,hk,rfl⟩:=afW.mp h;have:=afR.mp hk;exact⟨lo+k,rfl,by omega,by omega⟩
theorem d9{lo hi:Int}:(aT lo hi).length=(hi-lo).toNat:=by simp[aT]
def eZ(c:aa):D->Option (List D)
 |.lst l=>ζ l
 |.ref k=>match c[k]? with
  |some (.lst l)=>ζ l
  |none=>η
 |_=>η
def jT(c:aa):D->aa->Prop
 |.ref k=>λc'=>c'[k]? = c[k]?
 |_=>λ_=>True
def fh:D->D->aa->R D:=λx y c=>match eZ c x,eZ c y with
 |some l,ζ m=>if l.length+m.length<=Ω then .ok (.lst (l++m)) c else .bad
 |_,_=>.bad
def cutD(xs:List D) (lo hi:Option Int):List D:=(xs.drop (HT.fY xs.length 0 lo)).take (HT.fY xs.length xs.length hi-HT.fY xs.length 0 lo)
def oQ(a:af) (lo hi:Ev->aa->R (Option Int)):af:=λe c=>(a e c).bind λx c=>(lo e c).bind λl c=>(hi e c).bind λu c=>match eZ c x with
 |some xs=>.ok (.lst (cutD xs l u)) c
 |none=>.bad
def oV:Ev->aa->R (Option Int):=λ_ c=>.ok η c
def oR(a:af):Ev->aa->R (Option Int):=λe c=>(a e c).bind λx c=>match x with
 |.int i=>.ok (ζ i) c
 |_=>.bad
def iF(a:aj):Ev->aa->R Src:=λe c=>(a e c).bind λxs c=>match xs with
 |[.tup l,.tup m]=>.ok ⟨List.zipWith (λx y=>.tup [x,y]) l m,λ_=>True⟩ c
 |[x,y]=>match eZ c x,eZ c y with
  |some l,ζ m=>.ok ⟨List.zipWith (λx y=>.tup [x,y]) l m,λc'=>jT c x c'/\jT c y c'⟩ c
  |_,_=>.bad
 |_=>.bad
section
variable {X:Cx}{K:ξ}{ρ ρ':List Ξ}{H H':Hp}{c c':aa}
theorem nI{x:D}{v:V}{l:List D}(W:Wd K ρ H c) (rx:Rel K ρ H x v) (h:eZ c x=ζ l):∃a xs,v=.ref a/\H a=ζ (.lst xs)/\aQ K ρ H l xs:=by
 cases x with
 |lst m =>
  cases h;obtain⟨a,xs,e,s,r⟩:=rx;exact⟨a,xs,e,s.1,r⟩
 |ref k =>
  obtain⟨a,e,s⟩:=rx;unfold eZ at h;dsimp only at h;cases hc:c[k]? with
  |none=>rw[hc]at h;cases h
  |some cl =>
   cases cl with
   |lst m =>
    rw[hc]at h;cases h;obtain⟨_,xs,hx,r⟩:=W.gc k a _ s hc;exact⟨a,xs,e,hx,r⟩
 |_=>cases h
theorem Le{x:D}{v:V}{l:List D}(W:Wd K ρ H c) (W':Wd K ρ' H' c') (E:Ext ρ H ρ' H') (rx:Rel K ρ H x v) (h:eZ c x=ζ l) (st:jT c x c') {a:Ξ}(e:v=.ref a):∃xs,b9 K H' a xs/\aQ K ρ' H' l xs:=by
 have SQ:=Rel.mono W E x v rx;have h':eZ c' x=ζ l:=by
  cases x with
  |lst m=>exact h
  |ref k =>
   have st:c'[k]? = c[k]?:=st;unfold eZ at h ⊢;dsimp only at h ⊢;rw[st];exact h
  |_=>cases h
 obtain⟨b,xs,e2,hx,r⟩:=nI W' SQ h';rw[e]at e2;cases e2;exact⟨xs,b9.of hx,r⟩
theorem tH:cE X (binaryOp .Add) (r2 X.K fh):=by
 intro pins s σ H v u vv uu Q I rv ru h;obtain⟨ρ,x,y,c,W,rx,ry,p⟩:=h;unfold fh at p;split at p
 ·rename_i l m hl hm;split at p
  ·rename_i hz;obtain⟨a,xs,rfl,ha,ra⟩:=nI W rx hl;obtain⟨b,ys,rfl,hb,rb⟩:=nI W ry hm;exact Wo pins s σ H _ _ vv uu Q I rv ru ⟨a,b,xs,ys,rfl,rfl,ha,hb,by rw[ra.length,rb.length];exact hz,qb W (ra.append rb) p⟩
  ·exact p.elim
 ·exact p.elim
abbrev Bd(X:Cx) (e:Option ν) (d:Ev->aa->R (Option Int)):Prop:=PO X e (tD X.K (λ_ _ a b=>a=b) d)
theorem PO.imp{e:Option ν}{t t':TO}(h:PO X e t) (i:∀σ H Q,t' σ H Q->t σ H Q):PO X e t':=λpins s σ H Q I q=>h pins s σ H Q I (i _ _ _ q)
theorem Jy:Bd X η oV:=UW.imp λσ H Q h=>by
 obtain⟨ρ,e,c,W,Vv,p⟩:=h;exact p.here W rfl
theorem Jx{e:ν}{d:af}(h:bw X e d):Bd X (ζ e) (oR d):=(UU h).imp λσ H Q h=>by
 obtain⟨ρ,e,c,W,Vv,p⟩:=h;refine⟨ρ,e,c,W,Vv,post.bind p λx c1 aR H1 v _ W1 X1 r1 p1=>?_⟩
 cases x with
 |int i=>cases r1;exact⟨i,rfl,p1.here W1 rfl⟩
 |_=>exact p1.elim
theorem abU{l:List D}{xs:List V}{lo hi:Option Int}(r:aQ K ρ H l xs):aQ K ρ H (cutD l lo hi) (uz xs lo hi):=by
 unfold cutD uz;rw[r.length];exact(r.drop _).take _
theorem JJ{e:ν}{lo hi:Option ν}{p2 pos:Pos}{da:af}{dl dh:Ev->aa->R (Option Int)}(he:bw X e da) (hl:Bd X lo dl) (hh:Bd X hi dh):bw X (.Subscript e (.Slice lo hi η p2) pos) (oQ da dl dh) :=
 (Vm R5 he hl hh).imp λσ H Q h=>by
  obtain⟨ρ,e,c,W,Vv,p⟩:=h;refine⟨ρ,e,c,W,Vv,post.bind p λx c1 aR H1 v _ W1 X1 r1 p1=>⟨aR,e,c1,W1,Vv.mono W X1,post.bind p1 λl c2 d8 H2 l' _ W2 X2 r2 p2=>⟨d8,e,c2,W2,(Vv.mono W X1).mono W1 X2,post.bind p2 λu c3 uO H3 u' _ W3 X3 r3 p3=>?_⟩⟩⟩
  cases r2;cases r3;have rx:=Rel.mono W1 (X2.trans X3) _ _ r1;split at p3
  ·rename_i xs hs;obtain⟨a,ys,rfl,ha,r⟩:=nI W3 rx hs;exact⟨a,ys,rfl,b9.of ha,qb W3 (abU r) p3⟩
  ·exact p3.elim
theorem PI.or{tg iter:ν}{t t':TI}(h:PI X tg iter t) (h':PI X tg iter t'):PI X tg iter (λσ H R=>t σ H R\/t' σ H R):=λpins s σ H R I q=>q.elim (h pins s σ H R I) (h' pins s σ H R I)
theorem Y8{l m:List D}{a b:Ξ}{st:aa->Prop}(h:∀ρ' H' c',Wd K ρ' H' c'->Ext ρ H ρ' H'->st c'->∃xs ys,b9 K H' a xs/\b9 K H' b ys/\aQ K ρ' H' l xs/\aQ K ρ' H' m ys):JS K ρ H ⟨List.zipWith (λx y=>.tup [x,y]) l m,st⟩ (Bh (b9 K) a b):=by
 intro ρ' H' c' W E s i;obtain⟨xs,ys,q1,q2,r1,r2⟩:=h ρ' H' c' W E s;refine⟨λd hd=>?_,λe=>⟨xs,ys,q1,q2,?_⟩⟩
 ·have hd:(List.zipWith (λx y=>D.tup [x,y]) l m)[i]? = ζ d:=hd
  rw[aj4]at hd;cases e1:l[i]? with
  |none=>rw[e1]at hd;cases hd
  |some x =>
   cases e2:m[i]? with
   |none=>rw[e1,e2]at hd;cases hd
   |some y =>
    rw[e1,e2]at hd;cases hd;obtain⟨v,hv,rv⟩:=r1.get e1;obtain⟨u,hu,ru⟩:=r2.get e2;refine⟨⟨xs,ys,v,u,q1,q2,hv,hu⟩,λz H2 hz=>?_⟩
    obtain⟨t,v',u',rfl,ht,rfl,hz⟩:=hz;obtain⟨z1,z2⟩:=hz xs ys q1 q2;rw[hv]at z1;rw[hu]at z2;cases z1;cases z2;exact⟨W.fresh ht,Ext.fresh W ht,t,[v,u],rfl,fU,v,[u],rfl,Rel.mono W (Ext.fresh W ht) _ _ rv,u,[],rfl,Rel.mono W (Ext.fresh W ht) _ _ ru,rfl⟩
 ·have e:i=(List.zipWith (λx y=>D.tup [x,y]) l m).length:=e
  rw[ai1]at e;rw[r1.length,r2.length];omega
theorem wz{es:List ν}{k:Nat}{pt:Pos}{a b:ν}{da:aj}{p pos:Pos}(ha:fO X [a,b] da) (hm:X.mg "zip"=η) (hg:Gl X "zip":=by rfl) (hs:ε [a,b] X.env=[(Θ,eval a X.env),(Θ,eval b X.env)]:=by exact Iw rfl rfl) (hs2:ε [b] X.env=[(Θ,eval b X.env)]:=by exact pO rfl) :
  PId X (.Tuple es k pt) (.Call (.Name "zip" p) [a,b] [] pos) (iF da):=((U3 hg hm ha hs hs2).or (U4 hg hm ha hs hs2)).imp λσ H Q h=>by
 obtain⟨ρ,e,c,W,Vv,p⟩:=h;cases hd:da e c with
 |bad=>unfold iF at p;rw[hd]at p;exact p.elim
 |ok xs c1 =>
  have p0:=p;unfold iF at p0;rw[hd,R.aB]at p0;split at p0
  ·left
   refine⟨ρ,e,c,W,Vv,?_⟩;rw[hd];intro aR H1 vs W1 X1 r1;obtain⟨y,ys,rfl,ry,z,zs,rfl,rz,rs⟩:=r1;cases rs;obtain⟨a1,xs,rfl,s1,t1⟩:=ry;obtain⟨a2,ys,rfl,s2,t2⟩:=rz;exact⟨a1,a2,rfl,⟨xs,ys,cO.of s1,cO.of s2⟩,post.here (post.ext p0 X1) W1 (Y9 λρ' H' c' W' E _=>⟨xs,ys,cO.of (uU W1 E s1),cO.of (uU W1 E s2),aQ.mono W1 E _ _ t1,aQ.mono W1 E _ _ t2⟩)⟩
  ·rename_i x y _;split at p0
   ·rename_i l m hl hm'
    right
    refine⟨ρ,e,c,W,Vv,?_⟩;rw[hd];intro aR H1 vs W1 X1 r1;obtain⟨v,ys,rfl,ry,u,zs,rfl,rz,rs⟩:=r1;cases rs;obtain⟨a1,xs,rfl,s1,t1⟩:=nI W1 ry hl;obtain⟨a2,ys,rfl,s2,t2⟩:=nI W1 rz hm';refine⟨a1,a2,rfl,⟨xs,ys,b9.of s1,b9.of s2⟩,post.here (post.ext p0 X1) W1 (Y8 λρ' H' c' W' E st=>?_)⟩
    obtain⟨xs',q1,q2⟩:=Le W1 W' E ry hl st.1 rfl;obtain⟨ys',q3,q4⟩:=Le W1 W' E rz hm' st.2 rfl;exact⟨xs',ys',q1,q3,q2,q4⟩
   ·exact p0.elim
  ·exact p0.elim
end
section
variable (e:Ev) (c:aa) (a:af) (lo hi:Ev->aa->R (Option Int)) (l:aj)
@[simp] theorem OS:oQ a lo hi e c=(a e c).bind λx c=>(lo e c).bind λl c=>(hi e c).bind λu c=>match eZ c x with
 |some xs=>.ok (.lst (cutD xs l u)) c
 |none=>.bad:=rfl
@[simp] theorem OX:oV e c=.ok η c:=rfl
@[simp] theorem OW:oR a e c=(a e c).bind λx c=>match x with
 |.int i=>.ok (ζ i) c
 |_=>.bad:=rfl
@[simp] theorem adV:iF l e c=(l e c).bind λxs c=>match xs with
 |[.tup l,.tup m]=>.ok ⟨List.zipWith (λx y=>.tup [x,y]) l m,λ_=>True⟩ c
 |[x,y]=>match eZ c x,eZ c y with
  |some l,ζ m=>.ok ⟨List.zipWith (λx y=>.tup [x,y]) l m,λc'=>jT c x c'/\jT c y c'⟩ c
  |_,_=>.bad
 |_=>.bad:=rfl
@[simp] theorem YZ(x:List D):eZ c (.lst x)=ζ x:=rfl
end
section
variable {g:Gd}{s:ah}{t:ai}{a:af}
theorem Fe{c:aa}(st:aa->Prop) (hst:st c) (inv:Ev->Prop) (F:D->Bool) (G:D->D):∀(items:List D) (e:Ev) (acc:List D),inv e ->
  (∀x∈items,∀e,inv e->∃e',g x e c=.ok e' c/\inv e'/\t e' c=.ok (F x) c/\(F x=Δ->a e' c=.ok (G x) c)) ->
  bO st g t a items e acc c=.ok (acc++(items.filter F).map G) c
 |[],e,acc,_,_=>by
  unfold bO;rw[if_pos hst];simp
 |x::xs,e,acc,hi,h=>by
  obtain⟨e',h1,h2,h3,h4⟩:=h x agw e hi;unfold bO;rw[if_pos hst,h1,R.aB,h3,R.aB];cases hF:F x with
  |true =>
   rw[if_pos rfl,h4 hF,R.aB,Fe st hst inv F G xs e' _ h2 λy hy=>h y (agk _ hy)]
   simp[hF]
  |false =>
   rw[if_neg agd,Fe st hst inv F G xs e' _ h2 λy hy=>h y (agk _ hy)]
   simp[hF]
theorem uD{dO da:af}{e:Ev}{c:aa}{acc:List D}{y:D}(ho:dO e (c++[.lst acc])=.ok (.ref c.length) (c++[.lst acc])) (ha:da e (c++[.lst acc])=.ok y (c++[.lst acc])) (hy:noRef y=Δ) (hl:acc.length+1<=1000000) :
  dH dO da e (c++[.lst acc])=.ok .aL (c++[.lst (acc++[y])]):=by
 have h1:acc.length<Ω:=af2 (by omega:acc.length<1000000) (by decide)
 unfold dH;rw[ho,R.aB];dsimp only;rw[ha,R.aB];have e1:(c++[Cell.lst acc])[c.length]? = ζ (.lst acc):=by simp
 have e2:(c++[Cell.lst acc]).set c.length (.lst (acc++[y]))=c++[.lst (acc++[y])]:=by simp
 rw[e1];dsimp only;rw[if_pos ⟨h1,hy⟩,e2]
end
mutual
def fK:D->Option aaH
 |.aL=>ζ .none
 |.bl b=>ζ (.bool b)
 |.int i=>ζ (.int i)
 |.str x=>if PyData.strOk x=Δ then ζ (.str x)else η
 |.tup l=>match f7 l with
  |some r=>ζ (.tuple r)
  |none=>η
 |.lst l=>match f7 l with
  |some r=>ζ (.list r)
  |none=>η
 |.ty _=>η
 |.ref _=>η
 |.cH _=>η
 |.fn _ _=>η
 |.exc _=>η
 |.i7=>η
 |.dct _=>η
 |.lam _ _ _ _=>η
def f7:List D->Option (List aaH)
 |[]=>ζ []
 |d::l=>match fK d,f7 l with
  |some a,ζ r=>ζ (a::r)
  |_,_=>η
end
def gb(c:aa):D->Option aaH
 |.ref k=>match c[k]? with
  |some (.lst l)=>match f7 l with
   |some r=>ζ (.list r)
   |none=>η
  |none=>η
 |d=>fK d
def Na:D->D->aa->R D:=λx y c=>match gb c x,gb c y with
 |some p,ζ q=>if p.depth<=64/\q.depth<=64 then .ok (.bl (p.eqv q)) c else .bad
 |_,_=>.bad
def lT:D->D->aa->R D:=λx y c=>match gb c x,gb c y with
 |some p,ζ q=>if p.depth<=64/\q.depth<=64 then .ok (.bl (!p.eqv q)) c else .bad
 |_,_=>.bad
def inD:D->D->aa->R D:=λx y c=>match gb c x,gb c y with
 |some p,ζ (.list ys)=>if p.depth<=62 then .ok (.bl (ys.any λz=>z.eqv p)) c else .bad
 |some p,ζ (.tuple ys)=>if p.depth<=62 then .ok (.bl (ys.any λz=>z.eqv p)) c else .bad
 |_,_=>.bad
def ji:D->D->aa->R D:=λx y c=>match gb c x,gb c y with
 |some p,ζ (.list ys)=>if p.depth<=62 then .ok (.bl (!ys.any λz=>z.eqv p)) c else .bad
 |some p,ζ (.tuple ys)=>if p.depth<=62 then .ok (.bl (!ys.any λz=>z.eqv p)) c else .bad
 |_,_=>.bad
section
variable {X:Cx}{pins:List (Ξ×Obj)}{σ:St}{ρ:List Ξ}{H:Hp}{s:Ψ}{c:aa}
mutual
theorem iV(I:Inv X pins σ H s):∀(d:D) (v:V) (u:Γ) (p:aaH),Rel X.K ρ H d v->RelV v u->fK d=ζ p->(∃as,Reads s.heap u p as)/\p.canLay0=Δ
 |.aL,v,u,p,r,ru,e=>by
  cases r;cases ru;cases e;exact⟨⟨_,.none⟩,by simp[PyData.canLay0]⟩
 |.bl b,v,u,p,r,ru,e=>by
  cases r;cases ru;cases e;exact⟨⟨_,.bool b⟩,by simp[PyData.canLay0]⟩
 |.int i,v,u,p,r,ru,e=>by
  cases r;obtain⟨t,rfl⟩:=ru;cases e;exact⟨⟨_,.int i t⟩,by simp[PyData.canLay0]⟩
 |.str x,v,u,p,r,ru,e=>by
  cases r;obtain⟨t,rfl⟩:=ru;unfold fK at e;split at e
  ·rename_i hx;cases e;exact⟨⟨_,.str x t⟩,by simpa[PyData.canLay0]using hx⟩
  ·cases e
 |.tup l,v,u,p,r,ru,e=>by
  obtain⟨a,xs,rfl,ha,rs⟩:=r;cases ru;unfold fK at e;split at e
  ·rename_i q hq;cases e;obtain⟨its,vs,⟨o,h1,h2,n,h3⟩,_⟩:=I.tuple (cO.of ha);obtain⟨⟨as,ra⟩,hc⟩:=yM I l xs its q rs vs hq;exact⟨⟨_,.tuple h1 h2 h3 (by simpa using ra)⟩,by simpa[PyData.canLay0]using hc⟩
  ·cases e
 |.lst l,v,u,p,r,ru,e=>by
  obtain⟨a,xs,rfl,ha,rs⟩:=r;cases ru;unfold fK at e;split at e
  ·rename_i q hq;cases e;obtain⟨its,vs,pl,_⟩:=I.list (b9.of ha.1);obtain⟨o,h1,h2,n,h3⟩:=pl.isList;obtain⟨⟨as,ra⟩,hc⟩:=yM I l xs its q rs vs hq;exact⟨⟨_,.list h1 h2 h3 (by simpa using ra)⟩,by simpa[PyData.canLay0]using hc⟩
  ·cases e
 |.ty _,v,u,p,r,ru,e=>by simp[fK]at e
 |.ref _,v,u,p,r,ru,e=>by simp[fK]at e
 |.cH _,v,u,p,r,ru,e=>by simp[fK]at e
 |.fn _ _,v,u,p,r,ru,e=>by simp[fK]at e
 |.exc _,v,u,p,r,ru,e=>by simp[fK]at e
 |.i7,v,u,p,r,ru,e=>by simp[fK]at e
 |.dct _,v,u,p,r,ru,e=>by simp[fK]at e
 |.lam _ _ _ _,v,u,p,r,ru,e=>by simp[fK]at e
theorem yM(I:Inv X pins σ H s):∀(l:List D) (vs:List V) (us:List Γ) (ps:List aaH),aQ X.K ρ H l vs->Vals vs us->f7 l=ζ ps->(∃as,ReadsAll s.heap us ps as)/\PyData.canLayAll0 ps=Δ
 |[],vs,us,ps,r,ru,e=>by
  cases r;cases ru;cases e;exact⟨⟨_,.nil⟩,by simp[PyData.canLayAll0]⟩
 |d::l,vs,us,ps,r,ru,e=>by
  obtain⟨x,xs,rfl,r1,r2⟩:=r;cases ru with
  |cons q1 q2 =>
   unfold f7 at e;split at e
   ·rename_i a r e1 e2;cases e;obtain⟨⟨as,ra⟩,ca⟩:=iV I d x _ a r1 q1 e1;obtain⟨⟨bs,rb⟩,cb⟩:=yM I l xs _ r r2 q2 e2;exact⟨⟨_,.cons ra rb⟩,by simp[PyData.canLayAll0,ca,cb]⟩
   ·cases e
end
theorem kE(I:Inv X pins σ H s) (W:Wd X.K ρ H c) {d:D}{v:V}{u:Γ}{p:aaH}(r:Rel X.K ρ H d v) (ru:RelV v u) (e:gb c d=ζ p):(∃as,Reads s.heap u p as)/\p.canLay0=Δ:=by
 cases d with
 |ref k =>
  unfold gb at e;dsimp only at e;cases hc:c[k]? with
  |none=>rw[hc]at e;cases e
  |some cl =>
   cases cl with
   |lst l =>
    rw[hc]at e;dsimp only at e;split at e
    ·rename_i q hq;cases e;obtain⟨a,rfl,s1⟩:=r;cases ru;obtain⟨_,xs,hx,rs⟩:=W.gc k a _ s1 hc;obtain⟨its,vs,pl,_⟩:=I.list (b9.of hx);obtain⟨o,h1,h2,n,h3⟩:=pl.isList;obtain⟨⟨as,ra⟩,hc⟩:=yM I l xs its q rs vs hq;exact⟨⟨_,.list h1 h2 h3 (by simpa using ra)⟩,by simpa[PyData.canLay0]using hc⟩
    ·cases e
 |aL=>exact iV I _ v u p r ru e
 |bl b=>exact iV I _ v u p r ru e
 |int b=>exact iV I _ v u p r ru e
 |str b=>exact iV I _ v u p r ru e
 |tup b=>exact iV I _ v u p r ru e
 |lst b=>exact iV I _ v u p r ru e
 |ty b=>exact iV I _ v u p r ru e
 |cH b=>exact iV I _ v u p r ru e
 |fn b n=>exact iV I _ v u p r ru e
 |exc b=>exact iV I _ v u p r ru e
 |dct b=>exact iV I _ v u p r ru e
 |i7=>exact iV I _ v u p r ru e
 |lam k y ns l=>exact iV I _ v u p r ru e
theorem Xn(hu:X.A.units+64<cLine):cE X (compareOp .NotEq) (r2 X.K lT):=by
 intro pins s σ H v u vv uu Q I rv ru h;obtain⟨ρ,x,y,c,W,rx,ry,p⟩:=h;unfold lT at p;split at p
 ·rename_i a b ha hb;split at p
  ·rename_i hd;obtain⟨⟨as,ra⟩,ca⟩:=kE I W rx rv ha;obtain⟨⟨bs,rb⟩,cb⟩:=kE I W ry ru hb;exact PySem.SeqAt.compareNe_shaped ra rb (by simp[PySem.SeqAt.shaped,ca,hd.1]) (by simp[PySem.SeqAt.shaped,cb,hd.2]) hu ⟨.bl _,H,I,rfl,p.here W rfl⟩
  ·exact p.elim
 ·exact p.elim
theorem zR{A:ω}{p:aaH}{ys:List aaH}(hu:A.units+64<cLine) (hd:p.depth<=62):A.units+1+min (PyData.depthAll ys) p.depth<cLine:=by
 have:=Nat.min_le_right (PyData.depthAll ys) p.depth;omega
theorem vJ(hu:X.A.units+64<cLine):cE X (compareOp .In) (r2 X.K inD):=by
 intro pins s σ H v u vv uu Q I rv ru h;obtain⟨ρ,x,y,c,W,rx,ry,p⟩:=h;unfold inD at p;split at p
 ·rename_i a ys ha hb;split at p
  ·rename_i hd;obtain⟨⟨as,ra⟩,ca⟩:=kE I W rx rv ha;obtain⟨⟨bs,rb⟩,cb⟩:=kE I W ry ru hb;exact PySem.SeqAt.in_list_reads rb ra (by simpa[PyData.canLay0]using cb) ca (zR hu hd) ⟨.bl _,H,I,rfl,p.here W rfl⟩
  ·exact p.elim
 ·rename_i a ys ha hb;split at p
  ·rename_i hd;obtain⟨⟨as,ra⟩,ca⟩:=kE I W rx rv ha;obtain⟨⟨bs,rb⟩,cb⟩:=kE I W ry ru hb;exact PySem.SeqAt.in_tuple_reads rb ra (by simpa[PyData.canLay0]using cb) ca (zR hu hd) ⟨.bl _,H,I,rfl,p.here W rfl⟩
  ·exact p.elim
 ·exact p.elim
theorem Kf(hu:X.A.units+64<cLine):cE X (compareOp .NotIn) (r2 X.K ji):=by
 intro pins s σ H v u vv uu Q I rv ru h;obtain⟨ρ,x,y,c,W,rx,ry,p⟩:=h;unfold ji at p;split at p
 ·rename_i a ys ha hb;split at p
  ·rename_i hd;obtain⟨⟨as,ra⟩,ca⟩:=kE I W rx rv ha;obtain⟨⟨bs,rb⟩,cb⟩:=kE I W ry ru hb;exact PySem.SeqAt.notIn_list_reads rb ra (by simpa[PyData.canLay0]using cb) ca (zR hu hd) ⟨.bl _,H,I,rfl,p.here W rfl⟩
  ·exact p.elim
 ·rename_i a ys ha hb;split at p
  ·rename_i hd;obtain⟨⟨as,ra⟩,ca⟩:=kE I W rx rv ha;obtain⟨⟨bs,rb⟩,cb⟩:=kE I W ry ru hb;exact PySem.SeqAt.notIn_tuple_reads rb ra (by simpa[PyData.canLay0]using cb) ca (zR hu hd) ⟨.bl _,H,I,rfl,p.here W rfl⟩
  ·exact p.elim
 ·exact p.elim
end
theorem nR{A:ω}{k:Nat}(hr:er k A):A.units+64<cLine:=by have:=hr.un;omega
section
variable (c:aa)
@[simp] theorem afC:fK .aL=ζ .none:=by simp only[fK]
@[simp] theorem afE(b:Bool):fK (.bl b)=ζ (.bool b):=by simp only[fK]
@[simp] theorem afD(i:Int):fK (.int i)=ζ (.int i):=by simp only[fK]
@[simp] theorem afB:f7 []=ζ []:=by simp only[f7]
theorem Nq(l:List Int):f7 (l.map D.int)=ζ (l.map PyData.int):=by
 induction l with
 |nil=>simp
 |cons a l ih=>simp[f7,ih]
end
end L2
namespace L2
open PySem PySem.Spec PyProof.Rows
section
variable {X:Cx}
theorem UK:∀(is:List Int),preSum (λi=>is.getD i 0) is.length=is.sum
 |is=>by
  have key:∀j,j<=is.length->preSum (λi=>is.getD i 0) j=(is.take j).sum:=by
   intro j
   induction j with
   |zero=>intro _;simp[preSum]
   |succ j ih =>
    intro hj;rw[preSum,ih (by omega),List.take_add_one]
    have:is[j]? = ζ (is.getD j 0):=by
     rw[aga,afV (by omega)];rfl
    rw[this];simp
  rw[key is.length (afQ _),agV]
theorem Px{is:List Int}{its:List Γ}(h:Vals (is.map V.int) its) (i:Nat) (v:Γ) (hv:its.toArray[i]? = ζ v):∃t,v=.int (is.getD i 0) t:=by
 have hl:=h.length;rw[afY]at hl;have hi:i<is.length:=by
  have:=(Array.getElem?_eq_some_iff.mp hv).1;simp at this;omega
 obtain⟨u,e,r⟩:=h.get (i:=i) (x:=V.int is[i]) (by simp[af6,hi])
 rw[List.getElem?_toArray]at hv;rw[hv]at e;cases e;obtain⟨t,rfl⟩:=r;exact⟨t,by rw[aga,afV hi];rfl⟩
theorem acC(hc:X.calm=Δ):fB X (.builtin "sum") (λxs H Q=>∃(p:Ξ) (is:List Int),xs=[.ref p]/\b9 X.K H p (is.map V.int)/\Q (.int is.sum) H):=by
 intro pins s σ H xs us Q I r h;obtain⟨p,is,rfl,hp,q⟩:=h;obtain⟨u,rfl,ru⟩:=agF r;cases ru;obtain⟨its,rv,pl,hz⟩:=I.list hp;have hL:=pl.isList;have Ez:p≠s.heap.objs.size:=by obtain⟨o,e,_⟩:=hL;exact afZ (afU e)
 have hl:=rv.length;rw[afY]at hl;refine call_sum_walkAnyS (aif hL ⟨s.heap.objs.size,_,_,_,its.toArray.size,_,_,λi=>is.getD i 0,rfl,(Walks.list (A:=X.A.in1) (I.ok.hd hc) s.heap.objs.size p Ez its.toArray).toS,⟨⟨_,af3 _ rfl,rfl,rfl⟩,hL.push _⟩,λb hb=>?_,λi v hv=>Px rv i v hv,λs' t' hm=>?_⟩)
 ·obtain⟨o,e,_⟩:=hL
  rcases afT.mp hb with rfl|hb
  ·exact afU (af3 _ rfl)
  ·obtain rfl:=agu.mp hb;exact afU (afS _ e)
 ·obtain⟨h',g',d',tk',os'⟩:=s';have e1:g'=s.gens:=hm.gens;have e2:d'=s.drawn:=hm.drawn;have e3:os'=s.os:=hm.os;subst e1 e2 e3;have I1:Inv X pins σ H {s with heap:=h',toks:=tk'}:=Og I λb o hb e=>hm.heap b o hb e
  refine⟨.int is.sum,H,I1,?_,q⟩;refine⟨t',?_⟩;rw[af4,<-hl,UK]
end
def kB:List D->aa->R D:=λxs c=>match xs with
 |[.lst l]=>match jI l with
  |some is=>.ok (.int is.sum) c
  |none=>.bad
 |_=>.bad
theorem NT{X:Cx}(hc:X.calm=Δ:=by rfl):fB X (.builtin "sum") (rN X.K kB):=by
 intro pins s σ H vs us Q I rv h;obtain⟨ρ,xs,c,W,rx,p⟩:=h;unfold kB at p;split at p
 ·split at p
  ·rename_i is hb;obtain⟨v,r,rfl,⟨a,ys,rfl,s1,r1⟩,hr⟩:=rx;cases hr;rw[Er hb]at r1;cases r1.Ep;exact acC hc pins s σ H _ us Q I rv ⟨a,is,rfl,b9.of s1.1,p.here W rfl⟩
  ·exact p.elim
 ·exact p.elim
theorem vals3{a b c:V}{us:List Γ}(h:Vals [a,b,c] us):∃u v w,us=[u,v,w]/\RelV a u/\RelV b v/\RelV c w:=by
 cases h with
 |cons h1 h =>
  cases h with
  |cons h2 h =>
   cases h with
   |cons h3 h=>cases h;exact⟨_,_,_,rfl,h1,h2,h3⟩
theorem Tr{K:ξ}{ρ:List Ξ}{H:Hp}{a b c:D}{vs:List V}(h:aQ K ρ H [a,b,c] vs):∃u v w,vs=[u,v,w]/\Rel K ρ H a u/\Rel K ρ H b v/\Rel K ρ H c w:=by
 obtain⟨u,r,rfl,h1,v,r',rfl,h2,w,r'',rfl,h3,h4⟩:=h;cases h4;exact⟨u,v,w,rfl,h1,h2,h3⟩
section
variable (c:aa)
@[simp] theorem sum_ints(l:List Int):kB [.lst (l.map D.int)] c=.ok (.int l.sum) c:=by
 unfold kB;simp[qz]
end
def Bj(hi:Int) (n:Nat):It:=⟨λi _=>i<n,λi H x H'=>H'=H/\x=.int (hi-i),λi _=>n<=i⟩
theorem Qc{P:π}{w:χ}{K:ξ}{tg:ν}(it:Ξ) (hi:Int) (n:Nat):Turn P w K tg (Bj hi n) [it] it (λi h=>aaD h it (hi+(i:Nat)*(-1)) ((n:Int)-(i:Nat)) (-1)) where
 mem:=by simp
 obj:=λi h st b hb=>by
  have e:b=it:=by simpa using hb
  subst e;exact⟨_,st,λv z=>by
   have z':Data.fields _=Data.cell v:=z;cases z'⟩
 keep:=λi h h' st k=>k it (by simp) _ st
 item:=by
  intro X hP hw hK hc i pins s σ H E I hf st hg;subst hP hw hK;obtain⟨f0,f1,f2,f3,f4,f5⟩:=hf it (by simp)
  have W:=Walks.range (prog:=X.prog) (w:=X.w) (I.ok.hd hc) it hi (-1) n;refine W.item i s _ _ hg st λv h' tk hv st' kk=>?_
  obtain⟨t,rfl⟩:=hv;have I1:Inv X pins σ H {s with heap:=h',toks:=tk}:=I.turned (λb o hb e=>kk b o (by simpa using hb) e) f0 f1 f3 f4 f5
  refine⟨_,rfl,wH (s:={s with heap:=h',toks:=tk}) (n:="range_iterator") st' rfl rfl (by decide) ⟨.int (hi-i),H,I1,⟨t,?_⟩,⟨rfl,rfl⟩,st',λb hb=>(hf b hb).1⟩⟩
  congr 1
  omega
 done:=by
  intro X hP hw hK hc i pins s σ H E I hf st hg;subst hP hw hK;obtain⟨f0,f1,f2,f3,f4,f5⟩:=hf it (by simp)
  exact ajL (I.ok.hd hc) st (by have:n<=i:=hg;omega) λh' eb=>⟨rfl,I.turned (t':=s.toks) (λb o hb e=>eb b o hb e) f0 f1 f3 f4 f5⟩
 self:=λ_ _ _ _ _ st h=>ajM st h
theorem ai4(a b:Int):Builtin.Range.rangeSize a b (-1)=if b<a then a-b else 0:=by
 unfold Builtin.Range.rangeSize;rw[if_neg (by decide)]
 simp only[show(-(-1):Int)=1 by decide,Int.ediv_one]
 split<;>omega
theorem small_down{hi lo:Int}(h1:-(2^62)<=lo) (h2:lo<2^62) (h3:-(2^62)<=hi) (h4:hi<2^62):Builtin.Range.small hi lo (-1)=Δ:=by
 unfold Builtin.Range.small;rw[ai4];simp only[Builtin.Range.rangeFitsLong,af1,ahp,decide_eq_true_eq,beq_iff_eq,show ¬((-1:Int)>0) by decide,if_false]
 split<;>omega
def jO(hi lo:Int):List D:=(θ (hi-lo).toNat).map fun(i:Nat)=>D.int (hi-(i:Int))
def uw(a:aj):Ev->aa->R Src:=λe c=>(a e c).bind λxs c=>match xs with
 |[.int i,.int j,.int s]=>if s = -1/\-(2^62)<=i/\i<2^62/\-(2^62)<=j/\j<2^62 then .ok ⟨jO i j,λ_=>True⟩ c else .bad
 |_=>.bad
section
variable {X:Cx}{tg:ν}{K:ξ}{ρ:List Ξ}{H:Hp}
theorem abC{pins:List (Ξ×Obj)}{σ:St}{H:Hp}{s:Ψ}{R:It->Hp->Prop}{E:Γ->Ψ->Prop}{lo hi:Int}{t u v:Tok}{tk:Nat}(I:Inv X pins σ H s) (h1:-(2^62)<=lo) (h2:lo<2^62) (h3:-(2^62)<=hi) (h4:hi<2^62)
  (q:R (Bj hi (hi-lo).toNat) H):wpAny (model X.prog X.w) X.A (pyIter (.ref s.heap.objs.size)) (GS X pins σ tg R) E {s with heap:=s.heap.push {cls:=.type "range",data:=.fields #[.int hi t,.int lo u,.int (-1) v]},toks:=tk}:=by
 refine wpAny_pyIter_range (IsRange.new ..) (small_down h1 h2 h3 h4) ?_;have I1:Inv X pins σ H {s with heap:=s.heap.push {cls:=.type "range",data:=.fields #[.int hi t,.int lo u,.int (-1) v]},toks:=tk}:=I.kept λb o e=>afS _ e
 refine⟨(s.heap.push {cls:=.type "range",data:=.fields #[.int hi t,.int lo u,.int (-1) v]}).objs.size,[(s.heap.push {cls:=.type "range",data:=.fields #[.int hi t,.int lo u,.int (-1) v]}).objs.size],_,_,H,rfl,
  I1.kept (t':=tk) λb o e=>afS _ e,Qc _ hi (hi-lo).toNat,?_,λb hb=>?_,q⟩
 ·have e1:hi+((0:Nat):Int)*(-1)=hi:=by simp
  have e2:(((hi-lo).toNat:Nat):Int)-((0:Nat):Int)=Builtin.Range.rangeSize hi lo (-1):=by rw[ai4];split<;>omega
  show aaD _ _ (hi+((0:Nat):Int)*(-1)) ((((hi-lo).toNat:Nat):Int)-((0:Nat):Int)) (-1);rw[e1,e2];exact af3 _ rfl
 ·have e:b=(s.heap.push {cls:=.type "range",data:=.fields #[.int hi t,.int lo u,.int (-1) v]}).objs.size:=by simpa using hb
  subst e;exact I1.uh (afQ _) (I1.hok.fresh (afQ _))
theorem Zc{lo hi:Int}{st:aa->Prop}:JS K ρ H ⟨jO hi lo,st⟩ (Bj hi (hi-lo).toNat):=by
 intro ρ' H' c' W E s i;refine⟨λd hd=>?_,λe=>?_⟩
 ·have hd:(jO hi lo)[i]? = ζ d:=hd;unfold jO at hd;rw[af6,Option.map_eq_some_iff]at hd;obtain⟨k,hk,rfl⟩:=hd;obtain⟨h1,h2⟩:=af8.mp hk;rw[ahX]at h2;subst h2;have h1:i<(hi-lo).toNat:=by simpa using h1
  refine⟨h1,λx H2 hy=>?_⟩
  obtain⟨rfl,rfl⟩:=hy;exact⟨W,Ext.refl,rfl⟩
 ·have:(jO hi lo).length=(hi-lo).toNat:=by simp[jO]
  show(hi-lo).toNat<=i;rw[e];exact ag9 this.symm
def Zy(ta:TA):TI:=λσ H R=>ta σ H λvs H1=>∃i j:Int,vs=[.int i,.int j,.int (-1)]/\(-(2^62)<=i/\i<2^62/\-(2^62)<=j/\j<2^62)/\R (Bj i (i-j).toNat) H1
theorem U7{a b c:ν}{ta:TA}{p pos:Pos}(hg:Gl X "range") (hm:X.mg "range"=η) (ha:PA X [a,b,c] ta) (hs:ε [a,b,c] X.env=(Θ,eval a X.env)::ε [b,c] X.env:=by exact dU rfl) (hs2:(aaj pos (ε [b,c] X.env)).any (·.1)=Θ:=by exact gC rfl) :
  PI X tg (.Call (.Name "range" p) [a,b,c] [] pos) (Zy ta):=by
 intro pins s σ H R I h;refine Call_ (kP I hg hm boot_range (ahd (bR (ha pos pins s σ H _ I h) λus s1 ⟨vs,H1,I1,r1,q1⟩=>?_) hs hs2))
 obtain⟨i,j,e,⟨q1,q2,q3,q4⟩,q⟩:=q1;subst e;obtain⟨u,v,w,rfl,⟨t1,rfl⟩,⟨t2,rfl⟩,⟨t3,rfl⟩⟩:=vals3 r1;exact call_range_3 (by decide) (abC I1 q3 q4 q1 q2 q) (.inl (ajN (by decide)))
theorem Zv{a b c:ν}{da:aj}{p pos:Pos}(ha:fO X [a,b,c] da) (hm:X.mg "range"=η) (hg:Gl X "range":=by rfl) (hs:ε [a,b,c] X.env=(Θ,eval a X.env)::ε [b,c] X.env:=by exact dU rfl) (hs2:(aaj pos (ε [b,c] X.env)).any (·.1)=Θ:=by exact gC rfl):PId X tg (.Call (.Name "range" p) [a,b,c] [] pos) (uw da) :=
 (U7 hg hm ha hs hs2).imp λσ H Q h=>by
  obtain⟨ρ,e,c,W,V,p⟩:=h;refine⟨ρ,e,c,W,V,post.bind p λx c1 aR H1 v _ W1 X1 r1 p1=>?_⟩
  split at p1
  ·rename_i i j s _;split at p1
   ·rename_i hj;obtain⟨rfl,hj⟩:=hj;obtain⟨u,v,w,rfl,ru,rv,rw'⟩:=Tr r1;cases ru;cases rv;cases rw';exact⟨i,j,rfl,hj,p1.here W1 Zc⟩
   ·exact p1.elim
  ·exact p1.elim
end
section
variable (e:Ev) (c:aa) (l:aj)
@[simp] theorem adY:uw l e c=(l e c).bind λxs c=>match xs with
 |[.int i,.int j,.int s]=>if s = -1/\-(2^62)<=i/\i<2^62/\-(2^62)<=j/\j<2^62 then .ok ⟨jO i j,λ_=>True⟩ c else .bad
 |_=>.bad:=rfl
end
def iz(t:List (Int×List Int)) (k:Int):Option (List Int):=match t with
 |[]=>η
 |p::r=>if k=p.1 then ζ p.2 else iz r k
def zO:List Γ->List Int->Bool
 |[],[]=>Δ
 |.int i _::vs,j::l=>(i==j)&&zO vs l
 |_,_=>Θ
def se(K:ξ) (b:Ξ) (l:List Int):Bool:=match K.lookup b with
 |some ⟨c,_,.seq its _,_⟩=>(c == .type "tuple")&&zO its.toList l&&decide (its.size<=Ω)
 |_=>Θ
def wO(K:ξ) (e:aaB) (k:Int) (l:List Int):Bool:=match e with
 |⟨h,.int i _,.ref b⟩=>(i==k)&&(h==hashInt k)&&se K b l
 |_=>Θ
def uv(K:ξ):List aaB->List (Int×List Int)->Bool
 |[],[]=>Δ
 |e::es,p::t=>wO K e p.1 p.2&&uv K es t
 |_,_=>Θ
def rG(K:ξ) (a:Ξ) (t:List (Int×List Int)):Bool:=!(a==sysModules)&&match K.lookup a with
 |some ⟨c,η,.dict es _,sl⟩=>(c == .type "dict")&&sl.isEmpty&&uv K es.toList t
 |_=>Θ
theorem LV:∀{vs:List Γ}{l:List Int},zO vs l=Δ->Vals (l.map V.int) vs
 |[],[],_=>.nil
 |v::vs,[],h=>by cases v<;>cases h
 |[],j::l,h=>by cases h
 |v::vs,j::l,h=>by
  cases v with
  |int i t =>
   have h:((i==j)&&zO vs l)=Δ:=h;rw[af1,beq_iff_eq]at h;obtain⟨rfl,h'⟩:=h;exact .cons ⟨t,rfl⟩ (LV h')
  |_=>cases h
theorem Qe{K:ξ}{H:Hp}{b:Ξ}{l:List Int}(h:se K b l=Δ):cO K H b (l.map V.int):=by
 unfold se at h;split at h
 ·rename_i c d its n sl e;rw[af1,af1,beq_iff_eq,decide_eq_true_iff]at h;obtain⟨⟨rfl,h1⟩,h2⟩:=h;exact .inr ⟨_,its,n,e,rfl,rfl,h2,LV h1⟩
 ·cases h
theorem Ng{K:ξ}{e:aaB}{k:Int}{l:List Int}(h:wO K e k l=Δ):∃t b,e=⟨hashInt k,.int k t,.ref b⟩/\se K b l=Δ:=by
 unfold wO at h;split at h
 ·rename_i hh i t b;rw[af1,af1,beq_iff_eq,beq_iff_eq]at h;obtain⟨⟨rfl,rfl⟩,h⟩:=h;exact⟨t,b,rfl,h⟩
 ·cases h
theorem Nd{K:ξ}:∀{es:List aaB}{t:List (Int×List Int)},uv K es t=Δ->∀e∈es,∃k t,e.key=.int k t/\e.hash=hashInt k
 |[],_,_=>λe he=>by cases he
 |e::es,[],h=>by cases h
 |e::es,p::t,h=>λx hx=>by
  have h:(wO K e p.1 p.2&&uv K es t)=Δ:=h;rw[af1]at h
  rcases afT.mp hx with rfl|hx
  ·obtain⟨tk,b,rfl,_⟩:=Ng h.1;exact⟨_,tk,rfl,rfl⟩
  ·exact Nd h.2 x hx
theorem Nf{K:ξ}(k:Int):∀{es:List aaB}{t:List (Int×List Int)},uv K es t=Δ->(match iz t k with
  |none=>es.find? (λe=>Value.isInt k e.key)=η
  |some l=>∃e b,es.find? (λe=>Value.isInt k e.key)=ζ e/\e.val=.ref b/\se K b l=Δ)
 |[],[],_=>by unfold iz;rfl
 |[],p::t,h=>by cases h
 |e::es,[],h=>by cases h
 |e::es,p::t,h=>by
  have h:(wO K e p.1 p.2&&uv K es t)=Δ:=h;rw[af1]at h;obtain⟨tk,b,rfl,hb⟩:=Ng h.1;have ih:=Nf k h.2;unfold iz
  by_cases hk:k=p.1
  ·rw[if_pos hk];refine⟨⟨hashInt p.1,.int p.1 tk,.ref b⟩,b,?_,rfl,hb⟩;rw[aj7];subst hk;simp[Value.isInt]
  ·rw[if_neg hk,aj8]
   ·exact ih
   ·simp only[Value.isInt,beq_iff_eq];exact λz=>hk z.symm
theorem Ni{K:ξ}{h:υ}{a:Ξ}{t:List (Int×List Int)}{prog:π}{w:χ}(hk:K.In h) (hd:rG K a t=Δ):(a==sysModules)=Θ/\∃f,h.MapOf (intKind prog w) a f/\∀k,(match iz t k with
  |none=>f k=η
  |some l=>∃b,f k=ζ (.ref b)/\se K b l=Δ):=by
 unfold rG at hd;rw[af1]at hd;obtain⟨h0,h1⟩:=hd;refine⟨by simpa using h0,?_⟩
 split at h1
 ·rename_i c es n sl e;rw[af1,af1,beq_iff_eq]at h1;obtain⟨⟨rfl,h2⟩,h3⟩:=h1;have hs:sl=#[]:=by simpa using h2
  refine⟨findBy Value.isInt es,Heap.IntMap.mapOf ⟨_,es,n,hk a _ e,rfl,rfl,λx hx=>Nd h3 x (by simpa using hx),λ_=>rfl⟩ (λo ho=>?_),λk=>?_⟩
  ·rw[hk a _ e]at ho;cases ho;exact⟨rfl,hs⟩
  ·have q:=Nf k h3;have ef:findBy Value.isInt es k=(es.toList.find? λe=>Value.isInt k e.key).map (·.val):=by unfold findBy;rw[ajO]
   cases z:iz t k with
   |none =>
    rw[z]at q;show findBy Value.isInt es k=η;rw[ef,q];rfl
   |some l =>
    rw[z]at q;obtain⟨e,b,q1,q2,q3⟩:=q;refine⟨b,?_,q3⟩;rw[ef,q1,<-q2];rfl
 ·cases h1
def qD(t:List (Int×List Int)) (i:Int):D->aa->R D:=λx c=>match x with
 |.int k=>match iz t k with
  |some l=>match cX l i with
   |some z=>.ok (.int z) c
   |none=>.bad
  |none=>.bad
 |_=>.bad
def wu(x:Str) (t:List (Int×List Int)):D->D->aa->R D:=λa b c=>match a,b with
 |.int k,.fn y _=>if y=x then .ok (.bl (iz t k).isSome) c else .bad
 |_,_=>.bad
section
variable {X:Cx}{x:Str}{ad:Ξ}{t:List (Int×List Int)}
def TZ(K:ξ) (ad:Ξ) (t:List (Int×List Int)):R2:=λx y H Q=>∃k l,x=.ref ad/\y=.int k/\iz t k=ζ l/\∀b,cO K H b (l.map V.int)->Q (.ref b) H
theorem Zf(ht:rG X.K ad t=Δ):uK X (TZ X.K ad t):=by
 intro value slice pins s σ H x y v u Q I rx ry h hs;obtain⟨k,l,rfl,rfl,hl,q⟩:=h;cases rx;obtain⟨tk,rfl⟩:=ry;obtain⟨_,f,hm,hf⟩:=Ni (prog:=X.prog) (w:=X.w) I.fM ht;have hk:=hf k;rw[hl]at hk;obtain⟨b,hb,tb⟩:=hk;have fin:EP X pins σ Q (.ref b) {s with toks:=s.toks+1}:=⟨.ref b,H,I.tok _,rfl,q b (Qe tb)⟩
 exact aiS (x:=.ref b) hm.typeIs slot_dict_getitem.lookup (wpAny_getItem_of (key:=.int k tk) (by simp[intKind,Value.isInt]) hm hb ⟨rfl,fin⟩) hs
theorem yX{a:ν}{da:af}{i:Int}{j p1 p2 p3 p4}(hm:X.mg x=ζ (.ref ad)) (ht:rG X.K ad t=Δ) (ha:bw X a da) (hg:Gl X x:=by rfl) (hd:(x==("__debug__":Str))=Θ:=by decide) (hs:GR a:=by exact λ_ _=>rfl) :
  bw X (.Subscript (.Subscript (.Name x p1) a p2) (.Constant (.int i) j p3) p4) (k6 (qD t i) da) :=
 (Dp LL (Dp (Zf ht) (Dq (v:=.ref ad) hg hm rfl hd) ha hs) JI (λ_ _=>rfl)).imp λσ H Q h=>by
  obtain⟨ρ,e,c,W,V,p⟩:=h;refine⟨ρ,e,c,W,V,post.bind p λx c1 aR H1 v ex W1 X1 r1 p1=>?_⟩
  clear ex;unfold qD at p1;split at p1
  ·rename_i k;cases r1;split at p1
   ·rename_i l hl;split at p1
    ·rename_i z hz;refine⟨k,l,rfl,rfl,hl,λb hb=>⟨b,_,i,.int z,rfl,rfl,hb,?_,p1.here W1 rfl⟩⟩
     unfold cX at hz ⊢;rw[afY];cases e:gp l.length i with
     |none=>rw[e]at hz;cases hz
     |some j =>
      rw[e]at hz;have hz:l[j]? = ζ z:=hz;show(l.map L2.V.int)[j]? = _;rw[af6,hz];rfl
    ·exact p1.elim
   ·exact p1.elim
  ·exact p1.elim
theorem VI{y:Str}{C:Ξ}{pos:Pos}(hm:X.mg y=ζ (.ref C)) (hn:τ X.K μ y=ζ (ζ (.ref C))) (hg:Gl X y:=by rfl) (hd:(y==("__debug__":Str))=Θ:=by decide):bw X (.Name y pos) (dC (.fn y 0)) :=
 pW (Dq (v:=.ref C) hg hm rfl hd) λ_ _=>⟨C,rfl,hn⟩
theorem Xo(hn:τ X.K μ x=ζ (ζ (.ref ad))) (ht:rG X.K ad t=Δ):cE X (compareOp .In) (r2 X.K (wu x t)):=by
 intro pins s σ H v u vv uu Q I rv ru h;obtain⟨ρ,a,b,c,W,rx,ry,p⟩:=h;unfold wu at p;split at p
 ·split at p
  ·rename_i k y n hy;subst hy;cases rx;obtain⟨a,rfl,hb⟩:=ry;rw[hn]at hb;cases hb;obtain⟨tk,rfl⟩:=rv;cases ru;obtain⟨h0,f,hm,hf⟩:=Ni (prog:=X.prog) (w:=X.w) I.fM ht;refine wpAny_in_of (key:=.int k tk) (k:=k) (by simp[intKind,Value.isInt]) h0 hm ?_
   have e:(f k).isSome=(iz t k).isSome:=by
    have:=hf k;cases z:iz t k with
    |none=>rw[z]at this;have this:f k=η:=this;rw[this];rfl
    |some l=>rw[z]at this;obtain⟨b,hb,_⟩:=this;rw[hb];rfl
   rw[e];exact⟨.bl _,H,I.tok _,rfl,p.here W rfl⟩
  ·exact p.elim
 ·exact p.elim
end
def sR:D->D->aa->R D:=λx y c=>match x,y with
 |.lst l,.int k=>if -(2^63)<=k/\k<2^63/\l.length*k.toNat<=Ω then .ok (.lst (ι k.toNat l).flatten) c else .bad
 |_,_=>.bad
theorem aQ.rep{K:ξ}{ρ:List Ξ}{H:Hp}{l:List D}{xs:List V}(r:aQ K ρ H l xs):∀n:Nat,aQ K ρ H (ι n l).flatten (ι n xs).flatten
 |0=>rfl
 |n+1=>by
  rw[agO,agO,ag8,ag8];exact aQ.append r (aQ.rep r n)
theorem Xm{X:Cx}:cE X (binaryOp .Mult) (r2 X.K sR):=by
 intro pins s σ H v u vv uu Q I rv ru h;obtain⟨ρ,x,y,c,W,rx,ry,p⟩:=h;unfold sR at p;split at p
 ·split at p
  ·rename_i hl;obtain⟨a,xs,rfl,sa,ra⟩:=rx;cases ry;exact JU pins s σ H _ _ vv uu Q I rv ru ⟨a,_,xs,rfl,rfl,sa.1,hl.1,hl.2.1,by rw[ra.length];exact hl.2.2,qb W (aQ.rep ra _) p⟩
  ·exact p.elim
 ·exact p.elim
def Ot(K:ξ) (a:Ξ) (n:Nat):It :=
 ⟨λi H=>i<n/\∃xs x,b9 K H a xs/\xs[n-1-i]? = ζ x,λi H x H'=>H'=H/\∀xs,b9 K H a xs->xs[n-1-i]? = ζ x,λi H=>i=n⟩
theorem P6{P:π}{w:χ}{K:ξ}{tg:ν}(a it:Ξ) (n:Nat):Turn P w K tg (Ot K a n) [it] it (λi h=>h.IsRevIter it a ((n:Int)-1-(i:Nat))) where
 mem:=by simp
 obj:=λi h st b hb=>by
  have e:b=it:=by simpa using hb
  subst e;obtain⟨o,e,c,d⟩:=st;exact⟨o,e,λv z=>by rw[d]at z;cases z⟩
 keep:=λi h h' st k=>st.at λo e=>k it (by simp) o e
 item:=by
  intro X hP hw hK hc i pins s σ H E I hf st hg;subst hP hw hK;obtain⟨hi,xs,x,hq,hx⟩:=hg;obtain⟨its,rv,p,hz⟩:=I.list hq;obtain⟨u,hu,ru⟩:=rv.get hx;obtain⟨f0,f1,f2,f3,f4,f5⟩:=hf it (by simp)
  have e1:(n:Int)-1-(i:Nat)=((n-1-i:Nat):Int):=by omega
  rw[e1]at st;refine wpAny_pyNext_rev_item st p.isList (x:=u) (by simpa using hu) λh' st' sb=>?_
  have e2:((n-1-i:Nat):Int)-1=(n:Int)-1-((i+1:Nat):Int):=by omega
  rw[e2]at st';have I1:Inv X pins σ H {s with heap:=h'}:=I.turned (t':=s.toks) (λb o hb e=>(sb.2 b hb).trans e) f0 f1 f3 f4 f5
  obtain⟨o,e,c,d⟩:=id st';exact⟨u,rfl,wH (s:={s with heap:=h'}) e c d (by decide) ⟨x,H,I1,ru,⟨rfl,λys hy=>by rw[I.Ed hy hq];exact hx⟩,st',λb hb=>(hf b hb).1⟩⟩
 done:=by
  intro X hP hw hK hc i pins s σ H E I hf st hg;subst hP hw hK;have hi:i=n:=hg;subst hi;obtain⟨f0,f1,f2,f3,f4,f5⟩:=hf it (by simp)
  have e1:(i:Int)-1-(i:Nat) = -1:=by omega
  rw[e1]at st;exact wpAny_pyNext_rev_end (I.ok.hd hc) st λh' eb=>⟨rfl,I.turned (t':=s.toks) (λb o hb e=>eb b o hb e) f0 f1 f3 f4 f5⟩
 self:=λ_ _ _ _ _ st h=>wpAny_pyIter_revIter st h
section
variable {X:Cx}{tg:ν}
def ZD(K:ξ) (ta:TA):TI:=λσ H R=>ta σ H λvs H1=>∃a xs,vs=[.ref a]/\b9 K H1 a xs/\R (Ot K a xs.length) H1
theorem U6{a:ν}{ta:TA}{p pos:Pos}(hg:Gl X "reversed") (hm:X.mg "reversed"=η) (ha:PA X [a] ta) (hs:ε [a] X.env=[(Θ,eval a X.env)]:=by rfl):PI X tg (.Call (.Name "reversed" p) [a] [] pos) (ZD X.K ta):=by
 intro pins s σ H R I h;refine Call_ (kP I hg hm boot_reversed (ahd (bR (ha pos pins s σ H _ I h) λus s1 ⟨vs,H1,I1,r1,q1⟩=>?_) hs rfl))
 obtain⟨b,xs,e,hq,q⟩:=q1;subst e;cases r1 with
 |cons r rr =>
  cases rr;cases r;obtain⟨its,rv,pl,hz⟩:=I1.list hq;refine call_reversed_list pl.isList ?_;have I2:Inv X pins σ H1 {s1 with heap:=s1.heap.push (revObj b ((its.toArray.size:Int)-1))}:=I1.kept (t':=s1.toks) λb o e=>afS _ e
  have hl:=rv.length;have st:(s1.heap.push (revObj b ((its.toArray.size:Int)-1))).IsRevIter s1.heap.objs.size b ((xs.length:Int)-1-((0:Nat):Int)):=⟨_,af3 _ rfl,rfl,by
   have e:(xs.length:Int)-1-((0:Nat):Int)=(its.toArray.size:Int)-1:=by rw[af4,<-hl];omega
   rw[e];rfl⟩
  refine wpAny_pyIter_revIter st ?_;refine⟨s1.heap.objs.size,[s1.heap.objs.size],_,_,H1,rfl,I2,P6 b _ xs.length,st,λc hb=>?_,q⟩
  have e:c=s1.heap.objs.size:=by simpa using hb
  subst e;exact I1.uh (afQ _) (I1.hok.fresh (afQ _))
def wQ(a:aj):Ev->aa->R Src:=λe c=>(a e c).bind λxs c=>match xs with
 |[.lst l]=>.ok ⟨l.reverse,λ_=>True⟩ c
 |_=>.bad
theorem LZ{a:ν}{da:aj}{p pos:Pos}(ha:fO X [a] da) (hm:X.mg "reversed"=η) (hg:Gl X "reversed":=by rfl) (hs:ε [a] X.env=[(Θ,eval a X.env)]:=by exact pO rfl):PId X tg (.Call (.Name "reversed" p) [a] [] pos) (wQ da) :=
 (U6 hg hm ha hs).imp λσ H Q h=>by
  obtain⟨ρ,e,c,W,V,p⟩:=h;refine⟨ρ,e,c,W,V,post.bind p λx c1 aR H1 v ex W1 X1 r1 p1=>?_⟩
  clear ex;split at p1
  ·rename_i l;obtain⟨y,ys,rfl,ry,rs⟩:=r1;cases rs;obtain⟨a,xs,rfl,s,rl⟩:=ry;refine⟨a,xs,rfl,b9.of s.1,p1.here W1 ?_⟩;intro ρ' H' c' W' E _ i;have sq:b9 X.K H' a xs:=b9.of (D7 E s).1;have Ti:=aQ.mono W1 E _ _ rl;have mz:=rl.length;refine⟨λd hd=>?_,λe=>?_⟩
   ·have hd:l.reverse[i]? = ζ d:=hd;have hi:i<l.length:=by
     have:=(af8.mp hd).1
     simpa using this
    rw[List.getElem?_reverse hi]at hd;obtain⟨x,hx,rx⟩:=Ti.get hd;rw[<-mz]at hx;refine⟨⟨by rw[mz];exact hi,xs,x,sq,hx⟩,λy H2 hy=>?_⟩
    obtain⟨rfl,hy⟩:=hy;have:=hy xs sq;rw[hx]at this;cases this;exact⟨W',Ext.refl,rx⟩
   ·have e:i=l.reverse.length:=e;show i=xs.length;rw[e,ai5,mz]
  ·exact p1.elim
end
section
variable (e:Ev) (c:aa) (l:aj)
@[simp] theorem adZ:wQ l e c=(l e c).bind λxs c=>match xs with
 |[.lst l]=>.ok ⟨l.reverse,λ_=>True⟩ c
 |_=>.bad:=rfl
@[simp] theorem aej(t:List (Int×List Int)) (i k:Int):qD t i (.int k) c=match iz t k with
 |some l=>match cX l i with
  |some z=>.ok (.int z) c
  |none=>.bad
 |none=>.bad:=rfl
@[simp] theorem aee(x:Str) (t:List (Int×List Int)) (k:Int) (n:Nat):wu x t (.int k) (.fn x n) c=.ok (.bl (iz t k).isSome) c:=by
 unfold wu;simp
@[simp] theorem OU(m:List D) (k:Int):sR (.lst m) (.int k) c=if -(2^63)<=k/\k<2^63/\m.length*k.toNat<=Ω then .ok (.lst (ι k.toNat m).flatten) c else .bad:=rfl
end
theorem wW{st:aa->Prop}{c:aa}(hst:st c) {a:af}(h:Int->Int->Int) (rest:Ev):∀(rx ry:List Int) (v0 v1:Option D) (acc:List D),
  (∀x∈rx,∀y∈ry,a (ζ (.int x)::ζ (.int y)::rest) c=.ok (.int (h x y)) c) ->
  bO st (cS 2 (br (aA 0) (br (aA 1) cU))) aM a (List.zipWith (λx y=>D.tup [x,y]) (rx.map D.int) (ry.map D.int)) (v0::v1::rest) acc c=.ok (acc++(List.zipWith h rx ry).map D.int) c
 |[],ry,v0,v1,acc,_=>by simp[bO,hst]
 |x::rx,[],v0,v1,acc,_=>by simp[bO,hst]
 |x::rx,y::ry,v0,v1,acc,hb=>by
  have ih:=wW hst h rest rx ry (ζ (.int x)) (ζ (.int y)) (acc++[.int (h x y)]) λu hu v hv=>hb u (agk _ hu) v (agk _ hv)
  have hxy:=hb x agw y agw;simp only[af9,ahs];unfold bO;rw[if_pos hst];simp at ih;simp[hxy,ih]
def kD:D->D->aa->R D:=λx y c=>match x,y with
 |.lst l,.int k=>if -(2^63)<=k/\k<2^63/\l.length*k.toNat<=Ω/\bX l=Δ then .ok (.ref c.length) (c++[.lst (ι k.toNat l).flatten])else .bad
 |_,_=>.bad
theorem KL{l:List D}(h:bX l=Δ):∀n:Nat,bX (ι n l).flatten=Δ
 |0=>by simp
 |n+1=>by rw[agO,ag8,vK,h,KL h n];rfl
theorem Kd{X:Cx}:cE X (binaryOp .Mult) (r2 X.K kD):=by
 intro pins s σ H v u vv uu Q I rv ru h;obtain⟨ρ,x,y,c,W,rx,ry,p⟩:=h;unfold kD at p;split at p
 ·split at p
  ·rename_i hl;obtain⟨a,xs,rfl,sa,ra⟩:=rx;cases ry;exact JU pins s σ H _ _ vv uu Q I rv ru ⟨a,_,xs,rfl,rfl,sa.1,hl.1,hl.2.1,by rw[ra.length];exact hl.2.2.1,DN W (KL hl.2.2.2 _) (aQ.rep ra _) p⟩
  ·exact p.elim
 ·exact p.elim
def gV(o a:af):af:=λe c=>(o e c).bind λx c=>match x with
 |.ref k=>(a e c).bind λy c=>match y with
  |.lst m=>match c[k]? with
   |some (.lst l)=>if l.length+m.length<=Ω/\bX m=Δ then .ok .aL (c.set k (.lst (l++m)))else .bad
   |none=>.bad
  |_=>.bad
 |_=>.bad
theorem yY{X:Cx}{o e:ν}{dO da:af}{apos cpos:Pos}(ho:bw X o dO) (ha:bw X e da)
  (hbase:aaA o "extend" X.env (eval o X.env)=eval o X.env:=by rfl)
  (hfew:((aaj cpos (ε [e] X.env)).all (λx=>!x.1)&&(aaE cpos (aat [] X.env)).all (λx=>x.1.isSome)
   && decide ([e].length+([]:List aav).length+(if([]:List aav).isEmpty then 0 else 1)<30))=Δ:=by exact BX rfl)
  (hline:(apos.endLine==cpos.line)=Δ:=by rfl) (hs:ε [e] X.env=(Θ,eval e X.env)::ε [] X.env:=by exact dU rfl) (hplain:(aaj cpos (ε [] X.env)).any (·.1)=Θ:=by exact gC rfl) :
  bw X (.Call (.Attribute o "extend" apos) [e] [] cpos) (gV dO da) :=
 (Ds ai3 PySem.F.slot_list_extend PySem.F.type_list_extend Ye ho (kI ha lP hs) hbase hfew hline hs hplain).imp λσ H Q h=>by
  obtain⟨ρ,e,c,W,V,p⟩:=h;refine⟨ρ,e,c,W,V,post.bind p λx c1 aR H1 v _ W1 X1 r1 p1=>?_⟩
  cases x with
  |ref k =>
   obtain⟨a,rfl,ha⟩:=r1;obtain⟨xs,hx⟩:=W1.at' (agn ha);refine⟨.inl ⟨rfl,xs,b9.of hx⟩,aR,e,c1,W1,V.mono W X1,post.bind p1 λy c2 d8 H2 u _ W2 X2 r2 p2=>?_⟩
   cases y with
   |lst m =>
    obtain⟨b,zs,rfl,sb,rb⟩:=r2;dsimp only at p2;split at p2
    ·rename_i l hl;split at p2
     ·rename_i hh;obtain⟨nr,ys,hy,rl⟩:=W2.gc k a _ (X2.pre k a ha) hl;refine⟨a,b,ys,zs,rfl,rfl,hy,sb.1,by rw[rl.length,rb.length];exact hh.1,?_⟩
      refine p2 d8 _ .aL (W2.write (X2.pre k a ha) (by rw[vK,nr,hh.2];rfl) (rl.append rb)) (Ext.write (X2.pre k a ha)) rfl
     ·exact p2.elim
    ·exact p2.elim
   |_=>exact p2.elim
  |_=>exact p1.elim
section
variable (e:Ev) (c:aa) (o a:af)
@[simp] theorem OT(m:List D) (k:Int):kD (.lst m) (.int k) c=if -(2^63)<=k/\k<2^63/\m.length*k.toNat<=Ω/\bX m=Δ then .ok (.ref c.length) (c++[.lst (ι k.toNat m).flatten])else .bad:=rfl
end
theorem jq{α:Type}{st:aa->Prop}{g:Gd}{s:ah}(C:Nat->aa) (E:Nat->α->Ev):∀(items:List D) (k:Nat) (v:α),(∀i,i<=items.length->st (C (k+i))) ->
  (∀i x,items[i]? = ζ x->∀v,∃e',g x (E (k+i) v) (C (k+i))=.ok e' (C (k+i))/\∃v',s e' (C (k+i))=.ok (.nx (E (k+i+1) v')) (C (k+i+1))) ->
  ∃v',c7 st g s items (E k v) (C k)=.ok (.nx (E (k+items.length) v')) (C (k+items.length))
 |[],k,v,hst,_=>⟨v,by
   have:=hst 0 (afQ _);rw[ahU]at this;unfold c7;rw[if_pos this];rfl⟩
 |x::xs,k,v,hst,h=>by
  obtain⟨e',h1,v',h2⟩:=h 0 x rfl v;obtain⟨v2,h3⟩:=jq C E xs (k+1) v' (λi hi=>by
   have:=hst (i+1) (by simp only[af0];omega)
   rwa[show k+(i+1)=k+1+i by omega]at this) (λi y hy v=>by
   have:=h (i+1) y (by simpa using hy) v
   rwa[show k+(i+1)=k+1+i by omega]at this)
  refine⟨v2,?_⟩;unfold c7;rw[if_pos (by have:=hst 0 (agR _);exact this)]
  rw[ahU]at h1 h2;rw[h1,R.aB,h2];simp only[R.aB];rw[h3,af0,show k+(xs.length+1)=k+1+xs.length by omega]
theorem oh{α:Type}{g:Gd}{s:ah}(C:Nat->aa) (E:Nat->α->Ev) {N:Int}{n:Nat}(hN:N=n) (v:α)
  (h:∀i,i<n->∀v,∃e',g (.int (i:Nat)) (E i v) (C i)=.ok e' (C i)/\∃v',s e' (C i)=.ok (.nx (E (i+1) v')) (C (i+1))) :
  ∃v',c7 (λ_=>True) g s (aT 0 N) (E 0 v) (C 0)=.ok (.nx (E n v')) (C n):=by
 have hl:(aT 0 N).length=n:=by rw[d9];omega
 have:=jq (st:=λ_=>True) C E (aT 0 N) 0 v (λ_ _=>trivial) (λi x hx v=>by
  obtain⟨h1,rfl⟩:=nj hx;rw[age,ahY];exact h i (by omega) v)
 rwa[hl,age]at this
theorem Em{c:aa}{l:List D}{i:Int}{j:Nat}{d:D}(hi:i=j) (h:l[j]? = ζ d):aF (.ref c.length) (.int i) (c++[.lst l])=.ok d (c++[.lst l]):=by
 subst hi;unfold aF fW;simp only[ahZ];have:=gK (xs:=l) (j:=j) (v:=d) h;rw[this]
theorem IP{c:aa}{l:List D}{i:Int}{j:Nat}{d:D}(hi:i=j) (h:j<l.length) (hd:noRef d=Δ):lK (.ref c.length) (.int i) d (c++[.lst l])=.ok () (c++[.lst (l.set j d)]):=by
 subst hi;unfold lK;simp[gp,h,hd]
def allInts:List ν->Option (List Int)
 |[]=>ζ []
 |e::r=>match e with
  |.Constant (.int i) _ _=>(allInts r).map (i :: ·)
  |_=>η
def fS(l:List Int):aj:=λ_ c=>.ok (l.map D.int) c
theorem ny{X:Cx}:∀{es:List ν}{l:List Int},allInts es=ζ l->fO X es (fS l)
 |[],l,h=>by cases h;exact aD
 |e::es,l,h=>by
  unfold allInts at h;split at h
  ·rename_i i j pos;cases q:allInts es with
   |none=>rw[q]at h;cases h
   |some r =>
    rw[q]at h;cases h;exact az aN (ny q) (dU rfl)
  ·cases h
@[simp] theorem x_ints(l:List Int) (e:Ev) (c:aa):fS l e c=.ok (l.map D.int) c:=rfl
def fq:List D->aa->R D:=λxs c=>match xs with
 |[.int i]=>.ok (.int i) c
 |[.bl k]=>.ok (.int (if k then 1 else 0)) c
 |_=>.bad
theorem Fo{X:Cx}:fB X (.type "int") (rN X.K fq):=by
 intro pins s σ H vs us Q I rv h;obtain⟨ρ,xs,c,W,rx,p⟩:=h;unfold fq at p;split at p
 ·obtain⟨v,r,rfl,hx,hr⟩:=rx;cases hr;cases hx;exact NW pins s σ H _ us Q I rv (.inl ⟨_,rfl,p.here W rfl⟩)
 ·obtain⟨v,r,rfl,hx,hr⟩:=rx;cases hr;cases hx;exact NW pins s σ H _ us Q I rv (.inr ⟨_,rfl,p.here W rfl⟩)
 ·exact p.elim
@[simp] theorem aec(k:Bool) (c:aa):fq [.bl k] c=.ok (.int (if k then 1 else 0)) c:=rfl
@[simp] theorem aed(i:Int) (c:aa):fq [.int i] c=.ok (.int i) c:=rfl
abbrev Up(l:List Nat):Prop:=l.Pairwise (· < ·)
theorem getD_list(xs:Array Nat) (i d:Nat):xs.getD i d=xs.toList.getD i d:=by
 simp[aj9,aga]
theorem uQ{l:List Nat}(h:Up l) {i k:Nat}(hik:i<k) (hk:k<l.length):l.getD i 0<l.getD k 0:=by
 have:=ait.mp h i k (by omega) hk hik
 simpa[aga,afV hk,afV (show i<l.length by omega)]using this
def Parts(l:List Nat) (j p:Nat):Prop:=p<=l.length/\(∀i,i<p->l.getD i 0<j)/\∀i,p<=i->i<l.length->j<=l.getD i 0
theorem Fy{xs:Array Nat}{j:Nat}(h:Up xs.toList):∀fuel lo hi,lo<=hi->hi<=xs.toList.length->hi-lo<=fuel->(∀i,i<lo->xs.toList.getD i 0<j)->(∀i,hi<=i->i<xs.toList.length->j<=xs.toList.getD i 0) ->
  Parts xs.toList j (SetTable.below.go xs j fuel lo hi)
 |0,lo,hi,h1,h2,h3,h4,h5=>⟨by unfold SetTable.below.go;omega,λi hi'=>h4 i (by unfold SetTable.below.go at hi';exact hi'),λi hi'=>h5 i (by unfold SetTable.below.go at hi';omega)⟩
 |fuel+1,lo,hi,h1,h2,h3,h4,h5=>by
  unfold SetTable.below.go
  by_cases hl:lo<hi
  ·rw[if_pos hl];dsimp only;have hm:(lo+hi)/2<xs.toList.length:=by omega
   have he:xs.getD ((lo+hi)/2) j=xs.toList.getD ((lo+hi)/2) 0:=by
    rw[getD_list];simp[aga,afV hm]
   rw[he]
   by_cases hc:xs.toList.getD ((lo+hi)/2) 0<j
   ·rw[if_pos hc];refine Fy h fuel _ _ (by omega) h2 (by omega) (λi hi'=>?_) h5
    by_cases hq:i=(lo+hi)/2
    ·rw[hq];exact hc
    ·exact ai6 (uQ h (show i<(lo+hi)/2 by omega) hm) hc
   ·rw[if_neg hc];refine Fy h fuel _ _ (by omega) (by omega) (by omega) h4 (λi hi' hl'=>?_)
    by_cases hq:i=(lo+hi)/2
    ·rw[hq];omega
    ·exact agg (by omega) (ag4 (uQ h (show(lo+hi)/2<i by omega) hl'))
  ·rw[if_neg hl];exact⟨by omega,h4,λi hi'=>h5 i (by omega)⟩
theorem Au{xs:Array Nat}(h:Up xs.toList) (j:Nat):Parts xs.toList j (SetTable.below xs j):=by
 unfold SetTable.below;exact Fy h _ _ _ (agR _) (by simp) (by simp) (λi hi=>absurd hi (ai7 _)) (λi h1 h2=>by simp at h2;omega)
theorem acT{xs:Array Nat}(h:Up xs.toList):SetTable.below xs 0=0:=by
 obtain⟨_,h2,_⟩:=Au h 0
 rcases aka (SetTable.below xs 0)with e|e
 ·exact e
 ·exact absurd (h2 0 e) (ai7 _)
theorem acU{xs:Array Nat}(h:Up xs.toList) {i:Nat}(hi:i<xs.toList.length):SetTable.below xs (xs.toList.getD i 0+1)=i+1:=by
 obtain⟨h1,h2,h3⟩:=Au h (xs.toList.getD i 0+1)
 rcases ai8 (SetTable.below xs (xs.toList.getD i 0+1)) (i+1)with e|e|e
 ·have:=h3 i (by omega) hi;omega
 ·exact e
 ·have a:=h2 (i+1) e;have b:=uQ h (show i<i+1 by omega) (show i+1<xs.toList.length by omega)
  omega
theorem acV{xs:Array Nat}(h:Up xs.toList) {j:Nat}(hj:j∈xs.toList):xs[SetTable.below xs j]? = ζ j:=by
 obtain⟨i,hi,e⟩:=ai9 hj;obtain⟨h1,h2,h3⟩:=Au h j;have e':xs.toList.getD i 0=j:=by rw[aga,afV hi];exact e
 have hp:SetTable.below xs j=i:=by
  rcases ai8 (SetTable.below xs j) i with q|q|q
  ·have a:=h3 (SetTable.below xs j) (afQ _) (by omega)
   have b:=uQ h q hi;omega
  ·exact q
  ·have a:=h2 i q;omega
 rw[hp,<-ahf,afV hi,e]
theorem PB{xs:Array Nat}(h:Up xs.toList) {j:Nat}(hj:j∉xs.toList):Up (SetTable.insertAt xs (SetTable.below xs j) j).toList:=by
 rw[SetTable.toList_insertAt];obtain⟨h1,h2,h3⟩:=Au h j
 generalize SetTable.below xs j=p at h1 h2 h3
 have ht:∀a∈xs.toList.take p,a<j:=by
  intro a ha;obtain⟨i,hi,e⟩:=ai9 ha;have hi':i<p/\i<xs.toList.length:=by simp at hi ⊢;omega
  have:=h2 i hi'.1;rw[ai2]at e;rw[aga,afV hi'.2]at this
  simpa[<-e]using this
 have hd:∀a∈xs.toList.drop p,j<a:=by
  intro a ha;have hm:a∈xs.toList:=akb ha;obtain⟨i,hi,e⟩:=ai9 ha;have hi':p+i<xs.toList.length:=by simp at hi ⊢;omega
  have:=h3 (p+i) (by omega) hi'
  rw[List.getElem_drop]at e;rw[aga,afV hi']at this;have hle:j<=a:=by simpa[<-e]using this
  exact Nat.lt_of_le_of_ne hle λq=>hj (q▸hm)
 refine List.pairwise_append.mpr ⟨h.sublist (aiR _ _),ahj.mpr ⟨hd,h.sublist (List.drop_sublist _ _)⟩,λa ha b hb=>?_⟩
 rcases afT.mp hb with rfl|hb
 ·exact ht a ha
 ·exact ai6 (ht a ha) (hd b hb)
theorem JC:∀(n:Nat) (l:List Nat),(∀j,j<n->j∈l)->n<=l.length
 |0,_,_=>agR _
 |n+1,l,h=>by
  have hn:=h n (agY _);have:=JC n (l.erase n) λj hj=>(aja (by omega)).mpr (h j (by omega))
  rw[ajb hn]at this;have:=aiu hn;omega
def ja(mask:Nat):Nat->Nat->Nat->Nat->Nat->Nat->Bool
 |0,_,_,_,_,_=>Θ
 |n+1,j,more,i,q,acc =>
  if acc |||(1 <<< j)=2^(mask+1)-1 then Δ
  else if more>0 then ja mask n (j+1) (more-1) i q (acc |||(1 <<< j))
  else ja mask n ((i*5+1+q/32) % (mask+1)) (SetTable.runEnd mask ((i*5+1+q/32) % (mask+1))-(i*5+1+q/32) % (mask+1)) ((i*5+1+q/32) % (mask+1)) (q/32) (acc |||(1 <<< j))
def An(mask:Nat):Bool:=(θ 128).all λh=>ja mask (10*(mask+15)) (h % (mask+1)) (SetTable.runEnd mask (h % (mask+1))-h % (mask+1)) (h % (mask+1)) h 0
def oX(mask:Nat):Nat->Nat->Nat->Nat->Bool
 |0,_,_,_=>Θ
 |n+1,i,q,acc =>
  if acc |||((2^(SetTable.runEnd mask i+1-i)-1) <<< i)=2^(mask+1)-1 then Δ
  else oX mask n ((i*5+1+q/32) % (mask+1)) (q/32) (acc |||((2^(SetTable.runEnd mask i+1-i)-1) <<< i))
def Fc(mask:Nat):Bool:=(θ 128).all λh=>oX mask (mask+15) (h % (mask+1)) h 0
theorem ab2:An 7=Δ:=by decide +kernel
theorem ab3:An 31=Δ:=by decide +kernel
theorem ab4:An 127=Δ:=by decide +kernel
theorem ab0:Fc 31=Δ:=by decide +kernel
theorem ab1:Fc 127=Δ:=by decide +kernel
theorem Fw(acc j k:Nat):(acc |||(1 <<< j)).testBit k=(acc.testBit k||decide (k=j)):=by
 rw[Nat.testBit_or,Nat.one_shiftLeft,Nat.testBit_two_pow]
 by_cases h:j=k
 ·subst h;simp
 ·simp[h,agx h]
theorem Am{mask:Nat}:∀n j more i q acc,ja mask n j more i q acc=Δ->∀k,acc.testBit k=Δ->k<=mask
 |0,_,_,_,_,_,h,_,_=>by cases h
 |n+1,j,more,i,q,acc,h,k,hk=>by
  have hk':(acc |||(1 <<< j)).testBit k=Δ:=by rw[Fw,hk];rfl
  unfold ja at h;split at h
  ·rename_i e;rw[e,ah0]at hk';have:=of_decide_eq_true hk';omega
  ·split at h
   ·exact Am _ _ _ _ _ _ h k hk'
   ·exact Am _ _ _ _ _ _ h k hk'
theorem II{t:aac}(hd:t.dummies=#[]) (j:Nat):t.slot j=.empty\/∃i,t.slot j=.live i:=by
 unfold SetTable.slot;dsimp only;split
 ·exact .inr ⟨_,rfl⟩
 ·rw[hd];exact .inl rfl
theorem ES{t:aac}{h:Int}(hd:t.dummies=#[]):∀n (p:SetTable.Probe) acc fuel,ja t.mask n p.j p.more p.i p.perturb acc=Δ->p.dummy=η->n<=fuel ->
  (∀k,acc.testBit k=Δ->t.slot k≠.empty)->(∃j,j<=t.mask/\t.slot j=.empty) ->
  ∃j,SetTable.probe.go t (λ_=>h+1) h fuel p=ζ (.empty j η)/\t.slot j=.empty/\j<=t.mask
 |0,_,_,_,h,_,_,_,_=>by simp[ja]at h
 |n+1,p,acc,0,_,_,h,_,_=>by omega
 |n+1,p,acc,fuel+1,hc,hn,hf,ha,hj=>by
  have hle:p.j<=t.mask:=by
   have hk':(acc |||(1 <<< p.j)).testBit p.j=Δ:=by rw[Fw];simp
   unfold ja at hc;split at hc
   ·rename_i e;rw[e,ah0]at hk';have:=of_decide_eq_true hk';omega
   ·split at hc
    ·exact Am _ _ _ _ _ _ hc _ hk'
    ·exact Am _ _ _ _ _ _ hc _ hk'
  unfold SetTable.probe.go
  rcases II hd p.j with e|⟨i,e⟩
  ·rw[e];dsimp only;exact⟨p.j,by rw[hn],e,hle⟩
  ·rw[e];dsimp only;have hne:(h+1==h)=Θ:=by simp;omega
   rw[hne];simp only[agU,if_false];have ha':∀k,(acc |||(1 <<< p.j)).testBit k=Δ->t.slot k≠.empty:=by
    intro k hk;rw[Fw,ahp,decide_eq_true_eq]at hk
    rcases hk with hk|rfl
    ·exact ha k hk
    ·rw[e];intro q;cases q
   unfold ja at hc;split at hc
   ·rename_i ef;obtain⟨j0,h0,e0⟩:=hj;exact absurd e0 (ha' j0 (by rw[ef,ah0];exact decide_eq_true (by omega)))
   ·split at hc
    ·rename_i hm;have EL:t.advance p={p with j:=p.j+1,more:=p.more-1}:=by unfold SetTable.advance;rw[if_pos hm]
     rw[EL];exact ES hd n _ _ fuel hc hn (by omega) ha' hj
    ·rename_i hm;have EL:t.advance p={p with j:=(p.i*5+1+p.perturb/32) % (t.mask+1),more:=SetTable.runEnd t.mask ((p.i*5+1+p.perturb/32) % (t.mask+1))-(p.i*5+1+p.perturb/32) % (t.mask+1),i:=(p.i*5+1+p.perturb/32) % (t.mask+1),perturb:=p.perturb/32}:=by
      unfold SetTable.advance;rw[if_neg hm];rfl
     rw[EL];exact ES hd n _ _ fuel hc hn (by omega) ha' hj
theorem N4{n:Nat}(h:n<128):SetTable.bits (n:Int)=n:=by
 unfold SetTable.bits;have:((n:Int) % (2^64:Int))=n:=akc (by omega) (by omega)
 rw[this];rfl
def p7(m:Nat):Prop:=m=7\/m=31\/m=127
theorem abY{m:Nat}(h:p7 m) {n:Nat}(hn:n<128):ja m (10*(m+15)) (n % (m+1)) (SetTable.runEnd m (n % (m+1))-n % (m+1)) (n % (m+1)) n 0=Δ:=by
 have:An m=Δ:=h.elim (λe=>e▸ab2) λh=>h.elim (λe=>e▸ab3) λe=>e▸ab4
 exact afX.mp this n (afR.mpr hn)
theorem aa0{t:aac}{n:Nat}(hd:t.dummies=#[]) (hm:p7 t.mask) (hn:n<128) (hs:t.place.toList.length<=t.mask) (hu:Up t.place.toList) :
  ∃j,t.freeSlot (n:Int)=ζ (j,Θ)/\j∉t.place.toList/\j<=t.mask:=by
 have hmem:∀j,t.slot j=.empty->j∉t.place.toList:=by
  intro j e hj;unfold SetTable.slot at e;dsimp only at e;rw[acV hu hj]at e;simp at e
 have aai:∀j,j∉t.place.toList->t.slot j=.empty:=by
  intro j hj
  rcases II hd j with e|⟨i,e⟩
  ·exact e
  ·unfold SetTable.slot at e;dsimp only at e;split at e
   ·rename_i q;have:=eq_of_beq q;rw[<-ahf]at this;exact absurd (agn this) hj
   ·split at e<;>cases e
 have hex:∃j,j<=t.mask/\t.slot j=.empty:=by
  by_cases q:∃j,j<=t.mask/\j∉t.place.toList
  ·obtain⟨j,a,b⟩:=q;exact⟨j,a,aai j b⟩
  ·have:=JC (t.mask+1) t.place.toList λj hj=>ajc λx=>q ⟨j,by omega,x⟩
   omega
 have hb:=N4 hn;obtain⟨j,e,e1,e2⟩:=ES (t:=t) (h:=(n:Int)) hd (10*(t.mask+15)) (t.probeStart n) 0 (10*SetTable.turns t.mask)
  (by show ja _ _ (SetTable.bits n % _) (SetTable.runEnd t.mask (SetTable.bits n % (t.mask+1))-SetTable.bits n % (t.mask+1)) (SetTable.bits n % _) (SetTable.bits n) _=Δ;rw[hb];exact abY hm hn) rfl (afQ _) (λk hk=>by simp at hk) hex
 refine⟨j,?_,hmem j e1,e2⟩;unfold SetTable.freeSlot SetTable.probe;rw[e];rfl
theorem SW(c i k:Nat):((2^c-1) <<< i).testBit k=decide (i<=k/\k<i+c):=by
 rw[Nat.testBit_shiftLeft,ah0]
 by_cases h:i<=k
 ·simp only[ge_iff_le,h,decide_true,Bool.true_and,true_and];exact decide_eq_decide.mpr (by omega)
 ·simp[h]
theorem Lq{mask:Nat}{owner:Array (Option Nat)}:∀n i q acc fuel,oX mask n i q acc=Δ->n<=fuel->(∀k,k<=mask->acc.testBit k=Δ->owner.getD k (ζ 0)≠η) ->
  (∃j,j<=mask/\owner.getD j (ζ 0)=η)->∃j,SetTable.layClean.free mask owner fuel i q=ζ j/\owner.getD j (ζ 0)=η
 |0,_,_,_,_,h,_,_,_=>by simp[oX]at h
 |n+1,i,q,acc,0,_,h,_,_=>by omega
 |n+1,i,q,acc,fuel+1,hc,hf,ha,hj=>by
  unfold SetTable.layClean.free;cases hr:(θ (SetTable.runEnd mask i+1-i)).find? (λk=>(owner.getD (i+k) (ζ 0)).isNone)with
  |some k =>
   dsimp only;have:=List.find?_some hr;exact⟨i+k,rfl,by simpa using this⟩
  |none =>
   dsimp only;have hno:=ajd.mp hr;have ha':∀k,k<=mask->(acc |||((2^(SetTable.runEnd mask i+1-i)-1) <<< i)).testBit k=Δ->owner.getD k (ζ 0)≠η:=by
    intro k hk hb;rw[Nat.testBit_or,SW,ahp,decide_eq_true_eq]at hb
    rcases hb with hb|hb
    ·exact ha k hk hb
    ·intro e;have:=hno (k-i) (afR.mpr (by omega))
     rw[show i+(k-i)=k by omega,e]at this
     exact this rfl
   unfold oX at hc;split at hc
   ·rename_i ef;obtain⟨j0,h0,e0⟩:=hj;exact absurd e0 (ha' j0 h0 (by rw[ef,ah0];exact decide_eq_true (by omega)))
   ·exact Lq n _ _ _ fuel hc (by omega) ha' hj
def pZ(m:Nat):Prop:=m=31\/m=127
theorem abZ{m:Nat}(h:pZ m) {n:Nat}(hn:n<128):oX m (m+15) (n % (m+1)) n 0=Δ:=by
 have:Fc m=Δ:=h.elim (λe=>e▸ab0) λe=>e▸ab1
 exact afX.mp this n (afR.mpr hn)
theorem M1:∀(l:List (Option Nat)) (j k:Nat),j<l.length->l.getD j (ζ 0)=η->((l.set j (ζ k)).filterMap id).Perm (k::l.filterMap id)
 |[],_,_,h,_=>absurd h (ai7 _)
 |x::l,0,k,_,e=>by
  have:x=η:=by simpa using e
  subst this;simp
 |x::l,j+1,k,h,e=>by
  have ih:=M1 l j k (by simpa using h) (by simpa using e)
  rw[agQ];cases x with
  |none=>simpa using ih
  |some a =>
   simp only[aic,id];exact(ih.cons a).trans (List.Perm.swap _ _ _)
theorem M3:∀(l:List (Option Nat)),(∀j,j<l.length->l.getD j (ζ 0)≠η)->(l.filterMap id).length=l.length
 |[],_=>rfl
 |x::l,h=>by
  cases x with
  |none=>exact absurd rfl (h 0 (by simp))
  |some a =>
   have:=M3 l λj hj=>by simpa using h (j+1) (by simpa using hj)
   simp[this]
def uI(mask:Nat) (owner:Array (Option Nat)) (k:Nat):Prop:=owner.toList.length=mask+1/\(owner.toList.filterMap id).Perm (θ k)
theorem z6(xs:Array (Option Nat)) (i:Nat) (d:Option Nat):xs.getD i d=xs.toList.getD i d:=by
 simp[aj9,aga]
theorem YJ{mask:Nat}{owner:Array (Option Nat)}{k n:Nat}(hm:pZ mask) (hn:n<128) (I:uI mask owner k) (hk:k<=mask) :
  ∃j,SetTable.layClean.free mask owner (SetTable.turns mask) (SetTable.bits n % (mask+1)) (SetTable.bits n)=ζ j/\uI mask (owner.setIfInBounds j (ζ k)) (k+1):=by
 obtain⟨h1,h2⟩:=I;have hex:∃j,j<=mask/\owner.getD j (ζ 0)=η:=by
  by_cases q:∃j,j<=mask/\owner.getD j (ζ 0)=η
  ·exact q
  ·have:=M3 owner.toList λj hj e=>q ⟨j,by omega,by rw[z6];exact e⟩
   have h3:=h2.length_eq;rw[ag0]at h3;omega
 obtain⟨j,e,e1⟩:=Lq (mask+15) _ _ 0 (SetTable.turns mask) (abZ hm hn) (afQ _) (λk _ hb=>by simp at hb) hex
 refine⟨j,by rw[N4 hn];exact e,by simpa using h1,?_⟩
 rw[z6]at e1;have hj:j<owner.toList.length:=by
  rcases aje j owner.toList.length with q|q
  ·exact q
  ·rw[aga,ahi q]at e1;cases e1
 rw[Array.toList_setIfInBounds];refine(M1 _ j k hj e1).trans ?_;rw[agW];exact(h2.cons k).trans (akd k _).symm
theorem Lr{mask:Nat}(hm:pZ mask):∀(hs:List Int) (owner:Array (Option Nat)) (k:Nat),(∀h∈hs,∃n:Nat,h=n/\n<128)->uI mask owner k->k+hs.length<=mask ->
  ∃ow,hs.foldl (λacc h=>(do
   let(owner,k) <-acc
   let j <-SetTable.layClean.free mask owner (SetTable.turns mask) (SetTable.bits h % (mask+1)) (SetTable.bits h)
   pure (owner.setIfInBounds j (ζ k),k+1):Option (Array (Option Nat)×Nat))) (ζ (owner,k))=ζ (ow,k+hs.length)/\uI mask ow (k+hs.length)
 |[],owner,k,_,I,_=>⟨owner,rfl,I⟩
 |h::hs,owner,k,hh,I,hl=>by
  obtain⟨n,e,hn⟩:=hh h (.head _);subst e;simp only[af0]at hl;obtain⟨j,e,I'⟩:=YJ hm hn I (by omega)
  obtain⟨ow,e',G1⟩:=Lr hm hs _ (k+1) (λh x=>hh h (.tail _ x)) I' (by omega)
  refine⟨ow,?_,by rw[af0,show k+(hs.length+1)=k+1+hs.length by omega];exact G1⟩
  rw[ahP,af0,show k+(hs.length+1)=k+1+hs.length by omega,<-e']
  congr 1
  show(do let j <-SetTable.layClean.free mask owner (SetTable.turns mask) (SetTable.bits n % (mask+1)) (SetTable.bits n);pure (owner.setIfInBounds j (ζ k),k+1):Option (Array (Option Nat)×Nat))=_
  rw[e];rfl
theorem YL{mask:Nat}(hm:pZ mask) (hs:Array Int) (hh:∀h∈hs.toList,∃n:Nat,h=n/\n<128) (hl:hs.toList.length<=mask) :
  ∃ow,SetTable.layClean mask hs=ζ ow/\uI mask ow hs.toList.length:=by
 obtain⟨ow,e,I⟩:=Lr hm hs.toList (Array.replicate (mask+1) η) 0 hh ⟨by simp,by simp⟩ (by omega)
 rw[age]at e I;refine⟨ow,?_,I⟩;unfold SetTable.layClean;rw[<-Array.foldl_toList];exact congrArg (Option.map (λx:Array (Option Nat)×Nat=>x.1)) e
theorem Jo(l:List (Option Nat)):(θ l.length).filterMap (λj=>l.getD j η)=l.filterMap id:=by
 have:l=(θ l.length).map (λj=>l.getD j η):=by
  apply aiv
  ·simp
  ·intro i h1 h2;simp[aga,afV h1]
 conv=>rhs;rw[this]
 rw[List.filterMap_map];rfl
theorem YY{mask:Nat}(hm:pZ mask) (f mv:Nat) (led plain:Bool) (hs:Array Int) (hh:∀h∈hs.toList,∃n:Nat,h=n/\n<128) (hl:hs.toList.length<=mask) :
  ∃place order,SetTable.laid mask f mv led plain hs=ζ ({mask:=mask,place:=place,dummies:=#[],finger:=f,led:=led,moves:=mv,plain:=plain},order)/\Up place.toList/\(∀j∈place.toList,j<=mask)/\place.size=hs.size/\order.toList.Perm (θ hs.size):=by
 obtain⟨ow,e,h1,h2⟩:=YL hm hs hh hl;refine⟨(((θ (mask+1)).filterMap λj=>(ow.getD j η).map (j,·)).map (·.1)).toArray,(((θ (mask+1)).filterMap λj=>(ow.getD j η).map (j,·)).map (·.2)).toArray,?_,?_,?_,?_,?_⟩
 ·unfold SetTable.laid;rw[e];rfl
 ·show Up ((((θ (mask+1)).filterMap λj=>(ow.getD j η).map (j,·)).map (·.1)).toArray).toList
  show List.Pairwise _ _;rw[ah1];refine List.Pairwise.filterMap _ (λa a' hlt b hb b' hb'=>?_) aiw
  cases ha:ow.getD a η<;>rw[ha]at hb<;>simp at hb
  cases ha':ow.getD a' η<;>rw[ha']at hb'<;>simp at hb'
  rw[<-hb,<-hb'];exact hlt
 ·intro j hj;simp only[afW,ahw,afR]at hj;obtain⟨⟨a,b⟩,⟨c,hc,hq⟩,rfl⟩:=hj;cases ha:ow.getD c η<;>rw[ha]at hq<;>simp at hq
  obtain⟨rfl,_⟩:=hq;omega
 ·have:((θ (mask+1)).filterMap λj=>(ow.getD j η).map (j,·)).length=(ow.toList.filterMap id).length:=by
   rw[<-Jo,h1,<-afY (f:=Prod.snd),ake]
   congr 1
   congr 1
   funext j
   rw[z6];cases ow.toList.getD j η<;>rfl
  rw[af4,afY,this,h2.length_eq,ag0];simp
 ·show(((θ (mask+1)).filterMap λj=>(ow.getD j η).map (j,·)).map (·.2)).Perm _
  have:(((θ (mask+1)).filterMap λj=>(ow.getD j η).map (j,·)).map (·.2))=ow.toList.filterMap id:=by
   rw[<-Jo,h1,ake]
   congr 1
   funext j
   rw[z6];cases ow.toList.getD j η<;>rfl
  rw[this]
  simpa using h2
structure pq (t:aac) (n:Nat):Prop where
 size:t.place.size=n
 up:Up t.place.toList
 le:∀j∈t.place.toList,j<=t.mask
 dm:t.dummies=#[]
 mask:(t.mask=7/\n<=4)\/(t.mask=31/\n<=18)\/(t.mask=127/\n<=76)
 plain:t.plain=Δ
theorem pq.fits{t:aac}{n:Nat}(h:pq t n):t.fits n=Δ:=by
 have:=h.mask;simp only[SetTable.fits,SetTable.fill,h.size,h.dm,af1,beq_self_eq_true,true_and,decide_eq_true_eq];simp only[af4,agj];omega
theorem Qp(led:Bool):pq (.fresh 0 0 led) 0:=⟨rfl,.nil,λj h=>by simp[SetTable.fresh]at h,rfl,.inl ⟨rfl,by omega⟩,rfl⟩
def HS(es:List (Int×Γ)):Prop:=∀e∈es,∃n:Nat,e.1=n/\n<128
theorem YK{t:aac}{es:Array (Int×Γ)}{x:Γ}{m:Nat}(I:pq t es.size) (hm:m<128) (hn:es.size<64) :
  ∃es1 t1,layNew t es (m:Int) x=(es1,t1,Θ,Θ)/\es1.size=es.size+1/\t1.led=t.led/\t1.plain=Δ/\t1.place.size=es1.size/\Up t1.place.toList/\(∀j∈t1.place.toList,j<=t1.mask)/\t1.dummies=#[]/\t1.mask=t.mask/\t1.fits es1.size=Δ:=by
 have hk:=I.mask;have hok:p7 t.mask:=by unfold p7;omega
 have hsz:=I.size;obtain⟨j,e,h1,h2⟩:=aa0 (t:=t) I.dm hok hm (by simp[hsz];omega) I.up
 have hnd:(if SetTable.has t.dummies j then SetTable.eraseAt t.dummies (SetTable.below t.dummies j)else t.dummies)=#[]:=by
  rw[I.dm];rfl
 have hs1:(SetTable.insertAt es (SetTable.below t.place j) ((m:Int),x)).size=es.size+1:=by
  rw[<-ago,(ajf ..).length_eq];simp
 have hs2:(SetTable.insertAt t.place (SetTable.below t.place j) j).size=es.size+1:=by
  rw[<-ago,(ajf ..).length_eq];simp[hsz]
 have hfit:(t.put j).1.fits (es.size+1)=Δ:=by
  simp only[SetTable.put,SetTable.fits,SetTable.fill,hnd,hs2,af1,beq_self_eq_true,true_and,decide_eq_true_eq];simp only[af4,agj];omega
 refine⟨SetTable.insertAt es (SetTable.below t.place j) ((m:Int),x),(t.put j).1,?_,hs1,rfl,I.plain,?_,?_,?_,hnd,rfl,?_⟩
 ·unfold layNew;rw[e];dsimp only;have hp:(t.put j).2=SetTable.below t.place j:=rfl;rw[hp,hs1];unfold SetTable.orStandIn;rw[hfit];rfl
 ·rw[hs1];exact hs2
 ·exact PB I.up h1
 ·intro k hk';have:k∈(t.place.push j).toList:=(ajf t.place (SetTable.below t.place j) j).mem_iff.mp hk';rw[ajg,agC,agu]at this
  rcases this with q|rfl
  ·exact I.le k q
  ·exact h2
 ·rw[hs1];exact hfit
theorem Tt{t:aac}{es:Array (Int×Γ)}(hp:t.plain=Δ) (hh:HS es.toList) (hm:(t.mask=7/\es.size=5)\/(t.mask=31/\es.size=19)) :
  ∃wN t2,relayAll t es (SetTable.grown es.size)=(wN,t2,Θ)/\wN.size=es.size/\pq t2 wN.size/\t2.led=t.led:=by
 have hw:∃m,SetTable.sizeAbove (SetTable.grown es.size)-1=m/\((m=31/\es.size=5)\/(m=127/\es.size=19)):=by
  rcases hm with⟨_,e⟩|⟨_,e⟩
  ·rw[e];exact⟨31,by decide,.inl ⟨rfl,rfl⟩⟩
  ·rw[e];exact⟨127,by decide,.inr ⟨rfl,rfl⟩⟩
 obtain⟨m,ew,hq⟩:=hw;have hs:(es.map (·.1)).toList=es.toList.map (·.1):=by simp
 obtain⟨place,order,e,u1,u2,u3,u4⟩:=YY (mask:=m) (by unfold pZ;omega) t.finger (t.movedTo m) t.led t.plain (es.map (·.1)) (λh hx=>by
  rw[hs,afW]at hx;obtain⟨y,hy,rfl⟩:=hx;exact hh y hy) (by rw[hs,afY,ago];omega)
 rw[Array.size_map]at u3 u4;have hes:(order.filterMap (es[·]?)).size=es.size:=by
  rw[<-ago,Array.toList_filterMap];exact((u4.filterMap _).trans (by rw[filterMap_getElem?_range])).length_eq
 have hfit:SetTable.fits {mask:=m,place:=place,dummies:=#[],finger:=t.finger,led:=t.led,moves:=t.movedTo m,plain:=t.plain} es.size=Δ:=by
  simp only[SetTable.fits,SetTable.fill,u3,af1,beq_self_eq_true,true_and,decide_eq_true_eq];simp only[af4,agj];omega
 refine⟨order.filterMap (es[·]?),{mask:=m,place:=place,dummies:=#[],finger:=t.finger,led:=t.led,moves:=t.movedTo m,plain:=t.plain},?_,hes,?_,?_⟩
 rotate_left
 ·rw[hes];exact⟨u3,u1,u2,rfl,.inr (by show(m=31/\_)\/(m=127/\_);omega),hp⟩
 ·rfl
 ·unfold relayAll SetTable.relaid;rw[ew,e];dsimp only;rw[hes,hfit];have hc:coversAll order es.size=Δ:=by unfold coversAll;exact List.isPerm_iff.mpr u4
  rw[hc];rfl
theorem aaW{t t1:aac}{n:Nat}(I:pq t n) (hm:t1.mask=t.mask) (hs:t1.place.size=n+1) (hd:t1.dummies=#[]) (hn:n<64) :
  (t1.tooFull=Δ->(t1.mask=7/\n+1=5)\/(t1.mask=31/\n+1=19))/\(t1.tooFull=Θ->((t1.mask=7/\n+1<=4)\/(t1.mask=31/\n+1<=18)\/(t1.mask=127/\n+1<=76))):=by
 have hk:=I.mask;have hz:(#[]:Array Nat).size=0:=rfl;simp only[SetTable.tooFull,SetTable.fill,hs,hd,hm,hz,decide_eq_true_eq,decide_eq_false_iff_not];omega
theorem zW{n:Nat}(h:n<128):hashInt (n:Int)=n:=by
 have:((θ 128).all λn=>hashInt (n:Int)==(n:Int))=Δ:=by decide +kernel
 exact eq_of_beq (afX.mp this n (afR.mpr h))
def fT(w:χ):Bool:=w.params.followText "set-order"
def gB(ns:List Nat) (x:Nat):List Nat:=if x∈ns then ns else ns++[x]
def g6(l:List (Int×Γ)) (ns:List Nat):Prop:=(l.map (·.1)).Perm (ns.map λn:Nat=>(n:Int))/\∀e∈l,∃(n:Nat) (tk:Tok),e=((n:Int),.int n tk)/\n<128
def dW(w:χ) (h:υ) (a:Ξ) (ns:List Nat):Prop:=∃o es ep t,h.get? a=ζ o/\o.ExactSet/\o.data=.set es ep t/\pq t es.size/\t.led = !fT w/\g6 es.toList ns
theorem g6.hs{l:List (Int×Γ)}{ns:List Nat}(h:g6 l ns):HS l:=λe he=>by
 obtain⟨n,tk,rfl,hn⟩:=h.2 e he;exact⟨n,rfl,hn⟩
theorem g6.len{l:List (Int×Γ)}{ns:List Nat}(h:g6 l ns):l.length=ns.length:=by
 have:=h.1.length_eq;simpa using this
theorem g6.mem{l:List (Int×Γ)}{ns:List Nat}(h:g6 l ns) (n:Nat):n∈ns↔∃e∈l,e.1=(n:Int):=by
 constructor
 ·intro hn;have:(n:Int)∈l.map (·.1):=h.1.mem_iff.mpr (afW.mpr ⟨n,hn,rfl⟩);obtain⟨e,he,q⟩:=afW.mp this;exact⟨e,he,q⟩
 ·rintro ⟨e,he,q⟩
  have:(n:Int)∈ns.map (λn:Nat=>(n:Int)):=h.1.mem_iff.mp (afW.mpr ⟨e,he,q⟩)
  obtain⟨m,hm,r⟩:=afW.mp this;have:m=n:=by omega
  exact this▸hm
theorem g6.perm{l l':List (Int×Γ)}{ns:List Nat}(h:g6 l ns) (p:l'.Perm l):g6 l' ns:=⟨(p.map _).trans h.1,λe he=>h.2 e (p.mem_iff.mp he)⟩
theorem g6.push{l:List (Int×Γ)}{ns:List Nat}(h:g6 l ns) {m:Nat}(hm:m<128) (tk:Tok):g6 (l++[((m:Int),.int m tk)]) (ns++[m]):=by
 refine⟨?_,λe he=>?_⟩
 ·rw[agK,agK];exact h.1.append_right _
 ·rcases agC.mp he with he|he
  ·exact h.2 e he
  ·rw[agu]at he;exact⟨m,tk,he,hm⟩
section
variable {prog:π}{w:χ}{A:ω}{E:Γ->Ψ->Prop}{s:Ψ}
theorem g6.els{l:List (Int×Γ)}{ns:List Nat}(h:g6 l ns):ElemsOf (intKind prog w) l:=λe he=>by
 obtain⟨n,tk,rfl,hn⟩:=h.2 e he;exact⟨⟨n,by simp[intKind,Value.isInt],(zW hn).symm⟩,rfl⟩
theorem Js{h:υ}{a:Ξ}{o:Obj}{es es':Array (Int×Γ)}{ep:Nat}{t t':aac}(ho:h.get? a=ζ o) (hd:o.data=.set es ep t) :
  (h.update a (Obj.putSet es' t')).get? a=ζ {o with data:=.set es' (ep+1) t'}:=by
 have:=ahO (Obj.putSet es' t') ho (by rw[putSet_of es' t' hd];rfl)
 rwa[putSet_of es' t' hd]at this
theorem IQ{a:Ξ}{ns:List Nat}{m:Nat}{tk:Tok}{Q:Bool->Ψ->Prop}(hm:m<128) (hS:dW w s.heap a ns) (hn:ns.length<64)
  (h:∀b h',aar a s.heap h'->dW w h' a (gB ns m)->Q b {s with heap:=h'}):wpAny (model prog w) A (setAddHashed a (.int m tk) (hashInt m)) Q E s:=by
 obtain⟨o,es,ep,t,ho,hex,hd,hI,hl,hs⟩:=hS;have hsz:es.size=ns.length:=by rw[<-ago];exact hs.len
 have hel:ElemsOf (intKind prog w) es.toList:=hs.els;have hkey:(intKind prog w).is (m:Int) (.int m tk)=Δ:=by simp[intKind,Value.isInt]
 unfold setAddHashed setAddHashedIn;refine ag5 (afO (ahI ho hd hI.fits ?_));dsimp only;rw[byScan_of (knd:=intKind prog w) rfl (by unfold scanBound;omega) hel]
 simp only[↓reduceIte];unfold setAddByScan;refine afO (afO (aim (afO (wpAny_setScan_of (knd:=intKind prog w) hkey ho hd hI.fits hel ?_))));have hfind:∀e∈es.toList,(intKind prog w).is (m:Int) e.2=Δ->e.1=(m:Int):=λe he q=>by
  obtain⟨n,tk',rfl,_⟩:=hs.2 e he;obtain⟨t',q⟩:=aiM (show Value.isInt (m:Int) (.int (n:Int) tk')=Δ from q)
  injection q
 cases hr:es.toList.findIdx? (λe=>(intKind prog w).is (m:Int) e.2)with
 |some j =>
  dsimp only;obtain⟨hj,ZV,_⟩:=List.findIdx?_eq_some_iff_getElem.mp hr;have hmem:m∈ns:=(hs.mem m).mpr ⟨_,agi hj,hfind _ (agi hj) ZV⟩;refine afP (afP ?_);exact h Θ s.heap (Heap.SameBut.refl a s.heap) (by unfold gB;rw[if_pos hmem];exact⟨o,es,ep,t,ho,hex,hd,hI,hl,hs⟩)
 |none =>
  dsimp only;have hmem:m∉ns:=λhq=>by
   obtain⟨e,he,q⟩:=(hs.mem m).mp hq;have:=ajh.mp hr e he;obtain⟨n,tk',rfl,_⟩:=hs.2 e he;have e:n=m:=by dsimp only at q;omega
   subst e;simp[intKind,Value.isInt]at this
  have hst:gB ns m=ns++[m]:=by unfold gB;rw[if_neg hmem]
  rw[hst]at h;rw[zW hm];have nW:=layNew_perm t es (m:Int) (.int m tk);obtain⟨es1,t1,e1,q1,q2,q3,q4,q5,q6,q7,q8,q9⟩:=YK (x:=.int m tk) hI hm (by omega)
  rw[e1]at nW ⊢;dsimp only at nW ⊢;rw[ajg]at nW;have hs1:g6 es1.toList (ns++[m]):=(hs.push hm tk).perm nW;refine afO (afP ?_);rw[q3];simp only[↓reduceIte];refine afO ?_;rw[hashByValue_scannable 8 (x:=.int m tk) rfl];refine afP ?_;dsimp only[plainKind];simp only[↓reduceIte];refine afO (wpAny_storeSet_of ho hd ?_ (fits_of_scanBound (by unfold scanBound;omega)))
  have EB:=Js (es':=es1) (t':=t1) ho hd;have kU:=ahq s.heap a (Obj.putSet es1 t1);have hcs:=aaW hI q8 (q4.trans q1) q7 (by omega)
  cases hf:t1.tooFull with
  |false =>
   simp only[Bool.not_false,Bool.and_false,agU,↓reduceIte];refine afP (afP (h Δ _ kU ⟨_,es1,ep+1,t1,EB,hex,rfl,⟨q4,q5,q6,q7,?_,q3⟩,q2.trans hl,hs1⟩));rw[q1];exact hcs.2 hf
  |true =>
   simp only[Bool.not_false,Bool.and_self,↓reduceIte];have hp2:=relayAll_perm t1 es1 (SetTable.grown es1.size);obtain⟨wN,t2,e2,r1,r2,r3⟩:=Tt q3 hs1.hs (by rw[q1];exact hcs.1 hf)
   rw[e2]at hp2 ⊢;dsimp only at hp2 ⊢;refine afO (afP ?_);refine afO (wpAny_storeSet_of EB rfl ?_ (fits_of_scanBound (by unfold scanBound;omega)))
   exact afP (afP (h Δ _ (kU.trans (ahq _ a _)) ⟨_,wN,ep+1+1,t2,Js EB rfl,hex,rfl,r2,r3.trans (q2.trans hl),hs1.perm hp2⟩))
end
def eT(xs:List Nat):List Nat:=xs.foldl gB []
theorem aa9{xs:List Nat}{i:Nat}(h:i<xs.length):eT (xs.take (i+1))=gB (eT (xs.take i)) xs[i]:=by
 unfold eT;rw[ah2 h,aji];rfl
theorem MT:∀(xs ns:List Nat),ns.length<=(xs.foldl gB ns).length
 |[],ns=>afQ _
 |x::xs,ns=>by
  have:=MT xs (gB ns x);have h:ns.length<=(gB ns x).length:=by unfold gB;split<;>simp
  rw[ahP];omega
theorem aba(xs:List Nat) (i:Nat):(eT (xs.take i)).length<=(eT xs).length:=by
 have:eT xs=(xs.drop i).foldl gB (eT (xs.take i)):=by
  unfold eT;rw[<-aji,ajj]
 rw[this];exact MT _ _
theorem dW.at{w:χ}{h h':υ}{a:Ξ}{ns:List Nat}(x:dW w h a ns) (k:∀o,h.get? a=ζ o->h'.get? a=ζ o):dW w h' a ns :=
 let⟨o,es,ep,t,ho,r⟩:=x;⟨o,es,ep,t,k o ho,r⟩
section
variable {prog:π}{w:χ}{A:ω}{s:Ψ}{E:Γ->Ψ->Prop}
theorem IL{R:Result->Ψ->Prop}{I:Ξ}{fp wr:List Ξ}{G:Array GenState->Array GenState->Prop}{P:Nat->Γ->Prop}{St:Nat->Ψ->Prop}{xs:List Nat}
  (W:WalksS prog w A.in1 I fp wr G xs.length P St) (S:Ξ) (hSf:S∉fp) (hval:∀(i:Nat) v,(hi:i<xs.length)->P i v->∃t,v=Value.int (xs[i]:Nat) t) (hx:∀x∈xs,x<128) (h64:(eT xs).length<64) :
  ∀(k i:Nat) (s:Ψ),xs.length-i=k->i<=xs.length->St i s->dW w s.heap S (eT (xs.take i)) ->
   (∀s',Moved (S::wr) G s s'->dW w s'.heap S (eT xs)->R (.ok (.ret .none)) s') ->
   codeAny (model prog w) A (.builtin "set.update.loop" ⟨[.ref S,.ref I],[]⟩) R s:=by
 have Mx:S∉wr:=λh=>hSf (W.sub _ h)
 have hup:∀b∈wr,b∈S::wr:=λb hb=>.tail _ hb
 intro k
 induction k with
 |zero =>
  intro i s hk hi st hS hR;cases(show i=xs.length by omega)
  refine ah3 F.entry_set_update_loop ?_;rw[ajk ajl _];show wpAny _ A.in1 (pyNext (.ref I) >>= _) _ _ s;refine afO (W.done s _ _ st λs' hm=>?_)
  rw[agV]at hS;exact afP (hR s' (hm.mono hup) (hS.at λo e=>hm.heap S _ Mx e))
 |succ k ih =>
  intro i s hk hi st hS hR;have hlt:i<xs.length:=by omega
  refine ah3 F.entry_set_update_loop ?_;rw[ajk ajl _];show wpAny _ A.in1 (pyNext (.ref I) >>= _) _ _ s;refine afO (W.item i s _ _ hlt st λv s' hP st' hm=>?_)
  obtain⟨t,rfl⟩:=hval i v hlt hP;have hS':dW w s'.heap S (eT (xs.take i)):=hS.at λo e=>hm.heap S _ Mx e
  show wpAny _ A.in1 (holding [Value.int (xs[i]:Nat) t] (setAdd S (.int (xs[i]:Nat) t)) >>= _) _ _ s';refine afO (ag5 ?_);unfold setAdd;refine ag5 (afO ((intKind prog w).pyHash (k:=(xs[i]:Nat)) (by simp[intKind,Value.isInt]) ?_))
  have hl:(eT (xs.take i)).length<64:=ahb (aba xs i) h64;refine IQ (s:={s' with toks:=s'.toks+1}) (hx _ (agi hlt)) hS' hl λb h' kU kW=>?_
  rw[<-aa9 hlt]at kW;refine afP ⟨plainId_quiet ajl _,ih (i+1) _ (by omega) hlt (W.frame _ s' _ _ st' (ahz _) λb hb o e=>?_) kW λs'' Z7 aaw=>?_⟩
  ·rw[kU.2 b (λq:b=S=>hSf (q▸hb))];exact e
  ·refine hR s'' (Moved.trans W.gtrans ((hm.mono hup).then_heap (ahz _) λb o hb e=>?_) Z7) aaw
   rw[kU.2 b (λq:b=S=>hb (q▸.head _))];exact e
def eF(w:χ):Obj:={cls:=.type "set",dict:=η,data:=.set #[] 0 (.fresh 0 0 (!fT w))}
theorem E7(w:χ) {h:υ}{a:Ξ}(e:h.get? a=ζ (eF w)):dW w h a [] :=
 ⟨_,#[],0,_,e,⟨rfl,rfl,rfl⟩,rfl,Qp _,rfl,.refl _,λe he=>by cases he⟩
theorem IK(a:Γ) {Q₁:Γ->Ψ->Prop}(h:Q₁ (.ref s.heap.objs.size) {s with heap:=s.heap.push (eF w)}) :
  codeAny (model prog w) A (.call (.builtin "set.__new__") ⟨[.type "set",a],[]⟩) (wants Q₁ E) s:=by
 refine ajm (show wpAny _ A.in1 (do checkBuiltinCall "set.__new__" ⟨[.type "set",a],[]⟩;again (.builtin "set.__new__" ⟨[.type "set",a],[]⟩)) _ _ s from ?_)
 refine afO (ahT (PySem.F.newCall_set_1 a) (afP ⟨plainId_quiet akf _,ah3 PySem.F.entry_set_new ?_⟩));rw[ajk akf _];unfold Builtin.«set.__new__» Builtin.Frozenset.newClass;have hsub:=ah4;obtain⟨hp,g,d,tk,os⟩:=s;dsimp only;wp_walk;refine ahc (afP ?_);dsimp only;simp only[newObj];exact afO (wpAny_alloc (afP (afP h)))
set_option maxHeartbeats 3200000 in
theorem Se{l:Ξ}{items:Array Γ}{xs:List Nat}{Q:Γ->Ψ->Prop}(hh:A.handled=η) (hl:s.heap.IsList l items) (hi:aas items.toList (xs.map λn:Nat=>(n:Int))) (hx:∀x∈xs,x<128) (h64:(eT xs).length<64)
  (h:∀(h':υ) (tk:Nat),dW w h' s.heap.objs.size (eT xs)->(∀b o,b<s.heap.objs.size->s.heap.get? b=ζ o->h'.get? b=ζ o)->Q (.ref s.heap.objs.size) {s with heap:=h',toks:=tk}) :
  wpAny (model prog w) A (call (.type "set") [.ref l]) Q E s:=by
 obtain⟨c,tl,Z5⟩:=agA.mro;have hmade:=agA.made;have hsub:=agA.sub;refine ahL (ajm (show wpAny _ _ (callAny (.type "set") _) _ _ _ from ?_))
 refine afP ⟨Code.quiet_builtin _ (by decide +kernel),ah3 akg ?_⟩
 rw[Around.under_plain (akh "set" [.ref l] []) rfl];have h1:=agA.notType;have h2:=agA.canCreate;have hct:=aki (.ref l)
 repeat any_goals (first|assumption|wp_step)
 refine ag6 (IK (.ref l) (E:=E) (Q₁:=λobj s₁=>obj=.ref s.heap.objs.size/\s₁={s with heap:=s.heap.push (eF w)}) ⟨rfl,rfl⟩) λr s₁ hr=>?_
 cases r with
 |error e=>exact hr
 |ok fl =>
  cases fl with
  |ret obj =>
   obtain⟨rfl,rfl⟩:=hr;have hS:(s.heap.push (eF w)).get? s.heap.objs.size=ζ (eF w):=af3 _ rfl;have hT:aaG {s with heap:=s.heap.push (eF w)} (.ref s.heap.objs.size) "set":=⟨_,hS,rfl⟩
   have hli:=agA.init.lookup;have hbi:=agA.init.bind (.ref s.heap.objs.size)
   repeat any_goals (first|assumption|wp_step)
   refine ag6 (codeAny_call_builtin (R:=wants (λr s₂=>r=.none/\∃h' tk,s₂={s with heap:=h',toks:=tk}/\dW w h' s.heap.objs.size (eT xs) /\
     (∀b o,b<s.heap.objs.size->s.heap.get? b=ζ o->h'.get? b=ζ o)) E) agA.init.plain akj (check_set_init_1 hT ?_)) λr₂ s₂ qA=>?_
   ·obtain⟨ol,j6,hcl,nl,hdl⟩:=hl;obtain⟨Xq,DF,Xk,Dy⟩:=ol;simp only at hcl hdl;subst hcl;subst hdl;have wA:(s.heap.push (eF w)).get? l=ζ {cls:=.type "list",dict:=DF,data:=.seq items nl,slots:=Dy}:=afS _ j6;have ZN:=PySem.F.sub_list_set;have ZO:=PySem.F.sub_list_frozenset;have hne:(Value.type "list"==Value.type "dict")=Θ:=by decide
    have hl1:(s.heap.push (eF w)).IsList l items:=⟨_,wA,rfl,nl,rfl⟩;unfold eF at hS hT wA ⊢;unfold Builtin.«set.__init__» noKeywords Builtin.Frozenset.updateFrom
    generalize EN:pyIter=PI
    wp_walk
    subst EN;refine aif hl1 (afO (wpAny_runValue ?_));have hlS:l<s.heap.objs.size:=afU j6;have hlen:items.size=xs.length:=by have:=hi.length;simpa using this
    have EC:l≠(s.heap.push (eF w)).objs.size:=by rw[agt];exact afZ (ahB hlS)
    have hSf:s.heap.objs.size∉[(s.heap.push (eF w)).objs.size,l]:=by
     rw[agt];simp only[afT,af5,or_false,not_or];exact⟨afZ (agY _),agH hlS⟩
    have W:=(Walks.list (prog:=prog) (w:=w) (A:=A.in1.in1.in1) (by simp[hh]) (s.heap.push (eF w)).objs.size l EC items).toS
    rw[hlen]at W;refine IL (xs:=xs) W s.heap.objs.size hSf (λi v hi' hv=>?_) hx h64 xs.length 0 _ (by omega) (agR _) ⟨⟨_,af3 _ rfl,rfl,rfl⟩,hl1.push _⟩ (E7 w (afS _ hS)) λs' hm hS'=>?_
    ·obtain⟨t,e⟩:=IntsAre.int_at hi i v (by rw[ahf];exact hv)
     exact⟨t,by rw[e];simp[aga,afV hi']⟩
    ·obtain⟨h',g',d',tk',os'⟩:=s';cases(show g'=s.gens from hm.gens)
     cases(show d'=s.drawn from hm.drawn)
     cases(show os'=s.os from hm.os)
     refine afP (afP ⟨rfl,h',tk',rfl,hS',λb o hb e=>?_⟩)
     exact hm.heap b o (by rw[agt];simp only[afT,af5,or_false,not_or];exact⟨afZ hb,afZ (ahB hb)⟩) (afS _ (afS _ e))
   ·cases r₂ with
    |error e=>exact qA
    |ok EX =>
     cases EX with
     |ret r =>
      obtain⟨rfl,h',tk,rfl,hS',hk'⟩:=qA
      repeat any_goals (first|assumption|wp_step)
      exact h _ _ hS' hk'
     |_=>exact qA.elim
  |_=>exact hr.elim
end
theorem sD:Slot "set_iterator" "__next__" "set_iterator.__next__" :=
 .of (owner:="set_iterator") (n:="__next__") (by rw[typeLookup_type,akk];kernel_rfl) (by decide +kernel) (by decide +kernel)
  (by decide +kernel) (by first|exact .inl (by decide +kernel)|exact .inr (by decide +kernel)) (by rw[aix];kernel_rfl)
theorem Ik:Slot "set_iterator" "__iter__" "set_iterator.__iter__" :=
 .of (owner:="set_iterator") (n:="__iter__") (by rw[typeLookup_type,akk];kernel_rfl) (by decide +kernel) (by decide +kernel)
  (by decide +kernel) (by first|exact .inl (by decide +kernel)|exact .inr (by decide +kernel)) (by rw[aix];kernel_rfl)
theorem Im:entryFor table "set_iterator.__next__"=ζ Builtin.«set_iterator.__next__»:=entryFor_of_tree (by kernel_rfl)
theorem Ro:entryFor table "set_iterator.__iter__"=ζ Builtin.«dict_keyiterator.__iter__» :=
 ajn (id':="dict_keyiterator.__iter__") (by kernel_rfl) rfl (by decide +kernel) (by kernel_rfl)
theorem Rn:entryFor table "set.__iter__"=ζ Builtin.«frozenset.__iter__» :=
 ajn (id':="frozenset.__iter__") (by kernel_rfl) rfl (by decide +kernel) (by kernel_rfl)
theorem Il:Manifest.owners.lookup (String.ofList ['r','o','t','a','r','e','t','i','_','t','e','s'].reverse)=ζ Manifest.sig_set_iterator:=by kernel_rfl
theorem Io(a:Γ):argsOk "set_iterator.__next__" ⟨[a],[]⟩:=by
 unfold argsOk;rw[signature?_of (id:="set_iterator.__next__") (n:=['_','_','t','x','e','n','_','_']) (o:=['r','o','t','a','r','e','t','i','_','t','e','s']) (by kernel_rfl) Il];kernel_rfl
theorem Rr(a:Γ):argsOk "set_iterator.__iter__" ⟨[a],[]⟩:=by
 unfold argsOk;rw[signature?_of (id:="set_iterator.__iter__") (n:=['_','_','r','e','t','i','_','_']) (o:=['r','o','t','a','r','e','t','i','_','t','e','s']) (by kernel_rfl) Il];kernel_rfl
theorem Ae{α:Type}{l:List α}{i:Nat}(h:i<l.length):([l[i]]++l.eraseIdx i).Perm l:=by
 rw[aht];have e:l=l.take i++l[i]::l.drop (i+1):=by rw[<-ais h,ajj]
 conv=>rhs;rw[e]
 exact(akl (a:=l[i]) (l₁:=l.take i) (l₂:=l.drop (i+1))).symm
theorem JD{α:Type}(next:Nat->Nat):∀(fuel k:Nat) (left:List α) (out:Array α),fuel=left.length->(pickOrder.go next fuel k left out).toList.Perm (out.toList++left)
 |0,k,left,out,h=>by
  have:left=[]:=ajo.mp h.symm;subst this;unfold pickOrder.go;simp
 |fuel+1,k,left,out,h=>by
  unfold pickOrder.go;have hlt:next k % left.length<left.length:=ah5 _ (by omega)
  rw[afV hlt];dsimp only;refine(JD next fuel _ _ _ (by rw[akm hlt];omega)).trans ?_
  rw[ajg,agy];exact(Ae hlt).append_left _
def iD(w:χ) (a:Ξ) (ep:Nat) (es:Array (Int×Γ)):Array (Int×Γ):=if fT w then pickOrder (w.params.setOrder a ep) es else es
theorem vG(w:χ) (a:Ξ) (ep:Nat) (es:Array (Int×Γ)):(iD w a ep es).toList.Perm es.toList:=by
 unfold iD;split
 ·unfold pickOrder
  simpa using JD (w.params.setOrder a ep) es.size 0 es.toList #[] (by simp)
 ·exact .rfl
def jg(b:Bool) (place:Array Nat):Nat->Nat
 |0=>0
 |i+1=>if b then 0 else place.toList.getD i 0+1
def lB(h:υ) (it a:Ξ) (sl i n ep:Nat):Prop:=∃o,h.get? it=ζ o/\o.cls=.type "set_iterator"/\o.data=.fields #[.int sl 0,.int i 0,.ref a,.int n 0,.int ep 0]
theorem lB.typeIs{s:Ψ}{it a:Ξ}{sl i n ep:Nat}(h:lB s.heap it a sl i n ep):s.TypeIs (.ref it) "set_iterator":=let⟨o,ho,hc,_⟩:=h;⟨o,ho,hc⟩
theorem lB.at{h h':υ}{it a:Ξ}{sl i n ep:Nat}(x:lB h it a sl i n ep) (k:∀o,h.get? it=ζ o->h'.get? it=ζ o):lB h' it a sl i n ep:=let⟨o,ho,r⟩:=x;⟨o,k o ho,r⟩
def g7(w:χ) (h:υ) (a:Ξ) (es:Array (Int×Γ)) (ep:Nat) (t:aac):Prop:=∃o,h.get? a=ζ o/\o.ExactSet/\o.data=.set es ep t/\pq t es.size/\t.led = !fT w
theorem g7.at{w:χ}{h h':υ}{a:Ξ}{es:Array (Int×Γ)}{ep:Nat}{t:aac}(x:g7 w h a es ep t) (k:∀o,h.get? a=ζ o->h'.get? a=ζ o):g7 w h' a es ep t:=let⟨o,ho,r⟩:=x;⟨o,k o ho,r⟩
section
variable {prog:π}{w:χ}{A:ω}{E:Γ->Ψ->Prop}{s:Ψ}
theorem IJ{a:Ξ}{es:Array (Int×Γ)}{ep i:Nat}{t:aac}{Q:Option (Γ×Nat)->Ψ->Prop}(hS:g7 w s.heap a es ep t) (hi:i<=es.size)
  (h:Q ((iD w a ep es)[i]?.map λe=>(e.2,jg (fT w) t.place (i+1))) s):wpAny (model prog w) A (setNext a (jg (fT w) t.place i) i ep) Q E s:=by
 obtain⟨o,ho,hex,hd,hI,hl⟩:=hS;unfold setNext;refine afO (ahI ho hd hI.fits ?_);dsimp only;refine afO ?_;unfold setsByText;refine afO (ahc (afP ?_));show wpAny _ _ (if fT w=Δ then _ else _) _ _ _
 unfold iD at h;cases hb:fT w with
 |true =>
  rw[hb]at h;simp only[if_true,bne_self_eq_false,agU,if_false]at h ⊢;refine afO ?_;unfold setWalk;refine afO (ahI ho hd hI.fits ?_);dsimp only;refine afO ?_;unfold setsByText;refine afO (ahc (afP ?_));show wpAny _ _ (if fT w=Δ then _ else _) _ _ _
  rw[hb];simp only[if_true];refine afO (ahc (afP (afP ?_)));have e:jg Δ t.place (i+1)=jg Δ t.place i:=by cases i<;>rfl
  rw[e]at h;exact h
 |false =>
  rw[hb]at h hl;simp only[agU,if_false]at h ⊢;show wpAny _ _ (if(!t.plain&&decide (es.size>1))=Δ then _ else _) _ _ _
  rw[hI.plain];simp only[aiy,aiO,agU,if_false];refine afO (ahT (a:=()) ?_ ?_)
  ·show(if(!t.led && !es.isEmpty)=Δ then _ else _)=_
   rw[hl];rfl
  have hbl:SetTable.below t.place (jg Θ t.place i)=i:=by
   cases i with
   |zero=>exact acT hI.up
   |succ i=>exact acU hI.up (by rw[ago,hI.size];omega)
  rw[hbl];refine afP ?_
  rcases aje i es.size with hlt|hge
  ·have hp:i<t.place.size:=by rw[hI.size];exact hlt
   rw[ah6 hlt]at h ⊢;rw[ah6 hp];have e:jg Θ t.place (i+1)=t.place[i]+1:=by
    simp[jg,aga,afV (show i<t.place.toList.length by simpa using hp)]
   rw[e]at h;exact h
  ·rw[akn hge]at h ⊢;exact h
end
section
variable {prog:π}{w:χ}{A:ω}{E:Γ->Ψ->Prop}{s:Ψ}
theorem Zi{it a:Ξ}{es:Array (Int×Γ)}{ep i:Nat}{t:aac}{v:Int×Γ}{Q:Option Γ->Ψ->Prop}(hit:lB s.heap it a (jg (fT w) t.place i) i es.size ep) (hS:g7 w s.heap a es ep t) (hi:i<es.size)
  (hv:(iD w a ep es)[i]? = ζ v) (hQ:∀h',lB h' it a (jg (fT w) t.place (i+1)) (i+1) es.size ep->aar it s.heap h'->Q (ζ v.2) {s with heap:=h'}) :
  wpAny (model prog w) A (pyNext (.ref it)) Q E s:=by
 obtain⟨o,ho,hc,hd⟩:=id hit;obtain⟨oS,hoS,Mn,hdS,hI,hl⟩:=id hS;unfold pyNext;refine afO (aio (ahD (name:=Str.ofString "__next__") hit.typeIs sD (agZ sD hit.typeIs Im ?_ (Io _))));unfold Builtin.«set_iterator.__next__»;refine afO (afP ?_);refine afO (wpAny_fieldsOf ho hd ?_);dsimp only;refine afO (ah7 hoS hdS hI.fits ?_);rw[if_neg (by simp)]
 refine afO (IJ (ep:=ep) (i:=i) hS (ag4 hi) ?_);rw[hv];dsimp only[Option.map];refine afO (ahS ho hd (by simp) ?_)
 have g1:=ahO (Obj.mapFields (·.setIfInBounds 0 (rawInt ((jg (fT w) t.place (i+1):Nat):Int)))) ho (aiX (ahE hd _));have d1:=ahE hd (·.setIfInBounds 0 (rawInt ((jg (fT w) t.place (i+1):Nat):Int)));refine afO (ahS g1 d1 (by simp) ?_)
 have g2:=ahO (Obj.mapFields (·.setIfInBounds 1 (rawInt ((i:Int)+1)))) g1 (aiX (ahE d1 _));have d2:=ahE d1 (·.setIfInBounds 1 (rawInt ((i:Int)+1)));refine afP ⟨_,rfl,afP (hQ _ ⟨_,g2,?_,?_⟩ ((ahq ..).trans (ahq ..)))⟩
 ·exact(aiY ..).trans ((aiY ..).trans hc)
 ·rw[d2];simp[rawInt]
theorem Zj{it a:Ξ}{es:Array (Int×Γ)}{ep:Nat}{t:aac}{Q:Option Γ->Ψ->Prop}(hh:A.handled=η) (hit:lB s.heap it a (jg (fT w) t.place es.size) es.size es.size ep) (hS:g7 w s.heap a es ep t)
  (hQ:∀h',Heap.ExtBut it s.heap h'->Q η {s with heap:=h'}):wpAny (model prog w) A (pyNext (.ref it)) Q E s:=by
 obtain⟨o,ho,hc,hd⟩:=id hit;obtain⟨oS,hoS,Mn,hdS,hI,hl⟩:=id hS;unfold pyNext;refine afO (aio (ahD (name:=Str.ofString "__next__") hit.typeIs sD (agZ sD hit.typeIs Im ?_ (Io _))));unfold Builtin.«set_iterator.__next__»;refine afO (afP ?_);refine afO (wpAny_fieldsOf ho hd ?_);dsimp only;refine afO (ah7 hoS hdS hI.fits ?_);rw[if_neg (by simp)]
 refine afO (IJ (ep:=ep) (i:=es.size) hS (afQ _) ?_);have hv:(iD w a ep es)[es.size]? = η:=by
  have:=(vG w a ep es).length_eq;rw[ago,ago]at this;exact akn (by omega)
 rw[hv];dsimp only[Option.map];refine afO (ahS ho hd (by simp) ?_)
 show wpAny _ _ (newExc (.type "StopIteration") [] >>= _) _ _ _;refine afO ?_;simp only[newExc,newTuple];refine afO (ahC ?_ (by size_fits))
 refine afO (m:=firstArgMember _ _) (ahT (a:=Value.none) (by first|rfl|(simp only[firstArgMember];rfl)) (ahC ?_ (by size_fits)))
 simp only[raiseNew];refine afO (wpAny_handled ?_);rw[show A.in1.handled=η from hh]
 refine afO (afP (wpAny_throw ?_));refine afO (ahG (b:=Δ) (T:="StopIteration") ⟨_,af3 _ rfl,rfl⟩ isSubtype_stop ?_);exact afP (hQ _ (((ahq ..).extBut.push _).push _))
theorem Zh{it a:Ξ}{sl i n ep:Nat}{Q:Γ->Ψ->Prop}(hit:lB s.heap it a sl i n ep) (h:Q (.ref it) s):wpAny (model prog w) A (pyIter (.ref it)) Q E s:=by
 refine wpAny_pyIter_slot hit.typeIs Ik (agZ Ik hit.typeIs Ro (show wpAny _ _ (ret (.ref it)) _ _ s from ?_) (Rr _))
 exact afP ⟨_,rfl,"set_iterator",_,hit.typeIs,sD.lookup,h⟩
theorem Sb(hh:A.handled=η) (I a:Ξ) (hne:a≠I) (es:Array (Int×Γ)) (ep:Nat) (t:aac) :
  Walks prog w A I [I,a] [I] es.size (λi v=>(iD w a ep es)[i]?.map (·.2)=ζ v) (λi h=>lB h I a (jg (fT w) t.place i) i es.size ep/\g7 w h a es ep t) where
 sub:=λb hb=>by simp at hb;simp[hb]
 frame:=λ_ _ _ st hk=>⟨st.1.at λo e=>hk I (by simp) o e,st.2.at λo e=>hk a (by simp) o e⟩
 item:=λi s Q E hi st hQ=>by
  have hl:=(vG w a ep es).length_eq;rw[ago,ago]at hl;have hv:(iD w a ep es)[i]? = ζ (iD w a ep es)[i]:=ah6 (by omega)
  refine Zi st.1 st.2 hi hv λh' wC hs'=>hQ _ h' s.toks (by rw[hv];rfl) ⟨wC,st.2.at λo e=>?_⟩ λb o hb e=>hs'.extBut b o (λh=>hb (by simp[h])) e
  exact hs'.extBut a o hne e
 done:=λs Q E st hQ=>Zj hh st.1 st.2 λh' he'=>hQ h' s.toks λb o hb e=>he' b o (λh=>hb (by simp[h])) e
 self:=λ_ _ _ _ st hQ=>Zh st.1 hQ
theorem g7.typeIs{a:Ξ}{es:Array (Int×Γ)}{ep:Nat}{t:aac}(h:g7 w s.heap a es ep t):s.TypeIs (.ref a) "set":=let⟨o,ho,hx,_⟩:=h;⟨o,ho,hx.1⟩
theorem Sf{a:Ξ}{es:Array (Int×Γ)}{ep:Nat}{t:aac}{Q:Γ->Ψ->Prop}(hS:g7 w s.heap a es ep t)
  (hQ:Q (.ref s.heap.objs.size) {s with heap:=s.heap.push {cls:=.type "set_iterator",data:=.fields #[.int 0 0,.int 0 0,.ref a,.int es.size 0,.int ep 0]} }):wpAny (model prog w) A (pyIter (.ref a)) Q E s:=by
 obtain⟨oS,hoS,Mn,hdS,hI,hl⟩:=id hS;refine wpAny_pyIter_slot hS.typeIs ako (agZ ako hS.typeIs Rn ?_ (PySem.F.args_set_iter_1 _));unfold Builtin.«frozenset.__iter__» Builtin.Frozenset.slot0;refine afO (afO (afP (afP ?_)));unfold Builtin.Frozenset.sizeOf;refine afO (afO (ah7 hoS hdS hI.fits (afP ?_)));refine afO ?_;unfold setDrawn;refine afO (ahI hoS hdS hI.fits ?_);dsimp only;refine afO ?_;unfold setsByText;refine afO (ahc (afP (afP ?_)));have e:(!fT w&&(!t.plain&&decide (es.size>1)))=Θ:=by rw[hI.plain];simp
 show wpAny _ _ (if(!fT w&&(!t.plain&&decide (es.size>1)))=Δ then _ else _) _ _ _
 rw[e];simp only[agU,if_false];refine afO (afP ?_);refine afO (ajp hoS hdS hI.fits ?_);refine afO ?_;refine ahC (afP ⟨_,rfl,"set_iterator",_,⟨_,af3 _ rfl,rfl⟩,sD.lookup,?_⟩);exact hQ
end
open PySem.W
def j4(x:Nat):List Nat->List Nat
 |[]=>[x]
 |y::l=>if x<y then x::y::l else if x=y then y::l else y::j4 x l
def cQ:List Nat->List Nat
 |[]=>[]
 |x::l=>j4 x (cQ l)
theorem D4{x y:Nat}:∀{l:List Nat},y∈j4 x l↔y=x\/y∈l
 |[]=>by simp[j4]
 |z::l=>by
  unfold j4;split
  ·simp
  ·split
   ·rename_i h;subst h;simp
   ·simp only[afT,D4 (l:=l)]
    constructor
    ·rintro (h|h|h)<;>simp[h]
    ·rintro (h|h|h)<;>simp[h]
theorem HE{x:Nat}:∀{l:List Nat},Up l->Up (j4 x l)
 |[],_=>by simp[j4]
 |z::l,h=>by
  obtain⟨h1,h2⟩:=ahj.mp h;unfold j4;split
  ·rename_i hx;exact ahj.mpr ⟨λb hb=>by
    rcases afT.mp hb with rfl|hb
    ·exact hx
    ·exact ai6 hx (h1 b hb),h⟩
  ·split
   ·exact h
   ·refine ahj.mpr ⟨λb hb=>?_,HE h2⟩
    rcases D4.mp hb with rfl|hb
    ·omega
    ·exact h1 b hb
theorem lG:∀l:List Nat,Up (cQ l)
 |[]=>.nil
 |x::l=>HE (lG l)
theorem lW{y:Nat}:∀{l:List Nat},y∈cQ l↔y∈l
 |[]=>by simp[cQ]
 |x::l=>by simp[cQ,D4,lW (l:=l)]
theorem up_eq:∀{l m:List Nat},Up l->Up m->(∀x,x∈l↔x∈m)->l=m
 |[],[],_,_,_=>rfl
 |[],y::m,_,_,h=>absurd ((h y).mpr (.head _)) (by simp)
 |x::l,[],_,_,h=>absurd ((h x).mp (.head _)) (by simp)
 |x::l,y::m,h1,h2,h=>by
  obtain⟨a1,a2⟩:=ahj.mp h1;obtain⟨b1,b2⟩:=ahj.mp h2;have e:x=y:=by
   rcases afT.mp ((h x).mp (.head _))with e|hx
   ·exact e
   ·rcases afT.mp ((h y).mpr (.head _))with e|hy
    ·exact e.symm
    ·have:=a1 y hy;have:=b1 x hx;omega
  subst e;rw[up_eq a2 b2 λz=>?_]
  constructor
  ·intro hz
   rcases afT.mp ((h z).mp (.tail _ hz))with e|q
   ·subst e;exact absurd (a1 z hz) (agB _)
   ·exact q
  ·intro hz
   rcases afT.mp ((h z).mpr (.tail _ hz))with e|q
   ·subst e;exact absurd (b1 z hz) (agB _)
   ·exact q
theorem K9{ns:List Nat}{x y:Nat}:y∈gB ns x↔y∈ns\/y=x:=by
 unfold gB;split
 ·rename_i h;exact⟨.inl,λq=>q.elim id λe=>e▸h⟩
 ·simp
theorem KY{ns:List Nat}{x:Nat}(h:ns.Nodup):(gB ns x).Nodup:=by
 unfold gB;split
 ·exact h
 ·rename_i hx;refine ahV.mpr ⟨h,by simp,λa ha b hb=>?_⟩
  rw[agu]at hb;subst hb;exact λe=>hx (e▸ha)
theorem vS:∀{xs ns:List Nat}{y:Nat},y∈xs.foldl gB ns↔y∈ns\/y∈xs
 |[],ns,y=>by simp
 |x::xs,ns,y=>by
  rw[ahP,vS,K9,afT,or_assoc]
theorem vM:∀{xs ns:List Nat},ns.Nodup->(xs.foldl gB ns).Nodup
 |[],_,h=>h
 |x::xs,_,h=>vM (xs:=xs) (KY h)
theorem RQ{xs:List Nat}{zs:List Int}(h1:zs.Perm ((eT xs).map λn:Nat=>(n:Int))) (h2:zs.Pairwise (·<=·)):zs=(cQ xs).map λn:Nat=>(n:Int):=by
 have hz:∀z∈zs,∃n:Nat,z=n:=λz hz=>by
  obtain⟨n,_,e⟩:=afW.mp (h1.mem_iff.mp hz);exact⟨n,e.symm⟩
 have e:zs=(zs.map Int.toNat).map λn:Nat=>(n:Int):=by
  rw[af7]
  conv=>lhs;rw[<-aiz zs]
  refine agp λz hq=>?_
  obtain⟨n,rfl⟩:=hz z hq;simp
 have hp:(zs.map Int.toNat).Perm (eT xs):=by
  have:=h1.map Int.toNat;rw[af7]at this;refine this.trans (akp ?_)
  conv=>rhs;rw[<-aiz (eT xs)]
  exact agp λn _=>by simp
 have hnd:(zs.map Int.toNat).Nodup:=hp.nodup_iff.mpr (vM .nil);have hup:Up (zs.map Int.toNat):=by
  have hle:(zs.map Int.toNat).Pairwise (·<=·):=by
   rw[ah1];exact h2.imp fun{a b} h=>by omega
  refine(hle.and hnd).imp fun{a b} h=>?_
  have h2:a≠b:=h.2;omega
 rw[e,up_eq hup (lG xs) λx=>by
  rw[hp.mem_iff,lW];unfold eT;rw[vS];simp]
theorem zw:∀{l:List Nat},Up l->l.Nodup:=fun{l} h=>h.imp fun{a b} h=>afZ h
theorem yr(xs:List Nat):(cQ xs).length=(eT xs).length:=by
 have hp:(cQ xs).Perm (eT xs):=by
  refine(akq (zw (lG xs)) (vM .nil)).mpr λx=>?_
  rw[lW,vS];simp
 exact hp.length_eq
theorem HF{l:List Nat}(h:Up l):∀i,i<l.length->i<=l.getD i 0
 |0,_=>agR _
 |i+1,hi=>by
  have a:=HF h i (by omega)
  have b:=uQ h (show i<i+1 by omega) hi
  omega
theorem BN{l:List Nat}(h:Up l) {m:Nat}(hm:∀x∈l,x<m):l.length<=m:=by
 rcases aka l.length with e|e
 ·omega
 ·have a:=HF h (l.length-1) (by omega)
  have hi:l.length-1<l.length:=by omega
  have b:l.getD (l.length-1) 0<m:=hm _ (by rw[aga,afV hi];exact agi hi)
  omega
theorem LW:∀{l:List (Int×Γ)},(∀e∈l,∃(n:Nat) (tk:Tok),e=((n:Int),.int n tk)/\n<128)->aas (l.map (·.2)) (l.map (·.1))
 |[],_=>.nil
 |e::l,h=>by
  obtain⟨n,tk,rfl,_⟩:=h e (.head _);exact .cons _ _ (LW λe he=>h e (.tail _ he))
section
variable {prog:π}{w:χ}{A:ω}{E:Γ->Ψ->Prop}{s:Ψ}
theorem aad{r:Ξ}{Q:Bool->Ψ->Prop}(hT:s.TypeIs (.ref r) "set") (h:Q Θ s):wpAny (model prog w) A (Builtin.List.listLengthHint (.ref r)) Q E s:=by
 unfold Builtin.List.listLengthHint;refine afO (wpAny_specialOf hT PySem.F.slot_set_len.lookup ?_)
 generalize hid:("set.__len__":String)=Zw
 wp_delta
 rw[show splitId Zw=ζ ("set","__len__")from by subst hid;decide +kernel]
 subst hid;refine afO (ahG (T:="set") (b:=Δ) hT ah4 ?_);refine wpAny_ite_split (λq=>absurd q (by decide)) λ_=>wpAny_ite_split (λ_=>?_) λq=>absurd (by decide +kernel) q
 exact afO (wpAny_typeOf hT (afP h))
theorem g7.lt{h:υ}{a:Ξ}{es:Array (Int×Γ)}{ep:Nat}{t:aac}(x:g7 w h a es ep t):a<h.objs.size:=let⟨_,ho,_⟩:=x;afU ho
theorem RC{a:Ξ}{es:Array (Int×Γ)}{ep:Nat}{t:aac}:KdlSrc prog w "set" a a es.size (λi v=>(iD w a ep es)[i]?.map (·.2)=ζ v) (λh=>g7 w h a es ep t) where
 type:=λ_ h=>h.typeIs
 there:=λ_ h=>⟨h.lt,h.lt⟩
 keep:=λ_ _ h k=>h.at λo e=>k a (.inl rfl) o e
 notList:=by decide
 notTuple:=by decide
 hint:=λ_ _ _ _ h q=>aad h.typeIs q
 iter:=λ_ s hh h=>⟨_,_,(λ_ _ q=>Sf h q),Sb hh _ a (afZ h.lt) es ep t,⟨⟨_,af3 _ rfl,rfl,rfl⟩,h.at λo e=>afS _ e⟩⟩
theorem RO{a:Ξ}{xs:List Nat}{Q:Γ->Ψ->Prop}(hh:A.handled=η) (hS:dW w s.heap a (eT xs)) (hn:(eT xs).length<64)
  (h:∀(h1 h':υ) (tk c:Nat) (out:Array Γ),(∀b o,s.heap.get? b=ζ o->h1.get? b=ζ o)->(∀b o,h1.get? b=ζ o->h'.get? b=ζ o)->h'.get? h1.objs.size=ζ (seqObj "list" out c) ->
   aas out.toList ((cQ xs).map λn:Nat=>(n:Int))->Q (.ref h1.objs.size) {s with heap:=h',toks:=tk}) :
  wpAny (model prog w) A (call (.builtin "sorted") [.ref a]) Q E s:=by
 obtain⟨o,es,ep,t,ho,hex,hd,hI,hl,hs⟩:=hS;have hlen:es.size<64:=by
  have h1:=hs.len;rw[ago]at h1;omega
 have hok:g7 w s.heap a es ep t:=⟨o,ho,hex,hd,hI,hl⟩;refine Calls.call_function_entry kind_sorted plain_sorted entry_sorted (args_sorted1 _) ?_;unfold Builtin.«sorted»;refine afO (m:=checkCount "sorted" 1 1 _) (afP ?_);refine afO (kdu_collect (A:=A.in1) (RC (prog:=prog)) hh hok (by rw[ahx];omega) λh1 tk acc hk hacc=>?_)
 have abx:acc.toList=(iD w a ep es).toList.map (·.2):=by
  have hlo:=(vG w a ep es).length_eq;rw[ago,ago]at hlo;apply ajq;intro i
  rcases aje i acc.size with q|q
  ·have h3:=hacc.2 i acc[i] (ah6 q);rw[af6,ahf,ahf,h3,ah6 q]
  ·have h4:=hacc.1;rw[ahi (by simpa using q),ahi (by simp;omega)]
 have hp:=vG w a ep es;have hI2:aas acc.toList ((iD w a ep es).toList.map (·.1)):=by
  rw[abx];exact LW λe he=>hs.2 e (hp.mem_iff.mp he)
 have hal:acc.toList.length<64:=by rw[ago,hacc.1];exact hlen
 refine afO (wpAny_newList ?_ (by rw[ahx];omega))
 have wB:(h1.push (seqObj "list" acc.toList.toArray 0)).get? h1.objs.size=ζ (seqObj "list" acc.toList.toArray 0):=af3 _ rfl;refine afO (ag5 (agZ slot_list_sort ⟨_,wB,rfl⟩ entry_list_sort (list_sort_tree (s:={s with heap:=h1.push (seqObj "list" acc.toList.toArray 0),toks:=tk}) wB hI2 hal λout zs a1 a2 a3=>⟨_,rfl,?_⟩) (args_list_sort _)))
 refine afP ⟨_,rfl,?_⟩;have hz:=RQ (a2.trans ((hp.map _).trans hs.1)) a3;rw[hz]at a1;have hne:∀b o,h1.get? b=ζ o->b≠h1.objs.size:=λb o e=>afZ (afU e)
 have g1:=get?_update_seq wB (λ_=>#[])
 have g2:=get?_update_seq (afS (seqObj "list" #[] 0) (afS (seqObj "tuple" acc.toList.toArray 0) g1)) λ_=>out
 refine h h1 _ tk _ out hk (λb o e=>?_) g2 a1
 have q:=agx (hne b o e);exact(ahy _ _ q).trans (afS _ (afS _ ((ahy _ _ q).trans (afS _ e))))
end
abbrev nV(ns:List Nat):List V:=ns.map λn:Nat=>V.int n
abbrev nD(ns:List Nat):List D:=ns.map λn:Nat=>D.int n
def jU(w:χ) (a:Ξ) (ns:List Nat):υ->Prop:=λh=>dW w h a (eT ns)
theorem BL:∀{ns:List Nat}{us:List Γ},Vals (nV ns) us->aas us (ns.map λn:Nat=>(n:Int))
 |[],_,.nil=>.nil
 |n::ns,_,.cons ⟨t,e⟩ r=>by subst e;exact .cons _ _ (BL r)
theorem Ou:∀{ns:List Nat}{us:List Γ},aas us (ns.map λn:Nat=>(n:Int))->Vals (nV ns) us
 |[],_,.nil=>.nil
 |n::ns,_,.cons _ t r=>.cons ⟨t,rfl⟩ (Ou r)
theorem RA(xs:List Nat):(cQ xs).length<=xs.length:=by
 have h:∀(x:Nat) (l:List Nat),(j4 x l).length<=l.length+1:=by
  intro x l
  induction l with
  |nil=>simp[j4]
  |cons y l ih =>
   unfold j4;split
   ·simp
   ·split
    ·simp
    ·simp only[af0];omega
 induction xs with
 |nil=>exact afQ _
 |cons x xs ih=>have:=h x (cQ xs);simp only[cQ,af0];omega
section
variable {X:Cx}
def Tz(X:Cx):List V->Hp->VK->Prop:=λxs H Q=>∃a ns,xs=[.ref a]/\b9 X.K H a (nV ns)/\(cQ ns).length<64/\(∀x∈ns,x<128)/\∀p,H p=η->Q (.ref p) (upd H p (.ext (jU X.w p ns)))
theorem Nv(hc:X.calm=Δ:=by rfl):fB X (.type "set") (Tz X):=by
 intro pins s σ H xs us Q I rv h;obtain⟨a,ns,rfl,sq,hb,hx,q⟩:=h;obtain⟨u,rfl,ru⟩:=agF rv;cases ru;obtain⟨its,ri,pl,hz⟩:=I.list sq;refine Se (xs:=ns) (I.ok.hd hc) pl.isList (by simpa using BL ri) hx (by rw[<-yr];exact hb) λh' tk hS kp=>?_
 have hf:H s.heap.objs.size=η:=I.hok.fresh (afQ _);have kW:=hS;obtain⟨o,es,ep,t,ho,_⟩:=kW;refine⟨.ref s.heap.objs.size,upd H s.heap.objs.size (.ext (jU X.w s.heap.objs.size ns)),I.laid (t':=tk) (λb u e=>kp b u (afU e) e) (afQ _) ?_,rfl,q _ hf⟩
 exact⟨hS,⟨o,ho⟩,λh1 h2 x k=>x.at k⟩
def Tv(X:Cx):List V->Hp->VK->Prop:=λxs H Q=>∃a ns,xs=[.ref a]/\H a=ζ (.ext (jU X.w a ns))/\(cQ ns).length<64/\∀p,H p=η->Q (.ref p) (upd H p (.lst (nV (cQ ns))))
theorem abW(hc:X.calm=Δ:=by rfl):fB X (.builtin "sorted") (Tv X):=by
 intro pins s σ H xs us Q I rv h;obtain⟨a,ns,rfl,hH,hn,q⟩:=h;obtain⟨u,rfl,ru⟩:=agF rv;cases ru;obtain⟨hS,_,_⟩:=I.hok a _ hH;refine RO (I.ok.hd hc) hS (by rw[<-yr];exact hn) λh1 h' tk c out k1 k2 hp hI=>?_
 have I1:Inv X pins σ H {s with heap:=h1,toks:=tk}:=I.kept k1
 have hf:H h1.objs.size=η:=I1.hok.fresh (afQ _);refine⟨.ref h1.objs.size,upd H h1.objs.size (.lst (nV (cQ ns))),I1.laid (t':=tk) k2 (afQ _) ⟨?_,out.toList,c,Ou hI,by simpa using hp⟩,rfl,q _ hf⟩
 simp only[afY];rw[ahx];omega
def jY(l:List D):Option (List Nat):=match jI l with
 |some ns=>if ns.all (λn=>decide (0<=n/\n<128))=Δ/\(cQ (ns.map Int.toNat)).length<64 then ζ (ns.map Int.toNat)else η
 |none=>η
theorem DU{l:List D}{ns:List Nat}(h:jY l=ζ ns):l=nD ns/\(cQ ns).length<64/\∀x∈ns,x<128:=by
 unfold jY at h;split at h
 ·rename_i zs hz;split at h
  ·rename_i hc;cases h;refine⟨?_,hc.2,λx hx=>?_⟩
   ·rw[Er hz];unfold nD;rw[af7];refine agp λz hq=>?_
    have:=of_decide_eq_true (afX.mp hc.1 z hq);show D.int z=D.int (z.toNat:Int)
    congr 1;omega
   ·obtain⟨z,hq,rfl⟩:=afW.mp hx;have:=of_decide_eq_true (afX.mp hc.1 z hq);omega
  ·cases h
 ·cases h
theorem zA{ns:List Nat}(h:(cQ ns).length<64) (hx:∀x∈ns,x<128):jY (nD ns)=ζ ns:=by
 unfold jY;have e:nD ns=(ns.map λn:Nat=>(n:Int)).map D.int:=by simp[nD]
 rw[e,qz];dsimp only;have e:(ns.map λn:Nat=>(n:Int)).map Int.toNat=ns:=by
  rw[af7];have:(Int.toNat ∘ λn:Nat=>(n:Int))=id:=by funext n;simp
  rw[this,aiz]
 rw[e,if_pos ⟨afX.mpr λz hz=>by
  obtain⟨n,hn,rfl⟩:=afW.mp hz;have:=hx n hn;exact decide_eq_true (by omega),h⟩]
theorem Dg{K:ξ}{ρ:List Ξ}{H:Hp}{ns:List Nat}{xs:List V}(h:aQ K ρ H (nD ns) xs):xs=nV ns:=by
 have e:nD ns=(ns.map λn:Nat=>(n:Int)).map D.int:=by simp[nD]
 rw[e]at h;rw[aQ.Ep h];simp[nV]
theorem Tq{K:ξ}{ρ:List Ξ}{H:Hp}(ns:List Nat):aQ K ρ H (nD ns) (nV ns):=by
 have e:nD ns=(ns.map λn:Nat=>(n:Int)).map D.int:=by simp[nD]
 have e':nV ns=(ns.map λn:Nat=>(n:Int)).map V.int:=by simp[nV]
 rw[e,e'];exact aQ.ints
theorem tN(ns:List Nat):bX (nD ns)=Δ:=by
 have e:nD ns=(ns.map λn:Nat=>(n:Int)).map D.int:=by simp[nD]
 rw[e];exact qa
def i9(a:aj):af:=λe c=>(a e c).bind λxs c=>match xs with
 |[x]=>match eZ c x with
  |some l=>match jY l with
   |some ns=>.ok (.lst (nD (cQ ns))) c
   |none=>.bad
  |none=>.bad
 |_=>.bad
theorem Vl{e:ν}{da:aj}{p1 p2 q1 q2:Pos}{f:List D->aa->R D}(ha:fO X [e] da) (hm:X.mg "sorted"=η) (hm2:X.mg "set"=η) (hg:Gl X "sorted") (jK:Gl X "set") (hc:X.calm=Δ)
  (he:ε [e] X.env=(Θ,eval e X.env)::ε [] X.env)
  (hf:∀xs c ρ H (Q:VK) vs,Wd X.K ρ H c->aQ X.K ρ H xs vs->post X.K (Rel X.K) (f xs c) ρ H Q->∃a ns,vs=[.ref a]/\b9 X.K H a (nV ns)/\(cQ ns).length<64/\(∀x∈ns,x<128) /\
   ∀p,H p=η->∀q,upd H p (.ext (jU X.w p ns)) q=η->Q (.ref q) (upd (upd H p (.ext (jU X.w p ns))) q (.lst (nV (cQ ns))))) :
  bw X (.Call (.Name "sorted" p1) [.Call (.Name "set" p2) [e] [] q2] [] q1) (aO f da):=by
 have Eu:PE X (.Call (.Name "set" p2) [e] [] q2) _:=nu (Nv hc) jK hm2 (by decide +kernel) ha (by decide) (by decide) he (by exact gC rfl)
 refine(Dr (abW hc) hg hm (by decide +kernel) (kI Eu lP (dU rfl)) (by decide) (by decide) (by exact dU rfl) (by exact gC rfl)).imp λσ H Q h=>?_
 obtain⟨ρ,e,c,W,V,p⟩:=h;refine⟨ρ,e,c,W,V,post.bind p λxs c1 aR H1 vs ex W1 X1 r1 p1=>?_⟩
 obtain⟨a,ns,rfl,sq,h64,hx,q⟩:=hf xs c1 aR H1 Q vs W1 r1 p1;exact⟨a,ns,rfl,sq,h64,hx,λp hp=>⟨p,ns,rfl,fU,h64,λq' hq=>q p hp q' hq⟩⟩
def IF:List D->aa->R D:=λxs c=>match xs with
 |[x]=>match eZ c x with
  |some l=>match jY l with
   |some ns=>.ok (.lst (nD (cQ ns))) c
   |none=>.bad
  |none=>.bad
 |_=>.bad
theorem Du{e:ν}{da:aj}{p1 p2 q1 q2:Pos}(ha:fO X [e] da) (hm:X.mg "sorted"=η) (hm2:X.mg "set"=η) (hg:Gl X "sorted":=by rfl) (jK:Gl X "set":=by rfl) (hc:X.calm=Δ:=by rfl)
  (he:ε [e] X.env=(Θ,eval e X.env)::ε [] X.env:=by exact dU rfl):bw X (.Call (.Name "sorted" p1) [.Call (.Name "set" p2) [e] [] q2] [] q1) (i9 da) :=
 Vl (f:=IF) ha hm hm2 hg jK hc he λxs c ρ H Q vs W r p=>by
  unfold IF at p;split at p
  ·rename_i x;obtain⟨v,rr,rfl,hx,hr⟩:=r;cases hr;split at p
   ·rename_i l hl;split at p
    ·rename_i ns hn;obtain⟨rfl,h64,hx'⟩:=DU hn;obtain⟨a,ys,rfl,ha',rl⟩:=nI W hx hl;cases Dg rl;refine⟨a,ns,rfl,b9.of ha',h64,hx',λq hq q' hq'=>?_⟩
     exact qb (W.fresh hq) (Tq _) (post.ext p (Ext.fresh W hq)) q' hq'
    ·exact p.elim
   ·exact p.elim
  ·exact p.elim
end
section
variable (a:aj) (e:Ev) (c:aa)
@[simp] theorem Hj:i9 a e c=(a e c).bind λxs c=>match xs with
 |[x]=>match eZ c x with
  |some l=>match jY l with
   |some ns=>.ok (.lst (nD (cQ ns))) c
   |none=>.bad
  |none=>.bad
 |_=>.bad:=rfl
end
section
variable {prog:π}{w:χ}{A:ω}{E:Γ->Ψ->Prop}{s:Ψ}
theorem Sg{a:Ξ}{ns:List Nat}{m:Nat}{tk:Tok}{Q:Option Nat->Ψ->Prop}(hm:m<128) (hS:dW w s.heap a ns) (hn:ns.length<64)
  (h:∀r:Option Nat,r.isSome=decide (m∈ns)->Q r s):wpAny (model prog w) A (setFind a (.int m tk) (m:Int)) Q E s:=by
 obtain⟨o,es,ep,t,ho,hex,hd,hI,hl,hs⟩:=hS;have hsz:es.size=ns.length:=by rw[<-ago];exact hs.len
 have hS':s.heap.SetOf (intKind prog w) a (λk=>es.toList.any λe=>(intKind prog w).is k e.2) es.size:=⟨o,es,ep,t,ho,hex,hd,hs.els,λk=>by rw[aha],by unfold scanBound;omega,hI.fits,rfl⟩
 have hkey:(intKind prog w).is (m:Int) (.int m tk)=Δ:=by simp[intKind,Value.isInt]
 have:=wpAny_setFind_of (A:=A) (E:=E) (Q:=Q) hkey rfl hS' λr hr=>h r (by
  rw[hr,ahe,aha,decide_eq_true_eq,hs.mem m]
  constructor
  ·rintro ⟨e,he,q⟩
   obtain⟨n,tk',rfl,_⟩:=hs.2 e he;obtain⟨t',q⟩:=aiM (show Value.isInt (m:Int) (.int (n:Int) tk')=Δ from q)
   exact⟨_,he,by injection q⟩
  ·rintro ⟨e,he,q⟩
   obtain⟨n,tk',rfl,_⟩:=hs.2 e he;have e:n=m:=by dsimp only at q;omega
   subst e;exact⟨_,he,by simp[intKind,Value.isInt]⟩)
 have e:(intKind prog w).hash (m:Int)=(m:Int):=zW hm
 rwa[e]at this
theorem Pq{a r:Ξ}{others:List Ξ}{es:Array (Int×Γ)}{ep:Nat}{t:aac}{Q:Array (Int×Γ)->Ψ->Prop}(hS:g7 w s.heap a es ep t) (h:Q (iD w a ep es) s):wpAny (model prog w) A (setWalkUnseen a others (ζ r)) Q E s:=by
 obtain⟨o,ho,hex,hd,hI,hl⟩:=hS;have key:wpAny (model prog w) A (setWalk a) Q E s:=by
  unfold setWalk;refine afO (ahI ho hd hI.fits ?_);dsimp only;refine afO ?_;unfold setsByText;refine afO (ahc (afP ?_));show wpAny _ _ (if fT w=Δ then _ else _) _ _ _
  unfold iD at h;cases hb:fT w with
  |true =>
   rw[hb]at h;simp only[if_true]at h ⊢;exact afO (ahc (afP h))
  |false =>
   rw[hb]at h hl;simp only[agU,if_false]at h ⊢;show wpAny _ _ (if(!t.plain&&decide (es.size>1))=Δ then _ else _) _ _ _
   rw[hI.plain];simp only[aiy,aiO,agU,if_false];refine afO (ahT (a:=()) ?_ (afP h));show(if(!t.led&&decide (es.size>1))=Δ then _ else _)=_
   rw[hl];rfl
 unfold setWalkUnseen;refine afO (ahI ho hd hI.fits ?_);dsimp only;refine afO ?_;unfold setsByText;refine afO (ahc (afP ?_));show wpAny _ _ (if(fT w||(t.led&&t.plain)||decide (es.size<=1))=Δ then _ else _) _ _ _
 have e:(fT w||(t.led&&t.plain)||decide (es.size<=1))=Δ:=by rw[hl,hI.plain];cases fT w<;>simp
 rw[if_pos e]
 first|exact key|exact afO key
theorem zx:∀{l m:List Nat},l.Nodup->(∀x∈l,x∈m)->l.length<=m.length
 |[],m,_,_=>agR _
 |x::l,m,h,hs=>by
  obtain⟨h1,h2⟩:=agX.mp h;have hx:=hs x (.head _);have:=zx (m:=m.erase x) h2 λy hy=>(aja (λe:y=x=>h1 (by rw[<-e];exact hy))).mpr (hs y (.tail _ hy))
  rw[ajb hx]at this;have:=aiu hx;rw[af0];omega
theorem ac9{asked walked r:Ξ}{ns ms:List Nat}{es:Array (Int×Γ)}{ep:Nat}{t:aac}{Q:Unit->Ψ->Prop}(id:String) (ZR:asked≠r) (hrw:walked≠r) (ha:dW w s.heap asked ns) (hw:g7 w s.heap walked es ep t) (hs:g6 es.toList ms) (hr:dW w s.heap r []) (hn:ns.length<64)
  (h:∀(h':υ) (rs:List Nat),dW w h' r rs->rs.Nodup->(∀x,x∈rs↔x∈ns/\x∈ms)->(∀b o,b≠r->s.heap.get? b=ζ o->h'.get? b=ζ o)->Q () {s with heap:=h'}) :
  wpAny (model prog w) A (forIn (iD w walked ep es) PUnit.unit fun(p:Int×Γ) (_:PUnit)=>do
   holding [p.2] (do if(<-setFind asked p.2 p.1).isSome=Δ then(do let _ <-setAddHashed r p.2 p.1;pure PUnit.unit)else pure PUnit.unit)
   Builtin.Frozenset.unchanged id walked ep
   pure (ForInStep.yield PUnit.unit)) Q E s:=by
 have hp:=vG w walked ep es;refine PySem.MeetsSeq2.wpAny_forIn_array _ (λrest _ s'=>∃(h':υ) (rs:List Nat) (done:List (Int×Γ)),s'={s with heap:=h'}/\(iD w walked ep es).toList=done++rest/\dW w h' r rs/\rs.Nodup/\(∀x:Nat,x∈rs↔x∈ns/\∃e∈done,e.1=(x:Int))/\(∀b o,b≠r->s.heap.get? b=ζ o->h'.get? b=ζ o)) _ ?_ ?_ _ _
  ⟨s.heap,[],[],rfl,rfl,hr,.nil,λx=>by simp,λ_ _ _ e=>e⟩
 ·rintro ⟨hx,x⟩ rest u s' ⟨h',rs,done,rfl,hl,hR,hnd,hmem,hk⟩
  have hin:(hx,x)∈es.toList:=hp.mem_iff.mp (by rw[hl];simp)
  obtain⟨n,tk,e,ED⟩:=hs.2 _ hin;cases e;have ha':dW w h' asked ns:=ha.at λo e=>hk asked o ZR e
  have hw':g7 w h' walked es ep t:=hw.at λo e=>hk walked o hrw e
  have hrl:rs.length<64:=ahb (zx hnd λx hx=>((hmem x).mp hx).1) hn
  have tail:∀(Q':ForInStep PUnit->Ψ->Prop) (h2:υ),(∀b o,b≠r->s.heap.get? b=ζ o->h2.get? b=ζ o)->Q' (.yield PUnit.unit) {s with heap:=h2} ->
    wpAny (model prog w) A (Builtin.Frozenset.unchanged id walked ep >>= λ_=>pure (ForInStep.yield PUnit.unit)) Q' E {s with heap:=h2}:=by
   intro Q' h2 q4 q;obtain⟨o,ho,_,hd,hI,_⟩:=hw.at λo e=>q4 walked o hrw e
   unfold Builtin.Frozenset.unchanged;refine afO (afO (ajp ho hd hI.fits ?_));rw[if_neg (by simp)]
   exact afP (afP q)
  dsimp only;refine afO (ag5 (afO (Sg (s:={s with heap:=h'}) ED ha' hn λres hres=>?_)))
  by_cases hq:n∈ns
  ·have Ey:res.isSome=Δ:=by rw[hres];exact decide_eq_true hq
   rw[if_pos Ey];have hh:hashInt (n:Int)=n:=zW ED;have key:=IQ (prog:=prog) (A:=A) (E:=E) (s:={s with heap:=h'}) (tk:=tk) (Q:=λ_ s'=>∃h2,s'={s with heap:=h2}/\dW w h2 r (gB rs n)/\∀b o,b≠r->s.heap.get? b=ζ o->h2.get? b=ζ o) ED hR hrl
    λbb h2 kU kW=>⟨h2,rfl,kW,λb o hb e=>by rw[kU.2 b hb];exact hk b o hb e⟩
   rw[hh]at key;refine afO (agq key (λbb s2 q=>?_) λ_ _ q=>q)
   obtain⟨h2,rfl,kW,hk2⟩:=q;refine afP (tail _ h2 hk2 ⟨h2,gB rs n,done++[((n:Int),Value.int n tk)],rfl,by rw[hl];simp,kW,KY hnd,λx=>?_,hk2⟩)
   rw[K9,hmem x]
   constructor
   ·rintro (⟨a1,e,he,q⟩|rfl)
    ·exact⟨a1,e,by simp[he],q⟩
    ·exact⟨hq,((x:Int),Value.int x tk),by simp,rfl⟩
   ·rintro ⟨a1,e,he,q⟩
    rcases agC.mp he with he|he
    ·exact .inl ⟨a1,e,he,q⟩
    ·rw[agu]at he;subst he
     right
     dsimp only at q;omega
  ·have Ey:¬(res.isSome=Δ):=by rw[hres];simpa using hq
   rw[if_neg Ey];refine afP (tail _ h' hk ⟨h',rs,done++[((n:Int),Value.int n tk)],rfl,by rw[hl];simp,hR,hnd,λx=>?_,hk⟩)
   rw[hmem x]
   constructor
   ·rintro ⟨a1,e,he,q⟩
    exact⟨a1,e,by simp[he],q⟩
   ·rintro ⟨a1,e,he,q⟩
    rcases agC.mp he with he|he
    ·exact⟨a1,e,he,q⟩
    ·rw[agu]at he;subst he;have e2:x=n:=by dsimp only at q;omega
     exact absurd (e2▸a1) hq
 ·rintro u s' ⟨h',rs,done,rfl,hl,hR,hnd,hmem,hk⟩
  rw[agS]at hl;refine h h' rs hR hnd (λx=>?_) hk
  rw[hmem x,hs.mem x,<-hl]
  constructor
  ·rintro ⟨a1,e,he,q⟩;exact⟨a1,e,hp.mem_iff.mp he,q⟩
  ·rintro ⟨a1,e,he,q⟩;exact⟨a1,e,hp.mem_iff.mpr he,q⟩
theorem ada(id:String) {a b:Ξ}{ns ms:List Nat}{Q:Γ->Ψ->Prop}(hne:(Value.ref b==Value.ref a)=Θ) (ha:dW w s.heap a ns) (hb:dW w s.heap b ms) (hn:ns.length<64) (hm:ms.length<64) (hnd:ns.Nodup) (hmd:ms.Nodup)
  (h:∀(h':υ) (rs:List Nat),dW w h' s.heap.objs.size rs->rs.Nodup->(∀x,x∈rs↔x∈ns/\x∈ms)->(∀b o,s.heap.get? b=ζ o->h'.get? b=ζ o)->Q (.ref s.heap.objs.size) {s with heap:=h'}) :
  wpAny (model prog w) A (Builtin.Frozenset.intersection id a (.ref b)) Q E s:=by
 have hTa:s.TypeIs (.ref a) "set":=by obtain⟨o,_,_,_,ho,hx,_⟩:=ha;exact⟨o,ho,hx.1⟩
 have hTb:s.TypeIs (.ref b) "set":=by obtain⟨o,_,_,_,ho,hx,_⟩:=hb;exact⟨o,ho,hx.1⟩
 unfold Builtin.Frozenset.intersection;rw[if_neg (by rw[hne];exact agd)]
 refine afO ?_;unfold Builtin.Frozenset.baseOf;refine afO (ahG hTa ah4 (afP ?_));simp only[if_true];refine afO ?_;unfold newSet setsByText;refine afO (afO (ahc (afP ?_)));dsimp only;simp only[newObj];refine afO (wpAny_alloc (afP ?_));show wpAny _ _ (Builtin.Frozenset.addrOf (.ref s.heap.objs.size) >>= _) _ _ {s with heap:=s.heap.push (eF w)}
 refine afO (afP ?_);have aau:aaG {s with heap:=s.heap.push (eF w)} (.ref b) "set":=by obtain⟨o,_,_,_,ho,hx,_⟩:=hb;exact⟨o,afS _ ho,hx.1⟩
 refine afO (ag5 (afO ?_));unfold Builtin.Frozenset.isAnySet;refine afO (ahG (T:="set") (b:=Δ) aau ah4 ?_);show wpAny _ _ (pure Δ) _ _ _;refine afP ?_;rw[if_pos rfl];refine afO (afP ?_);have ha1:dW w (s.heap.push (eF w)) a ns:=ha.at λo e=>afS _ e
 have hb1:dW w (s.heap.push (eF w)) b ms:=hb.at λo e=>afS _ e
 have hr1:dW w (s.heap.push (eF w)) s.heap.objs.size []:=E7 w (af3 _ rfl);have Mt:a≠s.heap.objs.size:=by obtain⟨o,_,_,_,ho,_⟩:=ha;exact afZ (afU ho)
 have Ms:b≠s.heap.objs.size:=by obtain⟨o,_,_,_,ho,_⟩:=hb;exact afZ (afU ho)
 have go:∀(asked walked:Ξ) (ns' ms':List Nat),asked≠s.heap.objs.size->walked≠s.heap.objs.size->dW w (s.heap.push (eF w)) asked ns'->dW w (s.heap.push (eF w)) walked ms'->ns'.length<64->(∀x,(x∈ns'/\x∈ms')↔(x∈ns/\x∈ms)) ->
   wpAny (model prog w) A (do
    let was <-setEpoch walked
    let arr <-setWalkUnseen walked [asked,s.heap.objs.size] (ζ s.heap.objs.size)
    forIn arr PUnit.unit fun(p:Int×Γ) (_:PUnit)=>do
     holding [p.2] (do if(<-setFind asked p.2 p.1).isSome=Δ then(do let _ <-setAddHashed s.heap.objs.size p.2 p.1;pure PUnit.unit)else pure PUnit.unit)
     Builtin.Frozenset.unchanged id walked was
     pure (ForInStep.yield PUnit.unit)
    pure ()) (λ_ s'=>wpAny (model prog w) A (pure (Value.ref s.heap.objs.size)) Q E s') E {s with heap:=s.heap.push (eF w)}:=by
  intro asked walked ns' ms' n1 n2 h1 h2 hl Z6;obtain⟨o,es,ep,t,ho,hex,hd,hI,Mi,hs⟩:=h2;refine afO (ajp ho hd hI.fits ?_);refine afO (Pq (es:=es) (ep:=ep) (t:=t) ⟨o,ho,hex,hd,hI,Mi⟩ ?_);refine afO (ac9 (s:={s with heap:=s.heap.push (eF w)}) id n1 n2 h1 ⟨o,ho,hex,hd,hI,Mi⟩ hs hr1 hl λh' rs q1 q2 q3 q4=>?_)
  refine afP (afP (h h' rs q1 q2 (λx=>(q3 x).trans (Z6 x)) λb' o' e=>q4 b' o' (afZ (afU e)) (afS _ e)))
 obtain⟨oa,esa,epa,ta,hoa,_,hda,hIa,_,_⟩:=_root_.id ha1;obtain⟨ob,esb,epb,tb,hob,_,hdb,hIb,_,_⟩:=_root_.id hb1;unfold Builtin.Frozenset.sizeOf;refine afO (afO (ah7 hob hdb hIb.fits (afP ?_)));refine afO (afO (ah7 hoa hda hIa.fits (afP ?_)))
 by_cases hsz:esb.size>esa.size
 ·simp only[if_pos hsz];exact go b a ms ns Ms Mt hb1 ha1 hm λx=>⟨fun⟨u,v⟩=>⟨v,u⟩,fun⟨u,v⟩=>⟨v,u⟩⟩
 ·simp only[if_neg hsz];exact go a b ns ms Mt Ms ha1 hb1 hn λx=>Iff.rfl
theorem Rq:entryFor table "set.__and__"=ζ Builtin.«frozenset.__and__» :=
 ajn (id':="frozenset.__and__") (by kernel_rfl) rfl (by decide +kernel) (by kernel_rfl)
theorem Oc{v:Γ}{Q:Bool->Ψ->Prop}(hT:s.TypeIs v "set") (h:Q Δ s):wpAny (model prog w) A (Builtin.Frozenset.isAnySet v) Q E s:=by
 unfold Builtin.Frozenset.isAnySet;refine afO (ahG (T:="set") (b:=Δ) hT ah4 ?_);exact afP h
theorem Sh{a b:Ξ}{ns ms:List Nat}{Q:Γ->Ψ->Prop}(hab:a≠b) (ha:dW w s.heap a ns) (hb:dW w s.heap b ms) (hn:ns.length<64) (hm:ms.length<64) (hnd:ns.Nodup) (hmd:ms.Nodup)
  (h:∀(h':υ) (rs:List Nat),dW w h' s.heap.objs.size rs->rs.Nodup->(∀x,x∈rs↔x∈ns/\x∈ms)->(∀b o,s.heap.get? b=ζ o->h'.get? b=ζ o)->Q (.ref s.heap.objs.size) {s with heap:=h'}) :
  wpAny (model prog w) A (binaryOp .BitAnd (.ref a) (.ref b)) Q E s:=by
 have hTa:s.TypeIs (.ref a) "set":=by obtain⟨o,_,_,_,ho,hx,_⟩:=ha;exact⟨o,ho,hx.1⟩
 have hTb:s.TypeIs (.ref b) "set":=by obtain⟨o,_,_,_,ho,hx,_⟩:=hb;exact⟨o,ho,hx.1⟩
 refine wpAny_binaryOp_same hTa hTb PySem.F.fills_set_and akr (agZ akr hTa Rq ?_ (PySem.F.args_set_and_2 _ _));unfold Builtin.«frozenset.__and__»;show wpAny _ _ (Builtin.Frozenset.slot1 "__and__" ⟨[.ref a,.ref b],[]⟩ >>= _) _ _ _;refine afO (afO (afP (afP ?_)));dsimp only;simp only[agU,if_false];refine afO (afO (Oc hTa ?_));refine Oc hTb ?_;simp only[aiy,agU,if_false];refine afO (afP ?_);refine afO (ada _ (by simpa using agx hab) ha hb hn hm hnd hmd λh' rs q1 q2 q3 q4=>?_)
 exact afP ⟨_,rfl,(λe=>by cases e),h h' rs q1 q2 q3 q4⟩
end
theorem sub_tuple_set:isSubtype (.type "tuple") (.type "set")=pure Θ:=by rw[aix];kernel_rfl
theorem sub_tuple_frozenset:isSubtype (.type "tuple") (.type "frozenset")=pure Θ:=by rw[aix];kernel_rfl
section
variable {prog:π}{w:χ}{A:ω}{s:Ψ}{E:Γ->Ψ->Prop}
set_option maxHeartbeats 3200000 in
theorem Sd{l:Ξ}{items:Array Γ}{xs:List Nat}{Q:Γ->Ψ->Prop}(hh:A.handled=η) (hl:s.heap.IsTuple l items) (hi:aas items.toList (xs.map λn:Nat=>(n:Int))) (hx:∀x∈xs,x<128) (h64:(eT xs).length<64)
  (h:∀(h':υ) (tk:Nat),dW w h' s.heap.objs.size (eT xs)->(∀b o,b<s.heap.objs.size->s.heap.get? b=ζ o->h'.get? b=ζ o)->Q (.ref s.heap.objs.size) {s with heap:=h',toks:=tk}) :
  wpAny (model prog w) A (call (.type "set") [.ref l]) Q E s:=by
 obtain⟨c,tl,Z5⟩:=agA.mro;have hmade:=agA.made;have hsub:=agA.sub;refine ahL (ajm (show wpAny _ _ (callAny (.type "set") _) _ _ _ from ?_))
 refine afP ⟨Code.quiet_builtin _ (by decide +kernel),ah3 akg ?_⟩
 rw[Around.under_plain (akh "set" [.ref l] []) rfl];have h1:=agA.notType;have h2:=agA.canCreate;have hct:=aki (.ref l)
 repeat any_goals (first|assumption|wp_step)
 refine ag6 (IK (.ref l) (E:=E) (Q₁:=λobj s₁=>obj=.ref s.heap.objs.size/\s₁={s with heap:=s.heap.push (eF w)}) ⟨rfl,rfl⟩) λr s₁ hr=>?_
 cases r with
 |error e=>exact hr
 |ok fl =>
  cases fl with
  |ret obj =>
   obtain⟨rfl,rfl⟩:=hr;have hS:(s.heap.push (eF w)).get? s.heap.objs.size=ζ (eF w):=af3 _ rfl;have hT:aaG {s with heap:=s.heap.push (eF w)} (.ref s.heap.objs.size) "set":=⟨_,hS,rfl⟩
   have hli:=agA.init.lookup;have hbi:=agA.init.bind (.ref s.heap.objs.size)
   repeat any_goals (first|assumption|wp_step)
   refine ag6 (codeAny_call_builtin (R:=wants (λr s₂=>r=.none/\∃h' tk,s₂={s with heap:=h',toks:=tk}/\dW w h' s.heap.objs.size (eT xs) /\
     (∀b o,b<s.heap.objs.size->s.heap.get? b=ζ o->h'.get? b=ζ o)) E) agA.init.plain akj (check_set_init_1 hT ?_)) λr₂ s₂ qA=>?_
   ·obtain⟨ol,j6,hcl,nl,hdl⟩:=hl;obtain⟨Xq,DF,Xk,Dy⟩:=ol;simp only at hcl hdl;subst hcl;subst hdl;have wA:(s.heap.push (eF w)).get? l=ζ {cls:=.type "tuple",dict:=DF,data:=.seq items nl,slots:=Dy}:=afS _ j6;have ZN:=sub_tuple_set;have ZO:=sub_tuple_frozenset;have hne:(Value.type "tuple"==Value.type "dict")=Θ:=by decide
    have hl1:(s.heap.push (eF w)).IsTuple l items:=⟨_,wA,rfl,nl,rfl⟩;unfold eF at hS hT wA ⊢;unfold Builtin.«set.__init__» noKeywords Builtin.Frozenset.updateFrom
    generalize EN:pyIter=PI
    wp_walk
    subst EN;refine ahn hl1 (afO (wpAny_runValue ?_));have hlS:l<s.heap.objs.size:=afU j6;have hlen:items.size=xs.length:=by have:=hi.length;simpa using this
    have EC:l≠(s.heap.push (eF w)).objs.size:=by rw[agt];exact afZ (ahB hlS)
    have hSf:s.heap.objs.size∉[(s.heap.push (eF w)).objs.size,l]:=by
     rw[agt];simp only[afT,af5,or_false,not_or];exact⟨afZ (agY _),agH hlS⟩
    have W:=(Walks.tuple (prog:=prog) (w:=w) (A:=A.in1.in1.in1) (by simp[hh]) (s.heap.push (eF w)).objs.size l EC items).toS
    rw[hlen]at W;refine IL (xs:=xs) W s.heap.objs.size hSf (λi v hi' hv=>?_) hx h64 xs.length 0 _ (by omega) (agR _) ⟨⟨_,af3 _ rfl,rfl,rfl⟩,hl1.at λo e=>afS _ e⟩ (E7 w (afS _ hS)) λs' hm hS'=>?_
    ·obtain⟨t,e⟩:=IntsAre.int_at hi i v (by rw[ahf];exact hv)
     exact⟨t,by rw[e];simp[aga,afV hi']⟩
    ·obtain⟨h',g',d',tk',os'⟩:=s';cases(show g'=s.gens from hm.gens)
     cases(show d'=s.drawn from hm.drawn)
     cases(show os'=s.os from hm.os)
     refine afP (afP ⟨rfl,h',tk',rfl,hS',λb o hb e=>?_⟩)
     exact hm.heap b o (by rw[agt];simp only[afT,af5,or_false,not_or];exact⟨afZ hb,afZ (ahB hb)⟩) (afS _ (afS _ e))
   ·cases r₂ with
    |error e=>exact qA
    |ok EX =>
     cases EX with
     |ret r =>
      obtain⟨rfl,h',tk,rfl,hS',hk'⟩:=qA
      repeat any_goals (first|assumption|wp_step)
      exact h _ _ hS' hk'
     |_=>exact qA.elim
  |_=>exact hr.elim
end
def B4(w:χ) (a:Ξ) (rs:List Nat):υ->Prop:=λh=>dW w h a rs
def mO(ns ms:List Nat):Nat:=((cQ ns).filter λx=>decide (x∈ms)).length
theorem As{ns ms rs:List Nat}(hn:rs.Nodup) (h:∀x,x∈rs↔x∈ns/\x∈ms):rs.length=mO ns ms:=by
 have hp:rs.Perm ((cQ ns).filter λx=>decide (x∈ms)):=by
  refine(akq hn ((zw (lG ns)).filter _)).mpr λx=>?_
  rw[h x,agm,lW,decide_eq_true_eq]
 exact hp.length_eq
section
variable {X:Cx}
def TH(X:Cx):List V->Hp->VK->Prop:=λxs H Q=>∃a ns,xs=[.ref a]/\(b9 X.K H a (nV ns)\/cO X.K H a (nV ns))/\(cQ ns).length<64/\(∀x∈ns,x<128)/\∀p,H p=η->Q (.ref p) (upd H p (.ext (jU X.w p ns)))
theorem Nx(hc:X.calm=Δ:=by rfl):fB X (.type "set") (TH X):=by
 intro pins s σ H xs us Q I rv h;obtain⟨a,ns,rfl,sq,hb,hx,q⟩:=h
 rcases sq with sq|sq
 ·exact Nv hc pins s σ H _ us Q I rv ⟨a,ns,rfl,sq,hb,hx,q⟩
 ·obtain⟨u,rfl,ru⟩:=agF rv;cases ru;obtain⟨its,ri,pl,hz⟩:=I.tuple sq;refine Sd (xs:=ns) (I.ok.hd hc) (show s.heap.IsTuple a its.toArray from pl) (by simpa using BL ri) hx (by rw[<-yr];exact hb) λh' tk hS kp=>?_
  have hf:H s.heap.objs.size=η:=I.hok.fresh (afQ _);have kW:=hS;obtain⟨o,es,ep,t,ho,_⟩:=kW;refine⟨.ref s.heap.objs.size,upd H s.heap.objs.size (.ext (jU X.w s.heap.objs.size ns)),I.laid (t':=tk) (λb u e=>kp b u (afU e) e) (afQ _) ?_,rfl,q _ hf⟩
  exact⟨hS,⟨o,ho⟩,λh1 h2 x k=>x.at k⟩
def T7(X:Cx):R2:=λx y H Q=>∃a b ns ms,x=.ref a/\y=.ref b/\a≠b/\H a=ζ (.ext (jU X.w a ns))/\H b=ζ (.ext (jU X.w b ms))/\(cQ ns).length<64/\(cQ ms).length<64 /\
 ∀p rs,H p=η->rs.length=mO ns ms->rs.length<64->Q (.ref p) (upd H p (.ext (B4 X.w p rs)))
theorem Wq:cE X (binaryOp .BitAnd) (T7 X):=by
 intro pins s σ H x y v u Q I rx ry h;obtain⟨a,b,ns,ms,rfl,rfl,hab,ha,hb,h1,h2,q⟩:=h;cases rx;cases ry;obtain⟨hA,_,_⟩:=I.hok a _ ha;obtain⟨hB,_,_⟩:=I.hok b _ hb;rw[yr]at h1 h2;refine Sh hab hA hB h1 h2 (vM .nil) (vM .nil) λh' rs q1 q2 q3 q4=>?_
 have hmem:∀x,x∈rs↔x∈ns/\x∈ms:=λx=>by
  rw[q3 x];unfold eT;rw[vS,vS];simp
 have hf:H s.heap.objs.size=η:=I.hok.fresh (afQ _);have hl:rs.length<64:=ahb (zx q2 λx hx=>((q3 x).mp hx).1) h1
 have T9:=q1;obtain⟨o,es,ep,t,ho,_⟩:=T9;refine⟨.ref s.heap.objs.size,upd H s.heap.objs.size (.ext (B4 X.w s.heap.objs.size rs)),I.laid (t':=s.toks) q4 (afQ _) ⟨q1,⟨o,ho⟩,λh1 h2 x k=>x.at k⟩,rfl,q _ rs hf (As q2 hmem) hl⟩
def TQ(X:Cx):List V->Hp->VK->Prop:=λxs H Q=>∃a rs,xs=[.ref a]/\H a=ζ (.ext (B4 X.w a rs))/\rs.length<64/\Q (.int (rs.length:Nat)) H
theorem abX:fB X (.builtin "len") (TQ X):=by
 intro pins s σ H xs us Q I rv h;obtain⟨a,rs,rfl,hH,hn,q⟩:=h;obtain⟨u,rfl,ru⟩:=agF rv;cases ru;obtain⟨hS,_,_⟩:=I.hok a _ hH;obtain⟨o,es,ep,t,ho,hex,hd,hI,hl,hs⟩:=hS;have he:es.size=rs.length:=by rw[<-ago];exact hs.len
 refine call_len_set ho hex hd hI.fits (by rw[he];omega) ⟨.int (rs.length:Nat),H,I.tok _,⟨_,by rw[he]⟩,q⟩
def lV(c:aa):D->Option (List Nat)
 |.tup l=>jY l
 |x=>match eZ c x with
  |some l=>jY l
  |none=>η
theorem K4{K:ξ}{ρ:List Ξ}{H:Hp}{c:aa}{x:D}{v:V}{ns:List Nat}(W:Wd K ρ H c) (r:Rel K ρ H x v) (h:lV c x=ζ ns):∃a,v=.ref a/\(b9 K H a (nV ns)\/cO K H a (nV ns))/\(cQ ns).length<64/\∀x∈ns,x<128:=by
 unfold lV at h;split at h
 ·obtain⟨rfl,h64,hx⟩:=DU h;obtain⟨a,xs,rfl,ha,rl⟩:=r;cases Dg rl;exact⟨a,rfl,.inr (cO.of ha),h64,hx⟩
 ·split at h
  ·rename_i l hl;obtain⟨rfl,h64,hx⟩:=DU h;obtain⟨a,ys,rfl,ha,rl⟩:=nI W r hl;cases Dg rl;exact⟨a,rfl,.inl (b9.of ha),h64,hx⟩
  ·cases h
def ux(a b:aj):af:=λe c=>(a e c).bind λxs c=>match xs with
 |[x]=>match lV c x with
  |some ns=>(b e c).bind λys c=>match ys with
   |[y]=>match lV c y with
    |some ms=>.ok (.int (mO ns ms:Nat)) c
    |none=>.bad
   |_=>.bad
  |none=>.bad
 |_=>.bad
theorem VH{a b:ν}{da db:aj}{p0 p1 p2 q0 q1 q2 q3:Pos}(ha:fO X [a] da) (hb:fO X [b] db) (hm:X.mg "len"=η) (hm2:X.mg "set"=η) (hg:Gl X "len":=by rfl) (jK:Gl X "set":=by rfl) (hc:X.calm=Δ:=by rfl)
  (he:ε [a] X.env=(Θ,eval a X.env)::ε [] X.env:=by exact dU rfl) (he2:ε [b] X.env=(Θ,eval b X.env)::ε [] X.env:=by exact dU rfl) :
  bw X (.Call (.Name "len" p0) [.BinOp (.Call (.Name "set" p1) [a] [] q1) .BitAnd (.Call (.Name "set" p2) [b] [] q2) q3] [] q0) (ux da db):=by
 have h1:PE X (.Call (.Name "set" p1) [a] [] q1) _:=nu (Nx hc) jK hm2 (by decide +kernel) ha (by decide) (by decide) he (by exact gC rfl)
 have h2:PE X (.Call (.Name "set" p2) [b] [] q2) _:=nu (Nx hc) jK hm2 (by decide +kernel) hb (by decide) (by decide) he2 (by exact gC rfl)
 have h3:PE X (.BinOp (.Call (.Name "set" p1) [a] [] q1) .BitAnd (.Call (.Name "set" p2) [b] [] q2) q3) _:=JG Wq h1 h2;refine(Dr abX hg hm (by decide +kernel) (kI h3 lP (dU rfl)) (by decide) (by decide) (by exact dU rfl) (by exact gC rfl)).imp λσ H Q h=>?_
 obtain⟨ρ,e,c,W,V,p⟩:=h;refine⟨ρ,e,c,W,V,post.bind p λxs c1 aR H1 vs ex W1 X1 r1 p1=>?_⟩
 clear ex;split at p1
 ·rename_i x;obtain⟨v,r,rfl,hx,hr⟩:=r1;cases hr;split at p1
  ·rename_i ns hn;obtain⟨ad,rfl,sq,h64,hx'⟩:=K4 W1 hx hn;refine⟨ad,ns,rfl,sq,h64,hx',λpa hpa=>?_⟩
   refine⟨aR,e,c1,W1.fresh hpa,(V.mono W X1).mono W1 (Ext.fresh W1 hpa),post.bind (post.ext p1 (Ext.fresh W1 hpa)) λys c2 d8 H2 vs2 ex2 W2 X2 r2 p2=>?_⟩
   clear ex2;split at p2
   ·rename_i y;obtain⟨v2,r',rfl,hy,hr'⟩:=r2;cases hr';split at p2
    ·rename_i ms hm';obtain⟨bd,rfl,RJ,MD,hy'⟩:=K4 W2 hy hm';refine⟨bd,ms,rfl,RJ,MD,hy',λpb EA=>?_⟩
     have ZW:pa∉aR:=W1.nil hpa;have ER:H2 pa=ζ (.ext (jU X.w pa ns)):=(X2.keep pa _ fU ZW rfl).1;have hne:pa≠pb:=λz=>by rw[z,EA]at ER;cases ER
     refine⟨pa,pb,ns,ms,rfl,rfl,hne,by rw[cB hne];exact ER,fU,h64,MD,λpr rs Me hl Z8=>?_⟩
     refine⟨pr,rs,rfl,fU,Z8,?_⟩;rw[hl];have W3:=W2.fresh (o:=.ext (jU X.w pb ms)) EA;exact p2 d8 _ _ (W3.fresh Me) ((Ext.fresh W2 EA).trans (Ext.fresh W3 Me)) rfl
    ·exact p2.elim
   ·exact p2.elim
  ·exact p1.elim
 ·exact p1.elim
end
@[simp] theorem ad9(a b:aj) (e:Ev) (c:aa):ux a b e c=(a e c).bind λxs c=>match xs with
 |[x]=>match lV c x with
  |some ns=>(b e c).bind λys c=>match ys with
   |[y]=>match lV c y with
    |some ms=>.ok (.int (mO ns ms:Nat)) c
    |none=>.bad
   |_=>.bad
  |none=>.bad
 |_=>.bad:=rfl
section
variable {X:Cx}
theorem XD{l:List D}(h:bX l=Δ) (n:Nat):bX (l.take n)=Δ:=iP.mpr λd hd=>iP.mp h d (agv hd)
theorem XE{l:List D}(h:bX l=Δ) (n:Nat):bX (l.drop n)=Δ:=iP.mpr λd hd=>iP.mp h d (akb hd)
end
mutual
def ff(c:aa) (n:Nat):D->Option D
 |.ref k=>match c[k]? with
  |some (.lst l)=>if n<=k then ζ (.lst l)else η
  |none=>η
 |.lst l=>match iy c n l with
  |some m=>ζ (.lst m)
  |none=>η
 |.tup l=>match iy c n l with
  |some m=>ζ (.tup m)
  |none=>η
 |.aL=>ζ .aL
 |.bl b=>ζ (.bl b)
 |.int i=>ζ (.int i)
 |.str x=>ζ (.str x)
 |.ty x=>ζ (.ty x)
 |.cH x=>ζ (.cH x)
 |.fn x m=>ζ (.fn x m)
 |.exc x=>ζ (.exc x)
 |.i7=>ζ .i7
 |.dct ks=>ζ (.dct ks)
 |.lam _ _ _ _=>η
def iy(c:aa) (n:Nat):List D->Option (List D)
 |[]=>ζ []
 |d::l=>match ff c n d,iy c n l with
  |some a,ζ m=>ζ (a::m)
  |_,_=>η
end
section
variable {K:ξ}{aR:List Ξ}{H1:Hp}{c1:aa}{n:Nat}
mutual
theorem HY(W1:Wd K aR H1 c1):∀(d:D) (v:V) (d':D),Rel K aR H1 d v->ff c1 n d=ζ d'->Rel K (aR.take n) H1 d' v
 |.ref k,v,d',r,h=>by
  unfold ff at h;split at h
  ·rename_i l hl;split at h
   ·rename_i hk;cases h;obtain⟨a,rfl,ha⟩:=r;obtain⟨nr,xs,hx,rl⟩:=W1.gc k a _ ha hl;refine⟨a,xs,rfl,⟨hx,λq=>?_⟩,aQ.low (λb h=>agv h) l xs nr rl⟩
    obtain⟨j,hj,e⟩:=ahr.mp q;rw[ai2]at e;have hk1:=af8.mp ha;have hjl:j<aR.length:=by simp at hj;omega
    have:=(aid W1.nd (h₀:=hjl) (h₁:=hk1.1)).mp (e.trans hk1.2.symm);simp at hj;omega
   ·cases h
  ·cases h
 |.lst l,v,d',r,h=>by
  unfold ff at h;split at h
  ·rename_i m hm;cases h;obtain⟨a,xs,rfl,s,rl⟩:=r;exact⟨a,xs,rfl,⟨s.1,λq=>s.2 (agv q)⟩,BR W1 l xs m rl hm⟩
  ·cases h
 |.tup l,v,d',r,h=>by
  unfold ff at h;split at h
  ·rename_i m hm;cases h;obtain⟨a,xs,rfl,s,rl⟩:=r;exact⟨a,xs,rfl,s,BR W1 l xs m rl hm⟩
  ·cases h
 |.aL,v,d',r,h=>by unfold ff at h;cases h;exact Rel.low (λb h=>agv h) _ _ rfl r
 |.bl b,v,d',r,h=>by unfold ff at h;cases h;exact Rel.low (λb h=>agv h) _ _ rfl r
 |.int i,v,d',r,h=>by unfold ff at h;cases h;exact Rel.low (λb h=>agv h) _ _ rfl r
 |.str x,v,d',r,h=>by unfold ff at h;cases h;exact Rel.low (λb h=>agv h) _ _ rfl r
 |.ty x,v,d',r,h=>by unfold ff at h;cases h;exact Rel.low (λb h=>agv h) _ _ rfl r
 |.cH x,v,d',r,h=>by unfold ff at h;cases h;exact Rel.low (λb h=>agv h) _ _ rfl r
 |.fn x m,v,d',r,h=>by unfold ff at h;cases h;exact Rel.low (λb h=>agv h) _ _ rfl r
 |.exc x,v,d',r,h=>by unfold ff at h;cases h;exact Rel.low (λb h=>agv h) _ _ rfl r
 |.i7,v,d',r,h=>by unfold ff at h;cases h;exact Rel.low (λb h=>agv h) _ _ rfl r
 |.dct ks,v,d',r,h=>by unfold ff at h;cases h;exact Rel.low (λb h=>agv h) _ _ rfl r
 |.lam _ _ _ _,v,d',r,h=>by unfold ff at h;cases h
theorem BR(W1:Wd K aR H1 c1):∀(l:List D) (xs:List V) (m:List D),aQ K aR H1 l xs->iy c1 n l=ζ m->aQ K (aR.take n) H1 m xs
 |[],xs,m,r,h=>by unfold iy at h;cases h;exact r
 |d::l,xs,m,r,h=>by
  unfold iy at h;split at h
  ·rename_i a m' ha hm;cases h;obtain⟨y,ys,rfl,r1,r2⟩:=r;exact⟨y,ys,rfl,HY W1 d y a r1 ha,BR W1 l ys m' r2 hm⟩
  ·cases h
end
end
def oK(n:Nat) (v:D) (c:aa):R D:=match ff c n v with
 |some d=>.ok d (c.take n)
 |none=>.bad
def mF(n:Nat) (d:ah):List D->aa->R D:=λxs c=>(d (dI n xs) c).bind λf c'=>match f with
 |.rt v=>oK c.length v c'
 |.nx _=>oK c.length .aL c'
 |_=>.bad
theorem M6{K:ξ}{ρ aR:List Ξ}{H H1:Hp}{c c1:aa}{v:D}{x:V}{Q:VK}(W:Wd K ρ H c) (W1:Wd K aR H1 c1) (X1:Ext ρ H aR H1) (r:Rel K aR H1 v x) (p:post K (Rel K) (oK c.length v c1) ρ H Q):Q x H1:=by
 have hn:=Ext.len W W1 X1;have Wc:=W1.cut hn;have Xc:=X1.cut (n:=c.length) (ag9 W.len);unfold oK at p;split at p
 ·rename_i d hd;exact p _ H1 x Wc Xc (HY W1 v x d r hd)
 ·exact p.elim
section
variable {P:π}{w:χ}{K:ξ}{mg:Str->Option Γ}{base:υ}
theorem abc{x qual:Str}{st:ψ}{f:Ξ}{fd:aag}{N ps:List Str}{k n m:Nat}{d:ah}(F:lC K x qual st f fd) (S:cz N ps (bE st)) (hN:N.length=n) (hm:ps.length=m)
  (hb:∀(cdv:Γ) (A:ω) (outer:List Env) (s:Ψ) (H:Hp) (E:XK),er k (A.deeper (envOfC qual (bE st) s.heap.objs.size f cdv))->bW (k8 bC P w K mg base N qual (bE st) f cdv A outer s H E).lQ (i8 st) d) :
  bL P w K mg base bC (k+1) f fd ps (bU K m (mF n d)):=by
 subst hN;subst hm;refine F.ok S (λvs H Q E h=>?_) (λcdv A outer s H vs Q E hr h=>⟨_,hb cdv A outer s H E hr,?_⟩)
 ·obtain⟨ρ,xs,c,W,r,hl,p⟩:=h;exact r.length.trans hl
 ·obtain⟨ρ,xs,c,W,r,hl,p⟩:=h;refine⟨ρ,dI N.length xs,c,W,eH.start r,post.bind p λfl c1 aR H1 b _ W1 X1 r1 p1=>?_⟩
  cases fl with
  |nx e1 =>
   obtain⟨σ1,rfl,V1⟩:=r1;exact M6 (v:=.aL) (x:=.aL) (H1:=H1) W W1 X1 rfl (by unfold mF at p;rename_i he;rw[he]at p;exact p)
  |rt d =>
   obtain⟨v,rfl,V1⟩:=r1;exact M6 (v:=d) (x:=v) (H1:=H1) W W1 X1 V1 (by unfold mF at p;rename_i he;rw[he]at p;exact p)
  |bk e1=>exact p1.elim
  |ct e1=>exact p1.elim
end
@[simp] theorem aei(n:Nat) (d:ah) (xs:List D) (c:aa):mF n d xs c=(d (dI n xs) c).bind λf c'=>match f with
 |.rt v=>oK c.length v c'
 |.nx _=>oK c.length .aL c'
 |_=>.bad:=rfl
end L2
namespace L2
open PySem PySem.Spec PyProof.Rows
section
variable {X:Cx}{e sx:ν}{te:TE}{lo hi:Option ν}{tl th ts:TO}{pos p2:Pos}
def iB(i j:Int):List Int:=(θ (j-i).toNat).map λk:Nat=>i+(k:Int)
theorem Pw{f:Nat->Int}{acc:Array Γ}{n:Nat}(h:ItemsOf (λk v=>∃t,v=.int (f k) t) acc n):Vals (((θ n).map f).map V.int) acc.toList:=by
 have hl:acc.toList.length=n:=by rw[ago];exact h.1
 have key:∀(us:List Γ) (o:Nat),(∀(k:Nat) (u:Γ),us[k]? = ζ u->∃t,u=.int (f (o+k)) t)->Vals (((List.range' o us.length).map f).map V.int) us:=by
  intro us
  induction us with
  |nil=>intro o _;exact .nil
  |cons u us ih =>
   intro o hu;rw[af0,List.range'_succ];obtain⟨t,e⟩:=hu 0 u rfl;refine .cons ⟨t,e⟩ (ih (o+1) λk v hv=>?_)
   have:=hu (k+1) v (by simpa using hv)
   rwa[show o+(k+1)=o+1+k by omega]at this
 have:=key acc.toList 0 λk u hu=>by
  have:=h.2 k u (by rw[<-ahf];exact hu)
  rwa[age]
 rwa[hl,<-List.range_eq_range']at this
def TR(X:Cx):List V->Hp->VK->Prop:=λxs H Q=>∃p i j,xs=[.ref p]/\H p=ζ (.sQ i j)/\(0<=i/\i<j/\j<1000)/\∀l,H l=η->Q (.ref l) (upd H l (.lst ((iB i j).map V.int)))
theorem Nz(hc:X.calm=Δ:=by rfl):fB X (.type "list") (TR X):=by
 intro pins s σ H xs us Q I rv h;obtain⟨p,i,j,rfl,hH,hb,q⟩:=h;obtain⟨u,rfl,ru⟩:=agF rv;cases ru;obtain⟨t,u,v,hr⟩:=I.hok p _ hH;have hn:Builtin.Range.rangeSize i j 1=((j-i).toNat:Nat):=by
  unfold Builtin.Range.rangeSize;rw[if_pos (by decide),if_pos hb.2.1,Int.ediv_one]
  omega
 have hsm:Builtin.Range.small i j 1=Δ:=small_one (by omega) (by omega) (by omega) (by omega)
 refine call_list_range (I.ok.hd hc) hr hsm hn (by omega) λh' tk acc c' kp hg hit=>?_
 have wC:ItemsOf (λk v=>∃t,v=Value.int ((λk:Nat=>i+(k:Int)) k) t) acc (j-i).toNat:=⟨hit.1,λk v hv=>by
  have:=hit.2 k v hv
  simpa using this⟩
 refine⟨.ref s.heap.objs.size,upd H s.heap.objs.size (.lst ((iB i j).map V.int)),I.laid (t':=tk) kp (afQ _) ⟨?_,acc.toList,c',Pw wC,by rw[Array.toArray_toList];exact hg⟩,rfl,q _ (I.hok.fresh (afQ _))⟩
 simp only[iB,afY,ag0];rw[ahx];omega
end
open PySem.SeqAt
open AutoSeq1 (wpAny_loadPart')
section
variable {X:Cx}
def TJ:List V->Hp->VK->Prop:=λxs H Q=>∃j,xs=[.int j]/\∀p,H p=η->Q (.ref p) (upd H p (.sQ 0 j))
theorem Ny:fB X (.type "range") TJ:=by
 intro pins s σ H xs us Q I rv h;obtain⟨j,rfl,q⟩:=h;obtain⟨u,rfl,ru⟩:=agF rv;obtain⟨t,rfl⟩:=ru;refine call_range_1 ⟨.ref s.heap.objs.size,upd H s.heap.objs.size (.sQ 0 j),I.laid (t':=s.toks+1+1) (λb o e=>afS _ e) (afQ _) ?_,rfl,q _ (I.hok.fresh (afQ _))⟩
 exact⟨_,_,_,af3 _ rfl⟩
def rH(a:aj):af:=λe c=>(a e c).bind λxs c=>match xs with
 |[.int j]=>if 0<j/\j<1000 then .ok (.lst ((iB 0 j).map D.int)) c else .bad
 |_=>.bad
theorem VG{a:ν}{da:aj}{p1 p2 q1 q2:Pos}(ha:fO X [a] da) (hm:X.mg "list"=η) (hm2:X.mg "range"=η) (hg:Gl X "list":=by rfl) (jK:Gl X "range":=by rfl) (hc:X.calm=Δ:=by rfl)
  (he:ε [a] X.env=(Θ,eval a X.env)::ε [] X.env:=by exact dU rfl) (hb:(aaj q2 (ε [] X.env)).any (·.1)=Θ:=by exact gC rfl):bw X (.Call (.Name "list" p1) [.Call (.Name "range" p2) [a] [] q2] [] q1) (rH da):=by
 have hr:PE X (.Call (.Name "range" p2) [a] [] q2) _:=nu Ny jK hm2 (by decide +kernel) ha (by decide) (by decide) he hb
 refine(nu (Nz hc) hg hm (by decide +kernel) (kI hr lP (dU rfl)) (by decide) (by decide) (by exact dU rfl) (by exact gC rfl)).imp λσ H Q h=>?_
 obtain⟨ρ,e,c,W,V,p⟩:=h;refine⟨ρ,e,c,W,V,post.bind p λxs c1 aR H1 vs ex W1 X1 r1 p1=>?_⟩
 clear ex;split at p1
 ·rename_i j;obtain⟨v,r,rfl,hx,hr2⟩:=r1;cases hr2;cases hx;split at p1
  ·rename_i hb;refine⟨j,rfl,λp hp=>⟨p,0,j,rfl,fU,⟨ajr _,hb.1,hb.2⟩,λl hl=>?_⟩⟩
   exact qb (W1.fresh hp) aQ.ints (post.ext p1 (Ext.fresh W1 hp)) l hl
  ·exact p1.elim
 ·exact p1.elim
end
section
variable (o a:af) (b:aj) (e:Ev) (c:aa)
@[simp] theorem ad8:rH b e c=(b e c).bind λxs c=>match xs with
 |[.int j]=>if 0<j/\j<1000 then .ok (.lst ((iB 0 j).map D.int)) c else .bad
 |_=>.bad:=rfl
end
def mU:D->D->aa->R D:=λx y c=>match x,y with
 |.int i,.int j=>.ok (.int (Builtin.bitXor i j)) c
 |_,_=>.bad
def kh(o a:af):af:=λe c=>(o e c).bind λx c=>match x with
 |.ref k=>(a e c).bind λi c=>match i,c[k]? with
  |.int i,ζ (.lst l)=>if 0<=i/\i<l.length/\l.length<1000 then(match l[i.toNat]? with|some d=>.ok d (c.set k (.lst (l.eraseIdx i.toNat)))|none=>.bad)else .bad
  |_,_=>.bad
 |_=>.bad
def wR(a:aj):af:=λe c=>(a e c).bind λxs c=>match xs with
 |[.int j]=>if 0<j/\j<1000 then .ok (.ref c.length) (c++[.lst ((iB 0 j).map D.int)])else .bad
 |_=>.bad
section
variable {X:Cx}
theorem Xl:cE X (binaryOp .BitXor) (r2 X.K mU):=by
 intro pins s σ H v u vv uu Q I rv ru h;obtain⟨ρ,x,y,c,W,rx,ry,p⟩:=h;unfold mU at p;split at p
 ·cases rx;cases ry;exact V6 pins s σ H _ _ vv uu Q I rv ru ⟨_,_,rfl,rfl,p.here W rfl⟩
 ·exact p.elim
theorem JK{o a:ν}{dO da:af}{apos cpos:Pos}(ho:bw X o dO) (ha:bw X a da)
  (hbase:aaA o "pop" X.env (eval o X.env)=eval o X.env:=by rfl)
  (hfew:((aaj cpos (ε [a] X.env)).all (λx=>!x.1)&&(aaE cpos (aat [] X.env)).all (λx=>x.1.isSome)
   && decide ([a].length+([]:List aav).length+(if([]:List aav).isEmpty then 0 else 1)<30))=Δ:=by exact BX rfl)
  (hline:(apos.endLine==cpos.line)=Δ:=by rfl) (hs:ε [a] X.env=(Θ,eval a X.env)::ε [] X.env:=by exact dU rfl) (hplain:(aaj cpos (ε [] X.env)).any (·.1)=Θ:=by exact gC rfl) :
  bw X (.Call (.Attribute o "pop" apos) [a] [] cpos) (kh dO da) :=
 (Ds ai3 PySem.F.slot_list_pop PySem.F.type_list_pop Yd ho (kI ha lP hs) hbase hfew hline hs hplain).imp λσ H Q h=>by
  obtain⟨ρ,e,c,W,V,p⟩:=h;refine⟨ρ,e,c,W,V,post.bind p λx c1 aR H1 v _ W1 X1 r1 p1=>?_⟩
  cases x with
  |ref k =>
   obtain⟨ad,rfl,hk⟩:=r1;obtain⟨xs,hx⟩:=W1.at' (agn hk);refine⟨.inl ⟨rfl,xs,b9.of hx⟩,aR,e,c1,W1,V.mono W X1,post.bind p1 λi c2 d8 H2 ui _ W2 X2 r2 p2=>?_⟩
   split at p2
   ·rename_i i' l hl _;split at p2
    ·rename_i hh;cases r2;have hk2:=X2.pre k ad hk;obtain⟨nr,ys,hy,rl⟩:=W2.gc k ad _ hk2 hl;split at p2
     ·rename_i d hd;obtain⟨y,hy1,ry⟩:=rl.get hd;have hlen:=rl.length;refine⟨ad,ys,i',i'.toNat,y,rfl,rfl,hy,by omega,by omega,?_,hy1,?_⟩
      ·have e0:(if i'<0 then i'+(ys.length:Int)else i')=i':=if_neg (by omega)
       unfold seqIndex?;simp only[e0];rw[if_pos (by simp only[af1,decide_eq_true_eq];omega)]
      ·rw[aht]at p2 ⊢;refine p2 d8 _ y (W2.write hk2 ?_ ((rl.take _).append (rl.drop _))) (Ext.write hk2) (Rel.mono W2 (Ext.write hk2) _ _ ry);rw[vK,XD nr,XE nr];rfl
     ·exact p2.elim
    ·exact p2.elim
   ·exact p2.elim
  |_=>exact p1.elim
theorem VF{a:ν}{da:aj}{p1 p2 q1 q2:Pos}(ha:fO X [a] da) (hm:X.mg "list"=η) (hm2:X.mg "range"=η) (hg:Gl X "list":=by rfl) (jK:Gl X "range":=by rfl) (hc:X.calm=Δ:=by rfl)
  (he:ε [a] X.env=(Θ,eval a X.env)::ε [] X.env:=by exact dU rfl) (hb:(aaj q2 (ε [] X.env)).any (·.1)=Θ:=by exact gC rfl):bw X (.Call (.Name "list" p1) [.Call (.Name "range" p2) [a] [] q2] [] q1) (wR da):=by
 have hr:PE X (.Call (.Name "range" p2) [a] [] q2) _:=nu Ny jK hm2 (by decide +kernel) ha (by decide) (by decide) he hb
 refine(nu (Nz hc) hg hm (by decide +kernel) (kI hr lP (dU rfl)) (by decide) (by decide) (by exact dU rfl) (by exact gC rfl)).imp λσ H Q h=>?_
 obtain⟨ρ,e,c,W,V,p⟩:=h;refine⟨ρ,e,c,W,V,post.bind p λxs c1 aR H1 vs ex W1 X1 r1 p1=>?_⟩
 clear ex;split at p1
 ·rename_i j;obtain⟨v,r,rfl,hx,hr2⟩:=r1;cases hr2;cases hx;split at p1
  ·rename_i hb;refine⟨j,rfl,λp hp=>⟨p,0,j,rfl,fU,⟨ajr _,hb.1,hb.2⟩,λl hl=>?_⟩⟩
   have nr:bX ((iB 0 j).map D.int)=Δ:=iP.mpr λd hd=>by
    obtain⟨i,_,rfl⟩:=afW.mp hd;rfl
   exact DN (W1.fresh hp) nr aQ.ints (post.ext p1 (Ext.fresh W1 hp)) l hl
  ·exact p1.elim
 ·exact p1.elim
end
section
variable (o a:af) (b:aj) (e:Ev) (c:aa)
@[simp] theorem OP(i j:Int):mU (.int i) (.int j) c=.ok (.int (Builtin.bitXor i j)) c:=rfl
@[simp] theorem O2:wR b e c=(b e c).bind λxs c=>match xs with
 |[.int j]=>if 0<j/\j<1000 then .ok (.ref c.length) (c++[.lst ((iB 0 j).map D.int)])else .bad
 |_=>.bad:=rfl
end
theorem HQ{l c:Int}{t u:Tok}{v:Γ}:∀(xs:List Γ),aaS xs->aaS (xs++[.int l t,.int c u,v])
 |[],_=>trivial
 |.int _ _ :: .int _ _::_::rest,h=>HQ (l:=l) (c:=c) (t:=t) (u:=u) (v:=v) rest h
theorem Od{pos p:Pos}{v cv:Γ}:∀(xs:List Γ),aaS xs->codeAmong p (xs++[rawInt pos.line,rawInt pos.col,v])=ζ cv->codeAmong p xs=ζ cv\/cv=v
 |[],_,h=>by
  simp only[agf,rawInt,codeAmong]at h;split at h
  ·exact .inr (agc h).symm
  ·cases h
 |.int a _ :: .int b _::x::rest,ht,h=>by
  simp only[aiA,codeAmong]at h ⊢;split at h
  ·rename_i hc;rw[if_pos hc];exact .inl h
  ·rename_i hc;rw[if_neg hc];exact Od rest ht h
structure adJ (H H':Hp) (n:Nat) (P:Ξ) (q:Str) (e:ν) (cl:List (Str×Ξ)) (a:Ξ):Prop where
 at':∃o c,H' a=ζ (.ext (qw a o))/\xP e o q c cl/\H' c=ζ (.ext (rM c q))
 keep:∀b u,H b=ζ u->wo u=Θ->H' b=ζ u
 new:∀b,b<n->H b=η->H' b=η
 tabs:∀b ps,b≠P->H b=ζ (.dj ps)->H' b=ζ (.dj ps)
 tab:TabAt H' P q
section
variable {X:Cx}{pins:List (Ξ×Obj)}{σ:St}{H:Hp}{s:Ψ}
theorem NJ{h1 h2:υ}{c:Ξ}{q:Str}(x:h1.CodeRec (.ref c) q) (k:∀o,h1.get? c=ζ o->h2.get? c=ζ o):h2.CodeRec (.ref c) q:=by
 obtain⟨c',oc,vs,t,e,h,r⟩:=x;cases e;exact⟨_,oc,vs,t,rfl,k _ h,r⟩
theorem YX{c P:Ξ}{q:Str}{params:aax}{body:ν}{scope:aaq}{pos:Pos}{clos:List (Str×Ξ)}{Q:Γ->Ψ->Prop}
  (I:Inv X pins σ H s) (hcode:X.env.code=.ref c) (hq:X.env.qual++"<lambda>"=q) (hC:PySem.W.codeHdIn X.K c P=Δ) (hT:TabAt H P q) (hcl:closureFor scope X.env=pure clos) (hdef:defaultsOf params X.env=([],[]))
  (h:∀a H' s',Inv X pins σ H' s'->s.heap.objs.size<=a->adJ H H' s.heap.objs.size P q (.Lambda params body scope pos) clos a->Q (.ref a) s') :
  wpAny (model X.prog X.w) X.A (eval (.Lambda params body scope pos) X.env) Q X.xe s:=by
 obtain⟨ps,hP,ht,hcs⟩:=hT;have wG:s.heap.get? P=ζ (PySem.W.tabObj ps):=I.hok P _ hP;have hns:s.heap.Ns μ X.mg:=I.mod.glob.keeps I.bk;obtain⟨bm,ob,b1,b2,b3,b4,b5,b6⟩:=I.mod.bmod;have xG:=I.bk _ _ b3;have hgP:μ≠P:=λz=>by
  obtain⟨o,es,ep,e,hd,_⟩:=hns;rw[z,wG]at e;cases e;cases hd
 have hbP:bm≠P:=λz=>by rw[z,wG]at xG;cases xG;cases b4
 have hbG:bm≠μ:=λz=>by
  obtain⟨o,es,ep,e,hd,_⟩:=hns;rw[z,e]at xG;cases xG;rw[hd]at b6;cases b6
 have hB:s.heap.BuiltinsAt X.mg P:=⟨bm,ob,b1,b2,hbG,hbP,xG,b4,b5,b6⟩;have C:PySem.W.CodeHd s.heap c P:=aks I.fM hC;refine PySem.W.kla_eval hdef ?_;rw[hq];have My:P<s.heap.objs.size:=afU wG;cases hf:codeAmong pos ps.toList with
 |some cv =>
  obtain⟨c',rfl,hc'⟩:=hcs pos cv hf;refine PySem.W.kla_makeFunctionHit hcl I.ok.glob hns hcode C wG ht hf hB λctv h' tk hk hsz=>?_
  generalize ho:({cls:=.type "function",data:=.func (PySem.W.kla_fn "<lambda>" q params body scope clos ((X.mg "__name__").getD .none) (.ref c') ctv)}:Obj)=o
  have hof:o.isFreed=Θ:=by rw[<-ho];rfl
  have hn:H h'.objs.size=η:=I.hok.fresh hsz;have nb:∀b u,H b=ζ u->b≠h'.objs.size:=λb u e=>eB e hn
  refine h h'.objs.size (upd H h'.objs.size (.ext (qw h'.objs.size o))) _ (I.laid (t':=tk) (λb u e=>afS _ (hk b u e)) hsz ?_) hsz ⟨⟨o,c',fU,⟨_,ctv,ho.symm⟩,by rw[cB (nb _ _ hc')];exact hc'⟩,λb u e _=>by rw[cB (nb b u e)];exact e,λb hb e=>by rw[cB (afZ (af2 hb hsz))];exact e,λb ps' _ e=>by rw[cB (nb b _ e)];exact e,⟨ps,by rw[cB (nb _ _ hP)];exact hP,ht,λp v e=>let⟨d,e1,e2⟩:=hcs p v e;⟨d,e1,by rw[cB (nb _ _ e2)];exact e2⟩⟩⟩
  exact⟨af3 _ hof,⟨_,af3 _ hof⟩,λh1 h2 e k=>k _ e⟩
 |none =>
  refine PySem.W.kla_makeFunction hcl I.ok.glob hns hcode C wG ht hf hgP hB λc' ctv h' tk hx hge hlt hrec htb=>?_
  generalize ho:PySem.W.kla_obj "<lambda>" q params body scope clos ((X.mg "__name__").getD .none) c' ctv=o
  have hsz:s.heap.objs.size<=h'.objs.size:=agg hge (ag4 hlt);have hof:o.isFreed=Θ:=by rw[<-ho];rfl
  have hnc:H c'=η:=I.hok.fresh hge;have hna:H h'.objs.size=η:=I.hok.fresh hsz;have hca:c'≠h'.objs.size:=afZ hlt;have hPc:P≠c':=afZ (af2 My hge);have hPa:P≠h'.objs.size:=afZ (af2 My hsz)
  generalize hps:ps ++ #[rawInt pos.line,rawInt pos.col,.ref c']=ps' at htb
  let H':Hp:=upd (upd (upd H P (.dj ps')) c' (.ext (rM c' q))) h'.objs.size (.ext (qw h'.objs.size o))
  have rS:∀b,b≠P->b≠c'->b≠h'.objs.size->H' b=H b:=λb n1 n2 n3=>by
   show upd (upd (upd H P (.dj ps')) c' _) h'.objs.size _ b=_;rw[cB n3,cB n2,cB n1]
  have uC:H' P=ζ (.dj ps'):=by
   show upd (upd (upd H P (.dj ps')) c' _) h'.objs.size _ P=_;rw[cB hPa,cB hPc,fU]
  have FF:H' c'=ζ (.ext (rM c' q)):=by
   show upd (upd (upd H P (.dj ps')) c' _) h'.objs.size _ c'=_;rw[cB hca,fU]
  have Oa:H' h'.objs.size=ζ (.ext (qw h'.objs.size o)):=fU;have old:∀b u,H b=ζ u->wo u=Θ->H' b=ζ u:=λb u e t=>by
   rw[rS b (λz=>by rw[z,hP]at e;cases e;cases t) (eB e hnc) (eB e hna)];exact e
  have kp:∀b ob,b≠P->s.heap.get? b=ζ ob->(h'.push o).get? b=ζ ob:=λb ob n e=>afS _ (hx b ob n e)
  have ZY:ez X.prog X.w H' (h'.push o):=λb u e=>by
   by_cases h1:b=h'.objs.size
   ·subst h1;rw[Oa]at e;cases e;exact⟨af3 _ hof,⟨_,af3 _ hof⟩,λh1 h2 e k=>k _ e⟩
   ·by_cases h2:b=c'
    ·subst h2;rw[FF]at e;cases e;obtain⟨d,oc,vs,t,e0,e1,e2⟩:=id hrec;cases e0;refine⟨NJ hrec λo e=>afS _ e,⟨oc,afS _ e1⟩,λh1 h2 x k=>NJ x k⟩
    ·by_cases h3:b=P
     ·subst h3;rw[uC]at e;cases e;exact afS _ htb
     ·rw[rS b h3 h2 h1]at e;refine(I.hok b u e).stay (λd w hd z=>kp d w ?_ z) (λd z=>?_) λd xs z=>?_
      ·rcases hd with hd|hd
       ·rw[hd];exact h3
       ·intro z2;rw[z2,hP]at hd;cases hd
      ·exact old d _ z rfl
      ·exact old d _ z rfl
  have I':Inv X pins σ H' {s with heap:=h'.push o,toks:=tk}:=by
   refine I.step (g':=s.gens) (d':=s.drawn) (ch:=[]) (λ_ z=>nomatch z) (λb ob _ _ _ e n=>kp b ob (λz=>by rw[z,hP]at n;cases n) e) (λb ob _ _ _ e n=>⟨ob.slots,kp b ob (λz=>by rw[z,hP]at n;cases n) e⟩) (λb ob _ e n=>?_) (λb ob _ e=>?_) (λb xs e=>old b _ e rfl) (λb o' u e=>old b _ e rfl) (λb ps2 e=>?_) (λm hm=>?_) ZY I.bare
   ·have hb:=afU e;rw[rS b (λz=>by rw[z,hP]at n;cases n) (afZ (af2 hb hge)) (afZ (af2 hb hsz))]
    exact n
   ·by_cases hb:b=P
    ·subst hb;exact⟨_,afS _ htb⟩
    ·exact⟨ob,kp b ob hb e⟩
   ·by_cases hb:b=P
    ·subst hb;rw[hP]at e;cases e;exact⟨#[rawInt pos.line,rawInt pos.col,.ref c'],by rw[uC,hps]⟩
    ·refine⟨#[],?_⟩;rw[rS b hb (eB e hnc) (eB e hna),e];simp
   ·have hLP:X.env.locals≠P:=λz=>by have:=I.free;rw[z,hP]at this;cases this
    obtain⟨ol,es,ep,e,r⟩:=hm;exact⟨ol,es,ep,kp _ _ hLP e,r⟩
  refine h h'.objs.size H' _ I' hsz ⟨⟨o,c',Oa,⟨_,ctv,ho.symm⟩,FF⟩,old,λb hb e=>?_,λb ps2 nb e=>?_,⟨ps',uC,?_,λp v e=>?_⟩⟩
  ·rw[rS b (λz=>by rw[z,hP]at e;cases e) (afZ (af2 hb hge)) (afZ (af2 hb hsz))];exact e
  ·rw[rS b nb (eB e hnc) (eB e hna)];exact e
  ·rw[<-hps,akt];exact HQ _ ht
  ·rw[<-hps,akt]at e
   rcases Od ps.toList ht e with e|e
   ·obtain⟨d,e1,e2⟩:=hcs p v e;exact⟨d,e1,old d _ e2 rfl⟩
   ·exact⟨c',e,FF⟩
end
def gr(H:Hp) (F:Ξ->Option Obj):Hp:=λb=>match F b with
 |some o=>ζ (.dF o (.own 0))
 |none=>H b
def dP(H:Hp) (F:Ξ->Option Obj):Hp:=λb=>match F b with
 |some _=>η
 |none=>H b
section
variable {H H':Hp}{F:Ξ->Option Obj}{b:Ξ}{o:Obj}{u:HO}
theorem nZ(h:F b=ζ o):gr H F b=ζ (.dF o (.own 0)):=by unfold gr;rw[h]
theorem jL(h:F b=η):gr H F b=H b:=by unfold gr;rw[h]
theorem sd(h:F b=ζ o):dP H F b=η:=by unfold dP;rw[h]
theorem jB(h:F b=η):dP H F b=H b:=by unfold dP;rw[h]
theorem G3(hF:∀b o,F b=ζ o->H b=η) (h:H b=ζ u):F b=η:=by
 cases e:F b with
 |none=>rfl
 |some o=>rw[hF b o e]at h;cases h
theorem j9(hF:∀b o,F b=ζ o->H b=η) (h:H b=ζ u):gr H F b=ζ u:=by rw[jL (G3 hF h)];exact h
end
section
variable {X:Cx}{pins:List (Ξ×Obj)}{σ:St}{H H':Hp}{s s':Ψ}{F:Ξ->Option Obj}
structure G2 (X:Cx) (H:Hp) (s:Ψ) (F:Ξ->Option Obj):Prop where
 heap:∀b o,F b=ζ o->s.heap.get? b=ζ o
 free:∀b o,F b=ζ o->H b=η
 high:∀b o,F b=ζ o->X.s₀.heap.objs.size<=b
 loc:∀b o,F b=ζ o->b≠X.env.locals
theorem MO{P:π}{w:χ}{h:υ}(hok:ez P w H h) (hF:∀b o,F b=ζ o->H b=η) (hh:∀b o,F b=ζ o->h.get? b=ζ o):ez P w (gr H F) h:=λb u e=>by
 cases hb:F b with
 |some o =>
  rw[nZ hb]at e;cases e;exact⟨hh b o hb,o,hh b o hb⟩
 |none =>
  rw[jL hb]at e;exact(hok b u e).stay (λ_ _ _ z=>z) (λc z=>j9 hF z) λc xs z=>j9 hF z
theorem MP(I:Inv X pins σ H s) (Z:G2 X H s F):rY X.prog X.w X.K X.mg X.base X.A X.stack s (gr H F):=by
 have e:=I.E6;have sz:X.base.objs.size<=X.s₀.heap.objs.size:=I.ok.jb;refine⟨e.frames,e.mod,λb o h=>?_,e.jb,e.iQ,λb hb=>?_,MO I.hok Z.free Z.heap,e.bare⟩
 ·obtain⟨h1,h2⟩:=e.bs b o h;refine⟨h1,?_⟩;cases hb:F b with
  |none=>rw[jL hb];exact h2
  |some ob=>exact absurd (af2 (afU h) (agg sz (Z.high b ob hb))) (agB _)
 ·cases hF:F b with
  |none=>rw[jL hF];exact e.kX b hb
  |some ob =>
   exfalso
   rcases afT.mp (I.pM b hb)with z|z
   ·exact Z.loc b ob hF z
   ·obtain⟨_,o2,ho,_⟩:=I.ok.iQ.mem z;exact absurd (af2 (afU ho) (Z.high b ob hF)) (agB _)
theorem PF{fs:List Ξ}{h h':υ}{P:π}{w:χ}(hF:∀b o,F b=ζ o->H b=η) (hh:∀b o,F b=ζ o->h.get? b=ζ o) (hfs:∀b o,F b=ζ o->b∉fs) (un:Un fs [] (gr H F) H' h h') (hok:ez P w H' h'):Un fs [] H (dP H' F) h h'/\ez P w (dP H' F) h':=by
 have fz:∀b o,F b=ζ o->H' b=ζ (.dF o (.own 0)):=λb o e=>un.jm b o _ (nZ e)
 have nn:∀{b:Ξ}{u:HO},H b=ζ u->F b=η:=λe=>G3 hF e
 refine⟨⟨λb o e n hb hx=>?_,λb o e n hb hx=>?_,λb o e n hx=>?_,un.there,λb xs e=>?_,λb o u e=>?_,λb ps e=>?_⟩,λb u e=>?_⟩
 ·cases hb':F b with
  |none=>exact un.keep b o e (by rw[jL hb'];exact n) hb hx
  |some ob =>
   have e1:=hh b ob hb';rw[e]at e1;cases e1;exact(hok b _ (fz b o hb')).1
 ·cases hb':F b with
  |none=>exact un.slot b o e (by rw[jL hb'];exact n) hb hx
  |some ob=>exact absurd hb (hfs b ob hb')
 ·cases hb':F b with
  |none=>rw[jB hb'];exact un.free b o e (by rw[jL hb'];exact n) hx
  |some ob=>exact sd hb'
 ·rw[jB (nn e)];exact un.tups b xs (j9 hF e)
 ·rw[jB (nn e)];exact un.jm b o u (j9 hF e)
 ·obtain⟨more,z⟩:=un.jC b ps (j9 hF e);exact⟨more,by rw[jB (nn e)];exact z⟩
 ·cases hb:F b with
  |some ob=>rw[sd hb]at e;cases e
  |none =>
   rw[jB hb]at e;have st:∀{c:Ξ}{v:HO},H' c=ζ v->(∀o,v≠.dF o (.own 0))->dP H' F c=ζ v:=fun{c v} z n=>by
    cases hc:F c with
    |none=>rw[jB hc];exact z
    |some oc=>rw[fz c oc hc]at z;exact absurd (agc z).symm (n oc)
   exact(hok b u e).stay (λ_ _ _ z=>z) (λc z=>st z λ_ q=>nomatch q) λc xs z=>st z λ_ q=>nomatch q
theorem SS{k:Nat}{f:Ξ}{fd:aag}{ps:List Str}{sp:Sp}{us:List Γ}{vs:List V}{Q:VK}(G:bL X.prog X.w X.K X.mg X.base bC k f fd ps sp) (hr:er k X.A) (hb:Binds X.K fd ps []) (I:Inv X pins σ H s) (Z:G2 X H s F) (r:Vals vs us)
  (h:sp vs (gr H F) (λv H'=>Q v (dP H' F)) E0):wpAny (model X.prog X.w) X.A (call (.ref f) us) (EP X pins σ Q) X.xe s:=by
 have hl:us.length=ps.length:=by rw[<-r.length];exact G.len _ _ _ _ h
 have hb':=hb s us I.fM (by rw[agS];exact hl)
 rw[agS]at hb';refine ahL (ag6 (G.run X.A X.stack s (gr H F) ⟨us,[]⟩ us vs _ E0 hr (MP I Z) hb' r h) λr s' hq=>?_)
 cases r with
 |error e=>exact False.elim hq
 |ok fl =>
  cases fl with
  |ret u =>
   obtain⟨v,H',os,bare,un,hok,rv,q⟩:=hq;obtain⟨BO,ZZ⟩:=PF Z.free Z.heap (λb o e hb=>by
    have:=(MP I Z).kX b hb;rw[nZ e]at this;cases this) un hok
   exact⟨v,dP H' F,I.Fv os BO ZZ bare λb z=>absurd z (by simp),rv,q⟩
  |next=>exact False.elim hq
  |brk=>exact False.elim hq
  |cont=>exact False.elim hq
end
section
variable {K:ξ}{ρ ρ':List Ξ}{H H':Hp}{c c':aa}{F:Ξ->Option Obj}
theorem Hz(W:Wd K ρ H c) (k:∀b u,H b=ζ u->wo u=Θ->H' b=ζ u) (t:rV K H'):Ext ρ H ρ H'/\Wd K ρ H' c:=by
 have X:Ext ρ H ρ H':=⟨λ_ _ e=>e,λa o e n z=>⟨k a o e z,n⟩⟩
 refine⟨X,W.nd,W.len,λj a cl e1 e2=>?_,t⟩
 have q:=W.gc j a cl e1 e2;cases cl with
 |lst l =>
  obtain⟨nr,xs,e,r⟩:=q;exact⟨nr,xs,k _ _ e rfl,aQ.mono W X l xs r⟩
theorem HA(W:Wd K ρ H c) (hF:∀b o,F b=ζ o->H b=η):Ext ρ H ρ (gr H F)/\Wd K ρ (gr H F) c :=
 Hz W (λb u e _=>j9 hF e) (W.tab.mono (λ_ _ e=>j9 hF e) λ_ _ e=>j9 hF e)
theorem jA{b:Ξ}{u:HO}(hF:∀b o,F b=ζ o->H b=ζ (.dF o (.own 0))) (e:H b=ζ u) (n:∀o,u≠.dF o (.own 0)):dP H F b=ζ u:=by
 cases hc:F b with
 |none=>rw[jB hc];exact e
 |some oc=>rw[hF b oc hc]at e;exact absurd (agc e).symm (n oc)
mutual
theorem Rel.dP(hF:∀b o,F b=ζ o->H b=ζ (.dF o (.own 0))):∀(d:D) (v:V),fJ d=Δ->Rel K ρ H d v->Rel K ρ (dP H F) d v
 |.aL,v,_,h=>h
 |.bl b,v,_,h=>h
 |.int i,v,_,h=>h
 |.str y,v,_,h=>h
 |.ty n,v,_,h=>h
 |.tup l,v,n,h=>by
  obtain⟨a,xs,e,s,r⟩:=h;exact⟨a,xs,e,jA hF s (λ_ z=>nomatch z),aQ.dP hF l xs (by unfold fJ at n;exact n) r⟩
 |.lst l,v,n,h=>by
  obtain⟨a,xs,e,s,r⟩:=h;exact⟨a,xs,e,⟨jA hF s.1 (λ_ z=>nomatch z),s.2⟩,aQ.dP hF l xs (by unfold fJ at n;exact n) r⟩
 |.ref k,v,_,h=>h
 |.cH l,v,_,h=>by
  obtain⟨a,e,s⟩:=h;refine⟨a,e,?_⟩
  rcases s with⟨s,z⟩|s
  ·rcases s with s|⟨o,s⟩
   ·exact .inl ⟨.inl (jA hF s (λ_ z=>nomatch z)),z⟩
   ·exact .inl ⟨.inr ⟨o,jA hF s (λ_ z=>nomatch z)⟩,z⟩
  ·exact .inr s
 |.fn a n,v,_,h=>h
 |.i7,v,_,h=>by
  obtain⟨a,e,q⟩:=h;exact⟨a,e,jA hF q (λ_ z=>nomatch z)⟩
 |.dct ks,v,_,h=>by
  obtain⟨a,kvs,e,q,z⟩:=h;exact⟨a,kvs,e,jA hF q (λ_ z=>nomatch z),z⟩
 |.exc y,v,_,h=>by
  obtain⟨a,C,e,n,q⟩:=h;exact⟨a,C,e,n,jA hF q (λ_ z=>nomatch z)⟩
 |.lam _ _ _ _,v,n,h=>by unfold fJ at n;cases n
theorem aQ.dP(hF:∀b o,F b=ζ o->H b=ζ (.dF o (.own 0))):∀(l:List D) (xs:List V),fL l=Δ->aQ K ρ H l xs->aQ K ρ (dP H F) l xs
 |[],xs,_,h=>h
 |d::l,xs,n,h=>by
  obtain⟨y,r,e,h1,h2⟩:=h;unfold fL at n;rw[af1]at n;exact⟨y,r,e,Rel.dP hF d y n.1 h1,aQ.dP hF l r n.2 h2⟩
end
theorem Hy(W:Wd K ρ H c) (hF:∀b o,F b=ζ o->H b=ζ (.dF o (.own 0))):Wd K ρ (dP H F) c:=by
 refine⟨W.nd,W.len,λj a cl e1 e2=>?_,W.tab.mono (λ_ _ e=>jA hF e (λ_ z=>nomatch z)) λ_ _ e=>jA hF e (λ_ z=>nomatch z)⟩
 have q:=W.gc j a cl e1 e2;cases cl with
 |lst l =>
  obtain⟨nr,xs,e,r⟩:=q;exact⟨nr,xs,jA hF e (λ_ z=>nomatch z),aQ.dP hF l xs (zp l nr) r⟩
theorem abm(x:Ext ρ (gr H F) ρ' H') (hF:∀b o,F b=ζ o->H b=η):Ext ρ H ρ' (dP H' F) :=
 ⟨x.pre,λa o e n t=>by
  obtain⟨h1,h2⟩:=x.keep a o (j9 hF e) n t;exact⟨by rw[jB (G3 hF e)];exact h1,h2⟩⟩
theorem abn(x:Ext ρ (dP H F) ρ' H') (W':Wd K ρ' H' c') (hF:∀b o,F b=ζ o->H b=ζ (.dF o (.own 0))) (hn:∀b o,F b=ζ o->H' b=η):Ext ρ H ρ' (gr H' F) :=
 ⟨x.pre,λa o e n t=>by
  cases hc:F a with
  |some oc =>
   have:=hF a oc hc;rw[e]at this;cases this;exact⟨nZ hc,W'.nil (hn a oc hc)⟩
  |none =>
   obtain⟨h1,h2⟩:=x.keep a o (by rw[jB hc];exact e) n t
   exact⟨by rw[jL hc];exact h1,h2⟩⟩
end
end L2
namespace L2
open PySem PySem.Spec PyProof.Rows
structure gM (X:Cx) (ns:List Str) (js:List Nat) (scope:aaq):Prop where
 names:∀x∈scope.names,x.2=.free->X.env.kindOf x.1=ζ .cell\/X.env.kindOf x.1=ζ .free
 got:∀(i j:Nat) (x:Str),js[i]? = ζ j->ns[i]? = ζ x->(x,NameKind.free)∈scope.names/\X.N[j]? = ζ x/\(X.env.kindOf x=ζ .cell\/X.env.kindOf x=ζ .free)
 all:∀x,(x,NameKind.free)∈scope.names->x∈ns
def Lx(XN:List Str) (xn:List (Str×aab)) (ns:List Str) (js:List Nat) (names:List (Str×aab)):Bool :=
 names.all (λx=>decide (x.2≠NameKind.free)||((decide (xn.lookup x.1=ζ NameKind.cell)||decide (xn.lookup x.1=ζ NameKind.free))&&decide (x.1∈ns))) &&
 (js.zip ns).all (λq=>decide ((q.2,NameKind.free)∈names)&&decide (XN[q.1]? = ζ q.2)&&(decide (xn.lookup q.2=ζ NameKind.cell)||decide (xn.lookup q.2=ζ NameKind.free)))
theorem gM.of{X:Cx}{ns:List Str}{js:List Nat}{scope:aaq}(h:Lx X.N X.env.scope.names ns js scope.names=Δ):gM X ns js scope:=by
 unfold Lx at h;simp only[af1,afX,decide_eq_true_eq,ahp]at h;obtain⟨h1,h2⟩:=h;refine⟨λx hx e=>?_,λi j x hj hx=>?_,λx hx=>?_⟩
 ·rcases h1 x hx with z|z
  ·exact absurd e z
  ·exact z.1
 ·have hm:(j,x)∈js.zip ns:=by
   have:(js.zip ns)[i]? = ζ (j,x):=by rw[ajZ];exact⟨hj,hx⟩
   exact agn this
  obtain⟨⟨a,b⟩,d⟩:=h2 _ hm;exact⟨a,b,d⟩
 ·rcases h1 _ hx with z|z
  ·exact absurd rfl z
  ·exact z.2
section
variable {X:Cx}{pins:List (Ξ×Obj)}{σ:St}{H:Hp}{s:Ψ}{ns:List Str}{js:List Nat}{scope:aaq}
abbrev mL(X:Cx) (scope:aaq):List (Str×Ξ):=gw X.env scope.names []
theorem gM.clos(S:gM X ns js scope) (I:Inv X pins σ H s):closureFor scope X.env=pure (mL X scope):=by
 have e:=Ba (env:=X.env) scope.names [] λx hx hk=>I.ok.has x.1 (S.names x hx hk)
 show((forIn scope.names ([]:List (Str×Ξ)) fun(x:Str×aab) cs=>(if(x.2==NameKind.free)=Δ then do let a <-cellOf X.env x.1;pure (ForInStep.yield ((x.1,a)::cs))else pure (ForInStep.yield cs):Sem (ForInStep (List (Str×Ξ))))) >>= λcs=>pure cs)=_
 rw[e,pure_bind]
theorem gM.cap(S:gM X ns js scope) (I:Inv X pins σ H s) {x:Str}{c:Ξ}(h:(mL X scope).lookup x=ζ c):(x,NameKind.free)∈scope.names/\X.env.cells.lookup x=ζ c:=by
 rcases FI _ _ h with⟨a,b⟩|q
 ·refine⟨a,?_⟩;obtain⟨c',hc⟩:=I.ok.has x (S.names _ a rfl);rw[hc]at b ⊢;rw[b];rfl
 ·cases q
theorem gM.has(S:gM X ns js scope) (I:Inv X pins σ H s) {x:Str}(h:(x,NameKind.free)∈scope.names):∃c,(mL X scope).lookup x=ζ c:=aii.mp (FJ _ _ (.inr h))
theorem gM.cl(S:gM X ns js scope) (I:Inv X pins σ H s):xS (mL X scope) ns:=⟨λx y c h1 h2=>I.ok.inj x y c (S.cap I h1).2 (S.cap I h2).2,λx c h=>S.all x (S.cap I h).1⟩
open Classical in
def nY(cl:List (Str×Ξ)) (h:υ):Ξ->Option Obj:=λb=>if ∃x,cl.lookup x=ζ b then h.get? b else η
theorem ET{cl:List (Str×Ξ)}{h:υ}{b:Ξ}{o:Obj}(e:nY cl h b=ζ o):(∃x,cl.lookup x=ζ b)/\h.get? b=ζ o:=by
 unfold nY at e;split at e
 ·rename_i z;exact⟨z,e⟩
 ·cases e
theorem MN{cl:List (Str×Ξ)}{h:υ}{b:Ξ}{o:Obj}{x:Str}(e:cl.lookup x=ζ b) (g:h.get? b=ζ o):nY cl h b=ζ o:=by
 unfold nY;rw[if_pos ⟨x,e⟩,g]
theorem gM.fz(S:gM X ns js scope) (I:Inv X pins σ H s) (hfn:∀x,X.fn x=Δ):G2 X H s (nY (mL X scope) s.heap):=by
 refine⟨λb o e=>(ET e).2,λb o e=>?_,λb o e=>?_,λb o e=>?_⟩
 all_goals
  obtain⟨⟨x,hx⟩,_⟩:=ET e;have hc:=(S.cap I hx).2
 ·exact I.jo x b hc
 ·exact I.ok.oZ x b (hfn x) hc
 ·exact I.oY x b hc
theorem gM.cells(S:gM X ns js scope) (I:Inv X pins σ H s) (i j:Nat) (x:Str) (v:V) (hj:js[i]? = ζ j) (hx:ns[i]? = ζ x) (hv:σ[j]? = ζ (ζ v)):∃c oc u,(mL X scope).lookup x=ζ c/\nY (mL X scope) s.heap c=ζ oc/\oc.data=.cell (ζ u)/\RelV v u:=by
 obtain⟨h1,h2,h3⟩:=S.got i j x hj hx;obtain⟨c,hc⟩:=S.has I h1;have hce:=(S.cap I hc).2;obtain⟨m,hm,hl⟩:=I.loc;obtain⟨u,ru,lk⟩:=hl j x v h2 hv (h3.elim (λz=>.inr (.inl z)) λz=>.inr (.inr z))
 rcases lk with⟨k,_⟩|⟨_,c',hc',oc,ho,hd⟩
 ·rcases h3 with z|z<;>(rw[z]at k;cases k)
 ·rw[hce]at hc';cases hc';exact⟨c,oc,u,hc,MN hc ho,hd,ru⟩
structure adI (H H':Hp) (P:Ξ) (q:Str) (e:ν) (cl:List (Str×Ξ)) (a:Ξ):Prop where
 at':∃o c,H' a=ζ (.ext (qw a o))/\xP e o q c cl/\H' c=ζ (.ext (rM c q))
 keep:∀b u,H b=ζ u->wo u=Θ->H' b=ζ u
 tabs:∀b ps,b≠P->H b=ζ (.dj ps)->H' b=ζ (.dj ps)
 tab:TabAt H' P q
def QY(P:Ξ) (q:Str) (e:ν) (cl:List (Str×Ξ)):TE:=λ_ H Q=>TabAt H P q/\∀a H',adI H H' P q e cl a->Q (.ref a) H'
theorem Vq{c P:Ξ}{q:Str}{params:aax}{body:ν}{pos:Pos}(S:gM X ns js scope) (hcode:X.env.code=.ref c) (hq:X.env.qual++"<lambda>"=q) (hC:PySem.W.codeHdIn X.K c P=Δ) (hdef:defaultsOf params X.env=([],[])) :
  PE X (.Lambda params body scope pos) (QY P q (.Lambda params body scope pos) (mL X scope)):=λpins s σ H Q I h =>
 YX I hcode hq hC h.1 (S.clos I) hdef λa H' s' I' hge N=>⟨.ref a,H',I',rfl,h.2 a H' ⟨N.at',N.keep,N.tabs,N.tab⟩⟩
def Q7(cl:List (Str×Ξ)) (ns:List Str) (js:List Nat) (sp:Sp) (t:TA):TE:=λσ H Q=>t σ H λvs H1=>xS cl ns->∀F:Ξ->Option Obj,(∀b o,F b=ζ o->H1 b=η) ->
 (∀(i j:Nat) (x:Str) (v:V),js[i]? = ζ j->ns[i]? = ζ x->σ[j]? = ζ (ζ v)->∃c oc u,cl.lookup x=ζ c/\F c=ζ oc/\oc.data=.cell (ζ u)/\RelV v u)->sp vs (gr H1 F) (λv H'=>Q v (dP H' F)) E0
theorem Vx{x:Str}{st:ψ}{ps:List Str}{f:Ξ}{fd:aag}{k:Nat}{sp:Sp}{e:ν}{es:List ν}{t:TA}{p pos:Pos}(D:Def X.K X.mg x st ps f fd) (G:bL X.prog X.w X.K X.mg X.base bC k f fd ps sp) (hr:er k X.A) (S:gM X ns js scope) (hfn:∀x,X.fn x=Δ) (ha:PA X (e::es) t) (hg:Gl X x:=by rfl)
  (hdb:(x==("__debug__":Str))=Θ:=by decide) (he:ε (e::es) X.env=(Θ,eval e X.env)::ε es X.env:=by rfl) (hpl:(aaj pos (ε es X.env)).any (·.1)=Θ:=by rfl) :
  PE X (.Call (.Name x p) (e::es) [] pos) (Q7 (mL X scope) ns js sp t):=by
 intro pins s σ H Q I h;refine ahM (Ei I hg D.at' ?_ hdb);refine ajQ (h₀:=X.base) I.ok.mod.mj D.fn.kp (bR (ha pos pins s σ H _ I h) λus s1 ⟨vs,H1,I1,r,q⟩=>⟨I1.fM,?_⟩) he hpl
 exact SS G hr D.bd I1 (S.fz I1 hfn) r (q (S.cl I1) _ (λb o e=>(S.fz I1 hfn).free b o e) λi j x v h1 h2 h3=>S.cells I1 i j x v h1 h2 h3)
end
def getAll(e:Ev):List Nat->Option (List D)
 |[]=>ζ []
 |j::js=>match e[j]?,getAll e js with
  |some (ζ d),ζ l=>ζ (d::l)
  |_,_=>η
def rK(k:Nat) (m:List D->aa->R D) (d1:af) (E:ν) (ns:List Str) (js:List Nat):af:=λe c=>(d1 e c).bind λx c=>match getAll e js with
 |some l=>(m [x,.lam k E ns l] c).bind λv c=>if noRef v=Δ then .ok v c else .bad
 |none=>.bad
section
variable {X:Cx}{K:ξ}{ρ:List Ξ}{H Hf:Hp}{σ:St}
theorem NV{e:Ev}{cl:List (Str×Ξ)}{F:Ξ->Option Obj}(Vv:eH K ρ H e σ) (hV:∀d v,Rel K ρ H d v->Rel K ρ Hf d v) (hf:∀c o,F c=ζ o->Hf c=ζ (.dF o (.own 0))):∀(js:List Nat) (ns:List Str) (l:List D),js.length=ns.length->getAll e js=ζ l ->
  (∀(i j:Nat) (x:Str) (v:V),js[i]? = ζ j->ns[i]? = ζ x->σ[j]? = ζ (ζ v)->∃c oc u,cl.lookup x=ζ c/\F c=ζ oc/\oc.data=.cell (ζ u)/\RelV v u)->∃xs,jd Hf cl ns xs/\aQ K ρ Hf l xs
 |[],[],l,_,h,_=>by
  unfold getAll at h;cases h;exact⟨[],rfl,rfl⟩
 |j::js,x::ns,l,hl,h,hc=>by
  unfold getAll at h;split at h
  ·rename_i d r hd hr;cases h;obtain⟨v,hv,rv⟩:=Vv.get j d hd;obtain⟨c,oc,u,h1,h2,h3,h4⟩:=hc 0 j x v rfl rfl hv;obtain⟨xs,h5,h6⟩:=NV Vv hV hf js ns r (Nat.succ.inj hl) hr λi j x v a b d=>hc (i+1) j x v a b d
   exact⟨v::xs,⟨v,xs,c,oc,u,rfl,h1,hf c oc h2,h3,h4,h5⟩,v,xs,rfl,hV d v rv,h6⟩
  ·cases h
 |[],_::_,_,hl,_,_=>by cases hl
 |_::_,[],_,hl,_,_=>by cases hl
def Ek(K:ξ):List (Str×Ξ):=qx.filterMap λx=>(PySem.W.tabIn K x).map λq=>(x,q.2)
def uY(K:ξ):Bool:=(Ek K).all λa=>(Ek K).all λb=>!(a.2==b.2)||(a.1==b.1)
theorem Qz(h:uY K=Δ) {x y:Str}{c d P:Ξ}(hx:x∈qx) (hy:y∈qx) (tx:PySem.W.tabIn K x=ζ (c,P)) (ty:PySem.W.tabIn K y=ζ (d,P)):x=y:=by
 unfold uY at h;have m:∀{z:Str}{c:Ξ},z∈qx->PySem.W.tabIn K z=ζ (c,P)->(z,P)∈Ek K:=fun{z c} hz tz=>ahw.mpr ⟨z,hz,by rw[tz];rfl⟩
 have:=afX.mp (afX.mp h _ (m hx tx)) _ (m hy ty)
 simpa using this
theorem Wd.XI{c:aa}{a:Ξ}{o:Obj}{u:HO}(W:Wd K ρ H c) (h:H a=ζ (.dF o u)):a∉ρ:=λm=>by
 obtain⟨ys,e⟩:=W.at' m;rw[e]at h;cases h
theorem JN{kk:Nat}{x y:Str}{st:ψ}{ps:List Str}{f c P:Ξ}{fd:aag}{k:Nat}{m:List D->aa->R D}{e1 body:ν}{d1:af}{params:aax}{scope:aaq}{ns:List Str}{js:List Nat}{p pos qv:Pos}
  (D:Def X.K X.mg x st ps f fd) (G:bL X.prog X.w X.K X.mg X.base bC k f fd ps (bU X.K 2 m)) (hr:er k X.A) (he1:bw X e1 d1) (S:gM X ns js scope) (hjn:js.length=ns.length) (hfn:∀x,X.fn x=Δ) (hy:y∈qx) (ht:PySem.W.tabIn X.K y=ζ (c,P)) (hap:uY X.K=Δ) (hcode:X.env.code=.ref c) (hq:X.env.qual++"<lambda>"=zL y) (hC:PySem.W.codeHdIn X.K c P=Δ)
  (hdef:defaultsOf params X.env=([],[]):=by rfl) (hg:Gl X x:=by rfl)
  (hdb:(x==("__debug__":Str))=Θ:=by decide) (hs1:ε [e1,.Lambda params body scope qv] X.env=(Θ,eval e1 X.env)::ε [.Lambda params body scope qv] X.env:=by exact dU rfl) (hs2:ε [.Lambda params body scope qv] X.env=(Θ,eval (.Lambda params body scope qv) X.env)::ε [] X.env:=by exact dU rfl) (hpl:(aaj pos (ε [.Lambda params body scope qv] X.env)).any (·.1)=Θ:=by exact gC rfl) :
  bw X (.Call (.Name x p) [e1,.Lambda params body scope qv] [] pos) (rK kk m d1 (.Lambda params body scope qv) ns js) :=
 PE.imp (Vx D G hr S hfn (kI he1 (kI (Vq (c:=c) (P:=P) (q:=zL y) S hcode hq hC hdef) lP hs2) hs1) hg hdb hs1 hpl) λσ H Q h=>by
  obtain⟨ρ,e,c0,W,V,pp⟩:=h;refine⟨ρ,e,c0,W,V,post.bind pp λx1 c1 aR H1 v _ W1 X1 r1 p1=>?_⟩
  have V1:=V.mono W X1;refine⟨W1.tab y hy c P ht,λa H' N=>?_⟩
  have QB:rV X.K H':=λz hz d P' tz=>by
   by_cases hP:P'=P
   ·subst hP;rw[Qz hap hz hy tz ht];exact N.tab
   ·exact(W1.tab z hz d P' tz).mono (λps e=>N.tabs P' ps hP e) λc φ e=>N.keep c _ e rfl
  obtain⟨X2,W2⟩:=Hz W1 N.keep QB;intro hcl F hF EK;obtain⟨X3,W3⟩:=HA W2 hF;have Oh:=X2.trans X3;split at p1
  ·rename_i l hl;obtain⟨xs,hxs,hrs⟩:=NV (Hf:=gr H' F) V1 (λd v r=>Rel.mono W1 Oh d v r) (λc o e=>nZ e) js ns l hjn hl EK
   obtain⟨o,cc,ha,hobj,hcc⟩:=N.at';refine⟨aR,[x1,.lam kk _ ns l],c1,W3,⟨v,[.ref a],rfl,Rel.mono W1 Oh x1 v r1,.ref a,[],rfl,⟨a,o,zL y,cc,_,xs,rfl,j9 hF ha,hobj,j9 hF hcc,hcl,hxs,hrs⟩,rfl⟩,rfl,?_⟩;cases hm:m [x1,.lam kk _ ns l] c1 with
   |bad=>rw[hm]at p1;exact p1.elim
   |ok d c2 =>
    rw[hm,R.aB]at p1;split at p1
    ·rename_i hn;intro ρ' H4 b W4 X4 r4;have fz:∀b o,F b=ζ o->H4 b=ζ (.dF o (.own 0)):=λb o e=>(X4.keep b _ (nZ e) (W3.XI (nZ e)) rfl).1
     exact p1 ρ' (dP H4 F) b (Hy W4 fz) (X2.trans (abm X4 hF)) (Rel.dP fz d b (zq d hn) r4)
    ·exact p1.elim
  ·exact p1.elim
end
def OB(s:Ψ) (H:Hp) (outer:List Env) (cl:List (Str×Ξ)) (ns:List Str) (cs:List V):Prop :=
 cs.length=ns.length/\∀(i:Nat) (x:Str),ns[i]? = ζ x->∃v c u,cs[i]? = ζ v/\cl.lookup x=ζ c/\s.heap.IsCell c (ζ u)/\RelV v u/\H c=η/\c∉frs outer
def rX(P:π) (w:χ) (K:ξ) (mg:Str->Option Γ) (base:υ) (k:Nat) (E:ν) (ns:List Str) (n:Nat) (sp:Sp):Prop :=
 ∀(A:ω) (outer:List Env) (s:Ψ) (H:Hp) (a:Ξ) (o:Obj) (q:Str) (cc:Ξ) (cl:List (Str×Ξ)) (us:List Γ) (vs cs:List V) (Q:VK),er k A->rY P w K mg base A outer s H->s.heap.get? a=ζ o->xP E o q cc cl->s.heap.CodeRec (.ref cc) q->xS cl ns ->
  OB s H outer cl ns cs->Vals vs us->vs.length=n->sp (vs++cs) H Q E0->codeAny (model P w) A (.call (.ref a) ⟨us,[]⟩) (CR bC outer P w H s Q E0) s
def wj(P:π) (w:χ) (K:ξ) (mg:Str->Option Γ) (base:υ) (N:List Str) (qual:Str) (scope:aaq) (f:Ξ) (cd:Γ) (cl:List (Str×Ξ)) (A:ω) (outer:List Env) (s:Ψ) (H:Hp):Cx where
 prog:=P
 w:=w
 K:=K
 mg:=mg
 base:=base
 A:=A.deeper (PySem.W.envX qual scope s.heap.objs.size f cd cl)
 N:=N
 s₀:=s
 H₀:=H
 env:=PySem.W.envX qual scope s.heap.objs.size f cd cl
 outer:=outer
 stack:=PySem.W.envX qual scope s.heap.objs.size f cd cl::outer
 ex:=[]
 calm:=Δ
 fn:=λ_=>Θ
 pn:=[]
 xe:=λ_ _=>False
structure uJ (ps ns:List Str) (scope:aaq):Prop where
 kind:scope.kind=.function
 co:scope.isCoroutine=Θ
 gen:scope.isGenerator=Θ
 nd:(ps++ns).Nodup
 par:∀x∈ps,scope.names.lookup x=ζ .local
 cap:∀x∈ns,scope.names.lookup x=ζ .free
 KI:∀y∈scope.names,y.2≠.cell
 free:∀y∈scope.names,y.2=.free->y.1∈ns
theorem uJ.of{ps ns:List Str}{scope:aaq}(h1:scope.kind=.function) (h2:scope.isCoroutine=Θ) (h3:scope.isGenerator=Θ)
  (h:(decide (ps++ns).Nodup&&ps.all (λx=>decide (scope.names.lookup x=ζ NameKind.local))&&ns.all (λx=>decide (scope.names.lookup x=ζ NameKind.free))&&scope.names.all (λy=>decide (y.2≠NameKind.cell)&&(decide (y.2≠NameKind.free)||decide (y.1∈ns))))=Δ):uJ ps ns scope:=by
 simp only[af1,afX,decide_eq_true_eq,ahp]at h;obtain⟨⟨⟨a,b⟩,c⟩,d⟩:=h;exact⟨h1,h2,h3,a,b,c,λy hy=>(d y hy).1,λy hy e=>(d y hy).2.elim (λz=>absurd e z) id⟩
theorem OH{x:Str}:∀{ps:List Str}{us:List Γ},x∉ps->(ps.zip us).reverse.lookup x=η:=fun{ps us} h=>by
 cases e:(ps.zip us).reverse.lookup x with
 |none=>rfl
 |some v=>exact absurd (ahN (aku.mp (agT e))).1 h
theorem Lk{x:Str}{v:Γ}:∀{l m:List (Str×Γ)},l.lookup x=η->(l++m).lookup x=m.lookup x
 |[],_,_=>rfl
 |(y,u)::l,m,h=>by
  rw[ags]at h;rw[aiA,ags];cases hb:x==y with
  |true=>rw[hb]at h;cases h
  |false=>rw[hb]at h;exact Lk (v:=v) h
theorem Lj{x:Str}{v:Γ}:∀{l m:List (Str×Γ)},l.lookup x=ζ v->(l++m).lookup x=ζ v
 |(y,u)::l,m,h=>by
  rw[ags]at h;rw[aiA,ags];cases hb:x==y with
  |true=>rw[hb]at h;exact h
  |false=>rw[hb]at h;exact Lj h
theorem G7{x:Str}{v:Γ}:∀{ps:List Str}{us:List Γ}{i:Nat},ps.Nodup->ps[i]? = ζ x->us[i]? = ζ v->(ps.zip us).reverse.lookup x=ζ v
 |p::ps,u::us,0,nd,h1,h2=>by
  cases h1;cases h2;rw[ahJ,akv,Lk (v:=v) (OH (agX.mp nd).1)];simp
 |p::ps,u::us,i+1,nd,h1,h2=>by
  rw[ahJ,akv];exact Lj (G7 (i:=i) (agX.mp nd).2 (by simpa using h1) (by simpa using h2))
 |[],_,_,_,h1,_=>by simp at h1
 |_::_,[],_,_,_,h2=>by simp at h2
theorem YW{P:π}{w:χ}{K:ξ}{mg:Str->Option Γ}{base:υ}{k:Nat}{params:aax}{body:ν}{scope:aaq}{pos:Pos}{ps ns:List Str}{sp:Sp}(S:uJ ps ns scope)
  (hbind:∀(q:Str) (cl:List (Str×Ξ)) (pm cdv ct:Γ) (us:List Γ),us.length=ps.length->bindArgs (PySem.W.kla_fn "<lambda>" q params body scope cl pm cdv ct) ⟨us,[]⟩=pure (ps.zip us))
  (hb:∀(q:Str) (f:Ξ) (cd:Γ) (cl:List (Str×Ξ)) (A:ω) (outer:List Env) (s:Ψ) (H:Hp) (vs:List V) (Q:VK),er k (A.deeper (PySem.W.envX q scope s.heap.objs.size f cd cl))->sp vs H Q E0->∃t,PE (wj P w K mg base (ps++ns) q scope f cd cl A outer s H) body t/\t (vs.map ζ) H Q) :
  rX P w K mg base (k+1) (.Lambda params body scope pos) ns ps.length sp:=by
 intro A outer s H a o q cc cl us vs cs Q hr e0 ho hobj hcd hcl hcap rv hlen kT;obtain⟨pm,ctv,rfl⟩:=hobj;have KX:K.In s.heap:=e0.mod.mj.keeps λb o e=>(e0.bs b o e).1
 have lim:s.heap.NoLimit:=e0.mod.nolimit.keeps λb o e=>(e0.bs b o e).1
 have ZJ:us.length=ps.length:=by rw[<-rv.length];exact hlen
 refine PySem.W.kla_callFunE hr.depth ho rfl S.co S.gen rfl hcd ?_;rw[hbind q cl pm (.ref cc) ctv us ZJ];have XR:ps.Nodup:=(ahV.mp S.nd).1;refine afP (wpAny_newFunctionEnv S.KI (λy hy=>S.par y.1 (ahN hy).1) (λh₁ hns kU=>⟨lim.fresh _ kU,?_⟩) S.kind)
 show codeAny _ _ (.expr body (PySem.W.envX q scope s.heap.objs.size a (.ref cc) cl)) _ _;have hk₁:∀b ob,s.heap.get? b=ζ ob->h₁.get? b=ζ ob:=λb ob e=>kU.extBut b ob (afZ (afU e)) (afS _ e)
 obtain⟨t,ht,hq⟩:=hb q a (.ref cc) cl A outer s H (vs++cs) Q (hr.deeper _) kT;have lS:∀b:Ξ,b∉(wj P w K mg base (ps++ns) q scope a (.ref cc) cl A outer s H).ex:=λb z=>absurd (show b∈([]:List Ξ)from z) (by simp)
 have MG:∀x c,cl.lookup x=ζ c->∃v u,s.heap.IsCell c (ζ u)/\RelV v u/\H c=η:=λx c e=>by
  obtain⟨i,hi,ei⟩:=ahr.mp (hcl.2 x c e);obtain⟨v,c',u,_,h2,h3,h4,h5,_⟩:=hcap.2 i x (by rw[afV hi,ei])
  rw[e]at h2;cases h2;exact⟨v,u,h3,h4,h5⟩
 have LI:∀{c:Ξ}{u:Option Γ},s.heap.IsCell c u->h₁.IsCell c u:=fun{c u} ⟨o,e,d⟩=>⟨o,hk₁ c o e,d⟩
 have I:Inv (wj P w K mg base (ps++ns) q scope a (.ref cc) cl A outer s H) [] ((vs++cs).map ζ) H {s with heap:=h₁,toks:=s.toks+(ps.zip us).length}:=by
  refine⟨⟨e0.mod,S.kind,rfl,rfl,afQ _,hcl.1,λx hx=>?_,λx c h=>absurd h (by simp[wj]),λ_=>hr.hd,Around.frames_deeper e0.frames,.inr ⟨rfl,rfl⟩,λb z=>absurd z (lS b),e0.bs,e0.jb,λb _ _=>lS b,λb z=>absurd z (lS b),e0.iQ,e0.kX⟩,
   rfl,e0.bare,Un.kept hk₁,⟨_,hns,λi x v h1 h2 h3=>?_⟩,λx c h=>?_,e0.hok.fresh (afQ _),λx c h=>?_,λp hp=>absurd (show p∈([]:List (Ξ×Obj))from hp) (by simp),e0.hok.kept hk₁,?_⟩
  ·have hx:scope.names.lookup x=ζ .cell\/scope.names.lookup x=ζ .free:=hx
   rcases hx with hx|hx
   ·exact absurd rfl (S.KI _ (agT hx))
   ·have hm:=S.free _ (agT hx) rfl;obtain⟨i,hi,ei⟩:=ahr.mp hm;obtain⟨v,c',u,_,h2,_⟩:=hcap.2 i x (by rw[afV hi,ei])
    exact⟨c',h2⟩
  ·have h1:(ps++ns)[i]? = ζ x:=h1;have h2':(vs++cs)[i]? = ζ v:=by
    rw[af6]at h2;cases e:(vs++cs)[i]? with
    |none=>rw[e]at h2;cases h2
    |some b=>rw[e]at h2;cases h2;rfl
   by_cases hi:i<ps.length
   ·rw[agl hi]at h1;rw[agl (by omega)]at h2'
    obtain⟨u,hu,ru⟩:=rv.get h2';refine⟨u,ru,.inl ⟨S.par x (agn h1),?_⟩⟩;exact G7 XR h1 hu
   ·rw[agD (by omega)]at h1
    rw[agD (by omega),hlen]at h2'
    obtain⟨v',c,u,e1,e2,e3,e4,_⟩:=hcap.2 _ x h1;rw[h2']at e1;cases e1;exact⟨u,e4,.inr ⟨.inr (S.cap x (agn h1)),c,e2,LI e3⟩⟩
  ·obtain⟨v,u,h3,_⟩:=MG x c h;exact⟨_,LI h3⟩
  ·obtain⟨v,u,_,_,h5⟩:=MG x c h;exact h5
  ·show((vs++cs).map ζ).length=(ps++ns).length;rw[afY,agh,agh,hlen,hcap.1]
 refine PySem.W.kla_codeExpr (agq (ht [] _ _ H Q I hq) (λu s' hs=>?_) λe s' hs=>False.elim hs)
 obtain⟨v,H',J,ru,q⟩:=hs;exact⟨v,H',J.os,J.bare,J.base,J.hok,ru,q⟩
section
variable {M:Model}{A:ω}{E:Γ->Ψ->Prop}{s:Ψ}{env:Env}{pos:Pos}{Q:Γ->Ψ->Prop}
theorem acK{a:Ξ}{o:Obj}{fd:aag}{e:ν}{rest:List ν}(hd:o.data=.func fd) (h:wpAny M A (spliced (aaj pos (ε (e::rest) env))) (λvs s₁=>s₁.heap.get? a=ζ o/\wpAny M A (call (.ref a) ([]++vs)) Q E s₁) E s)
  (he:ε (e::rest) env=(Θ,eval e env)::ε rest env) (hplain:(aaj pos (ε rest env)).any (·.1)=Θ) :
  wpAny M A (callWith pos (.ref a) [] (aaj pos (ε (e::rest) env)) []) Q E s:=by
 rw[he]at h ⊢;refine PySem.W.callWith_of (P:=λh=>h.get? a=ζ o) (by show((Θ||(aaj pos (ε rest env)).any (·.1))||false)=Θ;rw[hplain];rfl) (λh e=>⟨.frame,.inl rfl,?_⟩) (PySem.Calls.evalArgs_plain h)
 obtain⟨oc,od,dt,sl⟩:=o;cases hd;exact(PySem.W.Looks.ld (part:=η) e).andThen PySem.W.Looks.now
end
section
variable {X:Cx}{pins:List (Ξ×Obj)}{σ:St}{H H':Hp}{s s':Ψ}{F:Ξ->Option Obj}
theorem PJ{P:π}{w:χ}{h:υ}(hok:ez P w H h) (hF:∀b o,F b=ζ o->H b=ζ (.dF o (.own 0))):ez P w (dP H F) h:=λb u e=>by
 cases hb:F b with
 |some o=>rw[sd hb]at e;cases e
 |none =>
  rw[jB hb]at e;exact(hok b u e).stay (λ_ _ _ z=>z) (λc z=>jA hF z λ_ q=>nomatch q) λc xs z=>jA hF z λ_ q=>nomatch q
theorem uT{b:Ξ}(h:H b=η):dP H F b=η:=by
 unfold dP;split<;>first|rfl|exact h
theorem SR{k n:Nat}{Ex:ν}{ns:List Str}{sp:Sp}{a cc:Ξ}{o:Obj}{q:Str}{cl:List (Str×Ξ)}{us:List Γ}{vs cs:List V}{Q:VK}(G:rX X.prog X.w X.K X.mg X.base k Ex ns n sp) (hr:er k X.A) (I:Inv X pins σ H s)
  (ha:H a=ζ (.ext (qw a o))) (hobj:xP Ex o q cc cl) (hcc:H cc=ζ (.ext (rM cc q))) (hcl:xS cl ns) (hcs:jd H cl ns cs) (r:Vals vs us) (hn:vs.length=n)
  (h:∀F:Ξ->Option Obj,(∀b o,F b=ζ o->H b=ζ (.dF o (.own 0)))->sp (vs++cs) (dP H F) (λv H'=>(∀b o,F b=ζ o->H' b=η)->Q v (gr H' F)) E0) :
  wpAny (model X.prog X.w) X.A (call (.ref a) us) (EP X pins σ Q) X.xe s:=by
 have hF:∀b ob,nY cl s.heap b=ζ ob->H b=ζ (.dF ob (.own 0)):=λb ob e=>by
  obtain⟨⟨x,hx⟩,hg⟩:=ET e;obtain⟨i,hi,ei⟩:=ahr.mp (hcl.2 x b hx);obtain⟨v,c,oc,u,_,h2,h3,_⟩:=hcs.get (i:=i) (x:=x) (by rw[afV hi,ei])
  rw[hx]at h2;cases h2;have:=(I.hok b _ h3).1;rw[hg]at this;cases this;exact h3
 generalize hFd:nY cl s.heap=F at hF
 have e:=I.E6;have e0:rY X.prog X.w X.K X.mg X.base X.A X.stack s (dP H F):=⟨e.frames,e.mod,λb o h=>⟨(e.bs b o h).1,uT (e.bs b o h).2⟩,e.jb,e.iQ,λb hb=>uT (e.kX b hb),PJ I.hok hF,e.bare⟩
 have nf:∀b ob,F b=ζ ob->b∉frs X.stack:=λb ob z hb=>by
  have:=I.BW b hb;rw[hF b ob z]at this;cases this
 have cap:OB s (dP H F) X.stack cl ns cs:=by
  refine⟨hcs.length,λi x hx=>?_⟩
  obtain⟨v,c,oc,u,h1,h2,h3,h4,h5⟩:=hcs.get hx;have hg:=(I.hok c _ h3).1;have hf:F c=ζ oc:=by rw[<-hFd];exact MN h2 hg
  exact⟨v,c,u,h1,h2,⟨oc,hg,h4⟩,h5,sd hf,nf c oc hf⟩
 refine ahL (ag6 (G X.A X.stack s (dP H F) a o q cc cl us vs cs _ hr e0 (I.hok a _ ha).1 hobj (I.hok cc _ hcc).1 hcl cap r hn (h F hF)) λrr s' hq=>?_)
 cases rr with
 |error e=>exact False.elim hq
 |ok fl =>
  cases fl with
  |next=>exact False.elim hq
  |brk=>exact False.elim hq
  |cont=>exact False.elim hq
  |ret u =>
   obtain⟨v,H',os,bare,un,hok,rv,q⟩:=hq;have gF:∀b ob,F b=ζ ob->s.heap.get? b=ζ ob:=λb ob z=>(I.hok b _ (hF b ob z)).1
   have hn':∀b ob,F b=ζ ob->H' b=η:=λb ob z=>un.free b ob (gF b ob z) (sd z) (by simp)
   have hg':∀b ob,F b=ζ ob->s'.heap.get? b=ζ ob:=λb ob z=>un.keep b ob (gF b ob z) (sd z) (nf b ob z) (by simp)
   have Fn:∀{b:Ξ},H b=η->F b=η:=fun{b} z=>by
    cases e:F b with
    |none=>rfl
    |some ob=>rw[hF b ob e]at z;cases z
   have old:∀{b:Ξ}{u:HO},H b=ζ u->(∀o,u≠.dF o (.own 0))->F b=η/\dP H F b=ζ u:=fun{b u} z nq=>by
    cases e:F b with
    |none=>exact⟨rfl,by rw[jB e];exact z⟩
    |some ob=>rw[hF b ob e]at z;exact absurd (agc z).symm (nq ob)
   have BO:Un (frs X.stack) [] H (gr H' F) s.heap s'.heap:=by
    refine⟨λb o e n hb hx=>un.keep b o e (uT n) hb hx,λb o e n hb hx=>un.slot b o e (uT n) hb hx,λb o e n hx=>?_,un.there,λb xs e=>?_,λb o u e=>?_,λb ps e=>?_⟩
    ·rw[jL (Fn n)];exact un.free b o e (uT n) hx
    ·obtain⟨h1,h2⟩:=old e λ_ z=>nomatch z
     rw[jL h1];exact un.tups b xs h2
    ·cases z:F b with
     |some ob =>
      have:=hF b ob z;rw[e]at this;cases this;exact nZ z
     |none=>rw[jL z];exact un.jm b o u (by rw[jB z];exact e)
    ·obtain⟨h1,h2⟩:=old e λ_ z=>nomatch z
     rw[jL h1];exact un.jC b ps h2
   exact⟨v,gr H' F,I.Fv os BO (MO hok hn' hg') bare λb z=>absurd z (by simp),rv,q hn'⟩
end
open Classical in
def rL(i n:Nat) (dj:List (ν×List Str×(List D->aa->R D))) (a:aj):af:=λe c=>match e[i]? with
 |some (ζ (.lam k E ns l))=>match dj[k]? with
  |some t=>if E=t.1/\ns=t.2.1 then(a e c).bind λxs c=>if xs.length=n/\fL xs=Δ/\fL l=Δ then t.2.2 (xs++l) c else .bad else .bad
  |none=>.bad
 |_=>.bad
theorem VM{X:Cx}(i:Nat) {n:Nat}{dj:List (ν×List Str×(List D->aa->R D))}{x:Str}{e:ν}{es:List ν}{da:aj}{p pos:Pos}(hT:∀t∈dj,∃k,rX X.prog X.w X.K X.mg X.base k t.1 t.2.1 n (bU X.K (n+t.2.1.length) t.2.2)/\er k X.A) (ha:fO X (e::es) da)
  (hN:X.N[i]? = ζ x:=by rfl) (hv:Bb X.env.scope x:=by first|exact Or.inl rfl|exact Or.inr (Or.inl rfl)|exact Or.inr (Or.inr rfl)) (hd:(x==("__debug__":Str))=Θ:=by decide)
  (hcd:(x==("__classdict__":Str))=Θ:=by decide) (he:ε (e::es) X.env=(Θ,eval e X.env)::ε es X.env:=by exact dU rfl) (hpl:(aaj pos (ε es X.env)).any (·.1)=Θ:=by exact gC rfl) :
  bw X (.Call (.Name x p) (e::es) [] pos) (rL i n dj da):=by
 intro pins s σ H Q I h;obtain⟨ρ,ev,c,W,Vv,q⟩:=h;unfold rL at q;split at q
 ·rename_i kk Ex ns l hf;obtain⟨v,hσ,rl⟩:=Vv.get i _ hf;obtain⟨a,o,qn,cc,cl,cs,rfl,ha1,hobj,hcc,hcl,hcs,hrs⟩:=id rl;split at q
  ·rename_i t ht;split at q
   ·rename_i ZI;obtain⟨rfl,rfl⟩:=ZI;obtain⟨k,G,hr⟩:=hT _ (agn ht);refine ahM (bR (JF hN hv hd hcd pins s σ H (λv H1=>v=.ref a/\H1=H) I ⟨_,hσ,rfl,rfl⟩) λu s1 ⟨v,H1,I1,r1,q1⟩=>?_)
    obtain⟨rfl,rfl⟩:=q1;cases r1;have hdata:∃fd,o.data=.func fd:=by
     cases hE:t.1 with
     |Lambda params body scope lp =>
      rw[hE]at hobj;obtain⟨pm,ctv,rfl⟩:=hobj;exact⟨_,rfl⟩
     |_=>rw[hE]at hobj;exact hobj.elim
    obtain⟨fd,hdata⟩:=hdata;refine acK hdata (bR (ha pos pins s1 σ H1 (λvs H2=>∃aR xs c1,Wd X.K aR H2 c1/\Ext ρ H1 aR H2/\aQ X.K aR H2 xs vs/\xs.length=n/\fL xs=Δ/\fL l=Δ/\post X.K (Rel X.K) (t.2.2 (xs++l) c1) aR H2 Q) I1 ⟨ρ,ev,c,W,Vv,post.bind q λxs c1 aR H2 vs _ W1 X1 r1 p1=>?_⟩) λus s2 ⟨vs,H2,I2,r2,aR,xs,c1,W1,X1,rx,hl,n1,n2,p1⟩=>?_) he hpl
    ·split at p1
     ·rename_i hc;exact⟨aR,xs,c1,W1,X1,r1,hc.1,hc.2.1,hc.2.2,p1⟩
     ·exact p1.elim
    ·obtain⟨a',o',qn',cc',cl',cs',ea,ha2,Z2,aap,aan,Mr,Mc⟩:=Rel.mono W X1 _ _ rl;cases ea;have eo:o=o':=by
      have e1:=(X1.keep a _ ha1 (λm=>by obtain⟨ys,z⟩:=W.at' m;rw[z]at ha1;cases ha1) rfl).1
      have g1:=(I2.hok a _ e1).1;have g2:=(I2.hok a _ ha2).1;have g1':s2.heap.get? a=ζ o:=g1;have MM:s2.heap.get? a=ζ o':=g2;rw[g1']at MM;exact agc MM
     subst eo;refine⟨(I2.hok a _ ha2).1,?_⟩;refine SR (cs:=cs') G hr I2 ha2 Z2 aap aan Mr r2 (by rw[rx.length];exact hl) λF hF=>?_
     refine⟨aR,xs++l,c1,Hy W1 hF,aQ.append (aQ.dP hF xs vs n1 rx) (aQ.dP hF l cs' n2 Mc),by rw[agh,hl,<-Mc.length,Mr.length],?_⟩
     cases hm:t.2.2 (xs++l) c1 with
     |bad=>rw[hm]at p1;exact p1.elim
     |ok d c2 =>
      rw[hm]at p1;intro ρ' H4 b W4 X4 r4 Mh;obtain⟨X5,W5⟩:=HA W4 Mh;exact p1 ρ' (gr H4 F) b W5 (abn X4 W4 hF Mh) (Rel.mono W4 X5 d b r4)
   ·exact q.elim
  ·exact q.elim
 ·exact q.elim
@[simp] theorem O5(i n:Nat) (dj:List (ν×List Str×(List D->aa->R D))) (a:aj) (e:Ev) (c:aa) {k:Nat}{Ex:ν}{ns:List Str}{l:List D}{m:List D->aa->R D}(h:e[i]? = ζ (ζ (.lam k Ex ns l))) (ht:dj[k]? = ζ (Ex,ns,m)):rL i n dj a e c=(a e c).bind λxs c=>if xs.length=n/\fL xs=Δ/\fL l=Δ then m (xs++l) c else .bad:=by
 unfold rL;rw[h];dsimp only;rw[ht];dsimp only;rw[if_pos ⟨rfl,rfl⟩]
def qy(d:af):List D->aa->R D:=λxs c=>d (xs.map ζ) c
theorem Tp{K:ξ}{ρ:List Ξ}{H:Hp}{xs:List D}{vs:List V}(r:aQ K ρ H xs vs):eH K ρ H (xs.map ζ) (vs.map ζ):=by
 refine⟨λi d h=>?_,by rw[afY,afY,r.length]⟩
 rw[af6]at h;cases e:xs[i]? with
 |none=>rw[e]at h;cases h
 |some y =>
  rw[e]at h;cases h;obtain⟨v,hv,rv⟩:=r.get e;exact⟨v,by rw[af6,hv];rfl,rv⟩
theorem Lw{P:π}{w:χ}{K:ξ}{mg:Str->Option Γ}{base:υ}{k:Nat}{params:aax}{body:ν}{scope:aaq}{pos:Pos}{ps ns:List Str}{d:af}(S:uJ ps ns scope)
  (hbind:∀(q:Str) (cl:List (Str×Ξ)) (pm cdv ct:Γ) (us:List Γ),us.length=ps.length->bindArgs (PySem.W.kla_fn "<lambda>" q params body scope cl pm cdv ct) ⟨us,[]⟩=pure (ps.zip us))
  (hb:∀(q:Str) (f:Ξ) (cd:Γ) (cl:List (Str×Ξ)) (A:ω) (outer:List Env) (s:Ψ) (H:Hp),er k (A.deeper (PySem.W.envX q scope s.heap.objs.size f cd cl))->bw (wj P w K mg base (ps++ns) q scope f cd cl A outer s H) body d) :
  rX P w K mg base (k+1) (.Lambda params body scope pos) ns ps.length (bU K (ps.length+ns.length) (qy d)) :=
 YW S hbind λq f cd cl A outer s H vs Q hr h=>⟨_,hb q f cd cl A outer s H hr,by
  obtain⟨ρ,xs,c,W,r,hl,p⟩:=h;exact⟨ρ,xs.map ζ,c,W,Tp r,p⟩⟩
section
variable {P:π}{w:χ}{K:ξ}{mg:Str->Option Γ}{base:υ}
theorem MU{x:Str}{st:ψ}{f:Ξ}{fd:aag}{N ps:List Str}{k n m:Nat}{own:Bool}{d:ah}(F:lC K x x st f fd) (hn:τ K μ x=ζ (ζ (.ref f))) (S:cz N ps (bE st)) (hN:N.length=n) (hm:ps.length=m)
  (hb:∀(cdv:Γ) (A:ω) (outer:List Env) (s:Ψ) (H:Hp) (E:XK),(∀c P,PySem.W.tabIn K x=ζ (c,P)->cdv=.ref c)->er k (A.deeper (envOfC x (bE st) s.heap.objs.size f cdv))->bW (k8 bC P w K mg base N x (bE st) f cdv A outer s H E).lQ (i8 st) d) :
  bL P w K mg base bC (k+1) f fd ps (bU K m (bD n own d)):=by
 obtain⟨oc,od,kV,doc,pm,an,Aq,ct,osl,hfd,lk,hcd⟩:=F.ex;have key:∀(cdv:Γ),(∀(A:ω) (outer:List Env) (s:Ψ) (H:Hp) (E:XK),er k (A.deeper (envOfC x (bE st) s.heap.objs.size f cdv))->bW (k8 bC P w K mg base N x (bE st) f cdv A outer s H E).lQ (i8 st) d)->cdv=Aq->bL P w K mg base bC (k+1) f fd ps (bU K m (bD n own d)):=by
  intro cdv hb' e;subst e;subst hN;subst hm;subst hfd;refine MV lk hcd S (λvs H Q E h=>?_) λA outer s H vs Q E hr h=>⟨_,gW.lQ (hb' A outer s H E hr),?_⟩
  ·obtain⟨ρ,xs,c,W,r,hl,p⟩:=h;exact r.length.trans hl
  ·obtain⟨ρ,xs,c,W,r,hl,p⟩:=h;refine⟨ρ,dI N.length xs,c,W,eH.start r,post.bind p λfl c1 aR H1 b _ W1 X1 r1 p1=>?_⟩
   cases fl with
   |nx e1 =>
    obtain⟨σ1,rfl,V1⟩:=r1;exact Ac (v:=.aL) (x:=.aL) (H1:=H1) W W1 X1 rfl (by
     unfold bD at p;exact id (α:=post K (Rel K) (c9 own c.length .aL c1) ρ H Q) (by
      rename_i he;rw[he]at p;exact p))
   |rt d =>
    obtain⟨v,rfl,V1⟩:=r1;exact Ac (v:=d) (x:=v) (H1:=H1) W W1 X1 V1 (by
     unfold bD at p;rename_i he;rw[he]at p;exact p)
   |bk e1=>exact p1.elim
   |ct e1=>exact p1.elim
 refine key Aq (λA outer s H E hr=>hb Aq A outer s H E (λc P' ht=>?_) hr) rfl
 unfold PySem.W.tabIn at ht;rw[hn]at ht;dsimp only at ht;rw[lk,hfd]at ht;dsimp only at ht;cases Aq with
 |ref c' =>
  dsimp only at ht;split at ht
  ·split at ht
   ·cases ht;rfl
   ·cases ht
  ·cases ht
 |_=>cases ht
end
def adF(H:Hp) (ts:List Ξ):Prop:=∀b,H b=η\/(∃o xs,H b=ζ (.dF o (.lst xs)))\/(b∈ts/\H b=ζ (.dj #[]))
theorem YS{P:π}{w:χ}{K:ξ}{mg mb:Str->Option Γ}{k:Nat}{fa a:Ξ}{fd:aag}{x:Str}{sp:Sp}{s₁:Ψ}{vs:List Γ}{ns:List Int}{ts:List (Ξ×Ξ)}
  (KX:K.In s₁.heap) (hns:s₁.heap.Ns μ mg) (hb:s₁.heap.Ns builtinsNs mb) (hbb:∀x:Str,x≠"__name__"->mb x=bootBuiltins x) (hlim:s₁.heap.NoLimit)
  (hbm:∃bm ob,mg "__builtins__"=ζ (.ref bm)/\bm≠builtinsNs/\s₁.heap.get? bm=ζ ob/\ob.cls=.type "module"/\ob.dict=ζ builtinsNs/\ob.data=.plain) (hg:s₁.gens=#[])
  (ha:s₁.heap.get? a=ζ {cls:=.type "list",data:=.seq vs.toArray}) (hi:aas vs ns) (hl:ns.length<=Ω) (hr:er k callerA)
  (EM:∀q∈ts,PySem.W.codeHdIn K q.1 q.2=Δ/\s₁.heap.get? q.2=ζ (PySem.W.tabObj #[])) (hKt:PySem.W.noTabs K=Δ)
  (F:∀base:υ,K.In base->base.Ns μ mg->bL P w K mg base bC k fa fd [x] sp) (hbind:∀(s:Ψ) (u:Γ),aaF s fd ⟨[u],[]⟩ [(x,u)])
  (kT:∀H:Hp,(∀q∈ts,H q.2=ζ (.dj #[]))->b9 K H a (ns.map V.int)->sp [.ref a] H (λv _=>v=.bl Δ) λ_ _ _=>False) :
  codeAny (model P w) callerA (.call (.ref fa) ⟨[.ref a],[]⟩) (λr s'=>r=.ok (.ret (.bool Δ))/\OldK s₁.heap s'.heap/\s'.os=s₁.os/\aaz s'.gens) s₁:=by
 have rv:=HC hi;have YH:=hi.length;have nS:∀b,b∈ts.map (·.2)->s₁.heap.get? b=ζ (PySem.W.tabObj #[]):=λb h=>by
  obtain⟨q,hq,rfl⟩:=afW.mp h;exact(EM q hq).2
 have nat:a∉ts.map (·.2):=λh=>by have:=nS a h;rw[ha]at this;cases this
 have core:∀H:Hp,adF H (ts.map (·.2))->(∀q∈ts,H q.2=ζ (.dj #[]))->b9 K H a (ns.map V.int)->ez P w H s₁.heap->(∀b,H b≠η->b=a\/b∈ts.map (·.2))->(H a≠η->K.lookup a=η) ->
   codeAny (model P w) callerA (.call (.ref fa) ⟨[.ref a],[]⟩) (λr s'=>r=.ok (.ret (.bool Δ))/\OldK s₁.heap s'.heap/\s'.os=s₁.os/\aaz s'.gens) s₁:=by
  intro H hO hT hS hok hA hK;have Fz:∀{b:Ξ}{o:Obj},s₁.heap.get? b=ζ o->H b=η->(mC s₁.heap H).get? b=ζ o:=λe n=>aaf e n
  have XH:∀{b:Ξ}{o:Obj},s₁.heap.get? b=ζ o->o.cls≠.type "list"->o.cls≠.none->H b=η:=fun{b o} e d1 d2=>by
   cases q:H b with
   |none=>rfl
   |some u =>
    rcases hA b (by rw[q];simp)with e'|e'
    ·subst e';rw[ha]at e;cases e;exact absurd rfl d1
    ·rw[nS b e']at e;cases e;exact absurd rfl d2
  have lS:∀{b:Ξ}{o:Obj}{es:Array aaB}{ep:Nat},s₁.heap.get? b=ζ o->o.data=.dict es ep->H b=η:=fun{b o es ep} e d=>by
   cases q:H b with
   |none=>rfl
   |some u =>
    rcases hA b (by rw[q];simp)with e'|e'
    ·subst e';rw[ha]at e;cases e;have d':Data.seq vs.toArray _=Data.dict es ep:=d;cases d'
    ·rw[nS b e']at e;cases e;have d':Data.fields #[]=Data.dict es ep:=d;cases d'
  have zo:∀{b:Ξ}{m:Str->Option Γ},s₁.heap.Ns b m->(mC s₁.heap H).Ns b m:=fun{b m} ⟨o,es,ep,e,d,r⟩=>⟨o,es,ep,Fz e (lS e d),d,r⟩
  have Mz:K.In (mC s₁.heap H):=λb o e=>Fz (KX b o e) (by
   cases q:H b with
   |none=>rfl
   |some u =>
    rcases hA b (by rw[q];simp)with e'|e'
    ·subst e';rw[hK (by rw[q];simp)]at e;cases e
    ·have h1:=KX b o e;rw[nS b e']at h1;cases h1;have h2:=afX.mp hKt (b,_) (PySem.W.mem_of_lookupK e);exact absurd (show Θ=Δ from h2) agd)
  have hM:Mod K mg (mC s₁.heap H):=⟨Mz,zo hns,⟨mb,zo hb,hbb⟩,let⟨mc,h1,h2⟩:=hlim;⟨mc,zo h1,h2⟩,let⟨bm,ob,b1,b2,b3,b4,b5⟩:=hbm;⟨bm,ob,b1,b2,Fz b3 (XH b3 (by rw[b4];simp) (by rw[b4];simp)),b4,b5⟩⟩
  have e0:rY P w K mg (mC s₁.heap H) callerA [] s₁ H:=⟨rfl,hM,λb o e=>Xj e,ag9 (aae _ _),trivial,λb hb=>absurd (show b∈([]:List Ξ)from hb) (by simp),hok,.of_eq hg⟩
  refine ag6 ((F _ Mz (zo hns)).run callerA [] s₁ H ⟨[.ref a],[]⟩ [.ref a] [.ref a] _ _ hr e0 (hbind s₁ (.ref a)) (.cons rfl .nil) (kT H hT hS)) λr s' h=>?_
  cases r with
  |error e=>exact False.elim h
  |ok fl =>
   cases fl with
   |next=>exact False.elim h
   |brk=>exact False.elim h
   |cont=>exact False.elim h
   |ret u =>
    obtain⟨v,H',os,bare,un,Mf,r',q⟩:=h;have q':v=.bl Δ:=q;subst q';obtain rfl:u=Value.bool Δ:=r';have main:∀b o,s₁.heap.get? b=ζ o->s'.heap.get? b=ζ o\/(b∈ts.map (·.2)/\o=PySem.W.tabObj #[]/\∃ps,s'.heap.get? b=ζ (PySem.W.tabObj ps)):=λb o e=>by
     rcases hO b with z|⟨ob,xs,z⟩|⟨hm,z⟩
     ·exact .inl (un.keep b o e z (by intro z;exact absurd (show b∈([]:List Ξ)from z) (by simp)) (by simp))
     ·have z2:=un.jm b ob _ z;obtain⟨e1,_⟩:=hok b _ z;obtain⟨e2,_⟩:=Mf b _ z2;rw[e]at e1;cases e1;exact .inl e2
     ·obtain⟨more,z2⟩:=un.jC b _ z;have e2:s'.heap.get? b=ζ (PySem.W.tabObj (#[]++more)):=Mf b _ z2;have e1:=nS b hm;rw[e]at e1;cases e1;exact .inr ⟨hm,rfl,_,e2⟩
    refine⟨rfl,⟨λb o e=>?_,λb o e=>?_⟩,os,bare⟩
    ·rcases main b o e with z|⟨hm,rfl,ps,z⟩
     ·exact .inl z
     ·obtain⟨q,hq,rfl⟩:=afW.mp hm;have hC:=aks KX (EM q hq).1;exact .inr (.inl ⟨(hC.tab (EM q hq).2).isCodeTable,rfl,#[],ps,rfl,by rw[Array.empty_append];exact z⟩)
    ·rcases main b o e with z|⟨_,_,ps,z⟩
     ·exact⟨o,z⟩
     ·exact⟨_,z⟩
 have aeu:∀(H:Hp) b,H b=ζ (.dj #[])->b∈ts.map (·.2)->gf P w H s₁.heap b (.dj #[]):=λH b _ h=>nS b h
 cases hk:K.lookup a with
 |some o =>
  have e:=KX a o hk;rw[ha]at e;cases e
  let H:Hp:=λb=>if b∈ts.map (·.2)then ζ (.dj #[])else η
  refine core H (λb=>?_) (λq hq=>if_pos (akw hq)) (.inr ⟨_,vs.toArray,_,hk,rfl,rfl,rfl,by rw[af4,YH];exact hl,by simpa using rv⟩) (λb u z=>?_) (λb z=>?_) λz=>absurd (if_neg nat) z
  ·by_cases hb:b∈ts.map (·.2)
   ·exact .inr (.inr ⟨hb,if_pos hb⟩)
   ·exact .inl (if_neg hb)
  ·by_cases hb:b∈ts.map (·.2)
   ·have z':=(if_pos hb).symm.trans z;cases z';exact nS b hb
   ·have z':=(if_neg hb).symm.trans z;cases z'
  ·by_cases hb:b∈ts.map (·.2)
   ·exact .inr hb
   ·exact absurd (if_neg hb) z
 |none =>
  let H:Hp:=λb=>if b∈ts.map (·.2)then ζ (.dj #[])else if b=a then ζ (.dF {cls:=.type "list",data:=.seq vs.toArray} (.lst (ns.map V.int)))else η
  have Ha:H a=ζ (.dF {cls:=.type "list",data:=.seq vs.toArray} (.lst (ns.map V.int))):=(if_neg nat).trans (if_pos rfl);refine core H (λb=>?_) (λq hq=>if_pos (akw hq)) (.inl (.inr ⟨_,Ha⟩)) (λb u z=>?_) (λb z=>?_) λ_=>hk
  ·by_cases hb:b∈ts.map (·.2)
   ·exact .inr (.inr ⟨hb,if_pos hb⟩)
   ·by_cases hb2:b=a
    ·exact .inr (.inl ⟨_,_,(if_neg hb).trans (if_pos hb2)⟩)
    ·exact .inl ((if_neg hb).trans (if_neg hb2))
  ·by_cases hb:b∈ts.map (·.2)
   ·have z':=(if_pos hb).symm.trans z;cases z';exact nS b hb
   ·by_cases hb2:b=a
    ·have z':=((if_neg hb).trans (if_pos hb2)).symm.trans z;cases z';subst hb2;exact⟨ha,by rw[afY];exact hl,vs,_,rv,ha⟩
    ·have z':=((if_neg hb).trans (if_neg hb2)).symm.trans z;cases z'
  ·by_cases hb:b∈ts.map (·.2)
   ·exact .inr hb
   ·by_cases hb2:b=a
    ·exact .inl hb2
    ·exact absurd ((if_neg hb).trans (if_neg hb2)) z
def BS(K:ξ) (ts:List (Ξ×Ξ)):Bool:=qx.all λx=>match PySem.W.tabIn K x with
 |some q=>decide (q∈ts)
 |none=>Δ
theorem QA{K:ξ}{H:Hp}{ts:List (Ξ×Ξ)}(h:BS K ts=Δ) (hT:∀q∈ts,H q.2=ζ (.dj #[])):rV K H:=λx hx c P e=>by
 have:=afX.mp h x hx;rw[e]at this;exact⟨#[],hT (c,P) (of_decide_eq_true this),trivial,λpos cv z=>by cases z⟩
theorem Pr{l:aaC}{n k:Nat}{q:π}{loose:List Str}{XP:(Str->Option Γ)->υ->Prop}{YP:χ->υ->Prop}{d:DefRec}{K:Params->ξ}{x:Str}{m:List D->aa->R D}{ts:List (Ξ×Ξ)}
  (hn:l.most=ζ n) (hn2:n<=Ω) (hdf:d.params.defaults=[]) (hr:er k callerA)
  (hY:∀(w:χ) (h:υ),YP w h->(K w.params).In h/\∀q∈ts,h.get? q.2=ζ (PySem.W.tabObj #[]))
  (hK:∀p,(ts.all λq=>PySem.W.codeHdIn (K p) q.1 q.2)=Δ/\PySem.W.noTabs (K p)=Δ/\BS (K p) ts=Δ)
  (F:∀(w:χ) (mg:Str->Option Γ) (fa:Ξ) (h:υ),(K w.params).In h->h.Ns μ mg->mg d.name=ζ (.ref fa) ->
   ∃fd:aag,(∀(s:Ψ) (u:Γ),aaF s fd ⟨[u],[]⟩ [(x,u)]) /\
    ∀base:υ,(K w.params).In base->base.Ns μ mg->bL l.prog w (K w.params) mg base bC k fa fd [x] (bU (K w.params) 1 m))
  (hm:∀ns:List Int,ns.length<=n->∃c,m [.cH ns] []=.ok (.bl Δ) c) :
  PySem.W.WalkO q loose XP YP l.row.toRowW d [] (λf vs=>PySem.call f vs):=by
 refine OC.ac1 hn hdf λw s₀ s₁ mg mb fa o pm cd doc a vs ns G Y ho hd hcd hmg hobj hints hlen hg=>?_
 obtain⟨KX,hT⟩:=hY w _ Y;obtain⟨fd,hb,hF⟩:=F w mg fa _ KX G.T.g hmg;obtain⟨k1,k2,k3⟩:=hK w.params;refine YS (ts:=ts) KX G.T.g G.T.b G.T.builtins G.T.nolimit G.T.bmain hg hobj hints (agg hlen hn2) hr (λq hq=>⟨afX.mp k1 q hq,hT q hq⟩) k2 hF hb λH h1 h2=>?_
 obtain⟨c,hc⟩:=hm ns hlen;refine⟨[],[.cH ns],[],⟨.nil,rfl,λk a cl e=>(by cases e),QA k3 h1⟩,⟨.ref a,[],rfl,⟨a,rfl,?_⟩,rfl⟩,rfl,?_⟩
 ·rcases h2 with hS|hS
  ·exact .inl ⟨hS,by simp⟩
  ·exact .inr (.inr hS)
 ·rw[hc];exact λρ' H' b _ _ r=>r
abbrev Pb:=SetTable.Probe
def adp(m:Nat) (p:Pb):Pb:=if p.more>0 then{p with j:=p.j+1,more:=p.more-1}else{p with j:=(p.i*5+1+p.perturb/32) % (m+1),more:=SetTable.runEnd m ((p.i*5+1+p.perturb/32) % (m+1))-(p.i*5+1+p.perturb/32) % (m+1),i:=(p.i*5+1+p.perturb/32) % (m+1),perturb:=p.perturb/32}
def LR(m:Nat):Nat->Pb->Pb
 |0,p=>p
 |n+1,p=>LR m n (adp m p)
def Um(m i q:Nat):Pb:=⟨i,SetTable.runEnd m i-i,i,q,η⟩
def Rz(m:Nat) (h:Int):Pb:=Um m (SetTable.bits h % (m+1)) (SetTable.bits h)
def uC(m:Nat) (h:Int) (n:Nat):Nat:=(LR m n (Rz m h)).j
def Reach(m:Nat) (P:Nat->Prop) (h:Int) (j:Nat):Prop:=∃n,n<10*(m+15)/\uC m h n=j/\∀k,k<n->P (uC m h k)
theorem Reach.mono{m:Nat}{P Q:Nat->Prop}{h:Int}{j:Nat}(r:Reach m P h j) (i:∀k,P k->Q k):Reach m Q h j :=
 let⟨n,h1,h2,h3⟩:=r;⟨n,h1,h2,λk hk=>i _ (h3 k hk)⟩
structure adO (h:Int):Prop where
 go:∀m,p7 m->ja m (10*(m+15)) (SetTable.bits h % (m+1)) (SetTable.runEnd m (SetTable.bits h % (m+1))-SetTable.bits h % (m+1)) (SetTable.bits h % (m+1)) (SetTable.bits h) 0=Δ
 lay:∀m,pZ m->oX m (m+15) (SetTable.bits h % (m+1)) (SetTable.bits h) 0=Δ
structure xM (t:aac) (es:Array (Int×Γ)):Prop where
 size:t.place.size=es.size
 up:Up t.place.toList
 le:∀j∈t.place.toList,j<=t.mask
 dm:t.dummies=#[]
 mask:(t.mask=7/\es.size<=4)\/(t.mask=31/\es.size<=18)\/(t.mask=127/\es.size<=76)
 reach:∀q∈t.place.toList.zip es.toList,Reach t.mask (·∈t.place.toList) q.2.1 q.1
theorem xM.ok{t:aac}{es:Array (Int×Γ)}(I:xM t es):p7 t.mask:=by
 have:=I.mask;unfold p7;omega
theorem xM.fits{t:aac}{es:Array (Int×Γ)}(h:xM t es):t.fits es.size=Δ:=by
 have:=h.mask;simp only[SetTable.fits,SetTable.fill,h.size,h.dm,af1,beq_self_eq_true,true_and,decide_eq_true_eq];simp only[af4,agj];omega
structure LayT (mask:Nat) (owner:Array (Option Nat)) (hs:List Int) (k:Nat):Prop where
 lay:uI mask owner k
 way:∀j i,owner.toList.getD j η=ζ i->∃h,hs[i]? = ζ h/\Reach mask (λs=>owner.getD s (ζ 0)≠η) h j
def hT(ks:List Int):Int:=reduceHash (Builtin.Tuple.tupleHashOf (ks.map hashInt))
def pA(ks:List Int):Prop:=∃i j:Nat,i<8/\j<8/\ks=[(i:Int),(j:Int)]
def hP(n:Nat):Int:=hT [((n/8:Nat):Int),((n % 8:Nat):Int)]
def J9(h:Int):Bool:=([7,31,127].all λm=>ja m (10*(m+15)) (SetTable.bits h % (m+1)) (SetTable.runEnd m (SetTable.bits h % (m+1))-SetTable.bits h % (m+1)) (SetTable.bits h % (m+1)) (SetTable.bits h) 0) && [31,127].all λm=>oX m (m+15) (SetTable.bits h % (m+1)) (SetTable.bits h) 0
theorem adb:((θ 64).all λn=>J9 (hP n))=Δ:=by decide +kernel
def eqZ(a b:Int):Bool:=match a,b with
 |.ofNat x,.ofNat y=>Nat.beq x y
 |.negSucc x,.negSucc y=>Nat.beq x y
 |_,_=>Θ
def zu(l:List Int):Bool:=match l with
 |[]=>Δ
 |x::r=>r.all (λy=>!eqZ x y)&&zu r
theorem Nb(a:Int):eqZ a a=Δ:=by cases a<;>exact Nat.beq_refl _
theorem adf:zu ((θ 64).map hP)=Δ:=by decide +kernel
theorem KP:∀{l:List Int},zu l=Δ->∀{i k:Nat}{x:Int},l[i]? = ζ x->l[k]? = ζ x->i=k
 |[],_,i,k,x,h,_=>by simp at h
 |y::r,h,i,k,x,h1,h2=>by
  unfold zu at h;rw[af1,afX]at h;cases i with
  |zero =>
   cases k with
   |zero=>rfl
   |succ k =>
    have e:y=x:=by simpa using h1
    have:=h.1 x (agn (by simpa using h2))
    rw[e,Nb]at this;cases this
  |succ i =>
   cases k with
   |zero =>
    have e:y=x:=by simpa using h2
    have:=h.1 x (agn (by simpa using h1))
    rw[e,Nb]at this;cases this
   |succ k=>rw[KP h.2 (i:=i) (k:=k) (by simpa using h1) (by simpa using h2)]
theorem pA.num{ks:List Int}(h:pA ks):∃n,n<64/\ks=[((n/8:Nat):Int),((n % 8:Nat):Int)]:=by
 obtain⟨i,j,hi,hj,rfl⟩:=h;refine⟨8*i+j,by omega,?_⟩
 rw[show(8*i+j)/8=i by omega,show(8*i+j) % 8=j by omega]
theorem pA.ja{ks:List Int}(h:pA ks):adO (hT ks):=by
 obtain⟨n,hn,rfl⟩:=h.num;have:=afX.mp adb n (afR.mpr hn);unfold J9 at this;rw[af1,afX,afX]at this;refine⟨λm hm=>this.1 m ?_,λm hm=>this.2 m ?_⟩
 ·rcases hm with rfl|rfl|rfl<;>decide
 ·rcases hm with rfl|rfl<;>decide
theorem pA.inj{a b:List Int}(ha:pA a) (hb:pA b) (h:hT a=hT b):a=b:=by
 obtain⟨n,hn,rfl⟩:=ha.num;obtain⟨k,hk,rfl⟩:=hb.num;have h1:((θ 64).map hP)[n]? = ζ (hP n):=by rw[af6,agG hn];rfl
 have h2:((θ 64).map hP)[k]? = ζ (hP n):=by
  rw[af6,agG hk];exact congrArg ζ h.symm
 rw[KP adf h1 h2]
abbrev abw(q:List Int×Ξ):Int×Γ:=(hT q.1,.ref q.2)
def GP(P:π) (w:χ) (Y:Ξ->Prop) (h:υ) (a:Ξ) (ks:List (List Int)):Prop:=∃o es ep t,∃L:List (List Int×Ξ),h.get? a=ζ o/\o.ExactSet/\o.data=.set es ep t/\xM t es/\es.toList=L.map abw/\(∀q∈L,pA q.1/\IsTupleKey (intKind P w) h q.1 q.2)/\(L.map (·.1)).Perm ks/\∀q∈L,Y q.2
section
variable {prog:π}{w:χ}{A:ω}{s:Ψ}{E:Γ->Ψ->Prop}
theorem IsTupleKey.at{h h':υ}{k:List Int}{y:Ξ}(x:IsTupleKey (intKind prog w) h k y) (e:∀o,h.get? y=ζ o->h'.get? y=ζ o):IsTupleKey (intKind prog w) h' k y :=
 let⟨o,it,n,h1,r⟩:=x;⟨o,it,n,e o h1,r⟩
theorem GP.at{Y:Ξ->Prop}{h h':υ}{a:Ξ}{ks:List (List Int)}(x:GP prog w Y h a ks) (k:∀b,(b=a\/Y b)->∀o,h.get? b=ζ o->h'.get? b=ζ o):GP prog w Y h' a ks :=
 let⟨o,es,ep,t,L,ho,h1,h2,h3,h4,h5,h6,h7⟩:=x
 ⟨o,es,ep,t,L,k a (.inl rfl) o ho,h1,h2,h3,h4,λq hq=>⟨(h5 q hq).1,IsTupleKey.at (h5 q hq).2 (k q.2 (.inr (h7 q hq)))⟩,h6,h7⟩
end
def aK:D->Option (List Int)
 |.tup [.int i,.int j]=>if 0<=i/\i<8/\0<=j/\j<8 then ζ [i,j]else η
 |_=>η
end L2
namespace Ev
open PySem L2 PyProof.Rows
def top(i:Nat):ψ:=PySem.Challenge.pw_evenwebs_k35_whole_ways_of_even_webs.main.body.getD i (.Pass ⟨0,0,0,0⟩)
abbrev CV:ψ:=top 7
abbrev CU:ψ:=top 8
abbrev CY:ψ:=top 10
abbrev CZ:ψ:=top 34
abbrev Cq:ψ:=top 35
abbrev Co:ψ:=top 36
abbrev Cn:ψ:=top 37
abbrev Cr:ψ:=top 38
abbrev Cg:ψ:=top 39
abbrev Cm:ψ:=top 11
abbrev Cb:ψ:=top 12
abbrev Cf:ψ:=top 13
abbrev yG:ψ:=top 14
abbrev C4:ψ:=top 17
abbrev C0:ψ:=top 18
abbrev Ck:ψ:=top 19
abbrev C1:ψ:=top 20
abbrev C2:ψ:=top 21
abbrev CW:ψ:=top 24
abbrev Cp:ψ:=top 25
abbrev C3:ψ:=top 27
abbrev Cd:ψ:=top 28
abbrev Ci:ψ:=top 29
abbrev Ct:ψ:=top 30
abbrev Cc:ψ:=top 31
abbrev Ce:ψ:=top 40
abbrev Cs:ψ:=top 41
abbrev Cj:ψ:=top 42
abbrev yH:ψ:=top 43
abbrev CS:ψ:=top 45
abbrev CH:ψ:=top 46
abbrev Cv:ψ:=top 47
abbrev Cu:ψ:=top 48
abbrev CI:ψ:=top 49
abbrev CG:ψ:=top 50
abbrev CP:ψ:=top 51
abbrev CC:ψ:=top 52
abbrev CK:ψ:=top 53
abbrev Cw:ψ:=top 54
abbrev CM:ψ:=top 55
abbrev CN:ψ:=top 56
abbrev CF:ψ:=top 57
abbrev Cy:ψ:=top 58
abbrev CD:ψ:=top 59
abbrev CJ:ψ:=top 60
abbrev CQ:ψ:=top 61
abbrev CB:ψ:=top 62
abbrev Cz:ψ:=top 63
abbrev CO:ψ:=top 64
abbrev CL:ψ:=top 65
abbrev CA:ψ:=top 66
abbrev CT:ψ:=top 67
def Lv(st:ψ):ν:=match(i8 st).getLast? with
 |some (.Return (ζ (.Call _ [_,e] _ _)) _)=>e
 |_=>.Name "" ⟨0,0,0,0⟩
def xR:ν:=Lv yG
def pD:ν:=Lv yH
def ko:List (Int×List Int):=[(2,[2,1,0]),(3,[3,1,0]),(4,[2,2,3]),(5,[5,1,0]),(7,[7,1,0]),(8,[2,3,3]),(9,[3,2,1]),(11,[11,1,0]),(13,[13,1,0]),(16,[2,4,3]),(17,[17,1,0]),(19,[19,1,0]),(23,[23,1,0]),(25,[5,2,2]),(27,[3,3,7]),(29,[29,1,0]),(31,[31,1,0]),(32,[2,5,5]),(37,[37,1,0]),(41,[41,1,0]),(43,[43,1,0]),(47,[47,1,0]),(49,[7,2,1])]
def A2:ah :=
 (aS (uy (aO dR (aq (ao 0) (aq (dC (.ty "int")) au))) (E9 (aO dR (aq (ao 0) (aq (dC (.ty "bool")) au))))))
def vY:List D->aa->R D:=bD 1 Θ A2
def A1:ah :=
 (aS (uy (aC 1 vY (aq (ao 0) au)) (Fb Eh Eh (ao 1) (ao 0) (ao 2))))
def l9:List D->aa->R D:=bD 3 Θ A1
def A4:ah :=
 (aS (aC 3 l9 (aq (ao 0) (aq (dC (.int 0)) (aq (av cA (ao 1) (dC (.int 1))) au)))))
def qo:List D->aa->R D:=bD 2 Θ A4
def nL:af :=
 (av ji (ao 1) (av aF (ao 2) (ao 0)))
def A5:ah :=
 (aS (uy (aC 1 vY (aq (ao 0) au)) (av (wu "FIELDS" ko) (ao 0) (dC (.fn "FIELDS" 0)))))
def zF:List D->aa->R D:=bD 1 Θ A5
def AH:ah :=
 (b7 (k7 (aV (aC 1 zF (aq (ao 0) au)))) lM ck)
def j3:List D->aa->R D:=bD 1 Θ AH
def AF:ah :=
 (aE (cK (aC 1 j3 (aq (ao 0) au))) (bB (eG (ao 1)) (aA 2) (b7 (k7 (aV (aC 3 l9 (aq (ao 2) (aq (dC (.int 0)) (aq (av cA (ao 0) (dC (.int 1))) au)))))) lM ck)))
def qh:List D->aa->R D:=bD 3 Θ AF
def AE:ah :=
 (aE (aG 2 (k6 (qD ko 0) (ao 0))) (aE (aG 3 (cV au)) (aE (aG 4 (ao 1)) (aE (bB (aZ (aq (k6 (qD ko 1) (ao 0)) au)) (aA 5) (aE (cK (dH (ao 3) (av cy (ao 4) (ao 2)))) (aG 4 (av gu (ao 4) (ao 2))))) (aS (ao 3))))))
def jk:List D->aa->R D:=bD 6 Θ AE
def AJ:ah :=
 (aE (aG 2 (k6 (qD ko 0) (ao 0))) (aE (aG 3 (dC (.int 0))) (aE (bB (wQ (aq (ao 1) au)) (aA 4) (aG 3 (av bu (av bN (ao 3) (ao 2)) (av cy (ao 4) (ao 2))))) (aS (ao 3)))))
def qk:List D->aa->R D:=bD 5 Θ AJ
def Az:ah :=
 (aE (cK (aC 2 qh (aq (ao 0) (aq (cC (aq (ao 1) (aq (ao 2) au))) au)))) (aS (aC 2 qk (aq (ao 0) (aq (aY (iF (aq (aC 2 jk (aq (ao 0) (aq (ao 1) au))) (aq (aC 2 jk (aq (ao 0) (aq (ao 2) au))) au))) [η,η] (cS 2 (br (aA 0) (br (aA 1) cU))) aM (av cA (ao 0) (ao 1))) au)))))
def vW:List D->aa->R D:=bD 3 Θ Az
def nK:af :=
 (av inD (aC 3 vW (aq (ao 3) (aq (ao 0) (aq (ao 1) au)))) (ao 2))
def lams:List (ν×List Str×(List D->aa->R D)):=[(xR,["web"],qy nL),(pD,["squares","q"],qy nK)]
def AD:ah :=
 (aS (aO cP (aq (aY (aZ (aq (ao 0) au)) [η,ζ 1,ζ 2] (aA 0) (jr (aV (av eV (ao 0) (ao 1))) (aV (rL 2 2 lams (aq (ao 1) (aq (ao 0) au))))) (ao 0)) au)))
def iY:List D->aa->R D:=bD 3 Θ AD
def Av:ah :=
 (aS (aO cP (aq (aY (aZ (aq (ao 0) au)) [η,ζ 0,ζ 1] (aA 0) aM (aC 3 iY (aq (ao 1) (aq (ao 0) (aq (ao 2) au))))) au)))
def jH:List D->aa->R D:=bD 2 Θ Av
def Ay:ah :=
 (aE (aG 1 (cV au)) (aE (bB (mK (aq (ao 0) au)) (cS 2 (br (aA 2) (br (aA 3) cU))) (cK (gV (ao 1) (aY (eG (ao 3)) [η,ζ 2] (aA 0) (aV (av nH (ao 1) (ao 0))) (cC (aq (ao 1) (aq (ao 0) au))))))) (aS (ao 1))))
def lY:List D->aa->R D:=bD 4 Θ Ay
def AI:ah :=
 (aS (rK 0 jH (aO bA (aq (ao 0) au)) xR ["web"] [0]))
def qj:List D->aa->R D:=bD 1 Θ AI
def A9:ah :=
 (aS (ux (aq (av aF (ao 0) (ao 1)) au) (aq (av aF (ao 0) (ao 2)) au)))
def nG:List D->aa->R D:=bD 3 Θ A9
def A6:ah :=
 (aE (bB (mK (aq (ao 0) au)) (cS 2 (br (aA 1) (br (aA 2) cU))) (b7 (aV (av eV (aO bA (aq (ao 2) au)) (aO bA (aq (av aF (ao 0) (dC (.int 0))) au)))) (aS (ao 1)) ck)) (aS (dC .aL)))
def t7:List D->aa->R D:=bD 3 Θ A6
def AB:ah :=
 (aS (rJ (Aj (ao 1)) (aC 3 nG (aq (ao 0) (aq (av aF (av aF (ao 1) (dC (.int 0))) (dC (.int 0))) (aq (av aF (av aF (ao 1) (dC (.int 0))) (dC (.int 1))) au)))) (dC .aL)))
def jZ:List D->aa->R D:=bD 2 Θ AB
def A7:ah :=
 (aE (aG 2 (aC 2 jZ (aq (ao 0) (aq (ao 1) au)))) (aE (bB (dG (ao 1)) (aA 3) (b7 (aV (av eV (aC 3 nG (aq (ao 0) (aq (av aF (ao 3) (dC (.int 0))) (aq (av aF (ao 3) (dC (.int 1))) au)))) (ao 2))) (aS (ao 3)) ck)) (aS (dC .aL))))
def qp:List D->aa->R D:=bD 4 Θ A7
def xC:ah :=
 (aE (aG 1 (aC 1 t7 (aq (ao 0) au))) (aE (b7 (aV (av kQ (ao 1) (dC .aL))) (aS (cC (aq (dC (.str "place")) (aq (ao 1) au)))) ck) (aE (aG 2 (aC 1 lY (aq (ao 0) au))) (aE (aG 3 (aC 1 lY (aq (aC 1 qj (aq (ao 0) au)) au))) (aE (bB (eG (cC (aq (cC (aq (dC (.str "tied")) (aq (ao 2) au))) (aq (cC (aq (dC (.str "apart")) (aq (ao 3) au))) au)))) (cS 2 (br (aA 4) (br (aA 5) cU))) (aE (aG 6 (aC 2 qp (aq (ao 0) (aq (ao 5) au)))) (b7 (aV (av kQ (ao 6) (dC .aL))) (aS (cC (aq (ao 4) (aq (av aF (ao 6) (dC (.int 0))) (aq (av aF (ao 6) (dC (.int 1))) au))))) ck))) (aS (cC (aq (dC (.str "even")) (aq (cC (aq (aO bA (aq (ao 0) au)) (aq (aO bA (aq (av aF (ao 0) (dC (.int 0))) au)) (aq (aC 2 jZ (aq (ao 0) (aq (ao 2) au))) (aq (aC 2 jZ (aq (ao 0) (aq (ao 3) au))) au))))) au)))))))))
def qq:List D->aa->R D:=bD 7 Θ xC
def A3:ah :=
 (aE (b7 (oU (k7 (aV (aO dR (aq (ao 0) (aq (dC (.ty "tuple")) au))))) (aV (av eV (aO bA (aq (ao 0) au)) (dC (.int 4))))) (aS (dC (.bl Θ))) ck) (aE (b7 (oU (k7 (aV (aC 3 l9 (aq (av aF (ao 0) (dC (.int 0))) (aq (dC (.int 3)) (aq (dC (.int 100)) au)))))) (k7 (aV (aC 3 l9 (aq (av aF (ao 0) (dC (.int 1))) (aq (dC (.int 1)) (aq (av cA (av aF (ao 0) (dC (.int 0))) (dC (.int 2))) au))))))) (aS (dC (.bl Θ))) ck) (aS (uy (aC 3 l9 (aq (av aF (ao 0) (dC (.int 2))) (aq (dC (.int 0)) (aq (av cA (av aF (ao 0) (dC (.int 1))) (dC (.int 1))) au)))) (aC 3 l9 (aq (av aF (ao 0) (dC (.int 3))) (aq (dC (.int 0)) (aq (av aF (ao 0) (dC (.int 1))) au))))))))
def zE:List D->aa->R D:=bD 1 Θ A3
def AG:ah :=
 (b7 (k7 (aV (aC 1 zE (aq (ao 0) au)))) lM ck)
def qi:List D->aa->R D:=bD 1 Θ AG
def A8:ah :=
 (aS (aY (eG (ao 0)) [η,ζ 1] (aA 0) aM (aO kB (aq (aY (eG (ao 0)) [η,ζ 1] (aA 0) aM (av aF (ao 1) (ao 0))) au))))
def qt:List D->aa->R D:=bD 2 Θ A8
def Aw:ah :=
 (aE (b7 (oU (k7 (aV (aC 2 qo (aq (ao 1) (aq (aO bA (aq (ao 0) au)) au))))) (k7 (aV (aC 2 qo (aq (ao 2) (aq (aO bA (aq (ao 0) au)) au)))))) lM ck) (aE (aG 4 (aY (aZ (aq (aO bA (aq (ao 0) au)) au)) [η,ζ 1] (aA 0) aM (rJ (aV (av cj (ao 0) (ao 1))) (dC (.int 1)) (dC (.int 0))))) (aE (bB (aZ (aq (ao 3) au)) (aA 5) (aG 4 (aC 2 qt (aq (ao 0) (aq (ao 4) au))))) (aS (av aF (ao 4) (ao 2))))))
def lX:List D->aa->R D:=bD 6 Θ Aw
def AA:ah :=
 (aE (aG 1 (av aF (ao 0) (dC (.int 1)))) (aE (aG 2 (av aF (ao 0) (dC (.int 2)))) (aE (aG 3 (av aF (ao 0) (dC (.int 3)))) (aS (bG (aq (cC (aq (dC (.int 0)) (aq (ao 1) (aq (dC (.int 0)) au)))) (aq (cC (aq (dC (.int 1)) (aq (ao 2) (aq (av cA (av cA (ao 1) (dC (.int 1))) (ao 2)) au)))) (aq (cC (aq (dC (.int 0)) (aq (ao 3) (aq (av cA (ao 1) (ao 3)) au)))) au))))))))
def qg:List D->aa->R D:=bD 4 Θ AA
def AL:ah :=
 (aS (aO kB (aq (aY (iF (aq (ao 0) (aq (ao 1) au))) [η,η] (cS 2 (br (aA 0) (br (aA 1) cU))) aM (av bN (ao 0) (ao 1))) au)))
def tX:List D->aa->R D:=bD 2 Θ AL
def xj:ah :=
 (aE (cK (aC 1 qi (aq (ao 0) au))) (aE (aG 2 (aC 1 qg (aq (ao 0) au))) (aE (aG 3 (cC (aq (dC (.int 1)) (aq (dC (.int 0)) (aq (dC (.int 0)) au))))) (aE (bB (aZ (aq (ao 1) au)) (aA 4) (aG 3 (aO cP (aq (aY (dG (ao 2)) [η,ζ 3] (aA 0) aM (aC 2 tX (aq (ao 0) (aq (ao 1) au)))) au)))) (aS (ao 3))))))
def qe:List D->aa->R D:=bD 5 Θ xj
def Ax:ah :=
 (aE (aG 2 (aC 2 jk (aq (ao 0) (aq (k6 (qD ko 2) (ao 0)) au)))) (aS (aY (iF (aq (av fh (bG (aq (dC (.int 0)) au)) (ao 1)) (aq (ao 2) au))) [η,η,ζ 1] (cS 2 (br (aA 0) (br (aA 1) cU))) aM (av cA (ao 0) (av bN (av aF (ao 2) (k6 vL (dC (.int 1)))) (ao 1))))))
def tT:List D->aa->R D:=bD 3 Θ Ax
def AK:ah :=
 (aE (cK (aC 2 qh (aq (ao 0) (aq (cC (aq (ao 1) (aq (ao 2) au))) au)))) (aE (aG 3 (aC 2 jk (aq (ao 0) (aq (ao 2) au)))) (aE (aG 4 (av sR (bG (aq (dC (.int 0)) au)) (aO bA (aq (ao 3) au)))) (aE (bB (wQ (aq (aC 2 jk (aq (ao 0) (aq (ao 1) au))) au)) (aA 5) (aG 4 (aY (iF (aq (aC 2 tT (aq (ao 0) (aq (ao 4) au))) (aq (ao 3) au))) [η,η,ζ 5] (cS 2 (br (aA 0) (br (aA 1) cU))) aM (av bu (ao 0) (av bN (ao 2) (ao 1)))))) (aS (aC 2 qk (aq (ao 0) (aq (ao 4) au))))))))
def tV:List D->aa->R D:=bD 6 Θ AK
def FD:ah :=
 (aE (cK (aC 1 j3 (aq (ao 0) au))) (aS (i9 (aq (aY (gG (aq (dC (.int 1)) (aq (ao 0) au))) [η,ζ 0] (aA 0) aM (aC 3 tV (aq (ao 1) (aq (ao 0) (aq (ao 0) au))))) au))))
def tU:List D->aa->R D:=bD 1 Θ FD
def xB:ah :=
 (aE (cK (aC 1 j3 (aq (ao 0) au))) (aE (b7 (aV (av eV (av cy (ao 0) (dC (.int 4))) (dC (.int 1)))) lM ck) (aE (aG 1 (aC 1 tU (aq (ao 0) au))) (aS (rK 1 jH (ao 0) pD ["squares","q"] [1,0])))))
def kO:List D->aa->R D:=bD 2 Θ xB
def xx:ah :=
 (aE (b7 (aV (av nH (ao 1) (aO bA (aq (ao 0) au)))) (aS (av aF (ao 0) (ao 1))) ck) (aS (dC (.int 0))))
def nF:List D->aa->R D:=bD 2 Θ xx
def xq:ah :=
 (aE (b7 (aV (av MH (ao 0) (av sZ (dC (.int 10)) (dC (.int 18))))) (aS (cV (aq (av cA (ao 0) (av sZ (dC (.int 10)) (dC (.int 18)))) au))) ck) (aE (aG 1 (dC (.int 0))) (aE (bB (aZ (aq (dC (.int 64)) au)) (aA 2) (aE (aG 3 (av cy (av bN (av bu (av bu (av cy (ao 0) (dC (.int 2147483629))) (av bN (dC (.int 7919)) (ao 2))) (dC (.int 1))) (dC (.int 48271))) (dC (.int 2147483647)))) (aE (aG 3 (av cy (av bu (av bu (av bN (ao 3) (ao 3)) (av bN (dC (.int 69621)) (ao 2))) (dC (.int 7))) (dC (.int 2147483587)))) (aG 1 (av bu (av bN (ao 1) (dC (.int 2147483587))) (ao 3)))))) (aS (cV (aq (ao 1) au))))))
def nC:List D->aa->R D:=bD 4 Δ xq
def xm:ah :=
 (aE (aG 2 (av cy (av aF (ao 0) (dC (.int 0))) (ao 1))) (aE (gR (av gu (av aF (ao 0) (dC (.int 0))) (ao 1)) (mE (ao 0) (dC (.int 0)))) (aS (ao 2))))
def bJ:List D->aa->R D:=bD 3 Θ xm
def AM:ah :=
 (aE (aG 2 (aY (aZ (aq (ao 0) au)) [η] (aA 0) aM (cV au))) (aE (bB (dG (ao 1)) (cS 2 (br (aA 3) (br (aA 4) cU))) (aE (cK (dH (av aF (ao 2) (ao 3)) (ao 4))) (cK (dH (av aF (ao 2) (ao 4)) (ao 3))))) (aS (aO cP (aq (aY (dG (ao 2)) [η] (aA 0) aM (aO cP (aq (i9 (aq (ao 0) au)) au))) au)))))
def kL:List D->aa->R D:=bD 5 Θ AM
def AV:ah :=
 (aE (aG 1 (cV au)) (aE (bB (aZ (aq (ao 0) au)) (aA 2) (cK (gV (ao 1) (aY (gG (aq (av bu (ao 2) (dC (.int 1))) (aq (ao 0) au))) [η,ζ 2] (aA 0) aM (cC (aq (ao 1) (aq (ao 0) au))))))) (aE (aG 3 (cV au)) (aE (bB (aZ (aq (aO bA (aq (ao 1) au)) au)) (aA 2) (bB (gG (aq (av bu (ao 2) (dC (.int 1))) (aq (aO bA (aq (ao 1) au)) au))) (aA 4) (b7 (oU (aV (av inD (av aF (av aF (ao 1) (ao 2)) (dC (.int 0))) (av aF (ao 1) (ao 4)))) (aV (av inD (av aF (av aF (ao 1) (ao 2)) (dC (.int 1))) (av aF (ao 1) (ao 4))))) (cK (dH (ao 3) (cC (aq (ao 2) (aq (ao 4) au))))) ck))) (aS (aC 2 kL (aq (aO bA (aq (ao 1) au)) (aq (ao 3) au))))))))
def l7:List D->aa->R D:=bD 5 Θ AV
def AU:ah :=
 (aS (av aF (aY (dG (bG (fS [2,3,5,7,11,13,17,19,23,29,31,37,41,43,47]))) [η,ζ 0] (aA 0) (aV (av cj (av cy (ao 1) (ao 0)) (dC (.int 0)))) (ao 0)) (dC (.int 0))))
def gY:List D->aa->R D:=bD 1 Θ AU
def AZ:ah :=
 (aE (aG 1 (dC (.int 0))) (aE (iu (aV (av jl (ao 0) (dC (.int 1)))) (aE (aG 0 (av gu (ao 0) (aC 1 gY (aq (ao 0) au)))) (aG 1 (av bu (ao 1) (dC (.int 1))))) 10) (aS (ao 1))))
def kM:List D->aa->R D:=bD 2 Θ AZ
def AR:ah :=
 (aE (aG 3 (cV au)) (aE (bB (aZ (aq (ao 2) au)) (aA 4) (aE (cK (dH (ao 3) (av cy (ao 0) (ao 1)))) (aG 0 (av gu (ao 0) (ao 1))))) (aS (ao 3))))
def gm:List D->aa->R D:=bD 5 Θ AR
def AX:ah :=
 (aE (aG 2 (dC (.int 0))) (aE (bB (aZ (aq (aO bA (aq (ao 0) au)) au)) (aA 3) (aG 2 (av bu (av bN (ao 2) (ao 1)) (av aF (ao 0) (av cA (av cA (aO bA (aq (ao 0) au)) (dC (.int 1))) (ao 3)))))) (aS (ao 2))))
def ql:List D->aa->R D:=bD 4 Θ AX
def rR:ah :=
 (aE (aG 3 (av kD (bG (aq (dC (.int 0)) au)) (av cA (av bu (aO bA (aq (ao 0) au)) (aO bA (aq (ao 1) au))) (dC (.int 1))))) (aE (bB (aZ (aq (aO bA (aq (ao 0) au)) au)) (aA 4) (bB (aZ (aq (aO bA (aq (ao 1) au)) au)) (aA 5) (gR (av cy (av bu (av aF (ao 3) (av bu (ao 4) (ao 5))) (av bN (av aF (ao 0) (ao 4)) (av aF (ao 1) (ao 5)))) (ao 2)) (mE (ao 3) (av bu (ao 4) (ao 5)))))) (aS (ao 3))))
def lZ:List D->aa->R D:=bD 6 Θ rR
def tQ:List D->aa->R D:=bD 6 Δ rR
def uB:ah :=
 (aE (aG 2 (bG (aq (bG au) au))) (aE (bB (aZ (aq (ao 0) au)) (aA 3) (aE (aG 4 (cV au)) (aE (bB (dG (ao 2)) (aA 5) (cK (gV (ao 4) (aY (aZ (aq (ao 1) au)) [η,ζ 5] (aA 0) aM (av fh (ao 1) (bG (aq (ao 0) au))))))) (aG 2 (ao 4))))) (aS (aY (dG (ao 2)) [η] (aA 0) aM (av fh (ao 0) (bG (aq (dC (.int 1)) au)))))))
def nE:List D->aa->R D:=bD 6 Θ uB
def AY:ah :=
 (aE (aG 1 (aC 1 gY (aq (ao 0) au))) (aE (aG 2 (aC 1 kM (aq (ao 0) au))) (aE (b7 (aV (av cj (ao 2) (dC (.int 1)))) (aS (bG (aq (dC (.int 0)) (aq (dC (.int 1)) au)))) ck) (aE (aG 3 (cV au)) (aE (bB (gG (aq (dC (.int 1)) (aq (av bu (av gu (ao 2) (dC (.int 2))) (dC (.int 1))) au))) (aA 4) (bB (dG (aC 2 nE (aq (ao 4) (aq (ao 1) au)))) (aA 5) (cK (gV (ao 3) (aY (dG (aC 2 nE (aq (av cA (ao 2) (ao 4)) (aq (ao 1) au)))) [η,ζ 5,ζ 1] (aA 0) aM (aC 3 lZ (aq (ao 1) (aq (ao 0) (aq (ao 2) au))))))))) (aE (aG 6 (dC (.int 0))) (aE (iu (aV (av inD (av fh (aC 3 gm (aq (ao 6) (aq (ao 1) (aq (ao 2) au)))) (bG (aq (dC (.int 1)) au))) (ao 3))) (aG 6 (av bu (ao 6) (dC (.int 1)))) 60) (aS (av fh (aC 3 gm (aq (ao 6) (aq (ao 1) (aq (ao 2) au)))) (bG (aq (dC (.int 1)) au)))))))))))
def t6:List D->aa->R D:=bD 7 Θ AY
def AS:ah :=
 (aE (aG 4 (aC 1 gY (aq (ao 0) au))) (aE (aG 5 (av cA (aO bA (aq (ao 1) au)) (dC (.int 1)))) (aE (aG 6 (aC 3 tQ (aq (aC 3 gm (aq (ao 2) (aq (ao 4) (aq (ao 5) au)))) (aq (aC 3 gm (aq (ao 3) (aq (ao 4) (aq (ao 5) au)))) (aq (ao 4) au))))) (aE (bB (uw (aq (av cA (aO bA (aq (ao 6) au)) (dC (.int 1))) (aq (av cA (ao 5) (dC (.int 1))) (aq (av cA (dC (.int 0)) (dC (.int 1))) au)))) (aA 7) (aE (aG 8 (av aF (ao 6) (ao 7))) (bB (aZ (aq (av bu (ao 5) (dC (.int 1))) au)) (aA 9) (aE (aG 10 (av bu (av cA (ao 7) (ao 5)) (ao 9))) (gR (av cy (av cA (av aF (ao 6) (ao 10)) (av bN (ao 8) (av aF (ao 1) (ao 9)))) (ao 4)) (mE (ao 6) (ao 10))))))) (aS (aC 2 ql (aq (oQ (ao 6) oV (oR (ao 5))) (aq (ao 4) au))))))))
def tZ:List D->aa->R D:=bD 11 Θ AS
def AN:ah :=
 (aE (aG 4 (aC 1 gY (aq (ao 0) au))) (aE (aG 5 (aC 1 kM (aq (ao 0) au))) (aE (aG 6 (bG (aq (aC 3 gm (aq (ao 1) (aq (ao 4) (aq (ao 5) au)))) (aq (aC 3 gm (aq (ao 2) (aq (ao 4) (aq (ao 5) au)))) au)))) (aS (aC 2 ql (aq (aY (aZ (aq (ao 5) au)) [η,ζ 4,ζ 3,ζ 6] (aA 0) aM (av cy (av bu (av aF (av aF (ao 3) (dC (.int 0))) (ao 0)) (av bN (ao 2) (av aF (av aF (ao 3) (dC (.int 1))) (ao 0)))) (ao 1))) (aq (ao 4) au)))))))
def nA:List D->aa->R D:=bD 7 Θ AN
def xo:ah :=
 (aE (aG 1 (aC 1 t6 (aq (ao 0) au))) (aS (aY (aZ (aq (ao 0) au)) [η,ζ 0,ζ 1] (aA 0) aM (aY (aZ (aq (ao 1) au)) [η,ζ 1,ζ 2,ζ 0] (aA 0) aM (aC 4 tZ (aq (ao 1) (aq (ao 2) (aq (ao 3) (aq (ao 0) au)))))))))
def tY:List D->aa->R D:=bD 2 Θ xo
def AW:ah :=
 (aE (aG 2 (wR (aq (ao 1) au))) (aS (aO cP (aq (aY (aZ (aq (ao 1) au)) [η,ζ 2,ζ 0] (aA 0) aM (kh (ao 1) (aC 2 bJ (aq (ao 2) (aq (aO bA (aq (ao 1) au)) au))))) au))))
def gn:List D->aa->R D:=bD 3 Θ AW
def A0:ah :=
 (aE (b7 (jr (aV (av cj (ao 1) (dC (.int 4)))) (aV (av cj (aC 2 bJ (aq (ao 0) (aq (dC (.int 2)) au))) (dC (.int 0))))) (aG 2 (aY (aZ (aq (ao 1) au)) [η,ζ 1] (aA 0) aM (aY (aZ (aq (ao 1) au)) [η,ζ 0] (aA 0) aM (av mU (ao 1) (ao 0))))) (aE (aG 3 (av bu (dC (.int 1)) (aC 2 bJ (aq (ao 0) (aq (aO tS (aq (dC (.int 1)) (aq (av cA (ao 1) (dC (.int 1))) au))) au))))) (aE (aG 2 (aY (aZ (aq (ao 1) au)) [η,ζ 1,ζ 3] (aA 0) aM (aY (aZ (aq (ao 1) au)) [η,ζ 1,ζ 2,ζ 0] (aA 0) aM (av cy (av bu (av bN (ao 2) (ao 3)) (ao 0)) (ao 1))))) (b7 (aV (av lT (i9 (aq (aY (dG (ao 2)) [η] (aA 0) aM (av aF (ao 0) (dC (.int 0)))) au)) (rH (aq (ao 1) au)))) (aG 2 (aY (aZ (aq (ao 1) au)) [η,ζ 1] (aA 0) aM (aY (aZ (aq (ao 1) au)) [η,ζ 1,ζ 0] (aA 0) aM (av cy (av bu (ao 2) (ao 0)) (ao 1))))) ck)))) (aE (aG 4 (aC 2 gn (aq (ao 0) (aq (ao 1) au)))) (aE (aG 5 (aC 2 gn (aq (ao 0) (aq (ao 1) au)))) (aE (aG 6 (aC 2 gn (aq (ao 0) (aq (ao 1) au)))) (aS (aO cP (aq (aY (eG (ao 4)) [η,ζ 5,ζ 6,ζ 2] (aA 0) aM (aO cP (aq (aY (eG (ao 2)) [η,ζ 1,ζ 3,ζ 0] (aA 0) aM (av aF (ao 1) (av aF (av aF (ao 2) (ao 3)) (ao 0)))) au))) au)))))))
def qm:List D->aa->R D:=bD 7 Θ A0
def AQ:ah :=
 (aE (aG 1 (cV (aq (bG (fS [0,1,2,3,4,5])) (aq (bG (fS [1,0,3,2,5,4])) (aq (bG (fS [2,4,0,5,1,3])) (aq (bG (fS [3,5,1,4,0,2])) (aq (bG (fS [4,2,5,0,3,1])) au))))))) (aE (cK (dH (ao 1) (bG (fS [5,3,4,1,2,0])))) (aE (aG 2 (aC 2 gn (aq (ao 0) (aq (dC (.int 6)) au)))) (aS (aO cP (aq (aY (eG (ao 2)) [η,ζ 1] (aA 0) aM (aO cP (aq (av aF (ao 1) (ao 0)) au))) au))))))
def l6:List D->aa->R D:=bD 3 Θ AQ
def AO:ah :=
 (aE (b7 (jr (aV (av cj (ao 1) (dC (.int 6)))) (aV (av cj (aC 2 bJ (aq (ao 0) (aq (dC (.int 2)) au))) (dC (.int 0))))) (aS (aC 1 l6 (aq (ao 0) au))) ck) (aS (aC 2 qm (aq (ao 0) (aq (ao 1) au)))))
def nB:List D->aa->R D:=bD 2 Θ AO
def xu:ah :=
 (aE (aG 1 (aC 1 tY (aq (ao 0) au))) (aE (aG 2 (cV au)) (aE (bB (gG (aq (dC (.int 1)) (aq (ao 0) au))) (aA 3) (aE (aG 4 (cV au)) (aE (bB (aZ (aq (ao 0) au)) (aA 5) (cK (dH (ao 4) (aO cP (aq (aY (aZ (aq (ao 0) au)) [η,ζ 0,ζ 5,ζ 1,ζ 3] (aA 0) aM (aC 4 nA (aq (ao 1) (aq (av aF (av aF (ao 3) (ao 4)) (ao 2)) (aq (ao 0) (aq (dC (.int 1)) au)))))) au))))) (cK (dH (ao 2) (aO cP (aq (ao 4) au))))))) (aS (ao 2)))))
def vX:List D->aa->R D:=bD 6 Δ xu
def xr:ah :=
 (aE (aG 2 (cV au)) (aE (bB (aZ (aq (av bN (ao 0) (ao 0)) au)) (aA 3) (aE (aG 4 (av gu (ao 3) (ao 0))) (aE (aG 5 (av cy (ao 3) (ao 0))) (cK (dH (ao 2) (av fh (bG (aq (ao 4) (aq (ao 5) au))) (aY (dG (ao 1)) [η,ζ 5,ζ 4] (aA 0) aM (av aF (av aF (ao 0) (ao 2)) (ao 1))))))))) (aE (aG 6 (cV au)) (aE (bB (aZ (aq (av bN (ao 0) (ao 0)) au)) (aA 7) (bB (gG (aq (av bu (ao 7) (dC (.int 1))) (aq (av bN (ao 0) (ao 0)) au))) (aA 8) (b7 (aV (aO uE (aq (aY (iF (aq (av aF (ao 2) (ao 7)) (aq (av aF (ao 2) (ao 8)) au))) [η,η] (cS 2 (br (aA 0) (br (aA 1) cU))) aM (av cj (ao 0) (ao 1))) au))) (cK (dH (ao 6) (cC (aq (ao 7) (aq (ao 8) au))))) ck))) (aS (aC 2 kL (aq (av bN (ao 0) (ao 0)) (aq (ao 6) au))))))))
def l8:List D->aa->R D:=bD 9 Θ xr
def uA:ah :=
 (aE (aG 1 (av bu (dC (.int 2)) (aC 2 bJ (aq (ao 0) (aq (dC (.int 6)) au))))) (aE (b7 (aV (av cj (ao 1) (dC (.int 6)))) (aS (cC (aq (ao 1) (aq (oQ (bG (aq (aC 2 nB (aq (ao 0) (aq (ao 1) au))) au)) oV (oR (aC 2 bJ (aq (ao 0) (aq (dC (.int 2)) au))))) au)))) ck) (aE (aG 2 (aC 1 vX (aq (ao 1) au))) (aE (aG 3 (cV au)) (aE (bB (aZ (aq (aC 2 bJ (aq (ao 0) (aq (ao 1) au))) au)) (aA 4) (cK (dH (ao 3) (kh (ao 2) (aC 2 bJ (aq (ao 0) (aq (aO bA (aq (ao 2) au)) au))))))) (aS (cC (aq (ao 1) (aq (ao 3) au)))))))))
def l5:List D->aa->R D:=mF 5 uA
def xy:ah :=
 (aE (bB (aZ (aq (dC (.int 4)) au)) (aA 1) (aE (aG 2 (aC 1 nC (aq (aC 2 nF (aq (ao 0) (aq (ao 1) au))) au))) (aE (aG 3 (aC 2 bJ (aq (ao 2) (aq (dC (.int 3)) au)))) (aE (aG 4 (aC 1 l7 (aq (av bu (dC (.int 4)) (aC 2 bJ (aq (ao 2) (aq (dC (.int 4)) au)))) au))) (aE (b7 (aV (av cj (ao 3) (dC (.int 1)))) (aE (gR (aC 1 l5 (aq (ao 2) au)) (cS 2 (br (aA 5) (br (aA 6) cU)))) (aG 4 (aC 2 l8 (aq (ao 5) (aq (ao 6) au))))) ck) (aE (b7 (aV (av cj (ao 3) (dC (.int 2)))) (aG 4 (aC 1 kO (aq (av aF (bG (aq (dC (.int 5)) (aq (dC (.int 9)) (aq (dC (.int 13)) (aq (dC (.int 17)) au))))) (aC 2 bJ (aq (ao 2) (aq (dC (.int 4)) au)))) au))) ck) (aE (gR (aC 1 qq (aq (ao 4) au)) (cS 2 (br (aA 7) (br (aA 8) cU)))) (aE (aG 9 (aC 2 bJ (aq (ao 2) (aq (av aF (bG (aq (dC (.int 13)) (aq (dC (.int 13)) (aq (dC (.int 13)) (aq (dC (.int 25)) au))))) (aC 2 bJ (aq (ao 2) (aq (dC (.int 4)) au)))) au)))) (aE (aG 10 (aC 2 bJ (aq (ao 2) (aq (aO bA (aq (ao 4) au)) au)))) (aE (b7 (aV (av eV (ao 7) (dC (.str "even")))) (aS (dC (.bl Θ))) ck) (b7 (aV (av ji (dC .aL) (ao 8))) (aE (aG 11 (aC 2 qe (aq (ao 8) (aq (ao 9) au)))) (bB (aZ (aq (dC (.int 3)) au)) (aA 12) (aE (aG 13 (av aF (bG (aq (ao 10) (aq (aC 2 bJ (aq (ao 2) (aq (aO bA (aq (ao 4) au)) au))) au))) (aO fq (aq (av jl (ao 12) (dC (.int 0))) au)))) (aE (aG 14 (av cA (av cA (dC (.int 2)) (aO fq (aq (av inD (ao 13) (av aF (ao 4) (ao 10))) au))) (av bN (dC (.int 2)) (aO fq (aq (av cj (ao 13) (ao 10)) au))))) (b7 (aV (av eV (aC 4 lX (aq (ao 4) (aq (ao 10) (aq (ao 13) (aq (ao 9) au))))) (av aF (ao 11) (ao 14)))) (aS (dC (.bl Θ))) ck))))) ck))))))))))) (aS (dC (.bl Δ))))
def zD:List D->aa->R D:=bD 15 Θ xy
end Ev
namespace L2
open PySem PySem.Spec PyProof.Rows
structure Dd (K:ξ) (mg:Str->Option Γ) (x:Str) (st:ψ) (ps:List Str) where
 a:Ξ
 fd:aag
 d:Def K mg x st ps a fd
 n:τ K μ x=ζ (ζ (.ref a))
section
variable {K:ξ}{mg:Str->Option Γ}{x:Str}{st:ψ}{ps:List Str}{f:Ξ}{h:υ}
def FA(K:ξ) (x:Str) (st:ψ) (f:Ξ):Prop:=τ K μ x=ζ (ζ (.ref f))/\∃(oc:Γ) (od:Option Ξ) (kV dc pm:Γ) (an:Option Ξ) (cd ct:Γ) (sl:Array (Option Γ)),K.lookup f=ζ ⟨oc,od,.func (PySem.W.fnOf x x (oO st) (i8 st) (bE st) .none kV dc pm an cd ct),sl⟩/\PySem.W.codeIn K cd x=Δ/\PySem.W.keepIn K (.ref f)=Δ
theorem FA.mk{oc:Γ}{od an:Option Ξ}{sl:Array (Option Γ)}{kV dc pm cd ct:Γ}(a:τ K μ x=ζ (ζ (.ref f))) (l:K.lookup f=ζ ⟨oc,od,.func (PySem.W.fnOf x x (oO st) (i8 st) (bE st) .none kV dc pm an cd ct),sl⟩) (c:PySem.W.codeIn K cd x=Δ) (k:PySem.W.keepIn K (.ref f)=Δ):FA K x st f:=⟨a,_,_,_,_,_,_,_,_,_,l,c,k⟩
theorem FA.fn(A:FA K x st f):∃fd,lC K x x st f fd:=by
 obtain⟨_,oc,od,kV,dc,pm,an,cd,ct,sl,l,c,k⟩:=A;exact⟨_,aaU l c k⟩
def cG(X:K.In h) (G:h.Ns μ mg) (A:FA K x st f) (hb:∀(kV doc pm:Γ) (an:Option Ξ) (cdv ct:Γ) (us:List Γ),us.length=ps.length->bindArgs (PySem.W.fnOf x x (oO st) (i8 st) (bE st) .none kV doc pm an cdv ct) ⟨us,[]⟩=pure (ps.zip us):=by
  intro _ _ _ _ _ _ us hl
  rcases us with _|⟨_,_|⟨_,_|⟨_,_|⟨_,_|⟨_,_⟩⟩⟩⟩⟩<;>first|(simp at hl;done)|rfl):Dd K mg x st ps :=
 ⟨f,A.fn.choose,⟨A.fn.choose_spec,aiB X G A.1,A.fn.choose_spec.binds hb⟩,A.1⟩
theorem YQ{P:π}{w:χ}{k:Nat}{sp:Sp}{p:Str}(D:Dd K mg x st [p]) (EG:mg x=ζ (.ref f)) (ok:∀base:υ,bL P w K mg base bC k D.a D.fd [p] sp)
  (hb:∀(kV doc pm:Γ) (an:Option Ξ) (cdv ct v:Γ),bindArgs (PySem.W.fnOf x x (oO st) (i8 st) (bE st) .none kV doc pm an cdv ct) ⟨[v],[]⟩=pure [(p,v)]:=by exact λ_ _ _ _ _ _ _=>rfl) :
  ∃fd:aag,(∀(s:Ψ) (v:Γ),aaF s fd ⟨[v],[]⟩ [(p,v)])/\∀base:υ,K.In base->base.Ns μ mg->bL P w K mg base bC k f fd [p] sp:=by
 have e:=EG.symm.trans D.d.at';cases e;obtain⟨oc,od,kV,doc,pm,an,cdv,ct,osl,hfd,lk,hcd⟩:=D.d.fn.ex;exact⟨D.fd,λs v=>.of_eq (by rw[hfd];exact hb kV doc pm an cdv ct v),λbase _ _=>ok base⟩
end
end L2
namespace Ev
open PySem L2 PyProof.Rows
set_option genInjectivity false in
set_option genSizeOfSpec false in
structure Tx (K:ξ) (mg:Str->Option Γ) where
 oF:Dd K mg "is_whole" CV ["thing"]
 jN:Dd K mg "is_whole_within" CU ["thing","least","most"]
 oG:Dd K mg "is_place" CY ["thing","many"]
 rA:Dd K mg "is_field" CZ ["thing"]
 mH:Dd K mg "require_field" Cq ["thing"]
 om:Dd K mg "require_things" Co ["q","things"]
 kc:Dd K mg "row_of" Cn ["q","number"]
 ou:Dd K mg "number_of" Cr ["q","row"]
 qH:Dd K mg "taken" Cg ["q","one","other"]
 qK:Dd K mg "row_where" Cm ["many","one","are_tied"]
 oi:Dd K mg "web_where" Cb ["many","are_tied"]
 oj:Dd K mg "ties" Cf ["web"]
 oq:Dd K mg "other_web" yG ["web"]
 oJ:Dd K mg "common" C4 ["web","one","other"]
 rB:Dd K mg "first_unlike_place" C0 ["web"]
 mG:Dd K mg "shared_by_all" Ck ["web","pairs"]
 rC:Dd K mg "first_unlike_pair" C1 ["web","pairs"]
 rD:Dd K mg "evenness" C2 ["web"]
 rq:Dd K mg "is_table" CW ["thing"]
 qL:Dd K mg "require_table" Cp ["thing"]
 rE:Dd K mg "counts_after_step" C3 ["web","counts"]
 qF:Dd K mg "ways_between" Cd ["web","one","other","many"]
 qI:Dd K mg "step_rows" Ci ["table"]
 qN:Dd K mg "met" Ct ["row","ways"]
 qE:Dd K mg "ways_by" Cc ["table","many"]
 qG:Dd K mg "times_letter" Ce ["q","row"]
 qM:Dd K mg "multiplied" Cs ["q","one","other"]
 qJ:Dd K mg "squares_in" Cj ["q"]
 oH:Dd K mg "field_web" yH ["q"]
 rj:Dd K mg "_law_cell_at" CS ["script","k"]
 qU:Dd K mg "_law_pot" CH ["cell"]
 f6:Dd K mg "_law_take" Cv ["pot","far"]
 oz:Dd K mg "_law_web_by" Cu ["many","pairs"]
 qV:Dd K mg "_law_pairs_web" CI ["m"]
 kY:Dd K mg "_law_prime" CG ["q"]
 oE:Dd K mg "_law_degree" CP ["q"]
 jM:Dd K mg "_law_row" CC ["number","p","many"]
 oA:Dd K mg "_law_number" CK ["row","p"]
 kg:Dd K mg "_law_sums_product" Cw ["one","other","p"]
 oB:Dd K mg "_law_heads" CM ["many","p"]
 qX:Dd K mg "_law_form" CN ["q"]
 qT:Dd K mg "_law_product" CF ["q","form","one","other"]
 qO:Dd K mg "_law_sum" Cy ["q","one","other","sign"]
 qS:Dd K mg "_law_products_of" CD ["q"]
 kZ:Dd K mg "_law_order" CJ ["pot","many"]
 qZ:Dd K mg "_law_cycled" CQ ["pot","n"]
 qR:Dd K mg "_law_six" CB ["pot"]
 qP:Dd K mg "_law_square" Cz ["pot","n"]
 qY:Dd K mg "_law_field_squares" CO ["q"]
 qW:Dd K mg "_law_net" CL ["n","squares"]
 qQ:Dd K mg "_law_some_net" CA ["pot"]
 rm:Dd K mg "law" CT ["script"]
 K2:mg "any"=η
 K1:mg "bool"=η
 DT:mg "enumerate"=η
 vO:mg "int"=η
 zz:mg "isinstance"=η
 ee:mg "len"=η
 DS:mg "list"=η
 K0:mg "max"=η
 cR:mg "range"=η
 DR:mg "reversed"=η
 vN:mg "set"=η
 zy:mg "sorted"=η
 DQ:mg "sum"=η
 iX:mg "tuple"=η
 tO:mg "zip"=η
 m7:Ξ
 mZ:Ξ
 pK:PySem.W.tabIn K "field_web"=ζ (m7,mZ)
 su:PySem.W.codeHdIn K m7 mZ=Δ
 m5:Ξ
 mY:Ξ
 pJ:PySem.W.tabIn K "other_web"=ζ (m5,mY)
 sj:PySem.W.codeHdIn K m5 mY=Δ
 pL:uY K=Δ
 uW:Tok
 MJ:mg "LEAST_PLACES"=ζ (.int 3 uW)
 uV:Tok
 MI:mg "MOST_COUNTED"=ζ (.int 100 uV)
 pe:Ξ
 uf:mg "FIELDS"=ζ (.ref pe)
 DV:τ K μ "FIELDS"=ζ (ζ (.ref pe))
 sC:rG K pe ko=Δ
section
variable {P:π}{w:χ}{K:ξ}{mg:Str->Option Γ}{base:υ}
theorem SE:cz ["thing"] ["thing"] (bE CV):=⟨rfl,rfl,rfl,by decide +kernel,rfl,by decide +kernel,by decide +kernel⟩
theorem J5(T:Tx K mg):bL P w K mg base bC 1 T.oF.a T.oF.fd ["thing"] (bU K 1 vY) :=
 cJ (k:=0) T.oF.d.fn SE rfl rfl λcdv A outer s H E hr=>by
  show bW _ _ A2;unfold A2;exact(aU (bZ (yZ (dM Fj T.zz boot_isinstance (az (ay 0) (az (Dt rfl T.vO boot_int) aD))) (yW (VE (dM Fj T.zz boot_isinstance (az (ay 0) (az (Dt rfl T.K1 boot_bool) aD))))))))
theorem SD:cz ["thing","least","most"] ["thing","least","most"] (bE CU):=⟨rfl,rfl,rfl,by decide +kernel,rfl,by decide +kernel,by decide +kernel⟩
theorem tF(T:Tx K mg):bL P w K mg base bC 2 T.jN.a T.jN.fd ["thing","least","most"] (bU K 3 l9) :=
 cJ (k:=1) T.jN.d.fn SD rfl rfl λcdv A outer s H E hr=>by
  show bW _ _ A1;unfold A1;exact(aU (bZ (yZ (aX T.oF.d (J5 T) (hr.mono (by decide)) (az (ay 0) aD)) (yW (VL Kh Kh (ay 1) (ay 0) (ay 2))))))
theorem SH:cz ["thing","many"] ["thing","many"] (bE CY):=⟨rfl,rfl,rfl,by decide +kernel,rfl,by decide +kernel,by decide +kernel⟩
theorem J6(T:Tx K mg):bL P w K mg base bC 3 T.oG.a T.oG.fd ["thing","many"] (bU K 2 qo) :=
 cJ (k:=2) T.oG.d.fn SH rfl rfl λcdv A outer s H E hr=>by
  show bW _ _ A4;unfold A4;exact(aU (bZ (aX T.jN.d (tF T) (hr.mono (by decide)) (az (ay 0) (az aN (az (aW fH (ay 1) aN) aD))))))
theorem W0(T:Tx K mg):rX P w K mg base 1 xR ["web"] 2 (bU K (2+1) (qy nL)):=by
 with_unfolding_all refine Lw (k:=0) (ps:=["one","other"]) (ns:=["web"]) (d:=nL) (uJ.of rfl rfl rfl (by decide +kernel)) (λq cl pm cdv ct us hl=>match us,hl with|[_,_],_=>rfl) λq f cd cl A outer s H hr=>?_
 show bw _ _ nL;unfold nL;exact(pX (Kf (nR hr)) (ay 1) (bS bT (ay 2) (ay 0)))
theorem SI:cz ["thing"] ["thing"] (bE CZ):=⟨rfl,rfl,rfl,by decide +kernel,rfl,by decide +kernel,by decide +kernel⟩
theorem W8(T:Tx K mg):bL P w K mg base bC 2 T.rA.a T.rA.fd ["thing"] (bU K 1 zF) :=
 cJ (k:=1) T.rA.d.fn SI rfl rfl λcdv A outer s H E hr=>by
  show bW _ _ A5;unfold A5;exact(aU (bZ (yZ (aX T.oF.d (J5 T) (hr.mono (by decide)) (az (ay 0) aD)) (yW (pX (Xo T.DV T.sC) (ay 0) (VI T.uf T.DV))))))
theorem Sv:cz ["thing"] ["thing"] (bE Cq):=⟨rfl,rfl,rfl,by decide +kernel,rfl,by decide +kernel,by decide +kernel⟩
theorem DC(T:Tx K mg):bL P w K mg base bC 3 T.mH.a T.mH.fd ["thing"] (bU K 1 j3) :=
 cJ (k:=2) T.mH.d.fn Sv rfl rfl λcdv A outer s H E hr=>by
  show bW _ _ AH;unfold AH;exact(aU (fj (nv (kH (aX T.rA.d (W8 T) (hr.mono (by decide)) (az (ay 0) aD)))) (aU ve) fE))
theorem IW:cz ["q","things","thing"] ["q","things"] (bE Co):=⟨rfl,rfl,rfl,by decide +kernel,rfl,by decide +kernel,by decide +kernel⟩
theorem JZ(T:Tx K mg):bL P w K mg base bC 4 T.om.a T.om.fd ["q","things"] (bU K 2 qh) :=
 cJ (k:=3) T.om.d.fn IW rfl rfl λcdv A outer s H E hr=>by
  show bW _ _ AF;unfold AF;refine aP (fX (aX T.mH.d (DC T) (hr.mono (by decide)) (az (ay 0) aD))) ?_
  exact(aU (dQ (nP (ay 1)) (bh (i:=2) (hN:=IW.nd)) (aU (fj (nv (kH (aX T.jN.d (tF T) (hr.mono (by decide)) (az (ay 2) (az aN (az (aW fH (ay 0) aN) aD)))))) (aU ve) fE))))
theorem sI:cz ["q","number","p","row","left","power"] ["q","number"] (bE Cn):=⟨rfl,rfl,rfl,by decide +kernel,rfl,by decide +kernel,by decide +kernel⟩
theorem vI(T:Tx K mg):bL P w K mg base bC 1 T.kc.a T.kc.fd ["q","number"] (bU K 2 jk) :=
 cJ (k:=0) T.kc.d.fn sI rfl rfl λcdv A outer s H E hr=>by
  show bW _ _ AE;unfold AE;refine aP (bg (i:=2) (yX T.uf T.sC (ay 0)) (hN:=sI.nd)) ?_;refine aP (bg (i:=3) (iC aD) (hN:=sI.nd)) ?_;refine aP (bg (i:=4) (ay 1) (hN:=sI.nd)) ?_;refine aP (dQ (dN (az (yX T.uf T.sC (ay 0)) aD) T.cR) (bh (i:=5) (hN:=sI.nd)) (aP (fX (jV (ay 3) (aW iE (ay 4) (ay 2)))) (aU (bg (i:=4) (aW tG (ay 4) (ay 2)) (hN:=sI.nd))))) ?_;exact(aU (bZ (ay 3)))
theorem vg:cz ["q","row","p","number","digit"] ["q","row"] (bE Cr):=⟨rfl,rfl,rfl,by decide +kernel,rfl,by decide +kernel,by decide +kernel⟩
theorem J0(T:Tx K mg):bL P w K mg base bC 1 T.ou.a T.ou.fd ["q","row"] (bU K 2 qk) :=
 cJ (k:=0) T.ou.d.fn vg rfl rfl λcdv A outer s H E hr=>by
  show bW _ _ AJ;unfold AJ;refine aP (bg (i:=2) (yX T.uf T.sC (ay 0)) (hN:=vg.nd)) ?_;refine aP (bg (i:=3) aN (hN:=vg.nd)) ?_;refine aP (dQ (LZ (az (ay 1) aD) T.DR) (bh (i:=4) (hN:=vg.nd)) (aU (bg (i:=3) (aW eK (aW gk (ay 3) (ay 2)) (aW iE (ay 4) (ay 2))) (hN:=vg.nd)))) ?_;exact(aU (bZ (ay 3)))
theorem Sm:cz ["q","one","other"] ["q","one","other"] (bE Cg):=⟨rfl,rfl,rfl,by decide +kernel,rfl,by decide +kernel,by decide +kernel⟩
theorem Wy(T:Tx K mg):bL P w K mg base bC 5 T.qH.a T.qH.fd ["q","one","other"] (bU K 3 vW) :=
 cJ (k:=4) T.qH.d.fn Sm rfl rfl λcdv A outer s H E hr=>by
  show bW _ _ Az;unfold Az;refine aP (fX (aX T.om.d (JZ T) (hr.mono (by decide)) (az (ay 0) (az (gE (az (ay 1) (az (ay 2) aD))) aD)))) ?_
  exact(aU (bZ (aX T.ou.d (J0 T) (hr.mono (by decide)) (az (ay 0) (az (dZ (N':=["x","y"]) (pick:=[η,η]) (cN.of rfl rfl) (wz (az (aX T.kc.d (vI T) (hr.mono (by decide)) (az (ay 0) (az (ay 1) aD))) (az (aX T.kc.d (vI T) (hr.mono (by decide)) (az (ay 0) (az (ay 2) aD))) aD)) T.tO) (λ_ _ _ _ _ _=>(j8 (n:=2) (fQ (bh (i:=0) (hN:=(by decide +kernel:ο (["x","y"]:List Str)))) (fQ (bh (i:=1) (hN:=(by decide +kernel:ο (["x","y"]:List Str)))) j7)))) (λ_ _ _ _ _ _=>dY) (λ_ _ _ _ _ _=>(aW fH (ay 0) (ay 1)))) aD)))))
theorem WZ(T:Tx K mg):rX P w K mg base 6 pD ["squares","q"] 2 (bU K (2+2) (qy nK)):=by
 with_unfolding_all refine Lw (k:=5) (ps:=["one","other"]) (ns:=["squares","q"]) (d:=nK) (uJ.of rfl rfl rfl (by decide +kernel)) (λq cl pm cdv ct us hl=>match us,hl with|[_,_],_=>rfl) λq f cd cl A outer s H hr=>?_
 show bw _ _ nK;unfold nK;exact(pX (vJ (nR hr)) (aX T.qH.d (Wy T) (hr.mono (by decide)) (az (ay 3) (az (ay 0) (az (ay 1) aD)))) (ay 2))
theorem WY(T:Tx K mg) {A:ω}(hr:er 6 A):∀t∈lams,∃k,rX P w K mg base k t.1 t.2.1 2 (bU K (2+t.2.1.length) t.2.2)/\er k A:=by
 intro t ht;unfold lams at ht;simp only[afT,af5,or_false]at ht
 rcases ht with rfl|rfl
 ·exact⟨_,W0 T,hr.mono (by decide)⟩
 ·exact⟨_,WZ T,hr.mono (by decide)⟩
theorem Ss:cz ["many","one","are_tied"] ["many","one","are_tied"] (bE Cm):=⟨rfl,rfl,rfl,by decide +kernel,rfl,by decide +kernel,by decide +kernel⟩
theorem WB(T:Tx K mg):bL P w K mg base bC 7 T.qK.a T.qK.fd ["many","one","are_tied"] (bU K 3 iY) :=
 cJ (k:=6) T.qK.d.fn Ss rfl rfl λcdv A outer s H E hr=>by
  show bW _ _ AD;unfold AD;exact(aU (bZ (iM jR T.iX agL (az (dZ (N':=["other","one","are_tied"]) (pick:=[η,ζ 1,ζ 2]) (cN.of rfl rfl) (dN (az (ay 0) aD) T.cR) (λ_ _ _ _ _ _=>(bh (i:=0) (hN:=(by decide +kernel:ο (["other","one","are_tied"]:List Str))))) (λ_ _ _ _ _ _=>(Dn (PW.pt (Dv (eU p8 (ay 0) (ay 1)) (Dw (kH (VM 2 (WY T (hr.mono (by decide))) (az (ay 1) (az (ay 0) aD))))))))) (λ_ _ _ _ _ _=>(ay 0))) aD))))
theorem Sk:cz ["many","are_tied"] ["many","are_tied"] (bE Cb):=⟨rfl,rfl,rfl,by decide +kernel,rfl,by decide +kernel,by decide +kernel⟩
theorem JX(T:Tx K mg):bL P w K mg base bC 8 T.oi.a T.oi.fd ["many","are_tied"] (bU K 2 jH) :=
 cJ (k:=7) T.oi.d.fn Sk rfl rfl λcdv A outer s H E hr=>by
  show bW _ _ Av;unfold Av;exact(aU (bZ (iM jR T.iX agL (az (dZ (N':=["one","many","are_tied"]) (pick:=[η,ζ 0,ζ 1]) (cN.of rfl rfl) (dN (az (ay 0) aD) T.cR) (λ_ _ _ _ _ _=>(bh (i:=0) (hN:=(by decide +kernel:ο (["one","many","are_tied"]:List Str))))) (λ_ _ _ _ _ _=>dY) (λ_ _ _ _ _ _=>(aX T.qK.d (WB T) (hr.mono (by decide)) (az (ay 1) (az (ay 0) (az (ay 2) aD)))))) aD))))
theorem yx:cz ["web","told","one","row"] ["web"] (bE Cf):=⟨rfl,rfl,rfl,by decide +kernel,rfl,by decide +kernel,by decide +kernel⟩
theorem JY(T:Tx K mg):bL P w K mg base bC 1 T.oj.a T.oj.fd ["web"] (bU K 1 lY) :=
 cJ (k:=0) T.oj.d.fn yx rfl rfl λcdv A outer s H E hr=>by
  show bW _ _ Ay;unfold Ay;refine aP (bg (i:=1) (iC aD) (hN:=yx.nd)) ?_;refine aP (dQ (L0 (az (ay 0) aD) T.DT) (j8 (n:=2) (fQ (bh (i:=2) (hN:=yx.nd)) (fQ (bh (i:=3) (hN:=yx.nd)) j7))) (aU (fX (yY (ay 1) (dZ (N':=["other","one"]) (pick:=[η,ζ 2]) (cN.of rfl rfl) (nP (ay 3)) (λ_ _ _ _ _ _=>(bh (i:=0) (hN:=(by decide +kernel:ο (["other","one"]:List Str))))) (λ_ _ _ _ _ _=>(Dn (eU Kg (ay 1) (ay 0)))) (λ_ _ _ _ _ _=>(gE (az (ay 1) (az (ay 0) aD))))))))) ?_
  exact(aU (bZ (ay 1)))
theorem Sw:cz ["web"] ["web"] (bE yG):=⟨rfl,rfl,rfl,by decide +kernel,rfl,by decide +kernel,by decide +kernel⟩
theorem WD(T:Tx K mg):bL P w K mg base bC 9 T.oq.a T.oq.fd ["web"] (bU K 1 qj) :=
 MU (k:=8) T.oq.d.fn T.oq.n Sw rfl rfl λcdv A outer s H E hcd hr=>by
  show bW _ _ AI;unfold AI;exact(aU (bZ (JN (kk:=0) T.oi.d (JX T) (hr.mono (by decide)) (dM eL T.ee agb (az (ay 0) aD)) (gM.of (by kernel_rfl)) rfl (λ_=>rfl) (y:="other_web") (by decide +kernel) T.pJ T.pL (hcd _ _ T.pJ) rfl T.sj)))
theorem SK:cz ["web","one","other"] ["web","one","other"] (bE C4):=⟨rfl,rfl,rfl,by decide +kernel,rfl,by decide +kernel,by decide +kernel⟩
theorem J7(T:Tx K mg):bL P w K mg base bC 1 T.oJ.a T.oJ.fd ["web","one","other"] (bU K 3 nG) :=
 cJ (k:=0) T.oJ.d.fn SK rfl rfl λcdv A outer s H E hr=>by
  show bW _ _ A9;unfold A9;exact(aU (bZ (VH (az (bS bT (ay 0) (ay 1)) aD) (az (bS bT (ay 0) (ay 2)) aD) T.ee T.vN)))
theorem B9:cz ["web","place","row"] ["web"] (bE C0):=⟨rfl,rfl,rfl,by decide +kernel,rfl,by decide +kernel,by decide +kernel⟩
theorem W9(T:Tx K mg):bL P w K mg base bC 1 T.rB.a T.rB.fd ["web"] (bU K 1 t7) :=
 cJ (k:=0) T.rB.d.fn B9 rfl rfl λcdv A outer s H E hr=>by
  show bW _ _ A6;unfold A6;refine aP (dQ (L0 (az (ay 0) aD) T.DT) (j8 (n:=2) (fQ (bh (i:=1) (hN:=B9.nd)) (fQ (bh (i:=2) (hN:=B9.nd)) j7))) (aU (fj (eU p8 (dM eL T.ee agb (az (ay 2) aD)) (dM eL T.ee agb (az (bS bT (ay 0) aN) aD))) (aU (bZ (ay 1))) fE))) ?_;exact(aU (bZ tu))
theorem So:cz ["web","pairs"] ["web","pairs"] (bE Ck):=⟨rfl,rfl,rfl,by decide +kernel,rfl,by decide +kernel,by decide +kernel⟩
theorem DB(T:Tx K mg):bL P w K mg base bC 2 T.mG.a T.mG.fd ["web","pairs"] (bU K 2 jZ) :=
 cJ (k:=1) T.mG.d.fn So rfl rfl λcdv A outer s H E hr=>by
  show bW _ _ AB;unfold AB;exact(aU (bZ (JL (VD (ay 1)) (aX T.oJ.d (J7 T) (hr.mono (by decide)) (az (ay 0) (az (bS bT (bS bT (ay 1) aN) aN) (az (bS bT (bS bT (ay 1) aN) aN) aD)))) tu)))
theorem Ca:cz ["web","pairs","shared","pair"] ["web","pairs"] (bE C1):=⟨rfl,rfl,rfl,by decide +kernel,rfl,by decide +kernel,by decide +kernel⟩
theorem Xa(T:Tx K mg):bL P w K mg base bC 3 T.rC.a T.rC.fd ["web","pairs"] (bU K 2 qp) :=
 cJ (k:=2) T.rC.d.fn Ca rfl rfl λcdv A outer s H E hr=>by
  show bW _ _ A7;unfold A7;refine aP (bg (i:=2) (aX T.mG.d (DB T) (hr.mono (by decide)) (az (ay 0) (az (ay 1) aD))) (hN:=Ca.nd)) ?_
  refine aP (dQ (j5 (ay 1)) (bh (i:=3) (hN:=Ca.nd)) (aU (fj (eU p8 (aX T.oJ.d (J7 T) (hr.mono (by decide)) (az (ay 0) (az (bS bT (ay 3) aN) (az (bS bT (ay 3) aN) aD)))) (ay 2)) (aU (bZ (ay 3))) fE))) ?_
  exact(aU (bZ tu))
theorem pT:cz ["web","place","near","far","word","pairs","pair"] ["web"] (bE C2):=⟨rfl,rfl,rfl,by decide +kernel,rfl,by decide +kernel,by decide +kernel⟩
theorem Xd(T:Tx K mg):bL P w K mg base bC 10 T.rD.a T.rD.fd ["web"] (bU K 1 qq) :=
 cJ (k:=9) T.rD.d.fn pT rfl rfl λcdv A outer s H E hr=>by
  show bW _ _ xC;unfold xC;refine aP (bg (i:=1) (aX T.rB.d (W9 T) (hr.mono (by decide)) (az (ay 0) aD)) (hN:=pT.nd)) ?_
  refine aP (fj (eU Kl (ay 1) tu) (aU (bZ (gE (az vD (az (ay 1) aD))))) fE) ?_;refine aP (bg (i:=2) (aX T.oj.d (JY T) (hr.mono (by decide)) (az (ay 0) aD)) (hN:=pT.nd)) ?_
  refine aP (bg (i:=3) (aX T.oj.d (JY T) (hr.mono (by decide)) (az (aX T.oq.d (WD T) (hr.mono (by decide)) (az (ay 0) aD)) aD)) (hN:=pT.nd)) ?_
  refine aP (dQ (nP (gE (az (gE (az vD (az (ay 2) aD))) (az (gE (az vD (az (ay 3) aD))) aD)))) (j8 (n:=2) (fQ (bh (i:=4) (hN:=pT.nd)) (fQ (bh (i:=5) (hN:=pT.nd)) j7))) (aP (bg (i:=6) (aX T.rC.d (Xa T) (hr.mono (by decide)) (az (ay 0) (az (ay 5) aD))) (hN:=pT.nd)) (aU (fj (eU Kl (ay 6) tu) (aU (bZ (gE (az (ay 4) (az (bS bT (ay 6) aN) (az (bS bT (ay 6) aN) aD)))))) fE)))) ?_
  exact(aU (bZ (gE (az vD (az (gE (az (dM eL T.ee agb (az (ay 0) aD)) (az (dM eL T.ee agb (az (bS bT (ay 0) aN) aD)) (az (aX T.mG.d (DB T) (hr.mono (by decide)) (az (ay 0) (az (ay 2) aD))) (az (aX T.mG.d (DB T) (hr.mono (by decide)) (az (ay 0) (az (ay 3) aD))) aD))))) aD)))))
theorem SG:cz ["thing"] ["thing"] (bE CW):=⟨rfl,rfl,rfl,by decide +kernel,rfl,by decide +kernel,by decide +kernel⟩
theorem W7(T:Tx K mg):bL P w K mg base bC 3 T.rq.a T.rq.fd ["thing"] (bU K 1 zE) :=
 cJ (k:=2) T.rq.d.fn SG rfl rfl λcdv A outer s H E hr=>by
  show bW _ _ A3;unfold A3;refine aP (fj (PW.pt (yU (nv (kH (dM Fj T.zz boot_isinstance (az (ay 0) (az (Dt rfl T.iX agL) aD))))) (yV (eU p8 (dM eL T.ee agb (az (ay 0) aD)) aN)))) (aU (bZ vE)) fE) ?_;refine aP (fj (PW.pt (yU (nv (kH (aX T.jN.d (tF T) (hr.mono (by decide)) (az (bS bT (ay 0) aN) (az (JM rfl T.MJ) (az (JM rfl T.MI) aD)))))) (yV (nv (kH (aX T.jN.d (tF T) (hr.mono (by decide)) (az (bS bT (ay 0) aN) (az aN (az (aW fH (bS bT (ay 0) aN) aN) aD))))))))) (aU (bZ vE)) fE) ?_
  exact(aU (bZ (yZ (aX T.jN.d (tF T) (hr.mono (by decide)) (az (bS bT (ay 0) aN) (az aN (az (aW fH (bS bT (ay 0) aN) aN) aD)))) (yW (aX T.jN.d (tF T) (hr.mono (by decide)) (az (bS bT (ay 0) aN) (az aN (az (bS bT (ay 0) aN) aD))))))))
theorem Su:cz ["thing"] ["thing"] (bE Cp):=⟨rfl,rfl,rfl,by decide +kernel,rfl,by decide +kernel,by decide +kernel⟩
theorem WC(T:Tx K mg):bL P w K mg base bC 4 T.qL.a T.qL.fd ["thing"] (bU K 1 qi) :=
 cJ (k:=3) T.qL.d.fn Su rfl rfl λcdv A outer s H E hr=>by
  show bW _ _ AG;unfold AG;exact(aU (fj (nv (kH (aX T.rq.d (W7 T) (hr.mono (by decide)) (az (ay 0) aD)))) (aU ve) fE))
theorem SJ:cz ["web","counts"] ["web","counts"] (bE C3):=⟨rfl,rfl,rfl,by decide +kernel,rfl,by decide +kernel,by decide +kernel⟩
theorem Xe(T:Tx K mg):bL P w K mg base bC 1 T.rE.a T.rE.fd ["web","counts"] (bU K 2 qt) :=
 cJ (k:=0) T.rE.d.fn SJ rfl rfl λcdv A outer s H E hr=>by
  show bW _ _ A8;unfold A8;exact(aU (bZ (dZ (N':=["row","counts"]) (pick:=[η,ζ 1]) (cN.of rfl rfl) (nP (ay 0)) (λ_ _ _ _ _ _=>(bh (i:=0) (hN:=(by decide +kernel:ο (["row","counts"]:List Str))))) (λ_ _ _ _ _ _=>dY) (λ_ _ _ _ _ _=>(dM NT T.DQ boot_sum (az (dZ (N':=["near","counts"]) (pick:=[η,ζ 1]) (cN.of rfl rfl) (nP (ay 0)) (λ_ _ _ _ _ _=>(bh (i:=0) (hN:=(by decide +kernel:ο (["near","counts"]:List Str))))) (λ_ _ _ _ _ _=>dY) (λ_ _ _ _ _ _=>(bS bT (ay 1) (ay 0)))) aD))))))
theorem yw:cz ["web","one","other","many","counts","step"] ["web","one","other","many"] (bE Cd):=⟨rfl,rfl,rfl,by decide +kernel,rfl,by decide +kernel,by decide +kernel⟩
theorem Ww(T:Tx K mg):bL P w K mg base bC 4 T.qF.a T.qF.fd ["web","one","other","many"] (bU K 4 lX) :=
 cJ (k:=3) T.qF.d.fn yw rfl rfl λcdv A outer s H E hr=>by
  show bW _ _ Aw;unfold Aw;refine aP (fj (PW.pt (yU (nv (kH (aX T.oG.d (J6 T) (hr.mono (by decide)) (az (ay 1) (az (dM eL T.ee agb (az (ay 0) aD)) aD))))) (yV (nv (kH (aX T.oG.d (J6 T) (hr.mono (by decide)) (az (ay 2) (az (dM eL T.ee agb (az (ay 0) aD)) aD)))))))) (aU ve) fE) ?_
  refine aP (B6 (i:=4) (hN:=yw.nd) (N':=["place","one"]) (pick:=[η,ζ 1]) (cN.of rfl rfl) (dN (az (dM eL T.ee agb (az (ay 0) aD)) aD) T.cR) (λ_ _ _ _ _ _=>(bh (i:=0) (hN:=(by decide +kernel:ο (["place","one"]:List Str))))) (λ_ _ _ _ _ _=>dY) (λ_ _ _ _ _ _=>(JL (eU jG (ay 0) (ay 1)) aN aN))) ?_
  refine aP (dQ (dN (az (ay 3) aD) T.cR) (bh (i:=5) (hN:=yw.nd)) (aU (bg (i:=4) (aX T.rE.d (Xe T) (hr.mono (by decide)) (az (ay 0) (az (ay 4) aD))) (hN:=yw.nd)))) ?_
  exact(aU (bZ (bS bT (ay 4) (ay 2))))
theorem yy:cz ["table","k","a","b"] ["table"] (bE Ci):=⟨rfl,rfl,rfl,by decide +kernel,rfl,by decide +kernel,by decide +kernel⟩
theorem Wz(T:Tx K mg):bL P w K mg base bC 1 T.qI.a T.qI.fd ["table"] (bU K 1 qg) :=
 cJ (k:=0) T.qI.d.fn yy rfl rfl λcdv A outer s H E hr=>by
  show bW _ _ AA;unfold AA;refine aP (bg (i:=1) (bS bT (ay 0) aN) (hN:=yy.nd)) ?_;refine aP (bg (i:=2) (bS bT (ay 0) aN) (hN:=yy.nd)) ?_;refine aP (bg (i:=3) (bS bT (ay 0) aN) (hN:=yy.nd)) ?_;exact(aU (bZ (fk (az (gE (az aN (az (ay 1) (az aN aD)))) (az (gE (az aN (az (ay 2) (az (aW fH (aW fH (ay 1) aN) (ay 2)) aD)))) (az (gE (az aN (az (ay 3) (az (aW fH (ay 1) (ay 3)) aD)))) aD))))))
theorem Sx:cz ["row","ways"] ["row","ways"] (bE Ct):=⟨rfl,rfl,rfl,by decide +kernel,rfl,by decide +kernel,by decide +kernel⟩
theorem WG(T:Tx K mg):bL P w K mg base bC 1 T.qN.a T.qN.fd ["row","ways"] (bU K 2 tX) :=
 cJ (k:=0) T.qN.d.fn Sx rfl rfl λcdv A outer s H E hr=>by
  show bW _ _ AL;unfold AL;exact(aU (bZ (dM NT T.DQ boot_sum (az (dZ (N':=["one","other"]) (pick:=[η,η]) (cN.of rfl rfl) (wz (az (ay 0) (az (ay 1) aD)) T.tO) (λ_ _ _ _ _ _=>(j8 (n:=2) (fQ (bh (i:=0) (hN:=(by decide +kernel:ο (["one","other"]:List Str)))) (fQ (bh (i:=1) (hN:=(by decide +kernel:ο (["one","other"]:List Str)))) j7)))) (λ_ _ _ _ _ _=>dY) (λ_ _ _ _ _ _=>(aW gk (ay 0) (ay 1)))) aD))))
theorem vf:cz ["table","many","rows","ways","step"] ["table","many"] (bE Cc):=⟨rfl,rfl,rfl,by decide +kernel,rfl,by decide +kernel,by decide +kernel⟩
theorem Wv(T:Tx K mg):bL P w K mg base bC 5 T.qE.a T.qE.fd ["table","many"] (bU K 2 qe) :=
 cJ (k:=4) T.qE.d.fn vf rfl rfl λcdv A outer s H E hr=>by
  show bW _ _ xj;unfold xj;refine aP (fX (aX T.qL.d (WC T) (hr.mono (by decide)) (az (ay 0) aD))) ?_
  refine aP (bg (i:=2) (aX T.qI.d (Wz T) (hr.mono (by decide)) (az (ay 0) aD)) (hN:=vf.nd)) ?_
  refine aP (bg (i:=3) (gE (az aN (az aN (az aN aD)))) (hN:=vf.nd)) ?_;refine aP (dQ (dN (az (ay 1) aD) T.cR) (bh (i:=4) (hN:=vf.nd)) (aU (bg (i:=3) (iM jR T.iX agL (az (dZ (N':=["row","ways"]) (pick:=[η,ζ 3]) (cN.of rfl rfl) (j5 (ay 2)) (λ_ _ _ _ _ _=>(bh (i:=0) (hN:=(by decide +kernel:ο (["row","ways"]:List Str))))) (λ_ _ _ _ _ _=>dY) (λ_ _ _ _ _ _=>(aX T.qN.d (WG T) (hr.mono (by decide)) (az (ay 0) (az (ay 1) aD))))) aD)) (hN:=vf.nd)))) ?_
  exact(aU (bZ (ay 3)))
theorem IV:cz ["q","row","low"] ["q","row"] (bE Ce):=⟨rfl,rfl,rfl,by decide +kernel,rfl,by decide +kernel,by decide +kernel⟩
theorem Wx(T:Tx K mg):bL P w K mg base bC 2 T.qG.a T.qG.fd ["q","row"] (bU K 2 tT) :=
 cJ (k:=1) T.qG.d.fn IV rfl rfl λcdv A outer s H E hr=>by
  show bW _ _ Ax;unfold Ax;refine aP (bg (i:=2) (aX T.kc.d (vI T) (hr.mono (by decide)) (az (ay 0) (az (yX T.uf T.sC (ay 0)) aD))) (hN:=IV.nd)) ?_
  exact(aU (bZ (dZ (N':=["below","digit","row"]) (pick:=[η,η,ζ 1]) (cN.of rfl rfl) (wz (az (aW tH (fk (az aN aD)) (ay 1)) (az (ay 2) aD)) T.tO) (λ_ _ _ _ _ _=>(j8 (n:=2) (fQ (bh (i:=0) (hN:=(by decide +kernel:ο (["below","digit","row"]:List Str)))) (fQ (bh (i:=1) (hN:=(by decide +kernel:ο (["below","digit","row"]:List Str)))) j7)))) (λ_ _ _ _ _ _=>dY) (λ_ _ _ _ _ _=>(aW fH (ay 0) (aW gk (bS bT (ay 2) (VC PN aN)) (ay 1)))))))
theorem vh:cz ["q","one","other","row","product","digit"] ["q","one","other"] (bE Cs):=⟨rfl,rfl,rfl,by decide +kernel,rfl,by decide +kernel,by decide +kernel⟩
theorem WE(T:Tx K mg):bL P w K mg base bC 5 T.qM.a T.qM.fd ["q","one","other"] (bU K 3 tV) :=
 cJ (k:=4) T.qM.d.fn vh rfl rfl λcdv A outer s H E hr=>by
  show bW _ _ AK;unfold AK;refine aP (fX (aX T.om.d (JZ T) (hr.mono (by decide)) (az (ay 0) (az (gE (az (ay 1) (az (ay 2) aD))) aD)))) ?_
  refine aP (bg (i:=3) (aX T.kc.d (vI T) (hr.mono (by decide)) (az (ay 0) (az (ay 2) aD))) (hN:=vh.nd)) ?_
  refine aP (bg (i:=4) (aW Xm (fk (az aN aD)) (dM eL T.ee agb (az (ay 3) aD))) (hN:=vh.nd)) ?_;refine aP (dQ (LZ (az (aX T.kc.d (vI T) (hr.mono (by decide)) (az (ay 0) (az (ay 1) aD))) aD) T.DR) (bh (i:=5) (hN:=vh.nd)) (aU (B6 (i:=4) (hN:=vh.nd) (N':=["x","y","digit"]) (pick:=[η,η,ζ 5]) (cN.of rfl rfl) (wz (az (aX T.qG.d (Wx T) (hr.mono (by decide)) (az (ay 0) (az (ay 4) aD))) (az (ay 3) aD)) T.tO) (λ_ _ _ _ _ _=>(j8 (n:=2) (fQ (bh (i:=0) (hN:=(by decide +kernel:ο (["x","y","digit"]:List Str)))) (fQ (bh (i:=1) (hN:=(by decide +kernel:ο (["x","y","digit"]:List Str)))) j7)))) (λ_ _ _ _ _ _=>dY) (λ_ _ _ _ _ _=>(aW eK (ay 0) (aW gk (ay 2) (ay 1))))))) ?_
  exact(aU (bZ (aX T.ou.d (J0 T) (hr.mono (by decide)) (az (ay 0) (az (ay 4) aD)))))
theorem Sn:cz ["q"] ["q"] (bE Cj):=⟨rfl,rfl,rfl,by decide +kernel,rfl,by decide +kernel,by decide +kernel⟩
theorem WA(T:Tx K mg):bL P w K mg base bC 6 T.qJ.a T.qJ.fd ["q"] (bU K 1 tU) :=
 cJ (k:=5) T.qJ.d.fn Sn rfl rfl λcdv A outer s H E hr=>by
  show bW _ _ FD;unfold FD;refine aP (fX (aX T.mH.d (DC T) (hr.mono (by decide)) (az (ay 0) aD))) ?_
  exact(aU (bZ (Du (az (dZ (N':=["thing","q"]) (pick:=[η,ζ 0]) (cN.of rfl rfl) (uc (az aN (az (ay 0) aD)) T.cR) (λ_ _ _ _ _ _=>(bh (i:=0) (hN:=(by decide +kernel:ο (["thing","q"]:List Str))))) (λ_ _ _ _ _ _=>dY) (λ_ _ _ _ _ _=>(aX T.qM.d (WE T) (hr.mono (by decide)) (az (ay 1) (az (ay 0) (az (ay 0) aD)))))) aD) T.zy T.vN)))
theorem I0:cz ["q","squares"] ["q"] (bE yH):=⟨rfl,rfl,rfl,by decide +kernel,rfl,by decide +kernel,by decide +kernel⟩
theorem Xb(T:Tx K mg):bL P w K mg base bC 9 T.oH.a T.oH.fd ["q"] (bU K 1 kO) :=
 MU (k:=8) T.oH.d.fn T.oH.n I0 rfl rfl λcdv A outer s H E hcd hr=>by
  show bW _ _ xB;unfold xB;refine aP (fX (aX T.mH.d (DC T) (hr.mono (by decide)) (az (ay 0) aD))) ?_
  refine aP (fj (eU p8 (aW iE (ay 0) aN) aN) (aU ve) fE) ?_;refine aP (bg (i:=1) (aX T.qJ.d (WA T) (hr.mono (by decide)) (az (ay 0) aD)) (hN:=I0.nd)) ?_
  exact(aU (bZ (JN (kk:=1) T.oi.d (JX T) (hr.mono (by decide)) (ay 0) (gM.of (by kernel_rfl)) rfl (λ_=>rfl) (y:="field_web") (by decide +kernel) T.pK T.pL (hcd _ _ T.pK) rfl T.su)))
theorem SA:cz ["script","k"] ["script","k"] (bE CS):=⟨rfl,rfl,rfl,by decide +kernel,rfl,by decide +kernel,by decide +kernel⟩
theorem WV(T:Tx K mg):bL P w K mg base bC 1 T.rj.a T.rj.fd ["script","k"] (bU K 2 nF) :=
 cJ (k:=0) T.rj.d.fn SA rfl rfl λcdv A outer s H E hr=>by
  show bW _ _ xx;unfold xx;refine aP (fj (eU Kg (ay 1) (dM eL T.ee agb (az (ay 0) aD))) (aU (bZ (bS bT (ay 0) (ay 1)))) fE) ?_;exact(aU (bZ aN))
theorem sJ:cz ["cell","number","j","more"] ["cell"] (bE CH):=⟨rfl,rfl,rfl,by decide +kernel,rfl,by decide +kernel,by decide +kernel⟩
theorem WO(T:Tx K mg):bL P w K mg base bC 1 T.qU.a T.qU.fd ["cell"] (bU K 1 nC) :=
 cJ (k:=0) T.qU.d.fn sJ rfl rfl λcdv A outer s H E hr=>by
  show bW _ _ xq;unfold xq;refine aP (fj (eU Xp (ay 0) (aW Ke aN aN)) (aU (bZ (iC (az (aW fH (ay 0) (aW Ke aN aN)) aD)))) fE) ?_;refine aP (bg (i:=1) aN (hN:=sJ.nd)) ?_;refine aP (dQ (dN (az aN aD) T.cR) (bh (i:=2) (hN:=sJ.nd)) (aP (bg (i:=3) (aW iE (aW gk (aW eK (aW eK (aW iE (ay 0) aN) (aW gk aN (ay 2))) aN) aN) aN) (hN:=sJ.nd)) (aP (bg (i:=3) (aW iE (aW eK (aW eK (aW gk (ay 3) (ay 3)) (aW gk aN (ay 2))) aN) aN) (hN:=sJ.nd)) (aU (bg (i:=1) (aW eK (aW gk (ay 1) aN) (ay 3)) (hN:=sJ.nd)))))) ?_;exact(aU (bZ (iC (az (ay 1) aD))))
theorem IX:cz ["pot","far","found"] ["pot","far"] (bE Cv):=⟨rfl,rfl,rfl,by decide +kernel,rfl,by decide +kernel,by decide +kernel⟩
theorem iN(T:Tx K mg):bL P w K mg base bC 1 T.f6.a T.f6.fd ["pot","far"] (bU K 2 bJ) :=
 cJ (k:=0) T.f6.d.fn IX rfl rfl λcdv A outer s H E hr=>by
  show bW _ _ xm;unfold xm;refine aP (bg (i:=2) (aW iE (bS bT (ay 0) aN) (ay 1)) (hN:=IX.nd)) ?_;refine aP (sH (aW tG (bS bT (ay 0) aN) (ay 1)) (z7 (ay 0) aN)) ?_;exact(aU (bZ (ay 2)))
theorem yz:cz ["many","pairs","rows","one","other"] ["many","pairs"] (bE Cu):=⟨rfl,rfl,rfl,by decide +kernel,rfl,by decide +kernel,by decide +kernel⟩
theorem J1(T:Tx K mg):bL P w K mg base bC 1 T.oz.a T.oz.fd ["many","pairs"] (bU K 2 kL) :=
 cJ (k:=0) T.oz.d.fn yz rfl rfl λcdv A outer s H E hr=>by
  show bW _ _ AM;unfold AM;refine aP (B6 (i:=2) (hN:=yz.nd) (N':=["place"]) (pick:=[η]) (cN.of rfl rfl) (dN (az (ay 0) aD) T.cR) (λ_ _ _ _ _ _=>(bh (i:=0) (hN:=(by decide +kernel:ο (["place"]:List Str))))) (λ_ _ _ _ _ _=>dY) (λ_ _ _ _ _ _=>(iC aD))) ?_
  refine aP (dQ (j5 (ay 1)) (j8 (n:=2) (fQ (bh (i:=3) (hN:=yz.nd)) (fQ (bh (i:=4) (hN:=yz.nd)) j7))) (aP (fX (jV (bS bT (ay 2) (ay 3)) (ay 4))) (aU (fX (jV (bS bT (ay 2) (ay 4)) (ay 3)))))) ?_;exact(aU (bZ (iM jR T.iX agL (az (dZ (N':=["row"]) (pick:=[η]) (cN.of rfl rfl) (j5 (ay 2)) (λ_ _ _ _ _ _=>(bh (i:=0) (hN:=(by decide +kernel:ο (["row"]:List Str))))) (λ_ _ _ _ _ _=>dY) (λ_ _ _ _ _ _=>(iM jR T.iX agL (az (Du (az (ay 0) aD) T.zy T.vN) aD)))) aD))))
theorem sL:cz ["m","places","one","pairs","other"] ["m"] (bE CI):=⟨rfl,rfl,rfl,by decide +kernel,rfl,by decide +kernel,by decide +kernel⟩
theorem WQ(T:Tx K mg):bL P w K mg base bC 2 T.qV.a T.qV.fd ["m"] (bU K 1 l7) :=
 cJ (k:=1) T.qV.d.fn sL rfl rfl λcdv A outer s H E hr=>by
  show bW _ _ AV;unfold AV;refine aP (bg (i:=1) (iC aD) (hN:=sL.nd)) ?_;refine aP (dQ (dN (az (ay 0) aD) T.cR) (bh (i:=2) (hN:=sL.nd)) (aU (fX (yY (ay 1) (dZ (N':=["other","one"]) (pick:=[η,ζ 2]) (cN.of rfl rfl) (uc (az (aW eK (ay 2) aN) (az (ay 0) aD)) T.cR) (λ_ _ _ _ _ _=>(bh (i:=0) (hN:=(by decide +kernel:ο (["other","one"]:List Str))))) (λ_ _ _ _ _ _=>dY) (λ_ _ _ _ _ _=>(gE (az (ay 1) (az (ay 0) aD))))))))) ?_
  refine aP (bg (i:=3) (iC aD) (hN:=sL.nd)) ?_;refine aP (dQ (dN (az (dM eL T.ee agb (az (ay 1) aD)) aD) T.cR) (bh (i:=2) (hN:=sL.nd)) (aU (dQ (uc (az (aW eK (ay 2) aN) (az (dM eL T.ee agb (az (ay 1) aD)) aD)) T.cR) (bh (i:=4) (hN:=sL.nd)) (aU (fj (PW.pt (yU (eU (vJ (nR hr)) (bS bT (bS bT (ay 1) (ay 2)) aN) (bS bT (ay 1) (ay 4))) (yV (eU (vJ (nR hr)) (bS bT (bS bT (ay 1) (ay 2)) aN) (bS bT (ay 1) (ay 4)))))) (aU (fX (jV (ay 3) (gE (az (ay 2) (az (ay 4) aD)))))) fE))))) ?_;exact(aU (bZ (aX T.oz.d (J1 T) (hr.mono (by decide)) (az (dM eL T.ee agb (az (ay 1) aD)) (az (ay 3) aD)))))
theorem Sz:cz ["q"] ["q"] (bE CG):=⟨rfl,rfl,rfl,by decide +kernel,rfl,by decide +kernel,by decide +kernel⟩
theorem zg(T:Tx K mg):bL P w K mg base bC 1 T.kY.a T.kY.fd ["q"] (bU K 1 gY) :=
 cJ (k:=0) T.kY.d.fn Sz rfl rfl λcdv A outer s H E hr=>by
  show bW _ _ AU;unfold AU;refine aU ?_
  with_reducible refine bZ ?_
  with_reducible refine bS bT ?_ ?_ ?_
  ·with_reducible refine dZ (N':=["p","q"]) (pick:=[η,ζ 0]) ?_ ?_ ?_ ?_ ?_ ?_ ?_
   ·exact cN.of rfl rfl
   ·with_reducible refine j5 ?_
    with_reducible refine fk ?_
    with_reducible refine ny ?_
    kernel_rfl
   ·exact λ_ _ _ _ _ _=>(bh (i:=0) (hN:=(by decide +kernel:ο (["p","q"]:List Str))))
   ·exact λ_ _ _ _ _ _=>(Dn (eU jG (aW iE (ay 1) (ay 0)) aN))
   ·exact λ_ _ _ _ _ _=>(ay 0)
   ·rfl
   ·intro _;rfl
  ·exact aN
  ·exact λ_ _=>rfl
theorem yF:cz ["q","found"] ["q"] (bE CP):=⟨rfl,rfl,rfl,by decide +kernel,rfl,by decide +kernel,by decide +kernel⟩
theorem J4(T:Tx K mg):bL P w K mg base bC 2 T.oE.a T.oE.fd ["q"] (bU K 1 kM) :=
 cJ (k:=1) T.oE.d.fn yF rfl rfl λcdv A outer s H E hr=>by
  show bW _ _ AZ;unfold AZ;refine aP (bg (i:=1) aN (hN:=yF.nd)) ?_;refine aP (IU (n:=10) (eU Km (ay 0) aN) (aP (bg (i:=0) (aW tG (ay 0) (aX T.kY.d (zg T) (hr.mono (by decide)) (az (ay 0) aD))) (hN:=yF.nd)) (aU (bg (i:=1) (aW eK (ay 1) aN) (hN:=yF.nd))))) ?_
  exact(aU (bZ (ay 1)))
theorem yD:cz ["number","p","many","found","k"] ["number","p","many"] (bE CC):=⟨rfl,rfl,rfl,by decide +kernel,rfl,by decide +kernel,by decide +kernel⟩
theorem tE(T:Tx K mg):bL P w K mg base bC 1 T.jM.a T.jM.fd ["number","p","many"] (bU K 3 gm) :=
 cJ (k:=0) T.jM.d.fn yD rfl rfl λcdv A outer s H E hr=>by
  show bW _ _ AR;unfold AR;refine aP (bg (i:=3) (iC aD) (hN:=yD.nd)) ?_;refine aP (dQ (dN (az (ay 2) aD) T.cR) (bh (i:=4) (hN:=yD.nd)) (aP (fX (jV (ay 3) (aW iE (ay 0) (ay 1)))) (aU (bg (i:=0) (aW tG (ay 0) (ay 1)) (hN:=yD.nd))))) ?_;exact(aU (bZ (ay 3)))
theorem yE:cz ["row","p","found","k"] ["row","p"] (bE CK):=⟨rfl,rfl,rfl,by decide +kernel,rfl,by decide +kernel,by decide +kernel⟩
theorem J2(T:Tx K mg):bL P w K mg base bC 1 T.oA.a T.oA.fd ["row","p"] (bU K 2 ql) :=
 cJ (k:=0) T.oA.d.fn yE rfl rfl λcdv A outer s H E hr=>by
  show bW _ _ AX;unfold AX;refine aP (bg (i:=2) aN (hN:=yE.nd)) ?_;refine aP (dQ (dN (az (dM eL T.ee agb (az (ay 0) aD)) aD) T.cR) (bh (i:=3) (hN:=yE.nd)) (aU (bg (i:=2) (aW eK (aW gk (ay 2) (ay 1)) (bS bT (ay 0) (aW fH (aW fH (dM eL T.ee agb (az (ay 0) aD)) aN) (ay 3)))) (hN:=yE.nd)))) ?_;exact(aU (bZ (ay 2)))
theorem m8:cz ["one","other","p","found","k","j"] ["one","other","p"] (bE Cw):=⟨rfl,rfl,rfl,by decide +kernel,rfl,by decide +kernel,by decide +kernel⟩
theorem WH(T:Tx K mg):bL P w K mg base bC 1 T.kg.a T.kg.fd ["one","other","p"] (bU K 3 lZ) :=
 cJ (k:=0) T.kg.d.fn m8 rfl rfl λcdv A outer s H E hr=>by
  show bW _ _ rR;unfold rR;refine aP (bg (i:=3) (aW Kd (fk (az aN aD)) (aW fH (aW eK (dM eL T.ee agb (az (ay 0) aD)) (dM eL T.ee agb (az (ay 1) aD))) aN)) (hN:=m8.nd)) ?_;refine aP (dQ (dN (az (dM eL T.ee agb (az (ay 0) aD)) aD) T.cR) (bh (i:=4) (hN:=m8.nd)) (aU (dQ (dN (az (dM eL T.ee agb (az (ay 1) aD)) aD) T.cR) (bh (i:=5) (hN:=m8.nd)) (aU (sH (aW iE (aW eK (bS bT (ay 3) (aW eK (ay 4) (ay 5))) (aW gk (bS bT (ay 0) (ay 4)) (bS bT (ay 1) (ay 5)))) (ay 2)) (z7 (ay 3) (aW eK (ay 4) (ay 5)))))))) ?_;exact(aU (bZ (ay 3)))
theorem Wu(T:Tx K mg):bL P w K mg base bC 1 T.kg.a T.kg.fd ["one","other","p"] (bU K 3 tQ) :=
 cJ (k:=0) T.kg.d.fn m8 rfl rfl λcdv A outer s H E hr=>by
  show bW _ _ rR;unfold rR;refine aP (bg (i:=3) (aW Kd (fk (az aN aD)) (aW fH (aW eK (dM eL T.ee agb (az (ay 0) aD)) (dM eL T.ee agb (az (ay 1) aD))) aN)) (hN:=m8.nd)) ?_;refine aP (dQ (dN (az (dM eL T.ee agb (az (ay 0) aD)) aD) T.cR) (bh (i:=4) (hN:=m8.nd)) (aU (dQ (dN (az (dM eL T.ee agb (az (ay 1) aD)) aD) T.cR) (bh (i:=5) (hN:=m8.nd)) (aU (sH (aW iE (aW eK (bS bT (ay 3) (aW eK (ay 4) (ay 5))) (aW gk (bS bT (ay 0) (ay 4)) (bS bT (ay 1) (ay 5)))) (ay 2)) (z7 (ay 3) (aW eK (ay 4) (ay 5)))))))) ?_;exact(aU (bZ (ay 3)))
theorem sM:cz ["many","p","found","k","longer","row"] ["many","p"] (bE CM):=⟨rfl,rfl,rfl,by decide +kernel,rfl,by decide +kernel,by decide +kernel⟩
theorem J3(T:Tx K mg):bL P w K mg base bC 1 T.oB.a T.oB.fd ["many","p"] (bU K 2 nE) :=
 cJ (k:=0) T.oB.d.fn sM rfl rfl λcdv A outer s H E hr=>by
  show bW _ _ uB;unfold uB;refine aP (bg (i:=2) (fk (az (fk aD) aD)) (hN:=sM.nd)) ?_;refine aP (dQ (dN (az (ay 0) aD) T.cR) (bh (i:=3) (hN:=sM.nd)) (aP (bg (i:=4) (iC aD) (hN:=sM.nd)) (aP (dQ (j5 (ay 2)) (bh (i:=5) (hN:=sM.nd)) (aU (fX (yY (ay 4) (dZ (N':=["digit","row"]) (pick:=[η,ζ 5]) (cN.of rfl rfl) (dN (az (ay 1) aD) T.cR) (λ_ _ _ _ _ _=>(bh (i:=0) (hN:=(by decide +kernel:ο (["digit","row"]:List Str))))) (λ_ _ _ _ _ _=>dY) (λ_ _ _ _ _ _=>(aW tH (ay 1) (fk (az (ay 0) aD))))))))) (aU (bg (i:=2) (ay 4) (hN:=sM.nd)))))) ?_
  exact(aU (bZ (dZ (N':=["row"]) (pick:=[η]) (cN.of rfl rfl) (j5 (ay 2)) (λ_ _ _ _ _ _=>(bh (i:=0) (hN:=(by decide +kernel:ο (["row"]:List Str))))) (λ_ _ _ _ _ _=>dY) (λ_ _ _ _ _ _=>(aW tH (ay 0) (fk (az aN aD)))))))
theorem ng:cz ["q","p","many","products","less","one","number"] ["q"] (bE CN):=⟨rfl,rfl,rfl,by decide +kernel,rfl,by decide +kernel,by decide +kernel⟩
theorem WS(T:Tx K mg):bL P w K mg base bC 3 T.qX.a T.qX.fd ["q"] (bU K 1 t6) :=
 cJ (k:=2) T.qX.d.fn ng rfl rfl λcdv A outer s H E hr=>by
  show bW _ _ AY;unfold AY;refine aP (bg (i:=1) (aX T.kY.d (zg T) (hr.mono (by decide)) (az (ay 0) aD)) (hN:=ng.nd)) ?_
  refine aP (bg (i:=2) (aX T.oE.d (J4 T) (hr.mono (by decide)) (az (ay 0) aD)) (hN:=ng.nd)) ?_
  refine aP (fj (eU jG (ay 2) aN) (aU (bZ (fk (az aN (az aN aD))))) fE) ?_;refine aP (bg (i:=3) (iC aD) (hN:=ng.nd)) ?_;refine aP (dQ (uc (az aN (az (aW eK (aW tG (ay 2) aN) aN) aD)) T.cR) (bh (i:=4) (hN:=ng.nd)) (aU (dQ (j5 (aX T.oB.d (J3 T) (hr.mono (by decide)) (az (ay 4) (az (ay 1) aD)))) (bh (i:=5) (hN:=ng.nd)) (aU (fX (yY (ay 3) (dZ (N':=["other","one","p"]) (pick:=[η,ζ 5,ζ 1]) (cN.of rfl rfl) (j5 (aX T.oB.d (J3 T) (hr.mono (by decide)) (az (aW fH (ay 2) (ay 4)) (az (ay 1) aD)))) (λ_ _ _ _ _ _=>(bh (i:=0) (hN:=(by decide +kernel:ο (["other","one","p"]:List Str))))) (λ_ _ _ _ _ _=>dY) (λ_ _ _ _ _ _=>(aX T.kg.d (WH T) (hr.mono (by decide)) (az (ay 1) (az (ay 0) (az (ay 2) aD)))))))))))) ?_
  refine aP (bg (i:=6) aN (hN:=ng.nd)) ?_;refine aP (IU (n:=60) (eU (vJ (nR hr)) (aW tH (aX T.jM.d (tE T) (hr.mono (by decide)) (az (ay 6) (az (ay 1) (az (ay 2) aD)))) (fk (az aN aD))) (ay 3)) (aU (bg (i:=6) (aW eK (ay 6) aN) (hN:=ng.nd)))) ?_
  exact(aU (bZ (aW tH (aX T.jM.d (tE T) (hr.mono (by decide)) (az (ay 6) (az (ay 1) (az (ay 2) aD)))) (fk (az aN aD)))))
theorem m9:cz ["q","form","one","other","p","many","row","place","often","k","at"] ["q","form","one","other"] (bE CF):=⟨rfl,rfl,rfl,by decide +kernel,rfl,by decide +kernel,by decide +kernel⟩
theorem WN(T:Tx K mg):bL P w K mg base bC 2 T.qT.a T.qT.fd ["q","form","one","other"] (bU K 4 tZ) :=
 cJ (k:=1) T.qT.d.fn m9 rfl rfl λcdv A outer s H E hr=>by
  show bW _ _ AS;unfold AS;refine aP (bg (i:=4) (aX T.kY.d (zg T) (hr.mono (by decide)) (az (ay 0) aD)) (hN:=m9.nd)) ?_
  refine aP (bg (i:=5) (aW fH (dM eL T.ee agb (az (ay 1) aD)) aN) (hN:=m9.nd)) ?_;refine aP (bg (i:=6) (aX T.kg.d (Wu T) (hr.mono (by decide)) (az (aX T.jM.d (tE T) (hr.mono (by decide)) (az (ay 2) (az (ay 4) (az (ay 5) aD)))) (az (aX T.jM.d (tE T) (hr.mono (by decide)) (az (ay 3) (az (ay 4) (az (ay 5) aD)))) (az (ay 4) aD)))) (hN:=m9.nd)) ?_
  refine aP (dQ (Zv (az (aW fH (dM eL T.ee agb (az (ay 6) aD)) aN) (az (aW fH (ay 5) aN) (az (aW fH aN aN) aD))) T.cR) (bh (i:=7) (hN:=m9.nd)) (aP (bg (i:=8) (bS bT (ay 6) (ay 7)) (hN:=m9.nd)) (aU (dQ (dN (az (aW eK (ay 5) aN) aD) T.cR) (bh (i:=9) (hN:=m9.nd)) (aP (bg (i:=10) (aW eK (aW fH (ay 7) (ay 5)) (ay 9)) (hN:=m9.nd)) (aU (sH (aW iE (aW fH (bS bT (ay 6) (ay 10)) (aW gk (ay 8) (bS bT (ay 1) (ay 9)))) (ay 4)) (z7 (ay 6) (ay 10))))))))) ?_;exact(aU (bZ (aX T.oA.d (J2 T) (hr.mono (by decide)) (az (JJ (ay 6) Jy (Jx (ay 5))) (az (ay 4) aD)))))
theorem yC:cz ["q","one","other","sign","p","many","rows"] ["q","one","other","sign"] (bE Cy):=⟨rfl,rfl,rfl,by decide +kernel,rfl,by decide +kernel,by decide +kernel⟩
theorem WI(T:Tx K mg):bL P w K mg base bC 3 T.qO.a T.qO.fd ["q","one","other","sign"] (bU K 4 nA) :=
 cJ (k:=2) T.qO.d.fn yC rfl rfl λcdv A outer s H E hr=>by
  show bW _ _ AN;unfold AN;refine aP (bg (i:=4) (aX T.kY.d (zg T) (hr.mono (by decide)) (az (ay 0) aD)) (hN:=yC.nd)) ?_
  refine aP (bg (i:=5) (aX T.oE.d (J4 T) (hr.mono (by decide)) (az (ay 0) aD)) (hN:=yC.nd)) ?_
  refine aP (bg (i:=6) (fk (az (aX T.jM.d (tE T) (hr.mono (by decide)) (az (ay 1) (az (ay 4) (az (ay 5) aD)))) (az (aX T.jM.d (tE T) (hr.mono (by decide)) (az (ay 2) (az (ay 4) (az (ay 5) aD)))) aD))) (hN:=yC.nd)) ?_
  exact(aU (bZ (aX T.oA.d (J2 T) (hr.mono (by decide)) (az (dZ (N':=["k","p","sign","rows"]) (pick:=[η,ζ 4,ζ 3,ζ 6]) (cN.of rfl rfl) (dN (az (ay 5) aD) T.cR) (λ_ _ _ _ _ _=>(bh (i:=0) (hN:=(by decide +kernel:ο (["k","p","sign","rows"]:List Str))))) (λ_ _ _ _ _ _=>dY) (λ_ _ _ _ _ _=>(aW iE (aW eK (bS bT (bS bT (ay 3) aN) (ay 0)) (aW gk (ay 2) (bS bT (bS bT (ay 3) aN) (ay 0)))) (ay 1)))) (az (ay 4) aD)))))
theorem IY:cz ["q","form"] ["q"] (bE CD):=⟨rfl,rfl,rfl,by decide +kernel,rfl,by decide +kernel,by decide +kernel⟩
theorem WM(T:Tx K mg):bL P w K mg base bC 4 T.qS.a T.qS.fd ["q"] (bU K 1 tY) :=
 cJ (k:=3) T.qS.d.fn IY rfl rfl λcdv A outer s H E hr=>by
  show bW _ _ xo;unfold xo;refine aP (bg (i:=1) (aX T.qX.d (WS T) (hr.mono (by decide)) (az (ay 0) aD)) (hN:=IY.nd)) ?_
  exact(aU (bZ (dZ (N':=["one","q","form"]) (pick:=[η,ζ 0,ζ 1]) (cN.of rfl rfl) (dN (az (ay 0) aD) T.cR) (λ_ _ _ _ _ _=>(bh (i:=0) (hN:=(by decide +kernel:ο (["one","q","form"]:List Str))))) (λ_ _ _ _ _ _=>dY) (λ_ _ _ _ _ _=>(dZ (N':=["other","q","form","one"]) (pick:=[η,ζ 1,ζ 2,ζ 0]) (cN.of rfl rfl) (dN (az (ay 1) aD) T.cR) (λ_ _ _ _ _ _=>(bh (i:=0) (hN:=(by decide +kernel:ο (["other","q","form","one"]:List Str))))) (λ_ _ _ _ _ _=>dY) (λ_ _ _ _ _ _=>(aX T.qT.d (WN T) (hr.mono (by decide)) (az (ay 1) (az (ay 2) (az (ay 3) (az (ay 0) aD)))))))))))
theorem IZ:cz ["pot","many","left"] ["pot","many"] (bE CJ):=⟨rfl,rfl,rfl,by decide +kernel,rfl,by decide +kernel,by decide +kernel⟩
theorem zh(T:Tx K mg):bL P w K mg base bC 2 T.kZ.a T.kZ.fd ["pot","many"] (bU K 2 gn) :=
 cJ (k:=1) T.kZ.d.fn IZ rfl rfl λcdv A outer s H E hr=>by
  show bW _ _ AW;unfold AW;refine aP (bg (i:=2) (VF (az (ay 1) aD) T.DS T.cR) (hN:=IZ.nd)) ?_;exact(aU (bZ (iM jR T.iX agL (az (dZ (N':=["k","left","pot"]) (pick:=[η,ζ 2,ζ 0]) (cN.of rfl rfl) (dN (az (ay 1) aD) T.cR) (λ_ _ _ _ _ _=>(bh (i:=0) (hN:=(by decide +kernel:ο (["k","left","pot"]:List Str))))) (λ_ _ _ _ _ _=>dY) (λ_ _ _ _ _ _=>(JK (ay 1) (aX T.f6.d (iN T) (hr.mono (by decide)) (az (ay 2) (az (dM eL T.ee agb (az (ay 1) aD)) aD)))))) aD))))
theorem nh:cz ["pot","n","rows","by","order","names","columns"] ["pot","n"] (bE CQ):=⟨rfl,rfl,rfl,by decide +kernel,rfl,by decide +kernel,by decide +kernel⟩
theorem WU(T:Tx K mg):bL P w K mg base bC 3 T.qZ.a T.qZ.fd ["pot","n"] (bU K 2 qm) :=
 cJ (k:=2) T.qZ.d.fn nh rfl rfl λcdv A outer s H E hr=>by
  show bW _ _ A0;unfold A0;refine aP (fj (PW.pt (Dv (eU jG (ay 1) aN) (Dw (eU jG (aX T.f6.d (iN T) (hr.mono (by decide)) (az (ay 0) (az aN aD))) aN)))) (aU (bg (i:=2) (dZ (N':=["row","n"]) (pick:=[η,ζ 1]) (cN.of rfl rfl) (dN (az (ay 1) aD) T.cR) (λ_ _ _ _ _ _=>(bh (i:=0) (hN:=(by decide +kernel:ο (["row","n"]:List Str))))) (λ_ _ _ _ _ _=>dY) (λ_ _ _ _ _ _=>(dZ (N':=["column","row"]) (pick:=[η,ζ 0]) (cN.of rfl rfl) (dN (az (ay 1) aD) T.cR) (λ_ _ _ _ _ _=>(bh (i:=0) (hN:=(by decide +kernel:ο (["column","row"]:List Str))))) (λ_ _ _ _ _ _=>dY) (λ_ _ _ _ _ _=>(aW Xl (ay 1) (ay 0)))))) (hN:=nh.nd))) (aP (bg (i:=3) (aW eK aN (aX T.f6.d (iN T) (hr.mono (by decide)) (az (ay 0) (az (dM acm T.K0 boot_max (az aN (az (aW fH (ay 1) aN) aD))) aD)))) (hN:=nh.nd)) (aP (bg (i:=2) (dZ (N':=["row","n","by"]) (pick:=[η,ζ 1,ζ 3]) (cN.of rfl rfl) (dN (az (ay 1) aD) T.cR) (λ_ _ _ _ _ _=>(bh (i:=0) (hN:=(by decide +kernel:ο (["row","n","by"]:List Str))))) (λ_ _ _ _ _ _=>dY) (λ_ _ _ _ _ _=>(dZ (N':=["column","n","by","row"]) (pick:=[η,ζ 1,ζ 2,ζ 0]) (cN.of rfl rfl) (dN (az (ay 1) aD) T.cR) (λ_ _ _ _ _ _=>(bh (i:=0) (hN:=(by decide +kernel:ο (["column","n","by","row"]:List Str))))) (λ_ _ _ _ _ _=>dY) (λ_ _ _ _ _ _=>(aW iE (aW eK (aW gk (ay 2) (ay 3)) (ay 0)) (ay 1)))))) (hN:=nh.nd)) (aU (fj (eU (Xn (nR hr)) (Du (az (dZ (N':=["row"]) (pick:=[η]) (cN.of rfl rfl) (j5 (ay 2)) (λ_ _ _ _ _ _=>(bh (i:=0) (hN:=(by decide +kernel:ο (["row"]:List Str))))) (λ_ _ _ _ _ _=>dY) (λ_ _ _ _ _ _=>(bS bT (ay 0) aN))) aD) T.zy T.vN) (VG (az (ay 1) aD) T.DS T.cR)) (aU (bg (i:=2) (dZ (N':=["row","n"]) (pick:=[η,ζ 1]) (cN.of rfl rfl) (dN (az (ay 1) aD) T.cR) (λ_ _ _ _ _ _=>(bh (i:=0) (hN:=(by decide +kernel:ο (["row","n"]:List Str))))) (λ_ _ _ _ _ _=>dY) (λ_ _ _ _ _ _=>(dZ (N':=["column","n","row"]) (pick:=[η,ζ 1,ζ 0]) (cN.of rfl rfl) (dN (az (ay 1) aD) T.cR) (λ_ _ _ _ _ _=>(bh (i:=0) (hN:=(by decide +kernel:ο (["column","n","row"]:List Str))))) (λ_ _ _ _ _ _=>dY) (λ_ _ _ _ _ _=>(aW iE (aW eK (ay 2) (ay 0)) (ay 1)))))) (hN:=nh.nd))) fE))))) ?_
  refine aP (bg (i:=4) (aX T.kZ.d (zh T) (hr.mono (by decide)) (az (ay 0) (az (ay 1) aD))) (hN:=nh.nd)) ?_
  refine aP (bg (i:=5) (aX T.kZ.d (zh T) (hr.mono (by decide)) (az (ay 0) (az (ay 1) aD))) (hN:=nh.nd)) ?_
  refine aP (bg (i:=6) (aX T.kZ.d (zh T) (hr.mono (by decide)) (az (ay 0) (az (ay 1) aD))) (hN:=nh.nd)) ?_
  exact(aU (bZ (iM jR T.iX agL (az (dZ (N':=["row","names","columns","rows"]) (pick:=[η,ζ 5,ζ 6,ζ 2]) (cN.of rfl rfl) (nP (ay 4)) (λ_ _ _ _ _ _=>(bh (i:=0) (hN:=(by decide +kernel:ο (["row","names","columns","rows"]:List Str))))) (λ_ _ _ _ _ _=>dY) (λ_ _ _ _ _ _=>(iM jR T.iX agL (az (dZ (N':=["column","names","rows","row"]) (pick:=[η,ζ 1,ζ 3,ζ 0]) (cN.of rfl rfl) (nP (ay 2)) (λ_ _ _ _ _ _=>(bh (i:=0) (hN:=(by decide +kernel:ο (["column","names","rows","row"]:List Str))))) (λ_ _ _ _ _ _=>dY) (λ_ _ _ _ _ _=>(bS bT (ay 1) (bS bT (bS bT (ay 2) (ay 3)) (ay 0))))) aD)))) aD))))
theorem B8:cz ["pot","rows","order"] ["pot"] (bE CB):=⟨rfl,rfl,rfl,by decide +kernel,rfl,by decide +kernel,by decide +kernel⟩
theorem WL(T:Tx K mg):bL P w K mg base bC 3 T.qR.a T.qR.fd ["pot"] (bU K 1 l6) :=
 cJ (k:=2) T.qR.d.fn B8 rfl rfl λcdv A outer s H E hr=>by
  show bW _ _ AQ;unfold AQ;refine aP ?_ ?_
  ·with_reducible refine bg (i:=1) ?_ ?_ ?_ ?_ ?_ ?_
   ·with_reducible refine iC ?_
    with_reducible refine az ?_ ?_ ?_
    ·with_reducible refine fk ?_
     with_reducible refine ny ?_
     kernel_rfl
    ·skip
     with_reducible refine az ?_ ?_ ?_
     ·with_reducible refine fk ?_
      with_reducible refine ny ?_
      kernel_rfl
     ·skip
      with_reducible refine az ?_ ?_ ?_
      ·with_reducible refine fk ?_
       with_reducible refine ny ?_
       kernel_rfl
      ·skip
       with_reducible refine az ?_ ?_ ?_
       ·with_reducible refine fk ?_
        with_reducible refine ny ?_
        kernel_rfl
       ·skip
        with_reducible refine az ?_ ?_ ?_
        ·with_reducible refine fk ?_
         with_reducible refine ny ?_
         kernel_rfl
        ·skip
         with_reducible exact aD
        ·exact dU rfl
       ·exact dU rfl
      ·exact dU rfl
     ·exact dU rfl
    ·exact dU rfl
   ·exact B8.nd
   ·rfl
   ·first|exact Or.inl rfl|exact Or.inr rfl
   ·rfl
   ·first|exact .inl rfl|exact .inr rfl
  ·skip
   refine aP (fX (jV (ay 1) (fk (ny (by kernel_rfl))))) ?_
   refine aP (bg (i:=2) (aX T.kZ.d (zh T) (hr.mono (by decide)) (az (ay 0) (az aN aD))) (hN:=B8.nd)) ?_
   exact(aU (bZ (iM jR T.iX agL (az (dZ (N':=["row","rows"]) (pick:=[η,ζ 1]) (cN.of rfl rfl) (nP (ay 2)) (λ_ _ _ _ _ _=>(bh (i:=0) (hN:=(by decide +kernel:ο (["row","rows"]:List Str))))) (λ_ _ _ _ _ _=>dY) (λ_ _ _ _ _ _=>(iM jR T.iX agL (az (bS bT (ay 1) (ay 0)) aD)))) aD))))
theorem Sy:cz ["pot","n"] ["pot","n"] (bE Cz):=⟨rfl,rfl,rfl,by decide +kernel,rfl,by decide +kernel,by decide +kernel⟩
theorem WJ(T:Tx K mg):bL P w K mg base bC 4 T.qP.a T.qP.fd ["pot","n"] (bU K 2 nB) :=
 cJ (k:=3) T.qP.d.fn Sy rfl rfl λcdv A outer s H E hr=>by
  show bW _ _ AO;unfold AO;refine aP (fj (PW.pt (Dv (eU jG (ay 1) aN) (Dw (eU jG (aX T.f6.d (iN T) (hr.mono (by decide)) (az (ay 0) (az aN aD))) aN)))) (aU (bZ (aX T.qR.d (WL T) (hr.mono (by decide)) (az (ay 0) aD)))) fE) ?_
  exact(aU (bZ (aX T.qZ.d (WU T) (hr.mono (by decide)) (az (ay 0) (az (ay 1) aD)))))
theorem sN:cz ["q","products","found","often","rows","row"] ["q"] (bE CO):=⟨rfl,rfl,rfl,by decide +kernel,rfl,by decide +kernel,by decide +kernel⟩
theorem WT(T:Tx K mg):bL P w K mg base bC 5 T.qY.a T.qY.fd ["q"] (bU K 1 vX) :=
 cJ (k:=4) T.qY.d.fn sN rfl rfl λcdv A outer s H E hr=>by
  show bW _ _ xu;unfold xu;refine aP (bg (i:=1) (aX T.qS.d (WM T) (hr.mono (by decide)) (az (ay 0) aD)) (hN:=sN.nd)) ?_
  refine aP (bg (i:=2) (iC aD) (hN:=sN.nd)) ?_;refine aP (dQ (uc (az aN (az (ay 0) aD)) T.cR) (bh (i:=3) (hN:=sN.nd)) (aP (bg (i:=4) (iC aD) (hN:=sN.nd)) (aP (dQ (dN (az (ay 0) aD) T.cR) (bh (i:=5) (hN:=sN.nd)) (aU (fX (jV (ay 4) (iM jR T.iX agL (az (dZ (N':=["column","q","row","products","often"]) (pick:=[η,ζ 0,ζ 5,ζ 1,ζ 3]) (cN.of rfl rfl) (dN (az (ay 0) aD) T.cR) (λ_ _ _ _ _ _=>(bh (i:=0) (hN:=(by decide +kernel:ο (["column","q","row","products","often"]:List Str))))) (λ_ _ _ _ _ _=>dY) (λ_ _ _ _ _ _=>(aX T.qO.d (WI T) (hr.mono (by decide)) (az (ay 1) (az (bS bT (bS bT (ay 3) (ay 4)) (ay 2)) (az (ay 0) (az aN aD))))))) aD)))))) (aU (fX (jV (ay 2) (iM jR T.iX agL (az (ay 4) aD)))))))) ?_
  exact(aU (bZ (ay 2)))
theorem nc:cz ["n","squares","lines","place","x","y","pairs","one","other"] ["n","squares"] (bE CL):=⟨rfl,rfl,rfl,by decide +kernel,rfl,by decide +kernel,by decide +kernel⟩
theorem WR(T:Tx K mg):bL P w K mg base bC 2 T.qW.a T.qW.fd ["n","squares"] (bU K 2 l8) :=
 cJ (k:=1) T.qW.d.fn nc rfl rfl λcdv A outer s H E hr=>by
  show bW _ _ xr;unfold xr;refine aP (bg (i:=2) (iC aD) (hN:=nc.nd)) ?_;refine aP (dQ (dN (az (aW gk (ay 0) (ay 0)) aD) T.cR) (bh (i:=3) (hN:=nc.nd)) (aP (bg (i:=4) (aW tG (ay 3) (ay 0)) (hN:=nc.nd)) (aP (bg (i:=5) (aW iE (ay 3) (ay 0)) (hN:=nc.nd)) (aU (fX (jV (ay 2) (aW tH (fk (az (ay 4) (az (ay 5) aD))) (dZ (N':=["square","y","x"]) (pick:=[η,ζ 5,ζ 4]) (cN.of rfl rfl) (j5 (ay 1)) (λ_ _ _ _ _ _=>(bh (i:=0) (hN:=(by decide +kernel:ο (["square","y","x"]:List Str))))) (λ_ _ _ _ _ _=>dY) (λ_ _ _ _ _ _=>(bS bT (bS bT (ay 0) (ay 2)) (ay 1))))))))))) ?_
  refine aP (bg (i:=6) (iC aD) (hN:=nc.nd)) ?_;refine aP (dQ (dN (az (aW gk (ay 0) (ay 0)) aD) T.cR) (bh (i:=7) (hN:=nc.nd)) (aU (dQ (uc (az (aW eK (ay 7) aN) (az (aW gk (ay 0) (ay 0)) aD)) T.cR) (bh (i:=8) (hN:=nc.nd)) (aU (fj (kH (dM acn T.K2 boot_any (az (dZ (N':=["mine","own"]) (pick:=[η,η]) (cN.of rfl rfl) (wz (az (bS bT (ay 2) (ay 7)) (az (bS bT (ay 2) (ay 8)) aD)) T.tO) (λ_ _ _ _ _ _=>(j8 (n:=2) (fQ (bh (i:=0) (hN:=(by decide +kernel:ο (["mine","own"]:List Str)))) (fQ (bh (i:=1) (hN:=(by decide +kernel:ο (["mine","own"]:List Str)))) j7)))) (λ_ _ _ _ _ _=>dY) (λ_ _ _ _ _ _=>(pX jG (ay 0) (ay 1)))) aD))) (aU (fX (jV (ay 6) (gE (az (ay 7) (az (ay 8) aD)))))) fE))))) ?_
  exact(aU (bZ (aX T.oz.d (J1 T) (hr.mono (by decide)) (az (aW gk (ay 0) (ay 0)) (az (ay 6) aD)))))
theorem vj:cz ["pot","n","left","found","k"] ["pot"] (bE CA):=⟨rfl,rfl,rfl,by decide +kernel,rfl,by decide +kernel,by decide +kernel⟩
theorem WK(T:Tx K mg):bL P w K mg base bC 6 T.qQ.a T.qQ.fd ["pot"] (bU K 1 l5) :=
 abc (k:=5) T.qQ.d.fn vj rfl rfl λcdv A outer s H E hr=>by
  show bW _ _ uA;unfold uA;refine aP (bg (i:=1) (aW eK aN (aX T.f6.d (iN T) (hr.mono (by decide)) (az (ay 0) (az aN aD)))) (hN:=vj.nd)) ?_
  refine aP (fj (eU jG (ay 1) aN) (aU (bZ (gE (az (ay 1) (az (JJ (fk (az (aX T.qP.d (WJ T) (hr.mono (by decide)) (az (ay 0) (az (ay 1) aD))) aD)) Jy (Jx (aX T.f6.d (iN T) (hr.mono (by decide)) (az (ay 0) (az aN aD))))) aD))))) fE) ?_
  refine aP (bg (i:=2) (aX T.qY.d (WT T) (hr.mono (by decide)) (az (ay 1) aD)) (hN:=vj.nd)) ?_
  refine aP (bg (i:=3) (iC aD) (hN:=vj.nd)) ?_;refine aP (dQ (dN (az (aX T.f6.d (iN T) (hr.mono (by decide)) (az (ay 0) (az (ay 1) aD))) aD) T.cR) (bh (i:=4) (hN:=vj.nd)) (aU (fX (jV (ay 3) (JK (ay 2) (aX T.f6.d (iN T) (hr.mono (by decide)) (az (ay 0) (az (dM eL T.ee agb (az (ay 2) aD)) aD)))))))) ?_
  exact(aU (bZ (gE (az (ay 1) (az (ay 3) aD)))))
theorem gX:cz ["script","k","pot","way","web","n","squares","word","table","many","one","due","turn","other","which"] ["script"] (bE CT):=⟨rfl,rfl,rfl,by decide +kernel,rfl,by decide +kernel,by decide +kernel⟩
theorem WX(T:Tx K mg):bL P w K mg base bC 11 T.rm.a T.rm.fd ["script"] (bU K 1 zD) :=
 cJ (k:=10) T.rm.d.fn gX rfl rfl λcdv A outer s H E hr=>by
  show bW _ _ xy;unfold xy;refine aP (dQ (dN (az aN aD) T.cR) (bh (i:=1) (hN:=gX.nd)) (aP (bg (i:=2) (aX T.qU.d (WO T) (hr.mono (by decide)) (az (aX T.rj.d (WV T) (hr.mono (by decide)) (az (ay 0) (az (ay 1) aD))) aD)) (hN:=gX.nd)) (aP (bg (i:=3) (aX T.f6.d (iN T) (hr.mono (by decide)) (az (ay 2) (az aN aD))) (hN:=gX.nd)) (aP (bg (i:=4) (aX T.qV.d (WQ T) (hr.mono (by decide)) (az (aW eK aN (aX T.f6.d (iN T) (hr.mono (by decide)) (az (ay 2) (az aN aD)))) aD)) (hN:=gX.nd)) (aP (fj (eU jG (ay 3) aN) (aP (sH (aX T.qQ.d (WK T) (hr.mono (by decide)) (az (ay 2) aD)) (j8 (n:=2) (fQ (bh (i:=5) (hN:=gX.nd)) (fQ (bh (i:=6) (hN:=gX.nd)) j7)))) (aU (bg (i:=4) (aX T.qW.d (WR T) (hr.mono (by decide)) (az (ay 5) (az (ay 6) aD))) (hN:=gX.nd)))) fE) (aP (fj (eU jG (ay 3) aN) (aU (bg (i:=4) (aX T.oH.d (Xb T) (hr.mono (by decide)) (az (bS bT (fk (az aN (az aN (az aN (az aN aD))))) (aX T.f6.d (iN T) (hr.mono (by decide)) (az (ay 2) (az aN aD)))) aD)) (hN:=gX.nd))) fE) (aP (sH (aX T.rD.d (Xd T) (hr.mono (by decide)) (az (ay 4) aD)) (j8 (n:=2) (fQ (bh (i:=7) (hN:=gX.nd)) (fQ (bh (i:=8) (hN:=gX.nd)) j7)))) (aP (bg (i:=9) (aX T.f6.d (iN T) (hr.mono (by decide)) (az (ay 2) (az (bS bT (fk (az aN (az aN (az aN (az aN aD))))) (aX T.f6.d (iN T) (hr.mono (by decide)) (az (ay 2) (az aN aD)))) aD))) (hN:=gX.nd)) (aP (bg (i:=10) (aX T.f6.d (iN T) (hr.mono (by decide)) (az (ay 2) (az (dM eL T.ee agb (az (ay 4) aD)) aD))) (hN:=gX.nd)) (aP (fj (eU p8 (ay 7) vD) (aU (bZ vE)) fE) (aU (fj (eU (Kf (nR hr)) tu (ay 8)) (aP (bg (i:=11) (aX T.qE.d (Wv T) (hr.mono (by decide)) (az (ay 8) (az (ay 9) aD))) (hN:=gX.nd)) (aU (dQ (dN (az aN aD) T.cR) (bh (i:=12) (hN:=gX.nd)) (aP (bg (i:=13) (bS bT (fk (az (ay 10) (az (aX T.f6.d (iN T) (hr.mono (by decide)) (az (ay 2) (az (dM eL T.ee agb (az (ay 4) aD)) aD))) aD))) (iM Fo T.vO boot_int (az (pX Km (ay 12) aN) aD))) (hN:=gX.nd)) (aP (bg (i:=14) (aW fH (aW fH aN (iM Fo T.vO boot_int (az (pX (vJ (nR hr)) (ay 13) (bS bT (ay 4) (ay 10))) aD))) (aW gk aN (iM Fo T.vO boot_int (az (pX jG (ay 13) (ay 10)) aD)))) (hN:=gX.nd)) (aU (fj (eU p8 (aX T.qF.d (Ww T) (hr.mono (by decide)) (az (ay 4) (az (ay 10) (az (ay 13) (az (ay 9) aD))))) (bS bT (ay 11) (ay 14))) (aU (bZ vE)) fE))))))) fE)))))))))))) ?_
  exact(aU (bZ vE))
end
end Ev
namespace Ev
open PySem L2
theorem bI{s t:ah}{e e':Ev}{c c':aa}(h:s e c=.ok (.nx e') c'):aE s t e c=t e' c':=by rw[g9,h];rfl
theorem vP{i:Int}(h:0<=i):∃n:Nat,i=n:=⟨i.toNat,by omega⟩
def dS(j:Nat) (n:Nat) (c:aa):Prop:=c.length=n/\j<n/\∃p:Int,c[j]? = ζ (.lst [.int p])
theorem dS.set{j n:Nat}{c:aa}(h:dS j n c) (p:Int):dS j n (c.set j (.lst [.int p])):=by
 obtain⟨h1,h2,_⟩:=h;exact⟨by simp[h1],h2,p,by rw[agM (by omega)]⟩
theorem jD{j n:Nat}{c:aa}{cT:Int}(h:dS j n c) (h0:0<cT) (h1:cT<1073741824) :
  ∃(x:Int) (c':aa),0<=x/\x<cT/\dS j n c'/\bJ [.ref j,.int cT] c=.ok (.int x) c':=by
 obtain⟨hl,hj,p,hp⟩:=id h;refine⟨p % cT,c.set j (.lst [.int (p/cT)]),ag1 _ (by omega),ag2 _ h0,h.set _,?_⟩
 have e1:aF (.ref j) (.int 0) c=.ok (.int p) c:=by
  unfold aF fW;simp[hp]
 have e2:lK (.ref j) (.int 0) (.int (p/cT)) c=.ok () (c.set j (.lst [.int (p/cT)])):=by
  unfold lK;simp[hp,gp]
 have e3:(c.set j (.lst [.int (p/cT)])).take c.length=c.set j (.lst [.int (p/cT)]):=by
  rw[ahK];simp
 simp(disch:=omega) [bJ,xm,e1,jj,rF,e2,e3]
theorem UQ(cell:Int) (c:aa):∃p:Int,nC [.int cell] c=.ok (.ref c.length) (c++[.lst [.int p]]):=by
 by_cases h:10^18<=cell
 ·refine⟨cell-10^18,?_⟩;simp(disch:=omega) [nC,xq,Jw,h];rw[if_pos (by simpa using h)]
  simp[c9]
 ·obtain⟨e',c',⟨⟨q,v1,v2,rfl⟩,rfl⟩,hf⟩:=EV (g:=aA 2) (s:=(aE (aG 3 (av cy (av bN (av bu (av bu (av cy (ao 0) (dC (.int 2147483629))) (av bN (dC (.int 7919)) (ao 2))) (dC (.int 1))) (dC (.int 48271))) (dC (.int 2147483647)))) (aE (aG 3 (av cy (av bu (av bu (av bN (ao 3) (ao 3)) (av bN (dC (.int 69621)) (ao 2))) (dC (.int 7))) (dC (.int 2147483587)))) (aG 1 (av bu (av bN (ao 1) (dC (.int 2147483587))) (ao 3))))))
   (λe c'=>(∃q v1 v2,e=[ζ (.int cell),ζ (.int q),v1,v2])/\c'=c) (aT 0 64) [ζ (.int cell),ζ (.int 0),η,η] c ⟨⟨0,η,η,rfl⟩,rfl⟩ (λx hx e c' ⟨⟨q,v1,v2,he⟩,hc⟩=>by
    obtain⟨i,rfl,i0,i1⟩:=qd hx;subst he;subst hc;have b0:0<=(cell % 2147483629+7919*i+1)*48271 % 2147483647:=ag1 _ (by decide)
    have b1:(cell % 2147483629+7919*i+1)*48271 % 2147483647<2147483647:=ag2 _ (by decide)
    generalize hm:(cell % 2147483629+7919*i+1)*48271 % 2147483647=m at b0 b1
    refine⟨_,[ζ (.int cell),ζ (.int (q*2147483587+(m*m+69621*i+7) % 2147483587)),ζ (.int i),ζ (.int ((m*m+69621*i+7) % 2147483587))],_,_,rfl,by simp(disch:=omega) [jj,vQ,mul_r,hm],⟨⟨_,_,_,rfl⟩,rfl⟩⟩)
  refine⟨q,?_⟩;have hh:¬(1000000000000000000<=cell):=by simpa using h
  simp(disch:=omega) [nC,xq,Jw,hh];rw[hf];simp[c9]
theorem ack(ns:List Int) (k:Int) (h:0<=k) (c:aa):∃x:Int,nF [.cH ns,.int k] c=.ok (.int x) c:=by
 by_cases q:k<ns.length
 ·have hk:k.toNat<ns.length:=by omega
  refine⟨ns[k.toNat],?_⟩;have e:aF (.cH ns) (.int k) c=.ok (.int ns[k.toNat]) c:=by
   show(match cX (ns.map D.int) k with|some d=>R.ok d c|none=>R.bad)=_
   have:cX (ns.map D.int) k=ζ (.int ns[k.toNat]):=by
    have:=gK (xs:=ns.map D.int) (j:=k.toNat) (v:=.int ns[k.toNat]) (by simp[hk])
    rw[Int.toNat_of_nonneg h]at this;exact this
   rw[this]
  simp[nF,xx,q,e]
 ·exact⟨0,by simp[nF,xx,q]⟩
theorem take2{j:Nat}{c:aa}{p cT:Int}(hp:c[j]? = ζ (.lst [.int p])) (h0:0<cT) (h1:cT<1073741824):bJ [.ref j,.int cT] c=.ok (.int (p % cT)) (c.set j (.lst [.int (p/cT)])):=by
 have hj:j<c.length:=(af8.mp hp).1;have e1:aF (.ref j) (.int 0) c=.ok (.int p) c:=by
  unfold aF fW;simp[hp]
 have e2:lK (.ref j) (.int 0) (.int (p/cT)) c=.ok () (c.set j (.lst [.int (p/cT)])):=by
  unfold lK;simp[hp,gp]
 have e3:(c.set j (.lst [.int (p/cT)])).take c.length=c.set j (.lst [.int (p/cT)]):=by
  rw[ahK];simp
 simp(disch:=omega) [bJ,xm,e1,jj,rF,e2,e3]
theorem M0(l:List D):l.filter (λ_=>Δ)=l:=by simp
theorem Te{β:Type}(m:Nat) (F:D->β):(aT 0 (m:Int)).map F=(θ m).map λi:Nat=>F (.int (i:Int)):=by
 unfold aT;rw[af7,show((m:Int)-0).toNat=m by omega]
 refine agp λi _=>?_
 simp
def PO(j n:Nat) (os:List Nat) (c:aa):Prop:=c.length=n+1/\j<n/\(∃p:Int,c[j]? = ζ (.lst [.int p]))/\c[n]? = ζ (.lst (nD os))
def vH:af:=(kh (ao 1) (aC 2 bJ (aq (ao 2) (aq (aO bA (aq (ao 1) au)) au))))
theorem XW(l:List Nat) (i:Nat):(nD l).eraseIdx i=nD (l.eraseIdx i):=by
 rw[aht,aht];simp[nD,aiC,List.map_drop]
theorem Ae{l:List Nat}{i:Nat}(h:i<l.length):l.Perm (l[i]::l.eraseIdx i):=by
 have e:l.take i++l[i]::l.drop (i+1)=l:=by rw[<-ais h,ajj]
 rw[aht];have p:(l.take i++l[i]::l.drop (i+1)).Perm (l[i]::(l.take i++l.drop (i+1))):=akl
 rwa[e]at p
theorem V8{j n:Nat}{left:List Nat}{c:aa}{v:Option D}(hP:PO j n left c) (h1:0<left.length) (h2:left.length<1000) :
  ∃(x:Nat) (rest:List Nat) (c':aa),left.Perm (x::rest)/\PO j n rest c'/\(∀k,k≠j->k<n->c'[k]? = c[k]?)/\vH [v,ζ (.ref n),ζ (.ref j)] c=.ok (.int (x:Int)) c':=by
 obtain⟨g1,g2,⟨p,g3⟩,g4⟩:=hP;have ht:=take2 (cT:=(left.length:Int)) g3 (by omega) (by omega)
 have x0:=ag1 p (show(left.length:Int)≠0 by omega)
 have x1:=ag2 p (show(0:Int)<(left.length:Int) by omega)
 generalize p % (left.length:Int)=x at ht x0 x1
 obtain⟨i,rfl⟩:=vP x0
 generalize hc1:c.set j (.lst [.int (p/(left.length:Int))])=c1 at ht
 have l1:c1.length=n+1:=by rw[<-hc1];simp[g1]
 have q1:c1[n]? = ζ (.lst (nD left)):=by rw[<-hc1,agz (by omega)];exact g4
 have q0:c1[j]? = ζ (.lst [.int (p/(left.length:Int))]):=by rw[<-hc1,agM (by omega)]
 have hi:i<left.length:=by omega
 have hlen:bA [.ref n] c=.ok (.int (left.length:Int)) c:=by
  unfold bA;dsimp only[fW];rw[g4];simp[nD]
 have hget:(nD left)[i]? = ζ (.int (left[i]:Nat)):=by simp[nD,hi]
 refine⟨left[i],left.eraseIdx i,c1.set n (.lst (nD (left.eraseIdx i))),Ae hi,⟨by simp[l1],g2,⟨_,by rw[agz (by omega)];exact q0⟩,by rw[agM (by omega)]⟩,λk k1 k2=>by rw[agz (by omega),<-hc1,agz (by omega)],?_⟩
 unfold vH kh;simp only[bK,gz,gs,R.aB,x_call,bH,gh,bQ,hlen,af0,agj,if_pos,ht,q1];rw[if_pos ⟨by omega,by rw[show(nD left).length=left.length by simp[nD]];omega,by rw[show(nD left).length=left.length by simp[nD]];omega⟩,aho,hget]
 dsimp only;rw[XW]
theorem JV{j n:Nat}:∀(ks:List D) (v:Option D) (acc:List D) (left:List Nat) (c:aa),left.length=ks.length->left.length<1000->PO j n left c ->
  ∃(os:List Nat) (c':aa),os.Perm left/\PO j n [] c'/\(∀k,k≠j->k<n->c'[k]? = c[k]?)/\bO (λ_=>True) (aA 0) aM vH ks [v,ζ (.ref n),ζ (.ref j)] acc c=.ok (acc++nD os) c'
 |[],v,acc,left,c,hl,_,hP=>by
  have:left=[]:=ajo.mp (by simpa using hl)
  subst this;exact⟨[],c,.refl _,hP,λ_ _ _=>rfl,by simp[nD]⟩
 |k::ks,v,acc,left,c,hl,h2,hP=>by
  rw[af0]at hl;obtain⟨x,rest,c1,hp,P1,f1,h1⟩:=V8 (v:=ζ k) hP (by omega) h2
  have hr:rest.length+1=left.length:=by have:=hp.length_eq;simpa using this.symm
  obtain⟨os,c2,hp2,P2,f2,h⟩:=JV ks (ζ k) (acc++[.int (x:Int)]) rest c1 (by omega) (by omega) P1
  refine⟨x::os,c2,(hp2.cons x).trans hp.symm,P2,λk k1 k2=>(f2 k k1 k2).trans (f1 k k1 k2),?_⟩
  have e1:aA 0 k [v,ζ (.ref n),ζ (.ref j)] c=.ok [ζ k,ζ (.ref n),ζ (.ref j)] c:=rfl;rw[jQ,e1,R.aB,lD,R.aB,if_pos rfl,h1,R.aB,h,agy];rfl
theorem V5{j:Nat}{q:Int}{c:aa}(b:0<q/\q<1000):(aG 2 (wR (aq (ao 1) au))) [ζ (.ref j),ζ (.int q),η] c=.ok (.nx [ζ (.ref j),ζ (.int q),ζ (.ref c.length)]) (c++[.lst ((iB 0 q).map D.int)]):=by
 simp only[gg,O2,bH,bK,gz,gs,bQ,R.aB];rw[if_pos b];rfl
theorem V0{j n:Nat}{q:Int}{l:List D}{c c':aa}(b:-4611686018427387904<=q/\q<4611686018427387904) (hl:(aT 0 q).length<Ω) (hc:bO (λ_=>True) (aA 0) aM vH (aT 0 q) [η,ζ (.ref n),ζ (.ref j)] [] c=.ok l c'):(aS (aO cP (aq (aY (aZ (aq (ao 1) au)) [η,ζ 2,ζ 0] (aA 0) aM (kh (ao 1) (aC 2 bJ (aq (ao 2) (aq (aO bA (aq (ao 1) au)) au))))) au))) [ζ (.ref j),ζ (.int q),ζ (.ref n)] c=.ok (.rt (.tup l)) c':=by
 have hp:dz [η,ζ 2,ζ 0] [ζ (.ref j),ζ (.int q),ζ (.ref n)]=[η,ζ (.ref n),ζ (.ref j)]:=rfl;unfold vH at hc;simp only[iH,gh,bH,eX,ig,bK,gz,gs,bQ,R.aB];rw[if_pos (by omega)]
 simp only[R.aB];rw[if_pos hl,hp,hc];rfl
theorem Jk(m:Nat):iB 0 (m:Int)=(θ m).map λk:Nat=>(k:Int):=by
 unfold iB;rw[show((m:Int)-0).toNat=m by omega]
 refine agp λk _=>?_
 omega
theorem JR{j n m:Nat}{c:aa}(hP:dS j n c) (h1:1<=m) (hm:m<1000):∃os c',os.Perm (θ m)/\dS j n c'/\(∀k,k≠j->k<n->c'[k]? = c[k]?)/\gn [.ref j,.int (m:Int)] c=.ok (.tup (nD os)) c':=by
 have hs:=dJ (n:=1000) (by decide)
 obtain⟨hl,hj,p,hp⟩:=hP;have e0:=V5 (j:=j) (q:=(m:Int)) (c:=c) (by omega)
 have hr:(iB 0 (m:Int)).map D.int=nD (θ m):=by rw[Jk];simp[nD]
 rw[hr]at e0;have P0:PO j n (θ m) (c++[.lst (nD (θ m))]):=⟨by simp[hl],hj,⟨p,by rw[agl (by omega)];exact hp⟩,by rw[agD (by omega),hl];simp⟩
 obtain⟨os,c2,ho,P2,f2,hc⟩:=JV (aT 0 (m:Int)) η [] (θ m) _ (by rw[d9,ag0];omega) (by rw[ag0];omega) P0
 rw[agf]at hc;have e1:=V0 (q:=(m:Int)) (by omega) (by rw[d9];omega) hc
 have hb:AW=aE (aG 2 (wR (aq (ao 1) au))) (aS (aO cP (aq (aY (aZ (aq (ao 1) au)) [η,ζ 2,ζ 0] (aA 0) aM (kh (ao 1) (aC 2 bJ (aq (ao 2) (aq (aO bA (aq (ao 1) au)) au))))) au))):=rfl;have es:dI 3 [D.ref j,.int (m:Int)]=[ζ (.ref j),ζ (.int (m:Int)),η]:=rfl;obtain⟨l3,_,⟨p3,q3⟩,_⟩:=P2;refine⟨os,c2.take n,ho,⟨by rw[ag7];omega,hj,p3,by rw[aij hj];exact q3⟩,λk k1 k2=>by rw[aij k2,f2 k k1 k2,agl (by omega)],?_⟩
 rw[hl]at e0;rw[gn,fC,hb,es,bI e0,e1];simp only[R.aB];rw[vq,if_pos (tN os),hl]
theorem Dz{j n m:Nat}{c:aa}(hP:dS j n c) (h1:1<=m) (hm:m<1000):∃os c',os.Perm (θ m)/\dS j n c'/\gn [.ref j,.int (m:Int)] c=.ok (.tup (nD os)) c' :=
 let⟨os,c',h1,h2,_,h3⟩:=JR hP h1 hm
 ⟨os,c',h1,h2,h3⟩
theorem IS{s t:ah}{e:Ev}{c c':aa}{d:D}(h:s e c=.ok (.rt d) c'):aE s t e c=.ok (.rt d) c':=by
 rw[g9,h];rfl
def It(d:D):Prop:=(∃i:Int,d=.int i)\/d=.bl Δ\/d=.aL\/(∃z,d=.str z)\/∃l,d=.tup l
theorem yS:∀{A B:List Nat},A.Nodup->(∀x∈A,x∈B)->A.length=B.length->A.Perm B
 |[],B,_,_,hl=>by
  have:B=[]:=ajo.mp (by simpa using hl.symm)
  subst this;exact .refl _
 |a::A,B,hn,hs,hl=>by
  obtain⟨h1,h2⟩:=agX.mp hn;have ha:=hs a (.head _);have hp:=List.perm_cons_erase ha;have he:(B.erase a).length=B.length-1:=ajb ha;have ih:=yS (A:=A) (B:=B.erase a) h2 (λx hx=>(aja (λe:x=a=>h1 (by rw[<-e];exact hx))).mpr (hs x (.tail _ hx))) (by rw[he];rw[af0]at hl;omega)
  exact(ih.cons a).trans hp.symm
theorem XU(ps:List Nat):nD ps=(ps.map λk:Nat=>(k:Int)).map D.int:=by simp[nD]
theorem NU:∀{ps qs:List Nat},ps.map (λk:Nat=>(k:Int))=qs.map (λk:Nat=>(k:Int))->ps=qs
 |[],[],_=>rfl
 |[],q::qs,h=>by simp at h
 |p::ps,[],h=>by simp at h
 |p::ps,q::qs,h=>by
  rw[af9,af9]at h;obtain⟨h1,h2⟩:=List.cons.inj h;rw[NU h2,show p=q by omega]
def cY(n:Nat) (s:Nat->Nat->Nat):D:=.tup ((θ n).map λi=>.tup (nD ((θ n).map (s i))))
structure fy (n:Nat) (s:Nat->Nat->Nat):Prop where
 row:∀i,i<n->((θ n).map (s i)).Perm (θ n)
 col:∀k,k<n->((θ n).map λi=>s i k).Perm (θ n)
theorem sV{E:List (Option D)}{a:af}{n:Nat}{c:aa}(F:Nat->D) (h:∀k:Nat,k<n->a (ζ (.int (k:Int))::E) c=.ok (F k) c):bO (λ_=>True) (aA 0) aM a (aT 0 (n:Int)) (η::E) [] c=.ok ((θ n).map F) c:=by
 have:=jP (c:=c) (g:=aA 0) (t:=aM) (a:=a) (λe=>∃v,e=v::E) (λ_=>Δ) (λd=>match d with|.int k=>F k.toNat|d=>d) (aT 0 (n:Int)) (η::E) [] ⟨_,rfl⟩ (λd hd e ⟨v,he⟩=>by
  subst he;obtain⟨k',rfl,k0,k1⟩:=qd hd;obtain⟨k,rfl⟩:=vP k0;exact⟨_,rfl,⟨_,rfl⟩,rfl,λ_=>h k (by omega)⟩)
 rw[this,agf,M0,Te]
 congr 1
def eY(n:Nat) (r:Nat->Nat->Nat) (i:Nat):List Nat:=(θ n).map (r i)
def ku(n:Nat) (r:Nat->Nat->Nat):D:=.lst ((θ n).map λi=>.lst (nD (eY n r i)))
theorem C8(n:Nat) (r:Nat->Nat->Nat) (i:Nat):((θ n).map λk=>D.int (r i k:Nat))=nD (eY n r i):=by simp[nD,eY]
theorem YU:∀n,n<8->∀b,b<7->cQ ((θ n).map λi=>(b*i+0) % n)=θ n->(∀i,i<n->((θ n).map λk=>(b*i+k) % n).Perm (θ n))/\(∀k,k<n->((θ n).map λi=>(b*i+k) % n).Perm (θ n)):=by decide +kernel
theorem YT:∀n,n<8->(∀i,i<n->((θ n).map λk=>(i+k) % n).Perm (θ n))/\(∀k,k<n->((θ n).map λi=>(i+k) % n).Perm (θ n)):=by decide +kernel
def mT(i k:Nat):Nat:=(Builtin.bitXor (i:Int) (k:Int)).toNat
theorem Lu:(∀i,i<4->((θ 4).map (mT i)).Perm (θ 4))/\(∀k,k<4->((θ 4).map λi=>mT i k).Perm (θ 4)):=by decide +kernel
theorem OM:∀i:Nat,i<4->∀k:Nat,k<4->Builtin.bitXor (i:Int) (k:Int)=((mT i k:Nat):Int):=by decide +kernel
def six:List (List Nat):=[[0,1,2,3,4,5],[1,0,3,2,5,4],[2,4,0,5,1,3],[3,5,1,4,0,2],[4,2,5,0,3,1],[5,3,4,1,2,0]]
def jE(i k:Nat):Nat:=(six.getD i []).getD k 0
theorem Ls:(∀i,i<6->((θ 6).map (jE i)).Perm (θ 6))/\(∀k,k<6->((θ 6).map λi=>jE i k).Perm (θ 6)):=by decide +kernel
theorem acO{q i:Int}{l:List D}{c:aa}(b:-4611686018427387904<=q/\q<4611686018427387904) (hl:(aT 0 q).length<Ω) (h:bO (λ_=>True) (aA 0) aM (av mU (ao 1) (ao 0)) (aT 0 q) [η,ζ (.int i)] [] c=.ok l c):(aY (aZ (aq (ao 1) au)) [η,ζ 0] (aA 0) aM (av mU (ao 1) (ao 0))) [ζ (.int i),ζ (.int q)] c=.ok (.lst l) c:=by
 have hp:dz [η,ζ 0] [ζ (.int i),ζ (.int q)]=[η,ζ (.int i)]:=rfl;simp only[eX,ig,bH,bK,gz,gs,bQ,R.aB];rw[if_pos (by omega)]
 simp only[R.aB];rw[if_pos hl,hp,h];rfl
theorem acy{q b' i:Int}{l:List D}{c:aa}(b:-4611686018427387904<=q/\q<4611686018427387904) (hl:(aT 0 q).length<Ω) (h:bO (λ_=>True) (aA 0) aM (av cy (av bu (av bN (ao 2) (ao 3)) (ao 0)) (ao 1)) (aT 0 q) [η,ζ (.int q),ζ (.int b'),ζ (.int i)] [] c=.ok l c):(aY (aZ (aq (ao 1) au)) [η,ζ 1,ζ 2,ζ 0] (aA 0) aM (av cy (av bu (av bN (ao 2) (ao 3)) (ao 0)) (ao 1))) [ζ (.int i),ζ (.int q),ζ (.int b')] c=.ok (.lst l) c:=by
 have hp:dz [η,ζ 1,ζ 2,ζ 0] [ζ (.int i),ζ (.int q),ζ (.int b')]=[η,ζ (.int q),ζ (.int b'),ζ (.int i)]:=rfl;simp only[eX,ig,bH,bK,gz,gs,bQ,R.aB];rw[if_pos (by omega)]
 simp only[R.aB];rw[if_pos hl,hp,h];rfl
def wY:af:=(aY (aZ (aq (ao 1) au)) [η,ζ 1,ζ 2,ζ 0] (aA 0) aM (av cy (av bu (av bN (ao 2) (ao 3)) (ao 0)) (ao 1)))
def xh:af:=(aY (aZ (aq (ao 1) au)) [η,ζ 0] (aA 0) aM (av mU (ao 1) (ao 0)))
def rP:af:=(aY (aZ (aq (ao 1) au)) [η,ζ 1,ζ 0] (aA 0) aM (av cy (av bu (ao 2) (ao 0)) (ao 1)))
theorem acN{q:Int}{l:List D}{a0 a2 a3 a4 a5 a6:Option D}{c:aa}(b:-4611686018427387904<=q/\q<4611686018427387904) (hl:(aT 0 q).length<Ω) (h:bO (λ_=>True) (aA 0) aM xh (aT 0 q) [η,ζ (.int q)] [] c=.ok l c):(aG 2 (aY (aZ (aq (ao 1) au)) [η,ζ 1] (aA 0) aM xh)) [a0,ζ (.int q),a2,a3,a4,a5,a6] c=.ok (.nx [a0,ζ (.int q),ζ (.lst l),a3,a4,a5,a6]) c:=by
 have hp:dz [η,ζ 1] [a0,ζ (.int q),a2,a3,a4,a5,a6]=[η,ζ (.int q)]:=rfl;simp only[gg,eX,ig,bH,bK,gz,gs,bQ,R.aB];rw[if_pos (by omega)]
 simp only[R.aB];rw[if_pos hl,hp,h];rfl
theorem acq{q:Int}{l:List D}{a0 a2 a3 a4 a5 a6:Option D}{c:aa}(b:-4611686018427387904<=q/\q<4611686018427387904) (hl:(aT 0 q).length<Ω) (h:bO (λ_=>True) (aA 0) aM rP (aT 0 q) [η,ζ (.int q)] [] c=.ok l c):(aG 2 (aY (aZ (aq (ao 1) au)) [η,ζ 1] (aA 0) aM rP)) [a0,ζ (.int q),a2,a3,a4,a5,a6] c=.ok (.nx [a0,ζ (.int q),ζ (.lst l),a3,a4,a5,a6]) c:=by
 have hp:dz [η,ζ 1] [a0,ζ (.int q),a2,a3,a4,a5,a6]=[η,ζ (.int q)]:=rfl;simp only[gg,eX,ig,bH,bK,gz,gs,bQ,R.aB];rw[if_pos (by omega)]
 simp only[R.aB];rw[if_pos hl,hp,h];rfl
theorem acw{q b':Int}{l:List D}{a0 a2 a4 a5 a6:Option D}{c:aa}(b:-4611686018427387904<=q/\q<4611686018427387904) (hl:(aT 0 q).length<Ω) (h:bO (λ_=>True) (aA 0) aM wY (aT 0 q) [η,ζ (.int q),ζ (.int b')] [] c=.ok l c):(aG 2 (aY (aZ (aq (ao 1) au)) [η,ζ 1,ζ 3] (aA 0) aM wY)) [a0,ζ (.int q),a2,ζ (.int b'),a4,a5,a6] c=.ok (.nx [a0,ζ (.int q),ζ (.lst l),ζ (.int b'),a4,a5,a6]) c:=by
 have hp:dz [η,ζ 1,ζ 3] [a0,ζ (.int q),a2,ζ (.int b'),a4,a5,a6]=[η,ζ (.int q),ζ (.int b')]:=rfl;simp only[gg,eX,ig,bH,bK,gz,gs,bQ,R.aB];rw[if_pos (by omega)]
 simp only[R.aB];rw[if_pos hl,hp,h];rfl
theorem acs{q i:Int}{l:List D}{c:aa}(b:-4611686018427387904<=q/\q<4611686018427387904) (hl:(aT 0 q).length<Ω) (h:bO (λ_=>True) (aA 0) aM (av cy (av bu (ao 2) (ao 0)) (ao 1)) (aT 0 q) [η,ζ (.int q),ζ (.int i)] [] c=.ok l c):rP [ζ (.int i),ζ (.int q)] c=.ok (.lst l) c:=by
 have hp:dz [η,ζ 1,ζ 0] [ζ (.int i),ζ (.int q)]=[η,ζ (.int q),ζ (.int i)]:=rfl;unfold rP;simp only[eX,ig,bH,bK,gz,gs,bQ,R.aB];rw[if_pos (by omega)]
 simp only[R.aB];rw[if_pos hl,hp,h];rfl
theorem acu{q b' i k z w:Int}{c:aa}(m1:bN (.int b') (.int i) c=.ok (.int z) c) (m2:cy (.int (z+k)) (.int q) c=.ok (.int w) c):(av cy (av bu (av bN (ao 2) (ao 3)) (ao 0)) (ao 1)) [ζ (.int k),ζ (.int q),ζ (.int b'),ζ (.int i)] c=.ok (.int w) c:=by
 simp only[dX,bK,gz,gs,R.aB,m1,mV,m2]
theorem aco{q i k w:Int}{c:aa}(m2:cy (.int (i+k)) (.int q) c=.ok (.int w) c):(av cy (av bu (ao 2) (ao 0)) (ao 1)) [ζ (.int k),ζ (.int q),ζ (.int i)] c=.ok (.int w) c:=by
 simp only[dX,bK,gz,gs,R.aB,mV,m2]
theorem K8{x q w:Int}(c:aa) (hq:0<q) (h:x % q=w):cy (.int x) (.int q) c=.ok (.int w) c:=by
 rw[jj c hq,h]
theorem Yb{x y w:Int}(c:aa) (h1:-1000<x) (h2:x<1000) (h:x*y=w):bN (.int x) (.int y) c=.ok (.int w) c:=by
 rw[vQ c (by omega) (by omega),h]
theorem acv{n:Nat}(h1:1<=n) (h8:n<8) (c:aa) (b i:Nat) (hb:b<7):wY [ζ (.int (i:Int)),ζ (.int (n:Int)),ζ (.int (b:Int))] c=.ok (.lst (nD (eY n (λi k=>(b*i+k) % n) i))) c:=by
 have hs:=dJ (n:=1000) (by decide)
 have hc:=sV (E:=[ζ (.int (n:Int)),ζ (.int (b:Int)),ζ (.int (i:Int))]) (a:=(av cy (av bu (av bN (ao 2) (ao 3)) (ao 0)) (ao 1))) (n:=n) (c:=c) (λk=>.int ((b*i+k) % n:Nat)) (λk hk =>
  acu (z:=(b:Int)*(i:Int)) (Yb c (by omega) (by omega) rfl) (K8 c (by omega) (by rw[akx,aky,Int.natCast_mul])))
 rw[C8 n (λi k=>(b*i+k) % n)]at hc
 exact acy (by omega) (by rw[d9];omega) hc
theorem acp{n:Nat}(h1:1<=n) (h8:n<8) (c:aa) (i:Nat):rP [ζ (.int (i:Int)),ζ (.int (n:Int))] c=.ok (.lst (nD (eY n (λi k=>(i+k) % n) i))) c:=by
 have hs:=dJ (n:=1000) (by decide)
 have hc:=sV (E:=[ζ (.int (n:Int)),ζ (.int (i:Int))]) (a:=(av cy (av bu (ao 2) (ao 0)) (ao 1))) (n:=n) (c:=c) (λk=>.int ((i+k) % n:Nat)) (λk hk =>
  aco (K8 c (by omega) (by rw[akx,aky])))
 rw[C8 n (λi k=>(i+k) % n)]at hc
 exact acs (by omega) (by rw[d9];omega) hc
theorem acM(i:Nat) (hi:i<4) (c:aa):xh [ζ (.int (i:Int)),ζ (.int ((4:Nat):Int))] c=.ok (.lst (nD (eY 4 mT i))) c:=by
 have hs:=dJ (n:=1000) (by decide)
 have hc:=sV (E:=[ζ (.int (i:Int))]) (a:=(av mU (ao 1) (ao 0))) (n:=4) (c:=c) (λk=>.int (mT i k:Nat)) (λk hk=>by
  have:=OM i hi k hk;simp only[dX,bK,gz,gs,R.aB,OP,this])
 rw[C8 4 mT]at hc;exact acO (by omega) (by rw[d9];omega) hc
theorem E3:∀a b:List Int,PyData.eqvAll (a.map PyData.int) (b.map PyData.int)=decide (a=b)
 |[],[]=>by simp[PyData.eqvAll]
 |[],b::bs=>by simp[PyData.eqvAll]
 |a::as,[]=>by simp[PyData.eqvAll]
 |a::as,b::bs=>by
  rw[af9,af9,PyData.eqvAll,E3 as bs,PyData.eqv]
  by_cases h:a=b
  ·subst h;simp
  ·simp[h]
theorem abE(a:List Int):PyData.depthAll (a.map PyData.int)=0:=by
 induction a with
 |nil=>simp[PyData.depthAll]
 |cons x a ih=>simp[PyData.depthAll,PyData.depth,ih]
theorem Nr:∀ns:List Int,f7 (ns.map D.int)=ζ (ns.map PyData.int)
 |[]=>rfl
 |n::ns=>by
  have:=Nr ns;simp[f7,fK,this]
theorem abv(as bs:List Int) (c:aa):Na (.lst (as.map D.int)) (.lst (bs.map D.int)) c=.ok (.bl (decide (as=bs))) c/\lT (.lst (as.map D.int)) (.lst (bs.map D.int)) c=.ok (.bl (!decide (as=bs))) c:=by
 have h:∀l:List Int,gb c (.lst (l.map D.int))=ζ (.list (l.map PyData.int)):=λl=>by
  show(match f7 (l.map D.int)with|some r=>ζ (PyData.list r)|none=>η)=_
  rw[Nr]
 have dp:∀l:List Int,(PyData.list (l.map PyData.int)).depth<=64:=λl=>by simp[PyData.depth,abE]
 refine⟨?_,?_⟩
 ·unfold Na;rw[h,h];dsimp only;rw[if_pos ⟨dp as,dp bs⟩,PyData.eqv,E3]
 ·unfold lT;rw[h,h];dsimp only;rw[if_pos ⟨dp as,dp bs⟩,PyData.eqv,E3]
def Ar(l:List Nat):List Int:=l.map λk:Nat=>(k:Int)
theorem XX(l:List Nat):nD l=(Ar l).map D.int:=XU l
theorem M5{n:Nat}(h1:1<=n) (r:Nat->Nat->Nat) (c:aa):∀(l:List Nat) (v:Option D) (acc:List D),bO (λ_=>True) (aA 0) aM (av aF (ao 0) (dC (.int 0))) (l.map λi=>.lst (nD (eY n r i))) [v] acc c=.ok (acc++nD (l.map λi=>r i 0)) c
 |[],v,acc=>by simp[nD]
 |i::l,v,acc=>by
  have g1:aA 0 (.lst (nD (eY n r i))) [v] c=.ok [ζ (.lst (nD (eY n r i)))] c:=rfl;have g2:aF (.lst (nD (eY n r i))) (.int 0) c=.ok (.int (r i 0:Nat)) c:=by
   rw[lE,show(0:Int)=((0:Nat):Int)from rfl,gK (v:=.int (r i 0:Nat)) (by simp[nD,eY,agG (show 0<n by omega)])]
  have hE:(av aF (ao 0) (dC (.int 0))) [ζ (.lst (nD (eY n r i)))] c=.ok (.int (r i 0:Nat)) c:=by
   generalize D.lst (nD (eY n r i))=T at *
   simp only[dX,bK,iI,gz,R.aB,g2]
  rw[af9,jQ,g1,R.aB,lD,R.aB,if_pos rfl,hE,R.aB,M5 h1 r c l,agy];rfl
theorem abH{q:Int}{rows:List D}{ns:List Nat}{z:Bool}{a0 a3 a4 a5 a6:Option D}{c:aa}(b:0<q/\q<1000) (hl:rows.length<Ω) (hc:bO (λ_=>True) (aA 0) aM (av aF (ao 0) (dC (.int 0))) rows [η] [] c=.ok (nD ns) c) (hN:jY (nD ns)=ζ ns) (hq:lT (.lst (nD (cQ ns))) (.lst ((iB 0 q).map D.int)) c=.ok (.bl z) c) :
  (aV (av lT (i9 (aq (aY (dG (ao 2)) [η] (aA 0) aM (av aF (ao 0) (dC (.int 0)))) au)) (rH (aq (ao 1) au)))) [a0,ζ (.int q),ζ (.lst rows),a3,a4,a5,a6] c=.ok z c:=by
 have hp:dz [η] [a0,ζ (.int q),ζ (.lst rows),a3,a4,a5,a6]=[η]:=rfl;have hd:dG (ao 2) [a0,ζ (.int q),ζ (.lst rows),a3,a4,a5,a6] c=.ok ⟨rows,λ_=>True⟩ c:=rfl
 have hS:i9 (aq (aY (dG (ao 2)) [η] (aA 0) aM (av aF (ao 0) (dC (.int 0)))) au) [a0,ζ (.int q),ζ (.lst rows),a3,a4,a5,a6] c=.ok (.lst (nD (cQ ns))) c:=by
  unfold i9;simp only[bH,eX,hd,bQ,R.aB];rw[if_pos hl,hp,hc];simp only[R.aB,eZ,hN]
 have hR:rH (aq (ao 1) au) [a0,ζ (.int q),ζ (.lst rows),a3,a4,a5,a6] c=.ok (.lst ((iB 0 q).map D.int)) c:=by
  unfold rH;simp only[bH,bK,gz,gs,bQ,R.aB];rw[if_pos b]
 simp only[BK,dX,hS,hR,R.aB,hq]
theorem cast_inj{a b:List Nat}(h:Ar a=Ar b):a=b:=NU h
theorem Tf(n:Nat):iB 0 (n:Int)=Ar (θ n):=Jk n
theorem XO(A:List Nat) (n:Nat) (c:aa):lT (.lst (nD A)) (.lst ((iB 0 (n:Int)).map D.int)) c=.ok (.bl (!decide (A=θ n))) c:=by
 rw[XX,(abv _ _ c).2,Tf]
 congr 3
 exact decide_eq_decide.mpr ⟨cast_inj,λh=>by rw[h]⟩
theorem abS{j:Nat}{q f x:Int}{a2 a3 a4 a5 a6:Option D}{c c1:aa}(hf:(if q-1>1 then q-1 else 1)=f) (t:bJ [.ref j,.int f] c=.ok (.int x) c1):(aG 3 (av bu (dC (.int 1)) (aC 2 bJ (aq (ao 0) (aq (aO tS (aq (dC (.int 1)) (aq (av cA (ao 1) (dC (.int 1))) au))) au))))) [ζ (.ref j),ζ (.int q),a2,a3,a4,a5,a6] c=.ok (.nx [ζ (.ref j),ζ (.int q),a2,ζ (.int (1+x)),a4,a5,a6]) c1:=by
 simp only[gg,dX,iI,x_call,gh,bH,bK,gz,gs,bQ,R.aB,ya,O0,hf,af0,agj,if_pos,t,mV];rfl
def Ak:ah:=aE (aG 3 (av bu (dC (.int 1)) (aC 2 bJ (aq (ao 0) (aq (aO tS (aq (dC (.int 1)) (aq (av cA (ao 1) (dC (.int 1))) au))) au))))) (aE (aG 2 (aY (aZ (aq (ao 1) au)) [η,ζ 1,ζ 3] (aA 0) aM wY)) (b7 (aV (av lT (i9 (aq (aY (dG (ao 2)) [η] (aA 0) aM (av aF (ao 0) (dC (.int 0)))) au)) (rH (aq (ao 1) au)))) (aG 2 (aY (aZ (aq (ao 1) au)) [η,ζ 1] (aA 0) aM rP)) ck))
theorem Nu{j m n:Nat}{c:aa}(hP:dS j m c) (h1:1<=n) (h8:n<8):∃r v3 c',fy n r/\dS j m c'/\Ak [ζ (.ref j),ζ (.int (n:Int)),η,η,η,η,η] c=.ok (.nx [ζ (.ref j),ζ (.int (n:Int)),ζ (ku n r),v3,η,η,η]) c':=by
 have hs:=dJ (n:=1000) (by decide)
 obtain⟨f,hf⟩:∃f:Int,(if(n:Int)-1>1 then(n:Int)-1 else 1)=f:=⟨_,rfl⟩
 have hf':0<f/\f<=6:=by split at hf<;>omega
 obtain⟨x,c1,x0,x1,P1,t1⟩:=jD (cT:=f) hP hf'.1 (by omega)
 obtain⟨b,hb⟩:=vP (i:=1+x) (by omega)
 have e1:=abS (a2:=η) (a3:=η) (a4:=η) (a5:=η) (a6:=η) hf t1;rw[hb]at e1;have c2:=sV (E:=[ζ (.int (n:Int)),ζ (.int (b:Int))]) (a:=wY) (n:=n) (c:=c1) (λi=>.lst (nD (eY n (λi k=>(b*i+k) % n) i))) (λi _=>acv h1 h8 c1 b i (by omega))
 have e2:=acw (a0:=ζ (.ref j)) (a2:=η) (a4:=η) (a5:=η) (a6:=η) (by omega) (by rw[d9];omega) c2
 have hfc:=M5 h1 (λi k=>(b*i+k) % n) c1 (θ n) η []
 rw[agf]at hfc;have hN:jY (nD ((θ n).map λi=>(b*i+0) % n))=ζ ((θ n).map λi=>(b*i+0) % n):=zA (by
  have:=zx (zw (lG ((θ n).map λi=>(b*i+0) % n))) (λx hx=>lW.mp hx)
  rw[afY,ag0]at this;omega) (λx hx=>by
  obtain⟨i,_,rfl⟩:=afW.mp hx;have:=ah5 (b*i+0) (show 0<n by omega)
  omega)
 have hu:=abH (a0:=ζ (.ref j)) (a3:=ζ (.int (b:Int))) (a4:=η) (a5:=η) (a6:=η) (by omega) (by rw[afY,ag0];omega) hfc hN (XO _ n c1)
 by_cases hk:cQ ((θ n).map λi=>(b*i+0) % n)=θ n
 ·have hL:=YU n h8 b (by omega) hk
  refine⟨λi k=>(b*i+k) % n,ζ (.int (b:Int)),c1,⟨hL.1,hL.2⟩,P1,?_⟩
  unfold Ak;rw[bI e1,bI e2,jz,hu,R.aB,decide_eq_true hk];rfl
 ·have hL:=YT n h8;have c3:=sV (E:=[ζ (.int (n:Int))]) (a:=rP) (n:=n) (c:=c1) (λi=>.lst (nD (eY n (λi k=>(i+k) % n) i))) (λi _=>acp h1 h8 c1 i)
  have e3:=acq (a0:=ζ (.ref j)) (a2:=ζ (.lst ((θ n).map λi=>.lst (nD (eY n (λi k=>(b*i+k) % n) i))))) (a3:=ζ (.int (b:Int))) (a4:=η) (a5:=η) (a6:=η) (by omega) (by rw[d9];omega) c3
  refine⟨λi k=>(i+k) % n,ζ (.int (b:Int)),c1,⟨hL.1,hL.2⟩,P1,?_⟩
  unfold Ak;rw[bI e1,bI e2,jz,hu,R.aB,decide_eq_false hk,if_pos (by decide)]
  exact e3
def wU:ah:=b7 (jr (aV (av cj (ao 1) (dC (.int 4)))) (aV (av cj (aC 2 bJ (aq (ao 0) (aq (dC (.int 2)) au))) (dC (.int 0))))) (aG 2 (aY (aZ (aq (ao 1) au)) [η,ζ 1] (aA 0) aM xh)) Ak
theorem abJ{q:Int}{a0 a2 a3 a4 a5 a6:Option D}{c:aa}(h:¬q=4):(jr (aV (av cj (ao 1) (dC (.int 4)))) (aV (av cj (aC 2 bJ (aq (ao 0) (aq (dC (.int 2)) au))) (dC (.int 0))))) [a0,ζ (.int q),a2,a3,a4,a5,a6] c=.ok Θ c:=by simp[h]
theorem abI{j:Nat}{x:Int}{a2 a3 a4 a5 a6:Option D}{c c1:aa}(t:bJ [.ref j,.int 2] c=.ok (.int x) c1):(jr (aV (av cj (ao 1) (dC (.int 4)))) (aV (av cj (aC 2 bJ (aq (ao 0) (aq (dC (.int 2)) au))) (dC (.int 0))))) [ζ (.ref j),ζ (.int 4),a2,a3,a4,a5,a6] c=.ok (decide (x=0)) c1:=by simp[t]
theorem abN{j m n:Nat}{c:aa}(hP:dS j m c) (h1:1<=n) (h8:n<8):∃r v3 c',fy n r/\dS j m c'/\wU [ζ (.ref j),ζ (.int (n:Int)),η,η,η,η,η] c=.ok (.nx [ζ (.ref j),ζ (.int (n:Int)),ζ (ku n r),v3,η,η,η]) c':=by
 have hs:=dJ (n:=1000) (by decide)
 by_cases h4:(n:Int)=4
 ·have:n=4:=by omega
  subst this;obtain⟨x,c1,x0,x1,P1,t1⟩:=jD (cT:=2) hP (by decide) (by decide)
  have ht:=abI (a2:=η) (a3:=η) (a4:=η) (a5:=η) (a6:=η) t1
  by_cases hx:x=0
  ·have c2:=sV (E:=[ζ (.int ((4:Nat):Int))]) (a:=xh) (n:=4) (c:=c1) (λi=>.lst (nD (eY 4 mT i))) (λi hi=>acM i hi c1)
   have e2:=acN (a0:=ζ (.ref j)) (a2:=η) (a3:=η) (a4:=η) (a5:=η) (a6:=η) (by omega) (by rw[d9];omega) c2
   refine⟨mT,η,c1,⟨Lu.1,Lu.2⟩,P1,?_⟩;unfold wU;rw[jz,show((4:Nat):Int)=4 from rfl,ht,R.aB,decide_eq_true hx,if_pos rfl]
   exact e2
  ·obtain⟨r,v3,c',hL,P',h⟩:=Nu P1 h1 h8;refine⟨r,v3,c',hL,P',?_⟩;unfold wU;rw[jz,show((4:Nat):Int)=4 from rfl,ht,R.aB,decide_eq_false hx,if_neg (by decide)]
   exact h
 ·obtain⟨r,v3,c',hL,P',h⟩:=Nu hP h1 h8;refine⟨r,v3,c',hL,P',?_⟩;unfold wU;rw[jz,abJ h4,R.aB,if_neg (by decide)]
  exact h
theorem vZ{α:Type}{E:List (Option D)}{a:af}{c:aa}(g F:α->D):∀(l:List α) (v:Option D) (acc:List D),(∀x∈l,a (ζ (g x)::E) c=.ok (F x) c)->bO (λ_=>True) (aA 0) aM a (l.map g) (v::E) acc c=.ok (acc++l.map F) c
 |[],v,acc,_=>by simp
 |x::l,v,acc,h=>by
  have h1:aA 0 (g x) (v::E) c=.ok (ζ (g x)::E) c:=rfl;rw[af9,jQ,h1,R.aB,lD,R.aB,if_pos rfl,h x (.head _),R.aB,vZ g F l _ _ (λz hz=>h z (.tail _ hz)),agy]
  rfl
theorem qc(l:List Nat):nD l=l.map λk:Nat=>D.int (k:Int):=by simp[nD]
theorem vC{os:List Nat}{n x:Nat}(h:os.Perm (θ n)) (hx:x∈os):x<n:=afR.mp (h.mem_iff.mp hx)
theorem lO{os:List Nat}{n:Nat}(h:os.Perm (θ n)):os.length=n:=by have:=h.length_eq;simpa using this
theorem D6{α:Type}(os:List Nat) (f:Nat->α):os.map f=(θ os.length).map λi=>f (os.getD i 0):=by
 refine aiv (by simp) λi h1 h2=>?_
 simp[aga];rw[afV (by simpa using h1)]
 rfl
theorem yT{os:List Nat}{n:Nat}(h:os.Perm (θ n)):((θ n).map λi=>os.getD i 0).Perm (θ n):=by
 have:=D6 os id;rw[aiz,lO h]at this;exact(akp this.symm).trans h
theorem Jh{os:List Nat}{n i:Nat}(h:os.Perm (θ n)) (hi:i<n):os.getD i 0<n:=by
 have:=lO h;rw[aga,afV (by omega)]
 exact vC h (agi _)
theorem fy.lt{n:Nat}{r:Nat->Nat->Nat}(h:fy n r) {i k:Nat}(hi:i<n) (hk:k<n):r i k<n:=vC (h.row i hi) (afW.mpr ⟨k,afR.mpr hk,rfl⟩)
theorem fy.rows{n:Nat}{r:Nat->Nat->Nat}(h:fy n r) {os:List Nat}(ho:os.Perm (θ n)):fy n λi k=>r (os.getD i 0) k:=by
 refine⟨λi hi=>h.row _ (Jh ho hi),λk hk=>?_⟩
 have:=(yT ho).map λi=>r i k
 rw[af7]at this;exact this.trans (h.col k hk)
theorem fy.cols{n:Nat}{r:Nat->Nat->Nat}(h:fy n r) {os:List Nat}(ho:os.Perm (θ n)):fy n λi k=>r i (os.getD k 0):=by
 refine⟨λi hi=>?_,λk hk=>h.col _ (Jh ho hk)⟩
 have:=(yT ho).map λk=>r i k
 rw[af7]at this;exact this.trans (h.row i hi)
theorem fy.names{n:Nat}{r:Nat->Nat->Nat}(h:fy n r) {os:List Nat}(ho:os.Perm (θ n)):fy n λi k=>os.getD (r i k) 0:=by
 refine⟨λi hi=>?_,λk hk=>?_⟩
 ·have:=(h.row i hi).map λi=>os.getD i 0
  rw[af7]at this;exact this.trans (yT ho)
 ·have:=(h.col k hk).map λi=>os.getD i 0
  rw[af7]at this;exact this.trans (yT ho)
theorem DI(n:Nat) (s:Nat->Nat->Nat):bX ((θ n).map λi=>D.tup (nD ((θ n).map (s i))))=Δ:=iP.mpr λd hd=>by
 obtain⟨i,_,rfl⟩:=afW.mp hd;rw[Jp];exact tN _
theorem IB{n:Nat}{os:List Nat}{f:Nat->Nat->Nat}(ho:os.length=n):D.tup (os.map λi=>D.tup (nD ((θ n).map (f i))))=cY n λi k=>f (os.getD i 0) k:=by
 unfold cY;rw[D6,ho]
theorem abK{A B:D}{row col k v:Int}{r:D}{c:aa}(h1:aF B (.int row) c=.ok r c) (h2:aF r (.int col) c=.ok (.int k) c) (h3:aF A (.int k) c=.ok (.int v) c):(av aF (ao 1) (av aF (av aF (ao 2) (ao 3)) (ao 0))) [ζ (.int col),ζ A,ζ B,ζ (.int row)] c=.ok (.int v) c:=by
 simp only[dX,bK,gz,gs,R.aB,h1,h2,h3]
theorem abL{A B:D}{cs l:List D}{row:Int}{c:aa}(hl:cs.length<Ω) (h:bO (λ_=>True) (aA 0) aM (av aF (ao 1) (av aF (av aF (ao 2) (ao 3)) (ao 0))) cs [η,ζ A,ζ B,ζ (.int row)] [] c=.ok l c):(aO cP (aq (aY (eG (ao 2)) [η,ζ 1,ζ 3,ζ 0] (aA 0) aM (av aF (ao 1) (av aF (av aF (ao 2) (ao 3)) (ao 0)))) au)) [ζ (.int row),ζ A,ζ (.tup cs),ζ B] c=.ok (.tup l) c:=by
 have hp:dz [η,ζ 1,ζ 3,ζ 0] [ζ (.int row),ζ A,ζ (.tup cs),ζ B]=[η,ζ A,ζ B,ζ (.int row)]:=rfl;have hd:eG (ao 2) [ζ (.int row),ζ A,ζ (.tup cs),ζ B] c=.ok ⟨cs,λ_=>True⟩ c:=rfl
 simp only[gh,bH,eX,hd,bQ,R.aB];rw[if_pos hl,hp,h];rfl
def Al:af:=(aO cP (aq (aY (eG (ao 2)) [η,ζ 1,ζ 3,ζ 0] (aA 0) aM (av aF (ao 1) (av aF (av aF (ao 2) (ao 3)) (ao 0)))) au))
theorem abO{A B C:D}{os l:List D}{a0 a1 a3:Option D}{c:aa}(hl:os.length<Ω) (h:bO (λ_=>True) (aA 0) aM Al os [η,ζ A,ζ C,ζ B] [] c=.ok l c):(aS (aO cP (aq (aY (eG (ao 4)) [η,ζ 5,ζ 6,ζ 2] (aA 0) aM (aO cP (aq (aY (eG (ao 2)) [η,ζ 1,ζ 3,ζ 0] (aA 0) aM (av aF (ao 1) (av aF (av aF (ao 2) (ao 3)) (ao 0)))) au))) au))) [a0,a1,ζ B,a3,ζ (.tup os),ζ A,ζ C] c=.ok (.rt (.tup l)) c:=by
 have hp:dz [η,ζ 5,ζ 6,ζ 2] [a0,a1,ζ B,a3,ζ (.tup os),ζ A,ζ C]=[η,ζ A,ζ C,ζ B]:=rfl;have hd:eG (ao 4) [a0,a1,ζ B,a3,ζ (.tup os),ζ A,ζ C] c=.ok ⟨os,λ_=>True⟩ c:=rfl
 unfold Al at h;simp only[iH,gh,bH,eX,hd,bQ,R.aB];rw[if_pos hl,hp,h];rfl
section
variable {j:Nat}{q:Int}{T:D}{c c':aa}(a2 a3 a4 a5 a6:Option D)
theorem abR(h:gn [.ref j,.int q] c=.ok T c'):(aG 4 (aC 2 gn (aq (ao 0) (aq (ao 1) au)))) [ζ (.ref j),ζ (.int q),a2,a3,a4,a5,a6] c=.ok (.nx [ζ (.ref j),ζ (.int q),a2,a3,ζ T,a5,a6]) c':=by
 simp only[gg,x_call,bH,bK,gz,gs,bQ,R.aB,af0,agj,if_pos,h];rfl
theorem abQ(h:gn [.ref j,.int q] c=.ok T c'):(aG 5 (aC 2 gn (aq (ao 0) (aq (ao 1) au)))) [ζ (.ref j),ζ (.int q),a2,a3,a4,a5,a6] c=.ok (.nx [ζ (.ref j),ζ (.int q),a2,a3,a4,ζ T,a6]) c':=by
 simp only[gg,x_call,bH,bK,gz,gs,bQ,R.aB,af0,agj,if_pos,h];rfl
theorem abP(h:gn [.ref j,.int q] c=.ok T c'):(aG 6 (aC 2 gn (aq (ao 0) (aq (ao 1) au)))) [ζ (.ref j),ζ (.int q),a2,a3,a4,a5,a6] c=.ok (.nx [ζ (.ref j),ζ (.int q),a2,a3,a4,a5,ζ T]) c':=by
 simp only[gg,x_call,bH,bK,gz,gs,bQ,R.aB,af0,agj,if_pos,h];rfl
end
theorem Qx{n:Nat}(r:Nat->Nat->Nat) {i:Nat}(hi:i<n) (c:aa):aF (ku n r) (.int (i:Int)) c=.ok (.lst (nD (eY n r i))) c:=by
 unfold ku;rw[lE,gK (v:=.lst (nD (eY n r i))) (by simp[hi])]
theorem S4{n:Nat}(r:Nat->Nat->Nat) (i:Nat) {k:Nat}(hk:k<n) (c:aa):aF (.lst (nD (eY n r i))) (.int (k:Int)) c=.ok (.int (r i k:Nat)) c:=by
 rw[lE,gK (v:=.int (r i k:Nat)) (by simp[nD,eY,hk])]
theorem VY{os:List Nat}{k:Nat}(hk:k<os.length) (c:aa):aF (.tup (nD os)) (.int (k:Int)) c=.ok (.int (os.getD k 0:Nat)) c:=by
 rw[Ht,gK (v:=.int (os.getD k 0:Nat)) (by simp[nD,hk,aga])]
theorem abM{n:Nat}{r:Nat->Nat->Nat}(hL:fy n r) (h8:n<8) {os ns cs:List Nat}(ho:os.Perm (θ n)) (hn:ns.Perm (θ n)) (hc:cs.Perm (θ n)) (c:aa) :
  bO (λ_=>True) (aA 0) aM Al (nD os) [η,ζ (.tup (nD ns)),ζ (.tup (nD cs)),ζ (ku n r)] [] c=.ok (os.map λi=>D.tup (nD ((θ n).map λk=>ns.getD (r i (cs.getD k 0)) 0))) c:=by
 have hs:=dJ (n:=1000) (by decide)
 have:=vZ (E:=[ζ (.tup (nD ns)),ζ (.tup (nD cs)),ζ (ku n r)]) (a:=Al) (c:=c) (λk:Nat=>D.int (k:Int)) (λi=>D.tup (nD ((θ n).map λk=>ns.getD (r i (cs.getD k 0)) 0))) os η [] (λi hi=>by
  have hin:=vC ho hi;have h2:=vZ (E:=[ζ (.tup (nD ns)),ζ (ku n r),ζ (.int (i:Int))]) (a:=(av aF (ao 1) (av aF (av aF (ao 2) (ao 3)) (ao 0)))) (c:=c) (λk:Nat=>D.int (k:Int)) (λk=>D.int (ns.getD (r i k) 0:Nat)) cs η [] (λk hk=>by
   have hkn:=vC hc hk;have h3:=hL.lt hin hkn;exact abK (Qx r hin c) (S4 r i hkn c) (VY (by rw[lO hn];exact h3) c))
  rw[agf,<-qc]at h2;have e:(cs.map λk=>D.int (ns.getD (r i k) 0:Nat))=nD ((θ n).map λk=>ns.getD (r i (cs.getD k 0)) 0):=by
   rw[D6,lO hc,qc,af7];rfl
  rw[e]at h2;exact abL (by rw[qc,afY,lO hc];omega) h2)
 rw[agf,<-qc]at this;exact this
theorem Nt{j m n:Nat}{c:aa}(hP:dS j m c) (h1:1<=n) (h8:n<8):∃s c',fy n s/\dS j m c'/\qm [.ref j,.int (n:Int)] c=.ok (cY n s) c':=by
 have hs:=dJ (n:=1000) (by decide)
 obtain⟨r,v3,c1,hL,P1,e1⟩:=abN hP h1 h8;obtain⟨os,c2,ho,P2,o2⟩:=Dz P1 h1 (show n<1000 by omega)
 obtain⟨ns,c3,hn,P3,o3⟩:=Dz P2 h1 (show n<1000 by omega)
 obtain⟨cs,c4,hc,P4,o4⟩:=Dz P3 h1 (show n<1000 by omega)
 have e2:=abR (ζ (ku n r)) v3 η η η o2;have e3:=abQ (ζ (ku n r)) v3 (ζ (.tup (nD os))) η η o3;have e4:=abP (ζ (ku n r)) v3 (ζ (.tup (nD os))) (ζ (.tup (nD ns))) η o4;have e5:=abO (a0:=ζ (.ref j)) (a1:=ζ (.int (n:Int))) (a3:=v3) (by rw[qc,afY,lO ho];omega) (abM hL h8 ho hn hc c4)
 refine⟨λi k=>ns.getD (r (os.getD i 0) (cs.getD k 0)) 0,c4,((hL.rows ho).cols hc).names hn,P4,?_⟩
 have hb:A0=aE wU (aE (aG 4 (aC 2 gn (aq (ao 0) (aq (ao 1) au)))) (aE (aG 5 (aC 2 gn (aq (ao 0) (aq (ao 1) au)))) (aE (aG 6 (aC 2 gn (aq (ao 0) (aq (ao 1) au)))) (aS (aO cP (aq (aY (eG (ao 4)) [η,ζ 5,ζ 6,ζ 2] (aA 0) aM (aO cP (aq (aY (eG (ao 2)) [η,ζ 1,ζ 3,ζ 0] (aA 0) aM (av aF (ao 1) (av aF (av aF (ao 2) (ao 3)) (ao 0)))) au))) au)))))):=rfl;have es:dI 7 [D.ref j,.int (n:Int)]=[ζ (.ref j),ζ (.int (n:Int)),η,η,η,η,η]:=rfl;have hq:D.tup (os.map λi=>D.tup (nD ((θ n).map λk=>ns.getD (r i (cs.getD k 0)) 0)))=cY n λi k=>ns.getD (r (os.getD i 0) (cs.getD k 0)) 0:=IB (f:=λi k=>ns.getD (r i (cs.getD k 0)) 0) (lO ho)
 rw[qm,fC,hb,es,bI e1,bI e2,bI e3,bI e4,e5,hq];simp only[R.aB];unfold cY;rw[vq,if_pos (DI n _),ahK (by rw[P4.1,hP.1];exact afQ _)]
theorem Rk{a0 a2:Option D}{c:aa}:(aG 1 (cV (aq (bG (fS [0,1,2,3,4,5])) (aq (bG (fS [1,0,3,2,5,4])) (aq (bG (fS [2,4,0,5,1,3])) (aq (bG (fS [3,5,1,4,0,2])) (aq (bG (fS [4,2,5,0,3,1])) au))))))) [a0,η,a2] c=.ok (.nx [a0,ζ (.ref c.length),a2]) (c++[.lst ((six.take 5).map λl=>D.lst (nD l))]):=by
 simp[six,nD]
theorem Rj{a0 a2:Option D}{c:aa}:(cK (dH (ao 1) (bG (fS [5,3,4,1,2,0])))) [a0,ζ (.ref c.length),a2] (c++[.lst ((six.take 5).map λl=>D.lst (nD l))])=.ok (.nx [a0,ζ (.ref c.length),a2]) (c++[.lst ((six.take 5).map (λl=>D.lst (nD l))++[D.lst (nD [5,3,4,1,2,0])])]):=by
 have h:=uD (dO:=ao 1) (da:=bG (fS [5,3,4,1,2,0])) (e:=[a0,ζ (.ref c.length),a2]) (c:=c) (acc:=(six.take 5).map λl=>D.lst (nD l)) (y:=D.lst (nD [5,3,4,1,2,0])) (by simp) (by simp[nD]) (by simp[nD]) (by simp[six])
 simp only[iS,h,R.aB]
theorem R8:(six.take 5).map (λl=>D.lst (nD l))++[D.lst (nD [5,3,4,1,2,0])]=(θ 6).map λi=>D.lst (nD (eY 6 jE i)):=by
 simp[six,eY,jE,nD,agW]
theorem Ri{j:Nat}{T:D}{a1 a2:Option D}{c c':aa}(h:gn [.ref j,.int 6] c=.ok T c'):(aG 2 (aC 2 gn (aq (ao 0) (aq (dC (.int 6)) au)))) [ζ (.ref j),a1,a2] c=.ok (.nx [ζ (.ref j),a1,ζ T]) c':=by
 simp only[gg,x_call,bH,bK,iI,gz,gs,bQ,R.aB,af0,agj,if_pos,h];rfl
theorem Rg{k:Nat}{i:Int}{l r:List D}{c:aa}(hk:c[k]? = ζ (.lst l)) (hi:cX l i=ζ (.lst r)):(aO cP (aq (av aF (ao 1) (ao 0)) au)) [ζ (.int i),ζ (.ref k)] c=.ok (.tup r) c:=by
 have:aF (.ref k) (.int i) c=.ok (.lst r) c:=by
  unfold aF;dsimp only[fW];rw[hk];dsimp only;rw[hi]
 simp only[gh,bH,dX,bK,gz,gs,bQ,R.aB,this];rfl
theorem Rh{k:Nat}{os l:List D}{a0:Option D}{c:aa}(hl:os.length<Ω) (h:bO (λ_=>True) (aA 0) aM (aO cP (aq (av aF (ao 1) (ao 0)) au)) os [η,ζ (.ref k)] [] c=.ok l c):(aS (aO cP (aq (aY (eG (ao 2)) [η,ζ 1] (aA 0) aM (aO cP (aq (av aF (ao 1) (ao 0)) au))) au))) [a0,ζ (.ref k),ζ (.tup os)] c=.ok (.rt (.tup l)) c:=by
 have hp:dz [η,ζ 1] [a0,ζ (.ref k),ζ (.tup os)]=[η,ζ (.ref k)]:=rfl;have hd:eG (ao 2) [a0,ζ (.ref k),ζ (.tup os)] c=.ok ⟨os,λ_=>True⟩ c:=rfl
 simp only[iH,gh,bH,eX,hd,bQ,R.aB];rw[if_pos hl,hp,h];rfl
theorem Sa{j m:Nat}{c:aa}(hP:dS j m c):∃s c',fy 6 s/\dS j m c'/\l6 [.ref j] c=.ok (cY 6 s) c':=by
 have hs:=dJ (n:=1000) (by decide)
 obtain⟨hl,hj,p,hp⟩:=id hP;have e0:=Rk (a0:=ζ (.ref j)) (a2:=η) (c:=c);have e1:=Rj (a0:=ζ (.ref j)) (a2:=η) (c:=c);rw[R8]at e1;have P0:dS j (c.length+1) (c++[.lst ((θ 6).map λi=>D.lst (nD (eY 6 jE i)))]):=⟨by simp,by omega,p,by rw[agl (by omega)];exact hp⟩
 obtain⟨os,c2,ho,P2,f2,o2⟩:=JR P0 (by decide) (show 6<1000 by decide)
 have g4:c2[c.length]? = ζ (.lst ((θ 6).map λi=>D.lst (nD (eY 6 jE i)))):=by rw[f2 c.length (by omega) (by omega)];simp
 have e2:=Ri (a1:=ζ (.ref c.length)) (a2:=η) o2;have hc:=vZ (E:=[ζ (.ref c.length)]) (a:=(aO cP (aq (av aF (ao 1) (ao 0)) au))) (c:=c2) (λk:Nat=>D.int (k:Int)) (λi=>D.tup (nD (eY 6 jE i))) os η [] (λi hi=>Rg g4 (gK (by simp[vC ho hi])))
 rw[agf,<-qc]at hc;have e3:=Rh (a0:=ζ (.ref j)) (by rw[qc,afY,lO ho];omega) hc
 have hL:fy 6 jE:=⟨Ls.1,Ls.2⟩;obtain⟨g1,g2,p2,g3⟩:=P2;refine⟨λi k=>jE (os.getD i 0) k,c2.take c.length,hL.rows ho,⟨by rw[ag7];omega,hj,p2,by rw[aij (by omega)];exact g3⟩,?_⟩
 have hb:AQ=aE (aG 1 (cV (aq (bG (fS [0,1,2,3,4,5])) (aq (bG (fS [1,0,3,2,5,4])) (aq (bG (fS [2,4,0,5,1,3])) (aq (bG (fS [3,5,1,4,0,2])) (aq (bG (fS [4,2,5,0,3,1])) au))))))) (aE (cK (dH (ao 1) (bG (fS [5,3,4,1,2,0])))) (aE (aG 2 (aC 2 gn (aq (ao 0) (aq (dC (.int 6)) au)))) (aS (aO cP (aq (aY (eG (ao 2)) [η,ζ 1] (aA 0) aM (aO cP (aq (av aF (ao 1) (ao 0)) au))) au))))):=rfl;have es:dI 3 [D.ref j]=[ζ (.ref j),η,η]:=rfl;have hq:D.tup (os.map λi=>D.tup (nD (eY 6 jE i)))=cY 6 λi k=>jE (os.getD i 0) k:=IB (f:=jE) (lO ho)
 rw[l6,fC,hb,es,bI e0,bI e1,bI e2,e3,hq];simp only[R.aB];unfold cY;rw[vq,if_pos (DI 6 _)]
theorem Yr{j:Nat}{T:D}{a0:Option D}{c c1 c2:aa}(t:bJ [.ref j,.int 2] c=.ok (.int 0) c1) (h:l6 [.ref j] c1=.ok T c2):(b7 (jr (aV (av cj (ao 1) (dC (.int 6)))) (aV (av cj (aC 2 bJ (aq (ao 0) (aq (dC (.int 2)) au))) (dC (.int 0))))) (aS (aC 1 l6 (aq (ao 0) au))) ck) [ζ (.ref j),ζ (.int 6)] c=.ok (.rt T) c2:=by
 simp[t,h]
theorem Ys{j:Nat}{x:Int}{c c1:aa}(t:bJ [.ref j,.int 2] c=.ok (.int x) c1) (hx:¬x=0):(b7 (jr (aV (av cj (ao 1) (dC (.int 6)))) (aV (av cj (aC 2 bJ (aq (ao 0) (aq (dC (.int 2)) au))) (dC (.int 0))))) (aS (aC 1 l6 (aq (ao 0) au))) ck) [ζ (.ref j),ζ (.int 6)] c=.ok (.nx [ζ (.ref j),ζ (.int 6)]) c1:=by
 simp[t,hx]
theorem Yt{j:Nat}{q:Int}{c:aa}(hq:¬q=6):(b7 (jr (aV (av cj (ao 1) (dC (.int 6)))) (aV (av cj (aC 2 bJ (aq (ao 0) (aq (dC (.int 2)) au))) (dC (.int 0))))) (aS (aC 1 l6 (aq (ao 0) au))) ck) [ζ (.ref j),ζ (.int q)] c=.ok (.nx [ζ (.ref j),ζ (.int q)]) c:=by
 simp[hq]
theorem Lf{j:Nat}{q:Int}{T:D}{c c':aa}(h:qm [.ref j,.int q] c=.ok T c'):(aS (aC 2 qm (aq (ao 0) (aq (ao 1) au)))) [ζ (.ref j),ζ (.int q)] c=.ok (.rt T) c':=by
 simp[h]
theorem abB{j m n:Nat}{c:aa}(hP:dS j m c) (h1:1<=n) (h8:n<8):∃s c',fy n s/\dS j m c'/\nB [.ref j,.int (n:Int)] c=.ok (cY n s) c':=by
 have hb:AO=aE (b7 (jr (aV (av cj (ao 1) (dC (.int 6)))) (aV (av cj (aC 2 bJ (aq (ao 0) (aq (dC (.int 2)) au))) (dC (.int 0))))) (aS (aC 1 l6 (aq (ao 0) au))) ck) (aS (aC 2 qm (aq (ao 0) (aq (ao 1) au)))):=rfl;have es:dI 2 [D.ref j,.int (n:Int)]=[ζ (.ref j),ζ (.int (n:Int))]:=rfl;have fin:∀{c'}{s:Nat->Nat->Nat},dS j m c'->c9 Θ c.length (cY n s) c'=.ok (cY n s) c':=fun{c' s} P'=>by
  unfold cY;rw[vq,if_pos (DI n _),ahK (by rw[P'.1,hP.1];exact afQ _)]
 by_cases h6:(n:Int)=6
 ·have:n=6:=by omega
  subst this;obtain⟨x,c1,x0,x1,P1,t1⟩:=jD (cT:=2) hP (by decide) (by decide)
  by_cases hx:x=0
  ·subst hx;obtain⟨s,c2,hL,P2,h2⟩:=Sa P1;refine⟨s,c2,hL,P2,?_⟩;have e:=Yr (a0:=η) t1 h2;rw[nB,fC,hb,es,show((6:Nat):Int)=6 from rfl,IS e]
   exact fin P2
  ·obtain⟨s,c2,hL,P2,h2⟩:=Nt P1 h1 h8;refine⟨s,c2,hL,P2,?_⟩;have e:=Ys t1 hx;rw[show((6:Nat):Int)=6 from rfl]at h2
   rw[nB,fC,hb,es,show((6:Nat):Int)=6 from rfl,bI e,Lf h2]
   exact fin P2
 ·obtain⟨s,c2,hL,P2,h2⟩:=Nt hP h1 h8;refine⟨s,c2,hL,P2,?_⟩;rw[nB,fC,hb,es,bI (Yt h6),Lf h2];exact fin P2
end Ev
namespace Fq
def bf(p:Int):Nat->Int->List Int
 |0,_=>[]
 |n+1,x=>x % p::bf p n (x/p)
def c8(p:Int):List Int->Int
 |[]=>0
 |d::r=>c8 p r*p+d % p
def mh:List Int->Int
 |[]=>0
 |[a]=>a
 |_::b::r=>mh (b::r)
def iK(low row:List Int):List Int:=List.zipWith (λb d=>b-mh row*d) (0::row) low
def mulR(low ry:List Int):List Int->List Int
 |[]=>ry.map λ_=>0
 |d::rx=>List.zipWith (λa b=>a+d*b) (iK low (mulR low ry rx)) ry
def iG(p:Int) (n:Nat) (x y:Int):Int:=c8 p (List.zipWith (· + ·) (bf p n x) (bf p n y))
def sE(p:Int) (n:Nat) (x y:Int):Int:=c8 p (List.zipWith (· - ·) (bf p n x) (bf p n y))
def zB(p:Int) (n:Nat) (low x y:Int):Int:=c8 p (mulR (bf p n low) (bf p n y) (bf p n x))
theorem Kr(p:Int):∀r:List Int,c8 p (r.map (· % p))=c8 p r
 |[]=>rfl
 |d::r=>by simp only[af9,c8,Kr p r,ajs _ (ajt p)]
theorem Kq{p:Int}(hp:0<p):∀r:List Int,0<=c8 p r
 |[]=>ajr 0
 |d::r=>by
  have h1:=Kq hp r;have h2:=ag1 d (aju hp);have h3:=Int.mul_nonneg h1 (ajv hp);simp only[c8];omega
theorem Ks{p:Int}(hp:0<p):∀r:List Int,c8 p r<p^r.length
 |[]=>by simp[c8]
 |d::r=>by
  have h1:=Ks hp r;have h2:=ag2 d hp;simp only[c8,af0,aiD];have h3:(c8 p r+1)*p<=p^r.length*p:=Int.mul_le_mul_of_nonneg_right (by omega) (ajv hp)
  have h4:(c8 p r+1)*p=c8 p r*p+p:=by rw[aiE,aiF]
  omega
theorem fP(p:Int):∀(n:Nat) (x:Int),(bf p n x).length=n
 |0,_=>rfl
 |n+1,x=>by simp[bf,fP p n]
theorem Je{p:Int}(hp:0<p):∀r:List Int,bf p r.length (c8 p r)=r.map (· % p)
 |[]=>rfl
 |d::r=>by
  have h1:=ag1 d (aju hp);have h2:=ag2 d hp;have e1:(c8 p r*p+d % p) % p=d % p:=by
   rw[ajw,Int.add_mul_emod_self_right,ajs _ (ajt p)]
  have e2:(c8 p r*p+d % p)/p=c8 p r:=by
   rw[ajw,Int.add_mul_ediv_right _ _ (aju hp),Int.ediv_eq_zero_of_lt h1 h2,ahY]
  simp only[af0,bf,c8,af9,e1,e2,Je hp r]
theorem Jd{p:Int}(hp:0<p) {n:Nat}{r:List Int}(h:r.length=n):bf p n (c8 p r)=r.map (· % p):=by
 subst h;exact Je hp r
theorem Ko{p:Int}(hp:0<p):∀(n:Nat) (x:Int),0<=x->x<p^n->c8 p (bf p n x)=x
 |0,x,h0,h1=>by simp at h1;simp[bf,c8];omega
 |n+1,x,h0,h1=>by
  have h2:0<=x/p:=Int.ediv_nonneg h0 (ajv hp);have h3:x/p<p^n:=by
   rw[aiD]at h1;exact Int.ediv_lt_of_lt_mul hp h1
  simp only[bf,c8,Ko hp n _ h2 h3,ajs _ (ajt p)];rw[Int.mul_comm];exact Int.mul_ediv_add_emod x p
theorem xU{f:Int->Int->Int}{p:Int}{n:Nat}{x y:Int}:(List.zipWith f (bf p n x) (bf p n y)).length=n:=by simp[fP]
section
variable {p:Int}(hp:0<p) {n:Nat}
include hp
theorem adu(x y:Int):0<=iG p n x y:=Kq hp _
theorem adv(x y:Int):iG p n x y<p^n:=by
 have:=Ks hp (List.zipWith (· + ·) (bf p n x) (bf p n y))
 rwa[xU]at this
omit hp in
theorem add_comm(x y:Int):iG p n x y=iG p n y x:=by
 unfold iG;rw[List.zipWith_comm]
 congr 1
 congr 1
 funext a b
 exact ajw ..
omit hp in
theorem LA:∀a b c:List Int,c8 p (List.zipWith (· + ·) ((List.zipWith (· + ·) a b).map (· % p)) c)=c8 p (List.zipWith (· + ·) a ((List.zipWith (· + ·) b c).map (· % p)))
 |[],b,c=>by simp
 |a::as,[],c=>by simp
 |a::as,b::bs,[]=>by simp
 |a::as,b::bs,c::cs=>by
  have ih:=LA as bs cs;simp only[ahs,af9,c8,ih]
  congr 1
  rw[Int.emod_add_emod,Int.add_emod_emod,Int.add_assoc]
theorem add_assoc(x y z:Int):iG p n (iG p n x y) z=iG p n x (iG p n y z):=by
 unfold iG;rw[Jd hp xU,Jd hp xU];exact LA ..
omit hp in
theorem Jb:∀n:Nat,bf p n 0=ι n 0
 |0=>rfl
 |n+1=>by simp only[bf,Int.zero_emod,Int.zero_ediv,Jb n,agO]
omit hp in
theorem Ly:∀a:List Int,c8 p (List.zipWith (· + ·) a (ι a.length 0))=c8 p a
 |[]=>rfl
 |a::as=>by simp only[af0,agO,ahs,c8,Ly as,Int.add_zero]
theorem add_zero(x:Int) (h0:0<=x) (h1:x<p^n):iG p n x 0=x:=by
 unfold iG;have:=Ly (p:=p) (bf p n x);rw[fP]at this;rw[Jb,this,Ko hp n x h0 h1]
omit hp in
theorem Lz:∀a:List Int,c8 p (List.zipWith (· - ·) a a)=0
 |[]=>rfl
 |a::as=>by simp only[ahs,c8,Lz as,Int.sub_self,Int.zero_mul,Int.zero_emod,Int.add_zero]
omit hp in
theorem sub_self(x:Int):sE p n x x=0:=Lz _
end
structure Fd where
 q:Nat
 p:Nat
 n:Nat
 low:Nat
 g:Nat
 E:List Nat
 L:List Nat
def b8:List Fd:=[⟨2,2,1,0,1,[1],[0,0]⟩,
 ⟨3,3,1,0,2,[1,2],[0,0,1]⟩,
 ⟨4,2,2,3,2,[1,2,3],[0,0,1,2]⟩,
 ⟨5,5,1,0,2,[1,2,4,3],[0,0,1,3,2]⟩,
 ⟨7,7,1,0,3,[1,3,2,6,4,5],[0,0,2,1,4,5,3]⟩,
 ⟨9,3,2,1,4,[1,4,6,7,2,8,3,5],[0,0,4,6,1,7,2,3,5]⟩,
 ⟨13,13,1,0,2,[1,2,4,8,3,6,12,11,9,5,10,7],[0,0,1,4,2,9,5,11,3,8,10,7,6]⟩,
 ⟨17,17,1,0,3,[1,3,9,10,13,5,15,11,16,14,8,7,4,12,2,6],[0,0,14,1,12,5,15,11,10,2,3,7,13,4,9,6,8]⟩]
def fm:List Nat->Nat->Nat
 |[],_=>0
 |a::_,0=>a
 |_::l,i+1=>fm l i
def mI(f:Fd) (x y:Nat):Int:=zB f.p f.n f.low x y
def aI(f:Fd) (x y:Nat):Int:=iG f.p f.n x y
def M(f:Fd) (x y:Nat):Nat:=if x=0\/y=0 then 0 else fm f.E ((fm f.L x+fm f.L y) % (f.q-1))
def Mk(f:Fd) (x y:Nat):Nat:=cond (Nat.beq x 0||Nat.beq y 0) 0 (fm f.E ((fm f.L x+fm f.L y) % (f.q-1)))
theorem xO(f:Fd) (x y:Nat):Mk f x y=M f x y:=by
 unfold Mk M
 by_cases h:x=0\/y=0
 ·rw[if_pos h]
  rcases h with h|h<;>subst h<;>simp
 ·rw[if_neg h];rw[not_or]at h;have h1:Nat.beq x 0=Θ:=by cases x with|zero=>exact absurd rfl h.1|succ _=>rfl
  have h2:Nat.beq y 0=Θ:=by cases y with|zero=>exact absurd rfl h.2|succ _=>rfl
  rw[h1,h2];rfl
def Eo(i:Int) (k:Nat):Bool:=match i with
 |.ofNat m=>Nat.beq m k
 |.negSucc _=>Θ
theorem LS{i:Int}{k:Nat}(h:Eo i k=Δ):i=k:=by
 cases i with
 |ofNat m=>have:m=k:=akz h;subst this;rfl
 |negSucc _=>cases h
def acg(f:Fd):Bool:=(θ f.q).all λx=>(θ f.q).all λy=>Eo (mI f x y) (Mk f x y)
def acj(f:Fd):Bool:=(θ f.q).all λx=>(θ f.q).all λy=>Nat.beq (Mk f f.g (aI f x y).toNat) (aI f (Mk f f.g x) (Mk f f.g y)).toNat
def aci(f:Fd):Bool:=(θ (f.q-1)).all λi=>Nat.beq (fm f.L (fm f.E i)) i && !Nat.beq (fm f.E i) 0&&Nat.ble (fm f.E i+1) f.q
def ach(f:Fd):Bool:=(θ f.q).all λx=>Nat.beq x 0||(Nat.beq (fm f.E (fm f.L x)) x&&Nat.ble (fm f.L x+1) (f.q-1))
def NO(f:Fd):Bool:=Nat.ble 2 f.q&&Nat.beq (f.p^f.n) f.q&&Nat.beq (fm f.E 0) 1&&Nat.ble 2 f.p&&Nat.ble f.p 47&&Nat.ble 1 f.n&&Nat.ble f.n 5&&Nat.beq (fm f.E (1 % (f.q-1))) f.g&&Nat.ble (f.low+1) f.q&&Nat.ble 1 f.g&&Nat.ble (f.g+1) f.q
theorem adi:b8.all acg=Δ:=by decide +kernel
theorem adn:b8.all acj=Δ:=by decide +kernel
theorem adm:b8.all aci=Δ:=by decide +kernel
theorem adk:b8.all ach=Δ:=by decide +kernel
theorem adh:b8.all NO=Δ:=by decide +kernel
theorem bl{a b:Nat}(h:Nat.ble a b=Δ):a<=b:=akA h
theorem be{a b:Nat}(h:Nat.beq a b=Δ):a=b:=akz h
structure Is (f:Fd):Prop where
 q2:2<=f.q
 pn:f.p^f.n=f.q
 e0:fm f.E 0=1
 p2:2<=f.p
 gS:f.p<=47
 n1:1<=f.n
 n5:f.n<=5
 eg:fm f.E (1 % (f.q-1))=f.g
 lo:f.low<f.q
 g1:1<=f.g
 gq:f.g<f.q
 le:∀i,i<f.q-1->fm f.L (fm f.E i)=i/\fm f.E i≠0/\fm f.E i<f.q
 el:∀x,x<f.q->x≠0->fm f.E (fm f.L x)=x/\fm f.L x<f.q-1
 mm:∀x y,x<f.q->y<f.q->mI f x y=(M f x y:Nat)
 dd:∀x y,x<f.q->y<f.q->M f f.g (aI f x y).toNat=(aI f (M f f.g x) (M f f.g y)).toNat
theorem fZ{f:Fd}(h:f∈b8):Is f:=by
 have hM:=afX.mp adi f h;have hD:=afX.mp adn f h;have hE:=afX.mp adm f h;have hL:=afX.mp adk f h;have hO:=afX.mp adh f h;simp only[NO,af1]at hO;obtain⟨⟨⟨⟨⟨⟨⟨⟨⟨⟨o1,o2⟩,o3⟩,o4⟩,o5⟩,o6⟩,o7⟩,o8⟩,o9⟩,Xs⟩,Xr⟩:=hO;refine⟨bl o1,be o2,be o3,bl o4,bl o5,bl o6,bl o7,be o8,bl o9,bl Xs,bl Xr,λi hi=>?_,λx hx h0=>?_,λx y hx hy=>?_,λx y hx hy=>?_⟩
 ·have:=afX.mp hE i (afR.mpr hi);simp only[af1,Bool.not_eq_true']at this;exact⟨be this.1.1,λz=>by rw[z]at this;simp at this,bl this.2⟩
 ·have:=afX.mp hL x (afR.mpr hx);simp only[ahp,af1]at this
  rcases this with this|this
  ·exact absurd (be this) h0
  ·exact⟨be this.1,bl this.2⟩
 ·have:=afX.mp (afX.mp hM x (afR.mpr hx)) y (afR.mpr hy);rw[LS this,xO]
 ·have:=afX.mp (afX.mp hD x (afR.mpr hx)) y (afR.mpr hy);have:=be this
  rwa[xO,xO,xO]at this
section
variable {f:Fd}(I:Is f)
include I
theorem Is.pp:(0:Int)<f.p:=by have:=I.p2;omega
theorem Is.pw:((f.p:Int))^f.n=(f.q:Int):=by rw[<-I.pn];simp
theorem adH(x y:Nat):M f x y<f.q:=by
 have:=I.q2;unfold M;split
 ·omega
 ·exact(I.le _ (ah5 _ (by omega))).2.2
end
def P(f:Fd) (x:Nat):Nat->Nat
 |0=>1
 |k+1=>M f (P f x k) x
section
variable {f:Fd}(I:Is f)
include I
theorem adz(x y:Nat):((aI f x y).toNat:Int)=aI f x y/\(aI f x y).toNat<f.q:=by
 have h1:=adu I.pp (n:=f.n) (x:Int) y;have h2:=adv I.pp (n:=f.n) (x:Int) y;rw[I.pw]at h2;unfold aI;omega
end
end Fq
namespace Ev
open PySem L2 Fq
theorem Dc{p:Int}(hp:0<p):∀(n:Nat) (x:Int),∀d∈bf p n x,0<=d/\d<p
 |0,x,d,h=>by cases h
 |n+1,x,d,h=>by
  rcases afT.mp h with rfl|h
  ·exact⟨ag1 _ (by omega),ag2 _ hp⟩
  ·exact Dc hp n _ d h
def zH:ah:=(aE (cK (dH (ao 3) (av cy (ao 0) (ao 1)))) (aG 0 (av gu (ao 0) (ao 1))))
theorem Yu{c:aa}{a2 v4:Option D}{p left:Int}{acc:List D}(hp:0<p) (eO:p<1000) (ha:acc.length<1000):zH [ζ (.int left),ζ (.int p),a2,ζ (.ref c.length),v4] (c++[.lst acc]) =
  .ok (.nx [ζ (.int (left/p)),ζ (.int p),a2,ζ (.ref c.length),v4]) (c++[.lst (acc++[.int (left % p)])]):=by
 have h:=uD (c:=c) (acc:=acc) (y:=.int (left % p)) (dO:=ao 3) (da:=av cy (ao 0) (ao 1)) (e:=[ζ (.int left),ζ (.int p),a2,ζ (.ref c.length),v4]) (by simp) (by simp(disch:=omega) [jj]) rfl (by have:=dJ (n:=1000) (by decide);omega)
 unfold zH;rw[g9,iS,h];simp(disch:=omega) [rF]
theorem Lg{c:aa}{a2:Option D}{p:Int}(hp:0<p) (eO:p<1000):∀(items:List D) (left:Int) (acc:List D) (v4:Option D),acc.length+items.length<1000 ->
  ∃l' v',c7 (λ_=>True) (aA 4) zH items [ζ (.int left),ζ (.int p),a2,ζ (.ref c.length),v4] (c++[.lst acc]) =
   .ok (.nx [ζ (.int l'),ζ (.int p),a2,ζ (.ref c.length),v']) (c++[.lst (acc++(bf p items.length left).map D.int)])
 |[],left,acc,v4,_=>⟨left,v4,by simp[bf]⟩
 |x::xs,left,acc,v4,h=>by
  simp only[af0]at h;obtain⟨l',v',ih⟩:=Lg hp eO xs (left/p) (acc++[.int (left % p)]) (ζ x) (by simp;omega)
  refine⟨l',v',?_⟩;rw[i6];simp only[yd,agQ,ag3,R.aB];rw[Yu hp eO (by omega)]
  simp only[R.aB];rw[ih];simp[bf]
theorem zG{p N x:Int}(hp:0<p) (eO:p<1000) {n:Nat}(hl:(aT 0 N).length=n) (hn:n<1000) (b1:-4611686018427387904<=N/\N<4611686018427387904) (c:aa) :
  gm [.int x,.int p,.int N] c=.ok (.lst ((bf p n x).map D.int)) c:=by
 obtain⟨l',v',hf⟩:=Lg (c:=c) (a2:=ζ (.int N)) (p:=p) hp eO (aT 0 N) x [] η (by rw[hl,agj];omega)
 rw[hl,agf]at hf;unfold zH at hf;simp[gm,AR];rw[if_pos b1];simp only[R.aB];rw[hf];simp[c9,qa]
def dv(q p:Int):Bool:=decide (q % p=0)
def prs:List Int:=[2,3,5,7,11,13,17,19,23,29,31,37,41,43,47]
theorem MZ{α:Type}{P:α->Bool}{p:α}:∀{l:List α},l.find? P=ζ p->∃r,l.filter P=p::r
 |[],h=>by cases h
 |a::l,h=>by
  rw[List.find?_cons]at h;rw[ahu];cases hP:P a with
  |true=>rw[hP]at h;cases h;exact⟨_,if_pos rfl⟩
  |false =>
   rw[hP]at h;obtain⟨r,hr⟩:=MZ (l:=l) h;exact⟨r,by rw[if_neg agd];exact hr⟩
def Af(q:Int):D->Bool
 |.int p=>dv q p
 |_=>Θ
theorem Nh(q:Int):∀l:List Int,((l.map D.int).filter (Af q)).map id=(l.filter (dv q)).map D.int
 |[]=>rfl
 |a::l=>by
  have ih:=Nh q l;have e:Af q (.int a)=dv q a:=rfl;rw[af9,ahu,ahu,e];cases dv q a with
  |true=>rw[if_pos rfl,if_pos rfl,af9,af9,ih];rfl
  |false=>rw[if_neg agd,if_neg agd,ih]
theorem UJ{q:Int}{p:Int}(h:prs.find? (dv q)=ζ p) (c:aa):gY [.int q] c=.ok (.int p) c:=by
 have SN:(15:Nat)<=Ω:=by decide
 have Rc:(15:Nat)<Ω:=by decide
 have hc:=jP (c:=c) (g:=aA 0) (t:=aV (av cj (av cy (ao 1) (ao 0)) (dC (.int 0)))) (a:=ao 0) (λe=>∃v,e=[v,ζ (.int q)]) (Af q) id
  (prs.map D.int) [η,ζ (.int q)] [] ⟨η,rfl⟩ (λx hx e ⟨v,he⟩=>by
   subst he;obtain⟨i,hi,rfl⟩:=afW.mp hx;have i0:0<i:=by
    simp only[prs,afT,af5,or_false]at hi;omega
   refine⟨_,rfl,⟨_,rfl⟩,?_,λ_=>rfl⟩
   have e:cy (.int q) (.int i) c=.ok (.int (q % i)) c:=jj c i0;simp[e,Af,dv])
 obtain⟨r,hr⟩:=MZ h;rw[Nh,hr]at hc;simp only[af9,agf]at hc;have hp:prs.map D.int=[D.int 2,.int 3,.int 5,.int 7,.int 11,.int 13,.int 17,.int 19,.int 23,.int 29,.int 31,.int 37,.int 41,.int 43,.int 47]:=rfl;rw[hp]at hc;simp[-jQ,gY,AU,SN,Rc,dz];rw[hc];simp
theorem UI:(b8.all λf=>(θ f.n).all λk=>prs.find? (dv ((f.p:Int)^(k+1)))==ζ (f.p:Int))=Δ:=by decide +kernel
theorem Ju{f:Fd}(h:f∈b8) {k:Nat}(hk:k<f.n) (c:aa):gY [.int ((f.p:Int)^(k+1))] c=.ok (.int f.p) c:=by
 refine UJ ?_ c;have:=afX.mp (afX.mp UI f h) k (afR.mpr hk)
 simpa using this
theorem Dk{f:Fd}(h:f∈b8) (c:aa):gY [.int f.q] c=.ok (.int f.p) c:=by
 have I:=fZ h;have n1:=I.n1;have:=Ju h (k:=f.n-1) (by omega) c
 rwa[show f.n-1+1=f.n by omega,I.pw]at this
def Ah:ah:=(aE (aG 0 (av gu (ao 0) (aC 1 gY (aq (ao 0) au)))) (aG 1 (av bu (ao 1) (dC (.int 1)))))
theorem Nk{f:Fd}(h:f∈b8) (c:aa):∀(k fuel:Nat) (d:Int),k<=f.n->k<fuel->iu (aV (av jl (ao 0) (dC (.int 1)))) Ah fuel [ζ (.int ((f.p:Int)^k)),ζ (.int d)] c=.ok (.nx [ζ (.int 1),ζ (.int (d+k))]) c
 |0,fuel+1,d,_,_=>by simp[iu]
 |k+1,fuel+1,d,hk,hf=>by
  have I:=fZ h;have p2:=I.p2;have gS:=I.gS;have ih:=Nk h c k fuel (d+1) (by omega) (by omega)
  have hpos:∀j:Nat,(1:Int)<=(f.p:Int)^j:=λj=>by
   have:=Nat.one_le_pow j f.p (by omega)
   have e:((f.p^j:Nat):Int)=(f.p:Int)^j:=by simp
   omega
  have h1:(1:Int)<(f.p:Int)^(k+1):=by
   rw[aiD];have h2:=hpos k;have h3:(f.p:Int)^k*2<=(f.p:Int)^k*f.p:=Int.mul_le_mul_of_nonneg_left (by omega) (by omega)
   omega
  have hd:(f.p:Int)^(k+1)/f.p=(f.p:Int)^k:=by
   rw[aiD];exact Int.mul_ediv_cancel _ (by omega)
  have e:Ah [ζ (.int ((f.p:Int)^(k+1))),ζ (.int d)] c=.ok (.nx [ζ (.int ((f.p:Int)^k)),ζ (.int (d+1))]) c:=by
   have e1:gu (.int ((f.p:Int)^(k+1))) (.int f.p) c=.ok (.int ((f.p:Int)^k)) c:=by rw[rF c (by omega) (by omega),hd]
   simp[Ah,Ju h (show k<f.n by omega),e1]
  have et:aV (av jl (ao 0) (dC (.int 1))) [ζ (.int ((f.p:Int)^(k+1))),ζ (.int d)] c=.ok Δ c:=by simp[h1]
  unfold iu;rw[et];simp only[R.aB,if_pos];rw[e];simp only[R.aB];rw[ih,show d+1+(k:Int)=d+((k+1:Nat):Int) by omega]
theorem Nj{f:Fd}(h:f∈b8) (c:aa):kM [.int f.q] c=.ok (.int f.n) c:=by
 have I:=fZ h;have hl:=Nk h c f.n 10 0 (afQ _) (by have:=I.n5;omega)
 rw[I.pw,ahY]at hl;unfold Ah at hl;simp only[kM,AZ,fC,OR,g9,gg,iI,R.aB,af9,aiU,af0,agj];show R.bind (R.bind (iu _ _ 10 [ζ (.int f.q),ζ (.int 0)] c) _) _=_;rw[hl];simp
def jW(p:Int):List Int->Int
 |[]=>0
 |d::r=>jW p r*p+d
theorem Kw{p:Int}:∀{r:List Int},(∀d∈r,0<=d/\d<p)->jW p r=c8 p r
 |[],_=>rfl
 |d::r,h=>by
  have:=h d agw;rw[jW,c8,Kw λx hx=>h x (agk _ hx),akc this.1 this.2]
theorem Xu(p:Int) (r:List Int):r.reverse.foldl (λn d=>n*p+d) 0=jW p r:=by
 rw[ajx]
 induction r with
 |nil=>rfl
 |cons d r ih=>rw[ajy,ih];rfl
def FE(L:List D->aa->R D):ah:=(aE (aG 2 (dC (.int 0))) (aE (bB (aZ (aq (aO L (aq (ao 0) au)) au)) (aA 3) (aG 2 (av bu (av bN (ao 2) (ao 1)) (av aF (ao 0) (av cA (av cA (aO L (aq (ao 0) au)) (dC (.int 1))) (ao 3)))))) (aS (ao 2))))
theorem acY:AX=FE bA:=rfl
def Ea(L:List D->aa->R D):ah:=(aG 2 (av bu (av bN (ao 2) (ao 1)) (av aF (ao 0) (av cA (av cA (aO L (aq (ao 0) au)) (dC (.int 1))) (ao 3)))))
theorem YB{L:List D->aa->R D}{p N:Int}(hp:0<p) (eO:p<1000) (r:List Int) (hN:N=r.length) (b1:-4611686018427387904<=N/\N<4611686018427387904) {c:aa}(hL:L [.lst (r.map D.int)] c=.ok (.int N) c):bD 4 Θ (FE L) [.lst (r.map D.int),.int p] c=.ok (.int (jW p r)) c:=by
 obtain⟨v',hf⟩:=oh (g:=aA 3) (s:=Ea L) (λ_=>c) (λi v=>[ζ (.lst (r.map D.int)),ζ (.int p),ζ (.int ((r.reverse.take i).foldl (λn d=>n*p+d) 0)),v]) hN η (λi hi v=>by
  refine⟨_,rfl,ζ (.int i),?_⟩;have hr:i<r.reverse.length:=by rw[ai5];exact hi
  have ht:r.reverse.take (i+1)=r.reverse.take i++[r.reverse[i]]:=ah2 hr;have hx:cX (r.map D.int) (N-1-i)=ζ (.int r.reverse[i]):=by
   have hg:(r.map D.int)[r.length-1-i]? = ζ (.int r.reverse[i]):=by
    rw[af6,afV (by omega)]
    simp
   have:=gK (xs:=r.map D.int) (j:=r.length-1-i) (v:=.int r.reverse[i]) hg;rw[show((r.length-1-i:Nat):Int)=N-1-i by omega]at this
   exact this
  rw[ht,aji]
  generalize (r.reverse.take i).foldl (λn d=>n*p+d) 0=w
  generalize r.reverse[i]=z at hx
  have hm:bN (.int w) (.int p) c=.ok (.int (w*p)) c:=mul_r c (by omega) (by omega)
  simp[Ea,hL,hm,hx])
 have e0:(r.reverse.take r.length).foldl (λn d=>n*p+d) 0=jW p r:=by
  rw[ahK (by rw[ai5];exact afQ _),Xu]
 simp only[air,List.foldl_nil]at hf;rw[e0]at hf;unfold Ea at hf;simp[FE,hL];rw[if_pos b1];simp only[R.aB];rw[hf];simp
theorem Ll{p:Int}(hp:0<p) (eO:p<1000) (r:List Int) (hr:r.length<1000) (c:aa):ql [.lst (r.map D.int),.int p] c=.ok (.int (jW p r)) c:=by
 rw[ql,acY];exact YB hp eO r rfl (by omega) (by rw[BJ,afY])
def gJ(l:List Int) (i:Nat):Int:=l.getD i 0
theorem ML{l:List Int}{i:Nat}(h:i<l.length):(l.map D.int)[i]? = ζ (.int (gJ l i)):=by
 rw[af6,afV h];simp[gJ,List.getD,h]
theorem OG(f:Int->Int->Int) {a b:List Int}{n:Nat}(ha:a.length=n) (hb:b.length=n):List.zipWith f a b=(θ n).map λi=>f (gJ a i) (gJ b i):=by
 apply aiv
 ·simp[ha,hb]
 ·intro i h1 h2;simp only[List.getElem_zipWith,akB,ahX];simp at h1;have ia:i<a.length:=by omega
  have ib:i<b.length:=by omega
  simp[gJ,List.getD,ia,ib]
theorem ab5{a b:List Int}{p s N:Int}{n:Nat}(hN:N=n) (hp:0<p) (ha:a.length=n) (hb:b.length=n) (hs:-1000<s/\s<1000) (c:aa) :
  bO (λ_=>True) (aA 0) aM (av cy (av bu (av aF (av aF (ao 3) (dC (.int 0))) (ao 0)) (av bN (ao 2) (av aF (av aF (ao 3) (dC (.int 1))) (ao 0)))) (ao 1)) (aT 0 N) [η,ζ (.int p),ζ (.int s),ζ (.lst [.lst (a.map D.int),.lst (b.map D.int)])] [] c =
   .ok ((List.zipWith (λx y=>(x+s*y) % p) a b).map D.int) c:=by
 have:=jP (c:=c) (g:=aA 0) (t:=aM) (a:=av cy (av bu (av aF (av aF (ao 3) (dC (.int 0))) (ao 0)) (av bN (ao 2) (av aF (av aF (ao 3) (dC (.int 1))) (ao 0)))) (ao 1)) (λe=>∃v,e=[v,ζ (.int p),ζ (.int s),ζ (.lst [.lst (a.map D.int),.lst (b.map D.int)])]) (λ_=>Δ)
  (λd=>match d with|.int i=>.int ((gJ a i.toNat+s*gJ b i.toNat) % p)|d=>d) (aT 0 N) [η,ζ (.int p),ζ (.int s),ζ (.lst [.lst (a.map D.int),.lst (b.map D.int)])] [] ⟨η,rfl⟩ (λx hx e ⟨v,he⟩=>by
   subst he;obtain⟨i,rfl,i0,i1⟩:=qd hx;obtain⟨k,rfl⟩:∃k:Nat,i=k:=⟨i.toNat,by omega⟩
   have h1:cX (a.map D.int) k=ζ (.int (gJ a k)):=gK (ML (by omega))
   have h2:cX (b.map D.int) k=ζ (.int (gJ b k)):=gK (ML (by omega))
   have h3:bN (.int s) (.int (gJ b k)) c=.ok (.int (s*gJ b k)) c:=vQ c (by omega) (by omega)
   have h4:cy (.int (gJ a k+s*gJ b k)) (.int p) c=.ok (.int ((gJ a k+s*gJ b k) % p)) c:=jj c hp;refine⟨_,rfl,⟨_,rfl⟩,rfl,λ_=>?_⟩
   simp[h1,h2,h3,h4])
 rw[this,agf,ajz.mpr λ_ _=>rfl,OG _ ha hb]
 congr 1
 unfold aT;rw[af7,af7,show(N-0).toNat=n by omega]
 apply agp;intro i _;simp
def xE(L:List D->aa->R D):ah:=(aE (aG 4 (aC 1 gY (aq (ao 0) au))) (aE (aG 5 (aC 1 kM (aq (ao 0) au))) (aE (aG 6 (bG (aq (aC 3 gm (aq (ao 1) (aq (ao 4) (aq (ao 5) au)))) (aq (aC 3 gm (aq (ao 2) (aq (ao 4) (aq (ao 5) au)))) au)))) (aS (aC 2 L (aq (aY (aZ (aq (ao 5) au)) [η,ζ 4,ζ 3,ζ 6] (aA 0) aM (av cy (av bu (av aF (av aF (ao 3) (dC (.int 0))) (ao 0)) (av bN (ao 2) (av aF (av aF (ao 3) (dC (.int 1))) (ao 0)))) (ao 1))) (aq (ao 4) au)))))))
theorem acW:AN=xE ql:=rfl
theorem Rw{L:List D->aa->R D}{q x y s p N w:Int}{n:Nat}{a b:List Int}{c:aa}(h1:gY [.int q] c=.ok (.int p) c) (h2:kM [.int q] c=.ok (.int N) c) (h3:gm [.int x,.int p,.int N] c=.ok (.lst (a.map D.int)) c) (h4:gm [.int y,.int p,.int N] c=.ok (.lst (b.map D.int)) c)
  (hN:N=n) (hp:0<p) (ha:a.length=n) (hb:b.length=n) (hs:-1000<s/\s<1000) (b1:-4611686018427387904<=N/\N<4611686018427387904) (hl:(aT 0 N).length<Ω) (hn:L [.lst ((List.zipWith (λx y=>(x+s*y) % p) a b).map D.int),.int p] c=.ok (.int w) c):bD 7 Θ (xE L) [.int q,.int x,.int y,.int s] c=.ok (.int w) c:=by
 have hc:=ab5 (a:=a) (b:=b) (p:=p) (s:=s) hN hp ha hb hs c;have key:xE L [ζ (.int q),ζ (.int x),ζ (.int y),ζ (.int s),η,η,η] c=.ok (.rt (.int w)) c:=by
  simp[xE,h1,h2,h3,h4,dz];rw[if_pos b1];simp only[R.aB];rw[if_pos hl,hc];simp only[R.aB,af0,agj,if_pos,hn]
 rw[fC];show R.bind (xE L [ζ (.int q),ζ (.int x),ζ (.int y),ζ (.int s),η,η,η] c) _=_;rw[key];simp
theorem G6(f:Int->Int->Int) (p:Int):∀a b:List Int,List.zipWith (λx y=>f x y % p) a b=(List.zipWith f a b).map (· % p)
 |[],b=>by simp
 |a::as,[]=>by simp
 |a::as,b::bs=>by rw[ahs,ahs,af9,G6 f p as bs]
theorem Rv{f:Fd}(h:f∈b8) (x y s:Int) (hs:-1000<s/\s<1000) (c:aa):nA [.int f.q,.int x,.int y,.int s] c=.ok (.int (c8 f.p (List.zipWith (λa b=>a+s*b) (bf f.p f.n x) (bf f.p f.n y)))) c:=by
 have I:=fZ h;have p2:=I.p2;have gS:=I.gS;have n5:=I.n5;have hsz:=dJ (n:=1000) (by decide)
 have h1:=λz=>zG (p:=f.p) (N:=f.n) (x:=z) (n:=f.n) (by omega) (by omega) (by rw[d9];omega) (by omega) (by omega) c
 have hn:=Ll (p:=f.p) (by omega) (by omega) (List.zipWith (λa b=>(a+s*b) % (f.p:Int)) (bf f.p f.n x) (bf f.p f.n y)) (by rw[xU];omega) c
 have e:jW f.p (List.zipWith (λa b=>(a+s*b) % (f.p:Int)) (bf f.p f.n x) (bf f.p f.n y))=c8 f.p (List.zipWith (λa b=>a+s*b) (bf f.p f.n x) (bf f.p f.n y)):=by
  rw[G6,Kw,Kr];intro d hd;obtain⟨z,_,rfl⟩:=afW.mp hd;exact⟨ag1 _ (by omega),ag2 _ (by omega)⟩
 rw[e]at hn;rw[nA,acW];exact Rw (n:=f.n) (Dk h c) (Nj h c) (h1 x) (h1 y) rfl (by omega) (fP _ _ _) (fP _ _ _) hs (by omega) (by rw[d9];omega) hn
def gI(l:List Int) (i:Nat):Int:=l.getD i 0
theorem ug{l:List Int}{i:Nat}(h:i<l.length):(l.map D.int)[i]? = ζ (.int (gI l i)):=by
 rw[af6,afV h];simp[gI,List.getD,h]
def kR(p a:Int) (b:List Int) (k:Nat) (F:List Int):Nat->List Int
 |0=>F
 |j+1=>(kR p a b k F j).set (k+j) ((gI (kR p a b k F j) (k+j)+a*gI b j) % p)
def kJ(p:Int) (a b:List Int) (F:List Int):Nat->List Int
 |0=>F
 |k+1=>kR p (gI a k) b k (kJ p a b F k) b.length
def iA(a b:List Int) (p:Int):List Int:=kJ p a b (ι (a.length+b.length-1) 0) a.length
theorem zP{p a:Int}{b:List Int}{k:Nat}{F:List Int}:∀j,(kR p a b k F j).length=F.length
 |0=>rfl
 |j+1=>by rw[kR,aiT,zP j]
theorem zc{p:Int}{a b F:List Int}:∀k,(kJ p a b F k).length=F.length
 |0=>rfl
 |k+1=>by rw[kJ,zP,zc k]
theorem map_set{l:List Int}{i:Nat}{x:Int}:(l.map D.int).set i (.int x)=(l.set i x).map D.int:=by rw[List.map_set]
def in1(a p:Option D):Ev:=[a,p]
def u6:ah:=(gR (av cy (av bu (av aF (ao 3) (av bu (ao 4) (ao 5))) (av bN (av aF (ao 0) (ao 4)) (av aF (ao 1) (ao 5)))) (ao 2)) (mE (ao 3) (av bu (ao 4) (ao 5))))
theorem RN{a b F:List Int}{p:Int}{c:aa}{k j:Nat}(hp:0<p) (hk:k<a.length) (hj:j<b.length) (hF:k+j<F.length) (hs:∀x∈a,0<=x/\x<1000) :
  u6 [ζ (.lst (a.map D.int)),ζ (.lst (b.map D.int)),ζ (.int p),ζ (.ref c.length),ζ (.int k),ζ (.int j)] (c++[.lst (F.map D.int)]) =
   .ok (.nx [ζ (.lst (a.map D.int)),ζ (.lst (b.map D.int)),ζ (.int p),ζ (.ref c.length),ζ (.int k),ζ (.int j)]) (c++[.lst ((F.set (k+j) ((gI F (k+j)+gI a k*gI b j) % p)).map D.int)]):=by
 have h1:=Em (c:=c) (l:=F.map D.int) (i:=(k:Int)+j) (j:=k+j) (d:=.int (gI F (k+j))) (by omega) (ug hF)
 have h2:cX (a.map D.int) k=ζ (.int (gI a k)):=gK (ug hk);have h3:cX (b.map D.int) j=ζ (.int (gI b j)):=gK (ug hj);have hb:0<=gI a k/\gI a k<1000:=hs _ (by simp[gI,List.getD,hk])
 have h4:∀c,bN (.int (gI a k)) (.int (gI b j)) c=.ok (.int (gI a k*gI b j)) c:=λc=>vQ c (by omega) (by omega)
 have h5:=λx=>IP (c:=c) (l:=F.map D.int) (i:=(k:Int)+j) (j:=k+j) (d:=.int x) (by omega) (by simpa using hF) rfl
 have h6:∀x c,cy (.int x) (.int p) c=.ok (.int (x % p)) c:=λx c=>jj c hp
 simp only[u6,ye,dX,bK,gz,gs,R.aB,mV,lE,h1,h2,h3,h4,h6,Hu,h5,map_set]
def yu(L:List D->aa->R D):ah:=(bB (aZ (aq (aO L (aq (ao 1) au)) au)) (aA 5) u6)
theorem RM{L:List D->aa->R D}{a b F:List Int}{p N:Int}{c:aa}{k:Nat}(hp:0<p) (hk:k<a.length) (hF:a.length+b.length-1<=F.length) (hs:∀x∈a,0<=x/\x<1000) (hN:N=b.length) (b1:-4611686018427387904<=N/\N<4611686018427387904) (hL:∀c,L [.lst (b.map D.int)] c=.ok (.int N) c) (v5:Option D) :
  ∃v',yu L [ζ (.lst (a.map D.int)),ζ (.lst (b.map D.int)),ζ (.int p),ζ (.ref c.length),ζ (.int k),v5] (c++[.lst (F.map D.int)]) =
   .ok (.nx [ζ (.lst (a.map D.int)),ζ (.lst (b.map D.int)),ζ (.int p),ζ (.ref c.length),ζ (.int k),v']) (c++[.lst ((kR p (gI a k) b k F b.length).map D.int)]):=by
 obtain⟨v',hf⟩:=oh (g:=aA 5) (s:=u6) (λj=>c++[.lst ((kR p (gI a k) b k F j).map D.int)]) (λ_ v=>[ζ (.lst (a.map D.int)),ζ (.lst (b.map D.int)),ζ (.int p),ζ (.ref c.length),ζ (.int k),v]) hN v5 (λj hj v=>by
  exact⟨_,rfl,_,RN hp hk hj (by rw[zP];omega) hs⟩)
 refine⟨v',?_⟩;simp only[yu,gx,ig,bH,gh,bK,bQ,gz,gs,R.aB,hL];rw[if_pos (by omega)]
 exact hf
def xD(L:List D->aa->R D) (Rp:D->D->aa->R D):ah:=(aE (aG 3 (av Rp (bG (aq (dC (.int 0)) au)) (av cA (av bu (aO L (aq (ao 0) au)) (aO L (aq (ao 1) au))) (dC (.int 1))))) (aE (bB (aZ (aq (aO L (aq (ao 0) au)) au)) (aA 4) (bB (aZ (aq (aO L (aq (ao 1) au)) au)) (aA 5) (gR (av cy (av bu (av aF (ao 3) (av bu (ao 4) (ao 5))) (av bN (av aF (ao 0) (ao 4)) (av aF (ao 1) (ao 5)))) (ao 2)) (mE (ao 3) (av bu (ao 4) (ao 5)))))) (aS (ao 3))))
theorem N9:rR=xD bA kD:=rfl
theorem IE{L:List D->aa->R D}{Rp:D->D->aa->R D}{a b:List Int}{p N M:Int}{c:aa}(hp:0<p) (ha:a≠[]) (hs:∀x∈a,0<=x/\x<1000) (hN:N=b.length) (b1:-4611686018427387904<=N/\N<4611686018427387904) (hL:∀c,L [.lst (b.map D.int)] c=.ok (.int N) c)
  (hM:M=a.length) (b2:-4611686018427387904<=M/\M<4611686018427387904) (zZ:∀c,L [.lst (a.map D.int)] c=.ok (.int M) c) (hR:Rp (.lst [.int 0]) (.int (M+N-1)) c=.ok (.ref c.length) (c++[.lst ((ι (a.length+b.length-1) (0:Int)).map D.int)])) :
  xD L Rp [ζ (.lst (a.map D.int)),ζ (.lst (b.map D.int)),ζ (.int p),η,η,η] c=.ok (.rt (.ref c.length)) (c++[.lst ((iA a b p).map D.int)]):=by
 obtain⟨v',hf⟩:=oh (α:=Option D×Option D) (g:=aA 4) (s:=yu L) (λk=>c++[.lst ((kJ p a b (ι (a.length+b.length-1) 0) k).map D.int)]) (λ_ v=>[ζ (.lst (a.map D.int)),ζ (.lst (b.map D.int)),ζ (.int p),ζ (.ref c.length),v.1,v.2]) hM (η,η) (λk hk v=>by
  obtain⟨w,h⟩:=RM (L:=L) (a:=a) (b:=b) (F:=kJ p a b (ι (a.length+b.length-1) 0) k) (c:=c) (k:=k) hp hk (by rw[zc,aik];exact afQ _) hs hN b1 hL v.2
  exact⟨_,rfl,(ζ (.int k),w),h⟩)
 simp only[xD,g9,gg,dX,yc,bH,iI,bQ,R.aB,gh,bK,gz,gs,hL,zZ,mV,ya];rw[if_pos (by decide)]
 simp only[R.aB,hR,agQ,ag3,gx,ig,bH,gh,bK,bQ,gz,gs,zZ];rw[if_pos (by omega)]
 simp only[R.aB];unfold yu at hf;unfold u6 at hf;simp only[kJ]at hf;rw[hf];rfl
theorem ID{a b:List Int}(h:a.length+b.length<1000) (ha:a≠[]) {M N:Int}(hM:M=a.length) (hN:N=b.length) (c:aa):kD (.lst [.int 0]) (.int (M+N-1)) c=.ok (.ref c.length) (c++[.lst ((ι (a.length+b.length-1) (0:Int)).map D.int)]):=by
 have hl:0<a.length:=akC.mpr ha;have hs:=dJ (n:=1000) (by decide)
 have ht:(M+N-1).toNat=a.length+b.length-1:=by omega
 rw[OT,ht,if_pos ⟨by omega,by omega,by simp only[af0,agj];omega,rfl⟩]
 congr 4
 generalize a.length+b.length-1=n
 induction n with
 |zero=>rfl
 |succ n ih=>rw[agO,ag8,ih];rfl
theorem wg(l:List Int) (c:aa):bA [.lst (l.map D.int)] c=.ok (.int l.length) c:=by rw[BJ,afY]
theorem RL{a b:List Int}{p:Int}(hp:0<p) (ha:a≠[]) (hs:∀x∈a,0<=x/\x<1000) (h:a.length+b.length<1000) (c:aa):lZ [.lst (a.map D.int),.lst (b.map D.int),.int p] c=.ok (.lst ((iA a b p).map D.int)) c:=by
 have:=IE (L:=bA) (Rp:=kD) hp ha hs rfl (by omega) (wg b) rfl (by omega) (wg a) (ID h ha rfl rfl c)
 rw[lZ,N9,fC];show R.bind (xD bA kD [ζ (.lst (a.map D.int)),ζ (.lst (b.map D.int)),ζ (.int p),η,η,η] c) _=_;rw[this];simp[c9]
theorem RK{a b:List Int}{p:Int}(hp:0<p) (ha:a≠[]) (hs:∀x∈a,0<=x/\x<1000) (h:a.length+b.length<1000) (c:aa):tQ [.lst (a.map D.int),.lst (b.map D.int),.int p] c=.ok (.ref c.length) (c++[.lst ((iA a b p).map D.int)]):=by
 have:=IE (L:=bA) (Rp:=kD) hp ha hs rfl (by omega) (wg b) rfl (by omega) (wg a) (ID h ha rfl rfl c)
 rw[tQ,N9,fC];show R.bind (xD bA kD [ζ (.lst (a.map D.int)),ζ (.lst (b.map D.int)),ζ (.int p),η,η,η] c) _=_;rw[this];simp[c9]
def more(p:Nat) (row:List Int):List (List Int):=(θ p).map λd:Nat=>row++[(d:Int)]
def eS(p:Nat):Nat->List (List Int)
 |0=>[[]]
 |i+1=>(eS p i).flatMap (more p)
theorem EY{l:List D}:(l.filter λ_=>Δ)=l:=ajz.mpr λ_ _=>rfl
def LD(L:List (List Int)):List D:=L.map λr=>.lst (r.map D.int)
theorem Oq(a b:List (List Int)):LD (a++b)=LD a++LD b:=by simp[LD]
theorem GW(L:List (List Int)):bX (LD L)=Δ:=iP.mpr λd hd=>by
 obtain⟨r,_,rfl⟩:=afW.mp hd;rw[Jq];exact qa
theorem lA(L:List (List Int)):(LD L).length=L.length:=by simp[LD]
theorem DZ(p:Nat) (r:List Int):(more p r).length=p:=by simp[more]
theorem zU(p:Nat):∀i,(eS p i).length=p^i
 |0=>rfl
 |i+1=>by
  have:∀L:List (List Int),(L.flatMap (more p)).length=L.length*p:=by
   intro L
   induction L with
   |nil=>simp
   |cons a L ih=>rw[ajA,agh,ih,DZ,af0,agJ,ahQ]
  rw[eS,this,zU p i,Nat.pow_succ]
theorem Ib{α β:Type}(f:α->List β) {L:List α}{j:Nat}(h:j<L.length):(L.take (j+1)).flatMap f=(L.take j).flatMap f++f L[j]:=by
 rw[ah2 h,aiG];simp
def zV:ah:=(cK (gV (ao 4) (aY (aZ (aq (ao 1) au)) [η,ζ 5] (aA 0) aM (av fh (ao 1) (bG (aq (ao 0) au))))))
def wD:ah:=(aE (aG 4 (cV au)) (aE (bB (dG (ao 2)) (aA 5) (cK (gV (ao 4) (aY (aZ (aq (ao 1) au)) [η,ζ 5] (aA 0) aM (av fh (ao 1) (bG (aq (ao 0) au))))))) (aG 2 (ao 4))))
theorem ab9{row:List Int}{P:Int}{p:Nat}(hP:P=p) (hr:row.length<1000) (c:aa):bO (λ_=>True) (aA 0) aM (av fh (ao 1) (bG (aq (ao 0) au))) (aT 0 P) [η,ζ (.lst (row.map D.int))] [] c=.ok (LD (more p row)) c:=by
 have hs:=dJ (n:=1000) (by decide)
 have hz:row.length+1<=Ω:=by omega
 have:=jP (c:=c) (g:=aA 0) (t:=aM) (a:=av fh (ao 1) (bG (aq (ao 0) au))) (λe=>∃v,e=[v,ζ (.lst (row.map D.int))]) (λ_=>Δ) (λd=>.lst (row.map D.int++[d]))
  (aT 0 P) [η,ζ (.lst (row.map D.int))] [] ⟨η,rfl⟩ (λx hx e ⟨v,he⟩=>by
   subst he;refine⟨_,rfl,⟨_,rfl⟩,rfl,λ_=>?_⟩
   simp[fh,hz])
 rw[this];subst hP
 congr 1
 unfold aT LD more;simp only[agf,EY,af7];rw[show((p:Int)-0).toNat=p by omega]
 apply agp;intro d _;simp
theorem aam{C:aa}{acc:List D}{P many:Int}{p:Nat}{row:List Int}(hP:P=p) (bP:-4611686018427387904<=P/\P<4611686018427387904) (hp:p<1000) (hr:row.length<1000) (ha:acc.length+p<=1000) (F v3:Option D) :
  zV [ζ (.int many),ζ (.int P),F,v3,ζ (.ref C.length),ζ (.lst (row.map D.int))] (C++[.lst acc])=.ok (.nx [ζ (.int many),ζ (.int P),F,v3,ζ (.ref C.length),ζ (.lst (row.map D.int))]) (C++[.lst (acc++LD (more p row))]):=by
 have hs:=dJ (n:=1000) (by decide)
 have hc:=ab9 (row:=row) hP hr (C++[.lst acc]);have hl:(aT 0 P).length<Ω:=by rw[d9];omega
 have hl2:acc.length+(LD (more p row)).length<=Ω/\bX (LD (more p row))=Δ:=⟨by rw[lA,DZ];omega,GW _⟩
 simp only[zV,iS,gV,bK,gz,gs,R.aB,eX,ig,bH,bQ];rw[if_pos (by omega)]
 simp only[R.aB,dz];rw[if_pos hl];show R.bind (R.bind (R.bind (bO (λ_=>True) (aA 0) aM (av fh (ao 1) (bG (aq (ao 0) au))) (aT 0 P) [η,ζ (.lst (row.map D.int))] [] (C++[.lst acc])) _) _) _=_
 rw[hc];simp only[R.aB,ahZ];rw[if_pos hl2];simp
def hC(c:aa) (p i:Nat):aa:=c++(θ i).map λt=>Cell.lst (LD (eS p (t+1)))
def hF(c:aa) (p i:Nat):D:=match i with
 |0=>.lst (LD (eS p 0))
 |i+1=>.ref (c.length+i)
theorem z5(c:aa) (p i:Nat):(hC c p i).length=c.length+i:=by simp[hC]
theorem MC(c:aa) (p i:Nat):hC c p (i+1)=hC c p i++[.lst (LD (eS p (i+1)))]:=by simp[hC,agW]
theorem MB(c:aa) (p i:Nat) (more:aa) {e:Ev}{k:Nat}(he:e[k]? = ζ (ζ (hF c p i))):∃st:aa->Prop,(∀m,st (hC c p i++m))/\dG (ao k) e (hC c p i++more)=.ok ⟨LD (eS p i),st⟩ (hC c p i++more):=by
 cases i with
 |zero=>exact⟨λ_=>True,λ_=>trivial,by simp only[yb,bK,he];rfl⟩
 |succ i =>
  have hg:∀m:aa,(hC c p (i+1)++m)[c.length+i]? = ζ (.lst (LD (eS p (i+1)))):=λm=>by
   rw[agl (by rw[z5];omega),MC,agD (by rw[z5];exact afQ _),z5,ahh]
   rfl
  refine⟨λc'=>c'[c.length+i]? = ζ (.lst (LD (eS p (i+1)))),hg,?_⟩
  simp only[yb,bK,he,hF,R.aB,hg]
theorem aal{c:aa}{P many:Int}{p i:Nat}(hP:P=p) (bP:-4611686018427387904<=P/\P<4611686018427387904) (hp:p<1000) (hi:p^(i+1)<=1000) (Ew:∀r∈eS p i,r.length<1000) (v3 v4 v5:Option D) :
  ∃w4 w5,wD [ζ (.int many),ζ (.int P),ζ (hF c p i),v3,v4,v5] (hC c p i)=.ok (.nx [ζ (.int many),ζ (.int P),ζ (hF c p (i+1)),v3,w4,w5]) (hC c p (i+1)):=by
 obtain⟨st,hst,hseq⟩:=MB c p i [.lst []] (e:=[ζ (.int many),ζ (.int P),ζ (hF c p i),v3,ζ (.ref (hC c p i).length),v5]) (k:=2) rfl;have hlen:=zU p i;obtain⟨v',hf⟩:=jq (st:=st) (g:=aA 5) (s:=zV) (λj=>hC c p i++[.lst (LD (((eS p i).take j).flatMap (more p)))]) (λ_ v=>[ζ (.int many),ζ (.int P),ζ (hF c p i),v3,ζ (.ref (hC c p i).length),v]) (LD (eS p i)) 0 v5
  (λj _=>hst _) (λj x hx v=>by
   rw[age];have hj:j<(eS p i).length:=by
    have:=(af8.mp hx).1
    rwa[lA]at this
   have hx':x=.lst ((eS p i)[j].map D.int):=by
    have:=(af8.mp hx).2;rw[<-this];simp[LD]
   subst hx';refine⟨_,rfl,ζ (.lst ((eS p i)[j].map D.int)),?_⟩;have hacc:(LD (((eS p i).take j).flatMap (more p))).length+p<=1000:=by
    rw[lA];have:∀L:List (List Int),(L.flatMap (more p)).length=L.length*p:=by
     intro L
     induction L with
     |nil=>simp
     |cons a L ih=>rw[ajA,agh,ih,DZ,af0,agJ,ahQ]
    rw[this,ag7,aiH (by omega)]
    have h2:(j+1)*p<=p^i*p:=aiI p (by omega)
    have h3:p^i*p=p^(i+1):=(Nat.pow_succ ..).symm;rw[h3,agJ]at h2;omega
   have:=aam (C:=hC c p i) (many:=many) (row:=(eS p i)[j]) hP bP hp (Ew _ (agi hj)) hacc (ζ (hF c p i)) v3;rw[Ib _ hj,Oq];exact this)
 rw[lA,age,agV,air]at hf;refine⟨ζ (.ref (hC c p i).length),v',?_⟩;have hF1:hF c p (i+1)=.ref (hC c p i).length:=by rw[z5];rfl
 rw[MC,hF1];simp only[wD,g9,gg,O1,bQ,R.aB];rw[if_pos ⟨by simp,by simp⟩]
 simp only[R.aB,agQ,ag3,gx];rw[hseq];simp only[R.aB];unfold zV at hf;show R.bind (c7 st (aA 5) _ (LD (eS p i)) [ζ (.int many),ζ (.int P),ζ (hF c p i),v3,ζ (.ref (hC c p i).length),v5] (hC c p i++[.lst (LD ([].flatMap (more p)))])) _=_;rw[hf];rfl
def fN(p n:Nat):List (List Int):=(eS p n).map (· ++ [1])
theorem yJ(p:Nat):∀i,∀r∈eS p i,r.length=i
 |0,r,h=>by
  rw[eS,agu]at h;subst h;rfl
 |i+1,r,h=>by
  rw[eS,ajB]at h;obtain⟨r',h1,h2⟩:=h;obtain⟨d,_,rfl⟩:=afW.mp h2;rw[agh,yJ p i r' h1];rfl
theorem Mp{P many:Int}{p n:Nat}(hP:P=p) (hn:many=n) (bP:-4611686018427387904<=P/\P<4611686018427387904) (bn:-4611686018427387904<=many/\many<4611686018427387904) (hp:0<p) (eO:p<1000) (ZT:p^n<1000) (hn':n<100) (c:aa) :
  nE [.int many,.int P] c=.ok (.lst (LD (fN p n))) c:=by
 have hs:=dJ (n:=1000) (by decide)
 obtain⟨v',hf⟩:=oh (α:=Option D×Option D×Option D) (g:=aA 3) (s:=wD) (hC c p) (λi v=>[ζ (.int many),ζ (.int P),ζ (hF c p i),v.1,v.2.1,v.2.2]) hn (η,η,η) (λi hi v=>by
  obtain⟨w4,w5,h⟩:=aal (c:=c) (many:=many) (p:=p) (i:=i) hP bP eO (ag4 (ahb (akD hp hi) ZT)) (λr hr=>by rw[yJ p i r hr];omega) (ζ (.int i)) v.2.1 v.2.2
  exact⟨_,rfl,(ζ (.int i),w4,w5),h⟩)
 obtain⟨st,hst,hseq⟩:=MB c p n [] (e:=[ζ (.int many),ζ (.int P),ζ (hF c p n),v'.1,v'.2.1,v'.2.2]) (k:=2) rfl;rw[agS]at hseq;have ZK:st (hC c p n):=by have:=hst [];rwa[agS]at this
 have hcp:=Fe (c:=hC c p n) st ZK (g:=aA 0) (t:=aM) (a:=av fh (ao 0) (bG (aq (dC (.int 1)) au))) (λe=>∃v,e=[v]) (λ_=>Δ) (λd=>match d with|.lst l=>.lst (l++[.int 1])|d=>d)
  (LD (eS p n)) [η] [] ⟨η,rfl⟩ (λx hx e ⟨v,he⟩=>by
   subst he;obtain⟨r,hr,rfl⟩:=afW.mp hx;have hz:r.length+1<=Ω:=by rw[yJ p n r hr];omega
   refine⟨_,rfl,⟨_,rfl⟩,rfl,λ_=>?_⟩
   simp[fh,hz])
 have hit:(LD (eS p n)).length<Ω:=by rw[lA,zU];omega
 have hres:[]++((LD (eS p n)).filter λ_=>Δ).map (λd=>match d with|.lst l=>D.lst (l++[.int 1])|d=>d)=LD (fN p n):=by
  rw[agf,EY];unfold LD fN;rw[af7,af7];apply agp;intro r _;simp
 rw[hres]at hcp;have hb:uB=aE (aG 2 (bG (aq (bG au) au))) (aE (bB (aZ (aq (ao 0) au)) (aA 3) wD) (aS (aY (dG (ao 2)) [η] (aA 0) aM (av fh (ao 0) (bG (aq (dC (.int 1)) au)))))):=rfl;have hC0:hC c p 0=c:=by simp[hC]
 rw[hC0]at hf;have key:uB [ζ (.int many),ζ (.int P),η,η,η,η] c=.ok (.rt (.lst (LD (fN p n)))) (hC c p n):=by
  rw[hb];simp only[g9,gg,yc,bH,bQ,R.aB];rw[if_pos (by decide)]
  simp only[R.aB];rw[if_pos (by decide)]
  simp only[R.aB,agQ,ag3,gx,ig,bH,bK,bQ,gz];rw[if_pos (by omega)]
  simp only[R.aB];show R.bind (c7 (λ_=>True) (aA 3) wD (aT 0 many) [ζ (.int many),ζ (.int P),ζ (hF c p 0),η,η,η] c) _=_
  rw[hf];simp only[R.aB,iH,eX];rw[hseq];simp only[R.aB];rw[if_pos hit];show R.bind (R.bind (bO st (aA 0) aM (av fh (ao 0) (bG (aq (dC (.int 1)) au))) (LD (eS p n)) [η] [] (hC c p n)) _) _=_;rw[hcp];rfl
 rw[nE,fC];show R.bind (uB [ζ (.int many),ζ (.int P),η,η,η,η] c) _=_;rw[key];simp[GW,hC]
theorem M9:∀a b:List Int,PyData.eqvAll (a.map PyData.int) (b.map PyData.int)=decide (a=b)
 |[],[]=>by simp[PyData.eqvAll]
 |[],b::bs=>by simp[PyData.eqvAll]
 |a::as,[]=>by simp[PyData.eqvAll]
 |a::as,b::bs=>by
  rw[af9,af9,PyData.eqvAll,M9 as bs,PyData.eqv]
  by_cases h:a=b
  ·subst h;simp
  ·simp[h]
theorem abF(a:List Int):PyData.depthAll (a.map PyData.int)=0:=by
 induction a with
 |nil=>simp[PyData.depthAll]
 |cons x a ih=>simp[PyData.depthAll,PyData.depth,ih]
theorem abG(L:List (List Int)):f7 (LD L)=ζ (L.map λr=>PyData.list (r.map PyData.int)):=by
 induction L with
 |nil=>simp[LD]
 |cons r L ih =>
  have ih:f7 (L.map λr=>D.lst (r.map D.int))=ζ (L.map λr=>PyData.list (r.map PyData.int)):=ih
  simp[LD,f7,fK,Nq,ih]
theorem Zt(r:List Int) (L:List (List Int)) (c:aa):inD (.lst (r.map D.int)) (.ref c.length) (c++[.lst (LD L)])=.ok (.bl (decide (r∈L))) (c++[.lst (LD L)]):=by
 unfold inD;have h1:gb (c++[.lst (LD L)]) (.lst (r.map D.int))=ζ (.list (r.map PyData.int)):=by simp[gb,fK,Nq]
 have h2:gb (c++[.lst (LD L)]) (.ref c.length)=ζ (.list (L.map λr=>PyData.list (r.map PyData.int))):=by simp[gb,abG]
 rw[h1,h2];simp only;rw[if_pos (by simp[PyData.depth,abF])]
 congr 2
 clear h1 h2
 induction L with
 |nil=>simp
 |cons a L ih =>
  rw[af9,ah8,ih,PyData.eqv,M9]
  by_cases h:a=r
  ·subst h;simp
  ·have:¬r=a:=λz=>h z.symm
   simp[h,this]
def jF(p n l:Nat) (one:List Int):List (List Int):=(fN p (n-l)).map λother=>iA one other p
def nt(p n l:Nat):List (List Int):=(fN p l).flatMap (jF p n l)
def sW(p n:Nat):List (List Int):=(θ (n/2)).flatMap λl=>nt p n (l+1)
def Aa:ah:=(cK (gV (ao 3) (aY (dG (aC 2 nE (aq (av cA (ao 2) (ao 4)) (aq (ao 1) au)))) [η,ζ 5,ζ 1] (aA 0) aM (aC 3 lZ (aq (ao 1) (aq (ao 0) (aq (ao 2) au)))))))
def wK:ah:=(bB (dG (aC 2 nE (aq (ao 4) (aq (ao 1) au)))) (aA 5) (cK (gV (ao 3) (aY (dG (aC 2 nE (aq (av cA (ao 2) (ao 4)) (aq (ao 1) au)))) [η,ζ 5,ζ 1] (aA 0) aM (aC 3 lZ (aq (ao 1) (aq (ao 0) (aq (ao 2) au))))))))
theorem Mq{p n:Nat}(hp:p<1000) {r:List Int}(h:r∈fN p n):r.length=n+1/\r≠[]/\∀x∈r,0<=x/\x<1000:=by
 obtain⟨t,ht,rfl⟩:=afW.mp h;refine⟨by rw[agh,yJ p n t ht];rfl,by simp,λx hx=>?_⟩
 have gen:∀i,∀r∈eS p i,∀x∈r,0<=x/\x<1000:=by
  intro i
  induction i with
  |zero=>intro r hr x hx;rw[eS,agu]at hr;subst hr;cases hx
  |succ i ih =>
   intro r hr x hx;rw[eS,ajB]at hr;obtain⟨r',h1,h2⟩:=hr;obtain⟨d,hd,rfl⟩:=afW.mp h2
   rcases agC.mp hx with hx|hx
   ·exact ih r' h1 x hx
   ·rw[agu]at hx;subst hx;have:=afR.mp hd;omega
 rcases agC.mp hx with hx|hx
 ·exact gen n t ht x hx
 ·rw[agu]at hx;subst hx;omega
theorem ab7{p k:Nat}{one:List Int}{P:Int}(hP:P=p) (hp:0<p) (eO:p<1000) (hk:k<100) (h1:one≠[]) (h2:∀x∈one,0<=x/\x<1000) (h3:one.length<500) (c:aa) :
  bO (λ_=>True) (aA 0) aM (aC 3 lZ (aq (ao 1) (aq (ao 0) (aq (ao 2) au)))) (LD (fN p k)) [η,ζ (.lst (one.map D.int)),ζ (.int P)] [] c=.ok (LD ((fN p k).map λother=>iA one other p)) c:=by
 have:=jP (c:=c) (g:=aA 0) (t:=aM) (a:=aC 3 lZ (aq (ao 1) (aq (ao 0) (aq (ao 2) au)))) (λe=>∃v,e=[v,ζ (.lst (one.map D.int)),ζ (.int P)]) (λ_=>Δ)
  (λd=>match d with|.lst l=>.lst ((iA one ((jI l).getD []) p).map D.int)|d=>d) (LD (fN p k)) [η,ζ (.lst (one.map D.int)),ζ (.int P)] [] ⟨η,rfl⟩ (λx hx e ⟨v,he⟩=>by
   subst he;obtain⟨r,hr,rfl⟩:=afW.mp hx;have hb:=Mq eO hr;refine⟨_,rfl,⟨_,rfl⟩,rfl,λ_=>?_⟩
   have kT:=RL (a:=one) (b:=r) (p:=P) (by omega) h1 h2 (by omega) c
   subst hP;simp[kT,qz])
 rw[this,agf,EY]
 congr 1
 unfold LD;rw[af7,af7];apply agp;intro r _;simp[qz]
structure Bl (p n:Nat):Prop where
 p0:0<p
 p1:p<1000
 n1:1<n
 n2:n<100
 pw:∀i,i<=n->p^i<1000
theorem Ab{α β:Type}(f:α->List β) (k:Nat):∀L:List α,(∀x∈L,(f x).length=k)->(L.flatMap f).length=L.length*k
 |[],_=>by simp
 |a::L,h=>by
  rw[ajA,agh,Ab f k L λx hx=>h x (agk _ hx),h a agw,af0,agJ,ahQ]
theorem ue(p n:Nat):(fN p n).length=p^n:=by rw[fN,afY,zU]
theorem abf{p n l:Nat}(B:Bl p n) {P N l':Int}(hP:P=p) (hN:N=n) (hl:l'=l) (l1:1<=l) (l2:l<=n) {c:aa}{acc:List (List Int)}{one:List Int}(h1:one≠[]) (h2:∀x∈one,0<=x/\x<1000) (h3:one.length<500) (ha:acc.length+p^(n-l)<=1000) (q v6:Option D) :
  Aa [q,ζ (.int P),ζ (.int N),ζ (.ref c.length),ζ (.int l'),ζ (.lst (one.map D.int)),v6] (c++[.lst (LD acc)]) =
   .ok (.nx [q,ζ (.int P),ζ (.int N),ζ (.ref c.length),ζ (.int l'),ζ (.lst (one.map D.int)),v6]) (c++[.lst (LD (acc++jF p n l one))]):=by
 obtain⟨p0,p1,n1,n2,pw⟩:=B;have hs:=dJ (n:=1000) (by decide)
 have hpl:=pw (n-l) (by omega)
 have hh:=Mp (many:=N-l') (P:=P) (p:=p) (n:=n-l) hP (by omega) (by omega) (by omega) p0 p1 hpl (by omega) (c++[.lst (LD acc)])
 have hc:=ab7 (p:=p) (k:=n-l) (one:=one) hP p0 p1 (by omega) h1 h2 h3 (c++[.lst (LD acc)])
 have hit:(LD (fN p (n-l))).length<Ω:=by rw[lA,ue];omega
 have hl2:(LD acc).length+(LD (jF p n l one)).length<=Ω/\bX (LD (jF p n l one))=Δ:=⟨by
  rw[lA,lA,jF,afY,ue];omega,GW _⟩
 have hsub:∀c:aa,cA (.int N) (.int l') c=.ok (.int (N-l')) c:=λ_=>rfl
 simp only[Aa,iS,gV,bK,gz,gs,R.aB,eX,yb,x_call,bH,dX,hsub,bQ,af0,agj,if_pos,hh];rw[if_pos hit];show R.bind (R.bind (R.bind (bO (λ_=>True) (aA 0) aM (aC 3 lZ (aq (ao 1) (aq (ao 0) (aq (ao 2) au)))) (LD (fN p (n-l))) [η,ζ (.lst (one.map D.int)),ζ (.int P)] [] (c++[.lst (LD acc)])) _) _) _=_
 rw[hc];simp only[R.aB,ahZ];rw[if_pos (show(LD acc).length+(LD ((fN p (n-l)).map λother=>iA one other p)).length<=Ω/\bX (LD ((fN p (n-l)).map λother=>iA one other p))=Δ from hl2)]
 rw[Oq];simp[jF]
theorem abe{p n l:Nat}(B:Bl p n) {P N l':Int}(hP:P=p) (hN:N=n) (hl:l'=l) (l1:1<=l) (l2:l<=n) {c:aa}{acc:List (List Int)}(ha:acc.length+p^n<=1000) (q v5 v6:Option D) :
  ∃w5,wK [q,ζ (.int P),ζ (.int N),ζ (.ref c.length),ζ (.int l'),v5,v6] (c++[.lst (LD acc)])=.ok (.nx [q,ζ (.int P),ζ (.int N),ζ (.ref c.length),ζ (.int l'),w5,v6]) (c++[.lst (LD (acc++nt p n l))]):=by
 obtain⟨p0,p1,n1,n2,pw⟩:=id B;have hh:=Mp (many:=l') (P:=P) (p:=p) (n:=l) hP hl (by omega) (by omega) p0 p1 (pw l l2) (by omega) (c++[.lst (LD acc)])
 obtain⟨v',hf⟩:=jq (st:=λ_=>True) (g:=aA 5) (s:=Aa) (λj=>c++[.lst (LD (acc++((fN p l).take j).flatMap (jF p n l)))]) (λ_ v=>[q,ζ (.int P),ζ (.int N),ζ (.ref c.length),ζ (.int l'),v,v6]) (LD (fN p l)) 0 v5
  (λ_ _=>trivial) (λj x hx v=>by
   rw[age];have hj:j<(fN p l).length:=by
    have:=(af8.mp hx).1
    rwa[lA]at this
   have hx':x=.lst ((fN p l)[j].map D.int):=by
    have:=(af8.mp hx).2;rw[<-this];simp[LD]
   subst hx';have hb:=Mq p1 (agi hj);refine⟨_,rfl,ζ (.lst ((fN p l)[j].map D.int)),?_⟩;have hfl:=Ab (jF p n l) (p^(n-l)) ((fN p l).take j) (λy _=>by rw[jF,afY,ue])
   rw[ag7,aiH (by omega)]at hfl
   have hacc:(acc++((fN p l).take j).flatMap (jF p n l)).length+p^(n-l)<=1000:=by
    rw[agh,hfl];rw[ue]at hj;have h2:(j+1)*p^(n-l)<=p^l*p^(n-l):=aiI _ hj;rw[<-Nat.pow_add,show l+(n-l)=n by omega,agJ]at h2
    omega
   have:=abf (l:=l) B hP hN hl l1 l2 (c:=c) hb.2.1 hb.2.2 (by omega) hacc q v6
   rw[Ib _ hj,<-agy];exact this)
 rw[lA,age,agV]at hf;refine⟨v',?_⟩;simp only[wK,gx,yb,x_call,bH,bK,gz,gs,R.aB,bQ,af0,agj,if_pos,hh];unfold Aa at hf;have e0:acc++([]:List (List Int)).flatMap (jF p n l)=acc:=by simp
 rw[air,e0]at hf;exact hf
theorem UB(p n:Nat) (h:∀l,1<=l->l<=n->(nt p n l).length=p^n):∀i,i<=n->((θ i).flatMap λl=>nt p n (l+1)).length=i*p^n:=λi hi=>by
 rw[Ab _ (p^n) (θ i) λx hx=>h (x+1) (by omega) (by have:=afR.mp hx;omega),ag0]
theorem UC(p n l:Nat) (h:l<=n):(nt p n l).length=p^n:=by
 rw[nt,Ab _ (p^(n-l)) _ λx _=>by rw[jF,afY,ue],ue,<-Nat.pow_add,show l+(n-l)=n by omega]
theorem abd{p n:Nat}(B:Bl p n) (hb:(n/2)*p^n<=1000) {P N:Int}(hP:P=p) (hN:N=n) (c:aa) (q v6:Option D) :
  ∃w4 w5,c7 (λ_=>True) (aA 4) wK (aT 1 (N/2+1)) [q,ζ (.int P),ζ (.int N),ζ (.ref c.length),η,η,v6] (c++[.lst []])=.ok (.nx [q,ζ (.int P),ζ (.int N),ζ (.ref c.length),w4,w5,v6]) (c++[.lst (LD (sW p n))]):=by
 have n1:=B.n1;have hl:(aT 1 (N/2+1)).length=n/2:=by rw[d9];omega
 obtain⟨v',hf⟩:=jq (α:=Option D×Option D) (st:=λ_=>True) (g:=aA 4) (s:=wK) (λi=>c++[.lst (LD ((θ i).flatMap λl=>nt p n (l+1)))]) (λ_ v=>[q,ζ (.int P),ζ (.int N),ζ (.ref c.length),v.1,v.2,v6]) (aT 1 (N/2+1)) 0 (η,η)
  (λ_ _=>trivial) (λi x hx v=>by
   rw[age];obtain⟨h1,rfl⟩:=nj hx;have hi:i<n/2:=by omega
   have hacc:((θ i).flatMap λl=>nt p n (l+1)).length+p^n<=1000:=by
    rw[UB p n (λl _ h=>UC p n l h) i (by omega)]
    have h2:(i+1)*p^n<=(n/2)*p^n:=aiI _ hi;rw[agJ]at h2;omega
   obtain⟨w,h⟩:=abe (l:=i+1) (l':=1+(i:Int)) B hP hN (by omega) (by omega) (by omega) (c:=c) hacc q v.2 v6
   refine⟨_,rfl,(ζ (.int (1+(i:Int))),w),?_⟩;rw[agW,aiG]
   simpa using h)
 rw[hl,age]at hf;exact⟨v'.1,v'.2,hf⟩
def z9:ai:=(aV (av inD (av fh (aC 3 gm (aq (ao 6) (aq (ao 1) (aq (ao 2) au)))) (bG (aq (dC (.int 1)) au))) (ao 3)))
theorem MX{p n:Nat}{P N:Int}(hP:P=p) (hN:N=n) (hp:0<p) (eO:p<1000) (hn:n<100) {t:Int}{c:aa}{L:List (List Int)}(q v4 v5:Option D) :
  z9 [q,ζ (.int P),ζ (.int N),ζ (.ref c.length),v4,v5,ζ (.int t)] (c++[.lst (LD L)])=.ok (decide (bf P n t++[1]∈L)) (c++[.lst (LD L)]):=by
 have hs:=dJ (n:=1000) (by decide)
 have hr:=zG (p:=P) (N:=N) (x:=t) (n:=n) (by omega) (by omega) (by rw[d9];omega) (by omega) (by omega) (c++[.lst (LD L)])
 have hz:(bf P n t).length+1<=Ω:=by rw[fP];omega
 have hi:=Zt (bf P n t++[1]) L c;rw[agK]at hi;simp[z9,hr,fh,hz];simp at hi;rw[hi];rfl
theorem MW{p n:Nat}{P N:Int}(hP:P=p) (hN:N=n) (hp:0<p) (eO:p<1000) (hn:n<100) {c:aa}{L:List (List Int)}{low:Nat}(h1:∀t,t<low->bf P n t++[1]∈L) (h2:bf P n low++[1]∉L) (q v4 v5:Option D):∀(k fuel t:Nat),t+k=low->k<fuel ->
  iu z9 (aG 6 (av bu (ao 6) (dC (.int 1)))) fuel [q,ζ (.int P),ζ (.int N),ζ (.ref c.length),v4,v5,ζ (.int t)] (c++[.lst (LD L)])=.ok (.nx [q,ζ (.int P),ζ (.int N),ζ (.ref c.length),v4,v5,ζ (.int low)]) (c++[.lst (LD L)])
 |0,fuel+1,t,e,_=>by
  have e:t=low:=by omega
  subst e;unfold iu;rw[MX hP hN hp eO hn,decide_eq_false h2];rfl
 |k+1,fuel+1,t,e,hf=>by
  have ih:=MW (c:=c) hP hN hp eO hn h1 h2 q v4 v5 k fuel (t+1) (by omega) (by omega)
  unfold iu;rw[MX hP hN hp eO hn,decide_eq_true (h1 t (by omega))]
  simp only[R.aB,if_pos];have es:(aG 6 (av bu (ao 6) (dC (.int 1)))) [q,ζ (.int P),ζ (.int N),ζ (.ref c.length),v4,v5,ζ (.int t)] (c++[.lst (LD L)])=.ok (.nx [q,ζ (.int P),ζ (.int N),ζ (.ref c.length),v4,v5,ζ (.int ((t+1:Nat):Int))]) (c++[.lst (LD L)]):=by simp
  rw[es];exact ih
def fR(f:Fd):List Int:=if f.n=1 then[0,1]else bf f.p f.n f.low++[1]
def NP(f:Fd):Bool:=Nat.beq f.n 1||((θ f.low).all λt=>(sW f.p f.n).any λr=>decide (r=bf f.p f.n t++[1]))&&((sW f.p f.n).all λr=>decide (¬r=bf f.p f.n f.low++[1]))&&Nat.ble ((f.n/2)*f.p^f.n) 1000&&Nat.ble (f.low+1) 60
theorem adl:b8.all NP=Δ:=by decide +kernel
def bF(G W:ah):ah:=(aE (aG 1 (aC 1 gY (aq (ao 0) au))) (aE (aG 2 (aC 1 kM (aq (ao 0) au))) (aE (b7 (aV (av cj (ao 2) (dC (.int 1)))) (aS (bG (aq (dC (.int 0)) (aq (dC (.int 1)) au)))) ck) (aE (aG 3 (cV au)) (aE (bB (gG (aq (dC (.int 1)) (aq (av bu (av gu (ao 2) (dC (.int 2))) (dC (.int 1))) au))) (aA 4) G) (aE (aG 6 (dC (.int 0))) (aE W (aS (av fh (aC 3 gm (aq (ao 6) (aq (ao 1) (aq (ao 2) au)))) (bG (aq (dC (.int 1)) au)))))))))))
theorem ac0:AY=bF wK (iu z9 (aG 6 (av bu (ao 6) (dC (.int 1)))) 60):=rfl
theorem aa8{G W:ah}{q P N low:Int}{w4 w5:Option D}{c:aa}{C:aa}{row:List D}{bV:List Int}(hq:-4611686018427387904<=N/2+1/\N/2+1<4611686018427387904) (hn1:¬N=1) (hp:gY [.int q] c=.ok (.int P) c) (hd:kM [.int q] c=.ok (.int N) c) (hrl:row.length+1<1000)
  (hl:c7 (λ_=>True) (aA 4) G (aT 1 (N/2+1)) [ζ (.int q),ζ (.int P),ζ (.int N),ζ (.ref c.length),η,η,η] (c++[.lst []])=.ok (.nx [ζ (.int q),ζ (.int P),ζ (.int N),ζ (.ref c.length),w4,w5,η]) (c++C))
  (hw:W [ζ (.int q),ζ (.int P),ζ (.int N),ζ (.ref c.length),w4,w5,ζ (.int 0)] (c++C)=.ok (.nx [ζ (.int q),ζ (.int P),ζ (.int N),ζ (.ref c.length),w4,w5,ζ (.int low)]) (c++C))
  (hr:gm [.int low,.int P,.int N] (c++C)=.ok (.lst row) (c++C)) (he:bV.map D.int=row++[.int 1]):bD 7 Θ (bF G W) [.int q] c=.ok (.lst (bV.map D.int)) c:=by
 have hs:=dJ (n:=1000) (by decide)
 have EI:gu (.int N) (.int 2) (c++[.lst []])=.ok (.int (N/2)) (c++[.lst []]):=rF _ (by decide) (by decide)
 have hz:row.length+1<=Ω:=by omega
 have href:bX (row++[.int 1])=Δ:=by rw[<-he];exact qa
 have key:bF G W [ζ (.int q),η,η,η,η,η,η] c=.ok (.rt (.lst (row++[.int 1]))) (c++C):=by
  simp[bF,hp,hd,hn1,EI];rw[if_pos (by omega)]
  simp only[R.aB];rw[hl];simp[hw,hr,fh,hz]
 rw[fC];show R.bind (bF G W [ζ (.int q),η,η,η,η,η,η] c) _=_;rw[key,he];simp[href]
theorem aa5{G W:ah}{q P:Int}{c:aa}(hp:gY [.int q] c=.ok (.int P) c) (hd:kM [.int q] c=.ok (.int 1) c):bD 7 Θ (bF G W) [.int q] c=.ok (.lst [.int 0,.int 1]) c:=by
 simp[bF,hp,hd]
theorem aa6{f:Fd}(h:f∈b8) (c:aa):t6 [.int f.q] c=.ok (.lst ((fR f).map D.int)) c:=by
 have I:=fZ h;have p2:=I.p2;have gS:=I.gS;have n1:=I.n1;have n5:=I.n5;have hF:=afX.mp adl f h;have hp:=Dk h c;have hd:=Nj h c;rw[t6,ac0]
 by_cases hn:f.n=1
 ·have e:fR f=[0,1]:=if_pos hn;rw[e];exact aa5 hp (by rw[hd,hn];rfl)
 ·have e:fR f=bf f.p f.n f.low++[1]:=if_neg hn;have hn0:Nat.beq f.n 1=Θ:=by
   cases hq:Nat.beq f.n 1 with
   |false=>rfl
   |true=>exact absurd (be hq) hn
  simp only[NP,hn0,ajC,af1]at hF;obtain⟨⟨⟨f1,f2⟩,f3⟩,f4⟩:=hF;have g1:∀t,t<f.low->bf (f.p:Int) f.n t++[1]∈sW f.p f.n:=λt ht=>by
   have:=afX.mp f1 t (afR.mpr ht);obtain⟨r,hr,he⟩:=aha.mp this;rw[<-of_decide_eq_true he];exact hr
  have g2:bf (f.p:Int) f.n f.low++[1]∉sW f.p f.n:=λhm=>by
   have:=afX.mp f2 _ hm;simp at this
  have hq:f.q<1000:=by
   have:(b8.all λf=>decide (f.q<1000))=Δ:=by decide +kernel
   simpa using afX.mp this f h
  have B:Bl f.p f.n:=⟨by omega,by omega,by omega,by omega,λi hi=>by
   have:=akD (n:=f.p) (by omega) hi
   rw[I.pn]at this;omega⟩
  obtain⟨w4,w5,hl⟩:=abd (P:=f.p) (N:=f.n) B (bl f3) rfl rfl c (ζ (.int f.q)) η;have hw:=MW (P:=f.p) (N:=f.n) (p:=f.p) (n:=f.n) rfl rfl (by omega) (by omega) (by omega) (c:=c) g1 g2 (ζ (.int f.q)) w4 w5 f.low 60 0 (by omega) (bl f4)
  have hr:=zG (p:=f.p) (N:=f.n) (x:=f.low) (n:=f.n) (by omega) (by omega) (by rw[d9];omega) (by omega) (by omega) (c++[.lst (LD (sW f.p f.n))])
  exact aa8 (by omega) (by omega) hp hd (by rw[afY,fP];omega) hl hw hr (by rw[e,agK];rfl)
def lN(p gT:Int) (bV:List Int) (base:Nat) (F:List Int):Nat->List Int
 |0=>F
 |k+1=>(lN p gT bV base F k).set (base+k) ((gI (lN p gT bV base F k) (base+k)-gT*gI bV k) % p)
def iW(p:Int) (bV:List Int) (n:Nat) (F:List Int):Nat->List Int
 |0=>F
 |i+1=>lN p (gI (iW p bV n F i) (2*n-2-i)) bV (2*n-2-i-n) (iW p bV n F i) (n+1)
def sX(p:Int) (n:Nat) (bV:List Int) (x y:Int):Int:=jW p ((iW p bV n (iA (bf p n x) (bf p n y) p) (n-1)).take n)
theorem yP{p gT:Int}{bV:List Int}{base:Nat}{F:List Int}:∀k,(lN p gT bV base F k).length=F.length
 |0=>rfl
 |k+1=>by rw[lN,aiT,yP k]
theorem yO{p:Int}{bV:List Int}{n:Nat}{F:List Int}:∀i,(iW p bV n F i).length=F.length
 |0=>rfl
 |i+1=>by rw[iW,yP,yO i]
theorem Ip(a b:List Int) (p:Int):(iA a b p).length=a.length+b.length-1:=by rw[iA,zc,aik]
def za:ah:=(aE (aG 10 (av bu (av cA (ao 7) (ao 5)) (ao 9))) (gR (av cy (av cA (av aF (ao 6) (ao 10)) (av bN (ao 8) (av aF (ao 1) (ao 9)))) (ao 4)) (mE (ao 6) (ao 10))))
theorem VO{bV F:List Int}{p gT N place:Int}{c:aa}{base k n:Nat}(hp:0<p) (hN:N=n) (hpl:place=(base:Int)+n) (hk:k<bV.length) (hF:base+k<F.length) (hs:∀x∈bV,0<=x/\x<1000) (q a2 a3 v10:Option D) :
  za [q,ζ (.lst (bV.map D.int)),a2,a3,ζ (.int p),ζ (.int N),ζ (.ref c.length),ζ (.int place),ζ (.int gT),ζ (.int k),v10] (c++[.lst (F.map D.int)]) =
   .ok (.nx [q,ζ (.lst (bV.map D.int)),a2,a3,ζ (.int p),ζ (.int N),ζ (.ref c.length),ζ (.int place),ζ (.int gT),ζ (.int k),ζ (.int (place-N+k))]) (c++[.lst ((F.set (base+k) ((gI F (base+k)-gT*gI bV k) % p)).map D.int)]):=by
 have h1:=Em (c:=c) (l:=F.map D.int) (i:=place-N+k) (j:=base+k) (d:=.int (gI F (base+k))) (by omega) (ug hF)
 have h2:cX (bV.map D.int) k=ζ (.int (gI bV k)):=gK (ug hk);have hb:0<=gI bV k/\gI bV k<1000:=hs _ (by simp[gI,List.getD,hk])
 have h4:∀c,bN (.int gT) (.int (gI bV k)) c=.ok (.int (gT*gI bV k)) c:=λc=>mul_r c (by omega) (by omega)
 have h5:=λx=>IP (c:=c) (l:=F.map D.int) (i:=place-N+k) (j:=base+k) (d:=.int x) (by omega) (by simpa using hF) rfl
 have h6:∀x c,cy (.int x) (.int p) c=.ok (.int (x % p)) c:=λx c=>jj c hp
 simp only[za,g9,gg,ye,dX,bK,gz,gs,R.aB,mV,ya,agQ,ag3,lE,h1,h2,h4,h6,Hu,h5,map_set]
def y9:ah:=(aE (aG 8 (av aF (ao 6) (ao 7))) (bB (aZ (aq (av bu (ao 5) (dC (.int 1))) au)) (aA 9) (aE (aG 10 (av bu (av cA (ao 7) (ao 5)) (ao 9))) (gR (av cy (av cA (av aF (ao 6) (ao 10)) (av bN (ao 8) (av aF (ao 1) (ao 9)))) (ao 4)) (mE (ao 6) (ao 10))))))
theorem VN{bV F:List Int}{p N place:Int}{c:aa}{base n:Nat}(hp:0<p) (hN:N=n) (b1:-4611686018427387904<=N+1/\N+1<4611686018427387904) (hpl:place=(base:Int)+n) (hk:bV.length=n+1) (hF:base+n<F.length) (hs:∀x∈bV,0<=x/\x<1000) (q a2 a3 v8 v9 v10:Option D) :
  ∃w8 w9 iJ,y9 [q,ζ (.lst (bV.map D.int)),a2,a3,ζ (.int p),ζ (.int N),ζ (.ref c.length),ζ (.int place),v8,v9,v10] (c++[.lst (F.map D.int)]) =
   .ok (.nx [q,ζ (.lst (bV.map D.int)),a2,a3,ζ (.int p),ζ (.int N),ζ (.ref c.length),ζ (.int place),w8,w9,iJ]) (c++[.lst ((lN p (gI F (base+n)) bV base F (n+1)).map D.int)]):=by
 have h1:=Em (c:=c) (l:=F.map D.int) (i:=place) (j:=base+n) (d:=.int (gI F (base+n))) (by omega) (ug hF)
 obtain⟨v',hf⟩:=oh (α:=Option D×Option D) (g:=aA 9) (s:=za) (N:=N+1) (n:=n+1) (λk=>c++[.lst ((lN p (gI F (base+n)) bV base F k).map D.int)]) (λ_ v=>[q,ζ (.lst (bV.map D.int)),a2,a3,ζ (.int p),ζ (.int N),ζ (.ref c.length),ζ (.int place),ζ (.int (gI F (base+n))),v.1,v.2]) (by omega) (v9,v10) (λk hk' v=>by
  exact⟨_,rfl,(ζ (.int k),_),VO hp hN hpl (by omega) (by rw[yP];omega) hs q a2 a3 v.2⟩)
 refine⟨ζ (.int (gI F (base+n))),v'.1,v'.2,?_⟩;simp only[y9,g9,gg,dX,bK,gz,gs,R.aB,h1,agQ,ag3,gx,ig,bH,iI,mV,bQ];rw[if_pos (by omega)]
 unfold za at hf;exact hf
theorem YG(l:List Int) (c:aa):bA [.ref c.length] (c++[.lst (l.map D.int)])=.ok (.int l.length) (c++[.lst (l.map D.int)]):=by
 unfold bA;simp[fW]
def xF(L:List D->aa->R D) (S:Ev->aa->R Src) (Rt:ah) (G:ah):ah:=(aE (aG 4 (aC 1 gY (aq (ao 0) au))) (aE (aG 5 (av cA (aO L (aq (ao 1) au)) (dC (.int 1)))) (aE (aG 6 (aC 3 tQ (aq (aC 3 gm (aq (ao 2) (aq (ao 4) (aq (ao 5) au)))) (aq (aC 3 gm (aq (ao 3) (aq (ao 4) (aq (ao 5) au)))) (aq (ao 4) au))))) (aE (bB S (aA 7) G) Rt))))
theorem acX:AS=xF bA (uw (aq (av cA (aO bA (aq (ao 6) au)) (dC (.int 1))) (aq (av cA (ao 5) (dC (.int 1))) (aq (av cA (dC (.int 0)) (dC (.int 1))) au)))) (aS (aC 2 ql (aq (oQ (ao 6) oV (oR (ao 5))) (aq (ao 4) au)))) y9:=rfl
theorem Tg{L:List D->aa->R D}{M N:Int}{e:Ev}{c:aa}{d:D}(h6:e[6]? = ζ (ζ d)) (h5:e[5]? = ζ (ζ (.int N))) (hM:L [d] c=.ok (.int M) c) (b1:-4611686018427387904<=M-1/\M-1<4611686018427387904/\-4611686018427387904<=N-1/\N-1<4611686018427387904) :
  (uw (aq (av cA (aO L (aq (ao 6) au)) (dC (.int 1))) (aq (av cA (ao 5) (dC (.int 1))) (aq (av cA (dC (.int 0)) (dC (.int 1))) au)))) e c=.ok ⟨jO (M-1) (N-1),λ_=>True⟩ c:=by
 simp only[uw,bH,dX,gh,bK,iI,bQ,h6,h5,R.aB,hM,ya];rw[if_pos ⟨by decide,by omega,by omega,by omega,by omega⟩]
theorem abT{l:List D}{n:Nat}{N:Int}(hN:N=n) (h:n<=l.length):cutD l η (ζ N)=l.take n:=by
 subst hN;have:HT.fY l.length l.length (ζ (n:Int))=n:=by rw[HT.SM];omega
 show(l.drop 0).take (HT.fY l.length l.length (ζ (n:Int))-0)=_;rw[this];simp
theorem R6{e:Ev}{N:Int}{n:Nat}{F:List Int}{c:aa}(h6:e[6]? = ζ (ζ (.ref c.length))) (h5:e[5]? = ζ (ζ (.int N))) (EJ:cutD (F.map D.int) η (ζ N)=(F.take n).map D.int):oQ (ao 6) oV (oR (ao 5)) e (c++[.lst (F.map D.int)])=.ok (.lst ((F.take n).map D.int)) (c++[.lst (F.map D.int)]):=by
 have EE:eZ (c++[.lst (F.map D.int)]) (.ref c.length)=ζ (F.map D.int):=by simp[eZ]
 rw[OS,bK,h6,R.aB,OX,R.aB,OW,bK,h5,R.aB,R.aB,EE];show R.ok (D.lst (cutD (F.map D.int) η (ζ N))) _=_;rw[EJ]
theorem SX{m:List D->aa->R D}{Sl:af}{e:Ev}{c:aa}{p w:Int}{l:List D}(hS:Sl e c=.ok (.lst l) c) (h4:e[4]? = ζ (ζ (.int p))) (hn:m [.lst l,.int p] c=.ok (.int w) c):aS (aC 2 m (aq Sl (aq (ao 4) au))) e c=.ok (.rt (.int w)) c:=by
 rw[iH,x_call,bH,hS,R.aB,bH,bK,h4,R.aB,bQ,R.aB,R.aB,R.aB,if_pos (show[D.lst l,D.int p].length=2 from rfl),hn,R.aB]
theorem VJ{L:List D->aa->R D}{S:Ev->aa->R Src}{Rt:ah}{its:List D}{G:ah}{q x y p N w:Int}{bV:List Int}{rx ry:List D}{F F':List Int}{c:aa}{w7 w8 w9 iJ:Option D}(hp:gY [.int q] c=.ok (.int p) c) (hL:L [.lst (bV.map D.int)] c=.ok (.int (N+1)) c)
  (h1:gm [.int x,.int p,.int N] c=.ok (.lst rx) c) (h2:gm [.int y,.int p,.int N] c=.ok (.lst ry) c) (h3:tQ [.lst rx,.lst ry,.int p] c=.ok (.ref c.length) (c++[.lst (F.map D.int)]))
  (hS:S [ζ (.int q),ζ (.lst (bV.map D.int)),ζ (.int x),ζ (.int y),ζ (.int p),ζ (.int N),ζ (.ref c.length),η,η,η,η] (c++[.lst (F.map D.int)])=.ok ⟨its,λ_=>True⟩ (c++[.lst (F.map D.int)]))
  (hf:c7 (λ_=>True) (aA 7) G its [ζ (.int q),ζ (.lst (bV.map D.int)),ζ (.int x),ζ (.int y),ζ (.int p),ζ (.int N),ζ (.ref c.length),η,η,η,η] (c++[.lst (F.map D.int)])=.ok (.nx [ζ (.int q),ζ (.lst (bV.map D.int)),ζ (.int x),ζ (.int y),ζ (.int p),ζ (.int N),ζ (.ref c.length),w7,w8,w9,iJ]) (c++[.lst (F'.map D.int)]))
  (hRt:Rt [ζ (.int q),ζ (.lst (bV.map D.int)),ζ (.int x),ζ (.int y),ζ (.int p),ζ (.int N),ζ (.ref c.length),w7,w8,w9,iJ] (c++[.lst (F'.map D.int)])=.ok (.rt (.int w)) (c++[.lst (F'.map D.int)])):bD 11 Θ (xF L S Rt G) [.int q,.lst (bV.map D.int),.int x,.int y] c=.ok (.int w) c:=by
 have key:xF L S Rt G [ζ (.int q),ζ (.lst (bV.map D.int)),ζ (.int x),ζ (.int y),η,η,η,η,η,η,η] c=.ok (.rt (.int w)) (c++[.lst (F'.map D.int)]):=by
  simp[xF,hp,hL,h1,h2,h3,hS];rw[hf];simp only[R.aB];rw[hRt]
 rw[fC];show R.bind (xF L S Rt G [ζ (.int q),ζ (.lst (bV.map D.int)),ζ (.int x),ζ (.int y),η,η,η,η,η,η,η] c) _=_;rw[key];simp
theorem aa7{f:Fd}(h:f∈b8):(fR f).length=f.n+1/\∀x∈fR f,0<=x/\x<1000:=by
 have I:=fZ h;have p2:=I.p2;have gS:=I.gS;unfold fR;split
 ·rename_i e;rw[e];exact⟨rfl,λx hx=>by simp at hx;omega⟩
 ·refine⟨by rw[agh,fP];rfl,λx hx=>?_⟩
  rcases agC.mp hx with hx|hx
  ·have:=Dc (p:=f.p) (by omega) f.n f.low x hx;omega
  ·rw[agu]at hx;omega
theorem UE{f:Fd}(h:f∈b8) (x y:Int) (c:aa):tZ [.int f.q,.lst ((fR f).map D.int),.int x,.int y] c=.ok (.int (sX f.p f.n (fR f) x y)) c:=by
 have I:=fZ h;have p2:=I.p2;have gS:=I.gS;have n1:=I.n1;have n5:=I.n5;obtain⟨fl,fb⟩:=aa7 h;have rl:∀z,(bf (f.p:Int) f.n z).length=f.n:=fP _ _;have rb:=λz=>Dc (p:=f.p) (by omega) f.n z
 have h1:=λz=>zG (p:=f.p) (N:=f.n) (x:=z) (n:=f.n) (by omega) (by omega) (by rw[d9];omega) (by omega) (by omega) c
 have h3:=RK (a:=bf f.p f.n x) (b:=bf f.p f.n y) (p:=f.p) (by omega) (λz=>by have:=rl x;rw[z]at this;simp at this;omega) (λd hd=>by have:=rb x d hd;omega) (by rw[rl,rl];omega) c
 have MA:(iA (bf f.p f.n x) (bf f.p f.n y) f.p).length=2*f.n-1:=by rw[Ip,rl,rl];omega
 generalize hF:iA (bf (f.p:Int) f.n x) (bf f.p f.n y) f.p=F at h3 MA
 have hdl:(jO (((2*f.n-1:Nat):Int)-1) ((f.n:Int)-1)).length=f.n-1:=by simp[jO];omega
 obtain⟨v',hf⟩:=jq (α:=Option D×Option D×Option D×Option D) (st:=λ_=>True) (g:=aA 7) (s:=y9) (λi=>c++[.lst ((iW f.p (fR f) f.n F i).map D.int)]) (λ_ v=>[ζ (.int f.q),ζ (.lst ((fR f).map D.int)),ζ (.int x),ζ (.int y),ζ (.int f.p),ζ (.int f.n),ζ (.ref c.length),v.1,v.2.1,v.2.2.1,v.2.2.2])
  (jO (((2*f.n-1:Nat):Int)-1) ((f.n:Int)-1)) 0 (η,η,η,η) (λ_ _=>trivial) (λi z hz v=>by
   rw[age];have hi:i<f.n-1:=by
    have:=(af8.mp hz).1;omega
   have hz':z=.int ((((2*f.n-1:Nat):Int)-1)-i):=by
    unfold jO at hz;rw[af6]at hz;cases hq:(θ ((((2*f.n-1:Nat):Int)-1)-((f.n:Int)-1)).toNat)[i]? with
    |none=>rw[hq]at hz;cases hz
    |some u =>
     rw[hq]at hz;have:=(af8.mp hq).2;rw[ahX]at this;subst this;cases hz;rfl
   subst hz';obtain⟨w8,w9,iJ,hb⟩:=VN (bV:=fR f) (F:=iW f.p (fR f) f.n F i) (p:=f.p) (N:=f.n) (place:=(((2*f.n-1:Nat):Int)-1)-i) (c:=c) (base:=2*f.n-2-i-f.n) (n:=f.n) (by omega) rfl (by omega) (by omega) fl (by rw[yO];omega) fb (ζ (.int f.q)) (ζ (.int x)) (ζ (.int y)) v.2.1 v.2.2.1 v.2.2.2
   refine⟨_,rfl,(ζ (.int ((((2*f.n-1:Nat):Int)-1)-i)),w8,w9,iJ),?_⟩;rw[show 2*f.n-2-i-f.n+f.n=2*f.n-2-i by omega]at hb
   exact hb)
 rw[hdl,age]at hf;have EJ:cutD ((iW f.p (fR f) f.n F (f.n-1)).map D.int) η (ζ (f.n:Int))=((iW f.p (fR f) f.n F (f.n-1)).take f.n).map D.int:=by
  rw[abT rfl (by rw[afY,yO];omega),aiC]
 have hn:=Ll (p:=f.p) (by omega) (by omega) ((iW f.p (fR f) f.n F (f.n-1)).take f.n) (by rw[ag7];omega) (c++[.lst ((iW f.p (fR f) f.n F (f.n-1)).map D.int)])
 rw[tZ,acX,sX,hF];exact VJ (Dk h c) (by rw[wg,fl];rfl) (h1 x) (h1 y) h3 (Tg (M:=((2*f.n-1:Nat):Int)) rfl rfl (by rw[YG,MA]) (by omega)) hf (SX (R6 rfl rfl EJ) rfl hn)
def vV:List Int->Nat->(Int->Int)->List Int
 |[],_,_=>[]
 |x::l,0,f=>f x::l
 |x::l,i+1,f=>x::vV l i f
theorem D5:∀(l:List Int) (i:Nat) (f:Int->Int),i<l.length->l.set i (f (gI l i))=vV l i f
 |[],i,f,h=>by cases h
 |x::l,0,f,h=>rfl
 |x::l,i+1,f,h=>by
  have:=D5 l i f (by simpa using h)
  simp only[agQ,vV];rw[<-this];rfl
def zQ(p a:Int) (b:List Int) (k:Nat) (F:List Int):Nat->List Int
 |0=>F
 |j+1=>vV (zQ p a b k F j) (k+j) λv=>(v+a*gI b j) % p
theorem Es{p a:Int}{b:List Int}{k:Nat}{F:List Int}:∀j,k+j<=F.length->kR p a b k F j=zQ p a b k F j
 |0,_=>rfl
 |j+1,h=>by rw[kR,zQ,Es j (by omega),D5 _ _ (λv=>(v+a*gI b j) % p) (by rw[<-Es j (by omega),zP];omega)]
def zd(p:Int) (a b F:List Int):Nat->List Int
 |0=>F
 |k+1=>zQ p (gI a k) b k (zd p a b F k) b.length
theorem JQ{p:Int}{a b F:List Int}:∀k,k+b.length<=F.length+1->kJ p a b F k=zd p a b F k
 |0,_=>rfl
 |k+1,h=>by rw[kJ,zd,<-JQ k (by omega),Es _ (by rw[zc];omega)]
def MQ{α:Type}(i:Int) (g:Int->α):α:=match i with
 |.ofNat n=>(match n with|0=>g (.ofNat 0)|m+1=>g (.ofNat (m+1)))
 |.negSucc n=>g (.negSucc n)
theorem aa1{α:Type}(i:Int) (g:Int->α):MQ i g=g i:=by
 cases i with
 |ofNat n=>cases n<;>rfl
 |negSucc n=>rfl
def yN(p gT:Int) (bV:List Int) (base:Nat) (F:List Int):Nat->List Int
 |0=>F
 |k+1=>vV (yN p gT bV base F k) (base+k) λv=>(v-gT*gI bV k) % p
theorem Dh{p gT:Int}{bV:List Int}{base:Nat}{F:List Int}:∀k,base+k<=F.length->lN p gT bV base F k=yN p gT bV base F k
 |0,_=>rfl
 |k+1,h=>by rw[lN,yN,Dh k (by omega),D5 _ _ (λv=>(v-gT*gI bV k) % p) (by rw[<-Dh k (by omega),yP];omega)]
def vo(p:Int) (bV:List Int) (n:Nat) (F:List Int):Nat->List Int
 |0=>F
 |i+1=>MQ (gI (vo p bV n F i) (2*n-2-i)) λz=>yN p z bV (2*n-2-i-n) (vo p bV n F i) (n+1)
theorem Ji{p:Int}{bV:List Int}{n:Nat}{F:List Int}(hn:1<=n) (hF:F.length=2*n-1):∀i,i<=n-1->iW p bV n F i=vo p bV n F i
 |0,_=>rfl
 |i+1,h=>by rw[iW,vo,aa1,<-Ji hn hF i (by omega),Dh _ (by rw[yO];omega)]
def Dj(p:Int) (n:Nat) (bV:List Int) (x y:Int):Int:=jW p ((vo p bV n (zd p (bf p n x) (bf p n y) (ι (2*n-1) 0) n) (n-1)).take n)
theorem UG{p:Int}{n:Nat}(hn:1<=n) (bV:List Int) (x y:Int):sX p n bV x y=Dj p n bV x y:=by
 unfold sX Dj;have hl:(iA (bf p n x) (bf p n y) p).length=2*n-1:=by rw[Ip,fP,fP];omega
 rw[Ji hn hl (n-1) (afQ _)]
 congr 3
 unfold iA;rw[fP,fP,show n+n-1=2*n-1 by omega,JQ n (by rw[fP,aik];omega)]
def NN(f:Fd):Bool:=Nat.beq f.n 1||(θ f.q).all λx=>(θ f.q).all λy=>Eo (Dj f.p f.n (fR f) x y) (Mk f x y)
theorem adg:b8.all NN=Δ:=by decide +kernel
theorem UD(p x y:Int):sX p 1 [0,1] x y=(x % p*(y % p)) % p:=by
 simp[sX,iW,iA,kJ,kR,bf,gI,jW]
theorem X0(p x y:Int):zB p 1 0 x y=(x % p*(y % p)) % p:=by
 simp[zB,mulR,bf,iK,mh,c8]
theorem Yz:(b8.all λf=>!Nat.beq f.n 1||Nat.beq f.low 0)=Δ:=by decide +kernel
theorem UH{f:Fd}(h:f∈b8) {x y:Nat}(hx:x<f.q) (hy:y<f.q) (c:aa):tZ [.int f.q,.lst ((fR f).map D.int),.int x,.int y] c=.ok (.int (M f x y:Nat)) c:=by
 rw[UE h];have I:=fZ h;have hc:=afX.mp adg f h;cases hq:Nat.beq f.n 1 with
 |true =>
  have hn:=be hq;have hl:=afX.mp Yz f h;simp only[hq,aiy,ajC]at hl;have e:fR f=[0,1]:=if_pos hn;have hm:=I.mm x y hx hy;unfold mI at hm;rw[e,<-hm,hn,be hl,UD];rw[show((0:Nat):Int)=0 from rfl,X0]
 |false =>
  simp only[NN,hq,ajC]at hc;have:=afX.mp (afX.mp hc x (afR.mpr hx)) y (afR.mpr hy);rw[UG I.n1,LS this,xO]
theorem lJ:1000000<Ω:=by decide
theorem iR{f:List D->aa->R D}{d1:af}{e:Ev}{c:aa}{x v:D}(h1:d1 e c=.ok x c) (h:f [x] c=.ok v c):aO f (aq d1 au) e c=.ok v c:=by
 simp only[gh,bH,h1,bQ,R.aB];exact h
theorem iL{i:Nat}{d:af}{e:Ev}{c:aa}{v:D}(h:d e c=.ok v c):aG i d e c=.ok (.nx (e.set i (ζ v))) c:=by rw[gg,h];rfl
theorem pU{d:af}{e:Ev}{c:aa}{v:D}(h:d e c=.ok v c):aS d e c=.ok (.rt v) c:=by rw[iH,h];rfl
theorem dg{f:D->D->aa->R D}{d1 d2:af}{e:Ev}{c:aa}{x y:D}{r:R D}(h1:d1 e c=.ok x c) (h2:d2 e c=.ok y c) (h:f x y c=r):av f d1 d2 e c=r:=by
 rw[dX,h1];simp only[R.aB];rw[h2];exact h
theorem lg{m:List D->aa->R D}{d1 d2:af}{e:Ev}{c:aa}{x y v:D}(h1:d1 e c=.ok x c) (h2:d2 e c=.ok y c) (h:m [x,y] c=.ok v c):aC 2 m (aq d1 (aq d2 au)) e c=.ok v c:=by
 simp only[x_call,bH,h1,h2,bQ,R.aB];rw[if_pos (by rfl)];exact h
theorem lq{m:List D->aa->R D}{d1:af}{e:Ev}{c:aa}{x v:D}(h1:d1 e c=.ok x c) (h:m [x] c=.ok v c):aC 1 m (aq d1 au) e c=.ok v c:=by
 simp only[x_call,bH,h1,bQ,R.aB];rw[if_pos (by rfl)];exact h
theorem pV{n:Nat}{b:ah}{xs:List D}{c:aa}{v:D}(h:b (dI n xs) c=.ok (.rt v) c) (hv:noRef v=Δ) (hr:∀k,v≠.ref k):bD n Θ b xs c=.ok v c:=by
 rw[fC,h];simp only[R.aB];cases v<;>first|exact absurd rfl (hr _)|(unfold c9;dsimp only;rw[if_pos hv,agV])
def A(f:Fd) (x y:Nat):Nat:=(iG f.p f.n x y).toNat
theorem adS{f:Fd}(h:f∈b8) (x y:Nat):((A f x y:Nat):Int)=iG f.p f.n x y/\A f x y<f.q:=adz (fZ h) x y
def sF(f:Fd) (a x y:Nat):Nat:=A f (M f a x) y
theorem NK{a:af}{E:Ev}{c:aa}(it g:Nat->D):∀(l:List Nat) (v:Option D) (acc:List D),(∀i∈l,a (ζ (it i)::E) c=.ok (g i) c)->bO (λ_=>True) (aA 0) aM a (l.map it) (v::E) acc c=.ok (acc++l.map g) c
 |[],v,acc,_=>by simp
 |i::l,v,acc,h=>by
  have h1:aA 0 (it i) (v::E) c=.ok (ζ (it i)::E) c:=rfl;rw[af9,jQ,h1,R.aB,lD,R.aB,if_pos rfl,h i (.head _),R.aB,NK it g l _ _ (λz hz=>h z (.tail _ hz)),agy]
  rfl
theorem sP(lo hi:Int):aT lo hi=(θ (hi-lo).toNat).map λi:Nat=>D.int (lo+(i:Int)):=rfl
theorem Ej{d a:af}{pick:List (Option Nat)}{e E:Ev}{c:aa}{N:Int}{n:Nat}(g:Nat->D) (hd:d e c=.ok (.int N) c) (hN:N=n) (hn:n<1000) (hp:dz pick e=η::E) (ha:∀i,i<n->a (ζ (.int (i:Int))::E) c=.ok (g i) c) :
  aY (aZ (aq d au)) pick (aA 0) aM a e c=.ok (.lst ((θ n).map g)) c:=by
 have sz:=lJ;have h1:aZ (aq d au) e c=.ok ⟨aT 0 N,λ_=>True⟩ c:=by
  unfold aZ;simp only[bH,hd,bQ,R.aB];rw[if_pos (by omega)]
 have hl:(aT 0 N).length=n:=by rw[d9];omega
 have hr:aT 0 N=(θ n).map λi:Nat=>D.int (i:Int):=by
  rw[sP,show(N-0).toNat=n by omega]
  simp
 rw[eX,h1,R.aB];dsimp only;rw[if_pos (by rw[hl];omega),hp,hr,NK _ g (θ n) η [] (λi hi=>ha i (afR.mp hi))]
 rfl
theorem Qd(l:List D) (c:aa) (h:l.length<=1000):cP [.lst l] c=.ok (.tup l) c:=by
 have sz:=lJ;simp[cP,fW]
theorem Qw{d a:af}{pick:List (Option Nat)}{e E:Ev}{c:aa}{N:Int}{n:Nat}(g:Nat->D) (hd:d e c=.ok (.int N) c) (hN:N=n) (hn:n<1000) (hp:dz pick e=η::E) (ha:∀i,i<n->a (ζ (.int (i:Int))::E) c=.ok (g i) c) :
  aO cP (aq (aY (aZ (aq d au)) pick (aA 0) aM a) au) e c=.ok (.tup ((θ n).map g)) c :=
 iR (Ej g hd hN hn hp ha) (Qd _ c (by simp;omega))
theorem Ky{l:List D}(h:∀d∈l,noRef d=Δ):noRef (.tup l)=Δ:=by unfold noRef;exact iP.mpr h
theorem KA(l:List Nat):noRef (.tup (nD l))=Δ:=Ky λd hd=>by
 obtain⟨k,_,rfl⟩:=afW.mp hd;rfl
theorem Kz(n:Nat) (s:Nat->Nat->Nat):noRef (cY n s)=Δ:=Ky λd hd=>by
 obtain⟨k,_,rfl⟩:=afW.mp hd;exact KA _
theorem sU{f:Fd}(h:f∈b8):f.q<=50:=by
 have:(b8.all λf=>decide (f.q<=50))=Δ:=by decide +kernel
 simpa using afX.mp this f h
theorem DW(n:Nat) (g:Nat->Nat):nD ((θ n).map g)=(θ n).map λi=>D.int (g i:Nat):=by simp[nD]
def FS(f:Fd):List D:=(θ (f.q-1)).map λa=>cY f.q (sF f (1+a))
theorem Fp{m:List D->aa->R D}{d1 d2 d3 d4:af}{e:Ev}{c:aa}{x y z u v:D}(h1:d1 e c=.ok x c) (h2:d2 e c=.ok y c) (h3:d3 e c=.ok z c) (h4:d4 e c=.ok u c) (h:m [x,y,z,u] c=.ok v c):aC 4 m (aq d1 (aq d2 (aq d3 (aq d4 au)))) e c=.ok v c:=by
 simp only[x_call,bH,h1,h2,h3,h4,bQ,R.aB];rw[if_pos (by rfl)]
 exact h
def vt(f:Fd) (x:Nat):List D:=(θ f.q).map λy=>D.int (M f x y:Nat)
def PR(f:Fd):List D:=(θ f.q).map λx=>.lst (vt f x)
theorem Xw(f:Fd):noRef (.lst (PR f))=Δ:=by
 unfold noRef;refine iP.mpr λd hd=>?_
 obtain⟨k,_,rfl⟩:=afW.mp hd;unfold noRef;refine iP.mpr λd hd=>?_
 obtain⟨k,_,rfl⟩:=afW.mp hd;rfl
theorem UA{f:Fd}(h:f∈b8) (c:aa):tY [.int f.q] c=.ok (.lst (PR f)) c:=by
 have hq:=sU h;refine pV (n:=2) (b:=xo) ?_ (Xw f) (λk h=>by cases h)
 have e0:aG 1 (aC 1 t6 (aq (ao 0) au)) [ζ (.int f.q),η] c=.ok (.nx [ζ (.int f.q),ζ (.lst ((fR f).map D.int))]) c:=iL (i:=1) (lq (m:=t6) (d1:=ao 0) rfl (aa6 h c));unfold xo;rw[show dI 2 [D.int f.q]=[ζ (.int f.q),η]from rfl,bI e0]
 refine pU ?_;exact Ej (N:=(f.q:Int)) (n:=f.q) (E:=[ζ (.int f.q),ζ (.lst ((fR f).map D.int))]) (λx=>D.lst (vt f x)) rfl rfl (by omega) rfl λx hx =>
  Ej (N:=(f.q:Int)) (n:=f.q) (E:=[ζ (.int f.q),ζ (.lst ((fR f).map D.int)),ζ (.int (x:Int))]) (λy=>D.int (M f x y:Nat)) rfl rfl (by omega) rfl λy hy =>
   Fp (m:=tZ) (d1:=ao 1) (d2:=ao 2) (d3:=ao 3) (d4:=ao 0) rfl rfl rfl rfl (UH h hx hy c)
theorem FG{l:List D}{i:Nat}{d:D}(h:l[i]? = ζ d):cX l (i:Int)=ζ d:=by
 have hi:=(af8.mp h).1;unfold cX gp;rw[if_pos (by omega),if_pos (by omega)]
 simpa using h
theorem wm{l:List D}{i:Nat}{d:D}{N:Int}(hN:N=i) (h:l[i]? = ζ d) (c:aa):aF (.lst l) (.int N) c=.ok d c:=by
 subst hN;unfold aF fW;simp only[FG h]
theorem LM{l:List D}{i:Nat}{d:D}{N:Int}(hN:N=i) (h:l[i]? = ζ d) (c:aa):aF (.tup l) (.int N) c=.ok d c:=by
 subst hN;unfold aF fW;simp only[FG h]
theorem Yp{f:Fd}(h:f∈b8) (x y:Nat) (c:aa):nA [.int f.q,.int x,.int y,.int 1] c=.ok (.int (A f x y:Nat)) c:=by
 rw[Rv h x y 1 (by decide) c,(adS h x y).1]
 unfold iG;have:(λa b:Int=>a+1*b)=(· + ·):=by funext a b;omega
 rw[this]
def fF(f:Fd) (a:Nat):List D:=(θ f.q).map λx=>D.tup (nD ((θ f.q).map (sF f a x)))
def wJ:ah:=(cK (dH (ao 4) (aO cP (aq (aY (aZ (aq (ao 0) au)) [η,ζ 0,ζ 5,ζ 1,ζ 3] (aA 0) aM (aC 4 nA (aq (ao 1) (aq (av aF (av aF (ao 3) (ao 4)) (ao 2)) (aq (ao 0) (aq (dC (.int 1)) au)))))) au))))
def wI:ah:=(aE (aG 4 (cV au)) (aE (bB (aZ (aq (ao 0) au)) (aA 5) wJ) (cK (dH (ao 2) (aO cP (aq (ao 4) au))))))
theorem C6{f:Fd}{a x:Nat}(hx:x<=f.q):(fF f a).take x=(θ x).map λx=>D.tup (nD ((θ f.q).map (sF f a x))):=by
 unfold fF;rw[<-aiC,List.take_range,aiH hx]
theorem ac7{dO da:af}{e:Ev}{c:aa}{k:Nat}{l:List D}{y:D}(ho:dO e c=.ok (.ref k) c) (ha:da e c=.ok y c) (hc:c[k]? = ζ (.lst l)) (hy:noRef y=Δ) (hl:l.length<1000):dH dO da e c=.ok .aL (c.set k (.lst (l++[y]))):=by
 have sz:=lJ;unfold dH;rw[ho,R.aB];dsimp only;rw[ha,R.aB];simp only[hc];rw[if_pos ⟨by omega,hy⟩]
theorem aaY{f:Fd}(h:f∈b8) {a:Nat}(ha:1<=a) (ha2:a<f.q) {N:Int}(hN:N=f.q) (c:aa) (v2 v5:Option D):∃v,c7 (λ_=>True) (aA 5) wJ (aT 0 N) [ζ (.int N),ζ (.lst (PR f)),v2,ζ (.int (a:Int)),ζ (.ref c.length),v5] (c++[.lst []])=.ok (.nx [ζ (.int N),ζ (.lst (PR f)),v2,ζ (.int (a:Int)),ζ (.ref c.length),v]) (c++[.lst (fF f a)]):=by
 have hq:=sU h;have:=oh (g:=aA 5) (s:=wJ) (λx=>c++[.lst ((fF f a).take x)]) (λ_ (v:Option D)=>[ζ (.int N),ζ (.lst (PR f)),v2,ζ (.int (a:Int)),ζ (.ref c.length),v]) hN v5 (λx hx v=>by
  refine⟨[ζ (.int N),ζ (.lst (PR f)),v2,ζ (.int (a:Int)),ζ (.ref c.length),ζ (.int (x:Nat))],rfl,ζ (.int (x:Nat)),?_⟩;have hval:(aO cP (aq (aY (aZ (aq (ao 0) au)) [η,ζ 0,ζ 5,ζ 1,ζ 3] (aA 0) aM (aC 4 nA (aq (ao 1) (aq (av aF (av aF (ao 3) (ao 4)) (ao 2)) (aq (ao 0) (aq (dC (.int 1)) au)))))) au)) [ζ (.int N),ζ (.lst (PR f)),v2,ζ (.int (a:Int)),ζ (.ref c.length),ζ (.int (x:Nat))] (c++[.lst ((fF f a).take x)])=.ok (.tup ((θ f.q).map λy=>D.int (sF f a x y:Nat))) (c++[.lst ((fF f a).take x)]):=by
   refine Qw (N:=N) (n:=f.q) (E:=[ζ (.int N),ζ (.int (x:Nat)),ζ (.lst (PR f)),ζ (.int (a:Int))]) (λy=>D.int (sF f a x y:Nat)) rfl hN (by omega) rfl λy hy=>?_
   have r1:(PR f)[a]? = ζ (.lst (vt f a)):=by unfold PR;rw[af6,agG ha2];rfl
   have r2:(vt f a)[x]? = ζ (.int (M f a x:Nat)):=by unfold vt;rw[af6,agG hx];rfl
   have i1:=wm (N:=(a:Int)) rfl r1 (c++[.lst ((fF f a).take x)]);have i2:=wm (N:=(x:Int)) rfl r2 (c++[.lst ((fF f a).take x)]);have hs:=Yp h (M f a x) y (c++[.lst ((fF f a).take x)]);rw[<-hN]at hs;exact Fp (m:=nA) (d1:=ao 1) (d3:=ao 0) (d4:=dC (.int 1)) rfl (dg (f:=aF) (dg (f:=aF) (d1:=ao 3) (d2:=ao 4) rfl rfl i1) (d2:=ao 2) rfl i2) rfl rfl hs
  have hap:=uD (c:=c) (acc:=(fF f a).take x) (dO:=ao 4) (e:=[ζ (.int N),ζ (.lst (PR f)),v2,ζ (.int (a:Int)),ζ (.ref c.length),ζ (.int (x:Nat))]) rfl hval (by rw[<-DW];exact KA _) (by rw[C6 (by omega)];simp;omega)
  unfold wJ;rw[iS,hap,R.aB];have ht:(fF f a).take x++[D.tup ((θ f.q).map λy=>D.int (sF f a x y:Nat))]=(fF f a).take (x+1):=by
   rw[C6 (by omega),C6 (by omega),agW,agK,<-DW]
   rfl
  rw[ht])
 have hz:(fF f a).take 0=[]:=rfl;have hw:(fF f a).take f.q=fF f a:=ahK (by unfold fF;simp)
 rw[hz,hw]at this;exact this
def LJ(f:Fd) (k:Nat):aa:=(θ k).map λa=>Cell.lst (fF f (1+a))
def d7(f:Fd) (c:aa) (k:Nat):aa:=c ++ .lst ((θ k).map λa=>cY f.q (sF f (1+a)))::LJ f k
theorem aaX{f:Fd}(h:f∈b8) {N:Int}(hN:N=f.q) (c:aa) (v3 v4 v5:Option D):∃w,c7 (λ_=>True) (aA 3) wI (aT 1 N) [ζ (.int N),ζ (.lst (PR f)),ζ (.ref c.length),v3,v4,v5] (c++[.lst []])=.ok (.nx ([ζ (.int N),ζ (.lst (PR f)),ζ (.ref c.length)]++w)) (d7 f c (f.q-1)):=by
 have hq:=sU h;have q2:=(fZ h).q2;have hl:(aT 1 N).length=f.q-1:=by rw[sP];simp;omega
 have:=jq (st:=λ_=>True) (g:=aA 3) (s:=wI) (d7 f c) (λ_ (w:Option D×Option D×Option D)=>[ζ (.int N),ζ (.lst (PR f)),ζ (.ref c.length),w.1,w.2.1,w.2.2]) (aT 1 N) 0 (v3,v4,v5) (λ_ _=>trivial) (λk x hx w=>by
  have hk:k<f.q-1:=by rw[<-hl];exact(af8.mp hx).1
  have hx':x=.int (((1+k:Nat)):Int):=by
   rw[sP,af6,agG (by omega)]at hx
   have:D.int (1+(k:Int))=x:=by simpa using hx
   rw[<-this]
   congr 1
  subst hx';refine⟨[ζ (.int N),ζ (.lst (PR f)),ζ (.ref c.length),ζ (.int (((1+k:Nat)):Int)),w.2.1,w.2.2],rfl,?_⟩;have e0:aG 4 (cV au) [ζ (.int N),ζ (.lst (PR f)),ζ (.ref c.length),ζ (.int (((1+k:Nat)):Int)),w.2.1,w.2.2] (d7 f c k)=.ok (.nx [ζ (.int N),ζ (.lst (PR f)),ζ (.ref c.length),ζ (.int (((1+k:Nat)):Int)),ζ (.ref (d7 f c k).length),w.2.2]) (d7 f c k++[.lst []]):=by
   simp[bX]
  obtain⟨v,e1⟩:=aaY h (a:=1+k) (by omega) (by omega) hN (d7 f c k) (ζ (.ref c.length)) w.2.2
  have h1:aZ (aq (ao 0) au) [ζ (.int N),ζ (.lst (PR f)),ζ (.ref c.length),ζ (.int (((1+k:Nat)):Int)),ζ (.ref (d7 f c k).length),w.2.2] (d7 f c k++[.lst []])=.ok ⟨aT 0 N,λ_=>True⟩ (d7 f c k++[.lst []]):=by
   unfold aZ;simp only[bH,bK,gz,bQ,R.aB];rw[if_pos (by omega)]
  have E8:bB (aZ (aq (ao 0) au)) (aA 5) wJ [ζ (.int N),ζ (.lst (PR f)),ζ (.ref c.length),ζ (.int (((1+k:Nat)):Int)),ζ (.ref (d7 f c k).length),w.2.2] (d7 f c k++[.lst []])=.ok (.nx [ζ (.int N),ζ (.lst (PR f)),ζ (.ref c.length),ζ (.int (((1+k:Nat)):Int)),ζ (.ref (d7 f c k).length),v]) (d7 f c k++[.lst (fF f (1+k))]):=by
   rw[gx,h1,R.aB];exact e1
  have Ew:(d7 f c k++[Cell.lst (fF f (1+k))])[(d7 f c k).length]? = ζ (.lst (fF f (1+k))):=by simp
  have htup:aO cP (aq (ao 4) au) [ζ (.int N),ζ (.lst (PR f)),ζ (.ref c.length),ζ (.int (((1+k:Nat)):Int)),ζ (.ref (d7 f c k).length),v] (d7 f c k++[.lst (fF f (1+k))])=.ok (cY f.q (sF f (1+k))) (d7 f c k++[.lst (fF f (1+k))]):=by
   refine iR (d1:=ao 4) (x:=.ref (d7 f c k).length) rfl ?_;unfold cP fW;simp only[Ew];rfl
  have aah:(d7 f c k++[Cell.lst (fF f (1+k))])[c.length]? = ζ (.lst ((θ k).map λa=>cY f.q (sF f (1+a)))):=by
   unfold d7;simp
  have hap:=ac7 (dO:=ao 2) (e:=[ζ (.int N),ζ (.lst (PR f)),ζ (.ref c.length),ζ (.int (((1+k:Nat)):Int)),ζ (.ref (d7 f c k).length),v]) rfl htup aah (Kz _ _) (by simp;omega)
  have Eu:(d7 f c k++[Cell.lst (fF f (1+k))]).set c.length (.lst (((θ k).map λa=>cY f.q (sF f (1+a)))++[cY f.q (sF f (1+k))]))=d7 f c (k+1):=by
   unfold d7 LJ;rw[agy,akE _ _ (afQ _),ahh,agW,agK,agK];rfl
  rw[Eu]at hap;refine⟨(ζ (.int (((1+k:Nat)):Int)),ζ (.ref (d7 f c k).length),v),?_⟩;unfold wI;rw[age];rw[bI e0,bI E8,iS,hap];rfl)
 obtain⟨w,hw⟩:=this;refine⟨[w.1,w.2.1,w.2.2],?_⟩;rw[age,hl]at hw;exact hw
def UM(n:Nat) (s s':Nat->Nat->Nat) (i:Nat):List Int:=[((s (i/n) (i % n):Nat):Int),((s' (i/n) (i % n):Nat):Int)]
theorem XZ{m q:Int}(h0:0<=m) (h1:m<1000) (hq:q=m*m) (c:aa):bN (.int m) (.int m) c=.ok (.int q) c:=by
 unfold bN;dsimp only;rw[if_pos (by omega),hq]
def Lb(n:Nat) (s:Nat->Nat->Nat):Bool:=(θ n).all λi=>decide (((θ n).map (s i)).Nodup)&&decide (((θ n).map λj=>s j i).Nodup)&&(θ n).all λj=>Nat.blt (s i j) n
def NS(n:Nat) (s s':Nat->Nat->Nat) (i:Nat):Nat:=8*s (i/n) (i % n)+s' (i/n) (i % n)
def Kc(f:Fd):Bool:=(θ (f.q-1)).all λa=>Lb f.q (sF f (1+a))&&(θ a).all λb=>decide (((θ (f.q*f.q)).map (NS f.q (sF f (1+a)) (sF f (1+b)))).Nodup)
theorem ade:((b8.filter λf=>Nat.ble f.q 7).all Kc)=Δ:=by decide +kernel
theorem Ka{f:Fd}(h:f∈b8) (h7:f.q<=7):Kc f=Δ:=afX.mp ade f (agm.mpr ⟨h,Nat.ble_eq_true_of_le h7⟩)
theorem Yo{n:Nat}{s:Nat->Nat->Nat}(h:Lb n s=Δ):fy n s/\∀x y,x<n->y<n->s x y<n:=by
 have h:=afX.mp h;have hb:∀x y,x<n->y<n->s x y<n:=λx y hx hy=>by
  have:=h x (afR.mpr hx);simp only[af1,afX]at this;have h3:=this.2 y (afR.mpr hy);exact af2 (agY _) (akA h3)
 refine⟨⟨λi hi=>?_,λi hi=>?_⟩,hb⟩
 ·have:=h i (afR.mpr hi);simp only[af1,decide_eq_true_eq]at this;exact yS this.1.1 (λx hx=>by
   obtain⟨j,hj,rfl⟩:=afW.mp hx;exact afR.mpr (hb i j hi (afR.mp hj))) (by simp)
 ·have:=h i (afR.mpr hi);simp only[af1,decide_eq_true_eq]at this;exact yS this.1.2 (λx hx=>by
   obtain⟨j,hj,rfl⟩:=afW.mp hx;exact afR.mpr (hb j i (afR.mp hj) hi)) (by simp)
theorem XA{α:Type}{n:Nat}{f:Nat->α}(h:∀i j,i<n->j<n->f i=f j->i=j):((θ n).map f).Nodup:=by
 unfold ο;rw[ah1];refine akF (R:=(· < ·)) (fun{a b} ha hb hab e=>?_) aiw
 have:=h a b (afR.mp ha) (afR.mp hb) e;omega
theorem Ft{m:List D->aa->R D}{d1 d2 d3:af}{e:Ev}{c:aa}{x y z v:D}(h1:d1 e c=.ok x c) (h2:d2 e c=.ok y c) (h3:d3 e c=.ok z c) (h:m [x,y,z] c=.ok v c):aC 3 m (aq d1 (aq d2 (aq d3 au))) e c=.ok v c:=by
 simp only[x_call,bH,h1,h2,h3,bQ,R.aB];rw[if_pos (by rfl)];exact h
theorem LP{l:List D}{i j:Nat}{d:D}{N:Int}{c:aa}(hN:N=i) (hc:c[j]? = ζ (.lst l)) (h:l[i]? = ζ d):aF (.ref j) (.int N) c=.ok d c:=by
 subst hN;unfold aF fW;simp only[hc,FG h]
structure Acr (n:Nat) (s s':Nat->Nat->Nat):Prop where
 one:∀x y,x<n->y<n->s x y<8
 two:∀x y,x<n->y<n->s' x y<8
 nd:((θ (n*n)).map (UM n s s')).Nodup
def mS(n:Nat) (s t:Nat->Nat->Nat):Prop:=∀x y x' y',x<n->y<n->x'<n->y'<n->s x y=s x' y'->t x y=t x' y'->x=x'/\y=y'
theorem mS.symm{n:Nat}{s t:Nat->Nat->Nat}(h:mS n s t):mS n t s:=λx y x' y' a b c d e f=>h x y x' y' a b c d f e
theorem DP{n:Nat}{f:Nat->Nat}(h:((θ n).map f).Nodup) {i j:Nat}(hi:i<n) (hj:j<n) (e:f i=f j):i=j:=by
 have hp:=ah1.mp h;have hg:=ait.mp hp
 rcases ai8 i j with q|q|q
 ·have:=hg i j (by simpa using hi) (by simpa using hj) q
  simp at this;exact absurd e this
 ·exact q
 ·have:=hg j i (by simpa using hj) (by simpa using hi) q
  simp at this;exact absurd e.symm this
theorem MY{f:Fd}(h:f∈b8) (h7:f.q<=7) {a b:Nat}(ha:a<f.q-1) (hb:b<a):mS f.q (sF f (1+a)) (sF f (1+b)):=by
 have ho:=afX.mp (Ka h h7) a (afR.mpr ha);rw[af1]at ho;have hn:=of_decide_eq_true (afX.mp ho.2 b (afR.mpr hb));intro x y x' y' hx hy hx' hy' e1 e2;have q0:0<f.q:=by omega
 have bd:∀x y,x<f.q->y<f.q->x*f.q+y<f.q*f.q:=λx y hx hy=>by
  have:x*f.q+f.q<=f.q*f.q:=by
   rw[<-agJ];exact aiI _ hx
  omega
 have dv:∀x y,y<f.q->(x*f.q+y)/f.q=x/\(x*f.q+y) % f.q=y:=λx y hy=>by
  constructor
  ·rw[ahR,ajD q0,ajE hy];omega
  ·rw[ahR,Nat.mul_add_mod,Nat.mod_eq_of_lt hy]
 have:=DP hn (bd x y hx hy) (bd x' y' hx' hy') (by
  unfold NS;rw[(dv x y hy).1,(dv x y hy).2,(dv x' y' hy').1,(dv x' y' hy').2,e1,e2])
 have d1:=dv x y hy;have d2:=dv x' y' hy';rw[this]at d1;exact⟨d1.1.symm.trans d2.1,d1.2.symm.trans d2.2⟩
theorem abh{f:Fd}(h:f∈b8) (h7:f.q<=7) {a:Nat}(ha:a<f.q-1):fy f.q (sF f (1+a)):=by
 have ho:=afX.mp (Ka h h7) a (afR.mpr ha);rw[af1]at ho;exact(Yo ho.1).1
theorem abi{f:Fd}(h:f∈b8) (h7:f.q<=7) {a b:Nat}(ha:a<f.q-1) (hb:b<f.q-1) (hne:a≠b):mS f.q (sF f (1+a)) (sF f (1+b)):=by
 rcases aiJ hne with q|q
 ·exact(MY h h7 hb q).symm
 ·exact MY h h7 ha q
theorem YF{f:Fd}(h:f∈b8) {N:Int}(hN:N=f.q) (h7:N<=7) (c:aa):vX [.int N] c=.ok (.ref c.length) (c++[.lst (FS f)]):=by
 obtain⟨w,hf⟩:=aaX h hN c η η η;have hp:=UA h c;rw[<-hN]at hp;have e0:aG 1 (aC 1 tY (aq (ao 0) au)) [ζ (.int N),η,η,η,η,η] c=.ok (.nx [ζ (.int N),ζ (.lst (PR f)),η,η,η,η]) c:=iL (i:=1) (lq (m:=tY) (d1:=ao 0) rfl hp);have e1:aG 2 (cV au) [ζ (.int N),ζ (.lst (PR f)),η,η,η,η] c=.ok (.nx [ζ (.int N),ζ (.lst (PR f)),ζ (.ref c.length),η,η,η]) (c++[.lst []]):=by simp[bX]
 have h1:gG (aq (dC (.int 1)) (aq (ao 0) au)) [ζ (.int N),ζ (.lst (PR f)),ζ (.ref c.length),η,η,η] (c++[.lst []])=.ok ⟨aT 1 N,λ_=>True⟩ (c++[.lst []]):=by
  have q2:=(fZ h).q2;simp;omega
 have e2:bB (gG (aq (dC (.int 1)) (aq (ao 0) au))) (aA 3) wI [ζ (.int N),ζ (.lst (PR f)),ζ (.ref c.length),η,η,η] (c++[.lst []])=.ok (.nx ([ζ (.int N),ζ (.lst (PR f)),ζ (.ref c.length)]++w)) (d7 f c (f.q-1)):=by
  rw[gx,h1,R.aB];exact hf
 have hb:xu=aE (aG 1 (aC 1 tY (aq (ao 0) au))) (aE (aG 2 (cV au)) (aE (bB (gG (aq (dC (.int 1)) (aq (ao 0) au))) (aA 3) wI) (aS (ao 2)))):=rfl;show bD 6 Δ xu [.int N] c=_;unfold bD;rw[show dI 6 [D.int N]=[ζ (.int N),η,η,η,η,η]from rfl,hb,bI e0,bI e1,bI e2]
 have e3:aS (ao 2) ([ζ (.int N),ζ (.lst (PR f)),ζ (.ref c.length)]++w) (d7 f c (f.q-1))=.ok (.rt (.ref c.length)) (d7 f c (f.q-1)):=rfl;rw[e3,R.aB];dsimp only;unfold c9;dsimp only;have hg:(d7 f c (f.q-1))[c.length]? = ζ (.lst (FS f)):=by unfold d7 FS;simp
 have ht:(d7 f c (f.q-1)).take c.length=c:=by unfold d7;simp
 rw[hg];dsimp only;rw[if_pos (afQ _),if_pos rfl,ht]
structure Net (n:Nat) (ss:List (Nat->Nat->Nat)):Prop where
 two:2<=n
 pR:n<=7
 few:ss.length<=n-1
 lat:∀s∈ss,fy n s
 acr:ss.Pairwise (mS n)
def cI(n:Nat) (ss:List (Nat->Nat->Nat)):List D:=ss.map (cY n)
theorem abg{f:Fd}(h:f∈b8) (h7:f.q<=7) {bs:List Nat}(hn:bs.Nodup) (hb:∀x∈bs,x<f.q-1) (hl:bs.length<=f.q-1):Net f.q (bs.map λa=>sF f (1+a)):=by
 refine⟨(fZ h).q2,h7,by simpa using hl,λs hs=>?_,?_⟩
 ·obtain⟨a,ha,rfl⟩:=afW.mp hs;exact abh h h7 (hb a ha)
 ·rw[ah1];exact akF (fun{a b} ha hb' hne=>abi h h7 (hb a ha) (hb b hb') hne) hn
structure LF (f:Fd) (j n:Nat) (as bs:List Nat) (c:aa):Prop where
 len:c.length=n+2
 jn:j<n
 UR:∃p:Int,c[j]? = ζ (.lst [.int p])
 left:c[n]? = ζ (.lst (as.map λa=>cY f.q (sF f (1+a))))
 fnd:c[n+1]? = ζ (.lst (bs.map λa=>cY f.q (sF f (1+a))))
def u9:ah:=(cK (dH (ao 3) (kh (ao 2) (aC 2 bJ (aq (ao 0) (aq (aO bA (aq (ao 2) au)) au))))))
theorem Ym{α:Type}(g:Nat->α) (l:List Nat) (i:Nat):(l.map g).eraseIdx i=(l.eraseIdx i).map g:=by
 rw[aht,aht];simp[aiC,List.map_drop]
theorem RU{f:Fd}{j n:Nat}{as bs:List Nat}{c:aa}{a1 a4:Option D}(H:LF f j n as bs c) (h1:0<as.length) (h2:as.length<100) (h3:bs.length<100) :
  ∃as' bs' c',LF f j n as' bs' c'/\(as++bs).Perm (as'++bs')/\as'.length+1=as.length/\bs'.length=bs.length+1/\u9 [ζ (.ref j),a1,ζ (.ref n),ζ (.ref (n+1)),a4] c=.ok (.nx [ζ (.ref j),a1,ζ (.ref n),ζ (.ref (n+1)),a4]) c':=by
 obtain⟨g1,g2,⟨p,g3⟩,g4,g5⟩:=H;have ht:=take2 (cT:=(as.length:Int)) g3 (by omega) (by omega)
 have x0:=ag1 p (show(as.length:Int)≠0 by omega)
 have x1:=ag2 p (show(0:Int)<(as.length:Int) by omega)
 generalize p % (as.length:Int)=x at ht x0 x1
 obtain⟨i,rfl⟩:=vP x0
 generalize hc1:c.set j (.lst [.int (p/(as.length:Int))])=c1 at ht
 have hi:i<as.length:=by omega
 have l1:c1.length=n+2:=by rw[<-hc1];simp[g1]
 have q0:c1[j]? = ζ (.lst [.int (p/(as.length:Int))]):=by rw[<-hc1,agM (by omega)]
 have q1:c1[n]? = ζ (.lst (as.map λa=>cY f.q (sF f (1+a)))):=by rw[<-hc1,agz (by omega)];exact g4
 have q2:c1[n+1]? = ζ (.lst (bs.map λa=>cY f.q (sF f (1+a)))):=by rw[<-hc1,agz (by omega)];exact g5
 have hlen:bA [.ref n] c=.ok (.int (as.length:Int)) c:=by
  unfold bA;dsimp only[fW];rw[g4];simp
 have hget:(as.map λa=>cY f.q (sF f (1+a)))[i]? = ζ (cY f.q (sF f (1+as[i]))):=by simp[hi]
 have ZU:kh (ao 2) (aC 2 bJ (aq (ao 0) (aq (aO bA (aq (ao 2) au)) au))) [ζ (.ref j),a1,ζ (.ref n),ζ (.ref (n+1)),a4] c=.ok (cY f.q (sF f (1+as[i]))) (c1.set n (.lst ((as.eraseIdx i).map λa=>cY f.q (sF f (1+a))))):=by
  unfold kh;simp only[bK,gz,gs,R.aB,x_call,bH,gh,bQ,hlen,af0,agj,if_pos,ht,q1];rw[if_pos ⟨by omega,by simp;omega,by simp;omega⟩,aho,hget]
  dsimp only;rw[Ym]
 have q3:(c1.set n (.lst ((as.eraseIdx i).map λa=>cY f.q (sF f (1+a)))))[n+1]? = ζ (.lst (bs.map λa=>cY f.q (sF f (1+a)))):=by
  rw[agz (by omega)];exact q2
 refine⟨as.eraseIdx i,bs++[as[i]],(c1.set n (.lst ((as.eraseIdx i).map λa=>cY f.q (sF f (1+a))))).set (n+1) (.lst ((bs++[as[i]]).map λa=>cY f.q (sF f (1+a)))),⟨by simp[l1],g2,⟨_,by rw[agz (by omega),agz (by omega)];exact q0⟩,by rw[agz (by omega),agM (by omega)],by rw[agM (by simp;omega)]⟩,?_,by rw[akm hi];omega,by simp,?_⟩
 ·have p1:=(Ae hi).append_right bs;refine p1.trans ?_;rw[<-agy];refine List.Perm.trans ?_ (akd as[i] (as.eraseIdx i++bs)).symm;exact .refl _
 ·unfold u9;rw[iS];have:dH (ao 3) (kh (ao 2) (aC 2 bJ (aq (ao 0) (aq (aO bA (aq (ao 2) au)) au)))) [ζ (.ref j),a1,ζ (.ref n),ζ (.ref (n+1)),a4] c=.ok .aL ((c1.set n (.lst ((as.eraseIdx i).map λa=>cY f.q (sF f (1+a))))).set (n+1) (.lst ((bs++[as[i]]).map λa=>cY f.q (sF f (1+a))))):=by
   have sz:=lJ;unfold dH;have hv:(ao 3) [ζ (.ref j),a1,ζ (.ref n),ζ (.ref (n+1)),a4] c=.ok (.ref (n+1)) c:=rfl;rw[hv,R.aB];dsimp only;rw[ZU,R.aB];simp only[q3];rw[if_pos ⟨by simp;omega,Kz _ _⟩]
   simp
  rw[this];rfl
theorem IG{f:Fd}{j n:Nat}{a1:Option D}:∀(ks:List D) (as bs:List Nat) (a4:Option D) (c:aa),LF f j n as bs c->ks.length<=as.length->as.length+bs.length<100 ->
  ∃as' bs' v c',LF f j n as' bs' c'/\(as++bs).Perm (as'++bs')/\c7 (λ_=>True) (aA 4) u9 ks [ζ (.ref j),a1,ζ (.ref n),ζ (.ref (n+1)),a4] c=.ok (.nx [ζ (.ref j),a1,ζ (.ref n),ζ (.ref (n+1)),v]) c'
 |[],as,bs,a4,c,H,_,_=>⟨as,bs,a4,c,H,.refl _,by simp⟩
 |k::ks,as,bs,a4,c,H,hl,h2=>by
  rw[af0]at hl;obtain⟨as1,bs1,c1,H1,p1,l1,l2,e1⟩:=RU (a1:=a1) (a4:=ζ k) H (by omega) (by omega) (by omega)
  obtain⟨as2,bs2,v,c2,H2,p2,e2⟩:=IG ks as1 bs1 (ζ k) c1 H1 (by omega) (by omega)
  refine⟨as2,bs2,v,c2,H2,p1.trans p2,?_⟩;have g:aA 4 k [ζ (.ref j),a1,ζ (.ref n),ζ (.ref (n+1)),a4] c=.ok [ζ (.ref j),a1,ζ (.ref n),ζ (.ref (n+1)),ζ k] c:=rfl;rw[i6,g,R.aB,e1];exact e2
theorem HX:∀(l:List Nat) (c:aa) (n:Nat),iy c n (nD l)=ζ (nD l)
 |[],_,_=>rfl
 |x::l,c,n=>by
  show(match ff c n (.int (x:Nat)),iy c n (nD l)with|some a,ζ m=>ζ (a::m)|_,_=>η)=_
  rw[HX l c n];rfl
theorem Qs(n:Nat) (s:Nat->Nat->Nat) (c:aa) (k:Nat):ff c k (cY n s)=ζ (cY n s):=by
 have h:∀l:List Nat,iy c k (l.map λi=>D.tup (nD ((θ n).map (s i))))=ζ (l.map λi=>D.tup (nD ((θ n).map (s i)))):=λl=>by
  induction l with
  |nil=>rfl
  |cons i l ih =>
   show(match ff c k (.tup (nD ((θ n).map (s i)))),iy c k (l.map λi=>D.tup (nD ((θ n).map (s i))))with|some a,ζ m=>ζ (a::m)|_,_=>η)=_
   have:ff c k (.tup (nD ((θ n).map (s i))))=ζ (.tup (nD ((θ n).map (s i)))):=by
    show(match iy c k (nD ((θ n).map (s i)))with|some m=>ζ (D.tup m)|none=>η)=_
    rw[HX]
   rw[this,ih];rfl
 show(match iy c k ((θ n).map λi=>D.tup (nD ((θ n).map (s i))))with|some m=>ζ (D.tup m)|none=>η)=_
 rw[h];rfl
theorem HZ(n:Nat):∀(ss:List (Nat->Nat->Nat)) (c:aa) (k:Nat),iy c k (cI n ss)=ζ (cI n ss)
 |[],_,_=>rfl
 |s::ss,c,k=>by
  show(match ff c k (cY n s),iy c k (cI n ss)with|some a,ζ m=>ζ (a::m)|_,_=>η)=_
  rw[Qs,HZ n ss c k];rfl
theorem R9{y:Int}(y0:0<=y) (y1:y<6):(2+y=6)\/∃f∈b8,f.q<=7/\2+y=(f.q:Int)/\f.q≠6:=by
 have:y=0\/y=1\/y=2\/y=3\/y=4\/y=5:=by omega
 rcases this with rfl|rfl|rfl|rfl|rfl|rfl
 ·exact .inr ⟨b8[0],agi _,by decide,rfl,by decide⟩
 ·exact .inr ⟨b8[1],agi _,by decide,rfl,by decide⟩
 ·exact .inr ⟨b8[2],agi _,by decide,rfl,by decide⟩
 ·exact .inr ⟨b8[3],agi _,by decide,rfl,by decide⟩
 ·exact .inl rfl
 ·exact .inr ⟨b8[4],agi _,by decide,rfl,by decide⟩
theorem RY{j:Nat}{y:Int}{a1 a2 a3 a4:Option D}{c c1:aa}(t:bJ [.ref j,.int 6] c=.ok (.int y) c1):(aG 1 (av bu (dC (.int 2)) (aC 2 bJ (aq (ao 0) (aq (dC (.int 6)) au))))) [ζ (.ref j),a1,a2,a3,a4] c=.ok (.nx [ζ (.ref j),ζ (.int (2+y)),a2,a3,a4]) c1:=by simp[t]
def u7:ah:=(b7 (aV (av cj (ao 1) (dC (.int 6)))) (aS (cC (aq (ao 1) (aq (oQ (bG (aq (aC 2 nB (aq (ao 0) (aq (ao 1) au))) au)) oV (oR (aC 2 bJ (aq (ao 0) (aq (dC (.int 2)) au))))) au)))) ck)
theorem RV{N:Int}(h:N≠6) {a0 a2 a3 a4:Option D}{c:aa}:u7 [a0,ζ (.int N),a2,a3,a4] c=.ok (.nx [a0,ζ (.int N),a2,a3,a4]) c:=by simp[u7,h]
theorem RT{j:Nat}{T:D}{z:Int}{a2 a3 a4:Option D}{c c1 c2:aa}(t:nB [.ref j,.int 6] c=.ok T c1) (u:bJ [.ref j,.int 2] c1=.ok (.int z) c2):u7 [ζ (.ref j),ζ (.int 6),a2,a3,a4] c=.ok (.rt (.tup [.int 6,.lst (cutD [T] η (ζ z))])) c2:=by
 have t1:(1:Nat)<=Ω:=by decide
 have t2:(2:Nat)<=Ω:=by decide
 simp[u7,t,u,t1,t2,oQ,oV,oR,eZ]
theorem RX{f:Fd}(h:f∈b8) {N:Int}(hN:N=f.q) (h7:N<=7) {a0 a2 a3 a4:Option D}{c:aa}:(aG 2 (aC 1 vX (aq (ao 1) au))) [a0,ζ (.int N),a2,a3,a4] c=.ok (.nx [a0,ζ (.int N),ζ (.ref c.length),a3,a4]) (c++[.lst (FS f)]):=by
 simp[YF h hN h7 c]
theorem RW{a0 a1 a2 a3 a4:Option D}{c:aa}:(aG 3 (cV au)) [a0,a1,a2,a3,a4] c=.ok (.nx [a0,a1,a2,ζ (.ref c.length),a4]) (c++[.lst []]):=by simp[bX]
theorem Ia{j m:Nat}{c:aa}(P:dS j m c) {c':aa}(hl:m<=c'.length) (hp:∃p:Int,c'[j]? = ζ (.lst [.int p])):dS j m (c'.take m):=by
 obtain⟨h1,h2,_⟩:=P;obtain⟨p,hp⟩:=hp;exact⟨by simp;omega,h2,p,by rw[ahW,if_pos h2];exact hp⟩
theorem Qu{c:aa}{k n:Nat}{N:Int}{l:List D}(h:c[k]? = ζ (.lst l)) (hk:n<=k):ff c n (.tup [.int N,.ref k])=ζ (.tup [.int N,.lst l]):=by
 simp[ff,iy,h,hk]
theorem Qt{c:aa}{n m:Nat}{N:Int}{ss:List (Nat->Nat->Nat)}:ff c n (.tup [.int N,.lst (cI m ss)])=ζ (.tup [.int N,.lst (cI m ss)]):=by
 simp[ff,iy,HZ]
theorem RS{j m:Nat}{c:aa}(P:dS j m c):∃(n:Nat) (ss:List (Nat->Nat->Nat)) (c':aa),Net n ss/\dS j m c'/\l5 [.ref j] c=.ok (.tup [.int (n:Int),.lst (cI n ss)]) c':=by
 have hcl:c.length=m:=P.1;obtain⟨y,c1,y0,y1,P1,t1⟩:=jD (cT:=6) P (by decide) (by decide)
 have hb:uA=aE (aG 1 (av bu (dC (.int 2)) (aC 2 bJ (aq (ao 0) (aq (dC (.int 6)) au))))) (aE u7 (aE (aG 2 (aC 1 vX (aq (ao 1) au))) (aE (aG 3 (cV au)) (aE (bB (aZ (aq (aC 2 bJ (aq (ao 0) (aq (ao 1) au))) au)) (aA 4) u9) (aS (cC (aq (ao 1) (aq (ao 3) au)))))))):=rfl;have es:dI 5 [D.ref j]=[ζ (.ref j),η,η,η,η]:=rfl;have e0:=RY (a1:=η) (a2:=η) (a3:=η) (a4:=η) t1
 rcases R9 y0 y1 with h6|⟨f,hf,h7,hN,hn6⟩
 ·obtain⟨s,c2,hL,P2,t2⟩:=abB (n:=6) P1 (by decide) (by decide)
  obtain⟨z,c3,z0,z1,P3,t3⟩:=jD (cT:=2) P2 (by decide) (by decide)
  rw[h6]at e0;have e1:=RT (a2:=η) (a3:=η) (a4:=η) t2 t3;have hz:∃ss:List (Nat->Nat->Nat),ss.length<=1/\(∀x∈ss,x=s)/\cutD [cY 6 s] η (ζ z)=cI 6 ss:=by
   have:z=0\/z=1:=by omega
   rcases this with rfl|rfl
   ·exact⟨[],by simp,by simp,rfl⟩
   ·exact⟨[s],by simp,λx hx=>by simpa using hx,rfl⟩
  obtain⟨ss,hl,hs,hc⟩:=hz;rw[hc]at e1;refine⟨6,ss,c3.take c.length,⟨by decide,by decide,by omega,λx hx=>hs x hx▸hL,?_⟩,?_,?_⟩
  ·match ss,hl with
   |[],_=>exact .nil
   |[a],_=>exact List.pairwise_singleton _ _
  ·rw[hcl];exact Ia P (by rw[P3.1];exact afQ _) P3.2.2
  ·show mF 5 uA [.ref j] c=_;unfold mF;rw[es,hb,bI e0,IS e1,R.aB];dsimp only;unfold oK;rw[Qt];rfl
 ·generalize hNN:2+y=N at e0 hN
  have q2:=(fZ hf).q2;have e1:=RV (N:=N) (a0:=ζ (.ref j)) (a2:=η) (a3:=η) (a4:=η) (c:=c1) (by omega)
  have e2:=RX hf hN (by omega) (a0:=ζ (.ref j)) (a2:=η) (a3:=η) (a4:=η) (c:=c1)
  have e3:=RW (a0:=ζ (.ref j)) (a1:=ζ (.int N)) (a2:=ζ (.ref c1.length)) (a3:=η) (a4:=η) (c:=c1++[.lst (FS f)]);have l1:c1.length=m:=P1.1;have l2:(c1++[Cell.lst (FS f)]).length=m+1:=by simp[l1]
  rw[l1]at e2 e3;rw[l2]at e3;obtain⟨p,hp⟩:=P1.2.2;have hjm:=P1.2.1;have P2:dS j (m+2) (c1++[.lst (FS f)]++[.lst []]):=⟨by simp[l1],by omega,p,by rw[agy,agl (by omega)];exact hp⟩
  obtain⟨p2,hp2⟩:=P2.2.2;have t2:=take2 (cT:=N) hp2 (by omega) (by omega)
  have x0:=ag1 p2 (show N≠0 by omega)
  have x1:=ag2 p2 (show 0<N by omega)
  generalize p2 % N=z at t2 x0 x1
  have H:LF f j m (θ (f.q-1)) [] ((c1++[Cell.lst (FS f)]++[Cell.lst []]).set j (.lst [.int (p2/N)])):=by
   refine⟨by simp[l1],hjm,⟨_,by rw[agM (by simp;omega)]⟩,?_,?_⟩
   ·rw[agz (by omega),agl (by simp;omega),agD (by omega),l1,ahh]
    rfl
   ·rw[agz (by omega),agD (by simp;omega)]
    simp[l1]
  obtain⟨as',bs',v,c5,H5,nW,e4⟩:=IG (a1:=ζ (.int N)) (aT 0 z) (θ (f.q-1)) [] η _ H (by rw[sP];simp;omega) (by simp;omega)
  have hr:aZ (aq (aC 2 bJ (aq (ao 0) (aq (ao 1) au))) au) [ζ (.ref j),ζ (.int N),ζ (.ref m),ζ (.ref (m+1)),η] (c1++[.lst (FS f)]++[.lst []])=.ok ⟨aT 0 z,λ_=>True⟩ ((c1++[Cell.lst (FS f)]++[Cell.lst []]).set j (.lst [.int (p2/N)])):=by
   unfold aZ;simp only[bH,x_call,bK,gz,gs,bQ,R.aB,af0,agj,if_pos,t2];rw[if_pos (by omega)]
  have e4':bB (aZ (aq (aC 2 bJ (aq (ao 0) (aq (ao 1) au))) au)) (aA 4) u9 [ζ (.ref j),ζ (.int N),ζ (.ref m),ζ (.ref (m+1)),η] (c1++[.lst (FS f)]++[.lst []])=.ok (.nx [ζ (.ref j),ζ (.int N),ζ (.ref m),ζ (.ref (m+1)),v]) c5:=by
   rw[gx,hr,R.aB];exact e4
  have hnd:(as'++bs').Nodup:=nW.nodup_iff.mp (by simpa using ah9)
  have hmem:∀x∈as'++bs',x<f.q-1:=λx hx=>by
   have:=nW.mem_iff.mpr hx
   simpa using this
  have hlen:(as'++bs').length=f.q-1:=by rw[<-nW.length_eq];simp
  rw[ahV]at hnd;have Z4:=abg hf h7 hnd.2.1 (λx hx=>hmem x (agI _ hx)) (by rw[<-hlen];simp)
  refine⟨f.q,bs'.map λa=>sF f (1+a),c5.take c.length,Z4,?_,?_⟩
  ·rw[hcl];exact Ia P (by rw[H5.len];omega) H5.UR
  ·have Rb:(2:Nat)<=Ω:=by decide
   have e5:aS (cC (aq (ao 1) (aq (ao 3) au))) [ζ (.ref j),ζ (.int N),ζ (.ref m),ζ (.ref (m+1)),v] c5=.ok (.rt (.tup [.int N,.ref (m+1)])) c5:=by simp[Rb]
   show mF 5 uA [.ref j] c=_;unfold mF;rw[es,hb,bI e0,bI e1,bI e2,bI e3,bI e4',e5,R.aB];dsimp only;unfold oK;rw[Qu H5.fnd (by omega),<-hN]
   unfold cI;rw[af7];rfl
def aJ(rows:List (List Nat)):D:=.tup (rows.map λr=>.tup (nD r))
theorem mW(rows:List (List Nat)):noRef (aJ rows)=Δ:=by
 unfold aJ noRef;refine iP.mpr λd hd=>?_
 obtain⟨r,_,rfl⟩:=afW.mp hd;unfold noRef;exact tN r
theorem Jj(n:Nat):aT 0 (n:Int)=nD (θ n):=by
 apply ajq;intro i
 by_cases h:i<n
 ·have h1:i<(aT 0 (n:Int)).length:=by rw[d9];omega
  have:=nj (afV h1);rw[afV h1,this.2];simp[nD,h]
 ·rw[ahi (by rw[d9];omega),ahi (by simp[nD];omega)]
theorem uq{α:Type}{E:List (Option D)}{t:ai}{a:af}{c:aa}(g F:α->D) (b:α->Bool):∀(l:List α) (v:Option D) (acc:List D),(∀x∈l,t (ζ (g x)::E) c=.ok (b x) c)->(∀x∈l,b x=Δ->a (ζ (g x)::E) c=.ok (F x) c)->bO (λ_=>True) (aA 0) t a (l.map g) (v::E) acc c=.ok (acc++(l.filter b).map F) c
 |[],v,acc,_,_=>by simp
 |x::l,v,acc,h1,h2=>by
  have e1:aA 0 (g x) (v::E) c=.ok (ζ (g x)::E) c:=rfl;rw[af9,jQ,e1,R.aB,h1 x (.head _),R.aB];cases hb:b x with
  |true =>
   rw[if_pos rfl,h2 x (.head _) hb,R.aB,uq g F b l _ _ (λz hz=>h1 z (.tail _ hz)) (λz hz=>h2 z (.tail _ hz)),akG hb,agy]
   rfl
  |false =>
   rw[if_neg (by decide),uq g F b l _ _ (λz hz=>h1 z (.tail _ hz)) (λz hz=>h2 z (.tail _ hz)),akH (by simp[hb])]
def ni:ai:=(jr (aV (av eV (ao 0) (ao 1))) (aV (rL 2 2 lams (aq (ao 1) (aq (ao 0) au)))))
def cF(n:Nat) (f:Nat->Nat->Bool) (i:Nat):List Nat:=(θ n).filter λj=>decide (j≠i)&&f i j
def aH(n:Nat) (f:Nat->Nat->Bool):List (List Nat):=(θ n).map (cF n f)
section
variable {k n:Nat}{E:ν}{ns:List Str}{l:List D}{m:List D->aa->R D}{c:aa}{f:Nat->Nat->Bool}
theorem SY{one j:Nat}(hk:lams[k]? = ζ (E,ns,m)) (hl:fL l=Δ) (hm:j≠one->m ([.int one,.int j]++l) c=.ok (.bl (f one j)) c) :
  ni [ζ (.int j),ζ (.int one),ζ (.lam k E ns l)] c=.ok (decide (j≠one)&&f one j) c:=by
 unfold ni
 by_cases h:j=one
 ·subst h;simp
 ·have h':¬((j:Int)=one):=by omega
  have hc:rL 2 2 lams (aq (ao 1) (aq (ao 0) au)) [ζ (.int j),ζ (.int one),ζ (.lam k E ns l)] c=.ok (.bl (f one j)) c:=by
   rw[O5 2 2 lams _ _ c (k:=k) (Ex:=E) (ns:=ns) (l:=l) rfl hk];simp only[bH,bK,gz,gs,bQ,R.aB];rw[if_pos ⟨rfl,rfl,hl⟩];exact hm h
  simp[h,h',hc]
theorem S6{q:Int}{one L:D}{r:List D}(bq:-4611686018427387904<=q/\q<4611686018427387904) (hlen:(aT 0 q).length<Ω) (hc:bO (λ_=>True) (aA 0) ni (ao 0) (aT 0 q) [η,ζ one,ζ L] [] c=.ok r c) (nr:noRef (.tup r)=Δ):iY [.int q,one,L] c=.ok (.tup r) c:=by
 have hb:AD=aS (aO cP (aq (aY (aZ (aq (ao 0) au)) [η,ζ 1,ζ 2] (aA 0) ni (ao 0)) au)):=rfl;rw[iY,fC,hb];have es:dI 3 [D.int q,one,L]=[ζ (.int q),ζ one,ζ L]:=rfl;rw[es];simp only[iH,gh,bH,eX,ig,bK,gz,gs,bQ,R.aB];rw[if_pos (by omega)]
 simp only[R.aB];rw[if_pos hlen];have ep:dz [η,ζ 1,ζ 2] [ζ (D.int q),ζ one,ζ L]=[η,ζ one,ζ L]:=rfl;rw[ep,hc];simp only[R.aB];show c9 Θ c.length (.tup r) c=_;unfold c9;dsimp only;rw[if_pos nr,agV]
theorem O8{q:Int}{L:D}{r:List D}(bq:-4611686018427387904<=q/\q<4611686018427387904) (hlen:(aT 0 q).length<Ω) (hc:bO (λ_=>True) (aA 0) aM (aC 3 iY (aq (ao 1) (aq (ao 0) (aq (ao 2) au)))) (aT 0 q) [η,ζ (.int q),ζ L] [] c=.ok r c) (nr:noRef (.tup r)=Δ):jH [.int q,L] c=.ok (.tup r) c:=by
 have hb:Av=aS (aO cP (aq (aY (aZ (aq (ao 0) au)) [η,ζ 0,ζ 1] (aA 0) aM (aC 3 iY (aq (ao 1) (aq (ao 0) (aq (ao 2) au))))) au)):=rfl;rw[jH,fC,hb];have es:dI 2 [D.int q,L]=[ζ (.int q),ζ L]:=rfl;rw[es];simp only[iH,gh,bH,eX,ig,bK,gz,gs,bQ,R.aB];rw[if_pos (by omega)]
 simp only[R.aB];rw[if_pos hlen];have ep:dz [η,ζ 0,ζ 1] [ζ (D.int q),ζ L]=[η,ζ (.int q),ζ L]:=rfl;rw[ep,hc];simp only[R.aB];show c9 Θ c.length (.tup r) c=_;unfold c9;dsimp only;rw[if_pos nr,agV]
theorem XF{l:List D}(h:bX l=Δ):noRef (.tup l)=Δ:=by unfold noRef;exact h
theorem Lo(hn:n<1000):(aT 0 (n:Int)).length<Ω:=by
 have hs:=dJ (n:=1000) (by decide)
 rw[d9];omega
theorem Jg(hn:n<1000):-4611686018427387904<=(n:Int)/\(n:Int)<4611686018427387904:=by omega
theorem S8{one:Nat}{L:D}{r:List Nat}(hc:bO (λ_=>True) (aA 0) ni (ao 0) ((θ n).map λj:Nat=>D.int (j:Int)) [η,ζ (.int one),ζ L] [] c=.ok (r.map λj:Nat=>D.int (j:Int)) c):bO (λ_=>True) (aA 0) ni (ao 0) (aT 0 (n:Int)) [η,ζ (.int one),ζ L] [] c=.ok (nD r) c:=by rw[Jj];exact hc
theorem S7{one:Nat}{L:D}{r:List Nat}(hn:n<1000) (hc:bO (λ_=>True) (aA 0) ni (ao 0) ((θ n).map λj:Nat=>D.int (j:Int)) [η,ζ (.int one),ζ L] [] c=.ok (r.map λj:Nat=>D.int (j:Int)) c) :
  iY [.int n,.int one,L] c=.ok (.tup (nD r)) c:=S6 (Jg hn) (Lo hn) (S8 hc) (XF (tN _))
theorem S3{one:Nat}(hk:lams[k]? = ζ (E,ns,m)) (hl:fL l=Δ) (hn:n<1000) (hm:∀j,j<n->j≠one->m ([.int one,.int j]++l) c=.ok (.bl (f one j)) c) :
  iY [.int n,.int one,.lam k E ns l] c=.ok (.tup (nD (cF n f one))) c:=by
 have hc:=uq (E:=[ζ (.int one),ζ (.lam k E ns l)]) (t:=ni) (a:=ao 0) (c:=c) (λj:Nat=>D.int (j:Int)) (λj:Nat=>D.int (j:Int)) (λj=>decide (j≠one)&&f one j) (θ n) η [] (λj hj=>SY hk hl (hm j (afR.mp hj))) (λj _ _=>rfl)
 rw[agf]at hc;exact S7 hn hc
theorem acL{m:List D->aa->R D}{x y z:D}{r:R D}(h:m [x,y,z] c=r):(if[x,y,z].length=3 then m [x,y,z] c else .bad)=r:=by
 rw[if_pos (by rfl)];exact h
theorem Pc{L:D}{w:List (List Nat)}(hn:n<1000) (hc:bO (λ_=>True) (aA 0) aM (aC 3 iY (aq (ao 1) (aq (ao 0) (aq (ao 2) au)))) (aT 0 (n:Int)) [η,ζ (.int n),ζ L] [] c=.ok (w.map λr=>.tup (nD r)) c):jH [.int n,L] c=.ok (aJ w) c:=O8 (Jg hn) (Lo hn) hc (mW _)
theorem acD{m:List D->aa->R D}{x y z:D}{r:R D}(h:m [y,x,z] c=r):aC 3 m (aq (ao 1) (aq (ao 0) (aq (ao 2) au))) [ζ x,ζ y,ζ z] c=r:=by
 simp only[x_call,bH,bK,gz,gs,bQ,R.aB];exact acL h
theorem Pa{i:Nat}{L:D}{r:List Nat}(h:iY [.int n,.int i,L] c=.ok (.tup (nD r)) c):aC 3 iY (aq (ao 1) (aq (ao 0) (aq (ao 2) au))) [ζ (.int i),ζ (.int n),ζ L] c=.ok (.tup (nD r)) c:=acD h
theorem Pe{L:D}{g:Nat->List Nat}(h:∀i,i<n->iY [.int n,.int i,L] c=.ok (.tup (nD (g i))) c):bO (λ_=>True) (aA 0) aM (aC 3 iY (aq (ao 1) (aq (ao 0) (aq (ao 2) au)))) (aT 0 (n:Int)) [η,ζ (.int n),ζ L] [] c=.ok (((θ n).map g).map λr=>.tup (nD r)) c:=by
 have hc:=uq (E:=[ζ (.int n),ζ L]) (t:=aM) (a:=aC 3 iY (aq (ao 1) (aq (ao 0) (aq (ao 2) au)))) (c:=c) (λj:Nat=>D.int (j:Int)) (λj:Nat=>D.tup (nD (g j))) (λ_=>Δ) (θ n) η [] (λj hj=>rfl) (λi hi _=>Pa (h i (afR.mp hi)))
 have ft:(θ n).filter (λ_=>Δ)=θ n:=by simp
 rw[agf,ft]at hc;rw[af7,Jj];exact hc
theorem Hw(hk:lams[k]? = ζ (E,ns,m)) (hl:fL l=Δ) (hn:n<1000) (hm:∀i j,i<n->j<n->j≠i->m ([.int i,.int j]++l) c=.ok (.bl (f i j)) c) :
  jH [.int n,.lam k E ns l] c=.ok (aJ (aH n f)) c:=Pc hn (Pe λi hi=>S3 hk hl hn λj hj hne=>hm i j hi hj hne)
end
theorem NX{kk:Nat}{m:List D->aa->R D}{d1:af}{E:ν}{ns:List Str}{js:List Nat}{e:Ev}{c:aa}{x v:D}{l:List D}(h1:d1 e c=.ok x c) (hg:getAll e js=ζ l) (h2:m [x,.lam kk E ns l] c=.ok v c) (hv:noRef v=Δ):rK kk m d1 E ns js e c=.ok v c:=by
 unfold rK;rw[h1];simp only[R.aB];rw[hg];dsimp only;rw[h2];simp only[R.aB];rw[if_pos hv]
theorem JP{α:Type}{a:af}{c:aa}(g h F:α->D):∀(l:List α) (v w:Option D) (acc:List D),(∀x∈l,a [ζ (g x),ζ (h x)] c=.ok (F x) c)->bO (λ_=>True) (cS 2 (br (aA 0) (br (aA 1) cU))) aM a (l.map λx=>.tup [g x,h x]) [v,w] acc c=.ok (acc++l.map F) c
 |[],v,w,acc,_=>by simp
 |x::l,v,w,acc,H=>by
  have h1:cS 2 (br (aA 0) (br (aA 1) cU)) (.tup [g x,h x]) [v,w] c=.ok [ζ (g x),ζ (h x)] c:=rfl;rw[af9,jQ,h1,R.aB,lD,R.aB,if_pos rfl,H x (.head _),R.aB,JP g h F l _ _ _ (λz hz=>H z (.tail _ hz)),agy]
  rfl
theorem ac8(l:List Bool) (c:aa):uE [.lst (l.map D.bl)] c=.ok (.bl (l.any id)) c:=by
 unfold uE Di;dsimp only;rw[acS]
def rT(p q:List Nat):Bool:=(p.zip q).any λa=>decide (a.1=a.2)
theorem G8:∀(p q:List Nat),List.zipWith (λx y=>D.tup [x,y]) (nD p) (nD q)=(p.zip q).map λa=>D.tup [.int (a.1:Nat),.int (a.2:Nat)]
 |[],q=>by simp[nD]
 |a::p,[]=>by simp[nD]
 |a::p,b::q=>by
  have:=G8 p q;unfold nD at this ⊢;simp only[af9,ahs,ahJ]at this ⊢;rw[this]
theorem ado(p q:List Nat) (c:aa):bO (λ_=>True) (cS 2 (br (aA 0) (br (aA 1) cU))) aM (av cj (ao 0) (ao 1)) (List.zipWith (λx y=>D.tup [x,y]) (nD p) (nD q)) [η,η] [] c=.ok (((p.zip q).map λa=>decide ((a.1:Int)=(a.2:Int))).map D.bl) c:=by
 have:=JP (a:=(av cj (ao 0) (ao 1))) (c:=c) (λa:Nat×Nat=>D.int (a.1:Nat)) (λa=>.int (a.2:Nat)) (λa=>.bl (decide ((a.1:Int)=(a.2:Int)))) (p.zip q) η η [] (λa _=>by
  generalize ((a.1:Nat):Int)=x
  generalize ((a.2:Nat):Int)=y
  simp)
 rw[agf,<-G8]at this;rw[this,af7];rfl
def gU(n:Nat) (ss:List (Nat->Nat->Nat)) (i:Nat):List Nat:=[i/n,i % n]++ss.map λs=>s (i/n) (i % n)
theorem Ec(n:Nat) (ss:List (Nat->Nat->Nat)) (i:Nat):(gU n ss i).length=ss.length+2:=by simp[gU]
theorem XT(l:List Nat):bX (nD l)=Δ:=iP.mpr λd hd=>by
 obtain⟨k,_,rfl⟩:=afW.mp hd;rfl
def cL(n:Nat) (ss:List (Nat->Nat->Nat)):Nat->Nat->Bool:=λi j=>rT (gU n ss i) (gU n ss j)
def sm:Nat->(Nat->Nat)->Nat
 |0,_=>0
 |n+1,f=>sm n f+f n
theorem fV{f g:Nat->Nat}:∀{n:Nat},(∀i,i<n->f i=g i)->sm n f=sm n g
 |0,_=>rfl
 |n+1,h=>by rw[sm,sm,fV (n:=n) λi hi=>h i (by omega),h n (by omega)]
theorem sG(f g:Nat->Nat):∀n:Nat,sm n (λi=>f i+g i)=sm n f+sm n g
 |0=>rfl
 |n+1=>by rw[sm,sm,sm,sG f g n];omega
theorem pQ(a:Nat):∀n:Nat,sm n (λ_=>a)=n*a
 |0=>by simp[sm]
 |n+1=>by rw[sm,pQ a n,agJ]
theorem vc(f:Nat->Nat->Nat) (n:Nat):∀m:Nat,sm m (λi=>sm n (f i))=sm n (λk=>sm m (λi=>f i k))
 |0=>by simp only[sm];rw[pQ];rfl
 |m+1=>by rw[sm,vc f n m,<-sG];rfl
theorem kC(a b:Nat):∀{n t:Nat},t<n->sm n (λi=>if i=t then a else b)=a+(n-1)*b
 |0,t,h=>by omega
 |n+1,t,h=>by
  rw[sm]
  by_cases e:t=n
  ·subst e;rw[fV (g:=λ_=>b) λi hi=>if_neg (by omega),pQ,if_pos rfl]
   simp[ahQ]
  ·have hn:t<n:=by omega
   rw[kC a b hn,if_neg (by omega)]
   obtain⟨k,rfl⟩:∃k,n=k+1:=⟨n-1,by omega⟩
   simp[Nat.add_assoc,agJ]
theorem RZ{n t u:Nat}(ht:t<n) (hu:u<n) (h:t≠u):sm n (λi=>if i=t then 0 else if i=u then 0 else 1)=n-2:=by
 have h1:sm n (λi=>(if i=t then 0 else if i=u then 0 else 1)+(if i=u then 1 else 0))=n-1:=by
  rw[fV (g:=λi=>if i=t then 0 else 1),kC 0 1 ht]
  ·omega
  ·intro i _
   by_cases a:i=t
   ·have:i≠u:=by omega
    simp[a,h]
   ·by_cases b:i=u<;>simp[a,b]
    exact λe=>h e.symm
 rw[sG,kC 1 0 hu]at h1;omega
theorem B0(p:Nat->Bool):∀n:Nat,((θ n).filter p).length=sm n (λi=>(p i).toNat)
 |0=>rfl
 |n+1=>by
  rw[agW,ajF,agh,B0 p n,sm];cases h:p n<;>simp[h]
structure OA (n g:Nat) (l:Nat->Nat->Nat):Prop where
 lt:∀t i,t<g->i<n*n->l t i<n
 inj:∀t u i j,t<g->u<g->t≠u->i<n*n->j<n*n->l t i=l t j->l u i=l u j->i=j
theorem OA.one{n g:Nat}{l:Nat->Nat->Nat}(h:OA n g l) {t u a b:Nat}(ht:t<g) (hu:u<g) (ne:t≠u) (ha:a<n) (hb:b<n):∃i,i<n*n/\l t i=a/\l u i=b:=by
 have Lc:∀x y,x<n->y<n->n*x+y<n*n:=λx y hx hy=>by
  have:n*(x+1)<=n*n:=Nat.mul_le_mul_left n (by omega)
  rw[Nat.mul_add,Nat.mul_one]at this;omega
 have cut:∀x y x' y',y<n->y'<n->n*x+y=n*x'+y'->x=x'/\y=y':=λx y x' y' hy hy' e=>by
  have h0:0<n:=by omega
  have e1:(n*x+y)/n=x:=by rw[ajD h0,ajE hy];rfl
  have e2:(n*x'+y')/n=x':=by rw[ajD h0,ajE hy'];rfl
  have:x=x':=by rw[<-e1,<-e2,e]
  subst this;exact⟨rfl,by omega⟩
 have hp:((θ (n*n)).map λi=>n*l t i+l u i).Perm (θ (n*n)):=by
  apply yS
  ·apply XA;intro i j hi hj e;have:=cut _ _ _ _ (h.lt u i hu hi) (h.lt u j hu hj) e;exact h.inj t u i j ht hu ne hi hj this.1 this.2
  ·intro x hx;obtain⟨i,hi,rfl⟩:=afW.mp hx;have hi:=afR.mp hi;exact afR.mpr (Lc _ _ (h.lt t i ht hi) (h.lt u i hu hi))
  ·simp
 have hm:n*a+b∈(θ (n*n)).map λi=>n*l t i+l u i:=hp.mem_iff.mpr (afR.mpr (Lc _ _ ha hb))
 obtain⟨i,hi,e⟩:=afW.mp hm;have hi:=afR.mp hi;have:=cut _ _ _ _ (h.lt u i hu hi) hb e;exact⟨i,hi,this.1,this.2⟩
theorem toNat_and(a b:Bool):(a&&b).toNat=a.toNat*b.toNat:=by cases a<;>cases b<;>rfl
theorem yv{N i:Nat}(hi:i<N) {p:Nat->Bool}(h:∀k,k<N->(p k=Δ↔k=i)):sm N (λk=>(p k).toNat)=1:=by
 rw[fV (g:=λk=>if k=i then 1 else 0),kC 1 0 hi,Nat.mul_zero]
 intro k hk
 by_cases e:k=i
 ·rw[if_pos e,(h k hk).mpr e];rfl
 ·rw[if_neg e];cases q:p k with
  |true=>exact absurd ((h k hk).mp q) e
  |false=>rfl
theorem vd{N:Nat}{p:Nat->Bool}(h:∀k,k<N->p k=Θ):sm N (λk=>(p k).toNat)=0:=by
 rw[fV (g:=λ_=>0) λk hk=>by rw[h k hk];rfl,pQ,Nat.mul_zero]
theorem OA.line{n g:Nat}{l:Nat->Nat->Nat}(h:OA n g l) (g2:2<=g) {t a:Nat}(ht:t<g) (ha:a<n):sm (n*n) (λi=>(decide (l t i=a)).toNat)=n:=by
 obtain⟨u,hu,ne⟩:∃u,u<g/\t≠u:=by
  by_cases e:t=0
  ·exact⟨1,by omega,by omega⟩
  ·exact⟨0,by omega,by omega⟩
 have e1:sm (n*n) (λi=>(decide (l t i=a)).toNat)=sm (n*n) (λi=>sm n (λb=>(decide (l t i=a/\l u i=b)).toNat)):=fV λi hi=>by
  by_cases q:l t i=a
  ·rw[yv (h.lt u i hu hi) (p:=λb=>decide (l t i=a/\l u i=b))]
   ·simp[q]
   ·intro k _;simp[q];exact⟨λe=>e.symm,λe=>e.symm⟩
  ·rw[vd (p:=λb=>decide (l t i=a/\l u i=b))]
   ·simp[q]
   ·intro k _;simp[q]
 rw[e1,vc,fV (g:=λ_=>1),pQ,Nat.mul_one]
 intro b hb;obtain⟨i,hi,x,y⟩:=h.one ht hu ne ha hb;refine yv hi λk hk=>?_
 simp only[decide_eq_true_iff];exact⟨λq=>h.inj t u k i ht hu ne hk hi (by rw[q.1,x]) (by rw[q.2,y]),λe=>by subst e;exact⟨x,y⟩⟩
def iO(g:Nat) (l:Nat->Nat->Nat) (i j:Nat):Bool:=decide (j≠i)&&(θ g).any λt=>decide (l t i=l t j)
theorem OA.BQ{n g:Nat}{l:Nat->Nat->Nat}(h:OA n g l) {i j:Nat}(hi:i<n*n) (hj:j<n*n):(iO g l i j).toNat=sm g (λt=>(decide (j≠i)&&decide (l t i=l t j)).toNat):=by
 unfold iO
 by_cases e:j=i
 ·rw[vd]
  ·simp[e]
  ·intro k _;simp[e]
 ·cases q:(θ g).any λt=>decide (l t i=l t j)with
  |true =>
   obtain⟨t,ht,q⟩:=aha.mp q;have ht:=afR.mp ht;have q:=of_decide_eq_true q;rw[yv ht]
   ·simp[e]
   ·intro k hk;simp[e];refine⟨λx=>ajc λne=>e (h.inj t k i j ht hk (λy=>ne y.symm) hi hj q x).symm,λy=>by subst y;exact q⟩
  |false =>
   rw[vd]
   ·simp
   ·intro k hk;have:=aiP.mp q k (afR.mpr hk);simp at this;simp[this]
theorem OA.degree{n g:Nat}{l:Nat->Nat->Nat}(h:OA n g l) (g2:2<=g) {i:Nat}(hi:i<n*n):sm (n*n) (λj=>(iO g l i j).toNat)=g*(n-1):=by
 rw[fV λj hj=>h.BQ hi hj,vc,fV (g:=λ_=>n-1),pQ]
 intro t ht;have e:=h.line g2 ht (h.lt t i ht hi);have e2:sm (n*n) (λj=>(decide (l t j=l t i)).toNat)=sm (n*n) (λj=>(decide (j≠i)&&decide (l t i=l t j)).toNat+(if j=i then 1 else 0)):=fV λj _=>by
  by_cases a:j=i
  ·simp[a]
  ·have:(l t j=l t i)↔(l t i=l t j):=⟨λx=>x.symm,λx=>x.symm⟩
   simp[a,this]
 rw[e2,sG,kC 1 0 hi]at e;omega
theorem BZ(f:Nat->Nat) (a:Nat):∀n:Nat,sm n f*a=sm n λi=>f i*a
 |0=>by simp[sm]
 |n+1=>by rw[sm,sm,Nat.add_mul,BZ f a n]
theorem R0(f g:Nat->Nat) (m n:Nat):sm m f*sm n g=sm m λi=>sm n λk=>f i*g k:=by
 rw[BZ];refine fV λi _=>?_
 rw[ahR,BZ];exact fV λk _=>ahR _ _
def tK(n:Nat) (l:Nat->Nat->Nat) (i j t u:Nat):Nat:=sm (n*n) λe=>(decide (e≠i)&&decide (l t i=l t e)).toNat*(decide (e≠j)&&decide (l u j=l u e)).toNat
theorem OA.NI{n g:Nat}{l:Nat->Nat->Nat}(h:OA n g l) {i j:Nat}(hi:i<n*n) (hj:j<n*n):sm (n*n) (λe=>(iO g l i e&&iO g l j e).toNat)=sm g λt=>sm g λu=>tK n l i j t u:=by
 have e1:sm (n*n) (λe=>(iO g l i e&&iO g l j e).toNat)=sm (n*n) (λe=>sm g λt=>sm g λu=>(decide (e≠i)&&decide (l t i=l t e)).toNat*(decide (e≠j)&&decide (l u j=l u e)).toNat):=fV λe he=>by
  rw[toNat_and,h.BQ hi he,h.BQ hj he,R0]
 rw[e1,vc];refine fV λt _=>?_
 rw[vc];rfl
theorem zk{n:Nat}{l:Nat->Nat->Nat}{i j t u:Nat}:tK n l i j t u=sm (n*n) λe=>(decide (e≠i/\e≠j/\l t e=l t i/\l u e=l u j)).toNat:=fV λe _=>by
 rw[<-toNat_and]
 congr 1
 rw[ahe];simp only[af1,decide_eq_true_iff]
 constructor
 ·rintro ⟨⟨a,b⟩,c,d⟩;exact⟨a,c,b.symm,d.symm⟩
 ·rintro ⟨a,c,b,d⟩;exact⟨⟨a,b.symm⟩,c,d.symm⟩
theorem OA.Hq{n g:Nat}{l:Nat->Nat->Nat}(h:OA n g l) {i j t u:Nat}(hi:i<n*n) (hj:j<n*n) (ht:t<g) (hu:u<g) (ne:t≠u) (a:l t i≠l t j) (b:l u i≠l u j):tK n l i j t u=1:=by
 rw[zk];obtain⟨e,he,x,y⟩:=h.one ht hu ne (h.lt t i ht hi) (h.lt u j hu hj);refine yv he λk hk=>?_
 simp only[decide_eq_true_iff];refine⟨λq=>h.inj t u k e ht hu ne hk he (by rw[q.2.2.1,x]) (by rw[q.2.2.2,y]),λq=>?_⟩
 subst q;exact⟨λq=>by subst q;exact b y,λq=>by subst q;exact a x.symm,x,y⟩
theorem OA.Hi{n g:Nat}{l:Nat->Nat->Nat}(h:OA n g l) {i j t u:Nat}(hi:i<n*n) (hj:j<n*n) (ht:t<g) (hu:u<g) (ne:t≠u) (a:l t i=l t j\/l u i=l u j):tK n l i j t u=0:=by
 rw[zk];refine vd λk hk=>?_
 simp only[decide_eq_false_iff_not]
 rintro ⟨k1,k2,x,y⟩
 rcases a with a|a
 ·exact k2 (h.inj t u k j ht hu ne hk hj (by rw[x,a]) y)
 ·exact k1 (h.inj t u k i ht hu ne hk hi x (by rw[y,a]))
theorem Kn{n:Nat}{l:Nat->Nat->Nat}{i j t:Nat}(a:l t i≠l t j):tK n l i j t t=0:=by
 rw[zk];refine vd λk hk=>?_
 simp only[decide_eq_false_iff_not]
 rintro ⟨_,_,x,y⟩
 exact a (by rw[<-x,y])
theorem OA.OY{n g:Nat}{l:Nat->Nat->Nat}(h:OA n g l) (g2:2<=g) {i j t:Nat}(hi:i<n*n) (hj:j<n*n) (ne:i≠j) (ht:t<g) (a:l t i=l t j):tK n l i j t t=n-2:=by
 rw[zk];have e:=h.line g2 ht (h.lt t i ht hi);have e2:sm (n*n) (λk=>(decide (l t k=l t i)).toNat)=sm (n*n) (λk=>(decide (k≠i/\k≠j/\l t k=l t i/\l t k=l t j)).toNat+((if k=i then 1 else 0)+(if k=j then 1 else 0))):=fV λk _=>by
  by_cases x:k=i
  ·have:i≠j:=ne;subst x;simp[this]
  ·by_cases y:k=j
   ·subst y;have:k≠i:=x;simp[a,this]
   ·simp[x,y,a]
 rw[e2,sG,sG,kC 1 0 hi,kC 1 0 hj]at e;omega
theorem OA.apart{n g:Nat}{l:Nat->Nat->Nat}(h:OA n g l) {i j:Nat}(hi:i<n*n) (hj:j<n*n) (a:∀t,t<g->l t i≠l t j):sm (n*n) (λe=>(iO g l i e&&iO g l j e).toNat)=g*(g-1):=by
 rw[h.NI hi hj,fV (g:=λ_=>g-1),pQ]
 intro t ht;rw[fV (g:=λu=>if u=t then 0 else 1),kC 0 1 ht]
 ·omega
 ·intro u hu
  by_cases e:u=t
  ·subst e;rw[if_pos rfl,Kn (a u ht)]
  ·rw[if_neg e,h.Hq hi hj ht hu (λy=>e y.symm) (a t ht) (a u hu)]
theorem OA.Qm{n g:Nat}{l:Nat->Nat->Nat}(h:OA n g l) (g2:2<=g) {i j t:Nat}(hi:i<n*n) (hj:j<n*n) (ne:i≠j) (ht:t<g) (a:l t i=l t j):sm (n*n) (λe=>(iO g l i e&&iO g l j e).toNat)=n-2+(g-1)*(g-2):=by
 have cT:∀u,u<g->u≠t->l u i≠l u j:=λu hu e q=>ne (h.inj u t i j hu ht e hi hj q a)
 rw[h.NI hi hj,fV (g:=λk=>if k=t then n-2 else g-2),kC _ _ ht]
 intro k hk
 by_cases e:k=t
 ·subst e;rw[if_pos rfl,fV (g:=λu=>if u=k then n-2 else 0),kC _ _ hk]
  ·simp
  ·intro u hu
   by_cases e:u=k
   ·subst e;rw[if_pos rfl,h.OY g2 hi hj ne hu a]
   ·rw[if_neg e,h.Hi hi hj hk hu (λy=>e y.symm) (.inl a)]
 ·rw[if_neg e,fV (g:=λu=>if u=k then 0 else if u=t then 0 else 1),RZ hk ht e]
  intro u hu
  by_cases x:u=k
  ·subst x;rw[if_pos rfl,Kn (cT u hu e)]
  ·rw[if_neg x]
   by_cases y:u=t
   ·subst y;rw[if_pos rfl,h.Hi hi hj hk hu (λz=>x z.symm) (.inr a)]
   ·rw[if_neg y,h.Hq hi hj hk hu (λz=>x z.symm) (cT k hk e) (cT u hu y)]
def aK(p:Nat×Nat):D:=.tup [.int p.1,.int p.2]
theorem Ai:∀l:List Nat,f7 (nD l)=ζ (l.map λn:Nat=>PyData.int (n:Int))
 |[]=>rfl
 |n::ns=>by
  show(match fK (.int (n:Int)),f7 (nD ns)with|some a,ζ r=>ζ (a::r)|_,_=>η)=_
  rw[Ai ns];rfl
theorem FH(l:List Nat) (k:Nat):((l.map λn:Nat=>PyData.int (n:Int)).any λz=>z.eqv (.int (k:Int)))=decide (k∈l):=by
 rw[ajG,ahe,aha,decide_eq_true_eq];refine⟨fun⟨x,hx,e⟩=>?_,λh=>⟨k,h,?_⟩⟩
 ·have:(x:Int)=(k:Int):=by simpa[PyData.eqv]using e
  have:x=k:=by omega
  exact this▸hx
 ·simp[PyData.eqv]
theorem Xx(l:List Nat) (k:Nat) (c:aa):ji (.int (k:Int)) (.tup (nD l)) c=.ok (.bl (!decide (k∈l))) c:=by
 have h1:gb c (.int (k:Int))=ζ (.int (k:Int)):=rfl;have h2:gb c (.tup (nD l))=ζ (.tuple (l.map λn:Nat=>PyData.int (n:Int))):=by
  show(match f7 (nD l)with|some r=>ζ (PyData.tuple r)|none=>η)=_
  rw[Ai]
 unfold ji;rw[h1,h2];dsimp only;rw[if_pos (by simp[PyData.depth]),FH]
theorem LY(l:List Nat) (k:Nat) (c:aa):inD (.int (k:Int)) (.tup (nD l)) c=.ok (.bl (decide (k∈l))) c:=by
 have h1:gb c (.int (k:Int))=ζ (.int (k:Int)):=rfl;have h2:gb c (.tup (nD l))=ζ (.tuple (l.map λn:Nat=>PyData.int (n:Int))):=by
  show(match f7 (nD l)with|some r=>ζ (PyData.tuple r)|none=>η)=_
  rw[Ai]
 unfold inD;rw[h1,h2];dsimp only;rw[if_pos (by simp[PyData.depth]),FH]
theorem zK(w:List (List Nat)) (c:aa):bA [aJ w] c=.ok (.int (w.length:Nat)) c:=by
 unfold aJ;rw[Hs,afY]
theorem ua{w:List (List Nat)}{i:Nat}{r:List Nat}(h:w[i]? = ζ r) (c:aa):aF (aJ w) (.int (i:Int)) c=.ok (.tup (nD r)) c:=by
 unfold aJ;rw[Ht,gK (v:=.tup (nD r)) (by rw[af6,h];rfl)]
def pY(w:List (List Nat)) (i j:Nat):Bool:=!decide (j∈w.getD i [])
def cZ(w:List (List Nat)):List (List Nat):=aH w.length (pY w)
theorem KO:∀l:List Nat,fL (nD l)=Δ
 |[]=>rfl
 |n::l=>by
  show(fJ (.int n)&&fL (nD l))=Δ;rw[KO l];rfl
theorem XG(w:List (List Nat)):fJ (aJ w)=Δ:=by
 unfold aJ;show fL _=Δ
 induction w with
 |nil=>rfl
 |cons r w ih =>
  rw[af9];show(fJ (.tup (nD r))&&fL _)=Δ;rw[ih,Bool.and_true];exact KO r
theorem VW{w:List (List Nat)}(hn:w.length<1000) (c:aa):qj [aJ w] c=.ok (aJ (cZ w)) c:=by
 have hw:=Hw (k:=0) (n:=w.length) (E:=xR) (ns:=["web"]) (l:=[aJ w]) (m:=qy nL) (c:=c) (f:=pY w) rfl (by show(fJ (aJ w)&&fL [])=Δ;rw[XG];rfl) hn λi j hi hj hne=>by
  have h1:=ua (afV hi) c;have h2:=Xx w[i] j c;have e:pY w i j = !decide (j∈w[i]):=by unfold pY;rw[aga,afV hi];rfl
  rw[e];show nL [ζ (.int i),ζ (.int j),ζ (aJ w)] c=_;unfold nL;simp only[dX,bK,gz,gs,R.aB,h1];exact h2
 have hb:=NX (kk:=0) (m:=jH) (d1:=aO bA (aq (ao 0) au)) (E:=xR) (ns:=["web"]) (js:=[0]) (e:=[ζ (aJ w)]) (by simp only[gh,bH,bK,gz,bQ,R.aB];exact zK w c) rfl hw (mW _)
 rw[qj,fC];unfold AI;have es:dI 1 [aJ w]=[ζ (aJ w)]:=rfl;rw[es,iH,hb];simp only[R.aB];show c9 Θ c.length (aJ (cZ w)) c=_;have nr:=mW (cZ w);unfold aJ at nr ⊢;unfold c9;dsimp only;rw[if_pos nr,agV]
def jf(i:Nat) (r:List Nat):List (Nat×Nat):=(r.filter λj=>decide (i<j)).map λj=>(i,j)
def bz(w:List (List Nat)):List (Nat×Nat):=(w.mapIdx jf).flatten
theorem Qq(i:Nat) (r:List Nat) (v:Option D) (c:aa):bO (λ_=>True) (aA 0) (aV (av nH (ao 1) (ao 0))) (cC (aq (ao 1) (aq (ao 0) au))) (nD r) [v,ζ (.int i)] [] c=.ok ((jf i r).map aK) c:=by
 have h2:(2:Nat)<=Ω:=dJ (by decide)
 have:=uq (E:=[ζ (.int i)]) (t:=(aV (av nH (ao 1) (ao 0)))) (a:=(cC (aq (ao 1) (aq (ao 0) au)))) (c:=c) (λj:Nat=>D.int (j:Int)) (λj=>aK (i,j)) (λj=>decide (i<j)) r v [] (λj _=>by
  by_cases h:i<j
  ·have h':(i:Int)<j:=by omega
   simp[h,h']
  ·have h':¬(i:Int)<j:=by omega
   simp[h,h']) (λj _ _=>by simp[h2,aK])
 rw[agf]at this;unfold jf;rw[af7];exact this
def uX:ah:=(cK (gV (ao 1) (aY (eG (ao 3)) [η,ζ 2] (aA 0) (aV (av nH (ao 1) (ao 0))) (cC (aq (ao 1) (aq (ao 0) au))))))
theorem KN(l:List (Nat×Nat)):bX (l.map aK)=Δ:=iP.mpr λd hd=>by
 obtain⟨p,_,rfl⟩:=afW.mp hd;rfl
theorem Qo{i:Nat}{r:List Nat}{acc:List (Nat×Nat)}{c:aa}(a0:Option D) (hr:r.length<1000) (ha:acc.length+1000<1000000) :
  uX [a0,ζ (.ref c.length),ζ (.int i),ζ (.tup (nD r))] (c++[.lst (acc.map aK)])=.ok (.nx [a0,ζ (.ref c.length),ζ (.int i),ζ (.tup (nD r))]) (c++[.lst ((acc++jf i r).map aK)]):=by
 have hs:1000000<=Ω:=by decide
 have hc:=Qq i r η (c++[.lst (acc.map aK)]);have hl:(jf i r).length<=r.length:=by unfold jf;rw[afY];exact ahk _ _
 have hd:aY (eG (ao 3)) [η,ζ 2] (aA 0) (aV (av nH (ao 1) (ao 0))) (cC (aq (ao 1) (aq (ao 0) au))) [a0,ζ (.ref c.length),ζ (.int i),ζ (.tup (nD r))] (c++[.lst (acc.map aK)])=.ok (.lst ((jf i r).map aK)) (c++[.lst (acc.map aK)]):=by
  simp only[eX,Hl,bK,gz,gs,R.aB];rw[if_pos (by simp[nD];omega)]
  have ep:dz [η,ζ 2] [a0,ζ (D.ref c.length),ζ (.int i),ζ (.tup (nD r))]=[η,ζ (.int i)]:=rfl;rw[ep,hc];rfl
 have hx:gV (ao 1) (aY (eG (ao 3)) [η,ζ 2] (aA 0) (aV (av nH (ao 1) (ao 0))) (cC (aq (ao 1) (aq (ao 0) au)))) [a0,ζ (.ref c.length),ζ (.int i),ζ (.tup (nD r))] (c++[.lst (acc.map aK)])=.ok .aL (c++[.lst ((acc++jf i r).map aK)]):=by
  unfold gV;simp only[bK,gz,gs,R.aB,hd];have hg:(c++[Cell.lst (acc.map aK)])[c.length]? = ζ (.lst (acc.map aK)):=by simp
  rw[hg];dsimp only;rw[if_pos ⟨by simp only[afY];omega,KN _⟩]
  simp
 unfold uX;rw[iS,hx];rfl
theorem Qn(w:List (List Nat)) {i:Nat}(h:i<w.length):bz (w.take i)++jf i w[i]=bz (w.take (i+1)):=by
 unfold bz;rw[ah2 h,List.mapIdx_append,List.flatten_append];simp[aiH (ag4 h)]
theorem Iq{m:Nat}:∀{l:List Nat},(∀x∈l,x<=m)->l.sum<=l.length*m
 |[],_=>by simp
 |x::l,h=>by
  have h1:=h x (.head _);have h2:=Iq λy hy=>h y (.tail _ hy)
  rw[ajH,af0,agJ];omega
theorem Ql(w:List (List Nat)) (m:Nat) (h:∀r∈w,r.length<=m):(bz w).length<=w.length*m:=by
 unfold bz;rw[List.length_flatten];have:∀x∈(w.mapIdx jf).map List.length,x<=m:=λx hx=>by
  obtain⟨l,hl,rfl⟩:=afW.mp hx;obtain⟨i,hi,rfl⟩:=aiK.mp hl;refine agg ?_ (h _ (agi hi));unfold jf;rw[afY];exact ahk _ _
 have:=Iq this
 simpa using this
theorem HU{w:List (List Nat)}(hw:w.length<64) (hr:∀r∈w,r.length<=64) (c:aa):lY [aJ w] c=.ok (.lst ((bz w).map aK)) c:=by
 have hf:=jq (α:=Option D×Option D) (st:=λ_=>True) (g:=cS 2 (br (aA 2) (br (aA 3) cU))) (s:=uX) (λi=>c++[.lst ((bz (w.take i)).map aK)]) (λ_ v=>[ζ (aJ w),ζ (.ref c.length),v.1,v.2]) ((w.map λr=>D.tup (nD r)).mapIdx λi x=>.tup [.int i,x]) 0 (η,η) (λ_ _=>trivial) (λi x hx v=>by
  rw[age];have hi:i<w.length:=by have:=(af8.mp hx).1;simpa using this
  have ex:x=.tup [.int i,.tup (nD w[i])]:=by
   rw[aj5,af6,afV hi]at hx;cases hx;rfl
  subst ex;have hl:=Ql (w.take i) 64 λr h=>hr r (agv h)
  have h3:(w.take i).length*64<=64*64:=ahv (by rw[ag7];omega) (afQ _)
  have hs:=Qo (i:=i) (r:=w[i]) (acc:=bz (w.take i)) (c:=c) (ζ (aJ w)) (by have:=hr _ (agi hi);omega) (by omega)
  rw[Qn w hi]at hs;exact⟨_,by simp,(ζ (.int i),ζ (.tup (nD w[i]))),hs⟩)
 obtain⟨v',hf⟩:=hf;have mz:((w.map λr=>D.tup (nD r)).mapIdx λi x=>D.tup [.int i,x]).length=w.length:=by simp
 rw[age,mz,agV]at hf;have e0:bz (w.take 0)=[]:=rfl;rw[e0,aiU]at hf;have hb:Ay=aE (aG 1 (cV au)) (aE (bB (mK (aq (ao 0) au)) (cS 2 (br (aA 2) (br (aA 3) cU))) uX) (aS (ao 1))):=rfl;have h0:(0:Nat)<=Ω:=agR _;rw[lY,fC,hb];have es:dI 4 [aJ w]=[ζ (aJ w),η,η,η]:=rfl;have e1:aG 1 (cV au) [ζ (aJ w),η,η,η] c=.ok (.nx [ζ (aJ w),ζ (.ref c.length),η,η]) (c++[.lst []]):=by simp
 have e2:bB (mK (aq (ao 0) au)) (cS 2 (br (aA 2) (br (aA 3) cU))) uX [ζ (aJ w),ζ (.ref c.length),η,η] (c++[.lst []])=.ok (.nx [ζ (aJ w),ζ (.ref c.length),v'.1,v'.2]) (c++[.lst ((bz w).map aK)]):=by
  rw[gx];unfold mK;simp only[bH,bK,gz,bQ,R.aB];exact hf
 rw[es,bI e1,bI e2];simp only[iH,bK,gz,gs,R.aB];show c9 Θ c.length (.ref c.length) (c++[.lst ((bz w).map aK)])=_;simp[c9]
structure Wk (w:List (List Nat)):Prop where
 len:w.length<64
 row:∀r∈w,Up r/\∀x∈r,x<w.length
theorem Wk.short{w:List (List Nat)}(h:Wk w) {r:List Nat}(hr:r∈w):r.length<=w.length:=BN (h.row r hr).1 (h.row r hr).2
def ek(w:List (List Nat)) (p:Nat×Nat):Nat:=mO (w.getD p.1 []) (w.getD p.2 [])
theorem K3{w:List (List Nat)}(h:Wk w) {r:List Nat}(hr:r∈w) (c:aa):lV c (.tup (nD r))=ζ r:=by
 obtain⟨h1,h2⟩:=h.row r hr;have hl:=h.len;have:=BN (lG r) (m:=w.length) (λx hx=>h2 x (lW.mp hx))
 exact zA (by omega) λx hx=>by have:=h2 x hx;omega
theorem YI{a b:aj}{e:Ev}{c:aa}{x y:D}{ns ms:List Nat}(ha:a e c=.ok [x] c) (hb:b e c=.ok [y] c) (hx:lV c x=ζ ns) (hy:lV c y=ζ ms):ux a b e c=.ok (.int (mO ns ms:Nat)) c:=by
 unfold ux;rw[ha];simp only[R.aB];rw[hx];dsimp only;rw[hb];simp only[R.aB];rw[hy]
theorem NG{w:List (List Nat)}(h:Wk w) {a b:Nat}(ha:a<w.length) (hb:b<w.length) (c:aa):nG [aJ w,.int a,.int b] c=.ok (.int (ek w (a,b):Nat)) c:=by
 have h1:=ua (afV ha) c;have h2:=ua (afV hb) c;have e:ux (aq (av aF (ao 0) (ao 1)) au) (aq (av aF (ao 0) (ao 2)) au) [ζ (aJ w),ζ (.int a),ζ (.int b)] c=.ok (.int (mO w[a] w[b]:Nat)) c :=
  YI (x:=.tup (nD w[a])) (y:=.tup (nD w[b])) (by simp only[bH,dX,bK,gz,gs,bQ,R.aB,h1]) (by simp only[bH,dX,bK,gz,gs,bQ,R.aB,h2]) (K3 h (agi ha) c) (K3 h (agi hb) c)
 have e2:ek w (a,b)=mO w[a] w[b]:=by
  unfold ek;rw[aga,aga,afV ha,afV hb];rfl
 rw[nG,fC];unfold A9;have es:dI 3 [aJ w,.int a,.int b]=[ζ (aJ w),ζ (.int a),ζ (.int b)]:=rfl;rw[es,iH,e,e2];simp[c9,noRef]
def jh(w:List (List Nat)):Option Nat:=w.findIdx? λr=>decide (r.length≠(w.getD 0 []).length)
def cg:Option Nat->D
 |some i=>.int (i:Nat)
 |none=>.aL
def vA:ah:=(b7 (aV (av eV (aO bA (aq (ao 2) au)) (aO bA (aq (av aF (ao 0) (dC (.int 0))) au)))) (aS (ao 1)) ck)
theorem UZ{W:D}{r r0:List Nat}{i:Nat}{c:aa}(h0:aF W (.int 0) c=.ok (.tup (nD r0)) c):vA [ζ W,ζ (.int i),ζ (.tup (nD r))] c=if r.length≠r0.length then .ok (.rt (.int i)) c else .ok (.nx [ζ W,ζ (.int i),ζ (.tup (nD r))]) c:=by
 have l1:(nD r).length=r.length:=by simp[nD]
 have l0:(nD r0).length=r0.length:=by simp[nD]
 unfold vA
 by_cases e:r.length=r0.length
 ·simp[h0,l1,l0,e]
 ·have e':¬((r.length:Int)=(r0.length:Int)):=by omega
  simp[h0,l1,l0,e,e']
theorem JA{W:D}{r0:List Nat}{c:aa}(h0:aF W (.int 0) c=.ok (.tup (nD r0)) c):∀(w:List (List Nat)) (k:Nat) (v1 v2:Option D),∃u1 u2,c7 (λ_=>True) (cS 2 (br (aA 1) (br (aA 2) cU))) vA ((w.map λr=>D.tup (nD r)).mapIdx λi x=>.tup [.int ((k+i:Nat):Int),x]) [ζ W,v1,v2] c =
  (match w.findIdx? λr=>decide (r.length≠r0.length)with|some i=>.ok (.rt (.int ((k+i:Nat):Int))) c|none=>.ok (.nx [ζ W,u1,u2]) c)
 |[],k,v1,v2=>⟨v1,v2,by simp⟩
 |r::w,k,v1,v2=>by
  have hg:cS 2 (br (aA 1) (br (aA 2) cU)) (.tup [.int ((k+0:Nat):Int),.tup (nD r)]) [ζ W,v1,v2] c=.ok [ζ W,ζ (.int ((k+0:Nat):Int)),ζ (.tup (nD r))] c:=rfl;have hs:=UZ (i:=k+0) (r:=r) h0;rw[af9,List.mapIdx_cons,i6,hg,R.aB,hs,List.findIdx?_cons]
  by_cases e:r.length=r0.length
  ·obtain⟨u1,u2,ih⟩:=JA h0 w (k+1) (ζ (.int ((k+0:Nat):Int))) (ζ (.tup (nD r)));refine⟨u1,u2,?_⟩;rw[if_neg (by simp[e])]
   simp only[R.aB];have e1:((w.map λr=>D.tup (nD r)).mapIdx λi x=>D.tup [.int ((k+(i+1):Nat):Int),x])=((w.map λr=>D.tup (nD r)).mapIdx λi x=>D.tup [.int ((k+1+i:Nat):Int),x]):=by
    congr 1;funext i x;congr 4;omega
   rw[e1,ih];simp only[e,ne_eq,not_true_eq_false,decide_false];cases w.findIdx? λr=>decide (r.length≠r0.length)with
   |none=>rfl
   |some i =>
    simp only[Option.map_some]
    congr 4;omega
  ·refine⟨η,η,?_⟩;rw[if_pos (by simpa using e)]
   simp only[R.aB];simp[e]
theorem UX{w:List (List Nat)}(h0:0<w.length) (c:aa):t7 [aJ w] c=.ok (cg (jh w)) c:=by
 have hi:aF (aJ w) (.int 0) c=.ok (.tup (nD (w.getD 0 []))) c:=by
  have:=ua (afV h0) c;rw[aga,afV h0];exact this
 obtain⟨u1,u2,hf⟩:=JA hi w 0 η η;simp only[age]at hf;have e2:bB (mK (aq (ao 0) au)) (cS 2 (br (aA 1) (br (aA 2) cU))) vA [ζ (aJ w),η,η] c=(match jh w with|some i=>.ok (.rt (.int (i:Int))) c|none=>.ok (.nx [ζ (aJ w),u1,u2]) c):=by
  rw[gx];unfold mK;simp only[bH,bK,gz,bQ,R.aB];exact hf
 have hb:A6=aE (bB (mK (aq (ao 0) au)) (cS 2 (br (aA 1) (br (aA 2) cU))) vA) (aS (dC .aL)):=rfl;rw[t7,fC,hb];have es:dI 3 [aJ w]=[ζ (aJ w),η,η]:=rfl;rw[es,g9,e2];cases jh w with
 |none=>simp[cg,c9,noRef]
 |some i=>simp[cg,c9,noRef]
def bY(w:List (List Nat)):List (Nat×Nat)->Option Nat
 |[]=>η
 |p::_=>ζ (ek w p)
def uG(w:List (List Nat)) (ps:List (Nat×Nat)):Prop:=∀p∈ps,p.1<w.length/\p.2<w.length
theorem JT(o:Option Nat):noRef (cg o)=Δ/\∀k,cg o≠.ref k:=by
 cases o<;>exact⟨rfl,λk h=>by cases h⟩
theorem zN(p:Nat×Nat) (c:aa):aF (aK p) (.int 0) c=.ok (.int p.1) c:=rfl
theorem zM(p:Nat×Nat) (c:aa):aF (aK p) (.int 1) c=.ok (.int p.2) c:=rfl
theorem B3{w:List (List Nat)}(h:Wk w) {ps:List (Nat×Nat)}(hp:uG w ps) (c:aa):jZ [aJ w,.lst (ps.map aK)] c=.ok (cg (bY w ps)) c:=by
 rw[jZ];refine pV ?_ (JT _).1 (JT _).2;have es:dI 2 [aJ w,.lst (ps.map aK)]=[ζ (aJ w),ζ (.lst (ps.map aK))]:=rfl;rw[es];unfold AB;cases ps with
 |nil=>simp[sf,eZ,fW,bY,cg]
 |cons p ps =>
  have h1:aF (.lst ((p::ps).map aK)) (.int 0) c=.ok (aK p) c:=by
   have:=gK (xs:=(p::ps).map aK) (j:=0) (v:=aK p) rfl;rw[lE];exact(by rw[show((0:Int))=((0:Nat):Int)from rfl,this])
  obtain⟨p1,p2⟩:=hp p (.head _);have hc:=Ft (m:=nG) (d1:=ao 0) (d2:=av aF (av aF (ao 1) (dC (.int 0))) (dC (.int 0))) (d3:=av aF (av aF (ao 1) (dC (.int 0))) (dC (.int 1))) (e:=[ζ (aJ w),ζ (.lst ((p::ps).map aK))]) (c:=c) rfl (by simp only[dX,bK,iI,gz,gs,R.aB,h1,zN]) (by simp only[dX,bK,iI,gz,gs,R.aB,h1,zM]) (NG h p1 p2 c)
  have ht:Aj (ao 1) [ζ (aJ w),ζ (.lst ((p::ps).map aK))] c=.ok Δ c:=by simp[sf,eZ,fW]
  rw[iH,O3,ht];simp only[R.aB];rw[if_pos trivial,hc];rfl
def uR:ah:=(b7 (aV (av eV (aC 3 nG (aq (ao 0) (aq (av aF (ao 3) (dC (.int 0))) (aq (av aF (ao 3) (dC (.int 1))) au)))) (ao 2))) (aS (ao 3)) ck)
def lH(w:List (List Nat)) (s:Nat) (ps:List (Nat×Nat)):Option (Nat×Nat):=ps.find? λp=>decide (ek w p≠s)
theorem Zu{d2:af}{e:Ev}{c:aa}{a s:Nat}{t u:ah}{d1:af}(h1:d1 e c=.ok (.int (a:Int)) c) (h2:d2 e c=.ok (.int (s:Int)) c):b7 (aV (av eV d1 d2)) t u e c=if a≠s then t e c else u e c:=by
 by_cases q:a=s
 ·subst q;simp[h1,h2]
 ·have q':¬((a:Int)=s):=by omega
  simp[h1,h2,q,q']
theorem Pz{w:List (List Nat)}(h:Wk w) {p:Nat×Nat}(hp:p.1<w.length/\p.2<w.length) {s:Nat}(a1:Option D) (c:aa):uR [ζ (aJ w),a1,ζ (.int s),ζ (aK p)] c=if ek w p≠s then .ok (.rt (aK p)) c else .ok (.nx [ζ (aJ w),a1,ζ (.int s),ζ (aK p)]) c:=by
 have hc:=Ft (m:=nG) (d1:=ao 0) (d2:=av aF (ao 3) (dC (.int 0))) (d3:=av aF (ao 3) (dC (.int 1))) (e:=[ζ (aJ w),a1,ζ (.int s),ζ (aK p)]) (c:=c) rfl (by simp only[dX,bK,iI,gz,gs,R.aB,zN]) (by simp only[dX,bK,iI,gz,gs,R.aB,zM]) (NG h hp.1 hp.2 c)
 unfold uR;rw[Zu hc rfl];rfl
theorem HD{w:List (List Nat)}(h:Wk w) {s:Nat}{a1:Option D}{c:aa}:∀(ps:List (Nat×Nat)) (v:Option D),uG w ps->∃u,c7 (λ_=>True) (aA 3) uR (ps.map aK) [ζ (aJ w),a1,ζ (.int s),v] c=(match lH w s ps with|some p=>.ok (.rt (aK p)) c|none=>.ok (.nx [ζ (aJ w),a1,ζ (.int s),u]) c)
 |[],v,_=>⟨v,by simp[lH]⟩
 |p::ps,v,hp=>by
  obtain⟨u,ih⟩:=HD (a1:=a1) h ps (ζ (aK p)) λq hq=>hp q (.tail _ hq)
  have hs:=Pz h (hp p (.head _)) (s:=s) a1 c;have hg:aA 3 (aK p) [ζ (aJ w),a1,ζ (.int s),v] c=.ok [ζ (aJ w),a1,ζ (.int s),ζ (aK p)] c:=rfl
  by_cases e:ek w p=s
  ·refine⟨u,?_⟩;rw[af9,i6,hg,R.aB,hs,if_neg (by simp[e])]
   simp only[R.aB];rw[ih];unfold lH;rw[aj8 (by simp[e])]
  ·refine⟨u,?_⟩;rw[af9,i6,hg,R.aB,hs,if_pos (by simpa using e)]
   unfold lH;rw[aj7 (by simpa using e)]
   rfl
def pairD:Option (Nat×Nat)->D
 |some p=>aK p
 |none=>.aL
def fD(w:List (List Nat)) (ps:List (Nat×Nat)):Option (Nat×Nat):=match ps with
 |[]=>η
 |p::ps=>lH w (ek w p) (p::ps)
theorem JO(o:Option (Nat×Nat)):noRef (pairD o)=Δ/\∀k,pairD o≠.ref k:=by
 cases o<;>exact⟨rfl,λk h=>by cases h⟩
theorem PD{w:List (List Nat)}(h:Wk w) {ps:List (Nat×Nat)}(hp:uG w ps) (c:aa):qp [aJ w,.lst (ps.map aK)] c=.ok (pairD (fD w ps)) c:=by
 have hs:=lg (m:=jZ) (d1:=ao 0) (d2:=ao 1) (e:=[ζ (aJ w),ζ (.lst (ps.map aK)),η,η]) (c:=c) rfl rfl (B3 h hp c);have e0:aG 2 (aC 2 jZ (aq (ao 0) (aq (ao 1) au))) [ζ (aJ w),ζ (.lst (ps.map aK)),η,η] c=.ok (.nx [ζ (aJ w),ζ (.lst (ps.map aK)),ζ (cg (bY w ps)),η]) c:=by
  rw[gg,hs];rfl
 have hb:A7=aE (aG 2 (aC 2 jZ (aq (ao 0) (aq (ao 1) au)))) (aE (bB (dG (ao 1)) (aA 3) uR) (aS (dC .aL))):=rfl;rw[qp];refine pV ?_ (JO _).1 (JO _).2;have es:dI 4 [aJ w,.lst (ps.map aK)]=[ζ (aJ w),ζ (.lst (ps.map aK)),η,η]:=rfl;rw[es,hb,bI e0];cases ps with
 |nil =>
  rw[g9,gx];unfold dG;simp[fD,pairD]
 |cons p ps =>
  obtain⟨u,hf⟩:=HD (s:=ek w p) (a1:=ζ (.lst ((p::ps).map aK))) h (c:=c) (p::ps) η hp;have e1:bB (dG (ao 1)) (aA 3) uR [ζ (aJ w),ζ (.lst ((p::ps).map aK)),ζ (cg (bY w (p::ps))),η] c=(match lH w (ek w p) (p::ps)with|some p=>.ok (.rt (aK p)) c|none=>.ok (.nx [ζ (aJ w),ζ (.lst ((p::ps).map aK)),ζ (.int (ek w p:Nat)),u]) c):=by
   rw[gx];unfold dG;simp only[bK,gz,gs,R.aB];exact hf
  have eu:fD w (p::ps)=lH w (ek w p) (p::ps):=rfl;rw[g9,e1,eu];cases lH w (ek w p) (p::ps)with
  |none=>simp[pairD]
  |some p=>simp[pairD]
def EZ:ah:=(aE (aG 6 (aC 2 qp (aq (ao 0) (aq (ao 5) au)))) (b7 (aV (av kQ (ao 6) (dC .aL))) (aS (cC (aq (ao 4) (aq (av aF (ao 6) (dC (.int 0))) (aq (av aF (ao 6) (dC (.int 1))) au))))) ck))
theorem Qg{d1 d2 d3:af}{e:Ev}{c:aa}{x y z:D}(h1:d1 e c=.ok x c) (h2:d2 e c=.ok y c) (h3:d3 e c=.ok z c):cC (aq d1 (aq d2 (aq d3 au))) e c=.ok (.tup [x,y,z]) c:=by
 have:(3:Nat)<=Ω:=dJ (by decide)
 simp only[x9,bH,h1,h2,h3,bQ,R.aB];rw[if_pos (by exact this)]
theorem M8{w:List (List Nat)}(h:Wk w) {ps:List (Nat×Nat)}(hp:uG w ps) {c:aa}(a1 a2 a3 a6:Option D) (word:Str):∃u,EZ [ζ (aJ w),a1,a2,a3,ζ (.str word),ζ (.lst (ps.map aK)),a6] c=(match fD w ps with
  |some p=>.ok (.rt (.tup [.str word,.int p.1,.int p.2])) c
  |none=>.ok (.nx [ζ (aJ w),a1,a2,a3,ζ (.str word),ζ (.lst (ps.map aK)),u]) c):=by
 have hs:=lg (m:=qp) (d1:=ao 0) (d2:=ao 5) (e:=[ζ (aJ w),a1,a2,a3,ζ (.str word),ζ (.lst (ps.map aK)),a6]) (c:=c) rfl rfl (PD h hp c);have e0:aG 6 (aC 2 qp (aq (ao 0) (aq (ao 5) au))) [ζ (aJ w),a1,a2,a3,ζ (.str word),ζ (.lst (ps.map aK)),a6] c=.ok (.nx [ζ (aJ w),a1,a2,a3,ζ (.str word),ζ (.lst (ps.map aK)),ζ (pairD (fD w ps))]) c:=by
  rw[gg,hs];rfl
 refine⟨ζ (pairD (fD w ps)),?_⟩;unfold EZ;rw[bI e0];cases fD w ps with
 |none=>simp[pairD,iZ]
 |some p =>
  have h3:=Qg (x:=.str word) (y:=.int p.1) (z:=.int p.2) (d1:=ao 4) (d2:=av aF (ao 6) (dC (.int 0))) (d3:=av aF (ao 6) (dC (.int 1))) (e:=[ζ (aJ w),a1,a2,a3,ζ (.str word),ζ (.lst (ps.map aK)),ζ (aK p)]) (c:=c) rfl (by simp only[dX,bK,iI,gz,gs,R.aB,zN]) (by simp only[dX,bK,iI,gz,gs,R.aB,zM])
  have hn:aV (av kQ (ao 6) (dC .aL)) [ζ (aJ w),a1,a2,a3,ζ (.str word),ζ (.lst (ps.map aK)),ζ (aK p)] c=.ok Δ c:=rfl;show b7 _ _ _ [ζ (aJ w),a1,a2,a3,ζ (.str word),ζ (.lst (ps.map aK)),ζ (aK p)] c=_;rw[jz,hn];simp only[R.aB];rw[if_pos trivial,iH,h3];rfl
def wM(w:List (List Nat)):D:=match jh w with
 |some i=>.tup [.str "place",.int (i:Nat)]
 |none=>match fD w (bz w)with
  |some p=>.tup [.str "tied",.int p.1,.int p.2]
  |none=>match fD w (bz (cZ w))with
   |some p=>.tup [.str "apart",.int p.1,.int p.2]
   |none=>.tup [.str "even",.tup [.int (w.length:Nat),.int ((w.getD 0 []).length:Nat),cg (bY w (bz w)),cg (bY w (bz (cZ w)))]]
theorem HV{w:List (List Nat)}{m:Nat}(hl:w.length<=m) (h:∀r∈w,∀x∈r,x<m):∀p∈bz w,p.1<m/\p.2<m:=λp hp=>by
 unfold bz at hp;obtain⟨l,hl',hp⟩:=akI.mp hp;obtain⟨i,hi,rfl⟩:=aiK.mp hl';unfold jf at hp;obtain⟨j,hj,rfl⟩:=afW.mp hp;exact⟨by simp only;omega,h _ (agi hi) j (agm.mp hj).1⟩
theorem yh(n:Nat) (f:Nat->Nat->Bool):∀r∈aH n f,r.length<=n/\∀x∈r,x<n:=λr hr=>by
 obtain⟨i,_,rfl⟩:=afW.mp hr;unfold cF;refine⟨?_,λx hx=>afR.mp (agm.mp hx).1⟩
 have:=ahk (λj=>decide (j≠i)&&f i j) (θ n)
 rwa[ag0]at this
theorem gj(n:Nat) (f:Nat->Nat->Bool):(aH n f).length=n:=by simp[aH]
theorem pH{d1 d2:af}{e:Ev}{c:aa}{x y:D}(h1:d1 e c=.ok x c) (h2:d2 e c=.ok y c):cC (aq d1 (aq d2 au)) e c=.ok (.tup [x,y]) c:=by
 have:(2:Nat)<=Ω:=dJ (by decide)
 simp only[x9,bH,h1,h2,bQ,R.aB];rw[if_pos (by exact this)]
theorem Qf{d1 d2 d3 d4:af}{e:Ev}{c:aa}{x y z u:D}(h1:d1 e c=.ok x c) (h2:d2 e c=.ok y c) (h3:d3 e c=.ok z c) (h4:d4 e c=.ok u c):cC (aq d1 (aq d2 (aq d3 (aq d4 au)))) e c=.ok (.tup [x,y,z,u]) c:=by
 have:(4:Nat)<=Ω:=dJ (by decide)
 simp only[x9,bH,h1,h2,h3,h4,bQ,R.aB];rw[if_pos (by exact this)]
theorem abr{w:List (List Nat)}(h:Wk w) (h0:0<w.length) (c:aa):qq [aJ w] c=.ok (wM w) c:=by
 have hl:=h.len;have Mg:=HU (w:=w) hl (λr hr=>by have:=h.short hr;omega) c
 have j6:(cZ w).length=w.length:=gj _ _;have Mm:=HU (w:=cZ w) (by omega) (λr hr=>by have:=(yh _ _ r hr).1;omega) c
 have ZX:=VW (w:=w) (by omega) c
 have p1:uG w (bz w):=HV (afQ _) λr hr x hx=>(h.row r hr).2 x hx
 have p2:uG w (bz (cZ w)):=HV (ag9 j6) λr hr x hx=>(yh _ _ r hr).2 x hx
 generalize hps:bz w=ps at Mg p1
 generalize ZS:bz (cZ w)=qs at Mm p2
 have hi:aF (aJ w) (.int 0) c=.ok (.tup (nD (w.getD 0 []))) c:=by
  have:=ua (afV h0) c;rw[aga,afV h0];exact this
 have hev:wM w=match jh w with
  |some i=>.tup [.str "place",.int (i:Nat)]
  |none=>match fD w ps with
   |some p=>.tup [.str "tied",.int p.1,.int p.2]
   |none=>match fD w qs with
    |some p=>.tup [.str "apart",.int p.1,.int p.2]
    |none=>.tup [.str "even",.tup [.int (w.length:Nat),.int ((w.getD 0 []).length:Nat),cg (bY w ps),cg (bY w qs)]]:=by
  unfold wM;rw[hps,ZS]
  all_goals
   cases jh w with
   |some i=>rfl
   |none =>
    cases fD w ps with
    |some p=>rfl
    |none=>cases fD w qs<;>rfl
 rw[qq,hev];have nr3:∀(x:Str) (p:Nat×Nat),noRef (.tup [.str x,.int p.1,.int p.2])=Δ:=λx p=>rfl
 have e0:=iL (i:=1) (e:=[ζ (aJ w),η,η,η,η,η,η]) (lq (m:=t7) (d1:=ao 0) rfl (UX h0 c));have hb:xC=aE (aG 1 (aC 1 t7 (aq (ao 0) au))) (aE (b7 (aV (av kQ (ao 1) (dC .aL))) (aS (cC (aq (dC (.str "place")) (aq (ao 1) au)))) ck) (aE (aG 2 (aC 1 lY (aq (ao 0) au))) (aE (aG 3 (aC 1 lY (aq (aC 1 qj (aq (ao 0) au)) au))) (aE (bB (eG (cC (aq (cC (aq (dC (.str "tied")) (aq (ao 2) au))) (aq (cC (aq (dC (.str "apart")) (aq (ao 3) au))) au)))) (cS 2 (br (aA 4) (br (aA 5) cU))) EZ) (aS (cC (aq (dC (.str "even")) (aq (cC (aq (aO bA (aq (ao 0) au)) (aq (aO bA (aq (av aF (ao 0) (dC (.int 0))) au)) (aq (aC 2 jZ (aq (ao 0) (aq (ao 2) au))) (aq (aC 2 jZ (aq (ao 0) (aq (ao 3) au))) au))))) au)))))))):=rfl;have es:dI 7 [aJ w]=[ζ (aJ w),η,η,η,η,η,η]:=rfl;have main:∀v,(match jh w with
  |some i=>(.tup [.str "place",.int (i:Nat)]:D)
  |none=>match fD w ps with
   |some p=>.tup [.str "tied",.int p.1,.int p.2]
   |none=>match fD w qs with
    |some p=>.tup [.str "apart",.int p.1,.int p.2]
    |none=>.tup [.str "even",.tup [.int (w.length:Nat),.int ((w.getD 0 []).length:Nat),cg (bY w ps),cg (bY w qs)]])=v->xC [ζ (aJ w),η,η,η,η,η,η] c=.ok (.rt v) c/\noRef v=Δ/\∀k,v≠.ref k:=by
  intro v hv;rw[hb,bI e0];show aE _ _ [ζ (aJ w),ζ (cg (jh w)),η,η,η,η,η] c=_/\_;cases hpl:jh w with
  |some i =>
   rw[hpl]at hv;dsimp only at hv;subst hv;refine⟨?_,rfl,λk h=>by cases h⟩
   have ht:=pH (d1:=dC (.str "place")) (d2:=ao 1) (e:=[ζ (aJ w),ζ (cg (ζ i)),η,η,η,η,η]) (c:=c) (x:=.str "place") (y:=.int (i:Nat)) rfl rfl;have hn:aV (av kQ (ao 1) (dC .aL)) [ζ (aJ w),ζ (cg (ζ i)),η,η,η,η,η] c=.ok Δ c:=rfl;rw[g9,jz,hn];simp only[R.aB];rw[if_pos trivial,pU ht];rfl
  |none =>
   rw[hpl]at hv;dsimp only at hv;have e1:b7 (aV (av kQ (ao 1) (dC .aL))) (aS (cC (aq (dC (.str "place")) (aq (ao 1) au)))) ck [ζ (aJ w),ζ (cg η),η,η,η,η,η] c=.ok (.nx [ζ (aJ w),ζ .aL,η,η,η,η,η]) c:=rfl;have e2:=iL (i:=2) (e:=[ζ (aJ w),ζ .aL,η,η,η,η,η]) (lq (m:=lY) (d1:=ao 0) rfl Mg);have e3:=iL (i:=3) (e:=[ζ (aJ w),ζ .aL,ζ (.lst (ps.map aK)),η,η,η,η]) (lq (m:=lY) (d1:=aC 1 qj (aq (ao 0) au)) (lq (m:=qj) (d1:=ao 0) rfl ZX) Mm);rw[bI e1,bI e2];show aE _ _ [ζ (aJ w),ζ .aL,ζ (.lst (ps.map aK)),η,η,η,η] c=_/\_;rw[bI e3];show aE _ _ [ζ (aJ w),ζ .aL,ζ (.lst (ps.map aK)),ζ (.lst (qs.map aK)),η,η,η] c=_/\_;have ZL:eG (cC (aq (cC (aq (dC (.str "tied")) (aq (ao 2) au))) (aq (cC (aq (dC (.str "apart")) (aq (ao 3) au))) au))) [ζ (aJ w),ζ .aL,ζ (.lst (ps.map aK)),ζ (.lst (qs.map aK)),η,η,η] c=.ok ⟨[.tup [.str "tied",.lst (ps.map aK)],.tup [.str "apart",.lst (qs.map aK)]],λ_=>True⟩ c:=by
    rw[Hl,pH (pH (x:=.str "tied") (y:=.lst (ps.map aK)) rfl rfl) (pH (x:=.str "apart") (y:=.lst (qs.map aK)) rfl rfl)];rfl
   obtain⟨u1,f1⟩:=M8 h p1 (c:=c) (ζ .aL) (ζ (.lst (ps.map aK))) (ζ (.lst (qs.map aK))) η "tied"
   rw[g9,gx,ZL];simp only[R.aB];have hg1:cS 2 (br (aA 4) (br (aA 5) cU)) (.tup [.str "tied",.lst (ps.map aK)]) [ζ (aJ w),ζ .aL,ζ (.lst (ps.map aK)),ζ (.lst (qs.map aK)),η,η,η] c=.ok [ζ (aJ w),ζ .aL,ζ (.lst (ps.map aK)),ζ (.lst (qs.map aK)),ζ (.str "tied"),ζ (.lst (ps.map aK)),η] c:=rfl;rw[i6,hg1,R.aB,f1];cases hu:fD w ps with
   |some p =>
    rw[hu]at hv;dsimp only at hv;subst hv;exact⟨rfl,rfl,λk h=>by cases h⟩
   |none =>
    rw[hu]at hv;dsimp only at hv;simp only[R.aB];obtain⟨u2,f2⟩:=M8 h p2 (c:=c) (ζ .aL) (ζ (.lst (ps.map aK))) (ζ (.lst (qs.map aK))) u1 "apart"
    have jK:cS 2 (br (aA 4) (br (aA 5) cU)) (.tup [.str "apart",.lst (qs.map aK)]) [ζ (aJ w),ζ .aL,ζ (.lst (ps.map aK)),ζ (.lst (qs.map aK)),ζ (.str "tied"),ζ (.lst (ps.map aK)),u1] c=.ok [ζ (aJ w),ζ .aL,ζ (.lst (ps.map aK)),ζ (.lst (qs.map aK)),ζ (.str "apart"),ζ (.lst (qs.map aK)),u1] c:=rfl;rw[i6,jK,R.aB,f2];cases L8:fD w qs with
    |some p =>
     rw[L8]at hv;dsimp only at hv;subst hv;exact⟨rfl,rfl,λk h=>by cases h⟩
    |none =>
     rw[L8]at hv;dsimp only at hv;subst hv;simp only[R.aB];rw[EU];simp only[R.aB];have s1:=B3 h p1 c;have s2:=B3 h p2 c;have Z9:bA [.tup (nD (w.getD 0 []))] c=.ok (.int ((w.getD 0 []).length:Nat)) c:=by rw[Hs];simp[nD]
     refine⟨pU (pH (x:=.str "even") rfl (Qf (iR (x:=aJ w) rfl (zK w c)) (iR (x:=.tup (nD (w.getD 0 []))) (by simp only[dX,bK,iI,gz,R.aB];exact hi) Z9) (lg (x:=aJ w) (y:=.lst (ps.map aK)) rfl rfl s1) (lg (x:=aJ w) (y:=.lst (qs.map aK)) rfl rfl s2))),?_,λk h=>by cases h⟩
     cases bY w ps<;>cases bY w qs<;>rfl
 obtain⟨m1,m2,m3⟩:=main _ rfl;exact pV (by rw[es];exact m1) m2 m3
def oW(ss:List (Nat->Nat->Nat)):List (Nat->Nat->Nat):=(λx _=>x)::(λ_ y=>y)::ss
theorem YE(n:Nat) (ss:List (Nat->Nat->Nat)) (i:Nat):gU n ss i=(oW ss).map λs=>s (i/n) (i % n):=by simp[gU,oW]
def nJ(n:Nat) (ss:List (Nat->Nat->Nat)) (t i:Nat):Nat:=(gU n ss i).getD t 0
theorem Of:∀{p q:List Nat}{g:Nat},p.length=g->q.length=g->rT p q=(θ g).any λt=>decide (p.getD t 0=q.getD t 0)
 |[],[],g,h,_=>by subst h;rfl
 |[],_::_,g,h,h'=>by simp at h h';omega
 |_::_,[],g,h,h'=>by simp at h h';omega
 |a::p,b::q,g,h,h'=>by
  obtain⟨k,rfl⟩:∃k,g=k+1:=⟨p.length,by simpa using h.symm⟩
  have ih:=Of (p:=p) (q:=q) (g:=k) (by simpa using h) (by simpa using h')
  rw[ajI,ah8,ajG];unfold rT at ih ⊢;rw[ahJ,ah8,ih];rfl
theorem fy.ir{n:Nat}{s:Nat->Nat->Nat}(h:fy n s) {x y y':Nat}(hx:x<n) (hy:y<n) (hy':y'<n) (e:s x y=s x y'):y=y':=DP ((h.row x hx).nodup_iff.mpr ah9) hy hy' e
theorem fy.ic{n:Nat}{s:Nat->Nat->Nat}(h:fy n s) {x x' y:Nat}(hx:x<n) (hx':x'<n) (hy:y<n) (e:s x y=s x' y):x=x':=DP (f:=λi=>s i y) ((h.col y hy).nodup_iff.mpr ah9) hx hx' e
section
variable {n:Nat}{ss:List (Nat->Nat->Nat)}
theorem Net.pair(H:Net n ss):(oW ss).Pairwise (mS n):=by
 refine ahj.mpr ⟨λs hs=>?_,ahj.mpr ⟨λs hs=>?_,H.acr⟩⟩
 ·rcases afT.mp hs with rfl|hs
  ·exact λx y x' y' _ _ _ _ e f=>⟨e,f⟩
  ·exact λx y x' y' a b c d e f=>⟨e,(H.lat s hs).ir a b d (by have e:x=x':=e;subst e;exact f)⟩
 ·exact λx y x' y' a b c d e f=>⟨(H.lat s hs).ic a c b (by have e:y=y':=e;subst e;exact f),e⟩
theorem Net.small(H:Net n ss) {s:Nat->Nat->Nat}(hs:s∈oW ss) {x y:Nat}(hx:x<n) (hy:y<n):s x y<n:=by
 rcases afT.mp hs with rfl|hs
 ·exact hx
 rcases afT.mp hs with rfl|hs
 ·exact hy
 ·exact(H.lat s hs).lt hx hy
theorem wc{t:Nat}(ht:t<(oW ss).length) (i:Nat):nJ n ss t i=(oW ss)[t] (i/n) (i % n):=by
 unfold nJ;rw[YE,aga,af6,afV ht];rfl
theorem Net.oa(H:Net n ss):OA n (ss.length+2) (nJ n ss):=by
 have n0:0<n:=by have:=H.two;omega
 have dv:∀i,i<n*n->i/n<n:=λi hi=>akJ hi
 have md:∀i,i % n<n:=λi=>ah5 _ n0
 constructor
 ·intro t i ht hi;rw[wc ht];exact H.small (agi _) (dv i hi) (md i)
 ·intro t u i j ht hu ne hi hj e f;rw[wc ht,wc ht]at e;rw[wc hu,wc hu]at f;have I:mS n (oW ss)[t] (oW ss)[u]:=by
   rcases aiJ ne with h|h
   ·exact ait.mp H.pair t u ht hu h
   ·exact mS.symm (ait.mp H.pair u t hu ht h)
  have:=I _ _ _ _ (dv i hi) (md i) (dv j hj) (md j) e f;rw[<-akK i n,<-akK j n,this.1,this.2]
theorem DO(i j:Nat):cL n ss i j=(θ (ss.length+2)).any λt=>decide (nJ n ss t i=nJ n ss t j):=Of (Ec _ _ _) (Ec _ _ _)
theorem C7(i:Nat):cF (n*n) (cL n ss) i=(θ (n*n)).filter (iO (ss.length+2) (nJ n ss) i):=by
 unfold cF iO;simp only[DO]
theorem je{N:Nat}{f:Nat->Nat->Bool}{i:Nat}(hi:i<N):(aH N f).getD i []=cF N f i:=by
 unfold aH;rw[aga,af6,agG hi];rfl
theorem gi{N:Nat}{f:Nat->Nat->Bool}{i j:Nat}:j∈cF N f i↔j<N/\j≠i/\f i j=Δ:=by
 unfold cF;simp[agm]
theorem Pu{N:Nat}{f:Nat->Nat->Bool}(h:N<64):Wk (aH N f):=by
 refine⟨by rw[gj];exact h,λr hr=>?_⟩
 obtain⟨i,_,rfl⟩:=afW.mp hr;exact⟨aia aib aiw,λx hx=>by rw[gj];exact(gi.mp hx).1⟩
theorem tR{w:List (List Nat)}{p:Nat×Nat}:p∈bz w↔p.1<w.length/\p.2∈w.getD p.1 []/\p.1<p.2:=by
 unfold bz;rw[akI]
 constructor
 ·rintro ⟨l,hl,hp⟩
  obtain⟨i,hi,rfl⟩:=aiK.mp hl;unfold jf at hp;obtain⟨j,hj,rfl⟩:=afW.mp hp;rw[agm]at hj;refine⟨hi,?_,of_decide_eq_true hj.2⟩;simp only[aga,afV hi];exact hj.1
 ·rintro ⟨h,a,b⟩
  refine⟨_,aiK.mpr ⟨p.1,h,rfl⟩,afW.mpr ⟨p.2,agm.mpr ⟨?_,decide_eq_true b⟩,rfl⟩⟩;simp only[aga,afV h]at a;exact a
theorem HG{w:List (List Nat)}{s:Nat}:∀{ps:List (Nat×Nat)},(∀p∈ps,ek w p=s)->fD w ps=η
 |[],_=>rfl
 |p::ps,h=>by
  unfold fD lH;rw[ajd];intro q hq;rw[h p (.head _),h q hq];simp
theorem UY{w:List (List Nat)}{k:Nat}(h:∀r∈w,r.length=k) (h0:0<w.length):jh w=η:=by
 unfold jh;rw[ajh];intro r hr;have:w.getD 0 []∈w:=by
  rw[aga,afV h0];exact agi _
 rw[h r hr,h _ this];simp
theorem Net.oN(H:Net n ss) {i:Nat}(hi:i<n*n):(cF (n*n) (cL n ss) i).length=(ss.length+2)*(n-1):=by
 rw[C7,B0,H.oa.degree (by omega) hi]
theorem Net.comm(H:Net n ss) {i j:Nat}(hi:i<n*n) (hj:j<n*n):ek (aH (n*n) (cL n ss)) (i,j)=sm (n*n) (λe=>(iO (ss.length+2) (nJ n ss) i e&&iO (ss.length+2) (nJ n ss) j e).toNat):=by
 unfold ek;rw[je hi,je hj,<-B0];refine(As (aia aib ah9) λx=>?_).symm
 rw[C7,C7];simp only[agm,af1];exact⟨λq=>⟨⟨q.1,q.2.1⟩,q.1,q.2.2⟩,λq=>⟨q.1.1,q.1.2,q.2.2⟩⟩
theorem Net.near(H:Net n ss) {p:Nat×Nat}(hp:p∈bz (aH (n*n) (cL n ss))):ek (aH (n*n) (cL n ss)) p=n-2+(ss.length+1)*ss.length:=by
 obtain⟨h1,h2,h3⟩:=tR.mp hp;rw[gj]at h1;rw[je h1]at h2;obtain⟨a,b,e⟩:=gi.mp h2;rw[DO]at e;obtain⟨t,ht,e⟩:=aha.mp e;have:=H.oa.Qm (by omega) h1 a (by omega) (afR.mp ht) (of_decide_eq_true e)
 rw[<-H.comm h1 a]at this;exact this
theorem Net.cT(H:Net n ss) {p:Nat×Nat}(hp:p∈bz (cZ (aH (n*n) (cL n ss)))):ek (aH (n*n) (cL n ss)) p=(ss.length+2)*(ss.length+1):=by
 obtain⟨h1,h2,h3⟩:=tR.mp hp;unfold cZ at h1 h2;rw[gj,gj]at h1;rw[gj,je h1]at h2;obtain⟨a,b,e⟩:=gi.mp h2;unfold pY at e;rw[je h1]at e;have e:¬p.2∈cF (n*n) (cL n ss) p.1:=by simpa using e
 have q:cL n ss p.1 p.2=Θ:=by
  cases q:cL n ss p.1 p.2 with
  |true=>exact absurd (gi.mpr ⟨a,b,q⟩) e
  |false=>rfl
 rw[DO]at q;have:=H.oa.apart h1 a λt ht x=>by
  have:=aiP.mp q t (afR.mpr ht);exact this (decide_eq_true x)
 rw[<-H.comm h1 a]at this;exact this
end
def eW(ps:List (Nat×Nat)) (r:Nat):List Nat:=ps.filterMap λp=>if p.1=r then ζ p.2 else if p.2=r then ζ p.1 else η
def uF(m:Nat) (ps:List (Nat×Nat)):Prop:=∀p∈ps,p.1≠p.2/\p.1<m/\p.2<m
theorem ads{m:Nat}{ps:List (Nat×Nat)}(h:uF m ps) (r x:Nat) (hx:x∈eW ps r):x<m:=by
 obtain⟨p,hp,e⟩:=ahw.mp hx;have:=h p hp;split at e
 ·cases e;omega
 ·split at e
  ·cases e;omega
  ·cases e
theorem adt(ps:List (Nat×Nat)) (r:Nat):(eW ps r).length<=ps.length:=List.length_filterMap_le _ _
theorem adq(ps:List (Nat×Nat)) (p:Nat×Nat) (r:Nat):eW (ps++[p]) r=eW ps r++(if p.1=r then[p.2]else if p.2=r then[p.1]else[]):=by
 unfold eW;rw[List.filterMap_append]
 congr 1
 by_cases h1:p.1=r
 ·simp[h1]
 ·by_cases h2:p.2=r
  ·simp[h1,h2]
  ·simp[h1,h2]
def eN(m:Nat) (f:Nat->List Nat):aa:=(θ m).map λr=>.lst (nD (f r))
def fG(n m:Nat):List D:=(θ m).map λr=>.ref (n+r)
theorem C5{m r:Nat}(f:Nat->List Nat) (c:aa) (h:r<m):(c++eN m f)[c.length+r]? = ζ (.lst (nD (f r))):=by
 rw[agD (by omega)]
 simp[eN,h]
theorem Jl{n m r:Nat}(h:r<m):cX (fG n m) (r:Int)=ζ (.ref (n+r)):=gK (by simp[fG,h])
theorem Ja{m r x:Nat}(f:Nat->List Nat) (c:aa) (h:r<m):(c++eN m f).set (c.length+r) (.lst (nD (f r)++[.int x]))=c++eN m (λz=>if z=r then f z++[x]else f z):=by
 rw[akE _ _ (by omega)]
 congr 1
 rw[akL];apply aiv
 ·simp[eN]
 ·intro i h1 h2;rw[List.getElem_set];simp only[eN,akB,ahX]
  by_cases e:r=i
  ·subst e;simp[nD]
  ·rw[if_neg e,if_neg (agx e)]
theorem NB:∀(items:List D) (e:Ev) (acc:List D) (c:aa),e.length=1->bO (λ_=>True) (aA 0) aM (cV au) items e acc c=.ok (acc++fG c.length items.length) (c++eN items.length λ_=>[])
 |[],e,acc,c,_=>by simp[fG,eN]
 |x::xs,e,acc,c,he=>by
  rw[jQ];have h1:aA 0 x e c=.ok (e.set 0 (ζ x)) c:=rfl;have h2:cV au (e.set 0 (ζ x)) c=.ok (.ref c.length) (c++[.lst []]):=by
   have:(0:Nat)<=Ω:=agR _;simp
  rw[h1,R.aB,lD,R.aB,if_pos rfl,h2,R.aB,NB xs _ _ _ (by simpa using he)]
  have e1:acc++[D.ref c.length]++fG (c++[Cell.lst []]).length xs.length=acc++fG c.length (x::xs).length:=by
   rw[agy,agh,af0,agj]
   congr 1
   unfold fG;rw[af0,ajI,af9,af7];simp only[aiA,agf,ahU]
   congr 1
   refine agp λr _=>?_
   simp only[Function.comp]
   congr 1;omega
  have e2:c++[Cell.lst []]++eN xs.length (λ_=>[])=c++eN (x::xs).length λ_=>[]:=by
   rw[agy]
   congr 1
   unfold eN;rw[af0,ajI,af9,af7];rfl
  rw[e1,e2]
def r9:ah:=(aE (cK (dH (av aF (ao 2) (ao 3)) (ao 4))) (cK (dH (av aF (ao 2) (ao 4)) (ao 3))))
theorem Pj{m a b:Nat}{f:Nat->List Nat}{c:aa}(a0 a1:Option D) (ha:a<m) (hb:b<m) (hab:a≠b) (hl:∀r,(f r).length<2000) :
  r9 [a0,a1,ζ (.lst (fG c.length m)),ζ (.int a),ζ (.int b)] (c++eN m f)=.ok (.nx [a0,a1,ζ (.lst (fG c.length m)),ζ (.int a),ζ (.int b)]) (c++eN m λr=>if r=a then f r++[b]else if r=b then f r++[a]else f r):=by
 have hs:=(show 3000<=Ω by decide)
 have h1:∀c',aF (.lst (fG c.length m)) (.int a) c'=.ok (.ref (c.length+a)) c':=λc'=>by rw[lE,Jl ha]
 have h2:∀c',aF (.lst (fG c.length m)) (.int b) c'=.ok (.ref (c.length+b)) c':=λc'=>by rw[lE,Jl hb]
 have g1:=C5 f c ha;have g2:=C5 (λz=>if z=a then f z++[b]else f z) c hb
 have l1:=hl a;have l2:=hl b;have s1:=Ja (x:=b) f c ha;have s2:=Ja (x:=a) (λz=>if z=a then f z++[b]else f z) c hb
 have XS:¬b=a:=λz=>hab z.symm
 simp only[if_neg XS]at g2 s2;have k1:dH (av aF (ao 2) (ao 3)) (ao 4) [a0,a1,ζ (.lst (fG c.length m)),ζ (.int a),ζ (.int b)] (c++eN m f)=.ok .aL (c++eN m λz=>if z=a then f z++[b]else f z):=by
  unfold dH;simp only[dX,bK,gz,gs,R.aB,h1];rw[g1];dsimp only;rw[if_pos ⟨by simp only[afY];omega,rfl⟩,s1]
 have k2:dH (av aF (ao 2) (ao 4)) (ao 3) [a0,a1,ζ (.lst (fG c.length m)),ζ (.int a),ζ (.int b)] (c++eN m λz=>if z=a then f z++[b]else f z)=.ok .aL (c++eN m λr=>if r=a then f r++[b]else if r=b then f r++[a]else f r):=by
  unfold dH;simp only[dX,bK,gz,gs,R.aB,h2];rw[g2];dsimp only;rw[if_pos ⟨by simp only[afY];omega,rfl⟩,s2]
  congr 3
  funext z
  by_cases e1:z=a
  ·subst e1;simp[hab]
  ·by_cases e2:z=b
   ·subst e2;simp[e1]
   ·simp[e1,e2]
 unfold r9;rw[g9,iS,k1];simp only[R.aB];rw[iS,k2];rfl
theorem aaV{ps:List (Nat×Nat)}{i:Nat}(hi:i<ps.length) (hne:ps[i].1≠ps[i].2):(λr=>if r=ps[i].1 then eW (ps.take i) r++[ps[i].2]else if r=ps[i].2 then eW (ps.take i) r++[ps[i].1]else eW (ps.take i) r)=eW (ps.take (i+1)):=by
 funext r
 rw[ah2 hi,adq]
 by_cases h1:ps[i].1=r
 ·rw[if_pos h1.symm,if_pos h1]
 ·rw[if_neg (agx h1),if_neg h1]
  by_cases h2:ps[i].2=r
  ·rw[if_pos h2.symm,if_pos h2]
  ·rw[if_neg (agx h2),if_neg h2,agS]
theorem Pk{m:Nat}{ps:List (Nat×Nat)}{c:aa}(hp:uF m ps) (hl:ps.length<2000) (st:aa->Prop) (hst:∀R:aa,st (c++R)) (a0 a1:Option D) :
  ∃v w,c7 st (cS 2 (br (aA 3) (br (aA 4) cU))) r9 (ps.map aK) [a0,a1,ζ (.lst (fG c.length m)),η,η] (c++eN m λ_=>[])=.ok (.nx [a0,a1,ζ (.lst (fG c.length m)),v,w]) (c++eN m (eW ps)):=by
 obtain⟨v',hf⟩:=jq (α:=Option D×Option D) (st:=st) (g:=(cS 2 (br (aA 3) (br (aA 4) cU)))) (s:=r9) (λi=>c++eN m (eW (ps.take i))) (λ_ v=>[a0,a1,ζ (.lst (fG c.length m)),v.1,v.2]) (ps.map aK) 0 (η,η) (λi _=>hst _) (λi x hx v=>by
  rw[age];have hi:i<ps.length:=by have:=(af8.mp hx).1;simpa using this
  have ex:x=aK ps[i]:=by
   rw[af6,afV hi]at hx;cases hx;rfl
  subst ex;have hq:=hp _ (agi hi);have hs:=Pj (m:=m) (a:=ps[i].1) (b:=ps[i].2) (f:=eW (ps.take i)) (c:=c) a0 a1 (by omega) hq.2.2 (by omega) (λr=>by have:=adt (ps.take i) r;rw[ag7]at this;omega)
  rw[aaV hi (by omega)]at hs
  refine⟨[a0,a1,ζ (.lst (fG c.length m)),ζ (.int ps[i].1),ζ (.int ps[i].2)],?_,(ζ (.int ps[i].1),ζ (.int ps[i].2)),hs⟩;simp[aK])
 rw[age,afY,agV]at hf;exact⟨v'.1,v'.2,hf⟩
def lF(m:Nat) (ps:List (Nat×Nat)):List (List Nat):=(θ m).map λr=>cQ (eW ps r)
def sO:af:=(aO cP (aq (i9 (aq (ao 0) au)) au))
theorem rw_comp{m:Nat}{ps:List (Nat×Nat)}{c:aa}(hp:uF m ps) (hm:m<64):bO (λ_=>True) (aA 0) aM sO (fG c.length m) [η] [] (c++eN m (eW ps))=.ok ((lF m ps).map λr=>.tup (nD r)) (c++eN m (eW ps)):=by
 have:=jP (c:=c++eN m (eW ps)) (g:=aA 0) (t:=aM) (a:=sO) (λe=>∃v,e=[v]) (λ_=>Δ) (λd=>match d with|.ref k=>.tup (nD (cQ (eW ps (k-c.length))))|d=>d) (fG c.length m) [η] [] ⟨_,rfl⟩ (λd hd e ⟨v,he⟩=>by
  subst he;obtain⟨r,hr,rfl⟩:=afW.mp hd;have hr:=afR.mp hr;have hlt:=λx hx=>ads hp r x hx
  have hup:=BN (lG (eW ps r)) (m:=m) (λx hx=>hlt x (lW.mp hx))
  have hn:=zA (ns:=eW ps r) (by omega) (λx hx=>by have:=hlt x hx;omega)
  have EE:eZ (c++eN m (eW ps)) (.ref (c.length+r))=ζ (nD (eW ps r)):=by unfold eZ;dsimp only;rw[C5 _ _ hr]
  refine⟨_,rfl,⟨_,rfl⟩,rfl,λ_=>?_⟩
  have e1:i9 (aq (ao 0) au) [ζ (.ref (c.length+r))] (c++eN m (eW ps))=.ok (.lst (nD (cQ (eW ps r)))) (c++eN m (eW ps)):=by
   rw[Hj];simp only[bH,bK,gz,bQ,R.aB,EE,hn]
  dsimp only;rw[akL];show sO [ζ (.ref (c.length+r))] _=_;unfold sO;simp only[gh,bH,bQ,R.aB,e1];rfl)
 rw[this,agf]
 congr 1
 unfold fG lF;have ft:∀l:List D,l.filter (λ_=>Δ)=l:=λl=>by simp
 rw[ft,af7,af7];refine agp λr _=>?_
 simp
theorem Pn{q:Int}{c c':aa}{l:List D}(a1:Option D) (b1:-4611686018427387904<=q/\q<4611686018427387904) (hl:(aT 0 q).length<Ω) (hc:bO (λ_=>True) (aA 0) aM (cV au) (aT 0 q) [η] [] c=.ok l c') :
  (aG 2 (aY (aZ (aq (ao 0) au)) [η] (aA 0) aM (cV au))) [ζ (.int q),a1,η,η,η] c=.ok (.nx [ζ (.int q),a1,ζ (.lst l),η,η]) c':=by
 simp only[gg,eX,ig,bH,bK,gz,gs,bQ,R.aB];rw[if_pos (by omega)]
 simp only[R.aB];rw[if_pos hl];have:dz [η] [ζ (D.int q),a1,η,η,η]=[η]:=rfl;rw[this,hc];rfl
theorem Po{q:Int}{k:Nat}{c c1 c2:aa}{l:List D}{v w:Option D}{W:D}{s0 s1 s2:ah}(e0:s0 [ζ (.int q),ζ (.ref k),η,η,η] c=.ok (.nx [ζ (.int q),ζ (.ref k),ζ (.lst l),η,η]) c1)
  (e1:s1 [ζ (.int q),ζ (.ref k),ζ (.lst l),η,η] c1=.ok (.nx [ζ (.int q),ζ (.ref k),ζ (.lst l),v,w]) c2) (e2:s2 [ζ (.int q),ζ (.ref k),ζ (.lst l),v,w] c2=.ok (.rt W) c2) (hx:c9 Θ c.length W c2=.ok W c) :
  bD 5 Θ (aE s0 (aE s1 s2)) [.int q,.ref k] c=.ok W c:=by
 rw[fC];have e3:dI 5 [D.int q,.ref k]=[ζ (.int q),ζ (.ref k),η,η,η]:=rfl;rw[e3,bI e0,bI e1,e2];exact hx
theorem Pg{q:Int}{k:Nat}{c:aa}{l m:List D}{v w:Option D}(hl:l.length<Ω) (h:bO (λ_=>True) (aA 0) aM sO l [η] [] c=.ok m c):(aS (aO cP (aq (aY (dG (ao 2)) [η] (aA 0) aM (aO cP (aq (i9 (aq (ao 0) au)) au))) au))) [ζ (.int q),ζ (.ref k),ζ (.lst l),v,w] c=.ok (.rt (.tup m)) c:=by
 simp only[iH,gh,bH,eX,bQ,R.aB];unfold dG;simp only[bK,gz,gs,R.aB];rw[if_pos hl];have:dz [η] [ζ (D.int q),ζ (.ref k),ζ (.lst l),v,w]=[η]:=rfl;rw[this];unfold sO at h;rw[h];rfl
theorem Hx{m k:Nat}{ps:List (Nat×Nat)}{c:aa}(hp:uF m ps) (hl:ps.length<2000) (hm:m<64) (hk:c[k]? = ζ (.lst (ps.map aK))):kL [.int m,.ref k] c=.ok (aJ (lF m ps)) c:=by
 have hs:=(show 3000<=Ω by decide)
 have hkl:k<c.length:=(af8.mp hk).1;have hc:=NB (aT 0 (m:Int)) [η] [] c rfl;have hrl:(aT 0 (m:Int)).length=m:=by rw[d9];omega
 have ZP:(aT 0 (m:Int)).length<Ω:=by rw[hrl];omega
 rw[hrl,agf]at hc;have Mj:∀R:aa,(c++R)[k]? = ζ (.lst (ps.map aK)):=λR=>by rw[agl hkl];exact hk
 obtain⟨v,w,hf⟩:=Pk (m:=m) hp hl (λc'=>c'[k]? = ζ (.lst (ps.map aK))) Mj (ζ (.int m)) (ζ (.ref k))
 have hw:=rw_comp (c:=c) hp hm;have ZQ:(fG c.length m).length<Ω:=by simp[fG];omega
 have e1:(bB (dG (ao 1)) (cS 2 (br (aA 3) (br (aA 4) cU))) r9) [ζ (.int m),ζ (.ref k),ζ (.lst (fG c.length m)),η,η] (c++eN m λ_=>[])=.ok (.nx [ζ (.int m),ζ (.ref k),ζ (.lst (fG c.length m)),v,w]) (c++eN m (eW ps)):=by
  rw[gx];unfold dG;simp only[bK,gz,gs,R.aB,Mj];exact hf
 have hb:AM=aE (aG 2 (aY (aZ (aq (ao 0) au)) [η] (aA 0) aM (cV au))) (aE (bB (dG (ao 1)) (cS 2 (br (aA 3) (br (aA 4) cU))) r9) (aS (aO cP (aq (aY (dG (ao 2)) [η] (aA 0) aM (aO cP (aq (i9 (aq (ao 0) au)) au))) au)))):=rfl;rw[kL,hb];have nr:=mW (lF m ps);have et:(c++eN m (eW ps)).take c.length=c:=by simp
 refine Po (Pn (ζ (.ref k)) (by omega) ZP hc) e1 (Pg ZQ hw) ?_
 unfold aJ at nr ⊢;unfold c9;dsimp only;rw[if_pos nr,et]
def iU(f:Nat->Nat->Bool) (i k:Nat):List (Nat×Nat):=(((θ k).map λd=>i+1+d).filter (f i)).map λj=>(i,j)
def fu(M:Nat) (f:Nat->Nat->Bool):Nat->List (Nat×Nat)
 |0=>[]
 |i+1=>fu M f i++iU f i (M-(i+1))
theorem Yi{f:Nat->Nat->Bool}{i k:Nat}{p:Nat×Nat}:p∈iU f i k↔p.1=i/\i<p.2/\p.2<i+1+k/\f i p.2=Δ:=by
 unfold iU
 constructor
 ·intro h;obtain⟨j,hj,rfl⟩:=afW.mp h;obtain⟨h1,h2⟩:=agm.mp hj;obtain⟨d,hd,rfl⟩:=afW.mp h1;have:=afR.mp hd;exact⟨rfl,by dsimp only;omega,by dsimp only;omega,h2⟩
 ·rintro ⟨h1,h2,h3,h4⟩
  refine afW.mpr ⟨p.2,agm.mpr ⟨afW.mpr ⟨p.2-(i+1),afR.mpr (by omega),by omega⟩,h4⟩,?_⟩
  rw[<-h1]
theorem vU{M:Nat}{f:Nat->Nat->Bool}{p:Nat×Nat}:∀i,i<=M->(p∈fu M f i↔p.1<i/\p.1<p.2/\p.2<M/\f p.1 p.2=Δ)
 |0,_=>by simp[fu]
 |i+1,h=>by
  unfold fu;rw[agC,vU i (by omega),Yi]
  constructor
  ·rintro (⟨h1,h2,h3,h4⟩|⟨h1,h2,h3,h4⟩)
   ·exact⟨by omega,h2,h3,h4⟩
   ·subst h1;exact⟨by omega,h2,by omega,h4⟩
  ·rintro ⟨h1,h2,h3,h4⟩
   by_cases hp:p.1=i
   ·right
    subst hp;exact⟨rfl,h2,by omega,h4⟩
   ·left
    exact⟨by omega,h2,h3,h4⟩
theorem Xf{M:Nat}{f:Nat->Nat->Bool}:uF M (fu M f M):=λp hp=>by
 obtain⟨h1,h2,h3,_⟩:=(vU M (afQ _)).mp hp;exact⟨by omega,by omega,h3⟩
def ly(M:Nat):Nat->Nat
 |0=>0
 |i+1=>ly M i+(M-(i+1))
theorem Eg{M:Nat}{f:Nat->Nat->Bool}:∀i,(fu M f i).length<=ly M i
 |0=>afQ _
 |i+1=>by
  unfold fu ly;rw[agh];have h1:=Eg (M:=M) (f:=f) i;have h2:(iU f i (M-(i+1))).length<=M-(i+1):=by
   unfold iU;rw[afY];refine agg (ahk _ _) ?_;simp
  omega
theorem NZ:((θ 50).all λM=>decide (ly M M<2000))=Δ:=by decide +kernel
theorem M4{M:Nat}{f:Nat->Nat->Bool}(hM:M<50) {i:Nat}(hi:i<=M):(fu M f i).length<2000:=by
 have h:∀j,i<=j->ly M i<=ly M j:=λj hj=>by
  induction hj with
  |refl=>exact afQ _
  |step _ ih=>exact agg ih (ahH _ _)
 have:=of_decide_eq_true (afX.mp NZ M (afR.mpr hM));exact ahb (agg (Eg i) (h M hi)) this
theorem Yj{ps:List (Nat×Nat)}{r x:Nat}:x∈eW ps r↔∃p∈ps,(p.1=r/\p.2=x)\/(p.1≠r/\p.2=r/\p.1=x):=by
 unfold eW;rw[ahw]
 constructor
 ·rintro ⟨p,hp,h⟩
  refine⟨p,hp,?_⟩;split at h
  ·rename_i h1;cases h;exact .inl ⟨h1,rfl⟩
  ·split at h
   ·rename_i h1 h2;cases h;exact .inr ⟨h1,h2,rfl⟩
   ·cases h
 ·rintro ⟨p,hp,⟨h1,h2⟩|⟨h1,h2,h3⟩⟩
  ·exact⟨p,hp,by rw[if_pos h1,h2]⟩
  ·exact⟨p,hp,by rw[if_neg h1,if_pos h2,h3]⟩
theorem PC(n:Nat) (b:Nat->Bool):Up ((θ n).filter b):=aia aib aiw
theorem Pf{M:Nat}{f:Nat->Nat->Bool}(hs:∀i j,f i j=f j i):lF M (fu M f M)=aH M f:=by
 unfold lF aH;refine agp λr hr=>?_
 have hr:=afR.mp hr;refine up_eq (lG _) (PC _ _) λx=>?_
 rw[lW,Yj];unfold cF;rw[agm,afR,af1,decide_eq_true_eq]
 constructor
 ·rintro ⟨p,hp,h⟩
  obtain⟨h1,h2,h3,h4⟩:=(vU M (afQ _)).mp hp
  rcases h with⟨e1,e2⟩|⟨e1,e2,e3⟩
  ·subst e1 e2;exact⟨h3,by omega,h4⟩
  ·subst e2 e3;exact⟨by omega,by omega,by rw[hs];exact h4⟩
 ·rintro ⟨h1,h2,h3⟩
  by_cases hlt:r<x
  ·exact⟨(r,x),(vU M (afQ _)).mpr ⟨hr,hlt,h1,h3⟩,.inl ⟨rfl,rfl⟩⟩
  ·exact⟨(x,r),(vU M (afQ _)).mpr ⟨h1,by dsimp only;omega,hr,by rw[hs];exact h3⟩,.inr ⟨h2,rfl,rfl⟩⟩
theorem Oe:∀p q:List Nat,rT p q=rT q p
 |[],[]=>rfl
 |[],_::_=>rfl
 |_::_,[]=>rfl
 |a::p,b::q=>by
  have ih:=Oe p q;unfold rT at ih ⊢;rw[ahJ,ahJ,ah8,ah8,ih]
  congr 1
  exact decide_eq_decide.mpr ⟨Eq.symm,Eq.symm⟩
theorem KS(n:Nat) (ss:List (Nat->Nat->Nat)) (i j:Nat):cL n ss i j=cL n ss j i:=Oe _ _
def Eb:af:=(av fh (bG (aq (ao 4) (aq (ao 5) au))) (aY (dG (ao 1)) [η,ζ 5,ζ 4] (aA 0) aM (av aF (av aF (ao 0) (ao 2)) (ao 1))))
def we:ah:=(aE (aG 4 (av gu (ao 3) (ao 0))) (aE (aG 5 (av cy (ao 3) (ao 0))) (cK (dH (ao 2) Eb))))
def Dl:af:=(aO uE (aq (aY (iF (aq (av aF (ao 2) (ao 7)) (aq (av aF (ao 2) (ao 8)) au))) [η,η] (cS 2 (br (aA 0) (br (aA 1) cU))) aM (av cj (ao 0) (ao 1))) au))
def yQ:ah:=(b7 (aV Dl) (cK (dH (ao 6) (cC (aq (ao 7) (aq (ao 8) au))))) ck)
def kK:af:=(av bN (ao 0) (ao 0))
def vz:ah:=(bB (gG (aq (av bu (ao 7) (dC (.int 1))) (aq kK au))) (aA 8) yQ)
theorem YO:xr=aE (aG 2 (cV au)) (aE (bB (aZ (aq kK au)) (aA 3) we) (aE (aG 6 (cV au)) (aE (bB (aZ (aq kK au)) (aA 7) vz) (aS (aC 2 kL (aq kK (aq (ao 6) au))))))):=rfl
theorem RH{n x y:Nat}(s:Nat->Nat->Nat) (hx:x<n) (hy:y<n) (c:aa):(av aF (av aF (ao 0) (ao 2)) (ao 1)) [ζ (cY n s),ζ (.int (y:Int)),ζ (.int (x:Int))] c=.ok (.int (s x y:Nat)) c:=by
 have r1:((θ n).map λi=>D.tup (nD ((θ n).map (s i))))[x]? = ζ (.tup (nD ((θ n).map (s x)))):=by rw[af6,agG hx];rfl
 have r2:(nD ((θ n).map (s x)))[y]? = ζ (.int (s x y:Nat)):=by rw[DW,af6,agG hy];rfl
 exact dg (f:=aF) (dg (f:=aF) (d1:=ao 0) (d2:=ao 2) rfl rfl (LM (N:=(x:Int)) rfl r1 c)) (d2:=ao 1) rfl (LM (N:=(y:Int)) rfl r2 c)
theorem YD{n:Nat}{ss:List (Nat->Nat->Nat)}(H:Net n ss) {i:Nat}(hi:i<n*n) {a0 a2 a3 a6 a7 a8:Option D}(c:aa):Eb [a0,ζ (.lst (cI n ss)),a2,a3,ζ (.int (((i/n:Nat)):Int)),ζ (.int (((i % n:Nat)):Int)),a6,a7,a8] c=.ok (.lst (nD (gU n ss i))) c:=by
 have sz:=lJ;have n2:=H.two;have n7:=H.pR;have hf:=H.few;have hd:i/n<n:=akJ hi;have hm:i % n<n:=ah5 _ (by omega)
 have t2:(2:Nat)<=Ω:=by omega
 have h1:bG (aq (ao 4) (aq (ao 5) au)) [a0,ζ (.lst (cI n ss)),a2,a3,ζ (.int (((i/n:Nat)):Int)),ζ (.int (((i % n:Nat)):Int)),a6,a7,a8] c=.ok (.lst [.int (((i/n:Nat)):Int),.int (((i % n:Nat)):Int)]) c:=by
  simp[t2]
 have hc:=vZ (E:=[ζ (.int (((i % n:Nat)):Int)),ζ (.int (((i/n:Nat)):Int))]) (a:=av aF (av aF (ao 0) (ao 2)) (ao 1)) (c:=c) (cY n) (λs=>D.int (s (i/n) (i % n):Nat)) ss η [] (λs _=>RH s hd hm c)
 rw[agf]at hc;have h2:aY (dG (ao 1)) [η,ζ 5,ζ 4] (aA 0) aM (av aF (av aF (ao 0) (ao 2)) (ao 1)) [a0,ζ (.lst (cI n ss)),a2,a3,ζ (.int (((i/n:Nat)):Int)),ζ (.int (((i % n:Nat)):Int)),a6,a7,a8] c=.ok (.lst (ss.map λs=>D.int (s (i/n) (i % n):Nat))) c:=by
  have hs:dG (ao 1) [a0,ζ (.lst (cI n ss)),a2,a3,ζ (.int (((i/n:Nat)):Int)),ζ (.int (((i % n:Nat)):Int)),a6,a7,a8] c=.ok ⟨ss.map (cY n),λ_=>True⟩ c:=rfl
  rw[eX,hs,R.aB];dsimp only;rw[if_pos (by simp;omega),show dz [η,ζ 5,ζ 4] [a0,ζ (.lst (cI n ss)),a2,a3,ζ (.int (((i/n:Nat)):Int)),ζ (.int (((i % n:Nat)):Int)),a6,a7,a8]=[η,ζ (.int (((i % n:Nat)):Int)),ζ (.int (((i/n:Nat)):Int))]from rfl,hc,R.aB]
 refine dg (f:=fh) h1 h2 ?_;unfold fh;dsimp only[eZ];rw[if_pos (by simp;omega)]
 simp[gU,nD]
def LN(n:Nat) (ss:List (Nat->Nat->Nat)) (k:Nat):List D:=(θ k).map λi=>D.lst (nD (gU n ss i))
theorem YC{n:Nat}{ss:List (Nat->Nat->Nat)}(H:Net n ss) {N Q:Int}(hN:N=n) (hQ:Q=((n*n:Nat):Int)) {a6 a7 a8:Option D}(c:aa):∃v:Option D×Option D×Option D,c7 (λ_=>True) (aA 3) we (aT 0 Q) [ζ (.int N),ζ (.lst (cI n ss)),ζ (.ref c.length),η,η,η,a6,a7,a8] (c++[.lst []])=.ok (.nx [ζ (.int N),ζ (.lst (cI n ss)),ζ (.ref c.length),v.1,v.2.1,v.2.2,a6,a7,a8]) (c++[.lst (LN n ss (n*n))]):=by
 have n2:=H.two;have n7:=H.pR;have nn:n*n<100:=ahb (ahv n7 n7) (by decide)
 have:=oh (g:=aA 3) (s:=we) (λk=>c++[.lst (LN n ss k)]) (λ_ (v:Option D×Option D×Option D)=>[ζ (.int N),ζ (.lst (cI n ss)),ζ (.ref c.length),v.1,v.2.1,v.2.2,a6,a7,a8]) hQ (η,η,η) (λi hi v=>by
  refine⟨[ζ (.int N),ζ (.lst (cI n ss)),ζ (.ref c.length),ζ (.int (i:Nat)),v.2.1,v.2.2,a6,a7,a8],rfl,(ζ (.int (i:Nat)),ζ (.int (((i/n:Nat)):Int)),ζ (.int (((i % n:Nat)):Int))),?_⟩;have EI:gu (.int (i:Nat)) (.int N) (c++[.lst (LN n ss i)])=.ok (.int (((i/n:Nat)):Int)) (c++[.lst (LN n ss i)]):=by
   rw[rF _ (by omega) (by omega),hN]
   rfl
  have hmd:cy (.int (i:Nat)) (.int N) (c++[.lst (LN n ss i)])=.ok (.int (((i % n:Nat)):Int)) (c++[.lst (LN n ss i)]):=by
   rw[jj _ (by omega),hN]
   rfl
  have e0:aG 4 (av gu (ao 3) (ao 0)) [ζ (.int N),ζ (.lst (cI n ss)),ζ (.ref c.length),ζ (.int (i:Nat)),v.2.1,v.2.2,a6,a7,a8] (c++[.lst (LN n ss i)])=.ok (.nx [ζ (.int N),ζ (.lst (cI n ss)),ζ (.ref c.length),ζ (.int (i:Nat)),ζ (.int (((i/n:Nat)):Int)),v.2.2,a6,a7,a8]) (c++[.lst (LN n ss i)]):=iL (i:=4) (dg (f:=gu) (d1:=ao 3) (d2:=ao 0) rfl rfl EI);have e1:aG 5 (av cy (ao 3) (ao 0)) [ζ (.int N),ζ (.lst (cI n ss)),ζ (.ref c.length),ζ (.int (i:Nat)),ζ (.int (((i/n:Nat)):Int)),v.2.2,a6,a7,a8] (c++[.lst (LN n ss i)])=.ok (.nx [ζ (.int N),ζ (.lst (cI n ss)),ζ (.ref c.length),ζ (.int (i:Nat)),ζ (.int (((i/n:Nat)):Int)),ζ (.int (((i % n:Nat)):Int)),a6,a7,a8]) (c++[.lst (LN n ss i)]):=iL (i:=5) (dg (f:=cy) (d1:=ao 3) (d2:=ao 0) rfl rfl hmd);have hap:=uD (c:=c) (acc:=LN n ss i) (dO:=ao 2) (da:=Eb) (e:=[ζ (.int N),ζ (.lst (cI n ss)),ζ (.ref c.length),ζ (.int (i:Nat)),ζ (.int (((i/n:Nat)):Int)),ζ (.int (((i % n:Nat)):Int)),a6,a7,a8]) rfl (YD H hi _) (by unfold noRef;exact XT _) (by unfold LN;simp;omega)
  have ht:LN n ss i++[D.lst (nD (gU n ss i))]=LN n ss (i+1):=by unfold LN;rw[agW,agK];rfl
  rw[ht]at hap;unfold we;rw[bI e0,bI e1,iS,hap];rfl)
 exact this
theorem S9(f:Nat->Nat->Bool) (i k:Nat):iU f i (k+1)=iU f i k++(if f i (i+1+k)=Δ then[(i,i+1+k)]else[]):=by
 unfold iU;rw[agW,agK,ajF,agK]
 congr 1
 by_cases h:f i (i+1+k)=Δ
 ·rw[if_pos h];simp[h]
 ·rw[if_neg h];simp[h]
def dw(n:Nat) (ss:List (Nat->Nat->Nat)) (c:aa) (ps:List (Nat×Nat)):aa:=c++[.lst (LN n ss (n*n))]++[.lst (ps.map aK)]
theorem Jv{n:Nat}{ss:List (Nat->Nat->Nat)}{c:aa}{ps:List (Nat×Nat)}:(dw n ss c ps)[c.length]? = ζ (.lst (LN n ss (n*n))):=by unfold dw;simp
theorem UN{n:Nat}{ss:List (Nat->Nat->Nat)}{c:aa}{ps:List (Nat×Nat)}:(dw n ss c ps)[c.length+1]? = ζ (.lst (ps.map aK)):=by unfold dw;simp
theorem Oo{n:Nat}{ss:List (Nat->Nat->Nat)}{k:Nat}(hk:k<n*n):(LN n ss (n*n))[k]? = ζ (.lst (nD (gU n ss k))):=by unfold LN;rw[af6,agG hk];rfl
section
variable {n:Nat}{ss:List (Nat->Nat->Nat)}{c:aa}{ps:List (Nat×Nat)}{a0 a1 a3 a4 a5:Option D}{i j:Nat}
theorem UP(H:Net n ss) (hi:i<n*n) (hj:j<n*n) {I J:Int}(hI:I=i) (hJ:J=j):Dl [a0,a1,ζ (.ref c.length),a3,a4,a5,ζ (.ref (c.length+1)),ζ (.int I),ζ (.int J)] (dw n ss c ps)=.ok (.bl (cL n ss i j)) (dw n ss c ps):=by
 have sz:=lJ;have hf:=H.few;have n7:=H.pR;have x1:av aF (ao 2) (ao 7) [a0,a1,ζ (.ref c.length),a3,a4,a5,ζ (.ref (c.length+1)),ζ (.int I),ζ (.int J)] (dw n ss c ps)=.ok (.lst (nD (gU n ss i))) (dw n ss c ps):=dg (f:=aF) (d1:=ao 2) (d2:=ao 7) rfl rfl (LP hI Jv (Oo hi));have x2:av aF (ao 2) (ao 8) [a0,a1,ζ (.ref c.length),a3,a4,a5,ζ (.ref (c.length+1)),ζ (.int I),ζ (.int J)] (dw n ss c ps)=.ok (.lst (nD (gU n ss j))) (dw n ss c ps):=dg (f:=aF) (d1:=ao 2) (d2:=ao 8) rfl rfl (LP hJ Jv (Oo hj));have hd:iF (aq (av aF (ao 2) (ao 7)) (aq (av aF (ao 2) (ao 8)) au)) [a0,a1,ζ (.ref c.length),a3,a4,a5,ζ (.ref (c.length+1)),ζ (.int I),ζ (.int J)] (dw n ss c ps)=.ok ⟨List.zipWith (λx y=>D.tup [x,y]) (nD (gU n ss i)) (nD (gU n ss j)),λ_=>True⟩ (dw n ss c ps):=by
  have h:(λc'=>jT (dw n ss c ps) (.lst (nD (gU n ss i))) c'/\jT (dw n ss c ps) (.lst (nD (gU n ss j))) c')=λ_=>True:=by
   funext c'
   simp[jT]
  rw[<-h];unfold iF;rw[bH,x1,R.aB,bH,x2,R.aB,bQ];rfl
 unfold Dl;simp only[gh,bH,eX,hd,bQ,R.aB];rw[if_pos (by simp[nD,Ec];omega),show dz [η,η] [a0,a1,ζ (.ref c.length),a3,a4,a5,ζ (.ref (c.length+1)),ζ (.int I),ζ (.int J)]=[η,η]from rfl,ado]
 simp only[R.aB,ac8];unfold cL rT;rw[ajG]
 congr 3
 funext a
 simp;omega
theorem UO(H:Net n ss) (hi:i<n*n) (hj:j<n*n) {I J:Int}(hI:I=i) (hJ:J=j) (hl:ps.length<2000):yQ [a0,a1,ζ (.ref c.length),a3,a4,a5,ζ (.ref (c.length+1)),ζ (.int I),ζ (.int J)] (dw n ss c ps)=.ok (.nx [a0,a1,ζ (.ref c.length),a3,a4,a5,ζ (.ref (c.length+1)),ζ (.int I),ζ (.int J)]) (dw n ss c (ps++(if cL n ss i j=Δ then[(i,j)]else[]))):=by
 have sz:=lJ;have ha:=UP (a0:=a0) (a1:=a1) (a3:=a3) (a4:=a4) (a5:=a5) (c:=c) (ps:=ps) H hi hj hI hJ;unfold yQ;rw[jz,BK,ha];dsimp only[R.bind]
 by_cases h:cL n ss i j=Δ
 ·rw[if_pos h,if_pos h];have t2:(2:Nat)<=Ω:=by omega
  have hv:cC (aq (ao 7) (aq (ao 8) au)) [a0,a1,ζ (.ref c.length),a3,a4,a5,ζ (.ref (c.length+1)),ζ (.int I),ζ (.int J)] (dw n ss c ps)=.ok (aK (i,j)) (dw n ss c ps):=by
   simp[t2,aK,hI,hJ]
  have hL:(c++[Cell.lst (LN n ss (n*n))]).length=c.length+1:=by simp
  have hap:=uD (c:=c++[.lst (LN n ss (n*n))]) (acc:=ps.map aK) (dO:=ao 6) (da:=cC (aq (ao 7) (aq (ao 8) au))) (e:=[a0,a1,ζ (.ref c.length),a3,a4,a5,ζ (.ref (c.length+1)),ζ (.int I),ζ (.int J)]) (by rw[hL];rfl) hv rfl (by simp;omega)
  have hap':dH (ao 6) (cC (aq (ao 7) (aq (ao 8) au))) [a0,a1,ζ (.ref c.length),a3,a4,a5,ζ (.ref (c.length+1)),ζ (.int I),ζ (.int J)] (dw n ss c ps)=.ok .aL (dw n ss c (ps++[(i,j)])):=by
   unfold dw at hap ⊢;rw[hap,agK];rfl
  rw[iS,hap'];rfl
 ·rw[if_neg h,if_neg h,agS];rfl
end
theorem acR{M:Nat}(i j:Nat) (hj:i<=j):ly M i<=ly M j:=by
 induction hj with
 |refl=>exact afQ _
 |step _ ih=>exact agg ih (ahH _ _)
section
variable {n:Nat}{ss:List (Nat->Nat->Nat)}{c:aa}{a3 a4 a5:Option D}
theorem DX(H:Net n ss) {N Q:Int}(hN:N=n) (hQ:Q=((n*n:Nat):Int)) (e:Ev) (c:aa):kK (ζ (.int N)::e) c=.ok (.int Q) c:=by
 have n7:=H.pR;exact dg (f:=bN) (d1:=ao 0) (d2:=ao 0) rfl rfl (XZ (by omega) (by omega) (by rw[hQ,hN];push_cast;rfl) c)
theorem UL(H:Net n ss) {N Q:Int}(hN:N=n) (hQ:Q=((n*n:Nat):Int)) {i:Nat}(hi:i<n*n) {I:Int}(hI:I=i) (v:Option D):∃v',vz [ζ (.int N),ζ (.lst (cI n ss)),ζ (.ref c.length),a3,a4,a5,ζ (.ref (c.length+1)),ζ (.int I),v] (dw n ss c (fu (n*n) (cL n ss) i))=.ok (.nx [ζ (.int N),ζ (.lst (cI n ss)),ζ (.ref c.length),a3,a4,a5,ζ (.ref (c.length+1)),ζ (.int I),v']) (dw n ss c (fu (n*n) (cL n ss) (i+1))):=by
 have n7:=H.pR;have nn:n*n<50:=ahb (ahv n7 n7) (by decide)
 have hl:(aT (I+1) Q).length=n*n-(i+1):=by rw[sP];simp;omega
 have:=jq (st:=λ_=>True) (g:=aA 8) (s:=yQ) (λk=>dw n ss c (fu (n*n) (cL n ss) i++iU (cL n ss) i k)) (λ_ (v:Option D)=>[ζ (.int N),ζ (.lst (cI n ss)),ζ (.ref c.length),a3,a4,a5,ζ (.ref (c.length+1)),ζ (.int I),v]) (aT (I+1) Q) 0 v (λ_ _=>trivial) (λk x hx v=>by
  have hk:k<n*n-(i+1):=by rw[<-hl];exact(af8.mp hx).1
  have hx':x=.int (((i+1+k:Nat)):Int):=by
   rw[sP,af6,agG (by omega)]at hx
   have:D.int (I+1+(k:Int))=x:=by simpa using hx
   rw[<-this]
   congr 1
   omega
  subst hx';rw[age];refine⟨[ζ (.int N),ζ (.lst (cI n ss)),ζ (.ref c.length),a3,a4,a5,ζ (.ref (c.length+1)),ζ (.int I),ζ (.int (((i+1+k:Nat)):Int))],rfl,ζ (.int (((i+1+k:Nat)):Int)),?_⟩;have hb:=UO (a0:=ζ (.int N)) (a1:=ζ (.lst (cI n ss))) (a3:=a3) (a4:=a4) (a5:=a5) (c:=c) (ps:=fu (n*n) (cL n ss) i++iU (cL n ss) i k) (i:=i) (j:=i+1+k) H hi (by omega) hI rfl (by
   have h1:=M4 (f:=cL n ss) nn (i:=i+1) (by omega)
   have h2:(iU (cL n ss) i k).length<=k:=by
    unfold iU;rw[afY];refine agg (ahk _ _) ?_;simp
   have h3:=Eg (M:=n*n) (f:=cL n ss) i;have h4:=of_decide_eq_true (afX.mp NZ (n*n) (afR.mpr nn));have h5:ly (n*n) i+(n*n-(i+1))<=ly (n*n) (n*n):=acR (i+1) (n*n) (by omega)
   rw[agh];omega)
  rw[agy,<-S9]at hb;exact hb)
 obtain⟨v',hv⟩:=this;refine⟨v',?_⟩;rw[age,hl]at hv;have hz:fu (n*n) (cL n ss) i++iU (cL n ss) i 0=fu (n*n) (cL n ss) i:=by unfold iU;simp
 rw[hz]at hv;have h1:gG (aq (av bu (ao 7) (dC (.int 1))) (aq kK au)) [ζ (.int N),ζ (.lst (cI n ss)),ζ (.ref c.length),a3,a4,a5,ζ (.ref (c.length+1)),ζ (.int I),v] (dw n ss c (fu (n*n) (cL n ss) i))=.ok ⟨aT (I+1) Q,λ_=>True⟩ (dw n ss c (fu (n*n) (cL n ss) i)):=by
  have hm:=DX H hN hQ [ζ (.lst (cI n ss)),ζ (.ref c.length),a3,a4,a5,ζ (.ref (c.length+1)),ζ (.int I),v] (dw n ss c (fu (n*n) (cL n ss) i));have ha:av bu (ao 7) (dC (.int 1)) [ζ (.int N),ζ (.lst (cI n ss)),ζ (.ref c.length),a3,a4,a5,ζ (.ref (c.length+1)),ζ (.int I),v] (dw n ss c (fu (n*n) (cL n ss) i))=.ok (.int (I+1)) (dw n ss c (fu (n*n) (cL n ss) i)):=dg (f:=bu) (d1:=ao 7) (d2:=dC (.int 1)) rfl rfl rfl;unfold gG;rw[bH,ha,R.aB,bH,hm,R.aB,bQ];simp only[R.aB];rw[if_pos (by omega)]
 unfold vz;rw[gx,h1,R.aB];exact hv
theorem YN(H:Net n ss) {N:Int}(hN:N=n) (c:aa):l8 [.int N,.lst (cI n ss)] c=.ok (aJ (aH (n*n) (cL n ss))) c:=by
 have n7:=H.pR;have nn:n*n<50:=ahb (ahv n7 n7) (by decide)
 obtain⟨Q,hQ⟩:∃Q:Int,Q=((n*n:Nat):Int):=⟨_,rfl⟩;have rg:∀(e:Ev) (c:aa),aZ (aq kK au) (ζ (.int N)::e) c=.ok ⟨aT 0 Q,λ_=>True⟩ c:=λe c=>by
  unfold aZ;rw[bH,DX H hN hQ e c,R.aB,bQ];simp only[R.aB];rw[if_pos (by omega)]
 have e0:aG 2 (cV au) [ζ (.int N),ζ (.lst (cI n ss)),η,η,η,η,η,η,η] c=.ok (.nx [ζ (.int N),ζ (.lst (cI n ss)),ζ (.ref c.length),η,η,η,η,η,η]) (c++[.lst []]):=by simp[bX]
 obtain⟨v,h1⟩:=YC H hN hQ (a6:=η) (a7:=η) (a8:=η) c;have e1:bB (aZ (aq kK au)) (aA 3) we [ζ (.int N),ζ (.lst (cI n ss)),ζ (.ref c.length),η,η,η,η,η,η] (c++[.lst []])=.ok (.nx [ζ (.int N),ζ (.lst (cI n ss)),ζ (.ref c.length),v.1,v.2.1,v.2.2,η,η,η]) (c++[.lst (LN n ss (n*n))]):=by
  rw[gx,rg,R.aB];exact h1
 have e2:aG 6 (cV au) [ζ (.int N),ζ (.lst (cI n ss)),ζ (.ref c.length),v.1,v.2.1,v.2.2,η,η,η] (c++[.lst (LN n ss (n*n))])=.ok (.nx [ζ (.int N),ζ (.lst (cI n ss)),ζ (.ref c.length),v.1,v.2.1,v.2.2,ζ (.ref (c.length+1)),η,η]) (dw n ss c []):=by simp[bX,dw]
 have h3:=oh (g:=aA 7) (s:=vz) (λi=>dw n ss c (fu (n*n) (cL n ss) i)) (λ_ (w:Option D×Option D)=>[ζ (.int N),ζ (.lst (cI n ss)),ζ (.ref c.length),v.1,v.2.1,v.2.2,ζ (.ref (c.length+1)),w.1,w.2]) hQ (η,η) (λi hi w=>by
  obtain⟨v',hv⟩:=UL (c:=c) (a3:=v.1) (a4:=v.2.1) (a5:=v.2.2) H hN hQ hi (I:=(i:Int)) rfl w.2;exact⟨_,rfl,(ζ (.int (i:Int)),v'),hv⟩)
 obtain⟨w,h3⟩:=h3;have e3:bB (aZ (aq kK au)) (aA 7) vz [ζ (.int N),ζ (.lst (cI n ss)),ζ (.ref c.length),v.1,v.2.1,v.2.2,ζ (.ref (c.length+1)),η,η] (dw n ss c [])=.ok (.nx [ζ (.int N),ζ (.lst (cI n ss)),ζ (.ref c.length),v.1,v.2.1,v.2.2,ζ (.ref (c.length+1)),w.1,w.2]) (dw n ss c (fu (n*n) (cL n ss) (n*n))):=by
  rw[gx,rg,R.aB];exact h3
 have hw:=Hx (k:=c.length+1) (c:=dw n ss c (fu (n*n) (cL n ss) (n*n))) (Xf (M:=n*n) (f:=cL n ss)) (M4 nn (afQ _)) (by omega) UN
 rw[Pf (KS n ss),<-hQ]at hw;have e4:aS (aC 2 kL (aq kK (aq (ao 6) au))) [ζ (.int N),ζ (.lst (cI n ss)),ζ (.ref c.length),v.1,v.2.1,v.2.2,ζ (.ref (c.length+1)),w.1,w.2] (dw n ss c (fu (n*n) (cL n ss) (n*n)))=.ok (.rt (aJ (aH (n*n) (cL n ss)))) (dw n ss c (fu (n*n) (cL n ss) (n*n))) :=
  pU (lg (m:=kL) (d2:=ao 6) (DX H hN hQ _ _) rfl hw)
 show bD 9 Θ xr [.int N,.lst (cI n ss)] c=_;unfold bD;rw[YO,show dI 9 [D.int N,.lst (cI n ss)]=[ζ (.int N),ζ (.lst (cI n ss)),η,η,η,η,η,η,η]from rfl,bI e0,bI e1,bI e2,bI e3,e4,R.aB]
 dsimp only;unfold aJ;rw[vq,if_pos (by have:=mW (aH (n*n) (cL n ss));unfold aJ noRef at this;exact this)]
 congr 1
 unfold dw;simp
end
def nk(m x:Nat):List (Nat×Nat):=(List.range' (x+1) (m-(x+1))).map λy=>(x,y)
def jc(m i:Nat):List (Nat×Nat):=(θ i).flatMap (nk m)
def PP(m:Nat):List (Nat×Nat):=jc m m
def sY(p:Nat×Nat):List Nat:=[p.1,p.2]
def gD(P:List (Nat×Nat)) (i j:Nat):Bool:=decide (mO (sY (P.getD i (0,0))) (sY (P.getD j (0,0)))>0)
def kG(P:List (Nat×Nat)) (i j:Nat):Bool:=decide ((P.getD i (0,0)).1∈sY (P.getD j (0,0)))||decide ((P.getD i (0,0)).2∈sY (P.getD j (0,0)))
def sS(P:List (Nat×Nat)) (i:Nat):List (Nat×Nat):=((List.range' (i+1) (P.length-(i+1))).filter (kG P i)).map λj=>(i,j)
def mR(P:List (Nat×Nat)) (i:Nat):List (Nat×Nat):=(θ i).flatMap (sS P)
def QQ(P:List (Nat×Nat)):List (Nat×Nat):=mR P P.length
def WW(m:Nat):List (List Nat):=aH (PP m).length (gD (PP m))
theorem Td(a m:Nat):aT ((a:Int)+1) (m:Int)=nD (List.range' (a+1) (m-(a+1))):=by
 apply ajq;intro i
 by_cases h:i<m-(a+1)
 ·have h1:i<(aT ((a:Int)+1) (m:Int)).length:=by rw[d9];omega
  have:=nj (afV h1);rw[afV h1,this.2];simp[nD,List.getElem?_range' h]
 ·rw[ahi (by rw[d9];omega),ahi (by simp[nD];omega)]
def vF:af:=(aY (gG (aq (av bu (ao 2) (dC (.int 1))) (aq (ao 0) au))) [η,ζ 2] (aA 0) aM (cC (aq (ao 1) (aq (ao 0) au))))
def zb:ah:=(cK (gV (ao 1) vF))
theorem VU{q x:Int}{a1:Option D}{rest:Ev}{l:List D}{c:aa}(bx:-4611686018427387904<=x+1/\x+1<4611686018427387904) (bq:-4611686018427387904<=q/\q<4611686018427387904) (hlen:(aT (x+1) q).length<Ω)
  (hc:bO (λ_=>True) (aA 0) aM (cC (aq (ao 1) (aq (ao 0) au))) (aT (x+1) q) [η,ζ (.int x)] [] c=.ok l c):vF (ζ (.int q)::a1::ζ (.int x)::rest) c=.ok (.lst l) c:=by
 unfold vF;simp only[eX,Ho,bH,dX,bK,iI,gz,gs,bQ,R.aB,mV];rw[if_pos ⟨by omega,by omega,by omega,by omega⟩]
 simp only[R.aB];rw[if_pos hlen];have ep:dz [η,ζ 2] (ζ (D.int q)::a1::ζ (.int x)::rest)=[η,ζ (.int x)]:=rfl;rw[ep,hc];rfl
theorem VT(m x:Nat) (c:aa):bO (λ_=>True) (aA 0) aM (cC (aq (ao 1) (aq (ao 0) au))) (aT ((x:Int)+1) (m:Int)) [η,ζ (.int x)] [] c=.ok ((nk m x).map aK) c:=by
 have:=uq (E:=[ζ (.int x)]) (t:=aM) (a:=cC (aq (ao 1) (aq (ao 0) au))) (c:=c) (λj:Nat=>D.int (j:Int)) (λj=>aK (x,j)) (λ_=>Δ) (List.range' (x+1) (m-(x+1))) η [] (λj _=>rfl) (λj _ _=>pH rfl rfl)
 have ft:(List.range' (x+1) (m-(x+1))).filter (λ_=>Δ)=List.range' (x+1) (m-(x+1)):=by simp
 rw[agf,ft]at this;rw[Td];unfold nk;rw[af7];exact this
theorem abl{dO da:af}{e:Ev}{c:aa}{k:Nat}{acc l:List D}(h1:dO e c=.ok (.ref k) c) (h2:da e c=.ok (.lst l) c) (hk:c[k]? = ζ (.lst acc)) (hl:acc.length+l.length<=1000000) (nr:bX l=Δ):gV dO da e c=.ok .aL (c.set k (.lst (acc++l))):=by
 have hs:1000000<=Ω:=by decide
 unfold gV;rw[h1];simp only[R.aB];rw[h2];simp only[R.aB];rw[hk];dsimp only;rw[if_pos ⟨by omega,nr⟩]
theorem Ag{d:af}{e:Ev}{c c':aa}{v:D}(h:d e c=.ok v c'):cK d e c=.ok (.nx e) c':=by rw[iS,h];rfl
theorem IM(c:aa) (x y:Cell):(c++[x]).set c.length y=c++[y]:=by simp
theorem Om(m i:Nat):jc m i++nk m i=jc m (i+1):=by
 unfold jc;rw[agW,aiG];simp
theorem Jt(m x:Nat):(nk m x).length<=m:=by simp[nk]
theorem adD(m i:Nat):(jc m i).length<=i*m:=by
 induction i with
 |zero=>simp[jc]
 |succ i ih =>
  rw[<-Om,agh,agJ];have:=Jt m i;omega
theorem OQ(a:Option D) (d:D) (rest:Ev) (c:aa):ao 1 (a::ζ d::rest) c=.ok d c:=rfl
theorem VR{m i:Nat}{c:aa}(hm:m<=100) (hi:i<m) (rest:Ev):zb (ζ (.int m)::ζ (.ref c.length)::ζ (.int i)::rest) (c++[.lst ((jc m i).map aK)])=.ok (.nx (ζ (.int m)::ζ (.ref c.length)::ζ (.int i)::rest)) (c++[.lst ((jc m (i+1)).map aK)]):=by
 have hs:=dJ (n:=1000) (by decide)
 have h1:=adD m i;have h2:i*m<=100*100:=ahv (by omega) hm
 have h3:=Jt m i;have hC:vF (ζ (.int m)::ζ (.ref c.length)::ζ (.int i)::rest) (c++[.lst ((jc m i).map aK)])=.ok (.lst ((nk m i).map aK)) (c++[.lst ((jc m i).map aK)]):=VU (by omega) (by omega) (by rw[d9];omega) (VT m i _)
 have hx:gV (ao 1) vF (ζ (.int m)::ζ (.ref c.length)::ζ (.int i)::rest) (c++[.lst ((jc m i).map aK)])=.ok .aL ((c++[Cell.lst ((jc m i).map aK)]).set c.length (.lst ((jc m i).map aK++(nk m i).map aK))):=abl (OQ _ _ _ _) hC ahZ (by simp only[afY];omega) (KN _)
 rw[IM,<-agK,Om]at hx;exact Ag hx
theorem um{sr:Ev->aa->R Src}{g:Gd}{s:ah}{e:Ev}{c:aa}{l:List D}{r:R Fl}(h1:sr e c=.ok ⟨l,λ_=>True⟩ c) (h2:c7 (λ_=>True) g s l e c=r):bB sr g s e c=r:=by
 rw[gx,h1];exact h2
theorem vp{d:af}{e:Ev}{c:aa}{q:Int}(h:d e c=.ok (.int q) c) (bq:-4611686018427387904<=q/\q<4611686018427387904):aZ (aq d au) e c=.ok ⟨aT 0 q,λ_=>True⟩ c:=by
 simp only[ig,bH,h,bQ,R.aB];rw[if_pos (by omega)]
theorem VS{m:Nat}{c:aa}(hm:m<=100) (rest:Ev):∃v,bB (aZ (aq (ao 0) au)) (aA 2) zb (ζ (.int m)::ζ (.ref c.length)::η::rest) (c++[.lst []])=.ok (.nx (ζ (.int m)::ζ (.ref c.length)::v::rest)) (c++[.lst ((PP m).map aK)]):=by
 have hf:=jq (α:=Option D) (st:=λ_=>True) (g:=aA 2) (s:=zb) (λi=>c++[.lst ((jc m i).map aK)]) (λ_ v=>ζ (.int m)::ζ (.ref c.length)::v::rest) (aT 0 (m:Int)) 0 η (λ_ _=>trivial) (λi x hx v=>by
  rw[age];obtain⟨h1,rfl⟩:=nj hx;rw[ahY];exact⟨_,rfl,ζ (.int i),VR hm (by omega) rest⟩)
 obtain⟨v,hf⟩:=hf;have hl:(aT 0 (m:Int)).length=m:=by rw[d9];omega
 rw[age,hl]at hf;exact⟨v,um (vp (q:=m) rfl (by omega)) hf⟩
theorem adE{P:List (Nat×Nat)}{i:Nat}(h:i<P.length):P.getD i (0,0)=P[i]:=by rw[aga,afV h];rfl
theorem LO{k i:Nat}{c:aa}{P:List (Nat×Nat)}(hk:c[k]? = ζ (.lst (P.map aK))) (h:i<P.length):aF (.ref k) (.int (i:Int)) c=.ok (aK (P.getD i (0,0))) c:=by
 have ha:cX (P.map aK) (i:Int)=ζ (aK P[i]):=gK (by rw[af6,afV h];rfl)
 rw[adE h];unfold aF fW;simp only[hk,ha]
theorem abo(w:List (List Nat)) (c d:aa):c9 Θ c.length (aJ w) (c++d)=.ok (aJ w) c:=by
 have nr:=mW w;unfold aJ at nr ⊢;unfold c9;dsimp only;rw[if_pos nr,List.take_left]
def Lh:ai:=(oU (aV (av inD (av aF (av aF (ao 1) (ao 2)) (dC (.int 0))) (av aF (ao 1) (ao 4)))) (aV (av inD (av aF (av aF (ao 1) (ao 2)) (dC (.int 1))) (av aF (ao 1) (ao 4)))))
def Li:ah:=(cK (dH (ao 3) (cC (aq (ao 2) (aq (ao 4) au)))))
def zJ:ah:=b7 Lh Li ck
def zI:ah:=(bB (gG (aq (av bu (ao 2) (dC (.int 1))) (aq (aO bA (aq (ao 1) au)) au))) (aA 4) zJ)
theorem LX(a:Nat) (p:Nat×Nat) (c:aa):inD (.int (a:Int)) (aK p) c=.ok (.bl (decide (a∈sY p))) c:=LY (sY p) a c
theorem VZ{d1 d2:af}{e:Ev}{c:aa}{a b:Bool}(h1:d1 e c=.ok (.bl a) c) (h2:d2 e c=.ok (.bl b) c):oU (aV d1) (aV d2) e c=.ok (a||b) c:=by
 cases a<;>simp[h1,h2]
theorem Yv{k i j:Nat}{P:List (Nat×Nat)}{a0 a3:Option D}{c:aa}(hk:c[k]? = ζ (.lst (P.map aK))) (hi:i<P.length) (hj:j<P.length):Lh [a0,ζ (.ref k),ζ (.int i),a3,ζ (.int j)] c=.ok (kG P i j) c:=by
 have h1:av aF (ao 1) (ao 2) [a0,ζ (.ref k),ζ (.int i),a3,ζ (.int j)] c=.ok (aK (P.getD i (0,0))) c:=dg rfl rfl (LO hk hi);have h2:av aF (ao 1) (ao 4) [a0,ζ (.ref k),ζ (.int i),a3,ζ (.int j)] c=.ok (aK (P.getD j (0,0))) c:=dg rfl rfl (LO hk hj);exact VZ (dg (dg h1 rfl (zN _ c)) h2 (LX _ _ c)) (dg (dg h1 rfl (zM _ c)) h2 (LX _ _ c))
theorem ac6{dO da:af}{e:Ev}{c:aa}{k:Nat}{acc:List D}{v:D}(h1:dO e c=.ok (.ref k) c) (h2:da e c=.ok v c) (hk:c[k]? = ζ (.lst acc)) (hl:acc.length+1<=1000000) (nr:noRef v=Δ):dH dO da e c=.ok .aL (c.set k (.lst (acc++[v]))):=by
 have hs:1000000<=Ω:=by decide
 unfold dH;rw[h1];simp only[R.aB];rw[h2];simp only[R.aB];rw[hk];dsimp only;rw[if_pos ⟨by omega,nr⟩]
theorem Hh(a b d:Option D) (v:D) (rest:Ev) (c:aa):ao 3 (a::b::d::ζ v::rest) c=.ok v c:=rfl
theorem Yw{k i j:Nat}{P:List (Nat×Nat)}{a0:Option D}{c:aa}{acc:List (Nat×Nat)}(hkc:k<c.length) (hk:c[k]? = ζ (.lst (P.map aK))) (hi:i<P.length) (hj:j<P.length) (hl:acc.length+1<=1000000) :
  zJ [a0,ζ (.ref k),ζ (.int i),ζ (.ref c.length),ζ (.int j)] (c++[.lst (acc.map aK)])=.ok (.nx [a0,ζ (.ref k),ζ (.int i),ζ (.ref c.length),ζ (.int j)]) (c++[.lst ((acc++([j].filter (kG P i)).map λj=>(i,j)).map aK)]):=by
 have hk':(c++[Cell.lst (acc.map aK)])[k]? = ζ (.lst (P.map aK)):=by rw[agl hkc];exact hk
 have ht:=Yv (a0:=a0) (a3:=ζ (.ref c.length)) hk' hi hj;unfold zJ;rw[jz,ht];simp only[R.aB];cases hq:kG P i j with
 |false =>
  rw[if_neg (by simp),akH (by simp[hq])]
  simp
 |true =>
  rw[if_pos rfl,akG hq];have ha:dH (ao 3) (cC (aq (ao 2) (aq (ao 4) au))) [a0,ζ (.ref k),ζ (.int i),ζ (.ref c.length),ζ (.int j)] (c++[.lst (acc.map aK)])=.ok .aL ((c++[Cell.lst (acc.map aK)]).set c.length (.lst (acc.map aK++[aK (i,j)]))):=ac6 (Hh _ _ _ _ _ _) (pH rfl rfl) ahZ (by rw[afY];exact hl) rfl
  rw[IM]at ha;have:=Ag ha;unfold Li;rw[this];simp
theorem Tu(a t:Nat):List.range' a (t+1)=List.range' a t++[a+t]:=by
 rw[List.range'_concat];simp
theorem Th{d1 d2:af}{e:Ev}{c:aa}{p q:Int}(h1:d1 e c=.ok (.int p) c) (h2:d2 e c=.ok (.int q) c) (bp:-4611686018427387904<=p/\p<4611686018427387904) (bq:-4611686018427387904<=q/\q<4611686018427387904):gG (aq d1 (aq d2 au)) e c=.ok ⟨aT p q,λ_=>True⟩ c:=by
 simp only[Ho,bH,h1,h2,bQ,R.aB];rw[if_pos ⟨by omega,by omega,by omega,by omega⟩]
theorem Ef{k:Nat}{c:aa}{l:List D}(hk:c[k]? = ζ (.lst l)):bA [.ref k] c=.ok (.int (l.length:Nat)) c:=by
 unfold bA fW;simp only[hk]
theorem adw(i:Nat) (c:aa):bu (.int (i:Int)) (.int 1) c=.ok (.int ((i:Int)+1)) c:=rfl
theorem Yy{k i:Nat}{P:List (Nat×Nat)}{a0 v4:Option D}{c:aa}{acc:List (Nat×Nat)}(hkc:k<c.length) (hk:c[k]? = ζ (.lst (P.map aK))) (hi:i<P.length) (hP:P.length<=100) (hl:acc.length+100<=1000000) :
  ∃v,zI [a0,ζ (.ref k),ζ (.int i),ζ (.ref c.length),v4] (c++[.lst (acc.map aK)])=.ok (.nx [a0,ζ (.ref k),ζ (.int i),ζ (.ref c.length),v]) (c++[.lst ((acc++sS P i).map aK)]):=by
 have hf:=jq (α:=Option D) (st:=λ_=>True) (g:=aA 4) (s:=zJ) (λt=>c++[.lst ((acc++((List.range' (i+1) t).filter (kG P i)).map λj=>(i,j)).map aK)]) (λ_ v=>[a0,ζ (.ref k),ζ (.int i),ζ (.ref c.length),v]) (aT ((i:Int)+1) (P.length:Int)) 0 v4 (λ_ _=>trivial) (λt x hx v=>by
  rw[age];obtain⟨h1,rfl⟩:=nj hx;have e1:((i:Int)+1+(t:Int))=((i+1+t:Nat):Int):=by omega
  rw[e1];have hlen:(acc++((List.range' (i+1) t).filter (kG P i)).map λj=>(i,j)).length<=acc.length+t:=by
   rw[agh,afY];have:=ahk (kG P i) (List.range' (i+1) t);rw[akM]at this;omega
  have hs:=Yw (j:=i+1+t) (a0:=a0) (acc:=acc++((List.range' (i+1) t).filter (kG P i)).map λj=>(i,j)) hkc hk hi (by omega) (by omega)
  rw[agy,<-agK,<-ajF,<-Tu]at hs;exact⟨_,rfl,ζ (.int (i+1+t:Nat)),hs⟩)
 obtain⟨v,hf⟩:=hf;have mz:(aT ((i:Int)+1) (P.length:Int)).length=P.length-(i+1):=by rw[d9];omega
 rw[age,mz]at hf;have e0:(acc++((List.range' (i+1) 0).filter (kG P i)).map λj=>(i,j))=acc:=by simp
 rw[e0]at hf;have hk':(c++[Cell.lst (acc.map aK)])[k]? = ζ (.lst (P.map aK)):=by rw[agl hkc];exact hk
 have hl':=Ef hk';rw[afY]at hl';exact⟨v,um (Th (p:=(i:Int)+1) (q:=(P.length:Int)) (dg rfl rfl (adw i _)) (iR rfl hl') (by omega) (by omega)) hf⟩
theorem Oj(P:List (Nat×Nat)) (i:Nat):mR P i++sS P i=mR P (i+1):=by
 unfold mR;rw[agW,aiG];simp
theorem T8(P:List (Nat×Nat)) (i:Nat):(sS P i).length<=P.length:=by
 unfold sS;rw[afY];have:=ahk (kG P i) (List.range' (i+1) (P.length-(i+1)));rw[akM]at this;omega
theorem adC(P:List (Nat×Nat)) (i:Nat):(mR P i).length<=i*P.length:=by
 induction i with
 |zero=>simp[mR]
 |succ i ih =>
  rw[<-Oj,agh,agJ];have:=T8 P i;omega
theorem Yx{k:Nat}{P:List (Nat×Nat)}{a0 v2:Option D}{c:aa}(hkc:k<c.length) (hk:c[k]? = ζ (.lst (P.map aK))) (hP:P.length<=100) :
  ∃u v,bB (aZ (aq (aO bA (aq (ao 1) au)) au)) (aA 2) zI [a0,ζ (.ref k),v2,ζ (.ref c.length),η] (c++[.lst []])=.ok (.nx [a0,ζ (.ref k),u,ζ (.ref c.length),v]) (c++[.lst ((QQ P).map aK)]):=by
 have hf:=jq (α:=Option D×Option D) (st:=λ_=>True) (g:=aA 2) (s:=zI) (λi=>c++[.lst ((mR P i).map aK)]) (λ_ v=>[a0,ζ (.ref k),v.1,ζ (.ref c.length),v.2]) (aT 0 (P.length:Int)) 0 (v2,η) (λ_ _=>trivial) (λi x hx v=>by
  rw[age];obtain⟨h1,rfl⟩:=nj hx;rw[ahY];have h2:=adC P i;have h3:i*P.length<=100*100:=ahv (by omega) hP
  obtain⟨w,hs⟩:=Yy (a0:=a0) (v4:=v.2) (acc:=mR P i) hkc hk (i:=i) (by omega) hP (by omega)
  rw[Oj]at hs;exact⟨_,rfl,(ζ (.int i),w),hs⟩)
 obtain⟨v,hf⟩:=hf;have mz:(aT 0 (P.length:Int)).length=P.length:=by rw[d9];omega
 rw[age,mz]at hf;have hk':(c++[Cell.lst []])[k]? = ζ (.lst (P.map aK)):=by rw[agl hkc];exact hk
 have hl':=Ef hk';rw[afY]at hl';exact⟨v.1,v.2,um (vp (q:=(P.length:Int)) (iR rfl hl') (by omega)) hf⟩
theorem adB(P:List (Nat×Nat)):uF P.length (QQ P):=λp hp=>by
 unfold QQ mR at hp;obtain⟨i,hi,hp⟩:=ajB.mp hp;unfold sS at hp;obtain⟨j,hj,rfl⟩:=afW.mp hp;have:=List.mem_range'_1.mp (agm.mp hj).1;have hi:=afR.mp hi;exact⟨by simp only;omega,by simp only;omega,by simp only;omega⟩
theorem YM{m:Nat}(hm:m<=10) (hl:(PP m).length<64) (hq:(QQ (PP m)).length<1000) (c:aa):l7 [.int m] c=.ok (aJ (lF (PP m).length (QQ (PP m)))) c:=by
 have e1:aG 1 (cV au) [ζ (.int m),η,η,η,η] c=.ok (.nx [ζ (.int m),ζ (.ref c.length),η,η,η]) (c++[.lst []]):=by simp
 obtain⟨v,e2⟩:=VS (m:=m) (c:=c) (by omega) [η,η]
 generalize hP:PP m=P at e2 hl hq ⊢
 have e3:aG 3 (cV au) [ζ (.int m),ζ (.ref c.length),v,η,η] (c++[.lst (P.map aK)])=.ok (.nx [ζ (.int m),ζ (.ref c.length),v,ζ (.ref (c++[Cell.lst (P.map aK)]).length),η]) (c++[.lst (P.map aK)]++[.lst []]):=by simp
 obtain⟨u,t,e4⟩:=Yx (k:=c.length) (P:=P) (a0:=ζ (.int m)) (v2:=v) (c:=c++[.lst (P.map aK)]) (by simp) (by simp) (by omega)
 have hw:=Hx (m:=P.length) (k:=(c++[Cell.lst (P.map aK)]).length) (c:=c++[.lst (P.map aK)]++[.lst ((QQ P).map aK)]) (adB P) (by omega) hl (by simp)
 have hk:(c++[.lst (P.map aK)]++[Cell.lst ((QQ P).map aK)])[c.length]? = ζ (.lst (P.map aK)):=by simp
 have hl':=Ef hk;rw[afY]at hl';have e5:=pU (lg (m:=kL) (d1:=aO bA (aq (ao 1) au)) (d2:=ao 3) (e:=[ζ (.int m),ζ (.ref c.length),u,ζ (.ref (c++[Cell.lst (P.map aK)]).length),t]) (iR rfl hl') (Hh _ _ _ _ _ _) hw);have hb:AV=aE (aG 1 (cV au)) (aE (bB (aZ (aq (ao 0) au)) (aA 2) zb) (aE (aG 3 (cV au)) (aE (bB (aZ (aq (aO bA (aq (ao 1) au)) au)) (aA 2) zI) (aS (aC 2 kL (aq (aO bA (aq (ao 1) au)) (aq (ao 3) au))))))):=rfl;have es:dI 5 [D.int m]=[ζ (.int m),η,η,η,η]:=rfl;rw[l7,fC,hb,es,bI e1,bI e2,bI e3,bI e4,e5];have:=abo (lF P.length (QQ P)) c ([.lst (P.map aK)]++[.lst ((QQ P).map aK)]);rw[<-agy]at this;exact this
theorem Hv(i:Int) (c:aa):vY [.int i] c=.ok (.bl Δ) c:=by simp[vY,A2]
theorem within_int(i lo hi:Int) (c:aa):l9 [.int i,.int lo,.int hi] c=.ok (.bl (decide (lo<=i)&&decide (i<=hi))) c:=by
 simp[l9,A1,Hv]
 by_cases q:lo<=i<;>simp[q]
theorem tabs_ok:(b8.all λf=>decide (iz ko f.q=ζ [(f.p:Int),f.n,f.low]))=Δ:=by decide +kernel
theorem yk{f:Fd}(h:f∈b8):iz ko f.q=ζ [(f.p:Int),f.n,f.low]:=by
 have:=afX.mp tabs_ok f h
 simpa using this
theorem Zm{f:Fd}(h:f∈b8) (c:aa):zF [.int f.q] c=.ok (.bl Δ) c:=by
 simp[zF,A5,Hv,yk h]
theorem Df{f:Fd}(h:f∈b8) (c:aa):j3 [.int f.q] c=.ok .aL c:=by
 simp[j3,AH,Zm h]
theorem HW{f:Fd}(h:f∈b8) {x y:Int}(x0:0<=x) (x1:x<f.q) (y0:0<=y) (y1:y<f.q) (c:aa):qh [.int f.q,.tup [.int x,.int y]] c=.ok .aL c:=by
 have a1:x<=(f.q:Int)-1:=by omega
 have a2:y<=(f.q:Int)-1:=by omega
 simp[qh,AF,Df h,within_int,x0,y0,a1,a2]
def yK:ah:=(aE (cK (dH (ao 3) (av cy (ao 4) (ao 2)))) (aG 4 (av gu (ao 4) (ao 2))))
theorem S0{c:aa}{a0 a1 v5:Option D}{p left:Int}{acc:List D}(hp:0<p) (eO:p<1000) (ha:acc.length<1000):yK [a0,a1,ζ (.int p),ζ (.ref c.length),ζ (.int left),v5] (c++[.lst acc]) =
  .ok (.nx [a0,a1,ζ (.int p),ζ (.ref c.length),ζ (.int (left/p)),v5]) (c++[.lst (acc++[.int (left % p)])]):=by
 have h:=uD (c:=c) (acc:=acc) (y:=.int (left % p)) (dO:=ao 3) (da:=av cy (ao 4) (ao 2)) (e:=[a0,a1,ζ (.int p),ζ (.ref c.length),ζ (.int left),v5]) (by simp) (by simp(disch:=omega) [jj]) rfl (by have:=dJ (n:=1000) (by decide);omega)
 unfold yK;rw[g9,iS,h];simp(disch:=omega) [rF]
theorem Jf{c:aa}{a0 a1:Option D}{p:Int}(hp:0<p) (eO:p<1000):∀(items:List D) (left:Int) (acc:List D) (v5:Option D),acc.length+items.length<1000 ->
  ∃l' Py,c7 (λ_=>True) (aA 5) yK items [a0,a1,ζ (.int p),ζ (.ref c.length),ζ (.int left),v5] (c++[.lst acc]) =
   .ok (.nx [a0,a1,ζ (.int p),ζ (.ref c.length),ζ (.int l'),Py]) (c++[.lst (acc++(bf p items.length left).map D.int)])
 |[],left,acc,v5,_=>⟨left,v5,by simp[bf]⟩
 |x::xs,left,acc,v5,h=>by
  simp only[af0]at h;obtain⟨l',v',ih⟩:=Jf hp eO xs (left/p) (acc++[.int (left % p)]) (ζ x) (by simp;omega)
  refine⟨l',v',?_⟩;rw[i6];simp only[yd,agQ,ag3,R.aB];rw[S0 hp eO (by omega)]
  simp only[R.aB];rw[ih];simp[bf]
theorem S5{q p N low:Int}(ht:iz ko q=ζ [p,N,low]) (hp:0<p) (eO:p<1000) {n:Nat}(hl:(aT 0 N).length=n) (hn:n<1000) (b1:-4611686018427387904<=N/\N<4611686018427387904) (x:Int) (c:aa) :
  jk [.int q,.int x] c=.ok (.lst ((bf p n x).map D.int)) c:=by
 obtain⟨l',v',hf⟩:=Jf (c:=c) (a0:=ζ (.int q)) (a1:=ζ (.int x)) (p:=p) hp eO (aT 0 N) x [] η (by rw[hl,agj];omega)
 rw[hl,agf]at hf;unfold yK at hf;simp[jk,AE,ht];rw[if_pos b1];simp only[R.aB];rw[hf];simp[c9,qa]
theorem yI{f:Fd}(h:f∈b8) (x:Int) (c:aa):jk [.int f.q,.int x] c=.ok (.lst ((bf f.p f.n x).map D.int)) c:=by
 have I:=fZ h;have p2:=I.p2;have gS:=I.gS;have n5:=I.n5;exact S5 (yk h) (by omega) (by omega) (by rw[d9];omega) (by omega) (by omega) x c
def zm:ah:=(aG 3 (av bu (av bN (ao 3) (ao 2)) (av cy (ao 4) (ao 2))))
theorem Kv(p:Int):∀r:List Int,r.foldr (λd n=>n*p+d % p) 0=c8 p r
 |[]=>rfl
 |d::r=>by simp only[ajy,Kv p r,c8]
theorem Ku{c:aa}{a0 a1:Option D}{p:Int}(hp:0<p) (eO:p<1000):∀(ds:List Int) (acc:Int) (v4:Option D),
  ∃v',c7 (λ_=>True) (aA 4) zm (ds.map D.int) [a0,a1,ζ (.int p),ζ (.int acc),v4] c=.ok (.nx [a0,a1,ζ (.int p),ζ (.int (ds.foldl (λn d=>n*p+d % p) acc)),v']) c
 |[],acc,v4=>⟨v4,by simp⟩
 |d::ds,acc,v4=>by
  obtain⟨v',ih⟩:=Ku hp eO ds (acc*p+d % p) (ζ (.int d));refine⟨v',?_⟩;rw[af9,i6];simp only[yd,agQ,ag3,R.aB];have e:zm [a0,a1,ζ (.int p),ζ (.int acc),ζ (.int d)] c=.ok (.nx [a0,a1,ζ (.int p),ζ (.int (acc*p+d % p)),ζ (.int d)]) c:=by
   simp(disch:=omega) [zm,mul_r,jj]
  rw[e];simp only[R.aB];rw[ih];simp
theorem Kp{f:Fd}(h:f∈b8) (r:List Int) (c:aa):qk [.int f.q,.lst (r.map D.int)] c=.ok (.int (c8 f.p r)) c:=by
 have I:=fZ h;have p2:=I.p2;have gS:=I.gS;obtain⟨v',hf⟩:=Ku (c:=c) (a0:=ζ (.int f.q)) (a1:=ζ (.lst (r.map D.int))) (p:=f.p) (by omega) (by omega) r.reverse 0 η
 rw[ajx,Kv,akN]at hf;unfold zm at hf;simp[qk,AJ,yk h];rw[hf];simp
theorem Qy{f:Fd}(h:f∈b8) {x y:Int}(x0:0<=x) (x1:x<f.q) (y0:0<=y) (y1:y<f.q) (c:aa):vW [.int f.q,.int x,.int y] c=.ok (.int (sE f.p f.n x y)) c:=by
 have n5:=(fZ h).n5;have hs:=dJ (n:=1000) (by decide)
 have hz:f.n<Ω:=by omega
 have hc:=wW (st:=λ_=>True/\True) (c:=c) ⟨trivial,trivial⟩ (a:=av cA (ao 0) (ao 1)) (· - ·) [] (bf f.p f.n x) (bf f.p f.n y) η η [] (λu _ v _=>by simp)
 have hn:=Kp h (List.zipWith (· - ·) (bf f.p f.n x) (bf f.p f.n y)) c;simp[vW,Az,HW h x0 x1 y0 y1,yI h,jT,fP,hz,dz];simp at hc hn;rw[hc];simp[hn,sE]
theorem ac2:∀{r:List Int},r≠[]->cX (r.map D.int) (-1)=ζ (.int (mh r)):=by
 have gen:∀r:List Int,r≠[]->(r.map D.int)[r.length-1]? = ζ (.int (mh r)):=by
  intro r
  induction r with
  |nil=>intro h;exact absurd rfl h
  |cons a r ih =>
   intro _;cases r with
   |nil=>rfl
   |cons b r =>
    have:=ih (by simp)
    simpa[mh]using this
 intro r hr;have hl:0<r.length:=akC.mpr hr;have g:=gen r hr;unfold cX gp;rw[afY,if_neg (by decide),if_pos (by omega)]
 show(r.map D.int)[((-1:Int)+(r.length:Int)).toNat]? = _;rw[show((-1:Int)+(r.length:Int)).toNat=r.length-1 by omega]
 exact g
theorem C9{p:Int}(hp:0<p):∀(n:Nat) (x:Int),∀d∈bf p n x,0<=d/\d<p
 |0,x,d,h=>by cases h
 |n+1,x,d,h=>by
  rcases afT.mp h with rfl|h
  ·exact⟨ag1 _ (by omega),ag2 _ hp⟩
  ·exact C9 hp n _ d h
theorem Qk{f:Fd}(h:f∈b8) {r:List Int}(hr:r.length=f.n) (c:aa):tT [.int f.q,.lst (r.map D.int)] c=.ok (.lst ((iK (bf f.p f.n f.low) r).map D.int)) c:=by
 have I:=fZ h;have n1:=I.n1;have n5:=I.n5;have p2:=I.p2;have gS:=I.gS;have hs:=dJ (n:=1000) (by decide)
 have hz:f.n<Ω:=by omega
 have hz2:1+r.length<=Ω:=by omega
 have hne:r≠[]:=by intro z;subst z;simp at hr;omega
 have hb:=C9 (p:=f.p) (by omega) f.n f.low
 have hc:=wW (st:=λ_=>True/\True) (c:=c) ⟨trivial,trivial⟩ (a:=av cA (ao 0) (av bN (av aF (ao 2) (k6 vL (dC (.int 1)))) (ao 1))) (λb d=>b-mh r*d) [ζ (.lst (r.map D.int))] (0::r) (bf f.p f.n f.low) η η [] (λu _ v hv=>by
  have:=hb v hv;have e:bN (.int (mh r)) (.int v) c=.ok (.int (mh r*v)) c:=mul_r c (by omega) (by omega)
  simp[ac2 hne,e])
 simp[tT,Ax,yk h,yI h,fh,jT,fP,hz,hz2,dz];simp at hc;rw[if_pos (by rw[hr];omega)]
 rw[hc];have hr:=qa (l:=iK (bf f.p f.n f.low) r);simp[iK]at hr;simp[iK,hr]
def vR:ah:=(aG 4 (aY (iF (aq (aC 2 tT (aq (ao 0) (aq (ao 4) au))) (aq (ao 3) au))) [η,η,ζ 5] (cS 2 (br (aA 0) (br (aA 1) cU))) aM (av bu (ao 0) (av bN (ao 2) (ao 1)))))
theorem HR{low r:List Int}{n:Nat}(hl:low.length=n) (hr:r.length=n):(iK low r).length=n:=by
 simp[iK,hl,hr]
theorem XY{f:Fd}(h:f∈b8) {ry r:List Int}(hy:ry.length=f.n) (hr:r.length=f.n) {d:Int}(d0:0<=d) (d1:d<1000) (c:aa) (a1 a2:Option D) :
  vR [ζ (.int f.q),a1,a2,ζ (.lst (ry.map D.int)),ζ (.lst (r.map D.int)),ζ (.int d)] c =
   .ok (.nx [ζ (.int f.q),a1,a2,ζ (.lst (ry.map D.int)),ζ (.lst ((List.zipWith (λa b=>a+d*b) (iK (bf f.p f.n f.low) r) ry).map D.int)),ζ (.int d)]) c:=by
 have n5:=(fZ h).n5;have hs:=dJ (n:=1000) (by decide)
 have hz:f.n<Ω:=by omega
 have ht:(iK (bf f.p f.n f.low) r).length=f.n:=HR (fP _ _ _) hr;have hc:=wW (st:=λ_=>True/\True) (c:=c) ⟨trivial,trivial⟩ (a:=av bu (ao 0) (av bN (ao 2) (ao 1))) (λa b=>a+d*b) [ζ (.int d)] (iK (bf f.p f.n f.low) r) ry η η [] (λu _ v hv=>by
  have e:bN (.int d) (.int v) c=.ok (.int (d*v)) c:=vQ c (by omega) (by omega)
  simp[e])
 simp[vR,Qk h hr,jT,ht,hy,hz,dz];simp at hc;rw[hc];simp
theorem K5{f:Fd}(h:f∈b8) {ry:List Int}(hy:ry.length=f.n) (c:aa) (a1 a2:Option D):∀(ds r:List Int) (v5:Option D),r.length=f.n->(∀d∈ds,0<=d/\d<1000) ->
  ∃v',c7 (λ_=>True) (aA 5) vR (ds.map D.int) [ζ (.int f.q),a1,a2,ζ (.lst (ry.map D.int)),ζ (.lst (r.map D.int)),v5] c =
   .ok (.nx [ζ (.int f.q),a1,a2,ζ (.lst (ry.map D.int)),ζ (.lst ((ds.foldl (λr d=>List.zipWith (λa b=>a+d*b) (iK (bf f.p f.n f.low) r) ry) r).map D.int)),v']) c
 |[],r,v5,_,_=>⟨v5,by simp⟩
 |d::ds,r,v5,hr,hd=>by
  have hd0:=hd d agw;have hl:(List.zipWith (λa b=>a+d*b) (iK (bf f.p f.n f.low) r) ry).length=f.n:=by
   rw[ai1,HR (fP _ _ _) hr,hy];omega
  obtain⟨v',ih⟩:=K5 h hy c a1 a2 ds (List.zipWith (λa b=>a+d*b) (iK (bf f.p f.n f.low) r) ry) (ζ (.int d)) hl λx hx=>hd x (agk _ hx)
  refine⟨v',?_⟩;rw[af9,i6];simp only[yd,agQ,ag3,R.aB];rw[XY h hy hr hd0.1 hd0.2];simp only[R.aB];rw[ih,ahP]
theorem K7(low ry:List Int):∀rx:List Int,rx.foldr (λd r=>List.zipWith (λa b=>a+d*b) (iK low r) ry) (ry.map λ_=>0)=mulR low ry rx
 |[]=>rfl
 |d::rx=>by rw[ajy,K7 low ry rx];rfl
theorem zeros(ry:List Int):(ι ry.length [D.int 0]).flatten=(ry.map λ_=>(0:Int)).map D.int:=by
 induction ry with
 |nil=>rfl
 |cons a r ih=>rw[af0,agO,ag8,ih];rfl
theorem To{N:Int}{n:Nat}(hN:N.toNat=n) (b:-9223372036854775808<=N/\N<9223372036854775808/\n<=Ω) (c:aa):sR (.lst [.int 0]) (.int N) c=.ok (.lst (ι n [D.int 0]).flatten) c:=by
 rw[OU,hN,if_pos ⟨by omega,by omega,by simp only[af0,agj];omega⟩]
def bM(L:List D->aa->R D) (Rp:D->D->aa->R D):ah:=(aE (cK (aC 2 qh (aq (ao 0) (aq (cC (aq (ao 1) (aq (ao 2) au))) au)))) (aE (aG 3 (aC 2 jk (aq (ao 0) (aq (ao 2) au)))) (aE (aG 4 (av Rp (bG (aq (dC (.int 0)) au)) (aO L (aq (ao 3) au)))) (aE (bB (wQ (aq (aC 2 jk (aq (ao 0) (aq (ao 1) au))) au)) (aA 5) (aG 4 (aY (iF (aq (aC 2 tT (aq (ao 0) (aq (ao 4) au))) (aq (ao 3) au))) [η,η,ζ 5] (cS 2 (br (aA 0) (br (aA 1) cU))) aM (av bu (ao 0) (av bN (ao 2) (ao 1)))))) (aS (aC 2 qk (aq (ao 0) (aq (ao 4) au))))))))
theorem acZ:AK=bM bA sR:=rfl
theorem X8{L:List D->aa->R D}{Rp:D->D->aa->R D}{q x y N w:Int}{rx ry Z Y:List D}{c:aa}{v':Option D}(h0:qh [.int q,.tup [.int x,.int y]] c=.ok .aL c) (h1:jk [.int q,.int y] c=.ok (.lst ry) c) (h2:jk [.int q,.int x] c=.ok (.lst rx) c) (hlen:L [.lst ry] c=.ok (.int N) c)
  (hrep:Rp (.lst [.int 0]) (.int N) c=.ok (.lst Z) c) (hf:c7 (λ_=>True) (aA 5) vR rx.reverse [ζ (.int q),ζ (.int x),ζ (.int y),ζ (.lst ry),ζ (.lst Z),η] c=.ok (.nx [ζ (.int q),ζ (.int x),ζ (.int y),ζ (.lst ry),ζ (.lst Y),v']) c)
  (hn:qk [.int q,.lst Y] c=.ok (.int w) c):bD 6 Θ (bM L Rp) [.int q,.int x,.int y] c=.ok (.int w) c:=by
 unfold vR at hf;simp[bM,h0,h1,h2,hlen,hrep,hf,hn]
theorem X7{f:Fd}(h:f∈b8) {x y:Int}(x0:0<=x) (x1:x<f.q) (y0:0<=y) (y1:y<f.q) (c:aa):tV [.int f.q,.int x,.int y] c=.ok (.int (zB f.p f.n f.low x y)) c:=by
 have I:=fZ h;have n5:=I.n5;have p2:=I.p2;have gS:=I.gS;have hs:=dJ (n:=1000) (by decide)
 have hb:=C9 (p:=f.p) (by omega) f.n x
 obtain⟨v',hf⟩:=K5 h (fP f.p f.n y) c (ζ (.int x)) (ζ (.int y)) (bf f.p f.n x).reverse ((bf f.p f.n y).map λ_=>0) η (by simp[fP]) (λd hd=>by
  have:=hb d (aku.mp hd);omega)
 rw[ajx,K7,akN]at hf;have z0:=zeros (bf f.p f.n y);rw[fP]at z0;have hlen:bA [.lst ((bf f.p f.n y).map D.int)] c=.ok (.int (f.n:Int)) c:=by
  rw[BJ,afY,fP]
 have hrep:=To (N:=f.n) (n:=f.n) (by omega) (by omega) c
 rw[z0]at hrep;rw[tV,acZ];exact X8 (HW h x0 x1 y0 y1 c) (yI h y c) (yI h x c) hlen hrep hf (Kp h (mulR (bf f.p f.n f.low) (bf f.p f.n y) (bf f.p f.n x)) c)
theorem Yc{f:Fd}(h:f∈b8) {x y:Nat}(hx:x<f.q) (hy:y<f.q) (c:aa):tV [.int f.q,.int x,.int y] c=.ok (.int (M f x y:Nat)) c:=by
 rw[X7 h (by omega) (by omega) (by omega) (by omega)]
 have:=(fZ h).mm x y hx hy;unfold mI at this;rw[this]
def iT(f:Fd):List Nat:=(θ (f.q-1)).map λt=>M f (t+1) (t+1)
def u5:af:=(aC 3 tV (aq (ao 1) (aq (ao 0) (aq (ao 0) au))))
def yt(f:Fd):D->D
 |.int i=>.int (M f i.toNat i.toNat:Nat)
 |d=>d
theorem Tc(f:Fd):(aT 1 (f.q:Int)).map (yt f)=nD (iT f):=by
 unfold aT nD iT;rw[af7,af7,show((f.q:Int)-1).toNat=f.q-1 by omega]
 refine agp λt _=>?_
 have e:((1:Int)+(t:Int)).toNat=t+1:=by omega
 simp[yt,e]
theorem RG{f:Fd}(h:f∈b8) (c:aa):bO (λ_=>True) (aA 0) aM u5 (aT 1 (f.q:Int)) [η,ζ (.int f.q)] [] c=.ok (nD (iT f)) c:=by
 have:=jP (c:=c) (g:=aA 0) (t:=aM) (a:=u5) (λe=>∃v,e=[v,ζ (.int f.q)]) (λ_=>Δ) (yt f) (aT 1 (f.q:Int)) [η,ζ (.int f.q)] [] ⟨_,rfl⟩ (λd hd e ⟨v,he⟩=>by
  subst he;obtain⟨i,rfl,i0,i1⟩:=qd hd;obtain⟨t,rfl⟩:=vP (i:=i) (by omega)
  have ht:t<f.q:=by omega
  have hp:=Yc h ht ht c;refine⟨_,rfl,⟨_,rfl⟩,rfl,λ_=>?_⟩
  simp only[u5,yt,x_call,bH,bK,gz,gs,bQ,R.aB,ag3,af0,agj,if_pos,hp,aho])
 rw[this,agf,M0,Tc]
theorem RP{c:aa}{ns:List Nat}{a:aj}{e:Ev}{c0:aa}(ha:a e c0=.ok [.lst (nD ns)] c) (h:ns.length<64) (hx:∀x∈ns,x<128):i9 a e c0=.ok (.lst (nD (cQ ns))) c:=by
 rw[Hj,ha,R.aB];dsimp only;rw[YZ];dsimp only;rw[zA (ahb (RA ns) h) hx]
theorem RI{q:Int}{c:aa}{l:List D}(b1:-4611686018427387904<=q/\q<4611686018427387904) (hl:(aT 1 q).length<Ω) (hc:bO (λ_=>True) (aA 0) aM u5 (aT 1 q) [η,ζ (.int q)] [] c=.ok l c) :
  aq (aY (gG (aq (dC (.int 1)) (aq (ao 0) au))) [η,ζ 0] (aA 0) aM u5) au [ζ (.int q)] c=.ok [.lst l] c:=by
 simp[dz];rw[if_pos ⟨by omega,by omega⟩]
 simp only[R.aB];rw[if_pos hl,hc];simp
theorem RE{q:Int}{c:aa}{S:af}{l:List D}(h0:j3 [.int q] c=.ok .aL c) (hS:S [ζ (.int q)] c=.ok (.lst l) c) (nr:bX l=Δ) :
  bD 1 Θ (aE (cK (aC 1 j3 (aq (ao 0) au))) (aS S)) [.int q] c=.ok (.lst l) c:=by
 simp[h0,hS,nr]
theorem IA{f:Fd}(h:f∈b8):(iT f).length<64/\∀x∈iT f,x<128:=by
 have hq:=sU h;have I:=fZ h;refine⟨by simp[iT];omega,λx hx=>?_⟩
 obtain⟨t,_,rfl⟩:=afW.mp hx;have:=adH I (t+1) (t+1);omega
theorem RD{f:Fd}(h:f∈b8) (c:aa):tU [.int f.q] c=.ok (.lst (nD (cQ (iT f)))) c:=by
 have hq:=sU h;have hs:=dJ (n:=1000) (by decide)
 exact RE (Df h c) (RP (RI (by omega) (by rw[d9];omega) (RG h c)) (IA h).1 (IA h).2) (tN _)
structure EW (N:Nat) (f:Nat->Nat->Bool):Prop where
 lo:1<=N
 hi:N<=49
 sy:∀i j,i<N->j<N->f i j=f j i
 pl:jh (aH N f)=η
 nr:fD (aH N f) (bz (aH N f))=η
 fr:fD (aH N f) (bz (cZ (aH N f)))=η
theorem HH{w:List (List Nat)}{s:Nat}:∀{ps:List (Nat×Nat)},fD w ps=η->bY w ps=ζ s->∀p∈ps,ek w p=s
 |[],_,h=>by cases h
 |p::ps,h,hs=>λq hq=>by
  have hs:ek w p=s:=agc hs;have h:(p::ps).find? (λq=>decide (ek w q≠ek w p))=η:=h
  have:=ajd.mp h q hq;rw[<-hs]
  simpa using this
theorem NH(w:List (List Nat)) (i j:Nat):ek w (i,j)=ek w (j,i):=by
 unfold ek;refine(As ((zw (lG (w.getD j []))).filter λx=>decide (x∈w.getD i [])) λx=>?_).symm.trans rfl
 rw[agm,lW,decide_eq_true_eq];exact And.comm
section
variable {N:Nat}{f:Nat->Nat->Bool}{a b:Nat}
def kN(N:Nat) (f:Nat->Nat->Bool):Nat:=((aH N f).getD 0 []).length
theorem EW.oN(E:EW N f) {i:Nat}(hi:i<N):(cF N f i).length=kN N f:=by
 have h:=ajh.mp E.pl (cF N f i) (afW.mpr ⟨i,afR.mpr hi,rfl⟩);have h:=of_decide_eq_false h;exact ajc h
theorem EW.near(E:EW N f) (ha:bY (aH N f) (bz (aH N f))=ζ a) {i j:Nat}(hi:i<N) (hj:j<N) (hn:j≠i) (hf:f i j=Δ):ek (aH N f) (i,j)=a:=by
 have go:∀i j,i<N->j<N->i<j->f i j=Δ->ek (aH N f) (i,j)=a:=λi j hi hj hl hf=>HH E.nr ha (i,j) (tR.mpr ⟨by rw[gj];exact hi,by rw[je hi];exact gi.mpr ⟨hj,by simp only;omega,hf⟩,hl⟩)
 rcases aiJ hn with h|h
 ·rw[NH];exact go j i hj hi h (by rw[E.sy j i hj hi];exact hf)
 ·exact go i j hi hj h hf
theorem EW.cT(E:EW N f) (hb:bY (aH N f) (bz (cZ (aH N f)))=ζ b) {i j:Nat}(hi:i<N) (hj:j<N) (hn:j≠i) (hf:f i j=Θ):ek (aH N f) (i,j)=b:=by
 have go:∀i j,i<N->j<N->i<j->f i j=Θ->ek (aH N f) (i,j)=b:=λi j hi hj hl hf=>HH E.fr hb (i,j) (tR.mpr (by
  unfold cZ;rw[gj,gj,je hi];refine⟨hi,gi.mpr ⟨hj,by simp only;omega,?_⟩,hl⟩
  unfold pY;rw[je hi];have:¬j∈cF N f i:=λq=>by
   have:=(gi.mp q).2.2;rw[hf]at this;cases this
  simp[this]))
 rcases aiJ hn with h|h
 ·rw[NH];exact go j i hj hi h (by rw[E.sy j i hj hi];exact hf)
 ·exact go i j hi hj h hf
theorem Jc(N:Nat) (f:Nat->Nat->Bool) (i:Nat):(cF N f i).Nodup:=aia aib ah9
theorem Ao{i j:Nat}(hi:i<N) (hj:j<N):((cF N f i).filter λx=>decide (x∈cF N f j)).length=ek (aH N f) (i,j):=by
 unfold ek;rw[je hi,je hj];refine As (aia aib (Jc N f i)) λx=>?_
 rw[agm,decide_eq_true_eq]
theorem kind_sum(p q:Nat->Bool) (x y z:Int):∀l:List Nat,(∀v∈l,p v=Δ->q v=Θ)->(l.map λv=>if p v then x else if q v then y else z).sum=(l.filter p).length*x+(l.filter q).length*y+((l.length:Int)-(l.filter p).length-(l.filter q).length)*z
 |[],_=>by simp
 |v::l,h=>by
  have ih:=kind_sum p q x y z l λu hu=>h u (.tail _ hu)
  rw[af9,ajH,ih];cases hp:p v with
  |true =>
   have hq:=h v (.head _) hp;simp only[ahu,hp,hq,if_true,af0];simp;rw[aiE,aiF];have e:((l.length:Int)+1-((l.filter p).length+1)-(l.filter q).length)=(l.length:Int)-(l.filter p).length-(l.filter q).length:=by omega
   rw[e];omega
  |false =>
   cases hq:q v with
   |true =>
    simp only[ahu,hp,hq,af0];simp;rw[aiE,aiF];have e:((l.length:Int)+1-(l.filter p).length-((l.filter q).length+1))=(l.length:Int)-(l.filter p).length-(l.filter q).length:=by omega
    rw[e];omega
   |false =>
    simp only[ahu,hp,hq,af0];simp;have e:((l.length:Int)+1-(l.filter p).length-(l.filter q).length)=((l.length:Int)-(l.filter p).length-(l.filter q).length)+1:=by omega
    rw[e,aiE,aiF];omega
def cntK(N:Nat) (f:Nat->Nat->Bool) (o:Nat) (w:Int×Int×Int) (v:Nat):Int:=if decide (v=o)then w.1 else if decide (v∈cF N f o)then w.2.1 else w.2.2
def stepK(k a b:Int) (w:Int×Int×Int):Int×Int×Int:=(k*w.2.1,w.1+a*w.2.1+(k-1-a)*w.2.2,b*w.2.1+(k-b)*w.2.2)
theorem JW{o:Nat}:∀{l:List Nat},l.Nodup->(l.filter λv=>decide (v=o)).length=if o∈l then 1 else 0
 |[],_=>rfl
 |v::l,h=>by
  obtain⟨h1,h2⟩:=agX.mp h;have ih:=JW (o:=o) h2;rw[ahu]
  by_cases e:v=o
  ·subst e;rw[if_pos (by simp),af0,ih,if_neg h1,if_pos (by simp)]
  ·rw[if_neg (by simpa using e),ih]
   have e':¬o=v:=λq=>e q.symm
   by_cases m:o∈l
   ·rw[if_pos m,if_pos (agk _ m)]
   ·rw[if_neg m,if_neg (λq=>(afT.mp q).elim e' m)]
theorem EW.step(E:EW N f) (ha:bY (aH N f) (bz (aH N f))=ζ a) (hb:bY (aH N f) (bz (cZ (aH N f)))=ζ b) {o i:Nat}(ho:o<N) (hi:i<N) (w:Int×Int×Int) :
  ((cF N f i).map (cntK N f o w)).sum=cntK N f o (stepK (kN N f) a b w) i:=by
 have h:=kind_sum (λv=>decide (v=o)) (λv=>decide (v∈cF N f o)) w.1 w.2.1 w.2.2 (cF N f i) (λv _ hv=>by
  have:v=o:=of_decide_eq_true hv;subst this;exact decide_eq_false λq=>(gi.mp q).2.1 rfl)
 rw[JW (Jc N f i),Ao hi ho,E.oN hi]at h;have e:(cF N f i).map (cntK N f o w)=(cF N f i).map λv=>if decide (v=o)=Δ then w.1 else if decide (v∈cF N f o)=Δ then w.2.1 else w.2.2:=rfl
 rw[e,h];unfold cntK stepK
 by_cases q:i=o
 ·subst q;have h1:¬i∈cF N f i:=λq=>(gi.mp q).2.1 rfl
  have:ek (aH N f) (i,i)=kN N f:=by
   rw[<-Ao hi hi,ajz.mpr λx hx=>decide_eq_true hx,E.oN hi]
  rw[this];simp[h1]
 ·have q':¬o=i:=λe=>q e.symm
  by_cases r:f o i=Δ
  ·have r2:f i o=Δ:=by rw[E.sy i o hi ho];exact r
   have h1:o∈cF N f i:=gi.mpr ⟨ho,q',r2⟩;have h2:i∈cF N f o:=gi.mpr ⟨hi,q,r⟩;rw[E.near ha hi ho q' r2];simp[q,h1,h2]
  ·have r:f o i=Θ:=by simpa using r
   have r2:f i o=Θ:=by rw[E.sy i o hi ho];exact r
   have h1:¬o∈cF N f i:=λe=>by have:=(gi.mp e).2.2;rw[r2]at this;cases this
   have h2:¬i∈cF N f o:=λe=>by have:=(gi.mp e).2.2;rw[r]at this;cases this
   rw[E.cT hb hi ho q' r2];simp[q,h1,h2]
end
def vn(L:List Int):D->D
 |.tup l=>match jI l with
  |some is=>.int (is.map λi=>L.getD i.toNat 0).sum
  |none=>.aL
 |_=>.aL
def tL:af:=(av aF (ao 1) (ao 0))
theorem XQ{L:List Int}{r:List Nat}(hr:∀x∈r,x<L.length) (c:aa):bO (λ_=>True) (aA 0) aM tL (nD r) [η,ζ (.lst (L.map D.int))] [] c=.ok ((r.map λx=>L.getD x 0).map D.int) c:=by
 have:=jP (c:=c) (g:=aA 0) (t:=aM) (a:=tL) (λe=>∃v,e=[v,ζ (.lst (L.map D.int))]) (λ_=>Δ) (λd=>match d with|.int i=>.int (L.getD i.toNat 0)|d=>d) (nD r) [η,ζ (.lst (L.map D.int))] [] ⟨_,rfl⟩ (λd hd e ⟨v,he⟩=>by
  subst he;obtain⟨x,hx,rfl⟩:=afW.mp hd;have hlt:=hr x hx;refine⟨_,rfl,⟨_,rfl⟩,rfl,λ_=>?_⟩
  have ha:cX (L.map D.int) (x:Int)=ζ (.int (L.getD x 0)):=gK (by simp[afV hlt,aga])
  show tL [ζ (.int x),ζ (.lst (L.map D.int))] c=_;simp only[tL,dX,bK,gz,gs,R.aB,lE,ha,aho])
 rw[this,agf]
 congr 1
 have ft:∀l:List D,l.filter (λ_=>Δ)=l:=λl=>by simp
 rw[ft,af7,af7];refine agp λx _=>?_
 simp
def wV:af:=(aO kB (aq (aY (eG (ao 0)) [η,ζ 1] (aA 0) aM tL) au))
theorem Ru{L:List Int}{r:List Nat}(hr:∀x∈r,x<L.length) (hl:r.length<1000) (c:aa):wV [ζ (.tup (nD r)),ζ (.lst (L.map D.int))] c=.ok (.int (r.map λx=>L.getD x 0).sum) c:=by
 have hs:=dJ (n:=1000) (by decide)
 have hc:=XQ hr c;have h1:aY (eG (ao 0)) [η,ζ 1] (aA 0) aM tL [ζ (.tup (nD r)),ζ (.lst (L.map D.int))] c=.ok (.lst ((r.map λx=>L.getD x 0).map D.int)) c:=by
  rw[eX];unfold eG;simp only[bK,gz,R.aB];rw[if_pos (by rw[afY];omega)]
  have:dz [η,ζ 1] [ζ (D.tup (nD r)),ζ (.lst (L.map D.int))]=[η,ζ (.lst (L.map D.int))]:=rfl;rw[this,hc];rfl
 unfold wV;simp only[gh,bH,bQ,R.aB,h1];unfold kB;dsimp only;rw[qz]
theorem Rx{rows:List (List Nat)}{L:List Int}(hr:∀r∈rows,(∀x∈r,x<rows.length)/\r.length<=rows.length) (hm:rows.length<1000) (hL:L.length=rows.length) (c:aa) :
  qt [aJ rows,.lst (L.map D.int)] c=.ok (.lst ((rows.map λr=>(r.map λx=>L.getD x 0).sum).map D.int)) c:=by
 have hs:=dJ (n:=1000) (by decide)
 have hc:=jP (c:=c) (g:=aA 0) (t:=aM) (a:=wV) (λe=>∃v,e=[v,ζ (.lst (L.map D.int))]) (λ_=>Δ) (vn L) (rows.map λr=>.tup (nD r)) [η,ζ (.lst (L.map D.int))] [] ⟨_,rfl⟩ (λd hd e ⟨v,he⟩=>by
  subst he;obtain⟨r,hx,rfl⟩:=afW.mp hd;have h1:=hr r hx;refine⟨_,rfl,⟨_,rfl⟩,rfl,λ_=>?_⟩
  show wV [ζ (.tup (nD r)),ζ (.lst (L.map D.int))] c=_;rw[Ru (λx hx=>by rw[hL];exact h1.1 x hx) (by omega)]
  have e:jI (nD r)=ζ (r.map λn:Nat=>(n:Int)):=by
   have e:nD r=(r.map λn:Nat=>(n:Int)).map D.int:=by simp[nD]
   rw[e,qz]
  unfold vn;dsimp only;rw[e];dsimp only;rw[af7]
  congr 3)
 have ft:∀l:List D,l.filter (λ_=>Δ)=l:=λl=>by simp
 rw[ft,agf]at hc;have e1:(rows.map λr=>D.tup (nD r)).map (vn L)=(rows.map λr=>(r.map λx=>L.getD x 0).sum).map D.int:=by
  rw[af7,af7];refine agp λr _=>?_
  have e:jI (nD r)=ζ (r.map λn:Nat=>(n:Int)):=by
   have e:nD r=(r.map λn:Nat=>(n:Int)).map D.int:=by simp[nD]
   rw[e,qz]
  show vn L (.tup (nD r))=_;unfold vn;dsimp only;rw[e];dsimp only;rw[af7];show D.int _=D.int _
  congr 2
 rw[e1]at hc;have hb:A8=aS (aY (eG (ao 0)) [η,ζ 1] (aA 0) aM wV):=rfl;have nr:noRef (.lst ((rows.map λr=>(r.map λx=>L.getD x 0).sum).map D.int))=Δ:=qa
 rw[qt,fC,hb];have es:dI 2 [aJ rows,.lst (L.map D.int)]=[ζ (aJ rows),ζ (.lst (L.map D.int))]:=rfl;rw[es,iH,eX];unfold eG;simp only[bK,gz,R.aB];unfold aJ;dsimp only[R.aB];rw[if_pos (by rw[afY];omega)]
 have:dz [η,ζ 1] [ζ (D.tup (rows.map λr=>.tup (nD r))),ζ (.lst (L.map D.int))]=[η,ζ (.lst (L.map D.int))]:=rfl
 rw[this,hc];simp only[R.aB];unfold c9;dsimp only;rw[if_pos nr,agV]
theorem Wt{p m:Nat}(c:aa):bO (λ_=>True) (aA 0) aM (rJ (aV (av cj (ao 0) (ao 1))) (dC (.int 1)) (dC (.int 0))) (aT 0 (m:Int)) [η,ζ (.int p)] [] c=.ok (((θ m).map λi=>if i=p then(1:Int)else 0).map D.int) c:=by
 have:=jP (c:=c) (g:=aA 0) (t:=aM) (a:=rJ (aV (av cj (ao 0) (ao 1))) (dC (.int 1)) (dC (.int 0))) (λe=>∃v,e=[v,ζ (.int p)]) (λ_=>Δ) (λd=>match d with|.int i=>if i=p then .int 1 else .int 0|d=>d) (aT 0 (m:Int)) [η,ζ (.int p)] [] ⟨_,rfl⟩ (λd hd e ⟨v,he⟩=>by
  subst he;obtain⟨i,rfl,i0,i1⟩:=qd hd;refine⟨_,rfl,⟨_,rfl⟩,rfl,λ_=>?_⟩
  by_cases e:i=p<;>simp[e])
 rw[this,agf]
 congr 1
 have ft:∀l:List D,l.filter (λ_=>Δ)=l:=λl=>by simp
 unfold aT;rw[ft,af7,af7,show((m:Int)-0).toNat=m by omega]
 refine agp λi _=>?_
 by_cases e:i=p
 ·subst e;simp
 ·have e':¬((i:Int)=p):=by omega
  simp[e,e']
def yg:ah:=(aG 4 (aC 2 qt (aq (ao 0) (aq (ao 4) au))))
theorem O7{W:D}{p r many q v':Int}{c:aa}{l0 l1:List D}{v:Option D}(hlen:bA [W] c=.ok (.int q) c) (h1:qo [.int p,.int q] c=.ok (.bl Δ) c) (h2:qo [.int r,.int q] c=.ok (.bl Δ) c) (bq:-4611686018427387904<=q/\q<4611686018427387904) (bm:-4611686018427387904<=many/\many<4611686018427387904) (hl:(aT 0 q).length<Ω)
  (hc:bO (λ_=>True) (aA 0) aM (rJ (aV (av cj (ao 0) (ao 1))) (dC (.int 1)) (dC (.int 0))) (aT 0 q) [η,ζ (.int p)] [] c=.ok l0 c)
  (hf:c7 (λ_=>True) (aA 5) yg (aT 0 many) [ζ W,ζ (.int p),ζ (.int r),ζ (.int many),ζ (.lst l0),η] c=.ok (.nx [ζ W,ζ (.int p),ζ (.int r),ζ (.int many),ζ (.lst l1),v]) c) (ha:cX l1 r=ζ (.int v')) :
  lX [W,.int p,.int r,.int many] c=.ok (.int v') c:=by
 unfold yg at hf;simp[lX,Aw,hlen,h1,h2,dz];rw[if_pos bq];simp only[R.aB];rw[if_pos hl,hc];simp;rw[if_pos bm];simp only[R.aB];rw[hf];simp[ha]
theorem Jz{p q:Nat}(h:p<q) (c:aa):qo [.int (p:Int),.int (q:Int)] c=.ok (.bl Δ) c:=by
 have h1:decide ((0:Int)<=(p:Int))=Δ:=decide_eq_true (by omega)
 have h2:decide ((p:Int)<=(q:Int)-1)=Δ:=decide_eq_true (by omega)
 have:=within_int (p:Int) 0 ((q:Int)-1) c;rw[h1,h2]at this;simp[qo,A4,this]
section
variable {N:Nat}{f:Nat->Nat->Bool}{a b:Nat}
def dB(k a b:Int):Nat->Int×Int×Int
 |0=>(1,0,0)
 |t+1=>stepK k a b (dB k a b t)
def gH(N:Nat) (f:Nat->Nat->Bool) (o:Nat) (w:Int×Int×Int):List Int:=(θ N).map (cntK N f o w)
theorem acf{o x:Nat}(w:Int×Int×Int) (hx:x<N):(gH N f o w).getD x 0=cntK N f o w x:=by
 unfold gH;rw[aga,af6,agG hx];rfl
theorem EW.Ry(E:EW N f) (ha:bY (aH N f) (bz (aH N f))=ζ a) (hb:bY (aH N f) (bz (cZ (aH N f)))=ζ b) {o:Nat}(ho:o<N) (w:Int×Int×Int) (c:aa):qt [aJ (aH N f),.lst ((gH N f o w).map D.int)] c=.ok (.lst ((gH N f o (stepK (kN N f) a b w)).map D.int)) c:=by
 have hi:=E.hi;have h:=Rx (rows:=aH N f) (L:=gH N f o w) (λr hr=>by rw[gj];exact⟨(yh N f r hr).2,(yh N f r hr).1⟩) (by rw[gj];omega) (by rw[gj];simp[gH]) c
 rw[h];have:(aH N f).map (λr=>(r.map λx=>(gH N f o w).getD x 0).sum)=gH N f o (stepK (kN N f) a b w):=by
  unfold aH gH;rw[af7];refine agp λi hi=>?_
  have hi:=afR.mp hi;rw[<-E.step ha hb ho hi w];show((cF N f i).map λx=>(gH N f o w).getD x 0).sum=_
  congr 1
  exact agp λx hx=>acf w (gi.mp hx).1
 rw[this]
theorem EW.loop(E:EW N f) (ha:bY (aH N f) (bz (aH N f))=ζ a) (hb:bY (aH N f) (bz (cZ (aH N f)))=ζ b) {o:Nat}(ho:o<N) (a1 a2 a3:Option D) (c:aa):∀(items:List D) (t:Nat) (v5:Option D),∃v,c7 (λ_=>True) (aA 5) yg items [ζ (aJ (aH N f)),a1,a2,a3,ζ (.lst ((gH N f o (dB (kN N f) a b t)).map D.int)),v5] c=.ok (.nx [ζ (aJ (aH N f)),a1,a2,a3,ζ (.lst ((gH N f o (dB (kN N f) a b (t+items.length))).map D.int)),v]) c
 |[],t,v5=>⟨v5,by rw[EU];rfl⟩
 |x::xs,t,v5=>by
  obtain⟨v,h⟩:=EW.loop E ha hb ho a1 a2 a3 c xs (t+1) (ζ x);refine⟨v,?_⟩;have hs:=E.Ry ha hb ho (dB (kN N f) a b t) c;have e:t+(x::xs).length=t+1+xs.length:=by rw[af0];omega
  rw[e,<-h,i6];have g:aA 5 x [ζ (aJ (aH N f)),a1,a2,a3,ζ (.lst ((gH N f o (dB (kN N f) a b t)).map D.int)),v5] c=.ok [ζ (aJ (aH N f)),a1,a2,a3,ζ (.lst ((gH N f o (dB (kN N f) a b t)).map D.int)),ζ x] c:=rfl;have w:yg [ζ (aJ (aH N f)),a1,a2,a3,ζ (.lst ((gH N f o (dB (kN N f) a b t)).map D.int)),ζ x] c=.ok (.nx [ζ (aJ (aH N f)),a1,a2,a3,ζ (.lst ((gH N f o (dB (kN N f) a b (t+1))).map D.int)),ζ x]) c:=iL (i:=4) (lg (m:=qt) (d1:=ao 0) (d2:=ao 4) rfl rfl hs);rw[g,R.aB,w];simp only[R.aB]
theorem EW.ways(E:EW N f) (ha:bY (aH N f) (bz (aH N f))=ζ a) (hb:bY (aH N f) (bz (cZ (aH N f)))=ζ b) {o r:Nat}(ho:o<N) (hr:r<N) {t:Nat}(ht:t<1000) (c:aa) :
  lX [aJ (aH N f),.int (o:Int),.int (r:Int),.int (t:Int)] c=.ok (.int (cntK N f o (dB (kN N f) a b t) r)) c:=by
 have hs:=dJ (n:=1000) (by decide)
 have hi:=E.hi;obtain⟨v,hf⟩:=E.loop ha hb ho (ζ (.int (o:Int))) (ζ (.int (r:Int))) (ζ (.int (t:Int))) c (aT 0 (t:Int)) 0 η;have hl:(aT 0 (t:Int)).length=t:=by rw[d9];omega
 rw[hl,age]at hf;have e0:((θ N).map λi=>if i=o then(1:Int)else 0)=gH N f o (dB (kN N f) a b 0):=by
  unfold gH;refine agp λi hi=>?_
  unfold cntK dB
  by_cases e:i=o<;>simp[e]
 have hc:=Wt (p:=o) (m:=N) c;rw[e0]at hc;have hlen:=zK (aH N f) c;rw[gj]at hlen;refine O7 hlen (Jz ho c) (Jz hr c) (by omega) (by omega) (by rw[d9];omega) hc hf ?_
 refine gK ?_;rw[af6];unfold gH;rw[af6,agG hr];rfl
end
structure Tb (n k a b:Int):Prop where
 n0:3<=n
 n1:n<=100
 k0:1<=k
 k1:k<=n-2
 a0:0<=a
 a1:a<=k-1
 b0:0<=b
 b1:b<=k
abbrev T4(n k a b:Int):D:=.tup [.int n,.int k,.int a,.int b]
theorem Zl{n k a b:Int}(h:Tb n k a b) (c:aa):zE [T4 n k a b] c=.ok (.bl Δ) c:=by
 obtain⟨h1,h2,h3,h4,h5,h6,h7,h8⟩:=h;simp[zE,A3,within_int, *]
theorem Tn{n k a b:Int}(h:Tb n k a b) (c:aa):qi [T4 n k a b] c=.ok .aL c:=by
 simp[qi,AG,Zl h]
theorem K6{x:Int}(h:-1000<x/\x<1000) (y:Int) (c:aa):bN (.int x) (.int y) c=.ok (.int (x*y)) c:=by
 unfold bN;dsimp only;rw[if_pos (.inl (by omega))]
theorem D3{x y z u v w:Int}(hx:-1000<x/\x<1000) (hy:-1000<y/\y<1000) (hz:-1000<z/\z<1000) (c:aa):tX [.tup [.int x,.int y,.int z],.tup [.int u,.int v,.int w]] c=.ok (.int (x*u+y*v+z*w)) c:=by
 have hs:=dJ (n:=1000) (by decide)
 have hc:=wW (st:=λ_=>True) (c:=c) trivial (a:=av bN (ao 0) (ao 1)) (· * ·) [] [x,y,z] [u,v,w] η η [] (λp hp q _=>by
  have eO:-1000<p/\p<1000:=by
   simp only[afT,af5,or_false]at hp
   rcases hp with rfl|rfl|rfl<;>assumption
  exact dg (f:=bN) rfl rfl (K6 eO q c))
 have h1:aY (iF (aq (ao 0) (aq (ao 1) au))) [η,η] (cS 2 (br (aA 0) (br (aA 1) cU))) aM (av bN (ao 0) (ao 1)) [ζ (.tup [.int x,.int y,.int z]),ζ (.tup [.int u,.int v,.int w])] c=.ok (.lst [.int (x*u),.int (y*v),.int (z*w)]) c:=by
  rw[eX,show iF (aq (ao 0) (aq (ao 1) au)) [ζ (.tup [.int x,.int y,.int z]),ζ (.tup [.int u,.int v,.int w])] c=.ok ⟨[.tup [.int x,.int u],.tup [.int y,.int v],.tup [.int z,.int w]],λ_=>True⟩ c from rfl,R.aB]
  dsimp only;rw[if_pos (by show(3:Nat)<Ω;omega)]
  have:dz [η,η] [ζ (D.tup [.int x,.int y,.int z]),ζ (.tup [.int u,.int v,.int w])]=[η,η]:=rfl;rw[this];have hc:bO (λ_=>True) (cS 2 (br (aA 0) (br (aA 1) cU))) aM (av bN (ao 0) (ao 1)) [.tup [.int x,.int u],.tup [.int y,.int v],.tup [.int z,.int w]] [η,η] [] c=.ok [.int (x*u),.int (y*v),.int (z*w)] c:=hc
  rw[hc];rfl
 have h2:kB [.lst [.int (x*u),.int (y*v),.int (z*w)]] c=.ok (.int (x*u+y*v+z*w)) c:=by
  unfold kB;show R.ok (D.int ([x*u,y*v,z*w].sum)) c=_
  congr 2
  simp only[ajH,List.sum_nil];omega
 refine pV (n:=2) (b:=AL) ?_ rfl (λk h=>by cases h)
 exact pU (iR h1 h2)
def R3(k a b:Int):List D:=[.tup [.int 0,.int k,.int 0],.tup [.int 1,.int a,.int (k-1-a)],.tup [.int 0,.int b,.int (k-b)]]
def tW(w:Int×Int×Int):D:=.tup [.int w.1,.int w.2.1,.int w.2.2]
theorem RB{n k a b:Int}(c:aa):qg [T4 n k a b] c=.ok (.lst (R3 k a b)) c:=by
 have hs:=dJ (n:=1000) (by decide)
 have h3:(3:Nat)<=Ω:=by omega
 simp[qg,AA,R3,h3]
def DY:af:=(aC 2 tX (aq (ao 0) (aq (ao 1) au)))
theorem Yg{n k a b:Int}(h:Tb n k a b) (w:Int×Int×Int) (c:aa):bO (λ_=>True) (aA 0) aM DY (R3 k a b) [η,ζ (tW w)] [] c=.ok [.int (stepK k a b w).1,.int (stepK k a b w).2.1,.int (stepK k a b w).2.2] c:=by
 obtain⟨h1,h2,h3,h4,h5,h6,h7,h8⟩:=h;have m1:=D3 (x:=0) (y:=k) (z:=0) (u:=w.1) (v:=w.2.1) (w:=w.2.2) (by omega) (by omega) (by omega) c
 have m2:=D3 (x:=1) (y:=a) (z:=k-1-a) (u:=w.1) (v:=w.2.1) (w:=w.2.2) (by omega) (by omega) (by omega) c
 have m3:=D3 (x:=0) (y:=b) (z:=k-b) (u:=w.1) (v:=w.2.1) (w:=w.2.2) (by omega) (by omega) (by omega) c
 have e1:(0:Int)*w.1+k*w.2.1+0*w.2.2=(stepK k a b w).1:=by unfold stepK;simp
 have e2:(1:Int)*w.1+a*w.2.1+(k-1-a)*w.2.2=(stepK k a b w).2.1:=by unfold stepK;simp
 have e3:(0:Int)*w.1+b*w.2.1+(k-b)*w.2.2=(stepK k a b w).2.2:=by unfold stepK;simp
 rw[e1]at m1;rw[e2]at m2;rw[e3]at m3;have st:∀(d:D) (z:Int) (v:Option D),tX [d,tW w] c=.ok (.int z) c->DY [ζ d,ζ (tW w)] c=.ok (.int z) c:=λd z v h=>lg (m:=tX) (d1:=ao 0) (d2:=ao 1) rfl rfl h
 unfold R3;rw[jQ,show ∀d v,aA 0 d [v,ζ (tW w)] c=.ok [ζ d,ζ (tW w)] c from λ_ _=>rfl,R.aB,lD,R.aB,if_pos rfl,st _ _ η m1,R.aB]
 rw[jQ,show ∀d v,aA 0 d [v,ζ (tW w)] c=.ok [ζ d,ζ (tW w)] c from λ_ _=>rfl,R.aB,lD,R.aB,if_pos rfl,st _ _ η m2,R.aB]
 rw[jQ,show ∀d v,aA 0 d [v,ζ (tW w)] c=.ok [ζ d,ζ (tW w)] c from λ_ _=>rfl,R.aB,lD,R.aB,if_pos rfl,st _ _ η m3,R.aB]
 rw[ab8];rfl
def yf:ah:=(aG 3 (aO cP (aq (aY (dG (ao 2)) [η,ζ 3] (aA 0) aM DY) au)))
theorem Ph{n k a b:Int}(h:Tb n k a b) (w:Int×Int×Int) (a0 a1 v4:Option D) (c:aa):yf [a0,a1,ζ (.lst (R3 k a b)),ζ (tW w),v4] c=.ok (.nx [a0,a1,ζ (.lst (R3 k a b)),ζ (tW (stepK k a b w)),v4]) c:=by
 have hs:=dJ (n:=1000) (by decide)
 refine iL (i:=3) (iR (f:=cP) (x:=.lst [.int (stepK k a b w).1,.int (stepK k a b w).2.1,.int (stepK k a b w).2.2]) ?_ rfl);rw[eX,show dG (ao 2) [a0,a1,ζ (.lst (R3 k a b)),ζ (tW w),v4] c=.ok ⟨R3 k a b,λ_=>True⟩ c from rfl,R.aB]
 dsimp only;rw[if_pos (by show(3:Nat)<Ω;omega),show dz [η,ζ 3] [a0,a1,ζ (.lst (R3 k a b)),ζ (tW w),v4]=[η,ζ (tW w)]from rfl,Yg h w c]
 rfl
theorem HB{n k a b:Int}(h:Tb n k a b) (a0 a1:Option D) (c:aa):∀(items:List D) (t:Nat) (v4:Option D),∃v,c7 (λ_=>True) (aA 4) yf items [a0,a1,ζ (.lst (R3 k a b)),ζ (tW (dB k a b t)),v4] c=.ok (.nx [a0,a1,ζ (.lst (R3 k a b)),ζ (tW (dB k a b (t+items.length))),v]) c
 |[],t,v4=>⟨v4,by rw[EU];rfl⟩
 |x::xs,t,v4=>by
  obtain⟨v,hh⟩:=HB h a0 a1 c xs (t+1) (ζ x);refine⟨v,?_⟩;have e:t+(x::xs).length=t+1+xs.length:=by rw[af0];omega
  rw[e,<-hh,i6,show aA 4 x [a0,a1,ζ (.lst (R3 k a b)),ζ (tW (dB k a b t)),v4] c=.ok [a0,a1,ζ (.lst (R3 k a b)),ζ (tW (dB k a b t)),ζ x] c from rfl,R.aB,Ph h]
  simp only[R.aB];rfl
theorem Pp{n k a b:Int}(h:Tb n k a b) {t:Nat}(ht:t<1000) (c:aa):qe [T4 n k a b,.int (t:Int)] c=.ok (tW (dB k a b t)) c:=by
 have hl:(aT 0 (t:Int)).length=t:=by rw[d9];omega
 obtain⟨v,hf⟩:=HB h (ζ (T4 n k a b)) (ζ (.int (t:Int))) c (aT 0 (t:Int)) 0 η;rw[hl,age]at hf;have hb:xj=aE (cK (aC 1 qi (aq (ao 0) au))) (aE (aG 2 (aC 1 qg (aq (ao 0) au))) (aE (aG 3 (cC (aq (dC (.int 1)) (aq (dC (.int 0)) (aq (dC (.int 0)) au))))) (aE (bB (aZ (aq (ao 1) au)) (aA 4) yf) (aS (ao 3))))):=rfl;have e0:cK (aC 1 qi (aq (ao 0) au)) [ζ (T4 n k a b),ζ (.int (t:Int)),η,η,η] c=.ok (.nx [ζ (T4 n k a b),ζ (.int (t:Int)),η,η,η]) c:=Ag (lq (m:=qi) (d1:=ao 0) rfl (Tn h c));have e1:aG 2 (aC 1 qg (aq (ao 0) au)) [ζ (T4 n k a b),ζ (.int (t:Int)),η,η,η] c=.ok (.nx [ζ (T4 n k a b),ζ (.int (t:Int)),ζ (.lst (R3 k a b)),η,η]) c:=iL (i:=2) (lq (m:=qg) (d1:=ao 0) rfl (RB c));have e2:aG 3 (cC (aq (dC (.int 1)) (aq (dC (.int 0)) (aq (dC (.int 0)) au)))) [ζ (T4 n k a b),ζ (.int (t:Int)),ζ (.lst (R3 k a b)),η,η] c=.ok (.nx [ζ (T4 n k a b),ζ (.int (t:Int)),ζ (.lst (R3 k a b)),ζ (tW (dB k a b 0)),η]) c:=by
  have hs:=dJ (n:=1000) (by decide)
  refine iL (i:=3) ?_;rw[x9,show aq (dC (.int 1)) (aq (dC (.int 0)) (aq (dC (.int 0)) au)) [ζ (T4 n k a b),ζ (.int (t:Int)),ζ (.lst (R3 k a b)),η,η] c=.ok [.int 1,.int 0,.int 0] c from rfl,R.aB,if_pos (by show(3:Nat)<=Ω;omega)]
  rfl
 have e3:=um (g:=aA 4) (s:=yf) (vp (d:=ao 1) (e:=[ζ (T4 n k a b),ζ (.int (t:Int)),ζ (.lst (R3 k a b)),ζ (tW (dB k a b 0)),η]) (q:=(t:Int)) rfl (by omega)) hf
 refine pV (n:=5) (b:=xj) ?_ rfl (λk h=>by cases h)
 rw[show dI 5 [T4 n k a b,.int (t:Int)]=[ζ (T4 n k a b),ζ (.int (t:Int)),η,η,η]from rfl,hb,bI e0,bI e1,bI e2,bI e3]
 rfl
theorem two_mem{i j:Nat}(h:i≠j):∀{l:List Nat},i∈l->j∈l->2<=l.length
 |[],hi,_=>by cases hi
 |[x],hi,hj=>by
  have:=agu.mp hi;have:=agu.mp hj;omega
 |_::_::_,_,_=>by simp
theorem EW.tb{N:Nat}{f:Nat->Nat->Bool}{a b:Nat}(E:EW N f) (ha:bY (aH N f) (bz (aH N f))=ζ a) (hb:bY (aH N f) (bz (cZ (aH N f)))=ζ b):Tb N (kN N f) a b:=by
 have hi9:=E.hi;have ne:∀{w:List (List Nat)}{ps:List (Nat×Nat)}{s:Nat},bY w ps=ζ s->∃p,p∈ps:=fun{w ps s} h=>by
  cases ps with
  |nil=>cases h
  |cons p ps=>exact⟨p,.head _⟩
 obtain⟨⟨i,j⟩,hp⟩:=ne ha;obtain⟨p1,p2,p3⟩:=tR.mp hp;simp only[gj]at p1;simp only[je p1]at p2;have p3:i<j:=p3;obtain⟨q1,q2,q3⟩:=gi.mp p2;obtain⟨⟨i',j'⟩,hr⟩:=ne hb;obtain⟨r1,r2,r3⟩:=tR.mp hr;unfold cZ at r1 r2;simp only[gj]at r1 r2;simp only[je r1]at r2;have r3:i'<j':=r3;obtain⟨s1,s2,s3⟩:=gi.mp r2;unfold pY at s3;rw[je r1]at s3;have s3:¬j'∈cF N f i':=by simpa using s3
 have k1:1<=kN N f:=by rw[<-E.oN p1];exact aiu p2
 have ak:a+1<=kN N f:=by
  rw[<-E.near ha p1 q1 q2 q3,<-Ao p1 q1,<-E.oN p1];have e:=akO (l:=cF N f i) (λx=>decide (x∈cF N f j))
  rw[aiL,aiL]at e;have:0<((cF N f i).filter λx=>decide (¬(decide (x∈cF N f j))=Δ)).length:=aiu (a:=j) (agm.mpr ⟨p2,by
   have:¬j∈cF N f j:=λq=>(gi.mp q).2.1 rfl
   simp[this]⟩)
  omega
 have bk:b<=kN N f:=by
  have q0:f i' j'=Θ:=by
   cases q:f i' j' with
   |true=>exact absurd (gi.mpr ⟨s1,s2,q⟩) s3
   |false=>rfl
  rw[<-E.cT hb r1 s1 s2 q0,<-Ao r1 s1,<-E.oN r1];exact ahk _ _
 have kn:kN N f+2<=N:=by
  rw[<-E.oN r1];have e:=akO (l:=θ N) (λx=>decide (x∈cF N f i'))
  rw[aiL,aiL,ag0]at e;have w:(θ N).filter (λx=>decide (x∈cF N f i'))=cF N f i':=by
   unfold cF;refine List.filter_congr λx hx=>?_
   simp only[agm,hx,true_and];simp
  rw[w]at e;have:2<=((θ N).filter λx=>decide (¬(decide (x∈cF N f i'))=Δ)).length:=two_mem (i:=i') (j:=j') (by omega) (agm.mpr ⟨afR.mpr r1,by
   have:¬i'∈cF N f i':=λq=>(gi.mp q).2.1 rfl
   simp[this]⟩) (agm.mpr ⟨afR.mpr s1,by simp[s3]⟩)
  omega
 exact⟨by omega,by omega,by omega,by omega,by omega,by omega,by omega,by omega⟩
theorem xg{m:List D->aa->R D}{d1:af}{e:Ev}{c c1 c2:aa}{x v:D}(h1:d1 e c=.ok x c1) (h:m [x] c1=.ok v c2):aC 1 m (aq d1 au) e c=.ok v c2:=by
 simp only[x_call,bH,h1,bQ,R.aB];rw[if_pos (by rfl)];exact h
theorem NY{m:List D->aa->R D}{d1 d2:af}{e:Ev}{c c1 c2 c3:aa}{x y v:D}(h1:d1 e c=.ok x c1) (h2:d2 e c1=.ok y c2) (h:m [x,y] c2=.ok v c3):aC 2 m (aq d1 (aq d2 au)) e c=.ok v c3:=by
 simp only[x_call,bH,h1,h2,bQ,R.aB];rw[if_pos (by rfl)];exact h
theorem mP{d:af}{e:Ev}{c c':aa}{b:Bool}(h:d e c=.ok (.bl b) c'):aV d e c=.ok b c':=by rw[BK,h];rfl
theorem nO{t:ai}{s:ah}{e:Ev}{c c':aa}(h:t e c=.ok Θ c'):b7 t s ck e c=.ok (.nx e) c':=by
 rw[jz,h];rfl
theorem pS{i:Nat}{d:af}{e:Ev}{c c':aa}{v:D}(h:d e c=.ok v c'):aG i d e c=.ok (.nx (e.set i (ζ v))) c':=by rw[gg,h];rfl
theorem k9{d:af}{r:aj}{e:Ev}{c:aa}{x:D}{xs:List D}(h1:d e c=.ok x c) (h2:r e c=.ok xs c):aq d r e c=.ok (x::xs) c:=by rw[bH,h1,R.aB,h2,R.aB]
theorem DL{e:Ev}{c:aa}:au e c=.ok [] c:=rfl
theorem Ld{r:aj}{e:Ev}{c:aa}{xs:List D}(h:r e c=.ok xs c) (hl:xs.length<=100):bG r e c=.ok (.lst xs) c:=by
 have sz:=lJ;rw[yc,h,R.aB,if_pos (by omega)]
theorem sA{a:af}{e:Ev}{j:Nat}{q y:Int}{c c':aa}{i:Nat}(hp:ao i e c=.ok (.ref j) c) (ha:a e c=.ok (.int q) c) (ht:bJ [.ref j,.int q] c=.ok (.int y) c'):aC 2 bJ (aq (ao i) (aq a au)) e c=.ok (.int y) c':=by
 unfold aC;rw[k9 hp (k9 ha DL),R.aB];exact ht
theorem JE{l:af}{a:af}{e:Ev}{xs:List D}{y:Int}{c c':aa}(hl:l e c=.ok (.lst xs) c) (ha:a e c=.ok (.int y) c') (y0:0<=y) (y1:y<xs.length):∃d∈xs,av aF l a e c=.ok d c':=by
 have hi:y.toNat<xs.length:=by omega
 refine⟨xs[y.toNat],agi _,?_⟩;rw[dX,hl,R.aB,ha,R.aB];exact wm (i:=y.toNat) (by omega) (afV hi) c'
theorem Tj{n:Nat}{b:ah}{xs:List D}{c c':aa}{v:D}(h:b (dI n xs) c=.ok (.rt v) c') (hv:noRef v=Δ) (hr:∀k,v≠.ref k):bD n Θ b xs c=.ok v (c'.take c.length):=by
 rw[fC,h];simp only[R.aB];cases v<;>first|exact absurd rfl (hr _)|(unfold c9;dsimp only;rw[if_pos hv])
theorem EW.ev{N:Nat}{f:Nat->Nat->Bool}(E:EW N f):wM (aH N f)=.tup [.str "even",.tup [.int ((N:Nat):Int),.int ((kN N f:Nat):Int),cg (bY (aH N f) (bz (aH N f))),cg (bY (aH N f) (bz (cZ (aH N f))))]]:=by
 unfold wM;rw[E.pl];dsimp only;rw[E.nr];dsimp only;rw[E.fr];dsimp only;rw[gj];rfl
theorem Net.ew{n:Nat}{ss:List (Nat->Nat->Nat)}(H:Net n ss):EW (n*n) (cL n ss):=by
 have h2:=H.two;have h7:=H.pR;have h0:0<n*n:=Nat.mul_pos (by omega) (by omega)
 refine⟨h0,ahv h7 h7,λi j _ _=>KS n ss i j,UY (k:=(ss.length+2)*(n-1)) (λr hr=>?_) (by rw[gj];exact h0),HG λp hp=>H.near hp,HG λp hp=>H.cT hp⟩
 obtain⟨i,hi,rfl⟩:=afW.mp hr;exact H.oN (afR.mp hi)
def Ad(N:Nat) (f:Nat->Nat->Bool):Bool:=decide (1<=N)&&decide (N<=49)&&((θ N).all λi=>(θ N).all λj=>f i j==f j i)&&decide (jh (aH N f)=η/\fD (aH N f) (bz (aH N f))=η/\fD (aH N f) (bz (cZ (aH N f)))=η)
theorem M7{N:Nat}{f:Nat->Nat->Bool}(h:Ad N f=Δ):EW N f:=by
 unfold Ad at h;simp only[af1,decide_eq_true_eq,afX,beq_iff_eq]at h;obtain⟨⟨⟨h1,h2⟩,h3⟩,h4,h5,h6⟩:=h;exact⟨h1,h2,λi j hi hj=>h3 i (afR.mpr hi) j (afR.mpr hj),h4,h5,h6⟩
def J8(m:Nat):Bool:=decide (WW m=lF (PP m).length (QQ (PP m)))&&decide ((PP m).length<64)&&decide ((QQ (PP m)).length<1000)&&Ad (PP m).length (gD (PP m))
theorem Xg:∀m,m<4->J8 (4+m)=Δ:=by decide +kernel
theorem VQ{m:Nat}(h4:4<=m) (h7:m<=7):EW (PP m).length (gD (PP m))/\∀c,l7 [.int (m:Int)] c=.ok (aJ (aH (PP m).length (gD (PP m)))) c:=by
 have h:=Xg (m-4) (by omega)
 rw[show 4+(m-4)=m by omega]at h
 unfold J8 at h;simp only[af1,decide_eq_true_eq]at h;obtain⟨⟨⟨h1,h2⟩,h3⟩,h5⟩:=h;refine⟨M7 h5,λc=>?_⟩
 have:=YM (m:=m) (by omega) h2 h3 c
 rw[<-h1]at this;exact this
def BV(f:Fd) (i j:Nat):Nat:=(sE f.p f.n i j).toNat
def r8(f:Fd) (i j:Nat):Bool:=decide (BV f i j∈cQ (iT f))
def DE(f:Fd):Bool:=((θ f.q).all λi=>(θ f.q).all λj=>decide (0<=sE f.p f.n i j))&&Ad f.q (r8 f)
theorem Xh:(b8.all λf=>!decide (f.q % 4=1)||DE f)=Δ:=by decide +kernel
theorem Zs(l:List Nat) (k:Nat) (c:aa):inD (.int (k:Int)) (.lst (nD l)) c=.ok (.bl (decide (k∈l))) c:=by
 have h1:gb c (.int (k:Int))=ζ (.int (k:Int)):=rfl;have h2:gb c (.lst (nD l))=ζ (.list (l.map λn:Nat=>PyData.int (n:Int))):=by
  show(match f7 (nD l)with|some r=>ζ (PyData.list r)|none=>η)=_
  rw[Ai]
 unfold inD;rw[h1,h2];dsimp only;rw[if_pos (by simp[PyData.depth]),FH]
theorem aaT{m' X v:D}{c:aa}(hw:jH [m',.lam 1 pD ["squares","q"] [X,m']] c=.ok v c) (hv:noRef v=Δ):rK 1 jH (ao 0) pD ["squares","q"] [1,0] [ζ m',ζ X] c=.ok v c :=
 NX (kk:=1) (m:=jH) (d1:=ao 0) (E:=pD) (ns:=["squares","q"]) (js:=[1,0]) (l:=[X,m']) (x:=m') rfl rfl hw hv
theorem abj{f:Fd}(h:f∈b8) (h4:f.q % 4=1):EW f.q (r8 f)/\∀c,kO [.int (f.q:Int)] c=.ok (aJ (aH f.q (r8 f))) c:=by
 have hk:=afX.mp Xh f h;rw[decide_eq_true h4]at hk;have hk:DE f=Δ:=hk;unfold DE at hk;rw[af1]at hk;refine⟨M7 hk.2,λc=>?_⟩
 have hq:=sU h;have ZM:=RD h c;have hnl:fL [D.lst (nD (cQ (iT f))),.int (f.q:Int)]=Δ:=by
  show(fJ (D.lst (nD (cQ (iT f))))&&(fJ (D.int (f.q:Int))&&Δ))=Δ;rw[zq (D.lst (nD (cQ (iT f)))) (by unfold noRef;exact tN _),zq (D.int (f.q:Int)) rfl]
  rfl
 have hw:=Hw (k:=1) (n:=f.q) (E:=pD) (ns:=["squares","q"]) (l:=[.lst (nD (cQ (iT f))),.int (f.q:Int)]) (m:=qy nK) (c:=c) (f:=r8 f) rfl hnl (by omega) λi j hi hj hne=>by
  show nK [ζ (.int i),ζ (.int j),ζ (.lst (nD (cQ (iT f)))),ζ (.int (f.q:Int))] c=_;unfold nK;have ht:=Qy h (x:=(i:Int)) (y:=(j:Int)) (by omega) (by omega) (by omega) (by omega) c
  have hs:sE f.p f.n i j=((BV f i j:Nat):Int):=by
   have:=of_decide_eq_true (afX.mp (afX.mp hk.1 i (afR.mpr hi)) j (afR.mpr hj));unfold BV;omega
  rw[hs]at ht;exact dg (f:=inD) (Ft (m:=vW) (d1:=ao 3) (d2:=ao 0) (d3:=ao 1) rfl rfl rfl ht) (d2:=ao 2) rfl (Zs _ _ c)
 have e0:cK (aC 1 j3 (aq (ao 0) au)) [ζ (.int (f.q:Int)),η] c=.ok (.nx [ζ (.int (f.q:Int)),η]) c:=Ag (lq (m:=j3) (d1:=ao 0) rfl (Df h c));have e1:b7 (aV (av eV (av cy (ao 0) (dC (.int 4))) (dC (.int 1)))) lM ck [ζ (.int (f.q:Int)),η] c=.ok (.nx [ζ (.int (f.q:Int)),η]) c:=by
  refine nO (mP (dg (f:=eV) (x:=.int 1) (y:=.int 1) (dg (f:=cy) (x:=.int (f.q:Int)) (y:=.int 4) rfl rfl ?_) rfl rfl));rw[jj c (by decide)]
  exact congrArg (λz=>R.ok (D.int z) c) (by omega)
 have e2:aG 1 (aC 1 tU (aq (ao 0) au)) [ζ (.int (f.q:Int)),η] c=.ok (.nx [ζ (.int (f.q:Int)),ζ (.lst (nD (cQ (iT f))))]) c:=iL (i:=1) (lq (m:=tU) (d1:=ao 0) rfl ZM);have hb:xB=aE (cK (aC 1 j3 (aq (ao 0) au))) (aE (b7 (aV (av eV (av cy (ao 0) (dC (.int 4))) (dC (.int 1)))) lM ck) (aE (aG 1 (aC 1 tU (aq (ao 0) au))) (aS (rK 1 jH (ao 0) pD ["squares","q"] [1,0])))):=rfl;refine pV (n:=2) (b:=xB) ?_ (mW _) (λk h=>by cases h)
 rw[show dI 2 [.int (f.q:Int)]=[ζ (.int (f.q:Int)),η]from rfl,hb,bI e0,bI e1,bI e2]
 exact pU (aaT hw (mW _))
theorem Zd{N:Nat}{f:Nat->Nat->Bool}{o:Nat}(ho:o<N) (c:aa):aF (aJ (aH N f)) (.int (o:Int)) c=.ok (.tup (nD (cF N f o))) c:=ua (by unfold aH;rw[af6,agG ho];rfl) c
theorem notin_tab(x y:Option Nat) (n k:Int) (c:aa):ji .aL (.tup [.int n,.int k,cg x,cg y]) c=.ok (.bl (x.isSome&&y.isSome)) c:=by
 cases x<;>cases y<;>rfl
theorem abA{N:Nat}{f:Nat->Nat->Bool}{o r:Nat}(w:Int×Int×Int) (c:aa):aF (tW w) (.int (2-(if decide (r∈cF N f o)=Δ then(1:Int)else 0)-2*(if decide ((r:Int)=(o:Int))=Δ then(1:Int)else 0))) c=.ok (.int (cntK N f o w r)) c:=by
 unfold cntK
 by_cases q:r=o
 ·subst q;have h1:¬r∈cF N f r:=λq=>(gi.mp q).2.1 rfl
  simp[h1];rfl
 ·have q':¬((r:Int)=(o:Int)):=by omega
  by_cases h:r∈cF N f o
  ·simp[q,q',h];rfl
  ·simp[q,q',h];rfl
section
variable {N:Nat}{f:Nat->Nat->Bool}{a b:Nat}{j n:Nat}{a0 a1 a3 a5 a6 a7 a8 a9 fc cM cW cD cu:Option D}
theorem Ln(N:Nat) (f:Nat->Nat->Bool) (c:aa):bA [aJ (aH N f)] c=.ok (.int (N:Int)) c:=by
 have:=zK (aH N f) c;rw[gj]at this;exact this
theorem VX(E:EW N f) {c:aa}(P:dS j n c) {o:Nat}(ho:o<N) {u:Int}:∃(r:Nat) (c':aa),r<N/\dS j n c'/\(av aF (bG (aq (ao 10) (aq (aC 2 bJ (aq (ao 2) (aq (aO bA (aq (ao 4) au)) au))) au))) (aO fq (aq (av jl (ao 12) (dC (.int 0))) au))) [a0,a1,ζ (.ref j),a3,ζ (aJ (aH N f)),a5,a6,a7,a8,a9,ζ (.int (o:Int)),cM,ζ (.int u),cD,cu] c=.ok (.int (r:Int)) c':=by
 have sz:=lJ;have hi:=E.hi;have lo:=E.lo;obtain⟨y,c1,y0,y1,P1,t1⟩:=jD (cT:=(N:Int)) P (by omega) (by omega)
 have hl:bG (aq (ao 10) (aq (aC 2 bJ (aq (ao 2) (aq (aO bA (aq (ao 4) au)) au))) au)) [a0,a1,ζ (.ref j),a3,ζ (aJ (aH N f)),a5,a6,a7,a8,a9,ζ (.int (o:Int)),cM,ζ (.int u),cD,cu] c=.ok (.lst [.int (o:Int),.int y]) c1:=by
  have ht:=sA (i:=2) (a:=aO bA (aq (ao 4) au)) (e:=[a0,a1,ζ (.ref j),a3,ζ (aJ (aH N f)),a5,a6,a7,a8,a9,ζ (.int (o:Int)),cM,ζ (.int u),cD,cu]) (c:=c) rfl (iR (d1:=ao 4) rfl (Ln N f c)) t1;rw[yc,bH,show ao 10 [a0,a1,ζ (.ref j),a3,ζ (aJ (aH N f)),a5,a6,a7,a8,a9,ζ (.int (o:Int)),cM,ζ (.int u),cD,cu] c=.ok (.int (o:Int)) c from rfl,R.aB,bH,ht,R.aB,bQ,R.aB,R.aB,R.aB,if_pos (by show(2:Nat)<=Ω;omega)]
 by_cases q:u>0
 ·refine⟨y.toNat,c1,by omega,P1,?_⟩
  have hx:aO fq (aq (av jl (ao 12) (dC (.int 0))) au) [a0,a1,ζ (.ref j),a3,ζ (aJ (aH N f)),a5,a6,a7,a8,a9,ζ (.int (o:Int)),cM,ζ (.int u),cD,cu] c1=.ok (.int 1) c1:=iR (f:=fq) (x:=.bl Δ) (dg (f:=jl) (x:=.int u) (y:=.int 0) rfl rfl (by show R.ok (D.bl (decide (u>0))) c1=_;rw[decide_eq_true q])) rfl
  rw[dX,hl,R.aB,hx,R.aB,show((y.toNat:Nat):Int)=y by omega]
  exact wm (i:=1) rfl rfl c1
 ·refine⟨o,c1,ho,P1,?_⟩;have hx:aO fq (aq (av jl (ao 12) (dC (.int 0))) au) [a0,a1,ζ (.ref j),a3,ζ (aJ (aH N f)),a5,a6,a7,a8,a9,ζ (.int (o:Int)),cM,ζ (.int u),cD,cu] c1=.ok (.int 0) c1:=iR (f:=fq) (x:=.bl Θ) (dg (f:=jl) (x:=.int u) (y:=.int 0) rfl rfl (by show R.ok (D.bl (decide (u>0))) c1=_;rw[decide_eq_false q])) rfl
  rw[dX,hl,R.aB,hx,R.aB];exact wm (i:=0) rfl rfl c1
def pI:ah:=(aE (aG 13 (av aF (bG (aq (ao 10) (aq (aC 2 bJ (aq (ao 2) (aq (aO bA (aq (ao 4) au)) au))) au))) (aO fq (aq (av jl (ao 12) (dC (.int 0))) au)))) (aE (aG 14 (av cA (av cA (dC (.int 2)) (aO fq (aq (av inD (ao 13) (av aF (ao 4) (ao 10))) au))) (av bN (dC (.int 2)) (aO fq (aq (av cj (ao 13) (ao 10)) au))))) (b7 (aV (av eV (aC 4 lX (aq (ao 4) (aq (ao 10) (aq (ao 13) (aq (ao 9) au))))) (av aF (ao 11) (ao 14)))) (aS (dC (.bl Θ))) ck)))
theorem P8(E:EW N f) (ha:bY (aH N f) (bz (aH N f))=ζ a) (hb:bY (aH N f) (bz (cZ (aH N f)))=ζ b) {c:aa}(P:dS j n c) {o t:Nat}(ho:o<N) (ht:t<1000) {u:Int}:∃(gA gy:Option D) (c':aa),dS j n c'/\pI [a0,a1,ζ (.ref j),a3,ζ (aJ (aH N f)),a5,a6,a7,a8,ζ (.int (t:Int)),ζ (.int (o:Int)),ζ (tW (dB (kN N f) a b t)),ζ (.int u),cD,cu] c=.ok (.nx [a0,a1,ζ (.ref j),a3,ζ (aJ (aH N f)),a5,a6,a7,a8,ζ (.int (t:Int)),ζ (.int (o:Int)),ζ (tW (dB (kN N f) a b t)),ζ (.int u),gA,gy]) c':=by
 obtain⟨r,c1,hr,P1,t1⟩:=VX (a0:=a0) (a1:=a1) (a3:=a3) (a5:=a5) (a6:=a6) (a7:=a7) (a8:=a8) (a9:=ζ (.int (t:Int))) (cM:=ζ (tW (dB (kN N f) a b t))) (cD:=cD) (cu:=cu) (u:=u) E P ho;have e1:(aG 13 (av aF (bG (aq (ao 10) (aq (aC 2 bJ (aq (ao 2) (aq (aO bA (aq (ao 4) au)) au))) au))) (aO fq (aq (av jl (ao 12) (dC (.int 0))) au)))) [a0,a1,ζ (.ref j),a3,ζ (aJ (aH N f)),a5,a6,a7,a8,ζ (.int (t:Int)),ζ (.int (o:Int)),ζ (tW (dB (kN N f) a b t)),ζ (.int u),cD,cu] c=.ok (.nx [a0,a1,ζ (.ref j),a3,ζ (aJ (aH N f)),a5,a6,a7,a8,ζ (.int (t:Int)),ζ (.int (o:Int)),ζ (tW (dB (kN N f) a b t)),ζ (.int u),ζ (.int (r:Int)),cu]) c1:=pS (i:=13) t1;have hin:aO fq (aq (av inD (ao 13) (av aF (ao 4) (ao 10))) au) [a0,a1,ζ (.ref j),a3,ζ (aJ (aH N f)),a5,a6,a7,a8,ζ (.int (t:Int)),ζ (.int (o:Int)),ζ (tW (dB (kN N f) a b t)),ζ (.int u),ζ (.int (r:Int)),cu] c1=.ok (.int (if decide (r∈cF N f o)=Δ then(1:Int)else 0)) c1:=iR (f:=fq) (dg (f:=inD) (d1:=ao 13) rfl (dg (f:=aF) (d1:=ao 4) (d2:=ao 10) rfl rfl (Zd ho c1)) (LY (cF N f o) r c1)) rfl
 have heq:aO fq (aq (av cj (ao 13) (ao 10)) au) [a0,a1,ζ (.ref j),a3,ζ (aJ (aH N f)),a5,a6,a7,a8,ζ (.int (t:Int)),ζ (.int (o:Int)),ζ (tW (dB (kN N f) a b t)),ζ (.int u),ζ (.int (r:Int)),cu] c1=.ok (.int (if decide ((r:Int)=(o:Int))=Δ then(1:Int)else 0)) c1:=iR (f:=fq) (x:=.bl (decide ((r:Int)=(o:Int)))) (dg (f:=cj) (x:=.int (r:Int)) (y:=.int (o:Int)) rfl rfl rfl) rfl
 have e2:(aG 14 (av cA (av cA (dC (.int 2)) (aO fq (aq (av inD (ao 13) (av aF (ao 4) (ao 10))) au))) (av bN (dC (.int 2)) (aO fq (aq (av cj (ao 13) (ao 10)) au))))) [a0,a1,ζ (.ref j),a3,ζ (aJ (aH N f)),a5,a6,a7,a8,ζ (.int (t:Int)),ζ (.int (o:Int)),ζ (tW (dB (kN N f) a b t)),ζ (.int u),ζ (.int (r:Int)),cu] c1=.ok (.nx [a0,a1,ζ (.ref j),a3,ζ (aJ (aH N f)),a5,a6,a7,a8,ζ (.int (t:Int)),ζ (.int (o:Int)),ζ (tW (dB (kN N f) a b t)),ζ (.int u),ζ (.int (r:Int)),ζ (.int (2-(if decide (r∈cF N f o)=Δ then(1:Int)else 0)-2*(if decide ((r:Int)=(o:Int))=Δ then(1:Int)else 0)))]) c1:=iL (i:=14) (dg (f:=cA) (dg (f:=cA) (d1:=dC (.int 2)) rfl hin rfl) (dg (f:=bN) (d1:=dC (.int 2)) rfl heq (K6 (by omega) _ c1)) rfl)
 have e3:(b7 (aV (av eV (aC 4 lX (aq (ao 4) (aq (ao 10) (aq (ao 13) (aq (ao 9) au))))) (av aF (ao 11) (ao 14)))) (aS (dC (.bl Θ))) ck) [a0,a1,ζ (.ref j),a3,ζ (aJ (aH N f)),a5,a6,a7,a8,ζ (.int (t:Int)),ζ (.int (o:Int)),ζ (tW (dB (kN N f) a b t)),ζ (.int u),ζ (.int (r:Int)),ζ (.int (2-(if decide (r∈cF N f o)=Δ then(1:Int)else 0)-2*(if decide ((r:Int)=(o:Int))=Δ then(1:Int)else 0)))] c1=.ok (.nx [a0,a1,ζ (.ref j),a3,ζ (aJ (aH N f)),a5,a6,a7,a8,ζ (.int (t:Int)),ζ (.int (o:Int)),ζ (tW (dB (kN N f) a b t)),ζ (.int u),ζ (.int (r:Int)),ζ (.int (2-(if decide (r∈cF N f o)=Δ then(1:Int)else 0)-2*(if decide ((r:Int)=(o:Int))=Δ then(1:Int)else 0)))]) c1:=by
  refine nO (mP (dg (f:=eV) (x:=.int (cntK N f o (dB (kN N f) a b t) r)) (y:=.int (cntK N f o (dB (kN N f) a b t) r)) ?_ (dg (f:=aF) (d1:=ao 11) (d2:=ao 14) rfl rfl (abA (dB (kN N f) a b t) c1)) ?_))
  ·exact Fp (m:=lX) (d1:=ao 4) (d2:=ao 10) (d3:=ao 13) (d4:=ao 9) rfl rfl rfl rfl (E.ways ha hb ho hr ht c1)
  ·simp
 have mD:pI [a0,a1,ζ (.ref j),a3,ζ (aJ (aH N f)),a5,a6,a7,a8,ζ (.int (t:Int)),ζ (.int (o:Int)),ζ (tW (dB (kN N f) a b t)),ζ (.int u),cD,cu] c=.ok (.nx [a0,a1,ζ (.ref j),a3,ζ (aJ (aH N f)),a5,a6,a7,a8,ζ (.int (t:Int)),ζ (.int (o:Int)),ζ (tW (dB (kN N f) a b t)),ζ (.int u),ζ (.int (r:Int)),ζ (.int (2-(if decide (r∈cF N f o)=Δ then(1:Int)else 0)-2*(if decide ((r:Int)=(o:Int))=Δ then(1:Int)else 0)))]) c1:=by
  unfold pI;rw[bI e1,bI e2,e3]
 exact⟨_,_,c1,P1,mD⟩
def p9:ah:=(b7 (aV (av ji (dC .aL) (ao 8))) (aE (aG 11 (aC 2 qe (aq (ao 8) (aq (ao 9) au)))) (bB (aZ (aq (dC (.int 3)) au)) (aA 12) (aE (aG 13 (av aF (bG (aq (ao 10) (aq (aC 2 bJ (aq (ao 2) (aq (aO bA (aq (ao 4) au)) au))) au))) (aO fq (aq (av jl (ao 12) (dC (.int 0))) au)))) (aE (aG 14 (av cA (av cA (dC (.int 2)) (aO fq (aq (av inD (ao 13) (av aF (ao 4) (ao 10))) au))) (av bN (dC (.int 2)) (aO fq (aq (av cj (ao 13) (ao 10)) au))))) (b7 (aV (av eV (aC 4 lX (aq (ao 4) (aq (ao 10) (aq (ao 13) (aq (ao 9) au))))) (av aF (ao 11) (ao 14)))) (aS (dC (.bl Θ))) ck))))) ck)
theorem YV(E:EW N f) {c:aa}(P:dS j n c) {o t:Nat}(ho:o<N) (ht:t<1000):∃(kr iw gA gy:Option D) (c':aa),p9 [a0,a1,ζ (.ref j),a3,ζ (aJ (aH N f)),a5,a6,a7,ζ (.tup [.int (N:Int),.int (kN N f:Int),cg (bY (aH N f) (bz (aH N f))),cg (bY (aH N f) (bz (cZ (aH N f))))]),ζ (.int (t:Int)),ζ (.int (o:Int)),cM,cW,cD,cu] c=.ok (.nx [a0,a1,ζ (.ref j),a3,ζ (aJ (aH N f)),a5,a6,a7,ζ (.tup [.int (N:Int),.int (kN N f:Int),cg (bY (aH N f) (bz (aH N f))),cg (bY (aH N f) (bz (cZ (aH N f))))]),ζ (.int (t:Int)),ζ (.int (o:Int)),kr,iw,gA,gy]) c':=by
 have hT:(aV (av ji (dC .aL) (ao 8))) [a0,a1,ζ (.ref j),a3,ζ (aJ (aH N f)),a5,a6,a7,ζ (.tup [.int (N:Int),.int (kN N f:Int),cg (bY (aH N f) (bz (aH N f))),cg (bY (aH N f) (bz (cZ (aH N f))))]),ζ (.int (t:Int)),ζ (.int (o:Int)),cM,cW,cD,cu] c=.ok ((bY (aH N f) (bz (aH N f))).isSome&&(bY (aH N f) (bz (cZ (aH N f)))).isSome) c:=mP (dg (f:=ji) (d1:=dC .aL) (d2:=ao 8) rfl rfl (notin_tab _ _ _ _ c));cases ha:bY (aH N f) (bz (aH N f))with
 |none =>
  have hT:(aV (av ji (dC .aL) (ao 8))) [a0,a1,ζ (.ref j),a3,ζ (aJ (aH N f)),a5,a6,a7,ζ (.tup [.int (N:Int),.int (kN N f:Int),cg η,cg (bY (aH N f) (bz (cZ (aH N f))))]),ζ (.int (t:Int)),ζ (.int (o:Int)),cM,cW,cD,cu] c=.ok Θ c:=by rw[ha]at hT;exact hT
  have mD:p9 [a0,a1,ζ (.ref j),a3,ζ (aJ (aH N f)),a5,a6,a7,ζ (.tup [.int (N:Int),.int (kN N f:Int),cg η,cg (bY (aH N f) (bz (cZ (aH N f))))]),ζ (.int (t:Int)),ζ (.int (o:Int)),cM,cW,cD,cu] c=.ok (.nx [a0,a1,ζ (.ref j),a3,ζ (aJ (aH N f)),a5,a6,a7,ζ (.tup [.int (N:Int),.int (kN N f:Int),cg η,cg (bY (aH N f) (bz (cZ (aH N f))))]),ζ (.int (t:Int)),ζ (.int (o:Int)),cM,cW,cD,cu]) c:=by
   unfold p9;exact nO hT
  exact⟨_,_,_,_,c,mD⟩
 |some a =>
  cases hb:bY (aH N f) (bz (cZ (aH N f)))with
  |none =>
   have hT:(aV (av ji (dC .aL) (ao 8))) [a0,a1,ζ (.ref j),a3,ζ (aJ (aH N f)),a5,a6,a7,ζ (.tup [.int (N:Int),.int (kN N f:Int),cg (ζ a),cg η]),ζ (.int (t:Int)),ζ (.int (o:Int)),cM,cW,cD,cu] c=.ok Θ c:=by rw[ha,hb]at hT;exact hT
   have mD:p9 [a0,a1,ζ (.ref j),a3,ζ (aJ (aH N f)),a5,a6,a7,ζ (.tup [.int (N:Int),.int (kN N f:Int),cg (ζ a),cg η]),ζ (.int (t:Int)),ζ (.int (o:Int)),cM,cW,cD,cu] c=.ok (.nx [a0,a1,ζ (.ref j),a3,ζ (aJ (aH N f)),a5,a6,a7,ζ (.tup [.int (N:Int),.int (kN N f:Int),cg (ζ a),cg η]),ζ (.int (t:Int)),ζ (.int (o:Int)),cM,cW,cD,cu]) c:=by
    unfold p9;exact nO hT
   exact⟨_,_,_,_,c,mD⟩
  |some b =>
   rw[ha,hb]at hT;have e0:(aG 11 (aC 2 qe (aq (ao 8) (aq (ao 9) au)))) [a0,a1,ζ (.ref j),a3,ζ (aJ (aH N f)),a5,a6,a7,ζ (.tup [.int (N:Int),.int (kN N f:Int),.int (a:Int),.int (b:Int)]),ζ (.int (t:Int)),ζ (.int (o:Int)),cM,cW,cD,cu] c=.ok (.nx [a0,a1,ζ (.ref j),a3,ζ (aJ (aH N f)),a5,a6,a7,ζ (.tup [.int (N:Int),.int (kN N f:Int),.int (a:Int),.int (b:Int)]),ζ (.int (t:Int)),ζ (.int (o:Int)),ζ (tW (dB (kN N f) a b t)),cW,cD,cu]) c:=iL (i:=11) (lg (m:=qe) (d1:=ao 8) (d2:=ao 9) rfl rfl (Pp (E.tb ha hb) ht c));obtain⟨e',c',⟨⟨iw,gA,gy,rfl⟩,P'⟩,hf⟩:=EV (g:=aA 12) (s:=pI) (λe c'=>(∃iw gA gy,e=[a0,a1,ζ (.ref j),a3,ζ (aJ (aH N f)),a5,a6,a7,ζ (.tup [.int (N:Int),.int (kN N f:Int),.int (a:Int),.int (b:Int)]),ζ (.int (t:Int)),ζ (.int (o:Int)),ζ (tW (dB (kN N f) a b t)),iw,gA,gy])/\dS j n c') (aT 0 3) [a0,a1,ζ (.ref j),a3,ζ (aJ (aH N f)),a5,a6,a7,ζ (.tup [.int (N:Int),.int (kN N f:Int),.int (a:Int),.int (b:Int)]),ζ (.int (t:Int)),ζ (.int (o:Int)),ζ (tW (dB (kN N f) a b t)),cW,cD,cu] c ⟨⟨_,_,_,rfl⟩,P⟩ (λx hx e c' ⟨⟨iw,gA,gy,he⟩,P'⟩=>by
    subst he;obtain⟨u,rfl,u0,u1⟩:=qd hx;obtain⟨z13,z14,c2,P2,h2⟩:=P8 (a0:=a0) (a1:=a1) (a3:=a3) (a5:=a5) (a6:=a6) (a7:=a7) (a8:=ζ (.tup [.int (N:Int),.int (kN N f:Int),.int (a:Int),.int (b:Int)])) (cD:=gA) (cu:=gy) (u:=u) E ha hb P' ho ht;exact⟨_,_,_,c2,rfl,h2,⟨_,_,_,rfl⟩,P2⟩)
   have hT:(aV (av ji (dC .aL) (ao 8))) [a0,a1,ζ (.ref j),a3,ζ (aJ (aH N f)),a5,a6,a7,ζ (.tup [.int (N:Int),.int (kN N f:Int),.int (a:Int),.int (b:Int)]),ζ (.int (t:Int)),ζ (.int (o:Int)),cM,cW,cD,cu] c=.ok Δ c:=hT;have hk:=(bI (t:=bB (aZ (aq (dC (.int 3)) au)) (aA 12) pI) e0).trans (um (g:=aA 12) (s:=pI) (vp (d:=dC (.int 3)) (q:=3) rfl (by decide)) hf)
   have mD:p9 [a0,a1,ζ (.ref j),a3,ζ (aJ (aH N f)),a5,a6,a7,ζ (.tup [.int (N:Int),.int (kN N f:Int),.int (a:Int),.int (b:Int)]),ζ (.int (t:Int)),ζ (.int (o:Int)),cM,cW,cD,cu] c=.ok (.nx [a0,a1,ζ (.ref j),a3,ζ (aJ (aH N f)),a5,a6,a7,ζ (.tup [.int (N:Int),.int (kN N f:Int),.int (a:Int),.int (b:Int)]),ζ (.int (t:Int)),ζ (.int (o:Int)),ζ (tW (dB (kN N f) a b t)),iw,gA,gy]) c':=(congrArg (λz=>R.bind z λbb c=>if bb=Δ then(aE (aG 11 (aC 2 qe (aq (ao 8) (aq (ao 9) au)))) (bB (aZ (aq (dC (.int 3)) au)) (aA 12) pI)) [a0,a1,ζ (.ref j),a3,ζ (aJ (aH N f)),a5,a6,a7,ζ (.tup [.int (N:Int),.int (kN N f:Int),.int (a:Int),.int (b:Int)]),ζ (.int (t:Int)),ζ (.int (o:Int)),cM,cW,cD,cu] c else ck [a0,a1,ζ (.ref j),a3,ζ (aJ (aH N f)),a5,a6,a7,ζ (.tup [.int (N:Int),.int (kN N f:Int),.int (a:Int),.int (b:Int)]),ζ (.int (t:Int)),ζ (.int (o:Int)),cM,cW,cD,cu] c) hT).trans hk
   exact⟨_,iw,gA,gy,c',mD⟩
theorem Pd{c:aa}(P:dS j n c) {y:Int}(y0:0<=y) (y1:y<3) (r4:Option D):∃(N:Nat) (f:Nat->Nat->Bool) (w5 w6:Option D) (c':aa),EW N f/\dS j n c'/\∀k:ah,aE (aG 4 (aC 1 l7 (aq (av bu (dC (.int 4)) (aC 2 bJ (aq (ao 2) (aq (dC (.int 4)) au)))) au))) (aE (b7 (aV (av cj (ao 3) (dC (.int 1)))) (aE (gR (aC 1 l5 (aq (ao 2) au)) (cS 2 (br (aA 5) (br (aA 6) cU)))) (aG 4 (aC 2 l8 (aq (ao 5) (aq (ao 6) au))))) ck) (aE (b7 (aV (av cj (ao 3) (dC (.int 2)))) (aG 4 (aC 1 kO (aq (av aF (bG (aq (dC (.int 5)) (aq (dC (.int 9)) (aq (dC (.int 13)) (aq (dC (.int 17)) au))))) (aC 2 bJ (aq (ao 2) (aq (dC (.int 4)) au)))) au))) ck) k)) [a0,a1,ζ (.ref j),ζ (.int y),r4,a5,a6,a7,a8,a9,fc,cM,cW,cD,cu] c=k [a0,a1,ζ (.ref j),ζ (.int y),ζ (aJ (aH N f)),w5,w6,a7,a8,a9,fc,cM,cW,cD,cu] c':=by
 obtain⟨x,c1,x0,x1,P1,t1⟩:=jD (cT:=4) P (by omega) (by omega)
 obtain⟨E1,h1⟩:=VQ (m:=4+x.toNat) (by omega) (by omega)
 have e2:(aG 4 (aC 1 l7 (aq (av bu (dC (.int 4)) (aC 2 bJ (aq (ao 2) (aq (dC (.int 4)) au)))) au))) [a0,a1,ζ (.ref j),ζ (.int y),r4,a5,a6,a7,a8,a9,fc,cM,cW,cD,cu] c=.ok (.nx [a0,a1,ζ (.ref j),ζ (.int y),ζ (aJ (aH (PP (4+x.toNat)).length (gD (PP (4+x.toNat))))),a5,a6,a7,a8,a9,fc,cM,cW,cD,cu]) c1:=by
  refine pS (i:=4) ?_;have ha:av bu (dC (.int 4)) (aC 2 bJ (aq (ao 2) (aq (dC (.int 4)) au))) [a0,a1,ζ (.ref j),ζ (.int y),r4,a5,a6,a7,a8,a9,fc,cM,cW,cD,cu] c=.ok (.int ((4+x.toNat:Nat):Int)) c1:=by
   rw[dX,show dC (.int 4) [a0,a1,ζ (.ref j),ζ (.int y),r4,a5,a6,a7,a8,a9,fc,cM,cW,cD,cu] c=.ok (.int 4) c from rfl,R.aB,sA (i:=2) (a:=dC (.int 4)) rfl rfl t1,R.aB]
   show R.ok (D.int (4+x)) c1=_;rw[show(4:Int)+x=((4+x.toNat:Nat):Int) by omega]
  exact xg (m:=l7) ha (h1 c1)
 by_cases q1:y=1
 ·obtain⟨m,ss,c2,H,P2,t2⟩:=RS P1;have hc:aV (av cj (ao 3) (dC (.int 1))) [a0,a1,ζ (.ref j),ζ (.int y),ζ (aJ (aH (PP (4+x.toNat)).length (gD (PP (4+x.toNat))))),a5,a6,a7,a8,a9,fc,cM,cW,cD,cu] c1=.ok Δ c1:=mP (dg (f:=cj) (x:=.int y) (y:=.int 1) rfl rfl (by show R.ok (D.bl (decide (y=1))) c1=_;rw[decide_eq_true q1]))
  have ea:(gR (aC 1 l5 (aq (ao 2) au)) (cS 2 (br (aA 5) (br (aA 6) cU)))) [a0,a1,ζ (.ref j),ζ (.int y),ζ (aJ (aH (PP (4+x.toNat)).length (gD (PP (4+x.toNat))))),a5,a6,a7,a8,a9,fc,cM,cW,cD,cu] c1=.ok (.nx [a0,a1,ζ (.ref j),ζ (.int y),ζ (aJ (aH (PP (4+x.toNat)).length (gD (PP (4+x.toNat))))),ζ (.int (m:Int)),ζ (.lst (cI m ss)),a7,a8,a9,fc,cM,cW,cD,cu]) c2:=by
   rw[ye,xg (m:=l5) (d1:=ao 2) rfl t2,R.aB];rfl
  have eb:(aG 4 (aC 2 l8 (aq (ao 5) (aq (ao 6) au)))) [a0,a1,ζ (.ref j),ζ (.int y),ζ (aJ (aH (PP (4+x.toNat)).length (gD (PP (4+x.toNat))))),ζ (.int (m:Int)),ζ (.lst (cI m ss)),a7,a8,a9,fc,cM,cW,cD,cu] c2=.ok (.nx [a0,a1,ζ (.ref j),ζ (.int y),ζ (aJ (aH (m*m) (cL m ss))),ζ (.int (m:Int)),ζ (.lst (cI m ss)),a7,a8,a9,fc,cM,cW,cD,cu]) c2:=iL (i:=4) (lg (m:=l8) (d1:=ao 5) (d2:=ao 6) rfl rfl (YN H rfl c2));have e3:(b7 (aV (av cj (ao 3) (dC (.int 1)))) (aE (gR (aC 1 l5 (aq (ao 2) au)) (cS 2 (br (aA 5) (br (aA 6) cU)))) (aG 4 (aC 2 l8 (aq (ao 5) (aq (ao 6) au))))) ck) [a0,a1,ζ (.ref j),ζ (.int y),ζ (aJ (aH (PP (4+x.toNat)).length (gD (PP (4+x.toNat))))),a5,a6,a7,a8,a9,fc,cM,cW,cD,cu] c1=.ok (.nx [a0,a1,ζ (.ref j),ζ (.int y),ζ (aJ (aH (m*m) (cL m ss))),ζ (.int (m:Int)),ζ (.lst (cI m ss)),a7,a8,a9,fc,cM,cW,cD,cu]) c2:=by
   rw[jz,hc,R.aB,if_pos rfl,bI ea,eb]
  have e4:(b7 (aV (av cj (ao 3) (dC (.int 2)))) (aG 4 (aC 1 kO (aq (av aF (bG (aq (dC (.int 5)) (aq (dC (.int 9)) (aq (dC (.int 13)) (aq (dC (.int 17)) au))))) (aC 2 bJ (aq (ao 2) (aq (dC (.int 4)) au)))) au))) ck) [a0,a1,ζ (.ref j),ζ (.int y),ζ (aJ (aH (m*m) (cL m ss))),ζ (.int (m:Int)),ζ (.lst (cI m ss)),a7,a8,a9,fc,cM,cW,cD,cu] c2=.ok (.nx [a0,a1,ζ (.ref j),ζ (.int y),ζ (aJ (aH (m*m) (cL m ss))),ζ (.int (m:Int)),ζ (.lst (cI m ss)),a7,a8,a9,fc,cM,cW,cD,cu]) c2:=nO (mP (dg (f:=cj) (x:=.int y) (y:=.int 2) rfl rfl (by show R.ok (D.bl (decide (y=2))) c2=_;rw[decide_eq_false (by omega)])))
  exact⟨_,_,_,_,c2,H.ew,P2,λk=>by rw[bI e2,bI e3,bI e4]⟩
 ·have e3:(b7 (aV (av cj (ao 3) (dC (.int 1)))) (aE (gR (aC 1 l5 (aq (ao 2) au)) (cS 2 (br (aA 5) (br (aA 6) cU)))) (aG 4 (aC 2 l8 (aq (ao 5) (aq (ao 6) au))))) ck) [a0,a1,ζ (.ref j),ζ (.int y),ζ (aJ (aH (PP (4+x.toNat)).length (gD (PP (4+x.toNat))))),a5,a6,a7,a8,a9,fc,cM,cW,cD,cu] c1=.ok (.nx [a0,a1,ζ (.ref j),ζ (.int y),ζ (aJ (aH (PP (4+x.toNat)).length (gD (PP (4+x.toNat))))),a5,a6,a7,a8,a9,fc,cM,cW,cD,cu]) c1:=nO (mP (dg (f:=cj) (x:=.int y) (y:=.int 1) rfl rfl (by show R.ok (D.bl (decide (y=1))) c1=_;rw[decide_eq_false q1])))
  by_cases q2:y=2
  ·obtain⟨z,c2,z0,z1,P2,t2⟩:=jD (cT:=4) P1 (by omega) (by omega)
   have hl:bG (aq (dC (.int 5)) (aq (dC (.int 9)) (aq (dC (.int 13)) (aq (dC (.int 17)) au)))) [a0,a1,ζ (.ref j),ζ (.int y),ζ (aJ (aH (PP (4+x.toNat)).length (gD (PP (4+x.toNat))))),a5,a6,a7,a8,a9,fc,cM,cW,cD,cu] c1=.ok (.lst [.int 5,.int 9,.int 13,.int 17]) c1:=Ld (k9 rfl (k9 rfl (k9 rfl (k9 rfl DL)))) (by simp)
   obtain⟨d,hd,e⟩:=JE hl (sA (i:=2) (a:=dC (.int 4)) (e:=[a0,a1,ζ (.ref j),ζ (.int y),ζ (aJ (aH (PP (4+x.toNat)).length (gD (PP (4+x.toNat))))),a5,a6,a7,a8,a9,fc,cM,cW,cD,cu]) rfl rfl t2) z0 (by simpa using z1)
   have hq:∃g∈b8,g.q % 4=1/\d=.int (g.q:Int):=by
    simp only[afT,af5,or_false]at hd;have go:∀q:Nat,(b8.any λg=>decide (g.q=q/\g.q % 4=1))=Δ->∃g∈b8,g.q % 4=1/\D.int (q:Int)=.int (g.q:Int):=λq h=>by
     obtain⟨g,hg,e⟩:=aha.mp h;have e:=of_decide_eq_true e;exact⟨g,hg,e.2,by rw[e.1]⟩
    rcases hd with rfl|rfl|rfl|rfl
    ·exact go 5 (by decide +kernel)
    ·exact go 9 (by decide +kernel)
    ·exact go 13 (by decide +kernel)
    ·exact go 17 (by decide +kernel)
   obtain⟨g,hg,g4,rfl⟩:=hq;obtain⟨E2,h2⟩:=abj hg g4;have hc:aV (av cj (ao 3) (dC (.int 2))) [a0,a1,ζ (.ref j),ζ (.int y),ζ (aJ (aH (PP (4+x.toNat)).length (gD (PP (4+x.toNat))))),a5,a6,a7,a8,a9,fc,cM,cW,cD,cu] c1=.ok Δ c1:=mP (dg (f:=cj) (x:=.int y) (y:=.int 2) rfl rfl (by show R.ok (D.bl (decide (y=2))) c1=_;rw[decide_eq_true q2]))
   have eb:(aG 4 (aC 1 kO (aq (av aF (bG (aq (dC (.int 5)) (aq (dC (.int 9)) (aq (dC (.int 13)) (aq (dC (.int 17)) au))))) (aC 2 bJ (aq (ao 2) (aq (dC (.int 4)) au)))) au))) [a0,a1,ζ (.ref j),ζ (.int y),ζ (aJ (aH (PP (4+x.toNat)).length (gD (PP (4+x.toNat))))),a5,a6,a7,a8,a9,fc,cM,cW,cD,cu] c1=.ok (.nx [a0,a1,ζ (.ref j),ζ (.int y),ζ (aJ (aH g.q (r8 g))),a5,a6,a7,a8,a9,fc,cM,cW,cD,cu]) c2:=pS (i:=4) (xg (m:=kO) e (h2 c2));have e4:(b7 (aV (av cj (ao 3) (dC (.int 2)))) (aG 4 (aC 1 kO (aq (av aF (bG (aq (dC (.int 5)) (aq (dC (.int 9)) (aq (dC (.int 13)) (aq (dC (.int 17)) au))))) (aC 2 bJ (aq (ao 2) (aq (dC (.int 4)) au)))) au))) ck) [a0,a1,ζ (.ref j),ζ (.int y),ζ (aJ (aH (PP (4+x.toNat)).length (gD (PP (4+x.toNat))))),a5,a6,a7,a8,a9,fc,cM,cW,cD,cu] c1=.ok (.nx [a0,a1,ζ (.ref j),ζ (.int y),ζ (aJ (aH g.q (r8 g))),a5,a6,a7,a8,a9,fc,cM,cW,cD,cu]) c2:=by
    rw[jz,hc,R.aB,if_pos rfl,eb]
   exact⟨_,_,_,_,c2,E2,P2,λk=>by rw[bI e2,bI e3,bI e4]⟩
  ·have e4:(b7 (aV (av cj (ao 3) (dC (.int 2)))) (aG 4 (aC 1 kO (aq (av aF (bG (aq (dC (.int 5)) (aq (dC (.int 9)) (aq (dC (.int 13)) (aq (dC (.int 17)) au))))) (aC 2 bJ (aq (ao 2) (aq (dC (.int 4)) au)))) au))) ck) [a0,a1,ζ (.ref j),ζ (.int y),ζ (aJ (aH (PP (4+x.toNat)).length (gD (PP (4+x.toNat))))),a5,a6,a7,a8,a9,fc,cM,cW,cD,cu] c1=.ok (.nx [a0,a1,ζ (.ref j),ζ (.int y),ζ (aJ (aH (PP (4+x.toNat)).length (gD (PP (4+x.toNat))))),a5,a6,a7,a8,a9,fc,cM,cW,cD,cu]) c1:=nO (mP (dg (f:=cj) (x:=.int y) (y:=.int 2) rfl rfl (by show R.ok (D.bl (decide (y=2))) c1=_;rw[decide_eq_false q2])))
   exact⟨_,_,_,_,c1,E1,P1,λk=>by rw[bI e2,bI e3,bI e4]⟩
end
def tw:ah:=aE (aG 2 (aC 1 nC (aq (aC 2 nF (aq (ao 0) (aq (ao 1) au))) au))) (aE (aG 3 (aC 2 bJ (aq (ao 2) (aq (dC (.int 3)) au)))) (aE (aG 4 (aC 1 l7 (aq (av bu (dC (.int 4)) (aC 2 bJ (aq (ao 2) (aq (dC (.int 4)) au)))) au))) (aE (b7 (aV (av cj (ao 3) (dC (.int 1)))) (aE (gR (aC 1 l5 (aq (ao 2) au)) (cS 2 (br (aA 5) (br (aA 6) cU)))) (aG 4 (aC 2 l8 (aq (ao 5) (aq (ao 6) au))))) ck) (aE (b7 (aV (av cj (ao 3) (dC (.int 2)))) (aG 4 (aC 1 kO (aq (av aF (bG (aq (dC (.int 5)) (aq (dC (.int 9)) (aq (dC (.int 13)) (aq (dC (.int 17)) au))))) (aC 2 bJ (aq (ao 2) (aq (dC (.int 4)) au)))) au))) ck) (aE (gR (aC 1 qq (aq (ao 4) au)) (cS 2 (br (aA 7) (br (aA 8) cU)))) (aE (aG 9 (aC 2 bJ (aq (ao 2) (aq (av aF (bG (aq (dC (.int 13)) (aq (dC (.int 13)) (aq (dC (.int 13)) (aq (dC (.int 25)) au))))) (aC 2 bJ (aq (ao 2) (aq (dC (.int 4)) au)))) au)))) (aE (aG 10 (aC 2 bJ (aq (ao 2) (aq (aO bA (aq (ao 4) au)) au)))) (aE (b7 (aV (av eV (ao 7) (dC (.str "even")))) (aS (dC (.bl Θ))) ck) p9))))))))
theorem VV{ns:List Int}{i:Int}(hi:0<=i) (c:aa) (v2 v3 v4 v5 v6 v7 v8 v9 v10 v11 gQ gP gO:Option D) :
  ∃e' c',(∃w1 w2 w3 w4 w5 w6 w7 w8 w9 iJ kr iw gA gy,e'=[ζ (.cH ns),w1,w2,w3,w4,w5,w6,w7,w8,w9,iJ,kr,iw,gA,gy])/\tw [ζ (.cH ns),ζ (.int i),v2,v3,v4,v5,v6,v7,v8,v9,v10,v11,gQ,gP,gO] c=.ok (.nx e') c':=by
 obtain⟨x,hx⟩:=ack ns i hi c;obtain⟨p0,hp⟩:=UQ x c;have P0:dS c.length (c.length+1) (c++[.lst [.int p0]]):=⟨by simp,by omega,p0,by simp⟩
 generalize c.length=j at hp P0
 generalize j+1=n at P0
 generalize c++[Cell.lst [.int p0]]=c0 at hp P0
 have e0:(aG 2 (aC 1 nC (aq (aC 2 nF (aq (ao 0) (aq (ao 1) au))) au))) [ζ (.cH ns),ζ (.int i),v2,v3,v4,v5,v6,v7,v8,v9,v10,v11,gQ,gP,gO] c=.ok (.nx [ζ (.cH ns),ζ (.int i),ζ (.ref j),v3,v4,v5,v6,v7,v8,v9,v10,v11,gQ,gP,gO]) c0:=pS (i:=2) (xg (m:=nC) (NY (m:=nF) (d1:=ao 0) (d2:=ao 1) rfl rfl hx) hp);obtain⟨y,c1,y0,y1,P1,t1⟩:=jD (cT:=3) P0 (by omega) (by omega)
 have e1:(aG 3 (aC 2 bJ (aq (ao 2) (aq (dC (.int 3)) au)))) [ζ (.cH ns),ζ (.int i),ζ (.ref j),v3,v4,v5,v6,v7,v8,v9,v10,v11,gQ,gP,gO] c0=.ok (.nx [ζ (.cH ns),ζ (.int i),ζ (.ref j),ζ (.int y),v4,v5,v6,v7,v8,v9,v10,v11,gQ,gP,gO]) c1:=pS (i:=3) (sA rfl rfl t1);obtain⟨N,f,w5,w6,c2,E,P2,hw⟩:=Pd (a0:=ζ (.cH ns)) (a1:=ζ (.int i)) (a5:=v5) (a6:=v6) (a7:=v7) (a8:=v8) (a9:=v9) (fc:=v10) (cM:=v11) (cW:=gQ) (cD:=gP) (cu:=gO) P1 y0 y1 v4;have lo:=E.lo;have h49:=E.hi;have hev:=abr (w:=aH N f) (Pu (by omega)) (by rw[gj];omega) c2
 rw[E.ev]at hev;have e5:(gR (aC 1 qq (aq (ao 4) au)) (cS 2 (br (aA 7) (br (aA 8) cU)))) [ζ (.cH ns),ζ (.int i),ζ (.ref j),ζ (.int y),ζ (aJ (aH N f)),w5,w6,v7,v8,v9,v10,v11,gQ,gP,gO] c2=.ok (.nx [ζ (.cH ns),ζ (.int i),ζ (.ref j),ζ (.int y),ζ (aJ (aH N f)),w5,w6,ζ (.str "even"),ζ (.tup [.int (N:Int),.int (kN N f:Int),cg (bY (aH N f) (bz (aH N f))),cg (bY (aH N f) (bz (cZ (aH N f))))]),v9,v10,v11,gQ,gP,gO]) c2:=by
  rw[ye,xg (m:=qq) (d1:=ao 4) rfl hev,R.aB];rfl
 obtain⟨z,c3,z0,z1,P3,t3⟩:=jD (cT:=4) P2 (by omega) (by omega)
 have hl:bG (aq (dC (.int 13)) (aq (dC (.int 13)) (aq (dC (.int 13)) (aq (dC (.int 25)) au)))) [ζ (.cH ns),ζ (.int i),ζ (.ref j),ζ (.int y),ζ (aJ (aH N f)),w5,w6,ζ (.str "even"),ζ (.tup [.int (N:Int),.int (kN N f:Int),cg (bY (aH N f) (bz (aH N f))),cg (bY (aH N f) (bz (cZ (aH N f))))]),v9,v10,v11,gQ,gP,gO] c2=.ok (.lst [.int 13,.int 13,.int 13,.int 25]) c2:=Ld (k9 rfl (k9 rfl (k9 rfl (k9 rfl DL)))) (by simp)
 obtain⟨d,hd,e⟩:=JE hl (sA (i:=2) (a:=dC (.int 4)) (e:=[ζ (.cH ns),ζ (.int i),ζ (.ref j),ζ (.int y),ζ (aJ (aH N f)),w5,w6,ζ (.str "even"),ζ (.tup [.int (N:Int),.int (kN N f:Int),cg (bY (aH N f) (bz (aH N f))),cg (bY (aH N f) (bz (cZ (aH N f))))]),v9,v10,v11,gQ,gP,gO]) rfl rfl t3) z0 (by simpa using z1)
 have hq:∃q:Int,0<q/\q<=25/\d=.int q:=by
  simp only[afT,af5,or_false]at hd
  rcases hd with rfl|rfl|rfl|rfl
  ·exact⟨13,by decide,by decide,rfl⟩
  ·exact⟨13,by decide,by decide,rfl⟩
  ·exact⟨13,by decide,by decide,rfl⟩
  ·exact⟨25,by decide,by decide,rfl⟩
 obtain⟨q,q0,q1,rfl⟩:=hq;obtain⟨u,c4,u0,u1,P4,t4⟩:=jD (cT:=q) P3 (by omega) (by omega)
 have e6:(aG 9 (aC 2 bJ (aq (ao 2) (aq (av aF (bG (aq (dC (.int 13)) (aq (dC (.int 13)) (aq (dC (.int 13)) (aq (dC (.int 25)) au))))) (aC 2 bJ (aq (ao 2) (aq (dC (.int 4)) au)))) au)))) [ζ (.cH ns),ζ (.int i),ζ (.ref j),ζ (.int y),ζ (aJ (aH N f)),w5,w6,ζ (.str "even"),ζ (.tup [.int (N:Int),.int (kN N f:Int),cg (bY (aH N f) (bz (aH N f))),cg (bY (aH N f) (bz (cZ (aH N f))))]),v9,v10,v11,gQ,gP,gO] c2=.ok (.nx [ζ (.cH ns),ζ (.int i),ζ (.ref j),ζ (.int y),ζ (aJ (aH N f)),w5,w6,ζ (.str "even"),ζ (.tup [.int (N:Int),.int (kN N f:Int),cg (bY (aH N f) (bz (aH N f))),cg (bY (aH N f) (bz (cZ (aH N f))))]),ζ (.int ((u.toNat:Nat):Int)),v10,v11,gQ,gP,gO]) c4:=by
  refine pS (i:=9) ?_;rw[show((u.toNat:Nat):Int)=u by omega]
  exact NY (m:=bJ) (d1:=ao 2) rfl e t4
 obtain⟨v,c5,u2,u3,P5,t5⟩:=jD (cT:=(N:Int)) P4 (by omega) (by omega)
 have e7:(aG 10 (aC 2 bJ (aq (ao 2) (aq (aO bA (aq (ao 4) au)) au)))) [ζ (.cH ns),ζ (.int i),ζ (.ref j),ζ (.int y),ζ (aJ (aH N f)),w5,w6,ζ (.str "even"),ζ (.tup [.int (N:Int),.int (kN N f:Int),cg (bY (aH N f) (bz (aH N f))),cg (bY (aH N f) (bz (cZ (aH N f))))]),ζ (.int ((u.toNat:Nat):Int)),v10,v11,gQ,gP,gO] c4=.ok (.nx [ζ (.cH ns),ζ (.int i),ζ (.ref j),ζ (.int y),ζ (aJ (aH N f)),w5,w6,ζ (.str "even"),ζ (.tup [.int (N:Int),.int (kN N f:Int),cg (bY (aH N f) (bz (aH N f))),cg (bY (aH N f) (bz (cZ (aH N f))))]),ζ (.int ((u.toNat:Nat):Int)),ζ (.int ((v.toNat:Nat):Int)),v11,gQ,gP,gO]) c5:=by
  refine pS (i:=10) ?_;rw[show((v.toNat:Nat):Int)=v by omega]
  exact sA rfl (iR (d1:=ao 4) rfl (Ln N f c4)) t5
 have e8:(b7 (aV (av eV (ao 7) (dC (.str "even")))) (aS (dC (.bl Θ))) ck) [ζ (.cH ns),ζ (.int i),ζ (.ref j),ζ (.int y),ζ (aJ (aH N f)),w5,w6,ζ (.str "even"),ζ (.tup [.int (N:Int),.int (kN N f:Int),cg (bY (aH N f) (bz (aH N f))),cg (bY (aH N f) (bz (cZ (aH N f))))]),ζ (.int ((u.toNat:Nat):Int)),ζ (.int ((v.toNat:Nat):Int)),v11,gQ,gP,gO] c5=.ok (.nx [ζ (.cH ns),ζ (.int i),ζ (.ref j),ζ (.int y),ζ (aJ (aH N f)),w5,w6,ζ (.str "even"),ζ (.tup [.int (N:Int),.int (kN N f:Int),cg (bY (aH N f) (bz (aH N f))),cg (bY (aH N f) (bz (cZ (aH N f))))]),ζ (.int ((u.toNat:Nat):Int)),ζ (.int ((v.toNat:Nat):Int)),v11,gQ,gP,gO]) c5:=nO (mP (dg (f:=eV) (x:=.str "even") (y:=.str "even") rfl rfl rfl));obtain⟨kr,iw,gA,gy,c6,e9⟩:=YV (a0:=ζ (.cH ns)) (a1:=ζ (.int i)) (a3:=ζ (.int y)) (a5:=w5) (a6:=w6) (a7:=ζ (.str "even")) (cM:=v11) (cW:=gQ) (cD:=gP) (cu:=gO) E P5 (o:=v.toNat) (t:=u.toNat) (by omega) (by omega)
 have mD:tw [ζ (.cH ns),ζ (.int i),v2,v3,v4,v5,v6,v7,v8,v9,v10,v11,gQ,gP,gO] c=.ok (.nx [ζ (.cH ns),ζ (.int i),ζ (.ref j),ζ (.int y),ζ (aJ (aH N f)),w5,w6,ζ (.str "even"),ζ (.tup [.int (N:Int),.int (kN N f:Int),cg (bY (aH N f) (bz (aH N f))),cg (bY (aH N f) (bz (cZ (aH N f))))]),ζ (.int ((u.toNat:Nat):Int)),ζ (.int ((v.toNat:Nat):Int)),kr,iw,gA,gy]) c6:=by
  unfold tw;rw[bI e0,bI e1,hw,bI e5,bI e6,bI e7,bI e8];exact e9
 exact⟨_,c6,⟨_,_,_,_,_,_,_,_,_,_,_,_,_,_,rfl⟩,mD⟩
theorem YR(ns:List Int) (hl:ns.length<=63):∃c,zD [.cH ns] []=.ok (.bl Δ) c:=by
 obtain⟨e',c',⟨w1,w2,w3,w4,w5,w6,w7,w8,w9,iJ,kr,iw,gA,gy,rfl⟩,hf⟩:=MS (g:=aA 1) (s:=tw)
  (λe=>∃w1 w2 w3 w4 w5 w6 w7 w8 w9 iJ kr iw gA gy,e=[ζ (.cH ns),w1,w2,w3,w4,w5,w6,w7,w8,w9,iJ,kr,iw,gA,gy]) (aT 0 4) [ζ (.cH ns),η,η,η,η,η,η,η,η,η,η,η,η,η,η] [] ⟨_,_,_,_,_,_,_,_,_,_,_,_,_,_,rfl⟩ (λt ht e c ⟨w1,w2,w3,w4,w5,w6,w7,w8,w9,iJ,kr,iw,gA,gy,he⟩=>by
   subst he;obtain⟨i,rfl,i0,i1⟩:=qd ht;obtain⟨e',c',ie,ho⟩:=VV (ns:=ns) i0 c w2 w3 w4 w5 w6 w7 w8 w9 iJ kr iw gA gy;exact⟨_,e',_,c',rfl,ho,ie⟩)
 have hb2:xy=aE (bB (aZ (aq (dC (.int 4)) au)) (aA 1) tw) (aS (dC (.bl Δ))):=rfl;have es:dI 15 [D.cH ns]=[ζ (.cH ns),η,η,η,η,η,η,η,η,η,η,η,η,η,η]:=rfl;have e1:=um (g:=aA 1) (s:=tw) (vp (d:=dC (.int 4)) (e:=[ζ (.cH ns),η,η,η,η,η,η,η,η,η,η,η,η,η,η]) (c:=[]) (q:=4) rfl (by decide)) hf
 have fin:xy (dI 15 [.cH ns]) []=.ok (.rt (.bl Δ)) c':=by
  rw[es,hb2,bI e1];rfl
 exact⟨_,Tj fin rfl (λk h=>by cases h)⟩
end Ev
namespace Ev
open PySem L2 PyProof.Rows
theorem all_mk{l:aaC}{w:χ}{K:ξ}{h:υ}{mg:Str->Option Γ}{fa:Ξ}{oF jN oG rA mH om kc ou qH qK oi oj oq oJ rB mG rC rD rq qL rE qF qI qN qE qG qM qJ oH rj qU f6 oz qV kY oE jM oA kg oB qX qT qO qS kZ qZ qR qP qY qW qQ rm:Ξ}(X:K.In h) (G:h.Ns μ mg) (EG:mg "law"=ζ (.ref fa))
  (GB:FA K "is_whole" CV oF)
  (GA:FA K "is_whole_within" CU jN)
  (GD:FA K "is_place" CY oG)
  (GF:FA K "is_field" CZ rA)
  (F3:FA K "require_field" Cq mH)
  (F1:FA K "require_things" Co om)
  (F0:FA K "row_of" Cn kc)
  (F5:FA K "number_of" Cr ou)
  (FT:FA K "taken" Cg qH)
  (FZ:FA K "row_where" Cm qK)
  (FL:FA K "web_where" Cb oi)
  (FQ:FA K "ties" Cf oj)
  (F4:FA K "other_web" yG oq)
  (GL:FA K "common" C4 oJ)
  (GG:FA K "first_unlike_place" C0 rB)
  (FY:FA K "shared_by_all" Ck mG)
  (GH:FA K "first_unlike_pair" C1 rC)
  (GJ:FA K "evenness" C2 rD)
  (GC:FA K "is_table" CW rq)
  (F2:FA K "require_table" Cp qL)
  (GK:FA K "counts_after_step" C3 rE)
  (FO:FA K "ways_between" Cd qF)
  (FU:FA K "step_rows" Ci qI)
  (F7:FA K "met" Ct qN)
  (FN:FA K "ways_by" Cc qE)
  (FP:FA K "times_letter" Ce qG)
  (F6:FA K "multiplied" Cs qM)
  (FW:FA K "squares_in" Cj qJ)
  (GI:FA K "field_web" yH oH)
  (Gy:FA K "_law_cell_at" CS rj)
  (Gm:FA K "_law_pot" CH qU)
  (F9:FA K "_law_take" Cv f6)
  (F8:FA K "_law_web_by" Cu oz)
  (Gn:FA K "_law_pairs_web" CI qV)
  (Gk:FA K "_law_prime" CG kY)
  (Gw:FA K "_law_degree" CP oE)
  (Gh:FA K "_law_row" CC jM)
  (Gq:FA K "_law_number" CK oA)
  (Ga:FA K "_law_sums_product" Cw kg)
  (Gs:FA K "_law_heads" CM oB)
  (Gu:FA K "_law_form" CN qX)
  (Gj:FA K "_law_product" CF qT)
  (Gb:FA K "_law_sum" Cy qO)
  (Gi:FA K "_law_products_of" CD qS)
  (Gp:FA K "_law_order" CJ kZ)
  (Gx:FA K "_law_cycled" CQ qZ)
  (Gg:FA K "_law_six" CB qR)
  (Ge:FA K "_law_square" Cz qP)
  (Gv:FA K "_law_field_squares" CO qY)
  (Gr:FA K "_law_net" CL qW)
  (Gf:FA K "_law_some_net" CA qQ)
  (Gz:FA K "law" CT rm)
  (BD:τ K μ "any"=ζ η)
  (BC:τ K μ "bool"=ζ η)
  (BB:τ K μ "enumerate"=ζ η)
  (BA:τ K μ "int"=ζ η)
  (By:τ K μ "isinstance"=ζ η)
  (Bx:τ K μ "len"=ζ η)
  (Bw:τ K μ "list"=ζ η)
  (Bv:τ K μ "max"=ζ η)
  (Bu:τ K μ "range"=ζ η)
  (Bt:τ K μ "reversed"=ζ η)
  (Bs:τ K μ "set"=ζ η)
  (Br:τ K μ "sorted"=ζ η)
  (Bq:τ K μ "sum"=ζ η)
  (Bp:τ K μ "tuple"=ζ η)
  (Bo:τ K μ "zip"=ζ η)
  {uW:Tok}(BF:τ K μ "LEAST_PLACES"=ζ (ζ (.int 3 uW)))
  {uV:Tok}(BE:τ K μ "MOST_COUNTED"=ζ (ζ (.int 100 uV)))
  {pe:Ξ}(xZ:τ K μ "FIELDS"=ζ (ζ (.ref pe))) (BP:rG K pe ko=Δ)
  {m7 mZ:Ξ}(pK:PySem.W.tabIn K "field_web"=ζ (m7,mZ)) (su:PySem.W.codeHdIn K m7 mZ=Δ)
  {m5 mY:Ξ}(pJ:PySem.W.tabIn K "other_web"=ζ (m5,mY)) (sj:PySem.W.codeHdIn K m5 mY=Δ)
  (pL:uY K=Δ)
  : ∃fd:aag,(∀(s:Ψ) (v:Γ),aaF s fd ⟨[v],[]⟩ [("script",v)])/\∀base:υ,K.In base->base.Ns μ mg->bL l.prog w K mg base bC 11 fa fd ["script"] (bU K 1 zD):=by
 let T:Tx K mg:={
  oF:=cG X G GB,
  jN:=cG X G GA,
  oG:=cG X G GD,
  rA:=cG X G GF,
  mH:=cG X G F3,
  om:=cG X G F1,
  kc:=cG X G F0,
  ou:=cG X G F5,
  qH:=cG X G FT,
  qK:=cG X G FZ,
  oi:=cG X G FL,
  oj:=cG X G FQ,
  oq:=cG X G F4,
  oJ:=cG X G GL,
  rB:=cG X G GG,
  mG:=cG X G FY,
  rC:=cG X G GH,
  rD:=cG X G GJ,
  rq:=cG X G GC,
  qL:=cG X G F2,
  rE:=cG X G GK,
  qF:=cG X G FO,
  qI:=cG X G FU,
  qN:=cG X G F7,
  qE:=cG X G FN,
  qG:=cG X G FP,
  qM:=cG X G F6,
  qJ:=cG X G FW,
  oH:=cG X G GI,
  rj:=cG X G Gy,
  qU:=cG X G Gm,
  f6:=cG X G F9,
  oz:=cG X G F8,
  qV:=cG X G Gn,
  kY:=cG X G Gk,
  oE:=cG X G Gw,
  jM:=cG X G Gh,
  oA:=cG X G Gq,
  kg:=cG X G Ga,
  oB:=cG X G Gs,
  qX:=cG X G Gu,
  qT:=cG X G Gj,
  qO:=cG X G Gb,
  qS:=cG X G Gi,
  kZ:=cG X G Gp,
  qZ:=cG X G Gx,
  qR:=cG X G Gg,
  qP:=cG X G Ge,
  qY:=cG X G Gv,
  qW:=cG X G Gr,
  qQ:=cG X G Gf,
  rm:=cG X G Gz,
  K2:=agE X G BD,
  K1:=agE X G BC,
  DT:=agE X G BB,
  vO:=agE X G BA,
  zz:=agE X G By,
  ee:=agE X G Bx,
  DS:=agE X G Bw,
  K0:=agE X G Bv,
  cR:=agE X G Bu,
  DR:=agE X G Bt,
  vN:=agE X G Bs,
  zy:=agE X G Br,
  DQ:=agE X G Bq,
  iX:=agE X G Bp,
  tO:=agE X G Bo,
  uW:=uW,MJ:=aiB X G BF,
  uV:=uV,MI:=aiB X G BE,
  pe:=pe,uf:=aiB X G xZ,DV:=xZ,sC:=BP,
  m7:=m7,mZ:=mZ,pK:=pK,su:=su,
  m5:=m5,mY:=mY,pJ:=pJ,sj:=sj,
  pL:=pL}
 exact YQ T.rm EG λbase=>WX T
theorem walk{l:aaC}{q:π}{loose:List Str}{XP:(Str->Option Γ)->υ->Prop}{YP:χ->υ->Prop}{d:DefRec}{K:Params->ξ}{ts:List (Ξ×Ξ)}(hn:l.most=ζ 63) (hdf:d.params.defaults=[])
  (hY:∀(w:χ) (h:υ),YP w h->(K w.params).In h/\∀q∈ts,h.get? q.2=ζ (PySem.W.tabObj #[]))
  (hK:∀p,(ts.all λq=>PySem.W.codeHdIn (K p) q.1 q.2)=Δ/\PySem.W.noTabs (K p)=Δ/\BS (K p) ts=Δ)
  (F:∀(w:χ) (mg:Str->Option Γ) (fa:Ξ) (h:υ),(K w.params).In h->h.Ns μ mg->mg d.name=ζ (.ref fa) ->
   ∃fd:aag,(∀(s:Ψ) (u:Γ),aaF s fd ⟨[u],[]⟩ [("script",u)])/\∀base:υ,(K w.params).In base->base.Ns μ mg->bL l.prog w (K w.params) mg base bC 11 fa fd ["script"] (bU (K w.params) 1 zD)) :
  PySem.W.WalkO q loose XP YP l.row.toRowW d [] (λf vs=>PySem.call f vs) :=
 L2.Pr (n:=63) (k:=11) (x:="script") hn (by decide) hdf ⟨rfl,by decide,by decide⟩ hY hK F YR
end Ev
noncomputable 
def PySem.W.Fast.tw1005551072597140453:Nat:=0
noncomputable def PySem.W.Fast.tw15760965995532829032:Nat:=0
noncomputable def PySem.W.Fast.tw10314306655737332693:Nat:=0
noncomputable def PySem.W.Fast.tw16789527260103984112:Nat:=0
noncomputable def PySem.W.Fast.tw16382596649465757677:Nat:=0
noncomputable def PySem.W.Fast.tw8517625512028024789:Nat:=0
noncomputable def PySem.W.Fast.tw14495176010255954272:Nat:=0
noncomputable def PySem.W.Fast.tw10252687667516077588:Nat:=0
noncomputable def PySem.W.Fast.tw13378167310660347080:Nat:=0
noncomputable def PySem.W.Fast.tw9856338193049642801:Nat:=0
noncomputable def PySem.W.Fast.tw5304768790949339233:Nat:=0
noncomputable def PySem.W.Fast.tw16286366827747163887:Nat:=0
noncomputable def PySem.W.Fast.tw7565483331461423421:Nat:=0
noncomputable def PySem.W.Fast.tw1792437315597802145:Nat:=0
noncomputable def PySem.W.Fast.tw3113852062626959735:Nat:=0
noncomputable def PySem.W.Fast.tw7818709428893040064:Nat:=0
noncomputable def PySem.W.Fast.tw3731649836725197324:Nat:=0
noncomputable def PySem.W.Fast.tw3366480769046209076:Nat:=0
noncomputable def PySem.W.Fast.tw3036958596229381146:Nat:=0
noncomputable def PySem.W.Fast.tw13251276391472253782:Nat:=0
noncomputable def PySem.W.Fast.tw12403815338354113917:Nat:=0
noncomputable def PySem.W.Fast.tw9133071047952972389:Nat:=0
noncomputable def PySem.W.Fast.tw16169582867038027822:Nat:=0
noncomputable def PySem.W.Fast.tw9247272848473654895:Nat:=0
noncomputable def PySem.W.Fast.tw6604819022724779863:Nat:=0
noncomputable def PySem.W.Fast.tw8363852517176565136:Nat:=0
noncomputable def PySem.W.Fast.tw18088877603428322016:Nat:=0
noncomputable def PySem.W.Fast.tw9791026120115806043:Nat:=0
noncomputable def PySem.W.Fast.tw445795766322669709:Nat:=0
noncomputable def PySem.W.Fast.tw13997078949946731543:Nat:=0
noncomputable def PySem.W.Fast.tw3730031902658424997:Nat:=0
noncomputable def PySem.W.Fast.tw7225181496343224957:Nat:=0
noncomputable def PySem.W.Fast.tw9624051375431418347:Nat:=0
noncomputable def PySem.W.Fast.tw16711554861384527924:Nat:=0
noncomputable def PySem.W.Fast.tw18347252024973283180:Nat:=0
noncomputable def PySem.W.Fast.tw12758219360378559598:Nat:=0
noncomputable def PySem.W.Fast.tw1618679063398792523:Nat:=0
noncomputable def PySem.W.Fast.tw2416263333829552251:Nat:=0
noncomputable def PySem.W.Fast.tw16560869471504605831:Nat:=0
noncomputable def PySem.W.Fast.tw10682627827320593609:Nat:=0
noncomputable def PySem.W.Fast.tw12205926952712045053:Nat:=0
noncomputable def PySem.W.Fast.tw13461799033682600869:Nat:=0
noncomputable def PySem.W.Fast.tw13064725660059117453:Nat:=0
noncomputable def PySem.W.Fast.tw4824358667953665207:Nat:=0
noncomputable def PySem.W.Fast.tw17314691159058708621:Nat:=0
noncomputable def PySem.W.Fast.tw9098403789356057668:Nat:=0
noncomputable def PySem.W.Fast.tw16374331934500976818:Nat:=0
noncomputable def PySem.W.Fast.tw9949545318620613213:Nat:=0
noncomputable def PySem.W.Fast.tw259185198493088645:Nat:=0
noncomputable def PySem.W.Fast.tw8812588687643062352:Nat:=0
noncomputable def PySem.W.Fast.tw10611693414599393809:Nat:=0
noncomputable def PySem.W.Fast.tw12427857756955134624:Nat:=0
noncomputable def PySem.W.Fast.tw10573392032996712632:Nat:=0
noncomputable def PySem.W.Fast.tw3640077342983493215:Nat:=0
noncomputable def PySem.W.Fast.tw9515319967776567888:Nat:=0
noncomputable def PySem.W.Fast.tw7866452594936861647:Nat:=0
noncomputable def PySem.W.Fast.tw9447500942954640628:Nat:=0
noncomputable def PySem.W.Fast.tw10543720762689603509:Nat:=0
open PySem PySem.W PyProof.Rows
set_option maxRecDepth 100000 in
set_option maxHeartbeats 0 in
theorem PySem.Challenge.cw_evenwebs_k35_whole_ways_of_even_webs_holds : PySem.Challenge.rw_evenwebs_k35_whole_ways_of_even_webs.Holds := by
  w_on; o_law; k_head; (case hw => w_witness2)
  k_fill
  refine Ev.walk (l := PySem.Challenge.rw_evenwebs_k35_whole_ways_of_even_webs) (ts := [(280, 276), (117, 113)]) rfl rfl (fun w h Y => ⟨PySem.W.km_in_of Y, akP.mpr ⟨akQ Y _ (by first | k_mem | decide), akP.mpr ⟨akQ Y _ (by first | k_mem | decide), fun _ h => nomatch h⟩⟩⟩) (fun p => ⟨by kernel_rfl, by kernel_rfl, by kernel_rfl⟩) ?F
  case F =>
    intro w mg fa h KX G hmg
    refine' Ev.all_mk (m7 := 280) (mZ := 276) (m5 := 117) (mY := 113) KX G hmg ?GB ?GA ?GD ?GF ?F3 ?F1 ?F0 ?F5 ?FT ?FZ ?FL ?FQ ?F4 ?GL ?GG ?FY ?GH ?GJ ?GC ?F2 ?GK ?FO ?FU ?F7 ?FN ?FP ?F6 ?FW ?GI ?Gy ?Gm ?F9 ?F8 ?Gn ?Gk ?Gw ?Gh ?Gq ?Ga ?Gs ?Gu ?Gj ?Gb ?Gi ?Gp ?Gx ?Gg ?Ge ?Gv ?Gr ?Gf ?Gz ?BD ?BC ?BB ?BA ?By ?Bx ?Bw ?Bv ?Bu ?Bt ?Bs ?Br ?Bq ?Bp ?Bo ?BF ?BE ?xZ ?BP ?pK ?su ?pJ ?sj ?pL
    case GB | GA | GD | GF | F3 | F1 | F0 | F5 | FT | FZ | FL | FQ | F4 | GL | GG | FY | GH | GJ | GC | F2 | GK | FO | FU | F7 | FN | FP | F6 | FW | GI | Gy | Gm | F9 | F8 | Gn | Gk | Gw | Gh | Gq | Ga | Gs | Gu | Gj | Gb | Gi | Gp | Gx | Gg | Ge | Gv | Gr | Gf | Gz =>
      refine' L2.FA.mk ?_ ?_ ?_ ?_
      any_goals k_is
    case BD|BC|BB|BA|By|Bx|Bw|Bv|Bu|Bt|Bs|Br|Bq|Bp|Bo|BF|BE|xZ=>k_is
    (case BP => kernel_rfl)
    (case pK => kernel_rfl)
    (case su => kernel_rfl)
    (case pJ => kernel_rfl)
    (case sj => kernel_rfl)
    (case pL => kernel_rfl)
